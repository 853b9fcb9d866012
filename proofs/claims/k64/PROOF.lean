import PyProof.Rows.All
import Wide.All
import OpenK.AllK
import Wide.FinOn
import Lean
import PyProof.EqAt
import PyProof.EqKinds
import PyProof.TupleCall
import KE.KRevIter
import PyProof.EnumStmt
import PyProof.EnumFor
import PyProof.EnumMake
import PyProof.Rows.SeqMore
import KE.KDictList
import KE.KMinKey
import PyProof.WalkInts
import PyProof.Rows.CallKwBuiltin
import PyProof.MeetsSeq
import PyProof.Rows.SetFrom
import PyProof.SetRoads
import PyProof.ZipIter
import PyProof.WalksMore
import PyProof.StrBlock2
import PyProof.StrBlockL
import PyProof.MeetsStr3
import PyProof.ListMulRoad
import PyProof.NeKinds
import PyProof.IsRules
import PyProof.ConsumeWalk
import PyProof.SumAny
import KE.KIntText
import PyProof.StrWalks
import PyProof.CallRoads3
import PyProof.StrLawsTight
import PyProof.StrLawsIdx
import PyProof.StrLawsIn
import PyProof.Rows.StrItems
import PyProof.StrLawsChain
import PySem.Challenge.RW_spentonce_k64_blocks
set_option Elab.async false
set_option linter.all false
set_option maxRecDepth 100000
set_option maxHeartbeats 4000000
namespace L2
open PySem PySem.Spec PyProof.Rows
noncomputable abbrev Key:=Sum Int Str
noncomputable def keyIs:Key→Value→Bool
  | .inl k,v=>Value.isInt k v
  | .inr x,v=>Value.isStrOf x v
noncomputable def keyH (w:World):Key→Int
  | .inl k=>hashInt k
  | .inr x=>hashStr w x
theorem keyIs_shape:∀ {k:Key} {v:Value},keyIs k v = true→(∃ i t,k = Sum.inl i∧v = Value.int i t) ∨ (∃ x t,k = Sum.inr x∧v = Value.str x t)
  | .inl i,v,h=>by
    obtain ⟨t,e⟩:=Value.isInt_shape (k:=i) (v:=v) h
    exact .inl ⟨i,t,rfl,e⟩
  | .inr x,v,h=>by
    obtain ⟨t,e⟩:=Value.isStrOf_shape (x:=x) (v:=v) h
    exact .inr ⟨x,t,rfl,e⟩
theorem keyIs_int (i:Int) (t:Tok):keyIs (.inl i) (.int i t) = true:=by simp [keyIs,Value.isInt]
theorem keyIs_str (x:Str) (t:Tok):keyIs (.inr x) (.str x t) = true:=by simp [keyIs,Value.isStrOf]
theorem key_ll (a b:Int):decide ((Sum.inl a:Key) = Sum.inl b) = (a == b):=by
  by_cases e:a = b
  · subst e; simp
  · have h:¬ (Sum.inl a:Key) = Sum.inl b:=fun q=>e (Sum.inl.inj q)
    rw [decide_eq_false h]
    exact (beq_eq_false_iff_ne.mpr e).symm
theorem key_rr (a b:Str):decide ((Sum.inr a:Key) = Sum.inr b) = decide (a = b):=by
  by_cases e:a = b
  · subst e; simp
  · have h:¬ (Sum.inr a:Key) = Sum.inr b:=fun q=>e (Sum.inr.inj q)
    rw [decide_eq_false h,decide_eq_false e]
theorem key_lr (a:Int) (b:Str):decide ((Sum.inl a:Key) = Sum.inr b) = false:=decide_eq_false (fun q=>nomatch q)
theorem key_rl (a:Str) (b:Int):decide ((Sum.inr a:Key) = Sum.inl b) = false:=decide_eq_false (fun q=>nomatch q)
noncomputable def mixKind (prog:Program) (w:World):PySem.KeyKind prog w Key where
  is:=keyIs
  hash:=keyH w
  inj:=fun v a b ha hb=>by
    rcases keyIs_shape ha with ⟨i,t,rfl,rfl⟩ | ⟨x,t,rfl,rfl⟩
    · rcases keyIs_shape hb with ⟨j,u,rfl,e⟩ | ⟨y,u,rfl,e⟩
      · injection e with e1 _; rw [e1]
      · exact nomatch e
    · rcases keyIs_shape hb with ⟨j,u,rfl,e⟩ | ⟨y,u,rfl,e⟩
      · exact nomatch e
      · injection e with e1 _; rw [e1]
  byValue:=fun k v h=>by
    rcases keyIs_shape h with ⟨i,t,rfl,rfl⟩ | ⟨x,t,rfl,rfl⟩<;>rfl
  pyHash:=fun hv h=>by
    rcases keyIs_shape hv with ⟨i,t,rfl,rfl⟩ | ⟨x,t,rfl,rfl⟩
    · exact wpAny_pyHash_int h
    · exact wpAny_pyHash_str h
  eqBool:=fun hu hv h=>by
    rcases keyIs_shape hu with ⟨i,t,rfl,rfl⟩ | ⟨x,t,rfl,rfl⟩
    · rcases keyIs_shape hv with ⟨j,u,rfl,rfl⟩ | ⟨y,u,rfl,rfl⟩
      · rw [key_ll] at h; exact wpAny_eqBool_int h
      · rw [key_lr] at h; exact SeqAt.EqAt.int_str i t y u _ _ _ _ h
    · rcases keyIs_shape hv with ⟨j,u,rfl,rfl⟩ | ⟨y,u,rfl,rfl⟩
      · rw [key_rl] at h; exact SeqAt.EqAt.str_int x t j u _ _ _ _ h
      · rw [key_rr] at h; exact wpAny_eqBool_str h
  «strs»:=fun k x t v h=>by
    rcases keyIs_shape h with ⟨i,u,rfl,e⟩ | ⟨y,u,rfl,e⟩
    · exact nomatch e
    · injection e with e1 _
      subst e1
      cases v<;>rfl
theorem mixKind_int (prog:Program) (w:World) (i:Int) (t:Tok):(mixKind prog w).is (.inl i) (.int i t) = true:=keyIs_int i t
theorem mixKind_str (prog:Program) (w:World) (x:Str) (t:Tok):(mixKind prog w).is (.inr x) (.str x t) = true:=keyIs_str x t
end L2
namespace L2
open PySem PySem.Spec PyProof.Rows
inductive V where
  | non | bl (b:Bool) | int (i:Int) | str (x:Str) | byt (b:Array UInt8) | flt (b:UInt64) | ref (a:Addr) | ty (n:String)
  deriving DecidableEq
noncomputable def RelV:V→Value→Prop
  | .non,u=>u = Value.none
  | .bl b,u=>u = Value.bool b
  | .int i,u=>∃ t,u = Value.int i t
  | .str x,u=>∃ t,u = Value.str x t
  | .byt b,u=>∃ t,u = Value.bytes b t
  | .flt b,u=>∃ t,u = Value.float b t
  | .ref a,u=>u = Value.ref a
  | .ty n,u=>u = Value.type n
noncomputable abbrev Vals:List V→List Value→Prop:=Paired RelV
theorem Vals.length {xs:List V} {us:List Value} (r:Vals xs us):xs.length = us.length:=Paired.length r
theorem Vals.get:∀ {xs:List V} {us:List Value} {i:Nat} {x:V},Vals xs us→xs[i]? = some x→∃ u,us[i]? = some u∧RelV x u
  | _,_,_,_,.nil,e=>by simp at e
  | _,_,0,_,.cons r _,e=>by simp at e; subst e; exact ⟨_,rfl,r⟩
  | _,_,i + 1,x,.cons _ t,e=>by
    obtain ⟨u,h1,h2⟩:=Vals.get (i:=i) (x:=x) t (by simpa using e)
    exact ⟨u,by simpa using h1,h2⟩
theorem Vals.set {x:V} {u:Value} (r:RelV x u):∀ {xs:List V} {us:List Value} (i:Nat),Vals xs us→Vals (xs.set i x) (us.set i u)
  | _,_,_,.nil=>.nil
  | _,_,0,.cons _ t=>.cons r t
  | _,_,i + 1,.cons q t=>.cons q (Vals.set r i t)
theorem Vals.append:∀ {xs ys:List V} {us ws:List Value},Vals xs us→Vals ys ws→Vals (xs ++ ys) (us ++ ws)
  | _,_,_,_,.nil,s=>s
  | _,_,_,_,.cons r t,s=>.cons r (Vals.append t s)
theorem Vals.take:∀ {xs:List V} {us:List Value} (n:Nat),Vals xs us→Vals (xs.take n) (us.take n)
  | _,_,0,_=>.nil
  | _,_,_ + 1,.nil=>.nil
  | _,_,n + 1,.cons r t=>.cons r (Vals.take n t)
theorem Vals.drop:∀ {xs:List V} {us:List Value} (n:Nat),Vals xs us→Vals (xs.drop n) (us.drop n)
  | _,_,0,r=>r
  | _,_,_ + 1,.nil=>.nil
  | _,_,n + 1,.cons _ t=>Vals.drop n t
noncomputable def RelO:Option V→Option Value→Prop
  | some v,some u=>RelV v u
  | none,none=>True
  | _,_=>False
noncomputable def KV {κ:Type}:List (κ × V)→List (κ × Value)→Prop:=Paired fun (p:κ × V) (q:κ × Value)=>p.1 = q.1∧RelV p.2 q.2
noncomputable def kV:Key→V
  | .inl i=>.int i
  | .inr x=>.str x
inductive HO where
  | lst (xs:List V)
  | tup (xs:List V)
  | dK (kvs:List (Key × V)) | dT (kvs:List (List Key × V))
  | set (S:Int→Bool) (n:Nat)
  | ins (C dx:Addr) (fs:List (Str × V))
  | own (x:Addr)
  | xd (fs:List (Str × V))
  | met (f x:Addr)
  | rng (lo hi:Int)
  | frz (o:Obj) (u:HO)
  | tbl (ps:Array Value)
  | ext (φ:Heap→Prop)
noncomputable abbrev Hp:=Addr→Option HO
noncomputable def upd (H:Hp) (a:Addr) (o:HO):Hp:=fun b=>if b = a then some o else H b
theorem upd_same {H:Hp} {a:Addr} {o:HO}:upd H a o a = some o:=by unfold upd; rw [if_pos rfl]
theorem upd_ne {H:Hp} {a b:Addr} {o:HO} (h:b ≠ a):upd H a o b = H b:=by unfold upd; rw [if_neg h]
theorem ne_of {H:Hp} {a b:Addr} {o u:HO} (h:H a = some o) (h':H b = some u) (d:o ≠ u):a ≠ b:=by
  intro e; subst e; rw [h] at h'; exact d (Option.some.inj h')
theorem ne_of_none {H:Hp} {a b:Addr} {o:HO} (h:H a = some o) (h':H b = none):a ≠ b:=by
  intro e; subst e; rw [h] at h'; cases h'
section
variable (P:Program) (w:World)
noncomputable def ObjOk (H:Hp) (h:Heap) (a:Addr):HO→Prop
  | .lst xs=>xs.length ≤ sizeLine∧∃ (its:List Value) (n:Nat),Vals xs its∧h.get? a = some { cls:=.type "list",data:=.seq its.toArray n }
  | .tup xs=>xs.length ≤ sizeLine∧∃ its:List Value,Vals xs its∧IsTup h a its.toArray
  | .dK kvs=>kvs.length ≤ sizeLine∧(a == sysModules) = false∧∃ vs,KV kvs vs∧h.DictOf (mixKind P w) a vs
  | .dT kvs=>kvs.length ≤ sizeLine∧(a == sysModules) = false∧∃ xs:List (List Key × Addr × Value),
      Paired (fun (p:List Key × V) (q:List Key × Addr × Value)=>p.1 = q.1∧H q.2.1 = some (.tup (p.1.map kV))∧RelV p.2 q.2.2) kvs xs ∧
      ∃ o es ep,h.get? a = some o∧o.ExactDict∧o.data = .dict es ep∧es.toList = xs.map (entryOfKey (tupleKind (mixKind P w)))∧(xs.map (·.1)).Nodup
  | .set S n=>h.SetOf (intKind P w) a S n
  | .ins C dx fs=>H dx = some (.own a)∧fs.length ≤ 1000∧dx ≠ a∧h.get? a = some (PySem.W.instObj C dx) ∧
      ∃ mA,h.Ns1 dx mA∧(∀ f,RelO (fs.lookup f) (mA f))∧PySem.Within mA (fs.map (·.1))
  | .own _=>∃ o,h.get? a = some o
  | .xd fs=>∃ mA,h.Ns1 a mA∧∀ f,RelO (fs.lookup f) (mA f)
  | .rng lo hi=>∃ t u v,h.get? a = some { cls:=.type "range",data:=.fields #[.int lo t,.int hi u,.int 1 v] }
  | .frz o u=>h.get? a = some o∧ObjOk H h a u
  | .tbl ps=>h.get? a = some { cls:=.none,data:=.fields ps }
  | .met f x=>h.get? a = some (PySem.W.methodObj (.ref f) (.ref x))
  | .ext φ=>φ h∧(∃ o,h.get? a = some o)∧∀ h1 h2:Heap,φ h1→(∀ o,h1.get? a = some o→h2.get? a = some o)→φ h2
noncomputable def HOk (H:Hp) (h:Heap):Prop:=∀ a o,H a = some o→ObjOk P w H h a o
end
section
variable {P:Program} {w:World} {H H':Hp} {h h':Heap} {a:Addr} {o:HO}
theorem ObjOk.lt (x:ObjOk P w H h a o):a < h.objs.size:=by
  cases o with
  | lst xs=>obtain ⟨_,_,_,_,e⟩:=x; exact Heap.lt_size e
  | tup xs=>obtain ⟨_,_,_,p⟩:=x; exact p.lt
  | dK kvs=>obtain ⟨_,_,_,_,o,_,_,e,_⟩:=x; exact Heap.lt_size e
  | dT kvs=>obtain ⟨_,_,_,_,o,_,_,e,_⟩:=x; exact Heap.lt_size e
  | set S n=>obtain ⟨o,_,_,_,e,_⟩:=x; exact Heap.lt_size e
  | ins C dx fs=>obtain ⟨_,_,_,e,_⟩:=x; exact Heap.lt_size e
  | own y=>obtain ⟨_,e⟩:=x; exact Heap.lt_size e
  | xd fs=>obtain ⟨_,⟨_,_,_,e,_⟩,_⟩:=x; exact Heap.lt_size e
  | rng lo hi=>obtain ⟨_,_,_,e⟩:=x; exact Heap.lt_size e
  | frz ob u=>obtain ⟨e,_⟩:=x; exact Heap.lt_size e
  | tbl ps=>exact Heap.lt_size (show h.get? a = some _ from x)
  | met f y=>exact Heap.lt_size (show h.get? a = some _ from x)
  | ext φ=>obtain ⟨_,⟨_,e⟩,_⟩:=x; exact Heap.lt_size e
theorem Paired.mapP {α β:Type} {F G:α→β→Prop}:∀ {l₁:List α} {l₂:List β},Paired F l₁ l₂→(∀ a b,F a b→G a b)→Paired G l₁ l₂
  | _,_,.nil,_=>.nil
  | _,_,.cons r t,f=>.cons (f _ _ r) (Paired.mapP t f)
theorem ObjOk.stay (x:ObjOk P w H h a o) (k:∀ b u,(b = a ∨ H b = some (.own a))→h.get? b = some u→h'.get? b = some u)
    (ho:∀ b,H b = some (.own a)→H' b = some (.own a)) (ht:∀ b xs,H b = some (.tup xs)→H' b = some (.tup xs)):ObjOk P w H' h' a o:=by
  induction o with
  | lst xs=>obtain ⟨z,its,n,r,e⟩:=x; exact ⟨z,its,n,r,k _ _ (.inl rfl) e⟩
  | tup xs=>obtain ⟨z,its,r,ob,e,c⟩:=x; exact ⟨z,its,r,ob,k _ _ (.inl rfl) e,c⟩
  | dK kvs=>obtain ⟨z,y,vs,r,ob,es,ep,e,c⟩:=x; exact ⟨z,y,vs,r,ob,es,ep,k _ _ (.inl rfl) e,c⟩
  | dT kvs =>
    obtain ⟨z,y,xs,r,ob,es,ep,e,c⟩:=x
    exact ⟨z,y,xs,Paired.mapP r fun p q z=>⟨z.1,ht _ _ z.2.1,z.2.2⟩,ob,es,ep,k _ _ (.inl rfl) e,c⟩
  | set S n=>obtain ⟨ob,es,ep,t,e,c⟩:=x; exact ⟨ob,es,ep,t,k _ _ (.inl rfl) e,c⟩
  | ins C dx fs =>
    obtain ⟨d,z,ne,e,mA,⟨od,es,ep,e2,c⟩,r⟩:=x
    exact ⟨ho _ d,z,ne,k _ _ (.inl rfl) e,mA,⟨od,es,ep,k _ _ (.inr d) e2,c⟩,r⟩
  | own y=>obtain ⟨ob,e⟩:=x; exact ⟨ob,k _ _ (.inl rfl) e⟩
  | xd fs=>obtain ⟨mA,⟨od,es,ep,e,c⟩,r⟩:=x; exact ⟨mA,⟨od,es,ep,k _ _ (.inl rfl) e,c⟩,r⟩
  | rng lo hi=>obtain ⟨t,u,v,e⟩:=x; exact ⟨t,u,v,k _ _ (.inl rfl) e⟩
  | frz ob u ih=>obtain ⟨e,q⟩:=x; exact ⟨k _ _ (.inl rfl) e,ih q⟩
  | tbl ps =>
    have e:h.get? a = some { cls:=.none,data:=.fields ps }:=x
    show h'.get? a = some { cls:=.none,data:=.fields ps }
    exact k a _ (.inl rfl) e
  | met f y =>
    have e:h.get? a = some (PySem.W.methodObj (.ref f) (.ref y)):=x
    show h'.get? a = some (PySem.W.methodObj (.ref f) (.ref y))
    exact k a _ (.inl rfl) e
  | ext φ=>obtain ⟨p,⟨o,e⟩,st⟩:=x; exact ⟨st _ _ p fun o q=>k _ _ (.inl rfl) q,⟨o,k _ _ (.inl rfl) e⟩,st⟩
theorem HOk.lt (x:HOk P w H h) (e:H a = some o):a < h.objs.size:=(x a o e).lt
theorem HOk.fresh (x:HOk P w H h) (e:h.objs.size ≤ a):H a = none:=by
  cases q:H a with
  | none=>rfl
  | some u=>exact absurd (Nat.lt_of_lt_of_le (x.lt q) e) (Nat.lt_irrefl _)
theorem HOk.kept (x:HOk P w H h) (k:∀ b u,h.get? b = some u→h'.get? b = some u):HOk P w H h':=fun a o e =>
  (x a o e).stay (fun b u _ q=>k b u q) (fun _ q=>q) fun _ _ q=>q
theorem HOk.laid (x:HOk P w H h) (k:∀ b u,h.get? b = some u→h'.get? b = some u) (hp:h.objs.size ≤ a) (new:ObjOk P w (upd H a o) h' a o):HOk P w (upd H a o) h':=fun b u e=>by
  have hn:=x.fresh hp
  by_cases hb:b = a
  · subst hb; rw [upd_same] at e; cases e; exact new
  · rw [upd_ne hb] at e
    exact (x b u e).stay (fun c v _ q=>k c v q) (fun c q=>by rw [upd_ne (ne_of_none q hn)]; exact q) fun c xs q=>by rw [upd_ne (ne_of_none q hn)]; exact q
end
noncomputable def Rd (H:Hp) (a:Addr) (u:HO):Prop:=H a = some u ∨ ∃ o,H a = some (.frz o u)
theorem Rd.of {H:Hp} {a:Addr} {u:HO} (h:H a = some u):Rd H a u:=.inl h
theorem Rd.ok {P:Program} {w:World} {H:Hp} {h:Heap} {a:Addr} {u:HO} (r:Rd H a u) (x:HOk P w H h):ObjOk P w H h a u:=by
  rcases r with r | ⟨o,r⟩
  · exact x a u r
  · obtain ⟨_,q⟩:=x a _ r
    exact q
noncomputable def Mut:Option HO→Prop
  | some (.lst _)=>True
  | some (.dK _)=>True
  | some (.dT _)=>True
  | some (.set _ _)=>True
  | some (.ins _ _ _)=>True
  | some (.ext _)=>True
  | _=>False
section
variable {P:Program} {w:World} {H:Hp} {h h':Heap} {x e:Addr} {o':HO}
theorem HOk.write (ok:HOk P w H h) (mu:Mut (H x)) (he:e = x ∨ H e = some (.own x)) (k:∀ b u,b ≠ e→h.get? b = some u→h'.get? b = some u) (heo:∃ u,h'.get? e = some u)
    (new:ObjOk P w (upd H x o') h' x o'):HOk P w (upd H x o') h':=fun b u q=>by
  have nown:∀ c y,H c = some (.own y)→c ≠ x:=fun c y r z=>by subst z; rw [r] at mu; exact mu
  have ntup:∀ c xs,H c = some (.tup xs)→c ≠ x:=fun c xs r z=>by subst z; rw [r] at mu; exact mu
  by_cases hb:b = x
  · subst hb; rw [upd_same] at q; cases q; exact new
  · rw [upd_ne hb] at q
    by_cases hbe:b = e
    · have q':H b = some (.own x):=by
        rcases he with z | z
        · exact absurd (hbe.trans z) hb
        · rw [hbe]; exact z
      rw [q] at q'; cases q'
      obtain ⟨v,hv⟩:=heo
      exact ⟨v,by rw [hbe]; exact hv⟩
    · refine (ok b u q).stay (fun c v hc r=>k c v ?_ r) (fun c r=>by rw [upd_ne (nown c b r)]; exact r) fun c xs r=>by rw [upd_ne (ntup c xs r)]; exact r
      rcases hc with rfl | hc
      · exact hbe
      · rintro rfl
        rcases he with z | z
        · exact nown c b hc z
        · rw [hc] at z; cases z; exact hb rfl
end
structure Un (fs ex:List Addr) (H H':Hp) (h h':Heap):Prop where
  keep:∀ b o,h.get? b = some o→H b = none→b ∉ fs→b ∉ ex→h'.get? b = some o
  slot:∀ b o,h.get? b = some o→H b = none→b ∈ fs→b ∉ ex→∃ sl,h'.get? b = some { o with slots:=sl }
  free:∀ b o,h.get? b = some o→H b = none→b ∉ ex→H' b = none
  there:∀ b o,h.get? b = some o→b ∉ ex→∃ o',h'.get? b = some o'
  tups:∀ b xs,H b = some (.tup xs)→H' b = some (.tup xs)
  frzs:∀ b o u,H b = some (.frz o u)→H' b = some (.frz o u)
  tbls:∀ b ps,H b = some (.tbl ps)→∃ more,H' b = some (.tbl (ps ++ more))
section
variable {fs fs' ex ex':List Addr} {H H1 H2:Hp} {h h1 h2 h':Heap} {a x e:Addr} {o:HO}
theorem Un.any (u:Un fs ex H H1 h h1) {b:Addr} {ob:Obj} (q:h.get? b = some ob) (n:H b = none) (hx:b ∉ ex):∃ sl,h1.get? b = some { ob with slots:=sl }:=by
  by_cases hb:b ∈ fs
  · exact u.slot b ob q n hb hx
  · exact ⟨ob.slots,u.keep b ob q n hb hx⟩
theorem Un.trans (a:Un fs ex H H1 h h1) (b:Un fs ex H1 H2 h1 h2):Un fs ex H H2 h h2 where
  keep:=fun c ob q n hc hx=>b.keep c ob (a.keep c ob q n hc hx) (a.free c ob q n hx) hc hx
  slot:=fun c ob q n hc hx=>by
    obtain ⟨sl,e1⟩:=a.slot c ob q n hc hx
    obtain ⟨sl',e2⟩:=b.slot c _ e1 (a.free c ob q n hx) hc hx
    exact ⟨sl',e2⟩
  free:=fun c ob q n hx=>by
    obtain ⟨o',e1⟩:=a.there c ob q hx
    exact b.free c o' e1 (a.free c ob q n hx) hx
  there:=fun c ob q hx=>by
    obtain ⟨o',e1⟩:=a.there c ob q hx
    exact b.there c o' e1 hx
  tups:=fun c xs q=>b.tups c xs (a.tups c xs q)
  frzs:=fun c ob xs q=>b.frzs c ob xs (a.frzs c ob xs q)
  tbls:=fun c ps q=>by
    obtain ⟨m1,e1⟩:=a.tbls c ps q
    obtain ⟨m2,e2⟩:=b.tbls c _ e1
    exact ⟨m1 ++ m2,by rw [e2,Array.append_assoc]⟩
theorem Un.kept (k:∀ b u,h.get? b = some u→h'.get? b = some u):Un fs ex H H h h' :=
  ⟨fun b ob q _ _ _=>k b ob q,fun b ob q _ _ _=>⟨ob.slots,k b ob q⟩,fun _ _ _ n _=>n,fun b ob q _=>⟨ob,k b ob q⟩,fun _ _ q=>q,fun _ _ _ q=>q,fun _ ps q=>⟨#[],by rw [q]; simp⟩⟩
theorem Un.refl:Un fs ex H H h h:=Un.kept fun _ _ q=>q
theorem Un.laid (k:∀ b u,h.get? b = some u→h'.get? b = some u) (hp:h.objs.size ≤ a) (hn:H a = none):Un fs ex H (upd H a o) h h' where
  keep:=fun b u q _ _ _=>k b u q
  slot:=fun b u q _ _ _=>⟨u.slots,k b u q⟩
  free:=fun b u q n _=>by rw [upd_ne (Nat.ne_of_lt (Nat.lt_of_lt_of_le (Heap.lt_size q) hp))]; exact n
  there:=fun b u q _=>⟨u,k b u q⟩
  tups:=fun b xs q=>by rw [upd_ne (ne_of_none q hn)]; exact q
  frzs:=fun b u xs q=>by rw [upd_ne (ne_of_none q hn)]; exact q
  tbls:=fun b ps q=>⟨#[],by rw [upd_ne (ne_of_none q hn),q]; simp⟩
theorem Un.write (mu:Mut (H x)) (he:e = x ∨ H e = some (.own x)) (k:∀ b u,b ≠ e→h.get? b = some u→h'.get? b = some u) (heo:∃ u,h'.get? e = some u):Un fs ex H (upd H x o) h h':=by
  have hx:∀ b,H b = none→b ≠ x:=fun b n z=>by subst z; rw [n] at mu; exact mu
  have hb:∀ b,H b = none→b ≠ e:=fun b n z=>by
    subst z
    rcases he with r | r
    · exact hx b n r
    · rw [n] at r; cases r
  have hm:∀ b u,H b = some u→¬ Mut (some u)→b ≠ x:=fun b u q nm z=>by subst z; rw [q] at mu; exact nm mu
  refine ⟨fun b u q n _ _=>k b u (hb b n) q,fun b u q n _ _=>⟨u.slots,k b u (hb b n) q⟩,fun b u q n _=>by rw [upd_ne (hx b n)]; exact n,fun b u q _=>?_,
    fun b xs q=>by rw [upd_ne (hm b _ q fun z=>z)]; exact q,fun b u xs q=>by rw [upd_ne (hm b _ q fun z=>z)]; exact q,fun b ps q=>⟨#[],by rw [upd_ne (hm b _ q fun z=>z),q]; simp⟩⟩
  by_cases hbe:b = e
  · subst hbe; exact heo
  · exact ⟨u,k b u hbe q⟩
theorem Un.mono (u:Un fs ex H H1 h h1) (hs:∀ b ∈ fs,b ∈ fs') (hx:∀ b ∈ ex,b ∈ ex'):Un fs' ex' H H1 h h1 :=
  ⟨fun b ob q n hb he=>u.keep b ob q n (fun z=>hb (hs b z)) fun z=>he (hx b z),fun _ _ q n _ he=>u.any q n fun z=>he (hx _ z),fun b ob q n he=>u.free b ob q n fun z=>he (hx b z),fun b ob q he=>u.there b ob q fun z=>he (hx b z),u.tups,u.frzs,u.tbls⟩
end
noncomputable def trk (h:Heap) (H:Hp):List Addr:=(List.range h.objs.size).filter fun a=>(H a).isSome
noncomputable def hidT (h:Heap) (H:Hp):Heap:=PySem.W.hideAll h (trk h H)
theorem hidT_size (h:Heap) (H:Hp):(hidT h H).objs.size = h.objs.size:=PySem.W.hideAll_size _ _
theorem hidT_get {h:Heap} {H:Hp} {b:Addr} {o:Obj} (e:h.get? b = some o) (n:H b = none):(hidT h H).get? b = some o :=
  PySem.W.hideAll_get _ e fun hm=>by
    have q:(H b).isSome = true:=(List.mem_filter.mp hm).2
    rw [n] at q; simp at q
theorem of_hidT {h:Heap} {H:Hp} {b:Addr} {o:Obj} (e:(hidT h H).get? b = some o):h.get? b = some o∧H b = none:=by
  have e':h.get? b = some o:=PySem.W.of_hideAll (trk h H) e
  refine ⟨e',?_⟩
  cases q:H b with
  | none=>rfl
  | some x =>
    have hm:b ∈ trk h H:=List.mem_filter.mpr ⟨List.mem_range.mpr (Heap.lt_size e'),by simp [q]⟩
    have z:(hidT h H).get? b = none:=PySem.W.hideAll_none (trk h H) hm
    rw [z] at e; cases e
noncomputable def allNews (g h:Heap) (L:Addr):List (Addr × Obj):=(List.range h.objs.size).filterMap fun a=>if a = L ∨ (g.get? a).isSome = true then none else (h.get? a).map fun o=>(a,o)
noncomputable def rest (g h:Heap) (L d:Addr):List (Addr × Obj):=(allNews g h L).filter fun p=>decide (p.1 ≠ d)
end L2
namespace L2
open PySem PySem.Spec PyProof.Rows
structure Mod (K:PySem.W.Frag) (mg:Str→Option Value) (base:Heap):Prop where
  kin:K.In base
  glob:base.Ns mainGlobals mg
  blt:∃ mb,base.Ns builtinsNs mb∧∀ x:Str,x ≠ "__name__"→mb x = bootBuiltins x
  nolimit:base.NoLimit
structure Cx where
  prog:Program
  w:World
  K:PySem.W.Frag
  mg:Str→Option Value
  base:Heap
  A:Around
  N:List Str
  s₀:Shared
  H₀:Hp
  env:Env
  outer:List Env
  stack:List Env
  ex:List Addr
  fn:Str→Bool
  calm:Bool
  pn:List (Addr × Obj)
  xe:Value→Shared→Prop
noncomputable def frs (l:List Env):List Addr:=l.filterMap (·.frame)
noncomputable abbrev Cx.fs (X:Cx):List Addr:=frs X.outer
noncomputable def Vis (sc:Scope) (x:Str):Prop:=sc.names.lookup x = some .local ∨ sc.names.lookup x = some .cell ∨ sc.names.lookup x = some .free
noncomputable def Loc (sc:Scope) (x:Str):Prop:=sc.names.lookup x = some .local ∨ sc.names.lookup x = some .cell
noncomputable def Look (env:Env) (h:Heap) (m:Str→Option Value) (x:Str) (u:Value):Prop :=
  (env.kindOf x = some .local∧m x = some u) ∨ ((env.kindOf x = some .cell ∨ env.kindOf x = some .free)∧∃ c,env.cells.lookup x = some c∧h.IsCell c (some u))
structure Cx.Ok (X:Cx):Prop where
  mod:Mod X.K X.mg X.base
  kind:X.env.scope.kind = .function
  glob:X.env.globals = mainGlobals
  blt:X.env.builtins = builtinsNs
  above:X.s₀.heap.objs.size ≤ X.env.locals
  inj:∀ x y c,X.env.cells.lookup x = some c→X.env.cells.lookup y = some c→x = y
  has:∀ x,(X.env.kindOf x = some .cell ∨ X.env.kindOf x = some .free)→∃ c,X.env.cells.lookup x = some c
  cab:∀ x c,X.fn x = true→X.env.cells.lookup x = some c→X.s₀.heap.objs.size ≤ c
  hd:X.calm = true→X.A.handled = none
  frames:X.A.frames = some X.stack
  stk:X.stack = X.outer ∨ (X.stack = X.env :: X.outer∧X.env.frame = some X.env.locals)
  exf:∀ b ∈ X.ex,b ≠ X.env.locals∧∀ x c,X.env.cells.lookup x = some c→c ≠ b
  bs:∀ b o,X.base.get? b = some o→X.s₀.heap.get? b = some o∧X.H₀ b = none
  bsz:X.base.objs.size ≤ X.s₀.heap.objs.size
  noex:∀ b o,X.base.get? b = some o→b ∉ X.ex
  exfs:∀ b ∈ X.ex,b ∉ X.fs
  funs:X.s₀.heap.FunFrames X.base X.outer
  frf:∀ b ∈ X.fs,X.H₀ b = none
structure Inv (X:Cx) (pins:List (Addr × Obj)) (σ:List (Option V)) (H:Hp) (s:Shared):Prop where
  ok:X.Ok
  os:s.os = X.s₀.os
  bare:AllBare s.gens
  base:Un X.fs X.ex X.H₀ H X.s₀.heap s.heap
  loc:∃ m,s.heap.Ns X.env.locals m∧∀ (i:Nat) (x:Str) (v:V),X.N[i]? = some x→σ[i]? = some (some v)→Vis X.env.scope x→∃ u,RelV v u∧Look X.env s.heap m x u
  cell:∀ x c,X.env.cells.lookup x = some c→∃ v,s.heap.IsCell c v
  free:H X.env.locals = none
  freeC:∀ x c,X.env.cells.lookup x = some c→H c = none
  pin:∀ p ∈ X.pn ++ pins,s.heap.get? p.1 = some p.2∧H p.1 = none∧p.1 ≠ X.env.locals∧p.1 ∉ X.fs∧∀ v,p.2.data ≠ .cell v
  hok:HOk X.prog X.w H s.heap
  len:σ.length = X.N.length
section
variable {X:Cx} {pins:List (Addr × Obj)} {σ:List (Option V)} {H H':Hp} {s:Shared} {h':Heap}
theorem Cx.Ok.nofr (ok:X.Ok) {b:Addr} {o:Obj} (e:X.base.get? b = some o):b ∉ X.fs:=fun hb=>by
  have:=(ok.funs.mem hb).1
  rw [e] at this; cases this
theorem Inv.bs (I:Inv X pins σ H s):∀ b o,X.base.get? b = some o→s.heap.get? b = some o∧H b = none:=fun b o e =>
  ⟨I.base.keep b o (I.ok.bs b o e).1 (I.ok.bs b o e).2 (I.ok.nofr e) (I.ok.noex b o e),I.base.free b o (I.ok.bs b o e).1 (I.ok.bs b o e).2 (I.ok.noex b o e)⟩
theorem Inv.bk (I:Inv X pins σ H s):∀ b o,X.base.get? b = some o→s.heap.get? b = some o:=fun b o e=>(I.bs b o e).1
theorem Inv.mod (I:Inv X pins σ H s):Mod X.K X.mg X.base:=I.ok.mod
theorem Inv.kIn (I:Inv X pins σ H s):X.K.In s.heap:=I.ok.mod.kin.keeps I.bk
theorem Inv.nolimit (I:Inv X pins σ H s):s.heap.NoLimit:=I.ok.mod.nolimit.keeps I.bk
theorem Inv.lt (I:Inv X pins σ H s):X.env.locals < s.heap.objs.size:=let ⟨_,hn,_⟩:=I.loc; hn.lt
theorem Inv.sz (I:Inv X pins σ H s):X.s₀.heap.objs.size ≤ s.heap.objs.size:=Nat.le_trans I.ok.above (Nat.le_of_lt I.lt)
theorem Inv.nofs (I:Inv X pins σ H s) {a:Addr} (h:s.heap.objs.size ≤ a):a ∉ X.fs:=fun hb=>by
  obtain ⟨_,o,ho,_⟩:=I.ok.funs.mem hb
  exact absurd (Nat.lt_of_lt_of_le (Heap.lt_size ho) (Nat.le_trans I.sz h)) (Nat.lt_irrefl _)
theorem Inv.cne (I:Inv X pins σ H s):∀ x c,X.env.cells.lookup x = some c→c ≠ X.env.locals:=fun x c e z=>by
  obtain ⟨v,o,ho,hd⟩:=I.cell x c e
  obtain ⟨m,⟨o',es,ep,ho',hd',_⟩,_⟩:=I.loc
  rw [z,ho'] at ho; cases ho; rw [hd'] at hd; cases hd
theorem Inv.funs (I:Inv X pins σ H s):s.heap.FunFrames X.base X.outer:=by
  have all:∀ (l:List Env),(∀ b ∈ frs l,b ∈ X.fs)→X.s₀.heap.FunFrames X.base l→s.heap.FunFrames X.base l:=by
    intro l
    induction l with
    | nil=>intro _ _; trivial
    | cons env r ih =>
      intro hs hl
      obtain ⟨hk,⟨L,o,hf,hn,ho,hd⟩,hr⟩:=hl
      have hL:L ∈ X.fs:=hs L (by unfold frs; rw [List.filterMap_cons,hf]; exact List.mem_cons_self)
      obtain ⟨sl,e⟩:=I.base.slot L o ho (I.ok.frf L hL) hL fun z=>I.ok.exfs L z hL
      exact ⟨hk,⟨L,_,hf,hn,e,hd⟩,ih (fun b hb=>hs b (by unfold frs; rw [List.filterMap_cons,hf]; exact List.mem_cons_of_mem _ hb)) hr⟩
  exact all X.outer (fun _ hb=>hb) I.ok.funs
theorem Inv.stack (I:Inv X pins σ H s):s.heap.FunFrames X.base X.stack:=by
  rcases I.ok.stk with e | ⟨e,hf⟩
  · rw [e]; exact I.funs
  · rw [e]
    obtain ⟨m,hn,_⟩:=I.loc
    refine .cons (by rw [I.ok.kind]; decide) hf hn ?_ I.funs
    exact Heap.get?_none_of_le (Nat.le_trans I.ok.bsz I.ok.above)
theorem Inv.stkSub (I:Inv X pins σ H s):∀ b ∈ frs X.stack,b ∈ X.env.locals :: X.fs:=fun b hb=>by
  rcases I.ok.stk with e | ⟨e,hf⟩
  · rw [e] at hb; exact List.mem_cons_of_mem _ hb
  · rw [e] at hb
    unfold frs at hb
    rw [List.filterMap_cons,hf] at hb
    exact hb
theorem Inv.stkFree (I:Inv X pins σ H s):∀ b ∈ frs X.stack,H b = none:=fun b hb=>by
  rcases List.mem_cons.mp (I.stkSub b hb) with e | hb
  · rw [e]; exact I.free
  · obtain ⟨_,o,ho,_⟩:=I.ok.funs.mem hb
    exact I.base.free b o ho (I.ok.frf b hb) fun z=>I.ok.exfs b z hb
theorem Inv.step {g':Array GenState} {t':Nat} {d':Drawn} {ch:List Addr} (I:Inv X pins σ H s)
    (hch:∀ b ∈ ch,(b ∈ X.ex ∨ X.s₀.heap.objs.size ≤ b)∧b ≠ X.env.locals∧(∀ x c,X.env.cells.lookup x = some c→c ≠ b)∧∀ p ∈ X.pn ++ pins,p.1 ≠ b)
    (keep:∀ b o,b ≠ X.env.locals→b ∉ X.fs→b ∉ ch→s.heap.get? b = some o→H b = none→h'.get? b = some o)
    (slot:∀ b o,b ≠ X.env.locals→b ∈ X.fs→b ∉ ch→s.heap.get? b = some o→H b = none→∃ sl,h'.get? b = some { o with slots:=sl }) (free:∀ b o,b ∉ ch→s.heap.get? b = some o→H b = none→H' b = none)
    (there:∀ b o,b ∉ ch→s.heap.get? b = some o→∃ o',h'.get? b = some o')
    (tups:∀ b xs,H b = some (.tup xs)→H' b = some (.tup xs)) (frzs:∀ b o u,H b = some (.frz o u)→H' b = some (.frz o u)) (tbls:∀ b ps,H b = some (.tbl ps)→∃ more,H' b = some (.tbl (ps ++ more)))
    (ns:∀ m,s.heap.Ns X.env.locals m→h'.Ns X.env.locals m) (hok:HOk X.prog X.w H' h') (hg:AllBare g') :
    Inv X pins σ H' { s with heap:=h',gens:=g',drawn:=d',toks:=t' }:=by
  have neL:∀ b o,X.s₀.heap.get? b = some o→b ≠ X.env.locals:=fun b o e=>Nat.ne_of_lt (Nat.lt_of_lt_of_le (Heap.lt_size e) I.ok.above)
  have neC:∀ b o,X.s₀.heap.get? b = some o→b ∉ X.ex→b ∉ ch:=fun b o e hx hb=>by
    rcases (hch b hb).1 with z | z
    · exact hx z
    · exact absurd (Nat.lt_of_lt_of_le (Heap.lt_size e) z) (Nat.lt_irrefl _)
  have cellK:∀ x c,X.env.cells.lookup x = some c→∀ v,s.heap.IsCell c v→h'.IsCell c v:=fun x c e v ⟨o,ho,hd⟩=>by
    have nch:c ∉ ch:=fun z=>(hch c z).2.2.1 x c e rfl
    by_cases hc:c ∈ X.fs
    · obtain ⟨sl,q⟩:=slot c o (I.cne x c e) hc nch ho (I.freeC x c e)
      exact ⟨_,q,hd⟩
    · exact ⟨o,keep c o (I.cne x c e) hc nch ho (I.freeC x c e),hd⟩
  refine ⟨I.ok,I.os,hg,⟨fun b o e n hb hx=>?_,fun b o e n hb hx=>?_,fun b o e n hx=>?_,fun b o e hx=>?_,fun b xs e=>tups b xs (I.base.tups b xs e),fun b o xs e=>frzs b o xs (I.base.frzs b o xs e),fun b ps e=>?_⟩,?_,fun x c e=>?_,?_,fun x c e=>?_,fun p hp=>?_,hok,I.len⟩
  · exact keep b o (neL b o e) hb (neC b o e hx) (I.base.keep b o e n hb hx) (I.base.free b o e n hx)
  · obtain ⟨sl,e1⟩:=I.base.slot b o e n hb hx
    obtain ⟨sl',e2⟩:=slot b _ (neL b o e) hb (neC b o e hx) e1 (I.base.free b o e n hx)
    exact ⟨sl',e2⟩
  · obtain ⟨o',e1⟩:=I.base.there b o e hx
    exact free b o' (neC b o e hx) e1 (I.base.free b o e n hx)
  · obtain ⟨o',e1⟩:=I.base.there b o e hx
    exact there b o' (neC b o e hx) e1
  · obtain ⟨m1,e1⟩:=I.base.tbls b ps e
    obtain ⟨m2,e2⟩:=tbls b _ e1
    exact ⟨m1 ++ m2,by rw [e2,Array.append_assoc]⟩
  · obtain ⟨m,hn,hl⟩:=I.loc
    refine ⟨m,ns m hn,fun i x v e1 e2 e3=>?_⟩
    obtain ⟨u,r,l⟩:=hl i x v e1 e2 e3
    refine ⟨u,r,?_⟩
    rcases l with l | ⟨k,c,e,z⟩
    · exact .inl l
    · exact .inr ⟨k,c,e,cellK x c e _ z⟩
  · obtain ⟨v,z⟩:=I.cell x c e
    exact ⟨v,cellK x c e v z⟩
  · obtain ⟨m,⟨o,_,_,ho,_⟩,_⟩:=I.loc
    exact free _ o (fun z=>(hch _ z).2.1 rfl) ho I.free
  · obtain ⟨v,o,ho,hd⟩:=I.cell x c e
    exact free c o (fun z=>(hch c z).2.2.1 x c e rfl) ho (I.freeC x c e)
  · obtain ⟨e,n,ne,nf,d⟩:=I.pin p hp
    have nch:p.1 ∉ ch:=fun z=>(hch p.1 z).2.2.2 p hp rfl
    exact ⟨keep p.1 p.2 ne nf nch e n,free p.1 p.2 nch e n,ne,nf,d⟩
theorem Inv.un {t':Nat} (I:Inv X pins σ H s) (u:Un X.fs [] H H' s.heap h') (hok:HOk X.prog X.w H' h'):Inv X pins σ H' { s with heap:=h',toks:=t' }:=by
  obtain ⟨m,⟨o,es,ep,ho,r⟩,_⟩:=id I.loc
  obtain ⟨sl,hL⟩:=u.any ho I.free (by simp)
  exact I.step (g':=s.gens) (d':=s.drawn) (ch:=[]) (fun _ z=>nomatch z) (fun b o _ hb _ e n=>u.keep b o e n hb (by simp)) (fun b o _ hb _ e n=>u.slot b o e n hb (by simp)) (fun b o _ e n=>u.free b o e n (by simp)) (fun b o _ e=>u.there b o e (by simp)) u.tups u.frzs u.tbls (fun m' hm=>by
    obtain ⟨o',es',ep',ho',r'⟩:=hm
    rw [ho] at ho'; cases ho'
    exact ⟨_,es',ep',hL,r'⟩) hok I.bare
theorem Inv.call {g':Array GenState} {t':Nat} {d':Drawn} {ch:List Addr} (I:Inv X pins σ H s) (u:Un (frs X.stack) ch H H' s.heap h') (hok:HOk X.prog X.w H' h') (hg:AllBare g')
    (hch:∀ b ∈ ch,(b ∈ X.ex ∨ X.s₀.heap.objs.size ≤ b)∧b ≠ X.env.locals∧(∀ x c,X.env.cells.lookup x = some c→c ≠ b)∧∀ p ∈ X.pn ++ pins,p.1 ≠ b) :
    Inv X pins σ H' { s with heap:=h',gens:=g',drawn:=d',toks:=t' }:=by
  obtain ⟨m,⟨o,es,ep,ho,r⟩,_⟩:=id I.loc
  obtain ⟨sl,hL⟩:=u.any ho I.free fun z=>(hch _ z).2.1 rfl
  exact I.step (ch:=ch) hch (fun b o hL hb hc e n=>u.keep b o e n (fun z=>(List.mem_cons.mp (I.stkSub b z)).elim hL hb) hc) (fun b o _ _ hc e n=>u.any e n hc) (fun b o hc e n=>u.free b o e n hc) (fun b o hc e=>u.there b o e hc) u.tups u.frzs u.tbls (fun m' hm=>by
    obtain ⟨o',es',ep',ho',r'⟩:=hm
    rw [ho] at ho'; cases ho'
    exact ⟨_,es',ep',hL,r'⟩) hok hg
theorem Inv.turned {t':Nat} {it:Addr} (I:Inv X pins σ H s) (k:∀ b o,b ≠ it→s.heap.get? b = some o→h'.get? b = some o) (hn:H it = none) (hL:it ≠ X.env.locals)
    (h1:it ∈ X.ex ∨ X.s₀.heap.objs.size ≤ it) (h2:∀ x c,X.env.cells.lookup x = some c→c ≠ it) (h3:∀ p ∈ X.pn ++ pins,p.1 ≠ it):Inv X pins σ H { s with heap:=h',toks:=t' }:=by
  have nit:∀ b u,H b = some u→b ≠ it:=fun b u e z=>by rw [z,hn] at e; cases e
  refine I.step (g':=s.gens) (d':=s.drawn) (ch:=[it]) (fun b hb=>?_) (fun b o _ _ hc e _=>k b o (fun z=>hc (by simp [z])) e) (fun b o _ _ hc e _=>⟨o.slots,k b o (fun z=>hc (by simp [z])) e⟩) (fun _ _ _ _ n=>n)
    (fun b o hc e=>⟨o,k b o (fun z=>hc (by simp [z])) e⟩) (fun _ _ e=>e) (fun _ _ _ e=>e) (fun b ps e=>⟨#[],by rw [e]; simp⟩) (fun m hm=>?_) (fun b u e=>?_) I.bare
  · have e:b = it:=by simpa using hb
    subst e
    exact ⟨h1,hL,h2,h3⟩
  · obtain ⟨o,es,ep,ho,r⟩:=hm
    exact ⟨o,es,ep,k _ o (Ne.symm hL) ho,r⟩
  · refine (I.hok b u e).stay (fun c v hc q=>k c v ?_ q) (fun _ q=>q) fun _ _ q=>q
    rcases hc with z | z
    · rw [z]; exact nit b u e
    · exact nit c _ z
theorem Inv.tok (I:Inv X pins σ H s) (t:Nat):Inv X pins σ H { s with toks:=t }:=I.un (h':=s.heap) (t':=t) Un.refl I.hok
theorem Inv.kept {t':Nat} (I:Inv X pins σ H s) (k:∀ b u,s.heap.get? b = some u→h'.get? b = some u):Inv X pins σ H { s with heap:=h',toks:=t' }:=I.un (Un.kept k) (I.hok.kept k)
theorem Inv.laid {a:Addr} {o:HO} {t':Nat} (I:Inv X pins σ H s) (k:∀ b u,s.heap.get? b = some u→h'.get? b = some u) (hp:s.heap.objs.size ≤ a) (new:ObjOk X.prog X.w (upd H a o) h' a o) :
    Inv X pins σ (upd H a o) { s with heap:=h',toks:=t' }:=I.un (Un.laid k hp (I.hok.fresh hp)) (I.hok.laid k hp new)
theorem Inv.write {x e:Addr} {o:HO} {t':Nat} (I:Inv X pins σ H s) (mu:Mut (H x)) (he:e = x ∨ H e = some (.own x)) (k:∀ b u,b ≠ e→s.heap.get? b = some u→h'.get? b = some u) (heo:∃ u,h'.get? e = some u)
    (new:ObjOk X.prog X.w (upd H x o) h' x o):Inv X pins σ (upd H x o) { s with heap:=h',toks:=t' }:=I.un (Un.write mu he k heo) (I.hok.write mu he k heo new)
theorem Inv.pins_of {pins':List (Addr × Obj)} (I:Inv X pins σ H s) (h:∀ p ∈ pins',s.heap.get? p.1 = some p.2∧H p.1 = none∧p.1 ≠ X.env.locals∧p.1 ∉ X.fs∧∀ v,p.2.data ≠ .cell v):Inv X pins' σ H s :=
  ⟨I.ok,I.os,I.bare,I.base,I.loc,I.cell,I.free,I.freeC,fun p hp=>(List.mem_append.mp hp).elim (fun z=>I.pin p (List.mem_append_left _ z)) (h p),I.hok,I.len⟩
theorem nodup_ix {N:List Str} (hN:N.Nodup) {i j:Nat} {x:Str} (a:N[i]? = some x) (b:N[j]? = some x):i = j:=by
  obtain ⟨h1,e1⟩:=List.getElem?_eq_some_iff.mp a
  obtain ⟨h2,e2⟩:=List.getElem?_eq_some_iff.mp b
  exact (List.getElem_inj hN).mp (e1.trans e2.symm)
theorem store_ok2 {M:Model} {A:Around} {E:Value→Shared→Prop} {i:Nat} {x:Str} {v:V} {u:Value} {Q:Unit→Shared→Prop} (I:Inv X pins σ H s) (hN:X.N.Nodup) (hi:X.N[i]? = some x) (hx:Loc X.env.scope x) (r:RelV v u)
    (h:∀ s',Inv X pins (σ.set i (some v)) H s'→(∃ a,Heap.SameBut a s.heap s'.heap∧(a = X.env.locals ∨ X.env.cells.lookup x = some a))→Q () s') (hf:X.fn x = true ∨ X.env.scope.names.lookup x = some .local:=by first | exact .inl rfl | exact .inr rfl | assumption):wpAny M A (storeName X.env x u) Q E s:=by
  obtain ⟨m,hn,hl⟩:=id I.loc
  have hcls:(X.env.scope.kind == .class || (X.env.scope.kind == .module && X.env.locals != X.env.globals)) = false:=by rw [I.ok.kind]; rfl
  have hiσ:i < σ.length:=by rw [I.len]; exact (List.getElem?_eq_some_iff.mp hi).1
  have cne:=I.cne
  have tracked:∀ {a:Addr} {h':Heap},(∃ o,s.heap.get? a = some o∧H a = none)→Heap.SameBut a s.heap h'→HOk X.prog X.w H h':=fun {a h'} ha hs b ob e=>by
    obtain ⟨_,_,hfree⟩:=ha
    refine (I.hok b ob e).stay (fun c w' hc q=>(hs.2 c ?_).trans q) (fun _ q=>q) fun _ _ q=>q
    rintro rfl
    rcases hc with rfl | hc
    · rw [hfree] at e; cases e
    · rw [hfree] at hc; cases hc
  rcases hx with hk | hk
  · refine wpAny_storeName_local hk hn (fun h' hn' hs=>?_) hcls
    obtain ⟨oL,_,_,hoL,_⟩:=id hn
    refine h _ ⟨I.ok,I.os,I.bare,⟨fun b o e n hb hx=>?_,fun b o e n hb hx=>?_,I.base.free,fun b o e hx=>?_,I.base.tups,I.base.frzs,I.base.tbls⟩,⟨_,hn',fun j y v' e1 e2 e3=>?_⟩,fun y c e=>?_,I.free,I.freeC,fun p hp=>?_,tracked ⟨oL,hoL,I.free⟩ hs,by simpa using I.len⟩ ⟨_,hs,.inl rfl⟩
    · exact (hs.2 b (Nat.ne_of_lt (Nat.lt_of_lt_of_le (Heap.lt_size e) I.ok.above))).trans (I.base.keep b o e n hb hx)
    · obtain ⟨sl,e1⟩:=I.base.slot b o e n hb hx
      exact ⟨sl,(hs.2 b (Nat.ne_of_lt (Nat.lt_of_lt_of_le (Heap.lt_size e) I.ok.above))).trans e1⟩
    · obtain ⟨o',e1⟩:=I.base.there b o e hx
      exact ⟨o',(hs.2 b (Nat.ne_of_lt (Nat.lt_of_lt_of_le (Heap.lt_size e) I.ok.above))).trans e1⟩
    · by_cases hj:j = i
      · subst hj
        rw [hi] at e1; cases e1
        rw [List.getElem?_set_self hiσ] at e2
        cases e2
        exact ⟨u,r,.inl ⟨hk,by simp⟩⟩
      · rw [List.getElem?_set_ne (Ne.symm hj)] at e2
        obtain ⟨u',r',q⟩:=hl j y v' e1 e2 e3
        refine ⟨u',r',?_⟩
        rcases q with ⟨k,e⟩ | ⟨k,c,e,z⟩
        · refine .inl ⟨k,?_⟩
          have:y ≠ x:=fun e=>hj (nodup_ix hN e1 (e ▸ hi))
          simp [this,e]
        · exact .inr ⟨k,c,e,z.sameBut hs (cne y c e)⟩
    · obtain ⟨w',z⟩:=I.cell y c e
      exact ⟨w',z.sameBut hs (cne y c e)⟩
    · obtain ⟨e,n,ne,nf,d⟩:=I.pin p hp
      exact ⟨(hs.2 p.1 ne).trans e,n,ne,nf,d⟩
  · have hfn:X.fn x = true:=by
      rcases hf with z | z
      · exact z
      · rw [z] at hk; cases hk
    obtain ⟨c,hc⟩:=I.ok.has x (.inl hk)
    obtain ⟨w',z⟩:=I.cell x c hc
    refine wpAny_storeName_cell I.ok.kind hk hc z (fun h' hc' hs=>?_)
    obtain ⟨oc,hoc,hocd⟩:=id z
    refine h { s with heap:=h' } ⟨I.ok,I.os,I.bare,⟨fun b o e n hb hx=>?_,fun b o e n hb hx=>?_,I.base.free,fun b o e hx=>?_,I.base.tups,I.base.frzs,I.base.tbls⟩,⟨m,hn.sameBut hs (Ne.symm (cne x c hc)),fun j y v' e1 e2 e3=>?_⟩,fun y c' e=>?_,I.free,I.freeC,fun p hp=>?_,tracked ⟨oc,hoc,I.freeC x c hc⟩ hs,by simpa using I.len⟩ ⟨c,hs,.inr hc⟩
    · exact (hs.2 b (Nat.ne_of_lt (Nat.lt_of_lt_of_le (Heap.lt_size e) (I.ok.cab x c hfn hc)))).trans (I.base.keep b o e n hb hx)
    · obtain ⟨sl,e1⟩:=I.base.slot b o e n hb hx
      exact ⟨sl,(hs.2 b (Nat.ne_of_lt (Nat.lt_of_lt_of_le (Heap.lt_size e) (I.ok.cab x c hfn hc)))).trans e1⟩
    · obtain ⟨o',e1⟩:=I.base.there b o e hx
      exact ⟨o',(hs.2 b (Nat.ne_of_lt (Nat.lt_of_lt_of_le (Heap.lt_size e) (I.ok.cab x c hfn hc)))).trans e1⟩
    · by_cases hj:j = i
      · subst hj
        rw [hi] at e1; cases e1
        rw [List.getElem?_set_self hiσ] at e2
        cases e2
        exact ⟨u,r,.inr ⟨.inl hk,c,hc,hc'⟩⟩
      · rw [List.getElem?_set_ne (Ne.symm hj)] at e2
        obtain ⟨u',r',q⟩:=hl j y v' e1 e2 e3
        refine ⟨u',r',?_⟩
        rcases q with q | ⟨k,c',e,z'⟩
        · exact .inl q
        · refine .inr ⟨k,c',e,z'.sameBut hs ?_⟩
          rintro rfl
          exact hj (nodup_ix hN e1 (I.ok.inj _ _ _ e hc ▸ hi))
    · by_cases hcc:c' = c
      · subst hcc; exact ⟨_,hc'⟩
      · obtain ⟨w2,z2⟩:=I.cell y c' e
        exact ⟨w2,z2.sameBut hs hcc⟩
    · obtain ⟨e,n,ne,nf,d⟩:=I.pin p hp
      refine ⟨(hs.2 p.1 ?_).trans e,n,ne,nf,d⟩
      intro q
      rw [q,hoc] at e
      have q':oc = p.2:=Option.some.inj e
      exact d w' (by rw [← q']; exact hocd)
theorem store_ok {M:Model} {A:Around} {E:Value→Shared→Prop} {i:Nat} {x:Str} {v:V} {u:Value} {Q:Unit→Shared→Prop} (I:Inv X pins σ H s) (hN:X.N.Nodup) (hi:X.N[i]? = some x) (hx:Loc X.env.scope x) (r:RelV v u)
    (h:∀ s',Inv X pins (σ.set i (some v)) H s'→Q () s') (hf:X.fn x = true ∨ X.env.scope.names.lookup x = some .local:=by first | exact .inl rfl | exact .inr rfl | assumption):wpAny M A (storeName X.env x u) Q E s :=
  store_ok2 I hN hi hx r (fun s' I' _=>h s' I') hf
theorem Inv.call' {s':Shared} {ch:List Addr} (I:Inv X pins σ H s) (ho:s'.os = s.os) (u:Un (frs X.stack) ch H H' s.heap s'.heap) (hok:HOk X.prog X.w H' s'.heap) (hg:AllBare s'.gens)
    (hch:∀ b ∈ ch,(b ∈ X.ex ∨ X.s₀.heap.objs.size ≤ b)∧b ≠ X.env.locals∧(∀ x c,X.env.cells.lookup x = some c→c ≠ b)∧∀ p ∈ X.pn ++ pins,p.1 ≠ b):Inv X pins σ H' s':=by
  obtain ⟨h',g',d',t',o'⟩:=s'
  have e:o' = s.os:=ho
  subst e
  exact I.call (g':=g') (t':=t') (d':=d') u hok hg hch
end
noncomputable abbrev XK:=Value→Option Addr→Hp→Prop
noncomputable abbrev St:=List (Option V)
noncomputable abbrev VK:=V→Hp→Prop
noncomputable abbrev TE:=St→Hp→VK→Prop
noncomputable abbrev TT:=St→Hp→(Bool→Hp→Prop)→Prop
noncomputable abbrev TA:=St→Hp→(List V→Hp→Prop)→Prop
structure Ends where
  nx:St→Hp→Prop
  rt:VK
  bk:St→Hp→Prop:=fun _ _=>False
  ct:St→Hp→Prop:=fun _ _=>False
noncomputable abbrev TS:=Ends→St→Hp→Prop
noncomputable def EP (X:Cx) (pins:List (Addr × Obj)) (σ:St) (Q:VK) (u:Value) (s':Shared):Prop:=∃ v H',Inv X pins σ H' s'∧RelV v u∧Q v H'
noncomputable def TP (X:Cx) (pins:List (Addr × Obj)) (σ:St) (Q:Bool→Hp→Prop) (b:Bool) (s':Shared):Prop:=∃ H',Inv X pins σ H' s'∧Q b H'
noncomputable def AP (X:Cx) (pins:List (Addr × Obj)) (σ:St) (Q:List V→Hp→Prop) (us:List Value) (s':Shared):Prop:=∃ vs H',Inv X pins σ H' s'∧Vals vs us∧Q vs H'
noncomputable def SP (X:Cx) (pins:List (Addr × Obj)) (D:Ends) (f:Flow) (s':Shared):Prop :=
  match f with
  | .next=>∃ σ' H',Inv X pins σ' H' s'∧D.nx σ' H'
  | .brk=>∃ σ' H',Inv X pins σ' H' s'∧D.bk σ' H'
  | .cont=>∃ σ' H',Inv X pins σ' H' s'∧D.ct σ' H'
  | .ret u=>∃ v σ' H',Inv X pins σ' H' s'∧RelV v u∧D.rt v H'
noncomputable def PE (X:Cx) (e:Expr) (t:TE):Prop :=
  ∀ (pins:List (Addr × Obj)) (s:Shared) (σ:St) (H:Hp) (Q:VK),Inv X pins σ H s→t σ H Q→wpAny (model X.prog X.w) X.A (eval e X.env) (EP X pins σ Q) X.xe s
noncomputable def PT (X:Cx) (e:Expr) (t:TT):Prop :=
  ∀ (pins:List (Addr × Obj)) (s:Shared) (σ:St) (H:Hp) (Q:Bool→Hp→Prop),Inv X pins σ H s→t σ H Q→wpAny (model X.prog X.w) X.A (isTrue e X.env (eval e X.env)) (TP X pins σ Q) X.xe s
noncomputable def PW (X:Cx) (e:Expr) (t:TT):Prop :=
  ∀ (whole:Sem Value) (pins:List (Addr × Obj)) (s:Shared) (σ:St) (H:Hp) (Q:Bool→Hp→Prop),Inv X pins σ H s→t σ H Q→wpAny (model X.prog X.w) X.A (isTrue e X.env whole) (TP X pins σ Q) X.xe s
theorem PW.pt {X:Cx} {e:Expr} {t:TT} (h:PW X e t):PT X e t:=h _
noncomputable def PA (X:Cx) (es:List Expr) (t:TA):Prop :=
  ∀ (pos:Pos) (pins:List (Addr × Obj)) (s:Shared) (σ:St) (H:Hp) (Q:List V→Hp→Prop),Inv X pins σ H s→t σ H Q→wpAny (model X.prog X.w) X.A (spliced (backTo pos (starEach es X.env))) (AP X pins σ Q) X.xe s
noncomputable def PS (X:Cx) (st:Stmt) (t:TS):Prop :=
  ∀ (pins:List (Addr × Obj)) (s:Shared) (σ:St) (H:Hp) (D:Ends),Inv X pins σ H s→t D σ H→wpAny (model X.prog X.w) X.A (exec st X.env) (SP X pins D) X.xe s
noncomputable def PSs (X:Cx) (st:List Stmt) (t:TS):Prop :=
  ∀ (pins:List (Addr × Obj)) (s:Shared) (σ:St) (H:Hp) (D:Ends),Inv X pins σ H s→t D σ H→wpAny (model X.prog X.w) X.A (execs st X.env) (SP X pins D) X.xe s
theorem thn {α:Type} {t:Sem α} {Q Q':α→Shared→Prop} {M:Model} {A:Around} {E:Value→Shared→Prop} {s:Shared} (h:wpAny M A t Q E s) (hQ:∀ a s,Q a s→Q' a s):wpAny M A t Q' E s:=wpAny_mono h hQ fun _ _ x=>x
end L2
namespace L2
open PySem PySem.Spec PyProof.Rows
section
variable {X:Cx}
theorem bin {a b:Expr} {ta tb:TE} (ha:PE X a ta) (hb:PE X b tb) {pins:List (Addr × Obj)} {s:Shared} {σ:St} {H:Hp} {R:V→V→Hp→Prop} (I:Inv X pins σ H s) (h:ta σ H fun x H1=>tb σ H1 fun y H2=>R x y H2)
    {α:Type} {Q:α→Shared→Prop} {f:Value→Value→Sem α}
    (hf:∀ v u s2 x y H2,Inv X pins σ H2 s2→RelV x v→RelV y u→R x y H2→wpAny (model X.prog X.w) X.A (f v u) Q X.xe s2) :
    wpAny (model X.prog X.w) X.A (eval a X.env) (fun v s₁=>wpAny (model X.prog X.w) X.A (eval b X.env) (fun u s₂=>wpAny (model X.prog X.w) X.A (f v u) Q X.xe s₂) X.xe s₁) X.xe s:=by
  refine thn (ha pins s σ H _ I h) fun v s1 ⟨x,H1,I1,r1,q1⟩=>?_
  refine thn (hb pins s1 σ H1 _ I1 q1) fun u s2 ⟨y,H2,I2,r2,q2⟩=>?_
  exact hf v u s2 x y H2 I2 r1 r2 q2
noncomputable def tVar (i:Nat):TE:=fun σ H Q=>∃ v,σ[i]? = some (some v)∧Q v H
noncomputable def tC (v:V):TE:=fun _ H Q=>Q v H
theorem pe_var {i:Nat} {x:Str} {pos:Pos} (hN:X.N[i]? = some x) (hv:Vis X.env.scope x) (hd:(x == ("__debug__":Str)) = false:=by decide) (hcd:(x == ("__classdict__":Str)) = false:=by decide):PE X (.Name x pos) (tVar i):=by
  intro pins s σ H Q I h
  obtain ⟨v,e,h⟩:=h
  obtain ⟨m,hn,hl⟩:=I.loc
  obtain ⟨u,r,l⟩:=hl i x v hN e hv
  have fin:EP X pins σ Q u s:=⟨v,H,I,r,h⟩
  rcases l with ⟨hk,hm⟩ | ⟨hk,c,hc,hcell⟩
  · exact wpAny_Name (wpAny_loadName_local I.ok.kind hk hn hm fin) hd
  · rcases hk with hk | hk
    · exact wpAny_Name (wpAny_loadName_cell I.ok.kind hk hc hcell fin) hd
    · exact wpAny_Name (wpAny_loadName_free I.ok.kind hk hc hcell fin hcd) hd
theorem pe_int {i j pos}:PE X (.Constant (.int i) j pos) (tC (.int i)):=fun _ _ _ H _ I h=>wpAny_Constant_int ⟨.int i,H,I.tok _,⟨_,rfl⟩,h⟩
theorem pe_bl {b j pos}:PE X (.Constant (.bool b) j pos) (tC (.bl b)):=fun _ _ _ H _ I h=>Constant_bool ⟨.bl b,H,I,rfl,h⟩
theorem pe_non {j pos}:PE X (.Constant .none j pos) (tC .non):=fun _ _ _ H _ I h=>Constant_none ⟨.non,H,I,rfl,h⟩
theorem pe_str {x j pos}:PE X (.Constant (.str x) j pos) (tC (.str x)):=fun _ _ _ H _ I h=>Calls.Constant_str ⟨.str x,H,I.tok _,⟨_,rfl⟩,h⟩
noncomputable def Gl (X:Cx) (x:Str):Prop:=X.env.kindOf x = some .globalImplicit
theorem ld_glob {E:Value→Shared→Prop} {pins:List (Addr × Obj)} {s:Shared} {σ:St} {H:Hp} {x:Str} {u:Value} {pos:Pos} {Q:Value→Shared→Prop} (I:Inv X pins σ H s) (hg:Gl X x) (hm:X.mg x = some u) (h:Q u s)
    (hd:(x == ("__debug__":Str)) = false:=by decide):wpAny (model X.prog X.w) X.A (eval (.Name x pos) X.env) Q E s :=
  Calls.Name_function_global I.ok.kind hg (Calls.loadGlobal_global (by rw [I.ok.glob]; exact I.mod.glob.keeps I.bk) hm h) hd
theorem ld_blt {E:Value→Shared→Prop} {pins:List (Addr × Obj)} {s:Shared} {σ:St} {H:Hp} {x:Str} {u:Value} {pos:Pos} {Q:Value→Shared→Prop} (I:Inv X pins σ H s) (hg:Gl X x) (hm:X.mg x = none) (hv:bootBuiltins x = some u) (h:Q u s)
    (hn:x ≠ "__name__":=by decide) (hd:(x == ("__debug__":Str)) = false:=by decide):wpAny (model X.prog X.w) X.A (eval (.Name x pos) X.env) Q E s:=by
  obtain ⟨mb,h1,h2⟩:=I.mod.blt
  exact Calls.Name_function_global I.ok.kind hg (Calls.loadGlobal_builtin (by rw [I.ok.glob]; exact I.mod.glob.keeps I.bk) hm (by rw [I.ok.blt]; exact h1.keeps I.bk) ((h2 x hn).trans hv) h) hd
theorem pe_glob {x:Str} {v:V} {u:Value} {pos:Pos} (hg:Gl X x) (hm:X.mg x = some u) (r:RelV v u) (hd:(x == ("__debug__":Str)) = false:=by decide):PE X (.Name x pos) (tC v) :=
  fun _ _ _ H _ I h=>ld_glob I hg hm ⟨v,H,I,r,h⟩ hd
theorem pe_bltn {x:Str} {v:V} {u:Value} {pos:Pos} (hg:Gl X x) (hm:X.mg x = none) (hv:bootBuiltins x = some u) (r:RelV v u) (hn:x ≠ "__name__":=by decide) (hd:(x == ("__debug__":Str)) = false:=by decide):PE X (.Name x pos) (tC v) :=
  fun _ _ _ H _ I h=>ld_blt I hg hm hv ⟨v,H,I,r,h⟩ hn hd
variable {a b:Expr} {ta tb:TE} {pos:Pos}
variable {tA tB':TT} {rest:List Expr}
noncomputable def tAnd (t u:TT):TT:=fun σ H Q=>t σ H fun c H1=>if c = true then u σ H1 Q else Q false H1
noncomputable def tOr (t u:TT):TT:=fun σ H Q=>t σ H fun c H1=>if c = true then Q true H1 else u σ H1 Q
noncomputable def tNot (t:TT):TT:=fun σ H Q=>t σ H fun c H1=>Q (!c) H1
theorem pw_and1 (ha:PT X a tA):PW X (.BoolOp .And [a] pos) tA:=by
  intro wh pins s σ H Q I h
  refine isTrue_and (thn (ha pins s σ H Q I h) fun c s1 e=>?_)
  cases c with
  | true=>exact isTrue_and_nil e
  | false=>exact e
theorem pw_or1 (ha:PT X a tA):PW X (.BoolOp .Or [a] pos) tA:=by
  intro wh pins s σ H Q I h
  refine isTrue_or (thn (ha pins s σ H Q I h) fun c s1 e=>?_)
  cases c with
  | false=>exact isTrue_or_nil e
  | true=>exact e
theorem pw_and (ha:PT X a tA) (hb:PW X (.BoolOp .And (b :: rest) pos) tB'):PW X (.BoolOp .And (a :: b :: rest) pos) (tAnd tA tB'):=by
  intro wh pins s σ H Q I h
  refine isTrue_and (thn (ha pins s σ H _ I h) fun c s1 ⟨H1,I1,q1⟩=>?_)
  cases c with
  | true=>exact hb wh pins s1 σ H1 Q I1 q1
  | false=>exact ⟨H1,I1,q1⟩
theorem pw_or (ha:PT X a tA) (hb:PW X (.BoolOp .Or (b :: rest) pos) tB'):PW X (.BoolOp .Or (a :: b :: rest) pos) (tOr tA tB'):=by
  intro wh pins s σ H Q I h
  refine isTrue_or (thn (ha pins s σ H _ I h) fun c s1 ⟨H1,I1,q1⟩=>?_)
  cases c with
  | true=>exact ⟨H1,I1,q1⟩
  | false=>exact hb wh pins s1 σ H1 Q I1 q1
theorem pt_not (ha:PT X a tA):PT X (.UnaryOp .Not a pos) (tNot tA):=by
  intro pins s σ H Q I h
  exact isTrue_not (ha pins s σ H (fun c H1=>Q (!c) H1) I h)
noncomputable def tAndV (ta tb:TE):TE:=fun σ H Q=>ta σ H fun x H1=>∃ c,x = .bl c∧if c = true then tb σ H1 Q else Q (.bl false) H1
noncomputable def tOrV (ta tb:TE):TE:=fun σ H Q=>ta σ H fun x H1=>∃ c,x = .bl c∧if c = true then Q (.bl true) H1 else tb σ H1 Q
theorem pe_one {op} {t:TE} (h:PE X a t):PE X (.BoolOp op [a] pos) t:=fun pins s σ H Q I hw=>BoolOp_one (h pins s σ H Q I hw)
theorem pe_and (ha:PE X a ta) (hb:PE X (.BoolOp .And (b :: rest) pos) tb):PE X (.BoolOp .And (a :: b :: rest) pos) (tAndV ta tb):=by
  intro pins s σ H Q I h
  refine BoolOp_and (thn (ha pins s σ H _ I h) fun v s1 ⟨x,H1,I1,r1,q1⟩=>?_)
  obtain ⟨c,rfl,q1⟩:=q1
  cases r1
  refine wpAny_truthy_bool ?_
  cases c with
  | true=>exact hb pins s1 σ H1 Q I1 q1
  | false=>exact ⟨.bl false,H1,I1,rfl,q1⟩
theorem pe_or (ha:PE X a ta) (hb:PE X (.BoolOp .Or (b :: rest) pos) tb):PE X (.BoolOp .Or (a :: b :: rest) pos) (tOrV ta tb):=by
  intro pins s σ H Q I h
  refine BoolOp_or (thn (ha pins s σ H _ I h) fun v s1 ⟨x,H1,I1,r1,q1⟩=>?_)
  obtain ⟨c,rfl,q1⟩:=q1
  cases r1
  refine wpAny_truthy_bool ?_
  cases c with
  | false=>exact hb pins s1 σ H1 Q I1 q1
  | true=>exact ⟨.bl true,H1,I1,rfl,q1⟩
noncomputable def tIf (t:TT) (ta tb:TE):TE:=fun σ H Q=>t σ H fun c H1=>if c = true then ta σ H1 Q else tb σ H1 Q
theorem pe_ifExp {c:Expr} (hc:PT X c tA) (ha:PE X a ta) (hb:PE X b tb):PE X (.IfExp c a b pos) (tIf tA ta tb):=by
  intro pins s σ H Q I h
  refine wpAny_IfExp (thn (hc pins s σ H _ I h) fun d s1 ⟨H1,I1,q1⟩=>?_)
  cases d with
  | true=>exact ha pins s1 σ H1 Q I1 q1
  | false=>exact hb pins s1 σ H1 Q I1 q1
end
end L2
namespace L2
open PySem PySem.Spec PyProof.Rows
noncomputable def SqL (K:PySem.W.Frag) (H:Hp) (a:Addr) (xs:List V):Prop :=
  Rd H a (.lst xs) ∨
    ∃ (o:Obj) (its:Array Value) (n:Nat),K.lookup a = some o∧o.cls = .type "list"∧o.dict = none∧o.data = .seq its n∧its.size ≤ sizeLine∧Vals xs its.toList
noncomputable def SqT (K:PySem.W.Frag) (H:Hp) (a:Addr) (xs:List V):Prop :=
  Rd H a (.tup xs) ∨
    ∃ (o:Obj) (its:Array Value) (n:Nat),K.lookup a = some o∧o.cls = .type "tuple"∧o.data = .seq its n∧its.size ≤ sizeLine∧Vals xs its.toList
noncomputable def absV:Value→Option V
  | .none=>some .non
  | .bool b=>some (.bl b)
  | .int i _=>some (.int i)
  | .str x _=>some (.str x)
  | .bytes b _=>some (.byt b)
  | .float b _=>some (.flt b)
  | .ref a=>some (.ref a)
  | .type n=>some (.ty n)
  | _=>none
theorem RelV.abs {x:V} {u:Value} (r:RelV x u):absV u = some x:=by
  cases x with
  | non=>cases r; rfl
  | bl _=>cases r; rfl
  | int _=>obtain ⟨t,rfl⟩:=r; rfl
  | str _=>obtain ⟨t,rfl⟩:=r; rfl
  | byt _=>obtain ⟨t,rfl⟩:=r; rfl
  | flt _=>obtain ⟨t,rfl⟩:=r; rfl
  | ref _=>cases r; rfl
  | ty _=>cases r; rfl
theorem RelV.inj {x y:V} {u:Value} (r:RelV x u) (q:RelV y u):x = y:=Option.some.inj (r.abs.symm.trans q.abs)
theorem Vals.inj:∀ {xs ys:List V} {us:List Value},Vals xs us→Vals ys us→xs = ys
  | _,_,_,.nil,.nil=>rfl
  | _,_,_,.cons r t,.cons r' t'=>by rw [r.inj r',Vals.inj t t']
section
variable {X:Cx} {pins:List (Addr × Obj)} {σ:St} {H:Hp} {s:Shared} {a:Addr} {xs ys:List V}
theorem SqL.of {K:PySem.W.Frag} (h:H a = some (.lst xs)):SqL K H a xs:=.inl (.inl h)
theorem SqT.of {K:PySem.W.Frag} (h:H a = some (.tup xs)):SqT K H a xs:=.inl (.inl h)
theorem Inv.list (I:Inv X pins σ H s) (h:SqL X.K H a xs):∃ its:List Value,Vals xs its∧PlainL s.heap a its.toArray∧xs.length ≤ sizeLine:=by
  rcases h with h | ⟨o,its,n,hk,hc,hd,hs,hz,r⟩
  · obtain ⟨z,its,n,r,e⟩:=h.ok I.hok
    exact ⟨its,r,⟨_,n,e,rfl,rfl,rfl⟩,z⟩
  · refine ⟨its.toList,r,⟨o,n,I.kIn a o hk,hc,hd,by simpa using hs⟩,?_⟩
    have e:=r.length
    simp only [Array.length_toList] at e
    omega
theorem Inv.tuple (I:Inv X pins σ H s) (h:SqT X.K H a xs):∃ its:List Value,Vals xs its∧IsTup s.heap a its.toArray∧xs.length ≤ sizeLine:=by
  rcases h with h | ⟨o,its,n,hk,hc,hs,hz,r⟩
  · obtain ⟨z,its,r,p⟩:=h.ok I.hok
    exact ⟨its,r,p,z⟩
  · refine ⟨its.toList,r,⟨o,I.kIn a o hk,hc,n,by simpa using hs⟩,?_⟩
    have e:=r.length
    simp only [Array.length_toList] at e
    omega
theorem Inv.list_inj (I:Inv X pins σ H s) (h:SqL X.K H a xs) (h':SqL X.K H a ys):xs = ys:=by
  obtain ⟨its,r,⟨o,n,e,_,_,d⟩,_⟩:=I.list h
  obtain ⟨its',r',⟨o',n',e',_,_,d'⟩,_⟩:=I.list h'
  rw [e] at e'; cases e'
  rw [d] at d'
  injection d' with d1 _
  have:its = its':=by simpa using congrArg Array.toList d1
  subst this
  exact r.inj r'
theorem Inv.tuple_inj (I:Inv X pins σ H s) (h:SqT X.K H a xs) (h':SqT X.K H a ys):xs = ys:=by
  obtain ⟨its,r,⟨o,e,_,n,d⟩,_⟩:=I.tuple h
  obtain ⟨its',r',⟨o',e',_,n',d'⟩,_⟩:=I.tuple h'
  rw [e] at e'; cases e'
  rw [d] at d'
  injection d' with d1 _
  have:its = its':=by simpa using congrArg Array.toList d1
  subst this
  exact r.inj r'
end
noncomputable abbrev Cx.wish (X:Cx) (E:Value→Shared→Prop):Cx:={ X with xe:=E }
noncomputable abbrev Cx.nox (X:Cx):Cx:=X.wish fun _ _=>False
theorem Cx.Ok.wish {X:Cx} (ok:X.Ok) (E:Value→Shared→Prop):(X.wish E).Ok :=
  ⟨ok.mod,ok.kind,ok.glob,ok.blt,ok.above,ok.inj,ok.has,ok.cab,ok.hd,ok.frames,ok.stk,ok.exf,ok.bs,ok.bsz,ok.noex,ok.exfs,ok.funs,ok.frf⟩
theorem Cx.Ok.unwish {X:Cx} {E:Value→Shared→Prop} (ok:(X.wish E).Ok):X.Ok :=
  ⟨ok.mod,ok.kind,ok.glob,ok.blt,ok.above,ok.inj,ok.has,ok.cab,ok.hd,ok.frames,ok.stk,ok.exf,ok.bs,ok.bsz,ok.noex,ok.exfs,ok.funs,ok.frf⟩
section
variable {X:Cx} {pins:List (Addr × Obj)} {σ:St} {H:Hp} {s:Shared} {E:Value→Shared→Prop}
theorem Inv.wish (I:Inv X pins σ H s) (E:Value→Shared→Prop):Inv (X.wish E) pins σ H s:=⟨I.ok.wish E,I.os,I.bare,I.base,I.loc,I.cell,I.free,I.freeC,I.pin,I.hok,I.len⟩
theorem Inv.unwish (I:Inv (X.wish E) pins σ H s):Inv X pins σ H s:=⟨I.ok.unwish,I.os,I.bare,I.base,I.loc,I.cell,I.free,I.freeC,I.pin,I.hok,I.len⟩
theorem SP.unwish {D:Ends} {f:Flow} {s':Shared} (h:SP (X.wish E) pins D f s'):SP X pins D f s':=by
  cases f with
  | next=>obtain ⟨σ',H',I,q⟩:=h; exact ⟨σ',H',I.unwish,q⟩
  | brk=>obtain ⟨σ',H',I,q⟩:=h; exact ⟨σ',H',I.unwish,q⟩
  | cont=>obtain ⟨σ',H',I,q⟩:=h; exact ⟨σ',H',I.unwish,q⟩
  | ret u=>obtain ⟨v,σ',H',I,r,q⟩:=h; exact ⟨v,σ',H',I.unwish,r,q⟩
theorem PE.nox {e:Expr} {t:TE} (h:PE X.nox e t):PE X e t:=fun pins s σ H Q I hw =>
  wpAny_mono (h pins s σ H Q (I.wish _) hw) (fun _ _ ⟨v,H',I',r,q⟩=>⟨v,H',I'.unwish,r,q⟩) fun _ _ z=>False.elim z
theorem PT.nox {e:Expr} {t:TT} (h:PT X.nox e t):PT X e t:=fun pins s σ H Q I hw =>
  wpAny_mono (h pins s σ H Q (I.wish _) hw) (fun _ _ ⟨H',I',q⟩=>⟨H',I'.unwish,q⟩) fun _ _ z=>False.elim z
theorem PSs.nox {st:List Stmt} {t:TS} (h:PSs X.nox st t):PSs X st t:=fun pins s σ H D I hw =>
  wpAny_mono (h pins s σ H D (I.wish _) hw) (fun _ _ q=>q.unwish) fun _ _ z=>False.elim z
end
section
variable {X:Cx} {st:Stmt} {rest:List Stmt} {t u:TS} {e:Expr} {te:TE} {pos:Pos}
noncomputable def tNext:TS:=fun D σ H=>D.nx σ H
noncomputable def tSeq (t u:TS):TS:=fun D σ H=>t { D with nx:=u D } σ H
theorem pss_nil:PSs X [] tNext:=fun _ _ σ H _ I h=>wpAny_execs_nil ⟨σ,H,I,h⟩
theorem pss_cons (h1:PS X st t) (h2:PSs X rest u):PSs X (st :: rest) (tSeq t u):=by
  intro pins s σ H D I h
  refine wpAny_execs_cons (thn (h1 pins s σ H { D with nx:=u D } I h) fun f s1 q=>?_)
  cases f with
  | next =>
    obtain ⟨σ',H',I',q⟩:=q
    exact h2 pins s1 σ' H' D I' q
  | ret v=>exact q
  | brk=>exact q
  | cont=>exact q
theorem Inv.quiet {pins:List (Addr × Obj)} {σ:St} {H:Hp} {s:Shared} (I:Inv X pins σ H s):interactive X.env = false:=by simp [interactive,I.ok.kind]
noncomputable def tDrop (te:TE):TS:=fun D σ H=>te σ H fun _ H1=>D.nx σ H1
theorem ps_expr (he:PE X e te) (hs:swapsWith e none pos.line X.env = pure false:=by rfl):PS X (.Expr e pos) (tDrop te):=by
  intro pins s σ H D I h
  exact wpAny_Expr_any (thn (he pins s σ H _ I h) fun v s1 ⟨x,H1,I1,r1,q1⟩=>⟨σ,H1,I1,q1⟩) I.quiet hs
noncomputable def tRet (te:TE):TS:=fun D σ H=>te σ H D.rt
theorem ps_ret (he:PE X e te):PS X (.Return (some e) pos) (tRet te):=by
  intro pins s σ H D I h
  exact wpAny_Return_some (thn (he pins s σ H _ I h) fun v s1 ⟨x,H1,I1,r1,q1⟩=>⟨x,σ,H1,I1,r1,q1⟩)
noncomputable def tIfS (c:TT) (t u:TS):TS:=fun D σ H=>c σ H fun b H1=>if b = true then t D σ H1 else u D σ H1
theorem ps_if {c:Expr} {a b:List Stmt} {tc:TT} (hc:PT X c tc) (ha:PSs X a t) (hb:PSs X b u):PS X (.If c a b pos) (tIfS tc t u):=by
  intro pins s σ H D I h
  refine wpAny_If (thn (hc pins s σ H _ I h) fun d s1 ⟨H1,I1,q1⟩=>?_)
  cases d with
  | true=>exact ha pins s1 σ H1 D I1 q1
  | false=>exact hb pins s1 σ H1 D I1 q1
end
noncomputable abbrev TG:=V→St→Hp→(St→Hp→Prop)→Prop
noncomputable abbrev TGs:=List V→St→Hp→(St→Hp→Prop)→Prop
noncomputable def PG (X:Cx) (target:Expr) (t:TG):Prop :=
  ∀ (pins:List (Addr × Obj)) (s:Shared) (σ:St) (H:Hp) (v:V) (u:Value) (Q:St→Hp→Prop),Inv X pins σ H s→RelV v u→t v σ H Q →
    wpAny (model X.prog X.w) X.A (assign target X.env u) (fun _ s'=>∃ σ' H',Inv X pins σ' H' s'∧Q σ' H') X.xe s
noncomputable def PGs (X:Cx) (ts:List Expr) (t:TGs):Prop :=
  ∀ (pins:List (Addr × Obj)) (s:Shared) (σ:St) (H:Hp) (vs:List V) (us:List Value) (Q:St→Hp→Prop),Inv X pins σ H s→Vals vs us→t vs σ H Q →
    wpAny (model X.prog X.w) X.A (assignInOrder ((assignEach ts X.env).map (·.2)) us) (fun _ s'=>∃ σ' H',Inv X pins σ' H' s'∧Q σ' H') X.xe s
noncomputable abbrev TSet:=V→V→V→Hp→(Hp→Prop)→Prop
noncomputable def PSet (X:Cx) (t:TSet):Prop :=
  ∀ (pins:List (Addr × Obj)) (s:Shared) (σ:St) (H:Hp) (o i v:V) (ov iv u:Value) (Q:Hp→Prop),Inv X pins σ H s→RelV o ov→RelV i iv→RelV v u→t o i v H Q →
    wpAny (model X.prog X.w) X.A (setItem ov iv u) (fun _ s'=>∃ H',Inv X pins σ H' s'∧Q H') X.xe s
section
variable {X:Cx} {pos:Pos}
noncomputable def gName (i:Nat):TG:=fun v σ H Q=>Q (σ.set i (some v)) H
theorem pg_name {i:Nat} {x:Str} (hN:X.N.Nodup) (hi:X.N[i]? = some x) (hx:Loc X.env.scope x) (hf:X.fn x = true ∨ X.env.scope.names.lookup x = some .local:=by first | exact .inl rfl | exact .inr rfl | assumption):PG X (.Name x pos) (gName i):=by
  intro pins s σ H v u Q I r h
  exact wpAny_assign_Name (store_ok I hN hi hx r (fun s' I'=>⟨_,H,I',h⟩) hf)
noncomputable def gNil:TGs:=fun vs σ H Q=>vs = []∧Q σ H
noncomputable def gCons (t:TG) (u:TGs):TGs:=fun vs σ H Q=>∃ v r,vs = v :: r∧t v σ H fun σ' H'=>u r σ' H' Q
theorem pgs_nil:PGs X [] gNil:=by
  intro pins s σ H vs us Q I r h
  obtain ⟨e,h⟩:=h
  subst e
  cases r
  exact assignInOrder_nil ⟨σ,H,I,h⟩
theorem pgs_cons {e:Expr} {es:List Expr} {t:TG} {u:TGs} (h1:PG X e t) (h2:PGs X es u)
    (hs:(assignEach (e :: es) X.env).map (·.2) = assign e X.env :: (assignEach es X.env).map (·.2):=by rfl):PGs X (e :: es) (gCons t u):=by
  intro pins s σ H vs us Q I r h
  obtain ⟨v,vr,e1,h⟩:=h
  subst e1
  cases r with
  | cons r rr =>
    rw [hs]
    refine assignInOrder_cons (thn (h1 pins s σ H _ _ _ I r h) fun _ s1 ⟨σ1,H1,I1,q1⟩=>?_)
    exact h2 pins s1 σ1 H1 _ _ Q I1 rr q1
noncomputable def gTup (K:PySem.W.Frag) (n:Nat) (t:TGs):TG:=fun v σ H Q=>∃ a xs,v = .ref a∧SqT K H a xs∧xs.length = n∧t xs σ H Q
theorem pg_tup {es:List Expr} {k:Nat} {t:TGs} {n:Nat} (hc:X.calm = true) (h:PGs X es t)
    (hn:(assignEach es X.env).length = n:=by rfl) (hst:(assignEach es X.env).findIdx? (·.1) = none:=by rfl):PG X (.Tuple es k pos) (gTup X.K n t):=by
  intro pins s σ H v u Q I r hw
  obtain ⟨a,xs,e1,hq,hl,hw⟩:=hw
  subst e1
  cases r
  obtain ⟨its,rv,ht,hz⟩:=I.tuple hq
  refine assign_Tuple_tuple (I.ok.hd hc) ht (by simp [hn,← hl,rv.length]) hst fun h' hx=>?_
  have I1:Inv X pins σ H { s with heap:=h' }:=I.kept (t':=s.toks) fun b o e=>hx b o (Nat.ne_of_lt (Heap.lt_size e)) e
  exact h pins _ σ H xs _ Q I1 (by simpa using rv) hw
noncomputable def gSub (to ti:TE) (t:TSet):TG:=fun v σ H Q=>to σ H fun o H1=>ti σ H1 fun i H2=>t o i v H2 fun H3=>Q σ H3
theorem pg_sub {o i:Expr} {to ti:TE} {t:TSet} (ho:PE X o to) (hi:PE X i ti) (hs:PSet X t)
    (ha:∀ v,assign (.Subscript o i pos) X.env v = (do
      let ov ← holding [v] (eval o X.env)
      let iv ← holding [v,ov] (eval i X.env)
      standAt pos
      holding [v,ov,iv] (setItem ov iv v)
      release [v,ov,iv] []):=by intro _; rfl):PG X (.Subscript o i pos) (gSub to ti t):=by
  intro pins s σ H v u Q I r h
  rw [ha]
  refine wpAny_bind (wpAny_holding (thn (ho pins s σ H _ I h) fun ov s1 ⟨x,H1,I1,r1,q1⟩=>?_))
  refine wpAny_bind (wpAny_holding (thn (hi pins s1 σ H1 _ I1 q1) fun iv s2 ⟨y,H2,I2,r2,q2⟩=>?_))
  refine wpAny_bind (wpAny_standAt (wpAny_bind (wpAny_holding (thn (hs pins s2 σ H2 x y v ov iv u _ I2 r1 r2 r q2) fun _ s3 ⟨H3,I3,q3⟩=>?_))))
  exact wpAny_release ⟨σ,H3,I3,q3⟩
noncomputable def tAsg (te:TE) (g:TG):TS:=fun D σ H=>te σ H fun x H1=>g x σ H1 D.nx
theorem ps_asg {tg e:Expr} {te:TE} {g:TG} (he:PE X e te) (hg:PG X tg g) (hs:swapsWithSole [tg] e pos.line X.env = pure false:=by rfl) (hw:swappedStores [tg] e X.env = pure none:=by rfl)
    (h1:(assignEach [tg] X.env).map (·.2) = [assign tg X.env]:=by rfl):PS X (.Assign [tg] e pos) (tAsg te g):=by
  intro pins s σ H D I h
  refine wpAny_Assign_stores (thn (he pins s σ H _ I h) fun v s1 ⟨x,H1,I1,r1,q1⟩=>?_) hs hw
  rw [h1]
  exact thn (hg pins s1 σ H1 x v _ I1 r1 q1) fun _ s2 q=>q
theorem ps_set {i:Nat} {x:Str} {e:Expr} {te:TE} {pos':Pos} (hN:X.N.Nodup) (hi:X.N[i]? = some x) (hx:Loc X.env.scope x) (he:PE X e te) (hs:swapsWith e (some (.Name x pos')) pos.line X.env = pure false:=by rfl) (hf:X.fn x = true ∨ X.env.scope.names.lookup x = some .local:=by first | exact .inl rfl | exact .inr rfl | assumption) :
    PS X (.Assign [.Name x pos'] e pos) (tAsg te (gName i)):=by
  intro pins s σ H D I h
  refine wpAny_Assign_Name (thn (he pins s σ H _ I h) fun v s1 ⟨y,H1,I1,r1,q1⟩=>?_) hs
  exact store_ok I1 hN hi hx r1 (fun s2 I2=>⟨_,H1,I2,q1⟩) hf
end
section
variable {X:Cx} {pos:Pos}
noncomputable def tWhile (c:TT) (tb:TS):TS:=fun D σ H=>∃ W:Nat→St→Hp→Prop,(∃ m,W m σ H)∧∀ m σ H,W m σ H →
  c σ H fun b H1=>if b = true then ∃ N:St→Hp→Prop,(∀ σ' H',N σ' H'→∃ m',m' < m∧W m' σ' H')∧tb { D with nx:=N,ct:=N,bk:=D.nx } σ H1 else D.nx σ H1
theorem ps_while {c:Expr} {body:List Stmt} {tc:TT} {tb:TS} (hp:PassesOwn (model X.prog X.w) X.A X.env X.xe) (hc:PT X c tc) (hb:PSs X body tb):PS X (.While c body [] pos) (tWhile tc tb):=by
  intro pins s σ H D I h
  obtain ⟨W,⟨m0,w0⟩,turn⟩:=h
  refine wpAny_While (codeAny_whileLoop (fun n s'=>∃ σ' H',Inv X pins σ' H' s'∧W n σ' H') ?_ m0 ⟨σ,H,I,w0⟩)
  rintro n s1 ⟨σ1,H1,I1,w1⟩
  refine wpAny_passesOwn hp (thn (hc pins s1 σ1 H1 _ I1 (turn n σ1 H1 w1)) fun b s2 ⟨H2,I2,q2⟩=>?_)
  cases b with
  | true =>
    obtain ⟨N,hN,q2⟩:=q2
    rw [if_pos rfl]
    refine wpAny_passesOwn hp (thn (hb pins s2 σ1 H2 _ I2 q2) fun f s3 q3=>?_)
    cases f with
    | next =>
      obtain ⟨σ3,H3,I3,n3⟩:=q3
      obtain ⟨m',hm,w3⟩:=hN σ3 H3 n3
      exact ⟨m',hm,σ3,H3,I3,w3⟩
    | cont =>
      obtain ⟨σ3,H3,I3,n3⟩:=q3
      obtain ⟨m',hm,w3⟩:=hN σ3 H3 n3
      exact ⟨m',hm,σ3,H3,I3,w3⟩
    | brk=>exact q3
    | ret v=>exact q3
  | false =>
    rw [if_neg Bool.false_ne_true]
    exact wpAny_execs_nil ⟨σ1,H2,I2,q2⟩
end
structure It where
  go:Nat→Hp→Prop
  yld:Nat→Hp→V→Hp→Prop
  stop:Nat→Hp→Prop
noncomputable def FpOk (X:Cx) (pins:List (Addr × Obj)) (H:Hp) (b:Addr):Prop :=
  H b = none∧b ≠ X.env.locals∧b ∉ X.fs∧(b ∈ X.ex ∨ X.s₀.heap.objs.size ≤ b)∧(∀ x c,X.env.cells.lookup x = some c→c ≠ b)∧∀ p ∈ X.pn ++ pins,p.1 ≠ b
theorem Inv.fpOk {X:Cx} {pins:List (Addr × Obj)} {σ:St} {H H':Hp} {s:Shared} {b:Addr} (I:Inv X pins σ H s) (hb:s.heap.objs.size ≤ b) (hn:H' b = none):FpOk X pins H' b:=by
  refine ⟨hn,Nat.ne_of_gt (Nat.lt_of_lt_of_le I.lt hb),I.nofs hb,.inr (Nat.le_trans I.sz hb),fun x c e z=>?_,fun p hp z=>?_⟩
  · obtain ⟨v,q⟩:=I.cell x c e
    exact absurd (Nat.lt_of_lt_of_le q.lt (by rw [z]; exact hb)) (Nat.lt_irrefl _)
  · exact absurd (Nat.lt_of_lt_of_le (Heap.lt_size (I.pin p hp).1) (by rw [z]; exact hb)) (Nat.lt_irrefl _)
structure Turn (P:Program) (w:World) (K:PySem.W.Frag) (tg:Expr) (J:It) (fp:List Addr) (it:Addr) (tn:Nat→Heap→Prop):Prop where
  mem:it ∈ fp
  obj:∀ i h,tn i h→∀ b ∈ fp,∃ o,h.get? b = some o∧∀ v,o.data ≠ .cell v
  keep:∀ i h h',tn i h→(∀ b ∈ fp,∀ o,h.get? b = some o→h'.get? b = some o)→tn i h'
  item:∀ (X:Cx),X.prog = P→X.w = w→X.K = K→X.calm = true→∀ (i:Nat) (pins:List (Addr × Obj)) (s:Shared) (σ:St) (H:Hp) (E:Value→Shared→Prop),Inv X pins σ H s→(∀ b ∈ fp,FpOk X pins H b)→tn i s.heap→J.go i H →
    wpAny (model P w) X.A (pyNext (.ref it)) (fun r s1=>∃ u,r = some u ∧
      wpAny (model P w) X.A (letOwnedTupleGo tg (.ref it) u) (fun _ s2=>∃ x H',Inv X pins σ H' s2∧RelV x u∧J.yld i H x H'∧tn (i + 1) s2.heap∧∀ b ∈ fp,H' b = none) E s1) E s
  done:∀ (X:Cx),X.prog = P→X.w = w→X.K = K→X.calm = true→∀ (i:Nat) (pins:List (Addr × Obj)) (s:Shared) (σ:St) (H:Hp) (E:Value→Shared→Prop),Inv X pins σ H s→(∀ b ∈ fp,FpOk X pins H b)→tn i s.heap→J.stop i H →
    wpAny (model P w) X.A (pyNext (.ref it)) (fun r s1=>r = none∧Inv X pins σ H s1) E s
  self:∀ (A:Around) (i:Nat) (s:Shared) (Q:Value→Shared→Prop) (E:Value→Shared→Prop),tn i s.heap→Q (.ref it) s→wpAny (model P w) A (pyIter (.ref it)) Q E s
noncomputable abbrev TI:=St→Hp→(It→Hp→Prop)→Prop
noncomputable def PIE (X:Cx) (pins:List (Addr × Obj)) (σ:St) (tg:Expr) (R:It→Hp→Prop) (itv:Value) (s2:Shared):Prop :=
  ∃ (it:Addr) (fp:List Addr) (tn:Nat→Heap→Prop) (J:It) (H':Hp),itv = .ref it∧Inv X pins σ H' s2∧Turn X.prog X.w X.K tg J fp it tn∧tn 0 s2.heap∧(∀ b ∈ fp,FpOk X pins H' b)∧R J H'
noncomputable def PI (X:Cx) (tg iter:Expr) (wi:TI):Prop :=
  ∀ (pins:List (Addr × Obj)) (s:Shared) (σ:St) (H:Hp) (R:It→Hp→Prop),Inv X pins σ H s→wi σ H R →
    wpAny (model X.prog X.w) X.A (eval iter X.env) (fun v s1=>wpAny (model X.prog X.w) X.A (pyIter v) (PIE X pins σ tg R) X.xe s1) X.xe s
theorem go_of {M:Model} {A:Around} {E:Value→Shared→Prop} {s:Shared} {tg:Expr} {it:Addr} {u:Value} {o:Obj} {n:String} {vs:Array Value} {Q:Unit→Shared→Prop} (ho:s.heap.get? it = some o) (hc:o.cls = .type n) (hd:o.data = .fields vs)
    (hn:["enumerate","zip","dict_itemiterator","dict_reverseitemiterator","odict_iterator","itertools.zip_longest","itertools.pairwise"].contains n = false) (hQ:Q () s):wpAny M A (letOwnedTupleGo tg (.ref it) u) Q E s:=by
  unfold letOwnedTupleGo
  cases tg<;>first
    | exact wpAny_pure hQ
    | (cases u<;>first
        | exact wpAny_pure hQ
        | (refine wpAny_bind (wpAny_load ho ?_)
           rw [hc,hd]
           show wpAny M A (if (["enumerate","zip","dict_itemiterator","dict_reverseitemiterator","odict_iterator","itertools.zip_longest","itertools.pairwise"].contains n && vs[0]? == some (rawInt _)) = true then _ else _) Q E s
           rw [if_neg (by intro h; rw [hn,Bool.false_and] at h; cases h)]
           exact wpAny_pure hQ))
noncomputable def Itl (K:PySem.W.Frag) (a:Addr):It :=
  ⟨fun i H=>∃ xs x,SqL K H a xs∧xs[i]? = some x,fun i H x H'=>H' = H∧∀ xs,SqL K H a xs→xs[i]? = some x,fun i H=>∃ xs,SqL K H a xs∧xs.length ≤ i⟩
noncomputable def Itt (K:PySem.W.Frag) (a:Addr):It :=
  ⟨fun i H=>∃ xs x,SqT K H a xs∧xs[i]? = some x,fun i H x H'=>H' = H∧∀ xs,SqT K H a xs→xs[i]? = some x,fun i H=>∃ xs,SqT K H a xs∧xs.length ≤ i⟩
noncomputable def Itr (lo:Int) (n:Nat):It:=⟨fun i _=>i < n,fun i H x H'=>H' = H∧x = .int (lo + i),fun i _=>n ≤ i⟩
theorem turn_list {P:Program} {w:World} {K:PySem.W.Frag} {tg:Expr} (a it:Addr):Turn P w K tg (Itl K a) [it] it (fun i h=>h.IsListIter it a i) where
  mem:=by simp
  obj:=fun i h st b hb=>by
    have e:b = it:=by simpa using hb
    subst e
    obtain ⟨o,e,c,d⟩:=st
    exact ⟨o,e,fun v z=>by rw [d] at z; cases z⟩
  keep:=fun i h h' st k=>st.at fun o e=>k it (by simp) o e
  item:=by
    intro X hP hw hK hc i pins s σ H E I hf st hg
    subst hP hw hK
    obtain ⟨xs,x,hq,hx⟩:=hg
    obtain ⟨its,rv,p,hz⟩:=I.list hq
    obtain ⟨u,hu,ru⟩:=rv.get hx
    obtain ⟨f0,f1,f2,f3,f4,f5⟩:=hf it (by simp)
    refine wpAny_pyNext_list_item st p.isList (x:=u) (by simpa using hu) fun h' st' sb=>?_
    have I1:Inv X pins σ H { s with heap:=h' }:=I.turned (t':=s.toks) (fun b o hb e=>(sb.2 b hb).trans e) f0 f1 f3 f4 f5
    obtain ⟨o,e,c,d⟩:=id st'
    exact ⟨u,rfl,go_of (s:={ s with heap:=h' }) e c d (by decide) ⟨x,H,I1,ru,⟨rfl,fun ys hy=>by rw [I.list_inj hy hq]; exact hx⟩,st',fun b hb=>(hf b hb).1⟩⟩
  done:=by
    intro X hP hw hK hc i pins s σ H E I hf st hg
    subst hP hw hK
    obtain ⟨xs,hq,hx⟩:=hg
    obtain ⟨its,rv,p,hz⟩:=I.list hq
    obtain ⟨f0,f1,f2,f3,f4,f5⟩:=hf it (by simp)
    have hl:=rv.length
    exact wpAny_pyNext_list_end (I.ok.hd hc) st p.isList (by simp; omega) fun h' eb=>⟨rfl,I.turned (t':=s.toks) (fun b o hb e=>eb b o hb e) f0 f1 f3 f4 f5⟩
  self:=fun _ _ _ _ _ st h=>wpAny_pyIter_listiter st h
theorem turn_tuple {P:Program} {w:World} {K:PySem.W.Frag} {tg:Expr} (a it:Addr):Turn P w K tg (Itt K a) [it] it (fun i h=>h.IsTupleIter it a i) where
  mem:=by simp
  obj:=fun i h st b hb=>by
    have e:b = it:=by simpa using hb
    subst e
    obtain ⟨o,e,c,d⟩:=st
    exact ⟨o,e,fun v z=>by rw [d] at z; cases z⟩
  keep:=fun i h h' st k=>st.at fun o e=>k it (by simp) o e
  item:=by
    intro X hP hw hK hc i pins s σ H E I hf st hg
    subst hP hw hK
    obtain ⟨xs,x,hq,hx⟩:=hg
    obtain ⟨its,rv,p,hz⟩:=I.tuple hq
    obtain ⟨u,hu,ru⟩:=rv.get hx
    obtain ⟨f0,f1,f2,f3,f4,f5⟩:=hf it (by simp)
    refine wpAny_pyNext_tuple_item st (show s.heap.IsTuple a its.toArray from p) (x:=u) (by simpa using hu) fun h' st' sb=>?_
    have I1:Inv X pins σ H { s with heap:=h' }:=I.turned (t':=s.toks) (fun b o hb e=>(sb.2 b hb).trans e) f0 f1 f3 f4 f5
    obtain ⟨o,e,c,d⟩:=id st'
    exact ⟨u,rfl,go_of (s:={ s with heap:=h' }) e c d (by decide) ⟨x,H,I1,ru,⟨rfl,fun ys hy=>by rw [I.tuple_inj hy hq]; exact hx⟩,st',fun b hb=>(hf b hb).1⟩⟩
  done:=by
    intro X hP hw hK hc i pins s σ H E I hf st hg
    subst hP hw hK
    obtain ⟨xs,hq,hx⟩:=hg
    obtain ⟨its,rv,p,hz⟩:=I.tuple hq
    obtain ⟨f0,f1,f2,f3,f4,f5⟩:=hf it (by simp)
    have hl:=rv.length
    exact wpAny_pyNext_tuple_end (I.ok.hd hc) st (show s.heap.IsTuple a its.toArray from p) (by simp; omega) fun h' eb=>⟨rfl,I.turned (t':=s.toks) (fun b o hb e=>eb b o hb e) f0 f1 f3 f4 f5⟩
  self:=fun _ _ _ _ _ st h=>wpAny_pyIter_tupleiter st h
theorem turn_range {P:Program} {w:World} {K:PySem.W.Frag} {tg:Expr} (it:Addr) (lo:Int) (n:Nat):Turn P w K tg (Itr lo n) [it] it (fun i h=>IsRangeIter h it (lo + (i:Nat) * 1) ((n:Int) - (i:Nat)) 1) where
  mem:=by simp
  obj:=fun i h st b hb=>by
    have e:b = it:=by simpa using hb
    subst e
    exact ⟨_,st,fun v z=>by
      have z':Data.fields _ = Data.cell v:=z
      cases z'⟩
  keep:=fun i h h' st k=>k it (by simp) _ st
  item:=by
    intro X hP hw hK hc i pins s σ H E I hf st hg
    subst hP hw hK
    obtain ⟨f0,f1,f2,f3,f4,f5⟩:=hf it (by simp)
    have W:=Walks.range (prog:=X.prog) (w:=X.w) (I.ok.hd hc) it lo 1 n
    refine W.item i s _ _ hg st fun v h' tk hv st' kk=>?_
    obtain ⟨t,rfl⟩:=hv
    have I1:Inv X pins σ H { s with heap:=h',toks:=tk }:=I.turned (fun b o hb e=>kk b o (by simpa using hb) e) f0 f1 f3 f4 f5
    refine ⟨_,rfl,go_of (s:={ s with heap:=h',toks:=tk }) (n:="range_iterator") st' rfl rfl (by decide) ⟨.int (lo + i),H,I1,⟨t,?_⟩,⟨rfl,rfl⟩,st',fun b hb=>(hf b hb).1⟩⟩
    rw [Int.mul_one]
  done:=by
    intro X hP hw hK hc i pins s σ H E I hf st hg
    subst hP hw hK
    obtain ⟨f0,f1,f2,f3,f4,f5⟩:=hf it (by simp)
    exact wpAny_pyNext_range_end (I.ok.hd hc) st (by have:n ≤ i:=hg; omega) fun h' eb=>⟨rfl,I.turned (t':=s.toks) (fun b o hb e=>eb b o hb e) f0 f1 f3 f4 f5⟩
  self:=fun _ _ _ _ _ st h=>wpAny_pyIter_rangeiter st h
end L2
namespace L2
open PySem PySem.Spec PyProof.Rows
section
variable {X:Cx} {tg:Expr}
theorem range_it {pins:List (Addr × Obj)} {σ:St} {H:Hp} {s:Shared} {R:It→Hp→Prop} {E:Value→Shared→Prop} {lo hi:Int} {t u v:Tok} {tk:Nat} (I:Inv X pins σ H s) (h1:-(2 ^ 62) ≤ lo) (h2:lo < 2 ^ 62) (h3:-(2 ^ 62) ≤ hi) (h4:hi < 2 ^ 62)
    (q:R (Itr lo (hi - lo).toNat) H):wpAny (model X.prog X.w) X.A (pyIter (.ref s.heap.objs.size)) (PIE X pins σ tg R) E { s with heap:=s.heap.push { cls:=.type "range",data:=.fields #[.int lo t,.int hi u,.int 1 v] },toks:=tk }:=by
  refine wpAny_pyIter_range (IsRange.new ..) (small_one h1 h2 h3 h4) ?_
  have I1:Inv X pins σ H { s with heap:=s.heap.push { cls:=.type "range",data:=.fields #[.int lo t,.int hi u,.int 1 v] },toks:=tk }:=I.kept fun b o e=>Heap.get?_push_of_some _ e
  refine ⟨(s.heap.push { cls:=.type "range",data:=.fields #[.int lo t,.int hi u,.int 1 v] }).objs.size,[(s.heap.push { cls:=.type "range",data:=.fields #[.int lo t,.int hi u,.int 1 v] }).objs.size],_,_,H,rfl,
    I1.kept (t':=tk) fun b o e=>Heap.get?_push_of_some _ e,turn_range _ lo (hi - lo).toNat,?_,fun b hb=>?_,q⟩
  · have e1:lo + ((0:Nat):Int) * 1 = lo:=by simp
    have e2:(((hi - lo).toNat:Nat):Int) - ((0:Nat):Int) = Builtin.Range.rangeSize lo hi 1:=by rw [rangeSize_one]; split<;>omega
    show IsRangeIter _ _ (lo + ((0:Nat):Int) * 1) ((((hi - lo).toNat:Nat):Int) - ((0:Nat):Int)) 1
    rw [e1,e2]
    exact Heap.get?_push_size _ rfl
  · have e:b = (s.heap.push { cls:=.type "range",data:=.fields #[.int lo t,.int hi u,.int 1 v] }).objs.size:=by simpa using hb
    subst e
    exact I1.fpOk (Nat.le_refl _) (I1.hok.fresh (Nat.le_refl _))
noncomputable def iRng1 (ta:TA):TI:=fun σ H R=>ta σ H fun vs H1=>∃ j:Int,vs = [.int j]∧-(2 ^ 62) ≤ j∧j < 2 ^ 62∧R (Itr 0 j.toNat) H1
theorem pi_range1 {a:Expr} {ta:TA} {p pos:Pos} (hg:Gl X "range") (hm:X.mg "range" = none) (ha:PA X [a] ta) (hs:starEach [a] X.env = [(false,eval a X.env)]:=by rfl):PI X tg (.Call (.Name "range" p) [a] [] pos) (iRng1 ta):=by
  intro pins s σ H R I h
  refine Call_ (ld_blt I hg hm boot_range (PyProof.Rows.callWith_type1 (thn (ha pos pins s σ H _ I h) fun us s1 ⟨vs,H1,I1,r1,q1⟩=>?_) hs rfl))
  obtain ⟨j,e,q1,q2,q⟩:=q1
  subst e
  cases r1 with
  | cons r rr =>
    cases rr
    obtain ⟨t,rfl⟩:=r
    exact call_range_1 (range_it I1 (by omega) (by omega) q1 q2 (by simpa using q))
noncomputable def tFor (wi:TI) (g:TG) (tb:TS):TS:=fun D σ H=>wi σ H fun J H1=>∃ W:Nat→Nat→St→Hp→Prop,(∃ m,W 0 m σ H1)∧∀ i m σ H,W i m σ H →
  (J.stop i H∧D.nx σ H) ∨ (J.go i H∧∃ N:St→Hp→Prop,(∀ σ' H',N σ' H'→∃ m',m' < m∧W (i + 1) m' σ' H')∧∀ x H',J.yld i H x H'→g x σ H' fun σ2 H2=>tb { D with nx:=N,ct:=N,bk:=D.nx } σ2 H2)
noncomputable def pinsAt (fp:List Addr) (h:Heap):List (Addr × Obj):=fp.filterMap fun b=>(h.get? b).map fun o=>(b,o)
theorem mem_pinsAt {fp:List Addr} {h:Heap} {b:Addr} {o:Obj} (hb:b ∈ fp) (e:h.get? b = some o):(b,o) ∈ pinsAt fp h:=List.mem_filterMap.mpr ⟨b,hb,by rw [e]; rfl⟩
theorem of_pinsAt {fp:List Addr} {h:Heap} {p:Addr × Obj} (hp:p ∈ pinsAt fp h):p.1 ∈ fp∧h.get? p.1 = some p.2:=by
  obtain ⟨b,hb,e⟩:=List.mem_filterMap.mp hp
  cases q:h.get? b with
  | none=>rw [q] at e; cases e
  | some o =>
    rw [q] at e
    have e':(b,o) = p:=Option.some.inj e
    subst e'
    exact ⟨hb,q⟩
theorem Inv.pinned {pins:List (Addr × Obj)} {σ:St} {H:Hp} {s:Shared} {fp:List Addr} (I:Inv X pins σ H s) (hf:∀ b ∈ fp,FpOk X pins H b) (ho:∀ b ∈ fp,∃ o,s.heap.get? b = some o∧∀ v,o.data ≠ .cell v):Inv X (pins ++ pinsAt fp s.heap) σ H s :=
  I.pins_of fun p hp=>(List.mem_append.mp hp).elim (fun z=>I.pin p (List.mem_append_right _ z)) fun z=>by
    obtain ⟨hb,e⟩:=of_pinsAt z
    obtain ⟨f0,f1,f2,_⟩:=hf p.1 hb
    obtain ⟨o,e',d⟩:=ho p.1 hb
    rw [e] at e'; cases e'
    exact ⟨e,f0,f1,f2,d⟩
theorem Inv.unpinned {pins pl:List (Addr × Obj)} {σ:St} {H:Hp} {s:Shared} (I:Inv X (pins ++ pl) σ H s):Inv X pins σ H s:=I.pins_of fun p hp=>I.pin p (List.mem_append_right _ (List.mem_append_left _ hp))
theorem ps_for {iter:Expr} {body:List Stmt} {wi:TI} {g:TG} {tb:TS} {pos:Pos} (hp:PassesOwn (model X.prog X.w) X.A X.env X.xe) (hc:X.calm = true) (hi:PI X tg iter wi) (hg:PG X tg g) (hb:PSs X body tb)
    (hs:∀ x,foldedSetIterable iter X.env x = pure x:=by intro _; rfl):PS X (.For tg iter body [] pos) (tFor wi g tb):=by
  intro pins s σ H D I h
  refine wpAny_For (thn (hi pins s σ H _ I h) fun v s1 h1=>thn h1 fun itv s2 h2=>?_) hs
  obtain ⟨it,fp,tn,J,H2,e,I2,T,st2,f2,W,⟨m0,w0⟩,turn⟩:=h2
  subst e
  have stat:∀ {H':Hp},(∀ b ∈ fp,H' b = none)→∀ b ∈ fp,FpOk X pins H' b:=fun hn b hb=>⟨hn b hb,(f2 b hb).2⟩
  refine codeAny_forLoop_any (fun n s'=>∃ i σ' H',Inv X pins σ' H' s'∧tn i s'.heap∧(∀ b ∈ fp,H' b = none)∧W i n σ' H') ?_ m0 ⟨0,σ,H2,I2,st2,fun b hb=>(f2 b hb).1,w0⟩
  rintro n s3 ⟨i,σ3,H3,I3,st3,fr3,w3⟩
  rcases turn i n σ3 H3 w3 with ⟨stop,qn⟩ | ⟨go,N,hN,step⟩
  · refine wpAny_passesOwn hp (thn (T.done X rfl rfl rfl hc i pins s3 σ3 H3 X.xe I3 (stat fr3) st3 stop) fun r s4 ⟨hr,I4⟩=>?_)
    subst hr
    exact wpAny_execs_nil ⟨σ3,H3,I4,qn⟩
  · refine wpAny_passesOwn hp (thn (T.item X rfl rfl rfl hc i pins s3 σ3 H3 X.xe I3 (stat fr3) st3 go) fun r s4 ⟨u,hr,h4⟩=>?_)
    subst hr
    refine wpAny_passesOwn hp (thn h4 fun _ s5 ⟨x,H5,I5,r5,y5,st5,fr5⟩=>?_)
    have I5':=I5.pinned (stat fr5) (T.obj _ _ st5)
    refine wpAny_passesOwn hp (thn (hg _ s5 σ3 H5 x u _ I5' r5 (step x H5 y5)) fun _ s6 ⟨σ6,H6,I6,q6⟩=>?_)
    refine wpAny_passesOwn hp (thn (hb _ s6 σ6 H6 _ I6 q6) fun f s7 q7=>?_)
    have again:∀ {σ7:St} {H7:Hp},Inv X (pins ++ pinsAt fp s5.heap) σ7 H7 s7→N σ7 H7→∃ m,m < n∧∃ i σ' H',Inv X pins σ' H' s7∧tn i s7.heap∧(∀ b ∈ fp,H' b = none)∧W i m σ' H':=fun {σ7 H7} I7 n7=>by
      obtain ⟨m',hm,w7⟩:=hN σ7 H7 n7
      refine ⟨m',hm,i + 1,σ7,H7,I7.unpinned,T.keep _ _ _ st5 fun b hb o e=>(I7.pin (b,o) (List.mem_append_right _ (List.mem_append_right _ (mem_pinsAt hb e)))).1,fun b hb=>?_,w7⟩
      obtain ⟨o,e,d⟩:=T.obj _ _ st5 b hb
      exact (I7.pin (b,o) (List.mem_append_right _ (List.mem_append_right _ (mem_pinsAt hb e)))).2.1
    cases f with
    | next=>obtain ⟨σ7,H7,I7,n7⟩:=q7; exact again I7 n7
    | cont=>obtain ⟨σ7,H7,I7,n7⟩:=q7; exact again I7 n7
    | brk=>obtain ⟨σ7,H7,I7,q7⟩:=q7; exact ⟨σ7,H7,I7.unpinned,q7⟩
    | ret v=>obtain ⟨x7,σ7,H7,I7,r7,q7⟩:=q7; exact ⟨x7,σ7,H7,I7.unpinned,r7,q7⟩
end
end L2
namespace L2
open PySem PySem.Spec PyProof.Rows
noncomputable abbrev R2:=V→V→Hp→VK→Prop
noncomputable def OpR (X:Cx) (f:Value→Value→Sem Value) (r:R2):Prop :=
  ∀ (pins:List (Addr × Obj)) (s:Shared) (σ:St) (H:Hp) (x y:V) (v u:Value) (Q:VK),Inv X pins σ H s→RelV x v→RelV y u→r x y H Q →
    wpAny (model X.prog X.w) X.A (f v u) (EP X pins σ Q) X.xe s
noncomputable def UnR (X:Cx) (f:Value→Sem Value) (r:V→Hp→VK→Prop):Prop :=
  ∀ (pins:List (Addr × Obj)) (s:Shared) (σ:St) (H:Hp) (x:V) (v:Value) (Q:VK),Inv X pins σ H s→RelV x v→r x H Q →
    wpAny (model X.prog X.w) X.A (f v) (EP X pins σ Q) X.xe s
noncomputable def CallR (X:Cx) (f:Value) (r:List V→Hp→VK→Prop):Prop :=
  ∀ (pins:List (Addr × Obj)) (s:Shared) (σ:St) (H:Hp) (xs:List V) (us:List Value) (Q:VK),Inv X pins σ H s→Vals xs us→r xs H Q →
    wpAny (model X.prog X.w) X.A (call f us) (EP X pins σ Q) X.xe s
noncomputable def TruR (X:Cx) (r:V→Hp→(Bool→Hp→Prop)→Prop):Prop :=
  ∀ (pins:List (Addr × Obj)) (s:Shared) (σ:St) (H:Hp) (x:V) (v:Value) (Q:Bool→Hp→Prop),Inv X pins σ H s→RelV x v→r x H Q →
    wpAny (model X.prog X.w) X.A (truthy v) (TP X pins σ Q) X.xe s
noncomputable def tOp (r:R2) (ta tb:TE):TE:=fun σ H Q=>ta σ H fun x H1=>tb σ H1 fun y H2=>r x y H2 Q
noncomputable def tUn (r:V→Hp→VK→Prop) (ta:TE):TE:=fun σ H Q=>ta σ H fun x H1=>r x H1 Q
noncomputable def rI (C:Int→Int→Prop) (g:Int→Int→V):R2:=fun x y H Q=>∃ i j,x = .int i∧y = .int j∧C i j∧Q (g i j) H
noncomputable def rI0 (g:Int→Int→V):R2:=fun x y H Q=>∃ i j,x = .int i∧y = .int j∧Q (g i j) H
noncomputable def rU (g:Int→V):V→Hp→VK→Prop:=fun x H Q=>∃ i,x = .int i∧Q (g i) H
section
variable {X:Cx} {a b c:Expr} {ta tb tc:TE} {pos:Pos}
theorem binT (ha:PE X a ta) (hb:PE X b tb) {pins:List (Addr × Obj)} {s:Shared} {σ:St} {H:Hp} {R:V→V→Hp→Prop} (I:Inv X pins σ H s)
    (h:ta σ H fun x H1=>tb σ H1 fun y H2=>R x y H2) {Q:Value→Shared→Prop} {f:Value→Value→Sem Value}
    (hf:∀ v u s2 x y H2,Inv X pins σ H2 s2→RelV x v→RelV y u→R x y H2→wpAny (model X.prog X.w) X.A (f v u) Q X.xe s2) :
    wpAny (model X.prog X.w) X.A (eval a X.env) (fun v s₁=>wpAny (model X.prog X.w) X.A (eval b X.env) (fun u s₂=>wpAny (model X.prog X.w) X.A (f v u) Q X.xe s₂) X.xe s₁) X.xe s:=by
  refine thn (ha pins s σ H _ I h) fun v s1 ⟨x,H1,I1,r1,q1⟩=>?_
  refine thn (hb pins s1 σ H1 _ I1 q1) fun u s2 ⟨y,H2,I2,r2,q2⟩=>?_
  exact hf v u s2 x y H2 I2 r1 r2 q2
theorem pe_op {op:Operator} {r:R2} (ho:OpR X (binaryOp op) r) (ha:PE X a ta) (hb:PE X b tb):PE X (.BinOp a op b pos) (tOp r ta tb):=by
  intro pins s σ H Q I h
  exact wpAny_BinOp (binT ha hb I h fun v u s2 x y H2 I2 rx ry q=>ho pins s2 σ H2 x y v u Q I2 rx ry q)
theorem pe_un {op:UnaryOp} {r:V→Hp→VK→Prop} (ho:UnR X (unaryOp op) r) (ha:PE X a ta):PE X (.UnaryOp op a pos) (tUn r ta):=by
  intro pins s σ H Q I h
  exact UnaryOp_ (thn (ha pins s σ H _ I h) fun v s1 ⟨x,H1,I1,r1,q1⟩=>ho pins s1 σ H1 x v Q I1 r1 q1)
theorem opI {f:Value→Value→Sem Value} {C:Int→Int→Prop} {g:Int→Int→Int}
    (rule:∀ (i j:Int) (t u:Tok) (s:Shared) (Q:Value→Shared→Prop) (E:Value→Shared→Prop),C i j→Q (.int (g i j) s.toks) { s with toks:=s.toks + 1 }→wpAny (model X.prog X.w) X.A (f (.int i t) (.int j u)) Q E s) :
    OpR X f (rI C fun i j=>.int (g i j)):=by
  intro pins s σ H x y v u Q I rx ry h
  obtain ⟨i,j,rfl,rfl,hc,q⟩:=h
  obtain ⟨t,rfl⟩:=rx
  obtain ⟨t',rfl⟩:=ry
  exact rule i j t t' s _ _ hc ⟨.int (g i j),H,I.tok _,⟨_,rfl⟩,q⟩
theorem opI0 {f:Value→Value→Sem Value} {g:Int→Int→Int}
    (rule:∀ (i j:Int) (t u:Tok) (s:Shared) (Q:Value→Shared→Prop) (E:Value→Shared→Prop),Q (.int (g i j) s.toks) { s with toks:=s.toks + 1 }→wpAny (model X.prog X.w) X.A (f (.int i t) (.int j u)) Q E s) :
    OpR X f (rI0 fun i j=>.int (g i j)):=by
  intro pins s σ H x y v u Q I rx ry h
  obtain ⟨i,j,rfl,rfl,q⟩:=h
  obtain ⟨t,rfl⟩:=rx
  obtain ⟨t',rfl⟩:=ry
  exact rule i j t t' s _ _ ⟨.int (g i j),H,I.tok _,⟨_,rfl⟩,q⟩
theorem opB0 {f:Value→Value→Sem Value} {g:Int→Int→Bool}
    (rule:∀ (i j:Int) (t u:Tok) (s:Shared) (Q:Value→Shared→Prop) (E:Value→Shared→Prop),Q (.bool (g i j)) s→wpAny (model X.prog X.w) X.A (f (.int i t) (.int j u)) Q E s) :
    OpR X f (rI0 fun i j=>.bl (g i j)):=by
  intro pins s σ H x y v u Q I rx ry h
  obtain ⟨i,j,rfl,rfl,q⟩:=h
  obtain ⟨t,rfl⟩:=rx
  obtain ⟨t',rfl⟩:=ry
  exact rule i j t t' s _ _ ⟨.bl (g i j),H,I,rfl,q⟩
noncomputable def CPow (i j:Int):Prop:=0 ≤ j∧j ≤ 1000000∧i.natAbs < 2 ^ 64
noncomputable def CMul (i j:Int):Prop:=(-(2 ^ 64) < i∧i < 2 ^ 64) ∨ (-(2 ^ 64) < j∧j < 2 ^ 64)
theorem CMul.ok {i j:Int} (h:CMul i j):IntMulOk i j:=by
  rcases h with ⟨h1,h2⟩ | ⟨h1,h2⟩
  · exact .of_left (intBits_le_64 h1 h2)
  · exact .of_right (intBits_le_64 h1 h2)
theorem op_add:OpR X (binaryOp .Add) (rI0 fun i j=>.int (i + j)):=opI0 fun _ _ _ _ _ _ _ q=>add_int q
theorem op_sub:OpR X (binaryOp .Sub) (rI0 fun i j=>.int (i - j)):=opI0 fun _ _ _ _ _ _ _ q=>sub_int q
theorem op_mod:OpR X (binaryOp .Mod) (rI (fun _ j=>0 < j) fun i j=>.int (i % j)):=opI fun i j _ _ _ _ _ hc q=>by
  have h1:(0:Int) < j:=hc
  exact mod_int' (by omega) (by rw [Int.fmod_eq_emod_of_nonneg i (by omega)]; exact q)
theorem op_pow:OpR X (binaryOp .Pow) (rI CPow fun i j=>.int (i ^ j.toNat)):=opI fun _ _ _ _ _ _ _ hc q=>pow_int_small hc.1 hc.2.1 hc.2.2 q
theorem unI {f:Value→Sem Value} {g:Int→Int}
    (rule:∀ (i:Int) (t:Tok) (s:Shared) (Q:Value→Shared→Prop) (E:Value→Shared→Prop),Q (.int (g i) s.toks) { s with toks:=s.toks + 1 }→wpAny (model X.prog X.w) X.A (f (.int i t)) Q E s) :
    UnR X f (rU fun i=>.int (g i)):=by
  intro pins s σ H x v Q I rx h
  obtain ⟨i,rfl,q⟩:=h
  obtain ⟨t,rfl⟩:=rx
  exact rule i t s _ _ ⟨.int (g i),H,I.tok _,⟨_,rfl⟩,q⟩
theorem un_neg:UnR X (unaryOp .USub) (rU fun i=>.int (-i)):=unI fun _ _ _ _ _ q=>neg_int q
end
section
variable {X:Cx} {a b c:Expr} {ta tb tc:TE} {pos:Pos}
theorem fin_bl {pins:List (Addr × Obj)} {σ:St} {H:Hp} {s:Shared} {Q:VK} {k k':Bool} (I:Inv X pins σ H s) (q:Q (.bl k) H) (e:k = k'):EP X pins σ Q (.bool k') s:=by
  subst e
  exact ⟨.bl k,H,I,rfl,q⟩
theorem op_lt:OpR X (compareOp .Lt) (rI0 fun i j=>.bl (decide (i < j))):=opB0 fun _ _ _ _ _ _ _ q=>lt_int q
theorem op_le:OpR X (compareOp .LtE) (rI0 fun i j=>.bl (decide (i ≤ j))):=opB0 fun _ _ _ _ _ _ _ q=>le_int q
theorem op_gt:OpR X (compareOp .Gt) (rI0 fun i j=>.bl (decide (j < i))):=opB0 fun _ _ _ _ _ _ _ q=>gt_int q
theorem op_ge:OpR X (compareOp .GtE) (rI0 fun i j=>.bl (decide (j ≤ i))):=opB0 fun _ _ _ _ _ _ _ q=>ge_int q
theorem op_in_str:OpR X (compareOp .In) (fun x y H Q=>∃ i j,x = .str i∧y = .str j∧Q (.bl (!(Builtin.Str.occurrences j i 0 j.length 1).isEmpty)) H):=by
  intro pins s σ H x y v u Q I rx ry h
  obtain ⟨i,j,rfl,rfl,q⟩:=h
  obtain ⟨t,rfl⟩:=rx
  obtain ⟨t',rfl⟩:=ry
  exact in_str (fin_bl I q rfl)
theorem nomark (b:Expr) {op:CmpOp} (h:op ≠ .In:=by decide) (h2:op ≠ .NotIn:=by decide):behindInMarks op b = false:=by
  have e1:(op == CmpOp.In) = false:=by cases op<;>first | rfl | exact absurd rfl h
  have e2:(op == CmpOp.NotIn) = false:=by cases op<;>first | rfl | exact absurd rfl h2
  cases b<;>simp [behindInMarks,e1,e2]
theorem pe_cmpR {op:CmpOp} {r:R2} (ho:OpR X (compareOp op) r) (ha:PE X a ta) (hb:PE X b tb) (hm:behindInMarks op b = false):PE X (.Compare a [op] [b] pos) (tOp r ta tb):=by
  intro pins s σ H Q I h
  exact wpAny_Compare1 (binT ha hb I h fun v u s2 x y H2 I2 rx ry q=>ho pins s2 σ H2 x y v u Q I2 rx ry q) hm
noncomputable def tTest (t:TE):TT:=fun σ H Q=>t σ H fun x H'=>∃ k,x = .bl k∧Q k H'
theorem pt_cmpR {op:CmpOp} {r:R2} (ho:OpR X (compareOp op) r) (ha:PE X a ta) (hb:PE X b tb) (hm:behindInMarks op b = false):PT X (.Compare a [op] [b] pos) (tTest (tOp r ta tb)):=by
  intro pins s σ H Q I h
  refine wpAny_isTrue_Compare1 (thn (ha pins s σ H _ I h) fun v s1 ⟨x,H1,I1,r1,q1⟩=>thn (hb pins s1 σ H1 _ I1 q1) fun u s2 ⟨y,H2,I2,r2,q2⟩ =>
    thn (ho pins s2 σ H2 x y v u _ I2 r1 r2 q2) fun c s3 ⟨z,H3,I3,r3,k,e,q3⟩=>?_) hm
  subst e
  cases r3
  exact wpAny_truthy_bool ⟨H3,I3,q3⟩
noncomputable def tChain (r r':R2) (ta tb tc:TE):TE:=fun σ H Q=>ta σ H fun x H1=>tb σ H1 fun y H2=>r x y H2 fun z H3=>∃ k,z = .bl k ∧
  (if k = true then tc σ H3 fun w' H4=>r' y w' H4 Q else Q (.bl false) H3)
theorem pe_chain {op op':CmpOp} {r r':R2} (ho:OpR X (compareOp op) r) (ho':OpR X (compareOp op') r') (ha:PE X a ta) (hb:PE X b tb) (hc:PE X c tc)
    (hm:lastMarks [op,op'] [b,c] = false:=by with_unfolding_all rfl):PE X (.Compare a [op,op'] [b,c] pos) (tChain r r' ta tb tc):=by
  intro pins s σ H Q I h
  refine Compare_chain (thn (ha pins s σ H _ I h) fun v s1 ⟨x,H1,I1,r1,q1⟩=>chain_link (thn (hb pins s1 σ H1 _ I1 q1) fun u s2 ⟨y,H2,I2,r2,q2⟩ =>
    thn (ho pins s2 σ H2 x y v u _ I2 r1 r2 q2) fun d s3 ⟨z,H3,I3,r3,k,e,q3⟩=>?_)) hm
  subst e
  cases r3
  refine wpAny_truthy_bool ?_
  cases k with
  | false=>exact ite_ff ⟨.bl false,H3,I3,rfl,q3⟩
  | true=>exact ite_tt (chain_last (thn (hc pins s3 σ H3 _ I3 q3) fun w' s4 ⟨z',H4,I4,r4,q4⟩=>ho' pins s4 σ H4 y z' u w' Q I4 r2 r4 q4))
theorem pt_chain {op op':CmpOp} {r r':R2} (ho:OpR X (compareOp op) r) (ho':OpR X (compareOp op') r') (ha:PE X a ta) (hb:PE X b tb) (hc:PE X c tc)
    (hm:lastMarks [op,op'] [b,c] = false:=by with_unfolding_all rfl):PT X (.Compare a [op,op'] [b,c] pos) (tTest (tChain r r' ta tb tc)):=by
  intro pins s σ H Q I h
  refine isTrue_chain (thn (ha pins s σ H _ I h) fun v s1 ⟨x,H1,I1,r1,q1⟩=>test_link (thn (hb pins s1 σ H1 _ I1 q1) fun u s2 ⟨y,H2,I2,r2,q2⟩ =>
    thn (ho pins s2 σ H2 x y v u _ I2 r1 r2 q2) fun d s3 ⟨z,H3,I3,r3,k,e,q3⟩=>?_)) hm
  subst e
  cases r3
  refine wpAny_truthy_bool ?_
  cases k with
  | false =>
    obtain ⟨k',e',q'⟩:=q3
    cases e'
    exact ite_ff ⟨H3,I3,q'⟩
  | true =>
    refine ite_tt (test_last (thn (hc pins s3 σ H3 _ I3 q3) fun w' s4 ⟨z',H4,I4,r4,q4⟩=>thn (ho' pins s4 σ H4 y z' u w' _ I4 r2 r4 q4) fun d' s5 ⟨z2,H5,I5,r5,k2,e2,q5⟩=>?_))
    subst e2
    cases r5
    exact wpAny_truthy_bool ⟨H5,I5,q5⟩
noncomputable def TruV (K:PySem.W.Frag) (x:V) (H:Hp) (k:Bool):Prop :=
  match x with
  | .non=>k = false
  | .bl b=>k = b
  | .int i=>k = (i != 0)
  | .str y=>y.length ≤ sizeLine∧k = ((y.length:Int) != 0)
  | .byt y=>y.size ≤ sizeLine∧k = ((y.size:Int) != 0)
  | .ref p=>(∃ xs,SqL K H p xs∧k = !xs.isEmpty) ∨ (∃ xs,SqT K H p xs∧k = !xs.isEmpty) ∨ ∃ kvs,H p = some (.dK kvs)∧k = !kvs.isEmpty
  | _=>False
theorem isEmpty_kv {κ:Type} {kvs:List (κ × V)} {vs:List (κ × Value)} (r:KV kvs vs):(!vs.isEmpty) = !kvs.isEmpty:=by
  cases r<;>rfl
theorem isEmpty_of {xs:List V} {its:List Value} (r:Vals xs its):(!its.toArray.isEmpty) = !xs.isEmpty:=by
  cases r<;>simp
theorem line63:(sizeLine:Nat) < 2 ^ 63:=by rw [sizeLine_eq]; decide
theorem tru_ok:TruR X (fun x H Q=>∃ k,TruV X.K x H k∧Q k H):=by
  intro pins s σ H x v Q I rx h
  obtain ⟨k,e,q⟩:=h
  have hl:=line63
  have hs:sizeLine = 16777216:=sizeLine_eq
  cases x with
  | non =>
    cases rx
    have e':k = false:=e
    subst e'
    exact truthy_none ⟨H,I,q⟩
  | bl b =>
    cases rx
    have e':k = b:=e
    subst e'
    exact wpAny_truthy_bool ⟨H,I,q⟩
  | int i =>
    obtain ⟨t,rfl⟩:=rx
    have e':k = (i != 0):=e
    subst e'
    exact PySem.P.truthy_int ⟨H,I,q⟩
  | str y =>
    obtain ⟨t,rfl⟩:=rx
    obtain ⟨hy,e'⟩:y.length ≤ sizeLine∧k = ((y.length:Int) != 0):=e
    subst e'
    exact PySem.P.truthy_str (by omega) ⟨H,I.tok _,q⟩
  | byt y =>
    obtain ⟨t,rfl⟩:=rx
    obtain ⟨hy,e'⟩:y.size ≤ sizeLine∧k = ((y.size:Int) != 0):=e
    subst e'
    exact PySem.W.truthy_bytes (by omega) ⟨H,I.tok _,q⟩
  | ref p =>
    cases rx
    have e':(∃ xs,SqL X.K H p xs∧k = !xs.isEmpty) ∨ (∃ xs,SqT X.K H p xs∧k = !xs.isEmpty) ∨ ∃ kvs,H p = some (.dK kvs)∧k = !kvs.isEmpty:=e
    rcases e' with ⟨xs,hx,e'⟩ | ⟨xs,hx,e'⟩ | ⟨kvs,hx,e'⟩
    · subst e'
      obtain ⟨its,r,pl,hz⟩:=I.list hx
      have hlen:=r.length
      exact wpAny_truthy_list pl.isList (by simp only [List.size_toArray]; omega) ⟨H,I.tok _,by rw [isEmpty_of r]; exact q⟩
    · subst e'
      obtain ⟨its,r,pl,hz⟩:=I.tuple hx
      have hlen:=r.length
      exact truthy_tuple pl (by simp only [List.size_toArray]; omega) ⟨H,I.tok _,by rw [isEmpty_of r]; exact q⟩
    · subst e'
      obtain ⟨hz,hS,vs,r,m⟩:kvs.length ≤ sizeLine∧(p == sysModules) = false∧∃ vs,KV kvs vs∧s.heap.DictOf (mixKind X.prog X.w) p vs:=I.hok p _ hx
      have hlen:kvs.length = vs.length:=Paired.length r
      exact wpAny_truthy_dict hS m (by omega) ⟨H,I.tok _,by rw [isEmpty_kv r]; exact q⟩
  | _=>exact (show False from e).elim
theorem pt_truth (ha:PE X a ta) (he:∀ whole,isTrue a X.env whole = (do let v ← whole; standAt a.pos; holding [v] (truthy v))) :
    PT X a (fun σ H Q=>ta σ H fun x H'=>∃ k,TruV X.K x H' k∧Q k H'):=by
  intro pins s σ H Q I h
  exact isTrue_plain (thn (ha pins s σ H _ I h) fun v s1 ⟨x,H1,I1,r1,q1⟩=>tru_ok pins s1 σ H1 x v Q I1 r1 q1) (he _)
theorem op_add_str:OpR X (binaryOp .Add) (fun x y H Q=>∃ i j,x = .str i∧y = .str j∧i.length + j.length ≤ sizeLine∧Q (.str (i ++ j)) H):=by
  intro pins s σ H x y v u Q I rx ry h
  obtain ⟨i,j,rfl,rfl,hz,q⟩:=h
  obtain ⟨t,rfl⟩:=rx
  obtain ⟨t',rfl⟩:=ry
  exact add_str (fun t' tk=>⟨.str (i ++ j),H,I.tok _,⟨_,rfl⟩,q⟩) hz
theorem vals1 {x:V} {us:List Value} (r:Vals [x] us):∃ u,us = [u]∧RelV x u:=by
  cases r with
  | cons r1 r2=>cases r2; exact ⟨_,rfl,r1⟩
theorem vals2 {x y:V} {us:List Value} (r:Vals [x,y] us):∃ u w',us = [u,w']∧RelV x u∧RelV y w':=by
  cases r with
  | cons r1 r2 =>
    cases r2 with
    | cons r3 r4=>cases r4; exact ⟨_,_,rfl,r1,r3⟩
theorem call_abs:CallR X (.builtin "abs") (fun xs H Q=>∃ i,xs = [.int i]∧Q (.int (if i < 0 then -i else i)) H):=by
  intro pins s σ H xs us Q I r h
  obtain ⟨i,rfl,q⟩:=h
  obtain ⟨u,rfl,t,rfl⟩:=vals1 r
  exact call_abs_int fun u tk=>⟨.int (if i < 0 then -i else i),H,I.tok _,⟨_,rfl⟩,q⟩
theorem call_max2 (hc:X.calm = true):CallR X (.builtin "max") (fun xs H Q=>∃ i j,xs = [.int i,.int j]∧Q (.int (if j > i then j else i)) H):=by
  intro pins s σ H xs us Q I r h
  obtain ⟨i,j,rfl,q⟩:=h
  obtain ⟨u,w',rfl,⟨t,rfl⟩,⟨t',rfl⟩⟩:=vals2 r
  refine max_two_ints (I.ok.hd hc) fun h' tk k=>⟨_,H,I.kept k,?_,q⟩
  by_cases hj:j > i
  · rw [if_pos hj,if_pos hj]; exact ⟨_,rfl⟩
  · rw [if_neg hj,if_neg hj]; exact ⟨_,rfl⟩
theorem call_min2 (hc:X.calm = true):CallR X (.builtin "min") (fun xs H Q=>∃ i j,xs = [.int i,.int j]∧Q (.int (if j < i then j else i)) H):=by
  intro pins s σ H xs us Q I r h
  obtain ⟨i,j,rfl,q⟩:=h
  obtain ⟨u,w',rfl,⟨t,rfl⟩,⟨t',rfl⟩⟩:=vals2 r
  refine min_two_ints (I.ok.hd hc) fun h' tk k=>⟨_,H,I.kept k,?_,q⟩
  by_cases hj:j < i
  · rw [if_pos hj,if_pos hj]; exact ⟨_,rfl⟩
  · rw [if_neg hj,if_neg hj]; exact ⟨_,rfl⟩
theorem call_int1:CallR X (.type "int") (fun xs H Q=>(∃ i,xs = [.int i]∧Q (.int i) H) ∨ ∃ k,xs = [.bl k]∧Q (.int (if k then 1 else 0)) H):=by
  intro pins s σ H xs us Q I r h
  rcases h with ⟨i,rfl,q⟩ | ⟨k,rfl,q⟩
  · obtain ⟨u,rfl,t,rfl⟩:=vals1 r
    exact call_int_int ⟨.int i,H,I,⟨_,rfl⟩,q⟩
  · obtain ⟨u,rfl,r1⟩:=vals1 r
    cases r1
    exact call_int_bool ⟨.int (if k then 1 else 0),H,I.tok _,⟨_,rfl⟩,q⟩
theorem call_str_int:CallR X (.type "str") (fun xs H Q=>∃ i,xs = [.int i]∧i.natAbs.log2 < 1920∧Q (.str (toString i)) H):=by
  intro pins s σ H xs us Q I r h
  obtain ⟨i,rfl,hz,q⟩:=h
  obtain ⟨u,rfl,t,rfl⟩:=vals1 r
  exact PySem.P.str_of_int hz ⟨.str _,H,I.tok _,⟨_,rfl⟩,q⟩
end
end L2
namespace L2
open PySem PySem.Spec PyProof.Rows
section
variable {prog:Program} {w:World} {A:Around} {E:Value→Shared→Prop} {s:Shared} {K:PySem.W.Frag} {x dx C f:Addr} {mA:Str→Option Value} {name:Str} {v:Value}
end
noncomputable def putF (f:Str) (v:V):List (Str × V)→List (Str × V)
  | []=>[(f,v)]
  | (g,x) :: r=>if g = f then (g,v) :: r else (g,x) :: putF f v r
theorem RelO.some_of {v:V} {o:Option Value} (r:RelO (some v) o):∃ u,o = some u∧RelV v u:=by
  cases o with
  | none=>exact (show False from r).elim
  | some u=>exact ⟨u,rfl,r⟩
section
variable {P:Program} {w:World} {H H':Hp} {h h':Heap} {a C dx:Addr} {fs fs':List (Str × V)}
end
structure Cls (K:PySem.W.Frag) (C:Addr):Prop where
  pg:PySem.W.plainGet K C Str.empty = true
  hd:PySem.W.hasDictIn K C = true
  po:PySem.W.plainOver K C = true
  sa:PySem.W.findIn K (.ref C) "__setattr__" = some (some (.builtin "object.__setattr__"))
theorem Cls.get {K:PySem.W.Frag} {C:Addr} (c:Cls K C) (f:Str):PySem.W.plainGet K C f = true:=c.pg
noncomputable def NoAttr (K:PySem.W.Frag) (C:Addr) (f:Str):Prop:=PySem.W.findIn K (.ref C) f = some none
structure Meth (K:PySem.W.Frag) (C:Addr) (m:Str) (f:Addr):Prop where
  at_:PySem.W.findIn K (.ref C) m = some (some (.ref f))
  fn:PySem.W.isFn K (.ref f) = true
  kp:PySem.W.keepIn K (.ref f) = true
section
variable {X:Cx} {pins:List (Addr × Obj)} {σ:St} {H:Hp} {s:Shared} {a C dx:Addr} {fs:List (Str × V)} {f:Str} {v:V} {A:Around} {E:Value→Shared→Prop}
end
section
variable {X:Cx} {o e value:Expr} {f:Str} {pos pos' tpos:Pos} {ta tv:TE}
end
section
variable {X:Cx} {pins:List (Addr × Obj)} {σ:St} {H:Hp} {s:Shared} {A:Around} {E:Value→Shared→Prop} {Q:Value→Shared→Prop} {c:Value} {b:Bool}
end
end L2
namespace L2
open PySem PySem.Spec PyProof.Rows
structure Room (k:Nat) (A:Around):Prop where
  hd:A.handled = none
  dp:A.depth + 3 * k + 5 < recursionLimit
  un:A.units + 16 * k + 200 < cLine
theorem Room.mono {j k:Nat} {A:Around} (r:Room k A) (h:j ≤ k):Room j A:=⟨r.hd,by have:=r.dp; omega,by have:=r.un; omega⟩
theorem Room.deeper {k:Nat} {A:Around} (r:Room (k + 1) A) (env:Env):Room k (A.deeper env) :=
  ⟨r.hd,by have:=r.dp; show A.depth + 1 + 3 * k + 5 < _; omega,by have:=r.un; show A.units + 3 + 16 * k + 200 < _; omega⟩
theorem Room.in1 {k:Nat} {A:Around} (r:Room (k + 1) A):Room k A.in1 :=
  ⟨r.hd,by have:=r.dp; show A.depth + 3 * k + 5 < _; omega,by have:=r.un; show A.units + 1 + 16 * k + 200 < _; omega⟩
theorem Room.depth {k:Nat} {A:Around} (r:Room k A):A.depth < recursionLimit:=by have:=r.dp; omega
theorem Room.units {k:Nat} {A:Around} (r:Room k A):A.units + 64 < cLine:=by have:=r.un; omega
noncomputable def tNil:TA:=fun _ H Q=>Q [] H
noncomputable def tCons (ta:TE) (tr:TA):TA:=fun σ H Q=>ta σ H fun x H1=>tr σ H1 fun xs H2=>Q (x :: xs) H2
section
variable {X:Cx} {e:Expr} {es:List Expr} {te:TE} {t:TA} {pos:Pos}
theorem pa_nil:PA X [] tNil:=fun _ _ _ _ H Q I h=>Calls.spliced_nil ⟨[],H,I,.nil,h⟩
theorem pa_cons (ha:PE X e te) (hr:PA X es t) (hs:starEach (e :: es) X.env = (false,eval e X.env) :: starEach es X.env:=by rfl):PA X (e :: es) (tCons te t):=by
  intro pos pins s σ H Q I h
  rw [hs]
  show wpAny _ _ (spliced ((false,eval e X.env) :: backTo pos (starEach es X.env))) _ _ s
  refine Calls.spliced_cons (thn (ha pins s σ H _ I h) fun u s1 ⟨x,H1,I1,r1,q1⟩=>?_)
  exact thn (hr pos pins s1 σ H1 _ I1 q1) fun us s2 ⟨xs,H2,I2,r2,q2⟩=>⟨x :: xs,H2,I2,.cons r1 r2,q2⟩
noncomputable def tTup (t:TA):TE:=fun σ H Q=>t σ H fun xs H1=>xs.length ≤ sizeLine∧∀ p,H1 p = none→Q (.ref p) (upd H1 p (.tup xs))
noncomputable def tLst (t:TA):TE:=fun σ H Q=>t σ H fun xs H1=>xs.length ≤ sizeLine∧∀ p,H1 p = none→Q (.ref p) (upd H1 p (.lst xs))
theorem pe_tup {x1} (h:PA X es t):PE X (.Tuple es x1 pos) (tTup t):=by
  intro pins s σ H Q I hq
  refine wpAny_Tuple_spliced (thn (h pos pins s σ H _ I hq) fun us s1 ⟨xs,H1,I1,r,z,q⟩=>⟨by rw [← r.length]; exact z,?_⟩)
  have hf:H1 s1.heap.objs.size = none:=I1.hok.fresh (Nat.le_refl _)
  refine ⟨.ref s1.heap.objs.size,upd H1 s1.heap.objs.size (.tup xs),I1.laid (t':=s1.toks) (fun b u e=>Heap.get?_push_of_some _ e) (Nat.le_refl _) ?_,rfl,q _ hf⟩
  exact ⟨z,us,r,⟨_,Heap.get?_push_size _ rfl,rfl,_,rfl⟩⟩
theorem pe_lst (h:PA X es t):PE X (.List es pos) (tLst t):=by
  intro pins s σ H Q I hq
  refine wpAny_List_spliced (thn (h pos pins s σ H _ I hq) fun us s1 ⟨xs,H1,I1,r,z,q⟩=>⟨by rw [← r.length]; exact z,?_⟩)
  have hf:H1 s1.heap.objs.size = none:=I1.hok.fresh (Nat.le_refl _)
  refine ⟨.ref s1.heap.objs.size,upd H1 s1.heap.objs.size (.lst xs),I1.laid (t':=s1.toks) (fun b u e=>Heap.get?_push_of_some _ e) (Nat.le_refl _) ?_,rfl,q _ hf⟩
  exact ⟨z,us,0,r,Heap.get?_push_size _ rfl⟩
end
noncomputable abbrev Sp:=List V→Hp→VK→XK→Prop
noncomputable abbrev CXT:=List Env→Hp→Shared→XK→Value→Shared→Prop
structure Env0 (P:Program) (w:World) (K:PySem.W.Frag) (mg:Str→Option Value) (base:Heap) (A:Around) (outer:List Env) (s:Shared) (H:Hp):Prop where
  frames:A.frames = some outer
  mod:Mod K mg base
  bs:∀ b o,base.get? b = some o→s.heap.get? b = some o∧H b = none
  bsz:base.objs.size ≤ s.heap.objs.size
  funs:s.heap.FunFrames base outer
  frf:∀ b ∈ frs outer,H b = none
  hok:HOk P w H s.heap
  bare:AllBare s.gens
noncomputable def CE (outer:List Env) (P:Program) (w:World) (H:Hp) (s:Shared) (Q:VK) (u:Value) (s':Shared):Prop :=
  ∃ v H',s'.os = s.os∧AllBare s'.gens∧Un (frs outer) [] H H' s.heap s'.heap∧HOk P w H' s'.heap∧RelV v u∧Q v H'
noncomputable def CR (CX:CXT) (outer:List Env) (P:Program) (w:World) (H:Hp) (s:Shared) (Q:VK) (E:XK) (r:Result) (s':Shared):Prop :=
  match r with
  | .ok (.ret u)=>CE outer P w H s Q u s'
  | .ok _=>False
  | .error e=>CX outer H s E e s'
structure FnOk (P:Program) (w:World) (K:PySem.W.Frag) (mg:Str→Option Value) (base:Heap) (CX:CXT) (k:Nat) (f:Addr) (fd:FuncData) (ps:List Str) (sp:Sp):Prop where
  len:∀ vs H Q E,sp vs H Q E→vs.length = ps.length
  run:∀ (A:Around) (outer:List Env) (s:Shared) (H:Hp) (args:Args) (us:List Value) (vs:List V) (Q:VK) (E:XK),Room k A→Env0 P w K mg base A outer s H→BindsTo s fd args (ps.zip us)→Vals vs us→sp vs H Q E →
    codeAny (model P w) A (.call (.ref f) args) (CR CX outer P w H s Q E) s
theorem FnOk.mono {P:Program} {w:World} {K:PySem.W.Frag} {mg:Str→Option Value} {base:Heap} {CX:CXT} {j k:Nat} {f:Addr} {fd:FuncData} {ps:List Str} {sp:Sp} (F:FnOk P w K mg base CX j f fd ps sp) (h:j ≤ k) :
    FnOk P w K mg base CX k f fd ps sp:=⟨F.len,fun A outer s H args us vs Q E hr=>F.run A outer s H args us vs Q E (hr.mono h)⟩
theorem FnOk.imp {P:Program} {w:World} {K:PySem.W.Frag} {mg:Str→Option Value} {base:Heap} {CX:CXT} {k:Nat} {f:Addr} {fd:FuncData} {ps:List Str} {sp sp':Sp} (F:FnOk P w K mg base CX k f fd ps sp)
    (h:∀ vs H Q E,sp' vs H Q E→sp vs H Q E):FnOk P w K mg base CX k f fd ps sp' :=
  ⟨fun vs H Q E q=>F.len vs H Q E (h _ _ _ _ q),fun A outer s H args us vs Q E hr he hb hv hs=>F.run A outer s H args us vs Q E hr he hb hv (h _ _ _ _ hs)⟩
theorem Env0.in1 {P:Program} {w:World} {K:PySem.W.Frag} {mg:Str→Option Value} {base:Heap} {A:Around} {outer:List Env} {s:Shared} {H:Hp} (e:Env0 P w K mg base A outer s H) :
    Env0 P w K mg base A.in1 outer s H:=⟨e.frames,e.mod,e.bs,e.bsz,e.funs,e.frf,e.hok,e.bare⟩
section
variable {X:Cx} {pins:List (Addr × Obj)} {σ:St} {H:Hp} {s s':Shared}
theorem Inv.env0 (I:Inv X pins σ H s):Env0 X.prog X.w X.K X.mg X.base X.A X.stack s H :=
  ⟨I.ok.frames,I.ok.mod,I.bs,Nat.le_trans I.ok.bsz I.sz,I.stack,I.stkFree,I.hok,I.bare⟩
theorem Inv.after {Q:VK} {u:Value} (I:Inv X pins σ H s) (h:CE X.stack X.prog X.w H s Q u s'):EP X pins σ Q u s':=by
  obtain ⟨v,H',os,bare,un,hok,r,q⟩:=h
  obtain ⟨hh,g,d,t,os'⟩:=s'
  obtain rfl:os' = s.os:=os
  exact ⟨v,H',I.call (h':=hh) (g':=g) (d':=d) (t':=t) (ch:=[]) un hok bare (fun b z=>absurd z (by simp)),r,q⟩
end
noncomputable def tCall (sp:Sp) (dvs:List V) (E:XK) (t:TA):TE:=fun σ H Q=>t σ H fun vs H1=>sp (vs ++ dvs) H1 Q E
noncomputable def Binds (K:PySem.W.Frag) (fd:FuncData) (ps:List Str) (ds:List Value):Prop :=
  ∀ (s:Shared) (us:List Value),K.In s.heap→(us ++ ds).length = ps.length→BindsTo s fd ⟨us,[]⟩ (ps.zip (us ++ ds))
theorem Binds.all {K:PySem.W.Frag} {fd:FuncData} {ps:List Str} (h:∀ us:List Value,us.length = ps.length→bindArgs fd ⟨us,[]⟩ = pure (ps.zip us)):Binds K fd ps []:=fun s us _ hl=>by
  rw [List.append_nil] at hl ⊢
  exact .of_eq (h us hl)
noncomputable def Passes (CX:CXT) (X:Cx) (E:XK):Prop:=∀ (pins:List (Addr × Obj)) (σ:St) (H:Hp) (s:Shared) (e:Value) (s':Shared),Inv X pins σ H s→CX X.stack H s E e s'→X.xe e s'
section
variable {X:Cx} {CX:CXT} {k:Nat} {f C:Addr} {fd:FuncData} {ps:List Str} {sp:Sp} {dvs:List V} {ds:List Value} {E:XK} {x m:Str} {p pos apos:Pos} {e o:Expr} {es:List Expr} {ta:TE} {t:TA}
theorem run_fn {pins:List (Addr × Obj)} {σ:St} {H:Hp} {s:Shared} {Q:VK} {us:List Value} {vs:List V} (F:FnOk X.prog X.w X.K X.mg X.base CX k f fd ps sp) (hr:Room k X.A) (hb:Binds X.K fd ps ds) (hd:Vals dvs ds) (hx:Passes CX X E)
    (I:Inv X pins σ H s) (r:Vals vs us) (h:sp (vs ++ dvs) H Q E):wpAny (model X.prog X.w) X.A (call (.ref f) us) (EP X pins σ Q) X.xe s:=by
  have r2:Vals (vs ++ dvs) (us ++ ds):=r.append hd
  have hl:(us ++ ds).length = ps.length:=by rw [← r2.length]; exact F.len _ _ _ _ h
  refine wpAny_call (codeAny_mono (F.run X.A X.stack s H ⟨us,[]⟩ (us ++ ds) (vs ++ dvs) Q E hr I.env0 (hb s us I.kIn hl) r2 h) fun r s' hq=>?_)
  cases r with
  | error e=>exact hx pins σ H s e s' I hq
  | ok fl =>
    cases fl with
    | ret u=>exact I.after hq
    | next=>exact False.elim hq
    | brk=>exact False.elim hq
    | cont=>exact False.elim hq
theorem pe_call (F:FnOk X.prog X.w X.K X.mg X.base CX k f fd ps sp) (hr:Room k X.A) (hg:Gl X x) (hm:X.mg x = some (.ref f)) (hk:PySem.W.keepIn X.K (.ref f) = true) (hb:Binds X.K fd ps ds) (hd:Vals dvs ds) (hx:Passes CX X E)
    (ha:PA X (e :: es) t) (hdb:(x == ("__debug__":Str)) = false:=by decide) (he:starEach (e :: es) X.env = (false,eval e X.env) :: starEach es X.env:=by rfl) (hpl:(backTo pos (starEach es X.env)).any (·.1) = false:=by rfl) :
    PE X (.Call (.Name x p) (e :: es) [] pos) (tCall sp dvs E t):=by
  intro pins s σ H Q I h
  refine wpAny_Call_Name_kw (ld_glob I hg hm ?_ hdb)
  refine PySem.W.callWith_K (h₀:=X.base) I.ok.mod.kin hk (thn (ha pos pins s σ H _ I h) fun us s1 ⟨vs,H1,I1,r,q⟩=>⟨I1.kIn,?_⟩) he hpl
  exact run_fn F hr hb hd hx I1 r q
theorem pe_call0 (F:FnOk X.prog X.w X.K X.mg X.base CX k f fd ps sp) (hr:Room k X.A) (hg:Gl X x) (hm:X.mg x = some (.ref f)) (hk:PySem.W.keepIn X.K (.ref f) = true) (hb:Binds X.K fd ps ds) (hd:Vals dvs ds) (hx:Passes CX X E)
    (hdb:(x == ("__debug__":Str)) = false:=by decide):PE X (.Call (.Name x p) [] [] pos) (tCall sp dvs E tNil):=by
  intro pins s σ H Q I h
  refine wpAny_Call_Name_kw (ld_glob I hg hm ?_ hdb)
  exact PySem.W.callWith_K0 I.kIn hk (run_fn (us:=[]) F hr hb hd hx I .nil h)
structure Mk (K:PySem.W.Frag) (C f:Addr):Prop where
  makes:PySem.W.makesIn K C = true
  init:PySem.W.findIn K (.ref C) "__init__" = some (some (.ref f))
  fn:PySem.W.isFn K (.ref f) = true
  kp:PySem.W.keepIn K (.ref C) = true
end
section
variable {X:Cx} {CX:CXT} {k:Nat} {f C:Addr} {fd:FuncData} {ps ks:List Str} {sp:Sp} {E:XK} {x m:Str} {p pos apos kpos:Pos} {e o:Expr} {es:List Expr} {kws:List Keyword} {te ta:TE} {t tk:TA} {nm:Option Str}
variable {g:List Value→List Value→List Value} {gV:List V→List V→List V}
end
structure FnScope (N P:List Str) (sc:Scope):Prop where
  kind:sc.kind = .function
  co:sc.isCoroutine = false
  gen:sc.isGenerator = false
  nd:N.Nodup
  pre:N.take P.length = P
  par:∀ x ∈ P,sc.names.lookup x = some .local ∨ sc.names.lookup x = some .cell
  nofree:∀ y ∈ sc.names,y.2 ≠ .free
theorem bindL_out {kindOf:Str→Option NameKind} {x:Str}:∀ {binds:List (Str × Value)} {m:Str→Option Value},(∀ v,(x,v) ∉ binds)→bindL kindOf binds m x = m x
  | [],_,_=>rfl
  | (n,v) :: r,m,h=>by
    unfold bindL
    rw [bindL_out fun w hw=>h w (List.mem_cons_of_mem _ hw)]
    split
    · have:x ≠ n:=by rintro rfl; exact h v List.mem_cons_self
      simp [this]
    · rfl
theorem bindC_out {kindOf:Str→Option NameKind} {x:Str}:∀ {binds:List (Str × Value)} {m:Str→Option Value},(∀ v,(x,v) ∉ binds)→bindC kindOf binds m x = m x
  | [],_,_=>rfl
  | (n,v) :: r,m,h=>by
    unfold bindC
    rw [bindC_out fun w hw=>h w (List.mem_cons_of_mem _ hw)]
    split
    · rfl
    · have:x ≠ n:=by rintro rfl; exact h v List.mem_cons_self
      simp [this]
theorem bindL_get {kindOf:Str→Option NameKind} {x:Str} {v:Value}:∀ {P:List Str} {vs:List Value} {i:Nat} {m:Str→Option Value},P.Nodup→P[i]? = some x→vs[i]? = some v→kindOf x = some .local →
    bindL kindOf (P.zip vs) m x = some v
  | [],_,_,_,_,h,_,_=>by simp at h
  | _ :: _,[],_,_,_,_,h,_=>by simp at h
  | p :: P,w :: vs,0,m,nd,h1,h2,hk=>by
    simp at h1 h2; subst h1; subst h2
    show bindL kindOf ((p,w) :: P.zip vs) m p = _
    unfold bindL
    rw [bindL_out fun v hv=>(List.nodup_cons.mp nd).1 (List.of_mem_zip hv).1,if_pos hk]
    simp
  | p :: P,w :: vs,i + 1,m,nd,h1,h2,hk=>by
    show bindL kindOf ((p,w) :: P.zip vs) m x = _
    unfold bindL
    exact bindL_get (i:=i) (List.nodup_cons.mp nd).2 (by simpa using h1) (by simpa using h2) hk
theorem bindC_get {kindOf:Str→Option NameKind} {x:Str} {v:Value}:∀ {P:List Str} {vs:List Value} {i:Nat} {m:Str→Option Value},P.Nodup→P[i]? = some x→vs[i]? = some v→kindOf x ≠ some .local →
    bindC kindOf (P.zip vs) m x = some v
  | [],_,_,_,_,h,_,_=>by simp at h
  | _ :: _,[],_,_,_,_,h,_=>by simp at h
  | p :: P,w :: vs,0,m,nd,h1,h2,hk=>by
    simp at h1 h2; subst h1; subst h2
    show bindC kindOf ((p,w) :: P.zip vs) m p = _
    unfold bindC
    rw [bindC_out fun v hv=>(List.nodup_cons.mp nd).1 (List.of_mem_zip hv).1,if_neg hk]
    simp
  | p :: P,w :: vs,i + 1,m,nd,h1,h2,hk=>by
    show bindC kindOf ((p,w) :: P.zip vs) m x = _
    unfold bindC
    exact bindC_get (i:=i) (List.nodup_cons.mp nd).2 (by simpa using h1) (by simpa using h2) hk
noncomputable def start (N:List Str) (vs:List V):St:=vs.map some ++ List.replicate (N.length - vs.length) none
noncomputable def cxOf (CX:CXT) (P:Program) (w:World) (K:PySem.W.Frag) (mg:Str→Option Value) (base:Heap) (N:List Str) (qual:Str) (scope:Scope) (f:Addr) (cd:Value) (A:Around) (outer:List Env) (s:Shared) (H:Hp) (E:XK):Cx where
  prog:=P
  w:=w
  K:=K
  mg:=mg
  base:=base
  A:=A.deeper (envOfC qual scope s.heap.objs.size f cd)
  N:=N
  s₀:=s
  H₀:=H
  env:=envOfC qual scope s.heap.objs.size f cd
  outer:=outer
  stack:=envOfC qual scope s.heap.objs.size f cd :: outer
  ex:=[]
  calm:=true
  fn:=fun _=>true
  pn:=[]
  xe:=fun e s'=>wpAny (model P w) (A.deeper (envOfC qual scope s.heap.objs.size f cd)) (leaving (envOfC qual scope s.heap.objs.size f cd) e) (fun _ s''=>CX outer H s E e s'') (fun e' s''=>CX outer H s E e' s'') s'
theorem cell_has {sc:Scope} {n:Nat} {x:Str} (h:sc.names.lookup x = some .cell):∃ c,(cellsFrom n sc.names []).lookup x = some c:=by
  have q:=PySem.W.cellsFrom_some sc.names n [] (.inl h)
  exact Option.isSome_iff_exists.mp q
theorem inv_start {CX:CXT} {P:Program} {w:World} {K:PySem.W.Frag} {mg:Str→Option Value} {base:Heap} {N ps:List Str} {qual:Str} {scope:Scope} {f:Addr} {cd:Value} {A:Around} {outer:List Env} {s s1:Shared} {H:Hp} {E:XK} {us:List Value} {vs:List V}
    (S:FnScope N ps scope) (hd:A.handled = none) (e0:Env0 P w K mg base A outer s H) (hl:vs.length = ps.length) (r:Vals vs us)
    (x:InCallC s s.heap.objs.size (bindL (envOfC qual scope s.heap.objs.size f cd).kindOf (ps.zip us) fun _=>none) (cellsFrom (s.heap.objs.size + 1) scope.names []) (bindC (envOfC qual scope s.heap.objs.size f cd).kindOf (ps.zip us) fun _=>none) s1) :
    Inv (cxOf CX P w K mg base N qual scope f cd A outer s H E) [] (start N vs) H s1:=by
  have hpl:ps.length ≤ N.length:=by have:=congrArg List.length S.pre; rw [List.length_take] at this; omega
  obtain ⟨h1,tk,rfl,hk⟩:=x.done
  have noA:∀ b:Addr,b ∉ (cxOf CX P w K mg base N qual scope f cd A outer s H E).ex:=fun b z=>absurd (show b ∈ ([]:List Addr) from z) (by simp)
  refine ⟨⟨e0.mod,S.kind,rfl,rfl,Nat.le_refl _,fun y z c h1 h2=>?_,fun y hy=>?_,fun y c _ h=>?_,fun _=>hd,Around.frames_deeper e0.frames,.inr ⟨rfl,rfl⟩,fun b z=>absurd z (noA b),e0.bs,e0.bsz,fun b _ _=>noA b,fun b z=>absurd z (noA b),e0.funs,e0.frf⟩,
    rfl,e0.bare,Un.kept hk,⟨_,x.toInCall.ns,fun i y v h1 h2 h3=>?_⟩,fun y c h=>⟨_,x.cell y c h⟩,e0.hok.fresh (Nat.le_refl _),fun y c h=>?_,fun p hp=>absurd (show p ∈ ([]:List (Addr × Obj)) from hp) (by simp),e0.hok.kept hk,?_⟩
  · exact name_of_addr x.apart (PySem.mem_of_lookup h1) (PySem.mem_of_lookup h2)
  · have hy:scope.names.lookup y = some .cell ∨ scope.names.lookup y = some .free:=hy
    rcases hy with hy | hy
    · exact cell_has hy
    · exact absurd rfl (S.nofree _ (PySem.mem_of_lookup hy))
  · exact Nat.le_of_lt (x.above y c (PySem.mem_of_lookup h))
  · have hi:i < vs.length:=by
      unfold start at h2
      by_cases hi:i < vs.length
      · exact hi
      · rw [List.getElem?_append_right (by simpa using hi)] at h2
        rw [List.getElem?_replicate] at h2
        split at h2<;>cases h2
    have ha:vs[i]? = some v:=by
      unfold start at h2
      rw [List.getElem?_append_left (by simpa using hi),List.getElem?_map] at h2
      cases e:vs[i]? with
      | none=>rw [e] at h2; cases h2
      | some a=>rw [e] at h2; cases h2; rfl
    obtain ⟨u,hu,rv⟩:=r.get ha
    have hp:ps[i]? = some y:=by
      rw [← S.pre,List.getElem?_take_of_lt (by omega)]; exact h1
    have ndP:ps.Nodup:=by rw [← S.pre]; exact S.nd.sublist (List.take_sublist _ _)
    refine ⟨u,rv,?_⟩
    rcases S.par y (List.mem_of_getElem? hp) with k | k
    · exact .inl ⟨k,bindL_get ndP hp hu k⟩
    · obtain ⟨c,e⟩:=cell_has (n:=s.heap.objs.size + 1) k
      refine .inr ⟨.inl k,c,e,?_⟩
      have q:=x.cell y c e
      rw [bindC_get ndP hp hu (by show scope.names.lookup y ≠ _; rw [k]; decide)] at q
      exact q
  · exact e0.hok.fresh (Nat.le_of_lt (x.above y c (PySem.mem_of_lookup h)))
  · unfold start
    show _ = N.length
    rw [List.length_append,List.length_map,List.length_replicate]
    omega
theorem fn_of {CX:CXT} {P:Program} {w:World} {K:PySem.W.Frag} {mg:Str→Option Value} {base:Heap} {k:Nat} {f:Addr} {name qual:Str} {params:Arguments} {body:List Stmt} {scope:Scope} {dV kV doc pm cdv ct oc:Value} {an od:Option Addr}
    {osl:Array (Option Value)} {N ps:List Str} {sp:Sp} (lk:K.lookup f = some ⟨oc,od,.func (PySem.W.fnOf name qual params body scope dV kV doc pm an cdv ct),osl⟩) (hcd:PySem.W.codeIn K cdv qual = true) (S:FnScope N ps scope)
    (len:∀ vs H Q E,sp vs H Q E→vs.length = ps.length)
    (hbody:∀ (A:Around) (outer:List Env) (s:Shared) (H:Hp) (vs:List V) (Q:VK) (E:XK),Room k (A.deeper (envOfC qual scope s.heap.objs.size f cdv))→sp vs H Q E →
      ∃ t,PSs (cxOf CX P w K mg base N qual scope f cdv A outer s H E) body t∧t { nx:=fun _ H'=>Q .non H',rt:=Q } (start N vs) H) :
    FnOk P w K mg base CX (k + 1) f (PySem.W.fnOf name qual params body scope dV kV doc pm an cdv ct) ps sp:=by
  refine ⟨len,fun A outer s H args us vs Q E hr e0 hb r hsp=>?_⟩
  have hl:=len _ _ _ _ hsp
  have KX:K.In s.heap:=e0.mod.kin.keeps fun b o e=>(e0.bs b o e).1
  have lim:s.heap.NoLimit:=e0.mod.nolimit.keeps fun b o e=>(e0.bs b o e).1
  have hkind:∀ y ∈ ps.zip us,scope.names.lookup y.1 = some .local ∨ (scope.names.lookup y.1 = some .cell∧((cellsFrom (s.heap.objs.size + 1) scope.names []).lookup y.1).isSome = true):=fun ⟨n,v⟩ hy=>by
    rcases S.par n (List.of_mem_zip hy).1 with q | q
    · exact .inl q
    · exact .inr ⟨q,PySem.W.cellsFrom_some _ _ _ (.inl q)⟩
  refine codeAny_call_function hr.depth (KX _ _ lk) rfl S.co S.gen rfl (PySem.W.codeRec_of KX hcd) (hb _ _ _ _ ?_)
  refine wpAny_newFunctionEnv_cells S.kind hkind fun env he s1 x=>?_
  subst he
  refine ⟨lim.keeps x.toInCall.keep,codeAny_func ?_⟩
  obtain ⟨t,ht,hq⟩:=hbody A outer s H vs Q E (hr.deeper _) hsp
  have I:Inv (cxOf CX P w K mg base N qual scope f cdv A outer s H E) [] (start N vs) H s1:=inv_start S hr.hd e0 hl r x
  refine wpAny_mono (ht [] s1 (start N vs) H _ I hq) (fun fl s' hs=>?_) fun e s' hs=>hs
  have fin:∀ {σ':St} {H':Hp} {v:V} {u:Value},Inv (cxOf CX P w K mg base N qual scope f cdv A outer s H E) [] σ' H' s'→RelV v u→Q v H'→CE outer P w H s Q u s' :=
    fun {σ' H' v u} J rv q=>⟨v,H',J.os,J.bare,J.base,J.hok,rv,q⟩
  cases fl with
  | ret u =>
    obtain ⟨v,σ',H',J,rv,q⟩:=hs
    exact fin J rv q
  | next =>
    obtain ⟨σ',H',J,q⟩:=hs
    exact fin (v:=V.non) (u:=Value.none) J rfl q
  | brk =>
    obtain ⟨_,_,_,q⟩:=hs
    exact False.elim q
  | cont =>
    obtain ⟨_,_,_,q⟩:=hs
    exact False.elim q
end L2
namespace L2
open PySem PySem.Spec PyProof.Rows
section
variable {X:Cx} {x:Str} {p pos:Pos} {e:Expr} {es:List Expr} {t:TA} {id T:String} {r:List V→Hp→VK→Prop}
noncomputable def tCB (r:List V→Hp→VK→Prop) (t:TA):TE:=fun σ H Q=>t σ H fun vs H1=>r vs H1 Q
theorem pe_callB (hc:CallR X (.builtin id) r) (hg:Gl X x) (hm:X.mg x = none) (hv:bootBuiltins x = some (.builtin id)) (ha:PA X (e :: es) t) (hn:x ≠ "__name__":=by decide) (hdb:(x == ("__debug__":Str)) = false:=by decide)
    (he:starEach (e :: es) X.env = (false,eval e X.env) :: starEach es X.env:=by rfl) (hpl:(backTo pos (starEach es X.env)).any (·.1) = false:=by rfl):PE X (.Call (.Name x p) (e :: es) [] pos) (tCB r t):=by
  intro pins s σ H Q I h
  refine wpAny_Call_Name_kw (ld_blt I hg hm hv ?_ hn hdb)
  exact PyProof.Rows.callWith_builtin1 (thn (ha pos pins s σ H _ I h) fun us s1 ⟨vs,H1,I1,r1,q1⟩=>hc pins s1 σ H1 vs us Q I1 r1 q1) he hpl
theorem pe_callTy (hc:CallR X (.type T) r) (hg:Gl X x) (hm:X.mg x = none) (hv:bootBuiltins x = some (.type T)) (ha:PA X (e :: es) t) (hn:x ≠ "__name__":=by decide) (hdb:(x == ("__debug__":Str)) = false:=by decide)
    (he:starEach (e :: es) X.env = (false,eval e X.env) :: starEach es X.env:=by rfl) (hpl:(backTo pos (starEach es X.env)).any (·.1) = false:=by rfl):PE X (.Call (.Name x p) (e :: es) [] pos) (tCB r t):=by
  intro pins s σ H Q I h
  refine wpAny_Call_Name_kw (ld_blt I hg hm hv ?_ hn hdb)
  exact PyProof.Rows.callWith_type1 (thn (ha pos pins s σ H _ I h) fun us s1 ⟨vs,H1,I1,r1,q1⟩=>hc pins s1 σ H1 vs us Q I1 r1 q1) he hpl
end
end L2
namespace HT
open PySem PyProof.Rows
section
open PySem.SeqAt
open PySem.AutoSeq1 (wpAny_loadPart')
open PySem.MeetsSeq PySem.MeetsSeq2 PySem.MeetsSeq3
end
section
variable {prog:Program} {w:World} {A:Around} {E:Value→Shared→Prop} {s:Shared}
theorem cat_tup {t b:Addr} {vs ws:List Value} {Q:Value→Shared→Prop} (ht:IsTup s.heap t vs.toArray) (hb:IsTup s.heap b ws.toArray) (hv:vs ≠ [])
    (h1:ws = []→Q (.ref t) s) (h2:ws ≠ []→Q (.ref s.heap.objs.size) { s with heap:=s.heap.push { cls:=.type "tuple",data:=.seq (vs ++ ws).toArray } })
    (hsz:vs.length + ws.length ≤ sizeLine):wpAny (model prog w) A (binaryOp .Add (.ref t) (.ref b)) Q E s:=by
  obtain ⟨⟨cls,dd,data,sl⟩,ho,hc,n,hd⟩:=id ht
  obtain ⟨⟨cls2,dd2,data2,sl2⟩,ho2,hc2,n2,hd2⟩:=id hb
  simp only at hc hd hc2 hd2
  subst hc hd hc2 hd2
  have e:vs.toArray ++ ws.toArray = (vs ++ ws).toArray:=by simp
  by_cases hw:ws = []
  · exact concat_meets ⟨_,ho,rfl⟩ ⟨_,ho2,rfl⟩ noFill_tuple_add seq_tuple_add PySem.F.slot_tuple_add PySem.F.entry_tuple_add (PySem.F.args_tuple_add_2 _ _)
      (tuple_addW1 t b vs.toArray ws.toArray n n2 dd dd2 sl sl2 (by simpa using hv) (by simp [hw])) ⟨ho,ho2,h1 hw⟩
  · refine concat_meets ⟨_,ho,rfl⟩ ⟨_,ho2,rfl⟩ noFill_tuple_add seq_tuple_add PySem.F.slot_tuple_add PySem.F.entry_tuple_add (PySem.F.args_tuple_add_2 _ _)
      (tuple_addW2 t b vs.toArray ws.toArray n n2 dd dd2 sl sl2 (by simpa using hv) (by simpa using hw) (by rw [List.size_toArray,List.size_toArray]; exact hsz)) ⟨ho,ho2,?_⟩
    rw [e]
    exact h2 hw
noncomputable def sIx (n d:Nat):Option Int→Nat
  | none=>d
  | some v=>if v < 0 then (v + (n:Int)).toNat else min v.toNat n
theorem sIx_le (n d:Nat) (hd:d ≤ n) (o:Option Int):sIx n d o ≤ n:=by
  cases o with
  | none=>exact hd
  | some v =>
    show (if v < 0 then (v + (n:Int)).toNat else min v.toNat n) ≤ n
    by_cases hv:v < 0
    · rw [if_pos hv]; omega
    · rw [if_neg hv]; exact Nat.min_le_right _ _
theorem clip_eq (v:Int) (n d:Nat):(if v < 0 then max (v + (n:Int)) 0 else min v (n:Int)) = ((sIx n d (some v):Nat):Int):=by
  show (if v < 0 then max (v + (n:Int)) 0 else min v (n:Int)) = (((if v < 0 then (v + (n:Int)).toNat else min v.toNat n):Nat):Int)
  by_cases hv:v < 0
  · simp only [if_pos hv]; omega
  · simp only [if_neg hv]; omega
theorem adjust_gen (lo hi:Option Int) (n:Nat):Builtin.Slice.sliceAdjust lo hi 1 (n:Int) = (((sIx n 0 lo:Nat):Int),((sIx n n hi:Nat):Int)):=by
  have h1:¬ ((1:Int) < 0):=by omega
  unfold Builtin.Slice.sliceAdjust
  simp only [h1,if_false]
  refine Prod.ext ?_ ?_
  · cases lo with
    | none=>rfl
    | some v=>exact clip_eq v n 0
  · cases hi with
    | none=>rfl
    | some v=>exact clip_eq v n n
theorem places_gen (i j:Nat):Builtin.Slice.slicePlaces (i:Int) (j:Int) 1 = j - i:=by
  unfold Builtin.Slice.slicePlaces
  have h1:(1:Int) > 0:=by omega
  simp only [h1,if_true,Int.ediv_one]
  split<;>omega
theorem slicePart_ {v:Value} {o:Option Int} {Q:Option Int→Shared→Prop} (p:IsPart v o) (h:Q o s):wpAny (model prog w) A (Builtin.Slice.slicePartIndex v) Q E s:=by
  cases p with
  | none=>exact slicePart_none h
  | int i t=>exact slicePart_int h
theorem sliceApplied_gen {sl:Addr} {vl vu:Value} {lo hi:Option Int} {n:Nat} {Q:Int × Int × Nat→Shared→Prop} (hs:s.heap.IsSliceOf sl vl vu .none) (pl:IsPart vl lo) (pu:IsPart vu hi)
    (h:Q (((sIx n 0 lo:Nat):Int),1,sIx n n hi - sIx n 0 lo) s):wpAny (model prog w) A (Builtin.Slice.sliceApplied (.ref sl) (pure (n:Int))) Q E s:=by
  obtain ⟨os,hos,hcs,hds⟩:=id hs
  unfold Builtin.Slice.sliceApplied Builtin.Slice.sliceFields
  refine wpAny_bind (wpAny_bind (wpAny_field hos hds (x:=vl) rfl (wpAny_bind (wpAny_field hos hds (x:=vu) rfl (wpAny_bind (wpAny_field hos hds (x:=.none) rfl (wpAny_pure ?_)))))))
  refine wpAny_bind (slicePart_none ?_)
  show wpAny _ _ (if ((1:Int) == 0) = true then _ else _) _ _ s
  rw [if_neg (by decide)]
  refine wpAny_bind (slicePart_ pl (wpAny_bind (slicePart_ pu (wpAny_bind (wpAny_pure ?_)))))
  show wpAny _ _ (match Builtin.Slice.sliceAdjust lo hi 1 (n:Int) with | (lo,hi)=>pure (lo,(1:Int),Builtin.Slice.slicePlaces lo hi 1)) _ _ s
  rw [adjust_gen lo hi n]
  show wpAny _ _ (pure (((sIx n 0 lo:Nat):Int),(1:Int),Builtin.Slice.slicePlaces ((sIx n 0 lo:Nat):Int) ((sIx n n hi:Nat):Int) 1)) _ _ s
  rw [places_gen]
  exact wpAny_pure h
theorem pick_gen (xs:Array Value) (i k:Nat):((List.range k).filterMap fun (m:Nat)=>xs[((i:Int) + (m:Int) * 1).toNat]?).toArray = ((xs.toList.drop i).take k).toArray:=by
  have e:(fun (m:Nat)=>xs[((i:Int) + (m:Int) * 1).toNat]?) = fun m=>xs[i + m]?:=by
    funext m
    have:((i:Int) + (m:Int) * 1).toNat = i + m:=by omega
    rw [this]
  rw [e]
  have:=pick_run xs i k
  rw [List.filterMap_map] at this
  have e2:((fun x=>xs[x]?) ∘ fun x=>i + x) = fun m=>xs[i + m]?:=rfl
  rw [e2] at this
  rw [this]
theorem getItem_tuple_cut {t sl:Addr} {items:Array Value} {vl vu:Value} {lo hi:Option Int} {Q:Value→Shared→Prop} (ht:IsTup s.heap t items) (hs:s.heap.IsSliceOf sl vl vu .none) (pl:IsPart vl lo) (pu:IsPart vu hi)
    (hw:¬ (sIx items.size 0 lo = 0∧sIx items.size items.size hi = items.size))
    (h:Q (.ref s.heap.objs.size) { s with heap:=s.heap.push { cls:=.type "tuple",data:=.seq ((items.toList.drop (sIx items.size 0 lo)).take (sIx items.size items.size hi - sIx items.size 0 lo)).toArray } })
    (hsz:items.size ≤ sizeLine):wpAny (model prog w) A (getItem (.ref t) (.ref sl)) Q E s:=by
  have htake:sizeOk (.seq ((items.toList.drop (sIx items.size 0 lo)).take (sIx items.size items.size hi - sIx items.size 0 lo)).toArray):=by
    show ((items.toList.drop (sIx items.size 0 lo)).take (sIx items.size items.size hi - sIx items.size 0 lo)).toArray.size ≤ sizeLine
    rw [List.size_toArray,List.length_take,List.length_drop,Array.length_toList]
    omega
  have hj:sIx items.size items.size hi ≤ items.size:=sIx_le _ _ (Nat.le_refl _) hi
  obtain ⟨os,hos,hcs,hds⟩:=id hs
  have hTs:s.TypeIs (.ref sl) "slice":=⟨os,hos,hcs⟩
  unfold getItem
  try with_reducible refine wpAny_holding ?_
  first | refine wpAny_bind (wpAny_pure ?_) | skip
  refine wpAny_bind (wpAny_sequenceKey ht.typeIs (by decide) ?_)
  refine wpAny_bind (wpAny_callSpecial?_slot (name:=Str.ofString "__getitem__") ht.typeIs PyProof.Rows.slot_tuple_getitem
    (wpAny_call_entry PyProof.Rows.slot_tuple_getitem ht.typeIs entry_tuple_getitem ?_ (args_tuple_getitem _ _)))
  show wpAny _ _ (Builtin.Tuple.tupleItemsOf (.ref t) >>= _) _ _ s
  refine wpAny_bind (tupleItemsOf_ ht ?_)
  refine wpAny_bind (wpAny_typeOf hTs ?_)
  rw [if_pos (by decide)]
  refine wpAny_bind (sliceApplied_gen hs pl pu ?_)
  have hno:¬ ((((sIx items.size 0 lo:Nat):Int) == 0 && (1:Int) == 1 && (sIx items.size items.size hi - sIx items.size 0 lo) == items.size) = true):=by
    intro q
    rw [Bool.and_eq_true,Bool.and_eq_true] at q
    have q1:((sIx items.size 0 lo:Nat):Int) = 0:=eq_of_beq q.1.1
    have q2:sIx items.size items.size hi - sIx items.size 0 lo = items.size:=eq_of_beq q.2
    exact hw ⟨by omega,by omega⟩
  show wpAny _ _ (if (((sIx items.size 0 lo:Nat):Int) == 0 && (1:Int) == 1 && (sIx items.size items.size hi - sIx items.size 0 lo) == items.size) = true then _ else _) _ _ s
  rw [if_neg hno,pick_gen]
  first
    | exact wpAny_bind (m:=Builtin.Tuple.tupleExact _) (wpAny_newObj_type (wpAny_pure ⟨_,rfl,wpAny_pure h⟩) htake)
    | exact wpAny_bind (m:=Builtin.Tuple.tupleExact _) (wpAny_newObj_type (wpAny_bind (wpAny_pure (wpAny_pure ⟨_,rfl,wpAny_pure h⟩))) htake)
    | exact wpAny_bind (wpAny_bind (m:=Builtin.Tuple.tupleExact _) (wpAny_newObj_type (wpAny_pure (wpAny_pure ⟨_,rfl,wpAny_pure h⟩)) htake))
    | exact wpAny_bind (wpAny_bind (m:=Builtin.Tuple.tupleExact _) (wpAny_newObj_type (wpAny_pure ⟨_,rfl,wpAny_pure h⟩) htake))
end
end HT
namespace L2
open PySem PySem.Spec PyProof.Rows
noncomputable abbrev TO:=St→Hp→(Option Int→Hp→Prop)→Prop
noncomputable def PO (X:Cx) (e:Option Expr) (t:TO):Prop :=
  ∀ (pins:List (Addr × Obj)) (s:Shared) (σ:St) (H:Hp) (Q:Option Int→Hp→Prop),Inv X pins σ H s→t σ H Q →
    wpAny (model X.prog X.w) X.A (evalPart e X.env) (fun u s'=>∃ o H',Inv X pins σ H' s'∧IsPart u o∧Q o H') X.xe s
noncomputable def tNoPart:TO:=fun _ H Q=>Q none H
noncomputable def tPart (t:TE):TO:=fun σ H Q=>t σ H fun x H1=>∃ i,x = .int i∧Q (some i) H1
section
variable {X:Cx} {e:Expr} {te:TE} {lo hi:Option Expr} {tl th:TO} {pos p2:Pos}
theorem po_none:PO X none tNoPart:=by
  intro pins s σ H Q I h
  rw [evalPart_none]
  exact wpAny_pure ⟨none,H,I,.none,h⟩
theorem po_some (h:PE X e te):PO X (some e) (tPart te):=by
  intro pins s σ H Q I hw
  rw [evalPart_some]
  refine thn (h pins s σ H _ I hw) fun u s1 ⟨x,H1,I1,r1,q1⟩=>?_
  obtain ⟨i,rfl,q⟩:=q1
  obtain ⟨t,rfl⟩:=r1
  exact ⟨some i,H1,I1,.int i t,q⟩
noncomputable def SlR (X:Cx) (r:V→Option Int→Option Int→Hp→VK→Prop):Prop :=
  ∀ (pins:List (Addr × Obj)) (s:Shared) (σ:St) (H:Hp) (x:V) (v vl vu:Value) (lo hi:Option Int) (sl:Addr) (Q:VK),Inv X pins σ H s→RelV x v→s.heap.IsSliceOf sl vl vu .none→IsPart vl lo→IsPart vu hi→r x lo hi H Q →
    ∃ T id,typeLookup (.type T) "__getitem__" = pure (some (.builtin id))∧s.TypeIs v T∧wpAny (model X.prog X.w) X.A (getItem v (.ref sl)) (EP X pins σ Q) X.xe s
noncomputable def tSl (r:V→Option Int→Option Int→Hp→VK→Prop) (te:TE) (tl th:TO):TE:=fun σ H Q=>te σ H fun x H1=>tl σ H1 fun l H2=>th σ H2 fun u H3=>r x l u H3 Q
theorem pe_slice {r:V→Option Int→Option Int→Hp→VK→Prop} (hr:SlR X r) (he:PE X e te) (hl:PO X lo tl) (hu:PO X hi th):PE X (.Subscript e (.Slice lo hi none p2) pos) (tSl r te tl th):=by
  intro pins s σ H Q I h
  refine Subscript_ (thn (he pins s σ H _ I h) fun v s1 ⟨x,H1,I1,r1,q1⟩=>?_)
  refine wpAny_Slice (thn (hl pins s1 σ H1 _ I1 q1) fun vl s2 ⟨l,H2,I2,pl,q2⟩=>thn (hu pins s2 σ H2 _ I2 q2) fun vu s3 ⟨u,H3,I3,pu,q3⟩=>?_)
  rw [evalPart_none]
  refine wpAny_pure ?_
  have I4:Inv X pins σ H3 { s3 with heap:=s3.heap.push { cls:=.type "slice",data:=.fields #[vl,vu,.none] } }:=I3.kept (t':=s3.toks) fun b ob q=>Heap.get?_push_of_some _ q
  obtain ⟨T,id,hT,ht,hg⟩:=hr pins { s3 with heap:=s3.heap.push { cls:=.type "slice",data:=.fields #[vl,vu,.none] } } σ H3 x v vl vu l u s3.heap.objs.size Q I4 r1 (Heap.IsSliceOf.new ..) pl pu q3
  show wpAny (model X.prog X.w) X.A (subscriptTail e (.Slice lo hi none p2) v (.ref s3.heap.objs.size)) (EP X pins σ Q) X.xe { s3 with heap:=s3.heap.push { cls:=.type "slice",data:=.fields #[vl,vu,.none] } }
  exact tail_any (ops:=[.ref s3.heap.objs.size,v]) ht hT hg (by with_unfolding_all rfl)
noncomputable def cutV (xs:List V) (lo hi:Option Int):List V:=(xs.drop (HT.sIx xs.length 0 lo)).take (HT.sIx xs.length xs.length hi - HT.sIx xs.length 0 lo)
theorem cutV_length (xs:List V) (lo hi:Option Int):(cutV xs lo hi).length ≤ xs.length:=by
  unfold cutV
  rw [List.length_take,List.length_drop]
  omega
noncomputable def rSlT (K:PySem.W.Frag):V→Option Int→Option Int→Hp→VK→Prop:=fun x lo hi H Q=>∃ a xs,x = .ref a∧SqT K H a xs ∧
  ¬ (HT.sIx xs.length 0 lo = 0∧HT.sIx xs.length xs.length hi = xs.length)∧∀ p,H p = none→Q (.ref p) (upd H p (.tup (cutV xs lo hi)))
theorem sl_tup:SlR X (rSlT X.K):=by
  intro pins s σ H x v vl vu lo hi sl Q I rx hs pl pu h
  obtain ⟨a,xs,rfl,hx,hw,q⟩:=h
  cases rx
  obtain ⟨its,r,ht,hz⟩:=I.tuple hx
  have hlen:its.toArray.size = xs.length:=by rw [List.size_toArray]; exact r.length.symm
  refine ⟨"tuple",_,PyProof.Rows.slot_tuple_getitem.lookup,ht.typeIs,?_⟩
  refine HT.getItem_tuple_cut ht hs pl pu (by rw [hlen]; exact hw) ?_ (by rw [hlen]; exact hz)
  rw [hlen]
  refine ⟨.ref s.heap.objs.size,_,I.laid (t':=s.toks) (o:=.tup (cutV xs lo hi)) (fun b ob q=>Heap.get?_push_of_some _ q) (Nat.le_refl _) ?_,rfl,q _ (I.hok.fresh (Nat.le_refl _))⟩
  exact ⟨Nat.le_trans (cutV_length xs lo hi) hz,_,(r.drop (HT.sIx xs.length 0 lo)).take (HT.sIx xs.length xs.length hi - HT.sIx xs.length 0 lo),IsTup.new _ _⟩
noncomputable def rCatT (K:PySem.W.Frag):R2:=fun x y H Q=>∃ a b xs ys,x = .ref a∧y = .ref b∧SqT K H a xs∧SqT K H b ys∧xs ≠ []∧xs.length + ys.length ≤ sizeLine ∧
  (ys = []→Q (.ref a) H)∧(ys ≠ []→∀ p,H p = none→Q (.ref p) (upd H p (.tup (xs ++ ys))))
theorem Vals.nil_iff {xs:List V} {us:List Value} (r:Vals xs us):us = [] ↔ xs = []:=by
  cases r with
  | nil=>simp
  | cons _ _=>simp
theorem op_catT:OpR X (binaryOp .Add) (rCatT X.K):=by
  intro pins s σ H x y v u Q I rx ry h
  obtain ⟨a,b,xs,ys,rfl,rfl,ha,hb,hx,hz,q1,q2⟩:=h
  cases rx
  cases ry
  obtain ⟨its,r1,p1,_⟩:=I.tuple ha
  obtain ⟨its2,r2,p2,_⟩:=I.tuple hb
  refine HT.cat_tup p1 p2 (fun z=>hx (r1.nil_iff.mp z)) (fun z=>⟨.ref a,H,I,rfl,q1 (r2.nil_iff.mp z)⟩) (fun z=>?_) (by rw [← r1.length,← r2.length]; exact hz)
  refine ⟨.ref s.heap.objs.size,_,I.laid (t':=s.toks) (o:=.tup (xs ++ ys)) (fun b ob q=>Heap.get?_push_of_some _ q) (Nat.le_refl _) ?_,rfl,q2 (fun w=>z (r2.nil_iff.mpr w)) _ (I.hok.fresh (Nat.le_refl _))⟩
  exact ⟨by rw [List.length_append]; exact hz,_,r1.append r2,IsTup.new _ _⟩
end
end L2
namespace L2
open PySem PySem.Spec PyProof.Rows
noncomputable def ixN (n:Nat) (i:Int):Option Nat:=if 0 ≤ i then (if i < n then some i.toNat else none) else if -(n:Int) ≤ i then some (i + n).toNat else none
noncomputable def atI {α:Type} (xs:List α) (i:Int):Option α:=(ixN xs.length i).bind fun j=>xs[j]?
theorem ixN_seq {n:Nat} {i:Int} {j:Nat} (h:ixN n i = some j):seqIndex? i n = some j∧j < n∧-(n:Int) ≤ i∧i < n:=by
  unfold ixN at h
  by_cases h0:0 ≤ i
  · rw [if_pos h0] at h
    by_cases h1:i < n
    · rw [if_pos h1] at h
      have e:i.toNat = j:=Option.some.inj h
      exact ⟨by rw [seqIndex_of h0 h1,e],by omega,by omega,h1⟩
    · rw [if_neg h1] at h; cases h
  · rw [if_neg h0] at h
    by_cases h1:-(n:Int) ≤ i
    · rw [if_pos h1] at h
      have e:(i + n).toNat = j:=Option.some.inj h
      exact ⟨by rw [seqIndex_neg (by omega) h1,e],by omega,h1,by omega⟩
    · rw [if_neg h1] at h; cases h
theorem atI_get {α:Type} {xs:List α} {i:Int} {v:α} (h:atI xs i = some v):∃ j,seqIndex? i xs.length = some j∧xs[j]? = some v∧j < xs.length∧-(xs.length:Int) ≤ i∧i < xs.length:=by
  unfold atI at h
  cases e:ixN xs.length i with
  | none=>rw [e] at h; cases h
  | some j =>
    rw [e] at h
    obtain ⟨h1,h2,h3,h4⟩:=ixN_seq e
    exact ⟨j,h1,h,h2,h3,h4⟩
theorem atI_last {α:Type} (xs:List α) (v:α):atI (xs ++ [v]) (-1) = some v:=by
  have hl:(xs ++ [v]).length = xs.length + 1:=by simp
  have e:ixN (xs ++ [v]).length (-1) = some xs.length:=by
    unfold ixN
    rw [hl,if_neg (by decide),if_pos (by omega)]
    congr 1
    omega
  unfold atI
  rw [e]
  show (xs ++ [v])[xs.length]? = some v
  simp
noncomputable def PlainIx (b:Expr):Prop:=∀ o i,subscripted b false o i = operate [o,i] (getItem o i)
noncomputable def IxR (X:Cx) (r:R2):Prop :=
  ∀ (value slice:Expr) (pins:List (Addr × Obj)) (s:Shared) (σ:St) (H:Hp) (x y:V) (v u:Value) (Q:VK),Inv X pins σ H s→RelV x v→RelV y u→r x y H Q →
    subscripted slice false v u = operate [v,u] (getItem v u)→wpAny (model X.prog X.w) X.A (subscriptTail value slice v u) (EP X pins σ Q) X.xe s
noncomputable def MtR (X:Cx) (id:String) (r:V→List V→Hp→VK→Prop):Prop :=
  ∀ (pins:List (Addr × Obj)) (s:Shared) (σ:St) (H:Hp) (x:V) (xs:List V) (v:Value) (us:List Value) (Q:VK),Inv X pins σ H s→RelV x v→Vals xs us→r x xs H Q →
    wpAny (model X.prog X.w) X.A (call (.builtin id) (v :: us)) (EP X pins σ Q) X.xe s
section
variable {X:Cx} {a b:Expr} {ta tb:TE} {pos:Pos}
theorem pe_ix {r:R2} (hr:IxR X r) (ha:PE X a ta) (hb:PE X b tb) (hs:PlainIx b):PE X (.Subscript a b pos) (tOp r ta tb):=by
  intro pins s σ H Q I h
  exact Subscript_ (binT ha hb I h fun v u s2 x y H2 I2 rx ry q=>hr a b pins s2 σ H2 x y v u Q I2 rx ry q (hs _ _))
noncomputable def rIxL (K:PySem.W.Frag):R2:=fun x y H Q=>∃ p xs i v,x = .ref p∧y = .int i∧SqL K H p xs∧atI xs i = some v∧Q v H
noncomputable def rIxT (K:PySem.W.Frag):R2:=fun x y H Q=>∃ p xs i v,x = .ref p∧y = .int i∧SqT K H p xs∧atI xs i = some v∧Q v H
noncomputable def rIxS:R2:=fun x y H Q=>∃ z i c,x = .str z∧y = .int i∧z.length ≤ sizeLine∧atI z.cps.toList i = some c∧Q (.str ⟨#[c]⟩) H
theorem ix_list:IxR X (rIxL X.K):=by
  intro value slice pins s σ H x y v u Q I rx ry h hs
  obtain ⟨p,xs,i,z,rfl,rfl,hq,he,q⟩:=h
  cases rx
  obtain ⟨t,rfl⟩:=ry
  obtain ⟨its,r,pl,hz⟩:=I.list hq
  obtain ⟨j,h1,h2,h3,h4,h5⟩:=atI_get he
  obtain ⟨w,ew,rw'⟩:=r.get h2
  have hl:=r.length
  have hn:=line63
  have fin:EP X pins σ Q w s:=⟨z,H,I,rw',q⟩
  by_cases h0:0 ≤ i
  · have hj:i.toNat = j:=by
      rw [seqIndex_of h0 h5] at h1
      exact Option.some.inj h1
    exact item_listR pl.isList h0 (by omega) (by rw [hj]; simpa using ew) fin hs
  · have hj:(i + (its.toArray.size:Int)).toNat = j:=by
      rw [seqIndex_neg (by omega) h4] at h1
      rw [List.size_toArray,← hl]
      exact Option.some.inj h1
    exact subscriptTail_builtinR (x:=w) pl.isList.typeIs slot_list_getitem.lookup
      (wpAny_getItem_list_neg (Q:=fun r s'=>r = w∧EP X pins σ Q r s') pl.isList (by omega) (by rw [List.size_toArray]<;>omega) (by omega) (by rw [hj]; simpa using ew) ⟨rfl,fin⟩) hs
theorem ix_tup:IxR X (rIxT X.K):=by
  intro value slice pins s σ H x y v u Q I rx ry h hs
  obtain ⟨p,xs,i,z,rfl,rfl,hq,he,q⟩:=h
  cases rx
  obtain ⟨t,rfl⟩:=ry
  obtain ⟨its,r,pl,hz⟩:=I.tuple hq
  obtain ⟨j,h1,h2,h3,h4,h5⟩:=atI_get he
  obtain ⟨w,ew,rw'⟩:=r.get h2
  have hl:=r.length
  have hn:=line63
  have fin:EP X pins σ Q w s:=⟨z,H,I,rw',q⟩
  exact subscriptTail_builtinR (x:=w) pl.typeIs slot_tuple_getitem.lookup
    (getItem_tuple (j:=j) (Q:=fun r s'=>r = w∧EP X pins σ Q r s') pl (by omega) (by omega) (by rw [List.size_toArray,← hl]; exact h1) (by simpa using ew) ⟨rfl,fin⟩) hs
theorem ix_str:IxR X rIxS:=by
  intro value slice pins s σ H x y v u Q I rx ry h hs
  obtain ⟨z,i,c,rfl,rfl,hz,he,q⟩:=h
  obtain ⟨t,rfl⟩:=rx
  obtain ⟨t',rfl⟩:=ry
  obtain ⟨j,h1,h2,h3,h4,h5⟩:=atI_get he
  have hl:z.cps.toList.length = z.length:=by simp [Str.length]
  rw [hl] at h1 h4 h5
  have hn:=line63
  exact tail_any (typeIs_str s z t) slot_str_getitem.lookup (getItem_str (c:=c) (by
    have e1:decide (i < -(2 ^ 63:Int)) = false:=decide_eq_false (by omega)
    have e2:decide (i ≥ 2 ^ 63) = false:=decide_eq_false (by omega)
    rw [e1,e2,Bool.or_false]) (by rw [h1]; simpa using h2) ⟨.str ⟨#[c]⟩,H,I.tok _,⟨_,rfl⟩,q⟩) hs
theorem mapSeq_set (its:List Value) (n j:Nat) (u:Value):Obj.mapSeq (·.setIfInBounds j u) { cls:=.type "list",data:=.seq its.toArray n } = { cls:=.type "list",data:=.seq (its.set j u).toArray n }:=by
  simp [Obj.mapSeq]
theorem Inv.lst {pins:List (Addr × Obj)} {σ:St} {H:Hp} {s:Shared} {p:Addr} {xs:List V} (I:Inv X pins σ H s) (h:H p = some (.lst xs)) :
    ∃ (its:List Value) (n:Nat),Vals xs its∧s.heap.get? p = some { cls:=.type "list",data:=.seq its.toArray n }∧xs.length ≤ sizeLine:=by
  obtain ⟨z,its,n,r,e⟩:=I.hok p _ h
  exact ⟨its,n,r,e,z⟩
theorem Inv.lstUpd {pins:List (Addr × Obj)} {σ:St} {H:Hp} {s:Shared} {p:Addr} {xs ys:List V} {its its':List Value} {n n':Nat} {f:Obj→Obj} (I:Inv X pins σ H s) (h:H p = some (.lst xs))
    (ho:s.heap.get? p = some { cls:=.type "list",data:=.seq its.toArray n }) (hf:f { cls:=.type "list",data:=.seq its.toArray n } = { cls:=.type "list",data:=.seq its'.toArray n' }) (r:Vals ys its') (hz:ys.length ≤ sizeLine) (t:Nat) :
    Inv X pins σ (upd H p (.lst ys)) { s with heap:=s.heap.update p f,toks:=t }:=by
  have e:(s.heap.update p f).get? p = some { cls:=.type "list",data:=.seq its'.toArray n' }:=by
    rw [Heap.get?_update_self f ho (by rw [hf]<;>rfl),hf]
  refine I.write (x:=p) (e:=p) (by rw [h]; trivial) (.inl rfl) (fun b u hb q=>(Heap.get?_update_other _ _ (Ne.symm hb)).trans q) ⟨_,e⟩ ?_
  exact ⟨hz,its',n',r,e⟩
noncomputable def rSetL:V→V→V→Hp→(Hp→Prop)→Prop:=fun o i v H Q=>∃ p xs k j,o = .ref p∧i = .int k∧H p = some (.lst xs)∧ixN xs.length k = some j∧Q (upd H p (.lst (xs.set j v)))
theorem set_list:PSet X rSetL:=by
  intro pins s σ H o i v ov iv u Q I ro ri rv h
  obtain ⟨p,xs,k,j,rfl,rfl,hp,hj,q⟩:=h
  cases ro
  obtain ⟨t,rfl⟩:=ri
  obtain ⟨its,n,r,ho,hz⟩:=I.lst hp
  obtain ⟨h1,h2,h3,h4⟩:=ixN_seq hj
  have hl:=r.length
  have hn:=line63
  have I':Inv X pins σ (upd H p (.lst (xs.set j v))) { s with heap:=s.heap.update p (Obj.mapSeq (·.setIfInBounds j u)) } :=
    I.lstUpd hp ho (mapSeq_set its n j u) (r.set rv j) (by rw [List.length_set]; exact hz) s.toks
  by_cases h0:0 ≤ k
  · have hk:k.toNat = j:=by
      rw [seqIndex_of h0 h4] at h1
      exact Option.some.inj h1
    exact PySem.W.ki_setAt ho h0 (by omega) (by rw [List.size_toArray,← hl]; exact h4) (by rw [hk]; exact ⟨_,I',q⟩)
  · have hk:(k + (its.toArray.size:Int)).toNat = j:=by
      rw [seqIndex_neg (by omega) h3] at h1
      rw [List.size_toArray,← hl]
      exact Option.some.inj h1
    exact PySem.W.ki_setBack ho (by omega) (by rw [List.size_toArray,← hl]; exact h3) (by omega) (by rw [hk]; exact ⟨_,I',q⟩)
theorem slice_bounds (lo hi:Option Int) (n:Nat):(sliceBounds lo hi none n).1 = ((HT.sIx n 0 lo:Nat):Int)∧(sliceBounds lo hi none n).2.1 = ((HT.sIx n n hi:Nat):Int)∧(sliceBounds lo hi none n).2.2 = 1:=by
  refine ⟨?_,?_,rfl⟩
  · cases lo with
    | none=>simp [sliceBounds,HT.sIx]
    | some i =>
      simp only [sliceBounds,HT.sIx,Option.getD_none,show (1:Int) > 0 by decide,if_true]
      by_cases h:i < 0
      · simp only [h,if_true]<;>omega
      · simp only [h,if_false]<;>omega
  · cases hi with
    | none=>simp [sliceBounds,HT.sIx]
    | some i =>
      simp only [sliceBounds,HT.sIx,Option.getD_none,show (1:Int) > 0 by decide,if_true]
      by_cases h:i < 0
      · simp only [h,if_true]<;>omega
      · simp only [h,if_false]<;>omega
theorem slicePick_cut (its:List Value) (lo hi:Option Int):slicePick its.toArray lo hi none = ((its.drop (HT.sIx its.length 0 lo)).take (HT.sIx its.length its.length hi - HT.sIx its.length 0 lo)).toArray:=by
  obtain ⟨h1,h2,h3⟩:=slice_bounds lo hi its.toArray.size
  unfold slicePick
  rw [h1,h2,h3]
  simp only [sliceRange_one,pick_run,List.size_toArray]<;>rfl
noncomputable def rSlL (K:PySem.W.Frag):V→Option Int→Option Int→Hp→VK→Prop:=fun x lo hi H Q=>∃ a xs,x = .ref a∧SqL K H a xs∧∀ p,H p = none→Q (.ref p) (upd H p (.lst (cutV xs lo hi)))
theorem sl_list:SlR X (rSlL X.K):=by
  intro pins s σ H x v vl vu lo hi sl Q I rx hs pl pu h
  obtain ⟨a,xs,rfl,hx,q⟩:=h
  cases rx
  obtain ⟨its,r,ht,hz⟩:=I.list hx
  have hlen:=r.length
  refine ⟨"list",_,slot_list_getitem.lookup,ht.isList.typeIs,?_⟩
  refine wpAny_getItem_list_slice ht.isList hs pl pu .none (by simp) ?_ (by rw [List.size_toArray]<;>omega)
  rw [slicePick_cut,← hlen]
  refine ⟨.ref s.heap.objs.size,_,I.laid (t':=s.toks) (o:=.lst (cutV xs lo hi)) (fun b ob q=>Heap.get?_push_of_some _ q) (Nat.le_refl _) ?_,rfl,q _ (I.hok.fresh (Nat.le_refl _))⟩
  exact ⟨Nat.le_trans (cutV_length xs lo hi) hz,_,0,(r.drop (HT.sIx xs.length 0 lo)).take (HT.sIx xs.length xs.length hi - HT.sIx xs.length 0 lo),Heap.get?_push_size _ rfl⟩
noncomputable def flatV:V→Bool
  | .non=>true
  | .bl _=>true
  | .int _=>true
  | .str _=>true
  | _=>false
noncomputable def eqV:V→V→Bool
  | .non,.non=>true
  | .bl a,.bl b=>a == b
  | .bl a,.int b=>(if a then 1 else 0) == b
  | .int a,.bl b=>a == (if b then 1 else 0)
  | .int a,.int b=>a == b
  | .str a,.str b=>a == b
  | _,_=>false
theorem eqAt_V {A:Around} {s:Shared} {y x:V} {u v:Value} (ry:RelV y u) (rx:RelV x v) (fy:flatV y = true) (fx:flatV x = true):SeqAt.EqAt A s u v (eqV y x):=by
  cases y with
  | non =>
    cases ry
    cases x with
    | non=>cases rx; exact SeqAt.EqAt.same _
    | bl b=>cases rx; exact SeqAt.EqAt.none_bool b
    | int b=>obtain ⟨t,rfl⟩:=rx; exact SeqAt.EqAt.none_int b t
    | str b=>obtain ⟨t,rfl⟩:=rx; exact SeqAt.EqAt.none_str b t
    | _=>exact absurd (show false = true from fx) Bool.false_ne_true
  | bl a =>
    cases ry
    cases x with
    | non=>cases rx; exact SeqAt.EqAt.bool_none a
    | bl b=>cases rx; exact SeqAt.EqAt.bool_bool a b
    | int b=>obtain ⟨t,rfl⟩:=rx; exact SeqAt.EqAt.bool_int a b t
    | str b=>obtain ⟨t,rfl⟩:=rx; exact SeqAt.EqAt.bool_str a b t
    | _=>exact absurd (show false = true from fx) Bool.false_ne_true
  | int a =>
    obtain ⟨t',rfl⟩:=ry
    cases x with
    | non=>cases rx; exact SeqAt.EqAt.int_none a t'
    | bl b=>cases rx; exact SeqAt.EqAt.int_bool a t' b
    | int b=>obtain ⟨t,rfl⟩:=rx; exact SeqAt.EqAt.int_int a t' b t
    | str b=>obtain ⟨t,rfl⟩:=rx; exact SeqAt.EqAt.int_str a t' b t
    | _=>exact absurd (show false = true from fx) Bool.false_ne_true
  | str a =>
    obtain ⟨t',rfl⟩:=ry
    cases x with
    | non=>cases rx; exact SeqAt.EqAt.str_none a t'
    | bl b=>cases rx; exact SeqAt.EqAt.str_bool a t' b
    | int b=>obtain ⟨t,rfl⟩:=rx; exact SeqAt.EqAt.str_int a t' b t
    | str b=>obtain ⟨t,rfl⟩:=rx; exact SeqAt.EqAt.str_str a t' b t
    | _=>exact absurd (show false = true from fx) Bool.false_ne_true
  | _=>exact absurd (show false = true from fy) Bool.false_ne_true
theorem call_len_seq:CallR X (.builtin "len") (fun xs H Q=>∃ p ys,xs = [.ref p]∧(SqL X.K H p ys ∨ SqT X.K H p ys)∧Q (.int ys.length) H):=by
  intro pins s σ H xs us Q I r h
  obtain ⟨p,ys,rfl,hq,q⟩:=h
  obtain ⟨u,rfl,rx⟩:=vals1 r
  cases rx
  have hn:=line63
  rcases hq with hq | hq
  · obtain ⟨its,r',pl,hz⟩:=I.list hq
    have hlen:=r'.length
    exact Calls.call_len_list pl.isList (by simp only [List.size_toArray]<;>omega) ⟨.int ys.length,H,I.tok _,⟨s.toks + 1,by rw [List.size_toArray,hlen]⟩,q⟩
  · obtain ⟨its,r',pl,hz⟩:=I.tuple hq
    have hlen:=r'.length
    exact len_tuple pl (by simp only [List.size_toArray]<;>omega) ⟨.int ys.length,H,I.tok _,⟨s.toks + 1,by rw [List.size_toArray,hlen]⟩,q⟩
theorem call_len_str:CallR X (.builtin "len") (fun xs H Q=>∃ z,xs = [.str z]∧z.length ≤ sizeLine∧Q (.int z.length) H):=by
  intro pins s σ H xs us Q I r h
  obtain ⟨z,rfl,hz,q⟩:=h
  obtain ⟨u,rfl,t,rfl⟩:=vals1 r
  have hn:=line63
  exact len_str (by omega) ⟨.int z.length,H,I.tok _,⟨_,rfl⟩,q⟩
theorem call_list_of:CallR X (.type "list") (fun xs H Q=>∃ p ys,xs = [.ref p]∧(SqL X.K H p ys ∨ SqT X.K H p ys)∧∀ l,H l = none→Q (.ref l) (upd H l (.lst ys))):=by
  intro pins s σ H xs us Q I r h
  obtain ⟨p,ys,rfl,hq,q⟩:=h
  obtain ⟨u,rfl,rx⟩:=vals1 r
  cases rx
  have fin:∀ (its:List Value),Vals ys its→ys.length ≤ sizeLine→∀ (h':Heap) (c':Nat),(∀ b o',s.heap.get? b = some o'→h'.get? b = some o') →
      h'.get? s.heap.objs.size = some { cls:=.type "list",dict:=none,data:=.seq its.toArray c',slots:=#[] }→EP X pins σ Q (.ref s.heap.objs.size) { s with heap:=h' }:=fun its r' hz h' c' kp e =>
    ⟨.ref s.heap.objs.size,_,I.laid (t':=s.toks) kp (Nat.le_refl _) (show ObjOk X.prog X.w _ h' _ (.lst ys) from ⟨hz,its,c',r',e⟩),rfl,q _ (I.hok.fresh (Nat.le_refl _))⟩
  rcases hq with hq | hq
  · obtain ⟨its,r',pl,hz⟩:=I.list hq
    have hlen:=r'.length
    obtain ⟨o,ho,hc,n,hd⟩:=pl.isList
    exact call_list_seq p (.inl rfl) ho hc hd (fun h' c' kp e=>fin its r' hz h' c' kp e) (by simp only [List.size_toArray]<;>omega)
  · obtain ⟨its,r',pl,hz⟩:=I.tuple hq
    have hlen:=r'.length
    obtain ⟨o,ho,hc,n,hd⟩:=pl
    exact call_list_seq p (.inr rfl) ho hc hd (fun h' c' kp e=>fin its r' hz h' c' kp e) (by simp only [List.size_toArray]<;>omega)
theorem call_tuple_of:CallR X (.type "tuple") (fun xs H Q=>∃ p ys,xs = [.ref p]∧((SqL X.K H p ys∧∀ l,H l = none→Q (.ref l) (upd H l (.tup ys))) ∨ (SqT X.K H p ys∧Q (.ref p) H))):=by
  intro pins s σ H xs us Q I r h
  obtain ⟨p,ys,rfl,h⟩:=h
  obtain ⟨u,rfl,rx⟩:=vals1 r
  cases rx
  rcases h with ⟨hq,q⟩ | ⟨hq,q⟩
  · obtain ⟨its,r',pl,hz⟩:=I.list hq
    have hlen:=r'.length
    refine call_tuple_list pl.isList (fun h' kp=>?_) (by simp only [List.size_toArray]<;>omega)
    have I1:Inv X pins σ H { s with heap:=h' }:=I.kept (t':=s.toks) kp
    have I2:Inv X pins σ (upd H h'.objs.size (.tup ys)) { s with heap:=h'.push { cls:=.type "tuple",data:=.seq its.toArray } } :=
      I1.laid (t':=s.toks) (fun b o e=>Heap.get?_push_of_some _ e) (Nat.le_refl _) (show ObjOk X.prog X.w _ _ _ (.tup ys) from ⟨hz,its,r',IsTup.new _ _⟩)
    exact ⟨.ref h'.objs.size,_,I2,rfl,q _ (I1.hok.fresh (Nat.le_refl _))⟩
  · obtain ⟨its,r',pl,hz⟩:=I.tuple hq
    exact call_tuple_same pl ⟨.ref p,H,I,rfl,q⟩
noncomputable def tyV (K:PySem.W.Frag) (T:String) (x:V) (H:Hp):Prop:=match x with
  | .str _=>T = "str"
  | .int _=>T = "int"
  | .ref p=>(T = "list"∧∃ xs,SqL K H p xs) ∨ (T = "tuple"∧∃ o,K.lookup p = some o∧o.cls = .type "tuple"∧o.dict = none) ∨
      (T = "dict"∧((∃ kvs,H p = some (.dK kvs)) ∨ ∃ kvs,H p = some (.dT kvs))) ∨ (T = "set"∧∃ S n,H p = some (.set S n))
  | _=>False
theorem tyV_is {pins:List (Addr × Obj)} {σ:St} {H:Hp} {s:Shared} {T:String} {x:V} {v:Value} (I:Inv X pins σ H s) (r:RelV x v) (ty:tyV X.K T x H) :
    s.TypeIs v T∧∀ a,v = .ref a→∃ ob,s.heap.get? a = some ob∧ob.dict = none:=by
  cases x with
  | str z =>
    obtain ⟨t,rfl⟩:=r
    cases (show T = "str" from ty)
    exact ⟨typeIs_str s z t,fun _ e=>nomatch e⟩
  | int i =>
    obtain ⟨t,rfl⟩:=r
    cases (show T = "int" from ty)
    exact ⟨typeIs_int s i t,fun _ e=>nomatch e⟩
  | ref p =>
    cases r
    rcases ty with ⟨rfl,xs,hq⟩ | ⟨rfl,o,hk,hc,hd⟩ | ⟨rfl,hk⟩ | ⟨rfl,S,n,hk⟩
    · obtain ⟨its,_,pl,_⟩:=I.list hq
      refine ⟨pl.isList.typeIs,fun a e=>?_⟩
      cases e
      obtain ⟨o,n,e,c,hd,_⟩:=pl
      exact ⟨o,e,hd⟩
    · refine ⟨⟨o,I.kIn p o hk,hc⟩,fun a e=>?_⟩
      cases e
      exact ⟨o,I.kIn _ o hk,hd⟩
    · have z:∃ o,s.heap.get? p = some o∧o.ExactDict:=by
        rcases hk with ⟨kvs,hk⟩ | ⟨kvs,hk⟩
        · obtain ⟨_,_,_,_,o,_,_,e,ex,_⟩:=I.hok p _ hk
          exact ⟨o,e,ex⟩
        · obtain ⟨_,_,_,_,o,_,_,e,ex,_⟩:=I.hok p _ hk
          exact ⟨o,e,ex⟩
      obtain ⟨o,e,ex⟩:=z
      refine ⟨⟨o,e,ex.1⟩,fun a e2=>?_⟩
      cases e2
      exact ⟨o,e,ex.2.1⟩
    · obtain ⟨o,_,_,_,e,ex,_⟩:=I.hok p _ hk
      refine ⟨⟨o,e,ex.1⟩,fun a e2=>?_⟩
      cases e2
      exact ⟨o,e,ex.2.1⟩
  | _=>exact False.elim ty
noncomputable def tBM0 (K:PySem.W.Frag) (T:String) (r:V→List V→Hp→VK→Prop) (to:TE):TE:=fun σ H Q=>to σ H fun x H1=>tyV K T x H1∧r x [] H1 Q
noncomputable def tBM (K:PySem.W.Frag) (T:String) (r:V→List V→Hp→VK→Prop) (to:TE) (t:TA):TE:=fun σ H Q=>to σ H fun x H1=>tyV K T x H1∧t σ H1 fun xs H2=>r x xs H2 Q
variable {o e:Expr} {es:List Expr} {to:TE} {t:TA} {name:Str} {apos cpos:Pos} {T id:String} {r:V→List V→Hp→VK→Prop}
theorem pe_bm0 (pa:PlainAttrs T) (slot:Slot T name id) (hty:typeOf (.builtin id) = pure (.type "method_descriptor")) (hm:MtR X id r) (ho:PE X o to)
    (hbase:attributeBase o name X.env (eval o X.env) = eval o X.env:=by rfl) (hline:(apos.endLine == cpos.line) = true:=by rfl):PE X (.Call (.Attribute o name apos) [] [] cpos) (tBM0 X.K T r to):=by
  intro pins s σ H Q I h
  refine wpAny_Call_method0_late hbase hline (thn (ho pins s σ H _ I h) fun v s1 ⟨x,H1,I1,r1,ty,q1⟩=>?_)
  obtain ⟨h1,h2⟩:=tyV_is I1 r1 ty
  exact ⟨T,id,pa,slot,hty,h1,h2,Calls.callWith_builtin rfl (PySem.evalArgs_none (hm pins s1 σ H1 x [] v [] Q I1 r1 .nil q1))⟩
theorem pe_bm (pa:PlainAttrs T) (slot:Slot T name id) (hty:typeOf (.builtin id) = pure (.type "method_descriptor")) (hm:MtR X id r) (ho:PE X o to) (ha:PA X (e :: es) t)
    (hbase:attributeBase o name X.env (eval o X.env) = eval o X.env:=by rfl)
    (hfew:((backTo cpos (starEach (e :: es) X.env)).all (fun x=>!x.1) && (backToKw cpos (keywordEach [] X.env)).all (fun x=>x.1.isSome)
      && decide ((e :: es).length + ([]:List Keyword).length + (if ([]:List Keyword).isEmpty then 0 else 1) < 30)) = true:=by rfl)
    (hline:(apos.endLine == cpos.line) = true:=by rfl) (hs:starEach (e :: es) X.env = (false,eval e X.env) :: starEach es X.env:=by rfl) (hplain:(backTo cpos (starEach es X.env)).any (·.1) = false:=by rfl) :
    PE X (.Call (.Attribute o name apos) (e :: es) [] cpos) (tBM X.K T r to t):=by
  intro pins s σ H Q I h
  refine wpAny_Call_method_late hbase hfew hline rfl (thn (ho pins s σ H _ I h) fun v s1 ⟨x,H1,I1,r1,ty,q1⟩=>?_)
  obtain ⟨h1,h2⟩:=tyV_is I1 r1 ty
  refine ⟨T,id,pa,slot,hty,h1,h2,?_⟩
  have hA:=ha cpos pins s1 σ H1 _ I1 q1
  rw [hs] at hA ⊢
  refine Calls.callWith_builtin (by show (false || (backTo cpos (starEach es X.env)).any (·.1)) = false; rw [hplain]<;>rfl) (Calls.evalArgs_plain ?_)
  exact thn hA fun us s2 ⟨vs,H2,I2,r2,q2⟩=>hm pins s2 σ H2 x vs v us Q I2 r1 r2 q2
end
end L2
namespace L2
open PySem PySem.Spec PyProof.Rows
noncomputable def MtM (X:Cx) (id:String) (r:V→List V→Hp→VK→Prop):Prop :=
  ∀ (pins:List (Addr × Obj)) (s:Shared) (σ:St) (H:Hp) (x:V) (xs:List V) (v:Value) (us:List Value) (Q:VK),Inv X pins σ H s→RelV x v→Vals xs us→r x xs H Q →
    wpAny (model X.prog X.w) X.A (call (.builtin id) (v :: us)) (EP X pins σ Q) X.xe s
theorem Vals.one:∀ {x:V} {us:List Value},Vals [x] us→∃ u,us = [u]∧RelV x u
  | _,_,.cons r .nil=>⟨_,rfl,r⟩
theorem Vals.two:∀ {x y:V} {us:List Value},Vals [x,y] us→∃ u v,us = [u,v]∧RelV x u∧RelV y v
  | _,_,_,.cons r (.cons q .nil)=>⟨_,_,rfl,r,q⟩
theorem Vals.zero:∀ {us:List Value},Vals [] us→us = []
  | _,.nil=>rfl
theorem Vals.dropLast {xs:List V} {us:List Value} (h:Vals xs us):Vals xs.dropLast us.dropLast:=by
  induction h with
  | nil=>exact .nil
  | cons r t ih =>
    cases t with
    | nil=>exact .nil
    | cons q t'=>exact .cons r ih
theorem Vals.eraseIdx:∀ {xs:List V} {us:List Value} (i:Nat),Vals xs us→Vals (xs.eraseIdx i) (us.eraseIdx i)
  | _,_,_,.nil=>.nil
  | _,_,0,.cons _ t=>t
  | _,_,i + 1,.cons r t=>.cons r (Vals.eraseIdx i t)
theorem Vals.reverse {xs:List V} {us:List Value} (h:Vals xs us):Vals xs.reverse us.reverse:=by
  induction h with
  | nil=>exact .nil
  | cons r t ih=>rw [List.reverse_cons,List.reverse_cons]; exact Vals.append ih (.cons r .nil)
theorem Vals.rep {xs:List V} {us:List Value} (h:Vals xs us):∀ k:Nat,Vals (List.replicate k xs).flatten (List.replicate k us).flatten
  | 0=>.nil
  | k + 1=>by
    rw [List.replicate_succ,List.replicate_succ,List.flatten_cons,List.flatten_cons]
    exact Vals.append h (Vals.rep h k)
theorem erase_last {α:Type} (l:List α):l.eraseIdx (l.length - 1) = l.dropLast:=by
  induction l with
  | nil=>rfl
  | cons a r ih =>
    cases r with
    | nil=>rfl
    | cons b r =>
      have e:(a :: b :: r).length - 1 = ((b :: r).length - 1) + 1:=by
        have h1:(a :: b :: r).length = r.length + 2:=rfl
        have h2:(b :: r).length = r.length + 1:=rfl
        omega
      rw [e,List.eraseIdx_cons_succ,ih]
      all_goals rfl
theorem foldl_rep (its:List Value):∀ (k:Nat) (acc:List Value),
    List.foldl (fun x1 x2=>x1 ++ x2) acc.toArray (List.replicate k its.toArray) = (acc ++ (List.replicate k its).flatten).toArray
  | 0,acc=>by simp
  | k + 1,acc=>by
    have e:acc.toArray ++ its.toArray = (acc ++ its).toArray:=by simp
    have e2:(acc ++ its) ++ (List.replicate k its).flatten = acc ++ (List.replicate (k + 1) its).flatten:=by
      rw [List.replicate_succ,List.flatten_cons,List.append_assoc]
    rw [← e2,← foldl_rep its k (acc ++ its),← e,List.replicate_succ,List.foldl_cons]
section
variable {X:Cx} {pins:List (Addr × Obj)} {σ:St} {H:Hp} {s:Shared} {l b:Addr} {xs ys zs:List V}
theorem Inv.lset {its its':List Value} {n:Nat} {f:Array Value→Array Value} {t':Nat} (I:Inv X pins σ H s) (hH:H l = some (.lst xs))
    (e:s.heap.get? l = some { cls:=.type "list",data:=.seq its.toArray n }) (hf:f its.toArray = its'.toArray) (hv:Vals ys its') (hz:ys.length ≤ sizeLine) :
    Inv X pins σ (upd H l (.lst ys)) { s with heap:=s.heap.update l (Obj.mapSeq f),toks:=t' }:=by
  have q:=PySem.IsL.update e f
  rw [hf] at q
  refine I.write (x:=l) (e:=l) (by rw [hH]; exact trivial) (.inl rfl) (fun b' u hb hu=>(Heap.get?_update_other s.heap (Obj.mapSeq f) (Ne.symm hb)).trans hu) ⟨_,q⟩ ?_
  exact ⟨hz,its',_,hv,q⟩
theorem Inv.lnew {its:List Value} {t':Nat} (I:Inv X pins σ H s) (hv:Vals ys its) (hz:ys.length ≤ sizeLine) :
    Inv X pins σ (upd H s.heap.objs.size (.lst ys)) { s with heap:=s.heap.push { cls:=.type "list",data:=.seq its.toArray },toks:=t' } :=
  I.laid (fun _ _ q=>Heap.get?_push_of_some _ q) (Nat.le_refl _) ⟨hz,its,0,hv,Heap.get?_push_size _ rfl⟩
theorem Inv.fresh (I:Inv X pins σ H s):H s.heap.objs.size = none:=I.hok.fresh (Nat.le_refl _)
theorem Inv.lstM (I:Inv X pins σ H s) (hH:H l = some (.lst xs)):xs.length ≤ sizeLine∧∃ (its:List Value) (n:Nat),Vals xs its∧xs.length = its.length∧s.heap.get? l = some { cls:=.type "list",data:=.seq its.toArray n }:=by
  obtain ⟨z,its,n,r,e⟩:=I.hok l _ hH
  exact ⟨z,its,n,r,r.length,e⟩
theorem notLongL {n:Nat} (h:n ≤ sizeLine):Builtin.List.listTooLong n = false:=by
  unfold Builtin.List.listTooLong
  exact decide_eq_false (by omega)
end
section
variable {X:Cx}
noncomputable def rAppend:V→List V→Hp→VK→Prop:=fun x vs H Q=>∃ l xs y,x = .ref l∧vs = [y]∧H l = some (.lst xs)∧xs.length < sizeLine∧Q .non (upd H l (.lst (xs ++ [y])))
theorem mt_append:MtM X "list.append" rAppend:=by
  intro pins s σ H x vs v us Q I rx rv h
  obtain ⟨l,xs,y,rfl,rfl,hH,hz,q⟩:=h
  cases rx
  obtain ⟨u,rfl,ru⟩:=rv.one
  obtain ⟨z,its,n,r,hl,e⟩:=I.lstM hH
  refine call_meets F.slot_list_append ⟨_,e,rfl⟩ F.entry_list_append (F.args_list_append_2 _ _) (PySem.list_append l its.toArray n u (by rw [List.size_toArray]; omega)) ⟨e,?_⟩
  refine ⟨.non,_,I.lset (its':=its ++ [u]) hH e (by simp) (r.append (.cons ru .nil)) ?_,rfl,q⟩
  rw [List.length_append,List.length_singleton]
  omega
noncomputable def rExtend:V→List V→Hp→VK→Prop:=fun x vs H Q=>∃ l b xs zs,x = .ref l∧vs = [.ref b]∧H l = some (.lst xs)∧H b = some (.lst zs)∧xs.length + zs.length ≤ sizeLine∧Q .non (upd H l (.lst (xs ++ zs)))
theorem mt_extend:MtM X "list.extend" rExtend:=by
  intro pins s σ H x vs v us Q I rx rv h
  obtain ⟨l,b,xs,zs,rfl,rfl,hH,hB,hz,q⟩:=h
  cases rx
  obtain ⟨u,rfl,ru⟩:=rv.one
  cases ru
  obtain ⟨z,its,n,r,hl,e⟩:=I.lstM hH
  obtain ⟨z2,its2,n2,r2,hl2,e2⟩:=I.lstM hB
  have hsz:its.toArray.size + its2.toArray.size ≤ sizeLine:=by rw [List.size_toArray,List.size_toArray]; omega
  have hlong:¬ (!its.toArray.isEmpty && Builtin.List.listTooLong (its.toArray.size + its2.toArray.size)) = true:=by
    rw [notLongL hsz,Bool.and_false]
    exact Bool.false_ne_true
  refine call_meets F.slot_list_extend ⟨_,e,rfl⟩ F.entry_list_extend (F.args_list_extend_2 _ _)
    (AutoSeq1.list_extend_list_list_0 l its.toArray n b its2.toArray n2 hlong (by rw [List.size_toArray]; omega) (by omega)) ⟨e,e2,?_⟩
  refine ⟨.non,_,I.lset (its':=its ++ its2) hH e (by simp) (r.append r2) ?_,rfl,q⟩
  rw [List.length_append]
  omega
noncomputable def rPop:V→List V→Hp→VK→Prop:=fun x vs H Q=>∃ l xs y,x = .ref l∧vs = []∧H l = some (.lst xs)∧xs[xs.length - 1]? = some y∧Q y (upd H l (.lst xs.dropLast))
theorem mt_pop:MtM X "list.pop" rPop:=by
  intro pins s σ H x vs v us Q I rx rv h
  obtain ⟨l,xs,y,rfl,rfl,hH,hy,q⟩:=h
  cases rx
  have hus:=rv.zero
  subst hus
  obtain ⟨z,its,n,r,hl,e⟩:=I.lstM hH
  obtain ⟨u,hu,ru⟩:=r.get hy
  have hy':its.toArray[its.toArray.size - 1]? = some u:=by
    show its.toArray[its.length - 1]? = some u
    rw [← Array.getElem?_toList,← hl]
    exact hu
  refine call_meets F.slot_list_pop ⟨_,e,rfl⟩ F.entry_list_pop (F.args_list_pop_1 _) (MeetsSeq.list_pop_last l its.toArray n u hy' (by rw [List.size_toArray]; omega)) ⟨e,?_⟩
  refine ⟨y,_,I.lset (its':=its.dropLast) hH e ?_ r.dropLast ?_,ru,q⟩
  · show its.toArray.eraseIdxIfInBounds (its.toArray.size - 1) = its.dropLast.toArray
    rw [List.size_toArray,List.eraseIdxIfInBounds_toArray,erase_last]
  · rw [List.length_dropLast]
    omega
noncomputable def rCat:R2:=fun x y H Q=>∃ l b xs zs,x = .ref l∧y = .ref b∧H l = some (.lst xs)∧H b = some (.lst zs)∧xs.length + zs.length ≤ sizeLine∧∀ p,H p = none→Q (.ref p) (upd H p (.lst (xs ++ zs)))
theorem op_cat:OpR X (binaryOp .Add) rCat:=by
  intro pins s σ H x y v u Q I rx ry h
  obtain ⟨l,b,xs,zs,rfl,rfl,hH,hB,hz,q⟩:=h
  cases rx
  cases ry
  obtain ⟨z,its,n,r,hl,e⟩:=I.lstM hH
  obtain ⟨z2,its2,n2,r2,hl2,e2⟩:=I.lstM hB
  refine PySem.P.add_list e e2 ?_ (by rw [List.size_toArray,List.size_toArray]; omega)
  have ea:its.toArray ++ its2.toArray = (its ++ its2).toArray:=by simp
  rw [ea]
  exact ⟨.ref _,_,I.lnew (t':=s.toks) (r.append r2) (by rw [List.length_append]; omega),rfl,q _ I.fresh⟩
noncomputable def rRep:R2:=fun x y H Q=>∃ l k xs,x = .ref l∧y = .int k∧H l = some (.lst xs)∧-(2 ^ 63) ≤ k∧k < 2 ^ 63∧xs.length * k.toNat ≤ sizeLine ∧
  ∀ p,H p = none→Q (.ref p) (upd H p (.lst (List.replicate k.toNat xs).flatten))
theorem len_rep {α:Type} (xs:List α) (k:Nat):(List.replicate k xs).flatten.length = k * xs.length:=by
  induction k with
  | zero=>simp
  | succ k ih=>rw [List.replicate_succ,List.flatten_cons,List.length_append,ih,Nat.succ_mul,Nat.add_comm]
theorem op_rep:OpR X (binaryOp .Mult) rRep:=by
  intro pins s σ H x y v u Q I rx ry h
  obtain ⟨l,k,xs,rfl,rfl,hH,h1,h2,hz,q⟩:=h
  cases rx
  obtain ⟨t,rfl⟩:=ry
  obtain ⟨z,its,n,r,hl,e⟩:=I.lstM hH
  have hlen:its.toArray.size * k.toNat ≤ sizeLine:=by rw [List.size_toArray,← hl]; exact hz
  have hcap:¬ its.toArray.size * k.toNat > (2 ^ 63 - 1) / 8:=by
    have:(sizeLine:Nat) ≤ (2 ^ 63 - 1) / 8:=by decide
    omega
  have hfit:¬ (!Builtin.List.listFitsIndex k) = true:=by
    rw [fitsIndex_both h1 h2]
    exact Bool.false_ne_true
  have hlong:¬ Builtin.List.listTooLong (its.toArray.size * k.toNat) = true:=by
    rw [notLongL hlen]
    exact Bool.false_ne_true
  have hnew:List.foldl (fun x1 x2=>x1 ++ x2) #[] (List.replicate (if its.toArray.isEmpty = true then 0 else k.toNat) its.toArray) = (List.replicate k.toNat its).flatten.toArray:=by
    have f0:∀ m:Nat,List.foldl (fun x1 x2=>x1 ++ x2) #[] (List.replicate m its.toArray) = (List.replicate m its).flatten.toArray:=fun m=>by
      have:=foldl_rep its m []
      rw [List.nil_append] at this
      exact this
    rw [f0]
    cases its with
    | nil=>simp
    | cons a r'=>rw [if_neg (by simp)]
  refine wpAny_binaryOp_repeat_ref (T:="list") (U:="int") (by decide) ⟨_,e,rfl⟩ (fun s'=>typeIs_int s' k t) noFill_list_mul F.fills_int_mul F.slot_int_rmul repeat_list F.slot_int_index.lookup
    (call_meets F.slot_int_rmul (typeIs_int s k t) F.entry_int_rmul (F.args_int_rmul_2 _ _) (int___rmul___int_list k t l its.toArray n)
      ⟨e,rfl,⟨_,e,rfl⟩,call_meets F.slot_list_mul ⟨_,e,rfl⟩ F.entry_list_mul (F.args_list_mul_2 _ _) (AutoListH.list___mul___list_int_3 l its.toArray n k t hfit hcap hlong) ⟨e,?_⟩⟩)
  rw [hnew]
  exact ⟨.ref _,_,I.lnew (t':=s.toks) (r.rep k.toNat) (by rw [len_rep,Nat.mul_comm]; exact hz),rfl,q _ I.fresh⟩
end
section
variable {prog:Program} {w:World} {A:Around} {E:Value→Shared→Prop} {s:Shared}
set_option maxRecDepth 100000 in
end
section
variable {X:Cx}
end
end L2
namespace Att
open PySem PySem.W PySem.Calls PyProof.Rows
theorem ints_of_wellAll {P:Params} {h:Heap}:∀ (ns:List Int) (vs:List Value),WellAll P h vs (ns.map WData.int)→IntsAre vs ns:=by
  intro ns
  induction ns with
  | nil =>
    intro vs w
    rw [List.map_nil] at w
    cases w
    exact .nil
  | cons n ns ih =>
    intro vs w
    rw [List.map_cons] at w
    cases w with
    | cons a b =>
      cases a
      exact .cons _ _ (ih _ b)
theorem script_of {l:OpenLaw} {n:Nat} (hn:l.most = some n) {P:Params} {h:Heap} {args:List WData} {vals:List Value}
    (hpre:l.row.toRowW.claim.pre args = true) (hwl:WellAll P h vals args) :
    ∃ a vs ns,vals = [Value.ref a]∧args = [WData.list (ns.map WData.int)]∧h.get? a = some { cls:=.type "list",data:=.seq vs.toArray }∧IntsAre vs ns∧ns.length ≤ n:=by
  have hsh:WShape.hasAll [] args [.list .int] = true:=(pre_splitW hpre).1
  have hc:l.pre.holds [] { args:=args } = true:=(pre_splitW hpre).2
  obtain ⟨d,r,rfl,h1,h2⟩:=hasAllW_cons hsh
  obtain rfl:=hasAllW_nil h2
  obtain ⟨xs,rfl,h3⟩:=hasW_list h1
  obtain ⟨ns,rfl⟩:=items_int h3
  have hlen:ns.length ≤ n:=by
    unfold OpenLaw.pre at hc
    have h4:(WTm.not (.lt (.lit (.int (n:Int))) (.len (.arg 0)))).holds [] { args:=[.list (ns.map .int)] } = true:=by
      have h4:=(holds_andW hc).1
      rw [hn] at h4
      exact h4
    have h5:=condW_of h4 (w_not (w_lt w_lit (w_len_list (w_arg rfl))))
    rw [List.length_map] at h5
    refine Nat.le_of_not_lt fun q=>?_
    have q':(n:Int) < ((ns.length:Nat):Int):=by omega
    first
      | (rw [decide_eq_true q'] at h5; exact absurd h5 (by decide))
      | (simp at h5; omega)
  cases hwl with
  | cons w1 w2 =>
    cases w2
    cases w1 with
    | list ho hall=>exact ⟨_,_,ns,rfl,rfl,ho,ints_of_wellAll ns _ hall,hlen⟩
theorem post_true (l:OpenLaw) (args:List WData):l.row.toRowW.claim.post args (.bool true) args = true :=
  postW_of (r:=l.row.toRowW) (X:=(true == true))
    (show WShape.has [] (.bool true) .bool = true by first | rfl | decide | simp [WShape.has,WShape.arms,WShape.armsAll])
    (show (WTm.eq .res (.lit (.bool true))).value [] { args:=args,res:=some (.bool true),after:=args } = some (.bool (true == true)) from w_eq_bool (w_res rfl) w_lit) rfl
theorem attach_call {l:OpenLaw} {n:Nat} {q:Program} {loose:List Str} {XP:(Str→Option Value)→Heap→Prop} {YP:World→Heap→Prop} {d:DefRec}
    (hn:l.most = some n) (hdf:d.params.defaults = [])
    (call:∀ (w:World) (s₀ s₁:Shared) (mg mb:Str→Option Value) (fa:Addr) (o:Obj) (pm cd doc:Value) (a:Addr) (vs:List Value) (ns:List Int),
      Ground q loose [] XP w s₀ mg mb s₁.heap→YP w s₁.heap →
      s₁.heap.get? fa = some o→o.data = .func (docDef d.name d.params d.body d.scope pm cd doc)→s₁.heap.CodeRec cd d.name→mg d.name = some (.ref fa) →
      s₁.heap.get? a = some { cls:=.type "list",data:=.seq vs.toArray }→IntsAre vs ns→ns.length ≤ n→s₁.gens = #[] →
      codeAny (model l.prog w) callerA (.call (.ref fa) ⟨[.ref a],[]⟩) (fun r s'=>r = .ok (.ret (.bool true))∧OldK s₁.heap s'.heap∧s'.os = s₁.os∧AllBare s'.gens) s₁) :
    WalkO q loose XP YP l.row.toRowW d [] (fun f vs=>PySem.call f vs):=by
  intro w s₀ s₁ mg mb G Y fa o pm cd doc dV kV ho hd hcd hD hmg hg args vals as hpre hlay hrd hwl hlo
  obtain rfl:dV = .none:=Dflts.none hD hdf
  obtain rfl:kV = .none:=Dflts.noKw hD
  obtain ⟨a,vs,ns,rfl,rfl,hobj,hints,hlen⟩:=script_of hn hpre hwl
  refine enter_call (codeAny_mono (call w s₀ s₁ mg mb fa o pm cd doc a vs ns G Y ho (fd_plain hd) hcd hmg hobj hints hlen hg) fun r s' hq=>?_)
  obtain ⟨rfl,h2,h3,h4⟩:=hq
  exact ⟨.inl ⟨.bool true,.bool true,[],rfl,fun _=>rfl,.bool true,post_true l _,fun _=>⟨List.Pairwise.nil,fun _ hm=>(nomatch hm)⟩⟩,h2,h3,h4⟩
section
variable {prog:Program} {w:World} {A:Around} {E:Value→Shared→Prop} {s:Shared} {K:Frag}
end
end Att
namespace L2
open PySem PySem.Spec PyProof.Rows
theorem vals_ints:∀ {vs:List Value} {ns:List Int},IntsAre vs ns→Vals (ns.map V.int) vs
  | _,_,.nil=>.nil
  | _,_,.cons n t h=>.cons ⟨t,rfl⟩ (vals_ints h)
noncomputable def Only (H:Hp):Prop:=∀ b,H b = none ∨ ∃ o xs,H b = some (.frz o (.lst xs))
theorem law_call {P:Program} {w:World} {K:PySem.W.Frag} {mg mb:Str→Option Value} {CX:CXT} {k:Nat} {fa a:Addr} {fd:FuncData} {x:Str} {sp:Sp} {s₁:Shared} {vs:List Value} {ns:List Int}
    (KX:K.In s₁.heap) (hns:s₁.heap.Ns mainGlobals mg) (hb:s₁.heap.Ns builtinsNs mb) (hbb:∀ x:Str,x ≠ "__name__"→mb x = bootBuiltins x) (hlim:s₁.heap.NoLimit) (hg:s₁.gens = #[])
    (ha:s₁.heap.get? a = some { cls:=.type "list",data:=.seq vs.toArray }) (hi:IntsAre vs ns) (hl:ns.length ≤ sizeLine) (hr:Room k callerA)
    (F:∀ base:Heap,K.In base→base.Ns mainGlobals mg→FnOk P w K mg base CX k fa fd [x] sp) (hbind:∀ (s:Shared) (u:Value),BindsTo s fd ⟨[u],[]⟩ [(x,u)])
    (hsp:∀ H:Hp,Only H→SqL K H a (ns.map V.int)→sp [.ref a] H (fun v _=>v = .bl true) fun _ _ _=>False)
    (hCX:∀ H e s',CX [] H s₁ (fun _ _ _=>False) e s'→False) :
    codeAny (model P w) callerA (.call (.ref fa) ⟨[.ref a],[]⟩) (fun r s'=>r = .ok (.ret (.bool true))∧OldK s₁.heap s'.heap∧s'.os = s₁.os∧AllBare s'.gens) s₁:=by
  have rv:=vals_ints hi
  have lenV:=hi.length
  have core:∀ H:Hp,Only H→SqL K H a (ns.map V.int)→HOk P w H s₁.heap→(∀ b,H b ≠ none→b = a)→(H a ≠ none→K.lookup a = none) →
      codeAny (model P w) callerA (.call (.ref fa) ⟨[.ref a],[]⟩) (fun r s'=>r = .ok (.ret (.bool true))∧OldK s₁.heap s'.heap∧s'.os = s₁.os∧AllBare s'.gens) s₁:=by
    intro H hO hS hok hA hK
    have base_of:∀ {b:Addr} {o:Obj},s₁.heap.get? b = some o→H b = none→(hidT s₁.heap H).get? b = some o:=fun e n=>hidT_get e n
    have noA:∀ {b:Addr} {o:Obj} {es:Array DictEntry} {ep:Nat},s₁.heap.get? b = some o→o.data = .dict es ep→H b = none:=fun {b o es ep} e d=>by
      cases q:H b with
      | none=>rfl
      | some u =>
        have e':b = a:=hA b (by rw [q]; simp)
        subst e'
        rw [ha] at e; cases e
        have d':Data.seq vs.toArray _ = Data.dict es ep:=d
        cases d'
    have nsK:∀ {b:Addr} {m:Str→Option Value},s₁.heap.Ns b m→(hidT s₁.heap H).Ns b m:=fun {b m} ⟨o,es,ep,e,d,r⟩=>⟨o,es,ep,base_of e (noA e d),d,r⟩
    have hKb:K.In (hidT s₁.heap H):=fun b o e=>base_of (KX b o e) (by
      cases q:H b with
      | none=>rfl
      | some u =>
        have e':b = a:=hA b (by rw [q]; simp)
        subst e'
        rw [hK (by rw [q]; simp)] at e; cases e)
    have hM:Mod K mg (hidT s₁.heap H):=⟨hKb,nsK hns,⟨mb,nsK hb,hbb⟩,let ⟨mc,h1,h2⟩:=hlim; ⟨mc,nsK h1,h2⟩⟩
    have e0:Env0 P w K mg (hidT s₁.heap H) callerA [] s₁ H:=⟨rfl,hM,fun b o e=>of_hidT e,Nat.le_of_eq (hidT_size _ _),trivial,fun b hb=>absurd (show b ∈ ([]:List Addr) from hb) (by simp),hok,.of_eq hg⟩
    refine codeAny_mono ((F _ hKb (nsK hns)).run callerA [] s₁ H ⟨[.ref a],[]⟩ [.ref a] [.ref a] _ _ hr e0 (hbind s₁ (.ref a)) (.cons rfl .nil) (hsp H hO hS)) fun r s' h=>?_
    cases r with
    | error e=>exact (hCX H e s' h).elim
    | ok fl =>
      cases fl with
      | next=>exact False.elim h
      | brk=>exact False.elim h
      | cont=>exact False.elim h
      | ret u =>
        obtain ⟨v,H',os,bare,un,hok',r',q⟩:=h
        have q':v = .bl true:=q
        subst q'
        obtain rfl:u = Value.bool true:=r'
        refine ⟨rfl,OldK.of_keep fun b o e=>?_,os,bare⟩
        cases q:H b with
        | none=>exact un.keep b o e q (by intro z; exact absurd (show b ∈ ([]:List Addr) from z) (by simp)) (by simp)
        | some u =>
          rcases hO b with z | ⟨ob,xs,z⟩
          · rw [q] at z; cases z
          · have z2:=un.frzs b ob _ z
            obtain ⟨e1,_⟩:=hok b _ z
            obtain ⟨e2,_⟩:=hok' b _ z2
            rw [e] at e1; cases e1
            exact e2
  cases hk:K.lookup a with
  | some o =>
    have e:=KX a o hk
    rw [ha] at e
    cases e
    refine core (fun _=>none) (fun _=>.inl rfl) (.inr ⟨_,vs.toArray,_,hk,rfl,rfl,rfl,by rw [List.size_toArray,lenV]; exact hl,by simpa using rv⟩) (fun b u z=>by have z':(none:Option HO) = some u:=z; cases z') (fun b z=>absurd rfl z) fun z=>absurd rfl z
  | none =>
    refine core (fun b=>if b = a then some (.frz { cls:=.type "list",data:=.seq vs.toArray } (.lst (ns.map V.int))) else none) (fun b=>?_) (.inl (.inr ⟨{ cls:=.type "list",data:=.seq vs.toArray },if_pos rfl⟩)) (fun b u z=>?_) (fun b z=>?_) fun _=>hk
    · by_cases hb:b = a
      · exact .inr ⟨_,_,if_pos hb⟩
      · exact .inl (if_neg hb)
    · by_cases hb:b = a
      · have z':=(if_pos hb).symm.trans z
        cases z'
        subst hb
        exact ⟨ha,by rw [List.length_map]; exact hl,vs,_,rv,ha⟩
      · have z':=(if_neg hb).symm.trans z
        cases z'
    · by_cases hb:b = a
      · exact hb
      · exact absurd (if_neg hb) z
end L2
namespace L2
open PySem PySem.Spec PyProof.Rows
theorem walk_of {l:PySem.W.OpenLaw} {n k:Nat} {q:Program} {loose:List Str} {XP:(Str→Option Value)→Heap→Prop} {YP:World→Heap→Prop} {d:DefRec} {K:Params→PySem.W.Frag} {CX:World→CXT} {sp:World→Sp} {x:Str}
    (hn:l.most = some n) (hn2:n ≤ sizeLine) (hdf:d.params.defaults = []) (hr:Room k callerA)
    (hY:∀ (w:World) (h:Heap),YP w h→(K w.params).In h)
    (F:∀ (w:World) (mg:Str→Option Value) (fa:Addr) (h:Heap),(K w.params).In h→h.Ns mainGlobals mg→mg d.name = some (.ref fa) →
      ∃ fd:FuncData,(∀ (s:Shared) (u:Value),BindsTo s fd ⟨[u],[]⟩ [(x,u)]) ∧
        ∀ base:Heap,(K w.params).In base→base.Ns mainGlobals mg→FnOk l.prog w (K w.params) mg base (CX w) k fa fd [x] (sp w))
    (hsp:∀ (w:World) (H:Hp) (a:Addr) (ns:List Int),ns.length ≤ n→Only H→SqL (K w.params) H a (ns.map V.int)→sp w [.ref a] H (fun v _=>v = .bl true) fun _ _ _=>False)
    (hCX:∀ (w:World) (H:Hp) (s:Shared) (e:Value) (s':Shared),CX w [] H s (fun _ _ _=>False) e s'→False) :
    PySem.W.WalkO q loose XP YP l.row.toRowW d [] (fun f vs=>PySem.call f vs):=by
  refine Att.attach_call hn hdf fun w s₀ s₁ mg mb fa o pm cd doc a vs ns G Y ho hd hcd hmg hobj hints hlen hg=>?_
  have KX:=hY w _ Y
  obtain ⟨fd,hb,hF⟩:=F w mg fa _ KX G.T.g hmg
  exact law_call KX G.T.g G.T.b G.T.builtins G.T.nolimit hg hobj hints (Nat.le_trans hlen hn2) hr hF hb (fun H hO hS=>hsp w H a ns hlen hO hS) fun H e s'=>hCX w H s₁ e s'
end L2
namespace L2
open PySem PySem.Spec PyProof.Rows
noncomputable def defArgs (s:Stmt):Arguments:=match s with
  | .FunctionDef _ a _ _ _ _ _ _ _ _=>a
  | _=>{ posonlyargs:=[],args:=[],vararg:=none,kwonlyargs:=[],kw_defaults:=[],kwarg:=none,defaults:=[] }
noncomputable def defBody (s:Stmt):List Stmt:=match s with
  | .FunctionDef _ _ b _ _ _ _ _ _ _=>b
  | _=>[]
noncomputable def defScope (s:Stmt):Scope:=match s with
  | .FunctionDef _ _ _ _ _ _ sc _ _ _=>sc
  | _=>{ kind:=.function,names:=[],isGenerator:=false,isCoroutine:=false }
noncomputable abbrev CX0:CXT:=fun _ _ _ _ _ _=>False
noncomputable abbrev E0:XK:=fun _ _ _=>False
theorem pass0 {X:Cx}:Passes CX0 X E0:=fun _ _ _ _ _ _ _ h=>h.elim
structure Fun (K:PySem.W.Frag) (x qual:Str) (st:Stmt) (f:Addr) (fd:FuncData):Prop where
  ex:∃ (oc:Value) (od:Option Addr) (kV doc pm:Value) (an:Option Addr) (cdv ct:Value) (osl:Array (Option Value)),
    fd = PySem.W.fnOf x qual (defArgs st) (defBody st) (defScope st) .none kV doc pm an cdv ct∧K.lookup f = some ⟨oc,od,.func fd,osl⟩∧PySem.W.codeIn K cdv qual = true
  kp:PySem.W.keepIn K (.ref f) = true
section
variable {P:Program} {w:World} {K:PySem.W.Frag} {mg:Str→Option Value} {base:Heap}
theorem Fun.ok {x qual:Str} {st:Stmt} {f:Addr} {fd:FuncData} {N ps:List Str} {k:Nat} {sp:Sp} (F:Fun K x qual st f fd) (S:FnScope N ps (defScope st)) (len:∀ vs H Q E,sp vs H Q E→vs.length = ps.length)
    (hbody:∀ (cdv:Value) (A:Around) (outer:List Env) (s:Shared) (H:Hp) (vs:List V) (Q:VK) (E:XK),Room k (A.deeper (envOfC qual (defScope st) s.heap.objs.size f cdv))→sp vs H Q E →
      ∃ t,PSs (cxOf CX0 P w K mg base N qual (defScope st) f cdv A outer s H E).nox (defBody st) t∧t { nx:=fun _ H'=>Q .non H',rt:=Q } (start N vs) H):FnOk P w K mg base CX0 (k + 1) f fd ps sp:=by
  obtain ⟨oc,od,kV,doc,pm,an,cdv,ct,osl,rfl,lk,hcd⟩:=F.ex
  refine fn_of lk hcd S len fun A outer s H vs Q E hr hsp=>?_
  obtain ⟨t,h,q⟩:=hbody cdv A outer s H vs Q E hr hsp
  exact ⟨t,h.nox,q⟩
theorem fun_mk {x qual:Str} {st:Stmt} {f:Addr} {oc:Value} {od an:Option Addr} {osl:Array (Option Value)} {kV doc pm cdv ct:Value} (l:K.lookup f = some ⟨oc,od,.func (PySem.W.fnOf x qual (defArgs st) (defBody st) (defScope st) .none kV doc pm an cdv ct),osl⟩)
    (c:PySem.W.codeIn K cdv qual = true) (k:PySem.W.keepIn K (.ref f) = true):Fun K x qual st f (PySem.W.fnOf x qual (defArgs st) (defBody st) (defScope st) .none kV doc pm an cdv ct):=⟨⟨oc,od,kV,doc,pm,an,cdv,ct,osl,rfl,l,c⟩,k⟩
end
section
variable {X:Cx}
end
theorem iteF {A B:Prop} (h:B):if false = true then A else B:=by
  rw [if_neg Bool.false_ne_true]
  exact h
theorem iteT {A B:Prop} (h:A):if true = true then A else B:=by
  rw [if_pos rfl]
  exact h
noncomputable def Same (H H':Hp):Prop:=∀ b o,H b = some o→H' b = some o
theorem Same.refl (H:Hp):Same H H:=fun _ _ h=>h
theorem Same.trans {H H1 H2:Hp} (a:Same H H1) (b:Same H1 H2):Same H H2:=fun c o h=>b c o (a c o h)
theorem Same.free {H H':Hp} (e:Same H H') {l:Addr} (h:H' l = Option.none):H l = Option.none:=by
  cases q:H l with
  | none=>rfl
  | some o =>
    rw [e l o q] at h
    cases h
theorem Same.seq {K:PySem.W.Frag} {H H':Hp} {a:Addr} {xs:List V} (e:Same H H') (h:SqL K H a xs):SqL K H' a xs:=by
  rcases h with (h | ⟨o,h⟩) | h
  · exact .inl (.inl (e _ _ h))
  · exact .inl (.inr ⟨o,e _ _ h⟩)
  · exact .inr h
end L2
namespace L2
open PySem PySem.Spec PyProof.Rows
section
variable {prog:Program} {w:World} {A:Around} {R:Result→Shared→Prop} {s:Shared}
theorem compLoop_any {elt target iter:Expr} {ifs:List Expr} {scope:Scope} {pos:Pos} {it acc:Value} {env:Env} (I:Nat→Shared→Prop)
    (turn:∀ n s,I n s→wpAny (model prog w) A (pyNext it) (fun r s₁=>match r with
      | none=>R (.ok .next) s₁
      | some v=>wpAny (model prog w) A (letOwnedTupleGo target it v) (fun _ s₁'=>wpAny (model prog w) A (assign target env v) (fun _ s₂ =>
          wpAny (model prog w) A (forIn ifs true fun c r=>if r = true then do let ok ← isTrue c env (eval c env); pure (ForInStep.yield ok) else pure (ForInStep.yield r)) (fun ok s₃ =>
            if ok = true then wpAny (model prog w) A (eval elt env) (fun x s₄ =>
              wpAny (model prog w) A (call (.builtin "list.append") [acc,x]) (fun _ s₅=>∃ m,m < n∧I m s₅) (fun _ _=>False) s₄) (fun _ _=>False) s₃
            else ∃ m,m < n∧I m s₃) (fun _ _=>False) s₂) (fun _ _=>False) s₁') (fun _ _=>False) s₁) (fun _ _=>False) s)
    (n:Nat) (h:I n s) :
    codeAny (model prog w) A (.compLoop (.ListComp elt [⟨target,iter,ifs,0⟩] scope pos) 0 it acc env) R s:=by
  refine codeAny_loop rfl I (fun n s hI=>?_) n h
  show wpAny _ A ((compTurn (.ListComp elt [⟨target,iter,ifs,0⟩] scope pos) 0 it acc env).onRaise (fun x=>do noteFrame x env; theTreesLotGoes x)) _ _ s
  refine wpAny_noted ?_
  rw [compTurn_list]
  refine wpAny_bind (wpAny_standAt (wpAny_bind (wpAny_mono (turn n s hI) (fun r s₁ h₁=>?_) fun _ _ h'=>h'.elim)))
  cases r with
  | none=>exact wpAny_pure h₁
  | some v =>
    refine wpAny_bind (wpAny_mono h₁ (fun _ s₁' h₁'=>?_) fun _ _ h'=>h'.elim)
    refine wpAny_bind (wpAny_mono h₁' (fun _ s₂ h₂=>wpAny_bind (wpAny_mono h₂ (fun ok s₃ h₃=>?_) fun _ _ h'=>h'.elim)) fun _ _ h'=>h'.elim)
    cases ok with
    | false=>exact wpAny_pure ⟨rfl,h₃⟩
    | true =>
      exact wpAny_bind (wpAny_bind (wpAny_mono h₃ (fun x s₄ h₄=>wpAny_bind (wpAny_mono h₄ (fun _ s₅ h₅=>wpAny_pure (wpAny_pure ⟨rfl,h₅⟩)) fun _ _ h'=>h'.elim)) fun _ _ h'=>h'.elim))
end
noncomputable def clOf (cells:List (Str × Addr)):List (Str × NameKind)→List (Str × Addr)→List (Str × Addr)
  | [],acc=>acc
  | (n,k) :: r,acc=>if k == .free then (match cells.lookup n with | some c=>clOf cells r ((n,c) :: acc) | none=>clOf cells r acc) else clOf cells r acc
theorem closureFor_fold (env:Env):∀ (names:List (Str × NameKind)) (acc:List (Str × Addr)),(∀ x ∈ names,x.2 = .free→∃ c,env.cells.lookup x.1 = some c) →
    (forIn names acc (fun (x:Str × NameKind) (cs:List (Str × Addr))=>(match x with | (name,kind)=>if kind == .free then (do let c ← cellOf env name; pure (ForInStep.yield ((name,c) :: cs))) else pure (ForInStep.yield cs):Sem (ForInStep (List (Str × Addr)))))) = pure (clOf env.cells names acc)
  | [],acc,_=>rfl
  | (n,k) :: r,acc,h=>by
    have hr:∀ x ∈ r,x.2 = .free→∃ c,env.cells.lookup x.1 = some c:=fun x hx=>h x (List.mem_cons_of_mem _ hx)
    simp only [List.forIn_cons]
    by_cases hk:(k == NameKind.free) = true
    · obtain ⟨c,hc⟩:=h (n,k) List.mem_cons_self (by simpa using hk)
      have hc':env.cells.lookup n = some c:=hc
      simp only [hk,if_true,cellOf,hc',pure_bind,clOf]
      exact closureFor_fold env r _ hr
    · simp only [hk,Bool.false_eq_true,if_false,pure_bind,clOf]
      exact closureFor_fold env r _ hr
theorem closureFor_is {scope:Scope} {env:Env} (h:∀ x ∈ scope.names,x.2 = .free→∃ c,env.cells.lookup x.1 = some c):closureFor scope env = pure (clOf env.cells scope.names []):=by
  have e:=closureFor_fold env scope.names [] h
  unfold closureFor
  simp only [bind_pure]
  refine Eq.trans ?_ e
  congr 1
theorem clOf_mem (cells:List (Str × Addr)):∀ (names:List (Str × NameKind)) (acc:List (Str × Addr)),(∀ p ∈ acc,cells.lookup p.1 = some p.2)→∀ p ∈ clOf cells names acc,cells.lookup p.1 = some p.2
  | [],acc,h,p,hp=>h p hp
  | (n,k) :: r,acc,h,p,hp=>by
    unfold clOf at hp
    split at hp
    · split at hp
      · rename_i c hc
        refine clOf_mem cells r _ (fun q hq=>?_) p hp
        rcases List.mem_cons.mp hq with e | e
        · subst e; exact hc
        · exact h q e
      · exact clOf_mem cells r _ h p hp
    · exact clOf_mem cells r _ h p hp
theorem clOf_keeps (cells:List (Str × Addr)):∀ (names:List (Str × NameKind)) (acc:List (Str × Addr)) (p),p ∈ acc→p ∈ clOf cells names acc
  | [],acc,p,h=>h
  | (n,k) :: r,acc,p,h=>by
    unfold clOf
    split
    · split
      · exact clOf_keeps cells r _ p (List.mem_cons_of_mem _ h)
      · exact clOf_keeps cells r _ p h
    · exact clOf_keeps cells r _ p h
theorem clOf_has (cells:List (Str × Addr)):∀ (names:List (Str × NameKind)) (acc:List (Str × Addr)) (x:Str) (c:Addr),(x,NameKind.free) ∈ names→cells.lookup x = some c→(x,c) ∈ clOf cells names acc
  | [],acc,x,c,h,_=>by simp at h
  | (n,k) :: r,acc,x,c,h,e=>by
    unfold clOf
    rcases List.mem_cons.mp h with q | q
    · cases q
      simp only [beq_self_eq_true,if_true,e]
      exact clOf_keeps cells r _ _ List.mem_cons_self
    · split
      · split
        · exact clOf_has cells r _ x c q e
        · exact clOf_has cells r _ x c q e
      · exact clOf_has cells r _ x c q e
theorem lookup_of_mem {α:Type} {l:List (Str × α)} {x:Str} {c:α} (h:(x,c) ∈ l):∃ c',l.lookup x = some c':=by
  induction l with
  | nil=>simp at h
  | cons p r ih =>
    obtain ⟨y,d⟩:=p
    by_cases e:(x == y) = true
    · exact ⟨d,by simp [List.lookup_cons,e]⟩
    · have e':(x == y) = false:=by simpa using e
      rcases List.mem_cons.mp h with q | q
      · cases q; simp at e
      · obtain ⟨c',hc⟩:=ih q
        exact ⟨c',by simp [List.lookup_cons,e',hc]⟩
theorem clOf_lookup {cells:List (Str × Addr)} {names:List (Str × NameKind)} {x:Str} {c:Addr} (h:(clOf cells names []).lookup x = some c):cells.lookup x = some c :=
  clOf_mem cells names [] (fun _ h=>by simp at h) (x,c) (PySem.mem_of_lookup h)
theorem clOf_some {cells:List (Str × Addr)} {names:List (Str × NameKind)} {x:Str} {c:Addr} (h:(x,NameKind.free) ∈ names) (e:cells.lookup x = some c):(clOf cells names []).lookup x = some c:=by
  obtain ⟨c',hc⟩:=lookup_of_mem (clOf_has cells names [] x c h e)
  rw [hc,← clOf_lookup hc,e]
theorem ObjOk.upd_none {P:Program} {w:World} {H:Hp} {h:Heap} {a b:Addr} {o u:HO} (n:H b = none) (x:ObjOk P w H h a o):ObjOk P w (upd H b u) h a o :=
  x.stay (fun _ _ _ q=>q) (fun c q=>by rw [upd_ne (ne_of_none q n)]; exact q) fun c xs q=>by rw [upd_ne (ne_of_none q n)]; exact q
theorem Inv.adopt {X:Cx} {pins:List (Addr × Obj)} {σ:St} {H:Hp} {s:Shared} {d:Addr} {o:HO} (I:Inv X pins σ H s) (n:H d = none) (h1:X.s₀.heap.objs.size ≤ d) (h2:d ≠ X.env.locals)
    (h3:∀ x c,X.env.cells.lookup x = some c→c ≠ d) (h4:∀ p ∈ X.pn ++ pins,p.1 ≠ d) (new:ObjOk X.prog X.w (upd H d o) s.heap d o):Inv X pins σ (upd H d o) s:=by
  have hH:HOk X.prog X.w (upd H d o) s.heap:=fun b u e=>by
    by_cases hb:b = d
    · subst hb
      rw [upd_same] at e
      cases e
      exact new
    · rw [upd_ne hb] at e
      exact (I.hok b u e).upd_none n
  have q:=I.step (h':=s.heap) (H':=upd H d o) (g':=s.gens) (d':=s.drawn) (t':=s.toks) (ch:=[d]) (fun b hb=>by
      have e:b = d:=by simpa using hb
      subst e
      exact ⟨.inr h1,h2,h3,h4⟩) (fun b o _ _ _ e _=>e) (fun b o _ _ _ e _=>⟨o.slots,e⟩) (fun b u hb e z=>by
      have hb':b ≠ d:=fun e=>hb (by simp [e])
      rw [upd_ne hb']; exact z) (fun b o _ e=>⟨o,e⟩)
    (fun b xs e=>by rw [upd_ne (ne_of_none e n)]; exact e) (fun b u xs e=>by rw [upd_ne (ne_of_none e n)]; exact e) (fun b ps e=>⟨#[],by rw [upd_ne (ne_of_none e n),e]; simp⟩) (fun m hm=>hm) hH I.bare
  exact q
end L2
namespace L2
open PySem PySem.Spec PyProof.Rows
theorem relabel_lookup (scope:Scope) (env:Env) (x:Str):(relabel scope env).names.lookup x = (scope.names.lookup x).map fun k=>if (k == .free && env.scope.kind == .function && env.kindOf x == some .cell) = true then .cell else k:=by
  show (scope.names.map fun (n,k)=>if (k == NameKind.free && env.scope.kind == .function && env.kindOf n == some .cell) then (n,NameKind.cell) else (n,k)).lookup x = _
  generalize scope.names = l
  induction l with
  | nil=>rfl
  | cons p r ih =>
    obtain ⟨n,k⟩:=p
    show List.lookup x ((if (k == NameKind.free && env.scope.kind == .function && env.kindOf n == some .cell) = true then (n,NameKind.cell) else (n,k)) :: _) = _
    cases hx:x == n with
    | true =>
      have e:x = n:=by simpa using hx
      subst e
      simp only [List.lookup_cons,beq_self_eq_true,Option.map_some]
      split<;>simp
    | false =>
      simp only [List.lookup_cons,hx]
      split<;>(simp only [List.lookup_cons,hx]; exact ih)
noncomputable def compCx (X:Cx) (N':List Str) (scope:Scope) (s₃:Shared) (H₃:Hp) (ex:List Addr) (pins:List (Addr × Obj)):Cx :=
  { X with N:=N',s₀:=s₃,H₀:=H₃,env:=compEnvC scope (clOf X.env.cells scope.names []) s₃.heap.objs.size X.env,outer:=X.stack,ex:=ex,fn:=fun _=>false,pn:=X.pn ++ pins,xe:=fun _ _=>False }
noncomputable def inSt (k:Nat) (keep:List Nat) (σ:St):St:=List.replicate k none ++ keep.map fun i=>(σ[i]?).join
structure CompOk (X:Cx) (N':List Str) (k:Nat) (keep:List Nat) (scope:Scope):Prop where
  kind:scope.kind = .function
  cell:∀ y ∈ scope.names,y.2 ≠ .cell
  names:∀ y ∈ scope.names,y.2 = .local→scope.names.lookup y.1 = some .local
  free:∀ y ∈ scope.names,y.2 = .free→X.env.scope.names.lookup y.1 = some .cell ∨ X.env.scope.names.lookup y.1 = some .free
  len:N'.length = k + keep.length
  kept:∀ j i,keep[j]? = some i→∃ x,N'[k + j]? = some x∧X.N[i]? = some x∧scope.names.lookup x = some .free
theorem mem_of_lk {l:List (Str × NameKind)} {x:Str} {k:NameKind} (h:l.lookup x = some k):(x,k) ∈ l:=PySem.mem_of_lookup h
section
variable {X:Cx} {N':List Str} {k:Nat} {keep:List Nat} {scope:Scope} {pins:List (Addr × Obj)} {σ:St} {H H₃:Hp} {s s₃:Shared} {ex:List Addr}
theorem CompOk.clo (c:CompOk X N' k keep scope) (ok:X.Ok):∀ y ∈ scope.names,y.2 = .free→∃ c,X.env.cells.lookup y.1 = some c:=fun y hy hf=>ok.has y.1 (c.free y hy hf)
theorem CompOk.inner (c:CompOk X N' k keep scope) {x:Str} (h:(relabel scope X.env).names.lookup x = some .cell ∨ (relabel scope X.env).names.lookup x = some .free):scope.names.lookup x = some .free:=by
  rw [relabel_lookup] at h
  cases e:scope.names.lookup x with
  | none=>rw [e] at h; simp at h
  | some q =>
    rw [e] at h
    have hc:=c.cell _ (mem_of_lk e)
    simp only [Option.map_some,Option.some.injEq] at h
    by_cases hq:(q == NameKind.free && X.env.scope.kind == .function && X.env.kindOf x == some .cell) = true
    · have:q = .free:=by
        simp only [Bool.and_eq_true] at hq
        simpa using hq.1.1
      rw [this]
    · rw [if_neg hq] at h
      rcases h with h | h
      · exact absurd h hc
      · rw [h]
theorem Inv.enter (c:CompOk X N' k keep scope) (I:Inv X pins σ H s₃) {h':Heap} {t':Nat} {m:Str→Option Value} (hns:h'.Ns s₃.heap.objs.size m) (hk:∀ b o,s₃.heap.get? b = some o→h'.get? b = some o)
    (hex:∀ b ∈ ex,b < s₃.heap.objs.size∧b ≠ X.env.locals∧b ∉ X.fs∧(b ∈ X.ex ∨ X.s₀.heap.objs.size ≤ b)∧∀ x c,X.env.cells.lookup x = some c→c ≠ b) :
    Inv (compCx X N' scope s₃ H ex pins) [] (inSt k keep σ) H { s₃ with heap:=h',toks:=t' }:=by
  have hcl:∀ x c',(clOf X.env.cells scope.names []).lookup x = some c'→X.env.cells.lookup x = some c':=fun x c' h=>clOf_lookup h
  have nstk:∀ b ∈ ex,b ∉ frs X.stack:=fun b hb z=>by
    obtain ⟨h0,h1,h2,_⟩:=hex b hb
    rcases List.mem_cons.mp (I.stkSub b z) with e | e
    · exact h1 e
    · exact h2 e
  have cltb:∀ x c',X.env.cells.lookup x = some c'→c' < s₃.heap.objs.size:=fun x c' e=>by
    obtain ⟨v,q⟩:=I.cell x c' e
    exact q.lt
  refine ⟨⟨I.ok.mod,c.kind,I.ok.glob,I.ok.blt,Nat.le_refl _,?inj,?has,?cab,I.ok.hd,I.ok.frames,.inl rfl,?exf,I.bs,Nat.le_trans I.ok.bsz I.sz,?noex,nstk,I.stack,I.stkFree⟩,rfl,I.bare,Un.kept hk,?loc,?cell,?free,?freeC,?pin,I.hok.kept hk,?len⟩
  case inj=>exact fun x y a h1 h2=>I.ok.inj x y a (hcl x a h1) (hcl y a h2)
  case has =>
    intro x hx
    have e:scope.names.lookup x = some .free:=c.inner hx
    obtain ⟨a,ha⟩:=c.clo I.ok (x,.free) (mem_of_lk e) rfl
    exact ⟨a,clOf_some (mem_of_lk e) ha⟩
  case cab=>exact fun x a hf=>absurd hf (by show ¬ (false = true); simp)
  case exf=>exact fun b hb=>⟨Nat.ne_of_lt (hex b hb).1,fun x a e=>(hex b hb).2.2.2.2 x a (hcl x a e)⟩
  case noex =>
    intro b o e hb
    rcases (hex b hb).2.2.2.1 with z | z
    · exact I.ok.noex b o e z
    · exact absurd (Nat.lt_of_lt_of_le (Heap.lt_size e) (Nat.le_trans I.ok.bsz z)) (Nat.lt_irrefl _)
  case loc =>
    refine ⟨m,hns,fun i x v e1 e2 e3=>?_⟩
    have e1:N'[i]? = some x:=e1
    unfold inSt at e2
    by_cases hi:i < k
    · rw [List.getElem?_append_left (by simpa using hi),List.getElem?_replicate,if_pos hi] at e2
      cases e2
    · rw [List.getElem?_append_right (by simpa using hi),List.length_replicate,List.getElem?_map] at e2
      cases ej:keep[i - k]? with
      | none=>rw [ej] at e2; cases e2
      | some j =>
        rw [ej] at e2
        have e2':(σ[j]?).join = some v:=Option.some.inj e2
        have e2':σ[j]? = some (some v):=by
          cases q:σ[j]? with
          | none=>rw [q] at e2'; cases e2'
          | some y=>rw [q] at e2'; exact congrArg some e2'
        obtain ⟨x',p1,p2,p3⟩:=c.kept _ _ ej
        have ex':k + (i - k) = i:=by omega
        rw [ex',e1] at p1
        cases p1
        have fr:=c.free _ (mem_of_lk p3) rfl
        obtain ⟨m0,hn0,hl0⟩:=I.loc
        obtain ⟨u,ru,lk⟩:=hl0 j x v p2 e2' (.inr fr)
        refine ⟨u,ru,?_⟩
        rcases lk with ⟨l1,_⟩ | ⟨_,a,ha,hcell⟩
        · exfalso
          have l1:X.env.scope.names.lookup x = some .local:=l1
          rcases fr with z | z
          · rw [z] at l1; cases l1
          · rw [z] at l1; cases l1
        · refine .inr ⟨e3.elim (fun z=>?_) id,a,clOf_some (mem_of_lk p3) ha,?_⟩
          · exfalso
            have z:(relabel scope X.env).names.lookup x = some .local:=z
            rw [relabel_lookup,p3] at z
            simp only [Option.map_some,Option.some.injEq] at z
            split at z<;>cases z
          · obtain ⟨o,ho,hd⟩:=hcell
            exact ⟨o,hk _ _ ho,hd⟩
  case cell =>
    intro x a h
    obtain ⟨v,o,ho,hd⟩:=I.cell x a (hcl x a h)
    exact ⟨v,o,hk _ _ ho,hd⟩
  case free=>exact I.hok.fresh (Nat.le_refl _)
  case freeC=>exact fun x a h=>I.freeC x a (hcl x a h)
  case pin =>
    intro p hp
    have hp:p ∈ X.pn ++ pins:=by simpa [compCx] using hp
    obtain ⟨e,n,ne,nf,d⟩:=I.pin p hp
    refine ⟨hk _ _ e,n,Nat.ne_of_lt (Heap.lt_size e),fun z=>?_,d⟩
    rcases List.mem_cons.mp (I.stkSub p.1 z) with q | q
    · exact ne q
    · exact nf q
  case len =>
    show (inSt k keep σ).length = N'.length
    rw [c.len]
    unfold inSt
    simp
theorem Inv.leave (I:Inv X pins σ H₃ s₃) {σ':St} {pins':List (Addr × Obj)} (J:Inv (compCx X N' scope s₃ H₃ ex pins) pins' σ' H s)
    (hex:∀ b ∈ ex,b < s₃.heap.objs.size∧b ≠ X.env.locals∧b ∉ X.fs∧(b ∈ X.ex ∨ X.s₀.heap.objs.size ≤ b)∧∀ x c,X.env.cells.lookup x = some c→c ≠ b) (hpin:∀ b ∈ ex,∀ p ∈ X.pn ++ pins,p.1 ≠ b) :
    Inv X pins σ H s:=by
  have u:Un (frs X.stack) ex H₃ H s₃.heap s.heap:=J.base
  have ho:s.os = s₃.os:=J.os
  exact I.call' ho u J.hok J.bare fun b hb=>⟨(hex b hb).2.2.2.1,(hex b hb).2.1,(hex b hb).2.2.2.2,hpin b hb⟩
end
noncomputable def PTs (X:Cx) (ifs:List Expr) (t:TT):Prop :=
  ∀ (pins:List (Addr × Obj)) (s:Shared) (σ:St) (H:Hp) (Q:Bool→Hp→Prop),Inv X pins σ H s→t σ H Q →
    wpAny (model X.prog X.w) X.A (forIn ifs true fun c r=>if r = true then do let ok ← isTrue c X.env (eval c X.env); pure (ForInStep.yield ok) else pure (ForInStep.yield r)) (TP X pins σ Q) X.xe s
theorem pts_nil {X:Cx}:PTs X [] (fun _ H Q=>Q true H):=fun pins s σ H Q I h=>wpAny_tests_nil ⟨H,I,h⟩
theorem pts_one {X:Cx} {c:Expr} {t:TT} (h:PT X c t):PTs X [c] t:=fun pins s σ H Q I q=>wpAny_tests_one (h pins s σ H Q I q)
noncomputable def CompW (J:It) (g:TG) (tc:TT) (te:TE) (Q:List V→Hp→Prop) (σ':St) (H1:Hp):Prop :=
  ∃ W:Nat→Nat→List V→St→Hp→Prop,(∃ m,W 0 m [] σ' H1)∧∀ i m xs σ H,W i m xs σ H→xs.length ≤ sizeLine ∧
    ((J.stop i H∧Q xs H) ∨ (J.go i H∧∀ x H',J.yld i H x H'→g x σ H' fun σ2 H2=>tc σ2 H2 fun b H3 =>
      if b = true then te σ2 H3 fun y H4=>∃ m',m' < m∧W (i + 1) m' (xs ++ [y]) σ2 H4 else ∃ m',m' < m∧W (i + 1) m' xs σ2 H3))
noncomputable def Own (X:Cx) (pins:List (Addr × Obj)) (H:Hp) (b:Addr):Prop :=
  H b = none∧X.s₀.heap.objs.size ≤ b∧b ≠ X.env.locals∧(∀ x c,X.env.cells.lookup x = some c→c ≠ b)∧∀ p ∈ X.pn ++ pins,p.1 ≠ b
theorem Inv.own {X:Cx} {pins:List (Addr × Obj)} {σ:St} {H H':Hp} {s:Shared} {b:Addr} (I:Inv X pins σ H s) (hb:s.heap.objs.size ≤ b) (hn:H' b = none):Own X pins H' b:=by
  obtain ⟨f0,f1,f2,f3,f4,f5⟩:=I.fpOk hb hn
  exact ⟨f0,Nat.le_trans I.sz hb,f1,f4,f5⟩
section
variable {X:Cx} {N':List Str} {k:Nat} {keep:List Nat} {scope:Scope} {pins:List (Addr × Obj)} {σ:St} {H:Hp} {s:Shared}
theorem comp_block {elt tg iter:Expr} {ifs:List Expr} {pos:Pos} {J:It} {fp:List Addr} {it:Addr} {tn:Nat→Heap→Prop} {g:TG} {tc:TT} {te:TE} {Q:List V→Hp→Prop} {RR:Value→Addr→Result→Shared→Prop} {E:Value→Shared→Prop}
    (c:CompOk X N' k keep scope) (calm:X.calm = true) (I:Inv X pins σ H s) (T:Turn X.prog X.w X.K tg J fp it tn) (st:tn 0 s.heap) (hf:∀ b ∈ fp,FpOk X pins H b)
    (hg:∀ s₃ ex,PG (compCx X N' scope s₃ H ex pins) tg g) (hc:∀ s₃ ex,PTs (compCx X N' scope s₃ H ex pins) ifs tc) (he:∀ s₃ ex,PE (compCx X N' scope s₃ H ex pins) elt te)
    (hW:CompW J g tc te Q (inSt k keep σ) H)
    (hRR:∀ D C s' H' xs m,Inv X pins σ H' s'→Own X pins H' D→Own X pins H' C→D ≠ C→ObjOk X.prog X.w (upd H' D (.lst xs)) s'.heap D (.lst xs)→s'.heap.Ns C m→Q xs H'→RR (.ref D) C (.ok .next) s') :
    wpAny (model X.prog X.w) X.A (newList []) (fun acc s₃=>wpAny (model X.prog X.w) X.A (newFunctionEnv scope X.env.globals (clOf X.env.cells scope.names []) [] X.env.qual none .none (some X.env)) (fun cenv s₄ =>
      codeAny (model X.prog X.w) X.A (.compStart (.ListComp elt [⟨tg,iter,ifs,0⟩] scope pos) 0 (.ref it) acc { cenv with scope:=relabel scope X.env }) (RR acc cenv.locals) s₄) E s₃) E s:=by
  refine wpAny_newObj_type (wpAny_newFunctionEnv c.cell (by intro y hy; simp at hy) (fun h₁ hns₁ hsb₁=>?_) c.kind)
  dsimp only at hns₁ hsb₁ ⊢
  generalize hH2:s.heap.push { cls:=.type "list",dict:=none,data:=.seq ([]:List Value).toArray } = H2 at hns₁ hsb₁ ⊢
  have I3:Inv X pins σ H { s with heap:=H2 }:=I.kept (t':=s.toks) fun b o e=>hH2 ▸ Heap.get?_push_of_some _ e
  have hC:H2.objs.size = s.heap.objs.size + 1:=by rw [← hH2,Heap.size_push]
  have hlt:s.heap.objs.size < H2.objs.size:=by rw [hC]; exact Nat.lt_succ_self _
  have hne:s.heap.objs.size ≠ H2.objs.size:=Nat.ne_of_lt hlt
  have fpo:∀ b ∈ fp,∃ o,s.heap.get? b = some o∧∀ v,o.data ≠ .cell v:=T.obj _ _ st
  have fplt:∀ b ∈ fp,b < s.heap.objs.size:=fun b hb=>by
    obtain ⟨o,e,_⟩:=fpo b hb
    exact Heap.lt_size e
  have nD:H s.heap.objs.size = none:=I.hok.fresh (Nat.le_refl _)
  have nC:H H2.objs.size = none:=I.hok.fresh (by omega)
  have oD:Own X pins H s.heap.objs.size:=I.own (Nat.le_refl _) nD
  have oC:Own X pins H H2.objs.size:=I.own (by omega) nC
  have hkp:∀ b o,H2.get? b = some o→h₁.get? b = some o:=fun b o e=>hsb₁.extBut b o (Nat.ne_of_lt (Heap.lt_size e)) (Heap.get?_push_of_some _ e)
  have hex:∀ b ∈ s.heap.objs.size :: fp,b < ({ s with heap:=H2 }:Shared).heap.objs.size∧b ≠ X.env.locals∧b ∉ X.fs∧(b ∈ X.ex ∨ X.s₀.heap.objs.size ≤ b)∧∀ x c,X.env.cells.lookup x = some c→c ≠ b:=fun b hb=>by
    rcases List.mem_cons.mp hb with e | e
    · subst e
      exact ⟨hlt,oD.2.2.1,I.nofs (Nat.le_refl _),.inr oD.2.1,oD.2.2.2.1⟩
    · obtain ⟨f0,f1,f2,f3,f4,f5⟩:=hf b e
      exact ⟨Nat.lt_trans (fplt b e) hlt,f1,f2,f3,f4⟩
  have hpin:∀ b ∈ s.heap.objs.size :: fp,∀ p ∈ X.pn ++ pins,p.1 ≠ b:=fun b hb p hp=>by
    rcases List.mem_cons.mp hb with e | e
    · subst e; exact oD.2.2.2.2 p hp
    · exact (hf b e).2.2.2.2.2 p hp
  have Dstk:s.heap.objs.size ∉ frs X.stack:=fun z=>by
    rcases List.mem_cons.mp (I.stkSub _ z) with q | q
    · exact oD.2.2.1 q
    · exact I.nofs (Nat.le_refl _) q
  generalize hY:compCx X N' scope { s with heap:=H2 } H (s.heap.objs.size :: fp) pins = Y
  have ePrg:Y.prog = X.prog:=by subst hY; rfl
  have eW:Y.w = X.w:=by subst hY; rfl
  have eK:Y.K = X.K:=by subst hY; rfl
  have eA:Y.A = X.A:=by subst hY; rfl
  have eCalm:Y.calm = true:=by subst hY; exact calm
  have eEnv:Y.env = compEnvC scope (clOf X.env.cells scope.names []) H2.objs.size X.env:=by subst hY; rfl
  have eXe:Y.xe = fun _ _=>False:=by subst hY; rfl
  have J0:Inv Y [] (inSt k keep σ) H { s with heap:=h₁,toks:=s.toks + ([]:List (Str × Value)).length }:=by
    subst hY
    exact I3.enter (t':=s.toks + ([]:List (Str × Value)).length) c hns₁ hkp hex
  have fpY:∀ {H':Hp} {q:List (Addr × Obj)},(∀ b ∈ fp,H' b = none)→(∀ p ∈ q,p.1 = s.heap.objs.size)→∀ b ∈ fp,FpOk Y q H' b:=fun {H' q} hn hq b hb=>by
    obtain ⟨f0,f1,f2,f3,f4,f5⟩:=hf b hb
    have lt:=fplt b hb
    subst hY
    refine ⟨hn b hb,Nat.ne_of_lt (Nat.lt_trans lt hlt),fun z=>?_,.inl (List.mem_cons_of_mem _ hb),fun x a e=>f4 x a (clOf_lookup e),fun p hp=>?_⟩
    · rcases List.mem_cons.mp (I.stkSub b z) with q | q
      · exact f1 q
      · exact f2 q
    · rcases List.mem_append.mp (show p ∈ (X.pn ++ pins) ++ q from hp) with z | z
      · exact f5 p z
      · rw [hq p z]; exact Nat.ne_of_gt lt
  obtain ⟨W,⟨m0,w0⟩,turn⟩:=hW
  let Iv:Nat→Shared→Prop:=fun n s'=>∃ i xs σ' H' its nn,Inv Y [] σ' H' s'∧tn i s'.heap∧(∀ b ∈ fp,H' b = none)∧H' s.heap.objs.size = none∧Vals xs its∧s'.heap.get? s.heap.objs.size = some { cls:=.type "list",data:=.seq its.toArray nn }∧W i n xs σ' H'
  have hdD:∀ {h':Heap},(∀ b o,s.heap.get? b = some o→h'.get? b = some o)→True:=fun _=>trivial
  have start:Iv m0 { s with heap:=h₁,toks:=s.toks + ([]:List (Str × Value)).length }:=by
    refine ⟨0,[],_,H,[],0,J0,T.keep _ _ _ st fun b hb o e=>hkp b o (hH2 ▸ Heap.get?_push_of_some _ e),fun b hb=>(hf b hb).1,nD,.nil,?_,w0⟩
    exact hkp _ _ (hH2 ▸ Heap.get?_push_size _ rfl)
  have loop:∀ s₃:Shared,s₃ = { s with heap:=h₁,toks:=s.toks + ([]:List (Str × Value)).length } →
      codeAny (model X.prog X.w) X.A (.compLoop (.ListComp elt [⟨tg,iter,ifs,0⟩] scope pos) 0 (.ref it) (.ref s.heap.objs.size) (compEnvC scope (clOf X.env.cells scope.names []) H2.objs.size X.env))
        (RR (.ref s.heap.objs.size) H2.objs.size) s₃:=by
    rintro s₃ rfl
    refine compLoop_any Iv (fun n s' hI=>?_) m0 start
    obtain ⟨i,xs,σ',H',its,nn,J',tn',fr',dn',rv,hl,w'⟩:=hI
    obtain ⟨hsz,alt⟩:=turn i n xs σ' H' w'
    rcases alt with ⟨stop,q⟩ | ⟨go,step⟩
    · have z:=T.done Y ePrg eW eK eCalm i [] s' σ' H' (fun _ _=>False) J' (fpY fr' (fun _ h=>by simp at h)) tn' stop
      rw [eA] at z
      have J'':Inv Y [(s.heap.objs.size,{ cls:=.type "list",data:=.seq its.toArray nn })] σ' H' s':=J'.pins_of fun p hp=>by
        have e:p = (s.heap.objs.size,{ cls:=.type "list",data:=.seq its.toArray nn }):=by simpa using hp
        subst e
        refine ⟨hl,dn',?_,?_,fun v h=>nomatch h⟩
        · rw [eEnv]; exact hne
        · subst hY; exact Dstk
      have z:=T.done Y ePrg eW eK eCalm i _ s' σ' H' (fun _ _=>False) J'' (fpY fr' (fun p hp=>by have e:p = _:=(List.mem_singleton.mp hp); rw [e])) tn' stop
      rw [eA] at z
      refine wpAny_mono z (fun r s4 ⟨hr,J4⟩=>?_) fun _ _ f=>f
      subst hr
      have hl4:=(J4.pin _ (List.mem_append_right _ (List.mem_singleton.mpr rfl))).1
      have J5:Inv (compCx X N' scope { s with heap:=H2 } H (s.heap.objs.size :: fp) pins) [(s.heap.objs.size,{ cls:=.type "list",data:=.seq its.toArray nn })] σ' H' s4:=by rw [hY]; exact J4
      have I4:Inv X pins σ H' s4:=I3.leave J5 hex hpin
      obtain ⟨mC,hnC,_⟩:=J4.loc
      have cfree:=J4.free
      rw [eEnv] at hnC cfree
      refine hRR _ _ s4 H' xs mC I4 ⟨dn',oD.2⟩ ⟨cfree,oC.2⟩ hne ⟨hsz,its,nn,rv,hl4⟩ hnC q
    · have J'':Inv Y [(s.heap.objs.size,{ cls:=.type "list",data:=.seq its.toArray nn })] σ' H' s':=J'.pins_of fun p hp=>by
        have e:p = (s.heap.objs.size,{ cls:=.type "list",data:=.seq its.toArray nn }):=by simpa using hp
        subst e
        refine ⟨hl,dn',?_,?_,fun v h=>nomatch h⟩
        · rw [eEnv]; exact hne
        · subst hY; exact Dstk
      have z:=T.item Y ePrg eW eK eCalm i _ s' σ' H' (fun _ _=>False) J'' (fpY fr' (fun p hp=>by have e:p = _:=(List.mem_singleton.mp hp); rw [e])) tn' go
      rw [eA] at z
      refine wpAny_mono z (fun r s4 ⟨u,hr,h4⟩=>?_) fun _ _ f=>f
      subst hr
      refine wpAny_mono h4 (fun _ s5 ⟨x,H5,J5,r5,y5,tn5,fr5⟩=>?_) fun _ _ f=>f
      have J5':=J5.pinned (fpY fr5 (fun p hp=>by have e:p = _:=(List.mem_singleton.mp hp); rw [e])) (T.obj _ _ tn5)
      have hg':PG Y tg g:=hY ▸ hg _ _
      have hc':PTs Y ifs tc:=hY ▸ hc _ _
      have he':PE Y elt te:=hY ▸ he _ _
      have g6:=hg' _ s5 σ' H5 x u _ J5' r5 (step x H5 y5)
      rw [eXe,eA,ePrg,eW,eEnv] at g6
      refine wpAny_mono g6 (fun _ s6 ⟨σ6,H6,J6,q6⟩=>?_) fun _ _ f=>f
      have c7:=hc' _ s6 σ6 H6 _ J6 q6
      rw [eXe,eA,ePrg,eW,eEnv] at c7
      refine wpAny_mono c7 (fun ok s7 ⟨H7,J7,q7⟩=>?_) fun _ _ f=>f
      have fin:∀ {s8:Shared} {σ8:St} {H8:Hp} {xs':List V} {its':List Value} {n' m':Nat},Inv Y [] σ8 H8 s8→tn (i + 1) s8.heap→(∀ b ∈ fp,H8 b = none)→H8 s.heap.objs.size = none→Vals xs' its' →
          s8.heap.get? s.heap.objs.size = some { cls:=.type "list",data:=.seq its'.toArray n' }→W (i + 1) m' xs' σ8 H8→m' < n→∃ m,m < n∧Iv m s8:=fun a1 a2 a3 a4 a5 a6 a7 a8=>⟨_,a8,_,_,_,_,_,_,a1,a2,a3,a4,a5,a6,a7⟩
      have kp:∀ {s8:Shared} {σ8:St} {H8:Hp},Inv Y ([(s.heap.objs.size,{ cls:=.type "list",data:=.seq its.toArray nn })] ++ pinsAt fp s5.heap) σ8 H8 s8 →
          tn (i + 1) s8.heap∧(∀ b ∈ fp,H8 b = none)∧H8 s.heap.objs.size = none∧s8.heap.get? s.heap.objs.size = some { cls:=.type "list",data:=.seq its.toArray nn }:=fun {s8 σ8 H8} J8=>by
        have p1:=J8.pin _ (List.mem_append_right _ (List.mem_append_left _ (List.mem_singleton.mpr rfl)))
        refine ⟨T.keep _ _ _ tn5 fun b hb o e=>(J8.pin (b,o) (List.mem_append_right _ (List.mem_append_right _ (mem_pinsAt hb e)))).1,fun b hb=>?_,p1.2.1,p1.1⟩
        obtain ⟨o,e,d⟩:=T.obj _ _ tn5 b hb
        exact (J8.pin (b,o) (List.mem_append_right _ (List.mem_append_right _ (mem_pinsAt hb e)))).2.1
      cases ok with
      | false =>
        simp only [Bool.false_eq_true,if_false] at q7 ⊢
        obtain ⟨m',hm,w7⟩:=q7
        obtain ⟨k1,k2,k3,k4⟩:=kp J7
        exact fin (J7.pins_of fun p hp=>by simp at hp) k1 k2 k3 rv k4 w7 hm
      | true =>
        simp only [if_true] at q7 ⊢
        have e8:=he' _ s7 σ6 H7 _ J7 q7
        rw [eXe,eA,ePrg,eW,eEnv] at e8
        refine wpAny_mono e8 (fun y s8 ⟨v8,H8,J8,r8,m',hm,w8⟩=>?_) fun _ _ f=>f
        obtain ⟨k1,k2,k3,k4⟩:=kp J8
        have hl8:s8.heap.PlainList s.heap.objs.size its.toArray:=⟨nn,k4⟩
        refine wpAny_list_append_plain (hsz:=by have:=rv.length; simp only [List.size_toArray]; omega) hl8 fun h9 hl9 hs9=>?_
        obtain ⟨n9,e9⟩:=hl9
        have J9:Inv Y [] σ6 H8 { s8 with heap:=h9 }:=by
          have J8':Inv Y [] σ6 H8 s8:=J8.pins_of fun p hp=>by simp at hp
          refine J8'.turned (t':=s8.toks) (it:=s.heap.objs.size) (fun b o hb e=>hs9.extBut b o hb e) k3 ?_ ?_ ?_ ?_
          · rw [eEnv]; exact hne
          · subst hY; exact .inl List.mem_cons_self
          · subst hY; exact fun x a e=>oD.2.2.2.1 x a (clOf_lookup e)
          · subst hY
            intro p hp
            exact oD.2.2.2.2 p (by simpa [compCx] using hp)
        refine fin (n':=n9) (its':=its ++ [y]) J9 (T.keep _ _ _ k1 fun b hb o e=>hs9.extBut b o (Nat.ne_of_lt (fplt b hb)) e) k2 k3 (rv.append (.cons r8 .nil)) ?_ w8 hm
        show h9.get? _ = _
        rw [e9,List.push_toArray]
  exact codeAny_compStart_list (loop _ rfl) (T.self _ 0 _ _ _ (T.keep _ _ _ st fun b hb o e=>hkp b o (hH2 ▸ Heap.get?_push_of_some _ e)) (loop _ rfl))
end
end L2
namespace L2
open PySem PySem.Spec PyProof.Rows
noncomputable def tComp (k:Nat) (keep:List Nat) (wi:TI) (g:TG) (tc:TT) (te:TE):TE:=fun σ H Q=>wi σ H fun J H1 =>
  CompW J g tc te (fun xs H'=>∀ p,H' p = none→Q (.ref p) (upd H' p (.lst xs))) (inSt k keep σ) H1
section
variable {X:Cx} {N':List Str} {k:Nat} {keep:List Nat} {scope:Scope} {elt tg iter:Expr} {ifs:List Expr} {pos:Pos} {wi:TI} {g:TG} {tc:TT} {te:TE}
theorem pe_comp (c:CompOk X N' k keep scope) (calm:X.calm = true) (hi:PI X tg iter wi)
    (hg:∀ s₃ H ex pins,PG (compCx X N' scope s₃ H ex pins) tg g) (hc:∀ s₃ H ex pins,PTs (compCx X N' scope s₃ H ex pins) ifs tc) (he:∀ s₃ H ex pins,PE (compCx X N' scope s₃ H ex pins) elt te)
    (hs:∀ x,foldedSetIterable iter X.env x = pure x):PE X (.ListComp elt [⟨tg,iter,ifs,0⟩] scope pos) (tComp k keep wi g tc te):=by
  intro pins s σ H Q I h
  rw [eval_ListComp]
  refine wpAny_comprehension_free (use:=none) rfl hs (closureFor_is (c.clo I.ok)) c.kind c.names ?_
  refine thn (hi pins s σ H _ I h) fun v s1 h1=>thn h1 fun itv s2 h2=>?_
  obtain ⟨it,fp,tn,J,H2,e,I2,T,st2,f2,hW⟩:=h2
  subst e
  refine comp_block c calm I2 T st2 f2 (fun s₃ ex=>hg s₃ H2 ex pins) (fun s₃ ex=>hc s₃ H2 ex pins) (fun s₃ ex=>he s₃ H2 ex pins) hW (RR:=fun acc C=>compPost (model X.prog X.w) X.A X.xe none (EP X pins σ Q) acc C) ?_
  intro D C s' H' xs m I' oD oC hDC new hn q
  refine ⟨m,hn,fun h' hs'=>?_⟩
  have I3:Inv X pins σ (upd H' D (.lst xs)) s':=I'.adopt oD.1 oD.2.1 oD.2.2.1 oD.2.2.2.1 oD.2.2.2.2 new
  have I4:Inv X pins σ (upd H' D (.lst xs)) { s' with heap:=h' }:=I3.turned (t':=s'.toks) (it:=C) (fun b o hb e=>hs'.extBut b o hb e) (by rw [upd_ne hDC.symm]; exact oC.1) oC.2.2.1 (.inr oC.2.1) oC.2.2.2.1 oC.2.2.2.2
  exact ⟨.ref D,_,I4,rfl,q D oD.1⟩
theorem ps_comp {i:Nat} {y:Str} {py spos:Pos} (hN:X.N.Nodup) (hiy:X.N[i]? = some y) (hy:Loc X.env.scope y) (hf:X.fn y = true ∨ X.env.scope.names.lookup y = some .local)
    (hsw:swapsWith (.ListComp elt [⟨tg,iter,ifs,0⟩] scope pos) (some (.Name y py)) spos.line X.env = pure true)
    (c:CompOk X N' k keep scope) (calm:X.calm = true) (hi:PI X tg iter wi)
    (hg:∀ s₃ H ex pins,PG (compCx X N' scope s₃ H ex pins) tg g) (hc:∀ s₃ H ex pins,PTs (compCx X N' scope s₃ H ex pins) ifs tc) (he:∀ s₃ H ex pins,PE (compCx X N' scope s₃ H ex pins) elt te)
    (hs:∀ x,foldedSetIterable iter X.env x = pure x):PS X (.Assign [.Name y py] (.ListComp elt [⟨tg,iter,ifs,0⟩] scope pos) spos) (tAsg (tComp k keep wi g tc te) (gName i)):=by
  intro pins s σ H D0 I h
  rw [exec_Assign_Name_used _ _ _ _ hsw]
  refine wpAny_bind (wpAny_standAt (wpAny_bind ?_))
  show wpAny _ X.A (do let _ ← comprehension (.ListComp elt [⟨tg,iter,ifs,0⟩] scope pos) scope X.env _ (newList []) false (eval iter X.env) (some (assign (.Name y py) X.env))) _ _ s
  refine wpAny_bind (wpAny_mono (wpAny_comprehension_free (use:=some (assign (.Name y py) X.env)) (Q:=fun _ s'=>SP X pins D0 .next s') rfl hs (closureFor_is (c.clo I.ok)) c.kind c.names ?_) (fun _ s' hq=>wpAny_pure (wpAny_pure hq)) fun _ _ e=>e)
  refine thn (hi pins s σ H _ I h) fun v s1 h1=>thn h1 fun itv s2 h2=>?_
  obtain ⟨it,fp,tn,J,H2,e,I2,T,st2,f2,hW⟩:=h2
  subst e
  refine comp_block c calm I2 T st2 f2 (fun s₃ ex=>hg s₃ H2 ex pins) (fun s₃ ex=>hc s₃ H2 ex pins) (fun s₃ ex=>he s₃ H2 ex pins) hW (RR:=fun acc C=>compPost (model X.prog X.w) X.A X.xe (some (assign (.Name y py) X.env)) (fun _ s'=>SP X pins D0 .next s') acc C) ?_
  intro D C s' H' xs m I' oD oC hDC new hn q
  have I3:Inv X pins σ (upd H' D (.lst xs)) s':=I'.adopt oD.1 oD.2.1 oD.2.2.1 oD.2.2.2.1 oD.2.2.2.2 new
  show wpAny _ X.A (assign (.Name y py) X.env (.ref D)) _ _ _
  refine wpAny_assign_Name (store_ok2 I3 hN hiy hy (v:=.ref D) rfl (fun s'' I5 hsb=>?_) hf)
  obtain ⟨a,sb,ha⟩:=hsb
  have hCa:C ≠ a:=by
    rcases ha with e | e
    · rw [e]; exact oC.2.2.1
    · exact fun z=>oC.2.2.2.1 y a e z.symm
  refine ⟨m,hn.sameBut sb hCa,fun h' hs'=>?_⟩
  have I4:Inv X pins (σ.set i (some (.ref D))) (upd H' D (.lst xs)) { s'' with heap:=h' }:=I5.turned (t':=s''.toks) (it:=C) (fun b o hb e=>hs'.extBut b o hb e) (by rw [upd_ne hDC.symm]; exact oC.1) oC.2.2.1 (.inr oC.2.1) oC.2.2.2.1 oC.2.2.2.2
  exact ⟨_,_,I4,q D oD.1⟩
end
end L2
namespace LR
open PySem PySem.Spec PyProof.Rows PySem.F
section
variable {prog:Program} {w:World} {A:Around} {E:Value→Shared→Prop} {s:Shared}
noncomputable def IsRev (h:Heap) (a l:Addr) (i:Int):Prop:=∃ o,h.get? a = some o∧o.cls = .type "reversed"∧o.data = .fields #[.ref l,rawInt i]
theorem IsRev.typeIs {a l:Addr} {i:Int} (x:IsRev s.heap a l i):s.TypeIs (.ref a) "reversed":=let ⟨o,ho,hc,_⟩:=x; ⟨o,ho,hc⟩
theorem IsRev.at {h h':Heap} {a l:Addr} {i:Int} (x:IsRev h a l i) (e:∀ o,h.get? a = some o→h'.get? a = some o):IsRev h' a l i:=let ⟨o,ho,r⟩:=x; ⟨o,e _ ho,r⟩
end
end LR
namespace L2
open PySem PySem.Spec PyProof.Rows
end L2
namespace HT
open PySem PySem.Spec PyProof.Rows
section
variable {prog:Program} {w:World} {A:Around} {E:Value→Shared→Prop} {s:Shared}
theorem getItem_tuple_whole {t sl:Addr} {items:Array Value} {vl vu:Value} {lo hi:Option Int} {Q:Value→Shared→Prop} (ht:IsTup s.heap t items) (hs:s.heap.IsSliceOf sl vl vu .none) (pl:IsPart vl lo) (pu:IsPart vu hi)
    (hw:sIx items.size 0 lo = 0∧sIx items.size items.size hi = items.size) (h:Q (.ref t) s):wpAny (model prog w) A (getItem (.ref t) (.ref sl)) Q E s:=by
  obtain ⟨os,hos,hcs,hds⟩:=id hs
  have hTs:s.TypeIs (.ref sl) "slice":=⟨os,hos,hcs⟩
  unfold getItem
  try with_reducible refine wpAny_holding ?_
  first | refine wpAny_bind (wpAny_pure ?_) | skip
  refine wpAny_bind (wpAny_sequenceKey ht.typeIs (by decide) ?_)
  refine wpAny_bind (wpAny_callSpecial?_slot (name:=Str.ofString "__getitem__") ht.typeIs PyProof.Rows.slot_tuple_getitem
    (wpAny_call_entry PyProof.Rows.slot_tuple_getitem ht.typeIs entry_tuple_getitem ?_ (args_tuple_getitem _ _)))
  show wpAny _ _ (Builtin.Tuple.tupleItemsOf (.ref t) >>= _) _ _ s
  refine wpAny_bind (tupleItemsOf_ ht ?_)
  refine wpAny_bind (wpAny_typeOf hTs ?_)
  rw [if_pos (by decide)]
  refine wpAny_bind (sliceApplied_gen hs pl pu ?_)
  show wpAny _ _ (if (((sIx items.size 0 lo:Nat):Int) == 0 && (1:Int) == 1 && (sIx items.size items.size hi - sIx items.size 0 lo) == items.size) = true then _ else _) _ _ s
  rw [if_pos (by rw [hw.1,hw.2]; simp)]
  refine wpAny_bind (m:=Builtin.Tuple.tupleIsExact (.ref t)) ?_
  unfold Builtin.Tuple.tupleIsExact
  refine wpAny_bind (wpAny_typeOf ht.typeIs ?_)
  refine wpAny_pure ?_
  rw [if_pos (by decide)]
  exact wpAny_bind (wpAny_rule (wpAny_pure ⟨_,rfl,wpAny_pure h⟩))
end
end HT
namespace L2
open PySem PySem.Spec PyProof.Rows
variable {X:Cx}
noncomputable def rSlTW (K:PySem.W.Frag):V→Option Int→Option Int→Hp→VK→Prop:=fun x lo hi H Q=>∃ a xs,x = .ref a∧SqT K H a xs ∧
  (HT.sIx xs.length 0 lo = 0∧HT.sIx xs.length xs.length hi = xs.length)∧Q (.ref a) H
theorem sl_tupW:SlR X (rSlTW X.K):=by
  intro pins s σ H x v vl vu lo hi sl Q I rx hs pl pu h
  obtain ⟨a,xs,rfl,hx,hw,q⟩:=h
  cases rx
  obtain ⟨its,r,ht,hz⟩:=I.tuple hx
  have hlen:its.toArray.size = xs.length:=by rw [List.size_toArray]; exact r.length.symm
  exact ⟨"tuple",_,PyProof.Rows.slot_tuple_getitem.lookup,ht.typeIs,HT.getItem_tuple_whole ht hs pl pu (by rw [hlen]; exact hw) ⟨.ref a,H,I,rfl,q⟩⟩
end L2
namespace L2
open PySem PySem.Spec PyProof.Rows
section
variable {κ:Type} [DecidableEq κ]
noncomputable def valV (kvs:List (κ × V)) (k:κ):Option V:=(kvs.find? fun kv=>decide (kv.1 = k)).map (·.2)
noncomputable def putK (kvs:List (κ × V)) (k:κ) (v:V):List (κ × V) :=
  if (kvs.any fun kv=>decide (kv.1 = k)) = true then kvs.map (fun kv=>if kv.1 = k then (kv.1,v) else kv) else kvs ++ [(k,v)]
noncomputable def dropK (kvs:List (κ × V)) (k:κ):List (κ × V):=kvs.filter fun kv=>decide (kv.1 ≠ k)
theorem valV_pos {p:κ × V} {r:List (κ × V)} {k:κ} (e:p.1 = k):valV (p :: r) k = some p.2:=by simp [valV,List.find?_cons,e]
theorem valV_neg {p:κ × V} {r:List (κ × V)} {k:κ} (e:¬ p.1 = k):valV (p :: r) k = valV r k:=by simp [valV,List.find?_cons,e]
theorem valV_any (k:κ):∀ kvs:List (κ × V),(kvs.any fun kv=>decide (kv.1 = k)) = (valV kvs k).isSome
  | []=>rfl
  | p :: r=>by
    rw [List.any_cons]
    by_cases e:p.1 = k
    · simp only [valV_pos e,decide_eq_true e,Bool.true_or,Option.isSome_some]
    · rw [valV_neg e,decide_eq_false e,Bool.false_or]; exact valV_any k r
theorem length_putK (kvs:List (κ × V)) (k:κ) (v:V):(putK kvs k v).length ≤ kvs.length + 1:=by
  unfold putK
  split
  · rw [List.length_map]; omega
  · rw [List.length_append,List.length_cons,List.length_nil]; omega
theorem RelO.isSome_eq {o:Option V} {u:Option Value} (r:RelO o u):o.isSome = u.isSome:=by
  cases o with
  | none=>cases u with
    | none=>rfl
    | some _=>exact (show False from r).elim
  | some _=>cases u with
    | none=>exact (show False from r).elim
    | some _=>rfl
theorem RelO.getD {o:Option V} {u:Option Value} {d:V} {d':Value} (r:RelO o u) (rd:RelV d d'):RelV (o.getD d) (u.getD d'):=by
  cases o with
  | none=>cases u with
    | none=>exact rd
    | some _=>exact (show False from r).elim
  | some _=>cases u with
    | none=>exact (show False from r).elim
    | some _=>exact r
theorem KV.val {kvs:List (κ × V)} {vs:List (κ × Value)} (r:KV kvs vs) (k:κ):RelO (valV kvs k) (valueAt vs k):=by
  unfold KV at r
  induction r with
  | nil=>exact True.intro
  | @cons p q ps qs h t ih =>
    obtain ⟨h1,h2⟩:=h
    by_cases e:p.1 = k
    · have e':q.1 = k:=h1.symm.trans e
      have b:valueAt (q :: qs) k = some q.2:=by simp [valueAt,List.find?_cons,e']
      rw [valV_pos e,b]; exact h2
    · have e':¬ q.1 = k:=fun z=>e (h1.trans z)
      have b:valueAt (q :: qs) k = valueAt qs k:=by simp [valueAt,List.find?_cons,e']
      rw [valV_neg e,b]; exact ih
theorem KV.any {kvs:List (κ × V)} {vs:List (κ × Value)} (r:KV kvs vs) (k:κ):(kvs.any fun kv=>decide (kv.1 = k)) = vs.any fun kv=>decide (kv.1 = k):=by
  unfold KV at r
  induction r with
  | nil=>rfl
  | cons h t ih=>rw [List.any_cons,List.any_cons,ih,h.1]
theorem KV.repl {kvs:List (κ × V)} {vs:List (κ × Value)} (r:KV kvs vs) (k:κ) {y:V} {u:Value} (ry:RelV y u) :
    KV (kvs.map fun kv=>if kv.1 = k then (kv.1,y) else kv) (vs.map fun kv=>if kv.1 = k then (kv.1,u) else kv):=by
  unfold KV at r ⊢
  induction r with
  | nil=>exact .nil
  | @cons p q ps qs h t ih =>
    rw [List.map_cons,List.map_cons]
    refine .cons ?_ ih
    obtain ⟨h1,h2⟩:=h
    by_cases e:p.1 = k
    · rw [if_pos e,if_pos (h1.symm.trans e)]; exact ⟨h1,ry⟩
    · rw [if_neg e,if_neg (fun z=>e (h1.trans z))]; exact ⟨h1,h2⟩
theorem KV.put {kvs:List (κ × V)} {vs:List (κ × Value)} (r:KV kvs vs) (k:κ) {y:V} {u:Value} (ry:RelV y u):KV (putK kvs k y) (stored vs k u):=by
  unfold putK stored
  rw [r.any k]
  by_cases e:(vs.any fun kv=>decide (kv.1 = k)) = true
  · rw [if_pos e,if_pos e]; exact r.repl k ry
  · rw [if_neg e,if_neg e]; exact Paired.snoc r ⟨rfl,ry⟩
theorem KV.drop {kvs:List (κ × V)} {vs:List (κ × Value)} (r:KV kvs vs) (k:κ):KV (dropK kvs k) (without vs k):=by
  unfold KV at r ⊢
  unfold dropK without
  induction r with
  | nil=>exact .nil
  | @cons p q ps qs h t ih =>
    obtain ⟨h1,h2⟩:=h
    rw [List.filter_cons,List.filter_cons]
    by_cases e:p.1 = k
    · have a:¬ decide (p.1 ≠ k) = true:=by simp [e]
      have b:¬ decide (q.1 ≠ k) = true:=by simp [h1.symm.trans e]
      rw [if_neg a,if_neg b]; exact ih
    · have e':¬ q.1 = k:=fun z=>e (h1.trans z)
      have a:decide (p.1 ≠ k) = true:=by simp [e]
      have b:decide (q.1 ≠ k) = true:=by simp [e']
      rw [if_pos a,if_pos b]; exact .cons ⟨h1,h2⟩ ih
theorem KV.keys {kvs:List (κ × V)} {vs:List (κ × Value)} (r:KV kvs vs):kvs.map (·.1) = vs.map (·.1):=by
  unfold KV at r
  induction r with
  | nil=>rfl
  | cons h t ih=>rw [List.map_cons,List.map_cons,ih,h.1]
theorem KV.length {kvs:List (κ × V)} {vs:List (κ × Value)} (r:KV kvs vs):kvs.length = vs.length:=Paired.length r
end
theorem kV_is {P:Program} {w:World} {k:Key} {u:Value} (r:RelV (kV k) u):(mixKind P w).is k u = true:=by
  cases k with
  | inl i=>obtain ⟨t,e⟩:=(show ∃ t,u = Value.int i t from r); subst e; exact mixKind_int P w i t
  | inr x=>obtain ⟨t,e⟩:=(show ∃ t,u = Value.str x t from r); subst e; exact mixKind_str P w x t
theorem items_are {P:Program} {w:World}:∀ {ks:List Key} {us:List Value},Vals (ks.map kV) us→ItemsAre (mixKind P w) ks us
  | [],_,r=>by rw [List.map_nil] at r; cases r; exact .nil
  | k :: ks,_,r=>by
    rw [List.map_cons] at r
    cases r with
    | cons h t=>exact .cons (kV_is h) (items_are t)
noncomputable abbrev KT (H:Hp):List (List Key × V)→List (List Key × Addr × Value)→Prop:=Paired fun p q=>p.1 = q.1∧H q.2.1 = some (.tup (p.1.map kV))∧RelV p.2 q.2.2
theorem KT.val {H:Hp} {kvs:List (List Key × V)} {xs:List (List Key × Addr × Value)} (r:KT H kvs xs) (k:List Key):RelO (valV kvs k) ((atKey xs k).map (·.2)):=by
  induction r with
  | nil=>exact True.intro
  | @cons p q ps qs h t ih =>
    obtain ⟨h1,_,h2⟩:=h
    by_cases e:p.1 = k
    · have e':q.1 = k:=h1.symm.trans e
      have b:atKey (q :: qs) k = some q.2:=by simp [atKey,List.find?_cons,e']
      rw [valV_pos e,b]; exact h2
    · have e':¬ q.1 = k:=fun z=>e (h1.trans z)
      have b:atKey (q :: qs) k = atKey qs k:=by simp [atKey,List.find?_cons,e']
      rw [valV_neg e,b]; exact ih
theorem KT.repl {H:Hp} {kvs:List (List Key × V)} {xs:List (List Key × Addr × Value)} (r:KT H kvs xs) (k:List Key) {y:V} {u:Value} (ry:RelV y u) :
    KT H (kvs.map fun kv=>if kv.1 = k then (kv.1,y) else kv) (xs.map (putAt k u)):=by
  induction r with
  | nil=>exact .nil
  | @cons p q ps qs h t ih =>
    rw [List.map_cons,List.map_cons]
    refine .cons ?_ ih
    obtain ⟨h1,h2,h3⟩:=h
    unfold putAt
    by_cases e:p.1 = k
    · rw [if_pos e,if_pos (h1.symm.trans e)]; exact ⟨h1,h2,ry⟩
    · rw [if_neg e,if_neg (fun z=>e (h1.trans z))]; exact ⟨h1,h2,h3⟩
theorem KT.put {H:Hp} {kvs:List (List Key × V)} {xs:List (List Key × Addr × Value)} (r:KT H kvs xs) (k:List Key) {b:Addr} {y:V} {u:Value} (hb:H b = some (.tup (k.map kV))) (ry:RelV y u) :
    KT H (putK kvs k y) (storedH xs k b u):=by
  have e:(kvs.any fun kv=>decide (kv.1 = k)) = (atKey xs k).isSome:=by
    rw [valV_any,(r.val k).isSome_eq,Option.isSome_map]
  unfold putK storedH
  rw [e]
  by_cases q:(atKey xs k).isSome = true
  · rw [if_pos q,if_pos q]; exact r.repl k ry
  · rw [if_neg q,if_neg q]; exact Paired.snoc r ⟨rfl,hb,ry⟩
theorem KT.keeps {H H':Hp} {kvs:List (List Key × V)} {xs:List (List Key × Addr × Value)} (r:KT H kvs xs) (ht:∀ b ys,H b = some (.tup ys)→H' b = some (.tup ys)):KT H' kvs xs :=
  Paired.mapP r fun _ _ z=>⟨z.1,ht _ _ z.2.1,z.2.2⟩
section
variable {P:Program} {w:World} {H:Hp} {h:Heap} {a:Addr}
theorem rd_of {u:HO} (ok:HOk P w H h) (e:Rd H a u):ObjOk P w H h a u:=e.ok ok
theorem dk_rd {kvs:List (Key × V)} (ok:HOk P w H h) (e:Rd H a (.dK kvs)):kvs.length ≤ sizeLine∧(a == sysModules) = false∧∃ vs,KV kvs vs∧h.DictOf (mixKind P w) a vs :=
  show ObjOk P w H h a (.dK kvs) from rd_of ok e
theorem dk_of {kvs:List (Key × V)} (ok:HOk P w H h) (e:H a = some (.dK kvs)):kvs.length ≤ sizeLine∧(a == sysModules) = false∧∃ vs,KV kvs vs∧h.DictOf (mixKind P w) a vs:=dk_rd ok (.inl e)
theorem key_of {ks:List Key} (ok:HOk P w H h) (e:H a = some (.tup (ks.map kV))):(tupleKind (mixKind P w)).is h ks a:=by
  obtain ⟨_,its,r,o,h1,h2,n,h3⟩:=(show ObjOk P w H h a (.tup (ks.map kV)) from ok a _ e)
  exact ⟨o,its.toArray,n,h1,h2,h3,by simpa using items_are r⟩
theorem dt_rd {kvs:List (List Key × V)} (ok:HOk P w H h) (e:Rd H a (.dT kvs)):kvs.length ≤ sizeLine∧(a == sysModules) = false ∧
    ∃ xs,KT H kvs xs∧h.DictOfH (tupleKind (mixKind P w)) a xs:=by
  obtain ⟨z,y,xs,r,o,es,ep,h1,h2,h3,h4,h5⟩:=(show ObjOk P w H h a (.dT kvs) from rd_of ok e)
  refine ⟨z,y,xs,r,o,es,ep,h1,h2,h3,h4,fun x hx=>?_,h5⟩
  have all:∀ {l:List (List Key × V)} {m:List (List Key × Addr × Value)},KT H l m→∀ x ∈ m,(tupleKind (mixKind P w)).is h x.1 x.2.1:=by
    intro l m q
    induction q with
    | nil=>intro x hx; exact nomatch hx
    | @cons p q ps qs hq t ih =>
      intro x hx
      rcases List.mem_cons.mp hx with e | hx
      · subst e
        exact key_of ok (by rw [← hq.1]; exact hq.2.1)
      · exact ih x hx
  exact all r x hx
theorem dt_of {kvs:List (List Key × V)} (ok:HOk P w H h) (e:H a = some (.dT kvs)):kvs.length ≤ sizeLine∧(a == sysModules) = false ∧
    ∃ xs,KT H kvs xs∧h.DictOfH (tupleKind (mixKind P w)) a xs:=dt_rd ok (.inl e)
end
noncomputable def DGet (H:Hp) (a:Addr) (y:V) (r:Option V):Prop :=
  (∃ kvs k,Rd H a (.dK kvs)∧y = kV k∧r = valV kvs k) ∨ ∃ kvs k b,Rd H a (.dT kvs)∧y = .ref b∧H b = some (.tup (k.map kV))∧r = valV kvs k
noncomputable def DPut (H:Hp) (a:Addr) (y v:V) (H':Hp):Prop :=
  (∃ kvs k,H a = some (.dK kvs)∧y = kV k∧kvs.length < sizeLine∧H' = upd H a (.dK (putK kvs k v))) ∨
  ∃ kvs k b,H a = some (.dT kvs)∧y = .ref b∧H b = some (.tup (k.map kV))∧kvs.length < sizeLine∧H' = upd H a (.dT (putK kvs k v))
theorem DGet.k {H:Hp} {a:Addr} {kvs:List (Key × V)} {k:Key} (e:H a = some (.dK kvs)):DGet H a (kV k) (valV kvs k):=.inl ⟨kvs,k,.inl e,rfl,rfl⟩
theorem DGet.t {H:Hp} {a b:Addr} {kvs:List (List Key × V)} {k:List Key} (e:H a = some (.dT kvs)) (eb:H b = some (.tup (k.map kV))):DGet H a (.ref b) (valV kvs k):=.inr ⟨kvs,k,b,.inl e,rfl,eb,rfl⟩
theorem DPut.k {H:Hp} {a:Addr} {kvs:List (Key × V)} {k:Key} {v:V} (e:H a = some (.dK kvs)) (hl:kvs.length < sizeLine):DPut H a (kV k) v (upd H a (.dK (putK kvs k v))):=.inl ⟨kvs,k,e,rfl,hl,rfl⟩
theorem DPut.t {H:Hp} {a b:Addr} {kvs:List (List Key × V)} {k:List Key} {v:V} (e:H a = some (.dT kvs)) (eb:H b = some (.tup (k.map kV))) (hl:kvs.length < sizeLine) :
    DPut H a (.ref b) v (upd H a (.dT (putK kvs k v))):=.inr ⟨kvs,k,b,e,rfl,eb,hl,rfl⟩
section
variable {X:Cx} {pins:List (Addr × Obj)} {σ:St} {H:Hp} {s:Shared} {a:Addr} {y v:V} {u r:Value} {o:Option V} {A:Around} {E:Value→Shared→Prop}
theorem Inv.big (I:Inv X pins σ H s):sysModules < s.heap.objs.size:=by
  have h:mainGlobals < s.heap.objs.size:=(I.mod.glob.keeps I.bk).lt
  exact Nat.lt_trans (by decide) h
theorem d_getItem {Q:Value→Shared→Prop} (hu:A.units + 1 < cLine) (I:Inv X pins σ H s) (g:DGet H a y (some v)) (ry:RelV y u) (h:∀ w' s',Inv X pins σ H s'→RelV v w'→Q w' s') :
    wpAny (model X.prog X.w) A (getItem (.ref a) u) Q E s:=by
  rcases g with ⟨kvs,k,e,ey,l⟩ | ⟨kvs,k,b,e,ey,eb,l⟩
  · subst ey
    obtain ⟨z,hd,vs,rel,dd⟩:=dk_rd I.hok e
    obtain ⟨w',hw,rw'⟩:=RelO.some_of (v:=v) (o:=valueAt vs k) (by rw [l]; exact rel.val k)
    exact wpAny_getItem_of (kV_is ry) dd.mapOf hw (h w' _ (I.tok _) rw')
  · subst ey
    cases (show u = Value.ref b from ry)
    obtain ⟨z,hd,xs,rel,dd⟩:=dt_rd I.hok e
    obtain ⟨w',hw,rw'⟩:=RelO.some_of (v:=v) (o:=(atKey xs k).map (·.2)) (by rw [l]; exact rel.val k)
    obtain ⟨p,hp,hp2⟩:=Option.map_eq_some_iff.mp hw
    refine wpAny_getItem_heap (tupleKind_room_in1 hu) (key_of I.hok eb) dd hp ?_
    rw [hp2]
    exact h w' _ (I.tok _) rw'
theorem d_in {Q:Value→Shared→Prop} (hu:A.units + 1 < cLine) (I:Inv X pins σ H s) (g:DGet H a y o) (ry:RelV y u) (h:∀ s',Inv X pins σ H s'→Q (.bool o.isSome) s') :
    wpAny (model X.prog X.w) A (compareOp .In u (.ref a)) Q E s:=by
  rcases g with ⟨kvs,k,e,ey,l⟩ | ⟨kvs,k,b,e,ey,eb,l⟩
  · subst ey
    obtain ⟨z,hd,vs,rel,dd⟩:=dk_rd I.hok e
    refine wpAny_in_of (kV_is ry) hd dd.mapOf ?_
    rw [← (rel.val k).isSome_eq,← l]
    exact h _ (I.tok _)
  · subst ey
    cases (show u = Value.ref b from ry)
    obtain ⟨z,hd,xs,rel,dd⟩:=dt_rd I.hok e
    refine wpAny_in_heap (tupleKind_room_in1 hu) (key_of I.hok eb) hd dd ?_
    have q:=(rel.val k).isSome_eq
    rw [Option.isSome_map] at q
    rw [← q,← l]
    exact h _ (I.tok _)
theorem d_notIn {Q:Value→Shared→Prop} (hu:A.units + 1 < cLine) (I:Inv X pins σ H s) (g:DGet H a y o) (ry:RelV y u) (h:∀ s',Inv X pins σ H s'→Q (.bool (!o.isSome)) s') :
    wpAny (model X.prog X.w) A (compareOp .NotIn u (.ref a)) Q E s:=by
  rcases g with ⟨kvs,k,e,ey,l⟩ | ⟨kvs,k,b,e,ey,eb,l⟩
  · subst ey
    obtain ⟨z,hd,vs,rel,dd⟩:=dk_rd I.hok e
    refine wpAny_notIn_of (kV_is ry) hd dd.mapOf ?_
    rw [← (rel.val k).isSome_eq,← l]
    exact h _ (I.tok _)
  · subst ey
    cases (show u = Value.ref b from ry)
    obtain ⟨z,hd,xs,rel,dd⟩:=dt_rd I.hok e
    refine wpAny_notIn_heap (tupleKind_room_in1 hu) (key_of I.hok eb) hd dd ?_
    have q:=(rel.val k).isSome_eq
    rw [Option.isSome_map] at q
    rw [← q,← l]
    exact h _ (I.tok _)
theorem d_write {h':Heap} {t':Nat} {ob:HO} (I:Inv X pins σ H s) (mu:Mut (H a)) (hs:Heap.SameBut a s.heap h') (he:∃ q,h'.get? a = some q) (new:ObjOk X.prog X.w (upd H a ob) h' a ob) :
    Inv X pins σ (upd H a ob) { s with heap:=h',toks:=t' } :=
  I.write (x:=a) (e:=a) mu (.inl rfl) (fun b q hb z=>(hs.2 b hb).trans z) he new
theorem dk_new {P:Program} {w:World} {H':Hp} {h':Heap} {kvs:List (Key × V)} {vs:List (Key × Value)} (z:kvs.length ≤ sizeLine) (hd:(a == sysModules) = false) (rel:KV kvs vs) (dd:h'.DictOf (mixKind P w) a vs) :
    ObjOk P w H' h' a (.dK kvs):=⟨z,hd,vs,rel,dd⟩
theorem d_setItem {H':Hp} {Q:Unit→Shared→Prop} (hu:A.units + 1 < cLine) (I:Inv X pins σ H s) (g:DPut H a y v H') (ry:RelV y u) (rv:RelV v r) (h:∀ s',Inv X pins σ H' s'→Q () s') :
    wpAny (model X.prog X.w) A (setItem (.ref a) u r) Q E s:=by
  rcases g with ⟨kvs,k,e,ey,l,eH⟩ | ⟨kvs,k,b,e,ey,eb,l,eH⟩
  · subst ey eH
    obtain ⟨z,hd,vs,rel,dd⟩:=dk_of I.hok e
    have hz:vs.length ≤ sizeLine:=by rw [← rel.length]; exact z
    have hl:(putK kvs k v).length ≤ sizeLine:=by have:=length_putK kvs k v; omega
    refine wpAny_setItem_pairs (hsz:=hz) (kV_is ry) dd fun h' dd' hs=>h _ ?_
    have he:∃ q,h'.get? a = some q:=let ⟨q,_,_,hq,_⟩:=dd'; ⟨q,hq⟩
    exact d_write I (by rw [e]; exact True.intro) hs he (dk_new hl hd (rel.put k rv) dd')
  · subst ey eH
    cases (show u = Value.ref b from ry)
    obtain ⟨z,hd,xs,rel,dd⟩:=dt_of I.hok e
    have hz:xs.length ≤ sizeLine:=by rw [← Paired.length rel]; exact z
    have hl:(putK kvs k v).length ≤ sizeLine:=by have:=length_putK kvs k v; omega
    refine wpAny_setItem_heap (hsz:=hz) (tupleKind_room_in1 hu) (key_of I.hok eb) dd fun h' dd' hs=>h _ ?_
    obtain ⟨q,es,ep,hq,h2,h3,h4,_,h5⟩:=dd'
    refine d_write I (by rw [e]; exact True.intro) hs ⟨q,hq⟩ ⟨hl,hd,_,(rel.put k eb rv).keeps fun c ys ec=>?_,q,es,ep,hq,h2,h3,h4,h5⟩
    rw [upd_ne (ne_of ec e (fun z=>nomatch z))]
    exact ec
end
section
variable {X:Cx} {pins:List (Addr × Obj)} {σ:St} {H:Hp} {s:Shared} {a:Addr} {kvs:List (Key × V)} {k:Key} {u:Value} {A:Around} {E:Value→Shared→Prop}
theorem d_len {Q:Value→Shared→Prop} (I:Inv X pins σ H s) (e:Rd H a (.dK kvs)) (h:∀ t s',Inv X pins σ H s'→Q (.int kvs.length t) s'):wpAny (model X.prog X.w) A (call (.builtin "len") [.ref a]) Q E s:=by
  obtain ⟨z,hd,vs,rel,dd⟩:=dk_rd I.hok e
  refine call_len_dict hd dd (by rw [← rel.length]; rw [sizeLine_eq] at z; omega) ?_
  rw [← rel.length]
  exact h _ _ (I.tok _)
end
theorem dict_typeIs {X:Cx} {pins:List (Addr × Obj)} {σ:St} {H:Hp} {s:Shared} {a:Addr} {y:V} {o:Option V} (I:Inv X pins σ H s) (g:DGet H a y o):s.TypeIs (.ref a) "dict":=by
  rcases g with ⟨kvs,k,e,_,_⟩ | ⟨kvs,k,b,e,_,_,_⟩
  · obtain ⟨_,_,vs,_,dd⟩:=dk_rd I.hok e
    exact dd.typeIs
  · obtain ⟨_,_,xs,_,dd⟩:=dt_rd I.hok e
    exact dd.typeIs
section
variable {X:Cx} {o i e value:Expr} {pos pos' tpos:Pos} {td ty tv:TE}
end
theorem dk_empty {P:Program} {w:World} {H:Hp} (h:Heap) (hb:sysModules < h.objs.size):ObjOk P w H (h.push { cls:=.type "dict",data:=.dict #[] }) h.objs.size (.dK []) :=
  ⟨Nat.zero_le _,beq_eq_false_iff_ne.mpr (Ne.symm (Nat.ne_of_lt hb)),[],.nil,Heap.DictOf.new h⟩
noncomputable def tDNewK:TE:=fun _ H Q=>∀ p,H p = none→Q (.ref p) (upd H p (.dK []))
section
variable {X:Cx} {pos:Pos}
theorem pe_dnewK:PE X (.Dict [] [] pos) tDNewK:=fun pins s σ H Q I h =>
  wpAny_Dict_empty ⟨.ref s.heap.objs.size,_,I.laid (a:=s.heap.objs.size) (o:=.dK []) (t':=s.toks) (fun _ _ q=>Heap.get?_push_of_some _ q) (Nat.le_refl _) (dk_empty s.heap I.big),rfl,h _ (I.hok.fresh (Nat.le_refl _))⟩
end
section
variable {X:Cx} {pins:List (Addr × Obj)} {σ:St} {H:Hp} {s:Shared} {a:Addr} {y d:V} {u r:Value} {o:Option V} {A:Around} {E:Value→Shared→Prop}
end
section
variable {X:Cx} {o e f:Expr} {apos cpos:Pos} {td ty tx:TE}
end
section
variable {X:Cx} {pins:List (Addr × Obj)} {σ:St} {H:Hp} {s:Shared} {a:Addr} {kvs:List (Key × V)} {A:Around} {E:Value→Shared→Prop}
end
section
variable {X:Cx} {pins:List (Addr × Obj)} {σ:St} {H:Hp} {s:Shared} {a:Addr} {y:V} {u:Value} {A:Around} {E:Value→Shared→Prop}
end
end L2
namespace L2
open PySem PySem.Spec PyProof.Rows
theorem Inv.turnedL {X:Cx} {pins:List (Addr × Obj)} {σ:List (Option V)} {H:Hp} {s:Shared} {h':Heap} {t':Nat} {fp:List Addr} (I:Inv X pins σ H s) (k:∀ b o,b ∉ fp→s.heap.get? b = some o→h'.get? b = some o) (hf:∀ b ∈ fp,FpOk X pins H b):Inv X pins σ H { s with heap:=h',toks:=t' }:=by
  have nit:∀ b u,H b = some u→b ∉ fp:=fun b u e z=>by rw [(hf b z).1] at e; cases e
  refine I.step (g':=s.gens) (d':=s.drawn) (ch:=fp) (fun b hb=>?_) (fun b o _ _ hc e _=>k b o hc e) (fun b o _ _ hc e _=>⟨o.slots,k b o hc e⟩) (fun _ _ _ _ n=>n)
    (fun b o hc e=>⟨o,k b o hc e⟩) (fun _ _ e=>e) (fun _ _ _ e=>e) (fun b ps e=>⟨#[],by rw [e]; simp⟩) (fun m hm=>?_) (fun b u e=>?_) I.bare
  · obtain ⟨f0,f1,f2,f3,f4,f5⟩:=hf b hb
    exact ⟨f3,f1,f4,f5⟩
  · obtain ⟨o,es,ep,ho,r⟩:=hm
    exact ⟨o,es,ep,k _ o (fun z=>(hf _ z).2.1 rfl) ho,r⟩
  · refine (I.hok b u e).stay (fun c v hc q=>k c v ?_ q) (fun _ q=>q) fun _ _ q=>q
    rcases hc with z | z
    · rw [z]; exact nit b u e
    · exact nit c _ z
noncomputable def Ite (K:PySem.W.Frag) (l:Addr):It :=
  ⟨fun i H=>∃ xs x,SqL K H l xs∧xs[i]? = some x,
   fun i H v H'=>∃ p x,H p = none∧v = .ref p∧H' = upd H p (.tup [.int i,x])∧∀ xs,SqL K H l xs→xs[i]? = some x,
   fun i H=>∃ xs,SqL K H l xs∧xs.length ≤ i⟩
noncomputable def enumAt (e it l:Addr) (i:Nat) (h:Heap):Prop:=(∃ old,IsEnum h e it i old)∧h.IsListIter it l i
theorem turn_enum {P:Program} {w:World} {K:PySem.W.Frag} {elts:List Expr} {x1:Nat} {tp:Pos} (e it l:Addr) (hei:e ≠ it) :
    Turn P w K (.Tuple elts x1 tp) (Ite K l) [e,it] e (enumAt e it l) where
  mem:=by simp
  obj:=fun i h st b hb=>by
    obtain ⟨⟨old,he⟩,⟨o1,e1,c1,d1⟩⟩:=st
    simp only [List.mem_cons,List.not_mem_nil,or_false] at hb
    rcases hb with rfl | rfl
    · exact ⟨_,he,fun v q=>by cases q⟩
    · exact ⟨o1,e1,fun v q=>by rw [d1] at q; cases q⟩
  keep:=fun i h h' st k=>by
    obtain ⟨⟨old,he⟩,h1⟩:=st
    exact ⟨⟨old,k e (by simp) _ he⟩,h1.at fun o q=>k it (by simp) o q⟩
  item:=by
    intro X hP hw hK hc i pins s σ H E I hf st hg
    subst hP hw hK
    obtain ⟨xs,x,hq,hx⟩:=hg
    have ho:∀ b ∈ [e,it],∃ o,s.heap.get? b = some o:=fun b hb=>by
      obtain ⟨⟨old,he⟩,⟨o1,e1,_⟩⟩:=st
      simp only [List.mem_cons,List.not_mem_nil,or_false] at hb
      rcases hb with rfl | rfl
      · exact ⟨_,he⟩
      · exact ⟨_,e1⟩
    obtain ⟨⟨old,he⟩,hi⟩:=st
    obtain ⟨its,rv,p,_⟩:=I.list hq
    obtain ⟨u,hu,ru⟩:=rv.get hx
    refine wpAny_pyNext_enum_item he hi p.isList (x:=u) (by simpa using hu) hei fun h' z1 j1 pr sz kk=>?_
    refine ⟨_,rfl,wpAny_letOwnedTupleGo_enum (s:={ s with heap:=h',toks:=s.toks + 1 }) z1 fun h2 z2 sb=>?_⟩
    have hf0:H s.heap.objs.size = none:=I.hok.fresh (Nat.le_refl _)
    have I0:Inv X pins σ (upd H s.heap.objs.size (.tup [.int i,x])) { s with heap:=s.heap.push { cls:=.type "tuple",data:=.seq #[.int i s.toks,u] },toks:=s.toks + 1 } :=
      I.laid (t':=s.toks + 1) (fun b o e=>Heap.get?_push_of_some _ e) (Nat.le_refl _) ⟨by show 2 ≤ sizeLine; decide,[.int i s.toks,u],.cons ⟨_,rfl⟩ (.cons ru .nil),⟨_,Heap.get?_push_size _ rfl,rfl,_,rfl⟩⟩
    have neT:∀ b ∈ [e,it],b ≠ s.heap.objs.size:=fun b hb q=>by
      obtain ⟨o,z⟩:=ho b hb
      exact absurd (Heap.lt_size z) (by rw [q]; exact Nat.lt_irrefl _)
    have hf':∀ b ∈ [e,it],FpOk X pins (upd H s.heap.objs.size (.tup [.int i,x])) b:=fun b hb=>by
      obtain ⟨f0,f1,f2,f3,f4,f5⟩:=hf b hb
      exact ⟨by rw [upd_ne (neT b hb)]; exact f0,f1,f2,f3,f4,f5⟩
    have I1:Inv X pins σ (upd H s.heap.objs.size (.tup [.int i,x])) { s with heap:=h2,toks:=s.toks + 1 }:=by
      refine Inv.turnedL (s:={ s with heap:=s.heap.push { cls:=.type "tuple",data:=.seq #[.int i s.toks,u] },toks:=s.toks + 1 }) (h':=h2) (t':=s.toks + 1) (fp:=[e,it]) I0 (fun b o hb q=>?_) hf'
      replace q:(s.heap.push { cls:=.type "tuple",data:=.seq #[.int i s.toks,u] }).get? b = some o:=q
      simp only [List.mem_cons,List.not_mem_nil,or_false,not_or] at hb
      obtain ⟨b1,b2⟩:=hb
      rw [sb.2 b b1]
      by_cases hT:b = s.heap.objs.size
      · subst hT
        have:(s.heap.push { cls:=.type "tuple",data:=.seq #[.int i s.toks,u] }).get? s.heap.objs.size = some { cls:=.type "tuple",data:=.seq #[.int i s.toks,u] }:=Heap.get?_push_size _ rfl
        rw [this] at q
        cases q
        exact pr
      · have e':s.heap.get? b = some o:=by
          rw [Heap.get?_push_ne _ _ _ hT] at q
          exact q
        exact kk b o b1 b2 e'
    refine ⟨.ref s.heap.objs.size,_,I1,rfl,⟨_,x,hf0,rfl,rfl,fun zs hz'=>by rw [I.list_inj hz' hq]; exact hx⟩,⟨⟨u,by simpa using z2⟩,?_⟩,fun b hb=>(hf' b hb).1⟩
    exact j1.at fun o q=>(sb.2 it (Ne.symm hei)).trans q
  done:=by
    intro X hP hw hK hc i pins s σ H E I hf st hg
    subst hP hw hK
    obtain ⟨xs,hq,hl⟩:=hg
    obtain ⟨⟨old,he⟩,hi⟩:=st
    obtain ⟨its,rv,p,_⟩:=I.list hq
    have l1:=rv.length
    refine wpAny_pyNext_enum_end (I.ok.hd hc) he hi p.isList (by simp; omega) fun h' kk=>⟨rfl,I.turnedL (t':=s.toks) (fp:=[e,it]) (fun b o hb q=>?_) hf⟩
    simp only [List.mem_cons,List.not_mem_nil,or_false,not_or] at hb
    exact kk b o hb.2 q
  self:=fun _ _ _ _ _ st h=>by
    obtain ⟨⟨old,he⟩,_⟩:=st
    exact wpAny_pyIter_enum he h
noncomputable def iEnum (K:PySem.W.Frag) (ta:TA):TI:=fun σ H R=>ta σ H fun vs H1=>∃ l,vs = [.ref l]∧(∃ xs,SqL K H1 l xs)∧R (Ite K l) H1
theorem boot_enum:bootBuiltins "enumerate" = some (.type "enumerate"):=by rfl
theorem pi_enum {X:Cx} {a:Expr} {ta:TA} {p pos:Pos} {elts:List Expr} {x1:Nat} {tp:Pos} (hg:Gl X "enumerate") (hm:X.mg "enumerate" = none) (ha:PA X [a] ta) (hs:starEach [a] X.env = [(false,eval a X.env)]) :
    PI X (.Tuple elts x1 tp) (.Call (.Name "enumerate" p) [a] [] pos) (iEnum X.K ta):=by
  intro pins s σ H R I h
  refine Call_ (ld_blt I hg hm boot_enum (PyProof.Rows.callWith_type1 (thn (ha pos pins s σ H _ I h) fun us s1 ⟨vs,H1,I1,r1,q1⟩=>?_) (by rw [hs]; rfl) rfl))
  obtain ⟨l,e,⟨xs,hq⟩,q⟩:=q1
  subst e
  obtain ⟨u,rfl,rx⟩:=vals1 r1
  cases rx
  obtain ⟨its,rv,p1,_⟩:=I1.list hq
  refine call_enumerate_list p1.isList fun h' z1 j1 sz kk=>?_
  refine wpAny_pyIter_enum (s:={ s1 with heap:=h' }) z1 ?_
  have hne:s1.heap.objs.size + 1 ≠ s1.heap.objs.size:=Nat.ne_of_gt (Nat.lt_succ_self _)
  refine ⟨s1.heap.objs.size + 1,_,_,_,H1,rfl,I1.kept (t':=s1.toks) kk,turn_enum _ _ l hne,⟨⟨_,z1⟩,j1⟩,fun b hb=>?_,q⟩
  have hb':s1.heap.objs.size ≤ b:=by
    simp only [List.mem_cons,List.not_mem_nil,or_false] at hb
    rcases hb with rfl | rfl
    · exact Nat.le_succ _
    · exact Nat.le_refl _
  exact I1.fpOk hb' (I1.hok.fresh hb')
section
variable {X:Cx}
noncomputable def rCatF (K:PySem.W.Frag):R2:=fun x y H Q=>∃ l b xs zs,x = .ref l∧y = .ref b∧SqL K H l xs∧SqL K H b zs∧xs.length + zs.length ≤ sizeLine∧∀ p,H p = none→Q (.ref p) (upd H p (.lst (xs ++ zs)))
theorem op_catF:OpR X (binaryOp .Add) (rCatF X.K):=by
  intro pins s σ H x y v u Q I rx ry h
  obtain ⟨l,b,xs,zs,rfl,rfl,hH,hB,hz,q⟩:=h
  cases rx
  cases ry
  obtain ⟨its,r,p1,_⟩:=I.list hH
  obtain ⟨its2,r2,p2,_⟩:=I.list hB
  have hl:=r.length
  have hl2:=r2.length
  obtain ⟨⟨cls,dd,data,sl⟩,ho,hc,n,hd⟩:=id p1.isList
  obtain ⟨⟨cls2,dd2,data2,sl2⟩,ho2,hc2,n2,hd2⟩:=id p2.isList
  simp only at hc hd hc2 hd2
  subst hc hd hc2 hd2
  have e:its.toArray ++ its2.toArray = (its ++ its2).toArray:=by simp
  refine concat_meets ⟨_,ho,rfl⟩ ⟨_,ho2,rfl⟩ noFill_list_add seq_list_add PySem.F.slot_list_add PySem.F.entry_list_add (PySem.F.args_list_add_2 _ _) (list_addW l b its.toArray its2.toArray n n2 dd dd2 sl sl2 (by simp; omega)) ⟨ho,ho2,?_⟩
  rw [e]
  exact ⟨.ref _,_,I.lnew (t':=s.toks) (r.append r2) (by rw [List.length_append]; omega),rfl,q _ I.fresh⟩
end
end L2
namespace L2
open PySem PySem.Spec PyProof.Rows
section
variable {X:Cx}
theorem kv_at {kvs:List (Key × V)} {vs:List (Key × Value)} (r:KV kvs vs):∀ (i:Nat) (k:Key) (x:Value),vs[i]? = some (k,x)→∃ v,kvs[i]? = some (k,v):=by
  unfold KV at r
  induction r with
  | nil=>intro i k x h; simp at h
  | @cons p q ps qs hpq _ ih =>
    intro i k x h
    cases i with
    | zero =>
      have h':q = (k,x):=by simpa using h
      subst h'
      refine ⟨p.2,?_⟩
      show some p = _
      have:p.1 = k:=hpq.1
      rw [← this]
    | succ i=>exact ih i k x (by simpa using h)
theorem kv_len {kvs:List (Key × V)} {vs:List (Key × Value)} (r:KV kvs vs):kvs.length = vs.length:=by
  unfold KV at r
  induction r with
  | nil=>rfl
  | cons _ _ ih=>rw [List.length_cons,List.length_cons,ih]
theorem vals_at:∀ {xs:List V} {us:List Value},xs.length = us.length→(∀ (i:Nat) (u:Value),us[i]? = some u→∃ x,xs[i]? = some x∧RelV x u)→Vals xs us
  | [],[],_,_=>.nil
  | [],u :: us,h,_=>by simp at h
  | x :: xs,[],h,_=>by simp at h
  | x :: xs,u :: us,h,g=>by
    obtain ⟨y,e,r⟩:=g 0 u rfl
    have e':x = y:=by simpa using e
    subst e'
    exact .cons r (vals_at (by simpa using h) fun i w q=>by simpa using g (i + 1) w (by simpa using q))
theorem call_list_dct (hc:X.calm = true):CallR X (.type "list") (fun xs H Q=>∃ p kvs,xs = [.ref p]∧H p = some (.dK kvs)∧∀ l,H l = none→Q (.ref l) (upd H l (.lst (kvs.map fun kv=>kV kv.1)))):=by
  intro pins s σ H xs us Q I r h
  obtain ⟨p,kvs,rfl,hp,q⟩:=h
  obtain ⟨u,rfl,rx⟩:=vals1 r
  cases rx
  obtain ⟨hz,hS,vs,rel,o,es,ep,m⟩:=(show ObjOk X.prog X.w H s.heap p (.dK kvs) from I.hok p _ hp)
  have hl:=kv_len rel
  refine PySem.W.kdl_call (PySem.W.kdl_dict (knd:=mixKind X.prog X.w) (kvs:=vs) (ep:=ep) hS) (I.ok.hd hc) ⟨o,es,m⟩ (by rw [← hl]; exact hz) fun h' tk acc' c' kp e it=>?_
  have rv:Vals (kvs.map fun kv=>kV kv.1) acc'.toList:=by
    refine vals_at (by rw [List.length_map,hl]; exact it.1.symm) fun i u hu=>?_
    obtain ⟨k,x,ek,hk⟩:=it.2 i u (by rw [← Array.getElem?_toList]; exact hu)
    obtain ⟨v,ev⟩:=kv_at rel i k x ek
    refine ⟨kV k,by rw [List.getElem?_map,ev]; rfl,?_⟩
    rcases keyIs_shape hk with ⟨j,t,rfl,rfl⟩ | ⟨y,t,rfl,rfl⟩
    · exact ⟨_,rfl⟩
    · exact ⟨_,rfl⟩
  refine ⟨.ref s.heap.objs.size,_,I.laid (t':=tk) kp (Nat.le_refl _) (show ObjOk X.prog X.w _ h' _ (.lst (kvs.map fun kv=>kV kv.1)) from ⟨by rw [List.length_map]; exact hz,acc'.toList,c',rv,by simpa using e⟩),rfl,q _ (I.hok.fresh (Nat.le_refl _))⟩
end
end L2
namespace LR
open PySem PySem.Spec PyProof.Rows PySem.F
section
variable {prog:Program} {w:World} {A:Around} {E:Value→Shared→Prop} {s:Shared}
theorem _root_.PySem.Heap.IsList.lt {h:Heap} {l:Addr} {items:Array Value} (x:h.IsList l items):l < h.objs.size:=let ⟨o,ho,_⟩:=x; Heap.lt_size ho
end
end LR
namespace L2
open PySem PySem.Spec PyProof.Rows
end L2
namespace LR
open PySem PySem.Spec PyProof.Rows PySem.F
section
variable {prog:Program} {w:World} {A:Around} {E:Value→Shared→Prop} {s:Shared}
end
end LR
namespace L2
open PySem PySem.Spec PyProof.Rows
section
variable {X:Cx} {pins:List (Addr × Obj)} {σ:St} {H:Hp} {s:Shared} {a C dx q f:Addr} {fs:List (Str × V)} {m:Str} {E:Value→Shared→Prop}
structure MethB (K:PySem.W.Frag) (m:Str) (f:Addr):Prop where
  get:PySem.W.specialIn K (.ref f) "__get__" = some (some (.builtin "function.__get__"))
  tk:PySem.W.takesIn K (.ref f) = some false
  cp:PySem.W.copiedNames.contains m = false
structure MinAt (X:Cx) (pins:List (Addr × Obj)) (q f a T It S:Addr) (u1 u2:Value) (i:Nat) (best:Array Value) (H:Hp) (s:Shared):Prop where
  me:s.heap.get? q = some (PySem.W.methodObj (.ref f) (.ref a))
  tu:s.heap.get? T = some { cls:=.type "tuple",data:=.seq #[u1,u2] }
  it:s.heap.IsTupleIter It T i
  be:∃ c,s.heap.get? S = some (seqObj "list" best c)
  fp:∀ b ∈ [q,T,It,S],FpOk X pins H b
  ne:T ≠ It∧S ≠ It∧S ≠ T∧q ≠ It∧q ≠ S
theorem MinAt.tuple {u1 u2:Value} {T It S:Addr} {i:Nat} {best:Array Value} (M:MinAt X pins q f a T It S u1 u2 i best H s):s.heap.IsTuple T #[u1,u2]:=⟨_,M.tu,rfl,_,rfl⟩
end
end L2
namespace L2
open PySem PySem.Spec PyProof.Rows
end L2
namespace L2
open PySem PySem.Spec PyProof.Rows
end L2
namespace L2
open PySem PySem.Spec PyProof.Rows
end L2
namespace LR
open PySem PySem.Spec PyProof.Rows PySem.F MeetsSeq
end LR
namespace L2
open PySem PySem.Spec PyProof.Rows
end L2
namespace LZ
open PySem PyProof.Rows
section
variable {prog:Program} {w:World} {A:Around} {E:Value→Shared→Prop} {s:Shared}
theorem nx {j u:Addr} {i:Nat} {us:Array Value} {x:Value} {Q:Value→Shared→Prop} (h1:s.heap.IsTupleIter j u i) (h2:s.heap.IsTuple u us) (h3:us[i]? = some x)
    (k:∀ h',h'.IsTupleIter j u (i + 1)→Heap.SameBut j s.heap h'→Q x { s with heap:=h' }):wpAny (model prog w) A (Builtin.SmallTypes.nextOf (.ref j)) Q E s:=by
  obtain ⟨o,eo,c,d⟩:=id h1
  obtain ⟨ot,et,_,n,dt⟩:=h2
  unfold Builtin.SmallTypes.nextOf; refine wpAny_bind (wpAny_callSpecial?_slot (name:=Str.ofString "__next__") h1.typeIs F.slot_tuple_iterator_next (wpAny_call_entry F.slot_tuple_iterator_next h1.typeIs F.entry_tuple_iterator_next ?_ (F.args_tuple_iterator_next_1 _)))
  show wpAny _ _ (field (.ref j) 0 >>= _) _ _ s
  refine wpAny_bind (wpAny_field eo d (x:=.ref u) rfl ?_)
  show wpAny _ _ (if (Value.ref u == Value.none) = true then _ else _) _ _ s
  rw [if_neg (show ¬ ((Value.ref u == Value.none) = true) from Bool.false_ne_true)]
  show wpAny _ _ (field (.ref j) 1 >>= _) _ _ s
  refine wpAny_bind (wpAny_field eo d (x:=.int i 0) rfl ?_)
  show wpAny _ _ (seqItems? (.ref u) >>= _) _ _ s
  refine wpAny_bind (wpAny_seqItems et dt ?_)
  simp only [Int.toNat_natCast,h3]
  refine wpAny_bind (wpAny_setField eo d (by simp) (wpAny_pure ⟨x,rfl,wpAny_pure (k _ ?_ (Heap.SameBut.update ..))⟩))
  exact ⟨_,Heap.get?_update_self _ eo (Obj.isFreed_of_fields (Obj.data_mapFields d _)),(Obj.cls_mapFields ..).trans c,by rw [Obj.data_mapFields d]; simp [rawInt]⟩
theorem nx_end {j u:Addr} {i:Nat} {us:Array Value} {Q:Value→Shared→Prop} (hh:A.handled = none) (h1:s.heap.IsTupleIter j u i) (h2:s.heap.IsTuple u us) (h3:us[i]? = none)
    (k:∀ h' e,Heap.ExtBut j s.heap h'→(∃ o,h'.get? e = some o∧o.cls = .type "StopIteration")→E (.ref e) { s with heap:=h' }):wpAny (model prog w) A (Builtin.SmallTypes.nextOf (.ref j)) Q E s:=by
  obtain ⟨o,eo,c,d⟩:=id h1
  obtain ⟨ot,et,_,n,dt⟩:=h2
  unfold Builtin.SmallTypes.nextOf; refine wpAny_bind (wpAny_callSpecial?_slot (name:=Str.ofString "__next__") h1.typeIs F.slot_tuple_iterator_next (wpAny_call_entry F.slot_tuple_iterator_next h1.typeIs F.entry_tuple_iterator_next ?_ (F.args_tuple_iterator_next_1 _)))
  show wpAny _ _ (field (.ref j) 0 >>= _) _ _ s
  refine wpAny_bind (wpAny_field eo d (x:=.ref u) rfl ?_)
  show wpAny _ _ (if (Value.ref u == Value.none) = true then _ else _) _ _ s
  rw [if_neg (show ¬ ((Value.ref u == Value.none) = true) from Bool.false_ne_true)]
  show wpAny _ _ (field (.ref j) 1 >>= _) _ _ s
  refine wpAny_bind (wpAny_field eo d (x:=.int i 0) rfl ?_)
  show wpAny _ _ (seqItems? (.ref u) >>= _) _ _ s
  refine wpAny_bind (wpAny_seqItems et dt ?_)
  simp only [Int.toNat_natCast,h3]
  refine wpAny_bind (wpAny_rule (wpAny_bind (wpAny_setField eo d (by simp) ?_))); show wpAny _ _ (newExc (.type "StopIteration") [] >>= _) _ _ _
  refine wpAny_bind ?_; simp only [newExc,newTuple]; refine wpAny_bind (wpAny_newObj_type ?_ (by size_fits))
  refine wpAny_bind (m:=firstArgMember _ _) (wpAny_of_eq (a:=Value.none) (by first | rfl | (simp only [firstArgMember]; rfl)) ?_); refine wpAny_newObj_type ?_ (by size_fits)
  simp only [raiseNew]; refine wpAny_bind (wpAny_handled ?_); first | rw [show A.in1.handled = none from hh] | rw [hh]
  refine wpAny_bind (wpAny_pure (wpAny_throw ?_)); exact k _ _ (((Heap.SameBut.update ..).extBut.push _).push _) ⟨_,Heap.get?_push_size _ rfl,rfl⟩
theorem item {z a b p q u v:Addr} {m n:Nat} {us vs:Array Value} {x y c0 c1:Value} {Q:Value→Shared→Prop} (D:ZipApart z a b p q u v) (hz:IsZip s.heap z a b .none) (ha:IsPair s.heap a (.ref p) (.ref q)) (hb:IsPair s.heap b c0 c1)
    (h1:s.heap.IsTupleIter p u m) (h2:s.heap.IsTupleIter q v n) (hu:s.heap.IsTuple u us) (hv:s.heap.IsTuple v vs) (hx:us[m]? = some x) (hy:vs[n]? = some y)
    (k:∀ h',IsZip h' z a b (rawInt s.heap.objs.size)→IsPair h' b x y→h'.IsTupleIter p u (m + 1)→h'.IsTupleIter q v (n + 1)→IsPair h' s.heap.objs.size x y→h'.objs.size = s.heap.objs.size + 1 →
      (∀ c o,c ≠ z→c ≠ b→c ≠ p→c ≠ q→s.heap.get? c = some o→h'.get? c = some o)→Q (.ref s.heap.objs.size) { s with heap:=h' }) :
    wpAny (model prog w) A (Builtin.«zip.__next__» ⟨[.ref z],[]⟩) (fun fin s'=>∃ v,fin = .done (.ret v)∧Q v s') E s:=by
  show wpAny _ A (field (.ref z) 2 >>= _) _ _ s
  refine wpAny_bind (wpAny_field hz rfl (x:=.bool false) rfl (?_:wpAny _ A (field (.ref z) 3 >>= _) _ _ s))
  refine wpAny_bind (wpAny_field hz rfl (x:=.ref a) rfl (wpAny_bind (wpAny_seqItems ha rfl (?_:wpAny _ A (Builtin.SmallTypes.ownedTupleIsFree (.ref z) >>= _) _ _ s))))
  refine wpAny_bind (m:=Builtin.SmallTypes.ownedTupleIsFree (.ref z)) ?_
  unfold Builtin.SmallTypes.ownedTupleIsFree; refine wpAny_bind (wpAny_field hz rfl (x:=.none) rfl (wpAny_pure ?_))
  simp only [if_true]; refine wpAny_bind (wpAny_rule (wpAny_bind (wpAny_field hz rfl (x:=.ref b) rfl (wpAny_bind (wpAny_setField_rec hz (by simp) fun g1 z1 t1=>?_)))))
  replace z1:IsZip g1 z a b .ellipsis:=z1
  refine wpAny_bind ?_; simp only [List.zipIdx_cons,List.zipIdx_nil,List.forIn_cons,List.forIn_nil]; refine wpAny_bind (wpAny_bind (wpAny_onRaise ?_))
  show wpAny _ _ (Builtin.SmallTypes.nextOf (.ref p) >>= _) _ _ _
  refine wpAny_bind (nx (h1.extBut t1.extBut D.i1z) (hu.extBut t1.extBut D.l1z) hx fun g2 r2 t2=>wpAny_pure ?_)
  have b2:IsPair g2 b c0 c1:=t2.extBut _ _ D.TOi1 (t1.extBut _ _ D.TOz hb)
  refine wpAny_bind (wpAny_seqItems b2 rfl (wpAny_bind (wpAny_updateSeq_pair b2 fun g3 b3 t3=>?_)))
  replace b3:IsPair g3 b x c1:=b3
  refine wpAny_bind (wpAny_letGo (wpAny_pure ?_)); refine wpAny_bind (wpAny_bind (wpAny_onRaise ?_))
  show wpAny _ _ (Builtin.SmallTypes.nextOf (.ref q) >>= _) _ _ _
  refine wpAny_bind (nx (((h2.extBut t1.extBut D.i2z).extBut t2.extBut D.i12.symm).extBut t3.extBut D.TOi2.symm) (((hv.extBut t1.extBut D.l2z).extBut t2.extBut D.l2i1).extBut t3.extBut D.l2TO) hy fun g4 r4 t4=>wpAny_pure ?_)
  have b4:IsPair g4 b x c1:=t4.extBut _ _ D.TOi2 b3
  refine wpAny_bind (wpAny_seqItems b4 rfl (wpAny_bind (wpAny_updateSeq_pair b4 fun g5 b5 t5=>?_)))
  replace b5:IsPair g5 b x y:=b5
  refine wpAny_bind (wpAny_letGo (wpAny_pure (wpAny_pure (wpAny_bind (wpAny_seqItems b5 rfl (wpAny_bind (wpAny_newTuple ?_)))))))
  have sz:g5.objs.size = s.heap.objs.size:=by rw [t5.1,t4.1,t3.1,t2.1,t1.1]
  have z5:IsZip g5 z a b .ellipsis:=t5.extBut _ _ D.TOz.symm (t4.extBut _ _ D.i2z.symm (t3.extBut _ _ D.TOz.symm (t2.extBut _ _ D.i1z.symm z1)))
  have k5:∀ c o,c ≠ z→c ≠ b→c ≠ p→c ≠ q→s.heap.get? c = some o→g5.get? c = some o:=fun c o n1 n2 n3 n4 e=>t5.extBut _ _ n2 (t4.extBut _ _ n4 (t3.extBut _ _ n2 (t2.extBut _ _ n3 (t1.extBut _ _ n1 e))))
  have r5:g5.IsTupleIter p u (m + 1):=((r2.extBut t3.extBut D.TOi1.symm).extBut t4.extBut D.i12).extBut t5.extBut D.TOi1.symm
  have w5:g5.IsTupleIter q v (n + 1):=r4.extBut t5.extBut D.TOi2.symm
  have lz:z < g5.objs.size:=Heap.lt_size z5
  show wpAny _ _ (Builtin.SmallTypes.ownedTupleHandOut (.ref z) (.ref g5.objs.size) >>= _) _ _ _
  refine wpAny_bind ?_; unfold Builtin.SmallTypes.ownedTupleHandOut
  have z6:IsZip (g5.push { cls:=.type "tuple",data:=.seq #[x,y] }) z a b .ellipsis:=Heap.get?_push_of_some _ z5
  refine wpAny_bind (wpAny_setField_rec z6 (by simp) fun g7 z7 t7=>?_)
  replace z7:IsZip g7 z a b (rawInt g5.objs.size):=z7
  refine wpAny_setField_rec z7 (by simp) fun g8 z8 t8=>?_
  replace z8:IsZip g8 z a b (rawInt g5.objs.size):=z8
  have up:∀ c o,c ≠ z→g5.get? c = some o→g8.get? c = some o:=fun c o n1 e=>t8.extBut _ _ n1 (t7.extBut _ _ n1 (Heap.get?_push_of_some _ e))
  have n8:IsPair g8 g5.objs.size x y:=t8.extBut _ _ (Nat.ne_of_gt lz) (t7.extBut _ _ (Nat.ne_of_gt lz) (Heap.get?_push_size _ rfl))
  have s8:g8.objs.size = g5.objs.size + 1:=by rw [t8.1,t7.1,Heap.size_push]
  rw [sz] at z8 n8 s8
  refine wpAny_pure ⟨_,rfl,(?_:Q (.ref g5.objs.size) _)⟩
  rw [sz]
  exact k g8 z8 (up _ _ D.TOz b5) (r5.at fun o e=>up _ o D.i1z e) (w5.at fun o e=>up _ o D.i2z e) n8 s8 fun c o n1 n2 n3 n4 e=>up c o n1 (k5 c o n1 n2 n3 n4 e)
theorem last {z a b p q u v:Addr} {m n:Nat} {us vs:Array Value} {c0 c1:Value} {Q:Fin→Shared→Prop} (hh:A.handled = none) (D:ZipApart z a b p q u v) (hz:IsZip s.heap z a b .none) (ha:IsPair s.heap a (.ref p) (.ref q)) (hb:IsPair s.heap b c0 c1)
    (h1:s.heap.IsTupleIter p u m) (h2:s.heap.IsTupleIter q v n) (hu:s.heap.IsTuple u us) (hv:s.heap.IsTuple v vs) (he:us[m]? = none ∨ vs[n]? = none)
    (k:∀ h' e,(∀ c o,c ≠ z→c ≠ b→c ≠ p→c ≠ q→s.heap.get? c = some o→h'.get? c = some o)→(∃ o,h'.get? e = some o∧o.cls = .type "StopIteration")→E (.ref e) { s with heap:=h' }) :
    wpAny (model prog w) A (Builtin.«zip.__next__» ⟨[.ref z],[]⟩) Q E s:=by
  show wpAny _ A (field (.ref z) 2 >>= _) _ _ s
  refine wpAny_bind (wpAny_field hz rfl (x:=.bool false) rfl (?_:wpAny _ A (field (.ref z) 3 >>= _) _ _ s))
  refine wpAny_bind (wpAny_field hz rfl (x:=.ref a) rfl (wpAny_bind (wpAny_seqItems ha rfl (?_:wpAny _ A (Builtin.SmallTypes.ownedTupleIsFree (.ref z) >>= _) _ _ s))))
  refine wpAny_bind (m:=Builtin.SmallTypes.ownedTupleIsFree (.ref z)) ?_
  unfold Builtin.SmallTypes.ownedTupleIsFree; refine wpAny_bind (wpAny_field hz rfl (x:=.none) rfl (wpAny_pure ?_))
  simp only [if_true]; refine wpAny_bind (wpAny_rule (wpAny_bind (wpAny_field hz rfl (x:=.ref b) rfl (wpAny_bind (wpAny_setField_rec hz (by simp) fun g1 z1 t1=>?_)))))
  replace z1:IsZip g1 z a b .ellipsis:=z1
  refine wpAny_bind ?_; simp only [List.zipIdx_cons,List.zipIdx_nil,List.forIn_cons,List.forIn_nil]; refine wpAny_bind (wpAny_bind (wpAny_onRaise ?_))
  show wpAny _ _ (Builtin.SmallTypes.nextOf (.ref p) >>= _) _ _ _
  cases hx:us[m]? with
  | none =>
    refine wpAny_bind (nx_end hh (h1.extBut t1.extBut D.i1z) (hu.extBut t1.extBut D.l1z) hx fun g2 e t2 ⟨oe,eo,ce⟩=>?_)
    have z2:IsZip g2 z a b .ellipsis:=t2 _ _ D.i1z.symm z1
    have nz:e ≠ z:=fun r=>by subst r; rw [z2] at eo; cases eo; simp at ce
    exact wpAny_setField_rec z2 (by simp) fun g3 _ t3=>k g3 e (fun c o n1 _ n3 _ r=>t3.extBut _ _ n1 (t2 _ _ n3 (t1.extBut _ _ n1 r))) ⟨oe,t3.extBut _ _ nz eo,ce⟩
  | some x =>
    have hy:vs[n]? = none:=he.resolve_left (by rw [hx]; exact nofun)
    refine wpAny_bind (nx (h1.extBut t1.extBut D.i1z) (hu.extBut t1.extBut D.l1z) hx fun g2 r2 t2=>wpAny_pure ?_)
    have b2:IsPair g2 b c0 c1:=t2.extBut _ _ D.TOi1 (t1.extBut _ _ D.TOz hb)
    refine wpAny_bind (wpAny_seqItems b2 rfl (wpAny_bind (wpAny_updateSeq_pair b2 fun g3 b3 t3=>?_)))
    refine wpAny_bind (wpAny_letGo (wpAny_pure ?_)); refine wpAny_bind (wpAny_bind (wpAny_onRaise ?_))
    show wpAny _ _ (Builtin.SmallTypes.nextOf (.ref q) >>= _) _ _ _
    refine wpAny_bind (nx_end hh (((h2.extBut t1.extBut D.i2z).extBut t2.extBut D.i12.symm).extBut t3.extBut D.TOi2.symm) (((hv.extBut t1.extBut D.l2z).extBut t2.extBut D.l2i1).extBut t3.extBut D.l2TO) hy fun g4 e t4 ⟨oe,eo,ce⟩=>?_)
    have z4:IsZip g4 z a b .ellipsis:=t4 _ _ D.i2z.symm (t3.extBut _ _ D.TOz.symm (t2.extBut _ _ D.i1z.symm z1))
    have nz:e ≠ z:=fun r=>by subst r; rw [z4] at eo; cases eo; simp at ce
    exact wpAny_setField_rec z4 (by simp) fun g5 _ t5=>k g5 e (fun c o n1 n2 n3 n4 r=>t5.extBut _ _ n1 (t4 _ _ n4 (t3.extBut _ _ n2 (t2.extBut _ _ n3 (t1.extBut _ _ n1 r))))) ⟨oe,t5.extBut _ _ nz eo,ce⟩
theorem go {z a b p q u v:Addr} {m n:Nat} {us vs:Array Value} {x y c0 c1:Value} {Q:Option Value→Shared→Prop} (D:ZipApart z a b p q u v) (hz:IsZip s.heap z a b .none) (ha:IsPair s.heap a (.ref p) (.ref q)) (hb:IsPair s.heap b c0 c1)
    (h1:s.heap.IsTupleIter p u m) (h2:s.heap.IsTupleIter q v n) (hu:s.heap.IsTuple u us) (hv:s.heap.IsTuple v vs) (hx:us[m]? = some x) (hy:vs[n]? = some y)
    (k:∀ h',IsZip h' z a b (rawInt s.heap.objs.size)→IsPair h' b x y→h'.IsTupleIter p u (m + 1)→h'.IsTupleIter q v (n + 1)→IsPair h' s.heap.objs.size x y→h'.objs.size = s.heap.objs.size + 1 →
      (∀ c o,c ≠ z→c ≠ b→c ≠ p→c ≠ q→s.heap.get? c = some o→h'.get? c = some o)→Q (some (.ref s.heap.objs.size)) { s with heap:=h' }):wpAny (model prog w) A (pyNext (.ref z)) Q E s:=by
  have ty:s.TypeIs (.ref z) "zip":=⟨_,hz,rfl⟩
  unfold pyNext
  exact wpAny_bind (wpAny_attempt (wpAny_callSpecial?_slot (name:=Str.ofString "__next__") ty F.slot_zip_next (wpAny_call_entry F.slot_zip_next ty F.entry_zip_next (item D hz ha hb h1 h2 hu hv hx hy fun h' r1 r2 r3 r4 r5 r6 r7=>wpAny_pure (k h' r1 r2 r3 r4 r5 r6 r7)) (F.args_zip_next_1 _))))
theorem stop {z a b p q u v:Addr} {m n:Nat} {us vs:Array Value} {c0 c1:Value} {Q:Option Value→Shared→Prop} (hh:A.handled = none) (D:ZipApart z a b p q u v) (hz:IsZip s.heap z a b .none) (ha:IsPair s.heap a (.ref p) (.ref q)) (hb:IsPair s.heap b c0 c1)
    (h1:s.heap.IsTupleIter p u m) (h2:s.heap.IsTupleIter q v n) (hu:s.heap.IsTuple u us) (hv:s.heap.IsTuple v vs) (he:us[m]? = none ∨ vs[n]? = none)
    (k:∀ h',(∀ c o,c ≠ z→c ≠ b→c ≠ p→c ≠ q→s.heap.get? c = some o→h'.get? c = some o)→Q none { s with heap:=h' }):wpAny (model prog w) A (pyNext (.ref z)) Q E s:=by
  have ty:s.TypeIs (.ref z) "zip":=⟨_,hz,rfl⟩
  unfold pyNext
  refine wpAny_bind (wpAny_attempt (wpAny_callSpecial?_slot (name:=Str.ofString "__next__") ty F.slot_zip_next (wpAny_call_entry F.slot_zip_next ty F.entry_zip_next (last hh D hz ha hb h1 h2 hu hv he fun h' e r1 ⟨o,eo,ce⟩=>?_) (F.args_zip_next_1 _))))
  exact wpAny_bind (wpAny_isInstance (T:="StopIteration") (b:=true) ⟨o,eo,ce⟩ isSubtype_stop (wpAny_pure (k _ r1)))
end
noncomputable abbrev g1 (h:Heap) (u:Addr):Heap:=h.push { cls:=.type "tuple_iterator",data:=.fields #[.ref u,.int 0 0] }
noncomputable abbrev g2 (h:Heap) (u v:Addr):Heap:=(g1 h u).push { cls:=.type "tuple_iterator",data:=.fields #[.ref v,.int 0 0] }
noncomputable abbrev g3 (h:Heap) (u v:Addr):Heap:=(g2 h u v).push { cls:=.type "tuple",data:=.seq #[.ref h.objs.size,.ref (g1 h u).objs.size] }
noncomputable abbrev g4 (h:Heap) (u v:Addr):Heap:=(g3 h u v).push { cls:=.type "tuple",data:=.seq #[.none,.none] }
noncomputable abbrev g5 (h:Heap) (u v:Addr):Heap:=(g4 h u v).push { cls:=.type "zip",data:=.fields #[.none,.bool false,.bool false,.ref (g2 h u v).objs.size,.ref (g3 h u v).objs.size] }
theorem made (u v:Addr) (us vs:Array Value):Meets (Builtin.«zip.__new__» ⟨[.type "zip",.ref u,.ref v],[]⟩) (fun _ R s=>s.heap.IsTuple u us∧s.heap.IsTuple v vs∧R (.ok (.ret (.ref (g4 s.heap u v).objs.size))) { s with heap:=g5 s.heap u v }) :=
  .of_wp fun prog w A R s ⟨hu,hv,h⟩=>by
    obtain ⟨hp,g,d,tk,os⟩:=s
    have sb:=sub_zip
    have k1:Heap.IsTuple (Shared.heap ⟨hp,g,d,tk,os⟩) u us:=hu
    have k2:Heap.IsTuple (Shared.heap ⟨hp.push { cls:=.type "tuple_iterator",data:=.fields #[.ref u,.int 0 0] },g,d,tk,os⟩) v vs:=Heap.IsTuple.push hv _
    wp_walk using wpAny_pyIter_tuple k1,wpAny_pyIter_tuple k2
    exact ⟨_,rfl,h⟩
theorem new {prog:Program} {w:World} {A:Around} {E:Value→Shared→Prop} {s:Shared} {u v:Addr} {us vs:Array Value} {Q:Value→Shared→Prop} (hu:s.heap.IsTuple u us) (hv:s.heap.IsTuple v vs)
    (k:∀ h',IsZip h' (s.heap.objs.size + 4) (s.heap.objs.size + 2) (s.heap.objs.size + 3) .none→IsPair h' (s.heap.objs.size + 2) (.ref s.heap.objs.size) (.ref (s.heap.objs.size + 1))→IsPair h' (s.heap.objs.size + 3) .none .none →
      h'.IsTupleIter s.heap.objs.size u 0→h'.IsTupleIter (s.heap.objs.size + 1) v 0→h'.objs.size = s.heap.objs.size + 5→(∀ c o,s.heap.get? c = some o→h'.get? c = some o)→Q (.ref (s.heap.objs.size + 4)) { s with heap:=h' }) :
    wpAny (model prog w) A (call (.type "zip") [.ref u,.ref v]) Q E s:=by
  refine callType_new F.called_zip (by decide) (F.typeCall_zip_2 _ _) (F.newCall_zip_2 _ _) (fun obj=>F.args_object_init_3 obj _ _) F.entry_zip_new (made u v us vs) ⟨hu,hv,?_⟩
  have z1:(g1 s.heap u).objs.size = s.heap.objs.size + 1:=Heap.size_push ..
  have z2:(g2 s.heap u v).objs.size = s.heap.objs.size + 2:=by rw [Heap.size_push,z1]
  have z3:(g3 s.heap u v).objs.size = s.heap.objs.size + 3:=by rw [Heap.size_push,z2]
  have z4:(g4 s.heap u v).objs.size = s.heap.objs.size + 4:=by rw [Heap.size_push,z3]
  have z5:(g5 s.heap u v).objs.size = s.heap.objs.size + 5:=by rw [Heap.size_push,z4]
  have up:∀ {h:Heap} {c:Addr} {o o':PySem.Obj},h.get? c = some o→(h.push o').get? c = some o:=fun e=>Heap.get?_push_of_some _ e
  have e5:(g5 s.heap u v).get? (g4 s.heap u v).objs.size = some _:=Heap.get?_push_size _ rfl
  have e4:(g5 s.heap u v).get? (g3 s.heap u v).objs.size = some _:=up (Heap.get?_push_size _ rfl)
  have e3:(g5 s.heap u v).get? (g2 s.heap u v).objs.size = some _:=up (up (Heap.get?_push_size _ rfl))
  have e2:(g5 s.heap u v).get? (g1 s.heap u).objs.size = some _:=up (up (up (Heap.get?_push_size _ rfl)))
  have e1:(g5 s.heap u v).get? s.heap.objs.size = some _:=up (up (up (up (Heap.get?_push_size _ rfl))))
  show _∧_
  rw [z2,z3,z4] at e5
  rw [z1,z2] at e3
  rw [z3] at e4
  rw [z1] at e2
  rw [z4]
  exact ⟨⟨_,e5,rfl⟩,k _ e5 e3 e4 ⟨_,e1,rfl,rfl⟩ ⟨_,e2,rfl,rfl⟩ z5 fun c o r=>up (up (up (up (up r))))⟩
end LZ
namespace L2
open PySem PySem.Spec PyProof.Rows
theorem Inv.turnedZ {X:Cx} {pins:List (Addr × Obj)} {σ:List (Option V)} {H:Hp} {s:Shared} {h':Heap} {t':Nat} {fp:List Addr} (I:Inv X pins σ H s) (k:∀ b o,b ∉ fp→s.heap.get? b = some o→h'.get? b = some o) (hf:∀ b ∈ fp,FpOk X pins H b):Inv X pins σ H { s with heap:=h',toks:=t' }:=by
  have nit:∀ b u,H b = some u→b ∉ fp:=fun b u e z=>by rw [(hf b z).1] at e; cases e
  refine I.step (g':=s.gens) (d':=s.drawn) (ch:=fp) (fun b hb=>?_) (fun b o _ _ hc e _=>k b o hc e) (fun b o _ _ hc e _=>⟨o.slots,k b o hc e⟩) (fun _ _ _ _ n=>n)
    (fun b o hc e=>⟨o,k b o hc e⟩) (fun _ _ e=>e) (fun _ _ _ e=>e) (fun b ps e=>⟨#[],by rw [e]; simp⟩) (fun m hm=>?_) (fun b u e=>?_) I.bare
  · obtain ⟨f0,f1,f2,f3,f4,f5⟩:=hf b hb
    exact ⟨f3,f1,f4,f5⟩
  · obtain ⟨o,es,ep,ho,r⟩:=hm
    exact ⟨o,es,ep,k _ o (fun z=>(hf _ z).2.1 rfl) ho,r⟩
  · refine (I.hok b u e).stay (fun c v hc q=>k c v ?_ q) (fun _ q=>q) fun _ _ q=>q
    rcases hc with z | z
    · rw [z]; exact nit b u e
    · exact nit c _ z
noncomputable def Izz (K:PySem.W.Frag) (u v:Addr) (xs ys:List V):It :=
  ⟨fun i H=>SqT K H u xs∧SqT K H v ys∧i < xs.length∧i < ys.length,
   fun i H w H'=>∃ p x y,H p = none∧w = .ref p∧H' = upd H p (.tup [x,y])∧xs[i]? = some x∧ys[i]? = some y,
   fun i H=>SqT K H u xs∧SqT K H v ys∧(xs.length ≤ i ∨ ys.length ≤ i)⟩
noncomputable def zipT (z a b p q u v:Addr) (i:Nat) (h:Heap):Prop:=IsZip h z a b .none∧IsPair h a (.ref p) (.ref q)∧(∃ c d,IsPair h b c d)∧h.IsTupleIter p u i∧h.IsTupleIter q v i
theorem turn_zipT {P:Program} {w:World} {K:PySem.W.Frag} {elts:List Expr} {x1:Nat} {tp:Pos} (z a b p q u v:Addr) (xs ys:List V) (ap:ZipApart z a b p q u v) :
    Turn P w K (.Tuple elts x1 tp) (Izz K u v xs ys) [z,a,b,p,q] z (zipT z a b p q u v) where
  mem:=by simp
  obj:=fun i h st c hc=>by
    obtain ⟨hz,ha,⟨_,_,hb⟩,⟨o1,e1,c1,d1⟩,⟨o2,e2,c2,d2⟩⟩:=st
    simp only [List.mem_cons,List.not_mem_nil,or_false] at hc
    rcases hc with rfl | rfl | rfl | rfl | rfl
    · exact ⟨_,hz,fun v q=>by cases q⟩
    · exact ⟨_,ha,fun v q=>by cases q⟩
    · exact ⟨_,hb,fun v q=>by cases q⟩
    · exact ⟨o1,e1,fun v q=>by rw [d1] at q; cases q⟩
    · exact ⟨o2,e2,fun v q=>by rw [d2] at q; cases q⟩
  keep:=fun i h h' st k=>by
    obtain ⟨hz,ha,⟨_,_,hb⟩,h1,h2⟩:=st
    exact ⟨k z (by simp) _ hz,k a (by simp) _ ha,⟨_,_,k b (by simp) _ hb⟩,h1.at fun o e=>k p (by simp) o e,h2.at fun o e=>k q (by simp) o e⟩
  item:=by
    intro X hP hw hK hc i pins s σ H E I hf st hg
    subst hP hw hK
    obtain ⟨hq1,hq2,l1,l2⟩:=hg
    obtain ⟨x,hx⟩:∃ x,xs[i]? = some x:=⟨_,List.getElem?_eq_getElem l1⟩
    obtain ⟨y,hy⟩:∃ y,ys[i]? = some y:=⟨_,List.getElem?_eq_getElem l2⟩
    have ho:∀ c ∈ [z,a,b,p,q],∃ o,s.heap.get? c = some o:=fun c hc=>by
      obtain ⟨hz,ha,⟨_,_,hb⟩,⟨o1,e1,_⟩,⟨o2,e2,_⟩⟩:=st
      simp only [List.mem_cons,List.not_mem_nil,or_false] at hc
      rcases hc with rfl | rfl | rfl | rfl | rfl
      · exact ⟨_,hz⟩
      · exact ⟨_,ha⟩
      · exact ⟨_,hb⟩
      · exact ⟨_,e1⟩
      · exact ⟨_,e2⟩
    obtain ⟨hz,ha,⟨_,_,hb⟩,hi1,hi2⟩:=st
    obtain ⟨its1,rv1,p1,_⟩:=I.tuple hq1
    obtain ⟨its2,rv2,p2,_⟩:=I.tuple hq2
    obtain ⟨m1,hm1,ru⟩:=rv1.get hx
    obtain ⟨m2,hm2,rv⟩:=rv2.get hy
    refine LZ.go ap hz ha hb hi1 hi2 p1 p2 (x:=m1) (y:=m2) (by simpa using hm1) (by simpa using hm2) fun h' z1 to1 j1 j2 pr sz kk=>?_
    refine ⟨_,rfl,wpAny_letOwnedTupleGo_zip (s:={ s with heap:=h' }) z1 fun h2 z2 sb=>?_⟩
    have hf0:H s.heap.objs.size = none:=I.hok.fresh (Nat.le_refl _)
    have I0:Inv X pins σ (upd H s.heap.objs.size (.tup [x,y])) { s with heap:=s.heap.push { cls:=.type "tuple",data:=.seq #[m1,m2] },toks:=s.toks } :=
      I.laid (t':=s.toks) (fun b o e=>Heap.get?_push_of_some _ e) (Nat.le_refl _) ⟨by show 2 ≤ sizeLine; decide,[m1,m2],.cons ru (.cons rv .nil),⟨_,Heap.get?_push_size _ rfl,rfl,_,rfl⟩⟩
    have neT:∀ c ∈ [z,a,b,p,q],c ≠ s.heap.objs.size:=fun c hc e=>by
      obtain ⟨o,r⟩:=ho c hc
      exact absurd (Heap.lt_size r) (by rw [e]; exact Nat.lt_irrefl _)
    have hf':∀ c ∈ [z,a,b,p,q],FpOk X pins (upd H s.heap.objs.size (.tup [x,y])) c:=fun c hc=>by
      obtain ⟨f0,f1,f2,f3,f4,f5⟩:=hf c hc
      exact ⟨by rw [upd_ne (neT c hc)]; exact f0,f1,f2,f3,f4,f5⟩
    have I1:Inv X pins σ (upd H s.heap.objs.size (.tup [x,y])) { s with heap:=h2,toks:=s.toks }:=by
      refine Inv.turnedZ (s:={ s with heap:=s.heap.push { cls:=.type "tuple",data:=.seq #[m1,m2] },toks:=s.toks }) (h':=h2) (t':=s.toks) (fp:=[z,a,b,p,q]) I0 (fun c o hc e=>?_) hf'
      replace e:(s.heap.push { cls:=.type "tuple",data:=.seq #[m1,m2] }).get? c = some o:=e
      simp only [List.mem_cons,List.not_mem_nil,or_false,not_or] at hc
      obtain ⟨b1,b2,b3,b4,b5⟩:=hc
      rw [sb.2 c b1]
      by_cases hT:c = s.heap.objs.size
      · subst hT
        have:(s.heap.push { cls:=.type "tuple",data:=.seq #[m1,m2] }).get? s.heap.objs.size = some { cls:=.type "tuple",data:=.seq #[m1,m2] }:=Heap.get?_push_size _ rfl
        rw [this] at e
        cases e
        exact pr
      · have e':s.heap.get? c = some o:=by
          rw [Heap.get?_push_ne _ _ _ hT] at e
          exact e
        exact kk c o b1 b3 b4 b5 e'
    refine ⟨.ref s.heap.objs.size,_,I1,rfl,⟨_,x,y,hf0,rfl,rfl,hx,hy⟩,⟨z2,?_,⟨m1,m2,?_⟩,?_,?_⟩,fun c hc=>(hf' c hc).1⟩
    · show h2.get? a = _
      rw [sb.2 a ap.TIz]
      exact kk a _ ap.TIz ap.TITO ap.TIi1 ap.TIi2 ha
    · show h2.get? b = _
      rw [sb.2 b ap.TOz]
      exact to1
    · exact j1.at fun o e=>(sb.2 p ap.i1z).trans e
    · exact j2.at fun o e=>(sb.2 q ap.i2z).trans e
  done:=by
    intro X hP hw hK hc i pins s σ H E I hf st hg
    subst hP hw hK
    obtain ⟨hq1,hq2,hl⟩:=hg
    obtain ⟨hz,ha,⟨_,_,hb⟩,hi1,hi2⟩:=st
    obtain ⟨its1,rv1,p1,_⟩:=I.tuple hq1
    obtain ⟨its2,rv2,p2,_⟩:=I.tuple hq2
    have l1:=rv1.length
    have l2:=rv2.length
    refine LZ.stop (I.ok.hd hc) ap hz ha hb hi1 hi2 p1 p2 (hl.elim (fun h=>.inl (by simp; omega)) (fun h=>.inr (by simp; omega))) fun h' kk=>⟨rfl,I.turnedZ (t':=s.toks) (fp:=[z,a,b,p,q]) (fun c o hc e=>?_) hf⟩
    simp only [List.mem_cons,List.not_mem_nil,or_false,not_or] at hc
    exact kk c o hc.1 hc.2.2.1 hc.2.2.2.1 hc.2.2.2.2 e
  self:=fun _ _ _ _ _ st h=>wpAny_pyIter_zip st.1 h
noncomputable def iZipT (K:PySem.W.Frag) (ta:TA):TI:=fun σ H R=>ta σ H fun vs H1=>∃ u v xs ys,vs = [.ref u,.ref v]∧SqT K H1 u xs∧SqT K H1 v ys∧R (Izz K u v xs ys) H1
theorem boot_zip:bootBuiltins "zip" = some (.type "zip"):=by rfl
theorem zip_apart {n a b:Nat} (h1:a < n) (h2:b < n):ZipApart (n + 4) (n + 2) (n + 3) n (n + 1) a b:=by
  constructor<;>(intro e; replace e:@Eq Nat _ _:=e; omega)
theorem pi_zipT {X:Cx} {a b:Expr} {ta:TA} {p pos:Pos} {elts:List Expr} {x1:Nat} {tp:Pos} (hg:Gl X "zip") (hm:X.mg "zip" = none) (ha:PA X [a,b] ta) (hs:starEach [a,b] X.env = [(false,eval a X.env),(false,eval b X.env)]) (hs2:starEach [b] X.env = [(false,eval b X.env)]) :
    PI X (.Tuple elts x1 tp) (.Call (.Name "zip" p) [a,b] [] pos) (iZipT X.K ta):=by
  intro pins s σ H R I h
  refine Call_ (ld_blt I hg hm boot_zip (PyProof.Rows.callWith_type1 (thn (ha pos pins s σ H _ I h) fun us s1 ⟨vs,H1,I1,r1,q1⟩=>?_) (by rw [hs,hs2]) (by rw [hs2]; rfl)))
  obtain ⟨u,v,xs,ys,e,hq1,hq2,q⟩:=q1
  subst e
  cases r1 with
  | cons r rr =>
    cases rr with
    | cons r' rr =>
      cases rr
      cases r
      cases r'
      obtain ⟨its1,rv1,p1,_⟩:=I1.tuple hq1
      obtain ⟨its2,rv2,p2,_⟩:=I1.tuple hq2
      have lt1:u < s1.heap.objs.size:=by obtain ⟨o,e,_⟩:=id p1; exact Heap.lt_size e
      have lt2:v < s1.heap.objs.size:=by obtain ⟨o,e,_⟩:=id p2; exact Heap.lt_size e
      refine LZ.new p1 p2 fun h' z1 ti to j1 j2 sz kk=>?_
      refine wpAny_pyIter_zip (s:={ s1 with heap:=h' }) z1 ?_
      have ap:ZipApart (s1.heap.objs.size + 4) (s1.heap.objs.size + 2) (s1.heap.objs.size + 3) s1.heap.objs.size (s1.heap.objs.size + 1) u v:=zip_apart lt1 lt2
      refine ⟨s1.heap.objs.size + 4,_,_,_,H1,rfl,I1.kept (t':=s1.toks) kk,turn_zipT _ _ _ _ _ u v xs ys ap,⟨z1,ti,⟨_,_,to⟩,j1,j2⟩,fun b hb=>?_,q⟩
      have hb':s1.heap.objs.size ≤ b:=by
        simp only [List.mem_cons,List.not_mem_nil,or_false] at hb
        rcases hb with rfl | rfl | rfl | rfl | rfl
        · exact Nat.le_add_right _ _
        · exact Nat.le_add_right _ _
        · exact Nat.le_add_right _ _
        · exact Nat.le_refl _
        · exact Nat.le_add_right _ _
      exact I1.fpOk hb' (I1.hok.fresh hb')
end L2
namespace Mi
open PySem L2
inductive D where
  | non | bl (b:Bool) | int (i:Int) | str (x:Str) | tup (ds:List D) | loc (l:Nat) | kl (ds:List D)
  deriving Inhabited
inductive Obj where
  | lst (ds:List D) | dct (kvs:List (Int × D)) | ins (c:String) (fs:List (String × D))
  deriving Inhabited
noncomputable abbrev Store:=List Obj
noncomputable abbrev En:=List (Option D)
inductive Res (α:Type) where
  | ok (a:α) (S:Store) | err (c:String) (τ:En) (S:Store) | bad
noncomputable def Res.bind {α β:Type} (r:Res α) (f:α→Store→Res β):Res β:=match r with
  | .ok a S=>f a S
  | .err c τ S=>.err c τ S
  | .bad=>.bad
@[simp] theorem Res.bind_ok {α β:Type} (a:α) (S:Store) (f:α→Store→Res β):(Res.ok a S).bind f = f a S:=rfl
@[simp] theorem Res.bind_err {α β:Type} (c:String) (τ:En) (S:Store) (f:α→Store→Res β):(Res.err c τ S:Res α).bind f = .err c τ S:=rfl
@[simp] theorem Res.bind_bad {α β:Type} (f:α→Store→Res β):(Res.bad:Res α).bind f = .bad:=rfl
theorem Res.bind_eq_ok {α β:Type} {r:Res α} {f:α→Store→Res β} {b:β} {S':Store} (h:r.bind f = .ok b S'):∃ a S,r = .ok a S∧f a S = .ok b S':=by
  cases r with
  | ok a S=>exact ⟨a,S,rfl,h⟩
  | err c τ S=>cases h
  | bad=>cases h
noncomputable def Line:Nat:=16777216
inductive Bop where | add | sub | mul | fdiv | mod | pow deriving DecidableEq
inductive Cop where | eq | ne | lt | le | gt | ge | inn | nin deriving DecidableEq
inductive Prim where | len | abs | min2 | max2 | int1 | str1 | list1 | tuple1 | divmod | all1 | any1 deriving DecidableEq
inductive Meth where | append | pop0 | starts | split1 | join1 | split2 deriving DecidableEq
noncomputable def scalV:D→Option V
  | .non=>some .non
  | .bl b=>some (.bl b)
  | .int i=>some (.int i)
  | .str x=>some (.str x)
  | _=>none
noncomputable def seqAt (S:Store) (l:Nat):Option (List D):=match S[l]? with
  | some (.lst ds)=>some ds
  | _=>none
noncomputable def dctAt (S:Store) (l:Nat):Option (List (Int × D)):=match S[l]? with
  | some (.dct kvs)=>some kvs
  | _=>none
noncomputable def dRd (S:Store) (l:Nat):Option (List (Int × D)):=match S[l]? with
  | some (.dct kvs)=>some kvs
  | _=>none
noncomputable def dVal (kvs:List (Int × D)) (k:Int):Option D:=(kvs.find? fun p=>decide (p.1 = k)).map (·.2)
noncomputable def dPut (kvs:List (Int × D)) (k:Int) (v:D):List (Int × D):=if kvs.any (fun p=>decide (p.1 = k)) = true then kvs.map (fun p=>if p.1 = k then (p.1,v) else p) else kvs ++ [(k,v)]
noncomputable def rcv (S:Store) (x:D):Bool:=match x with | .loc l=>(seqAt S l).isSome | _=>true
noncomputable def putD (f:String) (v:D):List (String × D)→List (String × D)
  | []=>[(f,v)]
  | p :: r=>if p.1 = f then (p.1,v) :: r else p :: putD f v r
noncomputable def ltP (x y:D):Option Bool:=match x,y with
  | .tup [.int a,.int b],.tup [.int c,.int d]=>some (decide (a < c) || (decide (a = c) && decide (b < d)))
  | _,_=>none
noncomputable def dIn (x y:D) (S:Store):Option Bool:=match x with
  | .int i=>match y with
    | .loc l=>match dRd S l with | some kvs=>some (dVal kvs i).isSome | none=>none
    | _=>none
  | _=>none
noncomputable def eqL (f:D→D→Option Bool):List D→List D→Option Bool
  | [],[]=>some true
  | a :: as,b :: bs=>match f a b,eqL f as bs with
    | some x,some y=>some (x && y)
    | _,_=>none
  | _,_=>some false
noncomputable def eqD (S:Store):Nat→D→D→Option Bool
  | 0,a,b=>match scalV a,scalV b with
    | some x,some y=>some (eqV x y)
    | _,_=>none
  | n + 1,a,b=>match a,b with
    | .tup as,.tup bs=>if as.length = bs.length then eqL (eqD S n) as bs else (if (eqL (eqD S n) (as.take bs.length) (bs.take as.length)).isSome then some false else none)
    | .loc l,.loc k=>match seqAt S l,seqAt S k with
      | some as,some bs=>if as.length = bs.length then eqL (eqD S n) as bs else some false
      | _,_=>none
    | a,b=>match scalV a,scalV b with
      | some x,some y=>some (eqV x y)
      | _,_=>none
noncomputable def Deep:Nat:=12
noncomputable def anyEq (S:Store) (n:Nat) (x:D):List D→Option Bool
  | []=>some false
  | y :: ys=>match eqD S n y x,anyEq S n x ys with
    | some a,some b=>some (a || b)
    | _,_=>none
noncomputable def small (i:Int):Bool:=decide (-(2 ^ 64) < i) && decide (i < 2 ^ 64)
noncomputable def mid (i:Int):Bool:=decide (i.natAbs < 2 ^ 4096)
noncomputable def bop (o:Bop) (x y:D) (S:Store):Res D:=match o,x,y with
  | .add,.int i,.int j=>.ok (.int (i + j)) S
  | .add,.str a,.str b=>if a.length + b.length ≤ Line then .ok (.str (a ++ b)) S else .bad
  | .add,.tup a,.tup b=>if a.length + b.length ≤ Line then .ok (.tup (a ++ b)) S else .bad
  | .add,.loc l,.loc k=>match S[l]?,S[k]? with
    | some (.lst a),some (.lst b)=>if a.length + b.length ≤ Line then .ok (.loc S.length) (S ++ [.lst (a ++ b)]) else .bad
    | _,_=>.bad
  | .sub,.int i,.int j=>.ok (.int (i - j)) S
  | .mul,.int i,.int j=>if small i || small j || (mid i && mid j) then .ok (.int (i * j)) S else .bad
  | .mul,.str a,.int k=>if decide (1 < k) && decide (k ≤ 1000) && decide (1 ≤ a.length) && decide (a.length ≤ 1000) then .ok (.str (Txt.mul a k)) S else .bad
  | .mul,.tup a,.int k=>if decide (-(2 ^ 63) ≤ k) && decide (k < 2 ^ 63) && decide (a.length * k.toNat ≤ Line) then .ok (.tup (List.replicate k.toNat a).flatten) S else .bad
  | .mul,.loc l,.int k=>match S[l]? with
    | some (.lst a)=>if decide (-(2 ^ 63) ≤ k) && decide (k < 2 ^ 63) && decide (a.length * k.toNat ≤ Line) then .ok (.loc S.length) (S ++ [.lst (List.replicate k.toNat a).flatten]) else .bad
    | _=>.bad
  | .fdiv,.int i,.int j=>if 0 < j∧j.natAbs < 2 ^ 4096 then .ok (.int (i / j)) S else .bad
  | .mod,.int i,.int j=>if 0 < j then .ok (.int (i % j)) S else .bad
  | .pow,.int i,.int j=>if decide (0 ≤ j) && decide (j ≤ 1000000) && decide (i.natAbs < 2 ^ 64) then .ok (.int (i ^ j.toNat)) S else .bad
  | .add,.kl a,.loc k=>match S[k]? with
    | some (.lst b)=>if a.length + b.length ≤ Line then .ok (.loc S.length) (S ++ [.lst (a ++ b)]) else .bad
    | _=>.bad
  | _,_,_=>.bad
noncomputable def seqOf (S:Store):D→Option (List D)
  | .tup ds=>some ds
  | .loc l=>seqAt S l
  | .kl ds=>some ds
  | _=>none
noncomputable def cop (o:Cop) (x y:D) (S:Store):Option Bool:=match o with
  | .eq=>eqD S Deep x y
  | .ne=>(eqD S Deep x y).map (!·)
  | .lt=>match x,y with | .int i,.int j=>some (decide (i < j)) | _,_=>none
  | .le=>match x,y with | .int i,.int j=>some (decide (i ≤ j)) | _,_=>none
  | .gt=>match x,y with | .int i,.int j=>some (decide (j < i)) | _,_=>none
  | .ge=>match x,y with | .int i,.int j=>some (decide (j ≤ i)) | _,_=>none
  | .inn=>match seqOf S y with | some ds=>anyEq S Deep x ds | none=>match x,y with | .str a,.str b=>some (!(Builtin.Str.occurrences b a 0 b.length 1).isEmpty) | x,y=>dIn x y S
  | .nin=>match seqOf S y with | some ds=>(anyEq S Deep x ds).map (!·) | none=>(dIn x y S).map (!·)
noncomputable def tru (S:Store):D→Option Bool
  | .non=>some false
  | .bl b=>some b
  | .int i=>some (i != 0)
  | .str x=>if x.length ≤ Line then some ((x.length:Int) != 0) else none
  | .tup ds=>some (!ds.isEmpty)
  | .loc l=>match seqAt S l with | some ds=>some (!ds.isEmpty) | none=>none
  | .kl ds=>some (!ds.isEmpty)
noncomputable def idxD (x y:D) (S:Store):Option D:=match y with
  | .int i=>match seqOf S x with
    | some ds=>atI ds i
    | none=>match x with
      | .str z=>if z.length ≤ Line then (atI z.cps.toList i).map fun c=>.str ⟨#[c]⟩ else none
      | .loc l=>match dRd S l with | some kvs=>dVal kvs i | none=>none
      | _=>none
  | _=>none
noncomputable def cutD (xs:List D) (lo hi:Option Int):List D:=(xs.drop (HT.sIx xs.length 0 lo)).take (HT.sIx xs.length xs.length hi - HT.sIx xs.length 0 lo)
noncomputable def cutS (x:Str) (lo hi:Option Int):Str:=if (Builtin.Str.strSliceIndices lo hi 1 x.length).length == x.length then x else ⟨((Builtin.Str.strSliceIndices lo hi 1 x.length).filterMap (x.cps[·]?)).toArray⟩
noncomputable def sliD (x:D) (lo hi:Option Int) (S:Store):Res D:=match x with
  | .tup ds=>.ok (.tup (cutD ds lo hi)) S
  | .loc l=>match seqAt S l with
    | some ds=>.ok (.loc S.length) (S ++ [.lst (cutD ds lo hi)])
    | none=>.bad
  | .str x=>if (cutS x lo hi).length ≤ Line then .ok (.str (cutS x lo hi)) S else .bad
  | .kl ds=>.ok (.loc S.length) (S ++ [.lst (cutD ds lo hi)])
  | _=>.bad
noncomputable def tyD (S:Store):D→Option String
  | .non=>some "NoneType"
  | .bl _=>some "bool"
  | .int _=>some "int"
  | .str _=>some "str"
  | .tup _=>some "tuple"
  | .loc l=>match S[l]? with | some (.lst _)=>some "list" | _=>none
  | .kl _=>none
noncomputable def isiD (t c:String):Bool:=t == c || (t == "bool" && c == "int")
noncomputable def isT:D→Bool
  | .bl b=>b
  | _=>false
noncomputable def allB:List D→Option Bool
  | []=>some true
  | .bl b :: r=>(allB r).map (b && ·)
  | _=>none
noncomputable def primD (p:Prim) (ds:List D) (S:Store):Res D:=match p,ds with
  | .len,[x]=>match seqOf S x with
    | some ds=>.ok (.int ds.length) S
    | none=>match x with | .str z=>if z.length ≤ Line then .ok (.int z.length) S else .bad | _=>.bad
  | .abs,[.int i]=>.ok (.int (if i < 0 then -i else i)) S
  | .max2,[.int i,.int j]=>.ok (.int (if j > i then j else i)) S
  | .min2,[.int i,.int j]=>.ok (.int (if j < i then j else i)) S
  | .int1,[.int i]=>.ok (.int i) S
  | .int1,[.bl b]=>.ok (.int (if b then 1 else 0)) S
  | .int1,[.str x]=>match intText? x with | some n=>if x.length ≤ 640 then .ok (.int n) S else .bad | none=>.bad
  | .str1,[.int i]=>if i.natAbs < 2 ^ 1900 then .ok (.str (toString i)) S else .bad
  | .list1,[x]=>match seqOf S x with
    | some ds=>.ok (.loc S.length) (S ++ [.lst ds])
    | none=>match x with
      | .loc l=>match dctAt S l with | some kvs=>.ok (.loc S.length) (S ++ [.lst (kvs.map fun p=>.int p.1)]) | none=>.bad
      | _=>.bad
  | .tuple1,[x]=>match seqOf S x with
    | some ds=>.ok (.tup ds) S
    | none=>.bad
  | .divmod,[.int i,.int j]=>if 0 < j∧j.natAbs < 2 ^ 4096 then .ok (.tup [.int (i / j),.int (i % j)]) S else .bad
  | .any1,[x]=>match seqOf S x with | some ds=>(match allB ds with | some _=>.ok (.bl (ds.any isT)) S | none=>.bad) | none=>.bad
  | .all1,[x]=>match seqOf S x with | some ds=>(match allB ds with | some b=>.ok (.bl b) S | none=>.bad) | none=>.bad
  | _,_=>.bad
noncomputable def strsD:List D→Option (List Str)
  | []=>some []
  | .str x :: r=>(strsD r).map (x :: ·)
  | _=>none
theorem strsD_inv:∀ {ds:List D} {ts:List Str},strsD ds = some ts→ds = ts.map D.str
  | [],ts,h=>by cases h; rfl
  | d :: r,ts,h=>by
    cases d<;>try (cases (show (none:Option (List Str)) = some ts from h); done)
    rename_i x
    obtain ⟨us,h1,rfl⟩:=Option.map_eq_some_iff.mp (show (strsD r).map (x :: ·) = some ts from h)
    rw [strsD_inv h1]
    rfl
theorem strsD_map:∀ ts:List Str,strsD (ts.map D.str) = some ts
  | []=>rfl
  | x :: r=>by
    show (strsD (r.map D.str)).map (x :: ·) = _
    rw [strsD_map r]
    rfl
noncomputable def methD (p:Meth) (o:D) (ds:List D) (S:Store):Res D:=match p,o,ds with
  | .append,.loc l,[y]=>match S[l]? with
    | some (.lst xs)=>if xs.length < Line then .ok .non (S.set l (.lst (xs ++ [y]))) else .bad
    | _=>.bad
  | .pop0,.loc l,[]=>match S[l]? with
    | some (.lst xs)=>match xs[xs.length - 1]? with
      | some y=>.ok y (S.set l (.lst xs.dropLast))
      | none=>.bad
    | _=>.bad
  | .starts,.str x,[.str y]=>.ok (.bl (Txt.startswith x y)) S
  | .split1,.str x,[.str y]=>if !(y.length == 0) && decide (x.length ≤ Line) && decide ((Builtin.Str.partsBetween x (Builtin.Str.occurrences x y 0 x.length (x.length + 1)) y.length).length ≤ Line) then .ok (.loc S.length) (S ++ [.lst ((Txt.split x y).map D.str)]) else .bad
  | .join1,.str x,[.loc l]=>match S[l]? with | some (.lst ds)=>(match strsD ds with | some ts=>if JoinOk x ts then .ok (.str (Txt.join x ts)) S else .bad | none=>.bad) | _=>.bad
  | .split2,.str x,[.str y,.int k]=>if decide (0 < k) && decide (k < 1000) && !(decide (x.length < y.length) || decide (Builtin.Str.strKind x < Builtin.Str.strKind y)) && !(y.length == 0) && !(Builtin.Str.occurrences x y 0 x.length (limitOf x k)).isEmpty && decide (x.length ≤ Line) && decide ((Builtin.Str.partsBetween x (Builtin.Str.occurrences x y 0 x.length (limitOf x k)) y.length).length ≤ Line) then .ok (.loc S.length) (S ++ [.lst ((Builtin.Str.partsBetween x (Builtin.Str.occurrences x y 0 x.length (limitOf x k)) y.length).map D.str)]) else .bad
  | _,_,_=>.bad
inductive M where
  | nul | cns (a b:M)
  | cst (d:D) | var (i:Nat) | glb (x:String)
  | bin (o:Bop) (a b:M) | neg (a:M) | nott (a:M) | bo (w:Bool) (as:M)
  | cmp (o:Cop) (a b:M) | cmp2 (o p:Cop) (a b c:M) | ife (c a b:M)
  | tup (as:M) | lst (as:M) | idx (a b:M) | sli (a lo hi:M)
  | call (f:String) (as:M) | prim (p:Prim) (as:M) | isi (a:M) (t:String) | meth (p:Meth) (o as:M)
  | comp (N:List String) (k:Nat) (keep:List Nat) (tg it cd el:M)
  | rng (a:M) | enm (a:M) | zp (a b:M)
  | dnil
  | tvar (i:Nat) | ttup (ts:M) | tsub (a b:M)
  | asg (t e:M) | ifs (c a b:M) | forr (t i b:M) | whl (c b:M) | ret (e:M) | exp (e:M) | rse
inductive Fl where
  | nx (τ:En) | rt (d:D) | bk (τ:En) | ct (τ:En)
structure Pr where
  call:String→List D→Store→Res D
  glob:String→Option D
  W:Nat
noncomputable def setS (o i v:D) (S:Store):Res Unit:=match o,i with
  | .loc l,.int k=>match S[l]? with
    | some (.lst xs)=>match ixN xs.length k with
      | some j=>.ok () (S.set l (.lst (xs.set j v)))
      | none=>.bad
    | some (.dct kvs)=>if kvs.length < Line then .ok () (S.set l (.dct (dPut kvs k v))) else .bad
    | _=>.bad
  | _,_=>.bad
inductive Kd where | lst | enm
noncomputable abbrev Wk:=Option (Nat × Kd)
noncomputable def sameAt (S:Store) (g:Wk) (n:Nat):Bool:=match g with
  | none=>true
  | some (l,_)=>match S[l]? with
    | some (.lst ds)=>ds.length == n
    | _=>false
noncomputable def nth (S:Store) (g:Wk) (ds:List D) (i:Nat):Option D:=match g with
  | none=>ds[i]?
  | some (l,.enm)=>match seqAt S l with
    | some es=>(es[i]?).map fun x=>.tup [.int i,x]
    | none=>none
  | some (l,.lst)=>match seqAt S l with
    | some es=>es[i]?
    | none=>none
noncomputable def forL (turn:D→En→Store→Res Fl) (g:Wk) (ds:List D):Nat→Nat→En→Store→Res Fl
  | 0,i,τ,S=>if sameAt S g ds.length then .ok (.nx τ) S else .bad
  | f + 1,i,τ,S=>if sameAt S g ds.length then (match nth S g ds i with
      | none=>.bad
      | some d=>(turn d τ S).bind fun fl S1=>match fl with
        | .nx τ1=>forL turn g ds f (i + 1) τ1 S1
        | .ct τ1=>forL turn g ds f (i + 1) τ1 S1
        | .bk τ1=>.ok (.nx τ1) S1
        | .rt d=>.ok (.rt d) S1) else .bad
noncomputable def compL (turn:D→En→Store→Res (Option D)) (g:Wk) (ds:List D):Nat→Nat→En→Store→List D→Res (List D)
  | 0,i,τ,S,acc=>if sameAt S g ds.length then .ok acc S else .bad
  | f + 1,i,τ,S,acc=>if sameAt S g ds.length then (match nth S g ds i with
      | none=>.bad
      | some d=>(turn d τ S).bind fun o S1=>match o with
        | some y=>if acc.length < Line then compL turn g ds f (i + 1) τ S1 (acc ++ [y]) else .bad
        | none=>compL turn g ds f (i + 1) τ S1 acc) else .bad
noncomputable def whlL (test:En→Store→Res Bool) (body:En→Store→Res Fl):Nat→En→Store→Res Fl
  | 0,_,_=>.bad
  | n + 1,τ,S=>(test τ S).bind fun b S1=>if b then (body τ S1).bind fun fl S2=>match fl with
      | .nx τ1=>whlL test body n τ1 S2
      | .ct τ1=>whlL test body n τ1 S2
      | .bk τ1=>.ok (.nx τ1) S2
      | .rt d=>.ok (.rt d) S2 else .ok (.nx τ) S1
noncomputable def inEn (k:Nat) (keep:List Nat) (τ:En):En:=List.replicate k none ++ keep.map fun i=>(τ[i]?).join
mutual
noncomputable def evE (C:Pr):M→En→Store→Res D
  | .cst d,_,S=>.ok d S
  | .var i,τ,S=>match τ[i]? with | some (some d)=>.ok d S | _=>.bad
  | .glb x,_,S=>match C.glob x with | some d=>.ok d S | none=>.bad
  | .bin o a b,τ,S=>(evE C a τ S).bind fun x S1=>(evE C b τ S1).bind fun y S2=>bop o x y S2
  | .neg a,τ,S=>(evE C a τ S).bind fun x S1=>match x with | .int i=>.ok (.int (-i)) S1 | _=>.bad
  | .nott a,τ,S=>(evE C a τ S).bind fun x S1=>match tru S1 x with | some b=>.ok (.bl (!b)) S1 | none=>.bad
  | .bo w as,τ,S=>evBV C w as τ S
  | .cmp o a b,τ,S=>(evE C a τ S).bind fun x S1=>(evE C b τ S1).bind fun y S2=>match cop o x y S2 with | some k=>.ok (.bl k) S2 | none=>.bad
  | .cmp2 o p a b c,τ,S=>(evE C a τ S).bind fun x S1=>(evE C b τ S1).bind fun y S2=>match cop o x y S2 with
    | some true=>(evE C c τ S2).bind fun z S3=>(match cop p y z S3 with | some k=>.ok (.bl k) S3 | none=>.bad)
    | some false=>.ok (.bl false) S2
    | none=>.bad
  | .ife c a b,τ,S=>(evT C c τ S).bind fun k S1=>if k then evE C a τ S1 else evE C b τ S1
  | .tup as,τ,S=>(evA C as τ S).bind fun ds S1=>if ds.length ≤ Line then .ok (.tup ds) S1 else .bad
  | .lst as,τ,S=>(evA C as τ S).bind fun ds S1=>if ds.length ≤ Line then .ok (.loc S1.length) (S1 ++ [.lst ds]) else .bad
  | .idx a b,τ,S=>(evE C a τ S).bind fun x S1=>(evE C b τ S1).bind fun y S2=>match idxD x y S2 with | some d=>.ok d S2 | none=>.bad
  | .sli a lo hi,τ,S=>(evE C a τ S).bind fun x S1=>(evO C lo τ S1).bind fun l S2=>(evO C hi τ S2).bind fun h S3=>sliD x l h S3
  | .call f as,τ,S=>(evA C as τ S).bind fun ds S1=>C.call f ds S1
  | .prim p as,τ,S=>(evA C as τ S).bind fun ds S1=>primD p ds S1
  | .isi a t,τ,S=>(evE C a τ S).bind fun x S1=>match tyD S1 x with | some y=>.ok (.bl (isiD y t)) S1 | none=>.bad
  | .meth p o as,τ,S=>(evE C o τ S).bind fun x S1=>if rcv S1 x then (evA C as τ S1).bind fun ds S2=>methD p x ds S2 else .bad
  | .comp N k keep tg it cd el,τ,S=>(evI C it τ S).bind fun w S1 =>
      (compL (fun d τ1 S2=>(evG C tg d τ1 S2).bind fun τ2 S3=>(evC C cd τ2 S3).bind fun b S4=>if b then (evE C el τ2 S4).bind fun y S5=>.ok (some y) S5 else .ok none S4) w.1 w.2 w.2.length 0 (inEn k keep τ) S1 []).bind
        fun ys S6=>.ok (.loc S6.length) (S6 ++ [.lst ys])
  | .dnil,_,S=>.ok (.loc S.length) (S ++ [.dct []])
  | _,_,_=>.bad
noncomputable def evT (C:Pr):M→En→Store→Res Bool
  | .nott a,τ,S=>(evT C a τ S).bind fun b S1=>.ok (!b) S1
  | .bo w as,τ,S=>evBT C w as τ S
  | .cmp o a b,τ,S=>(evE C a τ S).bind fun x S1=>(evE C b τ S1).bind fun y S2=>match cop o x y S2 with | some k=>.ok k S2 | none=>.bad
  | .cmp2 o p a b c,τ,S=>(evE C a τ S).bind fun x S1=>(evE C b τ S1).bind fun y S2=>match cop o x y S2 with
    | some true=>(evE C c τ S2).bind fun z S3=>(match cop p y z S3 with | some k=>.ok k S3 | none=>.bad)
    | some false=>.ok false S2
    | none=>.bad
  | .var i,τ,S=>match τ[i]? with | some (some d)=>(match tru S d with | some b=>.ok b S | none=>.bad) | _=>.bad
  | .idx a b,τ,S=>(evE C a τ S).bind fun x S1=>(evE C b τ S1).bind fun y S2=>match idxD x y S2 with | some d=>(match tru S2 d with | some b=>.ok b S2 | none=>.bad) | none=>.bad
  | .call f as,τ,S=>(evA C as τ S).bind fun ds S1=>(C.call f ds S1).bind fun d S2=>match tru S2 d with | some b=>.ok b S2 | none=>.bad
  | .prim p as,τ,S=>(evA C as τ S).bind fun ds S1=>(primD p ds S1).bind fun d S2=>match tru S2 d with | some b=>.ok b S2 | none=>.bad
  | .isi a t,τ,S=>(evE C a τ S).bind fun x S1=>match tyD S1 x with | some y=>.ok (isiD y t) S1 | none=>.bad
  | .meth p o as,τ,S=>(evE C o τ S).bind fun x S1=>if rcv S1 x then (evA C as τ S1).bind fun ds S2=>(methD p x ds S2).bind fun d S3=>match tru S3 d with | some b=>.ok b S3 | none=>.bad else .bad
  | _,_,_=>.bad
noncomputable def evBV (C:Pr) (w:Bool):M→En→Store→Res D
  | .cns a .nul,τ,S=>evE C a τ S
  | .cns a r,τ,S=>(evE C a τ S).bind fun x S1=>match x with | .bl c=>if c = w then evBV C w r τ S1 else .ok (.bl (!w)) S1 | _=>.bad
  | _,_,_=>.bad
noncomputable def evBT (C:Pr) (w:Bool):M→En→Store→Res Bool
  | .cns a .nul,τ,S=>evT C a τ S
  | .cns a r,τ,S=>(evT C a τ S).bind fun c S1=>if c = w then evBT C w r τ S1 else .ok (!w) S1
  | _,_,_=>.bad
noncomputable def evC (C:Pr):M→En→Store→Res Bool
  | .nul,_,S=>.ok true S
  | .cns c .nul,τ,S=>evT C c τ S
  | _,_,_=>.bad
noncomputable def evA (C:Pr):M→En→Store→Res (List D)
  | .nul,_,S=>.ok [] S
  | .cns a b,τ,S=>(evE C a τ S).bind fun x S1=>(evA C b τ S1).bind fun xs S2=>.ok (x :: xs) S2
  | _,_,_=>.bad
noncomputable def evO (C:Pr):M→En→Store→Res (Option Int)
  | .nul,_,S=>.ok none S
  | .cns a .nul,τ,S=>(evE C a τ S).bind fun x S1=>match x with | .int i=>.ok (some i) S1 | _=>.bad
  | _,_,_=>.bad
noncomputable def evI (C:Pr):M→En→Store→Res (Wk × List D)
  | .rng a,τ,S=>(evE C a τ S).bind fun x S1=>match x with
    | .int j=>if decide (-(2 ^ 62) ≤ j) && decide (j < 2 ^ 62) then .ok (none,(List.range j.toNat).map fun (i:Nat)=>.int i) S1 else .bad
    | _=>.bad
  | .cns a .nul,τ,S=>(evE C a τ S).bind fun x S1=>match x with
    | .tup ds=>.ok (none,ds) S1
    | .kl ds=>.ok (none,ds) S1
    | .str z=>.ok (none,z.cps.toList.map fun c=>.str ⟨#[c]⟩) S1
    | .loc l=>(match seqAt S1 l with | some ds=>.ok (some (l,.lst),ds) S1 | none=>.bad)
    | _=>.bad
  | .zp a b,τ,S=>(evE C a τ S).bind fun x S1=>(evE C b τ S1).bind fun y S2=>match x,y with | .tup ds,.tup es=>.ok (none,(ds.zip es).map fun p=>.tup [p.1,p.2]) S2 | _,_=>.bad
  | .enm a,τ,S=>(evE C a τ S).bind fun x S1=>match x with
    | .loc l=>(match seqAt S1 l with | some ds=>.ok (some (l,.enm),ds) S1 | none=>.bad)
    | _=>.bad
  | _,_,_=>.bad
noncomputable def evG (C:Pr):M→D→En→Store→Res En
  | .tvar i,d,τ,S=>if i < τ.length then .ok (τ.set i (some d)) S else .bad
  | .ttup ts,d,τ,S=>match d with | .tup ds=>evGs C ts ds τ S | _=>.bad
  | .tsub a b,d,τ,S=>(evE C a τ S).bind fun o S1=>(evE C b τ S1).bind fun i S2=>(setS o i d S2).bind fun _ S3=>.ok τ S3
  | _,_,_,_=>.bad
noncomputable def evGs (C:Pr):M→List D→En→Store→Res En
  | .nul,ds,τ,S=>match ds with | []=>.ok τ S | _=>.bad
  | .cns t ts,ds,τ,S=>match ds with | d :: r=>(evG C t d τ S).bind fun τ1 S1=>evGs C ts r τ1 S1 | []=>.bad
  | _,_,_,_=>.bad
noncomputable def evS (C:Pr):M→En→Store→Res Fl
  | .asg t e,τ,S=>(evE C e τ S).bind fun d S1=>(evG C t d τ S1).bind fun τ1 S2=>.ok (.nx τ1) S2
  | .ifs c a b,τ,S=>(evT C c τ S).bind fun k S1=>if k then evB C a τ S1 else evB C b τ S1
  | .forr t i b,τ,S=>(evI C i τ S).bind fun w S1=>forL (fun d τ1 S2=>(evG C t d τ1 S2).bind fun τ2 S3=>evB C b τ2 S3) w.1 w.2 w.2.length 0 τ S1
  | .whl c b,τ,S=>whlL (evT C c) (evB C b) C.W τ S
  | .ret e,τ,S=>(evE C e τ S).bind fun d S1=>.ok (.rt d) S1
  | .exp e,τ,S=>(evE C e τ S).bind fun _ S1=>.ok (.nx τ) S1
  | _,_,_=>.bad
noncomputable def evB (C:Pr):M→En→Store→Res Fl
  | .nul,τ,S=>.ok (.nx τ) S
  | .cns s r,τ,S=>(evS C s τ S).bind fun fl S1=>match fl with
    | .nx τ1=>evB C r τ1 S1
    | .rt d=>.ok (.rt d) S1
    | .bk τ1=>.ok (.bk τ1) S1
    | .ct τ1=>.ok (.ct τ1) S1
  | _,_,_=>.bad
end
structure Fn where
  ps:List String
  N:List String
  body:M
noncomputable abbrev Tb:=String→Option Fn
noncomputable def callN (T:Tb) (G:String→Option D) (W:Nat):Nat→String→List D→Store→Res D
  | 0,_,_,_=>.bad
  | n + 1,f,ds,S=>match T f with
    | none=>.bad
    | some F=>if ds.length = F.ps.length then (evB ⟨callN T G W n,G,W⟩ F.body (ds.map some ++ List.replicate (F.N.length - ds.length) none) S).bind fun fl S1=>match fl with
        | .rt d=>.ok d S1
        | .nx _=>.ok .non S1
        | _=>.bad
      else .bad
theorem bad_ne {α:Type} {d:α} {S:Store}:¬ (Res.bad:Res α) = .ok d S:=nofun
theorem rbop_0:bop (.add) (.int i) (.int j) S = (.ok (.int (i + j)) S):=rfl
theorem rbop_1:bop (.add) (.str a) (.str b) S = (if a.length + b.length ≤ Line then .ok (.str (a ++ b)) S else .bad):=rfl
theorem rbop_2:bop (.add) (.tup a) (.tup b) S = (if a.length + b.length ≤ Line then .ok (.tup (a ++ b)) S else .bad):=rfl
theorem rbop_3:bop (.add) (.loc l) (.loc k) S = (match S[l]?,S[k]? with
    | some (.lst a),some (.lst b)=>if a.length + b.length ≤ Line then .ok (.loc S.length) (S ++ [.lst (a ++ b)]) else .bad
    | _,_=>.bad):=rfl
theorem rbop_4:bop (.sub) (.int i) (.int j) S = (.ok (.int (i - j)) S):=rfl
theorem rbop_5:bop (.mul) (.int i) (.int j) S = (if small i || small j || (mid i && mid j) then .ok (.int (i * j)) S else .bad):=rfl
theorem rbop_13:bop (.mul) (.str a) (.int k) S = (if decide (1 < k) && decide (k ≤ 1000) && decide (1 ≤ a.length) && decide (a.length ≤ 1000) then .ok (.str (Txt.mul a k)) S else .bad):=rfl
theorem rbop_6:bop (.mul) (.tup a) (.int k) S = (if decide (-(2 ^ 63) ≤ k) && decide (k < 2 ^ 63) && decide (a.length * k.toNat ≤ Line) then .ok (.tup (List.replicate k.toNat a).flatten) S else .bad):=rfl
theorem rbop_7:bop (.mul) (.loc l) (.int k) S = (match S[l]? with
    | some (.lst a)=>if decide (-(2 ^ 63) ≤ k) && decide (k < 2 ^ 63) && decide (a.length * k.toNat ≤ Line) then .ok (.loc S.length) (S ++ [.lst (List.replicate k.toNat a).flatten]) else .bad
    | _=>.bad):=rfl
theorem rbop_8:bop (.fdiv) (.int i) (.int j) S = (if 0 < j∧j.natAbs < 2 ^ 4096 then .ok (.int (i / j)) S else .bad):=rfl
theorem rbop_9:bop (.mod) (.int i) (.int j) S = (if 0 < j then .ok (.int (i % j)) S else .bad):=rfl
theorem rbop_10:bop (.pow) (.int i) (.int j) S = (if decide (0 ≤ j) && decide (j ≤ 1000000) && decide (i.natAbs < 2 ^ 64) then .ok (.int (i ^ j.toNat)) S else .bad):=rfl
theorem rbop_11:bop (.add) (.kl a) (.loc k) S = (match S[k]? with
    | some (.lst b)=>if a.length + b.length ≤ Line then .ok (.loc S.length) (S ++ [.lst (a ++ b)]) else .bad
    | _=>.bad):=rfl
theorem rprimD_0:primD (.len) ([x]) S = (match seqOf S x with
    | some ds=>.ok (.int ds.length) S
    | none=>match x with | .str z=>if z.length ≤ Line then .ok (.int z.length) S else .bad | _=>.bad):=rfl
theorem rprimD_1:primD (.abs) ([.int i]) S = (.ok (.int (if i < 0 then -i else i)) S):=rfl
theorem rprimD_2:primD (.max2) ([.int i,.int j]) S = (.ok (.int (if j > i then j else i)) S):=rfl
theorem rprimD_3:primD (.min2) ([.int i,.int j]) S = (.ok (.int (if j < i then j else i)) S):=rfl
theorem rprimD_4:primD (.int1) ([.int i]) S = (.ok (.int i) S):=rfl
theorem rprimD_5:primD (.int1) ([.bl b]) S = (.ok (.int (if b then 1 else 0)) S):=rfl
theorem rprimD_14:primD (.int1) ([.str x]) S = (match intText? x with | some n=>if x.length ≤ 640 then .ok (.int n) S else .bad | none=>.bad):=rfl
theorem rprimD_6:primD (.str1) ([.int i]) S = (if i.natAbs < 2 ^ 1900 then .ok (.str (toString i)) S else .bad):=rfl
theorem rprimD_7:primD (.list1) ([x]) S = (match seqOf S x with
    | some ds=>.ok (.loc S.length) (S ++ [.lst ds])
    | none=>match x with
      | .loc l=>match dctAt S l with | some kvs=>.ok (.loc S.length) (S ++ [.lst (kvs.map fun p=>.int p.1)]) | none=>.bad
      | _=>.bad):=rfl
theorem rprimD_8:primD (.tuple1) ([x]) S = (match seqOf S x with
    | some ds=>.ok (.tup ds) S
    | none=>.bad):=rfl
theorem rprimD_9:primD (.divmod) ([.int i,.int j]) S = (if 0 < j∧j.natAbs < 2 ^ 4096 then .ok (.tup [.int (i / j),.int (i % j)]) S else .bad):=rfl
theorem rprimD_12:primD (.any1) ([x]) S = (match seqOf S x with | some ds=>(match allB ds with | some _=>.ok (.bl (ds.any isT)) S | none=>.bad) | none=>.bad):=rfl
theorem rprimD_10:primD (.all1) ([x]) S = (match seqOf S x with | some ds=>(match allB ds with | some b=>.ok (.bl b) S | none=>.bad) | none=>.bad):=rfl
theorem rmethD_0:methD (.append) (.loc l) ([y]) S = (match S[l]? with
    | some (.lst xs)=>if xs.length < Line then .ok .non (S.set l (.lst (xs ++ [y]))) else .bad
    | _=>.bad):=rfl
theorem rmethD_1:methD (.pop0) (.loc l) ([]) S = (match S[l]? with
    | some (.lst xs)=>match xs[xs.length - 1]? with
      | some y=>.ok y (S.set l (.lst xs.dropLast))
      | none=>.bad
    | _=>.bad):=rfl
theorem rmethD_7:methD (.starts) (.str x) ([.str y]) S = (.ok (.bl (Txt.startswith x y)) S):=rfl
theorem rmethD_8:methD (.split1) (.str x) ([.str y]) S = (if !(y.length == 0) && decide (x.length ≤ Line) && decide ((Builtin.Str.partsBetween x (Builtin.Str.occurrences x y 0 x.length (x.length + 1)) y.length).length ≤ Line) then .ok (.loc S.length) (S ++ [.lst ((Txt.split x y).map D.str)]) else .bad):=rfl
theorem rmethD_9:methD (.join1) (.str x) ([.loc l]) S = (match S[l]? with | some (.lst ds)=>(match strsD ds with | some ts=>if JoinOk x ts then .ok (.str (Txt.join x ts)) S else .bad | none=>.bad) | _=>.bad):=rfl
theorem rmethD_10:methD (.split2) (.str x) ([.str y,.int k]) S = (if decide (0 < k) && decide (k < 1000) && !(decide (x.length < y.length) || decide (Builtin.Str.strKind x < Builtin.Str.strKind y)) && !(y.length == 0) && !(Builtin.Str.occurrences x y 0 x.length (limitOf x k)).isEmpty && decide (x.length ≤ Line) && decide ((Builtin.Str.partsBetween x (Builtin.Str.occurrences x y 0 x.length (limitOf x k)) y.length).length ≤ Line) then .ok (.loc S.length) (S ++ [.lst ((Builtin.Str.partsBetween x (Builtin.Str.occurrences x y 0 x.length (limitOf x k)) y.length).map D.str)]) else .bad):=rfl
theorem revE_0:evE C (.cst d) (u1') (S) = (.ok d S):=rfl
theorem revE_1:evE C (.var i) (τ) (S) = (match τ[i]? with | some (some d)=>.ok d S | _=>.bad):=rfl
theorem revE_2:evE C (.glb x) (u1') (S) = (match C.glob x with | some d=>.ok d S | none=>.bad):=rfl
theorem revE_3:evE C (.bin o a b) (τ) (S) = ((evE C a τ S).bind fun x S1=>(evE C b τ S1).bind fun y S2=>bop o x y S2):=rfl
theorem revE_4:evE C (.neg a) (τ) (S) = ((evE C a τ S).bind fun x S1=>match x with | .int i=>.ok (.int (-i)) S1 | _=>.bad):=rfl
theorem revE_5:evE C (.nott a) (τ) (S) = ((evE C a τ S).bind fun x S1=>match tru S1 x with | some b=>.ok (.bl (!b)) S1 | none=>.bad):=rfl
theorem revE_6:evE C (.bo w as) (τ) (S) = (evBV C w as τ S):=rfl
theorem revE_7:evE C (.cmp o a b) (τ) (S) = ((evE C a τ S).bind fun x S1=>(evE C b τ S1).bind fun y S2=>match cop o x y S2 with | some k=>.ok (.bl k) S2 | none=>.bad):=rfl
theorem revE_8:evE C (.cmp2 o p a b c) (τ) (S) = ((evE C a τ S).bind fun x S1=>(evE C b τ S1).bind fun y S2=>match cop o x y S2 with
    | some true=>(evE C c τ S2).bind fun z S3=>(match cop p y z S3 with | some k=>.ok (.bl k) S3 | none=>.bad)
    | some false=>.ok (.bl false) S2
    | none=>.bad):=rfl
theorem revE_9:evE C (.ife c a b) (τ) (S) = ((evT C c τ S).bind fun k S1=>if k then evE C a τ S1 else evE C b τ S1):=rfl
theorem revE_10:evE C (.tup as) (τ) (S) = ((evA C as τ S).bind fun ds S1=>if ds.length ≤ Line then .ok (.tup ds) S1 else .bad):=rfl
theorem revE_11:evE C (.lst as) (τ) (S) = ((evA C as τ S).bind fun ds S1=>if ds.length ≤ Line then .ok (.loc S1.length) (S1 ++ [.lst ds]) else .bad):=rfl
theorem revE_12:evE C (.idx a b) (τ) (S) = ((evE C a τ S).bind fun x S1=>(evE C b τ S1).bind fun y S2=>match idxD x y S2 with | some d=>.ok d S2 | none=>.bad):=rfl
theorem revE_13:evE C (.sli a lo hi) (τ) (S) = ((evE C a τ S).bind fun x S1=>(evO C lo τ S1).bind fun l S2=>(evO C hi τ S2).bind fun h S3=>sliD x l h S3):=rfl
theorem revE_14:evE C (.call f as) (τ) (S) = ((evA C as τ S).bind fun ds S1=>C.call f ds S1):=rfl
theorem revE_15:evE C (.prim p as) (τ) (S) = ((evA C as τ S).bind fun ds S1=>primD p ds S1):=rfl
theorem revE_16:evE C (.isi a t) (τ) (S) = ((evE C a τ S).bind fun x S1=>match tyD S1 x with | some y=>.ok (.bl (isiD y t)) S1 | none=>.bad):=rfl
theorem revE_17:evE C (.meth p o as) (τ) (S) = ((evE C o τ S).bind fun x S1=>if rcv S1 x then (evA C as τ S1).bind fun ds S2=>methD p x ds S2 else .bad):=rfl
theorem revE_18:evE C (.comp N k keep tg it cd el) (τ) (S) = ((evI C it τ S).bind fun w S1 =>
      (compL (fun d τ1 S2=>(evG C tg d τ1 S2).bind fun τ2 S3=>(evC C cd τ2 S3).bind fun b S4=>if b then (evE C el τ2 S4).bind fun y S5=>.ok (some y) S5 else .ok none S4) w.1 w.2 w.2.length 0 (inEn k keep τ) S1 []).bind
        fun ys S6=>.ok (.loc S6.length) (S6 ++ [.lst ys])):=rfl
theorem revE_20:evE C (.dnil) (u1') (S) = (.ok (.loc S.length) (S ++ [.dct []])):=rfl
theorem revT_0:evT C (.nott a) (τ) (S) = ((evT C a τ S).bind fun b S1=>.ok (!b) S1):=rfl
theorem revT_1:evT C (.bo w as) (τ) (S) = (evBT C w as τ S):=rfl
theorem revT_2:evT C (.cmp o a b) (τ) (S) = ((evE C a τ S).bind fun x S1=>(evE C b τ S1).bind fun y S2=>match cop o x y S2 with | some k=>.ok k S2 | none=>.bad):=rfl
theorem revT_3:evT C (.cmp2 o p a b c) (τ) (S) = ((evE C a τ S).bind fun x S1=>(evE C b τ S1).bind fun y S2=>match cop o x y S2 with
    | some true=>(evE C c τ S2).bind fun z S3=>(match cop p y z S3 with | some k=>.ok k S3 | none=>.bad)
    | some false=>.ok false S2
    | none=>.bad):=rfl
theorem revT_4:evT C (.var i) (τ) (S) = (match τ[i]? with | some (some d)=>(match tru S d with | some b=>.ok b S | none=>.bad) | _=>.bad):=rfl
theorem revT_5:evT C (.idx a b) (τ) (S) = ((evE C a τ S).bind fun x S1=>(evE C b τ S1).bind fun y S2=>match idxD x y S2 with | some d=>(match tru S2 d with | some b=>.ok b S2 | none=>.bad) | none=>.bad):=rfl
theorem revT_6:evT C (.call f as) (τ) (S) = ((evA C as τ S).bind fun ds S1=>(C.call f ds S1).bind fun d S2=>match tru S2 d with | some b=>.ok b S2 | none=>.bad):=rfl
theorem revT_7:evT C (.prim p as) (τ) (S) = ((evA C as τ S).bind fun ds S1=>(primD p ds S1).bind fun d S2=>match tru S2 d with | some b=>.ok b S2 | none=>.bad):=rfl
theorem revT_8:evT C (.isi a t) (τ) (S) = ((evE C a τ S).bind fun x S1=>match tyD S1 x with | some y=>.ok (isiD y t) S1 | none=>.bad):=rfl
theorem revT_mt:evT C (.meth p o as) (τ) (S) = ((evE C o τ S).bind fun x S1=>if rcv S1 x then (evA C as τ S1).bind fun ds S2=>(methD p x ds S2).bind fun d S3=>match tru S3 d with | some b=>.ok b S3 | none=>.bad else .bad):=rfl
theorem revBV_0:evBV C w (.cns a .nul) (τ) (S) = (evE C a τ S):=rfl
theorem revBV_1:evBV C w (.cns a (.cns a2 r2)) (τ) (S) = ((evE C a τ S).bind fun x S1=>match x with | .bl c=>if c = w then evBV C w (.cns a2 r2) τ S1 else .ok (.bl (!w)) S1 | _=>.bad):=rfl
theorem revBT_0:evBT C w (.cns a .nul) (τ) (S) = (evT C a τ S):=rfl
theorem revBT_1:evBT C w (.cns a (.cns a2 r2)) (τ) (S) = ((evT C a τ S).bind fun c S1=>if c = w then evBT C w (.cns a2 r2) τ S1 else .ok (!w) S1):=rfl
theorem revC_0:evC C (.nul) (u1') (S) = (.ok true S):=rfl
theorem revC_1:evC C (.cns c .nul) (τ) (S) = (evT C c τ S):=rfl
theorem revA_0:evA C (.nul) (u1') (S) = (.ok [] S):=rfl
theorem revA_1:evA C (.cns a b) (τ) (S) = ((evE C a τ S).bind fun x S1=>(evA C b τ S1).bind fun xs S2=>.ok (x :: xs) S2):=rfl
theorem revO_0:evO C (.nul) (u1') (S) = (.ok none S):=rfl
theorem revO_1:evO C (.cns a .nul) (τ) (S) = ((evE C a τ S).bind fun x S1=>match x with | .int i=>.ok (some i) S1 | _=>.bad):=rfl
theorem revI_0:evI C (.rng a) (τ) (S) = ((evE C a τ S).bind fun x S1=>match x with
    | .int j=>if decide (-(2 ^ 62) ≤ j) && decide (j < 2 ^ 62) then .ok (none,(List.range j.toNat).map fun (i:Nat)=>.int i) S1 else .bad
    | _=>.bad):=rfl
theorem revI_2:evI C (.cns a .nul) (τ) (S) = ((evE C a τ S).bind fun x S1=>match x with
    | .tup ds=>.ok (none,ds) S1
    | .kl ds=>.ok (none,ds) S1
    | .str z=>.ok (none,z.cps.toList.map fun c=>.str ⟨#[c]⟩) S1
    | .loc l=>(match seqAt S1 l with | some ds=>.ok (some (l,.lst),ds) S1 | none=>.bad)
    | _=>.bad):=rfl
theorem revI_zp:evI C (.zp a b) (τ) (S) = ((evE C a τ S).bind fun x S1=>(evE C b τ S1).bind fun y S2=>match x,y with | .tup ds,.tup es=>.ok (none,(ds.zip es).map fun p=>.tup [p.1,p.2]) S2 | _,_=>.bad):=rfl
theorem revI_3:evI C (.enm a) (τ) (S) = ((evE C a τ S).bind fun x S1=>match x with
    | .loc l=>(match seqAt S1 l with | some ds=>.ok (some (l,.enm),ds) S1 | none=>.bad)
    | _=>.bad):=rfl
theorem revG_0:evG C (.tvar i) (d) (τ) (S) = (if i < τ.length then .ok (τ.set i (some d)) S else .bad):=rfl
theorem revG_1:evG C (.ttup ts) (d) (τ) (S) = (match d with | .tup ds=>evGs C ts ds τ S | _=>.bad):=rfl
theorem revG_2:evG C (.tsub a b) (d) (τ) (S) = ((evE C a τ S).bind fun o S1=>(evE C b τ S1).bind fun i S2=>(setS o i d S2).bind fun _ S3=>.ok τ S3):=rfl
theorem revGs_0:evGs C (.nul) (ds) (τ) (S) = (match ds with | []=>.ok τ S | _=>.bad):=rfl
theorem revGs_1:evGs C (.cns t ts) (ds) (τ) (S) = (match ds with | d :: r=>(evG C t d τ S).bind fun τ1 S1=>evGs C ts r τ1 S1 | []=>.bad):=rfl
theorem revS_0:evS C (.asg t e) (τ) (S) = ((evE C e τ S).bind fun d S1=>(evG C t d τ S1).bind fun τ1 S2=>.ok (.nx τ1) S2):=rfl
theorem revS_1:evS C (.ifs c a b) (τ) (S) = ((evT C c τ S).bind fun k S1=>if k then evB C a τ S1 else evB C b τ S1):=rfl
theorem revS_2:evS C (.forr t i b) (τ) (S) = ((evI C i τ S).bind fun w S1=>forL (fun d τ1 S2=>(evG C t d τ1 S2).bind fun τ2 S3=>evB C b τ2 S3) w.1 w.2 w.2.length 0 τ S1):=rfl
theorem revS_3:evS C (.whl c b) (τ) (S) = (whlL (evT C c) (evB C b) C.W τ S):=rfl
theorem revS_4:evS C (.ret e) (τ) (S) = ((evE C e τ S).bind fun d S1=>.ok (.rt d) S1):=rfl
theorem revS_6:evS C (.exp e) (τ) (S) = ((evE C e τ S).bind fun _ S1=>.ok (.nx τ) S1):=rfl
theorem revB_0:evB C (.nul) (τ) (S) = (.ok (.nx τ) S):=rfl
theorem revB_1:evB C (.cns s r) (τ) (S) = ((evS C s τ S).bind fun fl S1=>match fl with
    | .nx τ1=>evB C r τ1 S1
    | .rt d=>.ok (.rt d) S1
    | .bk τ1=>.ok (.bk τ1) S1
    | .ct τ1=>.ok (.ct τ1) S1):=rfl
end Mi
namespace Mi
open PySem L2
noncomputable def SqF (K:PySem.W.Frag) (H:Hp) (a:Addr) (xs:List V):Prop :=
  (∃ o,H a = some (.frz o (.lst xs))) ∨
    ∃ (o:PySem.Obj) (its:Array Value) (n:Nat),K.lookup a = some o∧o.cls = .type "list"∧o.dict = none∧o.data = .seq its n∧its.size ≤ sizeLine∧Vals xs its.toList
theorem SqF.sq {K:PySem.W.Frag} {H:Hp} {a:Addr} {xs:List V} (h:SqF K H a xs):SqL K H a xs:=h.elim (fun z=>.inl (.inr z)) .inr
mutual
noncomputable def RelD (K:PySem.W.Frag) (ρ:List Addr) (H:Hp):D→V→Prop
  | .non,v=>v = .non
  | .bl b,v=>v = .bl b
  | .int i,v=>v = .int i
  | .str x,v=>v = .str x
  | .tup ds,v=>∃ a xs,v = .ref a∧SqT K H a xs∧RelDs K ρ H ds xs
  | .loc l,v=>∃ a,v = .ref a∧ρ[l]? = some a
  | .kl ds,v=>∃ a xs,v = .ref a∧SqF K H a xs∧RelDs K ρ H ds xs
noncomputable def RelDs (K:PySem.W.Frag) (ρ:List Addr) (H:Hp):List D→List V→Prop
  | [],xs=>xs = []
  | d :: ds,xs=>∃ v vs,xs = v :: vs∧RelD K ρ H d v∧RelDs K ρ H ds vs
end
noncomputable def RelKv (K:PySem.W.Frag) (ρ:List Addr) (H:Hp):List (Int × D)→List (Key × V)→Prop
  | [],ws=>ws = []
  | p :: r,ws=>∃ v us,ws = (.inl p.1,v) :: us∧RelD K ρ H p.2 v∧RelKv K ρ H r us
theorem mapN_inj:∀ {a b:List Char},a.map Char.toNat = b.map Char.toNat→a = b
  | [],[],_=>rfl
  | [],y :: ys,h=>by simp at h
  | x :: xs,[],h=>by simp at h
  | x :: xs,y :: ys,h=>by
    simp only [List.map_cons,List.cons.injEq] at h
    rw [mapN_inj h.2,Char.toNat_inj.mp h.1]
theorem ofS_inj {a b:String} (h:Str.ofString a = Str.ofString b):a = b:=by
  rw [Str.ofString_eq_toList,Str.ofString_eq_toList] at h
  injection h with h
  have h:a.toList.map Char.toNat = b.toList.map Char.toNat:=by simpa using h
  refine String.toList_inj.mp ?_
  exact mapN_inj h
noncomputable def RelF (K:PySem.W.Frag) (ρ:List Addr) (H:Hp):List (String × D)→List (Str × V)→Prop
  | [],ws=>ws = []
  | p :: r,ws=>∃ v us,ws = (Str.ofString p.1,v) :: us∧RelD K ρ H p.2 v∧RelF K ρ H r us
noncomputable def RelO (K:PySem.W.Frag) (ρ:List Addr) (H:Hp) (a:Addr):Obj→Prop
  | .lst ds=>∃ xs,H a = some (.lst xs)∧RelDs K ρ H ds xs
  | .dct kvs=>∃ ws,H a = some (.dK ws)∧RelKv K ρ H kvs ws
  | .ins c fs=>∃ C dx ws,PySem.W.nsIn K mainGlobals (Str.ofString c) = some (some (.ref C))∧H a = some (.ins C dx ws)∧RelF K ρ H fs ws
structure RelS (K:PySem.W.Frag) (ρ:List Addr) (S:Store) (H:Hp):Prop where
  len:ρ.length = S.length
  nd:ρ.Nodup
  ob:∀ (l:Nat) (a:Addr) (o:Obj),ρ[l]? = some a→S[l]? = some o→RelO K ρ H a o
structure Fut (K:PySem.W.Frag) (ρ:List Addr) (H:Hp) (ρ':List Addr) (H':Hp):Prop where
  pre:∃ t,ρ' = ρ ++ t
  tup:∀ a xs,SqT K H a xs→SqT K H' a xs
  frz:∀ a o u,H a = some (.frz o u)→H' a = some (.frz o u)
variable {K:PySem.W.Frag} {ρ ρ' ρ1:List Addr} {H H' H1:Hp} {S S':Store}
theorem Fut.refl:Fut K ρ H ρ H:=⟨⟨[],by simp⟩,fun _ _ h=>h,fun _ _ _ h=>h⟩
theorem Fut.trans (a:Fut K ρ H ρ1 H1) (b:Fut K ρ1 H1 ρ' H'):Fut K ρ H ρ' H':=by
  obtain ⟨t,rfl⟩:=a.pre
  obtain ⟨u,e⟩:=b.pre
  exact ⟨⟨t ++ u,by rw [e,List.append_assoc]⟩,fun _ _ h=>b.tup _ _ (a.tup _ _ h),fun _ _ _ h=>b.frz _ _ _ (a.frz _ _ _ h)⟩
theorem Fut.sqF {a:Addr} {xs:List V} (f:Fut K ρ H ρ' H') (h:SqF K H a xs):SqF K H' a xs:=h.elim (fun ⟨o,z⟩=>.inl ⟨o,f.frz _ _ _ z⟩) .inr
theorem Fut.get (f:Fut K ρ H ρ' H') {l:Nat} {a:Addr} (h:ρ[l]? = some a):ρ'[l]? = some a:=by
  obtain ⟨t,rfl⟩:=f.pre
  rw [List.getElem?_append_left (List.getElem?_eq_some_iff.mp h).1]
  exact h
mutual
theorem RelD.fut (f:Fut K ρ H ρ' H'):∀ {d:D} {v:V},RelD K ρ H d v→RelD K ρ' H' d v
  | .non,v,h=>by simpa only [RelD] using h
  | .bl b,v,h=>by simpa only [RelD] using h
  | .int i,v,h=>by simpa only [RelD] using h
  | .str x,v,h=>by simpa only [RelD] using h
  | .tup ds,v,h=>by
    simp only [RelD] at h ⊢
    obtain ⟨a,xs,e,q,r⟩:=h
    exact ⟨a,xs,e,f.tup _ _ q,RelDs.fut f r⟩
  | .loc l,v,h=>by
    simp only [RelD] at h ⊢
    obtain ⟨a,e,q⟩:=h
    exact ⟨a,e,f.get q⟩
  | .kl ds,v,h=>by
    simp only [RelD] at h ⊢
    obtain ⟨a,xs,e,q,r⟩:=h
    exact ⟨a,xs,e,f.sqF q,RelDs.fut f r⟩
theorem RelDs.fut (f:Fut K ρ H ρ' H'):∀ {ds:List D} {vs:List V},RelDs K ρ H ds vs→RelDs K ρ' H' ds vs
  | [],vs,h=>by simpa only [RelDs] using h
  | d :: ds,vs,h=>by
    simp only [RelDs] at h ⊢
    obtain ⟨v,r,e,q,t⟩:=h
    exact ⟨v,r,e,RelD.fut f q,RelDs.fut f t⟩
end
theorem RelDs.cons {d:D} {ds:List D} {v:V} {vs:List V} (a:RelD K ρ H d v) (b:RelDs K ρ H ds vs):RelDs K ρ H (d :: ds) (v :: vs):=by
  simp only [RelDs]
  exact ⟨v,vs,rfl,a,b⟩
theorem RelDs.nil:RelDs K ρ H [] []:=by simp only [RelDs]
theorem RelDs.inv_cons {d:D} {ds:List D} {xs:List V} (h:RelDs K ρ H (d :: ds) xs):∃ v vs,xs = v :: vs∧RelD K ρ H d v∧RelDs K ρ H ds vs:=by
  simpa only [RelDs] using h
theorem RelDs.inv_nil {xs:List V} (h:RelDs K ρ H [] xs):xs = []:=by simpa only [RelDs] using h
theorem RelDs.length:∀ {ds:List D} {vs:List V},RelDs K ρ H ds vs→ds.length = vs.length
  | [],vs,h=>by rw [h.inv_nil]; rfl
  | d :: ds,vs,h=>by
    obtain ⟨v,r,rfl,_,t⟩:=h.inv_cons
    rw [List.length_cons,List.length_cons,t.length]
theorem RelDs.get:∀ {ds:List D} {vs:List V} {i:Nat} {d:D},RelDs K ρ H ds vs→ds[i]? = some d→∃ v,vs[i]? = some v∧RelD K ρ H d v
  | [],vs,i,d,h,e=>by simp at e
  | d :: ds,vs,0,x,h,e=>by
    obtain ⟨v,r,rfl,q,t⟩:=h.inv_cons
    simp at e
    subst e
    exact ⟨v,rfl,q⟩
  | d :: ds,vs,i + 1,x,h,e=>by
    obtain ⟨v,r,rfl,q,t⟩:=h.inv_cons
    exact RelDs.get (i:=i) t (by simpa using e)
theorem RelDs.append:∀ {ds es:List D} {vs ws:List V},RelDs K ρ H ds vs→RelDs K ρ H es ws→RelDs K ρ H (ds ++ es) (vs ++ ws)
  | [],es,vs,ws,h,g=>by rw [h.inv_nil]; exact g
  | d :: ds,es,vs,ws,h,g=>by
    obtain ⟨v,r,rfl,q,t⟩:=h.inv_cons
    exact RelDs.cons q (t.append g)
theorem RelDs.take:∀ {ds:List D} {vs:List V} (n:Nat),RelDs K ρ H ds vs→RelDs K ρ H (ds.take n) (vs.take n)
  | ds,vs,0,h=>by simp [RelDs.nil]
  | [],vs,n + 1,h=>by rw [h.inv_nil]; simp [RelDs.nil]
  | d :: ds,vs,n + 1,h=>by
    obtain ⟨v,r,rfl,q,t⟩:=h.inv_cons
    exact RelDs.cons q (t.take n)
theorem RelDs.drop:∀ {ds:List D} {vs:List V} (n:Nat),RelDs K ρ H ds vs→RelDs K ρ H (ds.drop n) (vs.drop n)
  | ds,vs,0,h=>h
  | [],vs,n + 1,h=>by rw [h.inv_nil]; simp [RelDs.nil]
  | d :: ds,vs,n + 1,h=>by
    obtain ⟨v,r,rfl,q,t⟩:=h.inv_cons
    exact t.drop n
theorem RelDs.set {d:D} {v:V} (a:RelD K ρ H d v):∀ {ds:List D} {vs:List V} (i:Nat),RelDs K ρ H ds vs→RelDs K ρ H (ds.set i d) (vs.set i v)
  | [],vs,i,h=>by rw [h.inv_nil]; simp [RelDs.nil]
  | x :: ds,vs,0,h=>by
    obtain ⟨w,r,rfl,q,t⟩:=h.inv_cons
    exact RelDs.cons a t
  | x :: ds,vs,i + 1,h=>by
    obtain ⟨w,r,rfl,q,t⟩:=h.inv_cons
    exact RelDs.cons q (RelDs.set a i t)
theorem RelDs.reverse:∀ {ds:List D} {vs:List V},RelDs K ρ H ds vs→RelDs K ρ H ds.reverse vs.reverse
  | [],vs,h=>by rw [h.inv_nil]; simp [RelDs.nil]
  | d :: ds,vs,h=>by
    obtain ⟨v,r,rfl,q,t⟩:=h.inv_cons
    rw [List.reverse_cons,List.reverse_cons]
    exact t.reverse.append (RelDs.cons q RelDs.nil)
theorem RelDs.rep {ds:List D} {vs:List V} (h:RelDs K ρ H ds vs):∀ n:Nat,RelDs K ρ H (List.replicate n ds).flatten (List.replicate n vs).flatten
  | 0=>by simp [RelDs.nil]
  | n + 1=>by
    rw [List.replicate_succ,List.replicate_succ,List.flatten_cons,List.flatten_cons]
    exact h.append (RelDs.rep h n)
theorem RelDs.dropLast {ds:List D} {vs:List V} (h:RelDs K ρ H ds vs):RelDs K ρ H ds.dropLast vs.dropLast:=by
  rw [List.dropLast_eq_take,List.dropLast_eq_take,h.length]
  exact h.take _
theorem atI_rel {ds:List D} {vs:List V} {i:Int} {d:D} (h:RelDs K ρ H ds vs) (e:atI ds i = some d):∃ v,atI vs i = some v∧RelD K ρ H d v:=by
  unfold atI at e ⊢
  rw [← h.length]
  cases q:ixN ds.length i with
  | none=>rw [q] at e; cases e
  | some j =>
    rw [q] at e
    exact h.get e
theorem RelKv.fut (f:Fut K ρ H ρ' H'):∀ {kvs:List (Int × D)} {ws:List (Key × V)},RelKv K ρ H kvs ws→RelKv K ρ' H' kvs ws
  | [],ws,h=>h
  | p :: r,ws,h=>by
    obtain ⟨v,us,e,q,t⟩:=h
    exact ⟨v,us,e,q.fut f,RelKv.fut f t⟩
theorem RelKv.length:∀ {kvs:List (Int × D)} {ws:List (Key × V)},RelKv K ρ H kvs ws→kvs.length = ws.length
  | [],ws,h=>by cases (show ws = [] from h); rfl
  | p :: r,ws,h=>by
    obtain ⟨v,us,rfl,q,t⟩:=h
    simp [RelKv.length t]
theorem RelKv.val (k:Int):∀ {kvs:List (Int × D)} {ws:List (Key × V)},RelKv K ρ H kvs ws→(dVal kvs k = none∧valV ws (Sum.inl k) = none) ∨ ∃ d v,dVal kvs k = some d∧valV ws (Sum.inl k) = some v∧RelD K ρ H d v
  | [],ws,h=>by cases (show ws = [] from h); exact .inl ⟨rfl,rfl⟩
  | p :: r,ws,h=>by
    obtain ⟨v,us,rfl,q,t⟩:=h
    by_cases e:p.1 = k
    · refine .inr ⟨p.2,v,?_,valV_pos (congrArg Sum.inl e),q⟩
      simp [dVal,List.find?_cons,e]
    · have e':¬ ((Sum.inl p.1:Key) = Sum.inl k):=fun z=>e (Sum.inl.inj z)
      rw [valV_neg e',show dVal (p :: r) k = dVal r k by simp [dVal,List.find?_cons,e]]
      exact RelKv.val k t
theorem RelKv.map (k:Int) {d:D} {v:V} (q:RelD K ρ H d v):∀ {kvs:List (Int × D)} {ws:List (Key × V)},RelKv K ρ H kvs ws →
    RelKv K ρ H (kvs.map (fun p=>if p.1 = k then (p.1,d) else p)) (ws.map (fun kv=>if kv.1 = Sum.inl k then (kv.1,v) else kv))
  | [],ws,h=>by cases (show ws = [] from h); rfl
  | p :: r,ws,h=>by
    obtain ⟨u,us,rfl,q',t⟩:=h
    have ih:=RelKv.map k q t
    by_cases e:p.1 = k
    · have e':(Sum.inl p.1:Key) = Sum.inl k:=congrArg Sum.inl e
      rw [List.map_cons,List.map_cons,if_pos e,if_pos e']
      exact ⟨v,_,rfl,q,ih⟩
    · have e':¬ ((Sum.inl p.1:Key) = Sum.inl k):=fun z=>e (Sum.inl.inj z)
      rw [List.map_cons,List.map_cons,if_neg e,if_neg e']
      exact ⟨u,_,rfl,q',ih⟩
theorem RelKv.snoc {k:Int} {d:D} {v:V} (q:RelD K ρ H d v):∀ {kvs:List (Int × D)} {ws:List (Key × V)},RelKv K ρ H kvs ws→RelKv K ρ H (kvs ++ [(k,d)]) (ws ++ [(.inl k,v)])
  | [],ws,h=>by cases (show ws = [] from h); exact ⟨v,[],rfl,q,rfl⟩
  | p :: r,ws,h=>by
    obtain ⟨u,us,rfl,q',t⟩:=h
    exact ⟨u,_,rfl,q',RelKv.snoc q t⟩
theorem RelKv.any (k:Int):∀ {kvs:List (Int × D)} {ws:List (Key × V)},RelKv K ρ H kvs ws→kvs.any (fun p=>decide (p.1 = k)) = ws.any (fun kv=>decide (kv.1 = Sum.inl k))
  | [],ws,h=>by cases (show ws = [] from h); rfl
  | p :: r,ws,h=>by
    obtain ⟨u,us,rfl,q',t⟩:=h
    rw [List.any_cons,List.any_cons,RelKv.any k t]
    congr 1
    exact decide_eq_decide.mpr ⟨fun z=>congrArg Sum.inl z,fun z=>Sum.inl.inj z⟩
theorem RelKv.keys:∀ {kvs:List (Int × D)} {ws:List (Key × V)},RelKv K ρ H kvs ws→RelDs K ρ H (kvs.map fun p=>D.int p.1) (ws.map fun kv=>kV kv.1)
  | [],ws,h=>by cases (show ws = [] from h); exact RelDs.nil
  | p :: r,ws,h=>by
    obtain ⟨u,us,rfl,q',t⟩:=h
    exact RelDs.cons (by simp only [RelD]; rfl) (RelKv.keys t)
theorem RelKv.put (k:Int) {d:D} {v:V} (q:RelD K ρ H d v) {kvs:List (Int × D)} {ws:List (Key × V)} (h:RelKv K ρ H kvs ws):RelKv K ρ H (dPut kvs k d) (putK ws (Sum.inl k) v):=by
  unfold dPut putK
  rw [h.any k]
  split
  · exact h.map k q
  · exact h.snoc q
theorem RelF.fut (f:Fut K ρ H ρ' H'):∀ {fs:List (String × D)} {ws:List (Str × V)},RelF K ρ H fs ws→RelF K ρ' H' fs ws
  | [],ws,h=>h
  | p :: r,ws,h=>by
    obtain ⟨v,us,e,q,t⟩:=h
    exact ⟨v,us,e,q.fut f,RelF.fut f t⟩
theorem RelF.length:∀ {fs:List (String × D)} {ws:List (Str × V)},RelF K ρ H fs ws→fs.length = ws.length
  | [],ws,h=>by cases (show ws = [] from h); rfl
  | p :: r,ws,h=>by
    obtain ⟨v,us,rfl,q,t⟩:=h
    simp [RelF.length t]
theorem RelF.put (f:String) {d:D} {v:V} (q:RelD K ρ H d v):∀ {fs:List (String × D)} {ws:List (Str × V)},RelF K ρ H fs ws→RelF K ρ H (putD f d fs) (putF (Str.ofString f) v ws)
  | [],ws,h=>by cases (show ws = [] from h); exact ⟨v,[],rfl,q,rfl⟩
  | p :: r,ws,h=>by
    obtain ⟨u,us,rfl,q',t⟩:=h
    by_cases e:p.1 = f
    · rw [show putD f d (p :: r) = (p.1,d) :: r from if_pos e,show putF (Str.ofString f) v ((Str.ofString p.1,u) :: us) = (Str.ofString p.1,v) :: us from if_pos (congrArg _ e)]
      exact ⟨v,us,rfl,q,t⟩
    · rw [show putD f d (p :: r) = p :: putD f d r from if_neg e,show putF (Str.ofString f) v ((Str.ofString p.1,u) :: us) = (Str.ofString p.1,u) :: putF (Str.ofString f) v us from if_neg fun z=>e (ofS_inj z)]
      exact ⟨u,_,rfl,q',RelF.put f q t⟩
theorem RelO.fut {a:Addr} {o:Obj} (f:Fut K ρ H ρ' H') (hk:H' a = H a) (h:RelO K ρ H a o):RelO K ρ' H' a o:=by
  cases o with
  | lst ds=>obtain ⟨xs,e,r⟩:=h; exact ⟨xs,hk.trans e,r.fut f⟩
  | dct kvs=>obtain ⟨xs,e,r⟩:=h; exact ⟨xs,hk.trans e,r.fut f⟩
  | ins c fs=>obtain ⟨C,dx,ws,n,e,r⟩:=h; exact ⟨C,dx,ws,n,hk.trans e,r.fut f⟩
theorem RelO.some {a:Addr} {o:Obj} (h:RelO K ρ H a o):H a ≠ none:=by
  cases o with
  | lst ds=>obtain ⟨xs,e,r⟩:=h; rw [e]; simp
  | dct kvs=>obtain ⟨xs,e,r⟩:=h; rw [e]; simp
  | ins c fs=>obtain ⟨C,dx,ws,n,e,r⟩:=h; rw [e]; simp
theorem RelS.at (r:RelS K ρ S H) {l:Nat} {a:Addr} (h:ρ[l]? = some a):∃ o,S[l]? = some o∧RelO K ρ H a o:=by
  have hl:l < S.length:=by rw [← r.len]; exact (List.getElem?_eq_some_iff.mp h).1
  exact ⟨S[l],List.getElem?_eq_getElem hl,r.ob l a _ h (List.getElem?_eq_getElem hl)⟩
theorem fut_new {p:Addr} {o:HO} (n:H p = none) (t:List Addr):Fut K ρ H (ρ ++ t) (upd H p o):=by
  refine ⟨⟨t,rfl⟩,fun a xs h=>?_,fun a o u h=>by rw [upd_ne (ne_of_none h n)]; exact h⟩
  rcases h with (h | ⟨o,h⟩) | h
  · exact .inl (.inl (by rw [upd_ne (ne_of_none h n)]; exact h))
  · exact .inl (.inr ⟨o,by rw [upd_ne (ne_of_none h n)]; exact h⟩)
  · exact .inr h
theorem fut_new0 {p:Addr} {o:HO} (n:H p = none):Fut K ρ H ρ (upd H p o):=by
  have q:=fut_new (K:=K) (ρ:=ρ) (o:=o) n []
  rwa [List.append_nil] at q
theorem RelS.new (r:RelS K ρ S H) {p:Addr} {o:HO} (n:H p = none):RelS K ρ S (upd H p o) :=
  ⟨r.len,r.nd,fun l a u h1 h2=>by
    have q:=r.ob l a u h1 h2
    exact q.fut (fut_new0 n) (upd_ne fun z=>q.some (z ▸ n))⟩
theorem RelS.alloc (r:RelS K ρ S H) {p:Addr} {xs:List V} {ds:List D} (n:H p = none) (h:RelDs K ρ H ds xs):RelS K (ρ ++ [p]) (S ++ [.lst ds]) (upd H p (.lst xs)):=by
  have hp:p ∉ ρ:=fun z=>by
    obtain ⟨l,hl⟩:=List.getElem?_of_mem z
    obtain ⟨o,_,q⟩:=r.at hl
    exact q.some n
  refine ⟨by rw [List.length_append,List.length_append,r.len]; rfl,?_,fun l a o h1 h2=>?_⟩
  · rw [List.nodup_append]
    exact ⟨r.nd,by simp,fun a ha b hb=>by rw [List.mem_singleton.mp hb]; exact fun e=>hp (e ▸ ha)⟩
  · by_cases hl:l < ρ.length
    · rw [List.getElem?_append_left hl] at h1
      rw [List.getElem?_append_left (by rw [← r.len]; exact hl)] at h2
      have q:=r.ob l a o h1 h2
      exact q.fut (fut_new n [p]) (upd_ne fun z=>q.some (z ▸ n))
    · have e:l = ρ.length:=by
        have:=(List.getElem?_eq_some_iff.mp h1).1
        rw [List.length_append,List.length_singleton] at this
        omega
      subst e
      rw [List.getElem?_append_right (Nat.le_refl _),Nat.sub_self] at h1
      rw [List.getElem?_append_right (by rw [r.len]; exact Nat.le_refl _),r.len,Nat.sub_self] at h2
      simp at h1 h2
      subst h1 h2
      exact ⟨xs,upd_same,h.fut (fut_new n [_])⟩
theorem nodup_get {ρ:List Addr} (hN:ρ.Nodup) {i j:Nat} {x:Addr} (a:ρ[i]? = some x) (b:ρ[j]? = some x):i = j:=by
  obtain ⟨h1,e1⟩:=List.getElem?_eq_some_iff.mp a
  obtain ⟨h2,e2⟩:=List.getElem?_eq_some_iff.mp b
  rcases Nat.lt_trichotomy i j with h | h | h
  · exact absurd (e1.trans e2.symm) (List.pairwise_iff_getElem.mp hN i j h1 h2 h)
  · exact h
  · exact absurd (e2.trans e1.symm) (List.pairwise_iff_getElem.mp hN j i h2 h1 h)
theorem fut_set {p:Addr} {xs:List V} {o:HO} (h:H p = some (.lst xs)):Fut K ρ H ρ (upd H p o):=by
  refine ⟨⟨[],by simp⟩,fun a ys q=>?_,fun a o u q=>by rw [upd_ne (ne_of q h (by intro z; cases z))]; exact q⟩
  rcases q with (q | ⟨o,q⟩) | q
  · exact .inl (.inl (by rw [upd_ne (ne_of q h (by intro z; cases z))]; exact q))
  · exact .inl (.inr ⟨o,by rw [upd_ne (ne_of q h (by intro z; cases z))]; exact q⟩)
  · exact .inr q
theorem RelS.set (r:RelS K ρ S H) {l:Nat} {p:Addr} {xs ys:List V} {ds:List D} (hl:ρ[l]? = some p) (h:H p = some (.lst xs)) (hd:RelDs K ρ H ds ys):RelS K ρ (S.set l (.lst ds)) (upd H p (.lst ys)):=by
  refine ⟨by rw [List.length_set]; exact r.len,r.nd,fun k a o h1 h2=>?_⟩
  by_cases e:l = k
  · subst e
    rw [hl] at h1
    cases h1
    have lt:l < S.length:=by rw [← r.len]; exact (List.getElem?_eq_some_iff.mp hl).1
    rw [List.getElem?_set_self lt] at h2
    cases h2
    exact ⟨ys,upd_same,hd.fut (fut_set h)⟩
  · rw [List.getElem?_set_ne e] at h2
    have ne:a ≠ p:=fun z=>by
      subst z
      exact e (nodup_get r.nd hl h1)
    exact (r.ob k a o h1 h2).fut (fut_set h) (upd_ne ne)
theorem fut_mut {p:Addr} {o0 o:HO} (h:H p = some o0) (h1:∀ xs,o0 ≠ .tup xs) (h2:∀ o u,o0 ≠ .frz o u):Fut K ρ H ρ (upd H p o):=by
  have ne:∀ a u,H a = some u→(∀ xs,u ≠ .tup xs→u ≠ .tup xs)→u ≠ o0→a ≠ p:=fun a u q _ z e=>by rw [e,h] at q; exact z (Option.some.inj q).symm
  refine ⟨⟨[],by simp⟩,fun a ys q=>?_,fun a o u q=>by rw [upd_ne (ne a _ q (fun _ z=>z) fun z=>h2 _ _ z.symm)]; exact q⟩
  rcases q with (q | ⟨o,q⟩) | q
  · exact .inl (.inl (by rw [upd_ne (ne a _ q (fun _ z=>z) fun z=>h1 _ z.symm)]; exact q))
  · exact .inl (.inr ⟨o,by rw [upd_ne (ne a _ q (fun _ z=>z) fun z=>h2 _ _ z.symm)]; exact q⟩)
  · exact .inr q
theorem RelS.allocO (r:RelS K ρ S H) {p:Addr} {o:HO} {ob:Obj} (n:H p = none) (h:RelO K (ρ ++ [p]) (upd H p o) p ob):RelS K (ρ ++ [p]) (S ++ [ob]) (upd H p o):=by
  have hp:p ∉ ρ:=fun z=>by
    obtain ⟨l,hl⟩:=List.getElem?_of_mem z
    obtain ⟨o,_,q⟩:=r.at hl
    exact q.some n
  refine ⟨by rw [List.length_append,List.length_append,r.len]; rfl,?_,fun l a u h1 h2=>?_⟩
  · rw [List.nodup_append]
    exact ⟨r.nd,by simp,fun a ha b hb=>by rw [List.mem_singleton.mp hb]; exact fun e=>hp (e ▸ ha)⟩
  · by_cases hl:l < ρ.length
    · rw [List.getElem?_append_left hl] at h1
      rw [List.getElem?_append_left (by rw [← r.len]; exact hl)] at h2
      have q:=r.ob l a u h1 h2
      exact q.fut (fut_new n [p]) (upd_ne fun z=>q.some (z ▸ n))
    · have e:l = ρ.length:=by
        have:=(List.getElem?_eq_some_iff.mp h1).1
        rw [List.length_append,List.length_singleton] at this
        omega
      subst e
      rw [List.getElem?_append_right (Nat.le_refl _),Nat.sub_self] at h1
      rw [List.getElem?_append_right (by rw [r.len]; exact Nat.le_refl _),r.len,Nat.sub_self] at h2
      simp at h1 h2
      subst h1 h2
      exact h
theorem RelS.setO (r:RelS K ρ S H) {l:Nat} {p:Addr} {o0 o:HO} {ob:Obj} (hl:ρ[l]? = some p) (f:Fut K ρ H ρ (upd H p o)) (new:RelO K ρ (upd H p o) p ob):RelS K ρ (S.set l ob) (upd H p o):=by
  refine ⟨by rw [List.length_set]; exact r.len,r.nd,fun k a u h1 h2=>?_⟩
  by_cases e:l = k
  · subst e
    rw [hl] at h1
    cases h1
    have lt:l < S.length:=by rw [← r.len]; exact (List.getElem?_eq_some_iff.mp hl).1
    rw [List.getElem?_set_self lt] at h2
    cases h2
    exact new
  · rw [List.getElem?_set_ne e] at h2
    have ne:a ≠ p:=fun z=>by
      subst z
      exact e (nodup_get r.nd hl h1)
    exact (r.ob k a u h1 h2).fut f (upd_ne ne)
structure RelE (K:PySem.W.Frag) (ρ:List Addr) (H:Hp) (τ:En) (σ:St):Prop where
  len:τ.length = σ.length
  at':∀ (i:Nat) (d:D),τ[i]? = some (some d)→∃ v,σ[i]? = some (some v)∧RelD K ρ H d v
theorem RelE.fut {τ:En} {σ:St} (f:Fut K ρ H ρ' H') (r:RelE K ρ H τ σ):RelE K ρ' H' τ σ :=
  ⟨r.len,fun i d h=>let ⟨v,e,q⟩:=r.at' i d h; ⟨v,e,q.fut f⟩⟩
theorem RelE.set {τ:En} {σ:St} {d:D} {v:V} (r:RelE K ρ H τ σ) (q:RelD K ρ H d v) (i:Nat):RelE K ρ H (τ.set i (some d)) (σ.set i (some v)):=by
  refine ⟨by rw [List.length_set,List.length_set]; exact r.len,fun j e h=>?_⟩
  by_cases z:i = j
  · subst z
    by_cases hl:i < τ.length
    · rw [List.getElem?_set_self hl] at h
      cases h
      exact ⟨v,List.getElem?_set_self (by rw [← r.len]; exact hl),q⟩
    · rw [List.getElem?_eq_none (by rw [List.length_set]; omega)] at h
      cases h
  · rw [List.getElem?_set_ne z] at h
    rw [List.getElem?_set_ne z]
    exact r.at' j e h
theorem RelE.inner {τ:En} {σ:St} (r:RelE K ρ H τ σ) (k:Nat) (keep:List Nat):RelE K ρ H (inEn k keep τ) (inSt k keep σ):=by
  unfold inEn inSt
  refine ⟨by simp,fun i d h=>?_⟩
  by_cases hi:i < k
  · rw [List.getElem?_append_left (by simpa using hi),List.getElem?_replicate,if_pos hi] at h
    cases h
  · rw [List.getElem?_append_right (by simpa using hi),List.length_replicate,List.getElem?_map] at h
    rw [List.getElem?_append_right (by simpa using hi),List.length_replicate,List.getElem?_map]
    cases ej:keep[i - k]? with
    | none=>rw [ej] at h; cases h
    | some j =>
      rw [ej] at h
      have h':(τ[j]?).join = some d:=Option.some.inj h
      have h':τ[j]? = some (some d):=by
        cases q:τ[j]? with
        | none=>rw [q] at h'; cases h'
        | some y=>rw [q] at h'; exact congrArg some h'
      obtain ⟨v,e,q⟩:=r.at' j d h'
      refine ⟨v,?_,q⟩
      show some ((σ[j]?).join) = some (some v)
      rw [e]
      rfl
noncomputable def Less (τ τ':En):Prop:=τ'.length = τ.length∧∀ (i:Nat) (d:D),τ'[i]? = some (some d)→τ[i]? = some (some d)
theorem RelE.less {τ τ':En} {σ:St} (r:RelE K ρ H τ σ) (l:Less τ τ'):RelE K ρ H τ' σ:=⟨l.1.trans r.len,fun i d h=>r.at' i d (l.2 i d h)⟩
end Mi
namespace Mi
open PySem L2
noncomputable def opOf:Bop→Operator
  | .add=>.Add
  | .sub=>.Sub
  | .mul=>.Mult
  | .fdiv=>.FloorDiv
  | .mod=>.Mod
  | .pow=>.Pow
noncomputable def copOf:Cop→CmpOp
  | .eq=>.Eq
  | .ne=>.NotEq
  | .lt=>.Lt
  | .le=>.LtE
  | .gt=>.Gt
  | .ge=>.GtE
  | .inn=>.In
  | .nin=>.NotIn
noncomputable def Fin (K:PySem.W.Frag) (ρ:List Addr) (H:Hp) (d:D) (S':Store) (Q:VK):Prop :=
  ∀ (ρ':List Addr) (v:V) (H':Hp),Fut K ρ H ρ' H'→RelS K ρ' S' H'→RelD K ρ' H' d v→Q v H'
variable {K:PySem.W.Frag} {ρ ρ':List Addr} {H H':Hp} {S S':Store} {d:D} {Q:VK}
theorem Fin.now (f:Fin K ρ H d S Q) (r:RelS K ρ S H) {v:V} (q:RelD K ρ H d v):Q v H:=f ρ v H Fut.refl r q
theorem Fin.newT {ds:List D} {xs:List V} (f:Fin K ρ H (.tup ds) S Q) (r:RelS K ρ S H) (q:RelDs K ρ H ds xs):∀ p,H p = none→Q (.ref p) (upd H p (.tup xs)):=fun p n =>
  f ρ _ _ (fut_new0 n) (r.new n) (by simp only [RelD]; exact ⟨p,xs,rfl,SqT.of upd_same,q.fut (fut_new0 n)⟩)
theorem Fin.newL {ds:List D} {xs:List V} (f:Fin K ρ H (.loc S.length) (S ++ [.lst ds]) Q) (r:RelS K ρ S H) (q:RelDs K ρ H ds xs):∀ p,H p = none→Q (.ref p) (upd H p (.lst xs)):=fun p n =>
  f (ρ ++ [p]) _ _ (fut_new n [p]) (r.alloc n q) (by simp only [RelD]; exact ⟨p,rfl,by rw [← r.len,List.getElem?_append_right (Nat.le_refl _),Nat.sub_self]; rfl⟩)
theorem RelD.int_inv {i:Int} {v:V} (h:RelD K ρ H (.int i) v):v = .int i:=by simpa only [RelD] using h
theorem RelD.bl_inv {i:Bool} {v:V} (h:RelD K ρ H (.bl i) v):v = .bl i:=by simpa only [RelD] using h
theorem RelD.str_inv {i:Str} {v:V} (h:RelD K ρ H (.str i) v):v = .str i:=by simpa only [RelD] using h
theorem RelD.non_inv {v:V} (h:RelD K ρ H .non v):v = .non:=by simpa only [RelD] using h
theorem RelD.tup_inv {ds:List D} {v:V} (h:RelD K ρ H (.tup ds) v):∃ a xs,v = .ref a∧SqT K H a xs∧RelDs K ρ H ds xs:=by simpa only [RelD] using h
theorem RelD.kl_inv {ds:List D} {v:V} (h:RelD K ρ H (.kl ds) v):∃ a xs,v = .ref a∧SqF K H a xs∧RelDs K ρ H ds xs:=by simpa only [RelD] using h
theorem RelD.loc_inv {l:Nat} {v:V} (h:RelD K ρ H (.loc l) v):∃ a,v = .ref a∧ρ[l]? = some a:=by simpa only [RelD] using h
theorem RelD.int (i:Int):RelD K ρ H (.int i) (.int i):=by simp only [RelD]
theorem RelD.bl (i:Bool):RelD K ρ H (.bl i) (.bl i):=by simp only [RelD]
theorem RelD.str (i:Str):RelD K ρ H (.str i) (.str i):=by simp only [RelD]
theorem RelD.non:RelD K ρ H .non .non:=by simp only [RelD]
theorem RelS.lst (r:RelS K ρ S H) {l:Nat} {v:V} {ds:List D} (h:RelD K ρ H (.loc l) v) (e:S[l]? = some (.lst ds)):∃ a xs,v = .ref a∧ρ[l]? = some a∧H a = some (.lst xs)∧RelDs K ρ H ds xs:=by
  obtain ⟨a,rfl,ha⟩:=h.loc_inv
  obtain ⟨xs,hx,q⟩:=r.ob l a _ ha e
  exact ⟨a,xs,rfl,ha,hx,q⟩
theorem seqAt_lst {l:Nat} {ds:List D} (e:seqAt S l = some ds):S[l]? = some (.lst ds):=by
  unfold seqAt at e
  split at e
  · cases e; assumption
  · cases e
theorem RelS.seq (r:RelS K ρ S H) {x:D} {v:V} {ds:List D} (h:RelD K ρ H x v) (e:seqOf S x = some ds):∃ a xs,v = .ref a∧(SqL K H a xs ∨ SqT K H a xs)∧RelDs K ρ H ds xs:=by
  unfold seqOf at e
  split at e
  · cases e
    obtain ⟨a,xs,rfl,q,t⟩:=h.tup_inv
    exact ⟨a,xs,rfl,.inr q,t⟩
  · obtain ⟨a,xs,rfl,_,q,t⟩:=r.lst h (seqAt_lst e)
    exact ⟨a,xs,rfl,.inl (SqL.of q),t⟩
  · cases e
    obtain ⟨a,xs,rfl,q,t⟩:=h.kl_inv
    exact ⟨a,xs,rfl,.inl q.sq,t⟩
  · cases e
theorem line_eq:Line = sizeLine:=by rw [sizeLine_eq]; rfl
section
open PySem.Spec PyProof.Rows PyProof
theorem noFill_tuple_mul:fillsNumberSlot (.type "tuple") "mul" = pure false :=
  PySem.fillsNumberSlot_seq (id:="tuple.__mul__") (r:=some (.builtin "tuple.__rmul__")) F.slot_tuple_mul.lookup (by decide +kernel) F.slot_tuple_rmul.lookup (by decide +kernel)
theorem repeat_tuple:seqRepeat? (.type "tuple") = pure (some (.builtin "tuple.__mul__")):=by
  unfold seqRepeat?
  rw [PySem.seqSlot_of (T:="tuple") (name:="__mul__") (id:="tuple.__mul__") F.slot_tuple_mul.lookup (by decide +kernel),PySem.seqSlot_of (T:="tuple") (name:="__rmul__") (id:="tuple.__rmul__") F.slot_tuple_rmul.lookup (by decide +kernel)]
  rfl
section
variable (l:Addr) (items:Array Value) (n:Nat) (dd:Option Addr) (sl:Array (Option Value)) (x:Int) (u:Tok)
theorem rmul_tuple:Meets (Builtin.«int.__rmul__» ⟨[.int x u,.ref l],[]⟩) (fun _ R s=>s.heap.get? l = some { cls:=.type "tuple",dict:=dd,data:=.seq items n,slots:=sl }∧R (.ok (.ret Value.notImplemented)) s) :=
  .of_wp fun prog w A R s h=>by obtain ⟨hp,g,d,tk,os⟩:=s; obtain ⟨hl,h⟩:=h; wp_walk; exact ⟨_,rfl,h⟩
theorem tmul_same (h1:(decide (x < -2 ^ 63) || decide (x ≥ 2 ^ 63)) = false) (h2:(items.isEmpty || x == 1) = true):Meets (Builtin.«tuple.__mul__» ⟨[.ref l,.int x u],[]⟩) (fun _ R s=>s.heap.get? l = some { cls:=.type "tuple",dict:=dd,data:=.seq items n,slots:=sl }∧R (.ok (.ret (.ref l))) s) :=
  .of_wp fun prog w A R s h=>by
    obtain ⟨hp,g,d,tk,os⟩:=s; obtain ⟨hl,h⟩:=h
    wp_walk
    refine wpAny_ite_false (by rw [h1]; rfl) ?_
    wp_walk using wpAny_loadPart' hl
    exact ⟨_,rfl,h⟩
theorem tmul_none (h1:(decide (x < -2 ^ 63) || decide (x ≥ 2 ^ 63)) = false) (h2:(items.isEmpty || x == 1) = false) (h3:(decide (x ≤ 0) || items.isEmpty) = true):Meets (Builtin.«tuple.__mul__» ⟨[.ref l,.int x u],[]⟩) (fun _ R s=>s.heap.get? l = some { cls:=.type "tuple",dict:=dd,data:=.seq items n,slots:=sl }∧R (.ok (.ret (.ref s.heap.objs.size))) { s with heap:=s.heap.push { cls:=.type "tuple",data:=.seq #[] } }) :=
  .of_wp fun prog w A R s h=>by
    obtain ⟨hp,g,d,tk,os⟩:=s; obtain ⟨hl,h⟩:=h
    wp_walk
    refine wpAny_ite_false (by rw [h1]; rfl) ?_
    wp_walk using wpAny_loadPart' hl
    exact ⟨_,rfl,h⟩
theorem tmul_many (h1:(decide (x < -2 ^ 63) || decide (x ≥ 2 ^ 63)) = false) (h2:(items.isEmpty || x == 1) = false) (h3:(decide (x ≤ 0) || items.isEmpty) = false) (h4:¬ (items.size * x > (2 ^ 63 - 1) / 8)) (h5:Builtin.Tuple.tupleTooMany (items.size * x) = false) (h6:((List.replicate x.toNat items).foldl (· ++ ·) #[]).size ≤ sizeLine):Meets (Builtin.«tuple.__mul__» ⟨[.ref l,.int x u],[]⟩) (fun _ R s=>s.heap.get? l = some { cls:=.type "tuple",dict:=dd,data:=.seq items n,slots:=sl }∧R (.ok (.ret (.ref s.heap.objs.size))) { s with heap:=s.heap.push { cls:=.type "tuple",data:=.seq ((List.replicate x.toNat items).foldl (· ++ ·) #[]) } }) :=
  .of_wp fun prog w A R s h=>by
    obtain ⟨hp,g,d,tk,os⟩:=s; obtain ⟨hl,h⟩:=h
    wp_walk
    refine wpAny_ite_false (by rw [h1]; rfl) ?_
    wp_walk using wpAny_loadPart' hl
    refine wpAny_ite_false (decide_eq_false h4) ?_
    wp_walk
    exact ⟨_,rfl,h⟩
end
section
open L2
variable {X:Cx}
theorem op_catT0:OpR X (binaryOp .Add) (fun x y H Q=>∃ a b ys,x = .ref a∧y = .ref b∧SqT X.K H a []∧SqT X.K H b ys∧Q (.ref b) H):=by
  intro pins s σ H x y v u Q I rx ry h
  obtain ⟨a,b,ys,rfl,rfl,ha,hb,q⟩:=h
  cases rx
  cases ry
  obtain ⟨its,r1,p1,_⟩:=I.tuple ha
  obtain ⟨its2,r2,p2,_⟩:=I.tuple hb
  have hn:its = []:=r1.nil_iff.mpr rfl
  subst hn
  obtain ⟨⟨cls,dd,data,sl⟩,ho,hc,n,hd⟩:=id p1
  obtain ⟨⟨cls2,dd2,data2,sl2⟩,ho2,hc2,n2,hd2⟩:=id p2
  simp only at hc hd hc2 hd2
  subst hc hd hc2 hd2
  exact PySem.concat_meets ⟨_,ho,rfl⟩ ⟨_,ho2,rfl⟩ PySem.noFill_tuple_add PySem.seq_tuple_add PySem.F.slot_tuple_add PySem.F.entry_tuple_add (PySem.F.args_tuple_add_2 _ _) (PyProof.Rows.tuple_addW0 a b #[] its2.toArray n n2 dd dd2 sl sl2 rfl) ⟨ho,ho2,⟨.ref b,H,I,rfl,q⟩⟩
noncomputable def rRepT (K:PySem.W.Frag):R2:=fun x y H Q=>∃ a k xs,x = .ref a∧y = .int k∧SqT K H a xs∧-(2 ^ 63) ≤ k∧k < 2 ^ 63∧xs.length * k.toNat ≤ sizeLine ∧
  (∀ ys,ys = (List.replicate k.toNat xs).flatten→(ys = xs→Q (.ref a) H)∧∀ p,H p = none→Q (.ref p) (upd H p (.tup ys)))
theorem op_repT:OpR X (binaryOp .Mult) (rRepT X.K):=by
  intro pins s σ H x y v u Q I rx ry hq_
  obtain ⟨a,k,xs,e1,e2,sq,h1,h2,hz,q⟩:=hq_
  subst e1 e2
  cases rx
  obtain ⟨t,rfl⟩:=ry
  obtain ⟨its,r,pl,_⟩:=I.tuple sq
  obtain ⟨⟨cls,dd,data,sl⟩,ho,hc,n,hd⟩:=id pl
  simp only at hc hd
  subst hc hd
  have hlen:its.length = xs.length:=r.length.symm
  have hb:(decide (k < -2 ^ 63) || decide (k ≥ 2 ^ 63)) = false:=by simp; omega
  have f0:∀ m:Nat,List.foldl (fun x1 x2=>x1 ++ x2) #[] (List.replicate m its.toArray) = (List.replicate m its).flatten.toArray:=fun m=>by
    have:=foldl_rep its m []
    rw [List.nil_append] at this
    exact this
  obtain ⟨q1,q2⟩:=q _ rfl
  refine wpAny_binaryOp_repeat_ref (T:="tuple") (U:="int") (by decide) ⟨_,ho,rfl⟩ (fun s'=>typeIs_int s' k t) noFill_tuple_mul F.fills_int_mul F.slot_int_rmul repeat_tuple F.slot_int_index.lookup
    (call_meets F.slot_int_rmul (typeIs_int s k t) F.entry_int_rmul (F.args_int_rmul_2 _ _) (rmul_tuple a its.toArray n dd sl k t) ⟨ho,rfl,⟨_,ho,rfl⟩,?_⟩)
  have newT:∀ (zs:List Value) (ys:List V),Vals ys zs→ys.length ≤ sizeLine→ys = (List.replicate k.toNat xs).flatten→EP X pins σ Q (.ref s.heap.objs.size) { s with heap:=s.heap.push { cls:=.type "tuple",data:=.seq zs.toArray } }:=fun zs ys rv hl ey=>by
    subst ey
    have hn:H s.heap.objs.size = none:=I.hok.fresh (Nat.le_refl _)
    refine ⟨.ref s.heap.objs.size,_,?_,rfl,q2 _ hn⟩
    refine I.laid (t':=s.toks) (fun b o e=>Heap.get?_push_of_some _ e) (Nat.le_refl _) ⟨hl,zs,rv,?_⟩
    exact ⟨_,Heap.get?_push_size s.heap rfl,rfl,0,rfl⟩
  cases hs:(its.toArray.isEmpty || k == 1) with
  | true =>
    refine call_meets F.slot_tuple_mul ⟨_,ho,rfl⟩ F.entry_tuple_mul (F.args_tuple_mul_2 _ _) (tmul_same a its.toArray n dd sl k t hb hs) ⟨ho,.ref a,H,I,rfl,q1 ?_⟩
    simp only [Bool.or_eq_true,beq_iff_eq] at hs
    rcases hs with hs | hs
    · have:its = []:=by simpa using hs
      subst this
      have:xs = []:=List.length_eq_zero_iff.mp hlen.symm
      subst this
      simp
    · subst hs
      simp
  | false =>
    cases hs2:(decide (k ≤ 0) || its.toArray.isEmpty) with
    | true =>
      refine call_meets F.slot_tuple_mul ⟨_,ho,rfl⟩ F.entry_tuple_mul (F.args_tuple_mul_2 _ _) (tmul_none a its.toArray n dd sl k t hb hs hs2) ⟨ho,newT [] [] .nil (by simp) ?_⟩
      simp only [Bool.or_eq_true,decide_eq_true_eq] at hs2
      rcases hs2 with hs2 | hs2
      · rw [show k.toNat = 0 by omega]; rfl
      · simp only [Bool.or_eq_false_iff] at hs
        rw [hs.1] at hs2
        cases hs2
    | false =>
      have hk:0 < k:=by simp only [Bool.or_eq_false_iff,decide_eq_false_iff_not] at hs2; omega
      have hkk:(k.toNat:Int) = k:=by omega
      have hsz:(its.toArray.size:Int) * k = ((xs.length * k.toNat:Nat):Int):=by
        rw [List.size_toArray,hlen]
        push_cast
        rw [hkk]
      have hfl:((List.replicate k.toNat its).flatten).length = xs.length * k.toNat:=by
        rw [len_rep,hlen,Nat.mul_comm]
      have h4:¬ ((its.toArray.size:Int) * k > (2 ^ 63 - 1) / 8):=by
        rw [hsz]
        have:(sizeLine:Nat) ≤ 1000000000000:=by rw [sizeLine_eq]; decide
        omega
      have h5:Builtin.Tuple.tupleTooMany ((its.toArray.size:Int) * k) = false:=by
        rw [hsz]
        simp only [Builtin.Tuple.tupleTooMany,decide_eq_false_iff_not]
        omega
      refine call_meets F.slot_tuple_mul ⟨_,ho,rfl⟩ F.entry_tuple_mul (F.args_tuple_mul_2 _ _) (tmul_many a its.toArray n dd sl k t hb hs hs2 h4 h5 (by rw [f0]; simp only [List.size_toArray]; omega)) ⟨ho,?_⟩
      rw [f0]
      exact newT _ _ (r.rep k.toNat) (by rw [len_rep,Nat.mul_comm]; exact hz) rfl
end
end
noncomputable def rB (K:PySem.W.Frag) (o:Bop):R2:=fun x y H Q=>∃ ρ S dx dy d S',RelS K ρ S H∧RelD K ρ H dx x∧RelD K ρ H dy y∧bop o dx dy S = .ok d S'∧Fin K ρ H d S' Q
theorem bits_of {i:Int} (h:i.natAbs < 2 ^ 4096):Builtin.Int.intBits i ≤ 2 ^ 20:=by
  unfold Builtin.Int.intBits
  split
  · exact Nat.zero_le _
  · have hp:i.natAbs ≠ 0:=by
      rename_i z
      intro e
      exact z (by simp [Int.natAbs_eq_zero.mp e])
    have:i.natAbs.log2 < 4096:=(Nat.log2_lt hp).mpr h
    have:(2:Nat) ^ 20 = 1048576:=by decide
    omega
theorem log2_of {n:Nat} (h:n < 2 ^ 4096):n.log2 < 9000:=by
  by_cases e:n = 0
  · subst e; decide +kernel
  · have:=(Nat.log2_lt e).mpr h
    omega
section
variable {X:Cx}
theorem op_mulB:OpR X (binaryOp .Mult) (rI (fun i j=>(small i || small j || (mid i && mid j)) = true) fun i j=>.int (i * j)):=opI fun i j _ _ _ _ _ hc q=>PyProof.Rows.mul_int q (by
  simp only [Bool.or_eq_true,Bool.and_eq_true,small,mid,decide_eq_true_eq] at hc
  rcases hc with (h | h) | h
  · exact CMul.ok (.inl h)
  · exact CMul.ok (.inr h)
  · exact IntMulOk.of_bits (bits_of h.1) (bits_of h.2))
theorem op_fdivB:OpR X (binaryOp .FloorDiv) (rI (fun _ j=>0 < j∧j.natAbs < 2 ^ 4096) fun i j=>.int (i / j)):=opI fun i j _ _ _ _ _ hc q=>by
  refine PyProof.Rows.floordiv_int (by omega) ?_ (.inl (PyProof.noPylong_of_log2 (log2_of hc.2)))
  rw [Int.fdiv_eq_ediv_of_nonneg i (by omega)]
  exact q
theorem mul_ok {x:Str} {n:Int} (h1:1 < n) (h2:n ≤ 1000) (h3:x.length ≤ 1000):MulOk x n:=by
  refine ⟨?_,fun _ _=>?_,fun _ _=>?_⟩
  · rw [Bool.or_eq_false_iff,decide_eq_false_iff_not,decide_eq_false_iff_not]
    omega
  · have:(1000:Int) ≤ (2 ^ 63 - 1) / n:=by
      rw [Int.le_ediv_iff_mul_le (by omega)]
      omega
    omega
  · have:x.length * n.toNat ≤ 1000 * 1000:=Nat.mul_le_mul h3 (by omega)
    unfold Builtin.Str.tooLong
    simp only [decide_eq_false_iff_not,sizeLine_eq]
    omega
theorem bop_ok (o:Bop):OpR X (binaryOp (opOf o)) (rB X.K o):=by
  intro pins s σ H x y v u Q I rx ry hq_
  obtain ⟨ρ,S,dx,dy,d,S',rs,r1,r2,e,fin⟩:=hq_
  cases o with
  | add =>
    cases dx<;>cases dy<;>first | exact absurd e bad_ne | simp only [rbop_0,rbop_1,rbop_2,rbop_3,rbop_11] at e
    · cases e
      cases r1.int_inv; cases r2.int_inv
      exact op_add pins s σ H _ _ v u Q I rx ry ⟨_,_,rfl,rfl,fin.now rs (RelD.int _)⟩
    · split at e
      · rename_i hl
        cases e
        cases r1.str_inv; cases r2.str_inv
        exact op_add_str pins s σ H _ _ v u Q I rx ry ⟨_,_,rfl,rfl,by rw [← line_eq]; exact hl,fin.now rs (RelD.str _)⟩
      · cases e
    · split at e
      · rename_i hl
        cases e
        obtain ⟨a,xs,rfl,q1,t1⟩:=r1.tup_inv
        obtain ⟨b,ys,rfl,q2,t2⟩:=r2.tup_inv
        by_cases hds:xs = []
        · subst hds
          have:=t1.length
          rw [List.length_nil] at this
          have ea:=List.length_eq_zero_iff.mp this
          subst ea
          refine op_catT0 pins s σ H _ _ v u Q I rx ry ⟨a,b,ys,rfl,rfl,q1,q2,fin.now rs ?_⟩
          simp only [RelD,List.nil_append]
          exact ⟨b,ys,rfl,q2,t2⟩
        refine op_catT pins s σ H _ _ v u Q I rx ry ⟨a,b,xs,ys,rfl,rfl,q1,q2,hds,?_,fun ey=>?_,fun _=>fin.newT rs (t1.append t2)⟩
        · rw [← t1.length,← t2.length,← line_eq]; exact hl
        · subst ey
          have:=t2.length
          rw [List.length_nil] at this
          have eb:=List.length_eq_zero_iff.mp this
          subst eb
          refine fin.now rs ?_
          simp only [RelD,List.append_nil]
          exact ⟨a,xs,rfl,q1,t1⟩
      · cases e
    · split at e
      · rename_i a b ha hb
        split at e
        · rename_i hl
          cases e
          obtain ⟨p,xs,rfl,_,q1,t1⟩:=rs.lst r1 ha
          obtain ⟨p2,ys,rfl,_,q2,t2⟩:=rs.lst r2 hb
          exact op_cat pins s σ H _ _ v u Q I rx ry ⟨p,p2,xs,ys,rfl,rfl,q1,q2,by rw [← t1.length,← t2.length,← line_eq]; exact hl,fin.newL rs (t1.append t2)⟩
        · cases e
      · cases e
    · split at e
      · rename_i b hb
        split at e
        · rename_i hl
          cases e
          obtain ⟨p,xs,rfl,q1,t1⟩:=r1.kl_inv
          obtain ⟨p2,ys,rfl,_,q2,t2⟩:=rs.lst r2 hb
          exact op_catF pins s σ H _ _ v u Q I rx ry ⟨p,p2,xs,ys,rfl,rfl,q1.sq,SqL.of q2,by rw [← t1.length,← t2.length,← line_eq]; exact hl,fin.newL rs (t1.append t2)⟩
        · cases e
      · cases e
  | sub =>
    cases dx<;>cases dy<;>first | exact absurd e bad_ne | simp only [rbop_4] at e
    cases e
    cases r1.int_inv; cases r2.int_inv
    exact op_sub pins s σ H _ _ v u Q I rx ry ⟨_,_,rfl,rfl,fin.now rs (RelD.int _)⟩
  | mul =>
    cases dx<;>cases dy<;>first | exact absurd e bad_ne | simp only [rbop_5,rbop_13,rbop_6,rbop_7] at e
    · split at e
      · rename_i hl
        cases e
        cases r1.int_inv; cases r2.int_inv
        exact op_mulB pins s σ H _ _ v u Q I rx ry ⟨_,_,rfl,rfl,hl,fin.now rs (RelD.int _)⟩
      · cases e
    · split at e
      · rename_i hl
        simp only [Bool.and_eq_true,decide_eq_true_eq] at hl
        cases e
        cases r1.str_inv; cases r2.int_inv
        obtain ⟨t1,rfl⟩:=rx
        obtain ⟨t2,rfl⟩:=ry
        exact SB.mul (mul_ok hl.1.1.1 hl.1.1.2 hl.2) fun t' k=>⟨.str _,H,I.tok _,⟨t',rfl⟩,fin.now rs (RelD.str _)⟩
      · cases e
    · split at e
      · rename_i hl
        simp only [Bool.and_eq_true,decide_eq_true_eq] at hl
        cases e
        obtain ⟨a,xs,rfl,q1,t1⟩:=r1.tup_inv
        cases r2.int_inv
        refine op_repT pins s σ H _ _ v u Q I rx ry ⟨a,_,xs,rfl,rfl,q1,hl.1.1,hl.1.2,by rw [← t1.length,← line_eq]; exact hl.2,fun ys ey=>⟨fun e=>?_,?_⟩⟩
        · have t2:=t1.rep (Int.toNat ‹Int›)
          rw [← ey,e] at t2
          refine fin.now rs ?_
          simp only [RelD]
          exact ⟨a,xs,rfl,q1,t2⟩
        · subst ey
          exact fin.newT rs (t1.rep _)
      · cases e
    · split at e
      · rename_i a ha
        split at e
        · rename_i hl
          simp only [Bool.and_eq_true,decide_eq_true_eq] at hl
          cases e
          obtain ⟨p,xs,rfl,_,q1,t1⟩:=rs.lst r1 ha
          cases r2.int_inv
          refine op_rep pins s σ H _ _ v u Q I rx ry ⟨p,_,xs,rfl,rfl,q1,hl.1.1,hl.1.2,by rw [← t1.length,← line_eq]; exact hl.2,?_⟩
          exact fin.newL rs (t1.rep _)
        · cases e
      · cases e
  | fdiv =>
    cases dx<;>cases dy<;>first | exact absurd e bad_ne | simp only [rbop_8] at e
    split at e
    · rename_i hl
      cases e
      cases r1.int_inv; cases r2.int_inv
      exact op_fdivB pins s σ H _ _ v u Q I rx ry ⟨_,_,rfl,rfl,hl,fin.now rs (RelD.int _)⟩
    · cases e
  | mod =>
    cases dx<;>cases dy<;>first | exact absurd e bad_ne | simp only [rbop_9] at e
    split at e
    · rename_i hl
      cases e
      cases r1.int_inv; cases r2.int_inv
      exact op_mod pins s σ H _ _ v u Q I rx ry ⟨_,_,rfl,rfl,hl,fin.now rs (RelD.int _)⟩
    · cases e
  | pow =>
    cases dx<;>cases dy<;>first | exact absurd e bad_ne | simp only [rbop_10] at e
    split at e
    · rename_i hl
      simp only [Bool.and_eq_true,decide_eq_true_eq] at hl
      cases e
      cases r1.int_inv; cases r2.int_inv
      exact op_pow pins s σ H _ _ v u Q I rx ry ⟨_,_,rfl,rfl,⟨hl.1.1,hl.1.2,hl.2⟩,fin.now rs (RelD.int _)⟩
    · cases e
end
theorem in1_units (A:Around):A.in1.units = A.units + 1:=rfl
section
variable {X:Cx} {pins:List (Addr × PySem.Obj)} {σ:L2.St} {s:Shared}
theorem rcAt_V {A:Around} {s:Shared} {y x:V} {u v:Value} (ry:RelV y u) (rx:RelV x v) (fy:flatV y = true) (fx:flatV x = true):SeqAt.RcAt A s u v (eqV y x):=by
  cases y with
  | non =>
    cases ry
    cases x with
    | non=>cases rx; exact SeqAt.RcAt.none_none
    | bl b=>cases rx; exact SeqAt.RcAt.none_bool b
    | int b=>obtain ⟨t,rfl⟩:=rx; exact SeqAt.RcAt.none_int b t
    | str b=>obtain ⟨t,rfl⟩:=rx; exact SeqAt.RcAt.none_str b t
    | _=>exact absurd (show false = true from fx) Bool.false_ne_true
  | bl a =>
    cases ry
    cases x with
    | non=>cases rx; exact SeqAt.RcAt.bool_none a
    | bl b=>cases rx; exact SeqAt.RcAt.bool_bool a b
    | int b=>obtain ⟨t,rfl⟩:=rx; exact SeqAt.RcAt.bool_int a b t
    | str b=>obtain ⟨t,rfl⟩:=rx; exact SeqAt.RcAt.bool_str a b t
    | _=>exact absurd (show false = true from fx) Bool.false_ne_true
  | int a =>
    obtain ⟨t',rfl⟩:=ry
    cases x with
    | non=>cases rx; exact SeqAt.RcAt.int_none a t'
    | bl b=>cases rx; exact SeqAt.RcAt.int_bool a t' b
    | int b=>obtain ⟨t,rfl⟩:=rx; exact SeqAt.RcAt.int_int a t' b t
    | str b=>obtain ⟨t,rfl⟩:=rx; exact SeqAt.RcAt.int_str a t' b t
    | _=>exact absurd (show false = true from fx) Bool.false_ne_true
  | str a =>
    obtain ⟨t',rfl⟩:=ry
    cases x with
    | non=>cases rx; exact SeqAt.RcAt.str_none a t'
    | bl b=>cases rx; exact SeqAt.RcAt.str_bool a t' b
    | int b=>obtain ⟨t,rfl⟩:=rx; exact SeqAt.RcAt.str_int a t' b t
    | str b=>obtain ⟨t,rfl⟩:=rx; exact SeqAt.RcAt.str_str a t' b t
    | _=>exact absurd (show false = true from fx) Bool.false_ne_true
  | _=>exact absurd (show false = true from fy) Bool.false_ne_true
theorem scal_rel {x:D} {v w:V} (h:RelD K ρ H x v) (e:scalV x = some w):v = w∧flatV w = true:=by
  cases x<;>simp only [scalV] at e<;>try (cases e; done)
  · cases e; exact ⟨h.non_inv,rfl⟩
  · cases e; exact ⟨h.bl_inv,rfl⟩
  · cases e; exact ⟨h.int_inv,rfl⟩
  · cases e; exact ⟨h.str_inv,rfl⟩
theorem eqL_len {f:D→D→Option Bool}:∀ {as bs:List D} {b:Bool},eqL f as bs = some b→as.length = bs.length→∀ (i:Nat) (x y:D),as[i]? = some x→bs[i]? = some y→∃ c,f x y = some c
  | [],[],b,_,_,i,x,y,h1,_=>by simp at h1
  | [],_ :: _,b,_,hl,i,x,y,h1,_=>by simp at h1
  | _ :: _,[],b,_,hl,i,x,y,_,h2=>by simp at h2
  | a :: as,c :: bs,b,e,hl,i,x,y,h1,h2=>by
    simp only [eqL] at e
    split at e
    · rename_i p q hp hq
      cases i with
      | zero=>simp at h1 h2; subst h1 h2; exact ⟨p,hp⟩
      | succ i=>exact eqL_len hq (by simpa using hl) i x y (by simpa using h1) (by simpa using h2)
    · cases e
theorem eqL_all {f:D→D→Option Bool} (e:Nat→Bool):∀ {as bs:List D} {b:Bool} (k:Nat),eqL f as bs = some b→as.length = bs.length→(∀ (i:Nat) (x y:D),as[i]? = some x→bs[i]? = some y→f x y = some (e (k + i)))→b = ((List.range as.length).map (k + ·)).all e
  | [],[],b,k,h,_,_=>by simp only [eqL] at h; cases h; rfl
  | [],_ :: _,b,k,h,hl,_=>by simp at hl
  | _ :: _,[],b,k,h,hl,_=>by simp at hl
  | a :: as,c :: bs,b,k,h,hl,hf=>by
    simp only [eqL] at h
    split at h
    · rename_i p q hp hq
      cases h
      have h0:=hf 0 a c rfl rfl
      rw [hp] at h0
      have h0:p = e (k + 0):=Option.some.inj h0
      have h1:=eqL_all e (k + 1) hq (by simpa using hl) fun i x y e1 e2=>by
        have:=hf (i + 1) x y (by simpa using e1) (by simpa using e2)
        rw [show k + 1 + i = k + (i + 1) from by omega]
        exact this
      rw [h0,h1,List.length_cons,List.range_succ_eq_map,List.map_cons,List.all_cons,List.map_map]
      congr 2
      refine List.map_congr_left fun i _=>?_
      show k + 1 + i = k + (i + 1)
      omega
    · cases h
theorem eqD_self (I:Inv X pins σ H s) (r:RelS X.K ρ S H):∀ (n:Nat) {x y:D} {v:V} {b:Bool},RelD X.K ρ H x v→RelD X.K ρ H y v→eqD S n x y = some b→b = true:=by
  have sc:∀ {x y:D} {v w z:V} {b:Bool},RelD X.K ρ H x v→RelD X.K ρ H y v→scalV x = some w→scalV y = some z→some (eqV w z) = some b→b = true:=fun {x y v w z b} h1 h2 e1 e2 e=>by
    obtain ⟨rfl,f1⟩:=scal_rel h1 e1
    obtain ⟨rfl,f2⟩:=scal_rel h2 e2
    cases e
    cases v<;>simp_all [flatV,eqV]
  intro n
  induction n with
  | zero =>
    intro x y v b h1 h2 e
    simp only [eqD] at e
    split at e
    · rename_i w z e1 e2
      exact sc h1 h2 e1 e2 e
    · cases e
  | succ n ih =>
    intro x y v b h1 h2 e
    have ihL:∀ {as bs:List D} {vs:List V} {b:Bool},RelDs X.K ρ H as vs→RelDs X.K ρ H bs vs→eqL (eqD S n) as bs = some b→b = true:=by
      intro as
      induction as with
      | nil =>
        intro bs vs b h1 h2 e
        cases bs with
        | nil=>simp only [eqL] at e; cases e; rfl
        | cons c bs =>
          rw [h1.inv_nil] at h2
          obtain ⟨_,_,z,_⟩:=h2.inv_cons
          cases z
      | cons a as iha =>
        intro bs vs b h1 h2 e
        obtain ⟨w,ws,rfl,q1,t1⟩:=h1.inv_cons
        cases bs with
        | nil=>cases h2.inv_nil
        | cons c bs =>
          obtain ⟨w',ws',z,q2,t2⟩:=h2.inv_cons
          cases z
          simp only [eqL] at e
          split at e
          · rename_i p q hp hq
            cases e
            rw [ih q1 q2 hp,iha t1 t2 hq]
            rfl
          · cases e
    simp only [eqD] at e
    split at e
    · rename_i as bs
      obtain ⟨a,xs,rfl,p1,t1⟩:=h1.tup_inv
      obtain ⟨a',xs',e',p2,t2⟩:=h2.tup_inv
      cases e'
      cases I.tuple_inj p1 p2
      have hl:as.length = bs.length:=t1.length.trans t2.length.symm
      rw [if_pos hl] at e
      exact ihL t1 t2 e
    · rename_i l k
      obtain ⟨a,rfl,p1⟩:=h1.loc_inv
      obtain ⟨a',e',p2⟩:=h2.loc_inv
      cases e'
      have hlk:l = k:=nodup_get r.nd p1 p2
      subst hlk
      split at e
      · rename_i as bs e1 e2
        rw [e1] at e2
        cases e2
        rw [if_pos rfl] at e
        obtain ⟨b',xs,_,_,_,t⟩:=r.lst h1 (seqAt_lst e1)
        exact ihL t t e
      · cases e
    · split at e
      · rename_i w z e1 e2
        exact sc h1 h2 e1 e2 e
      · cases e
end
end Mi
namespace Mi
open PySem L2
theorem rcNeAt_V {A:Around} {s:Shared} {y x:V} {u v:Value} (ry:RelV y u) (rx:RelV x v) (fy:flatV y = true) (fx:flatV x = true):SeqAt.RcNeAt A s u v (!eqV y x):=by
  cases y with
  | non =>
    cases ry
    cases x with
    | non=>cases rx; exact SeqAt.RcNeAt.none_none
    | bl b=>cases rx; exact SeqAt.RcNeAt.none_bool b
    | int b=>obtain ⟨t,rfl⟩:=rx; exact SeqAt.RcNeAt.none_int b t
    | str b=>obtain ⟨t,rfl⟩:=rx; exact SeqAt.RcNeAt.none_str b t
    | _=>exact absurd (show false = true from fx) Bool.false_ne_true
  | bl a =>
    cases ry
    cases x with
    | non=>cases rx; exact SeqAt.RcNeAt.bool_none a
    | bl b=>cases rx; exact SeqAt.RcNeAt.bool_bool a b
    | int b=>obtain ⟨t,rfl⟩:=rx; exact SeqAt.RcNeAt.bool_int a b t
    | str b=>obtain ⟨t,rfl⟩:=rx; exact SeqAt.RcNeAt.bool_str a b t
    | _=>exact absurd (show false = true from fx) Bool.false_ne_true
  | int a =>
    obtain ⟨t',rfl⟩:=ry
    cases x with
    | non=>cases rx; exact SeqAt.RcNeAt.int_none a t'
    | bl b=>cases rx; exact SeqAt.RcNeAt.int_bool a t' b
    | int b=>obtain ⟨t,rfl⟩:=rx; exact SeqAt.RcNeAt.int_int a t' b t
    | str b=>obtain ⟨t,rfl⟩:=rx; exact SeqAt.RcNeAt.int_str a t' b t
    | _=>exact absurd (show false = true from fx) Bool.false_ne_true
  | str a =>
    obtain ⟨t',rfl⟩:=ry
    cases x with
    | non=>cases rx; exact SeqAt.RcNeAt.str_none a t'
    | bl b=>cases rx; exact SeqAt.RcNeAt.str_bool a t' b
    | int b=>obtain ⟨t,rfl⟩:=rx; exact SeqAt.RcNeAt.str_int a t' b t
    | str b=>obtain ⟨t,rfl⟩:=rx; exact SeqAt.RcNeAt.str_str a t' b t
    | _=>exact absurd (show false = true from fx) Bool.false_ne_true
  | _=>exact absurd (show false = true from fy) Bool.false_ne_true
section
variable {X:Cx} {pins:List (Addr × PySem.Obj)} {σ:L2.St} {s:Shared} {ρ:List Addr} {H:Hp} {S:Store}
structure EqAll (A:Around) (s:Shared) (u w:Value) (b:Bool):Prop where
  eq:SeqAt.EqAt A s u w b
  rc:SeqAt.RcAt A s u w b
  ne:SeqAt.RcNeAt A s u w (!b)
theorem eqV_all {A:Around} {x y:D} {vx vy p q:V} {u w:Value} {b:Bool} (h1:RelD X.K ρ H x vx) (h2:RelD X.K ρ H y vy) (r1:RelV vx u) (r2:RelV vy w) (e1:scalV x = some p) (e2:scalV y = some q) (e:some (eqV p q) = some b):EqAll A s u w b:=by
  obtain ⟨rfl,f1⟩:=scal_rel h1 e1
  obtain ⟨rfl,f2⟩:=scal_rel h2 e2
  cases e
  exact ⟨eqAt_V r1 r2 f1 f2,rcAt_V r1 r2 f1 f2,rcNeAt_V r1 r2 f1 f2⟩
theorem pair_of {as bs:List D} {xs ys:List V} {us ws:List Value} (t1:RelDs X.K ρ H as xs) (t2:RelDs X.K ρ H bs ys) (v1:Vals xs us) (v2:Vals ys ws) {j:Nat} (h1:j < us.toArray.size) (h2:j < ws.toArray.size) :
    ∃ a b v z,as[j]? = some a∧bs[j]? = some b∧RelD X.K ρ H a v∧RelD X.K ρ H b z∧RelV v us.toArray[j]∧RelV z ws.toArray[j]:=by
  have l1:j < as.length:=by rw [t1.length,v1.length]; simpa using h1
  have l2:j < bs.length:=by rw [t2.length,v2.length]; simpa using h2
  obtain ⟨v,e1,q1⟩:=t1.get (List.getElem?_eq_getElem l1)
  obtain ⟨z,e2,q2⟩:=t2.get (List.getElem?_eq_getElem l2)
  obtain ⟨u',e3,q3⟩:=v1.get e1
  obtain ⟨w',e4,q4⟩:=v2.get e2
  refine ⟨_,_,v,z,List.getElem?_eq_getElem l1,List.getElem?_eq_getElem l2,q1,q2,?_,?_⟩
  · have:us.toArray[j] = u':=by
      have:=List.getElem?_eq_some_iff.mp e3
      obtain ⟨_,e⟩:=this
      simpa using e
    rw [this]; exact q3
  · have:ws.toArray[j] = w':=by
      have:=List.getElem?_eq_some_iff.mp e4
      obtain ⟨_,e⟩:=this
      simpa using e
    rw [this]; exact q4
theorem eqD_at (I:Inv X pins σ H s) (r:RelS X.K ρ S H):∀ (n:Nat) {A:Around} {x y:D} {vx vy:V} {u w:Value} {b:Bool},A.units + n < cLine→RelD X.K ρ H x vx→RelD X.K ρ H y vy→RelV vx u→RelV vy w→eqD S n x y = some b→EqAll A s u w b:=by
  intro n
  induction n with
  | zero =>
    intro A x y vx vy u w b hu h1 h2 r1 r2 e
    simp only [eqD] at e
    split at e
    · rename_i p q e1 e2
      exact eqV_all h1 h2 r1 r2 e1 e2 e
    · cases e
  | succ n ih =>
    intro A x y vx vy u w b hu h1 h2 r1 r2 e
    have e0:=e
    have hu0:A.units < cLine:=by omega
    have hu1:A.in1.units + n < cLine:=by rw [in1_units]; omega
    simp only [eqD] at e
    split at e
    · rename_i as bs
      obtain ⟨a,xs,rfl,p1,t1⟩:=h1.tup_inv
      obtain ⟨c,ys,rfl,p2,t2⟩:=h2.tup_inv
      cases r1
      cases r2
      obtain ⟨us,v1,i1,z1⟩:=I.tuple p1
      obtain ⟨ws,v2,i2,z2⟩:=I.tuple p2
      have s1:us.toArray.size = as.length:=by rw [List.size_toArray,← v1.length,t1.length]
      have s2:ws.toArray.size = bs.length:=by rw [List.size_toArray,← v2.length,t2.length]
      let ev:Nat→Bool:=fun j=>match as[j]?,bs[j]? with | some p,some q=>(eqD S n p q).getD false | _,_=>false
      have he:∀ (hs:∀ (j:Nat) (p q:D),as[j]? = some p→bs[j]? = some q→∃ c,eqD S n p q = some c) (j:Nat) (g1:j < us.toArray.size) (g2:j < ws.toArray.size),SeqAt.EqAt A.in1 s us.toArray[j] ws.toArray[j] (ev j):=fun hs j g1 g2=>by
        obtain ⟨p,q,v,z,a1,a2,q1,q2,q3,q4⟩:=pair_of t1 t2 v1 v2 g1 g2
        obtain ⟨c,hc⟩:=hs j p q a1 a2
        have:ev j = c:=by simp only [ev,a1,a2,hc]; rfl
        rw [this]
        exact (ih hu1 q1 q2 q3 q4 hc).eq
      have fin:∀ (hs:∀ (j:Nat) (p q:D),as[j]? = some p→bs[j]? = some q→∃ c,eqD S n p q = some c),((List.range (min us.toArray.size ws.toArray.size)).all ev && us.toArray.size == ws.toArray.size) = b→EqAll A s (.ref a) (.ref c) b:=fun hs hb=>by
        have rc:=SeqAt.RcAt.tuples (show s.heap.IsTuple a us.toArray from i1) (show s.heap.IsTuple c ws.toArray from i2) hu0 (he hs)
        have ne:=SeqAt.RcNeAt.tuples (show s.heap.IsTuple a us.toArray from i1) (show s.heap.IsTuple c ws.toArray from i2) hu0 (he hs)
        rw [hb] at rc ne
        refine ⟨?_,rc,ne⟩
        by_cases hac:a = c
        · subst hac
          have:=eqD_self I r (n + 1) h1 h2 e0
          subst this
          exact SeqAt.EqAt.same _
        · exact SeqAt.EqAt.of_refs hac rc
      split at e
      · rename_i hl
        refine fin (fun j p q a1 a2=>eqL_len e hl j p q a1 a2) ?_
        rw [s1,s2,hl,Nat.min_self,beq_self_eq_true,Bool.and_true]
        rw [eqL_all ev 0 e hl fun j p q a1 a2=>?_]
        · rw [hl]
          congr 1
          exact (List.map_id' _).symm.trans (List.map_congr_left fun j _=>(Nat.zero_add j).symm)
        · obtain ⟨c',hc'⟩:=eqL_len e hl j p q a1 a2
          rw [hc',Nat.zero_add]
          simp only [ev,a1,a2,hc']
          rfl
      · rename_i hl
        split at e
        · rename_i hsome
          cases e
          obtain ⟨b',hb'⟩:=Option.isSome_iff_exists.mp hsome
          refine fin (fun j p q a1 a2=>?_) ?_
          · have l1:=(List.getElem?_eq_some_iff.mp a1).1
            have l2:=(List.getElem?_eq_some_iff.mp a2).1
            refine eqL_len hb' (by rw [List.length_take,List.length_take,Nat.min_comm]) j p q ?_ ?_
            · rw [List.getElem?_take_of_lt l2]; exact a1
            · rw [List.getElem?_take_of_lt l1]; exact a2
          · have:(us.toArray.size == ws.toArray.size) = false:=by rw [s1,s2]; simpa using hl
            rw [this,Bool.and_false]
        · cases e
    · rename_i l k
      split at e
      · rename_i as bs e1 e2
        obtain ⟨a,xs,rfl,_,p1,t1⟩:=r.lst h1 (seqAt_lst e1)
        obtain ⟨c,ys,rfl,_,p2,t2⟩:=r.lst h2 (seqAt_lst e2)
        cases r1
        cases r2
        obtain ⟨us,v1,i1,z1⟩:=I.list (SqL.of p1)
        obtain ⟨ws,v2,i2,z2⟩:=I.list (SqL.of p2)
        have s1:us.toArray.size = as.length:=by rw [List.size_toArray,← v1.length,t1.length]
        have s2:ws.toArray.size = bs.length:=by rw [List.size_toArray,← v2.length,t2.length]
        have fin:∀ (rc:SeqAt.RcAt A s (.ref a) (.ref c) b) (ne:SeqAt.RcNeAt A s (.ref a) (.ref c) (!b)),EqAll A s (.ref a) (.ref c) b:=fun rc ne=>by
          refine ⟨?_,rc,ne⟩
          by_cases hac:a = c
          · subst hac
            have:=eqD_self I r (n + 1) h1 h2 e0
            subst this
            exact SeqAt.EqAt.same _
          · exact SeqAt.EqAt.of_refs hac rc
        split at e
        · rename_i hl
          let ev:Nat→Bool:=fun j=>match as[j]?,bs[j]? with | some p,some q=>(eqD S n p q).getD false | _,_=>false
          have he:∀ (j:Nat) (g1:j < us.toArray.size) (g2:j < ws.toArray.size),SeqAt.EqAt A.in1 s us.toArray[j] ws.toArray[j] (ev j):=fun j g1 g2=>by
            obtain ⟨p,q,v,z,a1,a2,q1,q2,q3,q4⟩:=pair_of t1 t2 v1 v2 g1 g2
            obtain ⟨c,hc⟩:=eqL_len e hl j p q a1 a2
            have:ev j = c:=by simp only [ev,a1,a2,hc]; rfl
            rw [this]
            exact (ih hu1 q1 q2 q3 q4 hc).eq
          have hb:(List.range us.toArray.size).all ev = b:=by
            rw [s1]
            rw [eqL_all ev 0 e hl fun j p q a1 a2=>?_]
            · congr 1
              exact (List.map_id' _).symm.trans (List.map_congr_left fun j _=>(Nat.zero_add j).symm)
            · obtain ⟨c',hc'⟩:=eqL_len e hl j p q a1 a2
              rw [hc',Nat.zero_add]
              simp only [ev,a1,a2,hc']
              rfl
          have rc:=SeqAt.RcAt.lists i1.isList i2.isList (by rw [s1,s2,hl]) hu0 he
          have ne:=SeqAt.RcNeAt.lists i1.isList i2.isList (by rw [s1,s2,hl]) hu0 he
          rw [hb] at rc ne
          exact fin rc ne
        · rename_i hl
          cases e
          have hsz:(us.toArray.size != ws.toArray.size) = true:=by rw [s1,s2]; simpa using hl
          exact fin (SeqAt.RcAt.lists_lengths i1.isList i2.isList hsz hu0) (SeqAt.RcNeAt.lists_lengths i1.isList i2.isList hsz hu0)
      · cases e
    · split at e
      · rename_i p q e1 e2
        exact eqV_all h1 h2 r1 r2 e1 e2 e
      · cases e
end
end Mi
namespace Mi
open PySem L2
section
variable {X:Cx} {ρ:List Addr} {H:Hp} {S:Store} {pins:List (Addr × PySem.Obj)} {σ:L2.St} {s:Shared}
theorem list_tuple_no (I:Inv X pins σ H s) {a:Addr} {xs ys:List V} (h1:SqL X.K H a xs) (h2:SqT X.K H a ys):False:=by
  obtain ⟨its,_,⟨o,n,e,c,_⟩,_⟩:=I.list h1
  obtain ⟨its2,_,⟨o2,e2,c2,_⟩,_⟩:=I.tuple h2
  rw [e] at e2
  cases e2
  rw [c] at c2
  injection c2 with z
  exact absurd z (by decide)
theorem relO_mut {K:PySem.W.Frag} {a:Addr} {o:Obj} (h:RelO K ρ H a o):∃ o0:HO,H a = Option.some o0∧(∀ xs,o0 ≠ .tup xs)∧∀ u w,o0 ≠ .frz u (.tup w)∧o0 ≠ .frz u (.lst w):=by
  cases o with
  | lst ds=>obtain ⟨xs,e,_⟩:=h; exact ⟨_,e,(fun _ z=>by cases z),(fun _ _=>⟨nofun,nofun⟩)⟩
  | dct ds=>obtain ⟨xs,e,_⟩:=h; exact ⟨_,e,(fun _ z=>by cases z),(fun _ _=>⟨nofun,nofun⟩)⟩
  | ins c fs=>obtain ⟨C,dx,ws,n,e,r⟩:=h; exact ⟨_,e,(fun _ z=>by cases z),(fun _ _=>⟨nofun,nofun⟩)⟩
theorem mutT (I:Inv X pins σ H s) {a:Addr} {o0:HO} {xs:List V} (e:H a = some o0) (m1:∀ xs,o0 ≠ .tup xs) (m2:∀ u w,o0 ≠ .frz u (.tup w)∧o0 ≠ .frz u (.lst w)) (q:SqT X.K H a xs):False:=by
  rcases q with (q | ⟨o,q⟩) | ⟨o,_,_,hk,_⟩
  · rw [e] at q; exact m1 _ (Option.some.inj q)
  · rw [e] at q; exact (m2 _ _).1 (Option.some.inj q)
  · have z:=(I.bs a o (I.ok.mod.kin a o hk)).2
    rw [e] at z
    cases z
theorem mutF (I:Inv X pins σ H s) {a:Addr} {o0:HO} {xs:List V} (e:H a = some o0) (m2:∀ u w,o0 ≠ .frz u (.tup w)∧o0 ≠ .frz u (.lst w)) (q:SqF X.K H a xs):False:=by
  rcases q with ⟨o,q⟩ | ⟨o,_,_,hk,_⟩
  · rw [e] at q; exact (m2 _ _).2 (Option.some.inj q)
  · have z:=(I.bs a o (I.ok.mod.kin a o hk)).2
    rw [e] at z
    cases z
mutual
theorem RelD.inj (I:Inv X pins σ H s) (r:RelS X.K ρ S H):∀ {d d':D} {v:V},RelD X.K ρ H d v→RelD X.K ρ H d' v→d = d'
  | .non,d',v,h,h'=>by
    cases h.non_inv
    cases d'<;>simp only [RelD] at h'<;>first | rfl | (cases h'; done) | (obtain ⟨_,_,e,_⟩:=h'; cases e) | (obtain ⟨_,e,_⟩:=h'; cases e)
  | .bl b,d',v,h,h'=>by
    cases h.bl_inv
    cases d'<;>simp only [RelD] at h'<;>first | (cases h'; rfl) | (cases h'; done) | (obtain ⟨_,_,e,_⟩:=h'; cases e) | (obtain ⟨_,e,_⟩:=h'; cases e)
  | .int b,d',v,h,h'=>by
    cases h.int_inv
    cases d'<;>simp only [RelD] at h'<;>first | (cases h'; rfl) | (cases h'; done) | (obtain ⟨_,_,e,_⟩:=h'; cases e) | (obtain ⟨_,e,_⟩:=h'; cases e)
  | .str b,d',v,h,h'=>by
    cases h.str_inv
    cases d'<;>simp only [RelD] at h'<;>first | (cases h'; rfl) | (cases h'; done) | (obtain ⟨_,_,e,_⟩:=h'; cases e) | (obtain ⟨_,e,_⟩:=h'; cases e)
  | .tup ds,d',v,h,h'=>by
    obtain ⟨a,xs,rfl,q,t⟩:=h.tup_inv
    cases d' with
    | tup es =>
      obtain ⟨a',xs',e,q',t'⟩:=h'.tup_inv
      cases e
      cases I.tuple_inj q q'
      rw [RelDs.inj I r t t']
    | loc l =>
      obtain ⟨a',e,hl⟩:=h'.loc_inv
      cases e
      obtain ⟨o,_,ho⟩:=r.at hl
      obtain ⟨o0,e0,m1,m2⟩:=relO_mut ho
      exact (mutT I e0 m1 m2 q).elim
    | kl es =>
      obtain ⟨a',xs',e,q',t'⟩:=h'.kl_inv
      cases e
      exact (list_tuple_no I q'.sq q).elim
    | _=>simp only [RelD] at h'; cases h'
  | .loc l,d',v,h,h'=>by
    obtain ⟨a,rfl,hl⟩:=h.loc_inv
    obtain ⟨o,_,ho⟩:=r.at hl
    obtain ⟨o0,e0,m1,m2⟩:=relO_mut ho
    cases d' with
    | loc k =>
      obtain ⟨a',e,hk⟩:=h'.loc_inv
      cases e
      rw [nodup_get r.nd hl hk]
    | tup es =>
      obtain ⟨a',xs',e,q',t'⟩:=h'.tup_inv
      cases e
      exact (mutT I e0 m1 m2 q').elim
    | kl es =>
      obtain ⟨a',xs',e,q',t'⟩:=h'.kl_inv
      cases e
      exact (mutF I e0 m2 q').elim
    | _=>simp only [RelD] at h'; cases h'
  | .kl ds,d',v,h,h'=>by
    obtain ⟨a,xs,rfl,q,t⟩:=h.kl_inv
    cases d' with
    | kl es =>
      obtain ⟨a',xs',e,q',t'⟩:=h'.kl_inv
      cases e
      cases I.list_inj q.sq q'.sq
      rw [RelDs.inj I r t t']
    | loc l =>
      obtain ⟨a',e,hl⟩:=h'.loc_inv
      cases e
      obtain ⟨o,_,ho⟩:=r.at hl
      obtain ⟨o0,e0,m1,m2⟩:=relO_mut ho
      exact (mutF I e0 m2 q).elim
    | tup es =>
      obtain ⟨a',xs',e,q',t'⟩:=h'.tup_inv
      cases e
      exact (list_tuple_no I q.sq q').elim
    | _=>simp only [RelD] at h'; cases h'
theorem RelDs.inj (I:Inv X pins σ H s) (r:RelS X.K ρ S H):∀ {ds ds':List D} {vs:List V},RelDs X.K ρ H ds vs→RelDs X.K ρ H ds' vs→ds = ds'
  | [],ds',vs,h,h'=>by
    rw [h.inv_nil] at h'
    cases ds' with
    | nil=>rfl
    | cons d es=>obtain ⟨_,_,e,_⟩:=h'.inv_cons; cases e
  | d :: ds,ds',vs,h,h'=>by
    obtain ⟨v,ws,rfl,q,t⟩:=h.inv_cons
    cases ds' with
    | nil=>cases h'.inv_nil
    | cons d' es =>
      obtain ⟨v',ws',e,q',t'⟩:=h'.inv_cons
      cases e
      rw [RelD.inj I r q q',RelDs.inj I r t t']
end
noncomputable def rC (K:PySem.W.Frag) (o:Cop):R2:=fun x y H Q=>∃ ρ S dx dy k,RelS K ρ S H∧RelD K ρ H dx x∧RelD K ρ H dy y∧cop o dx dy S = some k∧Q (.bl k) H
theorem anyEq_at (I:Inv X pins σ H s) (r:RelS X.K ρ S H) {A:Around} {x:D} {vx:V} {w:Value} (hu:A.units + Deep < cLine) (hx:RelD X.K ρ H x vx) (rx:RelV vx w)
    {ds:List D} {xs:List V} {us:List Value} {b:Bool} (t:RelDs X.K ρ H ds xs) (v:Vals xs us) (e:anyEq S Deep x ds = some b):∃ e:Value→Bool,(∀ u ∈ us,SeqAt.EqAt A s u w (e u))∧us.any e = b:=by
  classical
  let ev:Value→Bool:=fun u=>decide (∃ d v,RelD X.K ρ H d v∧RelV v u∧eqD S Deep d x = some true)
  have one:∀ {d:D} {v:V} {u:Value} {b:Bool},RelD X.K ρ H d v→RelV v u→eqD S Deep d x = some b→ev u = b:=fun {d v u b} h r1 e=>by
    cases b with
    | true=>exact decide_eq_true ⟨d,v,h,r1,e⟩
    | false =>
      refine decide_eq_false ?_
      rintro ⟨d',v',h',r2,e'⟩
      cases r1.inj r2
      rw [RelD.inj I r h h',e'] at e
      cases e
  refine ⟨ev,?_⟩
  induction ds generalizing xs us b with
  | nil =>
    rw [t.inv_nil] at v
    cases v
    simp only [anyEq] at e
    cases e
    exact ⟨fun u hu=>by simp at hu,rfl⟩
  | cons d ds ih =>
    obtain ⟨z,zs,rfl,q,t'⟩:=t.inv_cons
    cases v with
    | cons r1 v' =>
      rename_i u us
      simp only [anyEq] at e
      split at e
      · rename_i p p' e1 e2
        cases e
        obtain ⟨h1,h2⟩:=ih t' v' e2
        refine ⟨fun u' hu'=>?_,?_⟩
        · rcases List.mem_cons.mp hu' with rfl | hm
          · rw [one q r1 e1]
            exact (eqD_at I r Deep hu q hx r1 rx e1).eq
          · exact h1 u' hm
        · rw [List.any_cons,one q r1 e1,h2]
      · cases e
theorem RelS.dct {K:PySem.W.Frag} (rs:RelS K ρ S H) {l:Nat} {v:V} {kvs:List (Int × D)} (r:RelD K ρ H (.loc l) v) (h:dctAt S l = some kvs):∃ a ws,v = .ref a∧ρ[l]? = some a∧H a = some (.dK ws)∧RelKv K ρ H kvs ws:=by
  obtain ⟨a,rfl,hl⟩:=r.loc_inv
  obtain ⟨o,ho,ro⟩:=rs.at hl
  unfold dctAt at h
  rw [ho] at h
  cases o with
  | dct ks =>
    cases h
    obtain ⟨ws,e,q⟩:=ro
    exact ⟨a,ws,rfl,hl,e,q⟩
  | lst _=>cases h
  | ins _ _=>cases h
theorem RelS.rdd {K:PySem.W.Frag} (rs:RelS K ρ S H) {l:Nat} {v:V} {kvs:List (Int × D)} (r:RelD K ρ H (.loc l) v) (h:dRd S l = some kvs):∃ a ws,v = .ref a∧Rd H a (.dK ws)∧RelKv K ρ H kvs ws:=by
  obtain ⟨a,rfl,hl⟩:=r.loc_inv
  obtain ⟨o,ho,ro⟩:=rs.at hl
  unfold dRd at h
  rw [ho] at h
  cases o with
  | dct ks =>
    cases h
    obtain ⟨ws,e,q⟩:=ro
    exact ⟨a,ws,rfl,.inl e,q⟩
  | lst _=>cases h
  | ins _ _=>cases h
theorem dIn_at {K:PySem.W.Frag} (rs:RelS K ρ S H) {dx dy:D} {x y:V} {b:Bool} (r1:RelD K ρ H dx x) (r2:RelD K ρ H dy y) (e:dIn dx dy S = some b):∃ i a,x = .int i∧y = .ref a∧∃ o,DGet H a (.int i) o∧b = o.isSome:=by
  unfold dIn at e
  cases dx<;>try (cases e; done)
  cases dy<;>try (cases e; done)
  rename_i i l
  simp only at e
  cases hd:dRd S l with
  | none=>rw [hd] at e; cases e
  | some kvs =>
    rw [hd] at e
    cases e
    obtain ⟨a,ws,rfl,ea,q⟩:=rs.rdd r2 hd
    refine ⟨i,a,r1.int_inv,rfl,valV ws (Sum.inl i),.inl ⟨ws,Sum.inl i,ea,rfl,rfl⟩,?_⟩
    rcases q.val i with ⟨h1,h2⟩ | ⟨d,v,h1,h2,_⟩
    · rw [h1,h2]; rfl
    · rw [h1,h2]; rfl
theorem cop_ok (o:Cop) (hu:X.A.units + 64 < cLine):OpR X (compareOp (copOf o)) (rC X.K o):=by
  intro pins s σ H x y v u Q I rx ry hq_
  obtain ⟨ρ,S,dx,dy,k,rs,r1,r2,e,q⟩:=hq_
  have hu2:X.A.units + Deep < cLine:=by show X.A.units + 12 < cLine; omega
  have hu3:X.A.in1.units + Deep < cLine:=by rw [in1_units]; show X.A.units + 1 + 12 < cLine; omega
  cases o with
  | eq=>exact (eqD_at I rs Deep hu2 r1 r2 rx ry e).rc X.prog X.w X.xe _ ⟨.bl k,H,I,rfl,q⟩
  | ne =>
    simp only [cop,Option.map_eq_some_iff] at e
    obtain ⟨b,e,rfl⟩:=e
    exact (eqD_at I rs Deep hu2 r1 r2 rx ry e).ne X.prog X.w X.xe _ ⟨.bl (!b),H,I,rfl,q⟩
  | lt =>
    cases dx<;>cases dy<;>simp only [cop] at e<;>try (cases e; done)
    cases e
    cases r1.int_inv; cases r2.int_inv
    exact op_lt pins s σ H _ _ v u Q I rx ry ⟨_,_,rfl,rfl,q⟩
  | le =>
    cases dx<;>cases dy<;>simp only [cop] at e<;>try (cases e; done)
    cases e
    cases r1.int_inv; cases r2.int_inv
    exact op_le pins s σ H _ _ v u Q I rx ry ⟨_,_,rfl,rfl,q⟩
  | gt =>
    cases dx<;>cases dy<;>simp only [cop] at e<;>try (cases e; done)
    cases e
    cases r1.int_inv; cases r2.int_inv
    exact op_gt pins s σ H _ _ v u Q I rx ry ⟨_,_,rfl,rfl,q⟩
  | ge =>
    cases dx<;>cases dy<;>simp only [cop] at e<;>try (cases e; done)
    cases e
    cases r1.int_inv; cases r2.int_inv
    exact op_ge pins s σ H _ _ v u Q I rx ry ⟨_,_,rfl,rfl,q⟩
  | inn =>
    simp only [cop] at e
    split at e
    · rename_i ds hs
      obtain ⟨a,xs,rfl,sq,t⟩:=rs.seq r2 hs
      cases ry
      rcases sq with sq | sq
      · obtain ⟨us,vv,pl,_⟩:=I.list sq
        obtain ⟨ev,h1,h2⟩:=anyEq_at I rs hu3 r1 rx t vv e
        exact SeqAt.in_listAt ev pl.isList (fun y hy=>h1 y (by simpa using hy)) ⟨.bl k,H,I,by rw [List.any_toArray,h2]; rfl,q⟩
      · obtain ⟨us,vv,pl,_⟩:=I.tuple sq
        obtain ⟨ev,h1,h2⟩:=anyEq_at I rs hu3 r1 rx t vv e
        exact SeqAt.in_tupleAt ev (show s.heap.IsTuple a us.toArray from pl) (fun y hy=>h1 y (by simpa using hy)) ⟨.bl k,H,I,by rw [List.any_toArray,h2]; rfl,q⟩
    · split at e
      · cases e
        cases r1.str_inv; cases r2.str_inv
        exact op_in_str pins s σ H _ _ _ _ Q I rx ry ⟨_,_,rfl,rfl,q⟩
      · obtain ⟨i,a,rfl,rfl,o,g,eo⟩:=dIn_at rs r1 r2 e
        cases ry
        exact d_in (by show X.A.units + 1 < cLine; omega) I g rx fun s' I'=>⟨.bl k,H,I',by rw [eo]; rfl,q⟩
  | nin =>
    simp only [cop] at e
    split at e
    · rename_i ds hs
      simp only [Option.map_eq_some_iff] at e
      obtain ⟨b,e,rfl⟩:=e
      obtain ⟨a,xs,rfl,sq,t⟩:=rs.seq r2 hs
      cases ry
      rcases sq with sq | sq
      · obtain ⟨us,vv,pl,_⟩:=I.list sq
        obtain ⟨ev,h1,h2⟩:=anyEq_at I rs hu3 r1 rx t vv e
        exact SeqAt.notIn_listAt ev pl.isList (fun y hy=>h1 y (by simpa using hy)) ⟨.bl (!b),H,I,by rw [List.any_toArray,h2]; rfl,q⟩
      · obtain ⟨us,vv,pl,_⟩:=I.tuple sq
        obtain ⟨ev,h1,h2⟩:=anyEq_at I rs hu3 r1 rx t vv e
        exact SeqAt.notIn_tupleAt ev (show s.heap.IsTuple a us.toArray from pl) (fun y hy=>h1 y (by simpa using hy)) ⟨.bl (!b),H,I,by rw [List.any_toArray,h2]; rfl,q⟩
    · simp only [Option.map_eq_some_iff] at e
      obtain ⟨b,e,rfl⟩:=e
      obtain ⟨i,a,rfl,rfl,o,g,eo⟩:=dIn_at rs r1 r2 e
      cases ry
      exact d_notIn (by show X.A.units + 1 < cLine; omega) I g rx fun s' I'=>⟨.bl (!b),H,I',by rw [eo]; rfl,q⟩
theorem isEmpty_rel {ds:List D} {xs:List V} {K:PySem.W.Frag} (t:RelDs K ρ H ds xs):(!ds.isEmpty) = !xs.isEmpty:=by
  cases ds with
  | nil=>rw [t.inv_nil]; rfl
  | cons d ds=>obtain ⟨_,_,rfl,_⟩:=t.inv_cons; rfl
theorem tru_rel {K:PySem.W.Frag} (r:RelS K ρ S H) {d:D} {x:V} {k:Bool} (h:RelD K ρ H d x) (e:tru S d = some k):TruV K x H k:=by
  cases d with
  | non=>cases h.non_inv; cases e; rfl
  | bl b=>cases h.bl_inv; cases e; rfl
  | int i=>cases h.int_inv; cases e; rfl
  | str z =>
    cases h.str_inv
    simp only [tru] at e
    split at e
    · rename_i hl; cases e; exact ⟨by rw [← line_eq]; exact hl,rfl⟩
    · cases e
  | tup ds =>
    obtain ⟨a,xs,rfl,q,t⟩:=h.tup_inv
    cases e
    exact .inr (.inl ⟨xs,q,isEmpty_rel t⟩)
  | loc l =>
    simp only [tru] at e
    split at e
    · rename_i ds hs
      cases e
      obtain ⟨a,xs,rfl,_,q,t⟩:=r.lst h (seqAt_lst hs)
      exact .inl ⟨xs,SqL.of q,isEmpty_rel t⟩
    · cases e
  | kl ds =>
    obtain ⟨a,xs,rfl,q,t⟩:=h.kl_inv
    cases e
    exact .inl ⟨xs,q.sq,isEmpty_rel t⟩
noncomputable def rX (K:PySem.W.Frag):R2:=fun x y H Q=>∃ ρ S dx dy d,RelS K ρ S H∧RelD K ρ H dx x∧RelD K ρ H dy y∧idxD dx dy S = some d∧Fin K ρ H d S Q
theorem idx_ok (hu:X.A.units + 1 < cLine):IxR X (rX X.K):=by
  intro value slice pins s σ H x y v u Q I rx ry ⟨ρ,S,dx,dy,d,rs,r1,r2,e,fin⟩ hs
  cases dy<;>simp only [idxD] at e<;>try (cases e; done)
  cases r2.int_inv
  split at e
  · rename_i ds hds
    obtain ⟨a,xs,rfl,sq,t⟩:=rs.seq r1 hds
    obtain ⟨w,ew,rw'⟩:=atI_rel t e
    rcases sq with sq | sq
    · exact ix_list value slice pins s σ H _ _ v u Q I rx ry ⟨a,xs,_,w,rfl,rfl,sq,ew,fin.now rs rw'⟩ hs
    · exact ix_tup value slice pins s σ H _ _ v u Q I rx ry ⟨a,xs,_,w,rfl,rfl,sq,ew,fin.now rs rw'⟩ hs
  · split at e
    · rename_i z _
      split at e
      · rename_i hl
        simp only [Option.map_eq_some_iff] at e
        obtain ⟨c,e,rfl⟩:=e
        cases r1.str_inv
        exact ix_str value slice pins s σ H _ _ v u Q I rx ry ⟨z,_,c,rfl,rfl,by rw [← line_eq]; exact hl,e,fin.now rs (RelD.str _)⟩ hs
      · cases e
    · rename_i l _
      cases hd:dRd S l with
      | none=>rw [hd] at e; cases e
      | some kvs =>
        rw [hd] at e
        simp only at e
        obtain ⟨a,ws,rfl,ea,q⟩:=rs.rdd r1 hd
        cases rx
        rcases q.val _ with ⟨h1,_⟩ | ⟨d',w,h1,h2,rw'⟩
        · rw [h1] at e; cases e
        · rw [h1] at e
          cases e
          have g:DGet H a (.int _) (some w):=.inl ⟨ws,Sum.inl _,ea,rfl,h2.symm⟩
          exact PyProof.Rows.tail_any (ops:=[.ref a,u]) (dict_typeIs I g) PySem.F.slot_dict_getitem.lookup (d_getItem hu I g ry fun w' s' I' rw2=>⟨w,H,I',rw2,fin.now rs rw'⟩) hs
    · cases e
noncomputable def rSl (K:PySem.W.Frag):V→Option Int→Option Int→Hp→VK→Prop:=fun x lo hi H Q=>∃ ρ S dx d S',RelS K ρ S H∧RelD K ρ H dx x∧sliD dx lo hi S = .ok d S'∧Fin K ρ H d S' Q
theorem cut_rel {K:PySem.W.Frag} {ds:List D} {xs:List V} (t:RelDs K ρ H ds xs) (lo hi:Option Int):RelDs K ρ H (cutD ds lo hi) (cutV xs lo hi):=by
  unfold cutD cutV
  rw [t.length]
  exact (t.drop _).take _
theorem sl_str:SlR X (fun x lo hi H Q=>∃ z,x = .str z∧(cutS z lo hi).length ≤ sizeLine∧Q (.str (cutS z lo hi)) H):=by
  intro pins s σ H x v vl vu lo hi sl Q I rx hs pl pu hq_
  obtain ⟨z,rfl,hz,q⟩:=hq_
  obtain ⟨t,rfl⟩:=rx
  obtain ⟨l,rfl,rfl⟩:∃ l,vl = partValue l∧lo = l.map (·.1):=by
    cases pl with
    | none=>exact ⟨none,rfl,rfl⟩
    | int i t=>exact ⟨some (i,t),rfl,rfl⟩
  obtain ⟨u,rfl,rfl⟩:∃ u,vu = partValue u∧hi = u.map (·.1):=by
    cases pu with
    | none=>exact ⟨none,rfl,rfl⟩
    | int i t=>exact ⟨some (i,t),rfl,rfl⟩
  refine ⟨"str",_,PySem.F.slot_str_getitem.lookup,typeIs_str _ _ _,wpAny_getItem_str_slice (l:=l) (u:=u) (st:=none) hs rfl ?_⟩
  unfold sliceMade
  simp only [Option.map_none,Option.getD_none,beq_self_eq_true,Bool.true_and,slicePicked]
  exact post_val_or_str ⟨hz,fun t' k=>⟨.str (cutS z _ _),H,I.tok _,⟨_,rfl⟩,q⟩⟩
theorem sli_ok:SlR X (rSl X.K):=by
  intro pins s σ H x v vl vu lo hi sl Q I rx hs pl pu hq_
  obtain ⟨ρ,S,dx,d,S',rs,r1,e,fin⟩:=hq_
  cases dx<;>simp only [sliD] at e<;>try (cases e; done)
  · split at e
    · rename_i hl
      cases e
      cases r1.str_inv
      exact sl_str pins s σ H _ v vl vu lo hi sl Q I rx hs pl pu ⟨_,rfl,by rw [← line_eq]; exact hl,fin.now rs (RelD.str _)⟩
    · cases e
  · cases e
    obtain ⟨a,xs,rfl,q,t⟩:=r1.tup_inv
    by_cases hw:HT.sIx xs.length 0 lo = 0∧HT.sIx xs.length xs.length hi = xs.length
    · rename_i ds
      refine sl_tupW pins s σ H _ v vl vu lo hi sl Q I rx hs pl pu ⟨a,xs,rfl,q,hw,?_⟩
      have ec:cutD ds lo hi = ds:=by
        unfold cutD
        rw [t.length,hw.1,hw.2,Nat.sub_zero,List.drop_zero,← t.length,List.take_length]
      rw [ec] at fin
      exact fin _ _ _ Fut.refl rs r1
    · exact sl_tup pins s σ H _ v vl vu lo hi sl Q I rx hs pl pu ⟨a,xs,rfl,q,hw,fin.newT rs (cut_rel t lo hi)⟩
  · split at e
    · rename_i ds hds
      cases e
      obtain ⟨a,xs,rfl,_,q,t⟩:=rs.lst r1 (seqAt_lst hds)
      exact sl_list pins s σ H _ v vl vu lo hi sl Q I rx hs pl pu ⟨a,xs,rfl,SqL.of q,fin.newL rs (cut_rel t lo hi)⟩
    · cases e
  · cases e
    obtain ⟨a,xs,rfl,q,t⟩:=r1.kl_inv
    exact sl_list pins s σ H _ v vl vu lo hi sl Q I rx hs pl pu ⟨a,xs,rfl,q.sq,fin.newL rs (cut_rel t lo hi)⟩
noncomputable def rSt (K:PySem.W.Frag):TSet:=fun o i v H Q=>∃ ρ S dO di dv S',RelS K ρ S H∧RelD K ρ H dO o∧RelD K ρ H di i∧RelD K ρ H dv v∧setS dO di dv S = .ok () S'∧∀ H',Fut K ρ H ρ H'→RelS K ρ S' H'→Q H'
theorem set_ok (hu:X.A.units + 1 < cLine):PSet X (rSt X.K):=by
  intro pins s σ H o i v ov iv u Q I ro ri rv hq_
  obtain ⟨ρ,S,dO,di,dv,S',rs,r1,r2,r3,e,fin⟩:=hq_
  cases dO<;>cases di<;>simp only [setS] at e<;>try (cases e; done)
  split at e
  · rename_i xs hx
    split at e
    · rename_i j hj
      cases e
      obtain ⟨a,ys,rfl,hl,q,t⟩:=rs.lst r1 hx
      cases r2.int_inv
      refine set_list pins s σ H _ _ v ov iv u Q I ro ri rv ⟨a,ys,_,j,rfl,rfl,q,by rw [← t.length]; exact hj,fin _ (fut_set q) (rs.set hl q (RelDs.set r3 j t))⟩
    · cases e
  · rename_i kvs hk
    split at e
    · rename_i hl
      cases e
      obtain ⟨a,ws,rfl,hp,ea,q⟩:=rs.dct r1 (by unfold dctAt; rw [hk])
      cases r2.int_inv
      cases ro
      rename_i _ ki _
      have f:Fut X.K ρ H ρ (upd H a (.dK (putK ws (Sum.inl ki) v))):=fut_mut (o0:=.dK ws) ea (fun _ z=>by cases z) (fun _ _ z=>by cases z)
      exact d_setItem hu I (DPut.k (k:=Sum.inl ki) ea (by rw [← q.length,← line_eq]; exact hl)) ri rv fun s' I'=>⟨_,I',fin _ f (rs.setO (o0:=.dK ws) hp f ⟨_,upd_same,(q.put _ r3).fut f⟩)⟩
    · cases e
  · cases e
end
end Mi
namespace Mi
open PySem L2
section
variable {X:Cx} {ρ:List Addr} {H:Hp} {S:Store}
noncomputable def tyNames:List String:=["NoneType","bool","int","str","tuple","list","dict"]
noncomputable def clNames:List String:=["bool","int","str","tuple","list"]
theorem kit_ok (K:PySem.W.Frag):∀ t ∈ tyNames,∀ c ∈ clNames,PySem.W.kitOne K (.type t) (.type c) = some (isiD t c):=by
  intro t ht c hc
  simp only [tyNames,clNames,List.mem_cons,List.not_mem_nil,or_false] at ht hc
  rcases ht with rfl | rfl | rfl | rfl | rfl | rfl | rfl<;>rcases hc with rfl | rfl | rfl | rfl | rfl<;>kernel_rfl
noncomputable def rIs (K:PySem.W.Frag) (c:String):List V→Hp→VK→Prop:=fun xs H Q=>∃ ρ S d x t,RelS K ρ S H∧xs = [x,.ty c]∧RelD K ρ H d x∧tyD S d = some t∧Q (.bl (isiD t c)) H
theorem isi_ok {c:String} (hc:c ∈ clNames):CallR X (.builtin "isinstance") (rIs X.K c):=by
  intro pins s σ H xs us Q I r hq_
  obtain ⟨ρ,S,d,x,t,rs,e,rd,ht,q⟩:=hq_
  subst e
  obtain ⟨u,w,rfl,ru,rw'⟩:=vals2 r
  cases (show w = Value.type c from rw')
  have fin:∀ tk,EP X pins σ Q (.bool (isiD t c)) { s with toks:=tk }:=fun tk=>⟨.bl _,H,I.tok _,rfl,q⟩
  cases d with
  | non=>cases ht; cases rd.non_inv; cases ru; exact PySem.W.kia_one PySem.W.kitx_none I.kIn True.intro (kit_ok X.K _ (by decide) c hc) (fun z=>nomatch z) fin
  | bl b=>cases ht; cases rd.bl_inv; cases ru; exact PySem.W.kia_one PySem.W.kitx_bool I.kIn True.intro (kit_ok X.K _ (by decide) c hc) (fun z=>nomatch z) fin
  | int b=>cases ht; cases rd.int_inv; obtain ⟨tk,rfl⟩:=ru; exact PySem.W.kia_one PySem.W.kitx_int I.kIn True.intro (kit_ok X.K _ (by decide) c hc) (fun z=>nomatch z) fin
  | str b=>cases ht; cases rd.str_inv; obtain ⟨tk,rfl⟩:=ru; exact PySem.W.kia_one PySem.W.kitx_str I.kIn True.intro (kit_ok X.K _ (by decide) c hc) (fun z=>nomatch z) fin
  | tup ds =>
    cases ht
    obtain ⟨a,ys,rfl,sq,_⟩:=rd.tup_inv
    cases ru
    obtain ⟨_,_,⟨o,h1,h2,_⟩,_⟩:=I.tuple sq
    exact PySem.W.kia_one PySem.W.kitx_tuple I.kIn ⟨o,h1,h2⟩ (kit_ok X.K _ (by decide) c hc) (fun z=>nomatch z) fin
  | loc l =>
    simp only [tyD] at ht
    split at ht
    · rename_i ds hs
      cases ht
      obtain ⟨a,ys,rfl,_,sq,_⟩:=rs.lst rd hs
      cases ru
      obtain ⟨_,_,⟨o,n,h1,h2,_⟩,_⟩:=I.list (SqL.of (K:=X.K) sq)
      exact PySem.W.kia_one PySem.W.kitx_list I.kIn ⟨o,h1,h2⟩ (kit_ok X.K _ (by decide) c hc) (fun z=>nomatch z) fin
    · cases ht
  | kl ds=>cases ht
noncomputable def primNm:Prim→String
  | .len=>"len" | .abs=>"abs" | .min2=>"min" | .max2=>"max" | .int1=>"int" | .str1=>"str" | .list1=>"list" | .tuple1=>"tuple" | .divmod=>"divmod" | .all1=>"all" | .any1=>"any"
noncomputable def primTy:Prim→Bool
  | .int1=>true | .str1=>true | .list1=>true | .tuple1=>true
  | _=>false
noncomputable def primVal (p:Prim):Value:=if primTy p then .type (primNm p) else .builtin (primNm p)
theorem boot_prim (p:Prim):bootBuiltins (Str.ofString (primNm p)) = some (primVal p):=by cases p<;>kernel_rfl
theorem name_prim (p:Prim):Str.ofString (primNm p) ≠ "__name__":=by cases p<;>decide +kernel
theorem debug_prim (p:Prim):(Str.ofString (primNm p) == ("__debug__":Str)) = false:=by cases p<;>decide +kernel
noncomputable def rP (K:PySem.W.Frag) (p:Prim):List V→Hp→VK→Prop:=fun xs H Q=>∃ ρ S ds d S',RelS K ρ S H∧RelDs K ρ H ds xs∧primD p ds S = .ok d S'∧Fin K ρ H d S' Q
theorem RelDs.one {K:PySem.W.Frag} {d:D} {xs:List V} (h:RelDs K ρ H [d] xs):∃ v,xs = [v]∧RelD K ρ H d v:=by
  obtain ⟨v,vs,rfl,q,t⟩:=h.inv_cons
  cases t.inv_nil
  exact ⟨v,rfl,q⟩
theorem RelDs.two {K:PySem.W.Frag} {d e:D} {xs:List V} (h:RelDs K ρ H [d,e] xs):∃ v w,xs = [v,w]∧RelD K ρ H d v∧RelD K ρ H e w:=by
  obtain ⟨v,vs,rfl,q,t⟩:=h.inv_cons
  obtain ⟨w,rfl,q'⟩:=t.one
  exact ⟨v,w,rfl,q,q'⟩
theorem allB_list:∀ {ds:List D} {b:Bool},allB ds = some b→∃ bs:List Bool,ds = bs.map D.bl∧b = bs.all id
  | [],b,h=>⟨[],rfl,by simp only [allB] at h; cases h; rfl⟩
  | .bl c :: r,b,h=>by
    simp only [allB,Option.map_eq_some_iff] at h
    obtain ⟨k,h,rfl⟩:=h
    obtain ⟨bs,rfl,rfl⟩:=allB_list h
    exact ⟨c :: bs,rfl,by simp⟩
  | .non :: _,b,h=>by simp [allB] at h
  | .int _ :: _,b,h=>by simp [allB] at h
  | .str _ :: _,b,h=>by simp [allB] at h
  | .tup _ :: _,b,h=>by simp [allB] at h
  | .loc _ :: _,b,h=>by simp [allB] at h
  | .kl _ :: _,b,h=>by simp [allB] at h
theorem bools_at {K:PySem.W.Frag} {bs:List Bool} {xs:List V} {us:List Value} (t:RelDs K ρ H (bs.map D.bl) xs) (v:Vals xs us) {i:Nat} {u:Value} (h:us[i]? = some u):u = .bool (bs.getD i true):=by
  have hl:i < bs.length:=by
    have:=(List.getElem?_eq_some_iff.mp h).1
    have e1:=t.length
    have e2:=v.length
    rw [List.length_map] at e1
    omega
  obtain ⟨w,ew,rw'⟩:=t.get (show (bs.map D.bl)[i]? = some (.bl bs[i]) by rw [List.getElem?_map,List.getElem?_eq_getElem hl]; rfl)
  obtain ⟨u',eu,ru⟩:=v.get ew
  rw [h] at eu
  cases eu
  cases rw'.bl_inv
  cases ru
  rw [List.getD_eq_getElem?_getD,List.getElem?_eq_getElem hl]
  rfl
theorem range_all (bs:List Bool):(List.range bs.length).all (fun i=>bs.getD i true) = bs.all id:=by
  induction bs with
  | nil=>rfl
  | cons b r ih =>
    rw [List.length_cons,List.range_succ_eq_map,List.all_cons,List.all_cons,List.all_map,← ih]
    congr 1
theorem call_all_seq (hc:X.calm = true):CallR X (.builtin "all") (fun xs H Q=>∃ ρ S d ds b,RelS X.K ρ S H∧∃ x,xs = [x]∧RelD X.K ρ H d x∧seqOf S d = some ds∧allB ds = some b∧Q (.bl b) H):=by
  intro pins s σ H xs us Q I r hq_
  obtain ⟨ρ,S,d,ds,b,rs,x,e,rd,hs,hb,q⟩:=hq_
  subst e
  obtain ⟨u,rfl,ru⟩:=vals1 r
  obtain ⟨bs,rfl,rfl⟩:=allB_list hb
  obtain ⟨a,ys,rfl,sq,t⟩:=rs.seq rd hs
  cases ru
  have hh:X.A.in1.handled = none:=I.ok.hd hc
  rcases sq with sq | sq
  · obtain ⟨its,vv,pl,_⟩:=I.list sq
    have hne:a ≠ s.heap.objs.size:=Nat.ne_of_lt pl.lt
    have hsz:its.toArray.size = bs.length:=by rw [List.size_toArray,← vv.length,← t.length,List.length_map]
    refine call_all_walk (wpAny_pyIter_list pl.isList ?_)
    refine ⟨_,_,_,_,_,_,fun i=>bs.getD i true,rfl,Walks.list (A:=X.A.in1) hh s.heap.objs.size a hne its.toArray,⟨⟨_,Heap.get?_push_size _ rfl,rfl,rfl⟩,(pl.keeps fun b o e=>Heap.get?_push_of_some _ e).isList⟩,?_,fun h' tk hk=>?_⟩
    · intro i v s' Q' E' hP hQ
      have hP:its.toArray[i]? = some v:=hP
      have ev:v = .bool (bs.getD i true):=bools_at t vv (by simpa using hP)
      subst ev
      exact wpAny_truthy_bool hQ
    · rw [hsz,range_all]
      refine ⟨.bl _,H,I.kept (t':=tk) fun b o e=>hk b o ?_ (Heap.get?_push_of_some _ e),rfl,q⟩
      simp only [List.mem_singleton]
      exact Nat.ne_of_lt (Heap.lt_size e)
  · obtain ⟨its,vv,pl,_⟩:=I.tuple sq
    have pl':s.heap.IsTuple a its.toArray:=pl
    have hne:a ≠ s.heap.objs.size:=Nat.ne_of_lt (by obtain ⟨o,e,_⟩:=pl; exact Heap.lt_size e)
    have hsz:its.toArray.size = bs.length:=by rw [List.size_toArray,← vv.length,← t.length,List.length_map]
    refine call_all_walk (wpAny_pyIter_tuple pl' ?_)
    refine ⟨_,_,_,_,_,_,fun i=>bs.getD i true,rfl,Walks.tuple (A:=X.A.in1) hh s.heap.objs.size a hne its.toArray,⟨⟨_,Heap.get?_push_size _ rfl,rfl,rfl⟩,(let ⟨o,e,c⟩:=pl'; ⟨o,Heap.get?_push_of_some _ e,c⟩)⟩,?_,fun h' tk hk=>?_⟩
    · intro i v s' Q' E' hP hQ
      have hP:its.toArray[i]? = some v:=hP
      have ev:v = .bool (bs.getD i true):=bools_at t vv (by simpa using hP)
      subst ev
      exact wpAny_truthy_bool hQ
    · rw [hsz,range_all]
      refine ⟨.bl _,H,I.kept (t':=tk) fun b o e=>hk b o ?_ (Heap.get?_push_of_some _ e),rfl,q⟩
      simp only [List.mem_singleton]
      exact Nat.ne_of_lt (Heap.lt_size e)
theorem range_any (bs:List Bool):(List.range bs.length).any (fun i=>bs.getD i true) = bs.any id:=by
  induction bs with
  | nil=>rfl
  | cons b r ih =>
    rw [List.length_cons,List.range_succ_eq_map,List.any_cons,List.any_cons,List.any_map,← ih]
    congr 1
theorem any_bls:∀ bs:List Bool,(bs.map D.bl).any isT = bs.any id
  | []=>rfl
  | b :: r=>by rw [List.map_cons,List.any_cons,List.any_cons,any_bls r]; rfl
theorem call_any_seq (hc:X.calm = true):CallR X (.builtin "any") (fun xs H Q=>∃ ρ S d ds b,RelS X.K ρ S H∧∃ x,xs = [x]∧RelD X.K ρ H d x∧seqOf S d = some ds∧allB ds = some b∧Q (.bl (ds.any isT)) H):=by
  intro pins s σ H xs us Q I r hq_
  obtain ⟨ρ,S,d,ds,b,rs,x,e,rd,hs,hb,q⟩:=hq_
  subst e
  obtain ⟨u,rfl,ru⟩:=vals1 r
  obtain ⟨bs,rfl,rfl⟩:=allB_list hb
  rw [any_bls] at q
  obtain ⟨a,ys,rfl,sq,t⟩:=rs.seq rd hs
  cases ru
  have hh:X.A.in1.handled = none:=I.ok.hd hc
  rcases sq with sq | sq
  · obtain ⟨its,vv,pl,_⟩:=I.list sq
    have hne:a ≠ s.heap.objs.size:=Nat.ne_of_lt pl.lt
    have hsz:its.toArray.size = bs.length:=by rw [List.size_toArray,← vv.length,← t.length,List.length_map]
    refine call_any_walk (wpAny_pyIter_list pl.isList ?_)
    refine ⟨_,_,_,_,_,_,fun i=>bs.getD i true,rfl,Walks.list (A:=X.A.in1) hh s.heap.objs.size a hne its.toArray,⟨⟨_,Heap.get?_push_size _ rfl,rfl,rfl⟩,(pl.keeps fun b o e=>Heap.get?_push_of_some _ e).isList⟩,?_,fun h' tk hk=>?_⟩
    · intro i v s' Q' E' hP hQ
      have hP:its.toArray[i]? = some v:=hP
      have ev:v = .bool (bs.getD i true):=bools_at t vv (by simpa using hP)
      subst ev
      exact wpAny_truthy_bool hQ
    · rw [hsz,range_any]
      refine ⟨.bl _,H,I.kept (t':=tk) fun b o e=>hk b o ?_ (Heap.get?_push_of_some _ e),rfl,q⟩
      simp only [List.mem_singleton]
      exact Nat.ne_of_lt (Heap.lt_size e)
  · obtain ⟨its,vv,pl,_⟩:=I.tuple sq
    have pl':s.heap.IsTuple a its.toArray:=pl
    have hne:a ≠ s.heap.objs.size:=Nat.ne_of_lt (by obtain ⟨o,e,_⟩:=pl; exact Heap.lt_size e)
    have hsz:its.toArray.size = bs.length:=by rw [List.size_toArray,← vv.length,← t.length,List.length_map]
    refine call_any_walk (wpAny_pyIter_tuple pl' ?_)
    refine ⟨_,_,_,_,_,_,fun i=>bs.getD i true,rfl,Walks.tuple (A:=X.A.in1) hh s.heap.objs.size a hne its.toArray,⟨⟨_,Heap.get?_push_size _ rfl,rfl,rfl⟩,(let ⟨o,e,c⟩:=pl'; ⟨o,Heap.get?_push_of_some _ e,c⟩)⟩,?_,fun h' tk hk=>?_⟩
    · intro i v s' Q' E' hP hQ
      have hP:its.toArray[i]? = some v:=hP
      have ev:v = .bool (bs.getD i true):=bools_at t vv (by simpa using hP)
      subst ev
      exact wpAny_truthy_bool hQ
    · rw [hsz,range_any]
      refine ⟨.bl _,H,I.kept (t':=tk) fun b o e=>hk b o ?_ (Heap.get?_push_of_some _ e),rfl,q⟩
      simp only [List.mem_singleton]
      exact Nat.ne_of_lt (Heap.lt_size e)
theorem call_divmodB:CallR X (.builtin "divmod") (fun xs H Q=>∃ i j,xs = [.int i,.int j]∧(0 < j∧j.natAbs < 2 ^ 4096)∧∀ p,H p = none→Q (.ref p) (upd H p (.tup [.int (i / j),.int (i % j)]))):=by
  intro pins s σ H xs us Q I r h
  obtain ⟨i,j,rfl,⟨h1,h2⟩,q⟩:=h
  obtain ⟨u,w',rfl,⟨t,rfl⟩,⟨t',rfl⟩⟩:=vals2 r
  refine PyProof.Rows.divmod_int (by omega) ?_ (.inl (PyProof.noPylong_of_log2 (log2_of h2)))
  rw [Int.fdiv_eq_ediv_of_nonneg i (by omega),Int.fmod_eq_emod_of_nonneg i (by omega)]
  have hn:H s.heap.objs.size = none:=I.hok.fresh (Nat.le_refl _)
  refine ⟨.ref s.heap.objs.size,_,?_,rfl,q _ hn⟩
  refine I.laid (fun b o e=>Heap.get?_push_of_some _ e) (Nat.le_refl _) ⟨by simp only [List.length_cons,List.length_nil]; rw [sizeLine_eq]; decide,[.int (i / j) s.toks,.int (i % j) (s.toks + 1)],.cons ⟨_,rfl⟩ (.cons ⟨_,rfl⟩ .nil),?_⟩
  exact ⟨_,Heap.get?_push_size s.heap rfl,rfl,0,rfl⟩
theorem log2_str {n:Nat} (h:n < 2 ^ 1900):n.log2 < 1920:=by
  by_cases z:n = 0
  · subst z; decide +kernel
  · have:=(Nat.log2_lt z).mpr h
    omega
theorem prim_ok (p:Prim) (hc:X.calm = true):CallR X (primVal p) (rP X.K p):=by
  intro pins s σ H xs us Q I r hq_
  obtain ⟨ρ,S,ds,d,S',rs,rd,e,fin⟩:=hq_
  cases p with
  | len =>
    rcases ds with _ | ⟨x,_ | ⟨y,ds⟩⟩<;>try (first | exact absurd e bad_ne | (cases x<;>exact absurd e bad_ne) | (cases x<;>first | exact absurd e bad_ne | (cases y<;>exact absurd e bad_ne)))
    all_goals simp only [rprimD_0] at e
    obtain ⟨v,rfl,rv⟩:=rd.one
    split at e
    · rename_i es hs
      cases e
      obtain ⟨a,ys,rfl,sq,t⟩:=rs.seq rv hs
      refine call_len_seq pins s σ H _ us Q I r ⟨a,ys,rfl,sq,?_⟩
      rw [← t.length]
      exact fin.now rs (RelD.int _)
    · split at e
      · split at e
        · rename_i hl
          cases e
          cases rv.str_inv
          exact call_len_str pins s σ H _ us Q I r ⟨_,rfl,by rw [← line_eq]; exact hl,fin.now rs (RelD.int _)⟩
        · cases e
      · cases e
  | abs =>
    rcases ds with _ | ⟨x,_ | ⟨y,ds⟩⟩<;>try (first | exact absurd e bad_ne | (cases x<;>exact absurd e bad_ne) | (cases x<;>first | exact absurd e bad_ne | (cases y<;>exact absurd e bad_ne)))
    cases x<;>try (exact absurd e bad_ne)
    all_goals simp only [rprimD_1] at e
    cases e
    obtain ⟨v,rfl,rv⟩:=rd.one
    cases rv.int_inv
    exact call_abs pins s σ H _ us Q I r ⟨_,rfl,fin.now rs (RelD.int _)⟩
  | max2 =>
    rcases ds with _ | ⟨x,_ | ⟨y,_ | ⟨z,ds⟩⟩⟩<;>try (first | exact absurd e bad_ne | (cases x<;>exact absurd e bad_ne) | (cases x<;>first | exact absurd e bad_ne | (cases y<;>exact absurd e bad_ne)))
    cases x<;>cases y<;>try (exact absurd e bad_ne)
    all_goals simp only [rprimD_2] at e
    cases e
    obtain ⟨v,w,rfl,rv,rw'⟩:=rd.two
    cases rv.int_inv; cases rw'.int_inv
    exact call_max2 hc pins s σ H _ us Q I r ⟨_,_,rfl,fin.now rs (RelD.int _)⟩
  | min2 =>
    rcases ds with _ | ⟨x,_ | ⟨y,_ | ⟨z,ds⟩⟩⟩<;>try (first | exact absurd e bad_ne | (cases x<;>exact absurd e bad_ne) | (cases x<;>first | exact absurd e bad_ne | (cases y<;>exact absurd e bad_ne)))
    cases x<;>cases y<;>try (exact absurd e bad_ne)
    all_goals simp only [rprimD_3] at e
    cases e
    obtain ⟨v,w,rfl,rv,rw'⟩:=rd.two
    cases rv.int_inv; cases rw'.int_inv
    exact call_min2 hc pins s σ H _ us Q I r ⟨_,_,rfl,fin.now rs (RelD.int _)⟩
  | int1 =>
    rcases ds with _ | ⟨x,_ | ⟨y,ds⟩⟩<;>try (first | exact absurd e bad_ne | (cases x<;>exact absurd e bad_ne) | (cases x<;>first | exact absurd e bad_ne | (cases y<;>exact absurd e bad_ne)))
    obtain ⟨v,rfl,rv⟩:=rd.one
    cases x<;>try (exact absurd e bad_ne)
    all_goals simp only [rprimD_4,rprimD_5,rprimD_14] at e
    · cases e
      cases rv.bl_inv
      exact call_int1 pins s σ H _ us Q I r (.inr ⟨_,rfl,fin.now rs (RelD.int _)⟩)
    · cases e
      cases rv.int_inv
      exact call_int1 pins s σ H _ us Q I r (.inl ⟨_,rfl,fin.now rs (RelD.int _)⟩)
    · split at e
      · rename_i n hn
        split at e
        · rename_i hl
          cases e
          cases rv.str_inv
          obtain ⟨u,rfl,t,rfl⟩:=vals1 r
          exact PySem.W.KIN.call_text hn hl ⟨.int n,H,I.tok _,⟨_,rfl⟩,fin.now rs (RelD.int _)⟩
        · cases e
      · cases e
  | str1 =>
    rcases ds with _ | ⟨x,_ | ⟨y,ds⟩⟩<;>try (first | exact absurd e bad_ne | (cases x<;>exact absurd e bad_ne) | (cases x<;>first | exact absurd e bad_ne | (cases y<;>exact absurd e bad_ne)))
    obtain ⟨v,rfl,rv⟩:=rd.one
    cases x<;>try (exact absurd e bad_ne)
    all_goals simp only [rprimD_6] at e
    split at e
    · rename_i hl
      cases e
      cases rv.int_inv
      exact call_str_int pins s σ H _ us Q I r ⟨_,rfl,log2_str hl,fin.now rs (RelD.str _)⟩
    · cases e
  | list1 =>
    rcases ds with _ | ⟨x,_ | ⟨y,ds⟩⟩<;>try (first | exact absurd e bad_ne | (cases x<;>exact absurd e bad_ne) | (cases x<;>first | exact absurd e bad_ne | (cases y<;>exact absurd e bad_ne)))
    all_goals simp only [rprimD_7] at e
    obtain ⟨v,rfl,rv⟩:=rd.one
    split at e
    · rename_i es hs
      cases e
      obtain ⟨a,ys,rfl,sq,t⟩:=rs.seq rv hs
      exact call_list_of pins s σ H _ us Q I r ⟨a,ys,rfl,sq,fin.newL rs t⟩
    · split at e
      · rename_i l _
        cases hd:dctAt S l with
        | none=>rw [hd] at e; cases e
        | some kvs =>
          rw [hd] at e
          cases e
          obtain ⟨a,ws,rfl,_,ea,q⟩:=rs.dct rv hd
          exact call_list_dct hc pins s σ H _ us Q I r ⟨a,ws,rfl,ea,fin.newL rs q.keys⟩
      · cases e
  | tuple1 =>
    rcases ds with _ | ⟨x,_ | ⟨y,ds⟩⟩<;>try (first | exact absurd e bad_ne | (cases x<;>exact absurd e bad_ne) | (cases x<;>first | exact absurd e bad_ne | (cases y<;>exact absurd e bad_ne)))
    all_goals simp only [rprimD_8] at e
    obtain ⟨v,rfl,rv⟩:=rd.one
    split at e
    · rename_i es hs
      cases e
      obtain ⟨a,ys,rfl,sq,t⟩:=rs.seq rv hs
      refine call_tuple_of pins s σ H _ us Q I r ⟨a,ys,rfl,?_⟩
      rcases sq with sq | sq
      · exact .inl ⟨sq,fin.newT rs t⟩
      · exact .inr ⟨sq,fin.now rs (by simp only [RelD]; exact ⟨a,ys,rfl,sq,t⟩)⟩
    · cases e
  | divmod =>
    rcases ds with _ | ⟨x,_ | ⟨y,_ | ⟨z,ds⟩⟩⟩<;>try (first | exact absurd e bad_ne | (cases x<;>exact absurd e bad_ne) | (cases x<;>first | exact absurd e bad_ne | (cases y<;>exact absurd e bad_ne)))
    cases x<;>cases y<;>try (exact absurd e bad_ne)
    all_goals simp only [rprimD_9] at e
    split at e
    · rename_i hl
      cases e
      obtain ⟨v,w,rfl,rv,rw'⟩:=rd.two
      cases rv.int_inv; cases rw'.int_inv
      exact call_divmodB pins s σ H _ us Q I r ⟨_,_,rfl,hl,fin.newT rs (RelDs.cons (RelD.int _) (RelDs.cons (RelD.int _) RelDs.nil))⟩
    · cases e
  | any1 =>
    rcases ds with _ | ⟨x,_ | ⟨y,ds⟩⟩<;>try (first | exact absurd e bad_ne | (cases x<;>exact absurd e bad_ne) | (cases x<;>first | exact absurd e bad_ne | (cases y<;>exact absurd e bad_ne)))
    all_goals simp only [rprimD_12] at e
    obtain ⟨v,rfl,rv⟩:=rd.one
    split at e
    · rename_i es hs
      split at e
      · rename_i b hb
        cases e
        exact call_any_seq hc pins s σ H _ us Q I r ⟨ρ,S,x,es,b,rs,v,rfl,rv,hs,hb,fin.now rs (RelD.bl _)⟩
      · cases e
    · cases e
  | all1 =>
    rcases ds with _ | ⟨x,_ | ⟨y,ds⟩⟩<;>try (first | exact absurd e bad_ne | (cases x<;>exact absurd e bad_ne) | (cases x<;>first | exact absurd e bad_ne | (cases y<;>exact absurd e bad_ne)))
    all_goals simp only [rprimD_10] at e
    obtain ⟨v,rfl,rv⟩:=rd.one
    split at e
    · rename_i es hs
      split at e
      · rename_i b hb
        cases e
        exact call_all_seq hc pins s σ H _ us Q I r ⟨ρ,S,x,es,b,rs,v,rfl,rv,hs,hb,fin.now rs (RelD.bl _)⟩
      · cases e
    · cases e
noncomputable def methNm:Meth→String
  | .append=>"append" | .pop0=>"pop" | .starts=>"startswith" | .split1=>"split" | .join1=>"join" | .split2=>"split"
noncomputable def methId:Meth→String
  | .append=>"list.append" | .pop0=>"list.pop" | .starts=>"str.startswith" | .split1=>"str.split" | .join1=>"str.join" | .split2=>"str.split"
noncomputable def rM (K:PySem.W.Frag) (p:Meth):V→List V→Hp→VK→Prop:=fun x xs H Q=>∃ ρ S o ds d S',RelS K ρ S H∧RelD K ρ H o x∧RelDs K ρ H ds xs∧methD p o ds S = .ok d S'∧Fin K ρ H d S' Q
theorem strs_vals:∀ (tk:Nat) (xs:List Str),Vals (xs.map V.str) (strsFrom tk xs)
  | _,[]=>.nil
  | tk,x :: r=>.cons ⟨tk,rfl⟩ (strs_vals (tk + 1) r)
theorem mt_split:MtR X "str.split" (fun o xs H Q=>∃ x y,o = .str x∧xs = [.str y]∧(y.length == 0) = false∧x.length ≤ sizeLine∧(Builtin.Str.partsBetween x (Builtin.Str.occurrences x y 0 x.length (x.length + 1)) y.length).length ≤ sizeLine∧∀ p,H p = none→Q (.ref p) (upd H p (.lst ((Txt.split x y).map V.str)))):=by
  intro pins s σ H o xs v us Q I rx rvs hq_
  obtain ⟨x,y,rfl,rfl,hy,hx,hn,q⟩:=hq_
  obtain ⟨t,rfl⟩:=rx
  obtain ⟨u,rfl,t',rfl⟩:=vals1 rvs
  have one:∀ k,Txt.split x y = [x]→EP X pins σ Q (.ref s.heap.objs.size) { s with heap:=s.heap.push { cls:=.type "list",data:=.seq [Value.str x t].toArray },toks:=k }:=fun k e=>by
    rw [e] at q
    exact ⟨.ref _,_,I.lnew (ys:=[.str x]) (.cons ⟨t,rfl⟩ .nil) (by show 1 ≤ sizeLine; decide),rfl,q _ I.fresh⟩
  cases h1:(decide (x.length < y.length) || decide (Builtin.Str.strKind x < Builtin.Str.strKind y))
  · cases hf:(Builtin.Str.occurrences x y 0 x.length (x.length + 1)).isEmpty
    · refine call_meets PySem.F.slot_str_split (typeIs_str _ _ _) PySem.F.entry_str_split (PySem.F.args_str_split_2 _ _) (meets_str_split_sep x y t t' h1 hy hf hx hn) ?_
      have e:Txt.split x y = Builtin.Str.partsBetween x (Builtin.Str.occurrences x y 0 x.length (x.length + 1)) y.length:=(if_neg (ne_true_of_eq_false h1)).trans (if_neg (ne_true_of_eq_false hf))
      rw [e] at q
      exact ⟨.ref _,_,I.lnew (strs_vals _ _) (by rw [List.length_map]; exact hn),rfl,q _ I.fresh⟩
    · exact call_meets PySem.F.slot_str_split (typeIs_str _ _ _) PySem.F.entry_str_split (PySem.F.args_str_split_2 _ _) (meets_str_split_not_found x y t t' h1 hy hf) (one _ ((if_neg (ne_true_of_eq_false h1)).trans (if_pos hf)))
  · exact call_meets PySem.F.slot_str_split (typeIs_str _ _ _) PySem.F.entry_str_split (PySem.F.args_str_split_2 _ _) (meets_str_split_cannot_occur x y t t' h1) (one _ (if_pos h1))
theorem vals_strs:∀ {ts:List Str} {us:List Value},Vals (ts.map V.str) us→∃ l:List (Str × Tok),us = strValues l∧l.map (·.1) = ts
  | [],us,h=>by cases h; exact ⟨[],rfl,rfl⟩
  | x :: ts,us,h=>by
    cases h with
    | cons r rr =>
      obtain ⟨t,rfl⟩:=r
      obtain ⟨l,rfl,e⟩:=vals_strs rr
      exact ⟨(x,t) :: l,rfl,by rw [List.map_cons,e]⟩
theorem mt_join:MtR X "str.join" (fun o xs H Q=>∃ x a ts,o = .str x∧xs = [.ref a]∧H a = some (.lst (ts.map V.str))∧JoinOk x ts = true∧Q (.str (Txt.join x ts)) H):=by
  intro pins s σ H o xs v us Q I rx rvs hq_
  obtain ⟨x,a,ts,rfl,rfl,ha,hok,q⟩:=hq_
  obtain ⟨t,rfl⟩:=rx
  obtain ⟨u,rfl,ru⟩:=vals1 rvs
  cases (show u = .ref a from ru)
  obtain ⟨_,its,n,vv,e⟩:=(show ObjOk X.prog X.w H s.heap a (.lst (ts.map V.str)) from I.hok a _ ha)
  obtain ⟨l,rfl,rfl⟩:=vals_strs vv
  have hok':=hok
  unfold JoinOk at hok
  rw [Bool.not_eq_true'] at hok
  refine call_meets PySem.F.slot_str_join (typeIs_str _ _ _) PySem.F.entry_str_join (PySem.F.args_str_join_2 _ _) (meets_str_join_list x t a l hok) ⟨⟨_,e,rfl,n,rfl⟩,post_join l ⟨joinOk_length hok',fun t' k=>⟨.str _,H,I.tok _,⟨t',rfl⟩,q⟩⟩⟩
theorem mt_split2:MtR X "str.split" (fun o xs H Q=>∃ x y k,o = .str x∧xs = [.str y,.int k]∧(decide (k < -(2 ^ 63:Int)) || decide (k ≥ 2 ^ 63)) = false∧(decide (x.length < y.length) || decide (Builtin.Str.strKind x < Builtin.Str.strKind y)) = false∧(y.length == 0) = false∧(Builtin.Str.occurrences x y 0 x.length (limitOf x k)).isEmpty = false∧x.length ≤ sizeLine∧(Builtin.Str.partsBetween x (Builtin.Str.occurrences x y 0 x.length (limitOf x k)) y.length).length ≤ sizeLine ∧
    ∀ p,H p = none→Q (.ref p) (upd H p (.lst ((Builtin.Str.partsBetween x (Builtin.Str.occurrences x y 0 x.length (limitOf x k)) y.length).map V.str)))):=by
  intro pins s σ H o xs v us Q I rx rvs hq_
  obtain ⟨x,y,k,rfl,rfl,hk,h1,hy,hf,hx,hn,q⟩:=hq_
  obtain ⟨t,rfl⟩:=rx
  obtain ⟨u1,u2,rfl,⟨t1,rfl⟩,⟨t2,rfl⟩⟩:=vals2 rvs
  refine call_meets PySem.F.slot_str_split (typeIs_str _ _ _) PySem.F.entry_str_split (PySem.F.args_str_split_3 _ _ _) (meets_str_split_sep_max x y k t t1 t2 hk h1 hy hf hx hn) ?_
  exact ⟨.ref _,_,I.lnew (strs_vals _ _) (by rw [List.length_map]; exact hn),rfl,q _ I.fresh⟩
theorem RelDs.strs_inv {K:PySem.W.Frag} {ρ:List Addr} {H:Hp}:∀ {xs:List Str} {vs:List V},RelDs K ρ H (xs.map D.str) vs→vs = xs.map V.str
  | [],vs,h=>RelDs.inv_nil h
  | x :: r,vs,h=>by
    obtain ⟨v,us,rfl,a,b⟩:=RelDs.inv_cons h
    rw [RelDs.strs_inv b]
    cases a.str_inv
    rfl
theorem RelDs.strs {K:PySem.W.Frag} {ρ:List Addr} {H:Hp}:∀ xs:List Str,RelDs K ρ H (xs.map D.str) (xs.map V.str)
  | []=>RelDs.nil
  | x :: r=>RelDs.cons (RelD.str x) (RelDs.strs r)
theorem meth_ok (p:Meth) (hu:X.A.units + 64 < cLine):MtR X (methId p) (rM X.K p):=by
  intro pins s σ H x xs v us Q I rx rvs hq_
  obtain ⟨ρ,S,o,ds,d,S',rs,ro,rd,e,fin⟩:=hq_
  cases p with
  | append =>
    cases o<;>rcases ds with _ | ⟨y,_ | ⟨z,ds⟩⟩<;>try (exact absurd e bad_ne)
    all_goals simp only [rmethD_0] at e
    split at e
    · rename_i ys hy
      split at e
      · rename_i hl
        cases e
        obtain ⟨a,zs,rfl,ha,q,t⟩:=rs.lst ro hy
        obtain ⟨w,rfl,rw'⟩:=rd.one
        exact mt_append pins s σ H _ _ v us Q I rx rvs ⟨a,zs,w,rfl,rfl,q,by rw [← t.length,← line_eq]; exact hl,fin ρ _ _ (fut_set q) (rs.set ha q (t.append (RelDs.cons rw' RelDs.nil))) RelD.non⟩
      · cases e
    · cases e
  | pop0 =>
    cases o<;>rcases ds with _ | ⟨y,ds⟩<;>try (exact absurd e bad_ne)
    all_goals simp only [rmethD_1] at e
    split at e
    · rename_i ys hy
      split at e
      · rename_i z hz
        cases e
        obtain ⟨a,zs,rfl,ha,q,t⟩:=rs.lst ro hy
        cases rd.inv_nil
        obtain ⟨w,ew,rw'⟩:=t.get hz
        refine mt_pop pins s σ H _ _ v us Q I rx rvs ⟨a,zs,w,rfl,rfl,q,by rw [← t.length]; exact ew,fin ρ _ _ (fut_set q) (rs.set ha q t.dropLast) (rw'.fut (fut_set q))⟩
      · cases e
    · cases e
  | starts =>
    cases o<;>rcases ds with _ | ⟨y,_ | ⟨z,ds⟩⟩<;>try (exact absurd e bad_ne)
    all_goals (cases y<;>try (exact absurd e bad_ne))
    all_goals simp only [rmethD_7] at e
    cases e
    obtain ⟨w,rfl,rw'⟩:=rd.one
    cases ro.str_inv; cases rw'.str_inv
    obtain ⟨t,rfl⟩:=rx
    obtain ⟨u,rfl,t',rfl⟩:=vals1 rvs
    refine call_gives PySem.F.slot_str_startswith (typeIs_str _ _ _) PySem.F.entry_str_startswith (PySem.F.args_str_startswith_2 _ _) (gives_str_startswith _ _ _ _) ?_
    exact ⟨.bl _,H,I,rfl,fin.now rs (RelD.bl _)⟩
  | split1 =>
    cases o<;>rcases ds with _ | ⟨y,_ | ⟨z,ds⟩⟩<;>try (exact absurd e bad_ne)
    all_goals (cases y<;>try (exact absurd e bad_ne))
    all_goals simp only [rmethD_8] at e
    split at e<;>try (exact absurd e bad_ne)
    rename_i hc
    simp only [Bool.and_eq_true,decide_eq_true_eq,Bool.not_eq_true'] at hc
    cases e
    obtain ⟨w,rfl,rw'⟩:=rd.one
    cases ro.str_inv; cases rw'.str_inv
    exact mt_split pins s σ H _ _ v us Q I rx rvs ⟨_,_,rfl,rfl,hc.1.1,by rw [← line_eq]; exact hc.1.2,by rw [← line_eq]; exact hc.2,fin.newL rs (RelDs.strs _)⟩
  | split2 =>
    cases o<;>rcases ds with _ | ⟨y,_ | ⟨z,_ | ⟨z2,ds⟩⟩⟩<;>try (first | exact absurd e bad_ne | (cases y<;>exact absurd e bad_ne) | (cases y<;>first | exact absurd e bad_ne | (cases z<;>exact absurd e bad_ne)))
    cases y<;>cases z<;>try (exact absurd e bad_ne)
    simp only [rmethD_10] at e
    split at e<;>try (exact absurd e bad_ne)
    rename_i hc
    simp only [Bool.and_eq_true,decide_eq_true_eq,Bool.not_eq_true'] at hc
    obtain ⟨⟨⟨⟨⟨⟨c1,c2⟩,c3⟩,c4⟩,c5⟩,c6⟩,c7⟩:=hc
    cases e
    obtain ⟨v1,v2,rfl,r1,r2⟩:=rd.two
    cases ro.str_inv; cases r1.str_inv; cases r2.int_inv
    refine mt_split2 pins s σ H _ _ v us Q I rx rvs ⟨_,_,_,rfl,rfl,?_,c3,c4,c5,by rw [← line_eq]; exact c6,by rw [← line_eq]; exact c7,fin.newL rs (RelDs.strs _)⟩
    rw [Bool.or_eq_false_iff,decide_eq_false_iff_not,decide_eq_false_iff_not]
    omega
  | join1 =>
    cases o<;>rcases ds with _ | ⟨y,_ | ⟨z,ds⟩⟩<;>try (exact absurd e bad_ne)
    all_goals (cases y<;>try (exact absurd e bad_ne))
    all_goals simp only [rmethD_9] at e
    split at e<;>try (exact absurd e bad_ne)
    rename_i es hs
    split at e<;>try (exact absurd e bad_ne)
    rename_i ts hts
    split at e<;>try (exact absurd e bad_ne)
    rename_i hok
    cases e
    obtain ⟨w,rfl,rw'⟩:=rd.one
    cases ro.str_inv
    obtain ⟨a,ys,rfl,_,sq,t⟩:=rs.lst rw' hs
    rw [strsD_inv hts] at t
    cases RelDs.strs_inv t
    exact mt_join pins s σ H _ _ v us Q I rx rvs ⟨_,a,ts,rfl,rfl,sq,hok,fin.now rs (RelD.str _)⟩
end
end Mi
namespace Mi
open PySem L2
structure Ow where
  mt:List (String × String × String)
  fd:List (String × String)
  nw:List (String × String)
structure Ck where
  N:List Str
  names:List (Str × NameKind)
  fn:Bool
  B:List String
  F:List String
  O:Ow
noncomputable def dbg (x:Str):Bool:=!(x == ("__debug__":Str)) && !(x == ("__classdict__":Str))
noncomputable def Ck.vis (c:Ck) (x:Str):Bool:=c.names.lookup x == some .local || c.names.lookup x == some .cell || c.names.lookup x == some .free
noncomputable def Ck.own (c:Ck) (x:Str):Bool:=if c.fn then c.names.lookup x == some .local || c.names.lookup x == some .cell else c.names.lookup x == some .local
noncomputable def Ck.gl (c:Ck) (x:Str):Bool:=c.names.lookup x == some .globalImplicit
noncomputable def relab (inner outer:List (Str × NameKind)):List (Str × NameKind):=inner.map fun (n,k)=>if (k == .free && outer.lookup n == some .cell) then (n,.cell) else (n,k)
noncomputable def Ck.inner (c:Ck) (N:List String) (scope:Scope):Ck:={ c with N:=N.map Str.ofString,names:=relab scope.names c.names,fn:=false }
noncomputable def Ck.comp (c:Ck) (N:List String) (k:Nat) (keep:List Nat) (scope:Scope):Bool :=
  scope.kind == .function && scope.names.all (fun y=>y.2 != .cell) && scope.names.all (fun y=>y.2 != .local || scope.names.lookup y.1 == some .local)
    && scope.names.all (fun y=>y.2 != .free || c.names.lookup y.1 == some .cell || c.names.lookup y.1 == some .free)
    && N.length == k + keep.length && decide ((N.map Str.ofString).Nodup)
    && (List.range keep.length).all (fun j=>match keep[j]?,(N.map Str.ofString)[k + j]? with
      | some i,some x=>c.N[i]? == some x && scope.names.lookup x == some .free
      | _,_=>false)
noncomputable def isCall0:Expr→Bool
  | .Call (.Name ..) [] [] _=>true
  | _=>false
noncomputable def isComp:Expr→Bool
  | .ListComp ..=>true | .SetComp ..=>true | .DictComp ..=>true
  | _=>false
noncomputable def tgOwn (k:Nat):M→Bool
  | .tvar i=>decide (i < k)
  | .ttup ts=>tgOwn k ts
  | .nul=>true
  | .cns a b=>tgOwn k a && tgOwn k b
  | _=>false
noncomputable def okRecv:Meth→M→Bool
  | _,_=>true
noncomputable def noSetE:Expr→Bool
  | .Set ..=>false
  | _=>true
noncomputable def constIs (o:Cop) (e:Expr):Bool:=match o with
  | _=>noSetE e
noncomputable def itT:M→Expr→Bool
  | .enm _,.Tuple _ _ _=>true
  | .enm _,_=>false
  | .zp _ _,.Tuple _ _ _=>true
  | .zp _ _,_=>false
  | _,_=>true
mutual
noncomputable def chkE:M→Ck→Expr→Bool
  | .cst .non,_,.Constant .none _ _=>true
  | .cst (.bl b),_,.Constant (.bool b') _ _=>b == b'
  | .cst (.int i),_,.Constant (.int j) _ _=>i == j
  | .cst (.str x),_,.Constant (.str y) _ _=>x == y
  | .var i,c,.Name x _=>c.N[i]? == some x && c.vis x && dbg x
  | .glb g,c,.Name x _=>Str.ofString g == x && c.gl x && dbg x
  | .bin o a b,c,.BinOp e p f _=>opOf o == p && chkE a c e && chkE b c f
  | .neg a,c,.UnaryOp .USub e _=>chkE a c e
  | .nott a,c,.UnaryOp .Not e _=>chkE a c e
  | .bo true as,c,.BoolOp .And es _=>chkA as c es
  | .bo false as,c,.BoolOp .Or es _=>chkA as c es
  | .cmp o a b,c,.Compare e [p] [f] _=>copOf o == p && chkE a c e && chkE b c f && constIs o f
  | .cmp2 o o' a b d,c,.Compare e [p,p'] [f,g] _=>copOf o == p && copOf o' == p' && chkE a c e && chkE b c f && chkE d c g && constIs o f && constIs o' g
  | .ife t a b,c,.IfExp x e f _=>chkE t c x && chkE a c e && chkE b c f
  | .tup as,c,.Tuple es _ _=>chkA as c es
  | .lst as,c,.List es _=>chkA as c es
  | .idx a b,c,.Subscript e f _=>chkE a c e && chkE b c f
  | .sli a lo hi,c,.Subscript e (.Slice l h none _) _=>chkE a c e && chkO lo c l && chkO hi c h
  | .call f as,c,.Call (.Name x _) es [] _=>Str.ofString f == x && c.gl x && dbg x && c.F.contains f && chkA as c es
  | .prim p as,c,.Call (.Name x _) (e :: es) [] _=>Str.ofString (primNm p) == x && c.gl x && c.B.contains (primNm p) && chkA as c (e :: es)
  | .isi a t,c,.Call (.Name x _) [e,.Name y _] [] _=>Str.ofString "isinstance" == x && Str.ofString t == y && c.gl x && c.gl y && c.B.contains "isinstance" && c.B.contains t && clNames.contains t && chkE a c e
  | .meth p o as,c,.Call (.Attribute e x ap) es [] cp=>Str.ofString (methNm p) == x && !isCall0 e && ap.endLine == cp.line && decide (es.length < 20) && chkE o c e && chkA as c es && okRecv p o
  | .comp N k keep tg it cd el,c,.ListComp elt [⟨t,i,fs,asy⟩] scope _=>asy == 0 && c.comp N k keep scope && tgOwn k tg && chkG tg (c.inner N scope) t && chkI it c i && chkC cd (c.inner N scope) fs && chkE el (c.inner N scope) elt && itT it t
  | .dnil,_,.Dict [] [] _=>true
  | _,_,_=>false
noncomputable def chkA:M→Ck→List Expr→Bool
  | .nul,_,[]=>true
  | .cns a b,c,e :: es=>chkE a c e && chkA b c es
  | _,_,_=>false
noncomputable def chkO:M→Ck→Option Expr→Bool
  | .nul,_,none=>true
  | .cns a .nul,c,some e=>chkE a c e
  | _,_,_=>false
noncomputable def chkC:M→Ck→List Expr→Bool
  | .nul,_,[]=>true
  | .cns a .nul,c,[e]=>chkE a c e
  | _,_,_=>false
noncomputable def chkI:M→Ck→Expr→Bool
  | .rng a,c,.Call (.Name x _) [e] [] _=>Str.ofString "range" == x && c.gl x && c.B.contains "range" && chkE a c e
  | .cns a .nul,c,e=>chkE a c e
  | .zp a b,c,.Call (.Name x _) [e,f] [] _=>Str.ofString "zip" == x && c.gl x && c.B.contains "zip" && chkE a c e && chkE b c f
  | .enm a,c,.Call (.Name x _) [e] [] _=>Str.ofString "enumerate" == x && c.gl x && c.B.contains "enumerate" && chkE a c e
  | _,_,_=>false
noncomputable def chkG:M→Ck→Expr→Bool
  | .tvar i,c,.Name x _=>c.N[i]? == some x && c.own x
  | .ttup ts,c,.Tuple es _ _=>chkGs ts c es
  | .tsub a b,c,.Subscript e f _=>chkE a c e && chkE b c f
  | _,_,_=>false
noncomputable def chkGs:M→Ck→List Expr→Bool
  | .nul,_,[]=>true
  | .cns a b,c,e :: es=>chkG a c e && chkGs b c es
  | _,_,_=>false
noncomputable def chkS:M→Ck→Stmt→Bool
  | .asg t e,c,.Assign [tg] v _=>chkG t c tg && chkE e c v && (match tg,v with | .Tuple ..,.Tuple ..=>false | .Name ..,_=>true | _,v=>!isComp v)
  | .ifs t a b,c,.If x y z _=>chkE t c x && chkB a c y && chkB b c z
  | .forr t i b,c,.For tg it body [] _=>chkG t c tg && chkI i c it && chkB b c body && itT i tg
  | .whl t b,c,.While x body [] _=>chkE t c x && chkB b c body
  | .ret e,c,.Return (some v) _=>chkE e c v
  | .exp e,c,.Expr v _=>chkE e c v && !isComp v
  | .rse,_,.Raise (some _) none _=>true
  | _,_,_=>false
noncomputable def chkB:M→Ck→List Stmt→Bool
  | .nul,_,[]=>true
  | .cns a b,c,s :: ss=>chkS a c s && chkB b c ss
  | _,_,_=>false
end
theorem cE_1:chkE (.cst (.bl b)) (u1') (.Constant (.bool b') u2' u3') = (b == b'):=rfl
theorem cE_2:chkE (.cst (.int i)) (u1') (.Constant (.int j) u2' u3') = (i == j):=rfl
theorem cE_3:chkE (.cst (.str x)) (u1') (.Constant (.str y) u2' u3') = (x == y):=rfl
theorem cE_4:chkE (.var i) (c) (.Name x u1') = (c.N[i]? == some x && c.vis x && dbg x):=rfl
theorem cE_5:chkE (.glb g) (c) (.Name x u1') = (Str.ofString g == x && c.gl x && dbg x):=rfl
theorem cE_6:chkE (.bin o a b) (c) (.BinOp e p f u1') = (opOf o == p && chkE a c e && chkE b c f):=rfl
theorem cE_7:chkE (.neg a) (c) (.UnaryOp .USub e u1') = (chkE a c e):=rfl
theorem cE_8:chkE (.nott a) (c) (.UnaryOp .Not e u1') = (chkE a c e):=rfl
theorem cE_9:chkE (.bo true as) (c) (.BoolOp .And es u1') = (chkA as c es):=rfl
theorem cE_10:chkE (.bo false as) (c) (.BoolOp .Or es u1') = (chkA as c es):=rfl
theorem cE_11:chkE (.cmp o a b) (c) (.Compare e [p] [f] u1') = (copOf o == p && chkE a c e && chkE b c f && constIs o f):=rfl
theorem cE_12:chkE (.cmp2 o o' a b d) (c) (.Compare e [p,p'] [f,g] u1') = (copOf o == p && copOf o' == p' && chkE a c e && chkE b c f && chkE d c g && constIs o f && constIs o' g):=rfl
theorem cE_13:chkE (.ife t a b) (c) (.IfExp x e f u1') = (chkE t c x && chkE a c e && chkE b c f):=rfl
theorem cE_14:chkE (.tup as) (c) (.Tuple es u1' u2') = (chkA as c es):=rfl
theorem cE_15:chkE (.lst as) (c) (.List es u1') = (chkA as c es):=rfl
theorem cE_16:chkE (.idx a b) (c) (.Subscript e f u1') = (chkE a c e && chkE b c f):=rfl
theorem cE_17:chkE (.sli a lo hi) (c) (.Subscript e (.Slice l h none u1') u2') = (chkE a c e && chkO lo c l && chkO hi c h):=rfl
theorem cE_18:chkE (.call f as) (c) (.Call (.Name x u1') es [] u2') = (Str.ofString f == x && c.gl x && dbg x && c.F.contains f && chkA as c es):=rfl
theorem cE_19:chkE (.prim p as) (c) (.Call (.Name x u1') (e :: es) [] u2') = (Str.ofString (primNm p) == x && c.gl x && c.B.contains (primNm p) && chkA as c (e :: es)):=rfl
theorem cE_20:chkE (.isi a t) (c) (.Call (.Name x u1') [e,.Name y u2'] [] u3') = (Str.ofString "isinstance" == x && Str.ofString t == y && c.gl x && c.gl y && c.B.contains "isinstance" && c.B.contains t && clNames.contains t && chkE a c e):=rfl
theorem cE_21:chkE (.meth p o as) (c) (.Call (.Attribute e x ap) es [] cp) = (Str.ofString (methNm p) == x && !isCall0 e && ap.endLine == cp.line && decide (es.length < 20) && chkE o c e && chkA as c es && okRecv p o):=rfl
theorem cE_22:chkE (.comp N k keep tg it cd el) (c) (.ListComp elt [⟨t,i,fs,asy⟩] scope u1') = (asy == 0 && c.comp N k keep scope && tgOwn k tg && chkG tg (c.inner N scope) t && chkI it c i && chkC cd (c.inner N scope) fs && chkE el (c.inner N scope) elt && itT it t):=rfl
theorem cA_1:chkA (.cns a b) c (e :: es) = (chkE a c e && chkA b c es):=rfl
theorem cGs_1:chkGs (.cns a b) c (e :: es) = (chkG a c e && chkGs b c es):=rfl
theorem cB_1:chkB (.cns a b) c (s :: ss) = (chkS a c s && chkB b c ss):=rfl
theorem cI_0:chkI (.rng a) (c) (.Call (.Name x u1') [e] [] u2') = (Str.ofString "range" == x && c.gl x && c.B.contains "range" && chkE a c e):=rfl
theorem cI_2:chkI (.cns a .nul) (c) (e) = (chkE a c e):=rfl
theorem cI_zp:chkI (.zp a b) (c) (.Call (.Name x u1') [e,f] [] u2') = (Str.ofString "zip" == x && c.gl x && c.B.contains "zip" && chkE a c e && chkE b c f):=rfl
theorem cI_3:chkI (.enm a) (c) (.Call (.Name x u1') [e] [] u2') = (Str.ofString "enumerate" == x && c.gl x && c.B.contains "enumerate" && chkE a c e):=rfl
theorem cG_0:chkG (.tvar i) (c) (.Name x u1') = (c.N[i]? == some x && c.own x):=rfl
theorem cG_1:chkG (.ttup ts) (c) (.Tuple es u1' u2') = (chkGs ts c es):=rfl
theorem cG_2:chkG (.tsub a b) (c) (.Subscript e f u1') = (chkE a c e && chkE b c f):=rfl
theorem cS_0:chkS (.asg t e) (c) (.Assign [tg] v u1') = (chkG t c tg && chkE e c v && (match tg,v with | .Tuple ..,.Tuple ..=>false | .Name ..,_=>true | _,v=>!isComp v)):=rfl
theorem cS_1:chkS (.ifs t a b) (c) (.If x y z u1') = (chkE t c x && chkB a c y && chkB b c z):=rfl
theorem cS_2:chkS (.forr t i b) (c) (.For tg it body [] u1') = (chkG t c tg && chkI i c it && chkB b c body && itT i tg):=rfl
theorem cS_3:chkS (.whl t b) (c) (.While x body [] u1') = (chkE t c x && chkB b c body):=rfl
theorem cS_4:chkS (.ret e) (c) (.Return (some v) u1') = (chkE e c v):=rfl
theorem cS_6:chkS (.exp e) (c) (.Expr v u1') = (chkE e c v && !isComp v):=rfl
section
variable (K:PySem.W.Frag) (C:Pr)
noncomputable def tE (m:M):TE:=fun σ H Q=>∃ ρ S τ d S',RelS K ρ S H∧RelE K ρ H τ σ∧evE C m τ S = .ok d S'∧Fin K ρ H d S' Q
noncomputable def FinB (ρ:List Addr) (H:Hp) (S':Store) (Q:Hp→Prop):Prop:=∀ ρ' H',Fut K ρ H ρ' H'→RelS K ρ' S' H'→Q H'
noncomputable def tT (m:M):TT:=fun σ H Q=>∃ ρ S τ b S',RelS K ρ S H∧RelE K ρ H τ σ∧evT C m τ S = .ok b S'∧FinB K ρ H S' (Q b)
noncomputable def tC (m:M):TT:=fun σ H Q=>∃ ρ S τ b S',RelS K ρ S H∧RelE K ρ H τ σ∧evC C m τ S = .ok b S'∧FinB K ρ H S' (Q b)
noncomputable def tBV (w:Bool) (m:M):TE:=fun σ H Q=>∃ ρ S τ d S',RelS K ρ S H∧RelE K ρ H τ σ∧evBV C w m τ S = .ok d S'∧Fin K ρ H d S' Q
noncomputable def tBT (w:Bool) (m:M):TT:=fun σ H Q=>∃ ρ S τ b S',RelS K ρ S H∧RelE K ρ H τ σ∧evBT C w m τ S = .ok b S'∧FinB K ρ H S' (Q b)
noncomputable def tA (m:M):TA:=fun σ H Q=>∃ ρ S τ ds S',RelS K ρ S H∧RelE K ρ H τ σ∧evA C m τ S = .ok ds S'∧∀ ρ' vs H',Fut K ρ H ρ' H'→RelS K ρ' S' H'→RelDs K ρ' H' ds vs→Q vs H'
noncomputable def tO (m:M):TO:=fun σ H Q=>∃ ρ S τ o S',RelS K ρ S H∧RelE K ρ H τ σ∧evO C m τ S = .ok o S'∧FinB K ρ H S' (Q o)
structure ItOk (ρ0:List Addr) (H0:Hp) (J:It) (g:Wk) (ds:List D):Prop where
  go:∀ ρ H S i d,Fut K ρ0 H0 ρ H→RelS K ρ S H→sameAt S g ds.length = true→nth S g ds i = some d→J.go i H∧∀ x H',J.yld i H x H'→Fut K ρ H ρ H'∧RelS K ρ S H'∧RelD K ρ H' d x
  stop:∀ ρ H S,Fut K ρ0 H0 ρ H→RelS K ρ S H→sameAt S g ds.length = true→J.stop ds.length H
noncomputable def tI (m:M):TI:=fun σ H R=>∃ ρ S τ g ds S',RelS K ρ S H∧RelE K ρ H τ σ∧evI C m τ S = .ok (g,ds) S'∧∀ ρ' H' J,Fut K ρ H ρ' H'→RelS K ρ' S' H'→ItOk K ρ' H' J g ds→R J H'
noncomputable def FinG (ρ:List Addr) (H:Hp) (τ':En) (S':Store) (Q:L2.St→Hp→Prop):Prop:=∀ ρ' σ' H',Fut K ρ H ρ' H'→RelS K ρ' S' H'→RelE K ρ' H' τ' σ'→Q σ' H'
noncomputable def tG (m:M):TG:=fun v σ H Q=>∃ ρ S τ d τ' S',RelS K ρ S H∧RelE K ρ H τ σ∧RelD K ρ H d v∧evG C m d τ S = .ok τ' S'∧FinG K ρ H τ' S' Q
noncomputable def tGs (m:M):TGs:=fun vs σ H Q=>∃ ρ S τ ds τ' S',RelS K ρ S H∧RelE K ρ H τ σ∧RelDs K ρ H ds vs∧evGs C m ds τ S = .ok τ' S'∧FinG K ρ H τ' S' Q
noncomputable def FlOk (ρ:List Addr) (H:Hp) (fl:Fl) (S':Store) (D:Ends):Prop:=match fl with
  | .nx τ'=>FinG K ρ H τ' S' D.nx
  | .bk τ'=>FinG K ρ H τ' S' D.bk
  | .ct τ'=>FinG K ρ H τ' S' D.ct
  | .rt d=>Fin K ρ H d S' D.rt
noncomputable def tS (m:M):TS:=fun D σ H=>∃ ρ S τ fl S',RelS K ρ S H∧RelE K ρ H τ σ∧evS C m τ S = .ok fl S'∧FlOk K ρ H fl S' D
noncomputable def tB' (m:M):TS:=fun D σ H=>∃ ρ S τ fl S',RelS K ρ S H∧RelE K ρ H τ σ∧evB C m τ S = .ok fl S'∧FlOk K ρ H fl S' D
noncomputable def spM (f:String):Sp:=fun vs H Q _=>∃ ρ S ds d S',RelS K ρ S H∧RelDs K ρ H ds vs∧C.call f ds S = .ok d S'∧Fin K ρ H d S' Q
end
structure Tp (P:Program) (w:World) (K:PySem.W.Frag) (mg:Str→Option Value) (base:Heap) (A:Around) (C:Pr) (B F:List String) (O:Ow):Prop where
  fns:∀ f ∈ F,∃ k a fd ps,Room k A∧mg (Str.ofString f) = some (.ref a)∧FnOk P w K mg base CX0 k a fd ps (spM K C f)∧Binds K fd ps []∧PySem.W.keepIn K (.ref a) = true
  blt:∀ x ∈ B,mg (Str.ofString x) = none
  gl:∀ x d,C.glob x = some d→∃ v u,mg (Str.ofString x) = some u∧RelV v u∧(∀ ρ H,RelD K ρ H d v)∧∀ ds,d = .tup ds→∃ a o,v = .ref a∧K.lookup a = some o∧o.cls = .type "tuple"∧o.dict = none
  un:A.units + 64 < cLine
  mts:∀ c m f,(c,m,f) ∈ O.mt→∃ k a fd ps Ca,Room (k + 1) A∧PySem.W.nsIn K mainGlobals (Str.ofString c) = some (some (.ref Ca))∧L2.Cls K Ca∧L2.Meth K Ca (Str.ofString m) a∧L2.MethB K (Str.ofString m) a∧FnOk P w K mg base CX0 k a fd ps (spM K C f)∧Binds K fd ps []
  fds:∀ c f,(c,f) ∈ O.fd→∃ Ca,PySem.W.nsIn K mainGlobals (Str.ofString c) = some (some (.ref Ca))∧L2.Cls K Ca∧L2.NoAttr K Ca (Str.ofString f)
  nws:∀ c f,(c,f) ∈ O.nw→∃ k a fd ps Ca,Room (k + 1) A∧PySem.W.nsIn K mainGlobals (Str.ofString c) = some (some (.ref Ca))∧mg (Str.ofString c) = some (.ref Ca)∧L2.Mk K Ca a∧FnOk P w K mg base CX0 k a fd ps (spM K C f)∧Binds K fd ps []
structure Gd (X:Cx) (C:Pr) (c:Ck):Prop where
  N:X.N = c.N
  nd:X.N.Nodup
  names:X.env.scope.names = c.names
  sk:X.env.scope.kind = .function
  fn:∀ x,X.fn x = c.fn
  calm:X.calm = true
  xe:X.xe = fun _ _=>False
  top:Tp X.prog X.w X.K X.mg X.base X.A C c.B c.F c.O
section
variable {X:Cx} {C:Pr} {c:Ck}
theorem PE.imp {e:Expr} {t t':TE} (h:PE X e t) (hi:∀ σ H Q,t' σ H Q→t σ H Q):PE X e t':=fun pins s σ H Q I q=>h pins s σ H Q I (hi _ _ _ q)
theorem PT.imp {e:Expr} {t t':TT} (h:PT X e t) (hi:∀ σ H Q,t' σ H Q→t σ H Q):PT X e t':=fun pins s σ H Q I q=>h pins s σ H Q I (hi _ _ _ q)
theorem PA.imp {e:List Expr} {t t':TA} (h:PA X e t) (hi:∀ σ H Q,t' σ H Q→t σ H Q):PA X e t':=fun pos pins s σ H Q I q=>h pos pins s σ H Q I (hi _ _ _ q)
theorem PI.imp {tg e:Expr} {t t':TI} (h:PI X tg e t) (hi:∀ σ H Q,t' σ H Q→t σ H Q):PI X tg e t':=fun pins s σ H Q I q=>h pins s σ H Q I (hi _ _ _ q)
theorem PO.imp {e:Option Expr} {t t':TO} (h:PO X e t) (hi:∀ σ H Q,t' σ H Q→t σ H Q):PO X e t':=fun pins s σ H Q I q=>h pins s σ H Q I (hi _ _ _ q)
theorem PG.imp {e:Expr} {t t':TG} (h:PG X e t) (hi:∀ v σ H Q,t' v σ H Q→t v σ H Q):PG X e t':=fun pins s σ H v u Q I r q=>h pins s σ H v u Q I r (hi _ _ _ _ q)
theorem PGs.imp {e:List Expr} {t t':TGs} (h:PGs X e t) (hi:∀ v σ H Q,t' v σ H Q→t v σ H Q):PGs X e t':=fun pins s σ H v u Q I r q=>h pins s σ H v u Q I r (hi _ _ _ _ q)
theorem PS.imp {e:Stmt} {t t':TS} (h:PS X e t) (hi:∀ D σ H,t' D σ H→t D σ H):PS X e t':=fun pins s σ H D I q=>h pins s σ H D I (hi _ _ _ q)
theorem PSs.imp {e:List Stmt} {t t':TS} (h:PSs X e t) (hi:∀ D σ H,t' D σ H→t D σ H):PSs X e t':=fun pins s σ H D I q=>h pins s σ H D I (hi _ _ _ q)
theorem PTs.imp {e:List Expr} {t t':TT} (h:PTs X e t) (hi:∀ σ H Q,t' σ H Q→t σ H Q):PTs X e t':=fun pins s σ H Q I q=>h pins s σ H Q I (hi _ _ _ q)
theorem dbg1 {x:Str} (h:dbg x = true):(x == ("__debug__":Str)) = false:=by unfold dbg at h; simp only [Bool.and_eq_true,Bool.not_eq_true'] at h; exact h.1
theorem dbg2 {x:Str} (h:dbg x = true):(x == ("__classdict__":Str)) = false:=by unfold dbg at h; simp only [Bool.and_eq_true,Bool.not_eq_true'] at h; exact h.2
theorem Gd.vis (g:Gd X C c) {x:Str} (h:c.vis x = true):Vis X.env.scope x:=by
  unfold Ck.vis at h
  simp only [Bool.or_eq_true,beq_iff_eq] at h
  unfold Vis
  rw [g.names]
  rcases h with (h | h) | h
  · exact .inl h
  · exact .inr (.inl h)
  · exact .inr (.inr h)
theorem Gd.own (g:Gd X C c) {x:Str} (h:c.own x = true):L2.Loc X.env.scope x∧(X.fn x = true ∨ X.env.scope.names.lookup x = some .local):=by
  unfold Ck.own at h
  unfold L2.Loc
  rw [g.names,g.fn]
  split at h
  · rename_i hf
    simp only [Bool.or_eq_true,beq_iff_eq] at h
    exact ⟨h,.inl hf⟩
  · simp only [beq_iff_eq] at h
    exact ⟨.inl h,.inr h⟩
theorem Gd.glo (g:Gd X C c) {x:Str} (h:c.gl x = true):Gl X x:=by
  unfold Ck.gl at h
  simp only [beq_iff_eq] at h
  unfold Gl Env.kindOf
  rw [g.names]
  exact h
theorem noStar:∀ {m:M} {c:Ck} {e:Expr},chkE m c e = true→∀ x p,e ≠ .Starred x p:=by
  intro m c e h x p z
  subst z
  cases m<;>first | (exact absurd h Bool.false_ne_true) | (rename_i d; cases d<;>exact absurd h Bool.false_ne_true) | (rename_i w _; cases w<;>exact absurd h Bool.false_ne_true)
theorem star_cons {e:Expr} {es:List Expr} {env:Env} (h:∀ x p,e ≠ .Starred x p):starEach (e :: es) env = (false,eval e env) :: starEach es env:=by
  cases e<;>first | rfl | exact absurd rfl (h _ _)
theorem assign_cons {e:Expr} {es:List Expr} {env:Env} (h:∀ x p,e ≠ .Starred x p):assignEach (e :: es) env = (false,assign e env) :: assignEach es env:=by
  cases e<;>first | rfl | exact absurd rfl (h _ _)
theorem noStars:∀ {m:M} {c:Ck} {es:List Expr} {env:Env},chkA m c es = true→(starEach es env).any (·.1) = false:=by
  intro m
  induction m with
  | nul=>intro c es env h; cases es<;>first | rfl | exact absurd h Bool.false_ne_true
  | cns a b _ ihb =>
    intro c es env h
    cases es with
    | nil=>exact absurd h Bool.false_ne_true
    | cons e es =>
      simp only [cA_1,Bool.and_eq_true] at h
      rw [star_cons (noStar h.1),List.any_cons,ihb h.2]
      rfl
  | _=>intro c es env h; exact absurd h Bool.false_ne_true
theorem backTo_any (pos:Pos) (l:List (Bool × Sem Value)):(backTo pos l).any (·.1) = l.any (·.1):=by
  unfold backTo
  rw [List.any_map]
  rfl
theorem backTo_all (pos:Pos) (l:List (Bool × Sem Value)) (h:l.any (·.1) = false):(backTo pos l).all (fun x=>!x.1) = true:=by
  unfold backTo
  rw [List.all_map]
  rw [List.any_eq_false] at h
  rw [List.all_eq_true]
  intro x hx
  have:=h x hx
  simpa using this
theorem plainIx:∀ {m:M} {c:Ck} {e:Expr},chkE m c e = true→PlainIx e:=by
  intro m c e h o i
  cases e<;>first | rfl | (exfalso; cases m<;>first | (exact absurd h Bool.false_ne_true) | (rename_i d; cases d<;>exact absurd h Bool.false_ne_true) | (rename_i w _; cases w<;>exact absurd h Bool.false_ne_true))
theorem mem_contains {l:List String} {x:String} (h:l.contains x = true):x ∈ l:=by simpa using h
theorem marks {o:Cop} {e:Expr} (h:constIs o e = true) (p:CmpOp):behindInMarks p e = false:=by
  cases e<;>first | rfl | (cases o<;>exact absurd h Bool.false_ne_true)
end
end Mi
namespace Mi
open PySem L2
structure Snd (C:Pr) (m:M):Prop where
  e:∀ (X:Cx) (c:Ck) (x:Expr),Gd X C c→chkE m c x = true→PE X x (tE X.K C m)
  t:∀ (X:Cx) (c:Ck) (x:Expr),Gd X C c→chkE m c x = true→PT X x (tT X.K C m)
  a:∀ (X:Cx) (c:Ck) (x:List Expr),Gd X C c→chkA m c x = true→PA X x (tA X.K C m)
  bv:∀ (X:Cx) (c:Ck) (w:Bool) (x:List Expr) (pos:Pos),Gd X C c→chkA m c x = true→PE X (.BoolOp (if w then .And else .Or) x pos) (tBV X.K C w m)
  bt:∀ (X:Cx) (c:Ck) (w:Bool) (x:List Expr) (pos:Pos),Gd X C c→chkA m c x = true→PW X (.BoolOp (if w then .And else .Or) x pos) (tBT X.K C w m)
  o:∀ (X:Cx) (c:Ck) (x:Option Expr),Gd X C c→chkO m c x = true→PO X x (tO X.K C m)
  cd:∀ (X:Cx) (c:Ck) (x:List Expr),Gd X C c→chkC m c x = true→PTs X x (tC X.K C m)
  i:∀ (X:Cx) (c:Ck) (tg x:Expr),Gd X C c→chkI m c x = true→itT m tg = true→PI X tg x (tI X.K C m)∧∀ v,foldedSetIterable x X.env v = pure v
  g:∀ (X:Cx) (c:Ck) (x:Expr),Gd X C c→chkG m c x = true→PG X x (tG X.K C m)
  gs:∀ (X:Cx) (c:Ck) (x:List Expr),Gd X C c→chkGs m c x = true→PGs X x (tGs X.K C m)
  s:∀ (X:Cx) (c:Ck) (x:Stmt),Gd X C c→chkS m c x = true→PS X x (tS X.K C m)
  b:∀ (X:Cx) (c:Ck) (x:List Stmt),Gd X C c→chkB m c x = true→PSs X x (tB' X.K C m)
section
variable {C:Pr} {X:Cx} {c:Ck}
theorem pe_no {e:Expr} {t:TE} (h:∀ σ H Q,¬ t σ H Q):PE X e t:=fun pins s σ H Q _ q=>absurd q (h _ _ _)
theorem pt_no {e:Expr} {t:TT} (h:∀ σ H Q,¬ t σ H Q):PT X e t:=fun pins s σ H Q _ q=>absurd q (h _ _ _)
theorem tE_no {m:M} {K:PySem.W.Frag} (h:∀ τ S,evE C m τ S = .bad):∀ σ H Q,¬ tE K C m σ H Q:=by
  rintro σ H Q ⟨ρ,S,τ,d,S',_,_,e,_⟩
  rw [h] at e
  cases e
theorem tT_no {m:M} {K:PySem.W.Frag} (h:∀ τ S,evT C m τ S = .bad):∀ σ H Q,¬ tT K C m σ H Q:=by
  rintro σ H Q ⟨ρ,S,τ,d,S',_,_,e,_⟩
  rw [h] at e
  cases e
theorem foldset {e:Expr} {env:Env} (h:∀ a b p,e ≠ .Set a b p) (v:Value):foldedSetIterable e env v = pure v:=by
  cases e<;>first | rfl | exact absurd rfl (h _ _ _)
theorem noSet:∀ {m:M} {c:Ck} {e:Expr},chkE m c e = true→∀ a b p,e ≠ .Set a b p:=by
  intro m c e h x q p z
  subst z
  cases m<;>first | (exact absurd h Bool.false_ne_true) | (rename_i d; cases d<;>exact absurd h Bool.false_ne_true) | (rename_i w _; cases w<;>exact absurd h Bool.false_ne_true)
theorem pt_of {m:M} {x:Expr} (h:PE X x (tE X.K C m)) (he:∀ whole,isTrue x X.env whole = (do let v ← whole; standAt x.pos; holding [v] (truthy v)))
    (hv:∀ τ S b S',evT C m τ S = .ok b S'→∃ d,evE C m τ S = .ok d S'∧tru S' d = some b):PT X x (tT X.K C m):=by
  refine PT.imp (pt_truth h he) fun σ H Q hq_=>?_
  obtain ⟨ρ,S,τ,b,S',rs,re,e,fin⟩:=hq_
  obtain ⟨d,e1,e2⟩:=hv τ S b S' e
  exact ⟨ρ,S,τ,d,S',rs,re,e1,fun ρ' v H' f r q=>⟨b,tru_rel r q e2,fin ρ' H' f r⟩⟩
theorem snd_bin {o:Bop} {a b:M} (ha:Snd C a) (hb:Snd C b):∀ (X:Cx) (c:Ck) (x:Expr),Gd X C c→chkE (.bin o a b) c x = true→PE X x (tE X.K C (.bin o a b)):=by
  intro X c x g h
  cases x<;>try (exact absurd h Bool.false_ne_true)
  simp only [cE_6,Bool.and_eq_true,beq_iff_eq] at h
  obtain ⟨⟨rfl,h1⟩,h2⟩:=h
  refine PE.imp (pe_op (bop_ok o) (ha.e X c _ g h1) (hb.e X c _ g h2)) fun σ H Q hq_=>?_
  obtain ⟨ρ,S,τ,d,S',rs,re,e,fin⟩:=hq_
  simp only [revE_3] at e
  obtain ⟨x1,S1,e1,e⟩:=Res.bind_eq_ok e
  obtain ⟨x2,S2,e2,e⟩:=Res.bind_eq_ok e
  refine ⟨ρ,S,τ,x1,S1,rs,re,e1,fun ρ1 v1 H1 f1 r1 q1=>⟨ρ1,S1,τ,x2,S2,r1,re.fut f1,e2,fun ρ2 v2 H2 f2 r2 q2=>?_⟩⟩
  exact ⟨ρ2,S2,x1,x2,d,S',r2,q1.fut f2,q2,e,fun ρ3 v3 H3 f3 r3 q3=>fin ρ3 v3 H3 (f1.trans (f2.trans f3)) r3 q3⟩
theorem snd_neg {a:M} (ha:Snd C a):∀ (X:Cx) (c:Ck) (x:Expr),Gd X C c→chkE (.neg a) c x = true→PE X x (tE X.K C (.neg a)):=by
  intro X c x g h
  cases x<;>try (exact absurd h Bool.false_ne_true)
  rename_i op e pos
  cases op<;>try (exact absurd h Bool.false_ne_true)
  simp only [cE_7] at h
  refine PE.imp (pe_un un_neg (ha.e X c _ g h)) fun σ H Q hq_=>?_
  obtain ⟨ρ,S,τ,d,S',rs,re,e,fin⟩:=hq_
  simp only [revE_4] at e
  obtain ⟨x1,S1,e1,e⟩:=Res.bind_eq_ok e
  refine ⟨ρ,S,τ,x1,S1,rs,re,e1,fun ρ1 v1 H1 f1 r1 q1=>?_⟩
  cases x1<;>simp only at e<;>try (cases e; done)
  cases e
  exact ⟨_,q1.int_inv,fin ρ1 _ H1 f1 r1 (RelD.int _)⟩
theorem pe_notT {a:Expr} {ta:TE} {pos:Pos} (ha:PE X a ta):PE X (.UnaryOp .Not a pos) (fun σ H Q=>ta σ H fun x H1=>∃ k,TruV X.K x H1 k∧Q (.bl (!k)) H1):=by
  intro pins s σ H Q I h
  refine PyProof.Rows.UnaryOp_ (thn (ha pins s σ H _ I h) fun v s1 ⟨x,H1,I1,r1,q1⟩=>?_)
  obtain ⟨k,hk,q⟩:=q1
  refine PyProof.Rows.not_of (thn (tru_ok pins s1 σ H1 x v (fun b H2=>Q (.bl (!b)) H2) I1 r1 ⟨k,hk,q⟩) fun b s2 ⟨H2,I2,q2⟩=>?_)
  exact ⟨.bl (!b),H2,I2,rfl,q2⟩
theorem snd_not {a:M} (ha:Snd C a):∀ (X:Cx) (c:Ck) (x:Expr),Gd X C c→chkE (.nott a) c x = true→PE X x (tE X.K C (.nott a))∧PT X x (tT X.K C (.nott a)):=by
  intro X c x g h
  cases x<;>try (exact absurd h Bool.false_ne_true)
  rename_i op e pos
  cases op<;>try (exact absurd h Bool.false_ne_true)
  simp only [cE_8] at h
  constructor
  · refine PE.imp (pe_notT (ha.e X c _ g h)) fun σ H Q hq_=>?_
    obtain ⟨ρ,S,τ,d,S',rs,re,e,fin⟩:=hq_
    simp only [revE_5] at e
    obtain ⟨x1,S1,e1,e⟩:=Res.bind_eq_ok e
    refine ⟨ρ,S,τ,x1,S1,rs,re,e1,fun ρ1 v1 H1 f1 r1 q1=>?_⟩
    split at e
    · rename_i b hb
      cases e
      exact ⟨b,tru_rel r1 q1 hb,fin ρ1 _ H1 f1 r1 (RelD.bl _)⟩
    · cases e
  · refine PT.imp (pt_not (ha.t X c _ g h)) fun σ H Q hq_=>?_
    obtain ⟨ρ,S,τ,d,S',rs,re,e,fin⟩:=hq_
    simp only [revT_0] at e
    obtain ⟨x1,S1,e1,e⟩:=Res.bind_eq_ok e
    cases e
    exact ⟨ρ,S,τ,x1,_,rs,re,e1,fin⟩
theorem snd_cmp {o:Cop} {a b:M} (ha:Snd C a) (hb:Snd C b):∀ (X:Cx) (c:Ck) (x:Expr),Gd X C c→chkE (.cmp o a b) c x = true→PE X x (tE X.K C (.cmp o a b))∧PT X x (tT X.K C (.cmp o a b)):=by
  intro X c x g h
  cases x<;>try (exact absurd h Bool.false_ne_true)
  rename_i l ops cs pos
  rcases ops with _ | ⟨p,_ | ⟨p2,ops⟩⟩<;>rcases cs with _ | ⟨f,_ | ⟨f2,cs⟩⟩<;>try (exact absurd h Bool.false_ne_true)
  simp only [cE_11] at h
  simp only [Bool.and_eq_true,beq_iff_eq] at h
  obtain ⟨⟨⟨rfl,h1⟩,h2⟩,h3⟩:=h
  have key:∀ {ρ S τ k S' H σ} {Q:VK},RelS X.K ρ S H→RelE X.K ρ H τ σ→(evE C a τ S).bind (fun x S1=>(evE C b τ S1).bind fun y S2=>match cop o x y S2 with | some k=>(.ok (.bl k) S2:Res D) | none=>.bad) = .ok (.bl k) S' →
      FinB X.K ρ H S' (fun H'=>Q (.bl k) H')→tOp (rC X.K o) (tE X.K C a) (tE X.K C b) σ H Q:=fun {ρ S τ k S' H σ Q} rs re e fin=>by
    obtain ⟨x1,S1,e1,e⟩:=Res.bind_eq_ok e
    obtain ⟨x2,S2,e2,e⟩:=Res.bind_eq_ok e
    refine ⟨ρ,S,τ,x1,S1,rs,re,e1,fun ρ1 v1 H1 f1 r1 q1=>⟨ρ1,S1,τ,x2,S2,r1,re.fut f1,e2,fun ρ2 v2 H2 f2 r2 q2=>?_⟩⟩
    split at e
    · rename_i k' hk
      cases e
      exact ⟨ρ2,_,x1,x2,_,r2,q1.fut f2,q2,hk,fin ρ2 H2 (f1.trans f2) r2⟩
    · cases e
  constructor
  · refine PE.imp (pe_cmpR (cop_ok o g.top.un) (ha.e X c _ g h1) (hb.e X c _ g h2) (marks h3 _)) fun σ H Q hq_=>?_
    obtain ⟨ρ,S,τ,d,S',rs,re,e,fin⟩:=hq_
    simp only [revE_7] at e
    have hd:∃ k,d = .bl k:=by
      obtain ⟨x1,S1,e1,e⟩:=Res.bind_eq_ok e
      obtain ⟨x2,S2,e2,e⟩:=Res.bind_eq_ok e
      split at e
      · cases e; exact ⟨_,rfl⟩
      · cases e
    obtain ⟨k,rfl⟩:=hd
    exact key rs re e fun ρ' H' f r=>fin ρ' _ H' f r (RelD.bl _)
  · refine PT.imp (pt_cmpR (cop_ok o g.top.un) (ha.e X c _ g h1) (hb.e X c _ g h2) (marks h3 _)) fun σ H Q hq_=>?_
    obtain ⟨ρ,S,τ,k,S',rs,re,e,fin⟩:=hq_
    simp only [revT_2] at e
    have e':(evE C a τ S).bind (fun x S1=>(evE C b τ S1).bind fun y S2=>match cop o x y S2 with | some k=>(.ok (.bl k) S2:Res D) | none=>.bad) = .ok (.bl k) S':=by
      obtain ⟨x1,S1,e1,e⟩:=Res.bind_eq_ok e
      obtain ⟨x2,S2,e2,e⟩:=Res.bind_eq_ok e
      rw [e1,Res.bind_ok,e2,Res.bind_ok]
      split at e
      · rename_i hk; cases e; first | rfl | rw [hk]
      · cases e
    exact key rs re e' fun ρ' H' f r=>⟨k,rfl,fin ρ' H' f r⟩
theorem snd_cmp2 {o o':Cop} {a b d:M} (ha:Snd C a) (hb:Snd C b) (hd:Snd C d):∀ (X:Cx) (c:Ck) (x:Expr),Gd X C c→chkE (.cmp2 o o' a b d) c x = true→PE X x (tE X.K C (.cmp2 o o' a b d))∧PT X x (tT X.K C (.cmp2 o o' a b d)):=by
  intro X c x g h
  cases x<;>try (exact absurd h Bool.false_ne_true)
  rename_i l ops cs pos
  rcases ops with _ | ⟨p,_ | ⟨p2,_ | ⟨p3,ops⟩⟩⟩<;>rcases cs with _ | ⟨f,_ | ⟨f2,_ | ⟨f3,cs⟩⟩⟩<;>try (exact absurd h Bool.false_ne_true)
  simp only [cE_12] at h
  simp only [Bool.and_eq_true,beq_iff_eq] at h
  obtain ⟨⟨⟨⟨⟨⟨rfl,rfl⟩,h1⟩,h2⟩,h3⟩,h4⟩,h5⟩:=h
  have hm:lastMarks [copOf o,copOf o'] [f,f2] = false:=by
    show behindInMarks (copOf o') f2 = false
    exact marks h5 _
  have key:∀ {ρ S τ k S' H σ} {Q:VK},RelS X.K ρ S H→RelE X.K ρ H τ σ→evE C (.cmp2 o o' a b d) τ S = .ok (.bl k) S' →
      FinB X.K ρ H S' (fun H'=>Q (.bl k) H')→tChain (rC X.K o) (rC X.K o') (tE X.K C a) (tE X.K C b) (tE X.K C d) σ H Q:=fun {ρ S τ k S' H σ Q} rs re e fin=>by
    simp only [revE_8] at e
    obtain ⟨x1,S1,e1,e⟩:=Res.bind_eq_ok e
    obtain ⟨x2,S2,e2,e⟩:=Res.bind_eq_ok e
    refine ⟨ρ,S,τ,x1,S1,rs,re,e1,fun ρ1 v1 H1 f1 r1 q1=>⟨ρ1,S1,τ,x2,S2,r1,re.fut f1,e2,fun ρ2 v2 H2 f2 r2 q2=>?_⟩⟩
    split at e
    · rename_i hk
      obtain ⟨x3,S3,e3,e⟩:=Res.bind_eq_ok e
      refine ⟨ρ2,S2,x1,x2,true,r2,q1.fut f2,q2,hk,true,rfl,?_⟩
      rw [if_pos rfl]
      refine ⟨ρ2,S2,τ,x3,S3,r2,re.fut (f1.trans f2),e3,fun ρ3 v3 H3 f3 r3 q3=>?_⟩
      split at e
      · rename_i k' hk'
        cases e
        exact ⟨ρ3,_,x2,x3,_,r3,q2.fut f3,q3,hk',fin ρ3 H3 (f1.trans (f2.trans f3)) r3⟩
      · cases e
    · rename_i hk
      cases e
      refine ⟨ρ2,_,x1,x2,false,r2,q1.fut f2,q2,hk,false,rfl,?_⟩
      rw [if_neg Bool.false_ne_true]
      exact fin ρ2 H2 (f1.trans f2) r2
    · cases e
  constructor
  · refine PE.imp (pe_chain (cop_ok o g.top.un) (cop_ok o' g.top.un) (ha.e X c _ g h1) (hb.e X c _ g h2) (hd.e X c _ g h3) hm) fun σ H Q hq_=>?_
    obtain ⟨ρ,S,τ,d',S',rs,re,e,fin⟩:=hq_
    have hd:∃ k,d' = .bl k:=by
      simp only [revE_8] at e
      obtain ⟨x1,S1,e1,e⟩:=Res.bind_eq_ok e
      obtain ⟨x2,S2,e2,e⟩:=Res.bind_eq_ok e
      split at e
      · obtain ⟨x3,S3,e3,e⟩:=Res.bind_eq_ok e
        split at e
        · cases e; exact ⟨_,rfl⟩
        · cases e
      · cases e; exact ⟨_,rfl⟩
      · cases e
    obtain ⟨k,rfl⟩:=hd
    exact key rs re e fun ρ' H' f r=>fin ρ' _ H' f r (RelD.bl _)
  · refine PT.imp (pt_chain (cop_ok o g.top.un) (cop_ok o' g.top.un) (ha.e X c _ g h1) (hb.e X c _ g h2) (hd.e X c _ g h3) hm) fun σ H Q hq_=>?_
    obtain ⟨ρ,S,τ,k,S',rs,re,e,fin⟩:=hq_
    have e':evE C (.cmp2 o o' a b d) τ S = .ok (.bl k) S':=by
      simp only [revE_8]
      simp only [revT_3] at e
      obtain ⟨x1,S1,e1,e⟩:=Res.bind_eq_ok e
      obtain ⟨x2,S2,e2,e⟩:=Res.bind_eq_ok e
      rw [e1,Res.bind_ok,e2,Res.bind_ok]
      split at e
      · rename_i hk
        try rw [hk]
        obtain ⟨x3,S3,e3,e⟩:=Res.bind_eq_ok e
        rw [e3,Res.bind_ok]
        split at e
        · rename_i hk'; cases e; first | rfl | rw [hk']
        · cases e
      · rename_i hk; cases e; first | rfl | rw [hk]
      · cases e
    exact key rs re e' fun ρ' H' f r=>⟨k,rfl,fin ρ' H' f r⟩
end
end Mi
namespace Mi
open PySem L2
section
variable {C:Pr}
theorem snd_ife {t a b:M} (ht:Snd C t) (ha:Snd C a) (hb:Snd C b):∀ (X:Cx) (c:Ck) (x:Expr),Gd X C c→chkE (.ife t a b) c x = true→PE X x (tE X.K C (.ife t a b)):=by
  intro X c x g h
  cases x<;>try (exact absurd h Bool.false_ne_true)
  simp only [cE_13,Bool.and_eq_true] at h
  refine PE.imp (pe_ifExp (ht.t X c _ g h.1.1) (ha.e X c _ g h.1.2) (hb.e X c _ g h.2)) fun σ H Q hq_=>?_
  obtain ⟨ρ,S,τ,d,S',rs,re,e,fin⟩:=hq_
  simp only [revE_9] at e
  obtain ⟨k,S1,e1,e⟩:=Res.bind_eq_ok e
  refine ⟨ρ,S,τ,k,S1,rs,re,e1,fun ρ1 H1 f1 r1=>?_⟩
  cases k with
  | true=>rw [if_pos rfl]; exact ⟨ρ1,S1,τ,d,S',r1,re.fut f1,e,fun ρ2 v2 H2 f2=>fin ρ2 v2 H2 (f1.trans f2)⟩
  | false=>rw [if_neg Bool.false_ne_true]; exact ⟨ρ1,S1,τ,d,S',r1,re.fut f1,e,fun ρ2 v2 H2 f2=>fin ρ2 v2 H2 (f1.trans f2)⟩
theorem snd_tup {as:M} (ha:Snd C as):∀ (X:Cx) (c:Ck) (x:Expr),Gd X C c→chkE (.tup as) c x = true→PE X x (tE X.K C (.tup as)):=by
  intro X c x g h
  cases x<;>try (exact absurd h Bool.false_ne_true)
  simp only [cE_14] at h
  refine PE.imp (pe_tup (ha.a X c _ g h)) fun σ H Q hq_=>?_
  obtain ⟨ρ,S,τ,d,S',rs,re,e,fin⟩:=hq_
  simp only [revE_10] at e
  obtain ⟨ds,S1,e1,e⟩:=Res.bind_eq_ok e
  refine ⟨ρ,S,τ,ds,S1,rs,re,e1,fun ρ1 vs H1 f1 r1 q1=>?_⟩
  split at e
  · rename_i hl
    cases e
    exact ⟨by rw [← q1.length,← line_eq]; exact hl,Fin.newT (ρ:=ρ1) (fun ρ2 v2 H2 f2=>fin ρ2 v2 H2 (f1.trans f2)) r1 q1⟩
  · cases e
theorem snd_lst {as:M} (ha:Snd C as):∀ (X:Cx) (c:Ck) (x:Expr),Gd X C c→chkE (.lst as) c x = true→PE X x (tE X.K C (.lst as)):=by
  intro X c x g h
  cases x<;>try (exact absurd h Bool.false_ne_true)
  simp only [cE_15] at h
  refine PE.imp (pe_lst (ha.a X c _ g h)) fun σ H Q hq_=>?_
  obtain ⟨ρ,S,τ,d,S',rs,re,e,fin⟩:=hq_
  simp only [revE_11] at e
  obtain ⟨ds,S1,e1,e⟩:=Res.bind_eq_ok e
  refine ⟨ρ,S,τ,ds,S1,rs,re,e1,fun ρ1 vs H1 f1 r1 q1=>?_⟩
  split at e
  · rename_i hl
    cases e
    exact ⟨by rw [← q1.length,← line_eq]; exact hl,Fin.newL (ρ:=ρ1) (fun ρ2 v2 H2 f2=>fin ρ2 v2 H2 (f1.trans f2)) r1 q1⟩
  · cases e
theorem snd_idx {a b:M} (ha:Snd C a) (hb:Snd C b):∀ (X:Cx) (c:Ck) (x:Expr),Gd X C c→chkE (.idx a b) c x = true→PE X x (tE X.K C (.idx a b))∧PT X x (tT X.K C (.idx a b)):=by
  intro X c x g h
  cases x<;>try (exact absurd h Bool.false_ne_true)
  rename_i vx sx px
  simp only [cE_16,Bool.and_eq_true] at h
  have pe:PE X (.Subscript vx sx px) (tE X.K C (.idx a b)):=by
    refine PE.imp (pe_ix (idx_ok (Nat.lt_of_le_of_lt (Nat.add_le_add_left (by decide:1 ≤ 64) _) g.top.un)) (ha.e X c _ g h.1) (hb.e X c _ g h.2) (plainIx h.2)) fun σ H Q hq_=>?_
    obtain ⟨ρ,S,τ,d,S',rs,re,e,fin⟩:=hq_
    simp only [revE_12] at e
    obtain ⟨x1,S1,e1,e⟩:=Res.bind_eq_ok e
    obtain ⟨x2,S2,e2,e⟩:=Res.bind_eq_ok e
    refine ⟨ρ,S,τ,x1,S1,rs,re,e1,fun ρ1 v1 H1 f1 r1 q1=>⟨ρ1,S1,τ,x2,S2,r1,re.fut f1,e2,fun ρ2 v2 H2 f2 r2 q2=>?_⟩⟩
    split at e
    · rename_i d' hd
      cases e
      exact ⟨ρ2,_,x1,x2,d,r2,q1.fut f2,q2,hd,fun ρ3 v3 H3 f3 r3 q3=>fin ρ3 v3 H3 (f1.trans (f2.trans f3)) r3 q3⟩
    · cases e
  refine ⟨pe,pt_of pe (fun _=>rfl) fun τ S b S' e=>?_⟩
  simp only [revT_5] at e
  obtain ⟨x1,S1,e1,e⟩:=Res.bind_eq_ok e
  obtain ⟨x2,S2,e2,e⟩:=Res.bind_eq_ok e
  split at e
  · rename_i d hd
    split at e
    · rename_i k hk
      cases e
      exact ⟨d,by simp only [revE_12]; rw [e1,Res.bind_ok,e2,Res.bind_ok,hd],hk⟩
    · cases e
  · cases e
theorem snd_sli {a l u:M} (ha:Snd C a) (hl:Snd C l) (hu:Snd C u):∀ (X:Cx) (c:Ck) (x:Expr),Gd X C c→chkE (.sli a l u) c x = true→PE X x (tE X.K C (.sli a l u)):=by
  intro X c x g h
  cases x<;>try (exact absurd h Bool.false_ne_true)
  rename_i e0 sl pos
  cases sl<;>try (exact absurd h Bool.false_ne_true)
  rename_i lo up st p2
  cases st<;>try (exact absurd h Bool.false_ne_true)
  simp only [cE_17,Bool.and_eq_true] at h
  refine PE.imp (pe_slice sli_ok (ha.e X c _ g h.1.1) (hl.o X c _ g h.1.2) (hu.o X c _ g h.2)) fun σ H Q hq_=>?_
  obtain ⟨ρ,S,τ,d,S',rs,re,e,fin⟩:=hq_
  simp only [revE_13] at e
  obtain ⟨x1,S1,e1,e⟩:=Res.bind_eq_ok e
  obtain ⟨x2,S2,e2,e⟩:=Res.bind_eq_ok e
  obtain ⟨x3,S3,e3,e⟩:=Res.bind_eq_ok e
  refine ⟨ρ,S,τ,x1,S1,rs,re,e1,fun ρ1 v1 H1 f1 r1 q1=>⟨ρ1,S1,τ,x2,S2,r1,re.fut f1,e2,fun ρ2 H2 f2 r2=>⟨ρ2,S2,τ,x3,S3,r2,re.fut (f1.trans f2),e3,fun ρ3 H3 f3 r3=>?_⟩⟩⟩
  exact ⟨ρ3,S3,x1,d,S',r3,q1.fut (f2.trans f3),e,fun ρ4 v4 H4 f4 r4 q4=>fin ρ4 v4 H4 (f1.trans (f2.trans (f3.trans f4))) r4 q4⟩
theorem snd_call {f:String} {as:M} (ha:Snd C as):∀ (X:Cx) (c:Ck) (x:Expr),Gd X C c→chkE (.call f as) c x = true→PE X x (tE X.K C (.call f as))∧PT X x (tT X.K C (.call f as)):=by
  intro X c x g h
  cases x<;>try (exact absurd h Bool.false_ne_true)
  rename_i fn es kws pos
  cases fn<;>try (exact absurd h Bool.false_ne_true)
  rename_i y p
  cases kws<;>try (exact absurd h Bool.false_ne_true)
  simp only [cE_18,Bool.and_eq_true,beq_iff_eq] at h
  obtain ⟨⟨⟨⟨rfl,h1⟩,h2⟩,h3⟩,h4⟩:=h
  obtain ⟨k,a,fd,ps,hr,hm,F,hb,hk⟩:=g.top.fns f (mem_contains h3)
  have pe:PE X (.Call (.Name (Str.ofString f) p) es [] pos) (tE X.K C (.call f as)):=by
    have rd:∀ {t:TA},(∀ σ H Q,tA X.K C as σ H Q→t σ H Q)→∀ σ H Q,tE X.K C (.call f as) σ H Q→tCall (spM X.K C f) [] E0 t σ H Q:=fun ht σ H Q ⟨ρ,S,τ,d,S',rs,re,e,fin⟩=>by
      simp only [revE_14] at e
      obtain ⟨ds,S1,e1,e⟩:=Res.bind_eq_ok e
      refine ht σ H _ ⟨ρ,S,τ,ds,S1,rs,re,e1,fun ρ1 vs H1 f1 r1 q1=>?_⟩
      show spM X.K C f (vs ++ []) H1 Q E0
      rw [List.append_nil]
      exact ⟨ρ1,S1,ds,d,S',r1,q1,e,fun ρ2 v2 H2 f2 r2 q2=>fin ρ2 v2 H2 (f1.trans f2) r2 q2⟩
    cases es with
    | nil =>
      refine PE.imp (pe_call0 F hr (g.glo h1) hm hk hb .nil pass0 (dbg1 h2)) (rd fun σ H Q ⟨ρ,S,τ,ds,S',rs,re,e,fin⟩=>?_)
      cases as<;>try (exact absurd h4 Bool.false_ne_true)
      simp only [revA_0] at e
      cases e
      exact fin ρ [] H Fut.refl rs RelDs.nil
    | cons e es =>
      cases as<;>try (exact absurd h4 Bool.false_ne_true)
      have h4':=h4
      simp only [cA_1,Bool.and_eq_true] at h4
      refine PE.imp (pe_call F hr (g.glo h1) hm hk hb .nil pass0 (ha.a X c _ g h4') (dbg1 h2) (star_cons (noStar h4.1)) (by rw [backTo_any]; exact noStars h4.2)) (rd fun σ H Q z=>z)
  refine ⟨pe,pt_of pe (fun _=>rfl) fun τ S b S' e=>?_⟩
  simp only [revT_6] at e
  obtain ⟨ds,S1,e1,e⟩:=Res.bind_eq_ok e
  obtain ⟨d,S2,e2,e⟩:=Res.bind_eq_ok e
  split at e
  · rename_i k hk
    cases e
    exact ⟨d,by simp only [revE_14]; rw [e1,Res.bind_ok,e2],hk⟩
  · cases e
theorem snd_prim {p:Prim} {as:M} (ha:Snd C as):∀ (X:Cx) (c:Ck) (x:Expr),Gd X C c→chkE (.prim p as) c x = true→PE X x (tE X.K C (.prim p as))∧PT X x (tT X.K C (.prim p as)):=by
  intro X c x g h
  cases x<;>try (exact absurd h Bool.false_ne_true)
  rename_i fn es kws pos
  cases fn<;>try (exact absurd h Bool.false_ne_true)
  rename_i y pp
  cases kws<;>cases es<;>try (exact absurd h Bool.false_ne_true)
  rename_i e0 es
  simp only [cE_19,Bool.and_eq_true,beq_iff_eq] at h
  obtain ⟨⟨⟨rfl,h1⟩,h2⟩,h3⟩:=h
  have hm:=g.top.blt _ (mem_contains h2)
  have hs:(∀ x p,e0 ≠ .Starred x p)∧(starEach es X.env).any (·.1) = false:=by
    cases as<;>try (exact absurd h3 Bool.false_ne_true)
    simp only [cA_1,Bool.and_eq_true] at h3
    exact ⟨noStar h3.1,noStars h3.2⟩
  have rd:∀ σ H Q,tE X.K C (.prim p as) σ H Q→tCB (rP X.K p) (tA X.K C as) σ H Q:=fun σ H Q ⟨ρ,S,τ,d,S',rs,re,e,fin⟩=>by
    simp only [revE_15] at e
    obtain ⟨ds,S1,e1,e⟩:=Res.bind_eq_ok e
    refine ⟨ρ,S,τ,ds,S1,rs,re,e1,fun ρ1 vs H1 f1 r1 q1=>?_⟩
    exact ⟨ρ1,S1,ds,d,S',r1,q1,e,fun ρ2 v2 H2 f2 r2 q2=>fin ρ2 v2 H2 (f1.trans f2) r2 q2⟩
  have pe:PE X (.Call (.Name (Str.ofString (primNm p)) pp) (e0 :: es) [] pos) (tE X.K C (.prim p as)):=by
    have hp:=prim_ok (X:=X) p g.calm
    have hb:=boot_prim p
    unfold primVal at hp hb
    by_cases ht:primTy p = true
    · rw [if_pos ht] at hp hb
      exact PE.imp (pe_callTy hp (g.glo h1) hm hb (ha.a X c _ g h3) (name_prim p) (debug_prim p) (star_cons hs.1) (by rw [backTo_any]; exact hs.2)) rd
    · rw [if_neg ht] at hp hb
      exact PE.imp (pe_callB hp (g.glo h1) hm hb (ha.a X c _ g h3) (name_prim p) (debug_prim p) (star_cons hs.1) (by rw [backTo_any]; exact hs.2)) rd
  refine ⟨pe,pt_of pe (fun _=>rfl) fun τ S b S' e=>?_⟩
  simp only [revT_7] at e
  obtain ⟨ds,S1,e1,e⟩:=Res.bind_eq_ok e
  obtain ⟨d,S2,e2,e⟩:=Res.bind_eq_ok e
  split at e
  · rename_i k hk
    cases e
    exact ⟨d,by simp only [revE_15]; rw [e1,Res.bind_ok,e2],hk⟩
  · cases e
theorem boot_cl:∀ t ∈ clNames,bootBuiltins (Str.ofString t) = some (.type t)∧Str.ofString t ≠ "__name__"∧(Str.ofString t == ("__debug__":Str)) = false:=by
  intro t ht
  simp only [clNames,List.mem_cons,List.not_mem_nil,or_false] at ht
  rcases ht with rfl | rfl | rfl | rfl | rfl<;>exact ⟨by kernel_rfl,by decide +kernel,by decide +kernel⟩
theorem snd_isi {a:M} {t:String} (ha:Snd C a):∀ (X:Cx) (c:Ck) (x:Expr),Gd X C c→chkE (.isi a t) c x = true→PE X x (tE X.K C (.isi a t))∧PT X x (tT X.K C (.isi a t)):=by
  intro X c x g h
  cases x<;>try (exact absurd h Bool.false_ne_true)
  rename_i fn es kws pos
  cases fn<;>try (exact absurd h Bool.false_ne_true)
  rename_i y pp
  rcases es with _ | ⟨e0,_ | ⟨e1,_ | ⟨e2,es⟩⟩⟩<;>cases kws<;>try (exact absurd h Bool.false_ne_true)
  all_goals (cases e1<;>try (exact absurd h Bool.false_ne_true))
  rename_i y2 p2
  simp only [cE_20,Bool.and_eq_true,beq_iff_eq] at h
  obtain ⟨⟨⟨⟨⟨⟨⟨rfl,rfl⟩,h1⟩,h2⟩,h3⟩,h4⟩,h5⟩,h6⟩:=h
  have ht:t ∈ clNames:=by simpa using h5
  obtain ⟨b1,b2,b3⟩:=boot_cl t ht
  have py:PE X (.Name (Str.ofString t) p2) (L2.tC (.ty t)):=pe_bltn (g.glo h2) (g.top.blt _ (mem_contains h4)) b1 rfl b2 b3
  have pa:PA X [e0,.Name (Str.ofString t) p2] (tCons (tE X.K C a) (tCons (L2.tC (.ty t)) tNil)):=pa_cons (ha.e X c _ g h6) (pa_cons py pa_nil) (star_cons (noStar h6))
  have pe:PE X (.Call (.Name (Str.ofString "isinstance") pp) [e0,.Name (Str.ofString t) p2] [] pos) (tE X.K C (.isi a t)):=by
    refine PE.imp (pe_callB (isi_ok ht) (g.glo h1) (g.top.blt _ (mem_contains h3)) (by kernel_rfl) pa (by decide +kernel) (by decide +kernel) (star_cons (noStar h6)) (by rw [backTo_any]; rfl)) fun σ H Q hq_=>?_
    obtain ⟨ρ,S,τ,d,S',rs,re,e,fin⟩:=hq_
    simp only [revE_16] at e
    obtain ⟨x1,S1,e1,e⟩:=Res.bind_eq_ok e
    refine ⟨ρ,S,τ,x1,S1,rs,re,e1,fun ρ1 v1 H1 f1 r1 q1=>?_⟩
    split at e
    · rename_i ty hy
      cases e
      exact ⟨ρ1,_,x1,v1,ty,r1,rfl,q1,hy,fin ρ1 _ H1 f1 r1 (RelD.bl _)⟩
    · cases e
  refine ⟨pe,pt_of pe (fun _=>rfl) fun τ S b S' e=>?_⟩
  simp only [revT_8] at e
  obtain ⟨x1,S1,e1,e⟩:=Res.bind_eq_ok e
  split at e
  · rename_i ty hy
    cases e
    exact ⟨_,by simp only [revE_16]; rw [e1,Res.bind_ok,hy],rfl⟩
  · cases e
theorem pe_bmG {X:Cx} {T id:String} {name:Str} {o e:Expr} {es:List Expr} {apos cpos:Pos} {to:TE} {t:TA} {r:V→List V→Hp→VK→Prop} {tp:V→Hp→Prop}
    (hT:∀ pins s σ H x v,Inv X pins σ H s→RelV x v→tp x H→s.TypeIs v T∧∀ a,v = .ref a→∃ ob,s.heap.get? a = some ob∧ob.dict = none)
    (pa:PlainAttrs T) (slot:Slot T name id) (hty:typeOf (.builtin id) = pure (.type "method_descriptor")) (hm:MtR X id r) (ho:PE X o to) (ha:PA X (e :: es) t)
    (hbase:attributeBase o name X.env (eval o X.env) = eval o X.env)
    (hfew:((backTo cpos (starEach (e :: es) X.env)).all (fun x=>!x.1) && (backToKw cpos (keywordEach [] X.env)).all (fun x=>x.1.isSome)
      && decide ((e :: es).length + ([]:List Keyword).length + (if ([]:List Keyword).isEmpty then 0 else 1) < 30)) = true)
    (hline:(apos.endLine == cpos.line) = true) (hs:starEach (e :: es) X.env = (false,eval e X.env) :: starEach es X.env) (hplain:(backTo cpos (starEach es X.env)).any (·.1) = false) :
    PE X (.Call (.Attribute o name apos) (e :: es) [] cpos) (fun σ H Q=>to σ H fun x H1=>tp x H1∧t σ H1 fun xs H2=>r x xs H2 Q):=by
  intro pins s σ H Q I h
  refine wpAny_Call_method_late hbase hfew hline rfl (thn (ho pins s σ H _ I h) fun v s1 ⟨x,H1,I1,r1,ty,q1⟩=>?_)
  obtain ⟨h1,h2⟩:=hT pins s1 σ H1 x v I1 r1 ty
  refine ⟨T,id,pa,slot,hty,h1,h2,?_⟩
  have hA:=ha cpos pins s1 σ H1 _ I1 q1
  rw [hs] at hA ⊢
  refine Calls.callWith_builtin (by show (false || (backTo cpos (starEach es X.env)).any (·.1)) = false; rw [hplain]<;>rfl) (Calls.evalArgs_plain ?_)
  exact thn hA fun us s2 ⟨vs,H2,I2,r2,q2⟩=>hm pins s2 σ H2 x vs v us Q I2 r1 r2 q2
theorem chkA_cons {as:M} {c:Ck} {e:Expr} {es:List Expr} (h:chkA as c (e :: es) = true):∃ a b,as = .cns a b:=by
  cases as<;>first | exact ⟨_,_,rfl⟩ | exact absurd h Bool.false_ne_true
theorem chkA_nil {as:M} {c:Ck} (h:chkA as c [] = true):as = .nul:=by
  cases as<;>first | rfl | exact absurd h Bool.false_ne_true
theorem snd_meth {p:Meth} {o as:M} (ho:Snd C o) (ha:Snd C as):∀ (X:Cx) (c:Ck) (x:Expr),Gd X C c→chkE (.meth p o as) c x = true→PE X x (tE X.K C (.meth p o as)):=by
  intro X c x g h
  cases x<;>try (exact absurd h Bool.false_ne_true)
  rename_i fn es kws pos
  cases fn<;>try (exact absurd h Bool.false_ne_true)
  rename_i e0 y ap
  cases kws<;>try (exact absurd h Bool.false_ne_true)
  simp only [cE_21,Bool.and_eq_true,beq_iff_eq,decide_eq_true_eq] at h
  obtain ⟨⟨⟨⟨⟨⟨rfl,h1⟩,h2⟩,h3⟩,h4⟩,h5⟩,h6⟩:=h
  have hbase:∀ nm,attributeBase e0 nm X.env (eval e0 X.env) = eval e0 X.env:=fun nm=>by
    cases e0<;>try rfl
    rename_i f0 a0 k0 p0
    cases f0<;>try rfl
    cases a0<;>try rfl
    cases k0<;>try rfl
    simp [isCall0] at h1
  have hline:(ap.endLine == pos.line) = true:=by simpa using h2
  have few:∀ {e1:Expr} {es':List Expr},es = e1 :: es'→chkA as c (e1 :: es') = true→((backTo pos (starEach (e1 :: es') X.env)).all (fun x=>!x.1) && (backToKw pos (keywordEach [] X.env)).all (fun x=>x.1.isSome) && decide ((e1 :: es').length + ([]:List Keyword).length + (if ([]:List Keyword).isEmpty then 0 else 1) < 30)) = true:=fun {e1 es'} ee h5'=>by
    subst ee
    rw [backTo_all _ _ (noStars (env:=X.env) h5')]
    simp only [Bool.true_and,Bool.and_eq_true,decide_eq_true_eq]
    exact ⟨rfl,by simp only [List.length_nil,List.isEmpty_nil,if_true]; omega⟩
  have rd:(True∧True∧(p ≠ .starts∧p ≠ .split1∧p ≠ .join1∧p ≠ .split2))→∀ {t:TA},(∀ σ H Q,tA X.K C as σ H Q→t σ H Q)→∀ σ H Q,tE X.K C (.meth p o as) σ H Q→(tE X.K C o σ H fun x H1=>tyV X.K "list" x H1∧t σ H1 fun xs H2=>rM X.K p x xs H2 Q):=fun hp {t} ht σ H Q ⟨ρ,S,τ,d,S',rs,re,e,fin⟩=>by
    simp only [revE_17] at e
    obtain ⟨x1,S1,e1,e⟩:=Res.bind_eq_ok e
    split at e<;>try (exact absurd e bad_ne)
    rename_i hrc
    obtain ⟨ds,S2,e2,e⟩:=Res.bind_eq_ok e
    refine ⟨ρ,S,τ,x1,S1,rs,re,e1,fun ρ1 v1 H1 f1 r1 q1=>⟨?_,ht σ H1 _ ⟨ρ1,S1,τ,ds,S2,r1,re.fut f1,e2,fun ρ2 vs H2 f2 r2 q2=>?_⟩⟩⟩
    · have hl:∃ l,x1 = .loc l:=by
        cases p<;>first | (exact absurd rfl hp.2.2.1) | (exact absurd rfl hp.2.2.2.1) | (exact absurd rfl hp.2.2.2.2.1) | (exact absurd rfl hp.2.2.2.2.2) | (cases x1<;>first | exact ⟨_,rfl⟩ | exact absurd e bad_ne | (rcases ds with _ | ⟨y,_ | ⟨z,ds⟩⟩<;>exact absurd e bad_ne))
      obtain ⟨l,rfl⟩:=hl
      obtain ⟨es,he⟩:=Option.isSome_iff_exists.mp (show (seqAt S1 l).isSome = true from hrc)
      obtain ⟨p,xs,rfl,hl,hx,t⟩:=r1.lst q1 (seqAt_lst he)
      exact .inl ⟨rfl,xs,SqL.of hx⟩
    · exact ⟨ρ2,S2,x1,ds,d,S',r2,q1.fut f2,q2,e,fun ρ3 v3 H3 f3 r3 q3=>fin ρ3 v3 H3 (f1.trans (f2.trans f3)) r3 q3⟩
  have run:(True∧True∧(p ≠ .starts∧p ≠ .split1∧p ≠ .join1∧p ≠ .split2))→∀ (slot:Slot "list" (Str.ofString (methNm p)) (methId p)) (hty:typeOf (.builtin (methId p)) = pure (.type "method_descriptor")),PE X (.Call (.Attribute e0 (Str.ofString (methNm p)) ap) es [] pos) (tE X.K C (.meth p o as)):=fun hp slot hty=>by
    cases es with
    | nil =>
      refine PE.imp (pe_bm0 PySem.F.plainAttrs_list slot hty (meth_ok p g.top.un) (ho.e X c _ g h4) (hbase _) hline) fun σ H Q z=>rd hp (t:=fun _ H Q=>Q [] H) (fun σ H Q ⟨ρ,S,τ,ds,S',rs,re,e,fin⟩=>?_) σ H Q z
      obtain rfl:=chkA_nil h5
      simp only [revA_0] at e
      cases e
      exact fin ρ [] H Fut.refl rs RelDs.nil
    | cons e1 es =>
      obtain ⟨a0,b0,rfl⟩:=chkA_cons h5
      have h5':=h5
      simp only [cA_1,Bool.and_eq_true] at h5
      exact PE.imp (pe_bm PySem.F.plainAttrs_list slot hty (meth_ok p g.top.un) (ho.e X c _ g h4) (ha.a X c _ g h5') (hbase _) (few rfl h5') hline (star_cons (noStar h5.1)) (by rw [backTo_any]; exact noStars h5.2)) (rd hp fun σ H Q z=>z)
  have txt:(p = .starts ∨ p = .split1 ∨ p = .join1 ∨ p = .split2)→∀ (slot:Slot "str" (Str.ofString (methNm p)) (methId p)) (hty:typeOf (.builtin (methId p)) = pure (.type "method_descriptor")),PE X (.Call (.Attribute e0 (Str.ofString (methNm p)) ap) es [] pos) (tE X.K C (.meth p o as)):=fun hp slot hty=>by
    cases es with
    | nil =>
      refine pe_no fun σ H Q hq_=>?_
      obtain ⟨ρ,S,τ,d,S',rs,re,e,fin⟩:=hq_
      obtain rfl:=chkA_nil h5
      simp only [evE,evA] at e
      obtain ⟨x1,S1,e1,e⟩:=Res.bind_eq_ok e
      split at e<;>try (exact absurd e bad_ne)
      rcases hp with rfl | rfl | rfl | rfl<;>cases x1<;>exact absurd e bad_ne
    | cons e1 es =>
      obtain ⟨a0,b0,rfl⟩:=chkA_cons h5
      have h5':=h5
      simp only [cA_1,Bool.and_eq_true] at h5
      refine PE.imp (pe_bmG (T:="str") (tp:=fun x H=>∃ z,x = .str z) (fun pins s σ H x v I r ⟨z,q⟩=>?_) PySem.F.plainAttrs_str slot hty (meth_ok p g.top.un) (ho.e X c _ g h4) (ha.a X c _ g h5') (hbase _) (few rfl h5') hline (star_cons (noStar h5.1)) (by rw [backTo_any]; exact noStars h5.2)) fun σ H Q ⟨ρ,S,τ,d,S',rs,re,e,fin⟩=>?_
      · subst q
        obtain ⟨t,rfl⟩:=r
        exact ⟨typeIs_str _ _ _,fun _ e=>nomatch e⟩
      · simp only [revE_17,revA_1] at e
        obtain ⟨x1,S1,e1,e⟩:=Res.bind_eq_ok e
        split at e<;>try (exact absurd e bad_ne)
        obtain ⟨ds,S2,e2,e⟩:=Res.bind_eq_ok e
        have hk:∃ z,x1 = .str z:=by
          rcases hp with rfl | rfl | rfl | rfl<;>cases x1<;>first | exact ⟨_,rfl⟩ | exact absurd e bad_ne | (rcases ds with _ | ⟨y,_ | ⟨z,ds⟩⟩<;>exact absurd e bad_ne) | (rcases ds with _ | ⟨y,_ | ⟨z,_ | ⟨z2,ds⟩⟩⟩<;>first | exact absurd e bad_ne | (cases y<;>exact absurd e bad_ne) | (cases y<;>first | exact absurd e bad_ne | (cases z<;>exact absurd e bad_ne)))
        obtain ⟨z,rfl⟩:=hk
        refine ⟨ρ,S,τ,_,S1,rs,re,e1,fun ρ1 v1 H1 f1 r1 q1=>⟨⟨z,by cases q1.str_inv; rfl⟩,⟨ρ1,S1,τ,ds,S2,r1,re.fut f1,e2,fun ρ2 vs H2 f2 r2 q2=>?_⟩⟩⟩
        exact ⟨ρ2,S2,_,ds,d,S',r2,q1.fut f2,q2,e,fun ρ3 v3 H3 f3 r3 q3=>fin ρ3 v3 H3 (f1.trans (f2.trans f3)) r3 q3⟩
  cases p with
  | append=>exact run ⟨trivial,trivial,⟨nofun,nofun,nofun,nofun⟩⟩ PySem.F.slot_list_append PySem.F.type_list_append
  | pop0=>exact run ⟨trivial,trivial,⟨nofun,nofun,nofun,nofun⟩⟩ PySem.F.slot_list_pop PySem.F.type_list_pop
  | starts=>exact txt (.inl rfl) PySem.F.slot_str_startswith PySem.F.type_str_startswith
  | split1=>exact txt (.inr (.inl rfl)) PySem.F.slot_str_split PySem.F.type_str_split
  | join1=>exact txt (.inr (.inr (.inl rfl))) PySem.F.slot_str_join PySem.F.type_str_join
  | split2=>exact txt (.inr (.inr (.inr rfl))) PySem.F.slot_str_split PySem.F.type_str_split
theorem snd_methT {p:Meth} {o as:M} (ho:Snd C o) (ha:Snd C as):∀ (X:Cx) (c:Ck) (x:Expr),Gd X C c→chkE (.meth p o as) c x = true→PT X x (tT X.K C (.meth p o as)):=by
  intro X c x g h
  have pe:=snd_meth ho ha X c x g h
  cases x<;>try (exact absurd h Bool.false_ne_true)
  refine pt_of pe (fun _=>rfl) fun τ S b S' e=>?_
  simp only [revT_mt] at e
  obtain ⟨x1,S1,e1,e⟩:=Res.bind_eq_ok e
  split at e<;>try (exact absurd e bad_ne)
  rename_i hr
  obtain ⟨ds,S2,e2,e⟩:=Res.bind_eq_ok e
  obtain ⟨d,S3,e3,e⟩:=Res.bind_eq_ok e
  split at e
  · rename_i k hk
    cases e
    exact ⟨d,by simp only [revE_17]; rw [e1,Res.bind_ok,if_pos hr,e2,Res.bind_ok,e3],hk⟩
  · cases e
end
end Mi
namespace Mi
open PySem L2
section
variable {C:Pr}
theorem snd_cst {d:D}:∀ (X:Cx) (c:Ck) (x:Expr),Gd X C c→chkE (.cst d) c x = true→PE X x (tE X.K C (.cst d)):=by
  intro X c x g h
  cases d<;>cases x<;>try (exact absurd h Bool.false_ne_true)
  all_goals (rename_i k _ _; cases k<;>try (exact absurd h Bool.false_ne_true))
  · refine PE.imp pe_non fun σ H Q hq_=>?_
    obtain ⟨ρ,S,τ,d,S',rs,re,e,fin⟩:=hq_
    simp only [revE_0] at e
    cases e
    exact fin.now rs RelD.non
  · simp only [cE_1,beq_iff_eq] at h
    subst h
    refine PE.imp pe_bl fun σ H Q hq_=>?_
    obtain ⟨ρ,S,τ,d,S',rs,re,e,fin⟩:=hq_
    simp only [revE_0] at e
    cases e
    exact fin.now rs (RelD.bl _)
  · simp only [cE_2,beq_iff_eq] at h
    subst h
    refine PE.imp pe_int fun σ H Q hq_=>?_
    obtain ⟨ρ,S,τ,d,S',rs,re,e,fin⟩:=hq_
    simp only [revE_0] at e
    cases e
    exact fin.now rs (RelD.int _)
  · simp only [cE_3,beq_iff_eq] at h
    subst h
    refine PE.imp pe_str fun σ H Q hq_=>?_
    obtain ⟨ρ,S,τ,d,S',rs,re,e,fin⟩:=hq_
    simp only [revE_0] at e
    cases e
    exact fin.now rs (RelD.str _)
theorem snd_var {i:Nat}:∀ (X:Cx) (c:Ck) (x:Expr),Gd X C c→chkE (.var i) c x = true→PE X x (tE X.K C (.var i))∧PT X x (tT X.K C (.var i)):=by
  intro X c x g h
  cases x<;>try (exact absurd h Bool.false_ne_true)
  rename_i y p
  simp only [cE_4,Bool.and_eq_true,beq_iff_eq] at h
  obtain ⟨⟨h1,h2⟩,h3⟩:=h
  have pe:PE X (.Name y p) (tE X.K C (.var i)):=by
    refine PE.imp (pe_var (i:=i) (by rw [g.N]; exact h1) (g.vis h2) (dbg1 h3) (dbg2 h3)) fun σ H Q hq_=>?_
    obtain ⟨ρ,S,τ,d,S',rs,re,e,fin⟩:=hq_
    simp only [revE_1] at e
    split at e
    · rename_i d' hd
      cases e
      obtain ⟨v,hv,q⟩:=re.at' i _ hd
      exact ⟨v,hv,fin.now rs q⟩
    · cases e
  refine ⟨pe,pt_of pe (fun _=>rfl) fun τ S b S' e=>?_⟩
  simp only [revT_4] at e
  split at e
  · rename_i d hd
    split at e
    · rename_i b' hb
      cases e
      exact ⟨d,by simp only [revE_1]; rw [hd],hb⟩
    · cases e
  · cases e
theorem snd_glb {n:String}:∀ (X:Cx) (c:Ck) (x:Expr),Gd X C c→chkE (.glb n) c x = true→PE X x (tE X.K C (.glb n)):=by
  intro X c x g h
  cases x<;>try (exact absurd h Bool.false_ne_true)
  rename_i y p
  simp only [cE_5,Bool.and_eq_true,beq_iff_eq] at h
  obtain ⟨⟨rfl,h2⟩,h3⟩:=h
  cases e0:C.glob n with
  | none=>exact pe_no (tE_no fun τ S=>by simp only [revE_2]; rw [e0])
  | some d =>
    obtain ⟨v,u,hm,r,hr,_⟩:=g.top.gl n d e0
    refine PE.imp (pe_glob (g.glo h2) hm r (dbg1 h3)) fun σ H Q hq_=>?_
    obtain ⟨ρ,S,τ,d,S',rs,re,e,fin⟩:=hq_
    simp only [revE_2] at e
    rw [e0] at e
    cases e
    exact fin.now rs (hr ρ H)
theorem snd_bv {a b:M} (ha:Snd C a) (hb:Snd C b):∀ (X:Cx) (c:Ck) (w:Bool) (x:List Expr) (pos:Pos),Gd X C c→chkA (.cns a b) c x = true→PE X (.BoolOp (if w then .And else .Or) x pos) (tBV X.K C w (.cns a b)):=by
  intro X c w x pos g h
  cases x with
  | nil=>exact absurd h Bool.false_ne_true
  | cons e es =>
    have h0:=h
    simp only [cA_1,Bool.and_eq_true] at h
    cases b<;>try (exact absurd h.2 Bool.false_ne_true)
    · cases es with
      | cons e1 es=>exact absurd h.2 Bool.false_ne_true
      | nil =>
        refine PE.imp (pe_one (ha.e X c e g h.1)) fun σ H Q hq_=>?_
        obtain ⟨ρ,S,τ,d,S',rs,re,e,fin⟩:=hq_
        simp only [revBV_0] at e
        exact ⟨ρ,S,τ,d,S',rs,re,e,fin⟩
    · rename_i a' b'
      cases es with
      | nil=>exact absurd h.2 Bool.false_ne_true
      | cons e1 es =>
        have hbv:=hb.bv X c w (e1 :: es) pos g h.2
        cases w with
        | true =>
          refine PE.imp (pe_and (ha.e X c e g h.1) hbv) fun σ H Q hq_=>?_
          obtain ⟨ρ,S,τ,d,S',rs,re,e,fin⟩:=hq_
          simp only [revBV_1] at e
          obtain ⟨x1,S1,e1,e⟩:=Res.bind_eq_ok e
          refine ⟨ρ,S,τ,x1,S1,rs,re,e1,fun ρ1 v1 H1 f1 r1 q1=>?_⟩
          cases x1<;>simp only at e<;>try (cases e; done)
          rename_i k
          refine ⟨k,q1.bl_inv,?_⟩
          cases k with
          | true =>
            rw [if_pos rfl] at e ⊢
            exact ⟨ρ1,S1,τ,d,S',r1,re.fut f1,e,fun ρ2 v2 H2 f2=>fin ρ2 v2 H2 (f1.trans f2)⟩
          | false =>
            rw [if_neg Bool.false_ne_true] at e ⊢
            cases e
            exact fin ρ1 _ H1 f1 r1 (RelD.bl _)
        | false =>
          refine PE.imp (pe_or (ha.e X c e g h.1) hbv) fun σ H Q hq_=>?_
          obtain ⟨ρ,S,τ,d,S',rs,re,e,fin⟩:=hq_
          simp only [revBV_1] at e
          obtain ⟨x1,S1,e1,e⟩:=Res.bind_eq_ok e
          refine ⟨ρ,S,τ,x1,S1,rs,re,e1,fun ρ1 v1 H1 f1 r1 q1=>?_⟩
          cases x1<;>simp only at e<;>try (cases e; done)
          rename_i k
          refine ⟨k,q1.bl_inv,?_⟩
          cases k with
          | false =>
            rw [if_pos rfl] at e
            rw [if_neg Bool.false_ne_true]
            exact ⟨ρ1,S1,τ,d,S',r1,re.fut f1,e,fun ρ2 v2 H2 f2=>fin ρ2 v2 H2 (f1.trans f2)⟩
          | true =>
            rw [if_neg (by decide)] at e
            rw [if_pos rfl]
            cases e
            exact fin ρ1 _ H1 f1 r1 (RelD.bl _)
theorem snd_bt {a b:M} (ha:Snd C a) (hb:Snd C b):∀ (X:Cx) (c:Ck) (w:Bool) (x:List Expr) (pos:Pos),Gd X C c→chkA (.cns a b) c x = true→PW X (.BoolOp (if w then .And else .Or) x pos) (tBT X.K C w (.cns a b)):=by
  intro X c w x pos g h
  cases x with
  | nil=>exact absurd h Bool.false_ne_true
  | cons e es =>
    simp only [cA_1,Bool.and_eq_true] at h
    cases b<;>try (exact absurd h.2 Bool.false_ne_true)
    · cases es with
      | cons e1 es=>exact absurd h.2 Bool.false_ne_true
      | nil =>
        have hi:∀ σ H Q,tBT X.K C w (.cns a .nul) σ H Q→tT X.K C a σ H Q:=fun σ H Q ⟨ρ,S,τ,d,S',rs,re,e,fin⟩=>by
          simp only [revBT_0] at e
          exact ⟨ρ,S,τ,d,S',rs,re,e,fin⟩
        cases w with
        | true=>exact fun wh pins s σ H Q I q=>pw_and1 (ha.t X c e g h.1) wh pins s σ H Q I (hi _ _ _ q)
        | false=>exact fun wh pins s σ H Q I q=>pw_or1 (ha.t X c e g h.1) wh pins s σ H Q I (hi _ _ _ q)
    · rename_i a' b'
      cases es with
      | nil=>exact absurd h.2 Bool.false_ne_true
      | cons e1 es =>
        have hbv:=hb.bt X c w (e1 :: es) pos g h.2
        cases w with
        | true =>
          refine fun wh pins s σ H Q I q=>pw_and (ha.t X c e g h.1) hbv wh pins s σ H Q I ?_
          obtain ⟨ρ,S,τ,d,S',rs,re,e,fin⟩:=q
          simp only [revBT_1] at e
          obtain ⟨k,S1,e1,e⟩:=Res.bind_eq_ok e
          refine ⟨ρ,S,τ,k,S1,rs,re,e1,fun ρ1 H1 f1 r1=>?_⟩
          cases k with
          | true =>
            rw [if_pos rfl] at e ⊢
            exact ⟨ρ1,S1,τ,d,S',r1,re.fut f1,e,fun ρ2 H2 f2=>fin ρ2 H2 (f1.trans f2)⟩
          | false =>
            rw [if_neg Bool.false_ne_true] at e ⊢
            cases e
            exact fin ρ1 H1 f1 r1
        | false =>
          refine fun wh pins s σ H Q I q=>pw_or (ha.t X c e g h.1) hbv wh pins s σ H Q I ?_
          obtain ⟨ρ,S,τ,d,S',rs,re,e,fin⟩:=q
          simp only [revBT_1] at e
          obtain ⟨k,S1,e1,e⟩:=Res.bind_eq_ok e
          refine ⟨ρ,S,τ,k,S1,rs,re,e1,fun ρ1 H1 f1 r1=>?_⟩
          cases k with
          | false =>
            rw [if_pos rfl] at e
            rw [if_neg Bool.false_ne_true]
            exact ⟨ρ1,S1,τ,d,S',r1,re.fut f1,e,fun ρ2 H2 f2=>fin ρ2 H2 (f1.trans f2)⟩
          | true =>
            rw [if_neg (by decide)] at e
            rw [if_pos rfl]
            cases e
            exact fin ρ1 H1 f1 r1
theorem snd_bo {w:Bool} {as:M} (ha:Snd C as):∀ (X:Cx) (c:Ck) (x:Expr),Gd X C c→chkE (.bo w as) c x = true→PE X x (tE X.K C (.bo w as))∧PT X x (tT X.K C (.bo w as)):=by
  intro X c x g h
  have main:∀ es pos,chkA as c es = true→PE X (.BoolOp (if w then .And else .Or) es pos) (tE X.K C (.bo w as))∧PT X (.BoolOp (if w then .And else .Or) es pos) (tT X.K C (.bo w as)):=fun es pos h=>by
    refine ⟨PE.imp (ha.bv X c w es pos g h) fun σ H Q ⟨ρ,S,τ,d,S',rs,re,e,fin⟩=>?_,PT.imp (ha.bt X c w es pos g h).pt fun σ H Q ⟨ρ,S,τ,d,S',rs,re,e,fin⟩=>?_⟩
    · simp only [revE_6] at e
      exact ⟨ρ,S,τ,d,S',rs,re,e,fin⟩
    · simp only [revT_1] at e
      exact ⟨ρ,S,τ,d,S',rs,re,e,fin⟩
  cases w<;>cases x<;>try (exact absurd h Bool.false_ne_true)
  all_goals (rename_i op es pos; cases op<;>try (exact absurd h Bool.false_ne_true))
  all_goals (simp only [cE_9,cE_10] at h; exact main es pos h)
noncomputable def Its (x:Str):It:=⟨fun i _=>i < x.cps.size,fun i H v H'=>H' = H∧∃ c,x.cps[i]? = some c∧v = .str ⟨#[c]⟩,fun i _=>x.cps.size ≤ i⟩
theorem turn_ascii {P:Program} {w:World} {K:PySem.W.Frag} {tg:Expr} (it:Addr) (x:Str) (t0:Tok):Turn P w K tg (Its x) [it] it (fun i h=>h.IsStrIter it "str_ascii_iterator" x t0 i) where
  mem:=by simp
  obj:=fun i h st b hb=>by
    have e:b = it:=by simpa using hb
    subst e
    obtain ⟨o,e,c,d⟩:=st
    exact ⟨o,e,fun v z=>by rw [d] at z; cases z⟩
  keep:=fun i h h' st k=>let ⟨o,ho,r⟩:=st; ⟨o,k it (by simp) o ho,r⟩
  item:=by
    intro X hP hw hK hc i pins s σ H E I hf st hg
    subst hP hw hK
    obtain ⟨f0,f1,f2,f3,f4,f5⟩:=hf it (by simp)
    have hg:i < x.cps.size:=hg
    refine wpAny_pyNext_ascii_item st (c:=x.cps[i]) (by simp [hg]) fun h' st' sb=>?_
    have I1:Inv X pins σ H { s with heap:=h',toks:=s.toks + 1 }:=I.turned (fun b o hb e=>(sb.2 b hb).trans e) f0 f1 f3 f4 f5
    obtain ⟨o,e,c,d⟩:=id st'
    exact ⟨_,rfl,go_of (s:={ s with heap:=h',toks:=s.toks + 1 }) e c d (by decide) ⟨.str _,H,I1,⟨_,rfl⟩,⟨rfl,_,by simp [hg],rfl⟩,st',fun b hb=>(hf b hb).1⟩⟩
  done:=by
    intro X hP hw hK hc i pins s σ H E I hf st hg
    subst hP hw hK
    obtain ⟨f0,f1,f2,f3,f4,f5⟩:=hf it (by simp)
    have hg:x.cps.size ≤ i:=hg
    exact wpAny_pyNext_ascii_end (I.ok.hd hc) st (by simp [hg]) fun h' eb=>⟨rfl,I.turned (t':=s.toks) (fun b o hb e=>eb b o hb e) f0 f1 f3 f4 f5⟩
  self:=fun _ _ _ _ _ st h=>wpAny_pyIter_striter_ascii st h
theorem turn_wide {P:Program} {w:World} {K:PySem.W.Frag} {tg:Expr} (it:Addr) (x:Str) (t0:Tok):Turn P w K tg (Its x) [it] it (fun i h=>h.IsStrIter it "str_iterator" x t0 i) where
  mem:=by simp
  obj:=fun i h st b hb=>by
    have e:b = it:=by simpa using hb
    subst e
    obtain ⟨o,e,c,d⟩:=st
    exact ⟨o,e,fun v z=>by rw [d] at z; cases z⟩
  keep:=fun i h h' st k=>let ⟨o,ho,r⟩:=st; ⟨o,k it (by simp) o ho,r⟩
  item:=by
    intro X hP hw hK hc i pins s σ H E I hf st hg
    subst hP hw hK
    obtain ⟨f0,f1,f2,f3,f4,f5⟩:=hf it (by simp)
    have hg:i < x.cps.size:=hg
    refine wpAny_pyNext_wide_item st (c:=x.cps[i]) (by simp [hg]) fun h' st' sb=>?_
    have I1:Inv X pins σ H { s with heap:=h',toks:=s.toks + 1 }:=I.turned (fun b o hb e=>(sb.2 b hb).trans e) f0 f1 f3 f4 f5
    obtain ⟨o,e,c,d⟩:=id st'
    exact ⟨_,rfl,go_of (s:={ s with heap:=h',toks:=s.toks + 1 }) e c d (by decide) ⟨.str _,H,I1,⟨_,rfl⟩,⟨rfl,_,by simp [hg],rfl⟩,st',fun b hb=>(hf b hb).1⟩⟩
  done:=by
    intro X hP hw hK hc i pins s σ H E I hf st hg
    subst hP hw hK
    obtain ⟨f0,f1,f2,f3,f4,f5⟩:=hf it (by simp)
    have hg:x.cps.size ≤ i:=hg
    exact wpAny_pyNext_wide_end (I.ok.hd hc) st (by simp [hg]) fun h' eb=>⟨rfl,I.turned (t':=s.toks) (fun b o hb e=>eb b o hb e) f0 f1 f3 f4 f5⟩
  self:=fun _ _ _ _ _ st h=>wpAny_pyIter_striter_wide st h
theorem itok_str {K:PySem.W.Frag} {ρ:List Addr} {H:Hp} (x:Str):ItOk K ρ H (Its x) none (x.cps.toList.map fun c=>D.str ⟨#[c]⟩) where
  go:=fun ρ' H' S i d f r s e=>by
    simp only [nth,List.getElem?_map,Option.map_eq_some_iff] at e
    obtain ⟨c,hc,rfl⟩:=e
    rw [Array.getElem?_toList] at hc
    refine ⟨(Array.getElem?_eq_some_iff.mp hc).1,fun v H2 ⟨e1,c',hc',e2⟩=>?_⟩
    subst e1
    rw [hc] at hc'
    cases hc'
    subst e2
    exact ⟨Fut.refl,r,RelD.str _⟩
  stop:=fun ρ' H' S f r s=>by
    show x.cps.size ≤ _
    simp
noncomputable def iSeq (K:PySem.W.Frag) (tl:TE):TI:=fun σ H R=>tl σ H fun x H1=>(∃ z,x = .str z∧R (Its z) H1) ∨ ∃ a,x = .ref a∧(((∃ xs,SqL K H1 a xs)∧R (Itl K a) H1) ∨ ((∃ xs,SqT K H1 a xs)∧R (Itt K a) H1))
theorem pi_seq {X:Cx} {tg l:Expr} {tl:TE} (hl:PE X l tl):PI X tg l (iSeq X.K tl):=by
  intro pins s σ H R I h
  refine thn (hl pins s σ H _ I h) fun v s1 hq_=>?_
  obtain ⟨x,H1,I1,r1,q1⟩:=hq_
  rcases q1 with ⟨z,rfl,q⟩ | q1
  · obtain ⟨t,rfl⟩:=r1
    have fp:∀ b ∈ [s1.heap.objs.size],FpOk X pins H1 b:=fun b hb=>by
      have e:b = s1.heap.objs.size:=by simpa using hb
      subst e
      exact I1.fpOk (Nat.le_refl _) (I1.hok.fresh (Nat.le_refl _))
    cases ha:z.cps.all (· < 128)
    · refine wpAny_pyIter_wide ha ?_
      exact ⟨s1.heap.objs.size,[s1.heap.objs.size],_,_,H1,rfl,I1.kept (t':=s1.toks) fun b o e=>Heap.get?_push_of_some _ e,turn_wide _ z t,⟨_,Heap.get?_push_size _ rfl,rfl,rfl⟩,fp,q⟩
    · refine wpAny_pyIter_ascii ha ?_
      exact ⟨s1.heap.objs.size,[s1.heap.objs.size],_,_,H1,rfl,I1.kept (t':=s1.toks) fun b o e=>Heap.get?_push_of_some _ e,turn_ascii _ z t,⟨_,Heap.get?_push_size _ rfl,rfl,rfl⟩,fp,q⟩
  obtain ⟨a,e,q1⟩:=q1
  subst e
  cases r1
  rcases q1 with ⟨⟨xs,hq⟩,q⟩ | ⟨⟨xs,hq⟩,q⟩
  · obtain ⟨its,rv,p,hz⟩:=I1.list hq
    refine wpAny_pyIter_list p.isList ?_
    refine ⟨s1.heap.objs.size,[s1.heap.objs.size],_,_,H1,rfl,I1.kept (t':=s1.toks) fun b o e=>Heap.get?_push_of_some _ e,turn_list a _,⟨_,Heap.get?_push_size _ rfl,rfl,rfl⟩,fun b hb=>?_,q⟩
    have e:b = s1.heap.objs.size:=by simpa using hb
    subst e
    exact I1.fpOk (Nat.le_refl _) (I1.hok.fresh (Nat.le_refl _))
  · obtain ⟨its,rv,p,hz⟩:=I1.tuple hq
    refine wpAny_pyIter_tuple (show s1.heap.IsTuple a its.toArray from p) ?_
    refine ⟨s1.heap.objs.size,[s1.heap.objs.size],_,_,H1,rfl,I1.kept (t':=s1.toks) fun b o e=>Heap.get?_push_of_some _ e,turn_tuple a _,⟨_,Heap.get?_push_size _ rfl,rfl,rfl⟩,fun b hb=>?_,q⟩
    have e:b = s1.heap.objs.size:=by simpa using hb
    subst e
    exact I1.fpOk (Nat.le_refl _) (I1.hok.fresh (Nat.le_refl _))
theorem itok_rng {K:PySem.W.Frag} {ρ:List Addr} {H:Hp} (lo:Int) (n:Nat):ItOk K ρ H (Itr lo n) none ((List.range n).map fun (i:Nat)=>D.int (lo + i)) where
  go:=fun ρ' H' S i d f r s e=>by
    simp only [nth,List.getElem?_map,Option.map_eq_some_iff] at e
    obtain ⟨j,hj,rfl⟩:=e
    obtain ⟨h1,h2⟩:=List.getElem?_eq_some_iff.mp hj
    simp only [List.getElem_range] at h2
    subst h2
    refine ⟨(by simpa using h1:i < n),fun x H2 ⟨e1,e2⟩=>?_⟩
    subst e1
    refine ⟨Fut.refl,r,?_⟩
    subst e2
    exact RelD.int _
  stop:=fun ρ' H' S f r s=>by
    show n ≤ _
    simp
theorem itok_lst {K:PySem.W.Frag} {ρ:List Addr} {H:Hp} {l:Nat} {a:Addr} (hl:ρ[l]? = some a) (ds:List D):ItOk K ρ H (Itl K a) (some (l,.lst)) ds where
  go:=fun ρ' H' S i d f r s e=>by
    simp only [nth] at e
    split at e
    · rename_i es he
      have ha:=f.get hl
      obtain ⟨xs,hx,q⟩:=r.ob l a _ ha (seqAt_lst he)
      obtain ⟨v,hv,rv⟩:=q.get e
      refine ⟨⟨xs,v,SqL.of hx,hv⟩,fun x H2 ⟨e1,e2⟩=>?_⟩
      subst e1
      refine ⟨Fut.refl,r,?_⟩
      have:=e2 xs (SqL.of hx)
      rw [hv] at this
      cases this
      exact rv
    · cases e
  stop:=fun ρ' H' S f r s=>by
    simp only [sameAt] at s
    split at s
    · rename_i es he
      obtain ⟨xs,hx,q⟩:=r.ob l a _ (f.get hl) he
      refine ⟨xs,SqL.of hx,?_⟩
      rw [← q.length]
      simp only [beq_iff_eq] at s
      omega
    · cases s
theorem itok_enm {K:PySem.W.Frag} {ρ:List Addr} {H:Hp} {l:Nat} {a:Addr} (hl:ρ[l]? = some a) (ds:List D):ItOk K ρ H (Ite K a) (some (l,.enm)) ds where
  go:=fun ρ' H' S i d f r s e=>by
    simp only [nth] at e
    split at e
    · rename_i es he
      simp only [Option.map_eq_some_iff] at e
      obtain ⟨d0,e,rfl⟩:=e
      have ha:=f.get hl
      obtain ⟨xs,hx,q⟩:=r.ob l a _ ha (seqAt_lst he)
      obtain ⟨v,hv,rv⟩:=q.get e
      refine ⟨⟨xs,v,SqL.of hx,hv⟩,fun x H2 ⟨p,y,hp,e1,e2,e3⟩=>?_⟩
      subst e1 e2
      have:=e3 xs (SqL.of hx)
      rw [hv] at this
      cases this
      refine ⟨fut_new0 hp,r.new hp,?_⟩
      simp only [RelD]
      exact ⟨p,_,rfl,.inl (.inl upd_same),RelDs.cons (by simp only [RelD]) (RelDs.cons (rv.fut (fut_new0 hp)) RelDs.nil)⟩
    · cases e
  stop:=fun ρ' H' S f r s=>by
    simp only [sameAt] at s
    split at s
    · rename_i es he
      obtain ⟨xs,hx,q⟩:=r.ob l a _ (f.get hl) he
      refine ⟨xs,SqL.of hx,?_⟩
      rw [← q.length]
      simp only [beq_iff_eq] at s
      omega
    · cases s
theorem itok_kl {K:PySem.W.Frag} {ρ:List Addr} {H:Hp} {a:Addr} {xs:List V} {ds:List D} (hs:SqF K H a xs) (t:RelDs K ρ H ds xs):ItOk K ρ H (Itl K a) none ds where
  go:=fun ρ' H' S i d f r s e=>by
    have hs':=(f.sqF hs).sq
    obtain ⟨v,hv,rv⟩:=(t.fut f).get (show ds[i]? = some d from e)
    refine ⟨⟨xs,v,hs',hv⟩,fun x H2 ⟨e1,e2⟩=>?_⟩
    subst e1
    refine ⟨Fut.refl,r,?_⟩
    have:=e2 xs hs'
    rw [hv] at this
    cases this
    exact rv
  stop:=fun ρ' H' S f r s=>⟨xs,(f.sqF hs).sq,by rw [← t.length]; exact Nat.le_refl _⟩
theorem snd_i_seq {a:M} (ha:Snd C a):∀ (X:Cx) (c:Ck) (tg x:Expr),Gd X C c→chkE a c x = true→PI X tg x (tI X.K C (.cns a .nul)):=by
  intro X c tg x g h
  refine PI.imp (pi_seq (ha.e X c x g h)) fun σ H R hq_=>?_
  obtain ⟨ρ,S,τ,gg,ds,S',rs,re,e,fin⟩:=hq_
  simp only [revI_2] at e
  obtain ⟨d,S1,e1,e⟩:=Res.bind_eq_ok e
  refine ⟨ρ,S,τ,d,S1,rs,re,e1,fun ρ1 v1 H1 f1 r1 q1=>?_⟩
  split at e
  · cases e
    obtain ⟨p,xs,rfl,sq,t⟩:=q1.tup_inv
    refine .inr ⟨p,rfl,.inr ⟨⟨xs,sq⟩,fin ρ1 H1 _ f1 r1 ?_⟩⟩
    exact { go:=(fun ρ' H' S i d f r s e=>by
              have hs':=f.tup _ _ sq
              obtain ⟨v,hv,rv⟩:=(t.fut f).get (show ds[i]? = some d from e)
              refine ⟨⟨xs,v,hs',hv⟩,fun x H2 ⟨e1,e2⟩=>?_⟩
              subst e1
              refine ⟨Fut.refl,r,?_⟩
              have:=e2 xs hs'
              rw [hv] at this
              cases this
              exact rv),stop:=fun ρ' H' S f r s=>⟨xs,f.tup _ _ sq,by rw [← t.length]; exact Nat.le_refl _⟩ }
  · cases e
    obtain ⟨p,xs,rfl,sq,t⟩:=q1.kl_inv
    exact .inr ⟨p,rfl,.inl ⟨⟨xs,sq.sq⟩,fin ρ1 H1 _ f1 r1 (itok_kl sq t)⟩⟩
  · cases e
    cases q1.str_inv
    exact .inl ⟨_,rfl,fin ρ1 H1 _ f1 r1 (itok_str _)⟩
  · split at e
    · rename_i es he
      cases e
      obtain ⟨p,xs,rfl,hl,hx,t⟩:=r1.lst q1 (seqAt_lst he)
      exact .inr ⟨p,rfl,.inl ⟨⟨xs,SqL.of hx⟩,fin ρ1 H1 _ f1 r1 (itok_lst hl _)⟩⟩
    · cases e
  · cases e
theorem snd_i_rng {a:M} (ha:Snd C a):∀ (X:Cx) (c:Ck) (tg x:Expr),Gd X C c→chkI (.rng a) c x = true→PI X tg x (tI X.K C (.rng a)):=by
  intro X c tg x g h
  cases x<;>try (exact absurd h Bool.false_ne_true)
  rename_i fn es kws pos
  cases fn<;>try (exact absurd h Bool.false_ne_true)
  rename_i y pp
  rcases es with _ | ⟨e0,_ | ⟨e1,es⟩⟩<;>cases kws<;>try (exact absurd h Bool.false_ne_true)
  simp only [cI_0,Bool.and_eq_true,beq_iff_eq] at h
  obtain ⟨⟨⟨rfl,h1⟩,h2⟩,h3⟩:=h
  refine PI.imp (pi_range1 (g.glo h1) (g.top.blt _ (mem_contains h2)) (pa_cons (ha.e X c _ g h3) pa_nil (star_cons (noStar h3))) (star_cons (noStar h3))) fun σ H R hq_=>?_
  obtain ⟨ρ,S,τ,gg,ds,S',rs,re,e,fin⟩:=hq_
  simp only [revI_0] at e
  obtain ⟨d,S1,e1,e⟩:=Res.bind_eq_ok e
  refine ⟨ρ,S,τ,d,S1,rs,re,e1,fun ρ1 v1 H1 f1 r1 q1=>?_⟩
  split at e
  · rename_i j
    split at e
    · rename_i hj
      simp only [Bool.and_eq_true,decide_eq_true_eq] at hj
      cases e
      cases q1.int_inv
      refine ⟨j,rfl,hj.1,hj.2,fin ρ1 H1 _ f1 r1 ?_⟩
      have:=itok_rng (K:=X.K) (ρ:=ρ1) (H:=H1) 0 j.toNat
      simpa only [Int.zero_add] using this
    · cases e
  · cases e
theorem itok_zip {K:PySem.W.Frag} {ρ:List Addr} {H:Hp} {u v:Addr} {xs ys:List V} {ds es:List D} (h1:SqT K H u xs) (h2:SqT K H v ys) (t1:RelDs K ρ H ds xs) (t2:RelDs K ρ H es ys):ItOk K ρ H (Izz K u v xs ys) none ((ds.zip es).map fun p=>.tup [p.1,p.2]) where
  go:=fun ρ' H' S i d f r s e=>by
    replace e:((ds.zip es).map fun p=>D.tup [p.1,p.2])[i]? = some d:=e
    rw [List.getElem?_map] at e
    obtain ⟨⟨a,b⟩,e0,ed⟩:=Option.map_eq_some_iff.mp e
    subst ed
    obtain ⟨e1,e2⟩:=List.getElem?_zip_eq_some.mp e0
    obtain ⟨x,hx,rx⟩:=(t1.fut f).get e1
    obtain ⟨y,hy,ry⟩:=(t2.fut f).get e2
    refine ⟨⟨f.tup _ _ h1,f.tup _ _ h2,(List.getElem?_eq_some_iff.mp hx).1,(List.getElem?_eq_some_iff.mp hy).1⟩,fun w H2 ⟨p,x',y',hp,ew,eH,ex,ey⟩=>?_⟩
    subst ew eH
    rw [hx] at ex
    rw [hy] at ey
    cases ex
    cases ey
    refine ⟨fut_new0 hp,r.new hp,?_⟩
    simp only [RelD]
    exact ⟨p,_,rfl,.inl (.inl upd_same),RelDs.cons (rx.fut (fut_new0 hp)) (RelDs.cons (ry.fut (fut_new0 hp)) RelDs.nil)⟩
  stop:=fun ρ' H' S f r s=>by
    refine ⟨f.tup _ _ h1,f.tup _ _ h2,?_⟩
    rw [List.length_map,List.length_zip,t1.length,t2.length]
    omega
theorem snd_i_zip {a b:M} (ha:Snd C a) (hb:Snd C b):∀ (X:Cx) (c:Ck) (tg x:Expr),Gd X C c→chkI (.zp a b) c x = true→itT (.zp a b) tg = true→PI X tg x (tI X.K C (.zp a b)):=by
  intro X c tg x g h ht
  cases x<;>try (exact absurd h Bool.false_ne_true)
  rename_i fn es kws pos
  cases fn<;>try (exact absurd h Bool.false_ne_true)
  rename_i y pp
  rcases es with _ | ⟨e0,_ | ⟨e1,_ | ⟨e2,es⟩⟩⟩<;>cases kws<;>try (exact absurd h Bool.false_ne_true)
  cases tg<;>try (exact absurd ht Bool.false_ne_true)
  simp only [cI_zp,Bool.and_eq_true,beq_iff_eq] at h
  obtain ⟨⟨⟨⟨rfl,h1⟩,h2⟩,h3⟩,h4⟩:=h
  have s2:starEach [e1] X.env = [(false,eval e1 X.env)]:=star_cons (noStar h4)
  refine PI.imp (pi_zipT (g.glo h1) (g.top.blt _ (mem_contains h2)) (pa_cons (ha.e X c _ g h3) (pa_cons (hb.e X c _ g h4) pa_nil (star_cons (noStar h4))) (star_cons (noStar h3))) (by rw [star_cons (noStar h3),s2]) s2) fun σ H R hq_=>?_
  obtain ⟨ρ,S,τ,gg,ds,S',rs,re,e,fin⟩:=hq_
  simp only [revI_zp] at e
  obtain ⟨d1,S1,e1',e⟩:=Res.bind_eq_ok e
  obtain ⟨d2,S2,e2',e⟩:=Res.bind_eq_ok e
  cases d1<;>try (exact absurd e bad_ne)
  cases d2<;>try (exact absurd e bad_ne)
  cases e
  refine ⟨ρ,S,τ,_,S1,rs,re,e1',fun ρ1 v1 H1 f1 r1 q1=>⟨ρ1,S1,τ,_,_,r1,re.fut f1,e2',fun ρ2 v2 H2 f2 r2 q2=>?_⟩⟩
  obtain ⟨u,xs,rfl,k1,t1⟩:=(q1.fut f2).tup_inv
  obtain ⟨v,ys,rfl,k2,t2⟩:=q2.tup_inv
  exact ⟨u,v,xs,ys,rfl,k1,k2,fin ρ2 H2 _ (f1.trans f2) r2 (itok_zip k1 k2 t1 t2)⟩
theorem snd_i_enm {a:M} (ha:Snd C a):∀ (X:Cx) (c:Ck) (tg x:Expr),Gd X C c→chkI (.enm a) c x = true→itT (.enm a) tg = true→PI X tg x (tI X.K C (.enm a)):=by
  intro X c tg x g h ht
  cases x<;>try (exact absurd h Bool.false_ne_true)
  rename_i fn es kws pos
  cases fn<;>try (exact absurd h Bool.false_ne_true)
  rename_i y pp
  rcases es with _ | ⟨e0,_ | ⟨e1,es⟩⟩<;>cases kws<;>try (exact absurd h Bool.false_ne_true)
  cases tg<;>try (exact absurd ht Bool.false_ne_true)
  simp only [cI_3,Bool.and_eq_true,beq_iff_eq] at h
  obtain ⟨⟨⟨rfl,h1⟩,h2⟩,h3⟩:=h
  refine PI.imp (pi_enum (g.glo h1) (g.top.blt _ (mem_contains h2)) (pa_cons (ha.e X c _ g h3) pa_nil (star_cons (noStar h3))) (star_cons (noStar h3))) fun σ H R hq_=>?_
  obtain ⟨ρ,S,τ,gg,ds,S',rs,re,e,fin⟩:=hq_
  simp only [revI_3] at e
  obtain ⟨d,S1,e1,e⟩:=Res.bind_eq_ok e
  refine ⟨ρ,S,τ,d,S1,rs,re,e1,fun ρ1 v1 H1 f1 r1 q1=>?_⟩
  split at e
  · split at e
    · rename_i es he
      cases e
      obtain ⟨p,xs,rfl,hl,hx,t⟩:=r1.lst q1 (seqAt_lst he)
      exact ⟨p,rfl,⟨xs,SqL.of hx⟩,fin ρ1 H1 _ f1 r1 (itok_enm hl _)⟩
    · cases e
  · cases e
end
end Mi
namespace Mi
open PySem L2
section
variable {C:Pr}
theorem noStarG:∀ {m:M} {c:Ck} {e:Expr},chkG m c e = true→∀ x p,e ≠ .Starred x p:=by
  intro m c e h x p z
  subst z
  cases m<;>exact absurd h Bool.false_ne_true
theorem gs_len:∀ {m:M} {c:Ck} {es:List Expr} {env:Env},chkGs m c es = true→(assignEach es env).length = es.length∧(assignEach es env).findIdx? (·.1) = none:=by
  intro m
  induction m with
  | nul=>intro c es env h; cases es<;>first | exact ⟨rfl,rfl⟩ | exact absurd h Bool.false_ne_true
  | cns a b _ ihb =>
    intro c es env h
    cases es with
    | nil=>exact absurd h Bool.false_ne_true
    | cons e es =>
      simp only [cGs_1,Bool.and_eq_true] at h
      rw [assign_cons (noStarG h.1)]
      obtain ⟨h1,h2⟩:=ihb (env:=env) h.2
      refine ⟨by rw [List.length_cons,List.length_cons,h1],?_⟩
      rw [List.findIdx?_cons,h2]
      rfl
  | _=>intro c es env h; exact absurd h Bool.false_ne_true
theorem gs_ev:∀ {m:M} {c:Ck} {es:List Expr} {ds:List D} {τ τ':En} {S S':Store},chkGs m c es = true→evGs C m ds τ S = .ok τ' S'→ds.length = es.length:=by
  intro m
  induction m with
  | nul =>
    intro c es ds τ τ' S S' h e
    cases es<;>try (exact absurd h Bool.false_ne_true)
    cases ds<;>simp only [revGs_0] at e
    · rfl
    · cases e
  | cns a b _ ihb =>
    intro c es ds τ τ' S S' h e
    cases es with
    | nil=>exact absurd h Bool.false_ne_true
    | cons x es =>
      simp only [cGs_1,Bool.and_eq_true] at h
      cases ds with
      | nil=>simp only [revGs_1] at e; cases e
      | cons d ds =>
        simp only [revGs_1] at e
        obtain ⟨τ1,S1,e1,e⟩:=Res.bind_eq_ok e
        rw [List.length_cons,List.length_cons,ihb h.2 e]
  | _=>intro c es ds τ τ' S S' h; exact absurd h Bool.false_ne_true
theorem snd_g_var {i:Nat}:∀ (X:Cx) (c:Ck) (x:Expr),Gd X C c→chkG (.tvar i) c x = true→PG X x (tG X.K C (.tvar i)):=by
  intro X c x g h
  cases x<;>try (exact absurd h Bool.false_ne_true)
  rename_i y p
  simp only [cG_0,Bool.and_eq_true,beq_iff_eq] at h
  obtain ⟨h1,h2⟩:=h
  obtain ⟨o1,o2⟩:=g.own h2
  refine PG.imp (pg_name (i:=i) g.nd (by rw [g.N]; exact h1) o1 o2) fun v σ H Q hq_=>?_
  obtain ⟨ρ,S,τ,d,τ',S',rs,re,rd,e,fin⟩:=hq_
  simp only [revG_0] at e
  split at e
  · cases e
    exact fin ρ _ H Fut.refl rs (re.set rd i)
  · cases e
theorem snd_g_tup {ts:M} (ha:Snd C ts):∀ (X:Cx) (c:Ck) (x:Expr),Gd X C c→chkG (.ttup ts) c x = true→PG X x (tG X.K C (.ttup ts)):=by
  intro X c x g h
  cases x<;>try (exact absurd h Bool.false_ne_true)
  rename_i es k p
  simp only [cG_1] at h
  refine PG.imp (pg_tup g.calm (ha.gs X c _ g h) (gs_len h).1 (gs_len h).2) fun v σ H Q hq_=>?_
  obtain ⟨ρ,S,τ,d,τ',S',rs,re,rd,e,fin⟩:=hq_
  simp only [revG_1] at e
  split at e
  · rename_i ds
    obtain ⟨a,xs,rfl,sq,t⟩:=rd.tup_inv
    exact ⟨a,xs,rfl,sq,by rw [← t.length]; exact gs_ev h e,ρ,S,τ,ds,τ',S',rs,re,t,e,fin⟩
  · cases e
theorem snd_g_sub {a b:M} (ha:Snd C a) (hb:Snd C b):∀ (X:Cx) (c:Ck) (x:Expr),Gd X C c→chkG (.tsub a b) c x = true→PG X x (tG X.K C (.tsub a b)):=by
  intro X c x g h
  cases x<;>try (exact absurd h Bool.false_ne_true)
  rename_i o i p
  simp only [cG_2,Bool.and_eq_true] at h
  have nsl:∀ l u t p,i ≠ .Slice l u t p:=by
    intro l u t p z
    subst z
    have h2:=h.2
    cases b<;>first | (exact absurd h2 Bool.false_ne_true) | (rename_i d; cases d<;>exact absurd h2 Bool.false_ne_true) | (rename_i w _; cases w<;>exact absurd h2 Bool.false_ne_true)
  refine PG.imp (pg_sub (ha.e X c _ g h.1) (hb.e X c _ g h.2) (set_ok (Nat.lt_of_le_of_lt (Nat.add_le_add_left (by decide:1 ≤ 64) _) g.top.un)) (by
    intro v
    cases i<;>first | rfl | exact absurd rfl (nsl _ _ _ _))) fun v σ H Q ⟨ρ,S,τ,d,τ',S',rs,re,rd,e,fin⟩=>?_
  simp only [revG_2] at e
  obtain ⟨d1,S1,e1,e⟩:=Res.bind_eq_ok e
  obtain ⟨d2,S2,e2,e⟩:=Res.bind_eq_ok e
  obtain ⟨_,S3,e3,e⟩:=Res.bind_eq_ok e
  cases e
  refine ⟨ρ,S,τ,d1,S1,rs,re,e1,fun ρ1 v1 H1 f1 r1 q1=>⟨ρ1,S1,τ,d2,S2,r1,re.fut f1,e2,fun ρ2 v2 H2 f2 r2 q2=>?_⟩⟩
  refine ⟨ρ2,S2,d1,d2,d,S',r2,q1.fut f2,q2,rd.fut (f1.trans f2),e3,fun H3 f3 r3=>?_⟩
  have f:=f1.trans (f2.trans f3)
  exact fin ρ2 σ H3 f r3 (re.fut f)
theorem snd_gs_cns {a b:M} (ha:Snd C a) (hb:Snd C b):∀ (X:Cx) (c:Ck) (x:List Expr),Gd X C c→chkGs (.cns a b) c x = true→PGs X x (tGs X.K C (.cns a b)):=by
  intro X c x g h
  cases x with
  | nil=>exact absurd h Bool.false_ne_true
  | cons e es =>
    simp only [cGs_1,Bool.and_eq_true] at h
    refine PGs.imp (pgs_cons (ha.g X c _ g h.1) (hb.gs X c _ g h.2) (by rw [assign_cons (noStarG h.1)]; rfl)) fun vs σ H Q hq_=>?_
    obtain ⟨ρ,S,τ,ds,τ',S',rs,re,rd,e,fin⟩:=hq_
    cases ds with
    | nil=>simp only [revGs_1] at e; cases e
    | cons d ds =>
      simp only [revGs_1] at e
      obtain ⟨τ1,S1,e1,e⟩:=Res.bind_eq_ok e
      obtain ⟨v,r,rfl,q,t⟩:=rd.inv_cons
      refine ⟨v,r,rfl,ρ,S,τ,d,τ1,S1,rs,re,q,e1,fun ρ1 σ1 H1 f1 r1 q1=>?_⟩
      exact ⟨ρ1,S1,τ1,ds,τ',S',r1,q1,t.fut f1,e,fun ρ2 σ2 H2 f2=>fin ρ2 σ2 H2 (f1.trans f2)⟩
theorem snd_gs_nul:∀ (X:Cx) (c:Ck) (x:List Expr),Gd X C c→chkGs .nul c x = true→PGs X x (tGs X.K C .nul):=by
  intro X c x g h
  cases x with
  | cons e es=>exact absurd h Bool.false_ne_true
  | nil =>
    refine PGs.imp pgs_nil fun vs σ H Q hq_=>?_
    obtain ⟨ρ,S,τ,ds,τ',S',rs,re,rd,e,fin⟩:=hq_
    cases ds with
    | cons d ds=>simp only [revGs_0] at e; cases e
    | nil =>
      simp only [revGs_0] at e
      cases e
      exact ⟨rd.inv_nil,fin ρ σ H Fut.refl rs re⟩
theorem Ck.compOk {X:Cx} {c:Ck} {N:List String} {k:Nat} {keep:List Nat} {scope:Scope} (g:Gd X C c) (h:c.comp N k keep scope = true):CompOk X (N.map Str.ofString) k keep scope∧(N.map Str.ofString).Nodup:=by
  unfold Ck.comp at h
  simp only [Bool.and_eq_true,List.all_eq_true,beq_iff_eq,bne_iff_ne,Bool.or_eq_true,decide_eq_true_eq] at h
  obtain ⟨⟨⟨⟨⟨⟨h1,h2⟩,h3⟩,h4⟩,h5⟩,h6⟩,h7⟩:=h
  refine ⟨⟨h1,h2,fun y hy hl=>?_,fun y hy hf=>?_,by rw [List.length_map]; exact h5,fun j i hj=>?_⟩,h6⟩
  · rcases h3 y hy with z | z
    · exact absurd hl z
    · exact z
  · rw [g.names]
    rcases h4 y hy with (z | z) | z
    · exact absurd hf z
    · exact .inl z
    · exact .inr z
  · have hlt:=(List.getElem?_eq_some_iff.mp hj).1
    have:=h7 j (by simpa using hlt)
    rw [hj] at this
    split at this
    · rename_i i' x e1 e2
      cases e1
      simp only [Bool.and_eq_true,beq_iff_eq] at this
      exact ⟨x,e2,by rw [g.N]; exact this.1,this.2⟩
    · cases this
theorem Gd.inner {X:Cx} {c:Ck} {N:List String} {k:Nat} {keep:List Nat} {scope:Scope} (g:Gd X C c) (h:c.comp N k keep scope = true) (s₃:Shared) (H:Hp) (ex:List Addr) (pins:List (Addr × PySem.Obj)) :
    Gd (compCx X (N.map Str.ofString) scope s₃ H ex pins) C (c.inner N scope):=by
  obtain ⟨ok,nd⟩:=Ck.compOk g h
  refine ⟨rfl,nd,?_,ok.kind,fun x=>rfl,g.calm,rfl,g.top⟩
  show (relabel scope X.env).names = relab scope.names c.names
  unfold relabel relab
  show scope.names.map _ = scope.names.map _
  refine List.map_congr_left fun p hp=>?_
  obtain ⟨n,q⟩:=p
  have e1:(X.env.scope.kind == ScopeKind.function) = true:=by rw [g.sk]; rfl
  have e2:X.env.kindOf n = c.names.lookup n:=by
    show X.env.scope.names.lookup n = _
    rw [g.names]
  simp only [e1,e2,Bool.and_true]
noncomputable def OwnE (k:Nat) (τ0 τ:En):Prop:=τ.length = τ0.length∧∀ i,k ≤ i→τ[i]? = τ0[i]?
theorem evG_own {k:Nat}:∀ {m:M},tgOwn k m = true→(∀ {d:D} {τ0 τ τ':En} {S S':Store},OwnE k τ0 τ→evG C m d τ S = .ok τ' S'→OwnE k τ0 τ'∧S' = S)∧(∀ {ds:List D} {τ0 τ τ':En} {S S':Store},OwnE k τ0 τ→evGs C m ds τ S = .ok τ' S'→OwnE k τ0 τ'∧S' = S):=by
  intro m
  induction m with
  | tvar i =>
    intro h
    simp only [tgOwn,decide_eq_true_eq] at h
    refine ⟨fun {d τ0 τ τ' S S'} o e=>?_,fun {ds τ0 τ τ' S S'} o e=>?_⟩
    · simp only [revG_0] at e
      split at e
      · cases e
        refine ⟨⟨by rw [List.length_set]; exact o.1,fun j hj=>?_⟩,rfl⟩
        rw [List.getElem?_set_ne (by omega)]
        exact o.2 j hj
      · cases e
    · exact absurd e bad_ne
  | ttup ts ih =>
    intro h
    simp only [tgOwn] at h
    refine ⟨fun {d τ0 τ τ' S S'} o e=>?_,fun {ds τ0 τ τ' S S'} o e=>?_⟩
    · simp only [revG_1] at e
      split at e
      · exact (ih h).2 o e
      · cases e
    · exact absurd e bad_ne
  | nul =>
    intro h
    refine ⟨fun {d τ0 τ τ' S S'} o e=>?_,fun {ds τ0 τ τ' S S'} o e=>?_⟩
    · exact absurd e bad_ne
    · cases ds<;>simp only [revGs_0] at e
      · cases e; exact ⟨o,rfl⟩
      · cases e
  | cns a b iha ihb =>
    intro h
    simp only [tgOwn,Bool.and_eq_true] at h
    refine ⟨fun {d τ0 τ τ' S S'} o e=>?_,fun {ds τ0 τ τ' S S'} o e=>?_⟩
    · exact absurd e bad_ne
    · cases ds<;>simp only [revGs_1] at e
      · cases e
      · obtain ⟨τ1,S1,e1,e2⟩:=Res.bind_eq_ok e
        obtain ⟨o1,rfl⟩:=(iha h.1).1 o e1
        exact (ihb h.2).2 o1 e2
  | _=>intro h; simp [tgOwn] at h
noncomputable abbrev turnC (C:Pr) (tg cd el:M):D→En→Store→Res (Option D):=fun d τ1 S2=>(evG C tg d τ1 S2).bind fun τ2 S3=>(evC C cd τ2 S3).bind fun b S4=>if b then (evE C el τ2 S4).bind fun y S5=>.ok (some y) S5 else .ok none S4
theorem inEn_none {k:Nat} {keep:List Nat} {τ:En} {i:Nat} {d:D} (h:(inEn k keep τ)[i]? = some (some d)):k ≤ i:=by
  unfold inEn at h
  by_cases hi:i < k
  · rw [List.getElem?_append_left (by simpa using hi),List.getElem?_replicate,if_pos hi] at h
    cases h
  · omega
theorem compW_of {K:PySem.W.Frag} {tg cd el:M} {J:It} {ρ0:List Addr} {H0:Hp} {g:Wk} {ds:List D} {ys:List D} {S0 S':Store} {Q:List V→Hp→Prop} {k:Nat} {keep:List Nat} {τ0:En} {σ0:L2.St} (hown:tgOwn k tg = true) (it:ItOk K ρ0 H0 J g ds)
    (rs0:RelS K ρ0 S0 H0) (re0:RelE K ρ0 H0 (inEn k keep τ0) σ0) (e0:compL (turnC C tg cd el) g ds ds.length 0 (inEn k keep τ0) S0 [] = .ok ys S') (fin:∀ ρ H xs,Fut K ρ0 H0 ρ H→RelS K ρ S' H→RelDs K ρ H ys xs→Q xs H) :
    CompW J (tG K C tg) (tC K C cd) (tE K C el) Q σ0 H0:=by
  refine ⟨fun i m xs σ H=>∃ ρ S acc,Fut K ρ0 H0 ρ H∧RelS K ρ S H∧RelE K ρ H (inEn k keep τ0) σ∧RelDs K ρ H acc xs∧i + m = ds.length∧acc.length ≤ Line∧compL (turnC C tg cd el) g ds m i (inEn k keep τ0) S acc = .ok ys S',⟨ds.length,ρ0,S0,[],Fut.refl,rs0,re0,RelDs.nil,Nat.zero_add _,Nat.zero_le _,e0⟩,?_⟩
  rintro i m xs σ H ⟨ρ,S,acc,f,rs,re,ra,hi,hl,e⟩
  refine ⟨by rw [← ra.length,← line_eq]; exact hl,?_⟩
  cases m with
  | zero =>
    simp only [compL] at e
    split at e
    · rename_i hs
      cases e
      refine .inl ⟨?_,fin ρ H xs f rs ra⟩
      have:i = ds.length:=by omega
      rw [this]
      exact it.stop ρ H _ f rs hs
    · cases e
  | succ m =>
    simp only [compL] at e
    split at e
    · rename_i hs
      split at e
      · cases e
      · rename_i d hd
        obtain ⟨hgo,hy⟩:=it.go ρ H S i d f rs hs hd
        refine .inr ⟨hgo,fun x H' hyl=>?_⟩
        obtain ⟨f0,rs,rd⟩:=hy x H' hyl
        replace re:=re.fut f0
        replace ra:=ra.fut f0
        replace f:=f.trans f0
        obtain ⟨o,S1,e1,e⟩:=Res.bind_eq_ok e
        obtain ⟨τ2,S2,eG,e1⟩:=Res.bind_eq_ok e1
        obtain ⟨b,S3,eC,e1⟩:=Res.bind_eq_ok e1
        have own:OwnE k (inEn k keep τ0) τ2:=((evG_own (C:=C) hown).1 (τ0:=inEn k keep τ0) ⟨rfl,fun _ _=>rfl⟩ eG).1
        have less:Less τ2 (inEn k keep τ0):=⟨own.1.symm,fun j d hj=>by rw [own.2 j (inEn_none hj)]; exact hj⟩
        refine ⟨ρ,S,_,d,τ2,S2,rs,re,rd,eG,fun ρ1 σ1 H1 f1 r1 q1=>⟨ρ1,S2,τ2,b,S3,r1,q1,eC,fun ρ2 H2 f2 r2=>?_⟩⟩
        cases b with
        | true =>
          rw [if_pos rfl] at e1 ⊢
          obtain ⟨y,S4,eE,e1⟩:=Res.bind_eq_ok e1
          cases e1
          simp only at e
          split at e
          · rename_i hlt
            refine ⟨ρ2,S3,τ2,y,S1,r2,q1.fut f2,eE,fun ρ3 v3 H3 f3 r3 q3=>⟨m,Nat.lt_succ_self m,?_⟩⟩
            have f13:=f1.trans (f2.trans f3)
            exact ⟨ρ3,S1,acc ++ [y],f.trans f13,r3,(q1.fut (f2.trans f3)).less less,(ra.fut f13).append (RelDs.cons q3 RelDs.nil),by omega,by rw [List.length_append]; exact hlt,e⟩
          · cases e
        | false =>
          rw [if_neg Bool.false_ne_true] at e1 ⊢
          cases e1
          simp only at e
          have f12:=f1.trans f2
          exact ⟨m,Nat.lt_succ_self m,ρ2,S1,acc,f.trans f12,r2,(q1.fut f2).less less,ra.fut f12,by omega,hl,e⟩
    · cases e
theorem comp_read {X:Cx} {N:List String} {k:Nat} {keep:List Nat} {tg it cd el:M} (hown:tgOwn k tg = true) {σ:L2.St} {H:Hp} {Q:VK} (h:tE X.K C (.comp N k keep tg it cd el) σ H Q):tComp k keep (tI X.K C it) (tG X.K C tg) (tC X.K C cd) (tE X.K C el) σ H Q:=by
  obtain ⟨ρ,S,τ,d,S',rs,re,e,fin⟩:=h
  simp only [revE_18] at e
  obtain ⟨w,S1,e1,e⟩:=Res.bind_eq_ok e
  obtain ⟨ys,S2,e2,e⟩:=Res.bind_eq_ok e
  cases e
  obtain ⟨g,ds⟩:=w
  refine ⟨ρ,S,τ,g,ds,S1,rs,re,e1,fun ρ1 H1 J f1 r1 itk=>?_⟩
  refine compW_of hown itk r1 ((re.fut f1).inner k keep) e2 fun ρ2 H2 xs f2 r2 q2=>?_
  exact Fin.newL (ρ:=ρ2) (fun ρ3 v3 H3 f3 r3 q3=>fin ρ3 v3 H3 (f1.trans (f2.trans f3)) r3 q3) r2 q2
theorem snd_comp {N:List String} {k:Nat} {keep:List Nat} {tg it cd el:M} (hg:Snd C tg) (hi:Snd C it) (hc:Snd C cd) (he:Snd C el):∀ (X:Cx) (c:Ck) (x:Expr),Gd X C c→chkE (.comp N k keep tg it cd el) c x = true→PE X x (tE X.K C (.comp N k keep tg it cd el)):=by
  intro X c x g h
  cases x<;>try (exact absurd h Bool.false_ne_true)
  rename_i elt gens scope pos
  rcases gens with _ | ⟨⟨t,i,fs,asy⟩,_ | ⟨g2,gens⟩⟩<;>try (exact absurd h Bool.false_ne_true)
  simp only [cE_22,Bool.and_eq_true,beq_iff_eq] at h
  obtain ⟨⟨⟨⟨⟨⟨⟨rfl,h1⟩,h2⟩,h3⟩,h4⟩,h5⟩,h6⟩,h7⟩:=h
  obtain ⟨pi,fs0⟩:=hi.i X c t i g h4 h7
  refine PE.imp (pe_comp (Ck.compOk g h1).1 g.calm pi (fun s₃ H ex pins=>hg.g _ _ _ (g.inner h1 s₃ H ex pins) h3) (fun s₃ H ex pins=>hc.cd _ _ _ (g.inner h1 s₃ H ex pins) h5) (fun s₃ H ex pins=>he.e _ _ _ (g.inner h1 s₃ H ex pins) h6) fs0) fun σ H Q q=>comp_read h2 q
end
end Mi
namespace Mi
open PySem L2
section
variable {C:Pr}
theorem notComp_none {e:Expr} {n:Nat} {env:Env} (h:isComp e = false):swapsWith e none n env = pure false:=by
  cases e<;>first | rfl | (simp [isComp] at h)
theorem notComp_some {e t:Expr} {n:Nat} {env:Env} (h:isComp e = false):swapsWith e (some t) n env = pure false:=by
  cases e<;>first | rfl | (simp [isComp] at h)
theorem swaps_name {e:Expr} {x:Str} {p:Pos} {n:Nat} {env:Env}:swapsWith e (some (.Name x p)) n env = pure true ∨ swapsWith e (some (.Name x p)) n env = pure false:=by
  have h:∃ b,swapsWith e (some (.Name x p)) n env = pure b:=by
    cases e<;>exact ⟨_,rfl⟩
  obtain ⟨b,h⟩:=h
  cases b
  · exact .inr h
  · exact .inl h
theorem swapped_none {t e:Expr} {env:Env} (h:∀ a b p,t = .Tuple a b p→∀ a' b' p',e ≠ .Tuple a' b' p') (hl:∀ a p,t ≠ .List a p):swappedStores [t] e env = pure none:=by
  cases t<;>first | rfl | exact absurd rfl (hl _ _) | skip
  rename_i a b p
  cases e<;>first | rfl | exact absurd rfl (h a b p rfl _ _ _)
theorem asg_read {K:PySem.W.Frag} {t e:M} {D:Ends} {σ:L2.St} {H:Hp} (h:tS K C (.asg t e) D σ H):tAsg (tE K C e) (tG K C t) D σ H:=by
  obtain ⟨ρ,S,τ,fl,S',rs,re,e0,fin⟩:=h
  simp only [revS_0] at e0
  obtain ⟨d,S1,e1,e0⟩:=Res.bind_eq_ok e0
  obtain ⟨τ1,S2,e2,e0⟩:=Res.bind_eq_ok e0
  cases e0
  exact ⟨ρ,S,τ,d,S1,rs,re,e1,fun ρ1 v1 H1 f1 r1 q1=>⟨ρ1,S1,τ,d,τ1,S',r1,re.fut f1,q1,e2,fun ρ2 σ2 H2 f2=>fin ρ2 σ2 H2 (f1.trans f2)⟩⟩
theorem chk_lc {e:M} {c:Ck} {elt:Expr} {gens:List Comprehension} {scope:Scope} {pos:Pos} (h:chkE e c (.ListComp elt gens scope pos) = true):∃ N k keep mg mi mc me,e = .comp N k keep mg mi mc me:=by
  cases e<;>first | exact ⟨_,_,_,_,_,_,_,rfl⟩ | (exact absurd h Bool.false_ne_true) | (rename_i d; cases d<;>exact absurd h Bool.false_ne_true) | (rename_i w _; cases w<;>exact absurd h Bool.false_ne_true)
theorem chk_sc {e:M} {c:Ck} {elt:Expr} {gens:List Comprehension} {scope:Scope} {pos:Pos}:¬ chkE e c (.SetComp elt gens scope pos) = true:=by
  intro h
  cases e<;>first | (exact absurd h Bool.false_ne_true) | (rename_i d; cases d<;>exact absurd h Bool.false_ne_true) | (rename_i w _; cases w<;>exact absurd h Bool.false_ne_true)
theorem chk_dc {e:M} {c:Ck} {k elt:Expr} {gens:List Comprehension} {scope:Scope} {pos:Pos}:¬ chkE e c (.DictComp k elt gens scope pos) = true:=by
  intro h
  cases e<;>first | (exact absurd h Bool.false_ne_true) | (rename_i d; cases d<;>exact absurd h Bool.false_ne_true) | (rename_i w _; cases w<;>exact absurd h Bool.false_ne_true)
theorem snd_asg {t e:M} (ht:Snd C t) (he:Snd C e) (hc:∀ N k keep tg it cd el,e = .comp N k keep tg it cd el→Snd C tg∧Snd C it∧Snd C cd∧Snd C el):∀ (X:Cx) (c:Ck) (x:Stmt),Gd X C c→chkS (.asg t e) c x = true→PS X x (tS X.K C (.asg t e)):=by
  intro X c x g h
  cases x<;>try (exact absurd h Bool.false_ne_true)
  rename_i tgs v pos
  rcases tgs with _ | ⟨tg,_ | ⟨t2,tgs⟩⟩<;>try (exact absurd h Bool.false_ne_true)
  simp only [cS_0,Bool.and_eq_true] at h
  obtain ⟨⟨h1,h2⟩,h3⟩:=h
  have one:(assignEach [tg] X.env).map (·.2) = [assign tg X.env]:=by rw [assign_cons (noStarG h1)]; rfl
  have nlist:∀ a p,tg ≠ .List a p:=by
    intro a p z
    subst z
    cases t<;>exact absurd h1 Bool.false_ne_true
  by_cases hn:∃ y p,tg = .Name y p
  · obtain ⟨y,p,rfl⟩:=hn
    rcases swaps_name (e:=v) (x:=y) (p:=p) (n:=pos.line) (env:=X.env) with hs | hs
    ·
      cases v<;>first | (exact absurd hs (by intro z; cases z)) | skip
      ·
        rename_i elt gens scope cpos
        cases t<;>try (exact absurd h1 Bool.false_ne_true)
        rename_i i
        obtain ⟨N,k,keep,mg,mi,mc,me,rfl⟩:=chk_lc h2
        obtain ⟨sg,si,sc,se⟩:=hc _ _ _ _ _ _ _ rfl
        rcases gens with _ | ⟨⟨tt,ii,fs,asy⟩,_ | ⟨g2,gens⟩⟩<;>try (exact absurd h2 Bool.false_ne_true)
        simp only [cE_22,Bool.and_eq_true,beq_iff_eq] at h2
        obtain ⟨⟨⟨⟨⟨⟨⟨rfl,k1⟩,k2⟩,k3⟩,k4⟩,k5⟩,k6⟩,k7⟩:=h2
        obtain ⟨pi,fs0⟩:=si.i X c tt ii g k4 k7
        simp only [cG_0,Bool.and_eq_true,beq_iff_eq] at h1
        obtain ⟨o1,o2⟩:=g.own h1.2
        refine PS.imp (ps_comp (i:=i) (wi:=tI X.K C mi) (g:=tG X.K C mg) (tc:=tC X.K C mc) (te:=tE X.K C me) g.nd (by rw [g.N]; exact h1.1) o1 o2 hs (Ck.compOk g k1).1 g.calm pi (fun s₃ H ex pins=>sg.g _ _ _ (g.inner k1 s₃ H ex pins) k3) (fun s₃ H ex pins=>sc.cd _ _ _ (g.inner k1 s₃ H ex pins) k5) (fun s₃ H ex pins=>se.e _ _ _ (g.inner k1 s₃ H ex pins) k6) fs0) fun D σ H q=>?_
        obtain ⟨ρ,S,τ,fl,S',rs,re,e0,fin⟩:=q
        refine comp_read (N:=N) k2 ⟨ρ,S,τ,?_⟩
        simp only [revE_18,revG_0,revS_0] at e0
        obtain ⟨d,S1,e1,e0⟩:=Res.bind_eq_ok e0
        obtain ⟨τ1,S2,e2,e0⟩:=Res.bind_eq_ok e0
        cases e0
        refine ⟨d,S1,rs,re,e1,fun ρ1 v1 H1 f1 r1 q1=>?_⟩
        split at e2
        · cases e2
          exact fin ρ1 _ H1 f1 r1 ((re.fut f1).set q1 i)
        · cases e2
      · exact absurd h2 chk_sc
      · exact absurd h2 chk_dc
    · cases t<;>try (exact absurd h1 Bool.false_ne_true)
      rename_i i
      simp only [cG_0,Bool.and_eq_true,beq_iff_eq] at h1
      obtain ⟨o1,o2⟩:=g.own h1.2
      refine PS.imp (ps_set (i:=i) g.nd (by rw [g.N]; exact h1.1) o1 (he.e X c _ g h2) hs o2) fun D σ H q=>?_
      obtain ⟨ρ,S,τ,fl,S',rs,re,e0,fin⟩:=q
      simp only [revG_0,revS_0] at e0
      obtain ⟨d,S1,e1,e0⟩:=Res.bind_eq_ok e0
      obtain ⟨τ1,S2,e2,e0⟩:=Res.bind_eq_ok e0
      cases e0
      refine ⟨ρ,S,τ,d,S1,rs,re,e1,fun ρ1 v1 H1 f1 r1 q1=>?_⟩
      split at e2
      · cases e2
        exact fin ρ1 _ H1 f1 r1 ((re.fut f1).set q1 i)
      · cases e2
  · have hv:isComp v = false:=by
      cases v<;>first | rfl | (exfalso; cases tg<;>first | (exact absurd ⟨_,_,rfl⟩ hn) | (exact absurd h3 Bool.false_ne_true))
    refine PS.imp (ps_asg (he.e X c _ g h2) (ht.g X c _ g h1) (by show swapsWith v (some tg) _ _ = _; exact notComp_some hv) (swapped_none (fun a b p z a' b' p' z'=>by subst z; subst z'; simp at h3) nlist) one) fun D σ H q=>asg_read q
theorem snd_ifs {t a b:M} (ht:Snd C t) (ha:Snd C a) (hb:Snd C b):∀ (X:Cx) (c:Ck) (x:Stmt),Gd X C c→chkS (.ifs t a b) c x = true→PS X x (tS X.K C (.ifs t a b)):=by
  intro X c x g h
  cases x<;>try (exact absurd h Bool.false_ne_true)
  simp only [cS_1,Bool.and_eq_true] at h
  refine PS.imp (ps_if (ht.t X c _ g h.1.1) (ha.b X c _ g h.1.2) (hb.b X c _ g h.2)) fun D σ H hq_=>?_
  obtain ⟨ρ,S,τ,fl,S',rs,re,e,fin⟩:=hq_
  simp only [revS_1] at e
  obtain ⟨k,S1,e1,e⟩:=Res.bind_eq_ok e
  refine ⟨ρ,S,τ,k,S1,rs,re,e1,fun ρ1 H1 f1 r1=>?_⟩
  have fin':FlOk X.K ρ1 H1 fl S' D:=by
    cases fl with
    | nx τ'=>exact fun ρ2 σ2 H2 f2=>fin ρ2 σ2 H2 (f1.trans f2)
    | rt d=>exact fun ρ2 σ2 H2 f2=>fin ρ2 σ2 H2 (f1.trans f2)
    | bk τ'=>exact fun ρ2 σ2 H2 f2=>fin ρ2 σ2 H2 (f1.trans f2)
    | ct τ'=>exact fun ρ2 σ2 H2 f2=>fin ρ2 σ2 H2 (f1.trans f2)
  cases k with
  | true=>exact iteT ⟨ρ1,S1,τ,fl,S',r1,re.fut f1,e,fin'⟩
  | false=>exact iteF ⟨ρ1,S1,τ,fl,S',r1,re.fut f1,e,fin'⟩
theorem FlOk.fut {K:PySem.W.Frag} {ρ ρ1:List Addr} {H H1:Hp} {fl:Fl} {S':Store} {D:Ends} (fin:FlOk K ρ H fl S' D) (f1:Fut K ρ H ρ1 H1):FlOk K ρ1 H1 fl S' D:=by
  cases fl with
  | nx τ'=>exact fun ρ2 σ2 H2 f2=>fin ρ2 σ2 H2 (f1.trans f2)
  | rt d=>exact fun ρ2 σ2 H2 f2=>fin ρ2 σ2 H2 (f1.trans f2)
  | bk τ'=>exact fun ρ2 σ2 H2 f2=>fin ρ2 σ2 H2 (f1.trans f2)
  | ct τ'=>exact fun ρ2 σ2 H2 f2=>fin ρ2 σ2 H2 (f1.trans f2)
theorem snd_for {t i b:M} (ht:Snd C t) (hi:Snd C i) (hb:Snd C b):∀ (X:Cx) (c:Ck) (x:Stmt),Gd X C c→chkS (.forr t i b) c x = true→PS X x (tS X.K C (.forr t i b)):=by
  intro X c x g h
  cases x<;>try (exact absurd h Bool.false_ne_true)
  rename_i tg iter body els pos
  cases els<;>try (exact absurd h Bool.false_ne_true)
  simp only [cS_2,Bool.and_eq_true] at h
  obtain ⟨pi,fs0⟩:=hi.i X c tg iter g h.1.1.2 h.2
  refine PS.imp (ps_for (by rw [g.xe]; exact PassesOwn.never) g.calm pi (ht.g X c _ g h.1.1.1) (hb.b X c _ g h.1.2) fs0) fun D σ H hq_=>?_
  obtain ⟨ρ,S,τ,fl,S',rs,re,e,fin⟩:=hq_
  simp only [revS_2] at e
  obtain ⟨w,S1,e1,e⟩:=Res.bind_eq_ok e
  obtain ⟨gg,ds⟩:=w
  refine ⟨ρ,S,τ,gg,ds,S1,rs,re,e1,fun ρ0 H0 J f0 r0 it=>?_⟩
  have fin0:=fin.fut f0
  let turn:Mi.D→En→Store→Res Fl:=fun d τ1 S2=>(evG C t d τ1 S2).bind fun τ2 S3=>evB C b τ2 S3
  have e:forL turn gg ds ds.length 0 τ S1 = .ok fl S':=e
  refine ⟨fun i m σ H=>∃ ρ S τ,Fut X.K ρ0 H0 ρ H∧RelS X.K ρ S H∧RelE X.K ρ H τ σ∧i + m = ds.length∧forL turn gg ds m i τ S = .ok fl S',⟨ds.length,ρ0,S1,τ,Fut.refl,r0,re.fut f0,Nat.zero_add _,e⟩,?_⟩
  rintro i m σ H ⟨ρ,S,τ,f,rs,re,hi,e⟩
  cases m with
  | zero =>
    simp only [forL] at e
    split at e
    · rename_i hs
      cases e
      refine .inl ⟨?_,fin0 ρ σ H f rs re⟩
      have:i = ds.length:=by omega
      rw [this]
      exact it.stop ρ H _ f rs hs
    · cases e
  | succ m =>
    simp only [forL] at e
    split at e
    · rename_i hs
      split at e
      · cases e
      · rename_i d hd
        obtain ⟨hgo,hy⟩:=it.go ρ H S i d f rs hs hd
        refine .inr ⟨hgo,fun σ' H'=>∃ ρ' S'' τ',Fut X.K ρ0 H0 ρ' H'∧RelS X.K ρ' S'' H'∧RelE X.K ρ' H' τ' σ'∧forL turn gg ds m (i + 1) τ' S'' = .ok fl S',fun σ' H' ⟨ρ',S'',τ',a1,a2,a3,a4⟩=>⟨m,Nat.lt_succ_self m,ρ',S'',τ',a1,a2,a3,by omega,a4⟩,fun x H' hyl=>?_⟩
        obtain ⟨f0,rs,rd⟩:=hy x H' hyl
        replace re:=re.fut f0
        replace f:=f.trans f0
        obtain ⟨fl1,S1,e1,e⟩:=Res.bind_eq_ok e
        obtain ⟨τ2,S2,eG,eB⟩:=Res.bind_eq_ok e1
        refine ⟨ρ,S,τ,d,τ2,S2,rs,re,rd,eG,fun ρ1 σ1 H1 f1 r1 q1=>⟨ρ1,S2,τ2,fl1,S1,r1,q1,eB,?_⟩⟩
        cases fl1 with
        | nx τ1=>exact fun ρ2 σ2 H2 f2 r2 q2=>⟨ρ2,S1,τ1,f.trans (f1.trans f2),r2,q2,e⟩
        | ct τ1=>exact fun ρ2 σ2 H2 f2 r2 q2=>⟨ρ2,S1,τ1,f.trans (f1.trans f2),r2,q2,e⟩
        | bk τ1 =>
          simp only at e
          cases e
          exact fun ρ2 σ2 H2 f2 r2 q2=>fin0 ρ2 σ2 H2 (f.trans (f1.trans f2)) r2 q2
        | rt d =>
          simp only at e
          cases e
          exact fun ρ2 v2 H2 f2 r2 q2=>fin0 ρ2 v2 H2 (f.trans (f1.trans f2)) r2 q2
    · cases e
theorem snd_whl {t b:M} (ht:Snd C t) (hb:Snd C b):∀ (X:Cx) (c:Ck) (x:Stmt),Gd X C c→chkS (.whl t b) c x = true→PS X x (tS X.K C (.whl t b)):=by
  intro X c x g h
  cases x<;>try (exact absurd h Bool.false_ne_true)
  rename_i tst body els pos
  cases els<;>try (exact absurd h Bool.false_ne_true)
  simp only [cS_3,Bool.and_eq_true] at h
  refine PS.imp (ps_while (by rw [g.xe]; exact PassesOwn.never) (ht.t X c _ g h.1) (hb.b X c _ g h.2)) fun D σ0 H0 hq_=>?_
  obtain ⟨ρ0,S,τ,fl,S',r0,re,e,fin0⟩:=hq_
  simp only [revS_3] at e
  refine ⟨fun m σ H=>∃ ρ S τ,Fut X.K ρ0 H0 ρ H∧RelS X.K ρ S H∧RelE X.K ρ H τ σ∧whlL (evT C t) (evB C b) m τ S = .ok fl S',⟨C.W,ρ0,S,τ,Fut.refl,r0,re,e⟩,?_⟩
  rintro m σ H ⟨ρ,S,τ,f,rs,re,e⟩
  cases m with
  | zero=>simp only [whlL] at e; cases e
  | succ m =>
    simp only [whlL] at e
    obtain ⟨k,S1,e1,e⟩:=Res.bind_eq_ok e
    refine ⟨ρ,S,τ,k,S1,rs,re,e1,fun ρ1 H1 f1 r1=>?_⟩
    cases k with
    | false =>
      rw [if_neg Bool.false_ne_true] at e
      refine iteF ?_
      cases e
      exact fin0 ρ1 σ H1 (f.trans f1) r1 (re.fut f1)
    | true =>
      rw [if_pos rfl] at e
      refine iteT ?_
      obtain ⟨fl1,S2,e2,e⟩:=Res.bind_eq_ok e
      refine ⟨fun σ' H'=>∃ ρ' S'' τ',Fut X.K ρ0 H0 ρ' H'∧RelS X.K ρ' S'' H'∧RelE X.K ρ' H' τ' σ'∧whlL (evT C t) (evB C b) m τ' S'' = .ok fl S',fun σ' H' ⟨ρ',S'',τ',a1,a2,a3,a4⟩=>⟨m,Nat.lt_succ_self m,ρ',S'',τ',a1,a2,a3,a4⟩,ρ1,S1,τ,fl1,S2,r1,re.fut f1,e2,?_⟩
      cases fl1 with
      | nx τ1=>exact fun ρ2 σ2 H2 f2 r2 q2=>⟨ρ2,S2,τ1,f.trans (f1.trans f2),r2,q2,e⟩
      | ct τ1=>exact fun ρ2 σ2 H2 f2 r2 q2=>⟨ρ2,S2,τ1,f.trans (f1.trans f2),r2,q2,e⟩
      | bk τ1 =>
        simp only at e
        cases e
        exact fun ρ2 σ2 H2 f2 r2 q2=>fin0 ρ2 σ2 H2 (f.trans (f1.trans f2)) r2 q2
      | rt d =>
        simp only at e
        cases e
        exact fun ρ2 v2 H2 f2 r2 q2=>fin0 ρ2 v2 H2 (f.trans (f1.trans f2)) r2 q2
theorem snd_ret {a:M} (ha:Snd C a):∀ (X:Cx) (c:Ck) (x:Stmt),Gd X C c→chkS (.ret a) c x = true→PS X x (tS X.K C (.ret a)):=by
  intro X c x g h
  cases x<;>try (exact absurd h Bool.false_ne_true)
  rename_i v pos
  cases v<;>try (exact absurd h Bool.false_ne_true)
  simp only [cS_4] at h
  refine PS.imp (ps_ret (ha.e X c _ g h)) fun D σ H hq_=>?_
  obtain ⟨ρ,S,τ,fl,S',rs,re,e,fin⟩:=hq_
  simp only [revS_4] at e
  obtain ⟨d,S1,e1,e⟩:=Res.bind_eq_ok e
  cases e
  exact ⟨ρ,S,τ,d,_,rs,re,e1,fin⟩
theorem snd_exp {a:M} (ha:Snd C a):∀ (X:Cx) (c:Ck) (x:Stmt),Gd X C c→chkS (.exp a) c x = true→PS X x (tS X.K C (.exp a)):=by
  intro X c x g h
  cases x<;>try (exact absurd h Bool.false_ne_true)
  simp only [cS_6,Bool.and_eq_true,Bool.not_eq_true'] at h
  refine PS.imp (ps_expr (ha.e X c _ g h.1) (notComp_none h.2)) fun D σ H hq_=>?_
  obtain ⟨ρ,S,τ,fl,S',rs,re,e,fin⟩:=hq_
  simp only [revS_6] at e
  obtain ⟨d,S1,e1,e⟩:=Res.bind_eq_ok e
  cases e
  exact ⟨ρ,S,τ,d,_,rs,re,e1,fun ρ1 v1 H1 f1 r1 q1=>fin ρ1 σ H1 f1 r1 (re.fut f1)⟩
theorem snd_b_nul:∀ (X:Cx) (c:Ck) (x:List Stmt),Gd X C c→chkB .nul c x = true→PSs X x (tB' X.K C .nul):=by
  intro X c x g h
  cases x with
  | cons s ss=>exact absurd h Bool.false_ne_true
  | nil =>
    refine PSs.imp pss_nil fun D σ H hq_=>?_
    obtain ⟨ρ,S,τ,fl,S',rs,re,e,fin⟩:=hq_
    simp only [revB_0] at e
    cases e
    exact fin ρ _ H Fut.refl rs re
theorem snd_b_cns {a b:M} (ha:Snd C a) (hb:Snd C b):∀ (X:Cx) (c:Ck) (x:List Stmt),Gd X C c→chkB (.cns a b) c x = true→PSs X x (tB' X.K C (.cns a b)):=by
  intro X c x g h
  cases x with
  | nil=>exact absurd h Bool.false_ne_true
  | cons s ss =>
    simp only [cB_1,Bool.and_eq_true] at h
    refine PSs.imp (pss_cons (ha.s X c _ g h.1) (hb.b X c _ g h.2)) fun D σ H hq_=>?_
    obtain ⟨ρ,S,τ,fl,S',rs,re,e,fin⟩:=hq_
    simp only [revB_1] at e
    obtain ⟨fl1,S1,e1,e⟩:=Res.bind_eq_ok e
    refine ⟨ρ,S,τ,fl1,S1,rs,re,e1,?_⟩
    cases fl1 with
    | nx τ1=>exact fun ρ1 σ1 H1 f1 r1 q1=>⟨ρ1,S1,τ1,fl,S',r1,q1,e,fin.fut f1⟩
    | rt d=>simp only at e; cases e; exact fin
    | bk τ1=>simp only at e; cases e; exact fin
    | ct τ1=>simp only at e; cases e; exact fin
end
end Mi
namespace Mi
open PySem L2
section
variable {C:Pr}
theorem snd_dnil:∀ (X:Cx) (c:Ck) (x:Expr),Gd X C c→chkE .dnil c x = true→PE X x (tE X.K C .dnil):=by
  intro X c x g h
  cases x<;>try (exact absurd h Bool.false_ne_true)
  rename_i ks vs pos
  rcases ks with _ | ⟨k,ks⟩<;>rcases vs with _ | ⟨v,vs⟩<;>try (exact absurd h Bool.false_ne_true)
  refine PE.imp pe_dnewK fun σ H Q hq_=>?_
  obtain ⟨ρ,S,τ,d,S',rs,re,e,fin⟩:=hq_
  simp only [revE_20] at e
  cases e
  intro p hp
  refine fin (ρ ++ [p]) _ _ (fut_new hp [p]) (rs.allocO hp ⟨[],upd_same,rfl⟩) ?_
  simp only [RelD]
  exact ⟨p,rfl,by rw [← rs.len]; simp⟩
theorem snd_rse:∀ (X:Cx) (c:Ck) (x:Stmt),Gd X C c→chkS .rse c x = true→PS X x (tS X.K C .rse):=by
  intro X c x g h pins s σ H D I hq_
  obtain ⟨ρ,S,τ,fl,S',rs,re,e,fin⟩:=hq_
  exact absurd e bad_ne
end
end Mi
namespace Mi
open PySem L2
noncomputable def kd:M→Nat
  | .nul=>0 | .cns _ _=>0
  | .rng _=>2 | .enm _=>2 | .zp _ _=>2
  | .tvar _=>3 | .ttup _=>3 | .tsub _ _=>3
  | .asg _ _=>4 | .ifs _ _ _=>4 | .forr _ _ _=>4 | .whl _ _=>4 | .ret _=>4 | .exp _=>4 | .rse=>4
  | _=>1
theorem kd_E {m:M} {c:Ck} {x:Expr} (h:chkE m c x = true):kd m = 1:=by
  cases m<;>first | rfl | (exact absurd h Bool.false_ne_true)
theorem kd_A {m:M} {c:Ck} {x:List Expr} (h:chkA m c x = true):kd m = 0:=by
  cases m<;>first | rfl | (exact absurd h Bool.false_ne_true)
theorem kd_O {m:M} {c:Ck} {x:Option Expr} (h:chkO m c x = true):kd m = 0:=by
  cases m<;>first | rfl | (exact absurd h Bool.false_ne_true)
theorem kd_C {m:M} {c:Ck} {x:List Expr} (h:chkC m c x = true):kd m = 0:=by
  cases m<;>first | rfl | (exact absurd h Bool.false_ne_true)
theorem kd_I {m:M} {c:Ck} {x:Expr} (h:chkI m c x = true):kd m = 0 ∨ kd m = 2:=by
  cases m<;>first | exact .inl rfl | exact .inr rfl | (exact absurd h Bool.false_ne_true) | (cases x<;>exact absurd h Bool.false_ne_true)
theorem kd_G {m:M} {c:Ck} {x:Expr} (h:chkG m c x = true):kd m = 3:=by
  cases m<;>first | rfl | (exact absurd h Bool.false_ne_true) | (cases x<;>exact absurd h Bool.false_ne_true)
theorem kd_Gs {m:M} {c:Ck} {x:List Expr} (h:chkGs m c x = true):kd m = 0:=by
  cases m<;>first | rfl | (exact absurd h Bool.false_ne_true)
theorem kd_S {m:M} {c:Ck} {x:Stmt} (h:chkS m c x = true):kd m = 4:=by
  cases m<;>first | rfl | (exact absurd h Bool.false_ne_true) | (cases x<;>exact absurd h Bool.false_ne_true)
theorem kd_B {m:M} {c:Ck} {x:List Stmt} (h:chkB m c x = true):kd m = 0:=by
  cases m<;>first | rfl | (exact absurd h Bool.false_ne_true)
section
variable {C:Pr}
theorem Snd.ofE {m:M} (hk:kd m = 1) (he:∀ (X:Cx) (c:Ck) (x:Expr),Gd X C c→chkE m c x = true→PE X x (tE X.K C m)) (ht:∀ (X:Cx) (c:Ck) (x:Expr),Gd X C c→chkE m c x = true→PT X x (tT X.K C m)):Snd C m where
  e:=he
  t:=ht
  a:=fun X c x g h=>absurd ((kd_A h).symm.trans hk) (by decide)
  bv:=fun X c w x p g h=>absurd ((kd_A h).symm.trans hk) (by decide)
  bt:=fun X c w x p g h=>absurd ((kd_A h).symm.trans hk) (by decide)
  o:=fun X c x g h=>absurd ((kd_O h).symm.trans hk) (by decide)
  cd:=fun X c x g h=>absurd ((kd_C h).symm.trans hk) (by decide)
  i:=fun X c tg x g h _=>(kd_I h).elim (fun z=>absurd (z.symm.trans hk) (by decide)) (fun z=>absurd (z.symm.trans hk) (by decide))
  g:=fun X c x g h=>absurd ((kd_G h).symm.trans hk) (by decide)
  gs:=fun X c x g h=>absurd ((kd_Gs h).symm.trans hk) (by decide)
  s:=fun X c x g h=>absurd ((kd_S h).symm.trans hk) (by decide)
  b:=fun X c x g h=>absurd ((kd_B h).symm.trans hk) (by decide)
theorem Snd.ofI {m:M} (hk:kd m = 2) (hi:∀ (X:Cx) (c:Ck) (tg x:Expr),Gd X C c→chkI m c x = true→itT m tg = true→PI X tg x (tI X.K C m)∧∀ v,foldedSetIterable x X.env v = pure v):Snd C m where
  e:=fun X c x g h=>absurd ((kd_E h).symm.trans hk) (by decide)
  t:=fun X c x g h=>absurd ((kd_E h).symm.trans hk) (by decide)
  a:=fun X c x g h=>absurd ((kd_A h).symm.trans hk) (by decide)
  bv:=fun X c w x p g h=>absurd ((kd_A h).symm.trans hk) (by decide)
  bt:=fun X c w x p g h=>absurd ((kd_A h).symm.trans hk) (by decide)
  o:=fun X c x g h=>absurd ((kd_O h).symm.trans hk) (by decide)
  cd:=fun X c x g h=>absurd ((kd_C h).symm.trans hk) (by decide)
  i:=hi
  g:=fun X c x g h=>absurd ((kd_G h).symm.trans hk) (by decide)
  gs:=fun X c x g h=>absurd ((kd_Gs h).symm.trans hk) (by decide)
  s:=fun X c x g h=>absurd ((kd_S h).symm.trans hk) (by decide)
  b:=fun X c x g h=>absurd ((kd_B h).symm.trans hk) (by decide)
theorem Snd.ofG {m:M} (hk:kd m = 3) (hg:∀ (X:Cx) (c:Ck) (x:Expr),Gd X C c→chkG m c x = true→PG X x (tG X.K C m)):Snd C m where
  e:=fun X c x g h=>absurd ((kd_E h).symm.trans hk) (by decide)
  t:=fun X c x g h=>absurd ((kd_E h).symm.trans hk) (by decide)
  a:=fun X c x g h=>absurd ((kd_A h).symm.trans hk) (by decide)
  bv:=fun X c w x p g h=>absurd ((kd_A h).symm.trans hk) (by decide)
  bt:=fun X c w x p g h=>absurd ((kd_A h).symm.trans hk) (by decide)
  o:=fun X c x g h=>absurd ((kd_O h).symm.trans hk) (by decide)
  cd:=fun X c x g h=>absurd ((kd_C h).symm.trans hk) (by decide)
  i:=fun X c tg x g h _=>(kd_I h).elim (fun z=>absurd (z.symm.trans hk) (by decide)) (fun z=>absurd (z.symm.trans hk) (by decide))
  g:=hg
  gs:=fun X c x g h=>absurd ((kd_Gs h).symm.trans hk) (by decide)
  s:=fun X c x g h=>absurd ((kd_S h).symm.trans hk) (by decide)
  b:=fun X c x g h=>absurd ((kd_B h).symm.trans hk) (by decide)
theorem Snd.ofS {m:M} (hk:kd m = 4) (hs:∀ (X:Cx) (c:Ck) (x:Stmt),Gd X C c→chkS m c x = true→PS X x (tS X.K C m)):Snd C m where
  e:=fun X c x g h=>absurd ((kd_E h).symm.trans hk) (by decide)
  t:=fun X c x g h=>absurd ((kd_E h).symm.trans hk) (by decide)
  a:=fun X c x g h=>absurd ((kd_A h).symm.trans hk) (by decide)
  bv:=fun X c w x p g h=>absurd ((kd_A h).symm.trans hk) (by decide)
  bt:=fun X c w x p g h=>absurd ((kd_A h).symm.trans hk) (by decide)
  o:=fun X c x g h=>absurd ((kd_O h).symm.trans hk) (by decide)
  cd:=fun X c x g h=>absurd ((kd_C h).symm.trans hk) (by decide)
  i:=fun X c tg x g h _=>(kd_I h).elim (fun z=>absurd (z.symm.trans hk) (by decide)) (fun z=>absurd (z.symm.trans hk) (by decide))
  g:=fun X c x g h=>absurd ((kd_G h).symm.trans hk) (by decide)
  gs:=fun X c x g h=>absurd ((kd_Gs h).symm.trans hk) (by decide)
  s:=hs
  b:=fun X c x g h=>absurd ((kd_B h).symm.trans hk) (by decide)
theorem snd_nul:Snd C .nul where
  e:=fun X c x g h=>absurd (kd_E h) (by decide)
  t:=fun X c x g h=>absurd (kd_E h) (by decide)
  a:=fun X c x g h=>by
    cases x with
    | cons e es=>exact absurd h Bool.false_ne_true
    | nil =>
      refine PA.imp pa_nil fun σ H Q hq_=>?_
      obtain ⟨ρ,S,τ,ds,S',rs,re,e,fin⟩:=hq_
      simp only [revA_0] at e
      cases e
      exact fin ρ [] H Fut.refl rs RelDs.nil
  bv:=fun X c w x p g h=>pe_no fun σ H Q ⟨ρ,S,τ,ds,S',rs,re,e,fin⟩=>absurd e bad_ne
  bt:=fun X c w x p g h=>fun wh pins s σ H Q I ⟨ρ,S,τ,ds,S',rs,re,e,fin⟩=>absurd e bad_ne
  o:=fun X c x g h=>by
    cases x with
    | some e=>exact absurd h Bool.false_ne_true
    | none =>
      refine PO.imp po_none fun σ H Q hq_=>?_
      obtain ⟨ρ,S,τ,ds,S',rs,re,e,fin⟩:=hq_
      simp only [revO_0] at e
      cases e
      exact fin ρ H Fut.refl rs
  cd:=fun X c x g h=>by
    cases x with
    | cons e es=>exact absurd h Bool.false_ne_true
    | nil =>
      refine PTs.imp pts_nil fun σ H Q hq_=>?_
      obtain ⟨ρ,S,τ,ds,S',rs,re,e,fin⟩:=hq_
      simp only [revC_0] at e
      cases e
      exact fin ρ H Fut.refl rs
  i:=fun X c tg x g h _=>by cases h
  g:=fun X c x g h=>absurd (kd_G h) (by decide)
  gs:=snd_gs_nul
  s:=fun X c x g h=>absurd (kd_S h) (by decide)
  b:=snd_b_nul
theorem snd_cns {a b:M} (ha:Snd C a) (hb:Snd C b):Snd C (.cns a b) where
  e:=fun X c x g h=>absurd (show 0 = 1 from kd_E h) (by decide)
  t:=fun X c x g h=>absurd (show 0 = 1 from kd_E h) (by decide)
  a:=fun X c x g h=>by
    cases x with
    | nil=>exact absurd h Bool.false_ne_true
    | cons e es =>
      simp only [cA_1,Bool.and_eq_true] at h
      refine PA.imp (pa_cons (ha.e X c e g h.1) (hb.a X c es g h.2) (star_cons (noStar h.1))) fun σ H Q hq_=>?_
      obtain ⟨ρ,S,τ,ds,S',rs,re,e,fin⟩:=hq_
      simp only [revA_1] at e
      obtain ⟨x1,S1,e1,e⟩:=Res.bind_eq_ok e
      obtain ⟨xs,S2,e2,e⟩:=Res.bind_eq_ok e
      cases e
      refine ⟨ρ,S,τ,x1,S1,rs,re,e1,fun ρ1 v1 H1 f1 r1 q1=>⟨ρ1,S1,τ,xs,S',r1,re.fut f1,e2,fun ρ2 vs H2 f2 r2 q2=>?_⟩⟩
      exact fin ρ2 _ H2 (f1.trans f2) r2 (RelDs.cons (q1.fut f2) q2)
  bv:=snd_bv ha hb
  bt:=snd_bt ha hb
  o:=fun X c x g h=>by
    cases x with
    | none=>cases b<;>exact absurd h Bool.false_ne_true
    | some e =>
      cases b<;>try (exact absurd h Bool.false_ne_true)
      refine PO.imp (po_some (ha.e X c e g h)) fun σ H Q hq_=>?_
      obtain ⟨ρ,S,τ,o,S',rs,re,e,fin⟩:=hq_
      simp only [revO_1] at e
      obtain ⟨x1,S1,e1,e⟩:=Res.bind_eq_ok e
      refine ⟨ρ,S,τ,x1,S1,rs,re,e1,fun ρ1 v1 H1 f1 r1 q1=>?_⟩
      cases x1<;>simp only at e<;>try (cases e; done)
      cases e
      exact ⟨_,q1.int_inv,fin ρ1 H1 f1 r1⟩
  cd:=fun X c x g h=>by
    rcases x with _ | ⟨e,_ | ⟨e2,es⟩⟩<;>cases b<;>try (exact absurd h Bool.false_ne_true)
    refine PTs.imp (pts_one (ha.t X c e g h)) fun σ H Q hq_=>?_
    obtain ⟨ρ,S,τ,o,S',rs,re,e,fin⟩:=hq_
    simp only [revC_1] at e
    exact ⟨ρ,S,τ,o,S',rs,re,e,fin⟩
  i:=fun X c tg x g h _=>by
    cases b<;>(try (exact absurd h Bool.false_ne_true))<;>try simp only [cI_2] at h
    exact ⟨snd_i_seq ha X c tg x g h,foldset (noSet h)⟩
  g:=fun X c x g h=>absurd (show 0 = 3 from kd_G h) (by decide)
  gs:=snd_gs_cns ha hb
  s:=fun X c x g h=>absurd (show 0 = 4 from kd_S h) (by decide)
  b:=snd_b_cns ha hb
theorem snd (C:Pr):∀ m:M,Snd C m∧∀ N k keep tg it cd el,m = .comp N k keep tg it cd el→Snd C tg∧Snd C it∧Snd C cd∧Snd C el:=by
  intro m
  have noT:∀ {m:M},(∀ τ S,evT C m τ S = .bad)→∀ (X:Cx) (c:Ck) (x:Expr),Gd X C c→chkE m c x = true→PT X x (tT X.K C m):=fun h X c x _ _=>pt_no (tT_no h)
  induction m with
  | nul=>exact ⟨snd_nul,fun _ _ _ _ _ _ _ h=>(by cases h)⟩
  | cns a b ha hb=>exact ⟨snd_cns ha.1 hb.1,fun _ _ _ _ _ _ _ h=>(by cases h)⟩
  | cst d=>exact ⟨.ofE rfl snd_cst (noT fun τ S=>rfl),fun _ _ _ _ _ _ _ h=>(by cases h)⟩
  | var i=>exact ⟨.ofE rfl (fun X c x g h=>(snd_var X c x g h).1) fun X c x g h=>(snd_var X c x g h).2,fun _ _ _ _ _ _ _ h=>(by cases h)⟩
  | glb x=>exact ⟨.ofE rfl snd_glb (noT fun τ S=>rfl),fun _ _ _ _ _ _ _ h=>(by cases h)⟩
  | bin o a b ha hb=>exact ⟨.ofE rfl (snd_bin ha.1 hb.1) (noT fun τ S=>rfl),fun _ _ _ _ _ _ _ h=>(by cases h)⟩
  | neg a ha=>exact ⟨.ofE rfl (snd_neg ha.1) (noT fun τ S=>rfl),fun _ _ _ _ _ _ _ h=>(by cases h)⟩
  | nott a ha=>exact ⟨.ofE rfl (fun X c x g h=>(snd_not ha.1 X c x g h).1) fun X c x g h=>(snd_not ha.1 X c x g h).2,fun _ _ _ _ _ _ _ h=>(by cases h)⟩
  | bo w as ha=>exact ⟨.ofE rfl (fun X c x g h=>(snd_bo ha.1 X c x g h).1) fun X c x g h=>(snd_bo ha.1 X c x g h).2,fun _ _ _ _ _ _ _ h=>(by cases h)⟩
  | cmp o a b ha hb=>exact ⟨.ofE rfl (fun X c x g h=>(snd_cmp ha.1 hb.1 X c x g h).1) fun X c x g h=>(snd_cmp ha.1 hb.1 X c x g h).2,fun _ _ _ _ _ _ _ h=>(by cases h)⟩
  | cmp2 o p a b d ha hb hd=>exact ⟨.ofE rfl (fun X c x g h=>(snd_cmp2 ha.1 hb.1 hd.1 X c x g h).1) fun X c x g h=>(snd_cmp2 ha.1 hb.1 hd.1 X c x g h).2,fun _ _ _ _ _ _ _ h=>(by cases h)⟩
  | ife t a b ht ha hb=>exact ⟨.ofE rfl (snd_ife ht.1 ha.1 hb.1) (noT fun τ S=>rfl),fun _ _ _ _ _ _ _ h=>(by cases h)⟩
  | tup as ha=>exact ⟨.ofE rfl (snd_tup ha.1) (noT fun τ S=>rfl),fun _ _ _ _ _ _ _ h=>(by cases h)⟩
  | lst as ha=>exact ⟨.ofE rfl (snd_lst ha.1) (noT fun τ S=>rfl),fun _ _ _ _ _ _ _ h=>(by cases h)⟩
  | idx a b ha hb=>exact ⟨.ofE rfl (fun X c x g h=>(snd_idx ha.1 hb.1 X c x g h).1) fun X c x g h=>(snd_idx ha.1 hb.1 X c x g h).2,fun _ _ _ _ _ _ _ h=>(by cases h)⟩
  | sli a l u ha hl hu=>exact ⟨.ofE rfl (snd_sli ha.1 hl.1 hu.1) (noT fun τ S=>rfl),fun _ _ _ _ _ _ _ h=>(by cases h)⟩
  | call f as ha=>exact ⟨.ofE rfl (fun X c x g h=>(snd_call ha.1 X c x g h).1) fun X c x g h=>(snd_call ha.1 X c x g h).2,fun _ _ _ _ _ _ _ h=>(by cases h)⟩
  | prim p as ha=>exact ⟨.ofE rfl (fun X c x g h=>(snd_prim ha.1 X c x g h).1) fun X c x g h=>(snd_prim ha.1 X c x g h).2,fun _ _ _ _ _ _ _ h=>(by cases h)⟩
  | isi a t ha=>exact ⟨.ofE rfl (fun X c x g h=>(snd_isi ha.1 X c x g h).1) fun X c x g h=>(snd_isi ha.1 X c x g h).2,fun _ _ _ _ _ _ _ h=>(by cases h)⟩
  | meth p o as ho ha=>exact ⟨.ofE rfl (snd_meth ho.1 ha.1) (snd_methT ho.1 ha.1),fun _ _ _ _ _ _ _ h=>(by cases h)⟩
  | comp N k keep tg it cd el hg hi hc he=>exact ⟨.ofE rfl (snd_comp hg.1 hi.1 hc.1 he.1) (noT fun τ S=>rfl),fun _ _ _ _ _ _ _ h=>(by cases h; exact ⟨hg.1,hi.1,hc.1,he.1⟩)⟩
  | rng a ha=>exact ⟨.ofI rfl fun X c tg x g h _=>⟨snd_i_rng ha.1 X c tg x g h,foldset fun a b p z=>by subst z; cases h⟩,fun _ _ _ _ _ _ _ h=>(by cases h)⟩
  | zp a b ha hb=>exact ⟨.ofI rfl fun X c tg x g h ht=>⟨snd_i_zip ha.1 hb.1 X c tg x g h ht,foldset fun a b p z=>by subst z; cases h⟩,fun _ _ _ _ _ _ _ h=>(by cases h)⟩
  | enm a ha=>exact ⟨.ofI rfl fun X c tg x g h ht=>⟨snd_i_enm ha.1 X c tg x g h ht,foldset fun a b p z=>by subst z; cases h⟩,fun _ _ _ _ _ _ _ h=>(by cases h)⟩
  | dnil=>exact ⟨.ofE rfl snd_dnil (noT fun τ S=>rfl),fun _ _ _ _ _ _ _ h=>(by cases h)⟩
  | rse=>exact ⟨.ofS rfl snd_rse,fun _ _ _ _ _ _ _ h=>(by cases h)⟩
  | tvar i=>exact ⟨.ofG rfl snd_g_var,fun _ _ _ _ _ _ _ h=>(by cases h)⟩
  | ttup ts ha=>exact ⟨.ofG rfl (snd_g_tup ha.1),fun _ _ _ _ _ _ _ h=>(by cases h)⟩
  | tsub a b ha hb=>exact ⟨.ofG rfl (snd_g_sub ha.1 hb.1),fun _ _ _ _ _ _ _ h=>(by cases h)⟩
  | asg t e ht he=>exact ⟨.ofS rfl (snd_asg ht.1 he.1 he.2),fun _ _ _ _ _ _ _ h=>(by cases h)⟩
  | ifs t a b ht ha hb=>exact ⟨.ofS rfl (snd_ifs ht.1 ha.1 hb.1),fun _ _ _ _ _ _ _ h=>(by cases h)⟩
  | forr t i b ht hi hb=>exact ⟨.ofS rfl (snd_for ht.1 hi.1 hb.1),fun _ _ _ _ _ _ _ h=>(by cases h)⟩
  | whl t b ht hb=>exact ⟨.ofS rfl (snd_whl ht.1 hb.1),fun _ _ _ _ _ _ _ h=>(by cases h)⟩
  | ret a ha=>exact ⟨.ofS rfl (snd_ret ha.1),fun _ _ _ _ _ _ _ h=>(by cases h)⟩
  | exp a ha=>exact ⟨.ofS rfl (snd_exp ha.1),fun _ _ _ _ _ _ _ h=>(by cases h)⟩
end
end Mi
namespace Mi
open PySem L2
noncomputable def Cn (T:Tb) (G:String→Option D) (W n:Nat):Pr:=⟨callN T G W n,G,W⟩
structure FnB (K:PySem.W.Frag) (T:Tb) (B F:List String) (O:Ow) (f:String) (a:Addr) (fd:FuncData):Prop where
  ex:∃ (FN:Fn) (st:Stmt) (nm ql:Str),T f = some FN∧Fun K nm ql st a fd∧FnScope (FN.N.map Str.ofString) (FN.ps.map Str.ofString) (defScope st) ∧
    chkB FN.body ⟨FN.N.map Str.ofString,(defScope st).names,true,B,F,O⟩ (defBody st) = true∧∀ us:List Value,us.length = (FN.ps.map Str.ofString).length→bindArgs fd ⟨us,[]⟩ = pure ((FN.ps.map Str.ofString).zip us)
structure Txt (K:PySem.W.Frag) (mg:Str→Option Value) (T:Tb) (G:String→Option D) (B F:List String) (O:Ow):Prop where
  fns:∀ f ∈ F,∃ a fd,FnB K T B F O f a fd∧mg (Str.ofString f) = some (.ref a)
  blt:∀ x ∈ B,mg (Str.ofString x) = none
  gl:∀ x d,G x = some d→∃ v u,mg (Str.ofString x) = some u∧RelV v u∧(∀ ρ H,RelD K ρ H d v)∧∀ ds,d = .tup ds→∃ a o,v = .ref a∧K.lookup a = some o∧o.cls = .type "tuple"∧o.dict = none
  mts:∀ c m f,(c,m,f) ∈ O.mt→∃ a fd Ca,FnB K T B F O f a fd∧PySem.W.nsIn K mainGlobals (Str.ofString c) = some (some (.ref Ca))∧L2.Cls K Ca∧L2.Meth K Ca (Str.ofString m) a∧L2.MethB K (Str.ofString m) a
  fds:∀ c f,(c,f) ∈ O.fd→∃ Ca,PySem.W.nsIn K mainGlobals (Str.ofString c) = some (some (.ref Ca))∧L2.Cls K Ca∧L2.NoAttr K Ca (Str.ofString f)
  nws:∀ c f,(c,f) ∈ O.nw→∃ a fd Ca,FnB K T B F O f a fd∧PySem.W.nsIn K mainGlobals (Str.ofString c) = some (some (.ref Ca))∧mg (Str.ofString c) = some (.ref Ca)∧L2.Mk K Ca a
section
variable {P:Program} {w:World} {K:PySem.W.Frag} {mg:Str→Option Value} {base:Heap} {T:Tb} {G:String→Option D} {B F:List String} {O:Ow}
theorem RelE.start {ρ:List Addr} {H:Hp} {ds:List D} {vs:List V} {N:List Str} {k:Nat} (r:RelDs K ρ H ds vs) (hk:k = N.length - ds.length):RelE K ρ H (ds.map some ++ List.replicate k none) (L2.start N vs):=by
  unfold L2.start
  rw [← r.length,← hk]
  refine ⟨by simp [r.length],fun i d h=>?_⟩
  by_cases hi:i < ds.length
  · rw [List.getElem?_append_left (by simpa using hi),List.getElem?_map] at h
    rw [List.getElem?_append_left (by rw [List.length_map,← r.length]; exact hi),List.getElem?_map]
    cases e:ds[i]? with
    | none=>rw [e] at h; cases h
    | some d' =>
      rw [e] at h
      have h:d' = d:=by simpa using h
      subst h
      obtain ⟨v,hv,q⟩:=r.get e
      exact ⟨v,by rw [hv]; rfl,q⟩
  · rw [List.getElem?_append_right (by simpa using hi),List.getElem?_replicate] at h
    split at h<;>cases h
theorem fn_ok (t:Txt K mg T G B F O) (W:Nat):∀ (n:Nat) (f:String) (a:Addr) (fd:FuncData),FnB K T B F O f a fd→∀ FN,T f = some FN→FnOk P w K mg base CX0 (2 * n) a fd (FN.ps.map Str.ofString) (spM K (Cn T G W n) f):=by
  intro n
  induction n with
  | zero =>
    intro f a fd hf FN hT
    exact ⟨fun vs H Q E ⟨ρ,S,ds,d,S',_,_,e,_⟩=>(by simp only [Cn,callN] at e; cases e),fun A outer s H args us vs Q E _ _ _ _ ⟨ρ,S,ds,d,S',_,_,e,_⟩=>(by simp only [Cn,callN] at e; cases e)⟩
  | succ n ih =>
    intro f a fd hf FN hT
    obtain ⟨FN',st,nm,ql,hT',FU,sc,ck,bd⟩:=hf.ex
    rw [hT] at hT'
    cases hT'
    show FnOk P w K mg base CX0 (2 * n + 1 + 1) a fd _ _
    refine FU.ok sc (fun vs H Q E ⟨ρ,S,ds,d,S',_,rd,e,_⟩=>?_) (fun cdv A outer s H vs Q E hr ⟨ρ,S,ds,d,S',rs,rd,e,fin⟩=>?_)
    · simp only [Cn,callN] at e
      rw [hT] at e
      simp only at e
      split at e
      · rename_i hl
        rw [← rd.length,hl,List.length_map]
      · cases e
    · refine ⟨_,((snd (Cn T G W n) FN.body).1.b _ ⟨FN.N.map Str.ofString,(defScope st).names,true,B,F,O⟩ _ ⟨rfl,sc.nd,rfl,sc.kind,fun _=>rfl,rfl,rfl,?_⟩ ck),?_⟩
      · refine ⟨fun g hg=>?_,t.blt,t.gl,Nat.lt_of_le_of_lt (Nat.le_refl _) hr.units,fun c m g hg=>?_,t.fds,fun c g hg=>?_⟩
        · obtain ⟨b,fd2,hb,hmg⟩:=t.fns g hg
          obtain ⟨FN2,st2,nm2,ql2,hT2,FU2,sc2,ck2,bd2⟩:=id hb.ex
          exact ⟨2 * n,b,fd2,_,hr.mono (Nat.le_succ _),hmg,ih g b fd2 hb FN2 hT2,.all bd2,FU2.kp⟩
        · obtain ⟨b,fd2,Ca,hb,h1,h2,h3,h4⟩:=t.mts c m g hg
          obtain ⟨FN2,st2,nm2,ql2,hT2,FU2,sc2,ck2,bd2⟩:=id hb.ex
          exact ⟨2 * n,b,fd2,_,Ca,hr,h1,h2,h3,h4,ih g b fd2 hb FN2 hT2,.all bd2⟩
        · obtain ⟨b,fd2,Ca,hb,h1,h2,h3⟩:=t.nws c g hg
          obtain ⟨FN2,st2,nm2,ql2,hT2,FU2,sc2,ck2,bd2⟩:=id hb.ex
          exact ⟨2 * n,b,fd2,_,Ca,hr,h1,h2,h3,ih g b fd2 hb FN2 hT2,.all bd2⟩
      · simp only [Cn,callN] at e
        rw [hT] at e
        simp only at e
        split at e
        · rename_i hl
          obtain ⟨fl,S1,e1,e⟩:=Res.bind_eq_ok e
          refine ⟨ρ,S,_,fl,S1,rs,RelE.start rd (by rw [List.length_map]),e1,?_⟩
          cases fl with
          | nx τ=>simp only at e; cases e; exact fun ρ1 σ1 H1 f1 r1 q1=>fin ρ1 _ H1 f1 r1 RelD.non
          | rt d=>simp only at e; cases e; exact fin
          | bk τ=>simp only at e; cases e
          | ct τ=>simp only at e; cases e
        · cases e
theorem law_sp {T:Tb} {G:String→Option D} {W n:Nat} (h:∀ ns:List Int,ns.length ≤ 63→∃ S',callN T G W n "law" [.kl (ns.map D.int)] [] = .ok (.bl true) S') (H:Hp) (a:Addr) (ns:List Int) (hl:ns.length ≤ 63) (hO:Only H) (hS:SqL K H a (ns.map V.int)) (E:XK) :
    spM K (Cn T G W n) "law" [.ref a] H (fun v _=>v = .bl true) E:=by
  obtain ⟨S',e⟩:=h ns hl
  have allI:∀ (ns:List Int),RelDs K [] H (ns.map D.int) (ns.map V.int):=by
    intro ns
    induction ns with
    | nil=>exact RelDs.nil
    | cons i r ih=>exact RelDs.cons (RelD.int i) ih
  have sf:SqF K H a (ns.map V.int):=by
    rcases hS with (h | h) | h
    · rcases hO a with z | ⟨o,xs,z⟩
      · rw [h] at z; cases z
      · rw [h] at z; cases z
    · exact .inl h
    · exact .inr h
  refine ⟨[],[],[.kl (ns.map D.int)],.bl true,S',⟨rfl,List.nodup_nil,fun l b o h=>by simp at h⟩,RelDs.cons ?_ RelDs.nil,e,fun ρ' v H' _ _ q=>q.bl_inv⟩
  simp only [RelD]
  exact ⟨a,_,rfl,sf,allI ns⟩
end
theorem walk {l:PySem.W.OpenLaw} {q:Program} {loose:List Str} {XP:(Str→Option Value)→Heap→Prop} {YP:World→Heap→Prop} {d:DefRec} {K:Params→PySem.W.Frag} {T:Tb} {G:String→Option D} {B F:List String} {O:Ow} {x:String} {W n:Nat} (hn:l.most = some 63) (hdf:d.params.defaults = [])
    (hY:∀ (w:World) (h:Heap),YP w h→(K w.params).In h) (hr:Room (2 * n) callerA) (hd:d.name = Str.ofString "law") (hlaw:"law" ∈ F) (hT:∃ FN,T "law" = some FN∧FN.ps = [x])
    (X:∀ (w:World) (mg:Str→Option Value) (h:Heap),(K w.params).In h→h.Ns mainGlobals mg→Txt (K w.params) mg T G B F O)
    (run:∀ ns:List Int,ns.length ≤ 63→∃ S',callN T G W n "law" [.kl (ns.map D.int)] [] = .ok (.bl true) S') :
    PySem.W.WalkO q loose XP YP l.row.toRowW d [] (fun f vs=>PySem.call f vs):=by
  refine L2.walk_of (n:=63) (k:=2 * n) (x:=Str.ofString x) (CX:=fun _=>CX0) (sp:=fun w=>spM (K w.params) (Cn T G W n) "law") hn (by decide) hdf hr hY (fun w mg fa h KX hns hmg=>?_) (fun w H a ns hl hO hS=>law_sp run H a ns hl hO hS _) fun _ _ _ _ _ z=>z
  have t:=X w mg h KX hns
  obtain ⟨a,fd,hf,hlm⟩:=t.fns "law" hlaw
  obtain ⟨FN,hT,hps⟩:=hT
  obtain ⟨FN',st,nm,ql,hT',FU,sc,ck,bd⟩:=id hf.ex
  rw [hT] at hT'
  cases hT'
  rw [hd,hlm] at hmg
  cases hmg
  refine ⟨fd,fun s u=>?_,fun base kb nb=>?_⟩
  · have:=bd [u] (by rw [hps]; rfl)
    rw [hps] at this
    exact .of_eq this
  · have:=fn_ok (P:=l.prog) (w:=w) (base:=base) t W n "law" fa fd hf FN hT
    rw [hps] at this
    exact this
theorem holds {l:PySem.W.OpenLaw} {q:Program} {d:DefRec} {K:Params→PySem.W.Frag} {as:List Addr} {N:Nat} {loose:List Str} (ok:l.wellSaid = true) (e:∀ P,as = (K P).map (·.1))
    (left:PySem.W.LeftO l.prog q loose (fun s=>PySem.W.xlAt q [] s && PySem.W.recOk [] s) (fun s=>as.map s.heap.get?) (fun w=>(K w.params).map fun p=>some p.2) N)
    (hdef:PySem.W.defOf q l.name = some (d,[])) (hp:l.prog.theDef l.name = some (d.params,d.body,d.scope)) (hk:PySem.W.kwWritten? d.params.kwonlyargs d.params.kw_defaults = some [])
    (ok2:(PySem.W.chainsOk q && PySem.W.opensWell l.prog && (PySem.W.frees l.row.toRowW && l.row.within.isEmpty)) = true) (hb:l.prog.bare) (hw:l.row.toRowW.promised)
    (hc:PySem.W.WalkO q loose (PySem.W.XL q []) (PySem.W.InK K) l.row.toRowW d [] (fun f vs=>PySem.call f vs)):l.Holds :=
  PySem.W.holds_law ok fun said=>PySem.W.holds_open (r:=l.row) (XP:=PySem.W.XL q []) (YP:=PySem.W.InK K) left (PySem.W.InK.of e) PySem.W.InK.keeps (fun s z=>PySem.W.xl_of s (Bool.and_eq_true_iff.mp z).1) PySem.W.XL.keeps hdef hp hk
    (fun s z=>PySem.W.recFacts_of (Bool.and_eq_true_iff.mp z).2) (by cases h:l.writes<;>simp [PySem.W.OpenLaw.row]) said ok2 hb hw hc
end Mi
namespace Mi
open PySem L2
theorem len1 {α:Type} {P:List α→Prop} (h:∀ a,P [a]):∀ us:List α,us.length = 1→P us
  | [a],_=>h a
theorem len2 {α:Type} {P:List α→Prop} (h:∀ a b,P [a,b]):∀ us:List α,us.length = 2→P us
  | [a,b],_=>h a b
theorem len3 {α:Type} {P:List α→Prop} (h:∀ a b c,P [a,b,c]):∀ us:List α,us.length = 3→P us
  | [a,b,c],_=>h a b c
structure FE (K:PySem.W.Frag) (x:Str) (st:Stmt):Prop where
  ex:∃ (f:Addr) (oc:Value) (od:Option Addr) (kV doc pm:Value) (an:Option Addr) (cdv ct:Value) (sl:Array (Option Value)),PySem.W.nsIn K mainGlobals x = some (some (.ref f)) ∧
    K.lookup f = some ⟨oc,od,.func (PySem.W.fnOf x x (defArgs st) (defBody st) (defScope st) .none kV doc pm an cdv ct),sl⟩∧PySem.W.codeIn K cdv x = true∧PySem.W.keepIn K (.ref f) = true
theorem fe_mk {K:PySem.W.Frag} {x:Str} {st:Stmt} {f:Addr} {oc:Value} {od:Option Addr} {kV doc pm:Value} {an:Option Addr} {cdv ct:Value} {sl:Array (Option Value)} (a:PySem.W.nsIn K mainGlobals x = some (some (.ref f)))
    (l:K.lookup f = some ⟨oc,od,.func (PySem.W.fnOf x x (defArgs st) (defBody st) (defScope st) .none kV doc pm an cdv ct),sl⟩) (c:PySem.W.codeIn K cdv x = true) (k:PySem.W.keepIn K (.ref f) = true):FE K x st:=⟨_,_,_,_,_,_,_,_,_,_,a,l,c,k⟩
section
variable {K:PySem.W.Frag} {mg:Str→Option Value} {h:Heap} {T:Tb} {G:String→Option D} {B F:List String} {O:Ow}
theorem fnf_of (KX:K.In h) (hG:h.Ns mainGlobals mg) {f:String} {FN:Fn} {st:Stmt} (e:FE K (Str.ofString f) st) (hT:T f = some FN) (sc:FnScope (FN.N.map Str.ofString) (FN.ps.map Str.ofString) (defScope st))
    (ck:chkB FN.body ⟨FN.N.map Str.ofString,(defScope st).names,true,B,F,O⟩ (defBody st) = true)
    (bd:∀ (kV doc pm:Value) (an:Option Addr) (cdv ct:Value) (us:List Value),us.length = (FN.ps.map Str.ofString).length→bindArgs (PySem.W.fnOf (Str.ofString f) (Str.ofString f) (defArgs st) (defBody st) (defScope st) .none kV doc pm an cdv ct) ⟨us,[]⟩ = pure ((FN.ps.map Str.ofString).zip us)) :
    ∃ a fd,FnB K T B F O f a fd∧mg (Str.ofString f) = some (.ref a):=by
  obtain ⟨a,oc,od,kV,doc,pm,an,cdv,ct,sl,h1,h2,h3,h4⟩:=e.ex
  exact ⟨a,_,⟨FN,st,_,_,hT,fun_mk (st:=st) h2 h3 h4,sc,ck,bd kV doc pm an cdv ct⟩,PySem.W.mg_of KX hG h1⟩
theorem gi_of (KX:K.In h) (hG:h.Ns mainGlobals mg) {x:String} {i:Int} {t:Tok} (e:PySem.W.nsIn K mainGlobals (Str.ofString x) = some (some (.int i t))):∃ v u,mg (Str.ofString x) = some u∧RelV v u∧(∀ ρ H,RelD K ρ H (.int i) v)∧∀ ds,D.int i = .tup ds→∃ a o,v = .ref a∧K.lookup a = some o∧o.cls = .type "tuple"∧o.dict = none :=
  ⟨.int i,_,PySem.W.mg_of KX hG e,⟨t,rfl⟩,fun _ _=>RelD.int i,fun _ z=>by cases z⟩
theorem gb_of (KX:K.In h) (hG:h.Ns mainGlobals mg) {x:String} (e:PySem.W.nsIn K mainGlobals (Str.ofString x) = some none):mg (Str.ofString x) = none:=PySem.W.mg_none_of KX hG e
structure GV (K:PySem.W.Frag) (x:Str) (d:D):Prop where
  ex:∃ v u,PySem.W.nsIn K mainGlobals x = some (some u)∧RelV v u∧(∀ ρ H,RelD K ρ H d v)∧∀ ds,d = .tup ds→∃ a o,v = .ref a∧K.lookup a = some o∧o.cls = .type "tuple"∧o.dict = none
theorem gv_of (KX:K.In h) (hG:h.Ns mainGlobals mg) {x:String} {d:D} (e:GV K (Str.ofString x) d):∃ v u,mg (Str.ofString x) = some u∧RelV v u∧(∀ ρ H,RelD K ρ H d v)∧∀ ds,d = .tup ds→∃ a o,v = .ref a∧K.lookup a = some o∧o.cls = .type "tuple"∧o.dict = none:=by
  obtain ⟨v,u,h1,h2,h3,h4⟩:=e.ex
  exact ⟨v,u,PySem.W.mg_of KX hG h1,h2,h3,h4⟩
noncomputable def strsLook:List Value→List Str→Bool
  | [],[]=>true
  | .str y _ :: us,x :: xs=>x == y && strsLook us xs
  | _,_=>false
theorem strsLook_vals {us:List Value}:∀ {xs:List Str},strsLook us xs = true→Vals (xs.map V.str) us:=by
  induction us with
  | nil =>
    intro xs h
    cases xs with
    | nil=>exact .nil
    | cons x xs=>simp [strsLook] at h
  | cons u us ih =>
    intro xs h
    cases xs with
    | nil=>cases u<;>simp [strsLook] at h
    | cons x xs =>
      cases u<;>try (simp [strsLook] at h; done)
      simp only [strsLook,Bool.and_eq_true,beq_iff_eq] at h
      obtain ⟨rfl,h⟩:=h
      exact .cons ⟨_,rfl⟩ (ih h)
theorem gv_strs (xs:List Str) {x:Str} {a:Addr} {its:Array Value} {n:Nat} {sl:Array (Option Value)} (e:PySem.W.nsIn K mainGlobals x = some (some (.ref a))) (l:K.lookup a = some ⟨.type "tuple",none,.seq its n,sl⟩)
    (v:(strsLook its.toList xs && decide (its.size ≤ 1000)) = true):GV K x (.tup (xs.map D.str)):=by
  simp only [Bool.and_eq_true,decide_eq_true_eq] at v
  refine ⟨.ref a,.ref a,e,rfl,fun ρ H=>?_,fun ds _=>⟨a,_,rfl,l,rfl,rfl⟩⟩
  simp only [RelD]
  refine ⟨a,xs.map V.str,rfl,.inr ⟨_,its,n,l,rfl,rfl,by rw [sizeLine_eq]; omega,strsLook_vals v.1⟩,?_⟩
  have main:∀ ys:List Str,RelDs K ρ H (ys.map D.str) (ys.map V.str):=by
    intro ys
    induction ys with
    | nil=>exact RelDs.nil
    | cons y r ih=>exact RelDs.cons (RelD.str y) ih
  exact main xs
theorem gv_str {x y:Str} {t:Tok} (e:PySem.W.nsIn K mainGlobals x = some (some (.str y t))):GV K x (.str y):=⟨.str y,_,e,⟨t,rfl⟩,fun ρ H=>RelD.str y,fun ds z=>by cases z⟩
end
end Mi
namespace Mi
open PySem L2
noncomputable def Sat {α:Type} (r:Res α) (P:α→Store→Prop):Prop:=∃ a S,r = .ok a S∧P a S
theorem Sat.ok {α:Type} {a:α} {S:Store} {P:α→Store→Prop} (h:P a S):Sat (.ok a S) P:=⟨a,S,rfl,h⟩
@[simp] theorem Sat_ok {α:Type} {a:α} {S:Store} {P:α→Store→Prop}:Sat (.ok a S) P ↔ P a S:=⟨fun ⟨_,_,e,h⟩=>by cases e; exact h,Sat.ok⟩
theorem Sat.bind {α β:Type} {r:Res α} {f:α→Store→Res β} {P:β→Store→Prop} (h:Sat r fun a S=>Sat (f a S) P):Sat (r.bind f) P:=by
  obtain ⟨a,S,rfl,h⟩:=h
  exact h
theorem Sat.mono {α:Type} {r:Res α} {P Q:α→Store→Prop} (h:Sat r P) (hq:∀ a S,P a S→Q a S):Sat r Q:=by
  obtain ⟨a,S,e,h⟩:=h
  exact ⟨a,S,e,hq a S h⟩
theorem Sat.call {α β:Type} {r:Res α} {f:α→Store→Res β} {P:α→Store→Prop} {Q:β→Store→Prop} (h:Sat r P) (hq:∀ a S,P a S→Sat (f a S) Q):Sat (r.bind f) Q:=.bind (h.mono hq)
noncomputable def finF (fl:Fl) (S:Store):Res D:=match fl with
  | .rt d=>.ok d S
  | .nx _=>.ok .non S
  | _=>.bad
theorem callN_eq {T:Tb} {G:String→Option D} {W n:Nat} {f:String} {FN:Fn} {ds:List D} {S:Store} (hT:T f = some FN) (hl:ds.length = FN.ps.length) :
    callN T G W (n + 1) f ds S = (evB (Cn T G W n) FN.body (ds.map some ++ List.replicate (FN.N.length - ds.length) none) S).bind finF:=by
  simp only [callN,hT,if_pos hl]
  rfl
@[simp] theorem Cn_call {T:Tb} {G:String→Option D} {W n:Nat}:(Cn T G W n).call = callN T G W n:=rfl
@[simp] theorem Cn_glob {T:Tb} {G:String→Option D} {W n:Nat}:(Cn T G W n).glob = G:=rfl
@[simp] theorem Cn_W {T:Tb} {G:String→Option D} {W n:Nat}:(Cn T G W n).W = W:=rfl
theorem forL_none {turn:D→En→Store→Res Fl} {ds:List D} {P:Fl→Store→Prop} (I:Nat→En→Store→Prop) (hend:∀ τ S,I ds.length τ S→P (.nx τ) S)
    (hturn:∀ i d τ S,ds[i]? = some d→I i τ S→Sat (turn d τ S) fun fl S1=>match fl with | .nx τ1=>I (i + 1) τ1 S1 | .ct τ1=>I (i + 1) τ1 S1 | .bk τ1=>P (.nx τ1) S1 | .rt d=>P (.rt d) S1) :
    ∀ (n i:Nat) (τ:En) (S:Store),i + n = ds.length→I i τ S→Sat (forL turn none ds n i τ S) P:=by
  intro n
  induction n with
  | zero =>
    intro i τ S hi h
    have:i = ds.length:=by omega
    subst this
    simp only [forL,sameAt,if_true]
    exact .ok (hend τ S h)
  | succ n ih =>
    intro i τ S hi h
    have hlt:i < ds.length:=by omega
    have e:ds[i]? = some ds[i]:=List.getElem?_eq_getElem hlt
    simp only [forL,sameAt,if_true,nth,e]
    refine .bind ((hturn i _ τ S e h).mono fun fl S1 q=>?_)
    cases fl with
    | nx τ1=>exact ih (i + 1) τ1 S1 (by omega) q
    | ct τ1=>exact ih (i + 1) τ1 S1 (by omega) q
    | bk τ1=>exact .ok q
    | rt d=>exact .ok q
noncomputable def yv:Kd→Nat→D→D
  | .enm,i,d=>.tup [.int i,d]
  | .lst,_,d=>d
theorem forL_w {b:Kd} {turn:D→En→Store→Res Fl} {l:Nat} {ds:List D} {P:Fl→Store→Prop} (I:Nat→En→Store→Prop) (hst:∀ i τ S,I i τ S→S[l]? = some (.lst ds)) (hend:∀ τ S,I ds.length τ S→P (.nx τ) S)
    (hturn:∀ i d τ S,ds[i]? = some d→I i τ S→Sat (turn (yv b i d) τ S) fun fl S1=>match fl with | .nx τ1=>I (i + 1) τ1 S1 | .ct τ1=>I (i + 1) τ1 S1 | .bk τ1=>P (.nx τ1) S1 | .rt d=>P (.rt d) S1) :
    ∀ (n i:Nat) (τ:En) (S:Store),i + n = ds.length→I i τ S→Sat (forL turn (some (l,b)) ds n i τ S) P:=by
  intro n
  induction n with
  | zero =>
    intro i τ S hi h
    have:i = ds.length:=by omega
    subst this
    have hs:=hst _ τ S h
    simp only [forL,sameAt,hs,beq_self_eq_true,if_true]
    exact .ok (hend τ S h)
  | succ n ih =>
    intro i τ S hi h
    have hlt:i < ds.length:=by omega
    have e:ds[i]? = some ds[i]:=List.getElem?_eq_getElem hlt
    have hs:=hst _ τ S h
    simp only [forL,sameAt,hs,beq_self_eq_true,if_true]
    have en:nth S (some (l,b)) ds i = some (yv b i ds[i]):=by cases b<;>first | simp [nth,seqAt,hs,e,yv]
    simp only [en]
    refine .bind ((hturn i _ τ S e h).mono fun fl S1 q=>?_)
    cases fl with
    | nx τ1=>exact ih (i + 1) τ1 S1 (by omega) q
    | ct τ1=>exact ih (i + 1) τ1 S1 (by omega) q
    | bk τ1=>exact .ok q
    | rt d=>exact .ok q
theorem forL_some {turn:D→En→Store→Res Fl} {l:Nat} {ds:List D} {P:Fl→Store→Prop} (I:Nat→En→Store→Prop) (hst:∀ i τ S,I i τ S→S[l]? = some (.lst ds)) (hend:∀ τ S,I ds.length τ S→P (.nx τ) S)
    (hturn:∀ i d τ S,ds[i]? = some d→I i τ S→Sat (turn d τ S) fun fl S1=>match fl with | .nx τ1=>I (i + 1) τ1 S1 | .ct τ1=>I (i + 1) τ1 S1 | .bk τ1=>P (.nx τ1) S1 | .rt d=>P (.rt d) S1) :
    ∀ (n i:Nat) (τ:En) (S:Store),i + n = ds.length→I i τ S→Sat (forL turn (some (l,.lst)) ds n i τ S) P :=
  forL_w (b:=.lst) I hst hend hturn
theorem compL_none {turn:D→En→Store→Res (Option D)} {ds:List D} {P:List D→Store→Prop} {τ:En} (I:Nat→List D→Store→Prop) (hl:ds.length ≤ Line) (hI:∀ i acc S,I i acc S→acc.length ≤ i) (hend:∀ acc S,I ds.length acc S→P acc S)
    (hturn:∀ i d acc S,ds[i]? = some d→I i acc S→Sat (turn d τ S) fun o S1=>match o with | some y=>I (i + 1) (acc ++ [y]) S1 | none=>I (i + 1) acc S1) :
    ∀ (n i:Nat) (acc:List D) (S:Store),i + n = ds.length→I i acc S→Sat (compL turn none ds n i τ S acc) P:=by
  intro n
  induction n with
  | zero =>
    intro i acc S hi h
    have:i = ds.length:=by omega
    subst this
    simp only [compL,sameAt,if_true]
    exact .ok (hend acc S h)
  | succ n ih =>
    intro i acc S hi h
    have hlt:i < ds.length:=by omega
    have e:ds[i]? = some ds[i]:=List.getElem?_eq_getElem hlt
    simp only [compL,sameAt,if_true,nth,e]
    refine .bind ((hturn i _ acc S e h).mono fun o S1 q=>?_)
    cases o with
    | none=>exact ih (i + 1) acc S1 (by omega) q
    | some y =>
      have:=hI _ _ _ h
      have hlt':acc.length < Line:=by omega
      simp only [if_pos hlt']
      exact ih (i + 1) _ S1 (by omega) q
theorem compL_w {b:Kd} {turn:D→En→Store→Res (Option D)} {l:Nat} {ds:List D} {P:List D→Store→Prop} {τ:En} (I:Nat→List D→Store→Prop) (hl:ds.length ≤ Line) (hI:∀ i acc S,I i acc S→acc.length ≤ i∧S[l]? = some (.lst ds)) (hend:∀ acc S,I ds.length acc S→P acc S)
    (hturn:∀ i d acc S,ds[i]? = some d→I i acc S→Sat (turn (yv b i d) τ S) fun o S1=>match o with | some y=>I (i + 1) (acc ++ [y]) S1 | none=>I (i + 1) acc S1) :
    ∀ (n i:Nat) (acc:List D) (S:Store),i + n = ds.length→I i acc S→Sat (compL turn (some (l,b)) ds n i τ S acc) P:=by
  intro n
  induction n with
  | zero =>
    intro i acc S hi h
    have:i = ds.length:=by omega
    subst this
    have hs:=(hI _ _ _ h).2
    simp only [compL,sameAt,hs,beq_self_eq_true,if_true]
    exact .ok (hend acc S h)
  | succ n ih =>
    intro i acc S hi h
    have hlt:i < ds.length:=by omega
    have e:ds[i]? = some ds[i]:=List.getElem?_eq_getElem hlt
    have hs:=(hI _ _ _ h).2
    simp only [compL,sameAt,hs,beq_self_eq_true,if_true]
    have en:nth S (some (l,b)) ds i = some (yv b i ds[i]):=by cases b<;>first | simp [nth,seqAt,hs,e,yv]
    simp only [en]
    refine .bind ((hturn i _ acc S e h).mono fun o S1 q=>?_)
    cases o with
    | none=>exact ih (i + 1) acc S1 (by omega) q
    | some y =>
      have:=(hI _ _ _ h).1
      have hlt':acc.length < Line:=by omega
      simp only [if_pos hlt']
      exact ih (i + 1) _ S1 (by omega) q
theorem compL_some {turn:D→En→Store→Res (Option D)} {l:Nat} {ds:List D} {P:List D→Store→Prop} {τ:En} (I:Nat→List D→Store→Prop) (hl:ds.length ≤ Line) (hI:∀ i acc S,I i acc S→acc.length ≤ i∧S[l]? = some (.lst ds)) (hend:∀ acc S,I ds.length acc S→P acc S)
    (hturn:∀ i d acc S,ds[i]? = some d→I i acc S→Sat (turn d τ S) fun o S1=>match o with | some y=>I (i + 1) (acc ++ [y]) S1 | none=>I (i + 1) acc S1) :
    ∀ (n i:Nat) (acc:List D) (S:Store),i + n = ds.length→I i acc S→Sat (compL turn (some (l,.lst)) ds n i τ S acc) P :=
  compL_w (b:=.lst) I hl hI hend hturn
end Mi
namespace Mi
open PySem L2
section
variable {S:Store} {i j:Int} {a b:Bool} {x y:Str} {ds es:List D}
@[simp] theorem bop_add_int:bop .add (.int i) (.int j) S = .ok (.int (i + j)) S:=rfl
@[simp] theorem bop_sub_int:bop .sub (.int i) (.int j) S = .ok (.int (i - j)) S:=rfl
theorem bop_mul_int (h:(small i || small j || (mid i && mid j)) = true):bop .mul (.int i) (.int j) S = .ok (.int (i * j)) S:=by
  simp only [rbop_5]
  exact if_pos h
@[simp] theorem bop_mul_l (h:small i = true):bop .mul (.int i) (.int j) S = .ok (.int (i * j)) S:=bop_mul_int (by rw [h]; rfl)
@[simp] theorem bop_mul_r (h:small j = true):bop .mul (.int i) (.int j) S = .ok (.int (i * j)) S:=bop_mul_int (by rw [h,Bool.or_true]; rfl)
@[simp] theorem bop_mod_int (h:0 < j):bop .mod (.int i) (.int j) S = .ok (.int (i % j)) S:=by
  simp only [rbop_9]
  exact if_pos h
theorem big_of {j:Int} (h1:0 < j) (h2:j < 2 ^ 250):0 < j∧j.natAbs < 2 ^ 4096:=by
  refine ⟨h1,?_⟩
  have h3:j.natAbs < 2 ^ 250:=by
    have:(j.natAbs:Int) < (2 ^ 250:Nat):=by
      rw [Int.natAbs_of_nonneg (by omega)]
      exact_mod_cast h2
    exact_mod_cast this
  exact Nat.lt_trans h3 (Nat.pow_lt_pow_right (by decide) (by decide))
@[simp] theorem bop_fdiv_int (h1:0 < j) (h2:j < 2 ^ 250):bop .fdiv (.int i) (.int j) S = .ok (.int (i / j)) S:=by
  simp only [rbop_8]
  exact if_pos (big_of h1 h2)
@[simp] theorem prim_divmod (h1:0 < j) (h2:j < 2 ^ 250):primD .divmod [.int i,.int j] S = .ok (.tup [.int (i / j),.int (i % j)]) S:=by
  simp only [rprimD_9]
  exact if_pos (big_of h1 h2)
theorem bop_pow_int (h:(decide (0 ≤ j) && decide (j ≤ 1000000) && decide (i.natAbs < 2 ^ 64)) = true):bop .pow (.int i) (.int j) S = .ok (.int (i ^ j.toNat)) S:=by
  simp only [rbop_10]
  exact if_pos h
@[simp] theorem bop_add_lst {l k:Nat} (h1:S[l]? = some (.lst ds)) (h2:S[k]? = some (.lst es)) (h3:ds.length + es.length ≤ Line):bop .add (.loc l) (.loc k) S = .ok (.loc S.length) (S ++ [.lst (ds ++ es)]):=by
  simp only [rbop_3,h1,h2,if_pos h3]
theorem deep_eq:Deep = 11 + 1:=rfl
@[simp] theorem cop_eq_int:cop .eq (.int i) (.int j) S = some (decide (i = j)):=by
  simp only [cop,deep_eq,eqD,scalV,eqV]
  congr 1
@[simp] theorem cop_eq_str:cop .eq (.str x) (.str y) S = some (decide (x = y)):=by
  simp only [cop,deep_eq,eqD,scalV,eqV]
  congr 1
@[simp] theorem cop_ne_int:cop .ne (.int i) (.int j) S = some (!decide (i = j)):=by
  have:=cop_eq_int (i:=i) (j:=j) (S:=S)
  simp only [cop] at this ⊢
  rw [this]
  rfl
@[simp] theorem cop_ne_str:cop .ne (.str x) (.str y) S = some (!decide (x = y)):=by
  have:=cop_eq_str (x:=x) (y:=y) (S:=S)
  simp only [cop] at this ⊢
  rw [this]
  rfl
@[simp] theorem cop_lt_int:cop .lt (.int i) (.int j) S = some (decide (i < j)):=rfl
@[simp] theorem cop_le_int:cop .le (.int i) (.int j) S = some (decide (i ≤ j)):=rfl
@[simp] theorem cop_gt_int:cop .gt (.int i) (.int j) S = some (decide (j < i)):=rfl
@[simp] theorem cop_ge_int:cop .ge (.int i) (.int j) S = some (decide (j ≤ i)):=rfl
@[simp] theorem prim_abs:primD .abs [.int i] S = .ok (.int (if i < 0 then -i else i)) S:=rfl
@[simp] theorem prim_max:primD .max2 [.int i,.int j] S = .ok (.int (if j > i then j else i)) S:=rfl
@[simp] theorem prim_min:primD .min2 [.int i,.int j] S = .ok (.int (if j < i then j else i)) S:=rfl
@[simp] theorem prim_int_int:primD .int1 [.int i] S = .ok (.int i) S:=rfl
@[simp] theorem prim_int_bl:primD .int1 [.bl b] S = .ok (.int (if b then 1 else 0)) S:=rfl
@[simp] theorem prim_len_tup:primD .len [.tup ds] S = .ok (.int ds.length) S:=rfl
@[simp] theorem prim_len_kl:primD .len [.kl ds] S = .ok (.int ds.length) S:=rfl
theorem prim_len_loc {l:Nat} (h:S[l]? = some (.lst ds)):primD .len [.loc l] S = .ok (.int ds.length) S:=by simp only [rprimD_0,seqOf,seqAt,h]
theorem prim_len_str (h:x.length ≤ Line):primD .len [.str x] S = .ok (.int x.length) S:=by simp only [rprimD_0,seqOf,if_pos h]
@[simp] theorem prim_tuple_tup:primD .tuple1 [.tup ds] S = .ok (.tup ds) S:=rfl
@[simp] theorem prim_tuple_kl:primD .tuple1 [.kl ds] S = .ok (.tup ds) S:=rfl
theorem prim_tuple_loc {l:Nat} (h:S[l]? = some (.lst ds)):primD .tuple1 [.loc l] S = .ok (.tup ds) S:=by simp only [rprimD_8,seqOf,seqAt,h]
@[simp] theorem prim_list_tup:primD .list1 [.tup ds] S = .ok (.loc S.length) (S ++ [.lst ds]):=rfl
@[simp] theorem prim_list_kl:primD .list1 [.kl ds] S = .ok (.loc S.length) (S ++ [.lst ds]):=rfl
theorem prim_str (h:i.natAbs < 2 ^ 1900):primD .str1 [.int i] S = .ok (.str (toString i)) S:=by simp only [rprimD_6,if_pos h]
theorem allB_map {α:Type} (p:α→Bool):∀ xs:List α,allB (xs.map fun x=>D.bl (p x)) = some (xs.all p)
  | []=>rfl
  | x :: xs=>by simp only [List.map_cons,allB,allB_map p xs,List.all_cons,Option.map_some]
@[simp] theorem new_get {o:Obj}:(S ++ [o])[S.length]? = some o:=by
  rw [List.getElem?_append_right (Nat.le_refl _),Nat.sub_self]; rfl
theorem old_get {l:Nat} {o:Obj} {X:Store} (h:S[l]? = some o):(S ++ X)[l]? = some o:=by
  rw [List.getElem?_append_left (List.getElem?_eq_some_iff.mp h).1]; exact h
theorem idx_tup {d:D} (h:atI ds i = some d):idxD (.tup ds) (.int i) S = some d:=by simp only [idxD,seqOf,h]
theorem idx_loc {l:Nat} {d:D} (hl:S[l]? = some (.lst ds)) (h:atI ds i = some d):idxD (.loc l) (.int i) S = some d:=by simp only [idxD,seqOf,seqAt,hl,h]
theorem atI_lt {α:Type} {xs:List α} {i:Int} (h0:0 ≤ i) (h1:i < xs.length):∃ x,atI xs i = some x∧x ∈ xs∧xs[i.toNat]? = some x:=by
  have hl:i.toNat < xs.length:=by omega
  refine ⟨xs[i.toNat],?_,List.getElem_mem hl,List.getElem?_eq_getElem hl⟩
  simp only [atI,ixN,if_pos h0,if_pos h1,Option.bind_some]
  exact List.getElem?_eq_getElem hl
theorem meth_append {l:Nat} {d:D} (h:S[l]? = some (.lst ds)) (hl:ds.length < Line):methD .append (.loc l) [d] S = .ok .non (S.set l (.lst (ds ++ [d]))):=by simp only [rmethD_0,h,if_pos hl]
theorem set_sub {l:Nat} {d:D} {k:Nat} (h:S[l]? = some (.lst ds)) (hk:ixN ds.length i = some k):setS (.loc l) (.int i) d S = .ok () (S.set l (.lst (ds.set k d))):=by simp only [setS,h,hk]
theorem line_big {n:Nat} (h:n ≤ 1000000):n ≤ Line:=by unfold Line; omega
theorem line_lt {n:Nat} (h:n ≤ 1000000):n < Line:=by unfold Line; omega
end
end Mi
namespace Mi
open PySem L2
noncomputable def kVar (o:Option (Option D)) (S:Store):Res D:=match o with | some (some d)=>.ok d S | _=>.bad
noncomputable def kGlb (o:Option D) (S:Store):Res D:=match o with | some d=>.ok d S | none=>.bad
noncomputable def kBin (C:Pr) (o:Bop) (b:M) (τ:En) (x:D) (S:Store):Res D:=(evE C b τ S).bind (bop o x)
noncomputable def kNeg (x:D) (S:Store):Res D:=match x with | .int i=>.ok (.int (-i)) S | _=>.bad
noncomputable def kNot (x:D) (S:Store):Res D:=match tru S x with | some b=>.ok (.bl (!b)) S | none=>.bad
noncomputable def kCmp2 (o:Cop) (x y:D) (S:Store):Res D:=match cop o x y S with | some k=>.ok (.bl k) S | none=>.bad
noncomputable def kCmp (C:Pr) (o:Cop) (b:M) (τ:En) (x:D) (S:Store):Res D:=(evE C b τ S).bind (kCmp2 o x)
noncomputable def kChn2 (C:Pr) (o p:Cop) (c:M) (τ:En) (x y:D) (S:Store):Res D:=match cop o x y S with
  | some k=>if k then (evE C c τ S).bind (kCmp2 p y) else .ok (.bl false) S
  | none=>.bad
noncomputable def kChn (C:Pr) (o p:Cop) (b c:M) (τ:En) (x:D) (S:Store):Res D:=(evE C b τ S).bind (kChn2 C o p c τ x)
noncomputable def kIfe (C:Pr) (a b:M) (τ:En) (k:Bool) (S:Store):Res D:=if k then evE C a τ S else evE C b τ S
noncomputable def kTup (ds:List D) (S:Store):Res D:=if ds.length ≤ Line then .ok (.tup ds) S else .bad
noncomputable def kLst (ds:List D) (S:Store):Res D:=if ds.length ≤ Line then .ok (.loc S.length) (S ++ [.lst ds]) else .bad
noncomputable def kIdx2 (x y:D) (S:Store):Res D:=match idxD x y S with | some d=>.ok d S | none=>.bad
noncomputable def kIdx (C:Pr) (b:M) (τ:En) (x:D) (S:Store):Res D:=(evE C b τ S).bind (kIdx2 x)
noncomputable def kSli2 (C:Pr) (hi:M) (τ:En) (x:D) (l:Option Int) (S:Store):Res D:=(evO C hi τ S).bind (sliD x l)
noncomputable def kSli (C:Pr) (lo hi:M) (τ:En) (x:D) (S:Store):Res D:=(evO C lo τ S).bind (kSli2 C hi τ x)
noncomputable def kIsi (t:String) (x:D) (S:Store):Res D:=match tyD S x with | some y=>.ok (.bl (isiD y t)) S | none=>.bad
noncomputable def kMeth (C:Pr) (p:Meth) (as:M) (τ:En) (x:D) (S:Store):Res D:=if rcv S x then (evA C as τ S).bind (methD p x) else .bad
noncomputable def kTru (d:D) (S:Store):Res Bool:=match tru S d with | some b=>.ok b S | none=>.bad
noncomputable def tVar' (o:Option (Option D)) (S:Store):Res Bool:=match o with | some (some d)=>kTru d S | _=>.bad
noncomputable def tNotB (b:Bool) (S:Store):Res Bool:=.ok (!b) S
noncomputable def tCmp2 (o:Cop) (x y:D) (S:Store):Res Bool:=match cop o x y S with | some k=>.ok k S | none=>.bad
noncomputable def tCmp' (C:Pr) (o:Cop) (b:M) (τ:En) (x:D) (S:Store):Res Bool:=(evE C b τ S).bind (tCmp2 o x)
noncomputable def tChn2 (C:Pr) (o p:Cop) (c:M) (τ:En) (x y:D) (S:Store):Res Bool:=match cop o x y S with
  | some k=>if k then (evE C c τ S).bind (tCmp2 p y) else .ok false S
  | none=>.bad
noncomputable def tChn (C:Pr) (o p:Cop) (b c:M) (τ:En) (x:D) (S:Store):Res Bool:=(evE C b τ S).bind (tChn2 C o p c τ x)
noncomputable def tIdx2 (x y:D) (S:Store):Res Bool:=match idxD x y S with | some d=>kTru d S | none=>.bad
noncomputable def tIdx (C:Pr) (b:M) (τ:En) (x:D) (S:Store):Res Bool:=(evE C b τ S).bind (tIdx2 x)
noncomputable def tCal (C:Pr) (f:String) (ds:List D) (S:Store):Res Bool:=(C.call f ds S).bind kTru
noncomputable def tPri (p:Prim) (ds:List D) (S:Store):Res Bool:=(primD p ds S).bind kTru
noncomputable def tIsi (t:String) (x:D) (S:Store):Res Bool:=match tyD S x with | some y=>.ok (isiD y t) S | none=>.bad
noncomputable def kBV (C:Pr) (w:Bool) (r:M) (τ:En) (x:D) (S:Store):Res D:=match x with | .bl c=>if c = w then evBV C w r τ S else .ok (.bl (!w)) S | _=>.bad
noncomputable def kBT (C:Pr) (w:Bool) (r:M) (τ:En) (c:Bool) (S:Store):Res Bool:=if c = w then evBT C w r τ S else .ok (!w) S
noncomputable def kCons (x:D) (xs:List D) (S:Store):Res (List D):=.ok (x :: xs) S
noncomputable def kArg (C:Pr) (b:M) (τ:En) (x:D) (S:Store):Res (List D):=(evA C b τ S).bind (kCons x)
noncomputable def kOpt (x:D) (S:Store):Res (Option Int):=match x with | .int i=>.ok (some i) S | _=>.bad
noncomputable def kRng (x:D) (S:Store):Res (Wk × List D):=match x with
  | .int j=>if decide (-(2 ^ 62) ≤ j) && decide (j < 2 ^ 62) then .ok (none,(List.range j.toNat).map fun (i:Nat)=>.int i) S else .bad
  | _=>.bad
noncomputable def kSeq (x:D) (S:Store):Res (Wk × List D):=match x with
  | .tup ds=>.ok (none,ds) S
  | .kl ds=>.ok (none,ds) S
  | .str z=>.ok (none,z.cps.toList.map fun c=>.str ⟨#[c]⟩) S
  | .loc l=>(match seqAt S l with | some ds=>.ok (some (l,.lst),ds) S | none=>.bad)
  | _=>.bad
noncomputable def kZp2 (x y:D) (S:Store):Res (Wk × List D):=match x,y with | .tup ds,.tup es=>.ok (none,(ds.zip es).map fun p=>.tup [p.1,p.2]) S | _,_=>.bad
noncomputable def kZp (C:Pr) (b:M) (τ:En) (x:D) (S:Store):Res (Wk × List D):=(evE C b τ S).bind (kZp2 x)
noncomputable def kEn (τ:En) (_:Unit) (S:Store):Res En:=.ok τ S
noncomputable def kSub2 (d:D) (τ:En) (o i:D) (S:Store):Res En:=(setS o i d S).bind (kEn τ)
noncomputable def kSub (C:Pr) (b:M) (d:D) (τ:En) (o:D) (S:Store):Res En:=(evE C b τ S).bind (kSub2 d τ o)
noncomputable def kNx (τ:En) (S:Store):Res Fl:=.ok (.nx τ) S
noncomputable def kAsg (C:Pr) (t:M) (τ:En) (d:D) (S:Store):Res Fl:=(evG C t d τ S).bind kNx
noncomputable def kIfs (C:Pr) (a b:M) (τ:En) (k:Bool) (S:Store):Res Fl:=if k then evB C a τ S else evB C b τ S
noncomputable def kRet (d:D) (S:Store):Res Fl:=.ok (.rt d) S
noncomputable def kExp (τ:En) (_:D) (S:Store):Res Fl:=.ok (.nx τ) S
noncomputable def kB (C:Pr) (r:M) (fl:Fl) (S:Store):Res Fl:=match fl with
  | .nx τ1=>evB C r τ1 S
  | .rt d=>.ok (.rt d) S
  | .bk τ1=>.ok (.bk τ1) S
  | .ct τ1=>.ok (.ct τ1) S
noncomputable def turnF (C:Pr) (t b:M) (d:D) (τ:En) (S:Store):Res Fl:=(evG C t d τ S).bind (evB C b)
noncomputable def kFor (C:Pr) (t b:M) (τ:En) (w:Wk × List D) (S:Store):Res Fl:=forL (turnF C t b) w.1 w.2 w.2.length 0 τ S
noncomputable def kComp1 (ys:List D) (S:Store):Res D:=.ok (.loc S.length) (S ++ [.lst ys])
noncomputable def kComp (C:Pr) (k:Nat) (keep:List Nat) (tg cd el:M) (τ:En) (w:Wk × List D) (S:Store):Res D:=(compL (turnC C tg cd el) w.1 w.2 w.2.length 0 (inEn k keep τ) S []).bind kComp1
section
variable {C:Pr} {τ:En} {S:Store} {w:Bool} {d:D} {ds:List D} {i k:Nat} {keep:List Nat} {N:List String} {x f t:String} {a b c r as lo hi e s ts t':M} {it tg cd el:M} {o p:Cop} {q:Bop} {pr:Prim} {me:Meth}
theorem v_cst:evE C (.cst d) τ S = .ok d S:=rfl
theorem v_var:evE C (.var i) τ S = kVar τ[i]? S:=rfl
theorem v_glb:evE C (.glb x) τ S = kGlb (C.glob x) S:=rfl
theorem v_bin:evE C (.bin q a b) τ S = (evE C a τ S).bind (kBin C q b τ):=rfl
theorem v_neg:evE C (.neg a) τ S = (evE C a τ S).bind kNeg:=rfl
theorem v_nott:evE C (.nott a) τ S = (evE C a τ S).bind kNot:=rfl
theorem v_bo:evE C (.bo w as) τ S = evBV C w as τ S:=rfl
theorem v_cmp:evE C (.cmp o a b) τ S = (evE C a τ S).bind (kCmp C o b τ):=rfl
theorem v_cmp2:evE C (.cmp2 o p a b c) τ S = (evE C a τ S).bind (kChn C o p b c τ):=by
  simp only [revE_8]
  congr 1; funext x S1
  simp only [kChn]
  congr 1; funext y S2
  simp only [kChn2]
  cases cop o x y S2 with
  | none=>rfl
  | some k=>cases k<;>rfl
theorem v_ife:evE C (.ife c a b) τ S = (evT C c τ S).bind (kIfe C a b τ):=rfl
theorem v_tup:evE C (.tup as) τ S = (evA C as τ S).bind kTup:=rfl
theorem v_lst:evE C (.lst as) τ S = (evA C as τ S).bind kLst:=rfl
theorem v_idx:evE C (.idx a b) τ S = (evE C a τ S).bind (kIdx C b τ):=rfl
theorem v_sli:evE C (.sli a lo hi) τ S = (evE C a τ S).bind (kSli C lo hi τ):=rfl
theorem v_call:evE C (.call f as) τ S = (evA C as τ S).bind (C.call f):=rfl
theorem v_prim:evE C (.prim pr as) τ S = (evA C as τ S).bind (primD pr):=rfl
theorem v_isi:evE C (.isi a t) τ S = (evE C a τ S).bind (kIsi t):=rfl
theorem v_meth:evE C (.meth me a as) τ S = (evE C a τ S).bind (kMeth C me as τ):=rfl
theorem v_comp:evE C (.comp N k keep tg it cd el) τ S = (evI C it τ S).bind (kComp C k keep tg cd el τ):=rfl
theorem v_zp:evI C (.zp a b) τ S = (evE C a τ S).bind (kZp C b τ):=rfl
theorem w_nott:evT C (.nott a) τ S = (evT C a τ S).bind tNotB:=rfl
theorem w_bo:evT C (.bo w as) τ S = evBT C w as τ S:=rfl
theorem w_cmp:evT C (.cmp o a b) τ S = (evE C a τ S).bind (tCmp' C o b τ):=rfl
theorem w_cmp2:evT C (.cmp2 o p a b c) τ S = (evE C a τ S).bind (tChn C o p b c τ):=by
  simp only [revT_3]
  congr 1; funext x S1
  simp only [tChn]
  congr 1; funext y S2
  simp only [tChn2]
  cases cop o x y S2 with
  | none=>rfl
  | some k=>cases k<;>rfl
theorem w_var:evT C (.var i) τ S = tVar' τ[i]? S:=rfl
theorem w_idx:evT C (.idx a b) τ S = (evE C a τ S).bind (tIdx C b τ):=rfl
theorem w_call:evT C (.call f as) τ S = (evA C as τ S).bind (tCal C f):=rfl
theorem w_prim:evT C (.prim pr as) τ S = (evA C as τ S).bind (tPri pr):=rfl
noncomputable def tMth2 (p:Meth) (x:D) (ds:List D) (S:Store):Res Bool:=(methD p x ds S).bind kTru
noncomputable def tMth (C:Pr) (p:Meth) (as:M) (τ:En) (x:D) (S:Store):Res Bool:=if rcv S x then (evA C as τ S).bind (tMth2 p x) else .bad
theorem w_meth {p:Meth} {o as:M}:evT C (.meth p o as) τ S = (evE C o τ S).bind (tMth C p as τ):=rfl
theorem w_isi:evT C (.isi a t) τ S = (evE C a τ S).bind (tIsi t):=rfl
theorem v_bv1:evBV C w (.cns a .nul) τ S = evE C a τ S:=rfl
theorem v_bv2:evBV C w (.cns a (.cns b r)) τ S = (evE C a τ S).bind (kBV C w (.cns b r) τ):=rfl
theorem v_bt1:evBT C w (.cns a .nul) τ S = evT C a τ S:=rfl
theorem v_bt2:evBT C w (.cns a (.cns b r)) τ S = (evT C a τ S).bind (kBT C w (.cns b r) τ):=rfl
theorem v_c0:evC C .nul τ S = .ok true S:=rfl
theorem v_a0:evA C .nul τ S = .ok [] S:=rfl
theorem v_a1:evA C (.cns a b) τ S = (evE C a τ S).bind (kArg C b τ):=rfl
theorem v_o0:evO C .nul τ S = .ok none S:=rfl
theorem v_o1:evO C (.cns a .nul) τ S = (evE C a τ S).bind kOpt:=rfl
theorem v_rng:evI C (.rng a) τ S = (evE C a τ S).bind kRng:=rfl
theorem v_seq:evI C (.cns a .nul) τ S = (evE C a τ S).bind kSeq:=rfl
theorem v_tvar:evG C (.tvar i) d τ S = if i < τ.length then .ok (τ.set i (some d)) S else .bad:=rfl
theorem v_ttup:evG C (.ttup ts) (.tup ds) τ S = evGs C ts ds τ S:=rfl
theorem v_tsub:evG C (.tsub a b) d τ S = (evE C a τ S).bind (kSub C b d τ):=rfl
theorem v_gs0:evGs C .nul [] τ S = .ok τ S:=rfl
theorem v_gs1:evGs C (.cns t' ts) (d :: ds) τ S = (evG C t' d τ S).bind (evGs C ts ds):=rfl
theorem v_asg:evS C (.asg t' e) τ S = (evE C e τ S).bind (kAsg C t' τ):=rfl
theorem v_ifs:evS C (.ifs c a b) τ S = (evT C c τ S).bind (kIfs C a b τ):=rfl
theorem v_ret:evS C (.ret e) τ S = (evE C e τ S).bind kRet:=rfl
theorem v_exp:evS C (.exp e) τ S = (evE C e τ S).bind (kExp τ):=rfl
theorem v_for:evS C (.forr t' it b) τ S = (evI C it τ S).bind (kFor C t' b τ):=rfl
theorem v_b0:evB C .nul τ S = .ok (.nx τ) S:=rfl
theorem v_b1:evB C (.cns s r) τ S = (evS C s τ S).bind (kB C r):=rfl
theorem kRng_of {j:Int} (h0:-(2 ^ 62) ≤ j) (h1:j < 2 ^ 62):kRng (.int j) S = .ok (none,(List.range j.toNat).map fun (i:Nat)=>.int i) S:=by
  simp only [kRng]
  rw [if_pos (by simp only [Bool.and_eq_true,decide_eq_true_eq]; exact ⟨h0,h1⟩)]
theorem kFor_none {t b:M} {P:Fl→Store→Prop} (I:Nat→En→Store→Prop) (h0:I 0 τ S) (hturn:∀ i d τ S,ds[i]? = some d→I i τ S→Sat (turnF C t b d τ S) fun fl S1=>match fl with | .nx τ1=>I (i + 1) τ1 S1 | .ct τ1=>I (i + 1) τ1 S1 | .bk τ1=>P (.nx τ1) S1 | .rt d=>P (.rt d) S1)
    (hend:∀ τ S,I ds.length τ S→P (.nx τ) S):Sat (kFor C t b τ (none,ds) S) P:=forL_none I hend hturn _ 0 τ S (by simp) h0
theorem kFor_some {t b:M} {l:Nat} {P:Fl→Store→Prop} (I:Nat→En→Store→Prop) (h0:I 0 τ S) (hst:∀ i τ S,I i τ S→S[l]? = some (.lst ds)) (hturn:∀ i d τ S,ds[i]? = some d→I i τ S→Sat (turnF C t b d τ S) fun fl S1=>match fl with | .nx τ1=>I (i + 1) τ1 S1 | .ct τ1=>I (i + 1) τ1 S1 | .bk τ1=>P (.nx τ1) S1 | .rt d=>P (.rt d) S1)
    (hend:∀ τ S,I ds.length τ S→P (.nx τ) S):Sat (kFor C t b τ (some (l,.lst),ds) S) P:=forL_some I hst hend hturn _ 0 τ S (by simp) h0
end
end Mi
namespace Mi
open PySem L2
theorem Sat.p0 {α0:Type} {r:Res α0} {Q P:α0→Store→Prop} (h:Sat r Q) (k:∀ a S,Q a S→Sat (.ok a S) P):Sat r P:=by
  obtain ⟨a,S,e,h⟩:=h
  rw [e]
  exact k a S h
theorem Sat.p1 {α0 α1:Type} {r:Res α0} {f1:α0→Store→Res α1} {Q:α0→Store→Prop} {P:α1→Store→Prop} (h:Sat r Q) (k:∀ a S,Q a S→Sat (((.ok a S:Res α0)).bind f1) P):Sat ((r).bind f1) P:=by
  obtain ⟨a,S,e,h⟩:=h
  rw [e]
  exact k a S h
theorem Sat.p2 {α0 α1 α2:Type} {r:Res α0} {f1:α0→Store→Res α1} {f2:α1→Store→Res α2} {Q:α0→Store→Prop} {P:α2→Store→Prop} (h:Sat r Q) (k:∀ a S,Q a S→Sat ((((.ok a S:Res α0)).bind f1).bind f2) P):Sat (((r).bind f1).bind f2) P:=by
  obtain ⟨a,S,e,h⟩:=h
  rw [e]
  exact k a S h
theorem Sat.p3 {α0 α1 α2 α3:Type} {r:Res α0} {f1:α0→Store→Res α1} {f2:α1→Store→Res α2} {f3:α2→Store→Res α3} {Q:α0→Store→Prop} {P:α3→Store→Prop} (h:Sat r Q) (k:∀ a S,Q a S→Sat (((((.ok a S:Res α0)).bind f1).bind f2).bind f3) P):Sat ((((r).bind f1).bind f2).bind f3) P:=by
  obtain ⟨a,S,e,h⟩:=h
  rw [e]
  exact k a S h
theorem Sat.p4 {α0 α1 α2 α3 α4:Type} {r:Res α0} {f1:α0→Store→Res α1} {f2:α1→Store→Res α2} {f3:α2→Store→Res α3} {f4:α3→Store→Res α4} {Q:α0→Store→Prop} {P:α4→Store→Prop} (h:Sat r Q) (k:∀ a S,Q a S→Sat ((((((.ok a S:Res α0)).bind f1).bind f2).bind f3).bind f4) P):Sat (((((r).bind f1).bind f2).bind f3).bind f4) P:=by
  obtain ⟨a,S,e,h⟩:=h
  rw [e]
  exact k a S h
theorem Sat.p5 {α0 α1 α2 α3 α4 α5:Type} {r:Res α0} {f1:α0→Store→Res α1} {f2:α1→Store→Res α2} {f3:α2→Store→Res α3} {f4:α3→Store→Res α4} {f5:α4→Store→Res α5} {Q:α0→Store→Prop} {P:α5→Store→Prop} (h:Sat r Q) (k:∀ a S,Q a S→Sat (((((((.ok a S:Res α0)).bind f1).bind f2).bind f3).bind f4).bind f5) P):Sat ((((((r).bind f1).bind f2).bind f3).bind f4).bind f5) P:=by
  obtain ⟨a,S,e,h⟩:=h
  rw [e]
  exact k a S h
theorem Sat.p6 {α0 α1 α2 α3 α4 α5 α6:Type} {r:Res α0} {f1:α0→Store→Res α1} {f2:α1→Store→Res α2} {f3:α2→Store→Res α3} {f4:α3→Store→Res α4} {f5:α4→Store→Res α5} {f6:α5→Store→Res α6} {Q:α0→Store→Prop} {P:α6→Store→Prop} (h:Sat r Q) (k:∀ a S,Q a S→Sat ((((((((.ok a S:Res α0)).bind f1).bind f2).bind f3).bind f4).bind f5).bind f6) P):Sat (((((((r).bind f1).bind f2).bind f3).bind f4).bind f5).bind f6) P:=by
  obtain ⟨a,S,e,h⟩:=h
  rw [e]
  exact k a S h
theorem Sat.p7 {α0 α1 α2 α3 α4 α5 α6 α7:Type} {r:Res α0} {f1:α0→Store→Res α1} {f2:α1→Store→Res α2} {f3:α2→Store→Res α3} {f4:α3→Store→Res α4} {f5:α4→Store→Res α5} {f6:α5→Store→Res α6} {f7:α6→Store→Res α7} {Q:α0→Store→Prop} {P:α7→Store→Prop} (h:Sat r Q) (k:∀ a S,Q a S→Sat (((((((((.ok a S:Res α0)).bind f1).bind f2).bind f3).bind f4).bind f5).bind f6).bind f7) P):Sat ((((((((r).bind f1).bind f2).bind f3).bind f4).bind f5).bind f6).bind f7) P:=by
  obtain ⟨a,S,e,h⟩:=h
  rw [e]
  exact k a S h
theorem Sat.p8 {α0 α1 α2 α3 α4 α5 α6 α7 α8:Type} {r:Res α0} {f1:α0→Store→Res α1} {f2:α1→Store→Res α2} {f3:α2→Store→Res α3} {f4:α3→Store→Res α4} {f5:α4→Store→Res α5} {f6:α5→Store→Res α6} {f7:α6→Store→Res α7} {f8:α7→Store→Res α8} {Q:α0→Store→Prop} {P:α8→Store→Prop} (h:Sat r Q) (k:∀ a S,Q a S→Sat ((((((((((.ok a S:Res α0)).bind f1).bind f2).bind f3).bind f4).bind f5).bind f6).bind f7).bind f8) P):Sat (((((((((r).bind f1).bind f2).bind f3).bind f4).bind f5).bind f6).bind f7).bind f8) P:=by
  obtain ⟨a,S,e,h⟩:=h
  rw [e]
  exact k a S h
theorem Sat.p9 {α0 α1 α2 α3 α4 α5 α6 α7 α8 α9:Type} {r:Res α0} {f1:α0→Store→Res α1} {f2:α1→Store→Res α2} {f3:α2→Store→Res α3} {f4:α3→Store→Res α4} {f5:α4→Store→Res α5} {f6:α5→Store→Res α6} {f7:α6→Store→Res α7} {f8:α7→Store→Res α8} {f9:α8→Store→Res α9} {Q:α0→Store→Prop} {P:α9→Store→Prop} (h:Sat r Q) (k:∀ a S,Q a S→Sat (((((((((((.ok a S:Res α0)).bind f1).bind f2).bind f3).bind f4).bind f5).bind f6).bind f7).bind f8).bind f9) P):Sat ((((((((((r).bind f1).bind f2).bind f3).bind f4).bind f5).bind f6).bind f7).bind f8).bind f9) P:=by
  obtain ⟨a,S,e,h⟩:=h
  rw [e]
  exact k a S h
theorem Sat.p10 {α0 α1 α2 α3 α4 α5 α6 α7 α8 α9 α10:Type} {r:Res α0} {f1:α0→Store→Res α1} {f2:α1→Store→Res α2} {f3:α2→Store→Res α3} {f4:α3→Store→Res α4} {f5:α4→Store→Res α5} {f6:α5→Store→Res α6} {f7:α6→Store→Res α7} {f8:α7→Store→Res α8} {f9:α8→Store→Res α9} {f10:α9→Store→Res α10} {Q:α0→Store→Prop} {P:α10→Store→Prop} (h:Sat r Q) (k:∀ a S,Q a S→Sat ((((((((((((.ok a S:Res α0)).bind f1).bind f2).bind f3).bind f4).bind f5).bind f6).bind f7).bind f8).bind f9).bind f10) P):Sat (((((((((((r).bind f1).bind f2).bind f3).bind f4).bind f5).bind f6).bind f7).bind f8).bind f9).bind f10) P:=by
  obtain ⟨a,S,e,h⟩:=h
  rw [e]
  exact k a S h
noncomputable def Ext (S S':Store):Prop:=∃ X,S' = S ++ X
theorem Ext.refl (S:Store):Ext S S:=⟨[],by simp⟩
theorem Ext.trans {S S1 S2:Store} (a:Ext S S1) (b:Ext S1 S2):Ext S S2:=by
  obtain ⟨X,rfl⟩:=a
  obtain ⟨Y,rfl⟩:=b
  exact ⟨X ++ Y,by rw [List.append_assoc]⟩
theorem Ext.new (S X:Store):Ext S (S ++ X):=⟨X,rfl⟩
theorem Ext.more {S S1:Store} (a:Ext S S1) (X:Store):Ext S (S1 ++ X):=a.trans (.new _ _)
theorem Ext.get {S S':Store} {l:Nat} {o:Obj} (e:Ext S S') (h:S[l]? = some o):S'[l]? = some o:=by
  obtain ⟨X,rfl⟩:=e
  exact old_get h
theorem Ext.len {S S':Store} (e:Ext S S'):S.length ≤ S'.length:=by
  obtain ⟨X,rfl⟩:=e
  simp
theorem Ext.set {S S':Store} (e:Ext S S') {l:Nat} (h:S.length ≤ l) (o:Obj):Ext S (S'.set l o):=by
  obtain ⟨X,rfl⟩:=e
  refine ⟨X.set (l - S.length) o,?_⟩
  rw [List.set_append_right _ _ h]
theorem get_lt {S:Store} {l:Nat} {o:Obj} (h:S[l]? = some o):l < S.length:=(List.getElem?_eq_some_iff.mp h).1
theorem set_get {S:Store} {l:Nat} {o o':Obj} (h:S[l]? = some o):(S.set l o')[l]? = some o':=List.getElem?_set_self (get_lt h)
theorem app_get (S X:Store) (k:Nat):(S ++ X)[S.length + k]? = X[k]?:=by
  rw [List.getElem?_append_right (Nat.le_add_right _ _),Nat.add_sub_cancel_left]
@[simp] theorem app_get1 {S X:Store} {a0 a1:Obj}:(S ++ (a0 :: a1 :: X))[S.length + 1]? = some a1:=by rw [app_get]; rfl
@[simp] theorem app_get2 {S X:Store} {a0 a1 a2:Obj}:(S ++ (a0 :: a1 :: a2 :: X))[S.length + 2]? = some a2:=by rw [app_get]; rfl
@[simp] theorem app_get3 {S X:Store} {a0 a1 a2 a3:Obj}:(S ++ (a0 :: a1 :: a2 :: a3 :: X))[S.length + 3]? = some a3:=by rw [app_get]; rfl
@[simp] theorem app_get4 {S X:Store} {a0 a1 a2 a3 a4:Obj}:(S ++ (a0 :: a1 :: a2 :: a3 :: a4 :: X))[S.length + 4]? = some a4:=by rw [app_get]; rfl
@[simp] theorem app_get5 {S X:Store} {a0 a1 a2 a3 a4 a5:Obj}:(S ++ (a0 :: a1 :: a2 :: a3 :: a4 :: a5 :: X))[S.length + 5]? = some a5:=by rw [app_get]; rfl
@[simp] theorem app_get0 {S X:Store} {a0:Obj}:(S ++ (a0 :: X))[S.length]? = some a0:=app_get S (a0 :: X) 0
noncomputable def Lsts (S S':Store):Prop:=∀ (l:Nat) (ds:List D),S[l]? = some (.lst ds)→∃ es,S'[l]? = some (.lst es)
theorem Lsts.ext {S S':Store} (e:Ext S S'):Lsts S S':=fun l ds h=>⟨ds,e.get h⟩
theorem Lsts.trans {S S1 S2:Store} (a:Lsts S S1) (b:Lsts S1 S2):Lsts S S2:=fun l ds h=>let ⟨_,h1⟩:=a l ds h; b l _ h1
theorem Lsts.set {S:Store} (l:Nat) (es:List D):Lsts S (S.set l (.lst es)):=fun k ds h=>by
  by_cases e:l = k
  · subst e; exact ⟨es,set_get h⟩
  · exact ⟨ds,by rw [List.getElem?_set_ne e]; exact h⟩
section
variable {S:Store} {ds:List D} {i:Int} {l:Nat}
theorem sat_idx_loc (hl:S[l]? = some (.lst ds)) (h0:0 ≤ i) (h1:i < ds.length):Sat (kIdx2 (.loc l) (.int i) S) fun x S1=>x ∈ ds∧S1 = S∧ds[i.toNat]? = some x:=by
  obtain ⟨x,e,hm,hg⟩:=atI_lt h0 h1
  refine ⟨x,S,?_,hm,rfl,hg⟩
  simp only [kIdx2,idx_loc hl e]
@[simp] theorem kIdx2_t0 {a:D}:kIdx2 (.tup (a :: ds)) (.int 0) S = .ok a S:=by
  have e:atI (a :: ds) (0:Int) = some a:=by
    simp only [atI,ixN,List.length_cons]
    rw [if_pos (by decide),if_pos (by omega)]
    rfl
  simp only [kIdx2,idx_tup e]
@[simp] theorem kIdx2_t1 {a b:D}:kIdx2 (.tup (a :: b :: ds)) (.int 1) S = .ok b S:=by
  have e:atI (a :: b :: ds) (1:Int) = some b:=by
    simp only [atI,ixN,List.length_cons]
    rw [if_pos (by decide),if_pos (by omega)]
    rfl
  simp only [kIdx2,idx_tup e]
@[simp] theorem kIdx2_t2 {a b c:D}:kIdx2 (.tup (a :: b :: c :: ds)) (.int 2) S = .ok c S:=by
  have e:atI (a :: b :: c :: ds) (2:Int) = some c:=by
    simp only [atI,ixN,List.length_cons]
    rw [if_pos (by decide),if_pos (by omega)]
    rfl
  simp only [kIdx2,idx_tup e]
@[simp] theorem kIdx2_t3 {a b c d:D}:kIdx2 (.tup (a :: b :: c :: d :: ds)) (.int 3) S = .ok d S:=by
  have e:atI (a :: b :: c :: d :: ds) (3:Int) = some d:=by
    simp only [atI,ixN,List.length_cons]
    rw [if_pos (by decide),if_pos (by omega)]
    rfl
  simp only [kIdx2,idx_tup e]
end
noncomputable def noB:En→Store→Prop:=fun _ _=>False
noncomputable def noR:D→Store→Prop:=fun _ _=>False
noncomputable def FlP (I B:En→Store→Prop) (R:D→Store→Prop) (fl:Fl) (S:Store):Prop:=match fl with
  | .nx τ=>I τ S
  | .ct τ=>I τ S
  | .bk τ=>B τ S
  | .rt d=>R d S
noncomputable def OutP (I B:En→Store→Prop) (R:D→Store→Prop) (fl:Fl) (S:Store):Prop:=match fl with
  | .nx τ=>I τ S ∨ B τ S
  | .rt d=>R d S
  | _=>False
section
variable {I B:En→Store→Prop} {R:D→Store→Prop} {fl:Fl} {S:Store} {τ:En} {d:D}
@[simp] theorem FlP_nx:FlP I B R (.nx τ) S ↔ I τ S:=Iff.rfl
@[simp] theorem FlP_ct:FlP I B R (.ct τ) S ↔ I τ S:=Iff.rfl
@[simp] theorem FlP_bk:FlP I B R (.bk τ) S ↔ B τ S:=Iff.rfl
@[simp] theorem FlP_rt:FlP I B R (.rt d) S ↔ R d S:=Iff.rfl
theorem OutP.nx (h:OutP I noB noR fl S):∃ τ,fl = .nx τ∧I τ S:=by
  cases fl with
  | nx τ=>exact ⟨τ,rfl,h.elim id False.elim⟩
  | _=>exact False.elim h
end
section
variable {C:Pr} {t b c:M} {ds:List D} {S:Store} {τ:En} {B:En→Store→Prop} {R:D→Store→Prop}
theorem loop (I:Nat→En→Store→Prop) (B:En→Store→Prop) (R:D→Store→Prop) (h0:I 0 τ S) (hturn:∀ i d τ S,ds[i]? = some d→I i τ S→Sat (turnF C t b d τ S) (FlP (I (i + 1)) B R)):Sat (kFor C t b τ (none,ds) S) (OutP (I ds.length) B R) :=
  kFor_none I h0 (fun i d τ S e h=>(hturn i d τ S e h).mono fun fl S1 q=>by
    cases fl with
    | nx τ1=>exact q
    | ct τ1=>exact q
    | bk τ1=>exact .inr q
    | rt d=>exact q) fun τ S h=>.inl h
theorem loopS {l:Nat} (I:Nat→En→Store→Prop) (B:En→Store→Prop) (R:D→Store→Prop) (h0:I 0 τ S) (hst:∀ i τ S,I i τ S→S[l]? = some (.lst ds)) (hturn:∀ i d τ S,ds[i]? = some d→I i τ S→Sat (turnF C t b d τ S) (FlP (I (i + 1)) B R)):Sat (kFor C t b τ (some (l,.lst),ds) S) (OutP (I ds.length) B R) :=
  kFor_some I h0 hst (fun i d τ S e h=>(hturn i d τ S e h).mono fun fl S1 q=>by
    cases fl with
    | nx τ1=>exact q
    | ct τ1=>exact q
    | bk τ1=>exact .inr q
    | rt d=>exact q) fun τ S h=>.inl h
end
noncomputable def cutI (ns:List Int) (lo hi:Option Int):List Int:=(ns.drop (HT.sIx ns.length 0 lo)).take (HT.sIx ns.length ns.length hi - HT.sIx ns.length 0 lo)
theorem cutI_len (ns:List Int) (lo hi:Option Int):(cutI ns lo hi).length ≤ ns.length:=by
  unfold cutI
  rw [List.length_take,List.length_drop]
  omega
@[simp] theorem sliD_ints {ns:List Int} {lo hi:Option Int} {S:Store}:sliD (.kl (ns.map D.int)) lo hi S = .ok (.loc S.length) (S ++ [.lst ((cutI ns lo hi).map D.int)]):=by
  simp only [sliD,cutD,cutI,List.length_map,List.map_take,List.map_drop]
@[simp] theorem tru_bl {S:Store} {b:Bool}:tru S (.bl b) = some b:=rfl
@[simp] theorem tru_int {S:Store} {i:Int}:tru S (.int i) = some (i != 0):=rfl
@[simp] theorem tru_non {S:Store}:tru S .non = some false:=rfl
@[simp] theorem tru_tup {S:Store} {ds:List D}:tru S (.tup ds) = some (!ds.isEmpty):=rfl
@[simp] theorem ofString_inj {a b:String}:Str.ofString a = Str.ofString b ↔ a = b:=by
  constructor
  · intro h
    rw [Str.ofString_eq_toList,Str.ofString_eq_toList] at h
    have h1:a.toList.map Char.toNat = b.toList.map Char.toNat:=by
      injection h with h
      have:=congrArg Array.toList h
      simpa using this
    have h2:a.toList = b.toList:=(List.map_inj_right (fun x y e=>Char.ext (UInt32.toNat_inj.mp e))).mp h1
    exact String.toList_inj.mp h2
  · rintro rfl; rfl
theorem atI_last {α:Type} {xs:List α} {x:α}:atI (xs ++ [x]) (-1) = some x:=by
  have h1:¬ (0:Int) ≤ -1:=by decide
  have h2:-(((xs ++ [x]).length:Nat):Int) ≤ -1:=by simp; omega
  simp only [atI,ixN,if_neg h1,if_pos h2,Option.bind_some]
  have:(-1 + (((xs ++ [x]).length:Nat):Int)).toNat = xs.length:=by simp; omega
  rw [this]
  simp
theorem ixN_last {α:Type} {xs:List α} {x:α}:ixN (xs ++ [x]).length (-1) = some xs.length:=by
  have h1:¬ (0:Int) ≤ -1:=by decide
  have h2:-(((xs ++ [x]).length:Nat):Int) ≤ -1:=by simp; omega
  simp only [ixN,if_neg h1,if_pos h2]
  congr 1
  simp; omega
section
variable {S:Store} {l:Nat} {ds:List D} {d:D}
theorem kIdx_loc {i:Int} (h:S[l]? = some (.lst ds)) (e:atI ds i = some d):kIdx2 (.loc l) (.int i) S = .ok d S:=by simp only [kIdx2,idx_loc h e]
theorem set_last {e:D} (h:S[l]? = some (.lst (ds ++ [d]))):setS (.loc l) (.int (-1)) e S = .ok () (S.set l (.lst (ds ++ [e]))):=by
  rw [set_sub h ixN_last]
  simp
theorem meth_pop (h:S[l]? = some (.lst (ds ++ [d]))):methD .pop0 (.loc l) [] S = .ok d (S.set l (.lst ds)):=by
  have:(ds ++ [d])[(ds ++ [d]).length - 1]? = some d:=by simp
  simp only [rmethD_1,h,this,List.dropLast_concat]
theorem tru_loc (h:S[l]? = some (.lst ds)):tru S (.loc l) = some (!ds.isEmpty):=by simp only [tru,seqAt,h]
end
@[simp] theorem ofString_beq {a b:String}:(Str.ofString a == Str.ofString b) = (a == b):=by
  rw [Bool.eq_iff_iff]
  simp
noncomputable def Keep (ps:List Nat) (S S':Store):Prop:=S.length ≤ S'.length∧∀ l:Nat,l < S.length→l ∉ ps→S'[l]? = S[l]?
section
variable {S S1 S2 B:Store} {ps:List Nat}
theorem Keep.refl:Keep ps S S:=⟨Nat.le_refl _,fun _ _ _=>rfl⟩
theorem Keep.trans (a:Keep ps S S1) (b:Keep ps S1 S2):Keep ps S S2:=⟨Nat.le_trans a.1 b.1,fun l h n=>(b.2 l (Nat.lt_of_lt_of_le h a.1) n).trans (a.2 l h n)⟩
theorem Keep.get {l:Nat} {o:Mi.Obj} (a:Keep ps S S1) (h:S[l]? = some o) (n:l ∉ ps):S1[l]? = some o:=(a.2 l (get_lt h) n).trans h
theorem Keep.ext (e:Ext S S1):Keep ps S S1:=⟨e.len,fun l h n=>by
  rw [List.getElem?_eq_getElem h]
  exact e.get (List.getElem?_eq_getElem h)⟩
theorem Keep.new (X:Store):Keep ps S (S ++ X):=.ext (.new _ _)
theorem Keep.set {p:Nat} {o:Mi.Obj} (h:p ∈ ps):Keep ps S (S.set p o):=⟨by simp,fun l hl n=>by
  rw [List.getElem?_set_ne]
  rintro rfl
  exact n h⟩
theorem Keep.mono {qs:List Nat} (a:Keep ps S S1) (h:∀ p ∈ ps,p ∈ qs):Keep qs S S1:=⟨a.1,fun l hl n=>a.2 l hl fun z=>n (h l z)⟩
theorem Ext.keep (e:Ext B S) (k:Keep ps S S1) (h:∀ p ∈ ps,B.length ≤ p):Ext B S1:=by
  refine ⟨S1.drop B.length,?_⟩
  have:B = S1.take B.length:=by
    refine List.ext_getElem? fun i=>?_
    by_cases hi:i < B.length
    · rw [List.getElem?_take_of_lt hi]
      have h1:=e.get (List.getElem?_eq_getElem hi)
      rw [List.getElem?_eq_getElem hi]
      exact (k.get h1 fun z=>absurd (h i z) (by omega)).symm
    · rw [List.getElem?_eq_none (by omega),List.getElem?_eq_none (by rw [List.length_take]; omega)]
  calc S1 = S1.take B.length ++ S1.drop B.length:=(List.take_append_drop _ _).symm
    _ = B ++ S1.drop B.length:=by rw [← this]
end
theorem sliD_loc {S:Store} {l:Nat} {ds:List D} {lo hi:Option Int} (h:S[l]? = some (.lst ds)):sliD (.loc l) lo hi S = .ok (.loc S.length) (S ++ [.lst (cutD ds lo hi)]):=by simp only [sliD,seqAt,h]
theorem cut_from {ds:List D} {i:Int} (h0:0 ≤ i):cutD ds (some i) none = ds.drop i.toNat:=by
  simp only [cutD,HT.sIx]
  rw [if_neg (by omega)]
  by_cases h:i.toNat ≤ ds.length
  · rw [show min i.toNat ds.length = i.toNat by omega]
    rw [List.take_of_length_le (by rw [List.length_drop]; omega)]
  · rw [List.drop_eq_nil_of_le (by omega:ds.length ≤ i.toNat),List.drop_eq_nil_of_le (by omega),List.take_nil]
theorem kComp_of {α:Type} {C:Pr} {k:Nat} {keep:List Nat} {tg cd el:M} {τ:En} {S:Store} {g:Wk} {xs:List α} (h:α→D) (f:α→D) (hl:xs.length ≤ 1000000) (hg:g = none ∨ ∃ l,g = some (l,.lst)∧S[l]? = some (.lst (xs.map h)))
    (ht:∀ x ∈ xs,turnC C tg cd el (h x) (inEn k keep τ) S = .ok (some (f x)) S):kComp C k keep tg cd el τ (g,xs.map h) S = .ok (.loc S.length) (S ++ [.lst (xs.map f)]):=by
  have main:Sat (compL (turnC C tg cd el) g (xs.map h) (xs.map h).length 0 (inEn k keep τ) S []) fun ys S1=>ys = xs.map f∧S1 = S:=by
    have len:∀ (i:Nat) (acc:List D) (S1:Store),(acc = (xs.take i).map f∧S1 = S∧i ≤ xs.length)→acc.length ≤ i:=fun i acc S1 h=>by
      rw [h.1,List.length_map,List.length_take]; omega
    have tn:∀ (i:Nat) (d:D) (acc:List D) (S1:Store),(xs.map h)[i]? = some d→(acc = (xs.take i).map f∧S1 = S∧i ≤ xs.length)→Sat (turnC C tg cd el d (inEn k keep τ) S1) fun o S1=>match o with | some y=>(acc ++ [y] = (xs.take (i + 1)).map f∧S1 = S∧i + 1 ≤ xs.length) | none=>(acc = (xs.take (i + 1)).map f∧S1 = S∧i + 1 ≤ xs.length):=by
      rintro i d acc S1 hd ⟨rfl,rfl,hi⟩
      rw [List.getElem?_map] at hd
      obtain ⟨x,hx,rfl⟩:=Option.map_eq_some_iff.mp hd
      rw [ht x (List.mem_of_getElem? hx)]
      refine .ok ⟨?_,rfl,(List.getElem?_eq_some_iff.mp hx).1⟩
      rw [List.take_add_one,hx,List.map_append]
      rfl
    have hln:(xs.map h).length ≤ Line:=by rw [List.length_map]; exact line_big hl
    rcases hg with rfl | ⟨l,rfl,hs⟩
    · exact compL_none (fun i acc S1=>acc = (xs.take i).map f∧S1 = S∧i ≤ xs.length) hln len (fun acc S1 h=>by rw [List.length_map,List.take_length] at h; exact ⟨h.1,h.2.1⟩) tn _ 0 [] S (by omega) ⟨by simp,rfl,by omega⟩
    · exact compL_some (fun i acc S1=>acc = (xs.take i).map f∧S1 = S∧i ≤ xs.length) hln (fun i acc S1 h=>⟨len i acc S1 h,by rw [h.2.1]; exact hs⟩) (fun acc S1 h=>by rw [List.length_map,List.take_length] at h; exact ⟨h.1,h.2.1⟩) tn _ 0 [] S (by omega) ⟨by simp,rfl,by omega⟩
  obtain ⟨ys,S1,e,rfl,rfl⟩:=main
  simp only [kComp,e,Res.bind_ok,kComp1]
noncomputable def dropS:Nat→M→M
  | 0,m=>m
  | n + 1,.cns _ r=>dropS n r
  | _,m=>m
end Mi
namespace Mi
open PySem L2
section
variable {S:Store} {l:Nat} {kvs:List (Int × D)} {fs:List (String × D)} {c f m:String} {x:Int} {d:D} {ds:List D}
theorem seqAt_of (h:S[l]? = some (.lst ds)):seqAt S l = some ds:=by unfold seqAt; rw [h]
theorem rcv_loc (h:S[l]? = some (.lst ds)):rcv S (.loc l) = true:=by simp only [rcv,seqAt_of h,Option.isSome_some]
end
end Mi
namespace Tx
open PySem PySem.W.KIN PySem.NumText PyProof.Rows
noncomputable def sg (x:PySem.Str):List Nat:=x.cps.toList
noncomputable def dg (m:Nat):List Nat:=(Nat.toDigits 10 m).map Char.toNat
theorem sg_nat (m:Nat):sg (Str.ofString (toString ((m:Nat):Int))) = dg m:=signs_num m
theorem sg_neg (m:Nat):sg (Str.ofString (toString (Int.negSucc m))) = 45 :: dg (m + 1):=by
  unfold sg
  rw [signs_ofString]
  show ("-" ++ Nat.repr (m + 1)).toList.map Char.toNat = _
  rw [String.toList_append,Nat.toList_repr]
  rfl
theorem dg_digits (m:Nat):AllDigits (dg m):=by
  intro c hc
  obtain ⟨ch,hch,e⟩:=List.mem_map.mp hc
  have r:=digit_range (Nat.isDigit_of_mem_toDigits (by decide) (by decide) hch)
  rw [← e]
  exact r
theorem dg_ne (m:Nat):dg m ≠ []:=by
  intro e
  have h:=toDigits_len_ge 10 m
  rw [List.map_eq_nil_iff.mp e] at h
  exact absurd h (by decide)
theorem dg_val (m:Nat):digitsVal (dg m) = m:=val_back m
theorem dg_step (m:Nat) (h:10 ≤ m):dg m = dg (m / 10) ++ dg (m % 10):=by
  have hm:m % 10 < 10:=Nat.mod_lt m (by decide)
  have t:Nat.toDigits 10 (m / 10) ++ Nat.toDigits 10 (m % 10) = Nat.toDigits 10 (10 * (m / 10) + m % 10):=Nat.toDigits_append_toDigits (by decide) (by omega) hm
  rw [Nat.div_add_mod] at t
  unfold dg
  rw [← t,List.map_append]
theorem dg_one {d:Nat} (h:d < 10):dg d = [48 + d]:=by
  unfold dg
  rw [Nat.toDigits_of_lt_base h]
  have:∀ d:Nat,d < 10→[(Nat.digitChar d).toNat] = [48 + d]:=by decide
  exact this d h
theorem dg_head:∀ m:Nat,0 < m→∃ c r,dg m = c :: r∧49 ≤ c∧c ≤ 57:=by
  intro m
  induction m using Nat.strongRecOn with
  | _ m ih =>
    intro h0
    by_cases h:m < 10
    · exact ⟨48 + m,[],dg_one h,by omega,by omega⟩
    · obtain ⟨c,r,e,h1,h2⟩:=ih (m / 10) (by omega) (by omega)
      rw [dg_step m (by omega),e]
      exact ⟨c,r ++ dg (m % 10),rfl,h1,h2⟩
theorem dg_len:∀ (k m:Nat),m < 10 ^ (k + 1)→(dg m).length ≤ k + 1
  | 0,m,h=>by rw [dg_one (by simpa using h)]; simp
  | k + 1,m,h=>by
    by_cases hm:m < 10
    · rw [dg_one hm]; simp
    · rw [dg_step m (by omega),List.length_append,dg_one (Nat.mod_lt m (by decide))]
      have:=dg_len k (m / 10) (by rw [Nat.pow_succ] at h; omega)
      simp
      omega
noncomputable def fig (l:List Nat):List Nat:=if l.head? = some 45 then l.tail else l
noncomputable def isNum (l:List Nat):Bool:=decide (1 ≤ (fig l).length) && decide ((fig l).length ≤ 60) && (fig l).all (fun c=>decide (48 ≤ c∧c ≤ 57)) && (decide ((fig l).head? ≠ some 48) || decide (l = [48]))
theorem all_of {l:List Nat} (h:AllDigits l):l.all (fun c=>decide (48 ≤ c∧c ≤ 57)) = true:=by
  rw [List.all_eq_true]
  intro c hc
  exact decide_eq_true (h c hc)
theorem fig_dg (m:Nat):fig (dg m) = dg m:=by
  unfold fig
  rw [if_neg]
  intro h
  obtain ⟨c,r,e⟩:=List.exists_cons_of_ne_nil (dg_ne m)
  rw [e] at h
  have:=(dg_digits m) c (by rw [e]; simp)
  simp at h
  omega
theorem fig_neg (m:Nat):fig (45 :: dg m) = dg m:=rfl
theorem len_pos (m:Nat):1 ≤ (dg m).length:=by
  have:=List.length_pos_iff.mpr (dg_ne m)
  omega
theorem isNum_nat {m:Nat} (h:m < 10 ^ 60):isNum (dg m) = true:=by
  have h1:=dg_len 59 m h
  have h2:=len_pos m
  unfold isNum
  rw [fig_dg,all_of (dg_digits m)]
  by_cases h0:m = 0
  · subst h0; decide
  · obtain ⟨c,r,e,h3,h4⟩:=dg_head m (by omega)
    have:(dg m).head? ≠ some 48:=by rw [e]; simp; omega
    simp [this,h1,h2]
theorem isNum_neg {m:Nat} (h0:0 < m) (h:m < 10 ^ 60):isNum (45 :: dg m) = true:=by
  have h1:=dg_len 59 m h
  have h2:=len_pos m
  unfold isNum
  rw [fig_neg,all_of (dg_digits m)]
  obtain ⟨c,r,e,h3,h4⟩:=dg_head m h0
  have:(dg m).head? ≠ some 48:=by rw [e]; simp; omega
  simp [this,h1,h2]
theorem reads {i:Int} (h:i.natAbs < 10 ^ 60):intText? (Str.ofString (toString i)) = some i:=by
  cases i with
  | ofNat m =>
    have hl:=dg_len 59 m h
    have e:=sg_nat m
    have:=intText_digits (x:=Str.ofString (toString ((m:Nat):Int))) (by rw [show (Str.ofString (toString ((m:Nat):Int))).cps.toList = dg m from e]; exact dg_digits m) (by rw [show (Str.ofString (toString ((m:Nat):Int))).cps.toList = dg m from e]; exact dg_ne m) (by
      show (Str.ofString (toString ((m:Nat):Int))).cps.size ≤ 4300
      rw [← Array.length_toList,show (Str.ofString (toString ((m:Nat):Int))).cps.toList = dg m from e]
      omega)
    rw [show (Str.ofString (toString ((m:Nat):Int))).cps.toList = dg m from e,dg_val] at this
    exact this
  | negSucc m =>
    have hl:=dg_len 59 (m + 1) h
    have e:=sg_neg m
    have:=intText_neg (x:=Str.ofString (toString (Int.negSucc m))) (cs:=dg (m + 1)) e (dg_digits _) (dg_ne _) (by
      show (Str.ofString (toString (Int.negSucc m))).cps.size ≤ 4300
      rw [← Array.length_toList,show (Str.ofString (toString (Int.negSucc m))).cps.toList = 45 :: dg (m + 1) from e]
      simp
      omega)
    rw [this,dg_val]
    rfl
noncomputable def cut (c:Nat):List Nat→List (List Nat)
  | []=>[[]]
  | x :: l=>if x = c then [] :: cut c l else (match cut c l with | p :: r=>(x :: p) :: r | []=>[[x]])
theorem cutS_eq (x:PySem.Str) (lo hi:Option Int):Mi.cutS x lo hi = StrLaws.sliceText x lo hi:=rfl
theorem sg_from {x:PySem.Str} {i:Int} (h:0 ≤ i∧i ≤ (sg x).length):sg (Mi.cutS x (some i) none) = (sg x).drop i.toNat:=by
  rw [cutS_eq,StrLaws.sliceText_from h]
  simp only [sg,List.toList_toArray]
  rw [List.take_of_length_le]
  simp
  omega
theorem starts_one (x:PySem.Str) (c:Nat):Txt.startswith x ⟨#[c]⟩ = decide ((sg x).head? = some c):=by
  have h:=StrLaws.subAt_one x c 0
  unfold Txt.startswith
  by_cases e:(sg x).head? = some c
  · have:=h.mpr (by rw [← List.head?_eq_getElem?]; exact e)
    simp [e,this.2]
    simpa using this.1
  · rw [decide_eq_false e]
    refine Bool.eq_false_iff.mpr fun q=>?_
    simp only [Bool.and_eq_true,decide_eq_true_eq] at q
    exact e (by rw [List.head?_eq_getElem?]; exact h.mp q)
theorem in_one (x:PySem.Str) (c:Nat):(!(Builtin.Str.occurrences x ⟨#[c]⟩ 0 x.length 1).isEmpty) = decide (c ∈ sg x):=StrLaws.found_one x c
theorem in_figures (c:Nat):decide (c ∈ sg (Str.ofString "0123456789")) = decide (48 ≤ c∧c ≤ 57):=by
  have e:sg (Str.ofString "0123456789") = [48,49,50,51,52,53,54,55,56,57]:=by decide
  rw [e,decide_eq_decide]
  simp
  omega
end Tx
namespace Tx
open PySem PySem.StrLaws
noncomputable def joinL (y:List Nat):List (List Nat)→List Nat
  | []=>[]
  | [p]=>p
  | p :: q :: r=>p ++ (y ++ joinL y (q :: r))
theorem sg_app (x y:PySem.Str):sg (x ++ y) = sg x ++ sg y:=by
  unfold sg
  rw [PySem.Str.cps_append]
  simp
theorem sg_inj {x y:PySem.Str} (h:sg x = sg y):x = y:=by
  obtain ⟨a⟩:=x
  obtain ⟨b⟩:=y
  have:a.toList = b.toList:=h
  rw [Array.toList_inj.mp this]
theorem len_sg (x:PySem.Str):x.length = (sg x).length:=by
  show x.cps.size = x.cps.toList.length
  simp
theorem sg_join (y:PySem.Str):∀ ps:List PySem.Str,sg (Str.join y ps) = joinL (sg y) (ps.map sg)
  | []=>rfl
  | [p]=>rfl
  | p :: q :: r=>by
    show sg (p ++ y ++ Str.join y (q :: r)) = sg p ++ (sg y ++ joinL (sg y) ((q :: r).map sg))
    rw [sg_app,sg_app,sg_join y (q :: r),List.append_assoc]
theorem at_iff {x y:PySem.Str} {k:Nat}:At x y x.length k ↔ k + (sg y).length ≤ (sg x).length∧((sg x).drop k).take (sg y).length = sg y:=by
  unfold At
  rw [subAt_eq,beq_iff_eq,len_sg x,len_sg y]
  rfl
theorem at_j {x y:PySem.Str} {k c j:Nat} (hc:(sg y)[j]? = some c) (h:At x y x.length k):(sg x)[k + j]? = some c:=by
  obtain ⟨_,e⟩:=at_iff.mp h
  have hj:j < (sg y).length:=(List.getElem?_eq_some_iff.mp hc).1
  have:(((sg x).drop k).take (sg y).length)[j]? = some c:=by rw [e,hc]
  rw [List.getElem?_take_of_lt hj,List.getElem?_drop] at this
  exact this
theorem at_c {x y:PySem.Str} {k c:Nat} {t:List Nat} (hc:sg y = c :: t) (h:At x y x.length k):(sg x)[k]? = some c:=at_j (j:=0) (by rw [hc]; rfl) h
theorem sub_is {x p:PySem.Str} {a b:Nat} (h:((sg x).drop a).take (b - a) = sg p):Builtin.Str.strSub x a b = p:=sg_inj (by rw [← h]; exact strSub_toList x a b)
theorem parts_are {x y:PySem.Str} {c j:Nat} (hc:(sg y)[j]? = some c) (hj:∀ i,i < j→(sg y)[i]? ≠ some c):∀ (ps:List PySem.Str) (a:Nat) (cuts:List Nat) (f:Nat),ps ≠ []→(∀ p ∈ ps,c ∉ sg p)→(sg x).drop a = joinL (sg y) (ps.map sg)→a ≤ (sg x).length →
    ChainG x y x.length a cuts f→(∀ k,f ≤ k→¬ At x y x.length k)→partsFrom x y.length a cuts = ps
  | [],_,_,_,ne,_,_,_,_,_=>absurd rfl ne
  | [p],a,[],f,_,fr,e,ha,h,hn=>by
    show [Builtin.Str.strSub x a x.length] = [p]
    rw [sub_is (p:=p)]
    rw [show (sg x).drop a = sg p from e,len_sg x]
    refine List.take_of_length_le ?_
    rw [← show (sg x).drop a = sg p from e,List.length_drop]
    exact Nat.le_refl _
  | [p],a,d :: r,f,_,fr,e,ha,h,hn=>by
    have h1:=at_j hc h.2.1
    have h2:a ≤ d:=h.1
    have:((sg x).drop a)[d - a + j]? = some c:=by rw [List.getElem?_drop,show a + (d - a + j) = d + j from by omega]; exact h1
    rw [show (sg x).drop a = sg p from e] at this
    exact absurd (List.mem_of_getElem? this) (fr p (by simp))
  | p :: q :: rs,a,cuts,f,_,fr,e,ha,h,hn=>by
    have e:(sg x).drop a = sg p ++ (sg y ++ joinL (sg y) ((q :: rs).map sg)):=e
    have le:(sg x).length - a = (sg p).length + ((sg y).length + (joinL (sg y) ((q :: rs).map sg)).length):=by
      have:=congrArg List.length e
      rw [List.length_drop,List.length_append,List.length_append] at this
      exact this
    have dp:(sg x).drop (a + (sg p).length) = sg y ++ joinL (sg y) ((q :: rs).map sg):=by
      rw [← List.drop_drop,e,List.drop_left]
    have hat:At x y x.length (a + (sg p).length):=at_iff.mpr ⟨by omega,by rw [dp,List.take_left]⟩
    cases cuts with
    | nil =>
      have ef:f = a:=h
      subst ef
      exact absurd hat (hn _ (by omega))
    | cons d r =>
      have h1:a ≤ d:=h.1
      have h2:d ≤ a + (sg p).length:=Nat.le_of_not_lt fun z=>h.2.2.1 _ (by omega) z hat
      have h3:d = a + (sg p).length:=by
        refine Nat.le_antisymm h2 (Nat.le_of_not_lt fun z=>?_)
        have k1:=at_j hc h.2.1
        have:((sg x).drop a)[d - a + j]? = some c:=by rw [List.getElem?_drop,show a + (d - a + j) = d + j from by omega]; exact k1
        rw [e] at this
        by_cases hp:d - a + j < (sg p).length
        · rw [List.getElem?_append_left hp] at this
          exact fr p (by simp) (List.mem_of_getElem? this)
        · have hy:j < (sg y).length:=(List.getElem?_eq_some_iff.mp hc).1
          rw [List.getElem?_append_right (by omega),List.getElem?_append_left (by omega)] at this
          exact hj _ (by omega) this
      subst h3
      show Builtin.Str.strSub x a (a + (sg p).length) :: partsFrom x y.length (a + (sg p).length + y.length) r = _
      rw [sub_is (p:=p) (by rw [e,Nat.add_sub_cancel_left,List.take_left])]
      have ih:=parts_are hc hj (q :: rs) (a + (sg p).length + y.length) r f (by simp) (fun p hp=>fr p (List.mem_cons_of_mem _ hp)) (by rw [len_sg y,← List.drop_drop,dp,List.drop_left]) (by rw [len_sg y]; omega) h.2.2.2 hn
      rw [ih]
theorem split_joinJ {y:PySem.Str} {c j:Nat} (hc:(sg y)[j]? = some c) (hj:∀ i,i < j→(sg y)[i]? ≠ some c) (hk:∀ x:PySem.Str,Builtin.Str.strKind y ≤ Builtin.Str.strKind x) {ps:List PySem.Str} (ne:ps ≠ []) (fr:∀ p ∈ ps,c ∉ sg p):Txt.split (Str.join y ps) y = ps:=by
  obtain ⟨x,hx⟩:∃ x,Str.join y ps = x:=⟨_,rfl⟩
  have e:=sg_join y ps
  rw [hx] at e ⊢
  obtain ⟨f,hG,hn⟩:=occ_tight x y (by rw [len_sg]; have:=(List.getElem?_eq_some_iff.mp hc).1; omega)
  have key:=parts_are hc hj ps 0 _ f ne fr (by rw [List.drop_zero]; exact e) (Nat.zero_le _) hG hn
  unfold Txt.split
  split
  · rename_i h
    rw [Bool.or_eq_true,decide_eq_true_eq,decide_eq_true_eq] at h
    have hl:x.length < y.length:=h.resolve_right (by have:=hk x; omega)
    cases ho:Builtin.Str.occurrences x y 0 x.length (x.length + 1) with
    | nil =>
      rw [ho] at key
      rw [← key]
      show _ = [Builtin.Str.strSub x 0 x.length]
      rw [sub_whole]
    | cons d r =>
      rw [ho] at hG
      have:=hG.2.1.1
      omega
  · split
    · rename_i h
      have ho:=List.isEmpty_iff.mp h
      rw [ho] at key
      rw [← key]
      show _ = [Builtin.Str.strSub x 0 x.length]
      rw [sub_whole]
    · rw [partsBetween_eq]
      exact key
theorem split_join {y:PySem.Str} {c:Nat} {t:List Nat} (hc:sg y = c :: t) (hk:∀ x:PySem.Str,Builtin.Str.strKind y ≤ Builtin.Str.strKind x) {ps:List PySem.Str} (ne:ps ≠ []) (fr:∀ p ∈ ps,c ∉ sg p):Txt.split (Str.join y ps) y = ps :=
  split_joinJ (j:=0) (by rw [hc]; rfl) (fun i h=>absurd h (by omega)) hk ne fr
theorem kind_one (x:PySem.Str):1 ≤ Builtin.Str.strKind x:=by
  unfold Builtin.Str.strKind
  split
  · decide
  · split<;>decide
end Tx
namespace Tx
open PySem PySem.StrLaws
theorem occ_one (s sub:PySem.Str) (hi L a:Nat) (l:List Nat) (st:Array Nat × Nat):(forIn (a :: l) st (occBody s sub hi L)).run = (forIn l (if ((st.fst.size < L∧st.snd ≤ a)∧a + sub.length ≤ hi)∧Builtin.Str.subAt s sub a = true then (st.fst.push a,a + sub.length) else st) (occBody s sub hi L)).run:=by
  rw [List.forIn_cons]
  by_cases h:((st.fst.size < L∧st.snd ≤ a)∧a + sub.length ≤ hi)∧Builtin.Str.subAt s sub a = true
  · rw [if_pos h]
    unfold occBody
    rw [if_pos h]
    rfl
  · rw [if_neg h]
    unfold occBody
    rw [if_neg h]
    rfl
theorem occ_run (s sub:PySem.Str) (hi:Nat) {L M:Nat} (hLM:L ≤ M):∀ (l:List Nat) (st st':Array Nat × Nat),((st = st'∧st.fst.size ≤ L) ∨ (st.fst.size = L∧st.fst.toList = st'.fst.toList.take L)) →
    (forIn l st (occBody s sub hi L)).run.fst.toList = ((forIn l st' (occBody s sub hi M)).run.fst.toList).take L
  | [],st,st',h=>by
    show st.fst.toList = st'.fst.toList.take L
    rcases h with ⟨rfl,h⟩ | ⟨_,h⟩
    · rw [List.take_of_length_le (by simpa using h)]
    · exact h
  | a :: l,st,st',h=>by
    rw [occ_one,occ_one]
    refine occ_run s sub hi hLM l _ _ ?_
    rcases h with ⟨rfl,h⟩ | ⟨h1,h2⟩
    · by_cases hz:st.fst.size < L
      · by_cases hc:(st.snd ≤ a∧a + sub.length ≤ hi)∧Builtin.Str.subAt s sub a = true
        · rw [if_pos ⟨⟨⟨hz,hc.1.1⟩,hc.1.2⟩,hc.2⟩,if_pos ⟨⟨⟨by omega,hc.1.1⟩,hc.1.2⟩,hc.2⟩]
          exact .inl ⟨rfl,by simp; omega⟩
        · rw [if_neg fun z=>hc ⟨⟨z.1.1.2,z.1.2⟩,z.2⟩,if_neg fun z=>hc ⟨⟨z.1.1.2,z.1.2⟩,z.2⟩]
          exact .inl ⟨rfl,h⟩
      · rw [if_neg fun z=>hz z.1.1.1]
        have hL:st.fst.size = L:=by omega
        refine .inr ⟨hL,?_⟩
        split
        · rw [Array.toList_push,List.take_append_of_le_length (by simp; omega),List.take_of_length_le (by simp; omega)]
        · rw [List.take_of_length_le (by simp; omega)]
    · rw [if_neg fun z=>absurd z.1.1.1 (by omega)]
      refine .inr ⟨h1,?_⟩
      have l1:L ≤ st'.fst.toList.length:=by
        have:=congrArg List.length h2
        rw [List.length_take,Array.length_toList] at this
        omega
      split
      · rw [Array.toList_push,List.take_append_of_le_length l1]
        exact h2
      · exact h2
theorem occ_take (x y:PySem.Str) {L M:Nat} (h:L ≤ M):Builtin.Str.occurrences x y 0 x.length L = (Builtin.Str.occurrences x y 0 x.length M).take L:=by
  rw [occ_eq,occ_eq]
  exact occ_run x y x.length h _ _ _ (.inl ⟨rfl,by simp⟩)
theorem first_cut {x y:PySem.Str} {c:Nat} {t:List Nat} (hc:sg y = c :: t) {a:Nat} {A R:List Nat} (ha:a ≤ (sg x).length) (e:(sg x).drop a = A ++ (sg y ++ R)) (hA:c ∉ A) {cuts:List Nat} {f:Nat} (h:ChainG x y x.length a cuts f) (hn:∀ k,f ≤ k→¬ At x y x.length k) :
    ∃ r,cuts = (a + A.length) :: r∧ChainG x y x.length (a + A.length + y.length) r f:=by
  have le:(sg x).length - a = A.length + ((sg y).length + R.length):=by
    have:=congrArg List.length e
    rw [List.length_drop,List.length_append,List.length_append] at this
    exact this
  have dp:(sg x).drop (a + A.length) = sg y ++ R:=by
    rw [← List.drop_drop,e,List.drop_left]
  have hat:At x y x.length (a + A.length):=at_iff.mpr ⟨by omega,by rw [dp,List.take_left]⟩
  cases cuts with
  | nil =>
    have ef:f = a:=h
    subst ef
    exact absurd hat (hn _ (by omega))
  | cons d r =>
    have h1:a ≤ d:=h.1
    have h2:d ≤ a + A.length:=Nat.le_of_not_lt fun z=>h.2.2.1 _ (by omega) z hat
    have h3:d = a + A.length:=by
      refine Nat.le_antisymm h2 (Nat.le_of_not_lt fun z=>?_)
      have k1:=at_c hc h.2.1
      have:((sg x).drop a)[d - a]? = some c:=by rw [List.getElem?_drop,show a + (d - a) = d from by omega]; exact k1
      rw [e,List.getElem?_append_left (by omega)] at this
      exact hA (List.mem_of_getElem? this)
    subst h3
    exact ⟨r,rfl,h.2.2.2⟩
theorem two_cuts {y p q r:PySem.Str} {c:Nat} {t:List Nat} (hc:sg y = c :: t) (hp:c ∉ sg p) (hq:c ∉ sg q) :
    Builtin.Str.occurrences (Str.join y [p,q,r]) y 0 (Str.join y [p,q,r]).length 2 = [(sg p).length,(sg p).length + (sg y).length + (sg q).length]∧StrLaws.partsFrom (Str.join y [p,q,r]) y.length 0 [(sg p).length,(sg p).length + (sg y).length + (sg q).length] = [p,q,r]:=by
  have e:=sg_join y [p,q,r]
  obtain ⟨x,hx⟩:∃ x,Str.join y [p,q,r] = x:=⟨_,rfl⟩
  rw [hx] at e ⊢
  have e:sg x = sg p ++ (sg y ++ (sg q ++ (sg y ++ sg r))):=e
  have ll:(sg x).length = (sg p).length + ((sg y).length + ((sg q).length + ((sg y).length + (sg r).length))):=by rw [e]; simp
  have ly:y.length = (sg y).length:=len_sg y
  obtain ⟨f,hG,hn⟩:=occ_tight x y (by rw [len_sg,hc]; simp)
  obtain ⟨r1,e1,G1⟩:=first_cut hc (Nat.zero_le _) (by rw [List.drop_zero]; exact e) hp hG hn
  have d1:(sg x).drop (0 + (sg p).length + y.length) = sg q ++ (sg y ++ sg r):=by
    rw [ly,Nat.zero_add,← List.drop_drop,e,List.drop_left,List.drop_left]
  obtain ⟨r2,e2,_⟩:=first_cut hc (by omega) d1 hq G1 hn
  have d2:(sg x).drop ((sg p).length + (sg y).length + (sg q).length + (sg y).length) = sg r:=by
    rw [← List.drop_drop,← List.drop_drop,← List.drop_drop,e,List.drop_left,List.drop_left,List.drop_left,List.drop_left]
  constructor
  · have y1:1 ≤ (sg y).length:=by rw [hc]; simp
    rw [occ_take x y (L:=2) (M:=x.length + 1) (by rw [len_sg x]; omega),e1,e2,ly]
    simp
  · show [Builtin.Str.strSub x 0 (sg p).length,Builtin.Str.strSub x ((sg p).length + y.length) ((sg p).length + (sg y).length + (sg q).length),Builtin.Str.strSub x ((sg p).length + (sg y).length + (sg q).length + y.length) x.length] = [p,q,r]
    rw [sub_is (p:=p) (by rw [List.drop_zero,Nat.sub_zero,e,List.take_left])]
    rw [sub_is (p:=q) (by rw [show (sg p).length + y.length = 0 + (sg p).length + y.length from by omega,d1,show (sg p).length + (sg y).length + (sg q).length - (0 + (sg p).length + y.length) = (sg q).length from by omega,List.take_left])]
    rw [sub_is (p:=r) (by rw [ly,d2,len_sg x]; exact List.take_of_length_le (by omega))]
theorem starts_is (x y:PySem.Str):Txt.startswith x y = decide ((sg x).take (sg y).length = sg y):=by
  unfold Txt.startswith
  rw [subAt_eq,List.drop_zero,Nat.zero_add,len_sg,len_sg]
  by_cases h:(sg x).take (sg y).length = sg y
  · have:(sg y).length ≤ (sg x).length:=by
      have:=congrArg List.length h
      rw [List.length_take] at this
      omega
    rw [decide_eq_true this,decide_eq_true h,Bool.true_and]
    exact beq_iff_eq.mpr h
  · rw [decide_eq_false h]
    refine Bool.eq_false_iff.mpr fun z=>?_
    rw [Bool.and_eq_true] at z
    exact h (beq_iff_eq.mp z.2)
end Tx
namespace K64
open PySem L2 Mi
noncomputable def f_is_whole:Fn:=⟨["thing"],["thing"],
  (.cns (.ret (.bo true (.cns (.isi (.var 0) "int") (.cns (.nott (.isi (.var 0) "bool")) .nul)))) .nul)⟩
noncomputable def f_is_within:Fn:=⟨["thing","least","most"],["thing","least","most"],
  (.cns (.ret (.bo true (.cns (.call "is_whole" (.cns (.var 0) .nul)) (.cns (.cmp2 .le .le (.var 1) (.var 0) (.var 2)) .nul)))) .nul)⟩
noncomputable def f_is_tuple:Fn:=⟨["thing","least","most"],["thing","least","most"],
  (.cns (.ret (.bo true (.cns (.isi (.var 0) "tuple") (.cns (.cmp2 .le .le (.var 1) (.prim .len (.cns (.var 0) .nul)) (.var 2)) .nul)))) .nul)⟩
noncomputable def f_is_lock:Fn:=⟨["thing"],["thing"],
  (.cns (.ifs (.nott (.call "is_tuple" (.cns (.var 0) (.cns (.cst (.int 0)) (.cns (.glb "MOST_ROWS") .nul))))) (.cns (.ret (.cst (.bl false))) .nul) .nul) (.cns (.ret (.bo true (.cns (.prim .all1 (.cns (.comp ["row"] 1 [] (.tvar 0) (.cns (.var 0) .nul) .nul (.call "is_row" (.cns (.var 0) .nul))) .nul)) (.cns (.call "ifs_fit" (.cns (.var 0) .nul)) .nul)))) .nul))⟩
noncomputable def f_are_keys:Fn:=⟨["thing"],["thing"],
  (.cns (.ret (.bo true (.cns (.call "is_tuple" (.cns (.var 0) (.cns (.cst (.int 0)) (.cns (.glb "MOST_KEYS") .nul)))) (.cns (.prim .all1 (.cns (.comp ["key"] 1 [] (.tvar 0) (.cns (.var 0) .nul) .nul (.call "is_short" (.cns (.var 0) .nul))) .nul)) .nul)))) .nul)⟩
noncomputable def f_is_short:Fn:=⟨["thing"],["thing"],
  (.cns (.ret (.bo true (.cns (.call "is_whole" (.cns (.var 0) .nul)) (.cns (.cmp .lt (.prim .abs (.cns (.var 0) .nul)) (.bin .pow (.cst (.int 10)) (.cst (.int 50)))) .nul)))) .nul)⟩
noncomputable def f_is_row:Fn:=⟨["thing"],["thing"],
  (.cns (.ifs (.bo false (.cns (.nott (.call "is_tuple" (.cns (.var 0) (.cns (.cst (.int 1)) (.cns (.cst (.int 2)) .nul))))) (.cns (.nott (.isi (.idx (.var 0) (.cst (.int 0))) "str")) .nul))) (.cns (.ret (.cst (.bl false))) .nul) .nul) (.cns (.ifs (.cmp .eq (.prim .len (.cns (.var 0) .nul)) (.cst (.int 1))) (.cns (.ret (.cmp .inn (.idx (.var 0) (.cst (.int 0))) (.glb "LONE_WORDS"))) .nul) .nul) (.cns (.ifs (.cmp .eq (.idx (.var 0) (.cst (.int 0))) (.cst (.str "push"))) (.cns (.ret (.call "is_short" (.cns (.idx (.var 0) (.cst (.int 1))) .nul))) .nul) .nul) (.cns (.ret (.bo true (.cns (.cmp .inn (.idx (.var 0) (.cst (.int 0))) (.glb "PLACE_WORDS")) (.cns (.call "is_within" (.cns (.idx (.var 0) (.cst (.int 1))) (.cns (.cst (.int 0)) (.cns (.glb "LAST_PLACE") .nul)))) .nul)))) .nul))))⟩
noncomputable def f_ifs_fit:Fn:=⟨["rows"],["rows","elses","row"],
  (.cns (.asg (.tvar 1) (.lst .nul)) (.cns (.forr (.tvar 2) (.cns (.var 0) .nul) (.cns (.ifs (.cmp .eq (.idx (.var 2) (.cst (.int 0))) (.cst (.str "if"))) (.cns (.exp (.meth .append (.var 1) (.cns (.cst (.bl false)) .nul))) .nul) (.cns (.ifs (.cmp .eq (.idx (.var 2) (.cst (.int 0))) (.cst (.str "else"))) (.cns (.ifs (.bo false (.cns (.nott (.var 1)) (.cns (.idx (.var 1) (.neg (.cst (.int 1)))) .nul))) (.cns (.ret (.cst (.bl false))) .nul) .nul) (.cns (.asg (.tsub (.var 1) (.neg (.cst (.int 1)))) (.cst (.bl true))) .nul)) (.cns (.ifs (.cmp .eq (.idx (.var 2) (.cst (.int 0))) (.cst (.str "end"))) (.cns (.ifs (.nott (.var 1)) (.cns (.ret (.cst (.bl false))) .nul) .nul) (.cns (.exp (.meth .pop0 (.var 1) .nul)) .nul)) .nul) .nul)) .nul)) (.cns (.ifs (.cmp .gt (.prim .len (.cns (.var 1) .nul)) (.glb "MOST_IFS_WITHIN")) (.cns (.ret (.cst (.bl false))) .nul) .nul) .nul))) (.cns (.ret (.nott (.var 1))) .nul)))⟩
noncomputable def f_is_maker:Fn:=⟨["deed"],["deed"],
  (.cns (.ret (.cmp .eq (.prim .len (.cns (.idx (.var 0) (.cst (.int 1))) .nul)) (.cst (.int 0)))) .nul)⟩
noncomputable def f_is_deed:Fn:=⟨["thing"],["thing"],
  (.cns (.ifs (.nott (.call "is_tuple" (.cns (.var 0) (.cns (.cst (.int 3)) (.cns (.cst (.int 3)) .nul))))) (.cns (.ret (.cst (.bl false))) .nul) .nul) (.cns (.ret (.bo true (.cns (.call "is_within" (.cns (.idx (.var 0) (.cst (.int 0))) (.cns (.cst (.int 1)) (.cns (.bin .pow (.cst (.int 10)) (.cst (.int 30))) .nul)))) (.cns (.call "are_ins" (.cns (.idx (.var 0) (.cst (.int 1))) .nul)) (.cns (.call "are_outs" (.cns (.idx (.var 0) (.cst (.int 2))) .nul)) .nul))))) .nul))⟩
noncomputable def f_are_ins:Fn:=⟨["thing"],["thing"],
  (.cns (.ret (.bo true (.cns (.call "is_tuple" (.cns (.var 0) (.cns (.cst (.int 0)) (.cns (.glb "MOST_INS") .nul)))) (.cns (.prim .all1 (.cns (.comp ["part"] 1 [] (.tvar 0) (.cns (.var 0) .nul) .nul (.call "is_in" (.cns (.var 0) .nul))) .nul)) .nul)))) .nul)⟩
noncomputable def f_is_in:Fn:=⟨["thing"],["thing"],
  (.cns (.ret (.bo true (.cns (.call "is_tuple" (.cns (.var 0) (.cns (.cst (.int 2)) (.cns (.cst (.int 2)) .nul)))) (.cns (.call "is_coin" (.cns (.idx (.var 0) (.cst (.int 0))) .nul)) (.cns (.call "are_keys" (.cns (.idx (.var 0) (.cst (.int 1))) .nul)) .nul))))) .nul)⟩
noncomputable def f_is_coin:Fn:=⟨["thing"],["thing"],
  (.cns (.ret (.bo true (.cns (.call "is_tuple" (.cns (.var 0) (.cns (.cst (.int 2)) (.cns (.cst (.int 2)) .nul)))) (.cns (.prim .all1 (.cns (.comp ["part"] 1 [] (.tvar 0) (.cns (.var 0) .nul) .nul (.call "is_within" (.cns (.var 0) (.cns (.cst (.int 0)) (.cns (.bin .pow (.cst (.int 10)) (.cst (.int 30))) .nul))))) .nul)) .nul)))) .nul)⟩
noncomputable def f_are_outs:Fn:=⟨["thing"],["thing"],
  (.cns (.ret (.bo true (.cns (.call "is_tuple" (.cns (.var 0) (.cns (.cst (.int 1)) (.cns (.glb "MOST_OUTS") .nul)))) (.cns (.prim .all1 (.cns (.comp ["part"] 1 [] (.tvar 0) (.cns (.var 0) .nul) .nul (.call "is_out" (.cns (.var 0) .nul))) .nul)) .nul)))) .nul)⟩
noncomputable def f_is_out:Fn:=⟨["thing"],["thing"],
  (.cns (.ret (.bo true (.cns (.call "is_tuple" (.cns (.var 0) (.cns (.cst (.int 2)) (.cns (.cst (.int 2)) .nul)))) (.cns (.call "is_within" (.cns (.idx (.var 0) (.cst (.int 0))) (.cns (.cst (.int 1)) (.cns (.bin .pow (.cst (.int 10)) (.cst (.int 40))) .nul)))) (.cns (.call "is_lock" (.cns (.idx (.var 0) (.cst (.int 1))) .nul)) .nul))))) .nul)⟩
noncomputable def f_checked_block:Fn:=⟨["thing"],["thing"],
  (.cns (.ifs (.nott (.call "is_block" (.cns (.var 0) .nul))) (.cns .rse .nul) .nul) (.cns (.ret (.var 0)) .nul))⟩
noncomputable def f_is_block:Fn:=⟨["thing"],["thing"],
  (.cns (.ifs (.bo false (.cns (.nott (.call "is_tuple" (.cns (.var 0) (.cns (.cst (.int 4)) (.cns (.cst (.int 4)) .nul))))) (.cns (.nott (.call "is_within" (.cns (.idx (.var 0) (.cst (.int 0))) (.cns (.cst (.int 1)) (.cns (.bin .pow (.cst (.int 10)) (.cst (.int 30))) .nul))))) .nul))) (.cns (.ret (.cst (.bl false))) .nul) .nul) (.cns (.ret (.bo true (.cns (.call "is_within" (.cns (.idx (.var 0) (.cst (.int 1))) (.cns (.cst (.int 0)) (.cns (.bin .pow (.cst (.int 10)) (.cst (.int 30))) .nul)))) (.cns (.call "is_within" (.cns (.idx (.var 0) (.cst (.int 2))) (.cns (.cst (.int 1)) (.cns (.bin .pow (.cst (.int 10)) (.cst (.int 30))) .nul)))) (.cns (.call "are_deeds" (.cns (.idx (.var 0) (.cst (.int 3))) .nul)) .nul))))) .nul))⟩
noncomputable def f_are_deeds:Fn:=⟨["thing"],["thing"],
  (.cns (.ifs (.bo false (.cns (.nott (.call "is_tuple" (.cns (.var 0) (.cns (.cst (.int 1)) (.cns (.glb "MOST_DEEDS") .nul))))) (.cns (.nott (.prim .all1 (.cns (.comp ["part"] 1 [] (.tvar 0) (.cns (.var 0) .nul) .nul (.call "is_deed" (.cns (.var 0) .nul))) .nul))) .nul))) (.cns (.ret (.cst (.bl false))) .nul) .nul) (.cns (.ret (.bo true (.cns (.call "is_maker" (.cns (.idx (.var 0) (.cst (.int 0))) .nul)) (.cns (.nott (.prim .any1 (.cns (.comp ["deed"] 1 [] (.tvar 0) (.cns (.sli (.var 0) (.cns (.cst (.int 1)) .nul) .nul) .nul) .nul (.call "is_maker" (.cns (.var 0) .nul))) .nul))) .nul)))) .nul))⟩
noncomputable def f_shown_coin:Fn:=⟨["coin"],["coin"],
  (.cns (.ret (.meth .join1 (.cst (.str ".")) (.cns (.comp ["number"] 1 [] (.tvar 0) (.cns (.var 0) .nul) .nul (.prim .str1 (.cns (.var 0) .nul))) .nul))) .nul)⟩
noncomputable def f_shown_lock:Fn:=⟨["lock"],["lock"],
  (.cns (.ifs (.nott (.var 0)) (.cns (.ret (.glb "EMPTY_LOCK")) .nul) .nul) (.cns (.ret (.meth .join1 (.cst (.str ", ")) (.cns (.comp ["row"] 1 [] (.tvar 0) (.cns (.var 0) .nul) .nul (.call "shown_row" (.cns (.var 0) .nul))) .nul))) .nul))⟩
noncomputable def f_shown_row:Fn:=⟨["row"],["row"],
  (.cns (.ret (.meth .join1 (.cst (.str " ")) (.cns (.bin .add (.lst (.cns (.idx (.var 0) (.cst (.int 0))) .nul)) (.comp ["number"] 1 [] (.tvar 0) (.cns (.sli (.var 0) (.cns (.cst (.int 1)) .nul) .nul) .nul) .nul (.prim .str1 (.cns (.var 0) .nul)))) .nul))) .nul)⟩
noncomputable def f_shown_deed:Fn:=⟨["deed"],["deed","ins","outs"],
  (.cns (.asg (.tvar 1) (.comp ["part"] 1 [] (.tvar 0) (.cns (.idx (.var 0) (.cst (.int 1))) .nul) .nul (.call "shown_in" (.cns (.var 0) .nul)))) (.cns (.asg (.tvar 2) (.comp ["part"] 1 [] (.tvar 0) (.cns (.idx (.var 0) (.cst (.int 2))) .nul) .nul (.call "shown_out" (.cns (.var 0) .nul)))) (.cns (.ret (.meth .join1 (.cst (.str "; ")) (.cns (.bin .add (.bin .add (.lst (.cns (.prim .str1 (.cns (.idx (.var 0) (.cst (.int 0))) .nul)) .nul)) (.var 1)) (.var 2)) .nul))) .nul)))⟩
noncomputable def f_shown_in:Fn:=⟨["part"],["part"],
  (.cns (.ret (.meth .join1 (.cst (.str " ")) (.cns (.bin .add (.lst (.cns (.cst (.str "in")) (.cns (.call "shown_coin" (.cns (.idx (.var 0) (.cst (.int 0))) .nul)) .nul))) (.comp ["key"] 1 [] (.tvar 0) (.cns (.idx (.var 0) (.cst (.int 1))) .nul) .nul (.prim .str1 (.cns (.var 0) .nul)))) .nul))) .nul)⟩
noncomputable def f_shown_out:Fn:=⟨["part"],["part"],
  (.cns (.ret (.meth .join1 (.cst (.str " ")) (.cns (.lst (.cns (.cst (.str "out")) (.cns (.prim .str1 (.cns (.idx (.var 0) (.cst (.int 0))) .nul)) (.cns (.call "shown_lock" (.cns (.idx (.var 0) (.cst (.int 1))) .nul)) .nul)))) .nul))) .nul)⟩
noncomputable def f_shown_block:Fn:=⟨["block"],["block","place"],
  (.cns (.asg (.tvar 1) (.meth .join1 (.cst (.str " ")) (.cns (.lst (.cns (.prim .str1 (.cns (.idx (.var 0) (.cst (.int 0))) .nul)) (.cns (.cst (.str "on")) (.cns (.prim .str1 (.cns (.idx (.var 0) (.cst (.int 1))) .nul)) (.cns (.cst (.str "weight")) (.cns (.prim .str1 (.cns (.idx (.var 0) (.cst (.int 2))) .nul)) .nul)))))) .nul))) (.cns (.ret (.meth .join1 (.cst (.str " | ")) (.cns (.bin .add (.lst (.cns (.var 1) .nul)) (.comp ["deed"] 1 [] (.tvar 0) (.cns (.idx (.var 0) (.cst (.int 3))) .nul) .nul (.call "shown_deed" (.cns (.var 0) .nul)))) .nul))) .nul))⟩
noncomputable def f_read_number:Fn:=⟨["text"],["text"],
  (.cns (.ifs (.nott (.call "is_number" (.cns (.call "checked_text" (.cns (.var 0) .nul)) .nul))) (.cns .rse .nul) .nul) (.cns (.ret (.prim .int1 (.cns (.var 0) .nul))) .nul))⟩
noncomputable def f_read_coin:Fn:=⟨["text"],["text","numbers"],
  (.cns (.asg (.tvar 1) (.meth .split1 (.call "checked_text" (.cns (.var 0) .nul)) (.cns (.cst (.str ".")) .nul))) (.cns (.ifs (.bo false (.cns (.cmp .ne (.prim .len (.cns (.var 1) .nul)) (.cst (.int 2))) (.cns (.nott (.prim .all1 (.cns (.comp ["number"] 1 [] (.tvar 0) (.cns (.var 1) .nul) .nul (.bo true (.cns (.call "is_number" (.cns (.var 0) .nul)) (.cns (.cmp .ne (.idx (.var 0) (.cst (.int 0))) (.cst (.str "-"))) .nul)))) .nul))) .nul))) (.cns .rse .nul) .nul) (.cns (.ret (.prim .tuple1 (.cns (.comp ["number"] 1 [] (.tvar 0) (.cns (.var 1) .nul) .nul (.prim .int1 (.cns (.var 0) .nul))) .nul))) .nul)))⟩
noncomputable def f_read_block:Fn:=⟨["text"],["text"],
  (.cns (.ret (.call "checked_block" (.cns (.call "formed_block" (.cns (.call "checked_text" (.cns (.var 0) .nul)) .nul)) .nul))) .nul)⟩
noncomputable def f_checked_text:Fn:=⟨["thing"],["thing"],
  (.cns (.ifs (.nott (.isi (.var 0) "str")) (.cns .rse .nul) .nul) (.cns (.ret (.var 0)) .nul))⟩
noncomputable def f_is_number:Fn:=⟨["text"],["text","figures"],
  (.cns (.asg (.tvar 1) (.ife (.meth .starts (.var 0) (.cns (.cst (.str "-")) .nul)) (.sli (.var 0) (.cns (.cst (.int 1)) .nul) .nul) (.var 0))) (.cns (.ifs (.bo false (.cns (.nott (.cmp2 .le .le (.cst (.int 1)) (.prim .len (.cns (.var 1) .nul)) (.glb "MOST_FIGURES"))) (.cns (.nott (.call "is_made_of" (.cns (.var 1) (.cns (.glb "FIGURES") .nul)))) .nul))) (.cns (.ret (.cst (.bl false))) .nul) .nul) (.cns (.ret (.bo false (.cns (.cmp .ne (.idx (.var 1) (.cst (.int 0))) (.cst (.str "0"))) (.cns (.cmp .eq (.var 0) (.cst (.str "0"))) .nul)))) .nul)))⟩
noncomputable def f_is_made_of:Fn:=⟨["text","signs"],["text","signs"],
  (.cns (.ret (.prim .all1 (.cns (.comp ["sign","signs"] 1 [1] (.tvar 0) (.cns (.var 0) .nul) .nul (.cmp .inn (.var 0) (.var 1))) .nul))) .nul)⟩
noncomputable def f_formed_lock:Fn:=⟨["text"],["text"],
  (.cns (.ifs (.cmp .eq (.var 0) (.glb "EMPTY_LOCK")) (.cns (.ret (.tup .nul)) .nul) .nul) (.cns (.ret (.prim .tuple1 (.cns (.comp ["row"] 1 [] (.tvar 0) (.cns (.meth .split1 (.var 0) (.cns (.cst (.str ", ")) .nul)) .nul) .nul (.call "formed_row" (.cns (.var 0) .nul))) .nul))) .nul))⟩
noncomputable def f_formed_row:Fn:=⟨["text"],["text","words"],
  (.cns (.asg (.tvar 1) (.meth .split1 (.var 0) (.cns (.cst (.str " ")) .nul))) (.cns (.ifs (.bo false (.cns (.cmp .eq (.idx (.var 1) (.cst (.int 0))) (.cst (.str ""))) (.cns (.nott (.call "is_made_of" (.cns (.idx (.var 1) (.cst (.int 0))) (.cns (.glb "SMALL_LETTERS") .nul)))) .nul))) (.cns .rse .nul) .nul) (.cns (.ret (.prim .tuple1 (.cns (.bin .add (.lst (.cns (.idx (.var 1) (.cst (.int 0))) .nul)) (.comp ["word"] 1 [] (.tvar 0) (.cns (.sli (.var 1) (.cns (.cst (.int 1)) .nul) .nul) .nul) .nul (.call "read_number" (.cns (.var 0) .nul)))) .nul))) .nul)))⟩
noncomputable def f_formed_deed:Fn:=⟨["text"],["text","parts","ins","outs","part"],
  (.cns (.asg (.tvar 1) (.meth .split1 (.var 0) (.cns (.cst (.str "; ")) .nul))) (.cns (.asg (.tvar 2) (.lst .nul)) (.cns (.asg (.tvar 3) (.lst .nul)) (.cns (.forr (.tvar 4) (.cns (.sli (.var 1) (.cns (.cst (.int 1)) .nul) .nul) .nul) (.cns (.ifs (.bo true (.cns (.meth .starts (.var 4) (.cns (.cst (.str "in ")) .nul)) (.cns (.nott (.var 3)) .nul))) (.cns (.exp (.meth .append (.var 2) (.cns (.call "formed_in" (.cns (.var 4) .nul)) .nul))) .nul) (.cns (.exp (.meth .append (.var 3) (.cns (.call "formed_out" (.cns (.var 4) .nul)) .nul))) .nul)) .nul)) (.cns (.ret (.tup (.cns (.call "read_number" (.cns (.idx (.var 1) (.cst (.int 0))) .nul)) (.cns (.prim .tuple1 (.cns (.var 2) .nul)) (.cns (.prim .tuple1 (.cns (.var 3) .nul)) .nul))))) .nul)))))⟩
noncomputable def f_formed_in:Fn:=⟨["text"],["text","words"],
  (.cns (.asg (.tvar 1) (.meth .split1 (.var 0) (.cns (.cst (.str " ")) .nul))) (.cns (.ret (.tup (.cns (.call "read_coin" (.cns (.idx (.var 1) (.cst (.int 1))) .nul)) (.cns (.prim .tuple1 (.cns (.comp ["word"] 1 [] (.tvar 0) (.cns (.sli (.var 1) (.cns (.cst (.int 2)) .nul) .nul) .nul) .nul (.call "read_number" (.cns (.var 0) .nul))) .nul)) .nul)))) .nul))⟩
noncomputable def f_formed_out:Fn:=⟨["text"],["text","words"],
  (.cns (.asg (.tvar 1) (.meth .split2 (.var 0) (.cns (.cst (.str " ")) (.cns (.cst (.int 2)) .nul)))) (.cns (.ifs (.bo false (.cns (.cmp .ne (.prim .len (.cns (.var 1) .nul)) (.cst (.int 3))) (.cns (.cmp .ne (.idx (.var 1) (.cst (.int 0))) (.cst (.str "out"))) .nul))) (.cns .rse .nul) .nul) (.cns (.ret (.tup (.cns (.call "read_number" (.cns (.idx (.var 1) (.cst (.int 1))) .nul)) (.cns (.call "formed_lock" (.cns (.idx (.var 1) (.cst (.int 2))) .nul)) .nul)))) .nul)))⟩
noncomputable def f_formed_block:Fn:=⟨["text"],["text","parts","words","deeds"],
  (.cns (.asg (.tvar 1) (.meth .split1 (.var 0) (.cns (.cst (.str " | ")) .nul))) (.cns (.asg (.tvar 2) (.meth .split1 (.idx (.var 1) (.cst (.int 0))) (.cns (.cst (.str " ")) .nul))) (.cns (.ifs (.bo false (.cns (.cmp .ne (.prim .len (.cns (.var 2) .nul)) (.cst (.int 5))) (.cns (.cmp .ne (.idx (.var 2) (.cst (.int 1))) (.cst (.str "on"))) (.cns (.cmp .ne (.idx (.var 2) (.cst (.int 3))) (.cst (.str "weight"))) .nul)))) (.cns .rse .nul) .nul) (.cns (.asg (.tvar 3) (.comp ["part"] 1 [] (.tvar 0) (.cns (.sli (.var 1) (.cns (.cst (.int 1)) .nul) .nul) .nul) .nul (.call "formed_deed" (.cns (.var 0) .nul)))) (.cns (.ret (.tup (.cns (.call "read_number" (.cns (.idx (.var 2) (.cst (.int 0))) .nul)) (.cns (.call "read_number" (.cns (.idx (.var 2) (.cst (.int 2))) .nul)) (.cns (.call "read_number" (.cns (.idx (.var 2) (.cst (.int 4))) .nul)) (.cns (.prim .tuple1 (.cns (.var 3) .nul)) .nul)))))) .nul)))))⟩
noncomputable def f_law_mixed:Fn:=⟨["_law_cell"],["_law_cell"],
  (.cns (.ret (.bin .mod (.bin .mul (.bin .mul (.bin .add (.bin .mod (.var 0) (.cst (.int 2147483647))) (.cst (.int 11))) (.cst (.int 48271))) (.cst (.int 69621))) (.cst (.int 2147483629)))) .nul)⟩
noncomputable def f_law_large:Fn:=⟨["_law_cell","_law_turns"],["_law_cell","_law_turns","_law_number","_law_found","_law_turn"],
  (.cns (.asg (.tvar 2) (.call "_law_mixed" (.cns (.var 0) .nul))) (.cns (.ifs (.cmp .eq (.bin .mod (.var 2) (.cst (.int 2))) (.cst (.int 0))) (.cns (.ret (.bin .fdiv (.var 0) (.cst (.int 2)))) .nul) .nul) (.cns (.asg (.tvar 3) (.var 2)) (.cns (.forr (.tvar 4) (.rng (.var 1)) (.cns (.asg (.tvar 2) (.bin .mod (.bin .add (.bin .add (.bin .mul (.var 2) (.cst (.int 48271))) (.bin .mul (.var 4) (.var 4))) (.cst (.int 3))) (.cst (.int 2147483647)))) (.cns (.asg (.tvar 3) (.bin .add (.bin .mul (.var 3) (.cst (.int 2147483647))) (.bin .fdiv (.var 2) (.idx (.lst (.cns (.cst (.int 1)) (.cns (.cst (.int 1000)) (.cns (.bin .pow (.cst (.int 10)) (.cst (.int 6))) .nul)))) (.bin .mod (.var 4) (.cst (.int 3))))))) .nul))) (.cns (.ret (.var 3)) .nul)))))⟩
noncomputable def f_law_row_by:Fn:=⟨["_law_number"],["_law_number","_law_words","_law_kind","_law_given"],
  (.cns (.asg (.tvar 1) (.lst (.cns (.cst (.str "drop")) (.cns (.cst (.str "swap")) (.cns (.cst (.str "add")) (.cns (.cst (.str "sub")) (.cns (.cst (.str "mul")) (.cns (.cst (.str "less")) (.cns (.cst (.str "same")) (.cns (.cst (.str "not")) (.cns (.cst (.str "need")) .nul))))))))))) (.cns (.asg (.tvar 1) (.bin .add (.var 1) (.lst (.cns (.cst (.str "height")) (.cns (.cst (.str "age")) (.cns (.cst (.str "worth")) (.cns (.cst (.str "ins")) (.cns (.cst (.str "outs")) .nul)))))))) (.cns (.asg (.ttup (.cns (.tvar 0) (.cns (.tvar 2) .nul))) (.prim .divmod (.cns (.var 0) (.cns (.cst (.int 17)) .nul)))) (.cns (.ifs (.cmp .lt (.var 2) (.cst (.int 14))) (.cns (.ret (.tup (.cns (.var 0) (.cns (.tup (.cns (.idx (.var 1) (.var 2)) .nul)) .nul)))) .nul) .nul) (.cns (.ifs (.cmp .eq (.var 2) (.cst (.int 14))) (.cns (.asg (.ttup (.cns (.tvar 0) (.cns (.tvar 3) .nul))) (.prim .divmod (.cns (.var 0) (.cns (.bin .sub (.bin .mul (.cst (.int 2)) (.bin .pow (.cst (.int 10)) (.cst (.int 50)))) (.cst (.int 1))) .nul)))) (.cns (.ret (.tup (.cns (.var 0) (.cns (.tup (.cns (.cst (.str "push")) (.cns (.bin .add (.bin .sub (.var 3) (.bin .pow (.cst (.int 10)) (.cst (.int 50)))) (.cst (.int 1))) .nul))) .nul)))) .nul)) .nul) (.cns (.asg (.ttup (.cns (.tvar 0) (.cns (.tvar 3) .nul))) (.prim .divmod (.cns (.var 0) (.cns (.cst (.int 10)) .nul)))) (.cns (.ret (.tup (.cns (.var 0) (.cns (.tup (.cns (.idx (.lst (.cns (.cst (.str "copy")) (.cns (.cst (.str "paid")) .nul))) (.bin .sub (.var 2) (.cst (.int 15)))) (.cns (.var 3) .nul))) .nul)))) .nul)))))))⟩
noncomputable def f_law_lock_by:Fn:=⟨["_law_number","_law_most"],["_law_number","_law_most","_law_rows","_law_many","_law_k","_law_row","_law_way"],
  (.cns (.asg (.tvar 2) (.lst .nul)) (.cns (.asg (.ttup (.cns (.tvar 0) (.cns (.tvar 3) .nul))) (.prim .divmod (.cns (.var 0) (.cns (.bin .add (.var 1) (.cst (.int 1))) .nul)))) (.cns (.forr (.tvar 4) (.rng (.var 3)) (.cns (.asg (.ttup (.cns (.tvar 0) (.cns (.tvar 5) .nul))) (.call "_law_row_by" (.cns (.var 0) .nul))) (.cns (.exp (.meth .append (.var 2) (.cns (.var 5) .nul))) .nul))) (.cns (.asg (.ttup (.cns (.tvar 0) (.cns (.tvar 6) .nul))) (.prim .divmod (.cns (.var 0) (.cns (.cst (.int 3)) .nul)))) (.cns (.ifs (.bo true (.cns (.cmp .eq (.var 6) (.cst (.int 1))) (.cns (.cmp .ne (.var 2) (.lst .nul)) .nul))) (.cns (.asg (.tvar 2) (.bin .add (.bin .add (.lst (.cns (.tup (.cns (.cst (.str "if")) .nul)) .nul)) (.sli (.var 2) (.cns (.cst (.int 1)) .nul) .nul)) (.lst (.cns (.tup (.cns (.cst (.str "else")) .nul)) (.cns (.tup (.cns (.cst (.str "end")) .nul)) .nul))))) .nul) .nul) (.cns (.ret (.tup (.cns (.var 0) (.cns (.prim .tuple1 (.cns (.var 2) .nul)) .nul)))) .nul))))))⟩
noncomputable def f_law_in_by:Fn:=⟨["_law_number"],["_law_number","_law_deed","_law_place","_law_many","_law_keys","_law_k","_law_key"],
  (.cns (.asg (.ttup (.cns (.tvar 0) (.cns (.tvar 1) .nul))) (.prim .divmod (.cns (.var 0) (.cns (.bin .add (.bin .pow (.cst (.int 10)) (.cst (.int 30))) (.cst (.int 1))) .nul)))) (.cns (.asg (.ttup (.cns (.tvar 0) (.cns (.tvar 2) .nul))) (.prim .divmod (.cns (.var 0) (.cns (.idx (.lst (.cns (.cst (.int 2)) (.cns (.bin .add (.bin .pow (.cst (.int 10)) (.cst (.int 30))) (.cst (.int 1))) .nul))) (.bin .mod (.var 0) (.cst (.int 2)))) .nul)))) (.cns (.asg (.ttup (.cns (.tvar 0) (.cns (.tvar 3) .nul))) (.prim .divmod (.cns (.var 0) (.cns (.cst (.int 3)) .nul)))) (.cns (.asg (.tvar 4) (.lst .nul)) (.cns (.forr (.tvar 5) (.rng (.var 3)) (.cns (.asg (.ttup (.cns (.tvar 0) (.cns (.tvar 6) .nul))) (.prim .divmod (.cns (.var 0) (.cns (.bin .sub (.bin .mul (.cst (.int 2)) (.bin .pow (.cst (.int 10)) (.cst (.int 50)))) (.cst (.int 1))) .nul)))) (.cns (.exp (.meth .append (.var 4) (.cns (.bin .add (.bin .sub (.var 6) (.bin .pow (.cst (.int 10)) (.cst (.int 50)))) (.cst (.int 1))) .nul))) .nul))) (.cns (.ret (.tup (.cns (.var 0) (.cns (.tup (.cns (.tup (.cns (.var 1) (.cns (.var 2) .nul))) (.cns (.prim .tuple1 (.cns (.var 4) .nul)) .nul))) .nul)))) .nul))))))⟩
noncomputable def f_law_deed_by:Fn:=⟨["_law_number","_law_maker","_law_most"],["_law_number","_law_maker","_law_most","_law_name","_law_ins","_law_outs","_law_many","_law_k","_law_one","_law_worth","_law_lock"],
  (.cns (.asg (.ttup (.cns (.tvar 0) (.cns (.tvar 3) .nul))) (.prim .divmod (.cns (.var 0) (.cns (.bin .pow (.cst (.int 10)) (.cst (.int 30))) .nul)))) (.cns (.asg (.tvar 4) (.lst .nul)) (.cns (.asg (.tvar 5) (.lst .nul)) (.cns (.asg (.ttup (.cns (.tvar 0) (.cns (.tvar 6) .nul))) (.prim .divmod (.cns (.var 0) (.cns (.var 2) .nul)))) (.cns (.forr (.tvar 7) (.rng (.bin .add (.var 6) (.cst (.int 1)))) (.cns (.ifs (.nott (.var 1)) (.cns (.asg (.ttup (.cns (.tvar 0) (.cns (.tvar 8) .nul))) (.call "_law_in_by" (.cns (.var 0) .nul))) (.cns (.exp (.meth .append (.var 4) (.cns (.var 8) .nul))) .nul)) .nul) .nul)) (.cns (.asg (.ttup (.cns (.tvar 0) (.cns (.tvar 6) .nul))) (.prim .divmod (.cns (.var 0) (.cns (.var 2) .nul)))) (.cns (.forr (.tvar 7) (.rng (.bin .add (.var 6) (.cst (.int 1)))) (.cns (.asg (.ttup (.cns (.tvar 0) (.cns (.tvar 9) .nul))) (.prim .divmod (.cns (.var 0) (.cns (.bin .pow (.cst (.int 10)) (.cst (.int 40))) .nul)))) (.cns (.asg (.ttup (.cns (.tvar 0) (.cns (.tvar 10) .nul))) (.call "_law_lock_by" (.cns (.var 0) (.cns (.cst (.int 3)) .nul)))) (.cns (.exp (.meth .append (.var 5) (.cns (.tup (.cns (.bin .add (.var 9) (.cst (.int 1))) (.cns (.var 10) .nul))) .nul))) .nul)))) (.cns (.ret (.tup (.cns (.var 0) (.cns (.tup (.cns (.bin .add (.var 3) (.cst (.int 1))) (.cns (.prim .tuple1 (.cns (.var 4) .nul)) (.cns (.prim .tuple1 (.cns (.var 5) .nul)) .nul)))) .nul)))) .nul))))))))⟩
noncomputable def f_law_numbers_text:Fn:=⟨["_law_numbers"],["_law_numbers"],
  (.cns (.ret (.meth .join1 (.cst (.str "")) (.cns (.comp ["_law_number"] 1 [] (.tvar 0) (.cns (.var 0) .nul) .nul (.bin .add (.cst (.str " ")) (.prim .str1 (.cns (.var 0) .nul)))) .nul))) .nul)⟩
noncomputable def f_law_lock_text:Fn:=⟨["_law_lock"],["_law_lock"],
  (.cns (.ifs (.cmp .eq (.var 0) (.tup .nul)) (.cns (.ret (.cst (.str "-"))) .nul) .nul) (.cns (.ret (.meth .join1 (.cst (.str ", ")) (.cns (.comp ["_law_row"] 1 [] (.tvar 0) (.cns (.var 0) .nul) .nul (.bin .add (.idx (.var 0) (.cst (.int 0))) (.call "_law_numbers_text" (.cns (.sli (.var 0) (.cns (.cst (.int 1)) .nul) .nul) .nul)))) .nul))) .nul))⟩
noncomputable def f_law_deed_text:Fn:=⟨["_law_deed"],["_law_deed","_law_text","_law_coin","_law_keys","_law_worth","_law_lock"],
  (.cns (.asg (.tvar 1) (.prim .str1 (.cns (.idx (.var 0) (.cst (.int 0))) .nul))) (.cns (.forr (.ttup (.cns (.tvar 2) (.cns (.tvar 3) .nul))) (.cns (.idx (.var 0) (.cst (.int 1))) .nul) (.cns (.asg (.tvar 1) (.bin .add (.bin .add (.bin .add (.bin .add (.bin .add (.var 1) (.cst (.str "; in "))) (.prim .str1 (.cns (.idx (.var 2) (.cst (.int 0))) .nul))) (.cst (.str "."))) (.prim .str1 (.cns (.idx (.var 2) (.cst (.int 1))) .nul))) (.call "_law_numbers_text" (.cns (.var 3) .nul)))) .nul)) (.cns (.forr (.ttup (.cns (.tvar 4) (.cns (.tvar 5) .nul))) (.cns (.idx (.var 0) (.cst (.int 2))) .nul) (.cns (.asg (.tvar 1) (.bin .add (.bin .add (.bin .add (.bin .add (.var 1) (.cst (.str "; out "))) (.prim .str1 (.cns (.var 4) .nul))) (.cst (.str " "))) (.call "_law_lock_text" (.cns (.var 5) .nul)))) .nul)) (.cns (.ret (.var 1)) .nul))))⟩
noncomputable def f_law_alike:Fn:=⟨["_law_found","_law_due"],["_law_found","_law_due"],
  (.cns (.ifs (.isi (.var 1) "tuple") (.cns (.ifs (.bo false (.cns (.nott (.isi (.var 0) "tuple")) (.cns (.cmp .ne (.prim .len (.cns (.var 0) .nul)) (.prim .len (.cns (.var 1) .nul))) .nul))) (.cns (.ret (.cst (.bl false))) .nul) .nul) (.cns (.ret (.prim .all1 (.cns (.comp ["_law_one","_law_other"] 2 [] (.ttup (.cns (.tvar 0) (.cns (.tvar 1) .nul))) (.zp (.var 0) (.var 1)) .nul (.call "_law_alike" (.cns (.var 0) (.cns (.var 1) .nul)))) .nul))) .nul)) .nul) (.cns (.ifs (.isi (.var 1) "str") (.cns (.ret (.bo true (.cns (.isi (.var 0) "str") (.cns (.cmp .eq (.var 0) (.var 1)) .nul)))) .nul) .nul) (.cns (.ret (.bo true (.cns (.isi (.var 0) "int") (.cns (.nott (.isi (.var 0) "bool")) (.cns (.cmp .eq (.var 0) (.var 1)) .nul))))) .nul)))⟩
noncomputable def f_law_plain:Fn:=⟨["_law_number","_law_place"],["_law_number","_law_place"],
  (.cns (.ret (.tup (.cns (.bin .add (.cst (.int 1)) (.bin .mod (.var 0) (.bin .pow (.cst (.int 10)) (.cst (.int 30))))) (.cns (.tup (.cns (.tup (.cns (.tup (.cns (.bin .mod (.bin .fdiv (.var 0) (.cst (.int 3))) (.cst (.int 50))) (.cns (.var 1) .nul))) (.cns (.tup .nul) .nul))) .nul)) (.cns (.tup (.cns (.tup (.cns (.bin .add (.cst (.int 1)) (.bin .mod (.var 0) (.cst (.int 97)))) (.cns (.tup .nul) .nul))) .nul)) .nul))))) .nul)⟩
noncomputable def f_law_block_by:Fn:=⟨["_law_number"],["_law_number","_law_name","_law_ahead","_law_weight","_law_many","_law_plain_here","_law_deed","_law_deeds","_law_k"],
  (.cns (.asg (.ttup (.cns (.tvar 0) (.cns (.tvar 1) .nul))) (.prim .divmod (.cns (.var 0) (.cns (.bin .pow (.cst (.int 10)) (.cst (.int 30))) .nul)))) (.cns (.asg (.ttup (.cns (.tvar 0) (.cns (.tvar 2) .nul))) (.prim .divmod (.cns (.var 0) (.cns (.bin .add (.bin .pow (.cst (.int 10)) (.cst (.int 30))) (.cst (.int 1))) .nul)))) (.cns (.asg (.ttup (.cns (.tvar 0) (.cns (.tvar 3) .nul))) (.prim .divmod (.cns (.var 0) (.cns (.bin .pow (.cst (.int 10)) (.cst (.int 30))) .nul)))) (.cns (.asg (.ttup (.cns (.tvar 0) (.cns (.tvar 4) .nul))) (.prim .divmod (.cns (.var 0) (.cns (.cst (.int 5)) .nul)))) (.cns (.asg (.ttup (.cns (.tvar 0) (.cns (.tvar 5) .nul))) (.prim .divmod (.cns (.var 0) (.cns (.cst (.int 3)) .nul)))) (.cns (.asg (.ttup (.cns (.tvar 0) (.cns (.tvar 6) .nul))) (.call "_law_deed_by" (.cns (.var 0) (.cns (.cst (.bl true)) (.cns (.cst (.int 2)) .nul))))) (.cns (.asg (.tvar 7) (.lst (.cns (.var 6) .nul))) (.cns (.ifs (.cmp .eq (.var 5) (.cst (.int 1))) (.cns (.asg (.tvar 7) (.bin .add (.var 7) (.comp ["_law_k","_law_name"] 1 [1] (.tvar 0) (.rng (.bin .add (.cst (.int 1)) (.bin .mod (.var 3) (.cst (.int 11))))) .nul (.call "_law_plain" (.cns (.bin .add (.var 1) (.bin .mul (.cst (.int 7)) (.var 0))) (.cns (.var 0) .nul)))))) .nul) (.cns (.forr (.tvar 8) (.rng (.var 4)) (.cns (.asg (.ttup (.cns (.tvar 0) (.cns (.tvar 6) .nul))) (.call "_law_deed_by" (.cns (.var 0) (.cns (.cst (.bl false)) (.cns (.cst (.int 2)) .nul))))) (.cns (.exp (.meth .append (.var 7) (.cns (.var 6) .nul))) .nul))) .nul)) (.cns (.ret (.tup (.cns (.bin .add (.var 1) (.cst (.int 1))) (.cns (.var 2) (.cns (.bin .add (.var 3) (.cst (.int 1))) (.cns (.prim .tuple1 (.cns (.var 7) .nul)) .nul)))))) .nul)))))))))⟩
noncomputable def f_law:Fn:=⟨["_law_script"],["_law_script","_law_cell","_law_block","_law_due","_law_deed","_law_text"],
  (.cns (.forr (.tvar 1) (.cns (.bin .add (.lst (.cns (.cst (.int 0)) .nul)) (.sli (.var 0) .nul (.cns (.cst (.int 5)) .nul))) .nul) (.cns (.asg (.tvar 2) (.call "_law_block_by" (.cns (.prim .abs (.cns (.call "_law_large" (.cns (.var 1) (.cns (.cst (.int 250)) .nul))) .nul)) .nul))) (.cns (.asg (.tvar 3) (.bin .add (.bin .add (.bin .add (.bin .add (.prim .str1 (.cns (.idx (.var 2) (.cst (.int 0))) .nul)) (.cst (.str " on "))) (.prim .str1 (.cns (.idx (.var 2) (.cst (.int 1))) .nul))) (.cst (.str " weight "))) (.prim .str1 (.cns (.idx (.var 2) (.cst (.int 2))) .nul)))) (.cns (.forr (.tvar 4) (.cns (.idx (.var 2) (.cst (.int 3))) .nul) (.cns (.asg (.tvar 3) (.bin .add (.bin .add (.var 3) (.cst (.str " | "))) (.call "_law_deed_text" (.cns (.var 4) .nul)))) .nul)) (.cns (.asg (.tvar 5) (.call "shown_block" (.cns (.var 2) .nul))) (.cns (.ifs (.bo false (.cns (.nott (.isi (.var 5) "str")) (.cns (.cmp .ne (.var 5) (.var 3)) (.cns (.nott (.call "_law_alike" (.cns (.call "read_block" (.cns (.var 5) .nul)) (.cns (.var 2) .nul)))) .nul)))) (.cns (.ret (.cst (.bl false))) .nul) .nul) .nul)))))) (.cns (.ret (.cst (.bl true))) .nul))⟩
noncomputable def T:Tb:=fun f=>if f = "is_whole" then some f_is_whole else if f = "is_within" then some f_is_within else if f = "is_tuple" then some f_is_tuple else if f = "is_lock" then some f_is_lock else if f = "are_keys" then some f_are_keys else if f = "is_short" then some f_is_short else if f = "is_row" then some f_is_row else if f = "ifs_fit" then some f_ifs_fit else if f = "is_maker" then some f_is_maker else if f = "is_deed" then some f_is_deed else if f = "are_ins" then some f_are_ins else if f = "is_in" then some f_is_in else if f = "is_coin" then some f_is_coin else if f = "are_outs" then some f_are_outs else if f = "is_out" then some f_is_out else if f = "checked_block" then some f_checked_block else if f = "is_block" then some f_is_block else if f = "are_deeds" then some f_are_deeds else if f = "shown_coin" then some f_shown_coin else if f = "shown_lock" then some f_shown_lock else if f = "shown_row" then some f_shown_row else if f = "shown_deed" then some f_shown_deed else if f = "shown_in" then some f_shown_in else if f = "shown_out" then some f_shown_out else if f = "shown_block" then some f_shown_block else if f = "read_number" then some f_read_number else if f = "read_coin" then some f_read_coin else if f = "read_block" then some f_read_block else if f = "checked_text" then some f_checked_text else if f = "is_number" then some f_is_number else if f = "is_made_of" then some f_is_made_of else if f = "formed_lock" then some f_formed_lock else if f = "formed_row" then some f_formed_row else if f = "formed_deed" then some f_formed_deed else if f = "formed_in" then some f_formed_in else if f = "formed_out" then some f_formed_out else if f = "formed_block" then some f_formed_block else if f = "_law_mixed" then some f_law_mixed else if f = "_law_large" then some f_law_large else if f = "_law_row_by" then some f_law_row_by else if f = "_law_lock_by" then some f_law_lock_by else if f = "_law_in_by" then some f_law_in_by else if f = "_law_deed_by" then some f_law_deed_by else if f = "_law_numbers_text" then some f_law_numbers_text else if f = "_law_lock_text" then some f_law_lock_text else if f = "_law_deed_text" then some f_law_deed_text else if f = "_law_alike" then some f_law_alike else if f = "_law_plain" then some f_law_plain else if f = "_law_block_by" then some f_law_block_by else if f = "law" then some f_law else none
noncomputable def G:String→Option D:=fun x=>if x = "MOST_ROWS" then some (.int 30) else if x = "MOST_KEYS" then some (.int 10) else if x = "LONE_WORDS" then some (.tup [.str "drop",.str "swap",.str "add",.str "sub",.str "mul",.str "less",.str "same",.str "not",.str "need",.str "height",.str "age",.str "worth",.str "ins",.str "outs",.str "if",.str "else",.str "end"]) else if x = "PLACE_WORDS" then some (.tup [.str "copy",.str "paid"]) else if x = "LAST_PLACE" then some (.int 9) else if x = "MOST_IFS_WITHIN" then some (.int 5) else if x = "MOST_INS" then some (.int 8) else if x = "MOST_OUTS" then some (.int 8) else if x = "MOST_DEEDS" then some (.int 12) else if x = "EMPTY_LOCK" then some (.str "-") else if x = "MOST_FIGURES" then some (.int 60) else if x = "FIGURES" then some (.str "0123456789") else if x = "SMALL_LETTERS" then some (.str "abcdefghijklmnopqrstuvwxyz") else none
theorem T_f_is_whole:T "is_whole" = some f_is_whole:=rfl
theorem T_f_is_within:T "is_within" = some f_is_within:=rfl
theorem T_f_is_tuple:T "is_tuple" = some f_is_tuple:=rfl
theorem T_f_is_lock:T "is_lock" = some f_is_lock:=rfl
theorem T_f_are_keys:T "are_keys" = some f_are_keys:=rfl
theorem T_f_is_short:T "is_short" = some f_is_short:=rfl
theorem T_f_is_row:T "is_row" = some f_is_row:=rfl
theorem T_f_ifs_fit:T "ifs_fit" = some f_ifs_fit:=rfl
theorem T_f_is_maker:T "is_maker" = some f_is_maker:=rfl
theorem T_f_is_deed:T "is_deed" = some f_is_deed:=rfl
theorem T_f_are_ins:T "are_ins" = some f_are_ins:=rfl
theorem T_f_is_in:T "is_in" = some f_is_in:=rfl
theorem T_f_is_coin:T "is_coin" = some f_is_coin:=rfl
theorem T_f_are_outs:T "are_outs" = some f_are_outs:=rfl
theorem T_f_is_out:T "is_out" = some f_is_out:=rfl
theorem T_f_checked_block:T "checked_block" = some f_checked_block:=rfl
theorem T_f_is_block:T "is_block" = some f_is_block:=rfl
theorem T_f_are_deeds:T "are_deeds" = some f_are_deeds:=rfl
theorem T_f_shown_coin:T "shown_coin" = some f_shown_coin:=rfl
theorem T_f_shown_lock:T "shown_lock" = some f_shown_lock:=rfl
theorem T_f_shown_row:T "shown_row" = some f_shown_row:=rfl
theorem T_f_shown_deed:T "shown_deed" = some f_shown_deed:=rfl
theorem T_f_shown_in:T "shown_in" = some f_shown_in:=rfl
theorem T_f_shown_out:T "shown_out" = some f_shown_out:=rfl
theorem T_f_shown_block:T "shown_block" = some f_shown_block:=rfl
theorem T_f_read_number:T "read_number" = some f_read_number:=rfl
theorem T_f_read_coin:T "read_coin" = some f_read_coin:=rfl
theorem T_f_read_block:T "read_block" = some f_read_block:=rfl
theorem T_f_checked_text:T "checked_text" = some f_checked_text:=rfl
theorem T_f_is_number:T "is_number" = some f_is_number:=rfl
theorem T_f_is_made_of:T "is_made_of" = some f_is_made_of:=rfl
theorem T_f_formed_lock:T "formed_lock" = some f_formed_lock:=rfl
theorem T_f_formed_row:T "formed_row" = some f_formed_row:=rfl
theorem T_f_formed_deed:T "formed_deed" = some f_formed_deed:=rfl
theorem T_f_formed_in:T "formed_in" = some f_formed_in:=rfl
theorem T_f_formed_out:T "formed_out" = some f_formed_out:=rfl
theorem T_f_formed_block:T "formed_block" = some f_formed_block:=rfl
theorem T_f_law_mixed:T "_law_mixed" = some f_law_mixed:=rfl
theorem T_f_law_large:T "_law_large" = some f_law_large:=rfl
theorem T_f_law_row_by:T "_law_row_by" = some f_law_row_by:=rfl
theorem T_f_law_lock_by:T "_law_lock_by" = some f_law_lock_by:=rfl
theorem T_f_law_in_by:T "_law_in_by" = some f_law_in_by:=rfl
theorem T_f_law_deed_by:T "_law_deed_by" = some f_law_deed_by:=rfl
theorem T_f_law_numbers_text:T "_law_numbers_text" = some f_law_numbers_text:=rfl
theorem T_f_law_lock_text:T "_law_lock_text" = some f_law_lock_text:=rfl
theorem T_f_law_deed_text:T "_law_deed_text" = some f_law_deed_text:=rfl
theorem T_f_law_alike:T "_law_alike" = some f_law_alike:=rfl
theorem T_f_law_plain:T "_law_plain" = some f_law_plain:=rfl
theorem T_f_law_block_by:T "_law_block_by" = some f_law_block_by:=rfl
theorem T_f_law:T "law" = some f_law:=rfl
theorem G_MOST_ROWS:G "MOST_ROWS" = some (.int 30):=rfl
theorem G_MOST_KEYS:G "MOST_KEYS" = some (.int 10):=rfl
theorem G_LONE_WORDS:G "LONE_WORDS" = some (.tup [.str "drop",.str "swap",.str "add",.str "sub",.str "mul",.str "less",.str "same",.str "not",.str "need",.str "height",.str "age",.str "worth",.str "ins",.str "outs",.str "if",.str "else",.str "end"]):=rfl
theorem G_PLACE_WORDS:G "PLACE_WORDS" = some (.tup [.str "copy",.str "paid"]):=rfl
theorem G_LAST_PLACE:G "LAST_PLACE" = some (.int 9):=rfl
theorem G_MOST_IFS_WITHIN:G "MOST_IFS_WITHIN" = some (.int 5):=rfl
theorem G_MOST_INS:G "MOST_INS" = some (.int 8):=rfl
theorem G_MOST_OUTS:G "MOST_OUTS" = some (.int 8):=rfl
theorem G_MOST_DEEDS:G "MOST_DEEDS" = some (.int 12):=rfl
theorem G_EMPTY_LOCK:G "EMPTY_LOCK" = some (.str "-"):=rfl
theorem G_MOST_FIGURES:G "MOST_FIGURES" = some (.int 60):=rfl
theorem G_FIGURES:G "FIGURES" = some (.str "0123456789"):=rfl
theorem G_SMALL_LETTERS:G "SMALL_LETTERS" = some (.str "abcdefghijklmnopqrstuvwxyz"):=rfl
end K64
namespace K64
open PySem L2 Mi Tx
structure Rw where
  w:String
  k:List Int
noncomputable def rD (r:Rw):D:=.tup (.str (Str.ofString r.w) :: r.k.map D.int)
noncomputable def words:List String:=["drop","swap","add","sub","mul","less","same","not","need","height","age","worth","ins","outs","if","else","end"]
noncomputable def Rok (r:Rw):Prop:=(r.w ∈ words∧r.k = []) ∨ (r.w = "push"∧∃ z:Int,r.k = [z]∧-100000000000000000000000000000000000000000000000000 < z∧z < 100000000000000000000000000000000000000000000000000) ∨ ((r.w = "copy" ∨ r.w = "paid")∧∃ z:Int,r.k = [z]∧0 ≤ z∧z ≤ 9)
noncomputable def noIf (w:String):Bool:=decide (w ≠ "if") && decide (w ≠ "else") && decide (w ≠ "end")
noncomputable def st1 (s:List Bool) (w:String):Option (List Bool) :=
  if w = "if" then (if s.length < 5 then some (true :: s) else none)
  else if w = "else" then (match s with | true :: t=>some (false :: t) | _=>none)
  else if w = "end" then (match s with | _ :: t=>some t | []=>none)
  else some s
noncomputable def fitS:List Bool→List Rw→Option (List Bool)
  | s,[]=>some s
  | s,r :: rs=>(st1 s r.w).bind fun t=>fitS t rs
theorem fitS_app:∀ (a b:List Rw) (s:List Bool),fitS s (a ++ b) = (fitS s a).bind fun e=>fitS e b
  | [],b,s=>rfl
  | r :: a,b,s=>by
    show (st1 s r.w).bind (fun t=>fitS t (a ++ b)) = ((st1 s r.w).bind fun t=>fitS t a).bind fun e=>fitS e b
    cases st1 s r.w with
    | none=>rfl
    | some t=>exact fitS_app a b t
section
variable {S S0:Store}
theorem ne_nil {l k:Nat} {ds:List D} (h1:S[l]? = some (.lst ds)) (h2:S[k]? = some (.lst [])):cop .ne (.loc l) (.loc k) S = some (!ds.isEmpty):=by
  have e:eqD S Deep (.loc l) (.loc k) = some ds.isEmpty:=by
    rw [deep_eq]
    simp only [eqD,seqAt_of h1,seqAt_of h2]
    cases ds with
    | nil=>rfl
    | cons a t=>rfl
  simp only [cop,e]
  rfl
theorem tIdx_last {l:Nat} {ds:List D} {b:Bool} (h:S[l]? = some (.lst (ds ++ [.bl b]))):tIdx2 (.loc l) (.int (-1)) S = .ok b S:=by simp only [tIdx2,idx_loc h atI_last]; rfl
end
theorem kCompF {C:Pr} {k:Nat} {keep:List Nat} {tg cd el:M} {τ:En} {S:Store} {l:Nat} {ds:List D} (I:Nat→List D→Store→Prop) (hl:ds.length ≤ 1000000) (h0:I 0 [] S) (hI:∀ i acc S,I i acc S→acc.length ≤ i∧S[l]? = some (.lst ds))
    (hturn:∀ i d acc S,ds[i]? = some d→I i acc S→Sat (turnC C tg cd el d (inEn k keep τ) S) fun o S1=>match o with | some y=>I (i + 1) (acc ++ [y]) S1 | none=>I (i + 1) acc S1) :
    Sat (kComp C k keep tg cd el τ (some (l,.lst),ds) S) fun d S'=>∃ ys S1,d = .loc S1.length∧S' = S1 ++ [.lst ys]∧I ds.length ys S1:=by
  have main:Sat (compL (turnC C tg cd el) (some (l,.lst)) ds ds.length 0 (inEn k keep τ) S []) (I ds.length) :=
    compL_some I (line_big hl) hI (fun acc S h=>h) hturn ds.length 0 [] S (by omega) h0
  obtain ⟨ys,S1,e,h⟩:=main
  exact ⟨.loc S1.length,S1 ++ [.lst ys],by simp only [kComp,e,Res.bind_ok,kComp1],ys,S1,rfl,rfl,h⟩
noncomputable def lone:List String:=["drop","swap","add","sub","mul","less","same","not","need","height","age","worth","ins","outs"]
theorem lone_words:∀ x ∈ lone,x ∈ words∧noIf x = true:=by decide
noncomputable def PRw (S:Store) (d:D) (S':Store):Prop:=∃ (v:Int) (r:Rw),d = .tup [.int v,rD r]∧Rok r∧noIf r.w = true∧Ext S S'
theorem row_by (n:Nat) (v:Int) (S:Store):Sat (callN T G 100 (n+1) "_law_row_by" [.int v] S) (PRw S):=by
  rw [callN_eq T_f_law_row_by rfl]
  obtain ⟨k,ek,hk⟩:∃ k:Nat,v % 17 = (k:Int)∧k < 17:=⟨(v % 17).toNat,by omega,by omega⟩
  simp [f_law_row_by,v_cst,v_var,v_bin,v_lst,v_a0,v_a1,v_tvar,v_asg,v_b1,kVar,kBin,kLst,kCons,kArg,kNx,kAsg,kB,Res.bind_ok,Line]
  rw [bop_add_lst app_get0 app_get1 (line_big (by simp))]
  simp [v_cst,v_var,v_tup,v_idx,v_prim,w_cmp,v_a0,v_a1,v_tvar,v_ttup,v_gs0,v_gs1,v_asg,v_ifs,v_ret,v_b0,v_b1,kVar,kIdx,tCmp2,tCmp',kCons,kArg,kNx,kAsg,kIfs,kB,Res.bind_ok,Line]
  generalize eS:S ++ _ = S5
  have x5:Ext S S5:=eS ▸ .new _ _
  have hw:S5[S.length + 2]? = some (.lst (lone.map fun x=>D.str (Str.ofString x))):=by rw [← eS,app_get]; rfl
  clear eS
  rw [ek]
  by_cases h17:k < 14
  · have h17':(k:Int) < 14:=by omega
    simp [h17']
    (first | (with_reducible refine Sat.p10 (sat_idx_loc hw (by omega) (by simp [lone]; omega)) ?_) | (with_reducible refine Sat.p9 (sat_idx_loc hw (by omega) (by simp [lone]; omega)) ?_) | (with_reducible refine Sat.p8 (sat_idx_loc hw (by omega) (by simp [lone]; omega)) ?_) | (with_reducible refine Sat.p7 (sat_idx_loc hw (by omega) (by simp [lone]; omega)) ?_) | (with_reducible refine Sat.p6 (sat_idx_loc hw (by omega) (by simp [lone]; omega)) ?_) | (with_reducible refine Sat.p5 (sat_idx_loc hw (by omega) (by simp [lone]; omega)) ?_) | (with_reducible refine Sat.p4 (sat_idx_loc hw (by omega) (by simp [lone]; omega)) ?_) | (with_reducible refine Sat.p3 (sat_idx_loc hw (by omega) (by simp [lone]; omega)) ?_) | (with_reducible refine Sat.p2 (sat_idx_loc hw (by omega) (by simp [lone]; omega)) ?_) | (with_reducible refine Sat.p1 (sat_idx_loc hw (by omega) (by simp [lone]; omega)) ?_) | (with_reducible refine Sat.p0 (sat_idx_loc hw (by omega) (by simp [lone]; omega)) ?_))
    rintro x S6 ⟨hx,rfl,-⟩
    obtain ⟨y,hy,rfl⟩:=List.mem_map.mp hx
    simp [v_a0,kTup,kCons,kArg,kRet,kB,Res.bind_ok,finF,Line]
    exact ⟨_,⟨y,[]⟩,rfl,.inl ⟨(lone_words y hy).1,rfl⟩,(lone_words y hy).2,x5⟩
  · have h17':¬ (k:Int) < 14:=by omega
    by_cases h18:k = 14
    · subst h18
      simp [v_cst,v_var,v_bin,v_tup,v_prim,w_cmp,v_a0,v_a1,v_tvar,v_ttup,v_gs0,v_gs1,v_asg,v_ifs,v_ret,v_b1,kVar,kBin,kTup,tCmp2,tCmp',kCons,kArg,kNx,kAsg,kIfs,kRet,kB,Res.bind_ok,finF,small,bop_pow_int,Line]
      exact ⟨_,⟨"push",[_]⟩,rfl,.inr (.inl ⟨rfl,_,rfl,by omega,by omega⟩),(show noIf "push" = true by decide),x5⟩
    · have h18':¬ (k:Int) = 14:=by omega
      simp [v_cst,v_var,v_bin,v_tup,v_lst,v_idx,v_prim,w_cmp,v_a0,v_a1,v_tvar,v_ttup,v_gs0,v_gs1,v_asg,v_ifs,v_ret,v_b0,v_b1,kVar,kBin,kLst,kIdx,tCmp2,tCmp',kCons,kArg,kNx,kAsg,kIfs,kB,Res.bind_ok,h17',h18',Line]
      (first | (with_reducible refine Sat.p10 (sat_idx_loc new_get (by omega) (by simp; omega)) ?_) | (with_reducible refine Sat.p9 (sat_idx_loc new_get (by omega) (by simp; omega)) ?_) | (with_reducible refine Sat.p8 (sat_idx_loc new_get (by omega) (by simp; omega)) ?_) | (with_reducible refine Sat.p7 (sat_idx_loc new_get (by omega) (by simp; omega)) ?_) | (with_reducible refine Sat.p6 (sat_idx_loc new_get (by omega) (by simp; omega)) ?_) | (with_reducible refine Sat.p5 (sat_idx_loc new_get (by omega) (by simp; omega)) ?_) | (with_reducible refine Sat.p4 (sat_idx_loc new_get (by omega) (by simp; omega)) ?_) | (with_reducible refine Sat.p3 (sat_idx_loc new_get (by omega) (by simp; omega)) ?_) | (with_reducible refine Sat.p2 (sat_idx_loc new_get (by omega) (by simp; omega)) ?_) | (with_reducible refine Sat.p1 (sat_idx_loc new_get (by omega) (by simp; omega)) ?_) | (with_reducible refine Sat.p0 (sat_idx_loc new_get (by omega) (by simp; omega)) ?_))
      rintro x S6 ⟨hx,eS6,-⟩
      have x6:Ext S S6:=eS6 ▸ x5.more _
      simp at hx
      rcases hx with rfl | rfl
      · simp [v_var,v_a0,v_a1,kVar,kTup,kCons,kArg,kRet,kB,Res.bind_ok,finF,Line]
        exact ⟨_,⟨"copy",[_]⟩,rfl,.inr (.inr ⟨.inl rfl,_,rfl,by omega,by omega⟩),(show noIf "copy" = true by decide),x6⟩
      · simp [v_var,v_a0,v_a1,kVar,kTup,kCons,kArg,kRet,kB,Res.bind_ok,finF,Line]
        exact ⟨_,⟨"paid",[_]⟩,rfl,.inr (.inr ⟨.inr rfl,_,rfl,by omega,by omega⟩),(show noIf "paid" = true by decide),x6⟩
noncomputable def mix (c:Int):Int:=(c % 2147483647 + 11) * 48271 * 69621 % 2147483629
theorem mixed (n:Nat) (c:Int) (S:Store):callN T G 100 (n+1) "_law_mixed" [.int c] S = .ok (.int (mix c)) S:=by
  rw [callN_eq T_f_law_mixed rfl]
  simp [f_law_mixed,v_cst,v_var,v_bin,v_ret,v_b1,kVar,kBin,kRet,kB,Res.bind_ok,finF,small,mix]
theorem mix_lt (c:Int):0 ≤ mix c∧mix c < 2147483629:=by unfold mix; omega
noncomputable def ILg (c:Int) (S0:Store) (i:Nat) (τ:En) (S:Store):Prop:=∃ (a b:Int) (u:Option D),τ = [some (.int c),some (.int 250),some (.int a),some (.int b),u]∧Ext S0 S
theorem large_ok (n:Nat) (c:Int) (S:Store):Sat (callN T G 100 (n + 2) "_law_large" [.int c,.int 250] S) (fun d S'=>(∃ v:Int,d = .int v)∧Ext S S'):=by
  rw [callN_eq T_f_law_large rfl]
  obtain ⟨m0,m1⟩:=mix_lt c
  have mm:=mixed n c S
  generalize mix c = m at m0 m1 mm
  by_cases h:m % 2 = 0
  · simp [f_law_large,v_cst,v_var,v_bin,v_call,w_cmp,v_a0,v_a1,v_tvar,v_asg,v_ifs,v_ret,v_b1,kVar,kBin,tCmp2,tCmp',kCons,kArg,kNx,kAsg,kIfs,kRet,kB,Res.bind_ok,finF,Cn_call,mm,h]
    exact Ext.refl _
  · simp [f_law_large,v_cst,v_var,v_bin,v_call,w_cmp,v_a0,v_a1,v_rng,v_tvar,v_asg,v_ifs,v_for,v_b0,v_b1,kVar,kBin,tCmp2,tCmp',kCons,kArg,kNx,kAsg,kIfs,kB,Res.bind_ok,Cn_call,mm,h]
    rw [kRng_of (by omega) (by omega)]
    simp only [Res.bind_ok]
    (first | (with_reducible refine Sat.p10 (loop (ILg c S) noB noR ?_ ?_) ?_) | (with_reducible refine Sat.p9 (loop (ILg c S) noB noR ?_ ?_) ?_) | (with_reducible refine Sat.p8 (loop (ILg c S) noB noR ?_ ?_) ?_) | (with_reducible refine Sat.p7 (loop (ILg c S) noB noR ?_ ?_) ?_) | (with_reducible refine Sat.p6 (loop (ILg c S) noB noR ?_ ?_) ?_) | (with_reducible refine Sat.p5 (loop (ILg c S) noB noR ?_ ?_) ?_) | (with_reducible refine Sat.p4 (loop (ILg c S) noB noR ?_ ?_) ?_) | (with_reducible refine Sat.p3 (loop (ILg c S) noB noR ?_ ?_) ?_) | (with_reducible refine Sat.p2 (loop (ILg c S) noB noR ?_ ?_) ?_) | (with_reducible refine Sat.p1 (loop (ILg c S) noB noR ?_ ?_) ?_) | (with_reducible refine Sat.p0 (loop (ILg c S) noB noR ?_ ?_) ?_))
    · exact ⟨_,_,_,rfl,.refl _⟩
    · rintro i d _ S1 hd ⟨a,b,u,rfl,x1⟩
      obtain ⟨hi,rfl⟩:i < 250∧d = .int i:=by
        have h1:=(List.getElem?_eq_some_iff.mp hd).1
        simp at h1
        rw [List.getElem?_map,List.getElem?_range (by simpa using h1)] at hd
        simp at hd
        exact ⟨by omega,hd.symm⟩
      obtain ⟨I,hI⟩:∃ I:Int,(i:Int) = I:=⟨_,rfl⟩
      rw [hI]
      have sI:small I = true:=by simp [small]; omega
      have m48:∀ S:Store,bop .mul (.int a) (.int 48271) S = .ok (.int (a * 48271)) S:=fun S=>bop_mul_r (by decide)
      have mII:∀ S:Store,bop .mul (.int I) (.int I) S = .ok (.int (I * I)) S:=fun S=>bop_mul_l sI
      have mb:∀ S:Store,bop .mul (.int b) (.int 2147483647) S = .ok (.int (b * 2147483647)) S:=fun S=>bop_mul_r (by decide)
      have p6:∀ S:Store,bop .pow (.int 10) (.int 6) S = .ok (.int 1000000) S:=fun S=>by rw [rbop_10]; rfl
      obtain ⟨A,hA⟩:∃ A,(a * 48271 + I * I + 3) % 2147483647 = A:=⟨_,rfl⟩
      have mA:∀ S:Store,bop .mod (.int (a * 48271 + I * I + 3)) (.int 2147483647) S = .ok (.int A) S:=fun S=>by rw [← hA]; exact bop_mod_int (by decide)
      have m3:∀ S:Store,bop .mod (.int I) (.int 3) S = .ok (.int (I % 3)) S:=fun S=>bop_mod_int (by decide)
      obtain ⟨x,Sx,ex,hx,rfl,_⟩:=sat_idx_loc (S:=S1 ++ [.lst [.int 1,.int 1000,.int 1000000]]) (l:=S1.length) (i:=I % 3) new_get (by omega) (by simp; omega)
      obtain ⟨q,rfl,dq⟩:∃ q:Int,x = .int q∧∀ S:Store,bop .fdiv (.int A) (.int q) S = .ok (.int (A / q)) S:=by
        simp only [List.mem_cons,List.not_mem_nil,or_false] at hx
        rcases hx with rfl | rfl | rfl
        · exact ⟨_,rfl,fun S=>bop_fdiv_int (by decide) (by decide)⟩
        · exact ⟨_,rfl,fun S=>bop_fdiv_int (by decide) (by decide)⟩
        · exact ⟨_,rfl,fun S=>bop_fdiv_int (by decide) (by decide)⟩
      simp -implicitDefEqProofs [turnF,v_cst,v_var,v_bin,v_lst,v_idx,v_a0,v_a1,v_tvar,v_asg,v_b0,v_b1,kVar,kBin,kLst,kIdx,kCons,kArg,kNx,kAsg,kB,Res.bind_ok,m48,mII,mA,mb,p6,m3,ex,dq,Line]
      exact ⟨_,_,_,rfl,x1.more _⟩
    · intro fl S1 h
      obtain ⟨_,rfl,a,b,u,rfl,x1⟩:=h.nx
      simp [v_var,v_ret,v_b1,kVar,kRet,kB,Res.bind_ok,finF]
      exact x1
theorem fit_plain:∀ (L:List Rw) (s:List Bool),(∀ r ∈ L,noIf r.w = true)→fitS s L = some s
  | [],_,_=>rfl
  | r :: L,s,h=>by
    have hr:=h r (by simp)
    simp only [noIf,Bool.and_eq_true,decide_eq_true_eq] at hr
    show (st1 s r.w).bind (fun t=>fitS t L) = some s
    unfold st1
    rw [if_neg hr.1.1,if_neg hr.1.2,if_neg hr.2]
    exact fit_plain L s fun r hr=>h r (List.mem_cons_of_mem _ hr)
noncomputable def headS:M→M
  | .cns a _=>a
  | m=>m
noncomputable def LOk (L:List Rw):Prop:=fitS [] L = some []∧L.length ≤ 30∧∀ r ∈ L,Rok r
noncomputable def PLk (S:Store) (d:D) (S':Store):Prop:=∃ (v:Int) (L:List Rw),d = .tup [.int v,.tup (L.map rD)]∧LOk L∧Ext S S'
noncomputable def ILk (m:Int) (l:Nat) (S:Store) (i:Nat) (τ:En) (S':Store):Prop:=∃ (v:Int) (a b:Option D) (rs:List Rw),τ = [some (.int v),some (.int 3),some (.loc l),some (.int m),a,b,none]∧Ext S S'∧S.length ≤ l∧S'[l]? = some (.lst (rs.map rD))∧rs.length = i∧∀ r ∈ rs,Rok r∧noIf r.w = true
theorem lock_by (n:Nat) (v:Int) (S:Store):Sat (callN T G 100 (n + 2) "_law_lock_by" [.int v,.int 3] S) (PLk S):=by
  rw [callN_eq T_f_law_lock_by rfl]
  obtain ⟨m,em,hm⟩:∃ m:Nat,v % 4 = (m:Int)∧m < 4:=⟨(v % 4).toNat,by omega,by omega⟩
  simp [f_law_lock_by,v_cst,v_var,v_bin,v_lst,v_prim,v_a0,v_a1,v_rng,v_tvar,v_ttup,v_gs0,v_gs1,v_asg,v_for,v_b1,kVar,kBin,kLst,kCons,kArg,kNx,kAsg,kB,Res.bind_ok,Line]
  rw [em,kRng_of (by omega) (by omega)]
  simp only [Res.bind_ok]
  (first | (with_reducible refine Sat.p10 (loop (ILk m S.length S) noB noR ?_ ?_) ?_) | (with_reducible refine Sat.p9 (loop (ILk m S.length S) noB noR ?_ ?_) ?_) | (with_reducible refine Sat.p8 (loop (ILk m S.length S) noB noR ?_ ?_) ?_) | (with_reducible refine Sat.p7 (loop (ILk m S.length S) noB noR ?_ ?_) ?_) | (with_reducible refine Sat.p6 (loop (ILk m S.length S) noB noR ?_ ?_) ?_) | (with_reducible refine Sat.p5 (loop (ILk m S.length S) noB noR ?_ ?_) ?_) | (with_reducible refine Sat.p4 (loop (ILk m S.length S) noB noR ?_ ?_) ?_) | (with_reducible refine Sat.p3 (loop (ILk m S.length S) noB noR ?_ ?_) ?_) | (with_reducible refine Sat.p2 (loop (ILk m S.length S) noB noR ?_ ?_) ?_) | (with_reducible refine Sat.p1 (loop (ILk m S.length S) noB noR ?_ ?_) ?_) | (with_reducible refine Sat.p0 (loop (ILk m S.length S) noB noR ?_ ?_) ?_))
  · exact ⟨_,_,_,[],rfl,.new _ _,Nat.le_refl _,new_get,rfl,by simp⟩
  · rintro i d _ S1 hd ⟨w,a,b,rs,rfl,x1,hl,hS,hlen,hr⟩
    have hi:i < 4:=by
      have h1:=(List.getElem?_eq_some_iff.mp hd).1
      simp at h1
      omega
    obtain ⟨_,S2,e2,v2,r,rfl,hrok,hno,x2⟩:=row_by n w S1
    have ap:=meth_append (d:=rD r) (x2.get hS) (line_lt (by simp; omega))
    simp [turnF,v_var,v_call,v_meth,v_a0,v_a1,v_tvar,v_ttup,v_gs0,v_gs1,v_asg,v_exp,v_b0,v_b1,kVar,kMeth,kCons,kArg,kNx,kAsg,kExp,kB,Res.bind_ok,Cn_call,e2,rcv_loc (x2.get hS),ap]
    refine ⟨_,_,_,rs ++ [r],rfl,(x1.trans x2).set hl _,hl,by rw [set_get (x2.get hS)]; simp,by simp [hlen],fun y hy=>?_⟩
    rcases List.mem_append.mp hy with hy | hy
    · exact hr y hy
    · rw [List.mem_singleton.mp hy]; exact ⟨hrok,hno⟩
  · intro fl S1 h
    obtain ⟨_,rfl,w,a,b,rs,rfl,x1,hl,hS,hlen,hr⟩:=h.nx
    simp at hlen
    have nn:=ne_nil (S:=S1 ++ [.lst []]) (old_get hS) (new_get (S:=S1))
    have plain:Sat (Res.ok (D.tup [.int (w / 3),.tup (rs.map rD)]) S1) (PLk S):=.ok ⟨_,rs,rfl,⟨fit_plain rs [] fun r hq=>(hr r hq).2,by omega,fun r hq=>(hr r hq).1⟩,x1⟩
    by_cases hw:w % 3 = 1
    · cases rs with
      | nil =>
        have tp:primD .tuple1 [.loc S.length] (S1 ++ [.lst []]) = .ok (.tup []) (S1 ++ [.lst []]):=prim_tuple_loc (old_get hS)
        simp at nn
        simp [v_cst,v_var,v_tup,v_lst,v_prim,w_bo,w_cmp,v_bt1,v_bt2,v_a0,v_a1,v_tvar,v_ttup,v_gs0,v_gs1,v_asg,v_ifs,v_ret,v_b0,v_b1,kVar,kTup,kLst,tCmp2,tCmp',kBT,kCons,kArg,kNx,kAsg,kIfs,kRet,kB,Res.bind_ok,finF,hw,Line,nn,tp]
        exact ⟨_,[],rfl,⟨rfl,by simp,by simp⟩,x1.more _⟩
      | cons r rs =>
        have hS2:(S1 ++ [Mi.Obj.lst [],.lst [.tup [.str (Str.ofString "if")]]])[S.length]? = some (.lst ((r :: rs).map rD)):=old_get hS
        have sl:sliD (.loc S.length) (some 1) none (S1 ++ [Mi.Obj.lst [],.lst [.tup [.str (Str.ofString "if")]]]) = .ok (.loc (S1.length + 2)) (S1 ++ [Mi.Obj.lst [],.lst [.tup [.str (Str.ofString "if")]],.lst (rs.map rD)]):=by
          rw [sliD_loc hS2,cut_from (show (0:Int) ≤ 1 by decide)]
          simp
        obtain ⟨L,hL⟩:∃ L:List Rw,⟨"if",[]⟩ :: (rs ++ [⟨"else",[]⟩,⟨"end",[]⟩]) = L:=⟨_,rfl⟩
        have a1:bop .add (.loc (S1.length + 1)) (.loc (S1.length + 2)) (S1 ++ [Mi.Obj.lst [],.lst [.tup [.str (Str.ofString "if")]],.lst (rs.map rD)]) = .ok (.loc (S1.length + 3)) (S1 ++ [Mi.Obj.lst [],.lst [.tup [.str (Str.ofString "if")]],.lst (rs.map rD),.lst (.tup [.str (Str.ofString "if")] :: rs.map rD)]):=by
          rw [bop_add_lst app_get1 app_get2 (by simp at hlen; simp [Line]; omega)]
          simp
        have a2:bop .add (.loc (S1.length + 3)) (.loc (S1.length + 4)) (S1 ++ [Mi.Obj.lst [],.lst [.tup [.str (Str.ofString "if")]],.lst (rs.map rD),.lst (.tup [.str (Str.ofString "if")] :: rs.map rD),.lst [.tup [.str (Str.ofString "else")],.tup [.str (Str.ofString "end")]]]) = .ok (.loc (S1.length + 5)) (S1 ++ [Mi.Obj.lst [],.lst [.tup [.str (Str.ofString "if")]],.lst (rs.map rD),.lst (.tup [.str (Str.ofString "if")] :: rs.map rD),.lst [.tup [.str (Str.ofString "else")],.tup [.str (Str.ofString "end")]],.lst (L.map rD)]):=by
          rw [bop_add_lst app_get3 app_get4 (by simp at hlen; simp [Line]; omega),← hL]
          simp [rD]
        have tp:primD .tuple1 [.loc (S1.length + 5)] (S1 ++ [Mi.Obj.lst [],.lst [.tup [.str (Str.ofString "if")]],.lst (rs.map rD),.lst (.tup [.str (Str.ofString "if")] :: rs.map rD),.lst [.tup [.str (Str.ofString "else")],.tup [.str (Str.ofString "end")]],.lst (L.map rD)]) = .ok (.tup (L.map rD)) (S1 ++ [Mi.Obj.lst [],.lst [.tup [.str (Str.ofString "if")]],.lst (rs.map rD),.lst (.tup [.str (Str.ofString "if")] :: rs.map rD),.lst [.tup [.str (Str.ofString "else")],.tup [.str (Str.ofString "end")]],.lst (L.map rD)]):=prim_tuple_loc app_get5
        obtain ⟨Y,hY⟩:∃ Y,rs.map rD = Y:=⟨_,rfl⟩
        obtain ⟨Z,hZ⟩:∃ Z,L.map rD = Z:=⟨_,rfl⟩
        rw [hY] at sl a1 a2 tp
        rw [hZ] at a2 tp
        simp at nn
        simp [v_cst,v_var,v_bin,v_tup,v_lst,v_sli,v_prim,w_bo,w_cmp,v_bt1,v_bt2,v_a0,v_a1,v_o0,v_o1,v_tvar,v_ttup,v_gs0,v_gs1,v_asg,v_ifs,v_ret,v_b0,v_b1,kVar,kBin,kTup,kLst,kSli2,kSli,tCmp2,tCmp',kBT,kCons,kArg,kOpt,kNx,kAsg,kIfs,kRet,kB,Res.bind_ok,finF,hw,Line,nn,sl,a1,a2,tp]
        refine ⟨_,L,by rw [hZ],⟨?_,?_,?_⟩,x1.more _⟩
        · rw [← hL]
          show (st1 [] "if").bind (fun t=>fitS t (rs ++ [⟨"else",[]⟩,⟨"end",[]⟩])) = some []
          show fitS [true] (rs ++ [⟨"else",[]⟩,⟨"end",[]⟩]) = some []
          rw [fitS_app,fit_plain rs [true] fun r hq=>(hr r (List.mem_cons_of_mem _ hq)).2]
          rfl
        · rw [← hL]; simp at hlen ⊢; omega
        · intro y hy
          rw [← hL] at hy
          rcases List.mem_cons.mp hy with rfl | hy
          · exact .inl ⟨by decide,rfl⟩
          · rcases List.mem_append.mp hy with hy | hy
            · exact (hr y (List.mem_cons_of_mem _ hy)).1
            · simp only [List.mem_cons,List.not_mem_nil,or_false] at hy
              rcases hy with rfl | rfl
              · exact .inl ⟨by decide,rfl⟩
              · exact .inl ⟨by decide,rfl⟩
    · have tp:primD .tuple1 [.loc S.length] S1 = .ok (.tup (rs.map rD)) S1:=prim_tuple_loc hS
      simp [v_cst,v_var,v_tup,v_prim,w_bo,w_cmp,v_bt2,v_a0,v_a1,v_tvar,v_ttup,v_gs0,v_gs1,v_asg,v_ifs,v_ret,v_b0,v_b1,kVar,kTup,tCmp2,tCmp',kBT,kCons,kArg,kNx,kAsg,kIfs,kRet,kB,Res.bind_ok,finF,hw,tp,Line]
      simpa using plain
end K64
namespace K64
open PySem L2 Mi Tx
structure In1 where
  a:Int
  b:Int
  ks:List Int
structure Out1 where
  w:Int
  L:List Rw
structure De where
  num:Int
  ins:List In1
  outs:List Out1
noncomputable def iD (i:In1):D:=.tup [.tup [.int i.a,.int i.b],.tup (i.ks.map D.int)]
noncomputable def oD (o:Out1):D:=.tup [.int o.w,.tup (o.L.map rD)]
noncomputable def dD (d:De):D:=.tup [.int d.num,.tup (d.ins.map iD),.tup (d.outs.map oD)]
noncomputable abbrev B30:Int:=1000000000000000000000000000000
noncomputable abbrev B40:Int:=10000000000000000000000000000000000000000
noncomputable def IOk (i:In1):Prop:=0 ≤ i.a∧i.a ≤ B30∧0 ≤ i.b∧i.b ≤ B30∧i.ks.length ≤ 2∧∀ k ∈ i.ks,-100000000000000000000000000000000000000000000000000 < k∧k < 100000000000000000000000000000000000000000000000000
noncomputable def OOk (o:Out1):Prop:=1 ≤ o.w∧o.w ≤ B40∧LOk o.L
noncomputable def DOk (d:De):Prop:=1 ≤ d.num∧d.num ≤ B30∧d.ins.length ≤ 4∧(∀ i ∈ d.ins,IOk i)∧1 ≤ d.outs.length∧d.outs.length ≤ 4∧∀ o ∈ d.outs,OOk o
section
variable {n:Nat} {S:Store}
theorem p30 {S:Store}:bop .pow (.int 10) (.int 30) S = .ok (.int B30) S:=by rw [rbop_10]; rfl
theorem p40 {S:Store}:bop .pow (.int 10) (.int 40) S = .ok (.int B40) S:=by rw [rbop_10]; rfl
theorem p50 {S:Store}:bop .pow (.int 10) (.int 50) S = .ok (.int 100000000000000000000000000000000000000000000000000) S:=by rw [rbop_10]; rfl
theorem dm {v j:Int} (h1:0 < j) (h2:j < 2 ^ 250) (S:Store):primD .divmod [.int v,.int j] S = .ok (.tup [.int (v / j),.int (v % j)]) S:=prim_divmod h1 h2
noncomputable def IKy (a b m:Int) (l:Nat) (S:Store) (i:Nat) (τ:En) (S':Store):Prop:=∃ (v:Int) (u w:Option D) (ks:List Int),τ = [some (.int v),some (.int a),some (.int b),some (.int m),some (.loc l),u,w]∧Ext S S'∧S.length ≤ l∧S'[l]? = some (.lst (ks.map D.int))∧ks.length = i∧∀ k ∈ ks,-100000000000000000000000000000000000000000000000000 < k∧k < 100000000000000000000000000000000000000000000000000
noncomputable def PIn (S:Store) (d:D) (S':Store):Prop:=∃ (v:Int) (i:In1),d = .tup [.int v,iD i]∧IOk i∧Ext S S'
theorem in_by (n:Nat) (v:Int) (S:Store):Sat (callN T G 100 (n + 1) "_law_in_by" [.int v] S) (PIn S):=by
  rw [callN_eq T_f_law_in_by rfl]
  obtain ⟨Q,pQ,hQ⟩:∃ Q:Int,(∀ S:Store,bop .pow (.int 10) (.int 30) S = .ok (.int Q) S)∧Q = B30:=⟨_,fun _=>p30,rfl⟩
  obtain ⟨P,pP,hP⟩:∃ P:Int,(∀ S:Store,bop .pow (.int 10) (.int 50) S = .ok (.int P) S)∧P = 100000000000000000000000000000000000000000000000000:=⟨_,fun _=>p50,rfl⟩
  have q1:0 < Q + 1∧Q + 1 < 2 ^ 250:=by rw [hQ]; decide
  have r1:0 < 2 * P - 1∧2 * P - 1 < 2 ^ 250:=by rw [hP]; decide
  obtain ⟨v1,hv1⟩:∃ v1,v / (Q + 1) = v1:=⟨_,rfl⟩
  obtain ⟨a,ha⟩:∃ a,v % (Q + 1) = a:=⟨_,rfl⟩
  have d1:∀ S:Store,primD .divmod [.int v,.int (Q + 1)] S = .ok (.tup [.int v1,.int a]) S:=fun S=>by rw [dm q1.1 q1.2,hv1,ha]
  have a0:0 ≤ a∧a ≤ B30:=by
    have h1:=Int.emod_nonneg v (b:=Q + 1) (by omega)
    have h2:=Int.emod_lt_of_pos v q1.1
    omega
  have m2:∀ S:Store,bop .mod (.int v1) (.int 2) S = .ok (.int (v1 % 2)) S:=fun S=>bop_mod_int (by decide)
  obtain ⟨x,Sx,ex,hx,rfl,_⟩:=sat_idx_loc (S:=S ++ [.lst [.int 2,.int (Q + 1)]]) (l:=S.length) (i:=v1 % 2) new_get (by omega) (by simp; omega)
  obtain ⟨y,rfl,y0,y1,y2⟩:∃ y:Int,x = .int y∧0 < y∧y < 2 ^ 250∧y ≤ B30 + 1:=by
    simp only [List.mem_cons,List.not_mem_nil,or_false] at hx
    rcases hx with rfl | rfl
    · exact ⟨_,rfl,by decide,by decide,by decide⟩
    · exact ⟨_,rfl,q1.1,q1.2,by omega⟩
  obtain ⟨v2,hv2⟩:∃ v2,v1 / y = v2:=⟨_,rfl⟩
  obtain ⟨b,hb⟩:∃ b,v1 % y = b:=⟨_,rfl⟩
  have d2:∀ S:Store,primD .divmod [.int v1,.int y] S = .ok (.tup [.int v2,.int b]) S:=fun S=>by rw [dm y0 y1,hv2,hb]
  have b0:0 ≤ b∧b ≤ B30:=by
    have h1:=Int.emod_nonneg v1 (b:=y) (by omega)
    have h2:=Int.emod_lt_of_pos v1 y0
    omega
  obtain ⟨m,em,hm⟩:∃ m:Nat,v2 % 3 = (m:Int)∧m < 3:=⟨(v2 % 3).toNat,by omega,by omega⟩
  have d3:∀ S:Store,primD .divmod [.int v2,.int 3] S = .ok (.tup [.int (v2 / 3),.int m]) S:=fun S=>by rw [dm (by decide) (by decide),em]
  have t2:∀ S:Store,bop .mul (.int 2) (.int P) S = .ok (.int (2 * P)) S:=fun S=>bop_mul_l (by decide)
  obtain ⟨M,hM⟩:∃ M:Int,(m:Int) = M:=⟨_,rfl⟩
  rw [hM] at d3
  have fin:Sat (evB (Cn T G 100 n) (dropS 3 f_law_in_by.body) [some (.int (v2 / 3)),some (.int a),some (.int b),some (.int M),none,none,none] (S ++ [.lst [.int 2,.int (Q + 1)]])) (fun fl S'=>∃ d,fl = .rt d∧PIn S d S'):=by
    simp -implicitDefEqProofs [dropS,f_law_in_by,v_cst,v_var,v_bin,v_lst,v_prim,v_a0,v_a1,v_rng,v_tvar,v_ttup,v_gs0,v_gs1,v_asg,v_for,v_b1,kVar,kBin,kLst,kCons,kArg,kNx,kAsg,kB,Res.bind_ok,Line]
    rw [kRng_of (by omega) (by omega)]
    simp only [Res.bind_ok]
    (first | (with_reducible refine Sat.p10 (loop (IKy a b M (S.length + 1) S) noB noR ?_ ?_) ?_) | (with_reducible refine Sat.p9 (loop (IKy a b M (S.length + 1) S) noB noR ?_ ?_) ?_) | (with_reducible refine Sat.p8 (loop (IKy a b M (S.length + 1) S) noB noR ?_ ?_) ?_) | (with_reducible refine Sat.p7 (loop (IKy a b M (S.length + 1) S) noB noR ?_ ?_) ?_) | (with_reducible refine Sat.p6 (loop (IKy a b M (S.length + 1) S) noB noR ?_ ?_) ?_) | (with_reducible refine Sat.p5 (loop (IKy a b M (S.length + 1) S) noB noR ?_ ?_) ?_) | (with_reducible refine Sat.p4 (loop (IKy a b M (S.length + 1) S) noB noR ?_ ?_) ?_) | (with_reducible refine Sat.p3 (loop (IKy a b M (S.length + 1) S) noB noR ?_ ?_) ?_) | (with_reducible refine Sat.p2 (loop (IKy a b M (S.length + 1) S) noB noR ?_ ?_) ?_) | (with_reducible refine Sat.p1 (loop (IKy a b M (S.length + 1) S) noB noR ?_ ?_) ?_) | (with_reducible refine Sat.p0 (loop (IKy a b M (S.length + 1) S) noB noR ?_ ?_) ?_))
    · exact ⟨_,_,_,[],rfl,.new _ _,by omega,app_get1,rfl,by simp⟩
    · rintro i d _ S1 hd ⟨w,u,z,ks,rfl,x1,hl,hS,hlen,hr⟩
      have hi:i < 3:=by
        have h1:=(List.getElem?_eq_some_iff.mp hd).1
        simp at h1
        omega
      have d4:∀ S:Store,primD .divmod [.int w,.int (2 * P - 1)] S = .ok (.tup [.int (w / (2 * P - 1)),.int (w % (2 * P - 1))]) S:=fun S=>dm r1.1 r1.2 S
      have ap:=meth_append (d:=.int (w % (2 * P - 1) - P + 1)) hS (line_lt (by simp; omega))
      simp -implicitDefEqProofs [turnF,v_cst,v_var,v_bin,v_prim,v_meth,v_a0,v_a1,v_tvar,v_ttup,v_gs0,v_gs1,v_asg,v_exp,v_b0,v_b1,kVar,kBin,kMeth,kCons,kArg,kNx,kAsg,kExp,kB,Res.bind_ok,pP,t2,d4,rcv_loc hS,ap]
      refine ⟨_,_,_,ks ++ [_],rfl,x1.set hl _,hl,by rw [set_get hS]; simp; rfl,by simp [hlen],fun y hy=>?_⟩
      rcases List.mem_append.mp hy with hy | hy
      · exact hr y hy
      · rw [List.mem_singleton.mp hy]
        have h1:=Int.emod_nonneg w (b:=2 * P - 1) (by omega)
        have h2:=Int.emod_lt_of_pos w r1.1
        omega
    · intro fl S1 h
      obtain ⟨_,rfl,w,u,z,ks,rfl,x1,hl,hS,hlen,hr⟩:=h.nx
      simp at hlen
      have tp:primD .tuple1 [.loc (S.length + 1)] S1 = .ok (.tup (ks.map D.int)) S1:=prim_tuple_loc hS
      simp -implicitDefEqProofs [v_var,v_tup,v_prim,v_a0,v_a1,v_ret,v_b1,kVar,kTup,kCons,kArg,kRet,kB,Res.bind_ok,tp,Line]
      exact ⟨_,⟨a,b,ks⟩,rfl,⟨a0.1,a0.2,b0.1,b0.2,by simp; omega,hr⟩,x1⟩
  obtain ⟨fl,S9,e9,d,rfl,q⟩:=fin
  have hb:f_law_in_by.body = .cns (headS f_law_in_by.body) (.cns (headS (dropS 1 f_law_in_by.body)) (.cns (headS (dropS 2 f_law_in_by.body)) (dropS 3 f_law_in_by.body))):=rfl
  have hN:f_law_in_by.N.length = 7:=rfl
  rw [hb]
  generalize dropS 3 f_law_in_by.body = rest at e9
  simp -implicitDefEqProofs [hN,headS,dropS,f_law_in_by,v_cst,v_var,v_bin,v_lst,v_idx,v_prim,v_a0,v_a1,v_tvar,v_ttup,v_gs0,v_gs1,v_asg,v_b1,kVar,kBin,kLst,kIdx,kCons,kArg,kNx,kAsg,kB,Res.bind_ok,finF,Line,pQ,d1,m2,ex,d2,d3,e9]
  exact q
noncomputable def IDi (mk:Bool) (nm m:Int) (S:Store) (i:Nat) (τ:En) (S':Store):Prop:=∃ (v:Int) (u7 u8:Option D) (is:List In1),τ = [some (.int v),some (.bl mk),some (.int 2),some (.int nm),some (.loc S.length),some (.loc (S.length + 1)),some (.int m),u7,u8,none,none]∧Ext S S'∧S'[S.length]? = some (.lst (is.map iD))∧S'[S.length + 1]? = some (.lst [])∧(mk = true→is.length = 0)∧(mk = false→is.length = i)∧∀ x ∈ is,IOk x
noncomputable def IDo (mk:Bool) (nm m:Int) (is:List In1) (S:Store) (i:Nat) (τ:En) (S':Store):Prop:=∃ (v:Int) (u7 u8 u9 u10:Option D) (os:List Out1),τ = [some (.int v),some (.bl mk),some (.int 2),some (.int nm),some (.loc S.length),some (.loc (S.length + 1)),some (.int m),u7,u8,u9,u10]∧Ext S S'∧S'[S.length]? = some (.lst (is.map iD))∧S'[S.length + 1]? = some (.lst (os.map oD))∧os.length = i∧∀ x ∈ os,OOk x
noncomputable def PDe (mk:Bool) (S:Store) (d:D) (S':Store):Prop:=∃ (v:Int) (e:De),d = .tup [.int v,dD e]∧DOk e∧(mk = true→e.ins.length = 0)∧(mk = false→e.ins.length ≠ 0)∧Ext S S'
theorem deed_by (n:Nat) (v:Int) (mk:Bool) (S:Store):Sat (callN T G 100 (n + 3) "_law_deed_by" [.int v,.bl mk,.int 2] S) (PDe mk S):=by
  rw [callN_eq T_f_law_deed_by rfl]
  obtain ⟨Q,pQ,hQ⟩:∃ Q:Int,(∀ S:Store,bop .pow (.int 10) (.int 30) S = .ok (.int Q) S)∧Q = B30:=⟨_,fun _=>p30,rfl⟩
  obtain ⟨P,pP,hP⟩:∃ P:Int,(∀ S:Store,bop .pow (.int 10) (.int 40) S = .ok (.int P) S)∧P = B40:=⟨_,fun _=>p40,rfl⟩
  have q1:0 < Q∧Q < 2 ^ 250:=by rw [hQ]; decide
  have r1:0 < P∧P < 2 ^ 250:=by rw [hP]; decide
  obtain ⟨v1,hv1⟩:∃ v1,v / Q = v1:=⟨_,rfl⟩
  obtain ⟨nm,hnm⟩:∃ a,v % Q = a:=⟨_,rfl⟩
  have d1:∀ S:Store,primD .divmod [.int v,.int Q] S = .ok (.tup [.int v1,.int nm]) S:=fun S=>by rw [dm q1.1 q1.2,hv1,hnm]
  have nm0:0 ≤ nm∧nm < B30:=by
    have h1:=Int.emod_nonneg v (b:=Q) (by omega)
    have h2:=Int.emod_lt_of_pos v q1.1
    omega
  have d4:∀ (w:Int) (S:Store),primD .divmod [.int w,.int 2] S = .ok (.tup [.int (w / 2),.int (w % 2)]) S:=fun w S=>dm (by decide) (by decide) S
  have dP:∀ (w:Int) (S:Store),primD .divmod [.int w,.int P] S = .ok (.tup [.int (w / P),.int (w % P)]) S:=fun w S=>dm r1.1 r1.2 S
  have outs:∀ (w m0:Int) (u7 u8:Option D) (is:List In1) (S1:Store),Ext S S1→S1[S.length]? = some (.lst (is.map iD))→S1[S.length + 1]? = some (.lst [])→is.length ≤ 4→(mk = true→is.length = 0)→(mk = false→is.length ≠ 0)→(∀ x ∈ is,IOk x) →
      Sat (evB (Cn T G 100 (n + 2)) (dropS 5 f_law_deed_by.body) [some (.int w),some (.bl mk),some (.int 2),some (.int nm),some (.loc S.length),some (.loc (S.length + 1)),some (.int m0),u7,u8,none,none] S1) (fun fl S'=>∃ d,fl = .rt d∧PDe mk S d S'):=by
    intro w m0 u7 u8 is S1 x1 hi ho li li0 li1 hik
    obtain ⟨M,hM⟩:∃ M:Int,w % 2 = M:=⟨_,rfl⟩
    have dw:∀ S:Store,primD .divmod [.int w,.int 2] S = .ok (.tup [.int (w / 2),.int M]) S:=fun S=>by rw [d4,hM]
    have M0:0 ≤ M∧M < 2:=by omega
    simp -implicitDefEqProofs [dropS,f_law_deed_by,v_cst,v_var,v_bin,v_prim,v_a0,v_a1,v_rng,v_tvar,v_ttup,v_gs0,v_gs1,v_asg,v_for,v_b1,kVar,kBin,kCons,kArg,kNx,kAsg,kB,Res.bind_ok,Line,dw]
    rw [kRng_of (by omega) (by omega)]
    simp only [Res.bind_ok]
    (first | (with_reducible refine Sat.p10 (loop (IDo mk nm M is S) noB noR ?_ ?_) ?_) | (with_reducible refine Sat.p9 (loop (IDo mk nm M is S) noB noR ?_ ?_) ?_) | (with_reducible refine Sat.p8 (loop (IDo mk nm M is S) noB noR ?_ ?_) ?_) | (with_reducible refine Sat.p7 (loop (IDo mk nm M is S) noB noR ?_ ?_) ?_) | (with_reducible refine Sat.p6 (loop (IDo mk nm M is S) noB noR ?_ ?_) ?_) | (with_reducible refine Sat.p5 (loop (IDo mk nm M is S) noB noR ?_ ?_) ?_) | (with_reducible refine Sat.p4 (loop (IDo mk nm M is S) noB noR ?_ ?_) ?_) | (with_reducible refine Sat.p3 (loop (IDo mk nm M is S) noB noR ?_ ?_) ?_) | (with_reducible refine Sat.p2 (loop (IDo mk nm M is S) noB noR ?_ ?_) ?_) | (with_reducible refine Sat.p1 (loop (IDo mk nm M is S) noB noR ?_ ?_) ?_) | (with_reducible refine Sat.p0 (loop (IDo mk nm M is S) noB noR ?_ ?_) ?_))
    · exact ⟨_,_,_,_,_,[],rfl,x1,hi,ho,rfl,by simp⟩
    · rintro i d _ S2 hd ⟨z,a7,a8,a9,a10,os,rfl,x2,hi2,ho2,hlen,hok⟩
      have hi4:i < 4:=by
        have h1:=(List.getElem?_eq_some_iff.mp hd).1
        simp at h1
        omega
      obtain ⟨_,S3,e3,v3,L,rfl,hL,x3⟩:=lock_by n (z / P) S2
      have ap:=meth_append (d:=.tup [.int (z % P + 1),.tup (L.map rD)]) (x3.get ho2) (line_lt (by simp; omega))
      obtain ⟨Y,hY⟩:∃ Y,L.map rD = Y:=⟨_,rfl⟩
      rw [hY] at e3 ap
      simp -implicitDefEqProofs [turnF,v_cst,v_var,v_bin,v_tup,v_call,v_prim,v_meth,v_a0,v_a1,v_tvar,v_ttup,v_gs0,v_gs1,v_asg,v_exp,v_b0,v_b1,kVar,kBin,kTup,kMeth,kCons,kArg,kNx,kAsg,kExp,kB,Res.bind_ok,Cn_call,pP,dP,e3,rcv_loc (x3.get ho2),ap,Line]
      have lt:=get_lt (x3.get ho2)
      refine ⟨_,_,_,_,_,os ++ [⟨z % P + 1,L⟩],rfl,(x2.trans x3).set (by omega) _,?_,?_,by simp [hlen],fun y hy=>?_⟩
      · rw [List.getElem?_set_ne (by omega)]; exact x3.get hi2
      · rw [set_get (x3.get ho2)]; simp [oD,hY]
      · rcases List.mem_append.mp hy with hy | hy
        · exact hok y hy
        · rw [List.mem_singleton.mp hy]
          have h1:=Int.emod_nonneg z (b:=P) (by omega)
          have h2:=Int.emod_lt_of_pos z r1.1
          exact ⟨by show 1 ≤ z % P + 1; omega,by show z % P + 1 ≤ B40; omega,hL⟩
    · intro fl S2 h
      obtain ⟨_,rfl,z,a7,a8,a9,a10,os,rfl,x2,hi2,ho2,hlen,hok⟩:=h.nx
      simp at hlen
      have t1:primD .tuple1 [.loc S.length] S2 = .ok (.tup (is.map iD)) S2:=prim_tuple_loc hi2
      have t2:primD .tuple1 [.loc (S.length + 1)] S2 = .ok (.tup (os.map oD)) S2:=prim_tuple_loc ho2
      obtain ⟨Y,hY⟩:∃ Y,is.map iD = Y:=⟨_,rfl⟩
      obtain ⟨Z,hZ⟩:∃ Z,os.map oD = Z:=⟨_,rfl⟩
      rw [hY] at t1
      rw [hZ] at t2
      simp -implicitDefEqProofs [v_cst,v_var,v_bin,v_tup,v_prim,v_a0,v_a1,v_ret,v_b1,kVar,kBin,kTup,kCons,kArg,kRet,kB,Res.bind_ok,t1,t2,Line]
      exact ⟨z,⟨nm + 1,is,os⟩,by rw [← hY,← hZ]; rfl,⟨by show 1 ≤ nm + 1; omega,by show nm + 1 ≤ B30; omega,li,hik,by show 1 ≤ os.length; omega,by show os.length ≤ 4; omega,hok⟩,li0,li1,x2⟩
  have hb:f_law_deed_by.body = .cns (headS f_law_deed_by.body) (.cns (headS (dropS 1 f_law_deed_by.body)) (.cns (headS (dropS 2 f_law_deed_by.body)) (.cns (headS (dropS 3 f_law_deed_by.body)) (.cns (headS (dropS 4 f_law_deed_by.body)) (dropS 5 f_law_deed_by.body))))):=rfl
  have hN:f_law_deed_by.N.length = 11:=rfl
  rw [hb]
  generalize dropS 5 f_law_deed_by.body = rest at outs
  obtain ⟨M,hM⟩:∃ M:Int,v1 % 2 = M:=⟨_,rfl⟩
  have dv:∀ S:Store,primD .divmod [.int v1,.int 2] S = .ok (.tup [.int (v1 / 2),.int M]) S:=fun S=>by rw [d4,hM]
  have M0:0 ≤ M∧M < 2:=by omega
  simp -implicitDefEqProofs [hN,headS,dropS,f_law_deed_by,v_cst,v_var,v_bin,v_lst,v_prim,v_a0,v_a1,v_rng,v_tvar,v_ttup,v_gs0,v_gs1,v_asg,v_for,v_b1,kVar,kBin,kLst,kCons,kArg,kNx,kAsg,kB,Res.bind_ok,Line,pQ,d1,dv]
  rw [kRng_of (by omega) (by omega)]
  simp only [Res.bind_ok]
  (first | (with_reducible refine Sat.p10 (loop (IDi mk nm M S) noB noR ?_ ?_) ?_) | (with_reducible refine Sat.p9 (loop (IDi mk nm M S) noB noR ?_ ?_) ?_) | (with_reducible refine Sat.p8 (loop (IDi mk nm M S) noB noR ?_ ?_) ?_) | (with_reducible refine Sat.p7 (loop (IDi mk nm M S) noB noR ?_ ?_) ?_) | (with_reducible refine Sat.p6 (loop (IDi mk nm M S) noB noR ?_ ?_) ?_) | (with_reducible refine Sat.p5 (loop (IDi mk nm M S) noB noR ?_ ?_) ?_) | (with_reducible refine Sat.p4 (loop (IDi mk nm M S) noB noR ?_ ?_) ?_) | (with_reducible refine Sat.p3 (loop (IDi mk nm M S) noB noR ?_ ?_) ?_) | (with_reducible refine Sat.p2 (loop (IDi mk nm M S) noB noR ?_ ?_) ?_) | (with_reducible refine Sat.p1 (loop (IDi mk nm M S) noB noR ?_ ?_) ?_) | (with_reducible refine Sat.p0 (loop (IDi mk nm M S) noB noR ?_ ?_) ?_))
  · exact ⟨_,_,_,[],rfl,.new _ _,app_get0,app_get1,by simp,by simp,by simp⟩
  · rintro i d _ S2 hd ⟨z,a7,a8,is,rfl,x2,hi2,ho2,hl0,hlen,hok⟩
    have hi4:i < 4:=by
      have h1:=(List.getElem?_eq_some_iff.mp hd).1
      simp at h1
      omega
    cases mk with
    | true =>
      simp -implicitDefEqProofs [turnF,w_nott,w_var,v_tvar,v_ifs,v_b0,v_b1,kTru,tVar',tNotB,kIfs,kB,Res.bind_ok,tru]
      exact ⟨_,_,_,is,rfl,x2,hi2,ho2,hl0,nofun,hok⟩
    | false =>
      obtain ⟨_,S3,e3,v3,i1,rfl,hI,x3⟩:=in_by (n + 1) z S2
      have ap:=meth_append (d:=iD i1) (x3.get hi2) (line_lt (by have:=hlen rfl; simp; omega))
      have lt:=get_lt (x3.get ho2)
      simp -implicitDefEqProofs [turnF,v_var,v_call,v_meth,w_nott,w_var,v_a0,v_a1,v_tvar,v_ttup,v_gs0,v_gs1,v_asg,v_ifs,v_exp,v_b0,v_b1,kVar,kMeth,kTru,tVar',tNotB,kCons,kArg,kNx,kAsg,kIfs,kExp,kB,Res.bind_ok,Cn_call,tru,e3,rcv_loc (x3.get hi2),ap]
      refine ⟨_,_,_,is ++ [i1],rfl,(x2.trans x3).set (Nat.le_refl _) _,?_,?_,nofun,fun _=>by have:=hlen rfl; simp; omega,fun y hy=>?_⟩
      · rw [set_get (x3.get hi2)]; simp
      · rw [List.getElem?_set_ne (by omega)]; exact x3.get ho2
      · rcases List.mem_append.mp hy with hy | hy
        · exact hok y hy
        · rw [List.mem_singleton.mp hy]; exact hI
  · intro fl S2 h
    obtain ⟨_,rfl,z,a7,a8,is,rfl,x2,hi2,ho2,hl0,hlen,hok⟩:=h.nx
    have hlen:mk = false→is.length = (M + 1).toNat:=by simpa using hlen
    obtain ⟨fl,S3,e3,d,rfl,q⟩:=outs z M a7 a8 is S2 x2 hi2 ho2 (by cases mk; (have:=hlen rfl; omega); (have:=hl0 rfl; omega)) hl0 (fun e=>by have:=hlen e; omega) hok
    simp -implicitDefEqProofs [kB,Res.bind_ok,e3,finF]
    exact q
end
end K64
namespace K64
open PySem L2 Mi Tx
section
variable {n:Nat} {S S0:Store}
theorem eq_str (a b:String) (S:Store):eqD S Deep (.str (Str.ofString a)) (.str (Str.ofString b)) = some (decide (a = b)):=by
  rw [deep_eq]
  show some (eqV (.str (Str.ofString a)) (.str (Str.ofString b))) = _
  simp [eqV]
  rfl
theorem whole_int {i:Int}:callN T G 100 (n + 1) "is_whole" [.int i] S = .ok (.bl true) S:=by
  rw [callN_eq T_f_is_whole rfl]
  simp [f_is_whole,v_var,v_nott,v_bo,v_isi,v_bv1,v_bv2,v_ret,v_b1,kVar,kNot,kIsi,kBV,kRet,kB,Res.bind_ok,finF,tyD,isiD,tru]
theorem tuple_ok {ds:List D} {lo hi:Int} (h1:lo ≤ ds.length) (h2:(ds.length:Int) ≤ hi):callN T G 100 (n + 1) "is_tuple" [.tup ds,.int lo,.int hi] S = .ok (.bl true) S:=by
  rw [callN_eq T_f_is_tuple rfl]
  obtain ⟨Z,hZ⟩:∃ Z:Int,((ds.length:Nat):Int) = Z:=⟨_,rfl⟩
  have ln:primD .len [.tup ds] S = .ok (.int Z) S:=by rw [prim_len_tup,hZ]
  rw [hZ] at h1 h2
  simp -implicitDefEqProofs [f_is_tuple,v_var,v_bo,v_cmp2,v_prim,v_isi,v_bv1,v_bv2,v_a0,v_a1,v_ret,v_b1,kVar,kCmp2,kChn2,kChn,kIsi,kBV,kCons,kArg,kRet,kB,Res.bind_ok,finF,tyD,isiD,ln,h1,h2]
theorem short_ok {z:Int} (h1:-100000000000000000000000000000000000000000000000000 < z) (h2:z < 100000000000000000000000000000000000000000000000000):callN T G 100 (n + 2) "is_short" [.int z] S = .ok (.bl true) S:=by
  rw [callN_eq T_f_is_short rfl]
  have p50:∀ S:Store,bop .pow (.int 10) (.int 50) S = .ok (.int 100000000000000000000000000000000000000000000000000) S:=fun S=>by rw [rbop_10]; rfl
  have ab:(if z < 0 then -z else z) < 100000000000000000000000000000000000000000000000000:=by split<;>omega
  simp -implicitDefEqProofs [f_is_short,v_cst,v_var,v_bin,v_bo,v_cmp,v_call,v_prim,v_bv1,v_bv2,v_a0,v_a1,v_ret,v_b1,kVar,kBin,kCmp2,kCmp,kBV,kCons,kArg,kRet,kB,Res.bind_ok,finF,Cn_call,whole_int,p50,ab,tru]
theorem within_ok {z lo hi:Int} (h1:lo ≤ z) (h2:z ≤ hi):callN T G 100 (n + 2) "is_within" [.int z,.int lo,.int hi] S = .ok (.bl true) S:=by
  rw [callN_eq T_f_is_within rfl]
  simp -implicitDefEqProofs [f_is_within,v_var,v_bo,v_cmp2,v_call,v_bv1,v_bv2,v_a0,v_a1,v_ret,v_b1,kVar,kCmp2,kChn2,kChn,kBV,kCons,kArg,kRet,kB,Res.bind_ok,finF,Cn_call,whole_int,h1,h2,tru]
theorem in_lone {w:String} (h:w ∈ words) (S:Store):cop .inn (.str (Str.ofString w)) (.tup [.str "drop",.str "swap",.str "add",.str "sub",.str "mul",.str "less",.str "same",.str "not",.str "need",.str "height",.str "age",.str "worth",.str "ins",.str "outs",.str "if",.str "else",.str "end"]) S = some true:=by
  simp only [words,List.mem_cons,List.not_mem_nil,or_false] at h
  simp only [cop,seqOf,anyEq,eq_str]
  rcases h with rfl | rfl | rfl | rfl | rfl | rfl | rfl | rfl | rfl | rfl | rfl | rfl | rfl | rfl | rfl | rfl | rfl<;>decide
theorem row_ok {r:Rw} (h:Rok r):callN T G 100 (n + 3) "is_row" [rD r] S = .ok (.bl true) S:=by
  obtain ⟨w,k⟩:=r
  rw [callN_eq T_f_is_row rfl]
  rcases h with ⟨hw,e⟩ | ⟨e1,z,e,z1,z2⟩ | ⟨e1,z,e,z1,z2⟩
  · cases (show k = [] from e)
    have t:=tuple_ok (n:=n + 1) (S:=S) (ds:=[D.str (Str.ofString w)]) (lo:=1) (hi:=2) (by simp) (by simp)
    have il:=fun S=>in_lone hw S
    simp -implicitDefEqProofs [f_is_row,rD,v_cst,v_var,v_glb,v_cmp,v_idx,v_prim,w_nott,w_bo,w_cmp,w_call,w_isi,v_bt1,v_bt2,v_a0,v_a1,v_ifs,v_ret,v_b0,v_b1,kVar,kGlb,kCmp2,kCmp,kIdx,kTru,tNotB,tCmp2,tCmp',tCal,tIsi,kBT,kCons,kArg,kIfs,kRet,kB,Res.bind_ok,finF,Cn_call,Cn_glob,t,tyD,isiD,il,G_LONE_WORDS,tru]
  · cases (show k = [z] from e)
    cases (show w = "push" from e1)
    have t:=tuple_ok (n:=n + 1) (S:=S) (ds:=[D.str (Str.ofString "push"),D.int z]) (lo:=1) (hi:=2) (by simp) (by simp)
    simp -implicitDefEqProofs [f_is_row,rD,v_cst,v_var,v_idx,v_call,v_prim,w_nott,w_bo,w_cmp,w_call,w_isi,v_bt1,v_bt2,v_a0,v_a1,v_ifs,v_ret,v_b0,v_b1,kVar,kIdx,kTru,tNotB,tCmp2,tCmp',tCal,tIsi,kBT,kCons,kArg,kIfs,kRet,kB,Res.bind_ok,finF,Cn_call,t,tyD,isiD,short_ok z1 z2,tru]
  · cases (show k = [z] from e)
    have t:=tuple_ok (n:=n + 1) (S:=S) (ds:=[D.str (Str.ofString w),D.int z]) (lo:=1) (hi:=2) (by simp) (by simp)
    have ip:∀ S,cop .inn (.str (Str.ofString w)) (.tup [.str "copy",.str "paid"]) S = some true:=fun S=>by
      simp only [cop,seqOf,anyEq,eq_str]
      rcases e1 with e1 | e1<;>cases (show w = _ from e1)<;>decide
    have np:¬ w = "push":=by rcases e1 with e1 | e1<;>cases (show w = _ from e1)<;>decide
    simp -implicitDefEqProofs [f_is_row,rD,v_cst,v_var,v_glb,v_bo,v_cmp,v_idx,v_call,v_prim,w_nott,w_bo,w_cmp,w_call,w_isi,v_bv1,v_bv2,v_bt1,v_bt2,v_a0,v_a1,v_ifs,v_ret,v_b0,v_b1,kVar,kGlb,kCmp2,kCmp,kIdx,kTru,tNotB,tCmp2,tCmp',tCal,tIsi,kBV,kBT,kCons,kArg,kIfs,kRet,kB,Res.bind_ok,finF,Cn_call,Cn_glob,t,tyD,isiD,np,ip,G_PLACE_WORDS,G_LAST_PLACE,within_ok z1 z2,tru]
noncomputable def eL (s:List Bool):List D:=s.reverse.map fun b=>.bl (!b)
theorem eL_cons (b:Bool) (s:List Bool):eL (b :: s) = eL s ++ [.bl (!b)]:=by simp [eL]
theorem eL_len (s:List Bool):(eL s).length = s.length:=by simp [eL]
noncomputable def IFf (L:List Rw) (S0:Store) (i:Nat) (τ:En) (S:Store):Prop:=∃ (s:List Bool) (u:Option D),τ = [some (.tup (L.map rD)),some (.loc S0.length),u]∧Ext S0 S∧S[S0.length]? = some (.lst (eL s))∧fitS s (L.drop i) = some []∧s.length ≤ 5
@[reducible] noncomputable def bI:M:=match f_ifs_fit.body with
  | .cns _ (.cns (.forr _ _ b) _)=>b
  | _=>.nul
theorem ifs_turn {i:Nat} {L:List Rw} {r:Rw} {τ:En} (hr:L[i]? = some r) (h:IFf L S0 i τ S):Sat (turnF (Cn T G 100 n) (.tvar 2) bI (rD r) τ S) (FlP (IFf L S0 (i + 1)) noB noR):=by
  obtain ⟨s,u,rfl,x,hs,ft,l5⟩:=h
  have w0:∀ S:Store,kIdx2 (rD r) (.int 0) S = .ok (.str (Str.ofString r.w)) S:=fun S=>kIdx2_t0
  have hd:L.drop i = r :: L.drop (i + 1):=by
    obtain ⟨hi,e⟩:=List.getElem?_eq_some_iff.mp hr
    rw [List.drop_eq_getElem_cons hi,e]
  rw [hd] at ft
  obtain ⟨t,e1,ft⟩:=Option.bind_eq_some_iff.mp (show (st1 s r.w).bind (fun t=>fitS t (L.drop (i + 1))) = some [] from ft)
  have lS:(eL s).length < Line:=by rw [eL_len]; show _ < 16777216; omega
  have fin:∀ (Y:Store) (s':List Bool),Ext S0 Y→Y[S0.length]? = some (.lst (eL s'))→s'.length ≤ 5→s' = t→IFf L S0 (i + 1) [some (.tup (L.map rD)),some (.loc S0.length),some (rD r)] Y:=by
    rintro Y s' xY hY h5 rfl
    exact ⟨s',_,rfl,xY,hY,ft,h5⟩
  have lenOk:∀ (Y:Store) (s':List Bool),Y[S0.length]? = some (.lst (eL s'))→s'.length ≤ 5→∃ Z:Int,primD .len [.loc S0.length] Y = .ok (.int Z) Y∧¬ 5 < Z:=fun Y s' hY h5=>⟨((eL s').length:Nat),by rw [prim_len_loc hY],by rw [eL_len]; omega⟩
  unfold st1 at e1
  by_cases c1:r.w = "if"
  · rw [if_pos c1] at e1
    by_cases c5:s.length < 5
    · rw [if_pos c5] at e1
      cases e1
      rw [c1] at w0
      have ap:=meth_append (d:=.bl false) hs lS
      have hY:(S.set S0.length (.lst (eL s ++ [.bl false])))[S0.length]? = some (.lst (eL (true :: s))):=by rw [set_get hs,eL_cons]; rfl
      obtain ⟨Z,lz,z5⟩:=lenOk _ _ hY (by simp; omega)
      simp -implicitDefEqProofs [turnF,bI,f_ifs_fit,v_cst,v_var,v_glb,v_idx,v_prim,v_meth,w_cmp,v_a0,v_a1,v_tvar,v_ifs,v_exp,v_b0,v_b1,kVar,kGlb,kIdx,kMeth,tCmp2,tCmp',kCons,kArg,kIfs,kExp,kB,Res.bind_ok,Cn_glob,w0,rcv_loc hs,ap,lz,z5,G_MOST_IFS_WITHIN]
      exact fin _ _ (x.set (Nat.le_refl _) _) hY (by simp; omega) rfl
    · rw [if_neg c5] at e1
      cases e1
  · rw [if_neg c1] at e1
    by_cases c2:r.w = "else"
    · rw [if_pos c2] at e1
      rw [c2] at w0
      rcases s with _ | ⟨b,s⟩
      · cases e1
      · cases b with
        | false=>cases e1
        | true =>
          cases e1
          have hs':S[S0.length]? = some (.lst (eL s ++ [.bl false])):=by rw [hs,eL_cons]; rfl
          have tl:tIdx2 (.loc S0.length) (.int (-1)) S = .ok false S:=tIdx_last hs'
          have sl:=set_last (e:=.bl true) hs'
          have tr:tru S (.loc S0.length) = some true:=by rw [tru_loc hs']; simp
          have hY:(S.set S0.length (.lst (eL s ++ [.bl true])))[S0.length]? = some (.lst (eL (false :: s))):=by rw [set_get hs,eL_cons]; rfl
          obtain ⟨Z,lz,z5⟩:=lenOk _ _ hY (by simpa using l5)
          simp -implicitDefEqProofs [turnF,bI,f_ifs_fit,v_cst,v_var,v_glb,v_neg,v_idx,v_prim,w_nott,w_bo,w_cmp,w_var,w_idx,v_bt1,v_bt2,v_a0,v_a1,v_tvar,v_tsub,v_asg,v_ifs,v_b0,v_b1,kVar,kGlb,kNeg,kIdx,kTru,tVar',tNotB,tCmp2,tCmp',tIdx,kBT,kCons,kArg,kEn,kSub2,kSub,kNx,kAsg,kIfs,kB,Res.bind_ok,Cn_glob,w0,tr,tl,sl,lz,z5,G_MOST_IFS_WITHIN]
          exact fin _ _ (x.set (Nat.le_refl _) _) hY (by simpa using l5) rfl
    · rw [if_neg c2] at e1
      by_cases c3:r.w = "end"
      · rw [if_pos c3] at e1
        rw [c3] at w0
        rcases s with _ | ⟨b,s⟩
        · cases e1
        · cases e1
          have hs':S[S0.length]? = some (.lst (eL t ++ [.bl (!b)])):=by rw [hs,eL_cons]
          have mp:=meth_pop hs'
          have tr:tru S (.loc S0.length) = some true:=by rw [tru_loc hs']; simp
          have hY:(S.set S0.length (.lst (eL t)))[S0.length]? = some (.lst (eL t)):=set_get hs
          obtain ⟨Z,lz,z5⟩:=lenOk _ _ hY (by simp at l5; omega)
          simp -implicitDefEqProofs [turnF,bI,f_ifs_fit,v_cst,v_var,v_glb,v_idx,v_prim,v_meth,w_nott,w_cmp,w_var,v_a0,v_a1,v_tvar,v_ifs,v_exp,v_b0,v_b1,kVar,kGlb,kIdx,kMeth,kTru,tVar',tNotB,tCmp2,tCmp',kCons,kArg,kIfs,kExp,kB,Res.bind_ok,Cn_glob,w0,tr,rcv_loc hs',mp,lz,z5,G_MOST_IFS_WITHIN]
          exact fin _ _ (x.set (Nat.le_refl _) _) hY (by simp at l5; omega) rfl
      · rw [if_neg c3] at e1
        cases e1
        obtain ⟨Z,lz,z5⟩:=lenOk _ _ hs l5
        simp -implicitDefEqProofs [turnF,bI,f_ifs_fit,v_cst,v_var,v_glb,v_idx,v_prim,w_cmp,v_a0,v_a1,v_tvar,v_ifs,v_b0,v_b1,kVar,kGlb,kIdx,tCmp2,tCmp',kCons,kArg,kIfs,kB,Res.bind_ok,Cn_glob,w0,c1,c2,c3,lz,z5,G_MOST_IFS_WITHIN]
        exact fin _ _ x hs l5 rfl
theorem ifs_ok {L:List Rw} (hL:fitS [] L = some []):Sat (callN T G 100 (n + 1) "ifs_fit" [.tup (L.map rD)] S) (fun d S'=>d = .bl true∧Ext S S'):=by
  rw [callN_eq T_f_ifs_fit rfl]
  simp [f_ifs_fit,v_var,v_lst,v_a0,v_seq,v_tvar,v_asg,v_for,v_b1,kVar,kLst,kSeq,kNx,kAsg,kB,Res.bind_ok,Line]
  (first | (with_reducible refine Sat.p10 (loop (IFf L S) noB noR ?_ ?_) ?_) | (with_reducible refine Sat.p9 (loop (IFf L S) noB noR ?_ ?_) ?_) | (with_reducible refine Sat.p8 (loop (IFf L S) noB noR ?_ ?_) ?_) | (with_reducible refine Sat.p7 (loop (IFf L S) noB noR ?_ ?_) ?_) | (with_reducible refine Sat.p6 (loop (IFf L S) noB noR ?_ ?_) ?_) | (with_reducible refine Sat.p5 (loop (IFf L S) noB noR ?_ ?_) ?_) | (with_reducible refine Sat.p4 (loop (IFf L S) noB noR ?_ ?_) ?_) | (with_reducible refine Sat.p3 (loop (IFf L S) noB noR ?_ ?_) ?_) | (with_reducible refine Sat.p2 (loop (IFf L S) noB noR ?_ ?_) ?_) | (with_reducible refine Sat.p1 (loop (IFf L S) noB noR ?_ ?_) ?_) | (with_reducible refine Sat.p0 (loop (IFf L S) noB noR ?_ ?_) ?_))
  · exact ⟨[],_,rfl,.new _ _,new_get,hL,by simp⟩
  · rintro i d τ S1 hd h
    rw [List.getElem?_map] at hd
    obtain ⟨r,hr,rfl⟩:=Option.map_eq_some_iff.mp hd
    exact ifs_turn hr h
  intro fl S1 q
  obtain ⟨_,rfl,s,u,rfl,x,hs,ft,l5⟩:=q.nx
  have e:s = []:=by
    rw [List.length_map,List.drop_length] at ft
    exact Option.some.inj ft
  subst e
  have tr:tru S1 (.loc S.length) = some false:=by rw [tru_loc hs]; rfl
  simp [v_var,v_nott,v_ret,v_b1,kVar,kNot,kRet,kB,Res.bind_ok,finF,tr]
  exact x
theorem lock_ok {L:List Rw} (hL:fitS [] L = some []) (h30:L.length ≤ 30) (hk:∀ r ∈ L,Rok r):Sat (callN T G 100 (n + 4) "is_lock" [.tup (L.map rD)] S) (fun d S'=>d = .bl true∧Ext S S'):=by
  rw [callN_eq T_f_is_lock rfl]
  have t:=tuple_ok (n:=n + 2) (S:=S) (ds:=L.map rD) (lo:=0) (hi:=30) (by omega) (by rw [List.length_map]; omega)
  have cm:∀ τ:En,kComp (Cn T G 100 (n + 3)) 1 [] (.tvar 0) .nul (.call "is_row" (.cns (.var 0) .nul)) τ (none,L.map rD) S = .ok (.loc S.length) (S ++ [.lst (L.map fun _=>D.bl true)]):=fun τ =>
    kComp_of rD (fun _=>.bl true) (by omega) (.inl rfl) fun r hr=>by
      simp [turnC,v_var,v_call,v_c0,v_a0,v_a1,v_tvar,kVar,kCons,kArg,Res.bind_ok,Cn_call,inEn,row_ok (n:=n) (hk r hr)]
  obtain ⟨d,S1,e1,rfl,x1⟩:=ifs_ok (n:=n + 2) (S:=S ++ [.lst (L.map fun _=>D.bl true)]) hL
  have al:primD .all1 [.loc S.length] (S ++ [Mi.Obj.lst (L.map fun _=>D.bl true)]) = .ok (.bl true) (S ++ [Mi.Obj.lst (L.map fun _=>D.bl true)]):=by
    rw [rprimD_10]
    simp only [seqOf,seqAt_of new_get]
    have:=allB_map (fun _:Rw=>true) L
    rw [this]
    simp
  simp -implicitDefEqProofs [f_is_lock,v_cst,v_var,v_glb,v_bo,v_call,v_prim,v_comp,w_nott,w_call,v_bv1,v_bv2,v_a0,v_a1,v_seq,v_ifs,v_ret,v_b0,v_b1,kVar,kGlb,kTru,tNotB,tCal,kBV,kCons,kArg,kSeq,kIfs,kRet,kB,Res.bind_ok,finF,Cn_call,Cn_glob,t,G_MOST_ROWS,cm,al,e1,tru]
  exact (Ext.new _ _).trans x1
end
end K64
namespace K64
open PySem L2 Mi Tx
noncomputable def nt (z:Int):PySem.Str:=Str.ofString (toString z)
noncomputable def rT (r:Rw):PySem.Str:=Str.join (Str.ofString " ") (Str.ofString r.w :: r.k.map nt)
noncomputable def lT (L:List Rw):PySem.Str:=Str.join (Str.ofString ", ") (L.map rT)
noncomputable def allW:List String:=words ++ ["push","copy","paid"]
noncomputable def letter (c:Nat):Bool:=decide (97 ≤ c∧c ≤ 122)
theorem word_ok:∀ w ∈ allW,(sg (Str.ofString w)).all letter = true∧1 ≤ (sg (Str.ofString w)).length∧(sg (Str.ofString w)).length ≤ 6:=by decide
theorem rok_w {r:Rw} (h:Rok r):r.w ∈ allW:=by
  unfold allW
  rcases h with ⟨hw,_⟩ | ⟨e,_⟩ | ⟨e | e,_⟩
  · exact List.mem_append_left _ hw
  · rw [e]; decide
  · rw [e]; decide
  · rw [e]; decide
theorem rok_k {r:Rw} (h:Rok r):r.k = [] ∨ ∃ z:Int,r.k = [z]∧z.natAbs < 10 ^ 60:=by
  rcases h with ⟨_,e⟩ | ⟨_,z,e,h1,h2⟩ | ⟨_,z,e,h1,h2⟩
  · exact .inl e
  · exact .inr ⟨z,e,by omega⟩
  · exact .inr ⟨z,e,by omega⟩
theorem num_of {i:Int} (h:i.natAbs < 10 ^ 60):isNum (sg (nt i)) = true∧(sg (nt i)).length ≤ 61∧∀ c ∈ sg (nt i),c = 45 ∨ (48 ≤ c∧c ≤ 57):=by
  unfold nt
  cases i with
  | ofNat m =>
    rw [show sg (Str.ofString (toString (Int.ofNat m))) = dg m from sg_nat m]
    exact ⟨isNum_nat h,Nat.le_succ_of_le (dg_len 59 m h),fun c hc=>.inr (dg_digits m c hc)⟩
  | negSucc m =>
    rw [sg_neg]
    refine ⟨isNum_neg (Nat.succ_pos m) h,by rw [List.length_cons]; exact Nat.succ_le_succ (dg_len 59 (m + 1) h),fun c hc=>?_⟩
    rcases List.mem_cons.mp hc with rfl | hc
    · exact .inl rfl
    · exact .inr (dg_digits _ c hc)
theorem sb:sg (Str.ofString " ") = [32]:=by decide
theorem sc:sg (Str.ofString ", ") = [44,32]:=by decide
theorem word_free {w:String} (h:w ∈ allW) {c:Nat} (hc:c < 97):c ∉ sg (Str.ofString w):=fun m=>by
  have:=(List.all_eq_true.mp (word_ok w h).1) c m
  simp [letter] at this
  omega
theorem sg_row {r:Rw} (h:Rok r):sg (rT r) = sg (Str.ofString r.w) ++ (r.k.map fun z=>32 :: sg (nt z)).flatten:=by
  unfold rT
  rw [sg_join,sb]
  rcases rok_k h with e | ⟨z,e,_⟩<;>rw [e]
  · simp [joinL]
  · simp [joinL]
theorem row_len {r:Rw} (h:Rok r):1 ≤ (sg (rT r)).length∧(sg (rT r)).length ≤ 70:=by
  rw [sg_row h]
  obtain ⟨_,h1,h2⟩:=word_ok _ (rok_w h)
  rcases rok_k h with e | ⟨z,e,hz⟩<;>rw [e]
  · simp; omega
  · have:=(num_of hz).2.1
    simp
    omega
theorem row_free {r:Rw} (h:Rok r):44 ∉ sg (rT r):=by
  rw [sg_row h]
  have:=word_free (rok_w h) (c:=44) (by decide)
  rcases rok_k h with e | ⟨z,e,hz⟩<;>rw [e]
  · simpa using this
  · have h2:=(num_of hz).2.2
    simp only [List.map_cons,List.map_nil,List.flatten_cons,List.flatten_nil,List.append_nil,List.mem_append,List.mem_cons,not_or]
    refine ⟨this,by decide,fun m=>?_⟩
    have:=h2 44 m
    omega
theorem lock_len:∀ {L:List Rw},(∀ r ∈ L,Rok r)→(sg (lT L)).length ≤ 72 * L.length:=by
  intro L hk
  unfold lT
  rw [sg_join,sc]
  have:∀ L:List Rw,(∀ r ∈ L,Rok r)→(joinL [44,32] ((L.map rT).map sg)).length ≤ 72 * L.length:=by
    intro L
    induction L with
    | nil=>intro _; simp [joinL]
    | cons r L ih =>
      intro hk
      have h1:=(row_len (hk r (by simp))).2
      cases L with
      | nil=>simp [joinL]; omega
      | cons q L =>
        have h2:=ih fun r hr=>hk r (List.mem_cons_of_mem _ hr)
        simp only [List.map_cons,joinL,List.length_append,List.length_cons,List.length_nil] at h2 ⊢
        omega
  exact this L hk
section
variable {n:Nat} {S:Store}
theorem join_at {x:PySem.Str} {l:Nat} {ts:List PySem.Str} (h:S[l]? = some (.lst (ts.map D.str))) (hx:x.length ≤ 10) (hl:ts.length ≤ 100) (ht:∀ t ∈ ts,(sg t).length ≤ 1000):methD .join1 (.str x) [.loc l] S = .ok (.str (Str.join x ts)) S:=by
  have ok:JoinOk x ts = true:=by
    unfold JoinOk
    rw [Bool.not_eq_true']
    refine StrLaws.joinFits (B:=1000) (fun y hy=>by rw [len_sg]; exact ht y hy) ?_
    have h1:ts.length * 1000 ≤ 100 * 1000:=Nat.mul_le_mul_right _ hl
    have h2:ts.length * x.length ≤ 100 * 10:=Nat.mul_le_mul hl hx
    omega
  rw [rmethD_9,h]
  simp only [strsD_map,if_pos ok]
  rw [show Txt.join x ts = Str.join x ts from StrLaws.glued_eq_join x ts]
theorem str_int {i:Int} (h:i.natAbs < 10 ^ 60) (S:Store):primD .str1 [.int i] S = .ok (.str (nt i)) S :=
  prim_str (Nat.lt_trans h (by decide +kernel))
theorem slice1 {d:D} {ds:List D} (S:Store):sliD (.tup (d :: ds)) (some 1) none S = .ok (.tup ds) S:=by
  simp only [sliD,cut_from (show (0:Int) ≤ 1 by decide)]
  rfl
theorem shown_row_ok {r:Rw} (h:Rok r):Sat (callN T G 100 (n + 1) "shown_row" [rD r] S) (fun d S'=>d = .str (rT r)∧Ext S S'):=by
  obtain ⟨hl,h1,h2⟩:=word_ok _ (rok_w h)
  have kl:r.k.length ≤ 1:=by rcases rok_k h with e | ⟨z,e,_⟩<;>rw [e]<;>simp
  have kz:∀ z ∈ r.k,z.natAbs < 10 ^ 60:=fun z hz=>by
    rcases rok_k h with e | ⟨y,e,hy⟩<;>rw [e] at hz
    · cases hz
    · rw [List.mem_singleton.mp hz]; exact hy
  have sl:=fun S=>slice1 (d:=D.str (Str.ofString r.w)) (ds:=r.k.map D.int) S
  have w0:∀ S:Store,kIdx2 (rD r) (.int 0) S = .ok (.str (Str.ofString r.w)) S:=fun S=>kIdx2_t0
  have cm:∀ (τ:En) (S:Store),kComp (Cn T G 100 n) 1 [] (.tvar 0) .nul (.prim .str1 (.cns (.var 0) .nul)) τ (none,r.k.map D.int) S = .ok (.loc S.length) (S ++ [.lst (r.k.map fun z=>D.str (nt z))]):=fun τ S =>
    kComp_of D.int (fun z=>.str (nt z)) (by omega) (.inl rfl) fun z hz=>by
      simp [turnC,v_var,v_prim,v_c0,v_a0,v_a1,v_tvar,kVar,kCons,kArg,Res.bind_ok,inEn,str_int (kz z hz)]
  have ad:bop .add (.loc S.length) (.loc (S.length + 1)) (S ++ [.lst [.str (Str.ofString r.w)],.lst (r.k.map fun z=>D.str (nt z))]) = .ok (.loc (S.length + 2)) (S ++ [.lst [.str (Str.ofString r.w)],.lst (r.k.map fun z=>D.str (nt z)),.lst ((Str.ofString r.w :: r.k.map nt).map D.str)]):=by
    rw [bop_add_lst app_get0 app_get1 (by simp [Line]; omega)]
    simp
  have jn:=join_at (S:=S ++ [.lst [.str (Str.ofString r.w)],.lst (r.k.map fun z=>D.str (nt z)),.lst ((Str.ofString r.w :: r.k.map nt).map D.str)]) (x:=Str.ofString " ") (l:=S.length + 2) (ts:=Str.ofString r.w :: r.k.map nt) app_get2 (by decide) (by simp; omega) (fun t ht=>by
    rcases List.mem_cons.mp ht with rfl | ht
    · omega
    · obtain ⟨z,hz,rfl⟩:=List.mem_map.mp ht
      have:=(num_of (kz z hz)).2.1
      omega)
  obtain ⟨E,hE⟩:∃ E,(Str.ofString r.w :: r.k.map nt).map D.str = E:=⟨_,rfl⟩
  rw [hE] at ad jn
  rw [callN_eq T_f_shown_row rfl]
  have rd:rD r = .tup (.str (Str.ofString r.w) :: r.k.map D.int):=rfl
  rw [rd] at w0 ⊢
  simp [f_shown_row,v_cst,v_var,v_bin,v_lst,v_idx,v_sli,v_meth,v_comp,v_a0,v_a1,v_o0,v_o1,v_seq,v_ret,v_b1,kVar,kBin,kLst,kIdx,kSli2,kSli,kMeth,kCons,kArg,kOpt,kSeq,kRet,kB,Res.bind_ok,finF,Line,w0,sl,cm,ad,rcv,jn]
  exact ⟨rfl,Ext.new _ _⟩
theorem kCompN {C:Pr} {k:Nat} {keep:List Nat} {tg cd el:M} {τ:En} {S:Store} {ds:List D} (I:Nat→List D→Store→Prop) (hl:ds.length ≤ 1000000) (h0:I 0 [] S) (hI:∀ i acc S,I i acc S→acc.length ≤ i)
    (hturn:∀ i d acc S,ds[i]? = some d→I i acc S→Sat (turnC C tg cd el d (inEn k keep τ) S) fun o S1=>match o with | some y=>I (i + 1) (acc ++ [y]) S1 | none=>I (i + 1) acc S1) :
    Sat (kComp C k keep tg cd el τ (none,ds) S) fun d S'=>∃ ys S1,d = .loc S1.length∧S' = S1 ++ [.lst ys]∧I ds.length ys S1:=by
  have main:Sat (compL (turnC C tg cd el) none ds ds.length 0 (inEn k keep τ) S []) (I ds.length) :=
    compL_none I (line_big hl) hI (fun acc S h=>h) hturn ds.length 0 [] S (by omega) h0
  obtain ⟨ys,S1,e,h⟩:=main
  exact ⟨.loc S1.length,S1 ++ [.lst ys],by simp only [kComp,e,Res.bind_ok,kComp1],ys,S1,rfl,rfl,h⟩
noncomputable def IMp {α:Type} (g:α→D) (xs:List α) (S:Store) (i:Nat) (acc:List D) (S':Store):Prop:=acc = (xs.take i).map g∧i ≤ xs.length∧Ext S S'
theorem imp_step {α:Type} {g:α→D} {xs:List α} {S S1 S2:Store} {i:Nat} {acc:List D} {x:α} (h:IMp g xs S i acc S1) (hx:xs[i]? = some x) (x2:Ext S1 S2):IMp g xs S (i + 1) (acc ++ [g x]) S2:=by
  obtain ⟨rfl,hi,x1⟩:=h
  have hlt:=(List.getElem?_eq_some_iff.mp hx).1
  refine ⟨?_,by omega,x1.trans x2⟩
  rw [List.take_add_one,hx,List.map_append]
  rfl
theorem imp_len {α:Type} {g:α→D} {xs:List α} {S S1:Store} {i:Nat} {acc:List D} (h:IMp g xs S i acc S1):acc.length ≤ i:=by
  rw [h.1,List.length_map,List.length_take]
  omega
theorem comp_call {α:Type} {f:String} {τ:En} {xs:List α} (a g:α→D) {m:Nat} (hl:xs.length ≤ 1000) (h:∀ x ∈ xs,∀ S:Store,Sat (callN T G 100 m f [a x] S) (fun d S'=>d = g x∧Ext S S')) :
    Sat (kComp (Cn T G 100 m) 1 [] (.tvar 0) .nul (.call f (.cns (.var 0) .nul)) τ (none,xs.map a) S) (fun d S'=>∃ S1,d = .loc S1.length∧S' = S1 ++ [.lst (xs.map g)]∧Ext S S1):=by
  refine (kCompN (IMp g xs S) (by rw [List.length_map]; omega) ⟨by simp,by omega,.refl _⟩ (fun _ _ _=>imp_len) fun i d acc S1 hd hI=>?_).mono fun d S' q=>?_
  · rw [List.getElem?_map] at hd
    obtain ⟨x,hx,rfl⟩:=Option.map_eq_some_iff.mp hd
    obtain ⟨_,S2,e2,rfl,x2⟩:=h x (List.mem_of_getElem? hx) S1
    simp [turnC,v_var,v_call,v_c0,v_a0,v_a1,v_tvar,kVar,kCons,kArg,Res.bind_ok,Cn_call,inEn,e2]
    exact imp_step hI hx x2
  · obtain ⟨ys,S1,rfl,rfl,e,_,x1⟩:=q
    refine ⟨S1,rfl,?_,x1⟩
    rw [e,List.length_map,List.take_length]
theorem compL_call {α:Type} {f:String} {τ:En} {xs:List α} {l:Nat} (a g:α→D) {m:Nat} (hS:S[l]? = some (.lst (xs.map a))) (hl:xs.length ≤ 1000) (h:∀ x ∈ xs,∀ S:Store,Sat (callN T G 100 m f [a x] S) (fun d S'=>d = g x∧Ext S S')) :
    Sat (kComp (Cn T G 100 m) 1 [] (.tvar 0) .nul (.call f (.cns (.var 0) .nul)) τ (some (l,.lst),xs.map a) S) (fun d S'=>∃ S1,d = .loc S1.length∧S' = S1 ++ [.lst (xs.map g)]∧Ext S S1):=by
  refine (kCompF (IMp g xs S) (by rw [List.length_map]; omega) ⟨by simp,by omega,.refl _⟩ (fun i acc S1 h=>⟨imp_len h,h.2.2.get hS⟩) fun i d acc S1 hd hI=>?_).mono fun d S' q=>?_
  · rw [List.getElem?_map] at hd
    obtain ⟨x,hx,rfl⟩:=Option.map_eq_some_iff.mp hd
    obtain ⟨_,S2,e2,rfl,x2⟩:=h x (List.mem_of_getElem? hx) S1
    simp [turnC,v_var,v_call,v_c0,v_a0,v_a1,v_tvar,kVar,kCons,kArg,Res.bind_ok,Cn_call,inEn,e2]
    exact imp_step hI hx x2
  · obtain ⟨ys,S1,rfl,rfl,e,_,x1⟩:=q
    refine ⟨S1,rfl,?_,x1⟩
    rw [e,List.length_map,List.take_length]
theorem shown_lock_ok {L:List Rw} (hk:∀ r ∈ L,Rok r) (h30:L.length ≤ 30):Sat (callN T G 100 (n + 2) "shown_lock" [.tup (L.map rD)] S) (fun d S'=>d = .str (if L = [] then Str.ofString "-" else lT L)∧Ext S S'):=by
  rw [callN_eq T_f_shown_lock rfl]
  cases L with
  | nil =>
    simp [f_shown_lock,v_glb,w_nott,w_var,v_ifs,v_ret,v_b1,kGlb,kTru,tVar',tNotB,kIfs,kRet,kB,Res.bind_ok,finF,Cn_glob,tru,G_EMPTY_LOCK]
    exact Ext.refl _
  | cons r L =>
    have tr:∀ S:Store,tru S (.tup ((r :: L).map rD)) = some true:=fun S=>by simp
    obtain ⟨_,_,e1,S1,rfl,rfl,x1⟩:=comp_call (S:=S) (f:="shown_row") (τ:=[some (.tup ((r :: L).map rD))]) (m:=n + 1) (xs:=r :: L) rD (fun r=>.str (rT r)) (by omega) fun x hx S=>shown_row_ok (hk x hx)
    have jn:=join_at (S:=S1 ++ [.lst (((r :: L).map rT).map D.str)]) (x:=Str.ofString ", ") (l:=S1.length) (ts:=(r :: L).map rT) new_get (by decide) (by rw [List.length_map]; omega) (fun t ht=>by
      obtain ⟨q,hq,rfl⟩:=List.mem_map.mp ht
      have:=(row_len (hk q hq)).2
      omega)
    rw [List.map_map] at jn
    rw [show (D.str ∘ rT) = fun r=>D.str (rT r) from rfl] at jn
    obtain ⟨E,hE⟩:∃ E,(r :: L).map (fun r=>D.str (rT r)) = E:=⟨_,rfl⟩
    obtain ⟨F,hF⟩:∃ F,(r :: L).map rD = F:=⟨_,rfl⟩
    rw [hE] at e1 jn
    rw [hF] at e1 tr ⊢
    simp [f_shown_lock,v_cst,v_var,v_meth,v_comp,w_nott,w_var,v_a0,v_a1,v_seq,v_ifs,v_ret,v_b0,v_b1,kVar,kMeth,kTru,tVar',tNotB,kCons,kArg,kSeq,kIfs,kRet,kB,Res.bind_ok,finF,tr,e1,rcv,jn]
    exact ⟨rfl,x1.more _⟩
end
end K64
namespace K64
open PySem L2 Mi Tx
noncomputable def dgt (c:Nat):Bool:=decide (48 ≤ c∧c ≤ 57)
theorem isNum_eq (l:List Nat):isNum l = (decide (1 ≤ (fig l).length) && decide ((fig l).length ≤ 60) && (fig l).all dgt && (decide ((fig l).head? ≠ some 48) || decide (l = [48]))):=rfl
theorem fig_le (l:List Nat):(fig l).length ≤ l.length:=by
  unfold fig
  split
  · simp
  · exact Nat.le_refl _
section
variable {n:Nat} {S:Store}
theorem in_fig {c:Nat}:cop .inn (.str ⟨#[c]⟩) (.str (Str.ofString "0123456789")) S = some (dgt c):=by
  show some (!(Builtin.Str.occurrences (Str.ofString "0123456789") ⟨#[c]⟩ 0 (Str.ofString "0123456789").length 1).isEmpty) = _
  rw [in_one,in_figures]
  rfl
theorem in_let {c:Nat}:cop .inn (.str ⟨#[c]⟩) (.str (Str.ofString "abcdefghijklmnopqrstuvwxyz")) S = some (letter c):=by
  show some (!(Builtin.Str.occurrences (Str.ofString "abcdefghijklmnopqrstuvwxyz") ⟨#[c]⟩ 0 (Str.ofString "abcdefghijklmnopqrstuvwxyz").length 1).isEmpty) = _
  rw [in_one]
  have e:sg (Str.ofString "abcdefghijklmnopqrstuvwxyz") = [97,98,99,100,101,102,103,104,105,106,107,108,109,110,111,112,113,114,115,116,117,118,119,120,121,122]:=by decide
  rw [e]
  unfold letter
  congr 1
  rw [decide_eq_decide]
  simp
  omega
theorem made_gen {x A:PySem.Str} {P:Nat→Bool} (hA:∀ (c:Nat) (S:Store),cop .inn (.str ⟨#[c]⟩) (.str A) S = some (P c)) (hx:(sg x).length ≤ 1000):callN T G 100 (n + 1) "is_made_of" [.str x,.str A] S = .ok (.bl ((sg x).all P)) (S ++ [.lst ((sg x).map fun c=>.bl (P c))]):=by
  rw [callN_eq T_f_is_made_of rfl]
  simp [f_is_made_of,v_var,v_prim,v_comp,v_a1,v_seq,v_ret,v_b1,kVar,kSeq,Res.bind_ok]
  rw [show (x.cps.toList.map fun c=>D.str ⟨#[c]⟩) = (sg x).map (fun c=>D.str ⟨#[c]⟩) from rfl]
  rw [kComp_of (fun c=>D.str ⟨#[c]⟩) (fun c=>.bl (P c)) (by omega) (.inl rfl) fun c hc=>by simp [turnC,v_var,v_cmp,v_c0,v_tvar,kVar,kCmp2,kCmp,Res.bind_ok,inEn,hA]]
  simp [v_a0,kCons,kArg,kRet,kB,Res.bind_ok,finF,rprimD_10,seqOf,seqAt,allB_map]
theorem ne_ch {c k:Nat} {s:String} (h:sg (Str.ofString s) = [k]):cop .ne (.str ⟨#[c]⟩) (.str (Str.ofString s)) S = some (!decide (c = k)):=by
  rw [cop_ne_str]
  congr 2
  rw [decide_eq_decide]
  constructor
  · intro e
    have:=congrArg sg e
    rw [h] at this
    simpa [sg] using this
  · rintro rfl
    exact sg_inj (by rw [h]; rfl)
theorem eq_ch {x:PySem.Str} {k:Nat} {s:String} (h:sg (Str.ofString s) = [k]):cop .eq (.str x) (.str (Str.ofString s)) S = some (decide (sg x = [k])):=by
  rw [cop_eq_str]
  congr 1
  rw [decide_eq_decide,← h]
  exact ⟨fun e=>by rw [e],sg_inj⟩
theorem s0:sg (Str.ofString "0") = [48]:=by decide
theorem sm:sg (Str.ofString "-") = [45]:=by decide
theorem ix0 {x:PySem.Str} {c:Nat} {r:List Nat} (h:sg x = c :: r) (hl:(sg x).length ≤ 1000):idxD (.str x) (.int 0) S = some (.str ⟨#[c]⟩):=by
  have e1:x.length ≤ Line:=by rw [len_sg]; show _ ≤ 16777216; omega
  have e2:atI x.cps.toList 0 = some c:=by
    rw [show x.cps.toList = c :: r from h]
    simp only [atI,ixN,List.length_cons]
    rw [if_pos (by decide),if_pos (by omega)]
    rfl
  simp only [idxD,seqOf,if_pos e1,e2,Option.map_some]
noncomputable def PNum (x:PySem.Str) (S:Store) (d:D) (S':Store):Prop:=d = .bl (isNum (sg x))∧Ext S S'
theorem num_rest {x y:PySem.Str} (hx:(sg x).length ≤ 1000) (hy:sg y = fig (sg x)):Sat (evB (Cn T G 100 (n + 1)) (dropS 1 f_is_number.body) [some (.str x),some (.str y)] S) (fun fl S'=>∃ d,fl = .rt d∧PNum x S d S'):=by
  have yl:(sg y).length ≤ 1000:=by rw [hy]; exact Nat.le_trans (fig_le _) hx
  obtain ⟨Z,hZ⟩:∃ Z:Int,(y.length:Int) = Z:=⟨_,rfl⟩
  have ln:∀ S:Store,primD .len [.str y] S = .ok (.int Z) S:=fun S=>by rw [prim_len_str (by rw [len_sg]; show _ ≤ 16777216; omega),hZ]
  have zl:Z = ((sg y).length:Nat):=by rw [← hZ,len_sg]
  have md:=made_gen (n:=n) (S:=S) (x:=y) (fun c S=>in_fig (c:=c) (S:=S)) yl
  have key:isNum (sg x) = (decide (1 ≤ (sg y).length) && decide ((sg y).length ≤ 60) && (sg y).all dgt && (decide ((sg y).head? ≠ some 48) || decide (sg x = [48]))):=by rw [isNum_eq,hy]
  unfold PNum
  rw [key]
  by_cases h1:1 ≤ Z
  · by_cases h2:Z ≤ 60
    · have h1':1 ≤ (sg y).length:=by omega
      have h2':(sg y).length ≤ 60:=by omega
      cases h3:(sg y).all dgt with
      | false =>
        simp -implicitDefEqProofs [dropS,f_is_number,v_cst,v_var,v_glb,v_prim,w_nott,w_bo,w_cmp2,w_call,v_bt1,v_bt2,v_a0,v_a1,v_ifs,v_ret,v_b1,kVar,kGlb,kTru,tNotB,tCmp2,tChn2,tChn,tCal,kBT,kCons,kArg,kIfs,kRet,kB,Res.bind_ok,Cn_call,Cn_glob,ln,h1,h2,md,h3,G_MOST_FIGURES,G_FIGURES,tru]
        exact Ext.new _ _
      | true =>
        obtain ⟨c,r,hc⟩:=List.exists_cons_of_ne_nil (l:=sg y) (fun e=>by rw [e] at h1'; simp at h1')
        have ix:=fun S=>ix0 (S:=S) hc yl
        simp -implicitDefEqProofs [dropS,f_is_number,v_cst,v_var,v_glb,v_bo,v_cmp,v_idx,v_prim,w_nott,w_bo,w_cmp2,w_call,v_bv1,v_bv2,v_bt1,v_bt2,v_a0,v_a1,v_ifs,v_ret,v_b0,v_b1,kVar,kGlb,kCmp2,kCmp,kIdx,kTru,tNotB,tCmp2,tChn2,tChn,tCal,kBV,kBT,kCons,kArg,kIfs,kB,Res.bind_ok,Cn_call,Cn_glob,ln,h1,h2,md,h3,G_MOST_FIGURES,G_FIGURES,tru,kIdx2,ix,ne_ch s0,eq_ch s0,h1',h2']
        rw [hc]
        by_cases c48:c = 48
        · subst c48
          simp [kRet,kB,Res.bind_ok,eq_ch s0]
          exact Ext.new _ _
        · simp [kRet,kB,Res.bind_ok,c48]
          exact Ext.new _ _
    · have h2':¬ (sg y).length ≤ 60:=by omega
      simp -implicitDefEqProofs [dropS,f_is_number,v_cst,v_var,v_glb,v_prim,w_nott,w_bo,w_cmp2,v_bt2,v_a0,v_a1,v_ifs,v_ret,v_b1,kVar,kGlb,tNotB,tCmp2,tChn2,tChn,kBT,kCons,kArg,kIfs,kRet,kB,Res.bind_ok,Cn_glob,ln,h1,h2,G_MOST_FIGURES,h2']
      exact Ext.refl _
  · have h1':¬ 1 ≤ (sg y).length:=by omega
    simp -implicitDefEqProofs [dropS,f_is_number,v_cst,v_var,v_prim,w_nott,w_bo,w_cmp2,v_bt2,v_a0,v_a1,v_ifs,v_ret,v_b1,kVar,tNotB,tChn2,tChn,kBT,kCons,kArg,kIfs,kRet,kB,Res.bind_ok,ln,h1,h1']
    exact Ext.refl _
theorem number_ok {x:PySem.Str} (hx:(sg x).length ≤ 1000):Sat (callN T G 100 (n + 2) "is_number" [.str x] S) (PNum x S):=by
  rw [callN_eq T_f_is_number rfl]
  have st:∀ S:Store,methD .starts (.str x) [.str (Str.ofString "-")] S = .ok (.bl (decide ((sg x).head? = some 45))) S:=fun S=>by rw [rmethD_7]; exact congrArg (fun b=>Res.ok (D.bl b) S) (starts_one x 45)
  have hb:f_is_number.body = .cns (headS f_is_number.body) (dropS 1 f_is_number.body):=rfl
  have hN:f_is_number.N.length = 2:=rfl
  by_cases h:(sg x).head? = some 45
  · have l1:1 ≤ (sg x).length:=by
      cases e:sg x with
      | nil=>rw [e] at h; cases h
      | cons a l=>simp
    have sy:sg (cutS x (some 1) none) = fig (sg x):=by
      rw [sg_from ⟨by decide,by omega⟩]
      unfold fig
      rw [if_pos h]
      simp
    have sl:∀ S:Store,sliD (.str x) (some 1) none S = .ok (.str (cutS x (some 1) none)) S:=fun S=>by
      have:=fig_le (sg x)
      rw [← sy,← len_sg] at this
      simp only [sliD]
      rw [if_pos (by show _ ≤ 16777216; omega)]
    obtain ⟨fl,S1,e1,d,rfl,q⟩:=num_rest (n:=n) (S:=S) hx sy
    rw [hb]
    generalize dropS 1 f_is_number.body = rest at e1
    simp [hN,headS,f_is_number,v_cst,v_var,v_ife,v_sli,w_meth,tMth,tMth2,v_a0,v_a1,v_o0,v_o1,v_tvar,v_asg,v_b1,kVar,kIfe,kSli2,kSli,kTru,kCons,kArg,kOpt,kNx,kAsg,kB,Res.bind_ok,finF,rcv,st,h,sl,e1,tru]
    exact q
  · have sy:sg x = fig (sg x):=by
      unfold fig
      rw [if_neg h]
    obtain ⟨fl,S1,e1,d,rfl,q⟩:=num_rest (n:=n) (S:=S) hx sy
    rw [hb]
    generalize dropS 1 f_is_number.body = rest at e1
    simp [hN,headS,f_is_number,v_cst,v_var,v_ife,w_meth,tMth,tMth2,v_a0,v_a1,v_tvar,v_asg,v_b1,kVar,kIfe,kTru,kCons,kArg,kNx,kAsg,kB,Res.bind_ok,finF,rcv,st,h,e1,tru]
    exact q
theorem text_is {x:PySem.Str}:callN T G 100 (n + 1) "checked_text" [.str x] S = .ok (.str x) S:=by
  rw [callN_eq T_f_checked_text rfl]
  simp [f_checked_text,v_var,w_nott,w_isi,v_ifs,v_ret,v_b0,v_b1,kVar,tNotB,tIsi,kIfs,kRet,kB,Res.bind_ok,finF,tyD,isiD]
theorem rn_ok {z:Int} (hz:z.natAbs < 10 ^ 60):Sat (callN T G 100 (n + 3) "read_number" [.str (nt z)] S) (fun d S'=>d = .int z∧Ext S S'):=by
  obtain ⟨hn,hl,_⟩:=num_of hz
  obtain ⟨d,S1,e1,rfl,k1⟩:=number_ok (n:=n) (S:=S) (x:=nt z) (by omega)
  rw [hn] at e1
  have hi:intText? (nt z) = some z:=reads hz
  have rd:∀ S:Store,primD .int1 [.str (nt z)] S = .ok (.int z) S:=fun S=>by rw [rprimD_14,hi]; simp only; rw [if_pos (by rw [len_sg]; omega)]
  rw [callN_eq T_f_read_number rfl]
  simp [f_read_number,v_var,v_call,v_prim,w_nott,w_call,v_a0,v_a1,v_ifs,v_ret,v_b0,v_b1,kVar,kTru,tNotB,tCal,kCons,kArg,kIfs,kRet,kB,Res.bind_ok,finF,Cn_call,text_is,e1,rd,tru]
  exact k1
theorem chain_len {x y:PySem.Str} (hy:1 ≤ y.length):∀ {cuts:List Nat} {a f:Nat},StrLaws.ChainTo x y x.length a cuts f→cuts = [] ∨ a + cuts.length ≤ x.length
  | [],_,_,_=>.inl rfl
  | c :: r,a,f,h=>by
    have h2:c + y.length ≤ x.length:=h.2.1.1
    have h1:a ≤ c:=h.1
    rcases chain_len hy h.2.2 with rfl | h3
    · exact .inr (by simp; omega)
    · exact .inr (by rw [List.length_cons]; omega)
theorem parts_len (x:PySem.Str) (w:Nat):∀ (cuts:List Nat) (a:Nat),(StrLaws.partsFrom x w a cuts).length = cuts.length + 1
  | [],_=>rfl
  | c :: r,a=>by
    show (_ :: StrLaws.partsFrom x w (c + w) r).length = _
    rw [List.length_cons,parts_len x w r,List.length_cons]
theorem parts_le {x y:PySem.Str} (hy:1 ≤ y.length):(Builtin.Str.partsBetween x (Builtin.Str.occurrences x y 0 x.length (x.length + 1)) y.length).length ≤ x.length + 1:=by
  obtain ⟨f,h⟩:=StrLaws.occ_chain x y (x.length + 1)
  rw [StrLaws.partsBetween_eq,parts_len]
  rcases chain_len hy h with e | e
  · rw [e]; simp
  · omega
theorem split_at {y:PySem.Str} {c:Nat} {t:List Nat} (hc:sg y = c :: t) (hk:Builtin.Str.strKind y = 1) {ps:List PySem.Str} (ne:ps ≠ []) (fr:∀ p ∈ ps,c ∉ sg p) (hl:(sg (Str.join y ps)).length ≤ 100000) (S:Store):methD .split1 (.str (Str.join y ps)) [.str y] S = .ok (.loc S.length) (S ++ [.lst (ps.map D.str)]):=by
  have hy:1 ≤ y.length:=by rw [len_sg,hc]; simp
  rw [rmethD_8,split_join hc (fun x=>by rw [hk]; exact kind_one x) ne fr]
  have e1:(Str.join y ps).length ≤ Line:=by rw [len_sg]; show _ ≤ 16777216; omega
  have e2:=parts_le (x:=Str.join y ps) hy
  have e3:(Builtin.Str.partsBetween (Str.join y ps) (Builtin.Str.occurrences (Str.join y ps) y 0 (Str.join y ps).length ((Str.join y ps).length + 1)) y.length).length ≤ Line:=by
    refine Nat.le_trans e2 ?_
    rw [len_sg]
    show _ ≤ 16777216
    omega
  have e0:(!(y.length == 0)) = true:=by
    rw [Bool.not_eq_true',beq_eq_false_iff_ne]
    omega
  rw [if_pos (by simp only [e0,e1,e3,decide_true,Bool.and_true])]
theorem at0 {a:D} {ds:List D}:atI (a :: ds) (0:Int) = some a:=by
  simp only [atI,ixN,List.length_cons]
  rw [if_pos (by decide),if_pos (by omega)]
  rfl
theorem formed_row_ok {r:Rw} (h:Rok r):Sat (callN T G 100 (n + 4) "formed_row" [.str (rT r)] S) (fun d S'=>d = rD r∧Ext S S'):=by
  obtain ⟨wl,w1,w2⟩:=word_ok _ (rok_w h)
  have kl:r.k.length ≤ 1:=by rcases rok_k h with e | ⟨z,e,_⟩<;>rw [e]<;>simp
  have kz:∀ z ∈ r.k,z.natAbs < 10 ^ 60:=fun z hz=>by
    rcases rok_k h with e | ⟨y,e,hy⟩<;>rw [e] at hz
    · cases hz
    · rw [List.mem_singleton.mp hz]; exact hy
  have rl:=(row_len h).2
  have sp:methD .split1 (.str (rT r)) [.str (Str.ofString " ")] S = .ok (.loc S.length) (S ++ [.lst ((Str.ofString r.w :: r.k.map nt).map D.str)]):=split_at (ps:=Str.ofString r.w :: r.k.map nt) sb (by decide +kernel) (by simp) (fun p hp=>by
    rcases List.mem_cons.mp hp with rfl | hp
    · exact word_free (rok_w h) (by decide)
    · obtain ⟨z,hz,rfl⟩:=List.mem_map.mp hp
      intro m
      have:=(num_of (kz z hz)).2.2 32 m
      omega) (by show (sg (rT r)).length ≤ _; omega) S
  have gl:(S ++ [Mi.Obj.lst ((Str.ofString r.w :: r.k.map nt).map D.str)])[S.length]? = some (.lst (.str (Str.ofString r.w) :: (r.k.map nt).map D.str)):=new_get
  have ix:∀ S':Store,Ext (S ++ [Mi.Obj.lst ((Str.ofString r.w :: r.k.map nt).map D.str)]) S'→kIdx2 (.loc S.length) (.int 0) S' = .ok (.str (Str.ofString r.w)) S':=fun S' x=>kIdx_loc (x.get gl) at0
  have we:∀ S:Store,cop .eq (.str (Str.ofString r.w)) (.str (Str.ofString "")) S = some false:=fun S=>by
    rw [cop_eq_str]
    congr 1
    refine decide_eq_false fun e=>?_
    have:=congrArg (fun x=>(sg x).length) e
    simp only [show sg (Str.ofString "") = [] from by decide,List.length_nil] at this
    omega
  obtain ⟨S1,hS1⟩:∃ S1,S ++ [Mi.Obj.lst ((Str.ofString r.w :: r.k.map nt).map D.str)] = S1:=⟨_,rfl⟩
  rw [hS1] at sp gl ix
  have md:=made_gen (n:=n + 2) (S:=S1) (x:=Str.ofString r.w) (fun c S=>in_let (c:=c) (S:=S)) (by omega)
  rw [wl] at md
  obtain ⟨S2,hS2⟩:∃ S2,S1 ++ [Mi.Obj.lst ((sg (Str.ofString r.w)).map fun c=>.bl (letter c))] = S2:=⟨_,rfl⟩
  rw [hS2] at md
  have x2:Ext S1 S2:=⟨_,hS2.symm⟩
  have i1:=ix S1 (.refl _)
  have i2:=ix S2 x2
  have sl:sliD (.loc S.length) (some 1) none (S2 ++ [.lst [.str (Str.ofString r.w)]]) = .ok (.loc (S2.length + 1)) (S2 ++ [.lst [.str (Str.ofString r.w)],.lst (r.k.map fun z=>D.str (nt z))]):=by
    rw [sliD_loc (old_get (x2.get gl)),cut_from (show (0:Int) ≤ 1 by decide)]
    simp
  obtain ⟨_,_,e3,S3,rfl,rfl,x3⟩:=compL_call (S:=S2 ++ [.lst [.str (Str.ofString r.w)],.lst (r.k.map fun z=>D.str (nt z))]) (f:="read_number") (τ:=[some (.str (rT r)),some (.loc S.length)]) (m:=n + 3) (l:=S2.length + 1) (xs:=r.k) (fun z=>.str (nt z)) D.int app_get1 (by omega) fun z hz S=>rn_ok (kz z hz)
  have sq:seqAt (S2 ++ [.lst [.str (Str.ofString r.w)],.lst (r.k.map fun z=>D.str (nt z))]) (S2.length + 1) = some (r.k.map fun z=>D.str (nt z)):=seqAt_of app_get1
  have ad3:bop .add (.loc S2.length) (.loc S3.length) (S3 ++ [.lst (r.k.map D.int)]) = .ok (.loc (S3.length + 1)) (S3 ++ [.lst (r.k.map D.int),.lst (.str (Str.ofString r.w) :: r.k.map D.int)]):=by
    rw [bop_add_lst (old_get (x3.get app_get0)) new_get (by simp [Line]; omega)]
    simp
  have tp:primD .tuple1 [.loc (S3.length + 1)] (S3 ++ [.lst (r.k.map D.int),.lst (.str (Str.ofString r.w) :: r.k.map D.int)]) = .ok (rD r) (S3 ++ [.lst (r.k.map D.int),.lst (.str (Str.ofString r.w) :: r.k.map D.int)]):=prim_tuple_loc app_get1
  have xx:Ext S (S3 ++ [.lst (r.k.map D.int),.lst (.str (Str.ofString r.w) :: r.k.map D.int)]):=(((show Ext S S1 from ⟨_,hS1.symm⟩).trans x2).trans ((Ext.new _ _).trans x3)).more _
  obtain ⟨A1,hA1⟩:∃ A,(r.k.map fun z=>D.str (nt z)) = A:=⟨_,rfl⟩
  obtain ⟨A2,hA2⟩:∃ A,r.k.map D.int = A:=⟨_,rfl⟩
  rw [hA1] at sl e3 sq
  rw [hA2] at e3 ad3 tp xx
  rw [callN_eq T_f_formed_row rfl]
  simp -implicitDefEqProofs [f_formed_row,v_cst,v_var,v_glb,v_bin,v_lst,v_idx,v_sli,v_prim,v_meth,v_comp,w_nott,w_bo,w_cmp,w_call,v_bt1,v_bt2,v_a0,v_a1,v_o0,v_o1,v_seq,v_tvar,v_asg,v_ifs,v_ret,v_b0,v_b1,kVar,kGlb,kBin,kLst,kIdx,kSli2,kSli,kMeth,kTru,tNotB,tCmp2,tCmp',tCal,kBT,kCons,kArg,kOpt,kSeq,kNx,kAsg,kIfs,kRet,kB,Res.bind_ok,finF,Cn_call,Cn_glob,Line,rcv,sp,i1,we,md,G_SMALL_LETTERS,tru,i2,sl,sq,e3,ad3,tp]
  exact xx
theorem lock_text_ne {L:List Rw} (hk:∀ r ∈ L,Rok r) (hL:L ≠ []):¬ lT L = Str.ofString "-":=by
  intro e
  have:=congrArg sg e
  rw [show sg (Str.ofString "-") = [45] from by decide] at this
  unfold lT at this
  rw [sg_join,sc] at this
  cases L with
  | nil=>exact hL rfl
  | cons r L =>
    have rk:=hk r (by simp)
    have h0:∃ c t,sg (rT r) = c :: t∧97 ≤ c:=by
      rw [sg_row rk]
      obtain ⟨wl,w1,_⟩:=word_ok _ (rok_w rk)
      obtain ⟨c,t,ec⟩:=List.exists_cons_of_ne_nil (l:=sg (Str.ofString r.w)) (fun e=>by rw [e] at w1; simp at w1)
      refine ⟨c,_,by rw [ec]; rfl,?_⟩
      have:=(List.all_eq_true.mp wl) c (by rw [ec]; simp)
      simp [letter] at this
      exact this.1
    obtain ⟨c,t,ec,hc⟩:=h0
    have hd:(joinL [44,32] (((r :: L).map rT).map sg)).head? = some c:=by
      cases L with
      | nil=>simp [joinL,ec]
      | cons q L=>simp [joinL,ec]
    rw [this] at hd
    simp at hd
    omega
theorem formed_lock_ok {L:List Rw} (hk:∀ r ∈ L,Rok r) (h30:L.length ≤ 30):Sat (callN T G 100 (n + 5) "formed_lock" [.str (if L = [] then Str.ofString "-" else lT L)] S) (fun d S'=>d = .tup (L.map rD)∧Ext S S'):=by
  rw [callN_eq T_f_formed_lock rfl]
  by_cases hL:L = []
  · subst hL
    simp -implicitDefEqProofs [f_formed_lock,v_var,v_glb,v_tup,w_cmp,v_a0,v_ifs,v_ret,v_b1,kVar,kGlb,kTup,tCmp2,tCmp',kIfs,kRet,kB,Res.bind_ok,finF,Cn_glob,G_EMPTY_LOCK,Line]
    exact Ext.refl _
  · rw [if_neg hL]
    have ne:=lock_text_ne hk hL
    have ll:=lock_len hk
    have sp:methD .split1 (.str (lT L)) [.str (Str.ofString ", ")] S = .ok (.loc S.length) (S ++ [.lst ((L.map rT).map D.str)]):=split_at (ps:=L.map rT) sc (by decide +kernel) (by simpa using hL) (fun p hp=>by
      obtain ⟨r,hr,rfl⟩:=List.mem_map.mp hp
      exact row_free (hk r hr)) (by show (sg (lT L)).length ≤ _; omega) S
    rw [List.map_map,show (D.str ∘ rT) = fun r=>D.str (rT r) from rfl] at sp
    obtain ⟨_,_,e3,S3,rfl,rfl,x3⟩:=compL_call (S:=S ++ [.lst (L.map fun r=>D.str (rT r))]) (f:="formed_row") (τ:=[some (.str (lT L))]) (m:=n + 4) (l:=S.length) (xs:=L) (fun r=>.str (rT r)) rD new_get (by omega) fun r hr S=>formed_row_ok (hk r hr)
    have sq:seqAt (S ++ [.lst (L.map fun r=>D.str (rT r))]) S.length = some (L.map fun r=>D.str (rT r)):=seqAt_of new_get
    have tp:primD .tuple1 [.loc S3.length] (S3 ++ [.lst (L.map rD)]) = .ok (.tup (L.map rD)) (S3 ++ [.lst (L.map rD)]):=prim_tuple_loc new_get
    obtain ⟨A1,hA1⟩:∃ A,(L.map fun r=>D.str (rT r)) = A:=⟨_,rfl⟩
    obtain ⟨A2,hA2⟩:∃ A,L.map rD = A:=⟨_,rfl⟩
    rw [hA1] at sp e3 sq x3
    rw [hA2] at e3 tp ⊢
    simp -implicitDefEqProofs [f_formed_lock,v_cst,v_var,v_glb,v_prim,v_meth,v_comp,w_cmp,v_a0,v_a1,v_seq,v_ifs,v_ret,v_b0,v_b1,kVar,kGlb,kMeth,tCmp2,tCmp',kCons,kArg,kSeq,kIfs,kRet,kB,Res.bind_ok,finF,Cn_glob,G_EMPTY_LOCK,ne,rcv,sp,sq,e3,tp]
    exact ((Ext.new _ _).trans x3).more _
end
end K64
namespace K64
open PySem L2 Mi Tx
section
variable {n:Nat} {S:Store}
theorem allT {α:Type} (xs:List α) (S:Store):primD .all1 [.loc S.length] (S ++ [Mi.Obj.lst (xs.map fun _=>D.bl true)]) = .ok (.bl true) (S ++ [Mi.Obj.lst (xs.map fun _=>D.bl true)]):=by
  rw [rprimD_10]
  simp only [seqOf,seqAt_of new_get]
  have:=allB_map (fun _:α=>true) xs
  rw [this]
  simp
noncomputable abbrev PTr (S:Store) (d:D) (S':Store):Prop:=d = .bl true∧Ext S S'
theorem keys_ok {ks:List Int} (hl:ks.length ≤ 2) (hk:∀ k ∈ ks,-100000000000000000000000000000000000000000000000000 < k∧k < 100000000000000000000000000000000000000000000000000):Sat (callN T G 100 (n + 3) "are_keys" [.tup (ks.map D.int)] S) (PTr S):=by
  have t:=tuple_ok (n:=n + 1) (S:=S) (ds:=ks.map D.int) (lo:=0) (hi:=10) (by omega) (by rw [List.length_map]; omega)
  obtain ⟨_,_,e1,S1,rfl,rfl,x1⟩:=comp_call (S:=S) (f:="is_short") (τ:=[some (.tup (ks.map D.int))]) (m:=n + 2) (xs:=ks) D.int (fun _=>.bl true) (by omega) fun k hk' S=>⟨_,_,short_ok (n:=n) (hk k hk').1 (hk k hk').2,rfl,.refl _⟩
  have al:=allT ks S1
  obtain ⟨Y,hY⟩:∃ Y,ks.map D.int = Y:=⟨_,rfl⟩
  obtain ⟨Z,hZ⟩:∃ Z,(ks.map fun _=>D.bl true) = Z:=⟨_,rfl⟩
  rw [hY] at t e1 ⊢
  rw [hZ] at e1 al
  rw [callN_eq T_f_are_keys rfl]
  simp -implicitDefEqProofs [f_are_keys,v_cst,v_var,v_glb,v_bo,v_call,v_prim,v_comp,v_bv1,v_bv2,v_a0,v_a1,v_seq,v_ret,v_b1,kVar,kGlb,kBV,kCons,kArg,kSeq,kRet,kB,Res.bind_ok,finF,Cn_call,Cn_glob,G_MOST_KEYS,t,e1,al,tru]
  exact ⟨rfl,x1.more _⟩
theorem coin_ok {a b:Int} (a0:0 ≤ a) (a1:a ≤ B30) (b0:0 ≤ b) (b1:b ≤ B30):Sat (callN T G 100 (n + 3) "is_coin" [.tup [.int a,.int b]] S) (PTr S):=by
  have t:=tuple_ok (n:=n + 1) (S:=S) (ds:=[.int a,.int b]) (lo:=2) (hi:=2) (by simp) (by simp)
  obtain ⟨Q,pQ,hQ⟩:∃ Q:Int,(∀ S:Store,bop .pow (.int 10) (.int 30) S = .ok (.int Q) S)∧Q = B30:=⟨_,fun _=>p30,rfl⟩
  have cm:∀ τ:En,kComp (Cn T G 100 (n + 2)) 1 [] (.tvar 0) .nul (.call "is_within" (.cns (.var 0) (.cns (.cst (.int 0)) (.cns (.bin .pow (.cst (.int 10)) (.cst (.int 30))) .nul)))) τ (none,[a,b].map D.int) S = .ok (.loc S.length) (S ++ [.lst ([a,b].map fun _=>D.bl true)]):=fun τ =>
    kComp_of D.int (fun _=>.bl true) (by simp) (.inl rfl) fun z hz=>by
      have:0 ≤ z∧z ≤ Q:=by
        simp only [List.mem_cons,List.not_mem_nil,or_false] at hz
        rcases hz with rfl | rfl<;>omega
      simp -implicitDefEqProofs [turnC,v_cst,v_var,v_bin,v_call,v_c0,v_a0,v_a1,v_tvar,kVar,kBin,kCons,kArg,Res.bind_ok,Cn_call,inEn,pQ,within_ok (n:=n) this.1 this.2]
  have al:=allT [a,b] S
  simp only [List.map_cons,List.map_nil] at cm al
  rw [callN_eq T_f_is_coin rfl]
  simp -implicitDefEqProofs [f_is_coin,v_cst,v_var,v_bo,v_call,v_prim,v_comp,v_bv1,v_bv2,v_a0,v_a1,v_seq,v_ret,v_b1,kVar,kBV,kCons,kArg,kSeq,kRet,kB,Res.bind_ok,finF,Cn_call,t,cm,al,tru]
  exact ⟨rfl,Ext.new _ _⟩
theorem is_in_ok {i:In1} (h:IOk i):Sat (callN T G 100 (n + 4) "is_in" [iD i] S) (PTr S):=by
  obtain ⟨a0,a1,b0,b1,hl,hk⟩:=h
  have t:=tuple_ok (n:=n + 2) (S:=S) (ds:=[.tup [.int i.a,.int i.b],.tup (i.ks.map D.int)]) (lo:=2) (hi:=2) (by simp) (by simp)
  obtain ⟨_,S1,e1,rfl,x1⟩:=coin_ok (n:=n) (S:=S) a0 a1 b0 b1
  obtain ⟨_,S2,e2,rfl,x2⟩:=keys_ok (n:=n) (S:=S1) hl hk
  unfold iD
  obtain ⟨Y,hY⟩:∃ Y,i.ks.map D.int = Y:=⟨_,rfl⟩
  rw [hY] at t e2 ⊢
  rw [callN_eq T_f_is_in rfl]
  simp -implicitDefEqProofs [f_is_in,v_cst,v_var,v_bo,v_idx,v_call,v_bv1,v_bv2,v_a0,v_a1,v_ret,v_b1,kVar,kIdx,kBV,kCons,kArg,kRet,kB,Res.bind_ok,finF,Cn_call,t,e1,e2,tru]
  exact ⟨rfl,x1.trans x2⟩
theorem is_out_ok {o:Out1} (h:OOk o):Sat (callN T G 100 (n + 5) "is_out" [oD o] S) (PTr S):=by
  obtain ⟨w0,w1,f,l30,hk⟩:=h
  have t:=tuple_ok (n:=n + 3) (S:=S) (ds:=[.int o.w,.tup (o.L.map rD)]) (lo:=2) (hi:=2) (by simp) (by simp)
  obtain ⟨Q,pQ,hQ⟩:∃ Q:Int,(∀ S:Store,bop .pow (.int 10) (.int 40) S = .ok (.int Q) S)∧Q = B40:=⟨_,fun _=>p40,rfl⟩
  have wi:=fun S=>within_ok (n:=n + 2) (S:=S) (z:=o.w) (lo:=1) (hi:=Q) w0 (by omega)
  obtain ⟨_,S1,e1,rfl,x1⟩:=lock_ok (n:=n) (S:=S) f l30 hk
  unfold oD
  obtain ⟨Y,hY⟩:∃ Y,o.L.map rD = Y:=⟨_,rfl⟩
  rw [hY] at t e1 ⊢
  rw [callN_eq T_f_is_out rfl]
  simp -implicitDefEqProofs [f_is_out,v_cst,v_var,v_bin,v_bo,v_idx,v_call,v_bv1,v_bv2,v_a0,v_a1,v_ret,v_b1,kVar,kBin,kIdx,kBV,kCons,kArg,kRet,kB,Res.bind_ok,finF,Cn_call,t,pQ,wi,e1,tru]
  exact ⟨rfl,x1⟩
theorem are_ins_ok {is:List In1} (hl:is.length ≤ 4) (h:∀ i ∈ is,IOk i):Sat (callN T G 100 (n + 5) "are_ins" [.tup (is.map iD)] S) (PTr S):=by
  have t:=tuple_ok (n:=n + 3) (S:=S) (ds:=is.map iD) (lo:=0) (hi:=8) (by omega) (by rw [List.length_map]; omega)
  obtain ⟨_,_,e1,S1,rfl,rfl,x1⟩:=comp_call (S:=S) (f:="is_in") (τ:=[some (.tup (is.map iD))]) (m:=n + 4) (xs:=is) iD (fun _=>.bl true) (by omega) fun i hi S=>is_in_ok (n:=n) (h i hi)
  have al:=allT is S1
  obtain ⟨Y,hY⟩:∃ Y,is.map iD = Y:=⟨_,rfl⟩
  obtain ⟨Z,hZ⟩:∃ Z,(is.map fun _=>D.bl true) = Z:=⟨_,rfl⟩
  rw [hY] at t e1 ⊢
  rw [hZ] at e1 al
  rw [callN_eq T_f_are_ins rfl]
  simp -implicitDefEqProofs [f_are_ins,v_cst,v_var,v_glb,v_bo,v_call,v_prim,v_comp,v_bv1,v_bv2,v_a0,v_a1,v_seq,v_ret,v_b1,kVar,kGlb,kBV,kCons,kArg,kSeq,kRet,kB,Res.bind_ok,finF,Cn_call,Cn_glob,G_MOST_INS,t,e1,al,tru]
  exact ⟨rfl,x1.more _⟩
theorem are_outs_ok {os:List Out1} (h1:1 ≤ os.length) (hl:os.length ≤ 4) (h:∀ o ∈ os,OOk o):Sat (callN T G 100 (n + 6) "are_outs" [.tup (os.map oD)] S) (PTr S):=by
  have t:=tuple_ok (n:=n + 4) (S:=S) (ds:=os.map oD) (lo:=1) (hi:=8) (by rw [List.length_map]; omega) (by rw [List.length_map]; omega)
  obtain ⟨_,_,e1,S1,rfl,rfl,x1⟩:=comp_call (S:=S) (f:="is_out") (τ:=[some (.tup (os.map oD))]) (m:=n + 5) (xs:=os) oD (fun _=>.bl true) (by omega) fun i hi S=>is_out_ok (n:=n) (h i hi)
  have al:=allT os S1
  obtain ⟨Y,hY⟩:∃ Y,os.map oD = Y:=⟨_,rfl⟩
  obtain ⟨Z,hZ⟩:∃ Z,(os.map fun _=>D.bl true) = Z:=⟨_,rfl⟩
  rw [hY] at t e1 ⊢
  rw [hZ] at e1 al
  rw [callN_eq T_f_are_outs rfl]
  simp -implicitDefEqProofs [f_are_outs,v_cst,v_var,v_glb,v_bo,v_call,v_prim,v_comp,v_bv1,v_bv2,v_a0,v_a1,v_seq,v_ret,v_b1,kVar,kGlb,kBV,kCons,kArg,kSeq,kRet,kB,Res.bind_ok,finF,Cn_call,Cn_glob,G_MOST_OUTS,t,e1,al,tru]
  exact ⟨rfl,x1.more _⟩
theorem deed_ok {d:De} (h:DOk d):Sat (callN T G 100 (n + 7) "is_deed" [dD d] S) (PTr S):=by
  obtain ⟨n0,n1,il,ik,o1,ol,ok⟩:=h
  have t:=tuple_ok (n:=n + 5) (S:=S) (ds:=[.int d.num,.tup (d.ins.map iD),.tup (d.outs.map oD)]) (lo:=3) (hi:=3) (by simp) (by simp)
  obtain ⟨Q,pQ,hQ⟩:∃ Q:Int,(∀ S:Store,bop .pow (.int 10) (.int 30) S = .ok (.int Q) S)∧Q = B30:=⟨_,fun _=>p30,rfl⟩
  have wi:=fun S=>within_ok (n:=n + 4) (S:=S) (z:=d.num) (lo:=1) (hi:=Q) n0 (by omega)
  obtain ⟨_,S1,e1,rfl,x1⟩:=are_ins_ok (n:=n + 1) (S:=S) il ik
  obtain ⟨_,S2,e2,rfl,x2⟩:=are_outs_ok (n:=n) (S:=S1) o1 ol ok
  unfold dD
  obtain ⟨Y,hY⟩:∃ Y,d.ins.map iD = Y:=⟨_,rfl⟩
  obtain ⟨Z,hZ⟩:∃ Z,d.outs.map oD = Z:=⟨_,rfl⟩
  rw [hY] at t e1 ⊢
  rw [hZ] at t e2 ⊢
  rw [callN_eq T_f_is_deed rfl]
  simp -implicitDefEqProofs [f_is_deed,v_cst,v_var,v_bin,v_bo,v_idx,v_call,w_nott,w_call,v_bv1,v_bv2,v_a0,v_a1,v_ifs,v_ret,v_b0,v_b1,kVar,kBin,kIdx,kTru,tNotB,tCal,kBV,kCons,kArg,kIfs,kRet,kB,Res.bind_ok,finF,Cn_call,t,pQ,wi,e1,e2,tru]
  exact ⟨rfl,x1.trans x2⟩
end
end K64
namespace K64
open PySem L2 Mi Tx
noncomputable def lkT (L:List Rw):PySem.Str:=if L = [] then Str.ofString "-" else lT L
noncomputable def cT (a b:Int):PySem.Str:=Str.join (Str.ofString ".") [nt a,nt b]
noncomputable def iT (i:In1):PySem.Str:=Str.join (Str.ofString " ") (Str.ofString "in" :: cT i.a i.b :: i.ks.map nt)
noncomputable def oT (o:Out1):PySem.Str:=Str.join (Str.ofString " ") [Str.ofString "out",nt o.w,lkT o.L]
noncomputable def dT (d:De):PySem.Str:=Str.join (Str.ofString "; ") (nt d.num :: (d.ins.map iT ++ d.outs.map oT))
noncomputable def nsT (ks:List Int):PySem.Str:=Str.join (Str.ofString "") (ks.map fun k=>Str.ofString " " ++ nt k)
theorem sp:sg (Str.ofString ".") = [46]:=by decide
theorem ss:sg (Str.ofString "; ") = [59,32]:=by decide
theorem sn:sg (Str.ofString "") = []:=by decide
theorem joinL_flat (y:List Nat):∀ (l:List (List Nat)) (p:List Nat),joinL y (p :: l) = p ++ (l.map fun q=>y ++ q).flatten
  | [],p=>by simp [joinL]
  | q :: l,p=>by
    show p ++ (y ++ joinL y (q :: l)) = _
    rw [joinL_flat y l q]
    simp
theorem joinL_nil:∀ l:List (List Nat),joinL [] l = l.flatten
  | []=>rfl
  | [p]=>by simp [joinL]
  | p :: q :: l=>by
    show p ++ ([] ++ joinL [] (q :: l)) = _
    rw [joinL_nil (q :: l)]
    simp
theorem sg_ns (ks:List Int):sg (nsT ks) = (ks.map fun k=>32 :: sg (nt k)).flatten:=by
  unfold nsT
  rw [sg_join,sn,joinL_nil,List.map_map]
  congr 1
  refine List.map_congr_left fun k _=>?_
  show sg (Str.ofString " " ++ nt k) = _
  rw [sg_app,sb]
  rfl
theorem sg_c (a b:Int):sg (cT a b) = sg (nt a) ++ 46 :: sg (nt b):=by
  unfold cT
  rw [sg_join,sp]
  simp [joinL]
theorem sg_i (i:In1):sg (iT i) = [105,110,32] ++ (sg (nt i.a) ++ 46 :: sg (nt i.b)) ++ (i.ks.map fun k=>32 :: sg (nt k)).flatten:=by
  unfold iT
  rw [sg_join,sb,List.map_cons,joinL_flat,List.map_cons,List.map_cons,sg_c,show sg (Str.ofString "in") = [105,110] from by decide]
  rw [List.map_map,List.map_map]
  simp
  rfl
theorem sg_o (o:Out1):sg (oT o) = [111,117,116,32] ++ sg (nt o.w) ++ 32 :: sg (lkT o.L):=by
  unfold oT
  rw [sg_join,sb,List.map_cons,joinL_flat,show sg (Str.ofString "out") = [111,117,116] from by decide]
  simp
theorem sg_d (d:De):sg (dT d) = sg (nt d.num) ++ (d.ins.map fun i=>[59,32] ++ sg (iT i)).flatten ++ (d.outs.map fun o=>[59,32] ++ sg (oT o)).flatten:=by
  unfold dT
  rw [sg_join,ss,List.map_cons,joinL_flat,List.map_append,List.map_append,List.flatten_append,List.map_map,List.map_map,List.map_map,List.map_map,List.append_assoc]
  rfl
theorem i_small {i:In1} (h:IOk i):i.a.natAbs < 10 ^ 60∧i.b.natAbs < 10 ^ 60∧∀ k ∈ i.ks,k.natAbs < 10 ^ 60:=by
  obtain ⟨a0,a1,b0,b1,hl,hk⟩:=h
  have e:B30 = 1000000000000000000000000000000:=rfl
  exact ⟨by omega,by omega,fun k hk'=>by have:=hk k hk'; omega⟩
theorem o_small {o:Out1} (h:OOk o):o.w.natAbs < 10 ^ 60:=by
  obtain ⟨w0,w1,_⟩:=h
  have e:B40 = 10000000000000000000000000000000000000000:=rfl
  omega
theorem d_small {d:De} (h:DOk d):d.num.natAbs < 10 ^ 60:=by
  obtain ⟨w0,w1,_⟩:=h
  have e:B30 = 1000000000000000000000000000000:=rfl
  omega
noncomputable def okc (c:Nat):Prop:=c = 32 ∨ c = 44 ∨ c = 45 ∨ c = 46 ∨ (48 ≤ c∧c ≤ 57) ∨ (97 ≤ c∧c ≤ 122)
theorem okc_nt {z:Int} (h:z.natAbs < 10 ^ 60):∀ c ∈ sg (nt z),okc c:=fun c hc=>by
  have:=(num_of h).2.2 c hc
  unfold okc
  omega
theorem okc_row {r:Rw} (h:Rok r):∀ c ∈ sg (rT r),okc c:=by
  intro c hc
  rw [sg_row h] at hc
  rcases List.mem_append.mp hc with hc | hc
  · have:=(List.all_eq_true.mp (word_ok _ (rok_w h)).1) c hc
    simp [letter] at this
    unfold okc
    omega
  · obtain ⟨l,hl,hc⟩:=List.mem_flatten.mp hc
    obtain ⟨z,hz,rfl⟩:=List.mem_map.mp hl
    rcases List.mem_cons.mp hc with rfl | hc
    · exact .inl rfl
    · rcases rok_k h with e | ⟨y,e,hy⟩<;>rw [e] at hz
      · cases hz
      · rw [List.mem_singleton.mp hz] at hc
        exact okc_nt hy c hc
theorem mem_joinL {y:List Nat} {c:Nat}:∀ {l:List (List Nat)},c ∈ joinL y l→c ∈ y ∨ ∃ p ∈ l,c ∈ p
  | [],h=>by cases h
  | [p],h=>.inr ⟨p,by simp,h⟩
  | p :: q :: l,h=>by
    rcases List.mem_append.mp (show c ∈ p ++ (y ++ joinL y (q :: l)) from h) with h | h
    · exact .inr ⟨p,by simp,h⟩
    · rcases List.mem_append.mp h with h | h
      · exact .inl h
      · rcases mem_joinL h with h | ⟨r,hr,h⟩
        · exact .inl h
        · exact .inr ⟨r,List.mem_cons_of_mem _ hr,h⟩
theorem okc_lk {L:List Rw} (h:∀ r ∈ L,Rok r):∀ c ∈ sg (lkT L),okc c:=by
  intro c hc
  unfold lkT at hc
  split at hc
  · rw [show sg (Str.ofString "-") = [45] from by decide] at hc
    rw [List.mem_singleton.mp hc]
    exact .inr (.inr (.inl rfl))
  · unfold lT at hc
    rw [sg_join,sc] at hc
    rcases mem_joinL hc with hc | ⟨p,hp,hc⟩
    · simp at hc
      unfold okc
      omega
    · obtain ⟨q,hq,rfl⟩:=List.mem_map.mp hp
      obtain ⟨r,hr,rfl⟩:=List.mem_map.mp hq
      exact okc_row (h r hr) c hc
theorem lk_len {L:List Rw} (h:∀ r ∈ L,Rok r) (h30:L.length ≤ 30):(sg (lkT L)).length ≤ 2200:=by
  unfold lkT
  split
  · decide
  · have:=lock_len h
    omega
theorem okc_i {i:In1} (h:IOk i):∀ c ∈ sg (iT i),okc c:=by
  obtain ⟨h1,h2,h3⟩:=i_small h
  intro c hc
  rw [sg_i] at hc
  simp only [List.mem_append,List.mem_cons,List.not_mem_nil,or_false,List.mem_flatten,List.mem_map] at hc
  rcases hc with (hc | hc | hc | hc) | ⟨l,⟨k,hk,rfl⟩,hc⟩
  · unfold okc; omega
  · exact okc_nt h1 c hc
  · unfold okc; omega
  · exact okc_nt h2 c hc
  · rcases List.mem_cons.mp hc with rfl | hc
    · exact .inl rfl
    · exact okc_nt (h3 k hk) c hc
theorem okc_o {o:Out1} (h:OOk o):∀ c ∈ sg (oT o),okc c:=by
  intro c hc
  rw [sg_o] at hc
  simp only [List.mem_append,List.mem_cons,List.not_mem_nil,or_false] at hc
  rcases hc with (hc | hc) | hc | hc
  · unfold okc; omega
  · exact okc_nt (o_small h) c hc
  · unfold okc; omega
  · exact okc_lk h.2.2.2.2 c hc
theorem fl_len {α:Type} (f:α→List Nat) (B:Nat):∀ xs:List α,(∀ x ∈ xs,(f x).length ≤ B)→((xs.map f).flatten).length ≤ B * xs.length
  | [],_=>by simp
  | x :: xs,h=>by
    have h1:=h x (by simp)
    have h2:=fl_len f B xs fun y hy=>h y (List.mem_cons_of_mem _ hy)
    simp only [List.map_cons,List.flatten_cons,List.length_append,List.length_cons,Nat.mul_add]
    omega
theorem i_len {i:In1} (h:IOk i):(sg (iT i)).length ≤ 400:=by
  obtain ⟨h1,h2,h3⟩:=i_small h
  have l1:=(num_of h1).2.1
  have l2:=(num_of h2).2.1
  have l3:=fl_len (fun k=>32 :: sg (nt k)) 62 i.ks fun k hk=>by have:=(num_of (h3 k hk)).2.1; simp; omega
  have l4:=h.2.2.2.2.1
  rw [sg_i]
  simp only [List.length_append,List.length_cons,List.length_nil]
  omega
theorem o_len {o:Out1} (h:OOk o):(sg (oT o)).length ≤ 2300:=by
  have l1:=(num_of (o_small h)).2.1
  have l2:=lk_len h.2.2.2.2 h.2.2.2.1
  rw [sg_o]
  simp only [List.length_append,List.length_cons,List.length_nil]
  omega
theorem d_len {d:De} (h:DOk d):(sg (dT d)).length ≤ 20000:=by
  have l1:=(num_of (d_small h)).2.1
  obtain ⟨_,_,il,ik,_,ol,ok⟩:=h
  have l2:=fl_len (fun i=>[59,32] ++ sg (iT i)) 402 d.ins fun i hi=>by have:=i_len (ik i hi); simp; omega
  have l3:=fl_len (fun o=>[59,32] ++ sg (oT o)) 2302 d.outs fun o ho=>by have:=o_len (ok o ho); simp; omega
  rw [sg_d]
  simp only [List.length_append]
  omega
section
variable {n:Nat} {S:Store}
theorem join_big {x:PySem.Str} {l:Nat} {ts:List PySem.Str} (h:S[l]? = some (.lst (ts.map D.str))) (hx:x.length ≤ 10) (hl:ts.length ≤ 100) (ht:∀ t ∈ ts,(sg t).length ≤ 100000):methD .join1 (.str x) [.loc l] S = .ok (.str (Str.join x ts)) S:=by
  have ok:JoinOk x ts = true:=by
    unfold JoinOk
    rw [Bool.not_eq_true']
    refine StrLaws.joinFits (B:=100000) (fun y hy=>by rw [len_sg]; exact ht y hy) ?_
    have h1:ts.length * 100000 ≤ 100 * 100000:=Nat.mul_le_mul_right _ hl
    have h2:ts.length * x.length ≤ 100 * 10:=Nat.mul_le_mul hl hx
    exact Nat.le_trans (Nat.add_le_add h1 h2) (by decide +kernel)
  rw [rmethD_9,h]
  simp only [strsD_map,if_pos ok]
  rw [show Txt.join x ts = Str.join x ts from StrLaws.glued_eq_join x ts]
theorem comp_str {ks:List Int} (hk:∀ k ∈ ks,k.natAbs < 10 ^ 60) (hl:ks.length ≤ 1000) (m:Nat) (τ:En) (S:Store):kComp (Cn T G 100 m) 1 [] (.tvar 0) .nul (.prim .str1 (.cns (.var 0) .nul)) τ (none,ks.map D.int) S = .ok (.loc S.length) (S ++ [.lst (ks.map fun z=>D.str (nt z))]) :=
  kComp_of D.int (fun z=>.str (nt z)) (by omega) (.inl rfl) fun z hz=>by
    simp [turnC,v_var,v_prim,v_c0,v_a0,v_a1,v_tvar,kVar,kCons,kArg,Res.bind_ok,inEn,str_int (hk z hz)]
theorem shown_coin_ok {a b:Int} (ha:a.natAbs < 10 ^ 60) (hb:b.natAbs < 10 ^ 60):Sat (callN T G 100 (n + 1) "shown_coin" [.tup [.int a,.int b]] S) (fun d S'=>d = .str (cT a b)∧Ext S S'):=by
  have cm:=fun τ=>comp_str (ks:=[a,b]) (fun k hk=>by simp only [List.mem_cons,List.not_mem_nil,or_false] at hk; rcases hk with rfl | rfl<;>assumption) (by simp) n τ S
  have jn:=join_big (S:=S ++ [.lst ([nt a,nt b].map D.str)]) (x:=Str.ofString ".") (l:=S.length) (ts:=[nt a,nt b]) new_get (by decide) (by simp) (fun t ht=>by
    have l1:=(num_of ha).2.1
    have l2:=(num_of hb).2.1
    simp only [List.mem_cons,List.not_mem_nil,or_false] at ht
    rcases ht with rfl | rfl<;>omega)
  simp only [List.map_cons,List.map_nil] at cm jn
  rw [callN_eq T_f_shown_coin rfl]
  simp -implicitDefEqProofs [f_shown_coin,v_cst,v_var,v_meth,v_comp,v_a0,v_a1,v_seq,v_ret,v_b1,kVar,kMeth,kCons,kArg,kSeq,kRet,kB,Res.bind_ok,finF,cm,rcv,jn]
  exact ⟨rfl,Ext.new _ _⟩
theorem shown_in_ok {i:In1} (h:IOk i):Sat (callN T G 100 (n + 2) "shown_in" [iD i] S) (fun d S'=>d = .str (iT i)∧Ext S S'):=by
  obtain ⟨h1,h2,h3⟩:=i_small h
  have l4:=h.2.2.2.2.1
  obtain ⟨_,S1,e1,rfl,x1⟩:=shown_coin_ok (n:=n) (S:=S) h1 h2
  have cm:=fun τ S=>comp_str (ks:=i.ks) h3 (by omega) (n + 1) τ S
  have ad:bop .add (.loc S1.length) (.loc (S1.length + 1)) (S1 ++ [.lst [.str (Str.ofString "in"),.str (cT i.a i.b)],.lst (i.ks.map fun z=>D.str (nt z))]) = .ok (.loc (S1.length + 2)) (S1 ++ [.lst [.str (Str.ofString "in"),.str (cT i.a i.b)],.lst (i.ks.map fun z=>D.str (nt z)),.lst ((Str.ofString "in" :: cT i.a i.b :: i.ks.map nt).map D.str)]):=by
    rw [bop_add_lst app_get0 app_get1 (by simp [Line]; omega)]
    simp
  have jn:=join_big (S:=S1 ++ [.lst [.str (Str.ofString "in"),.str (cT i.a i.b)],.lst (i.ks.map fun z=>D.str (nt z)),.lst ((Str.ofString "in" :: cT i.a i.b :: i.ks.map nt).map D.str)]) (x:=Str.ofString " ") (l:=S1.length + 2) (ts:=Str.ofString "in" :: cT i.a i.b :: i.ks.map nt) app_get2 (by decide) (by simp; omega) (fun t ht=>by
    have k1:=(num_of h1).2.1
    have k2:=(num_of h2).2.1
    rcases List.mem_cons.mp ht with rfl | ht
    · exact Nat.le_trans (show (sg (Str.ofString "in")).length ≤ 2 by decide) (by decide)
    · rcases List.mem_cons.mp ht with rfl | ht
      · rw [sg_c,List.length_append,List.length_cons]; omega
      · obtain ⟨z,hz,rfl⟩:=List.mem_map.mp ht
        have:=(num_of (h3 z hz)).2.1
        omega)
  unfold iD
  obtain ⟨Y,hY⟩:∃ Y,i.ks.map D.int = Y:=⟨_,rfl⟩
  obtain ⟨Z,hZ⟩:∃ Z,(i.ks.map fun z=>D.str (nt z)) = Z:=⟨_,rfl⟩
  obtain ⟨E,hE⟩:∃ E,(Str.ofString "in" :: cT i.a i.b :: i.ks.map nt).map D.str = E:=⟨_,rfl⟩
  rw [hY] at cm ⊢
  rw [hZ] at cm ad jn
  rw [hE] at ad jn
  rw [callN_eq T_f_shown_in rfl]
  simp -implicitDefEqProofs [f_shown_in,v_cst,v_var,v_bin,v_lst,v_idx,v_call,v_meth,v_comp,v_a0,v_a1,v_seq,v_ret,v_b1,kVar,kBin,kLst,kIdx,kMeth,kCons,kArg,kSeq,kRet,kB,Res.bind_ok,finF,Cn_call,Line,e1,cm,ad,rcv,jn]
  exact ⟨rfl,x1.more _⟩
theorem shown_out_ok {o:Out1} (h:OOk o):Sat (callN T G 100 (n + 3) "shown_out" [oD o] S) (fun d S'=>d = .str (oT o)∧Ext S S'):=by
  obtain ⟨_,S1,e1,rfl,x1⟩:=shown_lock_ok (n:=n) (S:=S) h.2.2.2.2 h.2.2.2.1
  have e1:callN T G 100 (n + 2) "shown_lock" [.tup (o.L.map rD)] S = .ok (.str (lkT o.L)) S1:=e1
  have jn:=join_big (S:=S1 ++ [.lst ([Str.ofString "out",nt o.w,lkT o.L].map D.str)]) (x:=Str.ofString " ") (l:=S1.length) (ts:=[Str.ofString "out",nt o.w,lkT o.L]) new_get (by decide) (by simp) (fun t ht=>by
    have k1:=(num_of (o_small h)).2.1
    have k2:=lk_len h.2.2.2.2 h.2.2.2.1
    simp only [List.mem_cons,List.not_mem_nil,or_false] at ht
    rcases ht with rfl | rfl | rfl
    · exact Nat.le_trans (show (sg (Str.ofString "out")).length ≤ 3 by decide) (by decide)
    · omega
    · omega)
  simp only [List.map_cons,List.map_nil] at jn
  unfold oD
  obtain ⟨Y,hY⟩:∃ Y,o.L.map rD = Y:=⟨_,rfl⟩
  rw [hY] at e1 ⊢
  rw [callN_eq T_f_shown_out rfl]
  simp -implicitDefEqProofs [f_shown_out,v_cst,v_var,v_lst,v_idx,v_call,v_prim,v_meth,v_a0,v_a1,v_ret,v_b1,kVar,kLst,kIdx,kMeth,kCons,kArg,kRet,kB,Res.bind_ok,finF,Cn_call,Line,str_int (o_small h),e1,rcv,jn]
  exact ⟨rfl,x1.more _⟩
theorem shown_deed_ok {d:De} (h:DOk d):Sat (callN T G 100 (n + 4) "shown_deed" [dD d] S) (fun r S'=>r = .str (dT d)∧Ext S S'):=by
  have hd:=h
  obtain ⟨n0,n1,il,ik,o1,ol,ok⟩:=h
  obtain ⟨_,_,e1,S1,rfl,rfl,x1⟩:=comp_call (S:=S) (f:="shown_in") (τ:=[some (dD d),none,none]) (m:=n + 3) (xs:=d.ins) iD (fun i=>.str (iT i)) (by omega) fun i hi S=>shown_in_ok (n:=n + 1) (ik i hi)
  obtain ⟨_,_,e2,S2,rfl,rfl,x2⟩:=comp_call (S:=S1 ++ [.lst (d.ins.map fun i=>D.str (iT i))]) (f:="shown_out") (τ:=[some (dD d),some (.loc S1.length),none]) (m:=n + 3) (xs:=d.outs) oD (fun o=>.str (oT o)) (by omega) fun o ho S=>shown_out_ok (n:=n) (ok o ho)
  have g1:S2[S1.length]? = some (.lst (d.ins.map fun i=>D.str (iT i))):=x2.get new_get
  have a1:bop .add (.loc (S2.length + 1)) (.loc S1.length) (S2 ++ [.lst (d.outs.map fun o=>D.str (oT o)),.lst [.str (nt d.num)]]) = .ok (.loc (S2.length + 2)) (S2 ++ [.lst (d.outs.map fun o=>D.str (oT o)),.lst [.str (nt d.num)],.lst (.str (nt d.num) :: d.ins.map fun i=>D.str (iT i))]):=by
    rw [bop_add_lst app_get1 (old_get g1) (by simp [Line]; omega)]
    simp
  have a2:bop .add (.loc (S2.length + 2)) (.loc S2.length) (S2 ++ [.lst (d.outs.map fun o=>D.str (oT o)),.lst [.str (nt d.num)],.lst (.str (nt d.num) :: d.ins.map fun i=>D.str (iT i))]) = .ok (.loc (S2.length + 3)) (S2 ++ [.lst (d.outs.map fun o=>D.str (oT o)),.lst [.str (nt d.num)],.lst (.str (nt d.num) :: d.ins.map fun i=>D.str (iT i)),.lst ((nt d.num :: (d.ins.map iT ++ d.outs.map oT)).map D.str)]):=by
    rw [bop_add_lst app_get2 app_get0 (by simp [Line]; omega)]
    simp
    rfl
  have jn:=join_big (S:=S2 ++ [.lst (d.outs.map fun o=>D.str (oT o)),.lst [.str (nt d.num)],.lst (.str (nt d.num) :: d.ins.map fun i=>D.str (iT i)),.lst ((nt d.num :: (d.ins.map iT ++ d.outs.map oT)).map D.str)]) (x:=Str.ofString "; ") (l:=S2.length + 3) (ts:=nt d.num :: (d.ins.map iT ++ d.outs.map oT)) app_get3 (by decide) (by simp; omega) (fun t ht=>by
    rcases List.mem_cons.mp ht with rfl | ht
    · have:=(num_of (d_small hd)).2.1
      omega
    · rcases List.mem_append.mp ht with ht | ht
      · obtain ⟨i,hi,rfl⟩:=List.mem_map.mp ht
        have:=i_len (ik i hi)
        omega
      · obtain ⟨o,ho,rfl⟩:=List.mem_map.mp ht
        have:=o_len (ok o ho)
        omega)
  obtain ⟨Y,hY⟩:∃ Y,d.ins.map iD = Y:=⟨_,rfl⟩
  obtain ⟨Z,hZ⟩:∃ Z,d.outs.map oD = Z:=⟨_,rfl⟩
  obtain ⟨Y1,hY1⟩:∃ Y,(d.ins.map fun i=>D.str (iT i)) = Y:=⟨_,rfl⟩
  obtain ⟨Z1,hZ1⟩:∃ Z,(d.outs.map fun o=>D.str (oT o)) = Z:=⟨_,rfl⟩
  obtain ⟨E,hE⟩:∃ E,(nt d.num :: (d.ins.map iT ++ d.outs.map oT)).map D.str = E:=⟨_,rfl⟩
  have rd:dD d = .tup [.int d.num,.tup Y,.tup Z]:=by unfold dD; rw [hY,hZ]
  rw [rd] at e1 e2 ⊢
  rw [hY,hY1] at e1
  rw [hZ,hY1,hZ1] at e2
  rw [hY1,hZ1] at a1 a2 jn
  rw [hE] at a2 jn
  rw [callN_eq T_f_shown_deed rfl]
  simp -implicitDefEqProofs [f_shown_deed,v_cst,v_var,v_bin,v_lst,v_idx,v_prim,v_meth,v_comp,v_a0,v_a1,v_seq,v_tvar,v_asg,v_ret,v_b1,kVar,kBin,kLst,kIdx,kMeth,kCons,kArg,kSeq,kNx,kAsg,kRet,kB,Res.bind_ok,finF,Line,e1,e2,str_int (d_small hd),a1,a2,rcv,jn]
  exact ⟨rfl,(x1.trans ((Ext.new _ _).trans (by rw [hY1] at x2; exact x2))).more _⟩
end
end K64
namespace K64
open PySem L2 Mi Tx
section
variable {n:Nat} {S:Store}
theorem ad {a b:PySem.Str} (ha:(sg a).length ≤ 1000000) (hb:(sg b).length ≤ 1000000) (S:Store):bop .add (.str a) (.str b) S = .ok (.str (a ++ b)) S:=by
  rw [rbop_1,if_pos]
  rw [len_sg,len_sg]
  show _ ≤ 16777216
  omega
theorem eq_none {ds:List D} (S:Store):cop .eq (.tup ds) (.tup []) S = some ds.isEmpty:=by
  have e:eqD S Deep (.tup ds) (.tup []) = some ds.isEmpty:=by
    rw [deep_eq]
    cases ds with
    | nil=>rfl
    | cons a t=>rfl
  exact e
theorem numbers_ok {ks:List Int} (hk:∀ k ∈ ks,k.natAbs < 10 ^ 60) (hl:ks.length ≤ 10):Sat (callN T G 100 (n + 1) "_law_numbers_text" [.tup (ks.map D.int)] S) (fun d S'=>d = .str (nsT ks)∧Ext S S'):=by
  have b1:(sg (Str.ofString " ")).length ≤ 1000000:=by rw [sb]; decide
  have cm:∀ τ:En,kComp (Cn T G 100 n) 1 [] (.tvar 0) .nul (.bin .add (.cst (.str " ")) (.prim .str1 (.cns (.var 0) .nul))) τ (none,ks.map D.int) S = .ok (.loc S.length) (S ++ [.lst (ks.map fun z=>D.str (Str.ofString " " ++ nt z))]):=fun τ =>
    kComp_of D.int (fun z=>.str (Str.ofString " " ++ nt z)) (by omega) (.inl rfl) fun z hz=>by
      have:=ad (a:=Str.ofString " ") (b:=nt z) b1 (by have:=(num_of (hk z hz)).2.1; omega)
      simp [turnC,v_cst,v_var,v_bin,v_prim,v_c0,v_a0,v_a1,v_tvar,kVar,kBin,kCons,kArg,Res.bind_ok,inEn,str_int (hk z hz),this]
  have jn:=join_big (S:=S ++ [.lst ((ks.map fun k=>Str.ofString " " ++ nt k).map D.str)]) (x:=Str.ofString "") (l:=S.length) (ts:=ks.map fun k=>Str.ofString " " ++ nt k) new_get (by decide) (by rw [List.length_map]; omega) (fun t ht=>by
    obtain ⟨z,hz,rfl⟩:=List.mem_map.mp ht
    have:=(num_of (hk z hz)).2.1
    rw [sg_app,sb]
    simp
    omega)
  rw [List.map_map,show (D.str ∘ fun k=>Str.ofString " " ++ nt k) = fun z=>D.str (Str.ofString " " ++ nt z) from rfl] at jn
  obtain ⟨Y,hY⟩:∃ Y,ks.map D.int = Y:=⟨_,rfl⟩
  obtain ⟨Z,hZ⟩:∃ Z,(ks.map fun z=>D.str (Str.ofString " " ++ nt z)) = Z:=⟨_,rfl⟩
  rw [hY] at cm ⊢
  rw [hZ] at cm jn
  rw [callN_eq T_f_law_numbers_text rfl]
  simp -implicitDefEqProofs [f_law_numbers_text,v_cst,v_var,v_meth,v_comp,v_a0,v_a1,v_seq,v_ret,v_b1,kVar,kMeth,kCons,kArg,kSeq,kRet,kB,Res.bind_ok,finF,cm,rcv,jn]
  exact ⟨rfl,Ext.new _ _⟩
theorem row_is {r:Rw} (h:Rok r):Str.ofString r.w ++ nsT r.k = rT r:=sg_inj (by rw [sg_app,sg_ns,sg_row h])
theorem lock_text_ok {L:List Rw} (hk:∀ r ∈ L,Rok r) (h30:L.length ≤ 30):Sat (callN T G 100 (n + 2) "_law_lock_text" [.tup (L.map rD)] S) (fun d S'=>d = .str (lkT L)∧Ext S S'):=by
  rw [callN_eq T_f_law_lock_text rfl]
  have en:=eq_none (ds:=L.map rD) S
  unfold lkT
  by_cases hL:L = []
  · subst hL
    simp at en
    simp -implicitDefEqProofs [f_law_lock_text,v_cst,v_var,v_tup,w_cmp,v_a0,v_ifs,v_ret,v_b1,kVar,kTup,tCmp2,tCmp',kIfs,kRet,kB,Res.bind_ok,finF,en,Line]
    exact Ext.refl _
  · rw [if_neg hL]
    have em:(L.map rD).isEmpty = false:=by cases L<;>simp at hL ⊢
    rw [em] at en
    have cm:∀ τ:En,Sat (kComp (Cn T G 100 (n + 1)) 1 [] (.tvar 0) .nul (.bin .add (.idx (.var 0) (.cst (.int 0))) (.call "_law_numbers_text" (.cns (.sli (.var 0) (.cns (.cst (.int 1)) .nul) .nul) .nul))) τ (none,L.map rD) S) (fun d S'=>∃ S1,d = .loc S1.length∧S' = S1 ++ [.lst (L.map fun r=>D.str (rT r))]∧Ext S S1):=fun τ=>by
      refine (kCompN (IMp (fun r=>D.str (rT r)) L S) (by rw [List.length_map]; omega) ⟨by simp,by omega,.refl _⟩ (fun _ _ _=>imp_len) fun i d acc S1 hd hI=>?_).mono fun d S' q=>?_
      · rw [List.getElem?_map] at hd
        obtain ⟨r,hr,rfl⟩:=Option.map_eq_some_iff.mp hd
        have rk:=hk r (List.mem_of_getElem? hr)
        have kz:∀ z ∈ r.k,z.natAbs < 10 ^ 60:=fun z hz=>by
          rcases rok_k rk with e | ⟨y,e,hy⟩<;>rw [e] at hz
          · cases hz
          · rw [List.mem_singleton.mp hz]; exact hy
        obtain ⟨_,S2,e2,rfl,x2⟩:=numbers_ok (n:=n) (S:=S1) kz (by rcases rok_k rk with e | ⟨z,e,_⟩<;>rw [e]<;>simp)
        have w0:∀ S:Store,kIdx2 (rD r) (.int 0) S = .ok (.str (Str.ofString r.w)) S:=fun S=>kIdx2_t0
        have sl:∀ S:Store,sliD (rD r) (some 1) none S = .ok (.tup (r.k.map D.int)) S:=fun S=>slice1 S
        have rl:=row_len rk
        have q:=ad (a:=Str.ofString r.w) (b:=nsT r.k) (by have:=(word_ok _ (rok_w rk)).2.2; omega) (by
          have:=congrArg (fun x=>(sg x).length) (row_is rk)
          simp only [sg_app,List.length_append] at this
          omega) S2
        rw [row_is rk] at q
        obtain ⟨Y,hY⟩:∃ Y,r.k.map D.int = Y:=⟨_,rfl⟩
        rw [hY] at e2 sl
        simp -implicitDefEqProofs [turnC,v_cst,v_var,v_bin,v_idx,v_sli,v_call,v_c0,v_a0,v_a1,v_o0,v_o1,v_tvar,kVar,kBin,kIdx,kSli2,kSli,kCons,kArg,kOpt,Res.bind_ok,Cn_call,inEn,w0,sl,e2,q]
        exact imp_step hI hr x2
      · obtain ⟨ys,S1,rfl,rfl,e,_,x1⟩:=q
        refine ⟨S1,rfl,?_,x1⟩
        rw [e,List.length_map,List.take_length]
    obtain ⟨_,_,e1,S1,rfl,rfl,x1⟩:=cm [some (.tup (L.map rD))]
    have jn:=join_big (S:=S1 ++ [.lst ((L.map rT).map D.str)]) (x:=Str.ofString ", ") (l:=S1.length) (ts:=L.map rT) new_get (by decide) (by rw [List.length_map]; omega) (fun t ht=>by
      obtain ⟨q,hq,rfl⟩:=List.mem_map.mp ht
      have:=(row_len (hk q hq)).2
      omega)
    rw [List.map_map,show (D.str ∘ rT) = fun r=>D.str (rT r) from rfl] at jn
    obtain ⟨E,hE⟩:∃ E,L.map (fun r=>D.str (rT r)) = E:=⟨_,rfl⟩
    obtain ⟨F,hF⟩:∃ F,L.map rD = F:=⟨_,rfl⟩
    rw [hE] at e1 jn
    rw [hF] at e1 en ⊢
    simp -implicitDefEqProofs [f_law_lock_text,v_cst,v_var,v_tup,v_meth,v_comp,w_cmp,v_a0,v_a1,v_seq,v_ifs,v_ret,v_b0,v_b1,kVar,kTup,kMeth,tCmp2,tCmp',kCons,kArg,kSeq,kIfs,kRet,kB,Res.bind_ok,finF,en,Line,e1,rcv,jn]
    exact ⟨rfl,x1.more _⟩
noncomputable def iS (is:List In1):List Nat:=(is.map fun i=>[59,32] ++ sg (iT i)).flatten
noncomputable def oS (os:List Out1):List Nat:=(os.map fun o=>[59,32] ++ sg (oT o)).flatten
noncomputable def IT1 (d:De) (S0:Store) (i:Nat) (τ:En) (S:Store):Prop:=∃ (x:PySem.Str) (u2 u3:Option D),τ = [some (dD d),some (.str x),u2,u3,none,none]∧Ext S0 S∧sg x = sg (nt d.num) ++ iS (d.ins.take i)∧(sg x).length ≤ 100 + 402 * i
noncomputable def IT2 (d:De) (S0:Store) (i:Nat) (τ:En) (S:Store):Prop:=∃ (x:PySem.Str) (u2 u3 u4 u5:Option D),τ = [some (dD d),some (.str x),u2,u3,u4,u5]∧Ext S0 S∧sg x = sg (nt d.num) ++ iS d.ins ++ oS (d.outs.take i)∧(sg x).length ≤ 2000 + 2302 * i
theorem iS_snoc {is:List In1} {i:Nat} {x:In1} (h:is[i]? = some x):iS (is.take (i + 1)) = iS (is.take i) ++ ([59,32] ++ sg (iT x)):=by
  unfold iS
  rw [List.take_add_one,h,List.map_append,List.flatten_append]
  simp
theorem oS_snoc {os:List Out1} {i:Nat} {x:Out1} (h:os[i]? = some x):oS (os.take (i + 1)) = oS (os.take i) ++ ([59,32] ++ sg (oT x)):=by
  unfold oS
  rw [List.take_add_one,h,List.map_append,List.flatten_append]
  simp
theorem deed_text_ok {d:De} (h:DOk d):Sat (callN T G 100 (n + 3) "_law_deed_text" [dD d] S) (fun r S'=>r = .str (dT d)∧Ext S S'):=by
  have hd:=h
  obtain ⟨n0,n1,il,ik,o1,ol,ok⟩:=h
  have nl:=(num_of (d_small hd)).2.1
  obtain ⟨Y,hY⟩:∃ Y,d.ins.map iD = Y:=⟨_,rfl⟩
  obtain ⟨Z,hZ⟩:∃ Z,d.outs.map oD = Z:=⟨_,rfl⟩
  have rd:dD d = .tup [.int d.num,.tup Y,.tup Z]:=by unfold dD; rw [hY,hZ]
  have i0:∀ S:Store,kIdx2 (dD d) (.int 0) S = .ok (.int d.num) S:=fun S=>by rw [rd]; exact kIdx2_t0
  have i1:∀ S:Store,kIdx2 (dD d) (.int 1) S = .ok (.tup Y) S:=fun S=>by rw [rd]; exact kIdx2_t1
  have i2:∀ S:Store,kIdx2 (dD d) (.int 2) S = .ok (.tup Z) S:=fun S=>by rw [rd]; exact kIdx2_t2
  rw [callN_eq T_f_law_deed_text rfl]
  simp -implicitDefEqProofs [f_law_deed_text,v_cst,v_var,v_idx,v_prim,v_a0,v_a1,v_seq,v_tvar,v_asg,v_for,v_b1,kVar,kIdx,kCons,kArg,kSeq,kNx,kAsg,kB,Res.bind_ok,i0,i1,str_int (d_small hd)]
  (first | (with_reducible refine Sat.p10 (loop (IT1 d S) noB noR ?_ ?_) ?_) | (with_reducible refine Sat.p9 (loop (IT1 d S) noB noR ?_ ?_) ?_) | (with_reducible refine Sat.p8 (loop (IT1 d S) noB noR ?_ ?_) ?_) | (with_reducible refine Sat.p7 (loop (IT1 d S) noB noR ?_ ?_) ?_) | (with_reducible refine Sat.p6 (loop (IT1 d S) noB noR ?_ ?_) ?_) | (with_reducible refine Sat.p5 (loop (IT1 d S) noB noR ?_ ?_) ?_) | (with_reducible refine Sat.p4 (loop (IT1 d S) noB noR ?_ ?_) ?_) | (with_reducible refine Sat.p3 (loop (IT1 d S) noB noR ?_ ?_) ?_) | (with_reducible refine Sat.p2 (loop (IT1 d S) noB noR ?_ ?_) ?_) | (with_reducible refine Sat.p1 (loop (IT1 d S) noB noR ?_ ?_) ?_) | (with_reducible refine Sat.p0 (loop (IT1 d S) noB noR ?_ ?_) ?_))
  · exact ⟨_,_,_,rfl,.refl _,by simp [iS],by omega⟩
  · rintro i e _ S1 hd1 ⟨x,u2,u3,rfl,x1,hx,xl⟩
    rw [← hY,List.getElem?_map] at hd1
    obtain ⟨j,hj,rfl⟩:=Option.map_eq_some_iff.mp hd1
    have hi4:=(List.getElem?_eq_some_iff.mp hj).1
    have jk:=ik j (List.mem_of_getElem? hj)
    obtain ⟨ja,jb,jks⟩:=i_small jk
    have la:=(num_of ja).2.1
    have lb:=(num_of jb).2.1
    have lj:=i_len jk
    obtain ⟨_,S2,e2,rfl,x2⟩:=numbers_ok (n:=n + 1) (S:=S1) jks (by have:=jk.2.2.2.2.1; omega)
    have e0:sg (Str.ofString "; in ") = [59,32,105,110,32]:=by decide
    have fin:sg (x ++ Str.ofString "; in " ++ nt j.a ++ Str.ofString "." ++ nt j.b ++ nsT j.ks) = sg (nt d.num) ++ iS (d.ins.take (i + 1)):=by
      rw [iS_snoc hj,sg_i]
      simp only [sg_app,hx,sg_ns,e0,sp]
      simp
    have fl:(sg (x ++ Str.ofString "; in " ++ nt j.a ++ Str.ofString "." ++ nt j.b ++ nsT j.ks)).length ≤ 100 + 402 * (i + 1):=by
      rw [fin,iS_snoc hj,← List.append_assoc,← hx]
      simp only [List.length_append,List.length_cons,List.length_nil]
      omega
    have bnd:(sg x).length + 5 + (sg (nt j.a)).length + 1 + (sg (nt j.b)).length + (sg (nsT j.ks)).length ≤ 100 + 402 * (i + 1):=by
      have:=fl
      simp only [sg_app,List.length_append,e0,sp,List.length_cons,List.length_nil] at this
      omega
    have q1:=ad (a:=x) (b:=Str.ofString "; in ") (by omega) (by rw [e0]; decide)
    have q2:=ad (a:=x ++ Str.ofString "; in ") (b:=nt j.a) (by rw [sg_app,List.length_append,e0]; simp; omega) (by omega)
    have q3:=ad (a:=x ++ Str.ofString "; in " ++ nt j.a) (b:=Str.ofString ".") (by rw [sg_app,sg_app,List.length_append,List.length_append,e0]; simp; omega) (by rw [sp]; decide)
    have q4:=ad (a:=x ++ Str.ofString "; in " ++ nt j.a ++ Str.ofString ".") (b:=nt j.b) (by rw [sg_app,sg_app,sg_app,List.length_append,List.length_append,List.length_append,e0,sp]; simp; omega) (by omega)
    have q5:=ad (a:=x ++ Str.ofString "; in " ++ nt j.a ++ Str.ofString "." ++ nt j.b) (b:=nsT j.ks) (by rw [sg_app,sg_app,sg_app,sg_app,List.length_append,List.length_append,List.length_append,List.length_append,e0,sp]; simp; omega) (by omega)
    unfold iD
    obtain ⟨K,hK⟩:∃ K,j.ks.map D.int = K:=⟨_,rfl⟩
    rw [hK] at e2 ⊢
    simp -implicitDefEqProofs [turnF,v_cst,v_var,v_bin,v_idx,v_call,v_prim,v_a0,v_a1,v_tvar,v_ttup,v_gs0,v_gs1,v_asg,v_b0,v_b1,kVar,kBin,kIdx,kCons,kArg,kNx,kAsg,kB,Res.bind_ok,Cn_call,q1,str_int ja,q2,q3,str_int jb,q4,e2,q5]
    exact ⟨_,_,_,rfl,x1.trans x2,fin,fl⟩
  intro fl S1 q
  obtain ⟨_,rfl,x,u2,u3,rfl,x1,hx,xl⟩:=q.nx
  have ei:d.ins.take Y.length = d.ins:=by rw [← hY,List.length_map,List.take_length]
  have lY:Y.length ≤ 4:=by rw [← hY,List.length_map]; exact il
  rw [ei] at hx
  simp -implicitDefEqProofs [v_cst,v_var,v_idx,v_seq,v_for,v_b1,kVar,kIdx,kSeq,kB,Res.bind_ok,i2]
  (first | (with_reducible refine Sat.p10 (loop (IT2 d S) noB noR ?_ ?_) ?_) | (with_reducible refine Sat.p9 (loop (IT2 d S) noB noR ?_ ?_) ?_) | (with_reducible refine Sat.p8 (loop (IT2 d S) noB noR ?_ ?_) ?_) | (with_reducible refine Sat.p7 (loop (IT2 d S) noB noR ?_ ?_) ?_) | (with_reducible refine Sat.p6 (loop (IT2 d S) noB noR ?_ ?_) ?_) | (with_reducible refine Sat.p5 (loop (IT2 d S) noB noR ?_ ?_) ?_) | (with_reducible refine Sat.p4 (loop (IT2 d S) noB noR ?_ ?_) ?_) | (with_reducible refine Sat.p3 (loop (IT2 d S) noB noR ?_ ?_) ?_) | (with_reducible refine Sat.p2 (loop (IT2 d S) noB noR ?_ ?_) ?_) | (with_reducible refine Sat.p1 (loop (IT2 d S) noB noR ?_ ?_) ?_) | (with_reducible refine Sat.p0 (loop (IT2 d S) noB noR ?_ ?_) ?_))
  · exact ⟨_,_,_,_,_,rfl,x1,by rw [hx]; simp [oS],by omega⟩
  · rintro i e _ S1 hd1 ⟨x,u2,u3,u4,u5,rfl,x1,hx,xl⟩
    rw [← hZ,List.getElem?_map] at hd1
    obtain ⟨j,hj,rfl⟩:=Option.map_eq_some_iff.mp hd1
    have hi4:=(List.getElem?_eq_some_iff.mp hj).1
    have jk:=ok j (List.mem_of_getElem? hj)
    have jw:=o_small jk
    have lw:=(num_of jw).2.1
    have lj:=o_len jk
    have lL:=lk_len jk.2.2.2.2 jk.2.2.2.1
    obtain ⟨_,S2,e2,rfl,x2⟩:=lock_text_ok (n:=n) (S:=S1) jk.2.2.2.2 jk.2.2.2.1
    have e0:sg (Str.ofString "; out ") = [59,32,111,117,116,32]:=by decide
    have fin:sg (x ++ Str.ofString "; out " ++ nt j.w ++ Str.ofString " " ++ lkT j.L) = sg (nt d.num) ++ iS d.ins ++ oS (d.outs.take (i + 1)):=by
      rw [oS_snoc hj,sg_o]
      simp only [sg_app,hx,e0,sb]
      simp
    have fl:(sg (x ++ Str.ofString "; out " ++ nt j.w ++ Str.ofString " " ++ lkT j.L)).length ≤ 2000 + 2302 * (i + 1):=by
      rw [fin,oS_snoc hj,← List.append_assoc,← hx]
      simp only [List.length_append,List.length_cons,List.length_nil]
      omega
    have q1:=ad (a:=x) (b:=Str.ofString "; out ") (by omega) (by rw [e0]; decide)
    have q2:=ad (a:=x ++ Str.ofString "; out ") (b:=nt j.w) (by rw [sg_app,List.length_append,e0]; simp; omega) (by omega)
    have q3:=ad (a:=x ++ Str.ofString "; out " ++ nt j.w) (b:=Str.ofString " ") (by rw [sg_app,sg_app,List.length_append,List.length_append,e0]; simp; omega) (by rw [sb]; decide)
    have q4:=ad (a:=x ++ Str.ofString "; out " ++ nt j.w ++ Str.ofString " ") (b:=lkT j.L) (by rw [sg_app,sg_app,sg_app,List.length_append,List.length_append,List.length_append,e0,sb]; simp; omega) (by omega)
    unfold oD
    obtain ⟨K,hK⟩:∃ K,j.L.map rD = K:=⟨_,rfl⟩
    rw [hK] at e2 ⊢
    simp -implicitDefEqProofs [turnF,v_cst,v_var,v_bin,v_call,v_prim,v_a0,v_a1,v_tvar,v_ttup,v_gs0,v_gs1,v_asg,v_b0,v_b1,kVar,kBin,kCons,kArg,kNx,kAsg,kB,Res.bind_ok,Cn_call,q1,str_int jw,q2,q3,e2,q4]
    exact ⟨_,_,_,_,_,rfl,x1.trans x2,fin,fl⟩
  intro fl S1 q
  obtain ⟨_,rfl,x,u2,u3,u4,u5,rfl,x1,hx,xl⟩:=q.nx
  have eo:d.outs.take Z.length = d.outs:=by rw [← hZ,List.length_map,List.take_length]
  rw [eo] at hx
  simp -implicitDefEqProofs [v_var,v_ret,v_b1,kVar,kRet,kB,Res.bind_ok,finF]
  refine ⟨sg_inj ?_,x1⟩
  rw [hx,sg_d]
  rfl
end
end K64
namespace K64
open PySem L2 Mi Tx
section
variable {n:Nat} {S:Store}
theorem at1 {a b:D} {ds:List D}:atI (a :: b :: ds) (1:Int) = some b:=by
  simp only [atI,ixN,List.length_cons]
  rw [if_pos (by decide),if_pos (by omega)]
  rfl
theorem at2 {a b c:D} {ds:List D}:atI (a :: b :: c :: ds) (2:Int) = some c:=by
  simp only [atI,ixN,List.length_cons]
  rw [if_pos (by decide),if_pos (by omega)]
  rfl
theorem nat_head {z:Int} (h0:0 ≤ z) (h:z.natAbs < 10 ^ 60):∃ c r,sg (nt z) = c :: r∧48 ≤ c∧c ≤ 57:=by
  have e:sg (nt z) = dg z.toNat:=by
    unfold nt
    rw [show z = ((z.toNat:Nat):Int) from by omega]
    exact sg_nat _
  obtain ⟨c,r,ec⟩:=List.exists_cons_of_ne_nil (dg_ne z.toNat)
  refine ⟨c,r,by rw [e]; exact ec,?_⟩
  exact dg_digits z.toNat c (by rw [ec]; simp)
theorem coin_free {z:Int} {c:Nat} (h:z.natAbs < 10 ^ 60) (hc:c < 45 ∨ c = 46 ∨ 58 ≤ c):c ∉ sg (nt z):=fun m=>by
  have:=(num_of h).2.2 c m
  omega
theorem read_coin_ok {a b:Int} (a0:0 ≤ a) (b0:0 ≤ b) (ha:a.natAbs < 10 ^ 60) (hb:b.natAbs < 10 ^ 60):Sat (callN T G 100 (n + 3) "read_coin" [.str (cT a b)] S) (fun d S'=>d = .tup [.int a,.int b]∧Ext S S'):=by
  have la:=(num_of ha).2.1
  have lb:=(num_of hb).2.1
  have spl:methD .split1 (.str (cT a b)) [.str (Str.ofString ".")] S = .ok (.loc S.length) (S ++ [.lst ([nt a,nt b].map D.str)]):=split_at (ps:=[nt a,nt b]) sp (by decide +kernel) (by simp) (fun p hp=>by
    simp only [List.mem_cons,List.not_mem_nil,or_false] at hp
    rcases hp with rfl | rfl
    · exact coin_free ha (by omega)
    · exact coin_free hb (by omega)) (by show (sg (cT a b)).length ≤ _; rw [sg_c,List.length_append,List.length_cons]; omega) S
  have g1:(S ++ [Mi.Obj.lst ([nt a,nt b].map D.str)])[S.length]? = some (.lst ([nt a,nt b].map D.str)):=new_get
  obtain ⟨S1,hS1⟩:∃ S1,S ++ [Mi.Obj.lst ([nt a,nt b].map D.str)] = S1:=⟨_,rfl⟩
  rw [hS1] at spl g1
  have x1:Ext S S1:=⟨_,hS1.symm⟩
  have ln:primD .len [.loc S.length] S1 = .ok (.int 2) S1:=by rw [prim_len_loc g1]; rfl
  have both:∀ z ∈ [a,b],0 ≤ z∧z.natAbs < 10 ^ 60:=fun z hz=>by
    simp only [List.mem_cons,List.not_mem_nil,or_false] at hz
    rcases hz with rfl | rfl
    · exact ⟨a0,ha⟩
    · exact ⟨b0,hb⟩
  have g1':S1[S.length]? = some (.lst ([a,b].map fun z=>D.str (nt z))):=g1
  have c1:Sat (kComp (Cn T G 100 (n + 2)) 1 [] (.tvar 0) .nul (.bo true (.cns (.call "is_number" (.cns (.var 0) .nul)) (.cns (.cmp .ne (.idx (.var 0) (.cst (.int 0))) (.cst (.str "-"))) .nul))) [some (.str (cT a b)),some (.loc S.length)] (some (S.length,.lst),[a,b].map fun z=>D.str (nt z)) S1) (fun d S'=>∃ S2,d = .loc S2.length∧S' = S2 ++ [.lst ([a,b].map fun _=>D.bl true)]∧Ext S1 S2):=by
    refine (kCompF (IMp (fun _=>D.bl true) [a,b] S1) (by simp) ⟨by simp,by omega,.refl _⟩ (fun i acc S2 h=>⟨imp_len h,h.2.2.get g1'⟩) fun i d acc S2 hd hI=>?_).mono fun d S' q=>?_
    · rw [List.getElem?_map] at hd
      obtain ⟨z,hz,rfl⟩:=Option.map_eq_some_iff.mp hd
      obtain ⟨z0,zs⟩:=both z (List.mem_of_getElem? hz)
      obtain ⟨hn,hl,_⟩:=num_of zs
      obtain ⟨_,S3,e3,rfl,x3⟩:=number_ok (n:=n) (S:=S2) (x:=nt z) (by omega)
      rw [hn] at e3
      obtain ⟨c,r,hc,c1,c2⟩:=nat_head z0 zs
      have ix:=fun S=>ix0 (S:=S) hc (by omega)
      have nc:¬ c = 45:=by omega
      simp [turnC,v_cst,v_var,v_bo,v_cmp,v_idx,v_call,v_bv1,v_bv2,v_c0,v_a0,v_a1,v_tvar,kVar,kCmp2,kCmp,kIdx,kBV,kCons,kArg,Res.bind_ok,Cn_call,inEn,e3,kIdx2,ix,ne_ch sm,nc]
      exact imp_step hI hz x3
    · obtain ⟨ys,S2,rfl,rfl,e,_,x2⟩:=q
      exact ⟨S2,rfl,by rw [e]; simp,x2⟩
  obtain ⟨_,_,e1,S2,rfl,rfl,x2⟩:=c1
  have al:=allT [a,b] S2
  obtain ⟨S3,hS3⟩:∃ S3,S2 ++ [Mi.Obj.lst ([a,b].map fun _=>D.bl true)] = S3:=⟨_,rfl⟩
  rw [hS3] at e1 al
  have x3:Ext S1 S3:=x2.trans ⟨_,hS3.symm⟩
  have g3:=x3.get g1'
  have ri:∀ z ∈ [a,b],∀ S:Store,primD .int1 [.str (nt z)] S = .ok (.int z) S:=fun z hz S=>by
    obtain ⟨_,zs⟩:=both z hz
    have:=(num_of zs).2.1
    rw [rprimD_14,show intText? (nt z) = some z from reads zs]
    simp only
    rw [if_pos (by rw [len_sg]; omega)]
  have c2:kComp (Cn T G 100 (n + 2)) 1 [] (.tvar 0) .nul (.prim .int1 (.cns (.var 0) .nul)) [some (.str (cT a b)),some (.loc S.length)] (some (S.length,.lst),[a,b].map fun z=>D.str (nt z)) S3 = .ok (.loc S3.length) (S3 ++ [.lst ([a,b].map D.int)]) :=
    kComp_of (fun z=>D.str (nt z)) D.int (by simp) (.inr ⟨_,rfl,g3⟩) fun z hz=>by
      simp [turnC,v_var,v_prim,v_c0,v_a0,v_a1,v_tvar,kVar,kCons,kArg,Res.bind_ok,inEn,ri z hz]
  have tp:primD .tuple1 [.loc S3.length] (S3 ++ [Mi.Obj.lst ([a,b].map D.int)]) = .ok (.tup [.int a,.int b]) (S3 ++ [Mi.Obj.lst ([a,b].map D.int)]):=prim_tuple_loc new_get
  have q1:seqAt S1 S.length = some ([a,b].map fun z=>D.str (nt z)):=seqAt_of g1'
  have q3:seqAt S3 S.length = some ([a,b].map fun z=>D.str (nt z)):=seqAt_of g3
  obtain ⟨A,hA⟩:∃ A,([a,b].map fun z=>D.str (nt z)) = A:=⟨_,rfl⟩
  obtain ⟨B,hB⟩:∃ B,[a,b].map D.int = B:=⟨_,rfl⟩
  rw [hA] at e1 c2 q1 q3
  rw [hB] at c2 tp
  rw [callN_eq T_f_read_coin rfl]
  simp -implicitDefEqProofs [f_read_coin,v_cst,v_var,v_call,v_prim,v_meth,v_comp,w_nott,w_bo,w_cmp,w_prim,v_bt1,v_bt2,v_a0,v_a1,v_seq,v_tvar,v_asg,v_ifs,v_ret,v_b0,v_b1,kVar,kMeth,kTru,tNotB,tCmp2,tCmp',tPri,kBT,kCons,kArg,kSeq,kNx,kAsg,kIfs,kRet,kB,Res.bind_ok,finF,Cn_call,text_is (n:=n + 1),rcv,spl,ln,q1,e1,al,tru,q3,c2,tp]
  exact (x1.trans x3).more _
theorem formed_in_ok {i:In1} (h:IOk i):Sat (callN T G 100 (n + 4) "formed_in" [.str (iT i)] S) (fun d S'=>d = iD i∧Ext S S'):=by
  obtain ⟨h1,h2,h3⟩:=i_small h
  have hil:=i_len h
  obtain ⟨a0,_,b0,_,hl,_⟩:=h
  have spl:methD .split1 (.str (iT i)) [.str (Str.ofString " ")] S = .ok (.loc S.length) (S ++ [.lst ((Str.ofString "in" :: cT i.a i.b :: i.ks.map nt).map D.str)]):=split_at (ps:=Str.ofString "in" :: cT i.a i.b :: i.ks.map nt) sb (by decide +kernel) (by simp) (fun p hp=>by
    rcases List.mem_cons.mp hp with rfl | hp
    · decide
    · rcases List.mem_cons.mp hp with rfl | hp
      · rw [sg_c]
        intro m
        rcases List.mem_append.mp m with m | m
        · exact coin_free h1 (by omega) m
        · rcases List.mem_cons.mp m with m | m
          · omega
          · exact coin_free h2 (by omega) m
      · obtain ⟨z,hz,rfl⟩:=List.mem_map.mp hp
        exact coin_free (h3 z hz) (by omega)) (by show (sg (iT i)).length ≤ _; omega) S
  have g1:(S ++ [Mi.Obj.lst ((Str.ofString "in" :: cT i.a i.b :: i.ks.map nt).map D.str)])[S.length]? = some (.lst (.str (Str.ofString "in") :: .str (cT i.a i.b) :: (i.ks.map nt).map D.str)):=new_get
  obtain ⟨S1,hS1⟩:∃ S1,S ++ [Mi.Obj.lst ((Str.ofString "in" :: cT i.a i.b :: i.ks.map nt).map D.str)] = S1:=⟨_,rfl⟩
  rw [hS1] at spl g1
  have x1:Ext S S1:=⟨_,hS1.symm⟩
  have ix:kIdx2 (.loc S.length) (.int 1) S1 = .ok (.str (cT i.a i.b)) S1:=kIdx_loc g1 at1
  obtain ⟨_,S2,e2,rfl,x2⟩:=read_coin_ok (n:=n) (S:=S1) a0 b0 h1 h2
  have sl:sliD (.loc S.length) (some 2) none S2 = .ok (.loc S2.length) (S2 ++ [.lst (i.ks.map fun z=>D.str (nt z))]):=by
    rw [sliD_loc (x2.get g1),cut_from (show (0:Int) ≤ 2 by decide)]
    simp
  obtain ⟨_,_,e3,S3,rfl,rfl,x3⟩:=compL_call (S:=S2 ++ [.lst (i.ks.map fun z=>D.str (nt z))]) (f:="read_number") (τ:=[some (.str (iT i)),some (.loc S.length)]) (m:=n + 3) (l:=S2.length) (xs:=i.ks) (fun z=>.str (nt z)) D.int new_get (by omega) fun z hz S=>rn_ok (h3 z hz)
  have sq:seqAt (S2 ++ [.lst (i.ks.map fun z=>D.str (nt z))]) S2.length = some (i.ks.map fun z=>D.str (nt z)):=seqAt_of new_get
  have tp:primD .tuple1 [.loc S3.length] (S3 ++ [.lst (i.ks.map D.int)]) = .ok (.tup (i.ks.map D.int)) (S3 ++ [.lst (i.ks.map D.int)]):=prim_tuple_loc new_get
  unfold iD
  obtain ⟨A,hA⟩:∃ A,(i.ks.map fun z=>D.str (nt z)) = A:=⟨_,rfl⟩
  obtain ⟨B,hB⟩:∃ B,i.ks.map D.int = B:=⟨_,rfl⟩
  rw [hA] at sl e3 sq x3
  rw [hB] at e3 tp ⊢
  rw [callN_eq T_f_formed_in rfl]
  simp -implicitDefEqProofs [f_formed_in,v_cst,v_var,v_tup,v_idx,v_sli,v_call,v_prim,v_meth,v_comp,v_a0,v_a1,v_o0,v_o1,v_seq,v_tvar,v_asg,v_ret,v_b1,kVar,kTup,kIdx,kSli2,kSli,kMeth,kCons,kArg,kOpt,kSeq,kNx,kAsg,kRet,kB,Res.bind_ok,finF,Cn_call,Line,rcv,spl,ix,e2,sl,sq,e3,tp]
  exact (x1.trans (x2.trans ((Ext.new _ _).trans x3))).more _
theorem split2_at {y p q r:PySem.Str} {c:Nat} {t:List Nat} (hc:sg y = c :: t) (hk:Builtin.Str.strKind y = 1) (hp:c ∉ sg p) (hq:c ∉ sg q) (hl:(sg (Str.join y [p,q,r])).length ≤ 100000) (S:Store):methD .split2 (.str (Str.join y [p,q,r])) [.str y,.int 2] S = .ok (.loc S.length) (S ++ [.lst ([p,q,r].map D.str)]):=by
  obtain ⟨e1,e2⟩:=two_cuts (r:=r) hc hp hq
  have lm:limitOf (Str.join y [p,q,r]) 2 = 2:=rfl
  have pb:Builtin.Str.partsBetween (Str.join y [p,q,r]) (Builtin.Str.occurrences (Str.join y [p,q,r]) y 0 (Str.join y [p,q,r]).length (limitOf (Str.join y [p,q,r]) 2)) y.length = [p,q,r]:=by rw [lm,e1,StrLaws.partsBetween_eq,e2]
  rw [rmethD_10,pb,lm,e1]
  have ll:(sg (Str.join y [p,q,r])).length = (sg p).length + ((sg y).length + ((sg q).length + ((sg y).length + (sg r).length))):=by
    rw [sg_join]
    show (sg p ++ (sg y ++ (sg q ++ (sg y ++ sg r)))).length = _
    simp
  have k1:¬ (Str.join y [p,q,r]).length < y.length:=by rw [len_sg,len_sg]; omega
  have k2:¬ Builtin.Str.strKind (Str.join y [p,q,r]) < Builtin.Str.strKind y:=by rw [hk]; have:=kind_one (Str.join y [p,q,r]); omega
  have k3:(y.length == 0) = false:=by
    rw [beq_eq_false_iff_ne,len_sg,hc]
    simp
  have k4:(Str.join y [p,q,r]).length ≤ Line:=by rw [len_sg]; show _ ≤ 16777216; omega
  rw [decide_eq_false k1,decide_eq_false k2,k3,decide_eq_true k4]
  rw [if_pos (by show (decide ((0:Int) < 2) && decide ((2:Int) < 1000) && true && true && true && true && decide (3 ≤ Line)) = true; decide)]
theorem formed_out_ok {o:Out1} (h:OOk o):Sat (callN T G 100 (n + 6) "formed_out" [.str (oT o)] S) (fun d S'=>d = oD o∧Ext S S'):=by
  have hw:=o_small h
  have hol:=o_len h
  obtain ⟨_,_,f,l30,hk⟩:=h
  have spl:methD .split2 (.str (oT o)) [.str (Str.ofString " "),.int 2] S = .ok (.loc S.length) (S ++ [.lst ([Str.ofString "out",nt o.w,lkT o.L].map D.str)]):=split2_at sb (by decide +kernel) (by decide) (coin_free hw (by omega)) (by show (sg (oT o)).length ≤ _; omega) S
  have g1:(S ++ [Mi.Obj.lst ([Str.ofString "out",nt o.w,lkT o.L].map D.str)])[S.length]? = some (.lst [.str (Str.ofString "out"),.str (nt o.w),.str (lkT o.L)]):=new_get
  obtain ⟨S1,hS1⟩:∃ S1,S ++ [Mi.Obj.lst ([Str.ofString "out",nt o.w,lkT o.L].map D.str)] = S1:=⟨_,rfl⟩
  rw [hS1] at spl g1
  have x1:Ext S S1:=⟨_,hS1.symm⟩
  have ln:primD .len [.loc S.length] S1 = .ok (.int 3) S1:=by rw [prim_len_loc g1]; rfl
  have i0:kIdx2 (.loc S.length) (.int 0) S1 = .ok (.str (Str.ofString "out")) S1:=kIdx_loc g1 at0
  have i1:kIdx2 (.loc S.length) (.int 1) S1 = .ok (.str (nt o.w)) S1:=kIdx_loc g1 at1
  obtain ⟨_,S2,e2,rfl,x2⟩:=rn_ok (n:=n + 2) (S:=S1) hw
  have i2:kIdx2 (.loc S.length) (.int 2) S2 = .ok (.str (lkT o.L)) S2:=kIdx_loc (x2.get g1) at2
  obtain ⟨_,S3,e3,rfl,x3⟩:=formed_lock_ok (n:=n) (S:=S2) hk l30
  have e3:callN T G 100 (n + 5) "formed_lock" [.str (lkT o.L)] S2 = .ok (.tup (o.L.map rD)) S3:=e3
  unfold oD
  obtain ⟨A,hA⟩:∃ A,o.L.map rD = A:=⟨_,rfl⟩
  rw [hA] at e3 ⊢
  rw [callN_eq T_f_formed_out rfl]
  simp -implicitDefEqProofs [f_formed_out,v_cst,v_var,v_tup,v_idx,v_call,v_prim,v_meth,w_bo,w_cmp,v_bt1,v_bt2,v_a0,v_a1,v_tvar,v_asg,v_ifs,v_ret,v_b0,v_b1,kVar,kTup,kIdx,kMeth,tCmp2,tCmp',kBT,kCons,kArg,kNx,kAsg,kIfs,kRet,kB,Res.bind_ok,finF,Cn_call,Line,rcv,spl,ln,i0,i1,e2,i2,e3]
  exact x1.trans (x2.trans x3)
noncomputable def IFd (d:De) (S0:Store) (ps:List D) (i:Nat) (τ:En) (S:Store):Prop:=∃ u:Option D,τ = [some (.str (dT d)),some (.loc S0.length),some (.loc (S0.length + 1)),some (.loc (S0.length + 2)),u]∧Ext S0 S∧S[S0.length]? = some (.lst (.str (nt d.num) :: ps))∧S[S0.length + 3]? = some (.lst ps)∧S[S0.length + 1]? = some (.lst ((d.ins.take i).map iD))∧S[S0.length + 2]? = some (.lst ((d.outs.take (i - d.ins.length)).map oD))
@[reducible] noncomputable def bD:M:=match dropS 3 f_formed_deed.body with
  | .cns (.forr _ _ b) _=>b
  | _=>.nul
theorem deed_turn {d:De} (h:DOk d) {i:Nat} {e:D} {τ:En} {S0:Store} {ps:List D} (hps:ps = (d.ins.map iT ++ d.outs.map oT).map D.str) (he:ps[i]? = some e) (hI:IFd d S0 ps i τ S):Sat (turnF (Cn T G 100 (n + 6)) (.tvar 4) bD e τ S) (FlP (IFd d S0 ps (i + 1)) noB noR):=by
  obtain ⟨u,rfl,x,hp,hp3,h1,h2⟩:=hI
  obtain ⟨n0,n1,il,ik,o1,ol,ok⟩:=h
  have lt:=get_lt hp3
  rw [hps,List.getElem?_map] at he
  obtain ⟨t,ht,rfl⟩:=Option.map_eq_some_iff.mp he
  by_cases hi:i < d.ins.length
  · rw [List.getElem?_append_left (by rw [List.length_map]; exact hi),List.getElem?_map] at ht
    obtain ⟨j,hj,rfl⟩:=Option.map_eq_some_iff.mp ht
    have jk:=ik j (List.mem_of_getElem? hj)
    have z0:i - d.ins.length = 0:=by omega
    rw [z0] at h2
    have h2:S[S0.length + 2]? = some (.lst []):=h2
    have st:methD .starts (.str (iT j)) [.str (Str.ofString "in ")] S = .ok (.bl true) S:=by
      rw [rmethD_7,starts_is,show sg (Str.ofString "in ") = [105,110,32] from by decide,sg_i]
      rfl
    have tr:tru S (.loc (S0.length + 2)) = some false:=by rw [tru_loc h2]; rfl
    obtain ⟨_,S2,e2,rfl,x2⟩:=formed_in_ok (n:=n + 2) (S:=S) jk
    have ap:=meth_append (d:=iD j) (x2.get h1) (line_lt (by rw [List.length_map,List.length_take]; omega))
    simp -implicitDefEqProofs [turnF,bD,dropS,f_formed_deed,v_cst,v_var,v_call,v_meth,w_nott,w_bo,w_var,w_meth,tMth,tMth2,v_bt1,v_bt2,v_a0,v_a1,v_tvar,v_ifs,v_exp,v_b0,v_b1,kVar,kMeth,kTru,tVar',tNotB,kBT,kCons,kArg,kIfs,kExp,kB,Res.bind_ok,Cn_call,rcv,st,tr,seqAt_of h1,e2,ap]
    refine ⟨_,rfl,(x.trans x2).set (by omega) _,?_,?_,?_,?_⟩
    · rw [List.getElem?_set_ne (by omega)]; exact x2.get hp
    · rw [List.getElem?_set_ne (by omega)]; exact x2.get hp3
    · rw [set_get (x2.get h1),List.take_add_one,hj]; simp
    · rw [List.getElem?_set_ne (by omega),x2.get h2,show i + 1 - d.ins.length = 0 from by omega]
      rfl
  · rw [List.getElem?_append_right (by rw [List.length_map]; omega),List.length_map,List.getElem?_map] at ht
    obtain ⟨j,hj,rfl⟩:=Option.map_eq_some_iff.mp ht
    have jk:=ok j (List.mem_of_getElem? hj)
    have hji:=(List.getElem?_eq_some_iff.mp hj).1
    have st:methD .starts (.str (oT j)) [.str (Str.ofString "in ")] S = .ok (.bl false) S:=by
      rw [rmethD_7,starts_is,show sg (Str.ofString "in ") = [105,110,32] from by decide,sg_o]
      rfl
    obtain ⟨_,S2,e2,rfl,x2⟩:=formed_out_ok (n:=n) (S:=S) jk
    have ap:=meth_append (d:=oD j) (x2.get h2) (line_lt (by rw [List.length_map,List.length_take]; omega))
    simp -implicitDefEqProofs [turnF,bD,dropS,f_formed_deed,v_cst,v_var,v_call,v_meth,w_bo,w_meth,tMth,tMth2,v_bt2,v_a0,v_a1,v_tvar,v_ifs,v_exp,v_b0,v_b1,kVar,kMeth,kTru,kBT,kCons,kArg,kIfs,kExp,kB,Res.bind_ok,Cn_call,rcv,st,seqAt_of h2,e2,ap]
    refine ⟨_,rfl,(x.trans x2).set (by omega) _,?_,?_,?_,?_⟩
    · rw [List.getElem?_set_ne (by omega)]; exact x2.get hp
    · rw [List.getElem?_set_ne (by omega)]; exact x2.get hp3
    · rw [List.getElem?_set_ne (by omega),x2.get h1,List.take_of_length_le (by omega),List.take_of_length_le (by omega)]
    · rw [set_get (x2.get h2),show i + 1 - d.ins.length = (i - d.ins.length) + 1 from by omega,List.take_add_one,hj]; simp
theorem formed_deed_ok {d:De} (h:DOk d):Sat (callN T G 100 (n + 7) "formed_deed" [.str (dT d)] S) (fun r S'=>r = dD d∧Ext S S'):=by
  have hd:=h
  obtain ⟨n0,n1,il,ik,o1,ol,ok⟩:=h
  have spl:methD .split1 (.str (dT d)) [.str (Str.ofString "; ")] S = .ok (.loc S.length) (S ++ [.lst ((nt d.num :: (d.ins.map iT ++ d.outs.map oT)).map D.str)]):=split_at (ps:=nt d.num :: (d.ins.map iT ++ d.outs.map oT)) ss (by decide +kernel) (by simp) (fun p hp m=>by
    have hc:okc 59:=by
      rcases List.mem_cons.mp hp with rfl | hp
      · exact okc_nt (d_small hd) 59 m
      · rcases List.mem_append.mp hp with hp | hp
        · obtain ⟨i,hi,rfl⟩:=List.mem_map.mp hp
          exact okc_i (ik i hi) 59 m
        · obtain ⟨o,ho,rfl⟩:=List.mem_map.mp hp
          exact okc_o (ok o ho) 59 m
    unfold okc at hc
    omega) (by show (sg (dT d)).length ≤ _; have:=d_len hd; omega) S
  obtain ⟨ps,hps⟩:∃ ps,(d.ins.map iT ++ d.outs.map oT).map D.str = ps:=⟨_,rfl⟩
  rw [List.map_cons,hps] at spl
  have pl:ps.length = d.ins.length + d.outs.length:=by rw [← hps]; simp
  have sl:sliD (.loc S.length) (some 1) none (S ++ [.lst (.str (nt d.num) :: ps),.lst [],.lst []]) = .ok (.loc (S.length + 3)) (S ++ [.lst (.str (nt d.num) :: ps),.lst [],.lst [],.lst ps]):=by
    rw [sliD_loc app_get0,cut_from (show (0:Int) ≤ 1 by decide)]
    simp
  have sq:seqAt (S ++ [.lst (.str (nt d.num) :: ps),.lst [],.lst [],.lst ps]) (S.length + 3) = some ps:=seqAt_of app_get3
  have lp:=loopS (C:=Cn T G 100 (n + 6)) (t:=.tvar 4) (b:=bD) (τ:=[some (.str (dT d)),some (.loc S.length),some (.loc (S.length + 1)),some (.loc (S.length + 2)),none]) (S:=S ++ [.lst (.str (nt d.num) :: ps),.lst [],.lst [],.lst ps]) (l:=S.length + 3) (ds:=ps) (IFd d S ps) noB noR ⟨_,rfl,.new _ _,app_get0,app_get3,app_get1,by rw [Nat.zero_sub]; exact app_get2⟩ (fun i τ S h=>by obtain ⟨_,_,_,_,h3,_⟩:=h; exact h3) fun i e τ S1 he hI=>deed_turn hd hps.symm he hI
  obtain ⟨fl,S1,e1,q⟩:=lp
  obtain ⟨_,rfl,u,rfl,x,hp,hp3,h1,h2⟩:=q.nx
  rw [pl] at h1 h2
  rw [List.take_of_length_le (by omega)] at h1
  rw [List.take_of_length_le (by omega)] at h2
  have ix:kIdx2 (.loc S.length) (.int 0) S1 = .ok (.str (nt d.num)) S1:=kIdx_loc hp at0
  obtain ⟨_,S2,e2,rfl,x2⟩:=rn_ok (n:=n + 3) (S:=S1) (d_small hd)
  have t1:primD .tuple1 [.loc (S.length + 1)] S2 = .ok (.tup (d.ins.map iD)) S2:=prim_tuple_loc (x2.get h1)
  have t2:primD .tuple1 [.loc (S.length + 2)] S2 = .ok (.tup (d.outs.map oD)) S2:=prim_tuple_loc (x2.get h2)
  have hb:f_formed_deed.body = .cns (headS f_formed_deed.body) (.cns (headS (dropS 1 f_formed_deed.body)) (.cns (headS (dropS 2 f_formed_deed.body)) (.cns (.forr (.tvar 4) (.cns (.sli (.var 1) (.cns (.cst (.int 1)) .nul) .nul) .nul) bD) (dropS 4 f_formed_deed.body)))):=rfl
  have hN:f_formed_deed.N.length = 5:=rfl
  rw [callN_eq T_f_formed_deed rfl,hb]
  generalize bD = body at e1
  unfold dD
  obtain ⟨Y,hY⟩:∃ Y,d.ins.map iD = Y:=⟨_,rfl⟩
  obtain ⟨Z,hZ⟩:∃ Z,d.outs.map oD = Z:=⟨_,rfl⟩
  rw [hY] at t1 ⊢
  rw [hZ] at t2 ⊢
  simp -implicitDefEqProofs [hN,headS,dropS,f_formed_deed,v_cst,v_var,v_tup,v_lst,v_idx,v_sli,v_call,v_prim,v_meth,v_a0,v_a1,v_o0,v_o1,v_seq,v_tvar,v_asg,v_ret,v_for,v_b1,kVar,kTup,kLst,kIdx,kSli2,kSli,kMeth,kCons,kArg,kOpt,kSeq,kNx,kAsg,kRet,kB,Res.bind_ok,finF,Cn_call,Line,rcv,spl,sl,sq,e1,ix,e2,t1,t2]
  exact x.trans x2
end
end K64
namespace K64
open PySem L2 Mi Tx
structure Bl where
  num:Int
  ah:Int
  wt:Int
  hd:De
  tl:List De
noncomputable def blD (b:Bl):D:=.tup [.int b.num,.int b.ah,.int b.wt,.tup ((b.hd :: b.tl).map dD)]
structure BOk (b:Bl):Prop where
  n0:1 ≤ b.num
  n1:b.num ≤ B30
  a0:0 ≤ b.ah
  a1:b.ah ≤ B30
  w0:1 ≤ b.wt
  w1:b.wt ≤ B30
  hd:DOk b.hd
  mkr:b.hd.ins.length = 0
  tl:∀ d ∈ b.tl,DOk d∧d.ins.length ≠ 0
  len:b.tl.length ≤ 11
noncomputable def plT (b:Bl):PySem.Str:=Str.join (Str.ofString " ") [nt b.num,Str.ofString "on",nt b.ah,Str.ofString "weight",nt b.wt]
noncomputable def bT (b:Bl):PySem.Str:=Str.join (Str.ofString " | ") (plT b :: (b.hd :: b.tl).map dT)
theorem all_ok {b:Bl} (h:BOk b):∀ d ∈ b.hd :: b.tl,DOk d:=fun d hd=>by
  rcases List.mem_cons.mp hd with rfl | hd
  · exact h.hd
  · exact (h.tl d hd).1
theorem small_b {z:Int} (h0:0 ≤ z) (h1:z ≤ B30):z.natAbs < 10 ^ 60:=by
  have:B30 < 10 ^ 60:=by decide
  omega
section
variable {n:Nat} {S:Store}
theorem maker_is {d:De}:callN T G 100 (n + 1) "is_maker" [dD d] S = .ok (.bl (decide (d.ins.length = 0))) S:=by
  obtain ⟨Z,hZ⟩:∃ Z:Int,((d.ins.length:Nat):Int) = Z:=⟨_,rfl⟩
  have ln:primD .len [.tup (d.ins.map iD)] S = .ok (.int Z) S:=by rw [prim_len_tup,List.length_map,hZ]
  have e:decide (d.ins.length = 0) = decide (Z = 0):=by
    rw [decide_eq_decide]
    omega
  rw [e]
  unfold dD
  rw [callN_eq T_f_is_maker rfl]
  simp -implicitDefEqProofs [f_is_maker,v_cst,v_var,v_cmp,v_idx,v_prim,v_a0,v_a1,v_ret,v_b1,kVar,kCmp2,kCmp,kIdx,kCons,kArg,kRet,kB,Res.bind_ok,finF,ln]
theorem noF {α:Type} (xs:List α) (S:Store):primD .any1 [.loc S.length] (S ++ [Mi.Obj.lst (xs.map fun _=>D.bl false)]) = .ok (.bl false) (S ++ [Mi.Obj.lst (xs.map fun _=>D.bl false)]):=by
  rw [rprimD_12]
  simp only [seqOf,seqAt_of new_get]
  have:=allB_map (fun _:α=>false) xs
  rw [this]
  have:(xs.map fun _=>D.bl false).any isT = false:=by
    rw [List.any_eq_false]
    intro x hx
    obtain ⟨_,_,rfl⟩:=List.mem_map.mp hx
    decide
  simp only [this]
theorem are_deeds_ok {b:Bl} (h:BOk b):Sat (callN T G 100 (n + 8) "are_deeds" [.tup ((b.hd :: b.tl).map dD)] S) (PTr S):=by
  have hl:=h.len
  have t:=tuple_ok (n:=n + 6) (S:=S) (ds:=(b.hd :: b.tl).map dD) (lo:=1) (hi:=12) (by rw [List.length_map,List.length_cons]; omega) (by rw [List.length_map,List.length_cons]; omega)
  obtain ⟨_,_,e1,S1,rfl,rfl,x1⟩:=comp_call (S:=S) (f:="is_deed") (τ:=[some (.tup ((b.hd :: b.tl).map dD))]) (m:=n + 7) (xs:=b.hd :: b.tl) dD (fun _=>.bl true) (by rw [List.length_cons]; omega) fun d hd S=>deed_ok (n:=n) (all_ok h d hd)
  have al:=allT (b.hd :: b.tl) S1
  obtain ⟨S2,hS2⟩:∃ S2,S1 ++ [Mi.Obj.lst ((b.hd :: b.tl).map fun _=>D.bl true)] = S2:=⟨_,rfl⟩
  have x2:Ext S S2:=x1.trans ⟨_,hS2.symm⟩
  rw [hS2] at e1 al
  have mk:callN T G 100 (n + 7) "is_maker" [dD b.hd] S2 = .ok (.bl true) S2:=by rw [maker_is,decide_eq_true h.mkr]
  obtain ⟨_,_,e3,S3,rfl,rfl,x3⟩:=comp_call (S:=S2) (f:="is_maker") (τ:=[some (.tup ((b.hd :: b.tl).map dD))]) (m:=n + 7) (xs:=b.tl) dD (fun _=>.bl false) (by omega) fun d hd S=>⟨_,_,by rw [maker_is,decide_eq_false (h.tl d hd).2],rfl,.refl _⟩
  have an:=noF b.tl S3
  have sl:sliD (.tup ((b.hd :: b.tl).map dD)) (some 1) none S2 = .ok (.tup (b.tl.map dD)) S2:=slice1 S2
  have i0:kIdx2 (.tup ((b.hd :: b.tl).map dD)) (.int 0) S2 = .ok (dD b.hd) S2:=kIdx2_t0
  obtain ⟨Y,hY⟩:∃ Y,(b.hd :: b.tl).map dD = Y:=⟨_,rfl⟩
  obtain ⟨Z,hZ⟩:∃ Z,b.tl.map dD = Z:=⟨_,rfl⟩
  obtain ⟨E,hE⟩:∃ E,(b.tl.map fun _=>D.bl false) = E:=⟨_,rfl⟩
  obtain ⟨X,hX⟩:∃ X,dD b.hd = X:=⟨_,rfl⟩
  rw [hY] at t e1 e3 sl i0 ⊢
  rw [hZ] at e3 sl
  rw [hE] at e3 an
  rw [hX] at mk i0
  rw [callN_eq T_f_are_deeds rfl]
  simp -implicitDefEqProofs [f_are_deeds,v_cst,v_var,v_glb,v_nott,v_bo,v_idx,v_sli,v_call,v_prim,v_comp,w_nott,w_bo,w_call,w_prim,v_bv1,v_bv2,v_bt1,v_bt2,v_a0,v_a1,v_o0,v_o1,v_seq,v_ifs,v_ret,v_b0,v_b1,kVar,kGlb,kNot,kIdx,kSli2,kSli,kTru,tNotB,tCal,tPri,kBV,kBT,kCons,kArg,kOpt,kSeq,kIfs,kRet,kB,Res.bind_ok,finF,Cn_call,Cn_glob,t,e1,al,i0,mk,sl,e3,an,tru,G_MOST_DEEDS]
  exact ⟨rfl,(x2.trans x3).more _⟩
theorem block_ok {b:Bl} (h:BOk b):Sat (callN T G 100 (n + 9) "is_block" [blD b] S) (PTr S):=by
  have t:=tuple_ok (n:=n + 7) (S:=S) (ds:=[.int b.num,.int b.ah,.int b.wt,.tup ((b.hd :: b.tl).map dD)]) (lo:=4) (hi:=4) (by simp) (by simp)
  obtain ⟨Q,pQ,hQ⟩:∃ Q:Int,(∀ S:Store,bop .pow (.int 10) (.int 30) S = .ok (.int Q) S)∧Q = B30:=⟨_,fun _=>p30,rfl⟩
  have w1:=fun S=>within_ok (n:=n + 6) (S:=S) (z:=b.num) (lo:=1) (hi:=Q) h.n0 (by have:=h.n1; omega)
  have w2:=fun S=>within_ok (n:=n + 6) (S:=S) (z:=b.ah) (lo:=0) (hi:=Q) h.a0 (by have:=h.a1; omega)
  have w3:=fun S=>within_ok (n:=n + 6) (S:=S) (z:=b.wt) (lo:=1) (hi:=Q) h.w0 (by have:=h.w1; omega)
  obtain ⟨_,S1,e1,rfl,x1⟩:=are_deeds_ok (n:=n) (S:=S) h
  unfold blD
  obtain ⟨Y,hY⟩:∃ Y,(b.hd :: b.tl).map dD = Y:=⟨_,rfl⟩
  rw [hY] at t e1 ⊢
  rw [callN_eq T_f_is_block rfl]
  simp -implicitDefEqProofs [f_is_block,v_cst,v_var,v_bin,v_bo,v_idx,v_call,w_nott,w_bo,w_call,v_bv1,v_bv2,v_bt1,v_bt2,v_a0,v_a1,v_ifs,v_ret,v_b0,v_b1,kVar,kBin,kIdx,kTru,tNotB,tCal,kBV,kBT,kCons,kArg,kIfs,kRet,kB,Res.bind_ok,finF,Cn_call,t,pQ,w1,w2,w3,e1,tru]
  exact ⟨rfl,x1⟩
theorem checked_block_ok {b:Bl} (h:BOk b):Sat (callN T G 100 (n + 10) "checked_block" [blD b] S) (fun r S'=>r = blD b∧Ext S S'):=by
  obtain ⟨_,S1,e1,rfl,x1⟩:=block_ok (n:=n) (S:=S) h
  rw [callN_eq T_f_checked_block rfl]
  obtain ⟨Y,hY⟩:∃ Y,blD b = Y:=⟨_,rfl⟩
  rw [hY] at e1 ⊢
  simp -implicitDefEqProofs [f_checked_block,v_var,w_nott,w_call,v_a0,v_a1,v_ifs,v_ret,v_b0,v_b1,kVar,kTru,tNotB,tCal,kCons,kArg,kIfs,kRet,kB,Res.bind_ok,finF,Cn_call,e1,tru]
  exact x1
end
theorem pl_len {b:Bl} (h:BOk b):(sg (plT b)).length ≤ 300:=by
  have l1:=(num_of (small_b (by have:=h.n0; omega) h.n1)).2.1
  have l2:=(num_of (small_b h.a0 h.a1)).2.1
  have l3:=(num_of (small_b (by have:=h.w0; omega) h.w1)).2.1
  have e1:sg (Str.ofString "on") = [111,110]:=by decide
  have e2:sg (Str.ofString "weight") = [119,101,105,103,104,116]:=by decide
  unfold plT
  rw [sg_join]
  simp only [List.map_cons,List.map_nil,joinL,sb,e1,e2,List.length_append,List.length_cons,List.length_nil]
  omega
theorem si:sg (Str.ofString " | ") = [32,124,32]:=by decide
theorem okd {d:De} (h:DOk d):124 ∉ sg (dT d):=fun m=>by
  have hd:=h
  obtain ⟨_,_,_,ik,_,_,ok⟩:=h
  have key:okc 124 ∨ (124:Nat) = 59 ∨ (124:Nat) = 32:=by
    rw [sg_d] at m
    rcases List.mem_append.mp m with m | m
    · rcases List.mem_append.mp m with m | m
      · exact .inl (okc_nt (d_small hd) _ m)
      · obtain ⟨l,hl,m⟩:=List.mem_flatten.mp m
        obtain ⟨i,hi,rfl⟩:=List.mem_map.mp hl
        rcases List.mem_append.mp m with m | m
        · simp at m
        · exact .inl (okc_i (ik i hi) _ m)
    · obtain ⟨l,hl,m⟩:=List.mem_flatten.mp m
      obtain ⟨o,ho,rfl⟩:=List.mem_map.mp hl
      rcases List.mem_append.mp m with m | m
      · simp at m
      · exact .inl (okc_o (ok o ho) _ m)
  unfold okc at key
  omega
theorem okp {b:Bl} (h:BOk b):124 ∉ sg (plT b):=fun m=>by
  unfold plT at m
  rw [sg_join] at m
  have hc:∀ z:Int,z.natAbs < 10 ^ 60→124 ∉ sg (nt z):=fun z hz=>coin_free hz (by omega)
  have s1:=hc _ (small_b (by have:=h.n0; omega) h.n1)
  have s2:=hc _ (small_b h.a0 h.a1)
  have s3:=hc _ (small_b (by have:=h.w0; omega) h.w1)
  have s4:124 ∉ sg (Str.ofString "on"):=by decide
  have s5:124 ∉ sg (Str.ofString "weight"):=by decide
  rcases mem_joinL m with m | ⟨p,hp,m⟩
  · rw [sb] at m
    simp at m
  · simp only [List.map_cons,List.map_nil,List.mem_cons,List.not_mem_nil,or_false] at hp
    rcases hp with rfl | rfl | rfl | rfl | rfl
    · exact s1 m
    · exact s4 m
    · exact s2 m
    · exact s5 m
    · exact s3 m
theorem b_len {b:Bl} (h:BOk b):(sg (bT b)).length ≤ 300000:=by
  have l0:=pl_len h
  have l1:=fl_len (fun d=>[32,124,32] ++ sg (dT d)) 20003 (b.hd :: b.tl) fun d hd=>by have:=d_len (all_ok h d hd); simp; omega
  have l2:=h.len
  unfold bT
  rw [sg_join,List.map_cons,joinL_flat,si,List.map_map,List.map_map,List.length_append]
  have e:((fun q=>[32,124,32] ++ q) ∘ sg) ∘ dT = fun d=>[32,124,32] ++ sg (dT d):=rfl
  rw [e]
  rw [List.length_cons] at l1
  omega
end K64
namespace K64
open PySem L2 Mi Tx
section
variable {n:Nat} {S:Store}
theorem at3 {a b c d:D} {ds:List D}:atI (a :: b :: c :: d :: ds) (3:Int) = some d:=by
  simp only [atI,ixN,List.length_cons]
  rw [if_pos (by decide),if_pos (by omega)]
  rfl
theorem at4 {a b c d e:D} {ds:List D}:atI (a :: b :: c :: d :: e :: ds) (4:Int) = some e:=by
  simp only [atI,ixN,List.length_cons]
  rw [if_pos (by decide),if_pos (by omega)]
  rfl
theorem shown_block_ok {b:Bl} (h:BOk b):Sat (callN T G 100 (n + 5) "shown_block" [blD b] S) (fun r S'=>r = .str (bT b)∧Ext S S'):=by
  have s1:=small_b (by have:=h.n0; omega) h.n1
  have s2:=small_b h.a0 h.a1
  have s3:=small_b (by have:=h.w0; omega) h.w1
  have hl:=h.len
  have jp:=join_at (S:=S ++ [.lst ([nt b.num,Str.ofString "on",nt b.ah,Str.ofString "weight",nt b.wt].map D.str)]) (x:=Str.ofString " ") (l:=S.length) (ts:=[nt b.num,Str.ofString "on",nt b.ah,Str.ofString "weight",nt b.wt]) new_get (by decide) (by simp) (fun t ht=>by
    have k1:=(num_of s1).2.1
    have k2:=(num_of s2).2.1
    have k3:=(num_of s3).2.1
    simp only [List.mem_cons,List.not_mem_nil,or_false] at ht
    rcases ht with rfl | rfl | rfl | rfl | rfl
    · omega
    · exact Nat.le_trans (show (sg (Str.ofString "on")).length ≤ 2 by decide) (by decide)
    · omega
    · exact Nat.le_trans (show (sg (Str.ofString "weight")).length ≤ 6 by decide) (by decide)
    · omega)
  have jp:methD .join1 (.str (Str.ofString " ")) [.loc S.length] (S ++ [.lst ([nt b.num,Str.ofString "on",nt b.ah,Str.ofString "weight",nt b.wt].map D.str)]) = .ok (.str (plT b)) (S ++ [.lst ([nt b.num,Str.ofString "on",nt b.ah,Str.ofString "weight",nt b.wt].map D.str)]):=jp
  obtain ⟨S1,hS1⟩:∃ S1,S ++ [Mi.Obj.lst ([nt b.num,Str.ofString "on",nt b.ah,Str.ofString "weight",nt b.wt].map D.str)] = S1:=⟨_,rfl⟩
  have x1:Ext S S1:=⟨_,hS1.symm⟩
  rw [hS1] at jp
  simp only [List.map_cons,List.map_nil] at hS1
  obtain ⟨_,_,e2,S2,rfl,rfl,x2⟩:=comp_call (S:=S1 ++ [.lst [.str (plT b)]]) (f:="shown_deed") (τ:=[some (blD b),some (.str (plT b))]) (m:=n + 4) (xs:=b.hd :: b.tl) dD (fun d=>.str (dT d)) (by rw [List.length_cons]; omega) fun d hd S=>shown_deed_ok (n:=n) (all_ok h d hd)
  have g1:S2[S1.length]? = some (.lst [.str (plT b)]):=x2.get new_get
  have a1:bop .add (.loc S1.length) (.loc S2.length) (S2 ++ [.lst ((b.hd :: b.tl).map fun d=>D.str (dT d))]) = .ok (.loc (S2.length + 1)) (S2 ++ [.lst ((b.hd :: b.tl).map fun d=>D.str (dT d)),.lst ((plT b :: (b.hd :: b.tl).map dT).map D.str)]):=by
    rw [bop_add_lst (old_get g1) app_get0 (by simp [Line]; omega)]
    simp
  have jn:=join_big (S:=S2 ++ [.lst ((b.hd :: b.tl).map fun d=>D.str (dT d)),.lst ((plT b :: (b.hd :: b.tl).map dT).map D.str)]) (x:=Str.ofString " | ") (l:=S2.length + 1) (ts:=plT b :: (b.hd :: b.tl).map dT) app_get1 (by decide) (by simp; omega) (fun t ht=>by
    rcases List.mem_cons.mp ht with rfl | ht
    · have:=pl_len h
      omega
    · obtain ⟨d,hd,rfl⟩:=List.mem_map.mp ht
      have:=d_len (all_ok h d hd)
      omega)
  obtain ⟨Y,hY⟩:∃ Y,(b.hd :: b.tl).map dD = Y:=⟨_,rfl⟩
  obtain ⟨Z,hZ⟩:∃ Z,((b.hd :: b.tl).map fun d=>D.str (dT d)) = Z:=⟨_,rfl⟩
  obtain ⟨E,hE⟩:∃ E,(plT b :: (b.hd :: b.tl).map dT).map D.str = E:=⟨_,rfl⟩
  have rd:blD b = .tup [.int b.num,.int b.ah,.int b.wt,.tup Y]:=by unfold blD; rw [hY]
  rw [rd] at e2 ⊢
  rw [hY,hZ] at e2
  rw [hZ,hE] at a1 jn
  rw [callN_eq T_f_shown_block rfl]
  simp -implicitDefEqProofs [f_shown_block,v_cst,v_var,v_bin,v_lst,v_idx,v_prim,v_meth,v_comp,v_a0,v_a1,v_seq,v_tvar,v_asg,v_ret,v_b1,kVar,kBin,kLst,kIdx,kMeth,kCons,kArg,kSeq,kNx,kAsg,kRet,kB,Res.bind_ok,finF,Line,str_int s1,str_int s2,str_int s3,hS1,jp,e2,a1,rcv,jn]
  exact ⟨rfl,(x1.trans ((Ext.new _ _).trans x2)).more _⟩
theorem split_atJ {y:PySem.Str} {c j:Nat} (hc:(sg y)[j]? = some c) (hj:∀ i,i < j→(sg y)[i]? ≠ some c) (hk:Builtin.Str.strKind y = 1) {ps:List PySem.Str} (ne:ps ≠ []) (fr:∀ p ∈ ps,c ∉ sg p) (hl:(sg (Str.join y ps)).length ≤ 1000000) (S:Store):methD .split1 (.str (Str.join y ps)) [.str y] S = .ok (.loc S.length) (S ++ [.lst (ps.map D.str)]):=by
  have hy:1 ≤ y.length:=by rw [len_sg]; have:=(List.getElem?_eq_some_iff.mp hc).1; omega
  rw [rmethD_8,split_joinJ hc hj (fun x=>by rw [hk]; exact kind_one x) ne fr]
  have e1:(Str.join y ps).length ≤ Line:=by rw [len_sg]; show _ ≤ 16777216; omega
  have e2:=parts_le (x:=Str.join y ps) hy
  have e3:(Builtin.Str.partsBetween (Str.join y ps) (Builtin.Str.occurrences (Str.join y ps) y 0 (Str.join y ps).length ((Str.join y ps).length + 1)) y.length).length ≤ Line:=by
    refine Nat.le_trans e2 ?_
    rw [len_sg]
    show _ ≤ 16777216
    omega
  have e0:(!(y.length == 0)) = true:=by
    rw [Bool.not_eq_true',beq_eq_false_iff_ne]
    omega
  rw [if_pos (by simp only [e0,e1,e3,decide_true,Bool.and_true])]
theorem formed_block_ok {b:Bl} (h:BOk b):Sat (callN T G 100 (n + 8) "formed_block" [.str (bT b)] S) (fun r S'=>r = blD b∧Ext S S'):=by
  have s1:=small_b (by have:=h.n0; omega) h.n1
  have s2:=small_b h.a0 h.a1
  have s3:=small_b (by have:=h.w0; omega) h.w1
  have hl:=h.len
  have hJ:∀ i,i < 1→(sg (Str.ofString " | "))[i]? ≠ some 124:=fun i hi=>by
    obtain rfl:i = 0:=by omega
    rw [si]
    decide
  have spl:methD .split1 (.str (bT b)) [.str (Str.ofString " | ")] S = .ok (.loc S.length) (S ++ [.lst ((plT b :: (b.hd :: b.tl).map dT).map D.str)]):=split_atJ (j:=1) (c:=124) (ps:=plT b :: (b.hd :: b.tl).map dT) (by rw [si]; rfl) hJ (by decide +kernel) (by simp) (fun p hp=>by
    rcases List.mem_cons.mp hp with rfl | hp
    · exact okp h
    · obtain ⟨d,hd,rfl⟩:=List.mem_map.mp hp
      exact okd (all_ok h d hd)) (by show (sg (bT b)).length ≤ _; have:=b_len h; omega) S
  have g1:(S ++ [Mi.Obj.lst ((plT b :: (b.hd :: b.tl).map dT).map D.str)])[S.length]? = some (.lst (.str (plT b) :: (b.hd :: b.tl).map fun d=>D.str (dT d))):=by rw [new_get]; simp
  obtain ⟨S1,hS1⟩:∃ S1,S ++ [Mi.Obj.lst ((plT b :: (b.hd :: b.tl).map dT).map D.str)] = S1:=⟨_,rfl⟩
  rw [hS1] at spl g1
  have x1:Ext S S1:=⟨_,hS1.symm⟩
  have i0:kIdx2 (.loc S.length) (.int 0) S1 = .ok (.str (plT b)) S1:=kIdx_loc g1 at0
  have sp2:methD .split1 (.str (plT b)) [.str (Str.ofString " ")] S1 = .ok (.loc S1.length) (S1 ++ [.lst ([nt b.num,Str.ofString "on",nt b.ah,Str.ofString "weight",nt b.wt].map D.str)]):=split_at (ps:=[nt b.num,Str.ofString "on",nt b.ah,Str.ofString "weight",nt b.wt]) sb (by decide +kernel) (by simp) (fun p hp=>by
    simp only [List.mem_cons,List.not_mem_nil,or_false] at hp
    rcases hp with rfl | rfl | rfl | rfl | rfl
    · exact coin_free s1 (by omega)
    · decide
    · exact coin_free s2 (by omega)
    · decide
    · exact coin_free s3 (by omega)) (by show (sg (plT b)).length ≤ _; have:=pl_len h; omega) S1
  have g2:(S1 ++ [Mi.Obj.lst ([nt b.num,Str.ofString "on",nt b.ah,Str.ofString "weight",nt b.wt].map D.str)])[S1.length]? = some (.lst [.str (nt b.num),.str (Str.ofString "on"),.str (nt b.ah),.str (Str.ofString "weight"),.str (nt b.wt)]):=new_get
  obtain ⟨S2,hS2⟩:∃ S2,S1 ++ [Mi.Obj.lst ([nt b.num,Str.ofString "on",nt b.ah,Str.ofString "weight",nt b.wt].map D.str)] = S2:=⟨_,rfl⟩
  rw [hS2] at sp2 g2
  have x2:Ext S1 S2:=⟨_,hS2.symm⟩
  have ln:primD .len [.loc S1.length] S2 = .ok (.int 5) S2:=by rw [prim_len_loc g2]; rfl
  have j1:kIdx2 (.loc S1.length) (.int 1) S2 = .ok (.str (Str.ofString "on")) S2:=kIdx_loc g2 at1
  have j3:kIdx2 (.loc S1.length) (.int 3) S2 = .ok (.str (Str.ofString "weight")) S2:=kIdx_loc g2 at3
  have sl:sliD (.loc S.length) (some 1) none S2 = .ok (.loc S2.length) (S2 ++ [.lst ((b.hd :: b.tl).map fun d=>D.str (dT d))]):=by
    rw [sliD_loc (x2.get g1),cut_from (show (0:Int) ≤ 1 by decide)]
    simp
  obtain ⟨_,_,e3,S3,rfl,rfl,x3⟩:=compL_call (S:=S2 ++ [.lst ((b.hd :: b.tl).map fun d=>D.str (dT d))]) (f:="formed_deed") (τ:=[some (.str (bT b)),some (.loc S.length),some (.loc S1.length),none]) (m:=n + 7) (l:=S2.length) (xs:=b.hd :: b.tl) (fun d=>.str (dT d)) dD new_get (by rw [List.length_cons]; omega) fun d hd S=>formed_deed_ok (n:=n) (all_ok h d hd)
  have sq:seqAt (S2 ++ [.lst ((b.hd :: b.tl).map fun d=>D.str (dT d))]) S2.length = some ((b.hd :: b.tl).map fun d=>D.str (dT d)):=seqAt_of new_get
  have g3:(S3 ++ [Mi.Obj.lst ((b.hd :: b.tl).map dD)])[S3.length]? = some (.lst ((b.hd :: b.tl).map dD)):=new_get
  have g4:(S3 ++ [Mi.Obj.lst ((b.hd :: b.tl).map dD)])[S1.length]? = some (.lst [.str (nt b.num),.str (Str.ofString "on"),.str (nt b.ah),.str (Str.ofString "weight"),.str (nt b.wt)]):=old_get (x3.get (old_get g2))
  obtain ⟨S4,hS4⟩:∃ S4,S3 ++ [Mi.Obj.lst ((b.hd :: b.tl).map dD)] = S4:=⟨_,rfl⟩
  rw [hS4] at e3 g3 g4
  have x4:Ext S2 S4:=(Ext.new _ _).trans (x3.trans ⟨_,hS4.symm⟩)
  have k0:kIdx2 (.loc S1.length) (.int 0) S4 = .ok (.str (nt b.num)) S4:=kIdx_loc g4 at0
  obtain ⟨_,S5,e5,rfl,x5⟩:=rn_ok (n:=n + 4) (S:=S4) s1
  have k2:kIdx2 (.loc S1.length) (.int 2) S5 = .ok (.str (nt b.ah)) S5:=kIdx_loc (x5.get g4) at2
  obtain ⟨_,S6,e6,rfl,x6⟩:=rn_ok (n:=n + 4) (S:=S5) s2
  have k4:kIdx2 (.loc S1.length) (.int 4) S6 = .ok (.str (nt b.wt)) S6:=kIdx_loc (x6.get (x5.get g4)) at4
  obtain ⟨_,S7,e7,rfl,x7⟩:=rn_ok (n:=n + 4) (S:=S6) s3
  have tp:primD .tuple1 [.loc S3.length] S7 = .ok (.tup ((b.hd :: b.tl).map dD)) S7:=prim_tuple_loc (x7.get (x6.get (x5.get g3)))
  unfold blD
  obtain ⟨A,hA⟩:∃ A,((b.hd :: b.tl).map fun d=>D.str (dT d)) = A:=⟨_,rfl⟩
  obtain ⟨B,hB⟩:∃ B,(b.hd :: b.tl).map dD = B:=⟨_,rfl⟩
  rw [hA] at sl e3 sq
  rw [hB] at tp ⊢
  rw [callN_eq T_f_formed_block rfl]
  simp -implicitDefEqProofs [f_formed_block,v_cst,v_var,v_tup,v_idx,v_sli,v_call,v_prim,v_meth,v_comp,w_bo,w_cmp,v_bt1,v_bt2,v_a0,v_a1,v_o0,v_o1,v_seq,v_tvar,v_asg,v_ifs,v_ret,v_b0,v_b1,kVar,kTup,kIdx,kSli2,kSli,kMeth,tCmp2,tCmp',kBT,kCons,kArg,kOpt,kSeq,kNx,kAsg,kIfs,kRet,kB,Res.bind_ok,finF,Cn_call,Line,rcv,spl,i0,sp2,ln,j1,j3,sl,sq,e3,k0,e5,k2,e6,k4,e7,tp]
  exact x1.trans (x2.trans (x4.trans (x5.trans (x6.trans x7))))
theorem read_block_ok {b:Bl} (h:BOk b):Sat (callN T G 100 (n + 11) "read_block" [.str (bT b)] S) (fun r S'=>r = blD b∧Ext S S'):=by
  obtain ⟨_,S1,e1,rfl,x1⟩:=formed_block_ok (n:=n + 2) (S:=S) h
  obtain ⟨_,S2,e2,rfl,x2⟩:=checked_block_ok (n:=n) (S:=S1) h
  obtain ⟨Y,hY⟩:∃ Y,blD b = Y:=⟨_,rfl⟩
  rw [hY] at e1 e2 ⊢
  rw [callN_eq T_f_read_block rfl]
  simp -implicitDefEqProofs [f_read_block,v_var,v_call,v_a0,v_a1,v_ret,v_b1,kVar,kCons,kArg,kRet,kB,Res.bind_ok,finF,Cn_call,Line,text_is,e1,e2]
  exact x1.trans x2
end
end K64
namespace K64
open PySem L2 Mi Tx
section
variable {n:Nat} {S:Store}
noncomputable def plD (v k:Int):De:=⟨1 + v % B30,[⟨v / 3 % 50,k,[]⟩],[⟨1 + v % 97,[]⟩]⟩
theorem pl_ok {v k:Int} (k0:0 ≤ k) (k1:k ≤ 20):DOk (plD v k)∧(plD v k).ins.length ≠ 0:=by
  have b:(97:Int) < B30:=by decide
  have b4:(97:Int) < B40:=by decide
  have h1:=Int.emod_nonneg v (b:=B30) (by omega)
  have h2:=Int.emod_lt_of_pos v (b:=B30) (by omega)
  refine ⟨⟨?_,?_,by simp [plD],fun i hi=>?_,by simp [plD],by simp [plD],fun o ho=>?_⟩,by simp [plD]⟩
  · show 1 ≤ 1 + v % B30
    omega
  · show 1 + v % B30 ≤ B30
    omega
  · rw [show (plD v k).ins = [⟨v / 3 % 50,k,[]⟩] from rfl,List.mem_singleton] at hi
    subst hi
    exact ⟨by show 0 ≤ v / 3 % 50; omega,by show v / 3 % 50 ≤ B30; omega,k0,by show k ≤ B30; omega,by simp,by simp⟩
  · rw [show (plD v k).outs = [⟨1 + v % 97,[]⟩] from rfl,List.mem_singleton] at ho
    subst ho
    exact ⟨by show 1 ≤ 1 + v % 97; omega,by show 1 + v % 97 ≤ B40; omega,rfl,by simp,by simp⟩
theorem plain_is {v k:Int}:callN T G 100 (n + 1) "_law_plain" [.int v,.int k] S = .ok (dD (plD v k)) S:=by
  obtain ⟨Q,pQ,hQ⟩:∃ Q:Int,(∀ S:Store,bop .pow (.int 10) (.int 30) S = .ok (.int Q) S)∧Q = B30:=⟨_,fun _=>p30,rfl⟩
  have q1:0 < Q:=by rw [hQ]; decide
  have q2:Q < 2 ^ 250:=by rw [hQ]; decide
  have m1:∀ S:Store,bop .mod (.int v) (.int Q) S = .ok (.int (v % Q)) S:=fun S=>bop_mod_int q1
  have f3:∀ S:Store,bop .fdiv (.int v) (.int 3) S = .ok (.int (v / 3)) S:=fun S=>bop_fdiv_int (by decide) (by decide)
  have m50:∀ S:Store,bop .mod (.int (v / 3)) (.int 50) S = .ok (.int (v / 3 % 50)) S:=fun S=>bop_mod_int (by decide)
  have m97:∀ S:Store,bop .mod (.int v) (.int 97) S = .ok (.int (v % 97)) S:=fun S=>bop_mod_int (by decide)
  have e:dD (plD v k) = .tup [.int (1 + v % Q),.tup [.tup [.tup [.int (v / 3 % 50),.int k],.tup []]],.tup [.tup [.int (1 + v % 97),.tup []]]]:=by rw [hQ]; rfl
  rw [e,callN_eq T_f_law_plain rfl]
  simp -implicitDefEqProofs [f_law_plain,v_cst,v_var,v_bin,v_tup,v_a0,v_a1,v_ret,v_b1,kVar,kBin,kTup,kCons,kArg,kRet,kB,Res.bind_ok,finF,Line,pQ,m1,f3,m50,m97]
noncomputable def PBl (S:Store) (d:D) (S':Store):Prop:=∃ b:Bl,d = blD b∧BOk b∧Ext S S'
noncomputable def IBk (v1 a w m p:D) (l:Nat) (d0:De) (S:Store) (i:Nat) (τ:En) (S':Store):Prop:=∃ (z:Int) (u6 u8:Option D) (ds:List De),τ = [some (.int z),some v1,some a,some w,some m,some p,u6,some (.loc l),u8]∧Ext S S'∧S'[l]? = some (.lst ((d0 :: ds).map dD))∧ds.length = i∧∀ d ∈ ds,DOk d∧d.ins.length ≠ 0
theorem block_by (v:Int) (hv:0 ≤ v):Sat (callN T G 100 (n + 4) "_law_block_by" [.int v] S) (PBl S):=by
  obtain ⟨Q,pQ,hQ⟩:∃ Q:Int,(∀ S:Store,bop .pow (.int 10) (.int 30) S = .ok (.int Q) S)∧Q = B30:=⟨_,fun _=>p30,rfl⟩
  have q1:0 < Q:=by rw [hQ]; decide
  have q2:Q < 2 ^ 250:=by rw [hQ]; decide
  have q3:Q + 1 < 2 ^ 250:=by rw [hQ]; decide
  obtain ⟨v1,hv1⟩:∃ v1,v / Q = v1:=⟨_,rfl⟩
  obtain ⟨nm,hnm⟩:∃ a,v % Q = a:=⟨_,rfl⟩
  have d1:∀ S:Store,primD .divmod [.int v,.int Q] S = .ok (.tup [.int v1,.int nm]) S:=fun S=>by rw [dm q1 q2,hv1,hnm]
  have nm0:0 ≤ nm∧nm < B30:=by
    have h1:=Int.emod_nonneg v (b:=Q) (by omega)
    have h2:=Int.emod_lt_of_pos v q1
    omega
  obtain ⟨v2,hv2⟩:∃ x,v1 / (Q + 1) = x:=⟨_,rfl⟩
  obtain ⟨ah,hah⟩:∃ a,v1 % (Q + 1) = a:=⟨_,rfl⟩
  have d2:∀ S:Store,primD .divmod [.int v1,.int (Q + 1)] S = .ok (.tup [.int v2,.int ah]) S:=fun S=>by rw [dm (by omega) q3,hv2,hah]
  have ah0:0 ≤ ah∧ah ≤ B30:=by
    have h1:=Int.emod_nonneg v1 (b:=Q + 1) (by omega)
    have h2:=Int.emod_lt_of_pos v1 (b:=Q + 1) (by omega)
    omega
  obtain ⟨v3,hv3⟩:∃ x,v2 / Q = x:=⟨_,rfl⟩
  obtain ⟨wt,hwt⟩:∃ a,v2 % Q = a:=⟨_,rfl⟩
  have d3:∀ S:Store,primD .divmod [.int v2,.int Q] S = .ok (.tup [.int v3,.int wt]) S:=fun S=>by rw [dm q1 q2,hv3,hwt]
  have wt0:0 ≤ wt∧wt < B30:=by
    have h1:=Int.emod_nonneg v2 (b:=Q) (by omega)
    have h2:=Int.emod_lt_of_pos v2 q1
    omega
  obtain ⟨v4,hv4⟩:∃ x,v3 / 5 = x:=⟨_,rfl⟩
  obtain ⟨my,hmy⟩:∃ a,v3 % 5 = a:=⟨_,rfl⟩
  have d4:∀ S:Store,primD .divmod [.int v3,.int 5] S = .ok (.tup [.int v4,.int my]) S:=fun S=>by rw [dm (by decide) (by decide),hv4,hmy]
  have my0:0 ≤ my∧my < 5:=by omega
  obtain ⟨v5,hv5⟩:∃ x,v4 / 3 = x:=⟨_,rfl⟩
  obtain ⟨ph,hph⟩:∃ a,v4 % 3 = a:=⟨_,rfl⟩
  have d5:∀ S:Store,primD .divmod [.int v4,.int 3] S = .ok (.tup [.int v5,.int ph]) S:=fun S=>by rw [dm (by decide) (by decide),hv5,hph]
  obtain ⟨_,S1,e1,v6,d0,rfl,ok0,mk0,_,x1⟩:=deed_by n v5 true S
  have mk0:=mk0 rfl
  obtain ⟨X,hX⟩:∃ X,dD d0 = X:=⟨_,rfl⟩
  rw [hX] at e1
  have mkB:∀ ds:List De,(∀ d ∈ ds,DOk d∧d.ins.length ≠ 0)→ds.length ≤ 11→BOk ⟨nm + 1,ah,wt + 1,d0,ds⟩:=fun ds h1 h2=>⟨by show 1 ≤ nm + 1; omega,by show nm + 1 ≤ B30; omega,ah0.1,ah0.2,by show 1 ≤ wt + 1; omega,by show wt + 1 ≤ B30; omega,ok0,mk0,h1,h2⟩
  rw [callN_eq T_f_law_block_by rfl]
  by_cases hp:ph = 1
  · obtain ⟨K,hK⟩:∃ K:Int,1 + wt % 11 = K:=⟨_,rfl⟩
    have K0:1 ≤ K∧K ≤ 11:=by omega
    have mK:∀ S:Store,bop .mod (.int wt) (.int 11) S = .ok (.int (wt % 11)) S:=fun S=>bop_mod_int (by decide)
    have aK:∀ S:Store,bop .add (.int 1) (.int (wt % 11)) S = .ok (.int K) S:=fun S=>by rw [← hK]; rfl
    have rg:=fun S=>kRng_of (S:=S) (j:=K) (by omega) (by omega)
    have cm:∀ (τ:En) (S:Store),τ[1]? = some (some (.int nm))→kComp (Cn T G 100 (n + 3)) 1 [1] (.tvar 0) .nul (.call "_law_plain" (.cns (.bin .add (.var 1) (.bin .mul (.cst (.int 7)) (.var 0))) (.cns (.var 0) .nul))) τ (none,(List.range K.toNat).map fun (i:Nat)=>D.int i) S = .ok (.loc S.length) (S ++ [.lst ((List.range K.toNat).map fun (i:Nat)=>dD (plD (nm + 7 * i) i))]):=fun τ S hτ =>
      kComp_of (fun (i:Nat)=>D.int i) (fun (i:Nat)=>dD (plD (nm + 7 * i) i)) (by simp; omega) (.inl rfl) fun i hi=>by
        have hi:i < K.toNat:=List.mem_range.mp hi
        obtain ⟨I,hI⟩:∃ I:Int,(i:Int) = I:=⟨_,rfl⟩
        rw [hI]
        have sI:small I = true:=by simp [small]; omega
        have m7:∀ S:Store,bop .mul (.int 7) (.int I) S = .ok (.int (7 * I)) S:=fun S=>bop_mul_l (by decide)
        obtain ⟨Z,hZ⟩:∃ Z,dD (plD (nm + 7 * I) I) = Z:=⟨_,rfl⟩
        have pe:callN T G 100 (n + 3) "_law_plain" [.int (nm + 7 * I),.int I] S = .ok Z S:=by rw [← hZ]; exact plain_is
        rw [hZ]
        simp -implicitDefEqProofs [turnC,v_cst,v_var,v_bin,v_call,v_c0,v_a0,v_a1,v_tvar,kVar,kBin,kCons,kArg,Res.bind_ok,Cn_call,inEn,hτ,m7,pe]
    have cm:=fun S=>cm [some (.int v6),some (.int nm),some (.int ah),some (.int wt),some (.int my),some (.int ph),some X,some (.loc S1.length),none] S rfl
    have ad1:bop .add (.loc S1.length) (.loc (S1.length + 1)) (S1 ++ [.lst [X],.lst ((List.range K.toNat).map fun (i:Nat)=>dD (plD (nm + 7 * i) i))]) = .ok (.loc (S1.length + 2)) (S1 ++ [.lst [X],.lst ((List.range K.toNat).map fun (i:Nat)=>dD (plD (nm + 7 * i) i)),.lst (X :: (List.range K.toNat).map fun (i:Nat)=>dD (plD (nm + 7 * i) i))]):=by
      rw [bop_add_lst app_get0 app_get1 (by simp [Line]; omega)]
      simp
    have tp:primD .tuple1 [.loc (S1.length + 2)] (S1 ++ [.lst [X],.lst ((List.range K.toNat).map fun (i:Nat)=>dD (plD (nm + 7 * i) i)),.lst (X :: (List.range K.toNat).map fun (i:Nat)=>dD (plD (nm + 7 * i) i))]) = .ok (.tup (X :: (List.range K.toNat).map fun (i:Nat)=>dD (plD (nm + 7 * i) i))) (S1 ++ [.lst [X],.lst ((List.range K.toNat).map fun (i:Nat)=>dD (plD (nm + 7 * i) i)),.lst (X :: (List.range K.toNat).map fun (i:Nat)=>dD (plD (nm + 7 * i) i))]):=prim_tuple_loc app_get2
    obtain ⟨Y,hY⟩:∃ Y,((List.range K.toNat).map fun (i:Nat)=>dD (plD (nm + 7 * i) i)) = Y:=⟨_,rfl⟩
    obtain ⟨R,hR⟩:∃ R,((List.range K.toNat).map fun (i:Nat)=>D.int i) = R:=⟨_,rfl⟩
    have cp:∀ S:Store,cop .eq (.int ph) (.int 1) S = some true:=fun S=>by rw [hp]; rfl
    rw [hY] at cm ad1 tp
    rw [hR] at cm rg
    simp -implicitDefEqProofs [f_law_block_by,v_cst,v_var,v_bin,v_tup,v_lst,v_call,v_prim,v_comp,w_cmp,v_a0,v_a1,v_rng,v_tvar,v_ttup,v_gs0,v_gs1,v_asg,v_ifs,v_ret,v_b0,v_b1,kVar,kBin,kTup,kLst,tCmp2,tCmp',kCons,kArg,kNx,kAsg,kIfs,kRet,kB,Res.bind_ok,finF,Cn_call,Line,pQ,d1,d2,d3,d4,d5,e1,cp,mK,aK,rg,cm,ad1,tp]
    refine ⟨⟨nm + 1,ah,wt + 1,d0,(List.range K.toNat).map fun (i:Nat)=>plD (nm + 7 * i) i⟩,?_,mkB _ (fun d hd=>?_) (by simp; omega),x1.more _⟩
    · rw [← hX,← hY]
      simp [blD]
    · obtain ⟨i,hi,rfl⟩:=List.mem_map.mp hd
      have hi:i < K.toNat:=List.mem_range.mp hi
      exact pl_ok (by omega) (by omega)
  · have cp:∀ S:Store,cop .eq (.int ph) (.int 1) S = some false:=fun S=>by
      show some (decide (ph = 1)) = some false
      rw [decide_eq_false hp]
    have rg:=fun S=>kRng_of (S:=S) (j:=my) (by omega) (by omega)
    have lp:=loop (C:=Cn T G 100 (n + 3)) (t:=.tvar 8) (b:=.cns (.asg (.ttup (.cns (.tvar 0) (.cns (.tvar 6) .nul))) (.call "_law_deed_by" (.cns (.var 0) (.cns (.cst (.bl false)) (.cns (.cst (.int 2)) .nul))))) (.cns (.exp (.meth .append (.var 7) (.cns (.var 6) .nul))) .nul)) (τ:=[some (.int v6),some (.int nm),some (.int ah),some (.int wt),some (.int my),some (.int ph),some X,some (.loc S1.length),none]) (S:=S1 ++ [.lst [X]]) (ds:=(List.range my.toNat).map fun (i:Nat)=>D.int i) (IBk (.int nm) (.int ah) (.int wt) (.int my) (.int ph) S1.length d0 S) noB noR ⟨_,_,_,[],rfl,x1.more _,by rw [new_get,← hX]; rfl,rfl,by simp⟩ (by
      rintro i d _ S2 hd ⟨z,u6,u8,ds,rfl,x2,h2,hlen,hok⟩
      have hi5:i < 5:=by
        have h1:=(List.getElem?_eq_some_iff.mp hd).1
        simp at h1
        omega
      obtain ⟨_,S3,e3,v7,e,rfl,ok3,_,nm3,x3⟩:=deed_by n z false S2
      have ap:=meth_append (d:=dD e) (x3.get h2) (line_lt (by simp; omega))
      have lt:=get_lt (x3.get h2)
      obtain ⟨E,hE⟩:∃ E,dD e = E:=⟨_,rfl⟩
      rw [hE] at e3 ap
      simp -implicitDefEqProofs [turnF,v_cst,v_var,v_call,v_meth,v_a0,v_a1,v_tvar,v_ttup,v_gs0,v_gs1,v_asg,v_exp,v_b0,v_b1,kVar,kMeth,kCons,kArg,kNx,kAsg,kExp,kB,Res.bind_ok,Cn_call,e3,rcv_loc (x3.get h2),ap]
      refine ⟨_,_,_,ds ++ [e],rfl,(x2.trans x3).set ?_ _,?_,by simp [hlen],fun y hy=>?_⟩
      · obtain ⟨Q,rfl⟩:=x1
        simp
      · rw [set_get (x3.get h2)]; simp [hE]
      · rcases List.mem_append.mp hy with hy | hy
        · exact hok y hy
        · rw [List.mem_singleton.mp hy]; exact ⟨ok3,nm3 rfl⟩)
    obtain ⟨fl,S2,e2,q⟩:=lp
    obtain ⟨_,rfl,z,u6,u8,ds,rfl,x2,h2,hlen,hok⟩:=q.nx
    simp at hlen
    have tp:primD .tuple1 [.loc S1.length] S2 = .ok (.tup ((d0 :: ds).map dD)) S2:=prim_tuple_loc h2
    obtain ⟨Y,hY⟩:∃ Y,(d0 :: ds).map dD = Y:=⟨_,rfl⟩
    obtain ⟨R,hR⟩:∃ R,((List.range my.toNat).map fun (i:Nat)=>D.int i) = R:=⟨_,rfl⟩
    rw [hY] at tp
    rw [hR] at e2 rg
    simp -implicitDefEqProofs [f_law_block_by,v_cst,v_var,v_bin,v_tup,v_lst,v_call,v_prim,w_cmp,v_a0,v_a1,v_rng,v_tvar,v_ttup,v_gs0,v_gs1,v_asg,v_ifs,v_ret,v_for,v_b0,v_b1,kVar,kBin,kTup,kLst,tCmp2,tCmp',kCons,kArg,kNx,kAsg,kIfs,kRet,kB,Res.bind_ok,finF,Cn_call,Line,pQ,d1,d2,d3,d4,d5,e1,cp,rg,e2,tp]
    exact ⟨⟨nm + 1,ah,wt + 1,d0,ds⟩,by rw [← hY]; rfl,mkB _ hok (by omega),x2⟩
end
end K64
namespace K64
open PySem L2 Mi Tx
section
variable {n:Nat} {S:Store}
theorem alike_str {x:PySem.Str}:callN T G 100 (n + 1) "_law_alike" [.str x,.str x] S = .ok (.bl true) S:=by
  rw [callN_eq T_f_law_alike rfl]
  simp [f_law_alike,v_var,v_bo,v_cmp,v_isi,w_isi,v_bv1,v_bv2,v_ifs,v_ret,v_b0,v_b1,kVar,kCmp2,kCmp,kIsi,tIsi,kBV,kIfs,kRet,kB,Res.bind_ok,finF,tyD,isiD]
theorem alike_int {z:Int}:callN T G 100 (n + 1) "_law_alike" [.int z,.int z] S = .ok (.bl true) S:=by
  rw [callN_eq T_f_law_alike rfl]
  simp [f_law_alike,v_var,v_nott,v_bo,v_cmp,v_isi,w_isi,v_bv1,v_bv2,v_ifs,v_ret,v_b0,v_b1,kVar,kNot,kCmp2,kCmp,kIsi,tIsi,kBV,kIfs,kRet,kB,Res.bind_ok,finF,tyD,isiD]
theorem zip_self (ds:List D):(ds.zip ds).map (fun p=>D.tup [p.1,p.2]) = ds.map fun d=>D.tup [d,d]:=by
  induction ds with
  | nil=>rfl
  | cons d ds ih=>simp only [List.zip_cons_cons,List.map_cons,ih]
theorem comp_alike {τ:En} {ds:List D} {m:Nat} (hl:ds.length ≤ 1000) (h:∀ d ∈ ds,∀ S:Store,Sat (callN T G 100 m "_law_alike" [d,d] S) (fun r S'=>r = .bl true∧Ext S S')) :
    Sat (kComp (Cn T G 100 m) 2 [] (.ttup (.cns (.tvar 0) (.cns (.tvar 1) .nul))) .nul (.call "_law_alike" (.cns (.var 0) (.cns (.var 1) .nul))) τ (none,ds.map fun d=>D.tup [d,d]) S) (fun d S'=>∃ S1,d = .loc S1.length∧S' = S1 ++ [.lst (ds.map fun _=>D.bl true)]∧Ext S S1):=by
  refine (kCompN (IMp (fun _=>D.bl true) ds S) (by rw [List.length_map]; omega) ⟨by simp,by omega,.refl _⟩ (fun _ _ _=>imp_len) fun i d acc S1 hd hI=>?_).mono fun d S' q=>?_
  · rw [List.getElem?_map] at hd
    obtain ⟨x,hx,rfl⟩:=Option.map_eq_some_iff.mp hd
    obtain ⟨_,S2,e2,rfl,x2⟩:=h x (List.mem_of_getElem? hx) S1
    simp [turnC,v_var,v_call,v_c0,v_a0,v_a1,v_tvar,v_ttup,v_gs0,v_gs1,kVar,kCons,kArg,Res.bind_ok,Cn_call,inEn,e2]
    exact imp_step hI hx x2
  · obtain ⟨ys,S1,rfl,rfl,e,_,x1⟩:=q
    refine ⟨S1,rfl,?_,x1⟩
    rw [e,List.length_map,List.take_length]
theorem alike_tup {ds:List D} {m:Nat} (hl:ds.length ≤ 1000) (h:∀ d ∈ ds,∀ S:Store,Sat (callN T G 100 m "_law_alike" [d,d] S) (fun r S'=>r = .bl true∧Ext S S')):Sat (callN T G 100 (m + 1) "_law_alike" [.tup ds,.tup ds] S) (fun r S'=>r = .bl true∧Ext S S'):=by
  obtain ⟨_,_,e1,S1,rfl,rfl,x1⟩:=comp_alike (S:=S) (τ:=[some (.tup ds),some (.tup ds)]) hl h
  rw [← zip_self] at e1
  have al:primD .all1 [.loc S1.length] (S1 ++ [Mi.Obj.lst (ds.map fun _=>D.bl true)]) = .ok (.bl true) (S1 ++ [Mi.Obj.lst (ds.map fun _=>D.bl true)]):=by
    rw [rprimD_10]
    simp only [seqOf,seqAt_of new_get]
    have:=allB_map (fun _:D=>true) ds
    rw [this]
    simp
  obtain ⟨Z,hZ⟩:∃ Z:Int,((ds.length:Nat):Int) = Z:=⟨_,rfl⟩
  have ln:primD .len [.tup ds] S = .ok (.int Z) S:=by rw [prim_len_tup,hZ]
  rw [callN_eq T_f_law_alike rfl]
  simp -implicitDefEqProofs [f_law_alike,v_var,v_prim,v_comp,v_zp,kZp,kZp2,w_nott,w_bo,w_cmp,w_isi,v_bt1,v_bt2,v_a0,v_a1,v_ifs,v_ret,v_b0,v_b1,kVar,tNotB,tCmp2,tCmp',tIsi,kBT,kCons,kArg,kIfs,kRet,kB,Res.bind_ok,finF,tyD,isiD,ln,e1,al]
  exact x1.more _
noncomputable def Al:Nat→D→Prop
  | _,.str _=>True
  | _,.int _=>True
  | k + 1,.tup ds=>ds.length ≤ 1000∧∀ d ∈ ds,Al k d
  | _,_=>False
theorem al_ok:∀ (k n:Nat) (d:D) (S:Store),Al k d→Sat (callN T G 100 (n + k + 1) "_law_alike" [d,d] S) (fun r S'=>r = .bl true∧Ext S S')
  | 0,n,d,S,h=>by
    cases d<;>try (exact False.elim h)
    · exact ⟨_,_,alike_int,rfl,.refl _⟩
    · exact ⟨_,_,alike_str,rfl,.refl _⟩
  | k + 1,n,d,S,h=>by
    cases d<;>try (exact False.elim h)
    · exact ⟨_,_,alike_int,rfl,.refl _⟩
    · exact ⟨_,_,alike_str,rfl,.refl _⟩
    · exact alike_tup (m:=n + k + 1) h.1 fun d hd S=>al_ok k n d S (h.2 d hd)
theorem al_ints (k:Nat) (ks:List Int) (h:ks.length ≤ 1000):Al (k + 1) (.tup (ks.map D.int)):=⟨by rw [List.length_map]; exact h,fun d hd=>by
  obtain ⟨z,_,rfl⟩:=List.mem_map.mp hd
  cases k<;>trivial⟩
theorem al_row {r:Rw} (h:Rok r):Al 1 (rD r):=by
  refine ⟨?_,fun d hd=>?_⟩
  · rcases rok_k h with e | ⟨z,e,_⟩<;>rw [e]<;>simp
  · rcases List.mem_cons.mp hd with rfl | hd
    · trivial
    · obtain ⟨z,_,rfl⟩:=List.mem_map.mp hd
      trivial
theorem al_deed {d:De} (h:DOk d):Al 5 (dD d):=by
  obtain ⟨_,_,il,ik,_,ol,ok⟩:=h
  refine ⟨by simp,fun e he=>?_⟩
  simp only [List.mem_cons,List.not_mem_nil,or_false] at he
  rcases he with rfl | rfl | rfl
  · trivial
  · refine ⟨by rw [List.length_map]; omega,fun e he=>?_⟩
    obtain ⟨i,hi,rfl⟩:=List.mem_map.mp he
    refine ⟨by simp,fun e he=>?_⟩
    simp only [List.mem_cons,List.not_mem_nil,or_false] at he
    rcases he with rfl | rfl
    · exact al_ints 1 [i.a,i.b] (by simp)
    · exact al_ints 1 i.ks (by have:=(ik i hi).2.2.2.2.1; omega)
  · refine ⟨by rw [List.length_map]; omega,fun e he=>?_⟩
    obtain ⟨o,ho,rfl⟩:=List.mem_map.mp he
    refine ⟨by simp,fun e he=>?_⟩
    simp only [List.mem_cons,List.not_mem_nil,or_false] at he
    rcases he with rfl | rfl
    · trivial
    · refine ⟨by rw [List.length_map]; have:=(ok o ho).2.2.2.1; omega,fun e he=>?_⟩
      obtain ⟨r,hr,rfl⟩:=List.mem_map.mp he
      exact al_row ((ok o ho).2.2.2.2 r hr)
theorem al_block {b:Bl} (h:BOk b):Al 7 (blD b):=by
  refine ⟨by simp,fun e he=>?_⟩
  simp only [List.mem_cons,List.not_mem_nil,or_false] at he
  rcases he with rfl | rfl | rfl | rfl
  · trivial
  · trivial
  · trivial
  · refine ⟨by rw [List.length_map,List.length_cons]; have:=h.len; omega,fun e he=>?_⟩
    obtain ⟨d,hd,rfl⟩:=List.mem_map.mp he
    exact al_deed (all_ok h d hd)
noncomputable def lawB:M:=match f_law.body with
  | .cns (.forr _ _ b) _=>b
  | _=>.nul
noncomputable def dueB:M:=match lawB with
  | .cns _ (.cns _ (.cns (.forr _ _ b) _))=>b
  | _=>.nul
noncomputable def bS (ds:List De):List Nat:=(ds.map fun d=>[32,124,32] ++ sg (dT d)).flatten
theorem bS_snoc {ds:List De} {i:Nat} {x:De} (h:ds[i]? = some x):bS (ds.take (i + 1)) = bS (ds.take i) ++ ([32,124,32] ++ sg (dT x)):=by
  unfold bS
  rw [List.take_add_one,h]
  simp
noncomputable def IDu (b:Bl) (c0 c1 u5:Option D) (S0:Store) (i:Nat) (τ:En) (S:Store):Prop:=∃ (x:PySem.Str) (u4:Option D),τ = [c0,c1,some (blD b),some (.str x),u4,u5]∧Ext S0 S∧sg x = sg (plT b) ++ bS ((b.hd :: b.tl).take i)∧(sg x).length ≤ 300 + 20003 * i
theorem due_ok {b:Bl} {c0 c1 u4 u5:Option D} {x:PySem.Str} (h:BOk b) (hx:sg x = sg (plT b)):Sat (kFor (Cn T G 100 29) (.tvar 4) dueB [c0,c1,some (blD b),some (.str x),u4,u5] (none,(b.hd :: b.tl).map dD) S) (fun fl S'=>∃ u4,fl = .nx [c0,c1,some (blD b),some (.str (bT b)),u4,u5]∧Ext S S'):=by
  have hl:=h.len
  refine (loop (IDu b c0 c1 u5 S) noB noR ⟨x,u4,rfl,.refl _,by rw [hx]; simp [bS],by rw [hx]; have:=pl_len h; omega⟩ ?_).mono fun fl S' q=>?_
  · rintro i d _ S1 hd ⟨y,u,rfl,x1,hy,yl⟩
    rw [List.getElem?_map] at hd
    obtain ⟨e,he,rfl⟩:=Option.map_eq_some_iff.mp hd
    have hi:=(List.getElem?_eq_some_iff.mp he).1
    rw [List.length_cons] at hi
    have ok:=all_ok h e (List.mem_of_getElem? he)
    have le:=d_len ok
    obtain ⟨_,S2,e2,rfl,x2⟩:=deed_text_ok (n:=26) (S:=S1) ok
    have q1:=ad (a:=y) (b:=Str.ofString " | ") (by omega) (by rw [si]; decide)
    have q2:=ad (a:=y ++ Str.ofString " | ") (b:=dT e) (by rw [sg_app,List.length_append,si]; simp; omega) (by omega)
    obtain ⟨E,hE⟩:∃ E,dD e = E:=⟨_,rfl⟩
    rw [hE] at e2 ⊢
    simp -implicitDefEqProofs [turnF,dueB,lawB,f_law,v_cst,v_var,v_bin,v_call,v_a0,v_a1,v_tvar,v_asg,v_b0,v_b1,kVar,kBin,kCons,kArg,kNx,kAsg,kB,Res.bind_ok,Cn_call,q1,e2,q2]
    refine ⟨_,_,rfl,x1.trans x2,?_,?_⟩
    · rw [bS_snoc he,sg_app,sg_app,hy,si]
      simp
    · rw [sg_app,sg_app,List.length_append,List.length_append,si]
      simp
      omega
  · obtain ⟨_,rfl,y,u,rfl,x1,hy,yl⟩:=q.nx
    have e:y = bT b:=sg_inj (by
      rw [hy,List.length_map,List.take_length]
      unfold bT
      rw [sg_join,List.map_cons,joinL_flat,si,List.map_map,List.map_map]
      rfl)
    rw [e]
    exact ⟨u,rfl,x1⟩
noncomputable def PTurn (c0:Option D) (S:Store) (fl:Fl) (S':Store):Prop:=(∃ v1 v2 v3 v4 v5,fl = .nx [c0,v1,v2,v3,v4,v5])∧Ext S S'
theorem pl_is {b:Bl} (h:BOk b):sg (nt b.num ++ Str.ofString " on " ++ nt b.ah ++ Str.ofString " weight " ++ nt b.wt) = sg (plT b):=by
  have e1:sg (Str.ofString "on") = [111,110]:=by decide
  have e2:sg (Str.ofString "weight") = [119,101,105,103,104,116]:=by decide
  have e3:sg (Str.ofString " on ") = [32,111,110,32]:=by decide
  have e4:sg (Str.ofString " weight ") = [32,119,101,105,103,104,116,32]:=by decide
  unfold plT
  rw [sg_join]
  simp only [List.map_cons,List.map_nil,joinL,sb,e1,e2,sg_app,e3,e4]
  simp
theorem turn_ok {c:Int} {c0 u1 u2 u3 u4 u5:Option D}:Sat (turnF (Cn T G 100 29) (.tvar 1) lawB (.int c) [c0,u1,u2,u3,u4,u5] S) (PTurn c0 S):=by
  obtain ⟨_,S1,e1,⟨v,rfl⟩,x1⟩:=large_ok 27 c S
  obtain ⟨A,hA⟩:∃ A:Int,(if v < 0 then -v else v) = A:=⟨_,rfl⟩
  have A0:0 ≤ A:=by rw [← hA]; split<;>omega
  have ab:∀ S:Store,primD .abs [.int v] S = .ok (.int A) S:=fun S=>by rw [rprimD_1,hA]
  obtain ⟨_,S2,e2,b,rfl,hb,x2⟩:=block_by (n:=25) (S:=S1) A A0
  have s1:=small_b (by have:=hb.n0; omega) hb.n1
  have s2:=small_b hb.a0 hb.a1
  have s3:=small_b (by have:=hb.w0; omega) hb.w1
  have k1:=(num_of s1).2.1
  have k2:=(num_of s2).2.1
  have k3:=(num_of s3).2.1
  have f3:sg (Str.ofString " on ") = [32,111,110,32]:=by decide
  have f4:sg (Str.ofString " weight ") = [32,119,101,105,103,104,116,32]:=by decide
  have q1:=ad (a:=nt b.num) (b:=Str.ofString " on ") (by omega) (by rw [f3]; decide)
  have q2:=ad (a:=nt b.num ++ Str.ofString " on ") (b:=nt b.ah) (by rw [sg_app,List.length_append,f3]; simp; omega) (by omega)
  have q3:=ad (a:=nt b.num ++ Str.ofString " on " ++ nt b.ah) (b:=Str.ofString " weight ") (by rw [sg_app,sg_app,List.length_append,List.length_append,f3]; simp; omega) (by rw [f4]; decide)
  have q4:=ad (a:=nt b.num ++ Str.ofString " on " ++ nt b.ah ++ Str.ofString " weight ") (b:=nt b.wt) (by rw [sg_app,sg_app,sg_app,List.length_append,List.length_append,List.length_append,f3,f4]; simp; omega) (by omega)
  obtain ⟨_,S3,e3,u4',rfl,x3⟩:=due_ok (S:=S2) (c0:=c0) (c1:=some (.int c)) (u4:=u4) (u5:=u5) hb (pl_is hb)
  obtain ⟨_,S4,e4,rfl,x4⟩:=shown_block_ok (n:=24) (S:=S3) hb
  obtain ⟨_,S5,e5,rfl,x5⟩:=read_block_ok (n:=18) (S:=S4) hb
  obtain ⟨_,S6,e6,rfl,x6⟩:=al_ok 7 21 (blD b) S5 (al_block hb)
  obtain ⟨Y,hY⟩:∃ Y,(b.hd :: b.tl).map dD = Y:=⟨_,rfl⟩
  have rd:blD b = .tup [.int b.num,.int b.ah,.int b.wt,.tup Y]:=by unfold blD; rw [hY]
  rw [hY] at e3
  have i0:∀ S:Store,kIdx2 (blD b) (.int 0) S = .ok (.int b.num) S:=fun S=>by rw [rd]; exact kIdx2_t0
  have i1:∀ S:Store,kIdx2 (blD b) (.int 1) S = .ok (.int b.ah) S:=fun S=>by rw [rd]; exact kIdx2_t1
  have i2:∀ S:Store,kIdx2 (blD b) (.int 2) S = .ok (.int b.wt) S:=fun S=>by rw [rd]; exact kIdx2_t2
  have i3:∀ S:Store,kIdx2 (blD b) (.int 3) S = .ok (.tup Y) S:=fun S=>by rw [rd]; exact kIdx2_t3
  have hL:lawB = .cns (headS lawB) (.cns (headS (dropS 1 lawB)) (.cns (.forr (.tvar 4) (.cns (.idx (.var 2) (.cst (.int 3))) .nul) dueB) (dropS 3 lawB))):=rfl
  rw [hL]
  generalize dueB = body at e3
  obtain ⟨X,hX⟩:∃ X,blD b = X:=⟨_,rfl⟩
  rw [hX] at e2 e3 e4 e5 e6 i0 i1 i2 i3
  simp -implicitDefEqProofs [turnF,headS,dropS,lawB,f_law,v_cst,v_var,v_bin,v_idx,v_call,v_prim,w_nott,w_bo,w_cmp,w_call,w_isi,v_bt1,v_bt2,v_a0,v_a1,v_seq,v_tvar,v_asg,v_ifs,v_for,v_b0,v_b1,kVar,kBin,kIdx,kTru,tNotB,tCmp2,tCmp',tCal,tIsi,kBT,kCons,kArg,kSeq,kNx,kAsg,kIfs,kB,Res.bind_ok,Cn_call,e1,ab,e2,i0,str_int s1,q1,i1,str_int s2,q2,q3,i2,str_int s3,q4,i3,e3,e4,tyD,isiD,e5,e6]
  exact ⟨⟨_,_,_,_,_,rfl⟩,x1.trans (x2.trans (x3.trans (x4.trans (x5.trans x6))))⟩
end
noncomputable def ILw (c0:Option D) (l:Nat) (ds:List D) (i:Nat) (τ:En) (S:Store):Prop:=(∃ v1 v2 v3 v4 v5,τ = [c0,v1,v2,v3,v4,v5])∧S[l]? = some (.lst ds)
theorem run (ns:List Int) (hn:ns.length ≤ 63):∃ S',callN T G 100 30 "law" [.kl (ns.map D.int)] [] = .ok (.bl true) S':=by
  have main:Sat (callN T G 100 30 "law" [.kl (ns.map D.int)] []) (fun d _=>d = .bl true):=by
    rw [callN_eq (n:=29) T_f_law rfl]
    obtain ⟨ms,hms⟩:∃ ms,cutI ns none (some 5) = ms:=⟨_,rfl⟩
    have ml:ms.length ≤ 63:=by rw [← hms]; exact Nat.le_trans (cutI_len _ _ _) hn
    have sl:∀ S:Store,sliD (.kl (ns.map D.int)) none (some 5) S = .ok (.loc S.length) (S ++ [.lst (ms.map D.int)]):=fun S=>by rw [sliD_ints,hms]
    have cat:bop .add (.loc 0) (.loc 1) [Mi.Obj.lst [.int 0],.lst (ms.map D.int)] = .ok (.loc 2) [Mi.Obj.lst [.int 0],.lst (ms.map D.int),.lst ((0 :: ms).map D.int)]:=by
      rw [bop_add_lst (ds:=[.int 0]) (es:=ms.map D.int) rfl rfl (by simp [Line]; omega)]
      rfl
    have lp:=loopS (C:=Cn T G 100 29) (t:=.tvar 1) (b:=lawB) (τ:=[some (.kl (ns.map D.int)),none,none,none,none,none]) (S:=[Mi.Obj.lst [.int 0],.lst (ms.map D.int),.lst ((0 :: ms).map D.int)]) (l:=2) (ds:=(0 :: ms).map D.int) (ILw (some (.kl (ns.map D.int))) 2 ((0 :: ms).map D.int)) noB noR ⟨⟨_,_,_,_,_,rfl⟩,rfl⟩ (fun i τ S h=>h.2) (by
      rintro i d τ S hd ⟨⟨v1,v2,v3,v4,v5,rfl⟩,hS⟩
      rw [List.getElem?_map] at hd
      obtain ⟨c,_,rfl⟩:=Option.map_eq_some_iff.mp hd
      refine turn_ok.mono fun fl S' q=>?_
      obtain ⟨⟨w1,w2,w3,w4,w5,rfl⟩,k⟩:=q
      exact ⟨⟨_,_,_,_,_,rfl⟩,k.get hS⟩)
    obtain ⟨fl,S1,e1,h1⟩:=lp
    obtain ⟨τ1,rfl,⟨v1,v2,v3,v4,v5,rfl⟩,_⟩:=h1.nx
    have hb:f_law.body = .cns (.forr (.tvar 1) (.cns (.bin .add (.lst (.cns (.cst (.int 0)) .nul)) (.sli (.var 0) .nul (.cns (.cst (.int 5)) .nul))) .nul) lawB) (.cns (.ret (.cst (.bl true))) .nul):=rfl
    rw [hb]
    generalize lawB = body at e1
    have hN:f_law.N.length = 6:=rfl
    simp only [List.map_cons] at cat e1
    simp -implicitDefEqProofs [hN,v_cst,v_var,v_bin,v_lst,v_sli,v_a0,v_a1,v_o0,v_o1,v_seq,v_ret,v_for,v_b1,kVar,kBin,kLst,kSli2,kSli,kCons,kArg,kOpt,kSeq,kRet,kB,Res.bind_ok,finF,Line,sl,cat,seqAt,e1]
  obtain ⟨d,S',e,rfl⟩:=main
  exact ⟨S',e⟩
end K64
namespace K64
open PySem L2 Mi
theorem ite_some {p:Prop} [Decidable p] {α:Type} {a d:α} {b:Option α} (h:(if p then some a else b) = some d):(p∧a = d) ∨ b = some d:=by by_cases e:p<;>simp_all
noncomputable def top (i:Nat):Stmt:=PySem.Challenge.pw_spentonce_k64_blocks.main.body.getD i (.Pass ⟨0,0,0,0⟩)
noncomputable def B:List String:=["isinstance","int","bool","tuple","len","all","abs","str","any","range","divmod","zip"]
noncomputable def F:List String:=["is_whole","is_within","is_tuple","is_lock","are_keys","is_short","is_row","ifs_fit","is_maker","is_deed","are_ins","is_in","is_coin","are_outs","is_out","checked_block","is_block","are_deeds","shown_coin","shown_lock","shown_row","shown_deed","shown_in","shown_out","shown_block","read_number","read_coin","read_block","checked_text","is_number","is_made_of","formed_lock","formed_row","formed_deed","formed_in","formed_out","formed_block","_law_mixed","_law_large","_law_row_by","_law_lock_by","_law_in_by","_law_deed_by","_law_numbers_text","_law_lock_text","_law_deed_text","_law_alike","_law_plain","_law_block_by","law"]
noncomputable def O:Ow:=⟨[],[],[]⟩
noncomputable def Fk (f:Fn) (i:Nat):Prop:=(defScope (top i)).kind = .function∧(defScope (top i)).isCoroutine = false∧(defScope (top i)).isGenerator = false∧(f.N.map Str.ofString).Nodup∧(f.N.map Str.ofString).take (f.ps.map Str.ofString).length = f.ps.map Str.ofString∧(∀ x ∈ f.ps.map Str.ofString,(defScope (top i)).names.lookup x = some .local ∨ (defScope (top i)).names.lookup x = some .cell)∧(∀ y ∈ (defScope (top i)).names,y.2 ≠ .free)∧chkB f.body ⟨f.N.map Str.ofString,(defScope (top i)).names,true,B,F,O⟩ (defBody (top i)) = true
theorem Fk.sc {f:Fn} {i:Nat} (k:Fk f i):FnScope (f.N.map Str.ofString) (f.ps.map Str.ofString) (defScope (top i)):=⟨k.1,k.2.1,k.2.2.1,k.2.2.2.1,k.2.2.2.2.1,k.2.2.2.2.2.1,k.2.2.2.2.2.2.1⟩
theorem Fk.ck {f:Fn} {i:Nat} (k:Fk f i):chkB f.body ⟨f.N.map Str.ofString,(defScope (top i)).names,true,B,F,O⟩ (defBody (top i)) = true:=k.2.2.2.2.2.2.2
noncomputable abbrev Fe (K:PySem.W.Frag) (x:String) (i:Nat):Prop:=FE K (Str.ofString x) (top i)
noncomputable abbrev Be (K:PySem.W.Frag) (x:String):Prop:=PySem.W.nsIn K mainGlobals (Str.ofString x) = some none
theorem k_0:Fk f_is_whole 5:=⟨rfl,rfl,rfl,by decide +kernel⟩
theorem k_1:Fk f_is_within 6:=⟨rfl,rfl,rfl,by decide +kernel⟩
theorem k_2:Fk f_is_tuple 7:=⟨rfl,rfl,rfl,by decide +kernel⟩
theorem k_3:Fk f_is_lock 15:=⟨rfl,rfl,rfl,by decide +kernel⟩
theorem k_4:Fk f_are_keys 16:=⟨rfl,rfl,rfl,by decide +kernel⟩
theorem k_5:Fk f_is_short 17:=⟨rfl,rfl,rfl,by decide +kernel⟩
theorem k_6:Fk f_is_row 18:=⟨rfl,rfl,rfl,by decide +kernel⟩
theorem k_7:Fk f_ifs_fit 19:=⟨rfl,rfl,rfl,by decide +kernel⟩
theorem k_8:Fk f_is_maker 23:=⟨rfl,rfl,rfl,by decide +kernel⟩
theorem k_9:Fk f_is_deed 24:=⟨rfl,rfl,rfl,by decide +kernel⟩
theorem k_10:Fk f_are_ins 25:=⟨rfl,rfl,rfl,by decide +kernel⟩
theorem k_11:Fk f_is_in 26:=⟨rfl,rfl,rfl,by decide +kernel⟩
theorem k_12:Fk f_is_coin 27:=⟨rfl,rfl,rfl,by decide +kernel⟩
theorem k_13:Fk f_are_outs 28:=⟨rfl,rfl,rfl,by decide +kernel⟩
theorem k_14:Fk f_is_out 29:=⟨rfl,rfl,rfl,by decide +kernel⟩
theorem k_15:Fk f_checked_block 32:=⟨rfl,rfl,rfl,by decide +kernel⟩
theorem k_16:Fk f_is_block 33:=⟨rfl,rfl,rfl,by decide +kernel⟩
theorem k_17:Fk f_are_deeds 34:=⟨rfl,rfl,rfl,by decide +kernel⟩
theorem k_18:Fk f_shown_coin 37:=⟨rfl,rfl,rfl,by decide +kernel⟩
theorem k_19:Fk f_shown_lock 38:=⟨rfl,rfl,rfl,by decide +kernel⟩
theorem k_20:Fk f_shown_row 39:=⟨rfl,rfl,rfl,by decide +kernel⟩
theorem k_21:Fk f_shown_deed 40:=⟨rfl,rfl,rfl,by decide +kernel⟩
theorem k_22:Fk f_shown_in 41:=⟨rfl,rfl,rfl,by decide +kernel⟩
theorem k_23:Fk f_shown_out 42:=⟨rfl,rfl,rfl,by decide +kernel⟩
theorem k_24:Fk f_shown_block 43:=⟨rfl,rfl,rfl,by decide +kernel⟩
theorem k_25:Fk f_read_number 48:=⟨rfl,rfl,rfl,by decide +kernel⟩
theorem k_26:Fk f_read_coin 49:=⟨rfl,rfl,rfl,by decide +kernel⟩
theorem k_27:Fk f_read_block 50:=⟨rfl,rfl,rfl,by decide +kernel⟩
theorem k_28:Fk f_checked_text 51:=⟨rfl,rfl,rfl,by decide +kernel⟩
theorem k_29:Fk f_is_number 52:=⟨rfl,rfl,rfl,by decide +kernel⟩
theorem k_30:Fk f_is_made_of 53:=⟨rfl,rfl,rfl,by decide +kernel⟩
theorem k_31:Fk f_formed_lock 54:=⟨rfl,rfl,rfl,by decide +kernel⟩
theorem k_32:Fk f_formed_row 55:=⟨rfl,rfl,rfl,by decide +kernel⟩
theorem k_33:Fk f_formed_deed 56:=⟨rfl,rfl,rfl,by decide +kernel⟩
theorem k_34:Fk f_formed_in 57:=⟨rfl,rfl,rfl,by decide +kernel⟩
theorem k_35:Fk f_formed_out 58:=⟨rfl,rfl,rfl,by decide +kernel⟩
theorem k_36:Fk f_formed_block 59:=⟨rfl,rfl,rfl,by decide +kernel⟩
theorem k_37:Fk f_law_mixed 61:=⟨rfl,rfl,rfl,by decide +kernel⟩
theorem k_38:Fk f_law_large 62:=⟨rfl,rfl,rfl,by decide +kernel⟩
theorem k_39:Fk f_law_row_by 63:=⟨rfl,rfl,rfl,by decide +kernel⟩
theorem k_40:Fk f_law_lock_by 64:=⟨rfl,rfl,rfl,by decide +kernel⟩
theorem k_41:Fk f_law_in_by 65:=⟨rfl,rfl,rfl,by decide +kernel⟩
theorem k_42:Fk f_law_deed_by 66:=⟨rfl,rfl,rfl,by decide +kernel⟩
theorem k_43:Fk f_law_numbers_text 67:=⟨rfl,rfl,rfl,by decide +kernel⟩
theorem k_44:Fk f_law_lock_text 68:=⟨rfl,rfl,rfl,by decide +kernel⟩
theorem k_45:Fk f_law_deed_text 69:=⟨rfl,rfl,rfl,by decide +kernel⟩
theorem k_46:Fk f_law_alike 70:=⟨rfl,rfl,rfl,by decide +kernel⟩
theorem k_47:Fk f_law_plain 71:=⟨rfl,rfl,rfl,by decide +kernel⟩
theorem k_48:Fk f_law_block_by 72:=⟨rfl,rfl,rfl,by decide +kernel⟩
theorem k_49:Fk f_law 73:=⟨rfl,rfl,rfl,by decide +kernel⟩
theorem txt {K:PySem.W.Frag} {mg:Str→Option Value} {h:Heap} {t0:Tok} {t1:Tok} {t4:Tok} {t5:Tok} {t6:Tok} {t7:Tok} {t8:Tok} {t10:Tok} (KX:K.In h) (hG:h.Ns mainGlobals mg) (f0:Fe K "is_whole" 5) (f1:Fe K "is_within" 6) (f2:Fe K "is_tuple" 7) (f3:Fe K "is_lock" 15) (f4:Fe K "are_keys" 16) (f5:Fe K "is_short" 17) (f6:Fe K "is_row" 18) (f7:Fe K "ifs_fit" 19) (f8:Fe K "is_maker" 23) (f9:Fe K "is_deed" 24) (f10:Fe K "are_ins" 25) (f11:Fe K "is_in" 26) (f12:Fe K "is_coin" 27) (f13:Fe K "are_outs" 28) (f14:Fe K "is_out" 29) (f15:Fe K "checked_block" 32) (f16:Fe K "is_block" 33) (f17:Fe K "are_deeds" 34) (f18:Fe K "shown_coin" 37) (f19:Fe K "shown_lock" 38) (f20:Fe K "shown_row" 39) (f21:Fe K "shown_deed" 40) (f22:Fe K "shown_in" 41) (f23:Fe K "shown_out" 42) (f24:Fe K "shown_block" 43) (f25:Fe K "read_number" 48) (f26:Fe K "read_coin" 49) (f27:Fe K "read_block" 50) (f28:Fe K "checked_text" 51) (f29:Fe K "is_number" 52) (f30:Fe K "is_made_of" 53) (f31:Fe K "formed_lock" 54) (f32:Fe K "formed_row" 55) (f33:Fe K "formed_deed" 56) (f34:Fe K "formed_in" 57) (f35:Fe K "formed_out" 58) (f36:Fe K "formed_block" 59) (f37:Fe K "_law_mixed" 61) (f38:Fe K "_law_large" 62) (f39:Fe K "_law_row_by" 63) (f40:Fe K "_law_lock_by" 64) (f41:Fe K "_law_in_by" 65) (f42:Fe K "_law_deed_by" 66) (f43:Fe K "_law_numbers_text" 67) (f44:Fe K "_law_lock_text" 68) (f45:Fe K "_law_deed_text" 69) (f46:Fe K "_law_alike" 70) (f47:Fe K "_law_plain" 71) (f48:Fe K "_law_block_by" 72) (f49:Fe K "law" 73) (b0:Be K "isinstance") (b1:Be K "int") (b2:Be K "bool") (b3:Be K "tuple") (b4:Be K "len") (b5:Be K "all") (b6:Be K "abs") (b7:Be K "str") (b8:Be K "any") (b9:Be K "range") (b10:Be K "divmod") (b11:Be K "zip") (g0:PySem.W.nsIn K mainGlobals (Str.ofString "MOST_ROWS") = some (some (.int 30 t0))) (g1:PySem.W.nsIn K mainGlobals (Str.ofString "MOST_KEYS") = some (some (.int 10 t1))) (g2:GV K (Str.ofString "LONE_WORDS") (.tup [.str "drop",.str "swap",.str "add",.str "sub",.str "mul",.str "less",.str "same",.str "not",.str "need",.str "height",.str "age",.str "worth",.str "ins",.str "outs",.str "if",.str "else",.str "end"])) (g3:GV K (Str.ofString "PLACE_WORDS") (.tup [.str "copy",.str "paid"])) (g4:PySem.W.nsIn K mainGlobals (Str.ofString "LAST_PLACE") = some (some (.int 9 t4))) (g5:PySem.W.nsIn K mainGlobals (Str.ofString "MOST_IFS_WITHIN") = some (some (.int 5 t5))) (g6:PySem.W.nsIn K mainGlobals (Str.ofString "MOST_INS") = some (some (.int 8 t6))) (g7:PySem.W.nsIn K mainGlobals (Str.ofString "MOST_OUTS") = some (some (.int 8 t7))) (g8:PySem.W.nsIn K mainGlobals (Str.ofString "MOST_DEEDS") = some (some (.int 12 t8))) (g9:GV K (Str.ofString "EMPTY_LOCK") (.str "-")) (g10:PySem.W.nsIn K mainGlobals (Str.ofString "MOST_FIGURES") = some (some (.int 60 t10))) (g11:GV K (Str.ofString "FIGURES") (.str "0123456789")) (g12:GV K (Str.ofString "SMALL_LETTERS") (.str "abcdefghijklmnopqrstuvwxyz")):Txt K mg T G B F O where
  fns:=by
    intro f hf
    simp only [F,List.mem_cons,List.not_mem_nil,or_false] at hf
    rcases hf with rfl | rfl | rfl | rfl | rfl | rfl | rfl | rfl | rfl | rfl | rfl | rfl | rfl | rfl | rfl | rfl | rfl | rfl | rfl | rfl | rfl | rfl | rfl | rfl | rfl | rfl | rfl | rfl | rfl | rfl | rfl | rfl | rfl | rfl | rfl | rfl | rfl | rfl | rfl | rfl | rfl | rfl | rfl | rfl | rfl | rfl | rfl | rfl | rfl | rfl
    · exact fnf_of KX hG f0 T_f_is_whole k_0.sc k_0.ck fun _ _ _ _ _ _=>len1 fun _=>rfl
    · exact fnf_of KX hG f1 T_f_is_within k_1.sc k_1.ck fun _ _ _ _ _ _=>len3 fun _ _ _=>rfl
    · exact fnf_of KX hG f2 T_f_is_tuple k_2.sc k_2.ck fun _ _ _ _ _ _=>len3 fun _ _ _=>rfl
    · exact fnf_of KX hG f3 T_f_is_lock k_3.sc k_3.ck fun _ _ _ _ _ _=>len1 fun _=>rfl
    · exact fnf_of KX hG f4 T_f_are_keys k_4.sc k_4.ck fun _ _ _ _ _ _=>len1 fun _=>rfl
    · exact fnf_of KX hG f5 T_f_is_short k_5.sc k_5.ck fun _ _ _ _ _ _=>len1 fun _=>rfl
    · exact fnf_of KX hG f6 T_f_is_row k_6.sc k_6.ck fun _ _ _ _ _ _=>len1 fun _=>rfl
    · exact fnf_of KX hG f7 T_f_ifs_fit k_7.sc k_7.ck fun _ _ _ _ _ _=>len1 fun _=>rfl
    · exact fnf_of KX hG f8 T_f_is_maker k_8.sc k_8.ck fun _ _ _ _ _ _=>len1 fun _=>rfl
    · exact fnf_of KX hG f9 T_f_is_deed k_9.sc k_9.ck fun _ _ _ _ _ _=>len1 fun _=>rfl
    · exact fnf_of KX hG f10 T_f_are_ins k_10.sc k_10.ck fun _ _ _ _ _ _=>len1 fun _=>rfl
    · exact fnf_of KX hG f11 T_f_is_in k_11.sc k_11.ck fun _ _ _ _ _ _=>len1 fun _=>rfl
    · exact fnf_of KX hG f12 T_f_is_coin k_12.sc k_12.ck fun _ _ _ _ _ _=>len1 fun _=>rfl
    · exact fnf_of KX hG f13 T_f_are_outs k_13.sc k_13.ck fun _ _ _ _ _ _=>len1 fun _=>rfl
    · exact fnf_of KX hG f14 T_f_is_out k_14.sc k_14.ck fun _ _ _ _ _ _=>len1 fun _=>rfl
    · exact fnf_of KX hG f15 T_f_checked_block k_15.sc k_15.ck fun _ _ _ _ _ _=>len1 fun _=>rfl
    · exact fnf_of KX hG f16 T_f_is_block k_16.sc k_16.ck fun _ _ _ _ _ _=>len1 fun _=>rfl
    · exact fnf_of KX hG f17 T_f_are_deeds k_17.sc k_17.ck fun _ _ _ _ _ _=>len1 fun _=>rfl
    · exact fnf_of KX hG f18 T_f_shown_coin k_18.sc k_18.ck fun _ _ _ _ _ _=>len1 fun _=>rfl
    · exact fnf_of KX hG f19 T_f_shown_lock k_19.sc k_19.ck fun _ _ _ _ _ _=>len1 fun _=>rfl
    · exact fnf_of KX hG f20 T_f_shown_row k_20.sc k_20.ck fun _ _ _ _ _ _=>len1 fun _=>rfl
    · exact fnf_of KX hG f21 T_f_shown_deed k_21.sc k_21.ck fun _ _ _ _ _ _=>len1 fun _=>rfl
    · exact fnf_of KX hG f22 T_f_shown_in k_22.sc k_22.ck fun _ _ _ _ _ _=>len1 fun _=>rfl
    · exact fnf_of KX hG f23 T_f_shown_out k_23.sc k_23.ck fun _ _ _ _ _ _=>len1 fun _=>rfl
    · exact fnf_of KX hG f24 T_f_shown_block k_24.sc k_24.ck fun _ _ _ _ _ _=>len1 fun _=>rfl
    · exact fnf_of KX hG f25 T_f_read_number k_25.sc k_25.ck fun _ _ _ _ _ _=>len1 fun _=>rfl
    · exact fnf_of KX hG f26 T_f_read_coin k_26.sc k_26.ck fun _ _ _ _ _ _=>len1 fun _=>rfl
    · exact fnf_of KX hG f27 T_f_read_block k_27.sc k_27.ck fun _ _ _ _ _ _=>len1 fun _=>rfl
    · exact fnf_of KX hG f28 T_f_checked_text k_28.sc k_28.ck fun _ _ _ _ _ _=>len1 fun _=>rfl
    · exact fnf_of KX hG f29 T_f_is_number k_29.sc k_29.ck fun _ _ _ _ _ _=>len1 fun _=>rfl
    · exact fnf_of KX hG f30 T_f_is_made_of k_30.sc k_30.ck fun _ _ _ _ _ _=>len2 fun _ _=>rfl
    · exact fnf_of KX hG f31 T_f_formed_lock k_31.sc k_31.ck fun _ _ _ _ _ _=>len1 fun _=>rfl
    · exact fnf_of KX hG f32 T_f_formed_row k_32.sc k_32.ck fun _ _ _ _ _ _=>len1 fun _=>rfl
    · exact fnf_of KX hG f33 T_f_formed_deed k_33.sc k_33.ck fun _ _ _ _ _ _=>len1 fun _=>rfl
    · exact fnf_of KX hG f34 T_f_formed_in k_34.sc k_34.ck fun _ _ _ _ _ _=>len1 fun _=>rfl
    · exact fnf_of KX hG f35 T_f_formed_out k_35.sc k_35.ck fun _ _ _ _ _ _=>len1 fun _=>rfl
    · exact fnf_of KX hG f36 T_f_formed_block k_36.sc k_36.ck fun _ _ _ _ _ _=>len1 fun _=>rfl
    · exact fnf_of KX hG f37 T_f_law_mixed k_37.sc k_37.ck fun _ _ _ _ _ _=>len1 fun _=>rfl
    · exact fnf_of KX hG f38 T_f_law_large k_38.sc k_38.ck fun _ _ _ _ _ _=>len2 fun _ _=>rfl
    · exact fnf_of KX hG f39 T_f_law_row_by k_39.sc k_39.ck fun _ _ _ _ _ _=>len1 fun _=>rfl
    · exact fnf_of KX hG f40 T_f_law_lock_by k_40.sc k_40.ck fun _ _ _ _ _ _=>len2 fun _ _=>rfl
    · exact fnf_of KX hG f41 T_f_law_in_by k_41.sc k_41.ck fun _ _ _ _ _ _=>len1 fun _=>rfl
    · exact fnf_of KX hG f42 T_f_law_deed_by k_42.sc k_42.ck fun _ _ _ _ _ _=>len3 fun _ _ _=>rfl
    · exact fnf_of KX hG f43 T_f_law_numbers_text k_43.sc k_43.ck fun _ _ _ _ _ _=>len1 fun _=>rfl
    · exact fnf_of KX hG f44 T_f_law_lock_text k_44.sc k_44.ck fun _ _ _ _ _ _=>len1 fun _=>rfl
    · exact fnf_of KX hG f45 T_f_law_deed_text k_45.sc k_45.ck fun _ _ _ _ _ _=>len1 fun _=>rfl
    · exact fnf_of KX hG f46 T_f_law_alike k_46.sc k_46.ck fun _ _ _ _ _ _=>len2 fun _ _=>rfl
    · exact fnf_of KX hG f47 T_f_law_plain k_47.sc k_47.ck fun _ _ _ _ _ _=>len2 fun _ _=>rfl
    · exact fnf_of KX hG f48 T_f_law_block_by k_48.sc k_48.ck fun _ _ _ _ _ _=>len1 fun _=>rfl
    · exact fnf_of KX hG f49 T_f_law k_49.sc k_49.ck fun _ _ _ _ _ _=>len1 fun _=>rfl
  blt:=by
    intro x hx
    simp only [B,List.mem_cons,List.not_mem_nil,or_false] at hx
    rcases hx with rfl | rfl | rfl | rfl | rfl | rfl | rfl | rfl | rfl | rfl | rfl | rfl
    · exact gb_of KX hG b0
    · exact gb_of KX hG b1
    · exact gb_of KX hG b2
    · exact gb_of KX hG b3
    · exact gb_of KX hG b4
    · exact gb_of KX hG b5
    · exact gb_of KX hG b6
    · exact gb_of KX hG b7
    · exact gb_of KX hG b8
    · exact gb_of KX hG b9
    · exact gb_of KX hG b10
    · exact gb_of KX hG b11
  gl:=by
    intro x d hd
    unfold G at hd
    rcases ite_some hd with ⟨rfl,rfl⟩ | hd
    · exact gi_of KX hG g0
    rcases ite_some hd with ⟨rfl,rfl⟩ | hd
    · exact gi_of KX hG g1
    rcases ite_some hd with ⟨rfl,rfl⟩ | hd
    · exact gv_of KX hG g2
    rcases ite_some hd with ⟨rfl,rfl⟩ | hd
    · exact gv_of KX hG g3
    rcases ite_some hd with ⟨rfl,rfl⟩ | hd
    · exact gi_of KX hG g4
    rcases ite_some hd with ⟨rfl,rfl⟩ | hd
    · exact gi_of KX hG g5
    rcases ite_some hd with ⟨rfl,rfl⟩ | hd
    · exact gi_of KX hG g6
    rcases ite_some hd with ⟨rfl,rfl⟩ | hd
    · exact gi_of KX hG g7
    rcases ite_some hd with ⟨rfl,rfl⟩ | hd
    · exact gi_of KX hG g8
    rcases ite_some hd with ⟨rfl,rfl⟩ | hd
    · exact gv_of KX hG g9
    rcases ite_some hd with ⟨rfl,rfl⟩ | hd
    · exact gi_of KX hG g10
    rcases ite_some hd with ⟨rfl,rfl⟩ | hd
    · exact gv_of KX hG g11
    rcases ite_some hd with ⟨rfl,rfl⟩ | hd
    · exact gv_of KX hG g12
    cases hd
  mts:=fun _ _ _ h=>by simp [O] at h
  fds:=fun _ _ h=>by simp [O] at h
  nws:=fun _ _ h=>by simp [O] at h
end K64
namespace K64
open PySem L2 Mi PySem.W
noncomputable abbrev kE (P:Params) (x:Str) (t:Nat) (v:Value):DictEntry:=⟨PyData.keyHash P x,.str x t,v⟩
noncomputable def q:Program:={ PySem.Challenge.pw_spentonce_k64_blocks with main:={ PySem.Challenge.pw_spentonce_k64_blocks.main with body:=[1,2,3,5,6,7,9,10,11,12,13,14,15,16,17,18,19,21,22,23,24,25,26,27,28,29,31,32,33,34,36,37,38,39,40,41,42,43,45,46,47,48,49,50,51,52,53,54,55,56,57,58,59,61,62,63,64,65,66,67,68,69,70,71,72,73].map top } }
noncomputable abbrev yT (xs:Array Value):PySem.Obj:=⟨.type "tuple",none,.seq xs 0,#[]⟩
noncomputable abbrev yN:PySem.Obj:=⟨.none,none,.fields #[],#[]⟩
noncomputable abbrev yC (n:Str) (a b c:Nat) (l:Int) (x y z u:Int) (r:Nat) (f:Bool) (r2:Nat) (v1 v2 v3 v4:Value) (h:Int) (k:Nat):PySem.Obj:=⟨.type "code",none,.fields #[.str n a,.str n b,.str "/claim/cut.py" c,.int l 0,.int x 0,.int y 0,.int z 0,.int u 0,.ref r,.bool f,.int 181 0,.ref r2,v1,v2,v3,v4,.int h 0,.int l 0,.str "/claim/cut.py" k],#[]⟩
noncomputable abbrev yQ (n:Str) (t:Stmt):PySem.Obj:=⟨.none,none,.func ⟨n,n,defArgs t,.stmts (defBody t),defScope t,0,[],.none,.none,.none,.none,none,.none,.none,0⟩,#[]⟩
noncomputable abbrev yU (n:Str) (t:Stmt) (m:Str) (k c:Nat):PySem.Obj:=⟨.type "function",none,.func ⟨n,n,defArgs t,.stmts (defBody t),defScope t,3,[],.none,.none,.none,.str m k,none,.ref c,.none,0⟩,#[]⟩
noncomputable abbrev o3 (P:Params):PySem.Obj:=⟨(.type "dict"),none,(.dict #[kE P "__name__" 165 (.str "law_spentonce_k64_blocks" 547),kE P "__doc__" 166 .none,kE P "__package__" 167 .none,kE P "__loader__" 168 (.builtin "__main__.__loader__#opaque"),kE P "__spec__" 169 .none,kE P "__annotations__" 170 (.ref 6),kE P "__builtins__" 171 (.ref 4),kE P "__file__" 173 (.str "/claim/cut.py" 172),kE P "__cached__" 174 .none,kE P "CoinError" 206 (.ref 24),kE P "NoBlock" 222 (.ref 37),kE P "NoText" 238 (.ref 49),kE P "is_whole" 247 (.ref 58),kE P "is_within" 256 (.ref 65),kE P "is_tuple" 265 (.ref 72),kE P "MOST_ROWS" 269 (.int 30 268),kE P "MOST_KEYS" 271 (.int 10 270),kE P "MOST_IFS_WITHIN" 273 (.int 5 272),kE P "LAST_PLACE" 275 (.int 9 274),kE P "PLACE_WORDS" 278 (.ref 73),kE P "LONE_WORDS" 296 (.ref 74),kE P "is_lock" 302 (.ref 79),kE P "are_keys" 308 (.ref 84),kE P "is_short" 315 (.ref 91),kE P "is_row" 322 (.ref 98),kE P "ifs_fit" 331 (.ref 105),kE P "MOST_INS" 335 (.int 8 334),kE P "MOST_OUTS" 337 (.int 8 336),kE P "is_maker" 344 (.ref 112),kE P "is_deed" 351 (.ref 119),kE P "are_ins" 357 (.ref 124),kE P "is_in" 364 (.ref 131),kE P "is_coin" 370 (.ref 136),kE P "are_outs" 376 (.ref 141),kE P "is_out" 383 (.ref 148),kE P "MOST_DEEDS" 387 (.int 12 386),kE P "checked_block" 394 (.ref 155),kE P "is_block" 401 (.ref 162),kE P "are_deeds" 407 (.ref 167),kE P "EMPTY_LOCK" 411 (.str "-" 410),kE P "shown_coin" 417 (.ref 172),kE P "shown_lock" 423 (.ref 177),kE P "shown_row" 429 (.ref 182),kE P "shown_deed" 435 (.ref 187),kE P "shown_in" 441 (.ref 192),kE P "shown_out" 448 (.ref 199),kE P "shown_block" 454 (.ref 204),kE P "MOST_FIGURES" 458 (.int 60 457),kE P "FIGURES" 460 (.str "0123456789" 459),kE P "SMALL_LETTERS" 462 (.str "abcdefghijklmnopqrstuvwxyz" 461),kE P "read_number" 469 (.ref 211),kE P "read_coin" 475 (.ref 216),kE P "read_block" 482 (.ref 223),kE P "checked_text" 489 (.ref 230),kE P "is_number" 497 (.ref 237),kE P "is_made_of" 503 (.ref 242),kE P "formed_lock" 509 (.ref 247),kE P "formed_row" 515 (.ref 252),kE P "formed_deed" 526 (.ref 259),kE P "formed_in" 532 (.ref 264),kE P "formed_out" 540 (.ref 271),kE P "formed_block" 546 (.ref 276),kE P "_law_mixed" 555 (.ref 283),kE P "_law_large" 566 (.ref 290),kE P "_law_row_by" 576 (.ref 297),kE P "_law_lock_by" 589 (.ref 304),kE P "_law_in_by" 602 (.ref 311),kE P "_law_deed_by" 619 (.ref 318),kE P "_law_numbers_text" 625 (.ref 323),kE P "_law_lock_text" 631 (.ref 328),kE P "_law_deed_text" 643 (.ref 335),kE P "_law_alike" 649 (.ref 340),kE P "_law_plain" 657 (.ref 347),kE P "_law_block_by" 663 (.ref 352),kE P "law" 675 (.ref 359)] 75),#[]⟩
noncomputable abbrev o11:=yT #[]
noncomputable abbrev o12:PySem.Obj:=⟨.none,none,(.fields #[(.int 2 0),(.int 0 0),(.ref 20),(.int 4 0),(.int 0 0),(.ref 33),(.int 6 0),(.int 0 0),(.ref 45),(.int 9 0),(.int 0 0),(.ref 57),(.int 11 0),(.int 0 0),(.ref 64),(.int 13 0),(.int 0 0),(.ref 71),(.int 22 0),(.int 0 0),(.ref 78),(.int 26 0),(.int 0 0),(.ref 83),(.int 28 0),(.int 0 0),(.ref 90),(.int 30 0),(.int 0 0),(.ref 97),(.int 38 0),(.int 0 0),(.ref 104),(.int 57 0),(.int 0 0),(.ref 111),(.int 59 0),(.int 0 0),(.ref 118),(.int 63 0),(.int 0 0),(.ref 123),(.int 65 0),(.int 0 0),(.ref 130),(.int 67 0),(.int 0 0),(.ref 135),(.int 69 0),(.int 0 0),(.ref 140),(.int 71 0),(.int 0 0),(.ref 147),(.int 75 0),(.int 0 0),(.ref 154),(.int 79 0),(.int 0 0),(.ref 161),(.int 83 0),(.int 0 0),(.ref 166),(.int 89 0),(.int 0 0),(.ref 171),(.int 91 0),(.int 0 0),(.ref 176),(.int 95 0),(.int 0 0),(.ref 181),(.int 97 0),(.int 0 0),(.ref 186),(.int 101 0),(.int 0 0),(.ref 191),(.int 103 0),(.int 0 0),(.ref 198),(.int 105 0),(.int 0 0),(.ref 203),(.int 112 0),(.int 0 0),(.ref 210),(.int 116 0),(.int 0 0),(.ref 215),(.int 121 0),(.int 0 0),(.ref 222),(.int 123 0),(.int 0 0),(.ref 229),(.int 127 0),(.int 0 0),(.ref 236),(.int 132 0),(.int 0 0),(.ref 241),(.int 134 0),(.int 0 0),(.ref 246),(.int 138 0),(.int 0 0),(.ref 251),(.int 143 0),(.int 0 0),(.ref 258),(.int 153 0),(.int 0 0),(.ref 263),(.int 156 0),(.int 0 0),(.ref 270),(.int 161 0),(.int 0 0),(.ref 275),(.int 169 0),(.int 0 0),(.ref 282),(.int 171 0),(.int 0 0),(.ref 289),(.int 180 0),(.int 0 0),(.ref 296),(.int 191 0),(.int 0 0),(.ref 303),(.int 201 0),(.int 0 0),(.ref 310),(.int 210 0),(.int 0 0),(.ref 317),(.int 225 0),(.int 0 0),(.ref 322),(.int 227 0),(.int 0 0),(.ref 327),(.int 231 0),(.int 0 0),(.ref 334),(.int 238 0),(.int 0 0),(.ref 339),(.int 246 0),(.int 0 0),(.ref 346),(.int 248 0),(.int 0 0),(.ref 351),(.int 263 0),(.int 0 0),(.ref 358)]),#[]⟩
noncomputable abbrev o13:=yC "<module>" 182 183 184 1 0 0 0 0 11 false 12 .none .none .none .none 185 186
noncomputable abbrev o14:PySem.Obj:=⟨(.type "frame"),none,.plain,#[(some (.ref 13)),(some (.ref 3)),(some (.ref 3)),none,(some (.str "__main__" 164)),none,(some (.ref 0))]⟩
noncomputable abbrev o15:=yT #[(.type "ValueError")]
noncomputable abbrev o16:PySem.Obj:=⟨(.type "builtin_function_or_method"),none,(.fields #[(.builtin "type.__prepare__"),(.type "type")]),#[]⟩
noncomputable abbrev o17 (P:Params):PySem.Obj:=⟨(.type "dict"),none,(.dict #[kE P "__module__" 196 (.str "spentonce.errors" 187),kE P "__qualname__" 198 (.str "CoinError" 197),kE P "__firstlineno__" 200 (.int 2 199),kE P "__static_attributes__" 201 (.ref 22)] 4),#[]⟩
noncomputable abbrev o19:=yN
noncomputable abbrev o20:=yC "CoinError" 191 192 193 2 0 0 0 0 18 false 19 .none .none .none .none 194 195
noncomputable abbrev o21:PySem.Obj:=⟨(.type "frame"),none,.plain,#[(some (.ref 20)),(some (.ref 3)),(some (.ref 17)),none,(some (.str "spentonce.errors" 187)),none,(some (.ref 0))]⟩
noncomputable abbrev o23 (P:Params):PySem.Obj:=⟨(.type "dict"),none,(.dict #[kE P "__module__" 196 (.str "spentonce.errors" 187),kE P "__firstlineno__" 200 (.int 2 199),kE P "__static_attributes__" 201 (.ref 22),kE P "__weakref__" 203 (.ref 25),kE P "__doc__" 204 .none] 3),#[]⟩
noncomputable abbrev o24:PySem.Obj:=⟨(.type "type"),none,(.cls ⟨"CoinError",[(.type "ValueError")],[(.ref 24),(.type "ValueError"),(.type "Exception"),(.type "BaseException"),(.type "object")],23,"CoinError",true,[],[(.ref 37),(.ref 49)],false,none,false⟩),#[(some (.ref 15)),none,(some (.str "CoinError" 189)),(some (.str "CoinError" 197)),(some (.builtin "ValueError.__new__")),(some (.bool true))]⟩
noncomputable abbrev o25:PySem.Obj:=⟨(.type "getset_descriptor"),none,(.fields #[(.str "__weakref__" 202),(.ref 24),(.builtin "ExceptionGroup.__weakref__"),.none]),#[]⟩
noncomputable abbrev o26:PySem.Obj:=⟨(.type "super"),none,(.fields #[(.ref 24),(.ref 24),(.ref 24)]),#[]⟩
noncomputable abbrev o27:PySem.Obj:=⟨(.type "builtin_function_or_method"),none,(.fields #[(.builtin "object.__init_subclass__"),(.ref 24)]),#[]⟩
noncomputable abbrev o28:=yT #[(.ref 24)]
noncomputable abbrev o30 (P:Params):PySem.Obj:=⟨(.type "dict"),none,(.dict #[kE P "__module__" 214 (.str "spentonce.errors" 187),kE P "__qualname__" 216 (.str "NoBlock" 215),kE P "__firstlineno__" 218 (.int 4 217),kE P "__static_attributes__" 219 (.ref 35)] 4),#[]⟩
noncomputable abbrev o33:=yC "NoBlock" 209 210 211 4 0 0 0 0 31 false 32 .none .none .none .none 212 213
noncomputable abbrev o34:PySem.Obj:=⟨(.type "frame"),none,.plain,#[(some (.ref 33)),(some (.ref 3)),(some (.ref 30)),none,(some (.str "spentonce.errors" 187)),none,(some (.ref 0))]⟩
noncomputable abbrev o36 (P:Params):PySem.Obj:=⟨(.type "dict"),none,(.dict #[kE P "__module__" 214 (.str "spentonce.errors" 187),kE P "__firstlineno__" 218 (.int 4 217),kE P "__static_attributes__" 219 (.ref 35),kE P "__doc__" 220 .none] 2),#[]⟩
noncomputable abbrev o37:PySem.Obj:=⟨(.type "type"),none,(.cls ⟨"NoBlock",[(.ref 24)],[(.ref 37),(.ref 24),(.type "ValueError"),(.type "Exception"),(.type "BaseException"),(.type "object")],36,"NoBlock",true,[],[],false,none,false⟩),#[(some (.ref 28)),none,(some (.str "NoBlock" 207)),(some (.str "NoBlock" 215)),(some (.builtin "ValueError.__new__")),(some (.bool true))]⟩
noncomputable abbrev o38:PySem.Obj:=⟨(.type "super"),none,(.fields #[(.ref 37),(.ref 37),(.ref 37)]),#[]⟩
noncomputable abbrev o39:PySem.Obj:=⟨(.type "builtin_function_or_method"),none,(.fields #[(.builtin "object.__init_subclass__"),(.ref 37)]),#[]⟩
noncomputable abbrev o42 (P:Params):PySem.Obj:=⟨(.type "dict"),none,(.dict #[kE P "__module__" 230 (.str "spentonce.errors" 187),kE P "__qualname__" 232 (.str "NoText" 231),kE P "__firstlineno__" 234 (.int 6 233),kE P "__static_attributes__" 235 (.ref 47)] 4),#[]⟩
noncomputable abbrev o45:=yC "NoText" 225 226 227 6 0 0 0 0 43 false 44 .none .none .none .none 228 229
noncomputable abbrev o46:PySem.Obj:=⟨(.type "frame"),none,.plain,#[(some (.ref 45)),(some (.ref 3)),(some (.ref 42)),none,(some (.str "spentonce.errors" 187)),none,(some (.ref 0))]⟩
noncomputable abbrev o48 (P:Params):PySem.Obj:=⟨(.type "dict"),none,(.dict #[kE P "__module__" 230 (.str "spentonce.errors" 187),kE P "__firstlineno__" 234 (.int 6 233),kE P "__static_attributes__" 235 (.ref 47),kE P "__doc__" 236 .none] 2),#[]⟩
noncomputable abbrev o49:PySem.Obj:=⟨(.type "type"),none,(.cls ⟨"NoText",[(.ref 24)],[(.ref 49),(.ref 24),(.type "ValueError"),(.type "Exception"),(.type "BaseException"),(.type "object")],48,"NoText",true,[],[],false,none,false⟩),#[(some (.ref 40)),none,(some (.str "NoText" 223)),(some (.str "NoText" 231)),(some (.builtin "ValueError.__new__")),(some (.bool true))]⟩
noncomputable abbrev o50:PySem.Obj:=⟨(.type "super"),none,(.fields #[(.ref 49),(.ref 49),(.ref 49)]),#[]⟩
noncomputable abbrev o51:PySem.Obj:=⟨(.type "builtin_function_or_method"),none,(.fields #[(.builtin "object.__init_subclass__"),(.ref 49)]),#[]⟩
noncomputable abbrev o54:=yT #[(.str "thing" 244)]
noncomputable abbrev o56:=yQ "is_whole" (top 5)
noncomputable abbrev o57:=yC "is_whole" 241 242 243 9 1 0 0 3 52 true 53 .none (.ref 54) (.ref 55) (.ref 56) 245 246
noncomputable abbrev o58:=yU "is_whole" (top 5) "spentonce.whole" 239 57
noncomputable abbrev o61:=yT #[(.str "thing" 251),(.str "least" 252),(.str "most" 253)]
noncomputable abbrev o63:=yQ "is_within" (top 6)
noncomputable abbrev o64:=yC "is_within" 248 249 250 11 3 0 0 3 59 true 60 .none (.ref 61) (.ref 62) (.ref 63) 254 255
noncomputable abbrev o65:=yU "is_within" (top 6) "spentonce.whole" 239 64
noncomputable abbrev o68:=yT #[(.str "thing" 260),(.str "least" 261),(.str "most" 262)]
noncomputable abbrev o70:=yQ "is_tuple" (top 7)
noncomputable abbrev o71:=yC "is_tuple" 257 258 259 13 3 0 0 3 66 true 67 .none (.ref 68) (.ref 69) (.ref 70) 263 264
noncomputable abbrev o72:=yU "is_tuple" (top 7) "spentonce.whole" 239 71
noncomputable abbrev o73:=yT #[(.str "copy" 276),(.str "paid" 277)]
noncomputable abbrev o74:=yT #[(.str "drop" 279),(.str "swap" 280),(.str "add" 281),(.str "sub" 282),(.str "mul" 283),(.str "less" 284),(.str "same" 285),(.str "not" 286),(.str "need" 287),(.str "height" 288),(.str "age" 289),(.str "worth" 290),(.str "ins" 291),(.str "outs" 292),(.str "if" 293),(.str "else" 294),(.str "end" 295)]
noncomputable abbrev o77:=yQ "is_lock" (top 15)
noncomputable abbrev o78:=yC "is_lock" 297 298 299 22 1 0 0 3 75 true 76 .none .none .none (.ref 77) 300 301
noncomputable abbrev o79:=yU "is_lock" (top 15) "spentonce.locks" 266 78
noncomputable abbrev o82:=yQ "are_keys" (top 16)
noncomputable abbrev o83:=yC "are_keys" 303 304 305 26 1 0 0 3 80 true 81 .none .none .none (.ref 82) 306 307
noncomputable abbrev o84:=yU "are_keys" (top 16) "spentonce.locks" 266 83
noncomputable abbrev o87:=yT #[(.str "thing" 312)]
noncomputable abbrev o89:=yQ "is_short" (top 17)
noncomputable abbrev o90:=yC "is_short" 309 310 311 28 1 0 0 3 85 true 86 .none (.ref 87) (.ref 88) (.ref 89) 313 314
noncomputable abbrev o91:=yU "is_short" (top 17) "spentonce.locks" 266 90
noncomputable abbrev o94:=yT #[(.str "thing" 319)]
noncomputable abbrev o96:=yQ "is_row" (top 18)
noncomputable abbrev o97:=yC "is_row" 316 317 318 30 1 0 0 3 92 true 93 .none (.ref 94) (.ref 95) (.ref 96) 320 321
noncomputable abbrev o98:=yU "is_row" (top 18) "spentonce.locks" 266 97
noncomputable abbrev o101:=yT #[(.str "rows" 326),(.str "elses" 327),(.str "row" 328)]
noncomputable abbrev o103:=yQ "ifs_fit" (top 19)
noncomputable abbrev o104:=yC "ifs_fit" 323 324 325 38 1 0 0 3 99 true 100 .none (.ref 101) (.ref 102) (.ref 103) 329 330
noncomputable abbrev o105:=yU "ifs_fit" (top 19) "spentonce.locks" 266 104
noncomputable abbrev o108:=yT #[(.str "deed" 341)]
noncomputable abbrev o110:=yQ "is_maker" (top 23)
noncomputable abbrev o111:=yC "is_maker" 338 339 340 57 1 0 0 3 106 true 107 .none (.ref 108) (.ref 109) (.ref 110) 342 343
noncomputable abbrev o112:=yU "is_maker" (top 23) "spentonce.deeds" 332 111
noncomputable abbrev o115:=yT #[(.str "thing" 348)]
noncomputable abbrev o117:=yQ "is_deed" (top 24)
noncomputable abbrev o118:=yC "is_deed" 345 346 347 59 1 0 0 3 113 true 114 .none (.ref 115) (.ref 116) (.ref 117) 349 350
noncomputable abbrev o119:=yU "is_deed" (top 24) "spentonce.deeds" 332 118
noncomputable abbrev o122:=yQ "are_ins" (top 25)
noncomputable abbrev o123:=yC "are_ins" 352 353 354 63 1 0 0 3 120 true 121 .none .none .none (.ref 122) 355 356
noncomputable abbrev o124:=yU "are_ins" (top 25) "spentonce.deeds" 332 123
noncomputable abbrev o127:=yT #[(.str "thing" 361)]
noncomputable abbrev o129:=yQ "is_in" (top 26)
noncomputable abbrev o130:=yC "is_in" 358 359 360 65 1 0 0 3 125 true 126 .none (.ref 127) (.ref 128) (.ref 129) 362 363
noncomputable abbrev o131:=yU "is_in" (top 26) "spentonce.deeds" 332 130
noncomputable abbrev o134:=yQ "is_coin" (top 27)
noncomputable abbrev o135:=yC "is_coin" 365 366 367 67 1 0 0 3 132 true 133 .none .none .none (.ref 134) 368 369
noncomputable abbrev o136:=yU "is_coin" (top 27) "spentonce.deeds" 332 135
noncomputable abbrev o139:=yQ "are_outs" (top 28)
noncomputable abbrev o140:=yC "are_outs" 371 372 373 69 1 0 0 3 137 true 138 .none .none .none (.ref 139) 374 375
noncomputable abbrev o141:=yU "are_outs" (top 28) "spentonce.deeds" 332 140
noncomputable abbrev o144:=yT #[(.str "thing" 380)]
noncomputable abbrev o146:=yQ "is_out" (top 29)
noncomputable abbrev o147:=yC "is_out" 377 378 379 71 1 0 0 3 142 true 143 .none (.ref 144) (.ref 145) (.ref 146) 381 382
noncomputable abbrev o148:=yU "is_out" (top 29) "spentonce.deeds" 332 147
noncomputable abbrev o151:=yT #[(.str "thing" 391)]
noncomputable abbrev o153:=yQ "checked_block" (top 32)
noncomputable abbrev o154:=yC "checked_block" 388 389 390 75 1 0 0 3 149 true 150 .none (.ref 151) (.ref 152) (.ref 153) 392 393
noncomputable abbrev o155:=yU "checked_block" (top 32) "spentonce.blocks" 384 154
noncomputable abbrev o158:=yT #[(.str "thing" 398)]
noncomputable abbrev o160:=yQ "is_block" (top 33)
noncomputable abbrev o161:=yC "is_block" 395 396 397 79 1 0 0 3 156 true 157 .none (.ref 158) (.ref 159) (.ref 160) 399 400
noncomputable abbrev o162:=yU "is_block" (top 33) "spentonce.blocks" 384 161
noncomputable abbrev o165:=yQ "are_deeds" (top 34)
noncomputable abbrev o166:=yC "are_deeds" 402 403 404 83 1 0 0 3 163 true 164 .none .none .none (.ref 165) 405 406
noncomputable abbrev o167:=yU "are_deeds" (top 34) "spentonce.blocks" 384 166
noncomputable abbrev o170:=yQ "shown_coin" (top 37)
noncomputable abbrev o171:=yC "shown_coin" 412 413 414 89 1 0 0 3 168 true 169 .none .none .none (.ref 170) 415 416
noncomputable abbrev o172:=yU "shown_coin" (top 37) "spentonce.showing" 408 171
noncomputable abbrev o175:=yQ "shown_lock" (top 38)
noncomputable abbrev o176:=yC "shown_lock" 418 419 420 91 1 0 0 3 173 true 174 .none .none .none (.ref 175) 421 422
noncomputable abbrev o177:=yU "shown_lock" (top 38) "spentonce.showing" 408 176
noncomputable abbrev o180:=yQ "shown_row" (top 39)
noncomputable abbrev o181:=yC "shown_row" 424 425 426 95 1 0 0 3 178 true 179 .none .none .none (.ref 180) 427 428
noncomputable abbrev o182:=yU "shown_row" (top 39) "spentonce.showing" 408 181
noncomputable abbrev o185:=yQ "shown_deed" (top 40)
noncomputable abbrev o186:=yC "shown_deed" 430 431 432 97 1 0 0 3 183 true 184 .none .none .none (.ref 185) 433 434
noncomputable abbrev o187:=yU "shown_deed" (top 40) "spentonce.showing" 408 186
noncomputable abbrev o190:=yQ "shown_in" (top 41)
noncomputable abbrev o191:=yC "shown_in" 436 437 438 101 1 0 0 3 188 true 189 .none .none .none (.ref 190) 439 440
noncomputable abbrev o192:=yU "shown_in" (top 41) "spentonce.showing" 408 191
noncomputable abbrev o195:=yT #[(.str "part" 445)]
noncomputable abbrev o197:=yQ "shown_out" (top 42)
noncomputable abbrev o198:=yC "shown_out" 442 443 444 103 1 0 0 3 193 true 194 .none (.ref 195) (.ref 196) (.ref 197) 446 447
noncomputable abbrev o199:=yU "shown_out" (top 42) "spentonce.showing" 408 198
noncomputable abbrev o202:=yQ "shown_block" (top 43)
noncomputable abbrev o203:=yC "shown_block" 449 450 451 105 1 0 0 3 200 true 201 .none .none .none (.ref 202) 452 453
noncomputable abbrev o204:=yU "shown_block" (top 43) "spentonce.showing" 408 203
noncomputable abbrev o207:=yT #[(.str "text" 466)]
noncomputable abbrev o209:=yQ "read_number" (top 48)
noncomputable abbrev o210:=yC "read_number" 463 464 465 112 1 0 0 3 205 true 206 .none (.ref 207) (.ref 208) (.ref 209) 467 468
noncomputable abbrev o211:=yU "read_number" (top 48) "spentonce.reading" 455 210
noncomputable abbrev o214:=yQ "read_coin" (top 49)
noncomputable abbrev o215:=yC "read_coin" 470 471 472 116 1 0 0 3 212 true 213 .none .none .none (.ref 214) 473 474
noncomputable abbrev o216:=yU "read_coin" (top 49) "spentonce.reading" 455 215
noncomputable abbrev o219:=yT #[(.str "text" 479)]
noncomputable abbrev o221:=yQ "read_block" (top 50)
noncomputable abbrev o222:=yC "read_block" 476 477 478 121 1 0 0 3 217 true 218 .none (.ref 219) (.ref 220) (.ref 221) 480 481
noncomputable abbrev o223:=yU "read_block" (top 50) "spentonce.reading" 455 222
noncomputable abbrev o226:=yT #[(.str "thing" 486)]
noncomputable abbrev o228:=yQ "checked_text" (top 51)
noncomputable abbrev o229:=yC "checked_text" 483 484 485 123 1 0 0 3 224 true 225 .none (.ref 226) (.ref 227) (.ref 228) 487 488
noncomputable abbrev o230:=yU "checked_text" (top 51) "spentonce.reading" 455 229
noncomputable abbrev o233:=yT #[(.str "text" 493),(.str "figures" 494)]
noncomputable abbrev o235:=yQ "is_number" (top 52)
noncomputable abbrev o236:=yC "is_number" 490 491 492 127 1 0 0 3 231 true 232 .none (.ref 233) (.ref 234) (.ref 235) 495 496
noncomputable abbrev o237:=yU "is_number" (top 52) "spentonce.reading" 455 236
noncomputable abbrev o240:=yQ "is_made_of" (top 53)
noncomputable abbrev o241:=yC "is_made_of" 498 499 500 132 2 0 0 3 238 true 239 .none .none .none (.ref 240) 501 502
noncomputable abbrev o242:=yU "is_made_of" (top 53) "spentonce.reading" 455 241
noncomputable abbrev o245:=yQ "formed_lock" (top 54)
noncomputable abbrev o246:=yC "formed_lock" 504 505 506 134 1 0 0 3 243 true 244 .none .none .none (.ref 245) 507 508
noncomputable abbrev o247:=yU "formed_lock" (top 54) "spentonce.reading" 455 246
noncomputable abbrev o250:=yQ "formed_row" (top 55)
noncomputable abbrev o251:=yC "formed_row" 510 511 512 138 1 0 0 3 248 true 249 .none .none .none (.ref 250) 513 514
noncomputable abbrev o252:=yU "formed_row" (top 55) "spentonce.reading" 455 251
noncomputable abbrev o255:=yT #[(.str "text" 519),(.str "parts" 520),(.str "ins" 521),(.str "outs" 522),(.str "part" 523)]
noncomputable abbrev o257:=yQ "formed_deed" (top 56)
noncomputable abbrev o258:=yC "formed_deed" 516 517 518 143 1 0 0 3 253 true 254 .none (.ref 255) (.ref 256) (.ref 257) 524 525
noncomputable abbrev o259:=yU "formed_deed" (top 56) "spentonce.reading" 455 258
noncomputable abbrev o262:=yQ "formed_in" (top 57)
noncomputable abbrev o263:=yC "formed_in" 527 528 529 153 1 0 0 3 260 true 261 .none .none .none (.ref 262) 530 531
noncomputable abbrev o264:=yU "formed_in" (top 57) "spentonce.reading" 455 263
noncomputable abbrev o267:=yT #[(.str "text" 536),(.str "words" 537)]
noncomputable abbrev o269:=yQ "formed_out" (top 58)
noncomputable abbrev o270:=yC "formed_out" 533 534 535 156 1 0 0 3 265 true 266 .none (.ref 267) (.ref 268) (.ref 269) 538 539
noncomputable abbrev o271:=yU "formed_out" (top 58) "spentonce.reading" 455 270
noncomputable abbrev o274:=yQ "formed_block" (top 59)
noncomputable abbrev o275:=yC "formed_block" 541 542 543 161 1 0 0 3 272 true 273 .none .none .none (.ref 274) 544 545
noncomputable abbrev o276:=yU "formed_block" (top 59) "spentonce.reading" 455 275
noncomputable abbrev o279:=yT #[(.str "_law_cell" 552)]
noncomputable abbrev o281:=yQ "_law_mixed" (top 61)
noncomputable abbrev o282:=yC "_law_mixed" 549 550 551 169 1 0 0 3 277 true 278 .none (.ref 279) (.ref 280) (.ref 281) 553 554
noncomputable abbrev o283:=yU "_law_mixed" (top 61) "law_spentonce_k64_blocks" 547 282
noncomputable abbrev o286:=yT #[(.str "_law_cell" 559),(.str "_law_turns" 560),(.str "_law_number" 561),(.str "_law_found" 562),(.str "_law_turn" 563)]
noncomputable abbrev o288:=yQ "_law_large" (top 62)
noncomputable abbrev o289:=yC "_law_large" 556 557 558 171 2 0 0 3 284 true 285 .none (.ref 286) (.ref 287) (.ref 288) 564 565
noncomputable abbrev o290:=yU "_law_large" (top 62) "law_spentonce_k64_blocks" 547 289
noncomputable abbrev o293:=yT #[(.str "_law_number" 570),(.str "_law_words" 571),(.str "_law_kind" 572),(.str "_law_given" 573)]
noncomputable abbrev o295:=yQ "_law_row_by" (top 63)
noncomputable abbrev o296:=yC "_law_row_by" 567 568 569 180 1 0 0 3 291 true 292 .none (.ref 293) (.ref 294) (.ref 295) 574 575
noncomputable abbrev o297:=yU "_law_row_by" (top 63) "law_spentonce_k64_blocks" 547 296
noncomputable abbrev o300:=yT #[(.str "_law_number" 580),(.str "_law_most" 581),(.str "_law_rows" 582),(.str "_law_many" 583),(.str "_law_k" 584),(.str "_law_row" 585),(.str "_law_way" 586)]
noncomputable abbrev o302:=yQ "_law_lock_by" (top 64)
noncomputable abbrev o303:=yC "_law_lock_by" 577 578 579 191 2 0 0 3 298 true 299 .none (.ref 300) (.ref 301) (.ref 302) 587 588
noncomputable abbrev o304:=yU "_law_lock_by" (top 64) "law_spentonce_k64_blocks" 547 303
noncomputable abbrev o307:=yT #[(.str "_law_number" 593),(.str "_law_deed" 594),(.str "_law_place" 595),(.str "_law_many" 596),(.str "_law_keys" 597),(.str "_law_k" 598),(.str "_law_key" 599)]
noncomputable abbrev o309:=yQ "_law_in_by" (top 65)
noncomputable abbrev o310:=yC "_law_in_by" 590 591 592 201 1 0 0 3 305 true 306 .none (.ref 307) (.ref 308) (.ref 309) 600 601
noncomputable abbrev o311:=yU "_law_in_by" (top 65) "law_spentonce_k64_blocks" 547 310
noncomputable abbrev o314:=yT #[(.str "_law_number" 606),(.str "_law_maker" 607),(.str "_law_most" 608),(.str "_law_name" 609),(.str "_law_ins" 610),(.str "_law_outs" 611),(.str "_law_many" 612),(.str "_law_k" 613),(.str "_law_one" 614),(.str "_law_worth" 615),(.str "_law_lock" 616)]
noncomputable abbrev o316:=yQ "_law_deed_by" (top 66)
noncomputable abbrev o317:=yC "_law_deed_by" 603 604 605 210 3 0 0 3 312 true 313 .none (.ref 314) (.ref 315) (.ref 316) 617 618
noncomputable abbrev o318:=yU "_law_deed_by" (top 66) "law_spentonce_k64_blocks" 547 317
noncomputable abbrev o321:=yQ "_law_numbers_text" (top 67)
noncomputable abbrev o322:=yC "_law_numbers_text" 620 621 622 225 1 0 0 3 319 true 320 .none .none .none (.ref 321) 623 624
noncomputable abbrev o323:=yU "_law_numbers_text" (top 67) "law_spentonce_k64_blocks" 547 322
noncomputable abbrev o326:=yQ "_law_lock_text" (top 68)
noncomputable abbrev o327:=yC "_law_lock_text" 626 627 628 227 1 0 0 3 324 true 325 .none .none .none (.ref 326) 629 630
noncomputable abbrev o328:=yU "_law_lock_text" (top 68) "law_spentonce_k64_blocks" 547 327
noncomputable abbrev o331:=yT #[(.str "_law_deed" 635),(.str "_law_text" 636),(.str "_law_coin" 637),(.str "_law_keys" 638),(.str "_law_worth" 639),(.str "_law_lock" 640)]
noncomputable abbrev o333:=yQ "_law_deed_text" (top 69)
noncomputable abbrev o334:=yC "_law_deed_text" 632 633 634 231 1 0 0 3 329 true 330 .none (.ref 331) (.ref 332) (.ref 333) 641 642
noncomputable abbrev o335:=yU "_law_deed_text" (top 69) "law_spentonce_k64_blocks" 547 334
noncomputable abbrev o338:=yQ "_law_alike" (top 70)
noncomputable abbrev o339:=yC "_law_alike" 644 645 646 238 2 0 0 3 336 true 337 .none .none .none (.ref 338) 647 648
noncomputable abbrev o340:=yU "_law_alike" (top 70) "law_spentonce_k64_blocks" 547 339
noncomputable abbrev o343:=yT #[(.str "_law_number" 653),(.str "_law_place" 654)]
noncomputable abbrev o345:=yQ "_law_plain" (top 71)
noncomputable abbrev o346:=yC "_law_plain" 650 651 652 246 2 0 0 3 341 true 342 .none (.ref 343) (.ref 344) (.ref 345) 655 656
noncomputable abbrev o347:=yU "_law_plain" (top 71) "law_spentonce_k64_blocks" 547 346
noncomputable abbrev o350:=yQ "_law_block_by" (top 72)
noncomputable abbrev o351:=yC "_law_block_by" 658 659 660 248 1 0 0 3 348 true 349 .none .none .none (.ref 350) 661 662
noncomputable abbrev o352:=yU "_law_block_by" (top 72) "law_spentonce_k64_blocks" 547 351
noncomputable abbrev o355:=yT #[(.str "_law_script" 667),(.str "_law_cell" 668),(.str "_law_block" 669),(.str "_law_due" 670),(.str "_law_deed" 671),(.str "_law_text" 672)]
noncomputable abbrev o357:=yQ "law" (top 73)
noncomputable abbrev o358:=yC "law" 664 665 666 263 1 0 0 3 353 true 354 .none (.ref 355) (.ref 356) (.ref 357) 673 674
noncomputable abbrev o359:=yU "law" (top 73) "law_spentonce_k64_blocks" 547 358
noncomputable def h_pre (P:Params):PySem.Heap:=⟨⟨PySem.W.boot_o_0 P :: PySem.W.boot_o_1 P :: PySem.W.boot_o_2 P :: PySem.W.boot_o_3 P :: PySem.W.boot_o_4 P :: PySem.W.boot_o_5 P :: PySem.W.boot_o_6 P :: PySem.W.boot_o_7 P :: PySem.W.boot_o_8 P :: PySem.W.boot_o_9 P :: PySem.W.boot_o_10 P :: o11 :: o19 :: o13 :: o14 :: []⟩,(PySem.W.boot_heap P).life⟩
noncomputable def h_block (P:Params):PySem.Heap:=⟨⟨PySem.W.boot_o_0 P :: PySem.W.boot_o_1 P :: PySem.W.boot_o_2 P :: PySem.W.boot_o_3 P :: PySem.W.boot_o_4 P :: PySem.W.boot_o_5 P :: PySem.W.boot_o_6 P :: PySem.W.boot_o_7 P :: PySem.W.boot_o_8 P :: PySem.W.boot_o_9 P :: PySem.W.boot_o_10 P :: o11 :: o19 :: o13 :: o14 :: []⟩,(PySem.W.boot_heap P).life⟩
noncomputable abbrev o3_c22 (P:Params):PySem.Obj:=⟨(.type "dict"),none,(.dict #[kE P "__name__" 165 (.str "spentonce.deeds" 332),kE P "__doc__" 166 .none,kE P "__package__" 167 .none,kE P "__loader__" 168 (.builtin "__main__.__loader__#opaque"),kE P "__spec__" 169 .none,kE P "__annotations__" 170 (.ref 6),kE P "__builtins__" 171 (.ref 4),kE P "__file__" 173 (.str "/claim/cut.py" 172),kE P "__cached__" 174 .none,kE P "CoinError" 206 (.ref 24),kE P "NoBlock" 222 (.ref 37),kE P "NoText" 238 (.ref 49),kE P "is_whole" 247 (.ref 58),kE P "is_within" 256 (.ref 65),kE P "is_tuple" 265 (.ref 72),kE P "MOST_ROWS" 269 (.int 30 268),kE P "MOST_KEYS" 271 (.int 10 270),kE P "MOST_IFS_WITHIN" 273 (.int 5 272),kE P "LAST_PLACE" 275 (.int 9 274),kE P "PLACE_WORDS" 278 (.ref 73),kE P "LONE_WORDS" 296 (.ref 74),kE P "is_lock" 302 (.ref 79),kE P "are_keys" 308 (.ref 84),kE P "is_short" 315 (.ref 91),kE P "is_row" 322 (.ref 98),kE P "ifs_fit" 331 (.ref 105),kE P "MOST_INS" 335 (.int 8 334),kE P "MOST_OUTS" 337 (.int 8 336)] 28),#[]⟩
noncomputable abbrev o12_c22:PySem.Obj:=⟨.none,none,(.fields #[(.int 2 0),(.int 0 0),(.ref 20),(.int 4 0),(.int 0 0),(.ref 33),(.int 6 0),(.int 0 0),(.ref 45),(.int 9 0),(.int 0 0),(.ref 57),(.int 11 0),(.int 0 0),(.ref 64),(.int 13 0),(.int 0 0),(.ref 71),(.int 22 0),(.int 0 0),(.ref 78),(.int 26 0),(.int 0 0),(.ref 83),(.int 28 0),(.int 0 0),(.ref 90),(.int 30 0),(.int 0 0),(.ref 97),(.int 38 0),(.int 0 0),(.ref 104)]),#[]⟩
noncomputable def h_c22 (P:Params):PySem.Heap:=⟨⟨PySem.W.boot_o_0 P :: PySem.W.boot_o_1 P :: PySem.W.boot_o_2 P :: o3_c22 P :: PySem.W.boot_o_4 P :: PySem.W.boot_o_5 P :: PySem.W.boot_o_6 P :: PySem.W.boot_o_7 P :: PySem.W.boot_o_8 P :: PySem.W.boot_o_9 P :: PySem.W.boot_o_10 P :: o11 :: o12_c22 :: o13 :: o14 :: o15 :: o16 :: o17 P :: o11 :: o19 :: o20 :: o21 :: o11 :: o23 P :: o24 :: o25 :: o26 :: o27 :: o28 :: o16 :: o30 P :: o11 :: o19 :: o33 :: o34 :: o11 :: o36 P :: o37 :: o38 :: o39 :: o28 :: o16 :: o42 P :: o11 :: o19 :: o45 :: o46 :: o11 :: o48 P :: o49 :: o50 :: o51 :: o11 :: o19 :: o54 :: o11 :: o56 :: o57 :: o58 :: o11 :: o19 :: o61 :: o11 :: o63 :: o64 :: o65 :: o11 :: o19 :: o68 :: o11 :: o70 :: o71 :: o72 :: o73 :: o74 :: o11 :: o19 :: o77 :: o78 :: o79 :: o11 :: o19 :: o82 :: o83 :: o84 :: o11 :: o19 :: o87 :: o11 :: o89 :: o90 :: o91 :: o11 :: o19 :: o94 :: o11 :: o96 :: o97 :: o98 :: o11 :: o19 :: o101 :: o11 :: o103 :: o104 :: o105 :: []⟩,(PySem.W.boot_heap P).life⟩
noncomputable abbrev o3_c63 (P:Params):PySem.Obj:=⟨(.type "dict"),none,(.dict #[kE P "__name__" 165 (.str "law_spentonce_k64_blocks" 547),kE P "__doc__" 166 .none,kE P "__package__" 167 .none,kE P "__loader__" 168 (.builtin "__main__.__loader__#opaque"),kE P "__spec__" 169 .none,kE P "__annotations__" 170 (.ref 6),kE P "__builtins__" 171 (.ref 4),kE P "__file__" 173 (.str "/claim/cut.py" 172),kE P "__cached__" 174 .none,kE P "CoinError" 206 (.ref 24),kE P "NoBlock" 222 (.ref 37),kE P "NoText" 238 (.ref 49),kE P "is_whole" 247 (.ref 58),kE P "is_within" 256 (.ref 65),kE P "is_tuple" 265 (.ref 72),kE P "MOST_ROWS" 269 (.int 30 268),kE P "MOST_KEYS" 271 (.int 10 270),kE P "MOST_IFS_WITHIN" 273 (.int 5 272),kE P "LAST_PLACE" 275 (.int 9 274),kE P "PLACE_WORDS" 278 (.ref 73),kE P "LONE_WORDS" 296 (.ref 74),kE P "is_lock" 302 (.ref 79),kE P "are_keys" 308 (.ref 84),kE P "is_short" 315 (.ref 91),kE P "is_row" 322 (.ref 98),kE P "ifs_fit" 331 (.ref 105),kE P "MOST_INS" 335 (.int 8 334),kE P "MOST_OUTS" 337 (.int 8 336),kE P "is_maker" 344 (.ref 112),kE P "is_deed" 351 (.ref 119),kE P "are_ins" 357 (.ref 124),kE P "is_in" 364 (.ref 131),kE P "is_coin" 370 (.ref 136),kE P "are_outs" 376 (.ref 141),kE P "is_out" 383 (.ref 148),kE P "MOST_DEEDS" 387 (.int 12 386),kE P "checked_block" 394 (.ref 155),kE P "is_block" 401 (.ref 162),kE P "are_deeds" 407 (.ref 167),kE P "EMPTY_LOCK" 411 (.str "-" 410),kE P "shown_coin" 417 (.ref 172),kE P "shown_lock" 423 (.ref 177),kE P "shown_row" 429 (.ref 182),kE P "shown_deed" 435 (.ref 187),kE P "shown_in" 441 (.ref 192),kE P "shown_out" 448 (.ref 199),kE P "shown_block" 454 (.ref 204),kE P "MOST_FIGURES" 458 (.int 60 457),kE P "FIGURES" 460 (.str "0123456789" 459),kE P "SMALL_LETTERS" 462 (.str "abcdefghijklmnopqrstuvwxyz" 461),kE P "read_number" 469 (.ref 211),kE P "read_coin" 475 (.ref 216),kE P "read_block" 482 (.ref 223),kE P "checked_text" 489 (.ref 230),kE P "is_number" 497 (.ref 237),kE P "is_made_of" 503 (.ref 242),kE P "formed_lock" 509 (.ref 247),kE P "formed_row" 515 (.ref 252),kE P "formed_deed" 526 (.ref 259),kE P "formed_in" 532 (.ref 264),kE P "formed_out" 540 (.ref 271),kE P "formed_block" 546 (.ref 276),kE P "_law_mixed" 555 (.ref 283),kE P "_law_large" 566 (.ref 290),kE P "_law_row_by" 576 (.ref 297)] 65),#[]⟩
noncomputable abbrev o12_c63:PySem.Obj:=⟨.none,none,(.fields #[(.int 2 0),(.int 0 0),(.ref 20),(.int 4 0),(.int 0 0),(.ref 33),(.int 6 0),(.int 0 0),(.ref 45),(.int 9 0),(.int 0 0),(.ref 57),(.int 11 0),(.int 0 0),(.ref 64),(.int 13 0),(.int 0 0),(.ref 71),(.int 22 0),(.int 0 0),(.ref 78),(.int 26 0),(.int 0 0),(.ref 83),(.int 28 0),(.int 0 0),(.ref 90),(.int 30 0),(.int 0 0),(.ref 97),(.int 38 0),(.int 0 0),(.ref 104),(.int 57 0),(.int 0 0),(.ref 111),(.int 59 0),(.int 0 0),(.ref 118),(.int 63 0),(.int 0 0),(.ref 123),(.int 65 0),(.int 0 0),(.ref 130),(.int 67 0),(.int 0 0),(.ref 135),(.int 69 0),(.int 0 0),(.ref 140),(.int 71 0),(.int 0 0),(.ref 147),(.int 75 0),(.int 0 0),(.ref 154),(.int 79 0),(.int 0 0),(.ref 161),(.int 83 0),(.int 0 0),(.ref 166),(.int 89 0),(.int 0 0),(.ref 171),(.int 91 0),(.int 0 0),(.ref 176),(.int 95 0),(.int 0 0),(.ref 181),(.int 97 0),(.int 0 0),(.ref 186),(.int 101 0),(.int 0 0),(.ref 191),(.int 103 0),(.int 0 0),(.ref 198),(.int 105 0),(.int 0 0),(.ref 203),(.int 112 0),(.int 0 0),(.ref 210),(.int 116 0),(.int 0 0),(.ref 215),(.int 121 0),(.int 0 0),(.ref 222),(.int 123 0),(.int 0 0),(.ref 229),(.int 127 0),(.int 0 0),(.ref 236),(.int 132 0),(.int 0 0),(.ref 241),(.int 134 0),(.int 0 0),(.ref 246),(.int 138 0),(.int 0 0),(.ref 251),(.int 143 0),(.int 0 0),(.ref 258),(.int 153 0),(.int 0 0),(.ref 263),(.int 156 0),(.int 0 0),(.ref 270),(.int 161 0),(.int 0 0),(.ref 275),(.int 169 0),(.int 0 0),(.ref 282),(.int 171 0),(.int 0 0),(.ref 289),(.int 180 0),(.int 0 0),(.ref 296)]),#[]⟩
noncomputable def h_c63 (P:Params):PySem.Heap:=⟨⟨PySem.W.boot_o_0 P :: PySem.W.boot_o_1 P :: PySem.W.boot_o_2 P :: o3_c63 P :: PySem.W.boot_o_4 P :: PySem.W.boot_o_5 P :: PySem.W.boot_o_6 P :: PySem.W.boot_o_7 P :: PySem.W.boot_o_8 P :: PySem.W.boot_o_9 P :: PySem.W.boot_o_10 P :: o11 :: o12_c63 :: o13 :: o14 :: o15 :: o16 :: o17 P :: o11 :: o19 :: o20 :: o21 :: o11 :: o23 P :: o24 :: o25 :: o26 :: o27 :: o28 :: o16 :: o30 P :: o11 :: o19 :: o33 :: o34 :: o11 :: o36 P :: o37 :: o38 :: o39 :: o28 :: o16 :: o42 P :: o11 :: o19 :: o45 :: o46 :: o11 :: o48 P :: o49 :: o50 :: o51 :: o11 :: o19 :: o54 :: o11 :: o56 :: o57 :: o58 :: o11 :: o19 :: o61 :: o11 :: o63 :: o64 :: o65 :: o11 :: o19 :: o68 :: o11 :: o70 :: o71 :: o72 :: o73 :: o74 :: o11 :: o19 :: o77 :: o78 :: o79 :: o11 :: o19 :: o82 :: o83 :: o84 :: o11 :: o19 :: o87 :: o11 :: o89 :: o90 :: o91 :: o11 :: o19 :: o94 :: o11 :: o96 :: o97 :: o98 :: o11 :: o19 :: o101 :: o11 :: o103 :: o104 :: o105 :: o11 :: o19 :: o108 :: o11 :: o110 :: o111 :: o112 :: o11 :: o19 :: o115 :: o11 :: o117 :: o118 :: o119 :: o11 :: o19 :: o122 :: o123 :: o124 :: o11 :: o19 :: o127 :: o11 :: o129 :: o130 :: o131 :: o11 :: o19 :: o134 :: o135 :: o136 :: o11 :: o19 :: o139 :: o140 :: o141 :: o11 :: o19 :: o144 :: o11 :: o146 :: o147 :: o148 :: o11 :: o19 :: o151 :: o11 :: o153 :: o154 :: o155 :: o11 :: o19 :: o158 :: o11 :: o160 :: o161 :: o162 :: o11 :: o19 :: o165 :: o166 :: o167 :: o11 :: o19 :: o170 :: o171 :: o172 :: o11 :: o19 :: o175 :: o176 :: o177 :: o11 :: o19 :: o180 :: o181 :: o182 :: o11 :: o19 :: o185 :: o186 :: o187 :: o11 :: o19 :: o190 :: o191 :: o192 :: o11 :: o19 :: o195 :: o11 :: o197 :: o198 :: o199 :: o11 :: o19 :: o202 :: o203 :: o204 :: o11 :: o19 :: o207 :: o11 :: o209 :: o210 :: o211 :: o11 :: o19 :: o214 :: o215 :: o216 :: o11 :: o19 :: o219 :: o11 :: o221 :: o222 :: o223 :: o11 :: o19 :: o226 :: o11 :: o228 :: o229 :: o230 :: o11 :: o19 :: o233 :: o11 :: o235 :: o236 :: o237 :: o11 :: o19 :: o240 :: o241 :: o242 :: o11 :: o19 :: o245 :: o246 :: o247 :: o11 :: o19 :: o250 :: o251 :: o252 :: o11 :: o19 :: o255 :: o11 :: o257 :: o258 :: o259 :: o11 :: o19 :: o262 :: o263 :: o264 :: o11 :: o19 :: o267 :: o11 :: o269 :: o270 :: o271 :: o11 :: o19 :: o274 :: o275 :: o276 :: o11 :: o19 :: o279 :: o11 :: o281 :: o282 :: o283 :: o11 :: o19 :: o286 :: o11 :: o288 :: o289 :: o290 :: o11 :: o19 :: o293 :: o11 :: o295 :: o296 :: o297 :: []⟩,(PySem.W.boot_heap P).life⟩
noncomputable def h_c73 (P:Params):PySem.Heap:=⟨⟨PySem.W.boot_o_0 P :: PySem.W.boot_o_1 P :: PySem.W.boot_o_2 P :: o3 P :: PySem.W.boot_o_4 P :: PySem.W.boot_o_5 P :: PySem.W.boot_o_6 P :: PySem.W.boot_o_7 P :: PySem.W.boot_o_8 P :: PySem.W.boot_o_9 P :: PySem.W.boot_o_10 P :: o11 :: o12 :: o13 :: o14 :: o15 :: o16 :: o17 P :: o11 :: o19 :: o20 :: o21 :: o11 :: o23 P :: o24 :: o25 :: o26 :: o27 :: o28 :: o16 :: o30 P :: o11 :: o19 :: o33 :: o34 :: o11 :: o36 P :: o37 :: o38 :: o39 :: o28 :: o16 :: o42 P :: o11 :: o19 :: o45 :: o46 :: o11 :: o48 P :: o49 :: o50 :: o51 :: o11 :: o19 :: o54 :: o11 :: o56 :: o57 :: o58 :: o11 :: o19 :: o61 :: o11 :: o63 :: o64 :: o65 :: o11 :: o19 :: o68 :: o11 :: o70 :: o71 :: o72 :: o73 :: o74 :: o11 :: o19 :: o77 :: o78 :: o79 :: o11 :: o19 :: o82 :: o83 :: o84 :: o11 :: o19 :: o87 :: o11 :: o89 :: o90 :: o91 :: o11 :: o19 :: o94 :: o11 :: o96 :: o97 :: o98 :: o11 :: o19 :: o101 :: o11 :: o103 :: o104 :: o105 :: o11 :: o19 :: o108 :: o11 :: o110 :: o111 :: o112 :: o11 :: o19 :: o115 :: o11 :: o117 :: o118 :: o119 :: o11 :: o19 :: o122 :: o123 :: o124 :: o11 :: o19 :: o127 :: o11 :: o129 :: o130 :: o131 :: o11 :: o19 :: o134 :: o135 :: o136 :: o11 :: o19 :: o139 :: o140 :: o141 :: o11 :: o19 :: o144 :: o11 :: o146 :: o147 :: o148 :: o11 :: o19 :: o151 :: o11 :: o153 :: o154 :: o155 :: o11 :: o19 :: o158 :: o11 :: o160 :: o161 :: o162 :: o11 :: o19 :: o165 :: o166 :: o167 :: o11 :: o19 :: o170 :: o171 :: o172 :: o11 :: o19 :: o175 :: o176 :: o177 :: o11 :: o19 :: o180 :: o181 :: o182 :: o11 :: o19 :: o185 :: o186 :: o187 :: o11 :: o19 :: o190 :: o191 :: o192 :: o11 :: o19 :: o195 :: o11 :: o197 :: o198 :: o199 :: o11 :: o19 :: o202 :: o203 :: o204 :: o11 :: o19 :: o207 :: o11 :: o209 :: o210 :: o211 :: o11 :: o19 :: o214 :: o215 :: o216 :: o11 :: o19 :: o219 :: o11 :: o221 :: o222 :: o223 :: o11 :: o19 :: o226 :: o11 :: o228 :: o229 :: o230 :: o11 :: o19 :: o233 :: o11 :: o235 :: o236 :: o237 :: o11 :: o19 :: o240 :: o241 :: o242 :: o11 :: o19 :: o245 :: o246 :: o247 :: o11 :: o19 :: o250 :: o251 :: o252 :: o11 :: o19 :: o255 :: o11 :: o257 :: o258 :: o259 :: o11 :: o19 :: o262 :: o263 :: o264 :: o11 :: o19 :: o267 :: o11 :: o269 :: o270 :: o271 :: o11 :: o19 :: o274 :: o275 :: o276 :: o11 :: o19 :: o279 :: o11 :: o281 :: o282 :: o283 :: o11 :: o19 :: o286 :: o11 :: o288 :: o289 :: o290 :: o11 :: o19 :: o293 :: o11 :: o295 :: o296 :: o297 :: o11 :: o19 :: o300 :: o11 :: o302 :: o303 :: o304 :: o11 :: o19 :: o307 :: o11 :: o309 :: o310 :: o311 :: o11 :: o19 :: o314 :: o11 :: o316 :: o317 :: o318 :: o11 :: o19 :: o321 :: o322 :: o323 :: o11 :: o19 :: o326 :: o327 :: o328 :: o11 :: o19 :: o331 :: o11 :: o333 :: o334 :: o335 :: o11 :: o19 :: o338 :: o339 :: o340 :: o11 :: o19 :: o343 :: o11 :: o345 :: o346 :: o347 :: o11 :: o19 :: o350 :: o351 :: o352 :: o11 :: o19 :: o355 :: o11 :: o357 :: o358 :: o359 :: []⟩,(PySem.W.boot_heap P).life⟩
noncomputable def h_fin (P:Params):PySem.Heap:=⟨⟨PySem.W.boot_o_0 P :: PySem.W.boot_o_1 P :: PySem.W.boot_o_2 P :: o3 P :: PySem.W.boot_o_4 P :: PySem.W.boot_o_5 P :: PySem.W.boot_o_6 P :: PySem.W.boot_o_7 P :: PySem.W.boot_o_8 P :: PySem.W.boot_o_9 P :: PySem.W.boot_o_10 P :: o11 :: o12 :: o13 :: o14 :: o15 :: o16 :: o17 P :: o11 :: o19 :: o20 :: o21 :: o11 :: o23 P :: o24 :: o25 :: o26 :: o27 :: o28 :: o16 :: o30 P :: o11 :: o19 :: o33 :: o34 :: o11 :: o36 P :: o37 :: o38 :: o39 :: o28 :: o16 :: o42 P :: o11 :: o19 :: o45 :: o46 :: o11 :: o48 P :: o49 :: o50 :: o51 :: o11 :: o19 :: o54 :: o11 :: o56 :: o57 :: o58 :: o11 :: o19 :: o61 :: o11 :: o63 :: o64 :: o65 :: o11 :: o19 :: o68 :: o11 :: o70 :: o71 :: o72 :: o73 :: o74 :: o11 :: o19 :: o77 :: o78 :: o79 :: o11 :: o19 :: o82 :: o83 :: o84 :: o11 :: o19 :: o87 :: o11 :: o89 :: o90 :: o91 :: o11 :: o19 :: o94 :: o11 :: o96 :: o97 :: o98 :: o11 :: o19 :: o101 :: o11 :: o103 :: o104 :: o105 :: o11 :: o19 :: o108 :: o11 :: o110 :: o111 :: o112 :: o11 :: o19 :: o115 :: o11 :: o117 :: o118 :: o119 :: o11 :: o19 :: o122 :: o123 :: o124 :: o11 :: o19 :: o127 :: o11 :: o129 :: o130 :: o131 :: o11 :: o19 :: o134 :: o135 :: o136 :: o11 :: o19 :: o139 :: o140 :: o141 :: o11 :: o19 :: o144 :: o11 :: o146 :: o147 :: o148 :: o11 :: o19 :: o151 :: o11 :: o153 :: o154 :: o155 :: o11 :: o19 :: o158 :: o11 :: o160 :: o161 :: o162 :: o11 :: o19 :: o165 :: o166 :: o167 :: o11 :: o19 :: o170 :: o171 :: o172 :: o11 :: o19 :: o175 :: o176 :: o177 :: o11 :: o19 :: o180 :: o181 :: o182 :: o11 :: o19 :: o185 :: o186 :: o187 :: o11 :: o19 :: o190 :: o191 :: o192 :: o11 :: o19 :: o195 :: o11 :: o197 :: o198 :: o199 :: o11 :: o19 :: o202 :: o203 :: o204 :: o11 :: o19 :: o207 :: o11 :: o209 :: o210 :: o211 :: o11 :: o19 :: o214 :: o215 :: o216 :: o11 :: o19 :: o219 :: o11 :: o221 :: o222 :: o223 :: o11 :: o19 :: o226 :: o11 :: o228 :: o229 :: o230 :: o11 :: o19 :: o233 :: o11 :: o235 :: o236 :: o237 :: o11 :: o19 :: o240 :: o241 :: o242 :: o11 :: o19 :: o245 :: o246 :: o247 :: o11 :: o19 :: o250 :: o251 :: o252 :: o11 :: o19 :: o255 :: o11 :: o257 :: o258 :: o259 :: o11 :: o19 :: o262 :: o263 :: o264 :: o11 :: o19 :: o267 :: o11 :: o269 :: o270 :: o271 :: o11 :: o19 :: o274 :: o275 :: o276 :: o11 :: o19 :: o279 :: o11 :: o281 :: o282 :: o283 :: o11 :: o19 :: o286 :: o11 :: o288 :: o289 :: o290 :: o11 :: o19 :: o293 :: o11 :: o295 :: o296 :: o297 :: o11 :: o19 :: o300 :: o11 :: o302 :: o303 :: o304 :: o11 :: o19 :: o307 :: o11 :: o309 :: o310 :: o311 :: o11 :: o19 :: o314 :: o11 :: o316 :: o317 :: o318 :: o11 :: o19 :: o321 :: o322 :: o323 :: o11 :: o19 :: o326 :: o327 :: o328 :: o11 :: o19 :: o331 :: o11 :: o333 :: o334 :: o335 :: o11 :: o19 :: o338 :: o339 :: o340 :: o11 :: o19 :: o343 :: o11 :: o345 :: o346 :: o347 :: o11 :: o19 :: o350 :: o351 :: o352 :: o11 :: o19 :: o355 :: o11 :: o357 :: o358 :: o359 :: []⟩,(PySem.W.boot_heap P).life⟩
noncomputable def K (P:Params):PySem.W.Frag :=
  (nat_lit 2,PySem.W.boot_o_2 P) ::
  (nat_lit 3,o3 P) ::
  (nat_lit 15,o15) ::
  (nat_lit 22,o11) ::
  (nat_lit 23,o23 P) ::
  (nat_lit 24,o24) ::
  (nat_lit 25,o25) ::
  (nat_lit 28,o28) ::
  (nat_lit 35,o11) ::
  (nat_lit 36,o36 P) ::
  (nat_lit 37,o37) ::
  (nat_lit 40,o28) ::
  (nat_lit 47,o11) ::
  (nat_lit 48,o48 P) ::
  (nat_lit 49,o49) ::
  (nat_lit 52,o11) ::
  (nat_lit 54,o54) ::
  (nat_lit 55,o11) ::
  (nat_lit 57,o57) ::
  (nat_lit 58,o58) ::
  (nat_lit 59,o11) ::
  (nat_lit 61,o61) ::
  (nat_lit 62,o11) ::
  (nat_lit 64,o64) ::
  (nat_lit 65,o65) ::
  (nat_lit 66,o11) ::
  (nat_lit 68,o68) ::
  (nat_lit 69,o11) ::
  (nat_lit 71,o71) ::
  (nat_lit 72,o72) ::
  (nat_lit 73,o73) ::
  (nat_lit 74,o74) ::
  (nat_lit 75,o11) ::
  (nat_lit 78,o78) ::
  (nat_lit 79,o79) ::
  (nat_lit 80,o11) ::
  (nat_lit 83,o83) ::
  (nat_lit 84,o84) ::
  (nat_lit 85,o11) ::
  (nat_lit 87,o87) ::
  (nat_lit 88,o11) ::
  (nat_lit 90,o90) ::
  (nat_lit 91,o91) ::
  (nat_lit 92,o11) ::
  (nat_lit 94,o94) ::
  (nat_lit 95,o11) ::
  (nat_lit 97,o97) ::
  (nat_lit 98,o98) ::
  (nat_lit 99,o11) ::
  (nat_lit 101,o101) ::
  (nat_lit 102,o11) ::
  (nat_lit 104,o104) ::
  (nat_lit 105,o105) ::
  (nat_lit 106,o11) ::
  (nat_lit 108,o108) ::
  (nat_lit 109,o11) ::
  (nat_lit 111,o111) ::
  (nat_lit 112,o112) ::
  (nat_lit 113,o11) ::
  (nat_lit 115,o115) ::
  (nat_lit 116,o11) ::
  (nat_lit 118,o118) ::
  (nat_lit 119,o119) ::
  (nat_lit 120,o11) ::
  (nat_lit 123,o123) ::
  (nat_lit 124,o124) ::
  (nat_lit 125,o11) ::
  (nat_lit 127,o127) ::
  (nat_lit 128,o11) ::
  (nat_lit 130,o130) ::
  (nat_lit 131,o131) ::
  (nat_lit 132,o11) ::
  (nat_lit 135,o135) ::
  (nat_lit 136,o136) ::
  (nat_lit 137,o11) ::
  (nat_lit 140,o140) ::
  (nat_lit 141,o141) ::
  (nat_lit 142,o11) ::
  (nat_lit 144,o144) ::
  (nat_lit 145,o11) ::
  (nat_lit 147,o147) ::
  (nat_lit 148,o148) ::
  (nat_lit 149,o11) ::
  (nat_lit 151,o151) ::
  (nat_lit 152,o11) ::
  (nat_lit 154,o154) ::
  (nat_lit 155,o155) ::
  (nat_lit 156,o11) ::
  (nat_lit 158,o158) ::
  (nat_lit 159,o11) ::
  (nat_lit 161,o161) ::
  (nat_lit 162,o162) ::
  (nat_lit 163,o11) ::
  (nat_lit 166,o166) ::
  (nat_lit 167,o167) ::
  (nat_lit 168,o11) ::
  (nat_lit 171,o171) ::
  (nat_lit 172,o172) ::
  (nat_lit 173,o11) ::
  (nat_lit 176,o176) ::
  (nat_lit 177,o177) ::
  (nat_lit 178,o11) ::
  (nat_lit 181,o181) ::
  (nat_lit 182,o182) ::
  (nat_lit 183,o11) ::
  (nat_lit 186,o186) ::
  (nat_lit 187,o187) ::
  (nat_lit 188,o11) ::
  (nat_lit 191,o191) ::
  (nat_lit 192,o192) ::
  (nat_lit 193,o11) ::
  (nat_lit 195,o195) ::
  (nat_lit 196,o11) ::
  (nat_lit 198,o198) ::
  (nat_lit 199,o199) ::
  (nat_lit 200,o11) ::
  (nat_lit 203,o203) ::
  (nat_lit 204,o204) ::
  (nat_lit 205,o11) ::
  (nat_lit 207,o207) ::
  (nat_lit 208,o11) ::
  (nat_lit 210,o210) ::
  (nat_lit 211,o211) ::
  (nat_lit 212,o11) ::
  (nat_lit 215,o215) ::
  (nat_lit 216,o216) ::
  (nat_lit 217,o11) ::
  (nat_lit 219,o219) ::
  (nat_lit 220,o11) ::
  (nat_lit 222,o222) ::
  (nat_lit 223,o223) ::
  (nat_lit 224,o11) ::
  (nat_lit 226,o226) ::
  (nat_lit 227,o11) ::
  (nat_lit 229,o229) ::
  (nat_lit 230,o230) ::
  (nat_lit 231,o11) ::
  (nat_lit 233,o233) ::
  (nat_lit 234,o11) ::
  (nat_lit 236,o236) ::
  (nat_lit 237,o237) ::
  (nat_lit 238,o11) ::
  (nat_lit 241,o241) ::
  (nat_lit 242,o242) ::
  (nat_lit 243,o11) ::
  (nat_lit 246,o246) ::
  (nat_lit 247,o247) ::
  (nat_lit 248,o11) ::
  (nat_lit 251,o251) ::
  (nat_lit 252,o252) ::
  (nat_lit 253,o11) ::
  (nat_lit 255,o255) ::
  (nat_lit 256,o11) ::
  (nat_lit 258,o258) ::
  (nat_lit 259,o259) ::
  (nat_lit 260,o11) ::
  (nat_lit 263,o263) ::
  (nat_lit 264,o264) ::
  (nat_lit 265,o11) ::
  (nat_lit 267,o267) ::
  (nat_lit 268,o11) ::
  (nat_lit 270,o270) ::
  (nat_lit 271,o271) ::
  (nat_lit 272,o11) ::
  (nat_lit 275,o275) ::
  (nat_lit 276,o276) ::
  (nat_lit 277,o11) ::
  (nat_lit 279,o279) ::
  (nat_lit 280,o11) ::
  (nat_lit 282,o282) ::
  (nat_lit 283,o283) ::
  (nat_lit 284,o11) ::
  (nat_lit 286,o286) ::
  (nat_lit 287,o11) ::
  (nat_lit 289,o289) ::
  (nat_lit 290,o290) ::
  (nat_lit 291,o11) ::
  (nat_lit 293,o293) ::
  (nat_lit 294,o11) ::
  (nat_lit 296,o296) ::
  (nat_lit 297,o297) ::
  (nat_lit 298,o11) ::
  (nat_lit 300,o300) ::
  (nat_lit 301,o11) ::
  (nat_lit 303,o303) ::
  (nat_lit 304,o304) ::
  (nat_lit 305,o11) ::
  (nat_lit 307,o307) ::
  (nat_lit 308,o11) ::
  (nat_lit 310,o310) ::
  (nat_lit 311,o311) ::
  (nat_lit 312,o11) ::
  (nat_lit 314,o314) ::
  (nat_lit 315,o11) ::
  (nat_lit 317,o317) ::
  (nat_lit 318,o318) ::
  (nat_lit 319,o11) ::
  (nat_lit 322,o322) ::
  (nat_lit 323,o323) ::
  (nat_lit 324,o11) ::
  (nat_lit 327,o327) ::
  (nat_lit 328,o328) ::
  (nat_lit 329,o11) ::
  (nat_lit 331,o331) ::
  (nat_lit 332,o11) ::
  (nat_lit 334,o334) ::
  (nat_lit 335,o335) ::
  (nat_lit 336,o11) ::
  (nat_lit 339,o339) ::
  (nat_lit 340,o340) ::
  (nat_lit 341,o11) ::
  (nat_lit 343,o343) ::
  (nat_lit 344,o11) ::
  (nat_lit 346,o346) ::
  (nat_lit 347,o347) ::
  (nat_lit 348,o11) ::
  (nat_lit 351,o351) ::
  (nat_lit 352,o352) ::
  (nat_lit 353,o11) ::
  (nat_lit 355,o355) ::
  (nat_lit 356,o11) ::
  (nat_lit 358,o358) ::
  (nat_lit 359,o359) :: []
noncomputable def loose:List Str:=[]
noncomputable def as:List Addr:=[2,3,15,22,23,24,25,28,35,36,37,40,47,48,49,52,54,55,57,58,59,61,62,64,65,66,68,69,71,72,73,74,75,78,79,80,83,84,85,87,88,90,91,92,94,95,97,98,99,101,102,104,105,106,108,109,111,112,113,115,116,118,119,120,123,124,125,127,128,130,131,132,135,136,137,140,141,142,144,145,147,148,149,151,152,154,155,156,158,159,161,162,163,166,167,168,171,172,173,176,177,178,181,182,183,186,187,188,191,192,193,195,196,198,199,200,203,204,205,207,208,210,211,212,215,216,217,219,220,222,223,224,226,227,229,230,231,233,234,236,237,238,241,242,243,246,247,248,251,252,253,255,256,258,259,260,263,264,265,267,268,270,271,272,275,276,277,279,280,282,283,284,286,287,289,290,291,293,294,296,297,298,300,301,303,304,305,307,308,310,311,312,314,315,317,318,319,322,323,324,327,328,329,331,332,334,335,336,339,340,341,343,344,346,347,348,351,352,353,355,356,358,359]
theorem asK:∀ P,as = (K P).map (·.1):=fun _=>by kernel_rfl
theorem said:PySem.Challenge.rw_spentonce_k64_blocks.wellSaid = true:=by kernel_rfl
noncomputable abbrev bd:List Stmt:=behindTheImports PySem.Challenge.pw_spentonce_k64_blocks
noncomputable def env:Env:={ scope:=PySem.Challenge.pw_spentonce_k64_blocks.main.scope,locals:=mainNs,globals:=mainNs,cells:=[],code:=(.ref 13),frame:=some 14 }
noncomputable abbrev cd:Code:=.body bd env
theorem r_pre:∀ w:World,(fun os=>topGo treeTable PySem.Challenge.pw_spentonce_k64_blocks w (nat_lit 11) (some (.ref 6)) (nat_lit 12) ⟨PySem.W.boot_heap w.params,⟨[]⟩,PySem.W.boot_drawn,PySem.W.boot_toks,os⟩ (topStub PySem.Challenge.pw_spentonce_k64_blocks)) = fun os=>some (⟨h_pre w.params,⟨[]⟩,⟨0,0,0,0⟩,nat_lit 187,os⟩,(⟨denote treeTable cd,cd,⟨0,0,0,0⟩,[topFrame ⟨0,0,0,0⟩]⟩:Thread)):=fun w=>by kernel_rfl
theorem r_block:∀ w:World,(fun os=>segRun treeTable PySem.Challenge.pw_spentonce_k64_blocks w (nat_lit 11) (some (.ref 6)) (nat_lit 1) (nat_lit 1) ⟨h_pre w.params,⟨[]⟩,⟨0,0,0,0⟩,nat_lit 187,os⟩ (blockOf bd env cd ⟨0,0,0,0⟩ [topFrame ⟨0,0,0,0⟩])) = fun os=>some (.next,(⟨h_block w.params,⟨[]⟩,⟨0,0,0,0⟩,nat_lit 187,os⟩:Shared),cd,(⟨0,0,0,0⟩:Pos)):=fun w=>by kernel_rfl
noncomputable def st22:List Stmt:=(bd.drop 0).take 23
theorem r_c22:∀ w:World,(fun os=>segRun treeTable PySem.Challenge.pw_spentonce_k64_blocks w (nat_lit 11) (some (.ref 6)) (nat_lit 1) (nat_lit 975) ⟨h_block w.params,⟨[]⟩,⟨0,0,0,0⟩,nat_lit 187,os⟩ (piecesOf st22 env cd ⟨0,0,0,0⟩ [topFrame ⟨0,0,0,0⟩])) = fun os=>some (.next,(⟨h_c22 w.params,⟨[]⟩,⟨0,0,0,0⟩,nat_lit 338,os⟩:Shared),cd,(⟨56,0,56,9⟩:Pos)):=fun w=>by kernel_rfl
noncomputable def st63:List Stmt:=(bd.drop 23).take 41
theorem r_c63:∀ w:World,(fun os=>segRun treeTable PySem.Challenge.pw_spentonce_k64_blocks w (nat_lit 11) (some (.ref 6)) (nat_lit 1) (nat_lit 976) ⟨h_c22 w.params,⟨[]⟩,⟨0,0,0,0⟩,nat_lit 338,os⟩ (piecesOf st63 env cd ⟨56,0,56,9⟩ [topFrame ⟨0,0,0,0⟩])) = fun os=>some (.next,(⟨h_c63 w.params,⟨[]⟩,⟨0,0,0,0⟩,nat_lit 577,os⟩:Shared),cd,(⟨180,0,190,72⟩:Pos)):=fun w=>by kernel_rfl
noncomputable def st73:List Stmt:=(bd.drop 64).take 10
theorem r_c73:∀ w:World,(fun os=>segRun treeTable PySem.Challenge.pw_spentonce_k64_blocks w (nat_lit 11) (some (.ref 6)) (nat_lit 1) (nat_lit 313) ⟨h_c63 w.params,⟨[]⟩,⟨0,0,0,0⟩,nat_lit 577,os⟩ (piecesOf st73 env cd ⟨180,0,190,72⟩ [topFrame ⟨0,0,0,0⟩])) = fun os=>some (.next,(⟨h_c73 w.params,⟨[]⟩,⟨0,0,0,0⟩,nat_lit 676,os⟩:Shared),cd,(⟨263,0,272,15⟩:Pos)):=fun w=>by kernel_rfl
theorem r_fin:∀ w:World,(fun os=>topRun treeTable PySem.Challenge.pw_spentonce_k64_blocks w (nat_lit 11) (some (.ref 6)) (nat_lit 2) ⟨h_c73 w.params,⟨[]⟩,⟨0,0,0,0⟩,nat_lit 676,os⟩ ⟨doneF .next,cd,⟨263,0,272,15⟩,[topFrame ⟨0,0,0,0⟩]⟩) = fun os=>some (⟨h_fin w.params,⟨[]⟩,⟨0,0,0,0⟩,nat_lit 676,os⟩:Shared):=fun w=>by kernel_rfl
theorem bd_is:bd = st22 ++ (st63 ++ (st73 ++ [])):=by kernel_rfl
theorem r_rest (w:World) (os:OsState):topRun treeTable PySem.Challenge.pw_spentonce_k64_blocks w (nat_lit 11) (some (.ref 6)) (nat_lit 2266) ⟨h_block w.params,⟨[]⟩,⟨0,0,0,0⟩,nat_lit 187,os⟩ (restOf bd env cd ⟨0,0,0,0⟩ [topFrame ⟨0,0,0,0⟩]) = some ⟨h_fin w.params,⟨[]⟩,⟨0,0,0,0⟩,nat_lit 676,os⟩:=by
  have h:=piece_app (congrFun (r_c22 w) os) (piece_app (congrFun (r_c63 w) os) (piece_app (congrFun (r_c73 w) os) (piece_nil (congrFun (r_fin w) os))))
  rw [← bd_is] at h
  exact h
theorem run_ (w:World) (os:OsState):topRun treeTable PySem.Challenge.pw_spentonce_k64_blocks w (nat_lit 11) (some (.ref 6)) (nat_lit 2279) ⟨PySem.W.boot_heap w.params,⟨[]⟩,PySem.W.boot_drawn,PySem.W.boot_toks,os⟩ (topStub PySem.Challenge.pw_spentonce_k64_blocks) = some ⟨h_fin w.params,⟨[]⟩,⟨0,0,0,0⟩,nat_lit 676,os⟩ :=
  go_top (congrFun (r_pre w) os) (piece_block (congrFun (r_block w) os) (r_rest w os))
theorem looks (w:World):(fun os=>((staticsOk (importedModules PySem.Challenge.pw_spentonce_k64_blocks.main.body) (PySem.W.boot_heap w.params) (h_fin w.params) && namesBound PySem.Challenge.pw_spentonce_k64_blocks (h_fin w.params) && gensDone (⟨h_fin w.params,⟨[]⟩,⟨0,0,0,0⟩,nat_lit 676,os⟩:Shared) && laidKept (PySem.W.boot_heap w.params) (h_fin w.params)),openSeen q loose (importedModules PySem.Challenge.pw_spentonce_k64_blocks.main.body) (fun s:Shared=>xlAt q [] s && recOk [] s) true (⟨h_fin w.params,⟨[]⟩,⟨0,0,0,0⟩,nat_lit 676,os⟩:Shared),(fun s:Shared=>as.map s.heap.get?) (⟨h_fin w.params,⟨[]⟩,⟨0,0,0,0⟩,nat_lit 676,os⟩:Shared))) = fun _=>(true,openGood q loose,(fun w=>(K w.params).map fun p=>some p.2) w):=by kernel_rfl
theorem left:LeftO PySem.Challenge.pw_spentonce_k64_blocks q loose (fun s:Shared=>xlAt q [] s && recOk [] s) (fun s:Shared=>as.map s.heap.get?) (fun w=>(K w.params).map fun p=>some p.2) 4642 :=
  LeftO.of_pieces (boot_open (by kernel_rfl) (by decide) (fun _=>rfl)) (fun _=>by kernel_rfl) run_ (by decide) looks
noncomputable def defPos:Stmt→Pos
  | .FunctionDef _ _ _ _ _ _ _ _ _ p=>p
  | _=>⟨0,0,0,0⟩
noncomputable def dL:DefRec:=⟨"law",defArgs (top 73),defBody (top 73),defScope (top 73),defPos (top 73)⟩
end K64
open PySem PySem.W PyProof.Rows
set_option maxRecDepth 100000 in
set_option maxHeartbeats 0 in
theorem PySem.Challenge.cw_spentonce_k64_blocks_holds : PySem.Challenge.rw_spentonce_k64_blocks.Holds := by
  refine Mi.holds (q:=K64.q) (d:=K64.dL) K64.said K64.asK K64.left (by kernel_rfl) (by kernel_rfl) (by kernel_rfl) (by decide +kernel) ⟨rfl,rfl,rfl,rfl,rfl,by decide +kernel⟩ ?hw ?hc
  (case hw=>w_witness2)
  k_fill
  refine Mi.walk (l:=PySem.Challenge.rw_spentonce_k64_blocks) (T:=K64.T) (G:=K64.G) (B:=K64.B) (F:=K64.F) (O:=K64.O) (x:="_law_script") (W:=100) (n:=30) rfl rfl (fun w h Y=>Y) ⟨rfl,by decide,by decide⟩ rfl (by decide) ⟨_,rfl,rfl⟩ ?X K64.run
  case X =>
    intro w mg h KX hG
    refine' K64.txt KX hG ?f0 ?f1 ?f2 ?f3 ?f4 ?f5 ?f6 ?f7 ?f8 ?f9 ?f10 ?f11 ?f12 ?f13 ?f14 ?f15 ?f16 ?f17 ?f18 ?f19 ?f20 ?f21 ?f22 ?f23 ?f24 ?f25 ?f26 ?f27 ?f28 ?f29 ?f30 ?f31 ?f32 ?f33 ?f34 ?f35 ?f36 ?f37 ?f38 ?f39 ?f40 ?f41 ?f42 ?f43 ?f44 ?f45 ?f46 ?f47 ?f48 ?f49 ?b0 ?b1 ?b2 ?b3 ?b4 ?b5 ?b6 ?b7 ?b8 ?b9 ?b10 ?b11 ?zg0 ?zg1 ?zg2 ?zg3 ?zg4 ?zg5 ?zg6 ?zg7 ?zg8 ?zg9 ?zg10 ?zg11 ?zg12
    (case f0 | f1 | f2 | f3 | f4 | f5 | f6 | f7 | f8 | f9 | f10 | f11 | f12 | f13 | f14 | f15 | f16 | f17 | f18 | f19 | f20 | f21 | f22 | f23 | f24 | f25 | f26 | f27 | f28 | f29 | f30 | f31 | f32 | f33 | f34 | f35 | f36 | f37 | f38 | f39 | f40 | f41 | f42 | f43 | f44 | f45 | f46 | f47 | f48 | f49=>refine' Mi.fe_mk ?a ?l ?c ?k; (case a=>k_is); (case l=>k_is); (case c=>k_is); (case k=>k_is))
    (case b0 | b1 | b2 | b3 | b4 | b5 | b6 | b7 | b8 | b9 | b10 | b11=>unfold K64.Be; k_is)
    (case zg0=>k_is)
    (case zg1=>k_is)
    (case zg2=>refine' Mi.gv_strs ["drop","swap","add","sub","mul","less","same","not","need","height","age","worth","ins","outs","if","else","end"] ?a ?l ?v; (case a=>k_is); (case l=>k_is); (case v=>rfl))
    (case zg3=>refine' Mi.gv_strs ["copy","paid"] ?a ?l ?v; (case a=>k_is); (case l=>k_is); (case v=>rfl))
    (case zg4=>k_is)
    (case zg5=>k_is)
    (case zg6=>k_is)
    (case zg7=>k_is)
    (case zg8=>k_is)
    (case zg9=>refine' Mi.gv_str ?a; (case a=>k_is))
    (case zg10=>k_is)
    (case zg11=>refine' Mi.gv_str ?a; (case a=>k_is))
    (case zg12=>refine' Mi.gv_str ?a; (case a=>k_is))
