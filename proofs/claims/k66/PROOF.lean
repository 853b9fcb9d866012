import PyProof.Rows.All
import Wide.All
import OpenK.AllK
import Wide.FinOn
import Lean
import PyProof.EqAt
import PyProof.EqKinds
import PyProof.TupleCall
import KE.KRevIter
import PyProof.EnumStmt
import PyProof.EnumFor
import PyProof.EnumMake
import PyProof.Rows.SeqMore
import KE.KDictList
import KE.KMinKey
import PyProof.WalkInts
import PyProof.Rows.CallKwBuiltin
import PyProof.MeetsSeq
import PyProof.Rows.SetFrom
import PyProof.SetRoads
import KE.KTryMore
import KE.RegKIsAll
import KE.RegKTryMore
import PyProof.NsDelKeeps
import PyProof.RulesAs
import PyProof.ExcBaseAll.ValueError
import PyProof.ExcArgsOwn
import PyProof.ExcAttrAll.ValueError
import PyProof.ZipIter
import PyProof.WalksMore
import PyProof.StrBlock2
import PyProof.StrBlockL
import PyProof.MeetsStr3
import PyProof.Rows.StrSplitMax
import PyProof.ListMulRoad
import PyProof.NeKinds
import PyProof.IsRules
import PyProof.ConsumeWalk
import PyProof.SumAny
import KE.KIntText
import PyProof.StrWalks
import PyProof.CallRoads3
import PyProof.StrLawsTight
import PyProof.StrLawsIdx
import PyProof.StrLawsIn
import PyProof.Rows.StrItems
import PyProof.StrLawsChain
import KE.IntTextText
import PyProof.Rows.StrSplitAre
import PySem.Challenge.RW_spentonce_k66_whole_texts_read_are_shown
set_option Elab.async false
set_option linter.all false
set_option maxRecDepth 100000
set_option maxHeartbeats 4000000
theorem fx9{p:Prop}(h:false=true):p:=absurd h Bool.false_ne_true
namespace L2
open PySem PySem.Spec PyProof.Rows
noncomputable abbrev Key:=Sum Int Str
noncomputable def keyIs:Key->Value->Bool
 |.inl k,v=>Value.isInt k v
 |.inr x,v=>Value.isStrOf x v
noncomputable def keyH(w:World):Key->Int
 |.inl k=>hashInt k
 |.inr x=>hashStr w x
theorem Jal:∀{k:Key} {v:Value},keyIs k v=true->(∃i t,k=Sum.inl i/\v=Value.int i t)\/(∃x t,k=Sum.inr x/\v=Value.str x t)
 |.inl i,v,h=>by
  obtain⟨t,e⟩:=Value.isInt_shape (k:=i) (v:=v) h;exact .inl ⟨i,t,rfl,e⟩
 |.inr x,v,h=>by
  obtain⟨t,e⟩:=Value.isStrOf_shape (x:=x) (v:=v) h;exact .inr ⟨x,t,rfl,e⟩
theorem Jmv(i:Int)(t:Tok):keyIs (.inl i) (.int i t)=true:=by simp[keyIs,Value.isInt]
theorem Jmu(x:Str)(t:Tok):keyIs (.inr x) (.str x t)=true:=by simp[keyIs,Value.isStrOf]
theorem Jxl(a b:Int):decide ((Sum.inl a:Key)=Sum.inl b)=(a==b):=by
 by_cases e:a=b
 ·subst e;simp
 ·have h:¬(Sum.inl a:Key)=Sum.inl b:=λq=>e (Sum.inl.inj q);rw[decide_eq_false h];exact(beq_eq_false_iff_ne.mpr e).symm
theorem Jxi(a b:Str):decide ((Sum.inr a:Key)=Sum.inr b)=decide (a=b):=by
 by_cases e:a=b
 ·subst e;simp
 ·have h:¬(Sum.inr a:Key)=Sum.inr b:=λq=>e (Sum.inr.inj q);rw[decide_eq_false h,decide_eq_false e]
theorem Jxk(a:Int)(b:Str):decide ((Sum.inl a:Key)=Sum.inr b)=false:=decide_eq_false (λq=>nomatch q)
theorem Jxj(a:Str)(b:Int):decide ((Sum.inr a:Key)=Sum.inl b)=false:=decide_eq_false (λq=>nomatch q)
noncomputable def mixKind(prog:Program)(w:World):PySem.KeyKind prog w Key where
 is:=keyIs
 hash:=keyH w
 inj:=λv a b ha hb=>by
  rcases Jal ha with⟨i,t,rfl,rfl⟩|⟨x,t,rfl,rfl⟩
  ·rcases Jal hb with⟨j,u,rfl,e⟩|⟨y,u,rfl,e⟩
   ·injection e with e1 _;rw[e1]
   ·exact nomatch e
  ·rcases Jal hb with⟨j,u,rfl,e⟩|⟨y,u,rfl,e⟩
   ·exact nomatch e
   ·injection e with e1 _;rw[e1]
 byValue:=λk v h=>by
  rcases Jal h with⟨i,t,rfl,rfl⟩|⟨x,t,rfl,rfl⟩<;>rfl
 pyHash:=λhv h=>by
  rcases Jal hv with⟨i,t,rfl,rfl⟩|⟨x,t,rfl,rfl⟩
  ·exact wpAny_pyHash_int h
  ·exact wpAny_pyHash_str h
 eqBool:=λhu hv h=>by
  rcases Jal hu with⟨i,t,rfl,rfl⟩|⟨x,t,rfl,rfl⟩
  ·rcases Jal hv with⟨j,u,rfl,rfl⟩|⟨y,u,rfl,rfl⟩
   ·rw[Jxl]at h;exact wpAny_eqBool_int h
   ·rw[Jxk]at h;exact SeqAt.EqAt.int_str i t y u _ _ _ _ h
  ·rcases Jal hv with⟨j,u,rfl,rfl⟩|⟨y,u,rfl,rfl⟩
   ·rw[Jxj]at h;exact SeqAt.EqAt.str_int x t j u _ _ _ _ h
   ·rw[Jxi]at h;exact wpAny_eqBool_str h
 «strs»:=λk x t v h=>by
  rcases Jal h with⟨i,u,rfl,e⟩|⟨y,u,rfl,e⟩
  ·exact nomatch e
  ·injection e with e1 _;subst e1;cases v<;>rfl
theorem Jih(prog:Program)(w:World)(i:Int)(t:Tok):(mixKind prog w).is (.inl i) (.int i t)=true:=Jmv i t
theorem Jig(prog:Program)(w:World)(x:Str)(t:Tok):(mixKind prog w).is (.inr x) (.str x t)=true:=Jmu x t
end L2
namespace L2
open PySem PySem.Spec PyProof.Rows
inductive V where
 |non|bl (b:Bool)|int (i:Int)|str (x:Str)|byt (b:Array UInt8)|flt (b:UInt64)|ref (a:Addr)|ty (n:String)
 deriving DecidableEq
noncomputable def RelV:V->Value->Prop
 |.non,u=>u=Value.none
 |.bl b,u=>u=Value.bool b
 |.int i,u=>∃t,u=Value.int i t
 |.str x,u=>∃t,u=Value.str x t
 |.byt b,u=>∃t,u=Value.bytes b t
 |.flt b,u=>∃t,u=Value.float b t
 |.ref a,u=>u=Value.ref a
 |.ty n,u=>u=Value.type n
noncomputable abbrev Vals:List V->List Value->Prop:=Paired RelV
theorem Vals.length{xs:List V}{us:List Value}(r:Vals xs us):xs.length=us.length:=Paired.length r
theorem Vals.get:∀{xs:List V} {us:List Value} {i:Nat} {x:V},Vals xs us->xs[i]? =some x->∃u,us[i]? =some u/\RelV x u
 |_,_,_,_,.nil,e=>by simp at e
 |_,_,0,_,.cons r _,e=>by simp at e;subst e;exact⟨_,rfl,r⟩
 |_,_,i+1,x,.cons _ t,e=>by
  obtain⟨u,h1,h2⟩:=Vals.get (i:=i) (x:=x) t (by simpa using e);exact⟨u,by simpa using h1,h2⟩
theorem Vals.set{x:V}{u:Value}(r:RelV x u):∀{xs:List V} {us:List Value} (i:Nat),Vals xs us->Vals (xs.set i x) (us.set i u)
 |_,_,_,.nil=>.nil
 |_,_,0,.cons _ t=>.cons r t
 |_,_,i+1,.cons q t=>.cons q (Vals.set r i t)
theorem Vals.append:∀{xs ys:List V} {us ws:List Value},Vals xs us->Vals ys ws->Vals (xs++ys) (us++ws)
 |_,_,_,_,.nil,s=>s
 |_,_,_,_,.cons r t,s=>.cons r (Vals.append t s)
theorem Vals.take:∀{xs:List V} {us:List Value} (n:Nat),Vals xs us->Vals (xs.take n) (us.take n)
 |_,_,0,_=>.nil
 |_,_,_+1,.nil=>.nil
 |_,_,n+1,.cons r t=>.cons r (Vals.take n t)
theorem Vals.drop:∀{xs:List V} {us:List Value} (n:Nat),Vals xs us->Vals (xs.drop n) (us.drop n)
 |_,_,0,r=>r
 |_,_,_+1,.nil=>.nil
 |_,_,n+1,.cons _ t=>Vals.drop n t
noncomputable def RelO:Option V->Option Value->Prop
 |some v,some u=>RelV v u
 |none,none=>True
 |_,_=>False
noncomputable def KV{κ:Type}:List (κ×V)->List (κ×Value)->Prop:=Paired λ(p:κ×V) (q:κ×Value)=>p.1=q.1/\RelV p.2 q.2
noncomputable def kV:Key->V
 |.inl i=>.int i
 |.inr x=>.str x
inductive HO where
 |lst (xs:List V)
 |tup (xs:List V)
 |dK (kvs:List (Key×V))|dT (kvs:List (List Key×V))
 |set (S:Int->Bool) (n:Nat)
 |ins (C dx:Addr) (fs:List (Str×V))
 |own (x:Addr)
 |xd (fs:List (Str×V))
 |met (f x:Addr)
 |rng (lo hi:Int)
 |frz (o:Obj) (u:HO)
 |tbl (ps:Array Value)
 |ext (φ:Heap->Prop)
noncomputable abbrev Hp:=Addr->Option HO
noncomputable def upd(H:Hp)(a:Addr)(o:HO):Hp:=λb=>if b=a then some o else H b
theorem Jbe{H:Hp}{a:Addr}{o:HO}:upd H a o a=some o:=by unfold upd;rw[if_pos rfl]
theorem Jaf{H:Hp}{a b:Addr}{o:HO}(h:b≠a):upd H a o b=H b:=by unfold upd;rw[if_neg h]
theorem Jo7{H:Hp}{a b:Addr}{o u:HO}(h:H a=some o)(h':H b=some u)(d:o≠u):a≠b:=by
 intro e;subst e;rw[h]at h';exact d (Option.some.inj h')
theorem Jaj{H:Hp}{a b:Addr}{o:HO}(h:H a=some o)(h':H b=none):a≠b:=by
 intro e;subst e;rw[h]at h';cases h'
section
variable (P:Program) (w:World)
noncomputable def ObjOk(H:Hp)(h:Heap)(a:Addr):HO->Prop
 |.lst xs=>xs.length<=sizeLine/\∃(its:List Value) (n:Nat),Vals xs its/\h.get? a=some {cls:=.type "list",data:=.seq its.toArray n}
 |.tup xs=>xs.length<=sizeLine/\∃its:List Value,Vals xs its/\IsTup h a its.toArray
 |.dK kvs=>kvs.length<=sizeLine/\(a==sysModules)=false/\∃vs,KV kvs vs/\h.DictOf (mixKind P w) a vs
 |.dT kvs=>kvs.length<=sizeLine/\(a==sysModules)=false/\∃xs:List (List Key×Addr×Value),
   Paired (λ(p:List Key×V) (q:List Key×Addr×Value)=>p.1=q.1/\H q.2.1=some (.tup (p.1.map kV))/\RelV p.2 q.2.2) kvs xs/\
   ∃o es ep,h.get? a=some o/\o.ExactDict/\o.data=.dict es ep/\es.toList=xs.map (entryOfKey (tupleKind (mixKind P w)))/\(xs.map (·.1)).Nodup
 |.set S n=>h.SetOf (intKind P w) a S n
 |.ins C dx fs=>H dx=some (.own a)/\fs.length<=1000/\dx≠a/\h.get? a=some (PySem.W.instObj C dx)/\
   ∃mA,h.Ns1 dx mA/\(∀f,RelO (fs.lookup f) (mA f))/\PySem.Within mA (fs.map (·.1))
 |.own _=>∃o,h.get? a=some o
 |.xd fs=>∃mA,h.Ns1 a mA/\∀f,RelO (fs.lookup f) (mA f)
 |.rng lo hi=>∃t u v,h.get? a=some {cls:=.type "range",data:=.fields #[.int lo t,.int hi u,.int 1 v]}
 |.frz o u=>h.get? a=some o/\ObjOk H h a u
 |.tbl ps=>h.get? a=some {cls:=.none,data:=.fields ps}
 |.met f x=>h.get? a=some (PySem.W.methodObj (.ref f) (.ref x))
 |.ext φ=>φ h/\(∃o,h.get? a=some o)/\∀h1 h2:Heap,φ h1->(∀o,h1.get? a=some o->h2.get? a=some o)->φ h2
noncomputable def HOk(H:Hp)(h:Heap):Prop:=∀a o,H a=some o->ObjOk P w H h a o
end
section
variable {P:Program} {w:World} {H H':Hp} {h h':Heap} {a:Addr} {o:HO}
theorem ObjOk.lt(x:ObjOk P w H h a o):a<h.objs.size:=by
 cases o with
 |lst xs=>obtain⟨_,_,_,_,e⟩:=x;exact Heap.lt_size e
 |tup xs=>obtain⟨_,_,_,p⟩:=x;exact p.lt
 |dK kvs=>obtain⟨_,_,_,_,o,_,_,e,_⟩:=x;exact Heap.lt_size e
 |dT kvs=>obtain⟨_,_,_,_,o,_,_,e,_⟩:=x;exact Heap.lt_size e
 |set S n=>obtain⟨o,_,_,_,e,_⟩:=x;exact Heap.lt_size e
 |ins C dx fs=>obtain⟨_,_,_,e,_⟩:=x;exact Heap.lt_size e
 |own y=>obtain⟨_,e⟩:=x;exact Heap.lt_size e
 |xd fs=>obtain⟨_,⟨_,_,_,e,_⟩,_⟩:=x;exact Heap.lt_size e
 |rng lo hi=>obtain⟨_,_,_,e⟩:=x;exact Heap.lt_size e
 |frz ob u=>obtain⟨e,_⟩:=x;exact Heap.lt_size e
 |tbl ps=>exact Heap.lt_size (show h.get? a=some _ from x)
 |met f y=>exact Heap.lt_size (show h.get? a=some _ from x)
 |ext φ=>obtain⟨_,⟨_,e⟩,_⟩:=x;exact Heap.lt_size e
theorem Paired.mapP{α β:Type}{F G:α->β->Prop}:∀{l₁:List α} {l₂:List β},Paired F l₁ l₂->(∀a b,F a b->G a b)->Paired G l₁ l₂
 |_,_,.nil,_=>.nil
 |_,_,.cons r t,f=>.cons (f _ _ r) (Paired.mapP t f)
theorem ObjOk.stay(x:ObjOk P w H h a o)(k:∀b u,(b=a\/H b=some (.own a))->h.get? b=some u->h'.get? b=some u)
  (ho:∀b,H b=some (.own a)->H' b=some (.own a))(ht:∀b xs,H b=some (.tup xs)->H' b=some (.tup xs)):ObjOk P w H' h' a o:=by
 induction o with
 |lst xs=>obtain⟨z,its,n,r,e⟩:=x;exact⟨z,its,n,r,k _ _ (.inl rfl) e⟩
 |tup xs=>obtain⟨z,its,r,ob,e,c⟩:=x;exact⟨z,its,r,ob,k _ _ (.inl rfl) e,c⟩
 |dK kvs=>obtain⟨z,y,vs,r,ob,es,ep,e,c⟩:=x;exact⟨z,y,vs,r,ob,es,ep,k _ _ (.inl rfl) e,c⟩
 |dT kvs=>
  obtain⟨z,y,xs,r,ob,es,ep,e,c⟩:=x;exact⟨z,y,xs,Paired.mapP r λp q z=>⟨z.1,ht _ _ z.2.1,z.2.2⟩,ob,es,ep,k _ _ (.inl rfl) e,c⟩
 |set S n=>obtain⟨ob,es,ep,t,e,c⟩:=x;exact⟨ob,es,ep,t,k _ _ (.inl rfl) e,c⟩
 |ins C dx fs=>
  obtain⟨d,z,ne,e,mA,⟨od,es,ep,e2,c⟩,r⟩:=x;exact⟨ho _ d,z,ne,k _ _ (.inl rfl) e,mA,⟨od,es,ep,k _ _ (.inr d) e2,c⟩,r⟩
 |own y=>obtain⟨ob,e⟩:=x;exact⟨ob,k _ _ (.inl rfl) e⟩
 |xd fs=>obtain⟨mA,⟨od,es,ep,e,c⟩,r⟩:=x;exact⟨mA,⟨od,es,ep,k _ _ (.inl rfl) e,c⟩,r⟩
 |rng lo hi=>obtain⟨t,u,v,e⟩:=x;exact⟨t,u,v,k _ _ (.inl rfl) e⟩
 |frz ob u ih=>obtain⟨e,q⟩:=x;exact⟨k _ _ (.inl rfl) e,ih q⟩
 |tbl ps=>
  have e:h.get? a=some {cls:=.none,data:=.fields ps}:=x;show h'.get? a=some {cls:=.none,data:=.fields ps};exact k a _ (.inl rfl) e
 |met f y=>
  have e:h.get? a=some (PySem.W.methodObj (.ref f) (.ref y)):=x;show h'.get? a=some (PySem.W.methodObj (.ref f) (.ref y));exact k a _ (.inl rfl) e
 |ext φ=>obtain⟨p,⟨o,e⟩,st⟩:=x;exact⟨st _ _ p λo q=>k _ _ (.inl rfl) q,⟨o,k _ _ (.inl rfl) e⟩,st⟩
theorem HOk.lt(x:HOk P w H h)(e:H a=some o):a<h.objs.size:=(x a o e).lt
theorem HOk.fresh(x:HOk P w H h)(e:h.objs.size<=a):H a=none:=by
 cases q:H a with
 |none=>rfl
 |some u=>exact absurd (Nat.lt_of_lt_of_le (x.lt q) e) (Nat.lt_irrefl _)
theorem HOk.kept(x:HOk P w H h)(k:∀b u,h.get? b=some u->h'.get? b=some u):HOk P w H h':=λa o e=>
 (x a o e).stay (λb u _ q=>k b u q) (λ_ q=>q) λ_ _ q=>q
theorem HOk.laid(x:HOk P w H h)(k:∀b u,h.get? b=some u->h'.get? b=some u)(hp:h.objs.size<=a)(new:ObjOk P w (upd H a o) h' a o):HOk P w (upd H a o) h':=λb u e=>by
 have hn:=x.fresh hp
 by_cases hb:b=a
 ·subst hb;rw[Jbe]at e;cases e;exact new
 ·rw[Jaf hb]at e;exact(x b u e).stay (λc v _ q=>k c v q) (λc q=>by rw[Jaf (Jaj q hn)];exact q) λc xs q=>by rw[Jaf (Jaj q hn)];exact q
end
noncomputable def Rd(H:Hp)(a:Addr)(u:HO):Prop:=H a=some u\/∃o,H a=some (.frz o u)
theorem Rd.of{H:Hp}{a:Addr}{u:HO}(h:H a=some u):Rd H a u:=.inl h
theorem Rd.ok{P:Program}{w:World}{H:Hp}{h:Heap}{a:Addr}{u:HO}(r:Rd H a u)(x:HOk P w H h):ObjOk P w H h a u:=by
 rcases r with r|⟨o,r⟩
 ·exact x a u r
 ·obtain⟨_,q⟩:=x a _ r;exact q
noncomputable def Mut:Option HO->Prop
 |some (.lst _)=>True
 |some (.dK _)=>True
 |some (.dT _)=>True
 |some (.set _ _)=>True
 |some (.ins _ _ _)=>True
 |some (.ext _)=>True
 |_=>False
section
variable {P:Program} {w:World} {H:Hp} {h h':Heap} {x e:Addr} {o':HO}
theorem HOk.write(ok:HOk P w H h)(mu:Mut (H x))(he:e=x\/H e=some (.own x))(k:∀b u,b≠e->h.get? b=some u->h'.get? b=some u)(heo:∃u,h'.get? e=some u)
  (new:ObjOk P w (upd H x o') h' x o'):HOk P w (upd H x o') h':=λb u q=>by
 have nown:∀c y,H c=some (.own y)->c≠x:=λc y r z=>by subst z;rw[r]at mu;exact mu
 have ntup:∀c xs,H c=some (.tup xs)->c≠x:=λc xs r z=>by subst z;rw[r]at mu;exact mu
 by_cases hb:b=x
 ·subst hb;rw[Jbe]at q;cases q;exact new
 ·rw[Jaf hb]at q
  by_cases hbe:b=e
  ·have q':H b=some (.own x):=by
    rcases he with z|z
    ·exact absurd (hbe.trans z) hb
    ·rw[hbe];exact z
   rw[q]at q';cases q';obtain⟨v,hv⟩:=heo;exact⟨v,by rw[hbe];exact hv⟩
  ·refine(ok b u q).stay (λc v hc r=>k c v ?_ r) (λc r=>by rw[Jaf (nown c b r)];exact r) λc xs r=>by rw[Jaf (ntup c xs r)];exact r
   rcases hc with rfl|hc
   ·exact hbe
   ·rintro rfl;rcases he with z|z
    ·exact nown c b hc z
    ·rw[hc]at z;cases z;exact hb rfl
end
structure Un(fs ex:List Addr)(H H':Hp)(h h':Heap):Prop where
 keep:∀b o,h.get? b=some o->H b=none->b∉fs->b∉ex->h'.get? b=some o
 slot:∀b o,h.get? b=some o->H b=none->b∈fs->b∉ex->∃sl,h'.get? b=some {o with slots:=sl}
 free:∀b o,h.get? b=some o->H b=none->b∉ex->H' b=none
 there:∀b o,h.get? b=some o->b∉ex->∃o',h'.get? b=some o'
 tups:∀b xs,H b=some (.tup xs)->H' b=some (.tup xs)
 frzs:∀b o u,H b=some (.frz o u)->H' b=some (.frz o u)
 tbls:∀b ps,H b=some (.tbl ps)->∃more,H' b=some (.tbl (ps++more))
section
variable {fs fs' ex ex':List Addr} {H H1 H2:Hp} {h h1 h2 h':Heap} {a x e:Addr} {o:HO}
theorem Un.any(u:Un fs ex H H1 h h1){b:Addr}{ob:Obj}(q:h.get? b=some ob)(n:H b=none)(hx:b∉ex):∃sl,h1.get? b=some {ob with slots:=sl}:=by
 by_cases hb:b∈fs
 ·exact u.slot b ob q n hb hx
 ·exact⟨ob.slots,u.keep b ob q n hb hx⟩
theorem Un.trans(a:Un fs ex H H1 h h1)(b:Un fs ex H1 H2 h1 h2):Un fs ex H H2 h h2 where
 keep:=λc ob q n hc hx=>b.keep c ob (a.keep c ob q n hc hx) (a.free c ob q n hx) hc hx
 slot:=λc ob q n hc hx=>by
  obtain⟨sl,e1⟩:=a.slot c ob q n hc hx;obtain⟨sl',e2⟩:=b.slot c _ e1 (a.free c ob q n hx) hc hx;exact⟨sl',e2⟩
 free:=λc ob q n hx=>by
  obtain⟨o',e1⟩:=a.there c ob q hx;exact b.free c o' e1 (a.free c ob q n hx) hx
 there:=λc ob q hx=>by
  obtain⟨o',e1⟩:=a.there c ob q hx;exact b.there c o' e1 hx
 tups:=λc xs q=>b.tups c xs (a.tups c xs q)
 frzs:=λc ob xs q=>b.frzs c ob xs (a.frzs c ob xs q)
 tbls:=λc ps q=>by
  obtain⟨m1,e1⟩:=a.tbls c ps q;obtain⟨m2,e2⟩:=b.tbls c _ e1;exact⟨m1++m2,by rw[e2,Array.append_assoc]⟩
theorem Un.kept(k:∀b u,h.get? b=some u->h'.get? b=some u):Un fs ex H H h h':=
 ⟨λb ob q _ _ _=>k b ob q,λb ob q _ _ _=>⟨ob.slots,k b ob q⟩,λ_ _ _ n _=>n,λb ob q _=>⟨ob,k b ob q⟩,λ_ _ q=>q,λ_ _ _ q=>q,λ_ ps q=>⟨#[],by rw[q];simp⟩⟩
theorem Un.refl:Un fs ex H H h h:=Un.kept λ_ _ q=>q
theorem Un.laid(k:∀b u,h.get? b=some u->h'.get? b=some u)(hp:h.objs.size<=a)(hn:H a=none):Un fs ex H (upd H a o) h h' where
 keep:=λb u q _ _ _=>k b u q
 slot:=λb u q _ _ _=>⟨u.slots,k b u q⟩
 free:=λb u q n _=>by rw[Jaf (Nat.ne_of_lt (Nat.lt_of_lt_of_le (Heap.lt_size q) hp))];exact n
 there:=λb u q _=>⟨u,k b u q⟩
 tups:=λb xs q=>by rw[Jaf (Jaj q hn)];exact q
 frzs:=λb u xs q=>by rw[Jaf (Jaj q hn)];exact q
 tbls:=λb ps q=>⟨#[],by rw[Jaf (Jaj q hn),q];simp⟩
theorem Un.write(mu:Mut (H x))(he:e=x\/H e=some (.own x))(k:∀b u,b≠e->h.get? b=some u->h'.get? b=some u)(heo:∃u,h'.get? e=some u):Un fs ex H (upd H x o) h h':=by
 have hx:∀b,H b=none->b≠x:=λb n z=>by subst z;rw[n]at mu;exact mu
 have hb:∀b,H b=none->b≠e:=λb n z=>by
  subst z;rcases he with r|r
  ·exact hx b n r
  ·rw[n]at r;cases r
 have hm:∀b u,H b=some u->¬Mut (some u)->b≠x:=λb u q nm z=>by subst z;rw[q]at mu;exact nm mu
 refine⟨λb u q n _ _=>k b u (hb b n) q,λb u q n _ _=>⟨u.slots,k b u (hb b n) q⟩,λb u q n _=>by rw[Jaf (hx b n)];exact n,λb u q _=>?_,
  λb xs q=>by rw[Jaf (hm b _ q λz=>z)];exact q,λb u xs q=>by rw[Jaf (hm b _ q λz=>z)];exact q,λb ps q=>⟨#[],by rw[Jaf (hm b _ q λz=>z),q];simp⟩⟩
 by_cases hbe:b=e
 ·subst hbe;exact heo
 ·exact⟨u,k b u hbe q⟩
theorem Un.mono(u:Un fs ex H H1 h h1)(hs:∀b∈fs,b∈fs')(hx:∀b∈ex,b∈ex'):Un fs' ex' H H1 h h1:=
 ⟨λb ob q n hb he=>u.keep b ob q n (λz=>hb (hs b z)) λz=>he (hx b z),λ_ _ q n _ he=>u.any q n λz=>he (hx _ z),λb ob q n he=>u.free b ob q n λz=>he (hx b z),λb ob q he=>u.there b ob q λz=>he (hx b z),u.tups,u.frzs,u.tbls⟩
end
noncomputable def trk(h:Heap)(H:Hp):List Addr:=(List.range h.objs.size).filter λa=>(H a).isSome
noncomputable def hidT(h:Heap)(H:Hp):Heap:=PySem.W.hideAll h (trk h H)
theorem Jm6(h:Heap)(H:Hp):(hidT h H).objs.size=h.objs.size:=PySem.W.hideAll_size _ _
theorem Jpr{h:Heap}{H:Hp}{b:Addr}{o:Obj}(e:h.get? b=some o)(n:H b=none):(hidT h H).get? b=some o:=
 PySem.W.hideAll_get _ e λhm=>by
  have q:(H b).isSome=true:=(List.mem_filter.mp hm).2;rw[n]at q;simp at q
theorem Jth{h:Heap}{H:Hp}{b:Addr}{o:Obj}(e:(hidT h H).get? b=some o):h.get? b=some o/\H b=none:=by
 have e':h.get? b=some o:=PySem.W.of_hideAll (trk h H) e;refine⟨e',?_⟩;cases q:H b with
 |none=>rfl
 |some x=>
  have hm:b∈trk h H:=List.mem_filter.mpr ⟨List.mem_range.mpr (Heap.lt_size e'),by simp[q]⟩;have z:(hidT h H).get? b=none:=PySem.W.hideAll_none (trk h H) hm;rw[z]at e;cases e
noncomputable def allNews(g h:Heap)(L:Addr):List (Addr×Obj):=(List.range h.objs.size).filterMap λa=>if a=L\/(g.get? a).isSome=true then none else(h.get? a).map λo=>(a,o)
noncomputable def rest(g h:Heap)(L d:Addr):List (Addr×Obj):=(allNews g h L).filter λp=>decide (p.1≠d)
end L2
namespace L2
open PySem PySem.Spec PyProof.Rows
structure Mod(K:PySem.W.Frag)(mg:Str->Option Value)(base:Heap):Prop where
 kin:K.In base
 glob:base.Ns mainGlobals mg
 blt:∃mb,base.Ns builtinsNs mb/\∀x:Str,x≠"__name__"->mb x=bootBuiltins x
 nolimit:base.NoLimit
structure Cx where
 prog:Program
 w:World
 K:PySem.W.Frag
 mg:Str->Option Value
 base:Heap
 A:Around
 N:List Str
 s₀:Shared
 H₀:Hp
 env:Env
 outer:List Env
 stack:List Env
 ex:List Addr
 fn:Str->Bool
 calm:Bool
 pn:List (Addr×Obj)
 xe:Value->Shared->Prop
noncomputable def frs(l:List Env):List Addr:=l.filterMap (·.frame)
noncomputable abbrev Cx.fs(X:Cx):List Addr:=frs X.outer
noncomputable def Vis(sc:Scope)(x:Str):Prop:=sc.names.lookup x=some .local\/sc.names.lookup x=some .cell\/sc.names.lookup x=some .free
noncomputable def Loc(sc:Scope)(x:Str):Prop:=sc.names.lookup x=some .local\/sc.names.lookup x=some .cell
noncomputable def Look(env:Env)(h:Heap)(m:Str->Option Value)(x:Str)(u:Value):Prop:=
 (env.kindOf x=some .local/\m x=some u)\/((env.kindOf x=some .cell\/env.kindOf x=some .free)/\∃c,env.cells.lookup x=some c/\h.IsCell c (some u))
structure Cx.Ok(X:Cx):Prop where
 mod:Mod X.K X.mg X.base
 kind:X.env.scope.kind=.function
 glob:X.env.globals=mainGlobals
 blt:X.env.builtins=builtinsNs
 above:X.s₀.heap.objs.size<=X.env.locals
 inj:∀x y c,X.env.cells.lookup x=some c->X.env.cells.lookup y=some c->x=y
 has:∀x,(X.env.kindOf x=some .cell\/X.env.kindOf x=some .free)->∃c,X.env.cells.lookup x=some c
 cab:∀x c,X.fn x=true->X.env.cells.lookup x=some c->X.s₀.heap.objs.size<=c
 hd:X.calm=true->X.A.handled=none
 frames:X.A.frames=some X.stack
 stk:X.stack=X.outer\/(X.stack=X.env::X.outer/\X.env.frame=some X.env.locals)
 exf:∀b∈X.ex,b≠X.env.locals/\∀x c,X.env.cells.lookup x=some c->c≠b
 bs:∀b o,X.base.get? b=some o->X.s₀.heap.get? b=some o/\X.H₀ b=none
 bsz:X.base.objs.size<=X.s₀.heap.objs.size
 noex:∀b o,X.base.get? b=some o->b∉X.ex
 exfs:∀b∈X.ex,b∉X.fs
 funs:X.s₀.heap.FunFrames X.base X.outer
 frf:∀b∈X.fs,X.H₀ b=none
structure Inv(X:Cx)(pins:List (Addr×Obj))(σ:List (Option V))(H:Hp)(s:Shared):Prop where
 ok:X.Ok
 os:s.os=X.s₀.os
 bare:AllBare s.gens
 base:Un X.fs X.ex X.H₀ H X.s₀.heap s.heap
 loc:∃m,s.heap.Ns X.env.locals m/\∀(i:Nat) (x:Str) (v:V),X.N[i]? =some x->σ[i]? =some (some v)->Vis X.env.scope x->∃u,RelV v u/\Look X.env s.heap m x u
 cell:∀x c,X.env.cells.lookup x=some c->∃v,s.heap.IsCell c v
 free:H X.env.locals=none
 freeC:∀x c,X.env.cells.lookup x=some c->H c=none
 pin:∀p∈X.pn++pins,s.heap.get? p.1=some p.2/\H p.1=none/\p.1≠X.env.locals/\p.1∉X.fs/\∀v,p.2.data≠ .cell v
 hok:HOk X.prog X.w H s.heap
 len:σ.length=X.N.length
section
variable {X:Cx} {pins:List (Addr×Obj)} {σ:List (Option V)} {H H':Hp} {s:Shared} {h':Heap}
theorem Cx.Ok.nofr(ok:X.Ok){b:Addr}{o:Obj}(e:X.base.get? b=some o):b∉X.fs:=λhb=>by
 have:=(ok.funs.mem hb).1;rw[e]at this;cases this
theorem Inv.bs(I:Inv X pins σ H s):∀b o,X.base.get? b=some o->s.heap.get? b=some o/\H b=none:=λb o e=>
 ⟨I.base.keep b o (I.ok.bs b o e).1 (I.ok.bs b o e).2 (I.ok.nofr e) (I.ok.noex b o e),I.base.free b o (I.ok.bs b o e).1 (I.ok.bs b o e).2 (I.ok.noex b o e)⟩
theorem Inv.bk(I:Inv X pins σ H s):∀b o,X.base.get? b=some o->s.heap.get? b=some o:=λb o e=>(I.bs b o e).1
theorem Inv.mod(I:Inv X pins σ H s):Mod X.K X.mg X.base:=I.ok.mod
theorem Inv.kIn(I:Inv X pins σ H s):X.K.In s.heap:=I.ok.mod.kin.keeps I.bk
theorem Inv.nolimit(I:Inv X pins σ H s):s.heap.NoLimit:=I.ok.mod.nolimit.keeps I.bk
theorem Inv.fr(I:Inv X pins σ H s):∃m,Fr X.base X.env.locals s.heap m:=
 let⟨m,hn,_⟩:=I.loc
 ⟨m,hn,I.bk,Nat.le_trans I.ok.bsz I.ok.above⟩
theorem Inv.lt(I:Inv X pins σ H s):X.env.locals<s.heap.objs.size:=let⟨_,hn,_⟩:=I.loc;hn.lt
theorem Inv.sz(I:Inv X pins σ H s):X.s₀.heap.objs.size<=s.heap.objs.size:=Nat.le_trans I.ok.above (Nat.le_of_lt I.lt)
theorem Inv.nofs(I:Inv X pins σ H s){a:Addr}(h:s.heap.objs.size<=a):a∉X.fs:=λhb=>by
 obtain⟨_,o,ho,_⟩:=I.ok.funs.mem hb;exact absurd (Nat.lt_of_lt_of_le (Heap.lt_size ho) (Nat.le_trans I.sz h)) (Nat.lt_irrefl _)
theorem Inv.cne(I:Inv X pins σ H s):∀x c,X.env.cells.lookup x=some c->c≠X.env.locals:=λx c e z=>by
 obtain⟨v,o,ho,hd⟩:=I.cell x c e;obtain⟨m,⟨o',es,ep,ho',hd',_⟩,_⟩:=I.loc;rw[z,ho']at ho;cases ho;rw[hd']at hd;cases hd
theorem Inv.funs(I:Inv X pins σ H s):s.heap.FunFrames X.base X.outer:=by
 have all:∀(l:List Env),(∀b∈frs l,b∈X.fs)->X.s₀.heap.FunFrames X.base l->s.heap.FunFrames X.base l:=by
  intro l
  induction l with
  |nil=>intro _ _;trivial
  |cons env r ih=>
   intro hs hl;obtain⟨hk,⟨L,o,hf,hn,ho,hd⟩,hr⟩:=hl;have hL:L∈X.fs:=hs L (by unfold frs;rw[List.filterMap_cons,hf];exact List.mem_cons_self);obtain⟨sl,e⟩:=I.base.slot L o ho (I.ok.frf L hL) hL λz=>I.ok.exfs L z hL;exact⟨hk,⟨L,_,hf,hn,e,hd⟩,ih (λb hb=>hs b (by unfold frs;rw[List.filterMap_cons,hf];exact List.mem_cons_of_mem _ hb)) hr⟩
 exact all X.outer (λ_ hb=>hb) I.ok.funs
theorem Inv.stack(I:Inv X pins σ H s):s.heap.FunFrames X.base X.stack:=by
 rcases I.ok.stk with e|⟨e,hf⟩
 ·rw[e];exact I.funs
 ·rw[e];obtain⟨m,hn,_⟩:=I.loc;refine .cons (by rw[I.ok.kind];decide) hf hn ?_ I.funs;exact Heap.get?_none_of_le (Nat.le_trans I.ok.bsz I.ok.above)
theorem Inv.stkSub(I:Inv X pins σ H s):∀b∈frs X.stack,b∈X.env.locals::X.fs:=λb hb=>by
 rcases I.ok.stk with e|⟨e,hf⟩
 ·rw[e]at hb;exact List.mem_cons_of_mem _ hb
 ·rw[e]at hb;unfold frs at hb;rw[List.filterMap_cons,hf]at hb;exact hb
theorem Inv.stkFree(I:Inv X pins σ H s):∀b∈frs X.stack,H b=none:=λb hb=>by
 rcases List.mem_cons.mp (I.stkSub b hb)with e|hb
 ·rw[e];exact I.free
 ·obtain⟨_,o,ho,_⟩:=I.ok.funs.mem hb;exact I.base.free b o ho (I.ok.frf b hb) λz=>I.ok.exfs b z hb
theorem Inv.step{g':Array GenState}{t':Nat}{d':Drawn}{ch:List Addr}(I:Inv X pins σ H s)
  (hch:∀b∈ch,(b∈X.ex\/X.s₀.heap.objs.size<=b)/\b≠X.env.locals/\(∀x c,X.env.cells.lookup x=some c->c≠b)/\∀p∈X.pn++pins,p.1≠b)
  (keep:∀b o,b≠X.env.locals->b∉X.fs->b∉ch->s.heap.get? b=some o->H b=none->h'.get? b=some o)
  (slot:∀b o,b≠X.env.locals->b∈X.fs->b∉ch->s.heap.get? b=some o->H b=none->∃sl,h'.get? b=some {o with slots:=sl})(free:∀b o,b∉ch->s.heap.get? b=some o->H b=none->H' b=none)
  (there:∀b o,b∉ch->s.heap.get? b=some o->∃o',h'.get? b=some o')
  (tups:∀b xs,H b=some (.tup xs)->H' b=some (.tup xs))(frzs:∀b o u,H b=some (.frz o u)->H' b=some (.frz o u))(tbls:∀b ps,H b=some (.tbl ps)->∃more,H' b=some (.tbl (ps++more)))
  (ns:∀m,s.heap.Ns X.env.locals m->h'.Ns X.env.locals m)(hok:HOk X.prog X.w H' h')(hg:AllBare g'):
  Inv X pins σ H' {s with heap:=h',gens:=g',drawn:=d',toks:=t'}:=by
 have neL:∀b o,X.s₀.heap.get? b=some o->b≠X.env.locals:=λb o e=>Nat.ne_of_lt (Nat.lt_of_lt_of_le (Heap.lt_size e) I.ok.above);have neC:∀b o,X.s₀.heap.get? b=some o->b∉X.ex->b∉ch:=λb o e hx hb=>by
  rcases(hch b hb).1 with z|z
  ·exact hx z
  ·exact absurd (Nat.lt_of_lt_of_le (Heap.lt_size e) z) (Nat.lt_irrefl _)
 have cellK:∀x c,X.env.cells.lookup x=some c->∀v,s.heap.IsCell c v->h'.IsCell c v:=λx c e v ⟨o,ho,hd⟩=>by
  have nch:c∉ch:=λz=>(hch c z).2.2.1 x c e rfl
  by_cases hc:c∈X.fs
  ·obtain⟨sl,q⟩:=slot c o (I.cne x c e) hc nch ho (I.freeC x c e);exact⟨_,q,hd⟩
  ·exact⟨o,keep c o (I.cne x c e) hc nch ho (I.freeC x c e),hd⟩
 refine⟨I.ok,I.os,hg,⟨λb o e n hb hx=>?_,λb o e n hb hx=>?_,λb o e n hx=>?_,λb o e hx=>?_,λb xs e=>tups b xs (I.base.tups b xs e),λb o xs e=>frzs b o xs (I.base.frzs b o xs e),λb ps e=>?_⟩,?_,λx c e=>?_,?_,λx c e=>?_,λp hp=>?_,hok,I.len⟩
 ·exact keep b o (neL b o e) hb (neC b o e hx) (I.base.keep b o e n hb hx) (I.base.free b o e n hx)
 ·obtain⟨sl,e1⟩:=I.base.slot b o e n hb hx;obtain⟨sl',e2⟩:=slot b _ (neL b o e) hb (neC b o e hx) e1 (I.base.free b o e n hx);exact⟨sl',e2⟩
 ·obtain⟨o',e1⟩:=I.base.there b o e hx;exact free b o' (neC b o e hx) e1 (I.base.free b o e n hx)
 ·obtain⟨o',e1⟩:=I.base.there b o e hx;exact there b o' (neC b o e hx) e1
 ·obtain⟨m1,e1⟩:=I.base.tbls b ps e;obtain⟨m2,e2⟩:=tbls b _ e1;exact⟨m1++m2,by rw[e2,Array.append_assoc]⟩
 ·obtain⟨m,hn,hl⟩:=I.loc;refine⟨m,ns m hn,λi x v e1 e2 e3=>?_⟩;obtain⟨u,r,l⟩:=hl i x v e1 e2 e3;refine⟨u,r,?_⟩;rcases l with l|⟨k,c,e,z⟩
  ·exact .inl l
  ·exact .inr ⟨k,c,e,cellK x c e _ z⟩
 ·obtain⟨v,z⟩:=I.cell x c e;exact⟨v,cellK x c e v z⟩
 ·obtain⟨m,⟨o,_,_,ho,_⟩,_⟩:=I.loc;exact free _ o (λz=>(hch _ z).2.1 rfl) ho I.free
 ·obtain⟨v,o,ho,hd⟩:=I.cell x c e;exact free c o (λz=>(hch c z).2.2.1 x c e rfl) ho (I.freeC x c e)
 ·obtain⟨e,n,ne,nf,d⟩:=I.pin p hp;have nch:p.1∉ch:=λz=>(hch p.1 z).2.2.2 p hp rfl;exact⟨keep p.1 p.2 ne nf nch e n,free p.1 p.2 nch e n,ne,nf,d⟩
theorem Inv.un{t':Nat}(I:Inv X pins σ H s)(u:Un X.fs [] H H' s.heap h')(hok:HOk X.prog X.w H' h'):Inv X pins σ H' {s with heap:=h',toks:=t'}:=by
 obtain⟨m,⟨o,es,ep,ho,r⟩,_⟩:=id I.loc;obtain⟨sl,hL⟩:=u.any ho I.free (by simp);exact I.step (g':=s.gens) (d':=s.drawn) (ch:=[]) (λ_ z=>nomatch z) (λb o _ hb _ e n=>u.keep b o e n hb (by simp)) (λb o _ hb _ e n=>u.slot b o e n hb (by simp)) (λb o _ e n=>u.free b o e n (by simp)) (λb o _ e=>u.there b o e (by simp)) u.tups u.frzs u.tbls (λm' hm=>by
  obtain⟨o',es',ep',ho',r'⟩:=hm;rw[ho]at ho';cases ho';exact⟨_,es',ep',hL,r'⟩) hok I.bare
theorem Inv.call{g':Array GenState}{t':Nat}{d':Drawn}{ch:List Addr}(I:Inv X pins σ H s)(u:Un (frs X.stack) ch H H' s.heap h')(hok:HOk X.prog X.w H' h')(hg:AllBare g')
  (hch:∀b∈ch,(b∈X.ex\/X.s₀.heap.objs.size<=b)/\b≠X.env.locals/\(∀x c,X.env.cells.lookup x=some c->c≠b)/\∀p∈X.pn++pins,p.1≠b):
  Inv X pins σ H' {s with heap:=h',gens:=g',drawn:=d',toks:=t'}:=by
 obtain⟨m,⟨o,es,ep,ho,r⟩,_⟩:=id I.loc;obtain⟨sl,hL⟩:=u.any ho I.free λz=>(hch _ z).2.1 rfl;exact I.step (ch:=ch) hch (λb o hL hb hc e n=>u.keep b o e n (λz=>(List.mem_cons.mp (I.stkSub b z)).elim hL hb) hc) (λb o _ _ hc e n=>u.any e n hc) (λb o hc e n=>u.free b o e n hc) (λb o hc e=>u.there b o e hc) u.tups u.frzs u.tbls (λm' hm=>by
  obtain⟨o',es',ep',ho',r'⟩:=hm;rw[ho]at ho';cases ho';exact⟨_,es',ep',hL,r'⟩) hok hg
theorem Inv.turned{t':Nat}{it:Addr}(I:Inv X pins σ H s)(k:∀b o,b≠it->s.heap.get? b=some o->h'.get? b=some o)(hn:H it=none)(hL:it≠X.env.locals)
  (h1:it∈X.ex\/X.s₀.heap.objs.size<=it)(h2:∀x c,X.env.cells.lookup x=some c->c≠it)(h3:∀p∈X.pn++pins,p.1≠it):Inv X pins σ H {s with heap:=h',toks:=t'}:=by
 have nit:∀b u,H b=some u->b≠it:=λb u e z=>by rw[z,hn]at e;cases e
 refine I.step (g':=s.gens) (d':=s.drawn) (ch:=[it]) (λb hb=>?_) (λb o _ _ hc e _=>k b o (λz=>hc (by simp[z])) e) (λb o _ _ hc e _=>⟨o.slots,k b o (λz=>hc (by simp[z])) e⟩) (λ_ _ _ _ n=>n)
  (λb o hc e=>⟨o,k b o (λz=>hc (by simp[z])) e⟩) (λ_ _ e=>e) (λ_ _ _ e=>e) (λb ps e=>⟨#[],by rw[e];simp⟩) (λm hm=>?_) (λb u e=>?_) I.bare
 ·have e:b=it:=by simpa using hb
  subst e;exact⟨h1,hL,h2,h3⟩
 ·obtain⟨o,es,ep,ho,r⟩:=hm;exact⟨o,es,ep,k _ o (Ne.symm hL) ho,r⟩
 ·refine(I.hok b u e).stay (λc v hc q=>k c v ?_ q) (λ_ q=>q) λ_ _ q=>q;rcases hc with z|z
  ·rw[z];exact nit b u e
  ·exact nit c _ z
theorem Inv.tok(I:Inv X pins σ H s)(t:Nat):Inv X pins σ H {s with toks:=t}:=I.un (h':=s.heap) (t':=t) Un.refl I.hok
theorem Inv.kept{t':Nat}(I:Inv X pins σ H s)(k:∀b u,s.heap.get? b=some u->h'.get? b=some u):Inv X pins σ H {s with heap:=h',toks:=t'}:=I.un (Un.kept k) (I.hok.kept k)
theorem Inv.laid{a:Addr}{o:HO}{t':Nat}(I:Inv X pins σ H s)(k:∀b u,s.heap.get? b=some u->h'.get? b=some u)(hp:s.heap.objs.size<=a)(new:ObjOk X.prog X.w (upd H a o) h' a o):
  Inv X pins σ (upd H a o) {s with heap:=h',toks:=t'}:=I.un (Un.laid k hp (I.hok.fresh hp)) (I.hok.laid k hp new)
theorem Inv.write{x e:Addr}{o:HO}{t':Nat}(I:Inv X pins σ H s)(mu:Mut (H x))(he:e=x\/H e=some (.own x))(k:∀b u,b≠e->s.heap.get? b=some u->h'.get? b=some u)(heo:∃u,h'.get? e=some u)
  (new:ObjOk X.prog X.w (upd H x o) h' x o):Inv X pins σ (upd H x o) {s with heap:=h',toks:=t'}:=I.un (Un.write mu he k heo) (I.hok.write mu he k heo new)
theorem Inv.pins_of{pins':List (Addr×Obj)}(I:Inv X pins σ H s)(h:∀p∈pins',s.heap.get? p.1=some p.2/\H p.1=none/\p.1≠X.env.locals/\p.1∉X.fs/\∀v,p.2.data≠ .cell v):Inv X pins' σ H s:=
 ⟨I.ok,I.os,I.bare,I.base,I.loc,I.cell,I.free,I.freeC,λp hp=>(List.mem_append.mp hp).elim (λz=>I.pin p (List.mem_append_left _ z)) (h p),I.hok,I.len⟩
theorem Jgg{N:List Str}(hN:N.Nodup){i j:Nat}{x:Str}(a:N[i]? =some x)(b:N[j]? =some x):i=j:=by
 obtain⟨h1,e1⟩:=List.getElem?_eq_some_iff.mp a;obtain⟨h2,e2⟩:=List.getElem?_eq_some_iff.mp b;exact(List.getElem_inj hN).mp (e1.trans e2.symm)
theorem Jgy{M:Model}{A:Around}{E:Value->Shared->Prop}{i:Nat}{x:Str}{v:V}{u:Value}{Q:Unit->Shared->Prop}(I:Inv X pins σ H s)(hN:X.N.Nodup)(hi:X.N[i]? =some x)(hx:Loc X.env.scope x)(r:RelV v u)
  (h:∀s',Inv X pins (σ.set i (some v)) H s'->(∃a,Heap.SameBut a s.heap s'.heap/\(a=X.env.locals\/X.env.cells.lookup x=some a))->Q () s')(hf:X.fn x=true\/X.env.scope.names.lookup x=some .local:=by first|exact .inl rfl|exact .inr rfl|assumption):wpAny M A (storeName X.env x u) Q E s:=by
 obtain⟨m,hn,hl⟩:=id I.loc;have hcls:(X.env.scope.kind== .class||(X.env.scope.kind== .module&&X.env.locals !=X.env.globals))=false:=by rw[I.ok.kind];rfl
 have hiσ:i<σ.length:=by rw[I.len];exact(List.getElem?_eq_some_iff.mp hi).1
 have cne:=I.cne;have tracked:∀{a:Addr} {h':Heap},(∃o,s.heap.get? a=some o/\H a=none)->Heap.SameBut a s.heap h'->HOk X.prog X.w H h':=λ{a h'} ha hs b ob e=>by
  obtain⟨_,_,hfree⟩:=ha;refine(I.hok b ob e).stay (λc w' hc q=>(hs.2 c ?_).trans q) (λ_ q=>q) λ_ _ q=>q;rintro rfl;rcases hc with rfl|hc
  ·rw[hfree]at e;cases e
  ·rw[hfree]at hc;cases hc
 rcases hx with hk|hk
 ·refine wpAny_storeName_local hk hn (λh' hn' hs=>?_) hcls;obtain⟨oL,_,_,hoL,_⟩:=id hn;refine h _ ⟨I.ok,I.os,I.bare,⟨λb o e n hb hx=>?_,λb o e n hb hx=>?_,I.base.free,λb o e hx=>?_,I.base.tups,I.base.frzs,I.base.tbls⟩,⟨_,hn',λj y v' e1 e2 e3=>?_⟩,λy c e=>?_,I.free,I.freeC,λp hp=>?_,tracked ⟨oL,hoL,I.free⟩ hs,by simpa using I.len⟩ ⟨_,hs,.inl rfl⟩
  ·exact(hs.2 b (Nat.ne_of_lt (Nat.lt_of_lt_of_le (Heap.lt_size e) I.ok.above))).trans (I.base.keep b o e n hb hx)
  ·obtain⟨sl,e1⟩:=I.base.slot b o e n hb hx;exact⟨sl,(hs.2 b (Nat.ne_of_lt (Nat.lt_of_lt_of_le (Heap.lt_size e) I.ok.above))).trans e1⟩
  ·obtain⟨o',e1⟩:=I.base.there b o e hx;exact⟨o',(hs.2 b (Nat.ne_of_lt (Nat.lt_of_lt_of_le (Heap.lt_size e) I.ok.above))).trans e1⟩
  ·by_cases hj:j=i
   ·subst hj;rw[hi]at e1;cases e1;rw[List.getElem?_set_self hiσ]at e2;cases e2;exact⟨u,r,.inl ⟨hk,by simp⟩⟩
   ·rw[List.getElem?_set_ne (Ne.symm hj)]at e2;obtain⟨u',r',q⟩:=hl j y v' e1 e2 e3;refine⟨u',r',?_⟩;rcases q with⟨k,e⟩|⟨k,c,e,z⟩
    ·refine .inl ⟨k,?_⟩;have:y≠x:=λe=>hj (Jgg hN e1 (e▸hi));simp[this,e]
    ·exact .inr ⟨k,c,e,z.sameBut hs (cne y c e)⟩
  ·obtain⟨w',z⟩:=I.cell y c e;exact⟨w',z.sameBut hs (cne y c e)⟩
  ·obtain⟨e,n,ne,nf,d⟩:=I.pin p hp;exact⟨(hs.2 p.1 ne).trans e,n,ne,nf,d⟩
 ·have hfn:X.fn x=true:=by
   rcases hf with z|z
   ·exact z
   ·rw[z]at hk;cases hk
  obtain⟨c,hc⟩:=I.ok.has x (.inl hk);obtain⟨w',z⟩:=I.cell x c hc;refine wpAny_storeName_cell I.ok.kind hk hc z (λh' hc' hs=>?_);obtain⟨oc,hoc,hocd⟩:=id z;refine h {s with heap:=h'} ⟨I.ok,I.os,I.bare,⟨λb o e n hb hx=>?_,λb o e n hb hx=>?_,I.base.free,λb o e hx=>?_,I.base.tups,I.base.frzs,I.base.tbls⟩,⟨m,hn.sameBut hs (Ne.symm (cne x c hc)),λj y v' e1 e2 e3=>?_⟩,λy c' e=>?_,I.free,I.freeC,λp hp=>?_,tracked ⟨oc,hoc,I.freeC x c hc⟩ hs,by simpa using I.len⟩ ⟨c,hs,.inr hc⟩
  ·exact(hs.2 b (Nat.ne_of_lt (Nat.lt_of_lt_of_le (Heap.lt_size e) (I.ok.cab x c hfn hc)))).trans (I.base.keep b o e n hb hx)
  ·obtain⟨sl,e1⟩:=I.base.slot b o e n hb hx;exact⟨sl,(hs.2 b (Nat.ne_of_lt (Nat.lt_of_lt_of_le (Heap.lt_size e) (I.ok.cab x c hfn hc)))).trans e1⟩
  ·obtain⟨o',e1⟩:=I.base.there b o e hx;exact⟨o',(hs.2 b (Nat.ne_of_lt (Nat.lt_of_lt_of_le (Heap.lt_size e) (I.ok.cab x c hfn hc)))).trans e1⟩
  ·by_cases hj:j=i
   ·subst hj;rw[hi]at e1;cases e1;rw[List.getElem?_set_self hiσ]at e2;cases e2;exact⟨u,r,.inr ⟨.inl hk,c,hc,hc'⟩⟩
   ·rw[List.getElem?_set_ne (Ne.symm hj)]at e2;obtain⟨u',r',q⟩:=hl j y v' e1 e2 e3;refine⟨u',r',?_⟩;rcases q with q|⟨k,c',e,z'⟩
    ·exact .inl q
    ·refine .inr ⟨k,c',e,z'.sameBut hs ?_⟩;rintro rfl;exact hj (Jgg hN e1 (I.ok.inj _ _ _ e hc▸hi))
  ·by_cases hcc:c'=c
   ·subst hcc;exact⟨_,hc'⟩
   ·obtain⟨w2,z2⟩:=I.cell y c' e;exact⟨w2,z2.sameBut hs hcc⟩
  ·obtain⟨e,n,ne,nf,d⟩:=I.pin p hp;refine⟨(hs.2 p.1 ?_).trans e,n,ne,nf,d⟩;intro q;rw[q,hoc]at e;have q':oc=p.2:=Option.some.inj e;exact d w' (by rw[<-q'];exact hocd)
theorem Jf6{M:Model}{A:Around}{E:Value->Shared->Prop}{i:Nat}{x:Str}{v:V}{u:Value}{Q:Unit->Shared->Prop}(I:Inv X pins σ H s)(hN:X.N.Nodup)(hi:X.N[i]? =some x)(hx:Loc X.env.scope x)(r:RelV v u)
  (h:∀s',Inv X pins (σ.set i (some v)) H s'->Q () s')(hf:X.fn x=true\/X.env.scope.names.lookup x=some .local:=by first|exact .inl rfl|exact .inr rfl|assumption):wpAny M A (storeName X.env x u) Q E s:=
 Jgy I hN hi hx r (λs' I' _=>h s' I') hf
theorem Inv.call'{s':Shared}{ch:List Addr}(I:Inv X pins σ H s)(ho:s'.os=s.os)(u:Un (frs X.stack) ch H H' s.heap s'.heap)(hok:HOk X.prog X.w H' s'.heap)(hg:AllBare s'.gens)
  (hch:∀b∈ch,(b∈X.ex\/X.s₀.heap.objs.size<=b)/\b≠X.env.locals/\(∀x c,X.env.cells.lookup x=some c->c≠b)/\∀p∈X.pn++pins,p.1≠b):Inv X pins σ H' s':=by
 obtain⟨h',g',d',t',o'⟩:=s';have e:o'=s.os:=ho;subst e;exact I.call (g':=g') (t':=t') (d':=d') u hok hg hch
end
noncomputable abbrev XK:=Value->Option Addr->Hp->Prop
noncomputable abbrev St:=List (Option V)
noncomputable abbrev VK:=V->Hp->Prop
noncomputable abbrev TE:=St->Hp->VK->Prop
noncomputable abbrev TT:=St->Hp->(Bool->Hp->Prop)->Prop
noncomputable abbrev TA:=St->Hp->(List V->Hp->Prop)->Prop
structure Ends where
 nx:St->Hp->Prop
 rt:VK
 bk:St->Hp->Prop:=λ_ _=>False
 ct:St->Hp->Prop:=λ_ _=>False
noncomputable abbrev TS:=Ends->St->Hp->Prop
noncomputable def EP(X:Cx)(pins:List (Addr×Obj))(σ:St)(Q:VK)(u:Value)(s':Shared):Prop:=∃v H',Inv X pins σ H' s'/\RelV v u/\Q v H'
noncomputable def TP(X:Cx)(pins:List (Addr×Obj))(σ:St)(Q:Bool->Hp->Prop)(b:Bool)(s':Shared):Prop:=∃H',Inv X pins σ H' s'/\Q b H'
noncomputable def AP(X:Cx)(pins:List (Addr×Obj))(σ:St)(Q:List V->Hp->Prop)(us:List Value)(s':Shared):Prop:=∃vs H',Inv X pins σ H' s'/\Vals vs us/\Q vs H'
noncomputable def SP(X:Cx)(pins:List (Addr×Obj))(D:Ends)(f:Flow)(s':Shared):Prop:=
 match f with
 |.next=>∃σ' H',Inv X pins σ' H' s'/\D.nx σ' H'
 |.brk=>∃σ' H',Inv X pins σ' H' s'/\D.bk σ' H'
 |.cont=>∃σ' H',Inv X pins σ' H' s'/\D.ct σ' H'
 |.ret u=>∃v σ' H',Inv X pins σ' H' s'/\RelV v u/\D.rt v H'
noncomputable def PE(X:Cx)(e:Expr)(t:TE):Prop:=
 ∀(pins:List (Addr×Obj)) (s:Shared) (σ:St) (H:Hp) (Q:VK),Inv X pins σ H s->t σ H Q->wpAny (model X.prog X.w) X.A (eval e X.env) (EP X pins σ Q) X.xe s
noncomputable def PT(X:Cx)(e:Expr)(t:TT):Prop:=
 ∀(pins:List (Addr×Obj)) (s:Shared) (σ:St) (H:Hp) (Q:Bool->Hp->Prop),Inv X pins σ H s->t σ H Q->wpAny (model X.prog X.w) X.A (isTrue e X.env (eval e X.env)) (TP X pins σ Q) X.xe s
noncomputable def PW(X:Cx)(e:Expr)(t:TT):Prop:=
 ∀(whole:Sem Value) (pins:List (Addr×Obj)) (s:Shared) (σ:St) (H:Hp) (Q:Bool->Hp->Prop),Inv X pins σ H s->t σ H Q->wpAny (model X.prog X.w) X.A (isTrue e X.env whole) (TP X pins σ Q) X.xe s
theorem PW.pt{X:Cx}{e:Expr}{t:TT}(h:PW X e t):PT X e t:=h _
noncomputable def PA(X:Cx)(es:List Expr)(t:TA):Prop:=
 ∀(pos:Pos) (pins:List (Addr×Obj)) (s:Shared) (σ:St) (H:Hp) (Q:List V->Hp->Prop),Inv X pins σ H s->t σ H Q->wpAny (model X.prog X.w) X.A (spliced (backTo pos (starEach es X.env))) (AP X pins σ Q) X.xe s
noncomputable def PS(X:Cx)(st:Stmt)(t:TS):Prop:=
 ∀(pins:List (Addr×Obj)) (s:Shared) (σ:St) (H:Hp) (D:Ends),Inv X pins σ H s->t D σ H->wpAny (model X.prog X.w) X.A (exec st X.env) (SP X pins D) X.xe s
noncomputable def PSs(X:Cx)(st:List Stmt)(t:TS):Prop:=
 ∀(pins:List (Addr×Obj)) (s:Shared) (σ:St) (H:Hp) (D:Ends),Inv X pins σ H s->t D σ H->wpAny (model X.prog X.w) X.A (execs st X.env) (SP X pins D) X.xe s
theorem thn{α:Type}{t:Sem α}{Q Q':α->Shared->Prop}{M:Model}{A:Around}{E:Value->Shared->Prop}{s:Shared}(h:wpAny M A t Q E s)(hQ:∀a s,Q a s->Q' a s):wpAny M A t Q' E s:=wpAny_mono h hQ λ_ _ x=>x
end L2
namespace L2
open PySem PySem.Spec PyProof.Rows
section
variable {X:Cx}
theorem bin{a b:Expr}{ta tb:TE}(ha:PE X a ta)(hb:PE X b tb){pins:List (Addr×Obj)}{s:Shared}{σ:St}{H:Hp}{R:V->V->Hp->Prop}(I:Inv X pins σ H s)(h:ta σ H λx H1=>tb σ H1 λy H2=>R x y H2)
  {α:Type}{Q:α->Shared->Prop}{f:Value->Value->Sem α}
  (hf:∀v u s2 x y H2,Inv X pins σ H2 s2->RelV x v->RelV y u->R x y H2->wpAny (model X.prog X.w) X.A (f v u) Q X.xe s2):
  wpAny (model X.prog X.w) X.A (eval a X.env) (λv s₁=>wpAny (model X.prog X.w) X.A (eval b X.env) (λu s₂=>wpAny (model X.prog X.w) X.A (f v u) Q X.xe s₂) X.xe s₁) X.xe s:=by
 refine thn (ha pins s σ H _ I h) λv s1 ⟨x,H1,I1,r1,q1⟩=>?_;refine thn (hb pins s1 σ H1 _ I1 q1) λu s2 ⟨y,H2,I2,r2,q2⟩=>?_;exact hf v u s2 x y H2 I2 r1 r2 q2
noncomputable def tVar(i:Nat):TE:=λσ H Q=>∃v,σ[i]? =some (some v)/\Q v H
noncomputable def tC(v:V):TE:=λ_ H Q=>Q v H
theorem Jfd{i:Nat}{x:Str}{pos:Pos}(hN:X.N[i]? =some x)(hv:Vis X.env.scope x)(hd:(x==("__debug__":Str))=false:=by decide)(hcd:(x==("__classdict__":Str))=false:=by decide):PE X (.Name x pos) (tVar i):=by
 intro pins s σ H Q I h;obtain⟨v,e,h⟩:=h;obtain⟨m,hn,hl⟩:=I.loc;obtain⟨u,r,l⟩:=hl i x v hN e hv;have fin:EP X pins σ Q u s:=⟨v,H,I,r,h⟩
 rcases l with⟨hk,hm⟩|⟨hk,c,hc,hcell⟩
 ·exact wpAny_Name (wpAny_loadName_local I.ok.kind hk hn hm fin) hd
 ·rcases hk with hk|hk
  ·exact wpAny_Name (wpAny_loadName_cell I.ok.kind hk hc hcell fin) hd
  ·exact wpAny_Name (wpAny_loadName_free I.ok.kind hk hc hcell fin hcd) hd
theorem Jq1{i j pos}:PE X (.Constant (.int i) j pos) (tC (.int i)):=λ_ _ _ H _ I h=>wpAny_Constant_int ⟨.int i,H,I.tok _,⟨_,rfl⟩,h⟩
theorem Jzg{b j pos}:PE X (.Constant (.bool b) j pos) (tC (.bl b)):=λ_ _ _ H _ I h=>Constant_bool ⟨.bl b,H,I,rfl,h⟩
theorem Jwm{j pos}:PE X (.Constant .none j pos) (tC .non):=λ_ _ _ H _ I h=>Constant_none ⟨.non,H,I,rfl,h⟩
theorem Jq0{x j pos}:PE X (.Constant (.str x) j pos) (tC (.str x)):=λ_ _ _ H _ I h=>Calls.Constant_str ⟨.str x,H,I.tok _,⟨_,rfl⟩,h⟩
noncomputable def Gl(X:Cx)(x:Str):Prop:=X.env.kindOf x=some .globalImplicit
theorem Jd8{E:Value->Shared->Prop}{pins:List (Addr×Obj)}{s:Shared}{σ:St}{H:Hp}{x:Str}{u:Value}{pos:Pos}{Q:Value->Shared->Prop}(I:Inv X pins σ H s)(hg:Gl X x)(hm:X.mg x=some u)(h:Q u s)
  (hd:(x==("__debug__":Str))=false:=by decide):wpAny (model X.prog X.w) X.A (eval (.Name x pos) X.env) Q E s:=
 Calls.Name_function_global I.ok.kind hg (Calls.loadGlobal_global (by rw[I.ok.glob];exact I.mod.glob.keeps I.bk) hm h) hd
theorem Jhe{E:Value->Shared->Prop}{pins:List (Addr×Obj)}{s:Shared}{σ:St}{H:Hp}{x:Str}{u:Value}{pos:Pos}{Q:Value->Shared->Prop}(I:Inv X pins σ H s)(hg:Gl X x)(hm:X.mg x=none)(hv:bootBuiltins x=some u)(h:Q u s)
  (hn:x≠"__name__":=by decide)(hd:(x==("__debug__":Str))=false:=by decide):wpAny (model X.prog X.w) X.A (eval (.Name x pos) X.env) Q E s:=by
 obtain⟨mb,h1,h2⟩:=I.mod.blt;exact Calls.Name_function_global I.ok.kind hg (Calls.loadGlobal_builtin (by rw[I.ok.glob];exact I.mod.glob.keeps I.bk) hm (by rw[I.ok.blt];exact h1.keeps I.bk) ((h2 x hn).trans hv) h) hd
theorem Jmf{x:Str}{v:V}{u:Value}{pos:Pos}(hg:Gl X x)(hm:X.mg x=some u)(r:RelV v u)(hd:(x==("__debug__":Str))=false:=by decide):PE X (.Name x pos) (tC v):=
 λ_ _ _ H _ I h=>Jd8 I hg hm ⟨v,H,I,r,h⟩ hd
theorem Jmg{x:Str}{v:V}{u:Value}{pos:Pos}(hg:Gl X x)(hm:X.mg x=none)(hv:bootBuiltins x=some u)(r:RelV v u)(hn:x≠"__name__":=by decide)(hd:(x==("__debug__":Str))=false:=by decide):PE X (.Name x pos) (tC v):=
 λ_ _ _ H _ I h=>Jhe I hg hm hv ⟨v,H,I,r,h⟩ hn hd
variable {a b:Expr} {ta tb:TE} {pos:Pos}
variable {tA tB':TT} {rest:List Expr}
noncomputable def tAnd(t u:TT):TT:=λσ H Q=>t σ H λc H1=>if c=true then u σ H1 Q else Q false H1
noncomputable def tOr(t u:TT):TT:=λσ H Q=>t σ H λc H1=>if c=true then Q true H1 else u σ H1 Q
noncomputable def tNot(t:TT):TT:=λσ H Q=>t σ H λc H1=>Q (!c) H1
theorem Jst(ha:PT X a tA):PW X (.BoolOp .And [a] pos) tA:=by
 intro wh pins s σ H Q I h;refine isTrue_and (thn (ha pins s σ H Q I h) λc s1 e=>?_);cases c with
 |true=>exact isTrue_and_nil e
 |false=>exact e
theorem Jwc(ha:PT X a tA):PW X (.BoolOp .Or [a] pos) tA:=by
 intro wh pins s σ H Q I h;refine isTrue_or (thn (ha pins s σ H Q I h) λc s1 e=>?_);cases c with
 |false=>exact isTrue_or_nil e
 |true=>exact e
theorem Jwd(ha:PT X a tA)(hb:PW X (.BoolOp .And (b::rest) pos) tB'):PW X (.BoolOp .And (a::b::rest) pos) (tAnd tA tB'):=by
 intro wh pins s σ H Q I h;refine isTrue_and (thn (ha pins s σ H _ I h) λc s1 ⟨H1,I1,q1⟩=>?_);cases c with
 |true=>exact hb wh pins s1 σ H1 Q I1 q1
 |false=>exact⟨H1,I1,q1⟩
theorem Jy9(ha:PT X a tA)(hb:PW X (.BoolOp .Or (b::rest) pos) tB'):PW X (.BoolOp .Or (a::b::rest) pos) (tOr tA tB'):=by
 intro wh pins s σ H Q I h;refine isTrue_or (thn (ha pins s σ H _ I h) λc s1 ⟨H1,I1,q1⟩=>?_);cases c with
 |true=>exact⟨H1,I1,q1⟩
 |false=>exact hb wh pins s1 σ H1 Q I1 q1
theorem Jqt(ha:PT X a tA):PT X (.UnaryOp .Not a pos) (tNot tA):=by
 intro pins s σ H Q I h;exact isTrue_not (ha pins s σ H (λc H1=>Q (!c) H1) I h)
noncomputable def tAndV(ta tb:TE):TE:=λσ H Q=>ta σ H λx H1=>∃c,x=.bl c/\if c=true then tb σ H1 Q else Q (.bl false) H1
noncomputable def tOrV(ta tb:TE):TE:=λσ H Q=>ta σ H λx H1=>∃c,x=.bl c/\if c=true then Q (.bl true) H1 else tb σ H1 Q
theorem Jwl{op}{t:TE}(h:PE X a t):PE X (.BoolOp op [a] pos) t:=λpins s σ H Q I hw=>BoolOp_one (h pins s σ H Q I hw)
theorem Jwp(ha:PE X a ta)(hb:PE X (.BoolOp .And (b::rest) pos) tb):PE X (.BoolOp .And (a::b::rest) pos) (tAndV ta tb):=by
 intro pins s σ H Q I h;refine BoolOp_and (thn (ha pins s σ H _ I h) λv s1 ⟨x,H1,I1,r1,q1⟩=>?_);obtain⟨c,rfl,q1⟩:=q1;cases r1;refine wpAny_truthy_bool ?_;cases c with
 |true=>exact hb pins s1 σ H1 Q I1 q1
 |false=>exact⟨.bl false,H1,I1,rfl,q1⟩
theorem Jzf(ha:PE X a ta)(hb:PE X (.BoolOp .Or (b::rest) pos) tb):PE X (.BoolOp .Or (a::b::rest) pos) (tOrV ta tb):=by
 intro pins s σ H Q I h;refine BoolOp_or (thn (ha pins s σ H _ I h) λv s1 ⟨x,H1,I1,r1,q1⟩=>?_);obtain⟨c,rfl,q1⟩:=q1;cases r1;refine wpAny_truthy_bool ?_;cases c with
 |false=>exact hb pins s1 σ H1 Q I1 q1
 |true=>exact⟨.bl true,H1,I1,rfl,q1⟩
noncomputable def tIf(t:TT)(ta tb:TE):TE:=λσ H Q=>t σ H λc H1=>if c=true then ta σ H1 Q else tb σ H1 Q
theorem Joy{c:Expr}(hc:PT X c tA)(ha:PE X a ta)(hb:PE X b tb):PE X (.IfExp c a b pos) (tIf tA ta tb):=by
 intro pins s σ H Q I h;refine wpAny_IfExp (thn (hc pins s σ H _ I h) λd s1 ⟨H1,I1,q1⟩=>?_);cases d with
 |true=>exact ha pins s1 σ H1 Q I1 q1
 |false=>exact hb pins s1 σ H1 Q I1 q1
end
end L2
namespace L2
open PySem PySem.Spec PyProof.Rows
noncomputable def SqL(K:PySem.W.Frag)(H:Hp)(a:Addr)(xs:List V):Prop:=
 Rd H a (.lst xs)\/
  ∃(o:Obj) (its:Array Value) (n:Nat),K.lookup a=some o/\o.cls=.type "list"/\o.dict=none/\o.data=.seq its n/\its.size<=sizeLine/\Vals xs its.toList
noncomputable def SqT(K:PySem.W.Frag)(H:Hp)(a:Addr)(xs:List V):Prop:=
 Rd H a (.tup xs)\/
  ∃(o:Obj) (its:Array Value) (n:Nat),K.lookup a=some o/\o.cls=.type "tuple"/\o.data=.seq its n/\its.size<=sizeLine/\Vals xs its.toList
noncomputable def absV:Value->Option V
 |.none=>some .non
 |.bool b=>some (.bl b)
 |.int i _=>some (.int i)
 |.str x _=>some (.str x)
 |.bytes b _=>some (.byt b)
 |.float b _=>some (.flt b)
 |.ref a=>some (.ref a)
 |.type n=>some (.ty n)
 |_=>none
theorem RelV.abs{x:V}{u:Value}(r:RelV x u):absV u=some x:=by
 cases x with
 |non=>cases r;rfl
 |bl _=>cases r;rfl
 |int _=>obtain⟨t,rfl⟩:=r;rfl
 |str _=>obtain⟨t,rfl⟩:=r;rfl
 |byt _=>obtain⟨t,rfl⟩:=r;rfl
 |flt _=>obtain⟨t,rfl⟩:=r;rfl
 |ref _=>cases r;rfl
 |ty _=>cases r;rfl
theorem RelV.inj{x y:V}{u:Value}(r:RelV x u)(q:RelV y u):x=y:=Option.some.inj (r.abs.symm.trans q.abs)
theorem Vals.inj:∀{xs ys:List V} {us:List Value},Vals xs us->Vals ys us->xs=ys
 |_,_,_,.nil,.nil=>rfl
 |_,_,_,.cons r t,.cons r' t'=>by rw[r.inj r',Vals.inj t t']
section
variable {X:Cx} {pins:List (Addr×Obj)} {σ:St} {H:Hp} {s:Shared} {a:Addr} {xs ys:List V}
theorem SqL.of{K:PySem.W.Frag}(h:H a=some (.lst xs)):SqL K H a xs:=.inl (.inl h)
theorem SqT.of{K:PySem.W.Frag}(h:H a=some (.tup xs)):SqT K H a xs:=.inl (.inl h)
theorem Inv.list(I:Inv X pins σ H s)(h:SqL X.K H a xs):∃its:List Value,Vals xs its/\PlainL s.heap a its.toArray/\xs.length<=sizeLine:=by
 rcases h with h|⟨o,its,n,hk,hc,hd,hs,hz,r⟩
 ·obtain⟨z,its,n,r,e⟩:=h.ok I.hok;exact⟨its,r,⟨_,n,e,rfl,rfl,rfl⟩,z⟩
 ·refine⟨its.toList,r,⟨o,n,I.kIn a o hk,hc,hd,by simpa using hs⟩,?_⟩;have e:=r.length;simp only[Array.length_toList]at e;omega
theorem Inv.tuple(I:Inv X pins σ H s)(h:SqT X.K H a xs):∃its:List Value,Vals xs its/\IsTup s.heap a its.toArray/\xs.length<=sizeLine:=by
 rcases h with h|⟨o,its,n,hk,hc,hs,hz,r⟩
 ·obtain⟨z,its,r,p⟩:=h.ok I.hok;exact⟨its,r,p,z⟩
 ·refine⟨its.toList,r,⟨o,I.kIn a o hk,hc,n,by simpa using hs⟩,?_⟩;have e:=r.length;simp only[Array.length_toList]at e;omega
theorem Inv.list_inj(I:Inv X pins σ H s)(h:SqL X.K H a xs)(h':SqL X.K H a ys):xs=ys:=by
 obtain⟨its,r,⟨o,n,e,_,_,d⟩,_⟩:=I.list h;obtain⟨its',r',⟨o',n',e',_,_,d'⟩,_⟩:=I.list h';rw[e]at e';cases e';rw[d]at d';injection d' with d1 _;have:its=its':=by simpa using congrArg Array.toList d1
 subst this;exact r.inj r'
theorem Inv.tuple_inj(I:Inv X pins σ H s)(h:SqT X.K H a xs)(h':SqT X.K H a ys):xs=ys:=by
 obtain⟨its,r,⟨o,e,_,n,d⟩,_⟩:=I.tuple h;obtain⟨its',r',⟨o',e',_,n',d'⟩,_⟩:=I.tuple h';rw[e]at e';cases e';rw[d]at d';injection d' with d1 _;have:its=its':=by simpa using congrArg Array.toList d1
 subst this;exact r.inj r'
end
noncomputable abbrev Cx.wish(X:Cx)(E:Value->Shared->Prop):Cx:={X with xe:=E}
noncomputable abbrev Cx.nox(X:Cx):Cx:=X.wish λ_ _=>False
theorem Cx.Ok.wish{X:Cx}(ok:X.Ok)(E:Value->Shared->Prop):(X.wish E).Ok:=
 ⟨ok.mod,ok.kind,ok.glob,ok.blt,ok.above,ok.inj,ok.has,ok.cab,ok.hd,ok.frames,ok.stk,ok.exf,ok.bs,ok.bsz,ok.noex,ok.exfs,ok.funs,ok.frf⟩
theorem Cx.Ok.unwish{X:Cx}{E:Value->Shared->Prop}(ok:(X.wish E).Ok):X.Ok:=
 ⟨ok.mod,ok.kind,ok.glob,ok.blt,ok.above,ok.inj,ok.has,ok.cab,ok.hd,ok.frames,ok.stk,ok.exf,ok.bs,ok.bsz,ok.noex,ok.exfs,ok.funs,ok.frf⟩
section
variable {X:Cx} {pins:List (Addr×Obj)} {σ:St} {H:Hp} {s:Shared} {E:Value->Shared->Prop}
theorem Inv.wish(I:Inv X pins σ H s)(E:Value->Shared->Prop):Inv (X.wish E) pins σ H s:=⟨I.ok.wish E,I.os,I.bare,I.base,I.loc,I.cell,I.free,I.freeC,I.pin,I.hok,I.len⟩
theorem Inv.unwish(I:Inv (X.wish E) pins σ H s):Inv X pins σ H s:=⟨I.ok.unwish,I.os,I.bare,I.base,I.loc,I.cell,I.free,I.freeC,I.pin,I.hok,I.len⟩
theorem SP.unwish{D:Ends}{f:Flow}{s':Shared}(h:SP (X.wish E) pins D f s'):SP X pins D f s':=by
 cases f with
 |next=>obtain⟨σ',H',I,q⟩:=h;exact⟨σ',H',I.unwish,q⟩
 |brk=>obtain⟨σ',H',I,q⟩:=h;exact⟨σ',H',I.unwish,q⟩
 |cont=>obtain⟨σ',H',I,q⟩:=h;exact⟨σ',H',I.unwish,q⟩
 |ret u=>obtain⟨v,σ',H',I,r,q⟩:=h;exact⟨v,σ',H',I.unwish,r,q⟩
theorem PE.nox{e:Expr}{t:TE}(h:PE X.nox e t):PE X e t:=λpins s σ H Q I hw=>
 wpAny_mono (h pins s σ H Q (I.wish _) hw) (λ_ _ ⟨v,H',I',r,q⟩=>⟨v,H',I'.unwish,r,q⟩) λ_ _ z=>False.elim z
theorem PT.nox{e:Expr}{t:TT}(h:PT X.nox e t):PT X e t:=λpins s σ H Q I hw=>
 wpAny_mono (h pins s σ H Q (I.wish _) hw) (λ_ _ ⟨H',I',q⟩=>⟨H',I'.unwish,q⟩) λ_ _ z=>False.elim z
theorem PSs.nox{st:List Stmt}{t:TS}(h:PSs X.nox st t):PSs X st t:=λpins s σ H D I hw=>
 wpAny_mono (h pins s σ H D (I.wish _) hw) (λ_ _ q=>q.unwish) λ_ _ z=>False.elim z
end
section
variable {X:Cx} {st:Stmt} {rest:List Stmt} {t u:TS} {e:Expr} {te:TE} {pos:Pos}
noncomputable def tNext:TS:=λD σ H=>D.nx σ H
noncomputable def tSeq(t u:TS):TS:=λD σ H=>t {D with nx:=u D} σ H
theorem Jl4:PSs X [] tNext:=λ_ _ σ H _ I h=>wpAny_execs_nil ⟨σ,H,I,h⟩
theorem Jez(h1:PS X st t)(h2:PSs X rest u):PSs X (st::rest) (tSeq t u):=by
 intro pins s σ H D I h;refine wpAny_execs_cons (thn (h1 pins s σ H {D with nx:=u D} I h) λf s1 q=>?_);cases f with
 |next=>
  obtain⟨σ',H',I',q⟩:=q;exact h2 pins s1 σ' H' D I' q
 |ret v=>exact q
 |brk=>exact q
 |cont=>exact q
theorem Jsv(h1:PS X st t):PSs X [st] t:=by
 intro pins s σ H D I h;refine wpAny_execs_cons (thn (h1 pins s σ H D I h) λf s1 q=>?_);cases f with
 |next=>exact wpAny_execs_nil q
 |ret v=>exact q
 |brk=>exact q
 |cont=>exact q
theorem Inv.quiet{pins:List (Addr×Obj)}{σ:St}{H:Hp}{s:Shared}(I:Inv X pins σ H s):interactive X.env=false:=by simp[interactive,I.ok.kind]
noncomputable def tDrop(te:TE):TS:=λD σ H=>te σ H λ_ H1=>D.nx σ H1
theorem Jl5(he:PE X e te)(hs:swapsWith e none pos.line X.env=pure false:=by rfl):PS X (.Expr e pos) (tDrop te):=by
 intro pins s σ H D I h;exact wpAny_Expr_any (thn (he pins s σ H _ I h) λv s1 ⟨x,H1,I1,r1,q1⟩=>⟨σ,H1,I1,q1⟩) I.quiet hs
noncomputable def tRet(te:TE):TS:=λD σ H=>te σ H D.rt
theorem Jjd(he:PE X e te):PS X (.Return (some e) pos) (tRet te):=by
 intro pins s σ H D I h;exact wpAny_Return_some (thn (he pins s σ H _ I h) λv s1 ⟨x,H1,I1,r1,q1⟩=>⟨x,σ,H1,I1,r1,q1⟩)
noncomputable def tIfS(c:TT)(t u:TS):TS:=λD σ H=>c σ H λb H1=>if b=true then t D σ H1 else u D σ H1
theorem Jkd{c:Expr}{a b:List Stmt}{tc:TT}(hc:PT X c tc)(ha:PSs X a t)(hb:PSs X b u):PS X (.If c a b pos) (tIfS tc t u):=by
 intro pins s σ H D I h;refine wpAny_If (thn (hc pins s σ H _ I h) λd s1 ⟨H1,I1,q1⟩=>?_);cases d with
 |true=>exact ha pins s1 σ H1 D I1 q1
 |false=>exact hb pins s1 σ H1 D I1 q1
end
noncomputable abbrev TG:=V->St->Hp->(St->Hp->Prop)->Prop
noncomputable abbrev TGs:=List V->St->Hp->(St->Hp->Prop)->Prop
noncomputable def PG(X:Cx)(target:Expr)(t:TG):Prop:=
 ∀(pins:List (Addr×Obj)) (s:Shared) (σ:St) (H:Hp) (v:V) (u:Value) (Q:St->Hp->Prop),Inv X pins σ H s->RelV v u->t v σ H Q->
  wpAny (model X.prog X.w) X.A (assign target X.env u) (λ_ s'=>∃σ' H',Inv X pins σ' H' s'/\Q σ' H') X.xe s
noncomputable def PGs(X:Cx)(ts:List Expr)(t:TGs):Prop:=
 ∀(pins:List (Addr×Obj)) (s:Shared) (σ:St) (H:Hp) (vs:List V) (us:List Value) (Q:St->Hp->Prop),Inv X pins σ H s->Vals vs us->t vs σ H Q->
  wpAny (model X.prog X.w) X.A (assignInOrder ((assignEach ts X.env).map (·.2)) us) (λ_ s'=>∃σ' H',Inv X pins σ' H' s'/\Q σ' H') X.xe s
noncomputable abbrev TSet:=V->V->V->Hp->(Hp->Prop)->Prop
noncomputable def PSet(X:Cx)(t:TSet):Prop:=
 ∀(pins:List (Addr×Obj)) (s:Shared) (σ:St) (H:Hp) (o i v:V) (ov iv u:Value) (Q:Hp->Prop),Inv X pins σ H s->RelV o ov->RelV i iv->RelV v u->t o i v H Q->
  wpAny (model X.prog X.w) X.A (setItem ov iv u) (λ_ s'=>∃H',Inv X pins σ H' s'/\Q H') X.xe s
section
variable {X:Cx} {pos:Pos}
noncomputable def gName(i:Nat):TG:=λv σ H Q=>Q (σ.set i (some v)) H
theorem Jfc{i:Nat}{x:Str}(hN:X.N.Nodup)(hi:X.N[i]? =some x)(hx:Loc X.env.scope x)(hf:X.fn x=true\/X.env.scope.names.lookup x=some .local:=by first|exact .inl rfl|exact .inr rfl|assumption):PG X (.Name x pos) (gName i):=by
 intro pins s σ H v u Q I r h;exact wpAny_assign_Name (Jf6 I hN hi hx r (λs' I'=>⟨_,H,I',h⟩) hf)
noncomputable def gNil:TGs:=λvs σ H Q=>vs=[]/\Q σ H
noncomputable def gCons(t:TG)(u:TGs):TGs:=λvs σ H Q=>∃v r,vs=v::r/\t v σ H λσ' H'=>u r σ' H' Q
theorem Js3:PGs X [] gNil:=by
 intro pins s σ H vs us Q I r h;obtain⟨e,h⟩:=h;subst e;cases r;exact assignInOrder_nil ⟨σ,H,I,h⟩
theorem Jov{e:Expr}{es:List Expr}{t:TG}{u:TGs}(h1:PG X e t)(h2:PGs X es u)
  (hs:(assignEach (e::es) X.env).map (·.2)=assign e X.env::(assignEach es X.env).map (·.2):=by rfl):PGs X (e::es) (gCons t u):=by
 intro pins s σ H vs us Q I r h;obtain⟨v,vr,e1,h⟩:=h;subst e1;cases r with
 |cons r rr=>
  rw[hs];refine assignInOrder_cons (thn (h1 pins s σ H _ _ _ I r h) λ_ s1 ⟨σ1,H1,I1,q1⟩=>?_);exact h2 pins s1 σ1 H1 _ _ Q I1 rr q1
noncomputable def gTup(K:PySem.W.Frag)(n:Nat)(t:TGs):TG:=λv σ H Q=>∃a xs,v=.ref a/\SqT K H a xs/\xs.length=n/\t xs σ H Q
theorem Jwi{es:List Expr}{k:Nat}{t:TGs}{n:Nat}(hc:X.calm=true)(h:PGs X es t)
  (hn:(assignEach es X.env).length=n:=by rfl)(hst:(assignEach es X.env).findIdx? (·.1)=none:=by rfl):PG X (.Tuple es k pos) (gTup X.K n t):=by
 intro pins s σ H v u Q I r hw;obtain⟨a,xs,e1,hq,hl,hw⟩:=hw;subst e1;cases r;obtain⟨its,rv,ht,hz⟩:=I.tuple hq;refine assign_Tuple_tuple (I.ok.hd hc) ht (by simp[hn,<-hl,rv.length]) hst λh' hx=>?_;have I1:Inv X pins σ H {s with heap:=h'}:=I.kept (t':=s.toks) λb o e=>hx b o (Nat.ne_of_lt (Heap.lt_size e)) e;exact h pins _ σ H xs _ Q I1 (by simpa using rv) hw
noncomputable def gSub(to ti:TE)(t:TSet):TG:=λv σ H Q=>to σ H λo H1=>ti σ H1 λi H2=>t o i v H2 λH3=>Q σ H3
theorem Jwj{o i:Expr}{to ti:TE}{t:TSet}(ho:PE X o to)(hi:PE X i ti)(hs:PSet X t)
  (ha:∀v,assign (.Subscript o i pos) X.env v=(do
   let ov<-holding [v] (eval o X.env)
   let iv<-holding [v,ov] (eval i X.env)
   standAt pos
   holding [v,ov,iv] (setItem ov iv v)
   release [v,ov,iv] []):=by intro _;rfl):PG X (.Subscript o i pos) (gSub to ti t):=by
 intro pins s σ H v u Q I r h;rw[ha];refine wpAny_bind (wpAny_holding (thn (ho pins s σ H _ I h) λov s1 ⟨x,H1,I1,r1,q1⟩=>?_));refine wpAny_bind (wpAny_holding (thn (hi pins s1 σ H1 _ I1 q1) λiv s2 ⟨y,H2,I2,r2,q2⟩=>?_));refine wpAny_bind (wpAny_standAt (wpAny_bind (wpAny_holding (thn (hs pins s2 σ H2 x y v ov iv u _ I2 r1 r2 r q2) λ_ s3 ⟨H3,I3,q3⟩=>?_))));exact wpAny_release ⟨σ,H3,I3,q3⟩
noncomputable def tAsg(te:TE)(g:TG):TS:=λD σ H=>te σ H λx H1=>g x σ H1 D.nx
theorem Jjf{tg e:Expr}{te:TE}{g:TG}(he:PE X e te)(hg:PG X tg g)(hs:swapsWithSole [tg] e pos.line X.env=pure false:=by rfl)(hw:swappedStores [tg] e X.env=pure none:=by rfl)
  (h1:(assignEach [tg] X.env).map (·.2)=[assign tg X.env]:=by rfl):PS X (.Assign [tg] e pos) (tAsg te g):=by
 intro pins s σ H D I h;refine wpAny_Assign_stores (thn (he pins s σ H _ I h) λv s1 ⟨x,H1,I1,r1,q1⟩=>?_) hs hw;rw[h1];exact thn (hg pins s1 σ H1 x v _ I1 r1 q1) λ_ s2 q=>q
theorem Jqu{i:Nat}{x:Str}{e:Expr}{te:TE}{pos':Pos}(hN:X.N.Nodup)(hi:X.N[i]? =some x)(hx:Loc X.env.scope x)(he:PE X e te)(hs:swapsWith e (some (.Name x pos')) pos.line X.env=pure false:=by rfl)(hf:X.fn x=true\/X.env.scope.names.lookup x=some .local:=by first|exact .inl rfl|exact .inr rfl|assumption):
  PS X (.Assign [.Name x pos'] e pos) (tAsg te (gName i)):=by
 intro pins s σ H D I h;refine wpAny_Assign_Name (thn (he pins s σ H _ I h) λv s1 ⟨y,H1,I1,r1,q1⟩=>?_) hs;exact Jf6 I1 hN hi hx r1 (λs2 I2=>⟨_,H1,I2,q1⟩) hf
end
section
variable {X:Cx} {pos:Pos}
noncomputable def tWhile(c:TT)(tb:TS):TS:=λD σ H=>∃W:Nat->St->Hp->Prop,(∃m,W m σ H)/\∀m σ H,W m σ H->
 c σ H λb H1=>if b=true then∃N:St->Hp->Prop,(∀σ' H',N σ' H'->∃m',m'<m/\W m' σ' H')/\tb {D with nx:=N,ct:=N,bk:=D.nx} σ H1 else D.nx σ H1
theorem Jop{c:Expr}{body:List Stmt}{tc:TT}{tb:TS}(hp:PassesOwn (model X.prog X.w) X.A X.env X.xe)(hc:PT X c tc)(hb:PSs X body tb):PS X (.While c body [] pos) (tWhile tc tb):=by
 intro pins s σ H D I h;obtain⟨W,⟨m0,w0⟩,turn⟩:=h;refine wpAny_While (codeAny_whileLoop (λn s'=>∃σ' H',Inv X pins σ' H' s'/\W n σ' H') ?_ m0 ⟨σ,H,I,w0⟩);rintro n s1 ⟨σ1,H1,I1,w1⟩;refine wpAny_passesOwn hp (thn (hc pins s1 σ1 H1 _ I1 (turn n σ1 H1 w1)) λb s2 ⟨H2,I2,q2⟩=>?_);cases b with
 |true=>
  obtain⟨N,hN,q2⟩:=q2;rw[if_pos rfl];refine wpAny_passesOwn hp (thn (hb pins s2 σ1 H2 _ I2 q2) λf s3 q3=>?_);cases f with
  |next=>
   obtain⟨σ3,H3,I3,n3⟩:=q3;obtain⟨m',hm,w3⟩:=hN σ3 H3 n3;exact⟨m',hm,σ3,H3,I3,w3⟩
  |cont=>
   obtain⟨σ3,H3,I3,n3⟩:=q3;obtain⟨m',hm,w3⟩:=hN σ3 H3 n3;exact⟨m',hm,σ3,H3,I3,w3⟩
  |brk=>exact q3
  |ret v=>exact q3
 |false=>
  rw[if_neg Bool.false_ne_true];exact wpAny_execs_nil ⟨σ1,H2,I2,q2⟩
end
structure It where
 go:Nat->Hp->Prop
 yld:Nat->Hp->V->Hp->Prop
 stop:Nat->Hp->Prop
noncomputable def FpOk(X:Cx)(pins:List (Addr×Obj))(H:Hp)(b:Addr):Prop:=
 H b=none/\b≠X.env.locals/\b∉X.fs/\(b∈X.ex\/X.s₀.heap.objs.size<=b)/\(∀x c,X.env.cells.lookup x=some c->c≠b)/\∀p∈X.pn++pins,p.1≠b
theorem Inv.fpOk{X:Cx}{pins:List (Addr×Obj)}{σ:St}{H H':Hp}{s:Shared}{b:Addr}(I:Inv X pins σ H s)(hb:s.heap.objs.size<=b)(hn:H' b=none):FpOk X pins H' b:=by
 refine⟨hn,Nat.ne_of_gt (Nat.lt_of_lt_of_le I.lt hb),I.nofs hb,.inr (Nat.le_trans I.sz hb),λx c e z=>?_,λp hp z=>?_⟩
 ·obtain⟨v,q⟩:=I.cell x c e;exact absurd (Nat.lt_of_lt_of_le q.lt (by rw[z];exact hb)) (Nat.lt_irrefl _)
 ·exact absurd (Nat.lt_of_lt_of_le (Heap.lt_size (I.pin p hp).1) (by rw[z];exact hb)) (Nat.lt_irrefl _)
structure Turn(P:Program)(w:World)(K:PySem.W.Frag)(tg:Expr)(J:It)(fp:List Addr)(it:Addr)(tn:Nat->Heap->Prop):Prop where
 mem:it∈fp
 obj:∀i h,tn i h->∀b∈fp,∃o,h.get? b=some o/\∀v,o.data≠ .cell v
 keep:∀i h h',tn i h->(∀b∈fp,∀o,h.get? b=some o->h'.get? b=some o)->tn i h'
 item:∀(X:Cx),X.prog=P->X.w=w->X.K=K->X.calm=true->∀(i:Nat) (pins:List (Addr×Obj)) (s:Shared) (σ:St) (H:Hp) (E:Value->Shared->Prop),Inv X pins σ H s->(∀b∈fp,FpOk X pins H b)->tn i s.heap->J.go i H->
  wpAny (model P w) X.A (pyNext (.ref it)) (λr s1=>∃u,r=some u/\
   wpAny (model P w) X.A (letOwnedTupleGo tg (.ref it) u) (λ_ s2=>∃x H',Inv X pins σ H' s2/\RelV x u/\J.yld i H x H'/\tn (i+1) s2.heap/\∀b∈fp,H' b=none) E s1) E s
 done:∀(X:Cx),X.prog=P->X.w=w->X.K=K->X.calm=true->∀(i:Nat) (pins:List (Addr×Obj)) (s:Shared) (σ:St) (H:Hp) (E:Value->Shared->Prop),Inv X pins σ H s->(∀b∈fp,FpOk X pins H b)->tn i s.heap->J.stop i H->
  wpAny (model P w) X.A (pyNext (.ref it)) (λr s1=>r=none/\Inv X pins σ H s1) E s
 self:∀(A:Around) (i:Nat) (s:Shared) (Q:Value->Shared->Prop) (E:Value->Shared->Prop),tn i s.heap->Q (.ref it) s->wpAny (model P w) A (pyIter (.ref it)) Q E s
noncomputable abbrev TI:=St->Hp->(It->Hp->Prop)->Prop
noncomputable def PIE(X:Cx)(pins:List (Addr×Obj))(σ:St)(tg:Expr)(R:It->Hp->Prop)(itv:Value)(s2:Shared):Prop:=
 ∃(it:Addr) (fp:List Addr) (tn:Nat->Heap->Prop) (J:It) (H':Hp),itv=.ref it/\Inv X pins σ H' s2/\Turn X.prog X.w X.K tg J fp it tn/\tn 0 s2.heap/\(∀b∈fp,FpOk X pins H' b)/\R J H'
noncomputable def PI(X:Cx)(tg iter:Expr)(wi:TI):Prop:=
 ∀(pins:List (Addr×Obj)) (s:Shared) (σ:St) (H:Hp) (R:It->Hp->Prop),Inv X pins σ H s->wi σ H R->
  wpAny (model X.prog X.w) X.A (eval iter X.env) (λv s1=>wpAny (model X.prog X.w) X.A (pyIter v) (PIE X pins σ tg R) X.xe s1) X.xe s
theorem Jkl{M:Model}{A:Around}{E:Value->Shared->Prop}{s:Shared}{tg:Expr}{it:Addr}{u:Value}{o:Obj}{n:String}{vs:Array Value}{Q:Unit->Shared->Prop}(ho:s.heap.get? it=some o)(hc:o.cls=.type n)(hd:o.data=.fields vs)
  (hn:["enumerate","zip","dict_itemiterator","dict_reverseitemiterator","odict_iterator","itertools.zip_longest","itertools.pairwise"].contains n=false)(hQ:Q () s):wpAny M A (letOwnedTupleGo tg (.ref it) u) Q E s:=by
 unfold letOwnedTupleGo;cases tg<;>first
  |exact wpAny_pure hQ
  |(cases u<;>first
    |exact wpAny_pure hQ
    |(refine wpAny_bind (wpAny_load ho ?_)
      rw[hc,hd];show wpAny M A (if(["enumerate","zip","dict_itemiterator","dict_reverseitemiterator","odict_iterator","itertools.zip_longest","itertools.pairwise"].contains n&&vs[0]? ==some (rawInt _))=true then _ else _) Q E s;rw[if_neg (by intro h;rw[hn,Bool.false_and]at h;cases h)];exact wpAny_pure hQ))
noncomputable def Itl(K:PySem.W.Frag)(a:Addr):It:=
 ⟨λi H=>∃xs x,SqL K H a xs/\xs[i]? =some x,λi H x H'=>H'=H/\∀xs,SqL K H a xs->xs[i]? =some x,λi H=>∃xs,SqL K H a xs/\xs.length<=i⟩
noncomputable def Itt(K:PySem.W.Frag)(a:Addr):It:=
 ⟨λi H=>∃xs x,SqT K H a xs/\xs[i]? =some x,λi H x H'=>H'=H/\∀xs,SqT K H a xs->xs[i]? =some x,λi H=>∃xs,SqT K H a xs/\xs.length<=i⟩
noncomputable def Itr(lo:Int)(n:Nat):It:=⟨λi _=>i<n,λi H x H'=>H'=H/\x=.int (lo+i),λi _=>n<=i⟩
theorem Jdr{P:Program}{w:World}{K:PySem.W.Frag}{tg:Expr}(a it:Addr):Turn P w K tg (Itl K a) [it] it (λi h=>h.IsListIter it a i)where
 mem:=by simp
 obj:=λi h st b hb=>by
  have e:b=it:=by simpa using hb
  subst e;obtain⟨o,e,c,d⟩:=st;exact⟨o,e,λv z=>by rw[d]at z;cases z⟩
 keep:=λi h h' st k=>st.at λo e=>k it (by simp) o e
 item:=by
  intro X hP hw hK hc i pins s σ H E I hf st hg;subst hP hw hK;obtain⟨xs,x,hq,hx⟩:=hg;obtain⟨its,rv,p,hz⟩:=I.list hq;obtain⟨u,hu,ru⟩:=rv.get hx;obtain⟨f0,f1,f2,f3,f4,f5⟩:=hf it (by simp);refine wpAny_pyNext_list_item st p.isList (x:=u) (by simpa using hu) λh' st' sb=>?_;have I1:Inv X pins σ H {s with heap:=h'}:=I.turned (t':=s.toks) (λb o hb e=>(sb.2 b hb).trans e) f0 f1 f3 f4 f5;obtain⟨o,e,c,d⟩:=id st';exact⟨u,rfl,Jkl (s:={s with heap:=h'}) e c d (by decide) ⟨x,H,I1,ru,⟨rfl,λys hy=>by rw[I.list_inj hy hq];exact hx⟩,st',λb hb=>(hf b hb).1⟩⟩
 done:=by
  intro X hP hw hK hc i pins s σ H E I hf st hg;subst hP hw hK;obtain⟨xs,hq,hx⟩:=hg;obtain⟨its,rv,p,hz⟩:=I.list hq;obtain⟨f0,f1,f2,f3,f4,f5⟩:=hf it (by simp);have hl:=rv.length;exact wpAny_pyNext_list_end (I.ok.hd hc) st p.isList (by simp;omega) λh' eb=>⟨rfl,I.turned (t':=s.toks) (λb o hb e=>eb b o hb e) f0 f1 f3 f4 f5⟩
 self:=λ_ _ _ _ _ st h=>wpAny_pyIter_listiter st h
theorem Jj5{P:Program}{w:World}{K:PySem.W.Frag}{tg:Expr}(a it:Addr):Turn P w K tg (Itt K a) [it] it (λi h=>h.IsTupleIter it a i)where
 mem:=by simp
 obj:=λi h st b hb=>by
  have e:b=it:=by simpa using hb
  subst e;obtain⟨o,e,c,d⟩:=st;exact⟨o,e,λv z=>by rw[d]at z;cases z⟩
 keep:=λi h h' st k=>st.at λo e=>k it (by simp) o e
 item:=by
  intro X hP hw hK hc i pins s σ H E I hf st hg;subst hP hw hK;obtain⟨xs,x,hq,hx⟩:=hg;obtain⟨its,rv,p,hz⟩:=I.tuple hq;obtain⟨u,hu,ru⟩:=rv.get hx;obtain⟨f0,f1,f2,f3,f4,f5⟩:=hf it (by simp);refine wpAny_pyNext_tuple_item st (show s.heap.IsTuple a its.toArray from p) (x:=u) (by simpa using hu) λh' st' sb=>?_;have I1:Inv X pins σ H {s with heap:=h'}:=I.turned (t':=s.toks) (λb o hb e=>(sb.2 b hb).trans e) f0 f1 f3 f4 f5;obtain⟨o,e,c,d⟩:=id st';exact⟨u,rfl,Jkl (s:={s with heap:=h'}) e c d (by decide) ⟨x,H,I1,ru,⟨rfl,λys hy=>by rw[I.tuple_inj hy hq];exact hx⟩,st',λb hb=>(hf b hb).1⟩⟩
 done:=by
  intro X hP hw hK hc i pins s σ H E I hf st hg;subst hP hw hK;obtain⟨xs,hq,hx⟩:=hg;obtain⟨its,rv,p,hz⟩:=I.tuple hq;obtain⟨f0,f1,f2,f3,f4,f5⟩:=hf it (by simp);have hl:=rv.length;exact wpAny_pyNext_tuple_end (I.ok.hd hc) st (show s.heap.IsTuple a its.toArray from p) (by simp;omega) λh' eb=>⟨rfl,I.turned (t':=s.toks) (λb o hb e=>eb b o hb e) f0 f1 f3 f4 f5⟩
 self:=λ_ _ _ _ _ st h=>wpAny_pyIter_tupleiter st h
theorem Jj6{P:Program}{w:World}{K:PySem.W.Frag}{tg:Expr}(it:Addr)(lo:Int)(n:Nat):Turn P w K tg (Itr lo n) [it] it (λi h=>IsRangeIter h it (lo+(i:Nat)*1) ((n:Int)-(i:Nat)) 1)where
 mem:=by simp
 obj:=λi h st b hb=>by
  have e:b=it:=by simpa using hb
  subst e;exact⟨_,st,λv z=>by
   have z':Data.fields _=Data.cell v:=z;cases z'⟩
 keep:=λi h h' st k=>k it (by simp) _ st
 item:=by
  intro X hP hw hK hc i pins s σ H E I hf st hg;subst hP hw hK;obtain⟨f0,f1,f2,f3,f4,f5⟩:=hf it (by simp);have W:=Walks.range (prog:=X.prog) (w:=X.w) (I.ok.hd hc) it lo 1 n;refine W.item i s _ _ hg st λv h' tk hv st' kk=>?_;obtain⟨t,rfl⟩:=hv;have I1:Inv X pins σ H {s with heap:=h',toks:=tk}:=I.turned (λb o hb e=>kk b o (by simpa using hb) e) f0 f1 f3 f4 f5;refine⟨_,rfl,Jkl (s:={s with heap:=h',toks:=tk}) (n:="range_iterator") st' rfl rfl (by decide) ⟨.int (lo+i),H,I1,⟨t,?_⟩,⟨rfl,rfl⟩,st',λb hb=>(hf b hb).1⟩⟩;rw[Int.mul_one]
 done:=by
  intro X hP hw hK hc i pins s σ H E I hf st hg;subst hP hw hK;obtain⟨f0,f1,f2,f3,f4,f5⟩:=hf it (by simp);exact wpAny_pyNext_range_end (I.ok.hd hc) st (by have:n<=i:=hg;omega) λh' eb=>⟨rfl,I.turned (t':=s.toks) (λb o hb e=>eb b o hb e) f0 f1 f3 f4 f5⟩
 self:=λ_ _ _ _ _ st h=>wpAny_pyIter_rangeiter st h
end L2
namespace L2
open PySem PySem.Spec PyProof.Rows
section
variable {X:Cx} {tg:Expr}
noncomputable def iList(K:PySem.W.Frag)(tl:TE):TI:=λσ H R=>tl σ H λx H1=>∃a,x=.ref a/\(∃xs,SqL K H1 a xs)/\R (Itl K a) H1
theorem Jon{pins:List (Addr×Obj)}{σ:St}{H:Hp}{s:Shared}{R:It->Hp->Prop}{E:Value->Shared->Prop}{lo hi:Int}{t u v:Tok}{tk:Nat}(I:Inv X pins σ H s)(h1: -(2^62)<=lo)(h2:lo<2^62)(h3: -(2^62)<=hi)(h4:hi<2^62)
  (q:R (Itr lo (hi-lo).toNat) H):wpAny (model X.prog X.w) X.A (pyIter (.ref s.heap.objs.size)) (PIE X pins σ tg R) E {s with heap:=s.heap.push {cls:=.type "range",data:=.fields #[.int lo t,.int hi u,.int 1 v]},toks:=tk}:=by
 refine wpAny_pyIter_range (IsRange.new ..) (small_one h1 h2 h3 h4) ?_;have I1:Inv X pins σ H {s with heap:=s.heap.push {cls:=.type "range",data:=.fields #[.int lo t,.int hi u,.int 1 v]},toks:=tk}:=I.kept λb o e=>Heap.get?_push_of_some _ e;refine⟨(s.heap.push {cls:=.type "range",data:=.fields #[.int lo t,.int hi u,.int 1 v]}).objs.size,[(s.heap.push {cls:=.type "range",data:=.fields #[.int lo t,.int hi u,.int 1 v]}).objs.size],_,_,H,rfl,
  I1.kept (t':=tk) λb o e=>Heap.get?_push_of_some _ e,Jj6 _ lo (hi-lo).toNat,?_,λb hb=>?_,q⟩
 ·have e1:lo+((0:Nat):Int)*1=lo:=by simp
  have e2:(((hi-lo).toNat:Nat):Int)-((0:Nat):Int)=Builtin.Range.rangeSize lo hi 1:=by rw[rangeSize_one];split<;>omega
  show IsRangeIter _ _ (lo+((0:Nat):Int)*1) ((((hi-lo).toNat:Nat):Int)-((0:Nat):Int)) 1;rw[e1,e2];exact Heap.get?_push_size _ rfl
 ·have e:b=(s.heap.push {cls:=.type "range",data:=.fields #[.int lo t,.int hi u,.int 1 v]}).objs.size:=by simpa using hb
  subst e;exact I1.fpOk (Nat.le_refl _) (I1.hok.fresh (Nat.le_refl _))
noncomputable def Jzt(ta:TA):TI:=λσ H R=>ta σ H λvs H1=>∃j:Int,vs=[.int j]/\ -(2^62)<=j/\j<2^62/\R (Itr 0 j.toNat) H1
theorem Jmc{a:Expr}{ta:TA}{p pos:Pos}(hg:Gl X "range")(hm:X.mg "range"=none)(ha:PA X [a] ta)(hs:starEach [a] X.env=[(false,eval a X.env)]:=by rfl):PI X tg (.Call (.Name "range" p) [a] [] pos) (Jzt ta):=by
 intro pins s σ H R I h;refine Call_ (Jhe I hg hm boot_range (PyProof.Rows.callWith_type1 (thn (ha pos pins s σ H _ I h) λus s1 ⟨vs,H1,I1,r1,q1⟩=>?_) hs rfl));obtain⟨j,e,q1,q2,q⟩:=q1;subst e;cases r1 with
 |cons r rr=>
  cases rr;obtain⟨t,rfl⟩:=r;exact call_range_1 (Jon I1 (by omega) (by omega) q1 q2 (by simpa using q))
noncomputable def tFor(wi:TI)(g:TG)(tb:TS):TS:=λD σ H=>wi σ H λJ H1=>∃W:Nat->Nat->St->Hp->Prop,(∃m,W 0 m σ H1)/\∀i m σ H,W i m σ H->
 (J.stop i H/\D.nx σ H)\/(J.go i H/\∃N:St->Hp->Prop,(∀σ' H',N σ' H'->∃m',m'<m/\W (i+1) m' σ' H')/\∀x H',J.yld i H x H'->g x σ H' λσ2 H2=>tb {D with nx:=N,ct:=N,bk:=D.nx} σ2 H2)
noncomputable def pinsAt(fp:List Addr)(h:Heap):List (Addr×Obj):=fp.filterMap λb=>(h.get? b).map λo=>(b,o)
theorem Jcy{fp:List Addr}{h:Heap}{b:Addr}{o:Obj}(hb:b∈fp)(e:h.get? b=some o):(b,o)∈pinsAt fp h:=List.mem_filterMap.mpr ⟨b,hb,by rw[e];rfl⟩
theorem Jmk{fp:List Addr}{h:Heap}{p:Addr×Obj}(hp:p∈pinsAt fp h):p.1∈fp/\h.get? p.1=some p.2:=by
 obtain⟨b,hb,e⟩:=List.mem_filterMap.mp hp;cases q:h.get? b with
 |none=>rw[q]at e;cases e
 |some o=>
  rw[q]at e;have e':(b,o)=p:=Option.some.inj e;subst e';exact⟨hb,q⟩
theorem Inv.pinned{pins:List (Addr×Obj)}{σ:St}{H:Hp}{s:Shared}{fp:List Addr}(I:Inv X pins σ H s)(hf:∀b∈fp,FpOk X pins H b)(ho:∀b∈fp,∃o,s.heap.get? b=some o/\∀v,o.data≠ .cell v):Inv X (pins++pinsAt fp s.heap) σ H s:=
 I.pins_of λp hp=>(List.mem_append.mp hp).elim (λz=>I.pin p (List.mem_append_right _ z)) λz=>by
  obtain⟨hb,e⟩:=Jmk z;obtain⟨f0,f1,f2,_⟩:=hf p.1 hb;obtain⟨o,e',d⟩:=ho p.1 hb;rw[e]at e';cases e';exact⟨e,f0,f1,f2,d⟩
theorem Inv.unpinned{pins pl:List (Addr×Obj)}{σ:St}{H:Hp}{s:Shared}(I:Inv X (pins++pl) σ H s):Inv X pins σ H s:=I.pins_of λp hp=>I.pin p (List.mem_append_right _ (List.mem_append_left _ hp))
theorem Jqv{iter:Expr}{body:List Stmt}{wi:TI}{g:TG}{tb:TS}{pos:Pos}(hp:PassesOwn (model X.prog X.w) X.A X.env X.xe)(hc:X.calm=true)(hi:PI X tg iter wi)(hg:PG X tg g)(hb:PSs X body tb)
  (hs:∀x,foldedSetIterable iter X.env x=pure x:=by intro _;rfl):PS X (.For tg iter body [] pos) (tFor wi g tb):=by
 intro pins s σ H D I h;refine wpAny_For (thn (hi pins s σ H _ I h) λv s1 h1=>thn h1 λitv s2 h2=>?_) hs;obtain⟨it,fp,tn,J,H2,e,I2,T,st2,f2,W,⟨m0,w0⟩,turn⟩:=h2;subst e;have stat:∀{H':Hp},(∀b∈fp,H' b=none)->∀b∈fp,FpOk X pins H' b:=λhn b hb=>⟨hn b hb,(f2 b hb).2⟩
 refine codeAny_forLoop_any (λn s'=>∃i σ' H',Inv X pins σ' H' s'/\tn i s'.heap/\(∀b∈fp,H' b=none)/\W i n σ' H') ?_ m0 ⟨0,σ,H2,I2,st2,λb hb=>(f2 b hb).1,w0⟩;rintro n s3 ⟨i,σ3,H3,I3,st3,fr3,w3⟩;rcases turn i n σ3 H3 w3 with⟨stop,qn⟩|⟨go,N,hN,step⟩
 ·refine wpAny_passesOwn hp (thn (T.done X rfl rfl rfl hc i pins s3 σ3 H3 X.xe I3 (stat fr3) st3 stop) λr s4 ⟨hr,I4⟩=>?_);subst hr;exact wpAny_execs_nil ⟨σ3,H3,I4,qn⟩
 ·refine wpAny_passesOwn hp (thn (T.item X rfl rfl rfl hc i pins s3 σ3 H3 X.xe I3 (stat fr3) st3 go) λr s4 ⟨u,hr,h4⟩=>?_);subst hr;refine wpAny_passesOwn hp (thn h4 λ_ s5 ⟨x,H5,I5,r5,y5,st5,fr5⟩=>?_);have I5':=I5.pinned (stat fr5) (T.obj _ _ st5);refine wpAny_passesOwn hp (thn (hg _ s5 σ3 H5 x u _ I5' r5 (step x H5 y5)) λ_ s6 ⟨σ6,H6,I6,q6⟩=>?_);refine wpAny_passesOwn hp (thn (hb _ s6 σ6 H6 _ I6 q6) λf s7 q7=>?_);have again:∀{σ7:St} {H7:Hp},Inv X (pins++pinsAt fp s5.heap) σ7 H7 s7->N σ7 H7->∃m,m<n/\∃i σ' H',Inv X pins σ' H' s7/\tn i s7.heap/\(∀b∈fp,H' b=none)/\W i m σ' H':=λ{σ7 H7} I7 n7=>by
   obtain⟨m',hm,w7⟩:=hN σ7 H7 n7;refine⟨m',hm,i+1,σ7,H7,I7.unpinned,T.keep _ _ _ st5 λb hb o e=>(I7.pin (b,o) (List.mem_append_right _ (List.mem_append_right _ (Jcy hb e)))).1,λb hb=>?_,w7⟩;obtain⟨o,e,d⟩:=T.obj _ _ st5 b hb;exact(I7.pin (b,o) (List.mem_append_right _ (List.mem_append_right _ (Jcy hb e)))).2.1
  cases f with
  |next=>obtain⟨σ7,H7,I7,n7⟩:=q7;exact again I7 n7
  |cont=>obtain⟨σ7,H7,I7,n7⟩:=q7;exact again I7 n7
  |brk=>obtain⟨σ7,H7,I7,q7⟩:=q7;exact⟨σ7,H7,I7.unpinned,q7⟩
  |ret v=>obtain⟨x7,σ7,H7,I7,r7,q7⟩:=q7;exact⟨x7,σ7,H7,I7.unpinned,r7,q7⟩
end
end L2
namespace L2
open PySem PySem.Spec PyProof.Rows
noncomputable abbrev R2:=V->V->Hp->VK->Prop
noncomputable def OpR(X:Cx)(f:Value->Value->Sem Value)(r:R2):Prop:=
 ∀(pins:List (Addr×Obj)) (s:Shared) (σ:St) (H:Hp) (x y:V) (v u:Value) (Q:VK),Inv X pins σ H s->RelV x v->RelV y u->r x y H Q->
  wpAny (model X.prog X.w) X.A (f v u) (EP X pins σ Q) X.xe s
noncomputable def UnR(X:Cx)(f:Value->Sem Value)(r:V->Hp->VK->Prop):Prop:=
 ∀(pins:List (Addr×Obj)) (s:Shared) (σ:St) (H:Hp) (x:V) (v:Value) (Q:VK),Inv X pins σ H s->RelV x v->r x H Q->
  wpAny (model X.prog X.w) X.A (f v) (EP X pins σ Q) X.xe s
noncomputable def CallR(X:Cx)(f:Value)(r:List V->Hp->VK->Prop):Prop:=
 ∀(pins:List (Addr×Obj)) (s:Shared) (σ:St) (H:Hp) (xs:List V) (us:List Value) (Q:VK),Inv X pins σ H s->Vals xs us->r xs H Q->
  wpAny (model X.prog X.w) X.A (call f us) (EP X pins σ Q) X.xe s
noncomputable def TruR(X:Cx)(r:V->Hp->(Bool->Hp->Prop)->Prop):Prop:=
 ∀(pins:List (Addr×Obj)) (s:Shared) (σ:St) (H:Hp) (x:V) (v:Value) (Q:Bool->Hp->Prop),Inv X pins σ H s->RelV x v->r x H Q->
  wpAny (model X.prog X.w) X.A (truthy v) (TP X pins σ Q) X.xe s
noncomputable def tOp(r:R2)(ta tb:TE):TE:=λσ H Q=>ta σ H λx H1=>tb σ H1 λy H2=>r x y H2 Q
noncomputable def tUn(r:V->Hp->VK->Prop)(ta:TE):TE:=λσ H Q=>ta σ H λx H1=>r x H1 Q
noncomputable def rI(C:Int->Int->Prop)(g:Int->Int->V):R2:=λx y H Q=>∃i j,x=.int i/\y=.int j/\C i j/\Q (g i j) H
noncomputable def rI0(g:Int->Int->V):R2:=λx y H Q=>∃i j,x=.int i/\y=.int j/\Q (g i j) H
noncomputable def rU(g:Int->V):V->Hp->VK->Prop:=λx H Q=>∃i,x=.int i/\Q (g i) H
section
variable {X:Cx} {a b c:Expr} {ta tb tc:TE} {pos:Pos}
theorem binT(ha:PE X a ta)(hb:PE X b tb){pins:List (Addr×Obj)}{s:Shared}{σ:St}{H:Hp}{R:V->V->Hp->Prop}(I:Inv X pins σ H s)
  (h:ta σ H λx H1=>tb σ H1 λy H2=>R x y H2){Q:Value->Shared->Prop}{f:Value->Value->Sem Value}
  (hf:∀v u s2 x y H2,Inv X pins σ H2 s2->RelV x v->RelV y u->R x y H2->wpAny (model X.prog X.w) X.A (f v u) Q X.xe s2):
  wpAny (model X.prog X.w) X.A (eval a X.env) (λv s₁=>wpAny (model X.prog X.w) X.A (eval b X.env) (λu s₂=>wpAny (model X.prog X.w) X.A (f v u) Q X.xe s₂) X.xe s₁) X.xe s:=by
 refine thn (ha pins s σ H _ I h) λv s1 ⟨x,H1,I1,r1,q1⟩=>?_;refine thn (hb pins s1 σ H1 _ I1 q1) λu s2 ⟨y,H2,I2,r2,q2⟩=>?_;exact hf v u s2 x y H2 I2 r1 r2 q2
theorem Jwk{op:Operator}{r:R2}(ho:OpR X (binaryOp op) r)(ha:PE X a ta)(hb:PE X b tb):PE X (.BinOp a op b pos) (tOp r ta tb):=by
 intro pins s σ H Q I h;exact wpAny_BinOp (binT ha hb I h λv u s2 x y H2 I2 rx ry q=>ho pins s2 σ H2 x y v u Q I2 rx ry q)
theorem Jze{op:UnaryOp}{r:V->Hp->VK->Prop}(ho:UnR X (unaryOp op) r)(ha:PE X a ta):PE X (.UnaryOp op a pos) (tUn r ta):=by
 intro pins s σ H Q I h;exact UnaryOp_ (thn (ha pins s σ H _ I h) λv s1 ⟨x,H1,I1,r1,q1⟩=>ho pins s1 σ H1 x v Q I1 r1 q1)
theorem opI{f:Value->Value->Sem Value}{C:Int->Int->Prop}{g:Int->Int->Int}
  (rule:∀(i j:Int) (t u:Tok) (s:Shared) (Q:Value->Shared->Prop) (E:Value->Shared->Prop),C i j->Q (.int (g i j) s.toks) {s with toks:=s.toks+1}->wpAny (model X.prog X.w) X.A (f (.int i t) (.int j u)) Q E s):
  OpR X f (rI C λi j=>.int (g i j)):=by
 intro pins s σ H x y v u Q I rx ry h;obtain⟨i,j,rfl,rfl,hc,q⟩:=h;obtain⟨t,rfl⟩:=rx;obtain⟨t',rfl⟩:=ry;exact rule i j t t' s _ _ hc ⟨.int (g i j),H,I.tok _,⟨_,rfl⟩,q⟩
theorem opI0{f:Value->Value->Sem Value}{g:Int->Int->Int}
  (rule:∀(i j:Int) (t u:Tok) (s:Shared) (Q:Value->Shared->Prop) (E:Value->Shared->Prop),Q (.int (g i j) s.toks) {s with toks:=s.toks+1}->wpAny (model X.prog X.w) X.A (f (.int i t) (.int j u)) Q E s):
  OpR X f (rI0 λi j=>.int (g i j)):=by
 intro pins s σ H x y v u Q I rx ry h;obtain⟨i,j,rfl,rfl,q⟩:=h;obtain⟨t,rfl⟩:=rx;obtain⟨t',rfl⟩:=ry;exact rule i j t t' s _ _ ⟨.int (g i j),H,I.tok _,⟨_,rfl⟩,q⟩
theorem opB0{f:Value->Value->Sem Value}{g:Int->Int->Bool}
  (rule:∀(i j:Int) (t u:Tok) (s:Shared) (Q:Value->Shared->Prop) (E:Value->Shared->Prop),Q (.bool (g i j)) s->wpAny (model X.prog X.w) X.A (f (.int i t) (.int j u)) Q E s):
  OpR X f (rI0 λi j=>.bl (g i j)):=by
 intro pins s σ H x y v u Q I rx ry h;obtain⟨i,j,rfl,rfl,q⟩:=h;obtain⟨t,rfl⟩:=rx;obtain⟨t',rfl⟩:=ry;exact rule i j t t' s _ _ ⟨.bl (g i j),H,I,rfl,q⟩
noncomputable def CPow(i j:Int):Prop:=0<=j/\j<=1000000/\i.natAbs<2^64
noncomputable def CMul(i j:Int):Prop:=(-(2^64)<i/\i<2^64)\/(-(2^64)<j/\j<2^64)
theorem CMul.ok{i j:Int}(h:CMul i j):IntMulOk i j:=by
 rcases h with⟨h1,h2⟩|⟨h1,h2⟩
 ·exact .of_left (intBits_le_64 h1 h2)
 ·exact .of_right (intBits_le_64 h1 h2)
theorem Jw3:OpR X (binaryOp .Add) (rI0 λi j=>.int (i+j)):=opI0 λ_ _ _ _ _ _ _ q=>add_int q
theorem Jw0:OpR X (binaryOp .Mod) (rI (λ_ j=>0<j) λi j=>.int (i%j)):=opI λi j _ _ _ _ _ hc q=>by
 have h1:(0:Int)<j:=hc;exact mod_int' (by omega) (by rw[Int.fmod_eq_emod_of_nonneg i (by omega)];exact q)
theorem Jwz:OpR X (binaryOp .Pow) (rI CPow λi j=>.int (i^j.toNat)):=opI λ_ _ _ _ _ _ _ hc q=>pow_int_small hc.1 hc.2.1 hc.2.2 q
theorem unI{f:Value->Sem Value}{g:Int->Int}
  (rule:∀(i:Int) (t:Tok) (s:Shared) (Q:Value->Shared->Prop) (E:Value->Shared->Prop),Q (.int (g i) s.toks) {s with toks:=s.toks+1}->wpAny (model X.prog X.w) X.A (f (.int i t)) Q E s):
  UnR X f (rU λi=>.int (g i)):=by
 intro pins s σ H x v Q I rx h;obtain⟨i,rfl,q⟩:=h;obtain⟨t,rfl⟩:=rx;exact rule i t s _ _ ⟨.int (g i),H,I.tok _,⟨_,rfl⟩,q⟩
theorem Jug:UnR X (unaryOp .USub) (rU λi=>.int (-i)):=unI λ_ _ _ _ _ q=>neg_int q
end
section
variable {X:Cx} {a b c:Expr} {ta tb tc:TE} {pos:Pos}
theorem Jx4{pins:List (Addr×Obj)}{σ:St}{H:Hp}{s:Shared}{Q:VK}{k k':Bool}(I:Inv X pins σ H s)(q:Q (.bl k) H)(e:k=k'):EP X pins σ Q (.bool k') s:=by
 subst e;exact⟨.bl k,H,I,rfl,q⟩
theorem Jzh:OpR X (compareOp .Lt) (rI0 λi j=>.bl (decide (i<j))):=opB0 λ_ _ _ _ _ _ _ q=>lt_int q
theorem Jzi:OpR X (compareOp .LtE) (rI0 λi j=>.bl (decide (i<=j))):=opB0 λ_ _ _ _ _ _ _ q=>le_int q
theorem Jw1:OpR X (compareOp .Gt) (rI0 λi j=>.bl (decide (j<i))):=opB0 λ_ _ _ _ _ _ _ q=>gt_int q
theorem Jzj:OpR X (compareOp .GtE) (rI0 λi j=>.bl (decide (j<=i))):=opB0 λ_ _ _ _ _ _ _ q=>ge_int q
theorem Jmj:OpR X (compareOp .In) (λx y H Q=>∃i j,x=.str i/\y=.str j/\Q (.bl (!(Builtin.Str.occurrences j i 0 j.length 1).isEmpty)) H):=by
 intro pins s σ H x y v u Q I rx ry h;obtain⟨i,j,rfl,rfl,q⟩:=h;obtain⟨t,rfl⟩:=rx;obtain⟨t',rfl⟩:=ry;exact in_str (Jx4 I q rfl)
theorem OpR.or{f:Value->Value->Sem Value}{r r':R2}(h:OpR X f r)(h':OpR X f r'):OpR X f (λx y H Q=>r x y H Q\/r' x y H Q):=by
 intro pins s σ H x y v u Q I rx ry q;rcases q with q|q
 ·exact h pins s σ H x y v u Q I rx ry q
 ·exact h' pins s σ H x y v u Q I rx ry q
theorem nomark(b:Expr){op:CmpOp}(h:op≠ .In:=by decide)(h2:op≠ .NotIn:=by decide):behindInMarks op b=false:=by
 have e1:(op==CmpOp.In)=false:=by cases op<;>first|rfl|exact absurd rfl h
 have e2:(op==CmpOp.NotIn)=false:=by cases op<;>first|rfl|exact absurd rfl h2
 cases b<;>simp[behindInMarks,e1,e2]
theorem Js8{op:CmpOp}{r:R2}(ho:OpR X (compareOp op) r)(ha:PE X a ta)(hb:PE X b tb)(hm:behindInMarks op b=false):PE X (.Compare a [op] [b] pos) (tOp r ta tb):=by
 intro pins s σ H Q I h;exact wpAny_Compare1 (binT ha hb I h λv u s2 x y H2 I2 rx ry q=>ho pins s2 σ H2 x y v u Q I2 rx ry q) hm
noncomputable def tTest(t:TE):TT:=λσ H Q=>t σ H λx H'=>∃k,x=.bl k/\Q k H'
theorem Jie{op:CmpOp}{r:R2}(ho:OpR X (compareOp op) r)(ha:PE X a ta)(hb:PE X b tb)(hm:behindInMarks op b=false):PT X (.Compare a [op] [b] pos) (tTest (tOp r ta tb)):=by
 intro pins s σ H Q I h;refine wpAny_isTrue_Compare1 (thn (ha pins s σ H _ I h) λv s1 ⟨x,H1,I1,r1,q1⟩=>thn (hb pins s1 σ H1 _ I1 q1) λu s2 ⟨y,H2,I2,r2,q2⟩=>
  thn (ho pins s2 σ H2 x y v u _ I2 r1 r2 q2) λc s3 ⟨z,H3,I3,r3,k,e,q3⟩=>?_) hm
 subst e;cases r3;exact wpAny_truthy_bool ⟨H3,I3,q3⟩
noncomputable def tChain(r r':R2)(ta tb tc:TE):TE:=λσ H Q=>ta σ H λx H1=>tb σ H1 λy H2=>r x y H2 λz H3=>∃k,z=.bl k/\
 (if k=true then tc σ H3 λw' H4=>r' y w' H4 Q else Q (.bl false) H3)
theorem Jo1{op op':CmpOp}{r r':R2}(ho:OpR X (compareOp op) r)(ho':OpR X (compareOp op') r')(ha:PE X a ta)(hb:PE X b tb)(hc:PE X c tc)
  (hm:lastMarks [op,op'] [b,c]=false:=by with_unfolding_all rfl):PE X (.Compare a [op,op'] [b,c] pos) (tChain r r' ta tb tc):=by
 intro pins s σ H Q I h;refine Compare_chain (thn (ha pins s σ H _ I h) λv s1 ⟨x,H1,I1,r1,q1⟩=>chain_link (thn (hb pins s1 σ H1 _ I1 q1) λu s2 ⟨y,H2,I2,r2,q2⟩=>
  thn (ho pins s2 σ H2 x y v u _ I2 r1 r2 q2) λd s3 ⟨z,H3,I3,r3,k,e,q3⟩=>?_)) hm
 subst e;cases r3;refine wpAny_truthy_bool ?_;cases k with
 |false=>exact ite_ff ⟨.bl false,H3,I3,rfl,q3⟩
 |true=>exact ite_tt (chain_last (thn (hc pins s3 σ H3 _ I3 q3) λw' s4 ⟨z',H4,I4,r4,q4⟩=>ho' pins s4 σ H4 y z' u w' Q I4 r2 r4 q4))
theorem Joo{op op':CmpOp}{r r':R2}(ho:OpR X (compareOp op) r)(ho':OpR X (compareOp op') r')(ha:PE X a ta)(hb:PE X b tb)(hc:PE X c tc)
  (hm:lastMarks [op,op'] [b,c]=false:=by with_unfolding_all rfl):PT X (.Compare a [op,op'] [b,c] pos) (tTest (tChain r r' ta tb tc)):=by
 intro pins s σ H Q I h;refine isTrue_chain (thn (ha pins s σ H _ I h) λv s1 ⟨x,H1,I1,r1,q1⟩=>test_link (thn (hb pins s1 σ H1 _ I1 q1) λu s2 ⟨y,H2,I2,r2,q2⟩=>
  thn (ho pins s2 σ H2 x y v u _ I2 r1 r2 q2) λd s3 ⟨z,H3,I3,r3,k,e,q3⟩=>?_)) hm
 subst e;cases r3;refine wpAny_truthy_bool ?_;cases k with
 |false=>
  obtain⟨k',e',q'⟩:=q3;cases e';exact ite_ff ⟨H3,I3,q'⟩
 |true=>
  refine ite_tt (test_last (thn (hc pins s3 σ H3 _ I3 q3) λw' s4 ⟨z',H4,I4,r4,q4⟩=>thn (ho' pins s4 σ H4 y z' u w' _ I4 r2 r4 q4) λd' s5 ⟨z2,H5,I5,r5,k2,e2,q5⟩=>?_));subst e2;cases r5;exact wpAny_truthy_bool ⟨H5,I5,q5⟩
noncomputable def TruV(K:PySem.W.Frag)(x:V)(H:Hp)(k:Bool):Prop:=
 match x with
 |.non=>k=false
 |.bl b=>k=b
 |.int i=>k=(i !=0)
 |.str y=>y.length<=sizeLine/\k=((y.length:Int) !=0)
 |.byt y=>y.size<=sizeLine/\k=((y.size:Int) !=0)
 |.ref p=>(∃xs,SqL K H p xs/\k= !xs.isEmpty)\/(∃xs,SqT K H p xs/\k= !xs.isEmpty)\/∃kvs,H p=some (.dK kvs)/\k= !kvs.isEmpty
 |_=>False
theorem Jkj{κ:Type}{kvs:List (κ×V)}{vs:List (κ×Value)}(r:KV kvs vs):(!vs.isEmpty)= !kvs.isEmpty:=by
 cases r<;>rfl
theorem Jf1{xs:List V}{its:List Value}(r:Vals xs its):(!its.toArray.isEmpty)= !xs.isEmpty:=by
 cases r<;>simp
theorem Jfg:(sizeLine:Nat)<2^63:=by rw[sizeLine_eq];decide
theorem Jqa:TruR X (λx H Q=>∃k,TruV X.K x H k/\Q k H):=by
 intro pins s σ H x v Q I rx h;obtain⟨k,e,q⟩:=h;have hl:=Jfg;have hs:sizeLine=16777216:=sizeLine_eq;cases x with
 |non=>
  cases rx;have e':k=false:=e;subst e';exact truthy_none ⟨H,I,q⟩
 |bl b=>
  cases rx;have e':k=b:=e;subst e';exact wpAny_truthy_bool ⟨H,I,q⟩
 |int i=>
  obtain⟨t,rfl⟩:=rx;have e':k=(i !=0):=e;subst e';exact PySem.P.truthy_int ⟨H,I,q⟩
 |str y=>
  obtain⟨t,rfl⟩:=rx;obtain⟨hy,e'⟩:y.length<=sizeLine/\k=((y.length:Int) !=0):=e;subst e';exact PySem.P.truthy_str (by omega) ⟨H,I.tok _,q⟩
 |byt y=>
  obtain⟨t,rfl⟩:=rx;obtain⟨hy,e'⟩:y.size<=sizeLine/\k=((y.size:Int) !=0):=e;subst e';exact PySem.W.truthy_bytes (by omega) ⟨H,I.tok _,q⟩
 |ref p=>
  cases rx;have e':(∃xs,SqL X.K H p xs/\k= !xs.isEmpty)\/(∃xs,SqT X.K H p xs/\k= !xs.isEmpty)\/∃kvs,H p=some (.dK kvs)/\k= !kvs.isEmpty:=e;rcases e' with⟨xs,hx,e'⟩|⟨xs,hx,e'⟩|⟨kvs,hx,e'⟩
  ·subst e';obtain⟨its,r,pl,hz⟩:=I.list hx;have hlen:=r.length;exact wpAny_truthy_list pl.isList (by simp only[List.size_toArray];omega) ⟨H,I.tok _,by rw[Jf1 r];exact q⟩
  ·subst e';obtain⟨its,r,pl,hz⟩:=I.tuple hx;have hlen:=r.length;exact truthy_tuple pl (by simp only[List.size_toArray];omega) ⟨H,I.tok _,by rw[Jf1 r];exact q⟩
  ·subst e';obtain⟨hz,hS,vs,r,m⟩:kvs.length<=sizeLine/\(p==sysModules)=false/\∃vs,KV kvs vs/\s.heap.DictOf (mixKind X.prog X.w) p vs:=I.hok p _ hx;have hlen:kvs.length=vs.length:=Paired.length r;exact wpAny_truthy_dict hS m (by omega) ⟨H,I.tok _,by rw[Jkj r];exact q⟩
 |_=>exact(show False from e).elim
theorem Jgf(ha:PE X a ta)(he:∀whole,isTrue a X.env whole=(do let v<-whole;standAt a.pos;holding [v] (truthy v))):
  PT X a (λσ H Q=>ta σ H λx H'=>∃k,TruV X.K x H' k/\Q k H'):=by
 intro pins s σ H Q I h;exact isTrue_plain (thn (ha pins s σ H _ I h) λv s1 ⟨x,H1,I1,r1,q1⟩=>Jqa pins s1 σ H1 x v Q I1 r1 q1) (he _)
theorem Jkf:OpR X (binaryOp .Add) (λx y H Q=>∃i j,x=.str i/\y=.str j/\i.length+j.length<=sizeLine/\Q (.str (i++j)) H):=by
 intro pins s σ H x y v u Q I rx ry h;obtain⟨i,j,rfl,rfl,hz,q⟩:=h;obtain⟨t,rfl⟩:=rx;obtain⟨t',rfl⟩:=ry;exact add_str (λt' tk=>⟨.str (i++j),H,I.tok _,⟨_,rfl⟩,q⟩) hz
theorem Jdi{x:V}{us:List Value}(r:Vals [x] us):∃u,us=[u]/\RelV x u:=by
 cases r with
 |cons r1 r2=>cases r2;exact⟨_,rfl,r1⟩
theorem Jj4{x y:V}{us:List Value}(r:Vals [x,y] us):∃u w',us=[u,w']/\RelV x u/\RelV y w':=by
 cases r with
 |cons r1 r2=>
  cases r2 with
  |cons r3 r4=>cases r4;exact⟨_,_,rfl,r1,r3⟩
theorem Jp0:CallR X (.builtin "abs") (λxs H Q=>∃i,xs=[.int i]/\Q (.int (if i<0 then -i else i)) H):=by
 intro pins s σ H xs us Q I r h;obtain⟨i,rfl,q⟩:=h;obtain⟨u,rfl,t,rfl⟩:=Jdi r;exact call_abs_int λu tk=>⟨.int (if i<0 then -i else i),H,I.tok _,⟨_,rfl⟩,q⟩
theorem Jnx(hc:X.calm=true):CallR X (.builtin "max") (λxs H Q=>∃i j,xs=[.int i,.int j]/\Q (.int (if j>i then j else i)) H):=by
 intro pins s σ H xs us Q I r h;obtain⟨i,j,rfl,q⟩:=h;obtain⟨u,w',rfl,⟨t,rfl⟩,⟨t',rfl⟩⟩:=Jj4 r;refine max_two_ints (I.ok.hd hc) λh' tk k=>⟨_,H,I.kept k,?_,q⟩
 by_cases hj:j>i
 ·rw[if_pos hj,if_pos hj];exact⟨_,rfl⟩
 ·rw[if_neg hj,if_neg hj];exact⟨_,rfl⟩
theorem Jnw(hc:X.calm=true):CallR X (.builtin "min") (λxs H Q=>∃i j,xs=[.int i,.int j]/\Q (.int (if j<i then j else i)) H):=by
 intro pins s σ H xs us Q I r h;obtain⟨i,j,rfl,q⟩:=h;obtain⟨u,w',rfl,⟨t,rfl⟩,⟨t',rfl⟩⟩:=Jj4 r;refine min_two_ints (I.ok.hd hc) λh' tk k=>⟨_,H,I.kept k,?_,q⟩
 by_cases hj:j<i
 ·rw[if_pos hj,if_pos hj];exact⟨_,rfl⟩
 ·rw[if_neg hj,if_neg hj];exact⟨_,rfl⟩
theorem Jhw:CallR X (.type "int") (λxs H Q=>(∃i,xs=[.int i]/\Q (.int i) H)\/∃k,xs=[.bl k]/\Q (.int (if k then 1 else 0)) H):=by
 intro pins s σ H xs us Q I r h;rcases h with⟨i,rfl,q⟩|⟨k,rfl,q⟩
 ·obtain⟨u,rfl,t,rfl⟩:=Jdi r;exact call_int_int ⟨.int i,H,I,⟨_,rfl⟩,q⟩
 ·obtain⟨u,rfl,r1⟩:=Jdi r;cases r1;exact call_int_bool ⟨.int (if k then 1 else 0),H,I.tok _,⟨_,rfl⟩,q⟩
theorem Jhu:CallR X (.type "str") (λxs H Q=>∃i,xs=[.int i]/\i.natAbs.log2<1920/\Q (.str (toString i)) H):=by
 intro pins s σ H xs us Q I r h;obtain⟨i,rfl,hz,q⟩:=h;obtain⟨u,rfl,t,rfl⟩:=Jdi r;exact PySem.P.str_of_int hz ⟨.str _,H,I.tok _,⟨_,rfl⟩,q⟩
end
end L2
namespace L2
open PySem PySem.Spec PyProof.Rows
section
variable {prog:Program} {w:World} {A:Around} {E:Value->Shared->Prop} {s:Shared} {K:PySem.W.Frag} {x dx C f:Addr} {mA:Str->Option Value} {name:Str} {v:Value}
end
noncomputable def putF(f:Str)(v:V):List (Str×V)->List (Str×V)
 |[]=>[(f,v)]
 |(g,x)::r=>if g=f then(g,v)::r else(g,x)::putF f v r
theorem RelO.some_of{v:V}{o:Option Value}(r:RelO (some v) o):∃u,o=some u/\RelV v u:=by
 cases o with
 |none=>exact(show False from r).elim
 |some u=>exact⟨u,rfl,r⟩
section
variable {P:Program} {w:World} {H H':Hp} {h h':Heap} {a C dx:Addr} {fs fs':List (Str×V)}
end
structure Cls(K:PySem.W.Frag)(C:Addr):Prop where
 pg:PySem.W.plainGet K C Str.empty=true
 hd:PySem.W.hasDictIn K C=true
 po:PySem.W.plainOver K C=true
 sa:PySem.W.findIn K (.ref C) "__setattr__"=some (some (.builtin "object.__setattr__"))
theorem Cls.get{K:PySem.W.Frag}{C:Addr}(c:Cls K C)(f:Str):PySem.W.plainGet K C f=true:=c.pg
noncomputable def NoAttr(K:PySem.W.Frag)(C:Addr)(f:Str):Prop:=PySem.W.findIn K (.ref C) f=some none
structure Meth(K:PySem.W.Frag)(C:Addr)(m:Str)(f:Addr):Prop where
 at_:PySem.W.findIn K (.ref C) m=some (some (.ref f))
 fn:PySem.W.isFn K (.ref f)=true
 kp:PySem.W.keepIn K (.ref f)=true
section
variable {X:Cx} {pins:List (Addr×Obj)} {σ:St} {H:Hp} {s:Shared} {a C dx:Addr} {fs:List (Str×V)} {f:Str} {v:V} {A:Around} {E:Value->Shared->Prop}
theorem Inv.made(I:Inv X pins σ H s):Inv X pins σ (upd (upd H s.heap.objs.size (.own (s.heap.objs.size+1))) (s.heap.objs.size+1) (.ins C s.heap.objs.size []))
  {s with heap:=(s.heap.push PySem.W.emptyDict).push (PySem.W.instObj C s.heap.objs.size)}:=by
 have e1:(s.heap.push PySem.W.emptyDict).get? s.heap.objs.size=some PySem.W.emptyDict:=Heap.get?_push_size s.heap rfl;have e2:((s.heap.push PySem.W.emptyDict).push (PySem.W.instObj C s.heap.objs.size)).get? (s.heap.objs.size+1)=some (PySem.W.instObj C s.heap.objs.size):=by
  have:=Heap.get?_push_size (s.heap.push PySem.W.emptyDict) (o:=PySem.W.instObj C s.heap.objs.size) rfl;rwa[Heap.size_push]at this
 have e3:(s.heap.push PySem.W.emptyDict).Ns s.heap.objs.size (λ_=>none):=⟨PySem.W.emptyDict,#[],_,e1,rfl,(λe he=>absurd he (by simp)),λ_=>rfl⟩
 have I1:=I.laid (a:=s.heap.objs.size) (o:=.own (s.heap.objs.size+1)) (h':=s.heap.push PySem.W.emptyDict) (t':=s.toks) (λb u q=>Heap.get?_push_of_some _ q) (Nat.le_refl _) ⟨_,e1⟩;refine I1.laid (a:=s.heap.objs.size+1) (o:=.ins C s.heap.objs.size []) (t':=s.toks) (λb u q=>Heap.get?_push_of_some _ q) (Nat.le_of_eq (Heap.size_push _ _)) ?_;have ne:s.heap.objs.size≠s.heap.objs.size+1:=Nat.ne_of_lt (Nat.lt_succ_self _);refine⟨by rw[Jaf ne,Jbe],Nat.zero_le _,ne,e2,λ_=>none,(Heap.Ns1.of_empty e3).at λo q=>Heap.get?_push_of_some _ q,λ_=>True.intro,λy hy=>absurd rfl hy⟩
end
section
variable {X:Cx} {o e value:Expr} {f:Str} {pos pos' tpos:Pos} {ta tv:TE}
end
section
variable {X:Cx} {pins:List (Addr×Obj)} {σ:St} {H:Hp} {s:Shared} {A:Around} {E:Value->Shared->Prop} {Q:Value->Shared->Prop} {c:Value} {b:Bool}
end
end L2
namespace L2
open PySem PySem.Spec PyProof.Rows
structure Room(k:Nat)(A:Around):Prop where
 hd:A.handled=none
 dp:A.depth+3*k+5<recursionLimit
 un:A.units+16*k+200<cLine
theorem Room.mono{j k:Nat}{A:Around}(r:Room k A)(h:j<=k):Room j A:=⟨r.hd,by have:=r.dp;omega,by have:=r.un;omega⟩
theorem Room.deeper{k:Nat}{A:Around}(r:Room (k+1) A)(env:Env):Room k (A.deeper env):=
 ⟨r.hd,by have:=r.dp;show A.depth+1+3*k+5<_;omega,by have:=r.un;show A.units+3+16*k+200<_;omega⟩
theorem Room.in1{k:Nat}{A:Around}(r:Room (k+1) A):Room k A.in1:=
 ⟨r.hd,by have:=r.dp;show A.depth+3*k+5<_;omega,by have:=r.un;show A.units+1+16*k+200<_;omega⟩
theorem Room.depth{k:Nat}{A:Around}(r:Room k A):A.depth<recursionLimit:=by have:=r.dp;omega
theorem Room.units{k:Nat}{A:Around}(r:Room k A):A.units+64<cLine:=by have:=r.un;omega
noncomputable def tNil:TA:=λ_ H Q=>Q [] H
noncomputable def tCons(ta:TE)(tr:TA):TA:=λσ H Q=>ta σ H λx H1=>tr σ H1 λxs H2=>Q (x::xs) H2
section
variable {X:Cx} {e:Expr} {es:List Expr} {te:TE} {t:TA} {pos:Pos}
theorem Jds:PA X [] tNil:=λ_ _ _ _ H Q I h=>Calls.spliced_nil ⟨[],H,I,.nil,h⟩
theorem Jbj(ha:PE X e te)(hr:PA X es t)(hs:starEach (e::es) X.env=(false,eval e X.env)::starEach es X.env:=by rfl):PA X (e::es) (tCons te t):=by
 intro pos pins s σ H Q I h;rw[hs];show wpAny _ _ (spliced ((false,eval e X.env)::backTo pos (starEach es X.env))) _ _ s;refine Calls.spliced_cons (thn (ha pins s σ H _ I h) λu s1 ⟨x,H1,I1,r1,q1⟩=>?_);exact thn (hr pos pins s1 σ H1 _ I1 q1) λus s2 ⟨xs,H2,I2,r2,q2⟩=>⟨x::xs,H2,I2,.cons r1 r2,q2⟩
noncomputable def tTup(t:TA):TE:=λσ H Q=>t σ H λxs H1=>xs.length<=sizeLine/\∀p,H1 p=none->Q (.ref p) (upd H1 p (.tup xs))
noncomputable def tLst(t:TA):TE:=λσ H Q=>t σ H λxs H1=>xs.length<=sizeLine/\∀p,H1 p=none->Q (.ref p) (upd H1 p (.lst xs))
theorem Jqz{x1}(h:PA X es t):PE X (.Tuple es x1 pos) (tTup t):=by
 intro pins s σ H Q I hq;refine wpAny_Tuple_spliced (thn (h pos pins s σ H _ I hq) λus s1 ⟨xs,H1,I1,r,z,q⟩=>⟨by rw[<-r.length];exact z,?_⟩);have hf:H1 s1.heap.objs.size=none:=I1.hok.fresh (Nat.le_refl _);refine⟨.ref s1.heap.objs.size,upd H1 s1.heap.objs.size (.tup xs),I1.laid (t':=s1.toks) (λb u e=>Heap.get?_push_of_some _ e) (Nat.le_refl _) ?_,rfl,q _ hf⟩;exact⟨z,us,r,⟨_,Heap.get?_push_size _ rfl,rfl,_,rfl⟩⟩
theorem Jmd(h:PA X es t):PE X (.List es pos) (tLst t):=by
 intro pins s σ H Q I hq;refine wpAny_List_spliced (thn (h pos pins s σ H _ I hq) λus s1 ⟨xs,H1,I1,r,z,q⟩=>⟨by rw[<-r.length];exact z,?_⟩);have hf:H1 s1.heap.objs.size=none:=I1.hok.fresh (Nat.le_refl _);refine⟨.ref s1.heap.objs.size,upd H1 s1.heap.objs.size (.lst xs),I1.laid (t':=s1.toks) (λb u e=>Heap.get?_push_of_some _ e) (Nat.le_refl _) ?_,rfl,q _ hf⟩;exact⟨z,us,0,r,Heap.get?_push_size _ rfl⟩
end
noncomputable abbrev Sp:=List V->Hp->VK->XK->Prop
noncomputable abbrev CXT:=List Env->Hp->Shared->XK->Value->Shared->Prop
structure Env0(P:Program)(w:World)(K:PySem.W.Frag)(mg:Str->Option Value)(base:Heap)(A:Around)(outer:List Env)(s:Shared)(H:Hp):Prop where
 frames:A.frames=some outer
 mod:Mod K mg base
 bs:∀b o,base.get? b=some o->s.heap.get? b=some o/\H b=none
 bsz:base.objs.size<=s.heap.objs.size
 funs:s.heap.FunFrames base outer
 frf:∀b∈frs outer,H b=none
 hok:HOk P w H s.heap
 bare:AllBare s.gens
noncomputable def CE(outer:List Env)(P:Program)(w:World)(H:Hp)(s:Shared)(Q:VK)(u:Value)(s':Shared):Prop:=
 ∃v H',s'.os=s.os/\AllBare s'.gens/\Un (frs outer) [] H H' s.heap s'.heap/\HOk P w H' s'.heap/\RelV v u/\Q v H'
noncomputable def CR(CX:CXT)(outer:List Env)(P:Program)(w:World)(H:Hp)(s:Shared)(Q:VK)(E:XK)(r:Result)(s':Shared):Prop:=
 match r with
 |.ok (.ret u)=>CE outer P w H s Q u s'
 |.ok _=>False
 |.error e=>CX outer H s E e s'
structure FnOk(P:Program)(w:World)(K:PySem.W.Frag)(mg:Str->Option Value)(base:Heap)(CX:CXT)(k:Nat)(f:Addr)(fd:FuncData)(ps:List Str)(sp:Sp):Prop where
 len:∀vs H Q E,sp vs H Q E->vs.length=ps.length
 run:∀(A:Around) (outer:List Env) (s:Shared) (H:Hp) (args:Args) (us:List Value) (vs:List V) (Q:VK) (E:XK),Room k A->Env0 P w K mg base A outer s H->BindsTo s fd args (ps.zip us)->Vals vs us->sp vs H Q E->
  codeAny (model P w) A (.call (.ref f) args) (CR CX outer P w H s Q E) s
theorem FnOk.mono{P:Program}{w:World}{K:PySem.W.Frag}{mg:Str->Option Value}{base:Heap}{CX:CXT}{j k:Nat}{f:Addr}{fd:FuncData}{ps:List Str}{sp:Sp}(F:FnOk P w K mg base CX j f fd ps sp)(h:j<=k):
  FnOk P w K mg base CX k f fd ps sp:=⟨F.len,λA outer s H args us vs Q E hr=>F.run A outer s H args us vs Q E (hr.mono h)⟩
theorem FnOk.imp{P:Program}{w:World}{K:PySem.W.Frag}{mg:Str->Option Value}{base:Heap}{CX:CXT}{k:Nat}{f:Addr}{fd:FuncData}{ps:List Str}{sp sp':Sp}(F:FnOk P w K mg base CX k f fd ps sp)
  (h:∀vs H Q E,sp' vs H Q E->sp vs H Q E):FnOk P w K mg base CX k f fd ps sp':=
 ⟨λvs H Q E q=>F.len vs H Q E (h _ _ _ _ q),λA outer s H args us vs Q E hr he hb hv hs=>F.run A outer s H args us vs Q E hr he hb hv (h _ _ _ _ hs)⟩
theorem Env0.in1{P:Program}{w:World}{K:PySem.W.Frag}{mg:Str->Option Value}{base:Heap}{A:Around}{outer:List Env}{s:Shared}{H:Hp}(e:Env0 P w K mg base A outer s H):
  Env0 P w K mg base A.in1 outer s H:=⟨e.frames,e.mod,e.bs,e.bsz,e.funs,e.frf,e.hok,e.bare⟩
section
variable {X:Cx} {pins:List (Addr×Obj)} {σ:St} {H:Hp} {s s':Shared}
theorem Inv.env0(I:Inv X pins σ H s):Env0 X.prog X.w X.K X.mg X.base X.A X.stack s H:=
 ⟨I.ok.frames,I.ok.mod,I.bs,Nat.le_trans I.ok.bsz I.sz,I.stack,I.stkFree,I.hok,I.bare⟩
theorem Inv.after{Q:VK}{u:Value}(I:Inv X pins σ H s)(h:CE X.stack X.prog X.w H s Q u s'):EP X pins σ Q u s':=by
 obtain⟨v,H',os,bare,un,hok,r,q⟩:=h;obtain⟨hh,g,d,t,os'⟩:=s';obtain rfl:os'=s.os:=os;exact⟨v,H',I.call (h':=hh) (g':=g) (d':=d) (t':=t) (ch:=[]) un hok bare (λb z=>absurd z (by simp)),r,q⟩
end
noncomputable def tCall(sp:Sp)(dvs:List V)(E:XK)(t:TA):TE:=λσ H Q=>t σ H λvs H1=>sp (vs++dvs) H1 Q E
noncomputable def Binds(K:PySem.W.Frag)(fd:FuncData)(ps:List Str)(ds:List Value):Prop:=
 ∀(s:Shared) (us:List Value),K.In s.heap->(us++ds).length=ps.length->BindsTo s fd ⟨us,[]⟩ (ps.zip (us++ds))
theorem Binds.all{K:PySem.W.Frag}{fd:FuncData}{ps:List Str}(h:∀us:List Value,us.length=ps.length->bindArgs fd ⟨us,[]⟩=pure (ps.zip us)):Binds K fd ps []:=λs us _ hl=>by
 rw[List.append_nil]at hl ⊢;exact .of_eq (h us hl)
noncomputable def Passes(CX:CXT)(X:Cx)(E:XK):Prop:=∀(pins:List (Addr×Obj)) (σ:St) (H:Hp) (s:Shared) (e:Value) (s':Shared),Inv X pins σ H s->CX X.stack H s E e s'->X.xe e s'
section
variable {X:Cx} {CX:CXT} {k:Nat} {f C:Addr} {fd:FuncData} {ps:List Str} {sp:Sp} {dvs:List V} {ds:List Value} {E:XK} {x m:Str} {p pos apos:Pos} {e o:Expr} {es:List Expr} {ta:TE} {t:TA}
theorem Jqf{pins:List (Addr×Obj)}{σ:St}{H:Hp}{s:Shared}{Q:VK}{us:List Value}{vs:List V}(F:FnOk X.prog X.w X.K X.mg X.base CX k f fd ps sp)(hr:Room k X.A)(hb:Binds X.K fd ps ds)(hd:Vals dvs ds)(hx:Passes CX X E)
  (I:Inv X pins σ H s)(r:Vals vs us)(h:sp (vs++dvs) H Q E):wpAny (model X.prog X.w) X.A (call (.ref f) us) (EP X pins σ Q) X.xe s:=by
 have r2:Vals (vs++dvs) (us++ds):=r.append hd;have hl:(us++ds).length=ps.length:=by rw[<-r2.length];exact F.len _ _ _ _ h
 refine wpAny_call (codeAny_mono (F.run X.A X.stack s H ⟨us,[]⟩ (us++ds) (vs++dvs) Q E hr I.env0 (hb s us I.kIn hl) r2 h) λr s' hq=>?_);cases r with
 |error e=>exact hx pins σ H s e s' I hq
 |ok fl=>
  cases fl with
  |ret u=>exact I.after hq
  |next=>exact False.elim hq
  |brk=>exact False.elim hq
  |cont=>exact False.elim hq
theorem Js9(F:FnOk X.prog X.w X.K X.mg X.base CX k f fd ps sp)(hr:Room k X.A)(hg:Gl X x)(hm:X.mg x=some (.ref f))(hk:PySem.W.keepIn X.K (.ref f)=true)(hb:Binds X.K fd ps ds)(hd:Vals dvs ds)(hx:Passes CX X E)
  (ha:PA X (e::es) t)(hdb:(x==("__debug__":Str))=false:=by decide)(he:starEach (e::es) X.env=(false,eval e X.env)::starEach es X.env:=by rfl)(hpl:(backTo pos (starEach es X.env)).any (·.1)=false:=by rfl):
  PE X (.Call (.Name x p) (e::es) [] pos) (tCall sp dvs E t):=by
 intro pins s σ H Q I h;refine wpAny_Call_Name_kw (Jd8 I hg hm ?_ hdb);refine PySem.W.callWith_K (h₀:=X.base) I.ok.mod.kin hk (thn (ha pos pins s σ H _ I h) λus s1 ⟨vs,H1,I1,r,q⟩=>⟨I1.kIn,?_⟩) he hpl;exact Jqf F hr hb hd hx I1 r q
theorem Jo3(F:FnOk X.prog X.w X.K X.mg X.base CX k f fd ps sp)(hr:Room k X.A)(hg:Gl X x)(hm:X.mg x=some (.ref f))(hk:PySem.W.keepIn X.K (.ref f)=true)(hb:Binds X.K fd ps ds)(hd:Vals dvs ds)(hx:Passes CX X E)
  (hdb:(x==("__debug__":Str))=false:=by decide):PE X (.Call (.Name x p) [] [] pos) (tCall sp dvs E tNil):=by
 intro pins s σ H Q I h;refine wpAny_Call_Name_kw (Jd8 I hg hm ?_ hdb);exact PySem.W.callWith_K0 I.kIn hk (Jqf (us:=[]) F hr hb hd hx I .nil h)
structure Mk(K:PySem.W.Frag)(C f:Addr):Prop where
 makes:PySem.W.makesIn K C=true
 init:PySem.W.findIn K (.ref C) "__init__"=some (some (.ref f))
 fn:PySem.W.isFn K (.ref f)=true
 kp:PySem.W.keepIn K (.ref C)=true
end
section
variable {X:Cx} {CX:CXT} {k:Nat} {f C:Addr} {fd:FuncData} {ps ks:List Str} {sp:Sp} {E:XK} {x m:Str} {p pos apos kpos:Pos} {e o:Expr} {es:List Expr} {kws:List Keyword} {te ta:TE} {t tk:TA} {nm:Option Str}
variable {g:List Value->List Value->List Value} {gV:List V->List V->List V}
end
structure FnScope(N P:List Str)(sc:Scope):Prop where
 kind:sc.kind=.function
 co:sc.isCoroutine=false
 gen:sc.isGenerator=false
 nd:N.Nodup
 pre:N.take P.length=P
 par:∀x∈P,sc.names.lookup x=some .local\/sc.names.lookup x=some .cell
 nofree:∀y∈sc.names,y.2≠ .free
theorem Jh1{kindOf:Str->Option NameKind}{x:Str}:∀{binds:List (Str×Value)} {m:Str->Option Value},(∀v,(x,v)∉binds)->bindL kindOf binds m x=m x
 |[],_,_=>rfl
 |(n,v)::r,m,h=>by
  unfold bindL;rw[Jh1 λw hw=>h w (List.mem_cons_of_mem _ hw)];split
  ·have:x≠n:=by rintro rfl;exact h v List.mem_cons_self
   simp[this]
  ·rfl
theorem Jh3{kindOf:Str->Option NameKind}{x:Str}:∀{binds:List (Str×Value)} {m:Str->Option Value},(∀v,(x,v)∉binds)->bindC kindOf binds m x=m x
 |[],_,_=>rfl
 |(n,v)::r,m,h=>by
  unfold bindC;rw[Jh3 λw hw=>h w (List.mem_cons_of_mem _ hw)];split
  ·rfl
  ·have:x≠n:=by rintro rfl;exact h v List.mem_cons_self
   simp[this]
theorem Jh2{kindOf:Str->Option NameKind}{x:Str}{v:Value}:∀{P:List Str} {vs:List Value} {i:Nat} {m:Str->Option Value},P.Nodup->P[i]? =some x->vs[i]? =some v->kindOf x=some .local->
  bindL kindOf (P.zip vs) m x=some v
 |[],_,_,_,_,h,_,_=>by simp at h
 |_::_,[],_,_,_,_,h,_=>by simp at h
 |p::P,w::vs,0,m,nd,h1,h2,hk=>by
  simp at h1 h2;subst h1;subst h2;show bindL kindOf ((p,w)::P.zip vs) m p=_;unfold bindL;rw[Jh1 λv hv=>(List.nodup_cons.mp nd).1 (List.of_mem_zip hv).1,if_pos hk];simp
 |p::P,w::vs,i+1,m,nd,h1,h2,hk=>by
  show bindL kindOf ((p,w)::P.zip vs) m x=_;unfold bindL;exact Jh2 (i:=i) (List.nodup_cons.mp nd).2 (by simpa using h1) (by simpa using h2) hk
theorem Jh4{kindOf:Str->Option NameKind}{x:Str}{v:Value}:∀{P:List Str} {vs:List Value} {i:Nat} {m:Str->Option Value},P.Nodup->P[i]? =some x->vs[i]? =some v->kindOf x≠some .local->
  bindC kindOf (P.zip vs) m x=some v
 |[],_,_,_,_,h,_,_=>by simp at h
 |_::_,[],_,_,_,_,h,_=>by simp at h
 |p::P,w::vs,0,m,nd,h1,h2,hk=>by
  simp at h1 h2;subst h1;subst h2;show bindC kindOf ((p,w)::P.zip vs) m p=_;unfold bindC;rw[Jh3 λv hv=>(List.nodup_cons.mp nd).1 (List.of_mem_zip hv).1,if_neg hk];simp
 |p::P,w::vs,i+1,m,nd,h1,h2,hk=>by
  show bindC kindOf ((p,w)::P.zip vs) m x=_;unfold bindC;exact Jh4 (i:=i) (List.nodup_cons.mp nd).2 (by simpa using h1) (by simpa using h2) hk
noncomputable def start(N:List Str)(vs:List V):St:=vs.map some++List.replicate (N.length-vs.length) none
noncomputable def cxOf(CX:CXT)(P:Program)(w:World)(K:PySem.W.Frag)(mg:Str->Option Value)(base:Heap)(N:List Str)(qual:Str)(scope:Scope)(f:Addr)(cd:Value)(A:Around)(outer:List Env)(s:Shared)(H:Hp)(E:XK):Cx where
 prog:=P
 w:=w
 K:=K
 mg:=mg
 base:=base
 A:=A.deeper (envOfC qual scope s.heap.objs.size f cd)
 N:=N
 s₀:=s
 H₀:=H
 env:=envOfC qual scope s.heap.objs.size f cd
 outer:=outer
 stack:=envOfC qual scope s.heap.objs.size f cd::outer
 ex:=[]
 calm:=true
 fn:=λ_=>true
 pn:=[]
 xe:=λe s'=>wpAny (model P w) (A.deeper (envOfC qual scope s.heap.objs.size f cd)) (leaving (envOfC qual scope s.heap.objs.size f cd) e) (λ_ s''=>CX outer H s E e s'') (λe' s''=>CX outer H s E e' s'') s'
theorem Jj2{sc:Scope}{n:Nat}{x:Str}(h:sc.names.lookup x=some .cell):∃c,(cellsFrom n sc.names []).lookup x=some c:=by
 have q:=PySem.W.cellsFrom_some sc.names n [] (.inl h);exact Option.isSome_iff_exists.mp q
theorem Jm2{CX:CXT}{P:Program}{w:World}{K:PySem.W.Frag}{mg:Str->Option Value}{base:Heap}{N ps:List Str}{qual:Str}{scope:Scope}{f:Addr}{cd:Value}{A:Around}{outer:List Env}{s s1:Shared}{H:Hp}{E:XK}{us:List Value}{vs:List V}
  (S:FnScope N ps scope)(hd:A.handled=none)(e0:Env0 P w K mg base A outer s H)(hl:vs.length=ps.length)(r:Vals vs us)
  (x:InCallC s s.heap.objs.size (bindL (envOfC qual scope s.heap.objs.size f cd).kindOf (ps.zip us) λ_=>none) (cellsFrom (s.heap.objs.size+1) scope.names []) (bindC (envOfC qual scope s.heap.objs.size f cd).kindOf (ps.zip us) λ_=>none) s1):
  Inv (cxOf CX P w K mg base N qual scope f cd A outer s H E) [] (start N vs) H s1:=by
 have hpl:ps.length<=N.length:=by have:=congrArg List.length S.pre;rw[List.length_take]at this;omega
 obtain⟨h1,tk,rfl,hk⟩:=x.done;have noA:∀b:Addr,b∉(cxOf CX P w K mg base N qual scope f cd A outer s H E).ex:=λb z=>absurd (show b∈([]:List Addr)from z) (by simp);refine⟨⟨e0.mod,S.kind,rfl,rfl,Nat.le_refl _,λy z c h1 h2=>?_,λy hy=>?_,λy c _ h=>?_,λ_=>hd,Around.frames_deeper e0.frames,.inr ⟨rfl,rfl⟩,λb z=>absurd z (noA b),e0.bs,e0.bsz,λb _ _=>noA b,λb z=>absurd z (noA b),e0.funs,e0.frf⟩,
  rfl,e0.bare,Un.kept hk,⟨_,x.toInCall.ns,λi y v h1 h2 h3=>?_⟩,λy c h=>⟨_,x.cell y c h⟩,e0.hok.fresh (Nat.le_refl _),λy c h=>?_,λp hp=>absurd (show p∈([]:List (Addr×Obj))from hp) (by simp),e0.hok.kept hk,?_⟩
 ·exact name_of_addr x.apart (PySem.mem_of_lookup h1) (PySem.mem_of_lookup h2)
 ·have hy:scope.names.lookup y=some .cell\/scope.names.lookup y=some .free:=hy;rcases hy with hy|hy
  ·exact Jj2 hy
  ·exact absurd rfl (S.nofree _ (PySem.mem_of_lookup hy))
 ·exact Nat.le_of_lt (x.above y c (PySem.mem_of_lookup h))
 ·have hi:i<vs.length:=by
   unfold start at h2
   by_cases hi:i<vs.length
   ·exact hi
   ·rw[List.getElem?_append_right (by simpa using hi)]at h2;rw[List.getElem?_replicate]at h2;split at h2<;>cases h2
  have ha:vs[i]? =some v:=by
   unfold start at h2;rw[List.getElem?_append_left (by simpa using hi),List.getElem?_map]at h2;cases e:vs[i]? with
   |none=>rw[e]at h2;cases h2
   |some a=>rw[e]at h2;cases h2;rfl
  obtain⟨u,hu,rv⟩:=r.get ha;have hp:ps[i]? =some y:=by
   rw[<-S.pre,List.getElem?_take_of_lt (by omega)];exact h1
  have ndP:ps.Nodup:=by rw[<-S.pre];exact S.nd.sublist (List.take_sublist _ _)
  refine⟨u,rv,?_⟩;rcases S.par y (List.mem_of_getElem? hp)with k|k
  ·exact .inl ⟨k,Jh2 ndP hp hu k⟩
  ·obtain⟨c,e⟩:=Jj2 (n:=s.heap.objs.size+1) k;refine .inr ⟨.inl k,c,e,?_⟩;have q:=x.cell y c e;rw[Jh4 ndP hp hu (by show scope.names.lookup y≠_;rw[k];decide)]at q;exact q
 ·exact e0.hok.fresh (Nat.le_of_lt (x.above y c (PySem.mem_of_lookup h)))
 ·unfold start;show _=N.length;rw[List.length_append,List.length_map,List.length_replicate];omega
theorem Jx1{CX:CXT}{P:Program}{w:World}{K:PySem.W.Frag}{mg:Str->Option Value}{base:Heap}{k:Nat}{f:Addr}{name qual:Str}{params:Arguments}{body:List Stmt}{scope:Scope}{dV kV doc pm cdv ct oc:Value}{an od:Option Addr}
  {osl:Array (Option Value)}{N ps:List Str}{sp:Sp}(lk:K.lookup f=some ⟨oc,od,.func (PySem.W.fnOf name qual params body scope dV kV doc pm an cdv ct),osl⟩)(hcd:PySem.W.codeIn K cdv qual=true)(S:FnScope N ps scope)
  (len:∀vs H Q E,sp vs H Q E->vs.length=ps.length)
  (hbody:∀(A:Around) (outer:List Env) (s:Shared) (H:Hp) (vs:List V) (Q:VK) (E:XK),Room k (A.deeper (envOfC qual scope s.heap.objs.size f cdv))->sp vs H Q E->
   ∃t,PSs (cxOf CX P w K mg base N qual scope f cdv A outer s H E) body t/\t {nx:=λ_ H'=>Q .non H',rt:=Q} (start N vs) H):
  FnOk P w K mg base CX (k+1) f (PySem.W.fnOf name qual params body scope dV kV doc pm an cdv ct) ps sp:=by
 refine⟨len,λA outer s H args us vs Q E hr e0 hb r hsp=>?_⟩;have hl:=len _ _ _ _ hsp;have KX:K.In s.heap:=e0.mod.kin.keeps λb o e=>(e0.bs b o e).1;have lim:s.heap.NoLimit:=e0.mod.nolimit.keeps λb o e=>(e0.bs b o e).1;have hkind:∀y∈ps.zip us,scope.names.lookup y.1=some .local\/(scope.names.lookup y.1=some .cell/\((cellsFrom (s.heap.objs.size+1) scope.names []).lookup y.1).isSome=true):=λ⟨n,v⟩ hy=>by
  rcases S.par n (List.of_mem_zip hy).1 with q|q
  ·exact .inl q
  ·exact .inr ⟨q,PySem.W.cellsFrom_some _ _ _ (.inl q)⟩
 refine codeAny_call_function hr.depth (KX _ _ lk) rfl S.co S.gen rfl (PySem.W.codeRec_of KX hcd) (hb _ _ _ _ ?_);refine wpAny_newFunctionEnv_cells S.kind hkind λenv he s1 x=>?_;subst he;refine⟨lim.keeps x.toInCall.keep,codeAny_func ?_⟩;obtain⟨t,ht,hq⟩:=hbody A outer s H vs Q E (hr.deeper _) hsp;have I:Inv (cxOf CX P w K mg base N qual scope f cdv A outer s H E) [] (start N vs) H s1:=Jm2 S hr.hd e0 hl r x;refine wpAny_mono (ht [] s1 (start N vs) H _ I hq) (λfl s' hs=>?_) λe s' hs=>hs;have fin:∀{σ':St} {H':Hp} {v:V} {u:Value},Inv (cxOf CX P w K mg base N qual scope f cdv A outer s H E) [] σ' H' s'->RelV v u->Q v H'->CE outer P w H s Q u s':=
  λ{σ' H' v u} J rv q=>⟨v,H',J.os,J.bare,J.base,J.hok,rv,q⟩
 cases fl with
 |ret u=>
  obtain⟨v,σ',H',J,rv,q⟩:=hs;exact fin J rv q
 |next=>
  obtain⟨σ',H',J,q⟩:=hs;exact fin (v:=V.non) (u:=Value.none) J rfl q
 |brk=>
  obtain⟨_,_,_,q⟩:=hs;exact False.elim q
 |cont=>
  obtain⟨_,_,_,q⟩:=hs;exact False.elim q
end L2
namespace L2
open PySem PySem.Spec PyProof.Rows
section
variable {X:Cx} {x:Str} {p pos:Pos} {e:Expr} {es:List Expr} {t:TA} {id T:String} {r:List V->Hp->VK->Prop}
noncomputable def tCB(r:List V->Hp->VK->Prop)(t:TA):TE:=λσ H Q=>t σ H λvs H1=>r vs H1 Q
theorem Je0(hc:CallR X (.builtin id) r)(hg:Gl X x)(hm:X.mg x=none)(hv:bootBuiltins x=some (.builtin id))(ha:PA X (e::es) t)(hn:x≠"__name__":=by decide)(hdb:(x==("__debug__":Str))=false:=by decide)
  (he:starEach (e::es) X.env=(false,eval e X.env)::starEach es X.env:=by rfl)(hpl:(backTo pos (starEach es X.env)).any (·.1)=false:=by rfl):PE X (.Call (.Name x p) (e::es) [] pos) (tCB r t):=by
 intro pins s σ H Q I h;refine wpAny_Call_Name_kw (Jhe I hg hm hv ?_ hn hdb);exact PyProof.Rows.callWith_builtin1 (thn (ha pos pins s σ H _ I h) λus s1 ⟨vs,H1,I1,r1,q1⟩=>hc pins s1 σ H1 vs us Q I1 r1 q1) he hpl
theorem Jhb(hc:CallR X (.type T) r)(hg:Gl X x)(hm:X.mg x=none)(hv:bootBuiltins x=some (.type T))(ha:PA X (e::es) t)(hn:x≠"__name__":=by decide)(hdb:(x==("__debug__":Str))=false:=by decide)
  (he:starEach (e::es) X.env=(false,eval e X.env)::starEach es X.env:=by rfl)(hpl:(backTo pos (starEach es X.env)).any (·.1)=false:=by rfl):PE X (.Call (.Name x p) (e::es) [] pos) (tCB r t):=by
 intro pins s σ H Q I h;refine wpAny_Call_Name_kw (Jhe I hg hm hv ?_ hn hdb);exact PyProof.Rows.callWith_type1 (thn (ha pos pins s σ H _ I h) λus s1 ⟨vs,H1,I1,r1,q1⟩=>hc pins s1 σ H1 vs us Q I1 r1 q1) he hpl
end
end L2
namespace HT
open PySem PyProof.Rows
section
open PySem.SeqAt
open PySem.AutoSeq1 (wpAny_loadPart')
open PySem.MeetsSeq PySem.MeetsSeq2 PySem.MeetsSeq3
end
section
variable {prog:Program} {w:World} {A:Around} {E:Value->Shared->Prop} {s:Shared}
theorem Jt1{t b:Addr}{vs ws:List Value}{Q:Value->Shared->Prop}(ht:IsTup s.heap t vs.toArray)(hb:IsTup s.heap b ws.toArray)(hv:vs≠[])
  (h1:ws=[]->Q (.ref t) s)(h2:ws≠[]->Q (.ref s.heap.objs.size) {s with heap:=s.heap.push {cls:=.type "tuple",data:=.seq (vs++ws).toArray}})
  (hsz:vs.length+ws.length<=sizeLine):wpAny (model prog w) A (binaryOp .Add (.ref t) (.ref b)) Q E s:=by
 obtain⟨⟨cls,dd,data,sl⟩,ho,hc,n,hd⟩:=id ht;obtain⟨⟨cls2,dd2,data2,sl2⟩,ho2,hc2,n2,hd2⟩:=id hb;simp only at hc hd hc2 hd2;subst hc hd hc2 hd2;have e:vs.toArray++ws.toArray=(vs++ws).toArray:=by simp
 by_cases hw:ws=[]
 ·exact concat_meets ⟨_,ho,rfl⟩ ⟨_,ho2,rfl⟩ noFill_tuple_add seq_tuple_add PySem.F.slot_tuple_add PySem.F.entry_tuple_add (PySem.F.args_tuple_add_2 _ _)
   (tuple_addW1 t b vs.toArray ws.toArray n n2 dd dd2 sl sl2 (by simpa using hv) (by simp[hw])) ⟨ho,ho2,h1 hw⟩
 ·refine concat_meets ⟨_,ho,rfl⟩ ⟨_,ho2,rfl⟩ noFill_tuple_add seq_tuple_add PySem.F.slot_tuple_add PySem.F.entry_tuple_add (PySem.F.args_tuple_add_2 _ _)
   (tuple_addW2 t b vs.toArray ws.toArray n n2 dd dd2 sl sl2 (by simpa using hv) (by simpa using hw) (by rw[List.size_toArray,List.size_toArray];exact hsz)) ⟨ho,ho2,?_⟩
  rw[e];exact h2 hw
noncomputable def sIx(n d:Nat):Option Int->Nat
 |none=>d
 |some v=>if v<0 then(v+(n:Int)).toNat else min v.toNat n
theorem Jve(n d:Nat)(hd:d<=n)(o:Option Int):sIx n d o<=n:=by
 cases o with
 |none=>exact hd
 |some v=>
  show(if v<0 then(v+(n:Int)).toNat else min v.toNat n)<=n
  by_cases hv:v<0
  ·rw[if_pos hv];omega
  ·rw[if_neg hv];exact Nat.min_le_right _ _
theorem Jnv(v:Int)(n d:Nat):(if v<0 then max (v+(n:Int)) 0 else min v (n:Int))=((sIx n d (some v):Nat):Int):=by
 show(if v<0 then max (v+(n:Int)) 0 else min v (n:Int))=(((if v<0 then(v+(n:Int)).toNat else min v.toNat n):Nat):Int)
 by_cases hv:v<0
 ·simp only[if_pos hv];omega
 ·simp only[if_neg hv];omega
theorem Jkr(lo hi:Option Int)(n:Nat):Builtin.Slice.sliceAdjust lo hi 1 (n:Int)=(((sIx n 0 lo:Nat):Int),((sIx n n hi:Nat):Int)):=by
 have h1:¬((1:Int)<0):=by omega
 unfold Builtin.Slice.sliceAdjust;simp only[h1,if_false];refine Prod.ext ?_ ?_
 ·cases lo with
  |none=>rfl
  |some v=>exact Jnv v n 0
 ·cases hi with
  |none=>rfl
  |some v=>exact Jnv v n n
theorem Jke(i j:Nat):Builtin.Slice.slicePlaces (i:Int) (j:Int) 1=j-i:=by
 unfold Builtin.Slice.slicePlaces;have h1:(1:Int)>0:=by omega
 simp only[h1,if_true,Int.ediv_one];split<;>omega
theorem Jfz{v:Value}{o:Option Int}{Q:Option Int->Shared->Prop}(p:IsPart v o)(h:Q o s):wpAny (model prog w) A (Builtin.Slice.slicePartIndex v) Q E s:=by
 cases p with
 |none=>exact slicePart_none h
 |int i t=>exact slicePart_int h
theorem Jcm{sl:Addr}{vl vu:Value}{lo hi:Option Int}{n:Nat}{Q:Int×Int×Nat->Shared->Prop}(hs:s.heap.IsSliceOf sl vl vu .none)(pl:IsPart vl lo)(pu:IsPart vu hi)
  (h:Q (((sIx n 0 lo:Nat):Int),1,sIx n n hi-sIx n 0 lo) s):wpAny (model prog w) A (Builtin.Slice.sliceApplied (.ref sl) (pure (n:Int))) Q E s:=by
 obtain⟨os,hos,hcs,hds⟩:=id hs;unfold Builtin.Slice.sliceApplied Builtin.Slice.sliceFields;refine wpAny_bind (wpAny_bind (wpAny_field hos hds (x:=vl) rfl (wpAny_bind (wpAny_field hos hds (x:=vu) rfl (wpAny_bind (wpAny_field hos hds (x:=.none) rfl (wpAny_pure ?_)))))));refine wpAny_bind (slicePart_none ?_);show wpAny _ _ (if((1:Int)==0)=true then _ else _) _ _ s;rw[if_neg (by decide)];refine wpAny_bind (Jfz pl (wpAny_bind (Jfz pu (wpAny_bind (wpAny_pure ?_)))));show wpAny _ _ (match Builtin.Slice.sliceAdjust lo hi 1 (n:Int)with|(lo,hi)=>pure (lo,(1:Int),Builtin.Slice.slicePlaces lo hi 1)) _ _ s;rw[Jkr lo hi n];show wpAny _ _ (pure (((sIx n 0 lo:Nat):Int),(1:Int),Builtin.Slice.slicePlaces ((sIx n 0 lo:Nat):Int) ((sIx n n hi:Nat):Int) 1)) _ _ s;rw[Jke];exact wpAny_pure h
theorem Jou(xs:Array Value)(i k:Nat):((List.range k).filterMap λ(m:Nat)=>xs[((i:Int)+(m:Int)*1).toNat]?).toArray=((xs.toList.drop i).take k).toArray:=by
 have e:(λ(m:Nat)=>xs[((i:Int)+(m:Int)*1).toNat]?)=λm=>xs[i+m]? :=by
  funext m;have:((i:Int)+(m:Int)*1).toNat=i+m:=by omega
  rw[this]
 rw[e];have:=pick_run xs i k;rw[List.filterMap_map]at this;have e2:((λx=>xs[x]?)∘λx=>i+x)=λm=>xs[i+m]? :=rfl;rw[e2]at this;rw[this]
theorem Jd9{t sl:Addr}{items:Array Value}{vl vu:Value}{lo hi:Option Int}{Q:Value->Shared->Prop}(ht:IsTup s.heap t items)(hs:s.heap.IsSliceOf sl vl vu .none)(pl:IsPart vl lo)(pu:IsPart vu hi)
  (hw:¬(sIx items.size 0 lo=0/\sIx items.size items.size hi=items.size))
  (h:Q (.ref s.heap.objs.size) {s with heap:=s.heap.push {cls:=.type "tuple",data:=.seq ((items.toList.drop (sIx items.size 0 lo)).take (sIx items.size items.size hi-sIx items.size 0 lo)).toArray}})
  (hsz:items.size<=sizeLine):wpAny (model prog w) A (getItem (.ref t) (.ref sl)) Q E s:=by
 have htake:sizeOk (.seq ((items.toList.drop (sIx items.size 0 lo)).take (sIx items.size items.size hi-sIx items.size 0 lo)).toArray):=by
  show((items.toList.drop (sIx items.size 0 lo)).take (sIx items.size items.size hi-sIx items.size 0 lo)).toArray.size<=sizeLine;rw[List.size_toArray,List.length_take,List.length_drop,Array.length_toList];omega
 have hj:sIx items.size items.size hi<=items.size:=Jve _ _ (Nat.le_refl _) hi;obtain⟨os,hos,hcs,hds⟩:=id hs;have hTs:s.TypeIs (.ref sl) "slice":=⟨os,hos,hcs⟩
 unfold getItem
 try with_reducible refine wpAny_holding ?_
 first|refine wpAny_bind (wpAny_pure ?_)|skip
 refine wpAny_bind (wpAny_sequenceKey ht.typeIs (by decide) ?_);refine wpAny_bind (wpAny_callSpecial?_slot (name:=Str.ofString "__getitem__") ht.typeIs PyProof.Rows.slot_tuple_getitem
  (wpAny_call_entry PyProof.Rows.slot_tuple_getitem ht.typeIs entry_tuple_getitem ?_ (args_tuple_getitem _ _)))
 show wpAny _ _ (Builtin.Tuple.tupleItemsOf (.ref t)>>=_) _ _ s;refine wpAny_bind (tupleItemsOf_ ht ?_);refine wpAny_bind (wpAny_typeOf hTs ?_);rw[if_pos (by decide)];refine wpAny_bind (Jcm hs pl pu ?_);have hno:¬((((sIx items.size 0 lo:Nat):Int)==0&&(1:Int)==1&&(sIx items.size items.size hi-sIx items.size 0 lo)==items.size)=true):=by
  intro q;rw[Bool.and_eq_true,Bool.and_eq_true]at q;have q1:((sIx items.size 0 lo:Nat):Int)=0:=eq_of_beq q.1.1;have q2:sIx items.size items.size hi-sIx items.size 0 lo=items.size:=eq_of_beq q.2;exact hw ⟨by omega,by omega⟩
 show wpAny _ _ (if(((sIx items.size 0 lo:Nat):Int)==0&&(1:Int)==1&&(sIx items.size items.size hi-sIx items.size 0 lo)==items.size)=true then _ else _) _ _ s;rw[if_neg hno,Jou]
 first
  |exact wpAny_bind (m:=Builtin.Tuple.tupleExact _) (wpAny_newObj_type (wpAny_pure ⟨_,rfl,wpAny_pure h⟩) htake)
  |exact wpAny_bind (m:=Builtin.Tuple.tupleExact _) (wpAny_newObj_type (wpAny_bind (wpAny_pure (wpAny_pure ⟨_,rfl,wpAny_pure h⟩))) htake)
  |exact wpAny_bind (wpAny_bind (m:=Builtin.Tuple.tupleExact _) (wpAny_newObj_type (wpAny_pure (wpAny_pure ⟨_,rfl,wpAny_pure h⟩)) htake))
  |exact wpAny_bind (wpAny_bind (m:=Builtin.Tuple.tupleExact _) (wpAny_newObj_type (wpAny_pure ⟨_,rfl,wpAny_pure h⟩) htake))
end
end HT
namespace L2
open PySem PySem.Spec PyProof.Rows
noncomputable abbrev TO:=St->Hp->(Option Int->Hp->Prop)->Prop
noncomputable def PO(X:Cx)(e:Option Expr)(t:TO):Prop:=
 ∀(pins:List (Addr×Obj)) (s:Shared) (σ:St) (H:Hp) (Q:Option Int->Hp->Prop),Inv X pins σ H s->t σ H Q->
  wpAny (model X.prog X.w) X.A (evalPart e X.env) (λu s'=>∃o H',Inv X pins σ H' s'/\IsPart u o/\Q o H') X.xe s
noncomputable def tNoPart:TO:=λ_ H Q=>Q none H
noncomputable def tPart(t:TE):TO:=λσ H Q=>t σ H λx H1=>∃i,x=.int i/\Q (some i) H1
section
variable {X:Cx} {e:Expr} {te:TE} {lo hi:Option Expr} {tl th:TO} {pos p2:Pos}
theorem Js1:PO X none tNoPart:=by
 intro pins s σ H Q I h;rw[evalPart_none];exact wpAny_pure ⟨none,H,I,.none,h⟩
theorem Js0(h:PE X e te):PO X (some e) (tPart te):=by
 intro pins s σ H Q I hw;rw[evalPart_some];refine thn (h pins s σ H _ I hw) λu s1 ⟨x,H1,I1,r1,q1⟩=>?_;obtain⟨i,rfl,q⟩:=q1;obtain⟨t,rfl⟩:=r1;exact⟨some i,H1,I1,.int i t,q⟩
noncomputable def SlR(X:Cx)(r:V->Option Int->Option Int->Hp->VK->Prop):Prop:=
 ∀(pins:List (Addr×Obj)) (s:Shared) (σ:St) (H:Hp) (x:V) (v vl vu:Value) (lo hi:Option Int) (sl:Addr) (Q:VK),Inv X pins σ H s->RelV x v->s.heap.IsSliceOf sl vl vu .none->IsPart vl lo->IsPart vu hi->r x lo hi H Q->
  ∃T id,typeLookup (.type T) "__getitem__"=pure (some (.builtin id))/\s.TypeIs v T/\wpAny (model X.prog X.w) X.A (getItem v (.ref sl)) (EP X pins σ Q) X.xe s
theorem SlR.or{r r':V->Option Int->Option Int->Hp->VK->Prop}(h:SlR X r)(h':SlR X r'):SlR X (λx lo hi H Q=>r x lo hi H Q\/r' x lo hi H Q):=by
 intro pins s σ H x v vl vu lo hi sl Q I rx hs pl pu q;rcases q with q|q
 ·exact h pins s σ H x v vl vu lo hi sl Q I rx hs pl pu q
 ·exact h' pins s σ H x v vl vu lo hi sl Q I rx hs pl pu q
noncomputable def tSl(r:V->Option Int->Option Int->Hp->VK->Prop)(te:TE)(tl th:TO):TE:=λσ H Q=>te σ H λx H1=>tl σ H1 λl H2=>th σ H2 λu H3=>r x l u H3 Q
theorem Jox{r:V->Option Int->Option Int->Hp->VK->Prop}(hr:SlR X r)(he:PE X e te)(hl:PO X lo tl)(hu:PO X hi th):PE X (.Subscript e (.Slice lo hi none p2) pos) (tSl r te tl th):=by
 intro pins s σ H Q I h;refine Subscript_ (thn (he pins s σ H _ I h) λv s1 ⟨x,H1,I1,r1,q1⟩=>?_);refine wpAny_Slice (thn (hl pins s1 σ H1 _ I1 q1) λvl s2 ⟨l,H2,I2,pl,q2⟩=>thn (hu pins s2 σ H2 _ I2 q2) λvu s3 ⟨u,H3,I3,pu,q3⟩=>?_);rw[evalPart_none];refine wpAny_pure ?_;have I4:Inv X pins σ H3 {s3 with heap:=s3.heap.push {cls:=.type "slice",data:=.fields #[vl,vu,.none]}}:=I3.kept (t':=s3.toks) λb ob q=>Heap.get?_push_of_some _ q;obtain⟨T,id,hT,ht,hg⟩:=hr pins {s3 with heap:=s3.heap.push {cls:=.type "slice",data:=.fields #[vl,vu,.none]}} σ H3 x v vl vu l u s3.heap.objs.size Q I4 r1 (Heap.IsSliceOf.new ..) pl pu q3;show wpAny (model X.prog X.w) X.A (subscriptTail e (.Slice lo hi none p2) v (.ref s3.heap.objs.size)) (EP X pins σ Q) X.xe {s3 with heap:=s3.heap.push {cls:=.type "slice",data:=.fields #[vl,vu,.none]}};exact tail_any (ops:=[.ref s3.heap.objs.size,v]) ht hT hg (by with_unfolding_all rfl)
noncomputable def cutV(xs:List V)(lo hi:Option Int):List V:=(xs.drop (HT.sIx xs.length 0 lo)).take (HT.sIx xs.length xs.length hi-HT.sIx xs.length 0 lo)
theorem Jfn(xs:List V)(lo hi:Option Int):(cutV xs lo hi).length<=xs.length:=by
 unfold cutV;rw[List.length_take,List.length_drop];omega
noncomputable def rSlT(K:PySem.W.Frag):V->Option Int->Option Int->Hp->VK->Prop:=λx lo hi H Q=>∃a xs,x=.ref a/\SqT K H a xs/\
 ¬(HT.sIx xs.length 0 lo=0/\HT.sIx xs.length xs.length hi=xs.length)/\∀p,H p=none->Q (.ref p) (upd H p (.tup (cutV xs lo hi)))
theorem Jva:SlR X (rSlT X.K):=by
 intro pins s σ H x v vl vu lo hi sl Q I rx hs pl pu h;obtain⟨a,xs,rfl,hx,hw,q⟩:=h;cases rx;obtain⟨its,r,ht,hz⟩:=I.tuple hx;have hlen:its.toArray.size=xs.length:=by rw[List.size_toArray];exact r.length.symm
 refine⟨"tuple",_,PyProof.Rows.slot_tuple_getitem.lookup,ht.typeIs,?_⟩;refine HT.Jd9 ht hs pl pu (by rw[hlen];exact hw) ?_ (by rw[hlen];exact hz);rw[hlen];refine⟨.ref s.heap.objs.size,_,I.laid (t':=s.toks) (o:=.tup (cutV xs lo hi)) (λb ob q=>Heap.get?_push_of_some _ q) (Nat.le_refl _) ?_,rfl,q _ (I.hok.fresh (Nat.le_refl _))⟩;exact⟨Nat.le_trans (Jfn xs lo hi) hz,_,(r.drop (HT.sIx xs.length 0 lo)).take (HT.sIx xs.length xs.length hi-HT.sIx xs.length 0 lo),IsTup.new _ _⟩
noncomputable def rCatT(K:PySem.W.Frag):R2:=λx y H Q=>∃a b xs ys,x=.ref a/\y=.ref b/\SqT K H a xs/\SqT K H b ys/\xs≠[]/\xs.length+ys.length<=sizeLine/\
 (ys=[]->Q (.ref a) H)/\(ys≠[]->∀p,H p=none->Q (.ref p) (upd H p (.tup (xs++ys))))
theorem Vals.nil_iff{xs:List V}{us:List Value}(r:Vals xs us):us=[]↔xs=[]:=by
 cases r with
 |nil=>simp
 |cons _ _=>simp
theorem Jtd:OpR X (binaryOp .Add) (rCatT X.K):=by
 intro pins s σ H x y v u Q I rx ry h;obtain⟨a,b,xs,ys,rfl,rfl,ha,hb,hx,hz,q1,q2⟩:=h;cases rx;cases ry;obtain⟨its,r1,p1,_⟩:=I.tuple ha;obtain⟨its2,r2,p2,_⟩:=I.tuple hb;refine HT.Jt1 p1 p2 (λz=>hx (r1.nil_iff.mp z)) (λz=>⟨.ref a,H,I,rfl,q1 (r2.nil_iff.mp z)⟩) (λz=>?_) (by rw[<-r1.length,<-r2.length];exact hz);refine⟨.ref s.heap.objs.size,_,I.laid (t':=s.toks) (o:=.tup (xs++ys)) (λb ob q=>Heap.get?_push_of_some _ q) (Nat.le_refl _) ?_,rfl,q2 (λw=>z (r2.nil_iff.mpr w)) _ (I.hok.fresh (Nat.le_refl _))⟩;exact⟨by rw[List.length_append];exact hz,_,r1.append r2,IsTup.new _ _⟩
end
end L2
namespace L2
open PySem PySem.Spec PyProof.Rows
noncomputable def ixN(n:Nat)(i:Int):Option Nat:=if 0<=i then(if i<n then some i.toNat else none)else if -(n:Int)<=i then some (i+n).toNat else none
noncomputable def atI{α:Type}(xs:List α)(i:Int):Option α:=(ixN xs.length i).bind λj=>xs[j]?
theorem Jm1{n:Nat}{i:Int}{j:Nat}(h:ixN n i=some j):seqIndex? i n=some j/\j<n/\ -(n:Int)<=i/\i<n:=by
 unfold ixN at h
 by_cases h0:0<=i
 ·rw[if_pos h0]at h
  by_cases h1:i<n
  ·rw[if_pos h1]at h;have e:i.toNat=j:=Option.some.inj h;exact⟨by rw[seqIndex_of h0 h1,e],by omega,by omega,h1⟩
  ·rw[if_neg h1]at h;cases h
 ·rw[if_neg h0]at h
  by_cases h1: -(n:Int)<=i
  ·rw[if_pos h1]at h;have e:(i+n).toNat=j:=Option.some.inj h;exact⟨by rw[seqIndex_neg (by omega) h1,e],by omega,h1,by omega⟩
  ·rw[if_neg h1]at h;cases h
theorem Jit{α:Type}{xs:List α}{i:Int}{v:α}(h:atI xs i=some v):∃j,seqIndex? i xs.length=some j/\xs[j]? =some v/\j<xs.length/\ -(xs.length:Int)<=i/\i<xs.length:=by
 unfold atI at h;cases e:ixN xs.length i with
 |none=>rw[e]at h;cases h
 |some j=>
  rw[e]at h;obtain⟨h1,h2,h3,h4⟩:=Jm1 e;exact⟨j,h1,h,h2,h3,h4⟩
theorem atI_last{α:Type}(xs:List α)(v:α):atI (xs++[v]) (-1)=some v:=by
 have hl:(xs++[v]).length=xs.length+1:=by simp
 have e:ixN (xs++[v]).length (-1)=some xs.length:=by
  unfold ixN;rw[hl,if_neg (by decide),if_pos (by omega)];congr 1;omega
 unfold atI;rw[e];show(xs++[v])[xs.length]? =some v;simp
noncomputable def PlainIx(b:Expr):Prop:=∀o i,subscripted b false o i=operate [o,i] (getItem o i)
noncomputable def IxR(X:Cx)(r:R2):Prop:=
 ∀(value slice:Expr) (pins:List (Addr×Obj)) (s:Shared) (σ:St) (H:Hp) (x y:V) (v u:Value) (Q:VK),Inv X pins σ H s->RelV x v->RelV y u->r x y H Q->
  subscripted slice false v u=operate [v,u] (getItem v u)->wpAny (model X.prog X.w) X.A (subscriptTail value slice v u) (EP X pins σ Q) X.xe s
noncomputable def MtR(X:Cx)(id:String)(r:V->List V->Hp->VK->Prop):Prop:=
 ∀(pins:List (Addr×Obj)) (s:Shared) (σ:St) (H:Hp) (x:V) (xs:List V) (v:Value) (us:List Value) (Q:VK),Inv X pins σ H s->RelV x v->Vals xs us->r x xs H Q->
  wpAny (model X.prog X.w) X.A (call (.builtin id) (v::us)) (EP X pins σ Q) X.xe s
section
variable {X:Cx} {a b:Expr} {ta tb:TE} {pos:Pos}
theorem IxR.or{r r':R2}(h:IxR X r)(h':IxR X r'):IxR X (λx y H Q=>r x y H Q\/r' x y H Q):=by
 intro value slice pins s σ H x y v u Q I rx ry q hs;rcases q with q|q
 ·exact h value slice pins s σ H x y v u Q I rx ry q hs
 ·exact h' value slice pins s σ H x y v u Q I rx ry q hs
theorem MtR.or{id:String}{r r':V->List V->Hp->VK->Prop}(h:MtR X id r)(h':MtR X id r'):MtR X id (λx xs H Q=>r x xs H Q\/r' x xs H Q):=by
 intro pins s σ H x xs v us Q I rx rs q;rcases q with q|q
 ·exact h pins s σ H x xs v us Q I rx rs q
 ·exact h' pins s σ H x xs v us Q I rx rs q
theorem Js6{r:R2}(hr:IxR X r)(ha:PE X a ta)(hb:PE X b tb)(hs:PlainIx b):PE X (.Subscript a b pos) (tOp r ta tb):=by
 intro pins s σ H Q I h;exact Subscript_ (binT ha hb I h λv u s2 x y H2 I2 rx ry q=>hr a b pins s2 σ H2 x y v u Q I2 rx ry q (hs _ _))
noncomputable def rIxL(K:PySem.W.Frag):R2:=λx y H Q=>∃p xs i v,x=.ref p/\y=.int i/\SqL K H p xs/\atI xs i=some v/\Q v H
noncomputable def rIxT(K:PySem.W.Frag):R2:=λx y H Q=>∃p xs i v,x=.ref p/\y=.int i/\SqT K H p xs/\atI xs i=some v/\Q v H
noncomputable def rIxS:R2:=λx y H Q=>∃z i c,x=.str z/\y=.int i/\z.length<=sizeLine/\atI z.cps.toList i=some c/\Q (.str ⟨#[c]⟩) H
theorem Jm0:IxR X (rIxL X.K):=by
 intro value slice pins s σ H x y v u Q I rx ry h hs;obtain⟨p,xs,i,z,rfl,rfl,hq,he,q⟩:=h;cases rx;obtain⟨t,rfl⟩:=ry;obtain⟨its,r,pl,hz⟩:=I.list hq;obtain⟨j,h1,h2,h3,h4,h5⟩:=Jit he;obtain⟨w,ew,rw'⟩:=r.get h2;have hl:=r.length;have hn:=Jfg;have fin:EP X pins σ Q w s:=⟨z,H,I,rw',q⟩
 by_cases h0:0<=i
 ·have hj:i.toNat=j:=by
   rw[seqIndex_of h0 h5]at h1;exact Option.some.inj h1
  exact item_listR pl.isList h0 (by omega) (by rw[hj];simpa using ew) fin hs
 ·have hj:(i+(its.toArray.size:Int)).toNat=j:=by
   rw[seqIndex_neg (by omega) h4]at h1;rw[List.size_toArray,<-hl];exact Option.some.inj h1
  exact subscriptTail_builtinR (x:=w) pl.isList.typeIs slot_list_getitem.lookup
   (wpAny_getItem_list_neg (Q:=λr s'=>r=w/\EP X pins σ Q r s') pl.isList (by omega) (by rw[List.size_toArray]<;>omega) (by omega) (by rw[hj];simpa using ew) ⟨rfl,fin⟩) hs
theorem Jxp:IxR X (rIxT X.K):=by
 intro value slice pins s σ H x y v u Q I rx ry h hs;obtain⟨p,xs,i,z,rfl,rfl,hq,he,q⟩:=h;cases rx;obtain⟨t,rfl⟩:=ry;obtain⟨its,r,pl,hz⟩:=I.tuple hq;obtain⟨j,h1,h2,h3,h4,h5⟩:=Jit he;obtain⟨w,ew,rw'⟩:=r.get h2;have hl:=r.length;have hn:=Jfg;have fin:EP X pins σ Q w s:=⟨z,H,I,rw',q⟩
 exact subscriptTail_builtinR (x:=w) pl.typeIs slot_tuple_getitem.lookup
  (getItem_tuple (j:=j) (Q:=λr s'=>r=w/\EP X pins σ Q r s') pl (by omega) (by omega) (by rw[List.size_toArray,<-hl];exact h1) (by simpa using ew) ⟨rfl,fin⟩) hs
theorem Jxq:IxR X rIxS:=by
 intro value slice pins s σ H x y v u Q I rx ry h hs;obtain⟨z,i,c,rfl,rfl,hz,he,q⟩:=h;obtain⟨t,rfl⟩:=rx;obtain⟨t',rfl⟩:=ry;obtain⟨j,h1,h2,h3,h4,h5⟩:=Jit he;have hl:z.cps.toList.length=z.length:=by simp[Str.length]
 rw[hl]at h1 h4 h5;have hn:=Jfg;exact tail_any (typeIs_str s z t) slot_str_getitem.lookup (getItem_str (c:=c) (by
  have e1:decide (i< -(2^63:Int))=false:=decide_eq_false (by omega);have e2:decide (i≥2^63)=false:=decide_eq_false (by omega);rw[e1,e2,Bool.or_false]) (by rw[h1];simpa using h2) ⟨.str ⟨#[c]⟩,H,I.tok _,⟨_,rfl⟩,q⟩) hs
theorem Jkh(its:List Value)(n j:Nat)(u:Value):Obj.mapSeq (·.setIfInBounds j u) {cls:=.type "list",data:=.seq its.toArray n}={cls:=.type "list",data:=.seq (its.set j u).toArray n}:=by
 simp[Obj.mapSeq]
theorem Inv.lst{pins:List (Addr×Obj)}{σ:St}{H:Hp}{s:Shared}{p:Addr}{xs:List V}(I:Inv X pins σ H s)(h:H p=some (.lst xs)):
  ∃(its:List Value) (n:Nat),Vals xs its/\s.heap.get? p=some {cls:=.type "list",data:=.seq its.toArray n}/\xs.length<=sizeLine:=by
 obtain⟨z,its,n,r,e⟩:=I.hok p _ h;exact⟨its,n,r,e,z⟩
theorem Inv.lstUpd{pins:List (Addr×Obj)}{σ:St}{H:Hp}{s:Shared}{p:Addr}{xs ys:List V}{its its':List Value}{n n':Nat}{f:Obj->Obj}(I:Inv X pins σ H s)(h:H p=some (.lst xs))
  (ho:s.heap.get? p=some {cls:=.type "list",data:=.seq its.toArray n})(hf:f {cls:=.type "list",data:=.seq its.toArray n}={cls:=.type "list",data:=.seq its'.toArray n'})(r:Vals ys its')(hz:ys.length<=sizeLine)(t:Nat):
  Inv X pins σ (upd H p (.lst ys)) {s with heap:=s.heap.update p f,toks:=t}:=by
 have e:(s.heap.update p f).get? p=some {cls:=.type "list",data:=.seq its'.toArray n'}:=by
  rw[Heap.get?_update_self f ho (by rw[hf]<;>rfl),hf]
 refine I.write (x:=p) (e:=p) (by rw[h];trivial) (.inl rfl) (λb u hb q=>(Heap.get?_update_other _ _ (Ne.symm hb)).trans q) ⟨_,e⟩ ?_;exact⟨hz,its',n',r,e⟩
noncomputable def rSetL:V->V->V->Hp->(Hp->Prop)->Prop:=λo i v H Q=>∃p xs k j,o=.ref p/\i=.int k/\H p=some (.lst xs)/\ixN xs.length k=some j/\Q (upd H p (.lst (xs.set j v)))
theorem Jod:PSet X rSetL:=by
 intro pins s σ H o i v ov iv u Q I ro ri rv h;obtain⟨p,xs,k,j,rfl,rfl,hp,hj,q⟩:=h;cases ro;obtain⟨t,rfl⟩:=ri;obtain⟨its,n,r,ho,hz⟩:=I.lst hp;obtain⟨h1,h2,h3,h4⟩:=Jm1 hj;have hl:=r.length;have hn:=Jfg;have I':Inv X pins σ (upd H p (.lst (xs.set j v))) {s with heap:=s.heap.update p (Obj.mapSeq (·.setIfInBounds j u))}:=
  I.lstUpd hp ho (Jkh its n j u) (r.set rv j) (by rw[List.length_set];exact hz) s.toks
 by_cases h0:0<=k
 ·have hk:k.toNat=j:=by
   rw[seqIndex_of h0 h4]at h1;exact Option.some.inj h1
  exact PySem.W.ki_setAt ho h0 (by omega) (by rw[List.size_toArray,<-hl];exact h4) (by rw[hk];exact⟨_,I',q⟩)
 ·have hk:(k+(its.toArray.size:Int)).toNat=j:=by
   rw[seqIndex_neg (by omega) h3]at h1;rw[List.size_toArray,<-hl];exact Option.some.inj h1
  exact PySem.W.ki_setBack ho (by omega) (by rw[List.size_toArray,<-hl];exact h3) (by omega) (by rw[hk];exact⟨_,I',q⟩)
theorem Jg1(lo hi:Option Int)(n:Nat):(sliceBounds lo hi none n).1=((HT.sIx n 0 lo:Nat):Int)/\(sliceBounds lo hi none n).2.1=((HT.sIx n n hi:Nat):Int)/\(sliceBounds lo hi none n).2.2=1:=by
 refine⟨?_,?_,rfl⟩
 ·cases lo with
  |none=>simp[sliceBounds,HT.sIx]
  |some i=>
   simp only[sliceBounds,HT.sIx,Option.getD_none,show(1:Int)>0 by decide,if_true]
   by_cases h:i<0
   ·simp only[h,if_true]<;>omega
   ·simp only[h,if_false]<;>omega
 ·cases hi with
  |none=>simp[sliceBounds,HT.sIx]
  |some i=>
   simp only[sliceBounds,HT.sIx,Option.getD_none,show(1:Int)>0 by decide,if_true]
   by_cases h:i<0
   ·simp only[h,if_true]<;>omega
   ·simp only[h,if_false]<;>omega
theorem Jf7(its:List Value)(lo hi:Option Int):slicePick its.toArray lo hi none=((its.drop (HT.sIx its.length 0 lo)).take (HT.sIx its.length its.length hi-HT.sIx its.length 0 lo)).toArray:=by
 obtain⟨h1,h2,h3⟩:=Jg1 lo hi its.toArray.size;unfold slicePick;rw[h1,h2,h3];simp only[sliceRange_one,pick_run,List.size_toArray]<;>rfl
noncomputable def rSlL(K:PySem.W.Frag):V->Option Int->Option Int->Hp->VK->Prop:=λx lo hi H Q=>∃a xs,x=.ref a/\SqL K H a xs/\∀p,H p=none->Q (.ref p) (upd H p (.lst (cutV xs lo hi)))
theorem Jlj:SlR X (rSlL X.K):=by
 intro pins s σ H x v vl vu lo hi sl Q I rx hs pl pu h;obtain⟨a,xs,rfl,hx,q⟩:=h;cases rx;obtain⟨its,r,ht,hz⟩:=I.list hx;have hlen:=r.length;refine⟨"list",_,slot_list_getitem.lookup,ht.isList.typeIs,?_⟩;refine wpAny_getItem_list_slice ht.isList hs pl pu .none (by simp) ?_ (by rw[List.size_toArray]<;>omega);rw[Jf7,<-hlen];refine⟨.ref s.heap.objs.size,_,I.laid (t':=s.toks) (o:=.lst (cutV xs lo hi)) (λb ob q=>Heap.get?_push_of_some _ q) (Nat.le_refl _) ?_,rfl,q _ (I.hok.fresh (Nat.le_refl _))⟩;exact⟨Nat.le_trans (Jfn xs lo hi) hz,_,0,(r.drop (HT.sIx xs.length 0 lo)).take (HT.sIx xs.length xs.length hi-HT.sIx xs.length 0 lo),Heap.get?_push_size _ rfl⟩
noncomputable def flatV:V->Bool
 |.non=>true
 |.bl _=>true
 |.int _=>true
 |.str _=>true
 |_=>false
noncomputable def eqV:V->V->Bool
 |.non,.non=>true
 |.bl a,.bl b=>a==b
 |.bl a,.int b=>(if a then 1 else 0)==b
 |.int a,.bl b=>a==(if b then 1 else 0)
 |.int a,.int b=>a==b
 |.str a,.str b=>a==b
 |_,_=>false
theorem Jx8{A:Around}{s:Shared}{y x:V}{u v:Value}(ry:RelV y u)(rx:RelV x v)(fy:flatV y=true)(fx:flatV x=true):SeqAt.EqAt A s u v (eqV y x):=by
 cases y with
 |non=>
  cases ry;cases x with
  |non=>cases rx;exact SeqAt.EqAt.same _
  |bl b=>cases rx;exact SeqAt.EqAt.none_bool b
  |int b=>obtain⟨t,rfl⟩:=rx;exact SeqAt.EqAt.none_int b t
  |str b=>obtain⟨t,rfl⟩:=rx;exact SeqAt.EqAt.none_str b t
  |_=>exact fx9 (show false=true from fx)
 |bl a=>
  cases ry;cases x with
  |non=>cases rx;exact SeqAt.EqAt.bool_none a
  |bl b=>cases rx;exact SeqAt.EqAt.bool_bool a b
  |int b=>obtain⟨t,rfl⟩:=rx;exact SeqAt.EqAt.bool_int a b t
  |str b=>obtain⟨t,rfl⟩:=rx;exact SeqAt.EqAt.bool_str a b t
  |_=>exact fx9 (show false=true from fx)
 |int a=>
  obtain⟨t',rfl⟩:=ry;cases x with
  |non=>cases rx;exact SeqAt.EqAt.int_none a t'
  |bl b=>cases rx;exact SeqAt.EqAt.int_bool a t' b
  |int b=>obtain⟨t,rfl⟩:=rx;exact SeqAt.EqAt.int_int a t' b t
  |str b=>obtain⟨t,rfl⟩:=rx;exact SeqAt.EqAt.int_str a t' b t
  |_=>exact fx9 (show false=true from fx)
 |str a=>
  obtain⟨t',rfl⟩:=ry;cases x with
  |non=>cases rx;exact SeqAt.EqAt.str_none a t'
  |bl b=>cases rx;exact SeqAt.EqAt.str_bool a t' b
  |int b=>obtain⟨t,rfl⟩:=rx;exact SeqAt.EqAt.str_int a t' b t
  |str b=>obtain⟨t,rfl⟩:=rx;exact SeqAt.EqAt.str_str a t' b t
  |_=>exact fx9 (show false=true from fx)
 |_=>exact fx9 (show false=true from fy)
theorem Jek:CallR X (.builtin "len") (λxs H Q=>∃p ys,xs=[.ref p]/\(SqL X.K H p ys\/SqT X.K H p ys)/\Q (.int ys.length) H):=by
 intro pins s σ H xs us Q I r h;obtain⟨p,ys,rfl,hq,q⟩:=h;obtain⟨u,rfl,rx⟩:=Jdi r;cases rx;have hn:=Jfg;rcases hq with hq|hq
 ·obtain⟨its,r',pl,hz⟩:=I.list hq;have hlen:=r'.length;exact Calls.call_len_list pl.isList (by simp only[List.size_toArray]<;>omega) ⟨.int ys.length,H,I.tok _,⟨s.toks+1,by rw[List.size_toArray,hlen]⟩,q⟩
 ·obtain⟨its,r',pl,hz⟩:=I.tuple hq;have hlen:=r'.length;exact len_tuple pl (by simp only[List.size_toArray]<;>omega) ⟨.int ys.length,H,I.tok _,⟨s.toks+1,by rw[List.size_toArray,hlen]⟩,q⟩
theorem Jhv:CallR X (.builtin "len") (λxs H Q=>∃z,xs=[.str z]/\z.length<=sizeLine/\Q (.int z.length) H):=by
 intro pins s σ H xs us Q I r h;obtain⟨z,rfl,hz,q⟩:=h;obtain⟨u,rfl,t,rfl⟩:=Jdi r;have hn:=Jfg;exact len_str (by omega) ⟨.int z.length,H,I.tok _,⟨_,rfl⟩,q⟩
theorem CallR.or{f:Value}{r r':List V->Hp->VK->Prop}(h:CallR X f r)(h':CallR X f r'):CallR X f (λxs H Q=>r xs H Q\/r' xs H Q):=by
 intro pins s σ H xs us Q I rs q;rcases q with q|q
 ·exact h pins s σ H xs us Q I rs q
 ·exact h' pins s σ H xs us Q I rs q
theorem Jgp:CallR X (.type "tuple") (λxs H Q=>∃p ys,xs=[.ref p]/\((SqL X.K H p ys/\∀l,H l=none->Q (.ref l) (upd H l (.tup ys)))\/(SqT X.K H p ys/\Q (.ref p) H))):=by
 intro pins s σ H xs us Q I r h;obtain⟨p,ys,rfl,h⟩:=h;obtain⟨u,rfl,rx⟩:=Jdi r;cases rx;rcases h with⟨hq,q⟩|⟨hq,q⟩
 ·obtain⟨its,r',pl,hz⟩:=I.list hq;have hlen:=r'.length;refine call_tuple_list pl.isList (λh' kp=>?_) (by simp only[List.size_toArray]<;>omega);have I1:Inv X pins σ H {s with heap:=h'}:=I.kept (t':=s.toks) kp;have I2:Inv X pins σ (upd H h'.objs.size (.tup ys)) {s with heap:=h'.push {cls:=.type "tuple",data:=.seq its.toArray}}:=
   I1.laid (t':=s.toks) (λb o e=>Heap.get?_push_of_some _ e) (Nat.le_refl _) (show ObjOk X.prog X.w _ _ _ (.tup ys)from⟨hz,its,r',IsTup.new _ _⟩)
  exact⟨.ref h'.objs.size,_,I2,rfl,q _ (I1.hok.fresh (Nat.le_refl _))⟩
 ·obtain⟨its,r',pl,hz⟩:=I.tuple hq;exact call_tuple_same pl ⟨.ref p,H,I,rfl,q⟩
noncomputable def tyV(K:PySem.W.Frag)(T:String)(x:V)(H:Hp):Prop:=match x with
 |.str _=>T="str"
 |.int _=>T="int"
 |.ref p=>(T="list"/\∃xs,SqL K H p xs)\/(T="tuple"/\∃o,K.lookup p=some o/\o.cls=.type "tuple"/\o.dict=none)\/
   (T="dict"/\((∃kvs,H p=some (.dK kvs))\/∃kvs,H p=some (.dT kvs)))\/(T="set"/\∃S n,H p=some (.set S n))
 |_=>False
theorem Jp9{pins:List (Addr×Obj)}{σ:St}{H:Hp}{s:Shared}{T:String}{x:V}{v:Value}(I:Inv X pins σ H s)(r:RelV x v)(ty:tyV X.K T x H):
  s.TypeIs v T/\∀a,v=.ref a->∃ob,s.heap.get? a=some ob/\ob.dict=none:=by
 cases x with
 |str z=>
  obtain⟨t,rfl⟩:=r;cases(show T="str" from ty);exact⟨typeIs_str s z t,λ_ e=>nomatch e⟩
 |int i=>
  obtain⟨t,rfl⟩:=r;cases(show T="int" from ty);exact⟨typeIs_int s i t,λ_ e=>nomatch e⟩
 |ref p=>
  cases r;rcases ty with⟨rfl,xs,hq⟩|⟨rfl,o,hk,hc,hd⟩|⟨rfl,hk⟩|⟨rfl,S,n,hk⟩
  ·obtain⟨its,_,pl,_⟩:=I.list hq;refine⟨pl.isList.typeIs,λa e=>?_⟩;cases e;obtain⟨o,n,e,c,hd,_⟩:=pl;exact⟨o,e,hd⟩
  ·refine⟨⟨o,I.kIn p o hk,hc⟩,λa e=>?_⟩;cases e;exact⟨o,I.kIn _ o hk,hd⟩
  ·have z:∃o,s.heap.get? p=some o/\o.ExactDict:=by
    rcases hk with⟨kvs,hk⟩|⟨kvs,hk⟩
    ·obtain⟨_,_,_,_,o,_,_,e,ex,_⟩:=I.hok p _ hk;exact⟨o,e,ex⟩
    ·obtain⟨_,_,_,_,o,_,_,e,ex,_⟩:=I.hok p _ hk;exact⟨o,e,ex⟩
   obtain⟨o,e,ex⟩:=z;refine⟨⟨o,e,ex.1⟩,λa e2=>?_⟩;cases e2;exact⟨o,e,ex.2.1⟩
  ·obtain⟨o,_,_,_,e,ex,_⟩:=I.hok p _ hk;refine⟨⟨o,e,ex.1⟩,λa e2=>?_⟩;cases e2;exact⟨o,e,ex.2.1⟩
 |_=>exact False.elim ty
noncomputable def tBM0(K:PySem.W.Frag)(T:String)(r:V->List V->Hp->VK->Prop)(to:TE):TE:=λσ H Q=>to σ H λx H1=>tyV K T x H1/\r x [] H1 Q
noncomputable def tBM(K:PySem.W.Frag)(T:String)(r:V->List V->Hp->VK->Prop)(to:TE)(t:TA):TE:=λσ H Q=>to σ H λx H1=>tyV K T x H1/\t σ H1 λxs H2=>r x xs H2 Q
variable {o e:Expr} {es:List Expr} {to:TE} {t:TA} {name:Str} {apos cpos:Pos} {T id:String} {r:V->List V->Hp->VK->Prop}
theorem Jwn(pa:PlainAttrs T)(slot:Slot T name id)(hty:typeOf (.builtin id)=pure (.type "method_descriptor"))(hm:MtR X id r)(ho:PE X o to)
  (hbase:attributeBase o name X.env (eval o X.env)=eval o X.env:=by rfl)(hline:(apos.endLine==cpos.line)=true:=by rfl):PE X (.Call (.Attribute o name apos) [] [] cpos) (tBM0 X.K T r to):=by
 intro pins s σ H Q I h;refine wpAny_Call_method0_late hbase hline (thn (ho pins s σ H _ I h) λv s1 ⟨x,H1,I1,r1,ty,q1⟩=>?_);obtain⟨h1,h2⟩:=Jp9 I1 r1 ty;exact⟨T,id,pa,slot,hty,h1,h2,Calls.callWith_builtin rfl (PySem.evalArgs_none (hm pins s1 σ H1 x [] v [] Q I1 r1 .nil q1))⟩
theorem Jwo(pa:PlainAttrs T)(slot:Slot T name id)(hty:typeOf (.builtin id)=pure (.type "method_descriptor"))(hm:MtR X id r)(ho:PE X o to)(ha:PA X (e::es) t)
  (hbase:attributeBase o name X.env (eval o X.env)=eval o X.env:=by rfl)
  (hfew:((backTo cpos (starEach (e::es) X.env)).all (λx=> !x.1)&&(backToKw cpos (keywordEach [] X.env)).all (λx=>x.1.isSome)
   &&decide ((e::es).length+([]:List Keyword).length+(if([]:List Keyword).isEmpty then 0 else 1)<30))=true:=by rfl)
  (hline:(apos.endLine==cpos.line)=true:=by rfl)(hs:starEach (e::es) X.env=(false,eval e X.env)::starEach es X.env:=by rfl)(hplain:(backTo cpos (starEach es X.env)).any (·.1)=false:=by rfl):
  PE X (.Call (.Attribute o name apos) (e::es) [] cpos) (tBM X.K T r to t):=by
 intro pins s σ H Q I h;refine wpAny_Call_method_late hbase hfew hline rfl (thn (ho pins s σ H _ I h) λv s1 ⟨x,H1,I1,r1,ty,q1⟩=>?_);obtain⟨h1,h2⟩:=Jp9 I1 r1 ty;refine⟨T,id,pa,slot,hty,h1,h2,?_⟩;have hA:=ha cpos pins s1 σ H1 _ I1 q1;rw[hs]at hA ⊢;refine Calls.callWith_builtin (by show(false||(backTo cpos (starEach es X.env)).any (·.1))=false;rw[hplain]<;>rfl) (Calls.evalArgs_plain ?_);exact thn hA λus s2 ⟨vs,H2,I2,r2,q2⟩=>hm pins s2 σ H2 x vs v us Q I2 r1 r2 q2
end
end L2
namespace L2
open PySem PySem.Spec PyProof.Rows
noncomputable def MtM(X:Cx)(id:String)(r:V->List V->Hp->VK->Prop):Prop:=
 ∀(pins:List (Addr×Obj)) (s:Shared) (σ:St) (H:Hp) (x:V) (xs:List V) (v:Value) (us:List Value) (Q:VK),Inv X pins σ H s->RelV x v->Vals xs us->r x xs H Q->
  wpAny (model X.prog X.w) X.A (call (.builtin id) (v::us)) (EP X pins σ Q) X.xe s
theorem Vals.one:∀{x:V} {us:List Value},Vals [x] us->∃u,us=[u]/\RelV x u
 |_,_,.cons r .nil=>⟨_,rfl,r⟩
theorem Vals.two:∀{x y:V} {us:List Value},Vals [x,y] us->∃u v,us=[u,v]/\RelV x u/\RelV y v
 |_,_,_,.cons r (.cons q .nil)=>⟨_,_,rfl,r,q⟩
theorem Vals.zero:∀{us:List Value},Vals [] us->us=[]
 |_,.nil=>rfl
theorem Vals.dropLast{xs:List V}{us:List Value}(h:Vals xs us):Vals xs.dropLast us.dropLast:=by
 induction h with
 |nil=>exact .nil
 |cons r t ih=>
  cases t with
  |nil=>exact .nil
  |cons q t'=>exact .cons r ih
theorem Vals.eraseIdx:∀{xs:List V} {us:List Value} (i:Nat),Vals xs us->Vals (xs.eraseIdx i) (us.eraseIdx i)
 |_,_,_,.nil=>.nil
 |_,_,0,.cons _ t=>t
 |_,_,i+1,.cons r t=>.cons r (Vals.eraseIdx i t)
theorem Vals.reverse{xs:List V}{us:List Value}(h:Vals xs us):Vals xs.reverse us.reverse:=by
 induction h with
 |nil=>exact .nil
 |cons r t ih=>rw[List.reverse_cons,List.reverse_cons];exact Vals.append ih (.cons r .nil)
theorem Vals.rep{xs:List V}{us:List Value}(h:Vals xs us):∀k:Nat,Vals (List.replicate k xs).flatten (List.replicate k us).flatten
 |0=>.nil
 |k+1=>by
  rw[List.replicate_succ,List.replicate_succ,List.flatten_cons,List.flatten_cons];exact Vals.append h (Vals.rep h k)
theorem Jkm{α:Type}(l:List α):l.eraseIdx (l.length-1)=l.dropLast:=by
 induction l with
 |nil=>rfl
 |cons a r ih=>
  cases r with
  |nil=>rfl
  |cons b r=>
   have e:(a::b::r).length-1=((b::r).length-1)+1:=by
    have h1:(a::b::r).length=r.length+2:=rfl;have h2:(b::r).length=r.length+1:=rfl;omega
   rw[e,List.eraseIdx_cons_succ,ih]
   all_goals rfl
theorem Jfl(its:List Value):∀(k:Nat) (acc:List Value),
  List.foldl (λx1 x2=>x1++x2) acc.toArray (List.replicate k its.toArray)=(acc++(List.replicate k its).flatten).toArray
 |0,acc=>by simp
 |k+1,acc=>by
  have e:acc.toArray++its.toArray=(acc++its).toArray:=by simp
  have e2:(acc++its)++(List.replicate k its).flatten=acc++(List.replicate (k+1) its).flatten:=by
   rw[List.replicate_succ,List.flatten_cons,List.append_assoc]
  rw[<-e2,<-Jfl its k (acc++its),<-e,List.replicate_succ,List.foldl_cons]
section
variable {X:Cx} {pins:List (Addr×Obj)} {σ:St} {H:Hp} {s:Shared} {l b:Addr} {xs ys zs:List V}
theorem Inv.lset{its its':List Value}{n:Nat}{f:Array Value->Array Value}{t':Nat}(I:Inv X pins σ H s)(hH:H l=some (.lst xs))
  (e:s.heap.get? l=some {cls:=.type "list",data:=.seq its.toArray n})(hf:f its.toArray=its'.toArray)(hv:Vals ys its')(hz:ys.length<=sizeLine):
  Inv X pins σ (upd H l (.lst ys)) {s with heap:=s.heap.update l (Obj.mapSeq f),toks:=t'}:=by
 have q:=PySem.IsL.update e f;rw[hf]at q;refine I.write (x:=l) (e:=l) (by rw[hH];exact trivial) (.inl rfl) (λb' u hb hu=>(Heap.get?_update_other s.heap (Obj.mapSeq f) (Ne.symm hb)).trans hu) ⟨_,q⟩ ?_;exact⟨hz,its',_,hv,q⟩
theorem Inv.lnew{its:List Value}{t':Nat}(I:Inv X pins σ H s)(hv:Vals ys its)(hz:ys.length<=sizeLine):
  Inv X pins σ (upd H s.heap.objs.size (.lst ys)) {s with heap:=s.heap.push {cls:=.type "list",data:=.seq its.toArray},toks:=t'}:=
 I.laid (λ_ _ q=>Heap.get?_push_of_some _ q) (Nat.le_refl _) ⟨hz,its,0,hv,Heap.get?_push_size _ rfl⟩
theorem Inv.fresh(I:Inv X pins σ H s):H s.heap.objs.size=none:=I.hok.fresh (Nat.le_refl _)
theorem Inv.lstM(I:Inv X pins σ H s)(hH:H l=some (.lst xs)):xs.length<=sizeLine/\∃(its:List Value) (n:Nat),Vals xs its/\xs.length=its.length/\s.heap.get? l=some {cls:=.type "list",data:=.seq its.toArray n}:=by
 obtain⟨z,its,n,r,e⟩:=I.hok l _ hH;exact⟨z,its,n,r,r.length,e⟩
theorem notLongL{n:Nat}(h:n<=sizeLine):Builtin.List.listTooLong n=false:=by
 unfold Builtin.List.listTooLong;exact decide_eq_false (by omega)
end
section
variable {X:Cx}
noncomputable def rAppend:V->List V->Hp->VK->Prop:=λx vs H Q=>∃l xs y,x=.ref l/\vs=[y]/\H l=some (.lst xs)/\xs.length<sizeLine/\Q .non (upd H l (.lst (xs++[y])))
theorem Jmn:MtM X "list.append" rAppend:=by
 intro pins s σ H x vs v us Q I rx rv h;obtain⟨l,xs,y,rfl,rfl,hH,hz,q⟩:=h;cases rx;obtain⟨u,rfl,ru⟩:=rv.one;obtain⟨z,its,n,r,hl,e⟩:=I.lstM hH;refine call_meets F.slot_list_append ⟨_,e,rfl⟩ F.entry_list_append (F.args_list_append_2 _ _) (PySem.list_append l its.toArray n u (by rw[List.size_toArray];omega)) ⟨e,?_⟩;refine⟨.non,_,I.lset (its':=its++[u]) hH e (by simp) (r.append (.cons ru .nil)) ?_,rfl,q⟩;rw[List.length_append,List.length_singleton];omega
noncomputable def rExtend:V->List V->Hp->VK->Prop:=λx vs H Q=>∃l b xs zs,x=.ref l/\vs=[.ref b]/\H l=some (.lst xs)/\H b=some (.lst zs)/\xs.length+zs.length<=sizeLine/\Q .non (upd H l (.lst (xs++zs)))
theorem Jxd:MtM X "list.extend" rExtend:=by
 intro pins s σ H x vs v us Q I rx rv h;obtain⟨l,b,xs,zs,rfl,rfl,hH,hB,hz,q⟩:=h;cases rx;obtain⟨u,rfl,ru⟩:=rv.one;cases ru;obtain⟨z,its,n,r,hl,e⟩:=I.lstM hH;obtain⟨z2,its2,n2,r2,hl2,e2⟩:=I.lstM hB;have hsz:its.toArray.size+its2.toArray.size<=sizeLine:=by rw[List.size_toArray,List.size_toArray];omega
 have hlong:¬(!its.toArray.isEmpty&&Builtin.List.listTooLong (its.toArray.size+its2.toArray.size))=true:=by
  rw[notLongL hsz,Bool.and_false];exact Bool.false_ne_true
 refine call_meets F.slot_list_extend ⟨_,e,rfl⟩ F.entry_list_extend (F.args_list_extend_2 _ _)
  (AutoSeq1.list_extend_list_list_0 l its.toArray n b its2.toArray n2 hlong (by rw[List.size_toArray];omega) (by omega)) ⟨e,e2,?_⟩
 refine⟨.non,_,I.lset (its':=its++its2) hH e (by simp) (r.append r2) ?_,rfl,q⟩;rw[List.length_append];omega
noncomputable def rPop:V->List V->Hp->VK->Prop:=λx vs H Q=>∃l xs y,x=.ref l/\vs=[]/\H l=some (.lst xs)/\xs[xs.length-1]? =some y/\Q y (upd H l (.lst xs.dropLast))
theorem Jxc:MtM X "list.pop" rPop:=by
 intro pins s σ H x vs v us Q I rx rv h;obtain⟨l,xs,y,rfl,rfl,hH,hy,q⟩:=h;cases rx;have hus:=rv.zero;subst hus;obtain⟨z,its,n,r,hl,e⟩:=I.lstM hH;obtain⟨u,hu,ru⟩:=r.get hy;have hy':its.toArray[its.toArray.size-1]? =some u:=by
  show its.toArray[its.length-1]? =some u;rw[<-Array.getElem?_toList,<-hl];exact hu
 refine call_meets F.slot_list_pop ⟨_,e,rfl⟩ F.entry_list_pop (F.args_list_pop_1 _) (MeetsSeq.list_pop_last l its.toArray n u hy' (by rw[List.size_toArray];omega)) ⟨e,?_⟩;refine⟨y,_,I.lset (its':=its.dropLast) hH e ?_ r.dropLast ?_,ru,q⟩
 ·show its.toArray.eraseIdxIfInBounds (its.toArray.size-1)=its.dropLast.toArray;rw[List.size_toArray,List.eraseIdxIfInBounds_toArray,Jkm]
 ·rw[List.length_dropLast];omega
noncomputable def rCat:R2:=λx y H Q=>∃l b xs zs,x=.ref l/\y=.ref b/\H l=some (.lst xs)/\H b=some (.lst zs)/\xs.length+zs.length<=sizeLine/\∀p,H p=none->Q (.ref p) (upd H p (.lst (xs++zs)))
theorem Jw2:OpR X (binaryOp .Add) rCat:=by
 intro pins s σ H x y v u Q I rx ry h;obtain⟨l,b,xs,zs,rfl,rfl,hH,hB,hz,q⟩:=h;cases rx;cases ry;obtain⟨z,its,n,r,hl,e⟩:=I.lstM hH;obtain⟨z2,its2,n2,r2,hl2,e2⟩:=I.lstM hB;refine PySem.P.add_list e e2 ?_ (by rw[List.size_toArray,List.size_toArray];omega);have ea:its.toArray++its2.toArray=(its++its2).toArray:=by simp
 rw[ea];exact⟨.ref _,_,I.lnew (t':=s.toks) (r.append r2) (by rw[List.length_append];omega),rfl,q _ I.fresh⟩
noncomputable def rRep:R2:=λx y H Q=>∃l k xs,x=.ref l/\y=.int k/\H l=some (.lst xs)/\ -(2^63)<=k/\k<2^63/\xs.length*k.toNat<=sizeLine/\
 ∀p,H p=none->Q (.ref p) (upd H p (.lst (List.replicate k.toNat xs).flatten))
theorem Jij{α:Type}(xs:List α)(k:Nat):(List.replicate k xs).flatten.length=k*xs.length:=by
 induction k with
 |zero=>simp
 |succ k ih=>rw[List.replicate_succ,List.flatten_cons,List.length_append,ih,Nat.succ_mul,Nat.add_comm]
theorem Jwy:OpR X (binaryOp .Mult) rRep:=by
 intro pins s σ H x y v u Q I rx ry h;obtain⟨l,k,xs,rfl,rfl,hH,h1,h2,hz,q⟩:=h;cases rx;obtain⟨t,rfl⟩:=ry;obtain⟨z,its,n,r,hl,e⟩:=I.lstM hH;have hlen:its.toArray.size*k.toNat<=sizeLine:=by rw[List.size_toArray,<-hl];exact hz
 have hcap:¬its.toArray.size*k.toNat>(2^63-1)/8:=by
  have:(sizeLine:Nat)<=(2^63-1)/8:=by decide
  omega
 have hfit:¬(!Builtin.List.listFitsIndex k)=true:=by
  rw[fitsIndex_both h1 h2];exact Bool.false_ne_true
 have hlong:¬Builtin.List.listTooLong (its.toArray.size*k.toNat)=true:=by
  rw[notLongL hlen];exact Bool.false_ne_true
 have hnew:List.foldl (λx1 x2=>x1++x2) #[] (List.replicate (if its.toArray.isEmpty=true then 0 else k.toNat) its.toArray)=(List.replicate k.toNat its).flatten.toArray:=by
  have f0:∀m:Nat,List.foldl (λx1 x2=>x1++x2) #[] (List.replicate m its.toArray)=(List.replicate m its).flatten.toArray:=λm=>by
   have:=Jfl its m [];rw[List.nil_append]at this;exact this
  rw[f0];cases its with
  |nil=>simp
  |cons a r'=>rw[if_neg (by simp)]
 refine wpAny_binaryOp_repeat_ref (T:="list") (U:="int") (by decide) ⟨_,e,rfl⟩ (λs'=>typeIs_int s' k t) noFill_list_mul F.fills_int_mul F.slot_int_rmul repeat_list F.slot_int_index.lookup
  (call_meets F.slot_int_rmul (typeIs_int s k t) F.entry_int_rmul (F.args_int_rmul_2 _ _) (int___rmul___int_list k t l its.toArray n)
   ⟨e,rfl,⟨_,e,rfl⟩,call_meets F.slot_list_mul ⟨_,e,rfl⟩ F.entry_list_mul (F.args_list_mul_2 _ _) (AutoListH.list___mul___list_int_3 l its.toArray n k t hfit hcap hlong) ⟨e,?_⟩⟩)
 rw[hnew];exact⟨.ref _,_,I.lnew (t':=s.toks) (r.rep k.toNat) (by rw[Jij,Nat.mul_comm];exact hz),rfl,q _ I.fresh⟩
end
section
variable {prog:Program} {w:World} {A:Around} {E:Value->Shared->Prop} {s:Shared}
set_option maxRecDepth 100000 in
end
section
variable {X:Cx}
end
end L2
namespace Att
open PySem PySem.W PySem.Calls PyProof.Rows
theorem Jfj{P:Params}{h:Heap}:∀(ns:List Int) (vs:List Value),WellAll P h vs (ns.map WData.int)->IntsAre vs ns:=by
 intro ns
 induction ns with
 |nil=>
  intro vs w;rw[List.map_nil]at w;cases w;exact .nil
 |cons n ns ih=>
  intro vs w;rw[List.map_cons]at w;cases w with
  |cons a b=>
   cases a;exact .cons _ _ (ih _ b)
theorem Jll{l:OpenLaw}{n:Nat}(hn:l.most=some n){P:Params}{h:Heap}{args:List WData}{vals:List Value}
  (hpre:l.row.toRowW.claim.pre args=true)(hwl:WellAll P h vals args):
  ∃a vs ns,vals=[Value.ref a]/\args=[WData.list (ns.map WData.int)]/\h.get? a=some {cls:=.type "list",data:=.seq vs.toArray}/\IntsAre vs ns/\ns.length<=n:=by
 have hsh:WShape.hasAll [] args [.list .int]=true:=(pre_splitW hpre).1;have hc:l.pre.holds [] {args:=args}=true:=(pre_splitW hpre).2;obtain⟨d,r,rfl,h1,h2⟩:=hasAllW_cons hsh;obtain rfl:=hasAllW_nil h2;obtain⟨xs,rfl,h3⟩:=hasW_list h1;obtain⟨ns,rfl⟩:=items_int h3;have hlen:ns.length<=n:=by
  unfold OpenLaw.pre at hc;have h4:(WTm.not (.lt (.lit (.int (n:Int))) (.len (.arg 0)))).holds [] {args:=[.list (ns.map .int)]}=true:=by
   have h4:=(holds_andW hc).1;rw[hn]at h4;exact h4
  have h5:=condW_of h4 (w_not (w_lt w_lit (w_len_list (w_arg rfl))));rw[List.length_map]at h5;refine Nat.le_of_not_lt λq=>?_;have q':(n:Int)<((ns.length:Nat):Int):=by omega
  first
   |(rw[decide_eq_true q']at h5;exact absurd h5 (by decide))
   |(simp at h5;omega)
 cases hwl with
 |cons w1 w2=>
  cases w2;cases w1 with
  |list ho hall=>exact⟨_,_,ns,rfl,rfl,ho,Jfj ns _ hall,hlen⟩
theorem Jl8(l:OpenLaw)(args:List WData):l.row.toRowW.claim.post args (.bool true) args=true:=
 postW_of (r:=l.row.toRowW) (X:=(true==true))
  (show WShape.has [] (.bool true) .bool=true by first|rfl|decide|simp[WShape.has,WShape.arms,WShape.armsAll])
  (show(WTm.eq .res (.lit (.bool true))).value [] {args:=args,res:=some (.bool true),after:=args}=some (.bool (true==true))from w_eq_bool (w_res rfl) w_lit) rfl
theorem Jis{l:OpenLaw}{n:Nat}{q:Program}{loose:List Str}{XP:(Str->Option Value)->Heap->Prop}{YP:World->Heap->Prop}{d:DefRec}
  (hn:l.most=some n)(hdf:d.params.defaults=[])
  (call:∀(w:World) (s₀ s₁:Shared) (mg mb:Str->Option Value) (fa:Addr) (o:Obj) (pm cd doc:Value) (a:Addr) (vs:List Value) (ns:List Int),
   Ground q loose [] XP w s₀ mg mb s₁.heap->YP w s₁.heap->
   s₁.heap.get? fa=some o->o.data=.func (docDef d.name d.params d.body d.scope pm cd doc)->s₁.heap.CodeRec cd d.name->mg d.name=some (.ref fa)->
   s₁.heap.get? a=some {cls:=.type "list",data:=.seq vs.toArray}->IntsAre vs ns->ns.length<=n->s₁.gens= #[]->
   codeAny (model l.prog w) callerA (.call (.ref fa) ⟨[.ref a],[]⟩) (λr s'=>r=.ok (.ret (.bool true))/\OldK s₁.heap s'.heap/\s'.os=s₁.os/\AllBare s'.gens) s₁):
  WalkO q loose XP YP l.row.toRowW d [] (λf vs=>PySem.call f vs):=by
 intro w s₀ s₁ mg mb G Y fa o pm cd doc dV kV ho hd hcd hD hmg hg args vals as hpre hlay hrd hwl hlo;obtain rfl:dV=.none:=Dflts.none hD hdf;obtain rfl:kV=.none:=Dflts.noKw hD;obtain⟨a,vs,ns,rfl,rfl,hobj,hints,hlen⟩:=Jll hn hpre hwl;refine enter_call (codeAny_mono (call w s₀ s₁ mg mb fa o pm cd doc a vs ns G Y ho (fd_plain hd) hcd hmg hobj hints hlen hg) λr s' hq=>?_);obtain⟨rfl,h2,h3,h4⟩:=hq;exact⟨.inl ⟨.bool true,.bool true,[],rfl,λ_=>rfl,.bool true,Jl8 l _,λ_=>⟨List.Pairwise.nil,λ_ hm=>(nomatch hm)⟩⟩,h2,h3,h4⟩
section
variable {prog:Program} {w:World} {A:Around} {E:Value->Shared->Prop} {s:Shared} {K:Frag}
end
end Att
namespace L2
open PySem PySem.Spec PyProof.Rows
theorem Jgu:∀{vs:List Value} {ns:List Int},IntsAre vs ns->Vals (ns.map V.int) vs
 |_,_,.nil=>.nil
 |_,_,.cons n t h=>.cons ⟨t,rfl⟩ (Jgu h)
noncomputable def Only(H:Hp):Prop:=∀b,H b=none\/∃o xs,H b=some (.frz o (.lst xs))
theorem Jpd{P:Program}{w:World}{K:PySem.W.Frag}{mg mb:Str->Option Value}{CX:CXT}{k:Nat}{fa a:Addr}{fd:FuncData}{x:Str}{sp:Sp}{s₁:Shared}{vs:List Value}{ns:List Int}
  (KX:K.In s₁.heap)(hns:s₁.heap.Ns mainGlobals mg)(hb:s₁.heap.Ns builtinsNs mb)(hbb:∀x:Str,x≠"__name__"->mb x=bootBuiltins x)(hlim:s₁.heap.NoLimit)(hg:s₁.gens= #[])
  (ha:s₁.heap.get? a=some {cls:=.type "list",data:=.seq vs.toArray})(hi:IntsAre vs ns)(hl:ns.length<=sizeLine)(hr:Room k callerA)
  (F:∀base:Heap,K.In base->base.Ns mainGlobals mg->FnOk P w K mg base CX k fa fd [x] sp)(hbind:∀(s:Shared) (u:Value),BindsTo s fd ⟨[u],[]⟩ [(x,u)])
  (hsp:∀H:Hp,Only H->SqL K H a (ns.map V.int)->sp [.ref a] H (λv _=>v=.bl true) λ_ _ _=>False)
  (hCX:∀H e s',CX [] H s₁ (λ_ _ _=>False) e s'->False):
  codeAny (model P w) callerA (.call (.ref fa) ⟨[.ref a],[]⟩) (λr s'=>r=.ok (.ret (.bool true))/\OldK s₁.heap s'.heap/\s'.os=s₁.os/\AllBare s'.gens) s₁:=by
 have rv:=Jgu hi;have lenV:=hi.length;have core:∀H:Hp,Only H->SqL K H a (ns.map V.int)->HOk P w H s₁.heap->(∀b,H b≠none->b=a)->(H a≠none->K.lookup a=none)->
   codeAny (model P w) callerA (.call (.ref fa) ⟨[.ref a],[]⟩) (λr s'=>r=.ok (.ret (.bool true))/\OldK s₁.heap s'.heap/\s'.os=s₁.os/\AllBare s'.gens) s₁:=by
  intro H hO hS hok hA hK;have base_of:∀{b:Addr} {o:Obj},s₁.heap.get? b=some o->H b=none->(hidT s₁.heap H).get? b=some o:=λe n=>Jpr e n;have noA:∀{b:Addr} {o:Obj} {es:Array DictEntry} {ep:Nat},s₁.heap.get? b=some o->o.data=.dict es ep->H b=none:=λ{b o es ep} e d=>by
   cases q:H b with
   |none=>rfl
   |some u=>
    have e':b=a:=hA b (by rw[q];simp);subst e';rw[ha]at e;cases e;have d':Data.seq vs.toArray _=Data.dict es ep:=d;cases d'
  have nsK:∀{b:Addr} {m:Str->Option Value},s₁.heap.Ns b m->(hidT s₁.heap H).Ns b m:=λ{b m} ⟨o,es,ep,e,d,r⟩=>⟨o,es,ep,base_of e (noA e d),d,r⟩
  have hKb:K.In (hidT s₁.heap H):=λb o e=>base_of (KX b o e) (by
   cases q:H b with
   |none=>rfl
   |some u=>
    have e':b=a:=hA b (by rw[q];simp);subst e';rw[hK (by rw[q];simp)]at e;cases e)
  have hM:Mod K mg (hidT s₁.heap H):=⟨hKb,nsK hns,⟨mb,nsK hb,hbb⟩,let⟨mc,h1,h2⟩:=hlim;⟨mc,nsK h1,h2⟩⟩
  have e0:Env0 P w K mg (hidT s₁.heap H) callerA [] s₁ H:=⟨rfl,hM,λb o e=>Jth e,Nat.le_of_eq (Jm6 _ _),trivial,λb hb=>absurd (show b∈([]:List Addr)from hb) (by simp),hok,.of_eq hg⟩
  refine codeAny_mono ((F _ hKb (nsK hns)).run callerA [] s₁ H ⟨[.ref a],[]⟩ [.ref a] [.ref a] _ _ hr e0 (hbind s₁ (.ref a)) (.cons rfl .nil) (hsp H hO hS)) λr s' h=>?_;cases r with
  |error e=>exact(hCX H e s' h).elim
  |ok fl=>
   cases fl with
   |next=>exact False.elim h
   |brk=>exact False.elim h
   |cont=>exact False.elim h
   |ret u=>
    obtain⟨v,H',os,bare,un,hok',r',q⟩:=h;have q':v=.bl true:=q;subst q';obtain rfl:u=Value.bool true:=r';refine⟨rfl,OldK.of_keep λb o e=>?_,os,bare⟩;cases q:H b with
    |none=>exact un.keep b o e q (by intro z;exact absurd (show b∈([]:List Addr)from z) (by simp)) (by simp)
    |some u=>
     rcases hO b with z|⟨ob,xs,z⟩
     ·rw[q]at z;cases z
     ·have z2:=un.frzs b ob _ z;obtain⟨e1,_⟩:=hok b _ z;obtain⟨e2,_⟩:=hok' b _ z2;rw[e]at e1;cases e1;exact e2
 cases hk:K.lookup a with
 |some o=>
  have e:=KX a o hk;rw[ha]at e;cases e;refine core (λ_=>none) (λ_=>.inl rfl) (.inr ⟨_,vs.toArray,_,hk,rfl,rfl,rfl,by rw[List.size_toArray,lenV];exact hl,by simpa using rv⟩) (λb u z=>by have z':(none:Option HO)=some u:=z;cases z') (λb z=>absurd rfl z) λz=>absurd rfl z
 |none=>
  refine core (λb=>if b=a then some (.frz {cls:=.type "list",data:=.seq vs.toArray} (.lst (ns.map V.int)))else none) (λb=>?_) (.inl (.inr ⟨{cls:=.type "list",data:=.seq vs.toArray},if_pos rfl⟩)) (λb u z=>?_) (λb z=>?_) λ_=>hk
  ·by_cases hb:b=a
   ·exact .inr ⟨_,_,if_pos hb⟩
   ·exact .inl (if_neg hb)
  ·by_cases hb:b=a
   ·have z':=(if_pos hb).symm.trans z;cases z';subst hb;exact⟨ha,by rw[List.length_map];exact hl,vs,_,rv,ha⟩
   ·have z':=(if_neg hb).symm.trans z;cases z'
  ·by_cases hb:b=a
   ·exact hb
   ·exact absurd (if_neg hb) z
end L2
namespace L2
open PySem PySem.Spec PyProof.Rows
theorem Jrg{l:PySem.W.OpenLaw}{n k:Nat}{q:Program}{loose:List Str}{XP:(Str->Option Value)->Heap->Prop}{YP:World->Heap->Prop}{d:DefRec}{K:Params->PySem.W.Frag}{CX:World->CXT}{sp:World->Sp}{x:Str}
  (hn:l.most=some n)(hn2:n<=sizeLine)(hdf:d.params.defaults=[])(hr:Room k callerA)
  (hY:∀(w:World) (h:Heap),YP w h->(K w.params).In h)
  (F:∀(w:World) (mg:Str->Option Value) (fa:Addr) (h:Heap),(K w.params).In h->h.Ns mainGlobals mg->mg d.name=some (.ref fa)->
   ∃fd:FuncData,(∀(s:Shared) (u:Value),BindsTo s fd ⟨[u],[]⟩ [(x,u)])/\
    ∀base:Heap,(K w.params).In base->base.Ns mainGlobals mg->FnOk l.prog w (K w.params) mg base (CX w) k fa fd [x] (sp w))
  (hsp:∀(w:World) (H:Hp) (a:Addr) (ns:List Int),ns.length<=n->Only H->SqL (K w.params) H a (ns.map V.int)->sp w [.ref a] H (λv _=>v=.bl true) λ_ _ _=>False)
  (hCX:∀(w:World) (H:Hp) (s:Shared) (e:Value) (s':Shared),CX w [] H s (λ_ _ _=>False) e s'->False):
  PySem.W.WalkO q loose XP YP l.row.toRowW d [] (λf vs=>PySem.call f vs):=by
 refine Att.Jis hn hdf λw s₀ s₁ mg mb fa o pm cd doc a vs ns G Y ho hd hcd hmg hobj hints hlen hg=>?_;have KX:=hY w _ Y;obtain⟨fd,hb,hF⟩:=F w mg fa _ KX G.T.g hmg;exact Jpd KX G.T.g G.T.b G.T.builtins G.T.nolimit hg hobj hints (Nat.le_trans hlen hn2) hr hF hb (λH hO hS=>hsp w H a ns hlen hO hS) λH e s'=>hCX w H s₁ e s'
end L2
namespace L2
open PySem PySem.Spec PyProof.Rows
noncomputable def defArgs(s:Stmt):Arguments:=match s with
 |.FunctionDef _ a _ _ _ _ _ _ _ _=>a
 |_=>{posonlyargs:=[],args:=[],vararg:=none,kwonlyargs:=[],kw_defaults:=[],kwarg:=none,defaults:=[]}
noncomputable def defBody(s:Stmt):List Stmt:=match s with
 |.FunctionDef _ _ b _ _ _ _ _ _ _=>b
 |_=>[]
noncomputable def defScope(s:Stmt):Scope:=match s with
 |.FunctionDef _ _ _ _ _ _ sc _ _ _=>sc
 |_=>{kind:=.function,names:=[],isGenerator:=false,isCoroutine:=false}
noncomputable abbrev CX0:CXT:=λ_ _ _ _ _ _=>False
noncomputable abbrev E0:XK:=λ_ _ _=>False
theorem Jwq{X:Cx}:Passes CX0 X E0:=λ_ _ _ _ _ _ _ h=>h.elim
structure Fun(K:PySem.W.Frag)(x qual:Str)(st:Stmt)(f:Addr)(fd:FuncData):Prop where
 ex:∃(oc:Value) (od:Option Addr) (kV doc pm:Value) (an:Option Addr) (cdv ct:Value) (osl:Array (Option Value)),
  fd=PySem.W.fnOf x qual (defArgs st) (defBody st) (defScope st) .none kV doc pm an cdv ct/\K.lookup f=some ⟨oc,od,.func fd,osl⟩/\PySem.W.codeIn K cdv qual=true
 kp:PySem.W.keepIn K (.ref f)=true
section
variable {P:Program} {w:World} {K:PySem.W.Frag} {mg:Str->Option Value} {base:Heap}
theorem Fun.ok{x qual:Str}{st:Stmt}{f:Addr}{fd:FuncData}{N ps:List Str}{k:Nat}{sp:Sp}(F:Fun K x qual st f fd)(S:FnScope N ps (defScope st))(len:∀vs H Q E,sp vs H Q E->vs.length=ps.length)
  (hbody:∀(cdv:Value) (A:Around) (outer:List Env) (s:Shared) (H:Hp) (vs:List V) (Q:VK) (E:XK),Room k (A.deeper (envOfC qual (defScope st) s.heap.objs.size f cdv))->sp vs H Q E->
   ∃t,PSs (cxOf CX0 P w K mg base N qual (defScope st) f cdv A outer s H E).nox (defBody st) t/\t {nx:=λ_ H'=>Q .non H',rt:=Q} (start N vs) H):FnOk P w K mg base CX0 (k+1) f fd ps sp:=by
 obtain⟨oc,od,kV,doc,pm,an,cdv,ct,osl,rfl,lk,hcd⟩:=F.ex;refine Jx1 lk hcd S len λA outer s H vs Q E hr hsp=>?_;obtain⟨t,h,q⟩:=hbody cdv A outer s H vs Q E hr hsp;exact⟨t,h.nox,q⟩
theorem Jxz{x qual:Str}{st:Stmt}{f:Addr}{oc:Value}{od an:Option Addr}{osl:Array (Option Value)}{kV doc pm cdv ct:Value}(l:K.lookup f=some ⟨oc,od,.func (PySem.W.fnOf x qual (defArgs st) (defBody st) (defScope st) .none kV doc pm an cdv ct),osl⟩)
  (c:PySem.W.codeIn K cdv qual=true)(k:PySem.W.keepIn K (.ref f)=true):Fun K x qual st f (PySem.W.fnOf x qual (defArgs st) (defBody st) (defScope st) .none kV doc pm an cdv ct):=⟨⟨oc,od,kV,doc,pm,an,cdv,ct,osl,rfl,l,c⟩,k⟩
end
section
variable {X:Cx}
theorem pv(i:Nat){x:Str}{pos:Pos}(hN:X.N[i]? =some x:=by rfl)(hv:Vis X.env.scope x:=by first|exact Or.inl rfl|exact Or.inr (Or.inl rfl)|exact Or.inr (Or.inr rfl))(hd:(x==("__debug__":Str))=false:=by decide)
  (hcd:(x==("__classdict__":Str))=false:=by decide):PE X (.Name x pos) (tVar i):=Jfd hN hv hd hcd
end
theorem iteF{A B:Prop}(h:B):if false=true then A else B:=by
 rw[if_neg Bool.false_ne_true];exact h
theorem iteT{A B:Prop}(h:A):if true=true then A else B:=by
 rw[if_pos rfl];exact h
noncomputable def Same(H H':Hp):Prop:=∀b o,H b=some o->H' b=some o
theorem Same.refl(H:Hp):Same H H:=λ_ _ h=>h
theorem Same.trans{H H1 H2:Hp}(a:Same H H1)(b:Same H1 H2):Same H H2:=λc o h=>b c o (a c o h)
theorem Same.free{H H':Hp}(e:Same H H'){l:Addr}(h:H' l=Option.none):H l=Option.none:=by
 cases q:H l with
 |none=>rfl
 |some o=>
  rw[e l o q]at h;cases h
theorem Same.seq{K:PySem.W.Frag}{H H':Hp}{a:Addr}{xs:List V}(e:Same H H')(h:SqL K H a xs):SqL K H' a xs:=by
 rcases h with(h|⟨o,h⟩)|h
 ·exact .inl (.inl (e _ _ h))
 ·exact .inl (.inr ⟨o,e _ _ h⟩)
 ·exact .inr h
end L2
namespace L2
open PySem PySem.Spec PyProof.Rows
section
variable {prog:Program} {w:World} {A:Around} {R:Result->Shared->Prop} {s:Shared}
theorem Jhp{elt target iter:Expr}{ifs:List Expr}{scope:Scope}{pos:Pos}{it acc:Value}{env:Env}{E:Value->Shared->Prop}(hE:∀e s,E e s->notedBy (model prog w) A env (λx s'=>R (.error x) s') e s)(I:Nat->Shared->Prop)
  (turn:∀n s,I n s->wpAny (model prog w) A (pyNext it) (λr s₁=>match r with
   |none=>R (.ok .next) s₁
   |some v=>wpAny (model prog w) A (letOwnedTupleGo target it v) (λ_ s₁'=>wpAny (model prog w) A (assign target env v) (λ_ s₂=>
     wpAny (model prog w) A (forIn ifs true λc r=>if r=true then do let ok<-isTrue c env (eval c env);pure (ForInStep.yield ok)else pure (ForInStep.yield r)) (λok s₃=>
      if ok=true then wpAny (model prog w) A (eval elt env) (λx s₄=>
       wpAny (model prog w) A (call (.builtin "list.append") [acc,x]) (λ_ s₅=>∃m,m<n/\I m s₅) E s₄) E s₃
      else∃m,m<n/\I m s₃) E s₂) E s₁') E s₁) E s)
  (n:Nat)(h:I n s):
  codeAny (model prog w) A (.compLoop (.ListComp elt [⟨target,iter,ifs,0⟩] scope pos) 0 it acc env) R s:=by
 refine codeAny_loop rfl I (λn s hI=>?_) n h;show wpAny _ A ((compTurn (.ListComp elt [⟨target,iter,ifs,0⟩] scope pos) 0 it acc env).onRaise (λx=>do noteFrame x env;theTreesLotGoes x)) _ _ s;refine wpAny_noted ?_;rw[compTurn_list];refine wpAny_bind (wpAny_standAt (wpAny_bind (wpAny_mono (turn n s hI) (λr s₁ h₁=>?_) hE)));cases r with
 |none=>exact wpAny_pure h₁
 |some v=>
  refine wpAny_bind (wpAny_mono h₁ (λ_ s₁' h₁'=>?_) hE);refine wpAny_bind (wpAny_mono h₁' (λ_ s₂ h₂=>wpAny_bind (wpAny_mono h₂ (λok s₃ h₃=>?_) hE)) hE);cases ok with
  |false=>exact wpAny_pure ⟨rfl,h₃⟩
  |true=>
   exact wpAny_bind (wpAny_bind (wpAny_mono h₃ (λx s₄ h₄=>wpAny_bind (wpAny_mono h₄ (λ_ s₅ h₅=>wpAny_pure (wpAny_pure ⟨rfl,h₅⟩)) hE)) hE))
end
noncomputable def clOf(cells:List (Str×Addr)):List (Str×NameKind)->List (Str×Addr)->List (Str×Addr)
 |[],acc=>acc
 |(n,k)::r,acc=>if k== .free then(match cells.lookup n with|some c=>clOf cells r ((n,c)::acc)|none=>clOf cells r acc)else clOf cells r acc
theorem Jbr(env:Env):∀(names:List (Str×NameKind)) (acc:List (Str×Addr)),(∀x∈names,x.2=.free->∃c,env.cells.lookup x.1=some c)->
  (forIn names acc (λ(x:Str×NameKind) (cs:List (Str×Addr))=>(match x with|(name,kind)=>if kind== .free then(do let c<-cellOf env name;pure (ForInStep.yield ((name,c)::cs)))else pure (ForInStep.yield cs):Sem (ForInStep (List (Str×Addr))))))=pure (clOf env.cells names acc)
 |[],acc,_=>rfl
 |(n,k)::r,acc,h=>by
  have hr:∀x∈r,x.2=.free->∃c,env.cells.lookup x.1=some c:=λx hx=>h x (List.mem_cons_of_mem _ hx);simp only[List.forIn_cons]
  by_cases hk:(k==NameKind.free)=true
  ·obtain⟨c,hc⟩:=h (n,k) List.mem_cons_self (by simpa using hk);have hc':env.cells.lookup n=some c:=hc;simp only[hk,if_true,cellOf,hc',pure_bind,clOf];exact Jbr env r _ hr
  ·simp only[hk,Bool.false_eq_true,if_false,pure_bind,clOf];exact Jbr env r _ hr
theorem Jcg{scope:Scope}{env:Env}(h:∀x∈scope.names,x.2=.free->∃c,env.cells.lookup x.1=some c):closureFor scope env=pure (clOf env.cells scope.names []):=by
 have e:=Jbr env scope.names [] h;unfold closureFor;simp only[bind_pure];refine Eq.trans ?_ e;congr 1
theorem Je2(cells:List (Str×Addr)):∀(names:List (Str×NameKind)) (acc:List (Str×Addr)),(∀p∈acc,cells.lookup p.1=some p.2)->∀p∈clOf cells names acc,cells.lookup p.1=some p.2
 |[],acc,h,p,hp=>h p hp
 |(n,k)::r,acc,h,p,hp=>by
  unfold clOf at hp;split at hp
  ·split at hp
   ·rename_i c hc;refine Je2 cells r _ (λq hq=>?_) p hp;rcases List.mem_cons.mp hq with e|e
    ·subst e;exact hc
    ·exact h q e
   ·exact Je2 cells r _ h p hp
  ·exact Je2 cells r _ h p hp
theorem Jc7(cells:List (Str×Addr)):∀(names:List (Str×NameKind)) (acc:List (Str×Addr)) (p),p∈acc->p∈clOf cells names acc
 |[],acc,p,h=>h
 |(n,k)::r,acc,p,h=>by
  unfold clOf;split
  ·split
   ·exact Jc7 cells r _ p (List.mem_cons_of_mem _ h)
   ·exact Jc7 cells r _ p h
  ·exact Jc7 cells r _ p h
theorem Je3(cells:List (Str×Addr)):∀(names:List (Str×NameKind)) (acc:List (Str×Addr)) (x:Str) (c:Addr),(x,NameKind.free)∈names->cells.lookup x=some c->(x,c)∈clOf cells names acc
 |[],acc,x,c,h,_=>by simp at h
 |(n,k)::r,acc,x,c,h,e=>by
  unfold clOf;rcases List.mem_cons.mp h with q|q
  ·cases q;simp only[beq_self_eq_true,if_true,e];exact Jc7 cells r _ _ List.mem_cons_self
  ·split
   ·split
    ·exact Je3 cells r _ x c q e
    ·exact Je3 cells r _ x c q e
   ·exact Je3 cells r _ x c q e
theorem Jgh{α:Type}{l:List (Str×α)}{x:Str}{c:α}(h:(x,c)∈l):∃c',l.lookup x=some c':=by
 induction l with
 |nil=>simp at h
 |cons p r ih=>
  obtain⟨y,d⟩:=p
  by_cases e:(x==y)=true
  ·exact⟨d,by simp[List.lookup_cons,e]⟩
  ·have e':(x==y)=false:=by simpa using e
   rcases List.mem_cons.mp h with q|q
   ·cases q;simp at e
   ·obtain⟨c',hc⟩:=ih q;exact⟨c',by simp[List.lookup_cons,e',hc]⟩
theorem Jch{cells:List (Str×Addr)}{names:List (Str×NameKind)}{x:Str}{c:Addr}(h:(clOf cells names []).lookup x=some c):cells.lookup x=some c:=
 Je2 cells names [] (λ_ h=>by simp at h) (x,c) (PySem.mem_of_lookup h)
theorem Jhs{cells:List (Str×Addr)}{names:List (Str×NameKind)}{x:Str}{c:Addr}(h:(x,NameKind.free)∈names)(e:cells.lookup x=some c):(clOf cells names []).lookup x=some c:=by
 obtain⟨c',hc⟩:=Jgh (Je3 cells names [] x c h e);rw[hc,<-Jch hc,e]
theorem ObjOk.upd_none{P:Program}{w:World}{H:Hp}{h:Heap}{a b:Addr}{o u:HO}(n:H b=none)(x:ObjOk P w H h a o):ObjOk P w (upd H b u) h a o:=
 x.stay (λ_ _ _ q=>q) (λc q=>by rw[Jaf (Jaj q n)];exact q) λc xs q=>by rw[Jaf (Jaj q n)];exact q
theorem Inv.adopt{X:Cx}{pins:List (Addr×Obj)}{σ:St}{H:Hp}{s:Shared}{d:Addr}{o:HO}(I:Inv X pins σ H s)(n:H d=none)(h1:X.s₀.heap.objs.size<=d)(h2:d≠X.env.locals)
  (h3:∀x c,X.env.cells.lookup x=some c->c≠d)(h4:∀p∈X.pn++pins,p.1≠d)(new:ObjOk X.prog X.w (upd H d o) s.heap d o):Inv X pins σ (upd H d o) s:=by
 have hH:HOk X.prog X.w (upd H d o) s.heap:=λb u e=>by
  by_cases hb:b=d
  ·subst hb;rw[Jbe]at e;cases e;exact new
  ·rw[Jaf hb]at e;exact(I.hok b u e).upd_none n
 have q:=I.step (h':=s.heap) (H':=upd H d o) (g':=s.gens) (d':=s.drawn) (t':=s.toks) (ch:=[d]) (λb hb=>by
   have e:b=d:=by simpa using hb
   subst e;exact⟨.inr h1,h2,h3,h4⟩) (λb o _ _ _ e _=>e) (λb o _ _ _ e _=>⟨o.slots,e⟩) (λb u hb e z=>by
   have hb':b≠d:=λe=>hb (by simp[e]);rw[Jaf hb'];exact z) (λb o _ e=>⟨o,e⟩)
  (λb xs e=>by rw[Jaf (Jaj e n)];exact e) (λb u xs e=>by rw[Jaf (Jaj e n)];exact e) (λb ps e=>⟨#[],by rw[Jaf (Jaj e n),e];simp⟩) (λm hm=>hm) hH I.bare
 exact q
end L2
namespace L2
open PySem PySem.Spec PyProof.Rows
theorem Jdc(scope:Scope)(env:Env)(x:Str):(relabel scope env).names.lookup x=(scope.names.lookup x).map λk=>if(k== .free&&env.scope.kind== .function&&env.kindOf x==some .cell)=true then .cell else k:=by
 show(scope.names.map λ(n,k)=>if(k==NameKind.free&&env.scope.kind== .function&&env.kindOf n==some .cell)then(n,NameKind.cell)else(n,k)).lookup x=_;generalize scope.names=l
 induction l with
 |nil=>rfl
 |cons p r ih=>
  obtain⟨n,k⟩:=p;show List.lookup x ((if(k==NameKind.free&&env.scope.kind== .function&&env.kindOf n==some .cell)=true then(n,NameKind.cell)else(n,k))::_)=_;cases hx:x==n with
  |true=>
   have e:x=n:=by simpa using hx
   subst e;simp only[List.lookup_cons,beq_self_eq_true,Option.map_some];split<;>simp
  |false=>
   simp only[List.lookup_cons,hx];split<;>(simp only[List.lookup_cons,hx];exact ih)
noncomputable def compCx(X:Cx)(N':List Str)(scope:Scope)(s₃:Shared)(H₃:Hp)(ex:List Addr)(pins:List (Addr×Obj))(xe:Value->Shared->Prop:=λ_ _=>False):Cx:=
 {X with N:=N',s₀:=s₃,H₀:=H₃,env:=compEnvC scope (clOf X.env.cells scope.names []) s₃.heap.objs.size X.env,outer:=X.stack,ex:=ex,fn:=λ_=>false,pn:=X.pn++pins,xe:=xe}
noncomputable def inSt(k:Nat)(keep:List Nat)(σ:St):St:=List.replicate k none++keep.map λi=>(σ[i]?).join
structure CompOk(X:Cx)(N':List Str)(k:Nat)(keep:List Nat)(scope:Scope):Prop where
 kind:scope.kind=.function
 cell:∀y∈scope.names,y.2≠ .cell
 names:∀y∈scope.names,y.2=.local->scope.names.lookup y.1=some .local
 free:∀y∈scope.names,y.2=.free->X.env.scope.names.lookup y.1=some .cell\/X.env.scope.names.lookup y.1=some .free
 len:N'.length=k+keep.length
 kept:∀j i,keep[j]? =some i->∃x,N'[k+j]? =some x/\X.N[i]? =some x/\scope.names.lookup x=some .free
theorem Jco{l:List (Str×NameKind)}{x:Str}{k:NameKind}(h:l.lookup x=some k):(x,k)∈l:=PySem.mem_of_lookup h
section
variable {X:Cx} {N':List Str} {k:Nat} {keep:List Nat} {scope:Scope} {pins:List (Addr×Obj)} {σ:St} {H H₃:Hp} {s s₃:Shared} {ex:List Addr} {xe:Value->Shared->Prop}
theorem CompOk.clo(c:CompOk X N' k keep scope)(ok:X.Ok):∀y∈scope.names,y.2=.free->∃c,X.env.cells.lookup y.1=some c:=λy hy hf=>ok.has y.1 (c.free y hy hf)
theorem CompOk.inner(c:CompOk X N' k keep scope){x:Str}(h:(relabel scope X.env).names.lookup x=some .cell\/(relabel scope X.env).names.lookup x=some .free):scope.names.lookup x=some .free:=by
 rw[Jdc]at h;cases e:scope.names.lookup x with
 |none=>rw[e]at h;simp at h
 |some q=>
  rw[e]at h;have hc:=c.cell _ (Jco e);simp only[Option.map_some,Option.some.injEq]at h
  by_cases hq:(q==NameKind.free&&X.env.scope.kind== .function&&X.env.kindOf x==some .cell)=true
  ·have:q=.free:=by
    simp only[Bool.and_eq_true]at hq
    simpa using hq.1.1
   rw[this]
  ·rw[if_neg hq]at h;rcases h with h|h
   ·exact absurd h hc
   ·rw[h]
theorem Inv.enter(c:CompOk X N' k keep scope)(I:Inv X pins σ H s₃){h':Heap}{t':Nat}{m:Str->Option Value}(hns:h'.Ns s₃.heap.objs.size m)(hk:∀b o,s₃.heap.get? b=some o->h'.get? b=some o)
  (hex:∀b∈ex,b<s₃.heap.objs.size/\b≠X.env.locals/\b∉X.fs/\(b∈X.ex\/X.s₀.heap.objs.size<=b)/\∀x c,X.env.cells.lookup x=some c->c≠b):
  Inv (compCx X N' scope s₃ H ex pins xe) [] (inSt k keep σ) H {s₃ with heap:=h',toks:=t'}:=by
 have hcl:∀x c',(clOf X.env.cells scope.names []).lookup x=some c'->X.env.cells.lookup x=some c':=λx c' h=>Jch h;have nstk:∀b∈ex,b∉frs X.stack:=λb hb z=>by
  obtain⟨h0,h1,h2,_⟩:=hex b hb;rcases List.mem_cons.mp (I.stkSub b z)with e|e
  ·exact h1 e
  ·exact h2 e
 have cltb:∀x c',X.env.cells.lookup x=some c'->c'<s₃.heap.objs.size:=λx c' e=>by
  obtain⟨v,q⟩:=I.cell x c' e;exact q.lt
 refine⟨⟨I.ok.mod,c.kind,I.ok.glob,I.ok.blt,Nat.le_refl _,?inj,?has,?cab,I.ok.hd,I.ok.frames,.inl rfl,?exf,I.bs,Nat.le_trans I.ok.bsz I.sz,?noex,nstk,I.stack,I.stkFree⟩,rfl,I.bare,Un.kept hk,?loc,?cell,?free,?freeC,?pin,I.hok.kept hk,?len⟩
 case inj=>exact λx y a h1 h2=>I.ok.inj x y a (hcl x a h1) (hcl y a h2)
 case has=>
  intro x hx;have e:scope.names.lookup x=some .free:=c.inner hx;obtain⟨a,ha⟩:=c.clo I.ok (x,.free) (Jco e) rfl;exact⟨a,Jhs (Jco e) ha⟩
 case cab=>exact λx a hf=>absurd hf (by show¬(false=true);simp)
 case exf=>exact λb hb=>⟨Nat.ne_of_lt (hex b hb).1,λx a e=>(hex b hb).2.2.2.2 x a (hcl x a e)⟩
 case noex=>
  intro b o e hb;rcases(hex b hb).2.2.2.1 with z|z
  ·exact I.ok.noex b o e z
  ·exact absurd (Nat.lt_of_lt_of_le (Heap.lt_size e) (Nat.le_trans I.ok.bsz z)) (Nat.lt_irrefl _)
 case loc=>
  refine⟨m,hns,λi x v e1 e2 e3=>?_⟩;have e1:N'[i]? =some x:=e1;unfold inSt at e2
  by_cases hi:i<k
  ·rw[List.getElem?_append_left (by simpa using hi),List.getElem?_replicate,if_pos hi]at e2;cases e2
  ·rw[List.getElem?_append_right (by simpa using hi),List.length_replicate,List.getElem?_map]at e2;cases ej:keep[i-k]? with
   |none=>rw[ej]at e2;cases e2
   |some j=>
    rw[ej]at e2;have e2':(σ[j]?).join=some v:=Option.some.inj e2;have e2':σ[j]? =some (some v):=by
     cases q:σ[j]? with
     |none=>rw[q]at e2';cases e2'
     |some y=>rw[q]at e2';exact congrArg some e2'
    obtain⟨x',p1,p2,p3⟩:=c.kept _ _ ej;have ex':k+(i-k)=i:=by omega
    rw[ex',e1]at p1;cases p1;have fr:=c.free _ (Jco p3) rfl;obtain⟨m0,hn0,hl0⟩:=I.loc;obtain⟨u,ru,lk⟩:=hl0 j x v p2 e2' (.inr fr);refine⟨u,ru,?_⟩;rcases lk with⟨l1,_⟩|⟨_,a,ha,hcell⟩
    ·exfalso;have l1:X.env.scope.names.lookup x=some .local:=l1;rcases fr with z|z
     ·rw[z]at l1;cases l1
     ·rw[z]at l1;cases l1
    ·refine .inr ⟨e3.elim (λz=>?_) id,a,Jhs (Jco p3) ha,?_⟩
     ·exfalso;have z:(relabel scope X.env).names.lookup x=some .local:=z;rw[Jdc,p3]at z;simp only[Option.map_some,Option.some.injEq]at z;split at z<;>cases z
     ·obtain⟨o,ho,hd⟩:=hcell;exact⟨o,hk _ _ ho,hd⟩
 case cell=>
  intro x a h;obtain⟨v,o,ho,hd⟩:=I.cell x a (hcl x a h);exact⟨v,o,hk _ _ ho,hd⟩
 case free=>exact I.hok.fresh (Nat.le_refl _)
 case freeC=>exact λx a h=>I.freeC x a (hcl x a h)
 case pin=>
  intro p hp;have hp:p∈X.pn++pins:=by simpa [compCx]using hp
  obtain⟨e,n,ne,nf,d⟩:=I.pin p hp;refine⟨hk _ _ e,n,Nat.ne_of_lt (Heap.lt_size e),λz=>?_,d⟩;rcases List.mem_cons.mp (I.stkSub p.1 z)with q|q
  ·exact ne q
  ·exact nf q
 case len=>
  show(inSt k keep σ).length=N'.length;rw[c.len];unfold inSt;simp
structure BlockOk(X:Cx)(pins:List (Addr×Obj))(σ:St)(H:Hp)(s₃:Shared)(ex:List Addr):Prop where
 inv:Inv X pins σ H s₃
 exo:∀b∈ex,b<s₃.heap.objs.size/\b≠X.env.locals/\b∉X.fs/\(b∈X.ex\/X.s₀.heap.objs.size<=b)/\∀x c,X.env.cells.lookup x=some c->c≠b
 pin:∀b∈ex,∀p∈X.pn++pins,p.1≠b
theorem Inv.leave(I:Inv X pins σ H₃ s₃){σ':St}{pins':List (Addr×Obj)}(J:Inv (compCx X N' scope s₃ H₃ ex pins xe) pins' σ' H s)
  (hex:∀b∈ex,b<s₃.heap.objs.size/\b≠X.env.locals/\b∉X.fs/\(b∈X.ex\/X.s₀.heap.objs.size<=b)/\∀x c,X.env.cells.lookup x=some c->c≠b)(hpin:∀b∈ex,∀p∈X.pn++pins,p.1≠b):
  Inv X pins σ H s:=by
 have u:Un (frs X.stack) ex H₃ H s₃.heap s.heap:=J.base;have ho:s.os=s₃.os:=J.os;exact I.call' ho u J.hok J.bare λb hb=>⟨(hex b hb).2.2.2.1,(hex b hb).2.1,(hex b hb).2.2.2.2,hpin b hb⟩
end
noncomputable def PTs(X:Cx)(ifs:List Expr)(t:TT):Prop:=
 ∀(pins:List (Addr×Obj)) (s:Shared) (σ:St) (H:Hp) (Q:Bool->Hp->Prop),Inv X pins σ H s->t σ H Q->
  wpAny (model X.prog X.w) X.A (forIn ifs true λc r=>if r=true then do let ok<-isTrue c X.env (eval c X.env);pure (ForInStep.yield ok)else pure (ForInStep.yield r)) (TP X pins σ Q) X.xe s
theorem Jsu{X:Cx}:PTs X [] (λ_ H Q=>Q true H):=λpins s σ H Q I h=>wpAny_tests_nil ⟨H,I,h⟩
theorem Jl3{X:Cx}{c:Expr}{t:TT}(h:PT X c t):PTs X [c] t:=λpins s σ H Q I q=>wpAny_tests_one (h pins s σ H Q I q)
noncomputable def CompW(J:It)(g:TG)(tc:TT)(te:TE)(Q:List V->Hp->Prop)(σ':St)(H1:Hp):Prop:=
 ∃W:Nat->Nat->List V->St->Hp->Prop,(∃m,W 0 m [] σ' H1)/\∀i m xs σ H,W i m xs σ H->xs.length<=sizeLine/\
  ((J.stop i H/\Q xs H)\/(J.go i H/\∀x H',J.yld i H x H'->g x σ H' λσ2 H2=>tc σ2 H2 λb H3=>
   if b=true then te σ2 H3 λy H4=>∃m',m'<m/\W (i+1) m' (xs++[y]) σ2 H4 else∃m',m'<m/\W (i+1) m' xs σ2 H3))
noncomputable def Own(X:Cx)(pins:List (Addr×Obj))(H:Hp)(b:Addr):Prop:=
 H b=none/\X.s₀.heap.objs.size<=b/\b≠X.env.locals/\(∀x c,X.env.cells.lookup x=some c->c≠b)/\∀p∈X.pn++pins,p.1≠b
theorem Inv.own{X:Cx}{pins:List (Addr×Obj)}{σ:St}{H H':Hp}{s:Shared}{b:Addr}(I:Inv X pins σ H s)(hb:s.heap.objs.size<=b)(hn:H' b=none):Own X pins H' b:=by
 obtain⟨f0,f1,f2,f3,f4,f5⟩:=I.fpOk hb hn;exact⟨f0,Nat.le_trans I.sz hb,f1,f4,f5⟩
structure TurnC(P:Program)(w:World)(K:PySem.W.Frag)(tg:Expr)(J:It)(fp:List Addr)(it:Addr)(tn:Nat->Heap->Prop)(cm:Cx->Prop):Prop where
 obj:∀n g,tn n g->∀a∈fp,∃u,g.get? a=some u/\∀v,u.data≠ .cell v
 keep:∀n g g',tn n g->(∀a∈fp,∀u,g.get? a=some u->g'.get? a=some u)->tn n g'
 item:∀(Y:Cx),Y.prog=P->Y.w=w->Y.K=K->cm Y->∀(n:Nat) (ps:List (Addr×Obj)) (s:Shared) (σ:St) (H:Hp) (E:Value->Shared->Prop),Inv Y ps σ H s->(∀a∈fp,FpOk Y ps H a)->tn n s.heap->J.go n H->
  wpAny (model P w) Y.A (pyNext (.ref it)) (λr s1=>∃u,r=some u/\wpAny (model P w) Y.A (letOwnedTupleGo tg (.ref it) u) (λ_ s2=>∃x H',Inv Y ps σ H' s2/\RelV x u/\J.yld n H x H'/\tn (n+1) s2.heap/\∀a∈fp,H' a=none) E s1) E s
 done:∀(Y:Cx),Y.prog=P->Y.w=w->Y.K=K->cm Y->∀(n:Nat) (ps:List (Addr×Obj)) (s:Shared) (σ:St) (H:Hp) (E:Value->Shared->Prop),Inv Y ps σ H s->(∀a∈fp,FpOk Y ps H a)->tn n s.heap->J.stop n H->wpAny (model P w) Y.A (pyNext (.ref it)) (λr s1=>r=none/\Inv Y ps σ H s1) E s
 self:∀(B:Around) (n:Nat) (s:Shared) (R:Value->Shared->Prop) (E:Value->Shared->Prop),tn n s.heap->R (.ref it) s->wpAny (model P w) B (pyIter (.ref it)) R E s
theorem Turn.toC{P:Program}{w:World}{K:PySem.W.Frag}{tg:Expr}{J:It}{fp:List Addr}{it:Addr}{tn:Nat->Heap->Prop}(T:Turn P w K tg J fp it tn):TurnC P w K tg J fp it tn (λX=>X.calm=true):=⟨T.obj,T.keep,T.item,T.done,T.self⟩
section
variable {X:Cx} {N':List Str} {k:Nat} {keep:List Nat} {scope:Scope} {pins:List (Addr×Obj)} {σ:St} {H:Hp} {s:Shared}
theorem Jef{elt tg iter:Expr}{ifs:List Expr}{pos:Pos}{J:It}{fp:List Addr}{it:Addr}{tn:Nat->Heap->Prop}{g:TG}{tc:TT}{te:TE}{Q:List V->Hp->Prop}{RR:Value->Addr->Result->Shared->Prop}{E:Value->Shared->Prop}{xe:Shared->Value->Shared->Prop}
  {cm:Cx->Prop}(c:CompOk X N' k keep scope)(calm:∀s₃ ex,cm (compCx X N' scope s₃ H ex pins (xe s₃)))(I:Inv X pins σ H s)(T:TurnC X.prog X.w X.K tg J fp it tn cm)(st:tn 0 s.heap)(hf:∀b∈fp,FpOk X pins H b)
  (hg:∀s₃ ex,PG (compCx X N' scope s₃ H ex pins (xe s₃)) tg g)(hc:∀s₃ ex,PTs (compCx X N' scope s₃ H ex pins (xe s₃)) ifs tc)(he:∀s₃ ex,BlockOk X pins σ H s₃ ex->PE (compCx X N' scope s₃ H ex pins (xe s₃)) elt te)
  (hE:∀s₃ D e s',xe s₃ e s'->notedBy (model X.prog X.w) X.A (compEnvC scope (clOf X.env.cells scope.names []) s₃.heap.objs.size X.env) (λx s''=>RR D s₃.heap.objs.size (.error x) s'') e s')
  (hW:CompW J g tc te Q (inSt k keep σ) H)
  (hRR:∀D C s' H' xs m,Inv X pins σ H' s'->Own X pins H' D->Own X pins H' C->D≠C->ObjOk X.prog X.w (upd H' D (.lst xs)) s'.heap D (.lst xs)->s'.heap.Ns C m->Q xs H'->RR (.ref D) C (.ok .next) s'):
  wpAny (model X.prog X.w) X.A (newList []) (λacc s₃=>wpAny (model X.prog X.w) X.A (newFunctionEnv scope X.env.globals (clOf X.env.cells scope.names []) [] X.env.qual none .none (some X.env)) (λcenv s₄=>cenv.frame=X.env.frame/\
   codeAny (model X.prog X.w) X.A (.compStart (.ListComp elt [⟨tg,iter,ifs,0⟩] scope pos) 0 (.ref it) acc {cenv with scope:=relabel scope X.env}) (RR acc cenv.locals) s₄) E s₃) E s:=by
 refine wpAny_newObj_type (wpAny_newFunctionEnv c.cell (by intro y hy;simp at hy) (λh₁ hns₁ hsb₁=>?_) c.kind);dsimp only at hns₁ hsb₁ ⊢;generalize hH2:s.heap.push {cls:=.type "list",dict:=none,data:=.seq ([]:List Value).toArray}=H2 at hns₁ hsb₁ ⊢;have I3:Inv X pins σ H {s with heap:=H2}:=I.kept (t':=s.toks) λb o e=>hH2▸Heap.get?_push_of_some _ e;have hC:H2.objs.size=s.heap.objs.size+1:=by rw[<-hH2,Heap.size_push]
 have hlt:s.heap.objs.size<H2.objs.size:=by rw[hC];exact Nat.lt_succ_self _
 have hne:s.heap.objs.size≠H2.objs.size:=Nat.ne_of_lt hlt;have fpo:∀b∈fp,∃o,s.heap.get? b=some o/\∀v,o.data≠ .cell v:=T.obj _ _ st;have fplt:∀b∈fp,b<s.heap.objs.size:=λb hb=>by
  obtain⟨o,e,_⟩:=fpo b hb;exact Heap.lt_size e
 have nD:H s.heap.objs.size=none:=I.hok.fresh (Nat.le_refl _);have nC:H H2.objs.size=none:=I.hok.fresh (by omega);have oD:Own X pins H s.heap.objs.size:=I.own (Nat.le_refl _) nD;have oC:Own X pins H H2.objs.size:=I.own (by omega) nC;have hkp:∀b o,H2.get? b=some o->h₁.get? b=some o:=λb o e=>hsb₁.extBut b o (Nat.ne_of_lt (Heap.lt_size e)) (Heap.get?_push_of_some _ e);have hex:∀b∈s.heap.objs.size::fp,b<({s with heap:=H2}:Shared).heap.objs.size/\b≠X.env.locals/\b∉X.fs/\(b∈X.ex\/X.s₀.heap.objs.size<=b)/\∀x c,X.env.cells.lookup x=some c->c≠b:=λb hb=>by
  rcases List.mem_cons.mp hb with e|e
  ·subst e;exact⟨hlt,oD.2.2.1,I.nofs (Nat.le_refl _),.inr oD.2.1,oD.2.2.2.1⟩
  ·obtain⟨f0,f1,f2,f3,f4,f5⟩:=hf b e;exact⟨Nat.lt_trans (fplt b e) hlt,f1,f2,f3,f4⟩
 have hpin:∀b∈s.heap.objs.size::fp,∀p∈X.pn++pins,p.1≠b:=λb hb p hp=>by
  rcases List.mem_cons.mp hb with e|e
  ·subst e;exact oD.2.2.2.2 p hp
  ·exact(hf b e).2.2.2.2.2 p hp
 have Dstk:s.heap.objs.size∉frs X.stack:=λz=>by
  rcases List.mem_cons.mp (I.stkSub _ z)with q|q
  ·exact oD.2.2.1 q
  ·exact I.nofs (Nat.le_refl _) q
 generalize hY:compCx X N' scope {s with heap:=H2} H (s.heap.objs.size::fp) pins (xe {s with heap:=H2})=Y;have ePrg:Y.prog=X.prog:=by subst hY;rfl
 have eW:Y.w=X.w:=by subst hY;rfl
 have eK:Y.K=X.K:=by subst hY;rfl
 have eA:Y.A=X.A:=by subst hY;rfl
 have eCalm:cm Y:=by subst hY;exact calm _ _
 have eEnv:Y.env=compEnvC scope (clOf X.env.cells scope.names []) H2.objs.size X.env:=by subst hY;rfl
 have eXe:Y.xe=xe {s with heap:=H2}:=by subst hY;rfl
 have J0:Inv Y [] (inSt k keep σ) H {s with heap:=h₁,toks:=s.toks+([]:List (Str×Value)).length}:=by
  subst hY;exact I3.enter (t':=s.toks+([]:List (Str×Value)).length) c hns₁ hkp hex
 have fpY:∀{H':Hp} {q:List (Addr×Obj)},(∀b∈fp,H' b=none)->(∀p∈q,p.1=s.heap.objs.size)->∀b∈fp,FpOk Y q H' b:=λ{H' q} hn hq b hb=>by
  obtain⟨f0,f1,f2,f3,f4,f5⟩:=hf b hb;have lt:=fplt b hb;subst hY;refine⟨hn b hb,Nat.ne_of_lt (Nat.lt_trans lt hlt),λz=>?_,.inl (List.mem_cons_of_mem _ hb),λx a e=>f4 x a (Jch e),λp hp=>?_⟩
  ·rcases List.mem_cons.mp (I.stkSub b z)with q|q
   ·exact f1 q
   ·exact f2 q
  ·rcases List.mem_append.mp (show p∈(X.pn++pins)++q from hp)with z|z
   ·exact f5 p z
   ·rw[hq p z];exact Nat.ne_of_gt lt
 obtain⟨W,⟨m0,w0⟩,turn⟩:=hW
 let Iv:Nat->Shared->Prop:=λn s'=>∃i xs σ' H' its nn,Inv Y [] σ' H' s'/\tn i s'.heap/\(∀b∈fp,H' b=none)/\H' s.heap.objs.size=none/\Vals xs its/\s'.heap.get? s.heap.objs.size=some {cls:=.type "list",data:=.seq its.toArray nn}/\W i n xs σ' H'
 have hdD:∀{h':Heap},(∀b o,s.heap.get? b=some o->h'.get? b=some o)->True:=λ_=>trivial;have start:Iv m0 {s with heap:=h₁,toks:=s.toks+([]:List (Str×Value)).length}:=by
  refine⟨0,[],_,H,[],0,J0,T.keep _ _ _ st λb hb o e=>hkp b o (hH2▸Heap.get?_push_of_some _ e),λb hb=>(hf b hb).1,nD,.nil,?_,w0⟩;exact hkp _ _ (hH2▸Heap.get?_push_size _ rfl)
 have loop:∀s₃:Shared,s₃={s with heap:=h₁,toks:=s.toks+([]:List (Str×Value)).length}->
   codeAny (model X.prog X.w) X.A (.compLoop (.ListComp elt [⟨tg,iter,ifs,0⟩] scope pos) 0 (.ref it) (.ref s.heap.objs.size) (compEnvC scope (clOf X.env.cells scope.names []) H2.objs.size X.env))
    (RR (.ref s.heap.objs.size) H2.objs.size) s₃:=by
  rintro s₃ rfl;refine Jhp (hE {s with heap:=H2} _) Iv (λn s' hI=>?_) m0 start;obtain⟨i,xs,σ',H',its,nn,J',tn',fr',dn',rv,hl,w'⟩:=hI;obtain⟨hsz,alt⟩:=turn i n xs σ' H' w';rcases alt with⟨stop,q⟩|⟨go,step⟩
  ·have z:=T.done Y ePrg eW eK eCalm i [] s' σ' H' (xe {s with heap:=H2}) J' (fpY fr' (λ_ h=>by simp at h)) tn' stop;rw[eA]at z;have J'':Inv Y [(s.heap.objs.size,{cls:=.type "list",data:=.seq its.toArray nn})] σ' H' s':=J'.pins_of λp hp=>by
    have e:p=(s.heap.objs.size,{cls:=.type "list",data:=.seq its.toArray nn}):=by simpa using hp
    subst e;refine⟨hl,dn',?_,?_,λv h=>nomatch h⟩
    ·rw[eEnv];exact hne
    ·subst hY;exact Dstk
   have z:=T.done Y ePrg eW eK eCalm i _ s' σ' H' (xe {s with heap:=H2}) J'' (fpY fr' (λp hp=>by have e:p=_:=(List.mem_singleton.mp hp);rw[e])) tn' stop;rw[eA]at z;refine wpAny_mono z (λr s4 ⟨hr,J4⟩=>?_) λ_ _ f=>f;subst hr;have hl4:=(J4.pin _ (List.mem_append_right _ (List.mem_singleton.mpr rfl))).1;have J5:Inv (compCx X N' scope {s with heap:=H2} H (s.heap.objs.size::fp) pins (xe {s with heap:=H2})) [(s.heap.objs.size,{cls:=.type "list",data:=.seq its.toArray nn})] σ' H' s4:=by rw[hY];exact J4
   have I4:Inv X pins σ H' s4:=I3.leave J5 hex hpin;obtain⟨mC,hnC,_⟩:=J4.loc;have cfree:=J4.free;rw[eEnv]at hnC cfree;refine hRR _ _ s4 H' xs mC I4 ⟨dn',oD.2⟩ ⟨cfree,oC.2⟩ hne ⟨hsz,its,nn,rv,hl4⟩ hnC q
  ·have J'':Inv Y [(s.heap.objs.size,{cls:=.type "list",data:=.seq its.toArray nn})] σ' H' s':=J'.pins_of λp hp=>by
    have e:p=(s.heap.objs.size,{cls:=.type "list",data:=.seq its.toArray nn}):=by simpa using hp
    subst e;refine⟨hl,dn',?_,?_,λv h=>nomatch h⟩
    ·rw[eEnv];exact hne
    ·subst hY;exact Dstk
   have z:=T.item Y ePrg eW eK eCalm i _ s' σ' H' (xe {s with heap:=H2}) J'' (fpY fr' (λp hp=>by have e:p=_:=(List.mem_singleton.mp hp);rw[e])) tn' go;rw[eA]at z;refine wpAny_mono z (λr s4 ⟨u,hr,h4⟩=>?_) λ_ _ f=>f;subst hr;refine wpAny_mono h4 (λ_ s5 ⟨x,H5,J5,r5,y5,tn5,fr5⟩=>?_) λ_ _ f=>f;have J5':=J5.pinned (fpY fr5 (λp hp=>by have e:p=_:=(List.mem_singleton.mp hp);rw[e])) (T.obj _ _ tn5);have hg':PG Y tg g:=hY▸hg _ _;have hc':PTs Y ifs tc:=hY▸hc _ _;have he':PE Y elt te:=hY▸he _ _ ⟨I3,hex,hpin⟩;have g6:=hg' _ s5 σ' H5 x u _ J5' r5 (step x H5 y5);rw[eXe,eA,ePrg,eW,eEnv]at g6;refine wpAny_mono g6 (λ_ s6 ⟨σ6,H6,J6,q6⟩=>?_) λ_ _ f=>f;have c7:=hc' _ s6 σ6 H6 _ J6 q6;rw[eXe,eA,ePrg,eW,eEnv]at c7;refine wpAny_mono c7 (λok s7 ⟨H7,J7,q7⟩=>?_) λ_ _ f=>f;have fin:∀{s8:Shared} {σ8:St} {H8:Hp} {xs':List V} {its':List Value} {n' m':Nat},Inv Y [] σ8 H8 s8->tn (i+1) s8.heap->(∀b∈fp,H8 b=none)->H8 s.heap.objs.size=none->Vals xs' its'->
     s8.heap.get? s.heap.objs.size=some {cls:=.type "list",data:=.seq its'.toArray n'}->W (i+1) m' xs' σ8 H8->m'<n->∃m,m<n/\Iv m s8:=λa1 a2 a3 a4 a5 a6 a7 a8=>⟨_,a8,_,_,_,_,_,_,a1,a2,a3,a4,a5,a6,a7⟩
   have kp:∀{s8:Shared} {σ8:St} {H8:Hp},Inv Y ([(s.heap.objs.size,{cls:=.type "list",data:=.seq its.toArray nn})]++pinsAt fp s5.heap) σ8 H8 s8->
     tn (i+1) s8.heap/\(∀b∈fp,H8 b=none)/\H8 s.heap.objs.size=none/\s8.heap.get? s.heap.objs.size=some {cls:=.type "list",data:=.seq its.toArray nn}:=λ{s8 σ8 H8} J8=>by
    have p1:=J8.pin _ (List.mem_append_right _ (List.mem_append_left _ (List.mem_singleton.mpr rfl)));refine⟨T.keep _ _ _ tn5 λb hb o e=>(J8.pin (b,o) (List.mem_append_right _ (List.mem_append_right _ (Jcy hb e)))).1,λb hb=>?_,p1.2.1,p1.1⟩;obtain⟨o,e,d⟩:=T.obj _ _ tn5 b hb;exact(J8.pin (b,o) (List.mem_append_right _ (List.mem_append_right _ (Jcy hb e)))).2.1
   cases ok with
   |false=>
    simp only[Bool.false_eq_true,if_false]at q7 ⊢;obtain⟨m',hm,w7⟩:=q7;obtain⟨k1,k2,k3,k4⟩:=kp J7;exact fin (J7.pins_of λp hp=>by simp at hp) k1 k2 k3 rv k4 w7 hm
   |true=>
    simp only[if_true]at q7 ⊢;have e8:=he' _ s7 σ6 H7 _ J7 q7;rw[eXe,eA,ePrg,eW,eEnv]at e8;refine wpAny_mono e8 (λy s8 ⟨v8,H8,J8,r8,m',hm,w8⟩=>?_) λ_ _ f=>f;obtain⟨k1,k2,k3,k4⟩:=kp J8;have hl8:s8.heap.PlainList s.heap.objs.size its.toArray:=⟨nn,k4⟩
    refine wpAny_list_append_plain (hsz:=by have:=rv.length;simp only[List.size_toArray];omega) hl8 λh9 hl9 hs9=>?_;obtain⟨n9,e9⟩:=hl9;have J9:Inv Y [] σ6 H8 {s8 with heap:=h9}:=by
     have J8':Inv Y [] σ6 H8 s8:=J8.pins_of λp hp=>by simp at hp
     refine J8'.turned (t':=s8.toks) (it:=s.heap.objs.size) (λb o hb e=>hs9.extBut b o hb e) k3 ?_ ?_ ?_ ?_
     ·rw[eEnv];exact hne
     ·subst hY;exact .inl List.mem_cons_self
     ·subst hY;exact λx a e=>oD.2.2.2.1 x a (Jch e)
     ·subst hY;intro p hp;exact oD.2.2.2.2 p (by simpa [compCx]using hp)
    refine fin (n':=n9) (its':=its++[y]) J9 (T.keep _ _ _ k1 λb hb o e=>hs9.extBut b o (Nat.ne_of_lt (fplt b hb)) e) k2 k3 (rv.append (.cons r8 .nil)) ?_ w8 hm;show h9.get? _=_;rw[e9,List.push_toArray]
 exact⟨rfl,codeAny_compStart_list (loop _ rfl) (T.self _ 0 _ _ _ (T.keep _ _ _ st λb hb o e=>hkp b o (hH2▸Heap.get?_push_of_some _ e)) (loop _ rfl))⟩
end
end L2
namespace L2
open PySem PySem.Spec PyProof.Rows
noncomputable def tComp(k:Nat)(keep:List Nat)(wi:TI)(g:TG)(tc:TT)(te:TE):TE:=λσ H Q=>wi σ H λJ H1=>
 CompW J g tc te (λxs H'=>∀p,H' p=none->Q (.ref p) (upd H' p (.lst xs))) (inSt k keep σ) H1
noncomputable def compEnd(M:Model)(A:Around)(E:Value->Shared->Prop)(use:Option (Value->Sem Unit))(Q:Value->Shared->Prop)(env:Env)(acc:Value)(C:Addr)(r:Result)(s':Shared):Prop:=match r with
 |.ok f=>compPost M A E use Q acc C (.ok f) s'
 |.error x=>∃m,s'.heap.Ns C m/\∀h',Heap.SameBut C s'.heap h'->wpAny M A (PySem.passOn "comprehension.variables-let-go" x env:Sem Value) (λ_ _=>False) E {s' with heap:=h'}
section
variable {M:Model} {A:Around} {E:Value->Shared->Prop} {s:Shared} {env:Env}
theorem Jfp{e:Expr}{sc:Scope}{pos:Pos}{na fi:Sem Value}{g:Comprehension}{gs:List Comprehension}{cl:List (Str×Addr)}{use:Option (Value->Sem Unit)}{Q:Value->Shared->Prop}
  (h1:clausesOf e=g::gs)(h2:∀x,foldedSetIterable g.iter env x=pure x)(h3:closureFor sc env=pure cl)(h4:sc.kind=.function)(h5:∀y∈sc.names,y.2=.local->sc.names.lookup y.1=some .local)
  (h:wpAny M A fi (λx s1=>wpAny M A (pyIter x) (λit s2=>wpAny M A na (λacc s3=>wpAny M A (newFunctionEnv sc env.globals cl [] env.qual none .none (some env)) (λce s4=>ce.frame=env.frame/\
   codeAny M A (.compStart e 0 it acc {ce with scope:=relabel sc env}) (compEnd M A E use Q env acc ce.locals) s4) E s3) E s2) E s1) E s):wpAny M A (comprehension e sc env pos na false fi use) Q E s:=by
 have up:∀{u:Value} {v:Shared},E u v->E u v:=λz=>z;unfold comprehension;rw[h3,h1];refine wpAny_bind (wpAny_mono h (λx s1 k1=>?_) λ_ _=>up);refine wpAny_bind (wpAny_standAt (wpAny_bind (wpAny_of_eq (h2 x) ?_)));refine wpAny_bind (wpAny_holding (wpAny_mono k1 (λit s2 k2=>?_) λ_ _=>up));refine wpAny_standIf (wpAny_bind (wpAny_mono k2 (λacc s3 k3=>?_) λ_ _=>up));refine wpAny_bind (wpAny_pure (wpAny_bind (wpAny_mono k3 (λce s4 k4=>?_) λ_ _=>up)));obtain⟨fr,k4⟩:=k4;dsimp only;have loc:∀{l:List (Str×NameKind)},(∀y∈l,y∈sc.names)->∀y∈l,y.2=.local->Env.kindOf {ce with scope:=relabel sc env} y.1=some .local:=λ{l} hl y hy yl=>lookup_relabel_local (h5 y (hl y hy) yl);have mem:∀{q:Str×NameKind->Bool} {y},y∈(sc.names.filter q).reverse->y∈sc.names:=λz=>(List.mem_filter.mp (List.mem_reverse.mp z)).1;refine wpAny_holding (wpAny_bind (wpAny_attempt (wpAny_holding (wpAny_run (codeAny_mono k4 λr s5 k5=>?_)))));cases r with
 |error x=>
  obtain⟨m,hn,k6⟩:=k5;refine wpAny_bind (wpAny_holding (wpAny_comp_letGo (cenv:={ce with scope:=relabel sc env}) h4 _ s5 m (loc λy=>mem) hn λh' m' _ hs'=>?_));have z:=wpAny_mono (k6 h' hs') (λ_ _ z=>z.elim) (λ_ _=>up) (Q':=Q);unfold PySem.passOn at z ⊢;dsimp only;rw[fr];exact z
 |ok f=>
  cases use with
  |none=>
   obtain⟨m,hn,k6⟩:=k5;exact wpAny_bind (wpAny_holding (wpAny_comp_letGo (cenv:={ce with scope:=relabel sc env}) h4 _ s5 m (loc λy=>mem) hn λh' m' _ hs'=>wpAny_pure (k6 h' hs')))
  |some u=>
   refine wpAny_bind (wpAny_rule (wpAny_bind (wpAny_holding (wpAny_mono k5 (λ_ s6 k6=>?_) λ_ _=>up))));obtain⟨m,hn,k6⟩:=k6;refine wpAny_bind (wpAny_comp_letGo (cenv:={ce with scope:=relabel sc env}) h4 _ s6 m (loc λy hy=>?_) hn λh' m' _ hs'=>wpAny_pure (k6 h' hs'));exact(List.mem_append.mp hy).elim (λz=>mem (List.mem_of_mem_drop z)) λz=>mem (List.mem_of_mem_take z)
end
noncomputable def compErr(X:Cx)(s₃:Shared):Value->Shared->Prop:=λx s'=>∃m,s'.heap.Ns s₃.heap.objs.size m/\∀h',Heap.SameBut s₃.heap.objs.size s'.heap h'->wpAny (model X.prog X.w) X.A (PySem.passOn "comprehension.variables-let-go" x X.env:Sem Value) (λ_ _=>False) X.xe {s' with heap:=h'}
noncomputable abbrev compXe(X:Cx)(scope:Scope)(s₃:Shared):Value->Shared->Prop:=notedBy (model X.prog X.w) X.A (compEnvC scope (clOf X.env.cells scope.names []) s₃.heap.objs.size X.env) (compErr X s₃)
section
variable {X:Cx} {N':List Str} {k:Nat} {keep:List Nat} {scope:Scope} {elt tg iter:Expr} {ifs:List Expr} {pos:Pos} {wi:TI} {g:TG} {tc:TT} {te:TE}
theorem Jjg{te':St->TE}{xe:St->Shared->Value->Shared->Prop}(c:CompOk X N' k keep scope)(calm:X.calm=true)(hi:PI X tg iter wi)
  (hg:∀s₃ H ex pins σ,PG (compCx X N' scope s₃ H ex pins (xe σ s₃)) tg g)(hc:∀s₃ H ex pins σ,PTs (compCx X N' scope s₃ H ex pins (xe σ s₃)) ifs tc)(he:∀s₃ H ex pins σ,BlockOk X pins σ H s₃ ex->PE (compCx X N' scope s₃ H ex pins (xe σ s₃)) elt (te' σ))
  (hE:∀σ s₃ e s',xe σ s₃ e s'->compXe X scope s₃ e s')
  (hs:∀x,foldedSetIterable iter X.env x=pure x):PE X (.ListComp elt [⟨tg,iter,ifs,0⟩] scope pos) (λσ H Q=>tComp k keep wi g tc (te' σ) σ H Q):=by
 intro pins s σ H Q I h;rw[eval_ListComp];refine Jfp (use:=none) rfl hs (Jcg (c.clo I.ok)) c.kind c.names ?_;refine thn (hi pins s σ H _ I h) λv s1 h1=>thn h1 λitv s2 h2=>?_;obtain⟨it,fp,tn,J,H2,e,I2,T,st2,f2,hW⟩:=h2;subst e;refine Jef c (λ_ _=>calm) I2 T.toC st2 f2 (xe:=xe σ) (λs₃ ex=>hg s₃ H2 ex pins σ) (λs₃ ex=>hc s₃ H2 ex pins σ) (λs₃ ex b=>he s₃ H2 ex pins σ b) (λs₃ D e s' z=>hE σ s₃ e s' z) hW (RR:=λacc C=>compEnd (model X.prog X.w) X.A X.xe none (EP X pins σ Q) X.env acc C) ?_;intro D C s' H' xs m I' oD oC hDC new hn q;refine⟨m,hn,λh' hs'=>?_⟩;have I3:Inv X pins σ (upd H' D (.lst xs)) s':=I'.adopt oD.1 oD.2.1 oD.2.2.1 oD.2.2.2.1 oD.2.2.2.2 new;have I4:Inv X pins σ (upd H' D (.lst xs)) {s' with heap:=h'}:=I3.turned (t':=s'.toks) (it:=C) (λb o hb e=>hs'.extBut b o hb e) (by rw[Jaf hDC.symm];exact oC.1) oC.2.2.1 (.inr oC.2.1) oC.2.2.2.1 oC.2.2.2.2;exact⟨.ref D,_,I4,rfl,q D oD.1⟩
theorem Jje{te':St->TE}{xe:St->Shared->Value->Shared->Prop}{i:Nat}{y:Str}{py spos:Pos}(hN:X.N.Nodup)(hiy:X.N[i]? =some y)(hy:Loc X.env.scope y)(hf:X.fn y=true\/X.env.scope.names.lookup y=some .local)
  (hsw:swapsWith (.ListComp elt [⟨tg,iter,ifs,0⟩] scope pos) (some (.Name y py)) spos.line X.env=pure true)
  (c:CompOk X N' k keep scope)(calm:X.calm=true)(hi:PI X tg iter wi)
  (hg:∀s₃ H ex pins σ,PG (compCx X N' scope s₃ H ex pins (xe σ s₃)) tg g)(hc:∀s₃ H ex pins σ,PTs (compCx X N' scope s₃ H ex pins (xe σ s₃)) ifs tc)(he:∀s₃ H ex pins σ,BlockOk X pins σ H s₃ ex->PE (compCx X N' scope s₃ H ex pins (xe σ s₃)) elt (te' σ))
  (hE:∀σ s₃ e s',xe σ s₃ e s'->compXe X scope s₃ e s')
  (hs:∀x,foldedSetIterable iter X.env x=pure x):PS X (.Assign [.Name y py] (.ListComp elt [⟨tg,iter,ifs,0⟩] scope pos) spos) (tAsg (λσ H Q=>tComp k keep wi g tc (te' σ) σ H Q) (gName i)):=by
 intro pins s σ H D0 I h;rw[exec_Assign_Name_used _ _ _ _ hsw];refine wpAny_bind (wpAny_standAt (wpAny_bind ?_));show wpAny _ X.A (do let _<-comprehension (.ListComp elt [⟨tg,iter,ifs,0⟩] scope pos) scope X.env _ (newList []) false (eval iter X.env) (some (assign (.Name y py) X.env))) _ _ s;refine wpAny_bind (wpAny_mono (Jfp (use:=some (assign (.Name y py) X.env)) (Q:=λ_ s'=>SP X pins D0 .next s') rfl hs (Jcg (c.clo I.ok)) c.kind c.names ?_) (λ_ s' hq=>wpAny_pure (wpAny_pure hq)) λ_ _ e=>e);refine thn (hi pins s σ H _ I h) λv s1 h1=>thn h1 λitv s2 h2=>?_;obtain⟨it,fp,tn,J,H2,e,I2,T,st2,f2,hW⟩:=h2;subst e;refine Jef c (λ_ _=>calm) I2 T.toC st2 f2 (xe:=xe σ) (λs₃ ex=>hg s₃ H2 ex pins σ) (λs₃ ex=>hc s₃ H2 ex pins σ) (λs₃ ex b=>he s₃ H2 ex pins σ b) (λs₃ D e s' z=>hE σ s₃ e s' z) hW (RR:=λacc C=>compEnd (model X.prog X.w) X.A X.xe (some (assign (.Name y py) X.env)) (λ_ s'=>SP X pins D0 .next s') X.env acc C) ?_;intro D C s' H' xs m I' oD oC hDC new hn q;have I3:Inv X pins σ (upd H' D (.lst xs)) s':=I'.adopt oD.1 oD.2.1 oD.2.2.1 oD.2.2.2.1 oD.2.2.2.2 new;show wpAny _ X.A (assign (.Name y py) X.env (.ref D)) _ _ _;refine wpAny_assign_Name (Jgy I3 hN hiy hy (v:=.ref D) rfl (λs'' I5 hsb=>?_) hf);obtain⟨a,sb,ha⟩:=hsb;have hCa:C≠a:=by
  rcases ha with e|e
  ·rw[e];exact oC.2.2.1
  ·exact λz=>oC.2.2.2.1 y a e z.symm
 refine⟨m,hn.sameBut sb hCa,λh' hs'=>?_⟩;have I4:Inv X pins (σ.set i (some (.ref D))) (upd H' D (.lst xs)) {s'' with heap:=h'}:=I5.turned (t':=s''.toks) (it:=C) (λb o hb e=>hs'.extBut b o hb e) (by rw[Jaf hDC.symm];exact oC.1) oC.2.2.1 (.inr oC.2.1) oC.2.2.2.1 oC.2.2.2.2;exact⟨_,_,I4,q D oD.1⟩
theorem Js7(c:CompOk X N' k keep scope)(calm:X.calm=true)(hi:PI X tg iter wi)
  (hg:∀s₃ H ex pins,PG (compCx X N' scope s₃ H ex pins) tg g)(hc:∀s₃ H ex pins,PTs (compCx X N' scope s₃ H ex pins) ifs tc)(he:∀s₃ H ex pins,PE (compCx X N' scope s₃ H ex pins) elt te)
  (hs:∀x,foldedSetIterable iter X.env x=pure x):PE X (.ListComp elt [⟨tg,iter,ifs,0⟩] scope pos) (tComp k keep wi g tc te):=
 Jjg (te':=λ_=>te) (xe:=λ_ _ _ _=>False) c calm hi (λs₃ H ex pins _=>hg s₃ H ex pins) (λs₃ H ex pins _=>hc s₃ H ex pins) (λs₃ H ex pins _ _=>he s₃ H ex pins) (λ_ _ _ _ z=>z.elim) hs
theorem Jsw{i:Nat}{y:Str}{py spos:Pos}(hN:X.N.Nodup)(hiy:X.N[i]? =some y)(hy:Loc X.env.scope y)(hf:X.fn y=true\/X.env.scope.names.lookup y=some .local)
  (hsw:swapsWith (.ListComp elt [⟨tg,iter,ifs,0⟩] scope pos) (some (.Name y py)) spos.line X.env=pure true)(c:CompOk X N' k keep scope)(calm:X.calm=true)(hi:PI X tg iter wi)
  (hg:∀s₃ H ex pins,PG (compCx X N' scope s₃ H ex pins) tg g)(hc:∀s₃ H ex pins,PTs (compCx X N' scope s₃ H ex pins) ifs tc)(he:∀s₃ H ex pins,PE (compCx X N' scope s₃ H ex pins) elt te)
  (hs:∀x,foldedSetIterable iter X.env x=pure x):PS X (.Assign [.Name y py] (.ListComp elt [⟨tg,iter,ifs,0⟩] scope pos) spos) (tAsg (tComp k keep wi g tc te) (gName i)):=
 Jje (te':=λ_=>te) (xe:=λ_ _ _ _=>False) hN hiy hy hf hsw c calm hi (λs₃ H ex pins _=>hg s₃ H ex pins) (λs₃ H ex pins _=>hc s₃ H ex pins) (λs₃ H ex pins _ _=>he s₃ H ex pins) (λ_ _ _ _ z=>z.elim) hs
end
end L2
namespace LR
open PySem PySem.Spec PyProof.Rows PySem.F
section
variable {prog:Program} {w:World} {A:Around} {E:Value->Shared->Prop} {s:Shared}
noncomputable def IsRev(h:Heap)(a l:Addr)(i:Int):Prop:=∃o,h.get? a=some o/\o.cls=.type "reversed"/\o.data=.fields #[.ref l,rawInt i]
theorem IsRev.typeIs{a l:Addr}{i:Int}(x:IsRev s.heap a l i):s.TypeIs (.ref a) "reversed":=let⟨o,ho,hc,_⟩:=x;⟨o,ho,hc⟩
theorem IsRev.at{h h':Heap}{a l:Addr}{i:Int}(x:IsRev h a l i)(e:∀o,h.get? a=some o->h'.get? a=some o):IsRev h' a l i:=let⟨o,ho,r⟩:=x;⟨o,e _ ho,r⟩
end
end LR
namespace L2
open PySem PySem.Spec PyProof.Rows
end L2
namespace HT
open PySem PySem.Spec PyProof.Rows
section
variable {prog:Program} {w:World} {A:Around} {E:Value->Shared->Prop} {s:Shared}
theorem Jdm{t sl:Addr}{items:Array Value}{vl vu:Value}{lo hi:Option Int}{Q:Value->Shared->Prop}(ht:IsTup s.heap t items)(hs:s.heap.IsSliceOf sl vl vu .none)(pl:IsPart vl lo)(pu:IsPart vu hi)
  (hw:sIx items.size 0 lo=0/\sIx items.size items.size hi=items.size)(h:Q (.ref t) s):wpAny (model prog w) A (getItem (.ref t) (.ref sl)) Q E s:=by
 obtain⟨os,hos,hcs,hds⟩:=id hs;have hTs:s.TypeIs (.ref sl) "slice":=⟨os,hos,hcs⟩
 unfold getItem
 try with_reducible refine wpAny_holding ?_
 first|refine wpAny_bind (wpAny_pure ?_)|skip
 refine wpAny_bind (wpAny_sequenceKey ht.typeIs (by decide) ?_);refine wpAny_bind (wpAny_callSpecial?_slot (name:=Str.ofString "__getitem__") ht.typeIs PyProof.Rows.slot_tuple_getitem
  (wpAny_call_entry PyProof.Rows.slot_tuple_getitem ht.typeIs entry_tuple_getitem ?_ (args_tuple_getitem _ _)))
 show wpAny _ _ (Builtin.Tuple.tupleItemsOf (.ref t)>>=_) _ _ s;refine wpAny_bind (tupleItemsOf_ ht ?_);refine wpAny_bind (wpAny_typeOf hTs ?_);rw[if_pos (by decide)];refine wpAny_bind (Jcm hs pl pu ?_);show wpAny _ _ (if(((sIx items.size 0 lo:Nat):Int)==0&&(1:Int)==1&&(sIx items.size items.size hi-sIx items.size 0 lo)==items.size)=true then _ else _) _ _ s;rw[if_pos (by rw[hw.1,hw.2];simp)];refine wpAny_bind (m:=Builtin.Tuple.tupleIsExact (.ref t)) ?_;unfold Builtin.Tuple.tupleIsExact;refine wpAny_bind (wpAny_typeOf ht.typeIs ?_);refine wpAny_pure ?_;rw[if_pos (by decide)];exact wpAny_bind (wpAny_rule (wpAny_pure ⟨_,rfl,wpAny_pure h⟩))
end
end HT
namespace L2
open PySem PySem.Spec PyProof.Rows
variable {X:Cx}
noncomputable def rSlTW(K:PySem.W.Frag):V->Option Int->Option Int->Hp->VK->Prop:=λx lo hi H Q=>∃a xs,x=.ref a/\SqT K H a xs/\
 (HT.sIx xs.length 0 lo=0/\HT.sIx xs.length xs.length hi=xs.length)/\Q (.ref a) H
theorem Jsf:SlR X (rSlTW X.K):=by
 intro pins s σ H x v vl vu lo hi sl Q I rx hs pl pu h;obtain⟨a,xs,rfl,hx,hw,q⟩:=h;cases rx;obtain⟨its,r,ht,hz⟩:=I.tuple hx;have hlen:its.toArray.size=xs.length:=by rw[List.size_toArray];exact r.length.symm
 exact⟨"tuple",_,PyProof.Rows.slot_tuple_getitem.lookup,ht.typeIs,HT.Jdm ht hs pl pu (by rw[hlen];exact hw) ⟨.ref a,H,I,rfl,q⟩⟩
end L2
namespace L2
open PySem PySem.Spec PyProof.Rows
section
variable {κ:Type} [DecidableEq κ]
noncomputable def valV(kvs:List (κ×V))(k:κ):Option V:=(kvs.find? λkv=>decide (kv.1=k)).map (·.2)
noncomputable def putK(kvs:List (κ×V))(k:κ)(v:V):List (κ×V):=
 if(kvs.any λkv=>decide (kv.1=k))=true then kvs.map (λkv=>if kv.1=k then(kv.1,v)else kv)else kvs++[(k,v)]
noncomputable def dropK(kvs:List (κ×V))(k:κ):List (κ×V):=kvs.filter λkv=>decide (kv.1≠k)
theorem Jev{p:κ×V}{r:List (κ×V)}{k:κ}(e:p.1=k):valV (p::r) k=some p.2:=by simp[valV,List.find?_cons,e]
theorem Jew{p:κ×V}{r:List (κ×V)}{k:κ}(e:¬p.1=k):valV (p::r) k=valV r k:=by simp[valV,List.find?_cons,e]
theorem Jiv(k:κ):∀kvs:List (κ×V),(kvs.any λkv=>decide (kv.1=k))=(valV kvs k).isSome
 |[]=>rfl
 |p::r=>by
  rw[List.any_cons]
  by_cases e:p.1=k
  ·simp only[Jev e,decide_eq_true e,Bool.true_or,Option.isSome_some]
  ·rw[Jew e,decide_eq_false e,Bool.false_or];exact Jiv k r
theorem Jfh(kvs:List (κ×V))(k:κ)(v:V):(putK kvs k v).length<=kvs.length+1:=by
 unfold putK;split
 ·rw[List.length_map];omega
 ·rw[List.length_append,List.length_cons,List.length_nil];omega
theorem RelO.isSome_eq{o:Option V}{u:Option Value}(r:RelO o u):o.isSome=u.isSome:=by
 cases o with
 |none=>cases u with
  |none=>rfl
  |some _=>exact(show False from r).elim
 |some _=>cases u with
  |none=>exact(show False from r).elim
  |some _=>rfl
theorem RelO.getD{o:Option V}{u:Option Value}{d:V}{d':Value}(r:RelO o u)(rd:RelV d d'):RelV (o.getD d) (u.getD d'):=by
 cases o with
 |none=>cases u with
  |none=>exact rd
  |some _=>exact(show False from r).elim
 |some _=>cases u with
  |none=>exact(show False from r).elim
  |some _=>exact r
theorem KV.val{kvs:List (κ×V)}{vs:List (κ×Value)}(r:KV kvs vs)(k:κ):RelO (valV kvs k) (valueAt vs k):=by
 unfold KV at r
 induction r with
 |nil=>exact True.intro
 |@cons p q ps qs h t ih=>
  obtain⟨h1,h2⟩:=h
  by_cases e:p.1=k
  ·have e':q.1=k:=h1.symm.trans e;have b:valueAt (q::qs) k=some q.2:=by simp[valueAt,List.find?_cons,e']
   rw[Jev e,b];exact h2
  ·have e':¬q.1=k:=λz=>e (h1.trans z);have b:valueAt (q::qs) k=valueAt qs k:=by simp[valueAt,List.find?_cons,e']
   rw[Jew e,b];exact ih
theorem KV.any{kvs:List (κ×V)}{vs:List (κ×Value)}(r:KV kvs vs)(k:κ):(kvs.any λkv=>decide (kv.1=k))=vs.any λkv=>decide (kv.1=k):=by
 unfold KV at r
 induction r with
 |nil=>rfl
 |cons h t ih=>rw[List.any_cons,List.any_cons,ih,h.1]
theorem KV.repl{kvs:List (κ×V)}{vs:List (κ×Value)}(r:KV kvs vs)(k:κ){y:V}{u:Value}(ry:RelV y u):
  KV (kvs.map λkv=>if kv.1=k then(kv.1,y)else kv) (vs.map λkv=>if kv.1=k then(kv.1,u)else kv):=by
 unfold KV at r ⊢
 induction r with
 |nil=>exact .nil
 |@cons p q ps qs h t ih=>
  rw[List.map_cons,List.map_cons];refine .cons ?_ ih;obtain⟨h1,h2⟩:=h
  by_cases e:p.1=k
  ·rw[if_pos e,if_pos (h1.symm.trans e)];exact⟨h1,ry⟩
  ·rw[if_neg e,if_neg (λz=>e (h1.trans z))];exact⟨h1,h2⟩
theorem KV.put{kvs:List (κ×V)}{vs:List (κ×Value)}(r:KV kvs vs)(k:κ){y:V}{u:Value}(ry:RelV y u):KV (putK kvs k y) (stored vs k u):=by
 unfold putK stored;rw[r.any k]
 by_cases e:(vs.any λkv=>decide (kv.1=k))=true
 ·rw[if_pos e,if_pos e];exact r.repl k ry
 ·rw[if_neg e,if_neg e];exact Paired.snoc r ⟨rfl,ry⟩
theorem KV.drop{kvs:List (κ×V)}{vs:List (κ×Value)}(r:KV kvs vs)(k:κ):KV (dropK kvs k) (without vs k):=by
 unfold KV at r ⊢;unfold dropK without
 induction r with
 |nil=>exact .nil
 |@cons p q ps qs h t ih=>
  obtain⟨h1,h2⟩:=h;rw[List.filter_cons,List.filter_cons]
  by_cases e:p.1=k
  ·have a:¬decide (p.1≠k)=true:=by simp[e]
   have b:¬decide (q.1≠k)=true:=by simp[h1.symm.trans e]
   rw[if_neg a,if_neg b];exact ih
  ·have e':¬q.1=k:=λz=>e (h1.trans z);have a:decide (p.1≠k)=true:=by simp[e]
   have b:decide (q.1≠k)=true:=by simp[e']
   rw[if_pos a,if_pos b];exact .cons ⟨h1,h2⟩ ih
theorem KV.keys{kvs:List (κ×V)}{vs:List (κ×Value)}(r:KV kvs vs):kvs.map (·.1)=vs.map (·.1):=by
 unfold KV at r
 induction r with
 |nil=>rfl
 |cons h t ih=>rw[List.map_cons,List.map_cons,ih,h.1]
theorem KV.length{kvs:List (κ×V)}{vs:List (κ×Value)}(r:KV kvs vs):kvs.length=vs.length:=Paired.length r
end
theorem Jpi{P:Program}{w:World}{k:Key}{u:Value}(r:RelV (kV k) u):(mixKind P w).is k u=true:=by
 cases k with
 |inl i=>obtain⟨t,e⟩:=(show∃t,u=Value.int i t from r);subst e;exact Jih P w i t
 |inr x=>obtain⟨t,e⟩:=(show∃t,u=Value.str x t from r);subst e;exact Jig P w x t
theorem Jhf{P:Program}{w:World}:∀{ks:List Key} {us:List Value},Vals (ks.map kV) us->ItemsAre (mixKind P w) ks us
 |[],_,r=>by rw[List.map_nil]at r;cases r;exact .nil
 |k::ks,_,r=>by
  rw[List.map_cons]at r;cases r with
  |cons h t=>exact .cons (Jpi h) (Jhf t)
noncomputable abbrev KT(H:Hp):List (List Key×V)->List (List Key×Addr×Value)->Prop:=Paired λp q=>p.1=q.1/\H q.2.1=some (.tup (p.1.map kV))/\RelV p.2 q.2.2
theorem KT.val{H:Hp}{kvs:List (List Key×V)}{xs:List (List Key×Addr×Value)}(r:KT H kvs xs)(k:List Key):RelO (valV kvs k) ((atKey xs k).map (·.2)):=by
 induction r with
 |nil=>exact True.intro
 |@cons p q ps qs h t ih=>
  obtain⟨h1,_,h2⟩:=h
  by_cases e:p.1=k
  ·have e':q.1=k:=h1.symm.trans e;have b:atKey (q::qs) k=some q.2:=by simp[atKey,List.find?_cons,e']
   rw[Jev e,b];exact h2
  ·have e':¬q.1=k:=λz=>e (h1.trans z);have b:atKey (q::qs) k=atKey qs k:=by simp[atKey,List.find?_cons,e']
   rw[Jew e,b];exact ih
theorem KT.repl{H:Hp}{kvs:List (List Key×V)}{xs:List (List Key×Addr×Value)}(r:KT H kvs xs)(k:List Key){y:V}{u:Value}(ry:RelV y u):
  KT H (kvs.map λkv=>if kv.1=k then(kv.1,y)else kv) (xs.map (putAt k u)):=by
 induction r with
 |nil=>exact .nil
 |@cons p q ps qs h t ih=>
  rw[List.map_cons,List.map_cons];refine .cons ?_ ih;obtain⟨h1,h2,h3⟩:=h;unfold putAt
  by_cases e:p.1=k
  ·rw[if_pos e,if_pos (h1.symm.trans e)];exact⟨h1,h2,ry⟩
  ·rw[if_neg e,if_neg (λz=>e (h1.trans z))];exact⟨h1,h2,h3⟩
theorem KT.put{H:Hp}{kvs:List (List Key×V)}{xs:List (List Key×Addr×Value)}(r:KT H kvs xs)(k:List Key){b:Addr}{y:V}{u:Value}(hb:H b=some (.tup (k.map kV)))(ry:RelV y u):
  KT H (putK kvs k y) (storedH xs k b u):=by
 have e:(kvs.any λkv=>decide (kv.1=k))=(atKey xs k).isSome:=by
  rw[Jiv,(r.val k).isSome_eq,Option.isSome_map]
 unfold putK storedH;rw[e]
 by_cases q:(atKey xs k).isSome=true
 ·rw[if_pos q,if_pos q];exact r.repl k ry
 ·rw[if_neg q,if_neg q];exact Paired.snoc r ⟨rfl,hb,ry⟩
theorem KT.keeps{H H':Hp}{kvs:List (List Key×V)}{xs:List (List Key×Addr×Value)}(r:KT H kvs xs)(ht:∀b ys,H b=some (.tup ys)->H' b=some (.tup ys)):KT H' kvs xs:=
 Paired.mapP r λ_ _ z=>⟨z.1,ht _ _ z.2.1,z.2.2⟩
section
variable {P:Program} {w:World} {H:Hp} {h:Heap} {a:Addr}
theorem Jv6{u:HO}(ok:HOk P w H h)(e:Rd H a u):ObjOk P w H h a u:=e.ok ok
theorem Jpv{kvs:List (Key×V)}(ok:HOk P w H h)(e:Rd H a (.dK kvs)):kvs.length<=sizeLine/\(a==sysModules)=false/\∃vs,KV kvs vs/\h.DictOf (mixKind P w) a vs:=
 show ObjOk P w H h a (.dK kvs)from Jv6 ok e
theorem Jzy{kvs:List (Key×V)}(ok:HOk P w H h)(e:H a=some (.dK kvs)):kvs.length<=sizeLine/\(a==sysModules)=false/\∃vs,KV kvs vs/\h.DictOf (mixKind P w) a vs:=Jpv ok (.inl e)
theorem Jjn{ks:List Key}(ok:HOk P w H h)(e:H a=some (.tup (ks.map kV))):(tupleKind (mixKind P w)).is h ks a:=by
 obtain⟨_,its,r,o,h1,h2,n,h3⟩:=(show ObjOk P w H h a (.tup (ks.map kV))from ok a _ e)
 exact⟨o,its.toArray,n,h1,h2,h3,by simpa using Jhf r⟩
theorem Jpu{kvs:List (List Key×V)}(ok:HOk P w H h)(e:Rd H a (.dT kvs)):kvs.length<=sizeLine/\(a==sysModules)=false/\
  ∃xs,KT H kvs xs/\h.DictOfH (tupleKind (mixKind P w)) a xs:=by
 obtain⟨z,y,xs,r,o,es,ep,h1,h2,h3,h4,h5⟩:=(show ObjOk P w H h a (.dT kvs)from Jv6 ok e)
 refine⟨z,y,xs,r,o,es,ep,h1,h2,h3,h4,λx hx=>?_,h5⟩;have all:∀{l:List (List Key×V)} {m:List (List Key×Addr×Value)},KT H l m->∀x∈m,(tupleKind (mixKind P w)).is h x.1 x.2.1:=by
  intro l m q
  induction q with
  |nil=>intro x hx;exact nomatch hx
  |@cons p q ps qs hq t ih=>
   intro x hx;rcases List.mem_cons.mp hx with e|hx
   ·subst e;exact Jjn ok (by rw[<-hq.1];exact hq.2.1)
   ·exact ih x hx
 exact all r x hx
theorem Jzx{kvs:List (List Key×V)}(ok:HOk P w H h)(e:H a=some (.dT kvs)):kvs.length<=sizeLine/\(a==sysModules)=false/\
  ∃xs,KT H kvs xs/\h.DictOfH (tupleKind (mixKind P w)) a xs:=Jpu ok (.inl e)
end
noncomputable def DGet(H:Hp)(a:Addr)(y:V)(r:Option V):Prop:=
 (∃kvs k,Rd H a (.dK kvs)/\y=kV k/\r=valV kvs k)\/∃kvs k b,Rd H a (.dT kvs)/\y=.ref b/\H b=some (.tup (k.map kV))/\r=valV kvs k
noncomputable def DPut(H:Hp)(a:Addr)(y v:V)(H':Hp):Prop:=
 (∃kvs k,H a=some (.dK kvs)/\y=kV k/\kvs.length<sizeLine/\H'=upd H a (.dK (putK kvs k v)))\/
 ∃kvs k b,H a=some (.dT kvs)/\y=.ref b/\H b=some (.tup (k.map kV))/\kvs.length<sizeLine/\H'=upd H a (.dT (putK kvs k v))
theorem DGet.k{H:Hp}{a:Addr}{kvs:List (Key×V)}{k:Key}(e:H a=some (.dK kvs)):DGet H a (kV k) (valV kvs k):=.inl ⟨kvs,k,.inl e,rfl,rfl⟩
theorem DGet.t{H:Hp}{a b:Addr}{kvs:List (List Key×V)}{k:List Key}(e:H a=some (.dT kvs))(eb:H b=some (.tup (k.map kV))):DGet H a (.ref b) (valV kvs k):=.inr ⟨kvs,k,b,.inl e,rfl,eb,rfl⟩
theorem DPut.k{H:Hp}{a:Addr}{kvs:List (Key×V)}{k:Key}{v:V}(e:H a=some (.dK kvs))(hl:kvs.length<sizeLine):DPut H a (kV k) v (upd H a (.dK (putK kvs k v))):=.inl ⟨kvs,k,e,rfl,hl,rfl⟩
theorem DPut.t{H:Hp}{a b:Addr}{kvs:List (List Key×V)}{k:List Key}{v:V}(e:H a=some (.dT kvs))(eb:H b=some (.tup (k.map kV)))(hl:kvs.length<sizeLine):
  DPut H a (.ref b) v (upd H a (.dT (putK kvs k v))):=.inr ⟨kvs,k,b,e,rfl,eb,hl,rfl⟩
section
variable {X:Cx} {pins:List (Addr×Obj)} {σ:St} {H:Hp} {s:Shared} {a:Addr} {y v:V} {u r:Value} {o:Option V} {A:Around} {E:Value->Shared->Prop}
theorem Inv.big(I:Inv X pins σ H s):sysModules<s.heap.objs.size:=by
 have h:mainGlobals<s.heap.objs.size:=(I.mod.glob.keeps I.bk).lt;exact Nat.lt_trans (by decide) h
theorem Jns{Q:Value->Shared->Prop}(hu:A.units+1<cLine)(I:Inv X pins σ H s)(g:DGet H a y (some v))(ry:RelV y u)(h:∀w' s',Inv X pins σ H s'->RelV v w'->Q w' s'):
  wpAny (model X.prog X.w) A (getItem (.ref a) u) Q E s:=by
 rcases g with⟨kvs,k,e,ey,l⟩|⟨kvs,k,b,e,ey,eb,l⟩
 ·subst ey;obtain⟨z,hd,vs,rel,dd⟩:=Jpv I.hok e;obtain⟨w',hw,rw'⟩:=RelO.some_of (v:=v) (o:=valueAt vs k) (by rw[l];exact rel.val k);exact wpAny_getItem_of (Jpi ry) dd.mapOf hw (h w' _ (I.tok _) rw')
 ·subst ey;cases(show u=Value.ref b from ry);obtain⟨z,hd,xs,rel,dd⟩:=Jpu I.hok e;obtain⟨w',hw,rw'⟩:=RelO.some_of (v:=v) (o:=(atKey xs k).map (·.2)) (by rw[l];exact rel.val k);obtain⟨p,hp,hp2⟩:=Option.map_eq_some_iff.mp hw;refine wpAny_getItem_heap (tupleKind_room_in1 hu) (Jjn I.hok eb) dd hp ?_;rw[hp2];exact h w' _ (I.tok _) rw'
theorem d_in{Q:Value->Shared->Prop}(hu:A.units+1<cLine)(I:Inv X pins σ H s)(g:DGet H a y o)(ry:RelV y u)(h:∀s',Inv X pins σ H s'->Q (.bool o.isSome) s'):
  wpAny (model X.prog X.w) A (compareOp .In u (.ref a)) Q E s:=by
 rcases g with⟨kvs,k,e,ey,l⟩|⟨kvs,k,b,e,ey,eb,l⟩
 ·subst ey;obtain⟨z,hd,vs,rel,dd⟩:=Jpv I.hok e;refine wpAny_in_of (Jpi ry) hd dd.mapOf ?_;rw[<-(rel.val k).isSome_eq,<-l];exact h _ (I.tok _)
 ·subst ey;cases(show u=Value.ref b from ry);obtain⟨z,hd,xs,rel,dd⟩:=Jpu I.hok e;refine wpAny_in_heap (tupleKind_room_in1 hu) (Jjn I.hok eb) hd dd ?_;have q:=(rel.val k).isSome_eq;rw[Option.isSome_map]at q;rw[<-q,<-l];exact h _ (I.tok _)
theorem Jnq{h':Heap}{t':Nat}{ob:HO}(I:Inv X pins σ H s)(mu:Mut (H a))(hs:Heap.SameBut a s.heap h')(he:∃q,h'.get? a=some q)(new:ObjOk X.prog X.w (upd H a ob) h' a ob):
  Inv X pins σ (upd H a ob) {s with heap:=h',toks:=t'}:=
 I.write (x:=a) (e:=a) mu (.inl rfl) (λb q hb z=>(hs.2 b hb).trans z) he new
theorem Jx9{P:Program}{w:World}{H':Hp}{h':Heap}{kvs:List (Key×V)}{vs:List (Key×Value)}(z:kvs.length<=sizeLine)(hd:(a==sysModules)=false)(rel:KV kvs vs)(dd:h'.DictOf (mixKind P w) a vs):
  ObjOk P w H' h' a (.dK kvs):=⟨z,hd,vs,rel,dd⟩
theorem Jnr{H':Hp}{Q:Unit->Shared->Prop}(hu:A.units+1<cLine)(I:Inv X pins σ H s)(g:DPut H a y v H')(ry:RelV y u)(rv:RelV v r)(h:∀s',Inv X pins σ H' s'->Q () s'):
  wpAny (model X.prog X.w) A (setItem (.ref a) u r) Q E s:=by
 rcases g with⟨kvs,k,e,ey,l,eH⟩|⟨kvs,k,b,e,ey,eb,l,eH⟩
 ·subst ey eH;obtain⟨z,hd,vs,rel,dd⟩:=Jzy I.hok e;have hz:vs.length<=sizeLine:=by rw[<-rel.length];exact z
  have hl:(putK kvs k v).length<=sizeLine:=by have:=Jfh kvs k v;omega
  refine wpAny_setItem_pairs (hsz:=hz) (Jpi ry) dd λh' dd' hs=>h _ ?_;have he:∃q,h'.get? a=some q:=let⟨q,_,_,hq,_⟩:=dd';⟨q,hq⟩;exact Jnq I (by rw[e];exact True.intro) hs he (Jx9 hl hd (rel.put k rv) dd')
 ·subst ey eH;cases(show u=Value.ref b from ry);obtain⟨z,hd,xs,rel,dd⟩:=Jzx I.hok e;have hz:xs.length<=sizeLine:=by rw[<-Paired.length rel];exact z
  have hl:(putK kvs k v).length<=sizeLine:=by have:=Jfh kvs k v;omega
  refine wpAny_setItem_heap (hsz:=hz) (tupleKind_room_in1 hu) (Jjn I.hok eb) dd λh' dd' hs=>h _ ?_;obtain⟨q,es,ep,hq,h2,h3,h4,_,h5⟩:=dd';refine Jnq I (by rw[e];exact True.intro) hs ⟨q,hq⟩ ⟨hl,hd,_,(rel.put k eb rv).keeps λc ys ec=>?_,q,es,ep,hq,h2,h3,h4,h5⟩;rw[Jaf (Jo7 ec e (λz=>nomatch z))];exact ec
end
section
variable {X:Cx} {pins:List (Addr×Obj)} {σ:St} {H:Hp} {s:Shared} {a:Addr} {kvs:List (Key×V)} {k:Key} {u:Value} {A:Around} {E:Value->Shared->Prop}
end
theorem Jin{X:Cx}{pins:List (Addr×Obj)}{σ:St}{H:Hp}{s:Shared}{a:Addr}{y:V}{o:Option V}(I:Inv X pins σ H s)(g:DGet H a y o):s.TypeIs (.ref a) "dict":=by
 rcases g with⟨kvs,k,e,_,_⟩|⟨kvs,k,b,e,_,_,_⟩
 ·obtain⟨_,_,vs,_,dd⟩:=Jpv I.hok e;exact dd.typeIs
 ·obtain⟨_,_,xs,_,dd⟩:=Jpu I.hok e;exact dd.typeIs
section
variable {X:Cx} {o i e value:Expr} {pos pos' tpos:Pos} {td ty tv:TE}
end
theorem Jpw{P:Program}{w:World}{H:Hp}(h:Heap)(hb:sysModules<h.objs.size):ObjOk P w H (h.push {cls:=.type "dict",data:=.dict #[]}) h.objs.size (.dK []):=
 ⟨Nat.zero_le _,beq_eq_false_iff_ne.mpr (Ne.symm (Nat.ne_of_lt hb)),[],.nil,Heap.DictOf.new h⟩
noncomputable def tDNewK:TE:=λ_ H Q=>∀p,H p=none->Q (.ref p) (upd H p (.dK []))
section
variable {X:Cx} {pos:Pos}
theorem Joz:PE X (.Dict [] [] pos) tDNewK:=λpins s σ H Q I h=>
 wpAny_Dict_empty ⟨.ref s.heap.objs.size,_,I.laid (a:=s.heap.objs.size) (o:=.dK []) (t':=s.toks) (λ_ _ q=>Heap.get?_push_of_some _ q) (Nat.le_refl _) (Jpw s.heap I.big),rfl,h _ (I.hok.fresh (Nat.le_refl _))⟩
end
section
variable {X:Cx} {pins:List (Addr×Obj)} {σ:St} {H:Hp} {s:Shared} {a:Addr} {y d:V} {u r:Value} {o:Option V} {A:Around} {E:Value->Shared->Prop}
end
section
variable {X:Cx} {o e f:Expr} {apos cpos:Pos} {td ty tx:TE}
end
section
variable {X:Cx} {pins:List (Addr×Obj)} {σ:St} {H:Hp} {s:Shared} {a:Addr} {kvs:List (Key×V)} {A:Around} {E:Value->Shared->Prop}
end
section
variable {X:Cx} {pins:List (Addr×Obj)} {σ:St} {H:Hp} {s:Shared} {a:Addr} {y:V} {u:Value} {A:Around} {E:Value->Shared->Prop}
end
end L2
namespace L2
open PySem PySem.Spec PyProof.Rows
theorem Inv.turnedL{X:Cx}{pins:List (Addr×Obj)}{σ:List (Option V)}{H:Hp}{s:Shared}{h':Heap}{t':Nat}{fp:List Addr}(I:Inv X pins σ H s)(k:∀b o,b∉fp->s.heap.get? b=some o->h'.get? b=some o)(hf:∀b∈fp,FpOk X pins H b):Inv X pins σ H {s with heap:=h',toks:=t'}:=by
 have nit:∀b u,H b=some u->b∉fp:=λb u e z=>by rw[(hf b z).1]at e;cases e
 refine I.step (g':=s.gens) (d':=s.drawn) (ch:=fp) (λb hb=>?_) (λb o _ _ hc e _=>k b o hc e) (λb o _ _ hc e _=>⟨o.slots,k b o hc e⟩) (λ_ _ _ _ n=>n)
  (λb o hc e=>⟨o,k b o hc e⟩) (λ_ _ e=>e) (λ_ _ _ e=>e) (λb ps e=>⟨#[],by rw[e];simp⟩) (λm hm=>?_) (λb u e=>?_) I.bare
 ·obtain⟨f0,f1,f2,f3,f4,f5⟩:=hf b hb;exact⟨f3,f1,f4,f5⟩
 ·obtain⟨o,es,ep,ho,r⟩:=hm;exact⟨o,es,ep,k _ o (λz=>(hf _ z).2.1 rfl) ho,r⟩
 ·refine(I.hok b u e).stay (λc v hc q=>k c v ?_ q) (λ_ q=>q) λ_ _ q=>q;rcases hc with z|z
  ·rw[z];exact nit b u e
  ·exact nit c _ z
noncomputable def Ite(K:PySem.W.Frag)(l:Addr):It:=
 ⟨λi H=>∃xs x,SqL K H l xs/\xs[i]? =some x,
  λi H v H'=>∃p x,H p=none/\v=.ref p/\H'=upd H p (.tup [.int i,x])/\∀xs,SqL K H l xs->xs[i]? =some x,
  λi H=>∃xs,SqL K H l xs/\xs.length<=i⟩
noncomputable def enumAt(e it l:Addr)(i:Nat)(h:Heap):Prop:=(∃old,IsEnum h e it i old)/\h.IsListIter it l i
theorem Jkv{P:Program}{w:World}{K:PySem.W.Frag}{elts:List Expr}{x1:Nat}{tp:Pos}(e it l:Addr)(hei:e≠it):
  Turn P w K (.Tuple elts x1 tp) (Ite K l) [e,it] e (enumAt e it l)where
 mem:=by simp
 obj:=λi h st b hb=>by
  obtain⟨⟨old,he⟩,⟨o1,e1,c1,d1⟩⟩:=st;simp only[List.mem_cons,List.not_mem_nil,or_false]at hb;rcases hb with rfl|rfl
  ·exact⟨_,he,λv q=>by cases q⟩
  ·exact⟨o1,e1,λv q=>by rw[d1]at q;cases q⟩
 keep:=λi h h' st k=>by
  obtain⟨⟨old,he⟩,h1⟩:=st;exact⟨⟨old,k e (by simp) _ he⟩,h1.at λo q=>k it (by simp) o q⟩
 item:=by
  intro X hP hw hK hc i pins s σ H E I hf st hg;subst hP hw hK;obtain⟨xs,x,hq,hx⟩:=hg;have ho:∀b∈[e,it],∃o,s.heap.get? b=some o:=λb hb=>by
   obtain⟨⟨old,he⟩,⟨o1,e1,_⟩⟩:=st;simp only[List.mem_cons,List.not_mem_nil,or_false]at hb;rcases hb with rfl|rfl
   ·exact⟨_,he⟩
   ·exact⟨_,e1⟩
  obtain⟨⟨old,he⟩,hi⟩:=st;obtain⟨its,rv,p,_⟩:=I.list hq;obtain⟨u,hu,ru⟩:=rv.get hx;refine wpAny_pyNext_enum_item he hi p.isList (x:=u) (by simpa using hu) hei λh' z1 j1 pr sz kk=>?_;refine⟨_,rfl,wpAny_letOwnedTupleGo_enum (s:={s with heap:=h',toks:=s.toks+1}) z1 λh2 z2 sb=>?_⟩;have hf0:H s.heap.objs.size=none:=I.hok.fresh (Nat.le_refl _);have I0:Inv X pins σ (upd H s.heap.objs.size (.tup [.int i,x])) {s with heap:=s.heap.push {cls:=.type "tuple",data:=.seq #[.int i s.toks,u]},toks:=s.toks+1}:=
   I.laid (t':=s.toks+1) (λb o e=>Heap.get?_push_of_some _ e) (Nat.le_refl _) ⟨by show 2<=sizeLine;decide,[.int i s.toks,u],.cons ⟨_,rfl⟩ (.cons ru .nil),⟨_,Heap.get?_push_size _ rfl,rfl,_,rfl⟩⟩
  have neT:∀b∈[e,it],b≠s.heap.objs.size:=λb hb q=>by
   obtain⟨o,z⟩:=ho b hb;exact absurd (Heap.lt_size z) (by rw[q];exact Nat.lt_irrefl _)
  have hf':∀b∈[e,it],FpOk X pins (upd H s.heap.objs.size (.tup [.int i,x])) b:=λb hb=>by
   obtain⟨f0,f1,f2,f3,f4,f5⟩:=hf b hb;exact⟨by rw[Jaf (neT b hb)];exact f0,f1,f2,f3,f4,f5⟩
  have I1:Inv X pins σ (upd H s.heap.objs.size (.tup [.int i,x])) {s with heap:=h2,toks:=s.toks+1}:=by
   refine Inv.turnedL (s:={s with heap:=s.heap.push {cls:=.type "tuple",data:=.seq #[.int i s.toks,u]},toks:=s.toks+1}) (h':=h2) (t':=s.toks+1) (fp:=[e,it]) I0 (λb o hb q=>?_) hf'
   replace q:(s.heap.push {cls:=.type "tuple",data:=.seq #[.int i s.toks,u]}).get? b=some o:=q
   simp only[List.mem_cons,List.not_mem_nil,or_false,not_or]at hb;obtain⟨b1,b2⟩:=hb;rw[sb.2 b b1]
   by_cases hT:b=s.heap.objs.size
   ·subst hT;have:(s.heap.push {cls:=.type "tuple",data:=.seq #[.int i s.toks,u]}).get? s.heap.objs.size=some {cls:=.type "tuple",data:=.seq #[.int i s.toks,u]}:=Heap.get?_push_size _ rfl;rw[this]at q;cases q;exact pr
   ·have e':s.heap.get? b=some o:=by
     rw[Heap.get?_push_ne _ _ _ hT]at q;exact q
    exact kk b o b1 b2 e'
  refine⟨.ref s.heap.objs.size,_,I1,rfl,⟨_,x,hf0,rfl,rfl,λzs hz'=>by rw[I.list_inj hz' hq];exact hx⟩,⟨⟨u,by simpa using z2⟩,?_⟩,λb hb=>(hf' b hb).1⟩;exact j1.at λo q=>(sb.2 it (Ne.symm hei)).trans q
 done:=by
  intro X hP hw hK hc i pins s σ H E I hf st hg;subst hP hw hK;obtain⟨xs,hq,hl⟩:=hg;obtain⟨⟨old,he⟩,hi⟩:=st;obtain⟨its,rv,p,_⟩:=I.list hq;have l1:=rv.length;refine wpAny_pyNext_enum_end (I.ok.hd hc) he hi p.isList (by simp;omega) λh' kk=>⟨rfl,I.turnedL (t':=s.toks) (fp:=[e,it]) (λb o hb q=>?_) hf⟩
  simp only[List.mem_cons,List.not_mem_nil,or_false,not_or]at hb;exact kk b o hb.2 q
 self:=λ_ _ _ _ _ st h=>by
  obtain⟨⟨old,he⟩,_⟩:=st;exact wpAny_pyIter_enum he h
noncomputable def iEnum(K:PySem.W.Frag)(ta:TA):TI:=λσ H R=>ta σ H λvs H1=>∃l,vs=[.ref l]/\(∃xs,SqL K H1 l xs)/\R (Ite K l) H1
theorem Jny:bootBuiltins "enumerate"=some (.type "enumerate"):=by rfl
theorem Js2{X:Cx}{a:Expr}{ta:TA}{p pos:Pos}{elts:List Expr}{x1:Nat}{tp:Pos}(hg:Gl X "enumerate")(hm:X.mg "enumerate"=none)(ha:PA X [a] ta)(hs:starEach [a] X.env=[(false,eval a X.env)]):
  PI X (.Tuple elts x1 tp) (.Call (.Name "enumerate" p) [a] [] pos) (iEnum X.K ta):=by
 intro pins s σ H R I h;refine Call_ (Jhe I hg hm Jny (PyProof.Rows.callWith_type1 (thn (ha pos pins s σ H _ I h) λus s1 ⟨vs,H1,I1,r1,q1⟩=>?_) (by rw[hs];rfl) rfl));obtain⟨l,e,⟨xs,hq⟩,q⟩:=q1;subst e;obtain⟨u,rfl,rx⟩:=Jdi r1;cases rx;obtain⟨its,rv,p1,_⟩:=I1.list hq;refine call_enumerate_list p1.isList λh' z1 j1 sz kk=>?_;refine wpAny_pyIter_enum (s:={s1 with heap:=h'}) z1 ?_;have hne:s1.heap.objs.size+1≠s1.heap.objs.size:=Nat.ne_of_gt (Nat.lt_succ_self _);refine⟨s1.heap.objs.size+1,_,_,_,H1,rfl,I1.kept (t':=s1.toks) kk,Jkv _ _ l hne,⟨⟨_,z1⟩,j1⟩,λb hb=>?_,q⟩;have hb':s1.heap.objs.size<=b:=by
  simp only[List.mem_cons,List.not_mem_nil,or_false]at hb;rcases hb with rfl|rfl
  ·exact Nat.le_succ _
  ·exact Nat.le_refl _
 exact I1.fpOk hb' (I1.hok.fresh hb')
section
variable {X:Cx}
noncomputable def rCatF(K:PySem.W.Frag):R2:=λx y H Q=>∃l b xs zs,x=.ref l/\y=.ref b/\SqL K H l xs/\SqL K H b zs/\xs.length+zs.length<=sizeLine/\∀p,H p=none->Q (.ref p) (upd H p (.lst (xs++zs)))
theorem Jte:OpR X (binaryOp .Add) (rCatF X.K):=by
 intro pins s σ H x y v u Q I rx ry h;obtain⟨l,b,xs,zs,rfl,rfl,hH,hB,hz,q⟩:=h;cases rx;cases ry;obtain⟨its,r,p1,_⟩:=I.list hH;obtain⟨its2,r2,p2,_⟩:=I.list hB;have hl:=r.length;have hl2:=r2.length;obtain⟨⟨cls,dd,data,sl⟩,ho,hc,n,hd⟩:=id p1.isList;obtain⟨⟨cls2,dd2,data2,sl2⟩,ho2,hc2,n2,hd2⟩:=id p2.isList;simp only at hc hd hc2 hd2;subst hc hd hc2 hd2;have e:its.toArray++its2.toArray=(its++its2).toArray:=by simp
 refine concat_meets ⟨_,ho,rfl⟩ ⟨_,ho2,rfl⟩ noFill_list_add seq_list_add PySem.F.slot_list_add PySem.F.entry_list_add (PySem.F.args_list_add_2 _ _) (list_addW l b its.toArray its2.toArray n n2 dd dd2 sl sl2 (by simp;omega)) ⟨ho,ho2,?_⟩;rw[e];exact⟨.ref _,_,I.lnew (t':=s.toks) (r.append r2) (by rw[List.length_append];omega),rfl,q _ I.fresh⟩
end
end L2
namespace L2
open PySem PySem.Spec PyProof.Rows
section
variable {X:Cx}
theorem Jzn{kvs:List (Key×V)}{vs:List (Key×Value)}(r:KV kvs vs):∀(i:Nat) (k:Key) (x:Value),vs[i]? =some (k,x)->∃v,kvs[i]? =some (k,v):=by
 unfold KV at r
 induction r with
 |nil=>intro i k x h;simp at h
 |@cons p q ps qs hpq _ ih=>
  intro i k x h;cases i with
  |zero=>
   have h':q=(k,x):=by simpa using h
   subst h';refine⟨p.2,?_⟩;show some p=_;have:p.1=k:=hpq.1;rw[<-this]
  |succ i=>exact ih i k x (by simpa using h)
theorem Jxh{kvs:List (Key×V)}{vs:List (Key×Value)}(r:KV kvs vs):kvs.length=vs.length:=by
 unfold KV at r
 induction r with
 |nil=>rfl
 |cons _ _ ih=>rw[List.length_cons,List.length_cons,ih]
theorem Jkt:∀{xs:List V} {us:List Value},xs.length=us.length->(∀(i:Nat) (u:Value),us[i]? =some u->∃x,xs[i]? =some x/\RelV x u)->Vals xs us
 |[],[],_,_=>.nil
 |[],u::us,h,_=>by simp at h
 |x::xs,[],h,_=>by simp at h
 |x::xs,u::us,h,g=>by
  obtain⟨y,e,r⟩:=g 0 u rfl;have e':x=y:=by simpa using e
  subst e';exact .cons r (Jkt (by simpa using h) λi w q=>by simpa using g (i+1) w (by simpa using q))
theorem Jgq(hc:X.calm=true):CallR X (.type "list") (λxs H Q=>∃p kvs,xs=[.ref p]/\H p=some (.dK kvs)/\∀l,H l=none->Q (.ref l) (upd H l (.lst (kvs.map λkv=>kV kv.1)))):=by
 intro pins s σ H xs us Q I r h;obtain⟨p,kvs,rfl,hp,q⟩:=h;obtain⟨u,rfl,rx⟩:=Jdi r;cases rx;obtain⟨hz,hS,vs,rel,o,es,ep,m⟩:=(show ObjOk X.prog X.w H s.heap p (.dK kvs)from I.hok p _ hp)
 have hl:=Jxh rel;refine PySem.W.kdl_call (PySem.W.kdl_dict (knd:=mixKind X.prog X.w) (kvs:=vs) (ep:=ep) hS) (I.ok.hd hc) ⟨o,es,m⟩ (by rw[<-hl];exact hz) λh' tk acc' c' kp e it=>?_;have rv:Vals (kvs.map λkv=>kV kv.1) acc'.toList:=by
  refine Jkt (by rw[List.length_map,hl];exact it.1.symm) λi u hu=>?_;obtain⟨k,x,ek,hk⟩:=it.2 i u (by rw[<-Array.getElem?_toList];exact hu);obtain⟨v,ev⟩:=Jzn rel i k x ek;refine⟨kV k,by rw[List.getElem?_map,ev];rfl,?_⟩;rcases Jal hk with⟨j,t,rfl,rfl⟩|⟨y,t,rfl,rfl⟩
  ·exact⟨_,rfl⟩
  ·exact⟨_,rfl⟩
 refine⟨.ref s.heap.objs.size,_,I.laid (t':=tk) kp (Nat.le_refl _) (show ObjOk X.prog X.w _ h' _ (.lst (kvs.map λkv=>kV kv.1))from⟨by rw[List.length_map];exact hz,acc'.toList,c',rv,by simpa using e⟩),rfl,q _ (I.hok.fresh (Nat.le_refl _))⟩
end
end L2
namespace LR
open PySem PySem.Spec PyProof.Rows PySem.F
section
variable {prog:Program} {w:World} {A:Around} {E:Value->Shared->Prop} {s:Shared}
theorem _root_.PySem.Heap.IsList.lt{h:Heap}{l:Addr}{items:Array Value}(x:h.IsList l items):l<h.objs.size:=let⟨o,ho,_⟩:=x;Heap.lt_size ho
end
end LR
namespace L2
open PySem PySem.Spec PyProof.Rows
end L2
namespace LR
open PySem PySem.Spec PyProof.Rows PySem.F
section
variable {prog:Program} {w:World} {A:Around} {E:Value->Shared->Prop} {s:Shared}
end
end LR
namespace L2
open PySem PySem.Spec PyProof.Rows
section
variable {X:Cx} {pins:List (Addr×Obj)} {σ:St} {H:Hp} {s:Shared} {a C dx q f:Addr} {fs:List (Str×V)} {m:Str} {E:Value->Shared->Prop}
structure MethB(K:PySem.W.Frag)(m:Str)(f:Addr):Prop where
 get:PySem.W.specialIn K (.ref f) "__get__"=some (some (.builtin "function.__get__"))
 tk:PySem.W.takesIn K (.ref f)=some false
 cp:PySem.W.copiedNames.contains m=false
structure MinAt(X:Cx)(pins:List (Addr×Obj))(q f a T It S:Addr)(u1 u2:Value)(i:Nat)(best:Array Value)(H:Hp)(s:Shared):Prop where
 me:s.heap.get? q=some (PySem.W.methodObj (.ref f) (.ref a))
 tu:s.heap.get? T=some {cls:=.type "tuple",data:=.seq #[u1,u2]}
 it:s.heap.IsTupleIter It T i
 be:∃c,s.heap.get? S=some (seqObj "list" best c)
 fp:∀b∈[q,T,It,S],FpOk X pins H b
 ne:T≠It/\S≠It/\S≠T/\q≠It/\q≠S
theorem MinAt.tuple{u1 u2:Value}{T It S:Addr}{i:Nat}{best:Array Value}(M:MinAt X pins q f a T It S u1 u2 i best H s):s.heap.IsTuple T #[u1,u2]:=⟨_,M.tu,rfl,_,rfl⟩
end
end L2
namespace L2
open PySem PySem.Spec PyProof.Rows
end L2
namespace L2
open PySem PySem.Spec PyProof.Rows
end L2
namespace L2
open PySem PySem.Spec PyProof.Rows
end L2
namespace LR
open PySem PySem.Spec PyProof.Rows PySem.F MeetsSeq
end LR
namespace L2
open PySem PySem.Spec PyProof.Rows
end L2
namespace L2
open PySem PySem.Spec PyProof.Rows
section
variable {P:Program} {w:World} {H H':Hp} {h h':Heap} {a:Addr} {o:HO}
theorem ObjOk.has(x:ObjOk P w H h a o):∃u,h.get? a=some u:=by
 cases o with
 |lst xs=>obtain⟨_,_,_,_,e⟩:=x;exact⟨_,e⟩
 |tup xs=>obtain⟨_,_,_,ob,e,_⟩:=x;exact⟨_,e⟩
 |dK kvs=>obtain⟨_,_,_,_,o,_,_,e,_⟩:=x;exact⟨_,e⟩
 |dT kvs=>obtain⟨_,_,_,_,o,_,_,e,_⟩:=x;exact⟨_,e⟩
 |set S n=>obtain⟨o,_,_,_,e,_⟩:=x;exact⟨_,e⟩
 |ins C dx fs=>obtain⟨_,_,_,e,_⟩:=x;exact⟨_,e⟩
 |own y=>obtain⟨_,e⟩:=x;exact⟨_,e⟩
 |xd fs=>obtain⟨_,⟨_,_,_,e,_⟩,_⟩:=x;exact⟨_,e⟩
 |rng lo hi=>obtain⟨_,_,_,e⟩:=x;exact⟨_,e⟩
 |frz ob u=>obtain⟨e,_⟩:=x;exact⟨_,e⟩
 |tbl ps=>exact⟨_,show h.get? a=some _ from x⟩
 |met f y=>exact⟨_,show h.get? a=some _ from x⟩
 |ext φ=>obtain⟨_,⟨_,e⟩,_⟩:=x;exact⟨_,e⟩
theorem HOk.has(x:HOk P w H h)(e:H a≠none):∃u,h.get? a=some u:=by
 cases q:H a with
 |none=>exact absurd q e
 |some o=>exact(x a o q).has
theorem HOk.some(x:HOk P w H h)(k:∀b u,H b≠none->h.get? b=some u->h'.get? b=some u):HOk P w H h':=λa o e=>
 (x a o e).stay (λb u hb q=>k b u (by
  rcases hb with rfl|hb
  ·rw[e];exact nofun
  ·rw[hb];exact nofun) q) (λ_ q=>q) λ_ _ q=>q
end
noncomputable abbrev Cx2(e:Addr)(h:Heap):Prop:=∃oe vs,h.get? e=some oe/\oe.data=.fields vs/\vs[2]? =some .none
section
variable {M:Model} {A:Around} {E:Value->Shared->Prop} {s:Shared} {B:Heap} {env:Env} {outer l:List Env} {L e:Addr} {oe:Obj} {vs:Array Value} {a0 head cls:Value} {Q:Unit->Shared->Prop}
theorem Jji{nx:Bool}(fr:A.frames=some (env::outer))(ff:s.heap.FunFrames B (env::outer))(ef:env.frame=some L)(ge:s.heap.get? e=some oe)(st:B.StaysIn s.heap)(be:B.get? e=none)(de:oe.data=.fields vs)(sz:1<vs.size)(v0:vs[0]? =some a0)(v2:vs[2]? =some .none)
  (k:∀h',Heap.HeldW B (env::outer) e oe.cls a0 L h'->Cx2 e h'->s.heap.UpToSlots h'->Q () {s with heap:=h'}):
  wpAny M A (do let fo<-frameOf env;let pl<-entryPlaceOf L nx;let tb<-EntryCells.newEntry head fo .none (rawInt L) .none pl;setField (.ref e) 1 tb) Q E s:=by
 have nf:e∉frs (env::outer):=λz=>by
  obtain⟨_,o,q,n⟩:=ff.mem z;rw[ge]at q;cases q;exact n vs de
 refine wpAny_bind (wpAny_frameOf_fun fr ff ef λh1 so=>?_);refine wpAny_bind (wpAny_entryPlaceOf λpl hp=>?_);unfold EntryCells.newEntry newFields;refine wpAny_bind (wpAny_newObj_type ?_ (hp.sizeOk5 _ _ _ _ _));have g1:h1.get? e=some oe:=(so.2.1 e nf).trans ge;have s1:B.StaysIn h1:=λb o q=>(so.2.1 b λz=>by rw[(ff.mem z).1]at q;cases q).trans (st b o q);generalize hob:(([head,.ref L,.none,rawInt L,.none]++(if pl.isEmpty then List.replicate 6 Value.none else pl)).toArray:Array Value)=ts;have t3:ts[3]? =some (rawInt L):=by
  subst hob
  first|(simp;done)|(rcases hp with rfl|⟨_,_,_,_,_,_,_,rfl⟩<;>simp)
 refine wpAny_setField (Heap.get?_push_of_some _ g1) de sz ?_;generalize hoT:({cls:=.type "traceback",dict:=none,data:=.fields ts}:Obj)=oT;have dT:oT.data=.fields ts:=by subst hoT;rfl
 have nT:oT.isFreed=false:=by subst hoT;rfl
 have ne:h1.objs.size≠e:=Nat.ne_of_gt (Heap.lt_size g1);generalize hm:Obj.mapFields (·.setIfInBounds 1 (Value.ref h1.objs.size))=mf;have dm:(mf oe).data=.fields (vs.setIfInBounds 1 (.ref h1.objs.size)):=by subst hm;exact Obj.data_mapFields de _
 have cm:(mf oe).cls=oe.cls:=by subst hm;exact Obj.cls_mapFields _ _
 have ge3:((h1.push oT).update e mf).get? e=some (mf oe):=Heap.get?_update_self mf (Heap.get?_push_of_some _ g1) (Obj.isFreed_of_fields dm);have gT3:((h1.push oT).update e mf).get? h1.objs.size=some oT:=(Heap.get?_update_other _ _ (Ne.symm ne)).trans (Heap.get?_push_size h1 nT);have kp:∀{b:Addr} {o:Obj},b≠e->h1.get? b=some o->((h1.push oT).update e mf).get? b=some o:=λq1 q2=>(Heap.get?_update_other _ _ (Ne.symm q1)).trans (Heap.get?_push_of_some _ q2);have nr:∀{b:Addr} {o:Obj},s.heap.get? b=some o->(∀us,o.data≠ .fields us)->b≠e:=λ{b o} q n z=>by
  rw[z,ge]at q;cases q;exact n vs de
 refine k _ ⟨λb o q=>kp (λz=>by rw[z,be]at q;cases q) (s1 b o q),be,ff.of_keeps λb o q n=>?_,_,_,h1.objs.size,oT,ts,ge3,⟨cm,by rw[Array.getElem?_setIfInBounds_ne (by decide)];exact v0⟩,dm,by simp[sz],s1.fresh,ne,gT3,dT,t3⟩ ⟨_,_,ge3,dm,by rw[Array.getElem?_setIfInBounds_ne (by decide)];exact v2⟩ λb o q n=>?_
 ·obtain⟨sl,q1⟩:=so.2.2 b o q;exact⟨_,kp (nr q n) q1,rfl⟩
 ·obtain⟨sl,q1⟩:=so.2.2 b o q;exact⟨sl,kp (nr q n) q1⟩
theorem Jeb{fl:Value}{f:Option Addr}(st:B.StaysIn s.heap)(ff:s.heap.FunFrames B l)(tr:s.heap.TracedAtW B e cls a0 fl)(c2:Cx2 e s.heap)
  (k:∀h',B.StaysIn h'->h'.FunFrames B l->h'.TracedAtW B e cls a0 (f.elim .none λa=>rawInt a)->Cx2 e h'->s.heap.UpToSlots h'->Q () {s with heap:=h'}):wpAny M A (setFlight (.ref e) f) Q E s:=by
 obtain⟨oe,vs,T,oT,ts,he,hc,hd,f1,tn,ne,hT,dT,f3⟩:=tr;obtain⟨oe',vs',he',hd',v2⟩:=c2;rw[he]at he';cases he';rw[hd]at hd';cases hd';unfold setFlight;refine wpAny_bind (wpAny_field he hd f1 ?_);rw[if_pos (show(Value.ref T !=Value.none)=true from by simp)];refine wpAny_setField hT dT (Array.getElem?_eq_some_iff.mp f3).1 ?_;generalize hv:(f.elim Value.none λa=>rawInt a)=v;generalize hg:Obj.mapFields (·.setIfInBounds 3 v)=g;have dT':(g oT).data=.fields (ts.setIfInBounds 3 v):=by subst hg;exact Obj.data_mapFields dT _
 have sf:(s.heap.update T g).get? T=some (g oT):=Heap.get?_update_self g hT (Obj.isFreed_of_fields dT');have ot:∀{b:Addr},b≠T->(s.heap.update T g).get? b=s.heap.get? b:=λhb=>Heap.get?_update_other _ _ (Ne.symm hb);have nT:∀{b:Addr} {o:Obj},s.heap.get? b=some o->(∀us,o.data≠ .fields us)->b≠T:=λ{b o} q n z=>by
  rw[z,hT]at q;cases q;exact n ts dT
 have ge:(s.heap.update T g).get? e=some oe:=(ot (Ne.symm ne)).trans he;refine k _ (λb o q=>(ot λz=>by rw[z,tn]at q;cases q).trans (st b o q)) (ff.of_keeps λb o q n=>⟨o,(ot (nT q n)).trans q,rfl⟩) ⟨oe,vs,T,g oT,_,ge,hc,hd,f1,tn,ne,sf,dT',?_⟩ ⟨oe,vs,ge,hd,v2⟩ λb o q n=>⟨o.slots,(ot (nT q n)).trans q⟩
 rw[Array.getElem?_setIfInBounds_self];simp[(Array.getElem?_eq_some_iff.mp f3).1];exact hv.symm
theorem Jw9(fr:A.frames=some (env::outer))(ef:env.frame=some L)(fl:Heap.FlyingW B (env::outer) e cls a0 s.heap)(c2:Cx2 e s.heap)
  (k:∀h',Heap.HeldW B (env::outer) e cls a0 L h'->Cx2 e h'->s.heap.UpToSlots h'->Q () {s with heap:=h'}):wpAny M A (noteFrame (.ref e) env) Q E s:=by
 obtain⟨st,be,ff,oe,vs,T,oT,ts,he,⟨rfl,v0⟩,hd,f1,tn,ne,hT,dT,f3⟩:=fl;obtain⟨oe',vs',he',hd',v2⟩:=c2;rw[he]at he';cases he';rw[hd]at hd';cases hd';unfold noteFrame;simp only[ef];refine wpAny_bind (wpAny_field he hd f1 ?_);rw[if_pos (show(Value.ref T !=Value.none)=true from by simp)];refine wpAny_bind (wpAny_field hT dT f3 ?_);rw[if_neg (show¬((Value.none==rawInt L)=true)from by simp[rawInt])];refine wpAny_bind (wpAny_setField hT dT (Array.getElem?_eq_some_iff.mp f3).1 ?_);have ot:∀{b:Addr},b≠T->(s.heap.update T (Obj.mapFields (·.setIfInBounds 3 Value.none))).get? b=s.heap.get? b:=λhb=>Heap.get?_update_other _ _ (Ne.symm hb);have nT:∀{b:Addr} {o:Obj},s.heap.get? b=some o->(∀us,o.data≠ .fields us)->b≠T:=λ{b o} q n z=>by
  rw[z,hT]at q;cases q;exact n ts dT
 exact Jji fr (ff.of_keeps λb o q n=>⟨o,(ot (nT q n)).trans q,rfl⟩) ef ((ot (Ne.symm ne)).trans he) (λb o q=>(ot λz=>by rw[z,tn]at q;cases q).trans (st b o q)) be hd (Array.getElem?_eq_some_iff.mp f1).1 v0 v2 λh' hh c up=>k h' hh c λb o q n=>up b o ((ot (nT q n)).trans q) n
end
noncomputable def FlyC(B:Heap)(l:List Env)(e:Addr)(cls a0:Value)(h:Heap):Prop:=Heap.FlyingW B l e cls a0 h/\Cx2 e h
noncomputable def HeldC(B:Heap)(l:List Env)(e:Addr)(cls a0:Value)(L:Addr)(h:Heap):Prop:=Heap.HeldW B l e cls a0 L h/\Cx2 e h
section
variable {M:Model} {A:Around} {E:Value->Shared->Prop} {s:Shared} {B:Heap} {env:Env} {outer l:List Env} {L e:Addr} {a0 cls:Value} {Q:Unit->Shared->Prop}
theorem HeldC.lands(hh:HeldC B l e cls a0 L s.heap)(k:∀h',FlyC B l e cls a0 h'->s.heap.UpToSlots h'->Q () {s with heap:=h'}):wpAny M A (setFlight (.ref e) none) Q E s:=
 Jeb (f:=none) hh.1.1 hh.1.2.2.1 hh.1.2.2.2 hh.2 λh' a b c d up=>k h' ⟨⟨a,hh.1.2.1,b,c⟩,d⟩ up
theorem FlyC.lands(hh:FlyC B l e cls a0 s.heap)(k:∀h',FlyC B l e cls a0 h'->s.heap.UpToSlots h'->Q () {s with heap:=h'}):wpAny M A (setFlight (.ref e) none) Q E s:=
 Jeb (f:=none) hh.1.1 hh.1.2.2.1 (Heap.TracedW.at hh.1.2.2.2) hh.2 λh' a b c d up=>k h' ⟨⟨a,hh.1.2.1,b,c⟩,d⟩ up
theorem HeldC.again(hh:HeldC B l e cls a0 L s.heap)(k:∀h',HeldC B l e cls a0 L h'->s.heap.UpToSlots h'->Q () {s with heap:=h'}):wpAny M A (setFlight (.ref e) (some L)) Q E s:=
 Jeb (f:=some L) hh.1.1 hh.1.2.2.1 hh.1.2.2.2 hh.2 λh' a b c d up=>k h' ⟨⟨a,hh.1.2.1,b,c⟩,d⟩ up
theorem FlyC.looks(fr:A.frames=some (env::outer))(ef:env.frame=some L)(hh:FlyC B (env::outer) e cls a0 s.heap)(k:∀h',HeldC B (env::outer) e cls a0 L h'->s.heap.UpToSlots h'->Q () {s with heap:=h'}):wpAny M A (noteFrame (.ref e) env) Q E s:=
 Jw9 fr ef hh.1 hh.2 λh' a b up=>k h' ⟨a,b⟩ up
theorem FlyC.inner(hh:FlyC B (env::outer) e cls a0 s.heap):FlyC B outer e cls a0 s.heap:=⟨⟨hh.1.1,hh.1.2.1,hh.1.2.2.1.2.2,hh.1.2.2.2⟩,hh.2⟩
theorem FlyC.leaves(fr:A.frames=some (env::outer))(ef:env.frame=some L)(hh:FlyC B (env::outer) e cls a0 s.heap)(k:∀h',FlyC B outer e cls a0 h'->s.heap.UpToSlots h'->Q () {s with heap:=h'}):wpAny M A (leaving env (.ref e)) Q E s:=by
 unfold leaving;refine wpAny_bind (hh.looks fr ef λh1 hd up1=>?_);exact HeldC.lands (s:={s with heap:=h1}) hd λh2 fl up2=>k h2 (FlyC.inner (s:={s with heap:=h2}) fl) (up1.trans up2)
theorem Jii{h:Heap}{vs:List Value}(fr:A.frames=some (env::outer))(ef:env.frame=some L)(st:B.StaysIn h)(ff:h.FunFrames B (env::outer))(me:Heap.MadeExcOf h s.heap e cls vs)
  (k:∀h' t,FlyC B outer e cls (.ref t) h'->s.heap.UpToSlots h'->Q () {s with heap:=h'}):wpAny M A (leaving env (.ref e)) Q E s:=by
 obtain⟨t,ho,_,_⟩:=me.there;have be:B.get? e=none:=by
  cases q:B.get? e with
  |none=>rfl
  |some o=>
   have:=st e o q;rw[me.new]at this;cases this
 unfold leaving noteFrame;simp only[ef];refine wpAny_bind (wpAny_bind (wpAny_field ho rfl (x:=.none) rfl ?_));rw[if_neg (by decide)];refine Jji fr (ff.of_keeps λb o q _=>⟨o,me.keeps b o q,rfl⟩) ef ho (λb o q=>me.keeps b o (st b o q)) be rfl (by simp) rfl rfl λh1 hd c2 up1=>?_;exact HeldC.lands (s:={s with heap:=h1}) ⟨hd,c2⟩ λh2 fl up2=>k h2 t (FlyC.inner (s:={s with heap:=h2}) fl) (up1.trans up2)
end
noncomputable def Cov(B:Heap)(l:List Env)(H':Hp)(h0 h:Heap):Prop:=∀b o,h.get? b=some o->(H' b≠none\/∃u,h0.get? b=some u)->b∉frs l->B.get? b=some o
noncomputable def CX1(P:Program)(w:World):CXT:=λouter H s E e s'=>
 ∃(ea C:Addr) (a0:Value) (B:Heap) (H':Hp),e=.ref ea/\s'.os=s.os/\AllBare s'.gens/\Un (frs outer) [] H H' s.heap s'.heap/\HOk P w H' s'.heap/\
  FlyC B outer ea (.ref C) a0 s'.heap/\Cov B outer H' s.heap s'.heap/\H' ea=none/\s.heap.get? ea=none/\E (.ref C) none H'
theorem FnOk.to0{P:Program}{w:World}{K:PySem.W.Frag}{mg:Str->Option Value}{base:Heap}{k:Nat}{f:Addr}{fd:FuncData}{ps:List Str}{sp sp':Sp}(F:FnOk P w K mg base (CX1 P w) k f fd ps sp)
  (h:∀vs H Q E,sp' vs H Q E->sp vs H Q (λ_ _ _=>False)):FnOk P w K mg base CX0 k f fd ps sp':=by
 refine⟨λvs H Q E q=>F.len vs H Q _ (h _ _ _ _ q),λA outer s H args us vs Q E hr he hb hv hs=>codeAny_mono (F.run A outer s H args us vs Q (λ_ _ _=>False) hr he hb hv (h _ _ _ _ hs)) λr s' q=>?_⟩;cases r with
 |error e=>
  obtain⟨_,_,_,_,_,_,_,_,_,_,_,_,_,_,z⟩:=q;exact z.elim
 |ok fl=>cases fl<;>exact q
section
variable {X:Cx} {pins:List (Addr×Obj)} {σ:St} {H H':Hp} {s s':Shared} {E E':XK} {M:Model} {EE:Value->Shared->Prop} {e:Value}
structure Body(X:Cx):Prop where
 stk:X.stack=X.env::X.outer
 fr:X.env.frame=some X.env.locals
 ex:X.ex=[]
theorem Body.frs(b:Body X):L2.frs X.stack=X.env.locals::X.fs:=by
 rw[b.stk];unfold Cx.fs L2.frs;rw[List.filterMap_cons,b.fr]
structure Fly(X:Cx)(pins:List (Addr×Obj))(σ:St)(H:Hp)(s:Shared)(H':Hp)(s':Shared)(ea C:Addr)(a0:Value)(B:Heap):Prop where
 pre:Inv X pins σ H s
 os:s'.os=s.os
 bare:AllBare s'.gens
 un:Un (L2.frs X.stack) [] H H' s.heap s'.heap
 hok:HOk X.prog X.w H' s'.heap
 fl:FlyC B X.stack ea (.ref C) a0 s'.heap
 cov:Cov B X.stack H' s.heap s'.heap
 hn:H' ea=none
 nw:s.heap.get? ea=none
theorem CX1.fly(I:Inv X pins σ H s)(c:CX1 X.prog X.w X.stack H s E e s'):∃ea C a0 B H',e=.ref ea/\E (.ref C) none H'/\Fly X pins σ H s H' s' ea C a0 B:=by
 obtain⟨ea,C,a0,B,H',e1,os,bare,un,hok,fl,cov,hn,nw,q⟩:=c;exact⟨ea,C,a0,B,H',e1,q,I,os,bare,un,hok,fl,cov,hn,nw⟩
variable {h':Heap} {ea C:Addr} {a0:Value} {B:Heap}
theorem Fly.inv(f:Fly X pins σ H s H' s' ea C a0 B):Inv X pins σ H' s':=f.pre.call' f.os f.un f.hok f.bare (λb z=>absurd z (by simp))
theorem Fly.core(f:Fly X pins σ H s H' s' ea C a0 B)(st:B.StaysIn h')(up:s'.heap.UpToSlots h'):Un (L2.frs X.stack) [] H H' s.heap h'/\HOk X.prog X.w H' h'/\Cov B X.stack H' s.heap h':=by
 have nin:∀{c},H' c≠none->c∉L2.frs X.stack:=λ{c} hc z=>hc (f.inv.stkFree c z);have ke:∀c o,s'.heap.get? c=some o->(H' c≠none\/∃u,s.heap.get? c=some u)->c∉L2.frs X.stack->h'.get? c=some o:=λc o q hc hf=>st c o (f.cov c o q hc hf);have sl:∀c o,s'.heap.get? c=some o->c∈L2.frs X.stack->∃z,h'.get? c=some {o with slots:=z}:=λc o q hc=>by
  obtain⟨_,o',e1,nf⟩:=f.inv.stack.mem hc;rw[q]at e1;cases e1;exact up c o q nf
 refine⟨⟨λc o q n hc hx=>?_,λc o q n hc hx=>?_,f.un.free,λc o q hx=>?_,f.un.tups,f.un.frzs,f.un.tbls⟩,f.hok.some λc u hc q=>ke c u q (.inl hc) (nin hc),λc o q hc hf=>?_⟩
 ·exact ke c o (f.un.keep c o q n hc hx) (.inr ⟨_,q⟩) hc
 ·obtain⟨z,e1⟩:=f.un.slot c o q n hc hx;obtain⟨z2,e2⟩:=sl c _ e1 hc;exact⟨z2,e2⟩
 ·obtain⟨o',e1⟩:=f.un.there c o q hx
  by_cases hc:c∈L2.frs X.stack
  ·obtain⟨z,e2⟩:=sl c _ e1 hc;exact⟨_,e2⟩
  ·exact⟨o',ke c o' e1 (.inr ⟨_,q⟩) hc⟩
 ·have:∃o',s'.heap.get? c=some o':=by
   rcases hc with hc|⟨u,hu⟩
   ·exact f.hok.has hc
   ·exact f.un.there c u hu (by simp)
  obtain⟨o',e1⟩:=this;have b1:=f.cov c o' e1 hc hf;have:=st c o' b1;rw[q]at this;cases this;exact b1
theorem Fly.turn(f:Fly X pins σ H s H' s' ea C a0 B)(fl:FlyC B X.stack ea (.ref C) a0 h')(up:s'.heap.UpToSlots h'):Fly X pins σ H s H' {s' with heap:=h'} ea C a0 B:=
 let⟨un,hok,cov⟩:=f.core fl.1.1 up
 ⟨f.pre,f.os,f.bare,un,hok,fl,cov,f.hn,f.nw⟩
theorem Ja0(I:Inv X pins σ H s){b:Addr}{o:Obj}(q:X.s₀.heap.get? b=some o):b≠X.env.locals:=Nat.ne_of_lt (Nat.lt_of_lt_of_le (Heap.lt_size q) I.ok.above)
theorem Fly.leave(b:Body X)(f:Fly X pins σ H s H' s' ea C a0 B)(hE:E' (.ref C) none H'):wpAny M X.A (leaving X.env (.ref ea)) (λ_ s''=>CX1 X.prog X.w X.outer X.H₀ X.s₀ E' (.ref ea) s'') EE s':=by
 have fl:=f.fl;rw[b.stk]at fl;refine FlyC.leaves (by rw[<-b.stk];exact f.pre.ok.frames) b.fr fl λh' fl' up=>?_;obtain⟨un,hok,cov⟩:=f.core fl'.1.1 up;have I:Inv X pins σ H' {s' with heap:=h'}:=f.pre.call' f.os un hok f.bare (λb z=>absurd z (by simp));have bs:=I.base;rw[b.ex]at bs;refine⟨ea,C,a0,B,H',rfl,I.os,I.bare,bs,hok,fl',λc o q hc hf=>?_,f.hn,?_,hE⟩
 ·refine cov c o q ?_ ?_
  ·rcases hc with hc|⟨u,hu⟩
   ·exact .inl hc
   ·exact .inr (f.pre.base.there c u hu (by rw[b.ex];simp))
  ·rw[b.frs];intro z;rcases List.mem_cons.mp z with z|z
   ·subst z;rcases hc with hc|⟨u,hu⟩
    ·exact hc I.free
    ·exact Ja0 I hu rfl
   ·exact hf z
 ·cases q:X.s₀.heap.get? ea with
  |none=>rfl
  |some o=>
   obtain⟨o',e1⟩:=f.pre.base.there ea o q (by rw[b.ex];simp);rw[f.nw]at e1;cases e1
theorem Jki{vs:List Value}{h1:Heap}(b:Body X)(I:Inv X pins σ H s)(hx:Heap.MadeExcOf s.heap h1 ea (.ref C) vs)(hE:E' (.ref C) none H):wpAny M X.A (leaving X.env (.ref ea)) (λ_ s''=>CX1 X.prog X.w X.outer X.H₀ X.s₀ E' (.ref ea) s'') EE {s with heap:=h1}:=by
 have hin:∀env∈X.stack,∀c,env.frame=some c->c∈L2.frs X.stack:=λenv he c hc=>List.mem_filterMap.mpr ⟨env,he,hc⟩;have ff:=PySem.W.funFrames_hide I.stack hin;rw[b.stk]at ff;refine Jii (B:=PySem.W.hideAll s.heap (L2.frs X.stack)) (h:=s.heap) (by rw[<-b.stk];exact I.ok.frames) b.fr (λc o q=>PySem.W.of_hideAll _ q) (by rw[b.stk];exact ff) hx λh' t fl up=>?_;have B1:∀c o,s.heap.get? c=some o->c∉L2.frs X.stack->(PySem.W.hideAll s.heap (L2.frs X.stack)).get? c=some o:=λc o q hc=>PySem.W.hideAll_get _ q hc;have nin:∀{c},H c≠none->c∉L2.frs X.stack:=λ{c} hc z=>hc (I.stkFree c z);have sl:∀c o,s.heap.get? c=some o->c∈L2.frs X.stack->∃z,h'.get? c=some {o with slots:=z}:=λc o q hc=>by
  obtain⟨_,o',e1,nf⟩:=I.stack.mem hc;rw[q]at e1;cases e1;exact up c o (hx.keeps c o q) nf
 have hok:HOk X.prog X.w H h':=I.hok.some λc u hc q=>fl.1.1 c u (B1 c u q (nin hc));have un:Un (L2.frs X.stack) [] H H s.heap h':=by
  refine⟨λc o q n hc hx=>fl.1.1 c o (B1 c o q hc),λc o q n hc hx=>sl c o q hc,λc o q n hx=>n,λc o q hx=>?_,λ_ _ z=>z,λ_ _ _ z=>z,λc ps z=>⟨#[],by simpa using z⟩⟩
  by_cases hc:c∈L2.frs X.stack
  ·obtain⟨z,e2⟩:=sl c _ q hc;exact⟨_,e2⟩
  ·exact⟨o,fl.1.1 c o (B1 c o q hc)⟩
 have I':Inv X pins σ H {s with heap:=h'}:=I.call' (s':={s with heap:=h'}) rfl un hok I.bare (λb z=>absurd z (by simp));have bs:=I'.base;rw[b.ex]at bs;have hn:H ea=none:=by
  cases q:H ea with
  |none=>rfl
  |some o=>
   obtain⟨u,hu⟩:=I.hok.has (a:=ea) (by rw[q];exact nofun);rw[hx.new]at hu;cases hu
 refine⟨ea,C,.ref t,_,H,rfl,I'.os,I'.bare,bs,hok,fl,λc o q hc hf=>?_,hn,?_,hE⟩
 ·have hf':c∉L2.frs X.stack:=by
   rw[b.frs];intro z;rcases List.mem_cons.mp z with z|z
   ·subst z;rcases hc with hc|⟨u,hu⟩
    ·exact hc I.free
    ·exact Ja0 I hu rfl
   ·exact hf z
  have:∃o',s.heap.get? c=some o':=by
   rcases hc with hc|⟨u,hu⟩
   ·exact I.hok.has hc
   ·exact I.base.there c u hu (by rw[b.ex];simp)
  obtain⟨o',e1⟩:=this;have b1:=B1 c o' e1 hf';have:=fl.1.1 c o' b1;rw[q]at this;cases this;exact b1
 ·cases q:X.s₀.heap.get? ea with
  |none=>rfl
  |some o=>
   obtain⟨o',e1⟩:=I.base.there ea o q (by rw[b.ex];simp);rw[hx.new]at e1;cases e1
end
section
variable {X:Cx}
theorem Jtr{K:PySem.W.Frag}{h:Heap}{C:Addr}{bmB:List Value}{newId:String}(KX:K.In h)(q:PySem.W.excIn K C bmB newId=true):
  ∃bm N nm qn bs hdct sn sub ab col dd k0 k1 k2 k3 k5 mN,h.get? C=some (excClassObj nm qn C N bs bm hdct sn sub ab col dd k0 k1 k2 k3 k5 newId)/\h.Ns N mN/\mN "__init__"=none/\OwnTail h bmB bm:=by
 unfold PySem.W.excIn at q;split at q
 ·rename_i dd cd sl ho;split at q
  ·rename_i C' bm k0 k1 k2 k3 n k5 hm hs;simp only[Bool.and_eq_true,beq_iff_eq,Bool.not_eq_true']at q;obtain⟨⟨⟨⟨⟨rfl,rfl⟩,hdel⟩,ht⟩,hok⟩,hni⟩:=q;obtain⟨nm,bs,mro,ns,qn,hd,sn,sub,ab,col,del⟩:=cd;dsimp only at hm hdel hok hni;subst hm hdel;have hsl:sl= #[k0,k1,k2,k3,some (.builtin n),k5]:=by
    obtain⟨l⟩:=sl;simp only at hs;rw[hs]
   subst hsl;exact⟨bm,ns,nm,qn,bs,hd,sn,sub,ab,col,dd,k0,k1,k2,k3,k5,_,KX _ _ ho,.of_isNs (PySem.W.isNs_of_in KX hok),PySem.W.nsMap_none_of_in KX hok hni,PySem.W.tail_of_in KX ht⟩
  ·cases q
 ·cases q
noncomputable abbrev bmVal:List Value:=[.type "ValueError",.type "Exception",.type "BaseException",.type "object"]
theorem Joq{x y:Str}{C:Addr}{np cp cpos pos:Pos}{j}(hg:Gl X x)(hm:X.mg x=some (.ref C))(hq:PySem.W.excIn X.K C bmVal "ValueError.__new__"=true)(hc:X.calm=true)(hd:(x==("__debug__":Str))=false):
  PS X (.Raise (some (.Call (.Name x np) [.Constant (.str y) j cp] [] cpos)) none pos) (λ_ σ H=>∀pins s h1 ea us,Inv X pins σ H s->Heap.MadeExcOf s.heap h1 ea (.ref C) us->X.xe (.ref ea) {s with heap:=h1}):=by
 intro pins s σ H D I h;obtain⟨tl,N,nm,q,bs,hdct,sn,sub,ab,col,dd,k0,k1,k2,k3,k5,mN,hC,hN,hni,T⟩:=Jtr (h:=X.base) I.mod.kin hq;refine wpAny_Raise_call_subT (C:=C) (nm:=nm) (q:=q) (N:=N) (bs:=bs) (bm:=tl) (hdct:=hdct) (sn:=sn) (sub:=sub) (ab:=ab) (col:=col) (dd:=dd) (k0:=k0) (k1:=k1) (k2:=k2) (k3:=k3) (k5:=k5)
  PySem.F.excBase_ValueError (mN:=mN) (T.hasType PySem.F.excBase_ValueError.hasBase) (I.ok.hd hc) rfl hni (Jd8 I hg hm ⟨rfl,?_⟩ hd)
 have pa:PA X [.Constant (.str y) j cp] (tCons (L2.tC (.str y)) tNil):=Jbj Jq0 Jds;refine Calls.evalArgs_plain (thn (pa cpos pins s σ H (λvs H1=>vs=[.str y]/\H1=H) I ⟨rfl,rfl⟩) λus s1 ⟨vs,H1,I1,r,e1,e2⟩=>?_);subst e1 e2;refine⟨rfl,?_,I1.bk _ _ hC,hN.keeps I1.bk,T.keeps I1.bk,λh' e me=>h pins s1 h' e us I1 me⟩;rw[<-r.length];show 1<=sizeLine;decide
end
noncomputable def ExcAt(ea C:Addr)(h:Heap):Prop:=∃o,h.get? ea=some o/\o.cls=.ref C
theorem Jd1{ea C:Addr}(M:Model)(h:Heap)(p:ExcAt ea C h):PySem.W.Looks M h (typeOf (.ref ea)) (.ref C):=by
 obtain⟨o,h1,h2⟩:=p;exact h2▸(PySem.W.Looks.ld h1).andThen .now
section
open PySem.Builtin PySem.Builtin.ObjectAttr PySem.Builtin.Getset_descriptor
structure ExcCl(K:PySem.W.Frag)(C:Addr):Prop where
 ga:PySem.W.findIn K (.ref C) "__getattribute__"=some (some (.builtin "BaseException.__getattribute__"))
 gt:PySem.W.findIn K (.ref C) "__getattr__"=some none
 cl:PySem.W.findIn K (.ref C) "__class__"=some (some (.builtin "object.__class__"))
 gg:PySem.W.specialIn K (.builtin "object.__class__") "__get__"=some (some (.builtin "getset_descriptor.__get__"))
 tk:PySem.W.takesIn K (.builtin "object.__class__")=some true
 mo:PySem.W.mroIn K C (.type "object")=some true
 mb:PySem.W.mroIn K C (.type "BaseException")=some true
section
variable {prog:Program} {w:World} {A:Around} {E:Value->Shared->Prop} {s:Shared} {K:PySem.W.Frag} {ea C:Addr}
theorem Jnc{M:Model}{h:Heap}(KX:K.In h)(x:ExcCl K C):PySem.W.Looks M h (find (.ref ea) (.ref C) "__class__") (.bind (.builtin "getset_descriptor.__get__") (.builtin "object.__class__")):=by
 have L1:=PySem.W.looks_findIn (M:=M) KX x.cl;have L2:=PySem.W.looks_specialIn (M:=M) KX x.gg;have L3:=PySem.W.looks_takesIn (M:=M) KX x.tk;exact L1.andThen (L2.andThen ((show PySem.W.Looks M h (dataDescriptor? (some (.builtin "object.__class__")) (some (.builtin "getset_descriptor.__get__"))) (some (.builtin "getset_descriptor.__get__",.builtin "object.__class__"))from L3.andThen .now).andThen (PySem.W.Looks.tag .now)))
theorem Jt0{tp:Value}{R:Result->Shared->Prop}(KX:K.In s.heap)(p:ExcAt ea C s.heap)(x:ExcCl K C)(h:R (.ok (.ret (.ref C))) s):codeAny (model prog w) A (.call (.builtin "getset_descriptor.__get__") ⟨[.builtin "object.__class__",.ref ea,tp],[]⟩) R s:=by
 obtain⟨hh,g,dr,t,os⟩:=s;have L0:=Jd1 (model prog w) hh p;have L1:=PySem.W.looks_mroIn (M:=model prog w) KX x.mo;refine codeAny_call_builtin PySem.W.KF.slot_gs.plain PySem.W.KF.entry_gs (PySem.W.KF.slot_gs.check _ _ _ _ _ _ _ _ PySem.W.KF.type_class (PySem.W.KF.args_gs _ _ _) ?_);unfold Builtin.«getset_descriptor.__get__» descrGet;rw[PySem.W.dga_obj];refine wpAny_bind (wpAny_pure ?_);unfold descrGetter descrCheckInstance descrNameAndClass isInstance;simp only[PySem.W.KF.owner_class]
 repeat lk
 refine⟨Code.quiet_builtin _ (by decide+kernel),codeAny_builtin PySem.W.KF.entry_class ?_⟩;unfold Builtin.«object.__class__» shownTypeOf
 repeat lk
 exact h
theorem Jps{nameV:Value}{Q:Unit->Shared->Prop}{M:Model}(KX:K.In s.heap)(p:ExcAt ea C s.heap)(x:ExcCl K C)(h:Q () s):wpAny M A (checkBuiltinCall "BaseException.__getattribute__" ⟨[.ref ea,nameV],[]⟩) Q E s:=by
 obtain⟨hh,g,dr,t,os⟩:=s;have L0:=Jd1 M hh p;have L1:=PySem.W.looks_mroIn (M:=M) KX x.mb;have hk:builtinKind "BaseException.__getattribute__"=some .slot:=by decide+kernel
 have hsplit:splitId "BaseException.__getattribute__"=some ("BaseException","__getattribute__"):=by decide+kernel
 have ha:=PySem.F.args_bexc_ga (.ref ea) nameV;simp only[checkBuiltinCall,hk,hsplit];refine wpAny_bind ?_;unfold isInstance
 repeat lk
 exact h
theorem Jnd{Q:Option Value->Shared->Prop}(KX:K.In s.heap)(p:ExcAt ea C s.heap)(x:ExcCl K C)(h:Q (some (.ref C)) {s with toks:=s.toks+1}):wpAny (model prog w) A (getAttr? (.ref ea) "__class__") Q E s:=by
 obtain⟨hh,g,dr,t,os⟩:=s;have L0:=Jd1 (model prog w) hh p;have L1:=PySem.W.looks_findIn (M:=model prog w) KX x.ga;have L2:=PySem.W.looks_findIn (M:=model prog w) KX x.gt;unfold getAttr? getAttrBy? getAttrBy;refine wpAny_bind (wpAny_mkText (wpAny_bind (wpAny_attempt (wpAny_holding (wpAny_bind (L0.at (wpAny_bind (L1.at ?_))))))));have hx2:(Value.builtin "BaseException.__getattribute__"==Value.builtin "object.__getattribute__")=false:=by decide+kernel
 have bs:bindSpecial (.builtin "BaseException.__getattribute__") (.ref ea)=pure (.builtin "BaseException.__getattribute__",[.ref ea]):=by kernel_rfl
 show wpAny _ _ (if _ then _ else _) _ _ _;rw[hx2,Bool.and_false,if_neg Bool.false_ne_true];unfold getAttrByItsOwn hookBefore callGetattribute boundAndCalled;rw[if_pos (show onTheHeap (Value.ref C)=true from rfl)];refine wpAny_bind (L2.at (wpAny_bind (wpAny_attempt (wpAny_holding ?_))));rw[Bool.false_and,if_neg Bool.false_ne_true,bs];refine wpAny_bind (wpAny_pure ?_);show wpAny _ _ (call (.builtin "BaseException.__getattribute__") [.ref ea,.str (Str.ofString "__class__") t]) _ _ _;refine wpAny_call (codeAny_call_builtin PySem.F.attr_ValueError.ga.plain PySem.F.entry_bexc_ga (Jps KX p x ?_));have L3:=Jnc (M:=model prog w) (ea:=ea) KX x;unfold Builtin.«object.__getattribute__»;refine wpAny_bind (wpAny_pure (wpAny_bind (wpAny_pure (wpAny_bind (L0.at (wpAny_bind (L3.at ?_)))))));show wpAny _ _ (holding [Value.builtin "object.__class__"] (call (Value.builtin "getset_descriptor.__get__") [Value.builtin "object.__class__",Value.ref ea,Value.ref C])>>=ret) _ _ _;refine wpAny_bind (wpAny_holding (wpAny_call (Jt0 KX p x ?_)));refine wpAny_pure ?_;refine PySem.W.handed_on rfl ?_;exact wpAny_pure h
theorem Jpe(x:ExcCl K C)(hc:(PySem.W.clsIn K C).isSome=true):PySem.W.KitX K (.ref ea) (.ref C) (ExcAt ea C)where
 ty:=λM h _ p=>Jd1 M h p
 it:=λ_ _ X _=>by
  obtain⟨cdD,hcD⟩:=Option.isSome_iff_exists.mp hc;unfold PySem.W.clsIn at hcD;split at hcD
  ·rename_i c' d' cd' sl' ho;intro A' Q' E' s' k q;unfold isType loadHead;exact wpAny_bind (wpAny_loadPart (k _ _ (X _ _ ho)) (wpAny_pure q))
  ·cases hcD
 ne:=λh tp dd its n sl X htp=>by
  obtain⟨cdD,hcD⟩:=Option.isSome_iff_exists.mp hc;refine Bool.eq_false_iff.mpr λq=>?_;have e:C=tp:=Value.ref.inj (beq_iff_eq.mp q);subst e;unfold PySem.W.clsIn at hcD;split at hcD
  ·rename_i c' d' cd' sl' ho;have z:=(X _ _ ho).symm.trans htp;cases z
  ·cases hcD
 ca:=λX p h=>Jnd X p x h
theorem Jpg{c:Value}{b:Bool}{Q:Value->Shared->Prop}(x:ExcCl K C)(hc:(PySem.W.clsIn K C).isSome=true)(KX:K.In s.heap)(p:ExcAt ea C s.heap)(e:PySem.W.kitOne K (.ref C) c=some b)(h:∀tk,Q (.bool b) {s with toks:=tk}):
  wpAny (model prog w) A (call (.builtin "isinstance") [.ref ea,c]) Q E s:=
 PySem.W.kia_one (Jpe x hc) KX p e (λz=>nomatch z) h
end
end
section
variable {X:Cx} {pins pins':List (Addr×Obj)} {σ:St} {H H':Hp} {s s':Shared} {D:Ends} {E:Value->Shared->Prop} {ea C:Addr} {a0:Value} {B:Heap} {oe:Obj}
noncomputable abbrev Cx.pinned(X:Cx)(pins:List (Addr×Obj))(E:Value->Shared->Prop):Cx:={X with pn:=X.pn++pins,xe:=E}
theorem Cx.Ok.pinned(ok:X.Ok):(X.pinned pins E).Ok:=⟨ok.mod,ok.kind,ok.glob,ok.blt,ok.above,ok.inj,ok.has,ok.cab,ok.hd,ok.frames,ok.stk,ok.exf,ok.bs,ok.bsz,ok.noex,ok.exfs,ok.funs,ok.frf⟩
theorem Cx.Ok.unpinned(ok:(X.pinned pins E).Ok):X.Ok:=⟨ok.mod,ok.kind,ok.glob,ok.blt,ok.above,ok.inj,ok.has,ok.cab,ok.hd,ok.frames,ok.stk,ok.exf,ok.bs,ok.bsz,ok.noex,ok.exfs,ok.funs,ok.frf⟩
theorem Inv.pinX(I:Inv X pins σ H s):Inv (X.pinned pins E) [] σ H s:=⟨I.ok.pinned,I.os,I.bare,I.base,I.loc,I.cell,I.free,I.freeC,λp hp=>I.pin p (by simpa using hp),I.hok,I.len⟩
theorem Inv.unpinX(I:Inv (X.pinned pins E) pins' σ H s):Inv X pins σ H s:=⟨I.ok.unpinned,I.os,I.bare,I.base,I.loc,I.cell,I.free,I.freeC,λp hp=>I.pin p (List.mem_append_left _ hp),I.hok,I.len⟩
theorem SP.unpinned{f:Flow}(h:SP (X.pinned pins E) [] D f s'):SP X pins D f s':=by
 cases f with
 |next=>obtain⟨σ',H',I,q⟩:=h;exact⟨σ',H',I.unpinX,q⟩
 |brk=>obtain⟨σ',H',I,q⟩:=h;exact⟨σ',H',I.unpinX,q⟩
 |cont=>obtain⟨σ',H',I,q⟩:=h;exact⟨σ',H',I.unpinX,q⟩
 |ret u=>obtain⟨v,σ',H',I,q⟩:=h;exact⟨v,σ',H',I.unpinX,q⟩
noncomputable abbrev Cx.hand(X:Cx)(pins:List (Addr×Obj))(ea:Addr)(oe:Obj):Cx:={X with A:=X.A.mark (some (.ref ea)),calm:=false,pn:=(X.pn++pins)++[(ea,oe)],xe:=λ_ _=>False}
theorem Cx.Ok.hand(ok:X.Ok):(X.hand pins ea oe).Ok:=⟨ok.mod,ok.kind,ok.glob,ok.blt,ok.above,ok.inj,ok.has,ok.cab,λz=>(by cases z),ok.frames,ok.stk,ok.exf,ok.bs,ok.bsz,ok.noex,ok.exfs,ok.funs,ok.frf⟩
theorem Inv.hand(I:Inv X pins σ H s)(h1:s.heap.get? ea=some oe)(h2:H ea=none)(h3:ea≠X.env.locals)(h4:ea∉X.fs)(h5:∀v,oe.data≠ .cell v):Inv (X.hand pins ea oe) [] σ H s:=by
 refine⟨I.ok.hand,I.os,I.bare,I.base,I.loc,I.cell,I.free,I.freeC,λp hp=>?_,I.hok,I.len⟩;simp only[List.append_nil,List.mem_append,List.mem_singleton]at hp;rcases hp with hp|rfl
 ·exact I.pin p (List.mem_append.mpr hp)
 ·exact⟨h1,h2,h3,h4,h5⟩
theorem Inv.unhand(I:Inv (X.hand pins ea oe) pins' σ H s)(ok:X.Ok):Inv X pins σ H s:=⟨ok,I.os,I.bare,I.base,I.loc,I.cell,I.free,I.freeC,λp hp=>I.pin p (List.mem_append_left _ (List.mem_append_left _ hp)),I.hok,I.len⟩
theorem Inv.gone{i:Nat}{n:Str}{m:Str->Option Value}{v:Option Value}{h':Heap}(I:Inv X pins σ H s)(hN:X.N.Nodup)(hi:X.N[i]? =some n)(hn:s.heap.Ns X.env.locals m)
  (hl:∀(i:Nat) (x:Str) (v:V),X.N[i]? =some x->σ[i]? =some (some v)->Vis X.env.scope x->∃u,RelV v u/\Look X.env s.heap m x u)
  (ns:h'.Ns X.env.locals (λy=>if y=n then v else m y))(hs:Heap.SameBut X.env.locals s.heap h')(t':Nat):Inv X pins (σ.set i none) H {s with heap:=h',toks:=t'}:=by
 have hiσ:i<σ.length:=by rw[I.len];exact(List.getElem?_eq_some_iff.mp hi).1
 have hok:HOk X.prog X.w H h':=I.hok.some λc u hc q=>(hs.2 c λz=>hc (by rw[z];exact I.free)).trans q;refine⟨I.ok,I.os,I.bare,⟨λb o e n hb hx=>?_,λb o e n hb hx=>?_,I.base.free,λb o e hx=>?_,I.base.tups,I.base.frzs,I.base.tbls⟩,⟨_,ns,λj y v' e1 e2 e3=>?_⟩,λy c e=>?_,I.free,I.freeC,λp hp=>?_,hok,by simpa using I.len⟩
 ·exact(hs.2 b (Ja0 I e)).trans (I.base.keep b o e n hb hx)
 ·obtain⟨sl,e1⟩:=I.base.slot b o e n hb hx;exact⟨sl,(hs.2 b (Ja0 I e)).trans e1⟩
 ·obtain⟨o',e1⟩:=I.base.there b o e hx;exact⟨o',(hs.2 b (Ja0 I e)).trans e1⟩
 ·by_cases hj:j=i
  ·subst hj;rw[List.getElem?_set_self hiσ]at e2;cases e2
  ·rw[List.getElem?_set_ne (Ne.symm hj)]at e2;obtain⟨u',r',q⟩:=hl j y v' e1 e2 e3;refine⟨u',r',?_⟩;rcases q with⟨k,e⟩|⟨k,c,e,z⟩
   ·refine .inl ⟨k,?_⟩;have:y≠n:=λe=>hj (Jgg hN e1 (e▸hi));simp[this,e]
   ·exact .inr ⟨k,c,e,z.sameBut hs (I.cne y c e)⟩
 ·obtain⟨w',z⟩:=I.cell y c e;exact⟨w',z.sameBut hs (I.cne y c e)⟩
 ·obtain⟨e,n,ne,nf,d⟩:=I.pin p hp;exact⟨(hs.2 p.1 ne).trans e,n,ne,nf,d⟩
noncomputable def Ends.hnd(D:Ends)(i:Nat):Ends:={nx:=λσ' H2=>D.nx (σ'.set i none) H2,rt:=λ_ _=>False}
theorem Fly.ea_ne(b:Body X)(f:Fly X pins σ H s H' s' ea C a0 B):ea∉L2.frs X.stack:=λz=>by
 obtain⟨_,o,e1,_⟩:=f.pre.stack.mem z;rw[f.nw]at e1;cases e1
theorem Fly.catch{x n:Str}{Cc:Value}{np hpos:Pos}{h0:Stmt}{hs:List Stmt}{th:TS}{i:Nat}(b:Body X)(f:Fly X pins σ H s H' s' ea C a0 B)(hN:X.N.Nodup)(hi:X.N[i]? =some n)(hl:X.env.scope.names.lookup n=some .local)
  (hg:Gl X x)(hm:X.mg x=some Cc)(hd:(x==("__debug__":Str))=false)(hx:PySem.W.exmOne X.K (.ref C) Cc=some true)
  (hh:∀oe:Obj,oe.cls=.ref C->(∃vs,oe.data=.fields vs/\vs[2]? =some .none)->PSs (X.hand pins ea oe) (h0::hs) th)(q:th (D.hnd i) (σ.set i (some (.ref ea))) H'):
  wpAny (model X.prog X.w) X.A (noteFrame (.ref ea) X.env) (λ_ s₂=>wpAny (model X.prog X.w) X.A (setFlight (.ref ea) none) (λ_ s₃=>wpAny (model X.prog X.w) X.A (handleBy (.ref ea) X.env [.ExceptHandler (some (.Name x np)) (some n) (h0::hs) hpos]) (SP X pins D) X.xe s₃) X.xe s₂) X.xe s':=by
 have fl:=f.fl;rw[b.stk]at fl;refine FlyC.looks (by rw[<-b.stk];exact f.pre.ok.frames) b.fr fl λh4 held up4=>?_;refine HeldC.lands (s:={s' with heap:=h4}) held λh5 fl5 up5=>?_;rw[<-b.stk]at fl5;have f5:Fly X pins σ H s H' {s' with heap:=h5} ea C a0 B:=f.turn fl5 (up4.trans up5);have I5:=f5.inv;have ne:=f.ea_ne b;rw[b.frs]at ne;have ne1:ea≠X.env.locals:=λz=>ne (by rw[z];exact List.mem_cons_self);have ne2:ea∉X.fs:=λz=>ne (List.mem_cons_of_mem _ z);have hand:∀{h:Heap} {σ:St} {s'':Shared},s''.heap=h->Inv X pins σ H' s''->FlyC B X.stack ea (.ref C) a0 h->∃oe:Obj,oe.cls=.ref C/\(∃vs,oe.data=.fields vs/\vs[2]? =some .none)/\Inv (X.hand pins ea oe) [] σ H' s'':=λ{h σ s''} eh I fl=>by
  obtain⟨oe,vs,h1,h2,h3,_⟩:=fl.1.first;subst eh;obtain⟨oe',vs',k1,k2,k3⟩:=fl.2;rw[h1]at k1;cases k1;exact⟨oe,h2,⟨vs',k2,k3⟩,I.hand h1 f.hn ne1 ne2 (by rw[h3];exact nofun)⟩
 refine wpAny_handleBy_cons (codeAny_handlers_test ?_) (by intro z;cases z);obtain⟨oe5,c5,_,J5⟩:=hand rfl I5 fl5;refine Jd8 J5 hg hm ?_ hd;refine(PySem.W.exm_one I5.kIn (Jd1 _ _ (by obtain⟨oe,vs,h1,h2,h3,_⟩:=fl5.1.first;exact⟨oe,h1,h2⟩)) hx).here ?_;refine codeAny_handlers_suite_as ?_;refine FlyC.lands (s:={s' with heap:=h5}) fl5 λh6 fl6 up6=>?_;have f6:Fly X pins σ H s H' {s' with heap:=h6} ea C a0 B:=f5.turn fl6 up6;obtain⟨oe,c6,v6,J6⟩:=hand rfl f6.inv fl6;refine Jf6 (X:=X.hand pins ea oe) J6 hN hi (.inl hl) (show RelV (.ref ea) (.ref ea)from rfl) (λs7 J7=>?_) (.inr hl);refine wpAny_mono ((hh oe c6 v6) [] s7 _ _ (D.hnd i) J7 q) (λfl8 s8 h8=>?_) (λ_ _ z=>False.elim z);cases fl8 with
 |next=>
  obtain⟨σ',H2,J8,q8⟩:=h8;have I8:Inv X pins σ' H2 s8:=J8.unhand f.pre.ok;obtain⟨m,hn,hlk⟩:=id I8.loc;refine wpAny_nameGoes_keeps hl hn (by rw[I8.ok.kind];rfl) λh9 v ns same=>?_;exact⟨σ'.set i none,H2,I8.gone hN hi hn hlk ns same _,q8⟩
 |brk=>obtain⟨_,_,_,z⟩:=h8;exact z.elim
 |cont=>obtain⟨_,_,_,z⟩:=h8;exact z.elim
 |ret u=>obtain⟨_,_,_,_,_,z⟩:=h8;exact z.elim
theorem Jri{body:List Stmt}{hd:ExceptHandler}{pos:Pos}
  (hb:wpAny (model X.prog X.w) X.A (execs body X.env) (SP (X.pinned pins (λe s₁=>wpAny (model X.prog X.w) X.A (noteFrame e X.env) (λ_ s₂=>wpAny (model X.prog X.w) X.A (setFlight e none) (λ_ s₃=>wpAny (model X.prog X.w) X.A (handleBy e X.env [hd]) (SP X pins D) X.xe s₃) X.xe s₂) X.xe s₁)) [] D)
   (λe s₁=>wpAny (model X.prog X.w) X.A (noteFrame e X.env) (λ_ s₂=>wpAny (model X.prog X.w) X.A (setFlight e none) (λ_ s₃=>wpAny (model X.prog X.w) X.A (handleBy e X.env [hd]) (SP X pins D) X.xe s₃) X.xe s₂) X.xe s₁) s):
  wpAny (model X.prog X.w) X.A (exec (.Try body [hd] [] [] pos) X.env) (SP X pins D) X.xe s:=by
 refine wpAny_Try_except (wpAny_mono hb (λf s₁ h₁=>?_) λ_ _ z=>z);have h₂:=h₁.unpinned;cases f with
 |next=>exact wpAny_execs_nil h₂
 |brk=>exact h₂
 |cont=>exact h₂
 |ret u=>exact h₂
end
theorem Fun.okX{P:Program}{w:World}{K:PySem.W.Frag}{mg:Str->Option Value}{base:Heap}{CX:CXT}{x qual:Str}{st:Stmt}{f:Addr}{fd:FuncData}{N ps:List Str}{k:Nat}{sp:Sp}(F:Fun K x qual st f fd)(S:FnScope N ps (defScope st))(len:∀vs H Q E,sp vs H Q E->vs.length=ps.length)
  (hbody:∀(cdv:Value) (A:Around) (outer:List Env) (s:Shared) (H:Hp) (vs:List V) (Q:VK) (E:XK),Room k (A.deeper (envOfC qual (defScope st) s.heap.objs.size f cdv))->sp vs H Q E->
   ∃t,PSs (cxOf CX P w K mg base N qual (defScope st) f cdv A outer s H E) (defBody st) t/\t {nx:=λ_ H'=>Q .non H',rt:=Q} (start N vs) H):FnOk P w K mg base CX (k+1) f fd ps sp:=by
 obtain⟨oc,od,kV,doc,pm,an,cdv,ct,osl,rfl,lk,hcd⟩:=F.ex;exact Jx1 lk hcd S len λA outer s H vs Q E hr hsp=>hbody cdv A outer s H vs Q E hr hsp
section
variable {X:Cx} {pins:List (Addr×Obj)} {σ:St} {H H':Hp} {s s':Shared} {ea C:Addr} {a0:Value} {B h':Heap} {wr:List Addr} {E':XK} {M:Model} {EE:Value->Shared->Prop}
structure Hold(X:Cx)(pins:List (Addr×Obj))(σ:St)(H:Hp)(s:Shared)(H':Hp)(s':Shared)(ea C:Addr)(a0:Value)(B:Heap)(wr:List Addr):Prop where
 pre:Inv X pins σ H s
 os:s'.os=s.os
 bare:AllBare s'.gens
 un:Un (L2.frs X.stack) wr H H' s.heap s'.heap
 hok:HOk X.prog X.w H' s'.heap
 fl:HeldC B X.stack ea (.ref C) a0 X.env.locals s'.heap
 cov:∀b o,s'.heap.get? b=some o->(H' b≠none\/((∃u,s.heap.get? b=some u)/\b∉wr))->b∉L2.frs X.stack->B.get? b=some o
 wok:∀b∈wr,(b∈X.ex\/X.s₀.heap.objs.size<=b)/\b≠X.env.locals/\(∀x c,X.env.cells.lookup x=some c->c≠b)/\∀p∈X.pn++pins,p.1≠b
 hn:H' ea=none
 nw:X.s₀.heap.get? ea=none
theorem Hold.inv(f:Hold X pins σ H s H' s' ea C a0 B wr):Inv X pins σ H' s':=f.pre.call' f.os f.un f.hok f.bare f.wok
theorem Hold.core(f:Hold X pins σ H s H' s' ea C a0 B wr)(st:B.StaysIn h')(up:s'.heap.UpToSlots h'):Un (L2.frs X.stack) wr H H' s.heap h'/\HOk X.prog X.w H' h'/\
  (∀b o,h'.get? b=some o->(H' b≠none\/((∃u,s.heap.get? b=some u)/\b∉wr))->b∉L2.frs X.stack->B.get? b=some o):=by
 have nin:∀{c},H' c≠none->c∉L2.frs X.stack:=λ{c} hc z=>hc (f.inv.stkFree c z);have sl:∀c o,s'.heap.get? c=some o->c∈L2.frs X.stack->∃z,h'.get? c=some {o with slots:=z}:=λc o q hc=>by
  obtain⟨_,o',e1,nf⟩:=f.inv.stack.mem hc;rw[q]at e1;cases e1;exact up c o q nf
 have ke:∀c o,s'.heap.get? c=some o->(H' c≠none\/((∃u,s.heap.get? c=some u)/\c∉wr))->c∉L2.frs X.stack->h'.get? c=some o:=λc o q hc hf=>st c o (f.cov c o q hc hf);refine⟨⟨λc o q n hc hx=>ke c o (f.un.keep c o q n hc hx) (.inr ⟨⟨_,q⟩,hx⟩) hc,λc o q n hc hx=>?_,f.un.free,λc o q hx=>?_,f.un.tups,f.un.frzs,f.un.tbls⟩,f.hok.some λc u hc q=>ke c u q (.inl hc) (nin hc),λc o q hc hf=>?_⟩
 ·obtain⟨z,e1⟩:=f.un.slot c o q n hc hx;exact(sl c _ e1 hc).imp λ_ e2=>e2
 ·obtain⟨o',e1⟩:=f.un.there c o q hx
  by_cases hc:c∈L2.frs X.stack
  ·exact(sl c _ e1 hc).elim λ_ e2=>⟨_,e2⟩
  ·exact⟨o',ke c o' e1 (.inr ⟨⟨_,q⟩,hx⟩) hc⟩
 ·have:∃o',s'.heap.get? c=some o':=hc.elim f.hok.has λ⟨⟨u,hu⟩,hx⟩=>f.un.there c u hu hx;obtain⟨o',e1⟩:=this;have b1:=f.cov c o' e1 hc hf;have b2:=st c o' b1;rw[q]at b2;cases b2;exact b1
theorem Hold.turn(f:Hold X pins σ H s H' s' ea C a0 B wr)(fl:HeldC B X.stack ea (.ref C) a0 X.env.locals h')(up:s'.heap.UpToSlots h'):Hold X pins σ H s H' {s' with heap:=h'} ea C a0 B wr:=
 let⟨un,hok,cov⟩:=f.core fl.1.1 up
 ⟨f.pre,f.os,f.bare,un,hok,fl,cov,f.wok,f.hn,f.nw⟩
theorem Hold.leave(b:Body X)(f:Hold X pins σ H s H' s' ea C a0 B wr)(hE:E' (.ref C) none H'):wpAny M X.A (leaving X.env (.ref ea)) (λ_ s''=>CX1 X.prog X.w X.outer X.H₀ X.s₀ E' (.ref ea) s'') EE s':=by
 unfold leaving;refine wpAny_bind (wpAny_noteFrame_againW b.fr f.fl.1.2.2.2 (HeldC.lands f.fl λh' fl up=>?_));obtain⟨un,hok,cov⟩:=f.core fl.1.1 up;have I:Inv X pins σ H' {s' with heap:=h'}:=f.pre.call' f.os un hok f.bare f.wok;have bs:=I.base;rw[b.ex]at bs;have fo:FlyC B X.outer ea (.ref C) a0 h':=by
  rw[b.stk]at fl;exact FlyC.inner (s:={s' with heap:=h'}) fl
 refine⟨ea,C,a0,B,H',rfl,I.os,I.bare,bs,hok,fo,λc o q hc hf=>cov c o q ?_ ?_,f.hn,f.nw,hE⟩
 ·rcases hc with hc|⟨u,hu⟩
  ·exact .inl hc
  ·refine .inr ⟨f.pre.base.there c u hu (by rw[b.ex];simp),λz=>?_⟩;rcases(f.wok c z).1 with z|z
   ·rw[b.ex]at z;simp at z
   ·exact absurd (Heap.lt_size hu) (Nat.not_lt.mpr z)
 ·rw[b.frs];intro z;rcases List.mem_cons.mp z with z|z
  ·subst z;rcases hc with hc|⟨u,hu⟩
   ·exact hc I.free
   ·exact Ja0 I hu rfl
  ·exact hf z
theorem Jnz{N':List Str}{scope:Scope}{ex:List Addr}{xe:Value->Shared->Prop}{pins':List (Addr×Obj)}{σ':St}{H1:Hp}{s1 s2 s₃:Shared}{E:XK}{e:Value}(b:Body X)(bo:BlockOk X pins σ H s₃ ex)(J:Inv (compCx X N' scope s₃ H ex pins xe) pins' σ' H1 s1)
  (cx:CX1 X.prog X.w X.stack H1 s1 E e s2)(hX:∀H' s' ea C a0 B,Hold X pins σ H s₃ H' s' ea C a0 B ex->E (.ref C) none H'->X.xe (.ref ea) s'):compXe X scope s₃ e s2:=by
 obtain⟨ea,C,a0,B,H',rfl,hE,f⟩:=CX1.fly J cx;have fl:FlyC B X.stack ea (.ref C) a0 s2.heap:=f.fl;rw[b.stk]at fl;show wpAny _ X.A (noteFrame (.ref ea) X.env) _ _ s2;refine FlyC.looks (by rw[<-b.stk];exact bo.inv.ok.frames) b.fr fl λh4 held up=>?_;rw[<-b.stk]at held;obtain⟨un4,hok4,cov4⟩:=f.core held.1.1 up;have J4:Inv (compCx X N' scope s₃ H ex pins xe) pins' σ' H' {s2 with heap:=h4}:=J.call' f.os un4 hok4 f.bare (λb z=>absurd z (by simp));obtain⟨m,hn,_⟩:=J4.loc;refine⟨m,hn,λh5 sb=>?_⟩;have b4:Un (L2.frs X.stack) ex H H' s₃.heap h4:=J4.base;have hC:H' s₃.heap.objs.size=none:=J4.free;have cn:∀{c:Addr} {u:Obj},s₃.heap.get? c=some u->c≠s₃.heap.objs.size:=λq=>Nat.ne_of_lt (Heap.lt_size q);have sm:∀{c:Addr},c≠s₃.heap.objs.size->h5.get? c=h4.get? c:=λ{c} q=>sb.2 c q;obtain⟨oc,es,ep,hoc,hdc,_⟩:=hn;have fn:∀{c:Addr} {o:Obj} {us:Array Value},h4.get? c=some o->o.data=.fields us->c≠s₃.heap.objs.size:=λ{c o us} q d z=>by
  have hoc':h4.get? s₃.heap.objs.size=some oc:=hoc;rw[z,hoc']at q;cases q;rw[hdc]at d;cases d
 have frn:∀{c:Addr},c∈L2.frs X.stack->c≠s₃.heap.objs.size:=λ{c} q=>by
  obtain⟨_,o,e1,_⟩:=bo.inv.stack.mem q;exact cn e1
 have ff:h5.FunFrames (PySem.W.hideAll B [s₃.heap.objs.size]) X.stack:=by
  have f0:h4.FunFrames (PySem.W.hideAll B [s₃.heap.objs.size]) X.stack:=PySem.W.funFrames_base (λc o q=>PySem.W.of_hideAll _ q) held.1.2.2.1;have all:∀l:List Env,(∀c∈L2.frs l,c∈L2.frs X.stack)->h4.FunFrames (PySem.W.hideAll B [s₃.heap.objs.size]) l->h5.FunFrames (PySem.W.hideAll B [s₃.heap.objs.size]) l:=by
   intro l
   induction l with
   |nil=>exact λ_ _=>trivial
   |cons v r ih=>
    rintro hl ⟨k1,⟨L,o,k2,k3,k4,k5⟩,k6⟩;refine⟨k1,⟨L,o,k2,k3,(sm (frn (hl L ?_))).trans k4,k5⟩,ih (λc q=>hl c ?_) k6⟩
    ·unfold L2.frs;rw[List.filterMap_cons,k2];exact List.mem_cons_self
    ·unfold L2.frs;rw[List.filterMap_cons,k2];exact List.mem_cons_of_mem _ q
  exact all _ (λ_ z=>z) f0
 have hd:Hold X pins σ H s₃ H' {s2 with heap:=h5} ea C a0 (PySem.W.hideAll B [s₃.heap.objs.size]) ex:=by
  refine⟨bo.inv,J4.os,f.bare,⟨λc o q n hc hx=>(sm (cn q)).trans (b4.keep c o q n hc hx),λc o q n hc hx=>?_,b4.free,λc o q hx=>?_,b4.tups,b4.frzs,b4.tbls⟩,hok4.some λc u hc q=>(sm (c:=c) λz=>hc (by rw[z];exact hC)).trans q,⟨⟨λc o q=>?_,?_,ff,?_⟩,?_⟩,λc o q hc hf=>?_,λc hc=>?_,f.hn,?_⟩
  ·obtain⟨z,e1⟩:=b4.slot c o q n hc hx;exact⟨z,(sm (cn q)).trans e1⟩
  ·obtain⟨o',e1⟩:=b4.there c o q hx;exact⟨o',(sm (cn q)).trans e1⟩
  ·refine(sm λz=>?_).trans (held.1.1 c o (PySem.W.of_hideAll _ q));rw[z,PySem.W.hideAll_none _ (List.mem_singleton.mpr rfl)]at q;cases q
  ·exact PySem.W.fresh_of_stays (λc o q=>PySem.W.of_hideAll _ q) held.1.2.1
  ·obtain⟨oe,vs,T,oT,ts,a1,a2,a3,a4,a5,a6,a7,a8,a9⟩:=held.1.2.2.2;exact⟨oe,vs,T,oT,ts,(sm (fn a1 a3)).trans a1,a2,a3,a4,PySem.W.fresh_of_stays (λc o q=>PySem.W.of_hideAll _ q) a5,a6,(sm (fn a7 a8)).trans a7,a8,a9⟩
  ·obtain⟨oe,vs,a1,a3,a4⟩:=held.2;exact⟨oe,vs,(sm (fn a1 a3)).trans a1,a3,a4⟩
  ·have hne:c≠s₃.heap.objs.size:=hc.elim (λz w=>z (by rw[w];exact hC)) λ⟨⟨u,hu⟩,_⟩=>cn hu;have q4:h4.get? c=some o:=(sm hne).symm.trans q;refine PySem.W.hideAll_get _ (cov4 c o q4 ?_ hf) λz=>hne (List.mem_singleton.mp z);exact hc.imp (λz=>z) λ⟨⟨u,hu⟩,hx⟩=>J.base.there c u hu hx
  ·obtain⟨x1,x2,x3,x4,x5⟩:=bo.exo c hc;exact⟨x4,x2,x5,bo.pin c hc⟩
  ·cases q:X.s₀.heap.get? ea with
   |none=>rfl
   |some o=>
    exfalso;obtain⟨o1,e1⟩:=bo.inv.base.there ea o q (by rw[b.ex];simp)
    by_cases hx:ea∈ex
    ·rcases(bo.exo ea hx).2.2.2.1 with z|z
     ·rw[b.ex]at z;simp at z
     ·exact absurd (Heap.lt_size q) (Nat.not_lt.mpr z)
    ·obtain⟨o2,e2⟩:=J.base.there ea o1 e1 hx;rw[f.nw]at e2;cases e2
 obtain⟨oe,vs,T,oT,ts,a1,a2,a3,a4,a5,a6⟩:=hd.fl.1.2.2.2;unfold PySem.passOn;refine wpAny_bind (wpAny_field a1 a3 a4 ?_);rw[if_neg (show¬((Value.ref T==Value.none)=true)from by simp),b.fr]
 first
  |exact wpAny_bind (wpAny_pure (wpAny_bind (HeldC.again hd.fl λh6 fl6 up6=>wpAny_throw (hX _ _ _ _ _ _ (hd.turn fl6 up6) hE))))
  |exact wpAny_bind (HeldC.again hd.fl λh6 fl6 up6=>wpAny_throw (hX _ _ _ _ _ _ (hd.turn fl6 up6) hE))
end
section
variable {prog:Program} {w:World} {A:Around} {E:Value->Shared->Prop} {s:Shared}
theorem Jgl:entryFor table "proto.unchain"=some Builtin.«proto.unchain»:=entryFor_of_fast (by kernel_rfl)
theorem Jkg{q l h:Addr}{n:Nat}{its:Array Value}{Q:Option Value->Shared->Prop}(hh:A.handled=some (.ref h))(c2:Cx2 h s.heap)(hne:h≠q)(ii:s.heap.IsListIter q l n)(il:s.heap.IsList l its)(hx:its[n]? =none)
  (k:∀h',Heap.ExtBut q s.heap h'->Q none {s with heap:=h'}):wpAny (model prog w) A (pyNext (.ref q)) Q E s:=by
 obtain⟨o,ho,hc,hd⟩:=id ii;obtain⟨ol,hol,_,nl,dl⟩:=il;obtain⟨oe,vs,he,de,v2⟩:=c2;unfold pyNext;refine wpAny_bind (wpAny_attempt (wpAny_callSpecial?_slot (name:=Str.ofString "__next__") ii.typeIs slot_listiter_next (wpAny_call_entry slot_listiter_next ii.typeIs entry_listiter_next ?_ (args_listiter_next _))));show wpAny _ _ (field (.ref q) 0>>=_) _ _ s;refine wpAny_bind (wpAny_field (x:=.ref l) ho hd rfl ?_);show wpAny _ _ (if(Value.ref l==Value.none)=true then _ else _) _ _ _;rw[if_neg (show¬((Value.ref l==Value.none)=true)from nofun)];show wpAny _ _ (field (.ref q) 1>>=_) _ _ s;refine wpAny_bind (wpAny_field (x:=.int n 0) ho hd rfl ?_);show wpAny _ _ (seqItems? (.ref l)>>=_) _ _ _;refine wpAny_bind (wpAny_seqItems hol dl ?_);simp only[Int.toNat_natCast,hx];refine wpAny_bind (wpAny_rule (wpAny_bind (wpAny_setField ho hd (by simp) ?_)));generalize hu:s.heap.update q _=u;have su:Heap.SameBut q s.heap u:=by subst hu;exact Heap.SameBut.update ..
 show wpAny _ _ (newExc (.type "StopIteration") []>>=_) _ _ _;refine wpAny_bind ?_;simp only[newExc,newTuple];refine wpAny_bind (wpAny_newObj_type ?_ (by size_fits));refine wpAny_bind (m:=firstArgMember _ _) (wpAny_of_eq (a:=Value.none) (by first|rfl|(simp only[firstArgMember];rfl)) ?_);refine wpAny_newObj_type ?_ (by size_fits);generalize ht:u.push _=u1;have gh:u1.get? h=some oe:=by
  subst ht;exact Heap.get?_push_of_some _ ((su.2 h hne).trans he)
 generalize hox:({cls:=.type "StopIteration",data:=.fields _}:Obj)=ox;have neq:h≠u1.objs.size:=Nat.ne_of_lt (Heap.lt_size gh);have gh2:(u1.push ox).get? h=some oe:=Heap.get?_push_of_some _ gh;simp only[raiseNew];refine wpAny_bind (wpAny_handled ?_);rw[show A.in1.handled=some (.ref h)from hh];show wpAny _ _ (if(Value.ref h !=Value.ref u1.objs.size)=true then _ else _) _ _ _;rw[if_pos (by simp[neq])];refine wpAny_bind (wpAny_holding (wpAny_runValue (codeAny_builtin Jgl ?_)));unfold Builtin.«proto.unchain»;refine wpAny_bind (wpAny_field gh2 de v2 ?_);rw[if_pos (show(Value.none==Value.none)=true from rfl)];refine wpAny_pure (show wpAny _ _ (updateField u1.objs.size 2 (.ref h)>>=_) _ _ _ from ?_);obtain⟨xs,dx,cx,sx⟩:∃xs,ox.data=.fields xs/\ox.cls=.type "StopIteration"/\2<xs.size:=by subst hox;exact⟨_,rfl,rfl,by simp;omega⟩
 have gx:(u1.push ox).get? u1.objs.size=some ox:=Heap.get?_push_size _ (Obj.isFreed_of_fields dx);refine wpAny_bind ?_;unfold updateField;refine wpAny_bind (wpAny_load gx ?_);rw[dx];show wpAny _ _ (if 2<xs.size then _ else _) _ _ _;rw[if_pos sx];refine wpAny_update gx (wpAny_throw ?_);have d2:=Obj.data_mapFields dx (·.setIfInBounds 2 (Value.ref h));refine wpAny_bind (wpAny_isInstance (T:="StopIteration") (b:=true) ⟨_,Heap.get?_update_self _ gx (Obj.isFreed_of_fields d2),(Obj.cls_mapFields _ _).trans cx⟩ isSubtype_stop ?_);refine wpAny_pure (k _ λb o hb q1=>?_);have q2:u1.get? b=some o:=by subst ht;exact Heap.get?_push_of_some _ ((su.2 b hb).trans q1)
 exact(Heap.get?_update_other _ _ (Nat.ne_of_gt (Heap.lt_size q2))).trans (Heap.get?_push_of_some _ q2)
end
noncomputable def HandOk(X:Cx):Prop:=∃h oe vs,X.A.handled=some (.ref h)/\(h,oe)∈X.pn/\oe.data=.fields vs/\vs[2]? =some .none
theorem turnH{P:Program}{w:World}{K:PySem.W.Frag}{tg:Expr}(a it:Addr):TurnC P w K tg (Itl K a) [it] it (λi h=>h.IsListIter it a i) HandOk where
 obj:=(Jdr (P:=P) (w:=w) (K:=K) (tg:=tg) a it).obj
 keep:=(Jdr (P:=P) (w:=w) (K:=K) (tg:=tg) a it).keep
 self:=(Jdr (P:=P) (w:=w) (K:=K) (tg:=tg) a it).self
 item:=by
  intro X e1 e2 e3 _ i pins s σ H E I hf st ⟨xs,x,hq,hx⟩;subst e1 e2 e3;obtain⟨its,rv,p,_⟩:=I.list hq;obtain⟨u,hu,ru⟩:=rv.get hx;obtain⟨f0,f1,f2,f3,f4,f5⟩:=hf it List.mem_cons_self;refine wpAny_pyNext_list_item st p.isList (by simpa using hu) λh1 st1 sb=>?_;have I1:Inv X pins σ H {s with heap:=h1}:=I.turned (t':=s.toks) (λb o hb q=>(sb.2 b hb).trans q) f0 f1 f3 f4 f5;obtain⟨o,q1,q2,q3⟩:=id st1;exact⟨u,rfl,Jkl (s:={s with heap:=h1}) q1 q2 q3 (by decide) ⟨x,H,I1,ru,⟨rfl,λys hy=>by rw[I.list_inj hy hq];exact hx⟩,st1,λb hb=>(hf b hb).1⟩⟩
 done:=by
  intro X e1 e2 e3 ⟨h,oe,vs,hh,hp,de,v2⟩ i pins s σ H E I hf st ⟨xs,hq,hx⟩;subst e1 e2 e3;obtain⟨its,rv,p,_⟩:=I.list hq;obtain⟨f0,f1,f2,f3,f4,f5⟩:=hf it List.mem_cons_self;have hl:=rv.length;have pin:=(I.pin (h,oe) (List.mem_append_left _ hp)).1;exact Jkg hh ⟨oe,vs,pin,de,v2⟩ (f5 (h,oe) (List.mem_append_left _ hp)) st p.isList (by simp;omega) λh1 eb=>⟨rfl,I.turned (t':=s.toks) (λb o hb q=>eb b o hb q) f0 f1 f3 f4 f5⟩
theorem Jo0{X:Cx}{N':List Str}{k:Nat}{keep:List Nat}{scope:Scope}{elt tg iter:Expr}{ifs:List Expr}{pos:Pos}{tl te:TE}{g:TG}{tc:TT}(c:CompOk X N' k keep scope)(hk:HandOk X)(hl:PE X iter tl)
  (hg:∀s₃ H ex pins,PG (compCx X N' scope s₃ H ex pins) tg g)(hc:∀s₃ H ex pins,PTs (compCx X N' scope s₃ H ex pins) ifs tc)(he:∀s₃ H ex pins,PE (compCx X N' scope s₃ H ex pins) elt te)(hs:∀x,foldedSetIterable iter X.env x=pure x):
  PE X (.ListComp elt [⟨tg,iter,ifs,0⟩] scope pos) (tComp k keep (iList X.K tl) g tc te):=by
 intro pins s σ H Q I h;rw[eval_ListComp];refine Jfp (use:=none) rfl hs (Jcg (c.clo I.ok)) c.kind c.names ?_;refine thn (hl pins s σ H _ I h) λv s1 ⟨x,H1,I1,r1,q1⟩=>?_;obtain⟨a,e,⟨xs,hq⟩,hW⟩:=q1;subst e;cases r1;obtain⟨its,rv,p,hz⟩:=I1.list hq;refine wpAny_pyIter_list p.isList ?_;refine Jef (cm:=HandOk) (xe:=λ_ _ _=>False) c (λs₃ ex=>?_) (I1.kept (t':=s1.toks) λb o e=>Heap.get?_push_of_some _ e) (turnH a _) ⟨_,Heap.get?_push_size _ rfl,rfl,rfl⟩ (λb hb=>?_) (λs₃ ex=>hg s₃ H1 ex pins) (λs₃ ex=>hc s₃ H1 ex pins) (λs₃ ex _=>he s₃ H1 ex pins) (λ_ _ _ _ z=>z.elim) hW (RR:=λacc C=>compEnd (model X.prog X.w) X.A X.xe none (EP X pins σ Q) X.env acc C) ?_
 ·obtain⟨h',oe,vs,a1,a2,a3,a4⟩:=hk;exact⟨h',oe,vs,a1,List.mem_append_left _ a2,a3,a4⟩
 ·have e:b=s1.heap.objs.size:=by simpa using hb
  subst e;exact I1.fpOk (Nat.le_refl _) (I1.hok.fresh (Nat.le_refl _))
 ·intro D C s' H' xs m I' oD oC hDC new hn q;refine⟨m,hn,λh' hs'=>?_⟩;have I3:Inv X pins σ (upd H' D (.lst xs)) s':=I'.adopt oD.1 oD.2.1 oD.2.2.1 oD.2.2.2.1 oD.2.2.2.2 new;exact⟨.ref D,_,I3.turned (t':=s'.toks) (it:=C) (λb o hb e=>hs'.extBut b o hb e) (by rw[Jaf hDC.symm];exact oC.1) oC.2.2.1 (.inr oC.2.1) oC.2.2.2.1 oC.2.2.2.2,rfl,q D oD.1⟩
end L2
namespace L2
open PySem PySem.Spec PyProof.Rows
section
variable {X:Cx} {pins pins':List (Addr×Obj)} {σ:St} {H H':Hp} {s s':Shared} {D:Ends} {E:Value->Shared->Prop} {ea C:Addr} {a0:Value} {B:Heap} {oe:Obj}
theorem Inv.drop{more:List (Addr×Obj)}(I:Inv X (pins++more) σ H s):Inv X pins σ H s:=⟨I.ok,I.os,I.bare,I.base,I.loc,I.cell,I.free,I.freeC,λp hp=>I.pin p (by rw[<-List.append_assoc];exact List.mem_append_left _ hp),I.hok,I.len⟩
theorem SP.drop{more:List (Addr×Obj)}{f:Flow}(h:SP X (pins++more) D f s'):SP X pins D f s':=by
 cases f with
 |next=>obtain⟨σ',H',I,q⟩:=h;exact⟨σ',H',I.drop,q⟩
 |brk=>obtain⟨σ',H',I,q⟩:=h;exact⟨σ',H',I.drop,q⟩
 |cont=>obtain⟨σ',H',I,q⟩:=h;exact⟨σ',H',I.drop,q⟩
 |ret u=>obtain⟨v,σ',H',I,q⟩:=h;exact⟨v,σ',H',I.drop,q⟩
theorem SP.never{f:Flow}(h:SP X pins {nx:=λ_ _=>False,rt:=λ_ _=>False} f s'):False:=by
 cases f with
 |next=>obtain⟨σ',H',I,q⟩:=h;exact q
 |brk=>obtain⟨σ',H',I,q⟩:=h;exact q
 |cont=>obtain⟨σ',H',I,q⟩:=h;exact q
 |ret u=>obtain⟨v,σ',H',I,r,q⟩:=h;exact q
end
end L2
namespace L2
open PySem PySem.Spec PyProof.Rows
theorem HandOk.hand{X:Cx}{pins:List (Addr×Obj)}{ea:Addr}{oe:Obj}(h:∃vs,oe.data=.fields vs/\vs[2]? =some .none):HandOk (X.hand pins ea oe):=by
 obtain⟨vs,a,b⟩:=h;exact⟨ea,oe,vs,rfl,by simp,a,b⟩
theorem CompOk.hand{X:Cx}{pins:List (Addr×Obj)}{ea:Addr}{oe:Obj}{N':List Str}{k:Nat}{keep:List Nat}{scope:Scope}(c:CompOk X N' k keep scope):CompOk (X.hand pins ea oe) N' k keep scope:=⟨c.kind,c.cell,c.names,c.free,c.len,c.kept⟩
theorem Jip{K:PySem.W.Frag}{a:Addr}{bs:List Bool}{H0:Hp}{σ0:St}{Q:List V->Hp->Prop}(hl:SqL K H0 a (bs.map V.bl))(hz:bs.length<=sizeLine)(h0:0<σ0.length)(q:Q ((bs.filter id).map V.bl) H0):
  CompW (Itl K a) (λv σ H R=>R (σ.set 0 (some v)) H) (λσ H R=>∃v,σ[0]? =some (some v)/\∃k,TruV K v H k/\R k H) (λσ H R=>∃v,σ[0]? =some (some v)/\R v H) Q σ0 H0:=by
 refine⟨λi m xs σ H=>H=H0/\i+m=bs.length/\xs=((bs.take i).filter id).map V.bl/\0<σ.length,⟨bs.length,rfl,Nat.zero_add _,rfl,h0⟩,?_⟩;rintro i m xs σ H ⟨rfl,hi,rfl,hs⟩;refine⟨?_,?_⟩
 ·rw[List.length_map];exact Nat.le_trans (List.length_filter_le _ _) (Nat.le_trans (by simp;omega) hz)
 cases m with
 |zero=>
  refine .inl ⟨⟨_,hl,by simp;omega⟩,?_⟩;rw[show i=bs.length by omega,List.take_length];exact q
 |succ m=>
  have hlt:i<bs.length:=by omega
  have hx:(bs.map V.bl)[i]? =some (.bl bs[i]):=by simp[hlt]
  refine .inr ⟨⟨_,_,hl,hx⟩,λx H' hy=>?_⟩;obtain⟨rfl,hy⟩:=hy;have e:=hy _ hl;rw[hx]at e;cases e;refine⟨.bl bs[i],List.getElem?_set_self hs,bs[i],rfl,?_⟩;have tk:(bs.take (i+1)).filter id=(bs.take i).filter id++(if bs[i]=true then[bs[i]]else[]):=by
   rw[List.take_succ_eq_append_getElem hlt,List.filter_append];congr 1;cases bs[i]<;>rfl
  cases hb:bs[i]with
  |true=>
   refine(show∀{p r:Prop},p->(if true=true then p else r)from λz=>by rw[if_pos rfl];exact z) ?_;refine⟨.bl true,List.getElem?_set_self hs,m,Nat.lt_succ_self m,rfl,by omega,?_,by simpa using hs⟩;rw[tk,hb,if_pos rfl,List.map_append];rfl
  |false=>
   refine(show∀{p r:Prop},r->(if false=true then p else r)from λz=>by rw[if_neg Bool.false_ne_true];exact z) ?_;refine⟨m,Nat.lt_succ_self m,rfl,by omega,?_,by simpa using hs⟩;rw[tk,hb,if_neg Bool.false_ne_true,List.append_nil]
theorem Jow{X:Cx}{pins:List (Addr×Obj)}{ea:Addr}{oe:Obj}{N':List Str}{keep:List Nat}{scope:Scope}{x y:Str}{j:Nat}{p1 p2 p3 p4 lp:Pos}(c:CompOk X N' 1 keep scope)(nd:N'.Nodup)(h0:N'[0]? =some x)(hx:scope.names.lookup x=some .local)(d1:(x==("__debug__":Str))=false)(d2:(x==("__classdict__":Str))=false)
  (hv:∃vs,oe.data=.fields vs/\vs[2]? =some .none)(hj:X.N[j]? =some y)(vy:Vis X.env.scope y)(e1:(y==("__debug__":Str))=false)(e2:(y==("__classdict__":Str))=false):
  PE (X.hand pins ea oe) (.ListComp (.Name x p1) [⟨.Name x p2,.Name y p3,[.Name x p4],0⟩] scope lp) (λσ H Q=>∃(a:Addr) (bs:List Bool),σ[j]? =some (some (.ref a))/\SqL X.K H a (bs.map V.bl)/\bs.length<=sizeLine/\∀p,H p=none->Q (.ref p) (upd H p (.lst ((bs.filter id).map V.bl)))):=by
 have lo:∀s₃ H ex pins',Loc (compCx (X.hand pins ea oe) N' scope s₃ H ex pins').env.scope x:=λs₃ H ex pins'=>.inl (lookup_relabel_local hx);have vx:∀s₃ H ex pins',Vis (compCx (X.hand pins ea oe) N' scope s₃ H ex pins').env.scope x:=λs₃ H ex pins'=>.inl (lookup_relabel_local hx);have pv:∀p s₃ H ex pins',PE (compCx (X.hand pins ea oe) N' scope s₃ H ex pins') (.Name x p) (tVar 0):=λp s₃ H ex pins'=>Jfd (X:=compCx (X.hand pins ea oe) N' scope s₃ H ex pins') h0 (vx s₃ H ex pins') d1 d2;have pc:=Jo0 (X:=X.hand pins ea oe) (pos:=lp) (tg:=.Name x p2) (ifs:=[.Name x p4]) (elt:=.Name x p1) (g:=gName 0) (te:=tVar 0) (tc:=λσ H Q=>tVar 0 σ H λv H1=>∃k,TruV X.K v H1 k/\Q k H1) c.hand (HandOk.hand hv) (Jfd (pos:=p3) (X:=X.hand pins ea oe) (i:=j) hj vy e1 e2)
  (λs₃ H ex pins'=>Jfc (X:=compCx (X.hand pins ea oe) N' scope s₃ H ex pins') nd h0 (lo s₃ H ex pins') (.inr (lookup_relabel_local hx)))
  (λs₃ H ex pins'=>Jl3 (Jgf (pv p4 s₃ H ex pins') λ_=>rfl)) (λs₃ H ex pins'=>pv p1 s₃ H ex pins') (λ_=>rfl)
 intro pins' s σ H Q I ⟨a,bs,q1,q2,q3,q4⟩;refine pc pins' s σ H Q I ⟨.ref a,q1,a,rfl,⟨_,q2⟩,?_⟩;exact Jip (σ0:=inSt 1 keep σ) (Q:=λxs H'=>∀p,H' p=none->Q (.ref p) (upd H' p (.lst xs))) q2 q3 (by unfold inSt;simp) q4
theorem Jwe{X:Cx}{pins:List (Addr×Obj)}{ea:Addr}{oe:Obj}{e:Expr}{j:Nat}{n:Int}{k}{q1 q2 q3 q4:Pos}(pe:PE (X.hand pins ea oe) e (λσ H Q=>∃(a:Addr) (bs:List Bool),σ[j]? =some (some (.ref a))/\SqL X.K H a (bs.map V.bl)/\bs.length<=sizeLine/\∀p,H p=none->Q (.ref p) (upd H p (.lst ((bs.filter id).map V.bl)))))
  (hg:Gl X (Str.ofString "len"))(hm:X.mg (Str.ofString "len")=none)(hs:starEach [e] X.env=[(false,eval e X.env)]):
  PT (X.hand pins ea oe) (.Compare (.Call (.Name (Str.ofString "len") q1) [e] [] q2) [.Gt] [.Constant (.int n) k q3] q4) (λσ H Q=>∃(a:Addr) (bs:List Bool),σ[j]? =some (some (.ref a))/\SqL X.K H a (bs.map V.bl)/\bs.length<=sizeLine/\∀p,H p=none->Q (decide (n<((bs.filter id).length:Int))) (upd H p (.lst ((bs.filter id).map V.bl)))):=by
 have pl:PE (X.hand pins ea oe) (.Call (.Name (Str.ofString "len") q1) [e] [] q2) _:=Je0 (X:=X.hand pins ea oe) (Jek (X:=X.hand pins ea oe)) hg hm (by kernel_rfl) (Jbj pe Jds hs) (by decide+kernel) (by decide+kernel) hs rfl;have pt:=Jie (X:=X.hand pins ea oe) (pos:=q4) (Jw1 (X:=X.hand pins ea oe)) pl (Jq1 (X:=X.hand pins ea oe) (i:=n) (j:=k) (pos:=q3)) rfl;intro pins' s σ H Q I ⟨a,bs,h1,h2,h3,h4⟩;refine pt pins' s σ H Q I ⟨a,bs,h1,h2,h3,λp hp=>?_⟩;refine⟨p,(bs.filter id).map V.bl,rfl,.inl (SqL.of (by simp[upd])),⟨_,_,rfl,rfl,_,rfl,?_⟩⟩;rw[List.length_map];exact h4 p hp
end L2
namespace Mi
open PySem L2
inductive D where
 |non|bl (b:Bool)|int (i:Int)|str (x:Str)|tup (ds:List D)|loc (l:Nat)|kl (ds:List D)
 deriving Inhabited
inductive Obj where
 |lst (ds:List D)|dct (kvs:List (Int×D))|ins (c:String) (fs:List (String×D))
 deriving Inhabited
noncomputable abbrev Store:=List Obj
noncomputable abbrev En:=List (Option D)
inductive Res (α:Type)where
 |ok (a:α) (S:Store)|err (c:String) (τ:En) (S:Store)|bad
noncomputable def Res.bind{α β:Type}(r:Res α)(f:α->Store->Res β):Res β:=match r with
 |.ok a S=>f a S
 |.err c τ S=>.err c τ S
 |.bad=>.bad
@[simp]theorem Res.bind_ok{α β:Type}(a:α)(S:Store)(f:α->Store->Res β):(Res.ok a S).bind f=f a S:=rfl
@[simp]theorem Res.bind_err{α β:Type}(c:String)(τ:En)(S:Store)(f:α->Store->Res β):(Res.err c τ S:Res α).bind f=.err c τ S:=rfl
@[simp]theorem Res.bind_bad{α β:Type}(f:α->Store->Res β):(Res.bad:Res α).bind f=.bad:=rfl
theorem Res.bind_eq_ok{α β:Type}{r:Res α}{f:α->Store->Res β}{b:β}{S':Store}(h:r.bind f=.ok b S'):∃a S,r=.ok a S/\f a S=.ok b S':=by
 cases r with
 |ok a S=>exact⟨a,S,rfl,h⟩
 |err c τ S=>cases h
 |bad=>cases h
theorem Res.bind_eq_err{α β:Type}{r:Res α}{f:α->Store->Res β}{c:String}{τ:En}{S':Store}(h:r.bind f=.err c τ S'):r=.err c τ S'\/∃a S,r=.ok a S/\f a S=.err c τ S':=by
 cases r with
 |ok a S=>exact .inr ⟨a,S,rfl,h⟩
 |err c τ S=>exact .inl (by cases h;rfl)
 |bad=>cases h
noncomputable def Res.kl{α:Type}(r:Res α):Res α:=match r with
 |.ok a S=>.ok a S
 |_=>.bad
@[simp]theorem Res.kl_ok{α:Type}(a:α)(S:Store):(Res.ok a S).kl=.ok a S:=rfl
theorem Res.kl_eq_ok{α:Type}{r:Res α}{a:α}{S:Store}(h:r.kl=.ok a S):r=.ok a S:=by
 cases r<;>first|exact h|cases h
theorem Res.kl_ne{α:Type}{r:Res α}{c:String}{τ:En}{S:Store}:r.kl≠ .err c τ S:=by
 cases r<;>nofun
noncomputable def Res.at{α:Type}(τ:En)(r:Res α):Res α:=match r with
 |.ok a S=>.ok a S
 |.err c _ S=>.err c τ S
 |.bad=>.bad
@[simp]theorem Res.at_ok{α:Type}(τ:En)(a:α)(S:Store):(Res.ok a S).at τ=.ok a S:=rfl
@[simp]theorem Res.at_err{α:Type}(c:String)(τ τ':En)(S:Store):(Res.err c τ' S:Res α).at τ=.err c τ S:=rfl
theorem Res.at_eq_ok{α:Type}{τ:En}{r:Res α}{a:α}{S:Store}(h:r.at τ=.ok a S):r=.ok a S:=by
 cases r<;>first|exact h|cases h
theorem Res.at_eq_err{α:Type}{τ τ':En}{r:Res α}{c:String}{S:Store}(h:r.at τ=.err c τ' S):τ'=τ/\∃τ0,r=.err c τ0 S:=by
 cases r with
 |ok a S=>cases h
 |err c t S=>cases h;exact⟨rfl,_,rfl⟩
 |bad=>cases h
noncomputable def Line:Nat:=16777216
inductive Bop where|add|mul|fdiv|mod|pow deriving DecidableEq
inductive Cop where|eq|ne|lt|le|gt|ge|inn deriving DecidableEq
inductive Prim where|len|abs|min2|max2|int1|str1|list1|tuple1|divmod|all1|any1 deriving DecidableEq
inductive Meth where|append|pop0|starts|split1|join1|split2 deriving DecidableEq
noncomputable def scalV:D->Option V
 |.non=>some .non
 |.bl b=>some (.bl b)
 |.int i=>some (.int i)
 |.str x=>some (.str x)
 |_=>none
noncomputable def seqAt(S:Store)(l:Nat):Option (List D):=match S[l]? with
 |some (.lst ds)=>some ds
 |_=>none
noncomputable def dctAt(S:Store)(l:Nat):Option (List (Int×D)):=match S[l]? with
 |some (.dct kvs)=>some kvs
 |_=>none
noncomputable def dRd(S:Store)(l:Nat):Option (List (Int×D)):=match S[l]? with
 |some (.dct kvs)=>some kvs
 |_=>none
noncomputable def dVal(kvs:List (Int×D))(k:Int):Option D:=(kvs.find? λp=>decide (p.1=k)).map (·.2)
noncomputable def dPut(kvs:List (Int×D))(k:Int)(v:D):List (Int×D):=if kvs.any (λp=>decide (p.1=k))=true then kvs.map (λp=>if p.1=k then(p.1,v)else p)else kvs++[(k,v)]
noncomputable def rcv(p:Meth)(S:Store)(x:D):Bool:=match x with|.loc l=>(seqAt S l).isSome|_=>decide (p≠ .append)
noncomputable def putD(f:String)(v:D):List (String×D)->List (String×D)
 |[]=>[(f,v)]
 |p::r=>if p.1=f then(p.1,v)::r else p::putD f v r
noncomputable def ltP(x y:D):Option Bool:=match x,y with
 |.tup [.int a,.int b],.tup [.int c,.int d]=>some (decide (a<c)||(decide (a=c)&&decide (b<d)))
 |_,_=>none
noncomputable def dIn(x y:D)(S:Store):Option Bool:=match x with
 |.int i=>match y with
  |.loc l=>match dRd S l with|some kvs=>some (dVal kvs i).isSome|none=>none
  |_=>none
 |_=>none
noncomputable def eqL(f:D->D->Option Bool):List D->List D->Option Bool
 |[],[]=>some true
 |a::as,b::bs=>match f a b,eqL f as bs with
  |some x,some y=>some (x&&y)
  |_,_=>none
 |_,_=>some false
noncomputable def eqD(S:Store):Nat->D->D->Option Bool
 |0,a,b=>match scalV a,scalV b with
  |some x,some y=>some (eqV x y)
  |_,_=>none
 |n+1,a,b=>match a,b with
  |.tup as,.tup bs=>if as.length=bs.length then eqL (eqD S n) as bs else(if(eqL (eqD S n) (as.take bs.length) (bs.take as.length)).isSome then some false else none)
  |.loc l,.loc k=>match seqAt S l,seqAt S k with
   |some as,some bs=>if as.length=bs.length then eqL (eqD S n) as bs else some false
   |_,_=>none
  |a,b=>match scalV a,scalV b with
   |some x,some y=>some (eqV x y)
   |_,_=>none
noncomputable def Deep:Nat:=12
noncomputable def anyEq(S:Store)(n:Nat)(x:D):List D->Option Bool
 |[]=>some false
 |y::ys=>match eqD S n y x,anyEq S n x ys with
  |some a,some b=>some (a||b)
  |_,_=>none
noncomputable def small(i:Int):Bool:=decide (-(2^64)<i)&&decide (i<2^64)
noncomputable def mid(i:Int):Bool:=decide (i.natAbs<2^4096)
noncomputable def bop(o:Bop)(x y:D)(S:Store):Res D:=match o,x,y with
 |.add,.int i,.int j=>.ok (.int (i+j)) S
 |.add,.str a,.str b=>if a.length+b.length<=Line then .ok (.str (a++b)) S else .bad
 |.add,.tup a,.tup b=>if a.length+b.length<=Line then .ok (.tup (a++b)) S else .bad
 |.add,.loc l,.loc k=>match S[l]?,S[k]? with
  |some (.lst a),some (.lst b)=>if a.length+b.length<=Line then .ok (.loc S.length) (S++[.lst (a++b)])else .bad
  |_,_=>.bad
 |.mul,.int i,.int j=>if small i||small j||(mid i&&mid j)then .ok (.int (i*j)) S else .bad
 |.mul,.str a,.int k=>if decide (-1<k)&&decide (k<=1000)&&decide (1<=a.length)&&decide (a.length<=1000)then .ok (.str (Txt.mul a k)) S else .bad
 |.mul,.tup a,.int k=>if decide (-(2^63)<=k)&&decide (k<2^63)&&decide (a.length*k.toNat<=Line)then .ok (.tup (List.replicate k.toNat a).flatten) S else .bad
 |.mul,.loc l,.int k=>match S[l]? with
  |some (.lst a)=>if decide (-(2^63)<=k)&&decide (k<2^63)&&decide (a.length*k.toNat<=Line)then .ok (.loc S.length) (S++[.lst (List.replicate k.toNat a).flatten])else .bad
  |_=>.bad
 |.fdiv,.int i,.int j=>if 0<j/\j.natAbs<2^4096 then .ok (.int (i/j)) S else .bad
 |.mod,.int i,.int j=>if 0<j then .ok (.int (i%j)) S else .bad
 |.pow,.int i,.int j=>if decide (0<=j)&&decide (j<=1000000)&&decide (i.natAbs<2^64)then .ok (.int (i^j.toNat)) S else .bad
 |.add,.kl a,.loc k=>match S[k]? with
  |some (.lst b)=>if a.length+b.length<=Line then .ok (.loc S.length) (S++[.lst (a++b)])else .bad
  |_=>.bad
 |_,_,_=>.bad
noncomputable def seqOf(S:Store):D->Option (List D)
 |.tup ds=>some ds
 |.loc l=>seqAt S l
 |.kl ds=>some ds
 |_=>none
noncomputable def cop(o:Cop)(x y:D)(S:Store):Option Bool:=match o with
 |.eq=>eqD S Deep x y
 |.ne=>(eqD S Deep x y).map (!·)
 |.lt=>match x,y with|.int i,.int j=>some (decide (i<j))|_,_=>none
 |.le=>match x,y with|.int i,.int j=>some (decide (i<=j))|_,_=>none
 |.gt=>match x,y with|.int i,.int j=>some (decide (j<i))|_,_=>none
 |.ge=>match x,y with|.int i,.int j=>some (decide (j<=i))|_,_=>none
 |.inn=>match seqOf S y with|some ds=>anyEq S Deep x ds|none=>match x,y with|.str a,.str b=>some (!(Builtin.Str.occurrences b a 0 b.length 1).isEmpty)|x,y=>dIn x y S
noncomputable def tru(S:Store):D->Option Bool
 |.non=>some false
 |.bl b=>some b
 |.int i=>some (i !=0)
 |.str x=>if x.length<=Line then some ((x.length:Int) !=0)else none
 |.tup ds=>some (!ds.isEmpty)
 |.loc l=>match seqAt S l with|some ds=>some (!ds.isEmpty)|none=>none
 |.kl ds=>some (!ds.isEmpty)
noncomputable def idxD(x y:D)(S:Store):Option D:=match y with
 |.int i=>match seqOf S x with
  |some ds=>atI ds i
  |none=>match x with
   |.str z=>if z.length<=Line then(atI z.cps.toList i).map λc=>.str ⟨#[c]⟩else none
   |.loc l=>match dRd S l with|some kvs=>dVal kvs i|none=>none
   |_=>none
 |_=>none
noncomputable def cutD(xs:List D)(lo hi:Option Int):List D:=(xs.drop (HT.sIx xs.length 0 lo)).take (HT.sIx xs.length xs.length hi-HT.sIx xs.length 0 lo)
noncomputable def cutS(x:Str)(lo hi:Option Int):Str:=if(Builtin.Str.strSliceIndices lo hi 1 x.length).length==x.length then x else⟨((Builtin.Str.strSliceIndices lo hi 1 x.length).filterMap (x.cps[·]?)).toArray⟩
noncomputable def sliD(x:D)(lo hi:Option Int)(S:Store):Res D:=match x with
 |.tup ds=>.ok (.tup (cutD ds lo hi)) S
 |.loc l=>match seqAt S l with
  |some ds=>.ok (.loc S.length) (S++[.lst (cutD ds lo hi)])
  |none=>.bad
 |.str x=>if(cutS x lo hi).length<=Line then .ok (.str (cutS x lo hi)) S else .bad
 |.kl ds=>.ok (.loc S.length) (S++[.lst (cutD ds lo hi)])
 |_=>.bad
noncomputable def tyD(S:Store):D->Option String
 |.non=>some "NoneType"
 |.bl _=>some "bool"
 |.int _=>some "int"
 |.str _=>some "str"
 |.tup _=>some "tuple"
 |.loc l=>match S[l]? with|some (.lst _)=>some "list"|_=>none
 |.kl _=>none
noncomputable def isiD(t c:String):Bool:=t==c||(t=="bool"&&c=="int")
noncomputable def isT:D->Bool
 |.bl b=>b
 |_=>false
noncomputable def allB:List D->Option Bool
 |[]=>some true
 |.bl b::r=>(allB r).map (b&&·)
 |_=>none
noncomputable def primD(p:Prim)(ds:List D)(S:Store):Res D:=match p,ds with
 |.len,[x]=>match seqOf S x with
  |some ds=>.ok (.int ds.length) S
  |none=>match x with|.str z=>if z.length<=Line then .ok (.int z.length) S else .bad|_=>.bad
 |.abs,[.int i]=>.ok (.int (if i<0 then -i else i)) S
 |.max2,[.int i,.int j]=>.ok (.int (if j>i then j else i)) S
 |.min2,[.int i,.int j]=>.ok (.int (if j<i then j else i)) S
 |.int1,[.int i]=>.ok (.int i) S
 |.int1,[.bl b]=>.ok (.int (if b then 1 else 0)) S
 |.int1,[.str x]=>match intText? x with|some n=>if x.length<=640 then .ok (.int n) S else .bad|none=>.bad
 |.str1,[.int i]=>if i.natAbs<2^1900 then .ok (.str (toString i)) S else .bad
 |.list1,[x]=>match x with
   |.loc l=>match dctAt S l with|some kvs=>.ok (.loc S.length) (S++[.lst (kvs.map λp=>.int p.1)])|none=>.bad
   |_=>.bad
 |.tuple1,[x]=>match seqOf S x with
  |some ds=>.ok (.tup ds) S
  |none=>.bad
 |.divmod,[.int i,.int j]=>if 0<j/\j.natAbs<2^4096 then .ok (.tup [.int (i/j),.int (i%j)]) S else .bad
 |.any1,[x]=>match seqOf S x with|some ds=>(match allB ds with|some _=>.ok (.bl (ds.any isT)) S|none=>.bad)|none=>.bad
 |.all1,[x]=>match seqOf S x with|some ds=>(match allB ds with|some b=>.ok (.bl b) S|none=>.bad)|none=>.bad
 |_,_=>.bad
noncomputable def strsD:List D->Option (List Str)
 |[]=>some []
 |.str x::r=>(strsD r).map (x::·)
 |_=>none
theorem Jgx:∀{ds:List D} {ts:List Str},strsD ds=some ts->ds=ts.map D.str
 |[],ts,h=>by cases h;rfl
 |d::r,ts,h=>by
  cases d<;>try (cases(show(none:Option (List Str))=some ts from h);done)
  rename_i x;obtain⟨us,h1,rfl⟩:=Option.map_eq_some_iff.mp (show(strsD r).map (x::·)=some ts from h);rw[Jgx h1];rfl
theorem Jgw:∀ts:List Str,strsD (ts.map D.str)=some ts
 |[]=>rfl
 |x::r=>by
  show(strsD (r.map D.str)).map (x::·)=_;rw[Jgw r];rfl
noncomputable def methD(p:Meth)(o:D)(ds:List D)(S:Store):Res D:=match p,o,ds with
 |.append,.loc l,[y]=>match S[l]? with
  |some (.lst xs)=>if xs.length<Line then .ok .non (S.set l (.lst (xs++[y])))else .bad
  |_=>.bad
 |.pop0,.loc l,[]=>match S[l]? with
  |some (.lst xs)=>match xs[xs.length-1]? with
   |some y=>.ok y (S.set l (.lst xs.dropLast))
   |none=>.bad
  |_=>.bad
 |.starts,.str x,[.str y]=>.ok (.bl (Txt.startswith x y)) S
 |.split1,.str x,[.str y]=>if !(y.length==0)&&decide (x.length<=Line)&&decide ((Builtin.Str.partsBetween x (Builtin.Str.occurrences x y 0 x.length (x.length+1)) y.length).length<=Line)then .ok (.loc S.length) (S++[.lst ((Txt.split x y).map D.str)])else .bad
 |.join1,.str x,[.loc l]=>match S[l]? with|some (.lst ds)=>(match strsD ds with|some ts=>if JoinOk x ts then .ok (.str (Txt.join x ts)) S else .bad|none=>.bad)|_=>.bad
 |.split2,.str x,[.str y,.int k]=>if decide (0<k)&&decide (k<1000)&& !(y.length==0)&&decide (x.length<=Line)&&decide ((Txt.splitMax x y k).length<=Line)then .ok (.loc S.length) (S++[.lst ((Txt.splitMax x y k).map D.str)])else .bad
 |_,_,_=>.bad
inductive M where
 |nul|cns (a b:M)
 |cst (d:D)|var (i:Nat)|glb (x:String)
 |bin (o:Bop) (a b:M)|neg (a:M)|nott (a:M)|bo (w:Bool) (as:M)
 |cmp (o:Cop) (a b:M)|cmp2 (o p:Cop) (a b c:M)|ife (c a b:M)
 |tup (as:M)|lst (as:M)|idx (a b:M)|sli (a lo hi:M)
 |call (f:String) (as:M)|prim (p:Prim) (as:M)|isi (a:M) (t:String)|meth (p:Meth) (o as:M)
 |comp (N:List String) (k:Nat) (keep:List Nat) (tg it cd el:M)
 |rng (a:M)|enm (a:M)
 |dnil
 |tvar (i:Nat)|ttup (ts:M)|tsub (a b:M)
 |asg (t e:M)|ifs (c a b:M)|forr (t i b:M)|whl (c b:M)|ret (e:M)|exp (e:M)|rse|ifx (c a b:M)|rsx (c:String)|rtk (e:M)|exx (e:M)|asq (i:Nat) (e:M)|rtx (e:M)|kls (s:M)|ifq (c a b:M)|kle (a:M)|acx (i:Nat) (e:M)|trh (b:M) (x:String) (n j l w:Nat) (t0:String) (ts N:List String) (keep:List Nat) (tab:List (String×List Bool))
inductive Fl where
 |nx (τ:En)|rt (d:D)|bk (τ:En)|ct (τ:En)
structure Pr where
 call:String->List D->Store->Res D
 glob:String->Option D
 W:Nat
noncomputable def setS(o i v:D)(S:Store):Res Unit:=match o,i with
 |.loc l,.int k=>match S[l]? with
  |some (.lst xs)=>match ixN xs.length k with
   |some j=>.ok () (S.set l (.lst (xs.set j v)))
   |none=>.bad
  |some (.dct kvs)=>if kvs.length<Line then .ok () (S.set l (.dct (dPut kvs k v)))else .bad
  |_=>.bad
 |_,_=>.bad
inductive Kd where|lst|enm
noncomputable abbrev Wk:=Option (Nat×Kd)
noncomputable def sameAt(S:Store)(g:Wk)(n:Nat):Bool:=match g with
 |none=>true
 |some (l,_)=>match S[l]? with
  |some (.lst ds)=>ds.length==n
  |_=>false
noncomputable def nth(S:Store)(g:Wk)(ds:List D)(i:Nat):Option D:=match g with
 |none=>ds[i]?
 |some (l,.enm)=>match seqAt S l with
  |some es=>(es[i]?).map λx=>.tup [.int i,x]
  |none=>none
 |some (l,.lst)=>match seqAt S l with
  |some es=>es[i]?
  |none=>none
noncomputable def trhD(n j l w:Nat)(tab:List (String×List Bool))(r:Res Fl):Res Fl:=match r with
 |.ok fl S=>.ok fl S
 |.err c τ S=>(match tab.lookup c,τ[w]? with
  |some (b0::bs),some (some (.int k))=>(match atI bs k with
   |some b1=>if decide (n<τ.length)&&decide (j<τ.length)&&decide (l<τ.length)&&(n !=j)&&(n !=l)&&(j !=l)&&(w !=n)&&(w !=j)&&decide (bs.length<=Line)&&decide ((bs.filter id).length<=1)then .ok (.nx (((τ.set n none).set j (some (.loc S.length))).set l (some (.loc (S.length+1))))) ((S++[.lst (bs.map .bl)])++[.lst [.bl b0,.bl b1]])else .bad
   |none=>.bad)
  |_,_=>.bad)
 |.bad=>.bad
noncomputable def forL(turn:D->En->Store->Res Fl)(g:Wk)(ds:List D):Nat->Nat->En->Store->Res Fl
 |0,i,τ,S=>if sameAt S g ds.length then .ok (.nx τ) S else .bad
 |f+1,i,τ,S=>if sameAt S g ds.length then(match nth S g ds i with
   |none=>.bad
   |some d=>(turn d τ S).bind λfl S1=>match fl with
    |.nx τ1=>forL turn g ds f (i+1) τ1 S1
    |.ct τ1=>forL turn g ds f (i+1) τ1 S1
    |.bk τ1=>.ok (.nx τ1) S1
    |.rt d=>.ok (.rt d) S1)else .bad
noncomputable def compL(turn:D->En->Store->Res (Option D))(g:Wk)(ds:List D):Nat->Nat->En->Store->List D->Res (List D)
 |0,i,τ,S,acc=>if sameAt S g ds.length then .ok acc S else .bad
 |f+1,i,τ,S,acc=>if sameAt S g ds.length then(match nth S g ds i with
   |none=>.bad
   |some d=>(turn d τ S).bind λo S1=>match o with
    |some y=>if acc.length<Line then compL turn g ds f (i+1) τ S1 (acc++[y])else .bad
    |none=>compL turn g ds f (i+1) τ S1 acc)else .bad
noncomputable def whlL(test:En->Store->Res Bool)(body:En->Store->Res Fl):Nat->En->Store->Res Fl
 |0,_,_=>.bad
 |n+1,τ,S=>(test τ S).bind λb S1=>if b then(body τ S1).bind λfl S2=>match fl with
   |.nx τ1=>whlL test body n τ1 S2
   |.ct τ1=>whlL test body n τ1 S2
   |.bk τ1=>.ok (.nx τ1) S2
   |.rt d=>.ok (.rt d) S2 else .ok (.nx τ) S1
noncomputable def inEn(k:Nat)(keep:List Nat)(τ:En):En:=List.replicate k none++keep.map λi=>(τ[i]?).join
mutual
noncomputable def evE(C:Pr):M->En->Store->Res D
 |.cst d,_,S=>.ok d S
 |.var i,τ,S=>match τ[i]? with|some (some d)=>.ok d S|_=>.bad
 |.glb x,_,S=>match C.glob x with|some d=>.ok d S|none=>.bad
 |.bin o a b,τ,S=>(evE C a τ S).bind λx S1=>(evE C b τ S1).bind λy S2=>bop o x y S2
 |.neg a,τ,S=>(evE C a τ S).bind λx S1=>match x with|.int i=>.ok (.int (-i)) S1|_=>.bad
 |.nott a,τ,S=>(evE C a τ S).bind λx S1=>match tru S1 x with|some b=>.ok (.bl (!b)) S1|none=>.bad
 |.bo w as,τ,S=>evBV C w as τ S
 |.cmp o a b,τ,S=>(evE C a τ S).bind λx S1=>(evE C b τ S1).bind λy S2=>match cop o x y S2 with|some k=>.ok (.bl k) S2|none=>.bad
 |.cmp2 o p a b c,τ,S=>(evE C a τ S).bind λx S1=>(evE C b τ S1).bind λy S2=>match cop o x y S2 with
  |some true=>(evE C c τ S2).bind λz S3=>(match cop p y z S3 with|some k=>.ok (.bl k) S3|none=>.bad)
  |some false=>.ok (.bl false) S2
  |none=>.bad
 |.ife c a b,τ,S=>(evT C c τ S).bind λk S1=>if k then evE C a τ S1 else evE C b τ S1
 |.tup as,τ,S=>(evA C as τ S).bind λds S1=>if ds.length<=Line then .ok (.tup ds) S1 else .bad
 |.lst as,τ,S=>(evA C as τ S).bind λds S1=>if ds.length<=Line then .ok (.loc S1.length) (S1++[.lst ds])else .bad
 |.idx a b,τ,S=>(evE C a τ S).bind λx S1=>(evE C b τ S1).bind λy S2=>match idxD x y S2 with|some d=>.ok d S2|none=>.bad
 |.sli a lo hi,τ,S=>(evE C a τ S).bind λx S1=>(evO C lo τ S1).bind λl S2=>(evO C hi τ S2).bind λh S3=>sliD x l h S3
 |.call f as,τ,S=>(evA C as τ S).bind λds S1=>C.call f ds S1
 |.prim p as,τ,S=>(evA C as τ S).bind λds S1=>primD p ds S1
 |.isi a t,τ,S=>(evE C a τ S).bind λx S1=>match tyD S1 x with|some y=>.ok (.bl (isiD y t)) S1|none=>.bad
 |.meth p o as,τ,S=>(evE C o τ S).bind λx S1=>if rcv p S1 x then(evA C as τ S1).bind λds S2=>methD p x ds S2 else .bad
 |.comp N k keep tg it cd el,τ,S=>(evI C it τ S).bind λw S1=>
   (compL (λd τ1 S2=>(evG C tg d τ1 S2).bind λτ2 S3=>(evC C cd τ2 S3).bind λb S4=>if b then(evE C el τ2 S4).bind λy S5=>.ok (some y) S5 else .ok none S4) w.1 w.2 w.2.length 0 (inEn k keep τ) S1 []).bind
    λys S6=>.ok (.loc S6.length) (S6++[.lst ys])
 |.kle a,τ,S=>(evE C a τ S).kl
 |.dnil,_,S=>.ok (.loc S.length) (S++[.dct []])
 |_,_,_=>.bad
noncomputable def evT(C:Pr):M->En->Store->Res Bool
 |.nott a,τ,S=>(evT C a τ S).bind λb S1=>.ok (!b) S1
 |.bo w as,τ,S=>evBT C w as τ S
 |.cmp o a b,τ,S=>(evE C a τ S).bind λx S1=>(evE C b τ S1).bind λy S2=>match cop o x y S2 with|some k=>.ok k S2|none=>.bad
 |.cmp2 o p a b c,τ,S=>(evE C a τ S).bind λx S1=>(evE C b τ S1).bind λy S2=>match cop o x y S2 with
  |some true=>(evE C c τ S2).bind λz S3=>(match cop p y z S3 with|some k=>.ok k S3|none=>.bad)
  |some false=>.ok false S2
  |none=>.bad
 |.var i,τ,S=>match τ[i]? with|some (some d)=>(match tru S d with|some b=>.ok b S|none=>.bad)|_=>.bad
 |.idx a b,τ,S=>(evE C a τ S).bind λx S1=>(evE C b τ S1).bind λy S2=>match idxD x y S2 with|some d=>(match tru S2 d with|some b=>.ok b S2|none=>.bad)|none=>.bad
 |.call f as,τ,S=>(evA C as τ S).bind λds S1=>(C.call f ds S1).bind λd S2=>match tru S2 d with|some b=>.ok b S2|none=>.bad
 |.prim p as,τ,S=>(evA C as τ S).bind λds S1=>(primD p ds S1).bind λd S2=>match tru S2 d with|some b=>.ok b S2|none=>.bad
 |.isi a t,τ,S=>(evE C a τ S).bind λx S1=>match tyD S1 x with|some y=>.ok (isiD y t) S1|none=>.bad
 |.meth p o as,τ,S=>(evE C o τ S).bind λx S1=>if rcv p S1 x then(evA C as τ S1).bind λds S2=>(methD p x ds S2).bind λd S3=>match tru S3 d with|some b=>.ok b S3|none=>.bad else .bad
 |_,_,_=>.bad
noncomputable def evBV(C:Pr)(w:Bool):M->En->Store->Res D
 |.cns a .nul,τ,S=>evE C a τ S
 |.cns a r,τ,S=>(evE C a τ S).bind λx S1=>match x with|.bl c=>if c=w then evBV C w r τ S1 else .ok (.bl (!w)) S1|_=>.bad
 |_,_,_=>.bad
noncomputable def evBT(C:Pr)(w:Bool):M->En->Store->Res Bool
 |.cns a .nul,τ,S=>evT C a τ S
 |.cns a r,τ,S=>(evT C a τ S).bind λc S1=>if c=w then evBT C w r τ S1 else .ok (!w) S1
 |_,_,_=>.bad
noncomputable def evC(C:Pr):M->En->Store->Res Bool
 |.nul,_,S=>.ok true S
 |.cns c .nul,τ,S=>evT C c τ S
 |_,_,_=>.bad
noncomputable def evA(C:Pr):M->En->Store->Res (List D)
 |.nul,_,S=>.ok [] S
 |.cns a b,τ,S=>(evE C a τ S).bind λx S1=>(evA C b τ S1).bind λxs S2=>.ok (x::xs) S2
 |_,_,_=>.bad
noncomputable def evO(C:Pr):M->En->Store->Res (Option Int)
 |.nul,_,S=>.ok none S
 |.cns a .nul,τ,S=>(evE C a τ S).bind λx S1=>match x with|.int i=>.ok (some i) S1|_=>.bad
 |_,_,_=>.bad
noncomputable def evI(C:Pr):M->En->Store->Res (Wk×List D)
 |.rng a,τ,S=>(evE C a τ S).bind λx S1=>match x with
  |.int j=>if decide (-(2^62)<=j)&&decide (j<2^62)then .ok (none,(List.range j.toNat).map λ(i:Nat)=>.int i) S1 else .bad
  |_=>.bad
 |.cns a .nul,τ,S=>(evE C a τ S).bind λx S1=>match x with
  |.tup ds=>.ok (none,ds) S1
  |.kl ds=>.ok (none,ds) S1
  |.str z=>.ok (none,z.cps.toList.map λc=>.str ⟨#[c]⟩) S1
  |.loc l=>(match seqAt S1 l with|some ds=>.ok (some (l,.lst),ds) S1|none=>.bad)
  |_=>.bad
 |.enm a,τ,S=>(evE C a τ S).bind λx S1=>match x with
  |.loc l=>(match seqAt S1 l with|some ds=>.ok (some (l,.enm),ds) S1|none=>.bad)
  |_=>.bad
 |_,_,_=>.bad
noncomputable def evG(C:Pr):M->D->En->Store->Res En
 |.tvar i,d,τ,S=>if i<τ.length then .ok (τ.set i (some d)) S else .bad
 |.ttup ts,d,τ,S=>match d with|.tup ds=>evGs C ts ds τ S|_=>.bad
 |.tsub a b,d,τ,S=>(evE C a τ S).bind λo S1=>(evE C b τ S1).bind λi S2=>(setS o i d S2).bind λ_ S3=>.ok τ S3
 |_,_,_,_=>.bad
noncomputable def evGs(C:Pr):M->List D->En->Store->Res En
 |.nul,ds,τ,S=>match ds with|[]=>.ok τ S|_=>.bad
 |.cns t ts,ds,τ,S=>match ds with|d::r=>(evG C t d τ S).bind λτ1 S1=>evGs C ts r τ1 S1|[]=>.bad
 |_,_,_,_=>.bad
noncomputable def evS(C:Pr):M->En->Store->Res Fl
 |.asg t e,τ,S=>(evE C e τ S).bind λd S1=>(evG C t d τ S1).bind λτ1 S2=>.ok (.nx τ1) S2
 |.ifs c a b,τ,S=>(evT C c τ S).bind λk S1=>if k then evB C a τ S1 else evB C b τ S1
 |.forr t i b,τ,S=>(evI C i τ S).bind λw S1=>forL (λd τ1 S2=>(evG C t d τ1 S2).bind λτ2 S3=>evB C b τ2 S3) w.1 w.2 w.2.length 0 τ S1
 |.whl c b,τ,S=>whlL (evT C c) (evB C b) C.W τ S
 |.ret e,τ,S=>(evE C e τ S).bind λd S1=>.ok (.rt d) S1
 |.exp e,τ,S=>(evE C e τ S).bind λ_ S1=>.ok (.nx τ) S1
 |.ifx c a b,τ,S=>(evT C c τ S).kl.bind λk S1=>if k then evB C a τ S1 else evB C b τ S1
 |.rsx c,τ,S=>.err c τ S
 |.rtk e,τ,S=>(evE C e τ S).kl.bind λd S1=>.ok (.rt d) S1
 |.trh b _ n j l w _ _ _ _ tab,τ,S=>trhD n j l w tab (evB C b τ S)
 |.exx e,τ,S=>((evE C e τ S).at τ).bind λ_ S1=>.ok (.nx τ) S1
 |.asq i e,τ,S=>((evE C e τ S).at τ).bind λy S1=>if i<τ.length then .ok (.nx (τ.set i (some y))) S1 else .bad
 |.rtx e,τ,S=>((evE C e τ S).at τ).bind λd S1=>.ok (.rt d) S1
 |.kls s,τ,S=>(evS C s τ S).kl
 |.ifq c a b,τ,S=>((evT C c τ S).at τ).bind λk S1=>if k then evB C a τ S1 else evB C b τ S1
 |.acx i e,τ,S=>((evE C e τ S).at τ).bind λy S1=>if i<τ.length then .ok (.nx (τ.set i (some y))) S1 else .bad
 |_,_,_=>.bad
noncomputable def evB(C:Pr):M->En->Store->Res Fl
 |.nul,τ,S=>.ok (.nx τ) S
 |.cns s r,τ,S=>(evS C s τ S).bind λfl S1=>match fl with
  |.nx τ1=>evB C r τ1 S1
  |.rt d=>.ok (.rt d) S1
  |.bk τ1=>.ok (.bk τ1) S1
  |.ct τ1=>.ok (.ct τ1) S1
 |_,_,_=>.bad
end
structure Fn where
 ps:List String
 N:List String
 body:M
noncomputable abbrev Tb:=String->Option Fn
noncomputable def callN(T:Tb)(G:String->Option D)(W:Nat):Nat->String->List D->Store->Res D
 |0,_,_,_=>.bad
 |n+1,f,ds,S=>match T f with
  |none=>.bad
  |some F=>if ds.length=F.ps.length then(evB ⟨callN T G W n,G,W⟩ F.body (ds.map some++List.replicate (F.N.length-ds.length) none) S).bind λfl S1=>match fl with
    |.rt d=>.ok d S1
    |.nx _=>.ok .non S1
    |_=>.bad
   else .bad
theorem Jab{α:Type}{d:α}{S:Store}:¬(Res.bad:Res α)=.ok d S:=nofun
theorem Jwa:bop (.add) (.int i) (.int j) S=(.ok (.int (i+j)) S):=rfl
theorem Jl2:bop (.add) (.str a) (.str b) S=(if a.length+b.length<=Line then .ok (.str (a++b)) S else .bad):=rfl
theorem Jqs:bop (.add) (.tup a) (.tup b) S=(if a.length+b.length<=Line then .ok (.tup (a++b)) S else .bad):=rfl
theorem Jl0:bop (.add) (.loc l) (.loc k) S=(match S[l]?,S[k]? with
  |some (.lst a),some (.lst b)=>if a.length+b.length<=Line then .ok (.loc S.length) (S++[.lst (a++b)])else .bad
  |_,_=>.bad):=rfl
theorem Jqr:bop (.mul) (.int i) (.int j) S=(if small i||small j||(mid i&&mid j)then .ok (.int (i*j)) S else .bad):=rfl
theorem Jid:bop (.mul) (.str a) (.int k) S=(if decide (-1<k)&&decide (k<=1000)&&decide (1<=a.length)&&decide (a.length<=1000)then .ok (.str (Txt.mul a k)) S else .bad):=rfl
theorem Jv9:bop (.mul) (.tup a) (.int k) S=(if decide (-(2^63)<=k)&&decide (k<2^63)&&decide (a.length*k.toNat<=Line)then .ok (.tup (List.replicate k.toNat a).flatten) S else .bad):=rfl
theorem Jv8:bop (.mul) (.loc l) (.int k) S=(match S[l]? with
  |some (.lst a)=>if decide (-(2^63)<=k)&&decide (k<2^63)&&decide (a.length*k.toNat<=Line)then .ok (.loc S.length) (S++[.lst (List.replicate k.toNat a).flatten])else .bad
  |_=>.bad):=rfl
theorem Jqq:bop (.fdiv) (.int i) (.int j) S=(if 0<j/\j.natAbs<2^4096 then .ok (.int (i/j)) S else .bad):=rfl
theorem Jqp:bop (.mod) (.int i) (.int j) S=(if 0<j then .ok (.int (i%j)) S else .bad):=rfl
theorem Jge:bop (.pow) (.int i) (.int j) S=(if decide (0<=j)&&decide (j<=1000000)&&decide (i.natAbs<2^64)then .ok (.int (i^j.toNat)) S else .bad):=rfl
theorem Jl1:bop (.add) (.kl a) (.loc k) S=(match S[k]? with
  |some (.lst b)=>if a.length+b.length<=Line then .ok (.loc S.length) (S++[.lst (a++b)])else .bad
  |_=>.bad):=rfl
theorem Jbf:primD (.len) ([x]) S=(match seqOf S x with
  |some ds=>.ok (.int ds.length) S
  |none=>match x with|.str z=>if z.length<=Line then .ok (.int z.length) S else .bad|_=>.bad):=rfl
theorem Ji5:primD (.abs) ([.int i]) S=(.ok (.int (if i<0 then -i else i)) S):=rfl
theorem Joj:primD (.max2) ([.int i,.int j]) S=(.ok (.int (if j>i then j else i)) S):=rfl
theorem Joi:primD (.min2) ([.int i,.int j]) S=(.ok (.int (if j<i then j else i)) S):=rfl
theorem Joh:primD (.int1) ([.int i]) S=(.ok (.int i) S):=rfl
theorem Jog:primD (.int1) ([.bl b]) S=(.ok (.int (if b then 1 else 0)) S):=rfl
theorem Je8:primD (.int1) ([.str x]) S=(match intText? x with|some n=>if x.length<=640 then .ok (.int n) S else .bad|none=>.bad):=rfl
theorem Ji4:primD (.str1) ([.int i]) S=(if i.natAbs<2^1900 then .ok (.str (toString i)) S else .bad):=rfl
theorem Jof:primD (.list1) ([x]) S=(match x with
   |.loc l=>match dctAt S l with|some kvs=>.ok (.loc S.length) (S++[.lst (kvs.map λp=>.int p.1)])|none=>.bad
   |_=>.bad):=rfl
theorem Ji3:primD (.tuple1) ([x]) S=(match seqOf S x with
  |some ds=>.ok (.tup ds) S
  |none=>.bad):=rfl
theorem Jf8:primD (.divmod) ([.int i,.int j]) S=(if 0<j/\j.natAbs<2^4096 then .ok (.tup [.int (i/j),.int (i%j)]) S else .bad):=rfl
theorem Jg4:primD (.any1) ([x]) S=(match seqOf S x with|some ds=>(match allB ds with|some _=>.ok (.bl (ds.any isT)) S|none=>.bad)|none=>.bad):=rfl
theorem Jcn:primD (.all1) ([x]) S=(match seqOf S x with|some ds=>(match allB ds with|some b=>.ok (.bl b) S|none=>.bad)|none=>.bad):=rfl
theorem Ji8:methD (.append) (.loc l) ([y]) S=(match S[l]? with
  |some (.lst xs)=>if xs.length<Line then .ok .non (S.set l (.lst (xs++[y])))else .bad
  |_=>.bad):=rfl
theorem Ji7:methD (.pop0) (.loc l) ([]) S=(match S[l]? with
  |some (.lst xs)=>match xs[xs.length-1]? with
   |some y=>.ok y (S.set l (.lst xs.dropLast))
   |none=>.bad
  |_=>.bad):=rfl
theorem Jey:methD (.starts) (.str x) ([.str y]) S=(.ok (.bl (Txt.startswith x y)) S):=rfl
theorem Jf9:methD (.split1) (.str x) ([.str y]) S=(if !(y.length==0)&&decide (x.length<=Line)&&decide ((Builtin.Str.partsBetween x (Builtin.Str.occurrences x y 0 x.length (x.length+1)) y.length).length<=Line)then .ok (.loc S.length) (S++[.lst ((Txt.split x y).map D.str)])else .bad):=rfl
theorem Ji6:methD (.join1) (.str x) ([.loc l]) S=(match S[l]? with|some (.lst ds)=>(match strsD ds with|some ts=>if JoinOk x ts then .ok (.str (Txt.join x ts)) S else .bad|none=>.bad)|_=>.bad):=rfl
theorem Jg5:methD (.split2) (.str x) ([.str y,.int k]) S=(if decide (0<k)&&decide (k<1000)&& !(y.length==0)&&decide (x.length<=Line)&&decide ((Txt.splitMax x y k).length<=Line)then .ok (.loc S.length) (S++[.lst ((Txt.splitMax x y k).map D.str)])else .bad):=rfl
theorem Jjb:evE C (.cst d) (u1') (S)=(.ok d S):=rfl
theorem Jlw:evE C (.var i) (τ) (S)=(match τ[i]? with|some (some d)=>.ok d S|_=>.bad):=rfl
theorem Jlt:evE C (.glb x) (u1') (S)=(match C.glob x with|some d=>.ok d S|none=>.bad):=rfl
theorem Jqn:evE C (.bin o a b) (τ) (S)=((evE C a τ S).bind λx S1=>(evE C b τ S1).bind λy S2=>bop o x y S2):=rfl
theorem Jv2:evE C (.neg a) (τ) (S)=((evE C a τ S).bind λx S1=>match x with|.int i=>.ok (.int (-i)) S1|_=>.bad):=rfl
theorem Jv1:evE C (.nott a) (τ) (S)=((evE C a τ S).bind λx S1=>match tru S1 x with|some b=>.ok (.bl (!b)) S1|none=>.bad):=rfl
theorem Jv0:evE C (.bo w as) (τ) (S)=(evBV C w as τ S):=rfl
theorem Jvz:evE C (.cmp o a b) (τ) (S)=((evE C a τ S).bind λx S1=>(evE C b τ S1).bind λy S2=>match cop o x y S2 with|some k=>.ok (.bl k) S2|none=>.bad):=rfl
theorem Jja:evE C (.cmp2 o p a b c) (τ) (S)=((evE C a τ S).bind λx S1=>(evE C b τ S1).bind λy S2=>match cop o x y S2 with
  |some true=>(evE C c τ S2).bind λz S3=>(match cop p y z S3 with|some k=>.ok (.bl k) S3|none=>.bad)
  |some false=>.ok (.bl false) S2
  |none=>.bad):=rfl
theorem Jvy:evE C (.ife c a b) (τ) (S)=((evT C c τ S).bind λk S1=>if k then evE C a τ S1 else evE C b τ S1):=rfl
theorem Jlv:evE C (.tup as) (τ) (S)=((evA C as τ S).bind λds S1=>if ds.length<=Line then .ok (.tup ds) S1 else .bad):=rfl
theorem Jso:evE C (.lst as) (τ) (S)=((evA C as τ S).bind λds S1=>if ds.length<=Line then .ok (.loc S1.length) (S1++[.lst ds])else .bad):=rfl
theorem Jgc:evE C (.idx a b) (τ) (S)=((evE C a τ S).bind λx S1=>(evE C b τ S1).bind λy S2=>match idxD x y S2 with|some d=>.ok d S2|none=>.bad):=rfl
theorem Jsn:evE C (.sli a lo hi) (τ) (S)=((evE C a τ S).bind λx S1=>(evO C lo τ S1).bind λl S2=>(evO C hi τ S2).bind λh S3=>sliD x l h S3):=rfl
theorem Jgb:evE C (.call f as) (τ) (S)=((evA C as τ S).bind λds S1=>C.call f ds S1):=rfl
theorem Jib:evE C (.prim p as) (τ) (S)=((evA C as τ S).bind λds S1=>primD p ds S1):=rfl
theorem Jlu:evE C (.isi a t) (τ) (S)=((evE C a τ S).bind λx S1=>match tyD S1 x with|some y=>.ok (.bl (isiD y t)) S1|none=>.bad):=rfl
theorem Jfa:evE C (.meth p o as) (τ) (S)=((evE C o τ S).bind λx S1=>if rcv p S1 x then(evA C as τ S1).bind λds S2=>methD p x ds S2 else .bad):=rfl
theorem Jia:evE C (.comp N k keep tg it cd el) (τ) (S)=((evI C it τ S).bind λw S1=>
   (compL (λd τ1 S2=>(evG C tg d τ1 S2).bind λτ2 S3=>(evC C cd τ2 S3).bind λb S4=>if b then(evE C el τ2 S4).bind λy S5=>.ok (some y) S5 else .ok none S4) w.1 w.2 w.2.length 0 (inEn k keep τ) S1 []).bind
    λys S6=>.ok (.loc S6.length) (S6++[.lst ys])):=rfl
theorem Jsm:evE C (.dnil) (u1') (S)=(.ok (.loc S.length) (S++[.dct []])):=rfl
theorem Jqj:evT C (.nott a) (τ) (S)=((evT C a τ S).bind λb S1=>.ok (!b) S1):=rfl
theorem Jvo:evT C (.bo w as) (τ) (S)=(evBT C w as τ S):=rfl
theorem Jqi:evT C (.cmp o a b) (τ) (S)=((evE C a τ S).bind λx S1=>(evE C b τ S1).bind λy S2=>match cop o x y S2 with|some k=>.ok k S2|none=>.bad):=rfl
theorem Jqh:evT C (.cmp2 o p a b c) (τ) (S)=((evE C a τ S).bind λx S1=>(evE C b τ S1).bind λy S2=>match cop o x y S2 with
  |some true=>(evE C c τ S2).bind λz S3=>(match cop p y z S3 with|some k=>.ok k S3|none=>.bad)
  |some false=>.ok false S2
  |none=>.bad):=rfl
theorem Jvn:evT C (.var i) (τ) (S)=(match τ[i]? with|some (some d)=>(match tru S d with|some b=>.ok b S|none=>.bad)|_=>.bad):=rfl
theorem Jvm:evT C (.idx a b) (τ) (S)=((evE C a τ S).bind λx S1=>(evE C b τ S1).bind λy S2=>match idxD x y S2 with|some d=>(match tru S2 d with|some b=>.ok b S2|none=>.bad)|none=>.bad):=rfl
theorem Jqg:evT C (.call f as) (τ) (S)=((evA C as τ S).bind λds S1=>(C.call f ds S1).bind λd S2=>match tru S2 d with|some b=>.ok b S2|none=>.bad):=rfl
theorem Jvl:evT C (.prim p as) (τ) (S)=((evA C as τ S).bind λds S1=>(primD p ds S1).bind λd S2=>match tru S2 d with|some b=>.ok b S2|none=>.bad):=rfl
theorem Jvk:evT C (.isi a t) (τ) (S)=((evE C a τ S).bind λx S1=>match tyD S1 x with|some y=>.ok (isiD y t) S1|none=>.bad):=rfl
theorem Jsj:evT C (.meth p o as) (τ) (S)=((evE C o τ S).bind λx S1=>if rcv p S1 x then(evA C as τ S1).bind λds S2=>(methD p x ds S2).bind λd S3=>match tru S3 d with|some b=>.ok b S3|none=>.bad else .bad):=rfl
theorem Jsp:evBV C w (.cns a .nul) (τ) (S)=(evE C a τ S):=rfl
theorem Jlx:evBV C w (.cns a (.cns a2 r2)) (τ) (S)=((evE C a τ S).bind λx S1=>match x with|.bl c=>if c=w then evBV C w (.cns a2 r2) τ S1 else .ok (.bl (!w)) S1|_=>.bad):=rfl
theorem Jsq:evBT C w (.cns a .nul) (τ) (S)=(evT C a τ S):=rfl
theorem Jly:evBT C w (.cns a (.cns a2 r2)) (τ) (S)=((evT C a τ S).bind λc S1=>if c=w then evBT C w (.cns a2 r2) τ S1 else .ok (!w) S1):=rfl
theorem Jv4:evC C (.nul) (u1') (S)=(.ok true S):=rfl
theorem Jv3:evC C (.cns c .nul) (τ) (S)=(evT C c τ S):=rfl
theorem Jlz:evA C (.nul) (u1') (S)=(.ok [] S):=rfl
theorem Jjc:evA C (.cns a b) (τ) (S)=((evE C a τ S).bind λx S1=>(evA C b τ S1).bind λxs S2=>.ok (x::xs) S2):=rfl
theorem Jvu:evO C (.nul) (u1') (S)=(.ok none S):=rfl
theorem Jvt:evO C (.cns a .nul) (τ) (S)=((evE C a τ S).bind λx S1=>match x with|.int i=>.ok (some i) S1|_=>.bad):=rfl
theorem Jvw:evI C (.rng a) (τ) (S)=((evE C a τ S).bind λx S1=>match x with
  |.int j=>if decide (-(2^62)<=j)&&decide (j<2^62)then .ok (none,(List.range j.toNat).map λ(i:Nat)=>.int i) S1 else .bad
  |_=>.bad):=rfl
theorem Jql:evI C (.cns a .nul) (τ) (S)=((evE C a τ S).bind λx S1=>match x with
  |.tup ds=>.ok (none,ds) S1
  |.kl ds=>.ok (none,ds) S1
  |.str z=>.ok (none,z.cps.toList.map λc=>.str ⟨#[c]⟩) S1
  |.loc l=>(match seqAt S1 l with|some ds=>.ok (some (l,.lst),ds) S1|none=>.bad)
  |_=>.bad):=rfl
theorem Jvv:evI C (.enm a) (τ) (S)=((evE C a τ S).bind λx S1=>match x with
  |.loc l=>(match seqAt S1 l with|some ds=>.ok (some (l,.enm),ds) S1|none=>.bad)
  |_=>.bad):=rfl
theorem Jg6:evG C (.tvar i) (d) (τ) (S)=(if i<τ.length then .ok (τ.set i (some d)) S else .bad):=rfl
theorem Jqm:evG C (.ttup ts) (d) (τ) (S)=(match d with|.tup ds=>evGs C ts ds τ S|_=>.bad):=rfl
theorem Jvx:evG C (.tsub a b) (d) (τ) (S)=((evE C a τ S).bind λo S1=>(evE C b τ S1).bind λi S2=>(setS o i d S2).bind λ_ S3=>.ok τ S3):=rfl
theorem Jga:evGs C (.nul) (ds) (τ) (S)=(match ds with|[]=>.ok τ S|_=>.bad):=rfl
theorem Je9:evGs C (.cns t ts) (ds) (τ) (S)=(match ds with|d::r=>(evG C t d τ S).bind λτ1 S1=>evGs C ts r τ1 S1|[]=>.bad):=rfl
theorem Ji9:evS C (.asg t e) (τ) (S)=((evE C e τ S).bind λd S1=>(evG C t d τ S1).bind λτ1 S2=>.ok (.nx τ1) S2):=rfl
theorem Jvs:evS C (.ifs c a b) (τ) (S)=((evT C c τ S).bind λk S1=>if k then evB C a τ S1 else evB C b τ S1):=rfl
theorem Jqk:evS C (.forr t i b) (τ) (S)=((evI C i τ S).bind λw S1=>forL (λd τ1 S2=>(evG C t d τ1 S2).bind λτ2 S3=>evB C b τ2 S3) w.1 w.2 w.2.length 0 τ S1):=rfl
theorem Jvr:evS C (.whl c b) (τ) (S)=(whlL (evT C c) (evB C b) C.W τ S):=rfl
theorem Jvq:evS C (.ret e) (τ) (S)=((evE C e τ S).bind λd S1=>.ok (.rt d) S1):=rfl
theorem Jvp:evS C (.exp e) (τ) (S)=((evE C e τ S).bind λ_ S1=>.ok (.nx τ) S1):=rfl
theorem Jls:evS C (.ifx c a b) (τ) (S)=((evT C c τ S).kl.bind λk S1=>if k then evB C a τ S1 else evB C b τ S1):=rfl
theorem Jsl:evS C (.rsx c) (τ) (S)=.err c τ S:=rfl
theorem Jlr:evS C (.rtk e) (τ) (S)=((evE C e τ S).kl.bind λd S1=>.ok (.rt d) S1):=rfl
theorem Jsk:evS C (.trh b x n j l w t0 ts N keep tab) (τ) (S)=trhD n j l w tab (evB C b τ S):=rfl
theorem Jlq:evS C (.exx e) (τ) (S)=(((evE C e τ S).at τ).bind λ_ S1=>.ok (.nx τ) S1):=rfl
theorem Jlp:evS C (.asq i e) (τ) (S)=(((evE C e τ S).at τ).bind λy S1=>if i<τ.length then .ok (.nx (τ.set i (some y))) S1 else .bad):=rfl
theorem Jlm:evS C (.acx i e) (τ) (S)=(((evE C e τ S).at τ).bind λy S1=>if i<τ.length then .ok (.nx (τ.set i (some y))) S1 else .bad):=rfl
theorem Jlo:evS C (.rtx e) (τ) (S)=(((evE C e τ S).at τ).bind λd S1=>.ok (.rt d) S1):=rfl
theorem Jln:evS C (.ifq c a b) (τ) (S)=(((evT C c τ S).at τ).bind λk S1=>if k then evB C a τ S1 else evB C b τ S1):=rfl
theorem Jv5:evB C (.nul) (τ) (S)=(.ok (.nx τ) S):=rfl
theorem Jqo:evB C (.cns s r) (τ) (S)=((evS C s τ S).bind λfl S1=>match fl with
  |.nx τ1=>evB C r τ1 S1
  |.rt d=>.ok (.rt d) S1
  |.bk τ1=>.ok (.bk τ1) S1
  |.ct τ1=>.ok (.ct τ1) S1):=rfl
end Mi
namespace Mi
open PySem L2
noncomputable def SqF(K:PySem.W.Frag)(H:Hp)(a:Addr)(xs:List V):Prop:=
 (∃o,H a=some (.frz o (.lst xs)))\/
  ∃(o:PySem.Obj) (its:Array Value) (n:Nat),K.lookup a=some o/\o.cls=.type "list"/\o.dict=none/\o.data=.seq its n/\its.size<=sizeLine/\Vals xs its.toList
theorem SqF.sq{K:PySem.W.Frag}{H:Hp}{a:Addr}{xs:List V}(h:SqF K H a xs):SqL K H a xs:=h.elim (λz=>.inl (.inr z)) .inr
mutual
noncomputable def RelD(K:PySem.W.Frag)(ρ:List Addr)(H:Hp):D->V->Prop
 |.non,v=>v=.non
 |.bl b,v=>v=.bl b
 |.int i,v=>v=.int i
 |.str x,v=>v=.str x
 |.tup ds,v=>∃a xs,v=.ref a/\SqT K H a xs/\RelDs K ρ H ds xs
 |.loc l,v=>∃a,v=.ref a/\ρ[l]? =some a
 |.kl ds,v=>∃a xs,v=.ref a/\SqF K H a xs/\RelDs K ρ H ds xs
noncomputable def RelDs(K:PySem.W.Frag)(ρ:List Addr)(H:Hp):List D->List V->Prop
 |[],xs=>xs=[]
 |d::ds,xs=>∃v vs,xs=v::vs/\RelD K ρ H d v/\RelDs K ρ H ds vs
end
noncomputable def RelKv(K:PySem.W.Frag)(ρ:List Addr)(H:Hp):List (Int×D)->List (Key×V)->Prop
 |[],ws=>ws=[]
 |p::r,ws=>∃v us,ws=(.inl p.1,v)::us/\RelD K ρ H p.2 v/\RelKv K ρ H r us
theorem Jjj:∀{a b:List Char},a.map Char.toNat=b.map Char.toNat->a=b
 |[],[],_=>rfl
 |[],y::ys,h=>by simp at h
 |x::xs,[],h=>by simp at h
 |x::xs,y::ys,h=>by
  simp only[List.map_cons,List.cons.injEq]at h;rw[Jjj h.2,Char.toNat_inj.mp h.1]
theorem Jti{a b:String}(h:Str.ofString a=Str.ofString b):a=b:=by
 rw[Str.ofString_eq_toList,Str.ofString_eq_toList]at h;injection h with h;have h:a.toList.map Char.toNat=b.toList.map Char.toNat:=by simpa using h
 refine String.toList_inj.mp ?_;exact Jjj h
noncomputable def RelF(K:PySem.W.Frag)(ρ:List Addr)(H:Hp):List (String×D)->List (Str×V)->Prop
 |[],ws=>ws=[]
 |p::r,ws=>∃v us,ws=(Str.ofString p.1,v)::us/\RelD K ρ H p.2 v/\RelF K ρ H r us
noncomputable def RelO(K:PySem.W.Frag)(ρ:List Addr)(H:Hp)(a:Addr):Obj->Prop
 |.lst ds=>∃xs,H a=some (.lst xs)/\RelDs K ρ H ds xs
 |.dct kvs=>∃ws,H a=some (.dK ws)/\RelKv K ρ H kvs ws
 |.ins c fs=>∃C dx ws,PySem.W.nsIn K mainGlobals (Str.ofString c)=some (some (.ref C))/\H a=some (.ins C dx ws)/\RelF K ρ H fs ws
structure RelS(K:PySem.W.Frag)(ρ:List Addr)(S:Store)(H:Hp):Prop where
 len:ρ.length=S.length
 nd:ρ.Nodup
 ob:∀(l:Nat) (a:Addr) (o:Obj),ρ[l]? =some a->S[l]? =some o->RelO K ρ H a o
structure Fut(K:PySem.W.Frag)(ρ:List Addr)(H:Hp)(ρ':List Addr)(H':Hp):Prop where
 pre:∃t,ρ'=ρ++t
 tup:∀a xs,SqT K H a xs->SqT K H' a xs
 frz:∀a o u,H a=some (.frz o u)->H' a=some (.frz o u)
variable {K:PySem.W.Frag} {ρ ρ' ρ1:List Addr} {H H' H1:Hp} {S S':Store}
theorem Fut.refl:Fut K ρ H ρ H:=⟨⟨[],by simp⟩,λ_ _ h=>h,λ_ _ _ h=>h⟩
theorem Fut.trans(a:Fut K ρ H ρ1 H1)(b:Fut K ρ1 H1 ρ' H'):Fut K ρ H ρ' H':=by
 obtain⟨t,rfl⟩:=a.pre;obtain⟨u,e⟩:=b.pre;exact⟨⟨t++u,by rw[e,List.append_assoc]⟩,λ_ _ h=>b.tup _ _ (a.tup _ _ h),λ_ _ _ h=>b.frz _ _ _ (a.frz _ _ _ h)⟩
theorem Fut.sqF{a:Addr}{xs:List V}(f:Fut K ρ H ρ' H')(h:SqF K H a xs):SqF K H' a xs:=h.elim (λ⟨o,z⟩=>.inl ⟨o,f.frz _ _ _ z⟩) .inr
theorem Fut.get(f:Fut K ρ H ρ' H'){l:Nat}{a:Addr}(h:ρ[l]? =some a):ρ'[l]? =some a:=by
 obtain⟨t,rfl⟩:=f.pre;rw[List.getElem?_append_left (List.getElem?_eq_some_iff.mp h).1];exact h
mutual
theorem RelD.fut(f:Fut K ρ H ρ' H'):∀{d:D} {v:V},RelD K ρ H d v->RelD K ρ' H' d v
 |.non,v,h=>by simpa only[RelD]using h
 |.bl b,v,h=>by simpa only[RelD]using h
 |.int i,v,h=>by simpa only[RelD]using h
 |.str x,v,h=>by simpa only[RelD]using h
 |.tup ds,v,h=>by
  simp only[RelD]at h ⊢;obtain⟨a,xs,e,q,r⟩:=h;exact⟨a,xs,e,f.tup _ _ q,RelDs.fut f r⟩
 |.loc l,v,h=>by
  simp only[RelD]at h ⊢;obtain⟨a,e,q⟩:=h;exact⟨a,e,f.get q⟩
 |.kl ds,v,h=>by
  simp only[RelD]at h ⊢;obtain⟨a,xs,e,q,r⟩:=h;exact⟨a,xs,e,f.sqF q,RelDs.fut f r⟩
theorem RelDs.fut(f:Fut K ρ H ρ' H'):∀{ds:List D} {vs:List V},RelDs K ρ H ds vs->RelDs K ρ' H' ds vs
 |[],vs,h=>by simpa only[RelDs]using h
 |d::ds,vs,h=>by
  simp only[RelDs]at h ⊢;obtain⟨v,r,e,q,t⟩:=h;exact⟨v,r,e,RelD.fut f q,RelDs.fut f t⟩
end
theorem RelDs.cons{d:D}{ds:List D}{v:V}{vs:List V}(a:RelD K ρ H d v)(b:RelDs K ρ H ds vs):RelDs K ρ H (d::ds) (v::vs):=by
 simp only[RelDs];exact⟨v,vs,rfl,a,b⟩
theorem RelDs.nil:RelDs K ρ H [] []:=by simp only[RelDs]
theorem RelDs.inv_cons{d:D}{ds:List D}{xs:List V}(h:RelDs K ρ H (d::ds) xs):∃v vs,xs=v::vs/\RelD K ρ H d v/\RelDs K ρ H ds vs:=by
 simpa only[RelDs]using h
theorem RelDs.inv_nil{xs:List V}(h:RelDs K ρ H [] xs):xs=[]:=by simpa only[RelDs]using h
theorem RelDs.length:∀{ds:List D} {vs:List V},RelDs K ρ H ds vs->ds.length=vs.length
 |[],vs,h=>by rw[h.inv_nil];rfl
 |d::ds,vs,h=>by
  obtain⟨v,r,rfl,_,t⟩:=h.inv_cons;rw[List.length_cons,List.length_cons,t.length]
theorem RelDs.get:∀{ds:List D} {vs:List V} {i:Nat} {d:D},RelDs K ρ H ds vs->ds[i]? =some d->∃v,vs[i]? =some v/\RelD K ρ H d v
 |[],vs,i,d,h,e=>by simp at e
 |d::ds,vs,0,x,h,e=>by
  obtain⟨v,r,rfl,q,t⟩:=h.inv_cons;simp at e;subst e;exact⟨v,rfl,q⟩
 |d::ds,vs,i+1,x,h,e=>by
  obtain⟨v,r,rfl,q,t⟩:=h.inv_cons;exact RelDs.get (i:=i) t (by simpa using e)
theorem RelDs.append:∀{ds es:List D} {vs ws:List V},RelDs K ρ H ds vs->RelDs K ρ H es ws->RelDs K ρ H (ds++es) (vs++ws)
 |[],es,vs,ws,h,g=>by rw[h.inv_nil];exact g
 |d::ds,es,vs,ws,h,g=>by
  obtain⟨v,r,rfl,q,t⟩:=h.inv_cons;exact RelDs.cons q (t.append g)
theorem RelDs.take:∀{ds:List D} {vs:List V} (n:Nat),RelDs K ρ H ds vs->RelDs K ρ H (ds.take n) (vs.take n)
 |ds,vs,0,h=>by simp[RelDs.nil]
 |[],vs,n+1,h=>by rw[h.inv_nil];simp[RelDs.nil]
 |d::ds,vs,n+1,h=>by
  obtain⟨v,r,rfl,q,t⟩:=h.inv_cons;exact RelDs.cons q (t.take n)
theorem RelDs.drop:∀{ds:List D} {vs:List V} (n:Nat),RelDs K ρ H ds vs->RelDs K ρ H (ds.drop n) (vs.drop n)
 |ds,vs,0,h=>h
 |[],vs,n+1,h=>by rw[h.inv_nil];simp[RelDs.nil]
 |d::ds,vs,n+1,h=>by
  obtain⟨v,r,rfl,q,t⟩:=h.inv_cons;exact t.drop n
theorem RelDs.set{d:D}{v:V}(a:RelD K ρ H d v):∀{ds:List D} {vs:List V} (i:Nat),RelDs K ρ H ds vs->RelDs K ρ H (ds.set i d) (vs.set i v)
 |[],vs,i,h=>by rw[h.inv_nil];simp[RelDs.nil]
 |x::ds,vs,0,h=>by
  obtain⟨w,r,rfl,q,t⟩:=h.inv_cons;exact RelDs.cons a t
 |x::ds,vs,i+1,h=>by
  obtain⟨w,r,rfl,q,t⟩:=h.inv_cons;exact RelDs.cons q (RelDs.set a i t)
theorem RelDs.reverse:∀{ds:List D} {vs:List V},RelDs K ρ H ds vs->RelDs K ρ H ds.reverse vs.reverse
 |[],vs,h=>by rw[h.inv_nil];simp[RelDs.nil]
 |d::ds,vs,h=>by
  obtain⟨v,r,rfl,q,t⟩:=h.inv_cons;rw[List.reverse_cons,List.reverse_cons];exact t.reverse.append (RelDs.cons q RelDs.nil)
theorem RelDs.rep{ds:List D}{vs:List V}(h:RelDs K ρ H ds vs):∀n:Nat,RelDs K ρ H (List.replicate n ds).flatten (List.replicate n vs).flatten
 |0=>by simp[RelDs.nil]
 |n+1=>by
  rw[List.replicate_succ,List.replicate_succ,List.flatten_cons,List.flatten_cons];exact h.append (RelDs.rep h n)
theorem RelDs.dropLast{ds:List D}{vs:List V}(h:RelDs K ρ H ds vs):RelDs K ρ H ds.dropLast vs.dropLast:=by
 rw[List.dropLast_eq_take,List.dropLast_eq_take,h.length];exact h.take _
theorem Jua{ds:List D}{vs:List V}{i:Int}{d:D}(h:RelDs K ρ H ds vs)(e:atI ds i=some d):∃v,atI vs i=some v/\RelD K ρ H d v:=by
 unfold atI at e ⊢;rw[<-h.length];cases q:ixN ds.length i with
 |none=>rw[q]at e;cases e
 |some j=>
  rw[q]at e;exact h.get e
theorem RelKv.fut(f:Fut K ρ H ρ' H'):∀{kvs:List (Int×D)} {ws:List (Key×V)},RelKv K ρ H kvs ws->RelKv K ρ' H' kvs ws
 |[],ws,h=>h
 |p::r,ws,h=>by
  obtain⟨v,us,e,q,t⟩:=h;exact⟨v,us,e,q.fut f,RelKv.fut f t⟩
theorem RelKv.length:∀{kvs:List (Int×D)} {ws:List (Key×V)},RelKv K ρ H kvs ws->kvs.length=ws.length
 |[],ws,h=>by cases(show ws=[]from h);rfl
 |p::r,ws,h=>by
  obtain⟨v,us,rfl,q,t⟩:=h;simp[RelKv.length t]
theorem RelKv.val(k:Int):∀{kvs:List (Int×D)} {ws:List (Key×V)},RelKv K ρ H kvs ws->(dVal kvs k=none/\valV ws (Sum.inl k)=none)\/∃d v,dVal kvs k=some d/\valV ws (Sum.inl k)=some v/\RelD K ρ H d v
 |[],ws,h=>by cases(show ws=[]from h);exact .inl ⟨rfl,rfl⟩
 |p::r,ws,h=>by
  obtain⟨v,us,rfl,q,t⟩:=h
  by_cases e:p.1=k
  ·refine .inr ⟨p.2,v,?_,Jev (congrArg Sum.inl e),q⟩;simp[dVal,List.find?_cons,e]
  ·have e':¬((Sum.inl p.1:Key)=Sum.inl k):=λz=>e (Sum.inl.inj z);rw[Jew e',show dVal (p::r) k=dVal r k by simp[dVal,List.find?_cons,e]];exact RelKv.val k t
theorem RelKv.map(k:Int){d:D}{v:V}(q:RelD K ρ H d v):∀{kvs:List (Int×D)} {ws:List (Key×V)},RelKv K ρ H kvs ws->
  RelKv K ρ H (kvs.map (λp=>if p.1=k then(p.1,d)else p)) (ws.map (λkv=>if kv.1=Sum.inl k then(kv.1,v)else kv))
 |[],ws,h=>by cases(show ws=[]from h);rfl
 |p::r,ws,h=>by
  obtain⟨u,us,rfl,q',t⟩:=h;have ih:=RelKv.map k q t
  by_cases e:p.1=k
  ·have e':(Sum.inl p.1:Key)=Sum.inl k:=congrArg Sum.inl e;rw[List.map_cons,List.map_cons,if_pos e,if_pos e'];exact⟨v,_,rfl,q,ih⟩
  ·have e':¬((Sum.inl p.1:Key)=Sum.inl k):=λz=>e (Sum.inl.inj z);rw[List.map_cons,List.map_cons,if_neg e,if_neg e'];exact⟨u,_,rfl,q',ih⟩
theorem RelKv.snoc{k:Int}{d:D}{v:V}(q:RelD K ρ H d v):∀{kvs:List (Int×D)} {ws:List (Key×V)},RelKv K ρ H kvs ws->RelKv K ρ H (kvs++[(k,d)]) (ws++[(.inl k,v)])
 |[],ws,h=>by cases(show ws=[]from h);exact⟨v,[],rfl,q,rfl⟩
 |p::r,ws,h=>by
  obtain⟨u,us,rfl,q',t⟩:=h;exact⟨u,_,rfl,q',RelKv.snoc q t⟩
theorem RelKv.any(k:Int):∀{kvs:List (Int×D)} {ws:List (Key×V)},RelKv K ρ H kvs ws->kvs.any (λp=>decide (p.1=k))=ws.any (λkv=>decide (kv.1=Sum.inl k))
 |[],ws,h=>by cases(show ws=[]from h);rfl
 |p::r,ws,h=>by
  obtain⟨u,us,rfl,q',t⟩:=h;rw[List.any_cons,List.any_cons,RelKv.any k t];congr 1;exact decide_eq_decide.mpr ⟨λz=>congrArg Sum.inl z,λz=>Sum.inl.inj z⟩
theorem RelKv.keys:∀{kvs:List (Int×D)} {ws:List (Key×V)},RelKv K ρ H kvs ws->RelDs K ρ H (kvs.map λp=>D.int p.1) (ws.map λkv=>kV kv.1)
 |[],ws,h=>by cases(show ws=[]from h);exact RelDs.nil
 |p::r,ws,h=>by
  obtain⟨u,us,rfl,q',t⟩:=h;exact RelDs.cons (by simp only[RelD];rfl) (RelKv.keys t)
theorem RelKv.put(k:Int){d:D}{v:V}(q:RelD K ρ H d v){kvs:List (Int×D)}{ws:List (Key×V)}(h:RelKv K ρ H kvs ws):RelKv K ρ H (dPut kvs k d) (putK ws (Sum.inl k) v):=by
 unfold dPut putK;rw[h.any k];split
 ·exact h.map k q
 ·exact h.snoc q
theorem RelF.fut(f:Fut K ρ H ρ' H'):∀{fs:List (String×D)} {ws:List (Str×V)},RelF K ρ H fs ws->RelF K ρ' H' fs ws
 |[],ws,h=>h
 |p::r,ws,h=>by
  obtain⟨v,us,e,q,t⟩:=h;exact⟨v,us,e,q.fut f,RelF.fut f t⟩
theorem RelF.length:∀{fs:List (String×D)} {ws:List (Str×V)},RelF K ρ H fs ws->fs.length=ws.length
 |[],ws,h=>by cases(show ws=[]from h);rfl
 |p::r,ws,h=>by
  obtain⟨v,us,rfl,q,t⟩:=h;simp[RelF.length t]
theorem RelF.put(f:String){d:D}{v:V}(q:RelD K ρ H d v):∀{fs:List (String×D)} {ws:List (Str×V)},RelF K ρ H fs ws->RelF K ρ H (putD f d fs) (putF (Str.ofString f) v ws)
 |[],ws,h=>by cases(show ws=[]from h);exact⟨v,[],rfl,q,rfl⟩
 |p::r,ws,h=>by
  obtain⟨u,us,rfl,q',t⟩:=h
  by_cases e:p.1=f
  ·rw[show putD f d (p::r)=(p.1,d)::r from if_pos e,show putF (Str.ofString f) v ((Str.ofString p.1,u)::us)=(Str.ofString p.1,v)::us from if_pos (congrArg _ e)];exact⟨v,us,rfl,q,t⟩
  ·rw[show putD f d (p::r)=p::putD f d r from if_neg e,show putF (Str.ofString f) v ((Str.ofString p.1,u)::us)=(Str.ofString p.1,u)::putF (Str.ofString f) v us from if_neg λz=>e (Jti z)];exact⟨u,_,rfl,q',RelF.put f q t⟩
theorem RelO.fut{a:Addr}{o:Obj}(f:Fut K ρ H ρ' H')(hk:H' a=H a)(h:RelO K ρ H a o):RelO K ρ' H' a o:=by
 cases o with
 |lst ds=>obtain⟨xs,e,r⟩:=h;exact⟨xs,hk.trans e,r.fut f⟩
 |dct kvs=>obtain⟨xs,e,r⟩:=h;exact⟨xs,hk.trans e,r.fut f⟩
 |ins c fs=>obtain⟨C,dx,ws,n,e,r⟩:=h;exact⟨C,dx,ws,n,hk.trans e,r.fut f⟩
theorem RelO.some{a:Addr}{o:Obj}(h:RelO K ρ H a o):H a≠none:=by
 cases o with
 |lst ds=>obtain⟨xs,e,r⟩:=h;rw[e];simp
 |dct kvs=>obtain⟨xs,e,r⟩:=h;rw[e];simp
 |ins c fs=>obtain⟨C,dx,ws,n,e,r⟩:=h;rw[e];simp
theorem RelS.at(r:RelS K ρ S H){l:Nat}{a:Addr}(h:ρ[l]? =some a):∃o,S[l]? =some o/\RelO K ρ H a o:=by
 have hl:l<S.length:=by rw[<-r.len];exact(List.getElem?_eq_some_iff.mp h).1
 exact⟨S[l],List.getElem?_eq_getElem hl,r.ob l a _ h (List.getElem?_eq_getElem hl)⟩
theorem Jcp{p:Addr}{o:HO}(n:H p=none)(t:List Addr):Fut K ρ H (ρ++t) (upd H p o):=by
 refine⟨⟨t,rfl⟩,λa xs h=>?_,λa o u h=>by rw[Jaf (Jaj h n)];exact h⟩;rcases h with(h|⟨o,h⟩)|h
 ·exact .inl (.inl (by rw[Jaf (Jaj h n)];exact h))
 ·exact .inl (.inr ⟨o,by rw[Jaf (Jaj h n)];exact h⟩)
 ·exact .inr h
theorem Jcz{p:Addr}{o:HO}(n:H p=none):Fut K ρ H ρ (upd H p o):=by
 have q:=Jcp (K:=K) (ρ:=ρ) (o:=o) n [];rwa[List.append_nil]at q
theorem RelS.new(r:RelS K ρ S H){p:Addr}{o:HO}(n:H p=none):RelS K ρ S (upd H p o):=
 ⟨r.len,r.nd,λl a u h1 h2=>by
  have q:=r.ob l a u h1 h2;exact q.fut (Jcz n) (Jaf λz=>q.some (z▸n))⟩
theorem RelS.alloc(r:RelS K ρ S H){p:Addr}{xs:List V}{ds:List D}(n:H p=none)(h:RelDs K ρ H ds xs):RelS K (ρ++[p]) (S++[.lst ds]) (upd H p (.lst xs)):=by
 have hp:p∉ρ:=λz=>by
  obtain⟨l,hl⟩:=List.getElem?_of_mem z;obtain⟨o,_,q⟩:=r.at hl;exact q.some n
 refine⟨by rw[List.length_append,List.length_append,r.len];rfl,?_,λl a o h1 h2=>?_⟩
 ·rw[List.nodup_append];exact⟨r.nd,by simp,λa ha b hb=>by rw[List.mem_singleton.mp hb];exact λe=>hp (e▸ha)⟩
 ·by_cases hl:l<ρ.length
  ·rw[List.getElem?_append_left hl]at h1;rw[List.getElem?_append_left (by rw[<-r.len];exact hl)]at h2;have q:=r.ob l a o h1 h2;exact q.fut (Jcp n [p]) (Jaf λz=>q.some (z▸n))
  ·have e:l=ρ.length:=by
    have:=(List.getElem?_eq_some_iff.mp h1).1;rw[List.length_append,List.length_singleton]at this;omega
   subst e;rw[List.getElem?_append_right (Nat.le_refl _),Nat.sub_self]at h1;rw[List.getElem?_append_right (by rw[r.len];exact Nat.le_refl _),r.len,Nat.sub_self]at h2;simp at h1 h2;subst h1 h2;exact⟨xs,Jbe,h.fut (Jcp n [_])⟩
theorem Jdt{ρ:List Addr}(hN:ρ.Nodup){i j:Nat}{x:Addr}(a:ρ[i]? =some x)(b:ρ[j]? =some x):i=j:=by
 obtain⟨h1,e1⟩:=List.getElem?_eq_some_iff.mp a;obtain⟨h2,e2⟩:=List.getElem?_eq_some_iff.mp b;rcases Nat.lt_trichotomy i j with h|h|h
 ·exact absurd (e1.trans e2.symm) (List.pairwise_iff_getElem.mp hN i j h1 h2 h)
 ·exact h
 ·exact absurd (e2.trans e1.symm) (List.pairwise_iff_getElem.mp hN j i h2 h1 h)
theorem Jea{p:Addr}{xs:List V}{o:HO}(h:H p=some (.lst xs)):Fut K ρ H ρ (upd H p o):=by
 refine⟨⟨[],by simp⟩,λa ys q=>?_,λa o u q=>by rw[Jaf (Jo7 q h (by intro z;cases z))];exact q⟩;rcases q with(q|⟨o,q⟩)|q
 ·exact .inl (.inl (by rw[Jaf (Jo7 q h (by intro z;cases z))];exact q))
 ·exact .inl (.inr ⟨o,by rw[Jaf (Jo7 q h (by intro z;cases z))];exact q⟩)
 ·exact .inr q
theorem RelS.set(r:RelS K ρ S H){l:Nat}{p:Addr}{xs ys:List V}{ds:List D}(hl:ρ[l]? =some p)(h:H p=some (.lst xs))(hd:RelDs K ρ H ds ys):RelS K ρ (S.set l (.lst ds)) (upd H p (.lst ys)):=by
 refine⟨by rw[List.length_set];exact r.len,r.nd,λk a o h1 h2=>?_⟩
 by_cases e:l=k
 ·subst e;rw[hl]at h1;cases h1;have lt:l<S.length:=by rw[<-r.len];exact(List.getElem?_eq_some_iff.mp hl).1
  rw[List.getElem?_set_self lt]at h2;cases h2;exact⟨ys,Jbe,hd.fut (Jea h)⟩
 ·rw[List.getElem?_set_ne e]at h2;have ne:a≠p:=λz=>by
   subst z;exact e (Jdt r.nd hl h1)
  exact(r.ob k a o h1 h2).fut (Jea h) (Jaf ne)
theorem Jtq{p:Addr}{o0 o:HO}(h:H p=some o0)(h1:∀xs,o0≠ .tup xs)(h2:∀o u,o0≠ .frz o u):Fut K ρ H ρ (upd H p o):=by
 have ne:∀a u,H a=some u->(∀xs,u≠ .tup xs->u≠ .tup xs)->u≠o0->a≠p:=λa u q _ z e=>by rw[e,h]at q;exact z (Option.some.inj q).symm
 refine⟨⟨[],by simp⟩,λa ys q=>?_,λa o u q=>by rw[Jaf (ne a _ q (λ_ z=>z) λz=>h2 _ _ z.symm)];exact q⟩;rcases q with(q|⟨o,q⟩)|q
 ·exact .inl (.inl (by rw[Jaf (ne a _ q (λ_ z=>z) λz=>h1 _ z.symm)];exact q))
 ·exact .inl (.inr ⟨o,by rw[Jaf (ne a _ q (λ_ z=>z) λz=>h2 _ _ z.symm)];exact q⟩)
 ·exact .inr q
theorem RelS.allocO(r:RelS K ρ S H){p:Addr}{o:HO}{ob:Obj}(n:H p=none)(h:RelO K (ρ++[p]) (upd H p o) p ob):RelS K (ρ++[p]) (S++[ob]) (upd H p o):=by
 have hp:p∉ρ:=λz=>by
  obtain⟨l,hl⟩:=List.getElem?_of_mem z;obtain⟨o,_,q⟩:=r.at hl;exact q.some n
 refine⟨by rw[List.length_append,List.length_append,r.len];rfl,?_,λl a u h1 h2=>?_⟩
 ·rw[List.nodup_append];exact⟨r.nd,by simp,λa ha b hb=>by rw[List.mem_singleton.mp hb];exact λe=>hp (e▸ha)⟩
 ·by_cases hl:l<ρ.length
  ·rw[List.getElem?_append_left hl]at h1;rw[List.getElem?_append_left (by rw[<-r.len];exact hl)]at h2;have q:=r.ob l a u h1 h2;exact q.fut (Jcp n [p]) (Jaf λz=>q.some (z▸n))
  ·have e:l=ρ.length:=by
    have:=(List.getElem?_eq_some_iff.mp h1).1;rw[List.length_append,List.length_singleton]at this;omega
   subst e;rw[List.getElem?_append_right (Nat.le_refl _),Nat.sub_self]at h1;rw[List.getElem?_append_right (by rw[r.len];exact Nat.le_refl _),r.len,Nat.sub_self]at h2;simp at h1 h2;subst h1 h2;exact h
theorem RelS.setO(r:RelS K ρ S H){l:Nat}{p:Addr}{o0 o:HO}{ob:Obj}(hl:ρ[l]? =some p)(f:Fut K ρ H ρ (upd H p o))(new:RelO K ρ (upd H p o) p ob):RelS K ρ (S.set l ob) (upd H p o):=by
 refine⟨by rw[List.length_set];exact r.len,r.nd,λk a u h1 h2=>?_⟩
 by_cases e:l=k
 ·subst e;rw[hl]at h1;cases h1;have lt:l<S.length:=by rw[<-r.len];exact(List.getElem?_eq_some_iff.mp hl).1
  rw[List.getElem?_set_self lt]at h2;cases h2;exact new
 ·rw[List.getElem?_set_ne e]at h2;have ne:a≠p:=λz=>by
   subst z;exact e (Jdt r.nd hl h1)
  exact(r.ob k a u h1 h2).fut f (Jaf ne)
structure RelE(K:PySem.W.Frag)(ρ:List Addr)(H:Hp)(τ:En)(σ:St):Prop where
 len:τ.length=σ.length
 at':∀(i:Nat) (d:D),τ[i]? =some (some d)->∃v,σ[i]? =some (some v)/\RelD K ρ H d v
theorem RelE.fut{τ:En}{σ:St}(f:Fut K ρ H ρ' H')(r:RelE K ρ H τ σ):RelE K ρ' H' τ σ:=
 ⟨r.len,λi d h=>let⟨v,e,q⟩:=r.at' i d h;⟨v,e,q.fut f⟩⟩
theorem RelE.set{τ:En}{σ:St}{d:D}{v:V}(r:RelE K ρ H τ σ)(q:RelD K ρ H d v)(i:Nat):RelE K ρ H (τ.set i (some d)) (σ.set i (some v)):=by
 refine⟨by rw[List.length_set,List.length_set];exact r.len,λj e h=>?_⟩
 by_cases z:i=j
 ·subst z
  by_cases hl:i<τ.length
  ·rw[List.getElem?_set_self hl]at h;cases h;exact⟨v,List.getElem?_set_self (by rw[<-r.len];exact hl),q⟩
  ·rw[List.getElem?_eq_none (by rw[List.length_set];omega)]at h;cases h
 ·rw[List.getElem?_set_ne z]at h;rw[List.getElem?_set_ne z];exact r.at' j e h
theorem RelE.inner{τ:En}{σ:St}(r:RelE K ρ H τ σ)(k:Nat)(keep:List Nat):RelE K ρ H (inEn k keep τ) (inSt k keep σ):=by
 unfold inEn inSt;refine⟨by simp,λi d h=>?_⟩
 by_cases hi:i<k
 ·rw[List.getElem?_append_left (by simpa using hi),List.getElem?_replicate,if_pos hi]at h;cases h
 ·rw[List.getElem?_append_right (by simpa using hi),List.length_replicate,List.getElem?_map]at h;rw[List.getElem?_append_right (by simpa using hi),List.length_replicate,List.getElem?_map];cases ej:keep[i-k]? with
  |none=>rw[ej]at h;cases h
  |some j=>
   rw[ej]at h;have h':(τ[j]?).join=some d:=Option.some.inj h;have h':τ[j]? =some (some d):=by
    cases q:τ[j]? with
    |none=>rw[q]at h';cases h'
    |some y=>rw[q]at h';exact congrArg some h'
   obtain⟨v,e,q⟩:=r.at' j d h';refine⟨v,?_,q⟩;show some ((σ[j]?).join)=some (some v);rw[e];rfl
noncomputable def Less(τ τ':En):Prop:=τ'.length=τ.length/\∀(i:Nat) (d:D),τ'[i]? =some (some d)->τ[i]? =some (some d)
theorem RelE.less{τ τ':En}{σ:St}(r:RelE K ρ H τ σ)(l:Less τ τ'):RelE K ρ H τ' σ:=⟨l.1.trans r.len,λi d h=>r.at' i d (l.2 i d h)⟩
end Mi
namespace Mi
open PySem L2
noncomputable def opOf:Bop->Operator
 |.add=>.Add
 |.mul=>.Mult
 |.fdiv=>.FloorDiv
 |.mod=>.Mod
 |.pow=>.Pow
noncomputable def copOf:Cop->CmpOp
 |.eq=>.Eq
 |.ne=>.NotEq
 |.lt=>.Lt
 |.le=>.LtE
 |.gt=>.Gt
 |.ge=>.GtE
 |.inn=>.In
noncomputable def Fin(K:PySem.W.Frag)(ρ:List Addr)(H:Hp)(d:D)(S':Store)(Q:VK):Prop:=
 ∀(ρ':List Addr) (v:V) (H':Hp),Fut K ρ H ρ' H'->RelS K ρ' S' H'->RelD K ρ' H' d v->Q v H'
variable {K:PySem.W.Frag} {ρ ρ':List Addr} {H H':Hp} {S S':Store} {d:D} {Q:VK}
theorem Fin.now(f:Fin K ρ H d S Q)(r:RelS K ρ S H){v:V}(q:RelD K ρ H d v):Q v H:=f ρ v H Fut.refl r q
theorem Fin.newT{ds:List D}{xs:List V}(f:Fin K ρ H (.tup ds) S Q)(r:RelS K ρ S H)(q:RelDs K ρ H ds xs):∀p,H p=none->Q (.ref p) (upd H p (.tup xs)):=λp n=>
 f ρ _ _ (Jcz n) (r.new n) (by simp only[RelD];exact⟨p,xs,rfl,SqT.of Jbe,q.fut (Jcz n)⟩)
theorem Fin.newL{ds:List D}{xs:List V}(f:Fin K ρ H (.loc S.length) (S++[.lst ds]) Q)(r:RelS K ρ S H)(q:RelDs K ρ H ds xs):∀p,H p=none->Q (.ref p) (upd H p (.lst xs)):=λp n=>
 f (ρ++[p]) _ _ (Jcp n [p]) (r.alloc n q) (by simp only[RelD];exact⟨p,rfl,by rw[<-r.len,List.getElem?_append_right (Nat.le_refl _),Nat.sub_self];rfl⟩)
theorem RelD.int_inv{i:Int}{v:V}(h:RelD K ρ H (.int i) v):v=.int i:=by simpa only[RelD]using h
theorem RelD.bl_inv{i:Bool}{v:V}(h:RelD K ρ H (.bl i) v):v=.bl i:=by simpa only[RelD]using h
theorem RelD.str_inv{i:Str}{v:V}(h:RelD K ρ H (.str i) v):v=.str i:=by simpa only[RelD]using h
theorem RelD.non_inv{v:V}(h:RelD K ρ H .non v):v=.non:=by simpa only[RelD]using h
theorem RelD.tup_inv{ds:List D}{v:V}(h:RelD K ρ H (.tup ds) v):∃a xs,v=.ref a/\SqT K H a xs/\RelDs K ρ H ds xs:=by simpa only[RelD]using h
theorem RelD.kl_inv{ds:List D}{v:V}(h:RelD K ρ H (.kl ds) v):∃a xs,v=.ref a/\SqF K H a xs/\RelDs K ρ H ds xs:=by simpa only[RelD]using h
theorem RelD.loc_inv{l:Nat}{v:V}(h:RelD K ρ H (.loc l) v):∃a,v=.ref a/\ρ[l]? =some a:=by simpa only[RelD]using h
theorem RelD.int(i:Int):RelD K ρ H (.int i) (.int i):=by simp only[RelD]
theorem RelD.bl(i:Bool):RelD K ρ H (.bl i) (.bl i):=by simp only[RelD]
theorem RelD.str(i:Str):RelD K ρ H (.str i) (.str i):=by simp only[RelD]
theorem RelD.non:RelD K ρ H .non .non:=by simp only[RelD]
theorem RelS.lst(r:RelS K ρ S H){l:Nat}{v:V}{ds:List D}(h:RelD K ρ H (.loc l) v)(e:S[l]? =some (.lst ds)):∃a xs,v=.ref a/\ρ[l]? =some a/\H a=some (.lst xs)/\RelDs K ρ H ds xs:=by
 obtain⟨a,rfl,ha⟩:=h.loc_inv;obtain⟨xs,hx,q⟩:=r.ob l a _ ha e;exact⟨a,xs,rfl,ha,hx,q⟩
theorem Jao{l:Nat}{ds:List D}(e:seqAt S l=some ds):S[l]? =some (.lst ds):=by
 unfold seqAt at e;split at e
 ·cases e;assumption
 ·cases e
theorem RelS.seq(r:RelS K ρ S H){x:D}{v:V}{ds:List D}(h:RelD K ρ H x v)(e:seqOf S x=some ds):∃a xs,v=.ref a/\(SqL K H a xs\/SqT K H a xs)/\RelDs K ρ H ds xs:=by
 unfold seqOf at e;split at e
 ·cases e;obtain⟨a,xs,rfl,q,t⟩:=h.tup_inv;exact⟨a,xs,rfl,.inr q,t⟩
 ·obtain⟨a,xs,rfl,_,q,t⟩:=r.lst h (Jao e);exact⟨a,xs,rfl,.inl (SqL.of q),t⟩
 ·cases e;obtain⟨a,xs,rfl,q,t⟩:=h.kl_inv;exact⟨a,xs,rfl,.inl q.sq,t⟩
 ·cases e
theorem Jak:Line=sizeLine:=by rw[sizeLine_eq];rfl
section
open PySem.Spec PyProof.Rows PyProof
theorem Jeu:fillsNumberSlot (.type "tuple") "mul"=pure false:=
 PySem.fillsNumberSlot_seq (id:="tuple.__mul__") (r:=some (.builtin "tuple.__rmul__")) F.slot_tuple_mul.lookup (by decide+kernel) F.slot_tuple_rmul.lookup (by decide+kernel)
theorem Jg7:seqRepeat? (.type "tuple")=pure (some (.builtin "tuple.__mul__")):=by
 unfold seqRepeat?;rw[PySem.seqSlot_of (T:="tuple") (name:="__mul__") (id:="tuple.__mul__") F.slot_tuple_mul.lookup (by decide+kernel),PySem.seqSlot_of (T:="tuple") (name:="__rmul__") (id:="tuple.__rmul__") F.slot_tuple_rmul.lookup (by decide+kernel)];rfl
section
variable (l:Addr) (items:Array Value) (n:Nat) (dd:Option Addr) (sl:Array (Option Value)) (x:Int) (u:Tok)
theorem Jkb:Meets (Builtin.«int.__rmul__» ⟨[.int x u,.ref l],[]⟩) (λ_ R s=>s.heap.get? l=some {cls:=.type "tuple",dict:=dd,data:=.seq items n,slots:=sl}/\R (.ok (.ret Value.notImplemented)) s):=
 .of_wp λprog w A R s h=>by obtain⟨hp,g,d,tk,os⟩:=s;obtain⟨hl,h⟩:=h;wp_walk;exact⟨_,rfl,h⟩
theorem Jky(h1:(decide (x< -2^63)||decide (x≥2^63))=false)(h2:(items.isEmpty||x==1)=true):Meets (Builtin.«tuple.__mul__» ⟨[.ref l,.int x u],[]⟩) (λ_ R s=>s.heap.get? l=some {cls:=.type "tuple",dict:=dd,data:=.seq items n,slots:=sl}/\R (.ok (.ret (.ref l))) s):=
 .of_wp λprog w A R s h=>by
  obtain⟨hp,g,d,tk,os⟩:=s;obtain⟨hl,h⟩:=h
  wp_walk
  refine wpAny_ite_false (by rw[h1];rfl) ?_
  wp_walk using wpAny_loadPart' hl
  exact⟨_,rfl,h⟩
theorem Jkz(h1:(decide (x< -2^63)||decide (x≥2^63))=false)(h2:(items.isEmpty||x==1)=false)(h3:(decide (x<=0)||items.isEmpty)=true):Meets (Builtin.«tuple.__mul__» ⟨[.ref l,.int x u],[]⟩) (λ_ R s=>s.heap.get? l=some {cls:=.type "tuple",dict:=dd,data:=.seq items n,slots:=sl}/\R (.ok (.ret (.ref s.heap.objs.size))) {s with heap:=s.heap.push {cls:=.type "tuple",data:=.seq #[]}}):=
 .of_wp λprog w A R s h=>by
  obtain⟨hp,g,d,tk,os⟩:=s;obtain⟨hl,h⟩:=h
  wp_walk
  refine wpAny_ite_false (by rw[h1];rfl) ?_
  wp_walk using wpAny_loadPart' hl
  exact⟨_,rfl,h⟩
theorem Jk0(h1:(decide (x< -2^63)||decide (x≥2^63))=false)(h2:(items.isEmpty||x==1)=false)(h3:(decide (x<=0)||items.isEmpty)=false)(h4:¬(items.size*x>(2^63-1)/8))(h5:Builtin.Tuple.tupleTooMany (items.size*x)=false)(h6:((List.replicate x.toNat items).foldl (·++·) #[]).size<=sizeLine):Meets (Builtin.«tuple.__mul__» ⟨[.ref l,.int x u],[]⟩) (λ_ R s=>s.heap.get? l=some {cls:=.type "tuple",dict:=dd,data:=.seq items n,slots:=sl}/\R (.ok (.ret (.ref s.heap.objs.size))) {s with heap:=s.heap.push {cls:=.type "tuple",data:=.seq ((List.replicate x.toNat items).foldl (·++·) #[])}}):=
 .of_wp λprog w A R s h=>by
  obtain⟨hp,g,d,tk,os⟩:=s;obtain⟨hl,h⟩:=h
  wp_walk
  refine wpAny_ite_false (by rw[h1];rfl) ?_
  wp_walk using wpAny_loadPart' hl
  refine wpAny_ite_false (decide_eq_false h4) ?_
  wp_walk
  exact⟨_,rfl,h⟩
end
section
open L2
variable {X:Cx}
theorem Jo5:OpR X (binaryOp .Add) (λx y H Q=>∃a b ys,x=.ref a/\y=.ref b/\SqT X.K H a []/\SqT X.K H b ys/\Q (.ref b) H):=by
 intro pins s σ H x y v u Q I rx ry h;obtain⟨a,b,ys,rfl,rfl,ha,hb,q⟩:=h;cases rx;cases ry;obtain⟨its,r1,p1,_⟩:=I.tuple ha;obtain⟨its2,r2,p2,_⟩:=I.tuple hb;have hn:its=[]:=r1.nil_iff.mpr rfl;subst hn;obtain⟨⟨cls,dd,data,sl⟩,ho,hc,n,hd⟩:=id p1;obtain⟨⟨cls2,dd2,data2,sl2⟩,ho2,hc2,n2,hd2⟩:=id p2;simp only at hc hd hc2 hd2;subst hc hd hc2 hd2;exact PySem.concat_meets ⟨_,ho,rfl⟩ ⟨_,ho2,rfl⟩ PySem.noFill_tuple_add PySem.seq_tuple_add PySem.F.slot_tuple_add PySem.F.entry_tuple_add (PySem.F.args_tuple_add_2 _ _) (PyProof.Rows.tuple_addW0 a b #[] its2.toArray n n2 dd dd2 sl sl2 rfl) ⟨ho,ho2,⟨.ref b,H,I,rfl,q⟩⟩
noncomputable def rRepT(K:PySem.W.Frag):R2:=λx y H Q=>∃a k xs,x=.ref a/\y=.int k/\SqT K H a xs/\ -(2^63)<=k/\k<2^63/\xs.length*k.toNat<=sizeLine/\
 (∀ys,ys=(List.replicate k.toNat xs).flatten->(ys=xs->Q (.ref a) H)/\∀p,H p=none->Q (.ref p) (upd H p (.tup ys)))
theorem Jtb:OpR X (binaryOp .Mult) (rRepT X.K):=by
 intro pins s σ H x y v u Q I rx ry hq_;obtain⟨a,k,xs,e1,e2,sq,h1,h2,hz,q⟩:=hq_;subst e1 e2;cases rx;obtain⟨t,rfl⟩:=ry;obtain⟨its,r,pl,_⟩:=I.tuple sq;obtain⟨⟨cls,dd,data,sl⟩,ho,hc,n,hd⟩:=id pl;simp only at hc hd;subst hc hd;have hlen:its.length=xs.length:=r.length.symm;have hb:(decide (k< -2^63)||decide (k≥2^63))=false:=by simp;omega
 have f0:∀m:Nat,List.foldl (λx1 x2=>x1++x2) #[] (List.replicate m its.toArray)=(List.replicate m its).flatten.toArray:=λm=>by
  have:=Jfl its m [];rw[List.nil_append]at this;exact this
 obtain⟨q1,q2⟩:=q _ rfl;refine wpAny_binaryOp_repeat_ref (T:="tuple") (U:="int") (by decide) ⟨_,ho,rfl⟩ (λs'=>typeIs_int s' k t) Jeu F.fills_int_mul F.slot_int_rmul Jg7 F.slot_int_index.lookup
  (call_meets F.slot_int_rmul (typeIs_int s k t) F.entry_int_rmul (F.args_int_rmul_2 _ _) (Jkb a its.toArray n dd sl k t) ⟨ho,rfl,⟨_,ho,rfl⟩,?_⟩)
 have newT:∀(zs:List Value) (ys:List V),Vals ys zs->ys.length<=sizeLine->ys=(List.replicate k.toNat xs).flatten->EP X pins σ Q (.ref s.heap.objs.size) {s with heap:=s.heap.push {cls:=.type "tuple",data:=.seq zs.toArray}}:=λzs ys rv hl ey=>by
  subst ey;have hn:H s.heap.objs.size=none:=I.hok.fresh (Nat.le_refl _);refine⟨.ref s.heap.objs.size,_,?_,rfl,q2 _ hn⟩;refine I.laid (t':=s.toks) (λb o e=>Heap.get?_push_of_some _ e) (Nat.le_refl _) ⟨hl,zs,rv,?_⟩;exact⟨_,Heap.get?_push_size s.heap rfl,rfl,0,rfl⟩
 cases hs:(its.toArray.isEmpty||k==1)with
 |true=>
  refine call_meets F.slot_tuple_mul ⟨_,ho,rfl⟩ F.entry_tuple_mul (F.args_tuple_mul_2 _ _) (Jky a its.toArray n dd sl k t hb hs) ⟨ho,.ref a,H,I,rfl,q1 ?_⟩;simp only[Bool.or_eq_true,beq_iff_eq]at hs;rcases hs with hs|hs
  ·have:its=[]:=by simpa using hs
   subst this;have:xs=[]:=List.length_eq_zero_iff.mp hlen.symm;subst this;simp
  ·subst hs;simp
 |false=>
  cases hs2:(decide (k<=0)||its.toArray.isEmpty)with
  |true=>
   refine call_meets F.slot_tuple_mul ⟨_,ho,rfl⟩ F.entry_tuple_mul (F.args_tuple_mul_2 _ _) (Jkz a its.toArray n dd sl k t hb hs hs2) ⟨ho,newT [] [] .nil (by simp) ?_⟩;simp only[Bool.or_eq_true,decide_eq_true_eq]at hs2;rcases hs2 with hs2|hs2
   ·rw[show k.toNat=0 by omega];rfl
   ·simp only[Bool.or_eq_false_iff]at hs;rw[hs.1]at hs2;cases hs2
  |false=>
   have hk:0<k:=by simp only[Bool.or_eq_false_iff,decide_eq_false_iff_not]at hs2;omega
   have hkk:(k.toNat:Int)=k:=by omega
   have hsz:(its.toArray.size:Int)*k=((xs.length*k.toNat:Nat):Int):=by
    rw[List.size_toArray,hlen]
    push_cast
    rw[hkk]
   have hfl:((List.replicate k.toNat its).flatten).length=xs.length*k.toNat:=by
    rw[Jij,hlen,Nat.mul_comm]
   have h4:¬((its.toArray.size:Int)*k>(2^63-1)/8):=by
    rw[hsz];have:(sizeLine:Nat)<=1000000000000:=by rw[sizeLine_eq];decide
    omega
   have h5:Builtin.Tuple.tupleTooMany ((its.toArray.size:Int)*k)=false:=by
    rw[hsz];simp only[Builtin.Tuple.tupleTooMany,decide_eq_false_iff_not];omega
   refine call_meets F.slot_tuple_mul ⟨_,ho,rfl⟩ F.entry_tuple_mul (F.args_tuple_mul_2 _ _) (Jk0 a its.toArray n dd sl k t hb hs hs2 h4 h5 (by rw[f0];simp only[List.size_toArray];omega)) ⟨ho,?_⟩;rw[f0];exact newT _ _ (r.rep k.toNat) (by rw[Jij,Nat.mul_comm];exact hz) rfl
end
end
noncomputable def rB(K:PySem.W.Frag)(o:Bop):R2:=λx y H Q=>∃ρ S dx dy d S',RelS K ρ S H/\RelD K ρ H dx x/\RelD K ρ H dy y/\bop o dx dy S=.ok d S'/\Fin K ρ H d S' Q
theorem Jn0{i:Int}(h:i.natAbs<2^4096):Builtin.Int.intBits i<=2^20:=by
 unfold Builtin.Int.intBits;split
 ·exact Nat.zero_le _
 ·have hp:i.natAbs≠0:=by
   rename_i z;intro e;exact z (by simp[Int.natAbs_eq_zero.mp e])
  have:i.natAbs.log2<4096:=(Nat.log2_lt hp).mpr h;have:(2:Nat)^20=1048576:=by decide
  omega
theorem Jmp{n:Nat}(h:n<2^4096):n.log2<9000:=by
 by_cases e:n=0
 ·subst e;decide+kernel
 ·have:=(Nat.log2_lt e).mpr h;omega
section
variable {X:Cx}
theorem Jtc:OpR X (binaryOp .Mult) (rI (λi j=>(small i||small j||(mid i&&mid j))=true) λi j=>.int (i*j)):=opI λi j _ _ _ _ _ hc q=>PyProof.Rows.mul_int q (by
 simp only[Bool.or_eq_true,Bool.and_eq_true,small,mid,decide_eq_true_eq]at hc;rcases hc with(h|h)|h
 ·exact CMul.ok (.inl h)
 ·exact CMul.ok (.inr h)
 ·exact IntMulOk.of_bits (Jn0 h.1) (Jn0 h.2))
theorem Jo4:OpR X (binaryOp .FloorDiv) (rI (λ_ j=>0<j/\j.natAbs<2^4096) λi j=>.int (i/j)):=opI λi j _ _ _ _ _ hc q=>by
 refine PyProof.Rows.floordiv_int (by omega) ?_ (.inl (PyProof.noPylong_of_log2 (Jmp hc.2)));rw[Int.fdiv_eq_ediv_of_nonneg i (by omega)];exact q
theorem Jxb{x:Str}{n:Int}(h1: -1<n)(h2:n<=1000)(h3:x.length<=1000):MulOk x n:=by
 refine⟨?_,λhn _=>?_,λ_ _=>?_⟩
 ·rw[Bool.or_eq_false_iff,decide_eq_false_iff_not,decide_eq_false_iff_not];omega
 ·have:(1000:Int)<=(2^63-1)/n:=by
   rw[Int.le_ediv_iff_mul_le (by omega)];omega
  omega
 ·have:x.length*n.toNat<=1000*1000:=Nat.mul_le_mul h3 (by omega);unfold Builtin.Str.tooLong;simp only[decide_eq_false_iff_not,sizeLine_eq];omega
theorem Jre(o:Bop):OpR X (binaryOp (opOf o)) (rB X.K o):=by
 intro pins s σ H x y v u Q I rx ry hq_;obtain⟨ρ,S,dx,dy,d,S',rs,r1,r2,e,fin⟩:=hq_;cases o with
 |add=>
  cases dx<;>cases dy<;>first|exact absurd e Jab|simp only[Jwa,Jl2,Jqs,Jl0,Jl1]at e
  ·cases e;cases r1.int_inv;cases r2.int_inv;exact Jw3 pins s σ H _ _ v u Q I rx ry ⟨_,_,rfl,rfl,fin.now rs (RelD.int _)⟩
  ·split at e
   ·rename_i hl;cases e;cases r1.str_inv;cases r2.str_inv;exact Jkf pins s σ H _ _ v u Q I rx ry ⟨_,_,rfl,rfl,by rw[<-Jak];exact hl,fin.now rs (RelD.str _)⟩
   ·cases e
  ·split at e
   ·rename_i hl;cases e;obtain⟨a,xs,rfl,q1,t1⟩:=r1.tup_inv;obtain⟨b,ys,rfl,q2,t2⟩:=r2.tup_inv
    by_cases hds:xs=[]
    ·subst hds;have:=t1.length;rw[List.length_nil]at this;have ea:=List.length_eq_zero_iff.mp this;subst ea;refine Jo5 pins s σ H _ _ v u Q I rx ry ⟨a,b,ys,rfl,rfl,q1,q2,fin.now rs ?_⟩;simp only[RelD,List.nil_append];exact⟨b,ys,rfl,q2,t2⟩
    refine Jtd pins s σ H _ _ v u Q I rx ry ⟨a,b,xs,ys,rfl,rfl,q1,q2,hds,?_,λey=>?_,λ_=>fin.newT rs (t1.append t2)⟩
    ·rw[<-t1.length,<-t2.length,<-Jak];exact hl
    ·subst ey;have:=t2.length;rw[List.length_nil]at this;have eb:=List.length_eq_zero_iff.mp this;subst eb;refine fin.now rs ?_;simp only[RelD,List.append_nil];exact⟨a,xs,rfl,q1,t1⟩
   ·cases e
  ·split at e
   ·rename_i a b ha hb;split at e
    ·rename_i hl;cases e;obtain⟨p,xs,rfl,_,q1,t1⟩:=rs.lst r1 ha;obtain⟨p2,ys,rfl,_,q2,t2⟩:=rs.lst r2 hb;exact Jw2 pins s σ H _ _ v u Q I rx ry ⟨p,p2,xs,ys,rfl,rfl,q1,q2,by rw[<-t1.length,<-t2.length,<-Jak];exact hl,fin.newL rs (t1.append t2)⟩
    ·cases e
   ·cases e
  ·split at e
   ·rename_i b hb;split at e
    ·rename_i hl;cases e;obtain⟨p,xs,rfl,q1,t1⟩:=r1.kl_inv;obtain⟨p2,ys,rfl,_,q2,t2⟩:=rs.lst r2 hb;exact Jte pins s σ H _ _ v u Q I rx ry ⟨p,p2,xs,ys,rfl,rfl,q1.sq,SqL.of q2,by rw[<-t1.length,<-t2.length,<-Jak];exact hl,fin.newL rs (t1.append t2)⟩
    ·cases e
   ·cases e
 |mul=>
  cases dx<;>cases dy<;>first|exact absurd e Jab|simp only[Jqr,Jid,Jv9,Jv8]at e
  ·split at e
   ·rename_i hl;cases e;cases r1.int_inv;cases r2.int_inv;exact Jtc pins s σ H _ _ v u Q I rx ry ⟨_,_,rfl,rfl,hl,fin.now rs (RelD.int _)⟩
   ·cases e
  ·split at e
   ·rename_i hl;simp only[Bool.and_eq_true,decide_eq_true_eq]at hl;cases e;cases r1.str_inv;cases r2.int_inv;obtain⟨t1,rfl⟩:=rx;obtain⟨t2,rfl⟩:=ry;exact SB.mul (Jxb hl.1.1.1 hl.1.1.2 hl.2) λt' k=>⟨.str _,H,I.tok _,⟨t',rfl⟩,fin.now rs (RelD.str _)⟩
   ·cases e
  ·split at e
   ·rename_i hl;simp only[Bool.and_eq_true,decide_eq_true_eq]at hl;cases e;obtain⟨a,xs,rfl,q1,t1⟩:=r1.tup_inv;cases r2.int_inv;refine Jtb pins s σ H _ _ v u Q I rx ry ⟨a,_,xs,rfl,rfl,q1,hl.1.1,hl.1.2,by rw[<-t1.length,<-Jak];exact hl.2,λys ey=>⟨λe=>?_,?_⟩⟩
    ·have t2:=t1.rep (Int.toNat ‹Int›);rw[<-ey,e]at t2;refine fin.now rs ?_;simp only[RelD];exact⟨a,xs,rfl,q1,t2⟩
    ·subst ey;exact fin.newT rs (t1.rep _)
   ·cases e
  ·split at e
   ·rename_i a ha;split at e
    ·rename_i hl;simp only[Bool.and_eq_true,decide_eq_true_eq]at hl;cases e;obtain⟨p,xs,rfl,_,q1,t1⟩:=rs.lst r1 ha;cases r2.int_inv;refine Jwy pins s σ H _ _ v u Q I rx ry ⟨p,_,xs,rfl,rfl,q1,hl.1.1,hl.1.2,by rw[<-t1.length,<-Jak];exact hl.2,?_⟩;exact fin.newL rs (t1.rep _)
    ·cases e
   ·cases e
 |fdiv=>
  cases dx<;>cases dy<;>first|exact absurd e Jab|simp only[Jqq]at e
  split at e
  ·rename_i hl;cases e;cases r1.int_inv;cases r2.int_inv;exact Jo4 pins s σ H _ _ v u Q I rx ry ⟨_,_,rfl,rfl,hl,fin.now rs (RelD.int _)⟩
  ·cases e
 |mod=>
  cases dx<;>cases dy<;>first|exact absurd e Jab|simp only[Jqp]at e
  split at e
  ·rename_i hl;cases e;cases r1.int_inv;cases r2.int_inv;exact Jw0 pins s σ H _ _ v u Q I rx ry ⟨_,_,rfl,rfl,hl,fin.now rs (RelD.int _)⟩
  ·cases e
 |pow=>
  cases dx<;>cases dy<;>first|exact absurd e Jab|simp only[Jge]at e
  split at e
  ·rename_i hl;simp only[Bool.and_eq_true,decide_eq_true_eq]at hl;cases e;cases r1.int_inv;cases r2.int_inv;exact Jwz pins s σ H _ _ v u Q I rx ry ⟨_,_,rfl,rfl,⟨hl.1.1,hl.1.2,hl.2⟩,fin.now rs (RelD.int _)⟩
  ·cases e
end
theorem Jhh(A:Around):A.in1.units=A.units+1:=rfl
section
variable {X:Cx} {pins:List (Addr×PySem.Obj)} {σ:L2.St} {s:Shared}
theorem Jv7{A:Around}{s:Shared}{y x:V}{u v:Value}(ry:RelV y u)(rx:RelV x v)(fy:flatV y=true)(fx:flatV x=true):SeqAt.RcAt A s u v (eqV y x):=by
 cases y with
 |non=>
  cases ry;cases x with
  |non=>cases rx;exact SeqAt.RcAt.none_none
  |bl b=>cases rx;exact SeqAt.RcAt.none_bool b
  |int b=>obtain⟨t,rfl⟩:=rx;exact SeqAt.RcAt.none_int b t
  |str b=>obtain⟨t,rfl⟩:=rx;exact SeqAt.RcAt.none_str b t
  |_=>exact fx9 (show false=true from fx)
 |bl a=>
  cases ry;cases x with
  |non=>cases rx;exact SeqAt.RcAt.bool_none a
  |bl b=>cases rx;exact SeqAt.RcAt.bool_bool a b
  |int b=>obtain⟨t,rfl⟩:=rx;exact SeqAt.RcAt.bool_int a b t
  |str b=>obtain⟨t,rfl⟩:=rx;exact SeqAt.RcAt.bool_str a b t
  |_=>exact fx9 (show false=true from fx)
 |int a=>
  obtain⟨t',rfl⟩:=ry;cases x with
  |non=>cases rx;exact SeqAt.RcAt.int_none a t'
  |bl b=>cases rx;exact SeqAt.RcAt.int_bool a t' b
  |int b=>obtain⟨t,rfl⟩:=rx;exact SeqAt.RcAt.int_int a t' b t
  |str b=>obtain⟨t,rfl⟩:=rx;exact SeqAt.RcAt.int_str a t' b t
  |_=>exact fx9 (show false=true from fx)
 |str a=>
  obtain⟨t',rfl⟩:=ry;cases x with
  |non=>cases rx;exact SeqAt.RcAt.str_none a t'
  |bl b=>cases rx;exact SeqAt.RcAt.str_bool a t' b
  |int b=>obtain⟨t,rfl⟩:=rx;exact SeqAt.RcAt.str_int a t' b t
  |str b=>obtain⟨t,rfl⟩:=rx;exact SeqAt.RcAt.str_str a t' b t
  |_=>exact fx9 (show false=true from fx)
 |_=>exact fx9 (show false=true from fy)
theorem Jex{x:D}{v w:V}(h:RelD K ρ H x v)(e:scalV x=some w):v=w/\flatV w=true:=by
 cases x<;>simp only[scalV]at e<;>try (cases e;done)
 ·cases e;exact⟨h.non_inv,rfl⟩
 ·cases e;exact⟨h.bl_inv,rfl⟩
 ·cases e;exact⟨h.int_inv,rfl⟩
 ·cases e;exact⟨h.str_inv,rfl⟩
theorem Jec{f:D->D->Option Bool}:∀{as bs:List D} {b:Bool},eqL f as bs=some b->as.length=bs.length->∀(i:Nat) (x y:D),as[i]? =some x->bs[i]? =some y->∃c,f x y=some c
 |[],[],b,_,_,i,x,y,h1,_=>by simp at h1
 |[],_::_,b,_,hl,i,x,y,h1,_=>by simp at h1
 |_::_,[],b,_,hl,i,x,y,_,h2=>by simp at h2
 |a::as,c::bs,b,e,hl,i,x,y,h1,h2=>by
  simp only[eqL]at e;split at e
  ·rename_i p q hp hq;cases i with
   |zero=>simp at h1 h2;subst h1 h2;exact⟨p,hp⟩
   |succ i=>exact Jec hq (by simpa using hl) i x y (by simpa using h1) (by simpa using h2)
  ·cases e
theorem Jim{f:D->D->Option Bool}(e:Nat->Bool):∀{as bs:List D} {b:Bool} (k:Nat),eqL f as bs=some b->as.length=bs.length->(∀(i:Nat) (x y:D),as[i]? =some x->bs[i]? =some y->f x y=some (e (k+i)))->b=((List.range as.length).map (k+·)).all e
 |[],[],b,k,h,_,_=>by simp only[eqL]at h;cases h;rfl
 |[],_::_,b,k,h,hl,_=>by simp at hl
 |_::_,[],b,k,h,hl,_=>by simp at hl
 |a::as,c::bs,b,k,h,hl,hf=>by
  simp only[eqL]at h;split at h
  ·rename_i p q hp hq;cases h;have h0:=hf 0 a c rfl rfl;rw[hp]at h0;have h0:p=e (k+0):=Option.some.inj h0;have h1:=Jim e (k+1) hq (by simpa using hl) λi x y e1 e2=>by
    have:=hf (i+1) x y (by simpa using e1) (by simpa using e2);rw[show k+1+i=k+(i+1)from by omega];exact this
   rw[h0,h1,List.length_cons,List.range_succ_eq_map,List.map_cons,List.all_cons,List.map_map];congr 2;refine List.map_congr_left λi _=>?_;show k+1+i=k+(i+1);omega
  ·cases h
theorem Jjw(I:Inv X pins σ H s)(r:RelS X.K ρ S H):∀(n:Nat) {x y:D} {v:V} {b:Bool},RelD X.K ρ H x v->RelD X.K ρ H y v->eqD S n x y=some b->b=true:=by
 have sc:∀{x y:D} {v w z:V} {b:Bool},RelD X.K ρ H x v->RelD X.K ρ H y v->scalV x=some w->scalV y=some z->some (eqV w z)=some b->b=true:=λ{x y v w z b} h1 h2 e1 e2 e=>by
  obtain⟨rfl,f1⟩:=Jex h1 e1;obtain⟨rfl,f2⟩:=Jex h2 e2;cases e;cases v<;>simp_all [flatV,eqV]
 intro n
 induction n with
 |zero=>
  intro x y v b h1 h2 e;simp only[eqD]at e;split at e
  ·rename_i w z e1 e2;exact sc h1 h2 e1 e2 e
  ·cases e
 |succ n ih=>
  intro x y v b h1 h2 e;have ihL:∀{as bs:List D} {vs:List V} {b:Bool},RelDs X.K ρ H as vs->RelDs X.K ρ H bs vs->eqL (eqD S n) as bs=some b->b=true:=by
   intro as
   induction as with
   |nil=>
    intro bs vs b h1 h2 e;cases bs with
    |nil=>simp only[eqL]at e;cases e;rfl
    |cons c bs=>
     rw[h1.inv_nil]at h2;obtain⟨_,_,z,_⟩:=h2.inv_cons;cases z
   |cons a as iha=>
    intro bs vs b h1 h2 e;obtain⟨w,ws,rfl,q1,t1⟩:=h1.inv_cons;cases bs with
    |nil=>cases h2.inv_nil
    |cons c bs=>
     obtain⟨w',ws',z,q2,t2⟩:=h2.inv_cons;cases z;simp only[eqL]at e;split at e
     ·rename_i p q hp hq;cases e;rw[ih q1 q2 hp,iha t1 t2 hq];rfl
     ·cases e
  simp only[eqD]at e;split at e
  ·rename_i as bs;obtain⟨a,xs,rfl,p1,t1⟩:=h1.tup_inv;obtain⟨a',xs',e',p2,t2⟩:=h2.tup_inv;cases e';cases I.tuple_inj p1 p2;have hl:as.length=bs.length:=t1.length.trans t2.length.symm;rw[if_pos hl]at e;exact ihL t1 t2 e
  ·rename_i l k;obtain⟨a,rfl,p1⟩:=h1.loc_inv;obtain⟨a',e',p2⟩:=h2.loc_inv;cases e';have hlk:l=k:=Jdt r.nd p1 p2;subst hlk;split at e
   ·rename_i as bs e1 e2;rw[e1]at e2;cases e2;rw[if_pos rfl]at e;obtain⟨b',xs,_,_,_,t⟩:=r.lst h1 (Jao e1);exact ihL t t e
   ·cases e
  ·split at e
   ·rename_i w z e1 e2;exact sc h1 h2 e1 e2 e
   ·cases e
end
end Mi
namespace Mi
open PySem L2
theorem Jom{A:Around}{s:Shared}{y x:V}{u v:Value}(ry:RelV y u)(rx:RelV x v)(fy:flatV y=true)(fx:flatV x=true):SeqAt.RcNeAt A s u v (!eqV y x):=by
 cases y with
 |non=>
  cases ry;cases x with
  |non=>cases rx;exact SeqAt.RcNeAt.none_none
  |bl b=>cases rx;exact SeqAt.RcNeAt.none_bool b
  |int b=>obtain⟨t,rfl⟩:=rx;exact SeqAt.RcNeAt.none_int b t
  |str b=>obtain⟨t,rfl⟩:=rx;exact SeqAt.RcNeAt.none_str b t
  |_=>exact fx9 (show false=true from fx)
 |bl a=>
  cases ry;cases x with
  |non=>cases rx;exact SeqAt.RcNeAt.bool_none a
  |bl b=>cases rx;exact SeqAt.RcNeAt.bool_bool a b
  |int b=>obtain⟨t,rfl⟩:=rx;exact SeqAt.RcNeAt.bool_int a b t
  |str b=>obtain⟨t,rfl⟩:=rx;exact SeqAt.RcNeAt.bool_str a b t
  |_=>exact fx9 (show false=true from fx)
 |int a=>
  obtain⟨t',rfl⟩:=ry;cases x with
  |non=>cases rx;exact SeqAt.RcNeAt.int_none a t'
  |bl b=>cases rx;exact SeqAt.RcNeAt.int_bool a t' b
  |int b=>obtain⟨t,rfl⟩:=rx;exact SeqAt.RcNeAt.int_int a t' b t
  |str b=>obtain⟨t,rfl⟩:=rx;exact SeqAt.RcNeAt.int_str a t' b t
  |_=>exact fx9 (show false=true from fx)
 |str a=>
  obtain⟨t',rfl⟩:=ry;cases x with
  |non=>cases rx;exact SeqAt.RcNeAt.str_none a t'
  |bl b=>cases rx;exact SeqAt.RcNeAt.str_bool a t' b
  |int b=>obtain⟨t,rfl⟩:=rx;exact SeqAt.RcNeAt.str_int a t' b t
  |str b=>obtain⟨t,rfl⟩:=rx;exact SeqAt.RcNeAt.str_str a t' b t
  |_=>exact fx9 (show false=true from fx)
 |_=>exact fx9 (show false=true from fy)
section
variable {X:Cx} {pins:List (Addr×PySem.Obj)} {σ:L2.St} {s:Shared} {ρ:List Addr} {H:Hp} {S:Store}
structure EqAll(A:Around)(s:Shared)(u w:Value)(b:Bool):Prop where
 eq:SeqAt.EqAt A s u w b
 rc:SeqAt.RcAt A s u w b
 ne:SeqAt.RcNeAt A s u w (!b)
theorem Jng{A:Around}{x y:D}{vx vy p q:V}{u w:Value}{b:Bool}(h1:RelD X.K ρ H x vx)(h2:RelD X.K ρ H y vy)(r1:RelV vx u)(r2:RelV vy w)(e1:scalV x=some p)(e2:scalV y=some q)(e:some (eqV p q)=some b):EqAll A s u w b:=by
 obtain⟨rfl,f1⟩:=Jex h1 e1;obtain⟨rfl,f2⟩:=Jex h2 e2;cases e;exact⟨Jx8 r1 r2 f1 f2,Jv7 r1 r2 f1 f2,Jom r1 r2 f1 f2⟩
theorem Jmh{as bs:List D}{xs ys:List V}{us ws:List Value}(t1:RelDs X.K ρ H as xs)(t2:RelDs X.K ρ H bs ys)(v1:Vals xs us)(v2:Vals ys ws){j:Nat}(h1:j<us.toArray.size)(h2:j<ws.toArray.size):
  ∃a b v z,as[j]? =some a/\bs[j]? =some b/\RelD X.K ρ H a v/\RelD X.K ρ H b z/\RelV v us.toArray[j]/\RelV z ws.toArray[j]:=by
 have l1:j<as.length:=by rw[t1.length,v1.length];simpa using h1
 have l2:j<bs.length:=by rw[t2.length,v2.length];simpa using h2
 obtain⟨v,e1,q1⟩:=t1.get (List.getElem?_eq_getElem l1);obtain⟨z,e2,q2⟩:=t2.get (List.getElem?_eq_getElem l2);obtain⟨u',e3,q3⟩:=v1.get e1;obtain⟨w',e4,q4⟩:=v2.get e2;refine⟨_,_,v,z,List.getElem?_eq_getElem l1,List.getElem?_eq_getElem l2,q1,q2,?_,?_⟩
 ·have:us.toArray[j]=u':=by
   have:=List.getElem?_eq_some_iff.mp e3;obtain⟨_,e⟩:=this
   simpa using e
  rw[this];exact q3
 ·have:ws.toArray[j]=w':=by
   have:=List.getElem?_eq_some_iff.mp e4;obtain⟨_,e⟩:=this
   simpa using e
  rw[this];exact q4
theorem Jnh(I:Inv X pins σ H s)(r:RelS X.K ρ S H):∀(n:Nat) {A:Around} {x y:D} {vx vy:V} {u w:Value} {b:Bool},A.units+n<cLine->RelD X.K ρ H x vx->RelD X.K ρ H y vy->RelV vx u->RelV vy w->eqD S n x y=some b->EqAll A s u w b:=by
 intro n
 induction n with
 |zero=>
  intro A x y vx vy u w b hu h1 h2 r1 r2 e;simp only[eqD]at e;split at e
  ·rename_i p q e1 e2;exact Jng h1 h2 r1 r2 e1 e2 e
  ·cases e
 |succ n ih=>
  intro A x y vx vy u w b hu h1 h2 r1 r2 e;have e0:=e;have hu0:A.units<cLine:=by omega
  have hu1:A.in1.units+n<cLine:=by rw[Jhh];omega
  simp only[eqD]at e;split at e
  ·rename_i as bs;obtain⟨a,xs,rfl,p1,t1⟩:=h1.tup_inv;obtain⟨c,ys,rfl,p2,t2⟩:=h2.tup_inv;cases r1;cases r2;obtain⟨us,v1,i1,z1⟩:=I.tuple p1;obtain⟨ws,v2,i2,z2⟩:=I.tuple p2;have s1:us.toArray.size=as.length:=by rw[List.size_toArray,<-v1.length,t1.length]
   have s2:ws.toArray.size=bs.length:=by rw[List.size_toArray,<-v2.length,t2.length]
   let ev:Nat->Bool:=λj=>match as[j]?,bs[j]? with|some p,some q=>(eqD S n p q).getD false|_,_=>false
   have he:∀(hs:∀(j:Nat) (p q:D),as[j]? =some p->bs[j]? =some q->∃c,eqD S n p q=some c) (j:Nat) (g1:j<us.toArray.size) (g2:j<ws.toArray.size),SeqAt.EqAt A.in1 s us.toArray[j] ws.toArray[j] (ev j):=λhs j g1 g2=>by
    obtain⟨p,q,v,z,a1,a2,q1,q2,q3,q4⟩:=Jmh t1 t2 v1 v2 g1 g2;obtain⟨c,hc⟩:=hs j p q a1 a2;have:ev j=c:=by simp only[ev,a1,a2,hc];rfl
    rw[this];exact(ih hu1 q1 q2 q3 q4 hc).eq
   have fin:∀(hs:∀(j:Nat) (p q:D),as[j]? =some p->bs[j]? =some q->∃c,eqD S n p q=some c),((List.range (min us.toArray.size ws.toArray.size)).all ev&&us.toArray.size==ws.toArray.size)=b->EqAll A s (.ref a) (.ref c) b:=λhs hb=>by
    have rc:=SeqAt.RcAt.tuples (show s.heap.IsTuple a us.toArray from i1) (show s.heap.IsTuple c ws.toArray from i2) hu0 (he hs);have ne:=SeqAt.RcNeAt.tuples (show s.heap.IsTuple a us.toArray from i1) (show s.heap.IsTuple c ws.toArray from i2) hu0 (he hs);rw[hb]at rc ne;refine⟨?_,rc,ne⟩
    by_cases hac:a=c
    ·subst hac;have:=Jjw I r (n+1) h1 h2 e0;subst this;exact SeqAt.EqAt.same _
    ·exact SeqAt.EqAt.of_refs hac rc
   split at e
   ·rename_i hl;refine fin (λj p q a1 a2=>Jec e hl j p q a1 a2) ?_;rw[s1,s2,hl,Nat.min_self,beq_self_eq_true,Bool.and_true];rw[Jim ev 0 e hl λj p q a1 a2=>?_]
    ·rw[hl];congr 1;exact(List.map_id' _).symm.trans (List.map_congr_left λj _=>(Nat.zero_add j).symm)
    ·obtain⟨c',hc'⟩:=Jec e hl j p q a1 a2;rw[hc',Nat.zero_add];simp only[ev,a1,a2,hc'];rfl
   ·rename_i hl;split at e
    ·rename_i hsome;cases e;obtain⟨b',hb'⟩:=Option.isSome_iff_exists.mp hsome;refine fin (λj p q a1 a2=>?_) ?_
     ·have l1:=(List.getElem?_eq_some_iff.mp a1).1;have l2:=(List.getElem?_eq_some_iff.mp a2).1;refine Jec hb' (by rw[List.length_take,List.length_take,Nat.min_comm]) j p q ?_ ?_
      ·rw[List.getElem?_take_of_lt l2];exact a1
      ·rw[List.getElem?_take_of_lt l1];exact a2
     ·have:(us.toArray.size==ws.toArray.size)=false:=by rw[s1,s2];simpa using hl
      rw[this,Bool.and_false]
    ·cases e
  ·rename_i l k;split at e
   ·rename_i as bs e1 e2;obtain⟨a,xs,rfl,_,p1,t1⟩:=r.lst h1 (Jao e1);obtain⟨c,ys,rfl,_,p2,t2⟩:=r.lst h2 (Jao e2);cases r1;cases r2;obtain⟨us,v1,i1,z1⟩:=I.list (SqL.of p1);obtain⟨ws,v2,i2,z2⟩:=I.list (SqL.of p2);have s1:us.toArray.size=as.length:=by rw[List.size_toArray,<-v1.length,t1.length]
    have s2:ws.toArray.size=bs.length:=by rw[List.size_toArray,<-v2.length,t2.length]
    have fin:∀(rc:SeqAt.RcAt A s (.ref a) (.ref c) b) (ne:SeqAt.RcNeAt A s (.ref a) (.ref c) (!b)),EqAll A s (.ref a) (.ref c) b:=λrc ne=>by
     refine⟨?_,rc,ne⟩
     by_cases hac:a=c
     ·subst hac;have:=Jjw I r (n+1) h1 h2 e0;subst this;exact SeqAt.EqAt.same _
     ·exact SeqAt.EqAt.of_refs hac rc
    split at e
    ·rename_i hl
     let ev:Nat->Bool:=λj=>match as[j]?,bs[j]? with|some p,some q=>(eqD S n p q).getD false|_,_=>false
     have he:∀(j:Nat) (g1:j<us.toArray.size) (g2:j<ws.toArray.size),SeqAt.EqAt A.in1 s us.toArray[j] ws.toArray[j] (ev j):=λj g1 g2=>by
      obtain⟨p,q,v,z,a1,a2,q1,q2,q3,q4⟩:=Jmh t1 t2 v1 v2 g1 g2;obtain⟨c,hc⟩:=Jec e hl j p q a1 a2;have:ev j=c:=by simp only[ev,a1,a2,hc];rfl
      rw[this];exact(ih hu1 q1 q2 q3 q4 hc).eq
     have hb:(List.range us.toArray.size).all ev=b:=by
      rw[s1];rw[Jim ev 0 e hl λj p q a1 a2=>?_]
      ·congr 1;exact(List.map_id' _).symm.trans (List.map_congr_left λj _=>(Nat.zero_add j).symm)
      ·obtain⟨c',hc'⟩:=Jec e hl j p q a1 a2;rw[hc',Nat.zero_add];simp only[ev,a1,a2,hc'];rfl
     have rc:=SeqAt.RcAt.lists i1.isList i2.isList (by rw[s1,s2,hl]) hu0 he;have ne:=SeqAt.RcNeAt.lists i1.isList i2.isList (by rw[s1,s2,hl]) hu0 he;rw[hb]at rc ne;exact fin rc ne
    ·rename_i hl;cases e;have hsz:(us.toArray.size !=ws.toArray.size)=true:=by rw[s1,s2];simpa using hl
     exact fin (SeqAt.RcAt.lists_lengths i1.isList i2.isList hsz hu0) (SeqAt.RcNeAt.lists_lengths i1.isList i2.isList hsz hu0)
   ·cases e
  ·split at e
   ·rename_i p q e1 e2;exact Jng h1 h2 r1 r2 e1 e2 e
   ·cases e
end
end Mi
namespace Mi
open PySem L2
section
variable {X:Cx} {ρ:List Addr} {H:Hp} {S:Store} {pins:List (Addr×PySem.Obj)} {σ:L2.St} {s:Shared}
theorem Jdv(I:Inv X pins σ H s){a:Addr}{xs ys:List V}(h1:SqL X.K H a xs)(h2:SqT X.K H a ys):False:=by
 obtain⟨its,_,⟨o,n,e,c,_⟩,_⟩:=I.list h1;obtain⟨its2,_,⟨o2,e2,c2,_⟩,_⟩:=I.tuple h2;rw[e]at e2;cases e2;rw[c]at c2;injection c2 with z;exact absurd z (by decide)
theorem Jgd{K:PySem.W.Frag}{a:Addr}{o:Obj}(h:RelO K ρ H a o):∃o0:HO,H a=Option.some o0/\(∀xs,o0≠ .tup xs)/\∀u w,o0≠ .frz u (.tup w)/\o0≠ .frz u (.lst w):=by
 cases o with
 |lst ds=>obtain⟨xs,e,_⟩:=h;exact⟨_,e,(λ_ z=>by cases z),(λ_ _=>⟨nofun,nofun⟩)⟩
 |dct ds=>obtain⟨xs,e,_⟩:=h;exact⟨_,e,(λ_ z=>by cases z),(λ_ _=>⟨nofun,nofun⟩)⟩
 |ins c fs=>obtain⟨C,dx,ws,n,e,r⟩:=h;exact⟨_,e,(λ_ z=>by cases z),(λ_ _=>⟨nofun,nofun⟩)⟩
theorem mutT(I:Inv X pins σ H s){a:Addr}{o0:HO}{xs:List V}(e:H a=some o0)(m1:∀xs,o0≠ .tup xs)(m2:∀u w,o0≠ .frz u (.tup w)/\o0≠ .frz u (.lst w))(q:SqT X.K H a xs):False:=by
 rcases q with(q|⟨o,q⟩)|⟨o,_,_,hk,_⟩
 ·rw[e]at q;exact m1 _ (Option.some.inj q)
 ·rw[e]at q;exact(m2 _ _).1 (Option.some.inj q)
 ·have z:=(I.bs a o (I.ok.mod.kin a o hk)).2;rw[e]at z;cases z
theorem mutF(I:Inv X pins σ H s){a:Addr}{o0:HO}{xs:List V}(e:H a=some o0)(m2:∀u w,o0≠ .frz u (.tup w)/\o0≠ .frz u (.lst w))(q:SqF X.K H a xs):False:=by
 rcases q with⟨o,q⟩|⟨o,_,_,hk,_⟩
 ·rw[e]at q;exact(m2 _ _).2 (Option.some.inj q)
 ·have z:=(I.bs a o (I.ok.mod.kin a o hk)).2;rw[e]at z;cases z
mutual
theorem RelD.inj(I:Inv X pins σ H s)(r:RelS X.K ρ S H):∀{d d':D} {v:V},RelD X.K ρ H d v->RelD X.K ρ H d' v->d=d'
 |.non,d',v,h,h'=>by
  cases h.non_inv;cases d'<;>simp only[RelD]at h'<;>first|rfl|(cases h';done)|(obtain⟨_,_,e,_⟩:=h';cases e)|(obtain⟨_,e,_⟩:=h';cases e)
 |.bl b,d',v,h,h'=>by
  cases h.bl_inv;cases d'<;>simp only[RelD]at h'<;>first|(cases h';rfl)|(cases h';done)|(obtain⟨_,_,e,_⟩:=h';cases e)|(obtain⟨_,e,_⟩:=h';cases e)
 |.int b,d',v,h,h'=>by
  cases h.int_inv;cases d'<;>simp only[RelD]at h'<;>first|(cases h';rfl)|(cases h';done)|(obtain⟨_,_,e,_⟩:=h';cases e)|(obtain⟨_,e,_⟩:=h';cases e)
 |.str b,d',v,h,h'=>by
  cases h.str_inv;cases d'<;>simp only[RelD]at h'<;>first|(cases h';rfl)|(cases h';done)|(obtain⟨_,_,e,_⟩:=h';cases e)|(obtain⟨_,e,_⟩:=h';cases e)
 |.tup ds,d',v,h,h'=>by
  obtain⟨a,xs,rfl,q,t⟩:=h.tup_inv;cases d' with
  |tup es=>
   obtain⟨a',xs',e,q',t'⟩:=h'.tup_inv;cases e;cases I.tuple_inj q q';rw[RelDs.inj I r t t']
  |loc l=>
   obtain⟨a',e,hl⟩:=h'.loc_inv;cases e;obtain⟨o,_,ho⟩:=r.at hl;obtain⟨o0,e0,m1,m2⟩:=Jgd ho;exact(mutT I e0 m1 m2 q).elim
  |kl es=>
   obtain⟨a',xs',e,q',t'⟩:=h'.kl_inv;cases e;exact(Jdv I q'.sq q).elim
  |_=>simp only[RelD]at h';cases h'
 |.loc l,d',v,h,h'=>by
  obtain⟨a,rfl,hl⟩:=h.loc_inv;obtain⟨o,_,ho⟩:=r.at hl;obtain⟨o0,e0,m1,m2⟩:=Jgd ho;cases d' with
  |loc k=>
   obtain⟨a',e,hk⟩:=h'.loc_inv;cases e;rw[Jdt r.nd hl hk]
  |tup es=>
   obtain⟨a',xs',e,q',t'⟩:=h'.tup_inv;cases e;exact(mutT I e0 m1 m2 q').elim
  |kl es=>
   obtain⟨a',xs',e,q',t'⟩:=h'.kl_inv;cases e;exact(mutF I e0 m2 q').elim
  |_=>simp only[RelD]at h';cases h'
 |.kl ds,d',v,h,h'=>by
  obtain⟨a,xs,rfl,q,t⟩:=h.kl_inv;cases d' with
  |kl es=>
   obtain⟨a',xs',e,q',t'⟩:=h'.kl_inv;cases e;cases I.list_inj q.sq q'.sq;rw[RelDs.inj I r t t']
  |loc l=>
   obtain⟨a',e,hl⟩:=h'.loc_inv;cases e;obtain⟨o,_,ho⟩:=r.at hl;obtain⟨o0,e0,m1,m2⟩:=Jgd ho;exact(mutF I e0 m2 q).elim
  |tup es=>
   obtain⟨a',xs',e,q',t'⟩:=h'.tup_inv;cases e;exact(Jdv I q.sq q').elim
  |_=>simp only[RelD]at h';cases h'
theorem RelDs.inj(I:Inv X pins σ H s)(r:RelS X.K ρ S H):∀{ds ds':List D} {vs:List V},RelDs X.K ρ H ds vs->RelDs X.K ρ H ds' vs->ds=ds'
 |[],ds',vs,h,h'=>by
  rw[h.inv_nil]at h';cases ds' with
  |nil=>rfl
  |cons d es=>obtain⟨_,_,e,_⟩:=h'.inv_cons;cases e
 |d::ds,ds',vs,h,h'=>by
  obtain⟨v,ws,rfl,q,t⟩:=h.inv_cons;cases ds' with
  |nil=>cases h'.inv_nil
  |cons d' es=>
   obtain⟨v',ws',e,q',t'⟩:=h'.inv_cons;cases e;rw[RelD.inj I r q q',RelDs.inj I r t t']
end
noncomputable def rC(K:PySem.W.Frag)(o:Cop):R2:=λx y H Q=>∃ρ S dx dy k,RelS K ρ S H/\RelD K ρ H dx x/\RelD K ρ H dy y/\cop o dx dy S=some k/\Q (.bl k) H
theorem Jj3(I:Inv X pins σ H s)(r:RelS X.K ρ S H){A:Around}{x:D}{vx:V}{w:Value}(hu:A.units+Deep<cLine)(hx:RelD X.K ρ H x vx)(rx:RelV vx w)
  {ds:List D}{xs:List V}{us:List Value}{b:Bool}(t:RelDs X.K ρ H ds xs)(v:Vals xs us)(e:anyEq S Deep x ds=some b):∃e:Value->Bool,(∀u∈us,SeqAt.EqAt A s u w (e u))/\us.any e=b:=by
 classical
 let ev:Value->Bool:=λu=>decide (∃d v,RelD X.K ρ H d v/\RelV v u/\eqD S Deep d x=some true)
 have one:∀{d:D} {v:V} {u:Value} {b:Bool},RelD X.K ρ H d v->RelV v u->eqD S Deep d x=some b->ev u=b:=λ{d v u b} h r1 e=>by
  cases b with
  |true=>exact decide_eq_true ⟨d,v,h,r1,e⟩
  |false=>
   refine decide_eq_false ?_;rintro⟨d',v',h',r2,e'⟩;cases r1.inj r2;rw[RelD.inj I r h h',e']at e;cases e
 refine⟨ev,?_⟩
 induction ds generalizing xs us b with
 |nil=>
  rw[t.inv_nil]at v;cases v;simp only[anyEq]at e;cases e;exact⟨λu hu=>by simp at hu,rfl⟩
 |cons d ds ih=>
  obtain⟨z,zs,rfl,q,t'⟩:=t.inv_cons;cases v with
  |cons r1 v'=>
   rename_i u us;simp only[anyEq]at e;split at e
   ·rename_i p p' e1 e2;cases e;obtain⟨h1,h2⟩:=ih t' v' e2;refine⟨λu' hu'=>?_,?_⟩
    ·rcases List.mem_cons.mp hu' with rfl|hm
     ·rw[one q r1 e1];exact(Jnh I r Deep hu q hx r1 rx e1).eq
     ·exact h1 u' hm
    ·rw[List.any_cons,one q r1 e1,h2]
   ·cases e
theorem RelS.dct{K:PySem.W.Frag}(rs:RelS K ρ S H){l:Nat}{v:V}{kvs:List (Int×D)}(r:RelD K ρ H (.loc l) v)(h:dctAt S l=some kvs):∃a ws,v=.ref a/\ρ[l]? =some a/\H a=some (.dK ws)/\RelKv K ρ H kvs ws:=by
 obtain⟨a,rfl,hl⟩:=r.loc_inv;obtain⟨o,ho,ro⟩:=rs.at hl;unfold dctAt at h;rw[ho]at h;cases o with
 |dct ks=>
  cases h;obtain⟨ws,e,q⟩:=ro;exact⟨a,ws,rfl,hl,e,q⟩
 |lst _=>cases h
 |ins _ _=>cases h
theorem RelS.rdd{K:PySem.W.Frag}(rs:RelS K ρ S H){l:Nat}{v:V}{kvs:List (Int×D)}(r:RelD K ρ H (.loc l) v)(h:dRd S l=some kvs):∃a ws,v=.ref a/\Rd H a (.dK ws)/\RelKv K ρ H kvs ws:=by
 obtain⟨a,rfl,hl⟩:=r.loc_inv;obtain⟨o,ho,ro⟩:=rs.at hl;unfold dRd at h;rw[ho]at h;cases o with
 |dct ks=>
  cases h;obtain⟨ws,e,q⟩:=ro;exact⟨a,ws,rfl,.inl e,q⟩
 |lst _=>cases h
 |ins _ _=>cases h
theorem Jyc{K:PySem.W.Frag}(rs:RelS K ρ S H){dx dy:D}{x y:V}{b:Bool}(r1:RelD K ρ H dx x)(r2:RelD K ρ H dy y)(e:dIn dx dy S=some b):∃i a,x=.int i/\y=.ref a/\∃o,DGet H a (.int i) o/\b=o.isSome:=by
 unfold dIn at e;cases dx<;>try (cases e;done)
 cases dy<;>try (cases e;done)
 rename_i i l;simp only at e;cases hd:dRd S l with
 |none=>rw[hd]at e;cases e
 |some kvs=>
  rw[hd]at e;cases e;obtain⟨a,ws,rfl,ea,q⟩:=rs.rdd r2 hd;refine⟨i,a,r1.int_inv,rfl,valV ws (Sum.inl i),.inl ⟨ws,Sum.inl i,ea,rfl,rfl⟩,?_⟩;rcases q.val i with⟨h1,h2⟩|⟨d,v,h1,h2,_⟩
  ·rw[h1,h2];rfl
  ·rw[h1,h2];rfl
theorem Jfo(o:Cop)(hu:X.A.units+64<cLine):OpR X (compareOp (copOf o)) (rC X.K o):=by
 intro pins s σ H x y v u Q I rx ry hq_;obtain⟨ρ,S,dx,dy,k,rs,r1,r2,e,q⟩:=hq_;have hu2:X.A.units+Deep<cLine:=by show X.A.units+12<cLine;omega
 have hu3:X.A.in1.units+Deep<cLine:=by rw[Jhh];show X.A.units+1+12<cLine;omega
 cases o with
 |eq=>exact(Jnh I rs Deep hu2 r1 r2 rx ry e).rc X.prog X.w X.xe _ ⟨.bl k,H,I,rfl,q⟩
 |ne=>
  simp only[cop,Option.map_eq_some_iff]at e;obtain⟨b,e,rfl⟩:=e;exact(Jnh I rs Deep hu2 r1 r2 rx ry e).ne X.prog X.w X.xe _ ⟨.bl (!b),H,I,rfl,q⟩
 |lt=>
  cases dx<;>cases dy<;>simp only[cop]at e<;>try (cases e;done)
  cases e;cases r1.int_inv;cases r2.int_inv;exact Jzh pins s σ H _ _ v u Q I rx ry ⟨_,_,rfl,rfl,q⟩
 |le=>
  cases dx<;>cases dy<;>simp only[cop]at e<;>try (cases e;done)
  cases e;cases r1.int_inv;cases r2.int_inv;exact Jzi pins s σ H _ _ v u Q I rx ry ⟨_,_,rfl,rfl,q⟩
 |gt=>
  cases dx<;>cases dy<;>simp only[cop]at e<;>try (cases e;done)
  cases e;cases r1.int_inv;cases r2.int_inv;exact Jw1 pins s σ H _ _ v u Q I rx ry ⟨_,_,rfl,rfl,q⟩
 |ge=>
  cases dx<;>cases dy<;>simp only[cop]at e<;>try (cases e;done)
  cases e;cases r1.int_inv;cases r2.int_inv;exact Jzj pins s σ H _ _ v u Q I rx ry ⟨_,_,rfl,rfl,q⟩
 |inn=>
  simp only[cop]at e;split at e
  ·rename_i ds hs;obtain⟨a,xs,rfl,sq,t⟩:=rs.seq r2 hs;cases ry;rcases sq with sq|sq
   ·obtain⟨us,vv,pl,_⟩:=I.list sq;obtain⟨ev,h1,h2⟩:=Jj3 I rs hu3 r1 rx t vv e;exact SeqAt.in_listAt ev pl.isList (λy hy=>h1 y (by simpa using hy)) ⟨.bl k,H,I,by rw[List.any_toArray,h2];rfl,q⟩
   ·obtain⟨us,vv,pl,_⟩:=I.tuple sq;obtain⟨ev,h1,h2⟩:=Jj3 I rs hu3 r1 rx t vv e;exact SeqAt.in_tupleAt ev (show s.heap.IsTuple a us.toArray from pl) (λy hy=>h1 y (by simpa using hy)) ⟨.bl k,H,I,by rw[List.any_toArray,h2];rfl,q⟩
  ·split at e
   ·cases e;cases r1.str_inv;cases r2.str_inv;exact Jmj pins s σ H _ _ _ _ Q I rx ry ⟨_,_,rfl,rfl,q⟩
   ·obtain⟨i,a,rfl,rfl,o,g,eo⟩:=Jyc rs r1 r2 e;cases ry;exact d_in (by show X.A.units+1<cLine;omega) I g rx λs' I'=>⟨.bl k,H,I',by rw[eo];rfl,q⟩
theorem Jdl{ds:List D}{xs:List V}{K:PySem.W.Frag}(t:RelDs K ρ H ds xs):(!ds.isEmpty)= !xs.isEmpty:=by
 cases ds with
 |nil=>rw[t.inv_nil];rfl
 |cons d ds=>obtain⟨_,_,rfl,_⟩:=t.inv_cons;rfl
theorem Jkx{K:PySem.W.Frag}(r:RelS K ρ S H){d:D}{x:V}{k:Bool}(h:RelD K ρ H d x)(e:tru S d=some k):TruV K x H k:=by
 cases d with
 |non=>cases h.non_inv;cases e;rfl
 |bl b=>cases h.bl_inv;cases e;rfl
 |int i=>cases h.int_inv;cases e;rfl
 |str z=>
  cases h.str_inv;simp only[tru]at e;split at e
  ·rename_i hl;cases e;exact⟨by rw[<-Jak];exact hl,rfl⟩
  ·cases e
 |tup ds=>
  obtain⟨a,xs,rfl,q,t⟩:=h.tup_inv;cases e;exact .inr (.inl ⟨xs,q,Jdl t⟩)
 |loc l=>
  simp only[tru]at e;split at e
  ·rename_i ds hs;cases e;obtain⟨a,xs,rfl,_,q,t⟩:=r.lst h (Jao hs);exact .inl ⟨xs,SqL.of q,Jdl t⟩
  ·cases e
 |kl ds=>
  obtain⟨a,xs,rfl,q,t⟩:=h.kl_inv;cases e;exact .inl ⟨xs,q.sq,Jdl t⟩
noncomputable def rX(K:PySem.W.Frag):R2:=λx y H Q=>∃ρ S dx dy d,RelS K ρ S H/\RelD K ρ H dx x/\RelD K ρ H dy y/\idxD dx dy S=some d/\Fin K ρ H d S Q
theorem Jq6(hu:X.A.units+1<cLine):IxR X (rX X.K):=by
 intro value slice pins s σ H x y v u Q I rx ry ⟨ρ,S,dx,dy,d,rs,r1,r2,e,fin⟩ hs;cases dy<;>simp only[idxD]at e<;>try (cases e;done)
 cases r2.int_inv;split at e
 ·rename_i ds hds;obtain⟨a,xs,rfl,sq,t⟩:=rs.seq r1 hds;obtain⟨w,ew,rw'⟩:=Jua t e;rcases sq with sq|sq
  ·exact Jm0 value slice pins s σ H _ _ v u Q I rx ry ⟨a,xs,_,w,rfl,rfl,sq,ew,fin.now rs rw'⟩ hs
  ·exact Jxp value slice pins s σ H _ _ v u Q I rx ry ⟨a,xs,_,w,rfl,rfl,sq,ew,fin.now rs rw'⟩ hs
 ·split at e
  ·rename_i z _;split at e
   ·rename_i hl;simp only[Option.map_eq_some_iff]at e;obtain⟨c,e,rfl⟩:=e;cases r1.str_inv;exact Jxq value slice pins s σ H _ _ v u Q I rx ry ⟨z,_,c,rfl,rfl,by rw[<-Jak];exact hl,e,fin.now rs (RelD.str _)⟩ hs
   ·cases e
  ·rename_i l _;cases hd:dRd S l with
   |none=>rw[hd]at e;cases e
   |some kvs=>
    rw[hd]at e;simp only at e;obtain⟨a,ws,rfl,ea,q⟩:=rs.rdd r1 hd;cases rx;rcases q.val _ with⟨h1,_⟩|⟨d',w,h1,h2,rw'⟩
    ·rw[h1]at e;cases e
    ·rw[h1]at e;cases e;have g:DGet H a (.int _) (some w):=.inl ⟨ws,Sum.inl _,ea,rfl,h2.symm⟩;exact PyProof.Rows.tail_any (ops:=[.ref a,u]) (Jin I g) PySem.F.slot_dict_getitem.lookup (Jns hu I g ry λw' s' I' rw2=>⟨w,H,I',rw2,fin.now rs rw'⟩) hs
  ·cases e
noncomputable def rSl(K:PySem.W.Frag):V->Option Int->Option Int->Hp->VK->Prop:=λx lo hi H Q=>∃ρ S dx d S',RelS K ρ S H/\RelD K ρ H dx x/\sliD dx lo hi S=.ok d S'/\Fin K ρ H d S' Q
theorem Jio{K:PySem.W.Frag}{ds:List D}{xs:List V}(t:RelDs K ρ H ds xs)(lo hi:Option Int):RelDs K ρ H (cutD ds lo hi) (cutV xs lo hi):=by
 unfold cutD cutV;rw[t.length];exact(t.drop _).take _
theorem Jvb:SlR X (λx lo hi H Q=>∃z,x=.str z/\(cutS z lo hi).length<=sizeLine/\Q (.str (cutS z lo hi)) H):=by
 intro pins s σ H x v vl vu lo hi sl Q I rx hs pl pu hq_;obtain⟨z,rfl,hz,q⟩:=hq_;obtain⟨t,rfl⟩:=rx;obtain⟨l,rfl,rfl⟩:∃l,vl=partValue l/\lo=l.map (·.1):=by
  cases pl with
  |none=>exact⟨none,rfl,rfl⟩
  |int i t=>exact⟨some (i,t),rfl,rfl⟩
 obtain⟨u,rfl,rfl⟩:∃u,vu=partValue u/\hi=u.map (·.1):=by
  cases pu with
  |none=>exact⟨none,rfl,rfl⟩
  |int i t=>exact⟨some (i,t),rfl,rfl⟩
 refine⟨"str",_,PySem.F.slot_str_getitem.lookup,typeIs_str _ _ _,wpAny_getItem_str_slice (l:=l) (u:=u) (st:=none) hs rfl ?_⟩;unfold sliceMade;simp only[Option.map_none,Option.getD_none,beq_self_eq_true,Bool.true_and,slicePicked];exact post_val_or_str ⟨hz,λt' k=>⟨.str (cutS z _ _),H,I.tok _,⟨_,rfl⟩,q⟩⟩
theorem Ju9:SlR X (rSl X.K):=by
 intro pins s σ H x v vl vu lo hi sl Q I rx hs pl pu hq_;obtain⟨ρ,S,dx,d,S',rs,r1,e,fin⟩:=hq_;cases dx<;>simp only[sliD]at e<;>try (cases e;done)
 ·split at e
  ·rename_i hl;cases e;cases r1.str_inv;exact Jvb pins s σ H _ v vl vu lo hi sl Q I rx hs pl pu ⟨_,rfl,by rw[<-Jak];exact hl,fin.now rs (RelD.str _)⟩
  ·cases e
 ·cases e;obtain⟨a,xs,rfl,q,t⟩:=r1.tup_inv
  by_cases hw:HT.sIx xs.length 0 lo=0/\HT.sIx xs.length xs.length hi=xs.length
  ·rename_i ds;refine Jsf pins s σ H _ v vl vu lo hi sl Q I rx hs pl pu ⟨a,xs,rfl,q,hw,?_⟩;have ec:cutD ds lo hi=ds:=by
    unfold cutD;rw[t.length,hw.1,hw.2,Nat.sub_zero,List.drop_zero,<-t.length,List.take_length]
   rw[ec]at fin;exact fin _ _ _ Fut.refl rs r1
  ·exact Jva pins s σ H _ v vl vu lo hi sl Q I rx hs pl pu ⟨a,xs,rfl,q,hw,fin.newT rs (Jio t lo hi)⟩
 ·split at e
  ·rename_i ds hds;cases e;obtain⟨a,xs,rfl,_,q,t⟩:=rs.lst r1 (Jao hds);exact Jlj pins s σ H _ v vl vu lo hi sl Q I rx hs pl pu ⟨a,xs,rfl,SqL.of q,fin.newL rs (Jio t lo hi)⟩
  ·cases e
 ·cases e;obtain⟨a,xs,rfl,q,t⟩:=r1.kl_inv;exact Jlj pins s σ H _ v vl vu lo hi sl Q I rx hs pl pu ⟨a,xs,rfl,q.sq,fin.newL rs (Jio t lo hi)⟩
noncomputable def rSt(K:PySem.W.Frag):TSet:=λo i v H Q=>∃ρ S dO di dv S',RelS K ρ S H/\RelD K ρ H dO o/\RelD K ρ H di i/\RelD K ρ H dv v/\setS dO di dv S=.ok () S'/\∀H',Fut K ρ H ρ H'->RelS K ρ S' H'->Q H'
theorem Jvc(hu:X.A.units+1<cLine):PSet X (rSt X.K):=by
 intro pins s σ H o i v ov iv u Q I ro ri rv hq_;obtain⟨ρ,S,dO,di,dv,S',rs,r1,r2,r3,e,fin⟩:=hq_;cases dO<;>cases di<;>simp only[setS]at e<;>try (cases e;done)
 split at e
 ·rename_i xs hx;split at e
  ·rename_i j hj;cases e;obtain⟨a,ys,rfl,hl,q,t⟩:=rs.lst r1 hx;cases r2.int_inv;refine Jod pins s σ H _ _ v ov iv u Q I ro ri rv ⟨a,ys,_,j,rfl,rfl,q,by rw[<-t.length];exact hj,fin _ (Jea q) (rs.set hl q (RelDs.set r3 j t))⟩
  ·cases e
 ·rename_i kvs hk;split at e
  ·rename_i hl;cases e;obtain⟨a,ws,rfl,hp,ea,q⟩:=rs.dct r1 (by unfold dctAt;rw[hk]);cases r2.int_inv;cases ro;rename_i _ ki _;have f:Fut X.K ρ H ρ (upd H a (.dK (putK ws (Sum.inl ki) v))):=Jtq (o0:=.dK ws) ea (λ_ z=>by cases z) (λ_ _ z=>by cases z);exact Jnr hu I (DPut.k (k:=Sum.inl ki) ea (by rw[<-q.length,<-Jak];exact hl)) ri rv λs' I'=>⟨_,I',fin _ f (rs.setO (o0:=.dK ws) hp f ⟨_,Jbe,(q.put _ r3).fut f⟩)⟩
  ·cases e
 ·cases e
end
end Mi
namespace Mi
open PySem L2
section
variable {X:Cx} {ρ:List Addr} {H:Hp} {S:Store}
noncomputable def tyNames:List String:=["NoneType","bool","int","str","tuple","list","dict"]
noncomputable def clNames:List String:=["bool","int","str","tuple","list"]
theorem Jf0(K:PySem.W.Frag):∀t∈tyNames,∀c∈clNames,PySem.W.kitOne K (.type t) (.type c)=some (isiD t c):=by
 intro t ht c hc;simp only[tyNames,clNames,List.mem_cons,List.not_mem_nil,or_false]at ht hc;rcases ht with rfl|rfl|rfl|rfl|rfl|rfl|rfl<;>rcases hc with rfl|rfl|rfl|rfl|rfl<;>kernel_rfl
noncomputable def rIs(K:PySem.W.Frag)(c:String):List V->Hp->VK->Prop:=λxs H Q=>∃ρ S d x t,RelS K ρ S H/\xs=[x,.ty c]/\RelD K ρ H d x/\tyD S d=some t/\Q (.bl (isiD t c)) H
theorem Jxr{c:String}(hc:c∈clNames):CallR X (.builtin "isinstance") (rIs X.K c):=by
 intro pins s σ H xs us Q I r hq_;obtain⟨ρ,S,d,x,t,rs,e,rd,ht,q⟩:=hq_;subst e;obtain⟨u,w,rfl,ru,rw'⟩:=Jj4 r;cases(show w=Value.type c from rw');have fin:∀tk,EP X pins σ Q (.bool (isiD t c)) {s with toks:=tk}:=λtk=>⟨.bl _,H,I.tok _,rfl,q⟩
 cases d with
 |non=>cases ht;cases rd.non_inv;cases ru;exact PySem.W.kia_one PySem.W.kitx_none I.kIn True.intro (Jf0 X.K _ (by decide) c hc) (λz=>nomatch z) fin
 |bl b=>cases ht;cases rd.bl_inv;cases ru;exact PySem.W.kia_one PySem.W.kitx_bool I.kIn True.intro (Jf0 X.K _ (by decide) c hc) (λz=>nomatch z) fin
 |int b=>cases ht;cases rd.int_inv;obtain⟨tk,rfl⟩:=ru;exact PySem.W.kia_one PySem.W.kitx_int I.kIn True.intro (Jf0 X.K _ (by decide) c hc) (λz=>nomatch z) fin
 |str b=>cases ht;cases rd.str_inv;obtain⟨tk,rfl⟩:=ru;exact PySem.W.kia_one PySem.W.kitx_str I.kIn True.intro (Jf0 X.K _ (by decide) c hc) (λz=>nomatch z) fin
 |tup ds=>
  cases ht;obtain⟨a,ys,rfl,sq,_⟩:=rd.tup_inv;cases ru;obtain⟨_,_,⟨o,h1,h2,_⟩,_⟩:=I.tuple sq;exact PySem.W.kia_one PySem.W.kitx_tuple I.kIn ⟨o,h1,h2⟩ (Jf0 X.K _ (by decide) c hc) (λz=>nomatch z) fin
 |loc l=>
  simp only[tyD]at ht;split at ht
  ·rename_i ds hs;cases ht;obtain⟨a,ys,rfl,_,sq,_⟩:=rs.lst rd hs;cases ru;obtain⟨_,_,⟨o,n,h1,h2,_⟩,_⟩:=I.list (SqL.of (K:=X.K) sq);exact PySem.W.kia_one PySem.W.kitx_list I.kIn ⟨o,h1,h2⟩ (Jf0 X.K _ (by decide) c hc) (λz=>nomatch z) fin
  ·cases ht
 |kl ds=>cases ht
noncomputable def primNm:Prim->String
 |.len=>"len"|.abs=>"abs"|.min2=>"min"|.max2=>"max"|.int1=>"int"|.str1=>"str"|.list1=>"list"|.tuple1=>"tuple"|.divmod=>"divmod"|.all1=>"all"|.any1=>"any"
noncomputable def primTy:Prim->Bool
 |.int1=>true|.str1=>true|.list1=>true|.tuple1=>true
 |_=>false
noncomputable def primVal(p:Prim):Value:=if primTy p then .type (primNm p)else .builtin (primNm p)
theorem Jh0(p:Prim):bootBuiltins (Str.ofString (primNm p))=some (primVal p):=by cases p<;>kernel_rfl
theorem Jfe(p:Prim):Str.ofString (primNm p)≠"__name__":=by cases p<;>decide+kernel
theorem Jed(p:Prim):(Str.ofString (primNm p)==("__debug__":Str))=false:=by cases p<;>decide+kernel
noncomputable def rP(K:PySem.W.Frag)(p:Prim):List V->Hp->VK->Prop:=λxs H Q=>∃ρ S ds d S',RelS K ρ S H/\RelDs K ρ H ds xs/\primD p ds S=.ok d S'/\Fin K ρ H d S' Q
theorem RelDs.one{K:PySem.W.Frag}{d:D}{xs:List V}(h:RelDs K ρ H [d] xs):∃v,xs=[v]/\RelD K ρ H d v:=by
 obtain⟨v,vs,rfl,q,t⟩:=h.inv_cons;cases t.inv_nil;exact⟨v,rfl,q⟩
theorem RelDs.two{K:PySem.W.Frag}{d e:D}{xs:List V}(h:RelDs K ρ H [d,e] xs):∃v w,xs=[v,w]/\RelD K ρ H d v/\RelD K ρ H e w:=by
 obtain⟨v,vs,rfl,q,t⟩:=h.inv_cons;obtain⟨w,rfl,q'⟩:=t.one;exact⟨v,w,rfl,q,q'⟩
theorem Jfq:∀{ds:List D} {b:Bool},allB ds=some b->∃bs:List Bool,ds=bs.map D.bl/\b=bs.all id
 |[],b,h=>⟨[],rfl,by simp only[allB]at h;cases h;rfl⟩
 |.bl c::r,b,h=>by
  simp only[allB,Option.map_eq_some_iff]at h;obtain⟨k,h,rfl⟩:=h;obtain⟨bs,rfl,rfl⟩:=Jfq h;exact⟨c::bs,rfl,by simp⟩
 |.non::_,b,h=>by simp[allB]at h
 |.int _::_,b,h=>by simp[allB]at h
 |.str _::_,b,h=>by simp[allB]at h
 |.tup _::_,b,h=>by simp[allB]at h
 |.loc _::_,b,h=>by simp[allB]at h
 |.kl _::_,b,h=>by simp[allB]at h
theorem Je4{K:PySem.W.Frag}{bs:List Bool}{xs:List V}{us:List Value}(t:RelDs K ρ H (bs.map D.bl) xs)(v:Vals xs us){i:Nat}{u:Value}(h:us[i]? =some u):u=.bool (bs.getD i true):=by
 have hl:i<bs.length:=by
  have:=(List.getElem?_eq_some_iff.mp h).1;have e1:=t.length;have e2:=v.length;rw[List.length_map]at e1;omega
 obtain⟨w,ew,rw'⟩:=t.get (show(bs.map D.bl)[i]? =some (.bl bs[i]) by rw[List.getElem?_map,List.getElem?_eq_getElem hl];rfl);obtain⟨u',eu,ru⟩:=v.get ew;rw[h]at eu;cases eu;cases rw'.bl_inv;cases ru;rw[List.getD_eq_getElem?_getD,List.getElem?_eq_getElem hl];rfl
theorem Jg9(bs:List Bool):(List.range bs.length).all (λi=>bs.getD i true)=bs.all id:=by
 induction bs with
 |nil=>rfl
 |cons b r ih=>
  rw[List.length_cons,List.range_succ_eq_map,List.all_cons,List.all_cons,List.all_map,<-ih];congr 1
theorem Jhz(hc:X.calm=true):CallR X (.builtin "all") (λxs H Q=>∃ρ S d ds b,RelS X.K ρ S H/\∃x,xs=[x]/\RelD X.K ρ H d x/\seqOf S d=some ds/\allB ds=some b/\Q (.bl b) H):=by
 intro pins s σ H xs us Q I r hq_;obtain⟨ρ,S,d,ds,b,rs,x,e,rd,hs,hb,q⟩:=hq_;subst e;obtain⟨u,rfl,ru⟩:=Jdi r;obtain⟨bs,rfl,rfl⟩:=Jfq hb;obtain⟨a,ys,rfl,sq,t⟩:=rs.seq rd hs;cases ru;have hh:X.A.in1.handled=none:=I.ok.hd hc;rcases sq with sq|sq
 ·obtain⟨its,vv,pl,_⟩:=I.list sq;have hne:a≠s.heap.objs.size:=Nat.ne_of_lt pl.lt;have hsz:its.toArray.size=bs.length:=by rw[List.size_toArray,<-vv.length,<-t.length,List.length_map]
  refine call_all_walk (wpAny_pyIter_list pl.isList ?_);refine⟨_,_,_,_,_,_,λi=>bs.getD i true,rfl,Walks.list (A:=X.A.in1) hh s.heap.objs.size a hne its.toArray,⟨⟨_,Heap.get?_push_size _ rfl,rfl,rfl⟩,(pl.keeps λb o e=>Heap.get?_push_of_some _ e).isList⟩,?_,λh' tk hk=>?_⟩
  ·intro i v s' Q' E' hP hQ;have hP:its.toArray[i]? =some v:=hP;have ev:v=.bool (bs.getD i true):=Je4 t vv (by simpa using hP);subst ev;exact wpAny_truthy_bool hQ
  ·rw[hsz,Jg9];refine⟨.bl _,H,I.kept (t':=tk) λb o e=>hk b o ?_ (Heap.get?_push_of_some _ e),rfl,q⟩;simp only[List.mem_singleton];exact Nat.ne_of_lt (Heap.lt_size e)
 ·obtain⟨its,vv,pl,_⟩:=I.tuple sq;have pl':s.heap.IsTuple a its.toArray:=pl;have hne:a≠s.heap.objs.size:=Nat.ne_of_lt (by obtain⟨o,e,_⟩:=pl;exact Heap.lt_size e);have hsz:its.toArray.size=bs.length:=by rw[List.size_toArray,<-vv.length,<-t.length,List.length_map]
  refine call_all_walk (wpAny_pyIter_tuple pl' ?_);refine⟨_,_,_,_,_,_,λi=>bs.getD i true,rfl,Walks.tuple (A:=X.A.in1) hh s.heap.objs.size a hne its.toArray,⟨⟨_,Heap.get?_push_size _ rfl,rfl,rfl⟩,(let⟨o,e,c⟩:=pl';⟨o,Heap.get?_push_of_some _ e,c⟩)⟩,?_,λh' tk hk=>?_⟩
  ·intro i v s' Q' E' hP hQ;have hP:its.toArray[i]? =some v:=hP;have ev:v=.bool (bs.getD i true):=Je4 t vv (by simpa using hP);subst ev;exact wpAny_truthy_bool hQ
  ·rw[hsz,Jg9];refine⟨.bl _,H,I.kept (t':=tk) λb o e=>hk b o ?_ (Heap.get?_push_of_some _ e),rfl,q⟩;simp only[List.mem_singleton];exact Nat.ne_of_lt (Heap.lt_size e)
theorem Jg8(bs:List Bool):(List.range bs.length).any (λi=>bs.getD i true)=bs.any id:=by
 induction bs with
 |nil=>rfl
 |cons b r ih=>
  rw[List.length_cons,List.range_succ_eq_map,List.any_cons,List.any_cons,List.any_map,<-ih];congr 1
theorem Jn2:∀bs:List Bool,(bs.map D.bl).any isT=bs.any id
 |[]=>rfl
 |b::r=>by rw[List.map_cons,List.any_cons,List.any_cons,Jn2 r];rfl
theorem Jhy(hc:X.calm=true):CallR X (.builtin "any") (λxs H Q=>∃ρ S d ds b,RelS X.K ρ S H/\∃x,xs=[x]/\RelD X.K ρ H d x/\seqOf S d=some ds/\allB ds=some b/\Q (.bl (ds.any isT)) H):=by
 intro pins s σ H xs us Q I r hq_;obtain⟨ρ,S,d,ds,b,rs,x,e,rd,hs,hb,q⟩:=hq_;subst e;obtain⟨u,rfl,ru⟩:=Jdi r;obtain⟨bs,rfl,rfl⟩:=Jfq hb;rw[Jn2]at q;obtain⟨a,ys,rfl,sq,t⟩:=rs.seq rd hs;cases ru;have hh:X.A.in1.handled=none:=I.ok.hd hc;rcases sq with sq|sq
 ·obtain⟨its,vv,pl,_⟩:=I.list sq;have hne:a≠s.heap.objs.size:=Nat.ne_of_lt pl.lt;have hsz:its.toArray.size=bs.length:=by rw[List.size_toArray,<-vv.length,<-t.length,List.length_map]
  refine call_any_walk (wpAny_pyIter_list pl.isList ?_);refine⟨_,_,_,_,_,_,λi=>bs.getD i true,rfl,Walks.list (A:=X.A.in1) hh s.heap.objs.size a hne its.toArray,⟨⟨_,Heap.get?_push_size _ rfl,rfl,rfl⟩,(pl.keeps λb o e=>Heap.get?_push_of_some _ e).isList⟩,?_,λh' tk hk=>?_⟩
  ·intro i v s' Q' E' hP hQ;have hP:its.toArray[i]? =some v:=hP;have ev:v=.bool (bs.getD i true):=Je4 t vv (by simpa using hP);subst ev;exact wpAny_truthy_bool hQ
  ·rw[hsz,Jg8];refine⟨.bl _,H,I.kept (t':=tk) λb o e=>hk b o ?_ (Heap.get?_push_of_some _ e),rfl,q⟩;simp only[List.mem_singleton];exact Nat.ne_of_lt (Heap.lt_size e)
 ·obtain⟨its,vv,pl,_⟩:=I.tuple sq;have pl':s.heap.IsTuple a its.toArray:=pl;have hne:a≠s.heap.objs.size:=Nat.ne_of_lt (by obtain⟨o,e,_⟩:=pl;exact Heap.lt_size e);have hsz:its.toArray.size=bs.length:=by rw[List.size_toArray,<-vv.length,<-t.length,List.length_map]
  refine call_any_walk (wpAny_pyIter_tuple pl' ?_);refine⟨_,_,_,_,_,_,λi=>bs.getD i true,rfl,Walks.tuple (A:=X.A.in1) hh s.heap.objs.size a hne its.toArray,⟨⟨_,Heap.get?_push_size _ rfl,rfl,rfl⟩,(let⟨o,e,c⟩:=pl';⟨o,Heap.get?_push_of_some _ e,c⟩)⟩,?_,λh' tk hk=>?_⟩
  ·intro i v s' Q' E' hP hQ;have hP:its.toArray[i]? =some v:=hP;have ev:v=.bool (bs.getD i true):=Je4 t vv (by simpa using hP);subst ev;exact wpAny_truthy_bool hQ
  ·rw[hsz,Jg8];refine⟨.bl _,H,I.kept (t':=tk) λb o e=>hk b o ?_ (Heap.get?_push_of_some _ e),rfl,q⟩;simp only[List.mem_singleton];exact Nat.ne_of_lt (Heap.lt_size e)
theorem Jhx:CallR X (.builtin "divmod") (λxs H Q=>∃i j,xs=[.int i,.int j]/\(0<j/\j.natAbs<2^4096)/\∀p,H p=none->Q (.ref p) (upd H p (.tup [.int (i/j),.int (i%j)]))):=by
 intro pins s σ H xs us Q I r h;obtain⟨i,j,rfl,⟨h1,h2⟩,q⟩:=h;obtain⟨u,w',rfl,⟨t,rfl⟩,⟨t',rfl⟩⟩:=Jj4 r;refine PyProof.Rows.divmod_int (by omega) ?_ (.inl (PyProof.noPylong_of_log2 (Jmp h2)));rw[Int.fdiv_eq_ediv_of_nonneg i (by omega),Int.fmod_eq_emod_of_nonneg i (by omega)];have hn:H s.heap.objs.size=none:=I.hok.fresh (Nat.le_refl _);refine⟨.ref s.heap.objs.size,_,?_,rfl,q _ hn⟩;refine I.laid (λb o e=>Heap.get?_push_of_some _ e) (Nat.le_refl _) ⟨by simp only[List.length_cons,List.length_nil];rw[sizeLine_eq];decide,[.int (i/j) s.toks,.int (i%j) (s.toks+1)],.cons ⟨_,rfl⟩ (.cons ⟨_,rfl⟩ .nil),?_⟩;exact⟨_,Heap.get?_push_size s.heap rfl,rfl,0,rfl⟩
theorem Jpb{n:Nat}(h:n<2^1900):n.log2<1920:=by
 by_cases z:n=0
 ·subst z;decide+kernel
 ·have:=(Nat.log2_lt z).mpr h;omega
theorem Jl7(p:Prim)(hc:X.calm=true):CallR X (primVal p) (rP X.K p):=by
 intro pins s σ H xs us Q I r hq_;obtain⟨ρ,S,ds,d,S',rs,rd,e,fin⟩:=hq_;cases p with
 |len=>
  rcases ds with _|⟨x,_|⟨y,ds⟩⟩<;>try (first|exact absurd e Jab|(cases x<;>exact absurd e Jab)|(cases x<;>first|exact absurd e Jab|(cases y<;>exact absurd e Jab)))
  all_goals simp only[Jbf]at e
  obtain⟨v,rfl,rv⟩:=rd.one;split at e
  ·rename_i es hs;cases e;obtain⟨a,ys,rfl,sq,t⟩:=rs.seq rv hs;refine Jek pins s σ H _ us Q I r ⟨a,ys,rfl,sq,?_⟩;rw[<-t.length];exact fin.now rs (RelD.int _)
  ·split at e
   ·split at e
    ·rename_i hl;cases e;cases rv.str_inv;exact Jhv pins s σ H _ us Q I r ⟨_,rfl,by rw[<-Jak];exact hl,fin.now rs (RelD.int _)⟩
    ·cases e
   ·cases e
 |abs=>
  rcases ds with _|⟨x,_|⟨y,ds⟩⟩<;>try (first|exact absurd e Jab|(cases x<;>exact absurd e Jab)|(cases x<;>first|exact absurd e Jab|(cases y<;>exact absurd e Jab)))
  cases x<;>try (exact absurd e Jab)
  all_goals simp only[Ji5]at e
  cases e;obtain⟨v,rfl,rv⟩:=rd.one;cases rv.int_inv;exact Jp0 pins s σ H _ us Q I r ⟨_,rfl,fin.now rs (RelD.int _)⟩
 |max2=>
  rcases ds with _|⟨x,_|⟨y,_|⟨z,ds⟩⟩⟩<;>try (first|exact absurd e Jab|(cases x<;>exact absurd e Jab)|(cases x<;>first|exact absurd e Jab|(cases y<;>exact absurd e Jab)))
  cases x<;>cases y<;>try (exact absurd e Jab)
  all_goals simp only[Joj]at e
  cases e;obtain⟨v,w,rfl,rv,rw'⟩:=rd.two;cases rv.int_inv;cases rw'.int_inv;exact Jnx hc pins s σ H _ us Q I r ⟨_,_,rfl,fin.now rs (RelD.int _)⟩
 |min2=>
  rcases ds with _|⟨x,_|⟨y,_|⟨z,ds⟩⟩⟩<;>try (first|exact absurd e Jab|(cases x<;>exact absurd e Jab)|(cases x<;>first|exact absurd e Jab|(cases y<;>exact absurd e Jab)))
  cases x<;>cases y<;>try (exact absurd e Jab)
  all_goals simp only[Joi]at e
  cases e;obtain⟨v,w,rfl,rv,rw'⟩:=rd.two;cases rv.int_inv;cases rw'.int_inv;exact Jnw hc pins s σ H _ us Q I r ⟨_,_,rfl,fin.now rs (RelD.int _)⟩
 |int1=>
  rcases ds with _|⟨x,_|⟨y,ds⟩⟩<;>try (first|exact absurd e Jab|(cases x<;>exact absurd e Jab)|(cases x<;>first|exact absurd e Jab|(cases y<;>exact absurd e Jab)))
  obtain⟨v,rfl,rv⟩:=rd.one;cases x<;>try (exact absurd e Jab)
  all_goals simp only[Joh,Jog,Je8]at e
  ·cases e;cases rv.bl_inv;exact Jhw pins s σ H _ us Q I r (.inr ⟨_,rfl,fin.now rs (RelD.int _)⟩)
  ·cases e;cases rv.int_inv;exact Jhw pins s σ H _ us Q I r (.inl ⟨_,rfl,fin.now rs (RelD.int _)⟩)
  ·split at e
   ·rename_i n hn;split at e
    ·rename_i hl;cases e;cases rv.str_inv;obtain⟨u,rfl,t,rfl⟩:=Jdi r;exact PySem.W.KIN.call_text hn hl ⟨.int n,H,I.tok _,⟨_,rfl⟩,fin.now rs (RelD.int _)⟩
    ·cases e
   ·cases e
 |str1=>
  rcases ds with _|⟨x,_|⟨y,ds⟩⟩<;>try (first|exact absurd e Jab|(cases x<;>exact absurd e Jab)|(cases x<;>first|exact absurd e Jab|(cases y<;>exact absurd e Jab)))
  obtain⟨v,rfl,rv⟩:=rd.one;cases x<;>try (exact absurd e Jab)
  all_goals simp only[Ji4]at e
  split at e
  ·rename_i hl;cases e;cases rv.int_inv;exact Jhu pins s σ H _ us Q I r ⟨_,rfl,Jpb hl,fin.now rs (RelD.str _)⟩
  ·cases e
 |list1=>
  rcases ds with _|⟨x,_|⟨y,ds⟩⟩<;>try (first|exact absurd e Jab|(cases x<;>exact absurd e Jab)|(cases x<;>first|exact absurd e Jab|(cases y<;>exact absurd e Jab)))
  all_goals simp only[Jof]at e
  obtain⟨v,rfl,rv⟩:=rd.one;split at e
  ·rename_i l;cases hd:dctAt S l with
   |none=>rw[hd]at e;cases e
   |some kvs=>
    rw[hd]at e;cases e;obtain⟨a,ws,rfl,_,ea,q⟩:=rs.dct rv hd;exact Jgq hc pins s σ H _ us Q I r ⟨a,ws,rfl,ea,fin.newL rs q.keys⟩
  ·cases e
 |tuple1=>
  rcases ds with _|⟨x,_|⟨y,ds⟩⟩<;>try (first|exact absurd e Jab|(cases x<;>exact absurd e Jab)|(cases x<;>first|exact absurd e Jab|(cases y<;>exact absurd e Jab)))
  all_goals simp only[Ji3]at e
  obtain⟨v,rfl,rv⟩:=rd.one;split at e
  ·rename_i es hs;cases e;obtain⟨a,ys,rfl,sq,t⟩:=rs.seq rv hs;refine Jgp pins s σ H _ us Q I r ⟨a,ys,rfl,?_⟩;rcases sq with sq|sq
   ·exact .inl ⟨sq,fin.newT rs t⟩
   ·exact .inr ⟨sq,fin.now rs (by simp only[RelD];exact⟨a,ys,rfl,sq,t⟩)⟩
  ·cases e
 |divmod=>
  rcases ds with _|⟨x,_|⟨y,_|⟨z,ds⟩⟩⟩<;>try (first|exact absurd e Jab|(cases x<;>exact absurd e Jab)|(cases x<;>first|exact absurd e Jab|(cases y<;>exact absurd e Jab)))
  cases x<;>cases y<;>try (exact absurd e Jab)
  all_goals simp only[Jf8]at e
  split at e
  ·rename_i hl;cases e;obtain⟨v,w,rfl,rv,rw'⟩:=rd.two;cases rv.int_inv;cases rw'.int_inv;exact Jhx pins s σ H _ us Q I r ⟨_,_,rfl,hl,fin.newT rs (RelDs.cons (RelD.int _) (RelDs.cons (RelD.int _) RelDs.nil))⟩
  ·cases e
 |any1=>
  rcases ds with _|⟨x,_|⟨y,ds⟩⟩<;>try (first|exact absurd e Jab|(cases x<;>exact absurd e Jab)|(cases x<;>first|exact absurd e Jab|(cases y<;>exact absurd e Jab)))
  all_goals simp only[Jg4]at e
  obtain⟨v,rfl,rv⟩:=rd.one;split at e
  ·rename_i es hs;split at e
   ·rename_i b hb;cases e;exact Jhy hc pins s σ H _ us Q I r ⟨ρ,S,x,es,b,rs,v,rfl,rv,hs,hb,fin.now rs (RelD.bl _)⟩
   ·cases e
  ·cases e
 |all1=>
  rcases ds with _|⟨x,_|⟨y,ds⟩⟩<;>try (first|exact absurd e Jab|(cases x<;>exact absurd e Jab)|(cases x<;>first|exact absurd e Jab|(cases y<;>exact absurd e Jab)))
  all_goals simp only[Jcn]at e
  obtain⟨v,rfl,rv⟩:=rd.one;split at e
  ·rename_i es hs;split at e
   ·rename_i b hb;cases e;exact Jhz hc pins s σ H _ us Q I r ⟨ρ,S,x,es,b,rs,v,rfl,rv,hs,hb,fin.now rs (RelD.bl _)⟩
   ·cases e
  ·cases e
noncomputable def methNm:Meth->String
 |.append=>"append"|.pop0=>"pop"|.starts=>"startswith"|.split1=>"split"|.join1=>"join"|.split2=>"split"
noncomputable def methId:Meth->String
 |.append=>"list.append"|.pop0=>"list.pop"|.starts=>"str.startswith"|.split1=>"str.split"|.join1=>"str.join"|.split2=>"str.split"
noncomputable def rM(K:PySem.W.Frag)(p:Meth):V->List V->Hp->VK->Prop:=λx xs H Q=>∃ρ S o ds d S',RelS K ρ S H/\RelD K ρ H o x/\RelDs K ρ H ds xs/\methD p o ds S=.ok d S'/\Fin K ρ H d S' Q
theorem Je6:∀(tk:Nat) (xs:List Str),Vals (xs.map V.str) (strsFrom tk xs)
 |_,[]=>.nil
 |tk,x::r=>.cons ⟨tk,rfl⟩ (Je6 (tk+1) r)
theorem Jo8:MtR X "str.split" (λo xs H Q=>∃x y,o=.str x/\xs=[.str y]/\(y.length==0)=false/\x.length<=sizeLine/\(Builtin.Str.partsBetween x (Builtin.Str.occurrences x y 0 x.length (x.length+1)) y.length).length<=sizeLine/\∀p,H p=none->Q (.ref p) (upd H p (.lst ((Txt.split x y).map V.str)))):=by
 intro pins s σ H o xs v us Q I rx rvs hq_;obtain⟨x,y,rfl,rfl,hy,hx,hn,q⟩:=hq_;obtain⟨t,rfl⟩:=rx;obtain⟨u,rfl,t',rfl⟩:=Jdi rvs;have one:∀k,Txt.split x y=[x]->EP X pins σ Q (.ref s.heap.objs.size) {s with heap:=s.heap.push {cls:=.type "list",data:=.seq [Value.str x t].toArray},toks:=k}:=λk e=>by
  rw[e]at q;exact⟨.ref _,_,I.lnew (ys:=[.str x]) (.cons ⟨t,rfl⟩ .nil) (by show 1<=sizeLine;decide),rfl,q _ I.fresh⟩
 cases h1:(decide (x.length<y.length)||decide (Builtin.Str.strKind x<Builtin.Str.strKind y))
 ·cases hf:(Builtin.Str.occurrences x y 0 x.length (x.length+1)).isEmpty
  ·refine call_meets PySem.F.slot_str_split (typeIs_str _ _ _) PySem.F.entry_str_split (PySem.F.args_str_split_2 _ _) (meets_str_split_sep x y t t' h1 hy hf hx hn) ?_;have e:Txt.split x y=Builtin.Str.partsBetween x (Builtin.Str.occurrences x y 0 x.length (x.length+1)) y.length:=(if_neg (ne_true_of_eq_false h1)).trans (if_neg (ne_true_of_eq_false hf));rw[e]at q;exact⟨.ref _,_,I.lnew (Je6 _ _) (by rw[List.length_map];exact hn),rfl,q _ I.fresh⟩
  ·exact call_meets PySem.F.slot_str_split (typeIs_str _ _ _) PySem.F.entry_str_split (PySem.F.args_str_split_2 _ _) (meets_str_split_not_found x y t t' h1 hy hf) (one _ ((if_neg (ne_true_of_eq_false h1)).trans (if_pos hf)))
 ·exact call_meets PySem.F.slot_str_split (typeIs_str _ _ _) PySem.F.entry_str_split (PySem.F.args_str_split_2 _ _) (meets_str_split_cannot_occur x y t t' h1) (one _ (if_pos h1))
theorem Jgt:∀{ts:List Str} {us:List Value},Vals (ts.map V.str) us->∃l:List (Str×Tok),us=strValues l/\l.map (·.1)=ts
 |[],us,h=>by cases h;exact⟨[],rfl,rfl⟩
 |x::ts,us,h=>by
  cases h with
  |cons r rr=>
   obtain⟨t,rfl⟩:=r;obtain⟨l,rfl,e⟩:=Jgt rr;exact⟨(x,t)::l,rfl,by rw[List.map_cons,e]⟩
theorem Jtl:MtR X "str.join" (λo xs H Q=>∃x a ts,o=.str x/\xs=[.ref a]/\H a=some (.lst (ts.map V.str))/\JoinOk x ts=true/\Q (.str (Txt.join x ts)) H):=by
 intro pins s σ H o xs v us Q I rx rvs hq_;obtain⟨x,a,ts,rfl,rfl,ha,hok,q⟩:=hq_;obtain⟨t,rfl⟩:=rx;obtain⟨u,rfl,ru⟩:=Jdi rvs;cases(show u=.ref a from ru);obtain⟨_,its,n,vv,e⟩:=(show ObjOk X.prog X.w H s.heap a (.lst (ts.map V.str))from I.hok a _ ha)
 obtain⟨l,rfl,rfl⟩:=Jgt vv;have hok':=hok;unfold JoinOk at hok;rw[Bool.not_eq_true']at hok;refine call_meets PySem.F.slot_str_join (typeIs_str _ _ _) PySem.F.entry_str_join (PySem.F.args_str_join_2 _ _) (meets_str_join_list x t a l hok) ⟨⟨_,e,rfl,n,rfl⟩,post_join l ⟨joinOk_length hok',λt' k=>⟨.str _,H,I.tok _,⟨t',rfl⟩,q⟩⟩⟩
theorem Jmm:MtR X "str.split" (λo xs H Q=>∃x y k,o=.str x/\xs=[.str y,.int k]/\(decide (k< -(2^63:Int))||decide (k≥2^63))=false/\(y.length==0)=false/\x.length<=sizeLine/\(Txt.splitMax x y k).length<=sizeLine/\
  ∀p,H p=none->Q (.ref p) (upd H p (.lst ((Txt.splitMax x y k).map V.str)))):=by
 intro pins s σ H o xs v us Q I rx rvs hq_;obtain⟨x,y,k,rfl,rfl,hk,hy,hx,hn,q⟩:=hq_;obtain⟨t,rfl⟩:=rx;obtain⟨u1,u2,rfl,⟨t1,rfl⟩,⟨t2,rfl⟩⟩:=Jj4 rvs;have one:∀k',Txt.splitMax x y k=[x]->EP X pins σ Q (.ref s.heap.objs.size) {s with heap:=s.heap.push {cls:=.type "list",data:=.seq [Value.str x t].toArray},toks:=k'}:=λk' e=>by
  rw[e]at q;exact⟨.ref _,_,I.lnew (ys:=[.str x]) (.cons ⟨t,rfl⟩ .nil) (by show 1<=sizeLine;decide),rfl,q _ I.fresh⟩
 cases h1:(decide (x.length<y.length)||decide (Builtin.Str.strKind x<Builtin.Str.strKind y))
 ·cases hf:(Builtin.Str.occurrences x y 0 x.length (limitOf x k)).isEmpty
  ·have e:Txt.splitMax x y k=Builtin.Str.partsBetween x (Builtin.Str.occurrences x y 0 x.length (limitOf x k)) y.length:=(if_neg (ne_true_of_eq_false h1)).trans (if_neg (ne_true_of_eq_false hf));rw[e]at q hn;refine call_meets PySem.F.slot_str_split (typeIs_str _ _ _) PySem.F.entry_str_split (PySem.F.args_str_split_3 _ _ _) (meets_str_split_sep_max x y k t t1 t2 hk h1 hy hf hx hn) ?_;exact⟨.ref _,_,I.lnew (Je6 _ _) (by rw[List.length_map];exact hn),rfl,q _ I.fresh⟩
  ·exact call_meets PySem.F.slot_str_split (typeIs_str _ _ _) PySem.F.entry_str_split (PySem.F.args_str_split_3 _ _ _) (meets_str_split_max_not_found x y k t t1 t2 hk h1 hy hf) (one _ ((if_neg (ne_true_of_eq_false h1)).trans (if_pos hf)))
 ·exact call_meets PySem.F.slot_str_split (typeIs_str _ _ _) PySem.F.entry_str_split (PySem.F.args_str_split_3 _ _ _) (meets_str_split_max_cannot_occur x y k t t1 t2 hk h1) (one _ (if_pos h1))
theorem RelDs.strs_inv{K:PySem.W.Frag}{ρ:List Addr}{H:Hp}:∀{xs:List Str} {vs:List V},RelDs K ρ H (xs.map D.str) vs->vs=xs.map V.str
 |[],vs,h=>RelDs.inv_nil h
 |x::r,vs,h=>by
  obtain⟨v,us,rfl,a,b⟩:=RelDs.inv_cons h;rw[RelDs.strs_inv b];cases a.str_inv;rfl
theorem RelDs.strs{K:PySem.W.Frag}{ρ:List Addr}{H:Hp}:∀xs:List Str,RelDs K ρ H (xs.map D.str) (xs.map V.str)
 |[]=>RelDs.nil
 |x::r=>RelDs.cons (RelD.str x) (RelDs.strs r)
theorem Jff(p:Meth)(hu:X.A.units+64<cLine):MtR X (methId p) (rM X.K p):=by
 intro pins s σ H x xs v us Q I rx rvs hq_;obtain⟨ρ,S,o,ds,d,S',rs,ro,rd,e,fin⟩:=hq_;cases p with
 |append=>
  cases o<;>rcases ds with _|⟨y,_|⟨z,ds⟩⟩<;>try (exact absurd e Jab)
  all_goals simp only[Ji8]at e
  split at e
  ·rename_i ys hy;split at e
   ·rename_i hl;cases e;obtain⟨a,zs,rfl,ha,q,t⟩:=rs.lst ro hy;obtain⟨w,rfl,rw'⟩:=rd.one;exact Jmn pins s σ H _ _ v us Q I rx rvs ⟨a,zs,w,rfl,rfl,q,by rw[<-t.length,<-Jak];exact hl,fin ρ _ _ (Jea q) (rs.set ha q (t.append (RelDs.cons rw' RelDs.nil))) RelD.non⟩
   ·cases e
  ·cases e
 |pop0=>
  cases o<;>rcases ds with _|⟨y,ds⟩<;>try (exact absurd e Jab)
  all_goals simp only[Ji7]at e
  split at e
  ·rename_i ys hy;split at e
   ·rename_i z hz;cases e;obtain⟨a,zs,rfl,ha,q,t⟩:=rs.lst ro hy;cases rd.inv_nil;obtain⟨w,ew,rw'⟩:=t.get hz;refine Jxc pins s σ H _ _ v us Q I rx rvs ⟨a,zs,w,rfl,rfl,q,by rw[<-t.length];exact ew,fin ρ _ _ (Jea q) (rs.set ha q t.dropLast) (rw'.fut (Jea q))⟩
   ·cases e
  ·cases e
 |starts=>
  cases o<;>rcases ds with _|⟨y,_|⟨z,ds⟩⟩<;>try (exact absurd e Jab)
  all_goals (cases y<;>try (exact absurd e Jab))
  all_goals simp only[Jey]at e
  cases e;obtain⟨w,rfl,rw'⟩:=rd.one;cases ro.str_inv;cases rw'.str_inv;obtain⟨t,rfl⟩:=rx;obtain⟨u,rfl,t',rfl⟩:=Jdi rvs;refine call_gives PySem.F.slot_str_startswith (typeIs_str _ _ _) PySem.F.entry_str_startswith (PySem.F.args_str_startswith_2 _ _) (gives_str_startswith _ _ _ _) ?_;exact⟨.bl _,H,I,rfl,fin.now rs (RelD.bl _)⟩
 |split1=>
  cases o<;>rcases ds with _|⟨y,_|⟨z,ds⟩⟩<;>try (exact absurd e Jab)
  all_goals (cases y<;>try (exact absurd e Jab))
  all_goals simp only[Jf9]at e
  split at e<;>try (exact absurd e Jab)
  rename_i hc;simp only[Bool.and_eq_true,decide_eq_true_eq,Bool.not_eq_true']at hc;cases e;obtain⟨w,rfl,rw'⟩:=rd.one;cases ro.str_inv;cases rw'.str_inv;exact Jo8 pins s σ H _ _ v us Q I rx rvs ⟨_,_,rfl,rfl,hc.1.1,by rw[<-Jak];exact hc.1.2,by rw[<-Jak];exact hc.2,fin.newL rs (RelDs.strs _)⟩
 |split2=>
  cases o<;>rcases ds with _|⟨y,_|⟨z,_|⟨z2,ds⟩⟩⟩<;>try (first|exact absurd e Jab|(cases y<;>exact absurd e Jab)|(cases y<;>first|exact absurd e Jab|(cases z<;>exact absurd e Jab)))
  cases y<;>cases z<;>try (exact absurd e Jab)
  simp only[Jg5]at e;split at e<;>try (exact absurd e Jab)
  rename_i hc;simp only[Bool.and_eq_true,decide_eq_true_eq,Bool.not_eq_true']at hc;obtain⟨⟨⟨⟨c1,c2⟩,c4⟩,c6⟩,c7⟩:=hc;cases e;obtain⟨v1,v2,rfl,r1,r2⟩:=rd.two;cases ro.str_inv;cases r1.str_inv;cases r2.int_inv;refine Jmm pins s σ H _ _ v us Q I rx rvs ⟨_,_,_,rfl,rfl,?_,c4,by rw[<-Jak];exact c6,by rw[<-Jak];exact c7,fin.newL rs (RelDs.strs _)⟩;rw[Bool.or_eq_false_iff,decide_eq_false_iff_not,decide_eq_false_iff_not];omega
 |join1=>
  cases o<;>rcases ds with _|⟨y,_|⟨z,ds⟩⟩<;>try (exact absurd e Jab)
  all_goals (cases y<;>try (exact absurd e Jab))
  all_goals simp only[Ji6]at e
  split at e<;>try (exact absurd e Jab)
  rename_i es hs;split at e<;>try (exact absurd e Jab)
  rename_i ts hts;split at e<;>try (exact absurd e Jab)
  rename_i hok;cases e;obtain⟨w,rfl,rw'⟩:=rd.one;cases ro.str_inv;obtain⟨a,ys,rfl,_,sq,t⟩:=rs.lst rw' hs;rw[Jgx hts]at t;cases RelDs.strs_inv t;exact Jtl pins s σ H _ _ v us Q I rx rvs ⟨_,a,ts,rfl,rfl,sq,hok,fin.now rs (RelD.str _)⟩
end
end Mi
namespace Mi
open PySem L2
structure Ow where
 mt:List (String×String×String)
 fd:List (String×String)
 nw:List (String×String)
 rs:List String
 rz:List String
 ex:List (String×String×List (String×Bool))
structure Ck where
 N:List Str
 names:List (Str×NameKind)
 fn:Bool
 B:List String
 F:List String
 O:Ow
 rs:Bool
noncomputable def dbg(x:Str):Bool:= !(x==("__debug__":Str))&& !(x==("__classdict__":Str))
noncomputable def Ck.vis(c:Ck)(x:Str):Bool:=c.names.lookup x==some .local||c.names.lookup x==some .cell||c.names.lookup x==some .free
noncomputable def Ck.own(c:Ck)(x:Str):Bool:=if c.fn then c.names.lookup x==some .local||c.names.lookup x==some .cell else c.names.lookup x==some .local
noncomputable def Ck.gl(c:Ck)(x:Str):Bool:=c.names.lookup x==some .globalImplicit
noncomputable def relab(inner outer:List (Str×NameKind)):List (Str×NameKind):=inner.map λ(n,k)=>if(k== .free&&outer.lookup n==some .cell)then(n,.cell)else(n,k)
noncomputable def Ck.inner(c:Ck)(N:List String)(scope:Scope):Ck:={c with N:=N.map Str.ofString,names:=relab scope.names c.names,fn:=false,rs:=false}
noncomputable def Ck.xz(c:Ck):Bool×List String:=(c.rs&&c.fn,c.O.rz)
noncomputable def Ck.comp(c:Ck)(N:List String)(k:Nat)(keep:List Nat)(scope:Scope):Bool:=
 scope.kind== .function&&scope.names.all (λy=>y.2 != .cell)&&scope.names.all (λy=>y.2 != .local||scope.names.lookup y.1==some .local)
  &&scope.names.all (λy=>y.2 != .free||c.names.lookup y.1==some .cell||c.names.lookup y.1==some .free)
  &&N.length==k+keep.length&&decide ((N.map Str.ofString).Nodup)
  &&(List.range keep.length).all (λj=>match keep[j]?,(N.map Str.ofString)[k+j]? with
   |some i,some x=>c.N[i]? ==some x&&scope.names.lookup x==some .free
   |_,_=>false)
noncomputable def Jfi:Expr->Bool
 |.Call (.Name ..) [] [] _=>true
 |_=>false
noncomputable def isComp:Expr->Bool
 |.ListComp .. =>true|.SetComp .. =>true|.DictComp .. =>true
 |_=>false
noncomputable def tgOwn(k:Nat):M->Bool
 |.tvar i=>decide (i<k)
 |.ttup ts=>tgOwn k ts
 |.nul=>true
 |.cns a b=>tgOwn k a&&tgOwn k b
 |_=>false
noncomputable def okRecv:Meth->M->Bool
 |_,_=>true
noncomputable def noSetE:Expr->Bool
 |.Set .. =>false
 |_=>true
noncomputable def constIs(o:Cop)(e:Expr):Bool:=match o with
 |_=>noSetE e
noncomputable def itT:M->Expr->Bool
 |.enm _,.Tuple _ _ _=>true
 |.enm _,_=>false
 |_,_=>true
noncomputable def kx:Expr->Bool
 |.Call .. =>true
 |.Subscript .. =>true
 |.BinOp .. =>true
 |.List .. =>true
 |_=>false
noncomputable def isLC:Expr->Bool
 |.ListComp .. =>true
 |_=>false
noncomputable def sim:M->Bool
 |.cst _=>true
 |.var _=>true
 |.glb _=>true
 |.idx a b=>sim a&&sim b
 |.kle _=>true
 |_=>false
noncomputable def simA:M->Bool
 |.nul=>true
 |.cns a b=>sim a&&simA b
 |_=>false
noncomputable def xM:M->Bool
 |.nul=>true
 |.cns a b=>xM a&&xM b
 |.ifx _ a b=>xM a&&xM b
 |.rsx _=>true
 |.rtk _=>true
 |.exx _=>true
 |.asq _ _=>true
 |.rtx _=>true
 |.kls _=>true
 |.ifq _ a b=>xM a&&xM b
 |.acx _ _=>true
 |.forr (.tvar _) (.cns it .nul) b=>sim it&&xM b
 |_=>false
mutual
noncomputable def xE:Bool×List String->M->Bool
 |Z,.idx a b=>xE Z a&&sim b
 |Z,.call f (.cns a b)=>Z.2.contains f&&((xE Z a||sim a)&&xA Z b)
 |Z,.meth .split1 a (.cns b .nul)=>xE Z a&&sim b
 |Z,.meth .append a (.cns b .nul)=>sim a&&xE Z b
 |Z,.bin .add a b=>(xE Z a||sim a)&&(xE Z b||sim b)
 |Z,.tup as=>xA Z as
 |Z,.prim .tuple1 as=>xA Z as
 |Z,.comp _ _ _ (.tvar _) (.cns it .nul) .nul el=>Z.1&&sim it&&xE (false,Z.2) el
 |Z,_=>false
noncomputable def xA:Bool×List String->M->Bool
 |Z,.nul=>true
 |Z,.cns a b=>(xE Z a||sim a)&&xA Z b
 |Z,_=>false
end
noncomputable def xT(Z:Bool×List String):M->Bool
 |.cmp _ a b=>(xE Z a||sim a)&&(xE Z b||sim b)
 |.call f as=>xE Z (.call f as)
 |.nott a=>xT Z a
 |_=>false
structure ThX where
 body:List Stmt
 y:Str
 yp:Pos
 nm:Str
 v:Str
 vp:Pos
 es:List Expr
 lp:Pos
 sp:Pos
 u:Str
 up:Pos
 e0:Expr
 v2:Str
 vp2:Pos
 wn:Str
 wp:Pos
 xp:Pos
 lp2:Pos
 sp2:Pos
 ln:Str
 q1:Pos
 x:Str
 p1:Pos
 x2:Str
 p2:Pos
 v3:Str
 p3:Pos
 x3:Str
 p4:Pos
 sc:Scope
 lp3:Pos
 q2:Pos
 k:Int
 kk:Nat
 q3:Pos
 q4:Pos
 hb:List Stmt
 ip:Pos
 hp:Pos
 pos:Pos
theorem nn{α:Type}{q:α}{p:Prop}(h:(none:Option α)=some q):p:=nomatch h
theorem bnd{α β:Type}{o:Option α}{f:α->Option β}{b:β}(h:o.bind f=some b):∃a,o=some a/\f a=some b:=Option.bind_eq_some_iff.mp h
noncomputable def nmE:Expr->Option (Str×Pos)
 |.Name x p=>some (x,p)
 |_=>none
theorem Jdu{z:Expr}{a}(h:nmE z=some a):z=.Name a.1 a.2:=by
 cases z<;>first|exact nn h|(cases h;rfl)
noncomputable def asN:Stmt->Option (Expr×Expr×Pos)
 |.Assign [t] e p=>some (t,e,p)
 |_=>none
theorem Jys{z:Stmt}{a}(h:asN z=some a):z=.Assign [a.1] a.2.1 a.2.2:=by
 cases z<;>try (exact nn h)
 rename_i ts _ _;rcases ts with _|⟨t,_|⟨u,ts⟩⟩<;>first|exact nn h|(cases h;rfl)
noncomputable def lsE:Expr->Option (List Expr×Pos)
 |.List es p=>some (es,p)
 |_=>none
theorem Jxe{z:Expr}{a}(h:lsE z=some a):z=.List a.1 a.2:=by
 cases z<;>first|exact nn h|(cases h;rfl)
noncomputable def sbE:List Expr->Option (Expr×Expr×Expr×Pos)
 |[e,.Subscript a b p]=>some (e,a,b,p)
 |_=>none
theorem Jvd{z:List Expr}{a}(h:sbE z=some a):z=[a.1,.Subscript a.2.1 a.2.2.1 a.2.2.2]:=by
 rcases z with _|⟨e,z⟩<;>try (exact nn h)
 rcases z with _|⟨y,z⟩<;>try (exact nn h)
 cases y<;>try (exact nn h)
 rcases z with _|⟨w,z⟩<;>first|exact nn h|(cases h;rfl)
noncomputable def ifS:Stmt->Option (Expr×List Stmt×Pos)
 |.If t b [] p=>some (t,b,p)
 |_=>none
theorem Jxu{z:Stmt}{a}(h:ifS z=some a):z=.If a.1 a.2.1 [] a.2.2:=by
 cases z<;>try (exact nn h)
 rename_i _ _ o _;cases o<;>first|exact nn h|(cases h;rfl)
noncomputable def cpE:Expr->Option (Expr×CmpOp×Expr×Pos)
 |.Compare l [o] [r] p=>some (l,o,r,p)
 |_=>none
theorem Jyd{z:Expr}{a}(h:cpE z=some a):z=.Compare a.1 [a.2.1] [a.2.2.1] a.2.2.2:=by
 cases z<;>try (exact nn h)
 rename_i _ os rs _;rcases os with _|⟨o,os⟩<;>try (exact nn h)
 rcases os with _|⟨o2,os⟩<;>try (exact nn h)
 rcases rs with _|⟨r,_|⟨r2,rs⟩⟩<;>first|exact nn h|(cases h;rfl)
noncomputable def gtK:CmpOp->Expr->Option (Int×Nat×Pos)
 |.Gt,.Constant (.int k) j p=>some (k,j,p)
 |_,_=>none
theorem Jq7{o:CmpOp}{z:Expr}{a}(h:gtK o z=some a):o=.Gt/\z=.Constant (.int a.1) a.2.1 a.2.2:=by
 cases o<;>try (exact nn h)
 cases z<;>try (exact nn h)
 rename_i c _ _;cases c<;>first|exact nn h|(cases h;exact⟨rfl,rfl⟩)
noncomputable def clE:Expr->Option (Expr×Expr×Pos)
 |.Call f [a] [] p=>some (f,a,p)
 |_=>none
theorem Jye{z:Expr}{a}(h:clE z=some a):z=.Call a.1 [a.2.1] [] a.2.2:=by
 cases z<;>try (exact nn h)
 rename_i _ as ks _;rcases as with _|⟨a,as⟩<;>try (exact nn h)
 rcases as with _|⟨a2,as⟩<;>try (exact nn h)
 cases ks<;>first|exact nn h|(cases h;rfl)
noncomputable def lcE:Expr->Option (Expr×Expr×Expr×Expr×Scope×Pos)
 |.ListComp e [⟨t,i,[f],0⟩] sc p=>some (e,t,i,f,sc,p)
 |_=>none
theorem Jxf{z:Expr}{a}(h:lcE z=some a):z=.ListComp a.1 [⟨a.2.1,a.2.2.1,[a.2.2.2.1],0⟩] a.2.2.2.2.1 a.2.2.2.2.2:=by
 cases z<;>try (exact nn h)
 rename_i _ gs _ _;rcases gs with _|⟨⟨t,i,fs,ay⟩,gs⟩<;>try (exact nn h)
 rcases fs with _|⟨f,fs⟩<;>try (exact nn h)
 rcases fs with _|⟨f2,fs⟩<;>try (exact nn h)
 rcases ay with(_|n)|n<;>try (exact nn h)
 rcases gs with _|⟨g2,gs⟩<;>first|exact nn h|(cases h;rfl)
noncomputable def tyS:Stmt->Option (List Stmt×Expr×Str×List Stmt×Pos×Pos)
 |.Try b [.ExceptHandler (some y) (some n) s hp] [] [] p=>some (b,y,n,s,hp,p)
 |_=>none
theorem Juh{z:Stmt}{a}(h:tyS z=some a):z=.Try a.1 [.ExceptHandler (some a.2.1) (some a.2.2.1) a.2.2.2.1 a.2.2.2.2.1] [] [] a.2.2.2.2.2:=by
 cases z<;>try (exact nn h)
 rename_i _ hs oe fb _;rcases hs with _|⟨⟨ty,nm,su,hp⟩,hs⟩<;>try (exact nn h)
 rcases ty with _|ty<;>try (exact nn h)
 rcases nm with _|nm<;>try (exact nn h)
 rcases hs with _|⟨h2,hs⟩<;>try (exact nn h)
 rcases oe with _|⟨o2,oe⟩<;>try (exact nn h)
 rcases fb with _|⟨f2,fb⟩<;>first|exact nn h|(cases h;rfl)
noncomputable def l3:List Stmt->Option (Stmt×Stmt×Stmt)
 |[a,b,c]=>some (a,b,c)
 |_=>none
theorem Jzm{z:List Stmt}{a}(h:l3 z=some a):z=[a.1,a.2.1,a.2.2]:=by
 rcases z with _|⟨a,_|⟨b,_|⟨c,_|⟨d,z⟩⟩⟩⟩<;>first|exact nn h|(cases h;rfl)
noncomputable def p1X(z:Stmt):Option (Str×Pos×List Expr×Pos×Pos):=(asN z).bind λa=>(nmE a.1).bind λb=>(lsE a.2.1).bind λc=>some (b.1,b.2,c.1,c.2,a.2.2)
theorem Jq3{z:Stmt}{a}(h:p1X z=some a):z=.Assign [.Name a.1 a.2.1] (.List a.2.2.1 a.2.2.2.1) a.2.2.2.2:=by
 obtain⟨a,a1,h⟩:=bnd h;obtain⟨b,a2,h⟩:=bnd h;obtain⟨c,a3,h⟩:=bnd h;cases h;rw[Jys a1,Jdu a2,Jxe a3]
noncomputable def p2X(z:List Expr):Option (Expr×Str×Pos×Str×Pos×Pos):=(sbE z).bind λa=>(nmE a.2.1).bind λb=>(nmE a.2.2.1).bind λc=>some (a.1,b.1,b.2,c.1,c.2,a.2.2.2)
theorem Jwu{z:List Expr}{a}(h:p2X z=some a):z=[a.1,.Subscript (.Name a.2.1 a.2.2.1) (.Name a.2.2.2.1 a.2.2.2.2.1) a.2.2.2.2.2]:=by
 obtain⟨a,a1,h⟩:=bnd h;obtain⟨b,a2,h⟩:=bnd h;obtain⟨c,a3,h⟩:=bnd h;cases h;rw[Jvd a1,Jdu a2,Jdu a3]
noncomputable def p3X(z:Expr):Option ((Str×Pos)×(Str×Pos)×(Str×Pos)×(Str×Pos)×Scope×Pos):=(lcE z).bind λa=>(nmE a.1).bind λb=>(nmE a.2.1).bind λc=>(nmE a.2.2.1).bind λd=>(nmE a.2.2.2.1).bind λe=>some (b,c,d,e,a.2.2.2.2)
theorem Jwt{z:Expr}{a}(h:p3X z=some a):z=.ListComp (.Name a.1.1 a.1.2) [⟨.Name a.2.1.1 a.2.1.2,.Name a.2.2.1.1 a.2.2.1.2,[.Name a.2.2.2.1.1 a.2.2.2.1.2],0⟩] a.2.2.2.2.1 a.2.2.2.2.2:=by
 obtain⟨a,a1,h⟩:=bnd h;obtain⟨b,a2,h⟩:=bnd h;obtain⟨c,a3,h⟩:=bnd h;obtain⟨d,a4,h⟩:=bnd h;obtain⟨e,a5,h⟩:=bnd h;cases h;rw[Jxf a1,Jdu a2,Jdu a3,Jdu a4,Jdu a5]
noncomputable def p4X(z:Stmt):Option ((Str×Pos)×(Expr×Pos)×(Int×Nat×Pos)×Pos×List Stmt×Pos):=(ifS z).bind λa=>(cpE a.1).bind λb=>(gtK b.2.1 b.2.2.1).bind λc=>(clE b.1).bind λd=>(nmE d.1).bind λe=>some (e,d.2,c,b.2.2.2,a.2)
theorem Jws{z:Stmt}{a}(h:p4X z=some a):z=.If (.Compare (.Call (.Name a.1.1 a.1.2) [a.2.1.1] [] a.2.1.2) [.Gt] [.Constant (.int a.2.2.1.1) a.2.2.1.2.1 a.2.2.1.2.2] a.2.2.2.1) a.2.2.2.2.1 [] a.2.2.2.2.2:=by
 obtain⟨a,a1,h⟩:=bnd h;obtain⟨b,a2,h⟩:=bnd h;obtain⟨c,a3,h⟩:=bnd h;obtain⟨d,a4,h⟩:=bnd h;obtain⟨e,a5,h⟩:=bnd h;cases h;rw[Jxu a1,Jyd a2,(Jq7 a3).1,(Jq7 a3).2,Jye a4,Jdu a5]
noncomputable def p5X(z:Stmt):Option (List Stmt×(Str×Pos)×Str×(Stmt×Stmt×Stmt)×Pos×Pos):=(tyS z).bind λa=>(nmE a.2.1).bind λb=>(l3 a.2.2.2.1).bind λc=>some (a.1,b,a.2.2.1,c,a.2.2.2.2)
theorem Jwr{z:Stmt}{a}(h:p5X z=some a):z=.Try a.1 [.ExceptHandler (some (.Name a.2.1.1 a.2.1.2)) (some a.2.2.1) [a.2.2.2.1.1,a.2.2.2.1.2.1,a.2.2.2.1.2.2] a.2.2.2.2.1] [] [] a.2.2.2.2.2:=by
 obtain⟨a,a1,h⟩:=bnd h;obtain⟨b,a2,h⟩:=bnd h;obtain⟨c,a3,h⟩:=bnd h;cases h;rw[Juh a1,Jdu a2,Jzm a3]
noncomputable def thX(z:Stmt):Option ThX:=
 (p5X z).bind λa=>(p1X a.2.2.2.1.1).bind λb=>(p1X a.2.2.2.1.2.1).bind λc=>(p2X c.2.2.1).bind λd=>(p4X a.2.2.2.1.2.2).bind λe=>(p3X e.2.1.1).bind λf=>
 some ⟨a.1,a.2.1.1,a.2.1.2,a.2.2.1,b.1,b.2.1,b.2.2.1,b.2.2.2.1,b.2.2.2.2,c.1,c.2.1,d.1,d.2.1,d.2.2.1,d.2.2.2.1,d.2.2.2.2.1,d.2.2.2.2.2,c.2.2.2.1,c.2.2.2.2,e.1.1,e.1.2,f.1.1,f.1.2,f.2.1.1,f.2.1.2,f.2.2.1.1,f.2.2.1.2,f.2.2.2.1.1,f.2.2.2.1.2,f.2.2.2.2.1,f.2.2.2.2.2,e.2.1.2,e.2.2.1.1,e.2.2.1.2.1,e.2.2.1.2.2,e.2.2.2.1,e.2.2.2.2.1,e.2.2.2.2.2,a.2.2.2.2.1,a.2.2.2.2.2⟩
theorem Juj{z:Stmt}{q:ThX}(h:thX z=some q):z=.Try q.body [.ExceptHandler (some (.Name q.y q.yp)) (some q.nm) [.Assign [.Name q.v q.vp] (.List q.es q.lp) q.sp,.Assign [.Name q.u q.up] (.List [q.e0,.Subscript (.Name q.v2 q.vp2) (.Name q.wn q.wp) q.xp] q.lp2) q.sp2,
   .If (.Compare (.Call (.Name q.ln q.q1) [.ListComp (.Name q.x q.p1) [⟨.Name q.x2 q.p2,.Name q.v3 q.p3,[.Name q.x3 q.p4],0⟩] q.sc q.lp3] [] q.q2) [.Gt] [.Constant (.int q.k) q.kk q.q3] q.q4) q.hb [] q.ip] q.hp] [] [] q.pos:=by
 obtain⟨a,a1,h⟩:=bnd h;obtain⟨b,a2,h⟩:=bnd h;obtain⟨c,a3,h⟩:=bnd h;obtain⟨d,a4,h⟩:=bnd h;obtain⟨e,a5,h⟩:=bnd h;obtain⟨f,a6,h⟩:=bnd h;cases h;rw[Jwr a1,Jq3 a2,Jq3 a3,Jwu a4,Jws a5,Jwt a6]
structure RsX where
 x:Str
 np:Pos
 y:Str
 j:Nat
 cp:Pos
 cpos:Pos
 pos:Pos
noncomputable def rsX:Stmt->Option RsX
 |.Raise (some (.Call (.Name x np) [.Constant (.str y) j cp] [] cpos)) none pos=>some ⟨x,np,y,j,cp,cpos,pos⟩
 |_=>none
theorem Jvg{x:Stmt}{q:RsX}(h:rsX x=some q):x=.Raise (some (.Call (.Name q.x q.np) [.Constant (.str q.y) q.j q.cp] [] q.cpos)) none q.pos:=by
 unfold rsX at h;split at h
 ·cases h;rfl
 ·cases h
noncomputable def Jkq(c:Ck)(n:Nat)(t:String):Expr->Bool
 |.Call (.Name f _) [.Name x _,.Name y _] [] _=>Str.ofString "isinstance"==f&&c.gl f&&c.B.contains "isinstance"&&c.N[n]? ==some x&&c.vis x&&dbg x&&Str.ofString t==y&&c.gl y&&dbg y
 |_=>false
noncomputable def chkIs(c:Ck)(n:Nat):List String->List Expr->Bool
 |[],[]=>true
 |t::ts,e::es=>Jkq c n t e&&chkIs c n ts es
 |_,_=>false
mutual
noncomputable def chkE:M->Ck->Expr->Bool
 |.cst .non,_,.Constant .none _ _=>true
 |.cst (.bl b),_,.Constant (.bool b') _ _=>b==b'
 |.cst (.int i),_,.Constant (.int j) _ _=>i==j
 |.cst (.str x),_,.Constant (.str y) _ _=>x==y
 |.var i,c,.Name x _=>c.N[i]? ==some x&&c.vis x&&dbg x
 |.glb g,c,.Name x _=>Str.ofString g==x&&c.gl x&&dbg x
 |.bin o a b,c,.BinOp e p f _=>opOf o==p&&chkE a c e&&chkE b c f
 |.neg a,c,.UnaryOp .USub e _=>chkE a c e
 |.nott a,c,.UnaryOp .Not e _=>chkE a c e
 |.bo true as,c,.BoolOp .And es _=>chkA as c es
 |.bo false as,c,.BoolOp .Or es _=>chkA as c es
 |.cmp o a b,c,.Compare e [p] [f] _=>copOf o==p&&chkE a c e&&chkE b c f&&constIs o f
 |.cmp2 o o' a b d,c,.Compare e [p,p'] [f,g] _=>copOf o==p&&copOf o'==p'&&chkE a c e&&chkE b c f&&chkE d c g&&constIs o f&&constIs o' g
 |.ife t a b,c,.IfExp x e f _=>chkE t c x&&chkE a c e&&chkE b c f
 |.tup as,c,.Tuple es _ _=>chkA as c es
 |.lst as,c,.List es _=>chkA as c es
 |.idx a b,c,.Subscript e f _=>chkE a c e&&chkE b c f
 |.sli a lo hi,c,.Subscript e (.Slice l h none _) _=>chkE a c e&&chkO lo c l&&chkO hi c h
 |.call f as,c,.Call (.Name x _) es [] _=>Str.ofString f==x&&c.gl x&&dbg x&&c.F.contains f&&chkA as c es
 |.prim p as,c,.Call (.Name x _) (e::es) [] _=>Str.ofString (primNm p)==x&&c.gl x&&c.B.contains (primNm p)&&chkA as c (e::es)
 |.isi a t,c,.Call (.Name x _) [e,.Name y _] [] _=>Str.ofString "isinstance"==x&&Str.ofString t==y&&c.gl x&&c.gl y&&c.B.contains "isinstance"&&c.B.contains t&&clNames.contains t&&chkE a c e
 |.meth p o as,c,.Call (.Attribute e x ap) es [] cp=>Str.ofString (methNm p)==x&& !Jfi e&&ap.endLine==cp.line&&decide (es.length<20)&&chkE o c e&&chkA as c es&&okRecv p o
 |.comp N k keep tg it cd el,c,.ListComp elt [⟨t,i,fs,asy⟩] scope _=>asy==0&&c.comp N k keep scope&&tgOwn k tg&&chkG tg (c.inner N scope) t&&chkI it c i&&chkC cd (c.inner N scope) fs&&chkE el (c.inner N scope) elt&&itT it t
 |.dnil,_,.Dict [] [] _=>true
 |.kle a,c,x=>kx x&&chkE a c x
 |_,_,_=>false
noncomputable def chkA:M->Ck->List Expr->Bool
 |.nul,_,[]=>true
 |.cns a b,c,e::es=>chkE a c e&&chkA b c es
 |_,_,_=>false
noncomputable def chkO:M->Ck->Option Expr->Bool
 |.nul,_,none=>true
 |.cns a .nul,c,some e=>chkE a c e
 |_,_,_=>false
noncomputable def chkC:M->Ck->List Expr->Bool
 |.nul,_,[]=>true
 |.cns a .nul,c,[e]=>chkE a c e
 |_,_,_=>false
noncomputable def chkI:M->Ck->Expr->Bool
 |.rng a,c,.Call (.Name x _) [e] [] _=>Str.ofString "range"==x&&c.gl x&&c.B.contains "range"&&chkE a c e
 |.cns a .nul,c,e=>chkE a c e
 |.enm a,c,.Call (.Name x _) [e] [] _=>Str.ofString "enumerate"==x&&c.gl x&&c.B.contains "enumerate"&&chkE a c e
 |_,_,_=>false
noncomputable def chkG:M->Ck->Expr->Bool
 |.tvar i,c,.Name x _=>c.N[i]? ==some x&&c.own x
 |.ttup ts,c,.Tuple es _ _=>chkGs ts c es
 |.tsub a b,c,.Subscript e f _=>chkE a c e&&chkE b c f
 |_,_,_=>false
noncomputable def chkGs:M->Ck->List Expr->Bool
 |.nul,_,[]=>true
 |.cns a b,c,e::es=>chkG a c e&&chkGs b c es
 |_,_,_=>false
noncomputable def chkS:M->Ck->Stmt->Bool
 |.asg t e,c,.Assign [tg] v _=>chkG t c tg&&chkE e c v&&(match tg,v with|.Tuple ..,.Tuple .. =>false|.Name ..,_=>true|_,v=> !isComp v)
 |.ifs t a b,c,.If x y z _=>chkE t c x&&chkB a c y&&chkB b c z
 |.forr t i b,c,.For tg it body [] _=>chkG t c tg&&chkI i c it&&chkB b c body&&itT i tg
 |.whl t b,c,.While x body [] _=>chkE t c x&&chkB b c body
 |.ret e,c,.Return (some v) _=>chkE e c v
 |.exp e,c,.Expr v _=>chkE e c v&& !isComp v
 |.rse,_,.Raise (some _) none _=>true
 |.ifx t a b,c,.If x y z _=>chkE t c x&&chkB a c y&&chkB b c z
 |.rsx cl,c,s=>(match rsX s with|some q=>Str.ofString cl==q.x&&c.gl q.x&&dbg q.x&&c.rs&&c.fn&&c.O.rs.contains cl|none=>false)
 |.rtk e,c,.Return (some v) _=>chkE e c v
 |.exx e,c,.Expr v _=>chkE e c v&& !isComp v&&xE c.xz e
 |.asq i e,c,.Assign [.Name y _] v _=>c.N[i]? ==some y&&c.own y&& !isComp v&&chkE e c v&&xE c.xz e
 |.rtx e,c,.Return (some v) _=>chkE e c v&&xE c.xz e
 |.kls s,c,x=>chkS s c x
 |.acx i e,c,.Assign [.Name y _] v _=>c.N[i]? ==some y&&c.own y&&isLC v&&chkE e c v&&xE c.xz e
 |.ifq t a b,c,.If x y z _=>chkE t c x&&chkB a c y&&chkB b c z&&xT c.xz t
 |.trh b cl n j l w t0 ts N keep tab,c,s=>(match thX s with|some q=>(c.fn&&xM b&&chkB b {c with rs:=false} q.body&&Str.ofString cl==q.y&&c.gl q.y&&dbg q.y&&c.N[n]? ==some q.nm&&c.names.lookup q.nm==some .local&&c.N[j]? ==some q.v&&c.own q.v&&chkIs c n ts q.es&&tab.all (λr=>r.2.length==(t0::ts).length&&c.O.ex.contains (cl,r.1,(t0::ts).zip r.2)))&&(c.N[l]? ==some q.u&&c.own q.u&&Jkq c n t0 q.e0&&q.v==q.v2&&q.v==q.v3&&c.vis q.v&&dbg q.v&&c.N[w]? ==some q.wn&&c.vis q.wn&&dbg q.wn&&Str.ofString "len"==q.ln&&c.gl q.ln&&c.B.contains "len"&&q.x==q.x2&&q.x==q.x3&&c.comp N 1 keep q.sc&&(N.map Str.ofString)[0]? ==some q.x&&q.sc.names.lookup q.x==some .local&&dbg q.x&&q.k==1)|none=>false)
 |_,_,_=>false
noncomputable def chkB:M->Ck->List Stmt->Bool
 |.nul,_,[]=>true
 |.cns a b,c,s::ss=>chkS a c s&&chkB b c ss
 |_,_,_=>false
end
theorem cE_1:chkE (.cst (.bl b)) (u1') (.Constant (.bool b') u2' u3')=(b==b'):=rfl
theorem cE_2:chkE (.cst (.int i)) (u1') (.Constant (.int j) u2' u3')=(i==j):=rfl
theorem cE_3:chkE (.cst (.str x)) (u1') (.Constant (.str y) u2' u3')=(x==y):=rfl
theorem cE_4:chkE (.var i) (c) (.Name x u1')=(c.N[i]? ==some x&&c.vis x&&dbg x):=rfl
theorem cE_5:chkE (.glb g) (c) (.Name x u1')=(Str.ofString g==x&&c.gl x&&dbg x):=rfl
theorem cE_6:chkE (.bin o a b) (c) (.BinOp e p f u1')=(opOf o==p&&chkE a c e&&chkE b c f):=rfl
theorem cE_7:chkE (.neg a) (c) (.UnaryOp .USub e u1')=(chkE a c e):=rfl
theorem cE_8:chkE (.nott a) (c) (.UnaryOp .Not e u1')=(chkE a c e):=rfl
theorem cE_9:chkE (.bo true as) (c) (.BoolOp .And es u1')=(chkA as c es):=rfl
theorem J0b:chkE (.bo false as) (c) (.BoolOp .Or es u1')=(chkA as c es):=rfl
theorem Jyq:chkE (.cmp o a b) (c) (.Compare e [p] [f] u1')=(copOf o==p&&chkE a c e&&chkE b c f&&constIs o f):=rfl
theorem J0a:chkE (.cmp2 o o' a b d) (c) (.Compare e [p,p'] [f,g] u1')=(copOf o==p&&copOf o'==p'&&chkE a c e&&chkE b c f&&chkE d c g&&constIs o f&&constIs o' g):=rfl
theorem Jz9:chkE (.ife t a b) (c) (.IfExp x e f u1')=(chkE t c x&&chkE a c e&&chkE b c f):=rfl
theorem Jyp:chkE (.tup as) (c) (.Tuple es u1' u2')=(chkA as c es):=rfl
theorem Jz8:chkE (.lst as) (c) (.List es u1')=(chkA as c es):=rfl
theorem Jyo:chkE (.idx a b) (c) (.Subscript e f u1')=(chkE a c e&&chkE b c f):=rfl
theorem Jz7:chkE (.sli a lo hi) (c) (.Subscript e (.Slice l h none u1') u2')=(chkE a c e&&chkO lo c l&&chkO hi c h):=rfl
theorem Jyn:chkE (.call f as) (c) (.Call (.Name x u1') es [] u2')=(Str.ofString f==x&&c.gl x&&dbg x&&c.F.contains f&&chkA as c es):=rfl
theorem Jym:chkE (.prim p as) (c) (.Call (.Name x u1') (e::es) [] u2')=(Str.ofString (primNm p)==x&&c.gl x&&c.B.contains (primNm p)&&chkA as c (e::es)):=rfl
theorem Jz6:chkE (.isi a t) (c) (.Call (.Name x u1') [e,.Name y u2'] [] u3')=(Str.ofString "isinstance"==x&&Str.ofString t==y&&c.gl x&&c.gl y&&c.B.contains "isinstance"&&c.B.contains t&&clNames.contains t&&chkE a c e):=rfl
theorem Jt3:chkE (.meth p o as) (c) (.Call (.Attribute e x ap) es [] cp)=(Str.ofString (methNm p)==x&& !Jfi e&&ap.endLine==cp.line&&decide (es.length<20)&&chkE o c e&&chkA as c es&&okRecv p o):=rfl
theorem Jp1:chkE (.comp N k keep tg it cd el) (c) (.ListComp elt [⟨t,i,fs,asy⟩] scope u1')=(asy==0&&c.comp N k keep scope&&tgOwn k tg&&chkG tg (c.inner N scope) t&&chkI it c i&&chkC cd (c.inner N scope) fs&&chkE el (c.inner N scope) elt&&itT it t):=rfl
theorem cA_1:chkA (.cns a b) c (e::es)=(chkE a c e&&chkA b c es):=rfl
theorem Jt2:chkGs (.cns a b) c (e::es)=(chkG a c e&&chkGs b c es):=rfl
theorem cB_1:chkB (.cns a b) c (s::ss)=(chkS a c s&&chkB b c ss):=rfl
theorem cI_0:chkI (.rng a) (c) (.Call (.Name x u1') [e] [] u2')=(Str.ofString "range"==x&&c.gl x&&c.B.contains "range"&&chkE a c e):=rfl
theorem cI_2:chkI (.cns a .nul) (c) (e)=(chkE a c e):=rfl
theorem cI_3:chkI (.enm a) (c) (.Call (.Name x u1') [e] [] u2')=(Str.ofString "enumerate"==x&&c.gl x&&c.B.contains "enumerate"&&chkE a c e):=rfl
theorem cG_0:chkG (.tvar i) (c) (.Name x u1')=(c.N[i]? ==some x&&c.own x):=rfl
theorem cG_1:chkG (.ttup ts) (c) (.Tuple es u1' u2')=(chkGs ts c es):=rfl
theorem cG_2:chkG (.tsub a b) (c) (.Subscript e f u1')=(chkE a c e&&chkE b c f):=rfl
theorem cS_0:chkS (.asg t e) (c) (.Assign [tg] v u1')=(chkG t c tg&&chkE e c v&&(match tg,v with|.Tuple ..,.Tuple .. =>false|.Name ..,_=>true|_,v=> !isComp v)):=rfl
theorem cS_1:chkS (.ifs t a b) (c) (.If x y z u1')=(chkE t c x&&chkB a c y&&chkB b c z):=rfl
theorem cS_2:chkS (.forr t i b) (c) (.For tg it body [] u1')=(chkG t c tg&&chkI i c it&&chkB b c body&&itT i tg):=rfl
theorem cS_3:chkS (.whl t b) (c) (.While x body [] u1')=(chkE t c x&&chkB b c body):=rfl
theorem cS_4:chkS (.ret e) (c) (.Return (some v) u1')=(chkE e c v):=rfl
theorem cS_6:chkS (.exp e) (c) (.Expr v u1')=(chkE e c v&& !isComp v):=rfl
theorem Jyl:chkS (.ifx t a b) (c) (.If x y z u1')=(chkE t c x&&chkB a c y&&chkB b c z):=rfl
theorem Jz4{s:Stmt}:chkS (.rsx cl) c s=(match rsX s with|some q=>Str.ofString cl==q.x&&c.gl q.x&&dbg q.x&&c.rs&&c.fn&&c.O.rs.contains cl|none=>false):=rfl
theorem Jz1{x:Stmt}:chkS (.kls s) c x=chkS s c x:=rfl
theorem Jyh:chkS (.acx i e) (c) (.Assign [.Name y u1'] v u2')=(c.N[i]? ==some y&&c.own y&&isLC v&&chkE e c v&&xE c.xz e):=rfl
theorem Jz5{x:Expr}:chkE (.kle a) c x=(kx x&&chkE a c x):=rfl
theorem Jyk:chkS (.exx e) (c) (.Expr v u1')=(chkE e c v&& !isComp v&&xE c.xz e):=rfl
theorem Jz2:chkS (.asq i e) (c) (.Assign [.Name y u1'] v u2')=(c.N[i]? ==some y&&c.own y&& !isComp v&&chkE e c v&&xE c.xz e):=rfl
theorem Jyj:chkS (.rtx e) (c) (.Return (some v) u1')=(chkE e c v&&xE c.xz e):=rfl
theorem Jyi:chkS (.ifq t a b) (c) (.If x y z u1')=(chkE t c x&&chkB a c y&&chkB b c z&&xT c.xz t):=rfl
theorem Jz3:chkS (.rtk e) (c) (.Return (some v) u1')=(chkE e c v):=rfl
theorem Jz0{s:Stmt}{N:List String}:chkS (.trh b cl n j l w t0 ts N keep tab) c s=(match thX s with|some q=>(c.fn&&xM b&&chkB b {c with rs:=false} q.body&&Str.ofString cl==q.y&&c.gl q.y&&dbg q.y&&c.N[n]? ==some q.nm&&c.names.lookup q.nm==some .local&&c.N[j]? ==some q.v&&c.own q.v&&chkIs c n ts q.es&&tab.all (λr=>r.2.length==(t0::ts).length&&c.O.ex.contains (cl,r.1,(t0::ts).zip r.2)))&&(c.N[l]? ==some q.u&&c.own q.u&&Jkq c n t0 q.e0&&q.v==q.v2&&q.v==q.v3&&c.vis q.v&&dbg q.v&&c.N[w]? ==some q.wn&&c.vis q.wn&&dbg q.wn&&Str.ofString "len"==q.ln&&c.gl q.ln&&c.B.contains "len"&&q.x==q.x2&&q.x==q.x3&&c.comp N 1 keep q.sc&&(N.map Str.ofString)[0]? ==some q.x&&q.sc.names.lookup q.x==some .local&&dbg q.x&&q.k==1)|none=>false):=rfl
section
variable (K:PySem.W.Frag) (C:Pr)
noncomputable def tE(m:M):TE:=λσ H Q=>∃ρ S τ d S',RelS K ρ S H/\RelE K ρ H τ σ/\evE C m τ S=.ok d S'/\Fin K ρ H d S' Q
noncomputable def FinB(ρ:List Addr)(H:Hp)(S':Store)(Q:Hp->Prop):Prop:=∀ρ' H',Fut K ρ H ρ' H'->RelS K ρ' S' H'->Q H'
noncomputable def tT(m:M):TT:=λσ H Q=>∃ρ S τ b S',RelS K ρ S H/\RelE K ρ H τ σ/\evT C m τ S=.ok b S'/\FinB K ρ H S' (Q b)
noncomputable def tC(m:M):TT:=λσ H Q=>∃ρ S τ b S',RelS K ρ S H/\RelE K ρ H τ σ/\evC C m τ S=.ok b S'/\FinB K ρ H S' (Q b)
noncomputable def tBV(w:Bool)(m:M):TE:=λσ H Q=>∃ρ S τ d S',RelS K ρ S H/\RelE K ρ H τ σ/\evBV C w m τ S=.ok d S'/\Fin K ρ H d S' Q
noncomputable def tBT(w:Bool)(m:M):TT:=λσ H Q=>∃ρ S τ b S',RelS K ρ S H/\RelE K ρ H τ σ/\evBT C w m τ S=.ok b S'/\FinB K ρ H S' (Q b)
noncomputable def tA(m:M):TA:=λσ H Q=>∃ρ S τ ds S',RelS K ρ S H/\RelE K ρ H τ σ/\evA C m τ S=.ok ds S'/\∀ρ' vs H',Fut K ρ H ρ' H'->RelS K ρ' S' H'->RelDs K ρ' H' ds vs->Q vs H'
noncomputable def tO(m:M):TO:=λσ H Q=>∃ρ S τ o S',RelS K ρ S H/\RelE K ρ H τ σ/\evO C m τ S=.ok o S'/\FinB K ρ H S' (Q o)
structure ItOk(ρ0:List Addr)(H0:Hp)(J:It)(g:Wk)(ds:List D):Prop where
 go:∀ρ H S i d,Fut K ρ0 H0 ρ H->RelS K ρ S H->sameAt S g ds.length=true->nth S g ds i=some d->J.go i H/\∀x H',J.yld i H x H'->Fut K ρ H ρ H'/\RelS K ρ S H'/\RelD K ρ H' d x
 stop:∀ρ H S,Fut K ρ0 H0 ρ H->RelS K ρ S H->sameAt S g ds.length=true->J.stop ds.length H
noncomputable def tI(m:M):TI:=λσ H R=>∃ρ S τ g ds S',RelS K ρ S H/\RelE K ρ H τ σ/\evI C m τ S=.ok (g,ds) S'/\∀ρ' H' J,Fut K ρ H ρ' H'->RelS K ρ' S' H'->ItOk K ρ' H' J g ds->R J H'
noncomputable def FinG(ρ:List Addr)(H:Hp)(τ':En)(S':Store)(Q:L2.St->Hp->Prop):Prop:=∀ρ' σ' H',Fut K ρ H ρ' H'->RelS K ρ' S' H'->RelE K ρ' H' τ' σ'->Q σ' H'
noncomputable def tG(m:M):TG:=λv σ H Q=>∃ρ S τ d τ' S',RelS K ρ S H/\RelE K ρ H τ σ/\RelD K ρ H d v/\evG C m d τ S=.ok τ' S'/\FinG K ρ H τ' S' Q
noncomputable def tGs(m:M):TGs:=λvs σ H Q=>∃ρ S τ ds τ' S',RelS K ρ S H/\RelE K ρ H τ σ/\RelDs K ρ H ds vs/\evGs C m ds τ S=.ok τ' S'/\FinG K ρ H τ' S' Q
noncomputable def FlOk(ρ:List Addr)(H:Hp)(fl:Fl)(S':Store)(D:Ends):Prop:=match fl with
 |.nx τ'=>FinG K ρ H τ' S' D.nx
 |.bk τ'=>FinG K ρ H τ' S' D.bk
 |.ct τ'=>FinG K ρ H τ' S' D.ct
 |.rt d=>Fin K ρ H d S' D.rt
noncomputable def tS(m:M):TS:=λD σ H=>∃ρ S τ fl S',RelS K ρ S H/\RelE K ρ H τ σ/\evS C m τ S=.ok fl S'/\FlOk K ρ H fl S' D
noncomputable def tB'(m:M):TS:=λD σ H=>∃ρ S τ fl S',RelS K ρ S H/\RelE K ρ H τ σ/\evB C m τ S=.ok fl S'/\FlOk K ρ H fl S' D
noncomputable def spM(f:String):Sp:=λvs H Q _=>∃ρ S ds d S',RelS K ρ S H/\RelDs K ρ H ds vs/\C.call f ds S=.ok d S'/\Fin K ρ H d S' Q
noncomputable def ClsOf(c:String)(Cv:Value):Prop:=PySem.W.nsIn K mainGlobals (Str.ofString c)=some (some Cv)
noncomputable def spX(Z:List String)(f:String):Sp:=λvs H Q E=>spM K C f vs H Q E\/(f∈Z/\∃ρ S ds c τ S',RelS K ρ S H/\RelDs K ρ H ds vs/\C.call f ds S=.err c τ S'/\∀ρ' H' Cv,Fut K ρ H ρ' H'->RelS K ρ' S' H'->ClsOf K c Cv->E Cv none H')
noncomputable def tSX(W:Value->L2.St->Hp->Prop)(m:M):TS:=λ_ σ H=>∃ρ S τ c τx S',RelS K ρ S H/\RelE K ρ H τ σ/\evS C m τ S=.err c τx S'/\∀ρ' σ' H' Cv,Fut K ρ H ρ' H'->RelS K ρ' S' H'->RelE K ρ' H' τx σ'->ClsOf K c Cv->W Cv σ' H'
noncomputable def tBX(W:Value->L2.St->Hp->Prop)(m:M):TS:=λ_ σ H=>∃ρ S τ c τx S',RelS K ρ S H/\RelE K ρ H τ σ/\evB C m τ S=.err c τx S'/\∀ρ' σ' H' Cv,Fut K ρ H ρ' H'->RelS K ρ' S' H'->RelE K ρ' H' τx σ'->ClsOf K c Cv->W Cv σ' H'
noncomputable def IsC(mg:Str->Option Value)(Ca:Addr)(t:String)(b:Bool):Prop:=(∃Ct,mg (Str.ofString t)=some (.ref Ct)/\PySem.W.kitOne K (.ref Ca) (.ref Ct)=some b)\/(t="ValueError"/\mg (Str.ofString t)=none/\PySem.W.kitOne K (.ref Ca) (.type t)=some b)
end
structure Tp(P:Program)(w:World)(K:PySem.W.Frag)(mg:Str->Option Value)(base:Heap)(A:Around)(C:Pr)(B F:List String)(O:Ow):Prop where
 fns:∀f∈F,∃k a fd ps,Room k A/\mg (Str.ofString f)=some (.ref a)/\FnOk P w K mg base (CX1 P w) k a fd ps (spX K C O.rz f)/\Binds K fd ps []/\PySem.W.keepIn K (.ref a)=true
 blt:∀x∈B,mg (Str.ofString x)=none
 gl:∀x d,C.glob x=some d->∃v u,mg (Str.ofString x)=some u/\RelV v u/\(∀ρ H,RelD K ρ H d v)/\∀ds,d=.tup ds->∃a o,v=.ref a/\K.lookup a=some o/\o.cls=.type "tuple"/\o.dict=none
 un:A.units+64<cLine
 mts:∀c m f,(c,m,f)∈O.mt->∃k a fd ps Ca,Room (k+1) A/\PySem.W.nsIn K mainGlobals (Str.ofString c)=some (some (.ref Ca))/\L2.Cls K Ca/\L2.Meth K Ca (Str.ofString m) a/\L2.MethB K (Str.ofString m) a/\FnOk P w K mg base (CX1 P w) k a fd ps (spX K C O.rz f)/\Binds K fd ps []
 fds:∀c f,(c,f)∈O.fd->∃Ca,PySem.W.nsIn K mainGlobals (Str.ofString c)=some (some (.ref Ca))/\L2.Cls K Ca/\L2.NoAttr K Ca (Str.ofString f)
 nws:∀c f,(c,f)∈O.nw->∃k a fd ps Ca,Room (k+1) A/\PySem.W.nsIn K mainGlobals (Str.ofString c)=some (some (.ref Ca))/\mg (Str.ofString c)=some (.ref Ca)/\L2.Mk K Ca a/\FnOk P w K mg base (CX1 P w) k a fd ps (spX K C O.rz f)/\Binds K fd ps []
 rss:∀c∈O.rs,∃Ca,PySem.W.nsIn K mainGlobals (Str.ofString c)=some (some (.ref Ca))/\mg (Str.ofString c)=some (.ref Ca)/\PySem.W.excIn K Ca bmVal "ValueError.__new__"=true
 exs:∀x c ts,(x,c,ts)∈O.ex->∃Cx Ca,mg (Str.ofString x)=some Cx/\PySem.W.nsIn K mainGlobals (Str.ofString c)=some (some (.ref Ca))/\PySem.W.exmOne K (.ref Ca) Cx=some true/\L2.ExcCl K Ca/\(PySem.W.clsIn K Ca).isSome=true/\∀t b,(t,b)∈ts->IsC K mg Ca t b
structure Gd(X:Cx)(C:Pr)(c:Ck):Prop where
 N:X.N=c.N
 nd:X.N.Nodup
 names:X.env.scope.names=c.names
 sk:X.env.scope.kind=.function
 fn:∀x,X.fn x=c.fn
 calm:X.calm=true
 xe:PassesOwn (model X.prog X.w) X.A X.env X.xe
 body:c.fn=true->Body X
 top:Tp X.prog X.w X.K X.mg X.base X.A C c.B c.F c.O
section
variable {X:Cx} {C:Pr} {c:Ck}
theorem PE.imp{e:Expr}{t t':TE}(h:PE X e t)(hi:∀σ H Q,t' σ H Q->t σ H Q):PE X e t':=λpins s σ H Q I q=>h pins s σ H Q I (hi _ _ _ q)
theorem PT.imp{e:Expr}{t t':TT}(h:PT X e t)(hi:∀σ H Q,t' σ H Q->t σ H Q):PT X e t':=λpins s σ H Q I q=>h pins s σ H Q I (hi _ _ _ q)
theorem PA.imp{e:List Expr}{t t':TA}(h:PA X e t)(hi:∀σ H Q,t' σ H Q->t σ H Q):PA X e t':=λpos pins s σ H Q I q=>h pos pins s σ H Q I (hi _ _ _ q)
theorem PI.imp{tg e:Expr}{t t':TI}(h:PI X tg e t)(hi:∀σ H Q,t' σ H Q->t σ H Q):PI X tg e t':=λpins s σ H Q I q=>h pins s σ H Q I (hi _ _ _ q)
theorem PO.imp{e:Option Expr}{t t':TO}(h:PO X e t)(hi:∀σ H Q,t' σ H Q->t σ H Q):PO X e t':=λpins s σ H Q I q=>h pins s σ H Q I (hi _ _ _ q)
theorem PG.imp{e:Expr}{t t':TG}(h:PG X e t)(hi:∀v σ H Q,t' v σ H Q->t v σ H Q):PG X e t':=λpins s σ H v u Q I r q=>h pins s σ H v u Q I r (hi _ _ _ _ q)
theorem PGs.imp{e:List Expr}{t t':TGs}(h:PGs X e t)(hi:∀v σ H Q,t' v σ H Q->t v σ H Q):PGs X e t':=λpins s σ H v u Q I r q=>h pins s σ H v u Q I r (hi _ _ _ _ q)
theorem PS.imp{e:Stmt}{t t':TS}(h:PS X e t)(hi:∀D σ H,t' D σ H->t D σ H):PS X e t':=λpins s σ H D I q=>h pins s σ H D I (hi _ _ _ q)
theorem PSs.imp{e:List Stmt}{t t':TS}(h:PSs X e t)(hi:∀D σ H,t' D σ H->t D σ H):PSs X e t':=λpins s σ H D I q=>h pins s σ H D I (hi _ _ _ q)
theorem PTs.imp{e:List Expr}{t t':TT}(h:PTs X e t)(hi:∀σ H Q,t' σ H Q->t σ H Q):PTs X e t':=λpins s σ H Q I q=>h pins s σ H Q I (hi _ _ _ q)
theorem PS.or{e:Stmt}{t u:TS}(h:PS X e t)(k:PS X e u):PS X e (λD σ H=>t D σ H\/u D σ H):=λpins s σ H D I q=>q.elim (h pins s σ H D I) (k pins s σ H D I)
theorem PSs.or{e:List Stmt}{t u:TS}(h:PSs X e t)(k:PSs X e u):PSs X e (λD σ H=>t D σ H\/u D σ H):=λpins s σ H D I q=>q.elim (h pins s σ H D I) (k pins s σ H D I)
structure Xg(X:Cx)(c:Ck)(W:Value->L2.St->Hp->Prop):Prop where
 fly:∀pins σ H s s' e (E:XK),Inv X pins σ H s->CX1 X.prog X.w X.stack H s E e s'->(∀Cv H',E Cv none H'->W Cv σ H')->X.xe e s'
 hold:(c.rs&&c.fn)=true->∀pins σ H s H' s' ea Ca a0 B wr,Hold X pins σ H s H' s' ea Ca a0 B wr->W (.ref Ca) σ H'->X.xe (.ref ea) s'
 made:c.rs=true->∀pins σ H s h1 ea Ca us,Inv X pins σ H s->Heap.MadeExcOf s.heap h1 ea (.ref Ca) us->W (.ref Ca) σ H->X.xe (.ref ea) {s with heap:=h1}
theorem FnOk.ok0{K:PySem.W.Frag}{P:Program}{w:World}{mg:Str->Option Value}{base:Heap}{k:Nat}{a:Addr}{fd:FuncData}{ps:List Str}{Z:List String}{f:String}(F:FnOk P w K mg base (CX1 P w) k a fd ps (spX K C Z f)):FnOk P w K mg base CX0 k a fd ps (spM K C f):=F.to0 λ_ _ _ _ q=>.inl q
theorem dbg1{x:Str}(h:dbg x=true):(x==("__debug__":Str))=false:=by unfold dbg at h;simp only[Bool.and_eq_true,Bool.not_eq_true']at h;exact h.1
theorem dbg2{x:Str}(h:dbg x=true):(x==("__classdict__":Str))=false:=by unfold dbg at h;simp only[Bool.and_eq_true,Bool.not_eq_true']at h;exact h.2
theorem Gd.vis(g:Gd X C c){x:Str}(h:c.vis x=true):Vis X.env.scope x:=by
 unfold Ck.vis at h;simp only[Bool.or_eq_true,beq_iff_eq]at h;unfold Vis;rw[g.names];rcases h with(h|h)|h
 ·exact .inl h
 ·exact .inr (.inl h)
 ·exact .inr (.inr h)
theorem Gd.own(g:Gd X C c){x:Str}(h:c.own x=true):L2.Loc X.env.scope x/\(X.fn x=true\/X.env.scope.names.lookup x=some .local):=by
 unfold Ck.own at h;unfold L2.Loc;rw[g.names,g.fn];split at h
 ·rename_i hf;simp only[Bool.or_eq_true,beq_iff_eq]at h;exact⟨h,.inl hf⟩
 ·simp only[beq_iff_eq]at h;exact⟨.inl h,.inr h⟩
theorem Gd.glo(g:Gd X C c){x:Str}(h:c.gl x=true):Gl X x:=by
 unfold Ck.gl at h;simp only[beq_iff_eq]at h;unfold Gl Env.kindOf;rw[g.names];exact h
theorem noStar:∀{m:M} {c:Ck} {e:Expr},chkE m c e=true->∀x p,e≠ .Starred x p:=by
 intro m c e h x p z;subst z;cases m<;>first|(exact fx9 h)|(rename_i d;cases d<;>exact fx9 h)|(rename_i w _;cases w<;>exact fx9 h)
theorem Jah{e:Expr}{es:List Expr}{env:Env}(h:∀x p,e≠ .Starred x p):starEach (e::es) env=(false,eval e env)::starEach es env:=by
 cases e<;>first|rfl|exact absurd rfl (h _ _)
theorem Jdn{e:Expr}{es:List Expr}{env:Env}(h:∀x p,e≠ .Starred x p):assignEach (e::es) env=(false,assign e env)::assignEach es env:=by
 cases e<;>first|rfl|exact absurd rfl (h _ _)
theorem noStars:∀{m:M} {c:Ck} {es:List Expr} {env:Env},chkA m c es=true->(starEach es env).any (·.1)=false:=by
 intro m
 induction m with
 |nul=>intro c es env h;cases es<;>first|rfl|exact fx9 h
 |cns a b _ ihb=>
  intro c es env h;cases es with
  |nil=>exact fx9 h
  |cons e es=>
   simp only[cA_1,Bool.and_eq_true]at h;rw[Jah (noStar h.1),List.any_cons,ihb h.2];rfl
 |_=>intro c es env h;exact fx9 h
theorem Jaq(pos:Pos)(l:List (Bool×Sem Value)):(backTo pos l).any (·.1)=l.any (·.1):=by
 unfold backTo;rw[List.any_map];rfl
theorem Jeh(pos:Pos)(l:List (Bool×Sem Value))(h:l.any (·.1)=false):(backTo pos l).all (λx=> !x.1)=true:=by
 unfold backTo;rw[List.all_map];rw[List.any_eq_false]at h;rw[List.all_eq_true];intro x hx;have:=h x hx
 simpa using this
theorem plainIx:∀{m:M} {c:Ck} {e:Expr},chkE m c e=true->PlainIx e:=by
 intro m c e h o i;cases e<;>first|rfl|(exfalso;cases m<;>first|(exact fx9 h)|(rename_i d;cases d<;>exact fx9 h)|(rename_i w _;cases w<;>exact fx9 h))
theorem Jag{l:List String}{x:String}(h:l.contains x=true):x∈l:=by simpa using h
theorem marks{o:Cop}{e:Expr}(h:constIs o e=true)(p:CmpOp):behindInMarks p e=false:=by
 cases e<;>first|rfl|(cases o<;>exact fx9 h)
end
end Mi
namespace Mi
open PySem L2
structure Snd(C:Pr)(m:M):Prop where
 e:∀(X:Cx) (c:Ck) (x:Expr),Gd X C c->chkE m c x=true->PE X x (tE X.K C m)
 t:∀(X:Cx) (c:Ck) (x:Expr),Gd X C c->chkE m c x=true->PT X x (tT X.K C m)
 a:∀(X:Cx) (c:Ck) (x:List Expr),Gd X C c->chkA m c x=true->PA X x (tA X.K C m)
 bv:∀(X:Cx) (c:Ck) (w:Bool) (x:List Expr) (pos:Pos),Gd X C c->chkA m c x=true->PE X (.BoolOp (if w then .And else .Or) x pos) (tBV X.K C w m)
 bt:∀(X:Cx) (c:Ck) (w:Bool) (x:List Expr) (pos:Pos),Gd X C c->chkA m c x=true->PW X (.BoolOp (if w then .And else .Or) x pos) (tBT X.K C w m)
 o:∀(X:Cx) (c:Ck) (x:Option Expr),Gd X C c->chkO m c x=true->PO X x (tO X.K C m)
 cd:∀(X:Cx) (c:Ck) (x:List Expr),Gd X C c->chkC m c x=true->PTs X x (tC X.K C m)
 i:∀(X:Cx) (c:Ck) (tg x:Expr),Gd X C c->chkI m c x=true->itT m tg=true->PI X tg x (tI X.K C m)/\∀v,foldedSetIterable x X.env v=pure v
 g:∀(X:Cx) (c:Ck) (x:Expr),Gd X C c->chkG m c x=true->PG X x (tG X.K C m)
 gs:∀(X:Cx) (c:Ck) (x:List Expr),Gd X C c->chkGs m c x=true->PGs X x (tGs X.K C m)
 s:∀(X:Cx) (c:Ck) (x:Stmt),Gd X C c->chkS m c x=true->PS X x (tS X.K C m)
 b:∀(X:Cx) (c:Ck) (x:List Stmt),Gd X C c->chkB m c x=true->PSs X x (tB' X.K C m)
section
variable {C:Pr} {X:Cx} {c:Ck}
theorem Js5{e:Expr}{t:TE}(h:∀σ H Q,¬t σ H Q):PE X e t:=λpins s σ H Q _ q=>absurd q (h _ _ _)
theorem Jza{e:Expr}{t:TT}(h:∀σ H Q,¬t σ H Q):PT X e t:=λpins s σ H Q _ q=>absurd q (h _ _ _)
theorem Jy4{m:M}{K:PySem.W.Frag}(h:∀τ S,evE C m τ S=.bad):∀σ H Q,¬tE K C m σ H Q:=by
 rintro σ H Q ⟨ρ,S,τ,d,S',_,_,e,_⟩;rw[h]at e;cases e
theorem Jy2{m:M}{K:PySem.W.Frag}(h:∀τ S,evT C m τ S=.bad):∀σ H Q,¬tT K C m σ H Q:=by
 rintro σ H Q ⟨ρ,S,τ,d,S',_,_,e,_⟩;rw[h]at e;cases e
theorem foldset{e:Expr}{env:Env}(h:∀a b p,e≠ .Set a b p)(v:Value):foldedSetIterable e env v=pure v:=by
 cases e<;>first|rfl|exact absurd rfl (h _ _ _)
theorem noSet:∀{m:M} {c:Ck} {e:Expr},chkE m c e=true->∀a b p,e≠ .Set a b p:=by
 intro m c e h x q p z;subst z;cases m<;>first|(exact fx9 h)|(rename_i d;cases d<;>exact fx9 h)|(rename_i w _;cases w<;>exact fx9 h)
theorem Jkc{m:M}{x:Expr}(h:PE X x (tE X.K C m))(he:∀whole,isTrue x X.env whole=(do let v<-whole;standAt x.pos;holding [v] (truthy v)))
  (hv:∀τ S b S',evT C m τ S=.ok b S'->∃d,evE C m τ S=.ok d S'/\tru S' d=some b):PT X x (tT X.K C m):=by
 refine PT.imp (Jgf h he) λσ H Q hq_=>?_;obtain⟨ρ,S,τ,b,S',rs,re,e,fin⟩:=hq_;obtain⟨d,e1,e2⟩:=hv τ S b S' e;exact⟨ρ,S,τ,d,S',rs,re,e1,λρ' v H' f r q=>⟨b,Jkx r q e2,fin ρ' H' f r⟩⟩
theorem Jsc{o:Bop}{a b:M}(ha:Snd C a)(hb:Snd C b):∀(X:Cx) (c:Ck) (x:Expr),Gd X C c->chkE (.bin o a b) c x=true->PE X x (tE X.K C (.bin o a b)):=by
 intro X c x g h;cases x<;>try (exact fx9 h)
 simp only[cE_6,Bool.and_eq_true,beq_iff_eq]at h;obtain⟨⟨rfl,h1⟩,h2⟩:=h;refine PE.imp (Jwk (Jre o) (ha.e X c _ g h1) (hb.e X c _ g h2)) λσ H Q hq_=>?_;obtain⟨ρ,S,τ,d,S',rs,re,e,fin⟩:=hq_;simp only[Jqn]at e;obtain⟨x1,S1,e1,e⟩:=Res.bind_eq_ok e;obtain⟨x2,S2,e2,e⟩:=Res.bind_eq_ok e;refine⟨ρ,S,τ,x1,S1,rs,re,e1,λρ1 v1 H1 f1 r1 q1=>⟨ρ1,S1,τ,x2,S2,r1,re.fut f1,e2,λρ2 v2 H2 f2 r2 q2=>?_⟩⟩;exact⟨ρ2,S2,x1,x2,d,S',r2,q1.fut f2,q2,e,λρ3 v3 H3 f3 r3 q3=>fin ρ3 v3 H3 (f1.trans (f2.trans f3)) r3 q3⟩
theorem Jry{a:M}(ha:Snd C a):∀(X:Cx) (c:Ck) (x:Expr),Gd X C c->chkE (.neg a) c x=true->PE X x (tE X.K C (.neg a)):=by
 intro X c x g h;cases x<;>try (exact fx9 h)
 rename_i op e pos;cases op<;>try (exact fx9 h)
 simp only[cE_7]at h;refine PE.imp (Jze Jug (ha.e X c _ g h)) λσ H Q hq_=>?_;obtain⟨ρ,S,τ,d,S',rs,re,e,fin⟩:=hq_;simp only[Jv2]at e;obtain⟨x1,S1,e1,e⟩:=Res.bind_eq_ok e;refine⟨ρ,S,τ,x1,S1,rs,re,e1,λρ1 v1 H1 f1 r1 q1=>?_⟩;cases x1<;>simp only at e<;>try (cases e;done)
 cases e;exact⟨_,q1.int_inv,fin ρ1 _ H1 f1 r1 (RelD.int _)⟩
theorem Js4{a:Expr}{ta:TE}{pos:Pos}(ha:PE X a ta):PE X (.UnaryOp .Not a pos) (λσ H Q=>ta σ H λx H1=>∃k,TruV X.K x H1 k/\Q (.bl (!k)) H1):=by
 intro pins s σ H Q I h;refine PyProof.Rows.UnaryOp_ (thn (ha pins s σ H _ I h) λv s1 ⟨x,H1,I1,r1,q1⟩=>?_);obtain⟨k,hk,q⟩:=q1;refine PyProof.Rows.not_of (thn (Jqa pins s1 σ H1 x v (λb H2=>Q (.bl (!b)) H2) I1 r1 ⟨k,hk,q⟩) λb s2 ⟨H2,I2,q2⟩=>?_);exact⟨.bl (!b),H2,I2,rfl,q2⟩
theorem Jk5{a:M}(ha:Snd C a):∀(X:Cx) (c:Ck) (x:Expr),Gd X C c->chkE (.nott a) c x=true->PE X x (tE X.K C (.nott a))/\PT X x (tT X.K C (.nott a)):=by
 intro X c x g h;cases x<;>try (exact fx9 h)
 rename_i op e pos;cases op<;>try (exact fx9 h)
 simp only[cE_8]at h;constructor
 ·refine PE.imp (Js4 (ha.e X c _ g h)) λσ H Q hq_=>?_;obtain⟨ρ,S,τ,d,S',rs,re,e,fin⟩:=hq_;simp only[Jv1]at e;obtain⟨x1,S1,e1,e⟩:=Res.bind_eq_ok e;refine⟨ρ,S,τ,x1,S1,rs,re,e1,λρ1 v1 H1 f1 r1 q1=>?_⟩;split at e
  ·rename_i b hb;cases e;exact⟨b,Jkx r1 q1 hb,fin ρ1 _ H1 f1 r1 (RelD.bl _)⟩
  ·cases e
 ·refine PT.imp (Jqt (ha.t X c _ g h)) λσ H Q hq_=>?_;obtain⟨ρ,S,τ,d,S',rs,re,e,fin⟩:=hq_;simp only[Jqj]at e;obtain⟨x1,S1,e1,e⟩:=Res.bind_eq_ok e;cases e;exact⟨ρ,S,τ,x1,_,rs,re,e1,fin⟩
theorem Jle{o:Cop}{a b:M}(ha:Snd C a)(hb:Snd C b):∀(X:Cx) (c:Ck) (x:Expr),Gd X C c->chkE (.cmp o a b) c x=true->PE X x (tE X.K C (.cmp o a b))/\PT X x (tT X.K C (.cmp o a b)):=by
 intro X c x g h;cases x<;>try (exact fx9 h)
 rename_i l ops cs pos;rcases ops with _|⟨p,_|⟨p2,ops⟩⟩<;>rcases cs with _|⟨f,_|⟨f2,cs⟩⟩<;>try (exact fx9 h)
 simp only[Jyq]at h;simp only[Bool.and_eq_true,beq_iff_eq]at h;obtain⟨⟨⟨rfl,h1⟩,h2⟩,h3⟩:=h;have key:∀{ρ S τ k S' H σ} {Q:VK},RelS X.K ρ S H->RelE X.K ρ H τ σ->(evE C a τ S).bind (λx S1=>(evE C b τ S1).bind λy S2=>match cop o x y S2 with|some k=>(.ok (.bl k) S2:Res D)|none=>.bad)=.ok (.bl k) S'->
   FinB X.K ρ H S' (λH'=>Q (.bl k) H')->tOp (rC X.K o) (tE X.K C a) (tE X.K C b) σ H Q:=λ{ρ S τ k S' H σ Q} rs re e fin=>by
  obtain⟨x1,S1,e1,e⟩:=Res.bind_eq_ok e;obtain⟨x2,S2,e2,e⟩:=Res.bind_eq_ok e;refine⟨ρ,S,τ,x1,S1,rs,re,e1,λρ1 v1 H1 f1 r1 q1=>⟨ρ1,S1,τ,x2,S2,r1,re.fut f1,e2,λρ2 v2 H2 f2 r2 q2=>?_⟩⟩;split at e
  ·rename_i k' hk;cases e;exact⟨ρ2,_,x1,x2,_,r2,q1.fut f2,q2,hk,fin ρ2 H2 (f1.trans f2) r2⟩
  ·cases e
 constructor
 ·refine PE.imp (Js8 (Jfo o g.top.un) (ha.e X c _ g h1) (hb.e X c _ g h2) (marks h3 _)) λσ H Q hq_=>?_;obtain⟨ρ,S,τ,d,S',rs,re,e,fin⟩:=hq_;simp only[Jvz]at e;have hd:∃k,d=.bl k:=by
   obtain⟨x1,S1,e1,e⟩:=Res.bind_eq_ok e;obtain⟨x2,S2,e2,e⟩:=Res.bind_eq_ok e;split at e
   ·cases e;exact⟨_,rfl⟩
   ·cases e
  obtain⟨k,rfl⟩:=hd;exact key rs re e λρ' H' f r=>fin ρ' _ H' f r (RelD.bl _)
 ·refine PT.imp (Jie (Jfo o g.top.un) (ha.e X c _ g h1) (hb.e X c _ g h2) (marks h3 _)) λσ H Q hq_=>?_;obtain⟨ρ,S,τ,k,S',rs,re,e,fin⟩:=hq_;simp only[Jqi]at e;have e':(evE C a τ S).bind (λx S1=>(evE C b τ S1).bind λy S2=>match cop o x y S2 with|some k=>(.ok (.bl k) S2:Res D)|none=>.bad)=.ok (.bl k) S':=by
   obtain⟨x1,S1,e1,e⟩:=Res.bind_eq_ok e;obtain⟨x2,S2,e2,e⟩:=Res.bind_eq_ok e;rw[e1,Res.bind_ok,e2,Res.bind_ok];split at e
   ·rename_i hk;cases e;first|rfl|rw[hk]
   ·cases e
  exact key rs re e' λρ' H' f r=>⟨k,rfl,fin ρ' H' f r⟩
theorem Jiy{o o':Cop}{a b d:M}(ha:Snd C a)(hb:Snd C b)(hd:Snd C d):∀(X:Cx) (c:Ck) (x:Expr),Gd X C c->chkE (.cmp2 o o' a b d) c x=true->PE X x (tE X.K C (.cmp2 o o' a b d))/\PT X x (tT X.K C (.cmp2 o o' a b d)):=by
 intro X c x g h;cases x<;>try (exact fx9 h)
 rename_i l ops cs pos;rcases ops with _|⟨p,_|⟨p2,_|⟨p3,ops⟩⟩⟩<;>rcases cs with _|⟨f,_|⟨f2,_|⟨f3,cs⟩⟩⟩<;>try (exact fx9 h)
 simp only[J0a]at h;simp only[Bool.and_eq_true,beq_iff_eq]at h;obtain⟨⟨⟨⟨⟨⟨rfl,rfl⟩,h1⟩,h2⟩,h3⟩,h4⟩,h5⟩:=h;have hm:lastMarks [copOf o,copOf o'] [f,f2]=false:=by
  show behindInMarks (copOf o') f2=false;exact marks h5 _
 have key:∀{ρ S τ k S' H σ} {Q:VK},RelS X.K ρ S H->RelE X.K ρ H τ σ->evE C (.cmp2 o o' a b d) τ S=.ok (.bl k) S'->
   FinB X.K ρ H S' (λH'=>Q (.bl k) H')->tChain (rC X.K o) (rC X.K o') (tE X.K C a) (tE X.K C b) (tE X.K C d) σ H Q:=λ{ρ S τ k S' H σ Q} rs re e fin=>by
  simp only[Jja]at e;obtain⟨x1,S1,e1,e⟩:=Res.bind_eq_ok e;obtain⟨x2,S2,e2,e⟩:=Res.bind_eq_ok e;refine⟨ρ,S,τ,x1,S1,rs,re,e1,λρ1 v1 H1 f1 r1 q1=>⟨ρ1,S1,τ,x2,S2,r1,re.fut f1,e2,λρ2 v2 H2 f2 r2 q2=>?_⟩⟩;split at e
  ·rename_i hk;obtain⟨x3,S3,e3,e⟩:=Res.bind_eq_ok e;refine⟨ρ2,S2,x1,x2,true,r2,q1.fut f2,q2,hk,true,rfl,?_⟩;rw[if_pos rfl];refine⟨ρ2,S2,τ,x3,S3,r2,re.fut (f1.trans f2),e3,λρ3 v3 H3 f3 r3 q3=>?_⟩;split at e
   ·rename_i k' hk';cases e;exact⟨ρ3,_,x2,x3,_,r3,q2.fut f3,q3,hk',fin ρ3 H3 (f1.trans (f2.trans f3)) r3⟩
   ·cases e
  ·rename_i hk;cases e;refine⟨ρ2,_,x1,x2,false,r2,q1.fut f2,q2,hk,false,rfl,?_⟩;rw[if_neg Bool.false_ne_true];exact fin ρ2 H2 (f1.trans f2) r2
  ·cases e
 constructor
 ·refine PE.imp (Jo1 (Jfo o g.top.un) (Jfo o' g.top.un) (ha.e X c _ g h1) (hb.e X c _ g h2) (hd.e X c _ g h3) hm) λσ H Q hq_=>?_;obtain⟨ρ,S,τ,d',S',rs,re,e,fin⟩:=hq_;have hd:∃k,d'=.bl k:=by
   simp only[Jja]at e;obtain⟨x1,S1,e1,e⟩:=Res.bind_eq_ok e;obtain⟨x2,S2,e2,e⟩:=Res.bind_eq_ok e;split at e
   ·obtain⟨x3,S3,e3,e⟩:=Res.bind_eq_ok e;split at e
    ·cases e;exact⟨_,rfl⟩
    ·cases e
   ·cases e;exact⟨_,rfl⟩
   ·cases e
  obtain⟨k,rfl⟩:=hd;exact key rs re e λρ' H' f r=>fin ρ' _ H' f r (RelD.bl _)
 ·refine PT.imp (Joo (Jfo o g.top.un) (Jfo o' g.top.un) (ha.e X c _ g h1) (hb.e X c _ g h2) (hd.e X c _ g h3) hm) λσ H Q hq_=>?_;obtain⟨ρ,S,τ,k,S',rs,re,e,fin⟩:=hq_;have e':evE C (.cmp2 o o' a b d) τ S=.ok (.bl k) S':=by
   simp only[Jja];simp only[Jqh]at e;obtain⟨x1,S1,e1,e⟩:=Res.bind_eq_ok e;obtain⟨x2,S2,e2,e⟩:=Res.bind_eq_ok e;rw[e1,Res.bind_ok,e2,Res.bind_ok];split at e
   ·rename_i hk
    try rw[hk]
    obtain⟨x3,S3,e3,e⟩:=Res.bind_eq_ok e;rw[e3,Res.bind_ok];split at e
    ·rename_i hk';cases e;first|rfl|rw[hk']
    ·cases e
   ·rename_i hk;cases e;first|rfl|rw[hk]
   ·cases e
  exact key rs re e' λρ' H' f r=>⟨k,rfl,fin ρ' H' f r⟩
end
end Mi
namespace Mi
open PySem L2
section
variable {C:Pr}
theorem Jr5{t a b:M}(ht:Snd C t)(ha:Snd C a)(hb:Snd C b):∀(X:Cx) (c:Ck) (x:Expr),Gd X C c->chkE (.ife t a b) c x=true->PE X x (tE X.K C (.ife t a b)):=by
 intro X c x g h;cases x<;>try (exact fx9 h)
 simp only[Jz9,Bool.and_eq_true]at h;refine PE.imp (Joy (ht.t X c _ g h.1.1) (ha.e X c _ g h.1.2) (hb.e X c _ g h.2)) λσ H Q hq_=>?_;obtain⟨ρ,S,τ,d,S',rs,re,e,fin⟩:=hq_;simp only[Jvy]at e;obtain⟨k,S1,e1,e⟩:=Res.bind_eq_ok e;refine⟨ρ,S,τ,k,S1,rs,re,e1,λρ1 H1 f1 r1=>?_⟩;cases k with
 |true=>rw[if_pos rfl];exact⟨ρ1,S1,τ,d,S',r1,re.fut f1,e,λρ2 v2 H2 f2=>fin ρ2 v2 H2 (f1.trans f2)⟩
 |false=>rw[if_neg Bool.false_ne_true];exact⟨ρ1,S1,τ,d,S',r1,re.fut f1,e,λρ2 v2 H2 f2=>fin ρ2 v2 H2 (f1.trans f2)⟩
theorem Jrp{as:M}(ha:Snd C as):∀(X:Cx) (c:Ck) (x:Expr),Gd X C c->chkE (.tup as) c x=true->PE X x (tE X.K C (.tup as)):=by
 intro X c x g h;cases x<;>try (exact fx9 h)
 simp only[Jyp]at h;refine PE.imp (Jqz (ha.a X c _ g h)) λσ H Q hq_=>?_;obtain⟨ρ,S,τ,d,S',rs,re,e,fin⟩:=hq_;simp only[Jlv]at e;obtain⟨ds,S1,e1,e⟩:=Res.bind_eq_ok e;refine⟨ρ,S,τ,ds,S1,rs,re,e1,λρ1 vs H1 f1 r1 q1=>?_⟩;split at e
 ·rename_i hl;cases e;exact⟨by rw[<-q1.length,<-Jak];exact hl,Fin.newT (ρ:=ρ1) (λρ2 v2 H2 f2=>fin ρ2 v2 H2 (f1.trans f2)) r1 q1⟩
 ·cases e
theorem Jrz{as:M}(ha:Snd C as):∀(X:Cx) (c:Ck) (x:Expr),Gd X C c->chkE (.lst as) c x=true->PE X x (tE X.K C (.lst as)):=by
 intro X c x g h;cases x<;>try (exact fx9 h)
 simp only[Jz8]at h;refine PE.imp (Jmd (ha.a X c _ g h)) λσ H Q hq_=>?_;obtain⟨ρ,S,τ,d,S',rs,re,e,fin⟩:=hq_;simp only[Jso]at e;obtain⟨ds,S1,e1,e⟩:=Res.bind_eq_ok e;refine⟨ρ,S,τ,ds,S1,rs,re,e1,λρ1 vs H1 f1 r1 q1=>?_⟩;split at e
 ·rename_i hl;cases e;exact⟨by rw[<-q1.length,<-Jak];exact hl,Fin.newL (ρ:=ρ1) (λρ2 v2 H2 f2=>fin ρ2 v2 H2 (f1.trans f2)) r1 q1⟩
 ·cases e
theorem Jk8{a b:M}(ha:Snd C a)(hb:Snd C b):∀(X:Cx) (c:Ck) (x:Expr),Gd X C c->chkE (.idx a b) c x=true->PE X x (tE X.K C (.idx a b))/\PT X x (tT X.K C (.idx a b)):=by
 intro X c x g h;cases x<;>try (exact fx9 h)
 rename_i vx sx px;simp only[Jyo,Bool.and_eq_true]at h;have pe:PE X (.Subscript vx sx px) (tE X.K C (.idx a b)):=by
  refine PE.imp (Js6 (Jq6 (Nat.lt_of_le_of_lt (Nat.add_le_add_left (by decide:1<=64) _) g.top.un)) (ha.e X c _ g h.1) (hb.e X c _ g h.2) (plainIx h.2)) λσ H Q hq_=>?_;obtain⟨ρ,S,τ,d,S',rs,re,e,fin⟩:=hq_;simp only[Jgc]at e;obtain⟨x1,S1,e1,e⟩:=Res.bind_eq_ok e;obtain⟨x2,S2,e2,e⟩:=Res.bind_eq_ok e;refine⟨ρ,S,τ,x1,S1,rs,re,e1,λρ1 v1 H1 f1 r1 q1=>⟨ρ1,S1,τ,x2,S2,r1,re.fut f1,e2,λρ2 v2 H2 f2 r2 q2=>?_⟩⟩;split at e
  ·rename_i d' hd;cases e;exact⟨ρ2,_,x1,x2,d,r2,q1.fut f2,q2,hd,λρ3 v3 H3 f3 r3 q3=>fin ρ3 v3 H3 (f1.trans (f2.trans f3)) r3 q3⟩
  ·cases e
 refine⟨pe,Jkc pe (λ_=>rfl) λτ S b S' e=>?_⟩;simp only[Jvm]at e;obtain⟨x1,S1,e1,e⟩:=Res.bind_eq_ok e;obtain⟨x2,S2,e2,e⟩:=Res.bind_eq_ok e;split at e
 ·rename_i d hd;split at e
  ·rename_i k hk;cases e;exact⟨d,by simp only[Jgc];rw[e1,Res.bind_ok,e2,Res.bind_ok,hd],hk⟩
  ·cases e
 ·cases e
theorem Jrr{a l u:M}(ha:Snd C a)(hl:Snd C l)(hu:Snd C u):∀(X:Cx) (c:Ck) (x:Expr),Gd X C c->chkE (.sli a l u) c x=true->PE X x (tE X.K C (.sli a l u)):=by
 intro X c x g h;cases x<;>try (exact fx9 h)
 rename_i e0 sl pos;cases sl<;>try (exact fx9 h)
 rename_i lo up st p2;cases st<;>try (exact fx9 h)
 simp only[Jz7,Bool.and_eq_true]at h;refine PE.imp (Jox Ju9 (ha.e X c _ g h.1.1) (hl.o X c _ g h.1.2) (hu.o X c _ g h.2)) λσ H Q hq_=>?_;obtain⟨ρ,S,τ,d,S',rs,re,e,fin⟩:=hq_;simp only[Jsn]at e;obtain⟨x1,S1,e1,e⟩:=Res.bind_eq_ok e;obtain⟨x2,S2,e2,e⟩:=Res.bind_eq_ok e;obtain⟨x3,S3,e3,e⟩:=Res.bind_eq_ok e;refine⟨ρ,S,τ,x1,S1,rs,re,e1,λρ1 v1 H1 f1 r1 q1=>⟨ρ1,S1,τ,x2,S2,r1,re.fut f1,e2,λρ2 H2 f2 r2=>⟨ρ2,S2,τ,x3,S3,r2,re.fut (f1.trans f2),e3,λρ3 H3 f3 r3=>?_⟩⟩⟩;exact⟨ρ3,S3,x1,d,S',r3,q1.fut (f2.trans f3),e,λρ4 v4 H4 f4 r4 q4=>fin ρ4 v4 H4 (f1.trans (f2.trans (f3.trans f4))) r4 q4⟩
theorem Jiz{f:String}{as:M}(ha:Snd C as):∀(X:Cx) (c:Ck) (x:Expr),Gd X C c->chkE (.call f as) c x=true->PE X x (tE X.K C (.call f as))/\PT X x (tT X.K C (.call f as)):=by
 intro X c x g h;cases x<;>try (exact fx9 h)
 rename_i fn es kws pos;cases fn<;>try (exact fx9 h)
 rename_i y p;cases kws<;>try (exact fx9 h)
 simp only[Jyn,Bool.and_eq_true,beq_iff_eq]at h;obtain⟨⟨⟨⟨rfl,h1⟩,h2⟩,h3⟩,h4⟩:=h;obtain⟨k,a,fd,ps,hr,hm,F,hb,hk⟩:=g.top.fns f (Jag h3);have F:=FnOk.ok0 F;have pe:PE X (.Call (.Name (Str.ofString f) p) es [] pos) (tE X.K C (.call f as)):=by
  have rd:∀{t:TA},(∀σ H Q,tA X.K C as σ H Q->t σ H Q)->∀σ H Q,tE X.K C (.call f as) σ H Q->tCall (spM X.K C f) [] E0 t σ H Q:=λht σ H Q ⟨ρ,S,τ,d,S',rs,re,e,fin⟩=>by
   simp only[Jgb]at e;obtain⟨ds,S1,e1,e⟩:=Res.bind_eq_ok e;refine ht σ H _ ⟨ρ,S,τ,ds,S1,rs,re,e1,λρ1 vs H1 f1 r1 q1=>?_⟩;show spM X.K C f (vs++[]) H1 Q E0;rw[List.append_nil];exact⟨ρ1,S1,ds,d,S',r1,q1,e,λρ2 v2 H2 f2 r2 q2=>fin ρ2 v2 H2 (f1.trans f2) r2 q2⟩
  cases es with
  |nil=>
   refine PE.imp (Jo3 F hr (g.glo h1) hm hk hb .nil Jwq (dbg1 h2)) (rd λσ H Q ⟨ρ,S,τ,ds,S',rs,re,e,fin⟩=>?_);cases as<;>try (exact fx9 h4)
   simp only[Jlz]at e;cases e;exact fin ρ [] H Fut.refl rs RelDs.nil
  |cons e es=>
   cases as<;>try (exact fx9 h4)
   have h4':=h4;simp only[cA_1,Bool.and_eq_true]at h4;refine PE.imp (Js9 F hr (g.glo h1) hm hk hb .nil Jwq (ha.a X c _ g h4') (dbg1 h2) (Jah (noStar h4.1)) (by rw[Jaq];exact noStars h4.2)) (rd λσ H Q z=>z)
 refine⟨pe,Jkc pe (λ_=>rfl) λτ S b S' e=>?_⟩;simp only[Jqg]at e;obtain⟨ds,S1,e1,e⟩:=Res.bind_eq_ok e;obtain⟨d,S2,e2,e⟩:=Res.bind_eq_ok e;split at e
 ·rename_i k hk;cases e;exact⟨d,by simp only[Jgb];rw[e1,Res.bind_ok,e2],hk⟩
 ·cases e
theorem Jiw{p:Prim}{as:M}(ha:Snd C as):∀(X:Cx) (c:Ck) (x:Expr),Gd X C c->chkE (.prim p as) c x=true->PE X x (tE X.K C (.prim p as))/\PT X x (tT X.K C (.prim p as)):=by
 intro X c x g h;cases x<;>try (exact fx9 h)
 rename_i fn es kws pos;cases fn<;>try (exact fx9 h)
 rename_i y pp;cases kws<;>cases es<;>try (exact fx9 h)
 rename_i e0 es;simp only[Jym,Bool.and_eq_true,beq_iff_eq]at h;obtain⟨⟨⟨rfl,h1⟩,h2⟩,h3⟩:=h;have hm:=g.top.blt _ (Jag h2);have hs:(∀x p,e0≠ .Starred x p)/\(starEach es X.env).any (·.1)=false:=by
  cases as<;>try (exact fx9 h3)
  simp only[cA_1,Bool.and_eq_true]at h3;exact⟨noStar h3.1,noStars h3.2⟩
 have rd:∀σ H Q,tE X.K C (.prim p as) σ H Q->tCB (rP X.K p) (tA X.K C as) σ H Q:=λσ H Q ⟨ρ,S,τ,d,S',rs,re,e,fin⟩=>by
  simp only[Jib]at e;obtain⟨ds,S1,e1,e⟩:=Res.bind_eq_ok e;refine⟨ρ,S,τ,ds,S1,rs,re,e1,λρ1 vs H1 f1 r1 q1=>?_⟩;exact⟨ρ1,S1,ds,d,S',r1,q1,e,λρ2 v2 H2 f2 r2 q2=>fin ρ2 v2 H2 (f1.trans f2) r2 q2⟩
 have pe:PE X (.Call (.Name (Str.ofString (primNm p)) pp) (e0::es) [] pos) (tE X.K C (.prim p as)):=by
  have hp:=Jl7 (X:=X) p g.calm;have hb:=Jh0 p;unfold primVal at hp hb
  by_cases ht:primTy p=true
  ·rw[if_pos ht]at hp hb;exact PE.imp (Jhb hp (g.glo h1) hm hb (ha.a X c _ g h3) (Jfe p) (Jed p) (Jah hs.1) (by rw[Jaq];exact hs.2)) rd
  ·rw[if_neg ht]at hp hb;exact PE.imp (Je0 hp (g.glo h1) hm hb (ha.a X c _ g h3) (Jfe p) (Jed p) (Jah hs.1) (by rw[Jaq];exact hs.2)) rd
 refine⟨pe,Jkc pe (λ_=>rfl) λτ S b S' e=>?_⟩;simp only[Jvl]at e;obtain⟨ds,S1,e1,e⟩:=Res.bind_eq_ok e;obtain⟨d,S2,e2,e⟩:=Res.bind_eq_ok e;split at e
 ·rename_i k hk;cases e;exact⟨d,by simp only[Jib];rw[e1,Res.bind_ok,e2],hk⟩
 ·cases e
theorem Jt5:∀t∈clNames,bootBuiltins (Str.ofString t)=some (.type t)/\Str.ofString t≠"__name__"/\(Str.ofString t==("__debug__":Str))=false:=by
 intro t ht;simp only[clNames,List.mem_cons,List.not_mem_nil,or_false]at ht;rcases ht with rfl|rfl|rfl|rfl|rfl<;>exact⟨by kernel_rfl,by decide+kernel,by decide+kernel⟩
theorem Jk7{a:M}{t:String}(ha:Snd C a):∀(X:Cx) (c:Ck) (x:Expr),Gd X C c->chkE (.isi a t) c x=true->PE X x (tE X.K C (.isi a t))/\PT X x (tT X.K C (.isi a t)):=by
 intro X c x g h;cases x<;>try (exact fx9 h)
 rename_i fn es kws pos;cases fn<;>try (exact fx9 h)
 rename_i y pp;rcases es with _|⟨e0,_|⟨e1,_|⟨e2,es⟩⟩⟩<;>cases kws<;>try (exact fx9 h)
 all_goals (cases e1<;>try (exact fx9 h))
 rename_i y2 p2;simp only[Jz6,Bool.and_eq_true,beq_iff_eq]at h;obtain⟨⟨⟨⟨⟨⟨⟨rfl,rfl⟩,h1⟩,h2⟩,h3⟩,h4⟩,h5⟩,h6⟩:=h;have ht:t∈clNames:=by simpa using h5
 obtain⟨b1,b2,b3⟩:=Jt5 t ht;have py:PE X (.Name (Str.ofString t) p2) (L2.tC (.ty t)):=Jmg (g.glo h2) (g.top.blt _ (Jag h4)) b1 rfl b2 b3;have pa:PA X [e0,.Name (Str.ofString t) p2] (tCons (tE X.K C a) (tCons (L2.tC (.ty t)) tNil)):=Jbj (ha.e X c _ g h6) (Jbj py Jds) (Jah (noStar h6));have pe:PE X (.Call (.Name (Str.ofString "isinstance") pp) [e0,.Name (Str.ofString t) p2] [] pos) (tE X.K C (.isi a t)):=by
  refine PE.imp (Je0 (Jxr ht) (g.glo h1) (g.top.blt _ (Jag h3)) (by kernel_rfl) pa (by decide+kernel) (by decide+kernel) (Jah (noStar h6)) (by rw[Jaq];rfl)) λσ H Q hq_=>?_;obtain⟨ρ,S,τ,d,S',rs,re,e,fin⟩:=hq_;simp only[Jlu]at e;obtain⟨x1,S1,e1,e⟩:=Res.bind_eq_ok e;refine⟨ρ,S,τ,x1,S1,rs,re,e1,λρ1 v1 H1 f1 r1 q1=>?_⟩;split at e
  ·rename_i ty hy;cases e;exact⟨ρ1,_,x1,v1,ty,r1,rfl,q1,hy,fin ρ1 _ H1 f1 r1 (RelD.bl _)⟩
  ·cases e
 refine⟨pe,Jkc pe (λ_=>rfl) λτ S b S' e=>?_⟩;simp only[Jvk]at e;obtain⟨x1,S1,e1,e⟩:=Res.bind_eq_ok e;split at e
 ·rename_i ty hy;cases e;exact⟨_,by simp only[Jlu];rw[e1,Res.bind_ok,hy],rfl⟩
 ·cases e
theorem Jq2{X:Cx}{T id:String}{name:Str}{o e:Expr}{es:List Expr}{apos cpos:Pos}{to:TE}{t:TA}{r:V->List V->Hp->VK->Prop}{tp:V->Hp->Prop}
  (hT:∀pins s σ H x v,Inv X pins σ H s->RelV x v->tp x H->s.TypeIs v T/\∀a,v=.ref a->∃ob,s.heap.get? a=some ob/\ob.dict=none)
  (pa:PlainAttrs T)(slot:Slot T name id)(hty:typeOf (.builtin id)=pure (.type "method_descriptor"))(hm:MtR X id r)(ho:PE X o to)(ha:PA X (e::es) t)
  (hbase:attributeBase o name X.env (eval o X.env)=eval o X.env)
  (hfew:((backTo cpos (starEach (e::es) X.env)).all (λx=> !x.1)&&(backToKw cpos (keywordEach [] X.env)).all (λx=>x.1.isSome)
   &&decide ((e::es).length+([]:List Keyword).length+(if([]:List Keyword).isEmpty then 0 else 1)<30))=true)
  (hline:(apos.endLine==cpos.line)=true)(hs:starEach (e::es) X.env=(false,eval e X.env)::starEach es X.env)(hplain:(backTo cpos (starEach es X.env)).any (·.1)=false):
  PE X (.Call (.Attribute o name apos) (e::es) [] cpos) (λσ H Q=>to σ H λx H1=>tp x H1/\t σ H1 λxs H2=>r x xs H2 Q):=by
 intro pins s σ H Q I h;refine wpAny_Call_method_late hbase hfew hline rfl (thn (ho pins s σ H _ I h) λv s1 ⟨x,H1,I1,r1,ty,q1⟩=>?_);obtain⟨h1,h2⟩:=hT pins s1 σ H1 x v I1 r1 ty;refine⟨T,id,pa,slot,hty,h1,h2,?_⟩;have hA:=ha cpos pins s1 σ H1 _ I1 q1;rw[hs]at hA ⊢;refine Calls.callWith_builtin (by show(false||(backTo cpos (starEach es X.env)).any (·.1))=false;rw[hplain]<;>rfl) (Calls.evalArgs_plain ?_);exact thn hA λus s2 ⟨vs,H2,I2,r2,q2⟩=>hm pins s2 σ H2 x vs v us Q I2 r1 r2 q2
theorem Jht{as:M}{c:Ck}{e:Expr}{es:List Expr}(h:chkA as c (e::es)=true):∃a b,as=.cns a b:=by
 cases as<;>first|exact⟨_,_,rfl⟩|exact fx9 h
theorem Jj1{as:M}{c:Ck}(h:chkA as c []=true):as=.nul:=by
 cases as<;>first|rfl|exact fx9 h
theorem Jix{p:Meth}{o as:M}(ho:Snd C o)(ha:Snd C as):∀(X:Cx) (c:Ck) (x:Expr),Gd X C c->chkE (.meth p o as) c x=true->PE X x (tE X.K C (.meth p o as)):=by
 intro X c x g h;cases x<;>try (exact fx9 h)
 rename_i fn es kws pos;cases fn<;>try (exact fx9 h)
 rename_i e0 y ap;cases kws<;>try (exact fx9 h)
 simp only[Jt3,Bool.and_eq_true,beq_iff_eq,decide_eq_true_eq]at h;obtain⟨⟨⟨⟨⟨⟨rfl,h1⟩,h2⟩,h3⟩,h4⟩,h5⟩,h6⟩:=h;have hbase:∀nm,attributeBase e0 nm X.env (eval e0 X.env)=eval e0 X.env:=λnm=>by
  cases e0<;>try rfl
  rename_i f0 a0 k0 p0;cases f0<;>try rfl
  cases a0<;>try rfl
  cases k0<;>try rfl
  simp[Jfi]at h1
 have hline:(ap.endLine==pos.line)=true:=by simpa using h2
 have few:∀{e1:Expr} {es':List Expr},es=e1::es'->chkA as c (e1::es')=true->((backTo pos (starEach (e1::es') X.env)).all (λx=> !x.1)&&(backToKw pos (keywordEach [] X.env)).all (λx=>x.1.isSome)&&decide ((e1::es').length+([]:List Keyword).length+(if([]:List Keyword).isEmpty then 0 else 1)<30))=true:=λ{e1 es'} ee h5'=>by
  subst ee;rw[Jeh _ _ (noStars (env:=X.env) h5')];simp only[Bool.true_and,Bool.and_eq_true,decide_eq_true_eq];exact⟨rfl,by simp only[List.length_nil,List.isEmpty_nil,if_true];omega⟩
 have rd:(True/\True/\(p≠ .starts/\p≠ .split1/\p≠ .join1/\p≠ .split2))->∀{t:TA},(∀σ H Q,tA X.K C as σ H Q->t σ H Q)->∀σ H Q,tE X.K C (.meth p o as) σ H Q->(tE X.K C o σ H λx H1=>tyV X.K "list" x H1/\t σ H1 λxs H2=>rM X.K p x xs H2 Q):=λhp {t} ht σ H Q ⟨ρ,S,τ,d,S',rs,re,e,fin⟩=>by
  simp only[Jfa]at e;obtain⟨x1,S1,e1,e⟩:=Res.bind_eq_ok e;split at e<;>try (exact absurd e Jab)
  rename_i hrc;obtain⟨ds,S2,e2,e⟩:=Res.bind_eq_ok e;refine⟨ρ,S,τ,x1,S1,rs,re,e1,λρ1 v1 H1 f1 r1 q1=>⟨?_,ht σ H1 _ ⟨ρ1,S1,τ,ds,S2,r1,re.fut f1,e2,λρ2 vs H2 f2 r2 q2=>?_⟩⟩⟩
  ·have hl:∃l,x1=.loc l:=by
    cases p<;>first|(exact absurd rfl hp.2.2.1)|(exact absurd rfl hp.2.2.2.1)|(exact absurd rfl hp.2.2.2.2.1)|(exact absurd rfl hp.2.2.2.2.2)|(cases x1<;>first|exact⟨_,rfl⟩|exact absurd e Jab|(rcases ds with _|⟨y,_|⟨z,ds⟩⟩<;>exact absurd e Jab))
   obtain⟨l,rfl⟩:=hl;obtain⟨es,he⟩:=Option.isSome_iff_exists.mp (show(seqAt S1 l).isSome=true from hrc);obtain⟨p,xs,rfl,hl,hx,t⟩:=r1.lst q1 (Jao he);exact .inl ⟨rfl,xs,SqL.of hx⟩
  ·exact⟨ρ2,S2,x1,ds,d,S',r2,q1.fut f2,q2,e,λρ3 v3 H3 f3 r3 q3=>fin ρ3 v3 H3 (f1.trans (f2.trans f3)) r3 q3⟩
 have run:(True/\True/\(p≠ .starts/\p≠ .split1/\p≠ .join1/\p≠ .split2))->∀(slot:Slot "list" (Str.ofString (methNm p)) (methId p)) (hty:typeOf (.builtin (methId p))=pure (.type "method_descriptor")),PE X (.Call (.Attribute e0 (Str.ofString (methNm p)) ap) es [] pos) (tE X.K C (.meth p o as)):=λhp slot hty=>by
  cases es with
  |nil=>
   refine PE.imp (Jwn PySem.F.plainAttrs_list slot hty (Jff p g.top.un) (ho.e X c _ g h4) (hbase _) hline) λσ H Q z=>rd hp (t:=λ_ H Q=>Q [] H) (λσ H Q ⟨ρ,S,τ,ds,S',rs,re,e,fin⟩=>?_) σ H Q z;obtain rfl:=Jj1 h5;simp only[Jlz]at e;cases e;exact fin ρ [] H Fut.refl rs RelDs.nil
  |cons e1 es=>
   obtain⟨a0,b0,rfl⟩:=Jht h5;have h5':=h5;simp only[cA_1,Bool.and_eq_true]at h5;exact PE.imp (Jwo PySem.F.plainAttrs_list slot hty (Jff p g.top.un) (ho.e X c _ g h4) (ha.a X c _ g h5') (hbase _) (few rfl h5') hline (Jah (noStar h5.1)) (by rw[Jaq];exact noStars h5.2)) (rd hp λσ H Q z=>z)
 have txt:(p=.starts\/p=.split1\/p=.join1\/p=.split2)->∀(slot:Slot "str" (Str.ofString (methNm p)) (methId p)) (hty:typeOf (.builtin (methId p))=pure (.type "method_descriptor")),PE X (.Call (.Attribute e0 (Str.ofString (methNm p)) ap) es [] pos) (tE X.K C (.meth p o as)):=λhp slot hty=>by
  cases es with
  |nil=>
   refine Js5 λσ H Q hq_=>?_;obtain⟨ρ,S,τ,d,S',rs,re,e,fin⟩:=hq_;obtain rfl:=Jj1 h5;simp only[evE,evA]at e;obtain⟨x1,S1,e1,e⟩:=Res.bind_eq_ok e;split at e<;>try (exact absurd e Jab)
   rcases hp with rfl|rfl|rfl|rfl<;>cases x1<;>exact absurd e Jab
  |cons e1 es=>
   obtain⟨a0,b0,rfl⟩:=Jht h5;have h5':=h5;simp only[cA_1,Bool.and_eq_true]at h5;refine PE.imp (Jq2 (T:="str") (tp:=λx H=>∃z,x=.str z) (λpins s σ H x v I r ⟨z,q⟩=>?_) PySem.F.plainAttrs_str slot hty (Jff p g.top.un) (ho.e X c _ g h4) (ha.a X c _ g h5') (hbase _) (few rfl h5') hline (Jah (noStar h5.1)) (by rw[Jaq];exact noStars h5.2)) λσ H Q ⟨ρ,S,τ,d,S',rs,re,e,fin⟩=>?_
   ·subst q;obtain⟨t,rfl⟩:=r;exact⟨typeIs_str _ _ _,λ_ e=>nomatch e⟩
   ·simp only[Jfa,Jjc]at e;obtain⟨x1,S1,e1,e⟩:=Res.bind_eq_ok e;split at e<;>try (exact absurd e Jab)
    obtain⟨ds,S2,e2,e⟩:=Res.bind_eq_ok e;have hk:∃z,x1=.str z:=by
     rcases hp with rfl|rfl|rfl|rfl<;>cases x1<;>first|exact⟨_,rfl⟩|exact absurd e Jab|(rcases ds with _|⟨y,_|⟨z,ds⟩⟩<;>exact absurd e Jab)|(rcases ds with _|⟨y,_|⟨z,_|⟨z2,ds⟩⟩⟩<;>first|exact absurd e Jab|(cases y<;>exact absurd e Jab)|(cases y<;>first|exact absurd e Jab|(cases z<;>exact absurd e Jab)))
    obtain⟨z,rfl⟩:=hk;refine⟨ρ,S,τ,_,S1,rs,re,e1,λρ1 v1 H1 f1 r1 q1=>⟨⟨z,by cases q1.str_inv;rfl⟩,⟨ρ1,S1,τ,ds,S2,r1,re.fut f1,e2,λρ2 vs H2 f2 r2 q2=>?_⟩⟩⟩;exact⟨ρ2,S2,_,ds,d,S',r2,q1.fut f2,q2,e,λρ3 v3 H3 f3 r3 q3=>fin ρ3 v3 H3 (f1.trans (f2.trans f3)) r3 q3⟩
 cases p with
 |append=>exact run ⟨trivial,trivial,⟨nofun,nofun,nofun,nofun⟩⟩ PySem.F.slot_list_append PySem.F.type_list_append
 |pop0=>exact run ⟨trivial,trivial,⟨nofun,nofun,nofun,nofun⟩⟩ PySem.F.slot_list_pop PySem.F.type_list_pop
 |starts=>exact txt (.inl rfl) PySem.F.slot_str_startswith PySem.F.type_str_startswith
 |split1=>exact txt (.inr (.inl rfl)) PySem.F.slot_str_split PySem.F.type_str_split
 |join1=>exact txt (.inr (.inr (.inl rfl))) PySem.F.slot_str_join PySem.F.type_str_join
 |split2=>exact txt (.inr (.inr (.inr rfl))) PySem.F.slot_str_split PySem.F.type_str_split
theorem Jk6{p:Meth}{o as:M}(ho:Snd C o)(ha:Snd C as):∀(X:Cx) (c:Ck) (x:Expr),Gd X C c->chkE (.meth p o as) c x=true->PT X x (tT X.K C (.meth p o as)):=by
 intro X c x g h;have pe:=Jix ho ha X c x g h;cases x<;>try (exact fx9 h)
 refine Jkc pe (λ_=>rfl) λτ S b S' e=>?_;simp only[Jsj]at e;obtain⟨x1,S1,e1,e⟩:=Res.bind_eq_ok e;split at e<;>try (exact absurd e Jab)
 rename_i hr;obtain⟨ds,S2,e2,e⟩:=Res.bind_eq_ok e;obtain⟨d,S3,e3,e⟩:=Res.bind_eq_ok e;split at e
 ·rename_i k hk;cases e;exact⟨d,by simp only[Jfa];rw[e1,Res.bind_ok,if_pos hr,e2,Res.bind_ok,e3],hk⟩
 ·cases e
end
end Mi
namespace Mi
open PySem L2
section
variable {C:Pr}
theorem Jsa{d:D}:∀(X:Cx) (c:Ck) (x:Expr),Gd X C c->chkE (.cst d) c x=true->PE X x (tE X.K C (.cst d)):=by
 intro X c x g h;cases d<;>cases x<;>try (exact fx9 h)
 all_goals (rename_i k _ _;cases k<;>try (exact fx9 h))
 ·refine PE.imp Jwm λσ H Q hq_=>?_;obtain⟨ρ,S,τ,d,S',rs,re,e,fin⟩:=hq_;simp only[Jjb]at e;cases e;exact fin.now rs RelD.non
 ·simp only[cE_1,beq_iff_eq]at h;subst h;refine PE.imp Jzg λσ H Q hq_=>?_;obtain⟨ρ,S,τ,d,S',rs,re,e,fin⟩:=hq_;simp only[Jjb]at e;cases e;exact fin.now rs (RelD.bl _)
 ·simp only[cE_2,beq_iff_eq]at h;subst h;refine PE.imp Jq1 λσ H Q hq_=>?_;obtain⟨ρ,S,τ,d,S',rs,re,e,fin⟩:=hq_;simp only[Jjb]at e;cases e;exact fin.now rs (RelD.int _)
 ·simp only[cE_3,beq_iff_eq]at h;subst h;refine PE.imp Jq0 λσ H Q hq_=>?_;obtain⟨ρ,S,τ,d,S',rs,re,e,fin⟩:=hq_;simp only[Jjb]at e;cases e;exact fin.now rs (RelD.str _)
theorem Jk4{i:Nat}:∀(X:Cx) (c:Ck) (x:Expr),Gd X C c->chkE (.var i) c x=true->PE X x (tE X.K C (.var i))/\PT X x (tT X.K C (.var i)):=by
 intro X c x g h;cases x<;>try (exact fx9 h)
 rename_i y p;simp only[cE_4,Bool.and_eq_true,beq_iff_eq]at h;obtain⟨⟨h1,h2⟩,h3⟩:=h;have pe:PE X (.Name y p) (tE X.K C (.var i)):=by
  refine PE.imp (Jfd (i:=i) (by rw[g.N];exact h1) (g.vis h2) (dbg1 h3) (dbg2 h3)) λσ H Q hq_=>?_;obtain⟨ρ,S,τ,d,S',rs,re,e,fin⟩:=hq_;simp only[Jlw]at e;split at e
  ·rename_i d' hd;cases e;obtain⟨v,hv,q⟩:=re.at' i _ hd;exact⟨v,hv,fin.now rs q⟩
  ·cases e
 refine⟨pe,Jkc pe (λ_=>rfl) λτ S b S' e=>?_⟩;simp only[Jvn]at e;split at e
 ·rename_i d hd;split at e
  ·rename_i b' hb;cases e;exact⟨d,by simp only[Jlw];rw[hd],hb⟩
  ·cases e
 ·cases e
theorem Jr6{n:String}:∀(X:Cx) (c:Ck) (x:Expr),Gd X C c->chkE (.glb n) c x=true->PE X x (tE X.K C (.glb n)):=by
 intro X c x g h;cases x<;>try (exact fx9 h)
 rename_i y p;simp only[cE_5,Bool.and_eq_true,beq_iff_eq]at h;obtain⟨⟨rfl,h2⟩,h3⟩:=h;cases e0:C.glob n with
 |none=>exact Js5 (Jy4 λτ S=>by simp only[Jlt];rw[e0])
 |some d=>
  obtain⟨v,u,hm,r,hr,_⟩:=g.top.gl n d e0;refine PE.imp (Jmf (g.glo h2) hm r (dbg1 h3)) λσ H Q hq_=>?_;obtain⟨ρ,S,τ,d,S',rs,re,e,fin⟩:=hq_;simp only[Jlt]at e;rw[e0]at e;cases e;exact fin.now rs (hr ρ H)
theorem Ju7{a b:M}(ha:Snd C a)(hb:Snd C b):∀(X:Cx) (c:Ck) (w:Bool) (x:List Expr) (pos:Pos),Gd X C c->chkA (.cns a b) c x=true->PE X (.BoolOp (if w then .And else .Or) x pos) (tBV X.K C w (.cns a b)):=by
 intro X c w x pos g h;cases x with
 |nil=>exact fx9 h
 |cons e es=>
  have h0:=h;simp only[cA_1,Bool.and_eq_true]at h;cases b<;>try (exact fx9 h.2)
  ·cases es with
   |cons e1 es=>exact fx9 h.2
   |nil=>
    refine PE.imp (Jwl (ha.e X c e g h.1)) λσ H Q hq_=>?_;obtain⟨ρ,S,τ,d,S',rs,re,e,fin⟩:=hq_;simp only[Jsp]at e;exact⟨ρ,S,τ,d,S',rs,re,e,fin⟩
  ·rename_i a' b';cases es with
   |nil=>exact fx9 h.2
   |cons e1 es=>
    have hbv:=hb.bv X c w (e1::es) pos g h.2;cases w with
    |true=>
     refine PE.imp (Jwp (ha.e X c e g h.1) hbv) λσ H Q hq_=>?_;obtain⟨ρ,S,τ,d,S',rs,re,e,fin⟩:=hq_;simp only[Jlx]at e;obtain⟨x1,S1,e1,e⟩:=Res.bind_eq_ok e;refine⟨ρ,S,τ,x1,S1,rs,re,e1,λρ1 v1 H1 f1 r1 q1=>?_⟩;cases x1<;>simp only at e<;>try (cases e;done)
     rename_i k;refine⟨k,q1.bl_inv,?_⟩;cases k with
     |true=>
      rw[if_pos rfl]at e ⊢;exact⟨ρ1,S1,τ,d,S',r1,re.fut f1,e,λρ2 v2 H2 f2=>fin ρ2 v2 H2 (f1.trans f2)⟩
     |false=>
      rw[if_neg Bool.false_ne_true]at e ⊢;cases e;exact fin ρ1 _ H1 f1 r1 (RelD.bl _)
    |false=>
     refine PE.imp (Jzf (ha.e X c e g h.1) hbv) λσ H Q hq_=>?_;obtain⟨ρ,S,τ,d,S',rs,re,e,fin⟩:=hq_;simp only[Jlx]at e;obtain⟨x1,S1,e1,e⟩:=Res.bind_eq_ok e;refine⟨ρ,S,τ,x1,S1,rs,re,e1,λρ1 v1 H1 f1 r1 q1=>?_⟩;cases x1<;>simp only at e<;>try (cases e;done)
     rename_i k;refine⟨k,q1.bl_inv,?_⟩;cases k with
     |false=>
      rw[if_pos rfl]at e;rw[if_neg Bool.false_ne_true];exact⟨ρ1,S1,τ,d,S',r1,re.fut f1,e,λρ2 v2 H2 f2=>fin ρ2 v2 H2 (f1.trans f2)⟩
     |true=>
      rw[if_neg (by decide)]at e;rw[if_pos rfl];cases e;exact fin ρ1 _ H1 f1 r1 (RelD.bl _)
theorem Ju8{a b:M}(ha:Snd C a)(hb:Snd C b):∀(X:Cx) (c:Ck) (w:Bool) (x:List Expr) (pos:Pos),Gd X C c->chkA (.cns a b) c x=true->PW X (.BoolOp (if w then .And else .Or) x pos) (tBT X.K C w (.cns a b)):=by
 intro X c w x pos g h;cases x with
 |nil=>exact fx9 h
 |cons e es=>
  simp only[cA_1,Bool.and_eq_true]at h;cases b<;>try (exact fx9 h.2)
  ·cases es with
   |cons e1 es=>exact fx9 h.2
   |nil=>
    have hi:∀σ H Q,tBT X.K C w (.cns a .nul) σ H Q->tT X.K C a σ H Q:=λσ H Q ⟨ρ,S,τ,d,S',rs,re,e,fin⟩=>by
     simp only[Jsq]at e;exact⟨ρ,S,τ,d,S',rs,re,e,fin⟩
    cases w with
    |true=>exact λwh pins s σ H Q I q=>Jst (ha.t X c e g h.1) wh pins s σ H Q I (hi _ _ _ q)
    |false=>exact λwh pins s σ H Q I q=>Jwc (ha.t X c e g h.1) wh pins s σ H Q I (hi _ _ _ q)
  ·rename_i a' b';cases es with
   |nil=>exact fx9 h.2
   |cons e1 es=>
    have hbv:=hb.bt X c w (e1::es) pos g h.2;cases w with
    |true=>
     refine λwh pins s σ H Q I q=>Jwd (ha.t X c e g h.1) hbv wh pins s σ H Q I ?_;obtain⟨ρ,S,τ,d,S',rs,re,e,fin⟩:=q;simp only[Jly]at e;obtain⟨k,S1,e1,e⟩:=Res.bind_eq_ok e;refine⟨ρ,S,τ,k,S1,rs,re,e1,λρ1 H1 f1 r1=>?_⟩;cases k with
     |true=>
      rw[if_pos rfl]at e ⊢;exact⟨ρ1,S1,τ,d,S',r1,re.fut f1,e,λρ2 H2 f2=>fin ρ2 H2 (f1.trans f2)⟩
     |false=>
      rw[if_neg Bool.false_ne_true]at e ⊢;cases e;exact fin ρ1 H1 f1 r1
    |false=>
     refine λwh pins s σ H Q I q=>Jy9 (ha.t X c e g h.1) hbv wh pins s σ H Q I ?_;obtain⟨ρ,S,τ,d,S',rs,re,e,fin⟩:=q;simp only[Jly]at e;obtain⟨k,S1,e1,e⟩:=Res.bind_eq_ok e;refine⟨ρ,S,τ,k,S1,rs,re,e1,λρ1 H1 f1 r1=>?_⟩;cases k with
     |false=>
      rw[if_pos rfl]at e;rw[if_neg Bool.false_ne_true];exact⟨ρ1,S1,τ,d,S',r1,re.fut f1,e,λρ2 H2 f2=>fin ρ2 H2 (f1.trans f2)⟩
     |true=>
      rw[if_neg (by decide)]at e;rw[if_pos rfl];cases e;exact fin ρ1 H1 f1 r1
theorem Jqb{w:Bool}{as:M}(ha:Snd C as):∀(X:Cx) (c:Ck) (x:Expr),Gd X C c->chkE (.bo w as) c x=true->PE X x (tE X.K C (.bo w as))/\PT X x (tT X.K C (.bo w as)):=by
 intro X c x g h;have main:∀es pos,chkA as c es=true->PE X (.BoolOp (if w then .And else .Or) es pos) (tE X.K C (.bo w as))/\PT X (.BoolOp (if w then .And else .Or) es pos) (tT X.K C (.bo w as)):=λes pos h=>by
  refine⟨PE.imp (ha.bv X c w es pos g h) λσ H Q ⟨ρ,S,τ,d,S',rs,re,e,fin⟩=>?_,PT.imp (ha.bt X c w es pos g h).pt λσ H Q ⟨ρ,S,τ,d,S',rs,re,e,fin⟩=>?_⟩
  ·simp only[Jv0]at e;exact⟨ρ,S,τ,d,S',rs,re,e,fin⟩
  ·simp only[Jvo]at e;exact⟨ρ,S,τ,d,S',rs,re,e,fin⟩
 cases w<;>cases x<;>try (exact fx9 h)
 all_goals (rename_i op es pos;cases op<;>try (exact fx9 h))
 all_goals (simp only[cE_9,J0b]at h;exact main es pos h)
noncomputable def Its(x:Str):It:=⟨λi _=>i<x.cps.size,λi H v H'=>H'=H/\∃c,x.cps[i]? =some c/\v=.str ⟨#[c]⟩,λi _=>x.cps.size<=i⟩
theorem Jj7{P:Program}{w:World}{K:PySem.W.Frag}{tg:Expr}(it:Addr)(x:Str)(t0:Tok):Turn P w K tg (Its x) [it] it (λi h=>h.IsStrIter it "str_ascii_iterator" x t0 i)where
 mem:=by simp
 obj:=λi h st b hb=>by
  have e:b=it:=by simpa using hb
  subst e;obtain⟨o,e,c,d⟩:=st;exact⟨o,e,λv z=>by rw[d]at z;cases z⟩
 keep:=λi h h' st k=>let⟨o,ho,r⟩:=st;⟨o,k it (by simp) o ho,r⟩
 item:=by
  intro X hP hw hK hc i pins s σ H E I hf st hg;subst hP hw hK;obtain⟨f0,f1,f2,f3,f4,f5⟩:=hf it (by simp);have hg:i<x.cps.size:=hg;refine wpAny_pyNext_ascii_item st (c:=x.cps[i]) (by simp[hg]) λh' st' sb=>?_;have I1:Inv X pins σ H {s with heap:=h',toks:=s.toks+1}:=I.turned (λb o hb e=>(sb.2 b hb).trans e) f0 f1 f3 f4 f5;obtain⟨o,e,c,d⟩:=id st';exact⟨_,rfl,Jkl (s:={s with heap:=h',toks:=s.toks+1}) e c d (by decide) ⟨.str _,H,I1,⟨_,rfl⟩,⟨rfl,_,by simp[hg],rfl⟩,st',λb hb=>(hf b hb).1⟩⟩
 done:=by
  intro X hP hw hK hc i pins s σ H E I hf st hg;subst hP hw hK;obtain⟨f0,f1,f2,f3,f4,f5⟩:=hf it (by simp);have hg:x.cps.size<=i:=hg;exact wpAny_pyNext_ascii_end (I.ok.hd hc) st (by simp[hg]) λh' eb=>⟨rfl,I.turned (t':=s.toks) (λb o hb e=>eb b o hb e) f0 f1 f3 f4 f5⟩
 self:=λ_ _ _ _ _ st h=>wpAny_pyIter_striter_ascii st h
theorem Jku{P:Program}{w:World}{K:PySem.W.Frag}{tg:Expr}(it:Addr)(x:Str)(t0:Tok):Turn P w K tg (Its x) [it] it (λi h=>h.IsStrIter it "str_iterator" x t0 i)where
 mem:=by simp
 obj:=λi h st b hb=>by
  have e:b=it:=by simpa using hb
  subst e;obtain⟨o,e,c,d⟩:=st;exact⟨o,e,λv z=>by rw[d]at z;cases z⟩
 keep:=λi h h' st k=>let⟨o,ho,r⟩:=st;⟨o,k it (by simp) o ho,r⟩
 item:=by
  intro X hP hw hK hc i pins s σ H E I hf st hg;subst hP hw hK;obtain⟨f0,f1,f2,f3,f4,f5⟩:=hf it (by simp);have hg:i<x.cps.size:=hg;refine wpAny_pyNext_wide_item st (c:=x.cps[i]) (by simp[hg]) λh' st' sb=>?_;have I1:Inv X pins σ H {s with heap:=h',toks:=s.toks+1}:=I.turned (λb o hb e=>(sb.2 b hb).trans e) f0 f1 f3 f4 f5;obtain⟨o,e,c,d⟩:=id st';exact⟨_,rfl,Jkl (s:={s with heap:=h',toks:=s.toks+1}) e c d (by decide) ⟨.str _,H,I1,⟨_,rfl⟩,⟨rfl,_,by simp[hg],rfl⟩,st',λb hb=>(hf b hb).1⟩⟩
 done:=by
  intro X hP hw hK hc i pins s σ H E I hf st hg;subst hP hw hK;obtain⟨f0,f1,f2,f3,f4,f5⟩:=hf it (by simp);have hg:x.cps.size<=i:=hg;exact wpAny_pyNext_wide_end (I.ok.hd hc) st (by simp[hg]) λh' eb=>⟨rfl,I.turned (t':=s.toks) (λb o hb e=>eb b o hb e) f0 f1 f3 f4 f5⟩
 self:=λ_ _ _ _ _ st h=>wpAny_pyIter_striter_wide st h
theorem Jpm{K:PySem.W.Frag}{ρ:List Addr}{H:Hp}(x:Str):ItOk K ρ H (Its x) none (x.cps.toList.map λc=>D.str ⟨#[c]⟩)where
 go:=λρ' H' S i d f r s e=>by
  simp only[nth,List.getElem?_map,Option.map_eq_some_iff]at e;obtain⟨c,hc,rfl⟩:=e;rw[Array.getElem?_toList]at hc;refine⟨(Array.getElem?_eq_some_iff.mp hc).1,λv H2 ⟨e1,c',hc',e2⟩=>?_⟩;subst e1;rw[hc]at hc';cases hc';subst e2;exact⟨Fut.refl,r,RelD.str _⟩
 stop:=λρ' H' S f r s=>by
  show x.cps.size<=_;simp
noncomputable def iSeq(K:PySem.W.Frag)(tl:TE):TI:=λσ H R=>tl σ H λx H1=>(∃z,x=.str z/\R (Its z) H1)\/∃a,x=.ref a/\(((∃xs,SqL K H1 a xs)/\R (Itl K a) H1)\/((∃xs,SqT K H1 a xs)/\R (Itt K a) H1))
theorem Jwh{X:Cx}{tg l:Expr}{tl:TE}(hl:PE X l tl):PI X tg l (iSeq X.K tl):=by
 intro pins s σ H R I h;refine thn (hl pins s σ H _ I h) λv s1 hq_=>?_;obtain⟨x,H1,I1,r1,q1⟩:=hq_;rcases q1 with⟨z,rfl,q⟩|q1
 ·obtain⟨t,rfl⟩:=r1;have fp:∀b∈[s1.heap.objs.size],FpOk X pins H1 b:=λb hb=>by
   have e:b=s1.heap.objs.size:=by simpa using hb
   subst e;exact I1.fpOk (Nat.le_refl _) (I1.hok.fresh (Nat.le_refl _))
  cases ha:z.cps.all (·<128)
  ·refine wpAny_pyIter_wide ha ?_;exact⟨s1.heap.objs.size,[s1.heap.objs.size],_,_,H1,rfl,I1.kept (t':=s1.toks) λb o e=>Heap.get?_push_of_some _ e,Jku _ z t,⟨_,Heap.get?_push_size _ rfl,rfl,rfl⟩,fp,q⟩
  ·refine wpAny_pyIter_ascii ha ?_;exact⟨s1.heap.objs.size,[s1.heap.objs.size],_,_,H1,rfl,I1.kept (t':=s1.toks) λb o e=>Heap.get?_push_of_some _ e,Jj7 _ z t,⟨_,Heap.get?_push_size _ rfl,rfl,rfl⟩,fp,q⟩
 obtain⟨a,e,q1⟩:=q1;subst e;cases r1;rcases q1 with⟨⟨xs,hq⟩,q⟩|⟨⟨xs,hq⟩,q⟩
 ·obtain⟨its,rv,p,hz⟩:=I1.list hq;refine wpAny_pyIter_list p.isList ?_;refine⟨s1.heap.objs.size,[s1.heap.objs.size],_,_,H1,rfl,I1.kept (t':=s1.toks) λb o e=>Heap.get?_push_of_some _ e,Jdr a _,⟨_,Heap.get?_push_size _ rfl,rfl,rfl⟩,λb hb=>?_,q⟩;have e:b=s1.heap.objs.size:=by simpa using hb
  subst e;exact I1.fpOk (Nat.le_refl _) (I1.hok.fresh (Nat.le_refl _))
 ·obtain⟨its,rv,p,hz⟩:=I1.tuple hq;refine wpAny_pyIter_tuple (show s1.heap.IsTuple a its.toArray from p) ?_;refine⟨s1.heap.objs.size,[s1.heap.objs.size],_,_,H1,rfl,I1.kept (t':=s1.toks) λb o e=>Heap.get?_push_of_some _ e,Jj5 a _,⟨_,Heap.get?_push_size _ rfl,rfl,rfl⟩,λb hb=>?_,q⟩;have e:b=s1.heap.objs.size:=by simpa using hb
  subst e;exact I1.fpOk (Nat.le_refl _) (I1.hok.fresh (Nat.le_refl _))
theorem Jpn{K:PySem.W.Frag}{ρ:List Addr}{H:Hp}(lo:Int)(n:Nat):ItOk K ρ H (Itr lo n) none ((List.range n).map λ(i:Nat)=>D.int (lo+i))where
 go:=λρ' H' S i d f r s e=>by
  simp only[nth,List.getElem?_map,Option.map_eq_some_iff]at e;obtain⟨j,hj,rfl⟩:=e;obtain⟨h1,h2⟩:=List.getElem?_eq_some_iff.mp hj;simp only[List.getElem_range]at h2;subst h2;refine⟨(by simpa using h1:i<n),λx H2 ⟨e1,e2⟩=>?_⟩;subst e1;refine⟨Fut.refl,r,?_⟩;subst e2;exact RelD.int _
 stop:=λρ' H' S f r s=>by
  show n<=_;simp
theorem Jpo{K:PySem.W.Frag}{ρ:List Addr}{H:Hp}{l:Nat}{a:Addr}(hl:ρ[l]? =some a)(ds:List D):ItOk K ρ H (Itl K a) (some (l,.lst)) ds where
 go:=λρ' H' S i d f r s e=>by
  simp only[nth]at e;split at e
  ·rename_i es he;have ha:=f.get hl;obtain⟨xs,hx,q⟩:=r.ob l a _ ha (Jao he);obtain⟨v,hv,rv⟩:=q.get e;refine⟨⟨xs,v,SqL.of hx,hv⟩,λx H2 ⟨e1,e2⟩=>?_⟩;subst e1;refine⟨Fut.refl,r,?_⟩;have:=e2 xs (SqL.of hx);rw[hv]at this;cases this;exact rv
  ·cases e
 stop:=λρ' H' S f r s=>by
  simp only[sameAt]at s;split at s
  ·rename_i es he;obtain⟨xs,hx,q⟩:=r.ob l a _ (f.get hl) he;refine⟨xs,SqL.of hx,?_⟩;rw[<-q.length];simp only[beq_iff_eq]at s;omega
  ·cases s
theorem Jpp{K:PySem.W.Frag}{ρ:List Addr}{H:Hp}{l:Nat}{a:Addr}(hl:ρ[l]? =some a)(ds:List D):ItOk K ρ H (Ite K a) (some (l,.enm)) ds where
 go:=λρ' H' S i d f r s e=>by
  simp only[nth]at e;split at e
  ·rename_i es he;simp only[Option.map_eq_some_iff]at e;obtain⟨d0,e,rfl⟩:=e;have ha:=f.get hl;obtain⟨xs,hx,q⟩:=r.ob l a _ ha (Jao he);obtain⟨v,hv,rv⟩:=q.get e;refine⟨⟨xs,v,SqL.of hx,hv⟩,λx H2 ⟨p,y,hp,e1,e2,e3⟩=>?_⟩;subst e1 e2;have:=e3 xs (SqL.of hx);rw[hv]at this;cases this;refine⟨Jcz hp,r.new hp,?_⟩;simp only[RelD];exact⟨p,_,rfl,.inl (.inl Jbe),RelDs.cons (by simp only[RelD]) (RelDs.cons (rv.fut (Jcz hp)) RelDs.nil)⟩
  ·cases e
 stop:=λρ' H' S f r s=>by
  simp only[sameAt]at s;split at s
  ·rename_i es he;obtain⟨xs,hx,q⟩:=r.ob l a _ (f.get hl) he;refine⟨xs,SqL.of hx,?_⟩;rw[<-q.length];simp only[beq_iff_eq]at s;omega
  ·cases s
theorem Jtn{K:PySem.W.Frag}{ρ:List Addr}{H:Hp}{a:Addr}{xs:List V}{ds:List D}(hs:SqF K H a xs)(t:RelDs K ρ H ds xs):ItOk K ρ H (Itl K a) none ds where
 go:=λρ' H' S i d f r s e=>by
  have hs':=(f.sqF hs).sq;obtain⟨v,hv,rv⟩:=(t.fut f).get (show ds[i]? =some d from e);refine⟨⟨xs,v,hs',hv⟩,λx H2 ⟨e1,e2⟩=>?_⟩;subst e1;refine⟨Fut.refl,r,?_⟩;have:=e2 xs hs';rw[hv]at this;cases this;exact rv
 stop:=λρ' H' S f r s=>⟨xs,(f.sqF hs).sq,by rw[<-t.length];exact Nat.le_refl _⟩
theorem Jk9{a:M}(ha:Snd C a):∀(X:Cx) (c:Ck) (tg x:Expr),Gd X C c->chkE a c x=true->PI X tg x (tI X.K C (.cns a .nul)):=by
 intro X c tg x g h;refine PI.imp (Jwh (ha.e X c x g h)) λσ H R hq_=>?_;obtain⟨ρ,S,τ,gg,ds,S',rs,re,e,fin⟩:=hq_;simp only[Jql]at e;obtain⟨d,S1,e1,e⟩:=Res.bind_eq_ok e;refine⟨ρ,S,τ,d,S1,rs,re,e1,λρ1 v1 H1 f1 r1 q1=>?_⟩;split at e
 ·cases e;obtain⟨p,xs,rfl,sq,t⟩:=q1.tup_inv;refine .inr ⟨p,rfl,.inr ⟨⟨xs,sq⟩,fin ρ1 H1 _ f1 r1 ?_⟩⟩;exact{go:=(λρ' H' S i d f r s e=>by
       have hs':=f.tup _ _ sq;obtain⟨v,hv,rv⟩:=(t.fut f).get (show ds[i]? =some d from e);refine⟨⟨xs,v,hs',hv⟩,λx H2 ⟨e1,e2⟩=>?_⟩;subst e1;refine⟨Fut.refl,r,?_⟩;have:=e2 xs hs';rw[hv]at this;cases this;exact rv),stop:=λρ' H' S f r s=>⟨xs,f.tup _ _ sq,by rw[<-t.length];exact Nat.le_refl _⟩}
 ·cases e;obtain⟨p,xs,rfl,sq,t⟩:=q1.kl_inv;exact .inr ⟨p,rfl,.inl ⟨⟨xs,sq.sq⟩,fin ρ1 H1 _ f1 r1 (Jtn sq t)⟩⟩
 ·cases e;cases q1.str_inv;exact .inl ⟨_,rfl,fin ρ1 H1 _ f1 r1 (Jpm _)⟩
 ·split at e
  ·rename_i es he;cases e;obtain⟨p,xs,rfl,hl,hx,t⟩:=r1.lst q1 (Jao he);exact .inr ⟨p,rfl,.inl ⟨⟨xs,SqL.of hx⟩,fin ρ1 H1 _ f1 r1 (Jpo hl _)⟩⟩
  ·cases e
 ·cases e
theorem Jla{a:M}(ha:Snd C a):∀(X:Cx) (c:Ck) (tg x:Expr),Gd X C c->chkI (.rng a) c x=true->PI X tg x (tI X.K C (.rng a)):=by
 intro X c tg x g h;cases x<;>try (exact fx9 h)
 rename_i fn es kws pos;cases fn<;>try (exact fx9 h)
 rename_i y pp;rcases es with _|⟨e0,_|⟨e1,es⟩⟩<;>cases kws<;>try (exact fx9 h)
 simp only[cI_0,Bool.and_eq_true,beq_iff_eq]at h;obtain⟨⟨⟨rfl,h1⟩,h2⟩,h3⟩:=h;refine PI.imp (Jmc (g.glo h1) (g.top.blt _ (Jag h2)) (Jbj (ha.e X c _ g h3) Jds (Jah (noStar h3))) (Jah (noStar h3))) λσ H R hq_=>?_;obtain⟨ρ,S,τ,gg,ds,S',rs,re,e,fin⟩:=hq_;simp only[Jvw]at e;obtain⟨d,S1,e1,e⟩:=Res.bind_eq_ok e;refine⟨ρ,S,τ,d,S1,rs,re,e1,λρ1 v1 H1 f1 r1 q1=>?_⟩;split at e
 ·rename_i j;split at e
  ·rename_i hj;simp only[Bool.and_eq_true,decide_eq_true_eq]at hj;cases e;cases q1.int_inv;refine⟨j,rfl,hj.1,hj.2,fin ρ1 H1 _ f1 r1 ?_⟩;have:=Jpn (K:=X.K) (ρ:=ρ1) (H:=H1) 0 j.toNat
   simpa only[Int.zero_add]using this
  ·cases e
 ·cases e
theorem Jlb{a:M}(ha:Snd C a):∀(X:Cx) (c:Ck) (tg x:Expr),Gd X C c->chkI (.enm a) c x=true->itT (.enm a) tg=true->PI X tg x (tI X.K C (.enm a)):=by
 intro X c tg x g h ht;cases x<;>try (exact fx9 h)
 rename_i fn es kws pos;cases fn<;>try (exact fx9 h)
 rename_i y pp;rcases es with _|⟨e0,_|⟨e1,es⟩⟩<;>cases kws<;>try (exact fx9 h)
 cases tg<;>try (exact fx9 ht)
 simp only[cI_3,Bool.and_eq_true,beq_iff_eq]at h;obtain⟨⟨⟨rfl,h1⟩,h2⟩,h3⟩:=h;refine PI.imp (Js2 (g.glo h1) (g.top.blt _ (Jag h2)) (Jbj (ha.e X c _ g h3) Jds (Jah (noStar h3))) (Jah (noStar h3))) λσ H R hq_=>?_;obtain⟨ρ,S,τ,gg,ds,S',rs,re,e,fin⟩:=hq_;simp only[Jvv]at e;obtain⟨d,S1,e1,e⟩:=Res.bind_eq_ok e;refine⟨ρ,S,τ,d,S1,rs,re,e1,λρ1 v1 H1 f1 r1 q1=>?_⟩;split at e
 ·split at e
  ·rename_i es he;cases e;obtain⟨p,xs,rfl,hl,hx,t⟩:=r1.lst q1 (Jao he);exact⟨p,rfl,⟨xs,SqL.of hx⟩,fin ρ1 H1 _ f1 r1 (Jpp hl _)⟩
  ·cases e
 ·cases e
end
end Mi
namespace Mi
open PySem L2
section
variable {C:Pr}
theorem noStarG:∀{m:M} {c:Ck} {e:Expr},chkG m c e=true->∀x p,e≠ .Starred x p:=by
 intro m c e h x p z;subst z;cases m<;>exact fx9 h
theorem Jq8:∀{m:M} {c:Ck} {es:List Expr} {env:Env},chkGs m c es=true->(assignEach es env).length=es.length/\(assignEach es env).findIdx? (·.1)=none:=by
 intro m
 induction m with
 |nul=>intro c es env h;cases es<;>first|exact⟨rfl,rfl⟩|exact fx9 h
 |cns a b _ ihb=>
  intro c es env h;cases es with
  |nil=>exact fx9 h
  |cons e es=>
   simp only[Jt2,Bool.and_eq_true]at h;rw[Jdn (noStarG h.1)];obtain⟨h1,h2⟩:=ihb (env:=env) h.2;refine⟨by rw[List.length_cons,List.length_cons,h1],?_⟩;rw[List.findIdx?_cons,h2];rfl
 |_=>intro c es env h;exact fx9 h
theorem Jzu:∀{m:M} {c:Ck} {es:List Expr} {ds:List D} {τ τ':En} {S S':Store},chkGs m c es=true->evGs C m ds τ S=.ok τ' S'->ds.length=es.length:=by
 intro m
 induction m with
 |nul=>
  intro c es ds τ τ' S S' h e;cases es<;>try (exact fx9 h)
  cases ds<;>simp only[Jga]at e
  ·rfl
  ·cases e
 |cns a b _ ihb=>
  intro c es ds τ τ' S S' h e;cases es with
  |nil=>exact fx9 h
  |cons x es=>
   simp only[Jt2,Bool.and_eq_true]at h;cases ds with
   |nil=>simp only[Je9]at e;cases e
   |cons d ds=>
    simp only[Je9]at e;obtain⟨τ1,S1,e1,e⟩:=Res.bind_eq_ok e;rw[List.length_cons,List.length_cons,ihb h.2 e]
 |_=>intro c es ds τ τ' S S' h;exact fx9 h
theorem Jg0{i:Nat}:∀(X:Cx) (c:Ck) (x:Expr),Gd X C c->chkG (.tvar i) c x=true->PG X x (tG X.K C (.tvar i)):=by
 intro X c x g h;cases x<;>try (exact fx9 h)
 rename_i y p;simp only[cG_0,Bool.and_eq_true,beq_iff_eq]at h;obtain⟨h1,h2⟩:=h;obtain⟨o1,o2⟩:=g.own h2;refine PG.imp (Jfc (i:=i) g.nd (by rw[g.N];exact h1) o1 o2) λv σ H Q hq_=>?_;obtain⟨ρ,S,τ,d,τ',S',rs,re,rd,e,fin⟩:=hq_;simp only[Jg6]at e;split at e
 ·cases e;exact fin ρ _ H Fut.refl rs (re.set rd i)
 ·cases e
theorem Jlc{ts:M}(ha:Snd C ts):∀(X:Cx) (c:Ck) (x:Expr),Gd X C c->chkG (.ttup ts) c x=true->PG X x (tG X.K C (.ttup ts)):=by
 intro X c x g h;cases x<;>try (exact fx9 h)
 rename_i es k p;simp only[cG_1]at h;refine PG.imp (Jwi g.calm (ha.gs X c _ g h) (Jq8 h).1 (Jq8 h).2) λv σ H Q hq_=>?_;obtain⟨ρ,S,τ,d,τ',S',rs,re,rd,e,fin⟩:=hq_;simp only[Jqm]at e;split at e
 ·rename_i ds;obtain⟨a,xs,rfl,sq,t⟩:=rd.tup_inv;exact⟨a,xs,rfl,sq,by rw[<-t.length];exact Jzu h e,ρ,S,τ,ds,τ',S',rs,re,t,e,fin⟩
 ·cases e
theorem Jld{a b:M}(ha:Snd C a)(hb:Snd C b):∀(X:Cx) (c:Ck) (x:Expr),Gd X C c->chkG (.tsub a b) c x=true->PG X x (tG X.K C (.tsub a b)):=by
 intro X c x g h;cases x<;>try (exact fx9 h)
 rename_i o i p;simp only[cG_2,Bool.and_eq_true]at h;have nsl:∀l u t p,i≠ .Slice l u t p:=by
  intro l u t p z;subst z;have h2:=h.2;cases b<;>first|(exact fx9 h2)|(rename_i d;cases d<;>exact fx9 h2)|(rename_i w _;cases w<;>exact fx9 h2)
 refine PG.imp (Jwj (ha.e X c _ g h.1) (hb.e X c _ g h.2) (Jvc (Nat.lt_of_le_of_lt (Nat.add_le_add_left (by decide:1<=64) _) g.top.un)) (by
  intro v;cases i<;>first|rfl|exact absurd rfl (nsl _ _ _ _))) λv σ H Q ⟨ρ,S,τ,d,τ',S',rs,re,rd,e,fin⟩=>?_
 simp only[Jvx]at e;obtain⟨d1,S1,e1,e⟩:=Res.bind_eq_ok e;obtain⟨d2,S2,e2,e⟩:=Res.bind_eq_ok e;obtain⟨_,S3,e3,e⟩:=Res.bind_eq_ok e;cases e;refine⟨ρ,S,τ,d1,S1,rs,re,e1,λρ1 v1 H1 f1 r1 q1=>⟨ρ1,S1,τ,d2,S2,r1,re.fut f1,e2,λρ2 v2 H2 f2 r2 q2=>?_⟩⟩;refine⟨ρ2,S2,d1,d2,d,S',r2,q1.fut f2,q2,rd.fut (f1.trans f2),e3,λH3 f3 r3=>?_⟩;have f:=f1.trans (f2.trans f3);exact fin ρ2 σ H3 f r3 (re.fut f)
theorem Jka{a b:M}(ha:Snd C a)(hb:Snd C b):∀(X:Cx) (c:Ck) (x:List Expr),Gd X C c->chkGs (.cns a b) c x=true->PGs X x (tGs X.K C (.cns a b)):=by
 intro X c x g h;cases x with
 |nil=>exact fx9 h
 |cons e es=>
  simp only[Jt2,Bool.and_eq_true]at h;refine PGs.imp (Jov (ha.g X c _ g h.1) (hb.gs X c _ g h.2) (by rw[Jdn (noStarG h.1)];rfl)) λvs σ H Q hq_=>?_;obtain⟨ρ,S,τ,ds,τ',S',rs,re,rd,e,fin⟩:=hq_;cases ds with
  |nil=>simp only[Je9]at e;cases e
  |cons d ds=>
   simp only[Je9]at e;obtain⟨τ1,S1,e1,e⟩:=Res.bind_eq_ok e;obtain⟨v,r,rfl,q,t⟩:=rd.inv_cons;refine⟨v,r,rfl,ρ,S,τ,d,τ1,S1,rs,re,q,e1,λρ1 σ1 H1 f1 r1 q1=>?_⟩;exact⟨ρ1,S1,τ1,ds,τ',S',r1,q1,t.fut f1,e,λρ2 σ2 H2 f2=>fin ρ2 σ2 H2 (f1.trans f2)⟩
theorem Jj9:∀(X:Cx) (c:Ck) (x:List Expr),Gd X C c->chkGs .nul c x=true->PGs X x (tGs X.K C .nul):=by
 intro X c x g h;cases x with
 |cons e es=>exact fx9 h
 |nil=>
  refine PGs.imp Js3 λvs σ H Q hq_=>?_;obtain⟨ρ,S,τ,ds,τ',S',rs,re,rd,e,fin⟩:=hq_;cases ds with
  |cons d ds=>simp only[Jga]at e;cases e
  |nil=>
   simp only[Jga]at e;cases e;exact⟨rd.inv_nil,fin ρ σ H Fut.refl rs re⟩
theorem Ck.compOk{X:Cx}{c:Ck}{N:List String}{k:Nat}{keep:List Nat}{scope:Scope}(g:Gd X C c)(h:c.comp N k keep scope=true):CompOk X (N.map Str.ofString) k keep scope/\(N.map Str.ofString).Nodup:=by
 unfold Ck.comp at h;simp only[Bool.and_eq_true,List.all_eq_true,beq_iff_eq,bne_iff_ne,Bool.or_eq_true,decide_eq_true_eq]at h;obtain⟨⟨⟨⟨⟨⟨h1,h2⟩,h3⟩,h4⟩,h5⟩,h6⟩,h7⟩:=h;refine⟨⟨h1,h2,λy hy hl=>?_,λy hy hf=>?_,by rw[List.length_map];exact h5,λj i hj=>?_⟩,h6⟩
 ·rcases h3 y hy with z|z
  ·exact absurd hl z
  ·exact z
 ·rw[g.names];rcases h4 y hy with(z|z)|z
  ·exact absurd hf z
  ·exact .inl z
  ·exact .inr z
 ·have hlt:=(List.getElem?_eq_some_iff.mp hj).1;have:=h7 j (by simpa using hlt);rw[hj]at this;split at this
  ·rename_i i' x e1 e2;cases e1;simp only[Bool.and_eq_true,beq_iff_eq]at this;exact⟨x,e2,by rw[g.N];exact this.1,this.2⟩
  ·cases this
theorem Gd.innerX{X:Cx}{c:Ck}{xe:Value->Shared->Prop}{N:List String}{k:Nat}{keep:List Nat}{scope:Scope}(g:Gd X C c)(h:c.comp N k keep scope=true)(s₃:Shared)(H:Hp)(ex:List Addr)(pins:List (Addr×PySem.Obj))(po:PassesOwn (model X.prog X.w) X.A (compCx X (N.map Str.ofString) scope s₃ H ex pins xe).env xe):
  Gd (compCx X (N.map Str.ofString) scope s₃ H ex pins xe) C (c.inner N scope):=by
 obtain⟨ok,nd⟩:=Ck.compOk g h;refine⟨rfl,nd,?_,ok.kind,λx=>rfl,g.calm,po,λz=>fx9 z,g.top⟩;show(relabel scope X.env).names=relab scope.names c.names;unfold relabel relab;show scope.names.map _=scope.names.map _;refine List.map_congr_left λp hp=>?_;obtain⟨n,q⟩:=p;have e1:(X.env.scope.kind==ScopeKind.function)=true:=by rw[g.sk];rfl
 have e2:X.env.kindOf n=c.names.lookup n:=by
  show X.env.scope.names.lookup n=_;rw[g.names]
 simp only[e1,e2,Bool.and_true]
theorem Gd.inner{X:Cx}{c:Ck}{N:List String}{k:Nat}{keep:List Nat}{scope:Scope}(g:Gd X C c)(h:c.comp N k keep scope=true)(s₃:Shared)(H:Hp)(ex:List Addr)(pins:List (Addr×PySem.Obj)):
  Gd (compCx X (N.map Str.ofString) scope s₃ H ex pins) C (c.inner N scope):=g.innerX h s₃ H ex pins PassesOwn.never
noncomputable def OwnE(k:Nat)(τ0 τ:En):Prop:=τ.length=τ0.length/\∀i,k<=i->τ[i]? =τ0[i]?
theorem Jne{k:Nat}:∀{m:M},tgOwn k m=true->(∀{d:D} {τ0 τ τ':En} {S S':Store},OwnE k τ0 τ->evG C m d τ S=.ok τ' S'->OwnE k τ0 τ'/\S'=S)/\(∀{ds:List D} {τ0 τ τ':En} {S S':Store},OwnE k τ0 τ->evGs C m ds τ S=.ok τ' S'->OwnE k τ0 τ'/\S'=S):=by
 intro m
 induction m with
 |tvar i=>
  intro h;simp only[tgOwn,decide_eq_true_eq]at h;refine⟨λ{d τ0 τ τ' S S'} o e=>?_,λ{ds τ0 τ τ' S S'} o e=>?_⟩
  ·simp only[Jg6]at e;split at e
   ·cases e;refine⟨⟨by rw[List.length_set];exact o.1,λj hj=>?_⟩,rfl⟩;rw[List.getElem?_set_ne (by omega)];exact o.2 j hj
   ·cases e
  ·exact absurd e Jab
 |ttup ts ih=>
  intro h;simp only[tgOwn]at h;refine⟨λ{d τ0 τ τ' S S'} o e=>?_,λ{ds τ0 τ τ' S S'} o e=>?_⟩
  ·simp only[Jqm]at e;split at e
   ·exact(ih h).2 o e
   ·cases e
  ·exact absurd e Jab
 |nul=>
  intro h;refine⟨λ{d τ0 τ τ' S S'} o e=>?_,λ{ds τ0 τ τ' S S'} o e=>?_⟩
  ·exact absurd e Jab
  ·cases ds<;>simp only[Jga]at e
   ·cases e;exact⟨o,rfl⟩
   ·cases e
 |cns a b iha ihb=>
  intro h;simp only[tgOwn,Bool.and_eq_true]at h;refine⟨λ{d τ0 τ τ' S S'} o e=>?_,λ{ds τ0 τ τ' S S'} o e=>?_⟩
  ·exact absurd e Jab
  ·cases ds<;>simp only[Je9]at e
   ·cases e
   ·obtain⟨τ1,S1,e1,e2⟩:=Res.bind_eq_ok e;obtain⟨o1,rfl⟩:=(iha h.1).1 o e1;exact(ihb h.2).2 o1 e2
 |_=>intro h;simp[tgOwn]at h
noncomputable abbrev turnC(C:Pr)(tg cd el:M):D->En->Store->Res (Option D):=λd τ1 S2=>(evG C tg d τ1 S2).bind λτ2 S3=>(evC C cd τ2 S3).bind λb S4=>if b then(evE C el τ2 S4).bind λy S5=>.ok (some y) S5 else .ok none S4
theorem Jhg{k:Nat}{keep:List Nat}{τ:En}{i:Nat}{d:D}(h:(inEn k keep τ)[i]? =some (some d)):k<=i:=by
 unfold inEn at h
 by_cases hi:i<k
 ·rw[List.getElem?_append_left (by simpa using hi),List.getElem?_replicate,if_pos hi]at h;cases h
 ·omega
theorem Jpz{K:PySem.W.Frag}{tg cd el:M}{J:It}{ρ0:List Addr}{H0:Hp}{g:Wk}{ds:List D}{ys:List D}{S0 S':Store}{Q:List V->Hp->Prop}{k:Nat}{keep:List Nat}{τ0:En}{σ0:L2.St}(hown:tgOwn k tg=true)(it:ItOk K ρ0 H0 J g ds)
  (rs0:RelS K ρ0 S0 H0)(re0:RelE K ρ0 H0 (inEn k keep τ0) σ0)(e0:compL (turnC C tg cd el) g ds ds.length 0 (inEn k keep τ0) S0 []=.ok ys S')(fin:∀ρ H xs,Fut K ρ0 H0 ρ H->RelS K ρ S' H->RelDs K ρ H ys xs->Q xs H):
  CompW J (tG K C tg) (tC K C cd) (tE K C el) Q σ0 H0:=by
 refine⟨λi m xs σ H=>∃ρ S acc,Fut K ρ0 H0 ρ H/\RelS K ρ S H/\RelE K ρ H (inEn k keep τ0) σ/\RelDs K ρ H acc xs/\i+m=ds.length/\acc.length<=Line/\compL (turnC C tg cd el) g ds m i (inEn k keep τ0) S acc=.ok ys S',⟨ds.length,ρ0,S0,[],Fut.refl,rs0,re0,RelDs.nil,Nat.zero_add _,Nat.zero_le _,e0⟩,?_⟩;rintro i m xs σ H ⟨ρ,S,acc,f,rs,re,ra,hi,hl,e⟩;refine⟨by rw[<-ra.length,<-Jak];exact hl,?_⟩;cases m with
 |zero=>
  simp only[compL]at e;split at e
  ·rename_i hs;cases e;refine .inl ⟨?_,fin ρ H xs f rs ra⟩;have:i=ds.length:=by omega
   rw[this];exact it.stop ρ H _ f rs hs
  ·cases e
 |succ m=>
  simp only[compL]at e;split at e
  ·rename_i hs;split at e
   ·cases e
   ·rename_i d hd;obtain⟨hgo,hy⟩:=it.go ρ H S i d f rs hs hd;refine .inr ⟨hgo,λx H' hyl=>?_⟩;obtain⟨f0,rs,rd⟩:=hy x H' hyl
    replace re:=re.fut f0
    replace ra:=ra.fut f0
    replace f:=f.trans f0
    obtain⟨o,S1,e1,e⟩:=Res.bind_eq_ok e;obtain⟨τ2,S2,eG,e1⟩:=Res.bind_eq_ok e1;obtain⟨b,S3,eC,e1⟩:=Res.bind_eq_ok e1;have own:OwnE k (inEn k keep τ0) τ2:=((Jne (C:=C) hown).1 (τ0:=inEn k keep τ0) ⟨rfl,λ_ _=>rfl⟩ eG).1;have less:Less τ2 (inEn k keep τ0):=⟨own.1.symm,λj d hj=>by rw[own.2 j (Jhg hj)];exact hj⟩
    refine⟨ρ,S,_,d,τ2,S2,rs,re,rd,eG,λρ1 σ1 H1 f1 r1 q1=>⟨ρ1,S2,τ2,b,S3,r1,q1,eC,λρ2 H2 f2 r2=>?_⟩⟩;cases b with
    |true=>
     rw[if_pos rfl]at e1 ⊢;obtain⟨y,S4,eE,e1⟩:=Res.bind_eq_ok e1;cases e1;simp only at e;split at e
     ·rename_i hlt;refine⟨ρ2,S3,τ2,y,S1,r2,q1.fut f2,eE,λρ3 v3 H3 f3 r3 q3=>⟨m,Nat.lt_succ_self m,?_⟩⟩;have f13:=f1.trans (f2.trans f3);exact⟨ρ3,S1,acc++[y],f.trans f13,r3,(q1.fut (f2.trans f3)).less less,(ra.fut f13).append (RelDs.cons q3 RelDs.nil),by omega,by rw[List.length_append];exact hlt,e⟩
     ·cases e
    |false=>
     rw[if_neg Bool.false_ne_true]at e1 ⊢;cases e1;simp only at e;have f12:=f1.trans f2;exact⟨m,Nat.lt_succ_self m,ρ2,S1,acc,f.trans f12,r2,(q1.fut f2).less less,ra.fut f12,by omega,hl,e⟩
  ·cases e
theorem Jho{X:Cx}{N:List String}{k:Nat}{keep:List Nat}{tg it cd el:M}(hown:tgOwn k tg=true){σ:L2.St}{H:Hp}{Q:VK}(h:tE X.K C (.comp N k keep tg it cd el) σ H Q):tComp k keep (tI X.K C it) (tG X.K C tg) (tC X.K C cd) (tE X.K C el) σ H Q:=by
 obtain⟨ρ,S,τ,d,S',rs,re,e,fin⟩:=h;simp only[Jia]at e;obtain⟨w,S1,e1,e⟩:=Res.bind_eq_ok e;obtain⟨ys,S2,e2,e⟩:=Res.bind_eq_ok e;cases e;obtain⟨g,ds⟩:=w;refine⟨ρ,S,τ,g,ds,S1,rs,re,e1,λρ1 H1 J f1 r1 itk=>?_⟩;refine Jpz hown itk r1 ((re.fut f1).inner k keep) e2 λρ2 H2 xs f2 r2 q2=>?_;exact Fin.newL (ρ:=ρ2) (λρ3 v3 H3 f3 r3 q3=>fin ρ3 v3 H3 (f1.trans (f2.trans f3)) r3 q3) r2 q2
theorem Joc{N:List String}{k:Nat}{keep:List Nat}{tg it cd el:M}(hg:Snd C tg)(hi:Snd C it)(hc:Snd C cd)(he:Snd C el):∀(X:Cx) (c:Ck) (x:Expr),Gd X C c->chkE (.comp N k keep tg it cd el) c x=true->PE X x (tE X.K C (.comp N k keep tg it cd el)):=by
 intro X c x g h;cases x<;>try (exact fx9 h)
 rename_i elt gens scope pos;rcases gens with _|⟨⟨t,i,fs,asy⟩,_|⟨g2,gens⟩⟩<;>try (exact fx9 h)
 simp only[Jp1,Bool.and_eq_true,beq_iff_eq]at h;obtain⟨⟨⟨⟨⟨⟨⟨rfl,h1⟩,h2⟩,h3⟩,h4⟩,h5⟩,h6⟩,h7⟩:=h;obtain⟨pi,fs0⟩:=hi.i X c t i g h4 h7;refine PE.imp (Js7 (Ck.compOk g h1).1 g.calm pi (λs₃ H ex pins=>hg.g _ _ _ (g.inner h1 s₃ H ex pins) h3) (λs₃ H ex pins=>hc.cd _ _ _ (g.inner h1 s₃ H ex pins) h5) (λs₃ H ex pins=>he.e _ _ _ (g.inner h1 s₃ H ex pins) h6) fs0) λσ H Q q=>Jho h2 q
end
end Mi
namespace Mi
open PySem L2
section
variable {C:Pr}
theorem Jhd{e:Expr}{n:Nat}{env:Env}(h:isComp e=false):swapsWith e none n env=pure false:=by
 cases e<;>first|rfl|(simp[isComp]at h)
theorem Jej{e t:Expr}{n:Nat}{env:Env}(h:isComp e=false):swapsWith e (some t) n env=pure false:=by
 cases e<;>first|rfl|(simp[isComp]at h)
theorem Jfy{e:Expr}{x:Str}{p:Pos}{n:Nat}{env:Env}:swapsWith e (some (.Name x p)) n env=pure true\/swapsWith e (some (.Name x p)) n env=pure false:=by
 have h:∃b,swapsWith e (some (.Name x p)) n env=pure b:=by
  cases e<;>exact⟨_,rfl⟩
 obtain⟨b,h⟩:=h;cases b
 ·exact .inr h
 ·exact .inl h
theorem Jgv{t e:Expr}{env:Env}(h:∀a b p,t=.Tuple a b p->∀a' b' p',e≠ .Tuple a' b' p')(hl:∀a p,t≠ .List a p):swappedStores [t] e env=pure none:=by
 cases t<;>first|rfl|exact absurd rfl (hl _ _)|skip
 rename_i a b p;cases e<;>first|rfl|exact absurd rfl (h a b p rfl _ _ _)
theorem Jp7{K:PySem.W.Frag}{t e:M}{D:Ends}{σ:L2.St}{H:Hp}(h:tS K C (.asg t e) D σ H):tAsg (tE K C e) (tG K C t) D σ H:=by
 obtain⟨ρ,S,τ,fl,S',rs,re,e0,fin⟩:=h;simp only[Ji9]at e0;obtain⟨d,S1,e1,e0⟩:=Res.bind_eq_ok e0;obtain⟨τ1,S2,e2,e0⟩:=Res.bind_eq_ok e0;cases e0;exact⟨ρ,S,τ,d,S1,rs,re,e1,λρ1 v1 H1 f1 r1 q1=>⟨ρ1,S1,τ,d,τ1,S',r1,re.fut f1,q1,e2,λρ2 σ2 H2 f2=>fin ρ2 σ2 H2 (f1.trans f2)⟩⟩
theorem Jrd{e:M}{c:Ck}{elt:Expr}{gens:List Comprehension}{scope:Scope}{pos:Pos}(h:chkE e c (.ListComp elt gens scope pos)=true):∃N k keep mg mi mc me,e=.comp N k keep mg mi mc me:=by
 cases e<;>first|exact⟨_,_,_,_,_,_,_,rfl⟩|(exact fx9 h)|(rename_i d;cases d<;>exact fx9 h)|(rename_i w _;cases w<;>exact fx9 h)
theorem Jyf{e:M}{c:Ck}{elt:Expr}{gens:List Comprehension}{scope:Scope}{pos:Pos}:¬chkE e c (.SetComp elt gens scope pos)=true:=by
 intro h;cases e<;>first|(exact fx9 h)|(rename_i d;cases d<;>exact fx9 h)|(rename_i w _;cases w<;>exact fx9 h)
theorem Jyg{e:M}{c:Ck}{k elt:Expr}{gens:List Comprehension}{scope:Scope}{pos:Pos}:¬chkE e c (.DictComp k elt gens scope pos)=true:=by
 intro h;cases e<;>first|(exact fx9 h)|(rename_i d;cases d<;>exact fx9 h)|(rename_i w _;cases w<;>exact fx9 h)
theorem Jlh{t e:M}(ht:Snd C t)(he:Snd C e)(hc:∀N k keep tg it cd el,e=.comp N k keep tg it cd el->Snd C tg/\Snd C it/\Snd C cd/\Snd C el):∀(X:Cx) (c:Ck) (x:Stmt),Gd X C c->chkS (.asg t e) c x=true->PS X x (tS X.K C (.asg t e)):=by
 intro X c x g h;cases x<;>try (exact fx9 h)
 rename_i tgs v pos;rcases tgs with _|⟨tg,_|⟨t2,tgs⟩⟩<;>try (exact fx9 h)
 simp only[cS_0,Bool.and_eq_true]at h;obtain⟨⟨h1,h2⟩,h3⟩:=h;have one:(assignEach [tg] X.env).map (·.2)=[assign tg X.env]:=by rw[Jdn (noStarG h1)];rfl
 have nlist:∀a p,tg≠ .List a p:=by
  intro a p z;subst z;cases t<;>exact fx9 h1
 by_cases hn:∃y p,tg=.Name y p
 ·obtain⟨y,p,rfl⟩:=hn;rcases Jfy (e:=v) (x:=y) (p:=p) (n:=pos.line) (env:=X.env)with hs|hs
  ·
   cases v<;>first|(exact absurd hs (by intro z;cases z))|skip
   ·
    rename_i elt gens scope cpos;cases t<;>try (exact fx9 h1)
    rename_i i;obtain⟨N,k,keep,mg,mi,mc,me,rfl⟩:=Jrd h2;obtain⟨sg,si,sc,se⟩:=hc _ _ _ _ _ _ _ rfl;rcases gens with _|⟨⟨tt,ii,fs,asy⟩,_|⟨g2,gens⟩⟩<;>try (exact fx9 h2)
    simp only[Jp1,Bool.and_eq_true,beq_iff_eq]at h2;obtain⟨⟨⟨⟨⟨⟨⟨rfl,k1⟩,k2⟩,k3⟩,k4⟩,k5⟩,k6⟩,k7⟩:=h2;obtain⟨pi,fs0⟩:=si.i X c tt ii g k4 k7;simp only[cG_0,Bool.and_eq_true,beq_iff_eq]at h1;obtain⟨o1,o2⟩:=g.own h1.2;refine PS.imp (Jsw (i:=i) (wi:=tI X.K C mi) (g:=tG X.K C mg) (tc:=tC X.K C mc) (te:=tE X.K C me) g.nd (by rw[g.N];exact h1.1) o1 o2 hs (Ck.compOk g k1).1 g.calm pi (λs₃ H ex pins=>sg.g _ _ _ (g.inner k1 s₃ H ex pins) k3) (λs₃ H ex pins=>sc.cd _ _ _ (g.inner k1 s₃ H ex pins) k5) (λs₃ H ex pins=>se.e _ _ _ (g.inner k1 s₃ H ex pins) k6) fs0) λD σ H q=>?_;obtain⟨ρ,S,τ,fl,S',rs,re,e0,fin⟩:=q;refine Jho (N:=N) k2 ⟨ρ,S,τ,?_⟩;simp only[Jia,Jg6,Ji9]at e0;obtain⟨d,S1,e1,e0⟩:=Res.bind_eq_ok e0;obtain⟨τ1,S2,e2,e0⟩:=Res.bind_eq_ok e0;cases e0;refine⟨d,S1,rs,re,e1,λρ1 v1 H1 f1 r1 q1=>?_⟩;split at e2
    ·cases e2;exact fin ρ1 _ H1 f1 r1 ((re.fut f1).set q1 i)
    ·cases e2
   ·exact absurd h2 Jyf
   ·exact absurd h2 Jyg
  ·cases t<;>try (exact fx9 h1)
   rename_i i;simp only[cG_0,Bool.and_eq_true,beq_iff_eq]at h1;obtain⟨o1,o2⟩:=g.own h1.2;refine PS.imp (Jqu (i:=i) g.nd (by rw[g.N];exact h1.1) o1 (he.e X c _ g h2) hs o2) λD σ H q=>?_;obtain⟨ρ,S,τ,fl,S',rs,re,e0,fin⟩:=q;simp only[Jg6,Ji9]at e0;obtain⟨d,S1,e1,e0⟩:=Res.bind_eq_ok e0;obtain⟨τ1,S2,e2,e0⟩:=Res.bind_eq_ok e0;cases e0;refine⟨ρ,S,τ,d,S1,rs,re,e1,λρ1 v1 H1 f1 r1 q1=>?_⟩;split at e2
   ·cases e2;exact fin ρ1 _ H1 f1 r1 ((re.fut f1).set q1 i)
   ·cases e2
 ·have hv:isComp v=false:=by
   cases v<;>first|rfl|(exfalso;cases tg<;>first|(exact absurd ⟨_,_,rfl⟩ hn)|(exact fx9 h3))
  refine PS.imp (Jjf (he.e X c _ g h2) (ht.g X c _ g h1) (by show swapsWith v (some tg) _ _=_;exact Jej hv) (Jgv (λa b p z a' b' p' z'=>by subst z;subst z';simp at h3) nlist) one) λD σ H q=>Jp7 q
theorem Jr3{t a b:M}(ht:Snd C t)(ha:Snd C a)(hb:Snd C b):∀(X:Cx) (c:Ck) (x:Stmt),Gd X C c->chkS (.ifs t a b) c x=true->PS X x (tS X.K C (.ifs t a b)):=by
 intro X c x g h;cases x<;>try (exact fx9 h)
 simp only[cS_1,Bool.and_eq_true]at h;refine PS.imp (Jkd (ht.t X c _ g h.1.1) (ha.b X c _ g h.1.2) (hb.b X c _ g h.2)) λD σ H hq_=>?_;obtain⟨ρ,S,τ,fl,S',rs,re,e,fin⟩:=hq_;simp only[Jvs]at e;obtain⟨k,S1,e1,e⟩:=Res.bind_eq_ok e;refine⟨ρ,S,τ,k,S1,rs,re,e1,λρ1 H1 f1 r1=>?_⟩;have fin':FlOk X.K ρ1 H1 fl S' D:=by
  cases fl with
  |nx τ'=>exact λρ2 σ2 H2 f2=>fin ρ2 σ2 H2 (f1.trans f2)
  |rt d=>exact λρ2 σ2 H2 f2=>fin ρ2 σ2 H2 (f1.trans f2)
  |bk τ'=>exact λρ2 σ2 H2 f2=>fin ρ2 σ2 H2 (f1.trans f2)
  |ct τ'=>exact λρ2 σ2 H2 f2=>fin ρ2 σ2 H2 (f1.trans f2)
 cases k with
 |true=>exact iteT ⟨ρ1,S1,τ,fl,S',r1,re.fut f1,e,fin'⟩
 |false=>exact iteF ⟨ρ1,S1,τ,fl,S',r1,re.fut f1,e,fin'⟩
theorem FlOk.fut{K:PySem.W.Frag}{ρ ρ1:List Addr}{H H1:Hp}{fl:Fl}{S':Store}{D:Ends}(fin:FlOk K ρ H fl S' D)(f1:Fut K ρ H ρ1 H1):FlOk K ρ1 H1 fl S' D:=by
 cases fl with
 |nx τ'=>exact λρ2 σ2 H2 f2=>fin ρ2 σ2 H2 (f1.trans f2)
 |rt d=>exact λρ2 σ2 H2 f2=>fin ρ2 σ2 H2 (f1.trans f2)
 |bk τ'=>exact λρ2 σ2 H2 f2=>fin ρ2 σ2 H2 (f1.trans f2)
 |ct τ'=>exact λρ2 σ2 H2 f2=>fin ρ2 σ2 H2 (f1.trans f2)
theorem Jr7{t i b:M}(ht:Snd C t)(hi:Snd C i)(hb:Snd C b):∀(X:Cx) (c:Ck) (x:Stmt),Gd X C c->chkS (.forr t i b) c x=true->PS X x (tS X.K C (.forr t i b)):=by
 intro X c x g h;cases x<;>try (exact fx9 h)
 rename_i tg iter body els pos;cases els<;>try (exact fx9 h)
 simp only[cS_2,Bool.and_eq_true]at h;obtain⟨pi,fs0⟩:=hi.i X c tg iter g h.1.1.2 h.2;refine PS.imp (Jqv g.xe g.calm pi (ht.g X c _ g h.1.1.1) (hb.b X c _ g h.1.2) fs0) λD σ H hq_=>?_;obtain⟨ρ,S,τ,fl,S',rs,re,e,fin⟩:=hq_;simp only[Jqk]at e;obtain⟨w,S1,e1,e⟩:=Res.bind_eq_ok e;obtain⟨gg,ds⟩:=w;refine⟨ρ,S,τ,gg,ds,S1,rs,re,e1,λρ0 H0 J f0 r0 it=>?_⟩;have fin0:=fin.fut f0
 let turn:Mi.D->En->Store->Res Fl:=λd τ1 S2=>(evG C t d τ1 S2).bind λτ2 S3=>evB C b τ2 S3
 have e:forL turn gg ds ds.length 0 τ S1=.ok fl S':=e;refine⟨λi m σ H=>∃ρ S τ,Fut X.K ρ0 H0 ρ H/\RelS X.K ρ S H/\RelE X.K ρ H τ σ/\i+m=ds.length/\forL turn gg ds m i τ S=.ok fl S',⟨ds.length,ρ0,S1,τ,Fut.refl,r0,re.fut f0,Nat.zero_add _,e⟩,?_⟩;rintro i m σ H ⟨ρ,S,τ,f,rs,re,hi,e⟩;cases m with
 |zero=>
  simp only[forL]at e;split at e
  ·rename_i hs;cases e;refine .inl ⟨?_,fin0 ρ σ H f rs re⟩;have:i=ds.length:=by omega
   rw[this];exact it.stop ρ H _ f rs hs
  ·cases e
 |succ m=>
  simp only[forL]at e;split at e
  ·rename_i hs;split at e
   ·cases e
   ·rename_i d hd;obtain⟨hgo,hy⟩:=it.go ρ H S i d f rs hs hd;refine .inr ⟨hgo,λσ' H'=>∃ρ' S'' τ',Fut X.K ρ0 H0 ρ' H'/\RelS X.K ρ' S'' H'/\RelE X.K ρ' H' τ' σ'/\forL turn gg ds m (i+1) τ' S''=.ok fl S',λσ' H' ⟨ρ',S'',τ',a1,a2,a3,a4⟩=>⟨m,Nat.lt_succ_self m,ρ',S'',τ',a1,a2,a3,by omega,a4⟩,λx H' hyl=>?_⟩;obtain⟨f0,rs,rd⟩:=hy x H' hyl
    replace re:=re.fut f0
    replace f:=f.trans f0
    obtain⟨fl1,S1,e1,e⟩:=Res.bind_eq_ok e;obtain⟨τ2,S2,eG,eB⟩:=Res.bind_eq_ok e1;refine⟨ρ,S,τ,d,τ2,S2,rs,re,rd,eG,λρ1 σ1 H1 f1 r1 q1=>⟨ρ1,S2,τ2,fl1,S1,r1,q1,eB,?_⟩⟩;cases fl1 with
    |nx τ1=>exact λρ2 σ2 H2 f2 r2 q2=>⟨ρ2,S1,τ1,f.trans (f1.trans f2),r2,q2,e⟩
    |ct τ1=>exact λρ2 σ2 H2 f2 r2 q2=>⟨ρ2,S1,τ1,f.trans (f1.trans f2),r2,q2,e⟩
    |bk τ1=>
     simp only at e;cases e;exact λρ2 σ2 H2 f2 r2 q2=>fin0 ρ2 σ2 H2 (f.trans (f1.trans f2)) r2 q2
    |rt d=>
     simp only at e;cases e;exact λρ2 v2 H2 f2 r2 q2=>fin0 ρ2 v2 H2 (f.trans (f1.trans f2)) r2 q2
  ·cases e
theorem Jro{t b:M}(ht:Snd C t)(hb:Snd C b):∀(X:Cx) (c:Ck) (x:Stmt),Gd X C c->chkS (.whl t b) c x=true->PS X x (tS X.K C (.whl t b)):=by
 intro X c x g h;cases x<;>try (exact fx9 h)
 rename_i tst body els pos;cases els<;>try (exact fx9 h)
 simp only[cS_3,Bool.and_eq_true]at h;refine PS.imp (Jop g.xe (ht.t X c _ g h.1) (hb.b X c _ g h.2)) λD σ0 H0 hq_=>?_;obtain⟨ρ0,S,τ,fl,S',r0,re,e,fin0⟩:=hq_;simp only[Jvr]at e;refine⟨λm σ H=>∃ρ S τ,Fut X.K ρ0 H0 ρ H/\RelS X.K ρ S H/\RelE X.K ρ H τ σ/\whlL (evT C t) (evB C b) m τ S=.ok fl S',⟨C.W,ρ0,S,τ,Fut.refl,r0,re,e⟩,?_⟩;rintro m σ H ⟨ρ,S,τ,f,rs,re,e⟩;cases m with
 |zero=>simp only[whlL]at e;cases e
 |succ m=>
  simp only[whlL]at e;obtain⟨k,S1,e1,e⟩:=Res.bind_eq_ok e;refine⟨ρ,S,τ,k,S1,rs,re,e1,λρ1 H1 f1 r1=>?_⟩;cases k with
  |false=>
   rw[if_neg Bool.false_ne_true]at e;refine iteF ?_;cases e;exact fin0 ρ1 σ H1 (f.trans f1) r1 (re.fut f1)
  |true=>
   rw[if_pos rfl]at e;refine iteT ?_;obtain⟨fl1,S2,e2,e⟩:=Res.bind_eq_ok e;refine⟨λσ' H'=>∃ρ' S'' τ',Fut X.K ρ0 H0 ρ' H'/\RelS X.K ρ' S'' H'/\RelE X.K ρ' H' τ' σ'/\whlL (evT C t) (evB C b) m τ' S''=.ok fl S',λσ' H' ⟨ρ',S'',τ',a1,a2,a3,a4⟩=>⟨m,Nat.lt_succ_self m,ρ',S'',τ',a1,a2,a3,a4⟩,ρ1,S1,τ,fl1,S2,r1,re.fut f1,e2,?_⟩;cases fl1 with
   |nx τ1=>exact λρ2 σ2 H2 f2 r2 q2=>⟨ρ2,S2,τ1,f.trans (f1.trans f2),r2,q2,e⟩
   |ct τ1=>exact λρ2 σ2 H2 f2 r2 q2=>⟨ρ2,S2,τ1,f.trans (f1.trans f2),r2,q2,e⟩
   |bk τ1=>
    simp only at e;cases e;exact λρ2 σ2 H2 f2 r2 q2=>fin0 ρ2 σ2 H2 (f.trans (f1.trans f2)) r2 q2
   |rt d=>
    simp only at e;cases e;exact λρ2 v2 H2 f2 r2 q2=>fin0 ρ2 v2 H2 (f.trans (f1.trans f2)) r2 q2
theorem Jrw{a:M}(ha:Snd C a):∀(X:Cx) (c:Ck) (x:Stmt),Gd X C c->chkS (.ret a) c x=true->PS X x (tS X.K C (.ret a)):=by
 intro X c x g h;cases x<;>try (exact fx9 h)
 rename_i v pos;cases v<;>try (exact fx9 h)
 simp only[cS_4]at h;refine PS.imp (Jjd (ha.e X c _ g h)) λD σ H hq_=>?_;obtain⟨ρ,S,τ,fl,S',rs,re,e,fin⟩:=hq_;simp only[Jvq]at e;obtain⟨d,S1,e1,e⟩:=Res.bind_eq_ok e;cases e;exact⟨ρ,S,τ,d,_,rs,re,e1,fin⟩
theorem Jr9{a:M}(ha:Snd C a):∀(X:Cx) (c:Ck) (x:Stmt),Gd X C c->chkS (.exp a) c x=true->PS X x (tS X.K C (.exp a)):=by
 intro X c x g h;cases x<;>try (exact fx9 h)
 simp only[cS_6,Bool.and_eq_true,Bool.not_eq_true']at h;refine PS.imp (Jl5 (ha.e X c _ g h.1) (Jhd h.2)) λD σ H hq_=>?_;obtain⟨ρ,S,τ,fl,S',rs,re,e,fin⟩:=hq_;simp only[Jvp]at e;obtain⟨d,S1,e1,e⟩:=Res.bind_eq_ok e;cases e;exact⟨ρ,S,τ,d,_,rs,re,e1,λρ1 v1 H1 f1 r1 q1=>fin ρ1 σ H1 f1 r1 (re.fut f1)⟩
theorem Jlf:∀(X:Cx) (c:Ck) (x:List Stmt),Gd X C c->chkB .nul c x=true->PSs X x (tB' X.K C .nul):=by
 intro X c x g h;cases x with
 |cons s ss=>exact fx9 h
 |nil=>
  refine PSs.imp Jl4 λD σ H hq_=>?_;obtain⟨ρ,S,τ,fl,S',rs,re,e,fin⟩:=hq_;simp only[Jv5]at e;cases e;exact fin ρ _ H Fut.refl rs re
theorem Jlg{a b:M}(ha:Snd C a)(hb:Snd C b):∀(X:Cx) (c:Ck) (x:List Stmt),Gd X C c->chkB (.cns a b) c x=true->PSs X x (tB' X.K C (.cns a b)):=by
 intro X c x g h;cases x with
 |nil=>exact fx9 h
 |cons s ss=>
  simp only[cB_1,Bool.and_eq_true]at h;refine PSs.imp (Jez (ha.s X c _ g h.1) (hb.b X c _ g h.2)) λD σ H hq_=>?_;obtain⟨ρ,S,τ,fl,S',rs,re,e,fin⟩:=hq_;simp only[Jqo]at e;obtain⟨fl1,S1,e1,e⟩:=Res.bind_eq_ok e;refine⟨ρ,S,τ,fl1,S1,rs,re,e1,?_⟩;cases fl1 with
  |nx τ1=>exact λρ1 σ1 H1 f1 r1 q1=>⟨ρ1,S1,τ1,fl,S',r1,q1,e,fin.fut f1⟩
  |rt d=>simp only at e;cases e;exact fin
  |bk τ1=>simp only at e;cases e;exact fin
  |ct τ1=>simp only at e;cases e;exact fin
end
end Mi
namespace Mi
open PySem L2
section
variable {C:Pr}
theorem Job:∀(X:Cx) (c:Ck) (x:Expr),Gd X C c->chkE .dnil c x=true->PE X x (tE X.K C .dnil):=by
 intro X c x g h;cases x<;>try (exact fx9 h)
 rename_i ks vs pos;rcases ks with _|⟨k,ks⟩<;>rcases vs with _|⟨v,vs⟩<;>try (exact fx9 h)
 refine PE.imp Joz λσ H Q hq_=>?_;obtain⟨ρ,S,τ,d,S',rs,re,e,fin⟩:=hq_;simp only[Jsm]at e;cases e;intro p hp;refine fin (ρ++[p]) _ _ (Jcp hp [p]) (rs.allocO hp ⟨[],Jbe,rfl⟩) ?_;simp only[RelD];exact⟨p,rfl,by rw[<-rs.len];simp⟩
theorem Jrv:∀(X:Cx) (c:Ck) (x:Stmt),Gd X C c->chkS .rse c x=true->PS X x (tS X.K C .rse):=by
 intro X c x g h pins s σ H D I hq_;obtain⟨ρ,S,τ,fl,S',rs,re,e,fin⟩:=hq_;exact absurd e Jab
end
end Mi
namespace Mi
open PySem L2
noncomputable def tEX(K:PySem.W.Frag)(C:Pr)(W:Value->L2.St->Hp->Prop)(m:M):TE:=λσ H _=>∃ρ S τ c τ' S',RelS K ρ S H/\RelE K ρ H τ σ/\evE C m τ S=.err c τ' S'/\∀ρ' H' Cv,Fut K ρ H ρ' H'->RelS K ρ' S' H'->ClsOf K c Cv->W Cv σ H'
noncomputable def tTX(K:PySem.W.Frag)(C:Pr)(W:Value->L2.St->Hp->Prop)(m:M):TT:=λσ H _=>∃ρ S τ c τ' S',RelS K ρ S H/\RelE K ρ H τ σ/\evT C m τ S=.err c τ' S'/\∀ρ' H' Cv,Fut K ρ H ρ' H'->RelS K ρ' S' H'->ClsOf K c Cv->W Cv σ H'
noncomputable def tAX(K:PySem.W.Frag)(C:Pr)(W:Value->L2.St->Hp->Prop)(m:M):TA:=λσ H _=>∃ρ S τ c τ' S',RelS K ρ S H/\RelE K ρ H τ σ/\evA C m τ S=.err c τ' S'/\∀ρ' H' Cv,Fut K ρ H ρ' H'->RelS K ρ' S' H'->ClsOf K c Cv->W Cv σ H'
theorem PA.or{X:Cx}{e:List Expr}{t u:TA}(h:PA X e t)(k:PA X e u):PA X e (λσ H Q=>t σ H Q\/u σ H Q):=λpos pins s σ H Q I q=>q.elim (h pos pins s σ H Q I) (k pos pins s σ H Q I)
structure SndX(C:Pr)(m:M):Prop where
 s:xM m=true->∀(X:Cx) (c:Ck) (W:Value->L2.St->Hp->Prop) (x:Stmt),Gd X C c->Xg X c W->chkS m c x=true->PS X x (tSX X.K C W m)
 b:xM m=true->∀(X:Cx) (c:Ck) (W:Value->L2.St->Hp->Prop) (x:List Stmt),Gd X C c->Xg X c W->chkB m c x=true->PSs X x (tBX X.K C W m)
 e:∀(X:Cx) (c:Ck) (W:Value->L2.St->Hp->Prop) (x:Expr),Gd X C c->Xg X c W->(xE c.xz m||sim m)=true->chkE m c x=true->PE X x (tEX X.K C W m)
 t:∀(X:Cx) (c:Ck) (W:Value->L2.St->Hp->Prop) (x:Expr),Gd X C c->Xg X c W->xT c.xz m=true->chkE m c x=true->PT X x (tTX X.K C W m)
 a:∀(X:Cx) (c:Ck) (W:Value->L2.St->Hp->Prop) (x:List Expr),Gd X C c->Xg X c W->xA c.xz m=true->chkA m c x=true->PA X x (tAX X.K C W m)
theorem SndX.of{C:Pr}{m:M}(s:xM m=true->∀(X:Cx) (c:Ck) (W:Value->L2.St->Hp->Prop) (x:Stmt),Gd X C c->Xg X c W->chkS m c x=true->PS X x (tSX X.K C W m))
  (b:xM m=true->∀(X:Cx) (c:Ck) (W:Value->L2.St->Hp->Prop) (x:List Stmt),Gd X C c->Xg X c W->chkB m c x=true->PSs X x (tBX X.K C W m))(h2:∀Z,(xE Z m||sim m)=false:=by exact λ_=>rfl)(h3:∀Z,xT Z m=false:=by exact λ_=>rfl)(h4:∀Z,xA Z m=false:=by exact λ_=>rfl):SndX C m:=
 ⟨s,b,λX c W x g xg z=>fx9 ((h2 _).symm.trans z),λX c W x g xg z=>fx9 ((h3 _).symm.trans z),λX c W x g xg z=>fx9 ((h4 _).symm.trans z)⟩
theorem SndX.ofL{C:Pr}{m:M}(s:xM m=true->∀(X:Cx) (c:Ck) (W:Value->L2.St->Hp->Prop) (x:Stmt),Gd X C c->Xg X c W->chkS m c x=true->PS X x (tSX X.K C W m))
  (b:xM m=true->∀(X:Cx) (c:Ck) (W:Value->L2.St->Hp->Prop) (x:List Stmt),Gd X C c->Xg X c W->chkB m c x=true->PSs X x (tBX X.K C W m))(a:∀(X:Cx) (c:Ck) (W:Value->L2.St->Hp->Prop) (x:List Expr),Gd X C c->Xg X c W->xA c.xz m=true->chkA m c x=true->PA X x (tAX X.K C W m))(h2:∀Z,(xE Z m||sim m)=false:=by exact λ_=>rfl)(h3:∀Z,xT Z m=false:=by exact λ_=>rfl):SndX C m:=
 ⟨s,b,λX c W x g xg z=>fx9 ((h2 _).symm.trans z),λX c W x g xg z=>fx9 ((h3 _).symm.trans z),a⟩
theorem SndX.no{C:Pr}{m:M}(h:xM m=false)(h2:∀Z,(xE Z m||sim m)=false:=by exact λ_=>rfl)(h3:∀Z,xT Z m=false:=by exact λ_=>rfl)(h4:∀Z,xA Z m=false:=by exact λ_=>rfl):SndX C m:=.of (λz=>fx9 (h.symm.trans z)) (λz=>fx9 (h.symm.trans z)) h2 h3 h4
section
variable {C:Pr}
theorem Jur:SndX C .nul:=by
 refine .ofL (λ_ X c W x g xg h=>fx9 h) (λ_ X c W x g xg h=>λpins s σ H D I q=>?_) (λX c W x g xg _ h=>λpos pins s σ H Q I q=>by obtain⟨ρ,S,τ,cl,τx,S',rs,re,e,fin⟩:=q;cases e);obtain⟨ρ,S,τ,cl,τx,S',rs,re,e,fin⟩:=q;cases e
theorem PE.or{X:Cx}{e:Expr}{t u:TE}(h:PE X e t)(k:PE X e u):PE X e (λσ H Q=>t σ H Q\/u σ H Q):=λpins s σ H Q I q=>q.elim (h pins s σ H Q I) (k pins s σ H Q I)
theorem Jyr{a b:M}(ha:Snd C a)(hb:Snd C b)(hax:SndX C a)(hbx:SndX C b):∀(X:Cx) (c:Ck) (W:Value->L2.St->Hp->Prop) (x:List Expr),Gd X C c->Xg X c W->xA c.xz (.cns a b)=true->chkA (.cns a b) c x=true->PA X x (tAX X.K C W (.cns a b)):=λX c W x g xg hs h=>by
 obtain⟨s1,s2⟩:=Bool.and_eq_true_iff.mp (show((xE c.xz a||sim a)&&xA c.xz b)=true from hs);cases x with
 |nil=>exact fx9 h
 |cons e0 es=>
  simp only[cA_1,Bool.and_eq_true]at h;refine PA.imp (Jbj (PE.or (ha.e X c _ g h.1) (hax.e X c W _ g xg s1 h.1)) (PA.or (hb.a X c _ g h.2) (hbx.a X c W _ g xg s2 h.2)) (Jah (noStar h.1))) λσ H Q hq_=>?_;obtain⟨ρ,S,τ,cl,τ',S',rs,re,e,fin⟩:=hq_;simp only[Jjc]at e;rcases Res.bind_eq_err e with e1|⟨x1,S1,e1,e⟩
  ·exact .inr ⟨ρ,S,τ,cl,τ',S',rs,re,e1,fin⟩
  ·rcases Res.bind_eq_err e with e2|⟨xs,S2,e2,e⟩
   ·exact .inl ⟨ρ,S,τ,x1,S1,rs,re,e1,λρ1 v1 H1 f1 r1 q1=>.inr ⟨ρ1,S1,τ,cl,τ',S',r1,re.fut f1,e2,λρ2 H2 Cv f2=>fin ρ2 H2 Cv (f1.trans f2)⟩⟩
   ·cases e
theorem Ju2{a b:M}(ha:Snd C a)(hb:Snd C b)(hax:SndX C a)(hbx:SndX C b):SndX C (.cns a b):=by
 refine .ofL (λ_ X c W x g xg h=>fx9 h) (λhx X c W x g xg h=>?_) (Jyr ha hb hax hbx);obtain⟨hxa,hxb⟩:=Bool.and_eq_true_iff.mp (show(xM a&&xM b)=true from hx);cases x with
 |nil=>exact fx9 h
 |cons s ss=>
  simp only[cB_1,Bool.and_eq_true]at h;refine PSs.imp (Jez (PS.or (ha.s X c _ g h.1) (hax.s hxa X c W _ g xg h.1)) (hbx.b hxb X c W _ g xg h.2)) λD σ H hq_=>?_;obtain⟨ρ,S,τ,cl,τx,S',rs,re,e,fin⟩:=hq_;simp only[Jqo]at e;rcases Res.bind_eq_err e with e1|⟨fl1,S1,e1,e⟩
  ·exact .inr ⟨ρ,S,τ,cl,τx,S',rs,re,e1,fin⟩
  ·refine .inl ⟨ρ,S,τ,fl1,S1,rs,re,e1,?_⟩;cases fl1 with
   |nx τ1=>exact λρ1 σ1 H1 f1 r1 q1=>⟨ρ1,S1,τ1,cl,τx,S',r1,q1,e,λρ2 σ2 H2 Cv f2=>fin ρ2 σ2 H2 Cv (f1.trans f2)⟩
   |rt d=>simp only at e;cases e
   |bk τ1=>simp only at e;cases e
   |ct τ1=>simp only at e;cases e
theorem Jr2{t a b:M}(ht:Snd C t)(ha:Snd C a)(hb:Snd C b):∀(X:Cx) (c:Ck) (x:Stmt),Gd X C c->chkS (.ifx t a b) c x=true->PS X x (tS X.K C (.ifx t a b)):=by
 intro X c x g h;cases x<;>try (exact fx9 h)
 simp only[Jyl,Bool.and_eq_true]at h;refine PS.imp (Jkd (ht.t X c _ g h.1.1) (ha.b X c _ g h.1.2) (hb.b X c _ g h.2)) λD σ H hq_=>?_;obtain⟨ρ,S,τ,fl,S',rs,re,e,fin⟩:=hq_;simp only[Jls]at e;obtain⟨k,S1,e1,e⟩:=Res.bind_eq_ok e;refine⟨ρ,S,τ,k,S1,rs,re,Res.kl_eq_ok e1,λρ1 H1 f1 r1=>?_⟩;cases k with
 |true=>exact iteT ⟨ρ1,S1,τ,fl,S',r1,re.fut f1,e,fin.fut f1⟩
 |false=>exact iteF ⟨ρ1,S1,τ,fl,S',r1,re.fut f1,e,fin.fut f1⟩
theorem Juv{t a b:M}(ht:Snd C t)(hax:SndX C a)(hbx:SndX C b):SndX C (.ifx t a b):=by
 refine .of (λhx X c W x g xg h=>?_) (λ_ X c W x g xg h=>fx9 h);obtain⟨hxa,hxb⟩:=Bool.and_eq_true_iff.mp (show(xM a&&xM b)=true from hx);cases x<;>try (exact fx9 h)
 simp only[Jyl,Bool.and_eq_true]at h;refine PS.imp (Jkd (ht.t X c _ g h.1.1) (hax.b hxa X c W _ g xg h.1.2) (hbx.b hxb X c W _ g xg h.2)) λD σ H hq_=>?_;obtain⟨ρ,S,τ,cl,τx,S',rs,re,e,fin⟩:=hq_;simp only[Jls]at e;rcases Res.bind_eq_err e with e1|⟨k,S1,e1,e⟩
 ·exact absurd e1 Res.kl_ne
 refine⟨ρ,S,τ,k,S1,rs,re,Res.kl_eq_ok e1,λρ1 H1 f1 r1=>?_⟩;cases k with
 |true=>exact iteT ⟨ρ1,S1,τ,cl,τx,S',r1,re.fut f1,e,λρ2 σ2 H2 Cv f2=>fin ρ2 σ2 H2 Cv (f1.trans f2)⟩
 |false=>exact iteF ⟨ρ1,S1,τ,cl,τx,S',r1,re.fut f1,e,λρ2 σ2 H2 Cv f2=>fin ρ2 σ2 H2 Cv (f1.trans f2)⟩
theorem Jrt{a:M}(ha:Snd C a):∀(X:Cx) (c:Ck) (x:Stmt),Gd X C c->chkS (.rtk a) c x=true->PS X x (tS X.K C (.rtk a)):=by
 intro X c x g h;cases x<;>try (exact fx9 h)
 rename_i v pos;cases v<;>try (exact fx9 h)
 simp only[Jz3]at h;refine PS.imp (Jjd (ha.e X c _ g h)) λD σ H hq_=>?_;obtain⟨ρ,S,τ,fl,S',rs,re,e,fin⟩:=hq_;simp only[Jlr]at e;obtain⟨d,S1,e1,e⟩:=Res.bind_eq_ok e;cases e;exact⟨ρ,S,τ,d,_,rs,re,Res.kl_eq_ok e1,fin⟩
theorem Jup{a:M}:SndX C (.rtk a):=by
 refine .of (λhx X c W x g xg h=>λpins s σ H D I q=>?_) (λ_ X c W x g xg h=>fx9 h);obtain⟨ρ,S,τ,cl,τx,S',rs,re,e,fin⟩:=q;simp only[Jlr]at e;rcases Res.bind_eq_err e with e1|⟨k,S1,e1,e⟩
 ·exact absurd e1 Res.kl_ne
 ·cases e
theorem Jru{cl:String}:∀(X:Cx) (c:Ck) (x:Stmt),Gd X C c->chkS (.rsx cl) c x=true->PS X x (tS X.K C (.rsx cl)):=by
 intro X c x g h pins s σ H D I q;obtain⟨ρ,S,τ,fl,S',rs,re,e,fin⟩:=q;cases e
theorem Juq{cl:String}:SndX C (.rsx cl):=by
 refine .of (λhx X c W x g xg h=>?_) (λ_ X c W x g xg h=>fx9 h);rw[Jz4]at h;split at h<;>try (exact fx9 h)
 rename_i q hq;obtain rfl:=Jvg hq;obtain⟨x,np,y,jj,cp,cpos,pos⟩:=q;simp only[Bool.and_eq_true,beq_iff_eq]at h;obtain⟨⟨⟨⟨⟨rfl,h1⟩,h2⟩,h3⟩,h5⟩,h4⟩:=h;obtain⟨Ca,hn,hm,hq⟩:=g.top.rss cl (Jag h4);refine PS.imp (Joq (g.glo h1) hm hq g.calm (dbg1 h2)) λD σ H hq_=>?_;obtain⟨ρ,S,τ,cl',τx,S',rs,re,e,fin⟩:=hq_;simp only[Jsl]at e;cases e;exact λpins s h1' ea us I me=>xg.made h3 pins σ H s h1' ea Ca us I me (fin ρ σ H (.ref Ca) Fut.refl rs re hn)
theorem Jvf{X:Cx}{CX:CXT}{E:XK}{k:Nat}{f:Addr}{fd:FuncData}{ps:List Str}{sp:Sp}{pins:List (Addr×PySem.Obj)}{σ:L2.St}{H:Hp}{s:Shared}{Q:VK}{us:List Value}{vs:List V}(F:FnOk X.prog X.w X.K X.mg X.base CX k f fd ps sp)(hr:Room k X.A)(hb:Binds X.K fd ps [])
  (hx:∀e s',CX X.stack H s E e s'->X.xe e s')(I:Inv X pins σ H s)(r:Vals vs us)(h:sp vs H Q E):wpAny (model X.prog X.w) X.A (call (.ref f) us) (EP X pins σ Q) X.xe s:=by
 have hl:(us++[]).length=ps.length:=by rw[List.append_nil,<-r.length];exact F.len _ _ _ _ h
 have hb':=hb s us I.kIn hl;rw[List.append_nil]at hb';refine wpAny_call (codeAny_mono (F.run X.A X.stack s H ⟨us,[]⟩ us vs Q E hr I.env0 hb' r h) λr s' hq=>?_);cases r with
 |error e=>exact hx e s' hq
 |ok fl=>
  cases fl with
  |ret u=>exact I.after hq
  |next=>exact False.elim hq
  |brk=>exact False.elim hq
  |cont=>exact False.elim hq
theorem Jo2{X:Cx}{CX:CXT}{E:L2.St->XK}{k:Nat}{f:Addr}{fd:FuncData}{ps:List Str}{sp:Sp}{x:Str}{p pos:Pos}{e:Expr}{es:List Expr}{t:TA}(F:FnOk X.prog X.w X.K X.mg X.base CX k f fd ps sp)(hr:Room k X.A)(hg:Gl X x)(hm:X.mg x=some (.ref f))(hk:PySem.W.keepIn X.K (.ref f)=true)(hb:Binds X.K fd ps [])
  (hx:∀pins σ H s e s',Inv X pins σ H s->CX X.stack H s (E σ) e s'->X.xe e s')(ha:PA X (e::es) t)(hdb:(x==("__debug__":Str))=false)(he:starEach (e::es) X.env=(false,eval e X.env)::starEach es X.env)(hpl:(backTo pos (starEach es X.env)).any (·.1)=false):
  PE X (.Call (.Name x p) (e::es) [] pos) (λσ H Q=>t σ H λvs H1=>sp vs H1 Q (E σ)):=by
 intro pins s σ H Q I h;refine wpAny_Call_Name_kw (Jd8 I hg hm ?_ hdb);refine PySem.W.callWith_K (h₀:=X.base) I.ok.mod.kin hk (thn (ha pos pins s σ H _ I h) λus s1 ⟨vs,H1,I1,r,q⟩=>⟨I1.kIn,?_⟩) he hpl;exact Jvf F hr hb (λe s'=>hx pins σ H1 s1 e s' I1) I1 r q
theorem Jg2:∀(m:M),sim m=true->∀{τ:En} {S:Store} {c:String} {τ':En} {S':Store},evE C m τ S≠ .err c τ' S':=by
 intro m
 induction m with
 |cst d=>intro _ τ S c τ' S' e;cases e
 |var i=>
  intro _ τ S c τ' S' e;simp only[Jlw]at e;split at e<;>cases e
 |glb x=>
  intro _ τ S c τ' S' e;simp only[Jlt]at e;split at e<;>cases e
 |idx a b ha hb=>
  intro h τ S c τ' S' e;obtain⟨h1,h2⟩:=Bool.and_eq_true_iff.mp (show(sim a&&sim b)=true from h);simp only[Jgc]at e;rcases Res.bind_eq_err e with e|⟨x1,S1,_,e⟩
  ·exact ha h1 e
  rcases Res.bind_eq_err e with e|⟨x2,S2,_,e⟩
  ·exact hb h2 e
  split at e<;>cases e
 |kle a ha=>exact λ_ _ _ _ _ _ e=>absurd e Res.kl_ne
 |_=>intro h;exact fx9 h
theorem Jsg:∀(m:M),simA m=true->∀{τ:En} {S:Store} {c:String} {τ':En} {S':Store},evA C m τ S≠ .err c τ' S':=by
 intro m
 induction m with
 |nul=>intro _ τ S c τ' S' e;cases e
 |cns a b _ hb=>
  intro h τ S c τ' S' e;obtain⟨h1,h2⟩:=Bool.and_eq_true_iff.mp (show(sim a&&simA b)=true from h);simp only[Jjc]at e;rcases Res.bind_eq_err e with e|⟨x1,S1,_,e⟩
  ·exact Jg2 a h1 e
  rcases Res.bind_eq_err e with e|⟨x2,S2,_,e⟩
  ·exact hb h2 e
  cases e
 |_=>intro h;exact fx9 h
theorem Jju{m:M}(h:sim m=true):∀(X:Cx) (c:Ck) (W:Value->L2.St->Hp->Prop) (x:Expr),Gd X C c->Xg X c W->chkE m c x=true->PE X x (tEX X.K C W m):=λX c W x g xg hc pins s σ H Q I q=>by
 obtain⟨ρ,S,τ,cl,τ',S',rs,re,e,fin⟩:=q;exact absurd e (Jg2 m h)
theorem SndX.exp{m:M}(h:xM m=false)(e:∀(X:Cx) (c:Ck) (W:Value->L2.St->Hp->Prop) (x:Expr),Gd X C c->Xg X c W->(xE c.xz m||sim m)=true->chkE m c x=true->PE X x (tEX X.K C W m))(h3:∀Z,xT Z m=false:=by exact λ_=>rfl)(h4:∀Z,xA Z m=false:=by exact λ_=>rfl):SndX C m:=
 ⟨λz=>fx9 (h.symm.trans z),λz=>fx9 (h.symm.trans z),e,λX c W x g xg z=>fx9 ((h3 _).symm.trans z),λX c W x g xg z=>fx9 ((h4 _).symm.trans z)⟩
theorem Ju1{d:D}:SndX C (.cst d):=.exp rfl λX c W x g xg _=>Jju rfl X c W x g xg
theorem Jum{i:Nat}:SndX C (.var i):=.exp rfl λX c W x g xg _=>Jju rfl X c W x g xg
theorem Juy{x:String}:SndX C (.glb x):=.exp rfl λX c W x g xg _=>Jju rfl X c W x g xg
theorem Jux{a b:M}(ha:Snd C a)(hb:Snd C b)(xa:SndX C a):SndX C (.idx a b):=.exp rfl λX c W x g xg hs h=>by
 have hs:((xE c.xz a&&sim b)||(sim a&&sim b))=true:=hs;have h1:(xE c.xz a||sim a)=true:=by
  cases e1:xE c.xz a<;>cases e2:sim a<;>simp[e1,e2]at hs ⊢
 have h2:sim b=true:=by
  cases e1:sim b
  ·simp[e1]at hs
  ·rfl
 cases x<;>try (exact fx9 h)
 rename_i vx sx px;simp only[Jyo,Bool.and_eq_true]at h;refine PE.imp (Js6 (Jq6 (Nat.lt_of_le_of_lt (Nat.add_le_add_left (by decide:1<=64) _) g.top.un)) (xa.e X c W _ g xg h1 h.1) (hb.e X c _ g h.2) (plainIx h.2)) λσ H Q hq_=>?_;obtain⟨ρ,S,τ,cl,τ',S',rs,re,e,fin⟩:=hq_;simp only[Jgc]at e;rcases Res.bind_eq_err e with e1|⟨x1,S1,e1,e⟩
 ·exact⟨ρ,S,τ,cl,τ',S',rs,re,e1,fin⟩
 rcases Res.bind_eq_err e with e2|⟨x2,S2,_,e⟩
 ·exact absurd e2 (Jg2 b h2)
 split at e<;>cases e
theorem Jts{f:String}{a b:M}(ha:Snd C (.cns a b))(xa:SndX C (.cns a b)):∀(X:Cx) (c:Ck) (W:Value->L2.St->Hp->Prop) (x:Expr),Gd X C c->Xg X c W->f∈c.O.rz->xA c.xz (.cns a b)=true->chkE (.call f (.cns a b)) c x=true->PE X x (tEX X.K C W (.call f (.cns a b))):=by
 intro X c W x g xg hz hs h;cases x<;>try (exact fx9 h)
 rename_i fn es kws pos;cases fn<;>try (exact fx9 h)
 rename_i y p;cases kws<;>try (exact fx9 h)
 simp only[Jyn,Bool.and_eq_true,beq_iff_eq]at h;obtain⟨⟨⟨⟨rfl,h1⟩,h2⟩,h3⟩,h4⟩:=h;obtain⟨k,ad,fd,ps,hr,hm,F,hb,hk⟩:=g.top.fns f (Jag h3);cases es with
 |nil=>exact fx9 h4
 |cons e0 es=>
  have h4':=h4;simp only[cA_1,Bool.and_eq_true]at h4;have hx:∀pins σ H s e s',Inv X pins σ H s->CX1 X.prog X.w X.stack H s ((λ(σ:L2.St)=>((λCv _ H'=>W Cv σ H'):XK)) σ) e s'->X.xe e s':=λpins σ H s e s' I cx=>xg.fly pins σ H s s' e _ I cx λCv H' z=>z;refine PE.imp (Jo2 (E:=λ(σ:L2.St)=>((λCv _ H'=>W Cv σ H'):XK)) F hr (g.glo h1) hm hk hb hx (PA.or (ha.a X c _ g h4') (xa.a X c W _ g xg hs h4')) (dbg1 h2) (Jah (noStar h4.1)) (by rw[Jaq];exact noStars h4.2)) λσ H Q hq_=>?_;obtain⟨ρ,S,τ,cl,τ',S',rs,re,e,fin⟩:=hq_;simp only[Jgb]at e;rcases Res.bind_eq_err e with e1|⟨ds,S1,e1,e⟩
  ·exact .inr ⟨ρ,S,τ,cl,τ',S',rs,re,e1,fin⟩
  ·exact .inl ⟨ρ,S,τ,ds,S1,rs,re,e1,λρ1 vs H1 f1 r1 q1=>.inr ⟨hz,ρ1,S1,ds,cl,τ',S',r1,q1,e,λρ2 H2 Cv f2 r2 hc=>fin ρ2 H2 Cv (f1.trans f2) r2 hc⟩⟩
theorem Jrn{f:String}{as:M}(ha:Snd C as)(xa:SndX C as):SndX C (.call f as):=by
 have hE:∀(X:Cx) (c:Ck) (W:Value->L2.St->Hp->Prop) (x:Expr),Gd X C c->Xg X c W->xE c.xz (.call f as)=true->chkE (.call f as) c x=true->PE X x (tEX X.K C W (.call f as)):=λX c W x g xg hs h=>by
  cases as<;>try (exact fx9 hs)
  rename_i a b;obtain⟨s1,s2⟩:=Bool.and_eq_true_iff.mp (show(c.O.rz.contains f&&((xE c.xz a||sim a)&&xA c.xz b))=true from hs);exact Jts ha xa X c W x g xg (Jag s1) s2 h
 refine⟨λz=>fx9 z,λz=>fx9 z,λX c W x g xg hs h=>?_,λX c W x g xg hs h=>?_,λX c W x g xg z=>fx9 z⟩
 ·rw[show sim (.call f as)=false from rfl,Bool.or_false]at hs;exact hE X c W x g xg hs h
 ·have pe:=hE X c W x g xg hs h;refine PT.imp (Jgf pe (λ_=>?_)) λσ H Q hq_=>?_
  ·cases x<;>try (exact fx9 h)
   rfl
  ·obtain⟨ρ,S,τ,cl,τ',S',rs,re,e,fin⟩:=hq_;refine⟨ρ,S,τ,cl,τ',S',rs,re,?_,fin⟩;simp only[Jqg]at e;simp only[Jgb];rcases Res.bind_eq_err e with e1|⟨ds,S1,e1,e⟩
   ·rw[e1];rfl
   ·rw[e1,Res.bind_ok];rcases Res.bind_eq_err e with e2|⟨d,S2,e2,e⟩
    ·exact e2
    ·split at e<;>cases e
theorem Joa{x:D}{ds:List D}{S:Store}{c:String}{τ:En}{S':Store}:methD .split1 x ds S≠ .err c τ S':=by
 intro e;rcases ds with _|⟨y,_|⟨z,ds⟩⟩<;>cases x<;>try (cases(show(Res.bad:Res D)=.err _ _ _ from e);done)
 all_goals (cases y<;>try (cases(show(Res.bad:Res D)=.err _ _ _ from e);done))
 rw[Jf9]at e;split at e<;>cases e
theorem Jx5{o as:M}(ha:Snd C as)(xo:SndX C o):∀(X:Cx) (c:Ck) (W:Value->L2.St->Hp->Prop) (x:Expr),Gd X C c->Xg X c W->xE c.xz (.meth .split1 o as)=true->chkE (.meth .split1 o as) c x=true->PE X x (tEX X.K C W (.meth .split1 o as)):=λX c W x g xg hs h=>by
 cases as<;>try (exact fx9 hs)
 rename_i a0 b0;cases b0<;>try (exact fx9 hs)
 obtain⟨s1,s2⟩:=Bool.and_eq_true_iff.mp (show(xE c.xz o&&sim a0)=true from hs);cases x<;>try (exact fx9 h)
 rename_i fn es kws pos;cases fn<;>try (exact fx9 h)
 rename_i e0 y ap;cases kws<;>try (exact fx9 h)
 simp only[Jt3,Bool.and_eq_true,beq_iff_eq,decide_eq_true_eq]at h;obtain⟨⟨⟨⟨⟨⟨rfl,h1⟩,h2⟩,h3⟩,h4⟩,h5⟩,h6⟩:=h;have hbase:∀nm,attributeBase e0 nm X.env (eval e0 X.env)=eval e0 X.env:=λnm=>by
  cases e0<;>try rfl
  rename_i f0 a0 k0 p0;cases f0<;>try rfl
  cases a0<;>try rfl
  cases k0<;>try rfl
  simp[Jfi]at h1
 have hline:(ap.endLine==pos.line)=true:=by simpa using h2
 have few:∀{e1:Expr} {es':List Expr},es=e1::es'->chkA (.cns a0 .nul) c (e1::es')=true->((backTo pos (starEach (e1::es') X.env)).all (λx=> !x.1)&&(backToKw pos (keywordEach [] X.env)).all (λx=>x.1.isSome)&&decide ((e1::es').length+([]:List Keyword).length+(if([]:List Keyword).isEmpty then 0 else 1)<30))=true:=λ{e1 es'} ee h5'=>by
  subst ee;rw[Jeh _ _ (noStars (env:=X.env) h5')];simp only[Bool.true_and,Bool.and_eq_true,decide_eq_true_eq];exact⟨rfl,by simp only[List.length_nil,List.isEmpty_nil,if_true];omega⟩
 cases es with
 |nil=>exact fx9 h5
 |cons e1 es=>
  have h5':=h5;simp only[cA_1,Bool.and_eq_true]at h5;refine PE.imp (Jq2 (T:="str") (tp:=λx H=>∃z,x=.str z) (λpins s σ H x v I r ⟨z,q⟩=>?_) PySem.F.plainAttrs_str PySem.F.slot_str_split PySem.F.type_str_split (Jff .split1 g.top.un) (xo.e X c W _ g xg (by rw[s1];rfl) h4) (ha.a X c _ g h5') (hbase _) (few rfl h5') hline (Jah (noStar h5.1)) (by rw[Jaq];exact noStars h5.2)) λσ H Q ⟨ρ,S,τ,cl,τ',S',rs,re,e,fin⟩=>?_
  ·subst q;obtain⟨t,rfl⟩:=r;exact⟨typeIs_str _ _ _,λ_ e=>nomatch e⟩
  ·simp only[Jfa]at e;rcases Res.bind_eq_err e with e1|⟨x1,S1,e1,e⟩
   ·exact⟨ρ,S,τ,cl,τ',S',rs,re,e1,fin⟩
   ·split at e<;>try (cases e;done)
    rcases Res.bind_eq_err e with e2|⟨ds,S2,e2,e⟩
    ·exact absurd e2 (Jsg (.cns a0 .nul) (show(sim a0&&true)=true by rw[s2];rfl))
    ·exact absurd e Joa
theorem Jn1{x:D}{ds:List D}{S:Store}{c:String}{τ:En}{S':Store}:methD .append x ds S≠ .err c τ S':=by
 intro h;rcases ds with _|⟨y,_|⟨z,ds⟩⟩<;>cases x<;>try (cases h;done)
 rename_i l;have h':(match S[l]? with|some (.lst xs)=>if xs.length<Line then Res.ok D.non (S.set l (.lst (xs++[y])))else .bad|_=>.bad)=.err c τ S':=h;split at h'
 ·split at h'<;>cases h'
 ·cases h'
theorem Jx6{o as:M}(ho:Snd C o)(xa:SndX C as):∀(X:Cx) (c:Ck) (W:Value->L2.St->Hp->Prop) (x:Expr),Gd X C c->Xg X c W->xE c.xz (.meth .append o as)=true->chkE (.meth .append o as) c x=true->PE X x (tEX X.K C W (.meth .append o as)):=λX c W x g xg hs h=>by
 cases as<;>try (exact fx9 hs)
 rename_i a0 b0;cases b0<;>try (exact fx9 hs)
 obtain⟨s1,s2⟩:=Bool.and_eq_true_iff.mp (show(sim o&&xE c.xz a0)=true from hs);cases x<;>try (exact fx9 h)
 rename_i fn es kws pos;cases fn<;>try (exact fx9 h)
 rename_i e0 y ap;cases kws<;>try (exact fx9 h)
 simp only[Jt3,Bool.and_eq_true,beq_iff_eq,decide_eq_true_eq]at h;obtain⟨⟨⟨⟨⟨⟨rfl,h1⟩,h2⟩,h3⟩,h4⟩,h5⟩,h6⟩:=h;have hbase:∀nm,attributeBase e0 nm X.env (eval e0 X.env)=eval e0 X.env:=λnm=>by
  cases e0<;>try rfl
  rename_i f0 a0 k0 p0;cases f0<;>try rfl
  cases a0<;>try rfl
  cases k0<;>try rfl
  simp[Jfi]at h1
 have hline:(ap.endLine==pos.line)=true:=by simpa using h2
 have few:∀{e1:Expr} {es':List Expr},es=e1::es'->chkA (.cns a0 .nul) c (e1::es')=true->((backTo pos (starEach (e1::es') X.env)).all (λx=> !x.1)&&(backToKw pos (keywordEach [] X.env)).all (λx=>x.1.isSome)&&decide ((e1::es').length+([]:List Keyword).length+(if([]:List Keyword).isEmpty then 0 else 1)<30))=true:=λ{e1 es'} ee h5'=>by
  subst ee;rw[Jeh _ _ (noStars (env:=X.env) h5')];simp only[Bool.true_and,Bool.and_eq_true,decide_eq_true_eq];exact⟨rfl,by simp only[List.length_nil,List.isEmpty_nil,if_true];omega⟩
 cases es with
 |nil=>exact fx9 h5
 |cons e1 es=>
  have h5':=h5;simp only[cA_1,Bool.and_eq_true]at h5;refine PE.imp (Jwo PySem.F.plainAttrs_list PySem.F.slot_list_append PySem.F.type_list_append (Jff .append g.top.un) (ho.e X c _ g h4) (xa.a X c W _ g xg (show((xE c.xz a0||sim a0)&&true)=true by rw[s2];rfl) h5') (hbase _) (few rfl h5') hline (Jah (noStar h5.1)) (by rw[Jaq];exact noStars h5.2)) λσ H Q ⟨ρ,S,τ,cl,τ',S',rs,re,e,fin⟩=>?_;simp only[Jfa]at e;rcases Res.bind_eq_err e with e1|⟨x1,S1,e1,e⟩
  ·exact absurd e1 (Jg2 o s1)
  ·split at e<;>try (cases e;done)
   rename_i hrc;rcases Res.bind_eq_err e with e2|⟨ds,S2,e2,e⟩
   ·cases x1<;>try (exact fx9 (show false=true from hrc))
    rename_i l;refine⟨ρ,S,τ,_,S1,rs,re,e1,λρ1 v1 H1 f1 r1 q1=>⟨?_,⟨ρ1,S1,τ,cl,τ',S',r1,re.fut f1,e2,λρ2 H2 Cv f2=>fin ρ2 H2 Cv (f1.trans f2)⟩⟩⟩;obtain⟨es,he⟩:=Option.isSome_iff_exists.mp (show(seqAt S1 l).isSome=true from hrc);obtain⟨p,xs,rfl,hl,hx,t⟩:=r1.lst q1 (Jao he);exact .inl ⟨rfl,xs,SqL.of hx⟩
   ·exact absurd e Jn1
theorem Jrl{p:Meth}{o as:M}(ho:Snd C o)(ha:Snd C as)(xo:SndX C o)(xa:SndX C as):SndX C (.meth p o as):=.exp rfl λX c W x g xg hs h=>by
 rw[show sim (.meth p o as)=false from rfl,Bool.or_false]at hs;cases p<;>first|(exact Jx5 ha xo X c W x g xg hs h)|(exact Jx6 ho xa X c W x g xg hs h)|(exact fx9 hs)
theorem Jus{a:M}(xa:SndX C a):SndX C (.nott a):=by
 refine⟨λz=>fx9 z,λz=>fx9 z,λX c W x g xg z=>fx9 z,λX c W x g xg hs h=>?_,λX c W x g xg z=>fx9 z⟩;cases x<;>try (exact fx9 h)
 rename_i op e pos;cases op<;>try (exact fx9 h)
 simp only[cE_8]at h;refine PT.imp (Jqt (xa.t X c W _ g xg (show xT c.xz a=true from hs) h)) λσ H Q hq_=>?_;obtain⟨ρ,S,τ,cl,τ',S',rs,re,e,fin⟩:=hq_;simp only[Jqj]at e;rcases Res.bind_eq_err e with e1|⟨x1,S1,e1,e⟩
 ·exact⟨ρ,S,τ,cl,τ',S',rs,re,e1,fin⟩
 ·cases e
theorem Ju3{o:Cop}{a b:M}(ha:Snd C a)(hb:Snd C b)(xa:SndX C a)(xb:SndX C b):SndX C (.cmp o a b):=by
 refine⟨λz=>fx9 z,λz=>fx9 z,λX c W x g xg z=>fx9 z,λX c W x g xg hs h=>?_,λX c W x g xg z=>fx9 z⟩;obtain⟨s1,s2⟩:=Bool.and_eq_true_iff.mp (show((xE c.xz a||sim a)&&(xE c.xz b||sim b))=true from hs);cases x<;>try (exact fx9 h)
 rename_i l ops cs pos;rcases ops with _|⟨p,_|⟨p2,ops⟩⟩<;>rcases cs with _|⟨f,_|⟨f2,cs⟩⟩<;>try (exact fx9 h)
 simp only[Jyq]at h;simp only[Bool.and_eq_true,beq_iff_eq]at h;obtain⟨⟨⟨rfl,h1⟩,h2⟩,h3⟩:=h;refine PT.imp (Jie (Jfo o g.top.un) (PE.or (ha.e X c _ g h1) (xa.e X c W _ g xg s1 h1)) (PE.or (hb.e X c _ g h2) (xb.e X c W _ g xg s2 h2)) (marks h3 _)) λσ H Q hq_=>?_;obtain⟨ρ,S,τ,cl,τ',S',rs,re,e,fin⟩:=hq_;simp only[Jqi]at e;rcases Res.bind_eq_err e with e1|⟨x1,S1,e1,e⟩
 ·exact .inr ⟨ρ,S,τ,cl,τ',S',rs,re,e1,fin⟩
 rcases Res.bind_eq_err e with e2|⟨x2,S2,_,e⟩
 ·exact .inl ⟨ρ,S,τ,x1,S1,rs,re,e1,λρ1 v1 H1 f1 r1 q1=>.inr ⟨ρ1,S1,τ,cl,τ',S',r1,re.fut f1,e2,λρ2 H2 Cv f2=>fin ρ2 H2 Cv (f1.trans f2)⟩⟩
 split at e<;>cases e
theorem Jr1{a:M}(ha:Snd C a):∀(X:Cx) (c:Ck) (x:Expr),Gd X C c->chkE (.kle a) c x=true->PE X x (tE X.K C (.kle a)):=by
 intro X c x g h;rw[Jz5,Bool.and_eq_true]at h;refine PE.imp (ha.e X c x g h.2) λσ H Q hq_=>?_;obtain⟨ρ,S,τ,d,S',rs,re,e,fin⟩:=hq_;exact⟨ρ,S,τ,d,S',rs,re,Res.kl_eq_ok e,fin⟩
theorem Juu{a:M}:SndX C (.kle a):=.exp rfl λX c W x g xg _=>Jju rfl X c W x g xg
theorem Jt7{α:Type}{c:String}{τ:En}{S':Store}{p:Prop}(h:(Res.bad:Res α)=.err c τ S'):p:=nomatch h
theorem Jtj{α:Type}{a:α}{S:Store}{c:String}{τ:En}{S':Store}{p:Prop}(h:(Res.ok a S:Res α)=.err c τ S'):p:=nomatch h
theorem Jyu{x y:D}{S:Store}{c:String}{τ:En}{S':Store}:bop .add x y S≠ .err c τ S':=by
 intro h;cases x<;>cases y<;>first|exact Jt7 h|exact Jtj h|(simp only[Jl2,Jqs,Jl0,Jl1]at h;split at h<;>first|exact Jtj h|exact Jt7 h|(split at h<;>first|exact Jtj h|exact Jt7 h))
theorem Ju4{o:Bop}{a b:M}(ha:Snd C a)(hb:Snd C b)(xa:SndX C a)(xb:SndX C b):SndX C (.bin o a b):=.exp rfl λX c W x g xg hs h=>by
 rw[show sim (.bin o a b)=false from rfl,Bool.or_false]at hs;cases o<;>try (exact fx9 hs)
 obtain⟨s1,s2⟩:=Bool.and_eq_true_iff.mp (show((xE c.xz a||sim a)&&(xE c.xz b||sim b))=true from hs);cases x<;>try (exact fx9 h)
 simp only[cE_6,Bool.and_eq_true,beq_iff_eq]at h;obtain⟨⟨rfl,h1⟩,h2⟩:=h;refine PE.imp (Jwk (Jre .add) (PE.or (ha.e X c _ g h1) (xa.e X c W _ g xg s1 h1)) (PE.or (hb.e X c _ g h2) (xb.e X c W _ g xg s2 h2))) λσ H Q hq_=>?_;obtain⟨ρ,S,τ,cl,τ',S',rs,re,e,fin⟩:=hq_;simp only[Jqn]at e;rcases Res.bind_eq_err e with e1|⟨x1,S1,e1,e⟩
 ·exact .inr ⟨ρ,S,τ,cl,τ',S',rs,re,e1,fin⟩
 rcases Res.bind_eq_err e with e2|⟨x2,S2,e2,e⟩
 ·exact .inl ⟨ρ,S,τ,x1,S1,rs,re,e1,λρ1 v1 H1 f1 r1 q1=>.inr ⟨ρ1,S1,τ,cl,τ',S',r1,re.fut f1,e2,λρ2 H2 Cv f2=>fin ρ2 H2 Cv (f1.trans f2)⟩⟩
 ·exact absurd e Jyu
theorem Jun{as:M}(xa:SndX C as):SndX C (.tup as):=.exp rfl λX c W x g xg hs h=>by
 rw[show sim (.tup as)=false from rfl,Bool.or_false]at hs;cases x<;>try (exact fx9 h)
 simp only[Jyp]at h;refine PE.imp (Jqz (xa.a X c W _ g xg hs h)) λσ H Q hq_=>?_;obtain⟨ρ,S,τ,cl,τ',S',rs,re,e,fin⟩:=hq_;simp only[Jlv]at e;rcases Res.bind_eq_err e with e1|⟨x1,S1,e1,e⟩
 ·exact⟨ρ,S,τ,cl,τ',S',rs,re,e1,fin⟩
 ·split at e<;>cases e
theorem Jkw{ds:List D}{S:Store}{c:String}{τ:En}{S':Store}:primD .tuple1 ds S≠ .err c τ S':=by
 intro h;rcases ds with _|⟨y,_|⟨z,ds⟩⟩<;>try (cases h;done)
 have h':(match seqOf S y with|some ds=>Res.ok (D.tup ds) S|none=>.bad)=.err c τ S':=h;split at h'<;>cases h'
theorem Jrk{p:Prim}{as:M}(xa:SndX C as):SndX C (.prim p as):=.exp rfl λX c W x g xg hs h=>by
 rw[show sim (.prim p as)=false from rfl,Bool.or_false]at hs;cases p<;>try (exact fx9 hs)
 cases x<;>try (exact fx9 h)
 rename_i fn es kws pos;cases fn<;>try (exact fx9 h)
 rename_i y pp;cases kws<;>cases es<;>try (exact fx9 h)
 rename_i e0 es;simp only[Jym,Bool.and_eq_true,beq_iff_eq]at h;obtain⟨⟨⟨rfl,h1⟩,h2⟩,h3⟩:=h;have hm:=g.top.blt _ (Jag h2);have hs1:(∀x p,e0≠ .Starred x p)/\(starEach es X.env).any (·.1)=false:=by
  cases as<;>try (exact fx9 h3)
  simp only[cA_1,Bool.and_eq_true]at h3;exact⟨noStar h3.1,noStars h3.2⟩
 have hp:=Jl7 (X:=X) .tuple1 g.calm;have hb:=Jh0 .tuple1;unfold primVal at hp hb;rw[if_pos (show primTy .tuple1=true from rfl)]at hp hb;refine PE.imp (Jhb hp (g.glo h1) hm hb (xa.a X c W _ g xg hs h3) (Jfe .tuple1) (Jed .tuple1) (Jah hs1.1) (by rw[Jaq];exact hs1.2)) λσ H Q ⟨ρ,S,τ,cl,τ',S',rs,re,e,fin⟩=>?_;simp only[Jib]at e;rcases Res.bind_eq_err e with e1|⟨x1,S1,e1,e⟩
 ·exact⟨ρ,S,τ,cl,τ',S',rs,re,e1,fin⟩
 ·exact absurd e Jkw
theorem Jnu{K:PySem.W.Frag}{i0:Nat}{el:M}{J:It}{ρ0:List Addr}{H0:Hp}{g:Wk}{ds:List D}{cl:String}{τx:En}{S0 S':Store}{Q:List V->Hp->Prop}{k:Nat}{keep:List Nat}{τ0:En}{σ0:L2.St}{W':Value->L2.St->Hp->Prop}(hown:tgOwn k (.tvar i0)=true)(it:ItOk K ρ0 H0 J g ds)
  (rs0:RelS K ρ0 S0 H0)(re0:RelE K ρ0 H0 (inEn k keep τ0) σ0)(e0:compL (turnC C (.tvar i0) .nul el) g ds ds.length 0 (inEn k keep τ0) S0 []=.err cl τx S')(fin:∀ρ H Cv σ,Fut K ρ0 H0 ρ H->RelS K ρ S' H->ClsOf K cl Cv->W' Cv σ H):
  CompW J (tG K C (.tvar i0)) (tC K C .nul) (λσ H Q=>tE K C el σ H Q\/tEX K C W' el σ H Q) Q σ0 H0:=by
 refine⟨λi m xs σ H=>∃ρ S acc,Fut K ρ0 H0 ρ H/\RelS K ρ S H/\RelE K ρ H (inEn k keep τ0) σ/\RelDs K ρ H acc xs/\i+m=ds.length/\acc.length<=Line/\compL (turnC C (.tvar i0) .nul el) g ds m i (inEn k keep τ0) S acc=.err cl τx S',⟨ds.length,ρ0,S0,[],Fut.refl,rs0,re0,RelDs.nil,Nat.zero_add _,Nat.zero_le _,e0⟩,?_⟩;rintro i m xs σ H ⟨ρ,S,acc,f,rs,re,ra,hi,hl,e⟩;refine⟨by rw[<-ra.length,<-Jak];exact hl,?_⟩;cases m with
 |zero=>
  simp only[compL]at e;split at e<;>cases e
 |succ m=>
  simp only[compL]at e;split at e<;>try (cases e;done)
  rename_i hs;split at e<;>try (cases e;done)
  rename_i d hd;obtain⟨hgo,hy⟩:=it.go ρ H S i d f rs hs hd;refine .inr ⟨hgo,λx H' hyl=>?_⟩;obtain⟨f0,rs,rd⟩:=hy x H' hyl
  replace re:=re.fut f0
  replace ra:=ra.fut f0
  replace f:=f.trans f0
  have run:∀τ2,evG C (.tvar i0) d (inEn k keep τ0) S=.ok τ2 S->OwnE k (inEn k keep τ0) τ2/\Less τ2 (inEn k keep τ0):=λτ2 eG=>by
   have own:OwnE k (inEn k keep τ0) τ2:=((Jne (C:=C) hown).1 (τ0:=inEn k keep τ0) ⟨rfl,λ_ _=>rfl⟩ eG).1;exact⟨own,own.1.symm,λj d hj=>by rw[own.2 j (Jhg hj)];exact hj⟩
  have eg:evG C (.tvar i0) d (inEn k keep τ0) S=if i0<(inEn k keep τ0).length then .ok ((inEn k keep τ0).set i0 (some d)) S else .bad:=rfl
  by_cases hx:i0<(inEn k keep τ0).length
  ·have eG:evG C (.tvar i0) d (inEn k keep τ0) S=.ok ((inEn k keep τ0).set i0 (some d)) S:=by rw[eg,if_pos hx]
   generalize(inEn k keep τ0).set i0 (some d)=τ2 at eG;obtain⟨own,less⟩:=run τ2 eG;have et:turnC C (.tvar i0) .nul el d (inEn k keep τ0) S=(evE C el τ2 S).bind λy S5=>.ok (some y) S5:=by
    show(evG C (.tvar i0) d (inEn k keep τ0) S).bind _=_;rw[eG];rfl
   rw[et]at e;refine⟨ρ,_,_,d,τ2,_,rs,re,rd,eG,λρ1 σ1 H1 f1 r1 q1=>⟨ρ1,_,τ2,true,_,r1,q1,rfl,λρ2 H2 f2 r2=>?_⟩⟩;refine iteT ?_;rcases Res.bind_eq_err e with e1|⟨o,S1,e1,e⟩
   ·rcases Res.bind_eq_err e1 with e1|⟨y,S4,eE,e1⟩
    ·exact .inr ⟨ρ2,_,τ2,cl,τx,S',r2,q1.fut f2,e1,λρ3 H3 Cv f3 r3 hc=>fin ρ3 H3 Cv _ (f.trans (f1.trans (f2.trans f3))) r3 hc⟩
    ·cases e1
   ·obtain⟨y,S4,eE,e1⟩:=Res.bind_eq_ok e1;cases e1;simp only at e;split at e<;>try (cases e;done)
    rename_i hlt;refine .inl ⟨ρ2,_,τ2,y,S1,r2,q1.fut f2,eE,λρ3 v3 H3 f3 r3 q3=>⟨m,Nat.lt_succ_self m,?_⟩⟩;have f13:=f1.trans (f2.trans f3);exact⟨ρ3,S1,acc++[y],f.trans f13,r3,(q1.fut (f2.trans f3)).less less,(ra.fut f13).append (RelDs.cons q3 RelDs.nil),by omega,by rw[List.length_append];exact hlt,e⟩
  ·have et:turnC C (.tvar i0) .nul el d (inEn k keep τ0) S=.bad:=by
    show(evG C (.tvar i0) d (inEn k keep τ0) S).bind _=_;rw[eg,if_neg hx];rfl
   rw[et]at e;cases e
theorem Jrb{a:M}(h:sim a=true){τ:En}{S:Store}{c:String}{τ':En}{S':Store}:evI C (.cns a .nul) τ S≠ .err c τ' S':=by
 intro e;simp only[Jql]at e;rcases Res.bind_eq_err e with e1|⟨x1,S1,e1,e⟩
 ·exact Jg2 a h e1
 ·cases x1<;>first|(cases e;done)|(simp only at e;split at e<;>first|(cases e;done)|(split at e<;>cases e))
theorem Jjz{X:Cx}{N:List String}{k i0:Nat}{keep:List Nat}{it el:M}{W:Value->L2.St->Hp->Prop}(hs:sim it=true)(hown:tgOwn k (.tvar i0)=true){σ:L2.St}{H:Hp}{Q:VK}(h:tEX X.K C W (.comp N k keep (.tvar i0) (.cns it .nul) .nul el) σ H Q):
  tComp k keep (tI X.K C (.cns it .nul)) (tG X.K C (.tvar i0)) (tC X.K C .nul) (λσ' H Q=>tE X.K C el σ' H Q\/tEX X.K C (λCv _ H'=>W Cv σ H') el σ' H Q) σ H Q:=by
 obtain⟨ρ,S,τ,cl,τ',S',rs,re,e,fin⟩:=h;simp only[Jia]at e;rcases Res.bind_eq_err e with e1|⟨w,S1,e1,e⟩
 ·exact absurd e1 (Jrb hs)
 rcases Res.bind_eq_err e with e2|⟨ys,S2,e2,e⟩
 ·obtain⟨g,ds⟩:=w;exact⟨ρ,S,τ,g,ds,S1,rs,re,e1,λρ1 H1 J f1 r1 itk=>Jnu hown itk r1 ((re.fut f1).inner k keep) e2 λρ2 H2 Cv σ2 f2 r2 hc=>fin ρ2 H2 Cv (f1.trans f2) r2 hc⟩
 ·cases e
theorem Xg.block{X:Cx}{c:Ck}{W:Value->L2.St->Hp->Prop}{N:List String}{scope:Scope}{pins:List (Addr×PySem.Obj)}{σ:L2.St}{H:Hp}{s₃:Shared}{ex:List Addr}(xg:Xg X c W)(bX:Body X)(s0:(c.rs&&c.fn)=true)(bo:BlockOk X pins σ H s₃ ex):
  Xg (compCx X (N.map Str.ofString) scope s₃ H ex pins (compXe X scope s₃)) (c.inner N scope) (λCv _ H'=>W Cv σ H'):=
 ⟨λpins' σ' H1 s1 s2 e E J cx hE=>Jnz bX bo J cx λH' s' ea C a0 B hd hc=>xg.hold s0 pins σ H s₃ H' s' ea C a0 B ex hd (hE (.ref C) H' hc),λz=>fx9 z,λz=>fx9 z⟩
theorem Jf2{N:List String}{k:Nat}{keep:List Nat}{tg it cd el:M}{Z:Bool×List String}(hs:xE Z (.comp N k keep tg it cd el)=true):∃i0 it0,tg=.tvar i0/\it=.cns it0 .nul/\cd=.nul/\Z.1=true/\sim it0=true/\xE (false,Z.2) el=true:=by
 cases tg<;>try (exact fx9 hs)
 cases it<;>try (exact fx9 hs)
 rename_i a0 b0;cases b0<;>try (exact fx9 hs)
 cases cd<;>try (exact fx9 hs)
 have hs:(Z.1&&sim a0&&xE (false,Z.2) el)=true:=hs;simp only[Bool.and_eq_true]at hs;exact⟨_,_,rfl,rfl,rfl,hs.1.1,hs.1.2,hs.2⟩
theorem Jrm{N:List String}{k:Nat}{keep:List Nat}{tg it cd el:M}(hg:Snd C tg)(hi:Snd C it)(hc:Snd C cd)(he:Snd C el)(xl:SndX C el):SndX C (.comp N k keep tg it cd el):=.exp rfl λX c W x g xg hs h=>by
 rw[show sim (.comp N k keep tg it cd el)=false from rfl,Bool.or_false]at hs;obtain⟨i0,it0,rfl,rfl,rfl,s0,s1,s2⟩:=Jf2 hs;have s0:(c.rs&&c.fn)=true:=s0;have bX:=g.body (Bool.and_eq_true_iff.mp s0).2;cases x<;>try (exact fx9 h)
 rename_i elt gens scope pos;rcases gens with _|⟨⟨t,i,fs,asy⟩,_|⟨g2,gens⟩⟩<;>try (exact fx9 h)
 simp only[Jp1,Bool.and_eq_true,beq_iff_eq]at h;obtain⟨⟨⟨⟨⟨⟨⟨rfl,h1⟩,h2⟩,h3⟩,h4⟩,h5⟩,h6⟩,h7⟩:=h;obtain⟨pi,fs0⟩:=hi.i X c t i g h4 h7;have gi:=λ(s₃:Shared) (H:Hp) (ex:List Addr) (pins:List (Addr×PySem.Obj))=>g.innerX (xe:=compXe X scope s₃) h1 s₃ H ex pins PassesOwn.looking;refine PE.imp (Jjg (te':=λσ0 σ H Q=>tE X.K C el σ H Q\/tEX X.K C (λCv _ H'=>W Cv σ0 H') el σ H Q) (xe:=λ_ s₃=>compXe X scope s₃) (Ck.compOk g h1).1 g.calm pi (λs₃ H ex pins _=>hg.g _ _ _ (gi s₃ H ex pins) h3) (λs₃ H ex pins _=>hc.cd _ _ _ (gi s₃ H ex pins) h5)
  (λs₃ H ex pins σ bo=>PE.or (he.e _ _ _ (gi s₃ H ex pins) h6) (xl.e _ _ _ _ (gi s₃ H ex pins) (xg.block bX s0 bo) (by rw[show xE (c.inner N scope).xz el=true from s2];rfl) h6)) (λ_ _ _ _ z=>z) fs0) λσ H Q q=>Jjz s1 h2 q
theorem Jse{i:Nat}{e:M}(ht:Snd C (.tvar i))(he:Snd C e)(hc:∀N k keep tg it cd el,e=.comp N k keep tg it cd el->Snd C tg/\Snd C it/\Snd C cd/\Snd C el):∀(X:Cx) (c:Ck) (x:Stmt),Gd X C c->chkS (.acx i e) c x=true->PS X x (tS X.K C (.acx i e)):=by
 intro X c x g h;have h':chkS (.asg (.tvar i) e) c x=true:=by
  cases x<;>try (exact fx9 h)
  rename_i tgs v pos;rcases tgs with _|⟨tg,_|⟨t2,tgs⟩⟩<;>try (exact fx9 h)
  all_goals (cases tg<;>try (exact fx9 h))
  simp only[Jyh,Bool.and_eq_true]at h;simp only[cS_0,cG_0,Bool.and_eq_true];exact⟨⟨h.1.1.1,h.1.2⟩,trivial⟩
 refine PS.imp (Jlh ht he hc X c x g h') λD σ H hq_=>?_;obtain⟨ρ,S,τ,fl,S',rs,re,e0,fin⟩:=hq_;refine⟨ρ,S,τ,fl,S',rs,re,?_,fin⟩;simp only[Jlm]at e0;obtain⟨d,S1,e1,e0⟩:=Res.bind_eq_ok e0;simp only[Ji9,Jg6];rw[Res.at_eq_ok e1,Res.bind_ok];split at e0
 ·rename_i hl;rw[if_pos hl,Res.bind_ok];exact e0
 ·cases e0
theorem Ju6{i:Nat}{e:M}(xe':SndX C e)(hc:∀N k keep tg it cd el,e=.comp N k keep tg it cd el->Snd C tg/\Snd C it/\Snd C cd/\Snd C el)(hx:∀N k keep tg it cd el,e=.comp N k keep tg it cd el->SndX C el):SndX C (.acx i e):=by
 refine .of (λ_ X c W x g xg h=>?_) (λ_ X c W x g xg h=>fx9 h);cases x<;>try (exact fx9 h)
 rename_i tgs v pos;rcases tgs with _|⟨tg,_|⟨t2,tgs⟩⟩<;>try (exact fx9 h)
 all_goals (cases tg<;>try (exact fx9 h))
 rename_i y p;simp only[Jyh,Bool.and_eq_true,beq_iff_eq]at h;obtain⟨⟨⟨⟨h0,h1⟩,h2⟩,h3⟩,h4⟩:=h;obtain⟨o1,o2⟩:=g.own h1;have hN:X.N[i]? =some y:=by rw[g.N];exact h0
 have rd:∀{D:Ends} {σ:L2.St} {H:Hp},tSX X.K C W (.acx i e) D σ H->tEX X.K C W e σ H λd H1=>D.nx (σ.set i (some d)) H1:=λ{D σ H} ⟨ρ,S,τ,cl,τx,S',rs,re,e0,fin⟩=>by
  simp only[Jlm]at e0;rcases Res.bind_eq_err e0 with e1|⟨d,S1,e1,e0⟩
  ·obtain⟨rfl,τ0,e1⟩:=Res.at_eq_err e1;exact⟨ρ,S,τx,cl,τ0,S',rs,re,e1,λρ' H' Cv fu r hc=>fin ρ' σ H' Cv fu r (re.fut fu) hc⟩
  ·split at e0<;>cases e0
 cases v<;>try (exact fx9 h2)
 rename_i elt gens scope cpos;rcases Jfy (e:=.ListComp elt gens scope cpos) (x:=y) (p:=p) (n:=pos.line) (env:=X.env)with hs|hs
 ·obtain⟨N,k,keep,mg,mi,mc,me,rfl⟩:=Jrd h3;obtain⟨sg,si,sc,se⟩:=hc _ _ _ _ _ _ _ rfl;have sx:=hx _ _ _ _ _ _ _ rfl;obtain⟨i0,it0,rfl,rfl,rfl,s0,s1,s2⟩:=Jf2 h4;have s0:(c.rs&&c.fn)=true:=s0;have bX:=g.body (Bool.and_eq_true_iff.mp s0).2;rcases gens with _|⟨⟨tt,ii,fs,asy⟩,_|⟨g2,gens⟩⟩<;>try (exact fx9 h3)
  simp only[Jp1,Bool.and_eq_true,beq_iff_eq]at h3;obtain⟨⟨⟨⟨⟨⟨⟨rfl,k1⟩,k2⟩,k3⟩,k4⟩,k5⟩,k6⟩,k7⟩:=h3;obtain⟨pi,fs0⟩:=si.i X c tt ii g k4 k7;have gi:=λ(s₃:Shared) (H:Hp) (ex:List Addr) (pins:List (Addr×PySem.Obj))=>g.innerX (xe:=compXe X scope s₃) k1 s₃ H ex pins PassesOwn.looking;exact PS.imp (Jje (i:=i) (te':=λσ0 σ H Q=>tE X.K C me σ H Q\/tEX X.K C (λCv _ H'=>W Cv σ0 H') me σ H Q) (xe:=λ_ s₃=>compXe X scope s₃) g.nd hN o1 o2 hs (Ck.compOk g k1).1 g.calm pi (λs₃ H ex pins _=>sg.g _ _ _ (gi s₃ H ex pins) k3) (λs₃ H ex pins _=>sc.cd _ _ _ (gi s₃ H ex pins) k5)
   (λs₃ H ex pins σ bo=>PE.or (se.e _ _ _ (gi s₃ H ex pins) k6) (sx.e _ _ _ _ (gi s₃ H ex pins) (xg.block bX s0 bo) (by rw[show xE (c.inner N scope).xz me=true from s2];rfl) k6)) (λ_ _ _ _ z=>z) fs0) λD σ H q=>Jjz s1 k2 (rd q)
 ·exact PS.imp (Jqu (i:=i) g.nd hN o1 (xe'.e X c W _ g xg (by rw[h4];rfl) h3) hs o2) λD σ H q=>rd q
theorem Juz{t i b:M}(ht:Snd C t)(hi:Snd C i)(hb:Snd C b)(xb:SndX C b):SndX C (.forr t i b):=by
 refine .of (λhx X c W x g xg h=>?_) (λ_ X c W x g xg h=>fx9 h);cases t<;>try (exact fx9 hx)
 rename_i i0;cases i<;>try (exact fx9 hx)
 rename_i a0 b0;cases b0<;>try (exact fx9 hx)
 obtain⟨s1,s2⟩:=Bool.and_eq_true_iff.mp (show(sim a0&&xM b)=true from hx);cases x<;>try (exact fx9 h)
 rename_i tg iter body els pos;cases els<;>try (exact fx9 h)
 simp only[cS_2,Bool.and_eq_true]at h;obtain⟨pi,fs0⟩:=hi.i X c tg iter g h.1.1.2 h.2;refine PS.imp (Jqv g.xe g.calm pi (ht.g X c _ g h.1.1.1) (PSs.or (hb.b X c _ g h.1.2) (xb.b s2 X c W _ g xg h.1.2)) fs0) λD σ H hq_=>?_;obtain⟨ρ,S,τ,cl,τx,S',rs,re,e,fin⟩:=hq_;simp only[Jqk]at e;rcases Res.bind_eq_err e with e1|⟨w,S1,e1,e⟩
 ·exact absurd e1 (Jrb s1)
 obtain⟨gg,ds⟩:=w;refine⟨ρ,S,τ,gg,ds,S1,rs,re,e1,λρ0 H0 J f0 r0 it=>?_⟩
 let turn:Mi.D->En->Store->Res Fl:=λd τ1 S2=>(evG C (.tvar i0) d τ1 S2).bind λτ2 S3=>evB C b τ2 S3
 have e:forL turn gg ds ds.length 0 τ S1=.err cl τx S':=e;refine⟨λi m σ H=>∃ρ S τ,Fut X.K ρ0 H0 ρ H/\RelS X.K ρ S H/\RelE X.K ρ H τ σ/\i+m=ds.length/\forL turn gg ds m i τ S=.err cl τx S',⟨ds.length,ρ0,S1,τ,Fut.refl,r0,re.fut f0,Nat.zero_add _,e⟩,?_⟩;rintro i m σ H ⟨ρ,S,τ,f,rs,re,hi,e⟩;cases m with
 |zero=>
  simp only[forL]at e;split at e<;>cases e
 |succ m=>
  simp only[forL]at e;split at e<;>try (cases e;done)
  rename_i hs;split at e<;>try (cases e;done)
  rename_i d hd;obtain⟨hgo,hy⟩:=it.go ρ H S i d f rs hs hd;refine .inr ⟨hgo,λσ' H'=>∃ρ' S'' τ',Fut X.K ρ0 H0 ρ' H'/\RelS X.K ρ' S'' H'/\RelE X.K ρ' H' τ' σ'/\forL turn gg ds m (i+1) τ' S''=.err cl τx S',λσ' H' ⟨ρ',S'',τ',a1,a2,a3,a4⟩=>⟨m,Nat.lt_succ_self m,ρ',S'',τ',a1,a2,a3,by omega,a4⟩,λx H' hyl=>?_⟩;obtain⟨g0,rs,rd⟩:=hy x H' hyl
  replace re:=re.fut g0
  replace f:=f.trans g0
  have eg:evG C (.tvar i0) d τ S=if i0<τ.length then .ok (τ.set i0 (some d)) S else .bad:=rfl
  by_cases hx:i0<τ.length
  ·have eG:evG C (.tvar i0) d τ S=.ok (τ.set i0 (some d)) S:=by rw[eg,if_pos hx]
   generalize τ.set i0 (some d)=τ2 at eG;have et:turn d τ S=evB C b τ2 S:=by
    show(evG C (.tvar i0) d τ S).bind _=_;rw[eG];rfl
   rw[et]at e;refine⟨ρ,S,τ,d,τ2,S,rs,re,rd,eG,λρ1 σ1 H1 f1 r1 q1=>?_⟩;rcases Res.bind_eq_err e with e1|⟨fl1,S2,e1,e⟩
   ·exact .inr ⟨ρ1,S,τ2,cl,τx,S',r1,q1,e1,λρ2 σ2 H2 Cv f2=>fin ρ2 σ2 H2 Cv (f0.trans (f.trans (f1.trans f2)))⟩
   ·refine .inl ⟨ρ1,S,τ2,fl1,S2,r1,q1,e1,?_⟩;cases fl1 with
    |nx τ1=>exact λρ2 σ2 H2 f2 r2 q2=>⟨ρ2,S2,τ1,f.trans (f1.trans f2),r2,q2,e⟩
    |ct τ1=>exact λρ2 σ2 H2 f2 r2 q2=>⟨ρ2,S2,τ1,f.trans (f1.trans f2),r2,q2,e⟩
    |bk τ1=>simp only at e;cases e
    |rt d=>simp only at e;cases e
  ·have et:turn d τ S=.bad:=by
    show(evG C (.tvar i0) d τ S).bind _=_;rw[eg,if_neg hx];rfl
   rw[et]at e;cases e
theorem Jl6{X:Cx}{v:Expr}{pos:Pos}{te:TE}(h:PE X v te)(hv:isComp v=false):PS X (.Expr v pos) (tDrop te):=Jl5 h (by cases v<;>first|rfl|(simp[isComp]at hv))
theorem Jr8{a:M}(ha:Snd C a):∀(X:Cx) (c:Ck) (x:Stmt),Gd X C c->chkS (.exx a) c x=true->PS X x (tS X.K C (.exx a)):=by
 intro X c x g h;cases x<;>try (exact fx9 h)
 simp only[Jyk,Bool.and_eq_true,Bool.not_eq_true']at h;refine PS.imp (Jl6 (ha.e X c _ g h.1.1) h.1.2) λD σ H hq_=>?_;obtain⟨ρ,S,τ,fl,S',rs,re,e,fin⟩:=hq_;simp only[Jlq]at e;obtain⟨d,S1,e1,e⟩:=Res.bind_eq_ok e;cases e;exact⟨ρ,S,τ,d,_,rs,re,Res.at_eq_ok e1,λρ1 v1 H1 f1 r1 q1=>fin ρ1 σ H1 f1 r1 (re.fut f1)⟩
theorem Ju0{a:M}(xa:SndX C a):SndX C (.exx a):=by
 refine .of (λhx X c W x g xg h=>?_) (λ_ X c W x g xg h=>fx9 h);cases x<;>try (exact fx9 h)
 simp only[Jyk,Bool.and_eq_true,Bool.not_eq_true']at h;refine PS.imp (Jl6 (xa.e X c W _ g xg (by rw[h.2];rfl) h.1.1) h.1.2) λD σ H hq_=>?_;obtain⟨ρ,S,τ,cl,τx,S',rs,re,e,fin⟩:=hq_;simp only[Jlq]at e;rcases Res.bind_eq_err e with e1|⟨d,S1,e1,e⟩
 ·obtain⟨rfl,τ0,e1⟩:=Res.at_eq_err e1;exact⟨ρ,S,τx,cl,τ0,S',rs,re,e1,λρ' H' Cv fu r hc=>fin ρ' σ H' Cv fu r (re.fut fu) hc⟩
 ·cases e
theorem Jrs{a:M}(ha:Snd C a):∀(X:Cx) (c:Ck) (x:Stmt),Gd X C c->chkS (.rtx a) c x=true->PS X x (tS X.K C (.rtx a)):=by
 intro X c x g h;cases x<;>try (exact fx9 h)
 rename_i v pos;cases v<;>try (exact fx9 h)
 simp only[Jyj,Bool.and_eq_true]at h;refine PS.imp (Jjd (ha.e X c _ g h.1)) λD σ H hq_=>?_;obtain⟨ρ,S,τ,fl,S',rs,re,e,fin⟩:=hq_;simp only[Jlo]at e;obtain⟨d,S1,e1,e⟩:=Res.bind_eq_ok e;cases e;exact⟨ρ,S,τ,d,_,rs,re,Res.at_eq_ok e1,fin⟩
theorem Juo{a:M}(xa:SndX C a):SndX C (.rtx a):=by
 refine .of (λhx X c W x g xg h=>?_) (λ_ X c W x g xg h=>fx9 h);cases x<;>try (exact fx9 h)
 rename_i v pos;cases v<;>try (exact fx9 h)
 simp only[Jyj,Bool.and_eq_true]at h;refine PS.imp (Jjd (xa.e X c W _ g xg (by rw[h.2];rfl) h.1)) λD σ H hq_=>?_;obtain⟨ρ,S,τ,cl,τx,S',rs,re,e,fin⟩:=hq_;simp only[Jlo]at e;rcases Res.bind_eq_err e with e1|⟨d,S1,e1,e⟩
 ·obtain⟨rfl,τ0,e1⟩:=Res.at_eq_err e1;exact⟨ρ,S,τx,cl,τ0,S',rs,re,e1,λρ' H' Cv fu r hc=>fin ρ' σ H' Cv fu r (re.fut fu) hc⟩
 ·cases e
theorem Jqw{i:Nat}{a:M}{te:TE}{X:Cx}{c:Ck}{x:Stmt}(g:Gd X C c)(h:chkS (.asq i a) c x=true)(he:∀v,chkE a c v=true->xE c.xz a=true->PE X v te):PS X x (λD σ H=>te σ H λd H1=>D.nx (σ.set i (some d)) H1):=by
 cases x<;>try (exact fx9 h)
 rename_i tgs v pos;rcases tgs with _|⟨tg,_|⟨t2,tgs⟩⟩<;>try (exact fx9 h)
 all_goals (cases tg<;>try (exact fx9 h))
 simp only[Jz2,Bool.and_eq_true,beq_iff_eq,Bool.not_eq_true']at h;obtain⟨⟨⟨⟨h0,h1⟩,h2⟩,h3⟩,h4⟩:=h;obtain⟨o1,o2⟩:=g.own h1;exact PS.imp (Jjf (he v h3 h4) (Jfc g.nd (by rw[g.N];exact h0) o1 o2) (by unfold swapsWithSole;exact Jej h2) rfl rfl) λD σ H q=>q
theorem Jsd{i:Nat}{a:M}(ha:Snd C a):∀(X:Cx) (c:Ck) (x:Stmt),Gd X C c->chkS (.asq i a) c x=true->PS X x (tS X.K C (.asq i a)):=by
 intro X c x g h;refine PS.imp (Jqw g h λv hv _=>ha.e X c v g hv) λD σ H hq_=>?_;obtain⟨ρ,S,τ,fl,S',rs,re,e,fin⟩:=hq_;simp only[Jlp]at e;obtain⟨d,S1,e1,e⟩:=Res.bind_eq_ok e;split at e
 ·cases e;exact⟨ρ,S,τ,d,_,rs,re,Res.at_eq_ok e1,λρ1 v1 H1 f1 r1 q1=>fin ρ1 _ H1 f1 r1 ((re.fut f1).set q1 i)⟩
 ·cases e
theorem Ju5{i:Nat}{a:M}(xa:SndX C a):SndX C (.asq i a):=by
 refine .of (λhx X c W x g xg h=>?_) (λ_ X c W x g xg h=>fx9 h);refine PS.imp (Jqw g h λv hv hz=>xa.e X c W v g xg (by rw[hz];rfl) hv) λD σ H hq_=>?_;obtain⟨ρ,S,τ,cl,τx,S',rs,re,e,fin⟩:=hq_;simp only[Jlp]at e;rcases Res.bind_eq_err e with e1|⟨d,S1,e1,e⟩
 ·obtain⟨rfl,τ0,e1⟩:=Res.at_eq_err e1;exact⟨ρ,S,τx,cl,τ0,S',rs,re,e1,λρ' H' Cv fu r hc=>fin ρ' σ H' Cv fu r (re.fut fu) hc⟩
 ·split at e<;>cases e
theorem Jr0{a:M}(ha:Snd C a):∀(X:Cx) (c:Ck) (x:Stmt),Gd X C c->chkS (.kls a) c x=true->PS X x (tS X.K C (.kls a)):=by
 intro X c x g h;rw[Jz1]at h;refine PS.imp (ha.s X c x g h) λD σ H hq_=>?_;obtain⟨ρ,S,τ,fl,S',rs,re,e,fin⟩:=hq_;exact⟨ρ,S,τ,fl,S',rs,re,Res.kl_eq_ok e,fin⟩
theorem Jut{a:M}:SndX C (.kls a):=by
 refine .of (λhx X c W x g xg h=>λpins s σ H D I q=>?_) (λ_ X c W x g xg h=>fx9 h);obtain⟨ρ,S,τ,cl,τx,S',rs,re,e,fin⟩:=q;exact absurd e Res.kl_ne
theorem PT.or{X:Cx}{e:Expr}{t u:TT}(h:PT X e t)(k:PT X e u):PT X e (λσ H Q=>t σ H Q\/u σ H Q):=λpins s σ H Q I q=>q.elim (h pins s σ H Q I) (k pins s σ H Q I)
theorem Jr4{t a b:M}(ht:Snd C t)(ha:Snd C a)(hb:Snd C b):∀(X:Cx) (c:Ck) (x:Stmt),Gd X C c->chkS (.ifq t a b) c x=true->PS X x (tS X.K C (.ifq t a b)):=by
 intro X c x g h;cases x<;>try (exact fx9 h)
 simp only[Jyi,Bool.and_eq_true]at h;refine PS.imp (Jkd (ht.t X c _ g h.1.1.1) (ha.b X c _ g h.1.1.2) (hb.b X c _ g h.1.2)) λD σ H hq_=>?_;obtain⟨ρ,S,τ,fl,S',rs,re,e,fin⟩:=hq_;simp only[Jln]at e;obtain⟨k,S1,e1,e⟩:=Res.bind_eq_ok e;refine⟨ρ,S,τ,k,S1,rs,re,Res.at_eq_ok e1,λρ1 H1 f1 r1=>?_⟩;cases k with
 |true=>exact iteT ⟨ρ1,S1,τ,fl,S',r1,re.fut f1,e,fin.fut f1⟩
 |false=>exact iteF ⟨ρ1,S1,τ,fl,S',r1,re.fut f1,e,fin.fut f1⟩
theorem Juw{t a b:M}(ht:Snd C t)(xt:SndX C t)(hax:SndX C a)(hbx:SndX C b):SndX C (.ifq t a b):=by
 refine .of (λhx X c W x g xg h=>?_) (λ_ X c W x g xg h=>fx9 h);obtain⟨hxa,hxb⟩:=Bool.and_eq_true_iff.mp (show(xM a&&xM b)=true from hx);cases x<;>try (exact fx9 h)
 simp only[Jyi,Bool.and_eq_true]at h;refine PS.imp (Jkd (PT.or (ht.t X c _ g h.1.1.1) (xt.t X c W _ g xg h.2 h.1.1.1)) (hax.b hxa X c W _ g xg h.1.1.2) (hbx.b hxb X c W _ g xg h.1.2)) λD σ H hq_=>?_;obtain⟨ρ,S,τ,cl,τx,S',rs,re,e,fin⟩:=hq_;simp only[Jln]at e;rcases Res.bind_eq_err e with e1|⟨k,S1,e1,e⟩
 ·obtain⟨rfl,τ0,e1⟩:=Res.at_eq_err e1;exact .inr ⟨ρ,S,τx,cl,τ0,S',rs,re,e1,λρ' H' Cv fu r hc=>fin ρ' σ H' Cv fu r (re.fut fu) hc⟩
 refine .inl ⟨ρ,S,τ,k,S1,rs,re,Res.at_eq_ok e1,λρ1 H1 f1 r1=>?_⟩;cases k with
 |true=>exact iteT ⟨ρ1,S1,τ,cl,τx,S',r1,re.fut f1,e,λρ2 σ2 H2 Cv f2=>fin ρ2 σ2 H2 Cv (f1.trans f2)⟩
 |false=>exact iteF ⟨ρ1,S1,τ,cl,τx,S',r1,re.fut f1,e,λρ2 σ2 H2 Cv f2=>fin ρ2 σ2 H2 Cv (f1.trans f2)⟩
section
variable {X:Cx} {pins:List (Addr×PySem.Obj)} {ea:Addr} {oe:PySem.Obj} {Ca:Addr}
theorem Jto(hoe:oe.cls=.ref Ca)(x:ExcCl X.K Ca)(hcl:(PySem.W.clsIn X.K Ca).isSome=true){c:Value}{v:V}{b:Bool}(rv:∀u,RelV v u->u=c)(hk:PySem.W.kitOne X.K (.ref Ca) c=some b):CallR (X.hand pins ea oe) (.builtin "isinstance") (λxs H Q=>xs=[.ref ea,v]/\Q (.bl b) H):=by
 intro pins' s σ H xs us Q I r hq_;obtain⟨rfl,q⟩:=hq_;obtain⟨u,w,rfl,ru,rw'⟩:=Jj4 r;cases(show u=.ref ea from ru);cases rv w rw';have hp:=(I.pin (ea,oe) (by simp)).1;exact Jpg x hcl I.kIn ⟨oe,hp,hoe⟩ hk λtk=>⟨.bl b,H,I.tok _,rfl,q⟩
theorem Gd.hand_glo{C:Pr}{c:Ck}(g:Gd X C c){x:Str}(h:c.gl x=true):Gl (X.hand pins ea oe) x:=g.glo h
theorem Jt6:bootBuiltins (Str.ofString "ValueError")=some (.type "ValueError"):=by kernel_rfl
theorem Jme{C:Pr}{c:Ck}{n:Nat}(g:Gd X C c)(hoe:oe.cls=.ref Ca)(x:ExcCl X.K Ca)(hcl:(PySem.W.clsIn X.K Ca).isSome=true){t:String}{b:Bool}{e:Expr}(h:Jkq c n t e=true)(ht:IsC X.K X.mg Ca t b){r:List Expr}{tr:TA}(hr:PA (X.hand pins ea oe) r tr):
  PA (X.hand pins ea oe) (e::r) (λσ H Q=>σ[n]? =some (some (.ref ea))/\tr σ H (λvs H1=>Q (.bl b::vs) H1)):=by
 cases e<;>try (exact fx9 h)
 rename_i fn as kws pos;cases fn<;>try (exact fx9 h)
 rcases as with _|⟨a0,_|⟨a1,_|⟨a2,as⟩⟩⟩<;>try (exact fx9 h)
 all_goals (cases a0<;>try (exact fx9 h))
 all_goals (cases a1<;>try (exact fx9 h))
 cases kws<;>try (exact fx9 h)
 simp only[Jkq,Bool.and_eq_true,beq_iff_eq]at h;obtain⟨⟨⟨⟨⟨⟨⟨⟨rfl,h1⟩,h2⟩,h3⟩,h4⟩,h5⟩,rfl⟩,h6⟩,h7⟩:=h;rename_i q1 y q2 q3;have pv:∀p,PE (X.hand pins ea oe) (.Name y p) (L2.tVar n):=λp=>Jfd (X:=X.hand pins ea oe) (by show X.N[n]? =_;rw[g.N];exact h3) (g.vis h4) (dbg1 h5) (dbg2 h5);have pc:∀(v:V) (c:Value),(∀u,RelV v u->u=c)->PySem.W.kitOne X.K (.ref Ca) c=some b->(∀p,PE (X.hand pins ea oe) (.Name (Str.ofString t) p) (L2.tC v))->∀p1 p2 p3 pos,PE (X.hand pins ea oe) (.Call (.Name (Str.ofString "isinstance") p1) [.Name y p2,.Name (Str.ofString t) p3] [] pos) (λσ H Q=>σ[n]? =some (some (.ref ea))/\Q (.bl b) H):=λv c rv hk pn p1 p2 p3 pos=>
  PE.imp (Je0 (Jto hoe x hcl rv hk) (g.hand_glo h1) (g.top.blt _ (Jag h2)) (by kernel_rfl) (Jbj (pv p2) (Jbj (pn p3) Jds)) (by decide+kernel) (by decide+kernel)) λσ H Q q=>⟨_,q.1,rfl,q.2⟩
 have one:∀p1 p2 p3 pos,PE (X.hand pins ea oe) (.Call (.Name (Str.ofString "isinstance") p1) [.Name y p2,.Name (Str.ofString t) p3] [] pos) (λσ H Q=>σ[n]? =some (some (.ref ea))/\Q (.bl b) H):=by
  rcases ht with⟨Ct,m1,k1⟩|⟨rfl,m1,k1⟩
  ·exact pc (.ref Ct) (.ref Ct) (λu z=>z) k1 λp=>Jmf (X:=X.hand pins ea oe) (g.hand_glo h6) m1 rfl (dbg1 h7)
  ·exact pc (.ty "ValueError") (.type "ValueError") (λu z=>z) k1 λp=>Jmg (X:=X.hand pins ea oe) (g.hand_glo h6) m1 Jt6 rfl (by decide+kernel) (dbg1 h7)
 exact Jbj (one _ _ _ _) hr
theorem Jmi{C:Pr}{c:Ck}{n:Nat}(g:Gd X C c)(hoe:oe.cls=.ref Ca)(x:ExcCl X.K Ca)(hcl:(PySem.W.clsIn X.K Ca).isSome=true):∀(ts:List String) (bs:List Bool) (es:List Expr),bs.length=ts.length->chkIs c n ts es=true->(∀t b,(t,b)∈ts.zip bs->IsC X.K X.mg Ca t b)->
  PA (X.hand pins ea oe) es (λσ H Q=>σ[n]? =some (some (.ref ea))/\Q (bs.map V.bl) H)
 |[],[],[],_,_,_=>λpos pins' s σ H Q I q=>Jds pos pins' s σ H Q I q.2
 |[],_::_,_,h,_,_=>by cases h
 |_::_,[],_,h,_,_=>by cases h
 |[],[],e::es,_,h,_=>fx9 h
 |t::ts,b::bs,[],_,h,_=>fx9 h
 |t::ts,b::bs,e::es,hl,h,ht=>by
  obtain⟨h1,h8⟩:=Bool.and_eq_true_iff.mp (show(Jkq c n t e&&chkIs c n ts es)=true from h);exact PA.imp (Jme g hoe x hcl h1 (ht t b List.mem_cons_self) (Jmi g hoe x hcl ts bs es (by simpa using hl) h8 λt b z=>ht t b (List.mem_cons_of_mem _ z))) λσ H Q q=>⟨q.1,q.1,q.2⟩
theorem RelDs.bools{K:PySem.W.Frag}{ρ:List Addr}{H:Hp}:∀bs:List Bool,RelDs K ρ H (bs.map D.bl) (bs.map V.bl)
 |[]=>RelDs.nil
 |b::bs=>RelDs.cons (RelD.bl b) (RelDs.bools bs)
theorem Jk1:∀{l:List (String×List Bool)} {a:String} {b:List Bool},l.lookup a=some b->(a,b)∈l
 |[],a,b,h=>by cases h
 |(x,y)::l,a,b,h=>by
  rw[List.lookup_cons]at h;split at h
  ·rename_i e;cases h;rw[beq_iff_eq.mp e];exact List.mem_cons_self
  ·exact List.mem_cons_of_mem _ (Jk1 h)
theorem RelE.caught{K:PySem.W.Frag}{ρ:List Addr}{H:Hp}{τ:En}{σ:L2.St}{n j:Nat}{d:D}{v w:V}(r:RelE K ρ H τ σ)(q:RelD K ρ H d v)(hnj:n≠j):RelE K ρ H ((τ.set n none).set j (some d)) (((σ.set n (some w)).set j (some v)).set n none):=by
 have hl:=r.len;refine⟨by simpa using hl,λi e h=>?_⟩
 by_cases hi:i=j
 ·subst hi;rw[List.getElem?_set]at h;rw[List.getElem?_set_ne hnj,List.getElem?_set];simp only[if_true,List.length_set]at h ⊢;split at h
  ·rename_i hlt;have h:d=e:=by simpa using h
   subst h;rw[if_pos (by rw[<-hl];exact hlt)];exact⟨v,rfl,q⟩
  ·cases h
 ·rw[List.getElem?_set_ne (Ne.symm hi)]at h
  by_cases hn:i=n
  ·subst hn;rw[List.getElem?_set]at h;simp only[if_true]at h;split at h<;>cases h
  ·rw[List.getElem?_set_ne (Ne.symm hn)]at h;rw[List.getElem?_set_ne (Ne.symm hn),List.getElem?_set_ne (Ne.symm hi),List.getElem?_set_ne (Ne.symm hn)];exact r.at' i e h
theorem Jub{α β:Type}{f:α->β}{xs:List α}{i:Int}:atI (xs.map f) i=(atI xs i).map f:=by
 unfold atI;rw[List.length_map];cases ixN xs.length i with
 |none=>rfl
 |some j=>exact List.getElem?_map
theorem Jrq{C:Pr}{b:M}{cl:String}{n j l w:Nat}{t0:String}{ts N:List String}{keep:List Nat}{tab:List (String×List Bool)}(hb:Snd C b)(hbx:SndX C b):∀(X:Cx) (c:Ck) (x:Stmt),Gd X C c->chkS (.trh b cl n j l w t0 ts N keep tab) c x=true->PS X x (tS X.K C (.trh b cl n j l w t0 ts N keep tab)):=by
 intro X c x g h;rw[Jz0]at h;split at h<;>try (exact fx9 h)
 rename_i q hq;obtain rfl:=Juj hq;clear hq;obtain⟨body,y,yp,nm,v,vp,es,lp,sp,u,up,e0,v2,vp2,wn,wp,xp,lp2,sp2,ln,q1,x,p1,x2,p2,v3,p3,x3,p4,sc,lp3,q2,k,kk,q3,q4,hbs,ip,hp,pos⟩:=q;dsimp only at h ⊢;rw[Bool.and_eq_true]at h;obtain⟨h,h'⟩:=h;simp only[Bool.and_eq_true,beq_iff_eq]at h h';obtain⟨⟨⟨⟨⟨⟨⟨⟨⟨⟨⟨hfn,hxm⟩,hbd⟩,rfl⟩,hgl⟩,hdb⟩,hn⟩,hloc⟩,hj⟩,hown⟩,his⟩,htab⟩:=h;obtain⟨⟨⟨⟨⟨⟨⟨⟨⟨⟨⟨⟨⟨⟨⟨⟨⟨⟨⟨hl,hownl⟩,his0⟩,rfl⟩,rfl⟩,vv⟩,dv⟩,hw⟩,vw⟩,dw⟩,rfl⟩,gln⟩,bln⟩,rfl⟩,rfl⟩,hcomp⟩,hx0⟩,hxl⟩,dx⟩,rfl⟩:=h';have bX:=g.body hfn;intro pins s σ H D I hq_;obtain⟨ρ,S,τ,fl,S',rs,re,e,fin⟩:=hq_;simp only[Jsk]at e;refine Jri ?_;have gb:∀{LK:Value->Shared->Prop},PassesOwn (model X.prog X.w) X.A X.env LK->Gd (X.pinned pins LK) C {c with rs:=false}:=λpo=>⟨g.N,g.nd,g.names,g.sk,g.fn,g.calm,po,λ_=>⟨bX.stk,bX.fr,bX.ex⟩,g.top⟩
 cases eb:evB C b τ S with
 |bad=>rw[eb]at e;cases e
 |ok fl1 S1=>
  rw[eb]at e;cases e;exact(hb.b _ _ body (gb PassesOwn.looking) hbd) [] s σ H D I.pinX ⟨ρ,S,τ,fl,S',rs,re,eb,fin⟩
 |err cx τx S1=>
  rw[eb]at e;simp only[trhD]at e;split at e<;>try (cases e;done)
  rename_i b0 bs kw hlk hwk;split at e<;>try (cases e;done)
  rename_i b1 hat;split at e<;>try (cases e;done)
  rename_i hc;cases e;simp only[Bool.and_eq_true,decide_eq_true_eq,bne_iff_ne]at hc;obtain⟨⟨⟨⟨⟨⟨⟨⟨⟨hc1,hc2⟩,hc3⟩,nj⟩,nl⟩,jl⟩,wn'⟩,wj⟩,hc4⟩,hc5⟩:=hc;have ht:=(List.all_eq_true.mp htab) _ (Jk1 hlk);simp only[Bool.and_eq_true,beq_iff_eq]at ht;obtain⟨Cc,Ca,hmC,hnC,hexm,hx1,hx2,hall⟩:=g.top.exs cl cx ((t0::ts).zip (b0::bs)) (by simpa using ht.2);obtain⟨o1,o2⟩:=g.own hown;obtain⟨o3,o4⟩:=g.own hownl;refine(hbx.b hxm _ _ (λCv σ' H'=>∃ρ',Fut X.K ρ H ρ' H'/\RelS X.K ρ' S1 H'/\RelE X.K ρ' H' τx σ'/\ClsOf X.K cx Cv) body (gb PassesOwn.looking) ⟨λpins' σ' H0 s0 s1 e E I0 cx1 hE=>?_,λz=>fx9 z,λz=>fx9 z⟩ hbd) [] s σ H D I.pinX
   ⟨ρ,S,τ,cx,τx,S1,rs,re,eb,λρ' σ' H' Cv fu r1 r2 hc'=>⟨ρ',fu,r1,r2,hc'⟩⟩
  obtain⟨ea,C',a0,B,H',rfl,hE',f⟩:=CX1.fly I0.unpinX cx1;obtain⟨ρ',fu,r1,r2,hc'⟩:=hE _ _ hE';unfold ClsOf at hc';rw[hnC]at hc';cases hc';obtain⟨vw0,ew,rw0⟩:=r2.at' w _ hwk;cases rw0.int_inv;have ln1:bs.length=ts.length:=by simpa using ht.1
  refine f.catch (th:=λD σ H=>σ[n]? =some (some (.ref ea))/\σ[w]? =some (some (.int kw))/\j<σ.length/\∀l1,H l1=none->∀l2,upd H l1 (.lst (bs.map V.bl)) l2=none->∀l3,upd (upd H l1 (.lst (bs.map V.bl))) l2 (.lst [.bl b0,.bl b1]) l3=none->D.nx ((σ.set j (some (.ref l1))).set l (some (.ref l2))) (upd (upd (upd H l1 (.lst (bs.map V.bl))) l2 (.lst [.bl b0,.bl b1])) l3 (.lst ((bs.filter id).map V.bl)))) bX g.nd (by rw[g.N];exact hn) (by rw[g.names];exact hloc) (g.glo hgl) hmC (dbg1 hdb) hexm (λoe hoe hv=>?_) ⟨?_,?_,?_,λl1 n1 l2 n2 l3 n3=>?_⟩
  ·have s1:=Jjf (X:=X.hand pins ea oe) (pos:=sp) (Jmd (pos:=lp) (Jmi (pins:=pins) (ea:=ea) g hoe hx1 hx2 ts bs es ln1 his λt b z=>hall t b (List.mem_cons_of_mem _ z))) (Jfc (X:=X.hand pins ea oe) (pos:=vp) g.nd (by show X.N[j]? =_;rw[g.N];exact hj) o1 o2) rfl rfl rfl;have pj:∀p,PE (X.hand pins ea oe) (.Name v p) (L2.tVar j):=λp=>Jfd (X:=X.hand pins ea oe) (by show X.N[j]? =_;rw[g.N];exact hj) (g.vis vv) (dbg1 dv) (dbg2 dv);have pw:∀p,PE (X.hand pins ea oe) (.Name wn p) (L2.tVar w):=λp=>Jfd (X:=X.hand pins ea oe) (by show X.N[w]? =_;rw[g.N];exact hw) (g.vis vw) (dbg1 dw) (dbg2 dw);have s2:=Jjf (X:=X.hand pins ea oe) (pos:=sp2) (Jmd (pos:=lp2) (Jme (pins:=pins) (ea:=ea) g hoe hx1 hx2 his0 (hall t0 b0 List.mem_cons_self) (Jbj (Js6 (pos:=xp) (Jm0 (X:=X.hand pins ea oe)) (pj vp2) (pw wp) λ_ _=>rfl) Jds))) (Jfc (X:=X.hand pins ea oe) (pos:=up) g.nd (by show X.N[l]? =_;rw[g.N];exact hl) o3 o4) rfl rfl rfl;have ck:=Ck.compOk g hcomp;have s3:=Jkd (X:=X.hand pins ea oe) (pos:=ip) (Jwe (q1:=q1) (q2:=q2) (q3:=q3) (q4:=q4) (k:=kk) (n:=1) (Jow (p1:=p1) (p2:=p2) (p3:=p3) (p4:=p4) (lp:=lp3) (pins:=pins) (ea:=ea) (j:=j) ck.1 ck.2 hx0 hxl (dbg1 dx) (dbg2 dx) hv (by rw[g.N];exact hj) (g.vis vv) (dbg1 dv) (dbg2 dv)) (g.glo gln) (g.top.blt _ (Jag bln)) rfl) (show PSs (X.hand pins ea oe) hbs (λ_ _ _=>False)from λ_ _ _ _ _ _ z=>z.elim) Jl4;refine PSs.imp (Jez s1 (Jez s2 (Jsv s3))) λD σ H q=>?_;obtain⟨qn,qw,qj,q⟩:=q;have zl:bs.length<=sizeLine:=by rw[<-Jak];exact hc4
   refine⟨qn,by rw[List.length_map];exact zl,λl1 n1=>?_⟩;have qj1:(σ.set j (some (V.ref l1)))[j]? =some (some (.ref l1)):=List.getElem?_set_self qj;have sq1:SqL X.K (upd H l1 (.lst (bs.map V.bl))) l1 (bs.map V.bl):=SqL.of (by simp[upd]);refine⟨by rw[List.getElem?_set_ne (Ne.symm nj)];exact qn,_,qj1,_,by rw[List.getElem?_set_ne (Ne.symm wj)];exact qw,l1,bs.map V.bl,kw,.bl b1,rfl,rfl,sq1,?_,(show 2<=sizeLine by decide+kernel),λl2 n2=>?_⟩
   ·rw[Jub,hat];rfl
   ·have ne:l2≠l1:=λz=>by rw[z]at n2;simp[upd]at n2
    refine⟨l1,bs,(List.getElem?_set_ne (Ne.symm jl)).trans qj1,SqL.of (by simp[upd,Ne.symm ne]),zl,λl3 n3=>?_⟩;rw[show decide ((1:Int)<((bs.filter id).length:Int))=false from decide_eq_false (by omega)];exact(show(if false=true then False else D.nx _ _)from by rw[if_neg Bool.false_ne_true];exact q l1 n1 l2 n2 l3 n3)
  ·rw[List.getElem?_set_self (by rw[<-r2.len];exact hc1)]
  ·rw[List.getElem?_set_ne (Ne.symm wn')];exact ew
  ·rw[List.length_set,<-r2.len];exact hc2
  ·have f1:=Jcp (K:=X.K) (ρ:=ρ') (o:=HO.lst (bs.map V.bl)) n1 [l1];have f2:=Jcp (K:=X.K) (ρ:=ρ'++[l1]) (o:=HO.lst [.bl b0,.bl b1]) n2 [l2];have f3:=Jcz (K:=X.K) (ρ:=(ρ'++[l1])++[l2]) (o:=HO.lst ((bs.filter id).map V.bl)) n3;have ra:=r1.alloc n1 (RelDs.bools (K:=X.K) (ρ:=ρ') (H:=H') bs);have rb:=ra.alloc n2 (RelDs.bools (K:=X.K) [b0,b1]);have rc:=rb.new (o:=HO.lst ((bs.filter id).map V.bl)) n3;have d1:RelD X.K (ρ'++[l1]) (upd H' l1 (.lst (bs.map V.bl))) (.loc S1.length) (.ref l1):=by
    simp only[RelD];exact⟨l1,rfl,by rw[<-r1.len,List.getElem?_append_right (Nat.le_refl _),Nat.sub_self];rfl⟩
   have re1:=(((r2.fut f1).caught (w:=.ref ea) d1 nj).fut (f2.trans f3)).set (d:=.loc (S1.length+1)) (v:=.ref l2) (by
    simp only[RelD];exact⟨l2,rfl,by rw[<-r1.len,List.getElem?_append_right (by simp),List.length_append,List.length_singleton,Nat.sub_self];rfl⟩) l
   refine fin _ _ _ (fu.trans (f1.trans (f2.trans f3))) rc ?_;show RelE _ _ _ _ (List.set (List.set (List.set _ _ _) _ _) _ _);rw[List.set_comm _ _ (Ne.symm nl)];exact re1
end
end
end Mi
namespace Mi
open PySem L2
noncomputable def kd:M->Nat
 |.nul=>0|.cns _ _=>0
 |.rng _=>2|.enm _=>2
 |.tvar _=>3|.ttup _=>3|.tsub _ _=>3
 |.asg _ _=>4|.ifs _ _ _=>4|.forr _ _ _=>4|.whl _ _=>4|.ret _=>4|.exp _=>4|.rse=>4|.ifx _ _ _=>4|.rsx _=>4|.rtk _=>4|.exx _=>4|.asq _ _=>4|.rtx _=>4|.kls _=>4|.ifq _ _ _=>4|.acx _ _=>4|.trh _ _ _ _ _ _ _ _ _ _ _=>4
 |_=>1
theorem kd_E{m:M}{c:Ck}{x:Expr}(h:chkE m c x=true):kd m=1:=by
 cases m<;>first|rfl|(exact fx9 h)
theorem kd_A{m:M}{c:Ck}{x:List Expr}(h:chkA m c x=true):kd m=0:=by
 cases m<;>first|rfl|(exact fx9 h)
theorem kd_O{m:M}{c:Ck}{x:Option Expr}(h:chkO m c x=true):kd m=0:=by
 cases m<;>first|rfl|(exact fx9 h)
theorem kd_C{m:M}{c:Ck}{x:List Expr}(h:chkC m c x=true):kd m=0:=by
 cases m<;>first|rfl|(exact fx9 h)
theorem kd_I{m:M}{c:Ck}{x:Expr}(h:chkI m c x=true):kd m=0\/kd m=2:=by
 cases m<;>first|exact .inl rfl|exact .inr rfl|(exact fx9 h)|(cases x<;>exact fx9 h)
theorem kd_G{m:M}{c:Ck}{x:Expr}(h:chkG m c x=true):kd m=3:=by
 cases m<;>first|rfl|(exact fx9 h)|(cases x<;>exact fx9 h)
theorem Jph{m:M}{c:Ck}{x:List Expr}(h:chkGs m c x=true):kd m=0:=by
 cases m<;>first|rfl|(exact fx9 h)
theorem kd_S{m:M}{c:Ck}{x:Stmt}(h:chkS m c x=true):kd m=4:=by
 cases m<;>first|rfl|(exact fx9 h)|(cases x<;>exact fx9 h)
theorem kd_B{m:M}{c:Ck}{x:List Stmt}(h:chkB m c x=true):kd m=0:=by
 cases m<;>first|rfl|(exact fx9 h)
section
variable {C:Pr}
theorem Snd.ofE{m:M}(hk:kd m=1)(he:∀(X:Cx) (c:Ck) (x:Expr),Gd X C c->chkE m c x=true->PE X x (tE X.K C m))(ht:∀(X:Cx) (c:Ck) (x:Expr),Gd X C c->chkE m c x=true->PT X x (tT X.K C m)):Snd C m where
 e:=he
 t:=ht
 a:=λX c x g h=>absurd ((kd_A h).symm.trans hk) (by decide)
 bv:=λX c w x p g h=>absurd ((kd_A h).symm.trans hk) (by decide)
 bt:=λX c w x p g h=>absurd ((kd_A h).symm.trans hk) (by decide)
 o:=λX c x g h=>absurd ((kd_O h).symm.trans hk) (by decide)
 cd:=λX c x g h=>absurd ((kd_C h).symm.trans hk) (by decide)
 i:=λX c tg x g h _=>(kd_I h).elim (λz=>absurd (z.symm.trans hk) (by decide)) (λz=>absurd (z.symm.trans hk) (by decide))
 g:=λX c x g h=>absurd ((kd_G h).symm.trans hk) (by decide)
 gs:=λX c x g h=>absurd ((Jph h).symm.trans hk) (by decide)
 s:=λX c x g h=>absurd ((kd_S h).symm.trans hk) (by decide)
 b:=λX c x g h=>absurd ((kd_B h).symm.trans hk) (by decide)
theorem Snd.ofI{m:M}(hk:kd m=2)(hi:∀(X:Cx) (c:Ck) (tg x:Expr),Gd X C c->chkI m c x=true->itT m tg=true->PI X tg x (tI X.K C m)/\∀v,foldedSetIterable x X.env v=pure v):Snd C m where
 e:=λX c x g h=>absurd ((kd_E h).symm.trans hk) (by decide)
 t:=λX c x g h=>absurd ((kd_E h).symm.trans hk) (by decide)
 a:=λX c x g h=>absurd ((kd_A h).symm.trans hk) (by decide)
 bv:=λX c w x p g h=>absurd ((kd_A h).symm.trans hk) (by decide)
 bt:=λX c w x p g h=>absurd ((kd_A h).symm.trans hk) (by decide)
 o:=λX c x g h=>absurd ((kd_O h).symm.trans hk) (by decide)
 cd:=λX c x g h=>absurd ((kd_C h).symm.trans hk) (by decide)
 i:=hi
 g:=λX c x g h=>absurd ((kd_G h).symm.trans hk) (by decide)
 gs:=λX c x g h=>absurd ((Jph h).symm.trans hk) (by decide)
 s:=λX c x g h=>absurd ((kd_S h).symm.trans hk) (by decide)
 b:=λX c x g h=>absurd ((kd_B h).symm.trans hk) (by decide)
theorem Snd.ofG{m:M}(hk:kd m=3)(hg:∀(X:Cx) (c:Ck) (x:Expr),Gd X C c->chkG m c x=true->PG X x (tG X.K C m)):Snd C m where
 e:=λX c x g h=>absurd ((kd_E h).symm.trans hk) (by decide)
 t:=λX c x g h=>absurd ((kd_E h).symm.trans hk) (by decide)
 a:=λX c x g h=>absurd ((kd_A h).symm.trans hk) (by decide)
 bv:=λX c w x p g h=>absurd ((kd_A h).symm.trans hk) (by decide)
 bt:=λX c w x p g h=>absurd ((kd_A h).symm.trans hk) (by decide)
 o:=λX c x g h=>absurd ((kd_O h).symm.trans hk) (by decide)
 cd:=λX c x g h=>absurd ((kd_C h).symm.trans hk) (by decide)
 i:=λX c tg x g h _=>(kd_I h).elim (λz=>absurd (z.symm.trans hk) (by decide)) (λz=>absurd (z.symm.trans hk) (by decide))
 g:=hg
 gs:=λX c x g h=>absurd ((Jph h).symm.trans hk) (by decide)
 s:=λX c x g h=>absurd ((kd_S h).symm.trans hk) (by decide)
 b:=λX c x g h=>absurd ((kd_B h).symm.trans hk) (by decide)
theorem Snd.ofS{m:M}(hk:kd m=4)(hs:∀(X:Cx) (c:Ck) (x:Stmt),Gd X C c->chkS m c x=true->PS X x (tS X.K C m)):Snd C m where
 e:=λX c x g h=>absurd ((kd_E h).symm.trans hk) (by decide)
 t:=λX c x g h=>absurd ((kd_E h).symm.trans hk) (by decide)
 a:=λX c x g h=>absurd ((kd_A h).symm.trans hk) (by decide)
 bv:=λX c w x p g h=>absurd ((kd_A h).symm.trans hk) (by decide)
 bt:=λX c w x p g h=>absurd ((kd_A h).symm.trans hk) (by decide)
 o:=λX c x g h=>absurd ((kd_O h).symm.trans hk) (by decide)
 cd:=λX c x g h=>absurd ((kd_C h).symm.trans hk) (by decide)
 i:=λX c tg x g h _=>(kd_I h).elim (λz=>absurd (z.symm.trans hk) (by decide)) (λz=>absurd (z.symm.trans hk) (by decide))
 g:=λX c x g h=>absurd ((kd_G h).symm.trans hk) (by decide)
 gs:=λX c x g h=>absurd ((Jph h).symm.trans hk) (by decide)
 s:=hs
 b:=λX c x g h=>absurd ((kd_B h).symm.trans hk) (by decide)
theorem Jrx:Snd C .nul where
 e:=λX c x g h=>absurd (kd_E h) (by decide)
 t:=λX c x g h=>absurd (kd_E h) (by decide)
 a:=λX c x g h=>by
  cases x with
  |cons e es=>exact fx9 h
  |nil=>
   refine PA.imp Jds λσ H Q hq_=>?_;obtain⟨ρ,S,τ,ds,S',rs,re,e,fin⟩:=hq_;simp only[Jlz]at e;cases e;exact fin ρ [] H Fut.refl rs RelDs.nil
 bv:=λX c w x p g h=>Js5 λσ H Q ⟨ρ,S,τ,ds,S',rs,re,e,fin⟩=>absurd e Jab
 bt:=λX c w x p g h=>λwh pins s σ H Q I ⟨ρ,S,τ,ds,S',rs,re,e,fin⟩=>absurd e Jab
 o:=λX c x g h=>by
  cases x with
  |some e=>exact fx9 h
  |none=>
   refine PO.imp Js1 λσ H Q hq_=>?_;obtain⟨ρ,S,τ,ds,S',rs,re,e,fin⟩:=hq_;simp only[Jvu]at e;cases e;exact fin ρ H Fut.refl rs
 cd:=λX c x g h=>by
  cases x with
  |cons e es=>exact fx9 h
  |nil=>
   refine PTs.imp Jsu λσ H Q hq_=>?_;obtain⟨ρ,S,τ,ds,S',rs,re,e,fin⟩:=hq_;simp only[Jv4]at e;cases e;exact fin ρ H Fut.refl rs
 i:=λX c tg x g h _=>by cases h
 g:=λX c x g h=>absurd (kd_G h) (by decide)
 gs:=Jj9
 s:=λX c x g h=>absurd (kd_S h) (by decide)
 b:=Jlf
theorem Jsb{a b:M}(ha:Snd C a)(hb:Snd C b):Snd C (.cns a b)where
 e:=λX c x g h=>absurd (show 0=1 from kd_E h) (by decide)
 t:=λX c x g h=>absurd (show 0=1 from kd_E h) (by decide)
 a:=λX c x g h=>by
  cases x with
  |nil=>exact fx9 h
  |cons e es=>
   simp only[cA_1,Bool.and_eq_true]at h;refine PA.imp (Jbj (ha.e X c e g h.1) (hb.a X c es g h.2) (Jah (noStar h.1))) λσ H Q hq_=>?_;obtain⟨ρ,S,τ,ds,S',rs,re,e,fin⟩:=hq_;simp only[Jjc]at e;obtain⟨x1,S1,e1,e⟩:=Res.bind_eq_ok e;obtain⟨xs,S2,e2,e⟩:=Res.bind_eq_ok e;cases e;refine⟨ρ,S,τ,x1,S1,rs,re,e1,λρ1 v1 H1 f1 r1 q1=>⟨ρ1,S1,τ,xs,S',r1,re.fut f1,e2,λρ2 vs H2 f2 r2 q2=>?_⟩⟩;exact fin ρ2 _ H2 (f1.trans f2) r2 (RelDs.cons (q1.fut f2) q2)
 bv:=Ju7 ha hb
 bt:=Ju8 ha hb
 o:=λX c x g h=>by
  cases x with
  |none=>cases b<;>exact fx9 h
  |some e=>
   cases b<;>try (exact fx9 h)
   refine PO.imp (Js0 (ha.e X c e g h)) λσ H Q hq_=>?_;obtain⟨ρ,S,τ,o,S',rs,re,e,fin⟩:=hq_;simp only[Jvt]at e;obtain⟨x1,S1,e1,e⟩:=Res.bind_eq_ok e;refine⟨ρ,S,τ,x1,S1,rs,re,e1,λρ1 v1 H1 f1 r1 q1=>?_⟩;cases x1<;>simp only at e<;>try (cases e;done)
   cases e;exact⟨_,q1.int_inv,fin ρ1 H1 f1 r1⟩
 cd:=λX c x g h=>by
  rcases x with _|⟨e,_|⟨e2,es⟩⟩<;>cases b<;>try (exact fx9 h)
  refine PTs.imp (Jl3 (ha.t X c e g h)) λσ H Q hq_=>?_;obtain⟨ρ,S,τ,o,S',rs,re,e,fin⟩:=hq_;simp only[Jv3]at e;exact⟨ρ,S,τ,o,S',rs,re,e,fin⟩
 i:=λX c tg x g h _=>by
  cases b<;>(try (exact fx9 h))<;>try simp only[cI_2]at h
  exact⟨Jk9 ha X c tg x g h,foldset (noSet h)⟩
 g:=λX c x g h=>absurd (show 0=3 from kd_G h) (by decide)
 gs:=Jka ha hb
 s:=λX c x g h=>absurd (show 0=4 from kd_S h) (by decide)
 b:=Jlg ha hb
theorem Jtw{C:Pr}{m:M}(h:∀N k keep tg it cd el,m=.comp N k keep tg it cd el->Snd C tg/\Snd C it/\Snd C cd/\Snd C el/\SndX C el):∀N k keep tg it cd el,m=.comp N k keep tg it cd el->Snd C tg/\Snd C it/\Snd C cd/\Snd C el:=λN k keep tg it cd el e=>by
 have z:=h N k keep tg it cd el e;exact⟨z.1,z.2.1,z.2.2.1,z.2.2.2.1⟩
theorem snd(C:Pr):∀m:M,Snd C m/\(∀N k keep tg it cd el,m=.comp N k keep tg it cd el->Snd C tg/\Snd C it/\Snd C cd/\Snd C el/\SndX C el)/\SndX C m:=by
 intro m;have noT:∀{m:M},(∀τ S,evT C m τ S=.bad)->∀(X:Cx) (c:Ck) (x:Expr),Gd X C c->chkE m c x=true->PT X x (tT X.K C m):=λh X c x _ _=>Jza (Jy2 h)
 induction m with
 |nul=>exact⟨Jrx,⟨λ_ _ _ _ _ _ _ h=>(by cases h),Jur⟩⟩
 |cns a b ha hb=>exact⟨Jsb ha.1 hb.1,⟨λ_ _ _ _ _ _ _ h=>(by cases h),Ju2 ha.1 hb.1 ha.2.2 hb.2.2⟩⟩
 |cst d=>exact⟨.ofE rfl Jsa (noT λτ S=>rfl),⟨λ_ _ _ _ _ _ _ h=>(by cases h),Ju1⟩⟩
 |var i=>exact⟨.ofE rfl (λX c x g h=>(Jk4 X c x g h).1) λX c x g h=>(Jk4 X c x g h).2,⟨λ_ _ _ _ _ _ _ h=>(by cases h),Jum⟩⟩
 |glb x=>exact⟨.ofE rfl Jr6 (noT λτ S=>rfl),⟨λ_ _ _ _ _ _ _ h=>(by cases h),Juy⟩⟩
 |bin o a b ha hb=>exact⟨.ofE rfl (Jsc ha.1 hb.1) (noT λτ S=>rfl),⟨λ_ _ _ _ _ _ _ h=>(by cases h),Ju4 ha.1 hb.1 ha.2.2 hb.2.2⟩⟩
 |neg a ha=>exact⟨.ofE rfl (Jry ha.1) (noT λτ S=>rfl),⟨λ_ _ _ _ _ _ _ h=>(by cases h),.no rfl⟩⟩
 |nott a ha=>exact⟨.ofE rfl (λX c x g h=>(Jk5 ha.1 X c x g h).1) λX c x g h=>(Jk5 ha.1 X c x g h).2,⟨λ_ _ _ _ _ _ _ h=>(by cases h),Jus ha.2.2⟩⟩
 |bo w as ha=>exact⟨.ofE rfl (λX c x g h=>(Jqb ha.1 X c x g h).1) λX c x g h=>(Jqb ha.1 X c x g h).2,⟨λ_ _ _ _ _ _ _ h=>(by cases h),.no rfl⟩⟩
 |cmp o a b ha hb=>exact⟨.ofE rfl (λX c x g h=>(Jle ha.1 hb.1 X c x g h).1) λX c x g h=>(Jle ha.1 hb.1 X c x g h).2,⟨λ_ _ _ _ _ _ _ h=>(by cases h),Ju3 ha.1 hb.1 ha.2.2 hb.2.2⟩⟩
 |cmp2 o p a b d ha hb hd=>exact⟨.ofE rfl (λX c x g h=>(Jiy ha.1 hb.1 hd.1 X c x g h).1) λX c x g h=>(Jiy ha.1 hb.1 hd.1 X c x g h).2,⟨λ_ _ _ _ _ _ _ h=>(by cases h),.no rfl⟩⟩
 |ife t a b ht ha hb=>exact⟨.ofE rfl (Jr5 ht.1 ha.1 hb.1) (noT λτ S=>rfl),⟨λ_ _ _ _ _ _ _ h=>(by cases h),.no rfl⟩⟩
 |tup as ha=>exact⟨.ofE rfl (Jrp ha.1) (noT λτ S=>rfl),⟨λ_ _ _ _ _ _ _ h=>(by cases h),Jun ha.2.2⟩⟩
 |lst as ha=>exact⟨.ofE rfl (Jrz ha.1) (noT λτ S=>rfl),⟨λ_ _ _ _ _ _ _ h=>(by cases h),.no rfl⟩⟩
 |idx a b ha hb=>exact⟨.ofE rfl (λX c x g h=>(Jk8 ha.1 hb.1 X c x g h).1) λX c x g h=>(Jk8 ha.1 hb.1 X c x g h).2,⟨λ_ _ _ _ _ _ _ h=>(by cases h),Jux ha.1 hb.1 ha.2.2⟩⟩
 |sli a l u ha hl hu=>exact⟨.ofE rfl (Jrr ha.1 hl.1 hu.1) (noT λτ S=>rfl),⟨λ_ _ _ _ _ _ _ h=>(by cases h),.no rfl⟩⟩
 |call f as ha=>exact⟨.ofE rfl (λX c x g h=>(Jiz ha.1 X c x g h).1) λX c x g h=>(Jiz ha.1 X c x g h).2,⟨λ_ _ _ _ _ _ _ h=>(by cases h),Jrn ha.1 ha.2.2⟩⟩
 |prim p as ha=>exact⟨.ofE rfl (λX c x g h=>(Jiw ha.1 X c x g h).1) λX c x g h=>(Jiw ha.1 X c x g h).2,⟨λ_ _ _ _ _ _ _ h=>(by cases h),Jrk ha.2.2⟩⟩
 |isi a t ha=>exact⟨.ofE rfl (λX c x g h=>(Jk7 ha.1 X c x g h).1) λX c x g h=>(Jk7 ha.1 X c x g h).2,⟨λ_ _ _ _ _ _ _ h=>(by cases h),.no rfl⟩⟩
 |meth p o as ho ha=>exact⟨.ofE rfl (Jix ho.1 ha.1) (Jk6 ho.1 ha.1),⟨λ_ _ _ _ _ _ _ h=>(by cases h),Jrl ho.1 ha.1 ho.2.2 ha.2.2⟩⟩
 |comp N k keep tg it cd el hg hi hc he=>exact⟨.ofE rfl (Joc hg.1 hi.1 hc.1 he.1) (noT λτ S=>rfl),⟨λ_ _ _ _ _ _ _ h=>(by cases h;exact⟨hg.1,hi.1,hc.1,he.1,he.2.2⟩),Jrm hg.1 hi.1 hc.1 he.1 he.2.2⟩⟩
 |rng a ha=>exact⟨.ofI rfl λX c tg x g h _=>⟨Jla ha.1 X c tg x g h,foldset λa b p z=>by subst z;cases h⟩,⟨λ_ _ _ _ _ _ _ h=>(by cases h),.no rfl⟩⟩
 |enm a ha=>exact⟨.ofI rfl λX c tg x g h ht=>⟨Jlb ha.1 X c tg x g h ht,foldset λa b p z=>by subst z;cases h⟩,⟨λ_ _ _ _ _ _ _ h=>(by cases h),.no rfl⟩⟩
 |dnil=>exact⟨.ofE rfl Job (noT λτ S=>rfl),⟨λ_ _ _ _ _ _ _ h=>(by cases h),.no rfl⟩⟩
 |rse=>exact⟨.ofS rfl Jrv,⟨λ_ _ _ _ _ _ _ h=>(by cases h),.no rfl⟩⟩
 |tvar i=>exact⟨.ofG rfl Jg0,⟨λ_ _ _ _ _ _ _ h=>(by cases h),.no rfl⟩⟩
 |ttup ts ha=>exact⟨.ofG rfl (Jlc ha.1),⟨λ_ _ _ _ _ _ _ h=>(by cases h),.no rfl⟩⟩
 |tsub a b ha hb=>exact⟨.ofG rfl (Jld ha.1 hb.1),⟨λ_ _ _ _ _ _ _ h=>(by cases h),.no rfl⟩⟩
 |asg t e ht he=>exact⟨.ofS rfl (Jlh ht.1 he.1 (Jtw he.2.1)),⟨λ_ _ _ _ _ _ _ h=>(by cases h),.no rfl⟩⟩
 |ifs t a b ht ha hb=>exact⟨.ofS rfl (Jr3 ht.1 ha.1 hb.1),⟨λ_ _ _ _ _ _ _ h=>(by cases h),.no rfl⟩⟩
 |forr t i b ht hi hb=>exact⟨.ofS rfl (Jr7 ht.1 hi.1 hb.1),⟨λ_ _ _ _ _ _ _ h=>(by cases h),Juz ht.1 hi.1 hb.1 hb.2.2⟩⟩
 |whl t b ht hb=>exact⟨.ofS rfl (Jro ht.1 hb.1),⟨λ_ _ _ _ _ _ _ h=>(by cases h),.no rfl⟩⟩
 |ret a ha=>exact⟨.ofS rfl (Jrw ha.1),⟨λ_ _ _ _ _ _ _ h=>(by cases h),.no rfl⟩⟩
 |exp a ha=>exact⟨.ofS rfl (Jr9 ha.1),⟨λ_ _ _ _ _ _ _ h=>(by cases h),.no rfl⟩⟩
 |ifx t a b ht ha hb=>exact⟨.ofS rfl (Jr2 ht.1 ha.1 hb.1),λ_ _ _ _ _ _ _ h=>(by cases h),Juv ht.1 ha.2.2 hb.2.2⟩
 |rsx cl=>exact⟨.ofS rfl Jru,λ_ _ _ _ _ _ _ h=>(by cases h),Juq⟩
 |rtk a ha=>exact⟨.ofS rfl (Jrt ha.1),λ_ _ _ _ _ _ _ h=>(by cases h),Jup⟩
 |kle a ha=>exact⟨.ofE rfl (Jr1 ha.1) (noT λτ S=>rfl),λ_ _ _ _ _ _ _ h=>(by cases h),Juu⟩
 |acx i e he=>exact⟨.ofS rfl (Jse (.ofG rfl Jg0) he.1 (Jtw he.2.1)),λ_ _ _ _ _ _ _ h=>(by cases h),Ju6 he.2.2 (Jtw he.2.1) λN k keep tg it cd el h=>(he.2.1 N k keep tg it cd el h).2.2.2.2⟩
 |kls a ha=>exact⟨.ofS rfl (Jr0 ha.1),λ_ _ _ _ _ _ _ h=>(by cases h),Jut⟩
 |exx a ha=>exact⟨.ofS rfl (Jr8 ha.1),λ_ _ _ _ _ _ _ h=>(by cases h),Ju0 ha.2.2⟩
 |asq i a ha=>exact⟨.ofS rfl (Jsd ha.1),λ_ _ _ _ _ _ _ h=>(by cases h),Ju5 ha.2.2⟩
 |rtx a ha=>exact⟨.ofS rfl (Jrs ha.1),λ_ _ _ _ _ _ _ h=>(by cases h),Juo ha.2.2⟩
 |ifq t a b ht ha hb=>exact⟨.ofS rfl (Jr4 ht.1 ha.1 hb.1),λ_ _ _ _ _ _ _ h=>(by cases h),Juw ht.1 ht.2.2 ha.2.2 hb.2.2⟩
 |trh b x n j l w t0 ts N keep tab hb=>exact⟨.ofS rfl (Jrq hb.1 hb.2.2),λ_ _ _ _ _ _ _ h=>(by cases h),.no rfl⟩
end
end Mi
namespace Mi
open PySem L2
noncomputable def Cn(T:Tb)(G:String->Option D)(W n:Nat):Pr:=⟨callN T G W n,G,W⟩
structure FnB(K:PySem.W.Frag)(T:Tb)(B F:List String)(O:Ow)(f:String)(a:Addr)(fd:FuncData):Prop where
 ex:∃(FN:Fn) (st:Stmt) (nm ql:Str),T f=some FN/\Fun K nm ql st a fd/\FnScope (FN.N.map Str.ofString) (FN.ps.map Str.ofString) (defScope st)/\
  chkB FN.body ⟨FN.N.map Str.ofString,(defScope st).names,true,B,F,O,true⟩ (defBody st)=true/\∀us:List Value,us.length=(FN.ps.map Str.ofString).length->bindArgs fd ⟨us,[]⟩=pure ((FN.ps.map Str.ofString).zip us)
structure Txt(K:PySem.W.Frag)(mg:Str->Option Value)(T:Tb)(G:String->Option D)(B F:List String)(O:Ow):Prop where
 fns:∀f∈F,∃a fd,FnB K T B F O f a fd/\mg (Str.ofString f)=some (.ref a)
 blt:∀x∈B,mg (Str.ofString x)=none
 gl:∀x d,G x=some d->∃v u,mg (Str.ofString x)=some u/\RelV v u/\(∀ρ H,RelD K ρ H d v)/\∀ds,d=.tup ds->∃a o,v=.ref a/\K.lookup a=some o/\o.cls=.type "tuple"/\o.dict=none
 mts:∀c m f,(c,m,f)∈O.mt->∃a fd Ca,FnB K T B F O f a fd/\PySem.W.nsIn K mainGlobals (Str.ofString c)=some (some (.ref Ca))/\L2.Cls K Ca/\L2.Meth K Ca (Str.ofString m) a/\L2.MethB K (Str.ofString m) a
 fds:∀c f,(c,f)∈O.fd->∃Ca,PySem.W.nsIn K mainGlobals (Str.ofString c)=some (some (.ref Ca))/\L2.Cls K Ca/\L2.NoAttr K Ca (Str.ofString f)
 nws:∀c f,(c,f)∈O.nw->∃a fd Ca,FnB K T B F O f a fd/\PySem.W.nsIn K mainGlobals (Str.ofString c)=some (some (.ref Ca))/\mg (Str.ofString c)=some (.ref Ca)/\L2.Mk K Ca a
 rss:∀c∈O.rs,∃Ca,PySem.W.nsIn K mainGlobals (Str.ofString c)=some (some (.ref Ca))/\mg (Str.ofString c)=some (.ref Ca)/\PySem.W.excIn K Ca bmVal "ValueError.__new__"=true
 exs:∀x c ts,(x,c,ts)∈O.ex->∃Cx Ca,mg (Str.ofString x)=some Cx/\PySem.W.nsIn K mainGlobals (Str.ofString c)=some (some (.ref Ca))/\PySem.W.exmOne K (.ref Ca) Cx=some true/\L2.ExcCl K Ca/\(PySem.W.clsIn K Ca).isSome=true/\∀t b,(t,b)∈ts->IsC K mg Ca t b
 rzs:∀f∈O.rz,∃FN,T f=some FN/\xM FN.body=true
section
variable {P:Program} {w:World} {K:PySem.W.Frag} {mg:Str->Option Value} {base:Heap} {T:Tb} {G:String->Option D} {B F:List String} {O:Ow}
theorem RelE.start{ρ:List Addr}{H:Hp}{ds:List D}{vs:List V}{N:List Str}{k:Nat}(r:RelDs K ρ H ds vs)(hk:k=N.length-ds.length):RelE K ρ H (ds.map some++List.replicate k none) (L2.start N vs):=by
 unfold L2.start;rw[<-r.length,<-hk];refine⟨by simp[r.length],λi d h=>?_⟩
 by_cases hi:i<ds.length
 ·rw[List.getElem?_append_left (by simpa using hi),List.getElem?_map]at h;rw[List.getElem?_append_left (by rw[List.length_map,<-r.length];exact hi),List.getElem?_map];cases e:ds[i]? with
  |none=>rw[e]at h;cases h
  |some d'=>
   rw[e]at h;have h:d'=d:=by simpa using h
   subst h;obtain⟨v,hv,q⟩:=r.get e;exact⟨v,by rw[hv];rfl,q⟩
 ·rw[List.getElem?_append_right (by simpa using hi),List.getElem?_replicate]at h;split at h<;>cases h
theorem Jzv(t:Txt K mg T G B F O)(W:Nat):∀(n:Nat) (f:String) (a:Addr) (fd:FuncData),FnB K T B F O f a fd->∀FN,T f=some FN->FnOk P w K mg base (CX1 P w) (2*n) a fd (FN.ps.map Str.ofString) (spX K (Cn T G W n) O.rz f):=by
 intro n
 induction n with
 |zero=>
  intro f a fd hf FN hT;have no:∀{vs:List V} {H:Hp} {Q:VK} {E:XK},¬spX K (Cn T G W 0) O.rz f vs H Q E:=by
   rintro vs H Q E (⟨ρ,S,ds,d,S',_,_,e,_⟩|⟨_,ρ,S,ds,c,τ,S',_,_,e,_⟩)<;>(simp only[Cn,callN]at e;cases e)
  exact⟨λvs H Q E q=>absurd q no,λA outer s H args us vs Q E _ _ _ _ q=>absurd q no⟩
 |succ n ih=>
  intro f a fd hf FN hT;obtain⟨FN',st,nm,ql,hT',FU,sc,ck,bd⟩:=hf.ex;rw[hT]at hT';cases hT';show FnOk P w K mg base (CX1 P w) (2*n+1+1) a fd _ _;refine FU.okX sc (λvs H Q E q=>?_) (λcdv A outer s H vs Q E hr q=>?_)
  ·rcases q with⟨ρ,S,ds,d,S',_,rd,e,_⟩|⟨_,ρ,S,ds,c,τ,S',_,rd,e,_⟩
   all_goals
    simp only[Cn,callN]at e;rw[hT]at e;simp only at e;split at e
    ·rename_i hl;rw[<-rd.length,hl,List.length_map]
    ·cases e
  ·have tp:Tp P w K mg base (A.deeper (PyProof.Rows.envOfC ql (defScope st) s.heap.objs.size a cdv)) (Cn T G W n) B F O:=by
    refine⟨λg hg=>?_,t.blt,t.gl,Nat.lt_of_le_of_lt (Nat.le_refl _) hr.units,λc m g hg=>?_,t.fds,λc g hg=>?_,t.rss,t.exs⟩
    ·obtain⟨b,fd2,hb,hmg⟩:=t.fns g hg;obtain⟨FN2,st2,nm2,ql2,hT2,FU2,sc2,ck2,bd2⟩:=id hb.ex;exact⟨2*n,b,fd2,_,hr.mono (Nat.le_succ _),hmg,ih g b fd2 hb FN2 hT2,.all bd2,FU2.kp⟩
    ·obtain⟨b,fd2,Ca,hb,h1,h2,h3,h4⟩:=t.mts c m g hg;obtain⟨FN2,st2,nm2,ql2,hT2,FU2,sc2,ck2,bd2⟩:=id hb.ex;exact⟨2*n,b,fd2,_,Ca,hr,h1,h2,h3,h4,ih g b fd2 hb FN2 hT2,.all bd2⟩
    ·obtain⟨b,fd2,Ca,hb,h1,h2,h3⟩:=t.nws c g hg;obtain⟨FN2,st2,nm2,ql2,hT2,FU2,sc2,ck2,bd2⟩:=id hb.ex;exact⟨2*n,b,fd2,_,Ca,hr,h1,h2,h3,ih g b fd2 hb FN2 hT2,.all bd2⟩
   have gd:Gd (cxOf (CX1 P w) P w K mg base (FN.N.map Str.ofString) ql (defScope st) a cdv A outer s H E) (Cn T G W n) ⟨FN.N.map Str.ofString,(defScope st).names,true,B,F,O,true⟩:=⟨rfl,sc.nd,rfl,sc.kind,λ_=>rfl,rfl,PassesOwn.leaving,λ_=>⟨rfl,rfl,rfl⟩,tp⟩
   rcases q with⟨ρ,S,ds,d,S',rs,rd,e,fin⟩|⟨hz,ρ,S,ds,c,τ,S',rs,rd,e,fin⟩
   ·refine⟨_,((snd (Cn T G W n) FN.body).1.b _ _ _ gd ck),?_⟩;simp only[Cn,callN]at e;rw[hT]at e;simp only at e;split at e
    ·rename_i hl;obtain⟨fl,S1,e1,e⟩:=Res.bind_eq_ok e;refine⟨ρ,S,_,fl,S1,rs,RelE.start rd (by rw[List.length_map]),e1,?_⟩;cases fl with
     |nx τ=>simp only at e;cases e;exact λρ1 σ1 H1 f1 r1 q1=>fin ρ1 _ H1 f1 r1 RelD.non
     |rt d=>simp only at e;cases e;exact fin
     |bk τ=>simp only at e;cases e
     |ct τ=>simp only at e;cases e
    ·cases e
   ·obtain⟨FN',hT',hx⟩:=t.rzs f hz;rw[hT]at hT';cases hT';have bX:Body (cxOf (CX1 P w) P w K mg base (FN.N.map Str.ofString) ql (defScope st) a cdv A outer s H E):=⟨rfl,rfl,rfl⟩
    refine⟨_,((snd (Cn T G W n) FN.body).2.2.b hx _ _ (λCv _ H'=>E Cv none H') _ gd ⟨λpins σ H1 s1 s' e E' I cx hE=>?_,λ_ pins σ H1 s1 H2 s2 ea Ca a0 B1 wr hd w'=>hd.leave bX w',λ_ pins σ H1 s1 h1 ea Ca us I me w'=>Jki bX I me w'⟩ ck),?_⟩
    ·obtain⟨ea,C',a0,B',H',rfl,hE',f'⟩:=CX1.fly I cx;exact f'.leave bX (hE _ _ hE')
    ·simp only[Cn,callN]at e;rw[hT]at e;simp only at e;split at e
     ·rename_i hl;rcases Res.bind_eq_err e with e1|⟨fl,S1,e1,e⟩
      ·exact⟨ρ,S,_,c,τ,S',rs,RelE.start rd (by rw[List.length_map]),e1,λρ' σ' H' Cv fu r1 r2 hc=>fin ρ' H' Cv fu r1 hc⟩
      ·cases fl<;>(simp only at e;cases e)
     ·cases e
theorem Jxg{T:Tb}{G:String->Option D}{W n:Nat}(h:∀ns:List Int,ns.length<=63->∃S',callN T G W n "law" [.kl (ns.map D.int)] []=.ok (.bl true) S')(H:Hp)(a:Addr)(ns:List Int)(hl:ns.length<=63)(hO:Only H)(hS:SqL K H a (ns.map V.int))(E:XK):
  spM K (Cn T G W n) "law" [.ref a] H (λv _=>v=.bl true) E:=by
 obtain⟨S',e⟩:=h ns hl;have allI:∀(ns:List Int),RelDs K [] H (ns.map D.int) (ns.map V.int):=by
  intro ns
  induction ns with
  |nil=>exact RelDs.nil
  |cons i r ih=>exact RelDs.cons (RelD.int i) ih
 have sf:SqF K H a (ns.map V.int):=by
  rcases hS with(h|h)|h
  ·rcases hO a with z|⟨o,xs,z⟩
   ·rw[h]at z;cases z
   ·rw[h]at z;cases z
  ·exact .inl h
  ·exact .inr h
 refine⟨[],[],[.kl (ns.map D.int)],.bl true,S',⟨rfl,List.nodup_nil,λl b o h=>by simp at h⟩,RelDs.cons ?_ RelDs.nil,e,λρ' v H' _ _ q=>q.bl_inv⟩;simp only[RelD];exact⟨a,_,rfl,sf,allI ns⟩
end
theorem walk{l:PySem.W.OpenLaw}{q:Program}{loose:List Str}{XP:(Str->Option Value)->Heap->Prop}{YP:World->Heap->Prop}{d:DefRec}{K:Params->PySem.W.Frag}{T:Tb}{G:String->Option D}{B F:List String}{O:Ow}{x:String}{W n:Nat}(hn:l.most=some 63)(hdf:d.params.defaults=[])
  (hY:∀(w:World) (h:Heap),YP w h->(K w.params).In h)(hr:Room (2*n) callerA)(hd:d.name=Str.ofString "law")(hlaw:"law"∈F)(hT:∃FN,T "law"=some FN/\FN.ps=[x])
  (X:∀(w:World) (mg:Str->Option Value) (h:Heap),(K w.params).In h->h.Ns mainGlobals mg->Txt (K w.params) mg T G B F O)
  (run:∀ns:List Int,ns.length<=63->∃S',callN T G W n "law" [.kl (ns.map D.int)] []=.ok (.bl true) S'):
  PySem.W.WalkO q loose XP YP l.row.toRowW d [] (λf vs=>PySem.call f vs):=by
 refine L2.Jrg (n:=63) (k:=2*n) (x:=Str.ofString x) (CX:=λ_=>CX0) (sp:=λw=>spM (K w.params) (Cn T G W n) "law") hn (by decide) hdf hr hY (λw mg fa h KX hns hmg=>?_) (λw H a ns hl hO hS=>Jxg run H a ns hl hO hS _) λ_ _ _ _ _ z=>z;have t:=X w mg h KX hns;obtain⟨a,fd,hf,hlm⟩:=t.fns "law" hlaw;obtain⟨FN,hT,hps⟩:=hT;obtain⟨FN',st,nm,ql,hT',FU,sc,ck,bd⟩:=id hf.ex;rw[hT]at hT';cases hT';rw[hd,hlm]at hmg;cases hmg;refine⟨fd,λs u=>?_,λbase kb nb=>?_⟩
 ·have:=bd [u] (by rw[hps];rfl);rw[hps]at this;exact .of_eq this
 ·have:=Jzv (P:=l.prog) (w:=w) (base:=base) t W n "law" fa fd hf FN hT;rw[hps]at this;exact FnOk.ok0 this
theorem holds{l:PySem.W.OpenLaw}{q:Program}{d:DefRec}{K:Params->PySem.W.Frag}{as:List Addr}{N:Nat}{loose:List Str}(ok:l.wellSaid=true)(e:∀P,as=(K P).map (·.1))
  (left:PySem.W.LeftO l.prog q loose (λs=>PySem.W.xlAt q [] s&&PySem.W.recOk [] s) (λs=>as.map s.heap.get?) (λw=>(K w.params).map λp=>some p.2) N)
  (hdef:PySem.W.defOf q l.name=some (d,[]))(hp:l.prog.theDef l.name=some (d.params,d.body,d.scope))(hk:PySem.W.kwWritten? d.params.kwonlyargs d.params.kw_defaults=some [])
  (ok2:(PySem.W.chainsOk q&&PySem.W.opensWell l.prog&&(PySem.W.frees l.row.toRowW&&l.row.within.isEmpty))=true)(hb:l.prog.bare)(hw:l.row.toRowW.promised)
  (hc:PySem.W.WalkO q loose (PySem.W.XL q []) (PySem.W.InK K) l.row.toRowW d [] (λf vs=>PySem.call f vs)):l.Holds:=
 PySem.W.holds_law ok λsaid=>PySem.W.holds_open (r:=l.row) (XP:=PySem.W.XL q []) (YP:=PySem.W.InK K) left (PySem.W.InK.of e) PySem.W.InK.keeps (λs z=>PySem.W.xl_of s (Bool.and_eq_true_iff.mp z).1) PySem.W.XL.keeps hdef hp hk
  (λs z=>PySem.W.recFacts_of (Bool.and_eq_true_iff.mp z).2) (by cases h:l.writes<;>simp[PySem.W.OpenLaw.row]) said ok2 hb hw hc
end Mi
namespace Mi
open PySem L2
theorem len1{α:Type}{P:List α->Prop}(h:∀a,P [a]):∀us:List α,us.length=1->P us
 |[a],_=>h a
theorem len2{α:Type}{P:List α->Prop}(h:∀a b,P [a,b]):∀us:List α,us.length=2->P us
 |[a,b],_=>h a b
theorem len3{α:Type}{P:List α->Prop}(h:∀a b c,P [a,b,c]):∀us:List α,us.length=3->P us
 |[a,b,c],_=>h a b c
structure FE(K:PySem.W.Frag)(x:Str)(st:Stmt):Prop where
 ex:∃(f:Addr) (oc:Value) (od:Option Addr) (kV doc pm:Value) (an:Option Addr) (cdv ct:Value) (sl:Array (Option Value)),PySem.W.nsIn K mainGlobals x=some (some (.ref f))/\
  K.lookup f=some ⟨oc,od,.func (PySem.W.fnOf x x (defArgs st) (defBody st) (defScope st) .none kV doc pm an cdv ct),sl⟩/\PySem.W.codeIn K cdv x=true/\PySem.W.keepIn K (.ref f)=true
theorem Jzw{K:PySem.W.Frag}{x:Str}{st:Stmt}{f:Addr}{oc:Value}{od:Option Addr}{kV doc pm:Value}{an:Option Addr}{cdv ct:Value}{sl:Array (Option Value)}(a:PySem.W.nsIn K mainGlobals x=some (some (.ref f)))
  (l:K.lookup f=some ⟨oc,od,.func (PySem.W.fnOf x x (defArgs st) (defBody st) (defScope st) .none kV doc pm an cdv ct),sl⟩)(c:PySem.W.codeIn K cdv x=true)(k:PySem.W.keepIn K (.ref f)=true):FE K x st:=⟨_,_,_,_,_,_,_,_,_,_,a,l,c,k⟩
section
variable {K:PySem.W.Frag} {mg:Str->Option Value} {h:Heap} {T:Tb} {G:String->Option D} {B F:List String} {O:Ow}
theorem Jae(KX:K.In h)(hG:h.Ns mainGlobals mg){f:String}{FN:Fn}{st:Stmt}(e:FE K (Str.ofString f) st)(hT:T f=some FN)(sc:FnScope (FN.N.map Str.ofString) (FN.ps.map Str.ofString) (defScope st))
  (ck:chkB FN.body ⟨FN.N.map Str.ofString,(defScope st).names,true,B,F,O,true⟩ (defBody st)=true)
  (bd:∀(kV doc pm:Value) (an:Option Addr) (cdv ct:Value) (us:List Value),us.length=(FN.ps.map Str.ofString).length->bindArgs (PySem.W.fnOf (Str.ofString f) (Str.ofString f) (defArgs st) (defBody st) (defScope st) .none kV doc pm an cdv ct) ⟨us,[]⟩=pure ((FN.ps.map Str.ofString).zip us)):
  ∃a fd,FnB K T B F O f a fd/\mg (Str.ofString f)=some (.ref a):=by
 obtain⟨a,oc,od,kV,doc,pm,an,cdv,ct,sl,h1,h2,h3,h4⟩:=e.ex;exact⟨a,_,⟨FN,st,_,_,hT,Jxz (st:=st) h2 h3 h4,sc,ck,bd kV doc pm an cdv ct⟩,PySem.W.mg_of KX hG h1⟩
structure XC(K:PySem.W.Frag)(c:Str):Prop where
 ex:∃Ca:Addr,PySem.W.nsIn K mainGlobals c=some (some (.ref Ca))/\PySem.W.excIn K Ca bmVal "ValueError.__new__"=true
theorem Jn6{c:Str}{Ca:Addr}(n:PySem.W.nsIn K mainGlobals c=some (some (.ref Ca)))(q:PySem.W.excIn K Ca bmVal "ValueError.__new__"=true):XC K c:=⟨Ca,n,q⟩
theorem Ji2(KX:K.In h)(hG:h.Ns mainGlobals mg){c:String}(e:XC K (Str.ofString c)):∃Ca,PySem.W.nsIn K mainGlobals (Str.ofString c)=some (some (.ref Ca))/\mg (Str.ofString c)=some (.ref Ca)/\PySem.W.excIn K Ca bmVal "ValueError.__new__"=true:=by
 obtain⟨Ca,n,q⟩:=e.ex;exact⟨Ca,n,PySem.W.mg_of KX hG n,q⟩
structure XT(K:PySem.W.Frag)(x c:Str):Prop where
 ex:∃Cx Ca:Addr,PySem.W.nsIn K mainGlobals x=some (some (.ref Cx))/\PySem.W.nsIn K mainGlobals c=some (some (.ref Ca))/\PySem.W.exmOne K (.ref Ca) (.ref Cx)=some true/\L2.ExcCl K Ca/\(PySem.W.clsIn K Ca).isSome=true
theorem Jn5{x c:Str}{Cx Ca:Addr}(n1:PySem.W.nsIn K mainGlobals x=some (some (.ref Cx)))(n2:PySem.W.nsIn K mainGlobals c=some (some (.ref Ca)))(q:PySem.W.exmOne K (.ref Ca) (.ref Cx)=some true)
  (a1:PySem.W.findIn K (.ref Ca) "__getattribute__"=some (some (.builtin "BaseException.__getattribute__")))(a2:PySem.W.findIn K (.ref Ca) "__getattr__"=some none)(a3:PySem.W.findIn K (.ref Ca) "__class__"=some (some (.builtin "object.__class__")))
  (a4:PySem.W.specialIn K (.builtin "object.__class__") "__get__"=some (some (.builtin "getset_descriptor.__get__")))(a5:PySem.W.takesIn K (.builtin "object.__class__")=some true)(a6:PySem.W.mroIn K Ca (.type "object")=some true)(a7:PySem.W.mroIn K Ca (.type "BaseException")=some true)(a8:(PySem.W.clsIn K Ca).isSome=true):XT K x c:=
 ⟨Cx,Ca,n1,n2,q,⟨a1,a2,a3,a4,a5,a6,a7⟩,a8⟩
structure XI(K:PySem.W.Frag)(c t:Str)(b:Bool):Prop where
 ex:∃Ca Ct:Addr,PySem.W.nsIn K mainGlobals c=some (some (.ref Ca))/\PySem.W.nsIn K mainGlobals t=some (some (.ref Ct))/\PySem.W.kitOne K (.ref Ca) (.ref Ct)=some b
theorem Jdb{c t:Str}{b:Bool}{Ca Ct:Addr}(n2:PySem.W.nsIn K mainGlobals c=some (some (.ref Ca)))(n1:PySem.W.nsIn K mainGlobals t=some (some (.ref Ct)))(q:PySem.W.kitOne K (.ref Ca) (.ref Ct)=some b):XI K c t b:=⟨Ca,Ct,n2,n1,q⟩
theorem isI(KX:K.In h)(hG:h.Ns mainGlobals mg){c t:String}{b:Bool}{Ca:Addr}(n:PySem.W.nsIn K mainGlobals (Str.ofString c)=some (some (.ref Ca)))(e:XI K (Str.ofString c) (Str.ofString t) b):IsC K mg Ca t b:=by
 obtain⟨Cb,Ct,n1,n2,q⟩:=e.ex;rw[n]at n1;cases n1;exact .inl ⟨Ct,PySem.W.mg_of KX hG n2,q⟩
theorem Jjt(KX:K.In h)(hG:h.Ns mainGlobals mg){x c:String}{ts:List (String×Bool)}(e:XT K (Str.ofString x) (Str.ofString c))(k:∀Ca,PySem.W.nsIn K mainGlobals (Str.ofString c)=some (some (.ref Ca))->∀t b,(t,b)∈ts->IsC K mg Ca t b):
  ∃Cx Ca,mg (Str.ofString x)=some Cx/\PySem.W.nsIn K mainGlobals (Str.ofString c)=some (some (.ref Ca))/\PySem.W.exmOne K (.ref Ca) Cx=some true/\L2.ExcCl K Ca/\(PySem.W.clsIn K Ca).isSome=true/\∀t b,(t,b)∈ts->IsC K mg Ca t b:=by
 obtain⟨Cx,Ca,n1,n2,q,x1,x2⟩:=e.ex;exact⟨_,Ca,PySem.W.mg_of KX hG n1,n2,q,x1,x2,k Ca n2⟩
theorem Jhi(KX:K.In h)(hG:h.Ns mainGlobals mg){x:String}{i:Int}{t:Tok}(e:PySem.W.nsIn K mainGlobals (Str.ofString x)=some (some (.int i t))):∃v u,mg (Str.ofString x)=some u/\RelV v u/\(∀ρ H,RelD K ρ H (.int i) v)/\∀ds,D.int i=.tup ds->∃a o,v=.ref a/\K.lookup a=some o/\o.cls=.type "tuple"/\o.dict=none:=
 ⟨.int i,_,PySem.W.mg_of KX hG e,⟨t,rfl⟩,λ_ _=>RelD.int i,λ_ z=>by cases z⟩
theorem Jfk(KX:K.In h)(hG:h.Ns mainGlobals mg){x:String}(e:PySem.W.nsIn K mainGlobals (Str.ofString x)=some none):mg (Str.ofString x)=none:=PySem.W.mg_none_of KX hG e
structure GV(K:PySem.W.Frag)(x:Str)(d:D):Prop where
 ex:∃v u,PySem.W.nsIn K mainGlobals x=some (some u)/\RelV v u/\(∀ρ H,RelD K ρ H d v)/\∀ds,d=.tup ds->∃a o,v=.ref a/\K.lookup a=some o/\o.cls=.type "tuple"/\o.dict=none
theorem Jm9(KX:K.In h)(hG:h.Ns mainGlobals mg){x:String}{d:D}(e:GV K (Str.ofString x) d):∃v u,mg (Str.ofString x)=some u/\RelV v u/\(∀ρ H,RelD K ρ H d v)/\∀ds,d=.tup ds->∃a o,v=.ref a/\K.lookup a=some o/\o.cls=.type "tuple"/\o.dict=none:=by
 obtain⟨v,u,h1,h2,h3,h4⟩:=e.ex;exact⟨v,u,PySem.W.mg_of KX hG h1,h2,h3,h4⟩
noncomputable def strsLook:List Value->List Str->Bool
 |[],[]=>true
 |.str y _::us,x::xs=>x==y&&strsLook us xs
 |_,_=>false
theorem Jf5{us:List Value}:∀{xs:List Str},strsLook us xs=true->Vals (xs.map V.str) us:=by
 induction us with
 |nil=>
  intro xs h;cases xs with
  |nil=>exact .nil
  |cons x xs=>simp[strsLook]at h
 |cons u us ih=>
  intro xs h;cases xs with
  |nil=>cases u<;>simp[strsLook]at h
  |cons x xs=>
   cases u<;>try (simp[strsLook]at h;done)
   simp only[strsLook,Bool.and_eq_true,beq_iff_eq]at h;obtain⟨rfl,h⟩:=h;exact .cons ⟨_,rfl⟩ (ih h)
theorem Jm7(xs:List Str){x:Str}{a:Addr}{its:Array Value}{n:Nat}{sl:Array (Option Value)}(e:PySem.W.nsIn K mainGlobals x=some (some (.ref a)))(l:K.lookup a=some ⟨.type "tuple",none,.seq its n,sl⟩)
  (v:(strsLook its.toList xs&&decide (its.size<=1000))=true):GV K x (.tup (xs.map D.str)):=by
 simp only[Bool.and_eq_true,decide_eq_true_eq]at v;refine⟨.ref a,.ref a,e,rfl,λρ H=>?_,λds _=>⟨a,_,rfl,l,rfl,rfl⟩⟩;simp only[RelD];refine⟨a,xs.map V.str,rfl,.inr ⟨_,its,n,l,rfl,rfl,by rw[sizeLine_eq];omega,Jf5 v.1⟩,?_⟩;have main:∀ys:List Str,RelDs K ρ H (ys.map D.str) (ys.map V.str):=by
  intro ys
  induction ys with
  |nil=>exact RelDs.nil
  |cons y r ih=>exact RelDs.cons (RelD.str y) ih
 exact main xs
theorem Jm8{x y:Str}{t:Tok}(e:PySem.W.nsIn K mainGlobals x=some (some (.str y t))):GV K x (.str y):=⟨.str y,_,e,⟨t,rfl⟩,λρ H=>RelD.str y,λds z=>by cases z⟩
end
end Mi
namespace Mi
open PySem L2
noncomputable def Sat{α:Type}(r:Res α)(P:α->Store->Prop):Prop:=∃a S,r=.ok a S/\P a S
theorem Sat.ok{α:Type}{a:α}{S:Store}{P:α->Store->Prop}(h:P a S):Sat (.ok a S) P:=⟨a,S,rfl,h⟩
@[simp]theorem J0v{α:Type}{a:α}{S:Store}{P:α->Store->Prop}:Sat (.ok a S) P↔P a S:=⟨λ⟨_,_,e,h⟩=>by cases e;exact h,Sat.ok⟩
theorem Sat.bind{α β:Type}{r:Res α}{f:α->Store->Res β}{P:β->Store->Prop}(h:Sat r λa S=>Sat (f a S) P):Sat (r.bind f) P:=by
 obtain⟨a,S,rfl,h⟩:=h;exact h
theorem Sat.mono{α:Type}{r:Res α}{P Q:α->Store->Prop}(h:Sat r P)(hq:∀a S,P a S->Q a S):Sat r Q:=by
 obtain⟨a,S,e,h⟩:=h;exact⟨a,S,e,hq a S h⟩
theorem Sat.call{α β:Type}{r:Res α}{f:α->Store->Res β}{P:α->Store->Prop}{Q:β->Store->Prop}(h:Sat r P)(hq:∀a S,P a S->Sat (f a S) Q):Sat (r.bind f) Q:=.bind (h.mono hq)
@[simp]noncomputable def finF(fl:Fl)(S:Store):Res D:=match fl with
 |.rt d=>.ok d S
 |.nx _=>.ok .non S
 |_=>.bad
theorem Jaa{T:Tb}{G:String->Option D}{W n:Nat}{f:String}{FN:Fn}{ds:List D}{S:Store}(hT:T f=some FN)(hl:ds.length=FN.ps.length):
  callN T G W (n+1) f ds S=(evB (Cn T G W n) FN.body (ds.map some++List.replicate (FN.N.length-ds.length) none) S).bind finF:=by
 simp only[callN,hT,if_pos hl];rfl
@[simp]theorem J0e{T:Tb}{G:String->Option D}{W n:Nat}:(Cn T G W n).call=callN T G W n:=rfl
@[simp]theorem J0d{T:Tb}{G:String->Option D}{W n:Nat}:(Cn T G W n).glob=G:=rfl
@[simp]theorem Cn_W{T:Tb}{G:String->Option D}{W n:Nat}:(Cn T G W n).W=W:=rfl
theorem Jnb{turn:D->En->Store->Res Fl}{ds:List D}{P:Fl->Store->Prop}(I:Nat->En->Store->Prop)(hend:∀τ S,I ds.length τ S->P (.nx τ) S)
  (hturn:∀i d τ S,ds[i]? =some d->I i τ S->Sat (turn d τ S) λfl S1=>match fl with|.nx τ1=>I (i+1) τ1 S1|.ct τ1=>I (i+1) τ1 S1|.bk τ1=>P (.nx τ1) S1|.rt d=>P (.rt d) S1):
  ∀(n i:Nat) (τ:En) (S:Store),i+n=ds.length->I i τ S->Sat (forL turn none ds n i τ S) P:=by
 intro n
 induction n with
 |zero=>
  intro i τ S hi h;have:i=ds.length:=by omega
  subst this;simp only[forL,sameAt,if_true];exact .ok (hend τ S h)
 |succ n ih=>
  intro i τ S hi h;have hlt:i<ds.length:=by omega
  have e:ds[i]? =some ds[i]:=List.getElem?_eq_getElem hlt;simp only[forL,sameAt,if_true,nth,e];refine .bind ((hturn i _ τ S e h).mono λfl S1 q=>?_);cases fl with
  |nx τ1=>exact ih (i+1) τ1 S1 (by omega) q
  |ct τ1=>exact ih (i+1) τ1 S1 (by omega) q
  |bk τ1=>exact .ok q
  |rt d=>exact .ok q
noncomputable def yv:Kd->Nat->D->D
 |.enm,i,d=>.tup [.int i,d]
 |.lst,_,d=>d
theorem Jx0{b:Kd}{turn:D->En->Store->Res Fl}{l:Nat}{ds:List D}{P:Fl->Store->Prop}(I:Nat->En->Store->Prop)(hst:∀i τ S,I i τ S->S[l]? =some (.lst ds))(hend:∀τ S,I ds.length τ S->P (.nx τ) S)
  (hturn:∀i d τ S,ds[i]? =some d->I i τ S->Sat (turn (yv b i d) τ S) λfl S1=>match fl with|.nx τ1=>I (i+1) τ1 S1|.ct τ1=>I (i+1) τ1 S1|.bk τ1=>P (.nx τ1) S1|.rt d=>P (.rt d) S1):
  ∀(n i:Nat) (τ:En) (S:Store),i+n=ds.length->I i τ S->Sat (forL turn (some (l,b)) ds n i τ S) P:=by
 intro n
 induction n with
 |zero=>
  intro i τ S hi h;have:i=ds.length:=by omega
  subst this;have hs:=hst _ τ S h;simp only[forL,sameAt,hs,beq_self_eq_true,if_true];exact .ok (hend τ S h)
 |succ n ih=>
  intro i τ S hi h;have hlt:i<ds.length:=by omega
  have e:ds[i]? =some ds[i]:=List.getElem?_eq_getElem hlt;have hs:=hst _ τ S h;simp only[forL,sameAt,hs,beq_self_eq_true,if_true];have en:nth S (some (l,b)) ds i=some (yv b i ds[i]):=by cases b<;>first|simp[nth,seqAt,hs,e,yv]
  simp only[en];refine .bind ((hturn i _ τ S e h).mono λfl S1 q=>?_);cases fl with
  |nx τ1=>exact ih (i+1) τ1 S1 (by omega) q
  |ct τ1=>exact ih (i+1) τ1 S1 (by omega) q
  |bk τ1=>exact .ok q
  |rt d=>exact .ok q
theorem Jna{turn:D->En->Store->Res Fl}{l:Nat}{ds:List D}{P:Fl->Store->Prop}(I:Nat->En->Store->Prop)(hst:∀i τ S,I i τ S->S[l]? =some (.lst ds))(hend:∀τ S,I ds.length τ S->P (.nx τ) S)
  (hturn:∀i d τ S,ds[i]? =some d->I i τ S->Sat (turn d τ S) λfl S1=>match fl with|.nx τ1=>I (i+1) τ1 S1|.ct τ1=>I (i+1) τ1 S1|.bk τ1=>P (.nx τ1) S1|.rt d=>P (.rt d) S1):
  ∀(n i:Nat) (τ:En) (S:Store),i+n=ds.length->I i τ S->Sat (forL turn (some (l,.lst)) ds n i τ S) P:=
 Jx0 (b:=.lst) I hst hend hturn
theorem Jkp{turn:D->En->Store->Res (Option D)}{ds:List D}{P:List D->Store->Prop}{τ:En}(I:Nat->List D->Store->Prop)(hl:ds.length<=Line)(hI:∀i acc S,I i acc S->acc.length<=i)(hend:∀acc S,I ds.length acc S->P acc S)
  (hturn:∀i d acc S,ds[i]? =some d->I i acc S->Sat (turn d τ S) λo S1=>match o with|some y=>I (i+1) (acc++[y]) S1|none=>I (i+1) acc S1):
  ∀(n i:Nat) (acc:List D) (S:Store),i+n=ds.length->I i acc S->Sat (compL turn none ds n i τ S acc) P:=by
 intro n
 induction n with
 |zero=>
  intro i acc S hi h;have:i=ds.length:=by omega
  subst this;simp only[compL,sameAt,if_true];exact .ok (hend acc S h)
 |succ n ih=>
  intro i acc S hi h;have hlt:i<ds.length:=by omega
  have e:ds[i]? =some ds[i]:=List.getElem?_eq_getElem hlt;simp only[compL,sameAt,if_true,nth,e];refine .bind ((hturn i _ acc S e h).mono λo S1 q=>?_);cases o with
  |none=>exact ih (i+1) acc S1 (by omega) q
  |some y=>
   have:=hI _ _ _ h;have hlt':acc.length<Line:=by omega
   simp only[if_pos hlt'];exact ih (i+1) _ S1 (by omega) q
theorem Jtv{b:Kd}{turn:D->En->Store->Res (Option D)}{l:Nat}{ds:List D}{P:List D->Store->Prop}{τ:En}(I:Nat->List D->Store->Prop)(hl:ds.length<=Line)(hI:∀i acc S,I i acc S->acc.length<=i/\S[l]? =some (.lst ds))(hend:∀acc S,I ds.length acc S->P acc S)
  (hturn:∀i d acc S,ds[i]? =some d->I i acc S->Sat (turn (yv b i d) τ S) λo S1=>match o with|some y=>I (i+1) (acc++[y]) S1|none=>I (i+1) acc S1):
  ∀(n i:Nat) (acc:List D) (S:Store),i+n=ds.length->I i acc S->Sat (compL turn (some (l,b)) ds n i τ S acc) P:=by
 intro n
 induction n with
 |zero=>
  intro i acc S hi h;have:i=ds.length:=by omega
  subst this;have hs:=(hI _ _ _ h).2;simp only[compL,sameAt,hs,beq_self_eq_true,if_true];exact .ok (hend acc S h)
 |succ n ih=>
  intro i acc S hi h;have hlt:i<ds.length:=by omega
  have e:ds[i]? =some ds[i]:=List.getElem?_eq_getElem hlt;have hs:=(hI _ _ _ h).2;simp only[compL,sameAt,hs,beq_self_eq_true,if_true];have en:nth S (some (l,b)) ds i=some (yv b i ds[i]):=by cases b<;>first|simp[nth,seqAt,hs,e,yv]
  simp only[en];refine .bind ((hturn i _ acc S e h).mono λo S1 q=>?_);cases o with
  |none=>exact ih (i+1) acc S1 (by omega) q
  |some y=>
   have:=(hI _ _ _ h).1;have hlt':acc.length<Line:=by omega
   simp only[if_pos hlt'];exact ih (i+1) _ S1 (by omega) q
theorem Jko{turn:D->En->Store->Res (Option D)}{l:Nat}{ds:List D}{P:List D->Store->Prop}{τ:En}(I:Nat->List D->Store->Prop)(hl:ds.length<=Line)(hI:∀i acc S,I i acc S->acc.length<=i/\S[l]? =some (.lst ds))(hend:∀acc S,I ds.length acc S->P acc S)
  (hturn:∀i d acc S,ds[i]? =some d->I i acc S->Sat (turn d τ S) λo S1=>match o with|some y=>I (i+1) (acc++[y]) S1|none=>I (i+1) acc S1):
  ∀(n i:Nat) (acc:List D) (S:Store),i+n=ds.length->I i acc S->Sat (compL turn (some (l,.lst)) ds n i τ S acc) P:=
 Jtv (b:=.lst) I hl hI hend hturn
end Mi
namespace Mi
open PySem L2
section
variable {S:Store} {i j:Int} {a b:Bool} {x y:Str} {ds es:List D}
@[simp]theorem Jt4:bop .add (.int i) (.int j) S=.ok (.int (i+j)) S:=rfl
theorem Jnl:Deep=11+1:=rfl
@[simp]theorem Jkn:cop .eq (.int i) (.int j) S=some (decide (i=j)):=by
 simp only[cop,Jnl,eqD,scalV,eqV];congr 1
@[simp]theorem Jbc:cop .eq (.str x) (.str y) S=some (decide (x=y)):=by
 simp only[cop,Jnl,eqD,scalV,eqV];congr 1
@[simp]theorem Jb7:cop .ne (.int i) (.int j) S=some (!decide (i=j)):=by
 have:=Jkn (i:=i) (j:=j) (S:=S);simp only[cop]at this ⊢;rw[this];rfl
@[simp]theorem Jc6:cop .ne (.str x) (.str y) S=some (!decide (x=y)):=by
 have:=Jbc (x:=x) (y:=y) (S:=S);simp only[cop]at this ⊢;rw[this];rfl
@[simp]theorem Juc:cop .lt (.int i) (.int j) S=some (decide (i<j)):=rfl
@[simp]theorem Jud:cop .le (.int i) (.int j) S=some (decide (i<=j)):=rfl
@[simp]theorem Jue:cop .gt (.int i) (.int j) S=some (decide (j<i)):=rfl
@[simp]theorem Juf:cop .ge (.int i) (.int j) S=some (decide (j<=i)):=rfl
@[simp]theorem Jyx:primD .abs [.int i] S=.ok (.int (if i<0 then -i else i)) S:=rfl
@[simp]theorem Jyw:primD .max2 [.int i,.int j] S=.ok (.int (if j>i then j else i)) S:=rfl
@[simp]theorem Jyv:primD .min2 [.int i,.int j] S=.ok (.int (if j<i then j else i)) S:=rfl
@[simp]theorem Jqy:primD .int1 [.int i] S=.ok (.int i) S:=rfl
@[simp]theorem Jsy:primD .int1 [.bl b] S=.ok (.int (if b then 1 else 0)) S:=rfl
@[simp]theorem Jqx:primD .len [.tup ds] S=.ok (.int ds.length) S:=rfl
@[simp]theorem Jsx:primD .len [.kl ds] S=.ok (.int ds.length) S:=rfl
theorem Jat{l:Nat}(h:S[l]? =some (.lst ds)):primD .len [.loc l] S=.ok (.int ds.length) S:=by simp only[Jbf,seqOf,seqAt,h]
theorem Jei(h:x.length<=Line):primD .len [.str x] S=.ok (.int x.length) S:=by simp only[Jbf,seqOf,if_pos h]
@[simp]theorem Jn4:primD .tuple1 [.tup ds] S=.ok (.tup ds) S:=rfl
@[simp]theorem Jor:primD .tuple1 [.kl ds] S=.ok (.tup ds) S:=rfl
theorem Jos(h:i.natAbs<2^1900):primD .str1 [.int i] S=.ok (.str (toString i)) S:=by simp only[Ji4,if_pos h]
theorem Jgr{α:Type}(p:α->Bool):∀xs:List α,allB (xs.map λx=>D.bl (p x))=some (xs.all p)
 |[]=>rfl
 |x::xs=>by simp only[List.map_cons,allB,Jgr p xs,List.all_cons,Option.map_some]
@[simp]theorem Jac{o:Obj}:(S++[o])[S.length]? =some o:=by
 rw[List.getElem?_append_right (Nat.le_refl _),Nat.sub_self];rfl
theorem Jtg{l:Nat}{o:Obj}{X:Store}(h:S[l]? =some o):(S++X)[l]? =some o:=by
 rw[List.getElem?_append_left (List.getElem?_eq_some_iff.mp h).1];exact h
theorem Jm5{d:D}(h:atI ds i=some d):idxD (.tup ds) (.int i) S=some d:=by simp only[idxD,seqOf,h]
theorem Jar{l:Nat}{d:D}(hl:S[l]? =some (.lst ds))(h:atI ds i=some d):idxD (.loc l) (.int i) S=some d:=by simp only[idxD,seqOf,seqAt,hl,h]
theorem Jca{l:Nat}{d:D}(h:S[l]? =some (.lst ds))(hl:ds.length<Line):methD .append (.loc l) [d] S=.ok .non (S.set l (.lst (ds++[d]))):=by simp only[Ji8,h,if_pos hl]
theorem Jsi{l:Nat}{d:D}{k:Nat}(h:S[l]? =some (.lst ds))(hk:ixN ds.length i=some k):setS (.loc l) (.int i) d S=.ok () (S.set l (.lst (ds.set k d))):=by simp only[setS,h,hk]
theorem Jpc{n:Nat}(h:n<=1000000):n<=Line:=by unfold Line;omega
end
end Mi
namespace Mi
open PySem L2
@[simp]noncomputable def kVar(o:Option (Option D))(S:Store):Res D:=match o with|some (some d)=>.ok d S|_=>.bad
@[simp]noncomputable def kGlb(o:Option D)(S:Store):Res D:=match o with|some d=>.ok d S|none=>.bad
@[simp]noncomputable def kBin(C:Pr)(o:Bop)(b:M)(τ:En)(x:D)(S:Store):Res D:=(evE C b τ S).bind (bop o x)
@[simp]noncomputable def kNeg(x:D)(S:Store):Res D:=match x with|.int i=>.ok (.int (-i)) S|_=>.bad
@[simp]noncomputable def kNot(x:D)(S:Store):Res D:=match tru S x with|some b=>.ok (.bl (!b)) S|none=>.bad
@[simp]noncomputable def Jxm(o:Cop)(x y:D)(S:Store):Res D:=match cop o x y S with|some k=>.ok (.bl k) S|none=>.bad
@[simp]noncomputable def kCmp(C:Pr)(o:Cop)(b:M)(τ:En)(x:D)(S:Store):Res D:=(evE C b τ S).bind (Jxm o x)
@[simp]noncomputable def Jxn(C:Pr)(o p:Cop)(c:M)(τ:En)(x y:D)(S:Store):Res D:=match cop o x y S with
 |some k=>if k then(evE C c τ S).bind (Jxm p y)else .ok (.bl false) S
 |none=>.bad
@[simp]noncomputable def kChn(C:Pr)(o p:Cop)(b c:M)(τ:En)(x:D)(S:Store):Res D:=(evE C b τ S).bind (Jxn C o p c τ x)
@[simp]noncomputable def kIfe(C:Pr)(a b:M)(τ:En)(k:Bool)(S:Store):Res D:=if k then evE C a τ S else evE C b τ S
@[simp]noncomputable def kTup(ds:List D)(S:Store):Res D:=if ds.length<=Line then .ok (.tup ds) S else .bad
@[simp]noncomputable def kLst(ds:List D)(S:Store):Res D:=if ds.length<=Line then .ok (.loc S.length) (S++[.lst ds])else .bad
noncomputable def Jai(x y:D)(S:Store):Res D:=match idxD x y S with|some d=>.ok d S|none=>.bad
@[simp]noncomputable def kIdx(C:Pr)(b:M)(τ:En)(x:D)(S:Store):Res D:=(evE C b τ S).bind (Jai x)
@[simp]noncomputable def Jzp(C:Pr)(hi:M)(τ:En)(x:D)(l:Option Int)(S:Store):Res D:=(evO C hi τ S).bind (sliD x l)
@[simp]noncomputable def kSli(C:Pr)(lo hi:M)(τ:En)(x:D)(S:Store):Res D:=(evO C lo τ S).bind (Jzp C hi τ x)
@[simp]noncomputable def kIsi(t:String)(x:D)(S:Store):Res D:=match tyD S x with|some y=>.ok (.bl (isiD y t)) S|none=>.bad
@[simp]noncomputable def kMeth(C:Pr)(p:Meth)(as:M)(τ:En)(x:D)(S:Store):Res D:=if rcv p S x then(evA C as τ S).bind (methD p x)else .bad
@[simp]noncomputable def kTru(d:D)(S:Store):Res Bool:=match tru S d with|some b=>.ok b S|none=>.bad
@[simp]noncomputable def tVar'(o:Option (Option D))(S:Store):Res Bool:=match o with|some (some d)=>kTru d S|_=>.bad
@[simp]noncomputable def tNotB(b:Bool)(S:Store):Res Bool:=.ok (!b) S
@[simp]noncomputable def Juk(o:Cop)(x y:D)(S:Store):Res Bool:=match cop o x y S with|some k=>.ok k S|none=>.bad
@[simp]noncomputable def tCmp'(C:Pr)(o:Cop)(b:M)(τ:En)(x:D)(S:Store):Res Bool:=(evE C b τ S).bind (Juk o x)
@[simp]noncomputable def Jul(C:Pr)(o p:Cop)(c:M)(τ:En)(x y:D)(S:Store):Res Bool:=match cop o x y S with
 |some k=>if k then(evE C c τ S).bind (Juk p y)else .ok false S
 |none=>.bad
@[simp]noncomputable def tChn(C:Pr)(o p:Cop)(b c:M)(τ:En)(x:D)(S:Store):Res Bool:=(evE C b τ S).bind (Jul C o p c τ x)
noncomputable def Jrj(x y:D)(S:Store):Res Bool:=match idxD x y S with|some d=>kTru d S|none=>.bad
@[simp]noncomputable def tIdx(C:Pr)(b:M)(τ:En)(x:D)(S:Store):Res Bool:=(evE C b τ S).bind (Jrj x)
@[simp]noncomputable def tCal(C:Pr)(f:String)(ds:List D)(S:Store):Res Bool:=(C.call f ds S).bind kTru
@[simp]noncomputable def tPri(p:Prim)(ds:List D)(S:Store):Res Bool:=(primD p ds S).bind kTru
@[simp]noncomputable def tIsi(t:String)(x:D)(S:Store):Res Bool:=match tyD S x with|some y=>.ok (isiD y t) S|none=>.bad
@[simp]noncomputable def kBV(C:Pr)(w:Bool)(r:M)(τ:En)(x:D)(S:Store):Res D:=match x with|.bl c=>if c=w then evBV C w r τ S else .ok (.bl (!w)) S|_=>.bad
@[simp]noncomputable def kBT(C:Pr)(w:Bool)(r:M)(τ:En)(c:Bool)(S:Store):Res Bool:=if c=w then evBT C w r τ S else .ok (!w) S
@[simp]noncomputable def kCons(x:D)(xs:List D)(S:Store):Res (List D):=.ok (x::xs) S
@[simp]noncomputable def kArg(C:Pr)(b:M)(τ:En)(x:D)(S:Store):Res (List D):=(evA C b τ S).bind (kCons x)
@[simp]noncomputable def kOpt(x:D)(S:Store):Res (Option Int):=match x with|.int i=>.ok (some i) S|_=>.bad
noncomputable def kRng(x:D)(S:Store):Res (Wk×List D):=match x with
 |.int j=>if decide (-(2^62)<=j)&&decide (j<2^62)then .ok (none,(List.range j.toNat).map λ(i:Nat)=>.int i) S else .bad
 |_=>.bad
@[simp]noncomputable def kSeq(x:D)(S:Store):Res (Wk×List D):=match x with
 |.tup ds=>.ok (none,ds) S
 |.kl ds=>.ok (none,ds) S
 |.str z=>.ok (none,z.cps.toList.map λc=>.str ⟨#[c]⟩) S
 |.loc l=>(match seqAt S l with|some ds=>.ok (some (l,.lst),ds) S|none=>.bad)
 |_=>.bad
noncomputable def kEnm(x:D)(S:Store):Res (Wk×List D):=match x with
 |.loc l=>(match seqAt S l with|some ds=>.ok (some (l,.enm),ds) S|none=>.bad)
 |_=>.bad
@[simp]noncomputable def kEn(τ:En)(_:Unit)(S:Store):Res En:=.ok τ S
@[simp]noncomputable def Jzo(d:D)(τ:En)(o i:D)(S:Store):Res En:=(setS o i d S).bind (kEn τ)
@[simp]noncomputable def kSub(C:Pr)(b:M)(d:D)(τ:En)(o:D)(S:Store):Res En:=(evE C b τ S).bind (Jzo d τ o)
@[simp]noncomputable def kNx(τ:En)(S:Store):Res Fl:=.ok (.nx τ) S
@[simp]noncomputable def kAsg(C:Pr)(t:M)(τ:En)(d:D)(S:Store):Res Fl:=(evG C t d τ S).bind kNx
@[simp]noncomputable def Jxo(i:Nat)(τ:En)(y:D)(S:Store):Res Fl:=if i<τ.length then .ok (.nx (τ.set i (some y))) S else .bad
@[simp]noncomputable def kIfs(C:Pr)(a b:M)(τ:En)(k:Bool)(S:Store):Res Fl:=if k then evB C a τ S else evB C b τ S
@[simp]noncomputable def kRet(d:D)(S:Store):Res Fl:=.ok (.rt d) S
@[simp]noncomputable def kExp(τ:En)(_:D)(S:Store):Res Fl:=.ok (.nx τ) S
@[simp]noncomputable def kB(C:Pr)(r:M)(fl:Fl)(S:Store):Res Fl:=match fl with
 |.nx τ1=>evB C r τ1 S
 |.rt d=>.ok (.rt d) S
 |.bk τ1=>.ok (.bk τ1) S
 |.ct τ1=>.ok (.ct τ1) S
noncomputable def turnF(C:Pr)(t b:M)(d:D)(τ:En)(S:Store):Res Fl:=(evG C t d τ S).bind (evB C b)
noncomputable def kFor(C:Pr)(t b:M)(τ:En)(w:Wk×List D)(S:Store):Res Fl:=forL (turnF C t b) w.1 w.2 w.2.length 0 τ S
@[simp]noncomputable def Jmz(ys:List D)(S:Store):Res D:=.ok (.loc S.length) (S++[.lst ys])
noncomputable def kComp(C:Pr)(k:Nat)(keep:List Nat)(tg cd el:M)(τ:En)(w:Wk×List D)(S:Store):Res D:=(compL (turnC C tg cd el) w.1 w.2 w.2.length 0 (inEn k keep τ) S []).bind Jmz
section
variable {C:Pr} {τ:En} {S:Store} {w:Bool} {d:D} {ds:List D} {i k:Nat} {keep:List Nat} {N:List String} {x f t:String} {a b c r as lo hi e s ts t':M} {it tg cd el:M} {o p:Cop} {q:Bop} {pr:Prim} {me:Meth}
@[simp]theorem J1w:evE C (.cst d) τ S=.ok d S:=rfl
@[simp]theorem J05:evE C (.var i) τ S=kVar τ[i]? S:=rfl
@[simp]theorem J1r:evE C (.glb x) τ S=kGlb (C.glob x) S:=rfl
@[simp]theorem J12:evE C (.bin q a b) τ S=(evE C a τ S).bind (kBin C q b τ):=rfl
@[simp]theorem J1f:evE C (.neg a) τ S=(evE C a τ S).bind kNeg:=rfl
@[simp]theorem J0o:evE C (.nott a) τ S=(evE C a τ S).bind kNot:=rfl
@[simp]theorem v_bo:evE C (.bo w as) τ S=evBV C w as τ S:=rfl
@[simp]theorem J1x:evE C (.cmp o a b) τ S=(evE C a τ S).bind (kCmp C o b τ):=rfl
@[simp]theorem J0s:evE C (.cmp2 o p a b c) τ S=(evE C a τ S).bind (kChn C o p b c τ):=by
 simp only[Jja];congr 1;funext x S1;simp only[kChn];congr 1;funext y S2;simp only[Jxn];cases cop o x y S2 with
 |none=>rfl
 |some k=>cases k<;>rfl
@[simp]theorem J1n:evE C (.ife c a b) τ S=(evT C c τ S).bind (kIfe C a b τ):=rfl
@[simp]theorem J06:evE C (.tup as) τ S=(evA C as τ S).bind kTup:=rfl
@[simp]theorem J1g:evE C (.lst as) τ S=(evA C as τ S).bind kLst:=rfl
@[simp]theorem J1o:evE C (.idx a b) τ S=(evE C a τ S).bind (kIdx C b τ):=rfl
@[simp]theorem J08:evE C (.sli a lo hi) τ S=(evE C a τ S).bind (kSli C lo hi τ):=rfl
@[simp]theorem J0t:evE C (.call f as) τ S=(evA C as τ S).bind (C.call f):=rfl
@[simp]theorem J0n:evE C (.prim pr as) τ S=(evA C as τ S).bind (primD pr):=rfl
@[simp]theorem J1j:evE C (.isi a t) τ S=(evE C a τ S).bind (kIsi t):=rfl
@[simp]theorem J0p:evE C (.meth me a as) τ S=(evE C a τ S).bind (kMeth C me as τ):=rfl
@[simp]theorem J0r:evE C (.comp N k keep tg it cd el) τ S=(evI C it τ S).bind (kComp C k keep tg cd el τ):=rfl
@[simp]theorem J0q:evE C .dnil τ S=.ok (.loc S.length) (S++[.dct []]):=rfl
@[simp]theorem J1v:evI C (.enm a) τ S=(evE C a τ S).bind kEnm:=rfl
@[simp]theorem J0g:evT C (.nott a) τ S=(evT C a τ S).bind tNotB:=rfl
@[simp]theorem w_bo:evT C (.bo w as) τ S=evBT C w as τ S:=rfl
@[simp]theorem J03:evT C (.cmp o a b) τ S=(evE C a τ S).bind (tCmp' C o b τ):=rfl
@[simp]theorem J0i:evT C (.cmp2 o p a b c) τ S=(evE C a τ S).bind (tChn C o p b c τ):=by
 simp only[Jqh];congr 1;funext x S1;simp only[tChn];congr 1;funext y S2;simp only[Jul];cases cop o x y S2 with
 |none=>rfl
 |some k=>cases k<;>rfl
@[simp]theorem J00:evT C (.var i) τ S=tVar' τ[i]? S:=rfl
@[simp]theorem J02:evT C (.idx a b) τ S=(evE C a τ S).bind (tIdx C b τ):=rfl
@[simp]theorem J0j:evT C (.call f as) τ S=(evA C as τ S).bind (tCal C f):=rfl
@[simp]theorem J0f:evT C (.prim pr as) τ S=(evA C as τ S).bind (tPri pr):=rfl
@[simp]noncomputable def Jy3(p:Meth)(x:D)(ds:List D)(S:Store):Res Bool:=(methD p x ds S).bind kTru
@[simp]noncomputable def tMth(C:Pr)(p:Meth)(as:M)(τ:En)(x:D)(S:Store):Res Bool:=if rcv p S x then(evA C as τ S).bind (Jy3 p x)else .bad
@[simp]theorem J0h{p:Meth}{o as:M}:evT C (.meth p o as) τ S=(evE C o τ S).bind (tMth C p as τ):=rfl
@[simp]theorem J01:evT C (.isi a t) τ S=(evE C a τ S).bind (tIsi t):=rfl
@[simp]theorem J1z:evBV C w (.cns a .nul) τ S=evE C a τ S:=rfl
@[simp]theorem J1y:evBV C w (.cns a (.cns b r)) τ S=(evE C a τ S).bind (kBV C w (.cns b r) τ):=rfl
@[simp]theorem J11:evBT C w (.cns a .nul) τ S=evT C a τ S:=rfl
@[simp]theorem J10:evBT C w (.cns a (.cns b r)) τ S=(evT C a τ S).bind (kBT C w (.cns b r) τ):=rfl
@[simp]theorem v_c0:evC C .nul τ S=.ok true S:=rfl
@[simp]theorem v_c1:evC C (.cns c .nul) τ S=evT C c τ S:=rfl
@[simp]theorem v_a0:evA C .nul τ S=.ok [] S:=rfl
@[simp]theorem v_a1:evA C (.cns a b) τ S=(evE C a τ S).bind (kArg C b τ):=rfl
@[simp]theorem v_o0:evO C .nul τ S=.ok none S:=rfl
@[simp]theorem v_o1:evO C (.cns a .nul) τ S=(evE C a τ S).bind kOpt:=rfl
@[simp]theorem J1d:evI C (.rng a) τ S=(evE C a τ S).bind kRng:=rfl
@[simp]theorem J09:evI C (.cns a .nul) τ S=(evE C a τ S).bind kSeq:=rfl
@[simp]theorem J0k:evG C (.tvar i) d τ S=if i<τ.length then .ok (τ.set i (some d)) S else .bad:=rfl
@[simp]theorem J0l:evG C (.ttup ts) (.tup ds) τ S=evGs C ts ds τ S:=rfl
@[simp]theorem J0m:evG C (.tsub a b) d τ S=(evE C a τ S).bind (kSub C b d τ):=rfl
@[simp]theorem J1q:evGs C .nul [] τ S=.ok τ S:=rfl
@[simp]theorem J1p:evGs C (.cns t' ts) (d::ds) τ S=(evG C t' d τ S).bind (evGs C ts ds):=rfl
@[simp]theorem J14:evS C (.asg t' e) τ S=(evE C e τ S).bind (kAsg C t' τ):=rfl
@[simp]theorem J1l:evS C (.ifs c a b) τ S=(evT C c τ S).bind (kIfs C a b τ):=rfl
@[simp]theorem J1k:evS C (.ifx c a b) τ S=(evT C c τ S).kl.bind (kIfs C a b τ):=rfl
@[simp]theorem J1c{x:String}:evS C (.rsx x) τ S=.err x τ S:=rfl
@[simp]theorem J1b:evS C (.rtk e) τ S=(evE C e τ S).kl.bind kRet:=rfl
@[simp]theorem J07{b:M}{x t0:String}{n j l w:Nat}{ts N:List String}{keep:List Nat}{tab:List (String×List Bool)}:evS C (.trh b x n j l w t0 ts N keep tab) τ S=trhD n j l w tab (evB C b τ S):=rfl
@[simp]theorem J1i{a:M}:evE C (.kle a) τ S=(evE C a τ S).kl:=rfl
@[simp]theorem J15{e:M}:evS C (.acx i e) τ S=((evE C e τ S).at τ).bind (Jxo i τ):=rfl
@[simp]theorem J1h{s:M}:evS C (.kls s) τ S=(evS C s τ S).kl:=rfl
@[simp]theorem J1t:evS C (.exx e) τ S=((evE C e τ S).at τ).bind (kExp τ):=rfl
@[simp]theorem J13{i:Nat}:evS C (.asq i e) τ S=((evE C e τ S).at τ).bind (Jxo i τ):=rfl
@[simp]theorem J1a:evS C (.rtx e) τ S=((evE C e τ S).at τ).bind kRet:=rfl
@[simp]theorem J1m:evS C (.ifq c a b) τ S=((evT C c τ S).at τ).bind (kIfs C a b τ):=rfl
@[simp]theorem J1e:evS C (.ret e) τ S=(evE C e τ S).bind kRet:=rfl
@[simp]theorem J1u:evS C (.exp e) τ S=(evE C e τ S).bind (kExp τ):=rfl
@[simp]theorem J1s:evS C (.forr t' it b) τ S=(evI C it τ S).bind (kFor C t' b τ):=rfl
@[simp]theorem J04:evS C (.whl c b) τ S=whlL (evT C c) (evB C b) C.W τ S:=rfl
@[simp]theorem v_b0:evB C .nul τ S=.ok (.nx τ) S:=rfl
@[simp]theorem v_b1:evB C (.cns s r) τ S=(evS C s τ S).bind (kB C r):=rfl
theorem Jmw{j:Int}(h0: -(2^62)<=j)(h1:j<2^62):kRng (.int j) S=.ok (none,(List.range j.toNat).map λ(i:Nat)=>.int i) S:=by
 simp only[kRng];rw[if_pos (by simp only[Bool.and_eq_true,decide_eq_true_eq];exact⟨h0,h1⟩)]
theorem Jmy{t b:M}{P:Fl->Store->Prop}(I:Nat->En->Store->Prop)(h0:I 0 τ S)(hturn:∀i d τ S,ds[i]? =some d->I i τ S->Sat (turnF C t b d τ S) λfl S1=>match fl with|.nx τ1=>I (i+1) τ1 S1|.ct τ1=>I (i+1) τ1 S1|.bk τ1=>P (.nx τ1) S1|.rt d=>P (.rt d) S1)
  (hend:∀τ S,I ds.length τ S->P (.nx τ) S):Sat (kFor C t b τ (none,ds) S) P:=Jnb I hend hturn _ 0 τ S (by simp) h0
theorem Jmx{t b:M}{l:Nat}{P:Fl->Store->Prop}(I:Nat->En->Store->Prop)(h0:I 0 τ S)(hst:∀i τ S,I i τ S->S[l]? =some (.lst ds))(hturn:∀i d τ S,ds[i]? =some d->I i τ S->Sat (turnF C t b d τ S) λfl S1=>match fl with|.nx τ1=>I (i+1) τ1 S1|.ct τ1=>I (i+1) τ1 S1|.bk τ1=>P (.nx τ1) S1|.rt d=>P (.rt d) S1)
  (hend:∀τ S,I ds.length τ S->P (.nx τ) S):Sat (kFor C t b τ (some (l,.lst),ds) S) P:=Jna I hst hend hturn _ 0 τ S (by simp) h0
end
end Mi
namespace Mi
open PySem L2
theorem Sat.p0{α0:Type}{r:Res α0}{Q P:α0->Store->Prop}(h:Sat r Q)(k:∀a S,Q a S->Sat (.ok a S) P):Sat r P:=by
 obtain⟨a,S,e,h⟩:=h;rw[e];exact k a S h
theorem Sat.p1{α0 α1:Type}{r:Res α0}{f1:α0->Store->Res α1}{Q:α0->Store->Prop}{P:α1->Store->Prop}(h:Sat r Q)(k:∀a S,Q a S->Sat (((.ok a S:Res α0)).bind f1) P):Sat ((r).bind f1) P:=by
 obtain⟨a,S,e,h⟩:=h;rw[e];exact k a S h
theorem Sat.p2{α0 α1 α2:Type}{r:Res α0}{f1:α0->Store->Res α1}{f2:α1->Store->Res α2}{Q:α0->Store->Prop}{P:α2->Store->Prop}(h:Sat r Q)(k:∀a S,Q a S->Sat ((((.ok a S:Res α0)).bind f1).bind f2) P):Sat (((r).bind f1).bind f2) P:=by
 obtain⟨a,S,e,h⟩:=h;rw[e];exact k a S h
theorem Sat.p3{α0 α1 α2 α3:Type}{r:Res α0}{f1:α0->Store->Res α1}{f2:α1->Store->Res α2}{f3:α2->Store->Res α3}{Q:α0->Store->Prop}{P:α3->Store->Prop}(h:Sat r Q)(k:∀a S,Q a S->Sat (((((.ok a S:Res α0)).bind f1).bind f2).bind f3) P):Sat ((((r).bind f1).bind f2).bind f3) P:=by
 obtain⟨a,S,e,h⟩:=h;rw[e];exact k a S h
theorem Sat.p4{α0 α1 α2 α3 α4:Type}{r:Res α0}{f1:α0->Store->Res α1}{f2:α1->Store->Res α2}{f3:α2->Store->Res α3}{f4:α3->Store->Res α4}{Q:α0->Store->Prop}{P:α4->Store->Prop}(h:Sat r Q)(k:∀a S,Q a S->Sat ((((((.ok a S:Res α0)).bind f1).bind f2).bind f3).bind f4) P):Sat (((((r).bind f1).bind f2).bind f3).bind f4) P:=by
 obtain⟨a,S,e,h⟩:=h;rw[e];exact k a S h
theorem Sat.p5{α0 α1 α2 α3 α4 α5:Type}{r:Res α0}{f1:α0->Store->Res α1}{f2:α1->Store->Res α2}{f3:α2->Store->Res α3}{f4:α3->Store->Res α4}{f5:α4->Store->Res α5}{Q:α0->Store->Prop}{P:α5->Store->Prop}(h:Sat r Q)(k:∀a S,Q a S->Sat (((((((.ok a S:Res α0)).bind f1).bind f2).bind f3).bind f4).bind f5) P):Sat ((((((r).bind f1).bind f2).bind f3).bind f4).bind f5) P:=by
 obtain⟨a,S,e,h⟩:=h;rw[e];exact k a S h
theorem Sat.p6{α0 α1 α2 α3 α4 α5 α6:Type}{r:Res α0}{f1:α0->Store->Res α1}{f2:α1->Store->Res α2}{f3:α2->Store->Res α3}{f4:α3->Store->Res α4}{f5:α4->Store->Res α5}{f6:α5->Store->Res α6}{Q:α0->Store->Prop}{P:α6->Store->Prop}(h:Sat r Q)(k:∀a S,Q a S->Sat ((((((((.ok a S:Res α0)).bind f1).bind f2).bind f3).bind f4).bind f5).bind f6) P):Sat (((((((r).bind f1).bind f2).bind f3).bind f4).bind f5).bind f6) P:=by
 obtain⟨a,S,e,h⟩:=h;rw[e];exact k a S h
theorem Sat.p7{α0 α1 α2 α3 α4 α5 α6 α7:Type}{r:Res α0}{f1:α0->Store->Res α1}{f2:α1->Store->Res α2}{f3:α2->Store->Res α3}{f4:α3->Store->Res α4}{f5:α4->Store->Res α5}{f6:α5->Store->Res α6}{f7:α6->Store->Res α7}{Q:α0->Store->Prop}{P:α7->Store->Prop}(h:Sat r Q)(k:∀a S,Q a S->Sat (((((((((.ok a S:Res α0)).bind f1).bind f2).bind f3).bind f4).bind f5).bind f6).bind f7) P):Sat ((((((((r).bind f1).bind f2).bind f3).bind f4).bind f5).bind f6).bind f7) P:=by
 obtain⟨a,S,e,h⟩:=h;rw[e];exact k a S h
theorem Sat.p8{α0 α1 α2 α3 α4 α5 α6 α7 α8:Type}{r:Res α0}{f1:α0->Store->Res α1}{f2:α1->Store->Res α2}{f3:α2->Store->Res α3}{f4:α3->Store->Res α4}{f5:α4->Store->Res α5}{f6:α5->Store->Res α6}{f7:α6->Store->Res α7}{f8:α7->Store->Res α8}{Q:α0->Store->Prop}{P:α8->Store->Prop}(h:Sat r Q)(k:∀a S,Q a S->Sat ((((((((((.ok a S:Res α0)).bind f1).bind f2).bind f3).bind f4).bind f5).bind f6).bind f7).bind f8) P):Sat (((((((((r).bind f1).bind f2).bind f3).bind f4).bind f5).bind f6).bind f7).bind f8) P:=by
 obtain⟨a,S,e,h⟩:=h;rw[e];exact k a S h
theorem Sat.p9{α0 α1 α2 α3 α4 α5 α6 α7 α8 α9:Type}{r:Res α0}{f1:α0->Store->Res α1}{f2:α1->Store->Res α2}{f3:α2->Store->Res α3}{f4:α3->Store->Res α4}{f5:α4->Store->Res α5}{f6:α5->Store->Res α6}{f7:α6->Store->Res α7}{f8:α7->Store->Res α8}{f9:α8->Store->Res α9}{Q:α0->Store->Prop}{P:α9->Store->Prop}(h:Sat r Q)(k:∀a S,Q a S->Sat (((((((((((.ok a S:Res α0)).bind f1).bind f2).bind f3).bind f4).bind f5).bind f6).bind f7).bind f8).bind f9) P):Sat ((((((((((r).bind f1).bind f2).bind f3).bind f4).bind f5).bind f6).bind f7).bind f8).bind f9) P:=by
 obtain⟨a,S,e,h⟩:=h;rw[e];exact k a S h
theorem Sat.p10{α0 α1 α2 α3 α4 α5 α6 α7 α8 α9 α10:Type}{r:Res α0}{f1:α0->Store->Res α1}{f2:α1->Store->Res α2}{f3:α2->Store->Res α3}{f4:α3->Store->Res α4}{f5:α4->Store->Res α5}{f6:α5->Store->Res α6}{f7:α6->Store->Res α7}{f8:α7->Store->Res α8}{f9:α8->Store->Res α9}{f10:α9->Store->Res α10}{Q:α0->Store->Prop}{P:α10->Store->Prop}(h:Sat r Q)(k:∀a S,Q a S->Sat ((((((((((((.ok a S:Res α0)).bind f1).bind f2).bind f3).bind f4).bind f5).bind f6).bind f7).bind f8).bind f9).bind f10) P):Sat (((((((((((r).bind f1).bind f2).bind f3).bind f4).bind f5).bind f6).bind f7).bind f8).bind f9).bind f10) P:=by
 obtain⟨a,S,e,h⟩:=h;rw[e];exact k a S h
noncomputable def Ext(S S':Store):Prop:=∃X,S'=S++X
theorem Ext.refl(S:Store):Ext S S:=⟨[],by simp⟩
theorem Ext.trans{S S1 S2:Store}(a:Ext S S1)(b:Ext S1 S2):Ext S S2:=by
 obtain⟨X,rfl⟩:=a;obtain⟨Y,rfl⟩:=b;exact⟨X++Y,by rw[List.append_assoc]⟩
theorem Ext.new(S X:Store):Ext S (S++X):=⟨X,rfl⟩
theorem Ext.more{S S1:Store}(a:Ext S S1)(X:Store):Ext S (S1++X):=a.trans (.new _ _)
theorem Ext.get{S S':Store}{l:Nat}{o:Obj}(e:Ext S S')(h:S[l]? =some o):S'[l]? =some o:=by
 obtain⟨X,rfl⟩:=e;exact Jtg h
theorem Ext.len{S S':Store}(e:Ext S S'):S.length<=S'.length:=by
 obtain⟨X,rfl⟩:=e;simp
theorem Ext.set{S S':Store}(e:Ext S S'){l:Nat}(h:S.length<=l)(o:Obj):Ext S (S'.set l o):=by
 obtain⟨X,rfl⟩:=e;refine⟨X.set (l-S.length) o,?_⟩;rw[List.set_append_right _ _ h]
theorem Jq9{S:Store}{l:Nat}{o:Obj}(h:S[l]? =some o):l<S.length:=(List.getElem?_eq_some_iff.mp h).1
theorem Jdk{S:Store}{l:Nat}{o o':Obj}(h:S[l]? =some o):(S.set l o')[l]? =some o':=List.getElem?_set_self (Jq9 h)
noncomputable def Lsts(S S':Store):Prop:=∀(l:Nat) (ds:List D),S[l]? =some (.lst ds)->∃es,S'[l]? =some (.lst es)
theorem Lsts.ext{S S':Store}(e:Ext S S'):Lsts S S':=λl ds h=>⟨ds,e.get h⟩
theorem Lsts.trans{S S1 S2:Store}(a:Lsts S S1)(b:Lsts S1 S2):Lsts S S2:=λl ds h=>let⟨_,h1⟩:=a l ds h;b l _ h1
theorem Lsts.set{S:Store}(l:Nat)(es:List D):Lsts S (S.set l (.lst es)):=λk ds h=>by
 by_cases e:l=k
 ·subst e;exact⟨es,Jdk h⟩
 ·exact⟨ds,by rw[List.getElem?_set_ne e];exact h⟩
section
variable {S:Store} {ds:List D} {i:Int} {l:Nat}
@[simp]theorem Jyy{a:D}:Jai (.tup (a::ds)) (.int 0) S=.ok a S:=by
 have e:atI (a::ds) (0:Int)=some a:=by
  simp only[atI,ixN,List.length_cons];rw[if_pos (by decide),if_pos (by omega)];rfl
 simp only[Jai,Jm5 e]
end
noncomputable def noB:En->Store->Prop:=λ_ _=>False
noncomputable def noR:D->Store->Prop:=λ_ _=>False
noncomputable def FlP(I B:En->Store->Prop)(R:D->Store->Prop)(fl:Fl)(S:Store):Prop:=match fl with
 |.nx τ=>I τ S
 |.ct τ=>I τ S
 |.bk τ=>B τ S
 |.rt d=>R d S
noncomputable def OutP(I B:En->Store->Prop)(R:D->Store->Prop)(fl:Fl)(S:Store):Prop:=match fl with
 |.nx τ=>I τ S\/B τ S
 |.rt d=>R d S
 |_=>False
section
variable {I B:En->Store->Prop} {R:D->Store->Prop} {fl:Fl} {S:Store} {τ:En} {d:D}
@[simp]theorem J0x:FlP I B R (.nx τ) S↔I τ S:=Iff.rfl
@[simp]theorem J0y:FlP I B R (.ct τ) S↔I τ S:=Iff.rfl
@[simp]theorem J0z:FlP I B R (.bk τ) S↔B τ S:=Iff.rfl
@[simp]theorem J0w:FlP I B R (.rt d) S↔R d S:=Iff.rfl
theorem OutP.nx(h:OutP I noB noR fl S):∃τ,fl=.nx τ/\I τ S:=by
 cases fl with
 |nx τ=>exact⟨τ,rfl,h.elim id False.elim⟩
 |_=>exact False.elim h
theorem OutP.nr(h:OutP I noB R fl S):(∃τ,fl=.nx τ/\I τ S)\/∃d,fl=.rt d/\R d S:=by
 cases fl with
 |nx τ=>exact .inl ⟨τ,rfl,h.elim id False.elim⟩
 |rt d=>exact .inr ⟨d,rfl,h⟩
 |_=>exact False.elim h
end
section
variable {C:Pr} {t b c:M} {ds:List D} {S:Store} {τ:En} {B:En->Store->Prop} {R:D->Store->Prop}
theorem loop(I:Nat->En->Store->Prop)(B:En->Store->Prop)(R:D->Store->Prop)(h0:I 0 τ S)(hturn:∀i d τ S,ds[i]? =some d->I i τ S->Sat (turnF C t b d τ S) (FlP (I (i+1)) B R)):Sat (kFor C t b τ (none,ds) S) (OutP (I ds.length) B R):=
 Jmy I h0 (λi d τ S e h=>(hturn i d τ S e h).mono λfl S1 q=>by
  cases fl with
  |nx τ1=>exact q
  |ct τ1=>exact q
  |bk τ1=>exact .inr q
  |rt d=>exact q) λτ S h=>.inl h
theorem loopS{l:Nat}(I:Nat->En->Store->Prop)(B:En->Store->Prop)(R:D->Store->Prop)(h0:I 0 τ S)(hst:∀i τ S,I i τ S->S[l]? =some (.lst ds))(hturn:∀i d τ S,ds[i]? =some d->I i τ S->Sat (turnF C t b d τ S) (FlP (I (i+1)) B R)):Sat (kFor C t b τ (some (l,.lst),ds) S) (OutP (I ds.length) B R):=
 Jmx I h0 hst (λi d τ S e h=>(hturn i d τ S e h).mono λfl S1 q=>by
  cases fl with
  |nx τ1=>exact q
  |ct τ1=>exact q
  |bk τ1=>exact .inr q
  |rt d=>exact q) λτ S h=>.inl h
end
noncomputable def cutI(ns:List Int)(lo hi:Option Int):List Int:=(ns.drop (HT.sIx ns.length 0 lo)).take (HT.sIx ns.length ns.length hi-HT.sIx ns.length 0 lo)
theorem Jpy(ns:List Int)(lo hi:Option Int):(cutI ns lo hi).length<=ns.length:=by
 unfold cutI;rw[List.length_take,List.length_drop];omega
@[simp]theorem Jli{ns:List Int}{lo hi:Option Int}{S:Store}:sliD (.kl (ns.map D.int)) lo hi S=.ok (.loc S.length) (S++[.lst ((cutI ns lo hi).map D.int)]):=by
 simp only[sliD,cutD,cutI,List.length_map,List.map_take,List.map_drop]
@[simp]theorem J0u{S:Store}{b:Bool}:tru S (.bl b)=some b:=rfl
@[simp]theorem Jy1{S:Store}{i:Int}:tru S (.int i)=some (i !=0):=rfl
@[simp]theorem Jy0{S:Store}:tru S .non=some false:=rfl
@[simp]theorem Jyz{S:Store}{ds:List D}:tru S (.tup ds)=some (!ds.isEmpty):=rfl
@[simp]theorem Jq5{a b:String}:Str.ofString a=Str.ofString b↔a=b:=by
 constructor
 ·intro h;rw[Str.ofString_eq_toList,Str.ofString_eq_toList]at h;have h1:a.toList.map Char.toNat=b.toList.map Char.toNat:=by
   injection h with h;have:=congrArg Array.toList h
   simpa using this
  have h2:a.toList=b.toList:=(List.map_inj_right (λx y e=>Char.ext (UInt32.toNat_inj.mp e))).mp h1;exact String.toList_inj.mp h2
 ·rintro rfl;rfl
theorem atI_last{α:Type}{xs:List α}{x:α}:atI (xs++[x]) (-1)=some x:=by
 have h1:¬(0:Int)<= -1:=by decide
 have h2: -(((xs++[x]).length:Nat):Int)<= -1:=by simp;omega
 simp only[atI,ixN,if_neg h1,if_pos h2,Option.bind_some];have:(-1+(((xs++[x]).length:Nat):Int)).toNat=xs.length:=by simp;omega
 rw[this];simp
theorem Jpl{α:Type}{xs:List α}{x:α}:ixN (xs++[x]).length (-1)=some xs.length:=by
 have h1:¬(0:Int)<= -1:=by decide
 have h2: -(((xs++[x]).length:Nat):Int)<= -1:=by simp;omega
 simp only[ixN,if_neg h1,if_pos h2];congr 1;simp;omega
section
variable {S:Store} {l:Nat} {ds:List D} {d:D}
theorem Jpj{i:Int}(e:atI ds i=some d):Jai (.tup ds) (.int i) S=.ok d S:=by simp only[Jai,Jm5 e]
theorem Joe{e:D}(h:S[l]? =some (.lst (ds++[d]))):setS (.loc l) (.int (-1)) e S=.ok () (S.set l (.lst (ds++[e]))):=by
 rw[Jsi h Jpl];simp
theorem Jpa(h:S[l]? =some (.lst (ds++[d]))):methD .pop0 (.loc l) [] S=.ok d (S.set l (.lst ds)):=by
 have:(ds++[d])[(ds++[d]).length-1]? =some d:=by simp
 simp only[Ji7,h,this,List.dropLast_concat]
theorem Jb8(h:S[l]? =some (.lst ds)):tru S (.loc l)=some (!ds.isEmpty):=by simp only[tru,seqAt,h]
end
noncomputable def Keep(ps:List Nat)(S S':Store):Prop:=S.length<=S'.length/\∀l:Nat,l<S.length->l∉ps->S'[l]? =S[l]?
section
variable {S S1 S2 B:Store} {ps:List Nat}
theorem Keep.refl:Keep ps S S:=⟨Nat.le_refl _,λ_ _ _=>rfl⟩
theorem Keep.trans(a:Keep ps S S1)(b:Keep ps S1 S2):Keep ps S S2:=⟨Nat.le_trans a.1 b.1,λl h n=>(b.2 l (Nat.lt_of_lt_of_le h a.1) n).trans (a.2 l h n)⟩
theorem Keep.get{l:Nat}{o:Mi.Obj}(a:Keep ps S S1)(h:S[l]? =some o)(n:l∉ps):S1[l]? =some o:=(a.2 l (Jq9 h) n).trans h
theorem Keep.ext(e:Ext S S1):Keep ps S S1:=⟨e.len,λl h n=>by
 rw[List.getElem?_eq_getElem h];exact e.get (List.getElem?_eq_getElem h)⟩
theorem Keep.new(X:Store):Keep ps S (S++X):=.ext (.new _ _)
theorem Keep.set{p:Nat}{o:Mi.Obj}(h:p∈ps):Keep ps S (S.set p o):=⟨by simp,λl hl n=>by
 rw[List.getElem?_set_ne];rintro rfl;exact n h⟩
theorem Keep.mono{qs:List Nat}(a:Keep ps S S1)(h:∀p∈ps,p∈qs):Keep qs S S1:=⟨a.1,λl hl n=>a.2 l hl λz=>n (h l z)⟩
theorem Ext.keep(e:Ext B S)(k:Keep ps S S1)(h:∀p∈ps,B.length<=p):Ext B S1:=by
 refine⟨S1.drop B.length,?_⟩;have:B=S1.take B.length:=by
  refine List.ext_getElem? λi=>?_
  by_cases hi:i<B.length
  ·rw[List.getElem?_take_of_lt hi];have h1:=e.get (List.getElem?_eq_getElem hi);rw[List.getElem?_eq_getElem hi];exact(k.get h1 λz=>absurd (h i z) (by omega)).symm
  ·rw[List.getElem?_eq_none (by omega),List.getElem?_eq_none (by rw[List.length_take];omega)]
 calc S1=S1.take B.length++S1.drop B.length:=(List.take_append_drop _ _).symm
  _=B++S1.drop B.length:=by rw[<-this]
end
theorem Ji0{S:Store}{l:Nat}{ds:List D}{lo hi:Option Int}(h:S[l]? =some (.lst ds)):sliD (.loc l) lo hi S=.ok (.loc S.length) (S++[.lst (cutD ds lo hi)]):=by simp only[sliD,seqAt,h]
theorem Jgn{ds:List D}{i:Int}(h0:0<=i):cutD ds (some i) none=ds.drop i.toNat:=by
 simp only[cutD,HT.sIx];rw[if_neg (by omega)]
 by_cases h:i.toNat<=ds.length
 ·rw[show min i.toNat ds.length=i.toNat by omega];rw[List.take_of_length_le (by rw[List.length_drop];omega)]
 ·rw[List.drop_eq_nil_of_le (by omega:ds.length<=i.toNat),List.drop_eq_nil_of_le (by omega),List.take_nil]
theorem Jdw{α:Type}{C:Pr}{k:Nat}{keep:List Nat}{tg cd el:M}{τ:En}{S:Store}{g:Wk}{xs:List α}(h:α->D)(f:α->D)(hl:xs.length<=1000000)(hg:g=none\/∃l,g=some (l,.lst)/\S[l]? =some (.lst (xs.map h)))
  (ht:∀x∈xs,turnC C tg cd el (h x) (inEn k keep τ) S=.ok (some (f x)) S):kComp C k keep tg cd el τ (g,xs.map h) S=.ok (.loc S.length) (S++[.lst (xs.map f)]):=by
 have main:Sat (compL (turnC C tg cd el) g (xs.map h) (xs.map h).length 0 (inEn k keep τ) S []) λys S1=>ys=xs.map f/\S1=S:=by
  have len:∀(i:Nat) (acc:List D) (S1:Store),(acc=(xs.take i).map f/\S1=S/\i<=xs.length)->acc.length<=i:=λi acc S1 h=>by
   rw[h.1,List.length_map,List.length_take];omega
  have tn:∀(i:Nat) (d:D) (acc:List D) (S1:Store),(xs.map h)[i]? =some d->(acc=(xs.take i).map f/\S1=S/\i<=xs.length)->Sat (turnC C tg cd el d (inEn k keep τ) S1) λo S1=>match o with|some y=>(acc++[y]=(xs.take (i+1)).map f/\S1=S/\i+1<=xs.length)|none=>(acc=(xs.take (i+1)).map f/\S1=S/\i+1<=xs.length):=by
   rintro i d acc S1 hd ⟨rfl,rfl,hi⟩;rw[List.getElem?_map]at hd;obtain⟨x,hx,rfl⟩:=Option.map_eq_some_iff.mp hd;rw[ht x (List.mem_of_getElem? hx)];refine .ok ⟨?_,rfl,(List.getElem?_eq_some_iff.mp hx).1⟩;rw[List.take_add_one,hx,List.map_append];rfl
  have hln:(xs.map h).length<=Line:=by rw[List.length_map];exact Jpc hl
  rcases hg with rfl|⟨l,rfl,hs⟩
  ·exact Jkp (λi acc S1=>acc=(xs.take i).map f/\S1=S/\i<=xs.length) hln len (λacc S1 h=>by rw[List.length_map,List.take_length]at h;exact⟨h.1,h.2.1⟩) tn _ 0 [] S (by omega) ⟨by simp,rfl,by omega⟩
  ·exact Jko (λi acc S1=>acc=(xs.take i).map f/\S1=S/\i<=xs.length) hln (λi acc S1 h=>⟨len i acc S1 h,by rw[h.2.1];exact hs⟩) (λacc S1 h=>by rw[List.length_map,List.take_length]at h;exact⟨h.1,h.2.1⟩) tn _ 0 [] S (by omega) ⟨by simp,rfl,by omega⟩
 obtain⟨ys,S1,e,rfl,rfl⟩:=main;simp only[kComp,e,Res.bind_ok,Jmz]
noncomputable def dropS:Nat->M->M
 |0,m=>m
 |n+1,.cns _ r=>dropS n r
 |_,m=>m
end Mi
namespace Mi
open PySem L2
section
variable {S:Store} {l:Nat} {kvs:List (Int×D)} {fs:List (String×D)} {c f m:String} {x:Int} {d:D} {ds:List D}
theorem Jad(h:S[l]? =some (.lst ds)):seqAt S l=some ds:=by unfold seqAt;rw[h]
theorem Jic(h:S[l]? =some (.lst ds)):rcv p S (.loc l)=true:=by simp only[rcv,Jad h,Option.isSome_some]
end
end Mi
namespace Tx
open PySem PySem.W.KIN PySem.NumText PyProof.Rows
noncomputable def sg(x:PySem.Str):List Nat:=x.cps.toList
noncomputable def dg(m:Nat):List Nat:=(Nat.toDigits 10 m).map Char.toNat
theorem Jqe(m:Nat):sg (Str.ofString (toString ((m:Nat):Int)))=dg m:=signs_num m
theorem Jqd(m:Nat):sg (Str.ofString (toString (Int.negSucc m)))=45::dg (m+1):=by
 unfold sg;rw[signs_ofString];show("-"++Nat.repr (m+1)).toList.map Char.toNat=_;rw[String.toList_append,Nat.toList_repr];rfl
theorem Jhm(m:Nat):AllDigits (dg m):=by
 intro c hc;obtain⟨ch,hch,e⟩:=List.mem_map.mp hc;have r:=digit_range (Nat.isDigit_of_mem_toDigits (by decide) (by decide) hch);rw[<-e];exact r
theorem Jya(m:Nat):dg m≠[]:=by
 intro e;have h:=toDigits_len_ge 10 m;rw[List.map_eq_nil_iff.mp e]at h;exact absurd h (by decide)
theorem Jrc(m:Nat):digitsVal (dg m)=m:=val_back m
theorem Jtt(m:Nat)(h:10<=m):dg m=dg (m/10)++dg (m%10):=by
 have hm:m%10<10:=Nat.mod_lt m (by decide);have t:Nat.toDigits 10 (m/10)++Nat.toDigits 10 (m%10)=Nat.toDigits 10 (10*(m/10)+m%10):=Nat.toDigits_append_toDigits (by decide) (by omega) hm;rw[Nat.div_add_mod]at t;unfold dg;rw[<-t,List.map_append]
theorem Jni{d:Nat}(h:d<10):dg d=[48+d]:=by
 unfold dg;rw[Nat.toDigits_of_lt_base h];have:∀d:Nat,d<10->[(Nat.digitChar d).toNat]=[48+d]:=by decide
 exact this d h
theorem Jnj:∀(k m:Nat),m<10^(k+1)->(dg m).length<=k+1
 |0,m,h=>by rw[Jni (by simpa using h)];simp
 |k+1,m,h=>by
  by_cases hm:m<10
  ·rw[Jni hm];simp
  ·rw[Jtt m (by omega),List.length_append,Jni (Nat.mod_lt m (by decide))];have:=Jnj k (m/10) (by rw[Nat.pow_succ]at h;omega);simp;omega
noncomputable def fig(l:List Nat):List Nat:=if l.head?=some 45 then l.tail else l
noncomputable def isNum(l:List Nat):Bool:=decide (1<=(fig l).length)&&decide ((fig l).length<=60)&&(fig l).all (λc=>decide (48<=c/\c<=57))&&(decide ((fig l).head?≠some 48)||decide (l=[48]))
theorem reads{i:Int}(h:i.natAbs<10^60):intText? (Str.ofString (toString i))=some i:=by
 cases i with
 |ofNat m=>
  have hl:=Jnj 59 m h;have e:=Jqe m;have:=intText_digits (x:=Str.ofString (toString ((m:Nat):Int))) (by rw[show(Str.ofString (toString ((m:Nat):Int))).cps.toList=dg m from e];exact Jhm m) (by rw[show(Str.ofString (toString ((m:Nat):Int))).cps.toList=dg m from e];exact Jya m) (by
   show(Str.ofString (toString ((m:Nat):Int))).cps.size<=4300;rw[<-Array.length_toList,show(Str.ofString (toString ((m:Nat):Int))).cps.toList=dg m from e];omega)
  rw[show(Str.ofString (toString ((m:Nat):Int))).cps.toList=dg m from e,Jrc]at this;exact this
 |negSucc m=>
  have hl:=Jnj 59 (m+1) h;have e:=Jqd m;have:=intText_neg (x:=Str.ofString (toString (Int.negSucc m))) (cs:=dg (m+1)) e (Jhm _) (Jya _) (by
   show(Str.ofString (toString (Int.negSucc m))).cps.size<=4300;rw[<-Array.length_toList,show(Str.ofString (toString (Int.negSucc m))).cps.toList=45::dg (m+1)from e];simp;omega)
  rw[this,Jrc];rfl
noncomputable def cut(c:Nat):List Nat->List (List Nat)
 |[]=>[[]]
 |x::l=>if x=c then[]::cut c l else(match cut c l with|p::r=>(x::p)::r|[]=>[[x]])
theorem Jjy{c:Nat}:∀{p:List Nat},c∉p->cut c p=[p]
 |[],_=>rfl
 |x::p,h=>by
  simp only[List.mem_cons,not_or]at h;rw[cut,if_neg (Ne.symm h.1),Jjy h.2]
theorem Jnt{c:Nat}{l:List Nat}:∀{p:List Nat},c∉p->cut c (p++c::l)=p::cut c l
 |[],_=>by rw[List.nil_append,cut,if_pos rfl]
 |x::p,h=>by
  simp only[List.mem_cons,not_or]at h;rw[List.cons_append,cut,if_neg (Ne.symm h.1),Jnt h.2]
theorem Jjx(c:Nat):∀ps:List PySem.Str,ps≠[]->(∀p∈ps,c∉sg p)->cut c (sg (Str.join ⟨#[c]⟩ ps))=ps.map sg
 |[],h,_=>absurd rfl h
 |[x],_,f=>Jjy (f x (by simp))
 |x::y::r,_,f=>by
  have ih:=Jjx c (y::r) (by simp) λp hp=>f p (by simp[hp]);have e:sg (Str.join ⟨#[c]⟩ (x::y::r))=sg x++c::sg (Str.join ⟨#[c]⟩ (y::r)):=by
   show(x++(⟨#[c]⟩:PySem.Str)++Str.join ⟨#[c]⟩ (y::r)).cps.toList=_;rw[PySem.Str.cps_append,PySem.Str.cps_append];simp[sg]
  rw[e,Jnt (f x (by simp)),ih];rfl
theorem Jgz(x:PySem.Str)(c:Nat):(Txt.split x ⟨#[c]⟩).map sg=cut c (sg x):=by
 have h:=Jjx c (Txt.split x ⟨#[c]⟩) (λe=>by have:=split_pos x ⟨#[c]⟩;rw[e]at this;exact absurd this (by decide)) (StrLaws.split_free x c);rw[StrLaws.join_split]at h;exact h.symm
theorem Jtu(x:PySem.Str)(lo hi:Option Int):Mi.cutS x lo hi=StrLaws.sliceText x lo hi:=rfl
theorem Jsh{x:PySem.Str}{i:Int}(h:0<=i/\i<=(sg x).length):sg (Mi.cutS x (some i) none)=(sg x).drop i.toNat:=by
 rw[Jtu,StrLaws.sliceText_from h];simp only[sg,List.toList_toArray];rw[List.take_of_length_le];simp;omega
theorem Jj8(x:PySem.Str)(c:Nat):Txt.startswith x ⟨#[c]⟩=decide ((sg x).head?=some c):=by
 have h:=StrLaws.subAt_one x c 0;unfold Txt.startswith
 by_cases e:(sg x).head?=some c
 ·have:=h.mpr (by rw[<-List.head?_eq_getElem?];exact e);simp[e,this.2]
  simpa using this.1
 ·rw[decide_eq_false e];refine Bool.eq_false_iff.mpr λq=>?_;simp only[Bool.and_eq_true,decide_eq_true_eq]at q;exact e (by rw[List.head?_eq_getElem?];exact h.mp q)
theorem Jxt(x:PySem.Str)(c:Nat):(!(Builtin.Str.occurrences x ⟨#[c]⟩ 0 x.length 1).isEmpty)=decide (c∈sg x):=StrLaws.found_one x c
theorem Jkk(c:Nat):decide (c∈sg (Str.ofString "0123456789"))=decide (48<=c/\c<=57):=by
 have e:sg (Str.ofString "0123456789")=[48,49,50,51,52,53,54,55,56,57]:=by decide
 rw[e,decide_eq_decide];simp;omega
end Tx
namespace Tx
open PySem PySem.StrLaws
noncomputable def joinL(y:List Nat):List (List Nat)->List Nat
 |[]=>[]
 |[p]=>p
 |p::q::r=>p++(y++joinL y (q::r))
theorem Je7(x y:PySem.Str):sg (x++y)=sg x++sg y:=by
 unfold sg;rw[PySem.Str.cps_append];simp
theorem Jg3{x y:PySem.Str}(h:sg x=sg y):x=y:=by
 obtain⟨a⟩:=x;obtain⟨b⟩:=y;have:a.toList=b.toList:=h;rw[Array.toList_inj.mp this]
theorem Jap(x:PySem.Str):x.length=(sg x).length:=by
 show x.cps.size=x.cps.toList.length;simp
theorem Jlk(y:PySem.Str):∀ps:List PySem.Str,sg (Str.join y ps)=joinL (sg y) (ps.map sg)
 |[]=>rfl
 |[p]=>rfl
 |p::q::r=>by
  show sg (p++y++Str.join y (q::r))=sg p++(sg y++joinL (sg y) ((q::r).map sg));rw[Je7,Je7,Jlk y (q::r),List.append_assoc]
end Tx
namespace Tx
open PySem PySem.StrLaws
theorem Jk3(x y:PySem.Str):Txt.startswith x y=decide ((sg x).take (sg y).length=sg y):=by
 unfold Txt.startswith;rw[subAt_eq,List.drop_zero,Nat.zero_add,Jap,Jap]
 by_cases h:(sg x).take (sg y).length=sg y
 ·have:(sg y).length<=(sg x).length:=by
   have:=congrArg List.length h;rw[List.length_take]at this;omega
  rw[decide_eq_true this,decide_eq_true h,Bool.true_and];exact beq_iff_eq.mpr h
 ·rw[decide_eq_false h];refine Bool.eq_false_iff.mpr λz=>?_;rw[Bool.and_eq_true]at z;exact h (beq_iff_eq.mp z.2)
end Tx
namespace K66
open PySem L2 Mi
noncomputable def Jc2:Fn:=⟨["thing"],["thing"],
 (.cns (.ret (.bo true (.cns (.isi (.var 0) "int") (.cns (.nott (.isi (.var 0) "bool")) .nul)))) .nul)⟩
noncomputable def Jcf:Fn:=⟨["thing","least","most"],["thing","least","most"],
 (.cns (.ret (.bo true (.cns (.call "is_whole" (.cns (.var 0) .nul)) (.cns (.cmp2 .le .le (.var 1) (.var 0) (.var 2)) .nul)))) .nul)⟩
noncomputable def Jc3:Fn:=⟨["thing","least","most"],["thing","least","most"],
 (.cns (.ret (.bo true (.cns (.isi (.var 0) "tuple") (.cns (.cmp2 .le .le (.var 1) (.prim .len (.cns (.var 0) .nul)) (.var 2)) .nul)))) .nul)⟩
noncomputable def Jb3:Fn:=⟨["thing"],["thing"],
 (.cns (.ifs (.nott (.call "is_tuple" (.cns (.var 0) (.cns (.cst (.int 0)) (.cns (.glb "MOST_ROWS") .nul))))) (.cns (.ret (.cst (.bl false))) .nul) .nul) (.cns (.ret (.bo true (.cns (.prim .all1 (.cns (.comp ["row"] 1 [] (.tvar 0) (.cns (.var 0) .nul) .nul (.call "is_row" (.cns (.var 0) .nul))) .nul)) (.cns (.call "ifs_fit" (.cns (.var 0) .nul)) .nul)))) .nul))⟩
noncomputable def Jb6:Fn:=⟨["thing"],["thing"],
 (.cns (.ret (.bo true (.cns (.call "is_tuple" (.cns (.var 0) (.cns (.cst (.int 0)) (.cns (.glb "MOST_KEYS") .nul)))) (.cns (.prim .all1 (.cns (.comp ["key"] 1 [] (.tvar 0) (.cns (.var 0) .nul) .nul (.call "is_short" (.cns (.var 0) .nul))) .nul)) .nul)))) .nul)⟩
noncomputable def Jc4:Fn:=⟨["thing"],["thing"],
 (.cns (.ret (.bo true (.cns (.call "is_whole" (.cns (.var 0) .nul)) (.cns (.cmp .lt (.prim .abs (.cns (.var 0) .nul)) (.bin .pow (.cst (.int 10)) (.cst (.int 50)))) .nul)))) .nul)⟩
noncomputable def Jbw:Fn:=⟨["thing"],["thing"],
 (.cns (.ifs (.bo false (.cns (.nott (.call "is_tuple" (.cns (.var 0) (.cns (.cst (.int 1)) (.cns (.cst (.int 2)) .nul))))) (.cns (.nott (.isi (.idx (.var 0) (.cst (.int 0))) "str")) .nul))) (.cns (.ret (.cst (.bl false))) .nul) .nul) (.cns (.ifs (.cmp .eq (.prim .len (.cns (.var 0) .nul)) (.cst (.int 1))) (.cns (.ret (.cmp .inn (.idx (.var 0) (.cst (.int 0))) (.glb "LONE_WORDS"))) .nul) .nul) (.cns (.ifs (.cmp .eq (.idx (.var 0) (.cst (.int 0))) (.cst (.str "push"))) (.cns (.ret (.call "is_short" (.cns (.idx (.var 0) (.cst (.int 1))) .nul))) .nul) .nul) (.cns (.ret (.bo true (.cns (.cmp .inn (.idx (.var 0) (.cst (.int 0))) (.glb "PLACE_WORDS")) (.cns (.call "is_within" (.cns (.idx (.var 0) (.cst (.int 1))) (.cns (.cst (.int 0)) (.cns (.glb "LAST_PLACE") .nul)))) .nul)))) .nul))))⟩
noncomputable def Jdz:Fn:=⟨["rows"],["rows","elses","row"],
 (.cns (.asg (.tvar 1) (.lst .nul)) (.cns (.forr (.tvar 2) (.cns (.var 0) .nul) (.cns (.ifs (.cmp .eq (.idx (.var 2) (.cst (.int 0))) (.cst (.str "if"))) (.cns (.exp (.meth .append (.var 1) (.cns (.cst (.bl false)) .nul))) .nul) (.cns (.ifs (.cmp .eq (.idx (.var 2) (.cst (.int 0))) (.cst (.str "else"))) (.cns (.ifs (.bo false (.cns (.nott (.var 1)) (.cns (.idx (.var 1) (.neg (.cst (.int 1)))) .nul))) (.cns (.ret (.cst (.bl false))) .nul) .nul) (.cns (.asg (.tsub (.var 1) (.neg (.cst (.int 1)))) (.cst (.bl true))) .nul)) (.cns (.ifs (.cmp .eq (.idx (.var 2) (.cst (.int 0))) (.cst (.str "end"))) (.cns (.ifs (.nott (.var 1)) (.cns (.ret (.cst (.bl false))) .nul) .nul) (.cns (.exp (.meth .pop0 (.var 1) .nul)) .nul)) .nul) .nul)) .nul)) (.cns (.ifs (.cmp .gt (.prim .len (.cns (.var 1) .nul)) (.glb "MOST_IFS_WITHIN")) (.cns (.ret (.cst (.bl false))) .nul) .nul) .nul))) (.cns (.ret (.nott (.var 1))) .nul)))⟩
noncomputable def Jd0:Fn:=⟨["thing"],["thing"],
 (.cns (.ifx (.nott (.call "is_deed" (.cns (.var 0) .nul))) (.cns (.rsx "NoDeed") .nul) .nul) (.cns (.rtk (.var 0)) .nul))⟩
noncomputable def Jc5:Fn:=⟨["deed"],["deed"],
 (.cns (.ret (.cmp .eq (.prim .len (.cns (.idx (.var 0) (.cst (.int 1))) .nul)) (.cst (.int 0)))) .nul)⟩
noncomputable def Jb4:Fn:=⟨["thing"],["thing"],
 (.cns (.ifs (.nott (.call "is_tuple" (.cns (.var 0) (.cns (.cst (.int 3)) (.cns (.cst (.int 3)) .nul))))) (.cns (.ret (.cst (.bl false))) .nul) .nul) (.cns (.ret (.bo true (.cns (.call "is_within" (.cns (.idx (.var 0) (.cst (.int 0))) (.cns (.cst (.int 1)) (.cns (.bin .pow (.cst (.int 10)) (.cst (.int 30))) .nul)))) (.cns (.call "are_ins" (.cns (.idx (.var 0) (.cst (.int 1))) .nul)) (.cns (.call "are_outs" (.cns (.idx (.var 0) (.cst (.int 2))) .nul)) .nul))))) .nul))⟩
noncomputable def Jcr:Fn:=⟨["thing"],["thing"],
 (.cns (.ret (.bo true (.cns (.call "is_tuple" (.cns (.var 0) (.cns (.cst (.int 0)) (.cns (.glb "MOST_INS") .nul)))) (.cns (.prim .all1 (.cns (.comp ["part"] 1 [] (.tvar 0) (.cns (.var 0) .nul) .nul (.call "is_in" (.cns (.var 0) .nul))) .nul)) .nul)))) .nul)⟩
noncomputable def Jfm:Fn:=⟨["thing"],["thing"],
 (.cns (.ret (.bo true (.cns (.call "is_tuple" (.cns (.var 0) (.cns (.cst (.int 2)) (.cns (.cst (.int 2)) .nul)))) (.cns (.call "is_coin" (.cns (.idx (.var 0) (.cst (.int 0))) .nul)) (.cns (.call "are_keys" (.cns (.idx (.var 0) (.cst (.int 1))) .nul)) .nul))))) .nul)⟩
noncomputable def Jdy:Fn:=⟨["thing"],["thing"],
 (.cns (.ret (.bo true (.cns (.call "is_tuple" (.cns (.var 0) (.cns (.cst (.int 2)) (.cns (.cst (.int 2)) .nul)))) (.cns (.prim .all1 (.cns (.comp ["part"] 1 [] (.tvar 0) (.cns (.var 0) .nul) .nul (.call "is_within" (.cns (.var 0) (.cns (.cst (.int 0)) (.cns (.bin .pow (.cst (.int 10)) (.cst (.int 30))) .nul))))) .nul)) .nul)))) .nul)⟩
noncomputable def Jb5:Fn:=⟨["thing"],["thing"],
 (.cns (.ret (.bo true (.cns (.call "is_tuple" (.cns (.var 0) (.cns (.cst (.int 1)) (.cns (.glb "MOST_OUTS") .nul)))) (.cns (.prim .all1 (.cns (.comp ["part"] 1 [] (.tvar 0) (.cns (.var 0) .nul) .nul (.call "is_out" (.cns (.var 0) .nul))) .nul)) .nul)))) .nul)⟩
noncomputable def Jdx:Fn:=⟨["thing"],["thing"],
 (.cns (.ret (.bo true (.cns (.call "is_tuple" (.cns (.var 0) (.cns (.cst (.int 2)) (.cns (.cst (.int 2)) .nul)))) (.cns (.call "is_within" (.cns (.idx (.var 0) (.cst (.int 0))) (.cns (.cst (.int 1)) (.cns (.bin .pow (.cst (.int 10)) (.cst (.int 40))) .nul)))) (.cns (.call "is_lock" (.cns (.idx (.var 0) (.cst (.int 1))) .nul)) .nul))))) .nul)⟩
noncomputable def Ja4:Fn:=⟨["thing"],["thing"],
 (.cns (.ifx (.nott (.call "is_block" (.cns (.var 0) .nul))) (.cns (.rsx "NoBlock") .nul) .nul) (.cns (.rtk (.var 0)) .nul))⟩
noncomputable def Jbb:Fn:=⟨["thing"],["thing"],
 (.cns (.ifs (.bo false (.cns (.nott (.call "is_tuple" (.cns (.var 0) (.cns (.cst (.int 4)) (.cns (.cst (.int 4)) .nul))))) (.cns (.nott (.call "is_within" (.cns (.idx (.var 0) (.cst (.int 0))) (.cns (.cst (.int 1)) (.cns (.bin .pow (.cst (.int 10)) (.cst (.int 30))) .nul))))) .nul))) (.cns (.ret (.cst (.bl false))) .nul) .nul) (.cns (.ret (.bo true (.cns (.call "is_within" (.cns (.idx (.var 0) (.cst (.int 1))) (.cns (.cst (.int 0)) (.cns (.bin .pow (.cst (.int 10)) (.cst (.int 30))) .nul)))) (.cns (.call "is_within" (.cns (.idx (.var 0) (.cst (.int 2))) (.cns (.cst (.int 1)) (.cns (.bin .pow (.cst (.int 10)) (.cst (.int 30))) .nul)))) (.cns (.call "are_deeds" (.cns (.idx (.var 0) (.cst (.int 3))) .nul)) .nul))))) .nul))⟩
noncomputable def Jav:Fn:=⟨["thing"],["thing"],
 (.cns (.ifs (.bo false (.cns (.nott (.call "is_tuple" (.cns (.var 0) (.cns (.cst (.int 1)) (.cns (.glb "MOST_DEEDS") .nul))))) (.cns (.nott (.prim .all1 (.cns (.comp ["part"] 1 [] (.tvar 0) (.cns (.var 0) .nul) .nul (.call "is_deed" (.cns (.var 0) .nul))) .nul))) .nul))) (.cns (.ret (.cst (.bl false))) .nul) .nul) (.cns (.ret (.bo true (.cns (.call "is_maker" (.cns (.idx (.var 0) (.cst (.int 0))) .nul)) (.cns (.nott (.prim .any1 (.cns (.comp ["deed"] 1 [] (.tvar 0) (.cns (.sli (.var 0) (.cns (.cst (.int 1)) .nul) .nul) .nul) .nul (.call "is_maker" (.cns (.var 0) .nul))) .nul))) .nul)))) .nul))⟩
noncomputable def Jbv:Fn:=⟨["coin"],["coin"],
 (.cns (.ret (.meth .join1 (.cst (.str ".")) (.cns (.comp ["number"] 1 [] (.tvar 0) (.cns (.var 0) .nul) .nul (.prim .str1 (.cns (.var 0) .nul))) .nul))) .nul)⟩
noncomputable def Jbh:Fn:=⟨["lock"],["lock"],
 (.cns (.ifs (.nott (.var 0)) (.cns (.ret (.glb "EMPTY_LOCK")) .nul) .nul) (.cns (.ret (.meth .join1 (.cst (.str ", ")) (.cns (.comp ["row"] 1 [] (.tvar 0) (.cns (.var 0) .nul) .nul (.call "shown_row" (.cns (.var 0) .nul))) .nul))) .nul))⟩
noncomputable def Jcb:Fn:=⟨["row"],["row"],
 (.cns (.ret (.meth .join1 (.cst (.str " ")) (.cns (.bin .add (.lst (.cns (.idx (.var 0) (.cst (.int 0))) .nul)) (.comp ["number"] 1 [] (.tvar 0) (.cns (.sli (.var 0) (.cns (.cst (.int 1)) .nul) .nul) .nul) .nul (.prim .str1 (.cns (.var 0) .nul)))) .nul))) .nul)⟩
noncomputable def Jbu:Fn:=⟨["deed"],["deed","ins","outs"],
 (.cns (.asg (.tvar 1) (.comp ["part"] 1 [] (.tvar 0) (.cns (.idx (.var 0) (.cst (.int 1))) .nul) .nul (.call "shown_in" (.cns (.var 0) .nul)))) (.cns (.asg (.tvar 2) (.comp ["part"] 1 [] (.tvar 0) (.cns (.idx (.var 0) (.cst (.int 2))) .nul) .nul (.call "shown_out" (.cns (.var 0) .nul)))) (.cns (.ret (.meth .join1 (.cst (.str "; ")) (.cns (.bin .add (.bin .add (.lst (.cns (.prim .str1 (.cns (.idx (.var 0) (.cst (.int 0))) .nul)) .nul)) (.var 1)) (.var 2)) .nul))) .nul)))⟩
noncomputable def Jc0:Fn:=⟨["part"],["part"],
 (.cns (.ret (.meth .join1 (.cst (.str " ")) (.cns (.bin .add (.lst (.cns (.cst (.str "in")) (.cns (.call "shown_coin" (.cns (.idx (.var 0) (.cst (.int 0))) .nul)) .nul))) (.comp ["key"] 1 [] (.tvar 0) (.cns (.idx (.var 0) (.cst (.int 1))) .nul) .nul (.prim .str1 (.cns (.var 0) .nul)))) .nul))) .nul)⟩
noncomputable def Jcc:Fn:=⟨["part"],["part"],
 (.cns (.ret (.meth .join1 (.cst (.str " ")) (.cns (.lst (.cns (.cst (.str "out")) (.cns (.prim .str1 (.cns (.idx (.var 0) (.cst (.int 0))) .nul)) (.cns (.call "shown_lock" (.cns (.idx (.var 0) (.cst (.int 1))) .nul)) .nul)))) .nul))) .nul)⟩
noncomputable def Jbm:Fn:=⟨["block"],["block","place"],
 (.cns (.asg (.tvar 1) (.meth .join1 (.cst (.str " ")) (.cns (.lst (.cns (.prim .str1 (.cns (.idx (.var 0) (.cst (.int 0))) .nul)) (.cns (.cst (.str "on")) (.cns (.prim .str1 (.cns (.idx (.var 0) (.cst (.int 1))) .nul)) (.cns (.cst (.str "weight")) (.cns (.prim .str1 (.cns (.idx (.var 0) (.cst (.int 2))) .nul)) .nul)))))) .nul))) (.cns (.ret (.meth .join1 (.cst (.str " | ")) (.cns (.bin .add (.lst (.cns (.var 1) .nul)) (.comp ["deed"] 1 [] (.tvar 0) (.cns (.idx (.var 0) (.cst (.int 3))) .nul) .nul (.call "shown_deed" (.cns (.var 0) .nul)))) .nul))) .nul))⟩
noncomputable def Ja2:Fn:=⟨["text"],["text"],
 (.cns (.ifq (.nott (.call "is_number" (.cns (.call "checked_text" (.cns (.var 0) .nul)) .nul))) (.cns (.rsx "NoText") .nul) .nul) (.cns (.rtk (.prim .int1 (.cns (.var 0) .nul))) .nul))⟩
noncomputable def f_read_coin:Fn:=⟨["text"],["text","numbers"],
 (.cns (.asq 1 (.meth .split1 (.call "checked_text" (.cns (.var 0) .nul)) (.cns (.cst (.str ".")) .nul))) (.cns (.ifx (.bo false (.cns (.cmp .ne (.prim .len (.cns (.var 1) .nul)) (.cst (.int 2))) (.cns (.nott (.prim .all1 (.cns (.comp ["number"] 1 [] (.tvar 0) (.cns (.var 1) .nul) .nul (.bo true (.cns (.call "is_number" (.cns (.var 0) .nul)) (.cns (.cmp .ne (.idx (.var 0) (.cst (.int 0))) (.cst (.str "-"))) .nul)))) .nul))) .nul))) (.cns (.rsx "NoText") .nul) .nul) (.cns (.rtk (.prim .tuple1 (.cns (.comp ["number"] 1 [] (.tvar 0) (.cns (.var 1) .nul) .nul (.prim .int1 (.cns (.var 0) .nul))) .nul))) .nul)))⟩
noncomputable def Ja8:Fn:=⟨["text"],["text","lock"],
 (.cns (.asq 1 (.call "formed_lock" (.cns (.call "checked_text" (.cns (.var 0) .nul)) .nul))) (.cns (.ifx (.nott (.call "is_lock" (.cns (.var 1) .nul))) (.cns (.rsx "NoLock") .nul) .nul) (.cns (.rtk (.var 1)) .nul)))⟩
noncomputable def Ja9:Fn:=⟨["text"],["text"],
 (.cns (.rtx (.call "checked" (.cns (.call "formed_deed" (.cns (.call "checked_text" (.cns (.var 0) .nul)) .nul)) .nul))) .nul)⟩
noncomputable def Jay:Fn:=⟨["text"],["text"],
 (.cns (.rtx (.call "checked_block" (.cns (.call "formed_block" (.cns (.call "checked_text" (.cns (.var 0) .nul)) .nul)) .nul))) .nul)⟩
noncomputable def Jbg:Fn:=⟨["thing"],["thing"],
 (.cns (.ifx (.nott (.isi (.var 0) "str")) (.cns (.rsx "NoText") .nul) .nul) (.cns (.rtk (.var 0)) .nul))⟩
noncomputable def f_is_number:Fn:=⟨["text"],["text","figures"],
 (.cns (.kls (.asg (.tvar 1) (.ife (.meth .starts (.var 0) (.cns (.cst (.str "-")) .nul)) (.sli (.var 0) (.cns (.cst (.int 1)) .nul) .nul) (.var 0)))) (.cns (.ifx (.bo false (.cns (.nott (.cmp2 .le .le (.cst (.int 1)) (.prim .len (.cns (.var 1) .nul)) (.glb "MOST_FIGURES"))) (.cns (.nott (.call "is_made_of" (.cns (.var 1) (.cns (.glb "FIGURES") .nul)))) .nul))) (.cns (.rtk (.cst (.bl false))) .nul) .nul) (.cns (.rtk (.bo false (.cns (.cmp .ne (.idx (.var 1) (.cst (.int 0))) (.cst (.str "0"))) (.cns (.cmp .eq (.var 0) (.cst (.str "0"))) .nul)))) .nul)))⟩
noncomputable def Jbx:Fn:=⟨["text","signs"],["text","signs"],
 (.cns (.ret (.prim .all1 (.cns (.comp ["sign","signs"] 1 [1] (.tvar 0) (.cns (.var 0) .nul) .nul (.cmp .inn (.var 0) (.var 1))) .nul))) .nul)⟩
noncomputable def Ja3:Fn:=⟨["text"],["text"],
 (.cns (.ifx (.cmp .eq (.var 0) (.glb "EMPTY_LOCK")) (.cns (.rtk (.tup .nul)) .nul) .nul) (.cns (.rtx (.prim .tuple1 (.cns (.comp ["row"] 1 [] (.tvar 0) (.cns (.kle (.meth .split1 (.var 0) (.cns (.cst (.str ", ")) .nul))) .nul) .nul (.call "formed_row" (.cns (.var 0) .nul))) .nul))) .nul))⟩
noncomputable def Jaz:Fn:=⟨["text"],["text","words"],
 (.cns (.kls (.asg (.tvar 1) (.meth .split1 (.var 0) (.cns (.cst (.str " ")) .nul)))) (.cns (.ifx (.bo false (.cns (.cmp .eq (.idx (.var 1) (.cst (.int 0))) (.cst (.str ""))) (.cns (.nott (.call "is_made_of" (.cns (.idx (.var 1) (.cst (.int 0))) (.cns (.glb "SMALL_LETTERS") .nul)))) .nul))) (.cns (.rsx "NoText") .nul) .nul) (.cns (.rtx (.prim .tuple1 (.cns (.bin .add (.kle (.lst (.cns (.idx (.var 1) (.cst (.int 0))) .nul))) (.comp ["word"] 1 [] (.tvar 0) (.cns (.kle (.sli (.var 1) (.cns (.cst (.int 1)) .nul) .nul)) .nul) .nul (.call "read_number" (.cns (.var 0) .nul)))) .nul))) .nul)))⟩
noncomputable def f_formed_deed:Fn:=⟨["text"],["text","parts","ins","outs","part"],
 (.cns (.kls (.asg (.tvar 1) (.meth .split1 (.var 0) (.cns (.cst (.str "; ")) .nul)))) (.cns (.kls (.asg (.tvar 2) (.lst .nul))) (.cns (.kls (.asg (.tvar 3) (.lst .nul))) (.cns (.forr (.tvar 4) (.cns (.kle (.sli (.var 1) (.cns (.cst (.int 1)) .nul) .nul)) .nul) (.cns (.ifx (.bo true (.cns (.meth .starts (.var 4) (.cns (.cst (.str "in ")) .nul)) (.cns (.nott (.var 3)) .nul))) (.cns (.exx (.meth .append (.var 2) (.cns (.call "formed_in" (.cns (.var 4) .nul)) .nul))) .nul) (.cns (.exx (.meth .append (.var 3) (.cns (.call "formed_out" (.cns (.var 4) .nul)) .nul))) .nul)) .nul)) (.cns (.rtx (.tup (.cns (.call "read_number" (.cns (.idx (.var 1) (.cst (.int 0))) .nul)) (.cns (.kle (.prim .tuple1 (.cns (.var 2) .nul))) (.cns (.kle (.prim .tuple1 (.cns (.var 3) .nul))) .nul))))) .nul)))))⟩
noncomputable def Jbq:Fn:=⟨["text"],["text","words"],
 (.cns (.kls (.asg (.tvar 1) (.meth .split1 (.var 0) (.cns (.cst (.str " ")) .nul)))) (.cns (.rtx (.tup (.cns (.call "read_coin" (.cns (.idx (.var 1) (.cst (.int 1))) .nul)) (.cns (.prim .tuple1 (.cns (.comp ["word"] 1 [] (.tvar 0) (.cns (.kle (.sli (.var 1) (.cns (.cst (.int 2)) .nul) .nul)) .nul) .nul (.call "read_number" (.cns (.var 0) .nul))) .nul)) .nul)))) .nul))⟩
noncomputable def f_formed_out:Fn:=⟨["text"],["text","words"],
 (.cns (.kls (.asg (.tvar 1) (.meth .split2 (.var 0) (.cns (.cst (.str " ")) (.cns (.cst (.int 2)) .nul))))) (.cns (.ifx (.bo false (.cns (.cmp .ne (.prim .len (.cns (.var 1) .nul)) (.cst (.int 3))) (.cns (.cmp .ne (.idx (.var 1) (.cst (.int 0))) (.cst (.str "out"))) .nul))) (.cns (.rsx "NoText") .nul) .nul) (.cns (.rtx (.tup (.cns (.call "read_number" (.cns (.idx (.var 1) (.cst (.int 1))) .nul)) (.cns (.call "formed_lock" (.cns (.idx (.var 1) (.cst (.int 2))) .nul)) .nul)))) .nul)))⟩
noncomputable def f_formed_block:Fn:=⟨["text"],["text","parts","words","deeds"],
 (.cns (.kls (.asg (.tvar 1) (.meth .split1 (.var 0) (.cns (.cst (.str " | ")) .nul)))) (.cns (.kls (.asg (.tvar 2) (.meth .split1 (.idx (.var 1) (.cst (.int 0))) (.cns (.cst (.str " ")) .nul)))) (.cns (.ifx (.bo false (.cns (.cmp .ne (.prim .len (.cns (.var 2) .nul)) (.cst (.int 5))) (.cns (.cmp .ne (.idx (.var 2) (.cst (.int 1))) (.cst (.str "on"))) (.cns (.cmp .ne (.idx (.var 2) (.cst (.int 3))) (.cst (.str "weight"))) .nul)))) (.cns (.rsx "NoText") .nul) .nul) (.cns (.acx 3 (.comp ["part"] 1 [] (.tvar 0) (.cns (.kle (.sli (.var 1) (.cns (.cst (.int 1)) .nul) .nul)) .nul) .nul (.call "formed_deed" (.cns (.var 0) .nul)))) (.cns (.rtx (.tup (.cns (.call "read_number" (.cns (.idx (.var 2) (.cst (.int 0))) .nul)) (.cns (.call "read_number" (.cns (.idx (.var 2) (.cst (.int 2))) .nul)) (.cns (.call "read_number" (.cns (.idx (.var 2) (.cst (.int 4))) .nul)) (.cns (.kle (.prim .tuple1 (.cns (.var 3) .nul))) .nul)))))) .nul)))))⟩
noncomputable def Jcd:Fn:=⟨["_law_cell_here"],["_law_cell_here"],
 (.cns (.ret (.bin .mod (.bin .mul (.bin .mul (.bin .add (.bin .mod (.var 0) (.cst (.int 2147483647))) (.cst (.int 11))) (.cst (.int 48271))) (.cst (.int 69621))) (.cst (.int 2147483629)))) .nul)⟩
noncomputable def Jb2:Fn:=⟨["_law_script","_law_k"],["_law_script","_law_k"],
 (.cns (.ifs (.cmp .lt (.var 1) (.prim .len (.cns (.var 0) .nul))) (.cns (.ret (.idx (.var 0) (.var 1))) .nul) .nul) (.cns (.ret (.cst (.int 0))) .nul))⟩
noncomputable def Jc1:Fn:=⟨["_law_number"],["_law_number","_law_some"],
 (.cns (.asg (.tvar 1) (.lst (.cns (.cst (.str "push 5")) (.cns (.cst (.str "same")) (.cns (.cst (.str "copy 1")) (.cns (.cst (.str "if")) (.cns (.cst (.str "else")) (.cns (.cst (.str "end")) (.cns (.cst (.str "-")) (.cns (.cst (.str "in 3.0")) (.cns (.cst (.str "in 4.1 7")) (.cns (.cst (.str "out 9 -")) .nul)))))))))))) (.cns (.asg (.tvar 1) (.bin .add (.var 1) (.lst (.cns (.cst (.str "out 2 push 1")) (.cns (.cst (.str "7")) (.cns (.cst (.str "0")) (.cns (.cst (.str "9 on 4 weight 3")) (.cns (.cst (.str "8 on 0 weight 1")) (.cns (.cst (.str "add")) (.cns (.cst (.str "paid 0")) (.cns (.cst (.str "not")) .nul))))))))))) (.cns (.asg (.tvar 1) (.bin .add (.var 1) (.lst (.cns (.cst (.str "1; out 1 -")) (.cns (.cst (.str "2; in 1.0; out 1 -")) (.cns (.cst (.str "x")) .nul)))))) (.cns (.ret (.idx (.var 1) (.bin .mod (.var 0) (.cst (.int 21))))) .nul))))⟩
noncomputable def Jce:Fn:=⟨["_law_number"],["_law_number"],
 (.cns (.ret (.idx (.lst (.cns (.cst (.str ", ")) (.cns (.cst (.str "; ")) (.cns (.cst (.str " | ")) (.cns (.cst (.str " ")) (.cns (.cst (.str ",")) (.cns (.cst (.str ".")) (.cns (.cst (.str "")) .nul)))))))) (.bin .mod (.var 0) (.cst (.int 7))))) .nul)⟩
noncomputable def f_law_pieces:Fn:=⟨["_law_script"],["_law_script","_law_numbers","_law_number","_law_many","_law_k","_law_one_here","_law_joint_here"],
 (.cns (.asg (.tvar 1) (.lst .nul)) (.cns (.ifs (.cmp .eq (.bin .mod (.call "_law_cell" (.cns (.var 0) (.cns (.cst (.int 0)) .nul))) (.cst (.int 2))) (.cst (.int 1))) (.cns (.asg (.tvar 1) (.comp ["_law_cell_here"] 1 [] (.tvar 0) (.cns (.sli (.var 0) (.cns (.cst (.int 1)) .nul) (.cns (.cst (.int 61)) .nul)) .nul) .nul (.bin .fdiv (.call "_law_mixed" (.cns (.var 0) .nul)) (.cst (.int 3))))) .nul) (.cns (.asg (.ttup (.cns (.tvar 2) (.cns (.tvar 3) .nul))) (.prim .divmod (.cns (.call "_law_cell" (.cns (.var 0) (.cns (.cst (.int 1)) .nul))) (.cns (.cst (.int 13)) .nul)))) (.cns (.forr (.tvar 4) (.rng (.var 3)) (.cns (.asg (.ttup (.cns (.tvar 2) (.cns (.tvar 5) .nul))) (.prim .divmod (.cns (.var 2) (.cns (.bin .mul (.cst (.int 21)) (.cst (.int 7))) .nul)))) (.cns (.exp (.meth .append (.var 1) (.cns (.var 5) .nul))) .nul))) .nul))) (.cns (.ifs (.cmp .eq (.bin .mod (.bin .fdiv (.call "_law_cell" (.cns (.var 0) (.cns (.cst (.int 0)) .nul))) (.cst (.int 2))) (.cst (.int 3))) (.cst (.int 0))) (.cns (.ret (.meth .join1 (.cst (.str "")) (.cns (.comp ["_law_number"] 1 [] (.tvar 0) (.cns (.var 1) .nul) .nul (.bin .add (.call "_law_word" (.cns (.var 0) .nul)) (.call "_law_joint" (.cns (.bin .fdiv (.var 0) (.cst (.int 21))) .nul)))) .nul))) .nul) .nul) (.cns (.asg (.tvar 6) (.idx (.lst (.cns (.cst (.str ", ")) (.cns (.cst (.str "; ")) (.cns (.cst (.str " | ")) .nul)))) (.bin .mod (.bin .fdiv (.call "_law_cell" (.cns (.var 0) (.cns (.cst (.int 0)) .nul))) (.cst (.int 6))) (.cst (.int 3))))) (.cns (.ret (.meth .join1 (.var 6) (.cns (.comp ["_law_number"] 1 [] (.tvar 0) (.cns (.var 1) .nul) .nul (.call "_law_word" (.cns (.var 0) .nul))) .nul))) .nul)))))⟩
noncomputable def Jbo:Fn:=⟨["_law_text","_law_way"],["_law_text","_law_way"],
 (.cns (.ifx (.cmp .eq (.var 1) (.cst (.int 0))) (.cns (.rtx (.call "read_lock" (.cns (.var 0) .nul))) .nul) .nul) (.cns (.ifx (.cmp .eq (.var 1) (.cst (.int 1))) (.cns (.rtx (.call "read_deed" (.cns (.var 0) .nul))) .nul) .nul) (.cns (.rtx (.call "read_block" (.cns (.var 0) .nul))) .nul)))⟩
noncomputable def Jba:Fn:=⟨["_law_thing","_law_way"],["_law_thing","_law_way"],
 (.cns (.ifs (.cmp .eq (.var 1) (.cst (.int 0))) (.cns (.ret (.call "shown_lock" (.cns (.var 0) .nul))) .nul) .nul) (.cns (.ifs (.cmp .eq (.var 1) (.cst (.int 1))) (.cns (.ret (.call "shown_deed" (.cns (.var 0) .nul))) .nul) .nul) (.cns (.ret (.call "shown_block" (.cns (.var 0) .nul))) .nul)))⟩
noncomputable def Jcq:Fn:=⟨["_law_text","_law_way"],["_law_text","_law_way","_law_kinds","_law_found","e","_law_own","_law_shown_here"],
 (.cns (.asg (.tvar 2) (.lst .nul)) (.cns (.asg (.tvar 3) (.cst .non)) (.cns (.trh (.cns (.asq 3 (.call "_law_read" (.cns (.var 0) (.cns (.var 1) .nul)))) .nul) "CoinError" 4 5 2 1 "NoText" ["NoLock","NoDeed","NoBlock"] ["_law_one_here"] [] [("NoBlock",[false,false,false,true]),("NoDeed",[false,false,true,false]),("NoLock",[false,true,false,false]),("NoText",[true,false,false,false])]) (.cns (.ifs (.cmp .ne (.var 2) (.lst .nul)) (.cns (.ret (.cmp .inn (.var 2) (.lst (.cns (.lst (.cns (.cst (.bl true)) (.cns (.cst (.bl false)) .nul))) (.cns (.lst (.cns (.cst (.bl false)) (.cns (.cst (.bl true)) .nul))) .nul))))) .nul) .nul) (.cns (.ifs (.nott (.isi (.var 3) "tuple")) (.cns (.ret (.cst (.bl false))) .nul) .nul) (.cns (.asg (.tvar 6) (.call "_law_shown" (.cns (.var 3) (.cns (.var 1) .nul)))) (.cns (.ret (.bo true (.cns (.isi (.var 6) "str") (.cns (.cmp .eq (.var 6) (.var 0)) (.cns (.cmp .eq (.call "_law_read" (.cns (.var 6) (.cns (.var 1) .nul))) (.var 3)) .nul))))) .nul)))))))⟩
noncomputable def f_law:Fn:=⟨["_law_script"],["_law_script","_law_text","_law_way","_law_k","_law_block","_law_some"],
 (.cns (.asg (.tvar 1) (.call "_law_pieces" (.cns (.var 0) .nul))) (.cns (.forr (.tvar 2) (.cns (.lst (.cns (.cst (.int 0)) (.cns (.cst (.int 1)) (.cns (.cst (.int 2)) (.cns (.cst (.int 0)) .nul))))) .nul) (.cns (.ifs (.nott (.call "_law_one" (.cns (.var 1) (.cns (.var 2) .nul)))) (.cns (.ret (.cst (.bl false))) .nul) .nul) .nul)) (.cns (.forr (.tvar 3) (.rng (.cst (.int 4))) (.cns (.asg (.tvar 4) (.bin .add (.bin .add (.cst (.str "1 on 0 weight 5 | 1; out 1 -")) (.bin .mul (.cst (.str " | ")) (.bin .mod (.prim .len (.cns (.var 1) .nul)) (.cst (.int 2))))) (.var 1))) (.cns (.asg (.tvar 5) (.idx (.lst (.cns (.var 1) (.cns (.bin .add (.cst (.str "7; ")) (.var 1)) (.cns (.var 4) (.cns (.bin .add (.var 1) (.cst (.str "; out 3 -"))) .nul))))) (.var 3))) (.cns (.ifs (.nott (.call "_law_one" (.cns (.var 5) (.cns (.idx (.lst (.cns (.cst (.int 0)) (.cns (.cst (.int 1)) (.cns (.cst (.int 2)) (.cns (.cst (.int 1)) .nul))))) (.var 3)) .nul)))) (.cns (.ret (.cst (.bl false))) .nul) .nul) .nul)))) (.cns (.ret (.cst (.bl true))) .nul))))⟩
noncomputable def T:Tb:=λf=>if f="is_whole" then some Jc2 else if f="is_within" then some Jcf else if f="is_tuple" then some Jc3 else if f="is_lock" then some Jb3 else if f="are_keys" then some Jb6 else if f="is_short" then some Jc4 else if f="is_row" then some Jbw else if f="ifs_fit" then some Jdz else if f="checked" then some Jd0 else if f="is_maker" then some Jc5 else if f="is_deed" then some Jb4 else if f="are_ins" then some Jcr else if f="is_in" then some Jfm else if f="is_coin" then some Jdy else if f="are_outs" then some Jb5 else if f="is_out" then some Jdx else if f="checked_block" then some Ja4 else if f="is_block" then some Jbb else if f="are_deeds" then some Jav else if f="shown_coin" then some Jbv else if f="shown_lock" then some Jbh else if f="shown_row" then some Jcb else if f="shown_deed" then some Jbu else if f="shown_in" then some Jc0 else if f="shown_out" then some Jcc else if f="shown_block" then some Jbm else if f="read_number" then some Ja2 else if f="read_coin" then some f_read_coin else if f="read_lock" then some Ja8 else if f="read_deed" then some Ja9 else if f="read_block" then some Jay else if f="checked_text" then some Jbg else if f="is_number" then some f_is_number else if f="is_made_of" then some Jbx else if f="formed_lock" then some Ja3 else if f="formed_row" then some Jaz else if f="formed_deed" then some f_formed_deed else if f="formed_in" then some Jbq else if f="formed_out" then some f_formed_out else if f="formed_block" then some f_formed_block else if f="_law_mixed" then some Jcd else if f="_law_cell" then some Jb2 else if f="_law_word" then some Jc1 else if f="_law_joint" then some Jce else if f="_law_pieces" then some f_law_pieces else if f="_law_read" then some Jbo else if f="_law_shown" then some Jba else if f="_law_one" then some Jcq else if f="law" then some f_law else none
noncomputable def G:String->Option D:=λx=>if x="MOST_ROWS" then some (.int 30)else if x="MOST_KEYS" then some (.int 10)else if x="LONE_WORDS" then some (.tup [.str "drop",.str "swap",.str "add",.str "sub",.str "mul",.str "less",.str "same",.str "not",.str "need",.str "height",.str "age",.str "worth",.str "ins",.str "outs",.str "if",.str "else",.str "end"])else if x="PLACE_WORDS" then some (.tup [.str "copy",.str "paid"])else if x="LAST_PLACE" then some (.int 9)else if x="MOST_IFS_WITHIN" then some (.int 5)else if x="MOST_INS" then some (.int 8)else if x="MOST_OUTS" then some (.int 8)else if x="MOST_DEEDS" then some (.int 12)else if x="EMPTY_LOCK" then some (.str "-")else if x="MOST_FIGURES" then some (.int 60)else if x="FIGURES" then some (.str "0123456789")else if x="SMALL_LETTERS" then some (.str "abcdefghijklmnopqrstuvwxyz")else none
theorem Jen:T "is_whole"=some Jc2:=rfl
theorem Jd7:T "is_within"=some Jcf:=rfl
theorem Jeo:T "is_tuple"=some Jc3:=rfl
theorem Jfr:T "is_lock"=some Jb3:=rfl
theorem Jet:T "are_keys"=some Jb6:=rfl
theorem Jep:T "is_short"=some Jc4:=rfl
theorem Jda:T "is_row"=some Jbw:=rfl
theorem Jfu:T "ifs_fit"=some Jdz:=rfl
theorem Jdp:T "checked"=some Jd0:=rfl
theorem Jeq:T "is_maker"=some Jc5:=rfl
theorem Jfs:T "is_deed"=some Jb4:=rfl
theorem Jfv:T "are_ins"=some Jcr:=rfl
theorem Jh6:T "is_in"=some Jfm:=rfl
theorem Jft:T "is_coin"=some Jdy:=rfl
theorem Jes:T "are_outs"=some Jb5:=rfl
theorem Jf3:T "is_out"=some Jdx:=rfl
theorem Jbd:T "checked_block"=some Ja4:=rfl
theorem Jer:T "is_block"=some Jbb:=rfl
theorem Jcl:T "are_deeds"=some Jav:=rfl
theorem Jdf:T "shown_coin"=some Jbv:=rfl
theorem Jdd:T "shown_lock"=some Jbh:=rfl
theorem Jd2:T "shown_row"=some Jcb:=rfl
theorem Jde:T "shown_deed"=some Jbu:=rfl
theorem Jel:T "shown_in"=some Jc0:=rfl
theorem Jd3:T "shown_out"=some Jcc:=rfl
theorem Jct:T "shown_block"=some Jbm:=rfl
theorem Ja5:T "read_number"=some Ja2:=rfl
theorem Jci:T "read_coin"=some f_read_coin:=rfl
theorem Ja6:T "read_lock"=some Ja8:=rfl
theorem Ja7:T "read_deed"=some Ja9:=rfl
theorem Jax:T "read_block"=some Jay:=rfl
theorem Jbl:T "checked_text"=some Jbg:=rfl
theorem Jcj:T "is_number"=some f_is_number:=rfl
theorem Jdh:T "is_made_of"=some Jbx:=rfl
theorem Jbs:T "formed_lock"=some Ja3:=rfl
theorem Jby:T "formed_row"=some Jaz:=rfl
theorem Jbt:T "formed_deed"=some f_formed_deed:=rfl
theorem Jck:T "formed_in"=some Jbq:=rfl
theorem Jbz:T "formed_out"=some f_formed_out:=rfl
theorem Jbk:T "formed_block"=some f_formed_block:=rfl
theorem Jd5:T "_law_mixed"=some Jcd:=rfl
theorem Jcv:T "_law_cell"=some Jb2:=rfl
theorem Jem:T "_law_word"=some Jc1:=rfl
theorem Jd6:T "_law_joint"=some Jce:=rfl
theorem Jdg:T "_law_pieces"=some f_law_pieces:=rfl
theorem Jcu:T "_law_read"=some Jbo:=rfl
theorem Jd4:T "_law_shown"=some Jba:=rfl
theorem Jdo:T "_law_one"=some Jcq:=rfl
theorem Jn3:T "law"=some f_law:=rfl
theorem Jdq:G "MOST_ROWS"=some (.int 30):=rfl
theorem Jfx:G "MOST_KEYS"=some (.int 10):=rfl
theorem Jh7:G "LAST_PLACE"=some (.int 9):=rfl
theorem Jan:G "MOST_IFS_WITHIN"=some (.int 5):=rfl
theorem Jf4:G "MOST_INS"=some (.int 8):=rfl
theorem Jfw:G "MOST_OUTS"=some (.int 8):=rfl
theorem Jbi:G "MOST_DEEDS"=some (.int 12):=rfl
theorem Jcx:G "EMPTY_LOCK"=some (.str "-"):=rfl
theorem Jb0:G "MOST_FIGURES"=some (.int 60):=rfl
theorem Jh8:G "FIGURES"=some (.str "0123456789"):=rfl
theorem Jcw:G "SMALL_LETTERS"=some (.str "abcdefghijklmnopqrstuvwxyz"):=rfl
end K66
set_option maxRecDepth 20000
namespace K66
open PySem L2 Mi Tx PySem.NumText PySem.W.KIN
noncomputable abbrev nt(z:Int):PySem.Str:=Str.ofString (toString z)
theorem Jp8:∀(cs:List Nat) (a:Nat),AllDigits cs->cs.foldl (λacc c=>acc*10+(c-48)) a<(a+1)*10^cs.length
 |[],a,_=>by simp
 |c::cs,a,h=>by
  have:=Jp8 cs (a*10+(c-48)) h.tail;have hc:=h.head;rw[List.foldl_cons,List.length_cons,Nat.pow_succ];refine Nat.lt_of_lt_of_le this ?_;rw[show(a+1)*(10^cs.length*10)=((a+1)*10)*10^cs.length by rw[Nat.mul_assoc,Nat.mul_comm 10]];exact Nat.mul_le_mul_right _ (by omega)
theorem Jnk{cs:List Nat}(h:AllDigits cs)(h1:cs≠[])(h2:cs.head?≠some 48\/cs=[48]):dg (digitsVal cs)=cs:=by
 obtain⟨c,r,rfl⟩:=List.exists_cons_of_ne_nil h1;have t:=toDigits_digitsVal r.length (c::r) rfl h (by
  rcases h2 with h2|h2
  ·exact .inr ⟨c,r,rfl,by have:=h.head;have:c≠48:=λz=>h2 (by rw[z];rfl);omega⟩
  ·cases h2;exact .inl rfl)
 unfold dg;rw[t,List.map_map];refine(List.map_congr_left λd hd=>?_).trans (List.map_id _);have:=h d hd;have k:∀d:Nat,d<60->(Char.ofNat d).toNat=d:=by decide
 exact k d (by omega)
theorem Jgj(l:List Nat):isNum l=(decide (1<=(fig l).length)&&decide ((fig l).length<=60)&&(fig l).all (λc=>decide (48<=c/\c<=57))&&(decide ((fig l).head?≠some 48)||decide (l=[48]))):=rfl
theorem Jo6{x:PySem.Str}(h:isNum (sg x)=true):∃i:Int,x=nt i/\i.natAbs<10^60:=by
 rw[Jgj]at h;simp only[Bool.and_eq_true,decide_eq_true_eq,List.all_eq_true,Bool.or_eq_true]at h;obtain⟨⟨⟨h1,h2⟩,h3⟩,h4⟩:=h;have ad:AllDigits (fig (sg x)):=h3;have ne:fig (sg x)≠[]:=λz=>by rw[z]at h1;simp at h1
 have vl:=Jp8 (fig (sg x)) 0 ad;have bd:digitsVal (fig (sg x))<10^60:=Nat.lt_of_lt_of_le vl (by rw[Nat.zero_add,Nat.one_mul];exact Nat.pow_le_pow_right (by decide) h2)
 by_cases c:(sg x).head?=some 45
 ·have e:sg x=45::fig (sg x):=by
   cases q:sg x with
   |nil=>rw[q]at c;cases c
   |cons a l=>rw[q]at c;cases c;rfl
  have h5:(fig (sg x)).head?≠some 48:=by
   rcases h4 with h4|h4
   ·exact h4
   ·rw[h4]at c;cases c
  have b:=Jnk ad ne (.inl h5);obtain⟨m,hm⟩:∃m,digitsVal (fig (sg x))=m+1:=by
   cases hv:digitsVal (fig (sg x))with
   |succ m=>exact⟨m,rfl⟩
   |zero=>rw[hv]at b;rw[<-b]at h5;exact absurd (by decide) h5
  refine⟨Int.negSucc m,Jg3 ?_,by rw[hm]at bd;exact bd⟩;rw[e,Jqd,<-hm,b]
 ·have e:fig (sg x)=sg x:=if_neg c;rw[e]at h4 ad ne bd;refine⟨(digitsVal (sg x):Nat),Jg3 ?_,bd⟩;rw[Jqe,Jnk ad ne h4]
noncomputable def numO(x:PySem.Str):Option Int:=if isNum (sg x)then intText? x else none
theorem Jb1(x:PySem.Str):(isNum (sg x)=false/\numO x=none)\/(isNum (sg x)=true/\∃i:Int,numO x=some i/\intText? x=some i/\nt i=x/\i.natAbs<10^60):=by
 unfold numO;cases h:isNum (sg x)with
 |false=>exact .inl ⟨rfl,rfl⟩
 |true=>
  obtain⟨i,rfl,hi⟩:=Jo6 h;exact .inr ⟨rfl,i,reads hi,reads hi,rfl,hi⟩
section
variable {n:Nat} {S:Store}
noncomputable def Out(r:Res D)(o:Option D)(S:Store):Prop:=match o with
 |none=>∃τ S',r=.err "NoText" τ S'/\Ext S S'
 |some d=>∃S',r=.ok d S'/\Ext S S'
noncomputable def Fd(k:Nat)(f:String)(x:PySem.Str)(o:Option D):Prop:=∀(n:Nat) (S:Store),Out (callN T G 100 (n+k) f [.str x] S) o S
theorem Jmo{x y:PySem.Str}(hx:(sg x).length<=2000):callN T G 100 (n+1) "is_made_of" [.str x,.str y] S=.ok (.bl ((sg x).all λc=>decide (c∈sg y))) (S++[.lst ((sg x).map λc=>.bl (decide (c∈sg y)))]):=by
 have i:∀(c:Nat) (S:Store),cop .inn (.str ⟨#[c]⟩) (.str y) S=some (decide (c∈sg y)):=λc S=>by rw[<-Jxt];rfl
 rw[Jaa Jdh rfl];simp[Jbx];rw[show(x.cps.toList.map λc=>D.str ⟨#[c]⟩)=(sg x).map (λc=>D.str ⟨#[c]⟩)from rfl];rw[Jdw (λc=>D.str ⟨#[c]⟩) (λc=>.bl (decide (c∈sg y))) (by omega) (.inl rfl) λc hc=>by simp[turnC,inEn,i]];simp[Jcn,seqOf,seqAt,Jgr]
theorem Ja1{x:PySem.Str}:callN T G 100 (n+1) "checked_text" [.str x] S=.ok (.str x) S:=by
 rw[Jaa Jbl rfl];simp[Jbg,tyD,isiD]
end
end K66
set_option maxRecDepth 20000
namespace K66
open PySem L2 Mi Tx PySem.NumText PySem.W.KIN
section
variable {n:Nat} {S:Store}
theorem Jxa{c k:Nat}{s:String}(h:sg (Str.ofString s)=[k]):cop .ne (.str ⟨#[c]⟩) (.str (Str.ofString s)) S=some (!decide (c=k)):=by
 rw[Jc6];congr 2;rw[decide_eq_decide];constructor
 ·intro e;have:=congrArg sg e;rw[h]at this
  simpa [sg]using this
 ·rintro rfl;exact Jg3 (by rw[h];rfl)
theorem Jx7{x:PySem.Str}{k:Nat}{s:String}(h:sg (Str.ofString s)=[k]):cop .eq (.str x) (.str (Str.ofString s)) S=some (decide (sg x=[k])):=by
 rw[Jbc];congr 1;rw[decide_eq_decide,<-h];exact⟨λe=>by rw[e],Jg3⟩
theorem s0:sg (Str.ofString "0")=[48]:=by decide
theorem ix0{x:PySem.Str}{c:Nat}{r:List Nat}(h:sg x=c::r)(hl:(sg x).length<=2000):idxD (.str x) (.int 0) S=some (.str ⟨#[c]⟩):=by
 have e1:x.length<=Line:=by rw[Jap];show _<=16777216;omega
 have e2:atI x.cps.toList 0=some c:=by
  rw[show x.cps.toList=c::r from h];simp only[atI,ixN,List.length_cons];rw[if_pos (by decide),if_pos (by omega)];rfl
 simp only[idxD,seqOf,if_pos e1,e2,Option.map_some]
theorem Jra(l:List Nat):(fig l).length<=l.length:=by
 unfold fig;split
 ·simp
 ·exact Nat.le_refl _
theorem in_f(c:Nat):decide (c∈sg (Str.ofString "0123456789"))=decide (48<=c/\c<=57):=Jkk c
noncomputable def headS:M->M
 |.cns a _=>a
 |m=>m
noncomputable def PNum(x:PySem.Str)(S:Store)(d:D)(S':Store):Prop:=d=.bl (isNum (sg x))/\Ext S S'
theorem Jjh{x y:PySem.Str}(hx:(sg x).length<=2000)(hy:sg y=fig (sg x)):Sat (evB (Cn T G 100 (n+1)) (dropS 1 f_is_number.body) [some (.str x),some (.str y)] S) (λfl S'=>∃d,fl=.rt d/\PNum x S d S'):=by
 have yl:(sg y).length<=2000:=by rw[hy];exact Nat.le_trans (Jra _) hx
 obtain⟨Z,hZ⟩:∃Z:Int,(y.length:Int)=Z:=⟨_,rfl⟩
 have ln:∀S:Store,primD .len [.str y] S=.ok (.int Z) S:=λS=>by rw[Jei (by rw[Jap];show _<=16777216;omega),hZ]
 have zl:Z=((sg y).length:Nat):=by rw[<-hZ,Jap]
 have md:=Jmo (n:=n) (S:=S) (x:=y) (y:=Str.ofString "0123456789") yl;simp only[in_f]at md;have key:isNum (sg x)=(decide (1<=(sg y).length)&&decide ((sg y).length<=60)&&(sg y).all (λc=>decide (48<=c/\c<=57))&&(decide ((sg y).head?≠some 48)||decide (sg x=[48]))):=by rw[Jgj,hy]
 unfold PNum;rw[key]
 by_cases h1:1<=Z
 ·by_cases h2:Z<=60
  ·have h1':1<=(sg y).length:=by omega
   have h2':(sg y).length<=60:=by omega
   cases h3:(sg y).all (λc=>decide (48<=c/\c<=57))with
   |false=>
    rw[h3]at md;simp -implicitDefEqProofs [dropS,f_is_number,ln,h1,h2,md,Jb0,Jh8,tru];exact Ext.new _ _
   |true=>
    rw[h3]at md;obtain⟨c,r,hc⟩:=List.exists_cons_of_ne_nil (l:=sg y) (λe=>by rw[e]at h1';simp at h1');have ix:=λS=>ix0 (S:=S) hc yl;simp -implicitDefEqProofs [dropS,f_is_number,ln,h1,h2,md,Jb0,Jh8,tru,Jai,ix,Jxa s0,Jx7 s0,h1',h2'];rw[hc]
    by_cases c48:c=48
    ·subst c48;simp[Jx7 s0];exact Ext.new _ _
    ·simp[c48];exact Ext.new _ _
  ·have h2':¬(sg y).length<=60:=by omega
   simp -implicitDefEqProofs [dropS,f_is_number,ln,h1,h2,Jb0,h2'];exact Ext.refl _
 ·have h1':¬1<=(sg y).length:=by omega
  simp -implicitDefEqProofs [dropS,f_is_number,ln,h1,h1'];exact Ext.refl _
theorem Jhc{x:PySem.Str}(hx:(sg x).length<=2000):Sat (callN T G 100 (n+2) "is_number" [.str x] S) (PNum x S):=by
 rw[Jaa Jcj rfl];have st:∀S:Store,methD .starts (.str x) [.str (Str.ofString "-")] S=.ok (.bl (decide ((sg x).head?=some 45))) S:=λS=>by rw[Jey];exact congrArg (λb=>Res.ok (D.bl b) S) (Jj8 x 45)
 have hb:f_is_number.body=.cns (headS f_is_number.body) (dropS 1 f_is_number.body):=rfl;have hN:f_is_number.N.length=2:=rfl
 by_cases h:(sg x).head?=some 45
 ·have l1:1<=(sg x).length:=by
   cases e:sg x with
   |nil=>rw[e]at h;cases h
   |cons a l=>simp
  have sy:sg (cutS x (some 1) none)=fig (sg x):=by
   rw[Jsh ⟨by decide,by omega⟩];unfold fig;rw[if_pos h];simp
  have sl:∀S:Store,sliD (.str x) (some 1) none S=.ok (.str (cutS x (some 1) none)) S:=λS=>by
   have:=Jra (sg x);rw[<-sy,<-Jap]at this;simp only[sliD];rw[if_pos (by show _<=16777216;omega)]
  obtain⟨fl,S1,e1,d,rfl,q⟩:=Jjh (n:=n) (S:=S) hx sy;rw[hb];generalize dropS 1 f_is_number.body=rest at e1;simp[hN,headS,f_is_number,rcv,st,h,sl,e1,tru];exact q
 ·have sy:sg x=fig (sg x):=by
   unfold fig;rw[if_neg h]
  obtain⟨fl,S1,e1,d,rfl,q⟩:=Jjh (n:=n) (S:=S) hx sy;rw[hb];generalize dropS 1 f_is_number.body=rest at e1;simp[hN,headS,f_is_number,rcv,st,h,e1,tru];exact q
theorem Jml{x:PySem.Str}(h:isNum (sg x)=true):(sg x).length<=640:=by
 rw[Jgj]at h;simp only[Bool.and_eq_true,decide_eq_true_eq]at h;have:=h.1.1.2;unfold fig at this;split at this
 ·rw[List.length_tail]at this;omega
 ·omega
theorem Jh9{x:PySem.Str}(hx:(sg x).length<=2000):Fd 3 "read_number" x ((numO x).map D.int):=λn S=>by
 obtain⟨d,S1,e1,rfl,k1⟩:=Jhc (n:=n) (S:=S) (x:=x) hx;rcases Jb1 x with⟨h,o⟩|⟨h,i,o,hi,-,-⟩
 ·rw[o];rw[h]at e1;rw[Jaa Ja5 rfl];simp[Ja2,Ja1,e1,tru,Out];exact⟨_,_,⟨rfl,rfl⟩,k1⟩
 ·rw[o];have l:=Jml h;rw[h]at e1;have rd:∀S:Store,primD .int1 [.str x] S=.ok (.int i) S:=λS=>by rw[Je8,hi];simp only;rw[if_pos (by rw[Jap];exact l)]
  rw[Jaa Ja5 rfl];simp[Ja2,Ja1,e1,rd,tru,Out];exact k1
end
end K66
namespace K66
open PySem L2 Mi Tx PySem.NumText PySem.W.KIN
noncomputable def allO{α β:Type}(f:α->Option β):List α->Option (List β)
 |[]=>some []
 |x::xs=>match f x with
  |none=>none
  |some y=>(allO f xs).map (y::·)
noncomputable def OutL(r:Res D)(o:Option (List D))(S:Store):Prop:=match o with
 |none=>∃τ S',r=.err "NoText" τ S'/\Ext S S'
 |some ds=>∃S',r=.ok (.loc S'.length) (S'++[.lst ds])/\Ext S S'
section
variable {n:Nat} {S:Store}
theorem Jui{m:Nat}{f:String}{d:D}:turnC (Cn T G 100 m) (.tvar 0) .nul (.call f (.cns (.var 0) .nul)) d [none] S=(callN T G 100 m f [d] S).bind λy S1=>.ok (some y) S1:=by
 simp[turnC]
theorem compX{β:Type}{f:String}{k l:Nat}{F:PySem.Str->Option β}{enc:β->D}{all:List PySem.Str}(hf:∀x∈all,Fd k f x ((F x).map enc))(hl:all.length<=2002):∀(ps:List PySem.Str) (acc:List D) (i:Nat) (S:Store),all.drop i=ps->acc.length=i->S[l]? =some (.lst (all.map D.str))->
  match allO F ps with
  |none=>∃τ' S',compL (turnC (Cn T G 100 (n+k)) (.tvar 0) .nul (.call f (.cns (.var 0) .nul))) (some (l,.lst)) (all.map D.str) ps.length i [none] S acc=.err "NoText" τ' S'/\Ext S S'
  |some ys=>∃S',compL (turnC (Cn T G 100 (n+k)) (.tvar 0) .nul (.call f (.cns (.var 0) .nul))) (some (l,.lst)) (all.map D.str) ps.length i [none] S acc=.ok (acc++ys.map enc) S'/\Ext S S'
 |[],acc,i,S,_,_,hS=>⟨S,by simp[compL,sameAt,hS],.refl _⟩
 |p::ps,acc,i,S,hd,ha,hS=>by
  have hi:all[i]? =some p:=by rw[<-Nat.add_zero i,<-List.getElem?_drop,hd];rfl
  have hm:=List.mem_of_getElem? hi;have hlt:=(List.getElem?_eq_some_iff.mp hi).1;have st:∀f',compL (turnC (Cn T G 100 (n+k)) (.tvar 0) .nul (.call f (.cns (.var 0) .nul))) (some (l,.lst)) (all.map D.str) (f'+1) i [none] S acc=(callN T G 100 (n+k) f [.str p] S).bind λy S1=>compL (turnC (Cn T G 100 (n+k)) (.tvar 0) .nul (.call f (.cns (.var 0) .nul))) (some (l,.lst)) (all.map D.str) f' (i+1) [none] S1 (acc++[y]):=λf'=>by
   rw[compL];simp only[sameAt,hS,nth,Jad hS,List.getElem?_map,hi,Option.map_some,Jui,beq_self_eq_true,if_true];cases callN T G 100 (n+k) f [.str p] S with
   |ok y S1=>
    simp only[Res.bind];rw[if_pos (by show _<16777216;omega)]
   |err=>rfl
   |bad=>rfl
  have o:=hf p hm n S;rw[List.length_cons];simp only[st];cases hp:F p with
  |none=>
   rw[hp]at o;obtain⟨τ',S',e,x⟩:=o;simp only[allO,hp];exact⟨τ',S',by rw[e];rfl,x⟩
  |some y=>
   rw[hp]at o;obtain⟨S',e,x⟩:=o;have ih:=compX hf hl ps (acc++[enc y]) (i+1) S' (by rw[<-List.drop_drop,hd];rfl) (by simp[ha]) (x.get hS);simp only[allO,hp,e,Res.bind_ok];cases ho:allO F ps with
   |none=>
    rw[ho]at ih;obtain⟨τ2,S2,e2,x2⟩:=ih;exact⟨τ2,S2,e2,x.trans x2⟩
   |some ys=>
    rw[ho]at ih;obtain⟨S2,e2,x2⟩:=ih;exact⟨S2,by rw[e2];simp,x.trans x2⟩
theorem kCompX{β:Type}{f:String}{k l:Nat}{F:PySem.Str->Option β}{enc:β->D}{all:List PySem.Str}{τ:En}(hf:∀x∈all,Fd k f x ((F x).map enc))(hl:all.length<=2002)(hS:S[l]? =some (.lst (all.map D.str))):
  OutL (kComp (Cn T G 100 (n+k)) 1 [] (.tvar 0) .nul (.call f (.cns (.var 0) .nul)) τ (some (l,.lst),all.map D.str) S) ((allO F all).map λys=>ys.map enc) S:=by
 have q:=compX (n:=n) hf hl all [] 0 S rfl rfl hS;unfold kComp;rw[List.length_map];cases ho:allO F all with
 |none=>
  rw[ho]at q;obtain⟨τ',S',e,x⟩:=q;exact⟨τ',S',by rw[show inEn 1 [] τ=[none]from rfl,e];rfl,x⟩
 |some ys=>
  rw[ho]at q;obtain⟨S',e,x⟩:=q;exact⟨S',by rw[show inEn 1 [] τ=[none]from rfl,e];rfl,x⟩
theorem Jau{x y p:PySem.Str}(hx:(sg x).length<=2000)(h:p∈Txt.split x y):(sg p).length<=2000:=by
 have:=PyProof.Rows.part_short h;rw[Jap,Jap]at this;omega
theorem Jam{x y:PySem.Str}(hx:(sg x).length<=2000):(Txt.split x y).length<=2002:=by
 have:=PyProof.Rows.split_le x y;rw[Jap]at this;omega
theorem Jb9{x y:PySem.Str}(hx:(sg x).length<=2000)(hy:(y.length==0)=false):methD .split1 (.str x) [.str y] S=.ok (.loc S.length) (S++[.lst ((Txt.split x y).map D.str)]):=by
 rw[Jf9];have e1:x.length<=Line:=by rw[Jap];show _<=16777216;omega
 have e2:(Builtin.Str.partsBetween x (Builtin.Str.occurrences x y 0 x.length (x.length+1)) y.length).length<=Line:=by
  rw[PyProof.Rows.len_partsBetween];have:=StrLaws.occ_length_le x y 0 x.length (x.length+1);rw[Jap]at this ⊢;show _<=16777216;omega
 rw[if_pos (by simp only[e1,e2,hy,decide_true,Bool.and_true];decide)]
theorem Jbn(x y:PySem.Str):∃p ps,Txt.split x y=p::ps:=List.exists_cons_of_ne_nil λz=>by
 have:=PyProof.Rows.split_pos x y;rw[z]at this;cases this
end
end K66
namespace K66
open PySem L2 Mi Tx PySem.NumText PySem.W.KIN
noncomputable abbrev Rw:=PySem.Str×List Int
noncomputable def rD(r:Rw):D:=.tup (.str r.1::r.2.map D.int)
noncomputable abbrev lets:PySem.Str:=Str.ofString "abcdefghijklmnopqrstuvwxyz"
noncomputable abbrev bad(w:PySem.Str):Bool:=decide (w=Str.ofString "")|| !(sg w).all λc=>decide (c∈sg lets)
noncomputable def rowO(x:PySem.Str):Option Rw:=match Txt.split x (Str.ofString " ")with
 |[]=>none
 |w::ws=>if bad w then none else(allO numO ws).map λks=>(w,ks)
section
variable {n:Nat} {S:Store}
theorem at0{d:D}{ds:List D}:atI (d::ds) (0:Int)=some d:=by
 simp only[atI,ixN,List.length_cons];rw[if_pos (by decide),if_pos (by omega)];rfl
theorem sli1{l:Nat}{d:D}{ds:List D}(h:S[l]? =some (.lst (d::ds))):sliD (.loc l) (some 1) none S=.ok (.loc S.length) (S++[.lst ds]):=by
 rw[Ji0 h,Jgn (by decide)];rfl
theorem Jcs{l k:Nat}{a b:List D}{S:Store}(h1:S[l]? =some (.lst a))(h2:S[k]? =some (.lst b))(hz:a.length+b.length<=Line):bop .add (.loc l) (.loc k) S=.ok (.loc S.length) (S++[.lst (a++b)]):=by
 rw[Jl0,h1,h2];simp only[if_pos hz]
theorem Jdj{l:Nat}{ds:List D}(h:S[l]? =some (.lst ds)):primD .tuple1 [.loc l] S=.ok (.tup ds) S:=by
 simp only[Ji3,seqOf,Jad h]
theorem Je5{α β:Type}{f:α->Option β}:∀{xs:List α} {ys:List β},allO f xs=some ys->ys.length=xs.length
 |[],ys,h=>by cases h;rfl
 |x::xs,ys,h=>by
  simp only[allO]at h;split at h
  ·cases h
  ·obtain⟨zs,hz,rfl⟩:=Option.map_eq_some_iff.mp h;simp[Je5 hz]
theorem Jvj{x:PySem.Str}(hx:(sg x).length<=2000):Fd 4 "formed_row" x ((rowO x).map rD):=λn S=>by
 obtain⟨w,ws,hs⟩:=Jbn x (Str.ofString " ");have sp:=Jb9 (S:=S) (y:=Str.ofString " ") hx (by decide);rw[hs,List.map_cons]at sp;obtain⟨S1,h1⟩:∃S1,S++[Mi.Obj.lst (D.str w::ws.map D.str)]=S1:=⟨_,rfl⟩
 have g1:S1[S.length]? =some (.lst (D.str w::ws.map D.str)):=by rw[<-h1];exact Jac
 have x1:Ext S S1:=⟨_,h1.symm⟩
 rw[h1]at sp;have i0:∀S2,Ext S1 S2->idxD (.loc S.length) (.int 0) S2=some (.str w):=λS2 x=>Jar (x.get g1) at0;have wl:(sg w).length<=2000:=Jau hx (by rw[hs];exact List.mem_cons_self);have md:=Jmo (n:=n+2) (S:=S1) (x:=w) (y:=lets) wl;obtain⟨S2,h2⟩:∃S2,S1++[Mi.Obj.lst ((sg w).map λc=>D.bl (decide (c∈sg lets)))]=S2:=⟨_,rfl⟩
 have x2:Ext S1 S2:=⟨_,h2.symm⟩
 rw[h2]at md;have i1:=i0 S1 (.refl _);have i2:=i0 S2 x2;rw[Jaa Jby rfl];unfold rowO bad;rw[hs];obtain⟨b0,hb0⟩:∃b,decide (w=Str.ofString "")=b:=⟨_,rfl⟩
 obtain⟨b1,hb1⟩:∃b,((sg w).all λc=>decide (c∈sg lets))=b:=⟨_,rfl⟩
 have c0:cop .eq (.str w) (.str (Str.ofString "")) S1=some b0:=by rw[Jbc,hb0]
 simp only[hb0,hb1];rw[hb1]at md;cases b0 with
 |true=>
  simp[Jaz,rcv,sp,i1,Jai,c0,Out];exact⟨_,_,⟨rfl,rfl⟩,x1⟩
 |false=>
  cases b1 with
  |false=>
   simp[Jaz,rcv,sp,i1,Jai,c0,md,Jcw,Out];exact⟨_,_,⟨rfl,rfl⟩,x1.trans x2⟩
  |true=>
   obtain⟨S3,h3⟩:∃S3,S2++[Mi.Obj.lst [D.str w]]=S3:=⟨_,rfl⟩
   have x3:Ext S2 S3:=⟨_,h3.symm⟩
   have sl:=sli1 (x3.get (x2.get g1));have g4:(S3++[Mi.Obj.lst (ws.map D.str)])[S3.length]? =some (.lst (ws.map D.str)):=Jac;have q:=kCompX (n:=n) (k:=3) (τ:=[some (.str x),some (.loc S.length)]) (f:="read_number") (F:=numO) (enc:=D.int) (λp hp=>Jh9 (Jau hx (by rw[hs];exact List.mem_cons_of_mem _ hp))) (by have:=Jam (y:=Str.ofString " ") hx;rw[hs,List.length_cons]at this;omega) g4;simp[Jaz,rcv,sp,i1,i2,Jai,c0,md,Jcw,Line,h3,sl,g4,seqOf,seqAt];cases ho:allO numO ws with
   |none=>
    rw[ho]at q;obtain⟨τ,S5,e,x5⟩:=q;rw[e];simp[Out];exact⟨_,_,⟨rfl,rfl⟩,x1.trans (x2.trans (x3.trans ((Ext.new _ _).trans x5)))⟩
   |some ks=>
    rw[ho]at q;obtain⟨S5,e,x5⟩:=q;have g5:(S5++[Mi.Obj.lst (ks.map D.int)])[S2.length]? =some (.lst [D.str w]):=((x5.trans (Ext.new _ _))).get ((Ext.new _ _).get (by rw[<-h3];exact Jac));have ln:=Je5 ho;have ct:=Jcs g5 Jac (by rw[List.length_map,ln];have:=Jam (y:=Str.ofString " ") hx;rw[hs,List.length_cons]at this;show 1+_<=16777216;omega);have tp:=Jdj (S:=(S5++[Mi.Obj.lst (ks.map D.int)])++[Mi.Obj.lst ([D.str w]++ks.map D.int)]) Jac;rw[e];simp only[Res.bind_ok,ct,kArg,v_a0,kCons,tp];simp[Out,rD];exact x1.trans (x2.trans (x3.trans ((Ext.new _ _).trans (x5.trans (Ext.new _ _)))))
end
end K66
namespace K66
open PySem L2 Mi Tx PySem.NumText PySem.W.KIN
noncomputable def lkD(L:List Rw):D:=.tup (L.map rD)
noncomputable def lockO(x:PySem.Str):Option (List Rw):=if x=Str.ofString "-" then some []else allO rowO (Txt.split x (Str.ofString ", "))
noncomputable def coinO(x:PySem.Str):Option (Int×Int):=match Txt.split x (Str.ofString ".")with
 |[a,b]=>if decide ((sg a).head?=some 45)||decide ((sg b).head?=some 45)then none else(match numO a,numO b with
  |some i,some j=>some (i,j)
  |_,_=>none)
 |_=>none
noncomputable def cD(c:Int×Int):D:=.tup [.int c.1,.int c.2]
section
variable {n:Nat} {S:Store}
theorem Jms{x:PySem.Str}(hx:(sg x).length<=2000):Fd 5 "formed_lock" x ((lockO x).map lkD):=λn S=>by
 have sp:=Jb9 (S:=S) (y:=Str.ofString ", ") hx (by decide);obtain⟨S1,h1⟩:∃S1,S++[Mi.Obj.lst ((Txt.split x (Str.ofString ", ")).map D.str)]=S1:=⟨_,rfl⟩
 have g1:S1[S.length]? =some (.lst ((Txt.split x (Str.ofString ", ")).map D.str)):=by rw[<-h1];exact Jac
 have x1:Ext S S1:=⟨_,h1.symm⟩
 rw[h1]at sp;rw[Jaa Jbs rfl];unfold lockO;obtain⟨b0,hb0⟩:∃b,decide (x=Str.ofString "-")=b:=⟨_,rfl⟩
 have c0:cop .eq (.str x) (.str (Str.ofString "-")) S=some b0:=by rw[Jbc,hb0]
 cases b0 with
 |true=>
  rw[if_pos (of_decide_eq_true hb0)];simp[Ja3,c0,Jcx,Out,lkD];exact Ext.refl _
 |false=>
  rw[if_neg (of_decide_eq_false hb0)];have q:=kCompX (n:=n) (k:=4) (τ:=[some (.str x)]) (f:="formed_row") (F:=rowO) (enc:=rD) (λp hp=>Jvj (Jau hx hp)) (Jam hx) g1;simp[Ja3,c0,Jcx,rcv,sp,seqOf,Jad g1];cases ho:allO rowO (Txt.split x (Str.ofString ", "))with
  |none=>
   rw[ho]at q;obtain⟨τ,S5,e,x5⟩:=q;rw[e];simp[Out];exact⟨_,_,⟨rfl,rfl⟩,x1.trans x5⟩
  |some ks=>
   rw[ho]at q;obtain⟨S5,e,x5⟩:=q;rw[e];simp[Jdj Jac,Out,lkD];exact x1.trans (x5.trans (Ext.new _ _))
noncomputable abbrev elC:M:=.bo true (.cns (.call "is_number" (.cns (.var 0) .nul)) (.cns (.cmp .ne (.idx (.var 0) (.cst (.int 0))) (.cst (.str "-"))) .nul))
noncomputable abbrev cn(a:PySem.Str):Bool:=isNum (sg a)&& !decide ((sg a).head?=some 45)
theorem sm:sg (Str.ofString "-")=[45]:=by decide
theorem Jhr{a:PySem.Str}(ha:(sg a).length<=2000):∃S',turnC (Cn T G 100 (n+2)) (.tvar 0) .nul elC (.str a) [none] S=.ok (some (.bl (cn a))) S'/\Ext S S':=by
 obtain⟨_,S1,e1,rfl,x1⟩:=Jhc (n:=n) (S:=S) ha;unfold cn;cases h:isNum (sg a)with
 |false=>
  rw[h]at e1;exact⟨S1,by simp[turnC,e1],x1⟩
 |true=>
  rw[h]at e1;obtain⟨c,r,hc⟩:=List.exists_cons_of_ne_nil (l:=sg a) (λe=>by rw[e]at h;revert h;decide);exact⟨S1,by simp[turnC,e1,Jai,ix0 (S:=S1) hc ha,Jxa sm,hc],x1⟩
theorem Jeg{turn:D->En->Store->Res (Option D)}{l f i:Nat}{ds acc:List D}{τ:En}{S S1:Store}{d y:D}(hs:S[l]? =some (.lst ds))(hn:ds[i]? =some d)(ht:turn d τ S=.ok (some y) S1)(ha:acc.length<Line):compL turn (some (l,.lst)) ds (f+1) i τ S acc=compL turn (some (l,.lst)) ds f (i+1) τ S1 (acc++[y]):=by
 rw[compL];simp only[sameAt,hs,nth,Jad hs,hn,ht,Res.bind_ok,beq_self_eq_true,if_true,if_pos ha]
theorem Jhq{turn:D->En->Store->Res (Option D)}{l i:Nat}{ds acc:List D}{τ:En}{S:Store}(hs:S[l]? =some (.lst ds)):compL turn (some (l,.lst)) ds 0 i τ S acc=.ok acc S:=by
 rw[compL];simp only[sameAt,hs,beq_self_eq_true,if_true]
theorem Jtz{x:PySem.Str}(hx:(sg x).length<=2000):Fd 3 "read_coin" x ((coinO x).map cD):=λn S=>by
 have sp:=Jb9 (S:=S) (y:=Str.ofString ".") hx (by decide);have lp:∀p∈Txt.split x (Str.ofString "."),(sg p).length<=2000:=λp hp=>Jau hx hp;unfold coinO;generalize Txt.split x (Str.ofString ".")=ps at sp lp;obtain⟨S1,h1⟩:∃S1,S++[Mi.Obj.lst (ps.map D.str)]=S1:=⟨_,rfl⟩
 have g1:S1[S.length]? =some (.lst (ps.map D.str)):=by rw[<-h1];exact Jac
 have x1:Ext S S1:=⟨_,h1.symm⟩
 rw[h1]at sp;obtain⟨Z,hZ⟩:∃Z:Int,((ps.map D.str).length:Int)=Z:=⟨_,rfl⟩
 have ln:primD .len [.loc S.length] S1=.ok (.int Z) S1:=by rw[Jat g1,hZ]
 rw[List.length_map]at hZ;rw[Jaa Jci rfl];have no:Z≠2->Out ((evB (Cn T G 100 (n+2)) f_read_coin.body ([some (D.str x)]++List.replicate 1 none) S).bind finF) none S:=λz=>by
  simp[f_read_coin,Ja1,rcv,sp,ln,Jb7,z,Out];exact⟨_,_,⟨rfl,rfl⟩,x1⟩
 match ps,hZ with
 |[],hZ=>exact no (by simp at hZ;omega)
 |[_],hZ=>exact no (by simp at hZ;omega)
 |_::_::_::_,hZ=>exact no (by simp at hZ;omega)
 |[a,b],hZ=>
  have g1:S1[S.length]? =some (.lst [.str a,.str b]):=g1;obtain⟨S2,e2,x2⟩:=Jhr (n:=n) (S:=S1) (lp a (by simp));obtain⟨S3,e3,x3⟩:=Jhr (n:=n) (S:=S2) (lp b (by simp));have kc:kComp (Cn T G 100 (n+2)) 1 [] (.tvar 0) .nul elC [some (.str x),some (.loc S.length)] (some (S.length,.lst),[.str a,.str b]) S1=.ok (.loc S3.length) (S3++[.lst [.bl (cn a),.bl (cn b)]]):=by
   have g2:=x2.get g1;exact congrArg (λr=>Res.bind r Jmz) ((Jeg (f:=1) (i:=0) (acc:=[]) g1 rfl e2 (by decide)).trans ((Jeg (f:=0) (i:=1) (acc:=[.bl (cn a)]) g2 rfl e3 (by show 1<16777216;decide)).trans (Jhq (x3.get g2))))
  have al:primD .all1 [.loc S3.length] (S3++[.lst [.bl (cn a),.bl (cn b)]])=.ok (.bl (cn a&&cn b)) (S3++[.lst [.bl (cn a),.bl (cn b)]]):=by
   rw[Jcn];simp only[seqOf,Jad Jac,allB];cases cn a<;>cases cn b<;>rfl
  have x4:Ext S (S3++[Mi.Obj.lst [.bl (cn a),.bl (cn b)]]):=x1.trans (x2.trans (x3.trans (Ext.new _ _)));have g4:(S3++[Mi.Obj.lst [.bl (cn a),.bl (cn b)]])[S.length]? =some (.lst [.str a,.str b]):=(Ext.new _ _).get (x3.get (x2.get g1));have sq:seqAt S1 S.length=some [.str a,.str b]:=Jad g1;have err:(cn a&&cn b)=false->Out ((evB (Cn T G 100 (n+2)) f_read_coin.body ([some (D.str x)]++List.replicate 1 none) S).bind finF) none S:=λz=>by
   rw[z]at al;generalize S3++[Mi.Obj.lst [.bl (cn a),.bl (cn b)]]=S4 at*;simp[f_read_coin,Ja1,rcv,sp,ln,Jb7,<-hZ,sq,kc,al,tru,Out];exact⟨_,_,⟨rfl,rfl⟩,x4⟩
  rcases Jb1 a with⟨h,o⟩|⟨h,i,o,hi,-,-⟩
  ·simp only[o,ite_self];exact err (by simp[cn,h])
  ·rcases Jb1 b with⟨h',o'⟩|⟨h',j,o',hj,-,-⟩
   ·simp only[o,o',ite_self];exact err (by simp[cn,h'])
   ·simp only[o,o'];cases c:(decide ((sg a).head?=some 45)||decide ((sg b).head?=some 45))with
    |true=>
     refine err ?_;rw[Bool.or_eq_true]at c;unfold cn;rcases c with c|c<;>rw[c]<;>simp
    |false=>
     have ok:(cn a&&cn b)=true:=by
      rw[Bool.or_eq_false_iff]at c;unfold cn;rw[c.1,c.2,h,h'];rfl
     rw[ok]at al;have kd:=Jdw (C:=Cn T G 100 (n+2)) (k:=1) (keep:=[]) (tg:=.tvar 0) (cd:=.nul) (el:=.prim .int1 (.cns (.var 0) .nul)) (τ:=[some (D.str x),some (D.loc S.length)]) (S:=S3++[Mi.Obj.lst [.bl (cn a),.bl (cn b)]]) (g:=some (S.length,.lst)) (xs:=[(a,i),(b,j)]) (λp=>D.str p.1) (λp=>D.int p.2) (by simp) (.inr ⟨_,rfl,g4⟩) (λp hp=>by
      have k:∀(q:PySem.Str×Int),q∈[(a,i),(b,j)]->(sg q.1).length<=640/\intText? q.1=some q.2:=λq hq=>by
       have l:∀w:PySem.Str,isNum (sg w)=true->(sg w).length<=640:=λw h=>Jml h;rcases List.mem_cons.mp hq with rfl|hq
       ·exact⟨l _ h,hi⟩
       ·cases List.mem_singleton.mp hq;exact⟨l _ h',hj⟩
      obtain⟨k1,k2⟩:=k p hp;simp[turnC,inEn,Je8,k2,Jap,k1])
     have sq4:=Jad g4;generalize S3++[Mi.Obj.lst [.bl (cn a),.bl (cn b)]]=S4 at*;simp only[List.map_cons,List.map_nil]at kd;simp[f_read_coin,Ja1,rcv,sp,ln,Jb7,<-hZ,sq,kc,al,tru,Out,sq4,kd,Jdj Jac,cD];exact x4.trans (Ext.new _ _)
end
end K66
namespace K66
open PySem L2 Mi Tx PySem.NumText PySem.W.KIN
noncomputable abbrev In1:=(Int×Int)×List Int
noncomputable def iD(i:In1):D:=.tup [cD i.1,.tup (i.2.map D.int)]
noncomputable def inO(x:PySem.Str):Option In1:=match Txt.split x (Str.ofString " ")with
 |_::c::ks=>(match coinO c,allO numO ks with
  |some c,some ks=>some (c,ks)
  |_,_=>none)
 |_=>none
noncomputable abbrev Out1:=Int×List Rw
noncomputable def oD(o:Out1):D:=.tup [.int o.1,lkD o.2]
noncomputable def outO(x:PySem.Str):Option Out1:=match Txt.splitMax x (Str.ofString " ") 2 with
 |[a,b,c]=>if a=Str.ofString "out" then(match numO b,lockO c with
  |some w,some L=>some (w,L)
  |_,_=>none)else none
 |_=>none
section
variable {n:Nat} {S:Store}
theorem at1{a b:D}{ds:List D}:atI (a::b::ds) (1:Int)=some b:=by
 simp only[atI,ixN,List.length_cons];rw[if_pos (by decide),if_pos (by omega)];rfl
theorem Jjr{x:PySem.Str}(h:Txt.startswith x (Str.ofString "in ")=true):∃c ks,Txt.split x (Str.ofString " ")=Str.ofString "in"::c::ks:=by
 rw[Jk3,decide_eq_true_eq,show sg (Str.ofString "in ")=[105,110,32] by decide]at h;have e:sg x=[105,110]++32::(sg x).drop 3:=by
  have:=List.take_append_drop 3 (sg x);rw[show([105,110,32]:List Nat).length=3 from rfl]at h;rw[h]at this;exact this.symm
 have k:=Jgz x 32;rw[e,Jnt (by decide)]at k;rw[show(Str.ofString " ")=(⟨#[32]⟩:PySem.Str) by decide];have ne:∀l:List Nat,cut 32 l≠[]:=λl z=>by
  have k:=Jgz ⟨l.toArray⟩ 32;obtain⟨p,ps,e⟩:=Jbn ⟨l.toArray⟩ ⟨#[32]⟩;rw[show sg ⟨l.toArray⟩=l by simp[sg],z,e]at k;cases k
 obtain⟨c,r,hc⟩:=List.exists_cons_of_ne_nil (ne ((sg x).drop 3));rw[hc]at k
 match hs:Txt.split x ⟨#[32]⟩,k with
 |[],k=>cases k
 |[_],k=>simp at k
 |p::q::ps,k=>
  simp only[List.map_cons,List.cons.injEq]at k;exact⟨q,ps,by rw[Jg3 (x:=p) (y:=Str.ofString "in") (by rw[k.1];decide)]⟩
theorem sli2{l:Nat}{a b:D}{ds:List D}(h:S[l]? =some (.lst (a::b::ds))):sliD (.loc l) (some 2) none S=.ok (.loc S.length) (S++[.lst ds]):=by
 rw[Ji0 h,Jgn (by decide)];rfl
theorem Jzs{x w c:PySem.Str}{ks:List PySem.Str}(hx:(sg x).length<=2000)(hs:Txt.split x (Str.ofString " ")=w::c::ks):Fd 4 "formed_in" x ((inO x).map iD):=λn S=>by
 have sp:=Jb9 (S:=S) (y:=Str.ofString " ") hx (by decide);have lp:∀p∈w::c::ks,(sg p).length<=2000:=λp hp=>Jau hx (by rw[hs];exact hp);have ll:=Jam (y:=Str.ofString " ") hx;unfold inO;simp only[hs,List.length_cons]at ll ⊢;simp only[hs,List.map_cons]at sp;obtain⟨S1,h1⟩:∃S1,S++[Mi.Obj.lst (D.str w::D.str c::ks.map D.str)]=S1:=⟨_,rfl⟩
 have g1:S1[S.length]? =some (.lst (D.str w::D.str c::ks.map D.str)):=by rw[<-h1];exact Jac
 have x1:Ext S S1:=⟨_,h1.symm⟩
 rw[h1]at sp;have i1:=Jar (i:=1) g1 at1;rw[Jaa Jck rfl];have oc:=Jtz (lp c (by simp)) n S1;cases hc:coinO c with
 |none=>
  rw[hc]at oc;obtain⟨τ,S2,e,x2⟩:=oc;simp[Jbq,rcv,sp,i1,Jai,e,Out];exact⟨_,_,⟨rfl,rfl⟩,x1.trans x2⟩
 |some cc=>
  rw[hc]at oc;obtain⟨S2,e,x2⟩:=oc;have sl:=sli2 (x2.get g1);have g4:(S2++[Mi.Obj.lst (ks.map D.str)])[S2.length]? =some (.lst (ks.map D.str)):=Jac;have q:=kCompX (n:=n) (k:=3) (τ:=[some (.str x),some (.loc S.length)]) (f:="read_number") (F:=numO) (enc:=D.int) (λp hp=>Jh9 (lp p (by simp[hp]))) (by omega) g4;simp[Jbq,rcv,sp,i1,Jai,e,sl,seqOf,Jad g4];cases ho:allO numO ks with
  |none=>
   rw[ho]at q;obtain⟨τ,S5,e5,x5⟩:=q;rw[e5];simp[Out];exact⟨_,_,⟨rfl,rfl⟩,x1.trans (x2.trans ((Ext.new _ _).trans x5))⟩
  |some zs=>
   rw[ho]at q;obtain⟨S5,e5,x5⟩:=q;rw[e5];simp[Out,Jdj Jac,iD,Line];exact x1.trans (x2.trans ((Ext.new _ _).trans (x5.trans (Ext.new _ _))))
theorem Jwx{x:PySem.Str}(hx:(sg x).length<=2000):Fd 6 "formed_out" x ((outO x).map oD):=λn S=>by
 have lp:∀p∈Txt.splitMax x (Str.ofString " ") 2,(sg p).length<=2000:=λp hp=>by
  have:=PyProof.Rows.partMax_short hp;rw[Jap,Jap]at this;omega
 have sl:(Txt.splitMax x (Str.ofString " ") 2).length<=3:=by
  unfold Txt.splitMax;split
  ·simp
  ·split
   ·simp
   ·rw[PyProof.Rows.len_partsBetween];have:=StrLaws.occ_length_le x (Str.ofString " ") 0 x.length (limitOf x 2);have e:limitOf x 2=2:=rfl;omega
 have sp:methD .split2 (.str x) [.str (Str.ofString " "),.int 2] S=.ok (.loc S.length) (S++[.lst ((Txt.splitMax x (Str.ofString " ") 2).map D.str)]):=by
  rw[Jg5,if_pos];have e1:x.length<=Line:=by rw[Jap];show _<=16777216;omega
  have e2:(Txt.splitMax x (Str.ofString " ") 2).length<=Line:=by show _<=16777216;omega
  simp only[e1,e2,decide_true,Bool.and_true];decide
 unfold outO;generalize Txt.splitMax x (Str.ofString " ") 2=ps at sp lp;obtain⟨S1,h1⟩:∃S1,S++[Mi.Obj.lst (ps.map D.str)]=S1:=⟨_,rfl⟩
 have g1:S1[S.length]? =some (.lst (ps.map D.str)):=by rw[<-h1];exact Jac
 have x1:Ext S S1:=⟨_,h1.symm⟩
 rw[h1]at sp;obtain⟨Z,hZ⟩:∃Z:Int,((ps.map D.str).length:Int)=Z:=⟨_,rfl⟩
 have ln:primD .len [.loc S.length] S1=.ok (.int Z) S1:=by rw[Jat g1,hZ]
 rw[List.length_map]at hZ;rw[Jaa Jbz rfl];have no:Z≠3->Out ((evB (Cn T G 100 (n+5)) f_formed_out.body ([some (D.str x)]++List.replicate 1 none) S).bind finF) none S:=λz=>by
  simp[f_formed_out,rcv,sp,ln,Jb7,z,Out];exact⟨_,_,⟨rfl,rfl⟩,x1⟩
 match ps,hZ with
 |[],hZ=>exact no (by simp at hZ;omega)
 |[_],hZ=>exact no (by simp at hZ;omega)
 |[_,_],hZ=>exact no (by simp at hZ;omega)
 |_::_::_::_::_,hZ=>exact no (by simp at hZ;omega)
 |[a,b,c],hZ=>
  have g1:S1[S.length]? =some (.lst [.str a,.str b,.str c]):=g1;have i0:=Jar (i:=0) g1 at0;have i1:=Jar (i:=1) g1 at1;have i2:∀S2,Ext S1 S2->idxD (.loc S.length) (.int 2) S2=some (.str c):=λS2 x=>Jar (x.get g1) rfl;obtain⟨b0,hb0⟩:∃b,decide (a=Str.ofString "out")=b:=⟨_,rfl⟩
  have c0:cop .ne (.str a) (.str (Str.ofString "out")) S1=some (!b0):=by rw[Jc6,hb0]
  cases b0 with
  |false=>
   simp only[if_neg (of_decide_eq_false hb0)];simp[f_formed_out,rcv,sp,ln,<-hZ,i0,Jai,c0,Out];exact⟨_,_,⟨rfl,rfl⟩,x1⟩
  |true=>
   simp only[if_pos (of_decide_eq_true hb0)];have on:=Jh9 (lp b (by simp)) (n+2) S1;cases hn:numO b with
   |none=>
    rw[hn]at on;obtain⟨τ,S2,e,x2⟩:=on;simp[f_formed_out,rcv,sp,ln,<-hZ,i0,i1,Jai,c0,e,Out];exact⟨_,_,⟨rfl,rfl⟩,x1.trans x2⟩
   |some w=>
    rw[hn]at on;obtain⟨S2,e,x2⟩:=on;have ol:=Jms (lp c (by simp)) n S2;cases hl:lockO c with
    |none=>
     rw[hl]at ol;obtain⟨τ,S3,e3,x3⟩:=ol;simp[f_formed_out,rcv,sp,ln,<-hZ,i0,i1,i2 S2 x2,Jai,c0,e,e3,Out];exact⟨_,_,⟨rfl,rfl⟩,x1.trans (x2.trans x3)⟩
    |some L=>
     rw[hl]at ol;obtain⟨S3,e3,x3⟩:=ol;simp[f_formed_out,rcv,sp,ln,<-hZ,i0,i1,i2 S2 x2,Jai,c0,e,e3,Out,oD,Line];exact x1.trans (x2.trans x3)
end
end K66
namespace K66
open PySem L2 Mi Tx PySem.NumText PySem.W.KIN
noncomputable abbrev De:=Int×List In1×List Out1
noncomputable def dD(d:De):D:=.tup [.int d.1,.tup (d.2.1.map iD),.tup (d.2.2.map oD)]
noncomputable def insO:List PySem.Str->Option (List In1×List Out1)
 |[]=>some ([],[])
 |p::ps=>if Txt.startswith p (Str.ofString "in ")then(match inO p with
   |none=>none
   |some i=>(insO ps).map λr=>(i::r.1,r.2))
  else(allO outO (p::ps)).map λos=>([],os)
noncomputable def deedO(x:PySem.Str):Option De:=match Txt.split x (Str.ofString "; ")with
 |[]=>none
 |p::ps=>(match insO ps,numO p with
  |some r,some k=>some (k,r)
  |_,_=>none)
noncomputable def bD:M:=match f_formed_deed.body with
 |.cns _ (.cns _ (.cns _ (.cns (.forr _ _ b) _)))=>b
 |m=>m
section
variable {n:Nat} {S:Store}
noncomputable def PT1{β:Type}(r:Res Fl)(o:Option β)(enc:β->D)(τ:En)(Q:Nat)(ds:List D)(S:Store):Prop:=match o with
 |none=>∃τ S',r=.err "NoText" τ S'/\Keep [Q] S S'
 |some b=>∃S',r=.ok (.nx τ) S'/\S'[Q]? =some (.lst (ds++[enc b]))/\Keep [Q] S S'
theorem Jrh{p:PySem.Str}{X P u:Option D}{I O:Nat}{ds:List D}(hp:(sg p).length<=2000)(hi:Txt.startswith p (Str.ofString "in ")=true)(hO:S[O]? =some (.lst []))(hI:S[I]? =some (.lst ds))(hl:ds.length<3000):
  PT1 (turnF (Cn T G 100 (n+6)) (.tvar 4) bD (.str p) [X,P,some (.loc I),some (.loc O),u] S) (inO p) iD [X,P,some (.loc I),some (.loc O),some (.str p)] I ds S:=by
 obtain⟨c,ks,hs⟩:=Jjr hi;have o:=Jzs hp hs (n+2) S;have st:methD .starts (.str p) [.str (Str.ofString "in ")] S=.ok (.bl true) S:=by rw[Jey,hi]
 cases h:inO p with
 |none=>
  rw[h]at o;obtain⟨τ,S2,e,x2⟩:=o;simp[turnF,bD,f_formed_deed,rcv,st,Jb8 hO,Jad hI,e,PT1];exact⟨_,_,⟨rfl,rfl⟩,.ext x2⟩
 |some i=>
  rw[h]at o;obtain⟨S2,e,x2⟩:=o;have ap:=Jca (d:=iD i) (x2.get hI) (by show _<16777216;omega);simp[turnF,bD,f_formed_deed,rcv,st,Jb8 hO,Jad hI,e,ap,PT1];exact⟨Jdk (x2.get hI),(Keep.ext x2).trans (.set (by simp))⟩
theorem Jn7{p:PySem.Str}{X P u:Option D}{I O:Nat}{ds:List D}(hp:(sg p).length<=2000)(hi:Txt.startswith p (Str.ofString "in ")=false\/ds≠[])(hO:S[O]? =some (.lst ds))(hl:ds.length<3000):
  PT1 (turnF (Cn T G 100 (n+6)) (.tvar 4) bD (.str p) [X,P,some (.loc I),some (.loc O),u] S) (outO p) oD [X,P,some (.loc I),some (.loc O),some (.str p)] O ds S:=by
 have o:=Jwx hp n S;have st:methD .starts (.str p) [.str (Str.ofString "in ")] S=.ok (.bl (Txt.startswith p (Str.ofString "in "))) S:=Jey;have te:evT (Cn T G 100 (n+6)) (.bo true (.cns (.meth .starts (.var 4) (.cns (.cst (.str "in ")) .nul)) (.cns (.nott (.var 3)) .nul))) [X,P,some (.loc I),some (.loc O),some (.str p)] S=.ok false S:=by
  rcases hi with hi|hi
  ·rw[hi]at st;simp[rcv,st]
  ·cases h:Txt.startswith p (Str.ofString "in ")with
   |false=>
    rw[h]at st;simp[rcv,st]
   |true=>
    rw[h]at st;have:ds.isEmpty=false:=by cases ds with
     |nil=>exact absurd rfl hi
     |cons a l=>rfl
    simp[rcv,st,Jb8 hO,this]
 have bd:bD=.cns (.ifx (.bo true (.cns (.meth .starts (.var 4) (.cns (.cst (.str "in ")) .nul)) (.cns (.nott (.var 3)) .nul))) (.cns (.exx (.meth .append (.var 2) (.cns (.call "formed_in" (.cns (.var 4) .nul)) .nul))) .nul) (.cns (.exx (.meth .append (.var 3) (.cns (.call "formed_out" (.cns (.var 4) .nul)) .nul))) .nul)) .nul:=rfl;generalize M.bo true (.cns (.meth .starts (.var 4) (.cns (.cst (.str "in ")) .nul)) (.cns (.nott (.var 3)) .nul))=tt at te bd;rw[bd];cases h:outO p with
 |none=>
  rw[h]at o;obtain⟨τ,S2,e,x2⟩:=o;simp[turnF,rcv,te,Jad hO,e,PT1];exact⟨_,_,⟨rfl,rfl⟩,.ext x2⟩
 |some i=>
  rw[h]at o;obtain⟨S2,e,x2⟩:=o;have ap:=Jca (d:=oD i) (x2.get hO) (by show _<16777216;omega);simp[turnF,rcv,te,Jad hO,e,ap,PT1];exact⟨Jdk (x2.get hO),(Keep.ext x2).trans (.set (by simp))⟩
theorem Jhj{turn:D->En->Store->Res Fl}{l f i:Nat}{ds:List D}{τ τ1:En}{S S1:Store}{d:D}(hs:S[l]? =some (.lst ds))(hn:ds[i]? =some d)(ht:turn d τ S=.ok (.nx τ1) S1):forL turn (some (l,.lst)) ds (f+1) i τ S=forL turn (some (l,.lst)) ds f (i+1) τ1 S1:=by
 rw[forL];simp only[sameAt,hs,nth,Jad hs,hn,ht,Res.bind_ok,beq_self_eq_true,if_true]
theorem Jjs{turn:D->En->Store->Res Fl}{l f i:Nat}{ds:List D}{τ τ1:En}{S S1:Store}{d:D}{c:String}(hs:S[l]? =some (.lst ds))(hn:ds[i]? =some d)(ht:turn d τ S=.err c τ1 S1):forL turn (some (l,.lst)) ds (f+1) i τ S=.err c τ1 S1:=by
 rw[forL];simp only[sameAt,hs,nth,Jad hs,hn,ht,Res.bind,beq_self_eq_true,if_true]
noncomputable def restO(os:List Out1)(ps:List PySem.Str):Option (List In1×List Out1):=if os.isEmpty then insO ps else(allO outO ps).map λo=>([],o)
noncomputable def PLp(r:Res Fl)(o:Option (List In1×List Out1))(X P:Option D)(I O:Nat)(is:List In1)(os:List Out1)(S:Store):Prop:=match o with
 |none=>∃τ S',r=.err "NoText" τ S'/\Keep [I,O] S S'
 |some q=>∃u S',r=.ok (.nx [X,P,some (.loc I),some (.loc O),u]) S'/\S'[I]? =some (.lst ((is++q.1).map iD))/\S'[O]? =some (.lst ((os++q.2).map oD))/\Keep [I,O] S S'
theorem Jok{os:List Out1}{p:PySem.Str}{ps:List PySem.Str}(hi:Txt.startswith p (Str.ofString "in ")=false\/os≠[]):restO os (p::ps)=match outO p with
  |none=>none
  |some o=>(restO (os++[o]) ps).map λq=>(q.1,o::q.2):=by
 have e:restO os (p::ps)=(allO outO (p::ps)).map λo=>([],o):=by
  unfold restO;cases os with
  |nil=>
   rcases hi with hi|hi
   ·simp[insO,hi]
   ·exact absurd rfl hi
  |cons a l=>rfl
 rw[e];cases h:outO p with
 |none=>simp[allO,h]
 |some o=>
  have:(os++[o]).isEmpty=false:=by simp
  simp only[allO,h,restO,this];cases allO outO ps<;>rfl
theorem loopD{X P:Option D}{I O L:Nat}{all:List PySem.Str}(LI:L≠I)(LO:L≠O)(IO:I≠O)(ha:all.length<=2002)(hp:∀p∈all,(sg p).length<=2000):∀(ps:List PySem.Str) (i:Nat) (is:List In1) (os:List Out1) (u:Option D) (S:Store),all.drop i=ps->is.length+os.length<=i->S[L]? =some (.lst (all.map D.str))->S[I]? =some (.lst (is.map iD))->S[O]? =some (.lst (os.map oD))->
  PLp (forL (turnF (Cn T G 100 (n+6)) (.tvar 4) bD) (some (L,.lst)) (all.map D.str) ps.length i [X,P,some (.loc I),some (.loc O),u] S) (restO os ps) X P I O is os S
 |[],i,is,os,u,S,_,_,hL,hI,hO=>by
  have e:restO os []=some ([],[]):=by unfold restO;cases os<;>rfl
  rw[e];refine⟨u,S,?_,by rw[List.append_nil];exact hI,by rw[List.append_nil];exact hO,Keep.refl⟩;simp[forL,sameAt,hL]
 |p::ps,i,is,os,u,S,hd,hl,hL,hI,hO=>by
  have hi:all[i]? =some p:=by rw[<-Nat.add_zero i,<-List.getElem?_drop,hd];rfl
  have hpl:=hp p (List.mem_of_getElem? hi);have hlt:=(List.getElem?_eq_some_iff.mp hi).1;have hn:(all.map D.str)[i]? =some (.str p):=by rw[List.getElem?_map,hi];rfl
  have hd':all.drop (i+1)=ps:=by rw[<-List.drop_drop,hd];rfl
  by_cases c:Txt.startswith p (Str.ofString "in ")=false\/os≠[]
  ·have t:=Jn7 (n:=n) (X:=X) (P:=P) (u:=u) (I:=I) hpl (c.imp id λz e=>z (List.map_eq_nil_iff.mp e)) hO (by rw[List.length_map];omega);rw[Jok c];cases h:outO p with
   |none=>
    rw[h]at t;obtain⟨τ,S2,e,k⟩:=t;exact⟨τ,S2,Jjs hL hn e,k.mono (by simp)⟩
   |some o=>
    rw[h]at t;obtain⟨S2,e,g,k⟩:=t;have ih:=loopD (X:=X) (P:=P) LI LO IO ha hp ps (i+1) is (os++[o]) (some (.str p)) S2 hd' (by simp;omega) (k.get hL (by simpa using LO)) (k.get hI (by simpa using IO)) (by rw[g,List.map_append];rfl);rw[List.length_cons,Jhj hL hn e];show PLp _ ((restO (os++[o]) ps).map λq=>(q.1,o::q.2)) X P I O is os S;cases hr:restO (os++[o]) ps with
    |none=>
     rw[hr]at ih;obtain⟨τ,S3,e3,k3⟩:=ih;exact⟨τ,S3,e3,(k.mono (by simp)).trans k3⟩
    |some q=>
     rw[hr]at ih;obtain⟨u3,S3,e3,g3,g4,k3⟩:=ih;exact⟨u3,S3,e3,g3,by rw[g4,List.append_assoc];rfl,(k.mono (by simp)).trans k3⟩
  ·have c1:Txt.startswith p (Str.ofString "in ")=true:=by
    cases h:Txt.startswith p (Str.ofString "in ")with
    |true=>rfl
    |false=>exact absurd (.inl h) c
   have c2:os=[]:=Classical.byContradiction λz=>c (.inr z);subst c2;have t:=Jrh (n:=n) (X:=X) (P:=P) (u:=u) hpl c1 hO hI (by rw[List.length_map];omega);have er:restO [] (p::ps)=match inO p with
     |none=>none
     |some i=>(restO [] ps).map λr=>(i::r.1,r.2):=by
    show insO (p::ps)=_;simp only[insO,c1,if_true];rfl
   rw[er];cases h:inO p with
   |none=>
    rw[h]at t;obtain⟨τ,S2,e,k⟩:=t;exact⟨τ,S2,Jjs hL hn e,k.mono (by simp)⟩
   |some o=>
    rw[h]at t;obtain⟨S2,e,g,k⟩:=t;have ih:=loopD (X:=X) (P:=P) LI LO IO ha hp ps (i+1) (is++[o]) [] (some (.str p)) S2 hd' (by simp at hl ⊢;omega) (k.get hL (by simpa using LI)) (by rw[g,List.map_append];rfl) (k.get hO (by simpa using Ne.symm IO));rw[List.length_cons,Jhj hL hn e];cases hr:restO [] ps with
    |none=>
     rw[hr]at ih;obtain⟨τ,S3,e3,k3⟩:=ih;exact⟨τ,S3,e3,(k.mono (by simp)).trans k3⟩
    |some q=>
     rw[hr]at ih;obtain⟨u3,S3,e3,g3,g4,k3⟩:=ih;exact⟨u3,S3,e3,by rw[g3,List.append_assoc];rfl,g4,(k.mono (by simp)).trans k3⟩
theorem Jnp{x:PySem.Str}(hx:(sg x).length<=2000):Fd 7 "formed_deed" x ((deedO x).map dD):=λn S=>by
 obtain⟨w,ws,hs⟩:=Jbn x (Str.ofString "; ");have sp:=Jb9 (S:=S) (y:=Str.ofString "; ") hx (by decide);have lp:∀p∈w::ws,(sg p).length<=2000:=λp hp=>Jau hx (by rw[hs];exact hp);have ll:=Jam (y:=Str.ofString "; ") hx;unfold deedO;simp only[hs,List.length_cons]at ll ⊢;rw[hs,List.map_cons]at sp;obtain⟨S1,h1⟩:∃S1,S++[Mi.Obj.lst (D.str w::ws.map D.str)]=S1:=⟨_,rfl⟩
 have g1:S1[S.length]? =some (.lst (D.str w::ws.map D.str)):=by rw[<-h1];exact Jac
 have x1:Ext S S1:=⟨_,h1.symm⟩
 have l1:S1.length=S.length+1:=by rw[<-h1];simp
 rw[h1]at sp;obtain⟨S2,h2⟩:∃S2,S1++[Mi.Obj.lst []]=S2:=⟨_,rfl⟩
 have x2:Ext S1 S2:=⟨_,h2.symm⟩
 have l2:S2.length=S.length+2:=by rw[<-h2];simp[l1]
 obtain⟨S3,h3⟩:∃S3,S2++[Mi.Obj.lst []]=S3:=⟨_,rfl⟩
 have x3:Ext S2 S3:=⟨_,h3.symm⟩
 have l3:S3.length=S.length+3:=by rw[<-h3];simp[l2]
 have sl:=sli1 (x3.get (x2.get g1));obtain⟨S4,h4⟩:∃S4,S3++[Mi.Obj.lst (ws.map D.str)]=S4:=⟨_,rfl⟩
 have x4:Ext S3 S4:=⟨_,h4.symm⟩
 rw[h4]at sl;have gL:S4[S3.length]? =some (.lst (ws.map D.str)):=by rw[<-h4];exact Jac
 have gI:S4[S1.length]? =some (.lst []):=x4.get (x3.get (by rw[<-h2];exact Jac));have gO:S4[S2.length]? =some (.lst []):=x4.get (by rw[<-h3];exact Jac);have gP:=x4.get (x3.get (x2.get g1));have lo:=loopD (n:=n) (X:=some (.str x)) (P:=some (.loc S.length)) (I:=S1.length) (O:=S2.length) (L:=S3.length) (all:=ws) (by omega) (by omega) (by omega) (by omega) (λp hp=>lp p (by simp[hp])) ws 0 [] [] none S4 rfl (by simp) gL gI gO;have kf:∀r,forL (turnF (Cn T G 100 (n+6)) (.tvar 4) bD) (some (S3.length,.lst)) (ws.map D.str) ws.length 0 [some (.str x),some (.loc S.length),some (.loc S1.length),some (.loc S2.length),none] S4=r->kFor (Cn T G 100 (n+6)) (.tvar 4) bD [some (.str x),some (.loc S.length),some (.loc S1.length),some (.loc S2.length),none] (some (S3.length,.lst),ws.map D.str) S4=r:=λr e=>by
  unfold kFor;rw[List.length_map];exact e
 have xx:Ext S S4:=x1.trans (x2.trans (x3.trans x4));have hb:∀S5,Keep [S1.length,S2.length] S4 S5->Ext S S5:=λS5 k=>Ext.keep xx k (by simp;omega);rw[Jaa Jbt rfl];have bd:f_formed_deed.body=.cns (.kls (.asg (.tvar 1) (.meth .split1 (.var 0) (.cns (.cst (.str "; ")) .nul)))) (.cns (.kls (.asg (.tvar 2) (.lst .nul))) (.cns (.kls (.asg (.tvar 3) (.lst .nul))) (.cns (.forr (.tvar 4) (.cns (.kle (.sli (.var 1) (.cns (.cst (.int 1)) .nul) .nul)) .nul) bD) (dropS 4 f_formed_deed.body)))):=rfl;have hN:f_formed_deed.N.length=5:=rfl;rw[bd];have er:restO [] ws=insO ws:=rfl;rw[er]at lo;cases hr:insO ws with
 |none=>
  rw[hr]at lo;obtain⟨τ,S5,e,k⟩:=lo;have e:=kf _ e;generalize dropS 4 f_formed_deed.body=rest;generalize bD=bd at*;simp[hN,rcv,sp,Line,h2,h3,sl,seqOf,Jad gL,e,Out];exact⟨_,_,⟨rfl,rfl⟩,hb _ k⟩
 |some q=>
  rw[hr]at lo;obtain⟨u,S5,e,g5,g6,k⟩:=lo;have e:=kf _ e;have g7:=k.get gP (by simp;omega);have on:=Jh9 (lp w (by simp)) (n+3) S5;have i0:=Jar (i:=0) g7 at0;have dr:dropS 4 f_formed_deed.body=.cns (.rtx (.tup (.cns (.call "read_number" (.cns (.idx (.var 1) (.cst (.int 0))) .nul)) (.cns (.kle (.prim .tuple1 (.cns (.var 2) .nul))) (.cns (.kle (.prim .tuple1 (.cns (.var 3) .nul))) .nul))))) .nul:=rfl;rw[dr];generalize bD=bd at*;cases hn:numO w with
  |none=>
   rw[hn]at on;obtain⟨τ,S6,e6,x6⟩:=on;simp[hN,rcv,sp,Line,h2,h3,sl,seqOf,Jad gL,e,Jai,i0,e6,Out];exact⟨_,_,⟨rfl,rfl⟩,(hb _ k).trans x6⟩
  |some z=>
   rw[hn]at on;obtain⟨S6,e6,x6⟩:=on;simp[hN,rcv,sp,Line,h2,h3,sl,seqOf,Jad gL,e,Jai,i0,e6,Jdj (x6.get g5),Jdj (x6.get g6),Out,dD];exact(hb _ k).trans x6
end
end K66
namespace K66
open PySem L2 Mi Tx PySem.NumText PySem.W.KIN
noncomputable abbrev Bl:=(Int×Int×Int)×List De
noncomputable def blD(b:Bl):D:=.tup [.int b.1.1,.int b.1.2.1,.int b.1.2.2,.tup (b.2.map dD)]
noncomputable def blockO(x:PySem.Str):Option Bl:=match Txt.split x (Str.ofString " | ")with
 |[]=>none
 |p::ps=>(match Txt.split p (Str.ofString " ")with
  |[a,b,c,d,e]=>if decide (b=Str.ofString "on")&&decide (d=Str.ofString "weight")then(match allO deedO ps,numO a,numO c,numO e with
   |some ds,some i,some j,some k=>some ((i,j,k),ds)
   |_,_,_,_=>none)else none
  |_=>none)
section
variable {n:Nat} {S:Store}
theorem Jp5{x:PySem.Str}(hx:(sg x).length<=2000):Fd 8 "formed_block" x ((blockO x).map blD):=λn S=>by
 obtain⟨w,ws,hs⟩:=Jbn x (Str.ofString " | ");have sp:=Jb9 (S:=S) (y:=Str.ofString " | ") hx (by decide);have lp:∀p∈w::ws,(sg p).length<=2000:=λp hp=>Jau hx (by rw[hs];exact hp);have ll:=Jam (y:=Str.ofString " | ") hx;unfold blockO;simp only[hs,List.length_cons]at ll ⊢;rw[hs,List.map_cons]at sp;obtain⟨S1,h1⟩:∃S1,S++[Mi.Obj.lst (D.str w::ws.map D.str)]=S1:=⟨_,rfl⟩
 have g1:S1[S.length]? =some (.lst (D.str w::ws.map D.str)):=by rw[<-h1];exact Jac
 have x1:Ext S S1:=⟨_,h1.symm⟩
 rw[h1]at sp;have i0:=Jar (i:=0) g1 at0;have sq:=Jb9 (S:=S1) (y:=Str.ofString " ") (lp w (by simp)) (by decide);have lq:∀p∈Txt.split w (Str.ofString " "),(sg p).length<=2000:=λp hp=>Jau (lp w (by simp)) hp;generalize Txt.split w (Str.ofString " ")=ps at sq lq;obtain⟨S2,h2⟩:∃S2,S1++[Mi.Obj.lst (ps.map D.str)]=S2:=⟨_,rfl⟩
 have x2:Ext S1 S2:=⟨_,h2.symm⟩
 rw[h2]at sq;have g2:S2[S1.length]? =some (.lst (ps.map D.str)):=by rw[<-h2];exact Jac
 obtain⟨Z,hZ⟩:∃Z:Int,((ps.map D.str).length:Int)=Z:=⟨_,rfl⟩
 have ln:primD .len [.loc S1.length] S2=.ok (.int Z) S2:=by rw[Jat g2,hZ]
 rw[List.length_map]at hZ;rw[Jaa Jbk rfl];have no:Z≠5->Out ((evB (Cn T G 100 (n+7)) f_formed_block.body ([some (D.str x)]++List.replicate 3 none) S).bind finF) none S:=λz=>by
  simp[f_formed_block,rcv,sp,i0,Jai,sq,ln,Jb7,z,Out];exact⟨_,_,⟨rfl,rfl⟩,x1.trans x2⟩
 match ps,hZ with
 |[],hZ=>exact no (by simp at hZ;omega)
 |[_],hZ=>exact no (by simp at hZ;omega)
 |[_,_],hZ=>exact no (by simp at hZ;omega)
 |[_,_,_],hZ=>exact no (by simp at hZ;omega)
 |[_,_,_,_],hZ=>exact no (by simp at hZ;omega)
 |_::_::_::_::_::_::_,hZ=>exact no (by simp at hZ;omega)
 |[a,b,c,d,e],hZ=>
  have g2:S2[S1.length]? =some (.lst [.str a,.str b,.str c,.str d,.str e]):=g2;have ix:∀S3,Ext S2 S3->idxD (.loc S1.length) (.int 0) S3=some (.str a)/\idxD (.loc S1.length) (.int 1) S3=some (.str b)/\idxD (.loc S1.length) (.int 2) S3=some (.str c)/\idxD (.loc S1.length) (.int 3) S3=some (.str d)/\idxD (.loc S1.length) (.int 4) S3=some (.str e):=λS3 x=>⟨Jar (x.get g2) rfl,Jar (x.get g2) rfl,Jar (x.get g2) rfl,Jar (x.get g2) rfl,Jar (x.get g2) rfl⟩
  obtain⟨-,j1,-,j3,-⟩:=ix S2 (.refl _);obtain⟨b0,hb0⟩:∃z,decide (b=Str.ofString "on")=z:=⟨_,rfl⟩
  obtain⟨b1,hb1⟩:∃z,decide (d=Str.ofString "weight")=z:=⟨_,rfl⟩
  have c0:cop .ne (.str b) (.str (Str.ofString "on")) S2=some (!b0):=by rw[Jc6,hb0]
  have c1:cop .ne (.str d) (.str (Str.ofString "weight")) S2=some (!b1):=by rw[Jc6,hb1]
  simp only[hb0,hb1];cases b0 with
  |false=>
   simp[f_formed_block,rcv,sp,i0,Jai,sq,ln,<-hZ,j1,c0,Out];exact⟨_,_,⟨rfl,rfl⟩,x1.trans x2⟩
  |true=>
   cases b1 with
   |false=>
    simp[f_formed_block,rcv,sp,i0,Jai,sq,ln,<-hZ,j1,c0,j3,c1,Out];exact⟨_,_,⟨rfl,rfl⟩,x1.trans x2⟩
   |true=>
    have sl:=sli1 (x2.get g1);obtain⟨S3,h3⟩:∃S3,S2++[Mi.Obj.lst (ws.map D.str)]=S3:=⟨_,rfl⟩
    rw[h3]at sl;have x3:Ext S2 S3:=⟨_,h3.symm⟩
    have g3:S3[S2.length]? =some (.lst (ws.map D.str)):=by rw[<-h3];exact Jac
    have q:=kCompX (n:=n) (k:=7) (τ:=[some (.str x),some (.loc S.length),some (.loc S1.length),none]) (f:="formed_deed") (F:=deedO) (enc:=dD) (λp hp=>Jnp (lp p (by simp[hp]))) (by omega) g3;cases ho:allO deedO ws with
    |none=>
     rw[ho]at q;obtain⟨τ,S5,e5,x5⟩:=q;simp[f_formed_block,rcv,sp,i0,Jai,sq,ln,<-hZ,j1,c0,j3,c1,sl,seqOf,Jad g3,e5,Out];exact⟨_,_,⟨rfl,rfl⟩,x1.trans (x2.trans (x3.trans x5))⟩
    |some ds=>
     rw[ho]at q;obtain⟨S5,e5,x5⟩:=q;obtain⟨S6,h6⟩:∃S6,S5++[Mi.Obj.lst (ds.map dD)]=S6:=⟨_,rfl⟩
     rw[h6]at e5;have x6:Ext S5 S6:=⟨_,h6.symm⟩
     have g6:S6[S5.length]? =some (.lst (ds.map dD)):=by rw[<-h6];exact Jac
     have y6:=x3.trans (x5.trans x6);have xx:=x1.trans (x2.trans y6);have k0:=(ix S6 y6).1;have on:=Jh9 (lq a (by simp)) (n+4) S6;cases hn:numO a with
     |none=>
      rw[hn]at on;obtain⟨τ,S7,e7,x7⟩:=on;simp[f_formed_block,rcv,sp,i0,Jai,sq,ln,<-hZ,j1,c0,j3,c1,sl,seqOf,Jad g3,e5,k0,e7,Out];exact⟨_,_,⟨rfl,rfl⟩,xx.trans x7⟩
     |some z1=>
      rw[hn]at on;obtain⟨S7,e7,x7⟩:=on;have k1:=(ix S7 (y6.trans x7)).2.2.1;have on:=Jh9 (lq c (by simp)) (n+4) S7;cases hn:numO c with
      |none=>
       rw[hn]at on;obtain⟨τ,S8,e8,x8⟩:=on;simp[f_formed_block,rcv,sp,i0,Jai,sq,ln,<-hZ,j1,c0,j3,c1,sl,seqOf,Jad g3,e5,k0,e7,k1,e8,Out];exact⟨_,_,⟨rfl,rfl⟩,xx.trans (x7.trans x8)⟩
      |some z2=>
       rw[hn]at on;obtain⟨S8,e8,x8⟩:=on;have k2:=(ix S8 (y6.trans (x7.trans x8))).2.2.2.2;have on:=Jh9 (lq e (by simp)) (n+4) S8;cases hn:numO e with
       |none=>
        rw[hn]at on;obtain⟨τ,S9,e9,x9⟩:=on;simp[f_formed_block,rcv,sp,i0,Jai,sq,ln,<-hZ,j1,c0,j3,c1,sl,seqOf,Jad g3,e5,k0,e7,k1,e8,k2,e9,Out];exact⟨_,_,⟨rfl,rfl⟩,xx.trans (x7.trans (x8.trans x9))⟩
       |some z3=>
        rw[hn]at on;obtain⟨S9,e9,x9⟩:=on;simp[f_formed_block,rcv,sp,i0,Jai,sq,ln,<-hZ,j1,c0,j3,c1,sl,seqOf,Jad g3,e5,k0,e7,k1,e8,k2,e9,Jdj (x9.get (x8.get (x7.get g6))),Line,Out,blD];exact xx.trans (x7.trans (x8.trans x9))
end
end K66
namespace K66
open PySem L2 Mi Tx PySem.NumText PySem.W.KIN
noncomputable def Say(k:Nat)(f:String)(d r:D):Prop:=∀(n:Nat) (S:Store),∃S',callN T G 100 (n+k) f [d] S=.ok r S'/\Ext S S'
theorem Jc9{α β:Type}{f:α->Option β}{g:β->α}:∀{xs:List α} {ys:List β},allO f xs=some ys->(∀x∈xs,∀y,f x=some y->g y=x)->ys.map g=xs
 |[],ys,h,_=>by cases h;rfl
 |x::xs,ys,h,hg=>by
  simp only[allO]at h;split at h
  ·cases h
  ·rename_i y hy;obtain⟨zs,hz,rfl⟩:=Option.map_eq_some_iff.mp h;rw[List.map_cons,hg x (by simp) y hy,Jc9 hz λx hx=>hg x (by simp[hx])]
theorem Jc8{α β:Type}{f:α->Option β}:∀{xs:List α} {ys:List β},allO f xs=some ys->∀y∈ys,∃x∈xs,f x=some y
 |[],ys,h,y,hy=>by cases h;cases hy
 |x::xs,ys,h,y,hy=>by
  simp only[allO]at h;split at h
  ·cases h
  ·rename_i z hz;obtain⟨zs,he,rfl⟩:=Option.map_eq_some_iff.mp h;rcases List.mem_cons.mp hy with rfl|hy
   ·exact⟨x,by simp,hz⟩
   ·obtain⟨x',hx',e⟩:=Jc8 he y hy;exact⟨x',by simp[hx'],e⟩
section
variable {n:Nat} {S:Store}
theorem compY{α:Type}{f:String}{k:Nat}{enc out:α->D}{all:List α}(h:∀a∈all,Say k f (enc a) (out a))(hl:all.length<=3000):∀(as:List α) (acc:List D) (i:Nat) (S:Store),all.drop i=as->acc.length=i->
  ∃S',compL (turnC (Cn T G 100 (n+k)) (.tvar 0) .nul (.call f (.cns (.var 0) .nul))) none (all.map enc) as.length i [none] S acc=.ok (acc++as.map out) S'/\Ext S S'
 |[],acc,i,S,_,_=>⟨S,by simp[compL,sameAt],.refl _⟩
 |p::ps,acc,i,S,hd,ha=>by
  have hi:all[i]? =some p:=by rw[<-Nat.add_zero i,<-List.getElem?_drop,hd];rfl
  have hlt:=(List.getElem?_eq_some_iff.mp hi).1;obtain⟨S1,e,x⟩:=h p (List.mem_of_getElem? hi) n S;obtain⟨S2,e2,x2⟩:=compY h hl ps (acc++[out p]) (i+1) S1 (by rw[<-List.drop_drop,hd];rfl) (by simp[ha]);refine⟨S2,?_,x.trans x2⟩;rw[List.length_cons,compL];simp only[sameAt,nth,List.getElem?_map,hi,Option.map_some,Jui,e,Res.bind_ok,if_true];rw[if_pos (by show _<16777216;omega),e2];simp
theorem kCompY{α:Type}{f:String}{k:Nat}{enc out:α->D}{all:List α}{τ:En}(h:∀a∈all,Say k f (enc a) (out a))(hl:all.length<=3000):
  ∃S',kComp (Cn T G 100 (n+k)) 1 [] (.tvar 0) .nul (.call f (.cns (.var 0) .nul)) τ (none,all.map enc) S=.ok (.loc S'.length) (S'++[.lst (all.map out)])/\Ext S S':=by
 obtain⟨S',e,x⟩:=compY (n:=n) h hl all [] 0 S rfl rfl;exact⟨S',by unfold kComp;rw[List.length_map,show inEn 1 [] τ=[none]from rfl,e];rfl,x⟩
theorem str_int{z:Int}(h:z.natAbs<10^60)(S:Store):primD .str1 [.int z] S=.ok (.str (nt z)) S:=Jos (Nat.lt_trans h (by decide+kernel))
theorem Jgo{ks:List Int}(hk:∀k∈ks,k.natAbs<10^60)(hl:ks.length<=3000)(m:Nat)(τ:En)(S:Store):kComp (Cn T G 100 m) 1 [] (.tvar 0) .nul (.prim .str1 (.cns (.var 0) .nul)) τ (none,ks.map D.int) S=.ok (.loc S.length) (S++[.lst ((ks.map nt).map D.str)]):=by
 rw[Jdw D.int (λz=>D.str (nt z)) (by omega) (.inl rfl) λz hz=>by simp[turnC,inEn,str_int (hk z hz)],List.map_map];rfl
theorem Je1{x:PySem.Str}{l:Nat}{ts:List PySem.Str}(h:S[l]? =some (.lst (ts.map D.str)))(hx:x.length<=10)(hl:ts.length<=2002)(ht:∀t∈ts,(sg t).length<=2000):methD .join1 (.str x) [.loc l] S=.ok (.str (Str.join x ts)) S:=by
 have ok:JoinOk x ts=true:=by
  unfold JoinOk;rw[Bool.not_eq_true'];refine StrLaws.joinFits (B:=2000) (λy hy=>by rw[Jap];exact ht y hy) ?_;have h1:ts.length*2000<=2002*2000:=Nat.mul_le_mul_right _ hl;have h2:ts.length*x.length<=2002*10:=Nat.mul_le_mul hl hx;exact Nat.le_trans (Nat.add_le_add h1 h2) (by decide+kernel)
 rw[Ji6,h];simp only[Jgw,if_pos ok];rw[show Txt.join x ts=Str.join x ts from StrLaws.glued_eq_join x ts]
theorem join_split{x y:PySem.Str}{l:Nat}{ts:List PySem.Str}(hx:(sg x).length<=2000)(hy:y.length<=10)(hs:Txt.split x y=ts)(h:S[l]? =some (.lst (ts.map D.str))):methD .join1 (.str y) [.loc l] S=.ok (.str x) S:=by
 subst hs;rw[Je1 h hy (Jam hx) λt ht=>Jau hx ht,StrLaws.join_split]
theorem nums{ws:List PySem.Str}{ks:List Int}(h:allO numO ws=some ks):ks.map nt=ws/\∀k∈ks,k.natAbs<10^60:=by
 refine⟨Jc9 h λx _ y hy=>?_,λk hk=>?_⟩
 ·rcases Jb1 x with⟨_,o⟩|⟨_,i,o,_,e,_⟩
  ·rw[o]at hy;cases hy
  ·rw[o]at hy;cases hy;exact e
 ·obtain⟨x,_,hy⟩:=Jc8 h k hk;rcases Jb1 x with⟨_,o⟩|⟨_,i,o,_,_,e⟩
  ·rw[o]at hy;cases hy
  ·rw[o]at hy;cases hy;exact e
theorem num1{x:PySem.Str}{i:Int}(h:numO x=some i):nt i=x/\i.natAbs<10^60:=by
 obtain⟨a,b⟩:=nums (ws:=[x]) (ks:=[i]) (by simp[allO,h]);exact⟨by simpa using a,b i (by simp)⟩
theorem Jqc{d:D}{ds:List D}(S:Store):sliD (.tup (d::ds)) (some 1) none S=.ok (.tup ds) S:=by
 simp only[sliD,Jgn (show(0:Int)<=1 by decide)];rfl
theorem itup{ds:List D}{i:Int}{d:D}(h:atI ds i=some d)(S:Store):idxD (.tup ds) (.int i) S=some d:=by simp only[idxD,seqOf,h]
theorem Jvh{x:PySem.Str}{r:Rw}(hx:(sg x).length<=2000)(h:rowO x=some r):Say 1 "shown_row" (rD r) (.str x):=λn S=>by
 unfold rowO at h;split at h
 ·cases h
 ·rename_i w ws hs;split at h
  ·cases h
  obtain⟨ks,hk,rfl⟩:=Option.map_eq_some_iff.mp h;obtain⟨e1,b1⟩:=nums hk;have ll:=Jam (y:=Str.ofString " ") hx;rw[hs,List.length_cons]at ll;have l2:ks.length=ws.length:=by rw[<-e1,List.length_map]
  obtain⟨S1,h1⟩:∃S1,S++[Mi.Obj.lst [D.str w]]=S1:=⟨_,rfl⟩
  have g1:S1[S.length]? =some (.lst [D.str w]):=by rw[<-h1];exact Jac
  have cs:=Jgo b1 (by omega) n [some (rD (w,ks))] S1;rw[e1]at cs;have ct:=Jcs (S:=S1++[Mi.Obj.lst (ws.map D.str)]) ((Ext.new _ _).get g1) Jac (by rw[List.length_map];show 1+_<=16777216;omega);have jn:=join_split (S:=(S1++[Mi.Obj.lst (ws.map D.str)])++[Mi.Obj.lst ([D.str w]++ws.map D.str)]) hx (by decide) hs Jac;have rd:rD (w,ks)=.tup (.str w::ks.map D.int):=rfl;rw[List.singleton_append]at ct jn;rw[Jaa Jd2 rfl];rw[rd]at cs ⊢;have x2:Ext S (S1++[Mi.Obj.lst (ws.map D.str)]):=Ext.trans ⟨_,h1.symm⟩ (Ext.new _ _);generalize S1++[Mi.Obj.lst (ws.map D.str)]=S2 at*;simp[Jcb,rcv,Jai,itup at0,Line,h1,Jqc,seqOf,cs,ct,jn];exact x2.more _
noncomputable def rT(r:Rw):PySem.Str:=Str.join (Str.ofString " ") (r.1::r.2.map nt)
theorem Jss{x:PySem.Str}{r:Rw}(h:rowO x=some r):rT r=x:=by
 unfold rowO at h;split at h
 ·cases h
 ·rename_i w ws hs;split at h
  ·cases h
  obtain⟨ks,hk,rfl⟩:=Option.map_eq_some_iff.mp h;unfold rT;rw[(nums hk).1,<-hs,StrLaws.join_split]
theorem Jmq{x:PySem.Str}{L:List Rw}(hx:(sg x).length<=2000)(h:lockO x=some L):Say 2 "shown_lock" (lkD L) (.str x):=λn S=>by
 rw[Jaa Jdd rfl];unfold lockO at h;split at h
 ·rename_i e;cases h;refine⟨S,?_,.refl _⟩;rw[e];simp[Jbh,lkD,tru,Jcx]
 ·have ll:=Jam (y:=Str.ofString ", ") hx;have e1:L.map rT=Txt.split x (Str.ofString ", "):=Jc9 h λ_ _ _=>Jss;rw[<-e1,List.length_map]at ll;obtain⟨S1,e,x1⟩:=kCompY (n:=n) (S:=S) (f:="shown_row") (k:=1) (enc:=rD) (out:=λr=>.str (rT r)) (all:=L) (τ:=[some (lkD L)]) (λr hr=>by
   obtain⟨y,hy,e⟩:=Jc8 h r hr;rw[Jss e];exact Jvh (Jau hx hy) e) (by omega)
  have jn:=join_split (S:=S1++[Mi.Obj.lst ((L.map rT).map D.str)]) hx (by decide) e1.symm Jac;rw[List.map_map]at jn;rw[show L.map (λr=>D.str (rT r))=L.map (D.str∘rT)from rfl]at e;have ne:(L.map rD).isEmpty=false:=by
   obtain⟨p,ps,hs⟩:=Jbn x (Str.ofString ", ");rw[hs]at e1;cases L with
   |nil=>cases e1
   |cons a l=>rfl
  unfold lkD at e ⊢;generalize L.map rD=ds at*;have x2:=x1.trans (Ext.new S1 [Mi.Obj.lst (L.map (D.str∘rT))]);generalize S1++[Mi.Obj.lst (L.map (D.str∘rT))]=S2 at*;simp[Jbh,rcv,tru,ne,seqOf,e,jn];exact x2
noncomputable def cT(c:Int×Int):PySem.Str:=Str.join (Str.ofString ".") [nt c.1,nt c.2]
theorem Jj0{x:PySem.Str}{c:Int×Int}(h:coinO x=some c):Txt.split x (Str.ofString ".")=[nt c.1,nt c.2]/\c.1.natAbs<10^60/\c.2.natAbs<10^60:=by
 unfold coinO at h;split at h
 ·rename_i a b hs;split at h
  ·cases h
  split at h
  ·rename_i i j hi hj;cases h;rw[hs,(num1 hi).1,(num1 hj).1];exact⟨rfl,(num1 hi).2,(num1 hj).2⟩
  ·cases h
 ·cases h
theorem Jzz{x:PySem.Str}{c:Int×Int}(h:coinO x=some c):cT c=x:=by
 unfold cT;rw[<-(Jj0 h).1,StrLaws.join_split]
theorem Jtx{x:PySem.Str}{c:Int×Int}(hx:(sg x).length<=2000)(h:coinO x=some c):Say 1 "shown_coin" (cD c) (.str x):=λn S=>by
 obtain⟨hs,b1,b2⟩:=Jj0 h;have cs:=Jgo (ks:=[c.1,c.2]) (by simp[b1,b2]) (by simp) n [some (cD c)] S;have jn:=join_split (S:=S++[Mi.Obj.lst ([nt c.1,nt c.2].map D.str)]) hx (by decide) hs Jac;rw[Jaa Jdf rfl];simp only[List.map_cons,List.map_nil]at cs jn;unfold cD at cs ⊢;generalize nt c.1=t1 at*;generalize nt c.2=t2 at*;simp[Jbv,rcv,seqOf,cs,jn];exact Ext.new _ _
end
end K66
namespace K66
open PySem L2 Mi Tx PySem.NumText PySem.W.KIN
noncomputable abbrev isIT(x:PySem.Str):Prop:=Txt.startswith x (Str.ofString "in ")=true
noncomputable def iT(i:In1):PySem.Str:=Str.join (Str.ofString " ") (Str.ofString "in"::cT i.1::i.2.map nt)
noncomputable def oT(o:Out1):PySem.Str:=Str.join (Str.ofString " ") [Str.ofString "out",nt o.1,if o.2=[]then Str.ofString "-" else Str.join (Str.ofString ", ") (o.2.map rT)]
theorem Jm4{x:PySem.Str}{i:In1}(hs:isIT x)(h:inO x=some i):∃c ks,Txt.split x (Str.ofString " ")=Str.ofString "in"::c::ks/\coinO c=some i.1/\ks=i.2.map nt/\∀k∈i.2,k.natAbs<10^60:=by
 obtain⟨c,ks,e⟩:=Jjr hs;unfold inO at h;simp only[e]at h;split at h
 ·rename_i c' ks' h1 h2;cases h;obtain⟨e1,b1⟩:=nums h2;exact⟨c,ks,e,h1,e1.symm,b1⟩
 ·cases h
theorem Jxv{x:PySem.Str}{i:In1}(hs:isIT x)(h:inO x=some i):iT i=x:=by
 obtain⟨c,ks,e,h1,rfl,_⟩:=Jm4 hs h;unfold iT;rw[Jzz h1,<-e,StrLaws.join_split]
theorem Jjo(x y:PySem.Str)(k:Int):Str.join y (Txt.splitMax x y k)=x:=by
 unfold Txt.splitMax;split
 ·rfl
 ·split
  ·rfl
  ·obtain⟨f,h⟩:=StrLaws.occ_chain x y (limitOf x k);rw[StrLaws.partsBetween_eq,StrLaws.join_partsFrom x y _ 0 f h,StrLaws.sub_whole]
theorem Jzl{x:PySem.Str}{L:List Rw}(h:lockO x=some L):(if L=[]then Str.ofString "-" else Str.join (Str.ofString ", ") (L.map rT))=x:=by
 unfold lockO at h;split at h
 ·rename_i e;cases h;exact e.symm
 ·have e1:L.map rT=Txt.split x (Str.ofString ", "):=Jc9 h λ_ _ _=>Jss;obtain⟨p,ps,hs⟩:=Jbn x (Str.ofString ", ");rw[if_neg (by rintro rfl;rw[hs]at e1;cases e1),e1,StrLaws.join_split]
theorem Jif{x:PySem.Str}{o:Out1}(h:outO x=some o):∃c,Txt.splitMax x (Str.ofString " ") 2=[Str.ofString "out",nt o.1,c]/\lockO c=some o.2/\o.1.natAbs<10^60:=by
 unfold outO at h;split at h
 ·rename_i a b c e;split at h
  ·rename_i ha;split at h
   ·rename_i w L h1 h2;cases h;obtain⟨e1,b1⟩:=num1 h1;exact⟨c,by rw[e,ha,e1],h2,b1⟩
   ·cases h
  ·cases h
 ·cases h
theorem Jw5{x:PySem.Str}{o:Out1}(h:outO x=some o):oT o=x:=by
 obtain⟨c,e,h1,_⟩:=Jif h;unfold oT;rw[Jzl h1,<-e,Jjo]
section
variable {n:Nat} {S:Store}
theorem Jzq{x:PySem.Str}{i:In1}(hx:(sg x).length<=2000)(hi:isIT x)(h:inO x=some i):Say 2 "shown_in" (iD i) (.str x):=λn S=>by
 obtain⟨c,ks,hs,hc,rfl,b⟩:=Jm4 hi h;obtain⟨S1,e1,x1⟩:=Jtx (Jau hx (by rw[hs];simp)) hc n S;have ll:=Jam (y:=Str.ofString " ") hx;rw[hs]at ll;simp only[List.length_cons,List.length_map]at ll;obtain⟨S2,h2⟩:∃S2,S1++[Mi.Obj.lst [D.str (Str.ofString "in"),D.str c]]=S2:=⟨_,rfl⟩
 have g2:S2[S1.length]? =some (.lst [D.str (Str.ofString "in"),D.str c]):=by rw[<-h2];exact Jac
 have x2:Ext S1 S2:=⟨_,h2.symm⟩
 have cs:=Jgo b (by omega) (n+1) [some (iD i)] S2;have ct:=Jcs (S:=S2++[Mi.Obj.lst ((i.2.map nt).map D.str)]) ((Ext.new _ _).get g2) Jac (by simp only[List.length_map,List.length_cons,List.length_nil];show _<=16777216;omega);have jn:=join_split (S:=(S2++[Mi.Obj.lst ((i.2.map nt).map D.str)])++[Mi.Obj.lst ([D.str (Str.ofString "in"),D.str c]++(i.2.map nt).map D.str)]) hx (by decide) hs Jac;have x3:=x1.trans (x2.trans (Ext.new S2 [Mi.Obj.lst ((i.2.map nt).map D.str)]));rw[Jaa Jel rfl];unfold iD at cs ⊢;generalize(i.2.map nt).map D.str=ts at*;generalize S2++[Mi.Obj.lst ts]=S3 at*;simp only[List.cons_append,List.nil_append]at ct jn;simp[Jc0,rcv,Jai,itup at0,itup at1,e1,Line,h2,seqOf,cs,ct,jn];exact x3.more _
theorem Jwv{x:PySem.Str}{o:Out1}(hx:(sg x).length<=2000)(h:outO x=some o):Say 3 "shown_out" (oD o) (.str x):=λn S=>by
 obtain⟨c,hs,hl,b⟩:=Jif h;have lp:∀p∈Txt.splitMax x (Str.ofString " ") 2,(sg p).length<=2000:=λp hp=>by
  have:=PyProof.Rows.partMax_short hp;rw[Jap,Jap]at this;omega
 rw[hs]at lp;obtain⟨S1,e1,x1⟩:=Jmq (lp c (by simp)) hl n S;have jn:=Je1 (S:=S1++[Mi.Obj.lst ([Str.ofString "out",nt o.1,c].map D.str)]) (x:=Str.ofString " ") Jac (by decide) (by simp) lp;rw[<-hs,Jjo,hs]at jn;simp only[List.map_cons,List.map_nil]at jn;rw[Jaa Jd3 rfl];unfold oD;have si:=λS=>str_int b S;generalize nt o.1=t at*;simp[Jcc,rcv,Jai,itup at0,itup at1,si,e1,Line,jn];exact x1.more _
end
end K66
namespace K66
open PySem L2 Mi Tx PySem.NumText PySem.W.KIN
theorem Jm3:∀{ps:List PySem.Str} {q:List In1×List Out1},insO ps=some q->ps=q.1.map iT++q.2.map oT/\(∀i∈q.1,∃y∈ps,isIT y/\inO y=some i)/\∀o∈q.2,∃y∈ps,outO y=some o
 |[],q,h=>by
  cases h;exact⟨rfl,(λ_ h=>by cases h),(λ_ h=>by cases h)⟩
 |p::ps,q,h=>by
  rw[insO]at h;split at h
  ·rename_i hi;split at h
   ·cases h
   ·rename_i i e;obtain⟨r,hr,rfl⟩:=Option.map_eq_some_iff.mp h;obtain⟨h1,h2,h3⟩:=Jm3 hr;refine⟨?_,λj hj=>?_,λo ho=>?_⟩
    ·rw[List.map_cons,Jxv hi e,List.cons_append,<-h1]
    ·rcases List.mem_cons.mp hj with rfl|hj
     ·exact⟨p,by simp,hi,e⟩
     ·obtain⟨y,hy,z⟩:=h2 j hj;exact⟨y,by simp[hy],z⟩
    ·obtain⟨y,hy,z⟩:=h3 o ho;exact⟨y,by simp[hy],z⟩
  ·obtain⟨os,ho,rfl⟩:=Option.map_eq_some_iff.mp h;exact⟨(Jc9 ho λ_ _ _=>Jw5).symm,(λ_ h=>by cases h),λo h=>Jc8 ho o h⟩
theorem Jgm{x:PySem.Str}{d:De}(h:deedO x=some d):Txt.split x (Str.ofString "; ")=nt d.1::(d.2.1.map iT++d.2.2.map oT)/\d.1.natAbs<10^60/\(∀i∈d.2.1,∃y∈Txt.split x (Str.ofString "; "),isIT y/\inO y=some i)/\∀o∈d.2.2,∃y∈Txt.split x (Str.ofString "; "),outO y=some o:=by
 unfold deedO at h;split at h
 ·cases h
 ·rename_i p ps hs;split at h
  ·rename_i r k h1 h2;cases h;obtain⟨e1,b1⟩:=num1 h2;obtain⟨e2,h3,h4⟩:=Jm3 h1;refine⟨by rw[hs,e1,<-e2],b1,λi hi=>?_,λo ho=>?_⟩
   ·obtain⟨y,hy,z⟩:=h3 i hi;exact⟨y,by rw[hs];simp[hy],z⟩
   ·obtain⟨y,hy,z⟩:=h4 o ho;exact⟨y,by rw[hs];simp[hy],z⟩
  ·cases h
noncomputable def dT(d:De):PySem.Str:=Str.join (Str.ofString "; ") (nt d.1::(d.2.1.map iT++d.2.2.map oT))
theorem Jyb{x:PySem.Str}{d:De}(h:deedO x=some d):dT d=x:=by
 unfold dT;rw[<-(Jgm h).1,StrLaws.join_split]
section
variable {n:Nat} {S:Store}
theorem Jnn{x:PySem.Str}{d:De}(hx:(sg x).length<=2000)(h:deedO x=some d):Say 4 "shown_deed" (dD d) (.str x):=λn S=>by
 obtain⟨hs,b,hi,ho⟩:=Jgm h;have ll:=Jam (y:=Str.ofString "; ") hx;rw[hs]at ll;simp only[List.length_cons,List.length_append,List.length_map]at ll;obtain⟨S1,e1,x1⟩:=kCompY (n:=n+1) (S:=S) (f:="shown_in") (k:=2) (enc:=iD) (out:=λr=>.str (iT r)) (all:=d.2.1) (τ:=[some (dD d),none,none]) (λr hr=>by
  obtain⟨y,hy,z,e⟩:=hi r hr;rw[Jxv z e];exact Jzq (Jau hx hy) z e) (by omega)
 obtain⟨S2,h2⟩:∃S2,S1++[Mi.Obj.lst (d.2.1.map λr=>D.str (iT r))]=S2:=⟨_,rfl⟩
 have g2:S2[S1.length]? =some (.lst (d.2.1.map λr=>D.str (iT r))):=by rw[<-h2];exact Jac
 have x2:Ext S1 S2:=⟨_,h2.symm⟩
 rw[h2]at e1;obtain⟨S3,e3,x3⟩:=kCompY (n:=n) (S:=S2) (f:="shown_out") (k:=3) (enc:=oD) (out:=λr=>.str (oT r)) (all:=d.2.2) (τ:=[some (dD d),some (.loc S1.length),none]) (λr hr=>by
  obtain⟨y,hy,e⟩:=ho r hr;rw[Jw5 e];exact Jwv (Jau hx hy) e) (by omega)
 obtain⟨S4,h4⟩:∃S4,S3++[Mi.Obj.lst (d.2.2.map λr=>D.str (oT r))]=S4:=⟨_,rfl⟩
 have g4:S4[S3.length]? =some (.lst (d.2.2.map λr=>D.str (oT r))):=by rw[<-h4];exact Jac
 have x4:Ext S3 S4:=⟨_,h4.symm⟩
 rw[h4]at e3;obtain⟨S5,h5⟩:∃S5,S4++[Mi.Obj.lst [D.str (nt d.1)]]=S5:=⟨_,rfl⟩
 have g5:S5[S4.length]? =some (.lst [D.str (nt d.1)]):=by rw[<-h5];exact Jac
 have x5:Ext S4 S5:=⟨_,h5.symm⟩
 have c1:=Jcs g5 (x5.get (x4.get (x3.get g2))) (by simp only[List.length_map,List.length_cons,List.length_nil];show _<=16777216;omega);obtain⟨S6,h6⟩:∃S6,S5++[Mi.Obj.lst ([D.str (nt d.1)]++d.2.1.map λr=>D.str (iT r))]=S6:=⟨_,rfl⟩
 have g6:S6[S5.length]? =some (.lst ([D.str (nt d.1)]++d.2.1.map λr=>D.str (iT r))):=by rw[<-h6];exact Jac
 have x6:Ext S5 S6:=⟨_,h6.symm⟩
 rw[h6]at c1;have c2:=Jcs g6 (x6.get (x5.get g4)) (by simp only[List.length_map,List.length_append,List.length_cons,List.length_nil];show _<=16777216;omega);obtain⟨S7,h7⟩:∃S7,S6++[Mi.Obj.lst (([D.str (nt d.1)]++d.2.1.map λr=>D.str (iT r))++d.2.2.map λr=>D.str (oT r))]=S7:=⟨_,rfl⟩
 rw[h7]at c2;have jn:=join_split (S:=S7) (l:=S6.length) hx (by decide) hs (by
  rw[<-h7,Jac];simp only[List.map_cons,List.map_append,List.map_map,List.cons_append,List.nil_append];rfl)
 have xx:Ext S S7:=x1.trans (x2.trans (x3.trans (x4.trans (x5.trans (x6.trans ⟨_,h7.symm⟩)))));rw[Jaa Jde rfl];have i2:∀S:Store,idxD (.tup [.int d.1,.tup (d.2.1.map iD),.tup (d.2.2.map oD)]) (.int 2) S=some (.tup (d.2.2.map oD)):=λS=>itup rfl S;unfold dD at e1 e3 ⊢;have si:=λS=>str_int b S;generalize nt d.1=t at*;generalize d.2.1.map iD=da at*;generalize d.2.2.map oD=db at*;simp[Jbu,rcv,Jai,itup at0,itup at1,i2,seqOf,e1,e3,si,Line,h5,c1,c2,jn];exact xx
theorem Jp3{x:PySem.Str}{b:Bl}(hx:(sg x).length<=2000)(h:blockO x=some b):Say 5 "shown_block" (blD b) (.str x):=λn S=>by
 unfold blockO at h;split at h
 ·cases h
 rename_i p ps hs;split at h
 case h_2=>cases h
 rename_i w0 w1 w2 w3 w4 hw;split at h
 case isFalse=>cases h
 rename_i hc;simp only[Bool.and_eq_true,decide_eq_true_eq]at hc;obtain⟨rfl,rfl⟩:=hc;split at h
 case h_2=>cases h
 rename_i ds i j k h1 h2 h3 h4;cases h;obtain⟨f2,b2⟩:=num1 h2;obtain⟨f3,b3⟩:=num1 h3;obtain⟨f4,b4⟩:=num1 h4;have ll:=Jam (y:=Str.ofString " | ") hx;have e1:ds.map dT=ps:=Jc9 h1 λ_ _ _=>Jyb;rw[hs,<-e1]at ll;simp only[List.length_cons,List.length_map]at ll;have lp:∀p'∈p::ps,(sg p').length<=2000:=λp' hp=>Jau hx (by rw[hs];exact hp);have j1:=join_split (y:=Str.ofString " ") (S:=S++[Mi.Obj.lst ([nt i,Str.ofString "on",nt j,Str.ofString "weight",nt k].map D.str)]) (lp p (by simp)) (by decide) (by rw[f2,f3,f4];exact hw) Jac;simp only[List.map_cons,List.map_nil]at j1;obtain⟨S1,g1⟩:∃S1,S++[Mi.Obj.lst [D.str (nt i),D.str (Str.ofString "on"),D.str (nt j),D.str (Str.ofString "weight"),D.str (nt k)]]=S1:=⟨_,rfl⟩
 rw[g1]at j1;have x1:Ext S S1:=⟨_,g1.symm⟩
 obtain⟨S2,g2⟩:∃S2,S1++[Mi.Obj.lst [D.str p]]=S2:=⟨_,rfl⟩
 have x2:Ext S1 S2:=⟨_,g2.symm⟩
 have p2:S2[S1.length]? =some (.lst [D.str p]):=by rw[<-g2];exact Jac
 obtain⟨S3,e3,x3⟩:=kCompY (n:=n) (S:=S2) (f:="shown_deed") (k:=4) (enc:=dD) (out:=λr=>.str (dT r)) (all:=ds) (τ:=[some (blD ((i,j,k),ds)),some (.str p)]) (λr hr=>by
  obtain⟨y,hy,e⟩:=Jc8 h1 r hr;rw[Jyb e];exact Jnn (lp y (by simp[hy])) e) (by omega)
 rw[show ds.map (λr=>D.str (dT r))=(ds.map dT).map D.str by rw[List.map_map];rfl,e1]at e3;obtain⟨S4,g4⟩:∃S4,S3++[Mi.Obj.lst (ps.map D.str)]=S4:=⟨_,rfl⟩
 have x4:Ext S3 S4:=⟨_,g4.symm⟩
 have p4:S4[S3.length]? =some (.lst (ps.map D.str)):=by rw[<-g4];exact Jac
 rw[g4]at e3;have c1:=Jcs (x4.get (x3.get p2)) p4 (by rw[<-e1];simp only[List.length_map,List.length_cons,List.length_nil];show _<=16777216;omega);have jn:=join_split (S:=S4++[Mi.Obj.lst ([D.str p]++ps.map D.str)]) (l:=S4.length) hx (by decide) hs Jac;rw[List.singleton_append]at c1 jn;rw[Jaa Jct rfl];have ix:∀S:Store,idxD (blD ((i,j,k),ds)) (.int 0) S=some (.int i)/\idxD (blD ((i,j,k),ds)) (.int 1) S=some (.int j)/\idxD (blD ((i,j,k),ds)) (.int 2) S=some (.int k)/\idxD (blD ((i,j,k),ds)) (.int 3) S=some (.tup (ds.map dD)):=λS=>⟨itup rfl S,itup rfl S,itup rfl S,itup rfl S⟩
 have s2:=λS=>str_int b2 S;have s3:=λS=>str_int b3 S;have s4:=λS=>str_int b4 S;generalize blD ((i,j,k),ds)=B at*;generalize nt i=t1 at*;generalize nt j=t2 at*;generalize nt k=t3 at*;simp[Jbm,rcv,Jai,(ix _).1,(ix _).2.1,(ix _).2.2.1,(ix _).2.2.2,seqOf,s2,s3,s4,Line,g1,j1,g2,e3,c1,jn];exact(x1.trans (x2.trans (x3.trans x4))).more _
end
end K66
namespace K66
open PySem L2 Mi Tx PySem.NumText PySem.W.KIN
noncomputable def lone:List PySem.Str:=["drop","swap","add","sub","mul","less","same","not","need","height","age","worth","ins","outs","if","else","end"]
noncomputable def place:List PySem.Str:=["copy","paid"]
section
variable {n:Nat} {S:Store}
theorem Jiu{z:Int}:callN T G 100 (n+1) "is_whole" [.int z] S=.ok (.bl true) S:=by
 rw[Jaa Jen rfl];simp[Jc2,tyD,isiD,tru]
theorem Jbp{z lo hi:Int}:callN T G 100 (n+2) "is_within" [.int z,.int lo,.int hi] S=.ok (.bl (decide (lo<=z)&&decide (z<=hi))) S:=by
 rw[Jaa Jd7 rfl];simp[Jcf,Jiu]
 by_cases c:lo<=z<;>simp[c]
theorem Jas{ds:List D}{lo hi:Int}:callN T G 100 (n+1) "is_tuple" [.tup ds,.int lo,.int hi] S=.ok (.bl (decide (lo<=ds.length)&&decide ((ds.length:Int)<=hi))) S:=by
 rw[Jaa Jeo rfl];have e:isiD "tuple" "tuple"=true:=by decide
 simp[Jc3,tyD,e,Jbf,seqOf]
 by_cases c:lo<=(ds.length:Int)<;>simp[c]
theorem Jsz{S:Store}:∃B:Int,∀S:Store,bop .pow (.int 10) (.int 30) S=.ok (.int B) S:=⟨_,λS=>by rw[Jge];rfl⟩
theorem Jzc{S:Store}:∃B:Int,∀S:Store,bop .pow (.int 10) (.int 40) S=.ok (.int B) S:=⟨_,λS=>by rw[Jge];rfl⟩
theorem Jzb{S:Store}:∃B:Int,∀S:Store,bop .pow (.int 10) (.int 50) S=.ok (.int B) S:=⟨_,λS=>by rw[Jge];rfl⟩
noncomputable def Js(k:Nat)(f:String)(d:D):Prop:=∃b,∀(n:Nat) (S:Store),callN T G 100 (n+k) f [d] S=.ok (.bl b) S
noncomputable def Jb(k:Nat)(f:String)(d:D):Prop:=∃b,Say k f d (.bl b)
theorem Js.jb{k:Nat}{f:String}{d:D}(h:Js k f d):Jb k f d:=by
 obtain⟨b,h⟩:=h;exact⟨b,λn S=>⟨S,h n S,.refl _⟩⟩
theorem Ji1(z:Int):Js 2 "is_short" (.int z):=by
 obtain⟨B,p5⟩:=Jzb (S:=[]);refine⟨decide ((if z<0 then -z else z)<B),λn S=>?_⟩;rw[Jaa Jep rfl];simp[Jc4,Jiu,Ji5,p5]
theorem Jik{w:PySem.Str}:∀ws:List PySem.Str,anyEq S Deep (.str w) (ws.map D.str)=some (decide (w∈ws))
 |[]=>by simp[anyEq]
 |y::ws=>by
  have e:eqD S Deep (.str y) (.str w)=some (decide (y=w)):=Jbc (x:=y) (y:=w) (S:=S);simp only[List.map_cons,anyEq,e,Jik ws]
  by_cases c:y=w
  ·simp[c]
  ·have:¬w=y:=λz=>c z.symm;simp[c,this]
theorem Jtp{w:PySem.Str}:cop .inn (.str w) (.tup (lone.map D.str)) S=some (decide (w∈lone)):=by simp only[cop,seqOf,Jik]
theorem Jpq{w:PySem.Str}:cop .inn (.str w) (.tup (place.map D.str)) S=some (decide (w∈place)):=by simp only[cop,seqOf,Jik]
theorem gLone:G "LONE_WORDS"=some (.tup (lone.map D.str)):=rfl
theorem gPlace:G "PLACE_WORDS"=some (.tup (place.map D.str)):=rfl
theorem Jvi(r:Rw):Js 3 "is_row" (rD r):=by
 obtain⟨w,ks⟩:=r;have ss:isiD "str" "str"=true:=by decide
 match ks with
 |[]=>
  refine⟨decide (w∈lone),λn S=>?_⟩;have tt:=Jas (n:=n+1) (S:=S) (ds:=[.str w]) (lo:=1) (hi:=2);have i0:∀S:Store,idxD (.tup [.str w]) (.int 0) S=some (.str w):=λS=>itup at0 S;rw[Jaa Jda rfl];simp[Jbw,rD,tt,Jai,i0,tyD,ss,Jbf,seqOf,gLone,Jtp]
 |[z]=>
  obtain⟨b,sh⟩:=Ji1 z;have i0:∀S:Store,idxD (.tup [.str w,.int z]) (.int 0) S=some (.str w):=λS=>itup at0 S;have i1:∀S:Store,idxD (.tup [.str w,.int z]) (.int 1) S=some (.int z):=λS=>itup at1 S;obtain⟨b0,hb0⟩:∃b,decide (w=Str.ofString "push")=b:=⟨_,rfl⟩
  obtain⟨b1,hb1⟩:∃b,decide (w∈place)=b:=⟨_,rfl⟩
  have c0:∀S:Store,cop .eq (.str w) (.str (Str.ofString "push")) S=some b0:=λS=>by rw[Jbc,hb0]
  have c1:∀S:Store,cop .inn (.str w) (.tup (place.map D.str)) S=some b1:=λS=>by rw[Jpq,hb1]
  refine⟨if b0 then b else b1&&(decide (0<=z)&&decide (z<=9)),λn S=>?_⟩;have tt:=Jas (n:=n+1) (S:=S) (ds:=[.str w,.int z]) (lo:=1) (hi:=2);rw[Jaa Jda rfl];cases b0
  ·cases b1
   ·simp[Jbw,rD,tt,Jai,i0,i1,tyD,ss,Jbf,seqOf,c0,gPlace,c1]
   ·simp[Jbw,rD,tt,Jai,i0,i1,tyD,ss,Jbf,seqOf,c0,gPlace,c1,Jh7,Jbp]
  ·simp[Jbw,rD,tt,Jai,i0,i1,tyD,ss,Jbf,seqOf,c0,sh]
 |x::y::l=>
  refine⟨false,λn S=>?_⟩;have tt:=Jas (n:=n+1) (S:=S) (ds:=.str w::D.int x::D.int y::l.map D.int) (lo:=1) (hi:=2);rw[show(decide ((1:Int)<=((D.str w::D.int x::D.int y::l.map D.int).length:Nat))&&decide ((((D.str w::D.int x::D.int y::l.map D.int).length:Nat):Int)<=2))=false by simp;omega]at tt;rw[Jaa Jda rfl];simp[Jbw,rD,tt]
theorem ix0'{x:D}{ds:List D}:Jai (.tup (x::ds)) (.int 0) S=.ok x S:=Jpj at0
theorem Jhn{i j:Int}:cop .gt (.int i) (.int j) S=some (decide (j<i)):=rfl
noncomputable def wd(d:D):PySem.Str:=match d with
 |.tup (.str w::_)=>w
 |_=>""
noncomputable def stp(w:PySem.Str)(st:List Bool):Option (List Bool):=
 if w="if" then(if st.length<5 then some (st++[false])else none)
 else if w="else" then(match st.getLast? with|some false=>some (st.dropLast++[true])|_=>none)
 else if w="end" then(if st.isEmpty then none else some st.dropLast)
 else some st
noncomputable def fold(rows:List D):Option (List Bool):=rows.foldl (λo r=>o.bind (stp (wd r))) (some [])
noncomputable def fitB(rows:List D):Bool:=match fold rows with
 |some st=>st.isEmpty
 |none=>false
theorem Jhk(rows:List D)(r:D):fold (rows++[r])=(fold rows).bind (stp (wd r)):=by simp[fold]
theorem Jhl:∀(rest rows:List D),fold rows=none->fold (rows++rest)=none
 |[],rows,h=>by simpa using h
 |r::rest,rows,h=>by
  rw[show rows++r::rest=(rows++[r])++rest by simp];exact Jhl rest _ (by rw[Jhk,h];rfl)
noncomputable def isRow(d:D):Prop:=∃w ds,d=.tup (.str w::ds)
noncomputable def IFit(rows:List D)(S0:Store)(i:Nat)(τ:En)(S:Store):Prop:=∃st u,τ=[some (.tup rows),some (.loc S0.length),u]/\fold (rows.take i)=some st/\st.length<=5/\S[S0.length]? =some (.lst (st.map D.bl))/\Keep [] S0 S
noncomputable def RFit(rows:List D)(S0:Store)(d:D)(S:Store):Prop:=d=.bl false/\fitB rows=false/\Keep [] S0 S
theorem Jjm{S S1:Store}{l:Nat}{o:Mi.Obj}(k:Keep [] S S1)(h:S.length<=l):Keep [] S (S1.set l o):=
 ⟨by simp;exact k.1,λq hq hn=>by rw[List.getElem?_set_ne (by omega)];exact k.2 q hq hn⟩
theorem Jk2{l:Nat}{ds:List D}{b:Bool}(h:S[l]? =some (.lst (ds++[.bl b]))):Jrj (.loc l) (.int (-1)) S=.ok b S:=by simp only[Jrj,Jar h atI_last];rfl
theorem Jx2{rows:List D}(h:∀r∈rows,isRow r):Sat (callN T G 100 (n+1) "ifs_fit" [.tup rows] S) (λr S'=>r=.bl (fitB rows)/\Keep [] S S'):=by
 rw[Jaa Jfu rfl];simp[Jdz,Line]
 (first|(with_reducible refine Sat.p10 (loop (IFit rows S) noB (RFit rows S) ?_ ?_) ?_)|(with_reducible refine Sat.p9 (loop (IFit rows S) noB (RFit rows S) ?_ ?_) ?_)|(with_reducible refine Sat.p8 (loop (IFit rows S) noB (RFit rows S) ?_ ?_) ?_)|(with_reducible refine Sat.p7 (loop (IFit rows S) noB (RFit rows S) ?_ ?_) ?_)|(with_reducible refine Sat.p6 (loop (IFit rows S) noB (RFit rows S) ?_ ?_) ?_)|(with_reducible refine Sat.p5 (loop (IFit rows S) noB (RFit rows S) ?_ ?_) ?_)|(with_reducible refine Sat.p4 (loop (IFit rows S) noB (RFit rows S) ?_ ?_) ?_)|(with_reducible refine Sat.p3 (loop (IFit rows S) noB (RFit rows S) ?_ ?_) ?_)|(with_reducible refine Sat.p2 (loop (IFit rows S) noB (RFit rows S) ?_ ?_) ?_)|(with_reducible refine Sat.p1 (loop (IFit rows S) noB (RFit rows S) ?_ ?_) ?_)|(with_reducible refine Sat.p0 (loop (IFit rows S) noB (RFit rows S) ?_ ?_) ?_))
 ·exact⟨[],none,rfl,rfl,by simp,Jac,Keep.new _⟩
 ·rintro i d _ S1 hd ⟨st,u,rfl,hf,hl,hS,k1⟩;obtain⟨w,ds,rfl⟩:=h d (List.mem_of_getElem? hd);have hsn:fold (rows.take (i+1))=stp w st:=by
   rw[List.take_add_one,hd,Option.toList_some,Jhk,hf];rfl
  have hno:stp w st=none->fitB rows=false:=λz=>by
   have e:=Jhl (rows.drop (i+1)) _ (hsn.trans z);rw[List.take_append_drop]at e;simp only[fitB,e]
  by_cases c1:w=Str.ofString "if"
  ·have ap:=Jca (d:=.bl false) hS (by rw[List.length_map];show _<16777216;omega);have h2:(S1.set S.length (.lst (st.map D.bl++[.bl false])))[S.length]? =some (.lst (st.map D.bl++[.bl false])):=Jdk hS;obtain⟨Z,hZ⟩:∃Z:Int,(((st.map D.bl++[D.bl false]).length:Nat):Int)=Z:=⟨_,rfl⟩
   have zl:Z=st.length+1:=by rw[<-hZ];simp
   have ln:primD .len [.loc S.length] (S1.set S.length (.lst (st.map D.bl++[.bl false])))=.ok (.int Z) (S1.set S.length (.lst (st.map D.bl++[.bl false]))):=by rw[Jat h2,hZ]
   have es:stp w st=if st.length<5 then some (st++[false])else none:=by rw[stp,if_pos c1]
   by_cases c5:st.length<5
   ·have q5:¬(5:Int)<Z:=by omega
    rw[if_pos c5]at es;simp[turnF,ix0',c1,Jic hS,ap,ln,Jan,Jhn,q5];exact⟨st++[false],_,rfl,hsn.trans es,by simp;omega,by rw[h2];simp,Jjm k1 (Nat.le_refl _)⟩
   ·have q5:(5:Int)<Z:=by omega
    rw[if_neg c5]at es;simp[turnF,ix0',c1,Jic hS,ap,ln,Jan,Jhn,q5];exact⟨rfl,hno es,Jjm k1 (Nat.le_refl _)⟩
  ·by_cases c2:w=Str.ofString "else"
   ·have es:stp w st=(match st.getLast? with|some false=>some (st.dropLast++[true])|_=>none):=by rw[stp,if_neg c1,if_pos c2]
    rcases List.eq_nil_or_concat st with rfl|⟨st',b,rfl⟩
    ·simp[turnF,ix0',c1,c2,Jb8 hS];exact⟨rfl,hno es,k1⟩
    ·rw[List.concat_eq_append]at*;have hS':S1[S.length]? =some (.lst (st'.map D.bl++[.bl b])):=by rw[hS];simp
     have il:=Jk2 hS';cases b with
     |true=>
      simp[turnF,ix0',c1,c2,Jb8 hS',il];exact⟨rfl,hno (by rw[es];simp),k1⟩
     |false=>
      have sl:=Joe (e:=.bl true) hS';have h2:(S1.set S.length (.lst (st'.map D.bl++[.bl true])))[S.length]? =some (.lst (st'.map D.bl++[.bl true])):=Jdk hS';obtain⟨Z,hZ⟩:∃Z:Int,(((st'.map D.bl++[D.bl true]).length:Nat):Int)=Z:=⟨_,rfl⟩
      have zl:Z=st'.length+1:=by rw[<-hZ];simp
      have ln:primD .len [.loc S.length] (S1.set S.length (.lst (st'.map D.bl++[.bl true])))=.ok (.int Z) (S1.set S.length (.lst (st'.map D.bl++[.bl true]))):=by rw[Jat h2,hZ]
      have q5:¬(5:Int)<Z:=by simp at hl;omega
      simp[turnF,ix0',c1,c2,Jb8 hS',il,sl,ln,Jan,Jhn,q5];exact⟨st'++[true],_,rfl,hsn.trans (by rw[es];simp),by simpa using hl,by rw[h2];simp,Jjm k1 (Nat.le_refl _)⟩
   ·by_cases c3:w=Str.ofString "end"
    ·have es:stp w st=(if st.isEmpty then none else some st.dropLast):=by rw[stp,if_neg c1,if_neg c2,if_pos c3]
     rcases List.eq_nil_or_concat st with rfl|⟨st',b,rfl⟩
     ·simp[turnF,ix0',c1,c2,c3,Jb8 hS];exact⟨rfl,hno es,k1⟩
     ·rw[List.concat_eq_append]at*;have hS':S1[S.length]? =some (.lst (st'.map D.bl++[.bl b])):=by rw[hS];simp
      have mp:=Jpa hS';have h2:(S1.set S.length (.lst (st'.map D.bl)))[S.length]? =some (.lst (st'.map D.bl)):=Jdk hS';obtain⟨Z,hZ⟩:∃Z:Int,(((st'.map D.bl).length:Nat):Int)=Z:=⟨_,rfl⟩
      have zl:Z=st'.length:=by rw[<-hZ];simp
      have ln:primD .len [.loc S.length] (S1.set S.length (.lst (st'.map D.bl)))=.ok (.int Z) (S1.set S.length (.lst (st'.map D.bl))):=by rw[Jat h2,hZ]
      have q5:¬(5:Int)<Z:=by simp at hl;omega
      simp[turnF,ix0',c1,c2,c3,Jb8 hS',Jic hS',mp,ln,Jan,Jhn,q5];exact⟨st',_,rfl,hsn.trans (by rw[es];simp),by simp at hl;omega,h2,Jjm k1 (Nat.le_refl _)⟩
    ·have es:stp w st=some st:=by rw[stp,if_neg c1,if_neg c2,if_neg c3]
     obtain⟨Z,hZ⟩:∃Z:Int,(((st.map D.bl).length:Nat):Int)=Z:=⟨_,rfl⟩
     have zl:Z=st.length:=by rw[<-hZ];simp
     have ln:primD .len [.loc S.length] S1=.ok (.int Z) S1:=by rw[Jat hS,hZ]
     have q5:¬(5:Int)<Z:=by omega
     simp[turnF,ix0',c1,c2,c3,ln,Jan,Jhn,q5];exact⟨st,_,rfl,hsn.trans es,hl,hS,k1⟩
 intro fl S1 q;rcases q.nr with⟨_,rfl,st,u,rfl,hf,hl,hS,k1⟩|⟨d,rfl,rfl,hf,k1⟩
 ·rw[List.take_length]at hf;have e:fitB rows=st.isEmpty:=by simp only[fitB,hf]
  simp[Jb8 hS,e];exact k1
 ·simp[hf];exact k1
end
end K66
namespace K66
open PySem L2 Mi Tx PySem.NumText PySem.W.KIN
section
variable {n:Nat} {S:Store}
theorem Jx3(L:List Rw):Jb 1 "ifs_fit" (lkD L):=⟨fitB (L.map rD),λn S=>by
 obtain⟨_,S1,e,rfl,k⟩:=Jx2 (n:=n) (S:=S) (rows:=L.map rD) λr hr=>by
  obtain⟨q,_,rfl⟩:=List.mem_map.mp hr;exact⟨_,_,rfl⟩
 exact⟨S1,e,(Ext.refl _).keep k (by simp)⟩⟩
theorem Jgs:∀bs:List Bool,allB (bs.map D.bl)=some (bs.all id)
 |[]=>rfl
 |b::r=>by rw[List.map_cons,allB,Jgs r];rfl
theorem Jrf{α:Type}{f:String}{k:Nat}{enc:α->D}{all:List α}(h:∀a∈all,Jb k f (enc a))(hl:all.length<=3000):∃bs:List Bool,∀(n:Nat) (τ:En) (S:Store),∃S1,kComp (Cn T G 100 (n+k)) 1 [] (.tvar 0) .nul (.call f (.cns (.var 0) .nul)) τ (none,all.map enc) S=.ok (.loc S1.length) (S1++[.lst (bs.map D.bl)])/\Ext S S1:=by
 have hb:∃g:α->Bool,∀a∈all,Say k f (enc a) (.bl (g a)):=by
  classical
  refine⟨λa=>decide (Say k f (enc a) (.bl true)),λa z=>?_⟩;show Say k f (enc a) (.bl (decide (Say k f (enc a) (.bl true))))
  by_cases c:Say k f (enc a) (.bl true)
  ·rw[decide_eq_true c];exact c
  ·rw[decide_eq_false c];obtain⟨b,q⟩:=h a z;cases b
   ·exact q
   ·exact absurd q c
 obtain⟨g,hg⟩:=hb;refine⟨all.map g,λn τ S=>?_⟩;obtain⟨S1,e,x⟩:=kCompY (n:=n) (S:=S) (τ:=τ) (out:=λa=>.bl (g a)) hg hl;exact⟨S1,by rw[e,List.map_map];rfl,x⟩
theorem Jh5{α:Type}{f:String}{k:Nat}{enc:α->D}{all:List α}(h:∀a∈all,Jb k f (enc a))(hl:all.length<=3000):∃b,∀(n:Nat) (τ:En) (S:Store),∃S1 S2:Store,kComp (Cn T G 100 (n+k)) 1 [] (.tvar 0) .nul (.call f (.cns (.var 0) .nul)) τ (none,all.map enc) S=.ok (.loc S1.length) S2/\primD .all1 [.loc S1.length] S2=.ok (.bl b) S2/\Ext S S2:=by
 obtain⟨bs,q⟩:=Jrf h hl;refine⟨bs.all id,λn τ S=>?_⟩;obtain⟨S1,e,x⟩:=q n τ S;refine⟨S1,_,e,?_,x.more _⟩;rw[Jcn];simp only[seqOf,Jad Jac,Jgs]
theorem Jyt{α:Type}{f:String}{k:Nat}{enc:α->D}{all:List α}(h:∀a∈all,Jb k f (enc a))(hl:all.length<=3000):∃b,∀(n:Nat) (τ:En) (S:Store),∃S1 S2:Store,kComp (Cn T G 100 (n+k)) 1 [] (.tvar 0) .nul (.call f (.cns (.var 0) .nul)) τ (none,all.map enc) S=.ok (.loc S1.length) S2/\primD .any1 [.loc S1.length] S2=.ok (.bl b) S2/\Ext S S2:=by
 obtain⟨bs,q⟩:=Jrf h hl;refine⟨(bs.map D.bl).any isT,λn τ S=>?_⟩;obtain⟨S1,e,x⟩:=q n τ S;refine⟨S1,_,e,?_,x.more _⟩;rw[Jg4];simp only[seqOf,Jad Jac,Jgs]
theorem Jmr(L:List Rw)(hl:L.length<=3000):Jb 4 "is_lock" (lkD L):=by
 obtain⟨b1,h1⟩:=Jh5 (f:="is_row") (k:=3) (enc:=rD) (all:=L) (λr _=>(Jvi r).jb) hl;obtain⟨b2,h2⟩:=Jx3 L;obtain⟨b0,hb0⟩:∃b,(decide ((0:Int)<=((L.map rD).length:Nat))&&decide ((((L.map rD).length:Nat):Int)<=30))=b:=⟨_,rfl⟩
 refine⟨b0&&(b1&&b2),λn S=>?_⟩;have t:=Jas (n:=n+2) (S:=S) (ds:=L.map rD) (lo:=0) (hi:=30);rw[hb0]at t;rw[Jaa Jfr rfl];obtain⟨S1,S2,e1,a1,x2⟩:=h1 n [some (lkD L)] S;obtain⟨S3,e3,x3⟩:=h2 (n+2) S2;unfold lkD at*;generalize L.map rD=ds at*;cases b0
 ·simp[Jb3,t,Jdq];exact .refl _
 ·cases b1
  ·simp[Jb3,t,Jdq,seqOf,e1,a1];exact x2
  ·simp[Jb3,t,Jdq,seqOf,e1,a1,e3];exact x2.trans x3
theorem Jtm(ks:List Int)(hl:ks.length<=3000):Jb 3 "are_keys" (.tup (ks.map D.int)):=by
 obtain⟨b1,h1⟩:=Jh5 (f:="is_short") (k:=2) (enc:=D.int) (all:=ks) (λr _=>(Ji1 r).jb) hl;obtain⟨b0,hb0⟩:∃b,(decide ((0:Int)<=((ks.map D.int).length:Nat))&&decide ((((ks.map D.int).length:Nat):Int)<=10))=b:=⟨_,rfl⟩
 refine⟨b0&&b1,λn S=>?_⟩;have t:=Jas (n:=n+1) (S:=S) (ds:=ks.map D.int) (lo:=0) (hi:=10);rw[hb0]at t;rw[Jaa Jet rfl];obtain⟨S1,S2,e1,a1,x2⟩:=h1 n [some (.tup (ks.map D.int))] S;generalize ks.map D.int=ds at*;cases b0
 ·simp[Jb6,t,Jfx];exact .refl _
 ·simp[Jb6,t,Jfx,seqOf,e1,a1];exact x2
theorem Jty(c:Int×Int):Jb 3 "is_coin" (cD c):=by
 obtain⟨B,p3⟩:=Jsz (S:=[]);refine⟨[c.1,c.2].all λz=>decide (0<=z)&&decide (z<=B),λn S=>?_⟩;have t:=Jas (n:=n+1) (S:=S) (ds:=[.int c.1,.int c.2]) (lo:=2) (hi:=2);have kc:=Jdw (C:=Cn T G 100 (n+2)) (k:=1) (keep:=[]) (tg:=.tvar 0) (cd:=.nul) (el:=.call "is_within" (.cns (.var 0) (.cns (.cst (.int 0)) (.cns (.bin .pow (.cst (.int 10)) (.cst (.int 30))) .nul)))) (τ:=[some (cD c)]) (S:=S) (g:=none) (xs:=[c.1,c.2]) D.int (λz=>.bl (decide (0<=z)&&decide (z<=B))) (by simp) (.inl rfl) (λz hz=>by
  simp[turnC,inEn,p3,Jbp])
 rw[Jaa Jft rfl];have al:primD .all1 [.loc S.length] (S++[.lst ([c.1,c.2].map λz=>.bl (decide (0<=z)&&decide (z<=B)))])=.ok (.bl ([c.1,c.2].all λz=>decide (0<=z)&&decide (z<=B))) (S++[.lst ([c.1,c.2].map λz=>.bl (decide (0<=z)&&decide (z<=B)))]):=by
  rw[Jcn];simp only[seqOf,Jad Jac];rw[Jgr]
 have x1:=Ext.new S [Mi.Obj.lst ([c.1,c.2].map λz=>D.bl (decide (0<=z)&&decide (z<=B)))];unfold cD at*;simp only[List.map_cons,List.map_nil]at kc;generalize[c.1,c.2].all (λz=>decide (0<=z)&&decide (z<=B))=bb at*;simp only[List.map_cons,List.map_nil]at al x1;generalize S++[Mi.Obj.lst [D.bl (decide (0<=c.1)&&decide (c.1<=B)),D.bl (decide (0<=c.2)&&decide (c.2<=B))]]=S2 at*;simp[Jdy,t,seqOf,kc,al];exact x1
theorem Jzr(i:In1)(hl:i.2.length<=3000):Jb 4 "is_in" (iD i):=by
 obtain⟨b1,h1⟩:=Jty i.1;obtain⟨b2,h2⟩:=Jtm i.2 hl;refine⟨b1&&b2,λn S=>?_⟩;have t:=Jas (n:=n+2) (S:=S) (ds:=[cD i.1,.tup (i.2.map D.int)]) (lo:=2) (hi:=2);obtain⟨S1,e1,x1⟩:=h1 n S;obtain⟨S2,e2,x2⟩:=h2 n S1;rw[Jaa Jh6 rfl];unfold iD;cases b1
 ·simp[Jfm,t,Jai,itup at0,itup at1,e1];exact x1
 ·simp[Jfm,t,Jai,itup at0,itup at1,e1,e2];exact x1.trans x2
theorem Jxs(is:List In1)(hl:is.length<=3000)(h:∀i∈is,i.2.length<=3000):Jb 5 "are_ins" (.tup (is.map iD)):=by
 obtain⟨b1,h1⟩:=Jh5 (f:="is_in") (k:=4) (enc:=iD) (all:=is) (λr hr=>Jzr r (h r hr)) hl;obtain⟨b0,hb0⟩:∃b,(decide ((0:Int)<=((is.map iD).length:Nat))&&decide ((((is.map iD).length:Nat):Int)<=8))=b:=⟨_,rfl⟩
 refine⟨b0&&b1,λn S=>?_⟩;have t:=Jas (n:=n+3) (S:=S) (ds:=is.map iD) (lo:=0) (hi:=8);rw[hb0]at t;rw[Jaa Jfv rfl];obtain⟨S1,S2,e1,a1,x2⟩:=h1 n [some (.tup (is.map iD))] S;generalize is.map iD=ds at*;cases b0
 ·simp[Jcr,t,Jf4];exact .refl _
 ·simp[Jcr,t,Jf4,seqOf,e1,a1];exact x2
theorem Jww(o:Out1)(hl:o.2.length<=3000):Jb 5 "is_out" (oD o):=by
 obtain⟨B,p4⟩:=Jzc (S:=[]);obtain⟨b2,h2⟩:=Jmr o.2 hl;obtain⟨b1,hb1⟩:∃b,(decide ((1:Int)<=o.1)&&decide (o.1<=B))=b:=⟨_,rfl⟩
 refine⟨b1&&b2,λn S=>?_⟩;have t:=Jas (n:=n+3) (S:=S) (ds:=[.int o.1,lkD o.2]) (lo:=2) (hi:=2);have w:=Jbp (n:=n+2) (S:=S) (z:=o.1) (lo:=1) (hi:=B);rw[hb1]at w;obtain⟨S2,e2,x2⟩:=h2 n S;rw[Jaa Jf3 rfl];unfold oD;cases b1
 ·simp[Jdx,t,Jai,itup at0,itup at1,p4,w];exact .refl _
 ·simp[Jdx,t,Jai,itup at0,itup at1,p4,w,e2];exact x2
theorem Jta(os:List Out1)(hl:os.length<=3000)(h:∀o∈os,o.2.length<=3000):Jb 6 "are_outs" (.tup (os.map oD)):=by
 obtain⟨b1,h1⟩:=Jh5 (f:="is_out") (k:=5) (enc:=oD) (all:=os) (λr hr=>Jww r (h r hr)) hl;obtain⟨b0,hb0⟩:∃b,(decide ((1:Int)<=((os.map oD).length:Nat))&&decide ((((os.map oD).length:Nat):Int)<=8))=b:=⟨_,rfl⟩
 refine⟨b0&&b1,λn S=>?_⟩;have t:=Jas (n:=n+4) (S:=S) (ds:=os.map oD) (lo:=1) (hi:=8);rw[hb0]at t;rw[Jaa Jes rfl];obtain⟨S1,S2,e1,a1,x2⟩:=h1 n [some (.tup (os.map oD))] S;generalize os.map oD=ds at*;cases b0
 ·simp[Jb5,t,Jfw];exact .refl _
 ·simp[Jb5,t,Jfw,seqOf,e1,a1];exact x2
noncomputable def Sz(d:De):Prop:=d.2.1.length<=3000/\(∀i∈d.2.1,i.2.length<=3000)/\d.2.2.length<=3000/\∀o∈d.2.2,o.2.length<=3000
theorem Jno(d:De)(h:Sz d):Jb 7 "is_deed" (dD d):=by
 obtain⟨B,p3⟩:=Jsz (S:=[]);obtain⟨b2,h2⟩:=Jxs d.2.1 h.1 h.2.1;obtain⟨b3,h3⟩:=Jta d.2.2 h.2.2.1 h.2.2.2;obtain⟨b1,hb1⟩:∃b,(decide ((1:Int)<=d.1)&&decide (d.1<=B))=b:=⟨_,rfl⟩
 refine⟨b1&&(b2&&b3),λn S=>?_⟩;have t:=Jas (n:=n+5) (S:=S) (ds:=[.int d.1,.tup (d.2.1.map iD),.tup (d.2.2.map oD)]) (lo:=3) (hi:=3);have w:=Jbp (n:=n+4) (S:=S) (z:=d.1) (lo:=1) (hi:=B);rw[hb1]at w;obtain⟨S2,e2,x2⟩:=h2 (n+1) S;obtain⟨S3,e3,x3⟩:=h3 n S2;rw[Jaa Jfs rfl];have i2:∀S:Store,idxD (.tup [.int d.1,.tup (d.2.1.map iD),.tup (d.2.2.map oD)]) (.int 2) S=some (.tup (d.2.2.map oD)):=λS=>itup rfl S;unfold dD;generalize d.2.1.map iD=da at*;generalize d.2.2.map oD=db at*;cases b1
 ·simp[Jb4,t,Jai,itup at0,itup at1,p3,w];exact .refl _
 ·cases b2
  ·simp[Jb4,t,Jai,itup at0,itup at1,p3,w,e2];exact x2
  ·simp[Jb4,t,Jai,itup at0,itup at1,i2,p3,w,e2,e3];exact x2.trans x3
end
end K66
namespace K66
open PySem L2 Mi Tx PySem.NumText PySem.W.KIN
section
variable {n:Nat} {S:Store}
theorem Jjk(d:De):Js 1 "is_maker" (dD d):=by
 obtain⟨Z,hZ⟩:∃Z:Int,(((d.2.1.map iD).length:Nat):Int)=Z:=⟨_,rfl⟩
 refine⟨decide (Z=0),λn S=>?_⟩;have ln:∀S:Store,primD .len [.tup (d.2.1.map iD)] S=.ok (.int Z) S:=λS=>by rw[Jbf];simp only[seqOf,hZ]
 rw[Jaa Jeq rfl];unfold dD;generalize d.2.1.map iD=da at*;simp[Jc5,Jai,itup at1,ln]
theorem Jpx(ds:List De)(hl:ds.length<=3000)(h:∀d∈ds,Sz d):Jb 8 "are_deeds" (.tup (ds.map dD)):=by
 obtain⟨b1,h1⟩:=Jh5 (f:="is_deed") (k:=7) (enc:=dD) (all:=ds) (λr hr=>Jno r (h r hr)) hl;obtain⟨b0,hb0⟩:∃b,(decide ((1:Int)<=((ds.map dD).length:Nat))&&decide ((((ds.map dD).length:Nat):Int)<=12))=b:=⟨_,rfl⟩
 cases ds with
 |nil=>
  refine⟨false,λn S=>?_⟩;have t:=Jas (n:=n+6) (S:=S) (ds:=[]) (lo:=1) (hi:=12);rw[Jaa Jcl rfl];simp[Jav,t,Jbi];exact .refl _
 |cons d ds=>
  obtain⟨b2,h2⟩:=Jjk d;obtain⟨b3,h3⟩:=Jyt (f:="is_maker") (k:=1) (enc:=dD) (all:=ds) (λr _=>(Jjk r).jb) (by simp at hl;omega);refine⟨b0&&(b1&&(b2&& !b3)),λn S=>?_⟩;have t:=Jas (n:=n+6) (S:=S) (ds:=(d::ds).map dD) (lo:=1) (hi:=12);rw[hb0]at t;rw[Jaa Jcl rfl];obtain⟨S1,S2,e1,a1,x2⟩:=h1 n [some (.tup ((d::ds).map dD))] S;obtain⟨S3,S4,e3,a3,x4⟩:=h3 (n+6) [some (.tup ((d::ds).map dD))] S2;simp only[List.map_cons]at t e1 e3 ⊢;generalize ds.map dD=da at*;generalize dD d=d0 at*;cases b0
  ·simp[Jav,t,Jbi];exact .refl _
  ·cases b1
   ·simp[Jav,t,Jbi,seqOf,e1,a1,tru];exact x2
   ·cases b2
    ·simp[Jav,t,Jbi,seqOf,e1,a1,tru,Jai,itup at0,h2];exact x2
    ·simp[Jav,t,Jbi,seqOf,e1,a1,tru,Jai,itup at0,h2,Jqc,e3,a3];exact x2.trans x4
theorem Jp4(b:Bl)(hl:b.2.length<=3000)(h:∀d∈b.2,Sz d):Jb 9 "is_block" (blD b):=by
 obtain⟨B,p3⟩:=Jsz (S:=[]);obtain⟨b3,h3⟩:=Jpx b.2 hl h;obtain⟨b0,hb0⟩:∃z,(decide ((1:Int)<=b.1.1)&&decide (b.1.1<=B))=z:=⟨_,rfl⟩
 obtain⟨b1,hb1⟩:∃z,(decide ((0:Int)<=b.1.2.1)&&decide (b.1.2.1<=B))=z:=⟨_,rfl⟩
 obtain⟨b2,hb2⟩:∃z,(decide ((1:Int)<=b.1.2.2)&&decide (b.1.2.2<=B))=z:=⟨_,rfl⟩
 refine⟨b0&&(b1&&(b2&&b3)),λn S=>?_⟩;have t:=Jas (n:=n+7) (S:=S) (ds:=[.int b.1.1,.int b.1.2.1,.int b.1.2.2,.tup (b.2.map dD)]) (lo:=4) (hi:=4);have w0:=Jbp (n:=n+6) (S:=S) (z:=b.1.1) (lo:=1) (hi:=B);have w1:=Jbp (n:=n+6) (S:=S) (z:=b.1.2.1) (lo:=0) (hi:=B);have w2:=Jbp (n:=n+6) (S:=S) (z:=b.1.2.2) (lo:=1) (hi:=B);rw[hb0]at w0;rw[hb1]at w1;rw[hb2]at w2;obtain⟨S3,e3,x3⟩:=h3 n S;have ix:∀S:Store,idxD (blD b) (.int 0) S=some (.int b.1.1)/\idxD (blD b) (.int 1) S=some (.int b.1.2.1)/\idxD (blD b) (.int 2) S=some (.int b.1.2.2)/\idxD (blD b) (.int 3) S=some (.tup (b.2.map dD)):=λS=>⟨itup rfl S,itup rfl S,itup rfl S,itup rfl S⟩
 rw[show D.tup [.int b.1.1,.int b.1.2.1,.int b.1.2.2,.tup (b.2.map dD)]=blD b from rfl]at t;rw[Jaa Jer rfl];generalize blD b=X at*;generalize b.2.map dD=da at*;have i0:=λS=>(ix S).1;have i1:=λS=>(ix S).2.1;have i2:=λS=>(ix S).2.2.1;have i3:=λS=>(ix S).2.2.2;cases b0
 ·simp[Jbb,t,Jai,i0,p3,w0,tru];exact .refl _
 ·cases b1
  ·simp[Jbb,t,Jai,i0,i1,p3,w0,w1,tru];exact .refl _
  ·cases b2
   ·simp[Jbb,t,Jai,i0,i1,i2,p3,w0,w1,w2,tru];exact .refl _
   ·simp[Jbb,t,Jai,i0,i1,i2,i3,p3,w0,w1,w2,e3,tru];exact x3
theorem Jjl{x:PySem.Str}{L:List Rw}(hx:(sg x).length<=2000)(h:lockO x=some L):L.length<=3000:=by
 unfold lockO at h;split at h
 ·cases h;simp
 ·rw[Je5 h];have:=Jam (y:=Str.ofString ", ") hx;omega
theorem Jnm{x:PySem.Str}{d:De}(hx:(sg x).length<=2000)(h:deedO x=some d):Sz d:=by
 obtain⟨hs,_,hi,ho⟩:=Jgm h;have ll:=Jam (y:=Str.ofString "; ") hx;rw[hs]at ll;simp only[List.length_cons,List.length_append,List.length_map]at ll;refine⟨by omega,λi h=>?_,by omega,λo h=>?_⟩
 ·obtain⟨y,hy,z,e⟩:=hi i h;obtain⟨c,ks,e1,_,rfl,_⟩:=Jm4 z e;have:=Jam (y:=Str.ofString " ") (Jau hx hy);rw[e1]at this;simp only[List.length_cons,List.length_map]at this;omega
 ·obtain⟨y,hy,e⟩:=ho o h;obtain⟨c,e1,e2,_⟩:=Jif e;refine Jjl ?_ e2;have:=PyProof.Rows.partMax_short (show c∈Txt.splitMax y (Str.ofString " ") 2 by rw[e1];simp);rw[Jap,Jap]at this;exact Nat.le_trans this (Jau hx hy)
theorem Jp2{x:PySem.Str}{b:Bl}(hx:(sg x).length<=2000)(h:blockO x=some b):b.2.length<=3000/\∀d∈b.2,Sz d:=by
 unfold blockO at h;split at h
 ·cases h
 rename_i p ps hs;split at h
 case h_2=>cases h
 split at h
 case isFalse=>cases h
 split at h
 case h_2=>cases h
 rename_i ds i j k h1 h2 h3 h4;cases h;have ll:=Jam (y:=Str.ofString " | ") hx;rw[hs,List.length_cons]at ll;refine⟨by rw[Je5 h1];omega,λd hd=>?_⟩;obtain⟨y,hy,e⟩:=Jc8 h1 d hd;exact Jnm (Jau hx (by rw[hs];simp[hy])) e
noncomputable def Pl:Nat->D->Prop
 |_,.int _=>True
 |_,.str _=>True
 |n+1,.tup ds=>∀d∈ds,Pl n d
 |_,_=>False
theorem Jjv{f:D->D->Option Bool}:∀{ds:List D},(∀d∈ds,f d d=some true)->eqL f ds ds=some true
 |[],_=>rfl
 |d::ds,h=>by
  have e:=Jjv (f:=f) (ds:=ds) λx hx=>h x (by simp[hx]);simp only[eqL,h d (by simp),e];rfl
theorem Jnf:∀(m:Nat) (d:D),Pl m d->eqD S m d d=some true
 |0,d,h=>by
  cases d<;>first|exact h.elim|simp[eqD,scalV,eqV]
 |m+1,d,h=>by
  cases d with
  |int i=>simp[eqD,scalV,eqV]
  |str i=>simp[eqD,scalV,eqV]
  |tup ds=>
   rw[eqD];simp only[if_true];exact Jjv λd hd=>Jnf m d (h d hd)
  |_=>exact h.elim
theorem Pl.up:∀{m:Nat} {d:D},Pl m d->Pl (m+1) d
 |0,d,h=>by cases d<;>first|trivial|exact h.elim
 |m+1,d,h=>by
  cases d<;>first|trivial|exact h.elim|exact λd hd=>(h d hd).up
theorem Jha{α:Type}{enc:α->D}{m:Nat}{as:List α}(h:∀a,Pl m (enc a)):Pl (m+1) (.tup (as.map enc)):=λd hd=>by
 obtain⟨a,_,rfl⟩:=List.mem_map.mp hd;exact h a
theorem Jwf(r:Rw):Pl 1 (rD r):=λd hd=>by
 rcases List.mem_cons.mp hd with rfl|hd
 ·trivial
 ·obtain⟨z,_,rfl⟩:=List.mem_map.mp hd;trivial
theorem Jl9(L:List Rw):Pl 2 (lkD L):=Jha Jwf
theorem Jzd(i:In1):Pl 2 (iD i):=λd hd=>by
 simp only[List.mem_cons,List.not_mem_nil,or_false]at hd;rcases hd with rfl|rfl
 ·intro d hd;simp only[List.mem_cons,List.not_mem_nil,or_false]at hd;rcases hd with rfl|rfl<;>trivial
 ·exact Jha λz=>trivial
theorem Jwg(o:Out1):Pl 3 (oD o):=λd hd=>by
 simp only[List.mem_cons,List.not_mem_nil,or_false]at hd;rcases hd with rfl|rfl
 ·trivial
 ·exact Jl9 _
theorem Jma(e:De):Pl 5 (dD e):=λd hd=>by
 simp only[List.mem_cons,List.not_mem_nil,or_false]at hd;rcases hd with rfl|rfl|rfl
 ·trivial
 ·exact(Jha Jzd).up
 ·exact Jha Jwg
theorem Jot(b:Bl):Pl 7 (blD b):=λd hd=>by
 simp only[List.mem_cons,List.not_mem_nil,or_false]at hd;rcases hd with rfl|rfl|rfl|rfl
 ·trivial
 ·trivial
 ·trivial
 ·exact Jha Jma
end
end K66
namespace K66
open PySem L2 Mi Tx PySem.NumText PySem.W.KIN
noncomputable def Rdr(k:Nat)(f c g:String)(x:PySem.Str):Prop:=
 (∃e,(e="NoText"\/e=c)/\∀(n:Nat) (S:Store),∃τ S',callN T G 100 (n+k) f [.str x] S=.err e τ S'/\Ext S S')\/∃ds,Say k f (.str x) (.tup ds)/\Say 5 g (.tup ds) (.str x)/\Pl 12 (.tup ds)
section
variable {n:Nat} {S:Store}
theorem read_lock{x:PySem.Str}(hx:(sg x).length<=2000):Rdr 11 "read_lock" "NoLock" "shown_lock" x:=by
 have fd:=Jms hx;cases h:lockO x with
 |none=>
  refine .inl ⟨"NoText",.inl rfl,λn S=>?_⟩;have o:=fd (n+5) S;rw[h]at o;obtain⟨τ,S1,e,x1⟩:=o;rw[Jaa Ja6 rfl];simp[Ja8,Ja1,e];exact⟨_,_,⟨rfl,rfl⟩,x1⟩
 |some L=>
  obtain⟨b,hb⟩:=Jmr L (Jjl hx h);cases b with
  |false=>
   refine .inl ⟨"NoLock",.inr rfl,λn S=>?_⟩;have o:=fd (n+5) S;rw[h]at o;obtain⟨S1,e,x1⟩:=o;obtain⟨S2,e2,x2⟩:=hb (n+6) S1;rw[Jaa Ja6 rfl];simp[Ja8,Ja1,e,e2];exact⟨_,_,⟨rfl,rfl⟩,x1.trans x2⟩
  |true=>
   refine .inr ⟨L.map rD,λn S=>?_,λn S=>Jmq hx h (n+3) S,(Jl9 L).up.up.up.up.up.up.up.up.up.up⟩;have o:=fd (n+5) S;rw[h]at o;obtain⟨S1,e,x1⟩:=o;obtain⟨S2,e2,x2⟩:=hb (n+6) S1;rw[Jaa Ja6 rfl];unfold lkD at e2 e;simp[Ja8,Ja1,e,e2,lkD];exact x1.trans x2
theorem read_deed{x:PySem.Str}(hx:(sg x).length<=2000):Rdr 11 "read_deed" "NoDeed" "shown_deed" x:=by
 have fd:=Jnp hx;cases h:deedO x with
 |none=>
  refine .inl ⟨"NoText",.inl rfl,λn S=>?_⟩;have o:=fd (n+3) S;rw[h]at o;obtain⟨τ,S1,e,x1⟩:=o;rw[Jaa Ja7 rfl];simp[Ja9,Ja1,e];exact⟨_,_,⟨rfl,rfl⟩,x1⟩
 |some d=>
  obtain⟨b,hb⟩:=Jno d (Jnm hx h);have ck:∀(n:Nat) (S:Store),∃S',callN T G 100 (n+8) "checked" [dD d] S=(if b then .ok (dD d) S' else .err "NoDeed" [some (dD d)] S')/\Ext S S':=λn S=>by
   obtain⟨S2,e2,x2⟩:=hb n S;refine⟨S2,?_,x2⟩;rw[Jaa Jdp rfl];cases b<;>simp[Jd0,e2]
  cases b with
  |false=>
   refine .inl ⟨"NoDeed",.inr rfl,λn S=>?_⟩;have o:=fd (n+3) S;rw[h]at o;obtain⟨S1,e,x1⟩:=o;obtain⟨S2,e2,x2⟩:=ck (n+2) S1;rw[Jaa Ja7 rfl];simp[Ja9,Ja1,e,e2];exact⟨_,_,⟨rfl,rfl⟩,x1.trans x2⟩
  |true=>
   refine .inr ⟨_,λn S=>?_,λn S=>Jnn hx h (n+1) S,(Jma d).up.up.up.up.up.up.up⟩;have o:=fd (n+3) S;rw[h]at o;obtain⟨S1,e,x1⟩:=o;obtain⟨S2,e2,x2⟩:=ck (n+2) S1;rw[Jaa Ja7 rfl];refine⟨S2,?_,x1.trans x2⟩;show _=Res.ok (dD d) S2;simp[Ja9,Ja1,e,e2]
theorem read_block{x:PySem.Str}(hx:(sg x).length<=2000):Rdr 11 "read_block" "NoBlock" "shown_block" x:=by
 have fd:=Jp5 hx;cases h:blockO x with
 |none=>
  refine .inl ⟨"NoText",.inl rfl,λn S=>?_⟩;have o:=fd (n+2) S;rw[h]at o;obtain⟨τ,S1,e,x1⟩:=o;rw[Jaa Jax rfl];simp[Jay,Ja1,e];exact⟨_,_,⟨rfl,rfl⟩,x1⟩
 |some d=>
  obtain⟨s1,s2⟩:=Jp2 hx h;obtain⟨b,hb⟩:=Jp4 d s1 s2;have ck:∀(n:Nat) (S:Store),∃S',callN T G 100 (n+10) "checked_block" [blD d] S=(if b then .ok (blD d) S' else .err "NoBlock" [some (blD d)] S')/\Ext S S':=λn S=>by
   obtain⟨S2,e2,x2⟩:=hb n S;refine⟨S2,?_,x2⟩;rw[Jaa Jbd rfl];cases b<;>simp[Ja4,e2]
  cases b with
  |false=>
   refine .inl ⟨"NoBlock",.inr rfl,λn S=>?_⟩;have o:=fd (n+2) S;rw[h]at o;obtain⟨S1,e,x1⟩:=o;obtain⟨S2,e2,x2⟩:=ck n S1;rw[Jaa Jax rfl];simp[Jay,Ja1,e,e2];exact⟨_,_,⟨rfl,rfl⟩,x1.trans x2⟩
  |true=>
   refine .inr ⟨_,λn S=>?_,λn S=>Jp3 hx h n S,(Jot d).up.up.up.up.up⟩;have o:=fd (n+2) S;rw[h]at o;obtain⟨S1,e,x1⟩:=o;obtain⟨S2,e2,x2⟩:=ck n S1;rw[Jaa Jax rfl];refine⟨S2,?_,x1.trans x2⟩;show _=Res.ok (blD d) S2;simp[Jay,Ja1,e,e2]
noncomputable def own(w:Int):String:=if w=0 then "NoLock" else if w=1 then "NoDeed" else "NoBlock"
noncomputable def rdr(w:Int):String:=if w=0 then "read_lock" else if w=1 then "read_deed" else "read_block"
noncomputable def shw(w:Int):String:=if w=0 then "shown_lock" else if w=1 then "shown_deed" else "shown_block"
theorem Jgi{x:PySem.Str}{w:Int}:callN T G 100 (n+1) "_law_read" [.str x,.int w] S=(callN T G 100 n (rdr w) [.str x] S).at [some (.str x),some (.int w)]:=by
 rw[Jaa Jcu rfl];unfold rdr
 by_cases h0:w=0
 ·subst h0;simp[Jbo];cases callN T G 100 n "read_lock" [D.str x] S<;>simp[Res.at,Res.bind]
 ·by_cases h1:w=1
  ·subst h1;simp[Jbo];cases callN T G 100 n "read_deed" [D.str x] S<;>simp[Res.at,Res.bind]
  ·simp[Jbo,h0,h1];cases callN T G 100 n "read_block" [D.str x] S<;>simp[Res.at,Res.bind]
theorem Jmt{d:D}{w:Int}:callN T G 100 (n+1) "_law_shown" [d,.int w] S=(callN T G 100 n (shw w) [d] S):=by
 rw[Jaa Jd4 rfl];unfold shw
 by_cases h0:w=0
 ·subst h0;simp[Jba];cases callN T G 100 n "shown_lock" [d] S<;>simp[Res.bind]
 ·by_cases h1:w=1
  ·subst h1;simp[Jba];cases callN T G 100 n "shown_deed" [d] S<;>simp[Res.bind]
  ·simp[Jba,h0,h1];cases callN T G 100 n "shown_block" [d] S<;>simp[Res.bind]
theorem Jol{x:PySem.Str}{w:Int}(hx:(sg x).length<=2000):Rdr 11 (rdr w) (own w) (shw w) x:=by
 unfold rdr own shw
 by_cases h0:w=0
 ·rw[if_pos h0,if_pos h0,if_pos h0];exact read_lock hx
 ·rw[if_neg h0,if_neg h0,if_neg h0]
  by_cases h1:w=1
  ·rw[if_pos h1,if_pos h1,if_pos h1];exact read_deed hx
  ·rw[if_neg h1,if_neg h1,if_neg h1];exact read_block hx
theorem Jpt{l k:Nat}{as bs:List D}{b:Bool}(h1:S[l]? =some (.lst as))(h2:S[k]? =some (.lst bs))(h:(if as.length=bs.length then eqL (eqD S 11) as bs else some false)=some b):eqD S Deep (.loc l) (.loc k)=some b:=by
 show eqD S (11+1) _ _=_;rw[eqD];simp only[Jad h1,Jad h2];exact h
theorem Jpf{p q r o:Nat}{b:Bool}(h1:S[p]? =some (.lst [.bl b,.bl (!b)]))(h2:S[q]? =some (.lst [.bl true,.bl false]))(h3:S[r]? =some (.lst [.bl false,.bl true]))(h4:S[o]? =some (.lst [.loc q,.loc r])):cop .inn (.loc p) (.loc o) S=some true:=by
 have e1:eqD S Deep (.loc q) (.loc p)=some b:=Jpt h2 h1 (by cases b<;>rfl);have e2:eqD S Deep (.loc r) (.loc p)=some (!b):=Jpt h3 h1 (by cases b<;>rfl);simp only[cop,seqOf,Jad h4,anyEq,e1,e2];cases b<;>rfl
theorem Jtf{x:PySem.Str}{w:Int}{e:String}(hw:w=0\/w=1\/w=2)(he:e="NoText"\/e=own w)(h:∀(n:Nat) (S:Store),∃τ S',callN T G 100 (n+11) (rdr w) [.str x] S=.err e τ S'/\Ext S S'):∃S',callN T G 100 (n+13) "_law_one" [.str x,.int w] S=.ok (.bl true) S'/\Ext S S':=by
 obtain⟨τ,S1,e1,x1⟩:=h n (S++[.lst []]);have lr:=Jgi (n:=n+11) (S:=S++[.lst []]) (x:=x) (w:=w);rw[e1]at lr;obtain⟨b,hb,tb⟩:∃b:Bool,∃l:List Bool,([("NoBlock",[false,false,false,true]),("NoDeed",[false,false,true,false]),("NoLock",[false,true,false,false]),("NoText",[true,false,false,false])]:List (String×List Bool)).lookup e=some (b::l)/\atI l w=some (!b)/\(l.filter id).length<=1/\l.length=3:=by
  unfold own at he;rcases hw with rfl|rfl|rfl<;>rcases he with rfl|rfl<;>first|exact⟨true,[false,false,false],by decide+kernel⟩|exact⟨false,[true,false,false],by decide+kernel⟩|exact⟨false,[false,true,false],by decide+kernel⟩|exact⟨false,[false,false,true],by decide+kernel⟩
 obtain⟨tb,ta,tf,tl⟩:=tb;rw[Jaa Jdo rfl];have n1:cop .ne (.loc (S1.length+1)) (.loc (S1.length+2)) (S1++[.lst (hb.map D.bl),.lst [.bl b,.bl !b],.lst []])=some true:=by
  rw[cop,Jpt (as:=[.bl b,.bl !b]) (bs:=[]) (b:=false) (by simp) (by simp) rfl];rfl
 have n2:cop .inn (.loc (S1.length+1)) (.loc (S1.length+5)) (S1++[.lst (hb.map D.bl),.lst [.bl b,.bl !b],.lst [],.lst [.bl true,.bl false],.lst [.bl false,.bl true],.lst [.loc (S1.length+3),.loc (S1.length+4)]])=some true:=Jpf (b:=b) (q:=S1.length+3) (r:=S1.length+4) (by simp) (by simp) (by simp) (by simp);simp[Jcq,lr,Res.at,Line,trhD,tb,ta,tf,tl,n1,n2];exact((Ext.new _ _).trans x1).more _
theorem Jw4{x:PySem.Str}{w:Int}{ds:List D}(h:Say 11 (rdr w) (.str x) (.tup ds))(hs:Say 5 (shw w) (.tup ds) (.str x))(hp:Pl 12 (.tup ds)):∃S',callN T G 100 (n+13) "_law_one" [.str x,.int w] S=.ok (.bl true) S'/\Ext S S':=by
 obtain⟨S1,e1,x1⟩:=h n (S++[.lst []]);have lr:=Jgi (n:=n+11) (S:=S++[.lst []]) (x:=x) (w:=w);rw[e1,Res.at_ok]at lr;have g1:S1[S.length]? =some (.lst []):=x1.get Jac;obtain⟨S2,h2⟩:∃S2,S1++[Mi.Obj.lst []]=S2:=⟨_,rfl⟩
 have x2:Ext S1 S2:=⟨_,h2.symm⟩
 have g2:S2[S1.length]? =some (.lst []):=by rw[<-h2];exact Jac
 have n1:cop .ne (.loc S.length) (.loc S1.length) S2=some false:=by
  rw[cop,Jpt (b:=true) (x2.get g1) g2 rfl];rfl
 obtain⟨S3,e3,x3⟩:=hs (n+6) S2;have ls:=Jmt (n:=n+11) (S:=S2) (d:=.tup ds) (w:=w);rw[e3]at ls;obtain⟨S4,e4,x4⟩:=h n S3;have lq:=Jgi (n:=n+11) (S:=S3) (x:=x) (w:=w);rw[e4,Res.at_ok]at lq;have q1:cop .eq (.tup ds) (.tup ds) S4=some true:=Jnf 12 _ hp;have t1:isiD "tuple" "tuple"=true:=by decide
 have t2:isiD "str" "str"=true:=by decide
 rw[Jaa Jdo rfl];have ty:∀S:Store,tyD S (.tup ds)=some "tuple":=λ_=>rfl;have ty2:∀S:Store,tyD S (.str x)=some "str":=λ_=>rfl;have cx:∀S:Store,cop .eq (.str x) (.str x) S=some true:=λS=>by rw[Jbc];simp
 generalize D.tup ds=d at*;simp[Jcq,lr,Line,trhD,h2,n1,ty,t1,ls,ty2,t2,cx,lq,q1];exact(Ext.new _ _).trans (x1.trans (x2.trans (x3.trans x4)))
theorem Jq4{x:PySem.Str}{w:Int}(hx:(sg x).length<=2000)(hw:w=0\/w=1\/w=2):∃S',callN T G 100 (n+13) "_law_one" [.str x,.int w] S=.ok (.bl true) S'/\Ext S S':=by
 rcases Jol (w:=w) hx with⟨e,he,h⟩|⟨ds,h,hs,hp⟩
 ·exact Jtf hw he h
 ·exact Jw4 h hs hp
end
end K66
namespace K66
open PySem L2 Mi Tx PySem.NumText PySem.W.KIN
section
variable {n:Nat} {S:Store}
theorem Jp6{i j:Int}{S:Store}(h:0<j)(h':j.natAbs<2^4096):bop .fdiv (.int i) (.int j) S=.ok (.int (i/j)) S:=by rw[Jqq,if_pos ⟨h,h'⟩]
theorem Jir{i j:Int}{S:Store}(h:0<j):bop .mod (.int i) (.int j) S=.ok (.int (i%j)) S:=by rw[Jqp,if_pos h]
theorem Jt8{i j:Int}{S:Store}(h:small j=true):bop .mul (.int i) (.int j) S=.ok (.int (i*j)) S:=by rw[Jqr,h];simp
theorem Jiq{ns:List Int}{k:Int}(hk:0<=k):∃z:Int,∀(n:Nat) (S:Store),callN T G 100 (n+1) "_law_cell" [.kl (ns.map D.int),.int k] S=.ok (.int z) S:=by
 obtain⟨Z,hZ⟩:∃Z:Int,(((ns.map D.int).length:Nat):Int)=Z:=⟨_,rfl⟩
 have ln:∀S:Store,primD .len [.kl (ns.map D.int)] S=.ok (.int Z) S:=λS=>by rw[Jbf];simp only[seqOf,hZ]
 by_cases c:k<Z
 ·have hx:k.toNat<ns.length:=by rw[List.length_map]at hZ;omega
  have at':atI (ns.map D.int) k=some (.int (ns[k.toNat])):=by
   simp only[atI,ixN];rw[if_pos hk,if_pos (by rw[hZ];exact c)];simp[hx]
  have ix:∀S:Store,idxD (.kl (ns.map D.int)) (.int k) S=some (.int (ns[k.toNat])):=λS=>by simp only[idxD,seqOf,at']
  refine⟨ns[k.toNat],λn S=>?_⟩;rw[Jaa Jcv rfl];generalize D.kl (ns.map D.int)=X at*;simp[Jb2,ln,c,Jai,ix]
 ·refine⟨0,λn S=>?_⟩;rw[Jaa Jcv rfl];generalize D.kl (ns.map D.int)=X at*;simp[Jb2,ln,c]
noncomputable def mix(c:Int):Int:=(c%2147483647+11)*48271*69621%2147483629
theorem Jo9{c:Int}:callN T G 100 (n+1) "_law_mixed" [.int c] S=.ok (.int (mix c)) S:=by
 rw[Jaa Jd5 rfl];have m1:∀(i:Int) (S:Store),bop .mod (.int i) (.int 2147483647) S=.ok (.int (i%2147483647)) S:=λi S=>Jir (by decide);have m2:∀(i:Int) (S:Store),bop .mod (.int i) (.int 2147483629) S=.ok (.int (i%2147483629)) S:=λi S=>Jir (by decide);have m3:∀(i:Int) (S:Store),bop .mul (.int i) (.int 48271) S=.ok (.int (i*48271)) S:=λi S=>Jt8 (by decide);have m4:∀(i:Int) (S:Store),bop .mul (.int i) (.int 69621) S=.ok (.int (i*69621)) S:=λi S=>Jt8 (by decide);simp[Jcd,m1,m2,m3,m4,mix]
theorem Jt9{ts:List PySem.Str}{B:Nat}{i:Int}(h0:0<=i)(h1:i<ts.length)(hb:(ts.all λt=>decide ((sg t).length<=B))=true):∃x:PySem.Str,atI (ts.map D.str) i=some (.str x)/\(sg x).length<=B:=by
 have hx:i.toNat<ts.length:=by omega
 refine⟨ts[i.toNat],?_,?_⟩
 ·simp only[atI,ixN];rw[if_pos h0,if_pos (by rw[List.length_map];exact h1)];simp[hx]
 ·exact of_decide_eq_true (List.all_eq_true.mp hb _ (List.getElem_mem hx))
noncomputable def wds:List PySem.Str:=["push 5","same","copy 1","if","else","end","-","in 3.0","in 4.1 7","out 9 -","out 2 push 1","7","0","9 on 4 weight 3","8 on 0 weight 1","add","paid 0","not","1; out 1 -","2; in 1.0; out 1 -","x"]
noncomputable def jts:List PySem.Str:=[", ","; "," | "," ",",",".",""]
theorem Jks{z:Int}:∃x:PySem.Str,(sg x).length<=18/\Say 1 "_law_word" (.int z) (.str x):=by
 obtain⟨x,hx,hl⟩:=Jt9 (ts:=wds) (B:=18) (i:=z%21) (by omega) (by show _<(21:Int);omega) (by decide+kernel);refine⟨x,hl,λn S=>?_⟩;have m1:∀(i:Int) (S:Store),bop .mod (.int i) (.int 21) S=.ok (.int (i%21)) S:=λi S=>Jir (by decide);have c1:∀A B:List D,A.length+B.length<=16777216->bop .add (.loc S.length) (.loc (S.length+1)) (S++[.lst A,.lst B])=.ok (.loc (S.length+2)) (S++[.lst A,.lst B,.lst (A++B)]):=λA B h=>by
  rw[Jcs (a:=A) (b:=B) (by simp) (by simp) h];simp
 have c2:∀(X Y:Mi.Obj) (A B:List D),A.length+B.length<=16777216->bop .add (.loc (S.length+2)) (.loc (S.length+3)) (S++[X,Y,.lst A,.lst B])=.ok (.loc (S.length+4)) (S++[X,Y,.lst A,.lst B,.lst (A++B)]):=λX Y A B h=>by
  rw[Jcs (a:=A) (b:=B) (by simp) (by simp) h];simp
 have ix:∀X Y Z U:Mi.Obj,idxD (.loc (S.length+4)) (.int (z%21)) (S++[X,Y,Z,U,.lst (wds.map D.str)])=some (.str x):=λX Y Z U=>Jar (by simp) hx;simp only[wds,List.map_cons,List.map_nil]at ix;rw[Jaa Jem rfl];simp[Jc1,Line,c1,c2,m1,Jai,ix];exact Ext.new _ _
theorem Jpk{z:Int}:∃x:PySem.Str,(sg x).length<=3/\Say 1 "_law_joint" (.int z) (.str x):=by
 obtain⟨x,hx,hl⟩:=Jt9 (ts:=jts) (B:=3) (i:=z%7) (by omega) (by show _<(7:Int);omega) (by decide+kernel);refine⟨x,hl,λn S=>?_⟩;have m1:∀(i:Int) (S:Store),bop .mod (.int i) (.int 7) S=.ok (.int (i%7)) S:=λi S=>Jir (by decide);have ix:idxD (.loc S.length) (.int (z%7)) (S++[.lst (jts.map D.str)])=some (.str x):=Jar Jac hx;simp only[jts,List.map_cons,List.map_nil]at ix;rw[Jaa Jd6 rfl];simp[Jce,Line,m1,Jai,ix];exact Ext.new _ _
theorem Jee{C:Pr}{el:M}{l B:Nat}{zs:List Int}(h:∀(z:Int) (S:Store),∃x S',turnC C (.tvar 0) .nul el (.int z) [none] S=.ok (some (.str x)) S'/\(sg x).length<=B/\Ext S S')(zl:zs.length<=100):∀(as:List Int) (i:Nat) (ts:List PySem.Str) (S:Store),zs.drop i=as->ts.length=i/\i<=zs.length->(∀t∈ts,(sg t).length<=B)->S[l]? =some (.lst (zs.map D.int))->
  ∃(us:List PySem.Str) (S':Store),compL (turnC C (.tvar 0) .nul el) (some (l,.lst)) (zs.map D.int) as.length i [none] S (ts.map D.str)=.ok (us.map D.str) S'/\us.length=zs.length/\(∀t∈us,(sg t).length<=B)/\Ext S S'
 |[],i,ts,S,hd,ht,hb,hS=>⟨ts,S,Jhq hS,by
   have:=List.drop_eq_nil_iff.mp hd;omega,hb,.refl _⟩
 |z::as,i,ts,S,hd,ht,hb,hS=>by
  have hi:zs[i]? =some z:=by rw[<-Nat.add_zero i,<-List.getElem?_drop,hd];rfl
  obtain⟨x,S1,e,hx,x1⟩:=h z S;obtain⟨us,S2,e2,q1,q2,x2⟩:=Jee h zl as (i+1) (ts++[x]) S1 (by rw[<-List.drop_drop,hd];rfl) (by simp[ht.1];have:=(List.getElem?_eq_some_iff.mp hi).1;omega) (λt h=>by
   rcases List.mem_append.mp h with h|h
   ·exact hb t h
   ·rw[List.mem_singleton.mp h];exact hx) (x1.get hS)
  refine⟨us,S2,?_,q1,q2,x1.trans x2⟩;have hlt:=(List.getElem?_eq_some_iff.mp hi).1;rw[List.length_cons,Jeg hS (by rw[List.getElem?_map,hi];rfl) e (by rw[List.length_map];show _<16777216;omega)];rw[List.map_append]at e2;exact e2
theorem Jjq{y:List Nat}{B:Nat}:∀l:List (List Nat),(∀p∈l,p.length<=B)->(joinL y l).length<=l.length*(B+y.length)
 |[],_=>by simp[joinL]
 |[p],h=>by
  have:=h p (by simp);simp[joinL];omega
 |p::q::r,h=>by
  have:=h p (by simp);have ih:=Jjq (y:=y) (q::r) λx hx=>h x (by simp[hx]);rw[List.length_cons,Nat.succ_mul];simp only[joinL,List.length_append];omega
theorem Jjp{y:PySem.Str}{ts:List PySem.Str}{B:Nat}(h:∀t∈ts,(sg t).length<=B):(sg (Str.join y ts)).length<=ts.length*(B+(sg y).length):=by
 rw[Jlk];have:=Jjq (y:=sg y) (B:=B) (ts.map sg) (λp hp=>by
  obtain⟨t,ht,rfl⟩:=List.mem_map.mp hp;exact h t ht)
 rw[List.length_map]at this;exact this
theorem ad{a b:PySem.Str}(ha:(sg a).length<=1000000)(hb:(sg b).length<=1000000)(S:Store):bop .add (.str a) (.str b) S=.ok (.str (a++b)) S:=by
 rw[Jl2,if_pos];rw[Jap,Jap];show _<=16777216;omega
theorem Jfb{ns:List Int}{l:Nat}{zs:List Int}{u2 u3 u4 u5:Option D}(hz:zs.length<=63)(hS:S[l]? =some (.lst (zs.map D.int))):∃x S',evB (Cn T G 100 (n+2)) (dropS 2 f_law_pieces.body) [some (.kl (ns.map D.int)),some (.loc l),u2,u3,u4,u5,none] S=.ok (.rt (.str x)) S'/\(sg x).length<=1400/\Ext S S':=by
 obtain⟨c0,k0⟩:=Jiq (ns:=ns) (k:=0) (by decide);have d2:∀(i:Int) (S:Store),bop .fdiv (.int i) (.int 2) S=.ok (.int (i/2)) S:=λi S=>Jp6 (by decide) (by decide+kernel);have d6:∀(i:Int) (S:Store),bop .fdiv (.int i) (.int 6) S=.ok (.int (i/6)) S:=λi S=>Jp6 (by decide) (by decide+kernel);have d21:∀(i:Int) (S:Store),bop .fdiv (.int i) (.int 21) S=.ok (.int (i/21)) S:=λi S=>Jp6 (by decide) (by decide+kernel);have m3:∀(i:Int) (S:Store),bop .mod (.int i) (.int 3) S=.ok (.int (i%3)) S:=λi S=>Jir (by decide);generalize D.kl (ns.map D.int)=X at*
 by_cases h:c0/2%3=0
 ·obtain⟨ts,S1,e1,l1,b1,x1⟩:=Jee (C:=Cn T G 100 (n+2)) (el:=.bin .add (.call "_law_word" (.cns (.var 0) .nul)) (.call "_law_joint" (.cns (.bin .fdiv (.var 0) (.cst (.int 21))) .nul))) (l:=l) (B:=21) (zs:=zs) (λz S=>by
   obtain⟨x,hx,sx⟩:=Jks (z:=z);obtain⟨y,hy,sy⟩:=Jpk (z:=z/21);obtain⟨S1,e1,x1⟩:=sx (n+1) S;obtain⟨S2,e2,x2⟩:=sy (n+1) S1;have ad:=ad (a:=x) (b:=y) (by omega) (by omega) S2;exact⟨x++y,S2,by simp[turnC,e1,d21,e2,ad],by rw[Je7,List.length_append];omega,x1.trans x2⟩) (by omega) zs 0 [] S rfl ⟨rfl,by simp⟩ (by simp) hS
  have kc:kComp (Cn T G 100 (n+2)) 1 [] (.tvar 0) .nul (.bin .add (.call "_law_word" (.cns (.var 0) .nul)) (.call "_law_joint" (.cns (.bin .fdiv (.var 0) (.cst (.int 21))) .nul))) [some X,some (.loc l),u2,u3,u4,u5,none] (some (l,.lst),zs.map D.int) S=.ok (.loc S1.length) (S1++[.lst (ts.map D.str)]):=by
   unfold kComp;rw[List.length_map,show inEn 1 [] [some X,some (.loc l),u2,u3,u4,u5,none]=[none]from rfl];rw[List.map_nil]at e1;rw[e1];rfl
  have jn:=Je1 (S:=S1++[.lst (ts.map D.str)]) (x:=Str.ofString "") (ts:=ts) Jac (by decide) (by omega) (λt ht=>Nat.le_trans (b1 t ht) (by decide));refine⟨Str.join (Str.ofString "") ts,S1++[.lst (ts.map D.str)],?_,Nat.le_trans (Jjp b1) ?_,x1.more _⟩
  ·simp[dropS,f_law_pieces,k0,d2,m3,h,seqOf,Jad hS,kc,rcv,jn]
  ·rw[l1,show(sg (Str.ofString "")).length=0 from rfl];omega
 ·obtain⟨y,hy,hl⟩:=Jt9 (ts:=[", ","; "," | "]) (B:=3) (i:=c0/6%3) (by omega) (by show _<(3:Int);omega) (by decide+kernel);have ix:∀S:Store,idxD (.loc S.length) (.int (c0/6%3)) (S++[.lst ([(", ":PySem.Str),"; "," | "].map D.str)])=some (.str y):=λS=>Jar Jac hy;simp only[List.map_cons,List.map_nil]at ix;obtain⟨S0,h0⟩:∃S0,S++[Mi.Obj.lst [.str (Str.ofString ", "),.str (Str.ofString "; "),.str (Str.ofString " | ")]]=S0:=⟨_,rfl⟩
  have ix:=ix S;rw[h0]at ix;have x0:Ext S S0:=⟨_,h0.symm⟩
  obtain⟨ts,S1,e1,l1,b1,x1⟩:=Jee (C:=Cn T G 100 (n+2)) (el:=.call "_law_word" (.cns (.var 0) .nul)) (l:=l) (B:=18) (zs:=zs) (λz S=>by
   obtain⟨x,hx,sx⟩:=Jks (z:=z);obtain⟨S1,e1,x1⟩:=sx (n+1) S;exact⟨x,S1,by simp[turnC,e1],hx,x1⟩) (by omega) zs 0 [] S0 rfl ⟨rfl,by simp⟩ (by simp) (x0.get hS)
  have kc:kComp (Cn T G 100 (n+2)) 1 [] (.tvar 0) .nul (.call "_law_word" (.cns (.var 0) .nul)) [some X,some (.loc l),u2,u3,u4,u5,some (.str y)] (some (l,.lst),zs.map D.int) S0=.ok (.loc S1.length) (S1++[.lst (ts.map D.str)]):=by
   unfold kComp;rw[List.length_map,show inEn 1 [] [some X,some (.loc l),u2,u3,u4,u5,some (.str y)]=[none]from rfl];rw[List.map_nil]at e1;rw[e1];rfl
  have jn:=Je1 (S:=S1++[.lst (ts.map D.str)]) (x:=y) (ts:=ts) Jac (by rw[Jap];omega) (by omega) (λt ht=>Nat.le_trans (b1 t ht) (by decide));refine⟨Str.join y ts,S1++[.lst (ts.map D.str)],?_,Nat.le_trans (Jjp b1) ?_,x0.trans (x1.more _)⟩
  ·simp[dropS,f_law_pieces,k0,d2,d6,m3,h,Line,h0,Jai,ix,seqOf,Jad (x0.get hS),kc,rcv,jn]
  ·rw[l1];exact Nat.le_trans (Nat.mul_le_mul hz (Nat.add_le_add_left hl 18)) (by decide)
end
end K66
namespace K66
open PySem L2 Mi Tx PySem.NumText PySem.W.KIN
section
variable {n:Nat} {S:Store}
noncomputable def IPc(X m:D)(l:Nat)(S0:Store)(i:Nat)(τ:En)(S:Store):Prop:=∃(z:Int) (u4 u5:Option D) (zs:List Int),τ=[some X,some (.loc l),some (.int z),some m,u4,u5,none]/\zs.length=i/\S[l]? =some (.lst (zs.map D.int))/\Ext S0 S
noncomputable def stL:M:=match f_law_pieces.body with
 |.cns _ (.cns (.ifs _ _ (.cns _ (.cns f _))) _)=>f
 |m=>m
noncomputable def bdL:M:=match stL with
 |.forr _ _ b=>b
 |m=>m
theorem Jmb{ns:List Int}(hn:ns.length<=63):∃x S',callN T G 100 (n+3) "_law_pieces" [.kl (ns.map D.int)] S=.ok (.str x) S'/\(sg x).length<=1400/\Ext S S':=by
 obtain⟨c0,k0⟩:=Jiq (ns:=ns) (k:=0) (by decide);obtain⟨c1,k1⟩:=Jiq (ns:=ns) (k:=1) (by decide);have m2:∀(i:Int) (S:Store),bop .mod (.int i) (.int 2) S=.ok (.int (i%2)) S:=λi S=>Jir (by decide);have d3:∀(i:Int) (S:Store),bop .fdiv (.int i) (.int 3) S=.ok (.int (i/3)) S:=λi S=>Jp6 (by decide) (by decide+kernel);rw[Jaa Jdg rfl];have hN:f_law_pieces.N.length=7:=rfl;obtain⟨S0,h0⟩:∃S0,S++[Mi.Obj.lst []]=S0:=⟨_,rfl⟩
 have x0:Ext S S0:=⟨_,h0.symm⟩
 have g0:S0[S.length]? =some (.lst []):=by rw[<-h0];exact Jac
 have bd:f_law_pieces.body=.cns (.asg (.tvar 1) (.lst .nul)) (.cns (.ifs (.cmp .eq (.bin .mod (.call "_law_cell" (.cns (.var 0) (.cns (.cst (.int 0)) .nul))) (.cst (.int 2))) (.cst (.int 1))) (.cns (.asg (.tvar 1) (.comp ["_law_cell_here"] 1 [] (.tvar 0) (.cns (.sli (.var 0) (.cns (.cst (.int 1)) .nul) (.cns (.cst (.int 61)) .nul)) .nul) .nul (.bin .fdiv (.call "_law_mixed" (.cns (.var 0) .nul)) (.cst (.int 3))))) .nul) (.cns (.asg (.ttup (.cns (.tvar 2) (.cns (.tvar 3) .nul))) (.prim .divmod (.cns (.call "_law_cell" (.cns (.var 0) (.cns (.cst (.int 1)) .nul))) (.cns (.cst (.int 13)) .nul)))) (.cns (.forr (.tvar 4) (.rng (.var 3)) bdL) .nul))) (dropS 2 f_law_pieces.body)):=rfl;rw[bd]
 by_cases h:c0%2=1
 ·obtain⟨ms,hms⟩:∃ms,cutI ns (some 1) (some 61)=ms:=⟨_,rfl⟩
  have ml:ms.length<=63:=by rw[<-hms];exact Nat.le_trans (Jpy _ _ _) hn
  have sl:sliD (.kl (ns.map D.int)) (some 1) (some 61) S0=.ok (.loc S0.length) (S0++[.lst (ms.map D.int)]):=by rw[Jli,hms]
  obtain⟨S1,h1⟩:∃S1,S0++[Mi.Obj.lst (ms.map D.int)]=S1:=⟨_,rfl⟩
  have x1:Ext S0 S1:=⟨_,h1.symm⟩
  have g1:S1[S0.length]? =some (.lst (ms.map D.int)):=by rw[<-h1];exact Jac
  rw[h1]at sl;have kc:=Jdw (C:=Cn T G 100 (n+2)) (k:=1) (keep:=[]) (tg:=.tvar 0) (cd:=.nul) (el:=.bin .fdiv (.call "_law_mixed" (.cns (.var 0) .nul)) (.cst (.int 3))) (τ:=[some (D.kl (ns.map D.int)),some (.loc S.length),none,none,none,none,none]) (S:=S1) (g:=some (S0.length,.lst)) (xs:=ms) D.int (λc=>.int (mix c/3)) (by omega) (.inr ⟨_,rfl,g1⟩) (λc hc=>by simp[turnC,inEn,Jo9,d3]);rw[show ms.map (λc=>D.int (mix c/3))=(ms.map λc=>mix c/3).map D.int by rw[List.map_map];rfl]at kc;obtain⟨x,S2,e2,hx,x2⟩:=Jfb (n:=n) (S:=S1++[.lst ((ms.map λc=>mix c/3).map D.int)]) (ns:=ns) (u2:=none) (u3:=none) (u4:=none) (u5:=none) (by rw[List.length_map];exact ml) Jac;refine⟨x,S2,?_,hx,x0.trans (x1.trans ((Ext.new _ _).trans x2))⟩;generalize dropS 2 f_law_pieces.body=rest at*;generalize bdL=b1 at*;generalize D.kl (ns.map D.int)=X at*;generalize(ms.map λc=>mix c/3).map D.int=dz at*;simp[hN,Line,h0,k0,m2,h,sl,seqOf,Jad g1,kc,e2]
 ·obtain⟨k,ek,hk⟩:∃k:Nat,c1%13=(k:Int)/\k<13:=⟨(c1%13).toNat,by omega,by omega⟩
  have dm:∀S:Store,primD .divmod [.int c1,.int 13] S=.ok (.tup [.int (c1/13),.int k]) S:=λS=>by rw[<-ek,Jf8,if_pos ⟨by decide,by decide+kernel⟩]
  have kr:∀S:Store,kRng (.int (k:Int)) S=.ok (none,(List.range k).map λ(i:Nat)=>.int i) S:=λS=>by
   rw[Jmw (by omega) (by omega)];rfl
  obtain⟨K,hK⟩:∃K:Int,(k:Int)=K:=⟨_,rfl⟩
  rw[hK]at dm kr;have pr:=λS l zs u2 u3 u4 u5=>Jfb (n:=n) (S:=S) (ns:=ns) (l:=l) (zs:=zs) (u2:=u2) (u3:=u3) (u4:=u4) (u5:=u5);generalize D.kl (ns.map D.int)=X at*;obtain⟨fl,S1,e1,q⟩:=loop (C:=Cn T G 100 (n+2)) (t:=.tvar 4) (b:=bdL) (τ:=[some X,some (.loc S.length),some (.int (c1/13)),some (.int K),none,none,none]) (S:=S0) (ds:=(List.range k).map λ(i:Nat)=>.int i) (IPc X (.int K) S.length S) noB noR ⟨_,_,_,[],rfl,rfl,g0,x0⟩ (by
   rintro i d _ S1 hd ⟨z,u4,u5,zs,rfl,zl,hS,xx⟩;have hi:i<k:=by
    have h1:=(List.getElem?_eq_some_iff.mp hd).1
    simpa using h1
   have m7:∀S:Store,bop .mul (.int 21) (.int 7) S=.ok (.int 147) S:=λS=>Jt8 (by decide);have dz:∀S:Store,primD .divmod [.int z,.int 147] S=.ok (.tup [.int (z/147),.int (z%147)]) S:=λS=>by rw[Jf8,if_pos ⟨by decide,by decide+kernel⟩]
   have ap:=Jca (d:=.int (z%147)) hS (by rw[List.length_map];show _<16777216;omega);have b:bdL=.cns (.asg (.ttup (.cns (.tvar 2) (.cns (.tvar 5) .nul))) (.prim .divmod (.cns (.var 2) (.cns (.bin .mul (.cst (.int 21)) (.cst (.int 7))) .nul)))) (.cns (.exp (.meth .append (.var 1) (.cns (.var 5) .nul))) .nul):=rfl;rw[b];simp[turnF,m7,dz,rcv,Jad hS,ap];exact⟨z/147,_,_,zs++[z%147],rfl,by simp[zl],by rw[Jdk hS];simp,Ext.set xx (Nat.le_refl _) _⟩)
  obtain⟨_,rfl,z,u4,u5,zs,rfl,zl,hS,xx⟩:=q.nx;rw[List.length_map,List.length_range]at zl;obtain⟨x,S2,e2,hx,x2⟩:=pr S1 S.length zs (some (.int z)) (some (.int K)) u4 u5 (by omega) hS;refine⟨x,S2,?_,hx,xx.trans x2⟩;generalize dropS 2 f_law_pieces.body=rest at*;generalize bdL=b1 at*;simp[hN,Line,h0,k0,m2,h,k1,dm,kr,e1,e2]
theorem rep{x:PySem.Str}{Z:Int}(h:Z=0\/Z=1):∃y:PySem.Str,(∀S:Store,bop .mul (.str (Str.ofString " | ")) (.int Z) S=.ok (.str y) S)/\(sg y).length<=3:=by
 rcases h with rfl|rfl
 ·exact⟨Txt.mul (Str.ofString " | ") 0,λS=>by rw[Jid,if_pos (by decide+kernel)],by decide+kernel⟩
 ·exact⟨Txt.mul (Str.ofString " | ") 1,λS=>by rw[Jid,if_pos (by decide+kernel)],by decide+kernel⟩
noncomputable def b1L:M:=match f_law.body with
 |.cns _ (.cns (.forr _ _ b) _)=>b
 |m=>m
noncomputable def b2L:M:=match f_law.body with
 |.cns _ (.cns _ (.cns (.forr _ _ b) _))=>b
 |m=>m
noncomputable def ILw(X x:D)(l:Nat)(ds:List D)(i:Nat)(τ:En)(S:Store):Prop:=(∃u,τ=[some X,some x,u,none,none,none])/\S[l]? =some (.lst ds)
noncomputable def IKw(X x:D)(i:Nat)(τ:En)(S:Store):Prop:=∃u2 u3 u4 u5,τ=[some X,some x,u2,u3,u4,u5]
theorem Jn9{X:D}{x:PySem.Str}{w:Int}{u:Option D}(hx:(sg x).length<=2000)(hw:w=0\/w=1\/w=2):∃S',turnF (Cn T G 100 29) (.tvar 2) b1L (.int w) [some X,some (.str x),u,none,none,none] S=.ok (.nx [some X,some (.str x),some (.int w),none,none,none]) S'/\Ext S S':=by
 obtain⟨S1,e,x1⟩:=Jq4 (n:=16) (S:=S) hx hw;refine⟨S1,?_,x1⟩;have b:b1L=.cns (.ifs (.nott (.call "_law_one" (.cns (.var 1) (.cns (.var 2) .nul)))) (.cns (.ret (.cst (.bl false))) .nul) .nul) .nul:=rfl;rw[b];simp[turnF,e]
theorem Jn8{X:D}{x:PySem.Str}{k:Int}{u2 u3 u4 u5:Option D}(hx:(sg x).length<=1400)(hk:k=0\/k=1\/k=2\/k=3):∃v4 v5 S',turnF (Cn T G 100 29) (.tvar 3) b2L (.int k) [some X,some (.str x),u2,u3,u4,u5] S=.ok (.nx [some X,some (.str x),u2,some (.int k),v4,v5]) S'/\Ext S S':=by
 obtain⟨Z,hZ⟩:∃Z:Int,(x.length:Int)=Z:=⟨_,rfl⟩
 have ln:∀S:Store,primD .len [.str x] S=.ok (.int Z) S:=λS=>by rw[Jei (by rw[Jap];show _<=16777216;omega),hZ]
 have m2:∀(i:Int) (S:Store),bop .mod (.int i) (.int 2) S=.ok (.int (i%2)) S:=λi S=>Jir (by decide);obtain⟨y,ry,hy⟩:=rep (x:=x) (Z:=Z%2) (by omega);have p1:(sg (Str.ofString "1 on 0 weight 5 | 1; out 1 -")).length=28:=by decide+kernel
 have p2:(sg (Str.ofString "7; ")).length=3:=by decide+kernel
 have p3:(sg (Str.ofString "; out 3 -")).length=9:=by decide+kernel
 have a1:=λS=>ad (a:=Str.ofString "1 on 0 weight 5 | 1; out 1 -") (b:=y) (by omega) (by omega) S;have l1:(sg (Str.ofString "1 on 0 weight 5 | 1; out 1 -"++y)).length<=31:=by rw[Je7,List.length_append];omega
 have a2:=λS=>ad (a:=Str.ofString "1 on 0 weight 5 | 1; out 1 -"++y) (b:=x) (by omega) (by omega) S;have l2:(sg (Str.ofString "1 on 0 weight 5 | 1; out 1 -"++y++x)).length<=2000:=by rw[Je7,List.length_append];omega
 have a3:=λS=>ad (a:=Str.ofString "7; ") (b:=x) (by omega) (by omega) S;have l3:(sg (Str.ofString "7; "++x)).length<=2000:=by rw[Je7,List.length_append];omega
 have a4:=λS=>ad (a:=x) (b:=Str.ofString "; out 3 -") (by omega) (by omega) S;have l4:(sg (x++Str.ofString "; out 3 -")).length<=2000:=by rw[Je7,List.length_append];omega
 generalize Str.ofString "1 on 0 weight 5 | 1; out 1 -"++y++x=t2 at*;generalize Str.ofString "1 on 0 weight 5 | 1; out 1 -"++y=t1 at*;generalize Str.ofString "7; "++x=t3 at*;generalize x++Str.ofString "; out 3 -"=t4 at*;have one:∃(t:PySem.Str) (w:Int),atI [D.str x,.str t3,.str t2,.str t4] k=some (.str t)/\atI [D.int 0,.int 1,.int 2,.int 1] k=some (.int w)/\(sg t).length<=2000/\(w=0\/w=1\/w=2):=by
  rcases hk with rfl|rfl|rfl|rfl
  ·exact⟨x,0,rfl,rfl,by omega,by omega⟩
  ·exact⟨t3,1,rfl,rfl,l3,by omega⟩
  ·exact⟨t2,2,rfl,rfl,l2,by omega⟩
  ·exact⟨t4,1,rfl,rfl,l4,by omega⟩
 obtain⟨t,w,i1,i2,ht,hw⟩:=one;obtain⟨S1,h1⟩:∃S1,S++[Mi.Obj.lst [D.str x,.str t3,.str t2,.str t4]]=S1:=⟨_,rfl⟩
 obtain⟨S2,h2⟩:∃S2,S1++[Mi.Obj.lst [D.int 0,.int 1,.int 2,.int 1]]=S2:=⟨_,rfl⟩
 have j1:idxD (.loc S.length) (.int k) S1=some (.str t):=Jar (by rw[<-h1];exact Jac) i1;have j2:idxD (.loc S1.length) (.int k) S2=some (.int w):=Jar (by rw[<-h2];exact Jac) i2;obtain⟨S3,e,x3⟩:=Jq4 (n:=16) (S:=S2) ht hw;refine⟨some (.str t2),some (.str t),S3,?_,Ext.trans ⟨_,h1.symm⟩ (Ext.trans ⟨_,h2.symm⟩ x3)⟩;have b:b2L=.cns (.asg (.tvar 4) (.bin .add (.bin .add (.cst (.str "1 on 0 weight 5 | 1; out 1 -")) (.bin .mul (.cst (.str " | ")) (.bin .mod (.prim .len (.cns (.var 1) .nul)) (.cst (.int 2))))) (.var 1))) (.cns (.asg (.tvar 5) (.idx (.lst (.cns (.var 1) (.cns (.bin .add (.cst (.str "7; ")) (.var 1)) (.cns (.var 4) (.cns (.bin .add (.var 1) (.cst (.str "; out 3 -"))) .nul))))) (.var 3))) (.cns (.ifs (.nott (.call "_law_one" (.cns (.var 5) (.cns (.idx (.lst (.cns (.cst (.int 0)) (.cns (.cst (.int 1)) (.cns (.cst (.int 2)) (.cns (.cst (.int 1)) .nul))))) (.var 3)) .nul)))) (.cns (.ret (.cst (.bl false))) .nul) .nul) .nul)):=rfl;rw[b];simp[turnF,ln,m2,ry,a1,a2,a3,a4,Line,h1,h2,Jai,j1,j2,e]
end
theorem run(ns:List Int)(hn:ns.length<=63):∃S',callN T G 100 30 "law" [.kl (ns.map D.int)] []=.ok (.bl true) S':=by
 obtain⟨x,S1,e1,hx,_⟩:=Jmb (n:=26) (S:=[]) hn;rw[Jaa (n:=29) Jn3 rfl];generalize D.kl (ns.map D.int)=X at*;have g1:(S1++[Mi.Obj.lst [D.int 0,.int 1,.int 2,.int 0]])[S1.length]? =some (.lst [D.int 0,.int 1,.int 2,.int 0]):=Jac;obtain⟨fl,S2,e2,q2⟩:=loopS (C:=Cn T G 100 29) (t:=.tvar 2) (b:=b1L) (τ:=[some X,some (.str x),none,none,none,none]) (S:=S1++[Mi.Obj.lst [D.int 0,.int 1,.int 2,.int 0]]) (l:=S1.length) (ds:=[D.int 0,.int 1,.int 2,.int 0]) (ILw X (.str x) S1.length [D.int 0,.int 1,.int 2,.int 0]) noB noR ⟨⟨_,rfl⟩,g1⟩ (λi τ S h=>h.2) (by
  rintro i d τ S hd ⟨⟨u,rfl⟩,hS⟩;have:∃w:Int,d=.int w/\(w=0\/w=1\/w=2):=by
   have:=List.mem_of_getElem? hd;simp only[List.mem_cons,List.not_mem_nil,or_false]at this;rcases this with rfl|rfl|rfl|rfl
   ·exact⟨0,rfl,by omega⟩
   ·exact⟨1,rfl,by omega⟩
   ·exact⟨2,rfl,by omega⟩
   ·exact⟨0,rfl,by omega⟩
  obtain⟨w,rfl,hw⟩:=this;obtain⟨S',e,x'⟩:=Jn9 (X:=X) (u:=u) (S:=S) (x:=x) (by omega) hw;rw[e];exact .ok ⟨⟨_,rfl⟩,x'.get hS⟩)
 obtain⟨_,rfl,⟨u,rfl⟩,-⟩:=q2.nx;obtain⟨fl,S3,e3,q3⟩:=loop (C:=Cn T G 100 29) (t:=.tvar 3) (b:=b2L) (τ:=[some X,some (.str x),u,none,none,none]) (S:=S2) (ds:=[D.int 0,.int 1,.int 2,.int 3]) (IKw X (.str x)) noB noR ⟨_,_,_,_,rfl⟩ (by
  rintro i d τ S hd ⟨u2,u3,u4,u5,rfl⟩;have:∃w:Int,d=.int w/\(w=0\/w=1\/w=2\/w=3):=by
   have:=List.mem_of_getElem? hd;simp only[List.mem_cons,List.not_mem_nil,or_false]at this;rcases this with rfl|rfl|rfl|rfl
   ·exact⟨0,rfl,by omega⟩
   ·exact⟨1,rfl,by omega⟩
   ·exact⟨2,rfl,by omega⟩
   ·exact⟨3,rfl,by omega⟩
  obtain⟨w,rfl,hw⟩:=this;obtain⟨v4,v5,S',e,x'⟩:=Jn8 (X:=X) (u2:=u2) (u3:=u3) (u4:=u4) (u5:=u5) (S:=S) hx hw;rw[e];exact .ok ⟨_,_,_,_,rfl⟩)
 obtain⟨_,rfl,u2,u3,u4,u5,rfl⟩:=q3.nx;have kr:∀S:Store,kRng (.int 4) S=.ok (none,[D.int 0,.int 1,.int 2,.int 3]) S:=λS=>by
  rw[Jmw (by decide) (by decide)];rfl
 refine⟨S3,?_⟩;have hN:f_law.N.length=6:=rfl;have bd:f_law.body=.cns (.asg (.tvar 1) (.call "_law_pieces" (.cns (.var 0) .nul))) (.cns (.forr (.tvar 2) (.cns (.lst (.cns (.cst (.int 0)) (.cns (.cst (.int 1)) (.cns (.cst (.int 2)) (.cns (.cst (.int 0)) .nul))))) .nul) b1L) (.cns (.forr (.tvar 3) (.rng (.cst (.int 4))) b2L) (.cns (.ret (.cst (.bl true))) .nul))):=rfl;rw[bd];generalize b1L=b1 at*;generalize b2L=b2 at*;simp[hN,e1,Line,seqOf,Jad g1,e2,kr,e3]
end K66
namespace K66
open PySem L2 Mi
theorem Jaw{p:Prop}[Decidable p]{α:Type}{a d:α}{b:Option α}(h:(if p then some a else b)=some d):(p/\a=d)\/b=some d:=by by_cases e:p<;>simp_all
noncomputable def top(i:Nat):Stmt:=PySem.Challenge.pw_spentonce_k66_whole_texts_read_are_shown.main.body.getD i (.Pass ⟨0,0,0,0⟩)
noncomputable def B:List String:=["isinstance","int","bool","tuple","len","all","abs","str","any","divmod","range"]
noncomputable def F:List String:=["is_whole","is_within","is_tuple","is_lock","are_keys","is_short","is_row","ifs_fit","checked","is_maker","is_deed","are_ins","is_in","is_coin","are_outs","is_out","checked_block","is_block","are_deeds","shown_coin","shown_lock","shown_row","shown_deed","shown_in","shown_out","shown_block","read_number","read_coin","read_lock","read_deed","read_block","checked_text","is_number","is_made_of","formed_lock","formed_row","formed_deed","formed_in","formed_out","formed_block","_law_mixed","_law_cell","_law_word","_law_joint","_law_pieces","_law_read","_law_shown","_law_one","law"]
noncomputable def O:Ow:=⟨[],[],[],["NoDeed","NoBlock","NoText","NoLock"],["checked","checked_block","read_number","read_coin","read_lock","read_deed","read_block","checked_text","is_number","formed_lock","formed_row","formed_deed","formed_in","formed_out","formed_block","_law_read"],[("CoinError","NoBlock",[("NoText",false),("NoLock",false),("NoDeed",false),("NoBlock",true)]),("CoinError","NoDeed",[("NoText",false),("NoLock",false),("NoDeed",true),("NoBlock",false)]),("CoinError","NoLock",[("NoText",false),("NoLock",true),("NoDeed",false),("NoBlock",false)]),("CoinError","NoText",[("NoText",true),("NoLock",false),("NoDeed",false),("NoBlock",false)])]⟩
noncomputable def Fk(f:Fn)(i:Nat):Prop:=(defScope (top i)).kind=.function/\(defScope (top i)).isCoroutine=false/\(defScope (top i)).isGenerator=false/\(f.N.map Str.ofString).Nodup/\(f.N.map Str.ofString).take (f.ps.map Str.ofString).length=f.ps.map Str.ofString/\(∀x∈f.ps.map Str.ofString,(defScope (top i)).names.lookup x=some .local\/(defScope (top i)).names.lookup x=some .cell)/\(∀y∈(defScope (top i)).names,y.2≠ .free)/\chkB f.body ⟨f.N.map Str.ofString,(defScope (top i)).names,true,B,F,O,true⟩ (defBody (top i))=true
theorem Fk.sc{f:Fn}{i:Nat}(k:Fk f i):FnScope (f.N.map Str.ofString) (f.ps.map Str.ofString) (defScope (top i)):=⟨k.1,k.2.1,k.2.2.1,k.2.2.2.1,k.2.2.2.2.1,k.2.2.2.2.2.1,k.2.2.2.2.2.2.1⟩
theorem Fk.ck{f:Fn}{i:Nat}(k:Fk f i):chkB f.body ⟨f.N.map Str.ofString,(defScope (top i)).names,true,B,F,O,true⟩ (defBody (top i))=true:=k.2.2.2.2.2.2.2
noncomputable abbrev Fe(K:PySem.W.Frag)(x:String)(i:Nat):Prop:=FE K (Str.ofString x) (top i)
noncomputable abbrev Be(K:PySem.W.Frag)(x:String):Prop:=PySem.W.nsIn K mainGlobals (Str.ofString x)=some none
theorem k_0:Fk Jc2 7:=⟨rfl,rfl,rfl,by decide+kernel⟩
theorem k_1:Fk Jcf 8:=⟨rfl,rfl,rfl,by decide+kernel⟩
theorem k_2:Fk Jc3 9:=⟨rfl,rfl,rfl,by decide+kernel⟩
theorem k_3:Fk Jb3 17:=⟨rfl,rfl,rfl,by decide+kernel⟩
theorem k_4:Fk Jb6 18:=⟨rfl,rfl,rfl,by decide+kernel⟩
theorem k_5:Fk Jc4 19:=⟨rfl,rfl,rfl,by decide+kernel⟩
theorem k_6:Fk Jbw 20:=⟨rfl,rfl,rfl,by decide+kernel⟩
theorem k_7:Fk Jdz 21:=⟨rfl,rfl,rfl,by decide+kernel⟩
theorem k_8:Fk Jd0 25:=⟨rfl,rfl,rfl,by decide+kernel⟩
theorem k_9:Fk Jc5 26:=⟨rfl,rfl,rfl,by decide+kernel⟩
theorem k_10:Fk Jb4 27:=⟨rfl,rfl,rfl,by decide+kernel⟩
theorem k_11:Fk Jcr 28:=⟨rfl,rfl,rfl,by decide+kernel⟩
theorem k_12:Fk Jfm 29:=⟨rfl,rfl,rfl,by decide+kernel⟩
theorem k_13:Fk Jdy 30:=⟨rfl,rfl,rfl,by decide+kernel⟩
theorem k_14:Fk Jb5 31:=⟨rfl,rfl,rfl,by decide+kernel⟩
theorem k_15:Fk Jdx 32:=⟨rfl,rfl,rfl,by decide+kernel⟩
theorem k_16:Fk Ja4 35:=⟨rfl,rfl,rfl,by decide+kernel⟩
theorem k_17:Fk Jbb 36:=⟨rfl,rfl,rfl,by decide+kernel⟩
theorem k_18:Fk Jav 37:=⟨rfl,rfl,rfl,by decide+kernel⟩
theorem k_19:Fk Jbv 40:=⟨rfl,rfl,rfl,by decide+kernel⟩
theorem k_20:Fk Jbh 41:=⟨rfl,rfl,rfl,by decide+kernel⟩
theorem k_21:Fk Jcb 42:=⟨rfl,rfl,rfl,by decide+kernel⟩
theorem k_22:Fk Jbu 43:=⟨rfl,rfl,rfl,by decide+kernel⟩
theorem k_23:Fk Jc0 44:=⟨rfl,rfl,rfl,by decide+kernel⟩
theorem k_24:Fk Jcc 45:=⟨rfl,rfl,rfl,by decide+kernel⟩
theorem k_25:Fk Jbm 46:=⟨rfl,rfl,rfl,by decide+kernel⟩
theorem k_26:Fk Ja2 51:=⟨rfl,rfl,rfl,by decide+kernel⟩
theorem k_27:Fk f_read_coin 52:=⟨rfl,rfl,rfl,by decide+kernel⟩
theorem k_28:Fk Ja8 53:=⟨rfl,rfl,rfl,by decide+kernel⟩
theorem k_29:Fk Ja9 54:=⟨rfl,rfl,rfl,by decide+kernel⟩
theorem k_30:Fk Jay 55:=⟨rfl,rfl,rfl,by decide+kernel⟩
theorem k_31:Fk Jbg 56:=⟨rfl,rfl,rfl,by decide+kernel⟩
theorem k_32:Fk f_is_number 57:=⟨rfl,rfl,rfl,by decide+kernel⟩
theorem k_33:Fk Jbx 58:=⟨rfl,rfl,rfl,by decide+kernel⟩
theorem k_34:Fk Ja3 59:=⟨rfl,rfl,rfl,by decide+kernel⟩
theorem k_35:Fk Jaz 60:=⟨rfl,rfl,rfl,by decide+kernel⟩
theorem k_36:Fk f_formed_deed 61:=⟨rfl,rfl,rfl,by decide+kernel⟩
theorem k_37:Fk Jbq 62:=⟨rfl,rfl,rfl,by decide+kernel⟩
theorem k_38:Fk f_formed_out 63:=⟨rfl,rfl,rfl,by decide+kernel⟩
theorem k_39:Fk f_formed_block 64:=⟨rfl,rfl,rfl,by decide+kernel⟩
theorem k_40:Fk Jcd 66:=⟨rfl,rfl,rfl,by decide+kernel⟩
theorem k_41:Fk Jb2 67:=⟨rfl,rfl,rfl,by decide+kernel⟩
theorem k_42:Fk Jc1 68:=⟨rfl,rfl,rfl,by decide+kernel⟩
theorem k_43:Fk Jce 69:=⟨rfl,rfl,rfl,by decide+kernel⟩
theorem k_44:Fk f_law_pieces 70:=⟨rfl,rfl,rfl,by decide+kernel⟩
theorem k_45:Fk Jbo 71:=⟨rfl,rfl,rfl,by decide+kernel⟩
theorem k_46:Fk Jba 72:=⟨rfl,rfl,rfl,by decide+kernel⟩
theorem k_47:Fk Jcq 73:=⟨rfl,rfl,rfl,by decide+kernel⟩
theorem k_48:Fk f_law 74:=⟨rfl,rfl,rfl,by decide+kernel⟩
theorem txt{K:PySem.W.Frag}{mg:Str->Option Value}{h:Heap}{t0:Tok}{t1:Tok}{t4:Tok}{t5:Tok}{t6:Tok}{t7:Tok}{t8:Tok}{t10:Tok}(KX:K.In h)(hG:h.Ns mainGlobals mg)(f0:Fe K "is_whole" 7)(f1:Fe K "is_within" 8)(f2:Fe K "is_tuple" 9)(f3:Fe K "is_lock" 17)(f4:Fe K "are_keys" 18)(f5:Fe K "is_short" 19)(f6:Fe K "is_row" 20)(f7:Fe K "ifs_fit" 21)(f8:Fe K "checked" 25)(f9:Fe K "is_maker" 26)(f10:Fe K "is_deed" 27)(f11:Fe K "are_ins" 28)(f12:Fe K "is_in" 29)(f13:Fe K "is_coin" 30)(f14:Fe K "are_outs" 31)(f15:Fe K "is_out" 32)(f16:Fe K "checked_block" 35)(f17:Fe K "is_block" 36)(f18:Fe K "are_deeds" 37)(f19:Fe K "shown_coin" 40)(f20:Fe K "shown_lock" 41)(f21:Fe K "shown_row" 42)(f22:Fe K "shown_deed" 43)(f23:Fe K "shown_in" 44)(f24:Fe K "shown_out" 45)(f25:Fe K "shown_block" 46)(f26:Fe K "read_number" 51)(f27:Fe K "read_coin" 52)(f28:Fe K "read_lock" 53)(f29:Fe K "read_deed" 54)(f30:Fe K "read_block" 55)(f31:Fe K "checked_text" 56)(f32:Fe K "is_number" 57)(f33:Fe K "is_made_of" 58)(f34:Fe K "formed_lock" 59)(f35:Fe K "formed_row" 60)(f36:Fe K "formed_deed" 61)(f37:Fe K "formed_in" 62)(f38:Fe K "formed_out" 63)(f39:Fe K "formed_block" 64)(f40:Fe K "_law_mixed" 66)(f41:Fe K "_law_cell" 67)(f42:Fe K "_law_word" 68)(f43:Fe K "_law_joint" 69)(f44:Fe K "_law_pieces" 70)(f45:Fe K "_law_read" 71)(f46:Fe K "_law_shown" 72)(f47:Fe K "_law_one" 73)(f48:Fe K "law" 74)(b0:Be K "isinstance")(b1:Be K "int")(b2:Be K "bool")(b3:Be K "tuple")(b4:Be K "len")(b5:Be K "all")(b6:Be K "abs")(b7:Be K "str")(b8:Be K "any")(b9:Be K "divmod")(b10:Be K "range")(xr0:XC K (Str.ofString "NoDeed"))(xr1:XC K (Str.ofString "NoBlock"))(xr2:XC K (Str.ofString "NoText"))(xr3:XC K (Str.ofString "NoLock"))(xt0:XT K (Str.ofString "CoinError") (Str.ofString "NoBlock"))(xi0_0:XI K (Str.ofString "NoBlock") (Str.ofString "NoText") false)(xi0_1:XI K (Str.ofString "NoBlock") (Str.ofString "NoLock") false)(xi0_2:XI K (Str.ofString "NoBlock") (Str.ofString "NoDeed") false)(xi0_3:XI K (Str.ofString "NoBlock") (Str.ofString "NoBlock") true)(xt1:XT K (Str.ofString "CoinError") (Str.ofString "NoDeed"))(xi1_0:XI K (Str.ofString "NoDeed") (Str.ofString "NoText") false)(xi1_1:XI K (Str.ofString "NoDeed") (Str.ofString "NoLock") false)(xi1_2:XI K (Str.ofString "NoDeed") (Str.ofString "NoDeed") true)(xi1_3:XI K (Str.ofString "NoDeed") (Str.ofString "NoBlock") false)(xt2:XT K (Str.ofString "CoinError") (Str.ofString "NoLock"))(xi2_0:XI K (Str.ofString "NoLock") (Str.ofString "NoText") false)(xi2_1:XI K (Str.ofString "NoLock") (Str.ofString "NoLock") true)(xi2_2:XI K (Str.ofString "NoLock") (Str.ofString "NoDeed") false)(xi2_3:XI K (Str.ofString "NoLock") (Str.ofString "NoBlock") false)(xt3:XT K (Str.ofString "CoinError") (Str.ofString "NoText"))(xi3_0:XI K (Str.ofString "NoText") (Str.ofString "NoText") true)(xi3_1:XI K (Str.ofString "NoText") (Str.ofString "NoLock") false)(xi3_2:XI K (Str.ofString "NoText") (Str.ofString "NoDeed") false)(xi3_3:XI K (Str.ofString "NoText") (Str.ofString "NoBlock") false)(g0:PySem.W.nsIn K mainGlobals (Str.ofString "MOST_ROWS")=some (some (.int 30 t0)))(g1:PySem.W.nsIn K mainGlobals (Str.ofString "MOST_KEYS")=some (some (.int 10 t1)))(g2:GV K (Str.ofString "LONE_WORDS") (.tup [.str "drop",.str "swap",.str "add",.str "sub",.str "mul",.str "less",.str "same",.str "not",.str "need",.str "height",.str "age",.str "worth",.str "ins",.str "outs",.str "if",.str "else",.str "end"]))(g3:GV K (Str.ofString "PLACE_WORDS") (.tup [.str "copy",.str "paid"]))(g4:PySem.W.nsIn K mainGlobals (Str.ofString "LAST_PLACE")=some (some (.int 9 t4)))(g5:PySem.W.nsIn K mainGlobals (Str.ofString "MOST_IFS_WITHIN")=some (some (.int 5 t5)))(g6:PySem.W.nsIn K mainGlobals (Str.ofString "MOST_INS")=some (some (.int 8 t6)))(g7:PySem.W.nsIn K mainGlobals (Str.ofString "MOST_OUTS")=some (some (.int 8 t7)))(g8:PySem.W.nsIn K mainGlobals (Str.ofString "MOST_DEEDS")=some (some (.int 12 t8)))(g9:GV K (Str.ofString "EMPTY_LOCK") (.str "-"))(g10:PySem.W.nsIn K mainGlobals (Str.ofString "MOST_FIGURES")=some (some (.int 60 t10)))(g11:GV K (Str.ofString "FIGURES") (.str "0123456789"))(g12:GV K (Str.ofString "SMALL_LETTERS") (.str "abcdefghijklmnopqrstuvwxyz")):Txt K mg T G B F O where
 fns:=by
  intro f hf;simp only[F,List.mem_cons,List.not_mem_nil,or_false]at hf;rcases hf with rfl|rfl|rfl|rfl|rfl|rfl|rfl|rfl|rfl|rfl|rfl|rfl|rfl|rfl|rfl|rfl|rfl|rfl|rfl|rfl|rfl|rfl|rfl|rfl|rfl|rfl|rfl|rfl|rfl|rfl|rfl|rfl|rfl|rfl|rfl|rfl|rfl|rfl|rfl|rfl|rfl|rfl|rfl|rfl|rfl|rfl|rfl|rfl|rfl
  ·exact Jae KX hG f0 Jen k_0.sc k_0.ck λ_ _ _ _ _ _=>len1 λ_=>rfl
  ·exact Jae KX hG f1 Jd7 k_1.sc k_1.ck λ_ _ _ _ _ _=>len3 λ_ _ _=>rfl
  ·exact Jae KX hG f2 Jeo k_2.sc k_2.ck λ_ _ _ _ _ _=>len3 λ_ _ _=>rfl
  ·exact Jae KX hG f3 Jfr k_3.sc k_3.ck λ_ _ _ _ _ _=>len1 λ_=>rfl
  ·exact Jae KX hG f4 Jet k_4.sc k_4.ck λ_ _ _ _ _ _=>len1 λ_=>rfl
  ·exact Jae KX hG f5 Jep k_5.sc k_5.ck λ_ _ _ _ _ _=>len1 λ_=>rfl
  ·exact Jae KX hG f6 Jda k_6.sc k_6.ck λ_ _ _ _ _ _=>len1 λ_=>rfl
  ·exact Jae KX hG f7 Jfu k_7.sc k_7.ck λ_ _ _ _ _ _=>len1 λ_=>rfl
  ·exact Jae KX hG f8 Jdp k_8.sc k_8.ck λ_ _ _ _ _ _=>len1 λ_=>rfl
  ·exact Jae KX hG f9 Jeq k_9.sc k_9.ck λ_ _ _ _ _ _=>len1 λ_=>rfl
  ·exact Jae KX hG f10 Jfs k_10.sc k_10.ck λ_ _ _ _ _ _=>len1 λ_=>rfl
  ·exact Jae KX hG f11 Jfv k_11.sc k_11.ck λ_ _ _ _ _ _=>len1 λ_=>rfl
  ·exact Jae KX hG f12 Jh6 k_12.sc k_12.ck λ_ _ _ _ _ _=>len1 λ_=>rfl
  ·exact Jae KX hG f13 Jft k_13.sc k_13.ck λ_ _ _ _ _ _=>len1 λ_=>rfl
  ·exact Jae KX hG f14 Jes k_14.sc k_14.ck λ_ _ _ _ _ _=>len1 λ_=>rfl
  ·exact Jae KX hG f15 Jf3 k_15.sc k_15.ck λ_ _ _ _ _ _=>len1 λ_=>rfl
  ·exact Jae KX hG f16 Jbd k_16.sc k_16.ck λ_ _ _ _ _ _=>len1 λ_=>rfl
  ·exact Jae KX hG f17 Jer k_17.sc k_17.ck λ_ _ _ _ _ _=>len1 λ_=>rfl
  ·exact Jae KX hG f18 Jcl k_18.sc k_18.ck λ_ _ _ _ _ _=>len1 λ_=>rfl
  ·exact Jae KX hG f19 Jdf k_19.sc k_19.ck λ_ _ _ _ _ _=>len1 λ_=>rfl
  ·exact Jae KX hG f20 Jdd k_20.sc k_20.ck λ_ _ _ _ _ _=>len1 λ_=>rfl
  ·exact Jae KX hG f21 Jd2 k_21.sc k_21.ck λ_ _ _ _ _ _=>len1 λ_=>rfl
  ·exact Jae KX hG f22 Jde k_22.sc k_22.ck λ_ _ _ _ _ _=>len1 λ_=>rfl
  ·exact Jae KX hG f23 Jel k_23.sc k_23.ck λ_ _ _ _ _ _=>len1 λ_=>rfl
  ·exact Jae KX hG f24 Jd3 k_24.sc k_24.ck λ_ _ _ _ _ _=>len1 λ_=>rfl
  ·exact Jae KX hG f25 Jct k_25.sc k_25.ck λ_ _ _ _ _ _=>len1 λ_=>rfl
  ·exact Jae KX hG f26 Ja5 k_26.sc k_26.ck λ_ _ _ _ _ _=>len1 λ_=>rfl
  ·exact Jae KX hG f27 Jci k_27.sc k_27.ck λ_ _ _ _ _ _=>len1 λ_=>rfl
  ·exact Jae KX hG f28 Ja6 k_28.sc k_28.ck λ_ _ _ _ _ _=>len1 λ_=>rfl
  ·exact Jae KX hG f29 Ja7 k_29.sc k_29.ck λ_ _ _ _ _ _=>len1 λ_=>rfl
  ·exact Jae KX hG f30 Jax k_30.sc k_30.ck λ_ _ _ _ _ _=>len1 λ_=>rfl
  ·exact Jae KX hG f31 Jbl k_31.sc k_31.ck λ_ _ _ _ _ _=>len1 λ_=>rfl
  ·exact Jae KX hG f32 Jcj k_32.sc k_32.ck λ_ _ _ _ _ _=>len1 λ_=>rfl
  ·exact Jae KX hG f33 Jdh k_33.sc k_33.ck λ_ _ _ _ _ _=>len2 λ_ _=>rfl
  ·exact Jae KX hG f34 Jbs k_34.sc k_34.ck λ_ _ _ _ _ _=>len1 λ_=>rfl
  ·exact Jae KX hG f35 Jby k_35.sc k_35.ck λ_ _ _ _ _ _=>len1 λ_=>rfl
  ·exact Jae KX hG f36 Jbt k_36.sc k_36.ck λ_ _ _ _ _ _=>len1 λ_=>rfl
  ·exact Jae KX hG f37 Jck k_37.sc k_37.ck λ_ _ _ _ _ _=>len1 λ_=>rfl
  ·exact Jae KX hG f38 Jbz k_38.sc k_38.ck λ_ _ _ _ _ _=>len1 λ_=>rfl
  ·exact Jae KX hG f39 Jbk k_39.sc k_39.ck λ_ _ _ _ _ _=>len1 λ_=>rfl
  ·exact Jae KX hG f40 Jd5 k_40.sc k_40.ck λ_ _ _ _ _ _=>len1 λ_=>rfl
  ·exact Jae KX hG f41 Jcv k_41.sc k_41.ck λ_ _ _ _ _ _=>len2 λ_ _=>rfl
  ·exact Jae KX hG f42 Jem k_42.sc k_42.ck λ_ _ _ _ _ _=>len1 λ_=>rfl
  ·exact Jae KX hG f43 Jd6 k_43.sc k_43.ck λ_ _ _ _ _ _=>len1 λ_=>rfl
  ·exact Jae KX hG f44 Jdg k_44.sc k_44.ck λ_ _ _ _ _ _=>len1 λ_=>rfl
  ·exact Jae KX hG f45 Jcu k_45.sc k_45.ck λ_ _ _ _ _ _=>len2 λ_ _=>rfl
  ·exact Jae KX hG f46 Jd4 k_46.sc k_46.ck λ_ _ _ _ _ _=>len2 λ_ _=>rfl
  ·exact Jae KX hG f47 Jdo k_47.sc k_47.ck λ_ _ _ _ _ _=>len2 λ_ _=>rfl
  ·exact Jae KX hG f48 Jn3 k_48.sc k_48.ck λ_ _ _ _ _ _=>len1 λ_=>rfl
 blt:=by
  intro x hx;simp only[B,List.mem_cons,List.not_mem_nil,or_false]at hx;rcases hx with rfl|rfl|rfl|rfl|rfl|rfl|rfl|rfl|rfl|rfl|rfl
  ·exact Jfk KX hG b0
  ·exact Jfk KX hG b1
  ·exact Jfk KX hG b2
  ·exact Jfk KX hG b3
  ·exact Jfk KX hG b4
  ·exact Jfk KX hG b5
  ·exact Jfk KX hG b6
  ·exact Jfk KX hG b7
  ·exact Jfk KX hG b8
  ·exact Jfk KX hG b9
  ·exact Jfk KX hG b10
 gl:=by
  intro x d hd;unfold G at hd;rcases Jaw hd with⟨rfl,rfl⟩|hd
  ·exact Jhi KX hG g0
  rcases Jaw hd with⟨rfl,rfl⟩|hd
  ·exact Jhi KX hG g1
  rcases Jaw hd with⟨rfl,rfl⟩|hd
  ·exact Jm9 KX hG g2
  rcases Jaw hd with⟨rfl,rfl⟩|hd
  ·exact Jm9 KX hG g3
  rcases Jaw hd with⟨rfl,rfl⟩|hd
  ·exact Jhi KX hG g4
  rcases Jaw hd with⟨rfl,rfl⟩|hd
  ·exact Jhi KX hG g5
  rcases Jaw hd with⟨rfl,rfl⟩|hd
  ·exact Jhi KX hG g6
  rcases Jaw hd with⟨rfl,rfl⟩|hd
  ·exact Jhi KX hG g7
  rcases Jaw hd with⟨rfl,rfl⟩|hd
  ·exact Jhi KX hG g8
  rcases Jaw hd with⟨rfl,rfl⟩|hd
  ·exact Jm9 KX hG g9
  rcases Jaw hd with⟨rfl,rfl⟩|hd
  ·exact Jhi KX hG g10
  rcases Jaw hd with⟨rfl,rfl⟩|hd
  ·exact Jm9 KX hG g11
  rcases Jaw hd with⟨rfl,rfl⟩|hd
  ·exact Jm9 KX hG g12
  cases hd
 mts:=λ_ _ _ h=>by simp[O]at h
 fds:=λ_ _ h=>by simp[O]at h
 nws:=λ_ _ h=>by simp[O]at h
 rss:=by
  intro c hc;simp only[O,List.mem_cons,List.not_mem_nil,or_false]at hc;rcases hc with rfl|rfl|rfl|rfl
  ·exact Ji2 KX hG xr0
  ·exact Ji2 KX hG xr1
  ·exact Ji2 KX hG xr2
  ·exact Ji2 KX hG xr3
 exs:=by
  intro x c ts hx;simp only[O,List.mem_cons,List.not_mem_nil,or_false,Prod.mk.injEq]at hx;rcases hx with⟨rfl,rfl,rfl⟩|⟨rfl,rfl,rfl⟩|⟨rfl,rfl,rfl⟩|⟨rfl,rfl,rfl⟩
  ·refine Jjt KX hG xt0 λCa n t b hb=>?_;simp only[List.mem_cons,List.not_mem_nil,or_false,Prod.mk.injEq]at hb;rcases hb with⟨rfl,rfl⟩|⟨rfl,rfl⟩|⟨rfl,rfl⟩|⟨rfl,rfl⟩
   ·exact isI KX hG n xi0_0
   ·exact isI KX hG n xi0_1
   ·exact isI KX hG n xi0_2
   ·exact isI KX hG n xi0_3
  ·refine Jjt KX hG xt1 λCa n t b hb=>?_;simp only[List.mem_cons,List.not_mem_nil,or_false,Prod.mk.injEq]at hb;rcases hb with⟨rfl,rfl⟩|⟨rfl,rfl⟩|⟨rfl,rfl⟩|⟨rfl,rfl⟩
   ·exact isI KX hG n xi1_0
   ·exact isI KX hG n xi1_1
   ·exact isI KX hG n xi1_2
   ·exact isI KX hG n xi1_3
  ·refine Jjt KX hG xt2 λCa n t b hb=>?_;simp only[List.mem_cons,List.not_mem_nil,or_false,Prod.mk.injEq]at hb;rcases hb with⟨rfl,rfl⟩|⟨rfl,rfl⟩|⟨rfl,rfl⟩|⟨rfl,rfl⟩
   ·exact isI KX hG n xi2_0
   ·exact isI KX hG n xi2_1
   ·exact isI KX hG n xi2_2
   ·exact isI KX hG n xi2_3
  ·refine Jjt KX hG xt3 λCa n t b hb=>?_;simp only[List.mem_cons,List.not_mem_nil,or_false,Prod.mk.injEq]at hb;rcases hb with⟨rfl,rfl⟩|⟨rfl,rfl⟩|⟨rfl,rfl⟩|⟨rfl,rfl⟩
   ·exact isI KX hG n xi3_0
   ·exact isI KX hG n xi3_1
   ·exact isI KX hG n xi3_2
   ·exact isI KX hG n xi3_3
 rzs:=by
  intro f hf;simp only[O,List.mem_cons,List.not_mem_nil,or_false]at hf;rcases hf with rfl|rfl|rfl|rfl|rfl|rfl|rfl|rfl|rfl|rfl|rfl|rfl|rfl|rfl|rfl|rfl
  ·exact⟨_,Jdp,rfl⟩
  ·exact⟨_,Jbd,rfl⟩
  ·exact⟨_,Ja5,rfl⟩
  ·exact⟨_,Jci,rfl⟩
  ·exact⟨_,Ja6,rfl⟩
  ·exact⟨_,Ja7,rfl⟩
  ·exact⟨_,Jax,rfl⟩
  ·exact⟨_,Jbl,rfl⟩
  ·exact⟨_,Jcj,rfl⟩
  ·exact⟨_,Jbs,rfl⟩
  ·exact⟨_,Jby,rfl⟩
  ·exact⟨_,Jbt,rfl⟩
  ·exact⟨_,Jck,rfl⟩
  ·exact⟨_,Jbz,rfl⟩
  ·exact⟨_,Jbk,rfl⟩
  ·exact⟨_,Jcu,rfl⟩
end K66
namespace K66
open PySem L2 Mi PySem.W
noncomputable abbrev kE(P:Params)(x:Str)(t:Nat)(v:Value):DictEntry:=⟨PyData.keyHash P x,.str x t,v⟩
noncomputable def q:Program:={PySem.Challenge.pw_spentonce_k66_whole_texts_read_are_shown with main:={PySem.Challenge.pw_spentonce_k66_whole_texts_read_are_shown.main with body:=[1,2,3,4,5,7,8,9,11,12,13,14,15,16,17,18,19,20,21,23,24,25,26,27,28,29,30,31,32,34,35,36,37,39,40,41,42,43,44,45,46,48,49,50,51,52,53,54,55,56,57,58,59,60,61,62,63,64,66,67,68,69,70,71,72,73,74].map top}}
noncomputable abbrev yT(xs:Array Value):PySem.Obj:=⟨.type "tuple",none,.seq xs 0,#[]⟩
noncomputable abbrev yN:PySem.Obj:=⟨.none,none,.fields #[],#[]⟩
noncomputable abbrev yC(n:Str)(a b c:Nat)(l:Int)(x y z u:Int)(r:Nat)(f:Bool)(r2:Nat)(v1 v2 v3 v4:Value)(h:Int)(k:Nat):PySem.Obj:=⟨.type "code",none,.fields #[.str n a,.str n b,.str "/claim/cut.py" c,.int l 0,.int x 0,.int y 0,.int z 0,.int u 0,.ref r,.bool f,.int 181 0,.ref r2,v1,v2,v3,v4,.int h 0,.int l 0,.str "/claim/cut.py" k],#[]⟩
noncomputable abbrev yQ(n:Str)(t:Stmt):PySem.Obj:=⟨.none,none,.func ⟨n,n,defArgs t,.stmts (defBody t),defScope t,0,[],.none,.none,.none,.none,none,.none,.none,0⟩,#[]⟩
noncomputable abbrev yU(n:Str)(t:Stmt)(m:Str)(k c:Nat):PySem.Obj:=⟨.type "function",none,.func ⟨n,n,defArgs t,.stmts (defBody t),defScope t,3,[],.none,.none,.none,.str m k,none,.ref c,.none,0⟩,#[]⟩
noncomputable abbrev o3(P:Params):PySem.Obj:=⟨(.type "dict"),none,(.dict #[kE P "__name__" 165 (.str "law_spentonce_k66_whole_texts_read_are_shown" 601),kE P "__doc__" 166 .none,kE P "__package__" 167 .none,kE P "__loader__" 168 (.builtin "__main__.__loader__#opaque"),kE P "__spec__" 169 .none,kE P "__annotations__" 170 (.ref 6),kE P "__builtins__" 171 (.ref 4),kE P "__file__" 173 (.str "/claim/cut.py" 172),kE P "__cached__" 174 .none,kE P "CoinError" 206 (.ref 24),kE P "NoLock" 222 (.ref 37),kE P "NoDeed" 238 (.ref 49),kE P "NoBlock" 254 (.ref 61),kE P "NoText" 270 (.ref 73),kE P "is_whole" 279 (.ref 82),kE P "is_within" 288 (.ref 89),kE P "is_tuple" 297 (.ref 96),kE P "MOST_ROWS" 301 (.int 30 300),kE P "MOST_KEYS" 303 (.int 10 302),kE P "MOST_IFS_WITHIN" 305 (.int 5 304),kE P "LAST_PLACE" 307 (.int 9 306),kE P "PLACE_WORDS" 310 (.ref 97),kE P "LONE_WORDS" 328 (.ref 98),kE P "is_lock" 334 (.ref 103),kE P "are_keys" 340 (.ref 108),kE P "is_short" 347 (.ref 115),kE P "is_row" 354 (.ref 122),kE P "ifs_fit" 363 (.ref 129),kE P "MOST_INS" 367 (.int 8 366),kE P "MOST_OUTS" 369 (.int 8 368),kE P "checked" 376 (.ref 136),kE P "is_maker" 383 (.ref 143),kE P "is_deed" 390 (.ref 150),kE P "are_ins" 396 (.ref 155),kE P "is_in" 403 (.ref 162),kE P "is_coin" 409 (.ref 167),kE P "are_outs" 415 (.ref 172),kE P "is_out" 422 (.ref 179),kE P "MOST_DEEDS" 426 (.int 12 425),kE P "checked_block" 433 (.ref 186),kE P "is_block" 440 (.ref 193),kE P "are_deeds" 446 (.ref 198),kE P "EMPTY_LOCK" 450 (.str "-" 449),kE P "shown_coin" 456 (.ref 203),kE P "shown_lock" 462 (.ref 208),kE P "shown_row" 468 (.ref 213),kE P "shown_deed" 474 (.ref 218),kE P "shown_in" 480 (.ref 223),kE P "shown_out" 487 (.ref 230),kE P "shown_block" 493 (.ref 235),kE P "MOST_FIGURES" 497 (.int 60 496),kE P "FIGURES" 499 (.str "0123456789" 498),kE P "SMALL_LETTERS" 501 (.str "abcdefghijklmnopqrstuvwxyz" 500),kE P "read_number" 508 (.ref 242),kE P "read_coin" 514 (.ref 247),kE P "read_lock" 522 (.ref 254),kE P "read_deed" 529 (.ref 261),kE P "read_block" 536 (.ref 268),kE P "checked_text" 543 (.ref 275),kE P "is_number" 551 (.ref 282),kE P "is_made_of" 557 (.ref 287),kE P "formed_lock" 563 (.ref 292),kE P "formed_row" 569 (.ref 297),kE P "formed_deed" 580 (.ref 304),kE P "formed_in" 586 (.ref 309),kE P "formed_out" 594 (.ref 316),kE P "formed_block" 600 (.ref 321),kE P "_law_mixed" 609 (.ref 328),kE P "_law_cell" 617 (.ref 335),kE P "_law_word" 625 (.ref 342),kE P "_law_joint" 632 (.ref 349),kE P "_law_pieces" 638 (.ref 354),kE P "_law_read" 646 (.ref 361),kE P "_law_shown" 654 (.ref 368),kE P "_law_one" 660 (.ref 373),kE P "law" 672 (.ref 380)] 76),#[]⟩
noncomputable abbrev o11:=yT #[]
noncomputable abbrev o12:PySem.Obj:=⟨.none,none,(.fields #[(.int 2 0),(.int 0 0),(.ref 20),(.int 4 0),(.int 0 0),(.ref 33),(.int 6 0),(.int 0 0),(.ref 45),(.int 8 0),(.int 0 0),(.ref 57),(.int 10 0),(.int 0 0),(.ref 69),(.int 13 0),(.int 0 0),(.ref 81),(.int 15 0),(.int 0 0),(.ref 88),(.int 17 0),(.int 0 0),(.ref 95),(.int 26 0),(.int 0 0),(.ref 102),(.int 30 0),(.int 0 0),(.ref 107),(.int 32 0),(.int 0 0),(.ref 114),(.int 34 0),(.int 0 0),(.ref 121),(.int 42 0),(.int 0 0),(.ref 128),(.int 61 0),(.int 0 0),(.ref 135),(.int 65 0),(.int 0 0),(.ref 142),(.int 67 0),(.int 0 0),(.ref 149),(.int 71 0),(.int 0 0),(.ref 154),(.int 73 0),(.int 0 0),(.ref 161),(.int 75 0),(.int 0 0),(.ref 166),(.int 77 0),(.int 0 0),(.ref 171),(.int 79 0),(.int 0 0),(.ref 178),(.int 83 0),(.int 0 0),(.ref 185),(.int 87 0),(.int 0 0),(.ref 192),(.int 91 0),(.int 0 0),(.ref 197),(.int 97 0),(.int 0 0),(.ref 202),(.int 99 0),(.int 0 0),(.ref 207),(.int 103 0),(.int 0 0),(.ref 212),(.int 105 0),(.int 0 0),(.ref 217),(.int 109 0),(.int 0 0),(.ref 222),(.int 111 0),(.int 0 0),(.ref 229),(.int 113 0),(.int 0 0),(.ref 234),(.int 120 0),(.int 0 0),(.ref 241),(.int 124 0),(.int 0 0),(.ref 246),(.int 129 0),(.int 0 0),(.ref 253),(.int 134 0),(.int 0 0),(.ref 260),(.int 136 0),(.int 0 0),(.ref 267),(.int 138 0),(.int 0 0),(.ref 274),(.int 142 0),(.int 0 0),(.ref 281),(.int 147 0),(.int 0 0),(.ref 286),(.int 149 0),(.int 0 0),(.ref 291),(.int 153 0),(.int 0 0),(.ref 296),(.int 158 0),(.int 0 0),(.ref 303),(.int 168 0),(.int 0 0),(.ref 308),(.int 171 0),(.int 0 0),(.ref 315),(.int 176 0),(.int 0 0),(.ref 320),(.int 184 0),(.int 0 0),(.ref 327),(.int 186 0),(.int 0 0),(.ref 334),(.int 190 0),(.int 0 0),(.ref 341),(.int 195 0),(.int 0 0),(.ref 348),(.int 197 0),(.int 0 0),(.ref 353),(.int 210 0),(.int 0 0),(.ref 360),(.int 216 0),(.int 0 0),(.ref 367),(.int 222 0),(.int 0 0),(.ref 372),(.int 238 0),(.int 0 0),(.ref 379)]),#[]⟩
noncomputable abbrev o13:=yC "<module>" 182 183 184 1 0 0 0 0 11 false 12 .none .none .none .none 185 186
noncomputable abbrev o14:PySem.Obj:=⟨(.type "frame"),none,.plain,#[(some (.ref 13)),(some (.ref 3)),(some (.ref 3)),none,(some (.str "__main__" 164)),none,(some (.ref 0))]⟩
noncomputable abbrev o15:=yT #[(.type "ValueError")]
noncomputable abbrev o16:PySem.Obj:=⟨(.type "builtin_function_or_method"),none,(.fields #[(.builtin "type.__prepare__"),(.type "type")]),#[]⟩
noncomputable abbrev o17(P:Params):PySem.Obj:=⟨(.type "dict"),none,(.dict #[kE P "__module__" 196 (.str "spentonce.errors" 187),kE P "__qualname__" 198 (.str "CoinError" 197),kE P "__firstlineno__" 200 (.int 2 199),kE P "__static_attributes__" 201 (.ref 22)] 4),#[]⟩
noncomputable abbrev o19:=yN
noncomputable abbrev o20:=yC "CoinError" 191 192 193 2 0 0 0 0 18 false 19 .none .none .none .none 194 195
noncomputable abbrev o21:PySem.Obj:=⟨(.type "frame"),none,.plain,#[(some (.ref 20)),(some (.ref 3)),(some (.ref 17)),none,(some (.str "spentonce.errors" 187)),none,(some (.ref 0))]⟩
noncomputable abbrev o23(P:Params):PySem.Obj:=⟨(.type "dict"),none,(.dict #[kE P "__module__" 196 (.str "spentonce.errors" 187),kE P "__firstlineno__" 200 (.int 2 199),kE P "__static_attributes__" 201 (.ref 22),kE P "__weakref__" 203 (.ref 25),kE P "__doc__" 204 .none] 3),#[]⟩
noncomputable abbrev o24:PySem.Obj:=⟨(.type "type"),none,(.cls ⟨"CoinError",[(.type "ValueError")],[(.ref 24),(.type "ValueError"),(.type "Exception"),(.type "BaseException"),(.type "object")],23,"CoinError",true,[],[(.ref 37),(.ref 49),(.ref 61),(.ref 73)],false,none,false⟩),#[(some (.ref 15)),none,(some (.str "CoinError" 189)),(some (.str "CoinError" 197)),(some (.builtin "ValueError.__new__")),(some (.bool true))]⟩
noncomputable abbrev o25:PySem.Obj:=⟨(.type "getset_descriptor"),none,(.fields #[(.str "__weakref__" 202),(.ref 24),(.builtin "ExceptionGroup.__weakref__"),.none]),#[]⟩
noncomputable abbrev o26:PySem.Obj:=⟨(.type "super"),none,(.fields #[(.ref 24),(.ref 24),(.ref 24)]),#[]⟩
noncomputable abbrev o27:PySem.Obj:=⟨(.type "builtin_function_or_method"),none,(.fields #[(.builtin "object.__init_subclass__"),(.ref 24)]),#[]⟩
noncomputable abbrev o28:=yT #[(.ref 24)]
noncomputable abbrev o30(P:Params):PySem.Obj:=⟨(.type "dict"),none,(.dict #[kE P "__module__" 214 (.str "spentonce.errors" 187),kE P "__qualname__" 216 (.str "NoLock" 215),kE P "__firstlineno__" 218 (.int 4 217),kE P "__static_attributes__" 219 (.ref 35)] 4),#[]⟩
noncomputable abbrev o33:=yC "NoLock" 209 210 211 4 0 0 0 0 31 false 32 .none .none .none .none 212 213
noncomputable abbrev o34:PySem.Obj:=⟨(.type "frame"),none,.plain,#[(some (.ref 33)),(some (.ref 3)),(some (.ref 30)),none,(some (.str "spentonce.errors" 187)),none,(some (.ref 0))]⟩
noncomputable abbrev o36(P:Params):PySem.Obj:=⟨(.type "dict"),none,(.dict #[kE P "__module__" 214 (.str "spentonce.errors" 187),kE P "__firstlineno__" 218 (.int 4 217),kE P "__static_attributes__" 219 (.ref 35),kE P "__doc__" 220 .none] 2),#[]⟩
noncomputable abbrev o37:PySem.Obj:=⟨(.type "type"),none,(.cls ⟨"NoLock",[(.ref 24)],[(.ref 37),(.ref 24),(.type "ValueError"),(.type "Exception"),(.type "BaseException"),(.type "object")],36,"NoLock",true,[],[],false,none,false⟩),#[(some (.ref 28)),none,(some (.str "NoLock" 207)),(some (.str "NoLock" 215)),(some (.builtin "ValueError.__new__")),(some (.bool true))]⟩
noncomputable abbrev o38:PySem.Obj:=⟨(.type "super"),none,(.fields #[(.ref 37),(.ref 37),(.ref 37)]),#[]⟩
noncomputable abbrev o39:PySem.Obj:=⟨(.type "builtin_function_or_method"),none,(.fields #[(.builtin "object.__init_subclass__"),(.ref 37)]),#[]⟩
noncomputable abbrev o42(P:Params):PySem.Obj:=⟨(.type "dict"),none,(.dict #[kE P "__module__" 230 (.str "spentonce.errors" 187),kE P "__qualname__" 232 (.str "NoDeed" 231),kE P "__firstlineno__" 234 (.int 6 233),kE P "__static_attributes__" 235 (.ref 47)] 4),#[]⟩
noncomputable abbrev o45:=yC "NoDeed" 225 226 227 6 0 0 0 0 43 false 44 .none .none .none .none 228 229
noncomputable abbrev o46:PySem.Obj:=⟨(.type "frame"),none,.plain,#[(some (.ref 45)),(some (.ref 3)),(some (.ref 42)),none,(some (.str "spentonce.errors" 187)),none,(some (.ref 0))]⟩
noncomputable abbrev o48(P:Params):PySem.Obj:=⟨(.type "dict"),none,(.dict #[kE P "__module__" 230 (.str "spentonce.errors" 187),kE P "__firstlineno__" 234 (.int 6 233),kE P "__static_attributes__" 235 (.ref 47),kE P "__doc__" 236 .none] 2),#[]⟩
noncomputable abbrev o49:PySem.Obj:=⟨(.type "type"),none,(.cls ⟨"NoDeed",[(.ref 24)],[(.ref 49),(.ref 24),(.type "ValueError"),(.type "Exception"),(.type "BaseException"),(.type "object")],48,"NoDeed",true,[],[],false,none,false⟩),#[(some (.ref 40)),none,(some (.str "NoDeed" 223)),(some (.str "NoDeed" 231)),(some (.builtin "ValueError.__new__")),(some (.bool true))]⟩
noncomputable abbrev o50:PySem.Obj:=⟨(.type "super"),none,(.fields #[(.ref 49),(.ref 49),(.ref 49)]),#[]⟩
noncomputable abbrev o51:PySem.Obj:=⟨(.type "builtin_function_or_method"),none,(.fields #[(.builtin "object.__init_subclass__"),(.ref 49)]),#[]⟩
noncomputable abbrev o54(P:Params):PySem.Obj:=⟨(.type "dict"),none,(.dict #[kE P "__module__" 246 (.str "spentonce.errors" 187),kE P "__qualname__" 248 (.str "NoBlock" 247),kE P "__firstlineno__" 250 (.int 8 249),kE P "__static_attributes__" 251 (.ref 59)] 4),#[]⟩
noncomputable abbrev o57:=yC "NoBlock" 241 242 243 8 0 0 0 0 55 false 56 .none .none .none .none 244 245
noncomputable abbrev o58:PySem.Obj:=⟨(.type "frame"),none,.plain,#[(some (.ref 57)),(some (.ref 3)),(some (.ref 54)),none,(some (.str "spentonce.errors" 187)),none,(some (.ref 0))]⟩
noncomputable abbrev o60(P:Params):PySem.Obj:=⟨(.type "dict"),none,(.dict #[kE P "__module__" 246 (.str "spentonce.errors" 187),kE P "__firstlineno__" 250 (.int 8 249),kE P "__static_attributes__" 251 (.ref 59),kE P "__doc__" 252 .none] 2),#[]⟩
noncomputable abbrev o61:PySem.Obj:=⟨(.type "type"),none,(.cls ⟨"NoBlock",[(.ref 24)],[(.ref 61),(.ref 24),(.type "ValueError"),(.type "Exception"),(.type "BaseException"),(.type "object")],60,"NoBlock",true,[],[],false,none,false⟩),#[(some (.ref 52)),none,(some (.str "NoBlock" 239)),(some (.str "NoBlock" 247)),(some (.builtin "ValueError.__new__")),(some (.bool true))]⟩
noncomputable abbrev o62:PySem.Obj:=⟨(.type "super"),none,(.fields #[(.ref 61),(.ref 61),(.ref 61)]),#[]⟩
noncomputable abbrev o63:PySem.Obj:=⟨(.type "builtin_function_or_method"),none,(.fields #[(.builtin "object.__init_subclass__"),(.ref 61)]),#[]⟩
noncomputable abbrev o66(P:Params):PySem.Obj:=⟨(.type "dict"),none,(.dict #[kE P "__module__" 262 (.str "spentonce.errors" 187),kE P "__qualname__" 264 (.str "NoText" 263),kE P "__firstlineno__" 266 (.int 10 265),kE P "__static_attributes__" 267 (.ref 71)] 4),#[]⟩
noncomputable abbrev o69:=yC "NoText" 257 258 259 10 0 0 0 0 67 false 68 .none .none .none .none 260 261
noncomputable abbrev o70:PySem.Obj:=⟨(.type "frame"),none,.plain,#[(some (.ref 69)),(some (.ref 3)),(some (.ref 66)),none,(some (.str "spentonce.errors" 187)),none,(some (.ref 0))]⟩
noncomputable abbrev o72(P:Params):PySem.Obj:=⟨(.type "dict"),none,(.dict #[kE P "__module__" 262 (.str "spentonce.errors" 187),kE P "__firstlineno__" 266 (.int 10 265),kE P "__static_attributes__" 267 (.ref 71),kE P "__doc__" 268 .none] 2),#[]⟩
noncomputable abbrev o73:PySem.Obj:=⟨(.type "type"),none,(.cls ⟨"NoText",[(.ref 24)],[(.ref 73),(.ref 24),(.type "ValueError"),(.type "Exception"),(.type "BaseException"),(.type "object")],72,"NoText",true,[],[],false,none,false⟩),#[(some (.ref 64)),none,(some (.str "NoText" 255)),(some (.str "NoText" 263)),(some (.builtin "ValueError.__new__")),(some (.bool true))]⟩
noncomputable abbrev o74:PySem.Obj:=⟨(.type "super"),none,(.fields #[(.ref 73),(.ref 73),(.ref 73)]),#[]⟩
noncomputable abbrev o75:PySem.Obj:=⟨(.type "builtin_function_or_method"),none,(.fields #[(.builtin "object.__init_subclass__"),(.ref 73)]),#[]⟩
noncomputable abbrev o78:=yT #[(.str "thing" 276)]
noncomputable abbrev o80:=yQ "is_whole" (top 7)
noncomputable abbrev o81:=yC "is_whole" 273 274 275 13 1 0 0 3 76 true 77 .none (.ref 78) (.ref 79) (.ref 80) 277 278
noncomputable abbrev o82:=yU "is_whole" (top 7) "spentonce.whole" 271 81
noncomputable abbrev o85:=yT #[(.str "thing" 283),(.str "least" 284),(.str "most" 285)]
noncomputable abbrev o87:=yQ "is_within" (top 8)
noncomputable abbrev o88:=yC "is_within" 280 281 282 15 3 0 0 3 83 true 84 .none (.ref 85) (.ref 86) (.ref 87) 286 287
noncomputable abbrev o89:=yU "is_within" (top 8) "spentonce.whole" 271 88
noncomputable abbrev o92:=yT #[(.str "thing" 292),(.str "least" 293),(.str "most" 294)]
noncomputable abbrev o94:=yQ "is_tuple" (top 9)
noncomputable abbrev o95:=yC "is_tuple" 289 290 291 17 3 0 0 3 90 true 91 .none (.ref 92) (.ref 93) (.ref 94) 295 296
noncomputable abbrev o96:=yU "is_tuple" (top 9) "spentonce.whole" 271 95
noncomputable abbrev o97:=yT #[(.str "copy" 308),(.str "paid" 309)]
noncomputable abbrev o98:=yT #[(.str "drop" 311),(.str "swap" 312),(.str "add" 313),(.str "sub" 314),(.str "mul" 315),(.str "less" 316),(.str "same" 317),(.str "not" 318),(.str "need" 319),(.str "height" 320),(.str "age" 321),(.str "worth" 322),(.str "ins" 323),(.str "outs" 324),(.str "if" 325),(.str "else" 326),(.str "end" 327)]
noncomputable abbrev o101:=yQ "is_lock" (top 17)
noncomputable abbrev o102:=yC "is_lock" 329 330 331 26 1 0 0 3 99 true 100 .none .none .none (.ref 101) 332 333
noncomputable abbrev o103:=yU "is_lock" (top 17) "spentonce.locks" 298 102
noncomputable abbrev o106:=yQ "are_keys" (top 18)
noncomputable abbrev o107:=yC "are_keys" 335 336 337 30 1 0 0 3 104 true 105 .none .none .none (.ref 106) 338 339
noncomputable abbrev o108:=yU "are_keys" (top 18) "spentonce.locks" 298 107
noncomputable abbrev o111:=yT #[(.str "thing" 344)]
noncomputable abbrev o113:=yQ "is_short" (top 19)
noncomputable abbrev o114:=yC "is_short" 341 342 343 32 1 0 0 3 109 true 110 .none (.ref 111) (.ref 112) (.ref 113) 345 346
noncomputable abbrev o115:=yU "is_short" (top 19) "spentonce.locks" 298 114
noncomputable abbrev o118:=yT #[(.str "thing" 351)]
noncomputable abbrev o120:=yQ "is_row" (top 20)
noncomputable abbrev o121:=yC "is_row" 348 349 350 34 1 0 0 3 116 true 117 .none (.ref 118) (.ref 119) (.ref 120) 352 353
noncomputable abbrev o122:=yU "is_row" (top 20) "spentonce.locks" 298 121
noncomputable abbrev o125:=yT #[(.str "rows" 358),(.str "elses" 359),(.str "row" 360)]
noncomputable abbrev o127:=yQ "ifs_fit" (top 21)
noncomputable abbrev o128:=yC "ifs_fit" 355 356 357 42 1 0 0 3 123 true 124 .none (.ref 125) (.ref 126) (.ref 127) 361 362
noncomputable abbrev o129:=yU "ifs_fit" (top 21) "spentonce.locks" 298 128
noncomputable abbrev o132:=yT #[(.str "thing" 373)]
noncomputable abbrev o134:=yQ "checked" (top 25)
noncomputable abbrev o135:=yC "checked" 370 371 372 61 1 0 0 3 130 true 131 .none (.ref 132) (.ref 133) (.ref 134) 374 375
noncomputable abbrev o136:=yU "checked" (top 25) "spentonce.deeds" 364 135
noncomputable abbrev o139:=yT #[(.str "deed" 380)]
noncomputable abbrev o141:=yQ "is_maker" (top 26)
noncomputable abbrev o142:=yC "is_maker" 377 378 379 65 1 0 0 3 137 true 138 .none (.ref 139) (.ref 140) (.ref 141) 381 382
noncomputable abbrev o143:=yU "is_maker" (top 26) "spentonce.deeds" 364 142
noncomputable abbrev o146:=yT #[(.str "thing" 387)]
noncomputable abbrev o148:=yQ "is_deed" (top 27)
noncomputable abbrev o149:=yC "is_deed" 384 385 386 67 1 0 0 3 144 true 145 .none (.ref 146) (.ref 147) (.ref 148) 388 389
noncomputable abbrev o150:=yU "is_deed" (top 27) "spentonce.deeds" 364 149
noncomputable abbrev o153:=yQ "are_ins" (top 28)
noncomputable abbrev o154:=yC "are_ins" 391 392 393 71 1 0 0 3 151 true 152 .none .none .none (.ref 153) 394 395
noncomputable abbrev o155:=yU "are_ins" (top 28) "spentonce.deeds" 364 154
noncomputable abbrev o158:=yT #[(.str "thing" 400)]
noncomputable abbrev o160:=yQ "is_in" (top 29)
noncomputable abbrev o161:=yC "is_in" 397 398 399 73 1 0 0 3 156 true 157 .none (.ref 158) (.ref 159) (.ref 160) 401 402
noncomputable abbrev o162:=yU "is_in" (top 29) "spentonce.deeds" 364 161
noncomputable abbrev o165:=yQ "is_coin" (top 30)
noncomputable abbrev o166:=yC "is_coin" 404 405 406 75 1 0 0 3 163 true 164 .none .none .none (.ref 165) 407 408
noncomputable abbrev o167:=yU "is_coin" (top 30) "spentonce.deeds" 364 166
noncomputable abbrev o170:=yQ "are_outs" (top 31)
noncomputable abbrev o171:=yC "are_outs" 410 411 412 77 1 0 0 3 168 true 169 .none .none .none (.ref 170) 413 414
noncomputable abbrev o172:=yU "are_outs" (top 31) "spentonce.deeds" 364 171
noncomputable abbrev o175:=yT #[(.str "thing" 419)]
noncomputable abbrev o177:=yQ "is_out" (top 32)
noncomputable abbrev o178:=yC "is_out" 416 417 418 79 1 0 0 3 173 true 174 .none (.ref 175) (.ref 176) (.ref 177) 420 421
noncomputable abbrev o179:=yU "is_out" (top 32) "spentonce.deeds" 364 178
noncomputable abbrev o182:=yT #[(.str "thing" 430)]
noncomputable abbrev o184:=yQ "checked_block" (top 35)
noncomputable abbrev o185:=yC "checked_block" 427 428 429 83 1 0 0 3 180 true 181 .none (.ref 182) (.ref 183) (.ref 184) 431 432
noncomputable abbrev o186:=yU "checked_block" (top 35) "spentonce.blocks" 423 185
noncomputable abbrev o189:=yT #[(.str "thing" 437)]
noncomputable abbrev o191:=yQ "is_block" (top 36)
noncomputable abbrev o192:=yC "is_block" 434 435 436 87 1 0 0 3 187 true 188 .none (.ref 189) (.ref 190) (.ref 191) 438 439
noncomputable abbrev o193:=yU "is_block" (top 36) "spentonce.blocks" 423 192
noncomputable abbrev o196:=yQ "are_deeds" (top 37)
noncomputable abbrev o197:=yC "are_deeds" 441 442 443 91 1 0 0 3 194 true 195 .none .none .none (.ref 196) 444 445
noncomputable abbrev o198:=yU "are_deeds" (top 37) "spentonce.blocks" 423 197
noncomputable abbrev o201:=yQ "shown_coin" (top 40)
noncomputable abbrev o202:=yC "shown_coin" 451 452 453 97 1 0 0 3 199 true 200 .none .none .none (.ref 201) 454 455
noncomputable abbrev o203:=yU "shown_coin" (top 40) "spentonce.showing" 447 202
noncomputable abbrev o206:=yQ "shown_lock" (top 41)
noncomputable abbrev o207:=yC "shown_lock" 457 458 459 99 1 0 0 3 204 true 205 .none .none .none (.ref 206) 460 461
noncomputable abbrev o208:=yU "shown_lock" (top 41) "spentonce.showing" 447 207
noncomputable abbrev o211:=yQ "shown_row" (top 42)
noncomputable abbrev o212:=yC "shown_row" 463 464 465 103 1 0 0 3 209 true 210 .none .none .none (.ref 211) 466 467
noncomputable abbrev o213:=yU "shown_row" (top 42) "spentonce.showing" 447 212
noncomputable abbrev o216:=yQ "shown_deed" (top 43)
noncomputable abbrev o217:=yC "shown_deed" 469 470 471 105 1 0 0 3 214 true 215 .none .none .none (.ref 216) 472 473
noncomputable abbrev o218:=yU "shown_deed" (top 43) "spentonce.showing" 447 217
noncomputable abbrev o221:=yQ "shown_in" (top 44)
noncomputable abbrev o222:=yC "shown_in" 475 476 477 109 1 0 0 3 219 true 220 .none .none .none (.ref 221) 478 479
noncomputable abbrev o223:=yU "shown_in" (top 44) "spentonce.showing" 447 222
noncomputable abbrev o226:=yT #[(.str "part" 484)]
noncomputable abbrev o228:=yQ "shown_out" (top 45)
noncomputable abbrev o229:=yC "shown_out" 481 482 483 111 1 0 0 3 224 true 225 .none (.ref 226) (.ref 227) (.ref 228) 485 486
noncomputable abbrev o230:=yU "shown_out" (top 45) "spentonce.showing" 447 229
noncomputable abbrev o233:=yQ "shown_block" (top 46)
noncomputable abbrev o234:=yC "shown_block" 488 489 490 113 1 0 0 3 231 true 232 .none .none .none (.ref 233) 491 492
noncomputable abbrev o235:=yU "shown_block" (top 46) "spentonce.showing" 447 234
noncomputable abbrev o238:=yT #[(.str "text" 505)]
noncomputable abbrev o240:=yQ "read_number" (top 51)
noncomputable abbrev o241:=yC "read_number" 502 503 504 120 1 0 0 3 236 true 237 .none (.ref 238) (.ref 239) (.ref 240) 506 507
noncomputable abbrev o242:=yU "read_number" (top 51) "spentonce.reading" 494 241
noncomputable abbrev o245:=yQ "read_coin" (top 52)
noncomputable abbrev o246:=yC "read_coin" 509 510 511 124 1 0 0 3 243 true 244 .none .none .none (.ref 245) 512 513
noncomputable abbrev o247:=yU "read_coin" (top 52) "spentonce.reading" 494 246
noncomputable abbrev o250:=yT #[(.str "text" 518),(.str "lock" 519)]
noncomputable abbrev o252:=yQ "read_lock" (top 53)
noncomputable abbrev o253:=yC "read_lock" 515 516 517 129 1 0 0 3 248 true 249 .none (.ref 250) (.ref 251) (.ref 252) 520 521
noncomputable abbrev o254:=yU "read_lock" (top 53) "spentonce.reading" 494 253
noncomputable abbrev o257:=yT #[(.str "text" 526)]
noncomputable abbrev o259:=yQ "read_deed" (top 54)
noncomputable abbrev o260:=yC "read_deed" 523 524 525 134 1 0 0 3 255 true 256 .none (.ref 257) (.ref 258) (.ref 259) 527 528
noncomputable abbrev o261:=yU "read_deed" (top 54) "spentonce.reading" 494 260
noncomputable abbrev o264:=yT #[(.str "text" 533)]
noncomputable abbrev o266:=yQ "read_block" (top 55)
noncomputable abbrev o267:=yC "read_block" 530 531 532 136 1 0 0 3 262 true 263 .none (.ref 264) (.ref 265) (.ref 266) 534 535
noncomputable abbrev o268:=yU "read_block" (top 55) "spentonce.reading" 494 267
noncomputable abbrev o271:=yT #[(.str "thing" 540)]
noncomputable abbrev o273:=yQ "checked_text" (top 56)
noncomputable abbrev o274:=yC "checked_text" 537 538 539 138 1 0 0 3 269 true 270 .none (.ref 271) (.ref 272) (.ref 273) 541 542
noncomputable abbrev o275:=yU "checked_text" (top 56) "spentonce.reading" 494 274
noncomputable abbrev o278:=yT #[(.str "text" 547),(.str "figures" 548)]
noncomputable abbrev o280:=yQ "is_number" (top 57)
noncomputable abbrev o281:=yC "is_number" 544 545 546 142 1 0 0 3 276 true 277 .none (.ref 278) (.ref 279) (.ref 280) 549 550
noncomputable abbrev o282:=yU "is_number" (top 57) "spentonce.reading" 494 281
noncomputable abbrev o285:=yQ "is_made_of" (top 58)
noncomputable abbrev o286:=yC "is_made_of" 552 553 554 147 2 0 0 3 283 true 284 .none .none .none (.ref 285) 555 556
noncomputable abbrev o287:=yU "is_made_of" (top 58) "spentonce.reading" 494 286
noncomputable abbrev o290:=yQ "formed_lock" (top 59)
noncomputable abbrev o291:=yC "formed_lock" 558 559 560 149 1 0 0 3 288 true 289 .none .none .none (.ref 290) 561 562
noncomputable abbrev o292:=yU "formed_lock" (top 59) "spentonce.reading" 494 291
noncomputable abbrev o295:=yQ "formed_row" (top 60)
noncomputable abbrev o296:=yC "formed_row" 564 565 566 153 1 0 0 3 293 true 294 .none .none .none (.ref 295) 567 568
noncomputable abbrev o297:=yU "formed_row" (top 60) "spentonce.reading" 494 296
noncomputable abbrev o300:=yT #[(.str "text" 573),(.str "parts" 574),(.str "ins" 575),(.str "outs" 576),(.str "part" 577)]
noncomputable abbrev o302:=yQ "formed_deed" (top 61)
noncomputable abbrev o303:=yC "formed_deed" 570 571 572 158 1 0 0 3 298 true 299 .none (.ref 300) (.ref 301) (.ref 302) 578 579
noncomputable abbrev o304:=yU "formed_deed" (top 61) "spentonce.reading" 494 303
noncomputable abbrev o307:=yQ "formed_in" (top 62)
noncomputable abbrev o308:=yC "formed_in" 581 582 583 168 1 0 0 3 305 true 306 .none .none .none (.ref 307) 584 585
noncomputable abbrev o309:=yU "formed_in" (top 62) "spentonce.reading" 494 308
noncomputable abbrev o312:=yT #[(.str "text" 590),(.str "words" 591)]
noncomputable abbrev o314:=yQ "formed_out" (top 63)
noncomputable abbrev o315:=yC "formed_out" 587 588 589 171 1 0 0 3 310 true 311 .none (.ref 312) (.ref 313) (.ref 314) 592 593
noncomputable abbrev o316:=yU "formed_out" (top 63) "spentonce.reading" 494 315
noncomputable abbrev o319:=yQ "formed_block" (top 64)
noncomputable abbrev o320:=yC "formed_block" 595 596 597 176 1 0 0 3 317 true 318 .none .none .none (.ref 319) 598 599
noncomputable abbrev o321:=yU "formed_block" (top 64) "spentonce.reading" 494 320
noncomputable abbrev o324:=yT #[(.str "_law_cell_here" 606)]
noncomputable abbrev o326:=yQ "_law_mixed" (top 66)
noncomputable abbrev o327:=yC "_law_mixed" 603 604 605 184 1 0 0 3 322 true 323 .none (.ref 324) (.ref 325) (.ref 326) 607 608
noncomputable abbrev o328:=yU "_law_mixed" (top 66) "law_spentonce_k66_whole_texts_read_are_shown" 601 327
noncomputable abbrev o331:=yT #[(.str "_law_script" 613),(.str "_law_k" 614)]
noncomputable abbrev o333:=yQ "_law_cell" (top 67)
noncomputable abbrev o334:=yC "_law_cell" 610 611 612 186 2 0 0 3 329 true 330 .none (.ref 331) (.ref 332) (.ref 333) 615 616
noncomputable abbrev o335:=yU "_law_cell" (top 67) "law_spentonce_k66_whole_texts_read_are_shown" 601 334
noncomputable abbrev o338:=yT #[(.str "_law_number" 621),(.str "_law_some" 622)]
noncomputable abbrev o340:=yQ "_law_word" (top 68)
noncomputable abbrev o341:=yC "_law_word" 618 619 620 190 1 0 0 3 336 true 337 .none (.ref 338) (.ref 339) (.ref 340) 623 624
noncomputable abbrev o342:=yU "_law_word" (top 68) "law_spentonce_k66_whole_texts_read_are_shown" 601 341
noncomputable abbrev o345:=yT #[(.str "_law_number" 629)]
noncomputable abbrev o347:=yQ "_law_joint" (top 69)
noncomputable abbrev o348:=yC "_law_joint" 626 627 628 195 1 0 0 3 343 true 344 .none (.ref 345) (.ref 346) (.ref 347) 630 631
noncomputable abbrev o349:=yU "_law_joint" (top 69) "law_spentonce_k66_whole_texts_read_are_shown" 601 348
noncomputable abbrev o352:=yQ "_law_pieces" (top 70)
noncomputable abbrev o353:=yC "_law_pieces" 633 634 635 197 1 0 0 3 350 true 351 .none .none .none (.ref 352) 636 637
noncomputable abbrev o354:=yU "_law_pieces" (top 70) "law_spentonce_k66_whole_texts_read_are_shown" 601 353
noncomputable abbrev o357:=yT #[(.str "_law_text" 642),(.str "_law_way" 643)]
noncomputable abbrev o359:=yQ "_law_read" (top 71)
noncomputable abbrev o360:=yC "_law_read" 639 640 641 210 2 0 0 3 355 true 356 .none (.ref 357) (.ref 358) (.ref 359) 644 645
noncomputable abbrev o361:=yU "_law_read" (top 71) "law_spentonce_k66_whole_texts_read_are_shown" 601 360
noncomputable abbrev o364:=yT #[(.str "_law_thing" 650),(.str "_law_way" 651)]
noncomputable abbrev o366:=yQ "_law_shown" (top 72)
noncomputable abbrev o367:=yC "_law_shown" 647 648 649 216 2 0 0 3 362 true 363 .none (.ref 364) (.ref 365) (.ref 366) 652 653
noncomputable abbrev o368:=yU "_law_shown" (top 72) "law_spentonce_k66_whole_texts_read_are_shown" 601 367
noncomputable abbrev o371:=yQ "_law_one" (top 73)
noncomputable abbrev o372:=yC "_law_one" 655 656 657 222 2 0 0 3 369 true 370 .none .none .none (.ref 371) 658 659
noncomputable abbrev o373:=yU "_law_one" (top 73) "law_spentonce_k66_whole_texts_read_are_shown" 601 372
noncomputable abbrev o376:=yT #[(.str "_law_script" 664),(.str "_law_text" 665),(.str "_law_way" 666),(.str "_law_k" 667),(.str "_law_block" 668),(.str "_law_some" 669)]
noncomputable abbrev o378:=yQ "law" (top 74)
noncomputable abbrev o379:=yC "law" 661 662 663 238 1 0 0 3 374 true 375 .none (.ref 376) (.ref 377) (.ref 378) 670 671
noncomputable abbrev o380:=yU "law" (top 74) "law_spentonce_k66_whole_texts_read_are_shown" 601 379
noncomputable def Jxw(P:Params):PySem.Heap:=⟨⟨PySem.W.boot_o_0 P::PySem.W.boot_o_1 P::PySem.W.boot_o_2 P::PySem.W.boot_o_3 P::PySem.W.boot_o_4 P::PySem.W.boot_o_5 P::PySem.W.boot_o_6 P::PySem.W.boot_o_7 P::PySem.W.boot_o_8 P::PySem.W.boot_o_9 P::PySem.W.boot_o_10 P::o11::o19::o13::o14::[]⟩,(PySem.W.boot_heap P).life⟩
noncomputable def Jil(P:Params):PySem.Heap:=⟨⟨PySem.W.boot_o_0 P::PySem.W.boot_o_1 P::PySem.W.boot_o_2 P::PySem.W.boot_o_3 P::PySem.W.boot_o_4 P::PySem.W.boot_o_5 P::PySem.W.boot_o_6 P::PySem.W.boot_o_7 P::PySem.W.boot_o_8 P::PySem.W.boot_o_9 P::PySem.W.boot_o_10 P::o11::o19::o13::o14::[]⟩,(PySem.W.boot_heap P).life⟩
noncomputable abbrev Jzk(P:Params):PySem.Obj:=⟨(.type "dict"),none,(.dict #[kE P "__name__" 165 (.str "spentonce.errors" 187),kE P "__doc__" 166 .none,kE P "__package__" 167 .none,kE P "__loader__" 168 (.builtin "__main__.__loader__#opaque"),kE P "__spec__" 169 .none,kE P "__annotations__" 170 (.ref 6),kE P "__builtins__" 171 (.ref 4),kE P "__file__" 173 (.str "/claim/cut.py" 172),kE P "__cached__" 174 .none,kE P "CoinError" 206 (.ref 24),kE P "NoLock" 222 (.ref 37),kE P "NoDeed" 238 (.ref 49),kE P "NoBlock" 254 (.ref 61)] 13),#[]⟩
noncomputable abbrev Jw8:PySem.Obj:=⟨.none,none,(.fields #[(.int 2 0),(.int 0 0),(.ref 20),(.int 4 0),(.int 0 0),(.ref 33),(.int 6 0),(.int 0 0),(.ref 45),(.int 8 0),(.int 0 0),(.ref 57)]),#[]⟩
noncomputable abbrev Jw7:PySem.Obj:=⟨(.type "type"),none,(.cls ⟨"CoinError",[(.type "ValueError")],[(.ref 24),(.type "ValueError"),(.type "Exception"),(.type "BaseException"),(.type "object")],23,"CoinError",true,[],[(.ref 37),(.ref 49),(.ref 61)],false,none,false⟩),#[(some (.ref 15)),none,(some (.str "CoinError" 189)),(some (.str "CoinError" 197)),(some (.builtin "ValueError.__new__")),(some (.bool true))]⟩
noncomputable def h_c4(P:Params):PySem.Heap:=⟨⟨PySem.W.boot_o_0 P::PySem.W.boot_o_1 P::PySem.W.boot_o_2 P::Jzk P::PySem.W.boot_o_4 P::PySem.W.boot_o_5 P::PySem.W.boot_o_6 P::PySem.W.boot_o_7 P::PySem.W.boot_o_8 P::PySem.W.boot_o_9 P::PySem.W.boot_o_10 P::o11::Jw8::o13::o14::o15::o16::o17 P::o11::o19::o20::o21::o11::o23 P::Jw7::o25::o26::o27::o28::o16::o30 P::o11::o19::o33::o34::o11::o36 P::o37::o38::o39::o28::o16::o42 P::o11::o19::o45::o46::o11::o48 P::o49::o50::o51::o28::o16::o54 P::o11::o19::o57::o58::o11::o60 P::o61::o62::o63::[]⟩,(PySem.W.boot_heap P).life⟩
noncomputable abbrev Jw6(P:Params):PySem.Obj:=⟨(.type "dict"),none,(.dict #[kE P "__name__" 165 (.str "spentonce.showing" 447),kE P "__doc__" 166 .none,kE P "__package__" 167 .none,kE P "__loader__" 168 (.builtin "__main__.__loader__#opaque"),kE P "__spec__" 169 .none,kE P "__annotations__" 170 (.ref 6),kE P "__builtins__" 171 (.ref 4),kE P "__file__" 173 (.str "/claim/cut.py" 172),kE P "__cached__" 174 .none,kE P "CoinError" 206 (.ref 24),kE P "NoLock" 222 (.ref 37),kE P "NoDeed" 238 (.ref 49),kE P "NoBlock" 254 (.ref 61),kE P "NoText" 270 (.ref 73),kE P "is_whole" 279 (.ref 82),kE P "is_within" 288 (.ref 89),kE P "is_tuple" 297 (.ref 96),kE P "MOST_ROWS" 301 (.int 30 300),kE P "MOST_KEYS" 303 (.int 10 302),kE P "MOST_IFS_WITHIN" 305 (.int 5 304),kE P "LAST_PLACE" 307 (.int 9 306),kE P "PLACE_WORDS" 310 (.ref 97),kE P "LONE_WORDS" 328 (.ref 98),kE P "is_lock" 334 (.ref 103),kE P "are_keys" 340 (.ref 108),kE P "is_short" 347 (.ref 115),kE P "is_row" 354 (.ref 122),kE P "ifs_fit" 363 (.ref 129),kE P "MOST_INS" 367 (.int 8 366),kE P "MOST_OUTS" 369 (.int 8 368),kE P "checked" 376 (.ref 136),kE P "is_maker" 383 (.ref 143),kE P "is_deed" 390 (.ref 150),kE P "are_ins" 396 (.ref 155),kE P "is_in" 403 (.ref 162),kE P "is_coin" 409 (.ref 167),kE P "are_outs" 415 (.ref 172),kE P "is_out" 422 (.ref 179),kE P "MOST_DEEDS" 426 (.int 12 425),kE P "checked_block" 433 (.ref 186),kE P "is_block" 440 (.ref 193),kE P "are_deeds" 446 (.ref 198),kE P "EMPTY_LOCK" 450 (.str "-" 449),kE P "shown_coin" 456 (.ref 203),kE P "shown_lock" 462 (.ref 208),kE P "shown_row" 468 (.ref 213)] 46),#[]⟩
noncomputable abbrev Jtk:PySem.Obj:=⟨.none,none,(.fields #[(.int 2 0),(.int 0 0),(.ref 20),(.int 4 0),(.int 0 0),(.ref 33),(.int 6 0),(.int 0 0),(.ref 45),(.int 8 0),(.int 0 0),(.ref 57),(.int 10 0),(.int 0 0),(.ref 69),(.int 13 0),(.int 0 0),(.ref 81),(.int 15 0),(.int 0 0),(.ref 88),(.int 17 0),(.int 0 0),(.ref 95),(.int 26 0),(.int 0 0),(.ref 102),(.int 30 0),(.int 0 0),(.ref 107),(.int 32 0),(.int 0 0),(.ref 114),(.int 34 0),(.int 0 0),(.ref 121),(.int 42 0),(.int 0 0),(.ref 128),(.int 61 0),(.int 0 0),(.ref 135),(.int 65 0),(.int 0 0),(.ref 142),(.int 67 0),(.int 0 0),(.ref 149),(.int 71 0),(.int 0 0),(.ref 154),(.int 73 0),(.int 0 0),(.ref 161),(.int 75 0),(.int 0 0),(.ref 166),(.int 77 0),(.int 0 0),(.ref 171),(.int 79 0),(.int 0 0),(.ref 178),(.int 83 0),(.int 0 0),(.ref 185),(.int 87 0),(.int 0 0),(.ref 192),(.int 91 0),(.int 0 0),(.ref 197),(.int 97 0),(.int 0 0),(.ref 202),(.int 99 0),(.int 0 0),(.ref 207),(.int 103 0),(.int 0 0),(.ref 212)]),#[]⟩
noncomputable def Jxy(P:Params):PySem.Heap:=⟨⟨PySem.W.boot_o_0 P::PySem.W.boot_o_1 P::PySem.W.boot_o_2 P::Jw6 P::PySem.W.boot_o_4 P::PySem.W.boot_o_5 P::PySem.W.boot_o_6 P::PySem.W.boot_o_7 P::PySem.W.boot_o_8 P::PySem.W.boot_o_9 P::PySem.W.boot_o_10 P::o11::Jtk::o13::o14::o15::o16::o17 P::o11::o19::o20::o21::o11::o23 P::o24::o25::o26::o27::o28::o16::o30 P::o11::o19::o33::o34::o11::o36 P::o37::o38::o39::o28::o16::o42 P::o11::o19::o45::o46::o11::o48 P::o49::o50::o51::o28::o16::o54 P::o11::o19::o57::o58::o11::o60 P::o61::o62::o63::o28::o16::o66 P::o11::o19::o69::o70::o11::o72 P::o73::o74::o75::o11::o19::o78::o11::o80::o81::o82::o11::o19::o85::o11::o87::o88::o89::o11::o19::o92::o11::o94::o95::o96::o97::o98::o11::o19::o101::o102::o103::o11::o19::o106::o107::o108::o11::o19::o111::o11::o113::o114::o115::o11::o19::o118::o11::o120::o121::o122::o11::o19::o125::o11::o127::o128::o129::o11::o19::o132::o11::o134::o135::o136::o11::o19::o139::o11::o141::o142::o143::o11::o19::o146::o11::o148::o149::o150::o11::o19::o153::o154::o155::o11::o19::o158::o11::o160::o161::o162::o11::o19::o165::o166::o167::o11::o19::o170::o171::o172::o11::o19::o175::o11::o177::o178::o179::o11::o19::o182::o11::o184::o185::o186::o11::o19::o189::o11::o191::o192::o193::o11::o19::o196::o197::o198::o11::o19::o201::o202::o203::o11::o19::o206::o207::o208::o11::o19::o211::o212::o213::[]⟩,(PySem.W.boot_heap P).life⟩
noncomputable def Jxx(P:Params):PySem.Heap:=⟨⟨PySem.W.boot_o_0 P::PySem.W.boot_o_1 P::PySem.W.boot_o_2 P::o3 P::PySem.W.boot_o_4 P::PySem.W.boot_o_5 P::PySem.W.boot_o_6 P::PySem.W.boot_o_7 P::PySem.W.boot_o_8 P::PySem.W.boot_o_9 P::PySem.W.boot_o_10 P::o11::o12::o13::o14::o15::o16::o17 P::o11::o19::o20::o21::o11::o23 P::o24::o25::o26::o27::o28::o16::o30 P::o11::o19::o33::o34::o11::o36 P::o37::o38::o39::o28::o16::o42 P::o11::o19::o45::o46::o11::o48 P::o49::o50::o51::o28::o16::o54 P::o11::o19::o57::o58::o11::o60 P::o61::o62::o63::o28::o16::o66 P::o11::o19::o69::o70::o11::o72 P::o73::o74::o75::o11::o19::o78::o11::o80::o81::o82::o11::o19::o85::o11::o87::o88::o89::o11::o19::o92::o11::o94::o95::o96::o97::o98::o11::o19::o101::o102::o103::o11::o19::o106::o107::o108::o11::o19::o111::o11::o113::o114::o115::o11::o19::o118::o11::o120::o121::o122::o11::o19::o125::o11::o127::o128::o129::o11::o19::o132::o11::o134::o135::o136::o11::o19::o139::o11::o141::o142::o143::o11::o19::o146::o11::o148::o149::o150::o11::o19::o153::o154::o155::o11::o19::o158::o11::o160::o161::o162::o11::o19::o165::o166::o167::o11::o19::o170::o171::o172::o11::o19::o175::o11::o177::o178::o179::o11::o19::o182::o11::o184::o185::o186::o11::o19::o189::o11::o191::o192::o193::o11::o19::o196::o197::o198::o11::o19::o201::o202::o203::o11::o19::o206::o207::o208::o11::o19::o211::o212::o213::o11::o19::o216::o217::o218::o11::o19::o221::o222::o223::o11::o19::o226::o11::o228::o229::o230::o11::o19::o233::o234::o235::o11::o19::o238::o11::o240::o241::o242::o11::o19::o245::o246::o247::o11::o19::o250::o11::o252::o253::o254::o11::o19::o257::o11::o259::o260::o261::o11::o19::o264::o11::o266::o267::o268::o11::o19::o271::o11::o273::o274::o275::o11::o19::o278::o11::o280::o281::o282::o11::o19::o285::o286::o287::o11::o19::o290::o291::o292::o11::o19::o295::o296::o297::o11::o19::o300::o11::o302::o303::o304::o11::o19::o307::o308::o309::o11::o19::o312::o11::o314::o315::o316::o11::o19::o319::o320::o321::o11::o19::o324::o11::o326::o327::o328::o11::o19::o331::o11::o333::o334::o335::o11::o19::o338::o11::o340::o341::o342::o11::o19::o345::o11::o347::o348::o349::o11::o19::o352::o353::o354::o11::o19::o357::o11::o359::o360::o361::o11::o19::o364::o11::o366::o367::o368::o11::o19::o371::o372::o373::o11::o19::o376::o11::o378::o379::o380::[]⟩,(PySem.W.boot_heap P).life⟩
noncomputable def Jgk(P:Params):PySem.Heap:=⟨⟨PySem.W.boot_o_0 P::PySem.W.boot_o_1 P::PySem.W.boot_o_2 P::o3 P::PySem.W.boot_o_4 P::PySem.W.boot_o_5 P::PySem.W.boot_o_6 P::PySem.W.boot_o_7 P::PySem.W.boot_o_8 P::PySem.W.boot_o_9 P::PySem.W.boot_o_10 P::o11::o12::o13::o14::o15::o16::o17 P::o11::o19::o20::o21::o11::o23 P::o24::o25::o26::o27::o28::o16::o30 P::o11::o19::o33::o34::o11::o36 P::o37::o38::o39::o28::o16::o42 P::o11::o19::o45::o46::o11::o48 P::o49::o50::o51::o28::o16::o54 P::o11::o19::o57::o58::o11::o60 P::o61::o62::o63::o28::o16::o66 P::o11::o19::o69::o70::o11::o72 P::o73::o74::o75::o11::o19::o78::o11::o80::o81::o82::o11::o19::o85::o11::o87::o88::o89::o11::o19::o92::o11::o94::o95::o96::o97::o98::o11::o19::o101::o102::o103::o11::o19::o106::o107::o108::o11::o19::o111::o11::o113::o114::o115::o11::o19::o118::o11::o120::o121::o122::o11::o19::o125::o11::o127::o128::o129::o11::o19::o132::o11::o134::o135::o136::o11::o19::o139::o11::o141::o142::o143::o11::o19::o146::o11::o148::o149::o150::o11::o19::o153::o154::o155::o11::o19::o158::o11::o160::o161::o162::o11::o19::o165::o166::o167::o11::o19::o170::o171::o172::o11::o19::o175::o11::o177::o178::o179::o11::o19::o182::o11::o184::o185::o186::o11::o19::o189::o11::o191::o192::o193::o11::o19::o196::o197::o198::o11::o19::o201::o202::o203::o11::o19::o206::o207::o208::o11::o19::o211::o212::o213::o11::o19::o216::o217::o218::o11::o19::o221::o222::o223::o11::o19::o226::o11::o228::o229::o230::o11::o19::o233::o234::o235::o11::o19::o238::o11::o240::o241::o242::o11::o19::o245::o246::o247::o11::o19::o250::o11::o252::o253::o254::o11::o19::o257::o11::o259::o260::o261::o11::o19::o264::o11::o266::o267::o268::o11::o19::o271::o11::o273::o274::o275::o11::o19::o278::o11::o280::o281::o282::o11::o19::o285::o286::o287::o11::o19::o290::o291::o292::o11::o19::o295::o296::o297::o11::o19::o300::o11::o302::o303::o304::o11::o19::o307::o308::o309::o11::o19::o312::o11::o314::o315::o316::o11::o19::o319::o320::o321::o11::o19::o324::o11::o326::o327::o328::o11::o19::o331::o11::o333::o334::o335::o11::o19::o338::o11::o340::o341::o342::o11::o19::o345::o11::o347::o348::o349::o11::o19::o352::o353::o354::o11::o19::o357::o11::o359::o360::o361::o11::o19::o364::o11::o366::o367::o368::o11::o19::o371::o372::o373::o11::o19::o376::o11::o378::o379::o380::[]⟩,(PySem.W.boot_heap P).life⟩
noncomputable def K(P:Params):PySem.W.Frag:=
 (nat_lit 2,PySem.W.boot_o_2 P)::
 (nat_lit 3,o3 P)::
 (nat_lit 15,o15)::
 (nat_lit 22,o11)::
 (nat_lit 23,o23 P)::
 (nat_lit 24,o24)::
 (nat_lit 25,o25)::
 (nat_lit 28,o28)::
 (nat_lit 35,o11)::
 (nat_lit 36,o36 P)::
 (nat_lit 37,o37)::
 (nat_lit 40,o28)::
 (nat_lit 47,o11)::
 (nat_lit 48,o48 P)::
 (nat_lit 49,o49)::
 (nat_lit 52,o28)::
 (nat_lit 59,o11)::
 (nat_lit 60,o60 P)::
 (nat_lit 61,o61)::
 (nat_lit 64,o28)::
 (nat_lit 71,o11)::
 (nat_lit 72,o72 P)::
 (nat_lit 73,o73)::
 (nat_lit 76,o11)::
 (nat_lit 78,o78)::
 (nat_lit 79,o11)::
 (nat_lit 81,o81)::
 (nat_lit 82,o82)::
 (nat_lit 83,o11)::
 (nat_lit 85,o85)::
 (nat_lit 86,o11)::
 (nat_lit 88,o88)::
 (nat_lit 89,o89)::
 (nat_lit 90,o11)::
 (nat_lit 92,o92)::
 (nat_lit 93,o11)::
 (nat_lit 95,o95)::
 (nat_lit 96,o96)::
 (nat_lit 97,o97)::
 (nat_lit 98,o98)::
 (nat_lit 99,o11)::
 (nat_lit 102,o102)::
 (nat_lit 103,o103)::
 (nat_lit 104,o11)::
 (nat_lit 107,o107)::
 (nat_lit 108,o108)::
 (nat_lit 109,o11)::
 (nat_lit 111,o111)::
 (nat_lit 112,o11)::
 (nat_lit 114,o114)::
 (nat_lit 115,o115)::
 (nat_lit 116,o11)::
 (nat_lit 118,o118)::
 (nat_lit 119,o11)::
 (nat_lit 121,o121)::
 (nat_lit 122,o122)::
 (nat_lit 123,o11)::
 (nat_lit 125,o125)::
 (nat_lit 126,o11)::
 (nat_lit 128,o128)::
 (nat_lit 129,o129)::
 (nat_lit 130,o11)::
 (nat_lit 132,o132)::
 (nat_lit 133,o11)::
 (nat_lit 135,o135)::
 (nat_lit 136,o136)::
 (nat_lit 137,o11)::
 (nat_lit 139,o139)::
 (nat_lit 140,o11)::
 (nat_lit 142,o142)::
 (nat_lit 143,o143)::
 (nat_lit 144,o11)::
 (nat_lit 146,o146)::
 (nat_lit 147,o11)::
 (nat_lit 149,o149)::
 (nat_lit 150,o150)::
 (nat_lit 151,o11)::
 (nat_lit 154,o154)::
 (nat_lit 155,o155)::
 (nat_lit 156,o11)::
 (nat_lit 158,o158)::
 (nat_lit 159,o11)::
 (nat_lit 161,o161)::
 (nat_lit 162,o162)::
 (nat_lit 163,o11)::
 (nat_lit 166,o166)::
 (nat_lit 167,o167)::
 (nat_lit 168,o11)::
 (nat_lit 171,o171)::
 (nat_lit 172,o172)::
 (nat_lit 173,o11)::
 (nat_lit 175,o175)::
 (nat_lit 176,o11)::
 (nat_lit 178,o178)::
 (nat_lit 179,o179)::
 (nat_lit 180,o11)::
 (nat_lit 182,o182)::
 (nat_lit 183,o11)::
 (nat_lit 185,o185)::
 (nat_lit 186,o186)::
 (nat_lit 187,o11)::
 (nat_lit 189,o189)::
 (nat_lit 190,o11)::
 (nat_lit 192,o192)::
 (nat_lit 193,o193)::
 (nat_lit 194,o11)::
 (nat_lit 197,o197)::
 (nat_lit 198,o198)::
 (nat_lit 199,o11)::
 (nat_lit 202,o202)::
 (nat_lit 203,o203)::
 (nat_lit 204,o11)::
 (nat_lit 207,o207)::
 (nat_lit 208,o208)::
 (nat_lit 209,o11)::
 (nat_lit 212,o212)::
 (nat_lit 213,o213)::
 (nat_lit 214,o11)::
 (nat_lit 217,o217)::
 (nat_lit 218,o218)::
 (nat_lit 219,o11)::
 (nat_lit 222,o222)::
 (nat_lit 223,o223)::
 (nat_lit 224,o11)::
 (nat_lit 226,o226)::
 (nat_lit 227,o11)::
 (nat_lit 229,o229)::
 (nat_lit 230,o230)::
 (nat_lit 231,o11)::
 (nat_lit 234,o234)::
 (nat_lit 235,o235)::
 (nat_lit 236,o11)::
 (nat_lit 238,o238)::
 (nat_lit 239,o11)::
 (nat_lit 241,o241)::
 (nat_lit 242,o242)::
 (nat_lit 243,o11)::
 (nat_lit 246,o246)::
 (nat_lit 247,o247)::
 (nat_lit 248,o11)::
 (nat_lit 250,o250)::
 (nat_lit 251,o11)::
 (nat_lit 253,o253)::
 (nat_lit 254,o254)::
 (nat_lit 255,o11)::
 (nat_lit 257,o257)::
 (nat_lit 258,o11)::
 (nat_lit 260,o260)::
 (nat_lit 261,o261)::
 (nat_lit 262,o11)::
 (nat_lit 264,o264)::
 (nat_lit 265,o11)::
 (nat_lit 267,o267)::
 (nat_lit 268,o268)::
 (nat_lit 269,o11)::
 (nat_lit 271,o271)::
 (nat_lit 272,o11)::
 (nat_lit 274,o274)::
 (nat_lit 275,o275)::
 (nat_lit 276,o11)::
 (nat_lit 278,o278)::
 (nat_lit 279,o11)::
 (nat_lit 281,o281)::
 (nat_lit 282,o282)::
 (nat_lit 283,o11)::
 (nat_lit 286,o286)::
 (nat_lit 287,o287)::
 (nat_lit 288,o11)::
 (nat_lit 291,o291)::
 (nat_lit 292,o292)::
 (nat_lit 293,o11)::
 (nat_lit 296,o296)::
 (nat_lit 297,o297)::
 (nat_lit 298,o11)::
 (nat_lit 300,o300)::
 (nat_lit 301,o11)::
 (nat_lit 303,o303)::
 (nat_lit 304,o304)::
 (nat_lit 305,o11)::
 (nat_lit 308,o308)::
 (nat_lit 309,o309)::
 (nat_lit 310,o11)::
 (nat_lit 312,o312)::
 (nat_lit 313,o11)::
 (nat_lit 315,o315)::
 (nat_lit 316,o316)::
 (nat_lit 317,o11)::
 (nat_lit 320,o320)::
 (nat_lit 321,o321)::
 (nat_lit 322,o11)::
 (nat_lit 324,o324)::
 (nat_lit 325,o11)::
 (nat_lit 327,o327)::
 (nat_lit 328,o328)::
 (nat_lit 329,o11)::
 (nat_lit 331,o331)::
 (nat_lit 332,o11)::
 (nat_lit 334,o334)::
 (nat_lit 335,o335)::
 (nat_lit 336,o11)::
 (nat_lit 338,o338)::
 (nat_lit 339,o11)::
 (nat_lit 341,o341)::
 (nat_lit 342,o342)::
 (nat_lit 343,o11)::
 (nat_lit 345,o345)::
 (nat_lit 346,o11)::
 (nat_lit 348,o348)::
 (nat_lit 349,o349)::
 (nat_lit 350,o11)::
 (nat_lit 353,o353)::
 (nat_lit 354,o354)::
 (nat_lit 355,o11)::
 (nat_lit 357,o357)::
 (nat_lit 358,o11)::
 (nat_lit 360,o360)::
 (nat_lit 361,o361)::
 (nat_lit 362,o11)::
 (nat_lit 364,o364)::
 (nat_lit 365,o11)::
 (nat_lit 367,o367)::
 (nat_lit 368,o368)::
 (nat_lit 369,o11)::
 (nat_lit 372,o372)::
 (nat_lit 373,o373)::
 (nat_lit 374,o11)::
 (nat_lit 376,o376)::
 (nat_lit 377,o11)::
 (nat_lit 379,o379)::
 (nat_lit 380,o380)::[]
noncomputable def loose:List Str:=[]
noncomputable def as:List Addr:=[2,3,15,22,23,24,25,28,35,36,37,40,47,48,49,52,59,60,61,64,71,72,73,76,78,79,81,82,83,85,86,88,89,90,92,93,95,96,97,98,99,102,103,104,107,108,109,111,112,114,115,116,118,119,121,122,123,125,126,128,129,130,132,133,135,136,137,139,140,142,143,144,146,147,149,150,151,154,155,156,158,159,161,162,163,166,167,168,171,172,173,175,176,178,179,180,182,183,185,186,187,189,190,192,193,194,197,198,199,202,203,204,207,208,209,212,213,214,217,218,219,222,223,224,226,227,229,230,231,234,235,236,238,239,241,242,243,246,247,248,250,251,253,254,255,257,258,260,261,262,264,265,267,268,269,271,272,274,275,276,278,279,281,282,283,286,287,288,291,292,293,296,297,298,300,301,303,304,305,308,309,310,312,313,315,316,317,320,321,322,324,325,327,328,329,331,332,334,335,336,338,339,341,342,343,345,346,348,349,350,353,354,355,357,358,360,361,362,364,365,367,368,369,372,373,374,376,377,379,380]
theorem asK:∀P,as=(K P).map (·.1):=λ_=>by kernel_rfl
theorem said:PySem.Challenge.rw_spentonce_k66_whole_texts_read_are_shown.wellSaid=true:=by kernel_rfl
noncomputable abbrev bd:List Stmt:=behindTheImports PySem.Challenge.pw_spentonce_k66_whole_texts_read_are_shown
noncomputable def env:Env:={scope:=PySem.Challenge.pw_spentonce_k66_whole_texts_read_are_shown.main.scope,locals:=mainNs,globals:=mainNs,cells:=[],code:=(.ref 13),frame:=some 14}
noncomputable abbrev cd:Code:=.body bd env
theorem Jy5:∀w:World,(λos=>topGo treeTable PySem.Challenge.pw_spentonce_k66_whole_texts_read_are_shown w (nat_lit 11) (some (.ref 6)) (nat_lit 12) ⟨PySem.W.boot_heap w.params,⟨[]⟩,PySem.W.boot_drawn,PySem.W.boot_toks,os⟩ (topStub PySem.Challenge.pw_spentonce_k66_whole_texts_read_are_shown))=λos=>some (⟨Jxw w.params,⟨[]⟩,⟨0,0,0,0⟩,nat_lit 187,os⟩,(⟨denote treeTable cd,cd,⟨0,0,0,0⟩,[topFrame ⟨0,0,0,0⟩]⟩:Thread)):=λw=>by kernel_rfl
theorem Jsr:∀w:World,(λos=>segRun treeTable PySem.Challenge.pw_spentonce_k66_whole_texts_read_are_shown w (nat_lit 11) (some (.ref 6)) (nat_lit 1) (nat_lit 1) ⟨Jxw w.params,⟨[]⟩,⟨0,0,0,0⟩,nat_lit 187,os⟩ (blockOf bd env cd ⟨0,0,0,0⟩ [topFrame ⟨0,0,0,0⟩]))=λos=>some (.next,(⟨Jil w.params,⟨[]⟩,⟨0,0,0,0⟩,nat_lit 187,os⟩:Shared),cd,(⟨0,0,0,0⟩:Pos)):=λw=>by kernel_rfl
noncomputable def st4:List Stmt:=(bd.drop 0).take 5
theorem r_c4:∀w:World,(λos=>segRun treeTable PySem.Challenge.pw_spentonce_k66_whole_texts_read_are_shown w (nat_lit 11) (some (.ref 6)) (nat_lit 1) (nat_lit 836) ⟨Jil w.params,⟨[]⟩,⟨0,0,0,0⟩,nat_lit 187,os⟩ (piecesOf st4 env cd ⟨0,0,0,0⟩ [topFrame ⟨0,0,0,0⟩]))=λos=>some (.next,(⟨h_c4 w.params,⟨[]⟩,⟨0,0,0,0⟩,nat_lit 255,os⟩:Shared),cd,(⟨8,0,9,8⟩:Pos)):=λw=>by kernel_rfl
noncomputable def st42:List Stmt:=(bd.drop 5).take 38
theorem Jy8:∀w:World,(λos=>segRun treeTable PySem.Challenge.pw_spentonce_k66_whole_texts_read_are_shown w (nat_lit 11) (some (.ref 6)) (nat_lit 1) (nat_lit 988) ⟨h_c4 w.params,⟨[]⟩,⟨0,0,0,0⟩,nat_lit 255,os⟩ (piecesOf st42 env cd ⟨8,0,9,8⟩ [topFrame ⟨0,0,0,0⟩]))=λos=>some (.next,(⟨Jxy w.params,⟨[]⟩,⟨0,0,0,0⟩,nat_lit 469,os⟩:Shared),cd,(⟨103,0,104,67⟩:Pos)):=λw=>by kernel_rfl
noncomputable def st74:List Stmt:=(bd.drop 43).take 32
theorem Jy7:∀w:World,(λos=>segRun treeTable PySem.Challenge.pw_spentonce_k66_whole_texts_read_are_shown w (nat_lit 11) (some (.ref 6)) (nat_lit 1) (nat_lit 813) ⟨Jxy w.params,⟨[]⟩,⟨0,0,0,0⟩,nat_lit 469,os⟩ (piecesOf st74 env cd ⟨103,0,104,67⟩ [topFrame ⟨0,0,0,0⟩]))=λos=>some (.next,(⟨Jxx w.params,⟨[]⟩,⟨0,0,0,0⟩,nat_lit 673,os⟩:Shared),cd,(⟨238,0,248,15⟩:Pos)):=λw=>by kernel_rfl
theorem Jy6:∀w:World,(λos=>topRun treeTable PySem.Challenge.pw_spentonce_k66_whole_texts_read_are_shown w (nat_lit 11) (some (.ref 6)) (nat_lit 2) ⟨Jxx w.params,⟨[]⟩,⟨0,0,0,0⟩,nat_lit 673,os⟩ ⟨doneF .next,cd,⟨238,0,248,15⟩,[topFrame ⟨0,0,0,0⟩]⟩)=λos=>some (⟨Jgk w.params,⟨[]⟩,⟨0,0,0,0⟩,nat_lit 673,os⟩:Shared):=λw=>by kernel_rfl
theorem J0c:bd=st4++(st42++(st74++[])):=by kernel_rfl
theorem Jwb(w:World)(os:OsState):topRun treeTable PySem.Challenge.pw_spentonce_k66_whole_texts_read_are_shown w (nat_lit 11) (some (.ref 6)) (nat_lit 2639) ⟨Jil w.params,⟨[]⟩,⟨0,0,0,0⟩,nat_lit 187,os⟩ (restOf bd env cd ⟨0,0,0,0⟩ [topFrame ⟨0,0,0,0⟩])=some ⟨Jgk w.params,⟨[]⟩,⟨0,0,0,0⟩,nat_lit 673,os⟩:=by
 have h:=piece_app (congrFun (r_c4 w) os) (piece_app (congrFun (Jy8 w) os) (piece_app (congrFun (Jy7 w) os) (piece_nil (congrFun (Jy6 w) os))));rw[<-J0c]at h;exact h
theorem run_(w:World)(os:OsState):topRun treeTable PySem.Challenge.pw_spentonce_k66_whole_texts_read_are_shown w (nat_lit 11) (some (.ref 6)) (nat_lit 2652) ⟨PySem.W.boot_heap w.params,⟨[]⟩,PySem.W.boot_drawn,PySem.W.boot_toks,os⟩ (topStub PySem.Challenge.pw_spentonce_k66_whole_texts_read_are_shown)=some ⟨Jgk w.params,⟨[]⟩,⟨0,0,0,0⟩,nat_lit 673,os⟩:=
 go_top (congrFun (Jy5 w) os) (piece_block (congrFun (Jsr w) os) (Jwb w os))
theorem looks(w:World):(λos=>((staticsOk (importedModules PySem.Challenge.pw_spentonce_k66_whole_texts_read_are_shown.main.body) (PySem.W.boot_heap w.params) (Jgk w.params)&&namesBound PySem.Challenge.pw_spentonce_k66_whole_texts_read_are_shown (Jgk w.params)&&gensDone (⟨Jgk w.params,⟨[]⟩,⟨0,0,0,0⟩,nat_lit 673,os⟩:Shared)&&laidKept (PySem.W.boot_heap w.params) (Jgk w.params)),openSeen q loose (importedModules PySem.Challenge.pw_spentonce_k66_whole_texts_read_are_shown.main.body) (λs:Shared=>xlAt q [] s&&recOk [] s) true (⟨Jgk w.params,⟨[]⟩,⟨0,0,0,0⟩,nat_lit 673,os⟩:Shared),(λs:Shared=>as.map s.heap.get?) (⟨Jgk w.params,⟨[]⟩,⟨0,0,0,0⟩,nat_lit 673,os⟩:Shared)))=λ_=>(true,openGood q loose,(λw=>(K w.params).map λp=>some p.2) w):=by kernel_rfl
theorem left:LeftO PySem.Challenge.pw_spentonce_k66_whole_texts_read_are_shown q loose (λs:Shared=>xlAt q [] s&&recOk [] s) (λs:Shared=>as.map s.heap.get?) (λw=>(K w.params).map λp=>some p.2) 5388:=
 LeftO.of_pieces (boot_open (by kernel_rfl) (by decide) (λ_=>rfl)) (λ_=>by kernel_rfl) run_ (by decide) looks
noncomputable def defPos:Stmt->Pos
 |.FunctionDef _ _ _ _ _ _ _ _ _ p=>p
 |_=>⟨0,0,0,0⟩
noncomputable def dL:DefRec:=⟨"law",defArgs (top 74),defBody (top 74),defScope (top 74),defPos (top 74)⟩
end K66
open PySem PySem.W PyProof.Rows
set_option maxRecDepth 100000 in
set_option maxHeartbeats 0 in
theorem PySem.Challenge.cw_spentonce_k66_whole_texts_read_are_shown_holds : PySem.Challenge.rw_spentonce_k66_whole_texts_read_are_shown.Holds := by
 refine Mi.holds (q:=K66.q) (d:=K66.dL) K66.said K66.asK K66.left (by kernel_rfl) (by kernel_rfl) (by kernel_rfl) (by decide+kernel) ⟨rfl,rfl,rfl,rfl,rfl,by decide+kernel⟩ ?hw ?hc
 (case hw=>w_witness2)
 k_fill
 refine Mi.walk (l:=PySem.Challenge.rw_spentonce_k66_whole_texts_read_are_shown) (T:=K66.T) (G:=K66.G) (B:=K66.B) (F:=K66.F) (O:=K66.O) (x:="_law_script") (W:=100) (n:=30) rfl rfl (λw h Y=>Y) ⟨rfl,by decide,by decide⟩ rfl (by decide) ⟨_,rfl,rfl⟩ ?X K66.run
 case X=>
  intro w mg h KX hG;refine' K66.txt KX hG ?f0 ?f1 ?f2 ?f3 ?f4 ?f5 ?f6 ?f7 ?f8 ?f9 ?f10 ?f11 ?f12 ?f13 ?f14 ?f15 ?f16 ?f17 ?f18 ?f19 ?f20 ?f21 ?f22 ?f23 ?f24 ?f25 ?f26 ?f27 ?f28 ?f29 ?f30 ?f31 ?f32 ?f33 ?f34 ?f35 ?f36 ?f37 ?f38 ?f39 ?f40 ?f41 ?f42 ?f43 ?f44 ?f45 ?f46 ?f47 ?f48 ?b0 ?b1 ?b2 ?b3 ?b4 ?b5 ?b6 ?b7 ?b8 ?b9 ?b10 ?xr0 ?xr1 ?xr2 ?xr3 ?xt0 ?xi0_0 ?xi0_1 ?xi0_2 ?xi0_3 ?xt1 ?xi1_0 ?xi1_1 ?xi1_2 ?xi1_3 ?xt2 ?xi2_0 ?xi2_1 ?xi2_2 ?xi2_3 ?xt3 ?xi3_0 ?xi3_1 ?xi3_2 ?xi3_3 ?zg0 ?zg1 ?zg2 ?zg3 ?zg4 ?zg5 ?zg6 ?zg7 ?zg8 ?zg9 ?zg10 ?zg11 ?zg12
  (case f0|f1|f2|f3|f4|f5|f6|f7|f8|f9|f10|f11|f12|f13|f14|f15|f16|f17|f18|f19|f20|f21|f22|f23|f24|f25|f26|f27|f28|f29|f30|f31|f32|f33|f34|f35|f36|f37|f38|f39|f40|f41|f42|f43|f44|f45|f46|f47|f48=>refine' Mi.Jzw ?a ?l ?c ?k;(case a=>k_is);(case l=>k_is);(case c=>k_is);(case k=>k_is))
  (case b0|b1|b2|b3|b4|b5|b6|b7|b8|b9|b10=>unfold K66.Be;k_is)
  (case xr0=>refine' Mi.Jn6 ?qn ?qe;(case qn=>k_is);(case qe=>first|kit_is|kts_exm|kernel_rfl))
  (case xr1=>refine' Mi.Jn6 ?qn ?qe;(case qn=>k_is);(case qe=>first|kit_is|kts_exm|kernel_rfl))
  (case xr2=>refine' Mi.Jn6 ?qn ?qe;(case qn=>k_is);(case qe=>first|kit_is|kts_exm|kernel_rfl))
  (case xr3=>refine' Mi.Jn6 ?qn ?qe;(case qn=>k_is);(case qe=>first|kit_is|kts_exm|kernel_rfl))
  (case xt0=>refine' Mi.Jn5 ?qn ?qm ?qe ?q1 ?q2 ?q3 ?q4 ?q5 ?q6 ?q7 ?q8;(case qn=>k_is);(case qm=>k_is);(case qe=>first|kit_is|kts_exm|kernel_rfl);(case q1=>first|k_is|kernel_rfl);(case q2=>first|k_is|kernel_rfl);(case q3=>first|k_is|kernel_rfl);(case q4=>first|k_is|kernel_rfl);(case q5=>first|k_is|kernel_rfl);(case q6=>first|k_is|kernel_rfl);(case q7=>first|k_is|kernel_rfl);(case q8=>first|k_is|kernel_rfl))
  (case xi0_0=>refine' Mi.Jdb ?qn ?qm ?qe;(case qn=>k_is);(case qm=>k_is);(case qe=>first|kit_is|kts_exm|kernel_rfl))
  (case xi0_1=>refine' Mi.Jdb ?qn ?qm ?qe;(case qn=>k_is);(case qm=>k_is);(case qe=>first|kit_is|kts_exm|kernel_rfl))
  (case xi0_2=>refine' Mi.Jdb ?qn ?qm ?qe;(case qn=>k_is);(case qm=>k_is);(case qe=>first|kit_is|kts_exm|kernel_rfl))
  (case xi0_3=>refine' Mi.Jdb ?qn ?qm ?qe;(case qn=>k_is);(case qm=>k_is);(case qe=>first|kit_is|kts_exm|kernel_rfl))
  (case xt1=>refine' Mi.Jn5 ?qn ?qm ?qe ?q1 ?q2 ?q3 ?q4 ?q5 ?q6 ?q7 ?q8;(case qn=>k_is);(case qm=>k_is);(case qe=>first|kit_is|kts_exm|kernel_rfl);(case q1=>first|k_is|kernel_rfl);(case q2=>first|k_is|kernel_rfl);(case q3=>first|k_is|kernel_rfl);(case q4=>first|k_is|kernel_rfl);(case q5=>first|k_is|kernel_rfl);(case q6=>first|k_is|kernel_rfl);(case q7=>first|k_is|kernel_rfl);(case q8=>first|k_is|kernel_rfl))
  (case xi1_0=>refine' Mi.Jdb ?qn ?qm ?qe;(case qn=>k_is);(case qm=>k_is);(case qe=>first|kit_is|kts_exm|kernel_rfl))
  (case xi1_1=>refine' Mi.Jdb ?qn ?qm ?qe;(case qn=>k_is);(case qm=>k_is);(case qe=>first|kit_is|kts_exm|kernel_rfl))
  (case xi1_2=>refine' Mi.Jdb ?qn ?qm ?qe;(case qn=>k_is);(case qm=>k_is);(case qe=>first|kit_is|kts_exm|kernel_rfl))
  (case xi1_3=>refine' Mi.Jdb ?qn ?qm ?qe;(case qn=>k_is);(case qm=>k_is);(case qe=>first|kit_is|kts_exm|kernel_rfl))
  (case xt2=>refine' Mi.Jn5 ?qn ?qm ?qe ?q1 ?q2 ?q3 ?q4 ?q5 ?q6 ?q7 ?q8;(case qn=>k_is);(case qm=>k_is);(case qe=>first|kit_is|kts_exm|kernel_rfl);(case q1=>first|k_is|kernel_rfl);(case q2=>first|k_is|kernel_rfl);(case q3=>first|k_is|kernel_rfl);(case q4=>first|k_is|kernel_rfl);(case q5=>first|k_is|kernel_rfl);(case q6=>first|k_is|kernel_rfl);(case q7=>first|k_is|kernel_rfl);(case q8=>first|k_is|kernel_rfl))
  (case xi2_0=>refine' Mi.Jdb ?qn ?qm ?qe;(case qn=>k_is);(case qm=>k_is);(case qe=>first|kit_is|kts_exm|kernel_rfl))
  (case xi2_1=>refine' Mi.Jdb ?qn ?qm ?qe;(case qn=>k_is);(case qm=>k_is);(case qe=>first|kit_is|kts_exm|kernel_rfl))
  (case xi2_2=>refine' Mi.Jdb ?qn ?qm ?qe;(case qn=>k_is);(case qm=>k_is);(case qe=>first|kit_is|kts_exm|kernel_rfl))
  (case xi2_3=>refine' Mi.Jdb ?qn ?qm ?qe;(case qn=>k_is);(case qm=>k_is);(case qe=>first|kit_is|kts_exm|kernel_rfl))
  (case xt3=>refine' Mi.Jn5 ?qn ?qm ?qe ?q1 ?q2 ?q3 ?q4 ?q5 ?q6 ?q7 ?q8;(case qn=>k_is);(case qm=>k_is);(case qe=>first|kit_is|kts_exm|kernel_rfl);(case q1=>first|k_is|kernel_rfl);(case q2=>first|k_is|kernel_rfl);(case q3=>first|k_is|kernel_rfl);(case q4=>first|k_is|kernel_rfl);(case q5=>first|k_is|kernel_rfl);(case q6=>first|k_is|kernel_rfl);(case q7=>first|k_is|kernel_rfl);(case q8=>first|k_is|kernel_rfl))
  (case xi3_0=>refine' Mi.Jdb ?qn ?qm ?qe;(case qn=>k_is);(case qm=>k_is);(case qe=>first|kit_is|kts_exm|kernel_rfl))
  (case xi3_1=>refine' Mi.Jdb ?qn ?qm ?qe;(case qn=>k_is);(case qm=>k_is);(case qe=>first|kit_is|kts_exm|kernel_rfl))
  (case xi3_2=>refine' Mi.Jdb ?qn ?qm ?qe;(case qn=>k_is);(case qm=>k_is);(case qe=>first|kit_is|kts_exm|kernel_rfl))
  (case xi3_3=>refine' Mi.Jdb ?qn ?qm ?qe;(case qn=>k_is);(case qm=>k_is);(case qe=>first|kit_is|kts_exm|kernel_rfl))
  (case zg0=>k_is)
  (case zg1=>k_is)
  (case zg2=>refine' Mi.Jm7 ["drop","swap","add","sub","mul","less","same","not","need","height","age","worth","ins","outs","if","else","end"] ?a ?l ?v;(case a=>k_is);(case l=>k_is);(case v=>rfl))
  (case zg3=>refine' Mi.Jm7 ["copy","paid"] ?a ?l ?v;(case a=>k_is);(case l=>k_is);(case v=>rfl))
  (case zg4=>k_is)
  (case zg5=>k_is)
  (case zg6=>k_is)
  (case zg7=>k_is)
  (case zg8=>k_is)
  (case zg9=>refine' Mi.Jm8 ?a;(case a=>k_is))
  (case zg10=>k_is)
  (case zg11=>refine' Mi.Jm8 ?a;(case a=>k_is))
  (case zg12=>refine' Mi.Jm8 ?a;(case a=>k_is))
