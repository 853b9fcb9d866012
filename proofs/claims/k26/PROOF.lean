import PyProof.Rows.All
import Wide.All
import OpenK.AllK
import Wide.FinOn
import Lean
import PyProof.EqAt
import PyProof.EqKinds
import PyProof.TupleCall
import KE.KRevIter
import PyProof.EnumStmt
import PyProof.EnumFor
import PyProof.EnumMake
import PyProof.Draws
import PyProof.WalksMore
import PyProof.Rows.SeqMore
import KE.KDictList
import KE.KMinKey
import PyProof.WalkInts
import PyProof.Rows.SortShell
import PyProof.Rows.SetFrom
import PyProof.SetRoads
import PyProof.TupleKey
import PyProof.DictRoadsH
import PyProof.IsRules
import PyProof.DictWalks
import KE.KDictOf
import KE.KEqDict
import KE.KSortTup
import KE.KItemsList
import PyProof.AttrMissHeap
import PyProof.ZipIter
import KE.KTryMore
import KE.RegKIsAll
import KE.RegKTryMore
import PyProof.NsDelKeeps
import PyProof.RulesAs
import PyProof.ExcBaseAll.ValueError
import PyProof.ExcArgsOwn
import PyProof.ExcAttrAll.ValueError
import PyProof.ReprRoads
import PyProof.FString
import PyProof.ListMulRoad
import PyProof.StrBlock2
import PyProof.NeKinds
import PyProof.ConsumeWalk
import PyProof.SumAny
import PySem.Challenge.RW_spentonce_k26_bad_block_leaves_all
open PySem renaming wpAny_bind→Aa,wpAny_pure→Ab,mainGlobals→A7,wpAny_holding→Bc,wpAny_call_entry→Bg,Around→Bi,wpAny_mono→Bo,wpAny_newObj_type→Bq,wpAny_dictEntries→Br,starEach→Bs,wpAny_callSpecial?_slot→Bv,wpAny_field→B7,DictEntry→Cg,wpAny_setField_rec→Cu,cLine→C0,foldedSetIterable→C4,codeAny_builtin→C8,bootBuiltins→C9,tupleKind_room_in1→Dp,wpAny_forIn_list→Dr,wpAny_attempt→Du,wpAny_truthy_bool→Dv,wpAny_dictEpoch→D1,wpAny_notOrdered_dict→D3,wpAny_isInstance→D7,compareOp→D8,Obj→D9,wpAny_seqItems→Ee,mem_of_lookup→Ef,size_of_entries→E8,codeAny_mono→E9,NameKind→Fb,backTo→Fg,wpAny_typeNameOfWhole_itemiter→Fp,wpAny_typeNameOfWhole_valiter→Ft,wpAny_typeNameOfWhole_keyiter→Fv,wpAny_typeOf→Fy,wpAny_rule→Fz,wpAny_Call_Name_kw→F0,assignEach→F1,wpAny_specialOf→F3,binaryOp→F4,plainId_quiet→F6,wpAny_pyIter_list→F8,codeAny→F9,IsPair→Gj,swapsWith→Gp,wpAny_typeNameOf_itemiter→Gq,atKey→Gs,wpAny_typeNameOf_valiter→Gw,wpAny_typeNameOf_keyiter→Gx,sizeLine_eq→G4,firstArgMember→Hh,Params→Hj,isSubtype_tuple_tuple→Hn,wpAny_eqBool_int→Hu,behindInMarks→Hy,sliceBounds→Hz,Scope→Ia,wpAny_passesOwn→Il,letOwnedTupleGo→Im,wpAny_richCompare_same_room→Jb,wpAny_setField→Jq,wpAny_pyIter_tuple→Jr,wpAny_setState_of→Jy,keywordEach→Jz,wpAny_Call_method0_late→Kg,IsZip→Kk,HeapKind→Kl,wpAny_isOneOf_itemiter→Ku,wpAny_call→Kw,isInstance→Kx,getItem→Ky,evalArgs_none→Kz,Result→K1,wpAny_loadPart'→K4,wpAny_execs_nil→K5,wpAny_isOneOf_valiter→K9,wpAny_fieldsOf→Lq,entry_at→Lr,concat_meets→Ls,codeAny_call_builtin→Lu,ZipApart→Lv,IsPart→Lx,treeTable→L8,callerA→L9,noFill_tuple_add→Ml,wpAny_standAt→Ms,wpAny_newList→Mt,setSearchFrom→Mu,wpAny_tupleItemsOf→My,wpAny_load→Mz,wpAny_pyIter_slot→Nb,valueAt→Nc,standAt→Nd,ofAClassStatement→Nf,keyPart→Ng,call→Nh,backToKw→Ni,atKey_none_of_get→Nj,wpAny_execs_cons→N4,wpAny_comp_letGo→N5,wpAny_Dict_empty→N6,seq_tuple_add→N7,eqIsQuiet→N8,wpAny_of_eq→Oi,wpAny_letGo→Oj,wpAny_updateSeq→O3,passOn→O4,Within→O5,storedH→Pe,wpAny_runValue→Pp,wpAny_newTuple→Pq,methodCallForm→Pu,isSubtype_stop→Pw,carriedByValue→Px,call_meets→Py,bindArgs→Pz,Model→P2,wpAny_onRaise→Qm,wpAny_handled→Qn,seqItems?→Qw,field→Qx,bindL→Qy,bindC→Qz,wpAny_pyNext_list_item→Q9,spliced→Ra,newExc→Rb,call_meetsIn→Rc,wpAny_pyNext_list_end→R0,wpAny_isOneOf_keyiter→R1,wpAny_eqIsQuiet_tuple→R3,wpAny_updateSeq_pair→Sd,wpAny_throw→Se,wpAny_pyIter_keyiter→Sf,wpAny_loadName_local→Sg,setField→Sh,seqIndex_of→Si,richCompare→Sj,hashByValue→Sk,wpAny_loadName_cell→Sz,wpAny_dictFind_heap→Ta,wpAny_setItem_heap→T7,wpAny_getItem_heap→T8,wpAny_eqBool_tuple→T9,wpAny_Name→Ua,typeIs_int→Ub,reduceHash→Uc,getattributeRaised→Ud,closureFor→Ue,builtinsNs→Ug,PlainAttrs→Uk,IsTupleKey→Um,DefRec→Ur,wpAny_sequenceKey→Uz,wpAny_pyIter_enum→U0,wpAny_assign_Name→U1,slot_list_getitem→U2,setItem→U3,searchCouldBeSeen→U4,Keyword→U8,BindsTo→Vc
open PySem.Str renaming ofString→Ac,ofString_eq_toList→P1,length_append→R5,empty→Sn
open PySem.Heap renaming get?_push_of_some→Ad,get?_push_size→Ak,lt_size→Am,size_push→Cd,SameBut→Cp,get?_update_self→Cw,get?_update_other→Ej,FlyingW→J2,get?_none_of_le→Ko,MadeExcOf→Kq,ExtBut→M0,get?_push_ne→Rk,IsTuple→U9
open List renaming getElem?_eq_some_iff→Ae,getElem?_eq_getElem→Ag,length_map→Ah,mem_cons→An,getElem?_set_ne→Ao,getElem?_map→Ap,size_toArray→Ar,mem_singleton→Av,mem_cons_of_mem→Ax,map_cons→Ay,getElem?_append_right→Az,getElem?_append_left→A0,not_mem_nil→A1,length_cons→A5,mem_of_getElem?→Ba,mem_map→Bd,length_append→Bf,mem_cons_self→Bh,mem_append→Bj,getElem?_cons_succ→Bu,mem_append_right→By,range→B3,map_map→B4,getElem?_set_self→B5,mem_append_left→Ci,drop_eq_getElem_cons→Cm,nodup_cons→Cr,mem_iff_getElem→C6,find?_cons→Dh,lookup_cons→Dj,getElem?_cons_zero→Dk,all_eq_true→Dl,length_set→Dt,length_singleton→Dy,take_add_one→Eb,append_nil→Ec,map_congr_left→Eh,take_of_length_le→Ek,replicate→Eo,getD_eq_getElem?_getD→Ep,map_append→Ey,length_nil→Ez,lookup→E2,length_range→E3,filterMap_cons→Fc,getElem?_replicate→Fe,filter_cons→Ff,any_cons→Fs,mem_iff_getElem?→Fw,map_nil→Ga,length_take→Gb,pairwise_iff_getElem→Gh,getElem?_take_of_lt→Gn,length_replicate→Ha,getElem?_eq_none→Hb,take_length→Hc,getElem_mem→He,drop_length→Hf,any_eq_true→Hg,mem_filter→Hq,forIn_cons→Hr,nodup_nil→Ii,findSome?_eq_none_iff→Ij,nodup_append→Jf,length→Jg,map_take→Jp,length_drop→Jv,any_toArray→Jw,drop_eq_nil_of_le→J3,length_filter_le→Kf,mem_of_mem_take→Ks,length_pos_iff→K8,all_cons→Lh,mem_filterMap→Ln,pairwise_map→Me,getElem?_set→Mf,append_assoc→Mg,any_eq_false→Mh,of_mem_zip→M9,map→N0,getElem?_take_eq_none→N1,getElem?_zip_eq_some→Of,extract_eq_take_drop→Og,map_drop→O0,length_erase_of_mem→O1,length_eq_zero_iff→O9,filter_cons_of_pos→Pa,filter_cons_of_neg→Pb,eraseIdx_cons_succ→Pc,range_succ_eq_map→Pl,length_pos_of_mem→Pm,filter_eq_nil_iff→Pn,any_map→Po,set_getElem_self→P9,dropLast_eq_take→Qa,pairwise_append→Qh,mem_erase_of_ne→Qi,getElem?_of_mem→Qj,findSome?_cons→Qs,filter_sublist→Qt,zip_cons_cons→Q4,pairwise_cons→Q5,filter_append→Q6,take_sublist→Rx,ext_getElem?→Ry,zipIdx_cons→R9,range'_succ→Sa,zipIdx_nil→Sy,mem_range→Tx,forIn_nil→Tz,find?_map→T1,drop_zero→T2,sum_cons→Uv,map_id'→Vf,all_map→Vg
open PySem.W renaming Frag→Af,nsIn→Bt,findIn→Cf,keepIn→C7,emptyDict→Dq,instObj→Et,fnOf→Fh,kia_one→Fi,codeIn→G2,clsIn→G5,looks_findIn→G7,mg_of→Hv,kitOne→Hw,plainGet→Jc,OpenLaw→Ji,lookIn→Ka,plainGet_of→Kh,callWith_K0→Ki,callWith_K→K0,methodObj→La,isFn→Lb,hasDictIn→Lc,takerIn→Mm,makesIn→Mo,hideAll→Mp,WalkO→Mv,Looks→Nl,cellsFrom_some→N9,methodCall_KW→Ol,looks_mroIn→Pf,hideAll_get→Pg,of_hideAll→P0,plainOver→Qc,handedIn→Qp,piece_app→Q0,exmOne→Rf,mroIn→R4,InK→Tc,mg_none_of→Uh,XL→Ui
open Bool renaming and_eq_true→Ai,false_eq_true→As,false_ne_true→Aw,not_true→Dg,or_eq_true→Ht,and_false→Ik,not_eq_true'→Jh,and_eq_true_iff→Kt,true_and→Lj,eq_iff_iff→Na,and_self→O2,or_eq_false_iff→Ql,not_false→T4,false_and→T5,and_true→Ux
open Nat renaming le_refl→Aj,ne_of_lt→Au,lt_of_lt_of_le→Be,le_trans→Bl,ne_of_gt→Cq,zero_le→Cz,lt_succ_self→Dm,le_of_lt→D6,sub_self→El,lt_irrefl→Em,lt_of_le_of_lt→Es,zero_add→E4,lt_trans→E5,add_le_add_left→Gm,le_add_right→Hl,sub_zero→Ie,lt_or_ge→Ig,lt_trichotomy→Jl,lt_succ_of_lt→Jm,le_succ→Jn,le_of_lt_succ→Jo,le_of_eq→Kb,add_assoc→Lm,succ_pos→Mr,mod_lt→Oe,not_lt→Ru,strongRecOn→Tw
open Option renaming map_eq_some_iff→Al,isSome_iff_exists→Bw,map_some→Eu,isSome_map→Ex,bind_some→G6,bind_eq_some_iff→Od,isNone_some→Qg,getD_none→Q3,map_map→R8,toList→Sx
open PySem.Value renaming ref→Aq,none→Cj,int→Dz,type→Ea,builtin→Gi,bool→H9,isInt_shape→Iz,isInt→I9,str→Oo,isStrOf→Td,float→U6,bytes→U7
open Option.some renaming inj→Bb,injEq→Gk
open Array renaming getElem?_eq_getElem→Bm,length_toList→Bz,mem_toList_iff→Di,getElem?_toList→Dx,forIn_toList→Fo,mem_of_getElem?→Kc,getElem?_eq_none→Pd,toList_extract→Qb,toList_push→Q7,getElem_mem→Q8,isEmpty→T6,toList→Uy
open Function renaming comp_def→Bn
open PySem.SetTable renaming runEnd→Bp,below→C1,turns→Dn,Probe→D2,insertAt→D4,bits→Fj,advance→Gz,has→Jj,leap→Kj,fill→M3,fits→Rh
open PySem.Builtin.Int renaming intBits→Bx
open PySem.Builtin.Dict_items renaming ownsTuple→B6,ownedTupleIsFree→Iq,ownedTupleFields→Iu,pairFromOwner→Jk,newIterator→Ju,dictOf→Kn
open PySem.Builtin.SmallTypes renaming ownedTupleIsFree→B8,nextOf→Cy,ownedTupleHandOut→Ih
open PyProof.Rows renaming slot_tuple_getitem→B9,callWith_type1→De,wpS_bind→F5,callWith_builtin1→Gu,AllBare→Je,wpS_pure→Jt,tail_any→Lg,envOfC→Lz,tupleItemsOf_→Mx,entry_list_sort→O8,slot_list_sort→Pk,setPending→P7,SortKind→P8,listUpdate_at→Qr,wpS_get→Ro,wpS_forRange→Rp,subscriptTail_builtinR→Rq,IntsAre→Rt,UnaryOp_→R7,seqEpoch_at→Su,entry_proto_collect'→Sv,Call_→Sw,entry_tuple_getitem→Th,args_tuple_getitem→Us,SortSt→Ut,arrOf→Vd
open PySem.Paired renaming length→Ce,snoc→Ul
open False renaming elim→Co
open PySem.Builtin.Tuple renaming tupleHashOf→C2,tupleExact→F2,tupleItemsOf→G9,tupleIsExact→Ld
open PySem.Around renaming under_plainId→C3,under→Oz
open PySem.Heap.SameBut renaming update→C5,refl→Oa
open PySem.F renaming slot_dict_itemiterator_next→Dc,called_set→Dw,slot_dict_valueiterator_next→D5,slot_dict_keyiterator_next→Ei,plain_extend_loop→Er,plainAttrs_dict→E7,slot_tuple_iterator_next→Gg,slot_dict_get→G0,slot_tuple_hash→G8,slot_tuple_eq→Ib,args_tuple_add_2→Ip,entry_tuple_add→Jd,slot_tuple_add→Js,slot_list_getattribute→Jx,args_dict_itemiterator_next_1→Ke,entry_dict_itemiterator_next→Km,slot_zip_next→Kr,slot_dict_items_iter→Mq,excBase_ValueError→M1,args_dict_valueiterator_next_1→M2,slot_dict_getitem→M4,entry_extend_loop→M5,entry_dict_valueiterator_next→M6,slot_tuple_index→Nm,slot_dict_iter→Nn,args_dict_keyiterator_next_1→Np,slot_dict_items→Nu,plain_list_iadd→Nv,plainAttrs_list→Nw,entry_dict_keyiterator_next→Nx,args_dict_get_2→Ny,entry_dict_get→Ob,args_tuple_iterator_next_1→Oc,type_dict_get→Ov,slot_dict_pop→Ox,entry_tuple_iterator_next→Oy,slot_dict_ne→O7,slot_list_append→P4,slot_dict_values→P5,slot_dict_values_iter→Qe,slot_list_pop→Q2,kt_typeCall_dict_1→Rm,args_dict_init_2→Sq,entry_dict_init→Tf,args_zip_next_1→Tg,kt_called_dict→Uo,entry_zip_next→Uq,slot_tuple_lt→Vb
open Ne renaming symm→Df
open PySem.Obj renaming mapSeq→Ds,data_mapDictKeys→Hm,data_mapFields→Io,isFreed_of_fields→Qd,isFreed_of_dict→Q1,putSet→Ri,cls_mapFields→R6
open Int renaming toNat_natCast→Ed,lt_of_le_of_lt→Iy,toNat_of_nonneg→Li,natCast_nonneg→L5,lt_of_lt_of_le→L6,ediv_nonneg→Nt,fdiv_eq_ediv_of_nonneg→Oh,natAbs_of_nonneg→Qv,emod_lt_of_pos→Rz,emod_nonneg→T3,pow_nonneg→Uw
open PySem.Builtin.Dict renaming showsAll→Eg,updateFrom→F7,entriesForEmpty→K6,dictSlotArgs→Ly,selfAndRest→Mb,addKeywords→Mc,samePairs→Mw,takeOut→M7,quietEq→M8,noArgs→Nr
open PyProof.Rows.KTD.Dat renaming flat→Ew,At→Uu
open PySem.Shared renaming TypeIs→E1,heap→Ph
open True renaming intro→E6
open Std.Legacy.Range renaming forIn_eq_forIn_range'→Fd,size→Hx
open PySem.SeqAt renaming EqAt→Fm,RcNeAt→O6,RcAt→Qq
open PySem.Builtin.Slice renaming slicePlaces→Fq,sliceAdjust→Hk,sliceApplied→Le
open ForInStep renaming yield→Ge
open Sum renaming inl→Gf,inr→Mj
open PySem.PyData renaming tuple→Gv
open PySem.Calls renaming callWith_builtin→Gy,spliced_cons→Ic,spliced_nil→Ja,Name_function_global→Nq,call_function_entry→Nz,evalArgs_plain→P6
open PyProof.Rows.F renaming plain_set_update_loop→G1,entry_set_update_loop→Qf
open PySem.NameKind renaming free→G3,cell→Rj
open PySem.SetTable.below renaming go→Hi
open Prod.mk renaming injEq→Iw
open PySem.SetTable.probe renaming go→J1
open Classical renaming not_not→K2
open Std.Legacy renaming Range→K3
open PyProof.Rows.KTD renaming tabLook→K7,opened_int→Ti,get2_text→Tj,each_nil→Tn,each_miss→To,each_hit→Tq,datLooks→Ts,Each→Tt
open PySem.Builtin.List renaming listExtendWith→Lf,listSameRef→Ma
open PySem.SeqAt.EqAt renaming same→Lk,str_int→Oq,of_refs→Ot,int_str→Ou
open PySem.Code renaming quiet_builtin→Ll,isFrame→Pj
open List.Pairwise renaming imp_of_mem→L4,nil→N2
open Sum.inl renaming inj→L7
open PyProof.V.Flat renaming int_inv→Md
open Char renaming toNat→N3
open PySem.W.KF renaming slot_gs→Om
open List.cons renaming injEq→Qk
open PySem.Walks renaming list→Qo
open List.Perm renaming cons→Qu
open PyProof.Rows.IsTup renaming new→Rr
open PySem.W.KatTups renaming cons→Sl
open PySem.SetTable.Probe.mk renaming injEq→So
open PySem.Builtin.Frozenset renaming updateFrom→Ss
open PySem.Heap.IsItemsView renaming typeIs→Te
open Prod renaming ext→Tu
open PySem.W.OpenLaw renaming row→Uj
open PySem.W.WShape renaming has→U5
open PySem.Heap.IsSliceOf renaming new→Va
open PyProof.Rows.SortSt renaming mk'→Ve
theorem fx9{p:Prop}(h:false=true):p:=absurd h Aw
noncomputable section
set_option autoImplicit true
set_option Elab.async false
set_option linter.all false
set_option maxRecDepth 100000
set_option maxHeartbeats 4000000
set_option bootstrap.genMatcherCode false
set_option compiler.extract_closed false
namespace L2
open PySem PySem.Spec PyProof.Rows
abbrev Key:=Sum Int Str
noncomputable def Xe:Key->Value->Bool
 |.inl k,v=>I9 k v
 |.inr x,v=>Td x v
noncomputable def Wce(w:World):Key->Int
 |.inl k=>hashInt k
 |.inr x=>hashStr w x
theorem Jas:∀{k:Key} {v:Value},Xe k v=true->(∃i t,k=Gf i/\v=Dz i t)\/(∃x t,k=Mj x/\v=Oo x t)
 |.inl i,v,h=>by
  obtain⟨t,e⟩:=Iz (k:=i) (v:=v) h;exact .inl ⟨i,t,rfl,e⟩
 |.inr x,v,h=>by
  obtain⟨t,e⟩:=Value.isStrOf_shape (x:=x) (v:=v) h;exact .inr ⟨x,t,rfl,e⟩
def Jma(i:Int)(t:Tok):Xe (.inl i) (.int i t)=true:=by simp[Xe,I9]
def Jl9(x:Str)(t:Tok):Xe (.inr x) (.str x t)=true:=by simp[Xe,Td]
def Jw8(a b:Int):decide ((Gf a:Key)=Gf b)=(a==b):=by
 by_cases e:a=b
 ·subst e;simp
 ·have h:¬(Gf a:Key)=Gf b:=λq=>e (L7 q);rw[decide_eq_false h];exact(beq_eq_false_iff_ne.mpr e).symm
def Jw5(a b:Str):decide ((Mj a:Key)=Mj b)=decide (a=b):=by
 by_cases e:a=b
 ·subst e;simp
 ·have h:¬(Mj a:Key)=Mj b:=λq=>e (Sum.inr.inj q);rw[decide_eq_false h,decide_eq_false e]
def Jw7(a:Int)(b:Str):decide ((Gf a:Key)=Mj b)=false:=decide_eq_false (λq=>nomatch q)
def Jw6(a:Str)(b:Int):decide ((Mj a:Key)=Gf b)=false:=decide_eq_false (λq=>nomatch q)
def mixKind(prog:Program)(w:World):PySem.KeyKind prog w Key where
 is:=Xe
 hash:=Wce w
 inj:=λv a b ha hb=>by
  rcases Jas ha with⟨i,t,rfl,rfl⟩|⟨x,t,rfl,rfl⟩
  ·rcases Jas hb with⟨j,u,rfl,e⟩|⟨y,u,rfl,e⟩
   ·injection e with e1 _;rw[e1]
   ·exact nomatch e
  ·rcases Jas hb with⟨j,u,rfl,e⟩|⟨y,u,rfl,e⟩
   ·exact nomatch e
   ·injection e with e1 _;rw[e1]
 byValue:=λk v h=>by
  rcases Jas h with⟨i,t,rfl,rfl⟩|⟨x,t,rfl,rfl⟩<;>rfl
 pyHash:=λhv h=>by
  rcases Jas hv with⟨i,t,rfl,rfl⟩|⟨x,t,rfl,rfl⟩
  ·exact wpAny_pyHash_int h
  ·exact wpAny_pyHash_str h
 eqBool:=λhu hv h=>by
  rcases Jas hu with⟨i,t,rfl,rfl⟩|⟨x,t,rfl,rfl⟩
  ·rcases Jas hv with⟨j,u,rfl,rfl⟩|⟨y,u,rfl,rfl⟩
   ·rw[Jw8]at h;exact Hu h
   ·rw[Jw7]at h;exact Ou i t y u _ _ _ _ h
  ·rcases Jas hv with⟨j,u,rfl,rfl⟩|⟨y,u,rfl,rfl⟩
   ·rw[Jw6]at h;exact Oq x t j u _ _ _ _ h
   ·rw[Jw5]at h;exact wpAny_eqBool_str h
 «strs»:=λk x t v h=>by
  rcases Jas h with⟨i,u,rfl,e⟩|⟨y,u,rfl,e⟩
  ·exact nomatch e
  ·injection e with e1 _;subst e1;cases v<;>rfl
def Jir(prog:Program)(w:World)(i:Int)(t:Tok):(mixKind prog w).is (.inl i) (.int i t)=true:=Jma i t
def Jiq(prog:Program)(w:World)(x:Str)(t:Tok):(mixKind prog w).is (.inr x) (.str x t)=true:=Jl9 x t
inductive V where
 |non|bl (b:Bool)|int (i:Int)|str (x:Str)|byt (b:Array UInt8)|flt (b:UInt64)|ref (a:Addr)|ty (n:String)
 deriving DecidableEq
def RelV:V->Value->Prop
 |.non,u=>u=Cj
 |.bl b,u=>u=H9 b
 |.int i,u=>∃t,u=Dz i t
 |.str x,u=>∃t,u=Oo x t
 |.byt b,u=>∃t,u=U7 b t
 |.flt b,u=>∃t,u=U6 b t
 |.ref a,u=>u=Aq a
 |.ty n,u=>u=Ea n
abbrev Vals:List V->List Value->Prop:=Paired RelV
def Vals.length{xs:List V}{us:List Value}(r:Vals xs us):xs.length=us.length:=Ce r
theorem Vals.get:∀{xs:List V} {us:List Value} {i:Nat} {x:V},Vals xs us->xs[i]? =some x->∃u,us[i]? =some u/\RelV x u
 |_,_,_,_,.nil,e=>by simp at e
 |_,_,0,_,.cons r _,e=>by simp at e;subst e;exact⟨_,rfl,r⟩
 |_,_,i+1,x,.cons _ t,e=>by
  obtain⟨u,h1,h2⟩:=Vals.get (i:=i) (x:=x) t (by simpa using e);exact⟨u,by simpa using h1,h2⟩
theorem Vals.set(r:RelV x u):∀{xs:List V} {us:List Value} (i:Nat),Vals xs us->Vals (xs.set i x) (us.set i u)
 |_,_,_,.nil=>.nil
 |_,_,0,.cons _ t=>.cons r t
 |_,_,i+1,.cons q t=>.cons q (Vals.set r i t)
theorem Vals.append(h:Vals xs us)(s:Vals ys ws):Vals (xs++ys) (us++ws):=by
 induction h with
 |nil=>exact s
 |cons r t ih=>exact .cons r ih
theorem Vals.take:∀{xs:List V} {us:List Value} (n:Nat),Vals xs us->Vals (xs.take n) (us.take n)
 |_,_,0,_=>.nil
 |_,_,_+1,.nil=>.nil
 |_,_,n+1,.cons r t=>.cons r (Vals.take n t)
theorem Vals.drop:∀{xs:List V} {us:List Value} (n:Nat),Vals xs us->Vals (xs.drop n) (us.drop n)
 |_,_,0,r=>r
 |_,_,_+1,.nil=>.nil
 |_,_,n+1,.cons _ t=>Vals.drop n t
def RelO:Option V->Option Value->Prop
 |some v,some u=>RelV v u
 |none,none=>True
 |_,_=>False
def KV{κ:Type}:List (κ×V)->List (κ×Value)->Prop:=Paired λ(p:κ×V) (q:κ×Value)=>p.1=q.1/\RelV p.2 q.2
noncomputable def kV:Key->V
 |.inl i=>.int i
 |.inr x=>.str x
inductive HO where
 |lst (xs:List V)
 |tup (xs:List V)
 |dK (kvs:List (Key×V))|dT (kvs:List (List Key×V))
 |set (S:Int->Bool) (n:Nat)
 |ins (C dx:Addr) (fs:List (Str×V))
 |own (x:Addr)
 |xd (fs:List (Str×V))
 |met (f x:Addr)
 |rng (lo hi:Int)
 |frz (o:Obj) (u:HO)
 |tbl (ps:Array Value)
 |ext (φ:Program->World->Heap->Prop)
abbrev Hp:=Addr->Option HO
noncomputable def upd(H:Hp)(a:Addr)(o:HO):Hp:=λb=>if b=a then some o else H b
def Jaf:upd H a o a=some o:=by unfold upd;rw[if_pos rfl]
def Jac(h:b≠a):upd H a o b=H b:=by unfold upd;rw[if_neg h]
def Je9{H:Hp}{a b:Addr}{o u:HO}(h:H a=some o)(h':H b=some u)(d:o≠u):a≠b:=by
 intro e;subst e;rw[h]at h';exact d (Bb h')
def Jal{H:Hp}{a b:Addr}{o:HO}(h:H a=some o)(h':H b=none):a≠b:=by
 intro e;subst e;rw[h]at h';cases h'
section
variable (P:Program) (w:World)
def Vj(H:Hp)(h:Heap)(a:Addr):HO->Prop
 |.lst xs=>xs.length<=sizeLine/\∃(its:List Value) (n:Nat),Vals xs its/\h.get? a=some {cls:=.type "list",data:=.seq its.toArray n}
 |.tup xs=>xs.length<=sizeLine/\∃its:List Value,Vals xs its/\IsTup h a its.toArray
 |.dK kvs=>kvs.length<=sizeLine/\(a==sysModules)=false/\∃vs,KV kvs vs/\h.DictOf (mixKind P w) a vs
 |.dT kvs=>kvs.length<=sizeLine/\(a==sysModules)=false/\∃xs:List (List Key×Addr×Value),
   Paired (λ(p:List Key×V) (q:List Key×Addr×Value)=>p.1=q.1/\H q.2.1=some (.tup (p.1.map kV))/\RelV p.2 q.2.2) kvs xs/\
   ∃o es ep,h.get? a=some o/\o.ExactDict/\o.data=.dict es ep/\es.toList=xs.map (entryOfKey (tupleKind (mixKind P w)))/\(xs.map (·.1)).Nodup
 |.set S n=>h.SetOf (intKind P w) a S n
 |.ins C dx fs=>H dx=some (.own a)/\fs.length<=1000/\dx≠a/\h.get? a=some (Et C dx)/\
   ∃mA,h.Ns1 dx mA/\(∀f,RelO (fs.lookup f) (mA f))/\O5 mA (fs.map (·.1))
 |.own _=>∃o,h.get? a=some o
 |.xd fs=>∃mA,h.Ns1 a mA/\∀f,RelO (fs.lookup f) (mA f)
 |.rng lo hi=>∃t u v,h.get? a=some {cls:=.type "range",data:=.fields #[.int lo t,.int hi u,.int 1 v]}
 |.frz o u=>h.get? a=some o/\Vj H h a u
 |.tbl ps=>h.get? a=some {cls:=.none,data:=.fields ps}
 |.met f x=>h.get? a=some (La (.ref f) (.ref x))
 |.ext φ=>φ P w h/\(∃o,h.get? a=some o)/\∀h1 h2:Heap,φ P w h1->(∀o,h1.get? a=some o->h2.get? a=some o)->φ P w h2
def HOk(H:Hp)(h:Heap):Prop:=∀a o,H a=some o->Vj P w H h a o
end
section
variable {P:Program} {w:World} {H H':Hp} {h h':Heap} {a:Addr} {o:HO}
theorem Vj.lt(x:Vj P w H h a o):a<h.objs.size:=by
 cases o with
 |lst xs=>obtain⟨_,_,_,_,e⟩:=x;exact Am e
 |tup xs=>obtain⟨_,_,_,p⟩:=x;exact p.lt
 |dK kvs=>obtain⟨_,_,_,_,o,_,_,e,_⟩:=x;exact Am e
 |dT kvs=>obtain⟨_,_,_,_,o,_,_,e,_⟩:=x;exact Am e
 |set S n=>obtain⟨o,_,_,_,e,_⟩:=x;exact Am e
 |ins C dx fs=>obtain⟨_,_,_,e,_⟩:=x;exact Am e
 |own y=>obtain⟨_,e⟩:=x;exact Am e
 |xd fs=>obtain⟨_,⟨_,_,_,e,_⟩,_⟩:=x;exact Am e
 |rng lo hi=>obtain⟨_,_,_,e⟩:=x;exact Am e
 |frz ob u=>obtain⟨e,_⟩:=x;exact Am e
 |tbl ps=>exact Am (show h.get? a=some _ from x)
 |met f y=>exact Am (show h.get? a=some _ from x)
 |ext φ=>obtain⟨_,⟨_,e⟩,_⟩:=x;exact Am e
theorem Paired.mapP{α β:Type}{F G:α->β->Prop}{l₁:List α}{l₂:List β}(h:Paired F l₁ l₂)(f:∀a b,F a b->G a b):Paired G l₁ l₂:=by
 induction h with
 |nil=>exact .nil
 |cons r t ih=>exact .cons (f _ _ r) ih
theorem Vj.stay(x:Vj P w H h a o)(k:∀b u,(b=a\/H b=some (.own a))->h.get? b=some u->h'.get? b=some u)
  (ho:∀b,H b=some (.own a)->H' b=some (.own a))(ht:∀b xs,H b=some (.tup xs)->H' b=some (.tup xs)):Vj P w H' h' a o:=by
 induction o with
 |lst xs=>obtain⟨z,its,n,r,e⟩:=x;exact⟨z,its,n,r,k _ _ (.inl rfl) e⟩
 |tup xs=>obtain⟨z,its,r,ob,e,c⟩:=x;exact⟨z,its,r,ob,k _ _ (.inl rfl) e,c⟩
 |dK kvs=>obtain⟨z,y,vs,r,ob,es,ep,e,c⟩:=x;exact⟨z,y,vs,r,ob,es,ep,k _ _ (.inl rfl) e,c⟩
 |dT kvs=>
  obtain⟨z,y,xs,r,ob,es,ep,e,c⟩:=x;exact⟨z,y,xs,Paired.mapP r λp q z=>⟨z.1,ht _ _ z.2.1,z.2.2⟩,ob,es,ep,k _ _ (.inl rfl) e,c⟩
 |set S n=>obtain⟨ob,es,ep,t,e,c⟩:=x;exact⟨ob,es,ep,t,k _ _ (.inl rfl) e,c⟩
 |ins C dx fs=>
  obtain⟨d,z,ne,e,mA,⟨od,es,ep,e2,c⟩,r⟩:=x;exact⟨ho _ d,z,ne,k _ _ (.inl rfl) e,mA,⟨od,es,ep,k _ _ (.inr d) e2,c⟩,r⟩
 |own y=>obtain⟨ob,e⟩:=x;exact⟨ob,k _ _ (.inl rfl) e⟩
 |xd fs=>obtain⟨mA,⟨od,es,ep,e,c⟩,r⟩:=x;exact⟨mA,⟨od,es,ep,k _ _ (.inl rfl) e,c⟩,r⟩
 |rng lo hi=>obtain⟨t,u,v,e⟩:=x;exact⟨t,u,v,k _ _ (.inl rfl) e⟩
 |frz ob u ih=>obtain⟨e,q⟩:=x;exact⟨k _ _ (.inl rfl) e,ih q⟩
 |tbl ps=>
  have e:h.get? a=some {cls:=.none,data:=.fields ps}:=x;show h'.get? a=some {cls:=.none,data:=.fields ps};exact k a _ (.inl rfl) e
 |met f y=>
  have e:h.get? a=some (La (.ref f) (.ref y)):=x;show h'.get? a=some (La (.ref f) (.ref y));exact k a _ (.inl rfl) e
 |ext φ=>obtain⟨p,⟨o,e⟩,st⟩:=x;exact⟨st _ _ p λo q=>k _ _ (.inl rfl) q,⟨o,k _ _ (.inl rfl) e⟩,st⟩
def HOk.lt(x:HOk P w H h)(e:H a=some o):a<h.objs.size:=(x a o e).lt
theorem HOk.fresh(x:HOk P w H h)(e:h.objs.size<=a):H a=none:=by
 cases q:H a with
 |none=>rfl
 |some u=>exact absurd (Be (x.lt q) e) (Em _)
def HOk.kept(x:HOk P w H h)(k:∀b u,h.get? b=some u->h'.get? b=some u):HOk P w H h':=λa o e=>
 (x a o e).stay (λb u _ q=>k b u q) (λ_ q=>q) λ_ _ q=>q
def HOk.laid(x:HOk P w H h)(k:∀b u,h.get? b=some u->h'.get? b=some u)(hp:h.objs.size<=a)(new:Vj P w (upd H a o) h' a o):HOk P w (upd H a o) h':=λb u e=>by
 have hn:=x.fresh hp
 by_cases hb:b=a
 ·subst hb;rw[Jaf]at e;cases e;exact new
 ·rw[Jac hb]at e;exact(x b u e).stay (λc v _ q=>k c v q) (λc q=>by rw[Jac (Jal q hn)];exact q) λc xs q=>by rw[Jac (Jal q hn)];exact q
end
def Rd(H:Hp)(a:Addr)(u:HO):Prop:=H a=some u\/∃o,H a=some (.frz o u)
def Rd.of(h:H a=some u):Rd H a u:=.inl h
def Rd.ok(r:Rd H a u)(x:HOk P w H h):Vj P w H h a u:=by
 rcases r with r|⟨o,r⟩
 ·exact x a u r
 ·obtain⟨_,q⟩:=x a _ r;exact q
def Mut:Option HO->Prop
 |some (.lst _)=>True
 |some (.dK _)=>True
 |some (.dT _)=>True
 |some (.set _ _)=>True
 |some (.ins _ _ _)=>True
 |some (.ext _)=>True
 |_=>False
section
variable {P:Program} {w:World} {H:Hp} {h h':Heap} {x e:Addr} {o':HO}
theorem HOk.write(ok:HOk P w H h)(mu:Mut (H x))(he:e=x\/H e=some (.own x))(k:∀b u,b≠e->h.get? b=some u->h'.get? b=some u)(heo:∃u,h'.get? e=some u)
  (new:Vj P w (upd H x o') h' x o'):HOk P w (upd H x o') h':=λb u q=>by
 have nown:∀c y,H c=some (.own y)->c≠x:=λc y r z=>by subst z;rw[r]at mu;exact mu
 have ntup:∀c xs,H c=some (.tup xs)->c≠x:=λc xs r z=>by subst z;rw[r]at mu;exact mu
 by_cases hb:b=x
 ·subst hb;rw[Jaf]at q;cases q;exact new
 ·rw[Jac hb]at q
  by_cases hbe:b=e
  ·have q':H b=some (.own x):=by
    rcases he with z|z
    ·exact absurd (hbe.trans z) hb
    ·rw[hbe];exact z
   rw[q]at q';cases q';obtain⟨v,hv⟩:=heo;exact⟨v,by rw[hbe];exact hv⟩
  ·refine(ok b u q).stay (λc v hc r=>k c v ?_ r) (λc r=>by rw[Jac (nown c b r)];exact r) λc xs r=>by rw[Jac (ntup c xs r)];exact r
   rcases hc with rfl|hc
   ·exact hbe
   ·rintro rfl;rcases he with z|z
    ·exact nown c b hc z
    ·rw[hc]at z;cases z;exact hb rfl
end
structure Un(fs ex:List Addr)(H H':Hp)(h h':Heap):Prop where
 keep:∀b o,h.get? b=some o->H b=none->b∉fs->b∉ex->h'.get? b=some o
 slot:∀b o,h.get? b=some o->H b=none->b∈fs->b∉ex->∃sl,h'.get? b=some {o with slots:=sl}
 free:∀b o,h.get? b=some o->H b=none->b∉ex->H' b=none
 there:∀b o,h.get? b=some o->b∉ex->∃o',h'.get? b=some o'
 tups:∀b xs,H b=some (.tup xs)->H' b=some (.tup xs)
 frzs:∀b o u,H b=some (.frz o u)->H' b=some (.frz o u)
 tbls:∀b ps,H b=some (.tbl ps)->∃more,H' b=some (.tbl (ps++more))
section
variable {fs fs' ex ex':List Addr} {H H1 H2:Hp} {h h1 h2 h':Heap} {a x e:Addr} {o:HO}
def Un.any(u:Un fs ex H H1 h h1)(q:h.get? b=some ob)(n:H b=none)(hx:b∉ex):∃sl,h1.get? b=some {ob with slots:=sl}:=by
 by_cases hb:b∈fs
 ·exact u.slot b ob q n hb hx
 ·exact⟨ob.slots,u.keep b ob q n hb hx⟩
def Un.kept(k:∀b u,h.get? b=some u->h'.get? b=some u):Un fs ex H H h h':=
 ⟨λb ob q _ _ _=>k b ob q,λb ob q _ _ _=>⟨ob.slots,k b ob q⟩,λ_ _ _ n _=>n,λb ob q _=>⟨ob,k b ob q⟩,λ_ _ q=>q,λ_ _ _ q=>q,λ_ ps q=>⟨#[],by rw[q];simp⟩⟩
def Un.refl:Un fs ex H H h h:=Un.kept λ_ _ q=>q
def Un.laid(k:∀b u,h.get? b=some u->h'.get? b=some u)(hp:h.objs.size<=a)(hn:H a=none):Un fs ex H (upd H a o) h h' where
 keep:=λb u q _ _ _=>k b u q
 slot:=λb u q _ _ _=>⟨u.slots,k b u q⟩
 free:=λb u q n _=>by rw[Jac (Au (Be (Am q) hp))];exact n
 there:=λb u q _=>⟨u,k b u q⟩
 tups:=λb xs q=>by rw[Jac (Jal q hn)];exact q
 frzs:=λb u xs q=>by rw[Jac (Jal q hn)];exact q
 tbls:=λb ps q=>⟨#[],by rw[Jac (Jal q hn),q];simp⟩
def Un.write(mu:Mut (H x))(he:e=x\/H e=some (.own x))(k:∀b u,b≠e->h.get? b=some u->h'.get? b=some u)(heo:∃u,h'.get? e=some u):Un fs ex H (upd H x o) h h':=by
 have hx:∀b,H b=none->b≠x:=λb n z=>by subst z;rw[n]at mu;exact mu
 have hb:∀b,H b=none->b≠e:=λb n z=>by
  subst z;rcases he with r|r
  ·exact hx b n r
  ·rw[n]at r;cases r
 have hm:∀b u,H b=some u->¬Mut (some u)->b≠x:=λb u q nm z=>by subst z;rw[q]at mu;exact nm mu
 refine⟨λb u q n _ _=>k b u (hb b n) q,λb u q n _ _=>⟨u.slots,k b u (hb b n) q⟩,λb u q n _=>by rw[Jac (hx b n)];exact n,λb u q _=>?_,
  λb xs q=>by rw[Jac (hm b _ q λz=>z)];exact q,λb u xs q=>by rw[Jac (hm b _ q λz=>z)];exact q,λb ps q=>⟨#[],by rw[Jac (hm b _ q λz=>z),q];simp⟩⟩
 by_cases hbe:b=e
 ·subst hbe;exact heo
 ·exact⟨u,k b u hbe q⟩
end
noncomputable def trk(h:Heap)(H:Hp):List Addr:=(B3 h.objs.size).filter λa=>(H a).isSome
def Xj(h:Heap)(H:Hp):Heap:=Mp h (trk h H)
def Jmm(h:Heap)(H:Hp):(Xj h H).objs.size=h.objs.size:=PySem.W.hideAll_size _ _
def Jpf{h:Heap}(e:h.get? b=some o)(n:H b=none):(Xj h H).get? b=some o:=
 Pg _ e λhm=>by
  have q:(H b).isSome=true:=(Hq.mp hm).2;rw[n]at q;simp at q
theorem Jtk{h:Heap}(e:(Xj h H).get? b=some o):h.get? b=some o/\H b=none:=by
 have e':h.get? b=some o:=P0 (trk h H) e;refine⟨e',?_⟩;cases q:H b with
 |none=>rfl
 |some x=>
  have hm:b∈trk h H:=Hq.mpr ⟨Tx.mpr (Am e'),by simp[q]⟩;have z:(Xj h H).get? b=none:=PySem.W.hideAll_none (trk h H) hm;rw[z]at e;cases e
structure Mod(K:Af)(mg:Str->Option Value)(base:Heap):Prop where
 kin:K.In base
 glob:base.Ns A7 mg
 blt:∃mb,base.Ns Ug mb/\∀x:Str,x≠"__name__"->mb x=C9 x
 nolimit:base.NoLimit
structure Cx where
 prog:Program
 w:World
 K:Af
 mg:Str->Option Value
 base:Heap
 A:Bi
 N:List Str
 s₀:Shared
 H₀:Hp
 env:Env
 outer:List Env
 stack:List Env
 ex:List Addr
 fn:Str->Bool
 calm:Bool
 pn:List (Addr×Obj)
 xe:Value->Shared->Prop
noncomputable def frs(l:List Env):List Addr:=l.filterMap (·.frame)
abbrev Cx.fs(X:Cx):List Addr:=frs X.outer
def Vis(sc:Ia)(x:Str):Prop:=sc.names.lookup x=some .local\/sc.names.lookup x=some .cell\/sc.names.lookup x=some .free
def Loc(sc:Ia)(x:Str):Prop:=sc.names.lookup x=some .local\/sc.names.lookup x=some .cell
def Look(env:Env)(h:Heap)(m:Str->Option Value)(x:Str)(u:Value):Prop:=
 (env.kindOf x=some .local/\m x=some u)\/((env.kindOf x=some .cell\/env.kindOf x=some .free)/\∃c,env.cells.lookup x=some c/\h.IsCell c (some u))
structure Cx.Ok(X:Cx):Prop where
 mod:Mod X.K X.mg X.base
 kind:X.env.scope.kind=.function
 glob:X.env.globals=A7
 blt:X.env.builtins=Ug
 above:X.s₀.heap.objs.size<=X.env.locals
 inj:∀x y c,X.env.cells.lookup x=some c->X.env.cells.lookup y=some c->x=y
 has:∀x,(X.env.kindOf x=some .cell\/X.env.kindOf x=some .free)->∃c,X.env.cells.lookup x=some c
 cab:∀x c,X.fn x=true->X.env.cells.lookup x=some c->X.s₀.heap.objs.size<=c
 hd:X.calm=true->X.A.handled=none
 frames:X.A.frames=some X.stack
 stk:X.stack=X.outer\/(X.stack=X.env::X.outer/\X.env.frame=some X.env.locals)
 exf:∀b∈X.ex,b≠X.env.locals/\∀x c,X.env.cells.lookup x=some c->c≠b
 bs:∀b o,X.base.get? b=some o->X.s₀.heap.get? b=some o/\X.H₀ b=none
 bsz:X.base.objs.size<=X.s₀.heap.objs.size
 noex:∀b o,X.base.get? b=some o->b∉X.ex
 exfs:∀b∈X.ex,b∉X.fs
 funs:X.s₀.heap.FunFrames X.base X.outer
 frf:∀b∈X.fs,X.H₀ b=none
structure Inv(X:Cx)(pins:List (Addr×Obj))(U:List (Option V))(H:Hp)(s:Shared):Prop where
 ok:X.Ok
 os:s.os=X.s₀.os
 bare:Je s.gens
 base:Un X.fs X.ex X.H₀ H X.s₀.heap s.heap
 loc:∃m,s.heap.Ns X.env.locals m/\∀(i:Nat) (x:Str) (v:V),X.N[i]? =some x->U[i]? =some (some v)->Vis X.env.scope x->∃u,RelV v u/\Look X.env s.heap m x u
 cell:∀x c,X.env.cells.lookup x=some c->∃v,s.heap.IsCell c v
 free:H X.env.locals=none
 freeC:∀x c,X.env.cells.lookup x=some c->H c=none
 pin:∀p∈X.pn++pins,s.heap.get? p.1=some p.2/\H p.1=none/\p.1≠X.env.locals/\p.1∉X.fs/\∀v,p.2.data≠ .cell v
 hok:HOk X.prog X.w H s.heap
 len:U.length=X.N.length
section
variable {X:Cx} {pins:List (Addr×Obj)} {U:List (Option V)} {H H':Hp} {s:Shared} {h':Heap}
def Cx.Ok.nofr(ok:X.Ok)(e:X.base.get? b=some o):b∉X.fs:=λhb=>by
 have:=(ok.funs.mem hb).1;rw[e]at this;cases this
def Inv.bs(I:Inv X pins U H s):∀b o,X.base.get? b=some o->s.heap.get? b=some o/\H b=none:=λb o e=>
 ⟨I.base.keep b o (I.ok.bs b o e).1 (I.ok.bs b o e).2 (I.ok.nofr e) (I.ok.noex b o e),I.base.free b o (I.ok.bs b o e).1 (I.ok.bs b o e).2 (I.ok.noex b o e)⟩
def Inv.bk(I:Inv X pins U H s):∀b o,X.base.get? b=some o->s.heap.get? b=some o:=λb o e=>(I.bs b o e).1
def Inv.mod(I:Inv X pins U H s):Mod X.K X.mg X.base:=I.ok.mod
def Inv.kIn(I:Inv X pins U H s):X.K.In s.heap:=I.ok.mod.kin.keeps I.bk
def Inv.lt(I:Inv X pins U H s):X.env.locals<s.heap.objs.size:=let⟨_,hn,_⟩:=I.loc;hn.lt
def Inv.sz(I:Inv X pins U H s):X.s₀.heap.objs.size<=s.heap.objs.size:=Bl I.ok.above (D6 I.lt)
def Inv.nofs(I:Inv X pins U H s)(h:s.heap.objs.size<=a):a∉X.fs:=λhb=>by
 obtain⟨_,o,ho,_⟩:=I.ok.funs.mem hb;exact absurd (Be (Am ho) (Bl I.sz h)) (Em _)
def Inv.cne(I:Inv X pins U H s):∀x c,X.env.cells.lookup x=some c->c≠X.env.locals:=λx c e z=>by
 obtain⟨v,o,ho,hd⟩:=I.cell x c e;obtain⟨m,⟨o',es,ep,ho',hd',_⟩,_⟩:=I.loc;rw[z,ho']at ho;cases ho;rw[hd']at hd;cases hd
def Inv.funs(I:Inv X pins U H s):s.heap.FunFrames X.base X.outer:=by
 have all:∀(l:List Env),(∀b∈frs l,b∈X.fs)->X.s₀.heap.FunFrames X.base l->s.heap.FunFrames X.base l:=by
  intro l
  induction l with
  |nil=>intro _ _;trivial
  |cons env r ih=>
   intro hs hl;obtain⟨hk,⟨L,o,hf,hn,ho,hd⟩,hr⟩:=hl;have hL:L∈X.fs:=hs L (by unfold frs;rw[Fc,hf];exact Bh);obtain⟨sl,e⟩:=I.base.slot L o ho (I.ok.frf L hL) hL λz=>I.ok.exfs L z hL;exact⟨hk,⟨L,_,hf,hn,e,hd⟩,ih (λb hb=>hs b (by unfold frs;rw[Fc,hf];exact Ax _ hb)) hr⟩
 exact all X.outer (λ_ hb=>hb) I.ok.funs
def Inv.stack(I:Inv X pins U H s):s.heap.FunFrames X.base X.stack:=by
 rcases I.ok.stk with e|⟨e,hf⟩
 ·rw[e];exact I.funs
 ·rw[e];obtain⟨m,hn,_⟩:=I.loc;refine .cons (by rw[I.ok.kind];decide) hf hn ?_ I.funs;exact Ko (Bl I.ok.bsz I.ok.above)
def Inv.stkSub(I:Inv X pins U H s):∀b∈frs X.stack,b∈X.env.locals::X.fs:=λb hb=>by
 rcases I.ok.stk with e|⟨e,hf⟩
 ·rw[e]at hb;exact Ax _ hb
 ·rw[e]at hb;unfold frs at hb;rw[Fc,hf]at hb;exact hb
def Inv.stkFree(I:Inv X pins U H s):∀b∈frs X.stack,H b=none:=λb hb=>by
 rcases An.mp (I.stkSub b hb)with e|hb
 ·rw[e];exact I.free
 ·obtain⟨_,o,ho,_⟩:=I.ok.funs.mem hb;exact I.base.free b o ho (I.ok.frf b hb) λz=>I.ok.exfs b z hb
def Inv.step{ch:List Addr}(I:Inv X pins U H s)
  (hch:∀b∈ch,(b∈X.ex\/X.s₀.heap.objs.size<=b)/\b≠X.env.locals/\(∀x c,X.env.cells.lookup x=some c->c≠b)/\∀p∈X.pn++pins,p.1≠b)
  (keep:∀b o,b≠X.env.locals->b∉X.fs->b∉ch->s.heap.get? b=some o->H b=none->h'.get? b=some o)
  (slot:∀b o,b≠X.env.locals->b∈X.fs->b∉ch->s.heap.get? b=some o->H b=none->∃sl,h'.get? b=some {o with slots:=sl})(free:∀b o,b∉ch->s.heap.get? b=some o->H b=none->H' b=none)
  (there:∀b o,b∉ch->s.heap.get? b=some o->∃o',h'.get? b=some o')
  (tups:∀b xs,H b=some (.tup xs)->H' b=some (.tup xs))(frzs:∀b o u,H b=some (.frz o u)->H' b=some (.frz o u))(tbls:∀b ps,H b=some (.tbl ps)->∃more,H' b=some (.tbl (ps++more)))
  (ns:∀m,s.heap.Ns X.env.locals m->h'.Ns X.env.locals m)(hok:HOk X.prog X.w H' h')(hg:Je g'):
  Inv X pins U H' {s with heap:=h',gens:=g',drawn:=d',toks:=t'}:=by
 have neL:∀b o,X.s₀.heap.get? b=some o->b≠X.env.locals:=λb o e=>Au (Be (Am e) I.ok.above);have neC:∀b o,X.s₀.heap.get? b=some o->b∉X.ex->b∉ch:=λb o e hx hb=>by
  rcases(hch b hb).1 with z|z
  ·exact hx z
  ·exact absurd (Be (Am e) z) (Em _)
 have cellK:∀x c,X.env.cells.lookup x=some c->∀v,s.heap.IsCell c v->h'.IsCell c v:=λx c e v ⟨o,ho,hd⟩=>by
  have nch:c∉ch:=λz=>(hch c z).2.2.1 x c e rfl
  by_cases hc:c∈X.fs
  ·obtain⟨sl,q⟩:=slot c o (I.cne x c e) hc nch ho (I.freeC x c e);exact⟨_,q,hd⟩
  ·exact⟨o,keep c o (I.cne x c e) hc nch ho (I.freeC x c e),hd⟩
 refine⟨I.ok,I.os,hg,⟨λb o e n hb hx=>?_,λb o e n hb hx=>?_,λb o e n hx=>?_,λb o e hx=>?_,λb xs e=>tups b xs (I.base.tups b xs e),λb o xs e=>frzs b o xs (I.base.frzs b o xs e),λb ps e=>?_⟩,?_,λx c e=>?_,?_,λx c e=>?_,λp hp=>?_,hok,I.len⟩
 ·exact keep b o (neL b o e) hb (neC b o e hx) (I.base.keep b o e n hb hx) (I.base.free b o e n hx)
 ·obtain⟨sl,e1⟩:=I.base.slot b o e n hb hx;obtain⟨sl',e2⟩:=slot b _ (neL b o e) hb (neC b o e hx) e1 (I.base.free b o e n hx);exact⟨sl',e2⟩
 ·obtain⟨o',e1⟩:=I.base.there b o e hx;exact free b o' (neC b o e hx) e1 (I.base.free b o e n hx)
 ·obtain⟨o',e1⟩:=I.base.there b o e hx;exact there b o' (neC b o e hx) e1
 ·obtain⟨m1,e1⟩:=I.base.tbls b ps e;obtain⟨m2,e2⟩:=tbls b _ e1;exact⟨m1++m2,by rw[e2,Array.append_assoc]⟩
 ·obtain⟨m,hn,hl⟩:=I.loc;refine⟨m,ns m hn,λi x v e1 e2 e3=>?_⟩;obtain⟨u,r,l⟩:=hl i x v e1 e2 e3;refine⟨u,r,?_⟩;rcases l with l|⟨k,c,e,z⟩
  ·exact .inl l
  ·exact .inr ⟨k,c,e,cellK x c e _ z⟩
 ·obtain⟨v,z⟩:=I.cell x c e;exact⟨v,cellK x c e v z⟩
 ·obtain⟨m,⟨o,_,_,ho,_⟩,_⟩:=I.loc;exact free _ o (λz=>(hch _ z).2.1 rfl) ho I.free
 ·obtain⟨v,o,ho,hd⟩:=I.cell x c e;exact free c o (λz=>(hch c z).2.2.1 x c e rfl) ho (I.freeC x c e)
 ·obtain⟨e,n,ne,nf,d⟩:=I.pin p hp;have nch:p.1∉ch:=λz=>(hch p.1 z).2.2.2 p hp rfl;exact⟨keep p.1 p.2 ne nf nch e n,free p.1 p.2 nch e n,ne,nf,d⟩
def Inv.un(I:Inv X pins U H s)(u:Un X.fs [] H H' s.heap h')(hok:HOk X.prog X.w H' h'):Inv X pins U H' {s with heap:=h',toks:=t'}:=by
 obtain⟨m,⟨o,es,ep,ho,r⟩,_⟩:=id I.loc;obtain⟨sl,hL⟩:=u.any ho I.free (by simp);exact I.step (g':=s.gens) (d':=s.drawn) (ch:=[]) (λ_ z=>nomatch z) (λb o _ hb _ e n=>u.keep b o e n hb (by simp)) (λb o _ hb _ e n=>u.slot b o e n hb (by simp)) (λb o _ e n=>u.free b o e n (by simp)) (λb o _ e=>u.there b o e (by simp)) u.tups u.frzs u.tbls (λm' hm=>by
  obtain⟨o',es',ep',ho',r'⟩:=hm;rw[ho]at ho';cases ho';exact⟨_,es',ep',hL,r'⟩) hok I.bare
def Inv.call(I:Inv X pins U H s)(u:Un (frs X.stack) ch H H' s.heap h')(hok:HOk X.prog X.w H' h')(hg:Je g')
  (hch:∀b∈ch,(b∈X.ex\/X.s₀.heap.objs.size<=b)/\b≠X.env.locals/\(∀x c,X.env.cells.lookup x=some c->c≠b)/\∀p∈X.pn++pins,p.1≠b):
  Inv X pins U H' {s with heap:=h',gens:=g',drawn:=d',toks:=t'}:=by
 obtain⟨m,⟨o,es,ep,ho,r⟩,_⟩:=id I.loc;obtain⟨sl,hL⟩:=u.any ho I.free λz=>(hch _ z).2.1 rfl;exact I.step (ch:=ch) hch (λb o hL hb hc e n=>u.keep b o e n (λz=>(An.mp (I.stkSub b z)).elim hL hb) hc) (λb o _ _ hc e n=>u.any e n hc) (λb o hc e n=>u.free b o e n hc) (λb o hc e=>u.there b o e hc) u.tups u.frzs u.tbls (λm' hm=>by
  obtain⟨o',es',ep',ho',r'⟩:=hm;rw[ho]at ho';cases ho';exact⟨_,es',ep',hL,r'⟩) hok hg
def Inv.turned(I:Inv X pins U H s)(k:∀b o,b≠it->s.heap.get? b=some o->h'.get? b=some o)(hn:H it=none)(hL:it≠X.env.locals)
  (h1:it∈X.ex\/X.s₀.heap.objs.size<=it)(h2:∀x c,X.env.cells.lookup x=some c->c≠it)(h3:∀p∈X.pn++pins,p.1≠it):Inv X pins U H {s with heap:=h',toks:=t'}:=by
 have nit:∀b u,H b=some u->b≠it:=λb u e z=>by rw[z,hn]at e;cases e
 refine I.step (g':=s.gens) (d':=s.drawn) (ch:=[it]) (λb hb=>?_) (λb o _ _ hc e _=>k b o (λz=>hc (by simp[z])) e) (λb o _ _ hc e _=>⟨o.slots,k b o (λz=>hc (by simp[z])) e⟩) (λ_ _ _ _ n=>n)
  (λb o hc e=>⟨o,k b o (λz=>hc (by simp[z])) e⟩) (λ_ _ e=>e) (λ_ _ _ e=>e) (λb ps e=>⟨#[],by rw[e];simp⟩) (λm hm=>?_) (λb u e=>?_) I.bare
 ·have e:b=it:=by simpa using hb
  subst e;exact⟨h1,hL,h2,h3⟩
 ·obtain⟨o,es,ep,ho,r⟩:=hm;exact⟨o,es,ep,k _ o (Df hL) ho,r⟩
 ·refine(I.hok b u e).stay (λc v hc q=>k c v ?_ q) (λ_ q=>q) λ_ _ q=>q;rcases hc with z|z
  ·rw[z];exact nit b u e
  ·exact nit c _ z
def Inv.tok(I:Inv X pins U H s)(t:Nat):Inv X pins U H {s with toks:=t}:=I.un (h':=s.heap) (t':=t) Un.refl I.hok
def Inv.kept(I:Inv X pins U H s)(k:∀b u,s.heap.get? b=some u->h'.get? b=some u):Inv X pins U H {s with heap:=h',toks:=t'}:=I.un (Un.kept k) (I.hok.kept k)
def Inv.laid(I:Inv X pins U H s)(k:∀b u,s.heap.get? b=some u->h'.get? b=some u)(hp:s.heap.objs.size<=a)(new:Vj X.prog X.w (upd H a o) h' a o):
  Inv X pins U (upd H a o) {s with heap:=h',toks:=t'}:=I.un (Un.laid k hp (I.hok.fresh hp)) (I.hok.laid k hp new)
def Inv.write(I:Inv X pins U H s)(mu:Mut (H x))(he:e=x\/H e=some (.own x))(k:∀b u,b≠e->s.heap.get? b=some u->h'.get? b=some u)(heo:∃u,h'.get? e=some u)
  (new:Vj X.prog X.w (upd H x o) h' x o):Inv X pins U (upd H x o) {s with heap:=h',toks:=t'}:=I.un (Un.write mu he k heo) (I.hok.write mu he k heo new)
def Inv.pins_of{pins':List (Addr×Obj)}(I:Inv X pins U H s)(h:∀p∈pins',s.heap.get? p.1=some p.2/\H p.1=none/\p.1≠X.env.locals/\p.1∉X.fs/\∀v,p.2.data≠ .cell v):Inv X pins' U H s:=
 ⟨I.ok,I.os,I.bare,I.base,I.loc,I.cell,I.free,I.freeC,λp hp=>(Bj.mp hp).elim (λz=>I.pin p (Ci _ z)) (h p),I.hok,I.len⟩
def Jf4{N:List Str}(hN:N.Nodup){i j:Nat}{x:Str}(a:N[i]? =some x)(b:N[j]? =some x):i=j:=by
 obtain⟨h1,e1⟩:=Ae.mp a;obtain⟨h2,e2⟩:=Ae.mp b;exact(List.getElem_inj hN).mp (e1.trans e2.symm)
def Jg6{M:P2}{A:Bi}{E:Value->Shared->Prop}{i:Nat}{x:Str}{v:V}{u:Value}{Q:Unit->Shared->Prop}(I:Inv X pins U H s)(hN:X.N.Nodup)(hi:X.N[i]? =some x)(hx:Loc X.env.scope x)(r:RelV v u)
  (h:∀s',Inv X pins (U.set i (some v)) H s'->(∃a,Cp a s.heap s'.heap/\(a=X.env.locals\/X.env.cells.lookup x=some a))->Q () s')(hf:X.fn x=true\/X.env.scope.names.lookup x=some .local):wpAny M A (storeName X.env x u) Q E s:=by
 obtain⟨m,hn,hl⟩:=id I.loc;have hcls:(X.env.scope.kind== .class||(X.env.scope.kind== .module&&X.env.locals !=X.env.globals))=false:=by rw[I.ok.kind];rfl
 have hiσ:i<U.length:=by rw[I.len];exact(Ae.mp hi).1
 have cne:=I.cne;have tracked:∀{a:Addr} {h':Heap},(∃o,s.heap.get? a=some o/\H a=none)->Cp a s.heap h'->HOk X.prog X.w H h':=λ{a h'} ha hs b ob e=>by
  obtain⟨_,_,hfree⟩:=ha;refine(I.hok b ob e).stay (λc w' hc q=>(hs.2 c ?_).trans q) (λ_ q=>q) λ_ _ q=>q;rintro rfl;rcases hc with rfl|hc
  ·rw[hfree]at e;cases e
  ·rw[hfree]at hc;cases hc
 rcases hx with hk|hk
 ·refine wpAny_storeName_local hk hn (λh' hn' hs=>?_) hcls;obtain⟨oL,_,_,hoL,_⟩:=id hn;refine h _ ⟨I.ok,I.os,I.bare,⟨λb o e n hb hx=>?_,λb o e n hb hx=>?_,I.base.free,λb o e hx=>?_,I.base.tups,I.base.frzs,I.base.tbls⟩,⟨_,hn',λj y v' e1 e2 e3=>?_⟩,λy c e=>?_,I.free,I.freeC,λp hp=>?_,tracked ⟨oL,hoL,I.free⟩ hs,by simpa using I.len⟩ ⟨_,hs,.inl rfl⟩
  ·exact(hs.2 b (Au (Be (Am e) I.ok.above))).trans (I.base.keep b o e n hb hx)
  ·obtain⟨sl,e1⟩:=I.base.slot b o e n hb hx;exact⟨sl,(hs.2 b (Au (Be (Am e) I.ok.above))).trans e1⟩
  ·obtain⟨o',e1⟩:=I.base.there b o e hx;exact⟨o',(hs.2 b (Au (Be (Am e) I.ok.above))).trans e1⟩
  ·by_cases hj:j=i
   ·subst hj;rw[hi]at e1;cases e1;rw[B5 hiσ]at e2;cases e2;exact⟨u,r,.inl ⟨hk,by simp⟩⟩
   ·rw[Ao (Df hj)]at e2;obtain⟨u',r',q⟩:=hl j y v' e1 e2 e3;refine⟨u',r',?_⟩;rcases q with⟨k,e⟩|⟨k,c,e,z⟩
    ·refine .inl ⟨k,?_⟩;have:y≠x:=λe=>hj (Jf4 hN e1 (e▸hi));simp[this,e]
    ·exact .inr ⟨k,c,e,z.sameBut hs (cne y c e)⟩
  ·obtain⟨w',z⟩:=I.cell y c e;exact⟨w',z.sameBut hs (cne y c e)⟩
  ·obtain⟨e,n,ne,nf,d⟩:=I.pin p hp;exact⟨(hs.2 p.1 ne).trans e,n,ne,nf,d⟩
 ·have hfn:X.fn x=true:=by
   rcases hf with z|z
   ·exact z
   ·rw[z]at hk;cases hk
  obtain⟨c,hc⟩:=I.ok.has x (.inl hk);obtain⟨w',z⟩:=I.cell x c hc;refine wpAny_storeName_cell I.ok.kind hk hc z (λh' hc' hs=>?_);obtain⟨oc,hoc,hocd⟩:=id z;refine h {s with heap:=h'} ⟨I.ok,I.os,I.bare,⟨λb o e n hb hx=>?_,λb o e n hb hx=>?_,I.base.free,λb o e hx=>?_,I.base.tups,I.base.frzs,I.base.tbls⟩,⟨m,hn.sameBut hs (Df (cne x c hc)),λj y v' e1 e2 e3=>?_⟩,λy c' e=>?_,I.free,I.freeC,λp hp=>?_,tracked ⟨oc,hoc,I.freeC x c hc⟩ hs,by simpa using I.len⟩ ⟨c,hs,.inr hc⟩
  ·exact(hs.2 b (Au (Be (Am e) (I.ok.cab x c hfn hc)))).trans (I.base.keep b o e n hb hx)
  ·obtain⟨sl,e1⟩:=I.base.slot b o e n hb hx;exact⟨sl,(hs.2 b (Au (Be (Am e) (I.ok.cab x c hfn hc)))).trans e1⟩
  ·obtain⟨o',e1⟩:=I.base.there b o e hx;exact⟨o',(hs.2 b (Au (Be (Am e) (I.ok.cab x c hfn hc)))).trans e1⟩
  ·by_cases hj:j=i
   ·subst hj;rw[hi]at e1;cases e1;rw[B5 hiσ]at e2;cases e2;exact⟨u,r,.inr ⟨.inl hk,c,hc,hc'⟩⟩
   ·rw[Ao (Df hj)]at e2;obtain⟨u',r',q⟩:=hl j y v' e1 e2 e3;refine⟨u',r',?_⟩;rcases q with q|⟨k,c',e,z'⟩
    ·exact .inl q
    ·refine .inr ⟨k,c',e,z'.sameBut hs ?_⟩;rintro rfl;exact hj (Jf4 hN e1 (I.ok.inj _ _ _ e hc▸hi))
  ·by_cases hcc:c'=c
   ·subst hcc;exact⟨_,hc'⟩
   ·obtain⟨w2,z2⟩:=I.cell y c' e;exact⟨w2,z2.sameBut hs hcc⟩
  ·obtain⟨e,n,ne,nf,d⟩:=I.pin p hp;refine⟨(hs.2 p.1 ?_).trans e,n,ne,nf,d⟩;intro q;rw[q,hoc]at e;have q':oc=p.2:=Bb e;exact d w' (by rw[<-q'];exact hocd)
def Jd5{E:Value->Shared->Prop}{Q:Unit->Shared->Prop}(I:Inv X pins U H s)(hN:X.N.Nodup)(hi:X.N[i]? =some x)(hx:Loc X.env.scope x)(r:RelV v u)
  (h:∀s',Inv X pins (U.set i (some v)) H s'->Q () s')(hf:X.fn x=true\/X.env.scope.names.lookup x=some .local):wpAny M A (storeName X.env x u) Q E s:=
 Jg6 I hN hi hx r (λs' I' _=>h s' I') hf
def Inv.call'{s':Shared}(I:Inv X pins U H s)(ho:s'.os=s.os)(u:Un (frs X.stack) ch H H' s.heap s'.heap)(hok:HOk X.prog X.w H' s'.heap)(hg:Je s'.gens)
  (hch:∀b∈ch,(b∈X.ex\/X.s₀.heap.objs.size<=b)/\b≠X.env.locals/\(∀x c,X.env.cells.lookup x=some c->c≠b)/\∀p∈X.pn++pins,p.1≠b):Inv X pins U H' s':=by
 obtain⟨h',g',d',t',o'⟩:=s';have e:o'=s.os:=ho;subst e;exact I.call (g':=g') (t':=t') (d':=d') u hok hg hch
end
abbrev XK:=Value->Option Addr->Hp->Prop
abbrev St:=List (Option V)
abbrev VK:=V->Hp->Prop
abbrev TE:=St->Hp->VK->Prop
abbrev TT:=St->Hp->(Bool->Hp->Prop)->Prop
abbrev TA:=St->Hp->(List V->Hp->Prop)->Prop
structure Ends where
 nx:St->Hp->Prop
 rt:VK
 bk:St->Hp->Prop:=λ_ _=>False
 ct:St->Hp->Prop:=λ_ _=>False
abbrev TS:=Ends->St->Hp->Prop
def EP(X:Cx)(pins:List (Addr×Obj))(U:St)(Q:VK)(u:Value)(s':Shared):Prop:=∃v H',Inv X pins U H' s'/\RelV v u/\Q v H'
def TP(X:Cx)(pins:List (Addr×Obj))(U:St)(Q:Bool->Hp->Prop)(b:Bool)(s':Shared):Prop:=∃H',Inv X pins U H' s'/\Q b H'
def AP(X:Cx)(pins:List (Addr×Obj))(U:St)(Q:List V->Hp->Prop)(us:List Value)(s':Shared):Prop:=∃vs H',Inv X pins U H' s'/\Vals vs us/\Q vs H'
def SP(X:Cx)(pins:List (Addr×Obj))(D:Ends)(f:Flow)(s':Shared):Prop:=
 match f with
 |.next=>∃U' H',Inv X pins U' H' s'/\D.nx U' H'
 |.brk=>∃U' H',Inv X pins U' H' s'/\D.bk U' H'
 |.cont=>∃U' H',Inv X pins U' H' s'/\D.ct U' H'
 |.ret u=>∃v U' H',Inv X pins U' H' s'/\RelV v u/\D.rt v H'
def PE(X:Cx)(e:Expr)(t:TE):Prop:=
 ∀(pins:List (Addr×Obj)) (s:Shared) (U:St) (H:Hp) (Q:VK),Inv X pins U H s->t U H Q->wpAny (model X.prog X.w) X.A (eval e X.env) (EP X pins U Q) X.xe s
def PT(X:Cx)(e:Expr)(t:TT):Prop:=
 ∀(pins:List (Addr×Obj)) (s:Shared) (U:St) (H:Hp) (Q:Bool->Hp->Prop),Inv X pins U H s->t U H Q->wpAny (model X.prog X.w) X.A (isTrue e X.env (eval e X.env)) (TP X pins U Q) X.xe s
def PW(X:Cx)(e:Expr)(t:TT):Prop:=
 ∀(whole:Sem Value) (pins:List (Addr×Obj)) (s:Shared) (U:St) (H:Hp) (Q:Bool->Hp->Prop),Inv X pins U H s->t U H Q->wpAny (model X.prog X.w) X.A (isTrue e X.env whole) (TP X pins U Q) X.xe s
def PW.pt(h:PW X e t):PT X e t:=h _
def PA(X:Cx)(es:List Expr)(t:TA):Prop:=
 ∀(pos:Pos) (pins:List (Addr×Obj)) (s:Shared) (U:St) (H:Hp) (Q:List V->Hp->Prop),Inv X pins U H s->t U H Q->wpAny (model X.prog X.w) X.A (Ra (Fg pos (Bs es X.env))) (AP X pins U Q) X.xe s
def PS(X:Cx)(st:Stmt)(t:TS):Prop:=
 ∀(pins:List (Addr×Obj)) (s:Shared) (U:St) (H:Hp) (D:Ends),Inv X pins U H s->t D U H->wpAny (model X.prog X.w) X.A (exec st X.env) (SP X pins D) X.xe s
def PSs(X:Cx)(st:List Stmt)(t:TS):Prop:=
 ∀(pins:List (Addr×Obj)) (s:Shared) (U:St) (H:Hp) (D:Ends),Inv X pins U H s->t D U H->wpAny (model X.prog X.w) X.A (execs st X.env) (SP X pins D) X.xe s
def thn{α:Type}{t:Sem α}{Q Q':α->Shared->Prop}{M:P2}{A:Bi}{E:Value->Shared->Prop}{s:Shared}(h:wpAny M A t Q E s)(hQ:∀a s,Q a s->Q' a s):wpAny M A t Q' E s:=Bo h hQ λ_ _ x=>x
section
variable {X:Cx}
def Wag(i:Nat):TE:=λU H Q=>∃v,U[i]? =some (some v)/\Q v H
def tC(v:V):TE:=λ_ H Q=>Q v H
def Jqp(hN:X.N[i]? =some x)(hv:Vis X.env.scope x)(hd:(x==("__debug__":Str))=false)(hcd:(x==("__classdict__":Str))=false):PE X (.Name x pos) (Wag i):=by
 intro pins s U H Q I h;obtain⟨v,e,h⟩:=h;obtain⟨m,hn,hl⟩:=I.loc;obtain⟨u,r,l⟩:=hl i x v hN e hv;have fin:EP X pins U Q u s:=⟨v,H,I,r,h⟩
 rcases l with⟨hk,hm⟩|⟨hk,c,hc,hcell⟩
 ·exact Ua (Sg I.ok.kind hk hn hm fin) hd
 ·rcases hk with hk|hk
  ·exact Ua (Sz I.ok.kind hk hc hcell fin) hd
  ·exact Ua (wpAny_loadName_free I.ok.kind hk hc hcell fin hcd) hd
def Jwf{i j pos}:PE X (.Constant (.int i) j pos) (tC (.int i)):=λ_ _ _ H _ I h=>wpAny_Constant_int ⟨.int i,H,I.tok _,⟨_,rfl⟩,h⟩
def Jy9{b j pos}:PE X (.Constant (.bool b) j pos) (tC (.bl b)):=λ_ _ _ H _ I h=>Constant_bool ⟨.bl b,H,I,rfl,h⟩
def Jwe{j pos}:PE X (.Constant .none j pos) (tC .non):=λ_ _ _ H _ I h=>Constant_none ⟨.non,H,I,rfl,h⟩
def Jqq{x j pos}:PE X (.Constant (.str x) j pos) (tC (.str x)):=λ_ _ _ H _ I h=>Calls.Constant_str ⟨.str x,H,I.tok _,⟨_,rfl⟩,h⟩
def Gl(X:Cx)(x:Str):Prop:=X.env.kindOf x=some .globalImplicit
def Jci{E:Value->Shared->Prop}{Q:Value->Shared->Prop}(I:Inv X pins U H s)(hg:Gl X x)(hm:X.mg x=some u)(h:Q u s)
  (hd:(x==("__debug__":Str))=false):wpAny (model X.prog X.w) X.A (eval (.Name x pos) X.env) Q E s:=
 Nq I.ok.kind hg (Calls.loadGlobal_global (by rw[I.ok.glob];exact I.mod.glob.keeps I.bk) hm h) hd
def Jcg{E:Value->Shared->Prop}{Q:Value->Shared->Prop}(I:Inv X pins U H s)(hg:Gl X x)(hm:X.mg x=none)(hv:C9 x=some u)(h:Q u s)
  (hn:x≠"__name__")(hd:(x==("__debug__":Str))=false):wpAny (model X.prog X.w) X.A (eval (.Name x pos) X.env) Q E s:=by
 obtain⟨mb,h1,h2⟩:=I.mod.blt;exact Nq I.ok.kind hg (Calls.loadGlobal_builtin (by rw[I.ok.glob];exact I.mod.glob.keeps I.bk) hm (by rw[I.ok.blt];exact h1.keeps I.bk) ((h2 x hn).trans hv) h) hd
def Jio(hg:Gl X x)(hm:X.mg x=some u)(r:RelV v u)(hd:(x==("__debug__":Str))=false):PE X (.Name x pos) (tC v):=
 λ_ _ _ H _ I h=>Jci I hg hm ⟨v,H,I,r,h⟩ hd
def Jls(hg:Gl X x)(hm:X.mg x=none)(hv:C9 x=some u)(r:RelV v u)(hn:x≠"__name__")(hd:(x==("__debug__":Str))=false):PE X (.Name x pos) (tC v):=
 λ_ _ _ H _ I h=>Jcg I hg hm hv ⟨v,H,I,r,h⟩ hn hd
variable {a b:Expr} {ta tb:TE} {pos:Pos}
variable {tA tB':TT} {rest:List Expr}
def Wb0(t u:TT):TT:=λU H Q=>t U H λc H1=>if c=true then u U H1 Q else Q false H1
def tOr(t u:TT):TT:=λU H Q=>t U H λc H1=>if c=true then Q true H1 else u U H1 Q
def Wbq(t:TT):TT:=λU H Q=>t U H λc H1=>Q (!c) H1
theorem Jsp(ha:PT X a tA):PW X (.BoolOp .And [a] pos) tA:=by
 intro wh pins s U H Q I h;refine isTrue_and (thn (ha pins s U H Q I h) λc s1 e=>?_);cases c with
 |true=>exact isTrue_and_nil e
 |false=>exact e
theorem Jv0(ha:PT X a tA):PW X (.BoolOp .Or [a] pos) tA:=by
 intro wh pins s U H Q I h;refine isTrue_or (thn (ha pins s U H Q I h) λc s1 e=>?_);cases c with
 |false=>exact isTrue_or_nil e
 |true=>exact e
theorem Jv1(ha:PT X a tA)(hb:PW X (.BoolOp .And (b::rest) pos) tB'):PW X (.BoolOp .And (a::b::rest) pos) (Wb0 tA tB'):=by
 intro wh pins s U H Q I h;refine isTrue_and (thn (ha pins s U H _ I h) λc s1 ⟨H1,I1,q1⟩=>?_);cases c with
 |true=>exact hb wh pins s1 U H1 Q I1 q1
 |false=>exact⟨H1,I1,q1⟩
theorem Jy2(ha:PT X a tA)(hb:PW X (.BoolOp .Or (b::rest) pos) tB'):PW X (.BoolOp .Or (a::b::rest) pos) (tOr tA tB'):=by
 intro wh pins s U H Q I h;refine isTrue_or (thn (ha pins s U H _ I h) λc s1 ⟨H1,I1,q1⟩=>?_);cases c with
 |true=>exact⟨H1,I1,q1⟩
 |false=>exact hb wh pins s1 U H1 Q I1 q1
def Jv2(ha:PT X a tA):PT X (.UnaryOp .Not a pos) (Wbq tA):=by
 intro pins s U H Q I h;exact isTrue_not (ha pins s U H (λc H1=>Q (!c) H1) I h)
def Wap(ta tb:TE):TE:=λU H Q=>ta U H λx H1=>∃c,x=.bl c/\if c=true then tb U H1 Q else Q (.bl false) H1
def Wbp(ta tb:TE):TE:=λU H Q=>ta U H λx H1=>∃c,x=.bl c/\if c=true then Q (.bl true) H1 else tb U H1 Q
def Jwd{op}(h:PE X a t):PE X (.BoolOp op [a] pos) t:=λpins s U H Q I hw=>BoolOp_one (h pins s U H Q I hw)
theorem Jwi(ha:PE X a ta)(hb:PE X (.BoolOp .And (b::rest) pos) tb):PE X (.BoolOp .And (a::b::rest) pos) (Wap ta tb):=by
 intro pins s U H Q I h;refine BoolOp_and (thn (ha pins s U H _ I h) λv s1 ⟨x,H1,I1,r1,q1⟩=>?_);obtain⟨c,rfl,q1⟩:=q1;cases r1;refine Dv ?_;cases c with
 |true=>exact hb pins s1 U H1 Q I1 q1
 |false=>exact⟨.bl false,H1,I1,rfl,q1⟩
theorem Jy5(ha:PE X a ta)(hb:PE X (.BoolOp .Or (b::rest) pos) tb):PE X (.BoolOp .Or (a::b::rest) pos) (Wbp ta tb):=by
 intro pins s U H Q I h;refine BoolOp_or (thn (ha pins s U H _ I h) λv s1 ⟨x,H1,I1,r1,q1⟩=>?_);obtain⟨c,rfl,q1⟩:=q1;cases r1;refine Dv ?_;cases c with
 |false=>exact hb pins s1 U H1 Q I1 q1
 |true=>exact⟨.bl true,H1,I1,rfl,q1⟩
def tIf(t:TT)(ta tb:TE):TE:=λU H Q=>t U H λc H1=>if c=true then ta U H1 Q else tb U H1 Q
theorem Jog{c:Expr}(hc:PT X c tA)(ha:PE X a ta)(hb:PE X b tb):PE X (.IfExp c a b pos) (tIf tA ta tb):=by
 intro pins s U H Q I h;refine wpAny_IfExp (thn (hc pins s U H _ I h) λd s1 ⟨H1,I1,q1⟩=>?_);cases d with
 |true=>exact ha pins s1 U H1 Q I1 q1
 |false=>exact hb pins s1 U H1 Q I1 q1
end
def SqL(K:Af)(H:Hp)(a:Addr)(xs:List V):Prop:=
 Rd H a (.lst xs)\/
  ∃(o:Obj) (its:Array Value) (n:Nat),K.lookup a=some o/\o.cls=.type "list"/\o.dict=none/\o.data=.seq its n/\its.size<=sizeLine/\Vals xs its.toList
def SqT(K:Af)(H:Hp)(a:Addr)(xs:List V):Prop:=
 H a=some (.tup xs)\/
  ∃(o:Obj) (its:Array Value) (n:Nat),K.lookup a=some o/\o.cls=.type "tuple"/\o.data=.seq its n/\its.size<=sizeLine/\Vals xs its.toList
noncomputable def Wc8:Value->Option V
 |.none=>some .non
 |.bool b=>some (.bl b)
 |.int i _=>some (.int i)
 |.str x _=>some (.str x)
 |.bytes b _=>some (.byt b)
 |.float b _=>some (.flt b)
 |.ref a=>some (.ref a)
 |.type n=>some (.ty n)
 |_=>none
theorem RelV.abs(r:RelV x u):Wc8 u=some x:=by
 cases x with
 |non=>cases r;rfl
 |bl _=>cases r;rfl
 |int _=>obtain⟨t,rfl⟩:=r;rfl
 |str _=>obtain⟨t,rfl⟩:=r;rfl
 |byt _=>obtain⟨t,rfl⟩:=r;rfl
 |flt _=>obtain⟨t,rfl⟩:=r;rfl
 |ref _=>cases r;rfl
 |ty _=>cases r;rfl
def RelV.inj(r:RelV x u)(q:RelV y u):x=y:=Bb (r.abs.symm.trans q.abs)
theorem Vals.inj(h:Vals xs us)(g:Vals ys us):xs=ys:=by
 induction h generalizing ys with
 |nil=>cases g;rfl
 |cons r t ih=>cases g with|cons r' t'=>rw[r.inj r',ih t']
section
variable {X:Cx} {pins:List (Addr×Obj)} {U:St} {H:Hp} {s:Shared} {a:Addr} {xs ys:List V}
def SqL.of{K:Af}(h:H a=some (.lst xs)):SqL K H a xs:=.inl (.inl h)
def SqT.of{K:Af}(h:H a=some (.tup xs)):SqT K H a xs:=.inl h
inductive InvL (s:Shared) (a:Addr) (xs:List V):Prop
 |mk (its:List Value) (_:Vals xs its) (_:PlainL s.heap a its.toArray) (_:xs.length<=sizeLine):InvL s a xs
def Inv.list(I:Inv X pins U H s)(h:SqL X.K H a xs):InvL s a xs:=by
 rcases h with h|⟨o,its,n,hk,hc,hd,hs,hz,r⟩
 ·obtain⟨z,its,n,r,e⟩:=h.ok I.hok;exact⟨its,r,⟨_,n,e,rfl,rfl,rfl⟩,z⟩
 ·refine⟨its.toList,r,⟨o,n,I.kIn a o hk,hc,hd,by simpa using hs⟩,?_⟩;have e:=r.length;simp only[Bz]at e
  lia
inductive InvT (s:Shared) (a:Addr) (xs:List V):Prop
 |mk (its:List Value) (_:Vals xs its) (_:IsTup s.heap a its.toArray) (_:xs.length<=sizeLine):InvT s a xs
def Inv.tuple(I:Inv X pins U H s)(h:SqT X.K H a xs):InvT s a xs:=by
 rcases h with h|⟨o,its,n,hk,hc,hs,hz,r⟩
 ·obtain⟨z,its,r,p⟩:=(Rd.of h).ok I.hok;exact⟨its,r,p,z⟩
 ·refine⟨its.toList,r,⟨o,I.kIn a o hk,hc,n,by simpa using hs⟩,?_⟩;have e:=r.length;simp only[Bz]at e
  lia
def Inv.list_inj(I:Inv X pins U H s)(h:SqL X.K H a xs)(h':SqL X.K H a ys):xs=ys:=by
 obtain⟨its,r,⟨o,n,e,_,_,d⟩,_⟩:=I.list h;obtain⟨its',r',⟨o',n',e',_,_,d'⟩,_⟩:=I.list h';rw[e]at e';cases e';rw[d]at d';injection d' with d1 _;have:its=its':=by simpa using congrArg Uy d1
 subst this;exact r.inj r'
def Inv.tuple_inj(I:Inv X pins U H s)(h:SqT X.K H a xs)(h':SqT X.K H a ys):xs=ys:=by
 obtain⟨its,r,⟨o,e,_,n,d⟩,_⟩:=I.tuple h;obtain⟨its',r',⟨o',e',_,n',d'⟩,_⟩:=I.tuple h';rw[e]at e';cases e';rw[d]at d';injection d' with d1 _;have:its=its':=by simpa using congrArg Uy d1
 subst this;exact r.inj r'
end
noncomputable abbrev Cx.wish(X:Cx)(E:Value->Shared->Prop):Cx:={X with xe:=E}
abbrev Cx.nox(X:Cx):Cx:=X.wish λ_ _=>False
def Cx.Ok.wish{X:Cx}(ok:X.Ok)(E:Value->Shared->Prop):(X.wish E).Ok:=
 ⟨ok.mod,ok.kind,ok.glob,ok.blt,ok.above,ok.inj,ok.has,ok.cab,ok.hd,ok.frames,ok.stk,ok.exf,ok.bs,ok.bsz,ok.noex,ok.exfs,ok.funs,ok.frf⟩
def Cx.Ok.unwish{X:Cx}{E:Value->Shared->Prop}(ok:(X.wish E).Ok):X.Ok:=
 ⟨ok.mod,ok.kind,ok.glob,ok.blt,ok.above,ok.inj,ok.has,ok.cab,ok.hd,ok.frames,ok.stk,ok.exf,ok.bs,ok.bsz,ok.noex,ok.exfs,ok.funs,ok.frf⟩
section
variable {X:Cx} {pins:List (Addr×Obj)} {U:St} {H:Hp} {s:Shared} {E:Value->Shared->Prop}
def Inv.wish(I:Inv X pins U H s)(E:Value->Shared->Prop):Inv (X.wish E) pins U H s:=⟨I.ok.wish E,I.os,I.bare,I.base,I.loc,I.cell,I.free,I.freeC,I.pin,I.hok,I.len⟩
def Inv.unwish(I:Inv (X.wish E) pins U H s):Inv X pins U H s:=⟨I.ok.unwish,I.os,I.bare,I.base,I.loc,I.cell,I.free,I.freeC,I.pin,I.hok,I.len⟩
theorem SP.unwish(h:SP (X.wish E) pins D f s'):SP X pins D f s':=by
 cases f with
 |next=>obtain⟨U',H',I,q⟩:=h;exact⟨U',H',I.unwish,q⟩
 |brk=>obtain⟨U',H',I,q⟩:=h;exact⟨U',H',I.unwish,q⟩
 |cont=>obtain⟨U',H',I,q⟩:=h;exact⟨U',H',I.unwish,q⟩
 |ret u=>obtain⟨v,U',H',I,r,q⟩:=h;exact⟨v,U',H',I.unwish,r,q⟩
def PE.nox(h:PE X.nox e t):PE X e t:=λpins s U H Q I hw=>
 Bo (h pins s U H Q (I.wish _) hw) (λ_ _ ⟨v,H',I',r,q⟩=>⟨v,H',I'.unwish,r,q⟩) λ_ _ z=>Co z
def PT.nox(h:PT X.nox e t):PT X e t:=λpins s U H Q I hw=>
 Bo (h pins s U H Q (I.wish _) hw) (λ_ _ ⟨H',I',q⟩=>⟨H',I'.unwish,q⟩) λ_ _ z=>Co z
def PSs.nox{st:List Stmt}{t:TS}(h:PSs X.nox st t):PSs X st t:=λpins s U H D I hw=>
 Bo (h pins s U H D (I.wish _) hw) (λ_ _ q=>q.unwish) λ_ _ z=>Co z
end
section
variable {X:Cx} {st:Stmt} {rest:List Stmt} {t u:TS} {e:Expr} {te:TE} {pos:Pos}
def Wak:TS:=λD U H=>D.nx U H
def Wbn(t u:TS):TS:=λD U H=>t {D with nx:=u D} U H
def Jsw:PSs X [] Wak:=λ_ _ U H _ I h=>K5 ⟨U,H,I,h⟩
theorem Jf2(h1:PS X st t)(h2:PSs X rest u):PSs X (st::rest) (Wbn t u):=by
 intro pins s U H D I h;refine N4 (thn (h1 pins s U H {D with nx:=u D} I h) λf s1 q=>?_);cases f with
 |next=>
  obtain⟨U',H',I',q⟩:=q;exact h2 pins s1 U' H' D I' q
 |ret v=>exact q
 |brk=>exact q
 |cont=>exact q
theorem Jin(h1:PS X st t):PSs X [st] t:=by
 intro pins s U H D I h;refine N4 (thn (h1 pins s U H D I h) λf s1 q=>?_);cases f with
 |next=>exact K5 q
 |ret v=>exact q
 |brk=>exact q
 |cont=>exact q
def Inv.quiet(I:Inv X pins U H s):interactive X.env=false:=by simp[interactive,I.ok.kind]
def Wan(te:TE):TS:=λD U H=>te U H λ_ H1=>D.nx U H1
def Jll(he:PE X e te)(hs:Gp e none pos.line X.env=pure false):PS X (.Expr e pos) (Wan te):=by
 intro pins s U H D I h;exact wpAny_Expr_any (thn (he pins s U H _ I h) λv s1 ⟨x,H1,I1,r1,q1⟩=>⟨U,H1,I1,q1⟩) I.quiet hs
def Wbo(te:TE):TS:=λD U H=>te U H D.rt
def Jv4(he:PE X e te):PS X (.Return (some e) pos) (Wbo te):=by
 intro pins s U H D I h;exact wpAny_Return_some (thn (he pins s U H _ I h) λv s1 ⟨x,H1,I1,r1,q1⟩=>⟨x,U,H1,I1,r1,q1⟩)
def Wbu(c:TT)(t u:TS):TS:=λD U H=>c U H λb H1=>if b=true then t D U H1 else u D U H1
theorem Jv5{c:Expr}{a b:List Stmt}{tc:TT}(hc:PT X c tc)(ha:PSs X a t)(hb:PSs X b u):PS X (.If c a b pos) (Wbu tc t u):=by
 intro pins s U H D I h;refine wpAny_If (thn (hc pins s U H _ I h) λd s1 ⟨H1,I1,q1⟩=>?_);cases d with
 |true=>exact ha pins s1 U H1 D I1 q1
 |false=>exact hb pins s1 U H1 D I1 q1
end
abbrev TG:=V->St->Hp->(St->Hp->Prop)->Prop
abbrev TGs:=List V->St->Hp->(St->Hp->Prop)->Prop
def PG(X:Cx)(target:Expr)(t:TG):Prop:=
 ∀(pins:List (Addr×Obj)) (s:Shared) (U:St) (H:Hp) (v:V) (u:Value) (Q:St->Hp->Prop),Inv X pins U H s->RelV v u->t v U H Q->
  wpAny (model X.prog X.w) X.A (assign target X.env u) (λ_ s'=>∃U' H',Inv X pins U' H' s'/\Q U' H') X.xe s
def PGs(X:Cx)(ts:List Expr)(t:TGs):Prop:=
 ∀(pins:List (Addr×Obj)) (s:Shared) (U:St) (H:Hp) (vs:List V) (us:List Value) (Q:St->Hp->Prop),Inv X pins U H s->Vals vs us->t vs U H Q->
  wpAny (model X.prog X.w) X.A (assignInOrder ((F1 ts X.env).map (·.2)) us) (λ_ s'=>∃U' H',Inv X pins U' H' s'/\Q U' H') X.xe s
abbrev Zf:=V->V->V->Hp->(Hp->Prop)->Prop
def Wac(X:Cx)(t:Zf):Prop:=
 ∀(pins:List (Addr×Obj)) (s:Shared) (U:St) (H:Hp) (o i v:V) (ov iv u:Value) (Q:Hp->Prop),Inv X pins U H s->RelV o ov->RelV i iv->RelV v u->t o i v H Q->
  wpAny (model X.prog X.w) X.A (U3 ov iv u) (λ_ s'=>∃H',Inv X pins U H' s'/\Q H') X.xe s
abbrev TIp:=V->V->Hp->VK->Prop
def PIp(X:Cx)(op:Operator)(t:TIp):Prop:=
 ∀(pins:List (Addr×Obj)) (s:Shared) (U:St) (H:Hp) (x y:V) (v u:Value) (Q:VK),Inv X pins U H s->RelV x v->RelV y u->t x y H Q->
  wpAny (model X.prog X.w) X.A (inplaceOp op v u) (EP X pins U Q) X.xe s
section
variable {X:Cx} {pos:Pos}
def X4(i:Nat):TG:=λv U H Q=>Q (U.set i (some v)) H
def Jlo(hN:X.N.Nodup)(hi:X.N[i]? =some x)(hx:Loc X.env.scope x)(hf:X.fn x=true\/X.env.scope.names.lookup x=some .local):PG X (.Name x pos) (X4 i):=by
 intro pins s U H v u Q I r h;exact U1 (Jd5 I hN hi hx r (λs' I'=>⟨_,H,I',h⟩) hf)
def Wc3:TGs:=λvs U H Q=>vs=[]/\Q U H
def Wbc(t:TG)(u:TGs):TGs:=λvs U H Q=>∃v r,vs=v::r/\t v U H λU' H'=>u r U' H' Q
def Js6:PGs X [] Wc3:=by
 intro pins s U H vs us Q I r h;obtain⟨e,h⟩:=h;subst e;cases r;exact assignInOrder_nil ⟨U,H,I,h⟩
theorem Joc{e:Expr}{es:List Expr}{t:TG}{u:TGs}(h1:PG X e t)(h2:PGs X es u)
  (hs:(F1 (e::es) X.env).map (·.2)=assign e X.env::(F1 es X.env).map (·.2)):PGs X (e::es) (Wbc t u):=by
 intro pins s U H vs us Q I r h;obtain⟨v,vr,e1,h⟩:=h;subst e1;cases r with
 |cons r rr=>
  rw[hs];refine assignInOrder_cons (thn (h1 pins s U H _ _ _ I r h) λ_ s1 ⟨σ1,H1,I1,q1⟩=>?_);exact h2 pins s1 σ1 H1 _ _ Q I1 rr q1
def Wc1(K:Af)(n:Nat)(t:TGs):TG:=λv U H Q=>∃a xs,v=.ref a/\SqT K H a xs/\xs.length=n/\t xs U H Q
def Jwa(hc:X.calm=true)(h:PGs X es t)
  (hn:(F1 es X.env).length=n)(hst:(F1 es X.env).findIdx? (·.1)=none):PG X (.Tuple es k pos) (Wc1 X.K n t):=by
 intro pins s U H v u Q I r hw;obtain⟨a,xs,e1,hq,hl,hw⟩:=hw;subst e1;cases r;obtain⟨its,rv,ht,hz⟩:=I.tuple hq;refine assign_Tuple_tuple (I.ok.hd hc) ht (by simp[hn,<-hl,rv.length]) hst λh' hx=>?_;have I1:Inv X pins U H {s with heap:=h'}:=I.kept (t':=s.toks) λb o e=>hx b o (Au (Am e)) e;exact h pins _ U H xs _ Q I1 (by simpa using rv) hw
def Wc2(to ti:TE)(t:Zf):TG:=λv U H Q=>to U H λo H1=>ti U H1 λi H2=>t o i v H2 λH3=>Q U H3
def Jwb{o i:Expr}{to ti:TE}{t:Zf}(ho:PE X o to)(hi:PE X i ti)(hs:Wac X t)
  (ha:∀v,assign (.Subscript o i pos) X.env v=(do
   let ov<-holding [v] (eval o X.env)
   let iv<-holding [v,ov] (eval i X.env)
   Nd pos
   holding [v,ov,iv] (U3 ov iv v)
   release [v,ov,iv] [])):PG X (.Subscript o i pos) (Wc2 to ti t):=by
 intro pins s U H v u Q I r h;rw[ha];refine Aa (Bc (thn (ho pins s U H _ I h) λov s1 ⟨x,H1,I1,r1,q1⟩=>?_));refine Aa (Bc (thn (hi pins s1 U H1 _ I1 q1) λiv s2 ⟨y,H2,I2,r2,q2⟩=>?_));refine Aa (Ms (Aa (Bc (thn (hs pins s2 U H2 x y v ov iv u _ I2 r1 r2 r q2) λ_ s3 ⟨H3,I3,q3⟩=>?_))));exact wpAny_release ⟨U,H3,I3,q3⟩
def Ym(te:TE)(g:TG):TS:=λD U H=>te U H λx H1=>g x U H1 D.nx
def Jql{tg e:Expr}{te:TE}{g:TG}(he:PE X e te)(hg:PG X tg g)(hs:swapsWithSole [tg] e pos.line X.env=pure false)(hw:swappedStores [tg] e X.env=pure none)
  (h1:(F1 [tg] X.env).map (·.2)=[assign tg X.env]):PS X (.Assign [tg] e pos) (Ym te g):=by
 intro pins s U H D I h;refine wpAny_Assign_stores (thn (he pins s U H _ I h) λv s1 ⟨x,H1,I1,r1,q1⟩=>?_) hs hw;rw[h1];exact thn (hg pins s1 U H1 x v _ I1 r1 q1) λ_ s2 q=>q
def Jv3{i:Nat}{x:Str}{e:Expr}{te:TE}{pos':Pos}(hN:X.N.Nodup)(hi:X.N[i]? =some x)(hx:Loc X.env.scope x)(he:PE X e te)(hs:Gp e (some (.Name x pos')) pos.line X.env=pure false)(hf:X.fn x=true\/X.env.scope.names.lookup x=some .local):
  PS X (.Assign [.Name x pos'] e pos) (Ym te (X4 i)):=by
 intro pins s U H D I h;refine wpAny_Assign_Name (thn (he pins s U H _ I h) λv s1 ⟨y,H1,I1,r1,q1⟩=>?_) hs;exact Jd5 I1 hN hi hx r1 (λs2 I2=>⟨_,H1,I2,q1⟩) hf
def Wbz(i:Nat)(te:TE)(ti:TIp):TS:=λD U H=>∃x,U[i]? =some (some x)/\te U H λy H1=>ti x y H1 λz H2=>D.nx (U.set i (some z)) H2
def Jv8{i:Nat}{x:Str}{e:Expr}{te:TE}{op:Operator}{ti:TIp}{pos':Pos}(hN:X.N.Nodup)(hi:X.N[i]? =some x)(hx:Loc X.env.scope x)(he:PE X e te)(ho:PIp X op ti)(hf:X.fn x=true\/X.env.scope.names.lookup x=some .local):
  PS X (.AugAssign (.Name x pos') op e pos) (Wbz i te ti):=by
 intro pins s U H D I h;obtain⟨v,e1,h⟩:=h;obtain⟨m,hn,hl⟩:=I.loc;have vis:Vis X.env.scope x:=by rcases hx with k|k;exact .inl k;exact .inr (.inl k)
 obtain⟨u,r,l⟩:=hl i x v hi e1 vis;refine wpAny_AugAssign_Name ?_;have go:wpAny (model X.prog X.w) X.A (eval e X.env) (λw s₂=>wpAny (model X.prog X.w) X.A (inplaceOp op u w) (λr s₃=>wpAny (model X.prog X.w) X.A (storeName X.env x r) (λ_=>SP X pins D .next) X.xe s₃) X.xe s₂) X.xe s:=by
  refine thn (he pins s U H _ I h) λw s1 ⟨y,H1,I1,r1,q1⟩=>?_;refine thn (ho pins s1 U H1 v y u w _ I1 r r1 q1) λz s2 ⟨zv,H2,I2,r2,q2⟩=>?_;exact Jd5 I2 hN hi hx r2 (λs3 I3=>⟨_,H2,I3,q2⟩) hf
 rcases l with⟨hk,hm⟩|⟨hk,c,hc,hcell⟩
 ·exact Sg I.ok.kind hk hn hm go
 ·rcases hk with hk|hk
  ·exact Sz I.ok.kind hk hc hcell go
  ·rcases hx with k|k
   ·have:X.env.scope.names.lookup x=some .free:=hk;rw[k]at this;cases this
   ·have:X.env.scope.names.lookup x=some .free:=hk;rw[k]at this;cases this
def ipI(f:Int->Int->Int):TIp:=λx y H Q=>∃i j,x=.int i/\y=.int j/\Q (.int (f i j)) H
def Jxe:PIp X .Add (ipI λi j=>i+j):=by
 intro pins s U H x y v u Q I r1 r2 h;obtain⟨i,j,e1,e2,q⟩:=h;subst e1;subst e2;obtain⟨t,rfl⟩:=r1;obtain⟨t',rfl⟩:=r2;exact iadd_int ⟨.int _,H,I.tok _,⟨_,rfl⟩,q⟩
end
section
variable {X:Cx} {pos:Pos}
end
structure It where
 go:Nat->Hp->Prop
 yld:Nat->Hp->V->Hp->Prop
 stop:Nat->Hp->Prop
def Ws(X:Cx)(pins:List (Addr×Obj))(H:Hp)(b:Addr):Prop:=
 H b=none/\b≠X.env.locals/\b∉X.fs/\(b∈X.ex\/X.s₀.heap.objs.size<=b)/\(∀x c,X.env.cells.lookup x=some c->c≠b)/\∀p∈X.pn++pins,p.1≠b
def Inv.fpOk{s:Shared}(I:Inv X pins U H s)(hb:s.heap.objs.size<=b)(hn:H' b=none):Ws X pins H' b:=by
 refine⟨hn,Cq (Be I.lt hb),I.nofs hb,.inr (Bl I.sz hb),λx c e z=>?_,λp hp z=>?_⟩
 ·obtain⟨v,q⟩:=I.cell x c e;exact absurd (Be q.lt (by rw[z];exact hb)) (Em _)
 ·exact absurd (Be (Am (I.pin p hp).1) (by rw[z];exact hb)) (Em _)
structure Turn(P:Program)(w:World)(K:Af)(tg:Expr)(J:It)(fp:List Addr)(it:Addr)(tn:Nat->Heap->Prop):Prop where
 mem:it∈fp
 obj:∀i h,tn i h->∀b∈fp,∃o,h.get? b=some o/\∀v,o.data≠ .cell v
 keep:∀i h h',tn i h->(∀b∈fp,∀o,h.get? b=some o->h'.get? b=some o)->tn i h'
 item:∀(X:Cx),X.prog=P->X.w=w->X.K=K->X.calm=true->∀(i:Nat) (pins:List (Addr×Obj)) (s:Shared) (U:St) (H:Hp) (E:Value->Shared->Prop),Inv X pins U H s->(∀b∈fp,Ws X pins H b)->tn i s.heap->J.go i H->
  wpAny (model P w) X.A (pyNext (.ref it)) (λr s1=>∃u,r=some u/\
   wpAny (model P w) X.A (Im tg (.ref it) u) (λ_ s2=>∃x H',Inv X pins U H' s2/\RelV x u/\J.yld i H x H'/\tn (i+1) s2.heap/\∀b∈fp,H' b=none) E s1) E s
 done:∀(X:Cx),X.prog=P->X.w=w->X.K=K->X.calm=true->∀(i:Nat) (pins:List (Addr×Obj)) (s:Shared) (U:St) (H:Hp) (E:Value->Shared->Prop),Inv X pins U H s->(∀b∈fp,Ws X pins H b)->tn i s.heap->J.stop i H->
  wpAny (model P w) X.A (pyNext (.ref it)) (λr s1=>r=none/\Inv X pins U H s1) E s
 self:∀(A:Bi) (i:Nat) (s:Shared) (Q:Value->Shared->Prop) (E:Value->Shared->Prop),tn i s.heap->Q (.ref it) s->wpAny (model P w) A (pyIter (.ref it)) Q E s
abbrev TI:=St->Hp->(It->Hp->Prop)->Prop
def PIE(X:Cx)(pins:List (Addr×Obj))(U:St)(tg:Expr)(R:It->Hp->Prop)(itv:Value)(s2:Shared):Prop:=
 ∃(it:Addr) (fp:List Addr) (tn:Nat->Heap->Prop) (J:It) (H':Hp),itv=.ref it/\Inv X pins U H' s2/\Turn X.prog X.w X.K tg J fp it tn/\tn 0 s2.heap/\(∀b∈fp,Ws X pins H' b)/\R J H'
def PI(X:Cx)(tg iter:Expr)(wi:TI):Prop:=
 ∀(pins:List (Addr×Obj)) (s:Shared) (U:St) (H:Hp) (R:It->Hp->Prop),Inv X pins U H s->wi U H R->
  wpAny (model X.prog X.w) X.A (eval iter X.env) (λv s1=>wpAny (model X.prog X.w) X.A (pyIter v) (PIE X pins U tg R) X.xe s1) X.xe s
def Jmo{E:Value->Shared->Prop}{s:Shared}{o:Obj}{Q:Unit->Shared->Prop}(ho:s.heap.get? it=some o)(hc:o.cls=.type n)(hd:o.data=.fields vs)
  (hn:["enumerate","zip","dict_itemiterator","dict_reverseitemiterator","odict_iterator","itertools.zip_longest","itertools.pairwise"].contains n=false)(hQ:Q () s):wpAny M A (Im tg (.ref it) u) Q E s:=by
 unfold Im;cases tg<;>first
  |exact Ab hQ
  |(cases u<;>first
    |exact Ab hQ
    |(refine Aa (Mz ho ?_)
      rw[hc,hd];show wpAny M A (if(["enumerate","zip","dict_itemiterator","dict_reverseitemiterator","odict_iterator","itertools.zip_longest","itertools.pairwise"].contains n&&vs[0]? ==some (rawInt _))=true then _ else _) Q E s;rw[if_neg (by intro h;rw[hn,T5]at h;cases h)];exact Ab hQ))
noncomputable def Itl(K:Af)(a:Addr):It:=
 ⟨λi H=>∃xs x,SqL K H a xs/\xs[i]? =some x,λi H x H'=>H'=H/\∀xs,SqL K H a xs->xs[i]? =some x,λi H=>∃xs,SqL K H a xs/\xs.length<=i⟩
noncomputable def Itt(K:Af)(a:Addr):It:=
 ⟨λi H=>∃xs x,SqT K H a xs/\xs[i]? =some x,λi H x H'=>H'=H/\∀xs,SqT K H a xs->xs[i]? =some x,λi H=>∃xs,SqT K H a xs/\xs.length<=i⟩
noncomputable def Itr(lo:Int)(n:Nat):It:=⟨λi _=>i<n,λi H x H'=>H'=H/\x=.int (lo+i),λi _=>n<=i⟩
def Jky{P:Program}{w:World}{K:Af}{tg:Expr}(a it:Addr):Turn P w K tg (Itl K a) [it] it (λi h=>h.IsListIter it a i)where
 mem:=by simp
 obj:=λi h st b hb=>by
  have e:b=it:=by simpa using hb
  subst e;obtain⟨o,e,c,d⟩:=st;exact⟨o,e,λv z=>by rw[d]at z;cases z⟩
 keep:=λi h h' st k=>st.at λo e=>k it (by simp) o e
 item:=by
  intro X hP hw hK hc i pins s U H E I hf st hg;subst hP hw hK;obtain⟨xs,x,hq,hx⟩:=hg;obtain⟨its,rv,p,hz⟩:=I.list hq;obtain⟨u,hu,ru⟩:=rv.get hx;obtain⟨f0,f1,f2,f3,f4,f5⟩:=hf it (by simp);refine Q9 st p.isList (x:=u) (by simpa using hu) λh' st' sb=>?_;have I1:Inv X pins U H {s with heap:=h'}:=I.turned (t':=s.toks) (λb o hb e=>(sb.2 b hb).trans e) f0 f1 f3 f4 f5;obtain⟨o,e,c,d⟩:=id st';exact⟨u,rfl,Jmo (s:={s with heap:=h'}) e c d (by decide) ⟨x,H,I1,ru,⟨rfl,λys hy=>by rw[I.list_inj hy hq];exact hx⟩,st',λb hb=>(hf b hb).1⟩⟩
 done:=by
  intro X hP hw hK hc i pins s U H E I hf st hg;subst hP hw hK;obtain⟨xs,hq,hx⟩:=hg;obtain⟨its,rv,p,hz⟩:=I.list hq;obtain⟨f0,f1,f2,f3,f4,f5⟩:=hf it (by simp);have hl:=rv.length;exact R0 (I.ok.hd hc) st p.isList (by simp;lia) λh' eb=>⟨rfl,I.turned (t':=s.toks) (λb o hb e=>eb b o hb e) f0 f1 f3 f4 f5⟩
 self:=λ_ _ _ _ _ st h=>wpAny_pyIter_listiter st h
def Jjx{P:Program}{w:World}{K:Af}{tg:Expr}(a it:Addr):Turn P w K tg (Itt K a) [it] it (λi h=>h.IsTupleIter it a i)where
 mem:=by simp
 obj:=λi h st b hb=>by
  have e:b=it:=by simpa using hb
  subst e;obtain⟨o,e,c,d⟩:=st;exact⟨o,e,λv z=>by rw[d]at z;cases z⟩
 keep:=λi h h' st k=>st.at λo e=>k it (by simp) o e
 item:=by
  intro X hP hw hK hc i pins s U H E I hf st hg;subst hP hw hK;obtain⟨xs,x,hq,hx⟩:=hg;obtain⟨its,rv,p,hz⟩:=I.tuple hq;obtain⟨u,hu,ru⟩:=rv.get hx;obtain⟨f0,f1,f2,f3,f4,f5⟩:=hf it (by simp);refine wpAny_pyNext_tuple_item st (show s.heap.IsTuple a its.toArray from p) (x:=u) (by simpa using hu) λh' st' sb=>?_;have I1:Inv X pins U H {s with heap:=h'}:=I.turned (t':=s.toks) (λb o hb e=>(sb.2 b hb).trans e) f0 f1 f3 f4 f5;obtain⟨o,e,c,d⟩:=id st';exact⟨u,rfl,Jmo (s:={s with heap:=h'}) e c d (by decide) ⟨x,H,I1,ru,⟨rfl,λys hy=>by rw[I.tuple_inj hy hq];exact hx⟩,st',λb hb=>(hf b hb).1⟩⟩
 done:=by
  intro X hP hw hK hc i pins s U H E I hf st hg;subst hP hw hK;obtain⟨xs,hq,hx⟩:=hg;obtain⟨its,rv,p,hz⟩:=I.tuple hq;obtain⟨f0,f1,f2,f3,f4,f5⟩:=hf it (by simp);have hl:=rv.length;exact wpAny_pyNext_tuple_end (I.ok.hd hc) st (show s.heap.IsTuple a its.toArray from p) (by simp;lia) λh' eb=>⟨rfl,I.turned (t':=s.toks) (λb o hb e=>eb b o hb e) f0 f1 f3 f4 f5⟩
 self:=λ_ _ _ _ _ st h=>wpAny_pyIter_tupleiter st h
def Jjy{P:Program}{w:World}{K:Af}{tg:Expr}(it:Addr)(lo:Int)(n:Nat):Turn P w K tg (Itr lo n) [it] it (λi h=>IsRangeIter h it (lo+(i:Nat)*1) ((n:Int)-(i:Nat)) 1)where
 mem:=by simp
 obj:=λi h st b hb=>by
  have e:b=it:=by simpa using hb
  subst e;exact⟨_,st,λv z=>by
   have z':Data.fields _=Data.cell v:=z;cases z'⟩
 keep:=λi h h' st k=>k it (by simp) _ st
 item:=by
  intro X hP hw hK hc i pins s U H E I hf st hg;subst hP hw hK;obtain⟨f0,f1,f2,f3,f4,f5⟩:=hf it (by simp);have W:=Walks.range (prog:=X.prog) (w:=X.w) (I.ok.hd hc) it lo 1 n;refine W.item i s _ _ hg st λv h' tk hv st' kk=>?_;obtain⟨t,rfl⟩:=hv;have I1:Inv X pins U H {s with heap:=h',toks:=tk}:=I.turned (λb o hb e=>kk b o (by simpa using hb) e) f0 f1 f3 f4 f5;refine⟨_,rfl,Jmo (s:={s with heap:=h',toks:=tk}) (n:="range_iterator") st' rfl rfl (by decide) ⟨.int (lo+i),H,I1,⟨t,?_⟩,⟨rfl,rfl⟩,st',λb hb=>(hf b hb).1⟩⟩;rw[Int.mul_one]
 done:=by
  intro X hP hw hK hc i pins s U H E I hf st hg;subst hP hw hK;obtain⟨f0,f1,f2,f3,f4,f5⟩:=hf it (by simp);exact wpAny_pyNext_range_end (I.ok.hd hc) st (by have:n<=i:=hg;lia) λh' eb=>⟨rfl,I.turned (t':=s.toks) (λb o hb e=>eb b o hb e) f0 f1 f3 f4 f5⟩
 self:=λ_ _ _ _ _ st h=>wpAny_pyIter_rangeiter st h
section
variable {X:Cx} {tg:Expr}
def Jn4{pins:List (Addr×Obj)}{U:St}{H:Hp}{s:Shared}{R:It->Hp->Prop}{E:Value->Shared->Prop}{lo hi:Int}{t u v:Tok}{tk:Nat}(I:Inv X pins U H s)(h1: -(2^62)<=lo)(h2:lo<2^62)(h3: -(2^62)<=hi)(h4:hi<2^62)
  (q:R (Itr lo (hi-lo).toNat) H):wpAny (model X.prog X.w) X.A (pyIter (.ref s.heap.objs.size)) (PIE X pins U tg R) E {s with heap:=s.heap.push {cls:=.type "range",data:=.fields #[.int lo t,.int hi u,.int 1 v]},toks:=tk}:=by
 refine wpAny_pyIter_range (IsRange.new ..) (small_one h1 h2 h3 h4) ?_;have I1:Inv X pins U H {s with heap:=s.heap.push {cls:=.type "range",data:=.fields #[.int lo t,.int hi u,.int 1 v]},toks:=tk}:=I.kept λb o e=>Ad _ e;refine⟨(s.heap.push {cls:=.type "range",data:=.fields #[.int lo t,.int hi u,.int 1 v]}).objs.size,[(s.heap.push {cls:=.type "range",data:=.fields #[.int lo t,.int hi u,.int 1 v]}).objs.size],_,_,H,rfl,
  I1.kept (t':=tk) λb o e=>Ad _ e,Jjy _ lo (hi-lo).toNat,?_,λb hb=>?_,q⟩
 ·have e1:lo+((0:Nat):Int)*1=lo:=by simp
  have e2:(((hi-lo).toNat:Nat):Int)-((0:Nat):Int)=Builtin.Range.rangeSize lo hi 1:=by rw[rangeSize_one];split<;>lia
  show IsRangeIter _ _ (lo+((0:Nat):Int)*1) ((((hi-lo).toNat:Nat):Int)-((0:Nat):Int)) 1;rw[e1,e2];exact Ak _ rfl
 ·have e:b=(s.heap.push {cls:=.type "range",data:=.fields #[.int lo t,.int hi u,.int 1 v]}).objs.size:=by simpa using hb
  subst e;exact I1.fpOk (Aj _) (I1.hok.fresh (Aj _))
def Jzo(ta:TA):TI:=λU H R=>ta U H λvs H1=>∃j:Int,vs=[.int j]/\ -(2^62)<=j/\j<2^62/\R (Itr 0 j.toNat) H1
theorem Jln(hg:Gl X "range")(hm:X.mg "range"=none)(ha:PA X [a] ta)(hs:Bs [a] X.env=[(false,eval a X.env)]):PI X tg (.Call (.Name "range" p) [a] [] pos) (Jzo ta):=by
 intro pins s U H R I h;refine Sw (Jcg I hg hm boot_range (De (thn (ha pos pins s U H _ I h) λus s1 ⟨vs,H1,I1,r1,q1⟩=>?_) hs rfl) (by decide) (by decide));obtain⟨j,e,q1,q2,q⟩:=q1;subst e;cases r1 with
 |cons r rr=>
  cases rr;obtain⟨t,rfl⟩:=r;exact call_range_1 (Jn4 I1 (by lia) (by lia) q1 q2 (by simpa using q))
def Wbw(wi:TI)(g:TG)(tb:TS):TS:=λD U H=>wi U H λJ H1=>∃W:Nat->Nat->St->Hp->Prop,(∃m,W 0 m U H1)/\∀i m U H,W i m U H->
 (J.stop i H/\D.nx U H)\/(J.go i H/\∃N:St->Hp->Prop,(∀U' H',N U' H'->∃m',m'<m/\W (i+1) m' U' H')/\∀x H',J.yld i H x H'->g x U H' λσ2 H2=>tb {D with nx:=N,ct:=N,bk:=D.nx} σ2 H2)
noncomputable def W4(fp:List Addr)(h:Heap):List (Addr×Obj):=fp.filterMap λb=>(h.get? b).map λo=>(b,o)
def Jcb{h:Heap}(hb:b∈fp)(e:h.get? b=some o):(b,o)∈W4 fp h:=Ln.mpr ⟨b,hb,by rw[e];rfl⟩
theorem Jlz{h:Heap}{p:Addr×Obj}(hp:p∈W4 fp h):p.1∈fp/\h.get? p.1=some p.2:=by
 obtain⟨b,hb,e⟩:=Ln.mp hp;cases q:h.get? b with
 |none=>rw[q]at e;cases e
 |some o=>
  rw[q]at e;have e':(b,o)=p:=Bb e;subst e';exact⟨hb,q⟩
def Inv.pinned{s:Shared}{fp:List Addr}(I:Inv X pins U H s)(hf:∀b∈fp,Ws X pins H b)(ho:∀b∈fp,∃o,s.heap.get? b=some o/\∀v,o.data≠ .cell v):Inv X (pins++W4 fp s.heap) U H s:=
 I.pins_of λp hp=>(Bj.mp hp).elim (λz=>I.pin p (By _ z)) λz=>by
  obtain⟨hb,e⟩:=Jlz z;obtain⟨f0,f1,f2,_⟩:=hf p.1 hb;obtain⟨o,e',d⟩:=ho p.1 hb;rw[e]at e';cases e';exact⟨e,f0,f1,f2,d⟩
def Inv.unpinned(I:Inv X (pins++pl) U H s):Inv X pins U H s:=I.pins_of λp hp=>I.pin p (By _ (Ci _ hp))
def Jv6(hp:PassesOwn (model X.prog X.w) X.A X.env X.xe)(hc:X.calm=true)(hi:PI X tg iter wi)(hg:PG X tg g)(hb:PSs X body tb)
  (hs:∀x,C4 iter X.env x=pure x):PS X (.For tg iter body [] pos) (Wbw wi g tb):=by
 intro pins s U H D I h;refine wpAny_For (thn (hi pins s U H _ I h) λv s1 h1=>thn h1 λitv s2 h2=>?_) hs;obtain⟨it,fp,tn,J,H2,e,I2,T,st2,f2,W,⟨m0,w0⟩,turn⟩:=h2;subst e;have stat:∀{H':Hp},(∀b∈fp,H' b=none)->∀b∈fp,Ws X pins H' b:=λhn b hb=>⟨hn b hb,(f2 b hb).2⟩
 refine codeAny_forLoop_any (λn s'=>∃i U' H',Inv X pins U' H' s'/\tn i s'.heap/\(∀b∈fp,H' b=none)/\W i n U' H') ?_ m0 ⟨0,U,H2,I2,st2,λb hb=>(f2 b hb).1,w0⟩;rintro n s3 ⟨i,σ3,H3,I3,st3,fr3,w3⟩;rcases turn i n σ3 H3 w3 with⟨stop,qn⟩|⟨go,N,hN,step⟩
 ·refine Il hp (thn (T.done X rfl rfl rfl hc i pins s3 σ3 H3 X.xe I3 (stat fr3) st3 stop) λr s4 ⟨hr,I4⟩=>?_);subst hr;exact K5 ⟨σ3,H3,I4,qn⟩
 ·refine Il hp (thn (T.item X rfl rfl rfl hc i pins s3 σ3 H3 X.xe I3 (stat fr3) st3 go) λr s4 ⟨u,hr,h4⟩=>?_);subst hr;refine Il hp (thn h4 λ_ s5 q_=>?_);obtain⟨x,H5,I5,r5,y5,st5,fr5⟩:=q_;have I5':=I5.pinned (stat fr5) (T.obj _ _ st5);refine Il hp (thn (hg _ s5 σ3 H5 x u _ I5' r5 (step x H5 y5)) λ_ s6 ⟨σ6,H6,I6,q6⟩=>?_);refine Il hp (thn (hb _ s6 σ6 H6 _ I6 q6) λf s7 q7=>?_);have again:∀{σ7:St} {H7:Hp},Inv X (pins++W4 fp s5.heap) σ7 H7 s7->N σ7 H7->∃m,m<n/\∃i U' H',Inv X pins U' H' s7/\tn i s7.heap/\(∀b∈fp,H' b=none)/\W i m U' H':=λ{σ7 H7} I7 n7=>by
   obtain⟨m',hm,w7⟩:=hN σ7 H7 n7;refine⟨m',hm,i+1,σ7,H7,I7.unpinned,T.keep _ _ _ st5 λb hb o e=>(I7.pin (b,o) (By _ (By _ (Jcb hb e)))).1,λb hb=>?_,w7⟩;obtain⟨o,e,d⟩:=T.obj _ _ st5 b hb;exact(I7.pin (b,o) (By _ (By _ (Jcb hb e)))).2.1
  cases f with
  |next=>obtain⟨σ7,H7,I7,n7⟩:=q7;exact again I7 n7
  |cont=>obtain⟨σ7,H7,I7,n7⟩:=q7;exact again I7 n7
  |brk=>obtain⟨σ7,H7,I7,q7⟩:=q7;exact⟨σ7,H7,I7.unpinned,q7⟩
  |ret v=>obtain⟨x7,σ7,H7,I7,r7,q7⟩:=q7;exact⟨x7,σ7,H7,I7.unpinned,r7,q7⟩
end
abbrev R2:=V->V->Hp->VK->Prop
def OpR(X:Cx)(f:Value->Value->Sem Value)(r:R2):Prop:=
 ∀(pins:List (Addr×Obj)) (s:Shared) (U:St) (H:Hp) (x y:V) (v u:Value) (Q:VK),Inv X pins U H s->RelV x v->RelV y u->r x y H Q->
  wpAny (model X.prog X.w) X.A (f v u) (EP X pins U Q) X.xe s
def UnR(X:Cx)(f:Value->Sem Value)(r:V->Hp->VK->Prop):Prop:=
 ∀(pins:List (Addr×Obj)) (s:Shared) (U:St) (H:Hp) (x:V) (v:Value) (Q:VK),Inv X pins U H s->RelV x v->r x H Q->
  wpAny (model X.prog X.w) X.A (f v) (EP X pins U Q) X.xe s
def Vy(X:Cx)(f:Value)(r:List V->Hp->VK->Prop):Prop:=
 ∀(pins:List (Addr×Obj)) (s:Shared) (U:St) (H:Hp) (xs:List V) (us:List Value) (Q:VK),Inv X pins U H s->Vals xs us->r xs H Q->
  wpAny (model X.prog X.w) X.A (call f us) (EP X pins U Q) X.xe s
def Wc9(X:Cx)(r:V->Hp->(Bool->Hp->Prop)->Prop):Prop:=
 ∀(pins:List (Addr×Obj)) (s:Shared) (U:St) (H:Hp) (x:V) (v:Value) (Q:Bool->Hp->Prop),Inv X pins U H s->RelV x v->r x H Q->
  wpAny (model X.prog X.w) X.A (truthy v) (TP X pins U Q) X.xe s
def tOp(r:R2)(ta tb:TE):TE:=λU H Q=>ta U H λx H1=>tb U H1 λy H2=>r x y H2 Q
def tUn(r:V->Hp->VK->Prop)(ta:TE):TE:=λU H Q=>ta U H λx H1=>r x H1 Q
def rI(C:Int->Int->Prop)(g:Int->Int->V):R2:=λx y H Q=>∃i j,x=.int i/\y=.int j/\C i j/\Q (g i j) H
def rI0(g:Int->Int->V):R2:=λx y H Q=>∃i j,x=.int i/\y=.int j/\Q (g i j) H
def rU(g:Int->V):V->Hp->VK->Prop:=λx H Q=>∃i,x=.int i/\Q (g i) H
section
variable {X:Cx} {a b c:Expr} {ta tb tc:TE} {pos:Pos}
def Wab(ha:PE X a ta)(hb:PE X b tb){R:V->V->Hp->Prop}(I:Inv X pins U H s)
  (h:ta U H λx H1=>tb U H1 λy H2=>R x y H2){Q:Value->Shared->Prop}{f:Value->Value->Sem Value}
  (hf:∀v u s2 x y H2,Inv X pins U H2 s2->RelV x v->RelV y u->R x y H2->wpAny (model X.prog X.w) X.A (f v u) Q X.xe s2):
  wpAny (model X.prog X.w) X.A (eval a X.env) (λv s₁=>wpAny (model X.prog X.w) X.A (eval b X.env) (λu s₂=>wpAny (model X.prog X.w) X.A (f v u) Q X.xe s₂) X.xe s₁) X.xe s:=by
 refine thn (ha pins s U H _ I h) λv s1 ⟨x,H1,I1,r1,q1⟩=>?_;refine thn (hb pins s1 U H1 _ I1 q1) λu s2 ⟨y,H2,I2,r2,q2⟩=>?_;exact hf v u s2 x y H2 I2 r1 r2 q2
def Jy6(ho:OpR X (F4 op) r)(ha:PE X a ta)(hb:PE X b tb):PE X (.BinOp a op b pos) (tOp r ta tb):=by
 intro pins s U H Q I h;exact wpAny_BinOp (Wab ha hb I h λv u s2 x y H2 I2 rx ry q=>ho pins s2 U H2 x y v u Q I2 rx ry q)
def Jy4{r:V->Hp->VK->Prop}(ho:UnR X (unaryOp op) r)(ha:PE X a ta):PE X (.UnaryOp op a pos) (tUn r ta):=by
 intro pins s U H Q I h;exact R7 (thn (ha pins s U H _ I h) λv s1 ⟨x,H1,I1,r1,q1⟩=>ho pins s1 U H1 x v Q I1 r1 q1)
def opI{f:Value->Value->Sem Value}{C:Int->Int->Prop}{g:Int->Int->Int}
  (rule:∀(i j:Int) (t u:Tok) (s:Shared) (Q:Value->Shared->Prop) (E:Value->Shared->Prop),C i j->Q (.int (g i j) s.toks) {s with toks:=s.toks+1}->wpAny (model X.prog X.w) X.A (f (.int i t) (.int j u)) Q E s):
  OpR X f (rI C λi j=>.int (g i j)):=by
 intro pins s U H x y v u Q I rx ry h;obtain⟨i,j,rfl,rfl,hc,q⟩:=h;obtain⟨t,rfl⟩:=rx;obtain⟨t',rfl⟩:=ry;exact rule i j t t' s _ _ hc ⟨.int (g i j),H,I.tok _,⟨_,rfl⟩,q⟩
def Wax{f:Value->Value->Sem Value}{g:Int->Int->Int}
  (rule:∀(i j:Int) (t u:Tok) (s:Shared) (Q:Value->Shared->Prop) (E:Value->Shared->Prop),Q (.int (g i j) s.toks) {s with toks:=s.toks+1}->wpAny (model X.prog X.w) X.A (f (.int i t) (.int j u)) Q E s):
  OpR X f (rI0 λi j=>.int (g i j)):=by
 intro pins s U H x y v u Q I rx ry h;obtain⟨i,j,rfl,rfl,q⟩:=h;obtain⟨t,rfl⟩:=rx;obtain⟨t',rfl⟩:=ry;exact rule i j t t' s _ _ ⟨.int (g i j),H,I.tok _,⟨_,rfl⟩,q⟩
def Y9{f:Value->Value->Sem Value}{g:Int->Int->Bool}
  (rule:∀(i j:Int) (t u:Tok) (s:Shared) (Q:Value->Shared->Prop) (E:Value->Shared->Prop),Q (.bool (g i j)) s->wpAny (model X.prog X.w) X.A (f (.int i t) (.int j u)) Q E s):
  OpR X f (rI0 λi j=>.bl (g i j)):=by
 intro pins s U H x y v u Q I rx ry h;obtain⟨i,j,rfl,rfl,q⟩:=h;obtain⟨t,rfl⟩:=rx;obtain⟨t',rfl⟩:=ry;exact rule i j t t' s _ _ ⟨.bl (g i j),H,I,rfl,q⟩
def Wda(i j:Int):Prop:=0<=j/\j<=1000000/\i.natAbs<2^64
def Zi(i j:Int):Prop:=(-(2^64)<i/\i<2^64)\/(-(2^64)<j/\j<2^64)
def Zi.ok(h:Zi i j):IntMulOk i j:=by
 rcases h with⟨h1,h2⟩|⟨h1,h2⟩
 ·exact .of_left (intBits_le_64 h1 h2)
 ·exact .of_right (intBits_le_64 h1 h2)
def Jjw(k:Nat):(0:Int)<=2^k:=by
 rw[two_pow_cast];exact L5 _
def Jwp:OpR X (F4 .Add) (rI0 λi j=>.int (i+j)):=Wax λ_ _ _ _ _ _ _ q=>add_int q
def Jwj:OpR X (F4 .Sub) (rI0 λi j=>.int (i-j)):=Wax λ_ _ _ _ _ _ _ q=>sub_int q
def Jwm:OpR X (F4 .Mod) (rI (λ_ j=>0<j) λi j=>.int (i%j)):=opI λi j _ _ _ _ _ hc q=>by
 have h1:(0:Int)<j:=hc;exact mod_int' (by lia) (by rw[Int.fmod_eq_emod_of_nonneg i (by lia)];exact q)
def Jwl:OpR X (F4 .Pow) (rI Wda λi j=>.int (i^j.toNat)):=opI λ_ _ _ _ _ _ _ hc q=>pow_int_small hc.1 hc.2.1 hc.2.2 q
def Jwk:OpR X (F4 .RShift) (rI (λ_ j=>0<=j) λi j=>.int (i/2^j.toNat)):=opI λi j _ _ _ _ _ hc q=>
 rshift_int hc (by rw[Oh i (Jjw _)];exact q)
def unI{f:Value->Sem Value}{g:Int->Int}
  (rule:∀(i:Int) (t:Tok) (s:Shared) (Q:Value->Shared->Prop) (E:Value->Shared->Prop),Q (.int (g i) s.toks) {s with toks:=s.toks+1}->wpAny (model X.prog X.w) X.A (f (.int i t)) Q E s):
  UnR X f (rU λi=>.int (g i)):=by
 intro pins s U H x v Q I rx h;obtain⟨i,rfl,q⟩:=h;obtain⟨t,rfl⟩:=rx;exact rule i t s _ _ ⟨.int (g i),H,I.tok _,⟨_,rfl⟩,q⟩
def Jvc:UnR X (unaryOp .USub) (rU λi=>.int (-i)):=unI λ_ _ _ _ _ q=>neg_int q
end
section
variable {X:Cx} {a b c:Expr} {ta tb tc:TE} {pos:Pos}
def Jq5(I:Inv X pins U H s)(q:Q (.bl k) H)(e:k=k'):EP X pins U Q (.bool k') s:=by
 subst e;exact⟨.bl k,H,I,rfl,q⟩
def Jza:OpR X (D8 .Lt) (rI0 λi j=>.bl (decide (i<j))):=Y9 λ_ _ _ _ _ _ _ q=>lt_int q
def Jzb:OpR X (D8 .LtE) (rI0 λi j=>.bl (decide (i<=j))):=Y9 λ_ _ _ _ _ _ _ q=>le_int q
def Jzc:OpR X (D8 .Gt) (rI0 λi j=>.bl (decide (j<i))):=Y9 λ_ _ _ _ _ _ _ q=>gt_int q
def Jzd:OpR X (D8 .GtE) (rI0 λi j=>.bl (decide (j<=i))):=Y9 λ_ _ _ _ _ _ _ q=>ge_int q
def Jwn:OpR X (D8 .Is) (λx y H Q=>y=.non/\Q (.bl (decide (x=.non))) H):=by
 intro pins s U H x y v u Q I rx ry h;obtain⟨rfl,q⟩:=h;cases ry;refine is_none_gen (Jq5 I q ?_);cases x<;>first
  |(cases rx;rfl)
  |(obtain⟨t,rfl⟩:=rx;rfl)
def Jtf:OpR X (D8 .IsNot) (λx y H Q=>y=.non/\Q (.bl (!decide (x=.non))) H):=by
 intro pins s U H x y v u Q I rx ry h;obtain⟨rfl,q⟩:=h;cases ry;refine isnot_none_gen (Jq5 I q ?_);cases x<;>first
  |(cases rx;rfl)
  |(obtain⟨t,rfl⟩:=rx;rfl)
def Wcc(b:Expr)(h:op≠ .In)(h2:op≠ .NotIn):Hy op b=false:=by
 have e1:(op==CmpOp.In)=false:=by cases op<;>first|rfl|exact absurd rfl h
 have e2:(op==CmpOp.NotIn)=false:=by cases op<;>first|rfl|exact absurd rfl h2
 cases b<;>simp[Hy,e1,e2]
def Jtc(ho:OpR X (D8 op) r)(ha:PE X a ta)(hb:PE X b tb)(hm:Hy op b=false):PE X (.Compare a [op] [b] pos) (tOp r ta tb):=by
 intro pins s U H Q I h;exact wpAny_Compare1 (Wab ha hb I h λv u s2 x y H2 I2 rx ry q=>ho pins s2 U H2 x y v u Q I2 rx ry q) hm
def Zj(t:TE):TT:=λU H Q=>t U H λx H'=>∃k,x=.bl k/\Q k H'
def Jsv(ho:OpR X (D8 op) r)(ha:PE X a ta)(hb:PE X b tb)(hm:Hy op b=false):PT X (.Compare a [op] [b] pos) (Zj (tOp r ta tb)):=by
 intro pins s U H Q I h;refine wpAny_isTrue_Compare1 (thn (ha pins s U H _ I h) λv s1 ⟨x,H1,I1,r1,q1⟩=>thn (hb pins s1 U H1 _ I1 q1) λu s2 ⟨y,H2,I2,r2,q2⟩=>
  thn (ho pins s2 U H2 x y v u _ I2 r1 r2 q2) λc s3 ⟨z,H3,I3,r3,k,e,q3⟩=>?_) hm
 subst e;cases r3;exact Dv ⟨H3,I3,q3⟩
def Xr(r r':R2)(ta tb tc:TE):TE:=λU H Q=>ta U H λx H1=>tb U H1 λy H2=>r x y H2 λz H3=>∃k,z=.bl k/\
 (if k=true then tc U H3 λw' H4=>r' y w' H4 Q else Q (.bl false) H3)
theorem Jol(ho:OpR X (D8 op) r)(ho':OpR X (D8 op') r')(ha:PE X a ta)(hb:PE X b tb)(hc:PE X c tc)
  (hm:lastMarks [op,op'] [b,c]=false):PE X (.Compare a [op,op'] [b,c] pos) (Xr r r' ta tb tc):=by
 intro pins s U H Q I h;refine Compare_chain (thn (ha pins s U H _ I h) λv s1 ⟨x,H1,I1,r1,q1⟩=>chain_link (thn (hb pins s1 U H1 _ I1 q1) λu s2 ⟨y,H2,I2,r2,q2⟩=>
  thn (ho pins s2 U H2 x y v u _ I2 r1 r2 q2) λd s3 ⟨z,H3,I3,r3,k,e,q3⟩=>?_)) hm
 subst e;cases r3;refine Dv ?_;cases k with
 |false=>exact ite_ff ⟨.bl false,H3,I3,rfl,q3⟩
 |true=>exact ite_tt (chain_last (thn (hc pins s3 U H3 _ I3 q3) λw' s4 ⟨z',H4,I4,r4,q4⟩=>ho' pins s4 U H4 y z' u w' Q I4 r2 r4 q4))
theorem Jn6(ho:OpR X (D8 op) r)(ho':OpR X (D8 op') r')(ha:PE X a ta)(hb:PE X b tb)(hc:PE X c tc)
  (hm:lastMarks [op,op'] [b,c]=false):PT X (.Compare a [op,op'] [b,c] pos) (Zj (Xr r r' ta tb tc)):=by
 intro pins s U H Q I h;refine isTrue_chain (thn (ha pins s U H _ I h) λv s1 ⟨x,H1,I1,r1,q1⟩=>test_link (thn (hb pins s1 U H1 _ I1 q1) λu s2 ⟨y,H2,I2,r2,q2⟩=>
  thn (ho pins s2 U H2 x y v u _ I2 r1 r2 q2) λd s3 ⟨z,H3,I3,r3,k,e,q3⟩=>?_)) hm
 subst e;cases r3;refine Dv ?_;cases k with
 |false=>
  obtain⟨k',e',q'⟩:=q3;cases e';exact ite_ff ⟨H3,I3,q'⟩
 |true=>
  refine ite_tt (test_last (thn (hc pins s3 U H3 _ I3 q3) λw' s4 ⟨z',H4,I4,r4,q4⟩=>thn (ho' pins s4 U H4 y z' u w' _ I4 r2 r4 q4) λd' s5 q_=>?_));obtain⟨z2,H5,I5,r5,k2,e2,q5⟩:=q_;subst e2;cases r5;exact Dv ⟨H5,I5,q5⟩
def Ze(K:Af)(x:V)(H:Hp)(k:Bool):Prop:=
 match x with
 |.non=>k=false
 |.bl b=>k=b
 |.int i=>k=(i !=0)
 |.str y=>y.length<=sizeLine/\k=((y.length:Int) !=0)
 |.byt y=>y.size<=sizeLine/\k=((y.size:Int) !=0)
 |.ref p=>(∃xs,SqL K H p xs/\k= !xs.isEmpty)\/(∃xs,SqT K H p xs/\k= !xs.isEmpty)\/∃kvs,H p=some (.dK kvs)/\k= !kvs.isEmpty
 |_=>False
theorem Jki{κ:Type}{kvs:List (κ×V)}{vs:List (κ×Value)}(r:KV kvs vs):(!vs.isEmpty)= !kvs.isEmpty:=by
 cases r<;>rfl
def Jfj{xs:List V}{its:List Value}(r:Vals xs its):(!its.toArray.isEmpty)= !xs.isEmpty:=by
 cases r<;>simp
def Jhh:(sizeLine:Nat)<2^63:=by rw[G4];decide
theorem Jp7:Wc9 X (λx H Q=>∃k,Ze X.K x H k/\Q k H):=by
 intro pins s U H x v Q I rx h;obtain⟨k,e,q⟩:=h;have hl:=Jhh;have hs:sizeLine=16777216:=G4;cases x with
 |non=>
  cases rx;have e':k=false:=e;subst e';exact truthy_none ⟨H,I,q⟩
 |bl b=>
  cases rx;have e':k=b:=e;subst e';exact Dv ⟨H,I,q⟩
 |int i=>
  obtain⟨t,rfl⟩:=rx;have e':k=(i !=0):=e;subst e';exact PySem.P.truthy_int ⟨H,I,q⟩
 |str y=>
  obtain⟨t,rfl⟩:=rx;obtain⟨hy,e'⟩:y.length<=sizeLine/\k=((y.length:Int) !=0):=e;subst e';exact PySem.P.truthy_str (by lia) ⟨H,I.tok _,q⟩
 |byt y=>
  obtain⟨t,rfl⟩:=rx;obtain⟨hy,e'⟩:y.size<=sizeLine/\k=((y.size:Int) !=0):=e;subst e';exact PySem.W.truthy_bytes (by lia) ⟨H,I.tok _,q⟩
 |ref p=>
  cases rx;have e':(∃xs,SqL X.K H p xs/\k= !xs.isEmpty)\/(∃xs,SqT X.K H p xs/\k= !xs.isEmpty)\/∃kvs,H p=some (.dK kvs)/\k= !kvs.isEmpty:=e;rcases e' with⟨xs,hx,e'⟩|⟨xs,hx,e'⟩|⟨kvs,hx,e'⟩
  ·subst e';obtain⟨its,r,pl,hz⟩:=I.list hx;have hlen:=r.length;exact wpAny_truthy_list pl.isList (by simp only[Ar];lia) ⟨H,I.tok _,by rw[Jfj r];exact q⟩
  ·subst e';obtain⟨its,r,pl,hz⟩:=I.tuple hx;have hlen:=r.length;exact truthy_tuple pl (by simp only[Ar];lia) ⟨H,I.tok _,by rw[Jfj r];exact q⟩
  ·subst e';obtain⟨hz,hS,vs,r,m⟩:kvs.length<=sizeLine/\(p==sysModules)=false/\∃vs,KV kvs vs/\s.heap.DictOf (mixKind X.prog X.w) p vs:=I.hok p _ hx;have hlen:kvs.length=vs.length:=Ce r;exact wpAny_truthy_dict hS m (by lia) ⟨H,I.tok _,by rw[Jki r];exact q⟩
 |_=>exact(show False from e).elim
def Jn5(ha:PE X a ta)(he:∀whole,isTrue a X.env whole=(do let v<-whole;Nd a.pos;holding [v] (truthy v))):
  PT X a (λU H Q=>ta U H λx H'=>∃k,Ze X.K x H' k/\Q k H'):=by
 intro pins s U H Q I h;exact isTrue_plain (thn (ha pins s U H _ I h) λv s1 ⟨x,H1,I1,r1,q1⟩=>Jp7 pins s1 U H1 x v Q I1 r1 q1) (he _)
theorem vals1(r:Vals [x] us):∃u,us=[u]/\RelV x u:=by
 cases r with
 |cons r1 r2=>cases r2;exact⟨_,rfl,r1⟩
theorem vals2(r:Vals [x,y] us):∃u w',us=[u,w']/\RelV x u/\RelV y w':=by
 cases r with
 |cons r1 r2=>
  cases r2 with
  |cons r3 r4=>cases r4;exact⟨_,_,rfl,r1,r3⟩
def Jps:Vy X (.builtin "abs") (λxs H Q=>∃i,xs=[.int i]/\Q (.int (if i<0 then -i else i)) H):=by
 intro pins s U H xs us Q I r h;obtain⟨i,rfl,q⟩:=h;obtain⟨u,rfl,t,rfl⟩:=vals1 r;exact call_abs_int λu tk=>⟨.int (if i<0 then -i else i),H,I.tok _,⟨_,rfl⟩,q⟩
def Jm5(hc:X.calm=true):Vy X (.builtin "max") (λxs H Q=>∃i j,xs=[.int i,.int j]/\Q (.int (if j>i then j else i)) H):=by
 intro pins s U H xs us Q I r h;obtain⟨i,j,rfl,q⟩:=h;obtain⟨u,w',rfl,⟨t,rfl⟩,⟨t',rfl⟩⟩:=vals2 r;refine max_two_ints (I.ok.hd hc) λh' tk k=>⟨_,H,I.kept k,?_,q⟩
 by_cases hj:j>i
 ·rw[if_pos hj,if_pos hj];exact⟨_,rfl⟩
 ·rw[if_neg hj,if_neg hj];exact⟨_,rfl⟩
def Jm4(hc:X.calm=true):Vy X (.builtin "min") (λxs H Q=>∃i j,xs=[.int i,.int j]/\Q (.int (if j<i then j else i)) H):=by
 intro pins s U H xs us Q I r h;obtain⟨i,j,rfl,q⟩:=h;obtain⟨u,w',rfl,⟨t,rfl⟩,⟨t',rfl⟩⟩:=vals2 r;refine min_two_ints (I.ok.hd hc) λh' tk k=>⟨_,H,I.kept k,?_,q⟩
 by_cases hj:j<i
 ·rw[if_pos hj,if_pos hj];exact⟨_,rfl⟩
 ·rw[if_neg hj,if_neg hj];exact⟨_,rfl⟩
def Jhw:Vy X (.type "int") (λxs H Q=>(∃i,xs=[.int i]/\Q (.int i) H)\/∃k,xs=[.bl k]/\Q (.int (if k then 1 else 0)) H):=by
 intro pins s U H xs us Q I r h;rcases h with⟨i,rfl,q⟩|⟨k,rfl,q⟩
 ·obtain⟨u,rfl,t,rfl⟩:=vals1 r;exact call_int_int ⟨.int i,H,I,⟨_,rfl⟩,q⟩
 ·obtain⟨u,rfl,r1⟩:=vals1 r;cases r1;exact call_int_bool ⟨.int (if k then 1 else 0),H,I.tok _,⟨_,rfl⟩,q⟩
end
structure Xy(h:Heap)(x dx C:Addr)(mA:Str->Option Value):Prop where
 obj:h.get? x=some (Et C dx)
 ns:h.Ns1 dx mA
 ne:dx≠x
def Jl6{h:Heap}{mA:Str->Option Value}(n:h.Ns1 dx mA):∃od,h.get? dx=some od/\∀name,Ka name od=some (mA name):=by
 obtain⟨o,es,ep,ho,hd,hk,_,hm⟩:=n;refine⟨o,ho,λname=>?_⟩;have e:=hm name;unfold nsFind findBy at e;rw[<-Array.find?_toList]at e;unfold Ka;rw[hd];dsimp only;split
 ·rename_i y q;rw[q]at e;exact congrArg some e
 ·rename_i q;rw[q]at e;have a:es.toList.any (·.refKey)=false:=by
   rw[Mh];intro y hy;obtain⟨z,t,hkey⟩:=hk y (Di.mp hy);simp[DictEntry.refKey,hkey]
  have a':¬es.toList.any (·.refKey)=true:=by rw[a];exact Aw
  rw[if_neg a'];exact congrArg some e
def Xy.look{mA:Str->Option Value}(I:Xy h x dx C mA):∃od,PySem.W.InstAt h x (Et C dx) C (some od)/\∀name,Ka name od=some (mA name):=
 let⟨od,ho,hl⟩:=Jl6 I.ns
 ⟨od,⟨I.obj,rfl,rfl,ho⟩,hl⟩
section
variable {prog:Program} {w:World} {A:Bi} {E:Value->Shared->Prop} {s:Shared} {K:Af} {x dx C f:Addr} {mA:Str->Option Value} {name:Str} {v:Value}
def get_map{Q:Value->Shared->Prop}(X:K.In s.heap)(I:Xy s.heap x dx C mA)(hg:Jc K C name=true)(hh:Lc K C=true)
  (ha:Cf K (.ref C) name=some none)(hv:mA name=some v)(hv':Qp v=true)(h:Q v {s with toks:=s.toks+1}):
  wpAny (model prog w) A (getAttr (.ref x) name expr) Q E s:=by
 obtain⟨od,J,hl⟩:=I.look;exact PySem.W.get_value X J (Kh hg).1 (PySem.W.findObj_own hh ha rfl (by rw[hl,hv])) hv' h
def Jph{Q:Value×List Value->Shared->Prop}(X:K.In s.heap)(I:Xy s.heap x dx C mA)(hg:Jc K C name=true)
  (hf:Cf K (.ref C) name=some (some (.ref f)))(ht:Lb K (.ref f)=true)(hv:mA name=none)(h:Q (.ref f,[.ref x]) s):
  wpAny (model prog w) A (getMethod (.ref x) name pl) Q E s:=by
 obtain⟨od,J,hl⟩:=I.look;exact PySem.W.method_fn X J (Kh hg).1 (Kh hg).2 hf (beq_iff_eq.mp ht) (by show(Ka name od).map (·.isSome)=some false;rw[hl,hv];rfl) h
def Jsh{ns:List Str}{Q:Unit->Shared->Prop}(X:K.In s.heap)(I:Xy s.heap x dx C mA)
  (hs:Cf K (.ref C) "__setattr__"=some (some (.builtin "object.__setattr__")))(hp:Qc K C=true)(ht:Mm K C name=some none)(hh:Lc K C=true)
  (hw:O5 mA ns)(hsz:ns.length<=sizeLine)
  (h:∀h',Xy h' x dx C (λy=>if y=name then some v else mA y)->Cp dx s.heap h'->Q () {s with heap:=h',toks:=s.toks+2}):
  wpAny (model prog w) A (setAttr (.ref x) name v) Q E s:=by
 obtain⟨od,J,hl⟩:=I.look;refine PySem.W.set_plain X J hs (PySem.W.osa_open (s:={s with toks:=s.toks+1}) (r:=none) X J hp ht λb=>?_);obtain⟨cd,hc,hd'⟩:=PySem.W.any_some hh;have hx:s.heap.get? x=some ⟨.ref C,some dx,.plain,#[]⟩:=I.obj;refine Aa (Ab (Aa (Aa (wpAny_loadPart hx (Aa (PySem.W.Looks.here (s:={s with toks:=s.toks+1}) (PySem.W.looks_clsIn X hc) ?_))))));rw[hd'];refine Ab (a:=some dx) (Aa (Ab (Aa ?_)));refine wpAny_nsSet1 (s:={s with toks:=s.toks+1}) I.ns λh' hn2 hs2=>?_;obtain⟨oD,esD,epD,hoD,hdD,hcD⟩:=hn2.count (PySem.Within.cons name v hw);refine Aa (wpAny_lookBehind hoD (by rw[hdD];exact pastItsLine_dict (Bl hcD (by rw[A5];lia))) ?_);exact Ab (h _ ⟨(hs2.2 _ (Df I.ne)).trans I.obj,hn2,I.ne⟩ hs2)
def Jos{R:K1->Shared->Prop}(X:K.In s.heap)(hm:Mo K C=true)
  (hi:Cf K (.ref C) "__init__"=some (some (.ref f)))(hf:PySem.W.typeIn K (.ref f)=some (.type "function"))
  (h:F9 (model prog w) (A.under (.builtin "type.__call__" ⟨.ref C::vs,kw⟩)) (.call (.ref f) ⟨.ref (s.heap.objs.size+1)::vs,kw⟩) (PySem.W.InitBack (s.heap.objs.size+1) R)
   {s with heap:=(s.heap.push Dq).push (Et C s.heap.objs.size)}):
  F9 (model prog w) A (.call (.ref C) ⟨vs,kw⟩) R s:=by
 obtain⟨hh,g,d,t,os⟩:=s;exact PySem.W.make_core (PySem.W.makes_of X hm) (G7 X hi) (λself=>PySem.W.bind_fn X self hf) (.inl rfl) h
end
noncomputable def V5(f:Str)(v:V):List (Str×V)->List (Str×V)
 |[]=>[(f,v)]
 |(g,x)::r=>if g=f then(g,v)::r else(g,x)::V5 f v r
theorem Jem(f g:Str)(v:V):∀fs:List (Str×V),(V5 f v fs).lookup g=if g=f then some v else fs.lookup g
 |[]=>by
  show E2 g [(f,v)]=_
  by_cases h:g=f
  ·have hb:(g==f)=true:=beq_iff_eq.mpr h;simp only[E2,hb,if_pos h]
  ·have hb:(g==f)=false:=beq_eq_false_iff_ne.mpr h;simp only[E2,hb,if_neg h]
 |(k,x)::r=>by
  have ih:=Jem f g v r;rw[show V5 f v ((k,x)::r)=(if k=f then(k,v)::r else(k,x)::V5 f v r)from rfl]
  by_cases hk:k=f
  ·rw[if_pos hk]
   by_cases h:g=k
   ·have hb:(g==k)=true:=beq_iff_eq.mpr h;simp only[E2,hb,if_pos (h.trans hk)]
   ·have hb:(g==k)=false:=beq_eq_false_iff_ne.mpr h;simp only[E2,hb,if_neg (λe:g=f=>h (e.trans hk.symm))]
  ·rw[if_neg hk]
   by_cases h:g=k
   ·have hb:(g==k)=true:=beq_iff_eq.mpr h;simp only[E2,hb,if_neg (λe:g=f=>hk (h.symm.trans e))]
   ·have hb:(g==k)=false:=beq_eq_false_iff_ne.mpr h;simp only[E2,hb];exact ih
theorem Jeq(f:Str)(v:V):∀fs:List (Str×V),f∈(V5 f v fs).map (·.1)/\∀g,g∈fs.map (·.1)->g∈(V5 f v fs).map (·.1)
 |[]=>⟨by simp[V5],λg h=>by simp at h⟩
 |(k,x)::r=>by
  obtain⟨i1,i2⟩:=Jeq f v r;rw[show V5 f v ((k,x)::r)=(if k=f then(k,v)::r else(k,x)::V5 f v r)from rfl]
  by_cases hk:k=f
  ·rw[if_pos hk];subst hk;exact⟨by simp,λg h=>by simpa using h⟩
  ·rw[if_neg hk];refine⟨?_,λg h=>?_⟩
   ·rw[Ay];exact Ax _ i1
   ·rw[Ay]at h ⊢;rcases An.mp h with e|e
    ·exact An.mpr (.inl e)
    ·exact Ax _ (i2 g e)
theorem Jeo(f:Str)(v:V):∀fs:List (Str×V),(V5 f v fs).length<=fs.length+1
 |[]=>by simp[V5]
 |(k,x)::r=>by
  have ih:=Jeo f v r;rw[show V5 f v ((k,x)::r)=(if k=f then(k,v)::r else(k,x)::V5 f v r)from rfl]
  by_cases hk:k=f
  ·rw[if_pos hk,A5,A5];lia
  ·rw[if_neg hk,A5,A5];lia
theorem RelO.some_of(r:RelO (some v) o):∃u,o=some u/\RelV v u:=by
 cases o with
 |none=>exact(show False from r).elim
 |some u=>exact⟨u,rfl,r⟩
theorem RelO.none_of(r:RelO none o):o=none:=by
 cases o with
 |none=>rfl
 |some u=>exact(show False from r).elim
theorem Jmn(r:RelV v u):Qp u=true:=by
 cases v with
 |non=>cases(show u=Cj from r);rfl
 |bl b=>cases(show u=H9 b from r);rfl
 |int i=>obtain⟨t,e⟩:=(show∃t,u=Dz i t from r);cases e;rfl
 |str x=>obtain⟨t,e⟩:=(show∃t,u=Oo x t from r);cases e;rfl
 |byt b=>obtain⟨t,e⟩:=(show∃t,u=U7 b t from r);cases e;rfl
 |flt b=>obtain⟨t,e⟩:=(show∃t,u=U6 b t from r);cases e;rfl
 |ref a=>cases(show u=Aq a from r);rfl
 |ty n=>cases(show u=Ea n from r);rfl
section
variable {P:Program} {w:World} {H H':Hp} {h h':Heap} {a C dx:Addr} {fs fs':List (Str×V)}
def Jiu(hok:HOk P w H h)(e:H a=some (.ins C dx fs)):∃mA,Xy h a dx C mA/\(∀f,RelO (fs.lookup f) (mA f))/\O5 mA (fs.map (·.1))/\fs.length<=1000/\H dx=some (.own a):=by
 obtain⟨d,z,ne,ob,mA,n,r,q⟩:=(show Vj P w H h a (.ins C dx fs)from hok a _ e)
 exact⟨mA,⟨ob,n,ne⟩,r,q,z,d⟩
end
structure Cls(K:Af)(C:Addr):Prop where
 pg:Jc K C Sn=true
 hd:Lc K C=true
 po:Qc K C=true
 sa:Cf K (.ref C) "__setattr__"=some (some (.builtin "object.__setattr__"))
def Cls.get{K:Af}{C:Addr}(c:Cls K C)(f:Str):Jc K C f=true:=c.pg
def V6(K:Af)(C:Addr)(f:Str):Prop:=Cf K (.ref C) f=some none
theorem V6.taker{K:Af}{C:Addr}{f:Str}(n:V6 K C f):Mm K C f=some none:=by
 unfold Mm;rw[show Cf K (.ref C) f=some none from n];rfl
structure Meth(K:Af)(C:Addr)(m:Str)(f:Addr):Prop where
 at_:Cf K (.ref C) m=some (some (.ref f))
 fn:Lb K (.ref f)=true
 kp:C7 K (.ref f)=true
section
variable {X:Cx} {pins:List (Addr×Obj)} {U:St} {H:Hp} {s:Shared} {a C dx:Addr} {fs:List (Str×V)} {f:Str} {v:V} {A:Bi} {E:Value->Shared->Prop}
def Jkk{Q:Value->Shared->Prop}(I:Inv X pins U H s)(e:H a=some (.ins C dx fs))(c:Cls X.K C)(n:V6 X.K C f)(l:fs.lookup f=some v)
  (h:∀u s',Inv X pins U H s'->RelV v u->Q u s'):wpAny (model X.prog X.w) A (getAttr (.ref a) f b) Q E s:=by
 obtain⟨mA,O,r,_,_,_⟩:=Jiu I.hok e;obtain⟨u,hu,ru⟩:=RelO.some_of (v:=v) (o:=mA f) (by rw[<-l];exact r f);exact get_map I.kIn O (c.get f) c.hd n hu (Jmn ru) (h u _ (I.tok _) ru)
def Jfl{Q:Value×List Value->Shared->Prop}(I:Inv X pins U H s)(e:H a=some (.ins C dx fs))(c:Cls X.K C)(k:Meth X.K C m g)(l:fs.lookup m=none)
  (h:Q (.ref g,[.ref a]) s):wpAny (model X.prog X.w) A (getMethod (.ref a) m pl) Q E s:=by
 obtain⟨mA,O,r,_,_,_⟩:=Jiu I.hok e;have hn:mA m=none:=RelO.none_of (by rw[<-l];exact r m);exact Jph I.kIn O (c.get m) k.at_ k.fn hn h
def Jj3{Q:Unit->Shared->Prop}(I:Inv X pins U H s)(e:H a=some (.ins C dx fs))(c:Cls X.K C)(n:V6 X.K C f)(hl:fs.length<1000)(ry:RelV y u)
  (h:∀s',Inv X pins U (upd H a (.ins C dx (V5 f y fs))) s'->Q () s'):wpAny (model X.prog X.w) A (setAttr (.ref a) f u) Q E s:=by
 obtain⟨mA,O,r,wi,_,ho⟩:=Jiu I.hok e;have hz:(fs.map (·.1)).length<=sizeLine:=by rw[Ah,G4];lia
 refine Jsh I.kIn O c.sa c.po n.taker c.hd wi hz λh' O' sb=>h _ ?_;have hd:∃o,h'.get? dx=some o:=let⟨o,_,_,e',_⟩:=O'.ns;⟨o,e'⟩;refine I.write (x:=a) (e:=dx) (by rw[e];exact E6) (.inr ho) (λb q hb z=>(sb.2 b hb).trans z) hd ?_;refine⟨by rw[Jac O.ne];exact ho,?_,O.ne,O'.obj,_,O'.ns,λg=>?_,λg hg=>?_⟩
 ·have:=Jeo f y fs;lia
 ·show RelO ((V5 f y fs).lookup g) (if g=f then some u else mA g);rw[Jem]
  by_cases q:g=f
  ·rw[if_pos q,if_pos q];exact ry
  ·rw[if_neg q,if_neg q];exact r g
 ·by_cases q:g=f
  ·rw[q];exact(Jeq f y fs).1
  ·refine(Jeq f y fs).2 g (wi g λz=>hg ?_);show(if g=f then some u else mA g)=none;rw[if_neg q];exact z
def Inv.made(I:Inv X pins U H s):Inv X pins U (upd (upd H s.heap.objs.size (.own (s.heap.objs.size+1))) (s.heap.objs.size+1) (.ins C s.heap.objs.size []))
  {s with heap:=(s.heap.push Dq).push (Et C s.heap.objs.size)}:=by
 have e1:(s.heap.push Dq).get? s.heap.objs.size=some Dq:=Ak s.heap rfl;have e2:((s.heap.push Dq).push (Et C s.heap.objs.size)).get? (s.heap.objs.size+1)=some (Et C s.heap.objs.size):=by
  have:=Ak (s.heap.push Dq) (o:=Et C s.heap.objs.size) rfl;rwa[Cd]at this
 have e3:(s.heap.push Dq).Ns s.heap.objs.size (λ_=>none):=⟨Dq,#[],_,e1,rfl,(λe he=>absurd he (by simp)),λ_=>rfl⟩
 have I1:=I.laid (a:=s.heap.objs.size) (o:=.own (s.heap.objs.size+1)) (h':=s.heap.push Dq) (t':=s.toks) (λb u q=>Ad _ q) (Aj _) ⟨_,e1⟩;refine I1.laid (a:=s.heap.objs.size+1) (o:=.ins C s.heap.objs.size []) (t':=s.toks) (λb u q=>Ad _ q) (Kb (Cd _ _)) ?_;have ne:s.heap.objs.size≠s.heap.objs.size+1:=Au (Dm _);refine⟨by rw[Jac ne,Jaf],Cz _,ne,e2,λ_=>none,(Heap.Ns1.of_empty e3).at λo q=>Ad _ q,λ_=>E6,λy hy=>absurd rfl hy⟩
def Jup{Q:Value->Shared->Prop}(hb:attributeBase e f env (eval e env)=eval e env)
  (h:wpAny (model prog w) A (eval e env) (λo s₁=>wpAny (model prog w) A (getAttr o f true) Q E s₁) E s):wpAny (model prog w) A (eval (.Attribute e f pos) env) Q E s:=
 Attribute_any_ h (by rw[arm_eval_Attribute,hb])
end
def Wbx(K:Af)(ta:TE)(f:Str):TE:=λU H Q=>ta U H λx H1=>∃a C dx fs v,x=.ref a/\H1 a=some (.ins C dx fs)/\Cls K C/\V6 K C f/\fs.lookup f=some v/\Q v H1
def Wb1(K:Af)(ta tv:TE)(f:Str):TS:=λD U H=>tv U H λy H1=>ta U H1 λx H2=>∃a C dx fs,x=.ref a/\H2 a=some (.ins C dx fs)/\Cls K C/\V6 K C f/\fs.length<1000/\
 D.nx U (upd H2 a (.ins C dx (V5 f y fs)))
section
variable {X:Cx} {o e value:Expr} {f:Str} {pos pos' tpos:Pos} {ta tv:TE}
def Jwg(he:PE X e ta)(hb:attributeBase e f X.env (eval e X.env)=eval e X.env):PE X (.Attribute e f pos) (Wbx X.K ta f):=by
 intro pins s U H Q I h;refine Jup hb (thn (he pins s U H _ I h) λu s1 q_=>?_);obtain⟨x,H1,I1,rx,a,C,dx,fs,v,ex,ea,c,n,l,q⟩:=q_;subst ex;obtain rfl:u=Aq a:=rx;exact Jkk I1 ea c n l λu' s2 I2 ru=>⟨v,H1,I2,ru,q⟩
def Jv7(ha:PE X o ta)(hv:PE X value tv)(hs:Gp value (some (.Attribute o f pos')) pos.line X.env=pure false):PS X (.Assign [.Attribute o f pos'] value pos) (Wb1 X.K ta tv f):=by
 intro pins s U H D I h;refine plainObj_wpAny_Assign_Attribute (thn (hv pins s U H _ I h) λu s1 ⟨y,H1,I1,ry,q⟩=>thn (ha pins s1 U H1 _ I1 q) λov s2 q_=>?_) hs;obtain⟨x,H2,I2,rx,a,C,dx,fs,ex,ea,c,n,l,q2⟩:=q_;subst ex;obtain rfl:ov=Aq a:=rx;exact Jj3 I2 ea c n l ry λs3 I3=>⟨U,_,I3,q2⟩
end
section
variable {X:Cx} {pins:List (Addr×Obj)} {U:St} {H:Hp} {s:Shared} {A:Bi} {E:Value->Shared->Prop} {Q:Value->Shared->Prop} {c:Value} {b:Bool}
end
structure Vq(k:Nat)(A:Bi):Prop where
 hd:A.handled=none
 dp:A.depth+3*k+5<recursionLimit
 un:A.units+16*k+200<C0
 gd:A.guards=some []
def Vq.mono(r:Vq k A)(h:j<=k):Vq j A:=⟨r.hd,by have:=r.dp;lia,by have:=r.un;lia,r.gd⟩
def Vq.deeper{A:Bi}(r:Vq (k+1) A)(env:Env):Vq k (A.deeper env):=
 ⟨r.hd,by have:=r.dp;show A.depth+1+3*k+5<_;lia,by have:=r.un;show A.units+3+16*k+200<_;lia,r.gd⟩
def Jkb{A:Bi}:(A.under (.builtin "type.__call__" ⟨.ref C::us,kw⟩)).depth=A.depth+1:=by
 first|rfl|simp[Oz,Code.weight,Code.isCreation,Code.isGuard,Code.isCaller,Code.frames,Pj,guardIds]
def Jka{A:Bi}:(A.under (.builtin "type.__call__" ⟨.ref C::us,kw⟩)).units=A.units+1:=by
 first|rfl|simp[Oz,Code.cUnits,Code.frames,Pj]
def Vq.make{A:Bi}(r:Vq (k+1) A)(C:Addr)(us:List Value)(kw:List (Str×Value)):Vq k (A.under (.builtin "type.__call__" ⟨.ref C::us,kw⟩)):=
 ⟨r.hd,by have:=r.dp;rw[Jkb];omega,by have:=r.un;rw[Jka];omega,r.gd⟩
def Vq.depth{A:Bi}(r:Vq k A):A.depth<recursionLimit:=by have:=r.dp;lia
def Vq.units{A:Bi}(r:Vq k A):A.units+64<C0:=by have:=r.un;lia
def Yh:TA:=λ_ H Q=>Q [] H
def Yj(ta:TE)(tr:TA):TA:=λU H Q=>ta U H λx H1=>tr U H1 λxs H2=>Q (x::xs) H2
section
variable {X:Cx} {e:Expr} {es:List Expr} {te:TE} {t:TA} {pos:Pos}
def Jc2:PA X [] Yh:=λ_ _ _ _ H Q I h=>Ja ⟨[],H,I,.nil,h⟩
def Ja8(ha:PE X e te)(hr:PA X es t)(hs:Bs (e::es) X.env=(false,eval e X.env)::Bs es X.env):PA X (e::es) (Yj te t):=by
 intro pos pins s U H Q I h;rw[hs];show wpAny _ _ (Ra ((false,eval e X.env)::Fg pos (Bs es X.env))) _ _ s;refine Ic (thn (ha pins s U H _ I h) λu s1 ⟨x,H1,I1,r1,q1⟩=>?_);exact thn (hr pos pins s1 U H1 _ I1 q1) λus s2 ⟨xs,H2,I2,r2,q2⟩=>⟨x::xs,H2,I2,.cons r1 r2,q2⟩
def Wbm(t:TA):TE:=λU H Q=>t U H λxs H1=>xs.length<=sizeLine/\∀p,H1 p=none->Q (.ref p) (upd H1 p (.tup xs))
def Wbs(t:TA):TE:=λU H Q=>t U H λxs H1=>xs.length<=sizeLine/\∀p,H1 p=none->Q (.ref p) (upd H1 p (.lst xs))
def Jwc{x1}(h:PA X es t):PE X (.Tuple es x1 pos) (Wbm t):=by
 intro pins s U H Q I hq;refine wpAny_Tuple_spliced (thn (h pos pins s U H _ I hq) λus s1 ⟨xs,H1,I1,r,z,q⟩=>⟨by rw[<-r.length];exact z,?_⟩);have hf:H1 s1.heap.objs.size=none:=I1.hok.fresh (Aj _);refine⟨.ref s1.heap.objs.size,upd H1 s1.heap.objs.size (.tup xs),I1.laid (t':=s1.toks) (λb u e=>Ad _ e) (Aj _) ?_,rfl,q _ hf⟩;exact⟨z,us,r,⟨_,Ak _ rfl,rfl,_,rfl⟩⟩
def Jqr(h:PA X es t):PE X (.List es pos) (Wbs t):=by
 intro pins s U H Q I hq;refine wpAny_List_spliced (thn (h pos pins s U H _ I hq) λus s1 ⟨xs,H1,I1,r,z,q⟩=>⟨by rw[<-r.length];exact z,?_⟩);have hf:H1 s1.heap.objs.size=none:=I1.hok.fresh (Aj _);refine⟨.ref s1.heap.objs.size,upd H1 s1.heap.objs.size (.lst xs),I1.laid (t':=s1.toks) (λb u e=>Ad _ e) (Aj _) ?_,rfl,q _ hf⟩;exact⟨z,us,0,r,Ak _ rfl⟩
end
abbrev Sp:=List V->Hp->VK->XK->Prop
abbrev CXT:=List Env->Hp->Shared->XK->Value->Shared->Prop
structure Xz(P:Program)(w:World)(K:Af)(mg:Str->Option Value)(base:Heap)(A:Bi)(outer:List Env)(s:Shared)(H:Hp):Prop where
 frames:A.frames=some outer
 mod:Mod K mg base
 bs:∀b o,base.get? b=some o->s.heap.get? b=some o/\H b=none
 bsz:base.objs.size<=s.heap.objs.size
 funs:s.heap.FunFrames base outer
 frf:∀b∈frs outer,H b=none
 hok:HOk P w H s.heap
 bare:Je s.gens
def CE(outer:List Env)(P:Program)(w:World)(H:Hp)(s:Shared)(Q:VK)(u:Value)(s':Shared):Prop:=
 ∃v H',s'.os=s.os/\Je s'.gens/\Un (frs outer) [] H H' s.heap s'.heap/\HOk P w H' s'.heap/\RelV v u/\Q v H'
def CR(CX:CXT)(outer:List Env)(P:Program)(w:World)(H:Hp)(s:Shared)(Q:VK)(E:XK)(r:K1)(s':Shared):Prop:=
 match r with
 |.ok (.ret u)=>CE outer P w H s Q u s'
 |.ok _=>False
 |.error e=>CX outer H s E e s'
structure FnOk(P:Program)(w:World)(K:Af)(mg:Str->Option Value)(base:Heap)(CX:CXT)(k:Nat)(f:Addr)(fd:FuncData)(ps:List Str)(sp:Sp):Prop where
 len:∀vs H Q E,sp vs H Q E->vs.length=ps.length
 run:∀(A:Bi) (outer:List Env) (s:Shared) (H:Hp) (args:Args) (us:List Value) (vs:List V) (Q:VK) (E:XK),Vq k A->Xz P w K mg base A outer s H->Vc s fd args (ps.zip us)->Vals vs us->sp vs H Q E->
  F9 (model P w) A (.call (.ref f) args) (CR CX outer P w H s Q E) s
def Xz.make{P:Program}{w:World}{K:Af}{mg:Str->Option Value}{base:Heap}{A:Bi}{outer:List Env}{s:Shared}{H:Hp}(e:Xz P w K mg base A outer s H)(C:Addr)(us:List Value)(kw:List (Str×Value)):
  Xz P w K mg base (A.under (.builtin "type.__call__" ⟨.ref C::us,kw⟩)) outer s H:=⟨by first|exact e.frames|(simpa [Oz,Code.envs,Pj,pushEnvs]using e.frames),e.mod,e.bs,e.bsz,e.funs,e.frf,e.hok,e.bare⟩
section
variable {X:Cx} {pins:List (Addr×Obj)} {U:St} {H:Hp} {s s':Shared}
def Inv.env0(I:Inv X pins U H s):Xz X.prog X.w X.K X.mg X.base X.A X.stack s H:=
 ⟨I.ok.frames,I.ok.mod,I.bs,Bl I.ok.bsz I.sz,I.stack,I.stkFree,I.hok,I.bare⟩
def Inv.after(I:Inv X pins U H s)(h:CE X.stack X.prog X.w H s Q u s'):EP X pins U Q u s':=by
 obtain⟨v,H',os,bare,un,hok,r,q⟩:=h;obtain⟨hh,g,d,t,os'⟩:=s';obtain rfl:os'=s.os:=os;exact⟨v,H',I.call (h':=hh) (g':=g) (d':=d) (t':=t) (ch:=[]) un hok bare (λb z=>absurd z (by simp)),r,q⟩
end
def Yl(sp:Sp)(dvs:List V)(E:XK)(t:TA):TE:=λU H Q=>t U H λvs H1=>sp (vs++dvs) H1 Q E
def Yi(C:Addr)(m:Str)(sp:Sp)(dvs:List V)(E:XK)(ta:TE)(t:TA):TE:=λU H Q=>ta U H λx H1=>∃a dx fs,x=.ref a/\H1 a=some (.ins C dx fs)/\fs.lookup m=none/\
 t U H1 λvs H2=>sp (x::(vs++dvs)) H2 Q E
def Wal(C:Addr)(sp:Sp)(dvs:List V)(E:XK)(t:TA):TE:=λU H Q=>t U H λvs H1=>∀x dx,H1 x=none->H1 dx=none->dx≠x->
 sp (.ref x::(vs++dvs)) (upd (upd H1 dx (.own x)) x (.ins C dx [])) (λv H2=>v=.non/\Q (.ref x) H2) E
def Binds(K:Af)(fd:FuncData)(ps:List Str)(ds:List Value):Prop:=
 ∀(s:Shared) (us:List Value),K.In s.heap->(us++ds).length=ps.length->Vc s fd ⟨us,[]⟩ (ps.zip (us++ds))
def Binds.all{K:Af}{fd:FuncData}{ps:List Str}(h:∀us:List Value,us.length=ps.length->Pz fd ⟨us,[]⟩=pure (ps.zip us)):Binds K fd ps []:=λs us _ hl=>by
 rw[Ec]at hl ⊢;exact .of_eq (h us hl)
def Wi(CX:CXT)(X:Cx)(E:XK):Prop:=∀(pins:List (Addr×Obj)) (U:St) (H:Hp) (s:Shared) (e:Value) (s':Shared),Inv X pins U H s->CX X.stack H s E e s'->X.xe e s'
section
variable {X:Cx} {CX:CXT} {k:Nat} {f C:Addr} {fd:FuncData} {ps:List Str} {sp:Sp} {dvs:List V} {ds:List Value} {E:XK} {x m:Str} {p pos apos:Pos} {e o:Expr} {es:List Expr} {ta:TE} {t:TA}
theorem Jjc(F:FnOk X.prog X.w X.K X.mg X.base CX k f fd ps sp)(hr:Vq k X.A)(hb:Binds X.K fd ps ds)(hd:Vals dvs ds)(hx:Wi CX X E)
  (I:Inv X pins U H s)(r:Vals vs us)(h:sp (vs++dvs) H Q E):wpAny (model X.prog X.w) X.A (call (.ref f) us) (EP X pins U Q) X.xe s:=by
 have r2:Vals (vs++dvs) (us++ds):=r.append hd;have hl:(us++ds).length=ps.length:=by rw[<-r2.length];exact F.len _ _ _ _ h
 refine Kw (E9 (F.run X.A X.stack s H ⟨us,[]⟩ (us++ds) (vs++dvs) Q E hr I.env0 (hb s us I.kIn hl) r2 h) λr s' hq=>?_);cases r with
 |error e=>exact hx pins U H s e s' I hq
 |ok fl=>
  cases fl with
  |ret u=>exact I.after hq
  |next=>exact Co hq
  |brk=>exact Co hq
  |cont=>exact Co hq
def Jtd(F:FnOk X.prog X.w X.K X.mg X.base CX k f fd ps sp)(hr:Vq k X.A)(hg:Gl X x)(hm:X.mg x=some (.ref f))(hk:C7 X.K (.ref f)=true)(hb:Binds X.K fd ps ds)(hd:Vals dvs ds)(hx:Wi CX X E)
  (ha:PA X (e::es) t)(hdb:(x==("__debug__":Str))=false)(he:Bs (e::es) X.env=(false,eval e X.env)::Bs es X.env)(hpl:(Fg pos (Bs es X.env)).any (·.1)=false):
  PE X (.Call (.Name x p) (e::es) [] pos) (Yl sp dvs E t):=by
 intro pins s U H Q I h;refine F0 (Jci I hg hm ?_ hdb);refine K0 (h₀:=X.base) I.ok.mod.kin hk (thn (ha pos pins s U H _ I h) λus s1 ⟨vs,H1,I1,r,q⟩=>⟨I1.kIn,?_⟩) he hpl;exact Jjc F hr hb hd hx I1 r q
def Jom(F:FnOk X.prog X.w X.K X.mg X.base CX k f fd ps sp)(hr:Vq k X.A)(hg:Gl X x)(hm:X.mg x=some (.ref f))(hk:C7 X.K (.ref f)=true)(hb:Binds X.K fd ps ds)(hd:Vals dvs ds)(hx:Wi CX X E)
  (hdb:(x==("__debug__":Str))=false):PE X (.Call (.Name x p) [] [] pos) (Yl sp dvs E Yh):=by
 intro pins s U H Q I h;refine F0 (Jci I hg hm ?_ hdb);exact Ki I.kIn hk (Jjc (us:=[]) F hr hb hd hx I .nil h)
def Jta(he:PE X o ta)(c:Cls X.K C)(hm:Meth X.K C m f)(F:FnOk X.prog X.w X.K X.mg X.base CX k f fd ps sp)(hr:Vq k X.A)(hb:Binds X.K fd ps ds)(hd:Vals dvs ds)(hx:Wi CX X E)(ha:PA X (e::es) t)
  (hst:Bs (e::es) X.env=(false,eval e X.env)::Bs es X.env)(hpl:(Fg pos (Bs es X.env)).any (·.1)=false)
  (ht:eval (.Call (.Attribute o m apos) (e::es) [] pos) X.env=(do
   let ov<-eval o X.env
   Nd apos.atName
   let(f,first)<-holding [ov] (getMethod ov m pl)
   callWith pos f first (Fg pos (Bs (e::es) X.env)) (Ni pos (Jz [] X.env)))):
  PE X (.Call (.Attribute o m apos) (e::es) [] pos) (Yi C m sp dvs E ta t):=by
 intro pins s U H Q I h;refine Ol (pl:=pl) (thn (he pins s U H _ I h) λu s1 q_=>?_) ht;obtain⟨x,H1,I1,rx,a,dx,fs,ex,ea,l,q⟩:=q_;subst ex;obtain rfl:u=Aq a:=rx;refine Jfl I1 ea c hm l ?_;refine K0 (first:=[.ref a]) (h₀:=X.base) I.ok.mod.kin hm.kp (thn (ha pos pins s1 U H1 _ I1 q) λus s2 ⟨vs,H2,I2,r,q2⟩=>⟨I2.kIn,?_⟩) hst hpl;exact Jjc (us:=.ref a::us) (vs:=.ref a::vs) F hr hb hd hx I2 (.cons rfl r) q2
def Joe(he:PE X o ta)(c:Cls X.K C)(hm:Meth X.K C m f)(F:FnOk X.prog X.w X.K X.mg X.base CX k f fd ps sp)(hr:Vq k X.A)(hb:Binds X.K fd ps ds)(hd:Vals dvs ds)(hx:Wi CX X E)
  (ht:eval (.Call (.Attribute o m apos) [] [] pos) X.env=(do
   let ov<-eval o X.env
   Nd apos.atName
   let(f,first)<-holding [ov] (getMethod ov m pl)
   callWith pos f first (Fg pos (Bs [] X.env)) (Ni pos (Jz [] X.env)))):
  PE X (.Call (.Attribute o m apos) [] [] pos) (Yi C m sp dvs E ta Yh):=by
 intro pins s U H Q I h;refine Ol (pl:=pl) (thn (he pins s U H _ I h) λu s1 q_=>?_) ht;obtain⟨x,H1,I1,rx,a,dx,fs,ex,ea,l,q⟩:=q_;subst ex;obtain rfl:u=Aq a:=rx;refine Jfl I1 ea c hm l ?_;exact Ki (first:=[.ref a]) I1.kIn hm.kp (Jjc (us:=[.ref a]) (vs:=[.ref a]) F hr hb hd hx I1 (.cons rfl .nil) q)
structure Mk(K:Af)(C f:Addr):Prop where
 makes:Mo K C=true
 init:Cf K (.ref C) "__init__"=some (some (.ref f))
 fn:Lb K (.ref f)=true
 kp:C7 K (.ref C)=true
theorem Jn0(M:Mk X.K C f)(F:FnOk X.prog X.w X.K X.mg X.base CX k f fd ps sp)(hr:Vq (k+1) X.A)(hb:Binds X.K fd ps ds)(hd:Vals dvs ds)
  (hx:Wi CX X E)(I:Inv X pins U H s)(r:Vals vs us)
  (h:∀x dx,H x=none->H dx=none->dx≠x->sp (.ref x::(vs++dvs)) (upd (upd H dx (.own x)) x (.ins C dx [])) (λv H2=>v=.non/\Q (.ref x) H2) E):
  wpAny (model X.prog X.w) X.A (call (.ref C) us) (EP X pins U Q) X.xe s:=by
 have hq:=h (s.heap.objs.size+1) s.heap.objs.size (I.hok.fresh (Jn _)) (I.hok.fresh (Aj _)) (Au (Dm _));have I2:=Inv.made (C:=C) I;have r2:Vals (V.ref (s.heap.objs.size+1)::(vs++dvs)) (Aq (s.heap.objs.size+1)::(us++ds)):=.cons rfl (r.append hd);have hl:(Aq (s.heap.objs.size+1)::us++ds).length=ps.length:=by
  have e:=r2.length;rw[F.len _ _ _ _ hq]at e;exact e.symm
 refine Kw (Jos (f:=f) I.kIn M.makes M.init (beq_iff_eq.mp M.fn) (E9 (F.run _ X.stack _ _ ⟨Aq (s.heap.objs.size+1)::us,[]⟩ (Aq (s.heap.objs.size+1)::(us++ds)) _ _ E (hr.make C us [])
  (I2.env0.make C us []) (hb _ (Aq (s.heap.objs.size+1)::us) I2.kIn hl) r2 hq) λr s' hq'=>?_))
 cases r with
 |error e=>exact hx pins U _ _ e s' I2 hq'
 |ok fl=>
  cases fl with
  |ret u=>
   obtain⟨v,H',I3,rv,ev,q3⟩:=I2.after hq';subst ev;exact⟨rv,⟨V.ref (s.heap.objs.size+1),H',I3,rfl,q3⟩⟩
  |next=>exact Co hq'
  |brk=>exact Co hq'
  |cont=>exact Co hq'
def Jof(M:Mk X.K C f)(F:FnOk X.prog X.w X.K X.mg X.base CX k f fd ps sp)(hr:Vq (k+1) X.A)(hg:Gl X x)(hm:X.mg x=some (.ref C))(hb:Binds X.K fd ps ds)(hd:Vals dvs ds)(hx:Wi CX X E)
  (hdb:(x==("__debug__":Str))=false):PE X (.Call (.Name x p) [] [] pos) (Wal C sp dvs E Yh):=by
 intro pins s U H Q I h;refine F0 (Jci I hg hm ?_ hdb);exact Ki I.kIn M.kp (Jn0 (us:=[]) M F hr hb hd hx I .nil h)
end
section
variable {X:Cx} {CX:CXT} {k:Nat} {f C:Addr} {fd:FuncData} {ps ks:List Str} {sp:Sp} {E:XK} {x m:Str} {p pos apos kpos:Pos} {e o:Expr} {es:List Expr} {kws:List U8} {te ta:TE} {t tk:TA} {nm:Option Str}
variable {g:List Value->List Value->List Value} {gV:List V->List V->List V}
end
structure FnScope(N P:List Str)(sc:Ia):Prop where
 kind:sc.kind=.function
 co:sc.isCoroutine=false
 gen:sc.isGenerator=false
 nd:N.Nodup
 pre:N.take P.length=P
 par:∀x∈P,sc.names.lookup x=some .local\/sc.names.lookup x=some .cell
 nofree:∀y∈sc.names,y.2≠ .free
theorem Jhz{kindOf:Str->Option Fb}:∀{binds:List (Str×Value)} {m:Str->Option Value},(∀v,(x,v)∉binds)->Qy kindOf binds m x=m x
 |[],_,_=>rfl
 |(n,v)::r,m,h=>by
  unfold Qy;rw[Jhz λw hw=>h w (Ax _ hw)];split
  ·have:x≠n:=by rintro rfl;exact h v Bh
   simp[this]
  ·rfl
theorem Jh1{kindOf:Str->Option Fb}:∀{binds:List (Str×Value)} {m:Str->Option Value},(∀v,(x,v)∉binds)->Qz kindOf binds m x=m x
 |[],_,_=>rfl
 |(n,v)::r,m,h=>by
  unfold Qz;rw[Jh1 λw hw=>h w (Ax _ hw)];split
  ·rfl
  ·have:x≠n:=by rintro rfl;exact h v Bh
   simp[this]
theorem Jh0{kindOf:Str->Option Fb}:∀{P:List Str} {vs:List Value} {i:Nat} {m:Str->Option Value},P.Nodup->P[i]? =some x->vs[i]? =some v->kindOf x=some .local->
  Qy kindOf (P.zip vs) m x=some v
 |[],_,_,_,_,h,_,_=>by simp at h
 |_::_,[],_,_,_,_,h,_=>by simp at h
 |p::P,w::vs,0,m,nd,h1,h2,hk=>by
  simp at h1 h2;subst h1;subst h2;show Qy kindOf ((p,w)::P.zip vs) m p=_;unfold Qy;rw[Jhz λv hv=>(Cr.mp nd).1 (M9 hv).1,if_pos hk];simp
 |p::P,w::vs,i+1,m,nd,h1,h2,hk=>by
  show Qy kindOf ((p,w)::P.zip vs) m x=_;unfold Qy;exact Jh0 (i:=i) (Cr.mp nd).2 (by simpa using h1) (by simpa using h2) hk
theorem Jh2{kindOf:Str->Option Fb}:∀{P:List Str} {vs:List Value} {i:Nat} {m:Str->Option Value},P.Nodup->P[i]? =some x->vs[i]? =some v->kindOf x≠some .local->
  Qz kindOf (P.zip vs) m x=some v
 |[],_,_,_,_,h,_,_=>by simp at h
 |_::_,[],_,_,_,_,h,_=>by simp at h
 |p::P,w::vs,0,m,nd,h1,h2,hk=>by
  simp at h1 h2;subst h1;subst h2;show Qz kindOf ((p,w)::P.zip vs) m p=_;unfold Qz;rw[Jh1 λv hv=>(Cr.mp nd).1 (M9 hv).1,if_neg hk];simp
 |p::P,w::vs,i+1,m,nd,h1,h2,hk=>by
  show Qz kindOf ((p,w)::P.zip vs) m x=_;unfold Qz;exact Jh2 (i:=i) (Cr.mp nd).2 (by simpa using h1) (by simpa using h2) hk
noncomputable def start(N:List Str)(vs:List V):St:=vs.map some++Eo (N.length-vs.length) none
noncomputable def Xx(CX:CXT)(P:Program)(w:World)(K:Af)(mg:Str->Option Value)(base:Heap)(N:List Str)(qual:Str)(scope:Ia)(f:Addr)(cd:Value)(A:Bi)(outer:List Env)(s:Shared)(H:Hp)(E:XK):Cx where
 prog:=P
 w:=w
 K:=K
 mg:=mg
 base:=base
 A:=A.deeper (Lz qual scope s.heap.objs.size f cd)
 N:=N
 s₀:=s
 H₀:=H
 env:=Lz qual scope s.heap.objs.size f cd
 outer:=outer
 stack:=Lz qual scope s.heap.objs.size f cd::outer
 ex:=[]
 calm:=true
 fn:=λ_=>true
 pn:=[]
 xe:=λe s'=>wpAny (model P w) (A.deeper (Lz qual scope s.heap.objs.size f cd)) (leaving (Lz qual scope s.heap.objs.size f cd) e) (λ_ s''=>CX outer H s E e s'') (λe' s''=>CX outer H s E e' s'') s'
def Jju{sc:Ia}(h:sc.names.lookup x=some .cell):∃c,(cellsFrom n sc.names []).lookup x=some c:=by
 have q:=N9 sc.names n [] (.inl h);exact Bw.mp q
def Jmf{CX:CXT}{P:Program}{w:World}{K:Af}{mg:Str->Option Value}{base:Heap}{N ps:List Str}{qual:Str}{scope:Ia}{f:Addr}{cd:Value}{A:Bi}{outer:List Env}{s s1:Shared}{H:Hp}{E:XK}{us:List Value}{vs:List V}
  (S:FnScope N ps scope)(hd:A.handled=none)(e0:Xz P w K mg base A outer s H)(hl:vs.length=ps.length)(r:Vals vs us)
  (x:InCallC s s.heap.objs.size (Qy (Lz qual scope s.heap.objs.size f cd).kindOf (ps.zip us) λ_=>none) (cellsFrom (s.heap.objs.size+1) scope.names []) (Qz (Lz qual scope s.heap.objs.size f cd).kindOf (ps.zip us) λ_=>none) s1):
  Inv (Xx CX P w K mg base N qual scope f cd A outer s H E) [] (start N vs) H s1:=by
 have hpl:ps.length<=N.length:=by have:=congrArg Jg S.pre;rw[Gb]at this;lia
 obtain⟨h1,tk,rfl,hk⟩:=x.done;have noA:∀b:Addr,b∉(Xx CX P w K mg base N qual scope f cd A outer s H E).ex:=λb z=>absurd (show b∈([]:List Addr)from z) (by simp);refine⟨⟨e0.mod,S.kind,rfl,rfl,Aj _,λy z c h1 h2=>?_,λy hy=>?_,λy c _ h=>?_,λ_=>hd,Around.frames_deeper e0.frames,.inr ⟨rfl,rfl⟩,λb z=>absurd z (noA b),e0.bs,e0.bsz,λb _ _=>noA b,λb z=>absurd z (noA b),e0.funs,e0.frf⟩,
  rfl,e0.bare,Un.kept hk,⟨_,x.toInCall.ns,λi y v h1 h2 h3=>?_⟩,λy c h=>⟨_,x.cell y c h⟩,e0.hok.fresh (Aj _),λy c h=>?_,λp hp=>absurd (show p∈([]:List (Addr×Obj))from hp) (by simp),e0.hok.kept hk,?_⟩
 ·exact name_of_addr x.apart (Ef h1) (Ef h2)
 ·have hy:scope.names.lookup y=some .cell\/scope.names.lookup y=some .free:=hy;rcases hy with hy|hy
  ·exact Jju hy
  ·exact absurd rfl (S.nofree _ (Ef hy))
 ·exact D6 (x.above y c (Ef h))
 ·have hi:i<vs.length:=by
   unfold start at h2
   by_cases hi:i<vs.length
   ·exact hi
   ·rw[Az (by simpa using hi)]at h2;rw[Fe]at h2;split at h2<;>cases h2
  have ha:vs[i]? =some v:=by
   unfold start at h2;rw[A0 (by simpa using hi),Ap]at h2;cases e:vs[i]? with
   |none=>rw[e]at h2;cases h2
   |some a=>rw[e]at h2;cases h2;rfl
  obtain⟨u,hu,rv⟩:=r.get ha;have hp:ps[i]? =some y:=by
   rw[<-S.pre,Gn (by lia)];exact h1
  have ndP:ps.Nodup:=by rw[<-S.pre];exact S.nd.sublist (Rx _ _)
  refine⟨u,rv,?_⟩;rcases S.par y (Ba hp)with k|k
  ·exact .inl ⟨k,Jh0 ndP hp hu k⟩
  ·obtain⟨c,e⟩:=Jju (n:=s.heap.objs.size+1) k;refine .inr ⟨.inl k,c,e,?_⟩;have q:=x.cell y c e;rw[Jh2 ndP hp hu (by show scope.names.lookup y≠_;rw[k];decide)]at q;exact q
 ·exact e0.hok.fresh (D6 (x.above y c (Ef h)))
 ·unfold start;show _=N.length;rw[Bf,Ah,Ha]
  lia
theorem Jxp{CX:CXT}{P:Program}{w:World}{K:Af}{mg:Str->Option Value}{base:Heap}{k:Nat}{f:Addr}{name qual:Str}{params:Arguments}{body:List Stmt}{scope:Ia}{dV kV doc pm cdv ct oc:Value}{an od:Option Addr}
  {osl:Array (Option Value)}{N ps:List Str}{sp:Sp}(lk:K.lookup f=some ⟨oc,od,.func (Fh name qual params body scope dV kV doc pm an cdv ct),osl⟩)(hcd:G2 K cdv qual=true)(S:FnScope N ps scope)
  (len:∀vs H Q E,sp vs H Q E->vs.length=ps.length)
  (hbody:∀(A:Bi) (outer:List Env) (s:Shared) (H:Hp) (vs:List V) (Q:VK) (E:XK),Vq k (A.deeper (Lz qual scope s.heap.objs.size f cdv))->sp vs H Q E->
   ∃t,PSs (Xx CX P w K mg base N qual scope f cdv A outer s H E) body t/\t {nx:=λ_ H'=>Q .non H',rt:=Q} (start N vs) H):
  FnOk P w K mg base CX (k+1) f (Fh name qual params body scope dV kV doc pm an cdv ct) ps sp:=by
 refine⟨len,λA outer s H args us vs Q E hr e0 hb r hsp=>?_⟩;have hl:=len _ _ _ _ hsp;have KX:K.In s.heap:=e0.mod.kin.keeps λb o e=>(e0.bs b o e).1;have lim:s.heap.NoLimit:=e0.mod.nolimit.keeps λb o e=>(e0.bs b o e).1;have hkind:∀y∈ps.zip us,scope.names.lookup y.1=some .local\/(scope.names.lookup y.1=some .cell/\((cellsFrom (s.heap.objs.size+1) scope.names []).lookup y.1).isSome=true):=λ⟨n,v⟩ hy=>by
  rcases S.par n (M9 hy).1 with q|q
  ·exact .inl q
  ·exact .inr ⟨q,N9 _ _ _ (.inl q)⟩
 refine codeAny_call_function hr.depth (KX _ _ lk) rfl S.co S.gen rfl (PySem.W.codeRec_of KX hcd) (hb _ _ _ _ ?_);refine wpAny_newFunctionEnv_cells S.kind hkind λenv he s1 x=>?_;subst he;refine⟨lim.keeps x.toInCall.keep,codeAny_func ?_⟩;obtain⟨t,ht,hq⟩:=hbody A outer s H vs Q E (hr.deeper _) hsp;have I:Inv (Xx CX P w K mg base N qual scope f cdv A outer s H E) [] (start N vs) H s1:=Jmf S hr.hd e0 hl r x;refine Bo (ht [] s1 (start N vs) H _ I hq) (λfl s' hs=>?_) λe s' hs=>hs;have fin:∀{U':St} {H':Hp} {v:V} {u:Value},Inv (Xx CX P w K mg base N qual scope f cdv A outer s H E) [] U' H' s'->RelV v u->Q v H'->CE outer P w H s Q u s':=
  λ{U' H' v u} J rv q=>⟨v,H',J.os,J.bare,J.base,J.hok,rv,q⟩
 cases fl with
 |ret u=>
  obtain⟨v,U',H',J,rv,q⟩:=hs;exact fin J rv q
 |next=>
  obtain⟨U',H',J,q⟩:=hs;exact fin (v:=V.non) (u:=Cj) J rfl q
 |brk=>
  obtain⟨_,_,_,q⟩:=hs;exact Co q
 |cont=>
  obtain⟨_,_,_,q⟩:=hs;exact Co q
section
variable {X:Cx} {x:Str} {p pos:Pos} {e:Expr} {es:List Expr} {t:TA} {id T:String} {r:List V->Hp->VK->Prop}
def tCB(r:List V->Hp->VK->Prop)(t:TA):TE:=λU H Q=>t U H λvs H1=>r vs H1 Q
def Jf3(hc:Vy X (.builtin id) r)(hg:Gl X x)(hm:X.mg x=none)(hv:C9 x=some (.builtin id))(ha:PA X (e::es) t)(hn:x≠"__name__")(hdb:(x==("__debug__":Str))=false)
  (he:Bs (e::es) X.env=(false,eval e X.env)::Bs es X.env)(hpl:(Fg pos (Bs es X.env)).any (·.1)=false):PE X (.Call (.Name x p) (e::es) [] pos) (tCB r t):=by
 intro pins s U H Q I h;refine F0 (Jcg I hg hm hv ?_ hn hdb);exact Gu (thn (ha pos pins s U H _ I h) λus s1 ⟨vs,H1,I1,r1,q1⟩=>hc pins s1 U H1 vs us Q I1 r1 q1) he hpl
def Jlr(hc:Vy X (.type T) r)(hg:Gl X x)(hm:X.mg x=none)(hv:C9 x=some (.type T))(ha:PA X (e::es) t)(hn:x≠"__name__")(hdb:(x==("__debug__":Str))=false)
  (he:Bs (e::es) X.env=(false,eval e X.env)::Bs es X.env)(hpl:(Fg pos (Bs es X.env)).any (·.1)=false):PE X (.Call (.Name x p) (e::es) [] pos) (tCB r t):=by
 intro pins s U H Q I h;refine F0 (Jcg I hg hm hv ?_ hn hdb);exact De (thn (ha pos pins s U H _ I h) λus s1 ⟨vs,H1,I1,r1,q1⟩=>hc pins s1 U H1 vs us Q I1 r1 q1) he hpl
end
end L2
namespace HT
open PySem PyProof.Rows
section
open PySem.SeqAt
open PySem.AutoSeq1 (wpAny_loadPart')
open PySem.MeetsSeq PySem.MeetsSeq2 PySem.MeetsSeq3
end
section
variable {prog:Program} {w:World} {A:Bi} {E:Value->Shared->Prop} {s:Shared}
def Jui{vs ws:List Value}{Q:Value->Shared->Prop}(ht:IsTup s.heap t vs.toArray)(hb:IsTup s.heap b ws.toArray)(hv:vs≠[])
  (h1:ws=[]->Q (.ref t) s)(h2:ws≠[]->Q (.ref s.heap.objs.size) {s with heap:=s.heap.push {cls:=.type "tuple",data:=.seq (vs++ws).toArray}})
  (hsz:vs.length+ws.length<=sizeLine):wpAny (model prog w) A (F4 .Add (.ref t) (.ref b)) Q E s:=by
 obtain⟨⟨cls,dd,data,sl⟩,ho,hc,n,hd⟩:=id ht;obtain⟨⟨cls2,dd2,data2,sl2⟩,ho2,hc2,n2,hd2⟩:=id hb;simp only at hc hd hc2 hd2;subst hc hd hc2 hd2;have e:vs.toArray++ws.toArray=(vs++ws).toArray:=by simp
 by_cases hw:ws=[]
 ·exact Ls ⟨_,ho,rfl⟩ ⟨_,ho2,rfl⟩ Ml N7 Js Jd (Ip _ _)
   (tuple_addW1 t b vs.toArray ws.toArray n n2 dd dd2 sl sl2 (by simpa using hv) (by simp[hw])) ⟨ho,ho2,h1 hw⟩
 ·refine Ls ⟨_,ho,rfl⟩ ⟨_,ho2,rfl⟩ Ml N7 Js Jd (Ip _ _)
   (tuple_addW2 t b vs.toArray ws.toArray n n2 dd dd2 sl sl2 (by simpa using hv) (by simpa using hw) (by rw[Ar,Ar];exact hsz)) ⟨ho,ho2,?_⟩
  rw[e];exact h2 hw
noncomputable def sIx(n d:Nat):Option Int->Nat
 |none=>d
 |some v=>if v<0 then(v+(n:Int)).toNat else min v.toNat n
theorem Jvp(n d:Nat)(hd:d<=n)(o:Option Int):sIx n d o<=n:=by
 cases o with
 |none=>exact hd
 |some v=>
  show(if v<0 then(v+(n:Int)).toNat else min v.toNat n)<=n
  by_cases hv:v<0
  ·rw[if_pos hv];lia
  ·rw[if_neg hv];exact Nat.min_le_right _ _
def Jm2(v:Int)(n d:Nat):(if v<0 then max (v+(n:Int)) 0 else min v (n:Int))=((sIx n d (some v):Nat):Int):=by
 show(if v<0 then max (v+(n:Int)) 0 else min v (n:Int))=(((if v<0 then(v+(n:Int)).toNat else min v.toNat n):Nat):Int)
 by_cases hv:v<0
 ·simp only[if_pos hv];lia
 ·simp only[if_neg hv];lia
def Jkp(lo hi:Option Int)(n:Nat):Hk lo hi 1 (n:Int)=(((sIx n 0 lo:Nat):Int),((sIx n n hi:Nat):Int)):=by
 have h1:¬((1:Int)<0):=by lia
 unfold Hk;simp only[h1,if_false];refine Tu ?_ ?_
 ·cases lo with
  |none=>rfl
  |some v=>exact Jm2 v n 0
 ·cases hi with
  |none=>rfl
  |some v=>exact Jm2 v n n
def Jj7(i j:Nat):Fq (i:Int) (j:Int) 1=j-i:=by
 unfold Fq;have h1:(1:Int)>0:=by lia
 simp only[h1,if_true,Int.ediv_one];split<;>lia
theorem Jff{Q:Option Int->Shared->Prop}(p:Lx v o)(h:Q o s):wpAny (model prog w) A (Builtin.Slice.slicePartIndex v) Q E s:=by
 cases p with
 |none=>exact slicePart_none h
 |int i t=>exact slicePart_int h
def Jbu{sl:Addr}{vl vu:Value}{lo hi:Option Int}{n:Nat}{Q:Int×Int×Nat->Shared->Prop}(hs:s.heap.IsSliceOf sl vl vu .none)(pl:Lx vl lo)(pu:Lx vu hi)
  (h:Q (((sIx n 0 lo:Nat):Int),1,sIx n n hi-sIx n 0 lo) s):wpAny (model prog w) A (Le (.ref sl) (pure (n:Int))) Q E s:=by
 obtain⟨os,hos,hcs,hds⟩:=id hs;unfold Le Builtin.Slice.sliceFields;refine Aa (Aa (B7 hos hds (x:=vl) rfl (Aa (B7 hos hds (x:=vu) rfl (Aa (B7 hos hds (x:=.none) rfl (Ab ?_)))))));refine Aa (slicePart_none ?_);show wpAny _ _ (if((1:Int)==0)=true then _ else _) _ _ s;rw[if_neg (by decide)];refine Aa (Jff pl (Aa (Jff pu (Aa (Ab ?_)))));show wpAny _ _ (match Hk lo hi 1 (n:Int)with|(lo,hi)=>pure (lo,(1:Int),Fq lo hi 1)) _ _ s;rw[Jkp lo hi n];show wpAny _ _ (pure (((sIx n 0 lo:Nat):Int),(1:Int),Fq ((sIx n 0 lo:Nat):Int) ((sIx n n hi:Nat):Int) 1)) _ _ s;rw[Jj7];exact Ab h
def Job(xs:Array Value)(i k:Nat):((B3 k).filterMap λ(m:Nat)=>xs[((i:Int)+(m:Int)*1).toNat]?).toArray=((xs.toList.drop i).take k).toArray:=by
 have e:(λ(m:Nat)=>xs[((i:Int)+(m:Int)*1).toNat]?)=λm=>xs[i+m]? :=by
  funext m;have:((i:Int)+(m:Int)*1).toNat=i+m:=by lia
  rw[this]
 rw[e];have:=pick_run xs i k;rw[List.filterMap_map]at this;have e2:((λx=>xs[x]?)∘λx=>i+x)=λm=>xs[i+m]? :=rfl;rw[e2]at this;rw[this]
def Jdg{t sl:Addr}{items:Array Value}{vl vu:Value}{lo hi:Option Int}{Q:Value->Shared->Prop}(ht:IsTup s.heap t items)(hs:s.heap.IsSliceOf sl vl vu .none)(pl:Lx vl lo)(pu:Lx vu hi)
  (hw:¬(sIx items.size 0 lo=0/\sIx items.size items.size hi=items.size))
  (h:Q (.ref s.heap.objs.size) {s with heap:=s.heap.push {cls:=.type "tuple",data:=.seq ((items.toList.drop (sIx items.size 0 lo)).take (sIx items.size items.size hi-sIx items.size 0 lo)).toArray}})
  (hsz:items.size<=sizeLine):wpAny (model prog w) A (Ky (.ref t) (.ref sl)) Q E s:=by
 have htake:sizeOk (.seq ((items.toList.drop (sIx items.size 0 lo)).take (sIx items.size items.size hi-sIx items.size 0 lo)).toArray):=by
  show((items.toList.drop (sIx items.size 0 lo)).take (sIx items.size items.size hi-sIx items.size 0 lo)).toArray.size<=sizeLine;rw[Ar,Gb,Jv,Bz];omega
 have hj:sIx items.size items.size hi<=items.size:=Jvp _ _ (Aj _) hi;obtain⟨os,hos,hcs,hds⟩:=id hs;have hTs:s.TypeIs (.ref sl) "slice":=⟨os,hos,hcs⟩
 unfold Ky
 try with_reducible refine Bc ?_
 first|refine Aa (Ab ?_)|skip
 refine Aa (Uz ht.typeIs (by decide) ?_);refine Aa (Bv (name:=Ac "__getitem__") ht.typeIs B9
  (Bg B9 ht.typeIs Th ?_ (Us _ _)))
 show wpAny _ _ (G9 (.ref t)>>=_) _ _ s;refine Aa (Mx ht ?_);refine Aa (Fy hTs ?_);rw[if_pos (by decide)];refine Aa (Jbu hs pl pu ?_);have hno:¬((((sIx items.size 0 lo:Nat):Int)==0&&(1:Int)==1&&(sIx items.size items.size hi-sIx items.size 0 lo)==items.size)=true):=by
  intro q;rw[Ai,Ai]at q;have q1:((sIx items.size 0 lo:Nat):Int)=0:=eq_of_beq q.1.1;have q2:sIx items.size items.size hi-sIx items.size 0 lo=items.size:=eq_of_beq q.2;exact hw ⟨by omega,by omega⟩
 show wpAny _ _ (if(((sIx items.size 0 lo:Nat):Int)==0&&(1:Int)==1&&(sIx items.size items.size hi-sIx items.size 0 lo)==items.size)=true then _ else _) _ _ s;rw[if_neg hno,Job]
 first
  |exact Aa (m:=F2 _) (Bq (Ab ⟨_,rfl,Ab h⟩) htake)
  |exact Aa (m:=F2 _) (Bq (Aa (Ab (Ab ⟨_,rfl,Ab h⟩))) htake)
  |exact Aa (Aa (m:=F2 _) (Bq (Ab (Ab ⟨_,rfl,Ab h⟩)) htake))
  |exact Aa (Aa (m:=F2 _) (Bq (Ab ⟨_,rfl,Ab h⟩) htake))
end
end HT
namespace L2
open PySem PySem.Spec PyProof.Rows
abbrev TO:=St->Hp->(Option Int->Hp->Prop)->Prop
def PO(X:Cx)(e:Option Expr)(t:TO):Prop:=
 ∀(pins:List (Addr×Obj)) (s:Shared) (U:St) (H:Hp) (Q:Option Int->Hp->Prop),Inv X pins U H s->t U H Q->
  wpAny (model X.prog X.w) X.A (evalPart e X.env) (λu s'=>∃o H',Inv X pins U H' s'/\Lx u o/\Q o H') X.xe s
def Y5:TO:=λ_ H Q=>Q none H
def Wai(t:TE):TO:=λU H Q=>t U H λx H1=>∃i,x=.int i/\Q (some i) H1
section
variable {X:Cx} {e:Expr} {te:TE} {lo hi:Option Expr} {tl th:TO} {pos p2:Pos}
def Js1:PO X none Y5:=by
 intro pins s U H Q I h;rw[evalPart_none];exact Ab ⟨none,H,I,.none,h⟩
def Js0(h:PE X e te):PO X (some e) (Wai te):=by
 intro pins s U H Q I hw;rw[evalPart_some];refine thn (h pins s U H _ I hw) λu s1 ⟨x,H1,I1,r1,q1⟩=>?_;obtain⟨i,rfl,q⟩:=q1;obtain⟨t,rfl⟩:=r1;exact⟨some i,H1,I1,.int i t,q⟩
def SlR(X:Cx)(r:V->Option Int->Option Int->Hp->VK->Prop):Prop:=
 ∀(pins:List (Addr×Obj)) (s:Shared) (U:St) (H:Hp) (x:V) (v vl vu:Value) (lo hi:Option Int) (sl:Addr) (Q:VK),Inv X pins U H s->RelV x v->s.heap.IsSliceOf sl vl vu .none->Lx vl lo->Lx vu hi->r x lo hi H Q->
  ∃T id,typeLookup (.type T) "__getitem__"=pure (some (.builtin id))/\s.TypeIs v T/\wpAny (model X.prog X.w) X.A (Ky v (.ref sl)) (EP X pins U Q) X.xe s
def tSl(r:V->Option Int->Option Int->Hp->VK->Prop)(te:TE)(tl th:TO):TE:=λU H Q=>te U H λx H1=>tl U H1 λl H2=>th U H2 λu H3=>r x l u H3 Q
def Jod{r:V->Option Int->Option Int->Hp->VK->Prop}(hr:SlR X r)(he:PE X e te)(hl:PO X lo tl)(hu:PO X hi th):PE X (.Subscript e (.Slice lo hi none p2) pos) (tSl r te tl th):=by
 intro pins s U H Q I h;refine Subscript_ (thn (he pins s U H _ I h) λv s1 ⟨x,H1,I1,r1,q1⟩=>?_);refine wpAny_Slice (thn (hl pins s1 U H1 _ I1 q1) λvl s2 ⟨l,H2,I2,pl,q2⟩=>thn (hu pins s2 U H2 _ I2 q2) λvu s3 ⟨u,H3,I3,pu,q3⟩=>?_);rw[evalPart_none];refine Ab ?_;have I4:Inv X pins U H3 {s3 with heap:=s3.heap.push {cls:=.type "slice",data:=.fields #[vl,vu,.none]}}:=I3.kept (t':=s3.toks) λb ob q=>Ad _ q;obtain⟨T,id,hT,ht,hg⟩:=hr pins {s3 with heap:=s3.heap.push {cls:=.type "slice",data:=.fields #[vl,vu,.none]}} U H3 x v vl vu l u s3.heap.objs.size Q I4 r1 (Va ..) pl pu q3;show wpAny (model X.prog X.w) X.A (subscriptTail e (.Slice lo hi none p2) v (.ref s3.heap.objs.size)) (EP X pins U Q) X.xe {s3 with heap:=s3.heap.push {cls:=.type "slice",data:=.fields #[vl,vu,.none]}};exact Lg (ops:=[.ref s3.heap.objs.size,v]) ht hT hg (by with_unfolding_all rfl)
def Xp(xs:List V)(lo hi:Option Int):List V:=(xs.drop (HT.sIx xs.length 0 lo)).take (HT.sIx xs.length xs.length hi-HT.sIx xs.length 0 lo)
def Je0(xs:List V)(lo hi:Option Int):(Xp xs lo hi).length<=xs.length:=by
 unfold Xp;rw[Gb,Jv];omega
def Wb6(K:Af):V->Option Int->Option Int->Hp->VK->Prop:=λx lo hi H Q=>∃a xs,x=.ref a/\SqT K H a xs/\
 ¬(HT.sIx xs.length 0 lo=0/\HT.sIx xs.length xs.length hi=xs.length)/\∀p,H p=none->Q (.ref p) (upd H p (.tup (Xp xs lo hi)))
def Jvm:SlR X (Wb6 X.K):=by
 intro pins s U H x v vl vu lo hi sl Q I rx hs pl pu h;obtain⟨a,xs,rfl,hx,hw,q⟩:=h;cases rx;obtain⟨its,r,ht,hz⟩:=I.tuple hx;have hlen:its.toArray.size=xs.length:=by rw[Ar];exact r.length.symm
 refine⟨"tuple",_,B9.lookup,ht.typeIs,?_⟩;refine HT.Jdg ht hs pl pu (by rw[hlen];exact hw) ?_ (by rw[hlen];exact hz);rw[hlen];refine⟨.ref s.heap.objs.size,_,I.laid (t':=s.toks) (o:=.tup (Xp xs lo hi)) (λb ob q=>Ad _ q) (Aj _) ?_,rfl,q _ (I.hok.fresh (Aj _))⟩;exact⟨Bl (Je0 xs lo hi) hz,_,(r.drop (HT.sIx xs.length 0 lo)).take (HT.sIx xs.length xs.length hi-HT.sIx xs.length 0 lo),Rr _ _⟩
def Wau(K:Af):R2:=λx y H Q=>∃a b xs ys,x=.ref a/\y=.ref b/\SqT K H a xs/\SqT K H b ys/\xs≠[]/\xs.length+ys.length<=sizeLine/\
 (ys=[]->Q (.ref a) H)/\(ys≠[]->∀p,H p=none->Q (.ref p) (upd H p (.tup (xs++ys))))
theorem Vals.nil_iff(r:Vals xs us):us=[]↔xs=[]:=by
 cases r with
 |nil=>simp
 |cons _ _=>simp
def Jth:OpR X (F4 .Add) (Wau X.K):=by
 intro pins s U H x y v u Q I rx ry h;obtain⟨a,b,xs,ys,rfl,rfl,ha,hb,hx,hz,q1,q2⟩:=h;cases rx;cases ry;obtain⟨its,r1,p1,_⟩:=I.tuple ha;obtain⟨its2,r2,p2,_⟩:=I.tuple hb;refine HT.Jui p1 p2 (λz=>hx (r1.nil_iff.mp z)) (λz=>⟨.ref a,H,I,rfl,q1 (r2.nil_iff.mp z)⟩) (λz=>?_) (by rw[<-r1.length,<-r2.length];exact hz);refine⟨.ref s.heap.objs.size,_,I.laid (t':=s.toks) (o:=.tup (xs++ys)) (λb ob q=>Ad _ q) (Aj _) ?_,rfl,q2 (λw=>z (r2.nil_iff.mpr w)) _ (I.hok.fresh (Aj _))⟩;exact⟨by rw[Bf];exact hz,_,r1.append r2,Rr _ _⟩
end
noncomputable def ixN(n:Nat)(i:Int):Option Nat:=if 0<=i then(if i<n then some i.toNat else none)else if -(n:Int)<=i then some (i+n).toNat else none
def atI{α:Type}(xs:List α)(i:Int):Option α:=(ixN xs.length i).bind λj=>xs[j]?
def Jmc(h:ixN n i=some j):seqIndex? i n=some j/\j<n/\ -(n:Int)<=i/\i<n:=by
 unfold ixN at h
 by_cases h0:0<=i
 ·rw[if_pos h0]at h
  by_cases h1:i<n
  ·rw[if_pos h1]at h;have e:i.toNat=j:=Bb h;exact⟨by rw[Si h0 h1,e],by lia,by lia,h1⟩
  ·rw[if_neg h1]at h;cases h
 ·rw[if_neg h0]at h
  by_cases h1: -(n:Int)<=i
  ·rw[if_pos h1]at h;have e:(i+n).toNat=j:=Bb h;exact⟨by rw[seqIndex_neg (by lia) h1,e],by lia,h1,by lia⟩
  ·rw[if_neg h1]at h;cases h
theorem Jnf{α:Type}{xs:List α}{i:Int}{v:α}(h:atI xs i=some v):∃j,seqIndex? i xs.length=some j/\xs[j]? =some v/\j<xs.length/\ -(xs.length:Int)<=i/\i<xs.length:=by
 unfold atI at h;cases e:ixN xs.length i with
 |none=>rw[e]at h;cases h
 |some j=>
  rw[e]at h;obtain⟨h1,h2,h3,h4⟩:=Jmc e;exact⟨j,h1,h,h2,h3,h4⟩
def X7(b:Expr):Prop:=∀o i,subscripted b false o i=operate [o,i] (Ky o i)
def IxR(X:Cx)(r:R2):Prop:=
 ∀(value slice:Expr) (pins:List (Addr×Obj)) (s:Shared) (U:St) (H:Hp) (x y:V) (v u:Value) (Q:VK),Inv X pins U H s->RelV x v->RelV y u->r x y H Q->
  subscripted slice false v u=operate [v,u] (Ky v u)->wpAny (model X.prog X.w) X.A (subscriptTail value slice v u) (EP X pins U Q) X.xe s
def MtR(X:Cx)(id:String)(r:V->List V->Hp->VK->Prop):Prop:=
 ∀(pins:List (Addr×Obj)) (s:Shared) (U:St) (H:Hp) (x:V) (xs:List V) (v:Value) (us:List Value) (Q:VK),Inv X pins U H s->RelV x v->Vals xs us->r x xs H Q->
  wpAny (model X.prog X.w) X.A (call (.builtin id) (v::us)) (EP X pins U Q) X.xe s
section
variable {X:Cx} {a b:Expr} {ta tb:TE} {pos:Pos}
def Jy7(hr:IxR X r)(ha:PE X a ta)(hb:PE X b tb)(hs:X7 b):PE X (.Subscript a b pos) (tOp r ta tb):=by
 intro pins s U H Q I h;exact Subscript_ (Wab ha hb I h λv u s2 x y H2 I2 rx ry q=>hr a b pins s2 U H2 x y v u Q I2 rx ry q (hs _ _))
def Wca(K:Af):R2:=λx y H Q=>∃p xs i v,x=.ref p/\y=.int i/\SqL K H p xs/\atI xs i=some v/\Q v H
def Wb9(K:Af):R2:=λx y H Q=>∃p xs i v,x=.ref p/\y=.int i/\SqT K H p xs/\atI xs i=some v/\Q v H
def Jtv:IxR X (Wca X.K):=by
 intro value slice pins s U H x y v u Q I rx ry h hs;obtain⟨p,xs,i,z,rfl,rfl,hq,he,q⟩:=h;cases rx;obtain⟨t,rfl⟩:=ry;obtain⟨its,r,pl,hz⟩:=I.list hq;obtain⟨j,h1,h2,h3,h4,h5⟩:=Jnf he;obtain⟨w,ew,rw'⟩:=r.get h2;have hl:=r.length;have hn:=Jhh;have fin:EP X pins U Q w s:=⟨z,H,I,rw',q⟩
 by_cases h0:0<=i
 ·have hj:i.toNat=j:=by
   rw[Si h0 h5]at h1;exact Bb h1
  exact item_listR pl.isList h0 (by lia) (by rw[hj];simpa using ew) fin hs
 ·have hj:(i+(its.toArray.size:Int)).toNat=j:=by
   rw[seqIndex_neg (by lia) h4]at h1;rw[Ar,<-hl];exact Bb h1
  exact Rq (x:=w) pl.isList.typeIs U2.lookup
   (wpAny_getItem_list_neg (Q:=λr s'=>r=w/\EP X pins U Q r s') pl.isList (by lia) (by rw[Ar]<;>lia) (by lia) (by rw[hj];simpa using ew) ⟨rfl,fin⟩) hs
def Jxb:IxR X (Wb9 X.K):=by
 intro value slice pins s U H x y v u Q I rx ry h hs;obtain⟨p,xs,i,z,rfl,rfl,hq,he,q⟩:=h;cases rx;obtain⟨t,rfl⟩:=ry;obtain⟨its,r,pl,hz⟩:=I.tuple hq;obtain⟨j,h1,h2,h3,h4,h5⟩:=Jnf he;obtain⟨w,ew,rw'⟩:=r.get h2;have hl:=r.length;have hn:=Jhh;have fin:EP X pins U Q w s:=⟨z,H,I,rw',q⟩
 exact Rq (x:=w) pl.typeIs B9.lookup
  (getItem_tuple (j:=j) (Q:=λr s'=>r=w/\EP X pins U Q r s') pl (by lia) (by lia) (by rw[Ar,<-hl];exact h1) (by simpa using ew) ⟨rfl,fin⟩) hs
def Jj9(its:List Value)(n j:Nat)(u:Value):Ds (·.setIfInBounds j u) {cls:=.type "list",data:=.seq its.toArray n}={cls:=.type "list",data:=.seq (its.set j u).toArray n}:=by
 simp[Ds]
inductive InvM (s:Shared) (p:Addr) (xs:List V):Prop
 |mk (its:List Value) (n:Nat) (_:Vals xs its) (_:s.heap.get? p=some {cls:=.type "list",data:=.seq its.toArray n}) (_:xs.length<=sizeLine):InvM s p xs
def Inv.lst(I:Inv X pins U H s)(h:H p=some (.lst xs)):InvM s p xs:=by
 obtain⟨z,its,n,r,e⟩:=I.hok p _ h;exact⟨its,n,r,e,z⟩
def Inv.lstUpd{s:Shared}{ys:List V}{its its':List Value}{f:Obj->Obj}(I:Inv X pins U H s)(h:H p=some (.lst xs))
  (ho:s.heap.get? p=some {cls:=.type "list",data:=.seq its.toArray n})(hf:f {cls:=.type "list",data:=.seq its.toArray n}={cls:=.type "list",data:=.seq its'.toArray n'})(r:Vals ys its')(hz:ys.length<=sizeLine)(t:Nat):
  Inv X pins U (upd H p (.lst ys)) {s with heap:=s.heap.update p f,toks:=t}:=by
 have e:(s.heap.update p f).get? p=some {cls:=.type "list",data:=.seq its'.toArray n'}:=by
  rw[Cw f ho (by rw[hf]<;>rfl),hf]
 refine I.write (x:=p) (e:=p) (by rw[h];trivial) (.inl rfl) (λb u hb q=>(Ej _ _ (Df hb)).trans q) ⟨_,e⟩ ?_;exact⟨hz,its',n',r,e⟩
def Wat:V->V->V->Hp->(Hp->Prop)->Prop:=λo i v H Q=>∃p xs k j,o=.ref p/\i=.int k/\H p=some (.lst xs)/\ixN xs.length k=some j/\Q (upd H p (.lst (xs.set j v)))
def set_list:Wac X Wat:=by
 intro pins s U H o i v ov iv u Q I ro ri rv h;obtain⟨p,xs,k,j,rfl,rfl,hp,hj,q⟩:=h;cases ro;obtain⟨t,rfl⟩:=ri;obtain⟨its,n,r,ho,hz⟩:=I.lst hp;obtain⟨h1,h2,h3,h4⟩:=Jmc hj;have hl:=r.length;have hn:=Jhh;have I':Inv X pins U (upd H p (.lst (xs.set j v))) {s with heap:=s.heap.update p (Ds (·.setIfInBounds j u))}:=
  I.lstUpd hp ho (Jj9 its n j u) (r.set rv j) (by rw[Dt];exact hz) s.toks
 by_cases h0:0<=k
 ·have hk:k.toNat=j:=by
   rw[Si h0 h4]at h1;exact Bb h1
  exact PySem.W.ki_setAt ho h0 (by lia) (by rw[Ar,<-hl];exact h4) (by rw[hk];exact⟨_,I',q⟩)
 ·have hk:(k+(its.toArray.size:Int)).toNat=j:=by
   rw[seqIndex_neg (by lia) h3]at h1;rw[Ar,<-hl];exact Bb h1
  exact PySem.W.ki_setBack ho (by lia) (by rw[Ar,<-hl];exact h3) (by lia) (by rw[hk];exact⟨_,I',q⟩)
def Jg7(lo hi:Option Int)(n:Nat):(Hz lo hi none n).1=((HT.sIx n 0 lo:Nat):Int)/\(Hz lo hi none n).2.1=((HT.sIx n n hi:Nat):Int)/\(Hz lo hi none n).2.2=1:=by
 refine⟨?_,?_,rfl⟩
 ·cases lo with
  |none=>simp[Hz,HT.sIx]
  |some i=>
   simp only[Hz,HT.sIx,Q3,show(1:Int)>0 by decide,if_true]
   by_cases h:i<0
   ·simp only[h,if_true]<;>lia
   ·simp only[h,if_false]<;>lia
 ·cases hi with
  |none=>simp[Hz,HT.sIx]
  |some i=>
   simp only[Hz,HT.sIx,Q3,show(1:Int)>0 by decide,if_true]
   by_cases h:i<0
   ·simp only[h,if_true]<;>lia
   ·simp only[h,if_false]<;>lia
theorem Jfx(its:List Value)(lo hi:Option Int):slicePick its.toArray lo hi none=((its.drop (HT.sIx its.length 0 lo)).take (HT.sIx its.length its.length hi-HT.sIx its.length 0 lo)).toArray:=by
 obtain⟨h1,h2,h3⟩:=Jg7 lo hi its.toArray.size;unfold slicePick;rw[h1,h2,h3];simp only[sliceRange_one,pick_run,Ar]<;>rfl
def Wb7(K:Af):V->Option Int->Option Int->Hp->VK->Prop:=λx lo hi H Q=>∃a xs,x=.ref a/\SqL K H a xs/\∀p,H p=none->Q (.ref p) (upd H p (.lst (Xp xs lo hi)))
def Jle:SlR X (Wb7 X.K):=by
 intro pins s U H x v vl vu lo hi sl Q I rx hs pl pu h;obtain⟨a,xs,rfl,hx,q⟩:=h;cases rx;obtain⟨its,r,ht,hz⟩:=I.list hx;have hlen:=r.length;refine⟨"list",_,U2.lookup,ht.isList.typeIs,?_⟩;refine wpAny_getItem_list_slice ht.isList hs pl pu .none (by simp) ?_ (by rw[Ar]<;>lia);rw[Jfx,<-hlen];refine⟨.ref s.heap.objs.size,_,I.laid (t':=s.toks) (o:=.lst (Xp xs lo hi)) (λb ob q=>Ad _ q) (Aj _) ?_,rfl,q _ (I.hok.fresh (Aj _))⟩;exact⟨Bl (Je0 xs lo hi) hz,_,0,(r.drop (HT.sIx xs.length 0 lo)).take (HT.sIx xs.length xs.length hi-HT.sIx xs.length 0 lo),Ak _ rfl⟩
noncomputable def W7:V->Bool
 |.non=>true
 |.bl _=>true
 |.int _=>true
 |.str _=>true
 |_=>false
noncomputable def eqV:V->V->Bool
 |.non,.non=>true
 |.bl a,.bl b=>a==b
 |.bl a,.int b=>(if a then 1 else 0)==b
 |.int a,.bl b=>a==(if b then 1 else 0)
 |.int a,.int b=>a==b
 |.str a,.str b=>a==b
 |_,_=>false
theorem Jxr(ry:RelV y u)(rx:RelV x v)(fy:W7 y=true)(fx:W7 x=true):Fm A s u v (eqV y x):=by
 cases y with
 |non=>
  cases ry;cases x with
  |non=>cases rx;exact Lk _
  |bl b=>cases rx;exact SeqAt.EqAt.none_bool b
  |int b=>obtain⟨t,rfl⟩:=rx;exact SeqAt.EqAt.none_int b t
  |str b=>obtain⟨t,rfl⟩:=rx;exact SeqAt.EqAt.none_str b t
  |_=>exact fx9 (show false=true from fx)
 |bl a=>
  cases ry;cases x with
  |non=>cases rx;exact SeqAt.EqAt.bool_none a
  |bl b=>cases rx;exact SeqAt.EqAt.bool_bool a b
  |int b=>obtain⟨t,rfl⟩:=rx;exact SeqAt.EqAt.bool_int a b t
  |str b=>obtain⟨t,rfl⟩:=rx;exact SeqAt.EqAt.bool_str a b t
  |_=>exact fx9 (show false=true from fx)
 |int a=>
  obtain⟨t',rfl⟩:=ry;cases x with
  |non=>cases rx;exact SeqAt.EqAt.int_none a t'
  |bl b=>cases rx;exact SeqAt.EqAt.int_bool a t' b
  |int b=>obtain⟨t,rfl⟩:=rx;exact SeqAt.EqAt.int_int a t' b t
  |str b=>obtain⟨t,rfl⟩:=rx;exact Ou a t' b t
  |_=>exact fx9 (show false=true from fx)
 |str a=>
  obtain⟨t',rfl⟩:=ry;cases x with
  |non=>cases rx;exact SeqAt.EqAt.str_none a t'
  |bl b=>cases rx;exact SeqAt.EqAt.str_bool a t' b
  |int b=>obtain⟨t,rfl⟩:=rx;exact Oq a t' b t
  |str b=>obtain⟨t,rfl⟩:=rx;exact SeqAt.EqAt.str_str a t' b t
  |_=>exact fx9 (show false=true from fx)
 |_=>exact fx9 (show false=true from fy)
def Jhv:Vy X (.builtin "len") (λxs H Q=>∃p ys,xs=[.ref p]/\(SqL X.K H p ys\/SqT X.K H p ys)/\Q (.int ys.length) H):=by
 intro pins s U H xs us Q I r h;obtain⟨p,ys,rfl,hq,q⟩:=h;obtain⟨u,rfl,rx⟩:=vals1 r;cases rx;have hn:=Jhh;rcases hq with hq|hq
 ·obtain⟨its,r',pl,hz⟩:=I.list hq;have hlen:=r'.length;exact Calls.call_len_list pl.isList (by simp only[Ar]<;>lia) ⟨.int ys.length,H,I.tok _,⟨s.toks+1,by rw[Ar,hlen]⟩,q⟩
 ·obtain⟨its,r',pl,hz⟩:=I.tuple hq;have hlen:=r'.length;exact len_tuple pl (by simp only[Ar]<;>lia) ⟨.int ys.length,H,I.tok _,⟨s.toks+1,by rw[Ar,hlen]⟩,q⟩
def Jhu:Vy X (.type "list") (λxs H Q=>∃p ys,xs=[.ref p]/\(SqL X.K H p ys\/SqT X.K H p ys)/\∀l,H l=none->Q (.ref l) (upd H l (.lst ys))):=by
 intro pins s U H xs us Q I r h;obtain⟨p,ys,rfl,hq,q⟩:=h;obtain⟨u,rfl,rx⟩:=vals1 r;cases rx;have fin:∀(its:List Value),Vals ys its->ys.length<=sizeLine->∀(h':Heap) (c':Nat),(∀b o',s.heap.get? b=some o'->h'.get? b=some o')->
   h'.get? s.heap.objs.size=some {cls:=.type "list",dict:=none,data:=.seq its.toArray c',slots:= #[]}->EP X pins U Q (.ref s.heap.objs.size) {s with heap:=h'}:=λits r' hz h' c' kp e=>
  ⟨.ref s.heap.objs.size,_,I.laid (t':=s.toks) kp (Aj _) (show Vj X.prog X.w _ h' _ (.lst ys)from⟨hz,its,c',r',e⟩),rfl,q _ (I.hok.fresh (Aj _))⟩
 rcases hq with hq|hq
 ·obtain⟨its,r',pl,hz⟩:=I.list hq;have hlen:=r'.length;obtain⟨o,ho,hc,n,hd⟩:=pl.isList;exact call_list_seq p (.inl rfl) ho hc hd (λh' c' kp e=>fin its r' hz h' c' kp e) (by simp only[Ar]<;>lia)
 ·obtain⟨its,r',pl,hz⟩:=I.tuple hq;have hlen:=r'.length;obtain⟨o,ho,hc,n,hd⟩:=pl;exact call_list_seq p (.inr rfl) ho hc hd (λh' c' kp e=>fin its r' hz h' c' kp e) (by simp only[Ar]<;>lia)
def Jgm:Vy X (.type "tuple") (λxs H Q=>∃p ys,xs=[.ref p]/\((SqL X.K H p ys/\∀l,H l=none->Q (.ref l) (upd H l (.tup ys)))\/(SqT X.K H p ys/\Q (.ref p) H))):=by
 intro pins s U H xs us Q I r h;obtain⟨p,ys,rfl,h⟩:=h;obtain⟨u,rfl,rx⟩:=vals1 r;cases rx;rcases h with⟨hq,q⟩|⟨hq,q⟩
 ·obtain⟨its,r',pl,hz⟩:=I.list hq;have hlen:=r'.length;refine call_tuple_list pl.isList (λh' kp=>?_) (by simp only[Ar]<;>lia);have I1:Inv X pins U H {s with heap:=h'}:=I.kept (t':=s.toks) kp;have I2:Inv X pins U (upd H h'.objs.size (.tup ys)) {s with heap:=h'.push {cls:=.type "tuple",data:=.seq its.toArray}}:=
   I1.laid (t':=s.toks) (λb o e=>Ad _ e) (Aj _) (show Vj X.prog X.w _ _ _ (.tup ys)from⟨hz,its,r',Rr _ _⟩)
  exact⟨.ref h'.objs.size,_,I2,rfl,q _ (I1.hok.fresh (Aj _))⟩
 ·obtain⟨its,r',pl,hz⟩:=I.tuple hq;exact call_tuple_same pl ⟨.ref p,H,I,rfl,q⟩
variable {o e:Expr} {es:List Expr} {to:TE} {t:TA} {name:Str} {apos cpos:Pos} {T id:String} {r:V->List V->Hp->VK->Prop}
end
def MtM(X:Cx)(id:String)(r:V->List V->Hp->VK->Prop):Prop:=
 ∀(pins:List (Addr×Obj)) (s:Shared) (U:St) (H:Hp) (x:V) (xs:List V) (v:Value) (us:List Value) (Q:VK),Inv X pins U H s->RelV x v->Vals xs us->r x xs H Q->
  wpAny (model X.prog X.w) X.A (call (.builtin id) (v::us)) (EP X pins U Q) X.xe s
def Vals.one(h:Vals [x] us):∃u,us=[u]/\RelV x u:=by
 cases h with|cons r t=>cases t;exact⟨_,rfl,r⟩
theorem Vals.zero:∀{us:List Value},Vals [] us->us=[]
 |_,.nil=>rfl
theorem Vals.dropLast{xs:List V}{us:List Value}(h:Vals xs us):Vals xs.dropLast us.dropLast:=by
 induction h with
 |nil=>exact .nil
 |cons r t ih=>
  cases t with
  |nil=>exact .nil
  |cons q t'=>exact .cons r ih
theorem Jkl{α:Type}(l:List α):l.eraseIdx (l.length-1)=l.dropLast:=by
 induction l with
 |nil=>rfl
 |cons a r ih=>
  cases r with
  |nil=>rfl
  |cons b r=>
   have e:(a::b::r).length-1=((b::r).length-1)+1:=by
    have h1:(a::b::r).length=r.length+2:=rfl;have h2:(b::r).length=r.length+1:=rfl
    lia
   rw[e,Pc,ih]
   all_goals rfl
section
variable {X:Cx} {pins:List (Addr×Obj)} {U:St} {H:Hp} {s:Shared} {l b:Addr} {xs ys zs:List V}
def Inv.lset{its its':List Value}{f:Array Value->Array Value}(I:Inv X pins U H s)(hH:H l=some (.lst xs))
  (e:s.heap.get? l=some {cls:=.type "list",data:=.seq its.toArray n})(hf:f its.toArray=its'.toArray)(hv:Vals ys its')(hz:ys.length<=sizeLine):
  Inv X pins U (upd H l (.lst ys)) {s with heap:=s.heap.update l (Ds f),toks:=t'}:=by
 have q:=PySem.IsL.update e f;rw[hf]at q;refine I.write (x:=l) (e:=l) (by rw[hH];exact trivial) (.inl rfl) (λb' u hb hu=>(Ej s.heap (Ds f) (Df hb)).trans hu) ⟨_,q⟩ ?_;exact⟨hz,its',_,hv,q⟩
def Inv.lnew{its:List Value}(I:Inv X pins U H s)(hv:Vals ys its)(hz:ys.length<=sizeLine):
  Inv X pins U (upd H s.heap.objs.size (.lst ys)) {s with heap:=s.heap.push {cls:=.type "list",data:=.seq its.toArray},toks:=t'}:=
 I.laid (λ_ _ q=>Ad _ q) (Aj _) ⟨hz,its,0,hv,Ak _ rfl⟩
def Inv.fresh(I:Inv X pins U H s):H s.heap.objs.size=none:=I.hok.fresh (Aj _)
def Inv.lstM(I:Inv X pins U H s)(hH:H l=some (.lst xs)):xs.length<=sizeLine/\∃(its:List Value) (n:Nat),Vals xs its/\xs.length=its.length/\s.heap.get? l=some {cls:=.type "list",data:=.seq its.toArray n}:=by
 obtain⟨z,its,n,r,e⟩:=I.hok l _ hH;exact⟨z,its,n,r,r.length,e⟩
end
section
variable {X:Cx}
def Y7:V->List V->Hp->VK->Prop:=λx vs H Q=>∃l xs y,x=.ref l/\vs=[y]/\H l=some (.lst xs)/\xs.length<sizeLine/\Q .non (upd H l (.lst (xs++[y])))
def Jl0:MtM X "list.append" Y7:=by
 intro pins s U H x vs v us Q I rx rv h;obtain⟨l,xs,y,rfl,rfl,hH,hz,q⟩:=h;cases rx;obtain⟨u,rfl,ru⟩:=rv.one;obtain⟨z,its,n,r,hl,e⟩:=I.lstM hH;refine Py P4 ⟨_,e,rfl⟩ F.entry_list_append (F.args_list_append_2 _ _) (PySem.list_append l its.toArray n u (by rw[Ar];lia)) ⟨e,?_⟩;refine⟨.non,_,I.lset (its':=its++[u]) hH e (by simp) (r.append (.cons ru .nil)) ?_,rfl,q⟩;rw[Bf,Dy]
 lia
def Wb8:V->List V->Hp->VK->Prop:=λx vs H Q=>∃l xs y,x=.ref l/\vs=[]/\H l=some (.lst xs)/\xs[xs.length-1]? =some y/\Q y (upd H l (.lst xs.dropLast))
def Jwx:MtM X "list.pop" Wb8:=by
 intro pins s U H x vs v us Q I rx rv h;obtain⟨l,xs,y,rfl,rfl,hH,hy,q⟩:=h;cases rx;have hus:=rv.zero;subst hus;obtain⟨z,its,n,r,hl,e⟩:=I.lstM hH;obtain⟨u,hu,ru⟩:=r.get hy;have hy':its.toArray[its.toArray.size-1]? =some u:=by
  show its.toArray[its.length-1]? =some u;rw[<-Dx,<-hl];exact hu
 refine Py Q2 ⟨_,e,rfl⟩ F.entry_list_pop (F.args_list_pop_1 _) (MeetsSeq.list_pop_last l its.toArray n u hy' (by rw[Ar];omega)) ⟨e,?_⟩;refine⟨y,_,I.lset (its':=its.dropLast) hH e ?_ r.dropLast ?_,ru,q⟩
 ·show its.toArray.eraseIdxIfInBounds (its.toArray.size-1)=its.dropLast.toArray;rw[Ar,List.eraseIdxIfInBounds_toArray,Jkl]
 ·rw[List.length_dropLast];omega
def Wcb:R2:=λx y H Q=>∃l b xs zs,x=.ref l/\y=.ref b/\H l=some (.lst xs)/\H b=some (.lst zs)/\xs.length+zs.length<=sizeLine/\∀p,H p=none->Q (.ref p) (upd H p (.lst (xs++zs)))
def Jwo:OpR X (F4 .Add) Wcb:=by
 intro pins s U H x y v u Q I rx ry h;obtain⟨l,b,xs,zs,rfl,rfl,hH,hB,hz,q⟩:=h;cases rx;cases ry;obtain⟨z,its,n,r,hl,e⟩:=I.lstM hH;obtain⟨z2,its2,n2,r2,hl2,e2⟩:=I.lstM hB;refine PySem.P.add_list e e2 ?_ (by rw[Ar,Ar];lia);have ea:its.toArray++its2.toArray=(its++its2).toArray:=by simp
 rw[ea];exact⟨.ref _,_,I.lnew (t':=s.toks) (r.append r2) (by rw[Bf];lia),rfl,q _ I.fresh⟩
end
section
variable {prog:Program} {w:World} {A:Bi} {E:Value->Shared->Prop} {s:Shared}
set_option maxRecDepth 100000 in
end
section
variable {X:Cx}
end
end L2
namespace Att
open PySem PySem.W PySem.Calls PyProof.Rows
theorem Jev:∀(ns:List Int) (vs:List Value),WellAll P h vs (ns.map WData.int)->Rt vs ns:=by
 intro ns
 induction ns with
 |nil=>
  intro vs w;rw[Ga]at w;cases w;exact .nil
 |cons n ns ih=>
  intro vs w;rw[Ay]at w;cases w with
  |cons a b=>
   cases a;exact .cons _ _ (ih _ b)
theorem Jlg{l:Ji}(hn:l.most=some n){h:Heap}
  (hpre:l.row.toRowW.claim.pre args=true)(hwl:WellAll P h vals args):
  ∃a vs ns,vals=[Aq a]/\args=[WData.list (ns.map WData.int)]/\h.get? a=some {cls:=.type "list",data:=.seq vs.toArray}/\Rt vs ns/\ns.length<=n:=by
 have hsh:WShape.hasAll [] args [.list .int]=true:=(pre_splitW hpre).1;have hc:l.pre.holds [] {args:=args}=true:=(pre_splitW hpre).2;obtain⟨d,r,rfl,h1,h2⟩:=hasAllW_cons hsh;obtain rfl:=hasAllW_nil h2;obtain⟨xs,rfl,h3⟩:=hasW_list h1;obtain⟨ns,rfl⟩:=items_int h3;have hlen:ns.length<=n:=by
  unfold OpenLaw.pre at hc;have h4:(WTm.not (.lt (.lit (.int (n:Int))) (.len (.arg 0)))).holds [] {args:=[.list (ns.map .int)]}=true:=by
   have h4:=(holds_andW hc).1;rw[hn]at h4;exact h4
  have h5:=condW_of h4 (w_not (w_lt w_lit (w_len_list (w_arg rfl))));rw[Ah]at h5;refine Nat.le_of_not_lt λq=>?_;have q':(n:Int)<((ns.length:Nat):Int):=by omega
  first
   |(rw[decide_eq_true q']at h5;exact absurd h5 (by decide))
   |(simp at h5;omega)
 cases hwl with
 |cons w1 w2=>
  cases w2;cases w1 with
  |list ho hall=>exact⟨_,_,ns,rfl,rfl,ho,Jev ns _ hall,hlen⟩
theorem Jlm(l:Ji)(args:List WData):l.row.toRowW.claim.post args (.bool true) args=true:=
 postW_of (r:=l.row.toRowW) (X:=(true==true))
  (show U5 [] (.bool true) .bool=true by first|rfl|decide|simp[U5,WShape.arms,WShape.armsAll])
  (show(WTm.eq .res (.lit (.bool true))).value [] {args:=args,res:=some (.bool true),after:=args}=some (.bool (true==true))from w_eq_bool (w_res rfl) w_lit) rfl
def Ji3{l:Ji}{XP:(Str->Option Value)->Heap->Prop}{YP:World->Heap->Prop}{d:Ur}
  (hn:l.most=some n)(hdf:d.params.defaults=[])
  (call:∀(w:World) (s₀ s₁:Shared) (mg mb:Str->Option Value) (fa:Addr) (o:Obj) (pm cd doc:Value) (a:Addr) (vs:List Value) (ns:List Int),
   Ground q loose [] XP w s₀ mg mb s₁.heap->YP w s₁.heap->
   s₁.heap.get? fa=some o->o.data=.func (docDef d.name d.params d.body d.scope pm cd doc)->s₁.heap.CodeRec cd d.name->mg d.name=some (.ref fa)->
   s₁.heap.get? a=some {cls:=.type "list",data:=.seq vs.toArray}->Rt vs ns->ns.length<=n->s₁.gens= #[]->
   F9 (model l.prog w) L9 (.call (.ref fa) ⟨[.ref a],[]⟩) (λr s'=>r=.ok (.ret (.bool true))/\OldK s₁.heap s'.heap/\s'.os=s₁.os/\Je s'.gens) s₁):
  Mv q loose XP YP l.row.toRowW d [] (λf vs=>Nh f vs):=by
 intro w s₀ s₁ mg mb G Y fa o pm cd doc dV kV ho hd hcd hD hmg hg args vals as hpre hlay hrd hwl hlo;obtain rfl:dV=.none:=Dflts.none hD hdf;obtain rfl:kV=.none:=Dflts.noKw hD;obtain⟨a,vs,ns,rfl,rfl,hobj,hints,hlen⟩:=Jlg hn hpre hwl;refine enter_call (E9 (call w s₀ s₁ mg mb fa o pm cd doc a vs ns G Y ho (fd_plain hd) hcd hmg hobj hints hlen hg) λr s' hq=>?_);obtain⟨rfl,h2,h3,h4⟩:=hq;exact⟨.inl ⟨.bool true,.bool true,[],rfl,λ_=>rfl,.bool true,Jlm l _,λ_=>⟨N2,λ_ hm=>(nomatch hm)⟩⟩,h2,h3,h4⟩
section
variable {prog:Program} {w:World} {A:Bi} {E:Value->Shared->Prop} {s:Shared} {K:Frag}
end
end Att
namespace L2
open PySem PySem.Spec PyProof.Rows
theorem Jgz:∀{vs:List Value} {ns:List Int},Rt vs ns->Vals (ns.map V.int) vs
 |_,_,.nil=>.nil
 |_,_,.cons n t h=>.cons ⟨t,rfl⟩ (Jgz h)
def Zh(H:Hp):Prop:=∀b,H b=none\/∃o xs,H b=some (.frz o (.lst xs))
theorem Joz{K:Af}{mg mb:Str->Option Value}{x:Str}{s₁:Shared}{vs:List Value}{ns:List Int}
  (KX:K.In s₁.heap)(hns:s₁.heap.Ns A7 mg)(hb:s₁.heap.Ns Ug mb)(hbb:∀x:Str,x≠"__name__"->mb x=C9 x)(hlim:s₁.heap.NoLimit)(hg:s₁.gens= #[])
  (ha:s₁.heap.get? a=some {cls:=.type "list",data:=.seq vs.toArray})(hi:Rt vs ns)(hl:ns.length<=sizeLine)(hr:Vq k L9)
  (F:∀base:Heap,K.In base->base.Ns A7 mg->FnOk P w K mg base CX k fa fd [x] sp)(hbind:∀(s:Shared) (u:Value),Vc s fd ⟨[u],[]⟩ [(x,u)])
  (hsp:∀H:Hp,Zh H->SqL K H a (ns.map V.int)->sp [.ref a] H (λv _=>v=.bl true) λ_ _ _=>False)
  (hCX:∀H e s',CX [] H s₁ (λ_ _ _=>False) e s'->False):
  F9 (model P w) L9 (.call (.ref fa) ⟨[.ref a],[]⟩) (λr s'=>r=.ok (.ret (.bool true))/\OldK s₁.heap s'.heap/\s'.os=s₁.os/\Je s'.gens) s₁:=by
 have rv:=Jgz hi;have lenV:=hi.length;have core:∀H:Hp,Zh H->SqL K H a (ns.map V.int)->HOk P w H s₁.heap->(∀b,H b≠none->b=a)->(H a≠none->K.lookup a=none)->
   F9 (model P w) L9 (.call (.ref fa) ⟨[.ref a],[]⟩) (λr s'=>r=.ok (.ret (.bool true))/\OldK s₁.heap s'.heap/\s'.os=s₁.os/\Je s'.gens) s₁:=by
  intro H hO hS hok hA hK;have Je2:∀{b:Addr} {o:Obj},s₁.heap.get? b=some o->H b=none->(Xj s₁.heap H).get? b=some o:=λe n=>Jpf e n;have noA:∀{b:Addr} {o:Obj} {es:Array Cg} {ep:Nat},s₁.heap.get? b=some o->o.data=.dict es ep->H b=none:=λ{b o es ep} e d=>by
   cases q:H b with
   |none=>rfl
   |some u=>
    have e':b=a:=hA b (by rw[q];simp);subst e';rw[ha]at e;cases e;have d':Data.seq vs.toArray _=Data.dict es ep:=d;cases d'
  have nsK:∀{b:Addr} {m:Str->Option Value},s₁.heap.Ns b m->(Xj s₁.heap H).Ns b m:=λ{b m} ⟨o,es,ep,e,d,r⟩=>⟨o,es,ep,Je2 e (noA e d),d,r⟩
  have hKb:K.In (Xj s₁.heap H):=λb o e=>Je2 (KX b o e) (by
   cases q:H b with
   |none=>rfl
   |some u=>
    have e':b=a:=hA b (by rw[q];simp);subst e';rw[hK (by rw[q];simp)]at e;cases e)
  have hM:Mod K mg (Xj s₁.heap H):=⟨hKb,nsK hns,⟨mb,nsK hb,hbb⟩,let⟨mc,h1,h2⟩:=hlim;⟨mc,nsK h1,h2⟩⟩
  have e0:Xz P w K mg (Xj s₁.heap H) L9 [] s₁ H:=⟨rfl,hM,λb o e=>Jtk e,Kb (Jmm _ _),trivial,λb hb=>absurd (show b∈([]:List Addr)from hb) (by simp),hok,.of_eq hg⟩
  refine E9 ((F _ hKb (nsK hns)).run L9 [] s₁ H ⟨[.ref a],[]⟩ [.ref a] [.ref a] _ _ hr e0 (hbind s₁ (.ref a)) (.cons rfl .nil) (hsp H hO hS)) λr s' h=>?_;cases r with
  |error e=>exact(hCX H e s' h).elim
  |ok fl=>
   cases fl with
   |next=>exact Co h
   |brk=>exact Co h
   |cont=>exact Co h
   |ret u=>
    obtain⟨v,H',os,bare,un,hok',r',q⟩:=h;have q':v=.bl true:=q;subst q';obtain rfl:u=H9 true:=r';refine⟨rfl,OldK.of_keep λb o e=>?_,os,bare⟩;cases q:H b with
    |none=>exact un.keep b o e q (by intro z;exact absurd (show b∈([]:List Addr)from z) (by simp)) (by simp)
    |some u=>
     rcases hO b with z|⟨ob,xs,z⟩
     ·rw[q]at z;cases z
     ·have z2:=un.frzs b ob _ z;obtain⟨e1,_⟩:=hok b _ z;obtain⟨e2,_⟩:=hok' b _ z2;rw[e]at e1;cases e1;exact e2
 cases hk:K.lookup a with
 |some o=>
  have e:=KX a o hk;rw[ha]at e;cases e;refine core (λ_=>none) (λ_=>.inl rfl) (.inr ⟨_,vs.toArray,_,hk,rfl,rfl,rfl,by rw[Ar,lenV];exact hl,by simpa using rv⟩) (λb u z=>by have z':(none:Option HO)=some u:=z;cases z') (λb z=>absurd rfl z) λz=>absurd rfl z
 |none=>
  refine core (λb=>if b=a then some (.frz {cls:=.type "list",data:=.seq vs.toArray} (.lst (ns.map V.int)))else none) (λb=>?_) (.inl (.inr ⟨{cls:=.type "list",data:=.seq vs.toArray},if_pos rfl⟩)) (λb u z=>?_) (λb z=>?_) λ_=>hk
  ·by_cases hb:b=a
   ·exact .inr ⟨_,_,if_pos hb⟩
   ·exact .inl (if_neg hb)
  ·by_cases hb:b=a
   ·have z':=(if_pos hb).symm.trans z;cases z';subst hb;exact⟨ha,by rw[Ah];exact hl,vs,_,rv,ha⟩
   ·have z':=(if_neg hb).symm.trans z;cases z'
  ·by_cases hb:b=a
   ·exact hb
   ·exact absurd (if_neg hb) z
def Jrj{l:Ji}{XP:(Str->Option Value)->Heap->Prop}{YP:World->Heap->Prop}{d:Ur}{K:Hj->Af}{CX:World->CXT}{sp:World->Sp}
  (hn:l.most=some n)(hn2:n<=sizeLine)(hdf:d.params.defaults=[])(hr:Vq k L9)
  (hY:∀(w:World) (h:Heap),YP w h->(K w.params).In h)
  (F:∀(w:World) (mg:Str->Option Value) (fa:Addr) (h:Heap),(K w.params).In h->h.Ns A7 mg->mg d.name=some (.ref fa)->
   ∃fd:FuncData,(∀(s:Shared) (u:Value),Vc s fd ⟨[u],[]⟩ [(x,u)])/\
    ∀base:Heap,(K w.params).In base->base.Ns A7 mg->FnOk l.prog w (K w.params) mg base (CX w) k fa fd [x] (sp w))
  (hsp:∀(w:World) (H:Hp) (a:Addr) (ns:List Int),ns.length<=n->Zh H->SqL (K w.params) H a (ns.map V.int)->sp w [.ref a] H (λv _=>v=.bl true) λ_ _ _=>False)
  (hCX:∀(w:World) (H:Hp) (s:Shared) (e:Value) (s':Shared),CX w [] H s (λ_ _ _=>False) e s'->False):
  Mv q loose XP YP l.row.toRowW d [] (λf vs=>Nh f vs):=by
 refine Att.Ji3 hn hdf λw s₀ s₁ mg mb fa o pm cd doc a vs ns G Y ho hd hcd hmg hobj hints hlen hg=>?_;have KX:=hY w _ Y;obtain⟨fd,hb,hF⟩:=F w mg fa _ KX G.T.g hmg;exact Joz KX G.T.g G.T.b G.T.builtins G.T.nolimit hg hobj hints (Bl hlen hn2) hr hF hb (λH hO hS=>hsp w H a ns hlen hO hS) λH e s'=>hCX w H s₁ e s'
noncomputable def Vr(s:Stmt):Arguments:=match s with
 |.FunctionDef _ a _ _ _ _ _ _ _ _=>a
 |_=>{posonlyargs:=[],args:=[],vararg:=none,kwonlyargs:=[],kw_defaults:=[],kwarg:=none,defaults:=[]}
noncomputable def Vk(s:Stmt):List Stmt:=match s with
 |.FunctionDef _ _ b _ _ _ _ _ _ _=>b
 |_=>[]
noncomputable def defScope(s:Stmt):Ia:=match s with
 |.FunctionDef _ _ _ _ _ _ sc _ _ _=>sc
 |_=>{kind:=.function,names:=[],isGenerator:=false,isCoroutine:=false}
abbrev CX0:CXT:=λ_ _ _ _ _ _=>False
abbrev E0:XK:=λ_ _ _=>False
def Jlt:Wi CX0 X E0:=λ_ _ _ _ _ _ _ h=>h.elim
structure Fun(K:Af)(x qual:Str)(st:Stmt)(f:Addr)(fd:FuncData):Prop where
 ex:∃(oc:Value) (od:Option Addr) (kV doc pm:Value) (an:Option Addr) (cdv ct:Value) (osl:Array (Option Value)),
  fd=Fh x qual (Vr st) (Vk st) (defScope st) .none kV doc pm an cdv ct/\K.lookup f=some ⟨oc,od,.func fd,osl⟩/\G2 K cdv qual=true
 kp:C7 K (.ref f)=true
section
variable {P:Program} {w:World} {K:Af} {mg:Str->Option Value} {base:Heap}
def Fun.ok{x qual:Str}{st:Stmt}{f:Addr}{fd:FuncData}{N ps:List Str}{k:Nat}{sp:Sp}(F:Fun K x qual st f fd)(S:FnScope N ps (defScope st))(len:∀vs H Q E,sp vs H Q E->vs.length=ps.length)
  (hbody:∀(cdv:Value) (A:Bi) (outer:List Env) (s:Shared) (H:Hp) (vs:List V) (Q:VK) (E:XK),Vq k (A.deeper (Lz qual (defScope st) s.heap.objs.size f cdv))->sp vs H Q E->
   ∃t,PSs (Xx CX0 P w K mg base N qual (defScope st) f cdv A outer s H E).nox (Vk st) t/\t {nx:=λ_ H'=>Q .non H',rt:=Q} (start N vs) H):FnOk P w K mg base CX0 (k+1) f fd ps sp:=by
 obtain⟨oc,od,kV,doc,pm,an,cdv,ct,osl,rfl,lk,hcd⟩:=F.ex;refine Jxp lk hcd S len λA outer s H vs Q E hr hsp=>?_;obtain⟨t,h,q⟩:=hbody cdv A outer s H vs Q E hr hsp;exact⟨t,h.nox,q⟩
def Jq4{x qual:Str}{st:Stmt}{f:Addr}{oc:Value}{od an:Option Addr}{osl:Array (Option Value)}{kV doc pm cdv ct:Value}(l:K.lookup f=some ⟨oc,od,.func (Fh x qual (Vr st) (Vk st) (defScope st) .none kV doc pm an cdv ct),osl⟩)
  (c:G2 K cdv qual=true)(k:C7 K (.ref f)=true):Fun K x qual st f (Fh x qual (Vr st) (Vk st) (defScope st) .none kV doc pm an cdv ct):=⟨⟨oc,od,kV,doc,pm,an,cdv,ct,osl,rfl,l,c⟩,k⟩
end
section
variable {X:Cx}
end
def Wcz{A B:Prop}(h:B):if false=true then A else B:=by
 rw[if_neg Aw];exact h
def Wcy{A B:Prop}(h:A):if true=true then A else B:=by
 rw[if_pos rfl];exact h
section
variable {prog:Program} {w:World} {A:Bi} {R:K1->Shared->Prop} {s:Shared}
theorem Jhq{E:Value->Shared->Prop}(hE:∀e s,E e s->notedBy (model prog w) A env (λx s'=>R (.error x) s') e s)(I:Nat->Shared->Prop)
  (turn:∀n s,I n s->wpAny (model prog w) A (pyNext it) (λr s₁=>match r with
   |none=>R (.ok .next) s₁
   |some v=>wpAny (model prog w) A (Im target it v) (λ_ s₁'=>wpAny (model prog w) A (assign target env v) (λ_ s₂=>
     wpAny (model prog w) A (forIn ifs true λc r=>if r=true then do let ok<-isTrue c env (eval c env);pure (Ge ok)else pure (Ge r)) (λok s₃=>
      if ok=true then wpAny (model prog w) A (eval elt env) (λx s₄=>
       wpAny (model prog w) A (call (.builtin "list.append") [acc,x]) (λ_ s₅=>∃m,m<n/\I m s₅) E s₄) E s₃
      else∃m,m<n/\I m s₃) E s₂) E s₁') E s₁) E s)
  (n:Nat)(h:I n s):
  F9 (model prog w) A (.compLoop (.ListComp elt [⟨target,iter,ifs,0⟩] scope pos) 0 it acc env) R s:=by
 refine codeAny_loop rfl I (λn s hI=>?_) n h;show wpAny _ A ((compTurn (.ListComp elt [⟨target,iter,ifs,0⟩] scope pos) 0 it acc env).onRaise (λx=>do noteFrame x env;theTreesLotGoes x)) _ _ s;refine wpAny_noted ?_;rw[compTurn_list];refine Aa (Ms (Aa (Bo (turn n s hI) (λr s₁ h₁=>?_) hE)));cases r with
 |none=>exact Ab h₁
 |some v=>
  refine Aa (Bo h₁ (λ_ s₁' h₁'=>?_) hE);refine Aa (Bo h₁' (λ_ s₂ h₂=>Aa (Bo h₂ (λok s₃ h₃=>?_) hE)) hE);cases ok with
  |false=>exact Ab ⟨rfl,h₃⟩
  |true=>
   exact Aa (Aa (Bo h₃ (λx s₄ h₄=>Aa (Bo h₄ (λ_ s₅ h₅=>Ab (Ab ⟨rfl,h₅⟩)) hE)) hE))
end
noncomputable def clOf(cells:List (Str×Addr)):List (Str×Fb)->List (Str×Addr)->List (Str×Addr)
 |[],acc=>acc
 |(n,k)::r,acc=>if k== .free then(match cells.lookup n with|some c=>clOf cells r ((n,c)::acc)|none=>clOf cells r acc)else clOf cells r acc
theorem Jbe(env:Env):∀(names:List (Str×Fb)) (acc:List (Str×Addr)),(∀x∈names,x.2=.free->∃c,env.cells.lookup x.1=some c)->
  (forIn names acc (λ(x:Str×Fb) (cs:List (Str×Addr))=>(match x with|(name,kind)=>if kind== .free then(do let c<-cellOf env name;pure (Ge ((name,c)::cs)))else pure (Ge cs):Sem (ForInStep (List (Str×Addr))))))=pure (clOf env.cells names acc)
 |[],acc,_=>rfl
 |(n,k)::r,acc,h=>by
  have hr:∀x∈r,x.2=.free->∃c,env.cells.lookup x.1=some c:=λx hx=>h x (Ax _ hx);simp only[Hr]
  by_cases hk:(k==G3)=true
  ·obtain⟨c,hc⟩:=h (n,k) Bh (by simpa using hk);have hc':env.cells.lookup n=some c:=hc;simp only[hk,if_true,cellOf,hc',pure_bind,clOf];exact Jbe env r _ hr
  ·simp only[hk,As,if_false,pure_bind,clOf];exact Jbe env r _ hr
def Jdb{scope:Ia}{env:Env}(h:∀x∈scope.names,x.2=.free->∃c,env.cells.lookup x.1=some c):Ue scope env=pure (clOf env.cells scope.names []):=by
 have e:=Jbe env scope.names [] h;unfold Ue;simp only[bind_pure];refine Eq.trans ?_ e;congr 1
theorem Jeb(cells:List (Str×Addr)):∀(names:List (Str×Fb)) (acc:List (Str×Addr)),(∀p∈acc,cells.lookup p.1=some p.2)->∀p∈clOf cells names acc,cells.lookup p.1=some p.2
 |[],acc,h,p,hp=>h p hp
 |(n,k)::r,acc,h,p,hp=>by
  unfold clOf at hp;split at hp
  ·split at hp
   ·rename_i c hc;refine Jeb cells r _ (λq hq=>?_) p hp;rcases An.mp hq with e|e
    ·subst e;exact hc
    ·exact h q e
   ·exact Jeb cells r _ h p hp
  ·exact Jeb cells r _ h p hp
theorem Jce(cells:List (Str×Addr)):∀(names:List (Str×Fb)) (acc:List (Str×Addr)) (p),p∈acc->p∈clOf cells names acc
 |[],acc,p,h=>h
 |(n,k)::r,acc,p,h=>by
  unfold clOf;split
  ·split
   ·exact Jce cells r _ p (Ax _ h)
   ·exact Jce cells r _ p h
  ·exact Jce cells r _ p h
theorem Jec(cells:List (Str×Addr)):∀(names:List (Str×Fb)) (acc:List (Str×Addr)) (x:Str) (c:Addr),(x,G3)∈names->cells.lookup x=some c->(x,c)∈clOf cells names acc
 |[],acc,x,c,h,_=>by simp at h
 |(n,k)::r,acc,x,c,h,e=>by
  unfold clOf;rcases An.mp h with q|q
  ·cases q;simp only[beq_self_eq_true,if_true,e];exact Jce cells r _ _ Bh
  ·split
   ·split
    ·exact Jec cells r _ x c q e
    ·exact Jec cells r _ x c q e
   ·exact Jec cells r _ x c q e
theorem Jf6{α:Type}{l:List (Str×α)}{x:Str}{c:α}(h:(x,c)∈l):∃c',l.lookup x=some c':=by
 induction l with
 |nil=>simp at h
 |cons p r ih=>
  obtain⟨y,d⟩:=p
  by_cases e:(x==y)=true
  ·exact⟨d,by simp[Dj,e]⟩
  ·have e':(x==y)=false:=by simpa using e
   rcases An.mp h with q|q
   ·cases q;simp at e
   ·obtain⟨c',hc⟩:=ih q;exact⟨c',by simp[Dj,e',hc]⟩
def Jbt{cells:List (Str×Addr)}(h:(clOf cells names []).lookup x=some c):cells.lookup x=some c:=
 Jeb cells names [] (λ_ h=>by simp at h) (x,c) (Ef h)
def Jhr{cells:List (Str×Addr)}(h:(x,G3)∈names)(e:cells.lookup x=some c):(clOf cells names []).lookup x=some c:=by
 obtain⟨c',hc⟩:=Jf6 (Jec cells names [] x c h e);rw[hc,<-Jbt hc,e]
def Vj.upd_none(n:H b=none)(x:Vj P w H h a o):Vj P w (upd H b u) h a o:=
 x.stay (λ_ _ _ q=>q) (λc q=>by rw[Jac (Jal q n)];exact q) λc xs q=>by rw[Jac (Jal q n)];exact q
def Inv.adopt{X:Cx}{s:Shared}(I:Inv X pins U H s)(n:H d=none)(h1:X.s₀.heap.objs.size<=d)(h2:d≠X.env.locals)
  (h3:∀x c,X.env.cells.lookup x=some c->c≠d)(h4:∀p∈X.pn++pins,p.1≠d)(new:Vj X.prog X.w (upd H d o) s.heap d o):Inv X pins U (upd H d o) s:=by
 have hH:HOk X.prog X.w (upd H d o) s.heap:=λb u e=>by
  by_cases hb:b=d
  ·subst hb;rw[Jaf]at e;cases e;exact new
  ·rw[Jac hb]at e;exact(I.hok b u e).upd_none n
 have q:=I.step (h':=s.heap) (H':=upd H d o) (g':=s.gens) (d':=s.drawn) (t':=s.toks) (ch:=[d]) (λb hb=>by
   have e:b=d:=by simpa using hb
   subst e;exact⟨.inr h1,h2,h3,h4⟩) (λb o _ _ _ e _=>e) (λb o _ _ _ e _=>⟨o.slots,e⟩) (λb u hb e z=>by
   have hb':b≠d:=λe=>hb (by simp[e]);rw[Jac hb'];exact z) (λb o _ e=>⟨o,e⟩)
  (λb xs e=>by rw[Jac (Jal e n)];exact e) (λb u xs e=>by rw[Jac (Jal e n)];exact e) (λb ps e=>⟨#[],by rw[Jac (Jal e n),e];simp⟩) (λm hm=>hm) hH I.bare
 exact q
theorem Jcf(scope:Ia)(env:Env)(x:Str):(relabel scope env).names.lookup x=(scope.names.lookup x).map λk=>if(k== .free&&env.scope.kind== .function&&env.kindOf x==some .cell)=true then .cell else k:=by
 show(scope.names.map λ(n,k)=>if(k==G3&&env.scope.kind== .function&&env.kindOf n==some .cell)then(n,Rj)else(n,k)).lookup x=_;generalize scope.names=l
 induction l with
 |nil=>rfl
 |cons p r ih=>
  obtain⟨n,k⟩:=p;show E2 x ((if(k==G3&&env.scope.kind== .function&&env.kindOf n==some .cell)=true then(n,Rj)else(n,k))::_)=_;cases hx:x==n with
  |true=>
   have e:x=n:=by simpa using hx
   subst e;simp only[Dj,beq_self_eq_true,Eu];split<;>simp
  |false=>
   simp only[Dj,hx];split<;>(simp only[Dj,hx];exact ih)
def Vm(X:Cx)(N':List Str)(scope:Ia)(s₃:Shared)(H₃:Hp)(ex:List Addr)(pins:List (Addr×Obj))(xe:Value->Shared->Prop:=λ_ _=>False):Cx:=
 {X with N:=N',s₀:=s₃,H₀:=H₃,env:=compEnvC scope (clOf X.env.cells scope.names []) s₃.heap.objs.size X.env,outer:=X.stack,ex:=ex,fn:=λ_=>false,pn:=X.pn++pins,xe:=xe}
noncomputable def Xi(k:Nat)(keep:List Nat)(U:St):St:=Eo k none++keep.map λi=>(U[i]?).join
structure V4(X:Cx)(N':List Str)(k:Nat)(keep:List Nat)(scope:Ia):Prop where
 kind:scope.kind=.function
 cell:∀y∈scope.names,y.2≠ .cell
 names:∀y∈scope.names,y.2=.local->scope.names.lookup y.1=some .local
 free:∀y∈scope.names,y.2=.free->X.env.scope.names.lookup y.1=some .cell\/X.env.scope.names.lookup y.1=some .free
 len:N'.length=k+keep.length
 kept:∀j i,keep[j]? =some i->∃x,N'[k+j]? =some x/\X.N[i]? =some x/\scope.names.lookup x=some .free
def Jbx{l:List (Str×Fb)}(h:l.lookup x=some k):(x,k)∈l:=Ef h
section
variable {X:Cx} {N':List Str} {k:Nat} {keep:List Nat} {scope:Ia} {pins:List (Addr×Obj)} {U:St} {H H₃:Hp} {s s₃:Shared} {ex:List Addr} {xe:Value->Shared->Prop}
def V4.clo(c:V4 X N' k keep scope)(ok:X.Ok):∀y∈scope.names,y.2=.free->∃c,X.env.cells.lookup y.1=some c:=λy hy hf=>ok.has y.1 (c.free y hy hf)
theorem V4.inner(c:V4 X N' k keep scope)(h:(relabel scope X.env).names.lookup x=some .cell\/(relabel scope X.env).names.lookup x=some .free):scope.names.lookup x=some .free:=by
 rw[Jcf]at h;cases e:scope.names.lookup x with
 |none=>rw[e]at h;simp at h
 |some q=>
  rw[e]at h;have hc:=c.cell _ (Jbx e);simp only[Eu,Gk]at h
  by_cases hq:(q==G3&&X.env.scope.kind== .function&&X.env.kindOf x==some .cell)=true
  ·have:q=.free:=by
    simp only[Ai]at hq
    simpa using hq.1.1
   rw[this]
  ·rw[if_neg hq]at h;rcases h with h|h
   ·exact absurd h hc
   ·rw[h]
def Inv.enter(c:V4 X N' k keep scope)(I:Inv X pins U H s₃){h':Heap}{m:Str->Option Value}(hns:h'.Ns s₃.heap.objs.size m)(hk:∀b o,s₃.heap.get? b=some o->h'.get? b=some o)
  (hex:∀b∈ex,b<s₃.heap.objs.size/\b≠X.env.locals/\b∉X.fs/\(b∈X.ex\/X.s₀.heap.objs.size<=b)/\∀x c,X.env.cells.lookup x=some c->c≠b):
  Inv (Vm X N' scope s₃ H ex pins xe) [] (Xi k keep U) H {s₃ with heap:=h',toks:=t'}:=by
 have hcl:∀x c',(clOf X.env.cells scope.names []).lookup x=some c'->X.env.cells.lookup x=some c':=λx c' h=>Jbt h;have nstk:∀b∈ex,b∉frs X.stack:=λb hb z=>by
  obtain⟨h0,h1,h2,_⟩:=hex b hb;rcases An.mp (I.stkSub b z)with e|e
  ·exact h1 e
  ·exact h2 e
 have cltb:∀x c',X.env.cells.lookup x=some c'->c'<s₃.heap.objs.size:=λx c' e=>by
  obtain⟨v,q⟩:=I.cell x c' e;exact q.lt
 refine⟨⟨I.ok.mod,c.kind,I.ok.glob,I.ok.blt,Aj _,?inj,?has,?cab,I.ok.hd,I.ok.frames,.inl rfl,?exf,I.bs,Bl I.ok.bsz I.sz,?noex,nstk,I.stack,I.stkFree⟩,rfl,I.bare,Un.kept hk,?loc,?cell,?free,?freeC,?pin,I.hok.kept hk,?len⟩
 case inj=>exact λx y a h1 h2=>I.ok.inj x y a (hcl x a h1) (hcl y a h2)
 case has=>
  intro x hx;have e:scope.names.lookup x=some .free:=c.inner hx;obtain⟨a,ha⟩:=c.clo I.ok (x,.free) (Jbx e) rfl;exact⟨a,Jhr (Jbx e) ha⟩
 case cab=>exact λx a hf=>absurd hf (by show¬(false=true);simp)
 case exf=>exact λb hb=>⟨Au (hex b hb).1,λx a e=>(hex b hb).2.2.2.2 x a (hcl x a e)⟩
 case noex=>
  intro b o e hb;rcases(hex b hb).2.2.2.1 with z|z
  ·exact I.ok.noex b o e z
  ·exact absurd (Be (Am e) (Bl I.ok.bsz z)) (Em _)
 case loc=>
  refine⟨m,hns,λi x v e1 e2 e3=>?_⟩;have e1:N'[i]? =some x:=e1;unfold Xi at e2
  by_cases hi:i<k
  ·rw[A0 (by simpa using hi),Fe,if_pos hi]at e2;cases e2
  ·rw[Az (by simpa using hi),Ha,Ap]at e2;cases ej:keep[i-k]? with
   |none=>rw[ej]at e2;cases e2
   |some j=>
    rw[ej]at e2;have e2':(U[j]?).join=some v:=Bb e2;have e2':U[j]? =some (some v):=by
     cases q:U[j]? with
     |none=>rw[q]at e2';cases e2'
     |some y=>rw[q]at e2';exact congrArg some e2'
    obtain⟨x',p1,p2,p3⟩:=c.kept _ _ ej;have ex':k+(i-k)=i:=by omega
    rw[ex',e1]at p1;cases p1;have fr:=c.free _ (Jbx p3) rfl;obtain⟨m0,hn0,hl0⟩:=I.loc;obtain⟨u,ru,lk⟩:=hl0 j x v p2 e2' (.inr fr);refine⟨u,ru,?_⟩;rcases lk with⟨l1,_⟩|⟨_,a,ha,hcell⟩
    ·exfalso;have l1:X.env.scope.names.lookup x=some .local:=l1;rcases fr with z|z
     ·rw[z]at l1;cases l1
     ·rw[z]at l1;cases l1
    ·refine .inr ⟨e3.elim (λz=>?_) id,a,Jhr (Jbx p3) ha,?_⟩
     ·exfalso;have z:(relabel scope X.env).names.lookup x=some .local:=z;rw[Jcf,p3]at z;simp only[Eu,Gk]at z;split at z<;>cases z
     ·obtain⟨o,ho,hd⟩:=hcell;exact⟨o,hk _ _ ho,hd⟩
 case cell=>
  intro x a h;obtain⟨v,o,ho,hd⟩:=I.cell x a (hcl x a h);exact⟨v,o,hk _ _ ho,hd⟩
 case free=>exact I.hok.fresh (Aj _)
 case freeC=>exact λx a h=>I.freeC x a (hcl x a h)
 case pin=>
  intro p hp;have hp:p∈X.pn++pins:=by simpa [Vm]using hp
  obtain⟨e,n,ne,nf,d⟩:=I.pin p hp;refine⟨hk _ _ e,n,Au (Am e),λz=>?_,d⟩;rcases An.mp (I.stkSub p.1 z)with q|q
  ·exact ne q
  ·exact nf q
 case len=>
  show(Xi k keep U).length=N'.length;rw[c.len];unfold Xi;simp
structure Xl(X:Cx)(pins:List (Addr×Obj))(U:St)(H:Hp)(s₃:Shared)(ex:List Addr):Prop where
 inv:Inv X pins U H s₃
 exo:∀b∈ex,b<s₃.heap.objs.size/\b≠X.env.locals/\b∉X.fs/\(b∈X.ex\/X.s₀.heap.objs.size<=b)/\∀x c,X.env.cells.lookup x=some c->c≠b
 pin:∀b∈ex,∀p∈X.pn++pins,p.1≠b
def Inv.leave(I:Inv X pins U H₃ s₃)(J:Inv (Vm X N' scope s₃ H₃ ex pins xe) pins' U' H s)
  (hex:∀b∈ex,b<s₃.heap.objs.size/\b≠X.env.locals/\b∉X.fs/\(b∈X.ex\/X.s₀.heap.objs.size<=b)/\∀x c,X.env.cells.lookup x=some c->c≠b)(hpin:∀b∈ex,∀p∈X.pn++pins,p.1≠b):
  Inv X pins U H s:=by
 have u:Un (frs X.stack) ex H₃ H s₃.heap s.heap:=J.base;have ho:s.os=s₃.os:=J.os;exact I.call' ho u J.hok J.bare λb hb=>⟨(hex b hb).2.2.2.1,(hex b hb).2.1,(hex b hb).2.2.2.2,hpin b hb⟩
end
def PTs(X:Cx)(ifs:List Expr)(t:TT):Prop:=
 ∀(pins:List (Addr×Obj)) (s:Shared) (U:St) (H:Hp) (Q:Bool->Hp->Prop),Inv X pins U H s->t U H Q->
  wpAny (model X.prog X.w) X.A (forIn ifs true λc r=>if r=true then do let ok<-isTrue c X.env (eval c X.env);pure (Ge ok)else pure (Ge r)) (TP X pins U Q) X.xe s
def Jsu:PTs X [] (λ_ H Q=>Q true H):=λpins s U H Q I h=>wpAny_tests_nil ⟨H,I,h⟩
def Jst(h:PT X c t):PTs X [c] t:=λpins s U H Q I q=>wpAny_tests_one (h pins s U H Q I q)
def Y2(J:It)(g:TG)(tc:TT)(te:TE)(Q:List V->Hp->Prop)(U':St)(H1:Hp):Prop:=
 ∃W:Nat->Nat->List V->St->Hp->Prop,(∃m,W 0 m [] U' H1)/\∀i m xs U H,W i m xs U H->xs.length<=sizeLine/\
  ((J.stop i H/\Q xs H)\/(J.go i H/\∀x H',J.yld i H x H'->g x U H' λσ2 H2=>tc σ2 H2 λb H3=>
   if b=true then te σ2 H3 λy H4=>∃m',m'<m/\W (i+1) m' (xs++[y]) σ2 H4 else∃m',m'<m/\W (i+1) m' xs σ2 H3))
def Own(X:Cx)(pins:List (Addr×Obj))(H:Hp)(b:Addr):Prop:=
 H b=none/\X.s₀.heap.objs.size<=b/\b≠X.env.locals/\(∀x c,X.env.cells.lookup x=some c->c≠b)/\∀p∈X.pn++pins,p.1≠b
def Inv.own{s:Shared}(I:Inv X pins U H s)(hb:s.heap.objs.size<=b)(hn:H' b=none):Own X pins H' b:=by
 obtain⟨f0,f1,f2,f3,f4,f5⟩:=I.fpOk hb hn;exact⟨f0,Bl I.sz hb,f1,f4,f5⟩
structure Zp(P:Program)(w:World)(K:Af)(tg:Expr)(J:It)(fp:List Addr)(it:Addr)(tn:Nat->Heap->Prop)(cm:Cx->Prop):Prop where
 obj:∀n g,tn n g->∀a∈fp,∃u,g.get? a=some u/\∀v,u.data≠ .cell v
 keep:∀n g g',tn n g->(∀a∈fp,∀u,g.get? a=some u->g'.get? a=some u)->tn n g'
 item:∀(Y:Cx),Y.prog=P->Y.w=w->Y.K=K->cm Y->∀(n:Nat) (ps:List (Addr×Obj)) (s:Shared) (U:St) (H:Hp) (E:Value->Shared->Prop),Inv Y ps U H s->(∀a∈fp,Ws Y ps H a)->tn n s.heap->J.go n H->
  wpAny (model P w) Y.A (pyNext (.ref it)) (λr s1=>∃u,r=some u/\wpAny (model P w) Y.A (Im tg (.ref it) u) (λ_ s2=>∃x H',Inv Y ps U H' s2/\RelV x u/\J.yld n H x H'/\tn (n+1) s2.heap/\∀a∈fp,H' a=none) E s1) E s
 done:∀(Y:Cx),Y.prog=P->Y.w=w->Y.K=K->cm Y->∀(n:Nat) (ps:List (Addr×Obj)) (s:Shared) (U:St) (H:Hp) (E:Value->Shared->Prop),Inv Y ps U H s->(∀a∈fp,Ws Y ps H a)->tn n s.heap->J.stop n H->wpAny (model P w) Y.A (pyNext (.ref it)) (λr s1=>r=none/\Inv Y ps U H s1) E s
 self:∀(B:Bi) (n:Nat) (s:Shared) (R:Value->Shared->Prop) (E:Value->Shared->Prop),tn n s.heap->R (.ref it) s->wpAny (model P w) B (pyIter (.ref it)) R E s
def Turn.toC{P:Program}{w:World}{K:Af}{tg:Expr}{J:It}{fp:List Addr}{it:Addr}{tn:Nat->Heap->Prop}(T:Turn P w K tg J fp it tn):Zp P w K tg J fp it tn (λX=>X.calm=true):=⟨T.obj,T.keep,T.item,T.done,T.self⟩
section
variable {X:Cx} {N':List Str} {k:Nat} {keep:List Nat} {scope:Ia} {pins:List (Addr×Obj)} {U:St} {H:Hp} {s:Shared}
def Jfq{fp:List Addr}{tn:Nat->Heap->Prop}{Q:List V->Hp->Prop}{RR:Value->Addr->K1->Shared->Prop}{E:Value->Shared->Prop}{xe:Shared->Value->Shared->Prop}
  {cm:Cx->Prop}(c:V4 X N' k keep scope)(calm:∀s₃ ex,cm (Vm X N' scope s₃ H ex pins (xe s₃)))(I:Inv X pins U H s)(T:Zp X.prog X.w X.K tg J fp it tn cm)(st:tn 0 s.heap)(hf:∀b∈fp,Ws X pins H b)
  (hg:∀s₃ ex,PG (Vm X N' scope s₃ H ex pins (xe s₃)) tg g)(hc:∀s₃ ex,PTs (Vm X N' scope s₃ H ex pins (xe s₃)) ifs tc)(he:∀s₃ ex,Xl X pins U H s₃ ex->PE (Vm X N' scope s₃ H ex pins (xe s₃)) elt te)
  (hE:∀s₃ D e s',xe s₃ e s'->notedBy (model X.prog X.w) X.A (compEnvC scope (clOf X.env.cells scope.names []) s₃.heap.objs.size X.env) (λx s''=>RR D s₃.heap.objs.size (.error x) s'') e s')
  (hW:Y2 J g tc te Q (Xi k keep U) H)
  (hRR:∀D C s' H' xs m,Inv X pins U H' s'->Own X pins H' D->Own X pins H' C->D≠C->Vj X.prog X.w (upd H' D (.lst xs)) s'.heap D (.lst xs)->s'.heap.Ns C m->Q xs H'->RR (.ref D) C (.ok .next) s'):
  wpAny (model X.prog X.w) X.A (newList []) (λacc s₃=>wpAny (model X.prog X.w) X.A (newFunctionEnv scope X.env.globals (clOf X.env.cells scope.names []) [] X.env.qual none .none (some X.env)) (λcenv s₄=>cenv.frame=X.env.frame/\
   F9 (model X.prog X.w) X.A (.compStart (.ListComp elt [⟨tg,iter,ifs,0⟩] scope pos) 0 (.ref it) acc {cenv with scope:=relabel scope X.env}) (RR acc cenv.locals) s₄) E s₃) E s:=by
 refine Bq (wpAny_newFunctionEnv c.cell (by intro y hy;simp at hy) (λh₁ hns₁ hsb₁=>?_) c.kind);dsimp only at hns₁ hsb₁ ⊢;generalize hH2:s.heap.push {cls:=.type "list",dict:=none,data:=.seq ([]:List Value).toArray}=H2 at hns₁ hsb₁ ⊢;have I3:Inv X pins U H {s with heap:=H2}:=I.kept (t':=s.toks) λb o e=>hH2▸Ad _ e;have hC:H2.objs.size=s.heap.objs.size+1:=by rw[<-hH2,Cd]
 have hlt:s.heap.objs.size<H2.objs.size:=by rw[hC];exact Dm _
 have hne:s.heap.objs.size≠H2.objs.size:=Au hlt;have fpo:∀b∈fp,∃o,s.heap.get? b=some o/\∀v,o.data≠ .cell v:=T.obj _ _ st;have fplt:∀b∈fp,b<s.heap.objs.size:=λb hb=>by
  obtain⟨o,e,_⟩:=fpo b hb;exact Am e
 have nD:H s.heap.objs.size=none:=I.hok.fresh (Aj _);have nC:H H2.objs.size=none:=I.hok.fresh (by lia);have oD:Own X pins H s.heap.objs.size:=I.own (Aj _) nD;have oC:Own X pins H H2.objs.size:=I.own (by lia) nC;have hkp:∀b o,H2.get? b=some o->h₁.get? b=some o:=λb o e=>hsb₁.extBut b o (Au (Am e)) (Ad _ e);have hex:∀b∈s.heap.objs.size::fp,b<({s with heap:=H2}:Shared).heap.objs.size/\b≠X.env.locals/\b∉X.fs/\(b∈X.ex\/X.s₀.heap.objs.size<=b)/\∀x c,X.env.cells.lookup x=some c->c≠b:=λb hb=>by
  rcases An.mp hb with e|e
  ·subst e;exact⟨hlt,oD.2.2.1,I.nofs (Aj _),.inr oD.2.1,oD.2.2.2.1⟩
  ·obtain⟨f0,f1,f2,f3,f4,f5⟩:=hf b e;exact⟨E5 (fplt b e) hlt,f1,f2,f3,f4⟩
 have hpin:∀b∈s.heap.objs.size::fp,∀p∈X.pn++pins,p.1≠b:=λb hb p hp=>by
  rcases An.mp hb with e|e
  ·subst e;exact oD.2.2.2.2 p hp
  ·exact(hf b e).2.2.2.2.2 p hp
 have Dstk:s.heap.objs.size∉frs X.stack:=λz=>by
  rcases An.mp (I.stkSub _ z)with q|q
  ·exact oD.2.2.1 q
  ·exact I.nofs (Aj _) q
 generalize hY:Vm X N' scope {s with heap:=H2} H (s.heap.objs.size::fp) pins (xe {s with heap:=H2})=Y;have ePrg:Y.prog=X.prog:=by subst hY;rfl
 have eW:Y.w=X.w:=by subst hY;rfl
 have eK:Y.K=X.K:=by subst hY;rfl
 have eA:Y.A=X.A:=by subst hY;rfl
 have eCalm:cm Y:=by subst hY;exact calm _ _
 have eEnv:Y.env=compEnvC scope (clOf X.env.cells scope.names []) H2.objs.size X.env:=by subst hY;rfl
 have eXe:Y.xe=xe {s with heap:=H2}:=by subst hY;rfl
 have J0:Inv Y [] (Xi k keep U) H {s with heap:=h₁,toks:=s.toks+([]:List (Str×Value)).length}:=by
  subst hY;exact I3.enter (t':=s.toks+([]:List (Str×Value)).length) c hns₁ hkp hex
 have fpY:∀{H':Hp} {q:List (Addr×Obj)},(∀b∈fp,H' b=none)->(∀p∈q,p.1=s.heap.objs.size)->∀b∈fp,Ws Y q H' b:=λ{H' q} hn hq b hb=>by
  obtain⟨f0,f1,f2,f3,f4,f5⟩:=hf b hb;have lt:=fplt b hb;subst hY;refine⟨hn b hb,Au (E5 lt hlt),λz=>?_,.inl (Ax _ hb),λx a e=>f4 x a (Jbt e),λp hp=>?_⟩
  ·rcases An.mp (I.stkSub b z)with q|q
   ·exact f1 q
   ·exact f2 q
  ·rcases Bj.mp (show p∈(X.pn++pins)++q from hp)with z|z
   ·exact f5 p z
   ·rw[hq p z];exact Cq lt
 obtain⟨W,⟨m0,w0⟩,turn⟩:=hW
 let Iv:Nat->Shared->Prop:=λn s'=>∃i xs U' H' its nn,Inv Y [] U' H' s'/\tn i s'.heap/\(∀b∈fp,H' b=none)/\H' s.heap.objs.size=none/\Vals xs its/\s'.heap.get? s.heap.objs.size=some {cls:=.type "list",data:=.seq its.toArray nn}/\W i n xs U' H'
 have hdD:∀{h':Heap},(∀b o,s.heap.get? b=some o->h'.get? b=some o)->True:=λ_=>trivial;have start:Iv m0 {s with heap:=h₁,toks:=s.toks+([]:List (Str×Value)).length}:=by
  refine⟨0,[],_,H,[],0,J0,T.keep _ _ _ st λb hb o e=>hkp b o (hH2▸Ad _ e),λb hb=>(hf b hb).1,nD,.nil,?_,w0⟩;exact hkp _ _ (hH2▸Ak _ rfl)
 have loop:∀s₃:Shared,s₃={s with heap:=h₁,toks:=s.toks+([]:List (Str×Value)).length}->
   F9 (model X.prog X.w) X.A (.compLoop (.ListComp elt [⟨tg,iter,ifs,0⟩] scope pos) 0 (.ref it) (.ref s.heap.objs.size) (compEnvC scope (clOf X.env.cells scope.names []) H2.objs.size X.env))
    (RR (.ref s.heap.objs.size) H2.objs.size) s₃:=by
  rintro s₃ rfl;refine Jhq (hE {s with heap:=H2} _) Iv (λn s' hI=>?_) m0 start;obtain⟨i,xs,U',H',its,nn,J',tn',fr',dn',rv,hl,w'⟩:=hI;obtain⟨hsz,alt⟩:=turn i n xs U' H' w';rcases alt with⟨stop,q⟩|⟨go,step⟩
  ·have z:=T.done Y ePrg eW eK eCalm i [] s' U' H' (xe {s with heap:=H2}) J' (fpY fr' (λ_ h=>by simp at h)) tn' stop;rw[eA]at z;have J'':Inv Y [(s.heap.objs.size,{cls:=.type "list",data:=.seq its.toArray nn})] U' H' s':=J'.pins_of λp hp=>by
    have e:p=(s.heap.objs.size,{cls:=.type "list",data:=.seq its.toArray nn}):=by simpa using hp
    subst e;refine⟨hl,dn',?_,?_,λv h=>nomatch h⟩
    ·rw[eEnv];exact hne
    ·subst hY;exact Dstk
   have z:=T.done Y ePrg eW eK eCalm i _ s' U' H' (xe {s with heap:=H2}) J'' (fpY fr' (λp hp=>by have e:p=_:=(Av.mp hp);rw[e])) tn' stop;rw[eA]at z;refine Bo z (λr s4 ⟨hr,J4⟩=>?_) λ_ _ f=>f;subst hr;have hl4:=(J4.pin _ (By _ (Av.mpr rfl))).1;have J5:Inv (Vm X N' scope {s with heap:=H2} H (s.heap.objs.size::fp) pins (xe {s with heap:=H2})) [(s.heap.objs.size,{cls:=.type "list",data:=.seq its.toArray nn})] U' H' s4:=by rw[hY];exact J4
   have I4:Inv X pins U H' s4:=I3.leave J5 hex hpin;obtain⟨mC,hnC,_⟩:=J4.loc;have cfree:=J4.free;rw[eEnv]at hnC cfree;refine hRR _ _ s4 H' xs mC I4 ⟨dn',oD.2⟩ ⟨cfree,oC.2⟩ hne ⟨hsz,its,nn,rv,hl4⟩ hnC q
  ·have J'':Inv Y [(s.heap.objs.size,{cls:=.type "list",data:=.seq its.toArray nn})] U' H' s':=J'.pins_of λp hp=>by
    have e:p=(s.heap.objs.size,{cls:=.type "list",data:=.seq its.toArray nn}):=by simpa using hp
    subst e;refine⟨hl,dn',?_,?_,λv h=>nomatch h⟩
    ·rw[eEnv];exact hne
    ·subst hY;exact Dstk
   have z:=T.item Y ePrg eW eK eCalm i _ s' U' H' (xe {s with heap:=H2}) J'' (fpY fr' (λp hp=>by have e:p=_:=(Av.mp hp);rw[e])) tn' go;rw[eA]at z;refine Bo z (λr s4 ⟨u,hr,h4⟩=>?_) λ_ _ f=>f;subst hr;refine Bo h4 (λ_ s5 ⟨x,H5,J5,r5,y5,tn5,fr5⟩=>?_) λ_ _ f=>f;have J5':=J5.pinned (fpY fr5 (λp hp=>by have e:p=_:=(Av.mp hp);rw[e])) (T.obj _ _ tn5);have hg':PG Y tg g:=hY▸hg _ _;have hc':PTs Y ifs tc:=hY▸hc _ _;have he':PE Y elt te:=hY▸he _ _ ⟨I3,hex,hpin⟩;have g6:=hg' _ s5 U' H5 x u _ J5' r5 (step x H5 y5);rw[eXe,eA,ePrg,eW,eEnv]at g6;refine Bo g6 (λ_ s6 ⟨σ6,H6,J6,q6⟩=>?_) λ_ _ f=>f;have c7:=hc' _ s6 σ6 H6 _ J6 q6;rw[eXe,eA,ePrg,eW,eEnv]at c7;refine Bo c7 (λok s7 ⟨H7,J7,q7⟩=>?_) λ_ _ f=>f;have fin:∀{s8:Shared} {σ8:St} {H8:Hp} {xs':List V} {its':List Value} {n' m':Nat},Inv Y [] σ8 H8 s8->tn (i+1) s8.heap->(∀b∈fp,H8 b=none)->H8 s.heap.objs.size=none->Vals xs' its'->
     s8.heap.get? s.heap.objs.size=some {cls:=.type "list",data:=.seq its'.toArray n'}->W (i+1) m' xs' σ8 H8->m'<n->∃m,m<n/\Iv m s8:=λa1 a2 a3 a4 a5 a6 a7 a8=>⟨_,a8,_,_,_,_,_,_,a1,a2,a3,a4,a5,a6,a7⟩
   have kp:∀{s8:Shared} {σ8:St} {H8:Hp},Inv Y ([(s.heap.objs.size,{cls:=.type "list",data:=.seq its.toArray nn})]++W4 fp s5.heap) σ8 H8 s8->
     tn (i+1) s8.heap/\(∀b∈fp,H8 b=none)/\H8 s.heap.objs.size=none/\s8.heap.get? s.heap.objs.size=some {cls:=.type "list",data:=.seq its.toArray nn}:=λ{s8 σ8 H8} J8=>by
    have p1:=J8.pin _ (By _ (Ci _ (Av.mpr rfl)));refine⟨T.keep _ _ _ tn5 λb hb o e=>(J8.pin (b,o) (By _ (By _ (Jcb hb e)))).1,λb hb=>?_,p1.2.1,p1.1⟩;obtain⟨o,e,d⟩:=T.obj _ _ tn5 b hb;exact(J8.pin (b,o) (By _ (By _ (Jcb hb e)))).2.1
   cases ok with
   |false=>
    simp only[As,if_false]at q7 ⊢;obtain⟨m',hm,w7⟩:=q7;obtain⟨k1,k2,k3,k4⟩:=kp J7;exact fin (J7.pins_of λp hp=>by simp at hp) k1 k2 k3 rv k4 w7 hm
   |true=>
    simp only[if_true]at q7 ⊢;have e8:=he' _ s7 σ6 H7 _ J7 q7;rw[eXe,eA,ePrg,eW,eEnv]at e8;refine Bo e8 (λy s8 ⟨v8,H8,J8,r8,m',hm,w8⟩=>?_) λ_ _ f=>f;obtain⟨k1,k2,k3,k4⟩:=kp J8;have hl8:s8.heap.PlainList s.heap.objs.size its.toArray:=⟨nn,k4⟩
    refine wpAny_list_append_plain (hsz:=by have:=rv.length;simp only[Ar];lia) hl8 λh9 hl9 hs9=>?_;obtain⟨n9,e9⟩:=hl9;have J9:Inv Y [] σ6 H8 {s8 with heap:=h9}:=by
     have J8':Inv Y [] σ6 H8 s8:=J8.pins_of λp hp=>by simp at hp
     refine J8'.turned (t':=s8.toks) (it:=s.heap.objs.size) (λb o hb e=>hs9.extBut b o hb e) k3 ?_ ?_ ?_ ?_
     ·rw[eEnv];exact hne
     ·subst hY;exact .inl Bh
     ·subst hY;exact λx a e=>oD.2.2.2.1 x a (Jbt e)
     ·subst hY;intro p hp;exact oD.2.2.2.2 p (by simpa [Vm]using hp)
    refine fin (n':=n9) (its':=its++[y]) J9 (T.keep _ _ _ k1 λb hb o e=>hs9.extBut b o (Au (fplt b hb)) e) k2 k3 (rv.append (.cons r8 .nil)) ?_ w8 hm;show h9.get? _=_;rw[e9,List.push_toArray]
 exact⟨rfl,codeAny_compStart_list (loop _ rfl) (T.self _ 0 _ _ _ (T.keep _ _ _ st λb hb o e=>hkp b o (hH2▸Ad _ e)) (loop _ rfl))⟩
end
def Xm(k:Nat)(keep:List Nat)(wi:TI)(g:TG)(tc:TT)(te:TE):TE:=λU H Q=>wi U H λJ H1=>
 Y2 J g tc te (λxs H'=>∀p,H' p=none->Q (.ref p) (upd H' p (.lst xs))) (Xi k keep U) H1
def compEnd(M:P2)(A:Bi)(E:Value->Shared->Prop)(use:Option (Value->Sem Unit))(Q:Value->Shared->Prop)(env:Env)(acc:Value)(C:Addr)(r:K1)(s':Shared):Prop:=match r with
 |.ok f=>compPost M A E use Q acc C (.ok f) s'
 |.error x=>∃m,s'.heap.Ns C m/\∀h',Cp C s'.heap h'->wpAny M A (O4 "comprehension.variables-let-go" x env:Sem Value) (λ_ _=>False) E {s' with heap:=h'}
section
variable {M:P2} {A:Bi} {E:Value->Shared->Prop} {s:Shared} {env:Env}
theorem Jho{sc:Ia}{g:Comprehension}{use:Option (Value->Sem Unit)}{Q:Value->Shared->Prop}
  (h1:clausesOf e=g::gs)(h2:∀x,C4 g.iter env x=pure x)(h3:Ue sc env=pure cl)(h4:sc.kind=.function)(h5:∀y∈sc.names,y.2=.local->sc.names.lookup y.1=some .local)
  (h:wpAny M A fi (λx s1=>wpAny M A (pyIter x) (λit s2=>wpAny M A na (λacc s3=>wpAny M A (newFunctionEnv sc env.globals cl [] env.qual none .none (some env)) (λce s4=>ce.frame=env.frame/\
   F9 M A (.compStart e 0 it acc {ce with scope:=relabel sc env}) (compEnd M A E use Q env acc ce.locals) s4) E s3) E s2) E s1) E s):wpAny M A (comprehension e sc env pos na false fi use) Q E s:=by
 have up:∀{u:Value} {v:Shared},E u v->E u v:=λz=>z;unfold comprehension;rw[h3,h1];refine Aa (Bo h (λx s1 k1=>?_) λ_ _=>up);refine Aa (Ms (Aa (Oi (h2 x) ?_)));refine Aa (Bc (Bo k1 (λit s2 k2=>?_) λ_ _=>up));refine wpAny_standIf (Aa (Bo k2 (λacc s3 k3=>?_) λ_ _=>up));refine Aa (Ab (Aa (Bo k3 (λce s4 k4=>?_) λ_ _=>up)));obtain⟨fr,k4⟩:=k4;dsimp only;have loc:∀{l:List (Str×Fb)},(∀y∈l,y∈sc.names)->∀y∈l,y.2=.local->Env.kindOf {ce with scope:=relabel sc env} y.1=some .local:=λ{l} hl y hy yl=>lookup_relabel_local (h5 y (hl y hy) yl);have mem:∀{q:Str×Fb->Bool} {y},y∈(sc.names.filter q).reverse->y∈sc.names:=λz=>(Hq.mp (List.mem_reverse.mp z)).1;refine Bc (Aa (Du (Bc (wpAny_run (E9 k4 λr s5 k5=>?_)))));cases r with
 |error x=>
  obtain⟨m,hn,k6⟩:=k5;refine Aa (Bc (N5 (cenv:={ce with scope:=relabel sc env}) h4 _ s5 m (loc λy=>mem) hn λh' m' _ hs'=>?_));have z:=Bo (k6 h' hs') (λ_ _ z=>z.elim) (λ_ _=>up) (Q':=Q);unfold O4 at z ⊢;dsimp only;rw[fr];exact z
 |ok f=>
  cases use with
  |none=>
   obtain⟨m,hn,k6⟩:=k5;exact Aa (Bc (N5 (cenv:={ce with scope:=relabel sc env}) h4 _ s5 m (loc λy=>mem) hn λh' m' _ hs'=>Ab (k6 h' hs')))
  |some u=>
   refine Aa (Fz (Aa (Bc (Bo k5 (λ_ s6 k6=>?_) λ_ _=>up))));obtain⟨m,hn,k6⟩:=k6;refine Aa (N5 (cenv:={ce with scope:=relabel sc env}) h4 _ s6 m (loc λy hy=>?_) hn λh' m' _ hs'=>Ab (k6 h' hs'));exact(Bj.mp hy).elim (λz=>mem (List.mem_of_mem_drop z)) λz=>mem (Ks z)
end
def Zc(X:Cx)(s₃:Shared):Value->Shared->Prop:=λx s'=>∃m,s'.heap.Ns s₃.heap.objs.size m/\∀h',Cp s₃.heap.objs.size s'.heap h'->wpAny (model X.prog X.w) X.A (O4 "comprehension.variables-let-go" x X.env:Sem Value) (λ_ _=>False) X.xe {s' with heap:=h'}
abbrev Yz(X:Cx)(scope:Ia)(s₃:Shared):Value->Shared->Prop:=notedBy (model X.prog X.w) X.A (compEnvC scope (clOf X.env.cells scope.names []) s₃.heap.objs.size X.env) (Zc X s₃)
section
variable {X:Cx} {N':List Str} {k:Nat} {keep:List Nat} {scope:Ia} {elt tg iter:Expr} {ifs:List Expr} {pos:Pos} {wi:TI} {g:TG} {tc:TT} {te:TE}
def Jok{te':St->TE}{xe:St->Shared->Value->Shared->Prop}(c:V4 X N' k keep scope)(calm:X.calm=true)(hi:PI X tg iter wi)
  (hg:∀s₃ H ex pins U,PG (Vm X N' scope s₃ H ex pins (xe U s₃)) tg g)(hc:∀s₃ H ex pins U,PTs (Vm X N' scope s₃ H ex pins (xe U s₃)) ifs tc)(he:∀s₃ H ex pins U,Xl X pins U H s₃ ex->PE (Vm X N' scope s₃ H ex pins (xe U s₃)) elt (te' U))
  (hE:∀U s₃ e s',xe U s₃ e s'->Yz X scope s₃ e s')
  (hs:∀x,C4 iter X.env x=pure x):PE X (.ListComp elt [⟨tg,iter,ifs,0⟩] scope pos) (λU H Q=>Xm k keep wi g tc (te' U) U H Q):=by
 intro pins s U H Q I h;rw[eval_ListComp];refine Jho (use:=none) rfl hs (Jdb (c.clo I.ok)) c.kind c.names ?_;refine thn (hi pins s U H _ I h) λv s1 h1=>thn h1 λitv s2 h2=>?_;obtain⟨it,fp,tn,J,H2,e,I2,T,st2,f2,hW⟩:=h2;subst e;refine Jfq c (λ_ _=>calm) I2 T.toC st2 f2 (xe:=xe U) (λs₃ ex=>hg s₃ H2 ex pins U) (λs₃ ex=>hc s₃ H2 ex pins U) (λs₃ ex b=>he s₃ H2 ex pins U b) (λs₃ D e s' z=>hE U s₃ e s' z) hW (RR:=λacc C=>compEnd (model X.prog X.w) X.A X.xe none (EP X pins U Q) X.env acc C) ?_;intro D C s' H' xs m I' oD oC hDC new hn q;refine⟨m,hn,λh' hs'=>?_⟩;have I3:Inv X pins U (upd H' D (.lst xs)) s':=I'.adopt oD.1 oD.2.1 oD.2.2.1 oD.2.2.2.1 oD.2.2.2.2 new;have I4:Inv X pins U (upd H' D (.lst xs)) {s' with heap:=h'}:=I3.turned (t':=s'.toks) (it:=C) (λb o hb e=>hs'.extBut b o hb e) (by rw[Jac hDC.symm];exact oC.1) oC.2.2.1 (.inr oC.2.1) oC.2.2.2.1 oC.2.2.2.2;exact⟨.ref D,_,I4,rfl,q D oD.1⟩
def Jn8{te':St->TE}{xe:St->Shared->Value->Shared->Prop}{spos:Pos}(hN:X.N.Nodup)(hiy:X.N[i]? =some y)(hy:Loc X.env.scope y)(hf:X.fn y=true\/X.env.scope.names.lookup y=some .local)
  (hsw:Gp (.ListComp elt [⟨tg,iter,ifs,0⟩] scope pos) (some (.Name y py)) spos.line X.env=pure true)
  (c:V4 X N' k keep scope)(calm:X.calm=true)(hi:PI X tg iter wi)
  (hg:∀s₃ H ex pins U,PG (Vm X N' scope s₃ H ex pins (xe U s₃)) tg g)(hc:∀s₃ H ex pins U,PTs (Vm X N' scope s₃ H ex pins (xe U s₃)) ifs tc)(he:∀s₃ H ex pins U,Xl X pins U H s₃ ex->PE (Vm X N' scope s₃ H ex pins (xe U s₃)) elt (te' U))
  (hE:∀U s₃ e s',xe U s₃ e s'->Yz X scope s₃ e s')
  (hs:∀x,C4 iter X.env x=pure x):PS X (.Assign [.Name y py] (.ListComp elt [⟨tg,iter,ifs,0⟩] scope pos) spos) (Ym (λU H Q=>Xm k keep wi g tc (te' U) U H Q) (X4 i)):=by
 intro pins s U H D0 I h;rw[exec_Assign_Name_used _ _ _ _ hsw];refine Aa (Ms (Aa ?_));show wpAny _ X.A (do let _<-comprehension (.ListComp elt [⟨tg,iter,ifs,0⟩] scope pos) scope X.env _ (newList []) false (eval iter X.env) (some (assign (.Name y py) X.env))) _ _ s;refine Aa (Bo (Jho (use:=some (assign (.Name y py) X.env)) (Q:=λ_ s'=>SP X pins D0 .next s') rfl hs (Jdb (c.clo I.ok)) c.kind c.names ?_) (λ_ s' hq=>Ab (Ab hq)) λ_ _ e=>e);refine thn (hi pins s U H _ I h) λv s1 h1=>thn h1 λitv s2 h2=>?_;obtain⟨it,fp,tn,J,H2,e,I2,T,st2,f2,hW⟩:=h2;subst e;refine Jfq c (λ_ _=>calm) I2 T.toC st2 f2 (xe:=xe U) (λs₃ ex=>hg s₃ H2 ex pins U) (λs₃ ex=>hc s₃ H2 ex pins U) (λs₃ ex b=>he s₃ H2 ex pins U b) (λs₃ D e s' z=>hE U s₃ e s' z) hW (RR:=λacc C=>compEnd (model X.prog X.w) X.A X.xe (some (assign (.Name y py) X.env)) (λ_ s'=>SP X pins D0 .next s') X.env acc C) ?_;intro D C s' H' xs m I' oD oC hDC new hn q;have I3:Inv X pins U (upd H' D (.lst xs)) s':=I'.adopt oD.1 oD.2.1 oD.2.2.1 oD.2.2.2.1 oD.2.2.2.2 new;show wpAny _ X.A (assign (.Name y py) X.env (.ref D)) _ _ _;refine U1 (Jg6 I3 hN hiy hy (v:=.ref D) rfl (λs'' I5 hsb=>?_) hf);obtain⟨a,sb,ha⟩:=hsb;have hCa:C≠a:=by
  rcases ha with e|e
  ·rw[e];exact oC.2.2.1
  ·exact λz=>oC.2.2.2.1 y a e z.symm
 refine⟨m,hn.sameBut sb hCa,λh' hs'=>?_⟩;have I4:Inv X pins (U.set i (some (.ref D))) (upd H' D (.lst xs)) {s'' with heap:=h'}:=I5.turned (t':=s''.toks) (it:=C) (λb o hb e=>hs'.extBut b o hb e) (by rw[Jac hDC.symm];exact oC.1) oC.2.2.1 (.inr oC.2.1) oC.2.2.2.1 oC.2.2.2.2;exact⟨_,_,I4,q D oD.1⟩
def Jlq(c:V4 X N' k keep scope)(calm:X.calm=true)(hi:PI X tg iter wi)
  (hg:∀s₃ H ex pins,PG (Vm X N' scope s₃ H ex pins) tg g)(hc:∀s₃ H ex pins,PTs (Vm X N' scope s₃ H ex pins) ifs tc)(he:∀s₃ H ex pins,PE (Vm X N' scope s₃ H ex pins) elt te)
  (hs:∀x,C4 iter X.env x=pure x):PE X (.ListComp elt [⟨tg,iter,ifs,0⟩] scope pos) (Xm k keep wi g tc te):=
 Jok (te':=λ_=>te) (xe:=λ_ _ _ _=>False) c calm hi (λs₃ H ex pins _=>hg s₃ H ex pins) (λs₃ H ex pins _=>hc s₃ H ex pins) (λs₃ H ex pins _ _=>he s₃ H ex pins) (λ_ _ _ _ z=>z.elim) hs
def Jsx{spos:Pos}(hN:X.N.Nodup)(hiy:X.N[i]? =some y)(hy:Loc X.env.scope y)(hf:X.fn y=true\/X.env.scope.names.lookup y=some .local)
  (hsw:Gp (.ListComp elt [⟨tg,iter,ifs,0⟩] scope pos) (some (.Name y py)) spos.line X.env=pure true)(c:V4 X N' k keep scope)(calm:X.calm=true)(hi:PI X tg iter wi)
  (hg:∀s₃ H ex pins,PG (Vm X N' scope s₃ H ex pins) tg g)(hc:∀s₃ H ex pins,PTs (Vm X N' scope s₃ H ex pins) ifs tc)(he:∀s₃ H ex pins,PE (Vm X N' scope s₃ H ex pins) elt te)
  (hs:∀x,C4 iter X.env x=pure x):PS X (.Assign [.Name y py] (.ListComp elt [⟨tg,iter,ifs,0⟩] scope pos) spos) (Ym (Xm k keep wi g tc te) (X4 i)):=
 Jn8 (te':=λ_=>te) (xe:=λ_ _ _ _=>False) hN hiy hy hf hsw c calm hi (λs₃ H ex pins _=>hg s₃ H ex pins) (λs₃ H ex pins _=>hc s₃ H ex pins) (λs₃ H ex pins _ _=>he s₃ H ex pins) (λ_ _ _ _ z=>z.elim) hs
end
end L2
namespace LR
open PySem PySem.Spec PyProof.Rows PySem.F
section
variable {prog:Program} {w:World} {A:Bi} {E:Value->Shared->Prop} {s:Shared}
def X2(hl:IsTup s.heap l items):s.TypeIs (.ref l) "tuple":=let⟨o,ho,hc,_⟩:=hl;⟨o,ho,hc⟩
end
end LR
namespace L2
open PySem PySem.Spec PyProof.Rows
end L2
namespace HT
open PySem PySem.Spec PyProof.Rows
section
variable {prog:Program} {w:World} {A:Bi} {E:Value->Shared->Prop} {s:Shared}
def Jcl{t sl:Addr}{items:Array Value}{vl vu:Value}{lo hi:Option Int}{Q:Value->Shared->Prop}(ht:IsTup s.heap t items)(hs:s.heap.IsSliceOf sl vl vu .none)(pl:Lx vl lo)(pu:Lx vu hi)
  (hw:sIx items.size 0 lo=0/\sIx items.size items.size hi=items.size)(h:Q (.ref t) s):wpAny (model prog w) A (Ky (.ref t) (.ref sl)) Q E s:=by
 obtain⟨os,hos,hcs,hds⟩:=id hs;have hTs:s.TypeIs (.ref sl) "slice":=⟨os,hos,hcs⟩
 unfold Ky
 try with_reducible refine Bc ?_
 first|refine Aa (Ab ?_)|skip
 refine Aa (Uz ht.typeIs (by decide) ?_);refine Aa (Bv (name:=Ac "__getitem__") ht.typeIs B9
  (Bg B9 ht.typeIs Th ?_ (Us _ _)))
 show wpAny _ _ (G9 (.ref t)>>=_) _ _ s;refine Aa (Mx ht ?_);refine Aa (Fy hTs ?_);rw[if_pos (by decide)];refine Aa (Jbu hs pl pu ?_);show wpAny _ _ (if(((sIx items.size 0 lo:Nat):Int)==0&&(1:Int)==1&&(sIx items.size items.size hi-sIx items.size 0 lo)==items.size)=true then _ else _) _ _ s;rw[if_pos (by rw[hw.1,hw.2];simp)];refine Aa (m:=Ld (.ref t)) ?_;unfold Ld;refine Aa (Fy ht.typeIs ?_);refine Ab ?_;rw[if_pos (by decide)];exact Aa (Fz (Ab ⟨_,rfl,Ab h⟩))
end
end HT
namespace L2
open PySem PySem.Spec PyProof.Rows
variable {X:Cx}
def Was(K:Af):V->Option Int->Option Int->Hp->VK->Prop:=λx lo hi H Q=>∃a xs,x=.ref a/\SqT K H a xs/\
 (HT.sIx xs.length 0 lo=0/\HT.sIx xs.length xs.length hi=xs.length)/\Q (.ref a) H
def Jsg:SlR X (Was X.K):=by
 intro pins s U H x v vl vu lo hi sl Q I rx hs pl pu h;obtain⟨a,xs,rfl,hx,hw,q⟩:=h;cases rx;obtain⟨its,r,ht,hz⟩:=I.tuple hx;have hlen:its.toArray.size=xs.length:=by rw[Ar];exact r.length.symm
 exact⟨"tuple",_,B9.lookup,ht.typeIs,HT.Jcl ht hs pl pu (by rw[hlen];exact hw) ⟨.ref a,H,I,rfl,q⟩⟩
end L2
namespace L2
open PySem PySem.Spec PyProof.Rows
section
variable {κ:Type} [DecidableEq κ]
noncomputable def Wa(kvs:List (κ×V))(k:κ):Option V:=(kvs.find? λkv=>decide (kv.1=k)).map (·.2)
noncomputable def putK(kvs:List (κ×V))(k:κ)(v:V):List (κ×V):=
 if(kvs.any λkv=>decide (kv.1=k))=true then kvs.map (λkv=>if kv.1=k then(kv.1,v)else kv)else kvs++[(k,v)]
noncomputable def W8(kvs:List (κ×V))(k:κ):List (κ×V):=kvs.filter λkv=>decide (kv.1≠k)
def Jd2{p:κ×V}(e:p.1=k):Wa (p::r) k=some p.2:=by simp[Wa,Dh,e]
def Jd3{p:κ×V}(e:¬p.1=k):Wa (p::r) k=Wa r k:=by simp[Wa,Dh,e]
theorem Ji8(k:κ):∀kvs:List (κ×V),(kvs.any λkv=>decide (kv.1=k))=(Wa kvs k).isSome
 |[]=>rfl
 |p::r=>by
  rw[Fs]
  by_cases e:p.1=k
  ·simp only[Jd2 e,decide_eq_true e,Bool.true_or,Option.isSome_some]
  ·rw[Jd3 e,decide_eq_false e,Bool.false_or];exact Ji8 k r
def Jen(kvs:List (κ×V))(k:κ)(v:V):(putK kvs k v).length<=kvs.length+1:=by
 unfold putK;split
 ·rw[Ah];lia
 ·rw[Bf,A5,Ez];lia
theorem RelO.isSome_eq{o:Option V}{u:Option Value}(r:RelO o u):o.isSome=u.isSome:=by
 cases o with
 |none=>cases u with
  |none=>rfl
  |some _=>exact(show False from r).elim
 |some _=>cases u with
  |none=>exact(show False from r).elim
  |some _=>rfl
theorem RelO.getD{o:Option V}{u:Option Value}(r:RelO o u)(rd:RelV d d'):RelV (o.getD d) (u.getD d'):=by
 cases o with
 |none=>cases u with
  |none=>exact rd
  |some _=>exact(show False from r).elim
 |some _=>cases u with
  |none=>exact(show False from r).elim
  |some _=>exact r
theorem KV.val(r:KV kvs vs)(k:κ):RelO (Wa kvs k) (Nc vs k):=by
 unfold KV at r
 induction r with
 |nil=>exact E6
 |@cons p q ps qs h t ih=>
  obtain⟨h1,h2⟩:=h
  by_cases e:p.1=k
  ·have e':q.1=k:=h1.symm.trans e;have b:Nc (q::qs) k=some q.2:=by simp[Nc,Dh,e']
   rw[Jd2 e,b];exact h2
  ·have e':¬q.1=k:=λz=>e (h1.trans z);have b:Nc (q::qs) k=Nc qs k:=by simp[Nc,Dh,e']
   rw[Jd3 e,b];exact ih
theorem KV.any{kvs:List (κ×V)}{vs:List (κ×Value)}(r:KV kvs vs)(k:κ):(kvs.any λkv=>decide (kv.1=k))=vs.any λkv=>decide (kv.1=k):=by
 unfold KV at r
 induction r with
 |nil=>rfl
 |cons h t ih=>rw[Fs,Fs,ih,h.1]
theorem KV.repl{kvs:List (κ×V)}{vs:List (κ×Value)}(r:KV kvs vs)(k:κ)(ry:RelV y u):
  KV (kvs.map λkv=>if kv.1=k then(kv.1,y)else kv) (vs.map λkv=>if kv.1=k then(kv.1,u)else kv):=by
 unfold KV at r ⊢
 induction r with
 |nil=>exact .nil
 |@cons p q ps qs h t ih=>
  rw[Ay,Ay];refine .cons ?_ ih;obtain⟨h1,h2⟩:=h
  by_cases e:p.1=k
  ·rw[if_pos e,if_pos (h1.symm.trans e)];exact⟨h1,ry⟩
  ·rw[if_neg e,if_neg (λz=>e (h1.trans z))];exact⟨h1,h2⟩
def KV.put(r:KV kvs vs)(k:κ)(ry:RelV y u):KV (putK kvs k y) (stored vs k u):=by
 unfold putK stored;rw[r.any k]
 by_cases e:(vs.any λkv=>decide (kv.1=k))=true
 ·rw[if_pos e,if_pos e];exact r.repl k ry
 ·rw[if_neg e,if_neg e];exact Ul r ⟨rfl,ry⟩
def KV.length{kvs:List (κ×V)}{vs:List (κ×Value)}(r:KV kvs vs):kvs.length=vs.length:=Ce r
def Jpm(kvs:List (κ×V))(k:κ):(W8 kvs k).length<=kvs.length:=Kf _ _
end
theorem Jke(r:RelV (kV k) u):(mixKind P w).is k u=true:=by
 cases k with
 |inl i=>obtain⟨t,e⟩:=(show∃t,u=Dz i t from r);subst e;exact Jir P w i t
 |inr x=>obtain⟨t,e⟩:=(show∃t,u=Oo x t from r);subst e;exact Jiq P w x t
theorem Jeu:∀{ks:List Key} {us:List Value},Vals (ks.map kV) us->ItemsAre (mixKind P w) ks us
 |[],_,r=>by rw[Ga]at r;cases r;exact .nil
 |k::ks,_,r=>by
  rw[Ay]at r;cases r with
  |cons h t=>exact .cons (Jke h) (Jeu t)
abbrev KT(H:Hp):List (List Key×V)->List (List Key×Addr×Value)->Prop:=Paired λp q=>p.1=q.1/\H q.2.1=some (.tup (p.1.map kV))/\RelV p.2 q.2.2
theorem KT.val(r:KT H kvs xs)(k:List Key):RelO (Wa kvs k) ((Gs xs k).map (·.2)):=by
 induction r with
 |nil=>exact E6
 |@cons p q ps qs h t ih=>
  obtain⟨h1,_,h2⟩:=h
  by_cases e:p.1=k
  ·have e':q.1=k:=h1.symm.trans e;have b:Gs (q::qs) k=some q.2:=by simp[Gs,Dh,e']
   rw[Jd2 e,b];exact h2
  ·have e':¬q.1=k:=λz=>e (h1.trans z);have b:Gs (q::qs) k=Gs qs k:=by simp[Gs,Dh,e']
   rw[Jd3 e,b];exact ih
theorem KT.repl{kvs:List (List Key×V)}{xs:List (List Key×Addr×Value)}(r:KT H kvs xs)(k:List Key)(ry:RelV y u):
  KT H (kvs.map λkv=>if kv.1=k then(kv.1,y)else kv) (xs.map (putAt k u)):=by
 induction r with
 |nil=>exact .nil
 |@cons p q ps qs h t ih=>
  rw[Ay,Ay];refine .cons ?_ ih;obtain⟨h1,h2,h3⟩:=h;unfold putAt
  by_cases e:p.1=k
  ·rw[if_pos e,if_pos (h1.symm.trans e)];exact⟨h1,h2,ry⟩
  ·rw[if_neg e,if_neg (λz=>e (h1.trans z))];exact⟨h1,h2,h3⟩
def KT.put(r:KT H kvs xs)(k:List Key)(hb:H b=some (.tup (k.map kV)))(ry:RelV y u):
  KT H (putK kvs k y) (Pe xs k b u):=by
 have e:(kvs.any λkv=>decide (kv.1=k))=(Gs xs k).isSome:=by
  rw[Ji8,(r.val k).isSome_eq,Ex]
 unfold putK Pe;rw[e]
 by_cases q:(Gs xs k).isSome=true
 ·rw[if_pos q,if_pos q];exact r.repl k ry
 ·rw[if_neg q,if_neg q];exact Ul r ⟨rfl,hb,ry⟩
def KT.keeps(r:KT H kvs xs)(ht:∀b ys,H b=some (.tup ys)->H' b=some (.tup ys)):KT H' kvs xs:=
 Paired.mapP r λ_ _ z=>⟨z.1,ht _ _ z.2.1,z.2.2⟩
section
variable {P:Program} {w:World} {H:Hp} {h:Heap} {a:Addr}
def Jvu(ok:HOk P w H h)(e:Rd H a u):Vj P w H h a u:=e.ok ok
def Jgg{kvs:List (Key×V)}(ok:HOk P w H h)(e:Rd H a (.dK kvs)):kvs.length<=sizeLine/\(a==sysModules)=false/\∃vs,KV kvs vs/\h.DictOf (mixKind P w) a vs:=
 show Vj P w H h a (.dK kvs)from Jvu ok e
def Jzv{kvs:List (Key×V)}(ok:HOk P w H h)(e:H a=some (.dK kvs)):kvs.length<=sizeLine/\(a==sysModules)=false/\∃vs,KV kvs vs/\h.DictOf (mixKind P w) a vs:=Jgg ok (.inl e)
def Jer{ks:List Key}(ok:HOk P w H h)(e:H a=some (.tup (ks.map kV))):(tupleKind (mixKind P w)).is h ks a:=by
 obtain⟨_,its,r,o,h1,h2,n,h3⟩:=(show Vj P w H h a (.tup (ks.map kV))from ok a _ e)
 exact⟨o,its.toArray,n,h1,h2,h3,by simpa using Jeu r⟩
def Jd0{kvs:List (List Key×V)}(ok:HOk P w H h)(e:Rd H a (.dT kvs)):kvs.length<=sizeLine/\(a==sysModules)=false/\
  ∃xs,KT H kvs xs/\h.DictOfH (tupleKind (mixKind P w)) a xs:=by
 obtain⟨z,y,xs,r,o,es,ep,h1,h2,h3,h4,h5⟩:=(show Vj P w H h a (.dT kvs)from Jvu ok e)
 refine⟨z,y,xs,r,o,es,ep,h1,h2,h3,h4,λx hx=>?_,h5⟩;have all:∀{l:List (List Key×V)} {m:List (List Key×Addr×Value)},KT H l m->∀x∈m,(tupleKind (mixKind P w)).is h x.1 x.2.1:=by
  intro l m q
  induction q with
  |nil=>intro x hx;exact nomatch hx
  |@cons p q ps qs hq t ih=>
   intro x hx;rcases An.mp hx with e|hx
   ·subst e;exact Jer ok (by rw[<-hq.1];exact hq.2.1)
   ·exact ih x hx
 exact all r x hx
def Jt7{kvs:List (List Key×V)}(ok:HOk P w H h)(e:H a=some (.dT kvs)):kvs.length<=sizeLine/\(a==sysModules)=false/\
  ∃xs,KT H kvs xs/\h.DictOfH (tupleKind (mixKind P w)) a xs:=Jd0 ok (.inl e)
end
def Xd(H:Hp)(a:Addr)(y:V)(r:Option V):Prop:=
 (∃kvs k,Rd H a (.dK kvs)/\y=kV k/\r=Wa kvs k)\/∃kvs k b,Rd H a (.dT kvs)/\y=.ref b/\H b=some (.tup (k.map kV))/\r=Wa kvs k
def X1(H:Hp)(a:Addr)(y v:V)(H':Hp):Prop:=
 (∃kvs k,H a=some (.dK kvs)/\y=kV k/\kvs.length<sizeLine/\H'=upd H a (.dK (putK kvs k v)))\/
 ∃kvs k b,H a=some (.dT kvs)/\y=.ref b/\H b=some (.tup (k.map kV))/\kvs.length<sizeLine/\H'=upd H a (.dT (putK kvs k v))
def Xd.t{k:List Key}(e:H a=some (.dT kvs))(eb:H b=some (.tup (k.map kV))):Xd H a (.ref b) (Wa kvs k):=.inr ⟨kvs,k,b,.inl e,rfl,eb,rfl⟩
def X1.k{H:Hp}{a:Addr}{kvs:List (Key×V)}{k:Key}{v:V}(e:H a=some (.dK kvs))(hl:kvs.length<sizeLine):X1 H a (kV k) v (upd H a (.dK (putK kvs k v))):=.inl ⟨kvs,k,e,rfl,hl,rfl⟩
def X1.t{kvs:List (List Key×V)}{k:List Key}(e:H a=some (.dT kvs))(eb:H b=some (.tup (k.map kV)))(hl:kvs.length<sizeLine):
  X1 H a (.ref b) v (upd H a (.dT (putK kvs k v))):=.inr ⟨kvs,k,b,e,rfl,eb,hl,rfl⟩
section
variable {X:Cx} {pins:List (Addr×Obj)} {U:St} {H:Hp} {s:Shared} {a:Addr} {y v:V} {u r:Value} {o:Option V} {A:Bi} {E:Value->Shared->Prop}
def Inv.big(I:Inv X pins U H s):sysModules<s.heap.objs.size:=by
 have h:A7<s.heap.objs.size:=(I.mod.glob.keeps I.bk).lt;exact E5 (by decide) h
def Jmy{Q:Value->Shared->Prop}(hu:A.units+1<C0)(I:Inv X pins U H s)(g:Xd H a y (some v))(ry:RelV y u)(h:∀w' s',Inv X pins U H s'->RelV v w'->Q w' s'):
  wpAny (model X.prog X.w) A (Ky (.ref a) u) Q E s:=by
 rcases g with⟨kvs,k,e,ey,l⟩|⟨kvs,k,b,e,ey,eb,l⟩
 ·subst ey;obtain⟨z,hd,vs,rel,dd⟩:=Jgg I.hok e;obtain⟨w',hw,rw'⟩:=RelO.some_of (v:=v) (o:=Nc vs k) (by rw[l];exact rel.val k);exact wpAny_getItem_of (Jke ry) dd.mapOf hw (h w' _ (I.tok _) rw')
 ·subst ey;cases(show u=Aq b from ry);obtain⟨z,hd,xs,rel,dd⟩:=Jd0 I.hok e;obtain⟨w',hw,rw'⟩:=RelO.some_of (v:=v) (o:=(Gs xs k).map (·.2)) (by rw[l];exact rel.val k);obtain⟨p,hp,hp2⟩:=Al.mp hw;refine T8 (Dp hu) (Jer I.hok eb) dd hp ?_;rw[hp2];exact h w' _ (I.tok _) rw'
def Wc5{Q:Value->Shared->Prop}(hu:A.units+1<C0)(I:Inv X pins U H s)(g:Xd H a y o)(ry:RelV y u)(h:∀s',Inv X pins U H s'->Q (.bool o.isSome) s'):
  wpAny (model X.prog X.w) A (D8 .In u (.ref a)) Q E s:=by
 rcases g with⟨kvs,k,e,ey,l⟩|⟨kvs,k,b,e,ey,eb,l⟩
 ·subst ey;obtain⟨z,hd,vs,rel,dd⟩:=Jgg I.hok e;refine wpAny_in_of (Jke ry) hd dd.mapOf ?_;rw[<-(rel.val k).isSome_eq,<-l];exact h _ (I.tok _)
 ·subst ey;cases(show u=Aq b from ry);obtain⟨z,hd,xs,rel,dd⟩:=Jd0 I.hok e;refine wpAny_in_heap (Dp hu) (Jer I.hok eb) hd dd ?_;have q:=(rel.val k).isSome_eq;rw[Ex]at q;rw[<-q,<-l];exact h _ (I.tok _)
def Jt8{Q:Value->Shared->Prop}(hu:A.units+1<C0)(I:Inv X pins U H s)(g:Xd H a y o)(ry:RelV y u)(h:∀s',Inv X pins U H s'->Q (.bool (!o.isSome)) s'):
  wpAny (model X.prog X.w) A (D8 .NotIn u (.ref a)) Q E s:=by
 rcases g with⟨kvs,k,e,ey,l⟩|⟨kvs,k,b,e,ey,eb,l⟩
 ·subst ey;obtain⟨z,hd,vs,rel,dd⟩:=Jgg I.hok e;refine wpAny_notIn_of (Jke ry) hd dd.mapOf ?_;rw[<-(rel.val k).isSome_eq,<-l];exact h _ (I.tok _)
 ·subst ey;cases(show u=Aq b from ry);obtain⟨z,hd,xs,rel,dd⟩:=Jd0 I.hok e;refine wpAny_notIn_heap (Dp hu) (Jer I.hok eb) hd dd ?_;have q:=(rel.val k).isSome_eq;rw[Ex]at q;rw[<-q,<-l];exact h _ (I.tok _)
def Jgk{h':Heap}(I:Inv X pins U H s)(mu:Mut (H a))(hs:Cp a s.heap h')(he:∃q,h'.get? a=some q)(new:Vj X.prog X.w (upd H a ob) h' a ob):
  Inv X pins U (upd H a ob) {s with heap:=h',toks:=t'}:=
 I.write (x:=a) (e:=a) mu (.inl rfl) (λb q hb z=>(hs.2 b hb).trans z) he new
def Jq7{h':Heap}{kvs:List (Key×V)}(z:kvs.length<=sizeLine)(hd:(a==sysModules)=false)(rel:KV kvs vs)(dd:h'.DictOf (mixKind P w) a vs):
  Vj P w H' h' a (.dK kvs):=⟨z,hd,vs,rel,dd⟩
def Jhn{Q:Unit->Shared->Prop}(hu:A.units+1<C0)(I:Inv X pins U H s)(g:X1 H a y v H')(ry:RelV y u)(rv:RelV v r)(h:∀s',Inv X pins U H' s'->Q () s'):
  wpAny (model X.prog X.w) A (U3 (.ref a) u r) Q E s:=by
 rcases g with⟨kvs,k,e,ey,l,eH⟩|⟨kvs,k,b,e,ey,eb,l,eH⟩
 ·subst ey eH;obtain⟨z,hd,vs,rel,dd⟩:=Jzv I.hok e;have hz:vs.length<=sizeLine:=by rw[<-rel.length];exact z
  have hl:(putK kvs k v).length<=sizeLine:=by have:=Jen kvs k v;lia
  refine wpAny_setItem_pairs (hsz:=hz) (Jke ry) dd λh' dd' hs=>h _ ?_;have he:∃q,h'.get? a=some q:=let⟨q,_,_,hq,_⟩:=dd';⟨q,hq⟩;exact Jgk I (by rw[e];exact E6) hs he (Jq7 hl hd (rel.put k rv) dd')
 ·subst ey eH;cases(show u=Aq b from ry);obtain⟨z,hd,xs,rel,dd⟩:=Jt7 I.hok e;have hz:xs.length<=sizeLine:=by rw[<-Ce rel];exact z
  have hl:(putK kvs k v).length<=sizeLine:=by have:=Jen kvs k v;lia
  refine T7 (hsz:=hz) (Dp hu) (Jer I.hok eb) dd λh' dd' hs=>h _ ?_;obtain⟨q,es,ep,hq,h2,h3,h4,_,h5⟩:=dd';refine Jgk I (by rw[e];exact E6) hs ⟨q,hq⟩ ⟨hl,hd,_,(rel.put k eb rv).keeps λc ys ec=>?_,q,es,ep,hq,h2,h3,h4,h5⟩;rw[Jac (Je9 ec e (λz=>nomatch z))];exact ec
end
section
variable {X:Cx} {pins:List (Addr×Obj)} {U:St} {H:Hp} {s:Shared} {a:Addr} {kvs:List (Key×V)} {k:Key} {u:Value} {A:Bi} {E:Value->Shared->Prop}
def Jzx{Q:Value->Shared->Prop}(I:Inv X pins U H s)(e:Rd H a (.dK kvs))(h:∀t s',Inv X pins U H s'->Q (.int kvs.length t) s'):wpAny (model X.prog X.w) A (call (.builtin "len") [.ref a]) Q E s:=by
 obtain⟨z,hd,vs,rel,dd⟩:=Jgg I.hok e;refine call_len_dict hd dd (by rw[<-rel.length];rw[G4]at z;lia) ?_;rw[<-rel.length];exact h _ _ (I.tok _)
end
def Jix{s:Shared}(I:Inv X pins U H s)(g:Xd H a y o):s.TypeIs (.ref a) "dict":=by
 rcases g with⟨kvs,k,e,_,_⟩|⟨kvs,k,b,e,_,_,_⟩
 ·obtain⟨_,_,vs,_,dd⟩:=Jgg I.hok e;exact dd.typeIs
 ·obtain⟨_,_,xs,_,dd⟩:=Jd0 I.hok e;exact dd.typeIs
section
variable {X:Cx} {o i e value:Expr} {pos pos' tpos:Pos} {td ty tv:TE}
end
def Jpn(h:Heap)(hb:sysModules<h.objs.size):Vj P w H (h.push {cls:=.type "dict",data:=.dict #[]}) h.objs.size (.dK []):=
 ⟨Cz _,beq_eq_false_iff_ne.mpr (Df (Au hb)),[],.nil,Heap.DictOf.new h⟩
def Jpl(h:Heap)(hb:sysModules<h.objs.size):Vj P w H (h.push {cls:=.type "dict",data:=.dict #[]}) h.objs.size (.dT []):=
 ⟨Cz _,beq_eq_false_iff_ne.mpr (Df (Au hb)),[],.nil,_,#[],0,Ak _ rfl,⟨rfl,rfl,rfl⟩,rfl,rfl,Ii⟩
def Zr:TE:=λ_ H Q=>∀p,H p=none->Q (.ref p) (upd H p (.dK []))
def Zq:TE:=λ_ H Q=>∀p,H p=none->Q (.ref p) (upd H p (.dT []))
section
variable {X:Cx} {pos:Pos}
def Joj:PE X (.Dict [] [] pos) Zr:=λpins s U H Q I h=>
 N6 ⟨.ref s.heap.objs.size,_,I.laid (a:=s.heap.objs.size) (o:=.dK []) (t':=s.toks) (λ_ _ q=>Ad _ q) (Aj _) (Jpn s.heap I.big),rfl,h _ (I.hok.fresh (Aj _))⟩
def Joh:PE X (.Dict [] [] pos) Zq:=λpins s U H Q I h=>
 N6 ⟨.ref s.heap.objs.size,_,I.laid (a:=s.heap.objs.size) (o:=.dT []) (t':=s.toks) (λ_ _ q=>Ad _ q) (Aj _) (Jpl s.heap I.big),rfl,h _ (I.hok.fresh (Aj _))⟩
end
def IsD(H:Hp)(a:Addr):Prop:=(∃kvs,Rd H a (.dK kvs))\/∃kvs,Rd H a (.dT kvs)
def Jme{s:Shared}(I:Inv X pins U H s)(d:IsD H a):
  s.TypeIs (.ref a) "dict"/\(∀b,Aq a=.ref b->∃ob,s.heap.get? b=some ob/\ob.dict=none)/\(a==sysModules)=false:=by
 rcases d with⟨kvs,e⟩|⟨kvs,e⟩
 ·obtain⟨_,hd,vs,_,dd⟩:=Jgg I.hok e;refine⟨dd.typeIs,λb q=>?_,hd⟩;cases q;obtain⟨ob,_,_,h1,h2,_⟩:=dd;exact⟨ob,h1,h2.2.1⟩
 ·obtain⟨_,hd,xs,_,dd⟩:=Jd0 I.hok e;refine⟨dd.typeIs,λb q=>?_,hd⟩;cases q;obtain⟨ob,_,_,h1,h2,_⟩:=dd;exact⟨ob,h1,h2.2.1⟩
section
variable {X:Cx} {pins:List (Addr×Obj)} {U:St} {H:Hp} {s:Shared} {a:Addr} {y d:V} {u r:Value} {o:Option V} {A:Bi} {E:Value->Shared->Prop}
theorem Jx1{Q:Value->Shared->Prop}(hu:A.units+1<C0)(I:Inv X pins U H s)(g:Xd H a y o)(ry:RelV y u)(h:∀w' s',Inv X pins U H s'->RelV (o.getD .non) w'->Q w' s'):
  wpAny (model X.prog X.w) A (call (.builtin "dict.get") [.ref a,u]) Q E s:=by
 rcases g with⟨kvs,k,e,ey,l⟩|⟨kvs,k,b,e,ey,eb,l⟩
 ·subst ey;obtain⟨z,hd,vs,rel,dd⟩:=Jgg I.hok e;refine Rc G0 dd.typeIs Ob (Ny _ _) (meets_dict_get (mixKind X.prog X.w) a (Jke ry) hd) ⟨_,dd.mapOf,h _ _ (I.tok _) ?_⟩;rw[l];exact(rel.val k).getD rfl
 ·subst ey;cases(show u=Aq b from ry);obtain⟨z,hd,xs,rel,dd⟩:=Jd0 I.hok e;refine Rc G0 dd.typeIs Ob (Ny _ _) (meetsH_dict_get (tupleKind (mixKind X.prog X.w)) a b hd) ⟨Dp hu,k,xs,Jer I.hok eb,dd,h _ _ (I.tok _) ?_⟩;rw[l];exact(rel.val k).getD rfl
end
section
variable {X:Cx} {o e f:Expr} {apos cpos:Pos} {td ty tx:TE}
end
section
variable {X:Cx} {pins:List (Addr×Obj)} {U:St} {H:Hp} {s:Shared} {a:Addr} {kvs:List (Key×V)} {A:Bi} {E:Value->Shared->Prop}
def Jpp{Q:Value->Shared->Prop}(I:Inv X pins U H s)(e:Rd H a (.dK kvs))(h:∀p s',H p=none->Inv X pins U (upd H p (.dK kvs)) s'->Q (.ref p) s'):wpAny (model X.prog X.w) A (call (.type "dict") [.ref a]) Q E s:=by
 obtain⟨z,hd,vs,rel,dd⟩:=Jgg I.hok e;refine kt_call_dict hd dd (by rw[<-rel.length];exact z) λh' dd' hs=>?_;refine h _ _ (I.hok.fresh (Aj _)) (I.laid (a:=s.heap.objs.size) (o:=.dK kvs) (t':=s.toks) (λb q hq=>?_) (Aj _) (Jq7 z (beq_eq_false_iff_ne.mpr (Df (Au I.big))) rel dd'));exact(hs.2 b (Au (Am hq))).trans (Ad _ hq)
end
section
variable {X:Cx} {pins:List (Addr×Obj)} {U:St} {H:Hp} {s:Shared} {a:Addr} {y:V} {u:Value} {A:Bi} {E:Value->Shared->Prop}
end
end L2
namespace LZ
open PySem PyProof.Rows
open AutoSeq1 (wpAny_loadPart')
section
variable {prog:Program} {w:World} {A:Bi} {E:Value->Shared->Prop} {s:Shared}
def nx{Q:Value->Shared->Prop}(h1:s.heap.IsTupleIter j u i)(h2:s.heap.IsTuple u us)(h3:us[i]? =some x)
  (k:∀h',h'.IsTupleIter j u (i+1)->Cp j s.heap h'->Q x {s with heap:=h'}):wpAny (model prog w) A (Cy (.ref j)) Q E s:=by
 obtain⟨o,eo,c,d⟩:=id h1;obtain⟨ot,et,_,n,dt⟩:=h2;unfold Cy;refine Aa (Bv (name:=Ac "__next__") h1.typeIs Gg (Bg Gg h1.typeIs Oy ?_ (Oc _)));show wpAny _ _ (Qx (.ref j) 0>>=_) _ _ s;refine Aa (B7 eo d (x:=.ref u) rfl ?_);show wpAny _ _ (if(Aq u==Cj)=true then _ else _) _ _ s;rw[if_neg (show¬((Aq u==Cj)=true)from Aw)];show wpAny _ _ (Qx (.ref j) 1>>=_) _ _ s;refine Aa (B7 eo d (x:=.int i 0) rfl ?_);show wpAny _ _ (Qw (.ref u)>>=_) _ _ s;refine Aa (Ee et dt ?_);simp only[Ed,h3];refine Aa (Jq eo d (by simp) (Ab ⟨x,rfl,Ab (k _ ?_ (C5 ..))⟩));exact⟨_,Cw _ eo (Qd (Io d _)),(R6 ..).trans c,by rw[Io d];simp[rawInt]⟩
def Jwr{Q:Value->Shared->Prop}(hh:A.handled=none)(h1:s.heap.IsTupleIter j u i)(h2:s.heap.IsTuple u us)(h3:us[i]? =none)
  (k:∀h' e,M0 j s.heap h'->(∃o,h'.get? e=some o/\o.cls=.type "StopIteration")->E (.ref e) {s with heap:=h'}):wpAny (model prog w) A (Cy (.ref j)) Q E s:=by
 obtain⟨o,eo,c,d⟩:=id h1;obtain⟨ot,et,_,n,dt⟩:=h2;unfold Cy;refine Aa (Bv (name:=Ac "__next__") h1.typeIs Gg (Bg Gg h1.typeIs Oy ?_ (Oc _)));show wpAny _ _ (Qx (.ref j) 0>>=_) _ _ s;refine Aa (B7 eo d (x:=.ref u) rfl ?_);show wpAny _ _ (if(Aq u==Cj)=true then _ else _) _ _ s;rw[if_neg (show¬((Aq u==Cj)=true)from Aw)];show wpAny _ _ (Qx (.ref j) 1>>=_) _ _ s;refine Aa (B7 eo d (x:=.int i 0) rfl ?_);show wpAny _ _ (Qw (.ref u)>>=_) _ _ s;refine Aa (Ee et dt ?_);simp only[Ed,h3];refine Aa (Fz (Aa (Jq eo d (by simp) ?_)));show wpAny _ _ (Rb (.type "StopIteration") []>>=_) _ _ _;refine Aa ?_;simp only[Rb,newTuple];refine Aa (Bq ?_ (by size_fits));refine Aa (m:=Hh _ _) (Oi (a:=Cj) (by first|rfl|(simp only[Hh];rfl)) ?_);refine Bq ?_ (by size_fits);simp only[raiseNew];refine Aa (Qn ?_);first|rw[show A.in1.handled=none from hh]|rw[hh]
 refine Aa (Ab (Se ?_));exact k _ _ (((C5 ..).extBut.push _).push _) ⟨_,Ak _ rfl,rfl⟩
end
def Sr(b:Bool)(h:Heap)(l:Addr)(its:Array Value):Prop:=if b=true then h.IsList l its else h.IsTuple l its
def Ir(b:Bool)(h:Heap)(it l:Addr)(i:Nat):Prop:=if b=true then h.IsListIter it l i else h.IsTupleIter it l i
def Ir.obj{h:Heap}(x:Ir b h it l i):∃o fs,h.get? it=some o/\o.data=.fields fs:=by
 cases b
 ·obtain⟨o,e,_,d⟩:=(show h.IsTupleIter it l i from x);exact⟨o,_,e,d⟩
 ·obtain⟨o,e,_,d⟩:=(show h.IsListIter it l i from x);exact⟨o,_,e,d⟩
def Ir.at{h h':Heap}(x:Ir b h it l i)(k:∀o,h.get? it=some o->h'.get? it=some o):Ir b h' it l i:=by
 cases b
 ·exact(show h.IsTupleIter it l i from x).at k
 ·exact(show h.IsListIter it l i from x).at k
def Sr.lt{h:Heap}(x:Sr b h l its):l<h.objs.size:=by
 cases b
 ·obtain⟨o,e,_⟩:=(show h.IsTuple l its from x);exact Am e
 ·obtain⟨o,e,_⟩:=(show h.IsList l its from x);exact Am e
def draw{A:Bi}(b:Bool)(hh:A.handled=none)(it l:Addr)(hne:l≠it)(items:Array Value):Draws prog w A it [it,l] items.size (λi v=>items[i]? =some v) (λi h=>Ir b h it l i/\Sr b h l items):=by
 cases b
 ·exact{live:=λ_ _ st=>let⟨o,_,ho,_⟩:=st.1.obj;⟨o,ho⟩,frame:=λi h h' st hk=>⟨st.1.at λo e=>hk it (by simp) o e,(show h.IsTuple l items from st.2).at λo e=>hk l (by simp) o e⟩,item:=λi s Q E hi st hQ=>nx st.1 st.2 (x:=items[i]) (by simp[hi]) λh' hit' hs'=>hQ _ h' s.toks (by simp[hi]) ⟨hit',(show s.heap.IsTuple l items from st.2).extBut hs'.extBut hne⟩ hs',done:=λs Q E st hE=>Jwr hh st.1 st.2 (by simp) hE}
 ·exact Draws.list hh it l hne items
def Jis(l:Addr)(items:Array Value)(n:Nat)(dct:Option Addr)(sl:Array (Option Value)):
  Meets (Builtin.«enumerate.__new__» ⟨[.type "enumerate",.ref l],[]⟩) (λ_ R s=>s.heap.get? l=some {cls:=.type "tuple",dict:=dct,data:=.seq items n,slots:=sl}/\
   R (.ok (.ret (.ref (s.heap.push {cls:=.type "tuple_iterator",data:=.fields #[.ref l,.int 0 0]}).objs.size)))
    {s with heap:=(s.heap.push {cls:=.type "tuple_iterator",data:=.fields #[.ref l,.int 0 0]}).push {cls:=.type "enumerate",data:=.fields #[.none,.bool false,.ref s.heap.objs.size,rawInt 0,.none,.none]}}):=
 .of_wp λprog w A R s h=>by
  obtain⟨hp,g,d,tk,os⟩:=s;obtain⟨hl,h⟩:=h;have hsub:=sub_enumerate;have hL:U9 (Ph ⟨hp,g,d,tk,os⟩) l items:=⟨_,hl,rfl,n,rfl⟩
  wp_walk using K4 hl
  refine wpAny_stack_any λst=>Ab ?_;split
  ·rename_i c _ _ _ _ _;cases(c==Ea "enumerate")<;>(wp_walk using K4 hl,Jr hL;exact⟨_,rfl,h⟩)
  ·wp_walk using K4 hl,Jr hL
   exact⟨_,rfl,h⟩
def Jm7{E:Value->Shared->Prop}{s:Shared}{Q:Value->Shared->Prop}(hL:Sr b s.heap l items)
  (h:∀h',IsEnum h' (s.heap.objs.size+1) s.heap.objs.size 0 .none->Ir b h' s.heap.objs.size l 0->
   (∀b o,s.heap.get? b=some o->h'.get? b=some o)->Q (.ref (s.heap.objs.size+1)) {s with heap:=h'}):
  wpAny (model prog w) A (call (.type "enumerate") [.ref l]) Q E s:=by
 cases b
 ·obtain⟨⟨c,dct,dt,sl⟩,hl,hc,n,hd⟩:=(show s.heap.IsTuple l items from hL)
  replace hc:c=.type "tuple":=hc
  replace hd:dt=.seq items n:=hd
  subst hc hd;refine callType_new F.called_enumerate (by decide) (F.typeCall_enumerate_1 _) (F.newCall_enumerate_1 _) (λobj=>F.args_object_init_2 obj _) F.entry_enumerate_new (Jis l items n dct sl) ⟨hl,?_⟩;have hz:(s.heap.push {cls:=.type "tuple_iterator",data:=.fields #[.ref l,.int 0 0]}).objs.size=s.heap.objs.size+1:=Cd ..;show _/\_;have he:=Ak (s.heap.push {cls:=.type "tuple_iterator",data:=.fields #[.ref l,.int 0 0]}) (o:={cls:=.type "enumerate",data:=.fields #[.none,.bool false,.ref s.heap.objs.size,rawInt 0,.none,.none]}) rfl;rw[hz]at he ⊢;exact⟨⟨_,he,rfl⟩,h _ he ⟨_,Ad _ (Ak _ rfl),rfl,rfl⟩ λb o x=>Ad _ (Ad _ x)⟩
 ·exact call_enumerate_list hL λh' z j _ k=>h h' z j k
end LZ
namespace L2
open PySem PySem.Spec PyProof.Rows LZ
def Inv.turnedL{s:Shared}{h':Heap}{fp:List Addr}(I:Inv X pins U H s)(k:∀b o,b∉fp->s.heap.get? b=some o->h'.get? b=some o)(hf:∀b∈fp,Ws X pins H b):Inv X pins U H {s with heap:=h',toks:=t'}:=by
 have nit:∀b u,H b=some u->b∉fp:=λb u e z=>by rw[(hf b z).1]at e;cases e
 refine I.step (g':=s.gens) (d':=s.drawn) (ch:=fp) (λb hb=>?_) (λb o _ _ hc e _=>k b o hc e) (λb o _ _ hc e _=>⟨o.slots,k b o hc e⟩) (λ_ _ _ _ n=>n)
  (λb o hc e=>⟨o,k b o hc e⟩) (λ_ _ e=>e) (λ_ _ _ e=>e) (λb ps e=>⟨#[],by rw[e];simp⟩) (λm hm=>?_) (λb u e=>?_) I.bare
 ·obtain⟨f0,f1,f2,f3,f4,f5⟩:=hf b hb;exact⟨f3,f1,f4,f5⟩
 ·obtain⟨o,es,ep,ho,r⟩:=hm;exact⟨o,es,ep,k _ o (λz=>(hf _ z).2.1 rfl) ho,r⟩
 ·refine(I.hok b u e).stay (λc v hc q=>k c v ?_ q) (λ_ q=>q) λ_ _ q=>q;rcases hc with z|z
  ·rw[z];exact nit b u e
  ·exact nit c _ z
def SqB(b:Bool)(K:Af)(H:Hp)(l:Addr)(xs:List V):Prop:=if b=true then SqL K H l xs else SqT K H l xs
def SqB.sr{X:Cx}{s:Shared}(I:Inv X pins U H s)(h:SqB b X.K H l xs):∃its:List Value,Vals xs its/\Sr b s.heap l its.toArray:=by
 cases b
 ·obtain⟨its,rv,p,_⟩:=I.tuple h;exact⟨its,rv,p⟩
 ·obtain⟨its,rv,p,_⟩:=I.list h;exact⟨its,rv,p.isList⟩
def SqB.inj{X:Cx}(I:Inv X pins U H s)(h:SqB b X.K H l xs)(h':SqB b X.K H l ys):xs=ys:=by
 cases b
 ·exact I.tuple_inj h h'
 ·exact I.list_inj h h'
def Ite(b:Bool)(K:Af)(l:Addr):It:=
 ⟨λi H=>∃xs x,SqB b K H l xs/\xs[i]? =some x,
  λi H v H'=>∃p x,H p=none/\v=.ref p/\H'=upd H p (.tup [.int i,x])/\∀xs,SqB b K H l xs->xs[i]? =some x,
  λi H=>∃xs,SqB b K H l xs/\xs.length=i⟩
def Z9(b:Bool)(e it l:Addr)(i:Nat)(h:Heap):Prop:=(∃old,IsEnum h e it i old)/\Ir b h it l i
def Jkz{P:Program}{w:World}{K:Af}{elts:List Expr}{x1:Nat}{tp:Pos}{b:Bool}(e it l:Addr)(hei:e≠it)(hl1:l≠it)(hl2:l≠e):
  Turn P w K (.Tuple elts x1 tp) (Ite b K l) [e,it] e (Z9 b e it l)where
 mem:=by simp
 obj:=λi h st b hb=>by
  obtain⟨⟨old,he⟩,h1⟩:=st;obtain⟨o1,fs,e1,d1⟩:=h1.obj;simp only[An,A1,or_false]at hb;rcases hb with rfl|rfl
  ·exact⟨_,he,λv q=>by cases q⟩
  ·exact⟨o1,e1,λv q=>by rw[d1]at q;cases q⟩
 keep:=λi h h' st k=>by
  obtain⟨⟨old,he⟩,h1⟩:=st;exact⟨⟨old,k e (by simp) _ he⟩,h1.at λo q=>k it (by simp) o q⟩
 item:=by
  intro X hP hw hK hc i pins s U H E I hf st hg;subst hP hw hK;obtain⟨xs,x,hq,hx⟩:=hg;obtain⟨⟨old,he⟩,hi⟩:=st;obtain⟨oi,_,hoi,_⟩:=hi.obj;obtain⟨its,rv,p⟩:=hq.sr I;obtain⟨u,hu,ru⟩:=rv.get hx;have hlt:i<its.toArray.size:=by simpa using(Ae.mp hu).1
  refine wpAny_pyNext_enum_itemD (draw (A:=X.A.in1) b (I.ok.hd hc) it l hl1 its.toArray) he ⟨hi,p⟩ hlt hei (by simp[hei,Df hl2]) λu' h' tk pu z1 j1 pr sz kk=>?_;obtain rfl:u=u':=by rw[List.getElem?_toArray,hu]at pu;exact Bb pu
  refine⟨_,rfl,wpAny_letOwnedTupleGo_enum (s:={s with heap:=h',toks:=tk+1}) z1 λh2 z2 sb=>?_⟩;have hf0:H s.heap.objs.size=none:=I.hok.fresh (Aj _);have I0:Inv X pins U (upd H s.heap.objs.size (.tup [.int i,x])) {s with heap:=s.heap.push {cls:=.type "tuple",data:=.seq #[.int i tk,u]},toks:=tk+1}:=
   I.laid (t':=tk+1) (λb o e=>Ad _ e) (Aj _) ⟨by show 2<=sizeLine;decide,[.int i tk,u],.cons ⟨_,rfl⟩ (.cons ru .nil),⟨_,Ak _ rfl,rfl,_,rfl⟩⟩
  have hf':∀b∈[e,it],Ws X pins (upd H s.heap.objs.size (.tup [.int i,x])) b:=λb hb=>by
   have nb:b≠s.heap.objs.size:=λq=>by
    simp only[An,A1,or_false]at hb;rcases hb with rfl|rfl
    ·exact absurd (Am he) (by rw[q];exact Em _)
    ·exact absurd (Am hoi) (by rw[q];exact Em _)
   obtain⟨f0,f1,f2,f3,f4,f5⟩:=hf b hb;exact⟨by rw[Jac nb];exact f0,f1,f2,f3,f4,f5⟩
  have I1:Inv X pins U (upd H s.heap.objs.size (.tup [.int i,x])) {s with heap:=h2,toks:=tk+1}:=by
   refine Inv.turnedL (s:={s with heap:=s.heap.push {cls:=.type "tuple",data:=.seq #[.int i tk,u]},toks:=tk+1}) (h':=h2) (t':=tk+1) (fp:=[e,it]) I0 (λb o hb q=>?_) hf'
   replace q:(s.heap.push {cls:=.type "tuple",data:=.seq #[.int i tk,u]}).get? b=some o:=q
   simp only[An,A1,or_false,not_or]at hb;obtain⟨b1,b2⟩:=hb;rw[sb.2 b b1]
   by_cases hT:b=s.heap.objs.size
   ·subst hT;rw[Ak _ rfl]at q;cases q;exact pr
   ·rw[Rk _ _ _ hT]at q;exact kk b o b1 b2 q
  refine⟨.ref s.heap.objs.size,_,I1,rfl,⟨_,x,hf0,rfl,rfl,λzs hz'=>by rw[hz'.inj I hq];exact hx⟩,⟨⟨u,by simpa using z2⟩,?_⟩,λb hb=>(hf' b hb).1⟩;exact j1.1.at λo q=>(sb.2 it (Df hei)).trans q
 done:=by
  intro X hP hw hK hc i pins s U H E I hf st hg;subst hP hw hK;obtain⟨xs,hq,rfl⟩:=hg;obtain⟨⟨old,he⟩,hi⟩:=st;obtain⟨its,rv,p⟩:=hq.sr I;have e1:xs.length=its.toArray.size:=by rw[rv.length];simp
  rw[e1]at hi;refine wpAny_pyNext_enum_endD (draw (A:=X.A.in1) b (I.ok.hd hc) it l hl1 its.toArray) he ⟨hi,p⟩ λh' kk=>⟨rfl,I.turnedL (t':=s.toks) (fp:=[e,it]) (λb o hb q=>?_) hf⟩
  simp only[An,A1,or_false,not_or]at hb;exact kk b o hb.2 q
 self:=λ_ _ _ _ _ st h=>by
  obtain⟨⟨old,he⟩,_⟩:=st;exact U0 he h
def Wa9(K:Af)(ta:TA):TI:=λU H R=>ta U H λvs H1=>∃l b,vs=[.ref l]/\(∃xs,SqB b K H1 l xs)/\R (Ite b K l) H1
theorem Jna:C9 "enumerate"=some (.type "enumerate"):=by rfl
def Js5{X:Cx}{a:Expr}{ta:TA}{p pos:Pos}{elts:List Expr}{x1:Nat}{tp:Pos}(hg:Gl X "enumerate")(hm:X.mg "enumerate"=none)(ha:PA X [a] ta)(hs:Bs [a] X.env=[(false,eval a X.env)]):
  PI X (.Tuple elts x1 tp) (.Call (.Name "enumerate" p) [a] [] pos) (Wa9 X.K ta):=by
 intro pins s U H R I h;refine Sw (Jcg I hg hm Jna (De (thn (ha pos pins s U H _ I h) λus s1 ⟨vs,H1,I1,r1,q1⟩=>?_) (by rw[hs];rfl) rfl) (by decide) (by decide));obtain⟨l,b,e,⟨xs,hq⟩,q⟩:=q1;subst e;obtain⟨u,rfl,rx⟩:=vals1 r1;cases rx;obtain⟨its,rv,p1⟩:=hq.sr I1;refine Jm7 p1 λh' z1 j1 kk=>?_;refine U0 (s:={s1 with heap:=h'}) z1 ?_;have hl:=p1.lt;refine⟨s1.heap.objs.size+1,_,_,_,H1,rfl,I1.kept (t':=s1.toks) kk,Jkz _ _ l (Cq (Dm _)) (Au hl) (Au (Jm hl)),⟨⟨_,z1⟩,j1⟩,λb hb=>?_,q⟩;have hb':s1.heap.objs.size<=b:=by
  simp only[An,A1,or_false]at hb;rcases hb with rfl|rfl
  ·exact Jn _
  ·exact Aj _
 exact I1.fpOk hb' (I1.hok.fresh hb')
section
variable {X:Cx}
def Wav(K:Af):R2:=λx y H Q=>∃l b xs zs,x=.ref l/\y=.ref b/\SqL K H l xs/\SqL K H b zs/\xs.length+zs.length<=sizeLine/\∀p,H p=none->Q (.ref p) (upd H p (.lst (xs++zs)))
def Jti:OpR X (F4 .Add) (Wav X.K):=by
 intro pins s U H x y v u Q I rx ry h;obtain⟨l,b,xs,zs,rfl,rfl,hH,hB,hz,q⟩:=h;cases rx;cases ry;obtain⟨its,r,p1,_⟩:=I.list hH;obtain⟨its2,r2,p2,_⟩:=I.list hB;have hl:=r.length;have hl2:=r2.length;obtain⟨⟨cls,dd,data,sl⟩,ho,hc,n,hd⟩:=id p1.isList;obtain⟨⟨cls2,dd2,data2,sl2⟩,ho2,hc2,n2,hd2⟩:=id p2.isList;simp only at hc hd hc2 hd2;subst hc hd hc2 hd2;have e:its.toArray++its2.toArray=(its++its2).toArray:=by simp
 refine Ls ⟨_,ho,rfl⟩ ⟨_,ho2,rfl⟩ noFill_list_add seq_list_add PySem.F.slot_list_add PySem.F.entry_list_add (PySem.F.args_list_add_2 _ _) (list_addW l b its.toArray its2.toArray n n2 dd dd2 sl sl2 (by simp;lia)) ⟨ho,ho2,?_⟩;rw[e];exact⟨.ref _,_,I.lnew (t':=s.toks) (r.append r2) (by rw[Bf];lia),rfl,q _ I.fresh⟩
end
open PySem PySem.Spec PyProof.Rows
section
variable {X:Cx}
theorem Jzh(r:KV kvs vs):∀(i:Nat) (k:Key) (x:Value),vs[i]? =some (k,x)->∃v,kvs[i]? =some (k,v):=by
 unfold KV at r
 induction r with
 |nil=>intro i k x h;simp at h
 |@cons p q ps qs hpq _ ih=>
  intro i k x h;cases i with
  |zero=>
   have h':q=(k,x):=by simpa using h
   subst h';refine⟨p.2,?_⟩;show some p=_;have:p.1=k:=hpq.1;rw[<-this]
  |succ i=>exact ih i k x (by simpa using h)
theorem Jw4{kvs:List (Key×V)}{vs:List (Key×Value)}(r:KV kvs vs):kvs.length=vs.length:=by
 unfold KV at r
 induction r with
 |nil=>rfl
 |cons _ _ ih=>rw[A5,A5,ih]
theorem Jkw:∀{xs:List V} {us:List Value},xs.length=us.length->(∀(i:Nat) (u:Value),us[i]? =some u->∃x,xs[i]? =some x/\RelV x u)->Vals xs us
 |[],[],_,_=>.nil
 |[],u::us,h,_=>by simp at h
 |x::xs,[],h,_=>by simp at h
 |x::xs,u::us,h,g=>by
  obtain⟨y,e,r⟩:=g 0 u rfl;have e':x=y:=by simpa using e
  subst e';exact .cons r (Jkw (by simpa using h) λi w q=>by simpa using g (i+1) w (by simpa using q))
def Jgn(hc:X.calm=true):Vy X (.type "list") (λxs H Q=>∃p kvs,xs=[.ref p]/\H p=some (.dK kvs)/\∀l,H l=none->Q (.ref l) (upd H l (.lst (kvs.map λkv=>kV kv.1)))):=by
 intro pins s U H xs us Q I r h;obtain⟨p,kvs,rfl,hp,q⟩:=h;obtain⟨u,rfl,rx⟩:=vals1 r;cases rx;obtain⟨hz,hS,vs,rel,o,es,ep,m⟩:=(show Vj X.prog X.w H s.heap p (.dK kvs)from I.hok p _ hp)
 have hl:=Jw4 rel;refine PySem.W.kdl_call (PySem.W.kdl_dict (knd:=mixKind X.prog X.w) (kvs:=vs) (ep:=ep) hS) (I.ok.hd hc) ⟨o,es,m⟩ (by rw[<-hl];exact hz) λh' tk acc' c' kp e it=>?_;have rv:Vals (kvs.map λkv=>kV kv.1) acc'.toList:=by
  refine Jkw (by rw[Ah,hl];exact it.1.symm) λi u hu=>?_;obtain⟨k,x,ek,hk⟩:=it.2 i u (by rw[<-Dx];exact hu);obtain⟨v,ev⟩:=Jzh rel i k x ek;refine⟨kV k,by rw[Ap,ev];rfl,?_⟩;rcases Jas hk with⟨j,t,rfl,rfl⟩|⟨y,t,rfl,rfl⟩
  ·exact⟨_,rfl⟩
  ·exact⟨_,rfl⟩
 refine⟨.ref s.heap.objs.size,_,I.laid (t':=tk) kp (Aj _) (show Vj X.prog X.w _ h' _ (.lst (kvs.map λkv=>kV kv.1))from⟨by rw[Ah];exact hz,acc'.toList,c',rv,by simpa using e⟩),rfl,q _ (I.hok.fresh (Aj _))⟩
end
end L2
namespace LR
open PySem PySem.Spec PyProof.Rows PySem.F
section
variable {prog:Program} {w:World} {A:Bi} {E:Value->Shared->Prop} {s:Shared}
noncomputable def ltZ(a b c d:Int):Bool:=decide (a<c)||(decide (a=c)&&decide (b<d))
def int_lt{Q:Value->Shared->Prop}(h:Q (.bool (decide (a<b))) s):wpAny (model prog w) A (Sj .Lt (.int a t) (.int b u)) Q E s:=
 richCompare_gives (op:=.Lt) (Ub s _ t) (Ub s _ u) F.slot_int_lt F.entry_int_lt (F.args_int_lt_2 _ _) (gives_int_lt _ _ t u) (λx=>nomatch x) h
def Jte{Q:Value->Shared->Prop}(hp:IsTup s.heap p #[.int a t,.int b u])(hq:IsTup s.heap q #[.int c v,.int d x])(hu:A.units<C0)
  (h:Q (.bool (ltZ a b c d)) s):wpAny (model prog w) A (Sj .Lt (.ref p) (.ref q)) Q E s:=by
 refine Jb (op:=.Lt) (X2 hp) (X2 hq) Vb (Bg Vb (X2 hp) F.entry_tuple_lt ?_ (F.args_tuple_lt_2 _ _)) hu;show wpAny _ _ (Kx (.ref q) (.type "tuple")>>=_) _ _ s;refine Aa (D7 (X2 hq) Hn ?_);rw[if_neg (show¬((!true)=true)from Aw)];refine Aa (Mx hp ?_);refine Aa (Mx hq ?_);refine Aa ?_;show wpAny _ _ (forIn [((Dz a t:Value),(Dz c v:Value)),(.int b u,.int d x)] _ _) _ _ s;rw[Hr];refine Aa (Aa (Hu ?_))
 by_cases e1:a=c
 ·subst e1;rw[show(a==a)=true from beq_self_eq_true a,if_neg (show¬((!true)=true)from Aw)];refine Ab ?_;show wpAny _ _ (forIn [((Dz b u:Value),(Dz d x:Value))] _ _) _ _ s;rw[Hr];refine Aa (Aa (Hu ?_))
  by_cases e2:b=d
  ·subst e2;rw[show(b==b)=true from beq_self_eq_true b,if_neg (show¬((!true)=true)from Aw)];refine Ab ?_;refine Ab ?_;have h':Q (.bool false) s:=by simpa [ltZ]using h
   exact Ab ⟨_,rfl,(λz=>nomatch z),h'⟩
  ·rw[show(b==d)=false from beq_eq_false_iff_ne.mpr e2,if_pos (show(!false)=true from rfl)];have h':Q (.bool (decide (b<d))) s:=by simpa [ltZ]using h
   refine Aa (Fz ?_);refine Aa (int_lt ?_);exact Aa (Ab (Ab (Ab (Ab ⟨_,rfl,(λz=>nomatch z),h'⟩))))
 ·rw[show(a==c)=false from beq_eq_false_iff_ne.mpr e1,if_pos (show(!false)=true from rfl)];have h':Q (.bool (decide (a<c))) s:=by simpa [ltZ,e1]using h
  refine Aa (Fz ?_);refine Aa (int_lt ?_);exact Aa (Ab (Ab (Ab (Ab ⟨_,rfl,(λz=>nomatch z),h'⟩))))
end
end LR
namespace L2
open PySem PySem.Spec PyProof.Rows
end L2
namespace Sre
open PySem PyProof.Rows
section
variable {κ:P8} {M:P2} {A:Bi} {E:Value->Shared->Prop} {s:Shared} {st:Ut} {a:Array Keyed}
def Zg(M:P2)(A:Bi)(s:Shared)(κ:P8)(a:Array Keyed):Prop:=
 ∀(i:Nat) (x y:Keyed),a[i+1]? =some x->a[i]? =some y->∀Q:Bool->Shared->Prop,Q false s->wpAny M A (keyLt' κ x.1 y.1) Q (λ_ _=>False) s
def Jzg{x y:Keyed}{Q:Option Bool->Ut->Prop}(hA:∀Q:Bool->Shared->Prop,Q false s->wpAny M A (keyLt' κ x.1 y.1) Q (λ_ _=>False) s)(hk:kindOf st=κ)(h:Q (some false) st):wpS M A E s (lt' x y) Q st:=by
 rw[lt'_eq];refine F5 (Ro ?_);rw[hk];refine F5 (wpS_lift (Du (Bo (hA (λb s'=>s'=s/\b=false) ⟨rfl,rfl⟩) (λb s' hb=>?_) λ_ _ e=>e.elim)));obtain⟨rfl,rfl⟩:=hb;exact⟨rfl,Jt h⟩
def Jtn{Q:Option Bool->Ut->Prop}(hA:Zg M A s κ a)(hk:kindOf st=κ)(ha:Vd st=a)(hi:i+1<a.size)(h:Q (some false) st):wpS M A E s (ltAt' (i+1) i) Q st:=by
 rw[ltAt'_eq];refine F5 (Ro ?_);rw[ha];have h1:a[i+1]? =some a[i+1]:=Bm hi;have h2:a[i]? =some a[i]:=Bm (by omega);dsimp only;rw[elem'_eq,elem'_eq,h1,h2];exact F5 (Jt (F5 (Jt (Jzg (hA i _ _ h1 h2) hk h))))
def Jsj{Q:Option Nat->Ut->Prop}(hA:Zg M A s κ a)(hk:kindOf st=κ)(ha:Vd st=a)(h2:2<=a.size)(h:Q (some a.size) st):wpS M A E s (countRun' 0 a.size) Q st:=by
 rw[countRun'_eq];refine F5 (wpS_mono (Rp (I:=λx c st'=>st'=st/\c=(none,x)/\x<=a.size) (Q:=λc st'=>st'=st/\c=(none,a.size)) ?step ?fin ⟨rfl,rfl,by lia⟩) ?post)
 case fin=>
  rintro c st' ⟨rfl,rfl,b⟩;exact⟨rfl,by rw[show max 1 a.size=a.size by lia]⟩
 case step=>
  rintro x c st' b1 b2 ⟨rfl,rfl,b3⟩;obtain⟨y,rfl⟩:∃y,x=y+1:=⟨x-1,by lia⟩
  dsimp only;rw[show 0+(y+1)=y+1 by lia,show y+1-1=y by lia];refine F5 (Jtn hA hk ha (by lia) ?_);simp only[As,if_false];exact Jt ⟨rfl,rfl,by lia⟩
 case post=>
  rintro c st' ⟨rfl,rfl⟩;dsimp only;rw[if_pos (by simp)];exact Jt h
theorem Jhg:∀(f n r:Nat),r<=1->minRun' f n r<=n+r
 |0,n,r,_=>Aj _
 |f+1,n,r,hr=>by
  rw[minRun'_succ];split
  ·exact Aj _
  ·have:=Jhg f (n/2) (max r (n%2)) (by lia)
   lia
def Jj0{Q:Unit->Ut->Prop}(hA:Zg M A s κ a)(hk:kindOf st=κ)(ha:Vd st=a)(hf:failedOf st=none)(he:pendingOf st= #[])(h2:2<=a.size)
  (h:∀st',Vd st'=a->failedOf st'=none->Q () st'):wpS M A E s sortRuns' Q st:=by
 have hm:minRun' a.size a.size 0<=a.size:=Jhg a.size a.size 0 (Cz _);rw[sortRuns'_eq];refine F5 (Ro ?_);dsimp only;rw[ha];refine F5 (wpS_mono (Rp (I:=λx c st'=>(x=0/\c=(none,0)/\st'=st)\/(c=(none,a.size)/\st'=P7 st #[(0,a.size,0)])) (Q:=λc st'=>c=(none,a.size)/\st'=P7 st #[(0,a.size,0)]) ?step ?fin (.inl ⟨rfl,rfl,rfl⟩)) ?post)
 case fin=>
  rintro c st' (⟨q,_⟩|q)
  ·lia
  ·exact q
 case step=>
  rintro x c st' b1 b2 (⟨rfl,rfl,rfl⟩|⟨rfl,rfl⟩)
  ·dsimp only;rw[if_neg (by lia),Ie];refine F5 (Jsj hA hk ha h2 ?_);dsimp only;rw[if_neg (by lia)];refine F5 (Ro ?_);rw[he];refine F5 (wpS_modify (Jt (.inr ⟨by simp,?_⟩)));rw[he];rfl
  ·dsimp only;rw[if_pos (Aj _)];exact Jt ⟨rfl,rfl⟩
 case post=>
  rintro c st' ⟨rfl,rfl⟩;dsimp only;refine F5 (wpS_mono (Rp (I:=λx c st'=>c=(none,())/\st'=P7 st #[(0,a.size,0)]) (Q:=λc st'=>c=(none,())/\st'=P7 st #[(0,a.size,0)]) ?step1 (λ_ _ q=>q) ⟨rfl,rfl⟩) ?post1)
  case step1=>
   rintro x c st' _ _ ⟨rfl,rfl⟩;refine F5 (Ro ?_);rw[if_pos (by show(1:Nat)<=1;lia)];exact Jt ⟨rfl,rfl⟩
  case post1=>
   rintro c st' ⟨rfl,rfl⟩;exact Jt (h _ ha hf)
end
end Sre
namespace Sbl
open PySem
def Ris(P:List Nat):Prop:=P.Pairwise (·<·)
def Jg8{xs:Array Nat}(h:Ris xs.toList)(hik:i<k)(hk:k<xs.size):xs[i]<xs[k]:=by
 have:=Gh.mp h i k (by simp;omega) (by simpa using hk) hik
 simpa using this
theorem Jgo{xs:Array Nat}(h:Ris xs.toList):∀(f lo hi:Nat),hi-lo<=f->lo<=hi->hi<=xs.size->(∀i (hx:i<xs.size),i<lo->xs[i]<j)->(∀i (hx:i<xs.size),hi<=i->j<=xs[i])->
  (∀i (hx:i<xs.size),i<Hi xs j f lo hi->xs[i]<j)/\(∀i (hx:i<xs.size),Hi xs j f lo hi<=i->j<=xs[i])/\Hi xs j f lo hi<=xs.size
 |0,lo,hi,a,b,c,d,e=>by
  have:lo=hi:=by omega
  subst this;exact⟨d,e,c⟩
 |f+1,lo,hi,a,b,c,d,e=>by
  unfold Hi
  by_cases g:lo<hi
  ·rw[if_pos g];have hm:(lo+hi)/2<xs.size:=by omega
   have e1:xs.getD ((lo+hi)/2) j=xs[(lo+hi)/2]:=by simp[Array.getD,hm]
   dsimp only;rw[e1]
   by_cases g2:xs[(lo+hi)/2]<j
   ·rw[if_pos g2];refine Jgo h f ((lo+hi)/2+1) hi (by omega) (by omega) c (λi hi' hl=>?_) e;rcases Ig i ((lo+hi)/2)with q|q
    ·exact E5 (Jg8 h q hm) g2
    ·have:i=(lo+hi)/2:=by omega
     subst this;exact g2
   ·rw[if_neg g2];refine Jgo h f lo ((lo+hi)/2) (by omega) (by omega) (by omega) d (λi hx hl=>?_);rcases Ig ((lo+hi)/2) i with q|q
    ·exact Bl (Ru.mp g2) (D6 (Jg8 h q hx))
    ·have:i=(lo+hi)/2:=by omega
     subst this;exact Ru.mp g2
  ·rw[if_neg g];have:lo=hi:=by omega
   subst this;exact⟨d,e,c⟩
def Jfs{xs:Array Nat}(j:Nat)(h:Ris xs.toList):
  (∀i (hi:i<xs.size),i<C1 xs j->xs[i]<j)/\(∀i (hx:i<xs.size),C1 xs j<=i->j<=xs[i])/\C1 xs j<=xs.size:=
 Jgo h _ _ _ (by lia) (Cz _) (Aj _) (λi _ hi=>absurd hi (Nat.not_lt_zero _)) (λi hx hi=>by lia)
theorem slot_of{t:SetTable}(h:Ris t.place.toList)(hd:t.dummies= #[])(j:Nat):
  (j∉t.place.toList/\t.slot j=.empty)\/∃i,∃hi:i<t.place.size,t.place[i]=j/\t.slot j=.live i:=by
 obtain⟨a,b,c⟩:=Jfs j h;unfold SetTable.slot;dsimp only
 by_cases hm:t.place[C1 t.place j]? =some j
 ·have hb:(t.place[C1 t.place j]? ==some j)=true:=by rw[hm];exact beq_self_eq_true _
  rw[if_pos hb];obtain⟨h1,h2⟩:=Array.getElem?_eq_some_iff.mp hm;exact .inr ⟨_,h1,h2,rfl⟩
 ·refine .inl ⟨λhj=>hm ?_,?_⟩
  ·obtain⟨i,hi,e⟩:=C6.mp hj;have hi':i<t.place.size:=by simpa using hi
   have e':t.place[i]=j:=by simpa using e
   have h1:C1 t.place j<=i:=by
    rcases Ig i (C1 t.place j)with q|q
    ·have:=a i hi' q;lia
    ·exact q
   have h2:i<=C1 t.place j:=by
    rcases Ig (C1 t.place j) i with q|q
    ·have h3:=b (C1 t.place j) (by lia) (Aj _);have h4:=Jg8 h q hi'
     lia
    ·exact q
   have:C1 t.place j=i:=by lia
   rw[this,Bm hi',e']
  ·have hb:¬(t.place[C1 t.place j]? ==some j)=true:=λq=>hm (eq_of_beq q);rw[if_neg hb,hd];have:Jj #[] j=false:=by unfold Jj;simp
   rw[this];rfl
noncomputable def lcg(m i:Nat):Nat->Nat
 |0=>i
 |k+1=>lcg m ((i*5+1)%(m+1)) k
def Wcd:∀i,i<8->∀j,j<8->∃k,k<8/\lcg 7 i k=j:=by decide+kernel
def Hit(t:SetTable)(occ:Nat->Prop):Nat->D2->Nat->Prop
 |0,p,j=>p.j=j
 |n+1,p,j=>occ p.j/\Hit t occ n (t.advance p) j
theorem Hit.mono{t t':SetTable}(hm:t'.mask=t.mask){occ occ':Nat->Prop}(h:∀j,occ j->occ' j):∀{n:Nat} {p:D2} {j:Nat},Hit t occ n p j->Hit t' occ' n p j
 |0,p,j,q=>q
 |n+1,p,j,⟨a,b⟩=>⟨h _ a,by
   have e:t'.advance p=t.advance p:=by unfold Gz;rw[hm]
   rw[e];exact Hit.mono hm h b⟩
noncomputable def Lp(m i pt:Nat):D2:={j:=i,more:=Bp m i-i,i,perturb:=pt,dummy:=none}
noncomputable def Rn(m i pt k:Nat):D2:={j:=i+k,more:=Bp m i-i-k,i,perturb:=pt,dummy:=none}
def Jrf{t:SetTable}(h:k<Bp t.mask i-i):t.advance (Rn t.mask i pt k)=Rn t.mask i pt (k+1):=by
 unfold Gz Rn;rw[if_pos (by show Bp t.mask i-i-k>0;lia)];simp only[So,and_true,true_and]
 lia
theorem Juu{t:SetTable}(h:Bp t.mask i-i<=k):t.advance (Rn t.mask i pt k)=Lp t.mask ((i*5+1+pt/32)%(t.mask+1)) (pt/32):=by
 unfold Gz Rn;rw[if_neg (by show¬Bp t.mask i-i-k>0;omega)];rfl
def Jqd(m i:Nat):Bp m i-i<=9:=by unfold Bp;split<;>lia
theorem Jml{t:SetTable}{occ:Nat->Prop}:∀(d k:Nat),k+d=Bp t.mask i-i->(∀x,k<=x->x<=Bp t.mask i-i->occ (i+x))->
  Hit t occ n (Lp t.mask ((i*5+1+pt/32)%(t.mask+1)) (pt/32)) j->Hit t occ (n+d+1) (Rn t.mask i pt k) j
 |0,k,e,ho,h=>⟨ho k (Aj _) (by lia),by rw[Juu (by lia)];exact h⟩
 |d+1,k,e,ho,h=>⟨ho k (Aj _) (by lia),by
   rw[Jrf (by lia)];exact Jml d (k+1) (by lia) (λx a b=>ho x (by lia) b) h⟩
theorem Jq1{t:SetTable}{occ:Nat->Prop}:∀(d k:Nat),k+d<=Bp t.mask i-i->(∀x,k<=x->x<k+d->occ (i+x))->Hit t occ d (Rn t.mask i pt k) (i+(k+d))
 |0,k,_,_=>rfl
 |d+1,k,e,ho=>⟨ho k (Aj _) (by lia),by
   rw[Jrf (by lia),show k+(d+1)=k+1+d by lia];exact Jq1 d (k+1) (by lia) λx a b=>ho x (by lia) (by lia)⟩
theorem least{P:Nat->Prop}:∀x,P x->∃y,y<=x/\P y/\∀z,z<y->¬P z:=λx=>by
 induction x using Tw with
 |ind x ih=>
  intro h
  by_cases q:∃z,z<x/\P z
  ·obtain⟨z,hz,pz⟩:=q;obtain⟨y,a,b,c⟩:=ih z hz pz;exact⟨y,by lia,b,c⟩
  ·exact⟨x,Aj _,h,λz hz pz=>q ⟨z,hz,pz⟩⟩
def Jq0{t:SetTable}{occ:Nat->Prop}(hj:¬occ j)(h:Hit t occ n (Lp t.mask ((i*5+1+pt/32)%(t.mask+1)) (pt/32)) j):∃n' j',n'<=n+10/\¬occ j'/\Hit t occ n' (Lp t.mask i pt) j':=by
 by_cases hr:∃x,x<=Bp t.mask i-i/\¬occ (i+x)
 ·obtain⟨x,hx,hno,hmin⟩:∃x,x<=Bp t.mask i-i/\¬occ (i+x)/\∀y,y<x->occ (i+y):=by
   obtain⟨x,h1,h2⟩:=hr;obtain⟨y,a,b,c⟩:=least (P:=λx=>¬occ (i+x)) x h2;exact⟨y,Bl a h1,b,λz hz=>K2.mp (c z hz)⟩
  have:=Jqd t.mask i;have q:=Jq1 (t:=t) (occ:=occ) (i:=i) (pt:=pt) x 0 (by lia) λy _ hy=>hmin y (by lia);rw[E4]at q;exact⟨x,i+x,by lia,hno,q⟩
 ·have ho:∀x,x<=Bp t.mask i-i->occ (i+x):=λx hx=>K2.mp λq=>hr ⟨x,hx,q⟩;have:=Jqd t.mask i;exact⟨_,j,by lia,hj,Jml (Bp t.mask i-i) 0 (by lia) (λx _ hx=>ho x hx) h⟩
theorem Wbb{t:SetTable}{occ:Nat->Prop}(hj:¬occ j):∀(k i:Nat),lcg t.mask i k=j->∃n j',n<=10*k/\¬occ j'/\Hit t occ n (Lp t.mask i 0) j'
 |0,i,e=>⟨0,j,by lia,hj,e⟩
 |k+1,i,e=>by
  obtain⟨n,j',a,b,c⟩:=Wbb hj k ((i*5+1)%(t.mask+1)) e;obtain⟨n',j'',a',b',c'⟩:=Jq0 (i:=i) (pt:=0) b c;exact⟨n',j'',by lia,b',c'⟩
theorem Wba{t:SetTable}{occ:Nat->Prop}(h0:∀i,i<=t.mask->∃n j',n<=B/\¬occ j'/\Hit t occ n (Lp t.mask i 0) j'):∀(k pt i:Nat),i<=t.mask->pt<32^k->∃n j',n<=B+10*k/\¬occ j'/\Hit t occ n (Lp t.mask i pt) j'
 |0,pt,i,hi,hp=>by
  have:pt=0:=by lia
  subst this;exact h0 i hi
 |k+1,pt,i,hi,hp=>by
  obtain⟨n,j',a,b,c⟩:=Wba h0 k (pt/32) ((i*5+1+pt/32)%(t.mask+1)) (Jo (Oe _ (Mr _))) (by rw[Nat.pow_succ]at hp;lia);obtain⟨n',j'',a',b',c'⟩:=Jq0 (i:=i) (pt:=pt) b c;exact⟨n',j'',by lia,b',c'⟩
def Jpe{t:SetTable}{occ:Nat->Prop}(hm:t.mask=7)(hj:j<=t.mask)(hno:¬occ j)(h:Int):∃n j',n<10*Dn t.mask/\¬occ j'/\Hit t occ n (t.probeStart h) j':=by
 have hb:Fj h<32^13:=by
  unfold Fj;have h1:h%(2^64:Int)<2^64:=Rz _ (by decide);have h2:0<=h%(2^64:Int):=T3 _ (by decide);have h3:((h%(2^64:Int)).toNat:Int)<2^64:=by rw[Li h2];exact h1
  have h4:(h%(2^64:Int)).toNat<2^64:=by exact_mod_cast h3
  exact Be h4 (by decide)
 have h0:∀i,i<=t.mask->∃n j',n<=10*t.mask/\¬occ j'/\Hit t occ n (Lp t.mask i 0) j':=λi hi=>by
  have:∃k,k<t.mask+1/\lcg t.mask i k=j:=by
   rw[hm]at hi hj ⊢;exact Wcd i (by lia) j (by lia)
  obtain⟨k,hk,e⟩:=this;obtain⟨n,j',a,b,c⟩:=Wbb (t:=t) hno k i e;exact⟨n,j',by lia,b,c⟩
 obtain⟨n,j',a,b,c⟩:=Wba h0 13 (Fj h) (Fj h%(t.mask+1)) (Jo (Oe _ (Mr _))) hb;exact⟨n,j',by unfold Dn;lia,b,c⟩
theorem Hit.dummy{t:SetTable}{occ:Nat->Prop}(p:D2):(t.advance p).dummy=p.dummy:=by unfold Gz;split<;>rfl
theorem Jjo{t:SetTable}(hr:Ris t.place.toList)(hd:t.dummies= #[]){hashAt:Nat->Int}:∀(n f:Nat) (p:D2) (j:Nat),n<f->p.dummy=none->Hit t (·∈t.place.toList) n p j->
  (∃m p',m<=n/\Hit t (·∈t.place.toList) (n-m) p' j/\p'.dummy=none/\((m=n/\p'.j=j/\j∉t.place.toList/\J1 t hashAt h f p=some (.empty j none))\/
   ∃i,∃hi:i<t.place.size,t.place[i]=p'.j/\t.slot p'.j=.live i/\hashAt i=h/\J1 t hashAt h f p=some (.candidate p'.j i (t.advance p'))))\/
  (j∈t.place.toList/\∃i,∃hi:i<t.place.size,t.place[i]=j/\hashAt i≠h)
 |n,0,p,j,hf,_,_=>by lia
 |n,f+1,p,j,hf,hdm,hh=>by
  rw[J1];rcases slot_of hr hd p.j with⟨hno,hs⟩|⟨i,hi,hpi,hs⟩
  ·cases n with
   |zero=>
    have e:p.j=j:=hh;refine .inl ⟨0,p,Aj _,hh,hdm,.inl ⟨rfl,e,e▸hno,?_⟩⟩;rw[hs,hdm,e]
   |succ n=>exact absurd hh.1 hno
  ·rw[hs];dsimp only
   by_cases hq:hashAt i=h
   ·refine .inl ⟨0,p,Cz _,by simpa using hh,hdm,.inr ⟨i,hi,hpi,hs,hq,?_⟩⟩;rw[if_pos (by rw[hq];exact beq_self_eq_true h)]
   ·rw[if_neg (λq=>hq (eq_of_beq q))];cases n with
    |zero=>
     have e:p.j=j:=hh;exact .inr ⟨by rw[<-e,<-hpi];simp,i,hi,by rw[hpi,e],hq⟩
    |succ n=>
     rcases Jjo hr hd n f (t.advance p) j (by lia) (by rw[Hit.dummy (occ:=λ_=>True)];exact hdm) hh.2 with⟨m,p',a,b,c,d⟩|d
     ·refine .inl ⟨m+1,p',by lia,by rw[show n+1-(m+1)=n-m by lia];exact b,c,?_⟩;rcases d with⟨d1,d2,d3,d4⟩|d
      ·exact .inl ⟨by lia,d2,d3,d4⟩
      ·exact .inr d
     ·exact .inr d
section
variable {prog:Program} {w:World} {A:Bi} {E:Value->Shared->Prop} {s:Shared}
abbrev IK(prog:Program)(w:World)(h:Heap)(k:List Int)(b:Addr):Prop:=Um (intKind prog w) h k b
noncomputable abbrev kh(prog:Program)(w:World)(k:List Int):Int:=tupleKeyHash (intKind prog w) k
theorem items_int(h:ItemsAre (intKind prog w) k vs):∀v∈vs,∃i t,v=.int i t:=by
 induction h with
 |nil=>intro v hv;cases hv
 |cons h1 _ ih=>
  intro v hv;rcases An.mp hv with rfl|hv
  ·exact⟨_,Iz h1⟩
  ·exact ih v hv
def Jeg{Q:Bool->Shared->Prop}(hk:IK prog w s.heap k b)(h:Q false s):wpAny (model prog w) A (Nf 8 (.ref b)) Q E s:=by
 have hT:=hk.typeIs;obtain⟨o,items,n,ho,_,hd,hi⟩:=hk;have hv:=items_int hi;unfold Nf;refine Aa (Fy (T:="tuple") hT ?_);dsimp only;simp only[beq_self_eq_true,if_true];refine Aa (Ab ?_);simp only[Dg,As,if_false];refine Aa ?_;unfold Qw;refine Aa (Mz ho ?_);rw[hd];refine Ab ?_;dsimp only;refine Aa ?_;rw[<-Fo];refine Dr _ (λrest r s'=>r=(none,())/\s'=s/\∀v∈rest,∃i t,v=Dz i t) _ ?_ ?_ _ _ ⟨rfl,rfl,hv⟩
 ·rintro v rest r s' ⟨rfl,rfl,hall⟩;obtain⟨i,t,rfl⟩:=hall v Bh;refine Aa ?_;unfold Nf;refine Ab ?_;simp only[As,if_false];exact Ab ⟨rfl,rfl,λu hu=>hall u (Ax _ hu)⟩
 ·rintro r s' ⟨rfl,rfl,_⟩;exact Ab h
def Je8{Q:Bool->Shared->Prop}(hk:IK prog w s.heap k b)(h:Q true s):wpAny (model prog w) A (Sk 8 (.ref b)) Q E s:=by
 have hT:=hk.typeIs;obtain⟨o,items,n,ho,_,hd,hi⟩:=hk;have hv:=items_int hi;unfold Sk;refine Aa (F3 hT G8.lookup ?_);dsimp only;refine Aa ?_;unfold Qw;refine Aa (Mz ho ?_);rw[hd];refine Ab ?_;refine Aa ?_;show wpAny _ _ (forIn items _ _) _ _ s;rw[<-Fo];refine Dr _ (λrest r s'=>r=(none,())/\s'=s/\∀v∈rest,∃i t,v=Dz i t) _ ?_ ?_ _ _ ⟨rfl,rfl,hv⟩
 ·rintro v rest r s' ⟨rfl,rfl,hall⟩;obtain⟨i,t,rfl⟩:=hall v Bh;refine Aa ?_;unfold Sk;refine Ab ?_;simp only[Dg,As,if_false];exact Ab ⟨rfl,rfl,λu hu=>hall u (Ax _ hu)⟩
 ·rintro r s' ⟨rfl,rfl,_⟩;exact Ab h
def Jrh{Q:Bool->Shared->Prop}(hk:IK prog w s.heap k b)(h:Q false s):∀l:List Value,(∀v∈l,∃k' b',v=.ref b'/\IK prog w s.heap k' b')->wpAny (model prog w) A (U4 (.ref b) l) Q E s:=by
 intro l hl;unfold U4;refine Aa ?_;refine Dr _ (λrest r s'=>r=(none,())/\s'=s/\∀v∈rest,∃k' b',v=Aq b'/\IK prog w s.heap k' b') _ ?_ ?_ _ _ ⟨rfl,rfl,hl⟩
 ·rintro v rest r s' ⟨rfl,rfl,hall⟩;obtain⟨k',b',rfl,hk'⟩:=hall v Bh;have nx:∀v∈rest,∃k' b',v=Aq b'/\IK prog w s'.heap k' b':=λv hv=>hall v (Ax _ hv);dsimp only
  by_cases c:(b==b'||(Px (.ref b)&&Px (.ref b')))=true
  ·rw[if_pos c];exact Ab ⟨rfl,rfl,nx⟩
  ·rw[if_neg c];refine Aa (R3 hk ?_);simp only[Dg,As,if_false];refine Aa (R3 hk' ?_);simp only[Dg,As,if_false];refine Aa (Jeg hk ?_);simp only[As,if_false];refine Aa (Jeg hk' ?_);simp only[As,if_false];exact Ab ⟨rfl,rfl,nx⟩
 ·rintro r s' ⟨rfl,rfl,_⟩;exact Ab h
structure Tb(prog:Program)(w:World)(t:SetTable)(kb:List (List Int×Addr)):Prop where
 ris:Ris t.place.toList
 dum:t.dummies= #[]
 msk:t.mask=7
 len:t.place.size=kb.length
 inb:∀j∈t.place.toList,j<=t.mask
 room:kb.length*5<t.mask*3
 nd:(kb.map (·.1)).Nodup
 way:∀q∈t.place.toList.zip kb,∃n,n<10*Dn t.mask/\Hit t (·∈t.place.toList) n (t.probeStart (kh prog w q.2.1)) q.1
def entS(prog:Program)(w:World)(x:List Int×Addr):Int×Value:=(kh prog w x.1,.ref x.2)
def Tb.fits{t:SetTable}{kb:List (List Int×Addr)}(T:Tb prog w t kb){es:Array (Int×Value)}(he:es.toList=kb.map (entS prog w)):t.fits es.size=true:=by
 have h1:es.size=kb.length:=by rw[<-Bz,he,Ah]
 unfold Rh M3;rw[T.dum,h1,T.len];have:=T.room;simp only[beq_self_eq_true,Lj,decide_eq_true_eq];show kb.length+0<=t.mask
 lia
def Jhc{t:SetTable}(hr:Ris t.place.toList)(hi:i<t.place.size)(hk:k<t.place.size)(e:t.place[i]=t.place[k]):i=k:=by
 rcases Jl i k with h|h|h
 ·have:=Jg8 hr h hk;omega
 ·exact h
 ·have:=Jg8 hr h hi;omega
def Jei{t:SetTable}(hr:Ris t.place.toList)(hd:t.dummies= #[]){F:Nat->Int}{p:D2}(e:t.probe F h p=r)(hn:n<10*Dn t.mask)(hdm:p.dummy=none)
  (hh:Hit t (·∈t.place.toList) n p j)(ok:∀i (hi:i<t.place.size),t.place[i]=j->F i=h):
  (j∉t.place.toList/\r=some (.empty j none))\/
   ∃m p' i,m<=n/\Hit t (·∈t.place.toList) (n-m) p' j/\p'.dummy=none/\∃hi:i<t.place.size,t.place[i]=p'.j/\t.slot p'.j=.live i/\F i=h/\r=some (.candidate p'.j i (t.advance p')):=by
 subst e;unfold SetTable.probe;rcases Jjo hr hd (hashAt:=F) (h:=h) n (10*Dn t.mask) p j hn hdm hh with⟨m,p',a,b,c,d⟩|⟨d1,i,hi,d2,d3⟩
 ·rcases d with⟨d1,d2,d3,d4⟩|⟨i,hi,d1,d2,d3,d4⟩
  ·exact .inl ⟨d3,d4⟩
  ·exact .inr ⟨m,p',i,a,b,c,hi,d1,d2,d3,d4⟩
 ·exact absurd (ok i hi d2) d3
def Jj5{t:SetTable}(hr:Ris t.place.toList)(hd:t.dummies= #[]){F:Nat->Int}{p:D2}(e:∀met,t.probe F h p=some met->False)(hn:n<10*Dn t.mask)(hdm:p.dummy=none)
  (hh:Hit t (·∈t.place.toList) n p j)(ok:∀i (hi:i<t.place.size),t.place[i]=j->F i=h):False:=by
 rcases Jei hr hd (F:=F) rfl hn hdm hh ok with⟨_,q⟩|⟨_,_,_,_,_,_,_,_,_,_,q⟩
 ·exact e _ q
 ·exact e _ q
theorem Jc1{o:Obj}{es:Array (Int×Value)}{t:SetTable}{kb:List (List Int×Addr)}{Q:SetFound->Shared->Prop}(hu:A.units<C0)(T:Tb prog w t kb)
  (ho:s.heap.get? a=some o)(hd:o.data=.set es ep t)(he:es.toList=kb.map (entS prog w))(hkb:∀x∈kb,IK prog w s.heap x.1 x.2)(hk:IK prog w s.heap k b)
  (goal:(j∉t.place.toList/\k∉kb.map (·.1)/\Q (.free j false) s)\/(∃i,∃hi:i<t.place.size,t.place[i]=j/\(kb[i]?).map (·.1)=some k)/\Q (.there none) s):
  ∀(n f:Nat) (stand:Option D2),n<f->n<10*Dn t.mask->(stand.getD (t.probeStart (kh prog w k))).dummy=none->Hit t (·∈t.place.toList) n (stand.getD (t.probeStart (kh prog w k))) j->
   wpAny (model prog w) A (Mu a (.ref b) (kh prog w k) true f stand) Q E s:=by
 have hfit:=T.fits he;have hent:∀i,es[i]? =(kb[i]?).map (entS prog w):=λi=>by rw[<-Dx,he,Ap]
 intro n
 induction n using Tw with
 |ind n ih=>
  intro f stand hf hn hdm hh;obtain⟨f,rfl⟩:∃f',f=f'+1:=⟨f-1,by lia⟩
  rw[Mu];refine Aa (Jy ho hd hfit ?_);dsimp only;have hgw:¬t.gaveWay=true:=by
   unfold SetTable.gaveWay;rw[T.msk];decide
  rw[if_neg hgw];obtain⟨p,hp⟩:∃p,stand.getD (t.probeStart (kh prog w k))=p:=⟨_,rfl⟩
  rw[hp]at hdm hh ⊢;have okF:∀F:Nat->Int,(∀i,F i=((es[i]?).map (·.1)).getD 0)->∀i (hi:i<t.place.size),t.place[i]=j->F i=kh prog w k:=λF hF i hi e=>by
   rcases goal with⟨hj,_⟩|⟨⟨i',hi',e',ek⟩,_⟩
   ·exact absurd (by rw[<-e];simp) hj
   ·have:i=i':=Jhc T.ris hi hi' (by rw[e,e']);subst this;obtain⟨x,hx,rfl⟩:=Al.mp ek;rw[hF,hent,hx];rfl
  split
  case _ met heq=>
   rcases Jei T.ris T.dum heq hn hdm hh (okF _ λ_=>rfl)with⟨hj,e⟩|⟨m,p',i,hm,hh',hdm',hi,hpi,hsl,hFi,e⟩
   ·cases e;dsimp only;rcases goal with⟨_,_,q⟩|⟨⟨i',hi',e',_⟩,_⟩
    ·exact Ab q
    ·exact absurd (by rw[<-e'];simp) hj
   ·cases e;dsimp only;have hikb:i<kb.length:=by rw[<-T.len];exact hi
    obtain⟨⟨k',b'⟩,hx⟩:∃x,kb[i]? =some x:=⟨kb[i],Ag hikb⟩
    have hk':=hkb _ (Ba hx);have hes:es[i]? =some (kh prog w k',.ref b'):=by rw[hent,hx];rfl
    have seen:∀v∈((es.filter (·.1==kh prog w k)).toList.map (·.2)),∃k'' b'',v=Aq b''/\IK prog w s.heap k'' b'':=λv hv=>by
     obtain⟨e,h1,rfl⟩:=Bd.mp hv;have h2:e∈es.toList:=by
      have:e∈(es.filter (·.1==kh prog w k)):=Di.mp h1;exact Di.mpr (Array.mem_filter.mp this).1
     rw[he]at h2;obtain⟨x,hx,rfl⟩:=Bd.mp h2;exact⟨x.1,x.2,rfl,hkb x hx⟩
    have tail:wpAny (model prog w) A (do
      let some (_,y):=es[i]? |unsupported "internal:set-entry"
      let equal<-holding [y] (eqBool y (.ref b))
      let(es',_,t')<-setState a
      if true&&equal then return .there none
      let some same:=t'.sameMemory t.moves t.mask|unsupported "set.changed-during-lookup:is-the-new-block-at-the-old-address"
      let still<-match(if same then t'.slot p'.j else .empty)with
       |.live i'=>match es'[i']? with
        |some (_,y')=>do pure (if<-isSame y' y then some i' else none)
        |none=>pure none
       |_=>pure none
      match still with
      |none=>rule "set.search.anew";Mu a (.ref b) (kh prog w k) true f none
      |some i'=>if equal then return .there (some i')else Mu a (.ref b) (kh prog w k) true f (some (t.advance p'))) Q E s:=by
     rw[hes];dsimp only;refine Aa (Bc (T9 hu hk' hk ?_));refine Aa (Jy ho hd hfit ?_);dsimp only
     by_cases hkk:k'=k
     ·subst hkk;rw[decide_eq_true rfl];simp only[O2,if_true];rcases goal with⟨_,hno,_⟩|⟨_,q⟩
      ·exact absurd (Bd.mpr ⟨_,Ba hx,rfl⟩) hno
      ·exact Ab q
     ·rw[decide_eq_false hkk];simp only[Ik,As,if_false];have hsm:t.sameMemory t.moves t.mask=some true:=by unfold SetTable.sameMemory;simp
      rw[hsm];dsimp only;simp only[if_true];rw[hsl];dsimp only;rw[hes];dsimp only;refine Aa (wpAny_isSame_ref_self ?_);simp only[if_true];refine Aa (Ab ?_);dsimp only;cases hnm:n-m with
      |zero=>
       rw[hnm]at hh';have ej:p'.j=j:=hh';rcases goal with⟨hj,_⟩|⟨⟨i',hi',e',ek⟩,_⟩
       ·exact absurd (by rw[<-ej,<-hpi];simp) hj
       ·have:i=i':=Jhc T.ris hi hi' (by rw[hpi,ej,e']);subst this;rw[hx]at ek;exact absurd (Bb ek) hkk
      |succ r=>
       rw[hnm]at hh';exact ih r (by lia) f (some (t.advance p')) (by lia) (by lia) (by show(t.advance p').dummy=none;rw[Hit.dummy (occ:=λ_=>True)];exact hdm') hh'.2
    by_cases hled:(!t.led)=true
    ·rw[if_pos hled];refine Aa (Jrh hk ?_ _ seen);simp only[As,if_false];exact tail
    ·rw[if_neg hled];exact tail
  case _ heq=>
   exact(Jj5 T.ris T.dum heq hn hdm hh (okF _ λ_=>rfl)).elim
end
section
variable {prog:Program} {w:World} {A:Bi} {E:Value->Shared->Prop} {s:Shared}
def Jfk{α:Type}(xs:Array α)(p:Nat)(x:α):(D4 xs p x).toList=xs.toList.take p++x::xs.toList.drop p:=by
 unfold D4;have e:(xs.extract p xs.size).toList=xs.toList.drop p:=by rw[Qb,Og];exact Ek (by simp)
 rw[Array.toList_append,Q7,e,Qb,Og];simp
theorem Hit.le{t:SetTable}{occ:Nat->Prop}:∀{n:Nat} {p:D2} {j:Nat},p.j+p.more<=t.mask->Hit t occ n p j->j<=t.mask
 |0,p,j,h,e=>by have e:p.j=j:=e;lia
 |n+1,p,j,h,⟨_,q⟩=>by
  refine Hit.le ?_ q;unfold Gz;split
  ·show p.j+1+(p.more-1)<=t.mask;lia
  ·show(Kj t.mask p.i p.perturb).1+(Bp t.mask (Kj t.mask p.i p.perturb).1-(Kj t.mask p.i p.perturb).1)<=t.mask;have hl:(Kj t.mask p.i p.perturb).1<=t.mask:=Jo (Oe _ (Mr _));unfold Bp;split<;>lia
def Jnp(t:SetTable)(h:Int):(t.probeStart h).j+(t.probeStart h).more<=t.mask:=by
 show Fj h%(t.mask+1)+(Bp t.mask (Fj h%(t.mask+1))-Fj h%(t.mask+1))<=t.mask;have hl:Fj h%(t.mask+1)<=t.mask:=Jo (Oe _ (Mr _));unfold Bp;split<;>lia
theorem sub_len:∀(l P:List Nat),l.Nodup->(∀j∈l,j∈P)->l.length<=P.length
 |[],P,_,_=>by simp
 |x::l,P,hl,hm=>by
  have hx:=hm x (.head _);have h2:=sub_len l (P.erase x) (Cr.mp hl).2 λj hj=>by
   have hne:j≠x:=λe=>(Cr.mp hl).1 (e▸hj);exact(Qi hne).mpr (hm j (.tail _ hj))
  rw[O1 hx]at h2;have:=Pm hx;simp only[A5]
  lia
def Jut(n:Nat)(P:List Nat)(h:∀j,j<n->j∈P):n<=P.length:=by
 simpa using sub_len (B3 n) P List.nodup_range λj hj=>h j (Tx.mp hj)
def Tb.free{t:SetTable}(T:Tb prog w t kb):∃j,j<=t.mask/\j∉t.place.toList:=by
 apply Classical.byContradiction;intro h;have h1:∀j,j<t.mask+1->j∈t.place.toList:=λj hj=>K2.mp λq=>h ⟨j,by lia,q⟩;have h2:=Jut _ _ h1;rw[Bz,T.len]at h2;have:=T.room
 lia
def Tb.put{t:SetTable}{kb:List (List Int×Addr)}(T:Tb prog w t kb)(hk:k∉kb.map (·.1))(hj:j∉t.place.toList)(hn:n<10*Dn t.mask)(hh:Hit t (·∈t.place.toList) n (t.probeStart (kh prog w k)) j):
  ∃kb1,kb1.Perm ((k,b)::kb)/\Ris (t.put j).1.place.toList/\(t.put j).1.dummies= #[]/\(t.put j).1.mask=t.mask/\(t.put j).1.place.size=kb1.length/\
   (∀i∈(t.put j).1.place.toList,i<=t.mask)/\(kb1.map (·.1)).Nodup/\(∀q∈(t.put j).1.place.toList.zip kb1,∃n,n<10*Dn t.mask/\Hit (t.put j).1 (·∈(t.put j).1.place.toList) n ((t.put j).1.probeStart (kh prog w q.2.1)) q.1)/\
   ∀es:Array (Int×Value),es.toList=kb.map (entS prog w)->(D4 es (t.put j).2 (kh prog w k,.ref b)).toList=kb1.map (entS prog w):=by
 obtain⟨b1,b2,b3⟩:=Jfs j T.ris;obtain⟨p,hp⟩:∃p,C1 t.place j=p:=⟨_,rfl⟩
 rw[hp]at b1 b2 b3;have ep:(t.put j).1.place=D4 t.place p j:=by rw[<-hp];rfl
 have epl:(t.put j).1.place.toList=t.place.toList.take p++j::t.place.toList.drop p:=by rw[ep,Jfk]
 have ed:(t.put j).1.dummies= #[]:=by
  show(if Jj t.dummies j then _ else t.dummies)= #[];rw[T.dum];have:Jj #[] j=false:=by unfold Jj;simp
  rw[this];rfl
 have em:(t.put j).1.mask=t.mask:=rfl;have len:t.place.toList.length=kb.length:=by rw[Bz,T.len]
 have hpl:p<=t.place.toList.length:=by simpa using b3
 have zp:(t.place.toList.take p++j::t.place.toList.drop p).zip (kb.take p++(k,b)::kb.drop p)=(t.place.toList.zip kb).take p++(j,(k,b))::(t.place.toList.zip kb).drop p:=by
  rw[List.zip_append (by simp;lia),Q4];congr 1
  ·exact(List.take_zipWith ..).symm
  ·congr 1;exact(List.drop_zipWith ..).symm
 have perm1:∀{α:Type} (l:List α) (x:α),(l.take p++x::l.drop p).Perm (x::l):=λl x=>by
  refine List.perm_middle.trans (Qu _ ?_);rw[List.take_append_drop]
 have occ1:∀i,i∈t.place.toList->i∈(t.put j).1.place.toList:=λi hi=>by
  rw[epl];exact(perm1 _ _).mem_iff.mpr (.tail _ hi)
 refine⟨kb.take p++(k,b)::kb.drop p,perm1 _ _,?_,ed,em,?_,?_,?_,?_,?_⟩
 ·rw[epl];refine Qh.mpr ⟨T.ris.sublist (Rx _ _),Q5.mpr ⟨λy hy=>?_,T.ris.sublist (List.drop_sublist _ _)⟩,λx hx y hy=>?_⟩
  ·obtain⟨i,hi,rfl⟩:=C6.mp hy;have hi':p+i<t.place.size:=by simp at hi;lia
   have h1:=b2 (p+i) hi' (by lia);have h2:(List.drop p t.place.toList)[i]=t.place[p+i]:=by simp
   rw[h2];rcases Nat.lt_or_eq_of_le h1 with q|q
   ·exact q
   ·exact absurd (by rw[q];simp) hj
  ·obtain⟨i,hi,rfl⟩:=C6.mp hx;have hi2:i<p/\i<t.place.size:=by simp at hi;lia
   have h2:(List.take p t.place.toList)[i]=t.place[i]:=by simp
   rw[h2];have h3:=b1 i hi2.2 hi2.1;rcases An.mp hy with rfl|hy
   ·exact h3
   ·obtain⟨i',hi',rfl⟩:=C6.mp hy;have h4:(List.drop p t.place.toList)[i']=t.place[p+i']'(by simp at hi';lia):=by simp
    rw[h4];have:=b2 (p+i') (by simp at hi';lia) (by lia)
    lia
 ·rw[<-Bz,epl,(perm1 _ _).length_eq,(perm1 _ _).length_eq,A5,A5,len]
 ·intro i hi;rw[epl]at hi;rcases An.mp ((perm1 _ _).mem_iff.mp hi)with rfl|hi
  ·exact hh.le (Jnp t _)
  ·exact T.inb i hi
 ·have:((kb.take p++(k,b)::kb.drop p).map (·.1)).Perm (((k,b)::kb).map (·.1)):=(perm1 _ _).map _;exact this.nodup_iff.mpr (Cr.mpr ⟨hk,T.nd⟩)
 ·intro q hq;rw[epl,zp]at hq;rcases An.mp ((perm1 _ _).mem_iff.mp hq)with rfl|hq
  ·exact⟨n,hn,hh.mono (t':=(t.put j).1) em occ1⟩
  ·obtain⟨n',h1,h2⟩:=T.way q hq;exact⟨n',h1,h2.mono (t':=(t.put j).1) em occ1⟩
 ·intro es he;rw[show(t.put j).2=p from hp,Jfk,he];simp[entS,Jp,O0]
end
section
variable {prog:Program} {w:World} {A:Bi} {E:Value->Shared->Prop} {s:Shared}
inductive SetT (prog:Program) (w:World) (h:Heap) (a:Addr) (kb:List (List Int×Addr)):Prop
 |mk (o es ep t) (_:h.get? a=some o) (_:o.ExactSet) (_:o.data=.set es ep t) (_:es.toList=kb.map (entS prog w)) (_:Tb prog w t kb):SetT prog w h a kb
def stored{h:Heap}{o:Obj}(ho:h.get? a=some o)(hd:o.data=.set es ep t):
  (h.update a (Ri es' t')).get? a=some {o with data:=.set es' (ep+1) t'}:=by
 have:=Cw (Ri es' t') ho (by rw[putSet_of es' t' hd];rfl);rw[putSet_of es' t' hd]at this;exact this
def Jpu:100<=sizeLine:=by rw[G4];decide
def Ju3{kb:List (List Int×Addr)}{Q:Bool->Shared->Prop}(hu:A.units<C0)(S:SetT prog w s.heap a kb)(hkb:∀x∈kb,IK prog w s.heap x.1 x.2)(hk:IK prog w s.heap k b)(hn:kb.length<3)
  (hold:k∈kb.map (·.1)->Q false s)(hnew:k∉kb.map (·.1)->∀h' kb',Cp a s.heap h'->SetT prog w h' a kb'->kb'.Perm ((k,b)::kb)->Q true {s with heap:=h'}):
  wpAny (model prog w) A (setAddHashed a (.ref b) (kh prog w k)) Q E s:=by
 obtain⟨o,es,ep,t,ho,hx,hd,he,T⟩:=S;have hf:=T.fits he;unfold setAddHashed;refine Bc ?_;rw[show(100000:Nat)=99999+1 from rfl,setAddHashedIn];refine Aa (Jy ho hd hf ?_);dsimp only;have hsc:byScan (.ref b) es=false:=by unfold byScan;rfl
 rw[hsc];simp only[As,if_false];unfold setSearch;have hturn:10*Dn t.mask<100000:=by unfold Dn;rw[T.msk];decide
 by_cases hin:k∈kb.map (·.1)
 ·obtain⟨x,hx',ek⟩:=Bd.mp hin;obtain⟨i,hi,ei⟩:=C6.mp hx';have hip:i<t.place.size:=by rw[T.len];exact hi
  have hz:(t.place[i],x)∈t.place.toList.zip kb:=by
   refine Fw.mpr ⟨i,?_⟩;rw[Of];exact⟨by rw[Dx];exact Bm hip,by rw[Ag hi,ei]⟩
  obtain⟨n,h1,h2⟩:=T.way _ hz;simp only[ek]at h2;refine Aa (Jc1 (j:=t.place[i]) hu T ho hd he hkb hk (.inr ⟨⟨i,hip,rfl,by rw[Ag hi,ei];exact congrArg some ek⟩,?_⟩) n 100000 none (by lia) h1 rfl h2);exact Ab (hold hin)
 ·obtain⟨j0,hj0,hno⟩:=T.free;obtain⟨n,j,h1,h2,h3⟩:=Jpe (occ:=(·∈t.place.toList)) T.msk hj0 hno (kh prog w k);refine Aa (Jc1 (j:=j) hu T ho hd he hkb hk (.inl ⟨h2,hin,?_⟩) n 100000 none (by lia) h1 rfl h3);dsimp only;refine Aa (Jy ho hd hf ?_);dsimp only;obtain⟨kb1,p1,r1,d1,m1,l1,i1,n1,w1,e1⟩:=T.put (b:=b) hin h2 h1 h3;have e1:=e1 es he;have hlen1:kb1.length=kb.length+1:=by rw[p1.length_eq];rfl
  have hesz:es.size=kb.length:=by rw[<-Bz,he,Ah]
  have hz1:(D4 es (t.put j).2 (kh prog w k,Aq b)).size=kb.length+1:=by rw[<-Bz,e1,Ah,hlen1]
  have fit1:(t.put j).1.fits (D4 es (t.put j).2 (kh prog w k,Aq b)).size=true:=by
   unfold Rh M3;rw[d1,l1,hz1,hlen1,m1];have:=T.room;simp only[beq_self_eq_true,Lj,decide_eq_true_eq];show kb.length+1+0<=t.mask;rw[T.msk];lia
  have body:wpAny (model prog w) A (do
    storeSet a (D4 es (t.put j).2 (kh prog w k,Aq b)) (t.put j).1
    if(!false&&(t.put j).1.tooFull)=true then do
     setRelay a (SetTable.grown (es.size+1))
     pure true
    else pure true) Q E s:=by
   refine Aa (wpAny_storeSet_of ho hd ?_ (by rw[hz1];have:=Jpu;lia));have sb:=C5 s.heap a (Ri (D4 es (t.put j).2 (kh prog w k,Aq b)) (t.put j).1);have fill:(t.put j).1.fill=kb.length+1:=by unfold M3;rw[d1,l1,hlen1];rfl
   have full:(t.put j).1.tooFull=false:=by
    unfold SetTable.tooFull;rw[fill,m1,T.msk];exact decide_eq_false (by lia)
   rw[full];simp only[Ik,As,if_false];exact Ab (hnew hin _ kb1 sb ⟨_,_,_,_,stored ho hd,hx,rfl,e1,r1,d1,by rw[m1];exact T.msk,l1,by rw[m1];exact i1,by rw[hlen1,m1,T.msk];lia,n1,by rw[m1];exact w1⟩ p1)
  by_cases hpl:(t.put j).1.plain=true
  ·rw[if_pos hpl];refine Aa (Je8 hk ?_);exact body
  ·rw[if_neg hpl];refine Aa (Ab ?_);exact body
end
open PySem PyProof.Rows
noncomputable def dd(ks:Nat->List Int):Nat->List (List Int)
 |0=>[]
 |n+1=>if ks n∈dd ks n then dd ks n else ks n::dd ks n
theorem Jhm(ks:Nat->List Int):∀n,(dd ks n).length<=n
 |0=>Aj _
 |n+1=>by
  unfold dd;have:=Jhm ks n;split
  ·lia
  ·simp only[A5];lia
section
variable {prog:Program} {w:World} {A:Bi} {s:Shared} {R:K1->Shared->Prop}
def IK.keep{h h':Heap}(x:IK prog w h k b)(e:∀o,h.get? b=some o->h'.get? b=some o):IK prog w h' k b:=by
 obtain⟨o,its,n,ho,r⟩:=x;exact⟨o,its,n,e o ho,r⟩
def SetT.keep{h h':Heap}(x:SetT prog w h a kb)(e:∀o,h.get? a=some o->h'.get? a=some o):SetT prog w h' a kb:=by
 obtain⟨o,es,ep,t,ho,r,r1,r2,r3⟩:=x;exact⟨o,es,ep,t,e o ho,r,r1,r2,r3⟩
structure Lo(prog:Program)(w:World)(I l S:Addr)(items:Array Value)(ks:Nat->List Int)(i:Nat)(h:Heap)(kb:List (List Int×Addr)):Prop where
 it:h.IsListIter I l i
 li:h.IsList l items
 st:SetT prog w h S kb
 el:∀j v,items[j]? =some v->∃b,v=.ref b/\b≠S/\b≠I/\IK prog w h (ks j) b
 ek:∀x∈kb,x.2≠S/\x.2≠I/\IK prog w h x.1 x.2
 pm:(kb.map (·.1)).Perm (dd ks i)
theorem loop{items:Array Value}{ks:Nat->List Int}(hh:A.in1.handled=none)(hu:A.in1.units<C0)(h1:l≠I)(h2:S≠I)(h3:S≠l)(hb:items.size<4):
  ∀(k i:Nat) (s:Shared) (kb:List (List Int×Addr)),items.size-i=k->i<=items.size->Lo prog w I l S items ks i s.heap kb->
   (∀h' tk kb',(∀b o,b≠S->b≠I->s.heap.get? b=some o->h'.get? b=some o)->SetT prog w h' S kb'->(kb'.map (·.1)).Perm (dd ks items.size)->R (.ok (.ret .none)) {s with heap:=h',toks:=tk})->
   F9 (model prog w) A (.builtin "set.update.loop" ⟨[.ref S,.ref I],[]⟩) R s:=by
 have W:=Qo (prog:=prog) (w:=w) (A:=A.in1) hh I l h1 items;intro k
 induction k with
 |zero=>
  intro i s kb hk hi L hR;have:i=items.size:=by lia
  subst this;refine C8 Qf ?_;rw[C3 G1 _];show wpAny _ A.in1 (pyNext (.ref I)>>=_) _ _ s;refine Aa (W.done s _ _ ⟨L.it,L.li⟩ λh' tk hm=>?_);exact Ab (hR h' tk kb (λb o _ hI e=>hm b o (by simpa using hI) e) (L.st.keep λo e=>hm S o (by simpa using h2) e) L.pm)
 |succ k ih=>
  intro i s kb hk hi L hR;have hlt:i<items.size:=by lia
  refine C8 Qf ?_;rw[C3 G1 _];show wpAny _ A.in1 (pyNext (.ref I)>>=_) _ _ s;refine Aa (W.item i s _ _ hlt ⟨L.it,L.li⟩ λv h' tk hP hst hm=>?_);obtain⟨b,rfl,b1,b2,b3⟩:=L.el i v hP;have k1:∀c o,c≠I->s.heap.get? c=some o->h'.get? c=some o:=λc o hc e=>hm c o (by simpa using hc) e;have st1:SetT prog w h' S kb:=L.st.keep λo e=>k1 S o h2 e;have el1:∀j v,items[j]? =some v->∃b,v=.ref b/\b≠S/\b≠I/\IK prog w h' (ks j) b:=λj v hv=>by
   obtain⟨c,rfl,c1,c2,c3⟩:=L.el j v hv;exact⟨c,rfl,c1,c2,c3.keep λo e=>k1 c o c2 e⟩
  have ek1:∀x∈kb,x.2≠S/\x.2≠I/\IK prog w h' x.1 x.2:=λx hx=>by
   obtain⟨c1,c2,c3⟩:=L.ek x hx;exact⟨c1,c2,c3.keep λo e=>k1 _ o c2 e⟩
  have hkb:IK prog w h' (ks i) b:=b3.keep λo e=>k1 b o b2 e;have hlen:kb.length<3:=by
   have e1:=L.pm.length_eq;have e2:=Jhm ks i;rw[Ah]at e1
   lia
  show wpAny _ A.in1 (holding [Aq b] (setAdd S (.ref b))>>=_) _ _ _;refine Aa (Bc ?_);unfold setAdd;refine Bc ?_;refine Aa (wpAny_pyHash_tuple (s:={s with heap:=h',toks:=tk}) hu hkb ?_);refine Ju3 (s:={s with heap:=h',toks:=tk+((ks i).length+1)}) hu st1 (λx hx=>(ek1 x hx).2.2) hkb hlen (λhin=>?_) (λhin h2' kb' sb S' pm'=>?_)
  ·refine Ab ⟨F6 G1 _,ih (i+1) _ kb (by lia) hlt ⟨hst.1,hst.2,st1,el1,ek1,?_⟩ λh3' tk' kb' hkeep S' p'=>?_⟩
   ·unfold dd;rw[if_pos (L.pm.mem_iff.mp hin)];exact L.pm
   ·exact hR h3' tk' kb' (λc o c1 c2 e=>hkeep c o c1 c2 (k1 c o c2 e)) S' p'
  ·have k2:∀c o,c≠S->h'.get? c=some o->h2'.get? c=some o:=λc o hc e=>by rw[sb.2 c hc];exact e
   refine Ab ⟨F6 G1 _,ih (i+1) _ kb' (by lia) hlt ⟨hst.1.at λo e=>k2 I o (Df h2) e,hst.2.at λo e=>k2 l o (Df h3) e,S',λj v hv=>?_,λx hx=>?_,?_⟩ λh3' tk' kb'' hkeep S'' p'=>?_⟩
   ·obtain⟨c,rfl,c1,c2,c3⟩:=el1 j v hv;exact⟨c,rfl,c1,c2,c3.keep λo e=>k2 c o c1 e⟩
   ·rcases An.mp (pm'.mem_iff.mp hx)with rfl|hx
    ·exact⟨b1,b2,hkb.keep λo e=>k2 b o b1 e⟩
    ·obtain⟨c1,c2,c3⟩:=ek1 x hx;exact⟨c1,c2,c3.keep λo e=>k2 _ o c1 e⟩
   ·unfold dd;rw[if_neg λq=>hin (L.pm.mem_iff.mpr q)];exact(pm'.map _).trans (Qu _ L.pm)
   ·exact hR h3' tk' kb'' (λc o c1 c2 e=>hkeep c o c1 c2 (k2 c o c1 (k1 c o c2 e))) S'' p'
variable {E:Value->Shared->Prop}
noncomputable abbrev setO(led:Bool):Obj:={cls:=.type "set",dict:=none,data:=.set #[] 0 (.fresh 0 0 led)}
def Jpj(led:Bool):Tb prog w (.fresh 0 0 led) []:=
 ⟨N2,rfl,rfl,rfl,nofun,by show 0*5<7*3;decide,Ii,nofun⟩
inductive Mad (prog:Program) (w:World) (s:Shared) (ks:Nat->List Int) (n:Nat) (h':Heap):Prop
 |mk (_:(∃kb,SetT prog w h' s.heap.objs.size kb/\(kb.map (·.1)).Perm (dd ks n))) (_:∀b o,b<s.heap.objs.size->s.heap.get? b=some o->h'.get? b=some o):Mad prog w s ks n h'
def Jmi{items:Array Value}{ks:Nat->List Int}(hh:A.handled=none)(hu:A.in1.in1.in1.units<C0)(hl:s.heap.IsList l items)
  (hi:∀j v,items[j]? =some v->∃b,v=.ref b/\IK prog w s.heap (ks j) b)(hb:items.size<4){P:PySem.Fin->Shared->Prop}
  (h:∀h' tk,Mad prog w s ks items.size h'->P (.done (.ret .none)) {s with heap:=h',toks:=tk}):
  wpAny (model prog w) A.in1.in1 (Builtin.«set.__init__» ⟨[.ref s.heap.objs.size,.ref l],[]⟩) P E {s with heap:=s.heap.push (setO led)}:=by
 obtain⟨ol,hol,hcl,nl,hdl⟩:=id hl;obtain⟨hp,g,d,tk0,os⟩:=s;obtain⟨oc,od,oda,osl⟩:=ol;simp only at hcl hdl hol hl hi h ⊢;subst hcl hdl;have hlS:l<hp.objs.size:=Am hol;have hS:(hp.push (setO led)).get? hp.objs.size=some (setO led):=Ak _ rfl;have hol1:=Ad (setO led) hol;have n1:=PySem.F.sub_list_set;have n2:=PySem.F.sub_list_frozenset;have n3:(Ea "list"==Ea "dict")=false:=by decide
 have hl1:(hp.push (setO led)).IsList l items:=⟨_,hol1,rfl,nl,rfl⟩
 unfold Builtin.«set.__init__» noKeywords Ss;generalize hPI:pyIter=PI
 wp_walk
 subst hPI;refine F8 hl1 (Aa (Pp ?_));have hz:(hp.push (setO led)).objs.size=hp.objs.size+1:=Cd ..;have lo:∀{b:Addr} {o:Obj},hp.get? b=some o->b≠hp.objs.size/\b≠(hp.push (setO led)).objs.size:=λe=>by
  have q:=Am e;rw[hz];exact⟨Au q,Au (Jm q)⟩
 have up:∀{b:Addr} {o:Obj} (x:Obj),hp.get? b=some o->((hp.push (setO led)).push x).get? b=some o:=λx e=>Ad _ (Ad _ e);refine loop (ks:=ks) (by simp[hh]) hu (l:=l) (by rw[hz];exact Au (Jm hlS)) (by rw[hz];exact Au (Dm _)) (Cq hlS) hb items.size 0 _ [] (by lia) (Cz _)
  ⟨⟨_,Ak _ rfl,rfl,rfl⟩,hl1.push _,⟨_,#[],0,_,Ad _ hS,⟨rfl,rfl,rfl⟩,rfl,rfl,Jpj led⟩,λj v hv=>?_,nofun,List.Perm.refl _⟩ λh' tk kb' hk S' p'=>?_
 ·obtain⟨b,rfl,x⟩:=hi j v hv;obtain⟨o,its,m,ho,r⟩:=id x;exact⟨b,rfl,(lo ho).1,(lo ho).2,o,its,m,up _ ho,r⟩
 ·show wpAny _ _ _ _ _ _;refine Ab ?_;show wpAny _ _ (ret Cj) _ _ _;exact Ab (h h' tk ⟨⟨kb',S',p'⟩,λb o _ e=>hk b o (lo e).1 (lo e).2 (up _ e)⟩)
theorem Jm3{items:Array Value}{ks:Nat->List Int}{Q:Value->Shared->Prop}(hh:A.handled=none)(hu:A.units+9<C0)(hl:s.heap.IsList l items)
  (hi:∀j v,items[j]? =some v->∃b,v=.ref b/\IK prog w s.heap (ks j) b)(hb:items.size<4)
  (h:∀h' tk,Mad prog w s ks items.size h'->Q (.ref s.heap.objs.size) {s with heap:=h',toks:=tk}):
  wpAny (model prog w) A (call (.type "set") [.ref l]) Q E s:=by
 obtain⟨c,tl,hmro⟩:=Dw.mro;have m1:=Dw.made;have m2:=Dw.sub;have m3:=Dw.notType;have m4:=Dw.canCreate;have m5:=PySem.F.typeCall_set_1 (.ref l);refine Kw (codeAny_of_tree ?_);show wpAny _ _ (callAny (.type "set") _) _ _ _;refine Ab ⟨Ll _ (by decide+kernel),C8 PySem.F.entry_type_call ?_⟩;rw[Around.under_plain (weight_type_call_type "set" [.ref l] []) rfl]
 repeat (any_goals (first|assumption|wp_step))
 refine E9 (code_set_new_1 (.ref l) (E:=E) (Q₁:=λx s₁=>∃led,x=.ref s.heap.objs.size/\s₁={s with heap:=s.heap.push (setO led)}) λled=>⟨led,rfl,rfl⟩) λr s₁ hr=>?_;cases r with
 |error e=>exact hr
 |ok fl=>
  cases fl<;>try exact hr.elim
  obtain⟨led,rfl,rfl⟩:=hr;have hS:(s.heap.push (setO led)).get? s.heap.objs.size=some (setO led):=Ak _ rfl;have hT:E1 {s with heap:=s.heap.push (setO led)} (.ref s.heap.objs.size) "set":=⟨_,hS,rfl⟩
  have m6:=Dw.init.lookup;have m7:=Dw.init.bind (.ref s.heap.objs.size)
  repeat (any_goals (first|assumption|wp_step))
  refine E9 (Lu (R:=wants (λr s₂=>r=.none/\∃h' tk,s₂={s with heap:=h',toks:=tk}/\Mad prog w s ks items.size h') E) Dw.init.plain PySem.F.entry_set_init
   (check_set_init_1 hT (Jmi hh (by show A.units+1+1+1<C0;lia) hl hi hb λh' tk m=>⟨rfl,h',tk,rfl,m⟩))) λr₂ s₂ hr₂=>?_
  cases r₂ with
  |error e=>exact hr₂
  |ok f2=>
   cases f2<;>try exact hr₂.elim
   obtain⟨rfl,h',tk,rfl,m⟩:=hr₂
   repeat (any_goals (first|assumption|wp_step))
   exact h _ _ m
end
end Sbl
namespace Rdc
open PySem
inductive Raw (h:Heap) (d:Addr) (es:Array Cg) (ep:Nat):Prop
 |mk (o) (_:h.get? d=some o) (_:o.ExactDict) (_:o.data=.dict es ep):Raw h d es ep
def Raw.keep{h h':Heap}(x:Raw h d es ep)(e:∀o,h.get? d=some o->h'.get? d=some o):Raw h' d es ep:=let⟨o,a,r,r'⟩:=x;⟨o,e o a,r,r'⟩
def Raw.typeIs{s:Shared}(x:Raw s.heap d es ep):s.TypeIs (.ref d) "dict":=let⟨o,a,b,_⟩:=x;⟨o,a,b.1⟩
section
variable {prog:Program} {w:World} {A:Bi} {E:Value->Shared->Prop} {s:Shared} {d it v:Addr} {es:Array Cg} {ep i:Nat}
def Jhi{Q:Value->Shared->Prop}(hd:(d==sysModules)=false)(hm:Raw s.heap d es ep)
  (hQ:Q (.ref s.heap.objs.size) {s with heap:=s.heap.push {cls:=.type "dict_keyiterator",data:=.fields #[.ref d,.int 0 0,.int es.size 0,.int ep 0]}}):wpAny (model prog w) A (pyIter (.ref d)) Q E s:=by
 have hT:=hm.typeIs;obtain⟨o,h1,h2,h3⟩:=hm;refine Nb hT Nn (Bg Nn hT F.entry_dict_iter ?_ (F.args_dict_iter_1 _));unfold Builtin.«dict.__iter__» Builtin.Dict.dictSlotNone;refine Aa (Aa (D3 hT (Ab ?_)));unfold Eg;refine Aa (Ab ?_);rw[if_neg (by rw[hd];simp)];exact Aa (Ab (Aa (Br h1 h3 (Aa (D1 h1 h3 (Aa (Bq (Ab ⟨_,rfl,"dict_keyiterator",_,⟨_,Ak _ rfl,rfl⟩,Ei.lookup,hQ⟩))))))))
def Jqv{Q:Option Value->Shared->Prop}(b:Bool)(hit:cond b (s.heap.IsValIter it d i es.size ep) (s.heap.IsKeyIter it d i es.size ep))(hm:Raw s.heap d es ep)(hi:i<es.size)
  (hQ:∀h',cond b (h'.IsValIter it d (i+1) es.size ep) (h'.IsKeyIter it d (i+1) es.size ep)->Cp it s.heap h'->Q (some (cond b es[i].val es[i].key)) {s with heap:=h'}):wpAny (model prog w) A (pyNext (.ref it)) Q E s:=by
 obtain⟨h',hh'⟩:∃h',h'=s.heap.update it (Obj.mapFields (·.setIfInBounds 1 (rawInt ((i:Int)+1)))):=⟨_,rfl⟩
 have nx:cond b (h'.IsValIter it d (i+1) es.size ep) (h'.IsKeyIter it d (i+1) es.size ep):=by
  cases b<;>exact let⟨o,ho,hc,hd⟩:=hit;⟨_,by rw[hh'];exact Cw _ ho (Qd (Io hd _)),(R6 ..).trans hc,by rw[Io hd];simp[rawInt]⟩
 replace hQ:=hQ h' nx (by rw[hh'];exact C5 ..)
 cases b<;>dsimp only[cond]at hit nx hQ
 all_goals
  obtain⟨o,ho,hc,hd⟩:=id hit;obtain⟨q,h1,h2,h3⟩:=hm;unfold pyNext
  first|refine Aa (Du (Bv (name:=Ac "__next__") hit.typeIs D5 (Bg D5 hit.typeIs M6 ?_ (M2 _))))|refine Aa (Du (Bv (name:=Ac "__next__") hit.typeIs Ei (Bg Ei hit.typeIs Nx ?_ (Np _))))
  refine Aa (Ab (Aa (Aa ?_)))
  first|refine Aa (Ft hit.typeIs (Ab ?_))|refine Aa (Gw hit.typeIs (Ab ?_))|refine Aa (Fv hit.typeIs (Ab ?_))|refine Aa (Gx hit.typeIs (Ab ?_))
  refine Aa (Lq ho hd ?_)
  first|rw[if_neg (show¬B6 "dict_valueiterator"=true by decide)]|rw[if_neg (show¬B6 "dict_keyiterator"=true by decide)]
  show wpAny _ _ (if(Aq d==Cj)=true then _ else _) _ _ s;rw[if_neg (show¬((Aq d==Cj)=true)from Aw)];refine Aa (Ab (Aa (Br h1 h3 ?_)));rw[if_neg (by simp)];refine Aa (Ab (Aa (D1 h1 h3 ?_)));rw[if_neg (by simp)];refine Ab ?_;dsimp only;rw[if_neg (show¬((i:Int)<0) by omega),Ed,Bm hi];refine Aa ?_
  first|refine Aa (Ft hit.typeIs (Ab ?_))|refine Aa (Gw hit.typeIs (Ab ?_))|refine Aa (Fv hit.typeIs (Ab ?_))|refine Aa (Gx hit.typeIs (Ab ?_))
  first|refine Aa (K9 hit.typeIs ?_)|refine Aa (R1 hit.typeIs ?_)
  show wpAny _ _ (Sh (.ref it) 1 (rawInt ((i:Int)+1))>>=_) _ _ s;refine Aa (Jq ho hd (by simp) ?_);rw[<-hh']
  first|refine Aa (Bc (Aa (K9 (s:={s with heap:=h'}) nx.typeIs (Aa (K9 (s:={s with heap:=h'}) nx.typeIs ?_)))))|refine Aa (Bc (Aa (R1 (s:={s with heap:=h'}) nx.typeIs ?_)))
  exact Ab (Ab ⟨_,rfl,Ab hQ⟩)
def Jxs{Q:Option Value->Shared->Prop}(b:Bool)(hh:A.handled=none)(hit:cond b (s.heap.IsValIter it d i es.size ep) (s.heap.IsKeyIter it d i es.size ep))(hm:Raw s.heap d es ep)(hi:es.size<=i)
  (hQ:∀h',M0 it s.heap h'->Q none {s with heap:=h'}):wpAny (model prog w) A (pyNext (.ref it)) Q E s:=by
 cases b<;>dsimp only[cond]at hit
 all_goals
  obtain⟨o,ho,hc,hd⟩:=id hit;obtain⟨q,h1,h2,h3⟩:=hm;unfold pyNext
  first|refine Aa (Du (Bv (name:=Ac "__next__") hit.typeIs D5 (Bg D5 hit.typeIs M6 ?_ (M2 _))))|refine Aa (Du (Bv (name:=Ac "__next__") hit.typeIs Ei (Bg Ei hit.typeIs Nx ?_ (Np _))))
  refine Aa (Ab (Aa (Aa ?_)))
  first|refine Aa (Ft hit.typeIs (Ab ?_))|refine Aa (Gw hit.typeIs (Ab ?_))|refine Aa (Fv hit.typeIs (Ab ?_))|refine Aa (Gx hit.typeIs (Ab ?_))
  refine Aa (Lq ho hd ?_)
  first|rw[if_neg (show¬B6 "dict_valueiterator"=true by decide)]|rw[if_neg (show¬B6 "dict_keyiterator"=true by decide)]
  show wpAny _ _ (if(Aq d==Cj)=true then _ else _) _ _ s;rw[if_neg (show¬((Aq d==Cj)=true)from Aw)];refine Aa (Ab (Aa (Br h1 h3 ?_)));rw[if_neg (by simp)];refine Aa (Ab (Aa (D1 h1 h3 ?_)));rw[if_neg (by simp)];refine Ab ?_;dsimp only;rw[if_neg (show¬((i:Int)<0) by omega),Ed,Pd hi];refine Aa ?_
  first|refine Aa (Ft hit.typeIs (Ab ?_))|refine Aa (Gw hit.typeIs (Ab ?_))|refine Aa (Fv hit.typeIs (Ab ?_))|refine Aa (Gx hit.typeIs (Ab ?_))
  show wpAny _ _ (Sh (.ref it) 0 .none>>=_) _ _ s;refine Aa (Jq ho hd (by simp) ?_);show wpAny _ _ (Rb (.type "StopIteration") []>>=_) _ _ _;simp only[Rb,newTuple];refine Aa (Aa (Bq ?_ (by size_fits)));refine Aa (m:=Hh _ _) (Oi (a:=Cj) (by first|rfl|(simp only[Hh];rfl)) ?_);refine Bq ?_ (by size_fits);simp only[raiseNew];refine Aa (Qn ?_);rw[show A.in1.handled=none from hh];refine Aa (Ab (Se ?_));refine Aa (D7 (T:="StopIteration") (b:=true) ⟨_,Ak _ rfl,rfl⟩ Pw ?_);exact Ab (hQ _ (((C5 ..).extBut.push _).push _))
def Jmd{Q:Value->Shared->Prop}(hv:s.heap.IsValuesView v d)(hm:Raw s.heap d es ep)
  (hQ:Q (.ref s.heap.objs.size) {s with heap:=s.heap.push {cls:=.type "dict_valueiterator",data:=.fields #[.ref d,.int 0 0,.int es.size 0,.int ep 0]}}):wpAny (model prog w) A (pyIter (.ref v)) Q E s:=by
 obtain⟨ov,v1,v2,v3⟩:=id hv;obtain⟨o,h1,h2,h3⟩:=hm;refine Nb hv.typeIs Qe (Bg Qe hv.typeIs F.entry_dict_values_iter ?_ (F.args_dict_values_iter_1 _));unfold Builtin.«dict_values.__iter__» Kn Ju;refine Aa (Ab (Aa (Aa (B7 v1 v3 (x:=.ref d) rfl (Ab ?_)))));refine Aa (Aa (Br h1 h3 (Aa (D1 h1 h3 ?_))));simp only[show B6 "dict_valueiterator"=false by decide,As,if_false];exact Bq (Ab ⟨_,rfl,"dict_valueiterator",_,⟨_,Ak _ rfl,rfl⟩,D5.lookup,hQ⟩)
def Ji2{Q:Value->Shared->Prop}(hd:(d==sysModules)=false)(hm:Raw s.heap d es ep)
  (hQ:Q (.ref s.heap.objs.size) {s with heap:=s.heap.push {cls:=.type "dict_values",data:=.fields #[.ref d]}}):wpAny (model prog w) A (call (.builtin "dict.values") [.ref d]) Q E s:=by
 refine Bg P5 hm.typeIs F.entry_dict_values ?_ (F.args_dict_values_1 _);refine Aa ?_;unfold Nr;refine Aa (D3 hm.typeIs ?_);refine Ab ?_;show wpAny _ _ (Eg d>>=_) _ _ s;unfold Eg;rw[if_neg (by rw[hd];simp)];exact Aa (Ab (Aa (Bq (Ab ⟨_,rfl,hQ⟩))))
def Jkv(hh:A.handled=none)(I d:Addr)(hne:d≠I)(es:Array Cg)(ep:Nat):
  Walks prog w A I [I,d] [I] es.size (λi v=>∃e,es[i]? =some e/\v=e.key) (λi h=>h.IsKeyIter I d i es.size ep/\Raw h d es ep)where
 sub:=λb hb=>by simp at hb;simp[hb]
 frame:=λ_ _ _ st hk=>⟨st.1.at λo e=>hk I (by simp) o e,st.2.keep λo e=>hk d (by simp) o e⟩
 item:=λi s Q E hi st hQ=>Jqv false st.1 st.2 hi λh' hit' hs'=>hQ _ h' s.toks ⟨es[i],Bm hi,rfl⟩ ⟨hit',st.2.keep λo e=>by rw[hs'.2 d hne];exact e⟩ λb o hb e=>hs'.extBut b o (λh=>hb (by simp[h])) e
 done:=λs Q E st hQ=>Jxs false hh st.1 st.2 (Aj _) λh' he'=>hQ h' s.toks λb o hb e=>he' b o (λh=>hb (by simp[h])) e
 self:=λ_ _ _ _ st hQ=>Sf st.1 hQ
open PySem.W in
def Jnq(hd:(d==sysModules)=false):KdlSrc prog w "dict" d d es.size (λi v=>∃e,es[i]? =some e/\v=e.key) (λh=>Raw h d es ep)where
 type:=λs x=>x.typeIs
 there:=λh x=>let⟨_,e,_,_⟩:=x;⟨Am e,Am e⟩
 keep:=λh h' x k=>x.keep λo e=>k d (.inl rfl) o e
 notList:=by decide
 notTuple:=by decide
 hint:=λA E s Q x q=>kdl_hint_dict x.typeIs q
 iter:=λA s hh x=>⟨_,_,λE Q q=>Jhi hd x q,Jkv hh _ d (let⟨_,e,_,_⟩:=x;Au (Am e)) es ep,⟨_,Ak _ rfl,rfl,rfl⟩,x.keep λo e=>Ad _ e⟩
end
section
variable {prog:Program} {w:World} {K:Type} [DecidableEq K] {knd:Kl prog w K} {A:Bi} {E:Value->Shared->Prop} {s:Shared} {d a:Addr} {k:K} {xs:List (K×Addr×Value)}
noncomputable def Wy(xs:List (K×Addr×Value))(k:K):List (K×Addr×Value):=xs.filter λx=>decide (x.1≠k)
def Joo{xs:List (K×Addr×Value)}(h:k∉xs.map (·.1)):Wy xs k=xs:=by
 unfold Wy;rw[List.filter_eq_self];intro x hx;have:x.1≠k:=λe=>h (e▸Bd.mpr ⟨x,hx,rfl⟩);simp[this]
theorem Jly{β:Type}(f:K×Addr×Value->β):∀{xs:List (K×Addr×Value)} {j:Nat} {p:Addr×Value},(xs.map (·.1)).Nodup->xs[j]? =some (k,p)->(xs.map f).eraseIdx j=(Wy xs k).map f
 |[],j,p,_,h=>by simp at h
 |x::r,0,p,hn,h=>by
  simp only[Dk,Gk]at h;subst h;rw[Ay,Cr]at hn;have e:Wy ((k,p)::r) k=r:=by
   have:=Joo hn.1;unfold Wy at this ⊢;rw[Ff,if_neg (by simp)];exact this
  rw[e,Ay,List.eraseIdx_cons_zero]
 |x::r,j+1,p,hn,h=>by
  simp only[Bu]at h;rw[Ay,Cr]at hn;have hne:x.1≠k:=λe=>hn.1 (e▸Bd.mpr ⟨(k,p),Ba h,rfl⟩);have e:Wy (x::r) k=x::Wy r k:=by
   unfold Wy;rw[Ff,if_pos (by simpa using hne)]
  rw[e,Ay,Pc,Jly f hn.2 h,Ay]
def Jg3{p:Addr×Value}{Q:Option Cg->Shared->Prop}(hu:knd.room A)(hkey:knd.is s.heap k a)(hm:s.heap.DictOfH knd d xs)(hp:Gs xs k=some p)(hsz:xs.length<=sizeLine)
  (h:∀(c:Addr) h',h'.DictOfH knd d (Wy xs k)->Cp d s.heap h'->Q (some ⟨knd.hash k,.ref c,p.2⟩) {s with heap:=h',toks:=s.toks+knd.draws k}):
  wpAny (model prog w) A (M7 d (.ref a)) Q E s:=by
 obtain⟨o,es,ep,ho,hc,hd,he,his,hn⟩:=hm;unfold M7
 try with_reducible refine Bc ?_
 refine Aa (knd.pyHash hu hkey ?_);refine Aa (Ta (s:={s with toks:=s.toks+knd.draws k}) hu hkey ho hd he his hn ?_ ?_)
 ·intro hno;rw[Nj hno]at hp;exact nomatch hp
 ·intro j q hj;rw[atKey_of_get hn hj]at hp;cases hp;refine Aa (Br (s:={s with toks:=s.toks+knd.draws k}) ho hd ?_);rw[Lr he j,hj];refine Aa (wpAny_updateDictKeys (hz:=by have e:=E8 he;lia) (s:={s with toks:=s.toks+knd.draws k}) ho hd (Ab (h _ _ ⟨_,_,ep+1,Cw _ ho (Q1 (Hm hd _)),
   hc.mapDictKeys _,Hm hd _,?_,?_,?_⟩ (C5 ..))))
  ·have:=Jly (entryOfKey knd) hn hj;rw[<-he]at this;obtain⟨l⟩:=es
   simpa using this
  ·intro x hx;exact knd.keeps (his x (Hq.mp hx).1) ho hd (C5 ..)
  ·exact hn.sublist ((Qt).map _)
end
section
variable {prog:Program} {w:World} {K:Type} [DecidableEq K] (knd:Kl prog w K) (d a:Addr)
def Jj8:MeetsIn prog w (Builtin.«dict.pop» ⟨[.ref d,.ref a],[]⟩) (λA R s=>knd.room A.in1/\∃k xs p,knd.is s.heap k a/\s.heap.DictOfH knd d xs/\Gs xs k=some p/\xs.length<=sizeLine/\
   ∀h',h'.DictOfH knd d (Wy xs k)->Cp d s.heap h'->R (.ok (.ret p.2)) {s with heap:=h',toks:=s.toks+knd.draws k}):=
 .of_wp λA R s q_=>by
  obtain⟨hu,k,xs,p,hkey,hm,hp,hsz,h⟩:=q_;unfold Builtin.«dict.pop»;refine Aa ?_;unfold Builtin.Dict.keyAndDefault;refine Aa (D3 hm.typeIs ?_);show wpAny _ _ (pure (d,Aq a,none)) _ _ s;refine Ab ?_;obtain⟨o,es,ep,ho,hc,hd,he,_⟩:=id hm;have hne:es.isEmpty=false:=by
   cases xs with
   |nil=>simp[Gs]at hp
   |cons x r=>have:=E8 he;simp at this;simp[T6,this]
  simp only[show(Ng (Aq a)).isSome=false from rfl,As,if_false];refine Aa (Br ho hd (Aa (Ab ?_)));rw[hne];simp only[As,if_false];refine Aa (Jg3 hu hkey hm hp hsz λc h' hm' hs'=>?_);simp only[Qg,As,if_false];exact Aa (Oj (Ab ⟨p.2,rfl,h h' hm' hs'⟩))
end
section
variable {prog:Program} {w:World} {A:Bi} {E:Value->Shared->Prop} {s:Shared} {o:Addr} {es:Array Cg} {ep:Nat}
def Jim{Q:Bool->Shared->Prop}(ht:s.TypeIs (.ref k) "tuple")(h:Q false s):wpAny (model prog w) A (M8 (.ref k)) Q E s:=by
 unfold M8;exact Aa (F3 ht Ib.lookup (Ab h))
def Yx{id:String}{Q:Array Cg->Shared->Prop}(hm:Raw s.heap o es ep)(ht:∀e∈es,∃k,e.key=.ref k/\s.TypeIs (.ref k) "tuple")(hq:∀e∈es,(es.filter (·.hash==e.hash)).size<=1)(h:Q es s):
  wpAny (model prog w) A (K6 id o) Q E s:=by
 obtain⟨ob,h1,h2,h3⟩:=hm;unfold K6;refine Aa (Br h1 h3 (Aa ?_));show wpAny _ _ (forIn es _ _) _ _ s;rw[<-Fo];refine Dr _ (λrest r s'=>s'=s/\∀e∈rest,e∈es) _ ?_ ?_ _ _ ⟨rfl,λe he=>Di.mp he⟩
 ·rintro e rest r s' ⟨rfl,hall⟩;obtain⟨k,ek,tk⟩:=ht e (hall e Bh);rw[ek];refine Aa (Jim tk ?_);simp only[T4,if_true];rw[if_neg (by have:=hq e (hall e Bh);omega)];exact Ab ⟨rfl,λu hu=>hall u (Ax _ hu)⟩
 ·rintro r s' ⟨rfl,_⟩;exact Ab h
def Jm8{Q:Value->Shared->Prop}(hd:(o==sysModules)=false)(hm:Raw s.heap o es ep)(ht:∀e∈es,∃k,e.key=.ref k/\s.TypeIs (.ref k) "tuple")(hq:∀e∈es,(es.filter (·.hash==e.hash)).size<=1)
  (hz:es.size<=sizeLine)(h:∀h' ep',Raw h' s.heap.objs.size es ep'->Cp s.heap.objs.size (s.heap.push {cls:=.type "dict",data:=.dict #[]}) h'->Q (.ref s.heap.objs.size) {s with heap:=h'}):
  wpAny (model prog w) A (call (.type "dict") [.ref o]) Q E s:=by
 refine callType_codes (Q₁:=λobj s₁=>obj=.ref s.heap.objs.size/\s₁={s with heap:=s.heap.push {cls:=.type "dict",data:=.dict #[]}}) Uo (Rm _) Tf (kt_code_dict_new _ ⟨rfl,rfl⟩) ?_;rintro obj s₁ ⟨rfl,rfl⟩;have hnew:Raw (s.heap.push {cls:=.type "dict",data:=.dict #[]}) s.heap.objs.size #[] 0:=⟨_,Ak _ rfl,⟨rfl,rfl,rfl⟩,rfl⟩
 have ho':Raw (s.heap.push {cls:=.type "dict",data:=.dict #[]}) o es ep:=hm.keep λ_ q=>Ad _ q;have tN:E1 {s with heap:=s.heap.push {cls:=.type "dict",data:=.dict #[]}} (.ref s.heap.objs.size) "dict":=Raw.typeIs (s:={s with heap:=s.heap.push {cls:=.type "dict",data:=.dict #[]}}) hnew;have tO:E1 {s with heap:=s.heap.push {cls:=.type "dict",data:=.dict #[]}} (.ref o) "dict":=Raw.typeIs (s:={s with heap:=s.heap.push {cls:=.type "dict",data:=.dict #[]}}) ho';have hdo:¬((s.heap.objs.size==o)=true):=by
  obtain⟨_,hg,_⟩:=hm;exact λe=>absurd (Am hg) (by rw[eq_of_beq e];exact Em _)
 refine⟨tN,Sq _ _,?_⟩;unfold Builtin.«dict.__init__»;refine Aa ?_;unfold Mb;refine Aa (D3 tN ?_);show wpAny _ _ (pure (s.heap.objs.size,[Aq o])) _ _ _;refine Ab ?_;show wpAny _ _ (F7 "dict.__init__" s.heap.objs.size (.ref o) [] .none) _ _ _;unfold F7;refine Aa (Fy tO ?_);rw[if_neg (by decide)];refine Aa ?_;unfold Builtin.Dict.merge;refine Aa ?_;unfold Builtin.Dict.readDirectly;refine Aa (D7 tO isSubtype_dict_dict ?_);simp only[Dg,As,if_false];refine Aa (F3 tO Nn.lookup (Ab ?_));simp only[beq_self_eq_true,if_true];refine Aa (Ab ?_);obtain⟨ob,h1,h2,h3⟩:=id ho';obtain⟨nb,n1,n2,n3⟩:=id hnew;unfold Builtin.Dict.mergeDict;rw[if_neg hdo];unfold Eg;rw[if_neg (by rw[hd];simp)];refine Aa (Ab (Aa (Br h1 h3 ?_)))
 by_cases he:es= #[]
 ·have hf:(decide (es.size<=8)&&es.all λe=>(Ng e.key).isSome)=true:=by subst he;simp
  show wpAny _ _ (if(!(decide (es.size<=8)&&es.all λe=>(Ng e.key).isSome))=true then _ else _) _ _ _;rw[hf,if_neg (by simp)];refine Aa (D1 h1 h3 (Aa (Br h1 h3 (Aa ?_))));subst he;simp only[Fd,Hx];refine Ab (Ab ?_);show wpAny _ _ (Mc s.heap.objs.size []>>=_) _ _ _;exact Aa (Ab (Ab ⟨rfl,h _ _ hnew (Oa _ _)⟩))
 ·have hz0:0<es.size:=Nat.pos_of_ne_zero λq=>he (Array.eq_empty_of_size_eq_zero q);have hf:(decide (es.size<=8)&&es.all λe=>(Ng e.key).isSome)=false:=by
   have:(es.all λe=>(Ng e.key).isSome)=false:=by
    cases q:es.all λe=>(Ng e.key).isSome with
    |false=>rfl
    |true=>
     have q0:=Array.all_eq_true.mp q 0 hz0;obtain⟨k,ek,_⟩:=ht es[0] (Q8 _);rw[ek]at q0;cases q0
   rw[this,Ik]
  show wpAny _ _ (if(!(decide (es.size<=8)&&es.all λe=>(Ng e.key).isSome))=true then _ else _) _ _ _;rw[hf,if_pos (by rfl)];refine Aa (Br n1 n3 ?_);rw[if_pos (by rfl)];refine Aa (Yx ho' (λe q=>let⟨k,ek,o',g,c⟩:=ht e q;⟨k,ek,o',Ad _ g,c⟩) hq ?_);show wpAny _ _ (if(!es.isEmpty)=true then _ else _) _ _ _;rw[if_pos (by simp[T6];lia)];refine Aa (wpAny_updateDictKeysTo n1 n3 ?_ (by show es.size<=_;lia));refine Ab ?_;show wpAny _ _ (Mc s.heap.objs.size []>>=_) _ _ _;exact Aa (Ab (Ab ⟨rfl,h _ _ ⟨_,Cw _ n1 (Q1 (Hm n3 _)),n2.mapDictKeys _,Hm n3 _⟩ (C5 ..)⟩))
end
open PySem PySem.W
section
variable {prog:Program} {w:World} {K:Type} [DecidableEq K] {knd:Kl prog w K} {A:Bi} {E:Value->Shared->Prop} {s:Shared} {a b:Addr} {xa xb:List (K×Addr×Value)}
def Waq{Q:Bool->Shared->Prop}(ha:(a==sysModules)=false)(hb:(b==sysModules)=false)(hu:knd.room A)(da:s.heap.DictOfH knd a xa)(db:s.heap.DictOfH knd b xb)(hl:xa.length=xb.length)
  (hits:∀x∈xa,∃p,Gs xb x.1=some p/\Fm A s x.2.2 p.2 true)(h:Q true s):wpAny (model prog w) A (Mw nm a b) Q E s:=by
 obtain⟨oa,es,ep,hoa,_,hda,hea,hia,hna⟩:=da;obtain⟨ob,es',ep',hob,_,hdb,heb,hib,hnb⟩:=db;have hla:=E8 hea;have hlb:=E8 heb;unfold Mw Eg;rw[if_neg (show¬(a==sysModules)=true by rw[ha];exact Aw),if_neg (show¬(b==sysModules)=true by rw[hb];exact Aw)];refine Aa (Ab (Aa (Ab ?_)));refine Aa (Br hoa hda ?_);dsimp only;refine Aa (Br hob hdb ?_);have hsz:es.size=es'.size:=by lia
 rw[if_neg (by rw[hsz];simp)];refine Aa (D1 hoa hda ?_);refine Aa ?_;rw[Fd];simp only[Hx,Ie,Nat.add_sub_cancel,Nat.div_one];refine Dr _ (λrest q s'=>s'=s/\q=(none,())/\∀i∈rest,i<es.size) _ ?_ ?_ _ _ ⟨rfl,rfl,λi hi=>by simpa using hi⟩
 ·rintro x rest q s' ⟨rfl,rfl,hall⟩;have hlt:x<es.size:=hall x Bh;have hlt':x<xa.length:=by lia
  refine Aa (Br hoa hda ?_);rw[Bm hlt];have he:es[x]=entryOfKey knd xa[x]:=by
   have:=Lr hea x;rw[Bm hlt,Ag hlt']at this;exact Bb this
  have hm:xa[x]∈xa:=He hlt';obtain⟨p,hp,hv⟩:=hits _ hm;show wpAny _ _ (holding [es[x].key,es[x].val] _>>=_) _ _ _;rw[he];refine Aa (Bc (Aa (Ta hu (hia _ hm) hob hdb heb hib hnb ?_ ?_)))
  ·intro hno;rw[Nj hno]at hp;exact nomatch hp
  ·intro j r hj;rw[atKey_of_get hnb hj]at hp;cases hp;refine Aa (Br hob hdb ?_);rw[Lr heb j,hj];refine Bc (hv prog w _ _ ?_);show wpAny _ _ (if(!true)=true then _ else _) _ _ _;rw[if_neg (by decide)];refine Aa (D1 hoa hda ?_);rw[if_neg (by simp)];exact Ab ⟨rfl,rfl,λi hi=>hall i (Ax _ hi)⟩
 ·rintro q s' ⟨rfl,rfl,_⟩;exact Ab h
def neH{Q:Value->Shared->Prop}(ha:(a==sysModules)=false)(hb:(b==sysModules)=false)(hu:A.units<C0)(hr:knd.room A.in1)(da:s.heap.DictOfH knd a xa)(db:s.heap.DictOfH knd b xb)(hl:xa.length=xb.length)
  (hits:∀x∈xa,∃p,Gs xb x.1=some p/\Fm A.in1 s x.2.2 p.2 true)(h:Q (.bool false) s):wpAny (model prog w) A (D8 .NotEq (.ref a) (.ref b)) Q E s:=by
 refine Jb (op:=.NotEq) da.typeIs db.typeIs O7 (Bg O7 da.typeIs PySem.F.entry_dict_ne ?_ (PySem.F.args_dict_ne_2 _ _)) hu;show wpAny _ _ (Ly "__ne__" ⟨[.ref a,.ref b],[]⟩>>=_) _ _ s;refine Aa ?_;unfold Ly;refine Aa (D3 da.typeIs ?_);show wpAny _ _ (pure (Aq a,Aq b)) _ _ s;refine Ab ?_;refine Aa (D7 (T:="dict") db.typeIs PySem.F.sub_dict_dict ?_);simp only[Dg,As,if_false];refine Aa (Ab (Aa (Ab ?_)));refine Aa (Waq ha hb hr da db hl hits ?_);refine Ab ⟨_,rfl,?_,?_⟩
 ·exact λx=>nomatch x
 ·simpa using h
end
end Rdc
namespace Rdu
open PySem PyProof.Rows PySem.W Rdc
abbrev PK:=Int×Int
def ltP(a b:PK):Bool:=LR.ltZ a.1 a.2 b.1 b.2
def Wj{a b:PK}:ltP a b=true↔a.1<b.1\/(a.1=b.1/\a.2<b.2):=by simp[ltP,LR.ltZ]
section
variable {prog:Program} {w:World} {A:Bi} {E:Value->Shared->Prop} {s:Shared}
abbrev IK2(prog:Program)(w:World)(h:Heap)(k:PK)(b:Addr):Prop:=Um (intKind prog w) h [k.1,k.2] b
theorem Jd4{k:PK}{items:Array Value}(h:ItemsAre (intKind prog w) [k.1,k.2] items.toList):∃t u,items= #[.int k.1 t,.int k.2 u]:=by
 obtain⟨l⟩:=items;simp only at h;cases h with
 |cons h1 h'=>
  cases h' with
  |cons h2 h''=>
   cases h'';obtain⟨t,rfl⟩:=Iz h1;obtain⟨u,rfl⟩:=Iz h2;exact⟨t,u,rfl⟩
def Jot{Q:Bool->Shared->Prop}(hx:IK2 prog w s.heap k x)(hy:IK2 prog w s.heap l y)(h:Q (ltP k l) s):wpAny (model prog w) A (keyLt' (tuples' b) (.ref x) (.ref y)) Q E s:=by
 obtain⟨ox,xs,n,h1,_,h2,h3⟩:=hx;obtain⟨oy,ys,m,g1,_,g2,g3⟩:=hy;obtain⟨t,u,rfl⟩:=Jd4 h3;obtain⟨t',u',rfl⟩:=Jd4 g3;have one:∀(c:Bool) {a d:Int} {t u:Tok} {Q:Bool->Shared->Prop},Q (decide (a<d)) s->wpAny (model prog w) A (oneLt' c (.int a t) (.int d u)) Q (λ_ _=>False) s:=λc {a d t u Q} h=>by
  cases c with
  |true=>exact oneLt_int h
  |false=>exact kat_one _ _ (show wpAny (model prog w) A (Sj .Lt (.int a t) (.int d u)) _ _ s from LR.int_lt h)
 refine kat_lt h1 h2 g1 g2 (kat_cons (Hu ?_))
 by_cases e1:k.1=l.1
 ·rw[e1,beq_self_eq_true];refine kat_yes (kat_cons (Hu ?_))
  by_cases e2:k.2=l.2
  ·rw[e2,beq_self_eq_true];refine kat_yes (kat_nil ?_);have:ltP k l=false:=by simp[ltP,LR.ltZ,e1,e2]
   rw[this]at h;exact h
  ·rw[beq_eq_false_iff_ne.mpr e2];refine kat_no (one _ ?_);have:ltP k l=decide (k.2<l.2):=by simp[ltP,LR.ltZ,e1]
   rw[this]at h;exact h
 ·rw[beq_eq_false_iff_ne.mpr e1];refine kat_no (one _ ?_);have:ltP k l=decide (k.1<l.1):=by simp[ltP,LR.ltZ,e1]
  rw[this]at h;exact h
def IK2.keep{h h':Heap}(x:IK2 prog w h k b)(e:∀o,h.get? b=some o->h'.get? b=some o):IK2 prog w h' k b:=by
 obtain⟨o,its,n,ho,r⟩:=x;exact⟨o,its,n,e o ho,r⟩
def Jkd{pk:Value->PK}{vs:List Value}{Q:P8->Shared->Prop}(hne:0<vs.length)(hv:∀v∈vs,∃b,v=.ref b/\IK2 prog w s.heap (pk v) b)(h:Q (tuples' true) s):wpAny (model prog w) A (keyKind' vs.toArray) Q E s:=by
 have:∀vs:List Value,(∀v∈vs,∃b,v=.ref b/\IK2 prog w s.heap (pk v) b)->∃fs,KatTups s.heap vs fs/\fs.length=vs.length/\∀f∈fs,∃i t,f=Dz i t:=by
  intro vs
  induction vs with
  |nil=>intro _;exact⟨[],trivial,rfl,nofun⟩
  |cons v vs ih=>
   intro hv;obtain⟨fs,h1,h2,h3⟩:=ih λv h=>hv v (.tail _ h);obtain⟨b,rfl,o,its,n,g1,g2,g3,g4⟩:=hv v (.head _);obtain⟨t,u,rfl⟩:=Jd4 g4;refine⟨_::fs,Sl g1 g2 g3 rfl h1,by simp[h2],λf hf=>?_⟩;rcases An.mp hf with rfl|hf
   ·exact⟨_,_,rfl⟩
   ·exact h3 f hf
 obtain⟨fs,h1,h2,h3⟩:=this vs hv;refine kat_kind (T:=.type "int") h1 (by lia) (λv hv=>?_) (by decide) (by rw[show(Ea "int" !=Ea "tuple")=true by decide];exact h);obtain⟨i,t,rfl⟩:=h3 v hv;exact .now
def Jja(l:List Value):((l.toArray.zip l.toArray).map (·.2))=l.toArray:=by
 apply Array.toList_inj.mp;simp[List.map_snd_zip]
def Jk2{vs:List Value}{P:PySem.Fin->Shared->Prop}(ho:s.heap.get? a=some (seqObj "list" vs.toArray n))(hz:vs.length<sizeLine)
  (kind:∀h1:Heap,(∀b o,b≠a->s.heap.get? b=some o->h1.get? b=some o)->2<=vs.length->∀Q:P8->Shared->Prop,Q κ {s with heap:=h1}->wpAny (model prog w) A (keyKind' vs.toArray) Q E {s with heap:=h1})
  (up:∀h1:Heap,(∀b o,b≠a->s.heap.get? b=some o->h1.get? b=some o)->∀(i:Nat) (x y:Value),vs[i+1]? =some x->vs[i]? =some y->∀Q:Bool->Shared->Prop,Q false {s with heap:=h1}->wpAny (model prog w) A (keyLt' κ x y) Q (λ_ _=>False) {s with heap:=h1})
  (h:P (.done (.ret .none)) {s with heap:=sortedHeap s.heap a vs vs.toArray}):wpAny (model prog w) A (Builtin.«list.sort» ⟨[.ref a],[]⟩) P E s:=by
 rw[list_sort_plain];have ha:a<s.heap.objs.size:=Am ho;refine Aa (listItems_at ho rfl (Aa (Qr ho rfl ?_ (by simp;lia) (by simp))));obtain⟨e1,ho1⟩:∃e1,(s.heap.update a (Ds λ_=> #[])).get? a=some (seqObj "list" #[] e1):=⟨_,get?_update_seq ho (λ_=> #[])⟩
 refine Aa (Su ho1 rfl (Aa (Pq ?_ (by show vs.length<=_;lia))));refine Aa (Mt ?_ (Cz _));refine Bc ?_;obtain⟨h1,eh⟩:∃h1,h1=((s.heap.update a (Ds λ_=> #[])).push (seqObj "tuple" vs.toArray 0)).push (seqObj "list" #[] 0):=⟨_,rfl⟩
 have oth:∀{b:Addr} {o:Obj},b≠a->s.heap.get? b=some o->h1.get? b=some o:=λ{b o} hb e=>by
  rw[eh];exact Ad _ (Ad _ ((Heap.get?_update_ne _ _ _ _ hb).trans e))
 have ho6:h1.get? a=some (seqObj "list" #[] e1):=by rw[eh];exact Ad _ (Ad _ ho1)
 have es:∀out:Array Value,h1.update a (Ds λ_=>out)=sortedHeap s.heap a vs out:=λout=>by rw[eh];rfl
 show wpAny (model prog w) A _ P E {s with heap:=((s.heap.update a (Ds λ_=> #[])).push (seqObj "tuple" vs.toArray 0)).push (seqObj "list" #[] 0)};rw[<-eh];dsimp only;have hsz:vs.toArray.size=vs.length:=by simp
 have oth':∀b o,b≠a->s.heap.get? b=some o->h1.get? b=some o:=λb o hb e=>oth hb e
 by_cases h2:vs.toArray.size<2
 ·rw[if_pos h2,if_pos h2];refine Aa (Ab ?_);rw[StateT.run_pure];refine Aa (Ab ?_);dsimp only;rw[show(Vd (Ve general' (vs.toArray.zip vs.toArray) #[] 7 none)).map (·.2)=vs.toArray from Jja vs];refine Aa (Su ho6 rfl (Aa (Qr ho6 rfl ?_ (Cz _) (by show vs.toArray.size<=_;lia))));simp only[bne_self_eq_false,As,if_false];refine Ab ?_;show P _ {s with heap:=h1.update a (Ds λ_=>vs.toArray)};rw[es];exact h
 ·rw[if_neg h2,if_neg h2];refine Aa (kind h1 oth' (by lia) _ ?_);have hA:Sre.Zg (model prog w) A {s with heap:=h1} κ (vs.toArray.zip vs.toArray):=λi x y hx hy Q q=>by
   have ez:∀j:Nat,∀z:Keyed,(vs.toArray.zip vs.toArray)[j]? =some z->vs[j]? =some z.1:=λj z hz=>by
    rw[<-Dx]at hz;have hz:(vs.zip vs)[j]? =some z:=by simpa using hz
    rw[Of]at hz;exact hz.1
   exact up h1 oth' i x.1 y.1 (ez _ _ hx) (ez _ _ hy) Q q
  have hzz:(vs.toArray.zip vs.toArray).size=vs.length:=by simp
  refine Aa (Bo (Sre.Jj0 (a:=vs.toArray.zip vs.toArray) (st:=Ve κ (vs.toArray.zip vs.toArray) #[] 7 none)
   (Q:=λ_ st'=>Vd st'=vs.toArray.zip vs.toArray/\failedOf st'=none) hA rfl rfl rfl rfl (by lia) λst' a1 a2=>⟨a1,a2⟩) ?_ λ_ _ e=>e)
  rintro⟨⟨⟩,st'⟩ s' ⟨rfl,ha,hf⟩;dsimp only;rw[ha,Jja];refine Aa (Su ho6 rfl (Aa (Qr ho6 rfl ?_ (Cz _) (by show vs.toArray.size<=_;lia))));rw[hf];simp only[bne_self_eq_false,As,if_false];refine Ab ?_;show P _ {s with heap:=h1.update a (Ds λ_=>vs.toArray)};rw[es];exact h
def Jm1{Pi:Nat->Value->Prop}{OK:Heap->Prop}{R:K1->Shared->Prop}(K:KdlSrc prog w T r d n Pi OK)(hh:A.handled=none)(hok:OK s.heap)(hn:n<=sizeLine)(h1:S≠r)(h2:S≠d)(hS:s.heap.get? S=some {cls:=.type "list",data:=.seq #[] 0})
  (h:∀h' tk acc c,(∀b o,b≠S->s.heap.get? b=some o->h'.get? b=some o)->h'.get? S=some {cls:=.type "list",dict:=none,data:=.seq acc c,slots:= #[]}->ItemsOf Pi acc n->R (.ok (.ret (.ref S))) {s with heap:=h',toks:=tk}):
  F9 (model prog w) A (.builtin "list.__iadd__" ⟨[.ref S,.ref r],[]⟩) R s:=by
 refine C8 entry_list_iadd' ?_;rw[C3 (show plainId "list.__iadd__"=true by decide+kernel) _];exact kdl_extend (R:=R) K hh hok S h1 h2 (.ref S) 0 hS h hn
def Ji1{Pi:Nat->Value->Prop}{OK:Heap->Prop}{Q:List Value->Shared->Prop}(K:KdlSrc prog w T r d n Pi OK)(hh:A.handled=none)(hok:OK s.heap)(hn:n<=sizeLine)
  (h:∀h' tk (acc:Array Value),(∀b o,s.heap.get? b=some o->h'.get? b=some o)->h'.objs.size≥s.heap.objs.size->ItemsOf Pi acc n->Q acc.toList {s with heap:=h',toks:=tk}):wpAny (model prog w) A (collect (.ref r)) Q E s:=by
 unfold collect;refine Aa (Pp (C8 Sv ?_));show wpAny _ _ (do again (.builtin "list.__iadd__" ⟨[<-newList [],.ref r],[]⟩)) _ _ s;have hS:(s.heap.push (seqObj "list" #[] 0)).get? s.heap.objs.size=some (seqObj "list" #[] 0):=Ak _ rfl;obtain⟨lr,ld⟩:=K.there _ hok;refine Aa (Mt (Ab ⟨Ll _ (by decide+kernel),Jm1 (s:={s with heap:=s.heap.push (seqObj "list" #[] 0)}) K hh (K.keep _ _ hok λb _ o e=>Ad _ e) hn (Cq lr) (Cq ld) hS
  λh' tk acc c kp hS' it=>?_⟩))
 have kp':∀b o,s.heap.get? b=some o->h'.get? b=some o:=λb o e=>kp b o (Au (Am e)) (Ad _ e);show wpAny (model prog w) A (do
   let o<-load s.heap.objs.size
   match o.data with
   |.seq xs _=>pure xs.toList
   |_=>unsupported "internal:collect") Q E {s with heap:=h',toks:=tk}
 refine Aa (Mz hS' ?_);exact Ab (h h' tk acc kp' (D6 (Am hS')) it)
def Jfa{Pi:Nat->Value->Prop}{OK:Heap->Prop}{Q:Value->Shared->Prop}(K:KdlSrc prog w T r d n Pi OK)(hh:A.handled=none)(hok:OK s.heap)(hn:n<sizeLine)
  (kind:∀(vs:List Value) (h1:Heap) (t:Nat),vs.length=n->(∀(i:Nat) (v:Value),vs[i]? =some v->Pi i v)->(∀b o,s.heap.get? b=some o->h1.get? b=some o)->2<=n->∀(A':Bi) (E':Value->Shared->Prop) (Q:P8->Shared->Prop),Q κ {s with heap:=h1,toks:=t}->wpAny (model prog w) A' (keyKind' vs.toArray) Q E' {s with heap:=h1,toks:=t})
  (up:∀(h1:Heap) (t:Nat),(∀b o,s.heap.get? b=some o->h1.get? b=some o)->∀(i:Nat) (x y:Value),Pi (i+1) x->Pi i y->∀(A':Bi) (Q:Bool->Shared->Prop),Q false {s with heap:=h1,toks:=t}->wpAny (model prog w) A' (keyLt' κ x y) Q (λ_ _=>False) {s with heap:=h1,toks:=t})
  (h:∀(h':Heap) (tk:Nat) (l:Addr) (c:Nat) (vs:List Value),(∀b o,s.heap.get? b=some o->h'.get? b=some o)->s.heap.objs.size<=l->h'.get? l=some (seqObj "list" vs.toArray c)->vs.length=n->(∀(i:Nat) (v:Value),vs[i]? =some v->Pi i v)->
   Q (.ref l) {s with heap:=h',toks:=tk}):
  wpAny (model prog w) A (call (.builtin "sorted") [.ref r]) Q E s:=by
 refine Nz kind_sorted plain_sorted entry_sorted (args_sorted1 _) ?_;unfold Builtin.«sorted»;refine Aa (m:=checkCount "sorted" 1 1 _) (Ab ?_);refine Aa (Ji1 K (by simp[hh]) hok (D6 hn) λh' tk acc kp hsz it=>?_);have hlen:acc.toList.length=n:=by rw[Bz];exact it.1
 have hpi:∀(i:Nat) (v:Value),acc.toList[i]? =some v->Pi i v:=λi v e=>it.2 i v (by rw[<-Dx];exact e);refine Aa (Mt ?_ (by rw[hlen];lia));have ho:(h'.push (seqObj "list" acc.toList.toArray 0)).get? h'.objs.size=some (seqObj "list" acc.toList.toArray 0):=Ak _ rfl;have kp2:∀b o,s.heap.get? b=some o->b≠h'.objs.size/\(h'.push (seqObj "list" acc.toList.toArray 0)).get? b=some o:=λb o e=>
  ⟨Au (Be (Am e) hsz),Ad _ (kp b o e)⟩
 refine Aa (Bc (Bg Pk ⟨_,ho,rfl⟩ O8 (Jk2 (s:={s with heap:=h'.push (seqObj "list" acc.toList.toArray 0),toks:=tk}) (κ:=κ) ho (by rw[hlen];exact hn)
  (λh1 k1 z Q q=>kind _ h1 tk hlen hpi (λb o e=>k1 b o (kp2 b o e).1 (kp2 b o e).2) (by lia) _ _ Q q) (λh1 k1 i x y ex ey Q q=>up h1 tk (λb o e=>k1 b o (kp2 b o e).1 (kp2 b o e).2) i x y (hpi _ _ ex) (hpi _ _ ey) _ Q q) ⟨_,rfl,?_⟩) (args_list_sort _)))
 obtain⟨c,hc⟩:=sortedHeap_at (out:=acc.toList.toArray) ho;refine Ab ⟨_,rfl,h _ _ _ c acc.toList (λb o e=>?_) hsz hc hlen hpi⟩;obtain⟨k1,k2⟩:=kp2 b o e;rw[sortedHeap_old k1 (Am k2)];exact k2
end
noncomputable def itO(own:Value)(f:Bool)(d:Addr)(i n ep:Nat)(ok ov:Value):Obj:={cls:=.type "dict_itemiterator",dict:=none,data:=.fields #[own,.bool f,.ref d,.int i 0,.int n 0,.int ep 0,ok,ov],slots:= #[]}
inductive ItSt (h:Heap) (it d:Addr) (i n ep:Nat):Prop
 |mk (own f ok ov) (_:h.get? it=some (itO own f d i n ep ok ov)) (_:(own=.none\/∃(a:Nat) (oa:Obj),own=rawInt a/\h.get? a=some oa/\a≠it)):ItSt h it d i n ep
section
variable {prog:Program} {w:World} {A:Bi} {E:Value->Shared->Prop} {s:Shared} {it d:Addr} {es:Array Cg} {ep i:Nat}
def next_item{Q:Option Value->Shared->Prop}(hst:ItSt s.heap it d i es.size ep)(hm:Raw s.heap d es ep)(hi:i<es.size)
  (hQ:∀h',ItSt h' it d (i+1) es.size ep->h'.get? s.heap.objs.size=some {cls:=.type "tuple",data:=.seq #[es[i].key,es[i].val]}->h'.objs.size=s.heap.objs.size+1->
   (∀b o,b≠it->s.heap.get? b=some o->h'.get? b=some o)->Q (some (.ref s.heap.objs.size)) {s with heap:=h'}):wpAny (model prog w) A (pyNext (.ref it)) Q E s:=by
 obtain⟨hp,g,dr,tk,os⟩:=s;obtain⟨own,f,ok,ov,hit,hown⟩:=hst;obtain⟨od,hod,_,hdd⟩:=hm;have hT:E1 ⟨hp,g,dr,tk,os⟩ (.ref it) "dict_itemiterator":=⟨_,hit,rfl⟩
 unfold pyNext;refine Aa (Du (Bv (name:=Ac "__next__") hT Dc (Bg Dc hT Km ?_ (Ke _))));refine Aa (Ab (Aa (Aa ?_)))
 first|refine Aa (Fp hT (Ab ?_))|refine Aa (Gq hT (Ab ?_))
 refine Aa (Lq hit rfl ?_);rw[if_pos (show B6 "dict_itemiterator"=true by decide)];show wpAny _ _ (if(Aq d==Cj)=true then _ else _) _ _ _;rw[if_neg (show¬((Aq d==Cj)=true)from Aw)];refine Aa (Ab (Aa (Br hod hdd ?_)));rw[if_neg (by simp)];refine Aa (Ab (Aa (D1 hod hdd ?_)));rw[if_neg (by simp)];refine Ab ?_;dsimp only;rw[if_neg (show¬((i:Int)<0) by lia),Ed,Bm hi];refine Aa ?_
 first|refine Aa (Fp hT (Ab ?_))|refine Aa (Gq hT (Ab ?_))
 refine Aa (Ku hT ?_);show wpAny _ _ (Sh (.ref it) 3 (rawInt ((i:Int)+1))>>=_) _ _ ⟨hp,g,dr,tk,os⟩;refine Aa (Cu hit (by simp) λh₁ he₁ hs₁=>?_)
 replace hs₁:Cp it hp h₁:=hs₁
 replace he₁:h₁.get? it=some (itO own f d (i+1) es.size ep ok ov):=by
  unfold itO;rw[show((i+1:Nat):Int)=(i:Int)+1 by lia];simpa [rawInt]using he₁
 have hT₁:E1 ⟨h₁,g,dr,tk,os⟩ (.ref it) "dict_itemiterator":=⟨_,he₁,rfl⟩
 refine Aa (Bc (Aa (Ku hT₁ (Aa (Ku hT₁ ?_)))));show wpAny _ _ (Jk (.ref it) 6 es[i].key es[i].val) _ _ ⟨h₁,g,dr,tk,os⟩;unfold Jk;refine Aa (Pq ?_);obtain⟨h₂,hh₂⟩:∃h₂,h₂=h₁.push {cls:=.type "tuple",data:=.seq #[es[i].key,es[i].val]}:=⟨_,rfl⟩
 have he₂:h₂.get? it=some (itO own f d (i+1) es.size ep ok ov):=by rw[hh₂];exact Ad _ he₁
 have hz₁:h₁.objs.size=hp.objs.size:=hs₁.1;have hil:hp.objs.size≠it:=Cq (Am hit);have ht₂:h₂.get? hp.objs.size=some {cls:=.type "tuple",data:=.seq #[es[i].key,es[i].val]}:=by rw[hh₂,<-hz₁];exact Ak _ rfl
 have hz₂:h₂.objs.size=hp.objs.size+1:=by rw[hh₂,Cd,hz₁]
 have hk₂:∀b o,b≠it->hp.get? b=some o->h₂.get? b=some o:=λb o hb e=>by rw[hh₂];exact Ad _ (hs₁.extBut b o hb e)
 have fin:∀(h₃:Heap) (own':Value) (f':Bool) (ok' ov':Value),h₃.get? it=some (itO own' f' d (i+1) es.size ep ok' ov')->Cp it h₂ h₃->(own'=.none\/∃(a:Nat) (oa:Obj),own'=rawInt a/\h₂.get? a=some oa/\a≠it)->Q (some (.ref hp.objs.size)) ⟨h₃,g,dr,tk,os⟩:=λh₃ own' f' ok' ov' e₃ s₃ o₃=>
  hQ h₃ ⟨own',f',ok',ov',e₃,o₃.imp id λ⟨a,oa,q1,q2,q3⟩=>⟨a,oa,q1,s₃.extBut _ _ q3 q2,q3⟩⟩ (s₃.extBut _ _ hil ht₂) (by show h₃.objs.size=hp.objs.size+1;rw[s₃.1,hz₂]) λb o hb e=>s₃.extBut b o hb (hk₂ b o hb e)
 show wpAny _ _ (Iq (.ref it)>>=_) _ _ ⟨h₁.push {cls:=.type "tuple",data:=.seq #[es[i].key,es[i].val]},g,dr,tk,os⟩;rw[<-hh₂,hz₁];refine Aa ?_;unfold Iq;rcases hown with rfl|⟨a,oa,rfl,ha,hai⟩
 ·refine Aa (B7 he₂ rfl (x:=.none) rfl (Ab ?_));simp only[if_true];refine Aa (B7 he₂ rfl (x:=ok) rfl (Aa (B7 he₂ rfl (x:=ov) rfl ?_)));refine Aa (Cu he₂ (by simp) λh₃ he₃ hs₃=>?_)
  replace he₃:h₃.get? it=some (itO .none f d (i+1) es.size ep es[i].key ov):=he₃
  refine Aa (Cu he₃ (by simp) λh₄ he₄ hs₄=>?_)
  replace he₄:h₄.get? it=some (itO .none f d (i+1) es.size ep es[i].key es[i].val):=he₄
  refine Aa (Cu he₄ (by simp) λh₅ he₅ hs₅=>?_)
  replace he₅:h₅.get? it=some (itO (rawInt hp.objs.size) f d (i+1) es.size ep es[i].key es[i].val):=he₅
  refine Aa (Cu he₅ (by simp) λh₆ he₆ hs₆=>?_);exact Aa (Oj (Ab (Ab ⟨_,rfl,Ab (fin h₆ _ false _ _ he₆ (((hs₃.trans hs₄).trans hs₅).trans hs₆) (.inr ⟨_,_,rfl,ht₂,hil⟩))⟩)))
 ·refine Aa (B7 he₂ rfl (x:=rawInt a) rfl ?_);show wpAny _ _ (loadIfAlive ((a:Int).toNat)>>=_) _ _ _;rw[Ed];refine Aa (kdx_alive (hk₂ a oa hai ha) ?_);simp only[Qg,As,if_false];refine Aa (B7 he₂ rfl (x:=.bool f) rfl ?_);cases f with
  |true=>
   rw[if_neg (show¬((H9 true !=H9 true)=true)from Aw)];refine Ab ?_;simp only[As,if_false];exact Ab (Ab ⟨_,rfl,Ab (fin h₂ _ _ _ _ he₂ (Oa _ _) (.inr ⟨a,oa,rfl,hk₂ a oa hai ha,hai⟩))⟩)
  |false=>
   rw[if_pos (show(H9 false !=H9 true)=true from rfl)];refine Aa (Cu he₂ (by simp) λh₃ he₃ hs₃=>?_);refine Ab ?_;simp only[As,if_false];exact Ab (Ab ⟨_,rfl,Ab (fin h₃ _ true _ _ he₃ hs₃ (.inr ⟨a,oa,rfl,hk₂ a oa hai ha,hai⟩))⟩)
def Jpk{Q:Option Value->Shared->Prop}(hh:A.handled=none)(hst:ItSt s.heap it d i es.size ep)(hm:Raw s.heap d es ep)(hi:es.size<=i)
  (hQ:∀h',M0 it s.heap h'->Q none {s with heap:=h'}):wpAny (model prog w) A (pyNext (.ref it)) Q E s:=by
 obtain⟨own,f,ok,ov,hit,_⟩:=hst;obtain⟨od,hod,_,hdd⟩:=hm;have hT:s.TypeIs (.ref it) "dict_itemiterator":=⟨_,hit,rfl⟩
 unfold pyNext;refine Aa (Du (Bv (name:=Ac "__next__") hT Dc (Bg Dc hT Km ?_ (Ke _))));refine Aa (Ab (Aa (Aa ?_)))
 first|refine Aa (Fp hT (Ab ?_))|refine Aa (Gq hT (Ab ?_))
 refine Aa (Lq hit rfl ?_);rw[if_pos (show B6 "dict_itemiterator"=true by decide)];show wpAny _ _ (if(Aq d==Cj)=true then _ else _) _ _ s;rw[if_neg (show¬((Aq d==Cj)=true)from Aw)];refine Aa (Ab (Aa (Br hod hdd ?_)));rw[if_neg (by simp)];refine Aa (Ab (Aa (D1 hod hdd ?_)));rw[if_neg (by simp)];refine Ab ?_;dsimp only;rw[if_neg (show¬((i:Int)<0) by lia),Ed,Pd hi];refine Aa ?_
 first|refine Aa (Fp hT (Ab ?_))|refine Aa (Gq hT (Ab ?_))
 show wpAny _ _ (Sh (.ref it) 2 .none>>=_) _ _ s;refine Aa (Jq hit rfl (by simp) ?_);show wpAny _ _ (Rb (.type "StopIteration") []>>=_) _ _ _;simp only[Rb,newTuple];refine Aa (Aa (Bq ?_ (by size_fits)));refine Aa (m:=Hh _ _) (Oi (a:=Cj) (by first|rfl|(simp only[Hh];rfl)) ?_);refine Bq ?_ (by size_fits);simp only[raiseNew];refine Aa (Qn ?_);rw[show A.in1.handled=none from hh];refine Aa (Ab (Se ?_));refine Aa (D7 (T:="StopIteration") (b:=true) ⟨_,Ak _ rfl,rfl⟩ Pw ?_);exact Ab (hQ _ (((C5 ..).extBut.push _).push _))
end
noncomputable def Xn(e:Cg):Obj:={cls:=.type "tuple",data:=.seq #[e.key,e.val]}
structure ItG(es:Array Cg)(lo:Addr)(h:Heap)(as:List Addr):Prop where
 above:∀a∈as,lo<a
 pairs:∀(j:Nat) (a:Addr),as[j]? =some a->∃e,es[j]? =some e/\h.get? a=some (Xn e)
section
variable {prog:Program} {w:World} {A:Bi} {E:Value->Shared->Prop} {s:Shared} {r d:Addr} {es:Array Cg} {ep:Nat} {R:K1->Shared->Prop}
def ItSt.keep{h h':Heap}(x:ItSt h it d i n ep)(k:h'.get? it=h.get? it)(k':∀b o,h.get? b=some o->∃o',h'.get? b=some o'):ItSt h' it d i n ep:=by
 obtain⟨own,f,ok,ov,e,o⟩:=x;refine⟨own,f,ok,ov,k.trans e,o.imp id λ⟨a,oa,q1,q2,q3⟩=>?_⟩;obtain⟨o',e'⟩:=k' a oa q2;exact⟨a,o',q1,e',q3⟩
theorem Jkh(hh:A.handled=none)(hSI:S<I)(hSd:d≠S)(hId:d≠I)(hn:es.size<=sizeLine)(res:Value){h₁:Heap}
  (hR:∀h' acc c as,(∀b o,b≠S->b≠I->h₁.get? b=some o->h'.get? b=some o)->h'.get? S=some {cls:=.type "list",dict:=none,data:=.seq acc c,slots:= #[]}->as.length=es.size->ItG es I h' as->acc.toList=as.map Aq->R (.ok (.ret res)) {s with heap:=h'}):
  ∀(k i:Nat) (h:Heap) (c:Nat) (acc:Array Value) (as:List Addr),es.size-i=k->i<=es.size->ItSt h I d i es.size ep->Raw h d es ep->(∀b o,b≠S->b≠I->h₁.get? b=some o->h.get? b=some o)->
   h.get? S=some {cls:=.type "list",dict:=none,data:=.seq acc c,slots:= #[]}->acc.toList=as.map Aq->as.length=i->ItG es I h as->I<h.objs.size->
   F9 (model prog w) A (.builtin "list.extend.loop" ⟨[.ref S,.ref I,res],[]⟩) R {s with heap:=h}:=by
 have hne:S≠I:=Au hSI;intro k
 induction k with
 |zero=>
  intro i h c acc as hk hi hst hD hkeep hS hacc hal hG hIs;refine C8 M5 ?_;rw[C3 Er _];show wpAny _ A.in1 (pyNext (.ref I)>>=_) _ _ _;refine Aa (Jpk (s:={s with heap:=h}) (A:=A.in1) hh hst hD (by lia) λh' he=>?_);refine Ab (hR h' acc c as (λb o h1 h2 e=>he b o h2 (hkeep b o h1 h2 e)) (he S _ hne hS) (by lia) ⟨hG.above,λj a hj=>?_⟩ hacc);obtain⟨e,e1,e2⟩:=hG.pairs j a hj;exact⟨e,e1,he a _ (Cq (hG.above a (Ba hj))) e2⟩
 |succ k ih=>
  intro i h c acc as hk hi hst hD hkeep hS hacc hal hG hIs;have hlt:i<es.size:=by lia
  have hsz:acc.size=i:=by rw[<-Bz,hacc,Ah,hal]
  refine C8 M5 ?_;rw[C3 Er _];show wpAny _ A.in1 (pyNext (.ref I)>>=_) _ _ _;refine Aa (next_item (s:={s with heap:=h}) hst hD hlt λh' hst' ht hz hkp=>?_);dsimp only at ht hz hkp ⊢;have hS':=hkp S _ hne hS;have up:∀b o,b≠S->h'.get? b=some o->(h'.update S (Ds (·.push (Aq h.objs.size)))).get? b=some o:=λb o hb e=>(Ej _ _ (Df hb)).trans e;have hSl:S<h.objs.size:=Am hS;have hS2:=Cw (Ds (·.push (Aq h.objs.size))) hS' rfl;show wpAny _ A.in1 (updateSeq S (·.push (Aq h.objs.size))>>=_) _ _ _;refine Aa ?_;refine O3 hS' rfl (Ab ⟨F6 Er _,ih (i+1) _ _ (acc.push (Aq h.objs.size)) (as++[h.objs.size]) (by lia) hlt
   (hst'.keep (Ej _ _ hne) λb o e=>?_) (hD.keep λo e=>up d o hSd (hkp d o hId e))
   (λb o h1 h2 e=>up b o h1 (hkp b o h2 (hkeep b o h1 h2 e))) hS2 (by rw[Q7,hacc,Ey];rfl) (by rw[Bf,hal];rfl) ⟨?_,?_⟩ ?_⟩) (by rw[hsz];lia) (by show(acc.push (Aq h.objs.size)).size<=sizeLine+1;rw[Array.size_push,hsz];lia)
  ·by_cases hb:b=S
   ·subst hb;exact⟨_,hS2⟩
   ·exact⟨o,up b o hb e⟩
  ·intro a ha;rcases Bj.mp ha with ha|ha
   ·exact hG.above a ha
   ·rw[Av.mp ha];exact hIs
  ·intro j b hj;rcases Jl j as.length with h1|h1|h1
   ·rw[A0 h1]at hj;obtain⟨e,e1,e2⟩:=hG.pairs j b hj;have hb:=hG.above b (Ba hj);exact⟨e,e1,up b _ (Cq (E5 hSI hb)) (hkp b _ (Cq hb) e2)⟩
   ·subst h1;have hb:h.objs.size=b:=by simpa using hj
    subst hb;exact⟨es[i],by rw[hal];exact Bm hlt,up _ _ (Cq hSl) ht⟩
   ·have hnone:(as++[h.objs.size])[j]? =none:=Hb (by rw[Bf,Dy];lia);rw[hnone]at hj;cases hj
  ·have e:(h'.update S (Ds (·.push (Aq h.objs.size)))).get? h.objs.size=_:=up _ _ (Cq hSl) ht;exact E5 hIs (Am e)
def Jkf{Q:Value->Shared->Prop}(hv:s.heap.IsItemsView r d)(hm:Raw s.heap d es ep)
  (h:Q (.ref s.heap.objs.size) {s with heap:=s.heap.push (itO .none false d 0 es.size ep .none .none)}):wpAny (model prog w) A (pyIter (.ref r)) Q E s:=by
 obtain⟨ov,hov,hcv,hdv⟩:=id hv;obtain⟨o,ho,hc,hdat⟩:=id hm;refine Nb hv.typeIs Mq (Bg Mq hv.typeIs PySem.F.entry_dict_items_iter ?_ (PySem.F.args_dict_items_iter_1 _));unfold Builtin.«dict_items.__iter__» Kn Ju;refine Aa (Ab (Aa (Aa (B7 hov hdv (x:=.ref d) rfl (Ab (Aa ?_))))));refine Aa (Br ho hdat (Aa (D1 ho hdat ?_)));simp only[show B6 "dict_itemiterator"=true by decide,if_true];refine Bq (Ab ⟨_,rfl,"dict_itemiterator",_,⟨_,Ak _ rfl,rfl⟩,Dc.lookup,?_⟩)
  (by simp only[sizeOk,Iu,Ar,Bf,A5,Ez,G4];lia)
 simpa [rawInt,itO,Iu]using h
inductive Got (s:Shared) (es:Array Cg) (res:K1) (s':Shared):Prop
 |mk (h' acc c as) (_:res=.ok (.ret (.ref s.heap.objs.size))) (_:s'={s with heap:=h'}) (_:(∀b o,s.heap.get? b=some o->h'.get? b=some o)) (_:h'.get? s.heap.objs.size=some {cls:=.type "list",dict:=none,data:=.seq acc c,slots:= #[]}) (_:as.length=es.size) (_:ItG es s.heap.objs.size h' as) (_:acc.toList=as.map Aq):Got s es res s'
def Jf8{Q:List Value->Shared->Prop}(hh:A.handled=none)(hv:s.heap.IsItemsView r d)(hm:Raw s.heap d es ep)(hn:es.size<=sizeLine)
  (h:∀(h':Heap) (as:List Addr),(∀b o,s.heap.get? b=some o->h'.get? b=some o)->s.heap.objs.size<=h'.objs.size->as.length=es.size->ItG es s.heap.objs.size h' as->Q (as.map Aq) {s with heap:=h'}):
  wpAny (model prog w) A (collect (.ref r)) Q E s:=by
 have hr:r<s.heap.objs.size:=let⟨_,ho,_⟩:=hv;Am ho;have hd:d<s.heap.objs.size:=let⟨_,ho,_,_⟩:=hm;Am ho;unfold collect;refine Aa (Pp (C8 Sv ?_));rw[C3 PySem.F.plain_proto_collect _];show wpAny _ A.in1 (newList []>>=λl=>again (.builtin "list.__iadd__" ⟨[l,.ref r],[]⟩)) _ _ s;refine Aa (Bq ?_);refine Ab ⟨F6 Nv _,C8 entry_list_iadd' ?_⟩;rw[C3 Nv _];obtain⟨h1,e1⟩:∃h1,h1=s.heap.push {cls:=.type "list",data:=.seq ([]:List Value).toArray}:=⟨_,rfl⟩
 have hS₁:h1.get? s.heap.objs.size=some {cls:=.type "list",data:=.seq #[]}:=by rw[e1];exact Ak _ rfl
 have k1:∀b o,s.heap.get? b=some o->h1.get? b=some o:=λb o e=>by rw[e1];exact Ad _ e
 have hv1:h1.IsItemsView r d:=let⟨o,ho,x⟩:=hv;⟨o,k1 _ _ ho,x⟩;have lt1:s.heap.objs.size<h1.objs.size:=by rw[e1,Cd];exact Dm _
 show wpAny _ A.in1 (Lf (.ref s.heap.objs.size) (.ref r) (.ref s.heap.objs.size)) _ _ {s with heap:=s.heap.push {cls:=.type "list",data:=.seq ([]:List Value).toArray}};rw[<-e1];unfold Lf;refine Aa (Fy (T:="dict_items") (Te (s:={s with heap:=h1}) hv1) ?_);simp only[show Ma (.ref s.heap.objs.size) (.ref r)=false by simp[Ma,Cq hr],show(Ea "dict_items"==Ea "list")=false by decide,show(Ea "dict_items"==Ea "tuple")=false by decide,Bool.or_false,As,if_false];refine Aa (Jkf (s:={s with heap:=h1}) hv1 (hm.keep λo e=>k1 _ _ e) ?_);have hS₂:=Ad (itO .none false d 0 es.size ep .none .none) hS₁;have key:∀(h2:Heap) (c₁:Nat),(∀b o,b≠s.heap.objs.size->(h1.push (itO .none false d 0 es.size ep .none .none)).get? b=some o->h2.get? b=some o)->h2.get? s.heap.objs.size=some {cls:=.type "list",data:=.seq #[] c₁}->
   F9 (model prog w) A (.builtin "list.extend.loop" ⟨[.ref s.heap.objs.size,.ref h1.objs.size,.ref s.heap.objs.size],[]⟩) (Got s es) {s with heap:=h2}:=λh2 c₁ k2 g2=>by
  have hI:=k2 h1.objs.size _ (Cq lt1) (Ak _ rfl);refine Jkh (S:=s.heap.objs.size) (I:=h1.objs.size) (d:=d) (s:=s) (h₁:=s.heap) (es:=es) (ep:=ep) hh lt1 (Au hd) (Au (E5 hd lt1)) hn _ (λh' acc c as kp e l g q=>⟨h',acc,c,as,rfl,rfl,λb o x=>kp b o (Au (Am x)) (Au (E5 (Am x) lt1)) x,e,l,⟨λa ha=>E5 lt1 (g.above a ha),g.pairs⟩,q⟩)
   es.size 0 h2 c₁ #[] [] (Ie _) (Cz _) ⟨.none,false,.none,.none,hI,.inl rfl⟩ (hm.keep λo e=>k2 d o (Au hd) (Ad _ (k1 _ _ e))) (λb o hb _ e=>k2 b o hb (Ad _ (k1 _ _ e))) g2 rfl rfl
   ⟨(λ_ ha=>nomatch ha),(λj a hj=>by simp at hj)⟩ (Am hI)
 refine Aa (Bc (kdx_hint (let⟨o,ho,hc,_⟩:=hv1;⟨o,Ad _ ho,hc⟩) ?_));have fin:∀(h':Heap) (acc:Array Value) (c:Nat) (as:List Addr),(∀b o,s.heap.get? b=some o->h'.get? b=some o)->h'.get? s.heap.objs.size=some {cls:=.type "list",dict:=none,data:=.seq acc c,slots:= #[]}->as.length=es.size->ItG es s.heap.objs.size h' as->acc.toList=as.map Aq->
   wpAny (model prog w) A (load s.heap.objs.size>>=λo=>match o.data with|.seq xs _=>(pure xs.toList:Sem (List Value))|_=>unsupported "internal:collect") Q E {s with heap:=h'}:=λh' acc c as hk hS' hl hG hacc=>by
  refine Aa (Mz hS' (Ab ?_));show Q acc.toList _;rw[hacc];exact h h' as hk (D6 (Am hS')) hl hG
 refine wpAny_ite_split (λ_=>?_) (λ_=>Ab ⟨F6 Er _,E9 (key _ 0 (λb o _ e=>e) hS₂) ?_⟩)
 ·refine Aa (Fz (Aa ?_));show wpAny _ _ (updateSeq s.heap.objs.size (·.push .none)>>=λ_=>updateSeq s.heap.objs.size (·.pop)) _ _ _;refine Aa (O3 hS₂ rfl ?_);have hS₃:=Cw (Ds (·.push Cj)) hS₂ rfl;refine O3 (hz:=by seq_fits) hS₃ rfl ?_;have hS₄:=Cw (Ds (·.pop)) hS₃ rfl;refine Ab ⟨F6 Er _,E9 (key _ _ (λb o hb e=>(Ej _ _ (Df hb)).trans ((Ej _ _ (Df hb)).trans e)) hS₄) ?_⟩;rintro q s₂ ⟨h',acc,c,as,rfl,rfl,a1,a2,a3,a4,a5⟩;exact fin h' acc c as a1 a2 a3 a4 a5
 ·rintro q s₂ ⟨h',acc,c,as,rfl,rfl,a1,a2,a3,a4,a5⟩;exact fin h' acc c as a1 a2 a3 a4 a5
end
open PySem PySem.Spec PyProof.Rows PySem.F PySem.W Rdc
section
variable {prog:Program} {w:World} {A:Bi} {E:Value->Shared->Prop} {s:Shared} {r d:Addr} {es:Array Cg} {ep:Nat}
def IK2.tup{k:PK}(x:IK2 prog w h k b):∃t u,IsTup h b #[.int k.1 t,.int k.2 u]:=by
 obtain⟨o,its,n,h1,h2,h3,h4⟩:=x;obtain⟨t,u,rfl⟩:=Jd4 h4;exact⟨t,u,o,h1,h2,n,h3⟩
def Jou{e e':Cg}{Q:Bool->Shared->Prop}(hu:A.units<C0)(hx:s.heap.get? x=some (Xn e'))(hy:s.heap.get? y=some (Xn e))(eb:e'.key=.ref b)(ec:e.key=.ref c)
  (hb:IK2 prog w s.heap l b)(hc:IK2 prog w s.heap k c)(hl:ltP k l=true)(h:Q false s):wpAny (model prog w) A (keyLt' (tuples' false) (.ref x) (.ref y)) Q (λ_ _=>False) s:=by
 have hne:decide ([l.1,l.2]=[k.1,k.2])=false:=by
  have:=Wj.mp hl;simp;omega
 have hlt:ltP l k=false:=by
  cases q:ltP l k with
  |false=>rfl
  |true=>have:=Wj.mp hl;have:=Wj.mp q;omega
 obtain⟨t,u,tb⟩:=hb.tup;obtain⟨t',u',tc⟩:=hc.tup;refine kat_lt hx rfl hy rfl (kat_cons ?_);rw[eb,ec];refine T9 (knd:=intKind prog w) hu hb hc ?_;rw[hne];refine kat_no ?_;refine kat_one _ _ ?_;exact LR.Jte tb tc hu (by rw[show LR.ltZ l.1 l.2 k.1 k.2=false from hlt];exact h)
theorem Yy{h:Heap}:∀{as:List Addr} {n:Nat},(∀(j:Nat) (a:Addr),as[j]? =some a->∃e,es[n+j]? =some e/\h.get? a=some (Xn e))->(∀e∈es.toList,∃b,e.key=.ref b/\∃o,h.get? b=some o/\o.cls=.type "tuple")->
  ∃fs,KatTups h (as.map Aq) fs/\fs.length=as.length/\∀f∈fs,∃b,f=.ref b/\∃o,h.get? b=some o/\o.cls=.type "tuple"
 |[],_,_,_=>⟨[],trivial,rfl,λ_ h=>nomatch h⟩
 |a::as,n,hp,hk=>by
  obtain⟨fs,h1,h2,h3⟩:=Yy (as:=as) (n:=n+1) (λj b e=>by rw[show n+1+j=n+(j+1) by lia];exact hp (j+1) b e) hk;obtain⟨e,e1,e2⟩:=hp 0 a rfl;refine⟨e.key::fs,Sl e2 rfl rfl rfl h1,by simp[h2],λf hf=>?_⟩;rcases An.mp hf with rfl|hf
  ·exact hk e (Di.mpr (Kc e1))
  ·exact h3 f hf
def Jdv{pk:Value->PK}{Q:Value->Shared->Prop}(hh:A.handled=none)(hu:A.units+8<C0)(hv:s.heap.IsItemsView r d)(hm:Raw s.heap d es ep)(hz:es.size<sizeLine)
  (hk:∀e∈es.toList,∃b,e.key=.ref b/\IK2 prog w s.heap (pk e.key) b)(up:∀i e e',es[i]? =some e->es[i+1]? =some e'->ltP (pk e.key) (pk e'.key)=true)
  (h:∀(h':Heap) (l:Addr) (c:Nat) (as:List Addr),(∀b o,s.heap.get? b=some o->h'.get? b=some o)->s.heap.objs.size<=l->h'.get? l=some (seqObj "list" (as.map Aq).toArray c)->as.length=es.size->
   (∀(j:Nat) (a:Addr),as[j]? =some a->s.heap.objs.size<a/\a≠l/\∃e,es[j]? =some e/\h'.get? a=some (Xn e))->Q (.ref l) {s with heap:=h'}):
  wpAny (model prog w) A (call (.builtin "sorted") [.ref r]) Q E s:=by
 refine Nz kind_sorted plain_sorted entry_sorted (args_sorted1 _) ?_;unfold Builtin.«sorted»;refine Aa (m:=checkCount "sorted" 1 1 _) (Ab ?_);refine Aa (Jf8 (by simp[hh]) hv hm (D6 hz) λh' as kp hsz hl hG=>?_);have hlen:(as.map Aq).length=es.size:=by rw[Ah];exact hl
 refine Aa (Mt ?_ (by rw[hlen];lia));have ho:(h'.push (seqObj "list" (as.map Aq).toArray 0)).get? h'.objs.size=some (seqObj "list" (as.map Aq).toArray 0):=Ak _ rfl;have kp2:∀b o,h'.get? b=some o->b≠h'.objs.size/\(h'.push (seqObj "list" (as.map Aq).toArray 0)).get? b=some o:=λb o e=>
  ⟨Au (Am e),Ad _ e⟩
 refine Aa (Bc (Bg Pk ⟨_,ho,rfl⟩ O8 (Jk2 (s:={s with heap:=h'.push (seqObj "list" (as.map Aq).toArray 0)}) (κ:=tuples' false) ho (by rw[hlen];exact hz)
  (λh1 k1 z Q q=>?kind) (λh1 k1 i x y ex ey Q q=>?up) ⟨_,rfl,?fin⟩) (args_list_sort _)))
 case kind=>
  have k3:∀b o,h'.get? b=some o->h1.get? b=some o:=λb o e=>k1 b o (kp2 b o e).1 (kp2 b o e).2;obtain⟨fs,f1,f2,f3⟩:=Yy (es:=es) (h:=h1) (as:=as) (n:=0) (λj a e=>by
   obtain⟨q,q1,q2⟩:=hG.pairs j a e;exact⟨q,by rw[E4];exact q1,k3 _ _ q2⟩) λe he=>by
    obtain⟨b,eb,o,_,_,g1,g2,_⟩:=hk e he;exact⟨b,eb,o,k3 _ _ (kp _ _ g1),g2⟩
  refine kat_kind (s:={s with heap:=h1}) (T:=.type "tuple") f1 (by rw[f2,hl];lia) (λv hv=>?_) (by decide) (by rw[show(Ea "tuple" !=Ea "tuple")=false by decide];exact q);obtain⟨b,rfl,o,g1,g2⟩:=f3 v hv;exact λA' Q' E' s' kk qq=>Fy ⟨o,kk _ _ g1,g2⟩ qq
 case up=>
  have k3:∀b o,h'.get? b=some o->h1.get? b=some o:=λb o e=>k1 b o (kp2 b o e).1 (kp2 b o e).2;rw[Ap,Al]at ex ey;obtain⟨a,ea,rfl⟩:=ex;obtain⟨b,eb,rfl⟩:=ey;obtain⟨e',g1,g2⟩:=hG.pairs _ _ ea;obtain⟨e,g3,g4⟩:=hG.pairs _ _ eb;obtain⟨b1,q1,q2⟩:=hk e' (Di.mpr (Kc g1));obtain⟨b2,q3,q4⟩:=hk e (Di.mpr (Kc g3));exact Jou (s:={s with heap:=h1}) (by simp;lia) (k3 _ _ g2) (k3 _ _ g4) q1 q3 (q2.keep λo e=>k3 _ _ (kp _ _ e)) (q4.keep λo e=>k3 _ _ (kp _ _ e)) (up i e e' g3 g1) q
 case fin=>
  obtain⟨c,hc⟩:=sortedHeap_at (out:=(as.map Aq).toArray) ho;have old:∀b o,h'.get? b=some o->(sortedHeap (h'.push (seqObj "list" (as.map Aq).toArray 0)) h'.objs.size (as.map Aq) (as.map Aq).toArray).get? b=some o:=λb o e=>by
   rw[sortedHeap_old (kp2 b o e).1 (Am (kp2 b o e).2)];exact(kp2 b o e).2
  refine Ab ⟨_,rfl,h _ _ c as (λb o e=>old b o (kp b o e)) hsz hc hl λj a e=>?_⟩;obtain⟨q,q1,q2⟩:=hG.pairs j a e;exact⟨hG.above a (Ba e),(kp2 _ _ q2).1,q,q1,old _ _ q2⟩
end
open PySem
def Jtq:typeLookup (.type "list") "keys"=pure none:=by rw[typeLookup_type,builtinLookup_eq_fast];kernel_rfl
section
variable {prog:Program} {w:World} {A:Bi} {E:Value->Shared->Prop} {s:Shared} {a:Addr} {xs:Array Value} {k:Nat}
def Jtl{Q:Option Value->Shared->Prop}(ho:s.heap.get? a=some {cls:=.type "list",data:=.seq xs k})(hA:A.handled=none)
  (h:∀h' tk,(∀b o,s.heap.get? b=some o->h'.get? b=some o)->Q none {s with heap:=h',toks:=tk}):wpAny (model prog w) A (getAttr? (.ref a) "keys") Q E s:=by
 obtain⟨hp,g,d,tk,os⟩:=s;have hT:∀s':Shared,s'.heap.get? a=some {cls:=.type "list",data:=.seq xs k}->s'.TypeIs (.ref a) "list":=λ_ e=>⟨_,e,rfl⟩
 have hT0:E1 ⟨hp,g,d,tk,os⟩ (.ref a) "list":=⟨_,ho,rfl⟩
 have f1:=sub_AttributeError;have f3:=Jx.lookup;have f4:=Jx.bind (.ref a);have f5:=am_list_getattr_none;unfold getAttr? getAttrBy? getAttrBy
 repeat (any_goals (first|assumption|((with_reducible show wpAny _ _ (call (Gi "list.__getattribute__") _ _) _ _ _);refine Py Jx (hT _ ho) am_entry_list_getattribute (F.args_list_getattribute_2 _ _) (meets_getattribute_miss_list a xs k #[] "keys" _ Jtq (by decide) (by size_fits)) ?_)|wp_step))
 refine⟨ho,hA,λh' tk' e hx'=>?_⟩;obtain⟨t',u',he⟩:=hx'.there;show wpAny _ _ (Ud _ _ _ _ _ _ _) _ _ _;unfold Ud
 repeat (any_goals (first|assumption|wp_step))
 exact h _ _ hx'.keeps
end
open PySem PyProof.Rows
def Jxt:entryFor table "dict.update.loop"=some Builtin.«dict.update.loop»:=entryFor_of_tree (by kernel_rfl)
def Jon:plainId "dict.update.loop"=true:=by decide+kernel
section
variable {prog:Program} {w:World} {K:Type} [DecidableEq K] {knd:Kl prog w K} {A:Bi} {E:Value->Shared->Prop} {s:Shared} {R:K1->Shared->Prop} {xs:List (K×Addr×Value)} {as:List Addr}
noncomputable def Zl(b:Addr)(v:Value):Obj:={cls:=.type "tuple",data:=.seq #[.ref b,v]}
def Prs(knd:Kl prog w K)(h:Heap)(as:List Addr)(xs:List (K×Addr×Value)):Prop:=as.length=xs.length/\∀(j:Nat) (a:Addr) (x:K×Addr×Value),as[j]? =some a->xs[j]? =some x->h.get? a=some (Zl x.2.1 x.2.2)/\knd.is h x.1 x.2.1
theorem Jnm(hh:A.handled=none)(hr:knd.room A.in1)(hz:xs.length<=sizeLine)(kk:∀{h h':Heap} {k:K} {b:Addr},knd.is h k b->(∀o,h.get? b=some o->h'.get? b=some o)->knd.is h' k b)
  (hP:Prs knd s.heap as xs)(hn:(xs.map (·.1)).Nodup)(hl:s.heap.IsList l (as.map Aq).toArray)(hp:s.heap.get? p=none)(hi:s.heap.get? it=none)(hpi:p≠it)
  (hR:∀h' tk,(∀b o,s.heap.get? b=some o->h'.get? b=some o)->h'.DictOfH knd p xs->R (.ok (.ret .none)) {s with heap:=h',toks:=tk}):
  ∀(n i:Nat) (h:Heap) (tk:Nat),xs.length-i=n->i<=xs.length->(∀b o,s.heap.get? b=some o->h.get? b=some o)->h.IsListIter it l i->h.DictOfH knd p (xs.take i)->
   F9 (model prog w) A (.builtin "dict.update.loop" ⟨[.ref p,.ref it,rawInt i,.none],[]⟩) R {s with heap:=h,toks:=tk}:=by
 have old:∀b o,s.heap.get? b=some o->b≠p/\b≠it:=λb o e=>⟨(λq=>by rw[q,hp]at e;exact nomatch e),(λq=>by rw[q,hi]at e;exact nomatch e)⟩
 have hlk:∀h:Heap,(∀b o,s.heap.get? b=some o->h.get? b=some o)->h.IsList l (as.map Aq).toArray:=λh k=>let⟨o,e,r⟩:=hl;⟨o,k _ _ e,r⟩;intro n
 induction n with
 |zero=>
  intro i h tk hk hi' hkeep hit hD;refine C8 Jxt ?_;rw[C3 Jon _];show wpAny _ A.in1 (pyNext (.ref it)>>=_) _ _ _;refine Aa (R0 (s:={s with heap:=h,toks:=tk}) (A:=A.in1) hh hit (hlk h hkeep) (by simp[hP.1];lia) λh' he=>?_);dsimp only;refine Aa (Ab (Ab (hR h' tk (λb o e=>he b o (old b o e).2 (hkeep b o e)) ?_)));obtain⟨o,es,ep,q1,q2,q3,q4,q5,q6⟩:=hD;have ei:xs.take i=xs:=Ek (by lia);rw[ei]at q4 q5 q6;refine⟨o,es,ep,he p o hpi q1,q2,q3,q4,λx hx=>?_,q6⟩;obtain⟨j,hj⟩:=Fw.mp hx;have hjl:j<as.length:=by rw[hP.1];exact(Ae.mp hj).1
  exact kk (hP.2 j _ x (Ag hjl) hj).2 λo' e'=>he _ _ (old _ _ e').2 (hkeep _ _ e')
 |succ n ih=>
  intro i h tk hk hi' hkeep hit hD;have hlt:i<xs.length:=by lia
  have hja:i<as.length:=by rw[hP.1];exact hlt
  obtain⟨x,hx⟩:∃x,xs[i]? =some x:=⟨_,Ag hlt⟩
  obtain⟨g1,g2⟩:=hP.2 i _ x (Ag hja) hx;refine C8 Jxt ?_;rw[C3 Jon _];show wpAny _ A.in1 (pyNext (.ref it)>>=_) _ _ _;refine Aa (Q9 (s:={s with heap:=h,toks:=tk}) (A:=A.in1) hit (hlk h hkeep) (x:=.ref as[i]) (by simp[hja]) λh' hit' hs'=>?_);have k':∀b o,s.heap.get? b=some o->h'.get? b=some o:=λb o e=>(hs'.2 b (old b o e).2).trans (hkeep b o e);have hD':h'.DictOfH knd p (xs.take i):=by
   obtain⟨o,es,ep,q1,q2,q3,q4,q5,q6⟩:=hD;refine⟨o,es,ep,(hs'.2 p hpi).trans q1,q2,q3,q4,λy hy=>?_,q6⟩;obtain⟨j,hj⟩:=Fw.mp (Ks hy);have hjl:j<as.length:=by rw[hP.1];exact(Ae.mp hj).1
   exact kk (hP.2 j _ y (Ag hjl) hj).2 λo' e'=>k' _ _ e'
  dsimp only;refine Aa (Bc (Aa ?_));have hg:h'.get? as[i]=some (Zl x.2.1 x.2.2):=k' _ _ g1;have hti:E1 {s with heap:=h',toks:=tk} (.ref as[i]) "tuple":=⟨_,hg,rfl⟩
  refine wpAny_tryCatch ?_;unfold Builtin.Dict.pairItems;refine Aa (Fy hti ?_);rw[if_pos (by decide)];refine Aa (Ee hg rfl (Ab ?_));show wpAny _ _ (holding [.ref x.2.1,x.2.2] (dictSet p (.ref x.2.1) x.2.2)) _ _ _;have hkx:knd.is h' x.1 x.2.1:=kk g2 λo' e'=>k' _ _ e';have hnew:Gs (xs.take i) x.1=none:=by
   refine Nj λj q hj=>?_;have hj':xs[j]? =some (x.1,q):=by
    by_cases hji:j<i
    ·rwa[Gn hji]at hj
    ·rw[N1 (by lia)]at hj;exact nomatch hj
   have:=idxH_unique hn hj' (show xs[i]? =some (x.1,x.2)from hx);subst this;rw[N1 (Aj _)]at hj;exact nomatch hj
  refine Bc (wpAny_dictSet_heap (s:={s with heap:=h',toks:=tk}) hr hkx hD' (λh'' hD'' hs''=>?_) (hsz:=by simp;lia));rw[storedH_new hnew]at hD'';have etake:xs.take i++[(x.1,x.2.1,x.2.2)]=xs.take (i+1):=by
   rw[Eb,hx];rfl
  rw[etake]at hD'';have hk'':∀b o,s.heap.get? b=some o->h''.get? b=some o:=λb o e=>(hs''.2 b (old b o e).1).trans (k' b o e);have hit'':h''.IsListIter it l (i+1):=let⟨o,e,r⟩:=hit';⟨o,(hs''.2 it (Df hpi)).trans e,r⟩;exact Ab ⟨F6 Jon _,ih (i+1) h'' _ (by lia) (by lia) hk'' hit'' hD''⟩
def Jko{Q:Value->Shared->Prop}(hh:A.handled=none)(hr:knd.room A.in1.in1)(hz:xs.length<=sizeLine)(kk:∀{h h':Heap} {k:K} {b:Addr},knd.is h k b->(∀o,h.get? b=some o->h'.get? b=some o)->knd.is h' k b)
  (hP:Prs knd s.heap as xs)(hn:(xs.map (·.1)).Nodup)(hl:s.heap.get? l=some (seqObj "list" (as.map Aq).toArray c))
  (h:∀h' tk,(∀b o,s.heap.get? b=some o->h'.get? b=some o)->h'.DictOfH knd s.heap.objs.size xs->Q (.ref s.heap.objs.size) {s with heap:=h',toks:=tk}):wpAny (model prog w) A (call (.type "dict") [.ref l]) Q E s:=by
 refine callType_codes (Q₁:=λobj s₁=>obj=.ref s.heap.objs.size/\s₁={s with heap:=s.heap.push {cls:=.type "dict",data:=.dict #[]}}) Uo (Rm _) Tf (kt_code_dict_new _ ⟨rfl,rfl⟩) ?_;rintro obj s₁ ⟨rfl,rfl⟩;obtain⟨h1,e1⟩:∃h1,h1=s.heap.push {cls:=.type "dict",data:=.dict #[]}:=⟨_,rfl⟩
 rw[<-e1];have hnew:h1.get? s.heap.objs.size=some {cls:=.type "dict",data:=.dict #[]}:=by rw[e1];exact Ak _ rfl
 have k1:∀b o,s.heap.get? b=some o->h1.get? b=some o:=λb o e=>by rw[e1];exact Ad _ e
 have tN:E1 {s with heap:=h1} (.ref s.heap.objs.size) "dict":=⟨_,hnew,rfl⟩
 have tL:E1 {s with heap:=h1} (.ref l) "list":=⟨_,k1 _ _ hl,rfl⟩
 refine⟨tN,Sq _ _,?_⟩;unfold Builtin.«dict.__init__»;refine Aa ?_;unfold Mb;refine Aa (D3 tN ?_);show wpAny _ _ (pure (s.heap.objs.size,[Aq l])) _ _ _;refine Ab ?_;show wpAny _ _ (F7 "dict.__init__" s.heap.objs.size (.ref l) [] .none) _ _ _;unfold F7;refine Aa (Fy tL ?_);rw[if_pos (by decide)];refine Aa (Jtl (s:={s with heap:=h1}) (k1 _ _ hl) (by simp[hh]) λh2 t2 k2=>?_);dsimp only at k2 ⊢;rw[if_pos (by rfl)];have k12:∀b o,s.heap.get? b=some o->h2.get? b=some o:=λb o e=>k2 b o (k1 b o e);refine Aa (Fz (Aa (F8 (s:={s with heap:=h2,toks:=t2}) ⟨_,k12 _ _ hl,rfl,_,rfl⟩ ?_)));have n2:=k2 _ _ hnew;have z2:s.heap.objs.size<h2.objs.size:=Am n2;refine Ab ⟨F6 Jon _,?_⟩;refine Jnm (s:=s) (p:=s.heap.objs.size) (it:=h2.objs.size) (l:=l) (as:=as) (xs:=xs) (by simp[hh]) hr hz kk hP hn ⟨_,hl,rfl,_,rfl⟩ (Ko (Aj _)) (Ko (D6 z2)) (Au z2)
  (λh' tk kp dd=>⟨rfl,h h' tk kp dd⟩) xs.length 0 _ _ (Ie _) (Cz _) (λb o e=>Ad _ (k12 b o e)) ⟨_,Ak _ rfl,rfl,rfl⟩ ?_
 exact⟨_,#[],0,Ad _ n2,⟨rfl,rfl,rfl⟩,rfl,rfl,(λx hx=>by simp at hx),by simp⟩
end
end Rdu
namespace L2
open PySem PySem.W PySem.Spec PyProof.Rows Rdc Rdu
theorem KT.drop(r:KT H kvs xs)(k:List Key):KT H (W8 kvs k) (Wy xs k):=by
 induction r with
 |nil=>exact .nil
 |@cons p q ps qs hq t ih=>
  unfold W8 Wy at ih ⊢;rw[Ff,Ff,hq.1]
  by_cases e:q.1=k
  ·rw[if_neg (by simpa using e),if_neg (by simpa using e)];exact ih
  ·rw[if_pos (by simpa using e),if_pos (by simpa using e)];exact .cons hq ih
theorem KT.keys{kvs:List (List Key×V)}{xs:List (List Key×Addr×Value)}(r:KT H kvs xs):xs.map (·.1)=kvs.map (·.1):=by
 induction r with
 |nil=>rfl
 |cons hq _ ih=>rw[Ay,Ay,ih,hq.1]
section
variable {X:Cx} {pins:List (Addr×Obj)} {U:St} {H:Hp} {s:Shared} {a b:Addr} {kvs:List (List Key×V)} {k:List Key} {A:Bi} {E:Value->Shared->Prop}
def Jxy{Q:Value->Shared->Prop}(hu:A.units+2<C0)(I:Inv X pins U H s)(e:H a=some (.dT kvs))(eb:H b=some (.tup (k.map kV)))(l:Wa kvs k=some v)
  (h:∀w' s',Inv X pins U (upd H a (.dT (W8 kvs k))) s'->RelV v w'->Q w' s'):wpAny (model X.prog X.w) A (call (.builtin "dict.pop") [.ref a,.ref b]) Q E s:=by
 obtain⟨z,hd,xs,rel,dd⟩:=Jt7 I.hok e;obtain⟨w',hw,rw'⟩:=RelO.some_of (v:=v) (o:=(Gs xs k).map (·.2)) (by rw[<-l];exact rel.val k);obtain⟨p,hp,hp2⟩:=Al.mp hw;refine Rc Ox dd.typeIs PySem.F.entry_dict_pop (PySem.F.args_dict_pop_2 _ _) (Jj8 (tupleKind (mixKind X.prog X.w)) a b)
  ⟨Dp (by lia),k,xs,p,Jer I.hok eb,dd,hp,by rw[<-Ce rel];exact z,λh' dd' hs=>?_⟩
 rw[hp2];refine h w' _ ?_ rw';obtain⟨q,es,ep,hq,h2,h3,h4,_,h5⟩:=dd';refine Jgk I (by rw[e];exact E6) hs ⟨q,hq⟩ ⟨Bl (Jpm kvs k) z,hd,_,(rel.drop k).keeps λc ys ec=>?_,q,es,ep,hq,h2,h3,h4,h5⟩;rw[Jac (Je9 ec e (λz=>nomatch z))];exact ec
def Apart(P:Program)(w:World)(kvs:List (List Key×V)):Prop:=(kvs.map λkv=>(tupleKind (mixKind P w)).hash kv.1).Nodup
def Jpz{xs:List (List Key×Addr×Value)}{es:Array Cg}(he:es.toList=xs.map (entryOfKey (tupleKind (mixKind P w))))(hn:(xs.map λx=>(tupleKind (mixKind P w)).hash x.1).Nodup):
  ∀e∈es,(es.filter (·.hash==e.hash)).size<=1:=by
 intro e _;have hn':(es.toList.map (·.hash)).Nodup:=by rw[he,B4];exact hn
 have key:∀l:List Cg,(l.map (·.hash)).Nodup->(l.filter (·.hash==e.hash)).length<=1:=by
  intro l
  induction l with
  |nil=>intro _;exact Cz _
  |cons x l ih=>
   intro hl;rw[Ay,Cr]at hl;rw[Ff];split
   ·rename_i hx;have:l.filter (·.hash==e.hash)=[]:=by
     rw[Pn];intro y hy hy';refine hl.1 (Bd.mpr ⟨y,hy,?_⟩);rw[eq_of_beq hy',eq_of_beq hx]
    rw[this];exact Aj _
   ·exact ih hl.2
 have:=key es.toList hn';rw[<-Bz,Array.toList_filter];exact this
def Jt9{Q:Value->Shared->Prop}(I:Inv X pins U H s)(e:Rd H a (.dT kvs))(ap:Apart X.prog X.w kvs)(h:∀p s',H p=none->Inv X pins U (upd H p (.dT kvs)) s'->Q (.ref p) s'):wpAny (model X.prog X.w) A (call (.type "dict") [.ref a]) Q E s:=by
 obtain⟨z,hd,xs,rel,o,es,ep,h1,h2,h3,h4,h5,h6⟩:=Jd0 I.hok e;have hx:(xs.map λx=>(tupleKind (mixKind X.prog X.w)).hash x.1)=kvs.map λkv=>(tupleKind (mixKind X.prog X.w)).hash kv.1:=by
  have:=congrArg (N0 λk=>(tupleKind (mixKind X.prog X.w)).hash k) rel.keys;rw[B4,B4]at this;exact this
 refine Jm8 hd ⟨o,h1,h2,h3⟩ (λq hq=>?_) (Jpz h4 (by rw[hx];exact ap)) (by rw[E8 h4,<-Ce rel];exact z) λh' ep' rw' hs=>?_
 ·have hq':q∈xs.map (entryOfKey (tupleKind (mixKind X.prog X.w))):=h4▸Di.mpr hq;obtain⟨x,hx1,rfl⟩:=Bd.mp hq';obtain⟨o',_,_,g1,g2,_⟩:=h5 x hx1;exact⟨x.2.1,rfl,o',g1,g2⟩
 ·have hf:=I.hok.fresh (Aj s.heap.objs.size);obtain⟨o',g1,g2,g3⟩:=rw';refine h _ _ hf (I.laid (a:=s.heap.objs.size) (o:=.dT kvs) (t':=s.toks) (λc q hq=>?_) (Aj _) ⟨z,beq_eq_false_iff_ne.mpr (Df (Au I.big)),xs,rel.keeps λc ys ec=>?_,o',es,ep',g1,g2,g3,h4,h6⟩)
  ·exact(hs.2 c (Au (Am hq))).trans (Ad _ hq)
  ·rw[Jac (Jal ec hf)];exact ec
end
noncomputable def intAt(its:Array Value)(i:Nat):Int:=match its[i]? with
 |some (Dz x _)=>x
 |_=>0
def pkH(h:Heap)(v:Value):Rdu.PK:=match v with
 |Aq b=>match h.get? b with
  |some o=>match o.data with
   |Data.seq its _=>(intAt its 0,intAt its 1)
   |_=>(0,0)
  |none=>(0,0)
 |_=>(0,0)
noncomputable abbrev pK(p:Rdu.PK):List Key:=[.inl p.1,.inl p.2]
theorem Jqz(ok:HOk P w H h)(e:H b=some (.tup ((pK p).map kV))):IK2 P w h p b/\pkH h (.ref b)=p:=by
 obtain⟨_,its,r,o,h1,h2,n,h3⟩:=(show Vj P w H h b (.tup ((pK p).map kV))from ok b _ e)
 cases r with
 |cons r1 r=>
  cases r with
  |cons r2 r=>
   cases r;obtain⟨t,rfl⟩:=(show∃t,_=Dz p.1 t from r1)
   obtain⟨u,rfl⟩:=(show∃t,_=Dz p.2 t from r2)
   refine⟨⟨o,_,n,h1,h2,h3,.cons (by simp[intKind,I9]) (.cons (by simp[intKind,I9]) .nil)⟩,?_⟩;simp only[pkH,h1,h3];rfl
theorem KT.at(r:KT H kvs xs):∀{i:Nat} {x:List Key×Addr×Value},xs[i]? =some x->H x.2.1=some (.tup (x.1.map kV)):=by
 induction r with
 |nil=>intro i x hx;simp at hx
 |cons hq _ ih=>
  intro i x hx;cases i with
  |zero=>simp only[Dk,Gk]at hx;subst hx;rw[<-hq.1];exact hq.2.1
  |succ i=>simp only[Bu]at hx;exact ih hx
section
variable {X:Cx} {pins:List (Addr×Obj)} {U:St} {H:Hp} {s:Shared} {a:Addr} {kvs:List (List Key×V)} {ps:List Rdu.PK} {A:Bi} {E:Value->Shared->Prop}
def Jkg{Q:Value->Shared->Prop}(hd:(d==sysModules)=false)(hm:Raw s.heap d es ep)
  (h:Q (.ref s.heap.objs.size) {s with heap:=s.heap.push {cls:=.type "dict_items",data:=.fields #[.ref d]}}):wpAny (model prog w) A (call (.builtin "dict.items") [.ref d]) Q E s:=by
 refine Bg Nu hm.typeIs PySem.F.entry_dict_items ?_ (PySem.F.args_dict_items_1 _);unfold Builtin.«dict.items» Nr Eg;refine Aa (Aa (D3 hm.typeIs ?_));show wpAny _ _ (pure d) _ _ s;refine Ab ?_;show wpAny _ _ (ite ((d==sysModules)=true) _ _>>=_) _ _ s;rw[if_neg (by rw[hd];exact Aw)];exact Aa (Ab (Aa (Bq (Ab ⟨_,rfl,h⟩))))
def Jxz{Q:Value->Shared->Prop}(hh:A.handled=none)(hu:A.units+8<C0)(I:Inv X pins U H s)(e:Rd H a (.dT kvs))(ek:kvs.map (·.1)=ps.map pK)(up:∀(i:Nat) (p q:Rdu.PK),ps[i]? =some p->ps[i+1]? =some q->ltP p q=true)(hz:kvs.length<sizeLine)
  (h:∀p s',H p=none->Inv X pins U (upd H p (.dT kvs)) s'->Q (.ref p) s'):
  wpAny (model X.prog X.w) A (call (.builtin "dict.items") [.ref a]) (λr s1=>wpAny (model X.prog X.w) A (call (.builtin "sorted") [r]) (λl s2=>wpAny (model X.prog X.w) A (call (.type "dict") [l]) Q E s2) E s1) E s:=by
 obtain⟨z,hd,xs,rel,o,es,ep,h1,h2,h3,h4,h5,h6⟩:=Jd0 I.hok e;have esz:es.size=kvs.length:=by rw[E8 h4,<-Ce rel]
 have at_:∀(i:Nat) (q:Cg),es[i]? =some q->∃p b v,ps[i]? =some p/\xs[i]? =some (pK p,b,v)/\q.key=.ref b/\q.val=v/\IK2 X.prog X.w s.heap p b/\pkH s.heap q.key=p:=λi q hq=>by
  rw[Lr h4 i,Al]at hq;obtain⟨x,hx,rfl⟩:=hq;have hk:(xs.map (·.1))[i]? =some x.1:=by rw[Ap,hx];rfl
  rw[rel.keys,ek,Ap,Al]at hk;obtain⟨p,hp,ep'⟩:=hk;have hH:=rel.at hx;rw[<-ep']at hH;obtain⟨q1,q2⟩:=Jqz I.hok hH;exact⟨p,x.2.1,x.2.2,hp,by rw[hx,ep'],rfl,rfl,q1,q2⟩
 refine Jkg hd ⟨o,h1,h2,h3⟩ ?_;obtain⟨g1,e1⟩:∃g1,g1=s.heap.push {cls:=.type "dict_items",data:=.fields #[.ref a]}:=⟨_,rfl⟩
 rw[<-e1];have k1:∀b o,s.heap.get? b=some o->g1.get? b=some o:=λb o e=>by rw[e1];exact Ad _ e
 have hv:g1.IsItemsView s.heap.objs.size a:=⟨_,by rw[e1];exact Ak _ rfl,rfl,rfl⟩
 refine Jdv (s:={s with heap:=g1}) (pk:=pkH s.heap) hh hu hv ⟨o,k1 _ _ h1,h2,h3⟩ (by lia) (λq hq=>?_) (λi q q' e1 e2=>?_) λh' l c as kp hl gl al ap=>?_
 ·obtain⟨i,hi⟩:=Fw.mp hq;obtain⟨p,b,v,_,_,kb,_,q1,q2⟩:=at_ i q (by rw[<-Dx];exact hi);exact⟨b,kb,by rw[q2];exact q1.keep λo e=>k1 _ _ e⟩
 ·obtain⟨p,_,_,p1,_,_,_,_,q1⟩:=at_ _ _ e1;obtain⟨p',_,_,p2,_,_,_,_,q2⟩:=at_ _ _ e2;rw[q1,q2];exact up i p p' p1 p2
 ·have k2:∀b o,s.heap.get? b=some o->h'.get? b=some o:=λb o e=>kp b o (k1 b o e);refine Jko (s:={s with heap:=h'}) (knd:=tupleKind (mixKind X.prog X.w)) (xs:=xs) (as:=as) hh (Dp (by simp;lia)) (by rw[<-Ce rel];exact z) (λ{g g' k b} x y=>?_) ⟨by rw[al,esz,Ce rel],λj b x hb hx=>?_⟩ h6 gl λh'' tk kp' dd=>?_
  ·obtain⟨o',its,n,w1,w2⟩:=x;exact⟨o',its,n,y o' w1,w2⟩
  ·obtain⟨_,_,q,q1,q2⟩:=ap j b hb;rw[Lr h4 j,hx]at q1;cases q1;refine⟨q2,?_⟩;obtain⟨o',its,n,w1,w2⟩:=h5 x (Ba hx);exact⟨o',its,n,k2 _ _ w1,w2⟩
  ·obtain⟨o',es',ep',g1',g2',g3',g4',_,g6'⟩:=dd;have hle:s.heap.objs.size<=h'.objs.size:=Bl (by rw[e1,Cd];exact Jn _) (D6 (Es hl (Am gl)));have hf:=I.hok.fresh hle;refine h _ _ hf (I.laid (a:=h'.objs.size) (o:=.dT kvs) (t':=tk) (λc q hq=>kp' _ _ (k2 _ _ hq)) hle ⟨z,beq_eq_false_iff_ne.mpr (Df (Au (Be I.big hle))),xs,rel.keeps λc ys ec=>?_,o',es',ep',g1',g2',g3',g4',g6'⟩);rw[Jac (Jal ec hf)];exact ec
end
section
variable {X:Cx} {pins:List (Addr×Obj)} {U:St} {H:Hp} {s:Shared} {a b:Addr} {ka kb kvs:List (List Key×V)} {ps:List Rdu.PK} {A:Bi} {E:Value->Shared->Prop}
theorem KT.mem(r:KT H kvs xs):∀x∈xs,∃kv∈kvs,kv.1=x.1/\RelV kv.2 x.2.2:=by
 induction r with
 |nil=>intro x hx;exact nomatch hx
 |@cons p q ps qs hq _ ih=>
  intro x hx;rcases An.mp hx with rfl|hx
  ·exact⟨p,Bh,hq.1,hq.2.2⟩
  ·obtain⟨kv,h1,h2⟩:=ih x hx;exact⟨kv,Ax _ h1,h2⟩
def Jzw{Q:Value->Shared->Prop}(hu:A.units+1<C0)(I:Inv X pins U H s)(ea:Rd H a (.dT ka))(eb:Rd H b (.dT kb))(hl:ka.length=kb.length)
  (hits:∀kv∈ka,∃v',Wa kb kv.1=some v'/\∀u u',RelV kv.2 u->RelV v' u'->Fm A.in1 s u u' true)(h:Q (.bool false) s):wpAny (model X.prog X.w) A (D8 .NotEq (.ref a) (.ref b)) Q E s:=by
 obtain⟨_,hda,xa,ra,da⟩:=Jd0 I.hok ea;obtain⟨_,hdb,xb,rb,db⟩:=Jd0 I.hok eb;refine neH hda hdb (by lia) (Dp hu) da db (by rw[<-Ce ra,<-Ce rb];exact hl) (λx hx=>?_) h;obtain⟨kv,m,e1,e2⟩:=ra.mem x hx;obtain⟨v',g1,g2⟩:=hits kv m;obtain⟨w',hw,rw'⟩:=RelO.some_of (v:=v') (o:=(Gs xb kv.1).map (·.2)) (by rw[<-g1];exact rb.val kv.1);obtain⟨p,hp,hp2⟩:=Al.mp hw;exact⟨p,by rw[<-e1];exact hp,by rw[hp2];exact g2 _ _ e2 rw'⟩
def Jmx{Q:Value->Shared->Prop}(hh:A.handled=none)(I:Inv X pins U H s)(e:Rd H a (.dT kvs))(ek:kvs.map (·.1)=ps.map pK)(up:∀(i:Nat) (p q:Rdu.PK),ps[i]? =some p->ps[i+1]? =some q->ltP p q=true)(hz:kvs.length<sizeLine)
  (h:∀(p:Addr) (bs:List Addr) (s':Shared),H p=none->bs.length=ps.length->(∀(i:Nat) (b:Addr) (q:Rdu.PK),bs[i]? =some b->ps[i]? =some q->H b=some (.tup ((pK q).map kV)))->Inv X pins U (upd H p (.lst (bs.map V.ref))) s'->Q (.ref p) s'):
  wpAny (model X.prog X.w) A (call (.builtin "sorted") [.ref a]) Q E s:=by
 obtain⟨z,hd,xs,rel,o,es,ep,h1,h2,h3,h4,h5,h6⟩:=Jd0 I.hok e;have esz:es.size=kvs.length:=by rw[E8 h4,<-Ce rel]
 have pl:ps.length=kvs.length:=by have:=congrArg Jg ek;simpa using this.symm
 have at_:∀(i:Nat) (q:Cg),es[i]? =some q->∃p x,ps[i]? =some p/\xs[i]? =some x/\q.key=.ref x.2.1/\H x.2.1=some (.tup ((pK p).map kV)):=λi q hq=>by
  rw[Lr h4 i,Al]at hq;obtain⟨x,hx,rfl⟩:=hq;have hk:(xs.map (·.1))[i]? =some x.1:=by rw[Ap,hx];rfl
  rw[rel.keys,ek,Ap,Al]at hk;obtain⟨p,hp,ep'⟩:=hk;exact⟨p,x,hp,hx,rfl,by rw[ep'];exact rel.at hx⟩
 have ik:∀(h1:Heap) (v:Value) (i:Nat),(∀b o,s.heap.get? b=some o->h1.get? b=some o)->(∃q,es[i]? =some q/\v=q.key)->∃p b,ps[i]? =some p/\v=.ref b/\IK2 X.prog X.w h1 p b/\pkH s.heap v=p:=λh1 v i k ⟨q,hq,ev⟩=>by
  obtain⟨p,x,hp,_,kq,hH⟩:=at_ i q hq;obtain⟨q1,q2⟩:=Jqz I.hok hH;exact⟨p,x.2.1,hp,ev.trans kq,q1.keep λo e=>k _ _ e,by rw[ev,kq];exact q2⟩
 refine Jfa (κ:=tuples' true) (Jnq hd) hh (show Raw s.heap a es ep from⟨o,h1,h2,h3⟩) (by lia) (λvs g1 t hl hv k1 h2 A' E' Q' q=>?_) (λg1 t k1 i x y hx hy A' Q' q=>?_) λh' tk l c vs kp hl gl vl hv=>?_
 ·refine Jkd (s:={s with heap:=g1,toks:=t}) (pk:=pkH s.heap) (by lia) (λv hvv=>?_) q;obtain⟨i,hi⟩:=Fw.mp hvv;obtain⟨p,b,_,e1,e2,e3⟩:=ik g1 v i k1 (hv i v hi);exact⟨b,e1,by rw[e3];exact e2⟩
 ·obtain⟨p,b,p1,rfl,q1,_⟩:=ik g1 x (i+1) k1 hx;obtain⟨p',b',p2,rfl,q2,_⟩:=ik g1 y i k1 hy;refine Jot (s:={s with heap:=g1,toks:=t}) q1 q2 ?_;have l1:=up i p' p p2 p1;have:ltP p p'=false:=by
   cases q:ltP p p' with
   |false=>rfl
   |true=>have:=Wj.mp l1;have:=Wj.mp q;lia
  rw[this];exact q
 ·have hf:=I.hok.fresh hl;obtain⟨bs,hbs,hat⟩:∃bs:List Addr,vs=bs.map Aq/\∀(i:Nat) (b:Addr) (q:Rdu.PK),bs[i]? =some b->ps[i]? =some q->H b=some (.tup ((pK q).map kV)):=by
   refine⟨xs.map (·.2.1),Ry λi=>?_,λi b q hb hq=>?_⟩
   ·by_cases hi:i<es.size
    ·have hi':i<vs.length:=by lia
     obtain⟨e,he,ev⟩:=hv i vs[i] (Ag hi');obtain⟨p,x,_,hx,kq,_⟩:=at_ i e he;rw[Ag hi',ev,kq];simp[hx]
    ·rw[Hb (by lia),Hb (by simp;rw[<-Ce rel];lia)]
   ·rw[Ap,Al]at hb;obtain⟨x,hx,rfl⟩:=hb;have hk:(xs.map (·.1))[i]? =some x.1:=by rw[Ap,hx];rfl
    rw[rel.keys,ek,Ap,hq]at hk;have hk:pK q=x.1:=Bb hk;rw[hk];exact rel.at hx
  have hbl:bs.length=ps.length:=by have:=congrArg Jg hbs;simp at this;lia
  refine h l bs _ hf hbl hat (I.laid (a:=l) (o:=.lst (bs.map V.ref)) (t':=tk) (λc q hq=>kp _ _ hq) hl ⟨by simp;lia,bs.map Aq,c,?_,by rw[<-hbs];exact gl⟩);have vr:∀l:List Addr,Vals (l.map V.ref) (l.map Aq):=λl=>by
   induction l with
   |nil=>exact .nil
   |cons x l ih=>exact .cons rfl ih
  exact vr bs
end
open PySem Rdu
inductive Tr where
 |nil
 |node (l:Tr) (k:Nat) (r:Tr)
noncomputable def Tr.has(j:Nat):Tr->Bool
 |.nil=>false
 |.node l k r=>if j<k then l.has j else if k<j then r.has j else true
noncomputable def Tr.ins(j:Nat):Tr->Option Tr
 |.nil=>some (.node .nil j .nil)
 |.node l k r=>if j<k then(match l.ins j with|some l'=>some (.node l' k r)|none=>none)else if k<j then(match r.ins j with|some r'=>some (.node l k r')|none=>none)else none
theorem Tr.ins_has:∀{t t':Tr},t.ins j=some t'->t.has j=false/\∀i,t'.has i=(decide (i=j)||t.has i)
 |.nil,t',e=>by
  cases e;refine⟨rfl,λi=>?_⟩;unfold Tr.has Tr.has
  by_cases h1:i<j
  ·simp[h1,Au h1]
  ·by_cases h2:j<i
   ·simp[h1,h2,Cq h2]
   ·have:i=j:=by lia
    simp[this]
 |.node l k r,t',e=>by
  unfold Tr.ins at e
  by_cases h1:j<k
  ·rw[if_pos h1]at e;cases q:l.ins j with
   |none=>rw[q]at e;cases e
   |some l'=>
    rw[q]at e;cases e;obtain⟨a,b⟩:=Tr.ins_has q;refine⟨by unfold Tr.has;rw[if_pos h1];exact a,λi=>?_⟩;unfold Tr.has
    by_cases h2:i<k
    ·rw[if_pos h2,if_pos h2];exact b i
    ·have:i≠j:=by lia
     simp[h2,this]
  ·rw[if_neg h1]at e
   by_cases h3:k<j
   ·rw[if_pos h3]at e;cases q:r.ins j with
    |none=>rw[q]at e;cases e
    |some r'=>
     rw[q]at e;cases e;obtain⟨a,b⟩:=Tr.ins_has q;refine⟨by unfold Tr.has;rw[if_neg h1,if_pos h3];exact a,λi=>?_⟩;unfold Tr.has
     by_cases h2:i<k
     ·have:i≠j:=by lia
      simp[h2,this]
     ·rw[if_neg h2,if_neg h2]
      by_cases h4:k<i
      ·rw[if_pos h4,if_pos h4];exact b i
      ·simp[h4]
   ·rw[if_neg h3]at e;cases e
def chk(f:Nat×Nat->Int):List (Nat×Nat)->Tr->Tr->Bool
 |[],_,_=>true
 |q::r,a,b=>match f q with
  |.ofNat 0=>false
  |.ofNat (k+1)=>(match a.ins k with|some a'=>chk f r a' b|none=>false)
  |.negSucc 0=>false
  |.negSucc (k+1)=>(match b.ins k with|some b'=>chk f r a b'|none=>false)
def Yu(a b:Tr):Int->Bool
 |.ofNat 0=>false
 |.ofNat (k+1)=>a.has k
 |.negSucc 0=>false
 |.negSucc (k+1)=>b.has k
theorem Jjt{f:Nat×Nat->Int}:∀{l:List (Nat×Nat)} {a b:Tr},chk f l a b=true->(∀q∈l,Yu a b (f q)=false)/\(l.map f).Nodup
 |[],_,_,_=>⟨(λ_ h=>nomatch h),Ii⟩
 |q::r,a,b,h=>by
  unfold chk at h;have step:∀a' b',chk f r a' b'=true->Yu a b (f q)=false->(∀i,Yu a' b' i=false->i≠f q/\Yu a b i=false)->(∀q'∈q::r,Yu a b (f q')=false)/\((q::r).map f).Nodup:=λa' b' c h1 h2=>by
   obtain⟨x,y⟩:=Jjt c;refine⟨λq' hq=>?_,?_⟩
   ·rcases An.mp hq with rfl|hq
    ·exact h1
    ·exact(h2 _ (x q' hq)).2
   ·rw[Ay,Cr];refine⟨λm=>?_,y⟩;obtain⟨q',hq,e⟩:=Bd.mp m;exact(h2 _ (x q' hq)).1 e
  cases e:f q with
  |ofNat n=>
   cases n with
   |zero=>rw[e]at h;cases h
   |succ k=>
    rw[e]at h;cases g:a.ins k with
    |none=>simp only[g]at h;cases h
    |some a'=>
     simp only[g]at h;obtain⟨u,v⟩:=Tr.ins_has g;refine step a' b h (by rw[e];exact u) λi hi=>?_;rw[e]
     match i,hi with
     |.ofNat 0,_=>exact⟨(λz=>nomatch z),rfl⟩
     |.ofNat (j+1),hi=>
      have hi:a'.has j=false:=hi;rw[v j,Ql]at hi;refine⟨λz=>?_,hi.2⟩;have z':j=k:=by injection z with z;lia
      simp[z']at hi
     |.negSucc 0,_=>exact⟨(λz=>nomatch z),rfl⟩
     |.negSucc (j+1),hi=>exact⟨(λz=>nomatch z),hi⟩
  |negSucc n=>
   cases n with
   |zero=>rw[e]at h;cases h
   |succ k=>
    rw[e]at h;cases g:b.ins k with
    |none=>simp only[g]at h;cases h
    |some b'=>
     simp only[g]at h;obtain⟨u,v⟩:=Tr.ins_has g;refine step a b' h (by rw[e];exact u) λi hi=>?_;rw[e]
     match i,hi with
     |.ofNat 0,_=>exact⟨(λz=>nomatch z),rfl⟩
     |.ofNat (j+1),hi=>exact⟨(λz=>nomatch z),hi⟩
     |.negSucc 0,_=>exact⟨(λz=>by injection z with z;lia),rfl⟩
     |.negSucc (j+1),hi=>
      have hi:b'.has j=false:=hi;rw[v j,Ql]at hi;refine⟨λz=>?_,hi.2⟩;have z':j=k:=by injection z with z;lia
      simp[z']at hi
noncomputable def Zm(q:Nat×Nat):Int:=Uc (C2 [hashInt q.1,hashInt q.2])
noncomputable def small:Nat->List (Nat×Nat)
 |0=>[]
 |n+1=>(n,0)::(n,1)::(n,2)::small n
def Jld:chk Zm (small 345) .nil .nil=true:=by decide+kernel
theorem Jel(hp:p<3):∀{m:Nat},n<m->(n,p)∈small m
 |m+1,h=>by
  unfold small
  by_cases e:n=m
  ·subst e;have:p=0\/p=1\/p=2:=by lia
   rcases this with rfl|rfl|rfl<;>simp
  ·have:=Jel (n:=n) hp (m:=m) (by lia);simp[this]
def Jxf{α:Type}{f:α->Int}{l:List α}(h:(l.map f).Nodup){x y:α}(hx:x∈l)(hy:y∈l)(e:f x=f y):x=y:=by
 obtain⟨i,hi,rfl⟩:=C6.mp hx;obtain⟨j,hj,rfl⟩:=C6.mp hy;have q:=Gh.mp (Me.mp h);rcases Jl i j with k|k|k
 ·exact absurd e (q i j hi hj k)
 ·subst k;rfl
 ·exact absurd e.symm (q j i hj hi k)
def Jpy{P:Program}{w:World}{kvs:List (List Key×V)}{ps:List (Nat×Nat)}(ek:kvs.map (·.1)=ps.map λq=>pK ((q.1:Int),(q.2:Int)))(hs:∀q∈ps,q.1<345/\q.2<3)(nd:ps.Nodup):Apart P w kvs:=by
 have e:(kvs.map λkv=>(tupleKind (mixKind P w)).hash kv.1)=ps.map Zm:=by
  have h:=congrArg (N0 λk=>(tupleKind (mixKind P w)).hash k) ek;rw[B4,B4]at h;exact h
 unfold Apart;rw[e];refine Me.mpr (L4 (λ{x y} hx hy hne hxy=>?_) nd);exact hne (Jxf (Jjt Jld).2 (Jel (hs x hx).2 (hs x hx).1) (Jel (hs y hy).2 (hs y hy).1) hxy)
open PySem PySem.Spec PyProof.Rows Rdc Rdu
def Itw(K:Af)(b:Bool)(a:Addr)(o:Obj)(kvs:List (List Key×V))(bs:List Addr):It:=
 ⟨λi H=>H a=some (.frz o (.dT kvs))/\i<kvs.length/\∀(j:Nat) (k:List Key) (v:V) (c:Addr),kvs[j]? =some (k,v)->bs[j]? =some c->SqT K H c (k.map kV),
  λi H x H'=>H'=H/\∃k v,kvs[i]? =some (k,v)/\cond b (x=v) (∃c,x=.ref c/\SqT K H c (k.map kV)),λi H=>H a=some (.frz o (.dT kvs))/\kvs.length<=i⟩
def Jvd{K:Af}(b:Bool)(a it:Addr){o:Obj}{kvs:List (List Key×V)}{es:Array Cg}(hz:es.size=kvs.length)
  (rel:∀(i:Nat) (e:Cg),es[i]? =some e->∃k v,kvs[i]? =some (k,v)/\cond b (RelV v e.val) (∃c,bs[i]? =some c/\e.key=.ref c))(hc:o.ExactDict)(hd:o.data=.dict es ep):
  Turn P w K tg (Itw K b a o kvs bs) [it] it (λi h=>cond b (h.IsValIter it a i es.size ep) (h.IsKeyIter it a i es.size ep))where
 mem:=by simp
 obj:=λi h st c hb=>by
  have e:c=it:=by simpa using hb
  subst e;cases b<;>exact let⟨o,e,c,d⟩:=st;⟨o,e,λv z=>by rw[d]at z;cases z⟩
 keep:=λi h h' st k=>by
  cases b<;>exact let⟨o,e,r⟩:=st;⟨o,k it (by simp) o e,r⟩
 item:=by
  intro X hP hw hK hcl i pins s U H E I hf st hg;subst hP hw hK;obtain⟨ha,hi,hB⟩:=hg;have hm:Raw s.heap a es ep:=⟨o,(show Vj X.prog X.w H s.heap a (.frz o (.dT kvs))from I.hok a _ ha).1,hc,hd⟩
  have hi':i<es.size:=by omega
  obtain⟨k,v,hv,rv⟩:=rel i es[i] (Bm hi');obtain⟨f0,f1,f2,f3,f4,f5⟩:=hf it (by simp);have I1:∀h':Heap,Cp it s.heap h'->Inv X pins U H {s with heap:=h'}:=λh' sb=>I.turned (t':=s.toks) (λb o hb e=>(sb.2 b hb).trans e) f0 f1 f3 f4 f5;refine Jqv b st hm hi' λh' st' sb=>?_;cases b with
  |true=>
   obtain⟨o',e,c,d⟩:=id st';exact⟨_,rfl,Jmo (s:={s with heap:=h'}) e c d (by decide) ⟨v,H,I1 h' sb,rv,⟨rfl,k,v,hv,rfl⟩,st',λb hb=>(hf b hb).1⟩⟩
  |false=>
   obtain⟨c,hc,ek⟩:=rv;obtain⟨o',e,cl,d⟩:=id st';exact⟨_,rfl,Jmo (s:={s with heap:=h'}) e cl d (by decide) ⟨.ref c,H,I1 h' sb,ek,⟨rfl,k,v,hv,c,rfl,hB i k v c hv hc⟩,st',λb hb=>(hf b hb).1⟩⟩
 done:=by
  intro X hP hw hK hcl i pins s U H E I hf st hg;subst hP hw hK;obtain⟨ha,hi⟩:=hg;have hm:Raw s.heap a es ep:=⟨o,(show Vj X.prog X.w H s.heap a (.frz o (.dT kvs))from I.hok a _ ha).1,hc,hd⟩
  obtain⟨f0,f1,f2,f3,f4,f5⟩:=hf it (by simp);have q:∀h',M0 it s.heap h'->(none:Option Value)=none/\Inv X pins U H {s with heap:=h'}:=λh' eb=>⟨rfl,I.turned (t':=s.toks) (λb o hb e=>eb b o hb e) f0 f1 f3 f4 f5⟩
  exact Jxs b (I.ok.hd hcl) st hm (by omega) q
 self:=λ_ _ _ _ _ st h=>by
  cases b
  ·exact Sf st h
  ·exact wpAny_pyIter_valiter st h
open PySem PySem.Spec PyProof.Rows
def HOk.thaw(x:HOk P w H h)(e:H a=some (.frz o u)):HOk P w (upd H a u) h:=λb v q=>by
 have ho:∀c d,H c=some (.own d)->upd H a u c=some (.own d):=λc d z=>by rw[Jac (Je9 z e (λk=>nomatch k))];exact z
 have ht:∀c xs,H c=some (.tup xs)->upd H a u c=some (.tup xs):=λc xs z=>by rw[Jac (Je9 z e (λk=>nomatch k))];exact z
 by_cases hb:b=a
 ·subst hb;rw[Jaf]at q;cases q;exact(x b _ e).2.stay (λ_ _ _ q=>q) (λc z=>ho c b z) ht
 ·rw[Jac hb]at q;exact(x b v q).stay (λ_ _ _ q=>q) (λc z=>ho c b z) ht
def Inv.thaw{X:Cx}(I:Inv X pins U H s)(e:H a=some (.frz o u))(n:∀o u,X.H₀ a≠some (.frz o u)):Inv X pins U (upd H a u) s:=by
 have ne:∀b,H b=none->b≠a:=λb q z=>by rw[z,e]at q;cases q
 have nn:∀b v,H b=some v->(∀o u,v≠ .frz o u)->b≠a:=λb v q k z=>by rw[z,e]at q;cases q;exact k _ _ rfl
 refine⟨I.ok,I.os,I.bare,⟨I.base.keep,I.base.slot,λb ob q z hx=>?_,I.base.there,λb xs q=>?_,λb ob v q=>?_,λb ps q=>?_⟩,I.loc,I.cell,?_,λx c q=>?_,λp hp=>?_,I.hok.thaw e,I.len⟩
 ·have:=I.base.free b ob q z hx;rw[Jac (ne b this)];exact this
 ·have:=I.base.tups b xs q;rw[Jac (nn b _ this λ_ _ k=>nomatch k)];exact this
 ·have:=I.base.frzs b ob v q;have hb:b≠a:=λz=>n ob v (z▸q);rw[Jac hb];exact this
 ·obtain⟨more,h⟩:=I.base.tbls b ps q;exact⟨more,by rw[Jac (nn b _ h λ_ _ k=>nomatch k)];exact h⟩
 ·rw[Jac (ne _ I.free)];exact I.free
 ·rw[Jac (ne _ (I.freeC x c q))];exact I.freeC x c q
 ·obtain⟨p1,p2,p3⟩:=I.pin p hp;exact⟨p1,by rw[Jac (ne _ p2)];exact p2,p3⟩
section
open Rdc Rdu
variable {X:Cx} {pins:List (Addr×Obj)} {U:St} {H:Hp} {s:Shared} {tg:Expr} {a:Addr} {kvs:List (List Key×V)}
theorem KT.val_at(r:KT H kvs xs):∀{i:Nat} {x:List Key×Addr×Value},xs[i]? =some x->∃v,kvs[i]? =some (x.1,v)/\RelV v x.2.2:=by
 induction r with
 |nil=>intro i x hx;simp at hx
 |@cons p q ps qs hq _ ih=>
  intro i x hx;cases i with
  |zero=>
   simp only[Dk,Gk]at hx;subst hx;exact⟨p.2,by rw[<-hq.1];rfl,hq.2.2⟩
  |succ i=>simp only[Bu]at hx ⊢;exact ih hx
def NF(X:Cx)(a:Addr):Prop:=∀o u,X.H₀ a≠some (.frz o u)
def iDw(X:Cx)(b:Bool)(to:TE):TI:=λU H R=>to U H λx H1=>∃a kvs,x=.ref a/\H1 a=some (.dT kvs)/\(NF X a->∀o bs,(∀(j:Nat) (k:List Key) (v:V) (c:Addr),kvs[j]? =some (k,v)->bs[j]? =some c->H1 c=some (.tup (k.map kV)))->R (Itw X.K b a o kvs bs) (upd H1 a (.frz o (.dT kvs))))
def Wa7{R:It->Hp->Prop}(b:Bool)(I:Inv X pins U H s)(ha:H a=some (.dT kvs))(q:NF X a->∀o bs,(∀(j:Nat) (k:List Key) (v:V) (c:Addr),kvs[j]? =some (k,v)->bs[j]? =some c->H c=some (.tup (k.map kV)))->R (Itw X.K b a o kvs bs) (upd H a (.frz o (.dT kvs)))):
  cond b (wpAny (model X.prog X.w) X.A (call (.builtin "dict.values") [.ref a]) (λr s1=>wpAny (model X.prog X.w) X.A (pyIter r) (PIE X pins U tg R) X.xe s1) X.xe s) (wpAny (model X.prog X.w) X.A (pyIter (.ref a)) (PIE X pins U tg R) X.xe s):=by
 obtain⟨z,hd,xs,rel,o,es,ep,h1,h2,h3,h4,h5,h6⟩:=Jt7 I.hok ha;have nf:NF X a:=λo u e=>by have:=I.base.frzs a o u e;rw[ha]at this;cases this
 have go:∀(h:Heap) (ob:Obj),(∀b o,s.heap.get? b=some o->h.get? b=some o)->cond b ((h.push ob).IsValIter h.objs.size a 0 es.size ep) ((h.push ob).IsKeyIter h.objs.size a 0 es.size ep)->PIE X pins U tg R (.ref h.objs.size) {s with heap:=h.push ob}:=λh ob kp st=>by
  have I2:Inv X pins U (upd H a (.frz o (.dT kvs))) {s with heap:=h}:=I.write (x:=a) (e:=a) (h':=h) (t':=s.toks) (by rw[ha];trivial) (.inl rfl) (λb u _ e=>kp b u e) ⟨_,kp _ _ h1⟩
   ⟨kp _ _ h1,z,hd,xs,rel.keeps λc ys ec=>by rw[Jac (Je9 ec ha (λz=>nomatch z))];exact ec,o,es,ep,kp _ _ h1,h2,h3,h4,h6⟩
  refine⟨h.objs.size,[h.objs.size],_,_,_,rfl,I2.kept (t':=s.toks) λb o e=>Ad _ e,Jvd b a _ (o:=o) (es:=es) (ep:=ep) (bs:=xs.map (·.2.1)) (by rw[E8 h4,<-Ce rel]) (λi e he=>?_) h2 h3,st,λc hb=>?_,q nf o _ λj k v c hk hb=>?_⟩
  ·rw[Lr h4 i,Al]at he;obtain⟨x,hx,rfl⟩:=he;obtain⟨v,hv,rv⟩:=rel.val_at hx;refine⟨x.1,v,hv,?_⟩;cases b
   ·exact⟨_,by rw[Ap,hx];rfl,rfl⟩
   ·exact rv
  ·have e:c=h.objs.size:=by simpa using hb
   subst e;exact I2.fpOk (Aj _) (I2.hok.fresh (Aj _))
  ·rw[Ap,Al]at hb;obtain⟨x,hx,rfl⟩:=hb;obtain⟨v',hv,_⟩:=rel.val_at hx;rw[hk]at hv;cases hv;exact rel.at hx
 cases b
 ·exact Jhi hd ⟨o,h1,h2,h3⟩ (go s.heap _ (λ_ _ e=>e) ⟨_,Ak _ rfl,rfl,rfl⟩)
 ·refine Ji2 hd ⟨o,h1,h2,h3⟩ ?_;have k1:∀(b:Addr) (o:Obj),s.heap.get? b=some o->(s.heap.push {cls:=.type "dict_values",data:=.fields #[.ref a]}).get? b=some o:=λb o e=>Ad _ e;exact Jmd (s:={s with heap:=_}) (d:=a) (es:=es) (ep:=ep) ⟨_,Ak _ rfl,rfl,rfl⟩ ⟨o,k1 _ _ h1,h2,h3⟩ (go _ _ k1 ⟨_,Ak _ rfl,rfl,rfl⟩)
def Js4(hl:PE X l tl):PI X tg l (iDw X false tl):=λpins s U H R I h=>thn (hl pins s U H _ I h) λv s1 q_=>by
 obtain⟨x,H1,I1,r1,a,kvs,e,ha,q⟩:=q_;subst e;cases r1;exact Wa7 false I1 ha q
def Js3{ap cp:Pos}(hl:PE X l tl)(hbase:attributeBase l "values" X.env (eval l X.env)=eval l X.env)(hline:(ap.endLine==cp.line)=true):PI X tg (.Call (.Attribute l "values" ap) [] [] cp) (iDw X true tl):=λpins s U H R I h=>by
 refine Kg hbase hline (thn (hl pins s U H _ I h) λv s1 q_=>?_);obtain⟨x,H1,I1,r1,a,kvs,e,ha,q⟩:=q_;subst e;cases r1;obtain⟨h1,h2,_⟩:=Jme I1 (.inr ⟨kvs,.inl ha⟩);exact⟨"dict","dict.values",E7,P5,PySem.F.type_dict_values,h1,h2,Gy rfl (Kz (Wa7 true I1 ha q))⟩
def Js7(h:PE X e w):PE X e (λU H Q=>w U H λv H'=>∃a o u,NF X a/\H' a=some (.frz o u)/\Q v (upd H' a u)):=
 λpins s U H Q I q=>thn (h pins s U H _ I q) λv s1 q_=>by obtain⟨x,H1,I1,r1,a,o,u,n,e,q1⟩:=q_;exact⟨x,_,I1.thaw e n,r1,q1⟩
end
end L2
namespace Nst
open PySem
section
variable {prog:Program} {w:World} {K:Type} [DecidableEq K] (knd:Kl prog w K)
inductive Refs (h:Heap):List K->List Value->Prop
 |nil:Refs h [] []
 |cons {k:K} {b:Addr} {ks:List K} {vs:List Value}:knd.is h k b->Refs h ks vs->Refs h (k::ks) (.ref b::vs)
inductive Is (h:Heap) (ks:List K) (a:Addr):Prop
 |mk (o items n) (_:h.get? a=some o) (_:o.cls=.type "tuple") (_:o.data=.seq items n) (_:Refs knd h ks items.toList):Is h ks a
noncomputable def drw(ks:List K):Nat:=(ks.map knd.draws).sum
variable {knd} {A:Bi} {E:Value->Shared->Prop} {s:Shared}
theorem Refs.inj(hx:Refs knd h x vs)(hy:Refs knd h y vs):x=y:=by
 induction hx generalizing y with
 |nil=>cases hy;rfl
 |cons h1 _ ih=>cases hy with|cons h2 t2=>rw[knd.inj h1 h2,ih t2]
theorem Refs.map(hx:Refs knd h x vs)(f:∀k b,knd.is h k b->knd.is h' k b):Refs knd h' x vs:=by
 induction hx with
 |nil=>exact .nil
 |cons h1 _ ih=>exact .cons (f _ _ h1) ih
def Is.inj(hx:Is knd h x a)(hy:Is knd h y a):x=y:=by
 obtain⟨o,items,n,ho,_,hd,hi⟩:=hx;obtain⟨o',items',n',ho',_,hd',hi'⟩:=hy;obtain rfl:o=o':=Bb (ho.symm.trans ho');rw[hd]at hd';injection hd' with h1 _;subst h1;exact hi.inj hi'
def Is.keeps{h:Heap}{o:Obj}{es ep}(x:Is knd h ks a)(ho:h.get? d=some o)(hd:o.data=.dict es ep)(hs:Cp d h h'):Is knd h' ks a:=by
 obtain⟨o',items,n,ho',hc,hd',hi⟩:=x;have hne:a≠d:=λq=>by
  subst q;obtain rfl:o'=o:=Bb (ho'.symm.trans ho);rw[hd]at hd';exact nomatch hd'
 exact⟨o',items,n,(hs.2 a hne).trans ho',hc,hd',hi.map λk b q=>knd.keeps q ho hd hs⟩
def Is.typeIs(x:Is knd s.heap ks a):s.TypeIs (.ref a) "tuple":=let⟨o,_,_,ho,hc,_,_⟩:=x;⟨o,ho,hc⟩
noncomputable def hsh(knd:Kl prog w K)(ks:List K):Int:=Uc (C2 (ks.map knd.hash))
def Jzp{Q:Int->Shared->Prop}(hu:A.units<C0)(hr:knd.room A.in1)(hk:Is knd s.heap ks a)(h:Q (hsh knd ks) {s with toks:=s.toks+(drw knd ks+1)}):wpAny (model prog w) A (pyHash (.ref a)) Q E s:=by
 have hT:=hk.typeIs;obtain⟨o,items,n,ho,_,hd,hi⟩:=hk;unfold pyHash
 first|unfold pyHashByItsType|skip
 first|refine Aa (wpAny_cRoomFor_or (.inr hu) ?_)|skip
 refine Aa (F3 hT G8.lookup ?_);show wpAny _ _ (if(some (Gi "tuple.__hash__")==some Cj)=true then _ else _) Q E s;rw[if_neg (by rw[beq_builtin_none];exact Aw)];refine Aa (F3 hT G8.lookup ?_);show wpAny _ _ (callSpecialIfBoundUnlessNone? (.ref a) "__hash__" _>>=_) Q E s;refine Aa (wpAny_callSpecialIfBoundUnlessNone?_slot hT G8 (Bg G8 hT F.entry_tuple_hash ?_ (F.args_tuple_hash_1 _)));show wpAny _ _ (G9 (.ref a)>>=_) _ _ s;refine Aa (My ho hd (Aa ?_));rw[<-Fo];refine Dr _ (λrest (b:Array Int) s'=>∃done left,ks=done++left/\Refs knd s.heap left rest/\b.toList=done.map knd.hash/\s'={s with toks:=s.toks+drw knd done})
  _ ?_ ?_ _ _ ⟨[],ks,rfl,hi,rfl,rfl⟩
 ·rintro x rest b s' ⟨done,left,rfl,hl,hb,rfl⟩;cases hl with
  |@cons k b' ks' _ h1 hl'=>
   have e:({s with toks:=s.toks+drw knd done+knd.draws k}:Shared)={s with toks:=s.toks+drw knd (done++[k])}:=by simp[drw,Lm]
   refine Aa (knd.pyHash (s:={s with toks:=s.toks+drw knd done}) hr h1 ?_)
   first
    |exact Ab ⟨done++[k],ks',by simp,hl',by simp[hb],e⟩
    |exact Aa (Ab (Ab ⟨done++[k],ks',by simp,hl',by simp[hb],e⟩))
 ·rintro b s' ⟨done,left,rfl,hl,hb,rfl⟩;cases hl;rw[Ec]at h;show wpAny _ _ (retInt (C2 b.toList)) _ _ _;rw[hb];refine wpAny_ret_mkInt ?_;show wpAny _ _ (if(decide (-(2:Int)^63<=C2 (done.map knd.hash))&&decide (C2 (done.map knd.hash)<2^63))=true then _ else _) Q E _;unfold hsh Uc at h
  by_cases hr:(decide (-(2:Int)^63<=C2 (done.map knd.hash))&&decide (C2 (done.map knd.hash)<2^63))=true
  ·rw[if_pos hr];rw[if_pos hr]at h;exact Ab (by simpa [Lm]using h)
  ·rw[if_neg hr];rw[if_neg hr]at h;exact Aa (Fz (Ab (by simpa [Lm]using h)))
def Jt6{P:Fin->Shared->Prop}(hr:knd.room A)(hx:Is knd s.heap x a)(hy:Is knd s.heap y b)(h:P (.done (.ret (.bool (decide (x=y))))) s):
  wpAny (model prog w) A (Builtin.«tuple.__eq__» ⟨[.ref a,.ref b],[]⟩) P E s:=by
 have hTb:=hy.typeIs;obtain⟨oa,xs,na,hoa,_,hda,hia⟩:=hx;obtain⟨ob,ys,nb,hob,_,hdb,hib⟩:=hy;show wpAny _ _ (Kx (.ref b) (.type "tuple")>>=_) _ _ s;refine Aa (D7 hTb Hn ?_);simp only[Dg,As,if_false];refine Aa (My hoa hda (Aa (My hob hdb (Aa ?_))));refine Dr _
  (λrest r s'=>r.1=none/\s'=s/\∃x' y' xs' ys',rest=List.zip xs' ys'/\Refs knd s.heap x' xs'/\Refs knd s.heap y' ys'/\decide (x'=y')=decide (x=y)/\(xs'.length==ys'.length)=(xs.size==ys.size))
  _ ?_ ?_ _ _ ⟨rfl,rfl,x,y,xs.toList,ys.toList,rfl,hia,hib,rfl,by simp⟩
 ·rintro⟨u,v⟩ rest r s' ⟨hr',rfl,x',y',xs',ys',hz,hx',hy',hdec,hlen⟩;cases hx' with
  |nil=>simp at hz
  |@cons k1 u' x'' xs'' h1 hx''=>
   cases hy' with
   |nil=>simp at hz
   |@cons k2 v' y'' ys'' h2 hy''=>
    simp only[Q4,Qk,Iw]at hz;obtain⟨⟨rfl,rfl⟩,rfl⟩:=hz;refine Aa (knd.eqBool hr h1 h2 ?_)
    by_cases hk:k1=k2
    ·subst hk;rw[decide_eq_true rfl];simp only[Dg,As,if_false];refine Ab ⟨rfl,rfl,x'',y'',xs'',ys'',rfl,hx'',hy'',?_,by simpa using hlen⟩;rw[<-hdec]
     by_cases hxy:x''=y''<;>simp[hxy]
    ·rw[decide_eq_false hk];simp only[T4,if_true];have hf:decide (x=y)=false:=by rw[<-hdec];simp[hk]
     rw[hf]at h;exact Aa (Ab (Ab (Ab h)))
 ·rintro⟨r1,r2⟩ s' ⟨hr',rfl,x',y',xs',ys',hz,hx',hy',hdec,hlen⟩;simp only at hr';subst hr';refine Ab ?_;have hfin:(xs.size==ys.size)=decide (x=y):=by
   rw[<-hdec,<-hlen];cases hx' with
   |nil=>cases hy'<;>simp
   |cons _ _=>
    cases hy' with
    |nil=>simp
    |cons _ _=>simp at hz
  show P (.done (.ret (.bool (xs.size==ys.size)))) s';rw[hfin];exact h
def eq_{Q:Bool->Shared->Prop}(hu:A.units<C0)(hr:knd.room A.in1)(hx:Is knd s.heap x a)(hy:Is knd s.heap y b)(h:Q (decide (x=y)) s):wpAny (model prog w) A (eqBool (.ref a) (.ref b)) Q E s:=by
 unfold eqBool
 try with_reducible refine Bc ?_
 show wpAny _ _ (if(Aq a==Aq b)=true then _ else _) Q E s
 by_cases hab:(Aq a==Aq b)=true
 ·rw[if_pos hab];have e:a=b:=by have:=eq_of_beq hab;injection this
  subst e;obtain rfl:=hx.inj hy;exact Aa (Fz (Ab (by simpa using h)))
 ·rw[if_neg hab];exact Aa (Jb (op:=.Eq) hx.typeIs hy.typeIs Ib
   (Bg Ib hx.typeIs F.entry_tuple_eq (Jt6 hr hx hy ⟨_,rfl,(λe=>nomatch e),Dv h⟩) (F.args_tuple_eq_2 _ _)) hu)
def Jvy{Q:Bool->Shared->Prop}(q7:∀{A:Bi} {E:Value->Shared->Prop} {s:Shared} {k:K} {b:Addr} {Q:Bool->Shared->Prop},knd.is s.heap k b->Q true s->wpAny (model prog w) A (N8 7 (.ref b)) Q E s)
  (hk:Is knd s.heap ks a)(h:Q true s):wpAny (model prog w) A (N8 8 (.ref a)) Q E s:=by
 have hT:=hk.typeIs;obtain⟨o,items,n,ho,_,hd,hi⟩:=hk;unfold N8;refine Aa (F3 hT Ib.lookup ?_);show wpAny _ _ (Kx (.ref a) (.type "tuple")>>=_) _ _ s;refine Aa (D7 hT Hn ?_);simp only[Dg,As,if_false];refine Aa (Ee ho hd (Aa ?_));show wpAny _ _ (forIn items _ _) _ _ s;rw[<-Fo];refine Dr _ (λrest r s'=>r.1=none/\s'=s/\∃ls,Refs knd s.heap ls rest) _ ?_ ?_ _ _ ⟨rfl,rfl,ks,hi⟩
 ·rintro v rest r s' ⟨hr,rfl,ls,hl⟩;cases hl with
  |cons h1 h2=>
   refine Aa (q7 h1 ?_);simp only[Dg,As,if_false];exact Ab ⟨rfl,rfl,_,h2⟩
 ·rintro⟨r1,r2⟩ s' ⟨hr,rfl,_⟩;simp only at hr;subst hr;exact Ab h
end
section
variable {prog:Program} {w:World} {K:Type} [DecidableEq K] {knd:KeyKind prog w K} {A:Bi} {E:Value->Shared->Prop} {s:Shared}
def Jvz{Q:Bool->Shared->Prop}(hk:Um knd s.heap ks a)(h:Q true s):wpAny (model prog w) A (N8 7 (.ref a)) Q E s:=by
 have hT:=hk.typeIs;obtain⟨o,items,n,ho,_,hd,hi⟩:=hk;unfold N8;refine Aa (F3 hT Ib.lookup ?_);show wpAny _ _ (Kx (.ref a) (.type "tuple")>>=_) _ _ s;refine Aa (D7 hT Hn ?_);simp only[Dg,As,if_false];refine Aa (Ee ho hd (Aa ?_));show wpAny _ _ (forIn items _ _) _ _ s;rw[<-Fo];refine Dr _ (λrest r s'=>r.1=none/\s'=s/\∀v∈rest,Px v=true) _ ?_ ?_ _ _ ⟨rfl,rfl,hi.byValue⟩
 ·rintro v rest r s' ⟨hr,rfl,hall⟩;rw[eqIsQuiet_byValue _ (hall v Bh)];refine Aa (Ab ?_);simp only[Dg,As,if_false];exact Ab ⟨rfl,rfl,λu hu'=>hall u (Ax _ hu')⟩
 ·rintro⟨r1,r2⟩ s' ⟨hr,rfl,_⟩;simp only at hr;subst hr;exact Ab h
end
def Jit{prog:Program}{w:World}{K:Type}[DecidableEq K](knd:KeyKind prog w K):Kl prog w (List (List K))where
 is:=Is (tupleKind knd)
 hash:=hsh (tupleKind knd)
 draws:=λks=>drw (tupleKind knd) ks+1
 room:=λA=>A.units<C0/\(tupleKind knd).room A.in1
 inj:=λhx hy=>hx.inj hy
 keeps:=λx ho hd hs=>x.keeps ho hd hs
 pyHash:=λhu hk h=>Jzp hu.1 hu.2 hk h
 eqBool:=λhu hx hy h=>eq_ hu.1 hu.2 hx hy h
 quiet:=λhk h=>Jvy (λq h=>Jvz q h) hk h
end Nst
namespace L2
open PySem PySem.Spec PyProof.Rows Nst
abbrev RK:=List (List Key)
def Rg(a:Addr)(xs:List (RK×Addr×Value)):HO:=.ext λP w h=>(a==sysModules)=false/\(xs.map (·.1)).Nodup/\∃o es ep,h.get? a=some o/\o.ExactDict/\o.data=.dict es ep/\es.toList=xs.map (entryOfKey (Jit (mixKind P w)))
inductive Wo (K:Af) (H:Hp) (r:RK) (a:Addr):Prop
 |mk (bs:List Addr) (_:SqT K H a (bs.map V.ref)) (_:Paired (λk b=>SqT K H b (k.map kV)) r bs):Wo K H r a
section
variable {X:Cx} {pins:List (Addr×Obj)} {U:St} {H:Hp} {s:Shared} {a b:Addr} {r:RK} {xs:List (RK×Addr×Value)} {A:Bi} {E:Value->Shared->Prop}
def Jtp(I:Inv X pins U H s)(x:Wo X.K H r a):(Jit (mixKind X.prog X.w)).is s.heap r a:=by
 obtain⟨bs,e,q⟩:=x;obtain⟨its,rel,⟨o,h1,h2,n,h3⟩,_⟩:=I.tuple e;refine⟨o,its.toArray,n,h1,h2,h3,?_⟩;have go:∀{r:RK} {bs:List Addr} {its:List Value},Paired (λk b=>SqT X.K H b (k.map kV)) r bs->Vals (bs.map V.ref) its->Refs (tupleKind (mixKind X.prog X.w)) s.heap r its:=by
  intro r bs its q
  induction q generalizing its with
  |nil=>intro v;cases v;exact .nil
  |cons hq _ ih=>
   intro v;cases v with
   |cons v1 v2=>
    cases v1;obtain⟨its,r1,⟨o,h1,h2,n,h3⟩,_⟩:=I.tuple hq;exact .cons ⟨o,its.toArray,n,h1,h2,h3,by simpa using Jeu r1⟩ (ih v2)
 simpa using go q rel
def Jvs(I:Inv X pins U H s)(e:H a=some (Rg a xs))(hk:∀x∈xs,Wo X.K H x.1 x.2.1):(a==sysModules)=false/\s.heap.DictOfH (Jit (mixKind X.prog X.w)) a xs:=by
 obtain⟨⟨q1,q2,o,es,ep,q3,q4,q5,q6⟩,_⟩:=(show Vj X.prog X.w H s.heap a (Rg a xs)from I.hok a _ e)
 exact⟨q1,o,es,ep,q3,q4,q5,q6,λx hx=>Jtp I (hk x hx),q2⟩
def Jvq(hu:A.units+2<C0):(Jit (mixKind P w)).room A.in1:=by
 have a1:A.in1.units<=A.units+1:=by simp[Around.in1,Around.units]<;>omega
 exact⟨by omega,Dp (by omega)⟩
def Jyy(I:Inv X pins U H s)(e:H a=some (Rg a xs)):s.TypeIs (.ref a) "dict":=by
 obtain⟨⟨q1,q2,o,es,ep,q3,q4,q5,q6⟩,_⟩:=(show Vj X.prog X.w H s.heap a (Rg a xs)from I.hok a _ e)
 exact⟨o,q3,q4.1⟩
def Jx0{p:Addr×Value}{Q:Value->Shared->Prop}(hu:A.units+2<C0)(I:Inv X pins U H s)(e:H a=some (Rg a xs))(hk:∀x∈xs,Wo X.K H x.1 x.2.1)(eb:Wo X.K H r b)(hp:Gs xs r=some p)
  (h:∀s',Inv X pins U H s'->Q p.2 s'):wpAny (model X.prog X.w) A (Ky (.ref a) (.ref b)) Q E s:=by
 obtain⟨hd,dd⟩:=Jvs I e hk;have rm:(Jit (mixKind X.prog X.w)).room A.in1:=Jvq hu;exact T8 rm (Jtp I eb) dd hp (h _ (I.tok _))
def Jvr{h:Heap}{o:Obj}{es:Array Cg}(hd:(a==sysModules)=false)(h5:(xs.map (·.1)).Nodup)(hq:h.get? a=some o)(h2:o.ExactDict)(h3:o.data=.dict es ep)(h4:es.toList=xs.map (entryOfKey (Jit (mixKind P w)))):Vj P w H h a (Rg a xs):=
 ⟨⟨hd,h5,o,es,ep,hq,h2,h3,h4⟩,⟨o,hq⟩,λg1 g2 ⟨w1,w2,o,es,ep,w3,w4⟩ k=>⟨w1,w2,o,es,ep,k o w3,w4⟩⟩
def Jxx{Q:Unit->Shared->Prop}(hu:A.units+2<C0)(I:Inv X pins U H s)(e:H a=some (Rg a xs))(hk:∀x∈xs,Wo X.K H x.1 x.2.1)(eb:Wo X.K H r b)(hz:xs.length<sizeLine)
  (h:∀s',Inv X pins U (upd H a (Rg a (Pe xs r b u))) s'->Q () s'):wpAny (model X.prog X.w) A (U3 (.ref a) (.ref b) u) Q E s:=by
 obtain⟨hd,dd⟩:=Jvs I e hk;have rm:(Jit (mixKind X.prog X.w)).room A.in1:=Jvq hu;refine T7 (hsz:=D6 hz) rm (Jtp I eb) dd λh' dd' hs=>h _ ?_;obtain⟨q,es,ep,hq,h2,h3,h4,_,h5⟩:=dd';exact Jgk I (by rw[e];exact E6) hs ⟨q,hq⟩ (Jvr hd h5 hq h2 h3 h4)
def Joi:PE X (.Dict [] [] pos) (λ_ H Q=>∀p,H p=none->Q (.ref p) (upd H p (Rg p []))):=λpins s U H Q I h=>
 N6 ⟨.ref s.heap.objs.size,_,I.laid (a:=s.heap.objs.size) (o:=Rg s.heap.objs.size []) (t':=s.toks) (λ_ _ q=>Ad _ q) (Aj _) (Jvr (beq_eq_false_iff_ne.mpr (Df (Au I.big))) Ii (Ak _ rfl) ⟨rfl,rfl,rfl⟩ rfl rfl),rfl,h _ (I.hok.fresh (Aj _))⟩
end
end L2
namespace LZ
open PySem PyProof.Rows
section
variable {prog:Program} {w:World} {A:Bi} {E:Value->Shared->Prop} {s:Shared}
def item{Q:Value->Shared->Prop}(D:Lv z a b p q u v)(hz:Kk s.heap z a b .none)(ha:Gj s.heap a (.ref p) (.ref q))(hb:Gj s.heap b c0 c1)
  (h1:s.heap.IsListIter p u m)(h2:s.heap.IsTupleIter q v n)(hu:s.heap.IsList u us)(hv:s.heap.IsTuple v vs)(hx:us[m]? =some x)(hy:vs[n]? =some y)
  (k:∀h',Kk h' z a b (rawInt s.heap.objs.size)->Gj h' b x y->h'.IsListIter p u (m+1)->h'.IsTupleIter q v (n+1)->Gj h' s.heap.objs.size x y->h'.objs.size=s.heap.objs.size+1->
   (∀c o,c≠z->c≠b->c≠p->c≠q->s.heap.get? c=some o->h'.get? c=some o)->Q (.ref s.heap.objs.size) {s with heap:=h'}):
  wpAny (model prog w) A (Builtin.«zip.__next__» ⟨[.ref z],[]⟩) (λfin s'=>∃v,fin=.done (.ret v)/\Q v s') E s:=by
 show wpAny _ A (Qx (.ref z) 2>>=_) _ _ s;refine Aa (B7 hz rfl (x:=.bool false) rfl (?_:wpAny _ A (Qx (.ref z) 3>>=_) _ _ s));refine Aa (B7 hz rfl (x:=.ref a) rfl (Aa (Ee ha rfl (?_:wpAny _ A (B8 (.ref z)>>=_) _ _ s))));refine Aa (m:=B8 (.ref z)) ?_;unfold B8;refine Aa (B7 hz rfl (x:=.none) rfl (Ab ?_));simp only[if_true];refine Aa (Fz (Aa (B7 hz rfl (x:=.ref b) rfl (Aa (Cu hz (by simp) λg1 z1 t1=>?_)))))
 replace z1:Kk g1 z a b .ellipsis:=z1
 refine Aa ?_;simp only[R9,Sy,Hr,Tz];refine Aa (Aa (Qm ?_));show wpAny _ _ (Cy (.ref p)>>=_) _ _ _;refine Aa (wpAny_nextOf_list_item (h1.extBut t1.extBut D.i1z) (hu.extBut t1.extBut D.l1z) hx λg2 r2 t2=>Ab ?_);have b2:Gj g2 b c0 c1:=t2.extBut _ _ D.TOi1 (t1.extBut _ _ D.TOz hb);refine Aa (Ee b2 rfl (Aa (Sd b2 λg3 b3 t3=>?_)))
 replace b3:Gj g3 b x c1:=b3
 refine Aa (Oj (Ab ?_));refine Aa (Aa (Qm ?_));show wpAny _ _ (Cy (.ref q)>>=_) _ _ _;refine Aa (nx (((h2.extBut t1.extBut D.i2z).extBut t2.extBut D.i12.symm).extBut t3.extBut D.TOi2.symm) (((hv.extBut t1.extBut D.l2z).extBut t2.extBut D.l2i1).extBut t3.extBut D.l2TO) hy λg4 r4 t4=>Ab ?_);have b4:Gj g4 b x c1:=t4.extBut _ _ D.TOi2 b3;refine Aa (Ee b4 rfl (Aa (Sd b4 λg5 b5 t5=>?_)))
 replace b5:Gj g5 b x y:=b5
 refine Aa (Oj (Ab (Ab (Aa (Ee b5 rfl (Aa (Pq ?_)))))));have sz:g5.objs.size=s.heap.objs.size:=by rw[t5.1,t4.1,t3.1,t2.1,t1.1]
 have z5:Kk g5 z a b .ellipsis:=t5.extBut _ _ D.TOz.symm (t4.extBut _ _ D.i2z.symm (t3.extBut _ _ D.TOz.symm (t2.extBut _ _ D.i1z.symm z1)));have k5:∀c o,c≠z->c≠b->c≠p->c≠q->s.heap.get? c=some o->g5.get? c=some o:=λc o n1 n2 n3 n4 e=>t5.extBut _ _ n2 (t4.extBut _ _ n4 (t3.extBut _ _ n2 (t2.extBut _ _ n3 (t1.extBut _ _ n1 e))));have r5:g5.IsListIter p u (m+1):=((r2.extBut t3.extBut D.TOi1.symm).extBut t4.extBut D.i12).extBut t5.extBut D.TOi1.symm;have w5:g5.IsTupleIter q v (n+1):=r4.extBut t5.extBut D.TOi2.symm;have lz:z<g5.objs.size:=Am z5;show wpAny _ _ (Ih (.ref z) (.ref g5.objs.size)>>=_) _ _ _;refine Aa ?_;unfold Ih;have z6:Kk (g5.push {cls:=.type "tuple",data:=.seq #[x,y]}) z a b .ellipsis:=Ad _ z5;refine Aa (Cu z6 (by simp) λg7 z7 t7=>?_)
 replace z7:Kk g7 z a b (rawInt g5.objs.size):=z7
 refine Cu z7 (by simp) λg8 z8 t8=>?_
 replace z8:Kk g8 z a b (rawInt g5.objs.size):=z8
 have up:∀c o,c≠z->g5.get? c=some o->g8.get? c=some o:=λc o n1 e=>t8.extBut _ _ n1 (t7.extBut _ _ n1 (Ad _ e));have n8:Gj g8 g5.objs.size x y:=t8.extBut _ _ (Cq lz) (t7.extBut _ _ (Cq lz) (Ak _ rfl));have s8:g8.objs.size=g5.objs.size+1:=by rw[t8.1,t7.1,Cd]
 rw[sz]at z8 n8 s8;refine Ab ⟨_,rfl,(?_:Q (.ref g5.objs.size) _)⟩;rw[sz];exact k g8 z8 (up _ _ D.TOz b5) (r5.at λo e=>up _ o D.i1z e) (w5.at λo e=>up _ o D.i2z e) n8 s8 λc o n1 n2 n3 n4 e=>up c o n1 (k5 c o n1 n2 n3 n4 e)
def last{Q:Fin->Shared->Prop}(hh:A.handled=none)(D:Lv z a b p q u v)(hz:Kk s.heap z a b .none)(ha:Gj s.heap a (.ref p) (.ref q))
  (h1:s.heap.IsListIter p u m)(hu:s.heap.IsList u us)(he:us[m]? =none)
  (k:∀h' e,(∀c o,c≠z->c≠b->c≠p->c≠q->s.heap.get? c=some o->h'.get? c=some o)->(∃o,h'.get? e=some o/\o.cls=.type "StopIteration")->E (.ref e) {s with heap:=h'}):
  wpAny (model prog w) A (Builtin.«zip.__next__» ⟨[.ref z],[]⟩) Q E s:=by
 show wpAny _ A (Qx (.ref z) 2>>=_) _ _ s;refine Aa (B7 hz rfl (x:=.bool false) rfl (?_:wpAny _ A (Qx (.ref z) 3>>=_) _ _ s));refine Aa (B7 hz rfl (x:=.ref a) rfl (Aa (Ee ha rfl (?_:wpAny _ A (B8 (.ref z)>>=_) _ _ s))));refine Aa (m:=B8 (.ref z)) ?_;unfold B8;refine Aa (B7 hz rfl (x:=.none) rfl (Ab ?_));simp only[if_true];refine Aa (Fz (Aa (B7 hz rfl (x:=.ref b) rfl (Aa (Cu hz (by simp) λg1 z1 t1=>?_)))))
 replace z1:Kk g1 z a b .ellipsis:=z1
 refine Aa ?_;simp only[R9,Sy,Hr,Tz];refine Aa (Aa (Qm ?_));show wpAny _ _ (Cy (.ref p)>>=_) _ _ _;refine Aa (wpAny_nextOf_list_end hh (h1.extBut t1.extBut D.i1z) (hu.extBut t1.extBut D.l1z) he λg2 e t2 ⟨oe,eo,ce⟩=>?_);have z2:Kk g2 z a b .ellipsis:=t2 _ _ D.i1z.symm z1;have nz:e≠z:=λr=>by subst r;rw[z2]at eo;cases eo;simp at ce
 exact Cu z2 (by simp) λg3 _ t3=>k g3 e (λc o n1 _ n3 _ r=>t3.extBut _ _ n1 (t2 _ _ n3 (t1.extBut _ _ n1 r))) ⟨oe,t3.extBut _ _ nz eo,ce⟩
def go{Q:Option Value->Shared->Prop}(D:Lv z a b p q u v)(hz:Kk s.heap z a b .none)(ha:Gj s.heap a (.ref p) (.ref q))(hb:Gj s.heap b c0 c1)
  (h1:s.heap.IsListIter p u m)(h2:s.heap.IsTupleIter q v n)(hu:s.heap.IsList u us)(hv:s.heap.IsTuple v vs)(hx:us[m]? =some x)(hy:vs[n]? =some y)
  (k:∀h',Kk h' z a b (rawInt s.heap.objs.size)->Gj h' b x y->h'.IsListIter p u (m+1)->h'.IsTupleIter q v (n+1)->Gj h' s.heap.objs.size x y->h'.objs.size=s.heap.objs.size+1->
   (∀c o,c≠z->c≠b->c≠p->c≠q->s.heap.get? c=some o->h'.get? c=some o)->Q (some (.ref s.heap.objs.size)) {s with heap:=h'}):wpAny (model prog w) A (pyNext (.ref z)) Q E s:=by
 have ty:s.TypeIs (.ref z) "zip":=⟨_,hz,rfl⟩
 unfold pyNext;exact Aa (Du (Bv (name:=Ac "__next__") ty Kr (Bg Kr ty Uq (item D hz ha hb h1 h2 hu hv hx hy λh' r1 r2 r3 r4 r5 r6 r7=>Ab (k h' r1 r2 r3 r4 r5 r6 r7)) (Tg _))))
def stop{Q:Option Value->Shared->Prop}(hh:A.handled=none)(D:Lv z a b p q u v)(hz:Kk s.heap z a b .none)(ha:Gj s.heap a (.ref p) (.ref q))
  (h1:s.heap.IsListIter p u m)(hu:s.heap.IsList u us)(he:us[m]? =none)
  (k:∀h',(∀c o,c≠z->c≠b->c≠p->c≠q->s.heap.get? c=some o->h'.get? c=some o)->Q none {s with heap:=h'}):wpAny (model prog w) A (pyNext (.ref z)) Q E s:=by
 have ty:s.TypeIs (.ref z) "zip":=⟨_,hz,rfl⟩
 unfold pyNext;refine Aa (Du (Bv (name:=Ac "__next__") ty Kr (Bg Kr ty Uq (last hh D hz ha h1 hu he λh' e r1 ⟨o,eo,ce⟩=>?_) (Tg _))));exact Aa (D7 (T:="StopIteration") (b:=true) ⟨o,eo,ce⟩ Pw (Ab (k _ r1)))
end
noncomputable abbrev g1(h:Heap)(u:Addr):Heap:=h.push {cls:=.type "list_iterator",data:=.fields #[.ref u,.int 0 0]}
abbrev g2(h:Heap)(u v:Addr):Heap:=(g1 h u).push {cls:=.type "tuple_iterator",data:=.fields #[.ref v,.int 0 0]}
abbrev g3(h:Heap)(u v:Addr):Heap:=(g2 h u v).push {cls:=.type "tuple",data:=.seq #[.ref h.objs.size,.ref (g1 h u).objs.size]}
abbrev g4(h:Heap)(u v:Addr):Heap:=(g3 h u v).push {cls:=.type "tuple",data:=.seq #[.none,.none]}
abbrev g5(h:Heap)(u v:Addr):Heap:=(g4 h u v).push {cls:=.type "zip",data:=.fields #[.none,.bool false,.bool false,.ref (g2 h u v).objs.size,.ref (g3 h u v).objs.size]}
def made(u v:Addr)(us vs:Array Value):Meets (Builtin.«zip.__new__» ⟨[.type "zip",.ref u,.ref v],[]⟩) (λ_ R s=>s.heap.IsList u us/\s.heap.IsTuple v vs/\R (.ok (.ret (.ref (g4 s.heap u v).objs.size))) {s with heap:=g5 s.heap u v}):=
 .of_wp λprog w A R s ⟨hu,hv,h⟩=>by
  obtain⟨hp,g,d,tk,os⟩:=s;have sb:=sub_zip;have k1:Heap.IsList (Ph ⟨hp,g,d,tk,os⟩) u us:=hu;have k2:U9 (Ph ⟨hp.push {cls:=.type "list_iterator",data:=.fields #[.ref u,.int 0 0]},g,d,tk,os⟩) v vs:=Heap.IsTuple.push hv _
  wp_walk using F8 k1,Jr k2
  exact⟨_,rfl,h⟩
def new{E:Value->Shared->Prop}{s:Shared}{Q:Value->Shared->Prop}(hu:s.heap.IsList u us)(hv:s.heap.IsTuple v vs)
  (k:∀h',Kk h' (s.heap.objs.size+4) (s.heap.objs.size+2) (s.heap.objs.size+3) .none->Gj h' (s.heap.objs.size+2) (.ref s.heap.objs.size) (.ref (s.heap.objs.size+1))->Gj h' (s.heap.objs.size+3) .none .none->
   h'.IsListIter s.heap.objs.size u 0->h'.IsTupleIter (s.heap.objs.size+1) v 0->h'.objs.size=s.heap.objs.size+5->(∀c o,s.heap.get? c=some o->h'.get? c=some o)->Q (.ref (s.heap.objs.size+4)) {s with heap:=h'}):
  wpAny (model prog w) A (call (.type "zip") [.ref u,.ref v]) Q E s:=by
 refine callType_new F.called_zip (by decide) (F.typeCall_zip_2 _ _) (F.newCall_zip_2 _ _) (λobj=>F.args_object_init_3 obj _ _) F.entry_zip_new (made u v us vs) ⟨hu,hv,?_⟩;have z1:(g1 s.heap u).objs.size=s.heap.objs.size+1:=Cd ..;have z2:(g2 s.heap u v).objs.size=s.heap.objs.size+2:=by rw[Cd,z1]
 have z3:(g3 s.heap u v).objs.size=s.heap.objs.size+3:=by rw[Cd,z2]
 have z4:(g4 s.heap u v).objs.size=s.heap.objs.size+4:=by rw[Cd,z3]
 have z5:(g5 s.heap u v).objs.size=s.heap.objs.size+5:=by rw[Cd,z4]
 have up:∀{h:Heap} {c:Addr} {o o':D9},h.get? c=some o->(h.push o').get? c=some o:=λe=>Ad _ e;have e5:(g5 s.heap u v).get? (g4 s.heap u v).objs.size=some _:=Ak _ rfl;have e4:(g5 s.heap u v).get? (g3 s.heap u v).objs.size=some _:=up (Ak _ rfl);have e3:(g5 s.heap u v).get? (g2 s.heap u v).objs.size=some _:=up (up (Ak _ rfl));have e2:(g5 s.heap u v).get? (g1 s.heap u).objs.size=some _:=up (up (up (Ak _ rfl)));have e1:(g5 s.heap u v).get? s.heap.objs.size=some _:=up (up (up (up (Ak _ rfl))));show _/\_;rw[z2,z3,z4]at e5;rw[z1,z2]at e3;rw[z3]at e4;rw[z1]at e2;rw[z4];exact⟨⟨_,e5,rfl⟩,k _ e5 e3 e4 ⟨_,e1,rfl,rfl⟩ ⟨_,e2,rfl,rfl⟩ z5 λc o r=>up (up (up (up (up r))))⟩
end LZ
namespace L2
open PySem PySem.Spec PyProof.Rows
def Izz(K:Af)(u v:Addr)(ys:List V):It:=
 ⟨λi H=>∃xs x y,SqL K H u xs/\SqT K H v ys/\xs[i]? =some x/\ys[i]? =some y,
  λi H w H'=>∃p x y,H p=none/\w=.ref p/\H'=upd H p (.tup [x,y])/\(∀xs,SqL K H u xs->xs[i]? =some x)/\ys[i]? =some y,
  λi H=>∃xs,SqL K H u xs/\xs.length<=i⟩
def Wbl(z a b p q u v:Addr)(i:Nat)(h:Heap):Prop:=Kk h z a b .none/\Gj h a (.ref p) (.ref q)/\(∃c d,Gj h b c d)/\h.IsListIter p u i/\h.IsTupleIter q v i
def Jkx{P:Program}{w:World}{K:Af}{elts:List Expr}{x1:Nat}{tp:Pos}(z a b p q u v:Addr)(ys:List V)(ap:Lv z a b p q u v):
  Turn P w K (.Tuple elts x1 tp) (Izz K u v ys) [z,a,b,p,q] z (Wbl z a b p q u v)where
 mem:=by simp
 obj:=λi h st c hc=>by
  obtain⟨hz,ha,⟨_,_,hb⟩,⟨o1,e1,c1,d1⟩,⟨o2,e2,c2,d2⟩⟩:=st;simp only[An,A1,or_false]at hc;rcases hc with rfl|rfl|rfl|rfl|rfl
  ·exact⟨_,hz,λv q=>by cases q⟩
  ·exact⟨_,ha,λv q=>by cases q⟩
  ·exact⟨_,hb,λv q=>by cases q⟩
  ·exact⟨o1,e1,λv q=>by rw[d1]at q;cases q⟩
  ·exact⟨o2,e2,λv q=>by rw[d2]at q;cases q⟩
 keep:=λi h h' st k=>by
  obtain⟨hz,ha,⟨_,_,hb⟩,h1,h2⟩:=st;exact⟨k z (by simp) _ hz,k a (by simp) _ ha,⟨_,_,k b (by simp) _ hb⟩,h1.at λo e=>k p (by simp) o e,h2.at λo e=>k q (by simp) o e⟩
 item:=by
  intro X hP hw hK hc i pins s U H E I hf st hg;subst hP hw hK;obtain⟨xs,x,y,hq1,hq2,hx,hy⟩:=hg;have ho:∀c∈[z,a,b,p,q],∃o,s.heap.get? c=some o:=λc hc=>by
   obtain⟨hz,ha,⟨_,_,hb⟩,⟨o1,e1,_⟩,⟨o2,e2,_⟩⟩:=st;simp only[An,A1,or_false]at hc;rcases hc with rfl|rfl|rfl|rfl|rfl
   ·exact⟨_,hz⟩
   ·exact⟨_,ha⟩
   ·exact⟨_,hb⟩
   ·exact⟨_,e1⟩
   ·exact⟨_,e2⟩
  obtain⟨hz,ha,⟨_,_,hb⟩,hi1,hi2⟩:=st;obtain⟨its1,rv1,p1,_⟩:=I.list hq1;obtain⟨its2,rv2,p2,_⟩:=I.tuple hq2;obtain⟨m1,hm1,ru⟩:=rv1.get hx;obtain⟨m2,hm2,rv⟩:=rv2.get hy;refine LZ.go ap hz ha hb hi1 hi2 p1.isList p2 (x:=m1) (y:=m2) (by simpa using hm1) (by simpa using hm2) λh' z1 to1 j1 j2 pr sz kk=>?_;refine⟨_,rfl,wpAny_letOwnedTupleGo_zip (s:={s with heap:=h'}) z1 λh2 z2 sb=>?_⟩;have hf0:H s.heap.objs.size=none:=I.hok.fresh (Aj _);have I0:Inv X pins U (upd H s.heap.objs.size (.tup [x,y])) {s with heap:=s.heap.push {cls:=.type "tuple",data:=.seq #[m1,m2]},toks:=s.toks}:=
   I.laid (t':=s.toks) (λb o e=>Ad _ e) (Aj _) ⟨by show 2<=sizeLine;decide,[m1,m2],.cons ru (.cons rv .nil),⟨_,Ak _ rfl,rfl,_,rfl⟩⟩
  have neT:∀c∈[z,a,b,p,q],c≠s.heap.objs.size:=λc hc e=>by
   obtain⟨o,r⟩:=ho c hc;exact absurd (Am r) (by rw[e];exact Em _)
  have hf':∀c∈[z,a,b,p,q],Ws X pins (upd H s.heap.objs.size (.tup [x,y])) c:=λc hc=>by
   obtain⟨f0,f1,f2,f3,f4,f5⟩:=hf c hc;exact⟨by rw[Jac (neT c hc)];exact f0,f1,f2,f3,f4,f5⟩
  have I1:Inv X pins U (upd H s.heap.objs.size (.tup [x,y])) {s with heap:=h2,toks:=s.toks}:=by
   refine Inv.turnedL (s:={s with heap:=s.heap.push {cls:=.type "tuple",data:=.seq #[m1,m2]},toks:=s.toks}) (h':=h2) (t':=s.toks) (fp:=[z,a,b,p,q]) I0 (λc o hc e=>?_) hf'
   replace e:(s.heap.push {cls:=.type "tuple",data:=.seq #[m1,m2]}).get? c=some o:=e
   simp only[An,A1,or_false,not_or]at hc;obtain⟨b1,b2,b3,b4,b5⟩:=hc;rw[sb.2 c b1]
   by_cases hT:c=s.heap.objs.size
   ·subst hT;have:(s.heap.push {cls:=.type "tuple",data:=.seq #[m1,m2]}).get? s.heap.objs.size=some {cls:=.type "tuple",data:=.seq #[m1,m2]}:=Ak _ rfl;rw[this]at e;cases e;exact pr
   ·have e':s.heap.get? c=some o:=by
     rw[Rk _ _ _ hT]at e;exact e
    exact kk c o b1 b3 b4 b5 e'
  refine⟨.ref s.heap.objs.size,_,I1,rfl,⟨_,x,y,hf0,rfl,rfl,λzs hz'=>by rw[I.list_inj hz' hq1];exact hx,hy⟩,⟨z2,?_,⟨m1,m2,?_⟩,?_,?_⟩,λc hc=>(hf' c hc).1⟩
  ·show h2.get? a=_;rw[sb.2 a ap.TIz];exact kk a _ ap.TIz ap.TITO ap.TIi1 ap.TIi2 ha
  ·show h2.get? b=_;rw[sb.2 b ap.TOz];exact to1
  ·exact j1.at λo e=>(sb.2 p ap.i1z).trans e
  ·exact j2.at λo e=>(sb.2 q ap.i2z).trans e
 done:=by
  intro X hP hw hK hc i pins s U H E I hf st hg;subst hP hw hK;obtain⟨xs,hq1,hl⟩:=hg;obtain⟨hz,ha,⟨_,_,hb⟩,hi1,hi2⟩:=st;obtain⟨its1,rv1,p1,_⟩:=I.list hq1;have l1:=rv1.length;refine LZ.stop (I.ok.hd hc) ap hz ha hi1 p1.isList (by simp;lia) λh' kk=>⟨rfl,I.turnedL (t':=s.toks) (fp:=[z,a,b,p,q]) (λc o hc e=>?_) hf⟩
  simp only[An,A1,or_false,not_or]at hc;exact kk c o hc.1 hc.2.2.1 hc.2.2.2.1 hc.2.2.2.2 e
 self:=λ_ _ _ _ _ st h=>wpAny_pyIter_zip st.1 h
def Wa8(K:Af)(ta:TA):TI:=λU H R=>ta U H λvs H1=>∃u v xs ys,vs=[.ref u,.ref v]/\SqL K H1 u xs/\SqT K H1 v ys/\R (Izz K u v ys) H1
theorem boot_zip:C9 "zip"=some (.type "zip"):=by rfl
def Jks{n a b:Nat}(h1:a<n)(h2:b<n):Lv (n+4) (n+2) (n+3) n (n+1) a b:=by
 constructor<;>(intro e;replace e:@Eq Nat _ _:=e;lia)
theorem Js2{X:Cx}{a b:Expr}{ta:TA}{p pos:Pos}{elts:List Expr}{x1:Nat}{tp:Pos}(hg:Gl X "zip")(hm:X.mg "zip"=none)(ha:PA X [a,b] ta)(hs:Bs [a,b] X.env=[(false,eval a X.env),(false,eval b X.env)])(hs2:Bs [b] X.env=[(false,eval b X.env)]):
  PI X (.Tuple elts x1 tp) (.Call (.Name "zip" p) [a,b] [] pos) (Wa8 X.K ta):=by
 intro pins s U H R I h;refine Sw (Jcg I hg hm boot_zip (De (thn (ha pos pins s U H _ I h) λus s1 ⟨vs,H1,I1,r1,q1⟩=>?_) (by rw[hs,hs2]) (by rw[hs2];rfl)) (by decide) (by decide));obtain⟨u,v,xs,ys,e,hq1,hq2,q⟩:=q1;subst e;cases r1 with
 |cons r rr=>
  cases rr with
  |cons r' rr=>
   cases rr;cases r;cases r';obtain⟨its1,rv1,p1,_⟩:=I1.list hq1;obtain⟨its2,rv2,p2,_⟩:=I1.tuple hq2;have lt1:u<s1.heap.objs.size:=p1.lt;have lt2:v<s1.heap.objs.size:=by obtain⟨o,e,_⟩:=id p2;exact Am e
   refine LZ.new p1.isList p2 λh' z1 ti to j1 j2 sz kk=>?_;refine wpAny_pyIter_zip (s:={s1 with heap:=h'}) z1 ?_;have ap:Lv (s1.heap.objs.size+4) (s1.heap.objs.size+2) (s1.heap.objs.size+3) s1.heap.objs.size (s1.heap.objs.size+1) u v:=Jks lt1 lt2;refine⟨s1.heap.objs.size+4,_,_,_,H1,rfl,I1.kept (t':=s1.toks) kk,Jkx _ _ _ _ _ u v ys ap,⟨z1,ti,⟨_,_,to⟩,j1,j2⟩,λb hb=>?_,q⟩;have hb':s1.heap.objs.size<=b:=by
    simp only[An,A1,or_false]at hb;rcases hb with rfl|rfl|rfl|rfl|rfl
    ·exact Hl _ _
    ·exact Hl _ _
    ·exact Hl _ _
    ·exact Aj _
    ·exact Hl _ _
   exact I1.fpOk hb' (I1.hok.fresh hb')
open PySem PySem.Spec PyProof.Rows Rdc Rdu
def Up(ps:List Rdu.PK):Prop:=∀(i:Nat) (p q:Rdu.PK),ps[i]? =some p->ps[i+1]? =some q->ltP p q=true
def UpD(H:Hp)(a:Addr)(kvs:List (List Key×V))(ps:List Rdu.PK):Prop:=Rd H a (.dT kvs)/\kvs.map (·.1)=ps.map pK/\Up ps/\kvs.length<sizeLine
section
variable {X:Cx}
def Jht(hc:X.calm=true):Vy X (.builtin "sorted") (λxs H Q=>∃a kvs ps,xs=[.ref a]/\UpD H a kvs ps/\∀(p:Addr) (bs:List Addr),H p=none->bs.length=ps.length->(∀(i:Nat) (b:Addr) (q:Rdu.PK),bs[i]? =some b->ps[i]? =some q->H b=some (.tup ((pK q).map kV)))->Q (.ref p) (upd H p (.lst (bs.map V.ref)))):=by
 intro pins s U H xs us Q I r h;obtain⟨a,kvs,ps,rfl,⟨e,ek,up,hz⟩,q⟩:=h;obtain⟨u,rfl,ru⟩:=vals1 r;cases ru;exact Jmx (I.ok.hd hc) I e ek up hz λp bs s' hp hl hb I'=>⟨.ref p,_,I',rfl,q p bs hp hl hb⟩
def Jfr:Vy X (.type "dict") (λxs H Q=>∃a,xs=[.ref a]/\((∃kvs,Rd H a (.dK kvs)/\∀p,H p=none->Q (.ref p) (upd H p (.dK kvs)))\/∃kvs,Rd H a (.dT kvs)/\Apart X.prog X.w kvs/\∀p,H p=none->Q (.ref p) (upd H p (.dT kvs)))):=by
 intro pins s U H xs us Q I r h;obtain⟨a,rfl,q⟩:=h;obtain⟨u,rfl,ru⟩:=vals1 r;cases ru;rcases q with⟨kvs,e,q⟩|⟨kvs,e,ap,q⟩
 ·exact Jpp I e λp s' hp I'=>⟨.ref p,_,I',rfl,q p hp⟩
 ·exact Jt9 I e ap λp s' hp I'=>⟨.ref p,_,I',rfl,q p hp⟩
def Jm6:Vy X (.builtin "len") (λxs H Q=>∃a kvs,xs=[V.ref a]/\H a=some (.dK kvs)/\Q (.int kvs.length) H):=by
 intro pins s U H xs us Q I r h;obtain⟨a,kvs,rfl,ha,q⟩:=h;obtain⟨u,rfl,ru⟩:=vals1 r;cases ru;exact Jzx I (.inl ha) λt s' I'=>⟨.int kvs.length,H,I',⟨t,rfl⟩,q⟩
theorem boot_dict:C9 "dict"=some (.type "dict"):=by rfl
theorem boot_sorted:C9 "sorted"=some (.builtin "sorted"):=by rfl
def Wam(to:TE):TE:=λU H Q=>to U H λx H1=>∃a kvs ps,x=.ref a/\UpD H1 a kvs ps/\∀p,H1 p=none->Q (.ref p) (upd H1 p (.dT kvs))
def Jtb{ap cp:Pos}(hc:X.calm=true)(hu:X.A.units+8<C0)(g1:Gl X "dict")(m1:X.mg "dict"=none)(g2:Gl X "sorted")(m2:X.mg "sorted"=none)(ho:PE X o to)
  (hbase:attributeBase o "items" X.env (eval o X.env)=eval o X.env)(hline:(ap.endLine==cp.line)=true):PE X (.Call (.Name "dict" p1) [.Call (.Name "sorted" p2) [.Call (.Attribute o "items" ap) [] [] cp] [] pos2] [] pos1) (Wam to):=by
 intro pins s U H Q I h;refine Sw (Jcg I g1 m1 boot_dict (De ?_ rfl rfl) (by decide) (by decide));show wpAny _ _ (Ra ((false,eval (.Call (.Name "sorted" p2) [.Call (.Attribute o "items" ap) [] [] cp] [] pos2) X.env)::Fg pos1 (Bs [] X.env))) _ _ s;refine Ic (Sw (Jcg I g2 m2 boot_sorted (Gu ?_ rfl rfl) (by decide) (by decide)));show wpAny _ _ (Ra ((false,eval (.Call (.Attribute o "items" ap) [] [] cp) X.env)::Fg pos2 (Bs [] X.env))) _ _ s;refine Ic (Kg hbase hline (thn (ho pins s U H _ I h) λv s1 ⟨x,H1,I1,r1,q1⟩=>?_));obtain⟨a,kvs,ps,rfl,⟨e,ek,up,hz⟩,q⟩:=q1;cases r1;obtain⟨h1,h2,_⟩:=Jme I1 (.inr ⟨kvs,e⟩);refine⟨"dict","dict.items",E7,Nu,PySem.F.type_dict_items,h1,h2,Gy rfl (Kz ?_)⟩;refine thn (Jxz (I1.ok.hd hc) hu I1 e ek up hz λp s' hp I'=>(⟨.ref p,_,I',rfl,q p hp⟩:EP X pins U Q (.ref p) s')) λr s2 hr=>Ja (thn hr λl s3 hl=>Ja hl)
theorem Jul:C9 "len"=some (.builtin "len"):=by rfl
theorem Juk:C9 "set"=some (.type "set"):=by rfl
def dst(ps:List Rdu.PK):Nat:=(Sbl.dd (λi=>[(ps.getD i (0,0)).1,(ps.getD i (0,0)).2]) ps.length).length
def tLs(K:Af)(ta:TA):TE:=λU H Q=>ta U H λvs H1=>∃p bs ps,vs=[.ref p]/\SqL K H1 p (bs.map V.ref)/\Paired (λk b=>SqT K H1 b ((pK k).map kV)) ps bs/\ps.length<4/\Q (.int (dst ps)) H1
theorem Jlv{α β:Type}{R:α->β->Prop}{xs:List α}{ys:List β}(h:Paired R xs ys):∀{i:Nat} {y:β},ys[i]? =some y->∃x,xs[i]? =some x/\R x y:=by
 induction h with
 |nil=>intro i y e;simp at e
 |cons h _ ih=>
  intro i y e;cases i with
  |zero=>cases e;exact⟨_,rfl,h⟩
  |succ i=>simp only[Bu]at e ⊢;exact ih e
def Jlp{e:Expr}{ta:TA}{p1 p2 pos1 pos2:Pos}(hc:X.calm=true)(hu:X.A.units+9<C0)(g1:Gl X "len")(m1:X.mg "len"=none)(g2:Gl X "set")(m2:X.mg "set"=none)(he:PA X [e] ta)(hs:Bs [e] X.env=[(false,eval e X.env)]):
  PE X (.Call (.Name "len" p1) [.Call (.Name "set" p2) [e] [] pos2] [] pos1) (tLs X.K ta):=by
 intro pins s U H Q I h;refine Sw (Jcg I g1 m1 Jul (Gu ?_ rfl rfl) (by decide) (by decide));show wpAny _ _ (Ra ((false,eval (.Call (.Name "set" p2) [e] [] pos2) X.env)::Fg pos1 (Bs [] X.env))) _ _ s;refine Ic (Sw (Jcg I g2 m2 Juk (De (thn (he pos2 pins s U H _ I h) λus s1 ⟨vs,H1,I1,r1,q1⟩=>?_) (by rw[hs];rfl) rfl) (by decide) (by decide)));obtain⟨p,bs,ps,e1,hq,hp,hz,q⟩:=q1;subst e1;obtain⟨u,rfl,rx⟩:=vals1 r1;cases rx;obtain⟨its,rv,pl,_⟩:=I1.list hq;have hl:=rv.length;rw[Ah,<-Ce hp]at hl;have hsz:its.toArray.size=ps.length:=by rw[Ar,hl]
 refine Sbl.Jm3 (ks:=λi=>[(ps.getD i (0,0)).1,(ps.getD i (0,0)).2]) (I.ok.hd hc) hu pl.isList (λj v hv=>?_) (by rw[hsz];exact hz) λh' tk m=>?_
 ·have hv:its[j]? =some v:=by simpa using hv
  have hj:j<bs.length:=by rw[<-Ce hp,hl];exact(Ae.mp hv).1
  obtain⟨u,hu',ru⟩:=rv.get (show(bs.map V.ref)[j]? =some (.ref bs[j]) by rw[Ap,Ag hj];rfl);rw[hv]at hu';cases hu';cases ru;obtain⟨k,hk,sk⟩:=Jlv hp (Ag hj);refine⟨_,rfl,?_⟩;rw[Ep,hk];obtain⟨its2,r2,⟨o,g1,g2,n,g3⟩,_⟩:=I1.tuple sk;refine⟨o,its2.toArray,n,g1,g2,g3,?_⟩;cases r2 with
  |cons a1 r2=>
   cases r2 with
   |cons a2 r2=>
    cases r2;obtain⟨t,rfl⟩:=(show∃t,_=Dz k.1 t from a1)
    obtain⟨t2,rfl⟩:=(show∃t,_=Dz k.2 t from a2)
    exact .cons (by simp[intKind,I9]) (.cons (by simp[intKind,I9]) .nil)
 ·rw[hsz]at m;obtain⟨⟨kb,⟨o,es,ep,t,ho,hx,hd,he',T⟩,pm⟩,kp⟩:=m;have hn:es.size=dst ps:=by
   rw[<-Bz,he',Ah,<-Ah (f:=(·.1)),pm.length_eq];rfl
  refine Ja (PySem.call_len_set (s:={s1 with heap:=h',toks:=tk}) ho hx hd (T.fits he') (by rw[hn];have:dst ps<=ps.length:=Sbl.Jhm _ _;lia) ?_);exact⟨.int (dst ps),H1,I1.kept (t':=tk+1+1) λb o e=>kp b o (Am e) e,⟨tk+1,by rw[hn]⟩,q⟩
end
section
variable {P:Program} {w:World} {H H':Hp} {h h':Heap} {a:Addr} {o:HO}
theorem Vj.has(x:Vj P w H h a o):∃u,h.get? a=some u:=by
 cases o with
 |lst xs=>obtain⟨_,_,_,_,e⟩:=x;exact⟨_,e⟩
 |tup xs=>obtain⟨_,_,_,ob,e,_⟩:=x;exact⟨_,e⟩
 |dK kvs=>obtain⟨_,_,_,_,o,_,_,e,_⟩:=x;exact⟨_,e⟩
 |dT kvs=>obtain⟨_,_,_,_,o,_,_,e,_⟩:=x;exact⟨_,e⟩
 |set S n=>obtain⟨o,_,_,_,e,_⟩:=x;exact⟨_,e⟩
 |ins C dx fs=>obtain⟨_,_,_,e,_⟩:=x;exact⟨_,e⟩
 |own y=>obtain⟨_,e⟩:=x;exact⟨_,e⟩
 |xd fs=>obtain⟨_,⟨_,_,_,e,_⟩,_⟩:=x;exact⟨_,e⟩
 |rng lo hi=>obtain⟨_,_,_,e⟩:=x;exact⟨_,e⟩
 |frz ob u=>obtain⟨e,_⟩:=x;exact⟨_,e⟩
 |tbl ps=>exact⟨_,show h.get? a=some _ from x⟩
 |met f y=>exact⟨_,show h.get? a=some _ from x⟩
 |ext φ=>obtain⟨_,⟨_,e⟩,_⟩:=x;exact⟨_,e⟩
theorem HOk.has(x:HOk P w H h)(e:H a≠none):∃u,h.get? a=some u:=by
 cases q:H a with
 |none=>exact absurd q e
 |some o=>exact(x a o q).has
def HOk.some(x:HOk P w H h)(k:∀b u,H b≠none->h.get? b=some u->h'.get? b=some u):HOk P w H h':=λa o e=>
 (x a o e).stay (λb u hb q=>k b u (by
  rcases hb with rfl|hb
  ·rw[e];exact nofun
  ·rw[hb];exact nofun) q) (λ_ q=>q) λ_ _ q=>q
end
def Cov(B:Heap)(l:List Env)(H':Hp)(h0 h:Heap):Prop:=∀b o,h.get? b=some o->(H' b≠none\/∃u,h0.get? b=some u)->b∉frs l->B.get? b=some o
def CX1(P:Program)(w:World):CXT:=λouter H s E e s'=>
 ∃(ea C:Addr) (a0:Value) (B:Heap) (H':Hp),e=.ref ea/\s'.os=s.os/\Je s'.gens/\Un (frs outer) [] H H' s.heap s'.heap/\HOk P w H' s'.heap/\
  J2 B outer ea (.ref C) a0 s'.heap/\Cov B outer H' s.heap s'.heap/\H' ea=none/\s.heap.get? ea=none/\E (.ref C) none H'
section
variable {X:Cx} {pins:List (Addr×Obj)} {U:St} {H H':Hp} {s s':Shared} {E E':XK} {M:P2} {EE:Value->Shared->Prop} {e:Value}
structure Body(X:Cx):Prop where
 stk:X.stack=X.env::X.outer
 fr:X.env.frame=some X.env.locals
 ex:X.ex=[]
def Body.frs(b:Body X):L2.frs X.stack=X.env.locals::X.fs:=by
 rw[b.stk];unfold Cx.fs L2.frs;rw[Fc,b.fr]
structure Fly(X:Cx)(pins:List (Addr×Obj))(U:St)(H:Hp)(s:Shared)(H':Hp)(s':Shared)(ea C:Addr)(a0:Value)(B:Heap):Prop where
 pre:Inv X pins U H s
 os:s'.os=s.os
 bare:Je s'.gens
 un:Un (L2.frs X.stack) [] H H' s.heap s'.heap
 hok:HOk X.prog X.w H' s'.heap
 fl:J2 B X.stack ea (.ref C) a0 s'.heap
 cov:Cov B X.stack H' s.heap s'.heap
 hn:H' ea=none
 nw:s.heap.get? ea=none
def CX1.fly(I:Inv X pins U H s)(c:CX1 X.prog X.w X.stack H s E e s'):∃ea C a0 B H',e=.ref ea/\E (.ref C) none H'/\Fly X pins U H s H' s' ea C a0 B:=by
 obtain⟨ea,C,a0,B,H',e1,os,bare,un,hok,fl,cov,hn,nw,q⟩:=c;exact⟨ea,C,a0,B,H',e1,q,I,os,bare,un,hok,fl,cov,hn,nw⟩
variable {h':Heap} {ea C:Addr} {a0:Value} {B:Heap}
def Fly.inv(f:Fly X pins U H s H' s' ea C a0 B):Inv X pins U H' s':=f.pre.call' f.os f.un f.hok f.bare (λb z=>absurd z (by simp))
def Fly.core(f:Fly X pins U H s H' s' ea C a0 B)(st:B.StaysIn h')(up:s'.heap.UpToSlots h'):Un (L2.frs X.stack) [] H H' s.heap h'/\HOk X.prog X.w H' h'/\Cov B X.stack H' s.heap h':=by
 have nin:∀{c},H' c≠none->c∉L2.frs X.stack:=λ{c} hc z=>hc (f.inv.stkFree c z);have ke:∀c o,s'.heap.get? c=some o->(H' c≠none\/∃u,s.heap.get? c=some u)->c∉L2.frs X.stack->h'.get? c=some o:=λc o q hc hf=>st c o (f.cov c o q hc hf);have sl:∀c o,s'.heap.get? c=some o->c∈L2.frs X.stack->∃z,h'.get? c=some {o with slots:=z}:=λc o q hc=>by
  obtain⟨_,o',e1,nf⟩:=f.inv.stack.mem hc;rw[q]at e1;cases e1;exact up c o q nf
 refine⟨⟨λc o q n hc hx=>?_,λc o q n hc hx=>?_,f.un.free,λc o q hx=>?_,f.un.tups,f.un.frzs,f.un.tbls⟩,f.hok.some λc u hc q=>ke c u q (.inl hc) (nin hc),λc o q hc hf=>?_⟩
 ·exact ke c o (f.un.keep c o q n hc hx) (.inr ⟨_,q⟩) hc
 ·obtain⟨z,e1⟩:=f.un.slot c o q n hc hx;obtain⟨z2,e2⟩:=sl c _ e1 hc;exact⟨z2,e2⟩
 ·obtain⟨o',e1⟩:=f.un.there c o q hx
  by_cases hc:c∈L2.frs X.stack
  ·obtain⟨z,e2⟩:=sl c _ e1 hc;exact⟨_,e2⟩
  ·exact⟨o',ke c o' e1 (.inr ⟨_,q⟩) hc⟩
 ·have:∃o',s'.heap.get? c=some o':=by
   rcases hc with hc|⟨u,hu⟩
   ·exact f.hok.has hc
   ·exact f.un.there c u hu (by simp)
  obtain⟨o',e1⟩:=this;have b1:=f.cov c o' e1 hc hf;have:=st c o' b1;rw[q]at this;cases this;exact b1
def Fly.turn(f:Fly X pins U H s H' s' ea C a0 B)(fl:J2 B X.stack ea (.ref C) a0 h')(up:s'.heap.UpToSlots h'):Fly X pins U H s H' {s' with heap:=h'} ea C a0 B:=
 let⟨un,hok,cov⟩:=f.core fl.1 up
 ⟨f.pre,f.os,f.bare,un,hok,fl,cov,f.hn,f.nw⟩
def Jbh(I:Inv X pins U H s)(q:X.s₀.heap.get? b=some o):b≠X.env.locals:=Au (Be (Am q) I.ok.above)
def Jkc(b:Body X)(I:Inv X pins U H s)(hx:Kq s.heap h1 ea (.ref C) vs)(hE:E' (.ref C) none H):wpAny M X.A (leaving X.env (.ref ea)) (λ_ s''=>CX1 X.prog X.w X.outer X.H₀ X.s₀ E' (.ref ea) s'') EE {s with heap:=h1}:=by
 have hin:∀env∈X.stack,∀c,env.frame=some c->c∈L2.frs X.stack:=λenv he c hc=>Ln.mpr ⟨env,he,hc⟩;have ff:=PySem.W.funFrames_hide I.stack hin;rw[b.stk]at ff;refine wpAny_leaves_madeW (base:=Mp s.heap (L2.frs X.stack)) (h:=s.heap) (by rw[<-b.stk];exact I.ok.frames) b.fr (λc o q=>P0 _ q) (by rw[b.stk];exact ff) hx λh' t fl _ _ up=>?_;have B1:∀c o,s.heap.get? c=some o->c∉L2.frs X.stack->(Mp s.heap (L2.frs X.stack)).get? c=some o:=λc o q hc=>Pg _ q hc;have nin:∀{c},H c≠none->c∉L2.frs X.stack:=λ{c} hc z=>hc (I.stkFree c z);have sl:∀c o,s.heap.get? c=some o->c∈L2.frs X.stack->∃z,h'.get? c=some {o with slots:=z}:=λc o q hc=>by
  obtain⟨_,o',e1,nf⟩:=I.stack.mem hc;rw[q]at e1;cases e1;exact up c o (hx.keeps c o q) nf
 have hok:HOk X.prog X.w H h':=I.hok.some λc u hc q=>fl.1 c u (B1 c u q (nin hc));have un:Un (L2.frs X.stack) [] H H s.heap h':=by
  refine⟨λc o q n hc hx=>fl.1 c o (B1 c o q hc),λc o q n hc hx=>sl c o q hc,λc o q n hx=>n,λc o q hx=>?_,λ_ _ z=>z,λ_ _ _ z=>z,λc ps z=>⟨#[],by simpa using z⟩⟩
  by_cases hc:c∈L2.frs X.stack
  ·obtain⟨z,e2⟩:=sl c _ q hc;exact⟨_,e2⟩
  ·exact⟨o,fl.1 c o (B1 c o q hc)⟩
 have I':Inv X pins U H {s with heap:=h'}:=I.call' (s':={s with heap:=h'}) rfl un hok I.bare (λb z=>absurd z (by simp));have bs:=I'.base;rw[b.ex]at bs;have hn:H ea=none:=by
  cases q:H ea with
  |none=>rfl
  |some o=>
   obtain⟨u,hu⟩:=I.hok.has (a:=ea) (by rw[q];exact nofun);rw[hx.new]at hu;cases hu
 refine⟨ea,C,.ref t,_,H,rfl,I'.os,I'.bare,bs,hok,fl,λc o q hc hf=>?_,hn,?_,hE⟩
 ·have hf':c∉L2.frs X.stack:=by
   rw[b.frs];intro z;rcases An.mp z with z|z
   ·subst z;rcases hc with hc|⟨u,hu⟩
    ·exact hc I.free
    ·exact Jbh I hu rfl
   ·exact hf z
  have:∃o',s.heap.get? c=some o':=by
   rcases hc with hc|⟨u,hu⟩
   ·exact I.hok.has hc
   ·exact I.base.there c u hu (by rw[b.ex];simp)
  obtain⟨o',e1⟩:=this;have b1:=B1 c o' e1 hf';have:=fl.1 c o' b1;rw[q]at this;cases this;exact b1
 ·cases q:X.s₀.heap.get? ea with
  |none=>rfl
  |some o=>
   obtain⟨o',e1⟩:=I.base.there ea o q (by rw[b.ex];simp);rw[hx.new]at e1;cases e1
end
section
variable {X:Cx}
noncomputable abbrev bmVal:List Value:=[.type "ValueError",.type "Exception",.type "BaseException",.type "object"]
inductive XO (K:Af) (C:Addr):Prop
 |mk (bm N nm q bs hdct sn sub ab col dd k0 k1 k2 k3 k5) (_:K.lookup C=some (excClassObj nm q C N bs bm hdct sn sub ab col dd k0 k1 k2 k3 k5 "ValueError.__new__")) (_:PySem.W.nsOkIn K N=true) (_:Bt K N "__init__"=some none) (_:PySem.W.tailIn K bmVal bm=true):XO K C
def Jn7(he:PE X (.JoinedStr es jp) te)(hg:Gl X x)(hm:X.mg x=some (.ref C))(hq:XO X.K C)(hc:X.calm=true)(hd:(x==("__debug__":Str))=false):
  PS X (.Raise (some (.Call (.Name x np) [.JoinedStr es jp] [] cpos)) none pos) (λ_ U H=>te U H λv H1=>[v].length<=sizeLine/\∀pins s h1 ea us,Inv X pins U H1 s->Kq s.heap h1 ea (.ref C) us->X.xe (.ref ea) {s with heap:=h1}):=by
 intro pins s U H D I h;obtain⟨bm,N,nm,q,bs,hdct,sn,sub,ab,col,dd,k0,k1,k2,k3,k5,hC,ok,ni,tl⟩:=hq;have X0:=I.mod.kin;have T:=PySem.W.tail_of_in X0 tl;refine wpAny_Raise_call_subT (C:=C) (nm:=nm) (q:=q) (N:=N) (bs:=bs) (bm:=bm) (hdct:=hdct) (sn:=sn) (sub:=sub) (ab:=ab) (col:=col) (dd:=dd) (k0:=k0) (k1:=k1) (k2:=k2) (k3:=k3) (k5:=k5)
  M1 (T.hasType M1.hasBase) (I.ok.hd hc) rfl (PySem.W.nsMap_none_of_in X0 ok ni) (Jci I hg hm ⟨rfl,?_⟩ hd)
 refine P6 (thn ((Ja8 he Jc2 rfl) cpos pins s U H (λvs H1=>vs.length<=sizeLine/\∀pins s h1 ea us,Inv X pins U H1 s->Kq s.heap h1 ea (.ref C) us->X.xe (.ref ea) {s with heap:=h1}) I h) λus s1 ⟨vs,H1,I1,r,e1,e2⟩=>?_);exact⟨rfl,by rw[<-r.length];exact e1,I1.bk _ _ (X0 _ _ hC),(Heap.Ns.of_isNs (PySem.W.isNs_of_in X0 ok)).keeps I1.bk,T.keeps I1.bk,λh' e me=>e2 pins s1 h' e us I1 me⟩
end
def ExcAt(ea C:Addr)(h:Heap):Prop:=∃o,h.get? ea=some o/\o.cls=.ref C
def Jc8(M:P2)(h:Heap)(p:ExcAt ea C h):Nl M h (typeOf (.ref ea)) (.ref C):=by
 obtain⟨o,h1,h2⟩:=p;exact h2▸(PySem.W.Looks.ld h1).andThen .now
section
open PySem.Builtin PySem.Builtin.ObjectAttr PySem.Builtin.Getset_descriptor
structure Wx(K:Af)(C:Addr):Prop where
 ga:Cf K (.ref C) "__getattribute__"=some (some (.builtin "BaseException.__getattribute__"))
 gt:Cf K (.ref C) "__getattr__"=some none
 cl:Cf K (.ref C) "__class__"=some (some (.builtin "object.__class__"))
 gg:PySem.W.specialIn K (.builtin "object.__class__") "__get__"=some (some (.builtin "getset_descriptor.__get__"))
 tk:PySem.W.takesIn K (.builtin "object.__class__")=some true
 mo:R4 K C (.type "object")=some true
 mb:R4 K C (.type "BaseException")=some true
section
variable {prog:Program} {w:World} {A:Bi} {E:Value->Shared->Prop} {s:Shared} {K:Af} {ea C:Addr}
def Jmp(KX:K.In h)(x:Wx K C):Nl M h (find (.ref ea) (.ref C) "__class__") (.bind (.builtin "getset_descriptor.__get__") (.builtin "object.__class__")):=by
 have L1:=G7 (M:=M) KX x.cl;have L2:=PySem.W.looks_specialIn (M:=M) KX x.gg;have L3:=PySem.W.looks_takesIn (M:=M) KX x.tk;exact L1.andThen (L2.andThen ((show Nl M h (dataDescriptor? (some (.builtin "object.__class__")) (some (.builtin "getset_descriptor.__get__"))) (some (.builtin "getset_descriptor.__get__",.builtin "object.__class__"))from L3.andThen .now).andThen (PySem.W.Looks.tag .now)))
def Juh{R:K1->Shared->Prop}(KX:K.In s.heap)(p:ExcAt ea C s.heap)(x:Wx K C)(h:R (.ok (.ret (.ref C))) s):F9 (model prog w) A (.call (.builtin "getset_descriptor.__get__") ⟨[.builtin "object.__class__",.ref ea,tp],[]⟩) R s:=by
 obtain⟨hh,g,dr,t,os⟩:=s;have L0:=Jc8 (model prog w) hh p;have L1:=Pf (M:=model prog w) KX x.mo;refine Lu Om.plain PySem.W.KF.entry_gs (Om.check _ _ _ _ _ _ _ _ PySem.W.KF.type_class (PySem.W.KF.args_gs _ _ _) ?_);unfold Builtin.«getset_descriptor.__get__» descrGet;rw[PySem.W.dga_obj];refine Aa (Ab ?_);unfold descrGetter descrCheckInstance descrNameAndClass Kx;simp only[PySem.W.KF.owner_class]
 repeat lk
 refine⟨Ll _ (by decide+kernel),C8 PySem.W.KF.entry_class ?_⟩;unfold Builtin.«object.__class__» shownTypeOf
 repeat lk
 exact h
def Jpi{Q:Unit->Shared->Prop}(KX:K.In s.heap)(p:ExcAt ea C s.heap)(x:Wx K C)(h:Q () s):wpAny M A (checkBuiltinCall "BaseException.__getattribute__" ⟨[.ref ea,nameV],[]⟩) Q E s:=by
 obtain⟨hh,g,dr,t,os⟩:=s;have L0:=Jc8 M hh p;have L1:=Pf (M:=M) KX x.mb;have hk:builtinKind "BaseException.__getattribute__"=some .slot:=by decide+kernel
 have hsplit:splitId "BaseException.__getattribute__"=some ("BaseException","__getattribute__"):=by decide+kernel
 have ha:=PySem.F.args_bexc_ga (.ref ea) nameV;simp only[checkBuiltinCall,hk,hsplit];refine Aa ?_;unfold Kx
 repeat lk
 exact h
def Jms{Q:Option Value->Shared->Prop}(KX:K.In s.heap)(p:ExcAt ea C s.heap)(x:Wx K C)(h:Q (some (.ref C)) {s with toks:=s.toks+1}):wpAny (model prog w) A (getAttr? (.ref ea) "__class__") Q E s:=by
 obtain⟨hh,g,dr,t,os⟩:=s;have L0:=Jc8 (model prog w) hh p;have L1:=G7 (M:=model prog w) KX x.ga;have L2:=G7 (M:=model prog w) KX x.gt;unfold getAttr? getAttrBy? getAttrBy;refine Aa (wpAny_mkText (Aa (Du (Bc (Aa (L0.at (Aa (L1.at ?_))))))));have hx2:(Gi "BaseException.__getattribute__"==Gi "object.__getattribute__")=false:=by decide+kernel
 have bs:bindSpecial (.builtin "BaseException.__getattribute__") (.ref ea)=pure (.builtin "BaseException.__getattribute__",[.ref ea]):=by kernel_rfl
 show wpAny _ _ (if _ then _ else _) _ _ _;rw[hx2,Ik,if_neg Aw];unfold getAttrByItsOwn hookBefore callGetattribute boundAndCalled;rw[if_pos (show onTheHeap (Aq C)=true from rfl)];refine Aa (L2.at (Aa (Du (Bc ?_))));rw[T5,if_neg Aw,bs];refine Aa (Ab ?_);show wpAny _ _ (call (.builtin "BaseException.__getattribute__") [.ref ea,.str (Ac "__class__") t]) _ _ _;refine Kw (Lu PySem.F.attr_ValueError.ga.plain PySem.F.entry_bexc_ga (Jpi KX p x ?_));have L3:=Jmp (M:=model prog w) (ea:=ea) KX x;unfold Builtin.«object.__getattribute__»;refine Aa (Ab (Aa (Ab (Aa (L0.at (Aa (L3.at ?_)))))));show wpAny _ _ (holding [Gi "object.__class__"] (call (Gi "getset_descriptor.__get__") [Gi "object.__class__",Aq ea,Aq C])>>=ret) _ _ _;refine Aa (Bc (Kw (Juh KX p x ?_)));refine Ab ?_;refine PySem.W.handed_on rfl ?_;exact Ab h
def Jo0(x:Wx K C)(hc:(G5 K C).isSome=true):PySem.W.KitX K (.ref ea) (.ref C) (ExcAt ea C)where
 ty:=λM h _ p=>Jc8 M h p
 it:=λ_ _ X _=>by
  obtain⟨cdD,hcD⟩:=Bw.mp hc;unfold G5 at hcD;split at hcD
  ·rename_i c' d' cd' sl' ho;intro A' Q' E' s' k q;unfold isType loadHead;exact Aa (wpAny_loadPart (k _ _ (X _ _ ho)) (Ab q))
  ·cases hcD
 ne:=λh tp dd its n sl X htp=>by
  obtain⟨cdD,hcD⟩:=Bw.mp hc;refine Bool.eq_false_iff.mpr λq=>?_;have e:C=tp:=Value.ref.inj (beq_iff_eq.mp q);subst e;unfold G5 at hcD;split at hcD
  ·rename_i c' d' cd' sl' ho;have z:=(X _ _ ho).symm.trans htp;cases z
  ·cases hcD
 ca:=λX p h=>Jms X p x h
def Jo1{Q:Value->Shared->Prop}(x:Wx K C)(hc:(G5 K C).isSome=true)(KX:K.In s.heap)(p:ExcAt ea C s.heap)(e:Hw K (.ref C) c=some b)(h:∀tk,Q (.bool b) {s with toks:=tk}):
  wpAny (model prog w) A (call (.builtin "isinstance") [.ref ea,c]) Q E s:=
 Fi (Jo0 x hc) KX p e (λz=>nomatch z) h
end
end
section
variable {X:Cx} {pins pins':List (Addr×Obj)} {U:St} {H H':Hp} {s s':Shared} {D:Ends} {ea C:Addr} {a0:Value} {B:Heap} {oe:Obj}
noncomputable abbrev Cx.hand(X:Cx)(pins:List (Addr×Obj))(ea:Addr)(oe:Obj):Cx:={X with A:=X.A.mark (some (.ref ea)),calm:=false,pn:=(X.pn++pins)++[(ea,oe)],xe:=λ_ _=>False}
def Cx.Ok.hand(ok:X.Ok):(X.hand pins ea oe).Ok:=⟨ok.mod,ok.kind,ok.glob,ok.blt,ok.above,ok.inj,ok.has,ok.cab,λz=>(by cases z),ok.frames,ok.stk,ok.exf,ok.bs,ok.bsz,ok.noex,ok.exfs,ok.funs,ok.frf⟩
def Inv.hand(I:Inv X pins U H s)(h1:s.heap.get? ea=some oe)(h2:H ea=none)(h3:ea≠X.env.locals)(h4:ea∉X.fs)(h5:∀v,oe.data≠ .cell v):Inv (X.hand pins ea oe) [] U H s:=by
 refine⟨I.ok.hand,I.os,I.bare,I.base,I.loc,I.cell,I.free,I.freeC,λp hp=>?_,I.hok,I.len⟩;simp only[Ec,Bj,Av]at hp;rcases hp with hp|rfl
 ·exact I.pin p (Bj.mpr hp)
 ·exact⟨h1,h2,h3,h4,h5⟩
def Inv.unhand(I:Inv (X.hand pins ea oe) pins' U H s)(ok:X.Ok):Inv X pins U H s:=⟨ok,I.os,I.bare,I.base,I.loc,I.cell,I.free,I.freeC,λp hp=>I.pin p (Ci _ (Ci _ hp)),I.hok,I.len⟩
def Inv.gone{m:Str->Option Value}{h':Heap}(I:Inv X pins U H s)(hN:X.N.Nodup)(hi:X.N[i]? =some n)(hn:s.heap.Ns X.env.locals m)
  (hl:∀(i:Nat) (x:Str) (v:V),X.N[i]? =some x->U[i]? =some (some v)->Vis X.env.scope x->∃u,RelV v u/\Look X.env s.heap m x u)
  (ns:h'.Ns X.env.locals (λy=>if y=n then v else m y))(hs:Cp X.env.locals s.heap h')(t':Nat):Inv X pins (U.set i none) H {s with heap:=h',toks:=t'}:=by
 have hiσ:i<U.length:=by rw[I.len];exact(Ae.mp hi).1
 have hok:HOk X.prog X.w H h':=I.hok.some λc u hc q=>(hs.2 c λz=>hc (by rw[z];exact I.free)).trans q;refine⟨I.ok,I.os,I.bare,⟨λb o e n hb hx=>?_,λb o e n hb hx=>?_,I.base.free,λb o e hx=>?_,I.base.tups,I.base.frzs,I.base.tbls⟩,⟨_,ns,λj y v' e1 e2 e3=>?_⟩,λy c e=>?_,I.free,I.freeC,λp hp=>?_,hok,by simpa using I.len⟩
 ·exact(hs.2 b (Jbh I e)).trans (I.base.keep b o e n hb hx)
 ·obtain⟨sl,e1⟩:=I.base.slot b o e n hb hx;exact⟨sl,(hs.2 b (Jbh I e)).trans e1⟩
 ·obtain⟨o',e1⟩:=I.base.there b o e hx;exact⟨o',(hs.2 b (Jbh I e)).trans e1⟩
 ·by_cases hj:j=i
  ·subst hj;rw[B5 hiσ]at e2;cases e2
  ·rw[Ao (Df hj)]at e2;obtain⟨u',r',q⟩:=hl j y v' e1 e2 e3;refine⟨u',r',?_⟩;rcases q with⟨k,e⟩|⟨k,c,e,z⟩
   ·refine .inl ⟨k,?_⟩;have:y≠n:=λe=>hj (Jf4 hN e1 (e▸hi));simp[this,e]
   ·exact .inr ⟨k,c,e,z.sameBut hs (I.cne y c e)⟩
 ·obtain⟨w',z⟩:=I.cell y c e;exact⟨w',z.sameBut hs (I.cne y c e)⟩
 ·obtain⟨e,n,ne,nf,d⟩:=I.pin p hp;exact⟨(hs.2 p.1 ne).trans e,n,ne,nf,d⟩
noncomputable def Ends.hnd(D:Ends)(i:Nat):Ends:={nx:=λU' H2=>D.nx (U'.set i none) H2,rt:=λ_ _=>False}
theorem Fly.catch(b:Body X)(f:Fly X pins U H s H' s' ea C a0 B)(hN:X.N.Nodup)(hi:X.N[i]? =some n)(hl:X.env.scope.names.lookup n=some .local)
  (hg:Gl X x)(hm:X.mg x=some Cc)(hd:(x==("__debug__":Str))=false)(hx:Rf X.K (.ref C) Cc=some true)
  (hh:∀oe:Obj,oe.cls=.ref C->PSs (X.hand pins ea oe) (h0::hs) th)(q:th (D.hnd i) (U.set i (some (.ref ea))) H'):
  wpAny (model X.prog X.w) X.A (noteFrame (.ref ea) X.env) (λ_ s₂=>wpAny (model X.prog X.w) X.A (setFlight (.ref ea) none) (λ_ s₃=>wpAny (model X.prog X.w) X.A (handleBy (.ref ea) X.env [.ExceptHandler (some (.Name x np)) (some n) (h0::hs) hpos]) (SP X pins D) X.xe s₃) X.xe s₂) X.xe s':=by
 have fl:=f.fl;rw[b.stk]at fl;refine wpAny_looks_onW (by rw[<-b.stk];exact f.pre.ok.frames) b.fr fl λh4 held up4=>?_;refine wpAny_landsW (s:={s' with heap:=h4}) held λh5 fl5 up5=>?_;rw[<-b.stk]at fl5;have f5:Fly X pins U H s H' {s' with heap:=h5} ea C a0 B:=f.turn fl5 (up4.trans up5);have ne:ea∉L2.frs X.stack:=λz=>by
  obtain⟨_,o,e1,_⟩:=f.pre.stack.mem z;rw[f.nw]at e1;cases e1
 rw[b.frs]at ne;have hand:∀{U:St} {s'':Shared},Inv X pins U H' s''->J2 B X.stack ea (.ref C) a0 s''.heap->∃oe:Obj,oe.cls=.ref C/\Inv (X.hand pins ea oe) [] U H' s'':=λ{U s''} I fl=>by
  obtain⟨oe,vs,h1,h2,h3,_⟩:=fl.first;exact⟨oe,h2,I.hand h1 f.hn (λz=>ne (by rw[z];exact Bh)) (λz=>ne (Ax _ z)) (by rw[h3];exact nofun)⟩
 refine wpAny_handleBy_cons (codeAny_handlers_test ?_) (by intro z;cases z);obtain⟨oe5,c5,J5⟩:=hand f5.inv fl5;refine Jci J5 hg hm ?_ hd;refine(PySem.W.exm_one f5.inv.kIn (Jc8 _ _ (by obtain⟨oe,vs,h1,h2,h3,_⟩:=fl5.first;exact⟨oe,h1,h2⟩)) hx).here ?_;refine codeAny_handlers_suite_as ?_;refine wpAny_setFlight_noneW (s:={s' with heap:=h5}) fl5.1 fl5.2.2.1 (Heap.TracedW.at fl5.2.2.2) λh6 k1 k2 k3 k4=>?_;have fl6:J2 B X.stack ea (.ref C) a0 h6:=⟨k1,fl5.2.1,k2,k3⟩
 have f6:Fly X pins U H s H' {s' with heap:=h6} ea C a0 B:=f5.turn fl6 λb o hb hn=>⟨o.slots,k4 b o hb hn⟩
 obtain⟨oe,c6,J6⟩:=hand f6.inv fl6;refine Jd5 (X:=X.hand pins ea oe) J6 hN hi (.inl hl) (show RelV (.ref ea) (.ref ea)from rfl) (λs7 J7=>?_) (.inr hl);refine Bo ((hh oe c6) [] s7 _ _ (D.hnd i) J7 q) (λfl8 s8 h8=>?_) (λ_ _ z=>Co z);cases fl8 with
 |next=>
  obtain⟨U',H2,J8,q8⟩:=h8;have I8:Inv X pins U' H2 s8:=J8.unhand f.pre.ok;obtain⟨m,hn,hlk⟩:=id I8.loc;refine wpAny_nameGoes_keeps hl hn (by rw[I8.ok.kind];rfl) λh9 v ns same=>?_;exact⟨U'.set i none,H2,I8.gone hN hi hn hlk ns same _,q8⟩
 |brk=>obtain⟨_,_,_,z⟩:=h8;exact z.elim
 |cont=>obtain⟨_,_,_,z⟩:=h8;exact z.elim
 |ret u=>obtain⟨_,_,_,_,_,z⟩:=h8;exact z.elim
end
def Fun.okX{K:Af}{mg:Str->Option Value}{st:Stmt}{ps:List Str}(F:Fun K x qual st f fd)(S:FnScope N ps (defScope st))(len:∀vs H Q E,sp vs H Q E->vs.length=ps.length)
  (hbody:∀(cdv:Value) (A:Bi) (outer:List Env) (s:Shared) (H:Hp) (vs:List V) (Q:VK) (E:XK),Vq k (A.deeper (Lz qual (defScope st) s.heap.objs.size f cdv))->sp vs H Q E->
   ∃t,PSs (Xx CX P w K mg base N qual (defScope st) f cdv A outer s H E) (Vk st) t/\t {nx:=λ_ H'=>Q .non H',rt:=Q} (start N vs) H):FnOk P w K mg base CX (k+1) f fd ps sp:=by
 obtain⟨oc,od,kV,doc,pm,an,cdv,ct,osl,rfl,lk,hcd⟩:=F.ex;exact Jxp lk hcd S len λA outer s H vs Q E hr hsp=>hbody cdv A outer s H vs Q E hr hsp
def Jve{X:Cx}(h:∀LK:Value->Shared->Prop,(∀e s₁,wpAny (model X.prog X.w) X.A (noteFrame e X.env) (λ_ s₂=>wpAny (model X.prog X.w) X.A (setFlight e none) (λ_ s₃=>wpAny (model X.prog X.w) X.A (handleBy e X.env [hd]) (SP X pins D) X.xe s₃) X.xe s₂) X.xe s₁->LK e s₁)->wpAny (model X.prog X.w) X.A (execs body X.env) (SP X pins D) LK s):
  wpAny (model X.prog X.w) X.A (exec (.Try body [hd] [] [] pos) X.env) (SP X pins D) X.xe s:=
 wpAny_Try_except (Bo (h _ λ_ _ z=>z) (λf _ z=>by cases f<;>first|exact K5 z|exact z) λ_ _ z=>z)
theorem Jya{X:Cx}(F:FnOk X.prog X.w X.K X.mg X.base CX k f fd ps sp)(hr:Vq k X.A)(hg:Gl X x)(hm:X.mg x=some (.ref f))(hk:C7 X.K (.ref f)=true)(hb:Binds X.K fd ps [])
  (ha:PA X (e::es) t)(hdb:(x==("__debug__":Str))=false)(he:Bs (e::es) X.env=(false,eval e X.env)::Bs es X.env)(hpl:(Fg pos (Bs es X.env)).any (·.1)=false)
  (hx:∀H1 s1 e s',Inv X pins U H1 s1->CX X.stack H1 s1 E e s'->X.xe e s')(I:Inv X pins U H s)(h:t U H λvs H1=>sp vs H1 Q E):wpAny (model X.prog X.w) X.A (eval (.Call (.Name x p) (e::es) [] pos) X.env) (EP X pins U Q) X.xe s:=by
 refine F0 (Jci I hg hm ?_ hdb);refine K0 (h₀:=X.base) I.ok.mod.kin hk (thn (ha pos pins s U H _ I h) λus s1 ⟨vs,H1,I1,r,q⟩=>⟨I1.kIn,?_⟩) he hpl;have hl:(us++[]).length=ps.length:=by rw[Ec,<-r.length];exact F.len _ _ _ _ q
 have hb':=hb s1 us I1.kIn hl;rw[Ec]at hb';refine Kw (E9 (F.run X.A X.stack s1 H1 ⟨us,[]⟩ us vs Q E hr I1.env0 hb' r q) λr s' hq=>?_);cases r with
 |error e=>exact hx H1 s1 e s' I1 hq
 |ok fl=>
  cases fl with
  |ret u=>exact I1.after hq
  |next=>exact Co hq
  |brk=>exact Co hq
  |cont=>exact Co hq
def Jy8{X:Cx}{y:Str}(he:PE X e te)(hg:X.A.guards=some [])(hu:X.A.units+64<C0)(hy:y.length<=1000):
  PE X (.JoinedStr [.Constant (.str y) k cp,.FormattedValue e (-1) none fp] jp) (λU H Q=>te U H λv H1=>∃p i x,v=.ref p/\SqT X.K H1 p [.int i,.str x]/\(Gv [.int i,.str x]).showable=true/\(Gv [.int i,.str x]).shown.length<=1000/\∀z,Q (.str z) H1):=by
 intro pins s U H Q I h;refine wpAny_JoinedStr (thn (Jqq pins s U H (λv H1=>v=.str y/\H1=H) I ⟨rfl,rfl⟩) λu s1 ⟨v,H1,I1,r,e1,e2⟩=>?_);subst e1 e2;obtain⟨t,rfl⟩:=r;have hl:(Sn++y).length<=1000:=by rw[R5];exact Bl (Kb (E4 _)) hy
 refine⟨y,t,rfl,Bl hl (by decide),wpAny_FormattedValue_plain (thn (he pins s1 U H1 _ I1 h) λu s2 q_=>?_)⟩;obtain⟨v,H2,I2,r2,p,i,x,e3,sq,hi,hz,hq⟩:=q_;subst e3;cases(show u=.ref p from r2);obtain⟨its,vs,⟨o,ho,hc,n,hd⟩,_⟩:=I2.tuple sq;obtain⟨_,_,rfl,⟨t1,rfl⟩,⟨t2,rfl⟩⟩:=vals2 vs;have hf:(Sn++y++(Gv [.int i,.str x]).shown).length<=sizeLine:=by rw[R5];exact Bl (Nat.add_le_add hl hz) (by decide)
 exact formatField_of_reads (d:=.tuple [.int i,.str x]) (.tuple ho hc hd (.cons (.int i t1) (.cons (.str x t2) .nil))) hi (λz=>fx9 z) hg (Es (Gm (show 1+2<=64 by decide) _) hu) (λ_ _ z=>z)
  (λh' u tk hk=>⟨_,_,rfl,hf,hf,.str _,H2,(I2.kept hk).tok _,⟨_,rfl⟩,hq _⟩) (Bl hz (by decide))
end L2
set_option genSizeOf false
namespace Mi
open PySem L2
inductive D where
 |non|bl (b:Bool)|int (i:Int)|str (x:Str)|tup (ds:List D)|loc (l:Nat)|kl (ds:List D)|kd (kvs:List (Str×Int))
 deriving Inhabited
inductive Obj where
 |lst (ds:List D)|dct (kvs:List (Int×D))|dtu (kvs:List (Rdu.PK×D))|fz (kvs:List (Rdu.PK×D))|rg (kvs:List (RK×D))|ins (c:String) (fs:List (String×D))
 deriving Inhabited
abbrev Store:=List Obj
abbrev En:=List (Option D)
inductive Res (α:Type)where
 |ok (a:α) (S:Store)|err (c:String) (Z:En) (S:Store)|bad
noncomputable def Res.bind{α β:Type}(r:Res α)(f:α->Store->Res β):Res β:=match r with
 |.ok a S=>f a S
 |.err c Z S=>.err c Z S
 |.bad=>.bad
@[simp]theorem Res.bind_ok{α β:Type}(a:α)(S:Store)(f:α->Store->Res β):(Res.ok a S).bind f=f a S:=rfl
@[simp]theorem Res.bind_err{α β:Type}(c:String)(Z:En)(S:Store)(f:α->Store->Res β):(Res.err c Z S:Res α).bind f=.err c Z S:=rfl
@[simp]theorem Res.bind_bad{α β:Type}(f:α->Store->Res β):(Res.bad:Res α).bind f=.bad:=rfl
def Res.bnd{α β:Type}{r:Res α}{f:α->Store->Res β}{a:α}{x:Res β}(h:r=.ok a S)(e:f a S=x):r.bind f=x:=by rw[h];exact e
inductive Bnd {α β:Type} (r:Res α) (f:α->Store->Res β) (b:β) (S':Store):Prop
 |mk (a:α) (S:Store) (_:r=.ok a S) (_:f a S=.ok b S'):Bnd r f b S'
theorem Res.bind_eq_ok{α β:Type}{r:Res α}{f:α->Store->Res β}{b:β}{S':Store}(h:r.bind f=.ok b S'):Bnd r f b S':=by
 cases r with
 |ok a S=>exact⟨a,S,rfl,h⟩
 |err c Z S=>cases h
 |bad=>cases h
noncomputable def Line:Nat:=16777216
inductive Bop where|add|sub|mul|fdiv|mod|pow|shr deriving DecidableEq
inductive Cop where|eq|ne|lt|le|gt|ge|isc|isnc|inn|nin deriving DecidableEq
inductive Prim where|len|abs|min2|max2|int1|list1|tuple1|all1|sum1|sort1|dict1 deriving DecidableEq
inductive Meth where|append|pop0|get2|indexT|get1|pop1 deriving DecidableEq
noncomputable def V0:D->Option V
 |.non=>some .non
 |.bl b=>some (.bl b)
 |.int i=>some (.int i)
 |.str x=>some (.str x)
 |_=>none
noncomputable def seqAt(S:Store)(l:Nat):Option (List D):=match S[l]? with
 |some (.lst ds)=>some ds
 |_=>none
noncomputable def dctAt(S:Store)(l:Nat):Option (List (Int×D)):=match S[l]? with
 |some (.dct kvs)=>some kvs
 |_=>none
noncomputable def dVal{κ α:Type}[DecidableEq κ](kvs:List (κ×α))(k:κ):Option α:=(kvs.find? λp=>decide (p.1=k)).map (·.2)
noncomputable def dPut{κ α:Type}[DecidableEq κ](kvs:List (κ×α))(k:κ)(v:α):List (κ×α):=if kvs.any (λp=>decide (p.1=k))=true then kvs.map (λp=>if p.1=k then(p.1,v)else p)else kvs++[(k,v)]
noncomputable def dDrop{κ α:Type}[DecidableEq κ](kvs:List (κ×α))(k:κ):List (κ×α):=kvs.filter λp=>decide (p.1≠k)
noncomputable def kyD:D->Option Rdu.PK
 |.tup [.int a,.int b]=>some (a,b)
 |_=>none
noncomputable abbrev dK(p:Rdu.PK):D:=.tup [.int p.1,.int p.2]
noncomputable def scK:D->Option Key
 |.int i=>some (.inl i)
 |.str x=>some (.inr x)
 |_=>none
noncomputable def Xk{α β:Type}(f:α->Option β):List α->Option (List β)
 |[]=>some []
 |a::r=>match f a,Xk f r with
  |some b,some bs=>some (b::bs)
  |_,_=>none
def rwK:D->Option (List Key)
 |.tup ds=>Xk scK ds
 |_=>none
def lkK:D->Option RK
 |.tup ds=>Xk rwK ds
 |_=>none
def W0(S:Store)(l:Nat)(y:D):Option (Option D):=match S[l]? with
 |some (.dct kvs)=>(match y with|.int i=>some (dVal kvs i)|_=>none)
 |some (.dtu kvs)=>(kyD y).map (dVal kvs)
 |some (.fz kvs)=>(kyD y).map (dVal kvs)
 |_=>none
noncomputable def dtAt(S:Store)(l:Nat):Option (List (Rdu.PK×D)):=match S[l]? with
 |some (.dtu kvs)=>some kvs
 |_=>none
def upB:List Rdu.PK->Bool
 |[]=>true
 |p::r=>(match r with|[]=>true|q::_=>Rdu.ltP p q)&&upB r
noncomputable def Ye(ps:List Rdu.PK):Bool:=ps.all (λp=>decide (0<=p.1)&&decide (p.1<345)&&decide (0<=p.2)&&decide (p.2<3))&&decide ps.Nodup
noncomputable def Wv(S:Store)(l:Nat)(c:String):Option (List (String×D)):=match S[l]? with
 |some (.ins c' fs)=>if c'=c then some fs else none
 |_=>none
noncomputable def isDm:Meth->Bool
 |.get1=>true|.pop1=>true
 |_=>false
def rcv(p:Meth)(S:Store)(x:D):Bool:=match x with|.loc l=>if isDm p=true then(dctAt S l).isSome||(dtAt S l).isSome else(seqAt S l).isSome|_=> !isDm p
noncomputable def putD(f:String)(v:D):List (String×D)->List (String×D)
 |[]=>[(f,v)]
 |p::r=>if p.1=f then(p.1,v)::r else p::putD f v r
def X5(S:Store)(x:D)(c f:String):Option D:=match x with
 |.loc l=>match Wv S l c with|some fs=>fs.lookup f|none=>none
 |_=>none
def isRec(S:Store)(x:D)(c m:String):Bool:=match x with
 |.loc l=>match Wv S l c with|some fs=>(fs.lookup m).isNone|none=>false
 |_=>false
def Y6(S:Store)(x:D)(c f:String)(v:D):Option Store:=match x with
 |.loc l=>match Wv S l c with|some fs=>if fs.length<1000 then some (S.set l (.ins c (putD f v fs)))else none|none=>none
 |_=>none
def dIn(x y:D)(S:Store):Option Bool:=match y with
 |.loc l=>(W0 S l x).map Option.isSome
 |_=>none
noncomputable def eqL(f:D->D->Option Bool):List D->List D->Option Bool
 |[],[]=>some true
 |a::as,b::bs=>match f a b,eqL f as bs with
  |some x,some y=>some (x&&y)
  |_,_=>none
 |_,_=>some false
def eqD(S:Store):Nat->D->D->Option Bool
 |0,a,b=>match V0 a,V0 b with
  |some x,some y=>some (eqV x y)
  |_,_=>none
 |n+1,a,b=>match a,b with
  |.tup as,.tup bs=>if as.length=bs.length then eqL (eqD S n) as bs else(if(eqL (eqD S n) (as.take bs.length) (bs.take as.length)).isSome then some false else none)
  |.loc l,.loc k=>match seqAt S l,seqAt S k with
   |some as,some bs=>if as.length=bs.length then eqL (eqD S n) as bs else some false
   |_,_=>none
  |a,b=>match V0 a,V0 b with
   |some x,some y=>some (eqV x y)
   |_,_=>none
noncomputable def Deep:Nat:=12
def anyEq(S:Store)(n:Nat)(x:D):List D->Option Bool
 |[]=>some false
 |y::ys=>match eqD S n y x,anyEq S n x ys with
  |some a,some b=>some (a||b)
  |_,_=>none
noncomputable def small(i:Int):Bool:=decide (-(2^64)<i)&&decide (i<2^64)
noncomputable def mid(i:Int):Bool:=decide (i.natAbs<2^4096)
def bop(o:Bop)(x y:D)(S:Store):Res D:=match o,x,y with
 |.add,.int i,.int j=>.ok (.int (i+j)) S
 |.add,.tup a,.tup b=>if a.length+b.length<=Line then .ok (.tup (a++b)) S else .bad
 |.add,.loc l,.loc k=>match S[l]?,S[k]? with
  |some (.lst a),some (.lst b)=>if a.length+b.length<=Line then .ok (.loc S.length) (S++[.lst (a++b)])else .bad
  |_,_=>.bad
 |.shr,.int i,.int j=>if 0<=j then .ok (.int (i/2^j.toNat)) S else .bad
 |.sub,.int i,.int j=>.ok (.int (i-j)) S
 |.mul,.int i,.int j=>if small i||small j||(mid i&&mid j)then .ok (.int (i*j)) S else .bad
 |.fdiv,.int i,.int j=>if 0<j/\j.natAbs<2^4096 then .ok (.int (i/j)) S else .bad
 |.mod,.int i,.int j=>if 0<j then .ok (.int (i%j)) S else .bad
 |.pow,.int i,.int j=>if decide (0<=j)&&decide (j<=1000000)&&decide (i.natAbs<2^64)then .ok (.int (i^j.toNat)) S else .bad
 |.add,.kl a,.loc k=>match S[k]? with
  |some (.lst b)=>if a.length+b.length<=Line then .ok (.loc S.length) (S++[.lst (a++b)])else .bad
  |_=>.bad
 |_,_,_=>.bad
def Vp(S:Store):D->Option (List D)
 |.tup ds=>some ds
 |.loc l=>seqAt S l
 |.kl ds=>some ds
 |_=>none
def Xt(S:Store)(x y:D):Option Bool:=match x,y with
 |.loc l,.loc k=>match dtAt S l,dtAt S k with
  |some a,some b=>if a.length=b.length/\(a.all λp=>match dVal b p.1 with|some d=>eqD S Deep p.2 d==some true|none=>false)=true then some false else none
  |_,_=>none
 |_,_=>none
def cop(o:Cop)(x y:D)(S:Store):Option Bool:=match o with
 |.eq=>eqD S Deep x y
 |.ne=>match Xt S x y with|some b=>some b|none=>(eqD S Deep x y).map (!·)
 |.lt=>match x,y with|.int i,.int j=>some (decide (i<j))|_,_=>none
 |.le=>match x,y with|.int i,.int j=>some (decide (i<=j))|_,_=>none
 |.gt=>match x,y with|.int i,.int j=>some (decide (j<i))|_,_=>none
 |.ge=>match x,y with|.int i,.int j=>some (decide (j<=i))|_,_=>none
 |.isc=>match y with|.non=>some (match x with|.non=>true|_=>false)|_=>none
 |.isnc=>match y with|.non=>some (match x with|.non=>false|_=>true)|_=>none
 |.inn=>match Vp S y with|some ds=>anyEq S Deep x ds|none=>dIn x y S
 |.nin=>match Vp S y with|some ds=>(anyEq S Deep x ds).map (!·)|none=>(dIn x y S).map (!·)
def tru(S:Store):D->Option Bool
 |.non=>some false
 |.bl b=>some b
 |.int i=>some (i !=0)
 |.tup ds=>some (!ds.isEmpty)
 |.loc l=>match seqAt S l with|some ds=>some (!ds.isEmpty)|none=>none
 |.kl ds=>some (!ds.isEmpty)
 |_=>none
def idxD(x y:D)(S:Store):Option D:=match Vp S x with
 |some ds=>(match y with|.int i=>atI ds i|_=>none)
 |none=>match x with
  |.loc l=>match S[l]? with
   |some (.rg kvs)=>(lkK y).bind (dVal kvs)
   |_=>(W0 S l y).join
  |_=>none
def cutD(xs:List D)(lo hi:Option Int):List D:=(xs.drop (HT.sIx xs.length 0 lo)).take (HT.sIx xs.length xs.length hi-HT.sIx xs.length 0 lo)
def Wm(x:D)(lo hi:Option Int)(S:Store):Res D:=match x with
 |.tup ds=>.ok (.tup (cutD ds lo hi)) S
 |.loc l=>match seqAt S l with
  |some ds=>.ok (.loc S.length) (S++[.lst (cutD ds lo hi)])
  |none=>.bad
 |.kl ds=>.ok (.loc S.length) (S++[.lst (cutD ds lo hi)])
 |_=>.bad
noncomputable def tyD(S:Store):D->Option String
 |.non=>some "NoneType"
 |.bl _=>some "bool"
 |.int _=>some "int"
 |.str _=>some "str"
 |.tup _=>some "tuple"
 |.loc l=>match S[l]? with|some (.lst _)=>some "list"|_=>none
 |.kl _=>none
 |.kd _=>none
noncomputable def isiD(t c:String):Bool:=t==c||(t=="bool"&&c=="int")
noncomputable def allB:List D->Option Bool
 |[]=>some true
 |.bl b::r=>(allB r).map (b&&·)
 |_=>none
noncomputable def sumI:List D->Option Int
 |[]=>some 0
 |.int i::r=>(sumI r).map (i+·)
 |_=>none
def Vh(p:Prim)(ds:List D)(S:Store):Res D:=match p,ds with
 |.len,[x]=>match Vp S x with
  |some ds=>.ok (.int ds.length) S
  |none=>match x with|.loc l=>(match dctAt S l with|some kvs=>.ok (.int kvs.length) S|none=>.bad)|_=>.bad
 |.abs,[.int i]=>.ok (.int (if i<0 then -i else i)) S
 |.max2,[.int i,.int j]=>.ok (.int (if j>i then j else i)) S
 |.min2,[.int i,.int j]=>.ok (.int (if j<i then j else i)) S
 |.int1,[.int i]=>.ok (.int i) S
 |.int1,[.bl b]=>.ok (.int (if b then 1 else 0)) S
 |.list1,[x]=>match Vp S x with
  |some ds=>.ok (.loc S.length) (S++[.lst ds])
  |none=>match x with
   |.loc l=>match dctAt S l with|some kvs=>.ok (.loc S.length) (S++[.lst (kvs.map λp=>.int p.1)])|none=>.bad
   |_=>.bad
 |.tuple1,[x]=>match Vp S x with
  |some ds=>.ok (.tup ds) S
  |none=>.bad
 |.all1,[.loc l]=>match seqAt S l with|some ds=>(match allB ds with|some b=>.ok (.bl b) S|none=>.bad)|none=>.bad
 |.sum1,[.loc l]=>match seqAt S l with|some ds=>(match sumI ds with|some b=>.ok (.int b) S|none=>.bad)|none=>.bad
 |.sort1,[.loc l]=>(match dtAt S l with|some kvs=>if upB (kvs.map (·.1))=true/\kvs.length<Line then .ok (.loc S.length) (S++[.lst (kvs.map λp=>dK p.1)])else .bad|none=>.bad)
 |.dict1,[.loc l]=>(match S[l]? with
  |some (.dct kvs)=>.ok (.loc S.length) (S++[.dct kvs])
  |some (.dtu kvs)=>if Ye (kvs.map (·.1))=true then .ok (.loc S.length) (S++[.dtu kvs])else .bad
  |_=>.bad)
 |_,_=>.bad
def Yv(S:Store)(x:D)(ds:List D):Option Nat:=if ds.all (λy=>(eqD S 0 y x).isSome)then ds.findIdx? (λy=>eqD S 0 y x==some true)else none
def Vo(p:Meth)(o:D)(ds:List D)(S:Store):Res D:=match p,o,ds with
 |.append,.loc l,[y]=>match S[l]? with
  |some (.lst xs)=>if xs.length<Line then .ok .non (S.set l (.lst (xs++[y])))else .bad
  |_=>.bad
 |.pop0,.loc l,[]=>match S[l]? with
  |some (.lst xs)=>match xs[xs.length-1]? with
   |some y=>.ok y (S.set l (.lst xs.dropLast))
   |none=>.bad
  |_=>.bad
 |.indexT,.tup xs,[y]=>if xs.length<=Line then(match Yv S y xs with|some j=>.ok (.int j) S|none=>.bad)else .bad
 |.get2,.kd kvs,[.str x,y]=>.ok (match kvs.lookup x with|some n=>.int n|none=>y) S
 |.get1,.loc l,[y]=>(match W0 S l y with|some o=>.ok (o.getD .non) S|none=>.bad)
 |.pop1,.loc l,[y]=>(match dtAt S l,kyD y with
  |some kvs,some k=>(match dVal kvs k with|some d=>.ok d (S.set l (.dtu (dDrop kvs k)))|none=>.bad)
  |_,_=>.bad)
 |_,_,_=>.bad
set_option genInjectivity false in
set_option genCtorIdx false in
inductive M where
 |nul|cns (a b:M)
 |cst (d:D)|var (i:Nat)|glb (x:String)
 |bin (o:Bop) (a b:M)|neg (a:M)|bit (a:M)|nott (a:M)|bo (w:Bool) (as:M)
 |cmp (o:Cop) (a b:M)|cmp2 (o p:Cop) (a b c:M)|ife (c a b:M)
 |tup (as:M)|lst (as:M)|idx (a b:M)|sli (a lo hi:M)
 |call (f:String) (as:M)|prim (p:Prim) (as:M)|isi (a:M) (t:String)|meth (p:Meth) (o as:M)
 |comp (N:List String) (k:Nat) (keep:List Nat) (tg it cd el:M)
 |dcm (b:Bool) (N:List String) (keep:List Nat) (tg a el:M)
 |rng (a:M)|enm (a:M)|zp (a b:M)
 |dnil (k:Nat)|hld (a:M)|lsp (a:M)|fld (c f:String) (a:M)|mcl (c m f:String) (o as:M)|new (c f:String)
 |tvar (i:Nat)|ttup (ts:M)|tsub (a b:M)
 |asg (t e:M)|aug (i:Nat) (e:M)|ifs (c a b:M)|forr (t i b:M)|ret (e:M)|exp (e:M)|rse (c:String) (a:M)|sfd (c f:String) (o v:M)|tri (f g c:String) (n j:Nat) (ts:List (String×Bool)) (as:M)
noncomputable def wds:List Str:=["known","twice","gone","green","shut","less","much"]
def okW:D->Bool
 |.tup [.int i,.str x]=>(B3 20).any (λk=>(k:Int)==i)&&wds.contains x
 |_=>false
inductive Fl where
 |nx (Z:En)|rt (d:D)
structure Pr where
 call:String->List D->Store->Res D
 glob:String->Option D
 W:Nat
def We(o i v:D)(S:Store):Res Unit:=match o with
 |.loc l=>match S[l]? with
  |some (.lst xs)=>(match i with
   |.int k=>(match ixN xs.length k with
    |some j=>.ok () (S.set l (.lst (xs.set j v)))
    |none=>.bad)
   |_=>.bad)
  |some (.dct kvs)=>(match i with|.int k=>if kvs.length<Line then .ok () (S.set l (.dct (dPut kvs k v)))else .bad|_=>.bad)
  |some (.dtu kvs)=>(match kyD i with|some k=>if kvs.length<Line then .ok () (S.set l (.dtu (dPut kvs k v)))else .bad|none=>.bad)
  |some (.rg kvs)=>(match lkK i with|some k=>if kvs.length<Line then .ok () (S.set l (.rg (dPut kvs k v)))else .bad|none=>.bad)
  |_=>.bad
 |_=>.bad
inductive Kd where|lst|enm|zip
abbrev Wk:=Option (Nat×Kd)
noncomputable def sameAt(S:Store)(g:Wk)(n:Nat):Bool:=match g with
 |none=>true
 |some (l,_)=>match S[l]? with
  |some (.lst ds)=>ds.length==n
  |_=>false
def nth(S:Store)(g:Wk)(ds:List D)(i:Nat):Option D:=match g with
 |none=>ds[i]?
 |some (l,.enm)=>match seqAt S l with
  |some es=>(es[i]?).map λx=>.tup [.int i,x]
  |none=>none
 |some (l,.zip)=>match seqAt S l with
  |some es=>match es[i]?,ds[i]? with
   |some x,some y=>some (.tup [x,y])
   |_,_=>none
  |none=>none
 |some (l,.lst)=>match seqAt S l with
  |some es=>es[i]?
  |none=>none
noncomputable def enD:Nat->List D->List D
 |_,[]=>[]
 |i,x::r=>.tup [.int i,x]::enD (i+1) r
def forL(turn:D->En->Store->Res Fl)(g:Wk)(ds:List D):Nat->Nat->En->Store->Res Fl
 |0,i,Z,S=>if sameAt S g ds.length then .ok (.nx Z) S else .bad
 |f+1,i,Z,S=>if sameAt S g ds.length then(match nth S g ds i with
   |none=>.bad
   |some d=>(turn d Z S).bind λfl S1=>match fl with
    |.nx τ1=>forL turn g ds f (i+1) τ1 S1
    |.rt d=>.ok (.rt d) S1)else .bad
def V3(turn:D->En->Store->Res (Option D))(g:Wk)(ds:List D):Nat->Nat->En->Store->List D->Res (List D)
 |0,i,Z,S,acc=>if sameAt S g ds.length then .ok acc S else .bad
 |f+1,i,Z,S,acc=>if sameAt S g ds.length then(match nth S g ds i with
   |none=>.bad
   |some d=>(turn d Z S).bind λo S1=>match o with
    |some y=>if acc.length<Line then V3 turn g ds f (i+1) Z S1 (acc++[y])else .bad
    |none=>V3 turn g ds f (i+1) Z S1 acc)else .bad
noncomputable def Vl(k:Nat)(keep:List Nat)(Z:En):En:=Eo k none++keep.map λi=>(Z[i]?).join
def Yw(x:D)(S:Store):Res D:=match x with
 |.loc l=>(match dtAt S l with|some kvs=>if upB (kvs.map (·.1))=true/\kvs.length<Line then .ok (.loc S.length) (S++[.dtu kvs])else .bad|none=>.bad)
 |_=>.bad
def zpD(x y:D)(S:Store):Res (Wk×List D):=match x,y with
 |.loc l,.tup ds=>(match seqAt S l with|some es=>if es.length=ds.length then .ok (some (l,.zip),ds) S else .bad|none=>.bad)
 |_,_=>.bad
def Yp(x:D)(S:Store):Res D:=match x with
 |.loc l=>(match(seqAt S l).bind (Xk kyD)with|some ps=>if ps.length<4 then .ok (.int (dst ps)) S else .bad|none=>.bad)
 |_=>.bad
def dwI(b:Bool)(p:Rdu.PK×D):D:=if b then p.2 else dK p.1
def frD(x:D)(S:Store):Res (Nat×List (Rdu.PK×D)):=match x with
 |.loc l=>(match dtAt S l with|some kvs=>.ok (l,kvs) (S.set l (.fz kvs))|none=>.bad)
 |_=>.bad
noncomputable def thD(l:Nat)(ys:List D)(S:Store):Res D:=match S[l]? with
 |some (.fz kvs)=>.ok (.loc S.length) ((S++[Obj.lst ys]).set l (.dtu kvs))
 |_=>.bad
mutual
noncomputable def evE(C:Pr):M->En->Store->Res D
 |.cst d,_,S=>.ok d S
 |.var i,Z,S=>match Z[i]? with|some (some d)=>.ok d S|_=>.bad
 |.glb x,_,S=>match C.glob x with|some d=>.ok d S|none=>.bad
 |.bin o a b,Z,S=>(evE C a Z S).bind λx S1=>(evE C b Z S1).bind λy S2=>bop o x y S2
 |.neg a,Z,S=>(evE C a Z S).bind λx S1=>match x with|.int i=>.ok (.int (-i)) S1|_=>.bad
 |.bit a,Z,S=>(evE C a Z S).bind λx S1=>match x with|.int i=>.ok (.int (Bx i)) S1|_=>.bad
 |.nott a,Z,S=>(evE C a Z S).bind λx S1=>match tru S1 x with|some b=>.ok (.bl (!b)) S1|none=>.bad
 |.bo w as,Z,S=>evBV C w as Z S
 |.cmp o a b,Z,S=>(evE C a Z S).bind λx S1=>(evE C b Z S1).bind λy S2=>match cop o x y S2 with|some k=>.ok (.bl k) S2|none=>.bad
 |.cmp2 o p a b c,Z,S=>(evE C a Z S).bind λx S1=>(evE C b Z S1).bind λy S2=>match cop o x y S2 with
  |some true=>(evE C c Z S2).bind λz S3=>(match cop p y z S3 with|some k=>.ok (.bl k) S3|none=>.bad)
  |some false=>.ok (.bl false) S2
  |none=>.bad
 |.ife c a b,Z,S=>(evT C c Z S).bind λk S1=>if k then evE C a Z S1 else evE C b Z S1
 |.tup as,Z,S=>(evA C as Z S).bind λds S1=>if ds.length<=Line then .ok (.tup ds) S1 else .bad
 |.lst as,Z,S=>(evA C as Z S).bind λds S1=>if ds.length<=Line then .ok (.loc S1.length) (S1++[.lst ds])else .bad
 |.idx a b,Z,S=>(evE C a Z S).bind λx S1=>(evE C b Z S1).bind λy S2=>match idxD x y S2 with|some d=>.ok d S2|none=>.bad
 |.sli a lo hi,Z,S=>(evE C a Z S).bind λx S1=>(evO C lo Z S1).bind λl S2=>(evO C hi Z S2).bind λh S3=>Wm x l h S3
 |.call f as,Z,S=>(evA C as Z S).bind λds S1=>C.call f ds S1
 |.prim p as,Z,S=>(evA C as Z S).bind λds S1=>Vh p ds S1
 |.isi a t,Z,S=>(evE C a Z S).bind λx S1=>match tyD S1 x with|some y=>.ok (.bl (isiD y t)) S1|none=>.bad
 |.meth p o as,Z,S=>(evE C o Z S).bind λx S1=>if rcv p S1 x then(evA C as Z S1).bind λds S2=>Vo p x ds S2 else .bad
 |.comp N k keep tg it cd el,Z,S=>(evI C it Z S).bind λw S1=>
   (V3 (λd τ1 S2=>(evG C tg d τ1 S2).bind λτ2 S3=>(evC C cd τ2 S3).bind λb S4=>if b then(evE C el τ2 S4).bind λy S5=>.ok (some y) S5 else .ok none S4) w.1 w.2 w.2.length 0 (Vl k keep Z) S1 []).bind
    λys S6=>.ok (.loc S6.length) (S6++[.lst ys])
 |.dcm b N keep tg a el,Z,S=>(evE C a Z S).bind λx S1=>(frD x S1).bind λw S2=>
   (V3 (λd τ1 S2=>(evG C tg d τ1 S2).bind λτ2 S3=>(evE C el τ2 S3).bind λy S5=>.ok (some y) S5) none (w.2.map (dwI b)) (w.2.map (dwI b)).length 0 (Vl 1 keep Z) S2 []).bind (thD w.1)
 |.dnil k,_,S=>.ok (.loc S.length) (S++[match k with|0=>.dct []|1=>.dtu []|_=>.rg []])
 |.hld a,Z,S=>(evE C a Z S).bind λx S1=>Yw x S1
 |.lsp a,Z,S=>(evE C a Z S).bind λx S1=>Yp x S1
 |.fld c f a,Z,S=>(evE C a Z S).bind λx S1=>match X5 S1 x c f with|some d=>.ok d S1|none=>.bad
 |.mcl c m f o as,Z,S=>(evE C o Z S).bind λx S1=>if isRec S1 x c m then(evA C as Z S1).bind λds S2=>C.call f (x::ds) S2 else .bad
 |.new c f,_,S=>(C.call f [.loc S.length] (S++[.ins c []])).bind λd S1=>match d with|.non=>.ok (.loc S.length) S1|_=>.bad
 |_,_,_=>.bad
noncomputable def evT(C:Pr):M->En->Store->Res Bool
 |.nott a,Z,S=>(evT C a Z S).bind λb S1=>.ok (!b) S1
 |.bo w as,Z,S=>evBT C w as Z S
 |.cmp o a b,Z,S=>(evE C a Z S).bind λx S1=>(evE C b Z S1).bind λy S2=>match cop o x y S2 with|some k=>.ok k S2|none=>.bad
 |.cmp2 o p a b c,Z,S=>(evE C a Z S).bind λx S1=>(evE C b Z S1).bind λy S2=>match cop o x y S2 with
  |some true=>(evE C c Z S2).bind λz S3=>(match cop p y z S3 with|some k=>.ok k S3|none=>.bad)
  |some false=>.ok false S2
  |none=>.bad
 |.var i,Z,S=>match Z[i]? with|some (some d)=>(match tru S d with|some b=>.ok b S|none=>.bad)|_=>.bad
 |.idx a b,Z,S=>(evE C a Z S).bind λx S1=>(evE C b Z S1).bind λy S2=>match idxD x y S2 with|some d=>(match tru S2 d with|some b=>.ok b S2|none=>.bad)|none=>.bad
 |.call f as,Z,S=>(evA C as Z S).bind λds S1=>(C.call f ds S1).bind λd S2=>match tru S2 d with|some b=>.ok b S2|none=>.bad
 |.prim p as,Z,S=>(evA C as Z S).bind λds S1=>(Vh p ds S1).bind λd S2=>match tru S2 d with|some b=>.ok b S2|none=>.bad
 |.isi a t,Z,S=>(evE C a Z S).bind λx S1=>match tyD S1 x with|some y=>.ok (isiD y t) S1|none=>.bad
 |.mcl c m f o as,Z,S=>(evE C o Z S).bind λx S1=>if isRec S1 x c m then(evA C as Z S1).bind λds S2=>(C.call f (x::ds) S2).bind λd S3=>match tru S3 d with|some b=>.ok b S3|none=>.bad else .bad
 |_,_,_=>.bad
noncomputable def evBV(C:Pr)(w:Bool):M->En->Store->Res D
 |.cns a .nul,Z,S=>evE C a Z S
 |.cns a r,Z,S=>(evE C a Z S).bind λx S1=>match x with|.bl c=>if c=w then evBV C w r Z S1 else .ok (.bl (!w)) S1|_=>.bad
 |_,_,_=>.bad
noncomputable def evBT(C:Pr)(w:Bool):M->En->Store->Res Bool
 |.cns a .nul,Z,S=>evT C a Z S
 |.cns a r,Z,S=>(evT C a Z S).bind λc S1=>if c=w then evBT C w r Z S1 else .ok (!w) S1
 |_,_,_=>.bad
noncomputable def evC(C:Pr):M->En->Store->Res Bool
 |.nul,_,S=>.ok true S
 |.cns c .nul,Z,S=>evT C c Z S
 |_,_,_=>.bad
noncomputable def evA(C:Pr):M->En->Store->Res (List D)
 |.nul,_,S=>.ok [] S
 |.cns a b,Z,S=>(evE C a Z S).bind λx S1=>(evA C b Z S1).bind λxs S2=>.ok (x::xs) S2
 |_,_,_=>.bad
noncomputable def evO(C:Pr):M->En->Store->Res (Option Int)
 |.nul,_,S=>.ok none S
 |.cns a .nul,Z,S=>(evE C a Z S).bind λx S1=>match x with|.int i=>.ok (some i) S1|_=>.bad
 |_,_,_=>.bad
noncomputable def evI(C:Pr):M->En->Store->Res (Wk×List D)
 |.rng a,Z,S=>(evE C a Z S).bind λx S1=>match x with
  |.int j=>if decide (-(2^62)<=j)&&decide (j<2^62)then .ok (none,(B3 j.toNat).map λ(i:Nat)=>.int i) S1 else .bad
  |_=>.bad
 |.cns a .nul,Z,S=>(evE C a Z S).bind λx S1=>match x with
  |.tup ds=>.ok (none,ds) S1
  |.kl ds=>.ok (none,ds) S1
  |.loc l=>(match seqAt S1 l with|some ds=>.ok (some (l,.lst),ds) S1|none=>.bad)
  |_=>.bad
 |.enm a,Z,S=>(evE C a Z S).bind λx S1=>match x with
  |.loc l=>(match seqAt S1 l with|some ds=>.ok (some (l,.enm),ds) S1|none=>.bad)
  |.tup ds=>.ok (none,enD 0 ds) S1
  |_=>.bad
 |.zp a b,Z,S=>(evE C a Z S).bind λx S1=>(evE C b Z S1).bind λy S2=>zpD x y S2
 |_,_,_=>.bad
noncomputable def evG(C:Pr):M->D->En->Store->Res En
 |.tvar i,d,Z,S=>if i<Z.length then .ok (Z.set i (some d)) S else .bad
 |.ttup ts,d,Z,S=>match d with|.tup ds=>evGs C ts ds Z S|_=>.bad
 |.tsub a b,d,Z,S=>(evE C a Z S).bind λo S1=>(evE C b Z S1).bind λi S2=>(We o i d S2).bind λ_ S3=>.ok Z S3
 |_,_,_,_=>.bad
noncomputable def evGs(C:Pr):M->List D->En->Store->Res En
 |.nul,ds,Z,S=>match ds with|[]=>.ok Z S|_=>.bad
 |.cns t ts,ds,Z,S=>match ds with|d::r=>(evG C t d Z S).bind λτ1 S1=>evGs C ts r τ1 S1|[]=>.bad
 |_,_,_,_=>.bad
noncomputable def evS(C:Pr):M->En->Store->Res Fl
 |.asg t e,Z,S=>(evE C e Z S).bind λd S1=>(evG C t d Z S1).bind λτ1 S2=>.ok (.nx τ1) S2
 |.aug i e,Z,S=>(match Z[i]? with
  |some (some (.int x))=>(evE C e Z S).bind λy S1=>(match y with|.int z=>.ok (.nx (Z.set i (some (.int (x+z))))) S1|_=>.bad)
  |_=>.bad)
 |.ifs c a b,Z,S=>(evT C c Z S).bind λk S1=>if k then evB C a Z S1 else evB C b Z S1
 |.forr t i b,Z,S=>(evI C i Z S).bind λw S1=>forL (λd τ1 S2=>(evG C t d τ1 S2).bind λτ2 S3=>evB C b τ2 S3) w.1 w.2 w.2.length 0 Z S1
 |.ret e,Z,S=>(evE C e Z S).bind λd S1=>.ok (.rt d) S1
 |.exp e,Z,S=>(evE C e Z S).bind λ_ S1=>.ok (.nx Z) S1
 |.sfd c f o v,Z,S=>(evE C v Z S).bind λy S1=>(evE C o Z S1).bind λx S2=>match Y6 S2 x c f y with|some S3=>.ok (.nx Z) S3|none=>.bad
 |.tri f g _ n j ts as,Z,S=>(evA C as Z S).bind λds S1=>(C.call g ds S1).bind λd S2=>match d with
  |.non=>(C.call f ds S1).bind λ_ S3=>.ok (.nx Z) S3
  |d=>if okW d&&decide (n<Z.length)&&decide (j<Z.length)&&n !=j&&decide (ts.length<Line)then .ok (.nx ((Z.set n none).set j (some (.loc S2.length)))) (S2++[.lst (ts.map λt=>.bl t.2)])else .bad
 |_,_,_=>.bad
noncomputable def evB(C:Pr):M->En->Store->Res Fl
 |.nul,Z,S=>.ok (.nx Z) S
 |.cns s r,Z,S=>(evS C s Z S).bind λfl S1=>match fl with
  |.nx τ1=>evB C r τ1 S1
  |.rt d=>.ok (.rt d) S1
 |_,_,_=>.bad
end
structure Fn where
 ps:List String
 N:List Nat
 body:M
noncomputable abbrev Tb:=String->Option Fn
def callN(T:Tb)(G:String->Option D)(W:Nat):Nat->String->List D->Store->Res D
 |0,_,_,_=>.bad
 |n+1,f,ds,S=>match T f with
  |none=>.bad
  |some F=>if ds.length=F.ps.length then(evB ⟨callN T G W n,G,W⟩ F.body (ds.map some++Eo (F.N.length-ds.length) none) S).bind λfl S1=>match fl with
    |.rt d=>.ok d S1
    |.nx _=>.ok .non S1
   else .bad
def Jab{α:Type}{d:α}{S:Store}:¬(Res.bad:Res α)=.ok d S:=nofun
theorem Jqg:evE C (.var i) (Z) (S)=(match Z[i]? with|some (some d)=>.ok d S|_=>.bad):=rfl
theorem Jli:evE C (.glb x) (u1') (S)=(match C.glob x with|some d=>.ok d S|none=>.bad):=rfl
theorem Jsl:evE C (.comp N k keep tg it cd el) (Z) (S)=((evI C it Z S).bind λw S1=>
   (V3 (λd τ1 S2=>(evG C tg d τ1 S2).bind λτ2 S3=>(evC C cd τ2 S3).bind λb S4=>if b then(evE C el τ2 S4).bind λy S5=>.ok (some y) S5 else .ok none S4) w.1 w.2 w.2.length 0 (Vl k keep Z) S1 []).bind
    λys S6=>.ok (.loc S6.length) (S6++[.lst ys])):=rfl
theorem Jvt:evT C (.var i) (Z) (S)=(match Z[i]? with|some (some d)=>(match tru S d with|some b=>.ok b S|none=>.bad)|_=>.bad):=rfl
theorem Jje:evG C (.tvar i) (d) (Z) (S)=(if i<Z.length then .ok (Z.set i (some d)) S else .bad):=rfl
theorem Jqf:evG C (.ttup ts) (d) (Z) (S)=(match d with|.tup ds=>evGs C ts ds Z S|_=>.bad):=rfl
theorem Jil:evGs C (.nul) (ds) (Z) (S)=(match ds with|[]=>.ok Z S|_=>.bad):=rfl
theorem Jik:evGs C (.cns t ts) (ds) (Z) (S)=(match ds with|d::r=>(evG C t d Z S).bind λτ1 S1=>evGs C ts r τ1 S1|[]=>.bad):=rfl
theorem Jqe:evS C (.asg t e) (Z) (S)=((evE C e Z S).bind λd S1=>(evG C t d Z S1).bind λτ1 S2=>.ok (.nx τ1) S2):=rfl
theorem Jn2:evS C (.aug i e) (Z) (S)=(match Z[i]? with
  |some (some (.int x))=>(evE C e Z S).bind λy S1=>(match y with|.int z=>.ok (.nx (Z.set i (some (.int (x+z))))) S1|_=>.bad)
  |_=>.bad):=rfl
end Mi
namespace Mi
open PySem L2
def Vx(K:Af)(a:Addr)(kvs:List (Str×Int)):Prop:=K7 (Ts λb=>K.lookup b) (λb=>K.lookup b) a (kvs.map λp=>(p.1,Ew (.int p.2)))=true
def SqF(K:Af)(H:Hp)(a:Addr)(xs:List V):Prop:=
 (∃o,H a=some (.frz o (.lst xs)))\/
  ∃(o:D9) (its:Array Value) (n:Nat),K.lookup a=some o/\o.cls=.type "list"/\o.dict=none/\o.data=.seq its n/\its.size<=sizeLine/\Vals xs its.toList
def SqF.sq(h:SqF K H a xs):SqL K H a xs:=h.elim (λz=>.inl (.inr z)) .inr
mutual
def RelD(K:Af)(ρ:List Addr)(H:Hp):D->V->Prop
 |.non,v=>v=.non
 |.bl b,v=>v=.bl b
 |.int i,v=>v=.int i
 |.str x,v=>v=.str x
 |.tup ds,v=>∃a xs,v=.ref a/\SqT K H a xs/\RelDs K ρ H ds xs
 |.loc l,v=>∃a,v=.ref a/\ρ[l]? =some a
 |.kl ds,v=>∃a xs,v=.ref a/\SqF K H a xs/\RelDs K ρ H ds xs
 |.kd kvs,v=>∃a,v=.ref a/\Vx K a kvs
def RelDs(K:Af)(ρ:List Addr)(H:Hp):List D->List V->Prop
 |[],xs=>xs=[]
 |d::ds,xs=>∃v vs,xs=v::vs/\RelD K ρ H d v/\RelDs K ρ H ds vs
end
noncomputable def RelKv{κ κ':Type}(e:κ->κ')(K:Af)(ρ:List Addr)(H:Hp):List (κ×D)->List (κ'×V)->Prop
 |[],ws=>ws=[]
 |p::r,ws=>∃v us,ws=(e p.1,v)::us/\RelD K ρ H p.2 v/\RelKv e K ρ H r us
noncomputable def Vn(K:Af)(ρ:List Addr)(H:Hp):List (RK×D)->List (RK×Addr×Value)->Prop
 |[],xs=>xs=[]
 |p::r,xs=>∃a u v ys,xs=(p.1,a,u)::ys/\Wo K H p.1 a/\RelV v u/\RelD K ρ H p.2 v/\Vn K ρ H r ys
theorem Jji:∀{a b:List Char},a.map N3=b.map N3->a=b
 |[],[],_=>rfl
 |[],y::ys,h=>by simp at h
 |x::xs,[],h=>by simp at h
 |x::xs,y::ys,h=>by
  simp only[Ay,Qk]at h;rw[Jji h.2,Char.toNat_inj.mp h.1]
def Jip(h:Ac a=Ac b):a=b:=by
 rw[P1,P1]at h;injection h with h;have h:a.toList.map N3=b.toList.map N3:=by simpa using h
 refine String.toList_inj.mp ?_;exact Jji h
noncomputable def Wh(K:Af)(ρ:List Addr)(H:Hp):List (String×D)->List (Str×V)->Prop
 |[],ws=>ws=[]
 |p::r,ws=>∃v us,ws=(Ac p.1,v)::us/\RelD K ρ H p.2 v/\Wh K ρ H r us
def RelO(K:Af)(ρ:List Addr)(H:Hp)(a:Addr):Obj->Prop
 |.lst ds=>∃xs,H a=some (.lst xs)/\RelDs K ρ H ds xs
 |.dct kvs=>∃ws,H a=some (.dK ws)/\RelKv Gf K ρ H kvs ws
 |.dtu kvs=>∃ws,H a=some (.dT ws)/\RelKv pK K ρ H kvs ws
 |.fz kvs=>∃ws o,H a=some (.frz o (.dT ws))/\RelKv pK K ρ H kvs ws
 |.rg kvs=>∃xs,H a=some (Rg a xs)/\Vn K ρ H kvs xs
 |.ins c fs=>∃C dx ws,Bt K A7 (Ac c)=some (some (.ref C))/\H a=some (.ins C dx ws)/\Wh K ρ H fs ws
structure RelS(K:Af)(ρ:List Addr)(S:Store)(H:Hp):Prop where
 len:ρ.length=S.length
 nd:ρ.Nodup
 ob:∀(l:Nat) (a:Addr) (o:Obj),ρ[l]? =some a->S[l]? =some o->RelO K ρ H a o
structure Fut(K:Af)(ρ:List Addr)(H:Hp)(ρ':List Addr)(H':Hp):Prop where
 pre:∃t,ρ'=ρ++t
 tup:∀a xs,SqT K H a xs->SqT K H' a xs
 frz:∀a o u,H a=some (.frz o u)->H' a=some (.frz o u)
variable {K:Af} {ρ ρ' ρ1:List Addr} {H H' H1:Hp} {S S':Store}
def Fut.refl:Fut K ρ H ρ H:=⟨⟨[],by simp⟩,λ_ _ h=>h,λ_ _ _ h=>h⟩
def Fut.trans(a:Fut K ρ H ρ1 H1)(b:Fut K ρ1 H1 ρ' H'):Fut K ρ H ρ' H':=by
 obtain⟨t,rfl⟩:=a.pre;obtain⟨u,e⟩:=b.pre;exact⟨⟨t++u,by rw[e,Mg]⟩,λ_ _ h=>b.tup _ _ (a.tup _ _ h),λ_ _ _ h=>b.frz _ _ _ (a.frz _ _ _ h)⟩
structure Fu(K:Af)(ρ:List Addr)(H:Hp)(ρ':List Addr)(H':Hp):Prop where
 pre:∃t,ρ'=ρ++t
 tup:∀a xs,SqT K H a xs->SqT K H' a xs
 frz:∀a o xs,H a=some (.frz o (.lst xs))->H' a=some (.frz o (.lst xs))
def Fut.fu(f:Fut K ρ H ρ' H'):Fu K ρ H ρ' H':=⟨f.pre,f.tup,λa o _=>f.frz a o _⟩
def Fu.sqF(f:Fu K ρ H ρ' H')(h:SqF K H a xs):SqF K H' a xs:=h.elim (λ⟨o,z⟩=>.inl ⟨o,f.frz _ _ _ z⟩) .inr
def Fu.get(f:Fu K ρ H ρ' H'){l:Nat}{a:Addr}(h:ρ[l]? =some a):ρ'[l]? =some a:=by
 obtain⟨t,rfl⟩:=f.pre;rw[A0 (Ae.mp h).1];exact h
def Fut.get(f:Fut K ρ H ρ' H'){l:Nat}{a:Addr}(h:ρ[l]? =some a):ρ'[l]? =some a:=f.fu.get h
mutual
theorem RelD.fu(f:Fu K ρ H ρ' H'):∀{d:D} {v:V},RelD K ρ H d v->RelD K ρ' H' d v
 |.non,v,h=>by simpa only[RelD]using h
 |.bl b,v,h=>by simpa only[RelD]using h
 |.int i,v,h=>by simpa only[RelD]using h
 |.str x,v,h=>by simpa only[RelD]using h
 |.tup ds,v,h=>by
  simp only[RelD]at h ⊢;obtain⟨a,xs,e,q,r⟩:=h;exact⟨a,xs,e,f.tup _ _ q,RelDs.fu f r⟩
 |.loc l,v,h=>by
  simp only[RelD]at h ⊢;obtain⟨a,e,q⟩:=h;exact⟨a,e,f.get q⟩
 |.kl ds,v,h=>by
  simp only[RelD]at h ⊢;obtain⟨a,xs,e,q,r⟩:=h;exact⟨a,xs,e,f.sqF q,RelDs.fu f r⟩
 |.kd kvs,v,h=>by simpa only[RelD]using h
theorem RelDs.fu(f:Fu K ρ H ρ' H'):∀{ds:List D} {vs:List V},RelDs K ρ H ds vs->RelDs K ρ' H' ds vs
 |[],vs,h=>by simpa only[RelDs]using h
 |d::ds,vs,h=>by
  simp only[RelDs]at h ⊢;obtain⟨v,r,e,q,t⟩:=h;exact⟨v,r,e,RelD.fu f q,RelDs.fu f t⟩
end
def RelD.fut(f:Fut K ρ H ρ' H'){d:D}{v:V}(h:RelD K ρ H d v):RelD K ρ' H' d v:=h.fu f.fu
def RelDs.fut(f:Fut K ρ H ρ' H')(h:RelDs K ρ H ds vs):RelDs K ρ' H' ds vs:=h.fu f.fu
def RelDs.cons(a:RelD K ρ H d v)(b:RelDs K ρ H ds vs):RelDs K ρ H (d::ds) (v::vs):=by
 simp only[RelDs];exact⟨v,vs,rfl,a,b⟩
def RelDs.nil:RelDs K ρ H [] []:=by simp only[RelDs]
inductive DsC (K:Af) (ρ:List Addr) (H:Hp) (d:D) (ds:List D) (xs:List V):Prop
 |mk (v vs) (_:xs=v::vs) (_:RelD K ρ H d v) (_:RelDs K ρ H ds vs):DsC K ρ H d ds xs
def RelDs.inv_cons(h:RelDs K ρ H (d::ds) xs):DsC K ρ H d ds xs:=by
 obtain⟨v,vs,e,q,r⟩:=h;exact⟨v,vs,e,q,r⟩
def RelDs.inv_nil(h:RelDs K ρ H [] xs):xs=[]:=by simpa only[RelDs]using h
theorem RelDs.length:∀{ds:List D} {vs:List V},RelDs K ρ H ds vs->ds.length=vs.length
 |[],vs,h=>by rw[h.inv_nil];rfl
 |d::ds,vs,h=>by
  obtain⟨v,r,rfl,_,t⟩:=h.inv_cons;rw[A5,A5,t.length]
theorem RelDs.get:∀{ds:List D} {vs:List V} {i:Nat} {d:D},RelDs K ρ H ds vs->ds[i]? =some d->∃v,vs[i]? =some v/\RelD K ρ H d v
 |[],vs,i,d,h,e=>by simp at e
 |d::ds,vs,0,x,h,e=>by
  obtain⟨v,r,rfl,q,t⟩:=h.inv_cons;simp at e;subst e;exact⟨v,rfl,q⟩
 |d::ds,vs,i+1,x,h,e=>by
  obtain⟨v,r,rfl,q,t⟩:=h.inv_cons;exact RelDs.get (i:=i) t (by simpa using e)
theorem RelDs.append:∀{ds es:List D} {vs ws:List V},RelDs K ρ H ds vs->RelDs K ρ H es ws->RelDs K ρ H (ds++es) (vs++ws)
 |[],es,vs,ws,h,g=>by rw[h.inv_nil];exact g
 |d::ds,es,vs,ws,h,g=>by
  obtain⟨v,r,rfl,q,t⟩:=h.inv_cons;exact RelDs.cons q (t.append g)
theorem RelDs.take:∀{ds:List D} {vs:List V} (n:Nat),RelDs K ρ H ds vs->RelDs K ρ H (ds.take n) (vs.take n)
 |ds,vs,0,h=>by simp[RelDs.nil]
 |[],vs,n+1,h=>by rw[h.inv_nil];simp[RelDs.nil]
 |d::ds,vs,n+1,h=>by
  obtain⟨v,r,rfl,q,t⟩:=h.inv_cons;exact RelDs.cons q (t.take n)
theorem RelDs.drop:∀{ds:List D} {vs:List V} (n:Nat),RelDs K ρ H ds vs->RelDs K ρ H (ds.drop n) (vs.drop n)
 |ds,vs,0,h=>h
 |[],vs,n+1,h=>by rw[h.inv_nil];simp[RelDs.nil]
 |d::ds,vs,n+1,h=>by
  obtain⟨v,r,rfl,q,t⟩:=h.inv_cons;exact t.drop n
theorem RelDs.set(a:RelD K ρ H d v):∀{ds:List D} {vs:List V} (i:Nat),RelDs K ρ H ds vs->RelDs K ρ H (ds.set i d) (vs.set i v)
 |[],vs,i,h=>by rw[h.inv_nil];simp[RelDs.nil]
 |x::ds,vs,0,h=>by
  obtain⟨w,r,rfl,q,t⟩:=h.inv_cons;exact RelDs.cons a t
 |x::ds,vs,i+1,h=>by
  obtain⟨w,r,rfl,q,t⟩:=h.inv_cons;exact RelDs.cons q (RelDs.set a i t)
def RelDs.dropLast{ds:List D}{vs:List V}(h:RelDs K ρ H ds vs):RelDs K ρ H ds.dropLast vs.dropLast:=by
 rw[Qa,Qa,h.length];exact h.take _
theorem Juq(h:RelDs K ρ H ds vs)(e:atI ds i=some d):∃v,atI vs i=some v/\RelD K ρ H d v:=by
 unfold atI at e ⊢;rw[<-h.length];cases q:ixN ds.length i with
 |none=>rw[q]at e;cases e
 |some j=>
  rw[q]at e;exact h.get e
section
variable {κ κ':Type} {e:κ->κ'} [DecidableEq κ] [DecidableEq κ']
theorem RelKv.fu(f:Fu K ρ H ρ' H'):∀{kvs:List (κ×D)} {ws:List (κ'×V)},RelKv e K ρ H kvs ws->RelKv e K ρ' H' kvs ws
 |[],ws,h=>h
 |p::r,ws,h=>by
  obtain⟨v,us,e,q,t⟩:=h;exact⟨v,us,e,q.fu f,RelKv.fu f t⟩
def RelKv.fut(f:Fut K ρ H ρ' H')(h:RelKv e K ρ H kvs ws):RelKv e K ρ' H' kvs ws:=h.fu f.fu
theorem RelKv.get{kvs:List (κ×D)}{ws:List (κ'×V)}{i:Nat}{p:κ×D}(r:RelKv e K ρ H kvs ws)(h:kvs[i]? =some p):∃v,ws[i]? =some (e p.1,v)/\RelD K ρ H p.2 v:=by
 induction kvs generalizing ws i with
 |nil=>simp at h
 |cons a kvs ih=>
  obtain⟨v,_,rfl,q,t⟩:=r;cases i with
  |zero=>cases h;exact⟨v,rfl,q⟩
  |succ i=>exact(ih t h:)
theorem RelKv.length:∀{kvs:List (κ×D)} {ws:List (κ'×V)},RelKv e K ρ H kvs ws->kvs.length=ws.length
 |[],ws,h=>by cases(show ws=[]from h);rfl
 |p::r,ws,h=>by
  obtain⟨v,us,rfl,q,t⟩:=h;simp[RelKv.length t]
theorem RelKv.keys:∀{kvs:List (κ×D)} {ws:List (κ'×V)},RelKv e K ρ H kvs ws->ws.map (·.1)=(kvs.map (·.1)).map e
 |[],ws,h=>by cases(show ws=[]from h);rfl
 |p::r,ws,h=>by
  obtain⟨v,us,rfl,q,t⟩:=h;simp[RelKv.keys t]
variable (ei:∀a b,e a=e b->a=b) (k:κ)
include ei
theorem RelKv.val:∀{kvs:List (κ×D)} {ws:List (κ'×V)},RelKv e K ρ H kvs ws->(dVal kvs k=none/\Wa ws (e k)=none)\/∃d v,dVal kvs k=some d/\Wa ws (e k)=some v/\RelD K ρ H d v
 |[],ws,h=>by cases(show ws=[]from h);exact .inl ⟨rfl,rfl⟩
 |p::r,ws,h=>by
  obtain⟨v,us,rfl,q,t⟩:=h
  by_cases z:p.1=k
  ·refine .inr ⟨p.2,v,?_,Jd2 (congrArg e z),q⟩;simp[dVal,Dh,z]
  ·rw[Jd3 (λq=>z (ei _ _ q)),show dVal (p::r) k=dVal r k by simp[dVal,Dh,z]];exact RelKv.val t
def RelKv.put(q:RelD K ρ H d v)(h:RelKv e K ρ H kvs ws):RelKv e K ρ H (dPut kvs k d) (putK ws (e k) v):=by
 have any:∀{kvs:List (κ×D)} {ws:List (κ'×V)},RelKv e K ρ H kvs ws->kvs.any (λp=>decide (p.1=k))=ws.any (λkv=>decide (kv.1=e k)):=by
  intro kvs
  induction kvs with
  |nil=>intro ws h;cases(show ws=[]from h);rfl
  |cons p r ih=>
   intro ws h;obtain⟨u,us,rfl,q',t⟩:=h;rw[Fs,Fs,ih t];congr 1;exact decide_eq_decide.mpr ⟨λz=>congrArg e z,λz=>ei _ _ z⟩
 have snoc:∀{kvs:List (κ×D)} {ws:List (κ'×V)},RelKv e K ρ H kvs ws->RelKv e K ρ H (kvs++[(k,d)]) (ws++[(e k,v)]):=by
  intro kvs
  induction kvs with
  |nil=>intro ws h;cases(show ws=[]from h);exact⟨v,[],rfl,q,rfl⟩
  |cons p r ih=>
   intro ws h;obtain⟨u,us,rfl,q',t⟩:=h;exact⟨u,_,rfl,q',ih t⟩
 have map:∀{kvs:List (κ×D)} {ws:List (κ'×V)},RelKv e K ρ H kvs ws->RelKv e K ρ H (kvs.map (λp=>if p.1=k then(p.1,d)else p)) (ws.map (λkv=>if kv.1=e k then(kv.1,v)else kv)):=by
  intro kvs
  induction kvs with
  |nil=>intro ws h;cases(show ws=[]from h);rfl
  |cons p r ih=>
   intro ws h;obtain⟨u,us,rfl,q',t⟩:=h
   by_cases z:p.1=k
   ·rw[Ay,Ay,if_pos z,if_pos (congrArg e z)];exact⟨v,_,rfl,q,ih t⟩
   ·rw[Ay,Ay,if_neg z,if_neg λq=>z (ei _ _ q)];exact⟨u,_,rfl,q',ih t⟩
 unfold dPut putK;rw[any h];split
 ·exact map h
 ·exact snoc h
theorem RelKv.drop:∀{kvs:List (κ×D)} {ws:List (κ'×V)},RelKv e K ρ H kvs ws->RelKv e K ρ H (dDrop kvs k) (W8 ws (e k))
 |[],ws,h=>by cases(show ws=[]from h);rfl
 |p::r,ws,h=>by
  obtain⟨v,us,rfl,q,t⟩:=h;have ih:=RelKv.drop t;unfold dDrop W8 at ih ⊢
  by_cases z:p.1=k
  ·rw[Pb (by simpa using z),Pb (by simpa using congrArg e z)];exact ih
  ·rw[Pa (by simpa using z),Pa (by simpa using λq=>z (ei _ _ q))];exact⟨v,_,rfl,q,ih⟩
end
def Jmh{α β:Type}(a b:α)(h:(Gf a:α ⊕ β)=Gf b):a=b:=L7 h
def Jfg(a b:Rdu.PK)(h:pK a=pK b):a=b:=by
 injection h with h1 h2;injection h2 with h2 _;exact Tu (L7 h1) (L7 h2)
def Wo.fu(f:Fu K ρ H ρ' H')(x:Wo K H r a):Wo K H' r a:=by
 obtain⟨bs,h1,h2⟩:=x;exact⟨bs,f.tup _ _ h1,Paired.mapP h2 λ_ _ q=>f.tup _ _ q⟩
theorem Vn.fu(f:Fu K ρ H ρ' H'):∀{kvs:List (RK×D)} {xs:List (RK×Addr×Value)},Vn K ρ H kvs xs->Vn K ρ' H' kvs xs
 |[],xs,h=>h
 |p::r,xs,h=>by
  obtain⟨a,u,v,ys,e,l,rv,q,t⟩:=h;exact⟨a,u,v,ys,e,Wo.fu f l,rv,q.fu f,Vn.fu f t⟩
def Vn.fut(f:Fut K ρ H ρ' H')(h:Vn K ρ H kvs xs):Vn K ρ' H' kvs xs:=h.fu f.fu
theorem Vn.mem:∀{kvs:List (RK×D)} {xs:List (RK×Addr×Value)},Vn K ρ H kvs xs->∀x∈xs,Wo K H x.1 x.2.1
 |[],xs,h,x,hx=>by cases(show xs=[]from h);cases hx
 |p::r,xs,h,x,hx=>by
  obtain⟨a,u,v,ys,rfl,l,rv,q,t⟩:=h;rcases An.mp hx with rfl|hx
  ·exact l
  ·exact Vn.mem t x hx
theorem Vn.length:∀{kvs:List (RK×D)} {xs:List (RK×Addr×Value)},Vn K ρ H kvs xs->kvs.length=xs.length
 |[],xs,h=>by cases(show xs=[]from h);rfl
 |p::r,xs,h=>by
  obtain⟨a,u,v,ys,rfl,l,rv,q,t⟩:=h;simp[Vn.length t]
theorem Vn.val(k:RK):∀{kvs:List (RK×D)} {xs:List (RK×Addr×Value)},Vn K ρ H kvs xs->dVal kvs k=some d->∃p v,Gs xs k=some p/\RelV v p.2/\RelD K ρ H d v
 |[],xs,h,e=>by cases e
 |p::r,xs,h,e=>by
  obtain⟨a,u,v,ys,rfl,l,rv,q,t⟩:=h
  by_cases z:p.1=k
  ·have:dVal (p::r) k=some p.2:=by simp[dVal,Dh,z]
   rw[this]at e;cases e;exact⟨(a,u),v,by simp[Gs,z],rv,q⟩
  ·rw[show dVal (p::r) k=dVal r k by simp[dVal,Dh,z]]at e;obtain⟨p',v',h1,h2⟩:=Vn.val k t e;exact⟨p',v',by simpa [Gs,z]using h1,h2⟩
def Vn.put(l:Wo K H k a)(rv:RelV v u)(q:RelD K ρ H d v)(h:Vn K ρ H kvs xs):Vn K ρ H (dPut kvs k d) (Pe xs k a u):=by
 have all:∀{kvs:List (RK×D)} {xs:List (RK×Addr×Value)},Vn K ρ H kvs xs->kvs.any (λp=>decide (p.1=k))=(Gs xs k).isSome/\Vn K ρ H (kvs++[(k,d)]) (xs++[(k,a,u)])/\Vn K ρ H (kvs.map (λp=>if p.1=k then(p.1,d)else p)) (xs.map (putAt k u)):=by
  intro kvs
  induction kvs with
  |nil=>intro xs h;cases(show xs=[]from h);exact⟨rfl,⟨a,u,v,[],rfl,l,rv,q,rfl⟩,rfl⟩
  |cons p r ih=>
   intro xs h;obtain⟨a',u',v',ys,rfl,l',rv',q',t⟩:=h;obtain⟨h1,h2,h3⟩:=ih t;refine⟨?_,⟨a',u',v',_,rfl,l',rv',q',h2⟩,?_⟩
   ·by_cases z:p.1=k
    ·simp[Gs,z]
    ·rw[Fs,h1];simp[Gs,z]
   ·by_cases z:p.1=k
    ·simp only[Ay,if_pos z,putAt];exact⟨a',u,v,_,rfl,l',rv,q,h3⟩
    ·simp only[Ay,if_neg z,putAt];exact⟨a',u',v',_,rfl,l',rv',q',h3⟩
 obtain⟨h1,h2,h3⟩:=all h;unfold dPut Pe;rw[h1];split
 ·exact h3
 ·exact h2
theorem Wh.fu(f:Fu K ρ H ρ' H'):∀{fs:List (String×D)} {ws:List (Str×V)},Wh K ρ H fs ws->Wh K ρ' H' fs ws
 |[],ws,h=>h
 |p::r,ws,h=>by
  obtain⟨v,us,e,q,t⟩:=h;exact⟨v,us,e,q.fu f,Wh.fu f t⟩
theorem Wh.length:∀{fs:List (String×D)} {ws:List (Str×V)},Wh K ρ H fs ws->fs.length=ws.length
 |[],ws,h=>by cases(show ws=[]from h);rfl
 |p::r,ws,h=>by
  obtain⟨v,us,rfl,q,t⟩:=h;simp[Wh.length t]
theorem Wh.look(f:String):∀{fs:List (String×D)} {ws:List (Str×V)},Wh K ρ H fs ws->(fs.lookup f=none/\ws.lookup (Ac f)=none)\/∃d v,fs.lookup f=some d/\ws.lookup (Ac f)=some v/\RelD K ρ H d v
 |[],ws,h=>by cases(show ws=[]from h);exact .inl ⟨rfl,rfl⟩
 |p::r,ws,h=>by
  obtain⟨v,us,rfl,q,t⟩:=h;obtain⟨g,d⟩:=p
  by_cases e:f=g
  ·subst e;exact .inr ⟨d,v,by simp[E2],by simp[E2],q⟩
  ·have e':(Ac f==Ac g)=false:=beq_eq_false_iff_ne.mpr λz=>e (Jip z);have e2:(f==g)=false:=beq_eq_false_iff_ne.mpr e;simp only[E2,e',e2];exact Wh.look f t
theorem Wh.put(f:String)(q:RelD K ρ H d v):∀{fs:List (String×D)} {ws:List (Str×V)},Wh K ρ H fs ws->Wh K ρ H (putD f d fs) (V5 (Ac f) v ws)
 |[],ws,h=>by cases(show ws=[]from h);exact⟨v,[],rfl,q,rfl⟩
 |p::r,ws,h=>by
  obtain⟨u,us,rfl,q',t⟩:=h
  by_cases e:p.1=f
  ·rw[show putD f d (p::r)=(p.1,d)::r from if_pos e,show V5 (Ac f) v ((Ac p.1,u)::us)=(Ac p.1,v)::us from if_pos (congrArg _ e)];exact⟨v,us,rfl,q,t⟩
  ·rw[show putD f d (p::r)=p::putD f d r from if_neg e,show V5 (Ac f) v ((Ac p.1,u)::us)=(Ac p.1,u)::V5 (Ac f) v us from if_neg λz=>e (Jip z)];exact⟨u,_,rfl,q',Wh.put f q t⟩
theorem RelO.fu(f:Fu K ρ H ρ' H')(hk:H' a=H a)(h:RelO K ρ H a o):RelO K ρ' H' a o:=by
 cases o with
 |lst ds=>obtain⟨xs,e,r⟩:=h;exact⟨xs,hk.trans e,r.fu f⟩
 |dct kvs=>obtain⟨xs,e,r⟩:=h;exact⟨xs,hk.trans e,r.fu f⟩
 |dtu kvs=>obtain⟨xs,e,r⟩:=h;exact⟨xs,hk.trans e,r.fu f⟩
 |fz kvs=>obtain⟨xs,o,e,r⟩:=h;exact⟨xs,o,hk.trans e,r.fu f⟩
 |rg kvs=>obtain⟨xs,e,r⟩:=h;exact⟨xs,hk.trans e,r.fu f⟩
 |ins c fs=>obtain⟨C,dx,ws,n,e,r⟩:=h;exact⟨C,dx,ws,n,hk.trans e,r.fu f⟩
def RelO.fut(f:Fut K ρ H ρ' H')(hk:H' a=H a)(h:RelO K ρ H a o):RelO K ρ' H' a o:=h.fu f.fu hk
theorem RelO.some(h:RelO K ρ H a o):H a≠none:=by
 cases o with
 |lst ds=>obtain⟨xs,e,r⟩:=h;rw[e];simp
 |dct kvs=>obtain⟨xs,e,r⟩:=h;rw[e];simp
 |dtu kvs=>obtain⟨xs,e,r⟩:=h;rw[e];simp
 |fz kvs=>obtain⟨xs,o,e,r⟩:=h;rw[e];simp
 |rg kvs=>obtain⟨xs,e,r⟩:=h;rw[e];simp
 |ins c fs=>obtain⟨C,dx,ws,n,e,r⟩:=h;rw[e];simp
def RelS.at(r:RelS K ρ S H){l:Nat}{a:Addr}(h:ρ[l]? =some a):∃o,S[l]? =some o/\RelO K ρ H a o:=by
 have hl:l<S.length:=by rw[<-r.len];exact(Ae.mp h).1
 exact⟨S[l],Ag hl,r.ob l a _ h (Ag hl)⟩
def Ja1(n:H p=none)(t:List Addr):Fut K ρ H (ρ++t) (upd H p o):=by
 refine⟨⟨t,rfl⟩,λa xs h=>?_,λa o u h=>by rw[Jac (Jal h n)];exact h⟩;rcases h with h|h
 ·exact .inl (by rw[Jac (Jal h n)];exact h)
 ·exact .inr h
def Ja0(n:H p=none):Fut K ρ H ρ (upd H p o):=by
 have q:=Ja1 (K:=K) (ρ:=ρ) (o:=o) n [];rwa[Ec]at q
def RelS.new(r:RelS K ρ S H)(n:H p=none):RelS K ρ S (upd H p o):=
 ⟨r.len,r.nd,λl a u h1 h2=>by
  have q:=r.ob l a u h1 h2;exact q.fut (Ja0 n) (Jac λz=>q.some (z▸n))⟩
def RelS.alloc(r:RelS K ρ S H){p:Addr}{xs:List V}{ds:List D}(n:H p=none)(h:RelDs K ρ H ds xs):RelS K (ρ++[p]) (S++[.lst ds]) (upd H p (.lst xs)):=by
 have hp:p∉ρ:=λz=>by
  obtain⟨l,hl⟩:=Qj z;obtain⟨o,_,q⟩:=r.at hl;exact q.some n
 refine⟨by rw[Bf,Bf,r.len];rfl,?_,λl a o h1 h2=>?_⟩
 ·rw[Jf];exact⟨r.nd,by simp,λa ha b hb=>by rw[Av.mp hb];exact λe=>hp (e▸ha)⟩
 ·by_cases hl:l<ρ.length
  ·rw[A0 hl]at h1;rw[A0 (by rw[<-r.len];exact hl)]at h2;have q:=r.ob l a o h1 h2;exact q.fut (Ja1 n [p]) (Jac λz=>q.some (z▸n))
  ·have e:l=ρ.length:=by
    have:=(Ae.mp h1).1;rw[Bf,Dy]at this
    lia
   subst e;rw[Az (Aj _),El]at h1;rw[Az (by rw[r.len];exact Aj _),r.len,El]at h2;simp at h1 h2;subst h1 h2;exact⟨xs,Jaf,h.fut (Ja1 n [_])⟩
def Jc3{ρ:List Addr}(hN:ρ.Nodup){i j:Nat}{x:Addr}(a:ρ[i]? =some x)(b:ρ[j]? =some x):i=j:=by
 obtain⟨h1,e1⟩:=Ae.mp a;obtain⟨h2,e2⟩:=Ae.mp b;rcases Jl i j with h|h|h
 ·exact absurd (e1.trans e2.symm) (Gh.mp hN i j h1 h2 h)
 ·exact h
 ·exact absurd (e2.trans e1.symm) (Gh.mp hN j i h2 h1 h)
def Jdh(h:H p=some (.lst xs)):Fut K ρ H ρ (upd H p o):=by
 refine⟨⟨[],by simp⟩,λa ys q=>?_,λa o u q=>by rw[Jac (Je9 q h (by intro z;cases z))];exact q⟩;rcases q with q|q
 ·exact .inl (by rw[Jac (Je9 q h (by intro z;cases z))];exact q)
 ·exact .inr q
def RelS.set(r:RelS K ρ S H){l:Nat}{p:Addr}{xs ys:List V}{ds:List D}(hl:ρ[l]? =some p)(h:H p=some (.lst xs))(hd:RelDs K ρ H ds ys):RelS K ρ (S.set l (.lst ds)) (upd H p (.lst ys)):=by
 refine⟨by rw[Dt];exact r.len,r.nd,λk a o h1 h2=>?_⟩
 by_cases e:l=k
 ·subst e;rw[hl]at h1;cases h1;have lt:l<S.length:=by rw[<-r.len];exact(Ae.mp hl).1
  rw[B5 lt]at h2;cases h2;exact⟨ys,Jaf,hd.fut (Jdh h)⟩
 ·rw[Ao e]at h2;have ne:a≠p:=λz=>by
   subst z;exact e (Jc3 r.nd hl h1)
  exact(r.ob k a o h1 h2).fut (Jdh h) (Jac ne)
def Jdi{o:HO}(h:H p=some o0)(h1:∀xs,o0≠ .tup xs)(h2:∀o u,o0≠ .frz o u):Fut K ρ H ρ (upd H p o):=by
 have ne:∀a u,H a=some u->(∀xs,u≠ .tup xs->u≠ .tup xs)->u≠o0->a≠p:=λa u q _ z e=>by rw[e,h]at q;exact z (Bb q).symm
 refine⟨⟨[],by simp⟩,λa ys q=>?_,λa o u q=>by rw[Jac (ne a _ q (λ_ z=>z) λz=>h2 _ _ z.symm)];exact q⟩;rcases q with q|q
 ·exact .inl (by rw[Jac (ne a _ q (λ_ z=>z) λz=>h1 _ z.symm)];exact q)
 ·exact .inr q
def RelS.allocO(r:RelS K ρ S H){p:Addr}{o:HO}{ob:Obj}(n:H p=none)(h:RelO K (ρ++[p]) (upd H p o) p ob):RelS K (ρ++[p]) (S++[ob]) (upd H p o):=by
 have hp:p∉ρ:=λz=>by
  obtain⟨l,hl⟩:=Qj z;obtain⟨o,_,q⟩:=r.at hl;exact q.some n
 refine⟨by rw[Bf,Bf,r.len];rfl,?_,λl a u h1 h2=>?_⟩
 ·rw[Jf];exact⟨r.nd,by simp,λa ha b hb=>by rw[Av.mp hb];exact λe=>hp (e▸ha)⟩
 ·by_cases hl:l<ρ.length
  ·rw[A0 hl]at h1;rw[A0 (by rw[<-r.len];exact hl)]at h2;have q:=r.ob l a u h1 h2;exact q.fut (Ja1 n [p]) (Jac λz=>q.some (z▸n))
  ·have e:l=ρ.length:=by
    have:=(Ae.mp h1).1;rw[Bf,Dy]at this
    lia
   subst e;rw[Az (Aj _),El]at h1;rw[Az (by rw[r.len];exact Aj _),r.len,El]at h2;simp at h1 h2;subst h1 h2;exact h
def RelS.setW(r:RelS K ρ S H){l:Nat}{p:Addr}{o0 o:HO}{ob:Obj}(hl:ρ[l]? =some p)(f:Fu K ρ H ρ (upd H p o))(new:RelO K ρ (upd H p o) p ob):RelS K ρ (S.set l ob) (upd H p o):=by
 refine⟨by rw[Dt];exact r.len,r.nd,λk a u h1 h2=>?_⟩
 by_cases e:l=k
 ·subst e;rw[hl]at h1;cases h1;have lt:l<S.length:=by rw[<-r.len];exact(Ae.mp hl).1
  rw[B5 lt]at h2;cases h2;exact new
 ·rw[Ao e]at h2;have ne:a≠p:=λz=>by
   subst z;exact e (Jc3 r.nd hl h1)
  exact(r.ob k a u h1 h2).fu f (Jac ne)
def RelS.setO(r:RelS K ρ S H){l:Nat}{p:Addr}{o0 o:HO}{ob:Obj}(hl:ρ[l]? =some p)(f:Fut K ρ H ρ (upd H p o))(new:RelO K ρ (upd H p o) p ob):RelS K ρ (S.set l ob) (upd H p o):=r.setW (o0:=o0) hl f.fu new
structure RelE(K:Af)(ρ:List Addr)(H:Hp)(Z:En)(U:St):Prop where
 len:Z.length=U.length
 at':∀(i:Nat) (d:D),Z[i]? =some (some d)->∃v,U[i]? =some (some v)/\RelD K ρ H d v
def RelE.fut(f:Fut K ρ H ρ' H')(r:RelE K ρ H Z U):RelE K ρ' H' Z U:=
 ⟨r.len,λi d h=>let⟨v,e,q⟩:=r.at' i d h;⟨v,e,q.fut f⟩⟩
def RelE.set{Z:En}{U:St}(r:RelE K ρ H Z U)(q:RelD K ρ H d v)(i:Nat):RelE K ρ H (Z.set i (some d)) (U.set i (some v)):=by
 refine⟨by rw[Dt,Dt];exact r.len,λj e h=>?_⟩
 by_cases z:i=j
 ·subst z
  by_cases hl:i<Z.length
  ·rw[B5 hl]at h;cases h;exact⟨v,B5 (by rw[<-r.len];exact hl),q⟩
  ·rw[Hb (by rw[Dt];lia)]at h;cases h
 ·rw[Ao z]at h;rw[Ao z];exact r.at' j e h
theorem RelE.inner(r:RelE K ρ H Z U)(k:Nat)(keep:List Nat):RelE K ρ H (Vl k keep Z) (Xi k keep U):=by
 unfold Vl Xi;refine⟨by simp,λi d h=>?_⟩
 by_cases hi:i<k
 ·rw[A0 (by simpa using hi),Fe,if_pos hi]at h;cases h
 ·rw[Az (by simpa using hi),Ha,Ap]at h;rw[Az (by simpa using hi),Ha,Ap];cases ej:keep[i-k]? with
  |none=>rw[ej]at h;cases h
  |some j=>
   rw[ej]at h;have h':(Z[j]?).join=some d:=Bb h;have h':Z[j]? =some (some d):=by
    cases q:Z[j]? with
    |none=>rw[q]at h';cases h'
    |some y=>rw[q]at h';exact congrArg some h'
   obtain⟨v,e,q⟩:=r.at' j d h';refine⟨v,?_,q⟩;show some ((U[j]?).join)=some (some v);rw[e];rfl
noncomputable def Wbk(Z Z':En):Prop:=Z'.length=Z.length/\∀(i:Nat) (d:D),Z'[i]? =some (some d)->Z[i]? =some (some d)
def RelE.less(r:RelE K ρ H Z U)(l:Wbk Z Z'):RelE K ρ H Z' U:=⟨l.1.trans r.len,λi d h=>r.at' i d (l.2 i d h)⟩
end Mi
namespace Mi
open PySem L2
noncomputable def Waw:Bop->Operator
 |.add=>.Add
 |.shr=>.RShift
 |.sub=>.Sub
 |.mul=>.Mult
 |.fdiv=>.FloorDiv
 |.mod=>.Mod
 |.pow=>.Pow
noncomputable def W9:Cop->CmpOp
 |.eq=>.Eq
 |.ne=>.NotEq
 |.lt=>.Lt
 |.le=>.LtE
 |.gt=>.Gt
 |.ge=>.GtE
 |.isc=>.Is
 |.isnc=>.IsNot
 |.inn=>.In
 |.nin=>.NotIn
def Fin(K:Af)(ρ:List Addr)(H:Hp)(d:D)(S':Store)(Q:VK):Prop:=
 ∀(ρ':List Addr) (v:V) (H':Hp),Fut K ρ H ρ' H'->RelS K ρ' S' H'->RelD K ρ' H' d v->Q v H'
variable {K:Af} {ρ ρ':List Addr} {H H':Hp} {S S':Store} {d:D} {Q:VK}
def Fin.now(f:Fin K ρ H d S Q)(r:RelS K ρ S H)(q:RelD K ρ H d v):Q v H:=f ρ v H Fut.refl r q
def Fin.newT(f:Fin K ρ H (.tup ds) S Q)(r:RelS K ρ S H)(q:RelDs K ρ H ds xs):∀p,H p=none->Q (.ref p) (upd H p (.tup xs)):=λp n=>
 f ρ _ _ (Ja0 n) (r.new n) (by simp only[RelD];exact⟨p,xs,rfl,SqT.of Jaf,q.fut (Ja0 n)⟩)
def Fin.newL(f:Fin K ρ H (.loc S.length) (S++[.lst ds]) Q)(r:RelS K ρ S H)(q:RelDs K ρ H ds xs):∀p,H p=none->Q (.ref p) (upd H p (.lst xs)):=λp n=>
 f (ρ++[p]) _ _ (Ja1 n [p]) (r.alloc n q) (by simp only[RelD];exact⟨p,rfl,by rw[<-r.len,Az (Aj _),El];rfl⟩)
def RelD.int_inv(h:RelD K ρ H (.int i) v):v=.int i:=by simpa only[RelD]using h
def RelD.bl_inv(h:RelD K ρ H (.bl i) v):v=.bl i:=by simpa only[RelD]using h
def RelD.str_inv(h:RelD K ρ H (.str i) v):v=.str i:=by simpa only[RelD]using h
def RelD.non_inv(h:RelD K ρ H .non v):v=.non:=by simpa only[RelD]using h
inductive TupI (K:Af) (ρ:List Addr) (H:Hp) (ds:List D) (v:V):Prop
 |mk (a xs) (_:v=.ref a) (_:SqT K H a xs) (_:RelDs K ρ H ds xs):TupI K ρ H ds v
def RelD.tup_inv(h:RelD K ρ H (.tup ds) v):TupI K ρ H ds v:=by
 obtain⟨v,vs,e,q,r⟩:=h;exact⟨v,vs,e,q,r⟩
inductive KlI (K:Af) (ρ:List Addr) (H:Hp) (ds:List D) (v:V):Prop
 |mk (a xs) (_:v=.ref a) (_:SqF K H a xs) (_:RelDs K ρ H ds xs):KlI K ρ H ds v
def RelD.kl_inv(h:RelD K ρ H (.kl ds) v):KlI K ρ H ds v:=by
 obtain⟨v,vs,e,q,r⟩:=h;exact⟨v,vs,e,q,r⟩
def RelD.loc_inv(h:RelD K ρ H (.loc l) v):∃a,v=.ref a/\ρ[l]? =some a:=by simpa only[RelD]using h
def RelD.int(i:Int):RelD K ρ H (.int i) (.int i):=by simp only[RelD]
def RelD.bl(i:Bool):RelD K ρ H (.bl i) (.bl i):=by simp only[RelD]
def RelD.str(i:Str):RelD K ρ H (.str i) (.str i):=by simp only[RelD]
def RelD.non:RelD K ρ H .non .non:=by simp only[RelD]
def RelD.kd_inv(h:RelD K ρ H (.kd kvs) v):∃a,v=.ref a/\Vx K a kvs:=by simpa only[RelD]using h
open PyProof.Rows in
theorem Jjd:∀{es:List Cg} {h:Heap} {a b:List (Str×Int)},KTD.Rows (Uu h) es (a.map λp=>(p.1,Ew (.int p.2)))->KTD.Rows (Uu h) es (b.map λp=>(p.1,Ew (.int p.2)))->a=b
 |[],h,a,b,h1,h2=>by
  cases a with
  |cons p a=>cases h1
  |nil=>
   cases b with
   |cons p b=>cases h2
   |nil=>rfl
 |e::es,h,a,b,h1,h2=>by
  cases a with
  |nil=>cases h1
  |cons p a=>
   cases b with
   |nil=>cases h2
   |cons q b=>
    obtain⟨x,n⟩:=p;obtain⟨y,m⟩:=q;cases h1 with
    |cons k1 v1 r1=>
     cases h2 with
     |cons k2 v2 r2=>
      rw[k1]at k2;cases k2;obtain⟨t1,e1⟩:=Md v1;obtain⟨t2,e2⟩:=Md v2;rw[e1]at e2;cases e2;rw[Jjd r1 r2]
open PyProof.Rows in
def Vx.text{kvs:List (Str×Int)}(d:Vx K a kvs)(KX:K.In h):KTD.TextTab h a (kvs.map λp=>(p.1,Ew (.int p.2))):=PySem.W.kt_text_in KX d
def Vx.inj(d:Vx K a kvs)(d':Vx K a kvs')(KX:K.In h):kvs=kvs':=by
 obtain⟨_,o,es,ep,ho,_,hd,hr⟩:=d.text KX;obtain⟨_,o',es',ep',ho',_,hd',hr'⟩:=d'.text KX;rw[ho]at ho';cases ho';rw[hd]at hd';cases hd';exact Jjd hr hr'
def Vx.obj{h:Heap}(d:Vx K a kvs)(KX:K.In h):∃o,h.get? a=some o/\o.ExactDict:=by
 obtain⟨_,o,es,ep,ho,hx,_⟩:=d.text KX;exact⟨o,ho,hx⟩
inductive LstI (K:Af) (ρ:List Addr) (H:Hp) (l:Nat) (v:V) (ds:List D):Prop
 |mk (a xs) (_:v=.ref a) (_:ρ[l]? =some a) (_:H a=some (.lst xs)) (_:RelDs K ρ H ds xs):LstI K ρ H l v ds
def RelS.lst(r:RelS K ρ S H)(h:RelD K ρ H (.loc l) v)(e:S[l]? =some (.lst ds)):LstI K ρ H l v ds:=by
 obtain⟨a,rfl,ha⟩:=h.loc_inv;obtain⟨xs,hx,q⟩:=r.ob l a _ ha e;exact⟨a,xs,rfl,ha,hx,q⟩
def Jan(e:seqAt S l=some ds):S[l]? =some (.lst ds):=by
 unfold seqAt at e;split at e
 ·cases e;assumption
 ·cases e
def RelS.seq(r:RelS K ρ S H)(h:RelD K ρ H x v)(e:Vp S x=some ds):∃a xs,v=.ref a/\(SqL K H a xs\/SqT K H a xs)/\RelDs K ρ H ds xs:=by
 unfold Vp at e;split at e
 ·cases e;obtain⟨a,xs,rfl,q,t⟩:=h.tup_inv;exact⟨a,xs,rfl,.inr q,t⟩
 ·obtain⟨a,xs,rfl,_,q,t⟩:=r.lst h (Jan e);exact⟨a,xs,rfl,.inl (SqL.of q),t⟩
 ·cases e;obtain⟨a,xs,rfl,q,t⟩:=h.kl_inv;exact⟨a,xs,rfl,.inl q.sq,t⟩
 ·cases e
theorem Ja9:Line=sizeLine:=by rw[G4];rfl
section
open PySem.Spec PyProof.Rows PyProof
section
open L2
variable {X:Cx}
def Joq:OpR X (F4 .Add) (λx y H Q=>∃a b ys,x=.ref a/\y=.ref b/\SqT X.K H a []/\SqT X.K H b ys/\Q (.ref b) H):=by
 intro pins s U H x y v u Q I rx ry h;obtain⟨a,b,ys,rfl,rfl,ha,hb,q⟩:=h;cases rx;cases ry;obtain⟨its,r1,p1,_⟩:=I.tuple ha;obtain⟨its2,r2,p2,_⟩:=I.tuple hb;have hn:its=[]:=r1.nil_iff.mpr rfl;subst hn;obtain⟨⟨cls,dd,data,sl⟩,ho,hc,n,hd⟩:=id p1;obtain⟨⟨cls2,dd2,data2,sl2⟩,ho2,hc2,n2,hd2⟩:=id p2;simp only at hc hd hc2 hd2;subst hc hd hc2 hd2;exact Ls ⟨_,ho,rfl⟩ ⟨_,ho2,rfl⟩ Ml N7 Js Jd (Ip _ _) (PyProof.Rows.tuple_addW0 a b #[] its2.toArray n n2 dd dd2 sl sl2 rfl) ⟨ho,ho2,⟨.ref b,H,I,rfl,q⟩⟩
end
end
def rB(K:Af)(o:Bop):R2:=λx y H Q=>∃ρ S dx dy d S',RelS K ρ S H/\RelD K ρ H dx x/\RelD K ρ H dy y/\bop o dx dy S=.ok d S'/\Fin K ρ H d S' Q
def Jnd{i:Int}(h:i.natAbs<2^4096):Bx i<=2^20:=by
 unfold Bx;split
 ·exact Cz _
 ·have hp:i.natAbs≠0:=by
   rename_i z;intro e;exact z (by simp[Int.natAbs_eq_zero.mp e])
  have:i.natAbs.log2<4096:=(Nat.log2_lt hp).mpr h;have:(2:Nat)^20=1048576:=by decide
  lia
def Jto{n:Nat}(h:n<2^4096):n.log2<9000:=by
 by_cases e:n=0
 ·subst e;decide+kernel
 ·have:=(Nat.log2_lt e).mpr h
  lia
section
variable {X:Cx}
def Jtg:OpR X (F4 .Mult) (rI (λi j=>(small i||small j||(mid i&&mid j))=true) λi j=>.int (i*j)):=opI λi j _ _ _ _ _ hc q=>PyProof.Rows.mul_int q (by
 simp only[Ht,Ai,small,mid,decide_eq_true_eq]at hc;rcases hc with(h|h)|h
 ·exact Zi.ok (.inl h)
 ·exact Zi.ok (.inr h)
 ·exact IntMulOk.of_bits (Jnd h.1) (Jnd h.2))
def Jop:OpR X (F4 .FloorDiv) (rI (λ_ j=>0<j/\j.natAbs<2^4096) λi j=>.int (i/j)):=opI λi j _ _ _ _ _ hc q=>by
 refine PyProof.Rows.floordiv_int (by omega) ?_ (.inl (PyProof.noPylong_of_log2 (Jto hc.2)));rw[Oh i (by omega)];exact q
theorem Jyb(o:Bop):OpR X (F4 (Waw o)) (rB X.K o):=by
 intro pins s U H x y v u Q I rx ry hq_;obtain⟨ρ,S,dx,dy,d,S',rs,r1,r2,e,fin⟩:=hq_;cases o with
 |add=>
  cases dx<;>first|exact absurd e Jab|(cases dy<;>first|exact absurd e Jab|(delta bop at e;dsimp only at e))
  ·cases e;cases r1.int_inv;cases r2.int_inv;exact Jwp pins s U H _ _ v u Q I rx ry ⟨_,_,rfl,rfl,fin.now rs (RelD.int _)⟩
  ·split at e
   ·rename_i hl;cases e;obtain⟨a,xs,rfl,q1,t1⟩:=r1.tup_inv;obtain⟨b,ys,rfl,q2,t2⟩:=r2.tup_inv
    by_cases hds:xs=[]
    ·subst hds;have:=t1.length;rw[Ez]at this;have ea:=O9.mp this;subst ea;refine Joq pins s U H _ _ v u Q I rx ry ⟨a,b,ys,rfl,rfl,q1,q2,fin.now rs ?_⟩;simp only[RelD,List.nil_append];exact⟨b,ys,rfl,q2,t2⟩
    refine Jth pins s U H _ _ v u Q I rx ry ⟨a,b,xs,ys,rfl,rfl,q1,q2,hds,?_,λey=>?_,λ_=>fin.newT rs (t1.append t2)⟩
    ·rw[<-t1.length,<-t2.length,<-Ja9];exact hl
    ·subst ey;have:=t2.length;rw[Ez]at this;have eb:=O9.mp this;subst eb;refine fin.now rs ?_;simp only[RelD,Ec];exact⟨a,xs,rfl,q1,t1⟩
   ·cases e
  ·split at e
   ·rename_i a b ha hb;split at e
    ·rename_i hl;cases e;obtain⟨p,xs,rfl,_,q1,t1⟩:=rs.lst r1 ha;obtain⟨p2,ys,rfl,_,q2,t2⟩:=rs.lst r2 hb;exact Jwo pins s U H _ _ v u Q I rx ry ⟨p,p2,xs,ys,rfl,rfl,q1,q2,by rw[<-t1.length,<-t2.length,<-Ja9];exact hl,fin.newL rs (t1.append t2)⟩
    ·cases e
   ·cases e
  ·split at e
   ·rename_i b hb;split at e
    ·rename_i hl;cases e;obtain⟨p,xs,rfl,q1,t1⟩:=r1.kl_inv;obtain⟨p2,ys,rfl,_,q2,t2⟩:=rs.lst r2 hb;exact Jti pins s U H _ _ v u Q I rx ry ⟨p,p2,xs,ys,rfl,rfl,q1.sq,SqL.of q2,by rw[<-t1.length,<-t2.length,<-Ja9];exact hl,fin.newL rs (t1.append t2)⟩
    ·cases e
   ·cases e
 |shr=>
  cases dx<;>first|exact absurd e Jab|(cases dy<;>first|exact absurd e Jab|(delta bop at e;dsimp only at e))
  split at e
  ·rename_i hl;cases e;cases r1.int_inv;cases r2.int_inv;exact Jwk pins s U H _ _ v u Q I rx ry ⟨_,_,rfl,rfl,hl,fin.now rs (RelD.int _)⟩
  ·cases e
 |sub=>
  cases dx<;>first|exact absurd e Jab|(cases dy<;>first|exact absurd e Jab|(delta bop at e;dsimp only at e))
  cases e;cases r1.int_inv;cases r2.int_inv;exact Jwj pins s U H _ _ v u Q I rx ry ⟨_,_,rfl,rfl,fin.now rs (RelD.int _)⟩
 |mul=>
  cases dx<;>first|exact absurd e Jab|(cases dy<;>first|exact absurd e Jab|(delta bop at e;dsimp only at e))
  split at e
  ·rename_i hl;cases e;cases r1.int_inv;cases r2.int_inv;exact Jtg pins s U H _ _ v u Q I rx ry ⟨_,_,rfl,rfl,hl,fin.now rs (RelD.int _)⟩
  ·cases e
 |fdiv=>
  cases dx<;>first|exact absurd e Jab|(cases dy<;>first|exact absurd e Jab|(delta bop at e;dsimp only at e))
  split at e
  ·rename_i hl;cases e;cases r1.int_inv;cases r2.int_inv;exact Jop pins s U H _ _ v u Q I rx ry ⟨_,_,rfl,rfl,hl,fin.now rs (RelD.int _)⟩
  ·cases e
 |mod=>
  cases dx<;>first|exact absurd e Jab|(cases dy<;>first|exact absurd e Jab|(delta bop at e;dsimp only at e))
  split at e
  ·rename_i hl;cases e;cases r1.int_inv;cases r2.int_inv;exact Jwm pins s U H _ _ v u Q I rx ry ⟨_,_,rfl,rfl,hl,fin.now rs (RelD.int _)⟩
  ·cases e
 |pow=>
  cases dx<;>first|exact absurd e Jab|(cases dy<;>first|exact absurd e Jab|(delta bop at e;dsimp only at e))
  split at e
  ·rename_i hl;simp only[Ai,decide_eq_true_eq]at hl;cases e;cases r1.int_inv;cases r2.int_inv;exact Jwl pins s U H _ _ v u Q I rx ry ⟨_,_,rfl,rfl,⟨hl.1.1,hl.1.2,hl.2⟩,fin.now rs (RelD.int _)⟩
  ·cases e
end
theorem in1_units(A:Bi):A.in1.units=A.units+1:=rfl
section
variable {X:Cx} {pins:List (Addr×D9)} {U:L2.St} {s:Shared}
theorem Jvx(ry:RelV y u)(rx:RelV x v)(fy:W7 y=true)(fx:W7 x=true):Qq A s u v (eqV y x):=by
 cases y with
 |non=>
  cases ry;cases x with
  |non=>cases rx;exact SeqAt.RcAt.none_none
  |bl b=>cases rx;exact SeqAt.RcAt.none_bool b
  |int b=>obtain⟨t,rfl⟩:=rx;exact SeqAt.RcAt.none_int b t
  |str b=>obtain⟨t,rfl⟩:=rx;exact SeqAt.RcAt.none_str b t
  |_=>exact fx9 (show false=true from fx)
 |bl a=>
  cases ry;cases x with
  |non=>cases rx;exact SeqAt.RcAt.bool_none a
  |bl b=>cases rx;exact SeqAt.RcAt.bool_bool a b
  |int b=>obtain⟨t,rfl⟩:=rx;exact SeqAt.RcAt.bool_int a b t
  |str b=>obtain⟨t,rfl⟩:=rx;exact SeqAt.RcAt.bool_str a b t
  |_=>exact fx9 (show false=true from fx)
 |int a=>
  obtain⟨t',rfl⟩:=ry;cases x with
  |non=>cases rx;exact SeqAt.RcAt.int_none a t'
  |bl b=>cases rx;exact SeqAt.RcAt.int_bool a t' b
  |int b=>obtain⟨t,rfl⟩:=rx;exact SeqAt.RcAt.int_int a t' b t
  |str b=>obtain⟨t,rfl⟩:=rx;exact SeqAt.RcAt.int_str a t' b t
  |_=>exact fx9 (show false=true from fx)
 |str a=>
  obtain⟨t',rfl⟩:=ry;cases x with
  |non=>cases rx;exact SeqAt.RcAt.str_none a t'
  |bl b=>cases rx;exact SeqAt.RcAt.str_bool a t' b
  |int b=>obtain⟨t,rfl⟩:=rx;exact SeqAt.RcAt.str_int a t' b t
  |str b=>obtain⟨t,rfl⟩:=rx;exact SeqAt.RcAt.str_str a t' b t
  |_=>exact fx9 (show false=true from fx)
 |_=>exact fx9 (show false=true from fy)
def Jd7(h:RelD K ρ H x v)(e:V0 x=some w):v=w/\W7 w=true:=by
 cases x<;>simp only[V0]at e<;>try (cases e;done)
 ·cases e;exact⟨h.non_inv,rfl⟩
 ·cases e;exact⟨h.bl_inv,rfl⟩
 ·cases e;exact⟨h.int_inv,rfl⟩
 ·cases e;exact⟨h.str_inv,rfl⟩
theorem Jdt{f:D->D->Option Bool}:∀{as bs:List D} {b:Bool},eqL f as bs=some b->as.length=bs.length->∀(i:Nat) (x y:D),as[i]? =some x->bs[i]? =some y->∃c,f x y=some c
 |[],[],b,_,_,i,x,y,h1,_=>by simp at h1
 |[],_::_,b,_,hl,i,x,y,h1,_=>by simp at h1
 |_::_,[],b,_,hl,i,x,y,_,h2=>by simp at h2
 |a::as,c::bs,b,e,hl,i,x,y,h1,h2=>by
  simp only[eqL]at e;split at e
  ·rename_i p q hp hq;cases i with
   |zero=>simp at h1 h2;subst h1 h2;exact⟨p,hp⟩
   |succ i=>exact Jdt hq (by simpa using hl) i x y (by simpa using h1) (by simpa using h2)
  ·cases e
theorem Jiw{f:D->D->Option Bool}(e:Nat->Bool):∀{as bs:List D} {b:Bool} (k:Nat),eqL f as bs=some b->as.length=bs.length->(∀(i:Nat) (x y:D),as[i]? =some x->bs[i]? =some y->f x y=some (e (k+i)))->b=((B3 as.length).map (k+·)).all e
 |[],[],b,k,h,_,_=>by simp only[eqL]at h;cases h;rfl
 |[],_::_,b,k,h,hl,_=>by simp at hl
 |_::_,[],b,k,h,hl,_=>by simp at hl
 |a::as,c::bs,b,k,h,hl,hf=>by
  simp only[eqL]at h;split at h
  ·rename_i p q hp hq;cases h;have h0:=hf 0 a c rfl rfl;rw[hp]at h0;have h0:p=e (k+0):=Bb h0;have h1:=Jiw e (k+1) hq (by simpa using hl) λi x y e1 e2=>by
    have:=hf (i+1) x y (by simpa using e1) (by simpa using e2);rw[show k+1+i=k+(i+1)from by lia];exact this
   rw[h0,h1,A5,Pl,Ay,Lh,B4];congr 2;refine Eh λi _=>?_;show k+1+i=k+(i+1)
   lia
  ·cases h
theorem Jjp(I:Inv X pins U H s)(r:RelS X.K ρ S H):∀(n:Nat) {x y:D} {v:V} {b:Bool},RelD X.K ρ H x v->RelD X.K ρ H y v->eqD S n x y=some b->b=true:=by
 have sc:∀{x y:D} {v w z:V} {b:Bool},RelD X.K ρ H x v->RelD X.K ρ H y v->V0 x=some w->V0 y=some z->some (eqV w z)=some b->b=true:=λ{x y v w z b} h1 h2 e1 e2 e=>by
  obtain⟨rfl,f1⟩:=Jd7 h1 e1;obtain⟨rfl,f2⟩:=Jd7 h2 e2;cases e;cases v<;>first|rfl|exact fx9 f1|exact beq_self_eq_true _
 intro n
 induction n with
 |zero=>
  intro x y v b h1 h2 e;simp only[eqD]at e;split at e
  ·rename_i w z e1 e2;exact sc h1 h2 e1 e2 e
  ·cases e
 |succ n ih=>
  intro x y v b h1 h2 e;have ihL:∀{as bs:List D} {vs:List V} {b:Bool},RelDs X.K ρ H as vs->RelDs X.K ρ H bs vs->eqL (eqD S n) as bs=some b->b=true:=by
   intro as
   induction as with
   |nil=>
    intro bs vs b h1 h2 e;cases bs with
    |nil=>simp only[eqL]at e;cases e;rfl
    |cons c bs=>
     rw[h1.inv_nil]at h2;obtain⟨_,_,z,_⟩:=h2.inv_cons;cases z
   |cons a as iha=>
    intro bs vs b h1 h2 e;obtain⟨w,ws,rfl,q1,t1⟩:=h1.inv_cons;cases bs with
    |nil=>cases h2.inv_nil
    |cons c bs=>
     obtain⟨w',ws',z,q2,t2⟩:=h2.inv_cons;cases z;simp only[eqL]at e;split at e
     ·rename_i p q hp hq;cases e;rw[ih q1 q2 hp,iha t1 t2 hq];rfl
     ·cases e
  simp only[eqD]at e;split at e
  ·rename_i as bs;obtain⟨a,xs,rfl,p1,t1⟩:=h1.tup_inv;obtain⟨a',xs',e',p2,t2⟩:=h2.tup_inv;cases e';cases I.tuple_inj p1 p2;have hl:as.length=bs.length:=t1.length.trans t2.length.symm;rw[if_pos hl]at e;exact ihL t1 t2 e
  ·rename_i l k;obtain⟨a,rfl,p1⟩:=h1.loc_inv;obtain⟨a',e',p2⟩:=h2.loc_inv;cases e';have hlk:l=k:=Jc3 r.nd p1 p2;subst hlk;split at e
   ·rename_i as bs e1 e2;rw[e1]at e2;cases e2;rw[if_pos rfl]at e;obtain⟨b',xs,_,_,_,t⟩:=r.lst h1 (Jan e1);exact ihL t t e
   ·cases e
  ·split at e
   ·rename_i w z e1 e2;exact sc h1 h2 e1 e2 e
   ·cases e
end
end Mi
namespace Mi
open PySem L2
theorem Jn3(ry:RelV y u)(rx:RelV x v)(fy:W7 y=true)(fx:W7 x=true):O6 A s u v (!eqV y x):=by
 cases y with
 |non=>
  cases ry;cases x with
  |non=>cases rx;exact SeqAt.RcNeAt.none_none
  |bl b=>cases rx;exact SeqAt.RcNeAt.none_bool b
  |int b=>obtain⟨t,rfl⟩:=rx;exact SeqAt.RcNeAt.none_int b t
  |str b=>obtain⟨t,rfl⟩:=rx;exact SeqAt.RcNeAt.none_str b t
  |_=>exact fx9 (show false=true from fx)
 |bl a=>
  cases ry;cases x with
  |non=>cases rx;exact SeqAt.RcNeAt.bool_none a
  |bl b=>cases rx;exact SeqAt.RcNeAt.bool_bool a b
  |int b=>obtain⟨t,rfl⟩:=rx;exact SeqAt.RcNeAt.bool_int a b t
  |str b=>obtain⟨t,rfl⟩:=rx;exact SeqAt.RcNeAt.bool_str a b t
  |_=>exact fx9 (show false=true from fx)
 |int a=>
  obtain⟨t',rfl⟩:=ry;cases x with
  |non=>cases rx;exact SeqAt.RcNeAt.int_none a t'
  |bl b=>cases rx;exact SeqAt.RcNeAt.int_bool a t' b
  |int b=>obtain⟨t,rfl⟩:=rx;exact SeqAt.RcNeAt.int_int a t' b t
  |str b=>obtain⟨t,rfl⟩:=rx;exact SeqAt.RcNeAt.int_str a t' b t
  |_=>exact fx9 (show false=true from fx)
 |str a=>
  obtain⟨t',rfl⟩:=ry;cases x with
  |non=>cases rx;exact SeqAt.RcNeAt.str_none a t'
  |bl b=>cases rx;exact SeqAt.RcNeAt.str_bool a t' b
  |int b=>obtain⟨t,rfl⟩:=rx;exact SeqAt.RcNeAt.str_int a t' b t
  |str b=>obtain⟨t,rfl⟩:=rx;exact SeqAt.RcNeAt.str_str a t' b t
  |_=>exact fx9 (show false=true from fx)
 |_=>exact fx9 (show false=true from fy)
section
variable {X:Cx} {pins:List (Addr×D9)} {U:L2.St} {s:Shared} {ρ:List Addr} {H:Hp} {S:Store}
structure X8(A:Bi)(s:Shared)(u w:Value)(b:Bool):Prop where
 eq:Fm A s u w b
 rc:Qq A s u w b
 ne:O6 A s u w (!b)
def Jmt(h1:RelD X.K ρ H x vx)(h2:RelD X.K ρ H y vy)(r1:RelV vx u)(r2:RelV vy w)(e1:V0 x=some p)(e2:V0 y=some q)(e:some (eqV p q)=some b):X8 A s u w b:=by
 obtain⟨rfl,f1⟩:=Jd7 h1 e1;obtain⟨rfl,f2⟩:=Jd7 h2 e2;cases e;exact⟨Jxr r1 r2 f1 f2,Jvx r1 r2 f1 f2,Jn3 r1 r2 f1 f2⟩
def Jlw{us ws:List Value}(t1:RelDs X.K ρ H as xs)(t2:RelDs X.K ρ H bs ys)(v1:Vals xs us)(v2:Vals ys ws)(h1:j<us.toArray.size)(h2:j<ws.toArray.size):
  ∃a b v z,as[j]? =some a/\bs[j]? =some b/\RelD X.K ρ H a v/\RelD X.K ρ H b z/\RelV v us.toArray[j]/\RelV z ws.toArray[j]:=by
 have l1:j<as.length:=by rw[t1.length,v1.length];simpa using h1
 have l2:j<bs.length:=by rw[t2.length,v2.length];simpa using h2
 obtain⟨v,e1,q1⟩:=t1.get (Ag l1);obtain⟨z,e2,q2⟩:=t2.get (Ag l2);obtain⟨u',e3,q3⟩:=v1.get e1;obtain⟨w',e4,q4⟩:=v2.get e2;refine⟨_,_,v,z,Ag l1,Ag l2,q1,q2,?_,?_⟩
 ·have:us.toArray[j]=u':=by
   have:=Ae.mp e3;obtain⟨_,e⟩:=this
   simpa using e
  rw[this];exact q3
 ·have:ws.toArray[j]=w':=by
   have:=Ae.mp e4;obtain⟨_,e⟩:=this
   simpa using e
  rw[this];exact q4
theorem Jhl(I:Inv X pins U H s)(r:RelS X.K ρ S H):∀(n:Nat) {A:Bi} {x y:D} {vx vy:V} {u w:Value} {b:Bool},A.units+n<C0->RelD X.K ρ H x vx->RelD X.K ρ H y vy->RelV vx u->RelV vy w->eqD S n x y=some b->X8 A s u w b:=by
 intro n
 induction n with
 |zero=>
  intro A x y vx vy u w b hu h1 h2 r1 r2 e;simp only[eqD]at e;split at e
  ·rename_i p q e1 e2;exact Jmt h1 h2 r1 r2 e1 e2 e
  ·cases e
 |succ n ih=>
  intro A x y vx vy u w b hu h1 h2 r1 r2 e;have e0:=e;have hu0:A.units<C0:=by lia
  have hu1:A.in1.units+n<C0:=by rw[in1_units];lia
  simp only[eqD]at e;split at e
  ·rename_i as bs;obtain⟨a,xs,rfl,p1,t1⟩:=h1.tup_inv;obtain⟨c,ys,rfl,p2,t2⟩:=h2.tup_inv;cases r1;cases r2;obtain⟨us,v1,i1,z1⟩:=I.tuple p1;obtain⟨ws,v2,i2,z2⟩:=I.tuple p2;have s1:us.toArray.size=as.length:=by rw[Ar,<-v1.length,t1.length]
   have s2:ws.toArray.size=bs.length:=by rw[Ar,<-v2.length,t2.length]
   let ev:Nat->Bool:=λj=>match as[j]?,bs[j]? with|some p,some q=>(eqD S n p q).getD false|_,_=>false
   have he:∀(hs:∀(j:Nat) (p q:D),as[j]? =some p->bs[j]? =some q->∃c,eqD S n p q=some c) (j:Nat) (g1:j<us.toArray.size) (g2:j<ws.toArray.size),Fm A.in1 s us.toArray[j] ws.toArray[j] (ev j):=λhs j g1 g2=>by
    obtain⟨p,q,v,z,a1,a2,q1,q2,q3,q4⟩:=Jlw t1 t2 v1 v2 g1 g2;obtain⟨c,hc⟩:=hs j p q a1 a2;have:ev j=c:=by simp only[ev,a1,a2,hc];rfl
    rw[this];exact(ih hu1 q1 q2 q3 q4 hc).eq
   have fin:∀(hs:∀(j:Nat) (p q:D),as[j]? =some p->bs[j]? =some q->∃c,eqD S n p q=some c),((B3 (min us.toArray.size ws.toArray.size)).all ev&&us.toArray.size==ws.toArray.size)=b->X8 A s (.ref a) (.ref c) b:=λhs hb=>by
    have rc:=SeqAt.RcAt.tuples (show s.heap.IsTuple a us.toArray from i1) (show s.heap.IsTuple c ws.toArray from i2) hu0 (he hs);have ne:=SeqAt.RcNeAt.tuples (show s.heap.IsTuple a us.toArray from i1) (show s.heap.IsTuple c ws.toArray from i2) hu0 (he hs);rw[hb]at rc ne;refine⟨?_,rc,ne⟩
    by_cases hac:a=c
    ·subst hac;have:=Jjp I r (n+1) h1 h2 e0;subst this;exact Lk _
    ·exact Ot hac rc
   split at e
   ·rename_i hl;refine fin (λj p q a1 a2=>Jdt e hl j p q a1 a2) ?_;rw[s1,s2,hl,Nat.min_self,beq_self_eq_true,Ux];rw[Jiw ev 0 e hl λj p q a1 a2=>?_]
    ·rw[hl];congr 1;exact(Vf _).symm.trans (Eh λj _=>(E4 j).symm)
    ·obtain⟨c',hc'⟩:=Jdt e hl j p q a1 a2;rw[hc',E4];simp only[ev,a1,a2,hc'];rfl
   ·rename_i hl;split at e
    ·rename_i hsome;cases e;obtain⟨b',hb'⟩:=Bw.mp hsome;refine fin (λj p q a1 a2=>?_) ?_
     ·have l1:=(Ae.mp a1).1;have l2:=(Ae.mp a2).1;refine Jdt hb' (by rw[Gb,Gb,Nat.min_comm]) j p q ?_ ?_
      ·rw[Gn l2];exact a1
      ·rw[Gn l1];exact a2
     ·have:(us.toArray.size==ws.toArray.size)=false:=by rw[s1,s2];simpa using hl
      rw[this,Ik]
    ·cases e
  ·rename_i l k;split at e
   ·rename_i as bs e1 e2;obtain⟨a,xs,rfl,_,p1,t1⟩:=r.lst h1 (Jan e1);obtain⟨c,ys,rfl,_,p2,t2⟩:=r.lst h2 (Jan e2);cases r1;cases r2;obtain⟨us,v1,i1,z1⟩:=I.list (SqL.of p1);obtain⟨ws,v2,i2,z2⟩:=I.list (SqL.of p2);have s1:us.toArray.size=as.length:=by rw[Ar,<-v1.length,t1.length]
    have s2:ws.toArray.size=bs.length:=by rw[Ar,<-v2.length,t2.length]
    have fin:∀(rc:Qq A s (.ref a) (.ref c) b) (ne:O6 A s (.ref a) (.ref c) (!b)),X8 A s (.ref a) (.ref c) b:=λrc ne=>by
     refine⟨?_,rc,ne⟩
     by_cases hac:a=c
     ·subst hac;have:=Jjp I r (n+1) h1 h2 e0;subst this;exact Lk _
     ·exact Ot hac rc
    split at e
    ·rename_i hl
     let ev:Nat->Bool:=λj=>match as[j]?,bs[j]? with|some p,some q=>(eqD S n p q).getD false|_,_=>false
     have he:∀(j:Nat) (g1:j<us.toArray.size) (g2:j<ws.toArray.size),Fm A.in1 s us.toArray[j] ws.toArray[j] (ev j):=λj g1 g2=>by
      obtain⟨p,q,v,z,a1,a2,q1,q2,q3,q4⟩:=Jlw t1 t2 v1 v2 g1 g2;obtain⟨c,hc⟩:=Jdt e hl j p q a1 a2;have:ev j=c:=by simp only[ev,a1,a2,hc];rfl
      rw[this];exact(ih hu1 q1 q2 q3 q4 hc).eq
     have hb:(B3 us.toArray.size).all ev=b:=by
      rw[s1];rw[Jiw ev 0 e hl λj p q a1 a2=>?_]
      ·congr 1;exact(Vf _).symm.trans (Eh λj _=>(E4 j).symm)
      ·obtain⟨c',hc'⟩:=Jdt e hl j p q a1 a2;rw[hc',E4];simp only[ev,a1,a2,hc'];rfl
     have rc:=SeqAt.RcAt.lists i1.isList i2.isList (by rw[s1,s2,hl]) hu0 he;have ne:=SeqAt.RcNeAt.lists i1.isList i2.isList (by rw[s1,s2,hl]) hu0 he;rw[hb]at rc ne;exact fin rc ne
    ·rename_i hl;cases e;have hsz:(us.toArray.size !=ws.toArray.size)=true:=by rw[s1,s2];simpa using hl
     exact fin (SeqAt.RcAt.lists_lengths i1.isList i2.isList hsz hu0) (SeqAt.RcNeAt.lists_lengths i1.isList i2.isList hsz hu0)
   ·cases e
  ·split at e
   ·rename_i p q e1 e2;exact Jmt h1 h2 r1 r2 e1 e2 e
   ·cases e
end
section
variable {X:Cx} {ρ:List Addr} {H:Hp} {S:Store} {pins:List (Addr×D9)} {U:L2.St} {s:Shared}
def Jc4(I:Inv X pins U H s)(h1:SqL X.K H a xs)(h2:SqT X.K H a ys):False:=by
 obtain⟨its,_,⟨o,n,e,c,_⟩,_⟩:=I.list h1;obtain⟨its2,_,⟨o2,e2,c2,_⟩,_⟩:=I.tuple h2;rw[e]at e2;cases e2;rw[c]at c2;injection c2 with z;exact absurd z (by decide)
def Jfi(I:Inv X pins U H s)(h1:SqL X.K H a xs)(h2:Vx X.K a kvs):False:=by
 obtain⟨its,_,⟨o,n,e,c,_⟩,_⟩:=I.list h1;obtain⟨o2,e2,x⟩:=h2.obj I.kIn;rw[e]at e2;cases e2;have c2:=x.1;rw[c]at c2;injection c2 with z;exact absurd z (by decide)
def Jes(I:Inv X pins U H s)(h1:SqT X.K H a xs)(h2:Vx X.K a kvs):False:=by
 obtain⟨its,_,⟨o,e,c,_⟩,_⟩:=I.tuple h1;obtain⟨o2,e2,x⟩:=h2.obj I.kIn;rw[e]at e2;cases e2;have c2:=x.1;rw[c]at c2;injection c2 with z;exact absurd z (by decide)
theorem Vx.look{K:Af}(d:Vx K a kvs):∃o,K.lookup a=some o:=by
 unfold Vx K7 at d;cases h:K.lookup a with
 |none=>simp[h]at d
 |some o=>exact⟨o,rfl⟩
theorem Jd8(h:RelO K ρ H a o):∃o0:HO,H a=Option.some o0/\(∀xs,o0≠ .tup xs)/\∀u w,o0≠ .frz u (.tup w)/\o0≠ .frz u (.lst w):=by
 cases o with
 |lst ds=>obtain⟨xs,e,_⟩:=h;exact⟨_,e,(λ_ z=>by cases z),(λ_ _=>⟨nofun,nofun⟩)⟩
 |dct ds=>obtain⟨xs,e,_⟩:=h;exact⟨_,e,(λ_ z=>by cases z),(λ_ _=>⟨nofun,nofun⟩)⟩
 |dtu ds=>obtain⟨xs,e,_⟩:=h;exact⟨_,e,(λ_ z=>by cases z),(λ_ _=>⟨nofun,nofun⟩)⟩
 |fz ds=>obtain⟨xs,o,e,_⟩:=h;exact⟨_,e,(λ_ z=>by cases z),(λ_ _=>⟨nofun,nofun⟩)⟩
 |rg ds=>obtain⟨xs,e,_⟩:=h;exact⟨_,e,(λ_ z=>by cases z),(λ_ _=>⟨nofun,nofun⟩)⟩
 |ins c fs=>obtain⟨C,dx,ws,n,e,r⟩:=h;exact⟨_,e,(λ_ z=>by cases z),(λ_ _=>⟨nofun,nofun⟩)⟩
def Waz(I:Inv X pins U H s){xs:List V}(e:H a=some o0)(m1:∀xs,o0≠ .tup xs)(m2:∀u w,o0≠ .frz u (.tup w)/\o0≠ .frz u (.lst w))(q:SqT X.K H a xs):False:=by
 rcases q with q|⟨o,_,_,hk,_⟩
 ·rw[e]at q;exact m1 _ (Bb q)
 ·have z:=(I.bs a o (I.ok.mod.kin a o hk)).2;rw[e]at z;cases z
def Wa0(I:Inv X pins U H s)(e:H a=some o0)(m2:∀u w,o0≠ .frz u (.tup w)/\o0≠ .frz u (.lst w))(q:SqF X.K H a xs):False:=by
 rcases q with⟨o,q⟩|⟨o,_,_,hk,_⟩
 ·rw[e]at q;exact(m2 _ _).2 (Bb q)
 ·have z:=(I.bs a o (I.ok.mod.kin a o hk)).2;rw[e]at z;cases z
def Wa1(I:Inv X pins U H s)(e:H a=some o0)(q:Vx X.K a kvs):False:=by
 obtain⟨o,hk⟩:=q.look;have z:=(I.bs a o (I.ok.mod.kin a o hk)).2;rw[e]at z;cases z
mutual
theorem RelD.inj(I:Inv X pins U H s)(r:RelS X.K ρ S H):∀{d d':D} {v:V},RelD X.K ρ H d v->RelD X.K ρ H d' v->d=d'
 |.non,d',v,h,h'=>by
  cases h.non_inv;cases d'<;>simp only[RelD]at h'<;>first|rfl|(cases h';done)|(obtain⟨_,_,e,_⟩:=h';cases e)|(obtain⟨_,e,_⟩:=h';cases e)
 |.bl b,d',v,h,h'=>by
  cases h.bl_inv;cases d'<;>simp only[RelD]at h'<;>first|(cases h';rfl)|(cases h';done)|(obtain⟨_,_,e,_⟩:=h';cases e)|(obtain⟨_,e,_⟩:=h';cases e)
 |.int b,d',v,h,h'=>by
  cases h.int_inv;cases d'<;>simp only[RelD]at h'<;>first|(cases h';rfl)|(cases h';done)|(obtain⟨_,_,e,_⟩:=h';cases e)|(obtain⟨_,e,_⟩:=h';cases e)
 |.str b,d',v,h,h'=>by
  cases h.str_inv;cases d'<;>simp only[RelD]at h'<;>first|(cases h';rfl)|(cases h';done)|(obtain⟨_,_,e,_⟩:=h';cases e)|(obtain⟨_,e,_⟩:=h';cases e)
 |.tup ds,d',v,h,h'=>by
  obtain⟨a,xs,rfl,q,t⟩:=h.tup_inv;cases d' with
  |tup es=>
   obtain⟨a',xs',e,q',t'⟩:=h'.tup_inv;cases e;cases I.tuple_inj q q';rw[RelDs.inj I r t t']
  |loc l=>
   obtain⟨a',e,hl⟩:=h'.loc_inv;cases e;obtain⟨o,_,ho⟩:=r.at hl;obtain⟨o0,e0,m1,m2⟩:=Jd8 ho;exact(Waz I e0 m1 m2 q).elim
  |kl es=>
   obtain⟨a',xs',e,q',t'⟩:=h'.kl_inv;cases e;exact(Jc4 I q'.sq q).elim
  |kd kvs=>
   obtain⟨a',e,q'⟩:=h'.kd_inv;cases e;exact(Jes I q q').elim
  |_=>simp only[RelD]at h';cases h'
 |.loc l,d',v,h,h'=>by
  obtain⟨a,rfl,hl⟩:=h.loc_inv;obtain⟨o,_,ho⟩:=r.at hl;obtain⟨o0,e0,m1,m2⟩:=Jd8 ho;cases d' with
  |loc k=>
   obtain⟨a',e,hk⟩:=h'.loc_inv;cases e;rw[Jc3 r.nd hl hk]
  |tup es=>
   obtain⟨a',xs',e,q',t'⟩:=h'.tup_inv;cases e;exact(Waz I e0 m1 m2 q').elim
  |kl es=>
   obtain⟨a',xs',e,q',t'⟩:=h'.kl_inv;cases e;exact(Wa0 I e0 m2 q').elim
  |kd kvs=>
   obtain⟨a',e,q'⟩:=h'.kd_inv;cases e;exact(Wa1 I e0 q').elim
  |_=>simp only[RelD]at h';cases h'
 |.kl ds,d',v,h,h'=>by
  obtain⟨a,xs,rfl,q,t⟩:=h.kl_inv;cases d' with
  |kl es=>
   obtain⟨a',xs',e,q',t'⟩:=h'.kl_inv;cases e;cases I.list_inj q.sq q'.sq;rw[RelDs.inj I r t t']
  |loc l=>
   obtain⟨a',e,hl⟩:=h'.loc_inv;cases e;obtain⟨o,_,ho⟩:=r.at hl;obtain⟨o0,e0,m1,m2⟩:=Jd8 ho;exact(Wa0 I e0 m2 q).elim
  |tup es=>
   obtain⟨a',xs',e,q',t'⟩:=h'.tup_inv;cases e;exact(Jc4 I q.sq q').elim
  |kd kvs=>
   obtain⟨a',e,q'⟩:=h'.kd_inv;cases e;exact(Jfi I q.sq q').elim
  |_=>simp only[RelD]at h';cases h'
 |.kd kvs,d',v,h,h'=>by
  obtain⟨a,rfl,q⟩:=h.kd_inv;cases d' with
  |kd kvs'=>
   obtain⟨a',e,q'⟩:=h'.kd_inv;cases e;rw[q.inj q' I.kIn]
  |tup es=>
   obtain⟨a',xs',e,q',t'⟩:=h'.tup_inv;cases e;exact(Jes I q' q).elim
  |loc l=>
   obtain⟨a',e,hl⟩:=h'.loc_inv;cases e;obtain⟨o,_,ho⟩:=r.at hl;obtain⟨o0,e0,m1,m2⟩:=Jd8 ho;exact(Wa1 I e0 q).elim
  |kl es=>
   obtain⟨a',xs',e,q',t'⟩:=h'.kl_inv;cases e;exact(Jfi I q'.sq q).elim
  |_=>simp only[RelD]at h';cases h'
theorem RelDs.inj(I:Inv X pins U H s)(r:RelS X.K ρ S H):∀{ds ds':List D} {vs:List V},RelDs X.K ρ H ds vs->RelDs X.K ρ H ds' vs->ds=ds'
 |[],ds',vs,h,h'=>by
  rw[h.inv_nil]at h';cases ds' with
  |nil=>rfl
  |cons d es=>obtain⟨_,_,e,_⟩:=h'.inv_cons;cases e
 |d::ds,ds',vs,h,h'=>by
  obtain⟨v,ws,rfl,q,t⟩:=h.inv_cons;cases ds' with
  |nil=>cases h'.inv_nil
  |cons d' es=>
   obtain⟨v',ws',e,q',t'⟩:=h'.inv_cons;cases e;rw[RelD.inj I r q q',RelDs.inj I r t t']
end
def rC(K:Af)(o:Cop):R2:=λx y H Q=>∃ρ S dx dy k,RelS K ρ S H/\RelD K ρ H dx x/\RelD K ρ H dy y/\cop o dx dy S=some k/\Q (.bl k) H
theorem Jef(I:Inv X pins U H s)(r:RelS X.K ρ S H){A:Bi}(hu:A.units+Deep<C0)(hx:RelD X.K ρ H x vx)(rx:RelV vx w)
  {us:List Value}(t:RelDs X.K ρ H ds xs)(v:Vals xs us)(e:anyEq S Deep x ds=some b):∃e:Value->Bool,(∀u∈us,Fm A s u w (e u))/\us.any e=b:=by
 classical
 let ev:Value->Bool:=λu=>decide (∃d v,RelD X.K ρ H d v/\RelV v u/\eqD S Deep d x=some true)
 have one:∀{d:D} {v:V} {u:Value} {b:Bool},RelD X.K ρ H d v->RelV v u->eqD S Deep d x=some b->ev u=b:=λ{d v u b} h r1 e=>by
  cases b with
  |true=>exact decide_eq_true ⟨d,v,h,r1,e⟩
  |false=>
   refine decide_eq_false ?_;rintro⟨d',v',h',r2,e'⟩;cases r1.inj r2;rw[RelD.inj I r h h',e']at e;cases e
 refine⟨ev,?_⟩
 induction ds generalizing xs us b with
 |nil=>
  rw[t.inv_nil]at v;cases v;simp only[anyEq]at e;cases e;exact⟨λu hu=>by simp at hu,rfl⟩
 |cons d ds ih=>
  obtain⟨z,zs,rfl,q,t'⟩:=t.inv_cons;cases v with
  |cons r1 v'=>
   rename_i u us;simp only[anyEq]at e;split at e
   ·rename_i p p' e1 e2;cases e;obtain⟨h1,h2⟩:=ih t' v' e2;refine⟨λu' hu'=>?_,?_⟩
    ·rcases An.mp hu' with rfl|hm
     ·rw[one q r1 e1];exact(Jhl I r Deep hu q hx r1 rx e1).eq
     ·exact h1 u' hm
    ·rw[Fs,one q r1 e1,h2]
   ·cases e
def RelS.dct(rs:RelS K ρ S H)(r:RelD K ρ H (.loc l) v)(h:S[l]? =some (.dct kvs)):∃a ws,v=.ref a/\ρ[l]? =some a/\H a=some (.dK ws)/\RelKv Gf K ρ H kvs ws:=by
 obtain⟨a,rfl,hl⟩:=r.loc_inv;obtain⟨ws,e,q⟩:=rs.ob l a _ hl h;exact⟨a,ws,rfl,hl,e,q⟩
inductive DtuI (K:Af) (ρ:List Addr) (H:Hp) (l:Nat) (v:V) (kvs:List (Rdu.PK×D)):Prop
 |mk (a ws) (_:v=.ref a) (_:ρ[l]? =some a) (_:H a=some (.dT ws)) (_:RelKv pK K ρ H kvs ws):DtuI K ρ H l v kvs
def RelS.dtu(rs:RelS K ρ S H)(r:RelD K ρ H (.loc l) v)(h:S[l]? =some (.dtu kvs)):DtuI K ρ H l v kvs:=by
 obtain⟨a,rfl,hl⟩:=r.loc_inv;obtain⟨ws,e,q⟩:=rs.ob l a _ hl h;exact⟨a,ws,rfl,hl,e,q⟩
def RelS.rgn(rs:RelS K ρ S H)(r:RelD K ρ H (.loc l) v)(h:S[l]? =some (.rg kvs)):∃a xs,v=.ref a/\ρ[l]? =some a/\H a=some (Rg a xs)/\Vn K ρ H kvs xs:=by
 obtain⟨a,rfl,hl⟩:=r.loc_inv;obtain⟨ws,e,q⟩:=rs.ob l a _ hl h;exact⟨a,ws,rfl,hl,e,q⟩
def Jez(e:dctAt S l=some kvs):S[l]? =some (.dct kvs):=by
 unfold dctAt at e;split at e
 ·cases e;assumption
 ·cases e
def Jbs(e:dtAt S l=some kvs):S[l]? =some (.dtu kvs):=by
 unfold dtAt at e;split at e
 ·cases e;assumption
 ·cases e
noncomputable def npB(K:Af):Bool:=K.all λp=>match p.2.data with
 |.seq its _=>(match its.toList with|[.int _ _,.int _ _]=>false|_=>true)
 |_=>true
def Jep(h:kyD y=some p):y=dK p:=by
 unfold kyD at h;split at h
 ·cases h;rfl
 ·cases h
def Jek(np:npB K=true)(h:RelD K ρ H (dK p) v):∃b,v=.ref b/\H b=some (.tup ((pK p).map kV)):=by
 obtain⟨a,xs,rfl,sq,t0⟩:=h.tup_inv;obtain⟨v1,r1,rfl,q1,t1⟩:=t0.inv_cons;obtain⟨v2,r2,rfl,q2,t⟩:=t1.inv_cons;cases t.inv_nil;cases q1.int_inv;cases q2.int_inv;refine⟨a,rfl,?_⟩;rcases sq with h|⟨o,its,n,hk,_,hd,_,r⟩
 ·exact h
 ·have hm:(a,o)∈K:=by obtain⟨l1,l2,e,_⟩:=List.lookup_eq_some_iff.mp hk;rw[e];simp
  have:=Dl.mp np _ hm;cases hi:its.toList with
  |nil=>rw[hi]at r;cases r
  |cons u us=>
   rw[hi]at r;cases r with
   |cons r1 r2=>
    cases r2 with
    |cons r2 r3=>
     cases r3;obtain⟨t1,rfl⟩:=r1;obtain⟨t2,rfl⟩:=r2;simp[hd,hi]at this
def Jiz(np:npB K=true)(rs:RelS K ρ S H)(r1:RelD K ρ H (.loc l) x)(r2:RelD K ρ H y vy)(e:W0 S l y=some o):
  ∃a o',x=.ref a/\IsD H a/\Xd H a vy o'/\((o=none/\o'=none)\/∃d v,o=some d/\o'=some v/\RelD K ρ H d v):=by
 unfold W0 at e;split at e
 ·rename_i kvs hk;split at e<;>try (cases e;done)
  rename_i i;cases e;obtain⟨a,ws,rfl,_,ea,q⟩:=rs.dct r1 hk;cases r2.int_inv;refine⟨a,Wa ws (Gf i),rfl,.inl ⟨ws,.inl ea⟩,.inl ⟨ws,Gf i,.inl ea,rfl,rfl⟩,?_⟩;exact q.val Jmh i
 ·rename_i kvs hk;obtain⟨p,hp,rfl⟩:=Al.mp e;cases Jep hp;obtain⟨a,ws,rfl,_,ea,q⟩:=rs.dtu r1 hk;obtain⟨b,rfl,eb⟩:=Jek np r2;exact⟨a,Wa ws (pK p),rfl,.inr ⟨ws,.inl ea⟩,Xd.t ea eb,q.val Jfg p⟩
 ·rename_i kvs hk;obtain⟨p,hp,rfl⟩:=Al.mp e;cases Jep hp;obtain⟨a,rfl,hl⟩:=r1.loc_inv;obtain⟨ws,o,ea,q⟩:=rs.ob l a _ hl hk;obtain⟨b,rfl,eb⟩:=Jek np r2;exact⟨a,Wa ws (pK p),rfl,.inr ⟨ws,.inr ⟨o,ea⟩⟩,.inr ⟨ws,_,b,.inr ⟨o,ea⟩,rfl,eb,rfl⟩,q.val Jfg p⟩
 ·cases e
theorem Jq9(np:npB K=true)(rs:RelS K ρ S H)(r1:RelD K ρ H dx x)(r2:RelD K ρ H dy y)(e:dIn dx dy S=some b):∃a,y=.ref a/\∃o,Xd H a x o/\b=o.isSome:=by
 unfold dIn at e;split at e<;>try (cases e;done)
 obtain⟨o,ho,rfl⟩:=Al.mp e;obtain⟨a,o',rfl,_,g,h⟩:=Jiz np rs r2 r1 ho;refine⟨a,rfl,o',g,?_⟩;rcases h with⟨rfl,rfl⟩|⟨d,v,rfl,rfl,_⟩<;>rfl
theorem Jl5{κ κ':Type}{f:κ->κ'}:∀{kvs:List (κ×D)} {ws:List (κ'×V)},RelKv f K ρ H kvs ws->∀w∈ws,∃p∈kvs,w.1=f p.1/\RelD K ρ H p.2 w.2
 |[],ws,h,w,hw=>by cases(show ws=[]from h);cases hw
 |p::r,ws,h,w,hw=>by
  obtain⟨v,us,rfl,q,t⟩:=h;rcases An.mp hw with rfl|hw
  ·exact⟨p,Bh,rfl,q⟩
  ·obtain⟨p',h1,h2⟩:=Jl5 t w hw;exact⟨p',Ax _ h1,h2⟩
def Jbw{α:Type}{a:α}:¬none=some a:=nofun
theorem Jfn(o:Cop)(hu:X.A.units+64<C0)(np:npB X.K=true):OpR X (D8 (W9 o)) (rC X.K o):=by
 intro pins s U H x y v u Q I rx ry hq_;obtain⟨ρ,S,dx,dy,k,rs,r1,r2,e,q⟩:=hq_;have hu2:X.A.units+Deep<C0:=by show X.A.units+12<C0;lia
 have hu3:X.A.in1.units+Deep<C0:=by rw[in1_units];show X.A.units+1+12<C0;lia
 cases o with
 |eq=>exact(Jhl I rs Deep hu2 r1 r2 rx ry e).rc X.prog X.w X.xe _ ⟨.bl k,H,I,rfl,q⟩
 |ne=>
  simp only[cop]at e;split at e
  ·rename_i k' hk;cases e;unfold Xt at hk;split at hk<;>try (cases hk;done)
   split at hk<;>try (cases hk;done)
   rename_i ka kb h1 h2;split at hk<;>try (cases hk;done)
   rename_i hall;cases hk;obtain⟨a,wa,rfl,_,ea,qa⟩:=rs.dtu r1 (Jbs h1);obtain⟨b,wb,rfl,_,eb,qb⟩:=rs.dtu r2 (Jbs h2);cases rx;cases ry;refine Jzw (by lia) I (.inl ea) (.inl eb) (by rw[<-qa.length,<-qb.length];exact hall.1) (λw hw=>?_) ⟨.bl false,H,I,rfl,q⟩;obtain⟨p,hp,e1,q1⟩:=Jl5 qa w hw;have:=Dl.mp hall.2 p hp;rw[e1];rcases qb.val Jfg p.1 with⟨z,_⟩|⟨d,v,z1,z2,z3⟩
   ·rw[z]at this;cases this
   ·rw[z1]at this;exact⟨v,z2,λu u' ru ru'=>(Jhl I rs Deep hu3 q1 z3 ru ru' (eq_of_beq this)).eq⟩
  ·simp only[Al]at e;obtain⟨b,e,rfl⟩:=e;exact(Jhl I rs Deep hu2 r1 r2 rx ry e).ne X.prog X.w X.xe _ ⟨.bl (!b),H,I,rfl,q⟩
 |lt=>
  cases dx<;>first|exact absurd e Jbw|(cases dy<;>first|exact absurd e Jbw|skip)
  cases Bb e;cases r1.int_inv;cases r2.int_inv;exact Jza pins s U H _ _ v u Q I rx ry ⟨_,_,rfl,rfl,q⟩
 |le=>
  cases dx<;>first|exact absurd e Jbw|(cases dy<;>first|exact absurd e Jbw|skip)
  cases Bb e;cases r1.int_inv;cases r2.int_inv;exact Jzb pins s U H _ _ v u Q I rx ry ⟨_,_,rfl,rfl,q⟩
 |gt=>
  cases dx<;>first|exact absurd e Jbw|(cases dy<;>first|exact absurd e Jbw|skip)
  cases Bb e;cases r1.int_inv;cases r2.int_inv;exact Jzc pins s U H _ _ v u Q I rx ry ⟨_,_,rfl,rfl,q⟩
 |ge=>
  cases dx<;>first|exact absurd e Jbw|(cases dy<;>first|exact absurd e Jbw|skip)
  cases Bb e;cases r1.int_inv;cases r2.int_inv;exact Jzd pins s U H _ _ v u Q I rx ry ⟨_,_,rfl,rfl,q⟩
 |isc=>
  cases dy<;>simp only[cop]at e<;>try (cases e;done)
  cases r2.non_inv;refine Jwn pins s U H _ _ v u Q I rx ry ⟨rfl,?_⟩;cases dx<;>cases e<;>simp only[RelD]at r1<;>first|(subst r1;exact q)|(obtain⟨_,_,rfl,_⟩:=r1;exact q)|(obtain⟨_,rfl,_⟩:=r1;exact q)
 |isnc=>
  cases dy<;>simp only[cop]at e<;>try (cases e;done)
  cases r2.non_inv;refine Jtf pins s U H _ _ v u Q I rx ry ⟨rfl,?_⟩;cases dx<;>cases e<;>simp only[RelD]at r1<;>first|(subst r1;exact q)|(obtain⟨_,_,rfl,_⟩:=r1;exact q)|(obtain⟨_,rfl,_⟩:=r1;exact q)
 |inn=>
  simp only[cop]at e;split at e
  ·rename_i ds hs;obtain⟨a,xs,rfl,sq,t⟩:=rs.seq r2 hs;cases ry;rcases sq with sq|sq
   ·obtain⟨us,vv,pl,_⟩:=I.list sq;obtain⟨ev,h1,h2⟩:=Jef I rs hu3 r1 rx t vv e;exact SeqAt.in_listAt ev pl.isList (λy hy=>h1 y (by simpa using hy)) ⟨.bl k,H,I,by rw[Jw,h2];rfl,q⟩
   ·obtain⟨us,vv,pl,_⟩:=I.tuple sq;obtain⟨ev,h1,h2⟩:=Jef I rs hu3 r1 rx t vv e;exact SeqAt.in_tupleAt ev (show s.heap.IsTuple a us.toArray from pl) (λy hy=>h1 y (by simpa using hy)) ⟨.bl k,H,I,by rw[Jw,h2];rfl,q⟩
  ·obtain⟨a,rfl,o,g,eo⟩:=Jq9 np rs r1 r2 e;cases ry;exact Wc5 (by show X.A.units+1<C0;lia) I g rx λs' I'=>⟨.bl k,H,I',by rw[eo];rfl,q⟩
 |nin=>
  simp only[cop]at e;split at e
  ·rename_i ds hs;simp only[Al]at e;obtain⟨b,e,rfl⟩:=e;obtain⟨a,xs,rfl,sq,t⟩:=rs.seq r2 hs;cases ry;rcases sq with sq|sq
   ·obtain⟨us,vv,pl,_⟩:=I.list sq;obtain⟨ev,h1,h2⟩:=Jef I rs hu3 r1 rx t vv e;exact SeqAt.notIn_listAt ev pl.isList (λy hy=>h1 y (by simpa using hy)) ⟨.bl (!b),H,I,by rw[Jw,h2];rfl,q⟩
   ·obtain⟨us,vv,pl,_⟩:=I.tuple sq;obtain⟨ev,h1,h2⟩:=Jef I rs hu3 r1 rx t vv e;exact SeqAt.notIn_tupleAt ev (show s.heap.IsTuple a us.toArray from pl) (λy hy=>h1 y (by simpa using hy)) ⟨.bl (!b),H,I,by rw[Jw,h2];rfl,q⟩
  ·simp only[Al]at e;obtain⟨b,e,rfl⟩:=e;obtain⟨a,rfl,o,g,eo⟩:=Jq9 np rs r1 r2 e;cases ry;exact Jt8 (by show X.A.units+1<C0;lia) I g rx λs' I'=>⟨.bl (!b),H,I',by rw[eo];rfl,q⟩
theorem Jcj{ds:List D}{xs:List V}(t:RelDs K ρ H ds xs):(!ds.isEmpty)= !xs.isEmpty:=by
 cases ds with
 |nil=>rw[t.inv_nil];rfl
 |cons d ds=>obtain⟨_,_,rfl,_⟩:=t.inv_cons;rfl
theorem Jk0(r:RelS K ρ S H)(h:RelD K ρ H d x)(e:tru S d=some k):Ze K x H k:=by
 cases d with
 |non=>cases h.non_inv;cases e;rfl
 |bl b=>cases h.bl_inv;cases e;rfl
 |int i=>cases h.int_inv;cases e;rfl
 |str z=>cases e
 |tup ds=>
  obtain⟨a,xs,rfl,q,t⟩:=h.tup_inv;cases e;exact .inr (.inl ⟨xs,q,Jcj t⟩)
 |loc l=>
  simp only[tru]at e;split at e
  ·rename_i ds hs;cases e;obtain⟨a,xs,rfl,_,q,t⟩:=r.lst h (Jan hs);exact .inl ⟨xs,SqL.of q,Jcj t⟩
  ·cases e
 |kl ds=>
  obtain⟨a,xs,rfl,q,t⟩:=h.kl_inv;cases e;exact .inl ⟨xs,q.sq,Jcj t⟩
 |kd kvs=>cases e
inductive rX (K:Af) (x:V) (y:V) (H:Hp) (Q:VK):Prop
 |mk (ρ S dx dy d) (_:RelS K ρ S H) (_:RelD K ρ H dx x) (_:RelD K ρ H dy y) (_:idxD dx dy S=some d) (_:Fin K ρ H d S Q):rX K x y H Q
def Jvo(r:RelD K ρ H d v)(e:scK d=some k):v=kV k:=by
 cases d<;>cases e
 ·exact r.int_inv
 ·exact r.str_inv
theorem Jgp{β γ:Type}{f:D->Option β}{g:γ->V}{R:β->γ->Prop}(h:∀{d b v},RelD K ρ H d v->f d=some b->∃c,v=g c/\R b c):∀{ds:List D} {bs:List β} {vs:List V},RelDs K ρ H ds vs->Xk f ds=some bs->∃cs:List γ,vs=cs.map g/\Paired R bs cs
 |[],bs,vs,r,e=>by cases e;cases r.inv_nil;exact⟨[],rfl,.nil⟩
 |d::ds,bs,vs,r,e=>by
  obtain⟨v,us,rfl,q,t⟩:=r.inv_cons;unfold Xk at e;split at e<;>try (cases e;done)
  rename_i b bs' e1 e2;cases e;obtain⟨c,rfl,h1⟩:=h q e1;obtain⟨cs,rfl,h2⟩:=Jgp h t e2;exact⟨c::cs,rfl,.cons h1 h2⟩
theorem Jlu{α:Type}{xs ys:List α}(h:Paired (λa b=>a=b) xs ys):xs=ys:=by
 induction h with
 |nil=>rfl
 |cons h _ ih=>rw[h,ih]
def Jqx(h:RelD K ρ H d v)(e:lkK d=some r):∃a,v=.ref a/\Wo K H r a:=by
 cases d<;>try (cases e;done)
 obtain⟨a,xs,rfl,sq,t⟩:=h.tup_inv;obtain⟨bs,rfl,hb⟩:=Jgp (g:=V.ref) (R:=λk b=>SqT K H b (k.map kV)) (λ{d b v} r e=>by
  cases d<;>try (cases e;done)
  obtain⟨a,xs,rfl,sq,t⟩:=r.tup_inv;obtain⟨cs,rfl,hc⟩:=Jgp (g:=kV) (R:=λa b=>a=b) (λr e=>⟨_,Jvo r e,rfl⟩) t e;cases Jlu hc;exact⟨a,rfl,sq⟩) t e
 exact⟨a,rfl,bs,sq,hb⟩
def Jxk(hu:X.A.units+2<C0)(np:npB X.K=true):IxR X (rX X.K):=by
 intro value slice pins s U H x y v u Q I rx ry ⟨ρ,S,dx,dy,d,rs,r1,r2,e,fin⟩ hs;unfold idxD at e;split at e
 ·rename_i ds hds;split at e<;>try (cases e;done)
  cases r2.int_inv;obtain⟨a,xs,rfl,sq,t⟩:=rs.seq r1 hds;obtain⟨w,ew,rw'⟩:=Juq t e;rcases sq with sq|sq
  ·exact Jtv value slice pins s U H _ _ v u Q I rx ry ⟨a,xs,_,w,rfl,rfl,sq,ew,fin.now rs rw'⟩ hs
  ·exact Jxb value slice pins s U H _ _ v u Q I rx ry ⟨a,xs,_,w,rfl,rfl,sq,ew,fin.now rs rw'⟩ hs
 ·split at e<;>try (cases e;done)
  split at e
  ·rename_i kvs hk;obtain⟨r,hr,e⟩:=Od.mp e;obtain⟨a,xs,rfl,_,ea,q⟩:=rs.rgn r1 hk;obtain⟨b,rfl,lk⟩:=Jqx r2 hr;cases rx;cases ry;obtain⟨p,w,hp,rw',rd⟩:=q.val r e;exact Lg (ops:=[.ref a,.ref b]) (Jyy I ea) M4.lookup (Jx0 (by show X.A.units+2<C0;omega) I ea q.mem lk hp λs' I'=>⟨w,H,I',rw',fin.now rs rd⟩) hs
  ·obtain⟨o,ho,rfl⟩:=Option.join_eq_some_iff.mp e|>λz=>(⟨_,z,rfl⟩:∃o,W0 _ _ _=some o/\o=some d)
   obtain⟨a,o',rfl,_,g,h⟩:=Jiz np rs r1 r2 ho;rcases h with⟨z,_⟩|⟨d',w,z,rfl,rd⟩
   ·cases z
   ·cases z;cases rx;exact Lg (ops:=[.ref a,u]) (Jix I g) M4.lookup (Jmy (by show X.A.units+1<C0;omega) I g ry λw' s' I' rw2=>⟨w,H,I',rw2,fin.now rs rd⟩) hs
def rSl(K:Af):V->Option Int->Option Int->Hp->VK->Prop:=λx lo hi H Q=>∃ρ S dx d S',RelS K ρ S H/\RelD K ρ H dx x/\Wm dx lo hi S=.ok d S'/\Fin K ρ H d S' Q
def Ji0(t:RelDs K ρ H ds xs)(lo hi:Option Int):RelDs K ρ H (cutD ds lo hi) (Xp xs lo hi):=by
 unfold cutD Xp;rw[t.length];exact(t.drop _).take _
def Jvl:SlR X (rSl X.K):=by
 intro pins s U H x v vl vu lo hi sl Q I rx hs pl pu hq_;obtain⟨ρ,S,dx,d,S',rs,r1,e,fin⟩:=hq_;cases dx<;>simp only[Wm]at e<;>try (cases e;done)
 ·cases e;obtain⟨a,xs,rfl,q,t⟩:=r1.tup_inv
  by_cases hw:HT.sIx xs.length 0 lo=0/\HT.sIx xs.length xs.length hi=xs.length
  ·rename_i ds;refine Jsg pins s U H _ v vl vu lo hi sl Q I rx hs pl pu ⟨a,xs,rfl,q,hw,?_⟩;have ec:cutD ds lo hi=ds:=by
    unfold cutD;rw[t.length,hw.1,hw.2,Ie,T2,<-t.length,Hc]
   rw[ec]at fin;exact fin _ _ _ Fut.refl rs r1
  ·exact Jvm pins s U H _ v vl vu lo hi sl Q I rx hs pl pu ⟨a,xs,rfl,q,hw,fin.newT rs (Ji0 t lo hi)⟩
 ·split at e
  ·rename_i ds hds;cases e;obtain⟨a,xs,rfl,_,q,t⟩:=rs.lst r1 (Jan hds);exact Jle pins s U H _ v vl vu lo hi sl Q I rx hs pl pu ⟨a,xs,rfl,SqL.of q,fin.newL rs (Ji0 t lo hi)⟩
  ·cases e
 ·cases e;obtain⟨a,xs,rfl,q,t⟩:=r1.kl_inv;exact Jle pins s U H _ v vl vu lo hi sl Q I rx hs pl pu ⟨a,xs,rfl,q.sq,fin.newL rs (Ji0 t lo hi)⟩
def rSt(K:Af):Zf:=λo i v H Q=>∃ρ S dO di dv S',RelS K ρ S H/\RelD K ρ H dO o/\RelD K ρ H di i/\RelD K ρ H dv v/\We dO di dv S=.ok () S'/\∀H',Fut K ρ H ρ H'->RelS K ρ S' H'->Q H'
def Jvn(hu:X.A.units+2<C0)(np:npB X.K=true):Wac X (rSt X.K):=by
 intro pins s U H o i v ov iv u Q I ro ri rv hq_;obtain⟨ρ,S,dO,di,dv,S',rs,r1,r2,r3,e,fin⟩:=hq_;unfold We at e;split at e<;>try (cases e;done)
 rename_i l;split at e<;>try (cases e;done)
 ·rename_i xs hx;split at e<;>try (cases e;done)
  split at e<;>try (cases e;done)
  rename_i j hj;cases e;obtain⟨a,ys,rfl,hl,q,t⟩:=rs.lst r1 hx;cases r2.int_inv;refine set_list pins s U H _ _ v ov iv u Q I ro ri rv ⟨a,ys,_,j,rfl,rfl,q,by rw[<-t.length];exact hj,fin _ (Jdh q) (rs.set hl q (RelDs.set r3 j t))⟩
 ·rename_i kvs hk;split at e<;>try (cases e;done)
  rename_i ki;split at e<;>try (cases e;done)
  rename_i hl;cases e;obtain⟨a,ws,rfl,hp,ea,q⟩:=rs.dct r1 hk;cases r2.int_inv;cases ro;have f:Fut X.K ρ H ρ (upd H a (.dK (putK ws (Gf ki) v))):=Jdi (o0:=.dK ws) ea (λ_ z=>by cases z) (λ_ _ z=>by cases z);exact Jhn (by show X.A.units+1<C0;lia) I (X1.k (k:=Gf ki) ea (by rw[<-q.length,<-Ja9];exact hl)) ri rv λs' I'=>⟨_,I',fin _ f (rs.setO (o0:=.dK ws) hp f ⟨_,Jaf,(q.put Jmh _ r3).fut f⟩)⟩
 ·rename_i kvs hk;split at e<;>try (cases e;done)
  rename_i ki hki;split at e<;>try (cases e;done)
  rename_i hl;cases e;cases Jep hki;obtain⟨a,ws,rfl,hp,ea,q⟩:=rs.dtu r1 hk;obtain⟨b,rfl,eb⟩:=Jek np r2;cases ro;have f:Fut X.K ρ H ρ (upd H a (.dT (putK ws (pK ki) v))):=Jdi (o0:=.dT ws) ea (λ_ z=>by cases z) (λ_ _ z=>by cases z);exact Jhn (by show X.A.units+1<C0;lia) I (X1.t ea eb (by rw[<-q.length,<-Ja9];exact hl)) ri rv λs' I'=>⟨_,I',fin _ f (rs.setO (o0:=.dT ws) hp f ⟨_,Jaf,(q.put Jfg _ r3).fut f⟩)⟩
 ·rename_i kvs hk;split at e<;>try (cases e;done)
  rename_i ki hki;split at e<;>try (cases e;done)
  rename_i hl;cases e;obtain⟨a,xs,rfl,hp,ea,q⟩:=rs.rgn r1 hk;obtain⟨b,rfl,lk⟩:=Jqx r2 hki;cases ro;cases ri;have f:Fut X.K ρ H ρ (upd H a (Rg a (Pe xs ki b u))):=Jdi ea (λ_ z=>by cases z) (λ_ _ z=>by cases z);exact Jxx (by show X.A.units+2<C0;lia) I ea q.mem lk (by rw[<-q.length,<-Ja9];exact hl) λs' I'=>⟨_,I',fin _ f (rs.setO (o0:=Rg a xs) hp f ⟨_,Jaf,(q.put lk rv r3).fut f⟩)⟩
end
end Mi
namespace Mi
open PySem L2
section
open PySem.Spec PyProof.Rows PyProof
def Jgy{M:P2}{A:Bi}{E:Value->Shared->Prop}{s:Shared}{β:Type}{b:Nat}(f:Nat->β->Sem (ForInStep β))(I:Nat->β->Shared->Prop)(Q:β->Shared->Prop)
  (turn:∀i c s,i<b->I i c s->wpAny M A (f i c) (λr s'=>match r with|.yield c'=>I (i+1) c' s'|.done c'=>Q c' s') E s)(fin:∀c s,I b c s->Q c s)(c:β)(h:I 0 c s):wpAny M A (forIn ([:b]:K3) c f) Q E s:=by
 rw[Fd];have hsz:([:b]:K3).size=b:=by simp[Hx]
 show wpAny M A (forIn (List.range' 0 ([:b]:K3).size 1) c f) Q E s;rw[hsz];refine Dr f (λl c s=>∃i,i<=b/\l=List.range' i (b-i) 1/\I i c s) Q ?_ ?_ _ c ⟨0,Cz _,rfl,h⟩
 ·rintro x rest c s ⟨i,hib,hl,hI⟩;have hlt:i<b:=by
   rcases Ig i b with h'|h'
   ·exact h'
   ·rw[show b-i=0 by lia]at hl;simp at hl
  obtain⟨n,hn⟩:∃n,b-i=n+1:=⟨b-i-1,by lia⟩
  rw[hn,Sa]at hl;obtain⟨rfl,rfl⟩:=List.cons.inj hl;refine Bo (turn x c s hlt hI) (λr st' h'=>?_) λ_ _ e=>e;cases r with
  |done c'=>exact h'
  |yield c'=>exact⟨x+1,by lia,by congr 1;lia,h'⟩
 ·rintro c s ⟨i,hib,hl,hI⟩;have:i=b:=by
   rcases Ig i b with h'|h'
   ·obtain⟨n,hn⟩:∃n,b-i=n+1:=⟨b-i-1,by lia⟩
    rw[hn,Sa]at hl;simp at hl
   ·lia
  subst this;exact fin _ _ hI
def Jg0(l:Addr)(items:Array Value)(n:Nat)(dd:Option Addr)(sl:Array (Option Value))(x:Value)(e:Value->Bool)(j:Nat)(hj:j<items.size)(hit:e items[j]=true)(hno:∀m (hm:m<items.size),m<j->e items[m]=false):
  Meets (Builtin.«tuple.index» ⟨[.ref l,x],[]⟩)
   (λA R s=>s.heap.get? l=some {cls:=.type "tuple",dict:=dd,data:=.seq items n,slots:=sl}/\(∀y,y∈items->Fm A.in1 s y x (e y))/\R (.ok (.ret (.int j s.toks))) {s with toks:=s.toks+1}):=
 .of_wp λprog w A R s h=>by
  obtain⟨hp,g,d,tk,os⟩:=s;obtain⟨hl,he,h⟩:=h
  wp_walk using K4 hl,Jgy _ (λi b s'=>b.1=none/\s'=⟨hp,g,d,tk,os⟩/\i<=j) _
  case turn=>
   rintro i b s' hi ⟨hb,rfl,hij⟩;have hi':i<items.size:=by simpa using hi
   rw[Bm hi'];refine Aa (he _ (Q8 hi') prog w _ _ ?_)
   by_cases hlt:i<j
   ·rw[hno i hi' hlt]
    wp_walk
    exact⟨rfl,rfl,hlt⟩
   ·have:i=j:=by lia
    subst this;rw[hit]
    wp_walk
    exact⟨_,rfl,h⟩
  case fin=>
   rintro⟨b1,b2⟩ s' ⟨hb,rfl,hij⟩;simp only[Nat.min_self]at hij
   lia
  case h=>
   exact⟨rfl,rfl,Cz _⟩
def Jfu{A:Bi}{E:Value->Shared->Prop}{s:Shared}{items:Array Value}{e:Value->Bool}{Q:Value->Shared->Prop}(ht:s.heap.IsTuple a items)(hj:j<items.size)
  (hit:e items[j]=true)(hno:∀m (hm:m<items.size),m<j->e items[m]=false)(he:∀y∈items,Fm A.in1 s y x (e y))(h:Q (.int j s.toks) {s with toks:=s.toks+1}):wpAny (model prog w) A (call (.builtin "tuple.index") [.ref a,x]) Q E s:=by
 obtain⟨⟨cls,dd,data,sl⟩,ho,hc,n,hd⟩:=id ht;simp only at hc hd;subst hc hd;exact Py Nm ⟨_,ho,rfl⟩ PySem.F.entry_tuple_index (PySem.F.args_tuple_index_2 _ _) (Jg0 a items n dd sl x e j hj hit hno) ⟨ho,he,h⟩
end
section
variable {X:Cx} {ρ:List Addr} {H:Hp} {S:Store}
noncomputable def tyNames:List String:=["NoneType","bool","int","str","tuple","list"]
noncomputable def clNames:List String:=["bool","int","tuple","list"]
def Jfh(K:Af):∀t∈tyNames,∀c∈clNames,Hw K (.type t) (.type c)=some (isiD t c):=by
 intro t ht c hc;simp only[tyNames,clNames,An,A1,or_false]at ht hc;rcases ht with rfl|rfl|rfl|rfl|rfl|rfl<;>rcases hc with rfl|rfl|rfl|rfl<;>kernel_rfl
def rIs(K:Af)(c:String):List V->Hp->VK->Prop:=λxs H Q=>∃ρ S d x t,RelS K ρ S H/\xs=[x,.ty c]/\RelD K ρ H d x/\tyD S d=some t/\Q (.bl (isiD t c)) H
theorem Jxd(hc:c∈clNames):Vy X (.builtin "isinstance") (rIs X.K c):=by
 intro pins s U H xs us Q I r hq_;obtain⟨ρ,S,d,x,t,rs,e,rd,ht,q⟩:=hq_;subst e;obtain⟨u,w,rfl,ru,rw'⟩:=vals2 r;cases(show w=Ea c from rw');have fin:∀tk,EP X pins U Q (.bool (isiD t c)) {s with toks:=tk}:=λtk=>⟨.bl _,H,I.tok _,rfl,q⟩
 cases d with
 |non=>cases ht;cases rd.non_inv;cases ru;exact Fi PySem.W.kitx_none I.kIn E6 (Jfh X.K _ (by decide) c hc) (λz=>nomatch z) fin
 |bl b=>cases ht;cases rd.bl_inv;cases ru;exact Fi PySem.W.kitx_bool I.kIn E6 (Jfh X.K _ (by decide) c hc) (λz=>nomatch z) fin
 |int b=>cases ht;cases rd.int_inv;obtain⟨tk,rfl⟩:=ru;exact Fi PySem.W.kitx_int I.kIn E6 (Jfh X.K _ (by decide) c hc) (λz=>nomatch z) fin
 |str b=>cases ht;cases rd.str_inv;obtain⟨tk,rfl⟩:=ru;exact Fi PySem.W.kitx_str I.kIn E6 (Jfh X.K _ (by decide) c hc) (λz=>nomatch z) fin
 |tup ds=>
  cases ht;obtain⟨a,ys,rfl,sq,_⟩:=rd.tup_inv;cases ru;obtain⟨_,_,⟨o,h1,h2,_⟩,_⟩:=I.tuple sq;exact Fi PySem.W.kitx_tuple I.kIn ⟨o,h1,h2⟩ (Jfh X.K _ (by decide) c hc) (λz=>nomatch z) fin
 |loc l=>
  simp only[tyD]at ht;split at ht
  ·rename_i ds hs;cases ht;obtain⟨a,ys,rfl,_,sq,_⟩:=rs.lst rd hs;cases ru;obtain⟨_,_,⟨o,n,h1,h2,_⟩,_⟩:=I.list (SqL.of (K:=X.K) sq);exact Fi PySem.W.kitx_list I.kIn ⟨o,h1,h2⟩ (Jfh X.K _ (by decide) c hc) (λz=>nomatch z) fin
  ·cases ht
 |kl ds=>cases ht
 |kd ds=>cases ht
noncomputable def Wf:Prim->String
 |.len=>"len"|.abs=>"abs"|.min2=>"min"|.max2=>"max"|.int1=>"int"|.list1=>"list"|.tuple1=>"tuple"|.all1=>"all"|.sum1=>"sum"|.sort1=>"sorted"|.dict1=>"dict"
noncomputable def Yn:Prim->Bool
 |.int1=>true|.list1=>true|.tuple1=>true|.dict1=>true
 |_=>false
def Xg(p:Prim):Value:=if Yn p then .type (Wf p)else .builtin (Wf p)
def Jm9(p:Prim):C9 (Ac (Wf p))=some (Xg p):=by cases p<;>kernel_rfl
def Jhf(p:Prim):Ac (Wf p)≠"__name__":=by cases p<;>decide+kernel
def Jfm(p:Prim):(Ac (Wf p)==("__debug__":Str))=false:=by cases p<;>decide+kernel
def rP(K:Af)(p:Prim):List V->Hp->VK->Prop:=λxs H Q=>∃ρ S ds d S',RelS K ρ S H/\RelDs K ρ H ds xs/\Vh p ds S=.ok d S'/\Fin K ρ H d S' Q
def RelDs.one(h:RelDs K ρ H [d] xs):∃v,xs=[v]/\RelD K ρ H d v:=by
 obtain⟨v,vs,rfl,q,t⟩:=h.inv_cons;cases t.inv_nil;exact⟨v,rfl,q⟩
def RelDs.two(h:RelDs K ρ H [d,e] xs):∃v w,xs=[v,w]/\RelD K ρ H d v/\RelD K ρ H e w:=by
 obtain⟨v,vs,rfl,q,t⟩:=h.inv_cons;obtain⟨w,rfl,q'⟩:=t.one;exact⟨v,w,rfl,q,q'⟩
theorem allB_list:∀{ds:List D} {b:Bool},allB ds=some b->∃bs:List Bool,ds=bs.map D.bl/\b=bs.all id
 |[],b,h=>⟨[],rfl,by simp only[allB]at h;cases h;rfl⟩
 |.bl c::r,b,h=>by
  simp only[allB,Al]at h;obtain⟨k,h,rfl⟩:=h;obtain⟨bs,rfl,rfl⟩:=allB_list h;exact⟨c::bs,rfl,by simp⟩
 |.non::_,b,h=>by simp[allB]at h
 |.int _::_,b,h=>by simp[allB]at h
 |.str _::_,b,h=>by simp[allB]at h
 |.tup _::_,b,h=>by simp[allB]at h
 |.loc _::_,b,h=>by simp[allB]at h
 |.kl _::_,b,h=>by simp[allB]at h
 |.kd _::_,b,h=>by simp[allB]at h
theorem Jg5:∀{ds:List D} {b:Int},sumI ds=some b->∃bs:List Int,ds=bs.map D.int/\b=bs.sum
 |[],b,h=>⟨[],rfl,by simp only[sumI]at h;cases h;rfl⟩
 |.int c::r,b,h=>by
  simp only[sumI,Al]at h;obtain⟨k,h,rfl⟩:=h;obtain⟨bs,rfl,rfl⟩:=Jg5 h;exact⟨c::bs,rfl,by simp⟩
 |.non::_,b,h=>by simp[sumI]at h
 |.bl _::_,b,h=>by simp[sumI]at h
 |.str _::_,b,h=>by simp[sumI]at h
 |.tup _::_,b,h=>by simp[sumI]at h
 |.loc _::_,b,h=>by simp[sumI]at h
 |.kl _::_,b,h=>by simp[sumI]at h
 |.kd _::_,b,h=>by simp[sumI]at h
def Jtx{K:Af}{bs:List Int}{xs:List V}{us:List Value}(t:RelDs K ρ H (bs.map D.int) xs)(v:Vals xs us){i:Nat}{u:Value}(h:us[i]? =some u):∃tk,u=.int (bs.getD i 0) tk:=by
 have hl:i<bs.length:=by
  have:=(Ae.mp h).1;have e1:=t.length;have e2:=v.length;rw[Ah]at e1
  lia
 obtain⟨w,ew,rw'⟩:=t.get (show(bs.map D.int)[i]? =some (.int bs[i]) by rw[Ap,Ag hl];rfl);obtain⟨u',eu,ru⟩:=v.get ew;rw[h]at eu;cases eu;cases rw'.int_inv;obtain⟨tk,rfl⟩:=ru;exact⟨tk,by rw[Ep,Ag hl];rfl⟩
theorem Jpt{K:Af}{bs:List Bool}{xs:List V}{us:List Value}(t:RelDs K ρ H (bs.map D.bl) xs)(v:Vals xs us){i:Nat}{u:Value}(h:us[i]? =some u):u=.bool (bs.getD i true):=by
 have hl:i<bs.length:=by
  have:=(Ae.mp h).1;have e1:=t.length;have e2:=v.length;rw[Ah]at e1
  lia
 obtain⟨w,ew,rw'⟩:=t.get (show(bs.map D.bl)[i]? =some (.bl bs[i]) by rw[Ap,Ag hl];rfl);obtain⟨u',eu,ru⟩:=v.get ew;rw[h]at eu;cases eu;cases rw'.bl_inv;cases ru;rw[Ep,Ag hl];rfl
theorem range_all(bs:List Bool):(B3 bs.length).all (λi=>bs.getD i true)=bs.all id:=by
 induction bs with
 |nil=>rfl
 |cons b r ih=>
  rw[A5,Pl,Lh,Lh,Vg,<-ih];congr 1
def Jhx(hc:X.calm=true):Vy X (.builtin "all") (λxs H Q=>∃ρ S l ds b,RelS X.K ρ S H/\∃x,xs=[x]/\RelD X.K ρ H (.loc l) x/\seqAt S l=some ds/\allB ds=some b/\Q (.bl b) H):=by
 intro pins s U H xs us Q I r hq_;obtain⟨ρ,S,l,ds,b,rs,x,e,rd,hs,hb,q⟩:=hq_;subst e;obtain⟨u,rfl,ru⟩:=vals1 r;obtain⟨bs,rfl,rfl⟩:=allB_list hb;obtain⟨a,ys,rfl,_,sq,t⟩:=rs.lst rd (Jan hs);cases ru;have hh:X.A.in1.handled=none:=I.ok.hd hc;obtain⟨its,vv,pl,_⟩:=I.list (SqL.of (K:=X.K) sq);have hne:a≠s.heap.objs.size:=Au pl.lt;have hsz:its.toArray.size=bs.length:=by rw[Ar,<-vv.length,<-t.length,Ah]
 refine call_all_walk (F8 pl.isList ?_);refine⟨_,_,_,_,_,_,λi=>bs.getD i true,rfl,Qo (A:=X.A.in1) hh s.heap.objs.size a hne its.toArray,⟨⟨_,Ak _ rfl,rfl,rfl⟩,(pl.keeps λb o e=>Ad _ e).isList⟩,?_,λh' tk hk=>?_⟩
 ·intro i v s' Q' E' hP hQ;have hP:its.toArray[i]? =some v:=hP;have ev:v=.bool (bs.getD i true):=Jpt t vv (by simpa using hP);subst ev;exact Dv hQ
 ·rw[hsz,range_all];refine⟨.bl _,H,I.kept (t':=tk) λb o e=>hk b o ?_ (Ad _ e),rfl,q⟩;simp only[Av];exact Au (Am e)
def Jj6(bs:List Int):preSum (λi=>bs.getD i 0) bs.length=bs.sum:=by
 rw[PyProof.Rows.preSum_getD,Hc]
def Jhs(hc:X.calm=true):Vy X (.builtin "sum") (λxs H Q=>∃ρ S l ds b,RelS X.K ρ S H/\∃x,xs=[x]/\RelD X.K ρ H (.loc l) x/\seqAt S l=some ds/\sumI ds=some b/\Q (.int b) H):=by
 intro pins s U H xs us Q I r hq_;obtain⟨ρ,S,l,ds,b,rs,x,e,rd,hs,hb,q⟩:=hq_;subst e;obtain⟨u,rfl,ru⟩:=vals1 r;obtain⟨bs,rfl,rfl⟩:=Jg5 hb;obtain⟨a,ys,rfl,_,sq,t⟩:=rs.lst rd (Jan hs);cases ru;have hh:X.A.in1.handled=none:=I.ok.hd hc;have done:∀(I0:Addr) (s':Shared) (t':Tok),I0=s.heap.objs.size->∀o:D9,Moved [I0] (λa b=>b=a) {s with heap:=s.heap.push o} s'->EP X pins U Q (.int bs.sum t') s':=λI0 s' t' e0 o hm=>by
  subst e0;obtain⟨h',g',d',tk,os'⟩:=s';have e1:g'=s.gens:=hm.gens;have e2:d'=s.drawn:=hm.drawn;have e3:os'=s.os:=hm.os;subst e1 e2 e3;refine⟨.int bs.sum,H,I.kept (t':=tk) λb o e=>hm.heap b o ?_ (Ad _ e),⟨t',rfl⟩,q⟩;simp only[Av];exact Au (Am e)
 obtain⟨its,vv,pl,_⟩:=I.list (SqL.of (K:=X.K) sq);have hne:a≠s.heap.objs.size:=Au pl.lt;have hsz:its.toArray.size=bs.length:=by rw[Ar,<-vv.length,<-t.length,Ah]
 refine call_sum_walkAnyS (F8 pl.isList ?_);refine⟨_,_,_,_,_,_,_,λi=>bs.getD i 0,rfl,(Qo (A:=X.A.in1) hh s.heap.objs.size a hne its.toArray).toS,⟨⟨_,Ak _ rfl,rfl,rfl⟩,(pl.keeps λb o e=>Ad _ e).isList⟩,?_,?_,λs' t' hm=>?_⟩
 ·intro b hb;show b<(s.heap.push _).objs.size;rw[Cd];simp only[An,A1,or_false]at hb;rcases hb with rfl|rfl
  ·exact Dm _
  ·exact Jm pl.lt
 ·intro i v hP;have hP:its.toArray[i]? =some v:=hP;exact Jtx t vv (by simpa using hP)
 ·rw[hsz,Jj6];exact done _ s' t' rfl _ hm
def Fin.newO(f:Fin K ρ H (.loc S.length) (S++[ob]) Q)(r:RelS K ρ S H)(q:∀p,H p=none->RelO K (ρ++[p]) (upd H p o) p ob):∀p,H p=none->Q (.ref p) (upd H p o):=λp n=>
 f (ρ++[p]) _ _ (Ja1 n [p]) (r.allocO n (q p n)) (by simp only[RelD];exact⟨p,rfl,by rw[<-r.len];simp⟩)
theorem Jvb:∀{ps:List Rdu.PK},upB ps=true->Up ps
 |[],_=>λi p q h=>by simp at h
 |a::r,h=>λi p q h1 h2=>by
  simp only[upB,Ai]at h;cases i with
  |zero=>
   cases r with
   |nil=>simp at h2
   |cons b r=>simp at h1 h2;subst h1 h2;exact h.1
  |succ i=>exact Jvb h.2 i p q (by simpa using h1) (by simpa using h2)
def Jyf{kvs:List (Rdu.PK×D)}(q:RelKv pK K ρ H kvs ws)(h:Ye (kvs.map (·.1))=true):Apart P w ws:=by
 simp only[Ye,Ai,Dl,decide_eq_true_eq]at h;have nn:∀p∈kvs.map (·.1),((p.1.toNat:Int),(p.2.toNat:Int))=p:=λp hp=>by
  obtain⟨⟨⟨h1,_⟩,h2⟩,_⟩:=h.1 p hp;exact Tu (Li h1) (Li h2)
 refine Jpy (ps:=(kvs.map (·.1)).map λp=>(p.1.toNat,p.2.toNat)) ?_ (λx hx=>?_) ?_
 ·rw[q.keys];refine Eq.trans ?_ (B4).symm;exact Eh λp hp=>congrArg pK (nn p hp).symm
 ·obtain⟨p,hp,rfl⟩:=Bd.mp hx;obtain⟨⟨⟨h1,h2⟩,h3⟩,h4⟩:=h.1 p hp;exact⟨by lia,by lia⟩
 ·refine Me.mpr (L4 (λ{x y} hx hy hne e=>hne ?_) h.2);rw[<-nn x hx,<-nn y hy];injection e with e1 e2;rw[e1,e2]
def Jp5{kvs:List (Rdu.PK×D)}(ea:H a=some (.dT ws))(q:RelKv pK K ρ H kvs ws)(h:upB (kvs.map (·.1))=true/\kvs.length<Line):UpD H a ws (kvs.map (·.1)):=⟨.inl ea,q.keys,Jvb h.1,by rw[<-q.length,<-Ja9];exact h.2⟩
theorem Jl8:∀{ps:List Rdu.PK} {bs:List Addr},bs.length=ps.length->(∀(i:Nat) (b:Addr) (q:Rdu.PK),bs[i]? =some b->ps[i]? =some q->H b=some (.tup ((pK q).map kV)))->RelDs K ρ H (ps.map dK) (bs.map V.ref)
 |[],[],_,_=>RelDs.nil
 |p::ps,b::bs,hl,h=>by
  refine RelDs.cons ?_ (Jl8 (by simpa using hl) λi b q h1 h2=>h (i+1) b q (by simpa using h1) (by simpa using h2));simp only[RelD];exact⟨b,_,rfl,SqT.of (h 0 b p rfl rfl),RelDs.cons (RelD.int _) (RelDs.cons (RelD.int _) RelDs.nil)⟩
def pr1(e:Vh p ds S=.ok d S')(h1:p≠ .max2)(h2:p≠ .min2)(r:RelDs K ρ H ds xs):∃x v,ds=[x]/\xs=[v]/\RelD K ρ H x v:=by
 have z:∃x,ds=[x]:=by
  clear r;cases p<;>first|exact absurd rfl h1|exact absurd rfl h2|(rcases ds with _|⟨x,_|⟨y,ds⟩⟩<;>first|exact⟨_,rfl⟩|exact absurd e Jab|(cases x<;>exact absurd e Jab))
 obtain⟨x,rfl⟩:=z;obtain⟨v,rfl,rv⟩:=r.one;exact⟨x,v,rfl,rfl,rv⟩
theorem Jsy(p:Prim)(hc:X.calm=true):Vy X (Xg p) (rP X.K p):=by
 intro pins s U H xs us Q I r hq_;obtain⟨ρ,S,ds,d,S',rs,rd,e,fin⟩:=hq_;cases p with
 |len=>
  obtain⟨x,v,rfl,rfl,rv⟩:=pr1 e nofun nofun rd
  delta Vh at e;dsimp only at e
  split at e
  ·rename_i es hs;cases e;obtain⟨a,ys,rfl,sq,t⟩:=rs.seq rv hs;refine Jhv pins s U H _ us Q I r ⟨a,ys,rfl,sq,?_⟩;rw[<-t.length];exact fin.now rs (RelD.int _)
  ·split at e<;>try (cases e;done)
   split at e<;>try (cases e;done)
   rename_i kvs hd;cases e;obtain⟨a,ws,rfl,_,ea,q⟩:=rs.dct rv (Jez hd);refine Jm6 pins s U H _ us Q I r ⟨a,ws,rfl,ea,?_⟩;rw[<-q.length];exact fin.now rs (RelD.int _)
 |abs=>
  obtain⟨x,v,rfl,rfl,rv⟩:=pr1 e nofun nofun rd;cases x<;>try (exact absurd e Jab)
  cases e;cases rv.int_inv;exact Jps pins s U H _ us Q I r ⟨_,rfl,fin.now rs (RelD.int _)⟩
 |max2=>
  rcases ds with _|⟨x,_|⟨y,_|⟨z,ds⟩⟩⟩<;>try (first|exact absurd e Jab|(cases x<;>exact absurd e Jab)|(cases x<;>first|exact absurd e Jab|(cases y<;>exact absurd e Jab)))
  cases x<;>first|exact absurd e Jab|(cases y<;>try (exact absurd e Jab))
  cases e;obtain⟨v,w,rfl,rv,rw'⟩:=rd.two;cases rv.int_inv;cases rw'.int_inv;exact Jm5 hc pins s U H _ us Q I r ⟨_,_,rfl,fin.now rs (RelD.int _)⟩
 |min2=>
  rcases ds with _|⟨x,_|⟨y,_|⟨z,ds⟩⟩⟩<;>try (first|exact absurd e Jab|(cases x<;>exact absurd e Jab)|(cases x<;>first|exact absurd e Jab|(cases y<;>exact absurd e Jab)))
  cases x<;>first|exact absurd e Jab|(cases y<;>try (exact absurd e Jab))
  cases e;obtain⟨v,w,rfl,rv,rw'⟩:=rd.two;cases rv.int_inv;cases rw'.int_inv;exact Jm4 hc pins s U H _ us Q I r ⟨_,_,rfl,fin.now rs (RelD.int _)⟩
 |int1=>
  obtain⟨x,v,rfl,rfl,rv⟩:=pr1 e nofun nofun rd;cases x<;>try (exact absurd e Jab)
  ·cases e;cases rv.bl_inv;exact Jhw pins s U H _ us Q I r (.inr ⟨_,rfl,fin.now rs (RelD.int _)⟩)
  ·cases e;cases rv.int_inv;exact Jhw pins s U H _ us Q I r (.inl ⟨_,rfl,fin.now rs (RelD.int _)⟩)
 |list1=>
  obtain⟨x,v,rfl,rfl,rv⟩:=pr1 e nofun nofun rd
  delta Vh at e;dsimp only at e
  split at e
  ·rename_i es hs;cases e;obtain⟨a,ys,rfl,sq,t⟩:=rs.seq rv hs;exact Jhu pins s U H _ us Q I r ⟨a,ys,rfl,sq,fin.newL rs t⟩
  ·split at e
   ·rename_i l _;cases hd:dctAt S l with
    |none=>rw[hd]at e;cases e
    |some kvs=>
     rw[hd]at e;cases e;obtain⟨a,ws,rfl,_,ea,q⟩:=rs.dct rv (Jez hd);refine Jgn hc pins s U H _ us Q I r ⟨a,ws,rfl,ea,fin.newL rs ?_⟩;have e1:ws.map (λkv=>kV kv.1)=kvs.map λp=>V.int p.1:=by
      have:=congrArg (N0 kV) q.keys;rw[B4,B4,B4]at this;exact this
     rw[e1];have all:∀l:List (Int×D),RelDs X.K ρ H (l.map λp=>D.int p.1) (l.map λp=>V.int p.1):=λl=>by
      induction l with
      |nil=>exact RelDs.nil
      |cons p l ih=>exact RelDs.cons (RelD.int _) ih
     exact all kvs
   ·cases e
 |tuple1=>
  obtain⟨x,v,rfl,rfl,rv⟩:=pr1 e nofun nofun rd
  delta Vh at e;dsimp only at e
  split at e
  ·rename_i es hs;cases e;obtain⟨a,ys,rfl,sq,t⟩:=rs.seq rv hs;refine Jgm pins s U H _ us Q I r ⟨a,ys,rfl,?_⟩;rcases sq with sq|sq
   ·exact .inl ⟨sq,fin.newT rs t⟩
   ·exact .inr ⟨sq,fin.now rs (by simp only[RelD];exact⟨a,ys,rfl,sq,t⟩)⟩
  ·cases e
 |all1=>
  obtain⟨x,v,rfl,rfl,rv⟩:=pr1 e nofun nofun rd;cases x<;>try (exact absurd e Jab)
  delta Vh at e;dsimp only at e
  split at e<;>try (cases e;done)
  rename_i es hs;split at e<;>try (cases e;done)
  rename_i b hb;cases e;exact Jhx hc pins s U H _ us Q I r ⟨ρ,S,_,es,b,rs,v,rfl,rv,hs,hb,fin.now rs (RelD.bl _)⟩
 |sum1=>
  obtain⟨x,v,rfl,rfl,rv⟩:=pr1 e nofun nofun rd;cases x<;>try (exact absurd e Jab)
  delta Vh at e;dsimp only at e
  split at e<;>try (cases e;done)
  rename_i es hs;split at e<;>try (cases e;done)
  rename_i b hb;cases e;exact Jhs hc pins s U H _ us Q I r ⟨ρ,S,_,es,b,rs,v,rfl,rv,hs,hb,fin.now rs (RelD.int _)⟩
 |sort1=>
  obtain⟨x,v,rfl,rfl,rv⟩:=pr1 e nofun nofun rd;cases x<;>try (exact absurd e Jab)
  delta Vh at e;dsimp only at e
  split at e<;>try (cases e;done)
  rename_i kvs hk;split at e<;>try (cases e;done)
  rename_i hup;cases e;obtain⟨a,ws,rfl,_,ea,q⟩:=rs.dtu rv (Jbs hk);refine Jht hc pins s U H _ us Q I r ⟨a,ws,_,rfl,Jp5 ea q hup,λp bs hp hl hb=>?_⟩;have:=Jl8 (K:=X.K) (ρ:=ρ) hl hb;rw[B4]at this;exact fin.newL rs this p hp
 |dict1=>
  obtain⟨x,v,rfl,rfl,rv⟩:=pr1 e nofun nofun rd;cases x<;>try (exact absurd e Jab)
  delta Vh at e;dsimp only at e
  split at e<;>try (cases e;done)
  ·rename_i kvs hk;cases e;obtain⟨a,ws,rfl,_,ea,q⟩:=rs.dct rv hk;exact Jfr pins s U H _ us Q I r ⟨a,rfl,.inl ⟨ws,.inl ea,fin.newO rs λp n=>⟨ws,Jaf,q.fut (Ja1 n [p])⟩⟩⟩
  ·rename_i kvs hk;split at e<;>try (cases e;done)
   rename_i hap;cases e;obtain⟨a,ws,rfl,_,ea,q⟩:=rs.dtu rv hk;exact Jfr pins s U H _ us Q I r ⟨a,rfl,.inr ⟨ws,.inl ea,Jyf q hap,fin.newO rs λp n=>⟨ws,Jaf,q.fut (Ja1 n [p])⟩⟩⟩
noncomputable def Xu:Meth->String
 |.append=>"append"|.pop0=>"pop"|.get2=>"get"|.indexT=>"index"|.get1=>"get"|.pop1=>"pop"
noncomputable def Xv:Meth->String
 |.append=>"list.append"|.pop0=>"list.pop"|.get2=>"dict.get"|.indexT=>"tuple.index"|.get1=>"dict.get"|.pop1=>"dict.pop"
def rM(K:Af)(p:Meth):V->List V->Hp->VK->Prop:=λx xs H Q=>∃ρ S o ds d S',RelS K ρ S H/\RelD K ρ H o x/\RelDs K ρ H ds xs/\Vo p o ds S=.ok d S'/\Fin K ρ H d S' Q
def Jpd(I:Inv X pins U H s)(r:RelS X.K ρ S H)(hx:RelD X.K ρ H x vx)(rx:RelV vx w){us:List Value}
  (t:RelDs X.K ρ H ds xs)(v:Vals xs us)(e:Yv S x ds=some j):∃e:Value->Bool,∃hj:j<us.length,e us[j]=true/\(∀m (hm:m<us.length),m<j->e us[m]=false)/\∀A:Bi,A.units<C0->∀u∈us,Fm A s u w (e u):=by
 unfold Yv at e;split at e
 ·rename_i hall;rw[Dl]at hall
  classical
  let ev:Value->Bool:=λu=>decide (∃d z,RelD X.K ρ H d z/\RelV z u/\eqD S 0 d x=some true)
  have one:∀{d:D} {v:V} {u:Value} {b:Bool},RelD X.K ρ H d v->RelV v u->eqD S 0 d x=some b->ev u=b:=λ{d v u b} h r1 e=>by
   cases b with
   |true=>exact decide_eq_true ⟨d,v,h,r1,e⟩
   |false=>
    refine decide_eq_false ?_;rintro⟨d',v',h',r2,e'⟩;cases r1.inj r2;rw[RelD.inj I r h h',e']at e;cases e
  have at':∀(m:Nat) (hm:m<us.length),∃d z,ds[m]? =some d/\RelD X.K ρ H d z/\RelV z us[m]:=λm hm=>by
   have l1:m<ds.length:=by rw[t.length,v.length];exact hm
   obtain⟨z,e1,q1⟩:=t.get (Ag l1);obtain⟨u',e2,q2⟩:=v.get e1;obtain⟨_,e3⟩:=Ae.mp e2;exact⟨_,z,Ag l1,q1,by rw[e3];exact q2⟩
  obtain⟨hj,h1,h2⟩:=List.findIdx?_eq_some_iff_getElem.mp e;have hj':j<us.length:=by rw[<-v.length,<-t.length];exact hj
  refine⟨ev,hj',?_,λm hm hlt=>?_,λA hA u hu=>?_⟩
  ·obtain⟨d,z,e1,q1,q2⟩:=at' j hj';rw[Ag hj]at e1;cases e1;exact one q1 q2 (by simpa using h1)
  ·obtain⟨d,z,e1,q1,q2⟩:=at' m hm;have hm':m<ds.length:=by lia
   have:=h2 m hlt;rw[Ag hm']at e1;cases e1;obtain⟨b,hb⟩:=Bw.mp (hall _ (He hm'));rw[one q1 q2 hb];rw[hb]at this;cases b
   ·rfl
   ·simp at this
  ·obtain⟨m,hm,rfl⟩:=List.getElem_of_mem hu;obtain⟨d,z,e1,q1,q2⟩:=at' m hm;obtain⟨b,hb⟩:=Bw.mp (hall _ (Ba e1));rw[one q1 q2 hb];exact(Jhl I r 0 (by simpa using hA) q1 hx q2 rx hb).eq
 ·cases e
theorem Jl3(p:Meth)(hu:X.A.units+64<C0)(np:npB X.K=true):MtR X (Xv p) (rM X.K p):=by
 intro pins s U H x xs v us Q I rx rvs hq_;obtain⟨ρ,S,o,ds,d,S',rs,ro,rd,e,fin⟩:=hq_;cases p with
 |append=>
  cases o<;>first|exact absurd e Jab|(rcases ds with _|⟨y,_|⟨z,ds⟩⟩<;>try (exact absurd e Jab))
  all_goals (delta Vo at e;dsimp only at e)
  split at e
  ·rename_i ys hy;split at e
   ·rename_i hl;cases e;obtain⟨a,zs,rfl,ha,q,t⟩:=rs.lst ro hy;obtain⟨w,rfl,rw'⟩:=rd.one;exact Jl0 pins s U H _ _ v us Q I rx rvs ⟨a,zs,w,rfl,rfl,q,by rw[<-t.length,<-Ja9];exact hl,fin ρ _ _ (Jdh q) (rs.set ha q (t.append (RelDs.cons rw' RelDs.nil))) RelD.non⟩
   ·cases e
  ·cases e
 |pop0=>
  cases o<;>first|exact absurd e Jab|(rcases ds with _|⟨y,ds⟩<;>try (exact absurd e Jab))
  all_goals (delta Vo at e;dsimp only at e)
  split at e
  ·rename_i ys hy;split at e
   ·rename_i z hz;cases e;obtain⟨a,zs,rfl,ha,q,t⟩:=rs.lst ro hy;cases rd.inv_nil;obtain⟨w,ew,rw'⟩:=t.get hz;refine Jwx pins s U H _ _ v us Q I rx rvs ⟨a,zs,w,rfl,rfl,q,by rw[<-t.length];exact ew,fin ρ _ _ (Jdh q) (rs.set ha q t.dropLast) (rw'.fut (Jdh q))⟩
   ·cases e
  ·cases e
 |indexT=>
  cases o<;>first|exact absurd e Jab|(rcases ds with _|⟨y,_|⟨z,ds⟩⟩<;>try (exact absurd e Jab))
  all_goals (delta Vo at e;dsimp only at e)
  split at e
  ·split at e
   ·rename_i j hj;cases e;obtain⟨a,zs,rfl,q,t⟩:=ro.tup_inv;obtain⟨vy,rfl,rw'⟩:=rd.one;obtain⟨u,rfl,ru⟩:=vals1 rvs;cases rx;obtain⟨its,vv,pl,_⟩:=I.tuple q;obtain⟨ev,hk,e1,e2,e3⟩:=Jpd I rs rw' ru t vv hj;exact Jfu (show s.heap.IsTuple a its.toArray from pl) (by simpa using hk) (by simpa using e1) (λm hm hlt=>by simpa using e2 m (by simpa using hm) hlt) (λy hy=>e3 _ (by rw[in1_units];lia) y (by simpa using hy)) ⟨.int j,H,I.tok _,⟨_,rfl⟩,fin.now rs (RelD.int _)⟩
   ·cases e
  ·cases e
 |get1=>
  cases o<;>first|exact absurd e Jab|(rcases ds with _|⟨y,_|⟨z,ds⟩⟩<;>try (exact absurd e Jab))
  (delta Vo at e;dsimp only at e)
  split at e<;>try (cases e;done)
  rename_i o' ho;cases e;obtain⟨vy,rfl,ry⟩:=rd.one;obtain⟨u,rfl,ru⟩:=vals1 rvs;obtain⟨a,o2,rfl,_,g,h⟩:=Jiz np rs ro ry ho;cases rx;refine Jx1 (by show X.A.units+1<C0;lia) I g ru λw' s' I' rw'=>⟨_,H,I',rw',?_⟩
  rcases h with⟨rfl,rfl⟩|⟨d,v,rfl,rfl,q⟩
  ·exact fin.now rs RelD.non
  ·exact fin.now rs q
 |pop1=>
  cases o<;>first|exact absurd e Jab|(rcases ds with _|⟨y,_|⟨z,ds⟩⟩<;>try (exact absurd e Jab))
  (delta Vo at e;dsimp only at e)
  split at e<;>try (cases e;done)
  rename_i kvs k hk hy;split at e<;>try (cases e;done)
  rename_i d0 hd;cases e;cases Jep hy;obtain⟨vy,rfl,ry⟩:=rd.one;obtain⟨u,rfl,ru⟩:=vals1 rvs;obtain⟨a,ws,rfl,hp,ea,q⟩:=rs.dtu ro (Jbs hk);obtain⟨b,rfl,eb⟩:=Jek np ry;cases rx;cases ru;rcases q.val Jfg k with⟨z,_⟩|⟨d',v,z1,z2,z3⟩
  ·rw[z]at hd;cases hd
  ·rw[z1]at hd;cases hd;have f:Fut X.K ρ H ρ (upd H a (.dT (W8 ws (pK k)))):=Jdi (o0:=.dT ws) ea (λ_ z=>by cases z) (λ_ _ z=>by cases z);exact Jxy (by show X.A.units+2<C0;lia) I ea eb z2 λw' s' I' rw'=>⟨v,_,I',rw',fin ρ _ _ f (rs.setO (o0:=.dT ws) hp f ⟨_,Jaf,(q.drop Jfg k).fut f⟩) (z3.fut f)⟩
 |get2=>
  cases o<;>first|exact absurd e Jab|(rcases ds with _|⟨x0,_|⟨y,_|⟨z,ds⟩⟩⟩<;>try (first|exact absurd e Jab|(cases x0<;>exact absurd e Jab)))
  cases x0<;>try (exact absurd e Jab)
  cases e;rename_i kvs k;obtain⟨a,rfl,kd⟩:=ro.kd_inv;obtain⟨v1,v2,rfl,r1,r2⟩:=rd.two;obtain⟨u1,u2,rfl,q1,q2⟩:=vals2 rvs;cases rx;cases r1.str_inv;obtain⟨tk,rfl⟩:=q1;have T:=kd.text I.kIn;refine Tj (h₀:=s.heap) (D:=kvs.map λp=>(p.1,Ew (.int p.2))) ⟨T,λ_ _ z=>z⟩ ?_;clear T kd;have main:∀(kvs:List (Str×Int)),(∀n tk',kvs.lookup k=some n->EP X pins U Q (.int n tk') {s with toks:=s.toks+1})->(kvs.lookup k=none->EP X pins U Q u2 {s with toks:=s.toks+1})->
    Tt s.heap k (λv=>EP X pins U Q v {s with toks:=s.toks+1}) (EP X pins U Q u2 {s with toks:=s.toks+1}) (kvs.map λp=>(p.1,Ew (.int p.2))):=by
   intro kvs
   induction kvs with
   |nil=>intro _ h2;exact Tn (h2 rfl)
   |cons p r ih=>
    obtain⟨y,n⟩:=p;intro h1 h2
    by_cases hy:k=y
    ·subst hy;exact Tq rfl (Ti λt=>h1 n t (by simp))
    ·have hb:(k==y)=false:=by simpa using hy
     exact To hy (ih (λn tk' e=>h1 n tk' (by simp only[Dj,hb];exact e)) λe=>h2 (by simp only[Dj,hb];exact e))
  refine main kvs (λn tk' en=>?_) (λen=>?_)
  ·rw[en]at fin;exact⟨.int n,H,I.tok _,⟨_,rfl⟩,fin.now rs (RelD.int _)⟩
  ·rw[en]at fin;exact⟨_,H,I.tok _,q2,fin.now rs r2⟩
end
structure Ow where
 mt:List (String×String×String)
 fd:List (String×String)
 nw:List (String×String)
 ex:List (String×String×String×List (String×Bool))
structure Ck where
 N:List Str
 names:List (Str×Fb)
 fn:Bool
 B:List String
 F:List String
 O:Ow
noncomputable def dbg(x:Str):Bool:= !(x==("__debug__":Str))&& !(x==("__classdict__":Str))
noncomputable def Ck.vis(c:Ck)(x:Str):Bool:=c.names.lookup x==some .local||c.names.lookup x==some .cell||c.names.lookup x==some .free
noncomputable def Ck.own(c:Ck)(x:Str):Bool:=if c.fn then c.names.lookup x==some .local||c.names.lookup x==some .cell else c.names.lookup x==some .local
noncomputable def Ck.gl(c:Ck)(x:Str):Bool:=c.names.lookup x==some .globalImplicit
noncomputable def relab(inner outer:List (Str×Fb)):List (Str×Fb):=inner.map λ(n,k)=>if(k== .free&&outer.lookup n==some .cell)then(n,.cell)else(n,k)
def Ck.inner(c:Ck)(N:List String)(scope:Ia):Ck:={c with N:=N.map Ac,names:=relab scope.names c.names,fn:=false}
noncomputable def Ck.comp(c:Ck)(N:List String)(k:Nat)(keep:List Nat)(scope:Ia):Bool:=
 scope.kind== .function&&scope.names.all (λy=>y.2 != .cell)&&scope.names.all (λy=>y.2 != .local||scope.names.lookup y.1==some .local)
  &&scope.names.all (λy=>y.2 != .free||c.names.lookup y.1==some .cell||c.names.lookup y.1==some .free)
  &&N.length==k+keep.length&&decide ((N.map Ac).Nodup)
  &&(B3 keep.length).all (λj=>match keep[j]?,(N.map Ac)[k+j]? with
   |some i,some x=>c.N[i]? ==some x&&scope.names.lookup x==some .free
   |_,_=>false)
noncomputable def Jck:Expr->Bool
 |.Call (.Name ..) [] [] _=>true
 |_=>false
noncomputable def Zb:Expr->Bool
 |.Name .. =>true
 |_=>false
noncomputable def isComp:Expr->Bool
 |.ListComp .. =>true|.SetComp .. =>true|.DictComp .. =>true
 |_=>false
noncomputable def Wt(k:Nat):M->Bool
 |.tvar i=>decide (i<k)
 |.ttup ts=>Wt k ts
 |.nul=>true
 |.cns a b=>Wt k a&&Wt k b
 |_=>false
noncomputable def Zt:Meth->M->Bool
 |.indexT,.glb _=>true
 |.indexT,_=>false
 |_,_=>true
noncomputable def cNB:Expr->Bool
 |.Constant .none _ _=>true
 |_=>false
noncomputable def Zu:Expr->Bool
 |.Set .. =>false
 |_=>true
def W2(o:Cop)(e:Expr):Bool:=match o with
 |.isc=>cNB e
 |.isnc=>cNB e
 |_=>Zu e
noncomputable def cnV:(x:Expr)->Option {k:Const//∃n p,x=.Constant k n p}
 |.Constant k n p=>some ⟨k,n,p,rfl⟩
 |_=>none
noncomputable def dC:D->Option Const
 |.non=>some .none
 |.bl b=>some (.bool b)
 |.int i=>some (.int i)
 |.str x=>some (.str x)
 |_=>none
noncomputable def fV:(x:Expr)->Option {q:Str×Pos×List Expr×Pos//x=.Call (.Name q.1 q.2.1) q.2.2.1 [] q.2.2.2}
 |.Call (.Name y p) es [] q=>some ⟨(y,p,es,q),rfl⟩
 |_=>none
theorem aO{α:Type}{o:Option α}{f:α->Bool}(h:o.any f=true):∃q,f q=true:=by
 cases o with
 |none=>exact fx9 h
 |some q=>exact⟨q,h⟩
noncomputable def zC(n:Str):(x:Expr)->Option {_u:Unit//∃p q,x=.Call (.Name n p) [] [] q}
 |.Call (.Name y p) [] [] q=>if h:n=y then some ⟨(),p,q,by rw[h]⟩else none
 |_=>none
noncomputable def nC(n:String):(x:Expr)->Option {e:Expr//∃p q,x=.Call (.Name (Ac n) p) [e] [] q}
 |.Call (.Name y p) [e] [] q=>if h:Ac n=y then some ⟨e,p,q,by rw[h]⟩else none
 |_=>none
def mC(m:String):(x:Expr)->Option {e:Expr//∃p q,x=.Call (.Attribute e (Ac m) p) [] [] q/\(!Jck e)=true/\(p.endLine==q.line)=true}
 |.Call (.Attribute e y p) [] [] q=>if h:Ac m=y/\(!Jck e)=true/\(p.endLine==q.line)=true then some ⟨e,p,q,by rw[h.1],h.2⟩else none
 |_=>none
noncomputable def iC:(x:Expr)->Option {r:Expr×Str//∃p1 p2 p3,x=.Call (.Name "isinstance" p1) [r.1,.Name r.2 p2] [] p3}
 |.Call (.Name z p) [e,.Name y q] [] s=>if h:z="isinstance" then some ⟨(e,y),p,q,s,by rw[h]⟩else none
 |_=>none
def hV(x:Expr):Option {e:Expr//∃p1 p2 p3 p4 ap cp,x=.Call (.Name "dict" p1) [.Call (.Name "sorted" p2) [.Call (.Attribute e "items" ap) [] [] cp] [] p3] [] p4/\(!Jck e)=true/\(ap.endLine==cp.line)=true}:=
 match nC "dict" x with
 |some ⟨y,h1⟩=>(match nC "sorted" y with
  |some ⟨z,h2⟩=>(match mC "items" z with
   |some ⟨e,h3⟩=>some ⟨e,let⟨p1,p4,e1⟩:=h1;let⟨p2,p3,e2⟩:=h2;let⟨ap,cp,e3,h⟩:=h3;⟨p1,p2,p3,p4,ap,cp,by rw[e1,e2,e3],h⟩⟩
   |none=>none)
  |none=>none)
 |none=>none
def lV(x:Expr):Option {e:Expr//∃p1 p2 p3 p4,x=.Call (.Name "len" p1) [.Call (.Name "set" p2) [e] [] p3] [] p4}:=
 match nC "len" x with
 |some ⟨y,h1⟩=>(match nC "set" y with
  |some ⟨e,h2⟩=>some ⟨e,let⟨p1,p4,e1⟩:=h1;let⟨p2,p3,e2⟩:=h2;⟨p1,p2,p3,p4,by rw[e1,e2]⟩⟩
  |none=>none)
 |none=>none
def dwA(b:Bool)(x:Expr)(f:Expr->Bool):Bool:=if b=true then(mC "values" x).any λe=>f e.1 else f x
noncomputable def nD:M->Bool
 |.dcm .. =>false
 |_=>true
structure Rv where
 (c y:Str) (e:Expr) (k:Nat) (p1 p2 p3 p4 p5 p6:Pos)
noncomputable def Rv.st(q:Rv):Stmt:=.Raise (some (.Call (.Name q.c q.p1) [.JoinedStr [.Constant (.str q.y) q.k q.p2,.FormattedValue q.e (-1) none q.p3] q.p4] [] q.p5)) none q.p6
def rsV:(x:Stmt)->Option {q:Rv//x=q.st}
 |.Raise (some (.Call (.Name c p1) [.JoinedStr [.Constant (.str y) k p2,.FormattedValue e (-1) none p3] p4] [] p5)) none p6=>some ⟨⟨c,y,e,k,p1,p2,p3,p4,p5,p6⟩,rfl⟩
 |_=>none
structure Tv where
 (f c n v:Str) (e:Expr) (es is:List Expr) (p1 p2 p3 p4 p5 p6 p7 p8 p9:Pos)
noncomputable abbrev Tv.cl(q:Tv):Expr:=.Call (.Name q.f q.p1) (q.e::q.es) [] q.p2
def Tv.st(q:Tv):Stmt:=.Try [.Expr q.cl q.p3] [.ExceptHandler (some (.Name q.c q.p4)) (some q.n) [.Assign [.Name q.v q.p5] (.List q.is q.p6) q.p7] q.p8] [] [] q.p9
def trV:(x:Stmt)->Option {q:Tv//x=q.st}
 |.Try [.Expr (.Call (.Name f p1) (e::es) [] p2) p3] [.ExceptHandler (some (.Name c p4)) (some n) [.Assign [.Name v p5] (.List is p6) p7] p8] [] [] p9=>some ⟨⟨f,c,n,v,e,es,is,p1,p2,p3,p4,p5,p6,p7,p8,p9⟩,rfl⟩
 |_=>none
def isVar(c:Ck)(n:Nat):Expr->Bool
 |.Name x _=>c.N[n]? ==some x&&c.vis x&&dbg x
 |_=>false
def X6(c:Ck)(n:Nat):List (String×Bool)->List Expr->Bool
 |[],[]=>true
 |t::ts,e::es=>(iC e).any (λq=>isVar c n q.1.1&&Ac t.1==q.1.2&&c.gl "isinstance"&&c.B.contains "isinstance"&&c.gl q.1.2&&dbg q.1.2)&&X6 c n ts es
 |_,_=>false
noncomputable def itT:M->Expr->Bool
 |.enm _,.Tuple _ _ _=>true
 |.enm _,_=>false
 |.zp _ _,.Tuple _ _ _=>true
 |.zp _ _,_=>false
 |_,_=>true
mutual
noncomputable def Vi:M->Ck->Expr->Bool
 |.cst d,_,x=>(cnV x).any λk=>dC d==some k.1
 |.var i,c,.Name x _=>c.N[i]? ==some x&&c.vis x&&dbg x
 |.glb g,c,.Name x _=>Ac g==x&&c.gl x&&dbg x
 |.bin o a b,c,.BinOp e p f _=>Waw o==p&&Vi a c e&&Vi b c f
 |.neg a,c,.UnaryOp .USub e _=>Vi a c e
 |.nott a,c,.UnaryOp .Not e _=>Vi a c e
 |.bit a,c,x=>(mC "bit_length" x).any λe=>Zb e.1&&Vi a c e.1
 |.bo true as,c,.BoolOp .And es _=>Vz as c es
 |.bo false as,c,.BoolOp .Or es _=>Vz as c es
 |.cmp o a b,c,.Compare e [p] [f] _=>W9 o==p&&Vi a c e&&Vi b c f&&W2 o f
 |.cmp2 o o' a b d,c,.Compare e [p,p'] [f,g] _=>W9 o==p&&W9 o'==p'&&Vi a c e&&Vi b c f&&Vi d c g&&W2 o f&&W2 o' g
 |.ife t a b,c,.IfExp x e f _=>Vi t c x&&Vi a c e&&Vi b c f
 |.tup as,c,.Tuple es _ _=>Vz as c es
 |.lst as,c,.List es _=>Vz as c es
 |.idx a b,c,.Subscript e f _=>Vi a c e&&Vi b c f
 |.sli a lo hi,c,.Subscript e (.Slice l h none _) _=>Vi a c e&&Y0 lo c l&&Y0 hi c h
 |.call f as,c,x=>(fV x).any λq=>Ac f==q.1.1&&c.gl q.1.1&&dbg q.1.1&&c.F.contains f&&Vz as c q.1.2.2.1
 |.prim p as,c,.Call (.Name x _) (e::es) [] _=>Ac (Wf p)==x&&c.gl x&&c.B.contains (Wf p)&&Vz as c (e::es)
 |.isi a t,c,x=>(iC x).any λq=>Ac t==q.1.2&&c.gl "isinstance"&&c.gl q.1.2&&c.B.contains "isinstance"&&c.B.contains t&&clNames.contains t&&Vi a c q.1.1
 |.meth p o as,c,.Call (.Attribute e x ap) es [] cp=>Ac (Xu p)==x&& !Jck e&&ap.endLine==cp.line&&decide (es.length<20)&&Vi o c e&&Vz as c es&&Zt p o
 |.comp N k keep tg it cd el,c,.ListComp elt [⟨t,i,fs,asy⟩] scope _=>asy==0&&c.comp N k keep scope&&Wt k tg&&Xc tg (c.inner N scope) t&&Xb it c i&&Zd cd (c.inner N scope) fs&&Vi el (c.inner N scope) elt&&itT it t
 |.dcm b N keep tg a el,c,.ListComp elt [⟨t,i,[],asy⟩] scope _=>asy==0&&c.comp N 1 keep scope&&Wt 1 tg&&Xc tg (c.inner N scope) t&&dwA b i (λe=>Vi a c e)&&Vi el (c.inner N scope) elt
 |.dnil _,_,.Dict [] [] _=>true
 |.hld a,c,x=>(hV x).any λe=>c.gl "dict"&&c.gl "sorted"&&c.B.contains "dict"&&c.B.contains "sorted"&&Vi a c e.1
 |.lsp a,c,x=>(lV x).any λe=>c.gl "len"&&c.gl "set"&&c.B.contains "len"&&c.B.contains "set"&&Vi a c e.1
 |.fld cl f a,c,.Attribute e x _=>Ac f==x&&Zb e&&c.O.fd.contains (cl,f)&&Vi a c e
 |.mcl cl m f o as,c,.Call (.Attribute e x ap) es [] cp=>Ac m==x&&Zb e&&ap.endLine==cp.line&&decide (es.length<20)&&c.O.mt.contains (cl,m,f)&&Vi o c e&&Vz as c es
 |.new cl f,c,x=>(zC (Ac cl) x).any λ_=>c.gl (Ac cl)&&dbg (Ac cl)&&c.O.nw.contains (cl,f)
 |_,_,_=>false
noncomputable def Vz:M->Ck->List Expr->Bool
 |.nul,_,[]=>true
 |.cns a b,c,e::es=>Vi a c e&&Vz b c es
 |_,_,_=>false
noncomputable def Y0:M->Ck->Option Expr->Bool
 |.nul,_,none=>true
 |.cns a .nul,c,some e=>Vi a c e
 |_,_,_=>false
noncomputable def Zd:M->Ck->List Expr->Bool
 |.nul,_,[]=>true
 |.cns a .nul,c,[e]=>Vi a c e
 |_,_,_=>false
noncomputable def Xb:M->Ck->Expr->Bool
 |.rng a,c,x=>(nC "range" x).any λe=>c.gl "range"&&c.B.contains "range"&&Vi a c e.1
 |.cns a .nul,c,e=>Vi a c e
 |.enm a,c,x=>(nC "enumerate" x).any λe=>c.gl "enumerate"&&c.B.contains "enumerate"&&Vi a c e.1
 |.zp a b,c,.Call (.Name x _) [e,f] [] _=>Ac "zip"==x&&c.gl x&&c.B.contains "zip"&&Vi a c e&&Vi b c f
 |_,_,_=>false
noncomputable def Xc:M->Ck->Expr->Bool
 |.tvar i,c,.Name x _=>c.N[i]? ==some x&&c.own x
 |.ttup ts,c,.Tuple es _ _=>Ww ts c es
 |.tsub a b,c,.Subscript e f _=>Vi a c e&&Vi b c f
 |_,_,_=>false
noncomputable def Ww:M->Ck->List Expr->Bool
 |.nul,_,[]=>true
 |.cns a b,c,e::es=>Xc a c e&&Ww b c es
 |_,_,_=>false
noncomputable def Waa:M->Ck->Stmt->Bool
 |.asg t e,c,.Assign [tg] v _=>Xc t c tg&&Vi e c v&&(match tg,v with|.Tuple ..,.Tuple .. =>false|.Name ..,_=>nD e|_,v=> !isComp v)
 |.aug i e,c,.AugAssign (.Name x _) .Add v _=>c.N[i]? ==some x&&c.own x&&Vi e c v
 |.ifs t a b,c,.If x y z _=>Vi t c x&&Wn a c y&&Wn b c z
 |.forr t i b,c,.For tg it body [] _=>Xc t c tg&&Xb i c it&&Wn b c body&&itT i tg
 |.ret e,c,.Return (some v) _=>Vi e c v
 |.exp e,c,.Expr v _=>Vi e c v&& !isComp v
 |.rse cl a,c,x=>(rsV x).any λq=>Ac cl==q.1.c&&c.gl q.1.c&&dbg q.1.c&&decide (q.1.y.length<=1000)&&Vi a c q.1.e
 |.tri f g cl n j ts as,c,x=>(trV x).any λq=>Ac f==q.1.f&&c.gl q.1.f&&dbg q.1.f&&c.F.contains f&&Vz as c (q.1.e::q.1.es)&&Ac cl==q.1.c&&c.gl q.1.c&&dbg q.1.c&&c.N[n]? ==some q.1.n&&c.names.lookup q.1.n==some .local&&c.N[j]? ==some q.1.v&&c.own q.1.v&&c.fn&&X6 c n ts q.1.is&&c.O.ex.contains (f,g,cl,ts)
 |.sfd cl f o v,c,.Assign [.Attribute e x _] w _=>Ac f==x&& !isComp w&&c.O.fd.contains (cl,f)&&Vi o c e&&Vi v c w
 |_,_,_=>false
noncomputable def Wn:M->Ck->List Stmt->Bool
 |.nul,_,[]=>true
 |.cns a b,c,s::ss=>Waa a c s&&Wn b c ss
 |_,_,_=>false
end
theorem Wc6:Vz (.cns a b) c (e::es)=(Vi a c e&&Vz b c es):=rfl
def aB(h:(a&&b)=true):a=true/\b=true:=(Ai _ _).mp h
section
variable (K:Af) (C:Pr)
inductive tE (m:M) (U:L2.St) (H:Hp) (Q:VK):Prop
 |mk (ρ S Z d S') (_:RelS K ρ S H) (_:RelE K ρ H Z U) (_:evE C m Z S=.ok d S') (_:Fin K ρ H d S' Q):tE m U H Q
noncomputable def FinB(ρ:List Addr)(H:Hp)(S':Store)(Q:Hp->Prop):Prop:=∀ρ' H',Fut K ρ H ρ' H'->RelS K ρ' S' H'->Q H'
inductive tT (m:M) (U:L2.St) (H:Hp) (Q:Bool->Hp->Prop):Prop
 |mk (ρ S Z b S') (_:RelS K ρ S H) (_:RelE K ρ H Z U) (_:evT C m Z S=.ok b S') (_:FinB K ρ H S' (Q b)):tT m U H Q
inductive tC (m:M) (U:L2.St) (H:Hp) (Q:Bool->Hp->Prop):Prop
 |mk (ρ S Z b S') (_:RelS K ρ S H) (_:RelE K ρ H Z U) (_:evC C m Z S=.ok b S') (_:FinB K ρ H S' (Q b)):tC m U H Q
inductive tBV (w:Bool) (m:M) (U:L2.St) (H:Hp) (Q:VK):Prop
 |mk (ρ S Z d S') (_:RelS K ρ S H) (_:RelE K ρ H Z U) (_:evBV C w m Z S=.ok d S') (_:Fin K ρ H d S' Q):tBV w m U H Q
inductive tBT (w:Bool) (m:M) (U:L2.St) (H:Hp) (Q:Bool->Hp->Prop):Prop
 |mk (ρ S Z b S') (_:RelS K ρ S H) (_:RelE K ρ H Z U) (_:evBT C w m Z S=.ok b S') (_:FinB K ρ H S' (Q b)):tBT w m U H Q
inductive tA (m:M) (U:L2.St) (H:Hp) (Q:List V->Hp->Prop):Prop
 |mk (ρ S Z ds S') (_:RelS K ρ S H) (_:RelE K ρ H Z U) (_:evA C m Z S=.ok ds S') (_:∀ρ' vs H',Fut K ρ H ρ' H'->RelS K ρ' S' H'->RelDs K ρ' H' ds vs->Q vs H'):tA m U H Q
inductive tO (m:M) (U:L2.St) (H:Hp) (Q:Option Int->Hp->Prop):Prop
 |mk (ρ S Z o S') (_:RelS K ρ S H) (_:RelE K ρ H Z U) (_:evO C m Z S=.ok o S') (_:FinB K ρ H S' (Q o)):tO m U H Q
structure ItOk(ρ0:List Addr)(H0:Hp)(J:It)(g:Wk)(ds:List D):Prop where
 go:∀ρ H S i d,Fut K ρ0 H0 ρ H->RelS K ρ S H->sameAt S g ds.length=true->nth S g ds i=some d->J.go i H/\∀x H',J.yld i H x H'->Fut K ρ H ρ H'/\RelS K ρ S H'/\RelD K ρ H' d x
 stop:∀ρ H S,Fut K ρ0 H0 ρ H->RelS K ρ S H->sameAt S g ds.length=true->J.stop ds.length H
inductive tI (m:M) (U:L2.St) (H:Hp) (R:It->Hp->Prop):Prop
 |mk (ρ S Z g ds S') (_:RelS K ρ S H) (_:RelE K ρ H Z U) (_:evI C m Z S=.ok (g,ds) S') (_:∀ρ' H' J,Fut K ρ H ρ' H'->RelS K ρ' S' H'->ItOk K ρ' H' J g ds->R J H'):tI m U H R
noncomputable def FinG(ρ:List Addr)(H:Hp)(Z':En)(S':Store)(Q:L2.St->Hp->Prop):Prop:=∀ρ' U' H',Fut K ρ H ρ' H'->RelS K ρ' S' H'->RelE K ρ' H' Z' U'->Q U' H'
inductive tG (m:M) (v:V) (U:L2.St) (H:Hp) (Q:L2.St->Hp->Prop):Prop
 |mk (ρ S Z d Z' S') (_:RelS K ρ S H) (_:RelE K ρ H Z U) (_:RelD K ρ H d v) (_:evG C m d Z S=.ok Z' S') (_:FinG K ρ H Z' S' Q):tG m v U H Q
inductive tGs (m:M) (vs:List V) (U:L2.St) (H:Hp) (Q:L2.St->Hp->Prop):Prop
 |mk (ρ S Z ds Z' S') (_:RelS K ρ S H) (_:RelE K ρ H Z U) (_:RelDs K ρ H ds vs) (_:evGs C m ds Z S=.ok Z' S') (_:FinG K ρ H Z' S' Q):tGs m vs U H Q
def FlOk(ρ:List Addr)(H:Hp)(fl:Fl)(S':Store)(D:Ends):Prop:=match fl with
 |.nx Z'=>FinG K ρ H Z' S' D.nx
 |.rt d=>Fin K ρ H d S' D.rt
inductive tS (m:M) (D:Ends) (U:L2.St) (H:Hp):Prop
 |mk (ρ S Z fl S') (_:RelS K ρ S H) (_:RelE K ρ H Z U) (_:evS C m Z S=.ok fl S') (_:FlOk K ρ H fl S' D):tS m D U H
inductive tB' (m:M) (D:Ends) (U:L2.St) (H:Hp):Prop
 |mk (ρ S Z fl S') (_:RelS K ρ S H) (_:RelE K ρ H Z U) (_:evB C m Z S=.ok fl S') (_:FlOk K ρ H fl S' D):tB' m D U H
noncomputable def spM(f:String):Sp:=λvs H Q _=>∃ρ S ds d S',RelS K ρ S H/\RelDs K ρ H ds vs/\C.call f ds S=.ok d S'/\Fin K ρ H d S' Q
end
inductive SpG (K:Af) (C:Pr) (g:String) (Ca:Addr) (vs:List V) (H:Hp) (E:XK):Prop
 |mk (ρ S ds d S') (_:RelS K ρ S H) (_:RelDs K ρ H ds vs) (_:C.call g ds S=.ok d S') (_:okW d=true) (_:∀ρ' H',Fut K ρ H ρ' H'->RelS K ρ' S' H'->E (.ref Ca) none H'):SpG K C g Ca vs H E
noncomputable def spG(K:Af)(C:Pr)(g:String)(Ca:Addr):Sp:=λvs H _ E=>SpG K C g Ca vs H E
noncomputable def IsC(K:Af)(mg:Str->Option Value)(Ca:Addr)(t:String)(b:Bool):Prop:=
 (∃Ct,mg (Ac t)=some (.ref Ct)/\Hw K (.ref Ca) (.ref Ct)=some b)\/(t="ValueError"/\mg (Ac t)=none/\Hw K (.ref Ca) (.type "ValueError")=some b)
structure XCl(K:Af)(mg:Str->Option Value)(Ca:Addr)(cl:String)(ts:List (String×Bool)):Prop where
 ca:∃Cc,mg (Ac cl)=some Cc/\Rf K (.ref Ca) Cc=some true
 ec:Wx K Ca
 cs:(G5 K Ca).isSome=true
 it:∀t∈ts,IsC K mg Ca t.1 t.2
inductive XF (P:Program) (w:World) (K:Af) (mg:Str->Option Value) (base:Heap) (C:Pr) (k:Nat) (f g cl:String) (ts:List (String×Bool)):Prop
 |mk (a fd ps Ca) (_:mg (Ac f)=some (.ref a)) (_:FnOk P w K mg base (CX1 P w) k a fd ps (spG K C g Ca)) (_:Binds K fd ps []) (_:C7 K (.ref a)=true) (_:XCl K mg Ca cl ts):XF P w K mg base C k f g cl ts
structure Tp(P:Program)(w:World)(K:Af)(mg:Str->Option Value)(base:Heap)(A:Bi)(C:Pr)(B F:List String)(O:Ow):Prop where
 fns:∀f∈F,∃k a fd ps,Vq k A/\mg (Ac f)=some (.ref a)/\FnOk P w K mg base CX0 k a fd ps (spM K C f)/\Binds K fd ps []/\C7 K (.ref a)=true
 blt:∀x∈B,mg (Ac x)=none
 gl:∀x d,C.glob x=some d->∃v u,mg (Ac x)=some u/\RelV v u/\(∀ρ H,RelD K ρ H d v)/\∀ds,d=.tup ds->∃a o,v=.ref a/\K.lookup a=some o/\o.cls=.type "tuple"/\o.dict=none
 un:A.units+64<C0
 np:npB K=true
 mts:∀c m f,(c,m,f)∈O.mt->∃k a fd ps Ca,Vq (k+1) A/\Bt K A7 (Ac c)=some (some (.ref Ca))/\L2.Cls K Ca/\L2.Meth K Ca (Ac m) a/\FnOk P w K mg base CX0 k a fd ps (spM K C f)/\Binds K fd ps []
 fds:∀c f,(c,f)∈O.fd->∃Ca,Bt K A7 (Ac c)=some (some (.ref Ca))/\L2.Cls K Ca/\L2.V6 K Ca (Ac f)
 nws:∀c f,(c,f)∈O.nw->∃k a fd ps Ca,Vq (k+1) A/\Bt K A7 (Ac c)=some (some (.ref Ca))/\mg (Ac c)=some (.ref Ca)/\L2.Mk K Ca a/\FnOk P w K mg base CX0 k a fd ps (spM K C f)/\Binds K fd ps []
 exs:∀f g cl ts,(f,g,cl,ts)∈O.ex->∃k,Vq k A/\XF P w K mg base C k f g cl ts
structure Gd(X:Cx)(C:Pr)(c:Ck):Prop where
 N:X.N=c.N
 nd:X.N.Nodup
 names:X.env.scope.names=c.names
 sk:X.env.scope.kind=.function
 fn:∀x,X.fn x=c.fn
 calm:X.calm=true
 xe:X.xe=λ_ _=>False
 bd:c.fn=true->Body X
 top:Tp X.prog X.w X.K X.mg X.base X.A C c.B c.F c.O
section
variable {X:Cx} {C:Pr} {c:Ck}
def PE.imp(h:PE X e t)(hi:∀U H Q,t' U H Q->t U H Q):PE X e t':=λpins s U H Q I q=>h pins s U H Q I (hi _ _ _ q)
def PT.imp(h:PT X e t)(hi:∀U H Q,t' U H Q->t U H Q):PT X e t':=λpins s U H Q I q=>h pins s U H Q I (hi _ _ _ q)
def PA.imp(h:PA X e t)(hi:∀U H Q,t' U H Q->t U H Q):PA X e t':=λpos pins s U H Q I q=>h pos pins s U H Q I (hi _ _ _ q)
def PI.imp(h:PI X tg e t)(hi:∀U H Q,t' U H Q->t U H Q):PI X tg e t':=λpins s U H Q I q=>h pins s U H Q I (hi _ _ _ q)
def PO.imp(h:PO X e t)(hi:∀U H Q,t' U H Q->t U H Q):PO X e t':=λpins s U H Q I q=>h pins s U H Q I (hi _ _ _ q)
def PG.imp(h:PG X e t)(hi:∀v U H Q,t' v U H Q->t v U H Q):PG X e t':=λpins s U H v u Q I r q=>h pins s U H v u Q I r (hi _ _ _ _ q)
def PGs.imp(h:PGs X e t)(hi:∀v U H Q,t' v U H Q->t v U H Q):PGs X e t':=λpins s U H v u Q I r q=>h pins s U H v u Q I r (hi _ _ _ _ q)
def PS.imp(h:PS X e t)(hi:∀D U H,t' D U H->t D U H):PS X e t':=λpins s U H D I q=>h pins s U H D I (hi _ _ _ q)
def PSs.imp(h:PSs X e t)(hi:∀D U H,t' D U H->t D U H):PSs X e t':=λpins s U H D I q=>h pins s U H D I (hi _ _ _ q)
def PTs.imp(h:PTs X e t)(hi:∀U H Q,t' U H Q->t U H Q):PTs X e t':=λpins s U H Q I q=>h pins s U H Q I (hi _ _ _ q)
def Wz(h:dbg x=true):(x==("__debug__":Str))=false:=by unfold dbg at h;simp only[Ai,Jh]at h;exact h.1
def Wbe(h:dbg x=true):(x==("__classdict__":Str))=false:=by unfold dbg at h;simp only[Ai,Jh]at h;exact h.2
def Gd.vis(g:Gd X C c)(h:c.vis x=true):Vis X.env.scope x:=by
 unfold Ck.vis at h;simp only[Ht,beq_iff_eq]at h;unfold Vis;rw[g.names];rcases h with(h|h)|h
 ·exact .inl h
 ·exact .inr (.inl h)
 ·exact .inr (.inr h)
def Gd.own(g:Gd X C c)(h:c.own x=true):L2.Loc X.env.scope x/\(X.fn x=true\/X.env.scope.names.lookup x=some .local):=by
 unfold Ck.own at h;unfold L2.Loc;rw[g.names,g.fn];split at h
 ·rename_i hf;simp only[Ht,beq_iff_eq]at h;exact⟨h,.inl hf⟩
 ·simp only[beq_iff_eq]at h;exact⟨.inl h,.inr h⟩
def Gd.glo(g:Gd X C c)(h:c.gl x=true):Gl X x:=by
 unfold Ck.gl at h;simp only[beq_iff_eq]at h;unfold Gl Env.kindOf;rw[g.names];exact h
def noStar:∀{m:M} {c:Ck} {e:Expr},Vi m c e=true->∀x p,e≠ .Starred x p:=by
 intro m c e h x p z;subst z;cases m<;>first|(exact fx9 h)|(rename_i d;cases d<;>exact fx9 h)|(rename_i w _;cases w<;>exact fx9 h)
def Jae(h:∀x p,e≠ .Starred x p):Bs (e::es) env=(false,eval e env)::Bs es env:=by
 cases e<;>first|rfl|exact absurd rfl (h _ _)
def Jcy(h:∀x p,e≠ .Starred x p):F1 (e::es) env=(false,assign e env)::F1 es env:=by
 cases e<;>first|rfl|exact absurd rfl (h _ _)
theorem V8:∀{m:M} {c:Ck} {es:List Expr} {env:Env},Vz m c es=true->(Bs es env).any (·.1)=false:=by
 intro m
 induction m with
 |nul=>intro c es env h;cases es<;>first|rfl|exact fx9 h
 |cns a b _ ihb=>
  intro c es env h;cases es with
  |nil=>exact fx9 h
  |cons e es=>
   simp only[Wc6,Ai]at h;rw[Jae (noStar h.1),Fs,ihb h.2];rfl
 |_=>intro c es env h;exact fx9 h
theorem Ja5(pos:Pos)(l:List (Bool×Sem Value)):(Fg pos l).any (·.1)=l.any (·.1):=by
 unfold Fg;rw[Po];rfl
def Jft(pos:Pos)(l:List (Bool×Sem Value))(h:l.any (·.1)=false):(Fg pos l).all (λx=> !x.1)=true:=by
 unfold Fg;rw[Vg];rw[Mh]at h;rw[Dl];intro x hx;have:=h x hx
 simpa using this
def Y8:∀{m:M} {c:Ck} {e:Expr},Vi m c e=true->X7 e:=by
 intro m c e h o i;cases e<;>first|rfl|(exfalso;cases m<;>first|(exact fx9 h)|(rename_i d;cases d<;>exact fx9 h)|(rename_i w _;cases w<;>exact fx9 h))
def Jag{l:List String}(h:l.contains x=true):x∈l:=by simpa using h
def marks(h:W2 o e=true)(p:CmpOp):Hy p e=false:=by
 cases e<;>first|rfl|(cases o<;>exact fx9 h)
def Jbm(h:Vz as c (e::es)=true):∃a b,as=.cns a b:=by
 cases as<;>first|exact⟨_,_,rfl⟩|exact fx9 h
def Jed(h:Vz as c []=true):as=.nul:=by
 cases as<;>first|rfl|exact fx9 h
theorem Jre(h:Vz as c es=true):as=.nul\/∃a b,as=.cns a b:=by
 cases es with
 |nil=>exact .inl (Jed h)
 |cons e es=>exact .inr (Jbm h)
def Jx6(h:Y0 (.cns a b) c x=true):∃e,x=some e/\b=.nul:=by
 cases b<;>first|exact fx9 h|(cases x<;>first|exact⟨_,rfl,rfl⟩|exact fx9 h)
def Jx9(h:Zd (.cns a b) c x=true):∃e,x=[e]/\b=.nul:=by
 cases b<;>first|exact fx9 h|(rcases x with _|⟨e,_|⟨e2,es⟩⟩<;>first|exact⟨_,rfl,rfl⟩|exact fx9 h)
def Jx7(h:Xb (.cns a b) c x=true):b=.nul:=by
 cases b<;>first|rfl|exact fx9 h
def Jrd(h:Xc t c (.Name y p)=true):∃i,t=.tvar i:=by
 cases t<;>first|exact⟨_,rfl⟩|exact fx9 h
def Jx8(h:Xc t c (.List y p)=true):False:=by
 cases t<;>exact fx9 h
end
end Mi
namespace Mi
open PySem L2
abbrev SE(C:Pr)(m:M):Prop:=∀(X:Cx) (c:Ck) (x:Expr),Gd X C c->Vi m c x=true->PE X x (tE X.K C m)
abbrev ST(C:Pr)(m:M):Prop:=∀(X:Cx) (c:Ck) (x:Expr),Gd X C c->Vi m c x=true->PE X x (tE X.K C m)/\PT X x (tT X.K C m)
abbrev SG(C:Pr)(m:M):Prop:=∀(X:Cx) (c:Ck) (x:Expr),Gd X C c->Xc m c x=true->PG X x (tG X.K C m)
abbrev SS(C:Pr)(m:M):Prop:=∀(X:Cx) (c:Ck) (x:Stmt),Gd X C c->Waa m c x=true->PS X x (tS X.K C m)
structure Snd(C:Pr)(m:M):Prop where
 e:SE C m
 t:∀(X:Cx) (c:Ck) (x:Expr),Gd X C c->Vi m c x=true->PT X x (tT X.K C m)
 a:∀(X:Cx) (c:Ck) (x:List Expr),Gd X C c->Vz m c x=true->PA X x (tA X.K C m)
 bv:∀(X:Cx) (c:Ck) (w:Bool) (x:List Expr) (pos:Pos),Gd X C c->Vz m c x=true->PE X (.BoolOp (if w then .And else .Or) x pos) (tBV X.K C w m)
 bt:∀(X:Cx) (c:Ck) (w:Bool) (x:List Expr) (pos:Pos),Gd X C c->Vz m c x=true->PW X (.BoolOp (if w then .And else .Or) x pos) (tBT X.K C w m)
 o:∀(X:Cx) (c:Ck) (x:Option Expr),Gd X C c->Y0 m c x=true->PO X x (tO X.K C m)
 cd:∀(X:Cx) (c:Ck) (x:List Expr),Gd X C c->Zd m c x=true->PTs X x (tC X.K C m)
 i:∀(X:Cx) (c:Ck) (tg x:Expr),Gd X C c->Xb m c x=true->itT m tg=true->PI X tg x (tI X.K C m)/\∀v,C4 x X.env v=pure v
 g:SG C m
 gs:∀(X:Cx) (c:Ck) (x:List Expr),Gd X C c->Ww m c x=true->PGs X x (tGs X.K C m)
 s:SS C m
 b:∀(X:Cx) (c:Ck) (x:List Stmt),Gd X C c->Wn m c x=true->PSs X x (tB' X.K C m)
def SC(C:Pr):M->Prop
 |.comp _ _ _ tg it cd el=>Snd C tg/\Snd C it/\Snd C cd/\Snd C el
 |_=>True
section
variable {C:Pr} {X:Cx} {c:Ck}
def Js9(h:∀U H Q,¬t U H Q):PE X e t:=λpins s U H Q _ q=>absurd q (h _ _ _)
def Jy3(h:∀U H Q,¬t U H Q):PT X e t:=λpins s U H Q _ q=>absurd q (h _ _ _)
def Jyx(h:∀Z S,evE C m Z S=.bad):∀U H Q,¬tE K C m U H Q:=by
 rintro U H Q ⟨ρ,S,Z,d,S',_,_,e,_⟩;rw[h]at e;cases e
def Jyv(h:∀Z S,evT C m Z S=.bad):∀U H Q,¬tT K C m U H Q:=by
 rintro U H Q ⟨ρ,S,Z,d,S',_,_,e,_⟩;rw[h]at e;cases e
def Wp(h:∀a b p,e≠ .Set a b p)(v:Value):C4 e env v=pure v:=by
 cases e<;>first|rfl|exact absurd rfl (h _ _ _)
def Zn:∀{m:M} {c:Ck} {e:Expr},Vi m c e=true->∀a b p,e≠ .Set a b p:=by
 intro m c e h x q p z;subst z;cases m<;>first|(exact fx9 h)|(rename_i d;cases d<;>exact fx9 h)|(rename_i w _;cases w<;>exact fx9 h)
def Jj4{x:Expr}(h:PE X x (tE X.K C m))(he:∀whole,isTrue x X.env whole=(do let v<-whole;Nd x.pos;holding [v] (truthy v)))
  (hv:∀Z S b S',evT C m Z S=.ok b S'->∃d,evE C m Z S=.ok d S'/\tru S' d=some b):PT X x (tT X.K C m):=by
 refine PT.imp (Jn5 h he) λU H Q hq_=>?_;obtain⟨ρ,S,Z,b,S',rs,re,e,fin⟩:=hq_;obtain⟨d,e1,e2⟩:=hv Z S b S' e;exact⟨ρ,S,Z,d,S',rs,re,e1,λρ' v H' f r q=>⟨b,Jk0 r q e2,fin ρ' H' f r⟩⟩
def Jsd(ha:Snd C a)(hb:Snd C b):SE C (.bin o a b):=by
 intro X c x g h;cases x<;>try (exact fx9 h)
 replace h:=aB h
 simp only[Ai,beq_iff_eq]at h;obtain⟨⟨rfl,h1⟩,h2⟩:=h;refine PE.imp (Jy6 (Jyb o) (ha.e X c _ g h1) (hb.e X c _ g h2)) λU H Q hq_=>?_;obtain⟨ρ,S,Z,d,S',rs,re,e,fin⟩:=hq_;obtain⟨x1,S1,e1,e⟩:=Res.bind_eq_ok e;obtain⟨x2,S2,e2,e⟩:=Res.bind_eq_ok e;refine⟨ρ,S,Z,x1,S1,rs,re,e1,λρ1 v1 H1 f1 r1 q1=>⟨ρ1,S1,Z,x2,S2,r1,re.fut f1,e2,λρ2 v2 H2 f2 r2 q2=>?_⟩⟩;exact⟨ρ2,S2,x1,x2,d,S',r2,q1.fut f2,q2,e,λρ3 v3 H3 f3 r3 q3=>fin ρ3 v3 H3 (f1.trans (f2.trans f3)) r3 q3⟩
def Jrv(ha:Snd C a):SE C (.neg a):=by
 intro X c x g h;cases x<;>try (exact fx9 h)
 rename_i op e pos;cases op<;>try (exact fx9 h)
 refine PE.imp (Jy4 Jvc (ha.e X c _ g h)) λU H Q hq_=>?_;obtain⟨ρ,S,Z,d,S',rs,re,e,fin⟩:=hq_;obtain⟨x1,S1,e1,e⟩:=Res.bind_eq_ok e;refine⟨ρ,S,Z,x1,S1,rs,re,e1,λρ1 v1 H1 f1 r1 q1=>?_⟩;cases x1<;>simp only at e<;>try (cases e;done)
 cases e;exact⟨_,q1.int_inv,fin ρ1 _ H1 f1 r1 (RelD.int _)⟩
def Tm(X:Cx)(T:String)(x:V)(H:Hp):Prop:=∀pins s U v,Inv X pins U H s->RelV x v->s.TypeIs v T/\∀a,v=.ref a->∃ob,s.heap.get? a=some ob/\ob.dict=none
def Jpv(h:(!Jck o)=true):attributeBase o name env (eval o env)=eval o env:=by
 cases o<;>try rfl
 rename_i f0 a0 k0 p0;cases f0<;>try rfl
 cases a0<;>try rfl
 cases k0<;>try rfl
 exact fx9 h
def Jqs{id:String}{apos cpos:Pos}{r:V->List V->Hp->VK->Prop}(pa:Uk T)(slot:Slot T name id)(hty:typeOf (.builtin id)=pure (.type "method_descriptor"))(hm:MtR X id r)(ho:PE X o to)
  (hb:(!Jck o)=true)(hline:(apos.endLine==cpos.line)=true):PE X (.Call (.Attribute o name apos) [] [] cpos) (λU H Q=>to U H λx H1=>Tm X T x H1/\r x [] H1 Q):=by
 intro pins s U H Q I h;refine Kg (Jpv hb) hline (thn (ho pins s U H _ I h) λv s1 ⟨x,H1,I1,r1,ty,q1⟩=>?_);obtain⟨h1,h2⟩:=ty _ _ _ _ I1 r1;exact⟨T,id,pa,slot,hty,h1,h2,Gy rfl (Kz (hm pins s1 U H1 x [] v [] Q I1 r1 .nil q1))⟩
def Jwy:MtR X "int.bit_length" (λx xs H Q=>xs=[]/\∃i,x=.int i/\Q (.int (Bx i)) H):=by
 intro pins s U H x xs v us Q I rx r hq_;obtain⟨rfl,i,rfl,q⟩:=hq_;cases r;obtain⟨t,rfl⟩:=(show∃t',v=Dz i t' from rx)
 exact PyProof.Rows.call_int_bit_length ⟨.int _,H,I.tok _,⟨_,rfl⟩,q⟩
def Jsc(ha:Snd C a):SE C (.bit a):=by
 intro X c x g h;obtain⟨⟨e0,ap,pos,rfl,h1,h2⟩,h⟩:=aO h;dsimp only at h;obtain⟨_,h3⟩:=aB h;refine PE.imp (Jqs PySem.F.plainAttrs_int PySem.F.slot_int_bit_length PySem.F.type_int_bit_length Jwy (ha.e X c _ g h3) h1 h2) λU H Q hq_=>?_;obtain⟨ρ,S,Z,d,S',rs,re,e,fin⟩:=hq_;obtain⟨x1,S1,e1,e⟩:=Res.bind_eq_ok e;refine⟨ρ,S,Z,x1,S1,rs,re,e1,λρ1 v1 H1 f1 r1 q1=>?_⟩;cases x1<;>simp only at e<;>try (cases e;done)
 cases e;cases q1.int_inv;exact⟨λ_ s _ _ _ ⟨t,e⟩=>by subst e;exact⟨Ub s _ t,nofun⟩,rfl,_,rfl,fin ρ1 _ H1 f1 r1 (RelD.int _)⟩
def Js8(ha:PE X a ta):PE X (.UnaryOp .Not a pos) (λU H Q=>ta U H λx H1=>∃k,Ze X.K x H1 k/\Q (.bl (!k)) H1):=by
 intro pins s U H Q I h;refine R7 (thn (ha pins s U H _ I h) λv s1 ⟨x,H1,I1,r1,q1⟩=>?_);obtain⟨k,hk,q⟩:=q1;refine PyProof.Rows.not_of (thn (Jp7 pins s1 U H1 x v (λb H2=>Q (.bl (!b)) H2) I1 r1 ⟨k,hk,q⟩) λb s2 ⟨H2,I2,q2⟩=>?_);exact⟨.bl (!b),H2,I2,rfl,q2⟩
def Jrt(ha:Snd C a):ST C (.nott a):=by
 intro X c x g h;cases x<;>try (exact fx9 h)
 rename_i op e pos;cases op<;>try (exact fx9 h)
 constructor
 ·refine PE.imp (Js8 (ha.e X c _ g h)) λU H Q hq_=>?_;obtain⟨ρ,S,Z,d,S',rs,re,e,fin⟩:=hq_;obtain⟨x1,S1,e1,e⟩:=Res.bind_eq_ok e;refine⟨ρ,S,Z,x1,S1,rs,re,e1,λρ1 v1 H1 f1 r1 q1=>?_⟩;split at e
  ·rename_i b hb;cases e;exact⟨b,Jk0 r1 q1 hb,fin ρ1 _ H1 f1 r1 (RelD.bl _)⟩
  ·cases e
 ·refine PT.imp (Jv2 (ha.t X c _ g h)) λU H Q hq_=>?_;obtain⟨ρ,S,Z,d,S',rs,re,e,fin⟩:=hq_;obtain⟨x1,S1,e1,e⟩:=Res.bind_eq_ok e;cases e;exact⟨ρ,S,Z,x1,_,rs,re,e1,fin⟩
def Jsb(ha:Snd C a)(hb:Snd C b):ST C (.cmp o a b):=by
 intro X c x g h;cases x<;>try (exact fx9 h)
 rename_i l ops cs pos;rcases ops with _|⟨p,_|⟨p2,ops⟩⟩<;>first|exact fx9 h|(rcases cs with _|⟨f,_|⟨f2,cs⟩⟩<;>try (exact fx9 h))
 replace h:=aB h
 simp only[Ai,beq_iff_eq]at h;obtain⟨⟨⟨rfl,h1⟩,h2⟩,h3⟩:=h;have key:∀{ρ S Z k S' H U} {Q:VK},RelS X.K ρ S H->RelE X.K ρ H Z U->(evE C a Z S).bind (λx S1=>(evE C b Z S1).bind λy S2=>match cop o x y S2 with|some k=>(.ok (.bl k) S2:Res D)|none=>.bad)=.ok (.bl k) S'->
   FinB X.K ρ H S' (λH'=>Q (.bl k) H')->tOp (rC X.K o) (tE X.K C a) (tE X.K C b) U H Q:=λ{ρ S Z k S' H U Q} rs re e fin=>by
  obtain⟨x1,S1,e1,e⟩:=Res.bind_eq_ok e;obtain⟨x2,S2,e2,e⟩:=Res.bind_eq_ok e;refine⟨ρ,S,Z,x1,S1,rs,re,e1,λρ1 v1 H1 f1 r1 q1=>⟨ρ1,S1,Z,x2,S2,r1,re.fut f1,e2,λρ2 v2 H2 f2 r2 q2=>?_⟩⟩;split at e
  ·rename_i k' hk;cases e;exact⟨ρ2,_,x1,x2,_,r2,q1.fut f2,q2,hk,fin ρ2 H2 (f1.trans f2) r2⟩
  ·cases e
 constructor
 ·refine PE.imp (Jtc (Jfn o g.top.un g.top.np) (ha.e X c _ g h1) (hb.e X c _ g h2) (marks h3 _)) λU H Q hq_=>?_;obtain⟨ρ,S,Z,d,S',rs,re,e,fin⟩:=hq_;have hd:∃k,d=.bl k:=by
   obtain⟨x1,S1,e1,e⟩:=Res.bind_eq_ok e;obtain⟨x2,S2,e2,e⟩:=Res.bind_eq_ok e;split at e
   ·cases e;exact⟨_,rfl⟩
   ·cases e
  obtain⟨k,rfl⟩:=hd;exact key rs re e λρ' H' f r=>fin ρ' _ H' f r (RelD.bl _)
 ·refine PT.imp (Jsv (Jfn o g.top.un g.top.np) (ha.e X c _ g h1) (hb.e X c _ g h2) (marks h3 _)) λU H Q hq_=>?_;obtain⟨ρ,S,Z,k,S',rs,re,e,fin⟩:=hq_;have e':(evE C a Z S).bind (λx S1=>(evE C b Z S1).bind λy S2=>match cop o x y S2 with|some k=>(.ok (.bl k) S2:Res D)|none=>.bad)=.ok (.bl k) S':=by
   obtain⟨x1,S1,e1,e⟩:=Res.bind_eq_ok e;obtain⟨x2,S2,e2,e⟩:=Res.bind_eq_ok e;rw[e1,Res.bind_ok,e2,Res.bind_ok];split at e
   ·rename_i hk;cases e;first|rfl|rw[hk]
   ·cases e
  exact key rs re e' λρ' H' f r=>⟨k,rfl,fin ρ' H' f r⟩
def Jnw(ha:Snd C a)(hb:Snd C b)(hd:Snd C d):ST C (.cmp2 o o' a b d):=by
 intro X c x g h;cases x<;>try (exact fx9 h)
 rename_i l ops cs pos;rcases ops with _|⟨p,_|⟨p2,_|⟨p3,ops⟩⟩⟩<;>first|exact fx9 h|(rcases cs with _|⟨f,_|⟨f2,_|⟨f3,cs⟩⟩⟩<;>try (exact fx9 h))
 replace h:=aB h
 simp only[Ai,beq_iff_eq]at h;obtain⟨⟨⟨⟨⟨⟨rfl,rfl⟩,h1⟩,h2⟩,h3⟩,h4⟩,h5⟩:=h;have hm:lastMarks [W9 o,W9 o'] [f,f2]=false:=by
  show Hy (W9 o') f2=false;exact marks h5 _
 have key:∀{ρ S Z k S' H U} {Q:VK},RelS X.K ρ S H->RelE X.K ρ H Z U->evE C (.cmp2 o o' a b d) Z S=.ok (.bl k) S'->
   FinB X.K ρ H S' (λH'=>Q (.bl k) H')->Xr (rC X.K o) (rC X.K o') (tE X.K C a) (tE X.K C b) (tE X.K C d) U H Q:=λ{ρ S Z k S' H U Q} rs re e fin=>by
  obtain⟨x1,S1,e1,e⟩:=Res.bind_eq_ok e;obtain⟨x2,S2,e2,e⟩:=Res.bind_eq_ok e;refine⟨ρ,S,Z,x1,S1,rs,re,e1,λρ1 v1 H1 f1 r1 q1=>⟨ρ1,S1,Z,x2,S2,r1,re.fut f1,e2,λρ2 v2 H2 f2 r2 q2=>?_⟩⟩;split at e
  ·rename_i hk;obtain⟨x3,S3,e3,e⟩:=Res.bind_eq_ok e;refine⟨ρ2,S2,x1,x2,true,r2,q1.fut f2,q2,hk,true,rfl,?_⟩;rw[if_pos rfl];refine⟨ρ2,S2,Z,x3,S3,r2,re.fut (f1.trans f2),e3,λρ3 v3 H3 f3 r3 q3=>?_⟩;split at e
   ·rename_i k' hk';cases e;exact⟨ρ3,_,x2,x3,_,r3,q2.fut f3,q3,hk',fin ρ3 H3 (f1.trans (f2.trans f3)) r3⟩
   ·cases e
  ·rename_i hk;cases e;refine⟨ρ2,_,x1,x2,false,r2,q1.fut f2,q2,hk,false,rfl,?_⟩;rw[if_neg Aw];exact fin ρ2 H2 (f1.trans f2) r2
  ·cases e
 constructor
 ·refine PE.imp (Jol (Jfn o g.top.un g.top.np) (Jfn o' g.top.un g.top.np) (ha.e X c _ g h1) (hb.e X c _ g h2) (hd.e X c _ g h3) hm) λU H Q hq_=>?_;obtain⟨ρ,S,Z,d',S',rs,re,e,fin⟩:=hq_;have hd:∃k,d'=.bl k:=by
   obtain⟨x1,S1,e1,e⟩:=Res.bind_eq_ok e;obtain⟨x2,S2,e2,e⟩:=Res.bind_eq_ok e;split at e
   ·obtain⟨x3,S3,e3,e⟩:=Res.bind_eq_ok e;split at e
    ·cases e;exact⟨_,rfl⟩
    ·cases e
   ·cases e;exact⟨_,rfl⟩
   ·cases e
  obtain⟨k,rfl⟩:=hd;exact key rs re e λρ' H' f r=>fin ρ' _ H' f r (RelD.bl _)
 ·refine PT.imp (Jn6 (Jfn o g.top.un g.top.np) (Jfn o' g.top.un g.top.np) (ha.e X c _ g h1) (hb.e X c _ g h2) (hd.e X c _ g h3) hm) λU H Q hq_=>?_;obtain⟨ρ,S,Z,k,S',rs,re,e,fin⟩:=hq_;have e':evE C (.cmp2 o o' a b d) Z S=.ok (.bl k) S':=by
   show Res.bind _ _=_;obtain⟨x1,S1,e1,e⟩:=Res.bind_eq_ok e;obtain⟨x2,S2,e2,e⟩:=Res.bind_eq_ok e;rw[e1,Res.bind_ok,e2,Res.bind_ok];split at e
   ·rename_i hk
    try rw[hk]
    obtain⟨x3,S3,e3,e⟩:=Res.bind_eq_ok e;rw[e3,Res.bind_ok];split at e
    ·rename_i hk';cases e;first|rfl|rw[hk']
    ·cases e
   ·rename_i hk;cases e;first|rfl|rw[hk]
   ·cases e
  exact key rs re e' λρ' H' f r=>⟨k,rfl,fin ρ' H' f r⟩
end
section
variable {C:Pr}
theorem Jr1(ht:Snd C t)(ha:Snd C a)(hb:Snd C b):SE C (.ife t a b):=by
 intro X c x g h;cases x<;>try (exact fx9 h)
 replace h:=aB h
 simp only[Ai]at h;refine PE.imp (Jog (ht.t X c _ g h.1.1) (ha.e X c _ g h.1.2) (hb.e X c _ g h.2)) λU H Q hq_=>?_;obtain⟨ρ,S,Z,d,S',rs,re,e,fin⟩:=hq_;obtain⟨k,S1,e1,e⟩:=Res.bind_eq_ok e;refine⟨ρ,S,Z,k,S1,rs,re,e1,λρ1 H1 f1 r1=>?_⟩;cases k with
 |true=>rw[if_pos rfl];exact⟨ρ1,S1,Z,d,S',r1,re.fut f1,e,λρ2 v2 H2 f2=>fin ρ2 v2 H2 (f1.trans f2)⟩
 |false=>rw[if_neg Aw];exact⟨ρ1,S1,Z,d,S',r1,re.fut f1,e,λρ2 v2 H2 f2=>fin ρ2 v2 H2 (f1.trans f2)⟩
def Jrn(ha:Snd C as):SE C (.tup as):=by
 intro X c x g h;cases x<;>try (exact fx9 h)
 refine PE.imp (Jwc (ha.a X c _ g h)) λU H Q hq_=>?_;obtain⟨ρ,S,Z,d,S',rs,re,e,fin⟩:=hq_;obtain⟨ds,S1,e1,e⟩:=Res.bind_eq_ok e;refine⟨ρ,S,Z,ds,S1,rs,re,e1,λρ1 vs H1 f1 r1 q1=>?_⟩;split at e
 ·rename_i hl;cases e;exact⟨by rw[<-q1.length,<-Ja9];exact hl,Fin.newT (ρ:=ρ1) (λρ2 v2 H2 f2=>fin ρ2 v2 H2 (f1.trans f2)) r1 q1⟩
 ·cases e
def Jrx(ha:Snd C as):SE C (.lst as):=by
 intro X c x g h;cases x<;>try (exact fx9 h)
 refine PE.imp (Jqr (ha.a X c _ g h)) λU H Q hq_=>?_;obtain⟨ρ,S,Z,d,S',rs,re,e,fin⟩:=hq_;obtain⟨ds,S1,e1,e⟩:=Res.bind_eq_ok e;refine⟨ρ,S,Z,ds,S1,rs,re,e1,λρ1 vs H1 f1 r1 q1=>?_⟩;split at e
 ·rename_i hl;cases e;exact⟨by rw[<-q1.length,<-Ja9];exact hl,Fin.newL (ρ:=ρ1) (λρ2 v2 H2 f2=>fin ρ2 v2 H2 (f1.trans f2)) r1 q1⟩
 ·cases e
def Jr2(ha:Snd C a)(hb:Snd C b):ST C (.idx a b):=by
 intro X c x g h;cases x<;>try (exact fx9 h)
 rename_i vx sx px
 replace h:=aB h
 have pe:PE X (.Subscript vx sx px) (tE X.K C (.idx a b)):=by
  refine PE.imp (Jy7 (Jxk (Es (Gm (by decide:2<=64) _) g.top.un) g.top.np) (ha.e X c _ g h.1) (hb.e X c _ g h.2) (Y8 h.2)) λU H Q hq_=>?_;obtain⟨ρ,S,Z,d,S',rs,re,e,fin⟩:=hq_;obtain⟨x1,S1,e1,e⟩:=Res.bind_eq_ok e;obtain⟨x2,S2,e2,e⟩:=Res.bind_eq_ok e;refine⟨ρ,S,Z,x1,S1,rs,re,e1,λρ1 v1 H1 f1 r1 q1=>⟨ρ1,S1,Z,x2,S2,r1,re.fut f1,e2,λρ2 v2 H2 f2 r2 q2=>?_⟩⟩;split at e
  ·rename_i d' hd;cases e;exact⟨ρ2,_,x1,x2,d,r2,q1.fut f2,q2,hd,λρ3 v3 H3 f3 r3 q3=>fin ρ3 v3 H3 (f1.trans (f2.trans f3)) r3 q3⟩
  ·cases e
 refine⟨pe,Jj4 pe (λ_=>rfl) λZ S b S' e=>?_⟩;obtain⟨x1,S1,e1,e⟩:=Res.bind_eq_ok e;obtain⟨x2,S2,e2,e⟩:=Res.bind_eq_ok e;split at e
 ·rename_i d hd;split at e
  ·rename_i k hk;cases e;exact⟨d,Res.bnd e1 (Res.bnd e2 (by rw[hd])),hk⟩
  ·cases e
 ·cases e
def Jrp(ha:Snd C a)(hl:Snd C l)(hu:Snd C u):SE C (.sli a l u):=by
 intro X c x g h;cases x<;>try (exact fx9 h)
 rename_i e0 sl pos;cases sl<;>try (exact fx9 h)
 rename_i lo up st p2;cases st<;>try (exact fx9 h)
 replace h:=aB h
 simp only[Ai]at h;refine PE.imp (Jod Jvl (ha.e X c _ g h.1.1) (hl.o X c _ g h.1.2) (hu.o X c _ g h.2)) λU H Q hq_=>?_;obtain⟨ρ,S,Z,d,S',rs,re,e,fin⟩:=hq_;obtain⟨x1,S1,e1,e⟩:=Res.bind_eq_ok e;obtain⟨x2,S2,e2,e⟩:=Res.bind_eq_ok e;obtain⟨x3,S3,e3,e⟩:=Res.bind_eq_ok e;refine⟨ρ,S,Z,x1,S1,rs,re,e1,λρ1 v1 H1 f1 r1 q1=>⟨ρ1,S1,Z,x2,S2,r1,re.fut f1,e2,λρ2 H2 f2 r2=>⟨ρ2,S2,Z,x3,S3,r2,re.fut (f1.trans f2),e3,λρ3 H3 f3 r3=>?_⟩⟩⟩;exact⟨ρ3,S3,x1,d,S',r3,q1.fut (f2.trans f3),e,λρ4 v4 H4 f4 r4 q4=>fin ρ4 v4 H4 (f1.trans (f2.trans (f3.trans f4))) r4 q4⟩
def Jjb(ha:Snd C as):ST C (.call f as):=by
 intro X c x g h;obtain⟨⟨⟨y,p,es,pos⟩,rfl⟩,h⟩:=aO h;dsimp only at h ⊢;simp only[Ai,beq_iff_eq]at h;obtain⟨⟨⟨⟨rfl,h1⟩,h2⟩,h3⟩,h4⟩:=h;obtain⟨k,a,fd,ps,hr,hm,F,hb,hk⟩:=g.top.fns f (Jag h3);have pe:PE X (.Call (.Name (Ac f) p) es [] pos) (tE X.K C (.call f as)):=by
  have rd:∀{t:TA},(∀U H Q,tA X.K C as U H Q->t U H Q)->∀U H Q,tE X.K C (.call f as) U H Q->Yl (spM X.K C f) [] E0 t U H Q:=λht U H Q ⟨ρ,S,Z,d,S',rs,re,e,fin⟩=>by
   obtain⟨ds,S1,e1,e⟩:=Res.bind_eq_ok e;refine ht U H _ ⟨ρ,S,Z,ds,S1,rs,re,e1,λρ1 vs H1 f1 r1 q1=>?_⟩;show spM X.K C f (vs++[]) H1 Q E0;rw[Ec];exact⟨ρ1,S1,ds,d,S',r1,q1,e,λρ2 v2 H2 f2 r2 q2=>fin ρ2 v2 H2 (f1.trans f2) r2 q2⟩
  cases es with
  |nil=>
   refine PE.imp (Jom F hr (g.glo h1) hm hk hb .nil Jlt (Wz h2)) (rd λU H Q ⟨ρ,S,Z,ds,S',rs,re,e,fin⟩=>?_);obtain rfl:=Jed h4;cases e;exact fin ρ [] H Fut.refl rs RelDs.nil
  |cons e es=>
   obtain⟨a0,b0,rfl⟩:=Jbm h4;have h4':=h4
   replace h4:=aB h4
   refine PE.imp (Jtd F hr (g.glo h1) hm hk hb .nil Jlt (ha.a X c _ g h4') (Wz h2) (Jae (noStar h4.1)) (by rw[Ja5];exact V8 h4.2)) (rd λU H Q z=>z)
 refine⟨pe,Jj4 pe (λ_=>rfl) λZ S b S' e=>?_⟩;obtain⟨ds,S1,e1,e⟩:=Res.bind_eq_ok e;obtain⟨d,S2,e2,e⟩:=Res.bind_eq_ok e;split at e
 ·rename_i k hk;cases e;exact⟨d,Res.bnd e1 e2,hk⟩
 ·cases e
def Jns(ha:Snd C as):ST C (.prim p as):=by
 intro X c x g h;cases x<;>try (exact fx9 h)
 rename_i fn es kws pos;cases fn<;>try (exact fx9 h)
 rename_i y pp;cases kws<;>first|exact fx9 h|(cases es<;>try (exact fx9 h))
 rename_i e0 es
 replace h:=aB h
 simp only[Ai,beq_iff_eq]at h;obtain⟨⟨⟨rfl,h1⟩,h2⟩,h3⟩:=h;have hm:=g.top.blt _ (Jag h2);have hs:(∀x p,e0≠ .Starred x p)/\(Bs es X.env).any (·.1)=false:=by
  obtain⟨a0,b0,rfl⟩:=Jbm h3
  replace h3:=aB h3
  exact⟨noStar h3.1,V8 h3.2⟩
 have rd:∀U H Q,tE X.K C (.prim p as) U H Q->tCB (rP X.K p) (tA X.K C as) U H Q:=λU H Q ⟨ρ,S,Z,d,S',rs,re,e,fin⟩=>by
  obtain⟨ds,S1,e1,e⟩:=Res.bind_eq_ok e;refine⟨ρ,S,Z,ds,S1,rs,re,e1,λρ1 vs H1 f1 r1 q1=>?_⟩;exact⟨ρ1,S1,ds,d,S',r1,q1,e,λρ2 v2 H2 f2 r2 q2=>fin ρ2 v2 H2 (f1.trans f2) r2 q2⟩
 have pe:PE X (.Call (.Name (Ac (Wf p)) pp) (e0::es) [] pos) (tE X.K C (.prim p as)):=by
  have hp:=Jsy (X:=X) p g.calm;have hb:=Jm9 p;unfold Xg at hp hb
  by_cases ht:Yn p=true
  ·rw[if_pos ht]at hp hb;exact PE.imp (Jlr hp (g.glo h1) hm hb (ha.a X c _ g h3) (Jhf p) (Jfm p) (Jae hs.1) (by rw[Ja5];exact hs.2)) rd
  ·rw[if_neg ht]at hp hb;exact PE.imp (Jf3 hp (g.glo h1) hm hb (ha.a X c _ g h3) (Jhf p) (Jfm p) (Jae hs.1) (by rw[Ja5];exact hs.2)) rd
 refine⟨pe,Jj4 pe (λ_=>rfl) λZ S b S' e=>?_⟩;obtain⟨ds,S1,e1,e⟩:=Res.bind_eq_ok e;obtain⟨d,S2,e2,e⟩:=Res.bind_eq_ok e;split at e
 ·rename_i k hk;cases e;exact⟨d,Res.bnd e1 e2,hk⟩
 ·cases e
def Jum:∀t∈clNames,C9 (Ac t)=some (.type t)/\Ac t≠"__name__"/\(Ac t==("__debug__":Str))=false:=by
 intro t ht;simp only[clNames,An,A1,or_false]at ht;rcases ht with rfl|rfl|rfl|rfl<;>exact⟨by kernel_rfl,by decide+kernel,by decide+kernel⟩
def Jrz(ha:Snd C a):ST C (.isi a t):=by
 intro X c x g h;obtain⟨⟨⟨e0,y⟩,pp,p2,pos,rfl⟩,h⟩:=aO h;dsimp only at h ⊢;simp only[Ai,beq_iff_eq]at h;obtain⟨⟨⟨⟨⟨⟨rfl,h1⟩,h2⟩,h3⟩,h4⟩,h5⟩,h6⟩:=h;have ht:t∈clNames:=by simpa using h5
 obtain⟨b1,b2,b3⟩:=Jum t ht;have py:PE X (.Name (Ac t) p2) (L2.tC (.ty t)):=Jls (g.glo h2) (g.top.blt _ (Jag h4)) b1 rfl b2 b3;have pa:PA X [e0,.Name (Ac t) p2] (Yj (tE X.K C a) (Yj (L2.tC (.ty t)) Yh)):=Ja8 (ha.e X c _ g h6) (Ja8 py Jc2 rfl) (Jae (noStar h6));have pe:PE X (.Call (.Name (Ac "isinstance") pp) [e0,.Name (Ac t) p2] [] pos) (tE X.K C (.isi a t)):=by
  refine PE.imp (Jf3 (Jxd ht) (g.glo h1) (g.top.blt _ (Jag h3)) (by kernel_rfl) pa (by decide+kernel) (by decide+kernel) (Jae (noStar h6)) (by rw[Ja5];rfl)) λU H Q hq_=>?_;obtain⟨ρ,S,Z,d,S',rs,re,e,fin⟩:=hq_;obtain⟨x1,S1,e1,e⟩:=Res.bind_eq_ok e;refine⟨ρ,S,Z,x1,S1,rs,re,e1,λρ1 v1 H1 f1 r1 q1=>?_⟩;split at e
  ·rename_i ty hy;cases e;exact⟨ρ1,_,x1,v1,ty,r1,rfl,q1,hy,fin ρ1 _ H1 f1 r1 (RelD.bl _)⟩
  ·cases e
 refine⟨pe,Jj4 pe (λ_=>rfl) λZ S b S' e=>?_⟩;obtain⟨x1,S1,e1,e⟩:=Res.bind_eq_ok e;split at e
 ·rename_i ty hy;cases e;exact⟨_,Res.bnd e1 (by rw[hy]),rfl⟩
 ·cases e
def Jwh{X:Cx}{T id:String}{name:Str}{o e:Expr}{es:List Expr}{apos cpos:Pos}{to:TE}{r:V->List V->Hp->VK->Prop}{as:M}{c:Ck}{t:TA}
  (pa:Uk T)(slot:Slot T name id)(hty:typeOf (.builtin id)=pure (.type "method_descriptor"))(hm:MtR X id r)(ho:PE X o to)(ha:PA X (e::es) t)
  (hb:(!Jck o)=true)(hc:Vz as c (e::es)=true)(hn:(e::es).length<20)(hline:(apos.endLine==cpos.line)=true):
  PE X (.Call (.Attribute o name apos) (e::es) [] cpos) (λU H Q=>to U H λx H1=>Tm X T x H1/\t U H1 λxs H2=>r x xs H2 Q):=by
 intro pins s U H Q I h;refine wpAny_Call_method_late (Jpv hb) ?_ hline rfl (thn (ho pins s U H _ I h) λv s1 ⟨x,H1,I1,r1,ty,q1⟩=>?_)
 ·rw[Jft _ _ (V8 (env:=X.env) hc)];simp only[Lj,Ai,decide_eq_true_eq];exact⟨rfl,by simp only[Ez,List.isEmpty_nil,if_true];lia⟩
 obtain⟨h1,h2⟩:=ty _ _ _ _ I1 r1;refine⟨T,id,pa,slot,hty,h1,h2,?_⟩;have hA:=ha cpos pins s1 U H1 _ I1 q1;obtain⟨a0,b0,rfl⟩:=Jbm hc;have h5:=aB hc;rw[Jae (noStar h5.1)]at hA ⊢;refine Gy (by show(false||(Fg cpos (Bs es X.env)).any (·.1))=false;rw[Ja5,V8 h5.2]<;>rfl) (P6 ?_);exact thn hA λus s2 ⟨vs,H2,I2,r2,q2⟩=>hm pins s2 U H2 x vs v us Q I2 r1 r2 q2
def Tm.lst{X:Cx}(h:SqL X.K H a xs):Tm X "list" (.ref a) H:=λpins s U v I r=>by
 cases r;obtain⟨its,_,pl,_⟩:=I.list h;refine⟨pl.isList.typeIs,λa e=>?_⟩;cases e;obtain⟨o,n,e,c,hd,_⟩:=pl;exact⟨o,e,hd⟩
def Tm.dct(h:IsD H a):Tm X "dict" (.ref a) H:=λpins s U v I r=>by
 cases r;obtain⟨z1,z2,_⟩:=Jme I h;exact⟨z1,z2⟩
def Jvv{X:Cx}(hp:isDm p=false)(p1:p≠ .get2)(p2:p≠ .indexT)(r:RelS X.K ρ S H)(q:RelD X.K ρ H x v)(h:rcv p S x=true)(e:Vo p x ds S2=.ok d S'):Tm X "list" v H:=by
 have hl:∃l,x=.loc l:=by
  clear q h;cases p<;>first|exact absurd rfl p1|exact absurd rfl p2|(cases x<;>first|exact⟨_,rfl⟩|exact absurd e Jab)
 obtain⟨l,rfl⟩:=hl;obtain⟨es,he⟩:=Bw.mp (show(seqAt S l).isSome=true by simpa [rcv,hp]using h);obtain⟨p,xs,rfl,hl,hx,t⟩:=r.lst q (Jan he);exact .lst (SqL.of hx)
def Jvw{X:Cx}(hp:isDm p=true)(r:RelS X.K ρ S H)(q:RelD X.K ρ H x v)(h:rcv p S x=true):Tm X "dict" v H:=by
 cases x<;>simp only[rcv,hp]at h<;>try (cases h;done)
 simp only[if_true,Ht]at h;rcases h with z|z
 ·obtain⟨kvs,hk⟩:=Bw.mp z;obtain⟨a,ws,rfl,_,ea,_⟩:=r.dct q (Jez hk);exact .dct (.inl ⟨ws,.inl ea⟩)
 ·obtain⟨kvs,hk⟩:=Bw.mp z;obtain⟨a,ws,rfl,_,ea,_⟩:=r.dtu q (Jbs hk);exact .dct (.inr ⟨ws,.inl ea⟩)
theorem Jnt(ho:Snd C o)(ha:Snd C as):SE C (.meth p o as):=by
 intro X c x g h;cases x<;>try (exact fx9 h)
 rename_i fn es kws pos;cases fn<;>try (exact fx9 h)
 rename_i e0 y ap;cases kws<;>try (exact fx9 h)
 replace h:=aB h
 simp only[Ai,beq_iff_eq,decide_eq_true_eq]at h;obtain⟨⟨⟨⟨⟨⟨rfl,h1⟩,h2⟩,h3⟩,h4⟩,h5⟩,h6⟩:=h;have hline:(ap.endLine==pos.line)=true:=by simpa using h2
 have go:∀{T:String} {to:TE} {A:D->V->Prop} (_:Uk T) (_:Slot T (Ac (Xu p)) (Xv p)) (_:typeOf (.builtin (Xv p))=pure (.type "method_descriptor")) (_:PE X e0 to)
   (_:∀U H (Q:V->Hp->Prop) ρ Z S x S1,RelS X.K ρ S H->RelE X.K ρ H Z U->evE C o Z S=.ok x S1->(∀ρ1 v H1,Fut X.K ρ H ρ1 H1->RelS X.K ρ1 S1 H1->RelD X.K ρ1 H1 x v->A x v->Q v H1)->to U H Q)
   (_:∀ρ S S2 H x v ds d S',RelS X.K ρ S H->RelD X.K ρ H x v->A x v->rcv p S x=true->Vo p x ds S2=.ok d S'->Tm X T v H),
   PE X (.Call (.Attribute e0 (Ac (Xu p)) ap) es [] pos) (tE X.K C (.meth p o as)):=λ{T to A} pa slot hty hp ht hT=>by
  have rd:∀{t:TA},(∀U H Q,tA X.K C as U H Q->t U H Q)->∀U H Q,tE X.K C (.meth p o as) U H Q->to U H λx H1=>Tm X T x H1/\t U H1 λxs H2=>rM X.K p x xs H2 Q:=λhq U H Q ⟨ρ,S,Z,d,S',rs,re,e,fin⟩=>by
   obtain⟨x1,S1,e1,e⟩:=Res.bind_eq_ok e;split at e<;>try (exact absurd e Jab)
   rename_i hrc;obtain⟨ds,S2,e2,e⟩:=Res.bind_eq_ok e;exact ht U H _ ρ Z S x1 S1 rs re e1 λρ1 v1 H1 f1 r1 q1 a1=>⟨hT ρ1 S1 S2 H1 x1 v1 ds d S' r1 q1 a1 hrc e,hq U H1 _ ⟨ρ1,S1,Z,ds,S2,r1,re.fut f1,e2,λρ2 vs H2 f2 r2 q2=>⟨ρ2,S2,x1,ds,d,S',r2,q1.fut f2,q2,e,λρ3 v3 H3 f3 r3 q3=>fin ρ3 v3 H3 (f1.trans (f2.trans f3)) r3 q3⟩⟩⟩
  cases es with
  |nil=>
   refine PE.imp (Jqs pa slot hty (Jl3 p g.top.un g.top.np) hp h1 hline) (rd (t:=λ_ H Q=>Q [] H) λU H Q ⟨ρ,S,Z,ds,S',rs,re,e,fin⟩=>?_);obtain rfl:=Jed h5;cases e;exact fin ρ [] H Fut.refl rs RelDs.nil
  |cons e1 es=>exact PE.imp (Jwh pa slot hty (Jl3 p g.top.un g.top.np) hp (ha.a X c _ g h5) h1 h5 h3 hline) (rd λ_ _ _ z=>z)
 have own:∀U H (Q:V->Hp->Prop) ρ Z S x S1,RelS X.K ρ S H->RelE X.K ρ H Z U->evE C o Z S=.ok x S1->(∀ρ1 v H1,Fut X.K ρ H ρ1 H1->RelS X.K ρ1 S1 H1->RelD X.K ρ1 H1 x v->True->Q v H1)->tE X.K C o U H Q:=λU H Q ρ Z S x S1 rs re e k=>⟨ρ,S,Z,x,S1,rs,re,e,λρ1 v H1 f r q=>k ρ1 v H1 f r q trivial⟩
 cases p with
 |append=>exact go Nw P4 PySem.F.type_list_append (ho.e X c _ g h4) own λρ S S2 H x v ds d S' r q _=>Jvv rfl nofun nofun r q
 |pop0=>exact go Nw Q2 PySem.F.type_list_pop (ho.e X c _ g h4) own λρ S S2 H x v ds d S' r q _=>Jvv rfl nofun nofun r q
 |get1=>exact go E7 G0 Ov (ho.e X c _ g h4) own λρ S S2 H x v ds d S' r q _ h _=>Jvw rfl r q h
 |pop1=>exact go E7 Ox PySem.F.type_dict_pop (ho.e X c _ g h4) own λρ S S2 H x v ds d S' r q _ h _=>Jvw rfl r q h
 |get2=>
  refine go E7 G0 Ov (ho.e X c _ g h4) own λρ S S2 H x v ds d S' r q _ _ e=>?_;cases x<;>first|exact absurd e Jab|skip
  obtain⟨a,rfl,kd⟩:=q.kd_inv;intro pins s U v I r;cases r;obtain⟨ob,hob,hx⟩:=kd.obj I.kIn;exact⟨⟨ob,hob,hx.1⟩,λa' e=>by cases e;exact⟨ob,hob,hx.2.1⟩⟩
 |indexT=>
  cases o<;>try (exact fx9 h6)
  rename_i gx;cases e0<;>try (exact fx9 h4)
  rename_i y0 p0
  replace h4:=aB h4
  simp only[Ai,beq_iff_eq]at h4;obtain⟨⟨rfl,k2⟩,k3⟩:=h4;have eg:∀{x Z S S1},evE C (.glb gx) Z S=.ok x S1->C.glob gx=some x/\S1=S:=λ{x Z S S1} e=>by
   rw[Jli]at e;split at e
   ·rename_i d hd;cases e;exact⟨hd,rfl⟩
   ·cases e
  cases hg:C.glob gx with
  |none=>
   refine Js9 λU H Q ⟨ρ,S,Z,d,S',rs,re,e,fin⟩=>?_;obtain⟨x1,S1,e1,e⟩:=Res.bind_eq_ok e;rw[hg]at eg;cases(eg e1).1
  |some dg=>
   obtain⟨v,u,hm,r,hr,ht⟩:=g.top.gl gx dg hg;refine go (A:=λx w=>x=dg/\w=v) PySem.F.plainAttrs_tuple Nm PySem.F.type_tuple_index (Jio (g.glo k2) hm r (Wz k3)) (λU H Q ρ Z S x S1 rs re e k=>?_) λρ S S2 H x w ds d S' _ _ a _ e=>?_
   ·obtain⟨z,rfl⟩:=eg e;cases hg.symm.trans z;exact k ρ v H Fut.refl rs (hr ρ H) ⟨rfl,rfl⟩
   ·obtain⟨rfl,rfl⟩:=a;cases x<;>first|exact absurd e Jab|skip
    obtain⟨a,ob,rfl,hk,hc,hdd⟩:=ht _ rfl;intro pins s U v I r;cases r;exact⟨⟨ob,I.kIn a ob hk,hc⟩,λa' e=>by cases e;exact⟨ob,I.kIn a ob hk,hdd⟩⟩
end
section
variable {C:Pr}
def Jr9:SE C (.cst d):=by
 intro X c x g h;obtain⟨⟨k,_,_,rfl⟩,h⟩:=aO h;cases d<;>cases eq_of_beq h
 ·refine PE.imp Jwe λU H Q hq_=>?_;obtain⟨ρ,S,Z,d,S',rs,re,e,fin⟩:=hq_;cases e;exact fin.now rs RelD.non
 ·refine PE.imp Jy9 λU H Q hq_=>?_;obtain⟨ρ,S,Z,d,S',rs,re,e,fin⟩:=hq_;cases e;exact fin.now rs (RelD.bl _)
 ·refine PE.imp Jwf λU H Q hq_=>?_;obtain⟨ρ,S,Z,d,S',rs,re,e,fin⟩:=hq_;cases e;exact fin.now rs (RelD.int _)
 ·refine PE.imp Jqq λU H Q hq_=>?_;obtain⟨ρ,S,Z,d,S',rs,re,e,fin⟩:=hq_;cases e;exact fin.now rs (RelD.str _)
def Jrm:ST C (.var i):=by
 intro X c x g h;cases x<;>try (exact fx9 h)
 rename_i y p
 replace h:=aB h
 simp only[Ai,beq_iff_eq]at h;obtain⟨⟨h1,h2⟩,h3⟩:=h;have pe:PE X (.Name y p) (tE X.K C (.var i)):=by
  refine PE.imp (Jqp (i:=i) (by rw[g.N];exact h1) (g.vis h2) (Wz h3) (Wbe h3)) λU H Q hq_=>?_;obtain⟨ρ,S,Z,d,S',rs,re,e,fin⟩:=hq_;simp only[Jqg]at e;split at e
  ·rename_i d' hd;cases e;obtain⟨v,hv,q⟩:=re.at' i _ hd;exact⟨v,hv,fin.now rs q⟩
  ·cases e
 refine⟨pe,Jj4 pe (λ_=>rfl) λZ S b S' e=>?_⟩;simp only[Jvt]at e;split at e
 ·rename_i d hd;split at e
  ·rename_i b' hb;cases e;exact⟨d,by simp only[Jqg];rw[hd],hb⟩
  ·cases e
 ·cases e
theorem Jr4:SE C (.glb n):=by
 intro X c x g h;cases x<;>try (exact fx9 h)
 rename_i y p
 replace h:=aB h
 simp only[Ai,beq_iff_eq]at h;obtain⟨⟨rfl,h2⟩,h3⟩:=h;cases e0:C.glob n with
 |none=>exact Js9 (Jyx λZ S=>by simp only[Jli];rw[e0])
 |some d=>
  obtain⟨v,u,hm,r,hr,_⟩:=g.top.gl n d e0;refine PE.imp (Jio (g.glo h2) hm r (Wz h3)) λU H Q hq_=>?_;obtain⟨ρ,S,Z,d,S',rs,re,e,fin⟩:=hq_;simp only[Jli]at e;rw[e0]at e;cases e;exact fin.now rs (hr ρ H)
theorem Jvi(ha:Snd C a)(hb:Snd C b):∀(X:Cx) (c:Ck) (w:Bool) (x:List Expr) (pos:Pos),Gd X C c->Vz (.cns a b) c x=true->PE X (.BoolOp (if w then .And else .Or) x pos) (tBV X.K C w (.cns a b)):=by
 intro X c w x pos g h;cases x with
 |nil=>exact fx9 h
 |cons e es=>
  have h0:=h
  replace h:=aB h
  rcases Jre h.2 with rfl|⟨a',b',rfl⟩
  ·cases es with
   |cons e1 es=>exact fx9 h.2
   |nil=>
    refine PE.imp (Jwd (ha.e X c e g h.1)) λU H Q hq_=>?_;obtain⟨ρ,S,Z,d,S',rs,re,e,fin⟩:=hq_;exact⟨ρ,S,Z,d,S',rs,re,e,fin⟩
  ·cases es with
   |nil=>exact fx9 h.2
   |cons e1 es=>
    have hbv:=hb.bv X c w (e1::es) pos g h.2;cases w with
    |true=>
     refine PE.imp (Jwi (ha.e X c e g h.1) hbv) λU H Q hq_=>?_;obtain⟨ρ,S,Z,d,S',rs,re,e,fin⟩:=hq_;obtain⟨x1,S1,e1,e⟩:=Res.bind_eq_ok e;refine⟨ρ,S,Z,x1,S1,rs,re,e1,λρ1 v1 H1 f1 r1 q1=>?_⟩;cases x1<;>simp only at e<;>try (cases e;done)
     rename_i k;refine⟨k,q1.bl_inv,?_⟩;cases k with
     |true=>
      rw[if_pos rfl]at e ⊢;exact⟨ρ1,S1,Z,d,S',r1,re.fut f1,e,λρ2 v2 H2 f2=>fin ρ2 v2 H2 (f1.trans f2)⟩
     |false=>
      rw[if_neg Aw]at e ⊢;cases e;exact fin ρ1 _ H1 f1 r1 (RelD.bl _)
    |false=>
     refine PE.imp (Jy5 (ha.e X c e g h.1) hbv) λU H Q hq_=>?_;obtain⟨ρ,S,Z,d,S',rs,re,e,fin⟩:=hq_;obtain⟨x1,S1,e1,e⟩:=Res.bind_eq_ok e;refine⟨ρ,S,Z,x1,S1,rs,re,e1,λρ1 v1 H1 f1 r1 q1=>?_⟩;cases x1<;>simp only at e<;>try (cases e;done)
     rename_i k;refine⟨k,q1.bl_inv,?_⟩;cases k with
     |false=>
      rw[if_pos rfl]at e;rw[if_neg Aw];exact⟨ρ1,S1,Z,d,S',r1,re.fut f1,e,λρ2 v2 H2 f2=>fin ρ2 v2 H2 (f1.trans f2)⟩
     |true=>
      rw[if_neg (by decide)]at e;rw[if_pos rfl];cases e;exact fin ρ1 _ H1 f1 r1 (RelD.bl _)
theorem Jvj(ha:Snd C a)(hb:Snd C b):∀(X:Cx) (c:Ck) (w:Bool) (x:List Expr) (pos:Pos),Gd X C c->Vz (.cns a b) c x=true->PW X (.BoolOp (if w then .And else .Or) x pos) (tBT X.K C w (.cns a b)):=by
 intro X c w x pos g h;cases x with
 |nil=>exact fx9 h
 |cons e es=>
  replace h:=aB h
  rcases Jre h.2 with rfl|⟨a',b',rfl⟩
  ·cases es with
   |cons e1 es=>exact fx9 h.2
   |nil=>
    have hi:∀U H Q,tBT X.K C w (.cns a .nul) U H Q->tT X.K C a U H Q:=λU H Q ⟨ρ,S,Z,d,S',rs,re,e,fin⟩=>by
     exact⟨ρ,S,Z,d,S',rs,re,e,fin⟩
    cases w with
    |true=>exact λwh pins s U H Q I q=>Jsp (ha.t X c e g h.1) wh pins s U H Q I (hi _ _ _ q)
    |false=>exact λwh pins s U H Q I q=>Jv0 (ha.t X c e g h.1) wh pins s U H Q I (hi _ _ _ q)
  ·cases es with
   |nil=>exact fx9 h.2
   |cons e1 es=>
    have hbv:=hb.bt X c w (e1::es) pos g h.2;cases w with
    |true=>
     refine λwh pins s U H Q I q=>Jv1 (ha.t X c e g h.1) hbv wh pins s U H Q I ?_;obtain⟨ρ,S,Z,d,S',rs,re,e,fin⟩:=q;obtain⟨k,S1,e1,e⟩:=Res.bind_eq_ok e;refine⟨ρ,S,Z,k,S1,rs,re,e1,λρ1 H1 f1 r1=>?_⟩;cases k with
     |true=>
      rw[if_pos rfl]at e ⊢;exact⟨ρ1,S1,Z,d,S',r1,re.fut f1,e,λρ2 H2 f2=>fin ρ2 H2 (f1.trans f2)⟩
     |false=>
      rw[if_neg Aw]at e ⊢;cases e;exact fin ρ1 H1 f1 r1
    |false=>
     refine λwh pins s U H Q I q=>Jy2 (ha.t X c e g h.1) hbv wh pins s U H Q I ?_;obtain⟨ρ,S,Z,d,S',rs,re,e,fin⟩:=q;obtain⟨k,S1,e1,e⟩:=Res.bind_eq_ok e;refine⟨ρ,S,Z,k,S1,rs,re,e1,λρ1 H1 f1 r1=>?_⟩;cases k with
     |false=>
      rw[if_pos rfl]at e;rw[if_neg Aw];exact⟨ρ1,S1,Z,d,S',r1,re.fut f1,e,λρ2 H2 f2=>fin ρ2 H2 (f1.trans f2)⟩
     |true=>
      rw[if_neg (by decide)]at e;rw[if_pos rfl];cases e;exact fin ρ1 H1 f1 r1
def Jvk(ha:Snd C as):ST C (.bo w as):=by
 intro X c x g h;have main:∀es pos,Vz as c es=true->PE X (.BoolOp (if w then .And else .Or) es pos) (tE X.K C (.bo w as))/\PT X (.BoolOp (if w then .And else .Or) es pos) (tT X.K C (.bo w as)):=λes pos h=>by
  refine⟨PE.imp (ha.bv X c w es pos g h) λU H Q ⟨ρ,S,Z,d,S',rs,re,e,fin⟩=>?_,PT.imp (ha.bt X c w es pos g h).pt λU H Q ⟨ρ,S,Z,d,S',rs,re,e,fin⟩=>?_⟩
  ·exact⟨ρ,S,Z,d,S',rs,re,e,fin⟩
  ·exact⟨ρ,S,Z,d,S',rs,re,e,fin⟩
 cases w<;>cases x<;>try (exact fx9 h)
 all_goals (rename_i op es pos;cases op<;>try (exact fx9 h))
 all_goals exact main es pos h
def Wc0(K:Af)(tl:TE):TI:=λU H R=>tl U H λx H1=>∃a,x=.ref a/\(((∃xs,SqL K H1 a xs)/\R (Itl K a) H1)\/((∃xs,SqT K H1 a xs)/\R (Itt K a) H1))
def Jv9{X:Cx}(hl:PE X l tl):PI X tg l (Wc0 X.K tl):=by
 intro pins s U H R I h;refine thn (hl pins s U H _ I h) λv s1 hq_=>?_;obtain⟨x,H1,I1,r1,q1⟩:=hq_;obtain⟨a,e,q1⟩:=q1;subst e;cases r1;rcases q1 with⟨⟨xs,hq⟩,q⟩|⟨⟨xs,hq⟩,q⟩
 ·obtain⟨its,rv,p,hz⟩:=I1.list hq;refine F8 p.isList ?_;refine⟨s1.heap.objs.size,[s1.heap.objs.size],_,_,H1,rfl,I1.kept (t':=s1.toks) λb o e=>Ad _ e,Jky a _,⟨_,Ak _ rfl,rfl,rfl⟩,λb hb=>?_,q⟩;have e:b=s1.heap.objs.size:=by simpa using hb
  subst e;exact I1.fpOk (Aj _) (I1.hok.fresh (Aj _))
 ·obtain⟨its,rv,p,hz⟩:=I1.tuple hq;refine Jr (show s1.heap.IsTuple a its.toArray from p) ?_;refine⟨s1.heap.objs.size,[s1.heap.objs.size],_,_,H1,rfl,I1.kept (t':=s1.toks) λb o e=>Ad _ e,Jjx a _,⟨_,Ak _ rfl,rfl,rfl⟩,λb hb=>?_,q⟩;have e:b=s1.heap.objs.size:=by simpa using hb
  subst e;exact I1.fpOk (Aj _) (I1.hok.fresh (Aj _))
def Jo7(lo:Int)(n:Nat):ItOk K ρ H (Itr lo n) none ((B3 n).map λ(i:Nat)=>D.int (lo+i))where
 go:=λρ' H' S i d f r s e=>by
  simp only[nth,Ap,Al]at e;obtain⟨j,hj,rfl⟩:=e;obtain⟨h1,h2⟩:=Ae.mp hj;simp only[List.getElem_range]at h2;subst h2;refine⟨(by simpa using h1:i<n),λx H2 ⟨e1,e2⟩=>?_⟩;subst e1;refine⟨Fut.refl,r,?_⟩;subst e2;exact RelD.int _
 stop:=λρ' H' S f r s=>by
  show n<=_;simp
def Jo8(hl:ρ[l]? =some a)(ds:List D):ItOk K ρ H (Itl K a) (some (l,.lst)) ds where
 go:=λρ' H' S i d f r s e=>by
  simp only[nth]at e;split at e
  ·rename_i es he;have ha:=f.get hl;obtain⟨xs,hx,q⟩:=r.ob l a _ ha (Jan he);obtain⟨v,hv,rv⟩:=q.get e;refine⟨⟨xs,v,SqL.of hx,hv⟩,λx H2 ⟨e1,e2⟩=>?_⟩;subst e1;refine⟨Fut.refl,r,?_⟩;have:=e2 xs (SqL.of hx);rw[hv]at this;cases this;exact rv
  ·cases e
 stop:=λρ' H' S f r s=>by
  simp only[sameAt]at s;split at s
  ·rename_i es he;obtain⟨xs,hx,q⟩:=r.ob l a _ (f.get hl) he;refine⟨xs,SqL.of hx,?_⟩;rw[<-q.length];simp only[beq_iff_eq]at s
   lia
  ·cases s
def Jo9(hl:ρ[l]? =some a)(ds:List D):ItOk K ρ H (Ite true K a) (some (l,.enm)) ds where
 go:=λρ' H' S i d f r s e=>by
  simp only[nth]at e;split at e<;>try (cases e;done)
  rename_i es he;obtain⟨d0,e0,rfl⟩:=Al.mp e;obtain⟨xs,hx,q⟩:=r.ob l a _ (f.get hl) (Jan he);obtain⟨v,hv,rv⟩:=q.get e0;refine⟨⟨xs,v,SqL.of hx,hv⟩,λx H2 ⟨p,y,hp,e1,e2,e3⟩=>?_⟩;subst e1 e2;have:=e3 xs (SqL.of hx);rw[hv]at this;cases this;exact⟨Ja0 hp,r.new hp,by simp only[RelD];exact⟨p,_,rfl,.inl Jaf,RelDs.cons (by simp only[RelD]) (RelDs.cons (rv.fut (Ja0 hp)) RelDs.nil)⟩⟩
 stop:=λρ' H' S f r s=>by
  simp only[sameAt]at s;split at s<;>try (cases s;done)
  rename_i es he;obtain⟨xs,hx,q⟩:=r.ob l a _ (f.get hl) he;exact⟨xs,SqL.of hx,by rw[<-q.length];exact eq_of_beq s⟩
theorem Jq6:∀{ds:List D} {k i:Nat} {d:D},(enD k ds)[i]? =some d->∃x,ds[i]? =some x/\d=.tup [.int (k+i:Nat),x]
 |[],k,i,d,h=>by simp[enD]at h
 |x::r,k,0,d,h=>by simp[enD]at h;exact⟨x,rfl,h.symm⟩
 |x::r,k,i+1,d,h=>by
  simp only[enD,Bu]at h;obtain⟨y,h1,h2⟩:=Jq6 h;exact⟨y,by simpa using h1,by rw[h2,Nat.add_right_comm,Lm]⟩
theorem enD_len:∀(ds:List D) (k:Nat),(enD k ds).length=ds.length
 |[],_=>rfl
 |x::r,k=>by simp[enD,enD_len r]
def Jpa(hs:SqT K H a xs)(t:RelDs K ρ H ds xs):ItOk K ρ H (Ite false K a) none (enD 0 ds)where
 go:=λρ' H' S i d f r s e=>by
  obtain⟨d0,e0,rfl⟩:=Jq6 (show(enD 0 ds)[i]? =some d from e);rw[E4];obtain⟨v,hv,rv⟩:=(t.fut f).get e0;refine⟨⟨xs,v,f.tup _ _ hs,hv⟩,λx H2 ⟨p,y,hp,e1,e2,e3⟩=>?_⟩;subst e1 e2;have:=e3 xs (f.tup _ _ hs);rw[hv]at this;cases this;exact⟨Ja0 hp,r.new hp,by simp only[RelD];exact⟨p,_,rfl,.inl Jaf,RelDs.cons (by simp only[RelD]) (RelDs.cons (rv.fut (Ja0 hp)) RelDs.nil)⟩⟩
 stop:=λρ' H' S f r s=>⟨xs,f.tup _ _ hs,by rw[enD_len,t.length]⟩
def Jo6(hl:ρ[l]? =some a)(hs:SqT K H b ys)(t:RelDs K ρ H ds ys):ItOk K ρ H (Izz K a b ys) (some (l,.zip)) ds where
 go:=λρ' H' S i d f r s e=>by
  simp only[nth]at e;split at e<;>try (cases e;done)
  rename_i es he;split at e<;>try (cases e;done)
  rename_i dx dy e1 e2;cases e;obtain⟨xs,hx,q⟩:=r.ob l a _ (f.get hl) (Jan he);obtain⟨v,hv,rv⟩:=q.get e1;obtain⟨w,hw,rw'⟩:=(t.fut f).get e2;refine⟨⟨xs,v,w,SqL.of hx,f.tup _ _ hs,hv,hw⟩,λx H2 ⟨p,y,z,hp,e1,e2,e3,e4⟩=>?_⟩;subst e1 e2;have:=e3 xs (SqL.of hx);rw[hv]at this;cases this;rw[hw]at e4;cases e4;exact⟨Ja0 hp,r.new hp,by simp only[RelD];exact⟨p,_,rfl,.inl Jaf,RelDs.cons (rv.fut (Ja0 hp)) (RelDs.cons (rw'.fut (Ja0 hp)) RelDs.nil)⟩⟩
 stop:=λρ' H' S f r s=>by
  simp only[sameAt]at s;split at s<;>try (cases s;done)
  rename_i es he;obtain⟨xs,hx,q⟩:=r.ob l a _ (f.get hl) he;exact⟨xs,SqL.of hx,by rw[<-q.length];exact Kb (eq_of_beq s)⟩
def Jtw(hs:SqF K H a xs)(t:RelDs K ρ H ds xs):ItOk K ρ H (Itl K a) none ds where
 go:=λρ' H' S i d f r s e=>by
  have hs':=(f.fu.sqF hs).sq;obtain⟨v,hv,rv⟩:=(t.fut f).get (show ds[i]? =some d from e);refine⟨⟨xs,v,hs',hv⟩,λx H2 ⟨e1,e2⟩=>?_⟩;subst e1;refine⟨Fut.refl,r,?_⟩;have:=e2 xs hs';rw[hv]at this;cases this;exact rv
 stop:=λρ' H' S f r s=>⟨xs,(f.fu.sqF hs).sq,by rw[<-t.length];exact Aj _⟩
def Jk5(ha:Snd C a):∀(X:Cx) (c:Ck) (tg x:Expr),Gd X C c->Vi a c x=true->PI X tg x (tI X.K C (.cns a .nul)):=by
 intro X c tg x g h;refine PI.imp (Jv9 (ha.e X c x g h)) λU H R hq_=>?_;obtain⟨ρ,S,Z,gg,ds,S',rs,re,e,fin⟩:=hq_;obtain⟨d,S1,e1,e⟩:=Res.bind_eq_ok e;refine⟨ρ,S,Z,d,S1,rs,re,e1,λρ1 v1 H1 f1 r1 q1=>?_⟩;split at e
 ·cases e;obtain⟨p,xs,rfl,sq,t⟩:=q1.tup_inv;refine⟨p,rfl,.inr ⟨⟨xs,sq⟩,fin ρ1 H1 _ f1 r1 ?_⟩⟩;exact{go:=(λρ' H' S i d f r s e=>by
       have hs':=f.tup _ _ sq;obtain⟨v,hv,rv⟩:=(t.fut f).get (show ds[i]? =some d from e);refine⟨⟨xs,v,hs',hv⟩,λx H2 ⟨e1,e2⟩=>?_⟩;subst e1;refine⟨Fut.refl,r,?_⟩;have:=e2 xs hs';rw[hv]at this;cases this;exact rv),stop:=λρ' H' S f r s=>⟨xs,f.tup _ _ sq,by rw[<-t.length];exact Aj _⟩}
 ·cases e;obtain⟨p,xs,rfl,sq,t⟩:=q1.kl_inv;exact⟨p,rfl,.inl ⟨⟨xs,sq.sq⟩,fin ρ1 H1 _ f1 r1 (Jtw sq t)⟩⟩
 ·split at e
  ·rename_i es he;cases e;obtain⟨p,xs,rfl,hl,hx,t⟩:=r1.lst q1 (Jan he);exact⟨p,rfl,.inl ⟨⟨xs,SqL.of hx⟩,fin ρ1 H1 _ f1 r1 (Jo8 hl _)⟩⟩
  ·cases e
 ·cases e
def Jk6(ha:Snd C a):∀(X:Cx) (c:Ck) (tg x:Expr),Gd X C c->Xb (.rng a) c x=true->PI X tg x (tI X.K C (.rng a)):=by
 intro X c tg x g h;obtain⟨⟨e0,pp,pos,rfl⟩,h⟩:=aO h;simp only[Ai]at h;obtain⟨⟨h1,h2⟩,h3⟩:=h;refine PI.imp (Jln (g.glo h1) (g.top.blt _ (Jag h2)) (Ja8 (ha.e X c _ g h3) Jc2 (Jae (noStar h3))) (Jae (noStar h3))) λU H R hq_=>?_;obtain⟨ρ,S,Z,gg,ds,S',rs,re,e,fin⟩:=hq_;obtain⟨d,S1,e1,e⟩:=Res.bind_eq_ok e;refine⟨ρ,S,Z,d,S1,rs,re,e1,λρ1 v1 H1 f1 r1 q1=>?_⟩;split at e
 ·rename_i j;split at e
  ·rename_i hj;simp only[Ai,decide_eq_true_eq]at hj;cases e;cases q1.int_inv;refine⟨j,rfl,hj.1,hj.2,fin ρ1 H1 _ f1 r1 ?_⟩;have:=Jo7 (K:=X.K) (ρ:=ρ1) (H:=H1) 0 j.toNat
   simpa only[Int.zero_add]using this
  ·cases e
 ·cases e
def Jk7(ha:Snd C a):∀(X:Cx) (c:Ck) (tg x:Expr),Gd X C c->Xb (.enm a) c x=true->itT (.enm a) tg=true->PI X tg x (tI X.K C (.enm a)):=by
 intro X c tg x g h ht;obtain⟨⟨e0,pp,pos,rfl⟩,h⟩:=aO h;cases tg<;>try (exact fx9 ht)
 simp only[Ai]at h;obtain⟨⟨h1,h2⟩,h3⟩:=h;refine PI.imp (Js5 (g.glo h1) (g.top.blt _ (Jag h2)) (Ja8 (ha.e X c _ g h3) Jc2 (Jae (noStar h3))) (Jae (noStar h3))) λU H R hq_=>?_;obtain⟨ρ,S,Z,gg,ds,S',rs,re,e,fin⟩:=hq_;obtain⟨d,S1,e1,e⟩:=Res.bind_eq_ok e;refine⟨ρ,S,Z,d,S1,rs,re,e1,λρ1 v1 H1 f1 r1 q1=>?_⟩;split at e<;>try (cases e;done)
 ·split at e<;>try (cases e;done)
  rename_i es he;cases e;obtain⟨p,xs,rfl,hl,hx,t⟩:=r1.lst q1 (Jan he);exact⟨p,true,rfl,⟨xs,SqL.of hx⟩,fin ρ1 H1 _ f1 r1 (Jo9 hl _)⟩
 ·cases e;obtain⟨p,xs,rfl,sq,t⟩:=q1.tup_inv;exact⟨p,false,rfl,⟨xs,sq⟩,fin ρ1 H1 _ f1 r1 (Jpa sq t)⟩
def Jk4(ha:Snd C a)(hb:Snd C b):∀(X:Cx) (c:Ck) (tg x:Expr),Gd X C c->Xb (.zp a b) c x=true->itT (.zp a b) tg=true->PI X tg x (tI X.K C (.zp a b)):=by
 intro X c tg x g h ht;cases x<;>try (exact fx9 h)
 rename_i fn es kws pos;cases fn<;>try (exact fx9 h)
 rename_i y pp;rcases es with _|⟨e0,_|⟨e1,_|⟨e2,es⟩⟩⟩<;>cases kws<;>try (exact fx9 h)
 cases tg<;>try (exact fx9 ht)
 replace h:=aB h
 simp only[Ai,beq_iff_eq]at h;obtain⟨⟨⟨⟨rfl,h1⟩,h2⟩,h3⟩,h4⟩:=h;refine PI.imp (Js2 (g.glo h1) (g.top.blt _ (Jag h2)) (Ja8 (ha.e X c _ g h3) (Ja8 (hb.e X c _ g h4) Jc2 (Jae (noStar h4))) (Jae (noStar h3))) ((Jae (noStar h3)).trans (by rw[Jae (noStar h4)];rfl)) (Jae (noStar h4))) λU H R hq_=>?_;obtain⟨ρ,S,Z,gg,ds,S',rs,re,e,fin⟩:=hq_;obtain⟨d,S1,q1,e⟩:=Res.bind_eq_ok e;obtain⟨d2,S2,q2,e⟩:=Res.bind_eq_ok e;refine⟨ρ,S,Z,d,S1,rs,re,q1,λρ1 v1 H1 f1 r1 w1=>⟨ρ1,S1,Z,d2,S2,r1,re.fut f1,q2,λρ2 v2 H2 f2 r2 w2=>?_⟩⟩;unfold zpD at e;split at e<;>try (cases e;done)
 split at e<;>try (cases e;done)
 rename_i es he;split at e<;>try (cases e;done)
 cases e;obtain⟨p,xs,rfl,hl,hx,t⟩:=r2.lst (w1.fut f2) (Jan he);obtain⟨q,ys,rfl,sq,t2⟩:=w2.tup_inv;exact⟨p,q,xs,ys,rfl,SqL.of hx,sq,fin ρ2 H2 _ (f1.trans f2) r2 (Jo6 hl sq t2)⟩
end
section
variable {C:Pr}
def Xh:∀{m:M} {c:Ck} {e:Expr},Xc m c e=true->∀x p,e≠ .Starred x p:=by
 intro m c e h x p z;subst z;cases m<;>exact fx9 h
theorem Jq2:∀{m:M} {c:Ck} {es:List Expr} {env:Env},Ww m c es=true->(F1 es env).length=es.length/\(F1 es env).findIdx? (·.1)=none:=by
 intro m
 induction m with
 |nul=>intro c es env h;cases es<;>first|exact⟨rfl,rfl⟩|exact fx9 h
 |cns a b _ ihb=>
  intro c es env h;cases es with
  |nil=>exact fx9 h
  |cons e es=>
   replace h:=aB h
   rw[Jcy (Xh h.1)];obtain⟨h1,h2⟩:=ihb (env:=env) h.2;refine⟨by rw[A5,A5,h1],?_⟩;rw[List.findIdx?_cons,h2];rfl
 |_=>intro c es env h;exact fx9 h
theorem Jzq:∀{m:M} {c:Ck} {es:List Expr} {ds:List D} {Z Z':En} {S S':Store},Ww m c es=true->evGs C m ds Z S=.ok Z' S'->ds.length=es.length:=by
 intro m
 induction m with
 |nul=>
  intro c es ds Z Z' S S' h e;cases es<;>try (exact fx9 h)
  cases ds<;>simp only[Jil]at e
  ·rfl
  ·cases e
 |cns a b _ ihb=>
  intro c es ds Z Z' S S' h e;cases es with
  |nil=>exact fx9 h
  |cons x es=>
   replace h:=aB h
   cases ds with
   |nil=>simp only[Jik]at e;cases e
   |cons d ds=>
    obtain⟨τ1,S1,e1,e⟩:=Res.bind_eq_ok e;rw[A5,A5,ihb h.2 e]
 |_=>intro c es ds Z Z' S S' h;exact fx9 h
def Jk8:SG C (.tvar i):=by
 intro X c x g h;cases x<;>try (exact fx9 h)
 rename_i y p
 replace h:=aB h
 simp only[Ai,beq_iff_eq]at h;obtain⟨h1,h2⟩:=h;obtain⟨o1,o2⟩:=g.own h2;refine PG.imp (Jlo (i:=i) g.nd (by rw[g.N];exact h1) o1 o2) λv U H Q hq_=>?_;obtain⟨ρ,S,Z,d,Z',S',rs,re,rd,e,fin⟩:=hq_;simp only[Jje]at e;split at e
 ·cases e;exact fin ρ _ H Fut.refl rs (re.set rd i)
 ·cases e
def Jk9(ha:Snd C ts):SG C (.ttup ts):=by
 intro X c x g h;cases x<;>try (exact fx9 h)
 rename_i es k p;refine PG.imp (Jwa g.calm (ha.gs X c _ g h) (Jq2 h).1 (Jq2 h).2) λv U H Q hq_=>?_;obtain⟨ρ,S,Z,d,Z',S',rs,re,rd,e,fin⟩:=hq_;simp only[Jqf]at e;split at e
 ·rename_i ds;obtain⟨a,xs,rfl,sq,t⟩:=rd.tup_inv;exact⟨a,xs,rfl,sq,by rw[<-t.length];exact Jzq h e,ρ,S,Z,ds,Z',S',rs,re,t,e,fin⟩
 ·cases e
def Jla(ha:Snd C a)(hb:Snd C b):SG C (.tsub a b):=by
 intro X c x g h;cases x<;>try (exact fx9 h)
 rename_i o i p
 replace h:=aB h
 have nsl:∀l u t p,i≠ .Slice l u t p:=by
  intro l u t p z;subst z;have h2:=h.2;cases b<;>first|(exact fx9 h2)|(rename_i d;cases d<;>exact fx9 h2)|(rename_i w _;cases w<;>exact fx9 h2)
 refine PG.imp (Jwb (ha.e X c _ g h.1) (hb.e X c _ g h.2) (Jvn (Es (Gm (by decide:2<=64) _) g.top.un) g.top.np) (by
  intro v;cases i<;>first|rfl|exact absurd rfl (nsl _ _ _ _))) λv U H Q ⟨ρ,S,Z,d,Z',S',rs,re,rd,e,fin⟩=>?_
 obtain⟨d1,S1,e1,e⟩:=Res.bind_eq_ok e;obtain⟨d2,S2,e2,e⟩:=Res.bind_eq_ok e;obtain⟨_,S3,e3,e⟩:=Res.bind_eq_ok e;cases e;refine⟨ρ,S,Z,d1,S1,rs,re,e1,λρ1 v1 H1 f1 r1 q1=>⟨ρ1,S1,Z,d2,S2,r1,re.fut f1,e2,λρ2 v2 H2 f2 r2 q2=>?_⟩⟩;refine⟨ρ2,S2,d1,d2,d,S',r2,q1.fut f2,q2,rd.fut (f1.trans f2),e3,λH3 f3 r3=>?_⟩;have f:=f1.trans (f2.trans f3);exact fin ρ2 U H3 f r3 (re.fut f)
theorem Jj2(ha:Snd C a)(hb:Snd C b):∀(X:Cx) (c:Ck) (x:List Expr),Gd X C c->Ww (.cns a b) c x=true->PGs X x (tGs X.K C (.cns a b)):=by
 intro X c x g h;cases x with
 |nil=>exact fx9 h
 |cons e es=>
  replace h:=aB h
  refine PGs.imp (Joc (ha.g X c _ g h.1) (hb.gs X c _ g h.2) (by rw[Jcy (Xh h.1)];rfl)) λvs U H Q hq_=>?_;obtain⟨ρ,S,Z,ds,Z',S',rs,re,rd,e,fin⟩:=hq_;cases ds with
  |nil=>simp only[Jik]at e;cases e
  |cons d ds=>
   obtain⟨τ1,S1,e1,e⟩:=Res.bind_eq_ok e;obtain⟨v,r,rfl,q,t⟩:=rd.inv_cons;refine⟨v,r,rfl,ρ,S,Z,d,τ1,S1,rs,re,q,e1,λρ1 σ1 H1 f1 r1 q1=>?_⟩;exact⟨ρ1,S1,τ1,ds,Z',S',r1,q1,t.fut f1,e,λρ2 σ2 H2 f2=>fin ρ2 σ2 H2 (f1.trans f2)⟩
theorem Jj1:∀(X:Cx) (c:Ck) (x:List Expr),Gd X C c->Ww .nul c x=true->PGs X x (tGs X.K C .nul):=by
 intro X c x g h;cases x with
 |cons e es=>exact fx9 h
 |nil=>
  refine PGs.imp Js6 λvs U H Q hq_=>?_;obtain⟨ρ,S,Z,ds,Z',S',rs,re,rd,e,fin⟩:=hq_;cases ds with
  |cons d ds=>simp only[Jil]at e;cases e
  |nil=>
   cases e;exact⟨rd.inv_nil,fin ρ U H Fut.refl rs re⟩
def Ck.compOk{c:Ck}{N:List String}(g:Gd X C c)(h:c.comp N k keep scope=true):V4 X (N.map Ac) k keep scope/\(N.map Ac).Nodup:=by
 unfold Ck.comp at h;simp only[Ai,Dl,beq_iff_eq,bne_iff_ne,Ht,decide_eq_true_eq]at h;obtain⟨⟨⟨⟨⟨⟨h1,h2⟩,h3⟩,h4⟩,h5⟩,h6⟩,h7⟩:=h;refine⟨⟨h1,h2,λy hy hl=>?_,λy hy hf=>?_,by rw[Ah];exact h5,λj i hj=>?_⟩,h6⟩
 ·rcases h3 y hy with z|z
  ·exact absurd hl z
  ·exact z
 ·rw[g.names];rcases h4 y hy with(z|z)|z
  ·exact absurd hf z
  ·exact .inl z
  ·exact .inr z
 ·have hlt:=(Ae.mp hj).1;have:=h7 j (by simpa using hlt);rw[hj]at this;split at this
  ·rename_i i' x e1 e2;cases e1;simp only[Ai,beq_iff_eq]at this;exact⟨x,e2,by rw[g.N];exact this.1,this.2⟩
  ·cases this
def Gd.inner{c:Ck}{N:List String}(g:Gd X C c)(h:c.comp N k keep scope=true)(s₃:Shared)(H:Hp)(ex:List Addr)(pins:List (Addr×D9)):
  Gd (Vm X (N.map Ac) scope s₃ H ex pins) C (c.inner N scope):=by
 obtain⟨ok,nd⟩:=Ck.compOk g h;refine⟨rfl,nd,?_,ok.kind,λx=>rfl,g.calm,rfl,λz=>fx9 z,g.top⟩;show(relabel scope X.env).names=relab scope.names c.names;unfold relabel relab;show scope.names.map _=scope.names.map _;refine Eh λp hp=>?_;obtain⟨n,q⟩:=p;have e1:(X.env.scope.kind==ScopeKind.function)=true:=by rw[g.sk];rfl
 have e2:X.env.kindOf n=c.names.lookup n:=by
  show X.env.scope.names.lookup n=_;rw[g.names]
 simp only[e1,e2,Ux]
def Y1(k:Nat)(τ0 Z:En):Prop:=Z.length=τ0.length/\∀i,k<=i->Z[i]? =τ0[i]?
theorem Jt5:∀{m:M},Wt k m=true->(∀{d:D} {τ0 Z Z':En} {S S':Store},Y1 k τ0 Z->evG C m d Z S=.ok Z' S'->Y1 k τ0 Z'/\S'=S)/\(∀{ds:List D} {τ0 Z Z':En} {S S':Store},Y1 k τ0 Z->evGs C m ds Z S=.ok Z' S'->Y1 k τ0 Z'/\S'=S):=by
 intro m
 induction m with
 |tvar i=>
  intro h;have h:=of_decide_eq_true h;refine⟨λ{d τ0 Z Z' S S'} o e=>?_,λ{ds τ0 Z Z' S S'} o e=>?_⟩
  ·simp only[Jje]at e;split at e
   ·cases e;refine⟨⟨by rw[Dt];exact o.1,λj hj=>?_⟩,rfl⟩;rw[Ao (by lia)];exact o.2 j hj
   ·cases e
  ·exact absurd e Jab
 |ttup ts ih=>
  intro h;refine⟨λ{d τ0 Z Z' S S'} o e=>?_,λ{ds τ0 Z Z' S S'} o e=>?_⟩
  ·simp only[Jqf]at e;split at e
   ·exact(ih h).2 o e
   ·cases e
  ·exact absurd e Jab
 |nul=>
  intro h;refine⟨λ{d τ0 Z Z' S S'} o e=>?_,λ{ds τ0 Z Z' S S'} o e=>?_⟩
  ·exact absurd e Jab
  ·cases ds<;>simp only[Jil]at e
   ·cases e;exact⟨o,rfl⟩
   ·cases e
 |cns a b iha ihb=>
  intro h;have h:=(Ai _ _).mp h;refine⟨λ{d τ0 Z Z' S S'} o e=>?_,λ{ds τ0 Z Z' S S'} o e=>?_⟩
  ·exact absurd e Jab
  ·cases ds<;>simp only[Jik]at e
   ·cases e
   ·obtain⟨τ1,S1,e1,e2⟩:=Res.bind_eq_ok e;obtain⟨o1,rfl⟩:=(iha h.1).1 o e1;exact(ihb h.2).2 o1 e2
 |_=>intro h;exact fx9 h
abbrev V7(C:Pr)(tg cd el:M):D->En->Store->Res (Option D):=λd τ1 S2=>(evG C tg d τ1 S2).bind λτ2 S3=>(evC C cd τ2 S3).bind λb S4=>if b then(evE C el τ2 S4).bind λy S5=>.ok (some y) S5 else .ok none S4
def Jmj(h:(Vl k keep Z)[i]? =some (some d)):k<=i:=by
 unfold Vl at h
 by_cases hi:i<k
 ·rw[A0 (by simpa using hi),Fe,if_pos hi]at h;cases h
 ·lia
theorem Jjs{ds:List D}{Q:List V->Hp->Prop}(hown:Wt k tg=true)(it:ItOk K ρ0 H0 J g ds)
  (rs0:RelS K ρ0 S0 H0)(re0:RelE K ρ0 H0 (Vl k keep τ0) σ0)(e0:V3 (V7 C tg cd el) g ds ds.length 0 (Vl k keep τ0) S0 []=.ok ys S')(fin:∀ρ H xs,Fut K ρ0 H0 ρ H->RelS K ρ S' H->RelDs K ρ H ys xs->Q xs H):
  Y2 J (tG K C tg) (tC K C cd) (tE K C el) Q σ0 H0:=by
 refine⟨λi m xs U H=>∃ρ S acc,Fut K ρ0 H0 ρ H/\RelS K ρ S H/\RelE K ρ H (Vl k keep τ0) U/\RelDs K ρ H acc xs/\i+m=ds.length/\acc.length<=Line/\V3 (V7 C tg cd el) g ds m i (Vl k keep τ0) S acc=.ok ys S',⟨ds.length,ρ0,S0,[],Fut.refl,rs0,re0,RelDs.nil,E4 _,Cz _,e0⟩,?_⟩;rintro i m xs U H ⟨ρ,S,acc,f,rs,re,ra,hi,hl,e⟩;refine⟨by rw[<-ra.length,<-Ja9];exact hl,?_⟩;cases m with
 |zero=>
  simp only[V3]at e;split at e
  ·rename_i hs;cases e;refine .inl ⟨?_,fin ρ H xs f rs ra⟩;have:i=ds.length:=by lia
   rw[this];exact it.stop ρ H _ f rs hs
  ·cases e
 |succ m=>
  simp only[V3]at e;split at e
  ·rename_i hs;split at e
   ·cases e
   ·rename_i d hd;obtain⟨hgo,hy⟩:=it.go ρ H S i d f rs hs hd;refine .inr ⟨hgo,λx H' hyl=>?_⟩;obtain⟨f0,rs,rd⟩:=hy x H' hyl
    replace re:=re.fut f0
    replace ra:=ra.fut f0
    replace f:=f.trans f0
    obtain⟨o,S1,e1,e⟩:=Res.bind_eq_ok e;obtain⟨τ2,S2,eG,e1⟩:=Res.bind_eq_ok e1;obtain⟨b,S3,eC,e1⟩:=Res.bind_eq_ok e1;have own:Y1 k (Vl k keep τ0) τ2:=((Jt5 (C:=C) hown).1 (τ0:=Vl k keep τ0) ⟨rfl,λ_ _=>rfl⟩ eG).1;have less:Wbk τ2 (Vl k keep τ0):=⟨own.1.symm,λj d hj=>by rw[own.2 j (Jmj hj)];exact hj⟩
    refine⟨ρ,S,_,d,τ2,S2,rs,re,rd,eG,λρ1 σ1 H1 f1 r1 q1=>⟨ρ1,S2,τ2,b,S3,r1,q1,eC,λρ2 H2 f2 r2=>?_⟩⟩;cases b with
    |true=>
     rw[if_pos rfl]at e1 ⊢;obtain⟨y,S4,eE,e1⟩:=Res.bind_eq_ok e1;cases e1;simp only at e;split at e
     ·rename_i hlt;refine⟨ρ2,S3,τ2,y,S1,r2,q1.fut f2,eE,λρ3 v3 H3 f3 r3 q3=>⟨m,Dm m,?_⟩⟩;have f13:=f1.trans (f2.trans f3);exact⟨ρ3,S1,acc++[y],f.trans f13,r3,(q1.fut (f2.trans f3)).less less,(ra.fut f13).append (RelDs.cons q3 RelDs.nil),by lia,by rw[Bf];exact hlt,e⟩
     ·cases e
    |false=>
     rw[if_neg Aw]at e1 ⊢;cases e1;simp only at e;have f12:=f1.trans f2;exact⟨m,Dm m,ρ2,S1,acc,f.trans f12,r2,(q1.fut f2).less less,ra.fut f12,by lia,hl,e⟩
  ·cases e
def Jhp{X:Cx}(hown:Wt k tg=true)(h:tE X.K C (.comp N k keep tg it cd el) U H Q):Xm k keep (tI X.K C it) (tG X.K C tg) (tC X.K C cd) (tE X.K C el) U H Q:=by
 obtain⟨ρ,S,Z,d,S',rs,re,e,fin⟩:=h;obtain⟨w,S1,e1,e⟩:=Res.bind_eq_ok e;obtain⟨ys,S2,e2,e⟩:=Res.bind_eq_ok e;cases e;obtain⟨g,ds⟩:=w;refine⟨ρ,S,Z,g,ds,S1,rs,re,e1,λρ1 H1 J f1 r1 itk=>?_⟩;refine Jjs hown itk r1 ((re.fut f1).inner k keep) e2 λρ2 H2 xs f2 r2 q2=>?_;exact Fin.newL (ρ:=ρ2) (λρ3 v3 H3 f3 r3 q3=>fin ρ3 v3 H3 (f1.trans (f2.trans f3)) r3 q3) r2 q2
def Jnv(hg:Snd C tg)(hi:Snd C it)(hc:Snd C cd)(he:Snd C el):SE C (.comp N k keep tg it cd el):=by
 intro X c x g h;cases x<;>try (exact fx9 h)
 rename_i elt gens scope pos;rcases gens with _|⟨⟨t,i,fs,asy⟩,_|⟨g2,gens⟩⟩<;>try (exact fx9 h)
 replace h:=aB h
 simp only[Ai,beq_iff_eq]at h;obtain⟨⟨⟨⟨⟨⟨⟨rfl,h1⟩,h2⟩,h3⟩,h4⟩,h5⟩,h6⟩,h7⟩:=h;obtain⟨pi,fs0⟩:=hi.i X c t i g h4 h7;refine PE.imp (Jlq (Ck.compOk g h1).1 g.calm pi (λs₃ H ex pins=>hg.g _ _ _ (g.inner h1 s₃ H ex pins) h3) (λs₃ H ex pins=>hc.cd _ _ _ (g.inner h1 s₃ H ex pins) h5) (λs₃ H ex pins=>he.e _ _ _ (g.inner h1 s₃ H ex pins) h6) fs0) λU H Q q=>Jhp h2 q
end
section
variable {C:Pr}
def Jhe(h:isComp e=false):Gp e none n env=pure false:=by
 cases e<;>first|rfl|exact fx9 h.symm
def Jdy(h:isComp e=false):Gp e (some t) n env=pure false:=by
 cases e<;>first|rfl|exact fx9 h.symm
def Jjz:Gp e (some (.Name x p)) n env=pure true\/Gp e (some (.Name x p)) n env=pure false:=by
 have h:∃b,Gp e (some (.Name x p)) n env=pure b:=by
  cases e<;>exact⟨_,rfl⟩
 obtain⟨b,h⟩:=h;cases b
 ·exact .inr h
 ·exact .inl h
def Jg4(h:∀a b p,t=.Tuple a b p->∀a' b' p',e≠ .Tuple a' b' p')(hl:∀a p,t≠ .List a p):swappedStores [t] e env=pure none:=by
 cases t<;>first|rfl|exact absurd rfl (hl _ _)|skip
 rename_i a b p;cases e<;>first|rfl|exact absurd rfl (h a b p rfl _ _ _)
def Jpx{K:Af}{t e:M}{D:Ends}{U:L2.St}{H:Hp}(h:tS K C (.asg t e) D U H):Ym (tE K C e) (tG K C t) D U H:=by
 obtain⟨ρ,S,Z,fl,S',rs,re,e0,fin⟩:=h;obtain⟨d,S1,e1,e0⟩:=Res.bind_eq_ok e0;obtain⟨τ1,S2,e2,e0⟩:=Res.bind_eq_ok e0;cases e0;exact⟨ρ,S,Z,d,S1,rs,re,e1,λρ1 v1 H1 f1 r1 q1=>⟨ρ1,S1,Z,d,τ1,S',r1,re.fut f1,q1,e2,λρ2 σ2 H2 f2=>fin ρ2 σ2 H2 (f1.trans f2)⟩⟩
def Jx4(h:Vi e c (.ListComp elt gens scope pos)=true)(hn:nD e=true):∃N k keep mg mi mc me,e=.comp N k keep mg mi mc me:=by
 cases e<;>first|exact⟨_,_,_,_,_,_,_,rfl⟩|(exact fx9 hn)|(exact fx9 h)|(rename_i d;cases d<;>exact fx9 h)|(rename_i w _;cases w<;>exact fx9 h)
def Jx3:¬Vi e c (.SetComp elt gens scope pos)=true:=by
 intro h;cases e<;>first|(exact fx9 h)|(rename_i d;cases d<;>exact fx9 h)|(rename_i w _;cases w<;>exact fx9 h)
def Jx5:¬Vi e c (.DictComp k elt gens scope pos)=true:=by
 intro h;cases e<;>first|(exact fx9 h)|(rename_i d;cases d<;>exact fx9 h)|(rename_i w _;cases w<;>exact fx9 h)
def Jsf(ht:Snd C t)(he:Snd C e)(hc:SC C e):SS C (.asg t e):=by
 intro X c x g h;cases x<;>try (exact fx9 h)
 rename_i tgs v pos;rcases tgs with _|⟨tg,_|⟨t2,tgs⟩⟩<;>try (exact fx9 h)
 replace h:=aB h
 simp only[Ai]at h;obtain⟨⟨h1,h2⟩,h3⟩:=h;have one:(F1 [tg] X.env).map (·.2)=[assign tg X.env]:=by rw[Jcy (Xh h1)];rfl
 have nlist:∀a p,tg≠ .List a p:=by
  intro a p z;subst z;exact Jx8 h1
 by_cases hn:∃y p,tg=.Name y p
 ·obtain⟨y,p,rfl⟩:=hn;rcases Jjz (e:=v) (x:=y) (p:=p) (n:=pos.line) (env:=X.env)with hs|hs
  ·
   cases v<;>first|(exact absurd hs (by intro z;cases z))|skip
   ·
    rename_i elt gens scope cpos;obtain⟨i,rfl⟩:=Jrd h1;obtain⟨N,k,keep,mg,mi,mc,me,rfl⟩:=Jx4 h2 h3;obtain⟨sg,si,sc,se⟩:=hc;rcases gens with _|⟨⟨tt,ii,fs,asy⟩,_|⟨g2,gens⟩⟩<;>try (exact fx9 h2)
    replace h2:=aB h2
    simp only[Ai,beq_iff_eq]at h2;obtain⟨⟨⟨⟨⟨⟨⟨rfl,k1⟩,k2⟩,k3⟩,k4⟩,k5⟩,k6⟩,k7⟩:=h2;obtain⟨pi,fs0⟩:=si.i X c tt ii g k4 k7
    replace h1:=aB h1
    simp only[Ai,beq_iff_eq]at h1;obtain⟨o1,o2⟩:=g.own h1.2;refine PS.imp (Jsx (i:=i) (wi:=tI X.K C mi) (g:=tG X.K C mg) (tc:=tC X.K C mc) (te:=tE X.K C me) g.nd (by rw[g.N];exact h1.1) o1 o2 hs (Ck.compOk g k1).1 g.calm pi (λs₃ H ex pins=>sg.g _ _ _ (g.inner k1 s₃ H ex pins) k3) (λs₃ H ex pins=>sc.cd _ _ _ (g.inner k1 s₃ H ex pins) k5) (λs₃ H ex pins=>se.e _ _ _ (g.inner k1 s₃ H ex pins) k6) fs0) λD U H q=>?_;obtain⟨ρ,S,Z,fl,S',rs,re,e0,fin⟩:=q;simp only[Jsl,Jje,Jqe]at e0;obtain⟨d,S1,e1,e0⟩:=Res.bind_eq_ok e0;obtain⟨τ1,S2,e2,e0⟩:=Res.bind_eq_ok e0;cases e0;refine Jhp (N:=N) k2 ⟨ρ,S,Z,d,S1,rs,re,e1,λρ1 v1 H1 f1 r1 q1=>?_⟩;split at e2
    ·cases e2;exact fin ρ1 _ H1 f1 r1 ((re.fut f1).set q1 i)
    ·cases e2
   ·exact absurd h2 Jx3
   ·exact absurd h2 Jx5
  ·obtain⟨i,rfl⟩:=Jrd h1
   replace h1:=aB h1
   simp only[Ai,beq_iff_eq]at h1;obtain⟨o1,o2⟩:=g.own h1.2;refine PS.imp (Jv3 (i:=i) g.nd (by rw[g.N];exact h1.1) o1 (he.e X c _ g h2) hs o2) λD U H q=>?_;obtain⟨ρ,S,Z,fl,S',rs,re,e0,fin⟩:=q;simp only[Jje,Jqe]at e0;obtain⟨d,S1,e1,e0⟩:=Res.bind_eq_ok e0;obtain⟨τ1,S2,e2,e0⟩:=Res.bind_eq_ok e0;cases e0;refine⟨ρ,S,Z,d,S1,rs,re,e1,λρ1 v1 H1 f1 r1 q1=>?_⟩;split at e2
   ·cases e2;exact fin ρ1 _ H1 f1 r1 ((re.fut f1).set q1 i)
   ·cases e2
 ·have hv:isComp v=false:=by
   cases v<;>first|rfl|(exfalso;cases tg<;>first|(exact absurd ⟨_,_,rfl⟩ hn)|(exact fx9 h3))
  refine PS.imp (Jql (he.e X c _ g h2) (ht.g X c _ g h1) (by show Gp v (some tg) _ _=_;exact Jdy hv) (Jg4 (λa b p z a' b' p' z'=>by subst z;subst z';exact Aw h3) nlist) one) λD U H q=>Jpx q
def Jse(he:Snd C e):SS C (.aug i e):=by
 intro X c x g h;cases x<;>try (exact fx9 h)
 rename_i tg op v pos;cases tg<;>try (exact fx9 h)
 cases op<;>try (exact fx9 h)
 replace h:=aB h
 simp only[Ai,beq_iff_eq]at h;obtain⟨⟨h1,h2⟩,h3⟩:=h;obtain⟨o1,o2⟩:=g.own h2;refine PS.imp (Jv8 (i:=i) g.nd (by rw[g.N];exact h1) o1 (he.e X c _ g h3) Jxe o2) λD U H hq_=>?_;obtain⟨ρ,S,Z,fl,S',rs,re,e,fin⟩:=hq_;simp only[Jn2]at e;split at e<;>try (cases e;done)
 rename_i x hx;obtain⟨y,S1,e1,e⟩:=Res.bind_eq_ok e;split at e<;>try (cases e;done)
 cases e;obtain⟨v,hv,rv⟩:=re.at' i _ hx;refine⟨v,hv,ρ,S,Z,_,S',rs,re,e1,λρ1 v1 H1 f1 r1 q1=>⟨x,_,rv.int_inv,q1.int_inv,?_⟩⟩;exact fin ρ1 _ H1 f1 r1 ((re.fut f1).set (RelD.int _) i)
theorem Jr0(ht:Snd C t)(ha:Snd C a)(hb:Snd C b):SS C (.ifs t a b):=by
 intro X c x g h;cases x<;>try (exact fx9 h)
 replace h:=aB h
 simp only[Ai]at h;refine PS.imp (Jv5 (ht.t X c _ g h.1.1) (ha.b X c _ g h.1.2) (hb.b X c _ g h.2)) λD U H hq_=>?_;obtain⟨ρ,S,Z,fl,S',rs,re,e,fin⟩:=hq_;obtain⟨k,S1,e1,e⟩:=Res.bind_eq_ok e;refine⟨ρ,S,Z,k,S1,rs,re,e1,λρ1 H1 f1 r1=>?_⟩;have fin':FlOk X.K ρ1 H1 fl S' D:=by
  cases fl with
  |nx Z'=>exact λρ2 σ2 H2 f2=>fin ρ2 σ2 H2 (f1.trans f2)
  |rt d=>exact λρ2 σ2 H2 f2=>fin ρ2 σ2 H2 (f1.trans f2)
 cases k with
 |true=>exact Wcy ⟨ρ1,S1,Z,fl,S',r1,re.fut f1,e,fin'⟩
 |false=>exact Wcz ⟨ρ1,S1,Z,fl,S',r1,re.fut f1,e,fin'⟩
theorem FlOk.fut{K:Af}{ρ ρ1:List Addr}{H H1:Hp}{fl:Fl}{S':Store}{D:Ends}(fin:FlOk K ρ H fl S' D)(f1:Fut K ρ H ρ1 H1):FlOk K ρ1 H1 fl S' D:=by
 cases fl with
 |nx Z'=>exact λρ2 σ2 H2 f2=>fin ρ2 σ2 H2 (f1.trans f2)
 |rt d=>exact λρ2 σ2 H2 f2=>fin ρ2 σ2 H2 (f1.trans f2)
theorem Jr5(ht:Snd C t)(hi:Snd C i)(hb:Snd C b):SS C (.forr t i b):=by
 intro X c x g h;cases x<;>try (exact fx9 h)
 rename_i tg iter body els pos;cases els<;>try (exact fx9 h)
 replace h:=aB h
 simp only[Ai]at h;obtain⟨pi,fs0⟩:=hi.i X c tg iter g h.1.1.2 h.2;refine PS.imp (Jv6 (by rw[g.xe];exact PassesOwn.never) g.calm pi (ht.g X c _ g h.1.1.1) (hb.b X c _ g h.1.2) fs0) λD U H hq_=>?_;obtain⟨ρ,S,Z,fl,S',rs,re,e,fin⟩:=hq_;obtain⟨w,S1,e1,e⟩:=Res.bind_eq_ok e;obtain⟨gg,ds⟩:=w;refine⟨ρ,S,Z,gg,ds,S1,rs,re,e1,λρ0 H0 J f0 r0 it=>?_⟩;have fin0:=fin.fut f0
 let turn:Mi.D->En->Store->Res Fl:=λd τ1 S2=>(evG C t d τ1 S2).bind λτ2 S3=>evB C b τ2 S3
 have e:forL turn gg ds ds.length 0 Z S1=.ok fl S':=e;refine⟨λi m U H=>∃ρ S Z,Fut X.K ρ0 H0 ρ H/\RelS X.K ρ S H/\RelE X.K ρ H Z U/\i+m=ds.length/\forL turn gg ds m i Z S=.ok fl S',⟨ds.length,ρ0,S1,Z,Fut.refl,r0,re.fut f0,E4 _,e⟩,?_⟩;rintro i m U H ⟨ρ,S,Z,f,rs,re,hi,e⟩;cases m with
 |zero=>
  simp only[forL]at e;split at e
  ·rename_i hs;cases e;refine .inl ⟨?_,fin0 ρ U H f rs re⟩;have:i=ds.length:=by lia
   rw[this];exact it.stop ρ H _ f rs hs
  ·cases e
 |succ m=>
  simp only[forL]at e;split at e
  ·rename_i hs;split at e
   ·cases e
   ·rename_i d hd;obtain⟨hgo,hy⟩:=it.go ρ H S i d f rs hs hd;refine .inr ⟨hgo,λU' H'=>∃ρ' S'' Z',Fut X.K ρ0 H0 ρ' H'/\RelS X.K ρ' S'' H'/\RelE X.K ρ' H' Z' U'/\forL turn gg ds m (i+1) Z' S''=.ok fl S',λU' H' ⟨ρ',S'',Z',a1,a2,a3,a4⟩=>⟨m,Dm m,ρ',S'',Z',a1,a2,a3,by lia,a4⟩,λx H' hyl=>?_⟩;obtain⟨f0,rs,rd⟩:=hy x H' hyl
    replace re:=re.fut f0
    replace f:=f.trans f0
    obtain⟨fl1,S1,e1,e⟩:=Res.bind_eq_ok e;obtain⟨τ2,S2,eG,eB⟩:=Res.bind_eq_ok e1;refine⟨ρ,S,Z,d,τ2,S2,rs,re,rd,eG,λρ1 σ1 H1 f1 r1 q1=>⟨ρ1,S2,τ2,fl1,S1,r1,q1,eB,?_⟩⟩;cases fl1 with
    |nx τ1=>exact λρ2 σ2 H2 f2 r2 q2=>⟨ρ2,S1,τ1,f.trans (f1.trans f2),r2,q2,e⟩
    |rt d=>
     simp only at e;cases e;exact λρ2 v2 H2 f2 r2 q2=>fin0 ρ2 v2 H2 (f.trans (f1.trans f2)) r2 q2
  ·cases e
def Jrs(ha:Snd C a):SS C (.ret a):=by
 intro X c x g h;cases x<;>try (exact fx9 h)
 rename_i v pos;cases v<;>try (exact fx9 h)
 refine PS.imp (Jv4 (ha.e X c _ g h)) λD U H hq_=>?_;obtain⟨ρ,S,Z,fl,S',rs,re,e,fin⟩:=hq_;obtain⟨d,S1,e1,e⟩:=Res.bind_eq_ok e;cases e;exact⟨ρ,S,Z,d,_,rs,re,e1,fin⟩
def Jr7(ha:Snd C a):SS C (.exp a):=by
 intro X c x g h;cases x<;>try (exact fx9 h)
 replace h:=aB h
 simp only[Ai,Jh]at h;refine PS.imp (Jll (ha.e X c _ g h.1) (Jhe h.2)) λD U H hq_=>?_;obtain⟨ρ,S,Z,fl,S',rs,re,e,fin⟩:=hq_;obtain⟨d,S1,e1,e⟩:=Res.bind_eq_ok e;cases e;exact⟨ρ,S,Z,d,_,rs,re,e1,λρ1 v1 H1 f1 r1 q1=>fin ρ1 U H1 f1 r1 (re.fut f1)⟩
theorem Jlb:∀(X:Cx) (c:Ck) (x:List Stmt),Gd X C c->Wn .nul c x=true->PSs X x (tB' X.K C .nul):=by
 intro X c x g h;cases x with
 |cons s ss=>exact fx9 h
 |nil=>
  refine PSs.imp Jsw λD U H hq_=>?_;obtain⟨ρ,S,Z,fl,S',rs,re,e,fin⟩:=hq_;cases e;exact fin ρ _ H Fut.refl rs re
theorem Jlc(ha:Snd C a)(hb:Snd C b):∀(X:Cx) (c:Ck) (x:List Stmt),Gd X C c->Wn (.cns a b) c x=true->PSs X x (tB' X.K C (.cns a b)):=by
 intro X c x g h;cases x with
 |nil=>exact fx9 h
 |cons s ss=>
  replace h:=aB h
  refine PSs.imp (Jf2 (ha.s X c _ g h.1) (hb.b X c _ g h.2)) λD U H hq_=>?_;obtain⟨ρ,S,Z,fl,S',rs,re,e,fin⟩:=hq_;obtain⟨fl1,S1,e1,e⟩:=Res.bind_eq_ok e;refine⟨ρ,S,Z,fl1,S1,rs,re,e1,?_⟩;cases fl1 with
  |nx τ1=>exact λρ1 σ1 H1 f1 r1 q1=>⟨ρ1,S1,τ1,fl,S',r1,q1,e,fin.fut f1⟩
  |rt d=>simp only at e;cases e;exact fin
end
section
variable {C:Pr}
def Jnu:SE C (.dnil k):=by
 intro X c x g h;cases x<;>try (exact fx9 h)
 rename_i ks vs pos;rcases ks with _|⟨k,ks⟩<;>rcases vs with _|⟨v,vs⟩<;>try (exact fx9 h)
 rcases k with _|_|k
 ·refine PE.imp Joj λU H Q ⟨ρ,S,Z,d,S',rs,re,e,fin⟩=>?_;cases e;exact fin.newO rs λp n=>⟨[],Jaf,rfl⟩
 ·refine PE.imp Joh λU H Q ⟨ρ,S,Z,d,S',rs,re,e,fin⟩=>?_;cases e;exact fin.newO rs λp n=>⟨[],Jaf,rfl⟩
 ·refine PE.imp Joi λU H Q ⟨ρ,S,Z,d,S',rs,re,e,fin⟩ p hp=>?_;cases e;exact fin (ρ++[p]) _ _ (Ja1 hp [p]) (rs.allocO hp ⟨[],Jaf,rfl⟩) (by simp only[RelD];exact⟨p,rfl,by rw[<-rs.len];simp⟩)
def Jxc{kvs:List (Rdu.PK×D)}(ha:H a=some (.frz o (.dT ws)))(q:RelKv pK K ρ H kvs ws)
  (hB:∀(j:Nat) (k:List Key) (v:V) (c:Addr),ws[j]? =some (k,v)->bs[j]? =some c->SqT K H c (k.map kV)):ItOk K ρ H (Itw K b a o ws bs) none (kvs.map (dwI b))where
 go:=λρ' H' S i d f r s e=>by
  simp only[nth,Ap,Al]at e;obtain⟨p,hp,rfl⟩:=e;obtain⟨v,hv,rv⟩:=q.get hp;refine⟨⟨f.frz _ _ _ ha,(Ae.mp hv).1,λj k v c h1 h2=>f.tup _ _ (hB j k v c h1 h2)⟩,λx H2 ⟨e1,k,u,hu,e2⟩=>?_⟩;subst e1;rw[hv]at hu;cases hu;refine⟨Fut.refl,r,?_⟩;cases b with
  |true=>cases(show x=v from e2);exact rv.fut f
  |false=>
   obtain⟨c,rfl,sq⟩:=e2;exact⟨c,_,rfl,sq,RelDs.cons (RelD.int _) (RelDs.cons (RelD.int _) RelDs.nil)⟩
 stop:=λρ' H' S f r s=>⟨f.frz _ _ _ ha,by rw[Ah,q.length];exact Aj _⟩
def Jqa{xs:List V}(e:H a=some o0)(n:∀xs,o0≠ .tup xs)(q:SqT K H c xs):SqT K (upd H a o) c xs:=
 q.imp_left λz=>by rw[Jac (Je9 z e λy=>n _ y.symm)];exact z
def Jr8(hn:Snd C .nul)(hg:Snd C tg)(ha:Snd C a)(he:Snd C el):SE C (.dcm b N keep tg a el):=by
 intro X c x g h;cases x<;>try (exact fx9 h)
 rename_i elt gens scope pos;rcases gens with _|⟨⟨t,i,_|⟨f,fs⟩,asy⟩,_|⟨g2,gens⟩⟩<;>try (exact fx9 h)
 replace h:=aB h
 simp only[Ai,beq_iff_eq]at h;obtain⟨⟨⟨⟨⟨rfl,h1⟩,h2⟩,h3⟩,h4⟩,h5⟩:=h;have pi:PI X t i (iDw X b (tE X.K C a))/\∀v,C4 i X.env v=pure v:=by
  cases b with
  |true=>
   obtain⟨⟨_,p,q,rfl,h8,h9⟩,h4⟩:=aO h4;exact⟨Js3 (ha.e X c _ g h4) (Jpv h8) h9,λ_=>rfl⟩
  |false=>exact⟨Js4 (ha.e X c _ g h4),Wp (Zn (m:=a) h4)⟩
 refine PE.imp (Js7 (Jlq (g:=tG X.K C tg) (tc:=tC X.K C .nul) (te:=tE X.K C el) (Ck.compOk g h1).1 g.calm pi.1 (λs₃ H ex pins=>hg.g _ _ _ (g.inner h1 s₃ H ex pins) h3) (λs₃ H ex pins=>hn.cd _ _ _ (g.inner h1 s₃ H ex pins) rfl) (λs₃ H ex pins=>he.e _ _ _ (g.inner h1 s₃ H ex pins) h5) pi.2)) λU H Q hq_=>?_;obtain⟨ρ,S,Z,d,S',rs,re,e,fin⟩:=hq_;obtain⟨x,S1,e1,e8⟩:=Res.bind_eq_ok e;obtain⟨⟨l,kvs⟩,S2,e2,e7⟩:=Res.bind_eq_ok e8;obtain⟨ys,S3,e3,e9⟩:=Res.bind_eq_ok e7;clear e e8 e7;refine⟨ρ,S,Z,x,S1,rs,re,e1,λρ1 v1 H1 f1 r1 q1=>?_⟩;unfold frD at e2;split at e2<;>try (cases e2;done)
 split at e2<;>try (cases e2;done)
 rename_i l' kvs' hk;cases e2;unfold thD at e9;split at e9<;>try (cases e9;done)
 rename_i us hu;cases e9;obtain⟨p,ws,rfl,hp,ea,q⟩:=r1.dtu q1 (Jbs hk);refine⟨p,ws,rfl,ea,λnf o bs hB=>?_⟩;have f2:Fut X.K ρ1 H1 ρ1 (upd H1 p (.frz o (.dT ws))):=Jdi (o0:=.dT ws) ea (λ_ z=>by cases z) (λ_ _ z=>by cases z);have q2:=q.fut f2;refine Jjs (cd:=.nul) h2 (Jxc Jaf q2 λj k v c h1 h2=>f2.tup _ _ (.inl (hB j k v c h1 h2))) (r1.setO (o0:=.dT ws) (ob:=.fz kvs) hp f2 ⟨ws,o,Jaf,q2⟩) ((re.fut (f1.trans f2)).inner 1 keep) e3 λρ3 H3 xs f3 r3 q3=>λp' n=>?_;have e4:=f3.frz p o _ Jaf;obtain⟨ws',o',e5,q5⟩:=r3.ob l p _ (f3.get hp) hu;rw[e4]at e5;cases e5;have e6:upd H3 p' (.lst xs) p=some (.frz o (.dT ws)):=by rw[Jac (Jal e4 n)];exact e4
 have f4:Fut X.K ρ3 H3 (ρ3++[p']) (upd H3 p' (.lst xs)):=Ja1 n [p'];have f5:=(f2.trans f3).trans f4;have w:Fu X.K (ρ3++[p']) (upd H3 p' (.lst xs)) (ρ3++[p']) (upd (upd H3 p' (.lst xs)) p (.dT ws)):=⟨⟨[],by simp⟩,λc xs z=>Jqa e6 nofun z,λc o xs z=>by rw[Jac (Je9 z e6 nofun)];exact z⟩
 have r6:=r3.alloc n q3;refine⟨p,o,.dT ws,nf,e6,fin _ _ _ (f1.trans ⟨f5.pre,λc xs z=>Jqa e6 nofun (f5.tup _ _ z),λc o u z=>by rw[Jac (Je9 z ea nofun)];exact f5.frz _ _ _ z⟩) (r6.setW (o0:=.dT ws) (f5.get hp) w ⟨ws,Jaf,(q5.fut f4).fu w⟩) ?_⟩;refine⟨p',rfl,?_⟩;rw[<-r3.len];simp
def Jr3(ha:Snd C a):SE C (.hld a):=by
 intro X c x g h;obtain⟨⟨e,_,_,_,_,_,_,rfl,h5,h6⟩,h⟩:=aO h;simp only[Ai]at h;obtain⟨⟨⟨⟨h1,h2⟩,h3⟩,h4⟩,h7⟩:=h;refine PE.imp (Jtb g.calm (Es (Gm (by decide:8<=64) _) g.top.un) (g.glo h1) (g.top.blt _ (Jag h3)) (g.glo h2) (g.top.blt _ (Jag h4)) (ha.e X c _ g h7) (Jpv h5) h6) λU H Q ⟨ρ,S,Z,d,S',rs,re,e,fin⟩=>?_;obtain⟨x,S1,e1,e⟩:=Res.bind_eq_ok e;refine⟨ρ,S,Z,x,S1,rs,re,e1,λρ1 v1 H1 f1 r1 q1=>?_⟩;unfold Yw at e;split at e<;>try (cases e;done)
 split at e<;>try (cases e;done)
 rename_i kvs hk;split at e<;>try (cases e;done)
 rename_i hup;cases e;obtain⟨p,ws,rfl,_,ea,q⟩:=r1.dtu q1 (Jbs hk);exact⟨p,ws,_,rfl,Jp5 ea q hup,Fin.newO (ρ:=ρ1) (λρ2 v2 H2 f2=>fin ρ2 v2 H2 (f1.trans f2)) r1 λp n=>⟨ws,Jaf,q.fut (Ja1 n [p])⟩⟩
def Jry(ha:Snd C a):SE C (.lsp a):=by
 intro X c x g h;obtain⟨⟨e,_,_,_,_,rfl⟩,h⟩:=aO h;simp only[Ai]at h;obtain⟨⟨⟨⟨h1,h2⟩,h3⟩,h4⟩,h5⟩:=h;refine PE.imp (Jlp g.calm (Es (Gm (by decide:9<=64) _) g.top.un) (g.glo h1) (g.top.blt _ (Jag h3)) (g.glo h2) (g.top.blt _ (Jag h4)) (Ja8 (ha.e X c _ g h5) Jc2 (Jae (noStar h5))) (Jae (noStar h5))) λU H Q ⟨ρ,S,Z,d,S',rs,re,e,fin⟩=>?_;obtain⟨x,S1,e1,e⟩:=Res.bind_eq_ok e;refine⟨ρ,S,Z,x,S1,rs,re,e1,λρ1 v1 H1 f1 r1 q1=>?_⟩;unfold Yp at e;split at e<;>try (cases e;done)
 split at e<;>try (cases e;done)
 rename_i ps hp;split at e<;>try (cases e;done)
 rename_i hl;cases e;obtain⟨es,hs,hp⟩:=Od.mp hp;obtain⟨p,xs,rfl,_,hx,t⟩:=r1.lst q1 (Jan hs);obtain⟨bs,rfl,hb⟩:=Jgp (g:=V.ref) (R:=λ(k:Rdu.PK) b=>SqT X.K H1 b ((pK k).map kV)) (λ{d b v} r e=>by
  cases Jep e;obtain⟨a,eb,h⟩:=Jek g.top.np r;exact⟨a,eb,SqT.of h⟩) t hp
 exact⟨p,bs,ps,rfl,SqL.of hx,hb,hl,fin ρ1 _ H1 f1 r1 (RelD.int _)⟩
def Jmg(h:Wv S l c=some fs):S[l]? =some (.ins c fs):=by
 unfold Wv at h;split at h
 ·rename_i c' fs' e;split at h
  ·rename_i hc;cases h;rw[e,hc]
  ·cases h
 ·cases h
def RelS.ins(rs:RelS K ρ S H)(r:RelD K ρ H (.loc l) x)(h:Wv S l c=some fs):
  ∃a Ca dx ws,x=.ref a/\ρ[l]? =some a/\Bt K A7 (Ac c)=some (some (.ref Ca))/\H a=some (.ins Ca dx ws)/\Wh K ρ H fs ws:=by
 obtain⟨a,rfl,hl⟩:=r.loc_inv;obtain⟨Ca,dx,ws,n,e,q⟩:=rs.ob l a _ hl (Jmg h);exact⟨a,Ca,dx,ws,rfl,hl,n,e,q⟩
def Je2{X:Cx}(h1:Zb e0=true):∀nm,attributeBase e0 nm X.env (eval e0 X.env)=eval e0 X.env:=λnm=>by
 cases e0<;>first|rfl|exact fx9 h1
def Jr6(ha:Snd C a):SE C (.fld cl f a):=by
 intro X c x g h;cases x<;>try (exact fx9 h)
 rename_i e0 y pos
 replace h:=aB h
 simp only[Ai,beq_iff_eq]at h;obtain⟨⟨⟨rfl,h1⟩,h2⟩,h3⟩:=h;obtain⟨Ca,n0,hc,hn⟩:=g.top.fds cl f (by simpa using h2);refine PE.imp (Jwg (ha.e X c _ g h3) (Je2 h1 _)) λU H Q hq_=>?_;obtain⟨ρ,S,Z,d,S',rs,re,e,fin⟩:=hq_;obtain⟨x1,S1,e1,e⟩:=Res.bind_eq_ok e;refine⟨ρ,S,Z,x1,S1,rs,re,e1,λρ1 v1 H1 f1 r1 q1=>?_⟩;split at e<;>try (exact absurd e Jab)
 rename_i d' hd;cases e;unfold X5 at hd;split at hd<;>try (cases hd;done)
 rename_i l;split at hd<;>try (cases hd;done)
 rename_i fs hi;obtain⟨b,Cb,dx,ws,rfl,hl,n,eb,q⟩:=r1.ins q1 hi;rw[n0]at n;cases n;rcases q.look f with⟨z,_⟩|⟨d2,v2,z1,z2,z3⟩
 ·rw[z]at hd;cases hd
 ·rw[z1]at hd;cases hd;exact⟨b,_,dx,ws,v2,rfl,eb,hc,hn,z2,fin ρ1 v2 H1 f1 r1 z3⟩
def Jrq(ho:Snd C o)(hv:Snd C v):SS C (.sfd cl f o v):=by
 intro X c x g h;cases x<;>try (exact fx9 h)
 rename_i tgs w pos;rcases tgs with _|⟨tg,tgs⟩<;>try (exact fx9 h)
 cases tg<;>try (exact fx9 h)
 rename_i e0 y p0;rcases tgs with _|⟨t2,tgs⟩<;>try (exact fx9 h)
 replace h:=aB h
 simp only[Ai,beq_iff_eq,Jh]at h;obtain⟨⟨⟨⟨rfl,h1⟩,h2⟩,h3⟩,h4⟩:=h;obtain⟨Ca,n0,hc,hn⟩:=g.top.fds cl f (by simpa using h2);refine PS.imp (Jv7 (ho.e X c _ g h3) (hv.e X c _ g h4) (Jdy h1)) λD U H hq_=>?_;obtain⟨ρ,S,Z,fl,S',rs,re,e,fin⟩:=hq_;obtain⟨y1,S1,e1,e⟩:=Res.bind_eq_ok e;obtain⟨x1,S2,e2,e⟩:=Res.bind_eq_ok e;refine⟨ρ,S,Z,y1,S1,rs,re,e1,λρ1 v1 H1 f1 r1 q1=>⟨ρ1,S1,Z,x1,S2,r1,re.fut f1,e2,λρ2 v2 H2 f2 r2 q2=>?_⟩⟩;split at e<;>try (exact absurd e Jab)
 rename_i S3 hs;cases e;unfold Y6 at hs;split at hs<;>try (cases hs;done)
 rename_i l;split at hs<;>try (cases hs;done)
 rename_i fs hi;split at hs<;>try (cases hs;done)
 rename_i hl;cases hs;obtain⟨b,Cb,dx,ws,rfl,hb,n,eb,q⟩:=r2.ins q2 hi;rw[n0]at n;cases n;have fm:Fut X.K ρ2 H2 ρ2 (upd H2 b (.ins Ca dx (V5 (Ac f) v1 ws))):=Jdi (o0:=.ins Ca dx ws) eb (λ_ z=>by cases z) (λ_ _ z=>by cases z);refine⟨b,Ca,dx,ws,rfl,eb,hc,hn,by rw[<-q.length];exact hl,?_⟩;have ft:=f1.trans (f2.trans fm);exact fin ρ2 U _ ft (r2.setO (o0:=.ins Ca dx ws) hb fm ⟨Ca,dx,_,n0,Jaf,(q.put f (q1.fut f2)).fu fm.fu⟩) (re.fut ft)
theorem Jl1{X:Cx}{ap pos:Pos}{es:List Expr}(hb:attributeBase e0 m X.env (eval e0 X.env)=eval e0 X.env)(hf:Pu (es.length+([]:List U8).length) (Fg pos (Bs es X.env)) (Ni pos (Jz [] X.env))=true)
  (hl:(ap.endLine==pos.line)=true):eval (.Call (.Attribute e0 m ap) es [] pos) X.env=(do
   let ov<-eval e0 X.env
   Nd ap.atName
   let(f,first)<-holding [ov] (getMethod ov m (do return (<-importBound e0 X.env).getD true))
   callWith pos f first (Fg pos (Bs es X.env)) (Ni pos (Jz [] X.env))):=by
 show(do
  let ov<-attributeBase e0 m X.env (eval e0 X.env)
  Nd ap.atName
  methodCall e0 m ap pos X.env ov (es.length+([]:List U8).length) (Fg pos (Bs es X.env)) (Ni pos (Jz [] X.env)))=_
 rw[hb];unfold methodCall calleeOf methodCallPos;rw[hf,hl];rfl
def Jrw(ho:Snd C o)(ha:Snd C as):ST C (.mcl cl m f o as):=by
 intro X c x g h;cases x<;>try (exact fx9 h)
 rename_i fn es kws pos;cases fn<;>try (exact fx9 h)
 rename_i e0 y ap;cases kws<;>try (exact fx9 h)
 replace h:=aB h
 simp only[Ai,beq_iff_eq,decide_eq_true_eq]at h;obtain⟨⟨⟨⟨⟨⟨rfl,h1⟩,hln⟩,hfw⟩,h2⟩,h3⟩,h4⟩:=h;obtain⟨k,a,fd,ps,Ca,hr',n0,hc,hm,F,hb⟩:=g.top.mts cl m f (by simpa using h2);have hr:=hr'.mono (Jn k);have rd:∀{t:TA},(∀U H Q,tA X.K C as U H Q->t U H Q)->∀U H Q,tE X.K C (.mcl cl m f o as) U H Q->Yi Ca (Ac m) (spM X.K C f) [] E0 (tE X.K C o) t U H Q:=λ{t} ht U H Q ⟨ρ,S,Z,d,S',rs,re,e,fin⟩=>by
  obtain⟨x1,S1,e1,e⟩:=Res.bind_eq_ok e;split at e<;>try (exact absurd e Jab)
  rename_i hrc;obtain⟨ds,S2,e2,e⟩:=Res.bind_eq_ok e;refine⟨ρ,S,Z,x1,S1,rs,re,e1,λρ1 v1 H1 f1 r1 q1=>?_⟩;unfold isRec at hrc;split at hrc<;>try (cases hrc;done)
  rename_i l;split at hrc<;>try (cases hrc;done)
  rename_i fs hi;obtain⟨b,Cb,dx,ws,rfl,hl,n,eb,q⟩:=r1.ins q1 hi;rw[n0]at n;cases n;have hno:ws.lookup (Ac m)=none:=by
   rcases q.look m with⟨_,z⟩|⟨d2,v2,z1,_,_⟩
   ·exact z
   ·rw[z1]at hrc;cases hrc
  refine⟨b,dx,ws,rfl,eb,hno,ht U H1 _ ⟨ρ1,S1,Z,ds,S2,r1,re.fut f1,e2,λρ2 vs H2 f2 r2 q2=>?_⟩⟩;show spM X.K C f (_::(vs++[])) H2 Q E0;rw[Ec];exact⟨ρ2,S2,.loc _::ds,d,S',r2,RelDs.cons (q1.fut f2) q2,e,λρ3 v3 H3 f3 r3 q3=>fin ρ3 v3 H3 (f1.trans (f2.trans f3)) r3 q3⟩
 have hform:Pu (es.length+([]:List U8).length) (Fg pos (Bs es X.env)) (Ni pos (Jz [] X.env))=true:=by
  unfold Pu;have hall:(Fg pos (Bs es X.env)).all (λx=> !x.1)=true:=Jft _ _ (V8 (env:=X.env) h4);rw[show(Fg pos (Bs es X.env)).all (!·.1)=true from hall];simp only[Lj,Ai,decide_eq_true_eq];exact⟨rfl,by show es.length+0+0<30;lia⟩
 have hpl:=Jl1 (X:=X) (e0:=e0) (m:=Ac m) (ap:=ap) (pos:=pos) (es:=es) (Je2 h1 _) hform (by simpa using hln);have pe:PE X (.Call (.Attribute e0 (Ac m) ap) es [] pos) (tE X.K C (.mcl cl m f o as)):=by
  cases es with
  |nil=>
   refine PE.imp (Joe (ho.e X c _ g h3) hc hm F hr hb .nil Jlt hpl) (rd λU H Q ⟨ρ,S,Z,ds,S',rs,re,e,fin⟩=>?_);obtain rfl:=Jed h4;cases e;exact fin ρ [] H Fut.refl rs RelDs.nil
  |cons e es=>
   obtain⟨a0,b0,rfl⟩:=Jbm h4;have h4':=h4
   replace h4:=aB h4
   refine PE.imp (Jta (ho.e X c _ g h3) hc hm F hr hb .nil Jlt (ha.a X c _ g h4') (Jae (noStar h4.1)) (by rw[Ja5];exact V8 h4.2) hpl) (rd λU H Q z=>z)
 refine⟨pe,Jj4 pe (λ_=>rfl) λZ S b S' e=>?_⟩;obtain⟨x1,S1,e1,e⟩:=Res.bind_eq_ok e;split at e<;>try (exact absurd e Jab)
 rename_i hrc;obtain⟨ds,S2,e2,e⟩:=Res.bind_eq_ok e;obtain⟨d,S3,e3,e⟩:=Res.bind_eq_ok e;split at e
 ·rename_i k hk;cases e;exact⟨d,Res.bnd e1 (by rw[if_pos hrc];exact Res.bnd e2 e3),hk⟩
 ·cases e
def Jru:SE C (.new cl f):=by
 intro X c x g h;obtain⟨⟨_,p,pos,rfl⟩,h0⟩:=aO h;obtain⟨h0,h3⟩:=aB h0;obtain⟨h1,h2⟩:=aB h0;obtain⟨k,a,fd,ps,Ca,hr,n0,hm,mk,F,hb⟩:=g.top.nws cl f (by simpa using h3);refine PE.imp (Jof mk F hr (g.glo h1) hm hb .nil Jlt (Wz h2)) λU H Q hq_=>?_;obtain⟨ρ,S,Z,d,S',rs,re,e,fin⟩:=hq_;obtain⟨r,S1,e1,e⟩:=Res.bind_eq_ok e;split at e<;>try (exact absurd e Jab)
 cases e;intro x dx hx hdx hne;have f1:Fut X.K ρ H ρ (upd H dx (.own x)):=Ja0 hdx;have hx':(upd H dx (.own x)) x=none:=by rw[Jac (Df hne)];exact hx
 have f2:Fut X.K ρ (upd H dx (.own x)) (ρ++[x]) (upd (upd H dx (.own x)) x (.ins Ca dx [])):=Ja1 hx' [x];have r2:RelS X.K (ρ++[x]) (S++[.ins cl []]) (upd (upd H dx (.own x)) x (.ins Ca dx [])):=(rs.new hdx).allocO hx' ⟨Ca,dx,[],n0,Jaf,rfl⟩;have hl:(ρ++[x])[S.length]? =some x:=by rw[<-rs.len];simp
 refine⟨ρ++[x],S++[.ins cl []],[.loc S.length],.non,S',r2,RelDs.cons (by simp only[RelD];exact⟨x,rfl,hl⟩) RelDs.nil,e1,λρ3 v3 H3 f3 r3 q3=>⟨q3.non_inv,?_⟩⟩;refine fin ρ3 _ H3 (f1.trans (f2.trans f3)) r3 ?_;simp only[RelD];exact⟨x,rfl,f3.get hl⟩
def Jrr:SS C (.rse cl a):=by
 intro X c x g h pins s U H D I hq_;obtain⟨ρ,S,Z,fl,S',rs,re,e,fin⟩:=hq_;exact absurd e Jab
end
def Jtj:(B3 20).all (λk=>wds.all λx=>(Gv [.int k,.str x]).showable&&decide ((Gv [.int k,.str x]).shown.length<=1000))=true:=by decide+kernel
def Jwq(h:okW d=true):∃i x,d=.tup [.int i,.str x]/\(Gv [.int i,.str x]).showable=true/\(Gv [.int i,.str x]).shown.length<=1000:=by
 unfold okW at h;split at h
 ·rename_i i x;simp only[Ai,Hg,beq_iff_eq]at h;obtain⟨⟨k,hk,rfl⟩,hx⟩:=h;have z:=Dl.mp (Dl.mp Jtj k hk) x (by simpa using hx);simp only[Ai,decide_eq_true_eq]at z;exact⟨_,_,rfl,z.1,z.2⟩
 ·cases h
section
variable {X:Cx} {pins:List (Addr×D9)} {ea:Addr} {oe:D9} {Ca:Addr} {C:Pr} {c:Ck}
def Jpb(g:Gd X C c)(h:isVar c n e=true):PE (X.hand pins ea oe) e (L2.Wag n):=by
 cases e<;>try (exact fx9 h)
 simp only[isVar,Ai,beq_iff_eq]at h;exact Jqp (X:=X.hand pins ea oe) (by show X.N[n]? =_;rw[g.N];exact h.1.1) (g.vis h.1.2) (Wz h.2) (Wbe h.2)
def Jun:C9 (Ac "ValueError")=some (.type "ValueError"):=by kernel_rfl
theorem Jlx(g:Gd X C c)(hoe:oe.cls=.ref Ca)(x:Wx X.K Ca)(hcl:(G5 X.K Ca).isSome=true):∀(ts:List (String×Bool)) (es:List Expr),X6 c n ts es=true->(∀t∈ts,IsC X.K X.mg Ca t.1 t.2)->
  PA (X.hand pins ea oe) es (λU H Q=>U[n]? =some (some (.ref ea))/\Q (ts.map λt=>.bl t.2) H)
 |[],[],_,_=>λpos pins' s U H Q I q=>Jc2 pos pins' s U H Q I q.2
 |[],e::es,h,_=>fx9 h
 |t::ts,[],h,_=>fx9 h
 |t::ts,e::es,h,ht=>by
  obtain⟨h1,h8⟩:=Kt.mp (show(_&&X6 c n ts es)=true from h);obtain⟨⟨⟨e0,y⟩,p1,p2,p3,rfl⟩,h⟩:=aO h1;simp only[Ai,beq_iff_eq]at h;obtain⟨⟨⟨⟨⟨hv,rfl⟩,h2⟩,h3⟩,h4⟩,h5⟩:=h;have one:∀(v:V) (u:Value),(∀u',RelV v u'->u'=u)->Hw X.K (.ref Ca) u=some t.2->PE (X.hand pins ea oe) (.Name (Ac t.1) p2) (L2.tC v)->PE (X.hand pins ea oe) (.Call (.Name "isinstance" p1) [e0,.Name (Ac t.1) p2] [] p3) (λU H Q=>U[n]? =some (some (.ref ea))/\Q (.bl t.2) H):=λv u rv hk pn=>
   PE.imp (Jf3 (r:=λxs H Q=>xs=[.ref ea,v]/\Q (.bl t.2) H) (λpins' s U H xs us Q I r ⟨e1,q⟩=>by
    subst e1;obtain⟨u1,w,rfl,ru,rw'⟩:=vals2 r;cases(show u1=.ref ea from ru);cases rv w rw';exact Jo1 x hcl I.kIn ⟨oe,(I.pin (ea,oe) (by simp)).1,hoe⟩ hk λtk=>⟨.bl t.2,H,I.tok _,rfl,q⟩) (show Gl (X.hand pins ea oe) _ from g.glo h2) (g.top.blt _ (Jag h3)) (by kernel_rfl) (Ja8 (Jpb g hv) (Ja8 pn Jc2 rfl) (Jae λx p z=>by subst z;cases hv)) (by decide+kernel) (by decide+kernel) (Jae λx p z=>by subst z;cases hv) rfl) λU H Q q=>⟨_,q.1,rfl,q.2⟩
  refine PA.imp (Ja8 (te:=λU H Q=>U[n]? =some (some (.ref ea))/\Q (.bl t.2) H) ?_ (Jlx g hoe x hcl ts es h8 λt z=>ht t (Ax _ z)) rfl) λU H Q q=>⟨q.1,q.1,q.2⟩
  rcases ht t Bh with⟨Ct,m1,k1⟩|⟨e1,m1,k1⟩
  ·exact one (.ref Ct) (.ref Ct) (λu z=>z) k1 (Jio (X:=X.hand pins ea oe) (g.glo h4) m1 rfl (Wz h5))
  ·rw[e1]at m1 h4 h5 one ⊢;exact one (.ty "ValueError") (.type "ValueError") (λu z=>z) k1 (Jls (X:=X.hand pins ea oe) (g.glo h4) m1 Jun rfl (by decide+kernel) (Wz h5))
end
theorem RelDs.bools:∀ts:List (String×Bool),RelDs K ρ H (ts.map λt=>.bl t.2) (ts.map λt=>V.bl t.2)
 |[]=>RelDs.nil
 |b::bs=>RelDs.cons (RelD.bl b.2) (RelDs.bools bs)
def RelE.caught{Z:En}{U:L2.St}(r:RelE K ρ H Z U)(q:RelD K ρ H d v)(hnj:n≠j):RelE K ρ H ((Z.set n none).set j (some d)) (((U.set n (some w)).set j (some v)).set n none):=by
 have hl:=r.len;refine⟨by simpa using hl,λi e h=>?_⟩
 by_cases hi:i=j
 ·subst hi;rw[Mf]at h;rw[Ao hnj,Mf];simp only[if_true,Dt]at h ⊢;split at h
  ·rename_i hlt;have h:d=e:=by simpa using h
   subst h;rw[if_pos (by rw[<-hl];exact hlt)];exact⟨v,rfl,q⟩
  ·cases h
 ·rw[Ao (Df hi)]at h
  by_cases hn:i=n
  ·subst hn;rw[Mf]at h;simp only[if_true]at h;split at h<;>cases h
  ·rw[Ao (Df hn)]at h;rw[Ao (Df hn),Ao (Df hi),Ao (Df hn)];exact r.at' i e h
def Gd.nox{X:Cx}{E:Value->Shared->Prop}(g:Gd X C c):Gd (X.wish E).nox C c:=⟨g.N,g.nd,g.names,g.sk,g.fn,g.calm,rfl,λz=>⟨(g.bd z).stk,(g.bd z).fr,(g.bd z).ex⟩,g.top⟩
def PA.nox{X:Cx}(h:PA X.nox es t):PA X es t:=λpos pins s U H Q I hw=>
 Bo (h pos pins s U H Q (I.wish _) hw) (λ_ _ ⟨v,H',I',r,q⟩=>⟨v,H',I'.unwish,r,q⟩) λ_ _ z=>Co z
def Jro(ha:Snd C as):SS C (.tri f g cl n j ts as):=by
 intro X c x gd h;obtain⟨⟨q,rfl⟩,h⟩:=aO h;simp only[Ai,beq_iff_eq]at h;obtain⟨⟨⟨⟨⟨⟨⟨⟨⟨⟨⟨⟨⟨⟨h1,h2⟩,h3⟩,h4⟩,h5⟩,h6⟩,h7⟩,h8⟩,h9⟩,h10⟩,h11⟩,h12⟩,h13⟩,h14⟩,h15⟩:=h;intro pins s U H D I hq_;obtain⟨ρ,S,Z,fl,S',rs,re,e,fin⟩:=hq_;obtain⟨ds,S1,e1,e⟩:=Res.bind_eq_ok e;obtain⟨d,S2,e2,e⟩:=Res.bind_eq_ok e;refine Jve λLK hLK=>?_
 by_cases hd:d=.non
 ·subst hd;obtain⟨y,S3,e3,e⟩:=Res.bind_eq_ok e;cases e;have hc:Vi (.call f as) c q.cl=true:=by
   show(Ac f==q.f&&c.gl q.f&&dbg q.f&&c.F.contains f&&Vz as c (q.e::q.es))=true;simp[h1,h2,h3,h5,Jag h4]
  exact Bo ((Jin (Jll (Jjb ha X c _ gd hc).1 rfl)) pins s U H D I ⟨ρ,S,Z,y,S',rs,re,Res.bnd e1 e3,λρ1 v1 H1 f1 r1 q1=>fin ρ1 U H1 f1 r1 (re.fut f1)⟩) (λ_ _ z=>z) λ_ _ z=>by rw[gd.xe]at z;exact z.elim
 ·have e':(if okW d&&decide (n<Z.length)&&decide (j<Z.length)&&n !=j&&decide (ts.length<Line)then(.ok (.nx ((Z.set n none).set j (some (.loc S2.length)))) (S2++[.lst (ts.map λt=>.bl t.2)]):Res Fl)else .bad)=.ok fl S':=by
   cases d<;>first|exact absurd rfl hd|exact e
  split at e'<;>try (exact absurd e' Jab)
  rename_i hc;cases e';simp only[Ai,decide_eq_true_eq,bne_iff_ne]at hc;obtain⟨⟨⟨⟨c0,c1⟩,c2⟩,c3⟩,c4⟩:=hc;obtain⟨k,hr,a,fd,ps,Ca,hm,F,hb,hk,xc⟩:=gd.top.exs f g cl ts (by simpa using h15);obtain⟨Cc,hmC,hex⟩:=xc.ca;have bX:=gd.bd h13;obtain⟨o1,o2⟩:=gd.own h12;have st:(∀x p,q.e≠ .Starred x p)/\(Bs q.es X.env).any (·.1)=false:=by
   obtain⟨a0,b0,rfl⟩:=Jbm h5;exact⟨noStar (aB h5).1,V8 (aB h5).2⟩
  refine N4 (thn (wpAny_Expr_any (thn (Jya (X:=X.wish LK) (Q:=λ_ _=>False) (E:=λCv _ H'=>Cv=.ref Ca/\∃ρ',Fut X.K ρ H ρ' H'/\RelS X.K ρ' S2 H') F hr (gd.glo h2) (by rw[<-h1];exact hm) hk hb
   (PA.nox (ha.a _ c _ gd.nox h5)) (Wz h3) (Jae st.1) (by rw[Ja5];exact st.2) (λH1 s1 e s' I1 cx=>?_) (I.wish _) ⟨ρ,S,Z,ds,S1,rs,re,e1,λρ1 vs H1 f1 r1 q1=>⟨ρ1,S1,ds,d,S2,r1,q1,e2,c0,λρ2 H2 f2 r2=>⟨rfl,ρ2,f1.trans f2,r2⟩⟩⟩)
    λv s1 ⟨_,_,_,_,z⟩=>z.elim) I.quiet rfl) λfl s1 z=>z)
  obtain⟨ea,C',a0,B,H',rfl,⟨hC,ρ',fu,r1⟩,f⟩:=CX1.fly I1.unwish cx;cases hC;refine hLK _ _ (f.catch (th:=λD U H=>U[n]? =some (some (.ref ea))/\∀l,H l=none->D.nx (U.set j (some (.ref l))) (upd H l (.lst (ts.map λt=>V.bl t.2)))) bX gd.nd (by rw[gd.N];exact h9) (by rw[gd.names];exact h10) (gd.glo h7) (by rw[<-h6];exact hmC) (Wz h8) hex (λoe hoe=>Jin ?_) ⟨?_,λl hl'=>?_⟩)
  ·refine PS.imp (Jql (Jqr (Jlx gd hoe xc.ec xc.cs ts q.is h14 xc.it)) (Jlo (X:=X.hand pins ea oe) gd.nd (by show X.N[j]? =_;rw[gd.N];exact h11) o1 o2) rfl rfl rfl) λD U H q=>⟨q.1,?_,q.2⟩
   rw[Ah,<-Ja9];exact D6 c4
  ·rw[B5 (by rw[<-re.len];exact c1)]
  ·refine fin (ρ'++[l]) _ _ (fu.trans (Ja1 hl' [l])) ?_ (((re.fut fu).fut (Ja1 hl' [l])).caught ?_ c3)
   ·exact r1.alloc hl' (RelDs.bools ts)
   ·simp only[RelD];exact⟨l,rfl,by rw[<-r1.len,Az (Aj _),El];rfl⟩
noncomputable def kd:M->Nat
 |.nul=>0|.cns _ _=>0
 |.rng _=>2|.enm _=>2|.zp _ _=>2
 |.tvar _=>3|.ttup _=>3|.tsub _ _=>3
 |.asg _ _=>4|.aug _ _=>4|.ifs _ _ _=>4|.forr _ _ _=>4|.ret _=>4|.exp _=>4|.rse _ _=>4|.sfd _ _ _ _=>4|.tri _ _ _ _ _ _ _=>4
 |_=>1
def Ya(h:Vi m c x=true):kd m=1:=by
 cases m<;>first|rfl|(exact fx9 h)
def Z3(h:Vz m c x=true):kd m=0:=by
 cases m<;>first|rfl|(exact fx9 h)
def Wcf(h:Y0 m c x=true):kd m=0:=by
 cases m<;>first|rfl|(exact fx9 h)
def Wch(h:Zd m c x=true):kd m=0:=by
 cases m<;>first|rfl|(exact fx9 h)
def Wcg(h:Xb m c x=true):kd m=0\/kd m=2:=by
 cases m<;>first|exact .inl rfl|exact .inr rfl|(exact fx9 h)|(cases x<;>exact fx9 h)
def Z2(h:Xc m c x=true):kd m=3:=by
 cases m<;>first|rfl|(exact fx9 h)|(cases x<;>exact fx9 h)
def Jzi(h:Ww m c x=true):kd m=0:=by
 cases m<;>first|rfl|(exact fx9 h)
def Z1(h:Waa m c x=true):kd m=4:=by
 cases m<;>first|rfl|(exact fx9 h)|(cases x<;>exact fx9 h)
def Wci(h:Wn m c x=true):kd m=0:=by
 cases m<;>first|rfl|(exact fx9 h)
section
variable {C:Pr}
def Snd.of(h0:kd m≠0)(hE:kd m=1->SE C m/\∀(X:Cx) (c:Ck) (x:Expr),Gd X C c->Vi m c x=true->PT X x (tT X.K C m))(hI:kd m=2->∀(X:Cx) (c:Ck) (tg x:Expr),Gd X C c->Xb m c x=true->itT m tg=true->PI X tg x (tI X.K C m)/\∀v,C4 x X.env v=pure v)(hG:kd m=3->SG C m)(hS:kd m=4->SS C m):Snd C m where
 e X c x g h:=(hE (Ya h)).1 X c x g h
 t X c x g h:=(hE (Ya h)).2 X c x g h
 a X c x g h:=absurd (Z3 h) h0
 bv X c w x p g h:=absurd (Z3 h) h0
 bt X c w x p g h:=absurd (Z3 h) h0
 o X c x g h:=absurd (Wcf h) h0
 cd X c x g h:=absurd (Wch h) h0
 i X c tg x g h:=(Wcg h).elim (λz=>absurd z h0) λz=>hI z X c tg x g h
 g X c x g h:=hG (Z2 h) X c x g h
 gs X c x g h:=absurd (Jzi h) h0
 s X c x g h:=hS (Z1 h) X c x g h
 b X c x g h:=absurd (Wci h) h0
def nk{p:Prop}(hk:kd m=i)(h:i≠j:=by decide)(z:kd m=j):p:=absurd (hk.symm.trans z) h
def Snd.ofE(hk:kd m=1)(he:SE C m)(ht:∀(X:Cx) (c:Ck) (x:Expr),Gd X C c->Vi m c x=true->PT X x (tT X.K C m)):Snd C m:=.of (nk hk) (λ_=>⟨he,ht⟩) (nk hk) (nk hk) (nk hk)
def Snd.ofX(hk:kd m=1)(h:ST C m):Snd C m:=.ofE hk (λX c x g k=>(h X c x g k).1) λX c x g k=>(h X c x g k).2
def Snd.ofN(hk:kd m=1)(ht:∀Z S,evT C m Z S=.bad)(he:SE C m):Snd C m:=.ofE hk he λX c x _ _=>Jy3 (Jyv ht)
def Snd.ofI(hk:kd m=2)(hi:∀(X:Cx) (c:Ck) (tg x:Expr),Gd X C c->Xb m c x=true->itT m tg=true->PI X tg x (tI X.K C m)/\∀v,C4 x X.env v=pure v):Snd C m:=.of (nk hk) (nk hk) (λ_=>hi) (nk hk) (nk hk)
def Snd.ofG(hk:kd m=3)(hg:SG C m):Snd C m:=.of (nk hk) (nk hk) (nk hk) (λ_=>hg) (nk hk)
def Snd.ofS(hk:kd m=4)(hs:SS C m):Snd C m:=.of (nk hk) (nk hk) (nk hk) (nk hk) λ_=>hs
def Jk3:Snd C .nul where
 e:=λX c x g h=>absurd (Ya h) (by decide)
 t:=λX c x g h=>absurd (Ya h) (by decide)
 a:=λX c x g h=>by
  cases x with
  |cons e es=>exact fx9 h
  |nil=>
   refine PA.imp Jc2 λU H Q hq_=>?_;obtain⟨ρ,S,Z,ds,S',rs,re,e,fin⟩:=hq_;cases e;exact fin ρ [] H Fut.refl rs RelDs.nil
 bv:=λX c w x p g h=>Js9 λU H Q ⟨ρ,S,Z,ds,S',rs,re,e,fin⟩=>absurd e Jab
 bt:=λX c w x p g h=>λwh pins s U H Q I ⟨ρ,S,Z,ds,S',rs,re,e,fin⟩=>absurd e Jab
 o:=λX c x g h=>by
  cases x with
  |some e=>exact fx9 h
  |none=>
   refine PO.imp Js1 λU H Q hq_=>?_;obtain⟨ρ,S,Z,ds,S',rs,re,e,fin⟩:=hq_;cases e;exact fin ρ H Fut.refl rs
 cd:=λX c x g h=>by
  cases x with
  |cons e es=>exact fx9 h
  |nil=>
   refine PTs.imp Jsu λU H Q hq_=>?_;obtain⟨ρ,S,Z,ds,S',rs,re,e,fin⟩:=hq_;cases e;exact fin ρ H Fut.refl rs
 i:=λX c tg x g h _=>by cases h
 g:=λX c x g h=>absurd (Z2 h) (by decide)
 gs:=Jj1
 s:=λX c x g h=>absurd (Z1 h) (by decide)
 b:=Jlb
def Jsa(ha:Snd C a)(hb:Snd C b):Snd C (.cns a b)where
 e:=λX c x g h=>absurd (show 0=1 from Ya h) (by decide)
 t:=λX c x g h=>absurd (show 0=1 from Ya h) (by decide)
 a:=λX c x g h=>by
  cases x with
  |nil=>exact fx9 h
  |cons e es=>
   replace h:=aB h
   refine PA.imp (Ja8 (ha.e X c e g h.1) (hb.a X c es g h.2) (Jae (noStar h.1))) λU H Q hq_=>?_;obtain⟨ρ,S,Z,ds,S',rs,re,e,fin⟩:=hq_;obtain⟨x1,S1,e1,e⟩:=Res.bind_eq_ok e;obtain⟨xs,S2,e2,e⟩:=Res.bind_eq_ok e;cases e;refine⟨ρ,S,Z,x1,S1,rs,re,e1,λρ1 v1 H1 f1 r1 q1=>⟨ρ1,S1,Z,xs,S',r1,re.fut f1,e2,λρ2 vs H2 f2 r2 q2=>?_⟩⟩;exact fin ρ2 _ H2 (f1.trans f2) r2 (RelDs.cons (q1.fut f2) q2)
 bv:=Jvi ha hb
 bt:=Jvj ha hb
 o:=λX c x g h=>by
  obtain⟨e,rfl,rfl⟩:=Jx6 h
  ·refine PO.imp (Js0 (ha.e X c e g h)) λU H Q hq_=>?_;obtain⟨ρ,S,Z,o,S',rs,re,e,fin⟩:=hq_;obtain⟨x1,S1,e1,e⟩:=Res.bind_eq_ok e;refine⟨ρ,S,Z,x1,S1,rs,re,e1,λρ1 v1 H1 f1 r1 q1=>?_⟩;cases x1<;>simp only at e<;>try (cases e;done)
   cases e;exact⟨_,q1.int_inv,fin ρ1 H1 f1 r1⟩
 cd:=λX c x g h=>by
  obtain⟨e,rfl,rfl⟩:=Jx9 h;refine PTs.imp (Jst (ha.t X c e g h)) λU H Q hq_=>?_;obtain⟨ρ,S,Z,o,S',rs,re,e,fin⟩:=hq_;exact⟨ρ,S,Z,o,S',rs,re,e,fin⟩
 i:=λX c tg x g h _=>by
  obtain rfl:=Jx7 h;exact⟨Jk5 ha X c tg x g h,Wp (Zn h)⟩
 g:=λX c x g h=>absurd (show 0=3 from Z2 h) (by decide)
 gs:=Jj2 ha hb
 s:=λX c x g h=>absurd (show 0=4 from Z1 h) (by decide)
 b:=Jlc ha hb
theorem snd(C:Pr):∀m:M,Snd C m/\SC C m:=by
 intro m
 induction m with
 |nul=>exact⟨Jk3,trivial⟩
 |cns a b ha hb=>exact⟨Jsa ha.1 hb.1,trivial⟩
 |cst d=>exact⟨.ofN rfl (λ_ _=>rfl) Jr9,trivial⟩
 |var i=>exact⟨.ofX rfl (Jrm),trivial⟩
 |glb x=>exact⟨.ofN rfl (λ_ _=>rfl) Jr4,trivial⟩
 |bin o a b ha hb=>exact⟨.ofN rfl (λ_ _=>rfl) (Jsd ha.1 hb.1),trivial⟩
 |neg a ha=>exact⟨.ofN rfl (λ_ _=>rfl) (Jrv ha.1),trivial⟩
 |bit a ha=>exact⟨.ofN rfl (λ_ _=>rfl) (Jsc ha.1),trivial⟩
 |nott a ha=>exact⟨.ofX rfl (Jrt ha.1),trivial⟩
 |bo w as ha=>exact⟨.ofX rfl (Jvk ha.1),trivial⟩
 |cmp o a b ha hb=>exact⟨.ofX rfl (Jsb ha.1 hb.1),trivial⟩
 |cmp2 o p a b d ha hb hd=>exact⟨.ofX rfl (Jnw ha.1 hb.1 hd.1),trivial⟩
 |ife t a b ht ha hb=>exact⟨.ofN rfl (λ_ _=>rfl) (Jr1 ht.1 ha.1 hb.1),trivial⟩
 |tup as ha=>exact⟨.ofN rfl (λ_ _=>rfl) (Jrn ha.1),trivial⟩
 |lst as ha=>exact⟨.ofN rfl (λ_ _=>rfl) (Jrx ha.1),trivial⟩
 |idx a b ha hb=>exact⟨.ofX rfl (Jr2 ha.1 hb.1),trivial⟩
 |sli a l u ha hl hu=>exact⟨.ofN rfl (λ_ _=>rfl) (Jrp ha.1 hl.1 hu.1),trivial⟩
 |call f as ha=>exact⟨.ofX rfl (Jjb ha.1),trivial⟩
 |prim p as ha=>exact⟨.ofX rfl (Jns ha.1),trivial⟩
 |isi a t ha=>exact⟨.ofX rfl (Jrz ha.1),trivial⟩
 |meth p o as ho ha=>exact⟨.ofN rfl (λ_ _=>rfl) (Jnt ho.1 ha.1),trivial⟩
 |dcm b N keep tg a el hg ha he=>exact⟨.ofN rfl (λ_ _=>rfl) (Jr8 Jk3 hg.1 ha.1 he.1),trivial⟩
 |comp N k keep tg it cd el hg hi hc he=>exact⟨.ofN rfl (λ_ _=>rfl) (Jnv hg.1 hi.1 hc.1 he.1),hg.1,hi.1,hc.1,he.1⟩
 |rng a ha=>exact⟨.ofI rfl λX c tg x g h _=>⟨Jk6 ha.1 X c tg x g h,Wp λa b p z=>by subst z;cases h⟩,trivial⟩
 |enm a ha=>exact⟨.ofI rfl λX c tg x g h ht=>⟨Jk7 ha.1 X c tg x g h ht,Wp λa b p z=>by subst z;cases h⟩,trivial⟩
 |zp a b ha hb=>exact⟨.ofI rfl λX c tg x g h ht=>⟨Jk4 ha.1 hb.1 X c tg x g h ht,Wp λa b p z=>by subst z;cases h⟩,trivial⟩
 |dnil k=>exact⟨.ofN rfl (λ_ _=>rfl) Jnu,trivial⟩
 |hld a ha=>exact⟨.ofN rfl (λ_ _=>rfl) (Jr3 ha.1),trivial⟩
 |lsp a ha=>exact⟨.ofN rfl (λ_ _=>rfl) (Jry ha.1),trivial⟩
 |aug i e he=>exact⟨.ofS rfl (Jse he.1),trivial⟩
 |fld c f a ha=>exact⟨.ofN rfl (λ_ _=>rfl) (Jr6 ha.1),trivial⟩
 |mcl c m f o as ho ha=>exact⟨.ofX rfl (Jrw ho.1 ha.1),trivial⟩
 |new c f=>exact⟨.ofN rfl (λ_ _=>rfl) Jru,trivial⟩
 |tri f g cl n j ts as ha=>exact⟨.ofS rfl (Jro ha.1),trivial⟩
 |rse cl a ha=>exact⟨.ofS rfl Jrr,trivial⟩
 |sfd c f o v ho hv=>exact⟨.ofS rfl (Jrq ho.1 hv.1),trivial⟩
 |tvar i=>exact⟨.ofG rfl Jk8,trivial⟩
 |ttup ts ha=>exact⟨.ofG rfl (Jk9 ha.1),trivial⟩
 |tsub a b ha hb=>exact⟨.ofG rfl (Jla ha.1 hb.1),trivial⟩
 |asg t e ht he=>exact⟨.ofS rfl (Jsf ht.1 he.1 he.2),trivial⟩
 |ifs t a b ht ha hb=>exact⟨.ofS rfl (Jr0 ht.1 ha.1 hb.1),trivial⟩
 |forr t i b ht hi hb=>exact⟨.ofS rfl (Jr5 ht.1 hi.1 hb.1),trivial⟩
 |ret a ha=>exact⟨.ofS rfl (Jrs ha.1),trivial⟩
 |exp a ha=>exact⟨.ofS rfl (Jr7 ha.1),trivial⟩
end
def Cn(T:Tb)(G:String->Option D)(W n:Nat):Pr:=⟨callN T G W n,G,W⟩
def nN(f:Fn)(s:Stmt):List Str:=f.N.map λi=>(((defScope s).names.filter λx=>x.2== .local||x.2== .cell).map (·.1)).getD i ""
structure FnB(K:Af)(T:Tb)(B F:List String)(O:Ow)(f:String)(a:Addr)(fd:FuncData):Prop where
 ex:∃(FN:Fn) (st:Stmt) (nm ql:Str),T f=some FN/\Fun K nm ql st a fd/\FnScope (nN FN st) (FN.ps.map Ac) (defScope st)/\
  Wn FN.body ⟨nN FN st,(defScope st).names,true,B,F,O⟩ (Vk st)=true/\∀us:List Value,us.length=(FN.ps.map Ac).length->Pz fd ⟨us,[]⟩=pure ((FN.ps.map Ac).zip us)
inductive XB (K:Af) (mg:Str->Option Value) (T:Tb) (B F:List String) (O:Ow) (f g cl:String) (ts:List (String×Bool)):Prop
 |mk (a:Addr) (fd:FuncData) (FN:Fn) (st nm ql s1 v cn r Ca) (_:Fun K nm ql st a fd) (_:FnScope (nN FN st) (FN.ps.map Ac) (defScope st)) (_:T f=some FN) (_:FN.body=.cns (.asg (.tvar v) s1) (.cns (.ifs (.cmp .isnc (.var v) (.cst .non)) (.cns (.rse cn (.var v)) .nul) .nul) r)) (_:T g=some ⟨FN.ps,FN.N,.cns (.asg (.tvar v) s1) (.cns (.ret (.var v)) .nul)⟩)
  (_:Wn FN.body ⟨nN FN st,(defScope st).names,true,B,F,O⟩ (Vk st)=true) (_:∀us:List Value,us.length=(FN.ps.map Ac).length->Pz fd ⟨us,[]⟩=pure ((FN.ps.map Ac).zip us)) (_:mg (Ac f)=some (.ref a)) (_:mg (Ac cn)=some (.ref Ca)) (_:XO K Ca) (_:XCl K mg Ca cl ts):XB K mg T B F O f g cl ts
structure Txt(K:Af)(mg:Str->Option Value)(T:Tb)(G:String->Option D)(B F:List String)(O:Ow):Prop where
 fns:∀f∈F,∃a fd,FnB K T B F O f a fd/\mg (Ac f)=some (.ref a)
 np:npB K=true
 blt:∀x∈B,mg (Ac x)=none
 gl:∀x d,G x=some d->∃v u,mg (Ac x)=some u/\RelV v u/\(∀ρ H,RelD K ρ H d v)/\∀ds,d=.tup ds->∃a o,v=.ref a/\K.lookup a=some o/\o.cls=.type "tuple"/\o.dict=none
 mts:∀c m f,(c,m,f)∈O.mt->∃a fd Ca,FnB K T B F O f a fd/\Bt K A7 (Ac c)=some (some (.ref Ca))/\L2.Cls K Ca/\L2.Meth K Ca (Ac m) a
 fds:∀c f,(c,f)∈O.fd->∃Ca,Bt K A7 (Ac c)=some (some (.ref Ca))/\L2.Cls K Ca/\L2.V6 K Ca (Ac f)
 nws:∀c f,(c,f)∈O.nw->∃a fd Ca,FnB K T B F O f a fd/\Bt K A7 (Ac c)=some (some (.ref Ca))/\mg (Ac c)=some (.ref Ca)/\L2.Mk K Ca a
 exs:∀f g cl ts,(f,g,cl,ts)∈O.ex->XB K mg T B F O f g cl ts
def PS.nox{X:Cx}(h:PS X.nox st t):PS X st t:=λpins s U H D I hw=>Bo (h pins s U H D (I.wish _) hw) (λ_ _ q=>q.unwish) λ_ _ z=>Co z
inductive RxP (X:Cx) (v:Nat) (Ca:Addr) (U:L2.St) (H:Hp):Prop
 |mk (ρ S Z d) (_:RelS X.K ρ S H) (_:RelE X.K ρ H Z U) (_:Z[v]? =some (some d)) (_:okW d=true) (_:∀ρ' H2,Fut X.K ρ H ρ' H2->RelS X.K ρ' S H2->∀pins s h1 ea us,Inv X pins U H2 s->Kq s.heap h1 ea (.ref Ca) us->X.xe (.ref ea) {s with heap:=h1}):RxP X v Ca U H
def Jsn{X:Cx}(gd:Gd X.nox C c)(h:Wn (.cns s1 (.cns (.ifs (.cmp .isnc (.var v) (.cst .non)) (.cns (.rse cn (.var v)) .nul) .nul) r)) c body=true)(gr:X.A.guards=some [])(hm:X.mg (Ac cn)=some (.ref Ca))(hq:XO X.K Ca):
  PSs X body (λD U H=>tS X.K C s1 {D with nx:=RxP X v Ca} U H):=by
 rcases body with _|⟨st1,_|⟨st2,rest⟩⟩<;>try (exact fx9 h)
 ·exact absurd (aB h).2 Aw
 have h1:=(aB h).1
 replace h:=(aB (aB h).2).1
 cases st2<;>try (exact fx9 h)
 rename_i x y z pos;have h2:=h;have h3:=(aB (aB h2).1).1;have h4:=(aB (aB h2).1).2;rcases y with _|⟨ry,_|⟨r2,y⟩⟩<;>try (exact fx9 h4)
 ·obtain⟨h4,_⟩:=aB h4;obtain⟨⟨q,rfl⟩,h⟩:=aO h4;simp only[Ai,beq_iff_eq,decide_eq_true_eq]at h;obtain⟨⟨⟨⟨e1,h5⟩,h6⟩,h7⟩,h8⟩:=h;have no:∀l,PSs X l λ_ _ _=>False:=λ_ _ _ _ _ _ _ z=>z.elim;refine PSs.imp (Jf2 (PS.nox ((snd C s1).1.s _ c _ gd h1)) (Jf2 (Jv5 (PT.nox ((snd C _).1.t _ c _ gd h3)) (Jin (Jn7 (Jy8 (PE.nox ((snd C (.var v)).1.e _ c _ gd h8)) gr gd.top.un h7) (gd.glo h5) (by rw[<-e1];exact hm) hq gd.calm (Wz h6))) (no z)) (no rest))) λD U H ⟨ρ,S,Z,fl,S',rs,re,e,fin⟩=>⟨ρ,S,Z,fl,S',rs,re,e,?_⟩
  cases fl with
  |rt d=>exact fin
  |nx τ1=>
   intro ρ1 σ1 H1 f1 r1 q1;obtain⟨ρ,S,Z,d,rs,re,hv,ok,k⟩:=fin ρ1 σ1 H1 f1 r1 q1;obtain⟨i,x,rfl,hs,hl⟩:=Jwq ok;have ev:evE C (.var v) Z S=.ok (.tup [.int i,.str x]) S:=by show(match Z[v]? with|some (some d)=>Res.ok d S|_=>.bad)=_;rw[hv]
   refine⟨ρ,S,Z,true,S,rs,re,Res.bnd ev rfl,λρ2 H2 f2 r2=>?_⟩;rw[if_pos rfl];refine⟨ρ2,S,Z,_,S,r2,re.fut f2,ev,λρ3 v3 H3 f3 r3 q3=>?_⟩;obtain⟨p,vs,rfl,sq,dv⟩:=(show∃p vs,v3=.ref p/\SqT X.K H3 p vs/\RelDs X.K ρ3 H3 [.int i,.str x] vs from q3)
   obtain⟨_,_,rfl,a1,d1⟩:=dv.inv_cons;obtain⟨_,_,rfl,a2,d2⟩:=d1.inv_cons;cases d2.inv_nil;cases a1.int_inv;cases a2.str_inv;exact⟨p,i,x,rfl,sq,hs,hl,λ_=>⟨show 1<=sizeLine by decide,k ρ3 H3 (f2.trans f3) r3⟩⟩
 ·exact absurd (aB h4).2 Aw
section
variable {P:Program} {w:World} {K:Af} {mg:Str->Option Value} {base:Heap} {T:Tb} {G:String->Option D} {B F:List String} {O:Ow}
def RelE.start{ds:List D}{N:List Str}(r:RelDs K ρ H ds vs)(hk:k=N.length-ds.length):RelE K ρ H (ds.map some++Eo k none) (L2.start N vs):=by
 unfold L2.start;rw[<-r.length,<-hk];refine⟨by simp[r.length],λi d h=>?_⟩
 by_cases hi:i<ds.length
 ·rw[A0 (by simpa using hi),Ap]at h;rw[A0 (by rw[Ah,<-r.length];exact hi),Ap];cases e:ds[i]? with
  |none=>rw[e]at h;cases h
  |some d'=>
   rw[e]at h;have h:d'=d:=by simpa using h
   subst h;obtain⟨v,hv,q⟩:=r.get e;exact⟨v,by rw[hv];rfl,q⟩
 ·rw[Az (by simpa using hi),Fe]at h;split at h<;>cases h
def Jdc{FN:Fn}{ds:List D}(hT:T f=some FN)(e:(Cn T G W (n+1)).call f ds S=.ok d S'):
  ds.length=FN.ps.length/\∃fl S1,evB (Cn T G W n) FN.body (ds.map some++Eo (FN.N.length-ds.length) none) S=.ok fl S1/\(match fl with|.rt d=>.ok d S1|.nx _=>.ok .non S1)=Res.ok d S':=by
 simp only[Cn,callN]at e;rw[hT]at e;simp only at e;split at e
 ·obtain⟨fl,S1,e1,e⟩:=Res.bind_eq_ok e;exact⟨‹_›,fl,S1,e1,e⟩
 ·cases e
def Jvf(t:Txt K mg T G B F O)(hr:Vq (2*n+1) A)(ih:∀(f:String) (a:Addr) (fd:FuncData),FnB K T B F O f a fd->∀FN,T f=some FN->FnOk P w K mg base CX0 (2*n) a fd (FN.ps.map Ac) (spM K (Cn T G W n) f))
  (ix:∀f g cl ts,(f,g,cl,ts)∈O.ex->XF P w K mg base (Cn T G W n) (2*n) f g cl ts):Tp P w K mg base A (Cn T G W n) B F O:=by
 refine⟨λg hg=>?_,t.blt,t.gl,Es (Aj _) hr.units,t.np,λc m g hg=>?_,t.fds,λc g hg=>?_,λf g cl ts h=>?_⟩
 ·obtain⟨b,fd2,hb,hmg⟩:=t.fns g hg;obtain⟨FN2,st2,nm2,ql2,hT2,FU2,sc2,ck2,bd2⟩:=id hb.ex;exact⟨2*n,b,fd2,_,hr.mono (Jn _),hmg,ih g b fd2 hb FN2 hT2,.all bd2,FU2.kp⟩
 ·obtain⟨b,fd2,Ca,hb,h1,h2,h3⟩:=t.mts c m g hg;obtain⟨FN2,st2,nm2,ql2,hT2,FU2,sc2,ck2,bd2⟩:=id hb.ex;exact⟨2*n,b,fd2,_,Ca,hr,h1,h2,h3,ih g b fd2 hb FN2 hT2,.all bd2⟩
 ·obtain⟨b,fd2,Ca,hb,h1,h2,h3⟩:=t.nws c g hg;obtain⟨FN2,st2,nm2,ql2,hT2,FU2,sc2,ck2,bd2⟩:=id hb.ex;exact⟨2*n,b,fd2,_,Ca,hr,h1,h2,h3,ih g b fd2 hb FN2 hT2,.all bd2⟩
 ·exact⟨2*n,hr.mono (Jn _),ix f g cl ts h⟩
theorem Jzs(t:Txt K mg T G B F O)(W:Nat):∀(n:Nat),(∀(f:String) (a:Addr) (fd:FuncData),FnB K T B F O f a fd->∀FN,T f=some FN->FnOk P w K mg base CX0 (2*n) a fd (FN.ps.map Ac) (spM K (Cn T G W n) f))/\
  (∀f g cl ts,(f,g,cl,ts)∈O.ex->XF P w K mg base (Cn T G W n) (2*n) f g cl ts):=by
 intro n
 induction n with
 |zero=>
  refine⟨λf a fd hf FN hT=>⟨λvs H Q E q_=>by obtain⟨_,_,_,_,_,_,_,e,_⟩:=q_;exact absurd e Jab,λA outer s H args us vs Q E _ _ _ _ q_=>by obtain⟨_,_,_,_,_,_,_,e,_⟩:=q_;exact absurd e Jab⟩,λf g cl ts h=>?_⟩;obtain⟨a,fd,FN,st,nm,ql,s1,v,cn,r,Ca,FU,sc,hf,hb,hg,ck,bd,m1,m2,hq,xc⟩:=t.exs f g cl ts h;exact⟨a,fd,_,Ca,m1,⟨λvs H Q E q_=>by obtain⟨_,_,_,_,_,_,_,e,_⟩:=q_;exact absurd e Jab,λA outer s H args us vs Q E _ _ _ _ q_=>by obtain⟨_,_,_,_,_,_,_,e,_⟩:=q_;exact absurd e Jab⟩,.all bd,FU.kp,xc⟩
 |succ n ih=>
  refine⟨λf a fd hf FN hT=>?_,λf g cl ts h=>?_⟩
  ·obtain⟨FN',st,nm,ql,hT',FU,sc,ck,bd⟩:=hf.ex;rw[hT]at hT';cases hT';show FnOk P w K mg base CX0 (2*n+1+1) a fd _ _;refine FU.ok sc (λvs H Q E q_=>?_) (λcdv A outer s H vs Q E hr q_=>?_)<;>obtain⟨ρ,S,ds,d,S',rs,rd,e,fin⟩:=q_
   ·rw[<-rd.length,(Jdc hT e).1,Ah]
   ·refine⟨_,((snd (Cn T G W n) FN.body).1.b _ ⟨nN FN st,(defScope st).names,true,B,F,O⟩ _ ⟨rfl,sc.nd,rfl,sc.kind,λ_=>rfl,rfl,rfl,λ_=>⟨rfl,rfl,rfl⟩,Jvf t hr ih.1 ih.2⟩ ck),?_⟩;obtain⟨_,fl,S1,e1,e⟩:=Jdc hT e;refine⟨ρ,S,_,fl,S1,rs,RelE.start rd (by rw[nN,Ah]),e1,?_⟩;cases fl with
    |nx Z=>cases e;exact λρ1 σ1 H1 f1 r1 q1=>fin ρ1 _ H1 f1 r1 RelD.non
    |rt d=>cases e;exact fin
  ·obtain⟨a,fd,FN,st,nm,ql,s1,v,cn,r,Ca,FU,sc,hf,hb,hg,ck,bd,m1,m2,hq,xc⟩:=t.exs f g cl ts h;refine⟨a,fd,_,Ca,m1,?_,.all bd,FU.kp,xc⟩;show FnOk P w K mg base (CX1 P w) (2*n+1+1) a fd _ _;refine Fun.okX FU sc (λvs H Q E q_=>?_) (λcdv A outer s H vs Q E hr q_=>?_)<;>obtain⟨ρ,S,ds,d,S',rs,rd,e,ok,fin⟩:=q_
   ·rw[<-rd.length,(Jdc hg e).1,Ah]
   ·rw[hb]at ck;refine⟨_,Jsn (C:=Cn T G W n) (c:=⟨nN FN st,(defScope st).names,true,B,F,O⟩) ⟨rfl,sc.nd,rfl,sc.kind,λ_=>rfl,rfl,rfl,λ_=>⟨rfl,rfl,rfl⟩,Jvf t hr ih.1 ih.2⟩ ck hr.gd m2 hq,?_⟩;obtain⟨_,fl,S1,e1,e⟩:=Jdc hg e;obtain⟨fl1,S2,e2,e1⟩:=Res.bind_eq_ok e1;refine⟨ρ,S,_,fl1,S2,rs,RelE.start rd (by rw[nN,Ah]),e2,?_⟩;obtain⟨_,_,_,e3⟩:=Res.bind_eq_ok e2;obtain⟨τ1,_,_,e3⟩:=Res.bind_eq_ok e3;cases e3;obtain⟨_,_,e4,e1⟩:=Res.bind_eq_ok e1;obtain⟨d1,_,e5,e4⟩:=Res.bind_eq_ok e4;cases e4;cases e1;cases e;have hv:τ1[v]? =some (some d)/\S2=S':=by
     replace e5:(match τ1[v]? with|some (some d)=>Res.ok d S2|_=>.bad)=.ok d S':=e5
     split at e5
     ·cases e5;exact⟨‹_›,rfl⟩
     ·cases e5
    obtain⟨hv,rfl⟩:=hv;exact λρ1 σ1 H1 f1 r1 q1=>⟨ρ1,S2,τ1,d,r1,q1,hv,ok,λρ2 H2 f2 r2 pins s' h1 ea us I me=>Jkc ⟨rfl,rfl,rfl⟩ I me (fin ρ2 H2 (f1.trans f2) r2)⟩
def Jw1{G:String->Option D}(h:∀ns:List Int,ns.length<=63->∃S',callN T G W n "law" [.kl (ns.map D.int)] []=.ok (.bl true) S')(H:Hp)(a:Addr)(ns:List Int)(hl:ns.length<=63)(hO:Zh H)(hS:SqL K H a (ns.map V.int))(E:XK):
  spM K (Cn T G W n) "law" [.ref a] H (λv _=>v=.bl true) E:=by
 obtain⟨S',e⟩:=h ns hl;have allI:∀(ns:List Int),RelDs K [] H (ns.map D.int) (ns.map V.int):=by
  intro ns
  induction ns with
  |nil=>exact RelDs.nil
  |cons i r ih=>exact RelDs.cons (RelD.int i) ih
 have sf:SqF K H a (ns.map V.int):=by
  rcases hS with(h|h)|h
  ·rcases hO a with z|⟨o,xs,z⟩
   ·rw[h]at z;cases z
   ·rw[h]at z;cases z
  ·exact .inl h
  ·exact .inr h
 refine⟨[],[],[.kl (ns.map D.int)],.bl true,S',⟨rfl,Ii,λl b o h=>by simp at h⟩,RelDs.cons ?_ RelDs.nil,e,λρ' v H' _ _ q=>q.bl_inv⟩;simp only[RelD];exact⟨a,_,rfl,sf,allI ns⟩
end
def walk{l:Ji}{XP:(Str->Option Value)->Heap->Prop}{YP:World->Heap->Prop}{d:Ur}{K:Hj->Af}{G:String->Option D}(hn:l.most=some 63)(hdf:d.params.defaults=[])
  (hY:∀(w:World) (h:Heap),YP w h->(K w.params).In h)(hr:Vq (2*n) L9)(hd:d.name=Ac "law")(hlaw:"law"∈F)(hT:∃FN,T "law"=some FN/\FN.ps=[x])
  (X:∀(w:World) (mg:Str->Option Value) (h:Heap),(K w.params).In h->h.Ns A7 mg->Txt (K w.params) mg T G B F O)
  (run:∀ns:List Int,ns.length<=63->∃S',callN T G W n "law" [.kl (ns.map D.int)] []=.ok (.bl true) S'):
  Mv q loose XP YP l.row.toRowW d [] (λf vs=>Nh f vs):=by
 refine L2.Jrj (n:=63) (k:=2*n) (x:=Ac x) (CX:=λ_=>CX0) (sp:=λw=>spM (K w.params) (Cn T G W n) "law") hn (by decide) hdf hr hY (λw mg fa h KX hns hmg=>?_) (λw H a ns hl hO hS=>Jw1 run H a ns hl hO hS _) λ_ _ _ _ _ z=>z;have t:=X w mg h KX hns;obtain⟨a,fd,hf,hlm⟩:=t.fns "law" hlaw;obtain⟨FN,hT,hps⟩:=hT;obtain⟨FN',st,nm,ql,hT',FU,sc,ck,bd⟩:=id hf.ex;rw[hT]at hT';cases hT';rw[hd,hlm]at hmg;cases hmg;refine⟨fd,λs u=>?_,λbase kb nb=>?_⟩
 ·have:=bd [u] (by rw[hps];rfl);rw[hps]at this;exact .of_eq this
 ·have:=(Jzs (P:=l.prog) (w:=w) (base:=base) t W n).1 "law" fa fd hf FN hT;rw[hps]at this;exact this
def holds{l:Ji}{d:Ur}{K:Hj->Af}{as:List Addr}(ok:l.wellSaid=true)(e:∀P,as=(K P).map (·.1))
  (left:PySem.W.LeftO l.prog q loose (λs=>PySem.W.xlAt q [] s&&PySem.W.recOk [] s) (λs=>as.map s.heap.get?) (λw=>(K w.params).map λp=>some p.2) N)
  (hdef:PySem.W.defOf q l.name=some (d,[]))(hp:l.prog.theDef l.name=some (d.params,d.body,d.scope))(hk:PySem.W.kwWritten? d.params.kwonlyargs d.params.kw_defaults=some [])
  (ok2:(PySem.W.chainsOk q&&PySem.W.opensWell l.prog&&(PySem.W.frees l.row.toRowW&&l.row.within.isEmpty))=true)(hb:l.prog.bare)(hw:l.row.toRowW.promised)
  (hc:Mv q loose (Ui q []) (Tc K) l.row.toRowW d [] (λf vs=>Nh f vs)):l.Holds:=
 PySem.W.holds_law ok λsaid=>PySem.W.holds_open (r:=l.row) (XP:=Ui q []) (YP:=Tc K) left (PySem.W.InK.of e) PySem.W.InK.keeps (λs z=>PySem.W.xl_of s (Kt.mp z).1) PySem.W.XL.keeps hdef hp hk
  (λs z=>PySem.W.recFacts_of (Kt.mp z).2) (by cases h:l.writes<;>simp[Uj]) said ok2 hb hw hc
theorem Zz{α:Type}{P:List α->Prop}(h:∀a,P [a]):∀us:List α,us.length=1->P us
 |[a],_=>h a
theorem X9{α:Type}{P:List α->Prop}(h:∀a us,us.length=n->P (a::us)):∀us:List α,us.length=n+1->P us
 |a::us,e=>h a us (Nat.succ.inj e)
def Zy{α:Type}{P:List α->Prop}(h:∀a b,P [a,b]):∀us:List α,us.length=2->P us:=X9 λa=>Zz (h a)
def Zx{α:Type}{P:List α->Prop}(h:∀a b c,P [a,b,c]):∀us:List α,us.length=3->P us:=X9 λa=>Zy (h a)
def Zw{α:Type}{P:List α->Prop}(h:∀a b c d,P [a,b,c,d]):∀us:List α,us.length=4->P us:=X9 λa=>Zx (h a)
def Zv{α:Type}{P:List α->Prop}(h:∀a b c d e,P [a,b,c,d,e]):∀us:List α,us.length=5->P us:=X9 λa=>Zw (h a)
def Wa3{α:Type}{P:List α->Prop}(h:∀a b c d e f g,P [a,b,c,d,e,f,g]):∀us:List α,us.length=7->P us:=X9 λa=>X9 λb=>Zv (h a b)
structure FE(K:Af)(x:Str)(st:Stmt):Prop where
 ex:∃(f:Addr) (oc:Value) (od:Option Addr) (kV doc pm:Value) (an:Option Addr) (cdv ct:Value) (sl:Array (Option Value)),Bt K A7 x=some (some (.ref f))/\
  K.lookup f=some ⟨oc,od,.func (Fh x x (Vr st) (Vk st) (defScope st) .none kV doc pm an cdv ct),sl⟩/\G2 K cdv x=true/\C7 K (.ref f)=true
section
variable {K:Af} {mg:Str->Option Value} {h:Heap} {T:Tb} {G:String->Option D} {B F:List String} {O:Ow}
def Jxo(KX:K.In h)(hG:h.Ns A7 mg){FN:Fn}(e:FE K (Ac f) st)(hT:T f=some FN)(sc:FnScope (nN FN st) (FN.ps.map Ac) (defScope st))
  (ck:Wn FN.body ⟨nN FN st,(defScope st).names,true,B,F,O⟩ (Vk st)=true)
  (bd:∀(kV doc pm:Value) (an:Option Addr) (cdv ct:Value) (us:List Value),us.length=(FN.ps.map Ac).length->Pz (Fh (Ac f) (Ac f) (Vr st) (Vk st) (defScope st) .none kV doc pm an cdv ct) ⟨us,[]⟩=pure ((FN.ps.map Ac).zip us)):
  ∃a fd,FnB K T B F O f a fd/\mg (Ac f)=some (.ref a):=by
 obtain⟨a,oc,od,kV,doc,pm,an,cdv,ct,sl,h1,h2,h3,h4⟩:=e.ex;exact⟨a,_,⟨FN,st,_,_,hT,Jq4 (st:=st) h2 h3 h4,sc,ck,bd kV doc pm an cdv ct⟩,Hv KX hG h1⟩
structure CF(K:Af)(c:Str):Prop where
 ex:∃Ca:Addr,Bt K A7 c=some (some (.ref Ca))/\L2.Cls K Ca
structure NF(K:Af)(c f:Str):Prop where
 ex:∃Ca:Addr,Bt K A7 c=some (some (.ref Ca))/\L2.V6 K Ca f
def Jzf(n:Bt K A7 c=some (some (.ref Ca)))(a:Cf K (.ref Ca) f=some none):NF K c f:=⟨Ca,n,a⟩
structure MF(K:Af)(c m ql:Str)(st:Stmt):Prop where
 ex:∃(Ca f:Addr) (oc:Value) (od:Option Addr) (kV doc pm:Value) (an:Option Addr) (cdv ct:Value) (sl:Array (Option Value)),Bt K A7 c=some (some (.ref Ca))/\Cf K (.ref Ca) m=some (some (.ref f))/\
  K.lookup f=some ⟨oc,od,.func (Fh m ql (Vr st) (Vk st) (defScope st) .none kV doc pm an cdv ct),sl⟩/\G2 K cdv ql=true/\C7 K (.ref f)=true/\Lb K (.ref f)=true
structure NW(K:Af)(c:Str):Prop where
 ex:∃Ca:Addr,Bt K A7 c=some (some (.ref Ca))/\Mo K Ca=true/\C7 K (.ref Ca)=true
def Jww{FN:Fn}(cf:CF K (Ac c))(e:MF K (Ac c) (Ac m) (Ac ql) st)(hT:T f=some FN)(sc:FnScope (nN FN st) (FN.ps.map Ac) (defScope st))
  (ck:Wn FN.body ⟨nN FN st,(defScope st).names,true,B,F,O⟩ (Vk st)=true)
  (bd:∀(kV doc pm:Value) (an:Option Addr) (cdv ct:Value) (us:List Value),us.length=(FN.ps.map Ac).length->Pz (Fh (Ac m) (Ac ql) (Vr st) (Vk st) (defScope st) .none kV doc pm an cdv ct) ⟨us,[]⟩=pure ((FN.ps.map Ac).zip us)):
  ∃a fd Ca,FnB K T B F O f a fd/\Bt K A7 (Ac c)=some (some (.ref Ca))/\L2.Cls K Ca/\L2.Meth K Ca (Ac m) a:=by
 obtain⟨Cb,n1,hc⟩:=cf.ex;obtain⟨Ca,a,oc,od,kV,doc,pm,an,cdv,ct,sl,n,h1,h2,h3,h4,h5⟩:=e.ex;rw[n]at n1;cases n1;exact⟨a,_,_,⟨FN,st,_,_,hT,Jq4 (st:=st) h2 h3 h4,sc,ck,bd kV doc pm an cdv ct⟩,n,hc,⟨h1,h5,h4⟩⟩
def Jxq(cf:CF K (Ac c))(e:NF K (Ac c) (Ac f)):∃Ca,Bt K A7 (Ac c)=some (some (.ref Ca))/\L2.Cls K Ca/\L2.V6 K Ca (Ac f):=by
 obtain⟨Cb,n1,hc⟩:=cf.ex;obtain⟨Ca,n,h⟩:=e.ex;rw[n]at n1;cases n1;exact⟨_,n,hc,h⟩
def Jws(KX:K.In h)(hG:h.Ns A7 mg)(cf:CF K (Ac c))(e:NW K (Ac c))(mf:∃a fd Ca,FnB K T B F O f a fd/\Bt K A7 (Ac c)=some (some (.ref Ca))/\L2.Cls K Ca/\L2.Meth K Ca (Ac "__init__") a):
  ∃a fd Ca,FnB K T B F O f a fd/\Bt K A7 (Ac c)=some (some (.ref Ca))/\mg (Ac c)=some (.ref Ca)/\L2.Mk K Ca a:=by
 obtain⟨Cb,n1,h1,h2⟩:=e.ex;obtain⟨a,fd,Ca,fb,n,_,hm⟩:=mf;rw[n]at n1;cases n1;exact⟨a,fd,_,fb,n,Hv KX hG n,h1,hm.at_,hm.fn,h2⟩
def Jkj(KX:K.In h)(hG:h.Ns A7 mg)(e:Bt K A7 (Ac x)=some (some (.int i t))):∃v u,mg (Ac x)=some u/\RelV v u/\(∀ρ H,RelD K ρ H (.int i) v)/\∀ds,D.int i=.tup ds->∃a o,v=.ref a/\K.lookup a=some o/\o.cls=.type "tuple"/\o.dict=none:=
 ⟨.int i,_,Hv KX hG e,⟨t,rfl⟩,λ_ _=>RelD.int i,λ_ z=>by cases z⟩
def Jzr(KX:K.In h)(hG:h.Ns A7 mg)(e:Bt K A7 (Ac x)=some none):mg (Ac x)=none:=Uh KX hG e
structure GV(K:Af)(x:Str)(d:D):Prop where
 ex:∃v u,Bt K A7 x=some (some u)/\RelV v u/\(∀ρ H,RelD K ρ H d v)/\∀ds,d=.tup ds->∃a o,v=.ref a/\K.lookup a=some o/\o.cls=.type "tuple"/\o.dict=none
def Jxm(KX:K.In h)(hG:h.Ns A7 mg)(e:GV K (Ac x) d):∃v u,mg (Ac x)=some u/\RelV v u/\(∀ρ H,RelD K ρ H d v)/\∀ds,d=.tup ds->∃a o,v=.ref a/\K.lookup a=some o/\o.cls=.type "tuple"/\o.dict=none:=by
 obtain⟨v,u,h1,h2,h3,h4⟩:=e.ex;exact⟨v,u,Hv KX hG h1,h2,h3,h4⟩
noncomputable def strsLook:List Value->List Str->Bool
 |[],[]=>true
 |.str y _::us,x::xs=>x==y&&strsLook us xs
 |_,_=>false
theorem Jfw:∀{xs:List Str},strsLook us xs=true->Vals (xs.map V.str) us:=by
 induction us with
 |nil=>
  intro xs h;cases xs with
  |nil=>exact .nil
  |cons x xs=>exact fx9 h
 |cons u us ih=>
  intro xs h;cases xs with
  |nil=>cases u<;>exact fx9 h
  |cons x xs=>
   cases u<;>try (exact fx9 h)
   replace h:=(Ai _ _).mp h
   obtain rfl:=eq_of_beq h.1;exact .cons ⟨_,rfl⟩ (ih h.2)
def Jtz(xs:List Str){its:Array Value}(e:Bt K A7 x=some (some (.ref a)))(l:K.lookup a=some ⟨.type "tuple",none,.seq its n,sl⟩)
  (v:(strsLook its.toList xs&&decide (its.size<=1000))=true):GV K x (.tup (xs.map D.str)):=by
 simp only[Ai,decide_eq_true_eq]at v;refine⟨.ref a,.ref a,e,rfl,λρ H=>?_,λds _=>⟨a,_,rfl,l,rfl,rfl⟩⟩;simp only[RelD];refine⟨a,xs.map V.str,rfl,.inr ⟨_,its,n,l,rfl,rfl,by rw[G4];lia,Jfw v.1⟩,?_⟩;have main:∀ys:List Str,RelDs K ρ H (ys.map D.str) (ys.map V.str):=by
  intro ys
  induction ys with
  |nil=>exact RelDs.nil
  |cons y r ih=>exact RelDs.cons (RelD.str y) ih
 exact main xs
def Jt0(e:Bt K A7 x=some (some (.ref a)))(l:Vx K a kvs):GV K x (.kd kvs):=
 ⟨.ref a,.ref a,e,rfl,λρ H=>by simp only[RelD];exact⟨a,rfl,l⟩,λds z=>by cases z⟩
end
inductive Sat {α:Type} (r:Res α) (P:α->Store->Prop):Prop
 |mk (a S) (_:r=.ok a S) (_:P a S):Sat r P
def Sat.ok{α:Type}{a:α}{S:Store}{P:α->Store->Prop}(h:P a S):Sat (.ok a S) P:=⟨a,S,rfl,h⟩
@[simp]theorem J0b{α:Type}{a:α}{S:Store}{P:α->Store->Prop}:Sat (.ok a S) P↔P a S:=⟨λ⟨_,_,e,h⟩=>by cases e;exact h,Sat.ok⟩
def Sat.mono{α:Type}{r:Res α}{P Q:α->Store->Prop}(h:Sat r P)(hq:∀a S,P a S->Q a S):Sat r Q:=by
 obtain⟨a,S,e,h⟩:=h;exact⟨a,S,e,hq a S h⟩
section
variable {α0 α1 α2 α3 α4:Type} {r:Res α0} {f1:α0->Store->Res α1} {f2:α1->Store->Res α2} {f3:α2->Store->Res α3} {f4:α3->Store->Res α4} {Q:α0->Store->Prop}
def Sat.p1{P:α1->Store->Prop}(h:Sat r Q)(k:∀a S,Q a S->Sat (f1 a S) P):Sat (r.bind f1) P:=by
 obtain⟨a,S,rfl,h⟩:=h;exact k a S h
def Sat.p2{P:α2->Store->Prop}(h:Sat r Q)(k:∀a S,Q a S->Sat ((f1 a S).bind f2) P):Sat ((r.bind f1).bind f2) P:=by
 obtain⟨a,S,rfl,h⟩:=h;exact k a S h
def Sat.p3{P:α3->Store->Prop}(h:Sat r Q)(k:∀a S,Q a S->Sat (((f1 a S).bind f2).bind f3) P):Sat (((r.bind f1).bind f2).bind f3) P:=by
 obtain⟨a,S,rfl,h⟩:=h;exact k a S h
def Sat.p4{P:α4->Store->Prop}(h:Sat r Q)(k:∀a S,Q a S->Sat ((((f1 a S).bind f2).bind f3).bind f4) P):Sat ((((r.bind f1).bind f2).bind f3).bind f4) P:=by
 obtain⟨a,S,rfl,h⟩:=h;exact k a S h
end
@[simp]noncomputable def Xw(fl:Fl)(S:Store):Res D:=match fl with
 |.rt d=>.ok d S
 |.nx _=>.ok .non S
def Jaa{G:String->Option D}{FN:Fn}{ds:List D}(hT:T f=some FN)(hl:ds.length=FN.ps.length):
  callN T G W (n+1) f ds S=(evB (Cn T G W n) FN.body (ds.map some++Eo (FN.N.length-ds.length) none) S).bind Xw:=by
 simp only[callN,hT,if_pos hl];congr 1
@[simp]theorem Jux{G:String->Option D}:(Cn T G W n).call=callN T G W n:=rfl
@[simp]theorem Jnj{G:String->Option D}:(Cn T G W n).glob=G:=rfl
def FlP(I:En->Store->Prop)(R:D->Store->Prop)(fl:Fl)(S:Store):Prop:=match fl with
 |.nx Z=>I Z S
 |.rt d=>R d S
def noR:D->Store->Prop:=λ_ _=>False
@[simp]theorem J0d{I:En->Store->Prop}{R:D->Store->Prop}:FlP I R (.nx Z) S↔I Z S:=Iff.rfl
@[simp]theorem J0c{I:En->Store->Prop}{R:D->Store->Prop}:FlP I R (.rt d) S↔R d S:=Iff.rfl
inductive NxI (I:En->Store->Prop) (fl:Fl) (S:Store):Prop
 |mk (Z) (_:fl=.nx Z) (_:I Z S):NxI I fl S
theorem FlP.nx{I:En->Store->Prop}(h:FlP I noR fl S):NxI I fl S:=by
 cases fl with
 |nx Z=>exact⟨Z,rfl,h⟩
 |rt d=>exact Co h
theorem FlP.nr{I:En->Store->Prop}{R:D->Store->Prop}(h:FlP I R fl S):(∃Z,fl=.nx Z/\I Z S)\/∃d,fl=.rt d/\R d S:=by
 cases fl with
 |nx Z=>exact .inl ⟨Z,rfl,h⟩
 |rt d=>exact .inr ⟨d,rfl,h⟩
theorem Wc4{turn:D->En->Store->Res Fl}{g:Wk}{ds:List D}{R:D->Store->Prop}(I:Nat->En->Store->Prop)(same:∀i Z S,I i Z S->sameAt S g ds.length=true)
  (ht:∀i Z S,i<ds.length->I i Z S->∃d,nth S g ds i=some d/\Sat (turn d Z S) (FlP (I (i+1)) R)):
  ∀(n i:Nat) (Z:En) (S:Store),i+n=ds.length->I i Z S->Sat (forL turn g ds n i Z S) (FlP (I ds.length) R):=by
 intro n
 induction n with
 |zero=>
  intro i Z S hi h;have:i=ds.length:=by lia
  subst this;simp only[forL,same _ Z S h,if_true];exact .ok h
 |succ n ih=>
  intro i Z S hi h;obtain⟨d,e,q⟩:=ht i Z S (by lia) h;simp only[forL,same _ Z S h,if_true,e];refine q.p1 λfl S1 q=>?_;cases fl with
  |nx τ1=>exact ih (i+1) τ1 S1 (by lia) q
  |rt d=>exact .ok q
theorem Wbf{turn:D->En->Store->Res (Option D)}{g:Wk}{ds:List D}{Z:En}(I:Nat->List D->Store->Prop)(hl:ds.length<=Line)(same:∀i acc S,I i acc S->acc.length<=i/\sameAt S g ds.length=true)
  (ht:∀i acc S,i<ds.length->I i acc S->∃d,nth S g ds i=some d/\Sat (turn d Z S) λo S1=>I (i+1) (acc++o.toList) S1):
  ∀(n i:Nat) (acc:List D) (S:Store),i+n=ds.length->I i acc S->Sat (V3 turn g ds n i Z S acc) (I ds.length):=by
 intro n
 induction n with
 |zero=>
  intro i acc S hi h;have:i=ds.length:=by lia
  subst this;simp only[V3,(same _ acc S h).2,if_true];exact .ok h
 |succ n ih=>
  intro i acc S hi h;obtain⟨d,e,q⟩:=ht i acc S (by lia) h;simp only[V3,(same _ acc S h).2,if_true,e];refine q.p1 λo S1 q=>?_;cases o with
  |none=>exact ih (i+1) acc S1 (by lia) (by simpa using q)
  |some y=>
   have:=(same _ _ _ h).1;simp only[if_pos (show acc.length<Line by lia)];exact ih (i+1) _ S1 (by lia) q
section
variable {S:Store} {i j:Int} {a b:Bool} {x y:Str} {ds es:List D}
@[simp]theorem Jcx:bop .add (.int i) (.int j) S=.ok (.int (i+j)) S:=rfl
@[simp]theorem Juj:bop .sub (.int i) (.int j) S=.ok (.int (i-j)) S:=rfl
def Jcu(h:(small i||small j||(mid i&&mid j))=true):bop .mul (.int i) (.int j) S=.ok (.int (i*j)) S:=by
 delta bop
 dsimp only;exact if_pos h
@[simp]theorem Jhy(h:small i=true):bop .mul (.int i) (.int j) S=.ok (.int (i*j)) S:=Jcu (by rw[h];rfl)
@[simp]theorem Jbf(h:small j=true):bop .mul (.int i) (.int j) S=.ok (.int (i*j)) S:=Jcu (by rw[h,Bool.or_true];rfl)
@[simp]theorem Jaj(h:0<j):bop .mod (.int i) (.int j) S=.ok (.int (i%j)) S:=by
 delta bop
 dsimp only;exact if_pos h
def Jyc{j:Int}(h1:0<j)(h2:j<2^250):0<j/\j.natAbs<2^4096:=by
 refine⟨h1,?_⟩;have h3:j.natAbs<2^250:=by
  have:(j.natAbs:Int)<(2^250:Nat):=by
   rw[Qv (by omega)]
   exact_mod_cast h2
  exact_mod_cast this
 exact E5 h3 (Nat.pow_lt_pow_right (by decide) (by decide))
@[simp]theorem Je1(h:0<=j):bop .shr (.int i) (.int j) S=.ok (.int (i/2^j.toNat)) S:=by
 delta bop
 dsimp only;exact if_pos h
@[simp]theorem Jaw(h1:0<j)(h2:j<2^250):bop .fdiv (.int i) (.int j) S=.ok (.int (i/j)) S:=by
 delta bop
 dsimp only;exact if_pos (Jyc h1 h2)
def Jct(h:(decide (0<=j)&&decide (j<=1000000)&&decide (i.natAbs<2^64))=true):bop .pow (.int i) (.int j) S=.ok (.int (i^j.toNat)) S:=by
 delta bop
 dsimp only;exact if_pos h
def Ja4{k:Nat}(h0:j=(k:Int))(h1:k<=1000000)(h2:i.natAbs<2^64):bop .pow (.int i) (.int j) S=.ok (.int (i^k)) S:=by
 subst h0;rw[Jct]
 ·rfl
 ·simp only[Ai,decide_eq_true_eq];exact⟨⟨by omega,by omega⟩,h2⟩
@[simp]theorem Jcw(h1:S[l]? =some (.lst ds))(h2:S[k]? =some (.lst es))(h3:ds.length+es.length<=Line):bop .add (.loc l) (.loc k) S=.ok (.loc S.length) (S++[.lst (ds++es)]):=by
 delta bop;simp only[h1,h2,if_pos h3]
def Jcv(h3:ds.length+es.length<=Line):bop .add (.tup ds) (.tup es) S=.ok (.tup (ds++es)) S:=by
 delta bop;simp only[if_pos h3]
theorem Jgj:Deep=11+1:=rfl
@[simp]theorem Jdu:cop .eq (.int i) (.int j) S=some (decide (i=j)):=by
 simp only[cop,Jgj,eqD,V0,eqV];congr 1
@[simp]theorem Ju2:cop .eq (.str x) (.str y) S=some (decide (x=y)):=by
 simp only[cop,Jgj,eqD,V0,eqV];congr 1
@[simp]theorem Jx2:cop .eq (.bl a) (.bl b) S=some (a==b):=by
 simp only[cop,Jgj,eqD,V0,eqV]
@[simp]theorem Juy:cop .ne (.int i) (.int j) S=some (!decide (i=j)):=by
 have:=Jdu (i:=i) (j:=j) (S:=S);simp only[cop,Xt]at this ⊢;rw[this];rfl
@[simp]theorem Juz:cop .lt (.int i) (.int j) S=some (decide (i<j)):=rfl
@[simp]theorem Ju0:cop .le (.int i) (.int j) S=some (decide (i<=j)):=rfl
@[simp]theorem Ju1:cop .gt (.int i) (.int j) S=some (decide (j<i)):=rfl
@[simp]theorem Jfp:cop .ge (.int i) (.int j) S=some (decide (j<=i)):=rfl
@[simp]theorem Jue:cop .isc .non .non S=some true:=rfl
@[simp]theorem Jrc:cop .isnc .non .non S=some false:=rfl
@[simp]theorem Juc:cop .isc (.tup ds) .non S=some false:=rfl
@[simp]theorem Jra:cop .isnc (.tup ds) .non S=some true:=rfl
@[simp]theorem Jud:cop .isc (.str x) .non S=some false:=rfl
@[simp]theorem Jrb:cop .isnc (.str x) .non S=some true:=rfl
@[simp]theorem Jym:Vh .abs [.int i] S=.ok (.int (if i<0 then -i else i)) S:=rfl
@[simp]theorem Jyl:Vh .max2 [.int i,.int j] S=.ok (.int (if j>i then j else i)) S:=rfl
@[simp]theorem Jyk:Vh .min2 [.int i,.int j] S=.ok (.int (if j<i then j else i)) S:=rfl
@[simp]theorem Jqo:Vh .int1 [.int i] S=.ok (.int i) S:=rfl
@[simp]theorem Jej:Vh .int1 [.bl b] S=.ok (.int (if b then 1 else 0)) S:=rfl
@[simp]theorem Jqn:Vh .len [.tup ds] S=.ok (.int ds.length) S:=rfl
@[simp]theorem Jsz:Vh .len [.kl ds] S=.ok (.int ds.length) S:=rfl
def Jav(h:S[l]? =some (.lst ds)):Vh .len [.loc l] S=.ok (.int ds.length) S:=by delta Vh;simp only[Vp,seqAt,h]
@[simp]theorem Jnk:Vh .tuple1 [.tup ds] S=.ok (.tup ds) S:=rfl
@[simp]theorem Jn9:Vh .tuple1 [.kl ds] S=.ok (.tup ds) S:=rfl
def Jam(h:S[l]? =some (.lst ds)):Vh .tuple1 [.loc l] S=.ok (.tup ds) S:=by delta Vh;simp only[Vp,seqAt,h]
@[simp]theorem Joa:Vh .list1 [.tup ds] S=.ok (.loc S.length) (S++[.lst ds]):=rfl
@[simp]theorem Jqm:Vh .list1 [.kl ds] S=.ok (.loc S.length) (S++[.lst ds]):=rfl
theorem Jjv{α:Type}(p:α->Bool):∀xs:List α,allB (xs.map λx=>D.bl (p x))=some (xs.all p)
 |[]=>rfl
 |x::xs=>by simp only[Ay,allB,Jjv p xs,Lh,Eu]
theorem Ji9{α:Type}(p:α->Int):∀xs:List α,sumI (xs.map λx=>D.int (p x))=some (xs.map p).sum
 |[]=>rfl
 |x::xs=>by simp only[Ay,sumI,Ji9 p xs,Uv,Eu]
def Jhb{α:Type}(p:α->Bool)(xs:List α):Vh .all1 [.loc S.length] (S++[.lst (xs.map λx=>D.bl (p x))])=.ok (.bl (xs.all p)) (S++[.lst (xs.map λx=>D.bl (p x))]):=by
 have h:(S++[Obj.lst (xs.map λx=>D.bl (p x))])[S.length]? =some (.lst (xs.map λx=>D.bl (p x))):=by
  rw[Az (Aj _),El];rfl
 delta Vh;simp only[seqAt,h,Jjv]
def Jbv{α:Type}(p:α->Int)(xs:List α):Vh .sum1 [.loc S.length] (S++[.lst (xs.map λx=>D.int (p x))])=.ok (.int (xs.map p).sum) (S++[.lst (xs.map λx=>D.int (p x))]):=by
 have h:(S++[Obj.lst (xs.map λx=>D.int (p x))])[S.length]? =some (.lst (xs.map λx=>D.int (p x))):=by
  rw[Az (Aj _),El];rfl
 delta Vh;simp only[seqAt,h,Ji9]
@[simp]theorem Jad:(S++[o])[S.length]? =some o:=by
 rw[Az (Aj _),El];rfl
def Jai{l:Nat}{o:Obj}{X:Store}(h:S[l]? =some o):(S++X)[l]? =some o:=by
 rw[A0 (Ae.mp h).1];exact h
def Jty(h:atI ds i=some d):idxD (.tup ds) (.int i) S=some d:=by simp only[idxD,Vp,h]
def Jmk(hl:S[l]? =some (.lst ds))(h:atI ds i=some d):idxD (.loc l) (.int i) S=some d:=by simp only[idxD,Vp,seqAt,hl,h]
def Jxl(h:atI ds i=some d):idxD (.kl ds) (.int i) S=some d:=by simp only[idxD,Vp,h]
def Jye{α:Type}{xs:List α}{i:Int}(h0:0<=i)(h1:i<xs.length):∃x,atI xs i=some x/\x∈xs/\xs[i.toNat]? =some x:=by
 have hl:i.toNat<xs.length:=by omega
 refine⟨xs[i.toNat],?_,He hl,Ag hl⟩;simp only[atI,ixN,if_pos h0,if_pos h1,G6];exact Ag hl
def Jur{α:Type}{xs:List α}(h1:k<xs.length):atI xs (k:Int)=xs[k]? :=by
 have:(k:Int)<xs.length:=by omega
 simp only[atI,ixN,if_pos (L5 k),if_pos this,G6,Ed]
def Jay(h:S[l]? =some (.lst ds))(hl:ds.length<Line):Vo .append (.loc l) [d] S=.ok .non (S.set l (.lst (ds++[d]))):=by delta Vo;simp only[h,if_pos hl]
def Jij(h:S[l]? =some (.lst ds))(hk:ixN ds.length i=some k):We (.loc l) (.int i) d S=.ok () (S.set l (.lst (ds.set k d))):=by simp only[We,h,hk]
def Jow(h:n<=1000000):n<=Line:=by unfold Line;omega
def Jch(h:n<=1000000):n<Line:=by unfold Line;omega
end
@[simp]noncomputable def Yq(o:Option (Option D))(S:Store):Res D:=match o with|some (some d)=>.ok d S|_=>.bad
@[simp]noncomputable def Z6(o:Option D)(S:Store):Res D:=match o with|some d=>.ok d S|none=>.bad
@[simp]def Yc(C:Pr)(o:Bop)(b:M)(Z:En)(x:D)(S:Store):Res D:=(evE C b Z S).bind (bop o x)
@[simp]noncomputable def Wcw(x:D)(S:Store):Res D:=match x with|.int i=>.ok (.int (Bx i)) S|_=>.bad
@[simp]noncomputable def Wcp(x:D)(S:Store):Res D:=match x with|.int i=>.ok (.int (-i)) S|_=>.bad
@[simp]def Wcn(x:D)(S:Store):Res D:=match tru S x with|some b=>.ok (.bl (!b)) S|none=>.bad
@[simp]def Jo4(o:Cop)(x y:D)(S:Store):Res D:=match cop o x y S with|some k=>.ok (.bl k) S|none=>.bad
@[simp]def Z7(C:Pr)(o:Cop)(b:M)(Z:En)(x:D)(S:Store):Res D:=(evE C b Z S).bind (Jo4 o x)
@[simp]def Jxa(C:Pr)(o p:Cop)(c:M)(Z:En)(x y:D)(S:Store):Res D:=match cop o x y S with
 |some k=>if k then(evE C c Z S).bind (Jo4 p y)else .ok (.bl false) S
 |none=>.bad
@[simp]def Wa6(C:Pr)(o p:Cop)(b c:M)(Z:En)(x:D)(S:Store):Res D:=(evE C b Z S).bind (Jxa C o p c Z x)
@[simp]def Wct(C:Pr)(a b:M)(Z:En)(k:Bool)(S:Store):Res D:=if k then evE C a Z S else evE C b Z S
@[simp]def Wa4(ds:List D)(S:Store):Res D:=if ds.length<=Line then .ok (.tup ds) S else .bad
@[simp]def Wcr(ds:List D)(S:Store):Res D:=if ds.length<=Line then .ok (.loc S.length) (S++[.lst ds])else .bad
def Jao(x y:D)(S:Store):Res D:=match idxD x y S with|some d=>.ok d S|none=>.bad
@[simp]def Z5(C:Pr)(b:M)(Z:En)(x:D)(S:Store):Res D:=(evE C b Z S).bind (Jao x)
@[simp]def Jzk(C:Pr)(hi:M)(Z:En)(x:D)(l:Option Int)(S:Store):Res D:=(evO C hi Z S).bind (Wm x l)
@[simp]def Wck(C:Pr)(lo hi:M)(Z:En)(x:D)(S:Store):Res D:=(evO C lo Z S).bind (Jzk C hi Z x)
@[simp]def Wcs(t:String)(x:D)(S:Store):Res D:=match tyD S x with|some y=>.ok (.bl (isiD y t)) S|none=>.bad
@[simp]def Wa5(C:Pr)(p:Meth)(as:M)(Z:En)(x:D)(S:Store):Res D:=if rcv p S x then(evA C as Z S).bind (Vo p x)else .bad
@[simp]def kTru(d:D)(S:Store):Res Bool:=match tru S d with|some b=>.ok b S|none=>.bad
@[simp]def Yg(o:Option (Option D))(S:Store):Res Bool:=match o with|some (some d)=>kTru d S|_=>.bad
@[simp]noncomputable def Waj(b:Bool)(S:Store):Res Bool:=.ok (!b) S
@[simp]def Jnn(o:Cop)(x y:D)(S:Store):Res Bool:=match cop o x y S with|some k=>.ok k S|none=>.bad
@[simp]def Yk(C:Pr)(o:Cop)(b:M)(Z:En)(x:D)(S:Store):Res Bool:=(evE C b Z S).bind (Jnn o x)
@[simp]def Jvg(C:Pr)(o p:Cop)(c:M)(Z:En)(x y:D)(S:Store):Res Bool:=match cop o x y S with
 |some k=>if k then(evE C c Z S).bind (Jnn p y)else .ok false S
 |none=>.bad
@[simp]def Wao(C:Pr)(o p:Cop)(b c:M)(Z:En)(x:D)(S:Store):Res Bool:=(evE C b Z S).bind (Jvg C o p c Z x)
def Jrl(x y:D)(S:Store):Res Bool:=match idxD x y S with|some d=>kTru d S|none=>.bad
@[simp]def Wbv(C:Pr)(b:M)(Z:En)(x:D)(S:Store):Res Bool:=(evE C b Z S).bind (Jrl x)
@[simp]def Wby(C:Pr)(f:String)(ds:List D)(S:Store):Res Bool:=(C.call f ds S).bind kTru
@[simp]def Wah(p:Prim)(ds:List D)(S:Store):Res Bool:=(Vh p ds S).bind kTru
@[simp]def Wbt(t:String)(x:D)(S:Store):Res Bool:=match tyD S x with|some y=>.ok (isiD y t) S|none=>.bad
@[simp]def kBV(C:Pr)(w:Bool)(r:M)(Z:En)(x:D)(S:Store):Res D:=match x with|.bl c=>if c=w then evBV C w r Z S else .ok (.bl (!w)) S|_=>.bad
@[simp]def kBT(C:Pr)(w:Bool)(r:M)(Z:En)(c:Bool)(S:Store):Res Bool:=if c=w then evBT C w r Z S else .ok (!w) S
@[simp]noncomputable def Vu(x:D)(xs:List D)(S:Store):Res (List D):=.ok (x::xs) S
@[simp]def V9(C:Pr)(b:M)(Z:En)(x:D)(S:Store):Res (List D):=(evA C b Z S).bind (Vu x)
@[simp]noncomputable def Wcm(x:D)(S:Store):Res (Option Int):=match x with|.int i=>.ok (some i) S|_=>.bad
noncomputable def rOk(j:Int):Bool:=match j with
 |.ofNat n=>Nat.ble n (2^62-1)
 |.negSucc n=>Nat.ble n (2^62-1)
theorem Jqh(j:Int):(decide (-(2^62)<=j)&&decide (j<2^62))=rOk j:=by
 rw[Na,Ai,decide_eq_true_eq,decide_eq_true_eq];cases j with
 |ofNat n=>rw[rOk,Nat.ble_eq,Int.ofNat_eq_natCast];omega
 |negSucc n=>rw[rOk,Nat.ble_eq,Int.negSucc_eq];omega
def Yb(x:D)(S:Store):Res (Wk×List D):=match x with
 |.int j=>if rOk j then .ok (none,(B3 j.toNat).map λ(i:Nat)=>.int i) S else .bad
 |_=>.bad
@[simp]def Z4(x:D)(S:Store):Res (Wk×List D):=match x with
 |.tup ds=>.ok (none,ds) S
 |.kl ds=>.ok (none,ds) S
 |.loc l=>(match seqAt S l with|some ds=>.ok (some (l,.lst),ds) S|none=>.bad)
 |_=>.bad
def Yt(x:D)(S:Store):Res (Wk×List D):=match x with
 |.loc l=>(match seqAt S l with|some ds=>.ok (some (l,.enm),ds) S|none=>.bad)
 |.tup ds=>.ok (none,enD 0 ds) S
 |_=>.bad
@[simp]theorem Jyo:Yt (.tup ds) S=.ok (none,enD 0 ds) S:=rfl
@[simp]def kZp(C:Pr)(b:M)(Z:En)(x:D)(S:Store):Res (Wk×List D):=(evE C b Z S).bind (zpD x)
@[simp]noncomputable def Jzm(i:Nat)(Z:En)(x:Int)(y:D)(S:Store):Res Fl:=match y with|.int z=>.ok (.nx (Z.set i (some (.int (x+z))))) S|_=>.bad
@[simp]def Wcx(C:Pr)(i:Nat)(e:M)(Z:En)(o:Option (Option D))(S:Store):Res Fl:=match o with
 |some (some (.int x))=>(evE C e Z S).bind (Jzm i Z x)
 |_=>.bad
def Ys(c f:String)(x:D)(S:Store):Res D:=match X5 S x c f with|some d=>.ok d S|none=>.bad
@[simp]noncomputable def Jzl(C:Pr)(f:String)(x:D)(ds:List D)(S:Store):Res D:=C.call f (x::ds) S
@[simp]def Wcq(C:Pr)(c m f:String)(as:M)(Z:En)(x:D)(S:Store):Res D:=if isRec S x c m then(evA C as Z S).bind (Jzl C f x)else .bad
@[simp]def Jyw(C:Pr)(f:String)(x:D)(ds:List D)(S:Store):Res Bool:=(C.call f (x::ds) S).bind kTru
@[simp]def Wbr(C:Pr)(c m f:String)(as:M)(Z:En)(x:D)(S:Store):Res Bool:=if isRec S x c m then(evA C as Z S).bind (Jyw C f x)else .bad
@[simp]noncomputable def Wco(l:Nat)(d:D)(S:Store):Res D:=match d with|.non=>.ok (.loc l) S|_=>.bad
def Jts(c f:String)(Z:En)(y x:D)(S:Store):Res Fl:=match Y6 S x c f y with|some S3=>.ok (.nx Z) S3|none=>.bad
@[simp]def Wcl(C:Pr)(c f:String)(o:M)(Z:En)(y:D)(S:Store):Res Fl:=(evE C o Z S).bind (Jts c f Z y)
@[simp]noncomputable def kEn(Z:En)(_:Unit)(S:Store):Res En:=.ok Z S
@[simp]def Jzj(d:D)(Z:En)(o i:D)(S:Store):Res En:=(We o i d S).bind (kEn Z)
@[simp]def Wcj(C:Pr)(b:M)(d:D)(Z:En)(o:D)(S:Store):Res En:=(evE C b Z S).bind (Jzj d Z o)
@[simp]noncomputable def kNx(Z:En)(S:Store):Res Fl:=.ok (.nx Z) S
@[simp]def Z8(C:Pr)(t:M)(Z:En)(d:D)(S:Store):Res Fl:=(evG C t d Z S).bind kNx
@[simp]def Xa(C:Pr)(a b:M)(Z:En)(k:Bool)(S:Store):Res Fl:=if k then evB C a Z S else evB C b Z S
@[simp]noncomputable def Yr(d:D)(S:Store):Res Fl:=.ok (.rt d) S
@[simp]noncomputable def Wcu(Z:En)(_:D)(S:Store):Res Fl:=.ok (.nx Z) S
@[simp]def kB(C:Pr)(r:M)(fl:Fl)(S:Store):Res Fl:=match fl with
 |.nx τ1=>evB C r τ1 S
 |.rt d=>.ok (.rt d) S
def W3(C:Pr)(t b:M)(d:D)(Z:En)(S:Store):Res Fl:=(evG C t d Z S).bind (evB C b)
def kFor(C:Pr)(t b:M)(Z:En)(w:Wk×List D)(S:Store):Res Fl:=forL (W3 C t b) w.1 w.2 w.2.length 0 Z S
@[simp]noncomputable def Jw9(ys:List D)(S:Store):Res D:=.ok (.loc S.length) (S++[.lst ys])
def W6(C:Pr)(k:Nat)(keep:List Nat)(tg cd el:M)(Z:En)(w:Wk×List D)(S:Store):Res D:=(V3 (V7 C tg cd el) w.1 w.2 w.2.length 0 (Vl k keep Z) S []).bind Jw9
def Za(C:Pr)(b:Bool)(keep:List Nat)(tg el:M)(Z:En)(x:D)(S:Store):Res D:=(frD x S).bind λw S2=>(V3 (V7 C tg .nul el) none (w.2.map (dwI b)) (w.2.map (dwI b)).length 0 (Vl 1 keep Z) S2 []).bind (thD w.1)
section
variable {C:Pr} {Z:En} {S:Store} {w:Bool} {d:D} {ds:List D} {i k:Nat} {keep:List Nat} {N:List String} {x f t:String} {a b c r as lo hi e s ts t':M} {it tg cd el:M} {o p:Cop} {q:Bop} {pr:Prim} {me:Meth}
@[simp]theorem Jih:evE C (.cst d) Z S=.ok d S:=rfl
@[simp]theorem v_var:evE C (.var i) Z S=Yq Z[i]? S:=rfl
@[simp]theorem Ju7:evE C (.glb x) Z S=Z6 (C.glob x) S:=rfl
@[simp]theorem Jva:evE C (.bin q a b) Z S=(evE C a Z S).bind (Yc C q b Z):=rfl
@[simp]theorem J03:evE C (.bit a) Z S=(evE C a Z S).bind Wcw:=rfl
@[simp]theorem J0n:evE C (.neg a) Z S=(evE C a Z S).bind Wcp:=rfl
@[simp]theorem Jz6:evE C (.nott a) Z S=(evE C a Z S).bind Wcn:=rfl
@[simp]theorem v_bo:evE C (.bo w as) Z S=evBV C w as Z S:=rfl
@[simp]theorem Ju8:evE C (.cmp o a b) Z S=(evE C a Z S).bind (Z7 C o b Z):=rfl
@[simp]theorem Jz9:evE C (.cmp2 o p a b c) Z S=(evE C a Z S).bind (Wa6 C o p b c Z):=by
 show Res.bind _ _=_;congr 1;funext x S1;simp only[Wa6];congr 1;funext y S2;simp only[Jxa];cases cop o x y S2 with
 |none=>rfl
 |some k=>cases k<;>rfl
@[simp]theorem J0r:evE C (.ife c a b) Z S=(evT C c Z S).bind (Wct C a b Z):=rfl
@[simp]theorem J0i:evE C (.tup as) Z S=(evA C as Z S).bind Wa4:=rfl
@[simp]theorem Ju5:evE C (.lst as) Z S=(evA C as Z S).bind Wcr:=rfl
@[simp]theorem Jyp:evE C (.idx a b) Z S=(evE C a Z S).bind (Z5 C b Z):=rfl
@[simp]theorem J0j:evE C (.sli a lo hi) Z S=(evE C a Z S).bind (Wck C lo hi Z):=rfl
@[simp]theorem Ju9:evE C (.call f as) Z S=(evA C as Z S).bind (C.call f):=rfl
@[simp]theorem Jp4:evE C (.prim pr as) Z S=(evA C as Z S).bind (Vh pr):=rfl
@[simp]theorem J0q:evE C (.isi a t) Z S=(evE C a Z S).bind (Wcs t):=rfl
@[simp]theorem Jz7:evE C (.meth me a as) Z S=(evE C a Z S).bind (Wa5 C me as Z):=rfl
@[simp]theorem Jz8:evE C (.comp N k keep tg it cd el) Z S=(evI C it Z S).bind (W6 C k keep tg cd el Z):=rfl
@[simp]theorem J0y:evE C (.dcm B N keep tg a el) Z S=(evE C a Z S).bind (Za C B keep tg el Z):=rfl
@[simp]theorem Jyt:evE C (.dnil 0) Z S=.ok (.loc S.length) (S++[.dct []]):=rfl
@[simp]theorem Jys:evE C (.dnil 1) Z S=.ok (.loc S.length) (S++[.dtu []]):=rfl
@[simp]theorem Jyr:evE C (.dnil 2) Z S=.ok (.loc S.length) (S++[.rg []]):=rfl
@[simp]theorem J0s:evE C (.hld a) Z S=(evE C a Z S).bind Yw:=rfl
@[simp]theorem J0p:evE C (.lsp a) Z S=(evE C a Z S).bind Yp:=rfl
@[simp]theorem v_zp:evI C (.zp a b) Z S=(evE C a Z S).bind (kZp C b Z):=rfl
@[simp]theorem J04:evS C (.aug i e) Z S=Wcx C i e Z Z[i]? S:=rfl
@[simp]theorem J0w:evE C (.fld x f a) Z S=(evE C a Z S).bind (Ys x f):=rfl
@[simp]theorem J0o:evE C (.mcl x t f a as) Z S=(evE C a Z S).bind (Wcq C x t f as Z):=rfl
@[simp]theorem Ju4:evE C (.new x f) Z S=(C.call f [.loc S.length] (S++[.ins x []])).bind (Wco S.length):=rfl
@[simp]theorem J0x:evI C (.enm a) Z S=(evE C a Z S).bind Yt:=rfl
@[simp]theorem J0k:evS C (.sfd x f a b) Z S=(evE C b Z S).bind (Wcl C x f a Z):=rfl
@[simp]theorem J0e:evT C (.mcl x t f a as) Z S=(evE C a Z S).bind (Wbr C x t f as Z):=rfl
@[simp]theorem Jz1:evT C (.nott a) Z S=(evT C a Z S).bind Waj:=rfl
@[simp]theorem w_bo:evT C (.bo w as) Z S=evBT C w as Z S:=rfl
@[simp]theorem J0h:evT C (.cmp o a b) Z S=(evE C a Z S).bind (Yk C o b Z):=rfl
@[simp]theorem Jz2:evT C (.cmp2 o p a b c) Z S=(evE C a Z S).bind (Wao C o p b c Z):=by
 show Res.bind _ _=_;congr 1;funext x S1;simp only[Wao];congr 1;funext y S2;simp only[Jvg];cases cop o x y S2 with
 |none=>rfl
 |some k=>cases k<;>rfl
@[simp]theorem w_var:evT C (.var i) Z S=Yg Z[i]? S:=rfl
@[simp]theorem J0g:evT C (.idx a b) Z S=(evE C a Z S).bind (Wbv C b Z):=rfl
@[simp]theorem Jz3:evT C (.call f as) Z S=(evA C as Z S).bind (Wby C f):=rfl
@[simp]theorem Jz0:evT C (.prim pr as) Z S=(evA C as Z S).bind (Wah pr):=rfl
@[simp]theorem J0f:evT C (.isi a t) Z S=(evE C a Z S).bind (Wbt t):=rfl
@[simp]theorem J00:evBV C w (.cns a .nul) Z S=evE C a Z S:=rfl
@[simp]theorem J0z:evBV C w (.cns a (.cns b r)) Z S=(evE C a Z S).bind (kBV C w (.cns b r) Z):=rfl
@[simp]theorem J02:evBT C w (.cns a .nul) Z S=evT C a Z S:=rfl
@[simp]theorem J01:evBT C w (.cns a (.cns b r)) Z S=(evT C a Z S).bind (kBT C w (.cns b r) Z):=rfl
@[simp]theorem v_c0:evC C .nul Z S=.ok true S:=rfl
@[simp]theorem v_c1:evC C (.cns c .nul) Z S=evT C c Z S:=rfl
@[simp]theorem Wb:evA C .nul Z S=.ok [] S:=rfl
@[simp]theorem Y4:evA C (.cns a b) Z S=(evE C a Z S).bind (V9 C b Z):=rfl
@[simp]theorem v_o0:evO C .nul Z S=.ok none S:=rfl
@[simp]theorem v_o1:evO C (.cns a .nul) Z S=(evE C a Z S).bind Wcm:=rfl
@[simp]theorem J0m:evI C (.rng a) Z S=(evE C a Z S).bind Yb:=by
 have:Yb=λx S1=>match x with|.int j=>if decide (-(2^62)<=j)&&decide (j<2^62)then .ok (none,(B3 j.toNat).map λ(i:Nat)=>D.int i) S1 else .bad|_=>.bad:=by
  funext x S1;unfold Yb;cases x<;>simp only[Jqh]
 rw[this];rfl
@[simp]theorem J0l:evI C (.cns a .nul) Z S=(evE C a Z S).bind Z4:=rfl
@[simp]theorem Jp3:evG C (.tvar i) d Z S=if i<Z.length then .ok (Z.set i (some d)) S else .bad:=rfl
@[simp]theorem Jz4:evG C (.ttup ts) (.tup ds) Z S=evGs C ts ds Z S:=rfl
@[simp]theorem Jz5:evG C (.tsub a b) d Z S=(evE C a Z S).bind (Wcj C b d Z):=rfl
@[simp]theorem J0u:evGs C .nul [] Z S=.ok Z S:=rfl
@[simp]theorem J0t:evGs C (.cns t' ts) (d::ds) Z S=(evG C t' d Z S).bind (evGs C ts ds):=rfl
@[simp]theorem J05:evS C (.asg t' e) Z S=(evE C e Z S).bind (Z8 C t' Z):=rfl
@[simp]theorem Ju6:evS C (.ifs c a b) Z S=(evT C c Z S).bind (Xa C a b Z):=rfl
@[simp]theorem Jnl:evS C (.ret e) Z S=(evE C e Z S).bind Yr:=rfl
@[simp]theorem Jyq:evS C (.exp e) Z S=(evE C e Z S).bind (Wcu Z):=rfl
@[simp]theorem J0v:evS C (.forr t' it b) Z S=(evI C it Z S).bind (kFor C t' b Z):=rfl
@[simp]theorem Wad:evB C .nul Z S=.ok (.nx Z) S:=rfl
@[simp]theorem Yf:evB C (.cns s r) Z S=(evS C s Z S).bind (kB C r):=rfl
theorem Jat{t b:M}:W3 C t b d Z S=(evG C t d Z S).bind (evB C b):=rfl
@[simp]noncomputable def Wcv(y:D)(S:Store):Res (Option D):=.ok (some y) S
@[simp]def kEl(C:Pr)(el:M)(Z:En)(b:Bool)(S:Store):Res (Option D):=if b then(evE C el Z S).bind Wcv else .ok none S
@[simp]def kCd(C:Pr)(cd el:M)(Z:En)(S:Store):Res (Option D):=(evC C cd Z S).bind (kEl C el Z)
theorem Jak:V7 C tg cd el d Z S=(evG C tg d Z S).bind (kCd C cd el):=rfl
def Jdf{j:Int}(h0: -(2^62)<=j)(h1:j<2^62):Yb (.int j) S=.ok (none,(B3 j.toNat).map λ(i:Nat)=>.int i) S:=by
 simp only[Yb];rw[if_pos (by rw[<-Jqh,Ai,decide_eq_true_eq,decide_eq_true_eq];exact⟨h0,h1⟩)]
end
def Ext(S S':Store):Prop:=∃X,S'=S++X
def Ext.refl(S:Store):Ext S S:=⟨[],by simp⟩
def Ext.trans(a:Ext S S1)(b:Ext S1 S2):Ext S S2:=by
 obtain⟨X,rfl⟩:=a;obtain⟨Y,rfl⟩:=b;exact⟨X++Y,by rw[Mg]⟩
def Ext.new(S X:Store):Ext S (S++X):=⟨X,rfl⟩
def Ext.get{S S':Store}{l:Nat}{o:Obj}(e:Ext S S')(h:S[l]? =some o):S'[l]? =some o:=by
 obtain⟨X,rfl⟩:=e;exact Jai h
def Ext.len{S S':Store}(e:Ext S S'):S.length<=S'.length:=by
 obtain⟨X,rfl⟩:=e;simp
def Ext.set{S S':Store}(e:Ext S S')(h:S.length<=l)(o:Obj):Ext S (S'.set l o):=by
 obtain⟨X,rfl⟩:=e;exact⟨X.set (l-S.length) o,by rw[List.set_append_right _ _ h]⟩
def Jax{S:Store}(h:S[l]? =some o):l<S.length:=(Ae.mp h).1
def Jar{S:Store}(h:S[l]? =some o):(S.set l o')[l]? =some o':=B5 (Jax h)
def Jdw(S X:Store)(k:Nat):(S++X)[S.length+k]? =X[k]? :=by
 rw[Az (Hl _ _),Nat.add_sub_cancel_left]
@[simp]theorem Jau{S:Store}:(S++(a0::X))[S.length]? =some a0:=Jdw S (a0::X) 0
@[simp]theorem Jdd{S:Store}:(S++(a0::a1::X))[S.length+1]? =some a1:=by rw[Jdw];rfl
@[simp]theorem Jee{S:Store}:(S++(a0::a1::a2::X))[S.length+2]? =some a2:=by rw[Jdw];rfl
def Keep(ps:List Nat)(S S':Store):Prop:=S.length<=S'.length/\∀l:Nat,l<S.length->l∉ps->S'[l]? =S[l]?
section
variable {S S1 S2 B:Store} {ps:List Nat}
def Keep.refl:Keep ps S S:=⟨Aj _,λ_ _ _=>rfl⟩
def Keep.trans(a:Keep ps S S1)(b:Keep ps S1 S2):Keep ps S S2:=⟨Bl a.1 b.1,λl h n=>(b.2 l (Be h a.1) n).trans (a.2 l h n)⟩
def Keep.get(a:Keep ps S S1)(h:S[l]? =some o)(n:l∉ps):S1[l]? =some o:=(a.2 l (Jax h) n).trans h
def Keep.ext(e:Ext S S1):Keep ps S S1:=⟨e.len,λl h n=>by
 rw[Ag h];exact e.get (Ag h)⟩
def Keep.new(X:Store):Keep ps S (S++X):=.ext (.new _ _)
def Keep.set(h:p∈ps):Keep ps S (S.set p o):=⟨by simp,λl hl n=>by
 rw[Ao];rintro rfl;exact n h⟩
def Keep.mono(a:Keep ps S S1)(h:∀p∈ps,p∈qs):Keep qs S S1:=⟨a.1,λl hl n=>a.2 l hl λz=>n (h l z)⟩
def Keep.less(a:Keep ps S S1)(h:∀p∈ps,p∈qs\/S.length<=p):Keep qs S S1:=⟨a.1,λl hl n=>a.2 l hl λz=>(h l z).elim n (by lia)⟩
def Ext.of(k:Keep [] S S1):Ext S S1:=by
 refine⟨S1.drop S.length,Ry λi=>?_⟩;have:=k.1
 by_cases hi:i<S.length
 ·rw[A0 hi];exact k.2 i hi (by simp)
 ·rw[Az (by lia),List.getElem?_drop];congr 1;lia
def Ext.keep(e:Ext B S)(k:Keep ps S S1)(h:∀p∈ps,B.length<=p):Ext B S1:=.of (((Keep.ext (ps:=ps) e).trans k).less λp hp=>.inr (h p hp))
end
section
variable {C:Pr} {t b:M} {ds:List D} {S:Store} {Z:En} {g:Wk}
def Xo(I:Nat->En->Store->Prop)(R:D->Store->Prop)(h0:I 0 Z S)(same:∀i Z S,I i Z S->sameAt S g ds.length=true)
  (ht:∀i Z S,i<ds.length->I i Z S->∃d,nth S g ds i=some d/\Sat (W3 C t b d Z S) (FlP (I (i+1)) R)):Sat (kFor C t b Z (g,ds) S) (FlP (I ds.length) R):=Wc4 I same ht _ 0 Z S (by simp) h0
def loop(I:Nat->En->Store->Prop)(R:D->Store->Prop)(h0:I 0 Z S)(ht:∀i d Z S,ds[i]? =some d->I i Z S->Sat (W3 C t b d Z S) (FlP (I (i+1)) R)):Sat (kFor C t b Z (none,ds) S) (FlP (I ds.length) R):=
 Xo I R h0 (λ_ _ _ _=>rfl) λi Z S hi h=>⟨ds[i],Ag hi,ht i _ Z S (Ag hi) h⟩
def Jeh(h:S[l]? =some (.lst ds)):sameAt S (some (l,k)) ds.length=true:=by simp[sameAt,h]
def Zo(I:Nat->En->Store->Prop)(R:D->Store->Prop)(h0:I 0 Z S)(hst:∀i Z S,I i Z S->S[l]? =some (.lst ds))(ht:∀i d Z S,ds[i]? =some d->I i Z S->Sat (W3 C t b d Z S) (FlP (I (i+1)) R)):Sat (kFor C t b Z (some (l,.lst),ds) S) (FlP (I ds.length) R):=
 Xo I R h0 (λi Z S h=>Jeh (hst i Z S h)) λi Z S hi h=>⟨ds[i],by simp[nth,seqAt,hst i Z S h,hi],ht i _ Z S (Ag hi) h⟩
def Wa2(I:Nat->En->Store->Prop)(R:D->Store->Prop)(h0:I 0 Z S)(hst:∀i Z S,I i Z S->S[l]? =some (.lst ds))(ht:∀i d Z S,ds[i]? =some d->I i Z S->Sat (W3 C t b (.tup [.int i,d]) Z S) (FlP (I (i+1)) R)):Sat (kFor C t b Z (some (l,.enm),ds) S) (FlP (I ds.length) R):=
 Xo I R h0 (λi Z S h=>Jeh (hst i Z S h)) λi Z S hi h=>⟨.tup [.int i,ds[i]],by simp[nth,seqAt,hst i Z S h,hi],ht i _ Z S (Ag hi) h⟩
def comp(I:Nat->List D->Store->Prop)(hl:ds.length<=Line)(h0:I 0 [] S)(same:∀i acc S,I i acc S->acc.length<=i/\sameAt S g ds.length=true)
  (ht:∀i acc S,i<ds.length->I i acc S->∃d,nth S g ds i=some d/\Sat (V7 C tg cd el d (Vl k keep Z) S) λo S1=>I (i+1) (acc++o.toList) S1):
  Sat (W6 C k keep tg cd el Z (g,ds) S) λd S1=>∃ys S0,I ds.length ys S0/\d=.loc S0.length/\S1=S0++[.lst ys]:=
 (Wbf I hl same ht _ 0 [] S (by simp) h0).p1 λys S0 h=>.ok ⟨ys,S0,h,rfl,rfl⟩
def Jjm{α:Type}{xs:List α}(h:α->D)(f:α->Option D)(hl:xs.length<=1000000)(hg:g=none\/∃l,g=some (l,.lst)/\S[l]? =some (.lst (xs.map h)))
  (ht:∀x∈xs,V7 C tg cd el (h x) (Vl k keep Z) S=.ok (f x) S):W6 C k keep tg cd el Z (g,xs.map h) S=.ok (.loc S.length) (S++[.lst (xs.filterMap f)]):=by
 obtain⟨d,S1,e,ys,S0,⟨rfl,rfl⟩,rfl,rfl⟩:=comp (C:=C) (g:=g) (S:=S) (Z:=Z) (k:=k) (keep:=keep) (tg:=tg) (cd:=cd) (el:=el) (ds:=xs.map h) (λi acc S1=>acc=(xs.take i).filterMap f/\S1=S) (by rw[Ah];exact Jow hl) ⟨by simp,rfl⟩
  (λi acc S1 ⟨h1,h2⟩=>⟨by rw[h1];exact Bl (List.length_filterMap_le _ _) (by simp;lia),by rcases hg with rfl|⟨l,rfl,hs⟩<;>first|rfl|(rw[h2];exact Jeh hs)⟩)
  (λi acc S1 hi ⟨h1,h2⟩=>by
   have hx:i<xs.length:=by simpa using hi
   refine⟨h xs[i],?_,?_⟩
   ·rcases hg with rfl|⟨l,rfl,hs⟩
    ·simp[nth,hx]
    ·simp[nth,seqAt,h2,hs,hx]
   ·rw[h2,ht _ (He hx)];refine .ok ⟨?_,rfl⟩;rw[h1,Eb,Ag hx,List.filterMap_append];simp only[Sx,Fc,List.filterMap_nil];cases f xs[i]<;>rfl)
 rw[e,show(xs.map h).length=xs.length by simp,Hc]
def Ja7{α:Type}{xs:List α}(h:α->D)(f:α->D)(hl:xs.length<=1000000)(hg:g=none\/∃l,g=some (l,.lst)/\S[l]? =some (.lst (xs.map h)))
  (ht:∀x∈xs,V7 C tg cd el (h x) (Vl k keep Z) S=.ok (some (f x)) S):W6 C k keep tg cd el Z (g,xs.map h) S=.ok (.loc S.length) (S++[.lst (xs.map f)]):=by
 rw[Jjm h (λx=>some (f x)) hl hg ht];simp
def Jtu{b:Bool}{keep:List Nat}{tg el:M}{l:Nat}{kvs:List (Rdu.PK×D)}(f:Rdu.PK×D->D)(h:S[l]? =some (.dtu kvs))(hl:kvs.length<=1000000)
  (ht:∀p∈kvs,V7 C tg .nul el (dwI b p) (Vl 1 keep Z) (S.set l (.fz kvs))=.ok (some (f p)) (S.set l (.fz kvs))):Za C b keep tg el Z (.loc l) S=.ok (.loc S.length) (S++[.lst (kvs.map f)]):=by
 have lt:=(Ae.mp h).1;obtain⟨ys,S',e1,e2⟩:=Res.bind_eq_ok (Ja7 (dwI b) f hl (.inl rfl) ht);injection e2 with _ e3;obtain⟨rfl,e4⟩:=List.append_inj' e3 rfl;cases e4;simp only[Za,frD,dtAt,h,Res.bind_ok];have e1:V3 (V7 C tg .nul el) none (kvs.map (dwI b)) (kvs.map (dwI b)).length 0 (Vl 1 keep Z) (S.set l (.fz kvs)) []=.ok (kvs.map f) (S.set l (.fz kvs)):=e1;rw[e1];simp only[Res.bind_ok,thD,B5 lt];rw[List.set_append_left _ _ (by simpa using lt),List.set_set,Dt,show S.set l (.dtu kvs)=S by rw[<-(Ae.mp h).2];exact P9 lt]
end
section
variable {S:Store} {l:Nat} {ds:List D} {d:D} {i:Int}
def Jcc(e:atI ds i=some d):Jao (.tup ds) (.int i) S=.ok d S:=by simp only[Jao,Jty e]
def Jaq(h:S[l]? =some (.lst ds))(e:atI ds i=some d):Jao (.loc l) (.int i) S=.ok d S:=by simp only[Jao,Jmk h e]
def at0{α:Type}{a:α}{r:List α}{k:Nat}{x:α}(h:(a::r)[k]? =some x):atI (a::r) (k:Int)=some x:=by rw[Jur (Ae.mp h).1];exact h
@[simp]theorem Jbn{a:D}:Jao (.tup (a::ds)) (.int 0) S=.ok a S:=Jcc (at0 (k:=0) rfl)
@[simp]theorem Jd9{a b:D}:Jao (.tup (a::b::ds)) (.int 1) S=.ok b S:=Jcc (at0 (k:=1) rfl)
@[simp]theorem Jjl{a b c:D}:Jao (.tup (a::b::c::ds)) (.int 2) S=.ok c S:=Jcc (at0 (k:=2) rfl)
@[simp]theorem Jo3{a b c e:D}:Jao (.tup (a::b::c::e::ds)) (.int 3) S=.ok e S:=Jcc (at0 (k:=3) rfl)
@[simp]theorem Jyn{a b c e f x:D}:Jao (.tup (a::b::c::e::f::x::ds)) (.int 5) S=.ok x S:=Jcc (at0 (k:=5) rfl)
def Jzz{α:Type}{xs:List α}(h0:0<=i)(h1:i<xs.length):∃x,atI xs i=some x/\x∈xs:=let⟨x,a,b,_⟩:=Jye h0 h1;⟨x,a,b⟩
def Jpw{α:Type}{xs:List α}{x:α}:atI (xs++[x]) (-1)=some x:=by
 have h1:¬(0:Int)<= -1:=by decide
 have h2: -(((xs++[x]).length:Nat):Int)<= -1:=by simp;lia
 simp only[atI,ixN,if_neg h1,if_pos h2,G6];have:(-1+(((xs++[x]).length:Nat):Int)).toNat=xs.length:=by simp;lia
 rw[this];simp
def Jo5{α:Type}{xs:List α}{x:α}:ixN (xs++[x]).length (-1)=some xs.length:=by
 have h1:¬(0:Int)<= -1:=by decide
 have h2: -(((xs++[x]).length:Nat):Int)<= -1:=by simp;lia
 simp only[ixN,if_neg h1,if_pos h2];congr 1;simp;lia
def Jc5(h:S[l]? =some (.lst (ds++[d]))):Jao (.loc l) (.int (-1)) S=.ok d S:=Jaq h Jpw
def Jnx{e:D}(h:S[l]? =some (.lst (ds++[d]))):We (.loc l) (.int (-1)) e S=.ok () (S.set l (.lst (ds++[e]))):=by
 rw[Jij h Jo5];simp
def Jf5(h:S[l]? =some (.lst (ds++[d]))):Vo .pop0 (.loc l) [] S=.ok d (S.set l (.lst ds)):=by
 have:(ds++[d])[(ds++[d]).length-1]? =some d:=by simp
 delta Vo;simp only[h,this,List.dropLast_concat]
def Jfv(h:S[l]? =some (.lst ds)):tru S (.loc l)=some (!ds.isEmpty):=by simp only[tru,seqAt,h]
def set_same(h:S[l]? =some o):S.set l o=S:=by
 obtain⟨h1,rfl⟩:=Ae.mp h;exact P9 h1
@[simp]theorem Jp8:tru S (.bl b)=some b:=rfl
@[simp]theorem Jqt:Ac a=Ac b↔a=b:=⟨Jip,λh=>h▸rfl⟩
@[simp]theorem Jqu:(Ac a==Ac b)=(a==b):=by
 rw[Na];simp
def Jd6(h:S[l]? =some (.lst ds)):Wm (.loc l) lo hi S=.ok (.loc S.length) (S++[.lst (cutD ds lo hi)]):=by simp only[Wm,seqAt,h]
def Jgl(h0:0<=i):cutD ds (some i) none=ds.drop i.toNat:=by
 simp only[cutD,HT.sIx];rw[if_neg (by lia)]
 by_cases h:i.toNat<=ds.length
 ·rw[show min i.toNat ds.length=i.toNat by lia];rw[Ek (by rw[Jv];lia)]
 ·rw[J3 (by lia:ds.length<=i.toNat),J3 (by lia),List.take_nil]
def Jjq(h0:0<=i):cutD ds none (some i)=ds.take i.toNat:=by
 simp only[cutD,HT.sIx];rw[if_neg (by lia)];simp only[T2,Ie]
 by_cases h:i.toNat<=ds.length
 ·rw[show min i.toNat ds.length=i.toNat by lia]
 ·rw[show min i.toNat ds.length=ds.length by lia,Ek (Aj _),Ek (by lia)]
variable {kvs:List (Int×D)} {cs:List (Rdu.PK×D)} {fs:List (String×D)} {c f m:String} {x:Int} {p:Rdu.PK}
def Ja6(h:S[l]? =some (.lst ds)):seqAt S l=some ds:=by unfold seqAt;rw[h]
def Jbi(hm:isDm me=false)(h:S[l]? =some (.lst ds)):rcv me S (.loc l)=true:=by simp[rcv,hm,Ja6 h]
def Jf9(h:S[l]? =some (.ins c fs)):Wv S l c=some fs:=by unfold Wv;rw[h];simp
def Jet(h:S[l]? =some (.ins c fs))(e:fs.lookup f=some d):Ys c f (.loc l) S=.ok d S:=by simp only[Ys,X5,Jf9 h,e]
def Jpc(h:S[l]? =some (.ins c fs))(e:fs.lookup m=none):isRec S (.loc l) c m=true:=by simp only[isRec,Jf9 h,e,Option.isNone_none]
def Jfy(h:S[l]? =some (.ins c fs))(hl:fs.length<1000):Jts c f Z v (.loc l) S=.ok (.nx Z) (S.set l (.ins c (putD f v fs))):=by simp only[Jts,Y6,Jf9 h,if_pos hl]
def Jug(h:S[l]? =some (.dct kvs)):cop .inn (.int x) (.loc l) S=some (dVal kvs x).isSome:=by simp[cop,Vp,seqAt,h,dIn,W0]
def Juf(h:S[l]? =some (.dtu cs)):cop .inn (dK p) (.loc l) S=some (dVal cs p).isSome:=by simp[cop,Vp,seqAt,h,dIn,W0,kyD]
def Jpr(h:S[l]? =some (.dtu cs)):cop .nin (dK p) (.loc l) S=some (!(dVal cs p).isSome):=by simp[cop,Vp,seqAt,h,dIn,W0,kyD]
def Jf7(h:S[l]? =some (.dtu cs))(e:dVal cs p=some d):Jao (.loc l) (dK p) S=.ok d S:=by simp[Jao,idxD,Vp,seqAt,h,W0,kyD,e]
def Jnz(h:S[l]? =some (.dct kvs))(hl:kvs.length<Line):We (.loc l) (.int x) v S=.ok () (S.set l (.dct (dPut kvs x v))):=by simp only[We,h,if_pos hl]
def Jtt(h:S[l]? =some (.fz cs))(e:dVal cs p=some d):Jao (.loc l) (dK p) S=.ok d S:=by simp[Jao,idxD,Vp,seqAt,h,W0,kyD,e]
def Jny(h:S[l]? =some (.dtu cs))(hl:cs.length<Line):We (.loc l) (dK p) v S=.ok () (S.set l (.dtu (dPut cs p v))):=by simp only[We,h,kyD,if_pos hl]
def Zs(hm:isDm me=true)(h:S[l]? =some (.dtu cs)):rcv me S (.loc l)=true:=by simp[rcv,hm,dtAt,h]
def Jl4(h:S[l]? =some (.dtu cs)):Vo .get1 (.loc l) [dK p] S=.ok ((dVal cs p).getD .non) S:=by delta Vo;simp[W0,h,kyD]
def Jl2(h:S[l]? =some (.dtu cs))(e:dVal cs p=some d):Vo .pop1 (.loc l) [dK p] S=.ok d (S.set l (.dtu (dDrop cs p))):=by delta Vo;simp[dtAt,h,kyD,e]
def Jtr(h:S[l]? =some (.dct kvs)):Vh .len [.loc l] S=.ok (.int kvs.length) S:=by delta Vh;simp[Vp,seqAt,h,dctAt]
def Jov(h:S[l]? =some (.dct kvs)):Vh .list1 [.loc l] S=.ok (.loc S.length) (S++[.lst (kvs.map λp=>.int p.1)]):=by delta Vh;simp[Vp,seqAt,h,dctAt]
def Jgi(h:S[l]? =some (.dct kvs)):Vh .dict1 [.loc l] S=.ok (.loc S.length) (S++[.dct kvs]):=by delta Vh;simp[h]
def Jgh(h:S[l]? =some (.dtu cs))(ha:Ye (cs.map (·.1))=true):Vh .dict1 [.loc l] S=.ok (.loc S.length) (S++[.dtu cs]):=by delta Vh;simp[h,ha]
def Jnr(h:S[l]? =some (.dtu cs))(ha:upB (cs.map (·.1))=true)(hl:cs.length<Line):Vh .sort1 [.loc l] S=.ok (.loc S.length) (S++[.lst (cs.map λp=>dK p.1)]):=by delta Vh;simp[dtAt,h,ha,hl]
def Jpg(h:S[l]? =some (.dtu cs))(ha:upB (cs.map (·.1))=true)(hl:cs.length<Line):Yw (.loc l) S=.ok (.loc S.length) (S++[.dtu cs]):=by simp[Yw,dtAt,h,ha,hl]
def Jmb(h:S[l]? =some (.lst ds)):Yt (.loc l) S=.ok (some (l,.enm),ds) S:=by simp only[Yt,Ja6 h]
end
end Mi
namespace K26
open PySem L2 Mi
section
local macro_rules|`(#[])=>`(M.nul)|`(#[$a])=>`(M.cns $a M.nul)|`(#[$a,$b,*])=>`(M.cns $a #[$b,*])|`(‹$n›)=>`(M.cst (D.int $n))|`(↑$n)=>`(M.var $n)
noncomputable def Jba:Fn:=⟨["self"],.range 1,#[.sfd "Hoard" "unspent" ↑0 (.dnil 1),.sfd "Hoard" "done" ↑0 (.dnil 0)]⟩
noncomputable def Jbj:Fn:=⟨["self"],.range 2,#[.asg (.tvar 1) (.new "Hoard" "Hoard.__init__"),.sfd "Hoard" "unspent" ↑1 (.prim .dict1 #[.fld "Hoard" "unspent" ↑0]),.sfd "Hoard" "done" ↑1 (.prim .dict1 #[.fld "Hoard" "done" ↑0]),.ret ↑1]⟩
noncomputable def Jb3:Fn:=⟨["self"],.range 1,#[.ret (.hld (.fld "Hoard" "unspent" ↑0))]⟩
noncomputable def Jbq:Fn:=⟨["self"],.range 1,#[.ret (.prim .sum1 #[.dcm true ["kept"] [] (.tvar 0) (.fld "Hoard" "unspent" ↑0) (.idx ↑0 (.glb "WORTH"))])]⟩
noncomputable def Jcs:Fn:=⟨["self","number"],.range 2,#[.ret (.cmp .inn ↑1 (.fld "Hoard" "done" ↑0))]⟩
noncomputable def Ja2:Fn:=⟨["self","deed","height"],.range 5,#[.ifs (.mcl "Hoard" "did" "Hoard.did" ↑0 #[.idx ↑1 ‹0›]) #[.ret (.cst (.str "known"))] .nul,.ifs (.call "has_twice" #[.call "spent_by" #[↑1]]) #[.ret (.cst (.str "twice"))] .nul,.forr (.tvar 3) #[.idx ↑1 ‹1›] #[.asg (.tvar 4) (.mcl "Hoard" "fault_of_in" "Hoard.fault_of_in" ↑0 #[↑3,↑1,↑2]),.ifs (.cmp .isnc ↑4 (.cst .non)) #[.ret ↑4] .nul],.ifs (.bo true #[.nott (.call "is_maker" #[↑1]),.cmp .gt (.call "worth_of" #[↑1]) (.mcl "Hoard" "worth_spent" "Hoard.worth_spent" ↑0 #[↑1])]) #[.ret (.cst (.str "less"))] .nul,.ret (.cst .non)]⟩
noncomputable def Jap:Fn:=⟨["self","part","deed","height"],.range 5,#[.asg (.tvar 4) (.meth .get1 (.fld "Hoard" "unspent" ↑0) #[.idx ↑1 ‹0›]),.ifs (.cmp .isc ↑4 (.cst .non)) #[.ret (.cst (.str "gone"))] .nul,.ifs (.cmp .lt ↑3 (.idx ↑4 (.glb "FREE"))) #[.ret (.cst (.str "green"))] .nul,.ifs (.nott (.call "opens" #[.idx ↑4 (.glb "LOCK"),.idx ↑1 ‹1›,.call "facts_of" #[↑4,↑2,↑3]])) #[.ret (.cst (.str "shut"))] .nul,.ret (.cst .non)]⟩
noncomputable def Jbr:Fn:=⟨["self","deed"],.range 2,#[.ret (.ife (.call "is_maker" #[↑1]) ‹0› (.bin .sub (.mcl "Hoard" "worth_spent" "Hoard.worth_spent" ↑0 #[↑1]) (.call "worth_of" #[↑1])))]⟩
noncomputable def Jaz:Fn:=⟨["self","deed"],.range 2,#[.ret (.prim .sum1 #[.comp ["coin","self"] 1 [0] (.tvar 0) #[.call "spent_by" #[↑1]] .nul (.idx (.idx (.fld "Hoard" "unspent" ↑1) ↑0) (.glb "WORTH"))])]⟩
noncomputable def Jds:Fn:=⟨["self","deed","height","free"],[0,1,2,3,4,6,5,7],#[.asg (.tvar 4) (.mcl "Hoard" "fault" "Hoard.fault" ↑0 #[↑1,↑2]),.ifs (.cmp .isnc ↑4 (.cst .non)) #[.rse "NoFit" ↑4] .nul,.asg (.tvar 5) (.tup #[↑1,.prim .tuple1 #[.comp ["coin","self"] 1 [0] (.tvar 0) #[.call "spent_by" #[↑1]] .nul (.tup #[↑0,.idx (.fld "Hoard" "unspent" ↑1) ↑0])]]),.forr (.tvar 6) #[.call "spent_by" #[↑1]] #[.exp (.meth .pop1 (.fld "Hoard" "unspent" ↑0) #[↑6])],.forr (.ttup #[.tvar 6,.tvar 7]) (.zp (.call "made_by" #[↑1]) (.idx ↑1 ‹2›)) #[.asg (.tsub (.fld "Hoard" "unspent" ↑0) ↑6) (.tup #[.idx ↑7 ‹0›,.idx ↑7 ‹1›,↑2,↑3])],.asg (.tsub (.fld "Hoard" "done" ↑0) (.idx ↑1 ‹0›)) (.cst (.bl true)),.ret ↑5]⟩
noncomputable def Jdp:Fn:=⟨["deed"],.range 1,#[.ret (.cmp .eq (.prim .len #[.idx ↑0 ‹1›]) ‹0›)]⟩
noncomputable def Jew:Fn:=⟨["deed"],.range 1,#[.ret (.comp ["place","deed"] 1 [0] (.tvar 0) (.rng (.prim .len #[.idx ↑0 ‹2›])) .nul (.tup #[.idx ↑1 ‹0›,↑0]))]⟩
noncomputable def Jdj:Fn:=⟨["deed"],.range 1,#[.ret (.prim .sum1 #[.comp ["out"] 1 [] (.tvar 0) #[.idx ↑0 ‹2›] .nul (.idx ↑0 ‹0›)])]⟩
noncomputable def Jmr:Fn:=⟨["rules","height"],.range 4,#[.asg (.tvar 2) (.idx ↑0 ‹0›),.asg (.tvar 3) (.prim .max2 #[.bin .fdiv (.bin .sub ↑1 ‹1›) (.idx ↑0 ‹1›),‹0›]),.ret (.bin .shr ↑2 (.prim .min2 #[↑3,.bit ↑2]))]⟩
noncomputable def Jbp:Fn:=⟨["hoard","block","height","rules"],.range 9,#[.asg (.tvar 4) (.mcl "Hoard" "copied" "Hoard.copied" ↑0 .nul),.asg (.tvar 5) ‹0›,.forr (.ttup #[.tvar 6,.tvar 7]) (.enm (.idx ↑1 ‹3›)) #[.asg (.tvar 8) (.mcl "Hoard" "fault" "Hoard.fault" ↑4 #[↑7,↑2]),.ifs (.cmp .isnc ↑8 (.cst .non)) #[.ret (.tup #[↑6,↑8])] .nul,.aug 5 (.mcl "Hoard" "fee" "Hoard.fee" ↑4 #[↑7]),.exp (.mcl "Hoard" "do" "Hoard.do" ↑4 #[↑7,↑2,.call "free_from" #[↑7,↑2,↑3]])],.ifs (.cmp .gt (.call "worth_of_makers" #[↑1]) (.bin .add (.call "gift" #[↑3,↑2]) ↑5)) #[.ret (.tup #[‹0›,.cst (.str "much")])] .nul,.ret (.cst .non)]⟩
noncomputable def Jdr:Fn:=⟨["hoard","block","height","rules"],.range 5,#[.asg (.tvar 4) (.call "block_fault" #[↑0,↑1,↑2,↑3]),.ifs (.cmp .isnc ↑4 (.cst .non)) #[.rse "BadBlock" ↑4] .nul,.ret (.comp ["deed","height","hoard","rules"] 1 [2,0,3] (.tvar 0) #[.idx ↑1 ‹3›] .nul (.mcl "Hoard" "do" "Hoard.do" ↑2 #[↑0,↑1,.call "free_from" #[↑0,↑1,↑3]]))]⟩
noncomputable def Jcr:Fn:=⟨["deed","height","rules"],.range 3,#[.ret (.ife (.call "is_maker" #[↑0]) (.bin .add ↑1 (.idx ↑2 ‹2›)) ↑1)]⟩
noncomputable def Ja3:Fn:=⟨["block"],.range 1,#[.ret (.prim .sum1 #[.comp ["deed"] 1 [] (.tvar 0) #[.idx ↑0 ‹3›] #[.call "is_maker" #[↑0]] (.call "worth_of" #[↑0])])]⟩
noncomputable def Jiv:Fn:=⟨["lock","keys","facts"],.range 7,#[.asg (.tvar 3) (.lst .nul),.asg (.tvar 4) (.lst .nul),.ifs (.nott (.call "lay" #[↑3,↑1])) #[.ret (.cst (.bl false))] .nul,.forr (.tvar 5) #[↑0] #[.ifs (.cmp .inn (.idx ↑5 ‹0›) (.tup #[.cst (.str "if"),.cst (.str "else"),.cst (.str "end")])) #[.asg (.tvar 6) (.nott (.call "turn" #[.idx ↑5 ‹0›,↑4,↑3]))] #[.asg (.tvar 6) (.bo true #[.call "is_done" #[↑4],.nott (.call "do_row" #[↑5,↑3,↑2])])],.ifs ↑6 #[.ret (.cst (.bl false))] .nul],.ret (.bo true #[.cmp .gt (.prim .len #[↑3]) ‹0›,.cmp .ne (.idx ↑3 (.neg ‹1›)) ‹0›])]⟩
noncomputable def Jc7:Fn:=⟨["parts"],.range 1,#[.ret (.bo false #[.nott ↑0,.idx (.idx ↑0 (.neg ‹1›)) ‹0›])]⟩
noncomputable def Jt3:Fn:=⟨["pile","numbers"],.range 3,#[.forr (.tvar 2) #[↑1] #[.ifs (.bo false #[.cmp .ge (.prim .abs #[↑2]) (.bin .pow ‹10› ‹60›),.cmp .ge (.prim .len #[↑0]) (.glb "MOST_LYING")]) #[.ret (.cst (.bl false))] .nul,.exp (.meth .append ↑0 #[↑2])],.ret (.cst (.bl true))]⟩
noncomputable def Jhk:Fn:=⟨["word","parts","pile"],.range 4,#[.ifs (.cmp .eq ↑0 (.cst (.str "end"))) #[.exp (.meth .pop0 ↑1 .nul)] #[.ifs (.cmp .eq ↑0 (.cst (.str "else"))) #[.asg (.tsub ↑1 (.neg ‹1›)) (.tup #[.idx (.idx ↑1 (.neg ‹1›)) ‹1›,.cst (.bl false)])] #[.ifs (.nott (.call "is_done" #[↑1])) #[.exp (.meth .append ↑1 #[.tup #[.cst (.bl false),.cst (.bl false)]])] #[.ifs (.nott ↑2) #[.ret (.cst (.bl false))] #[.asg (.tvar 3) (.meth .pop0 ↑2 .nul),.exp (.meth .append ↑1 #[.tup #[.cmp .ne ↑3 ‹0›,.cmp .eq ↑3 ‹0›]])]]]],.ret (.cst (.bl true))]⟩
noncomputable def Jgc:Fn:=⟨["row","pile","facts"],.range 4,#[.ifs (.nott (.call "has_enough" #[↑0,↑1])) #[.ret (.cst (.bl false))] .nul,.asg (.tvar 3) (.call "take" #[↑1,.meth .get2 (.glb "TAKEN") #[.idx ↑0 ‹0›,‹0›]]),.ifs (.cmp .eq (.idx ↑0 ‹0›) (.cst (.str "need"))) #[.ret (.cmp .ne (.idx ↑3 ‹0›) ‹0›)] .nul,.ret (.call "lay" #[↑1,.call "laid_by" #[↑0,↑3,↑1,↑2]])]⟩
noncomputable def Jb1:Fn:=⟨["row","pile"],.range 2,#[.ifs (.cmp .eq (.idx ↑0 ‹0›) (.cst (.str "copy"))) #[.ret (.cmp2 .le .lt ‹0› (.idx ↑0 ‹1›) (.prim .len #[↑1]))] .nul,.ret (.cmp .le (.meth .get2 (.glb "TAKEN") #[.idx ↑0 ‹0›,‹0›]) (.prim .len #[↑1]))]⟩
noncomputable def Jmq:Fn:=⟨["pile","count"],.range 4,#[.asg (.tvar 2) (.sli ↑0 #[.bin .sub (.prim .len #[↑0]) ↑1] .nul),.forr (.tvar 3) #[↑2] #[.exp (.meth .pop0 ↑0 .nul)],.ret ↑2]⟩
noncomputable def Jb0:Fn:=⟨["row","taken","pile","facts"],.range 5,#[.asg (.tvar 4) (.idx ↑0 ‹0›),.ifs (.cmp .eq ↑4 (.cst (.str "push"))) #[.ret (.lst #[.idx ↑0 ‹1›])] .nul,.ifs (.cmp .eq ↑4 (.cst (.str "copy"))) #[.ret (.lst #[.idx ↑2 (.bin .sub (.neg ‹1›) (.idx ↑0 ‹1›))])] .nul,.ifs (.cmp .eq ↑4 (.cst (.str "paid"))) #[.ret (.lst #[.call "paid_at" #[.idx ↑3 (.glb "PAID"),.idx ↑0 ‹1›]])] .nul,.ifs (.cmp .inn ↑4 (.glb "FACT_WORDS")) #[.ret (.lst #[.idx ↑3 (.meth .indexT (.glb "FACT_WORDS") #[↑4])])] .nul,.ifs (.cmp .eq ↑4 (.cst (.str "drop"))) #[.ret (.lst .nul)] .nul,.ifs (.cmp .eq ↑4 (.cst (.str "swap"))) #[.ret (.lst #[.idx ↑1 ‹1›,.idx ↑1 ‹0›])] .nul,.ifs (.cmp .eq ↑4 (.cst (.str "not"))) #[.ret (.lst #[.ife (.cmp .eq (.idx ↑1 ‹0›) ‹0›) ‹1› ‹0›])] .nul,.ret (.lst #[.call "outcome" #[↑4,.idx ↑1 ‹0›,.idx ↑1 ‹1›]])]⟩
noncomputable def Jby:Fn:=⟨["paid","place"],.range 2,#[.ret (.ife (.cmp2 .le .lt ‹0› ↑1 (.prim .len #[↑0])) (.idx ↑0 ↑1) ‹0›)]⟩
noncomputable def Jc6:Fn:=⟨["word","a","b"],.range 3,#[.ifs (.cmp .eq ↑0 (.cst (.str "add"))) #[.ret (.bin .add ↑1 ↑2)] .nul,.ifs (.cmp .eq ↑0 (.cst (.str "sub"))) #[.ret (.bin .sub ↑1 ↑2)] .nul,.ifs (.cmp .eq ↑0 (.cst (.str "mul"))) #[.ret (.bin .mul ↑1 ↑2)] .nul,.ifs (.cmp .eq ↑0 (.cst (.str "less"))) #[.ret (.ife (.cmp .lt ↑1 ↑2) ‹1› ‹0›)] .nul,.ret (.ife (.cmp .eq ↑1 ↑2) ‹1› ‹0›)]⟩
noncomputable def Jdk:Fn:=⟨["deed"],.range 1,#[.ret (.comp ["part"] 1 [] (.tvar 0) #[.idx ↑0 ‹1›] .nul (.idx ↑0 ‹0›))]⟩
noncomputable def Jcq:Fn:=⟨["coins"],.range 1,#[.ret (.cmp .lt (.lsp ↑0) (.prim .len #[↑0]))]⟩
noncomputable def Jdq:Fn:=⟨["kept","deed","height"],.range 5,#[.asg (.tvar 3) (.prim .max2 #[.bin .sub ↑2 (.idx ↑0 (.glb "MADE")),‹0›]),.asg (.tvar 4) (.prim .tuple1 #[.comp ["out"] 1 [] (.tvar 0) #[.idx ↑1 ‹2›] .nul (.idx ↑0 ‹0›)]),.ret (.tup #[↑2,↑3,.idx ↑0 (.glb "WORTH"),.prim .len #[.idx ↑1 ‹1›],.prim .len #[.idx ↑1 ‹2›],↑4])]⟩
noncomputable def Jcn:Fn:=⟨["_law_cell"],.range 1,#[.ret (.bin .mod (.bin .mul (.bin .mul (.bin .add (.bin .mod ↑0 ‹2147483647›) ‹11›) ‹48271›) ‹69621›) ‹2147483629›)]⟩
noncomputable def Jbz:Fn:=⟨["_law_cell","_law_k","_law_digits"],.range 4,#[.asg (.tvar 3) (.bin .mod (.bin .add (.call "_law_mixed" #[↑0]) (.bin .mul ‹69621› ↑1)) ‹2147483629›),.ifs ↑2 #[.ret (.lst #[.bin .fdiv (.bin .mod ↑0 (.bin .mul (.bin .pow ‹10› ‹60›) (.bin .pow ‹10› ‹60›))) (.bin .add ‹1› (.prim .int1 #[.cmp .eq ↑1 ‹0›])),.cst (.bl true),↑3])] .nul,.ret (.lst #[↑3,.cst (.bl false),↑3])]⟩
noncomputable def Jbk:Fn:=⟨["_law_stream_here","_law_many"],.range 3,#[.ifs (.bo true #[.idx ↑0 ‹1›,.cmp .gt (.idx ↑0 ‹0›) ‹1›]) #[.asg (.tvar 2) (.bin .mod (.idx ↑0 ‹0›) ↑1),.asg (.tsub ↑0 ‹0›) (.bin .fdiv (.idx ↑0 ‹0›) ↑1),.ret ↑2] .nul,.ifs (.idx ↑0 ‹1›) #[.asg (.tsub ↑0 ‹0›) (.idx ↑0 ‹2›),.asg (.tsub ↑0 ‹1›) (.cst (.bl false))] .nul,.asg (.tsub ↑0 ‹0›) (.bin .mod (.bin .add (.bin .mul (.idx ↑0 ‹0›) ‹48271›) ‹11›) ‹2147483629›),.ret (.bin .mod (.bin .fdiv (.idx ↑0 ‹0›) ‹7›) ↑1)]⟩
noncomputable def Jbb:Fn:=⟨["_law_script"],.range 2,#[.asg (.tvar 1) (.bo true #[.cmp .gt (.prim .len #[↑0]) ‹0›,.cmp .eq (.bin .mod (.idx ↑0 ‹0›) ‹2›) ‹1›]),.ret (.comp ["_law_k","_law_cell","_law_digits"] 2 [1] (.ttup #[.tvar 0,.tvar 1]) (.enm (.sli (.bin .add ↑0 (.lst #[‹0›])) .nul #[‹60›])) .nul (.call "_law_stream" #[↑1,↑0,↑2]))]⟩
noncomputable def V1:Fn:=⟨["_law_stream_here"],.range 6,#[.asg (.tvar 1) (.bin .sub (.call "_law_take" #[↑0,‹2000›]) ‹1000›),.asg (.tvar 2) (.tup #[.cst (.str "push"),.bin .mod (.prim .abs #[↑1]) ‹9›]),.asg (.tvar 3) (.lst #[.tup .nul,.tup #[.tup #[.cst (.str "push"),‹1›]],.tup #[.tup #[.cst (.str "push"),↑1],.tup #[.cst (.str "same")]],.tup #[.tup #[.cst (.str "height")],↑2,.tup #[.cst (.str "less")],.tup #[.cst (.str "not")]]]),.exp (.meth .append ↑3 #[.tup #[.tup #[.cst (.str "age")],.tup #[.cst (.str "push"),.bin .mod (.prim .abs #[↑1]) ‹4›],.tup #[.cst (.str "less")],.tup #[.cst (.str "not")]]]),.exp (.meth .append ↑3 #[.tup #[.tup #[.cst (.str "if")],.tup #[.cst (.str "push"),↑1],.tup #[.cst (.str "same")],.tup #[.cst (.str "else")],.tup #[.cst (.str "push"),‹1›],.tup #[.cst (.str "end")]]]),.exp (.meth .append ↑3 #[.tup #[.tup #[.cst (.str "worth")],↑2,.tup #[.cst (.str "less")],.tup #[.cst (.str "not")]]]),.exp (.meth .append ↑3 #[.tup #[.tup #[.cst (.str "ins")],.tup #[.cst (.str "push"),.bin .add ‹1› (.bin .mod (.prim .abs #[↑1]) ‹3›)],.tup #[.cst (.str "same")]]]),.exp (.meth .append ↑3 #[.tup #[.tup #[.cst (.str "outs")],.tup #[.cst (.str "push"),.bin .add ‹1› (.bin .mod (.prim .abs #[↑1]) ‹3›)],.tup #[.cst (.str "same")],.tup #[.cst (.str "not")]]]),.exp (.meth .append ↑3 #[.tup #[.tup #[.cst (.str "paid"),.bin .mod (.prim .abs #[↑1]) ‹2›],↑2,.tup #[.cst (.str "less")],.tup #[.cst (.str "not")]]]),.asg (.tvar 4) (.lst #[.tup #[.bin .add ‹1› (.prim .abs #[↑1])],.tup .nul,.tup #[↑1],.tup .nul,.tup .nul,.idx (.lst #[.tup #[↑1,‹1›],.tup #[‹0›]]) (.bin .mod ↑1 ‹2›)]),.asg (.tvar 5) (.call "_law_take" #[↑0,‹10›]),.ret (.tup #[.idx ↑3 ↑5,.idx (.bin .add ↑4 (.lst #[.tup .nul,.tup .nul,.tup .nul,.tup .nul])) ↑5])]⟩
noncomputable def Jdl:Fn:=⟨["_law_stream_here","_law_total","_law_ring"],.range 8,#[.asg (.tvar 3) (.lst .nul),.forr (.tvar 4) (.rng (.call "_law_take" #[↑0,‹3›])) #[.ifs (.cmp .gt ↑1 ‹1›) #[.asg (.ttup #[.tvar 5,.tvar 6]) (.call "_law_lock" #[↑0]),.asg (.tvar 7) (.bin .add ‹1› (.call "_law_take" #[↑0,.bin .sub ↑1 ‹1›])),.asg (.tvar 1) (.bin .sub ↑1 ↑7),.asg (.tsub ↑2 ↑5) ↑6,.exp (.meth .append ↑3 #[.tup #[↑7,↑5]])] .nul],.asg (.ttup #[.tvar 5,.tvar 6]) (.call "_law_lock" #[↑0]),.asg (.tsub ↑2 ↑5) ↑6,.ret (.prim .tuple1 #[.bin .add ↑3 (.lst #[.tup #[↑1,↑5]])])]⟩
noncomputable def Jgb:Fn:=⟨["_law_stream_here","_law_coins","_law_ring"],.range 7,#[.asg (.tvar 3) (.prim .sort1 #[↑1]),.asg (.tvar 4) (.call "_law_take" #[↑0,‹12›]),.ifs (.bo false #[.cmp .eq ↑3 (.lst .nul),.cmp .eq ↑4 ‹0›]) #[.ret (.tup #[.tup #[.call "_law_take" #[↑0,‹90›],.call "_law_take" #[↑0,‹3›]],.tup .nul])] .nul,.asg (.tvar 5) (.idx ↑3 (.call "_law_take" #[↑0,.prim .len #[↑3]])),.asg (.tvar 6) (.idx ↑2 (.idx (.idx ↑1 ↑5) ‹1›)),.ifs (.cmp .eq ↑4 ‹1›) #[.asg (.tvar 6) (.bin .add ↑6 (.tup #[‹0›]))] .nul,.ret (.tup #[↑5,.sli ↑6 .nul #[‹10›]])]⟩
noncomputable def Jdo:Fn:=⟨["_law_stream_here","_law_number","_law_coins","_law_ring"],.range 9,#[.asg (.tvar 4) (.lst .nul),.forr (.tvar 5) (.rng (.bin .add ‹1› (.call "_law_take" #[↑0,‹3›]))) #[.asg (.tvar 6) (.call "_law_in" #[↑0,↑2,↑3]),.ifs (.bo false #[.cmp .nin (.idx ↑6 ‹0›) (.comp ["_law_other"] 1 [] (.tvar 0) #[↑4] .nul (.idx ↑0 ‹0›)),.cmp .eq (.call "_law_take" #[↑0,‹6›]) ‹0›]) #[.exp (.meth .append ↑4 #[↑6])] .nul],.asg (.tvar 7) (.prim .sum1 #[.comp ["_law_one","_law_coins"] 1 [2] (.tvar 0) #[↑4] #[.cmp .inn (.idx ↑0 ‹0›) ↑1] (.idx (.idx ↑1 (.idx ↑0 ‹0›)) ‹0›)]),.asg (.tvar 8) (.call "_law_take" #[↑0,‹8›]),.ifs (.cmp .eq ↑8 ‹0›) #[.asg (.tvar 7) (.bin .add ↑7 ‹1›)] .nul,.ifs (.bo true #[.cmp .gt ↑8 ‹4›,.cmp .gt ↑7 ‹1›]) #[.asg (.tvar 7) (.bin .add ‹1› (.call "_law_take" #[↑0,↑7]))] .nul,.ret (.tup #[↑1,.prim .tuple1 #[↑4],.call "_law_outs" #[↑0,.prim .min2 #[.bin .pow ‹10› ‹40›,.prim .max2 #[‹1›,↑7]],↑3]])]⟩
noncomputable def Jcd:Fn:=⟨["_law_coins","_law_done_here","_law_deed_here","_law_height"],.range 17,#[.asg (.ttup #[.tvar 4,.tvar 5,.tvar 6]) ↑2,.ifs (.cmp .inn ↑4 ↑1) #[.ret (.cst (.str "known"))] .nul,.asg (.tvar 7) (.comp ["_law_one"] 1 [] (.tvar 0) #[↑5] .nul (.idx ↑0 ‹0›)),.ifs (.cmp .lt (.lsp ↑7) (.prim .len #[↑7])) #[.ret (.cst (.str "twice"))] .nul,.forr (.ttup #[.tvar 8,.tvar 9]) #[↑5] #[.ifs (.cmp .nin ↑8 ↑0) #[.ret (.cst (.str "gone"))] .nul,.asg (.ttup #[.tvar 10,.tvar 11,.tvar 12,.tvar 13]) (.idx ↑0 ↑8),.ifs (.cmp .lt ↑3 ↑13) #[.ret (.cst (.str "green"))] .nul,.asg (.tvar 14) (.prim .tuple1 #[.comp ["_law_out"] 1 [] (.tvar 0) #[↑6] .nul (.idx ↑0 ‹0›)]),.asg (.tvar 15) (.tup #[↑3,.prim .max2 #[‹0›,.bin .sub ↑3 ↑12],↑10,.prim .len #[↑5],.prim .len #[↑6],↑14]),.ifs (.nott (.call "opens" #[↑11,↑9,↑15])) #[.ret (.cst (.str "shut"))] .nul],.asg (.tvar 16) (.prim .sum1 #[.comp ["_law_out"] 1 [] (.tvar 0) #[↑6] .nul (.idx ↑0 ‹0›)]),.ifs (.bo true #[.cmp .ne ↑5 (.tup .nul),.cmp .gt ↑16 (.prim .sum1 #[.comp ["_law_name","_law_coins"] 1 [0] (.tvar 0) #[↑7] .nul (.idx (.idx ↑1 ↑0) ‹0›)])]) #[.ret (.cst (.str "less"))] .nul,.ret (.cst .non)]⟩
noncomputable def Jex:Fn:=⟨["_law_coins","_law_done_here","_law_deed_here","_law_height","_law_free"],[0,1,2,3,4,6,7,8,9,5],#[.asg (.tvar 5) (.bin .sub ‹0› (.prim .sum1 #[.comp ["_law_out"] 1 [] (.tvar 0) #[.idx ↑2 ‹2›] .nul (.idx ↑0 ‹0›)])),.forr (.ttup #[.tvar 6,.tvar 7]) #[.idx ↑2 ‹1›] #[.asg (.tvar 5) (.bin .add ↑5 (.idx (.meth .pop1 ↑0 #[↑6]) ‹0›))],.forr (.ttup #[.tvar 8,.tvar 9]) (.enm (.idx ↑2 ‹2›)) #[.asg (.tsub ↑0 (.tup #[.idx ↑2 ‹0›,↑8])) (.tup #[.idx ↑9 ‹0›,.idx ↑9 ‹1›,↑3,↑4])],.asg (.tsub ↑1 (.idx ↑2 ‹0›)) (.cst (.bl true)),.ret (.bin .mul ↑5 (.prim .int1 #[.cmp .ne (.idx ↑2 ‹1›) (.tup .nul)]))]⟩
noncomputable def Jdn:Fn:=⟨["_law_rules_here","_law_height"],.range 4,#[.asg (.tvar 2) (.idx ↑0 ‹0›),.forr (.tvar 3) (.rng (.prim .min2 #[‹200›,.bin .fdiv (.bin .sub ↑1 ‹1›) (.idx ↑0 ‹1›)])) #[.asg (.tvar 2) (.bin .fdiv ↑2 ‹2›)],.ret ↑2]⟩
noncomputable def V2:Fn:=⟨["_law_coins","_law_done_here","_law_block_here","_law_height","_law_rules_here"],.range 9,#[.asg (.tvar 0) (.prim .dict1 #[↑0]),.asg (.tvar 1) (.prim .dict1 #[↑1]),.asg (.tvar 5) ‹0›,.forr (.ttup #[.tvar 6,.tvar 7]) (.enm (.idx ↑2 ‹3›)) #[.asg (.tvar 8) (.call "_law_word" #[↑0,↑1,↑7,↑3]),.ifs (.cmp .isnc ↑8 (.cst .non)) #[.ret (.tup #[.tup #[↑6,↑8],↑0,↑1,‹0›])] .nul,.asg (.tvar 5) (.bin .add ↑5 (.call "_law_put" #[↑0,↑1,↑7,↑3,.bin .add ↑3 (.bin .mul (.idx ↑4 ‹2›) (.prim .int1 #[.cmp .eq ↑6 ‹0›]))]))],.ifs (.cmp .gt (.prim .sum1 #[.comp ["_law_out"] 1 [] (.tvar 0) #[.idx (.idx (.idx ↑2 ‹3›) ‹0›) ‹2›] .nul (.idx ↑0 ‹0›)]) (.bin .add (.call "_law_gift" #[↑4,↑3]) ↑5)) #[.ret (.tup #[.tup #[‹0›,.cst (.str "much")],↑0,↑1,↑5])] .nul,.ret (.tup #[.cst .non,↑0,↑1,↑5])]⟩
noncomputable def tl:M:= #[.exp (.meth .append ↑10 #[.call "_law_deed" #[↑0,↑12,↑8,↑6]]),.ifs (.cmp .isc (.call "_law_word" #[↑8,↑9,.idx ↑10 (.neg ‹1›),↑4]) (.cst .non)) #[.exp (.call "_law_put" #[↑8,↑9,.idx ↑10 (.neg ‹1›),↑4,↑4])] .nul]
def lpB:M:=(.cns (.asg (.tvar 12) (.bin .add (.bin .add ↑1 ‹1›) ↑11)) (.cns (.asg (.tvar 13) (.call "_law_take" #[↑0,‹16›])) (.cns (.ifs (.cmp .eq ↑13 ‹0›) #[.asg (.tvar 12) (.idx (.prim .list1 #[↑9]) (.call "_law_take" #[↑0,.prim .len #[↑9]]))] .nul) tl)))
def rest:M:= #[.asg (.tvar 8) (.prim .dict1 #[↑2]),.asg (.tvar 9) (.prim .dict1 #[↑3]),.asg (.tvar 10) (.lst #[.tup #[↑1,.tup .nul,.call "_law_outs" #[↑0,.prim .min2 #[.bin .pow ‹10› ‹40›,↑7],↑6]]]),.exp (.call "_law_put" #[↑8,↑9,.idx ↑10 ‹0›,↑4,.bin .add ↑4 (.idx ↑5 ‹2›)]),.forr (.tvar 11) (.rng (.idx (.lst #[.call "_law_take" #[↑0,‹5›],.call "_law_take" #[↑0,‹12›]]) (.prim .int1 #[.cmp .eq (.call "_law_take" #[↑0,‹4›]) ‹3›]))) lpB,.asg (.tvar 14) (.comp ["_law_k","_law_stream_here"] 1 [0] (.tvar 0) (.rng ‹3›) .nul (.call "_law_take" #[↑1,.bin .pow ‹10› ‹30›])),.asg (.tvar 15) (.tup #[.bin .add ‹1› (.idx ↑14 ‹0›),.idx ↑14 ‹1›,.bin .add ‹1› (.idx ↑14 ‹2›),.prim .tuple1 #[↑10]]),.ifs (.cmp .eq (.call "_law_take" #[↑0,‹3›]) ‹0›) #[.asg (.tvar 16) (.idx (.call "_law_done" #[↑2,↑3,↑15,↑4,↑5]) ‹3›),.asg (.tvar 7) (.bin .add (.bin .add (.call "_law_gift" #[↑5,↑4]) ↑16) (.call "_law_take" #[↑0,‹2›])),.asg (.tvar 17) (.tup #[↑1,.tup .nul,.tup #[.tup #[.prim .min2 #[.bin .pow ‹10› ‹40›,.prim .max2 #[‹1›,↑7]],.idx (.idx (.idx (.idx ↑10 ‹0›) ‹2›) ‹0›) ‹1›]]]),.asg (.tvar 15) (.bin .add (.sli ↑15 .nul #[‹3›]) (.tup #[.bin .add (.tup #[↑17]) (.sli (.idx ↑15 ‹3›) #[‹1›] .nul)]))] .nul,.ret ↑15]
def Jco:Fn:=⟨["_law_stream_here","_law_first","_law_held","_law_known","_law_height","_law_rules_here","_law_ring"],.range 18,(.cns (.asg (.tvar 7) (.prim .max2 #[‹1›,.bin .sub (.bin .add (.call "_law_gift" #[↑5,↑4]) (.call "_law_take" #[↑0,‹4›])) ‹2›])) (.cns (.ifs (.cmp .eq (.call "_law_take" #[↑0,‹3›]) ‹0›) #[.asg (.tvar 7) (.bin .add ‹1› (.call "_law_take" #[↑0,↑7]))] .nul) rest))⟩
noncomputable def Jcm:Fn:=⟨["_law_stream_here"],.range 2,#[.asg (.tvar 1) (.idx (.lst #[‹0›,‹1›,‹7›,‹50›,‹1000›,.bin .pow ‹10› ‹40›]) (.call "_law_take" #[↑0,‹6›])),.ret (.tup #[↑1,.idx (.lst #[‹1›,‹2›,‹3›,‹1000›]) (.call "_law_take" #[↑0,‹4›]),.idx (.lst #[‹0›,‹0›,‹1›,‹2›,‹5›,‹1000›]) (.call "_law_take" #[↑0,‹6›])])]⟩
noncomputable def Jcp:Fn:=⟨["_law_script"],.range 4,#[.asg (.tvar 1) (.sli (.call "_law_streams" #[↑0]) .nul #[‹17›]),.asg (.tvar 2) (.call "_law_rules" #[.idx ↑1 ‹0›]),.asg (.tvar 3) (.idx (.lst #[‹0›,‹0›,‹3›,.call "_law_take" #[.idx ↑1 ‹0›,.bin .pow ‹10› ‹20›]]) (.call "_law_take" #[.idx ↑1 ‹0›,‹4›])),.ret (.tup #[.bin .add (.sli ↑1 #[‹1›] .nul) (.lst #[.call "_law_stream" #[‹7›,‹17›,.cst (.bl false)]]),↑2,↑3])]⟩
noncomputable def Jdm:Fn:=⟨["_law_stream_here","_law_rules_here","_law_height"],.range 3,#[.ret (.bin .add ↑2 (.idx (.lst #[‹1›,‹1›,‹1›,.prim .max2 #[‹1›,.idx ↑1 ‹2›],.prim .max2 #[‹1›,.bin .sub (.idx ↑1 ‹2›) ‹1›],.bin .add ‹1› (.call "_law_take" #[↑0,‹2000›])]) (.call "_law_take" #[↑0,‹6›])))]⟩
noncomputable def Jbc:Fn:=⟨["_law_hoard","_law_block_here","_law_height","_law_rules_here"],.range 6,#[.asg (.tvar 4) (.lst .nul),.tri "do_block" "do_block?" "CoinError" 5 4 [("BadBlock",true),("NoFit",false),("NoBlock",false),("ValueError",true)] #[↑0,↑1,↑2,↑3],.ret ↑4]⟩
noncomputable def tlL:M:= #[.ifs (.bo false #[.cmp .ne (.mcl "Hoard" "held" "Hoard.held" ↑4 .nul) ↑5,.cmp .ne (.mcl "Hoard" "total" "Hoard.total" ↑4 .nul) (.prim .sum1 #[.dcm false ["_law_name","_law_coins"] [5] (.tvar 0) ↑5 (.idx (.idx ↑1 ↑0) ‹0›)])]) #[.ret (.cst (.bl false))] .nul,.ifs (.nott (.prim .all1 #[.comp ["_law_deed_here","_law_done_here","_law_hoard"] 1 [6,4] (.tvar 0) #[.idx ↑10 ‹3›] .nul (.cmp .eq (.mcl "Hoard" "did" "Hoard.did" ↑2 #[.idx ↑0 ‹0›]) (.cmp .inn (.idx ↑0 ‹0›) ↑1))])) #[.ret (.cst (.bl false))] .nul]
def Z0:M:=(.cns (.asg (.tvar 3) (.call "_law_next" #[↑9,↑2,↑3])) (.cns (.asg (.tvar 10) (.call "_law_block" #[↑9,.bin .add (.bin .mul ‹20› ↑8) ‹1›,↑5,↑6,↑3,↑2,↑7])) (.cns (.asg (.ttup #[.tvar 11,.tvar 12,.tvar 13,.tvar 14]) (.call "_law_done" #[↑5,↑6,↑10,↑3,↑2])) (.cns (.asg (.tvar 15) (.call "_law_refused" #[↑4,↑10,↑3,↑2])) (.cns (.ifs (.cmp .ne ↑15 (.idx (.lst #[.lst #[.cst (.bl true),.cst (.bl false),.cst (.bl false),.cst (.bl true)],.lst .nul]) (.prim .int1 #[.cmp .isc ↑11 (.cst .non)]))) #[.ret (.cst (.bl false))] .nul) (.cns (.ifs (.cmp .isc ↑11 (.cst .non)) #[.asg (.tvar 5) ↑12,.asg (.tvar 6) ↑13] .nul) tlL))))))
def Jt4:Fn:=⟨["_law_script"],.range 16,#[.asg (.ttup #[.tvar 1,.tvar 2,.tvar 3]) (.call "_law_begin" #[↑0]),.asg (.tvar 4) (.new "Hoard" "Hoard.__init__"),.asg (.tvar 5) (.dnil 1),.asg (.tvar 6) (.dnil 0),.asg (.tvar 7) (.dnil 2),.forr (.ttup #[.tvar 8,.tvar 9]) (.enm ↑1) Z0,.ret (.cst (.bl true))]⟩
noncomputable def Jb2:Fn:=⟨["hoard","block","height","rules"],.range 5,#[.asg (.tvar 4) (.call "block_fault" #[↑0,↑1,↑2,↑3]),.ret ↑4]⟩
end
def T:Tb:=λf=>[("Hoard.__init__",Jba),("Hoard.copied",Jbj),("Hoard.held",Jb3),("Hoard.total",Jbq),("Hoard.did",Jcs),("Hoard.fault",Ja2),("Hoard.fault_of_in",Jap),("Hoard.fee",Jbr),("Hoard.worth_spent",Jaz),("Hoard.do",Jds),("is_maker",Jdp),("made_by",Jew),("worth_of",Jdj),("gift",Jmr),("block_fault",Jbp),("do_block",Jdr),("free_from",Jcr),("worth_of_makers",Ja3),("opens",Jiv),("is_done",Jc7),("lay",Jt3),("turn",Jhk),("do_row",Jgc),("has_enough",Jb1),("take",Jmq),("laid_by",Jb0),("paid_at",Jby),("outcome",Jc6),("spent_by",Jdk),("has_twice",Jcq),("facts_of",Jdq),("_law_mixed",Jcn),("_law_stream",Jbz),("_law_take",Jbk),("_law_streams",Jbb),("_law_lock",V1),("_law_outs",Jdl),("_law_in",Jgb),("_law_deed",Jdo),("_law_word",Jcd),("_law_put",Jex),("_law_gift",Jdn),("_law_done",V2),("_law_block",Jco),("_law_rules",Jcm),("_law_begin",Jcp),("_law_next",Jdm),("_law_refused",Jbc),("law",Jt4),("do_block?",Jb2)].lookup f
noncomputable def G:String->Option D:=λx=>if x="MOST_LYING" then some (.int 20)else if x="TAKEN" then some (.kd [("drop",1),("swap",2),("add",2),("sub",2),("mul",2),("less",2),("same",2),("not",1),("need",1)])else if x="PAID" then some (.int 5)else if x="FACT_WORDS" then some (.tup [.str "height",.str "age",.str "worth",.str "ins",.str "outs"])else if x="MADE" then some (.int 2)else if x="WORTH" then some (.int 0)else if x="FREE" then some (.int 3)else if x="LOCK" then some (.int 1)else none
theorem Jde:T "Hoard.__init__"=some Jba:=rfl
theorem Jd1:T "Hoard.copied"=some Jbj:=rfl
theorem Jfe:T "Hoard.held"=some Jb3:=rfl
theorem Je6:T "Hoard.total"=some Jbq:=rfl
theorem Jgx:T "Hoard.did"=some Jcs:=rfl
theorem Je7:T "Hoard.fault"=some Ja2:=rfl
theorem Jb7:T "Hoard.fault_of_in"=some Jap:=rfl
theorem Jgw:T "Hoard.fee"=some Jbr:=rfl
theorem Jb6:T "Hoard.worth_spent"=some Jaz:=rfl
theorem Jig:T "Hoard.do"=some Jds:=rfl
theorem Jid:T "is_maker"=some Jdp:=rfl
theorem Ji5:T "made_by"=some Jew:=rfl
theorem Jh3:T "worth_of"=some Jdj:=rfl
theorem Jp2:T "gift"=some Jmr:=rfl
theorem Je5:T "block_fault"=some Jbp:=rfl
theorem Jif:T "do_block"=some Jdr:=rfl
theorem Jgv:T "free_from"=some Jcr:=rfl
theorem Jcz:T "worth_of_makers"=some Ja3:=rfl
theorem Jng:T "opens"=some Jiv:=rfl
theorem Ji7:T "is_done"=some Jc7:=rfl
theorem Juv:T "lay"=some Jt3:=rfl
theorem Jp0:T "turn"=some Jhk:=rfl
theorem Jkr:T "do_row"=some Jgc:=rfl
theorem Jfc:T "has_enough"=some Jb1:=rfl
theorem Jp1:T "take"=some Jmq:=rfl
theorem Jc0:T "laid_by"=some Jb0:=rfl
theorem Ji4:T "paid_at"=some Jby:=rfl
theorem Je3:T "outcome"=some Jc6:=rfl
theorem Jh4:T "spent_by"=some Jdk:=rfl
theorem Jgu:T "has_twice"=some Jcq:=rfl
theorem Jie:T "facts_of"=some Jdq:=rfl
theorem Jgr:T "_law_mixed"=some Jcn:=rfl
theorem Jfb:T "_law_stream"=some Jbz:=rfl
theorem Jh6:T "_law_take"=some Jbk:=rfl
theorem Je4:T "_law_streams"=some Jbb:=rfl
theorem Jh9:T "_law_lock"=some V1:=rfl
theorem Jh7:T "_law_outs"=some Jdl:=rfl
theorem Jkq:T "_law_in"=some Jgb:=rfl
theorem Jic:T "_law_deed"=some Jdo:=rfl
theorem Jh5:T "_law_word"=some Jcd:=rfl
theorem Ji6:T "_law_put"=some Jex:=rfl
theorem Jia:T "_law_gift"=some Jdn:=rfl
theorem Jib:T "_law_done"=some V2:=rfl
theorem Jgs:T "_law_block"=some Jco:=rfl
theorem Jgq:T "_law_rules"=some Jcm:=rfl
theorem Jgt:T "_law_begin"=some Jcp:=rfl
theorem Jh8:T "_law_next"=some Jdm:=rfl
theorem Jb5:T "_law_refused"=some Jbc:=rfl
theorem Juw:T "law"=some Jt4:=rfl
theorem Jfd:T "do_block?"=some Jb2:=rfl
@[simp]theorem Jb8:G "MOST_LYING"=some (.int 20):=rfl
@[simp]theorem Jni:G "TAKEN"=some (.kd [("drop",1),("swap",2),("add",2),("sub",2),("mul",2),("less",2),("same",2),("not",1),("need",1)]):=rfl
@[simp]theorem Jyh:G "PAID"=some (.int 5):=rfl
@[simp]theorem Jdz:G "FACT_WORDS"=some (.tup [.str "height",.str "age",.str "worth",.str "ins",.str "outs"]):=rfl
@[simp]theorem Jyi:G "MADE"=some (.int 2):=rfl
@[simp]theorem Jnh:G "WORTH"=some (.int 0):=rfl
@[simp]theorem Jrg:G "FREE"=some (.int 3):=rfl
@[simp]theorem Jyj:G "LOCK"=some (.int 1):=rfl
@[simp]theorem Jyz:rcv p S (.tup ds)= !isDm p:=rfl
@[simp]theorem J0a:rcv p S (.kd ks)= !isDm p:=rfl
inductive Wd where|less|same|not|height|age|worth|ins|outs
 deriving DecidableEq
noncomputable def Wd.nm:Wd->String
 |.less=>"less"|.same=>"same"|.not=>"not"|.height=>"height"|.age=>"age"|.worth=>"worth"|.ins=>"ins"|.outs=>"outs"
inductive Rw where|push (n:Int)|paid (k:Int)|w (x:Wd)|iff|els|fin
def rD:Rw->D
 |.push n=>.tup [.str "push",.int n]
 |.paid k=>.tup [.str "paid",.int k]
 |.w x=>.tup [.str x.nm]
 |.iff=>.tup [.str "if"]
 |.els=>.tup [.str "else"]
 |.fin=>.tup [.str "end"]
structure Fx where
 h:Int
 a:Int
 w:Int
 i:Int
 o:Int
 paid:List Int
noncomputable def fD(f:Fx):D:=.tup [.int f.h,.int f.a,.int f.w,.int f.i,.int f.o,.tup (f.paid.map D.int)]
def big(n:Int):Prop:=1000000000000000000000000000000000000000000000000000000000000<=(if n<0 then -n else n)
noncomputable instance (n:Int):Decidable (big n):=inferInstanceAs (Decidable (_<=_))
noncomputable def layP(p:List Int):List Int->Bool×List Int
 |[]=>(true,p)
 |n::ns=>if big n\/20<=p.length then(false,p)else layP (p++[n]) ns
noncomputable abbrev pl(p:List Int):Mi.Obj:=.lst (p.map D.int)
section
variable {W:Nat}
inductive ILay (S:Store) (p:Nat) (nD:D) (pile ns:List Int) (i:Nat) (Z:En) (S':Store):Prop
 |mk (a) (_:Z=[some (.loc p),some nD,a]) (_:S'=S.set p (pl (pile++ns.take i))) (_:layP pile ns=layP (pile++ns.take i) (ns.drop i)):ILay S p nD pile ns i Z S'
def Wbh(S:Store)(p:Nat)(pile ns:List Int)(d:D)(S':Store):Prop:=d=.bl (layP pile ns).1/\S'=S.set p (pl (layP pile ns).2)
def Jqy(n:Nat){S:Store}{p:Nat}{nD:D}{g:Wk}{pile ns:List Int}(hp:S[p]? =some (pl pile))(hl:pile.length+ns.length<=1000)(hk:Z4 nD S=.ok (g,ns.map D.int) S)(hg:g=none\/∃q,g=some (q,.lst)/\p≠q/\S[q]? =some (pl ns)):
  Sat (callN T G W (n+1) "lay" [.loc p,nD] S) (Wbh S p pile ns):=by
 rw[Jaa Juv rfl];simp[Jt3,hk,-Z4];refine Sat.p2 (Xo (ILay S p nD pile ns) (Wbh S p pile ns) ⟨none,rfl,by simp[set_same hp],by simp⟩ ?_ ?_) ?_
 ·rintro i Z S' ⟨a,rfl,rfl,_⟩;rcases hg with rfl|⟨q,rfl,hq,h⟩
  ·rfl
  ·exact Jeh (by rw[Ao hq];exact h)
 ·rintro i Z S' hi ⟨a,rfl,rfl,hlay⟩;have hi:i<ns.length:=by simpa using hi
  refine⟨.int ns[i],?_,?_⟩
  ·rcases hg with rfl|⟨q,rfl,hq,h⟩
   ·simp[nth,hi]
   ·simp[nth,seqAt,Ao hq,h,hi]
  have hgt:(S.set p (pl (pile++ns.take i)))[p]? =some (pl (pile++ns.take i)):=Jar hp;rw[Cm hi]at hlay;rw[Jat];simp only[layP]at hlay
  by_cases hb:big ns[i]
  ·rw[if_pos (.inl hb)]at hlay;have hb':(1000000000000000000000000000000000000000000000000000000000000:Int)<=(if ns[i]<0 then -ns[i]else ns[i]):=hb;simp[Jct,hb'];exact⟨by rw[hlay],by rw[hlay]⟩
  ·have hb':¬(1000000000000000000000000000000000000000000000000000000000000:Int)<=(if ns[i]<0 then -ns[i]else ns[i]):=hb;simp[Jct,hb',Jb8];rw[Jav hgt];have e:(pile++ns.take i).take (pile++ns.take i).length=pile++ns.take i:=Hc
   by_cases h20:20<=(pile++ns.take i).length
   ·rw[if_pos (.inr h20)]at hlay;have h20':(20:Int)<=(((pile++ns.take i).map D.int).length:Nat):=by rw[Ah];lia
    simp only[Jih,Ju7,Jnl,Wad,Yf,Z6,Jnn,Yk,Xa,Yr,kB,Res.bind_ok,Jnj,Jfp,decide_eq_true h20',if_true,Jb8];simp;exact⟨by rw[hlay],by rw[hlay]⟩
   ·rw[if_neg (λz=>z.elim hb h20)]at hlay;have h20':¬(20:Int)<=(((pile++ns.take i).map D.int).length:Nat):=by rw[Ah];lia
    simp only[Jih,Ju7,Jnl,Wad,Yf,Z6,Jnn,Yk,Xa,Yr,kB,Res.bind_ok,Jnj,Jfp,decide_eq_false h20',Jb8];simp[Jbi (me:=.append) rfl hgt];rw[Jay hgt (Jch (by simp;lia))];simp;refine⟨_,rfl,?_,?_⟩
    ·congr 1;rw[Eb (l:=ns),Ag hi];simp only[pl,Ey,Sx,Ay,Ga,Mg,Jp]
    ·rw[hlay,Eb,Ag hi];simp
 ·intro fl S' h;rcases h.nr with⟨Z,rfl,a,rfl,rfl,hlay⟩|⟨d,rfl,hd⟩
  ·simp;simp[layP]at hlay;exact⟨by rw[hlay],by rw[hlay]⟩
  ·simp;exact hd
noncomputable def tk:Wd->Nat
 |.less=>2|.same=>2|.not=>1
 |_=>0
noncomputable def Yo(F:Fx)(k:Int):Int:=if 0<=k/\k<F.paid.length then F.paid.getD k.toNat 0 else 0
noncomputable def X3(F:Fx)(a b:Int):Wd->Int
 |.less=>if a<b then 1 else 0|.same=>if a=b then 1 else 0
 |.not=>if a=0 then 1 else 0|.height=>F.h|.age=>F.a|.worth=>F.w|.ins=>F.i|.outs=>F.o
def paid_at(n:Nat)(F:Fx)(k:Int)(S:Store):callN T G W (n+1) "paid_at" [.tup (F.paid.map D.int),.int k] S=.ok (.int (Yo F k)) S:=by
 rw[Jaa Ji4 rfl];unfold Yo
 by_cases h0:0<=k
 ·by_cases h1:k<F.paid.length
  ·have e:atI (F.paid.map D.int) k=some (.int (F.paid.getD k.toNat 0)):=by
    have hl:k.toNat<F.paid.length:=by omega
    simp only[atI,ixN,Ah,if_pos h0,if_pos h1,G6];rw[Ap,Ag hl,Ep,Ag hl];rfl
   simp[Jby,h0,h1];rw[Jcc e];simp;rw[Ag (by omega)];rfl
  ·simp[Jby,h0,h1]
 ·simp[Jby,h0]
def tkR:Rw->Nat
 |.w x=>tk x
 |_=>0
def word:Rw->String
 |.push _=>"push"|.paid _=>"paid"|.w x=>x.nm|.iff=>"if"|.els=>"else"|.fin=>"end"
def Jf0(r:Rw)(S:Store):Jao (rD r) (.int 0) S=.ok (.str (word r)) S:=by cases r<;>simp[rD,word]
theorem Jg1(r:Rw)(S:Store):Vo .get2 (.kd [("drop",1),("swap",2),("add",2),("sub",2),("mul",2),("less",2),("same",2),("not",1),("need",1)]) [.str (word r),.int 0] S=.ok (.int (tkR r)) S:=by
 delta Vo;dsimp only
 cases r with
 |w x=>cases x<;>simp[word,Wd.nm,Dj,tkR,tk]
 |_=>simp[word,Dj,tkR]
theorem Jku(r:Rw):¬word r="copy"/\¬word r="need"/\¬word r="drop"/\¬word r="swap":=by
 cases r with
 |w x=>cases x<;>decide
 |_=>simp[word]
def has_enough(n:Nat){pile:List Int}(hp:S[p]? =some (pl pile))(r:Rw):callN T G W (n+1) "has_enough" [rD r,.loc p] S=.ok (.bl (decide (tkR r<=pile.length))) S:=by
 rw[Jaa Jfc rfl];have hlen:=Jav hp;rw[Ah]at hlen;simp[Jb1,Jf0,(Jku r).1,Jni,Jg1,hlen,isDm]
inductive ITake (S:Store) (p q:Nat) (c:Int) (pile:List Int) (i:Nat) (Z:En) (S':Store):Prop
 |mk (a) (_:Z=[some (.loc p),some (.int c),some (.loc q),a]) (_:S'=S.set p (pl (pile.take (pile.length-i)))):ITake S p q c pile i Z S'
def Jrk(n:Nat){S:Store}{pile:List Int}(hp:S[p]? =some (pl pile))(hc:c<=pile.length):
  callN T G W (n+1) "take" [.loc p,.int c] S=.ok (.loc S.length) ((S++[pl (pile.drop (pile.length-c))]).set p (pl (pile.take (pile.length-c)))):=by
 suffices h:Sat (callN T G W (n+1) "take" [.loc p,.int c] S) λd S'=>d=.loc S.length/\S'=(S++[pl (pile.drop (pile.length-c))]).set p (pl (pile.take (pile.length-c))) by
  obtain⟨d,S',e,rfl,rfl⟩:=h;exact e
 rw[Jaa Jp1 rfl];have hlen:=Jav hp;rw[Ah]at hlen;have hcut:cutD (pile.map D.int) (some ((pile.length:Int)-c)) none=(pile.drop (pile.length-c)).map D.int:=by
  rw[Jgl (by lia),O0];congr 1
  lia
 simp only[Jmq,Ay,Ga,A5,Ez];simp[hlen];rw[Jd6 hp,hcut];have hpl:p<S.length:=Jax hp;have hq:(S++[pl (pile.drop (pile.length-c))])[S.length]? =some (pl (pile.drop (pile.length-c))):=Jad;have hp1:(S++[pl (pile.drop (pile.length-c))])[p]? =some (pl pile):=Jai hp;generalize S++[pl (pile.drop (pile.length-c))]=S1 at hq hp1 ⊢;simp[Ja6 hq];refine Sat.p2 (Zo (ITake S1 p S.length c pile) noR ⟨none,rfl,by simp[set_same hp1]⟩ ?_ ?_) ?_
 ·rintro i Z S' ⟨a,rfl,rfl⟩;rw[Ao (by lia)];rw[<-O0];exact hq
 ·rintro i d _ S' hd ⟨a,rfl,rfl⟩;have hi:i<c:=by
   have:=(Ae.mp hd).1;simp at this
   lia
  have hlast:pile.take (pile.length-i)=pile.take (pile.length-(i+1))++[pile[pile.length-(i+1)]]:=by
   rw[show pile.length-i=pile.length-(i+1)+1 by lia,Eb,Ag (by lia)];rfl
  have hg:(S1.set p (pl (pile.take (pile.length-i))))[p]? =some (.lst ((pile.take (pile.length-(i+1))).map D.int++[D.int pile[pile.length-(i+1)]])):=by
   rw[Jar hp1,hlast];simp only[pl,Ey,Ay,Ga]
  rw[Jat];simp[Jbi (me:=.pop0) rfl hg];rw[Jf5 hg];simp;exact⟨_,rfl,by rw[<-Jp]⟩
 ·intro fl S' h;obtain⟨_,rfl,a,rfl,rfl⟩:=h.nx;simp;rw[show pile.length-(pile.length-(pile.length-c))=pile.length-c by lia]
def Wu(F:Fx)(t:List Int):Rw->Int
 |.push n=>n
 |.paid k=>Yo F k
 |.w x=>X3 F (t.getD 0 0) (t.getD 1 0) x
 |_=>0
noncomputable def Wl:Rw->Bool
 |.iff=>false|.els=>false|.fin=>false
 |_=>true
theorem laid_by(n:Nat){S:Store}{t:List Int}(hq:S[q]? =some (pl t))(F:Fx)(r:Rw)(hr:Wl r=true)(ht:t.length=tkR r):
  callN T G W (n+2) "laid_by" [rD r,.loc q,.loc p,fD F] S=.ok (.loc S.length) (S++[pl [Wu F t r]]):=by
 have i0:∀a r',t=a::r'->Jao (.loc q) (.int 0) S=.ok (.int a) S:=λa r' e=>Jaq hq (by rw[e];exact at0 (k:=0) rfl);have i1:∀a b r',t=a::b::r'->Jao (.loc q) (.int 1) S=.ok (.int b) S:=λa b r' e=>Jaq hq (by rw[e];exact at0 (k:=1) rfl);cases r with
 |iff=>cases hr
 |els=>cases hr
 |fin=>cases hr
 |push k=>kernel_rfl
 |paid k=>
  rw[Jaa Jc0 rfl];simp[Jb0,rD,fD,Jyh];rw[paid_at n F k S];simp[Line,Wu]
 |w x=>
  have inn:∀x:Wd,cop .inn (.str x.nm) (.tup [.str "height",.str "age",.str "worth",.str "ins",.str "outs"]) S=some (decide (tk x=0)):=λx=>by
   cases x<;>rfl
  have out:∀a b v,t=[a,b]->callN T G W (n+1) "outcome" [.str x.nm,.int a,.int b] S=.ok (.int v) S->¬tk x=0->¬x=.not->callN T G W (n+2) "laid_by" [rD (.w x),.loc q,.loc p,fD F] S=.ok (.loc S.length) (S++[pl [v]]):=λa b v e eo h0 h1=>by
   rw[Jaa Jc0 rfl];have h:=inn x;cases x<;>first|(exact absurd rfl h0)|(exact absurd rfl h1)|(simp only[Wd.nm]at h eo;simp[Jb0,rD,Wd.nm,Jdz,h,tk,i0 _ _ e,i1 _ _ _ e,eo,Line])
  rcases t with _|⟨a,_|⟨b,_|⟨c,t⟩⟩⟩
  ·cases x<;>first|(cases ht;done)|kernel_rfl
  ·cases x<;>try (cases ht;done)
   rw[Jaa Jc0 rfl];have h:=inn .not;simp only[Wd.nm]at h
   by_cases z:a=0<;>simp[Jb0,rD,Wd.nm,Jdz,h,tk,i0 a [] rfl,z,Line,Wu,X3]
  ·cases x<;>try (cases ht;done)
   ·refine out a b _ rfl ?_ (by decide) (by decide);rw[Jaa Je3 rfl]
    by_cases h:a<b<;>simp[Jc6,Wd.nm,h,Wu,X3]
   ·refine out a b _ rfl ?_ (by decide) (by decide);rw[Jaa Je3 rfl]
    by_cases h:a=b<;>simp[Jc6,Wd.nm,h,Wu,X3]
  ·exfalso;cases x<;>simp[tkR,tk]at ht
def Xf(F:Fx)(p:List Int)(r:Rw):Bool×List Int:=if p.length<tkR r then(false,p)else layP (p.take (p.length-tkR r)) [Wu F (p.drop (p.length-tkR r)) r]
theorem Jjk{p:List Int}(h:p.length<=20):∀{ns:List Int},(layP p ns).2.length<=20:=by
 intro ns
 induction ns generalizing p with
 |nil=>exact h
 |cons n ns ih=>
  simp only[layP];split
  ·exact h
  ·rename_i hn;refine ih ?_;rw[Bf,Dy];have:¬20<=p.length:=λz=>hn (.inr z)
   lia
def Wbj(S:Store)(p:Nat)(z:Bool×List Int)(d:D)(S':Store):Prop:=d=.bl z.1/\Keep [p] S S'/\S'[p]? =some (pl z.2)
def do_row(n:Nat){S:Store}{p:Nat}{pile:List Int}(hp:S[p]? =some (pl pile))(F:Fx)(r:Rw)(hr:Wl r=true)(hl:pile.length<=20):
  Sat (callN T G W (n+3) "do_row" [rD r,.loc p,fD F] S) (Wbj S p (Xf F pile r)):=by
 rw[Jaa Jkr rfl];simp[Jgc];rw[has_enough (n+1) hp r]
 by_cases he:tkR r<=pile.length
 ·have hpl:p<S.length:=Jax hp;have e1:=Jrk (W:=W) (n+1) hp he;have hq1:((S++[pl (pile.drop (pile.length-tkR r))]).set p (pl (pile.take (pile.length-tkR r))))[S.length]? =some (pl (pile.drop (pile.length-tkR r))):=by
   rw[Ao (by lia)];exact Jad
  have hp1:((S++[pl (pile.drop (pile.length-tkR r))]).set p (pl (pile.take (pile.length-tkR r))))[p]? =some (pl (pile.take (pile.length-tkR r))):=Jar (Jai hp);have k1:Keep [p] S ((S++[pl (pile.drop (pile.length-tkR r))]).set p (pl (pile.take (pile.length-tkR r)))):=(Keep.new _).trans (.set (by simp));generalize(S++[pl (pile.drop (pile.length-tkR r))]).set p (pl (pile.take (pile.length-tkR r)))=S1 at e1 hq1 hp1 k1;have e2:=laid_by (W:=W) n (p:=p) hq1 F r hr (by rw[Jv];lia);obtain⟨d,S2,e3,rfl,rfl⟩:=Jqy (W:=W) (n+1) (S:=S1++[pl [Wu F (pile.drop (pile.length-tkR r)) r]]) (nD:=.loc S1.length) (ns:=[Wu F (pile.drop (pile.length-tkR r)) r]) (Jai hp1) (by simp;lia) (by simp[seqAt]) (.inr ⟨_,rfl,by have:=k1.1;lia,Jad⟩);simp[he,Jf0,Jni,Jg1,e1,(Jku r).2.1,e2,isDm];rw[e3];simp[Wbj,Xf,if_neg (Ru.mpr he)];exact⟨(k1.trans (.new _)).trans (.set (by simp)),by rw[Jar (Jai hp1)]⟩
 ·simp[he];exact⟨by simp[Xf,if_pos (show pile.length<tkR r by lia)],.refl,by rw[hp,Xf,if_pos (by lia)]⟩
abbrev Pt:=Bool×Bool
noncomputable def pD(x:Pt):D:=.tup [.bl x.1,.bl x.2]
abbrev pts(st:List Pt):Mi.Obj:=.lst (st.reverse.map pD)
noncomputable def Wg:List Pt->Bool
 |[]=>true
 |x::_=>x.1
def Jf1(x:Pt)(st:List Pt):pts (x::st)=.lst (st.reverse.map pD++[pD x]):=by simp
theorem is_done(n:Nat){st:List Pt}(hq:S[q]? =some (pts st)):callN T G W (n+1) "is_done" [.loc q] S=.ok (.bl (Wg st)) S:=by
 rw[Jaa Ji7 rfl];cases st with
 |nil=>simp[Jc7,Jfv hq,Wg]
 |cons x st=>
  rw[Jf1]at hq;simp[Jc7,Jfv hq,Wg];rw[Jc5 hq];simp[pD]
def Wc(p:List Int)(st:List Pt):Rw->Option (Bool×List Int×List Pt)
 |.fin=>match st with|[]=>none|_::s=>some (true,p,s)
 |.els=>match st with|[]=>none|x::s=>some (true,p,(x.2,false)::s)
 |.iff=>if Wg st then(if p=[]then some (false,p,st)else some (true,p.dropLast,(decide (p.getLastD 0≠0),decide (p.getLastD 0=0))::st))else some (true,p,(false,false)::st)
 |_=>none
def Wbi(S:Store)(p q:Nat)(z:Bool×List Int×List Pt)(d:D)(S':Store):Prop:=d=.bl z.1/\Keep [p,q] S S'/\S'[p]? =some (pl z.2.1)/\S'[q]? =some (pts z.2.2)
def Jhd{p:List Int}(h:p≠[]):p=p.dropLast++[p.getLastD 0]:=by
 rcases List.eq_nil_or_concat p with rfl|⟨l,x,rfl⟩
 ·exact absurd rfl h
 ·simp
theorem turn(n:Nat){st:List Pt}(hp:S[p]? =some (pl pile))(hq:S[q]? =some (pts st))(hpq:p≠q)(hs:st.length<=1000)(r:Rw)(hz:Wc pile st r=some z):
  Sat (callN T G W (n+2) "turn" [.str (word r),.loc q,.loc p] S) (Wbi S p q z):=by
 rw[Jaa Jp0 rfl];have hq0:∀o,(S.set q o)[p]? =some (pl pile):=λo=>by rw[Ao hpq.symm];exact hp
 have setq:∀o,(S.set q o)[q]? =some o:=λo=>Jar hq;cases r with
 |fin=>
  cases st with
  |nil=>cases hz
  |cons x s=>
   cases hz;rw[Jf1]at hq;simp[Jhk,word,Jbi (me:=.pop0) rfl hq];rw[Jf5 hq];simp;exact⟨rfl,.set (by simp),hq0 _,by rw[setq];simp⟩
 |els=>
  cases st with
  |nil=>cases hz
  |cons x s=>
   cases hz;rw[Jf1]at hq;simp[Jhk,word];rw[Jc5 hq];simp[pD,Line];rw[Jnx hq];simp;exact⟨rfl,.set (by simp),hq0 _,by rw[setq];simp[pD]⟩
 |iff=>
  simp[Jhk,word];rw[is_done n hq];simp only[Wc]at hz;cases hd:Wg st with
  |false=>
   rw[hd]at hz;cases hz;simp[Line,Jbi (me:=.append) rfl hq];rw[Jay hq (Jch (by simp;lia))];simp;exact⟨rfl,.set (by simp),hq0 _,by rw[setq];simp[pD]⟩
  |true=>
   rw[hd,if_pos rfl]at hz
   by_cases he:pile=[]
   ·subst he;cases hz;simp[Jfv hp];exact⟨rfl,.refl,hp,hq⟩
   ·rw[if_neg he]at hz;cases hz;have hp':S[p]? =some (.lst (pile.dropLast.map D.int++[D.int (pile.getLastD 0)])):=by
     rw[hp]
     conv=>lhs;rw[Jhd he]
     simp
    have hq1:(S.set p (.lst (pile.dropLast.map D.int)))[q]? =some (pts st):=by rw[Ao hpq];exact hq
    have e1:=Jay (d:=pD (decide (pile.getLastD 0≠0),decide (pile.getLastD 0=0))) hq1 (Jch (by simp;lia));simp only[pD,decide_not]at e1;have e2:=Jbi (me:=.append) rfl hq1;generalize hx:pile.getLastD 0=x at*;have e3:=Jf5 hp';generalize hS1:S.set p (.lst (pile.dropLast.map D.int))=S1 at*;simp[Jfv hp',Jbi (me:=.pop0) rfl hp',e3,e2,Line,e1];have l1:S1.length=S.length:=by rw[<-hS1,Dt]
    refine⟨rfl,(show Keep [p,q] S S1 by rw[<-hS1];exact .set (by simp)).trans (.set (by simp)),?_,?_⟩
    ·rw[Ao hpq.symm,<-hS1,Jar hp]
    ·rw[Jar hq1];simp[pD]
 |_=>cases hz
def Vs(F:Fx)(p:List Int)(st:List Pt)(r:Rw):Option (Bool×List Int×List Pt):=
 if Wl r then(if Wg st then some ((Xf F p r).1,(Xf F p r).2,st)else some (true,p,st))else Wc p st r
noncomputable def Wbd(p:List Int):Bool:= !p.isEmpty&&decide (p.getLastD 0≠0)
def runP(F:Fx):List Rw->List Int->List Pt->Option Bool
 |[],p,_=>some (Wbd p)
 |r::rs,p,st=>match Vs F p st r with
  |none=>none
  |some (true,p',st')=>runP F rs p' st'
  |some (false,_,_)=>some false
def W5(F:Fx)(lock:List Rw)(keys:List Int):Option Bool:=if(layP [] keys).1 then runP F lock (layP [] keys).2 []else some false
def Jno{p:List Int}{st:List Pt}{z:Bool×List Int×List Pt}(h:p.length<=20)(hz:Vs F p st r=some z):z.2.1.length<=20/\z.2.2.length<=st.length+1:=by
 unfold Vs at hz;split at hz
 ·split at hz
  ·cases hz;refine⟨?_,by simp⟩;unfold Xf;split
   ·exact h
   ·exact Jjk (by simp;lia)
  ·cases hz;exact⟨h,by simp⟩
 ·cases r<;>simp only[Wc]at hz<;>try (cases hz;done)
  ·split at hz
   ·split at hz<;>cases hz<;>exact⟨by simp;lia,by simp⟩
   ·cases hz;exact⟨h,by simp⟩
  ·cases st<;>cases hz;exact⟨h,by simp⟩
  ·cases st<;>cases hz;exact⟨h,by simp;lia⟩
theorem Jxh(r:Rw)(S:Store):cop .inn (.str (word r)) (.tup [.str "if",.str "else",.str "end"]) S=some (!Wl r):=by
 cases r with
 |w x=>cases x<;>rfl
 |_=>rfl
inductive IOpens (F:Fx) (lock:List Rw) (kD:D) (p q:Nat) (B:Store) (b:Bool) (i:Nat) (Z:En) (S:Store):Prop
 |mk (pile st a c) (_:Z=[some (.tup (lock.map rD)),some kD,some (fD F),some (.loc p),some (.loc q),a,c]) (_:Ext B S) (_:S[p]? =some (pl pile)) (_:S[q]? =some (pts st)) (_:pile.length<=20) (_:st.length<=i) (_:runP F (lock.drop i) pile st=some b):IOpens F lock kD p q B b i Z S
theorem Jjg(n:Nat)(F:Fx)(lock:List Rw)(keys:List Int)(S:Store)(hl:lock.length<=500)(hk:keys.length<=500){b:Bool}(hb:W5 F lock keys=some b):
  ∃S',callN T G W (n+4) "opens" [.tup (lock.map rD),.tup (keys.map D.int),fD F] S=.ok (.bl b) S'/\Ext S S':=by
 suffices h:Sat (callN T G W (n+4) "opens" [.tup (lock.map rD),.tup (keys.map D.int),fD F] S) λd S'=>d=.bl b/\Ext S S' by
  obtain⟨d,S',e,rfl,x⟩:=h;exact⟨S',e,x⟩
 rw[Jaa Jng rfl];simp[Jiv,Line];obtain⟨d,S1,e1,rfl,eS⟩:=Jqy (W:=W) (n+2) (S:=S++[.lst [],.lst []]) (p:=S.length) (nD:=.tup (keys.map D.int)) (g:=none) (pile:=[]) (ns:=keys) Jau (by simp;lia) rfl (.inl rfl);have x1:Ext S S1:=by rw[eS];exact(Ext.new _ _).set (Aj _) _
 have hp1:S1[S.length]? =some (pl (layP [] keys).2):=by rw[eS];exact Jar (o:=.lst []) Jau
 have hq1:S1[S.length+1]? =some (pts []):=by
  rw[eS,Ao (by lia)];exact Jdd
 clear eS;simp[e1];unfold W5 at hb;cases hk:(layP [] keys).1 with
 |false=>
  rw[hk]at hb;cases hb;simp;exact x1
 |true=>
  rw[hk,if_pos rfl]at hb;simp;refine Sat.p2 (loop (IOpens F lock (.tup (keys.map D.int)) S.length (S.length+1) S b) (λd S'=>d=.bl b/\Ext S S') ⟨_,[],none,none,rfl,x1,hp1,hq1,Jjk (by simp),by simp,hb⟩ ?_) ?_
  ·rintro i d _ S2 hd ⟨pile,st,a,c,rfl,x2,hp,hq,hok,hst,hrun⟩;rw[Ap]at hd;obtain⟨r,hr,rfl⟩:=Al.mp hd;have hi:i<lock.length:=(Ae.mp hr).1;rw[Cm hi,(Ae.mp hr).2]at hrun;simp only[runP]at hrun;have fin:∀(z:Bool×List Int×List Pt) (S3:Store),Vs F pile st r=some z->Keep [S.length,S.length+1] S2 S3->S3[S.length]? =some (pl z.2.1)->S3[S.length+1]? =some (pts z.2.2)->
     Sat ((Xa (Cn T G W (n+3)) (.cns (.ret (.cst (.bl false))) .nul) .nul [some (.tup (lock.map rD)),some (.tup (keys.map D.int)),some (fD F),some (.loc S.length),some (.loc (S.length+1)),some (rD r),some (.bl !z.1)] (!z.1) S3).bind (kB (Cn T G W (n+3)) .nul)) (FlP (IOpens F lock (.tup (keys.map D.int)) S.length (S.length+1) S b (i+1)) λd S'=>d=.bl b/\Ext S S'):=by
    intro z S3 hz k3 hp3 hq3;have x3:Ext S S3:=x2.keep k3 (by simp);rw[hz]at hrun;obtain⟨z1,z2,z3⟩:=z;have g:=Jno hok hz;cases z1 with
    |false=>
     cases hrun;simp;exact x3
    |true=>
     simp;exact⟨z2,z3,_,_,rfl,x3,hp3,hq3,g.1,by have:=g.2;simp at this;lia,hrun⟩
   rw[Jat];simp[Jf0,Line,Jxh,-Xa,-kB];cases hn:Wl r with
   |false=>
    obtain⟨z,hz⟩:∃z,Wc pile st r=some z:=by
     cases hzz:Wc pile st r with
     |some z=>exact⟨z,rfl⟩
     |none=>simp[Vs,hn,hzz]at hrun
    obtain⟨_,S3,e,rfl,k3,hp3,hq3⟩:=turn (W:=W) (n+1) hp hq (by lia) (by lia) r hz;have f:=fin z S3 (by simp[Vs,hn,hz]) k3 hp3 hq3;simp[Xa,Jf0,e,kB]at f ⊢;exact f
   |true=>
    have ed:=is_done (W:=W) (n+2) hq;cases hdn:Wg st with
    |false=>
     have f:=fin (true,pile,st) S2 (by simp[Vs,hn,hdn]) .refl hp hq;rw[hdn]at ed;simp[Xa,ed,kB]at f ⊢;exact f
    |true=>
     obtain⟨_,S3,e,rfl,k3,hp3⟩:=do_row (W:=W) n hp F r hn hok;have f:=fin ((Xf F pile r).1,(Xf F pile r).2,st) S3 (by simp[Vs,hn,hdn]) (k3.mono (by simp)) hp3 (k3.get hq (by simp));rw[hdn]at ed;simp[Xa,ed,e,kB]at f ⊢;exact f
  ·intro fl S2 h;rcases h.nr with⟨_,rfl,pile,st,a,c,rfl,x2,hp,hq,hok,hst,hrun⟩|⟨d,rfl,hd⟩
   ·simp[runP]at hrun;have hlen:=Jav hp;rw[Ah]at hlen;simp[hlen]
    by_cases he:pile=[]
    ·subst he;simp;exact⟨by rw[<-hrun];rfl,x2⟩
    ·have hpos':0<pile.length:=K8.mpr he;have hp':S2[S.length]? =some (.lst (pile.dropLast.map D.int++[D.int (pile.getLastD 0)])):=by
      rw[hp]
      conv=>lhs;rw[Jhd he]
      simp
     simp[hpos'];rw[Jc5 hp'];simp;refine⟨?_,x2⟩;rw[<-hrun];simp[Wbd,he]
   ·simp;exact hd
end
abbrev PP:=Rdu.PK
structure Kp where
 w:Int
 lk:List Rw
 m:Int
 f:Int
def kpD(k:Kp):D:=.tup [.int k.w,.tup (k.lk.map rD),.int k.m,.int k.f]
abbrev Cs:=List (PP×Kp)
abbrev cp(c:Cs):List (PP×D):=c.map λp=>(p.1,kpD p.2)
abbrev csO(c:Cs):Mi.Obj:=.dtu (cp c)
noncomputable abbrev dp(ns:List Int):List (Int×D):=ns.map λn=>(n,D.bl true)
abbrev dnO(ns:List Int):Mi.Obj:=.dct (dp ns)
structure Dd where
 n:Int
 ins:List (PP×List Int)
 outs:List (Int×List Rw)
def inD(i:PP×List Int):D:=.tup [dK i.1,.tup (i.2.map D.int)]
def ouD(o:Int×List Rw):D:=.tup [.int o.1,.tup (o.2.map rD)]
def ddD(d:Dd):D:=.tup [.int d.n,.tup (d.ins.map inD),.tup (d.outs.map ouD)]
noncomputable def nms(d:Dd):List PP:=d.ins.map (·.1)
noncomputable def Vt(d:Dd):List Int:=d.outs.map (·.1)
def worth(d:Dd):Int:=(Vt d).sum
def wOf(c:Cs)(k:PP):Int:=match dVal c k with|some k=>k.w|none=>0
def spent(c:Cs)(d:Dd):Int:=(d.ins.map λi=>wOf c i.1).sum
def fx(k:Kp)(d:Dd)(h:Int):Fx:=⟨h,if h-k.m<0 then 0 else h-k.m,k.w,d.ins.length,d.outs.length,Vt d⟩
def inW(c:Cs)(d:Dd)(h:Int)(i:PP×List Int):Option String:=match dVal c i.1 with
 |none=>some "gone"
 |some k=>if h<k.f then some "green" else if W5 (fx k d h) k.lk i.2=some true then none else some "shut"
def Vw(c:Cs)(dn:List Int)(d:Dd)(h:Int):Option String:=
 if d.n∈dn then some "known" else if dst (nms d)<(nms d).length then some "twice" else match d.ins.findSome? (inW c d h)with
  |some x=>some x
  |none=>if d.ins≠[]/\spent c d<worth d then some "less" else none
@[simp]noncomputable def wD:Option String->D
 |none=>.non
 |some x=>.str x
def dropO(c:Cs)(d:Dd):Nat->Cs
 |0=>c
 |i+1=>match d.ins[i]? with
  |some x=>dDrop (dropO c d i) x.1
  |none=>dropO c d i
def putO(c:Cs)(d:Dd)(h f:Int):Nat->Cs
 |0=>dropO c d d.ins.length
 |i+1=>match d.outs[i]? with
  |some x=>dPut (putO c d h f i) (d.n,(i:Int)) ⟨x.1,x.2,h,f⟩
  |none=>putO c d h f i
def Xs(c:Cs)(d:Dd)(h f:Int):Cs:=putO c d h f d.outs.length
def Yd(c:Cs)(d:Dd):Int:=if d.ins=[]then 0 else spent c d-worth d
section
variable {κ α β:Type} [DecidableEq κ] {c:List (κ×α)} {k k':κ} {v:α}
theorem Jbd{f:α->β}:dVal (c.map λp=>(p.1,f p.2)) k=(dVal c k).map f:=by
 unfold dVal;rw[T1,R8,R8];rfl
def Jpq{f:α->β}:dPut (c.map λp=>(p.1,f p.2)) k (f v)=(dPut c k v).map λp=>(p.1,f p.2):=by
 unfold dPut;rw[Po];simp only[Bn];split
 ·rw[B4,B4];apply Eh;intro p _;simp only[Bn];split<;>rfl
 ·simp
theorem Jm0{f:α->β}:dDrop (c.map λp=>(p.1,f p.2)) k=(dDrop c k).map λp=>(p.1,f p.2):=by
 unfold dDrop;rw[List.filter_map];rfl
def Jc9(h:dVal c k=some v):(k,v)∈c:=by
 unfold dVal at h;obtain⟨p,hp,rfl⟩:=Al.mp h;have h1:=List.find?_some hp;simp only[decide_eq_true_eq]at h1;subst h1;exact List.mem_of_find?_eq_some hp
def Jmz(h:k'≠k):dVal (dDrop c k) k'=dVal c k':=by
 unfold dVal dDrop;rw[List.find?_filter];congr 2;funext p
 by_cases e:p.1=k'
 ·simp[e,h]
 ·simp[e]
theorem Jiy(hn:(c.map (·.1)).Nodup){p:κ×α}(hp:p∈c):dVal c p.1=some p.2:=by
 induction c with
 |nil=>cases hp
 |cons a r ih=>
  rw[Ay,Cr]at hn;unfold dVal;rw[Dh];rcases An.mp hp with rfl|h
  ·simp
  ·have:a.1≠p.1:=λe=>hn.1 (e▸Bd.mpr ⟨p,h,rfl⟩);simp only[this,decide_false];exact ih hn.2 h
def Jea(hp:p∈dPut c k v):p∈c\/p=(k,v):=by
 unfold dPut at hp;split at hp
 ·obtain⟨q,hq,rfl⟩:=Bd.mp hp;split
  ·rename_i e;exact .inr (by rw[e])
  ·exact .inl hq
 ·rcases Bj.mp hp with h|h
  ·exact .inl h
  ·exact .inr (Av.mp h)
def Jda:(dPut c k v).map (·.1)=c.map (·.1)\/((dPut c k v).map (·.1)=c.map (·.1)++[k]/\k∉c.map (·.1)):=by
 unfold dPut;split
 ·left;rw[B4];apply Eh;intro p _;simp only[Bn];split<;>rfl
 ·rename_i h;right;refine⟨by simp,λz=>h ?_⟩;obtain⟨p,hp,e⟩:=Bd.mp z;exact Hg.mpr ⟨p,hp,by simp[e]⟩
def Jkm(hn:(c.map (·.1)).Nodup):((dPut c k v).map (·.1)).Nodup:=by
 rcases Jda (c:=c) (k:=k) (v:=v)with e|⟨e,h⟩
 ·rw[e];exact hn
 ·rw[e,Jf];exact⟨hn,by simp,λa ha b hb=>by rw[Av.mp hb];rintro rfl;exact h ha⟩
def Wq:(dDrop c k).Sublist c:=Qt
end
def Jua:(dVal (dp dn) x).isSome=decide (x∈dn):=by
 unfold dVal;rw[Ex,T1,Ex,List.isSome_find?];rw[Na,Hg];simp
def Jub(h:x∉dn):dPut (dp dn) x (.bl true)=dp (dn++[x]):=by
 unfold dPut;rw[if_neg]
 ·simp
 ·rw[Po,Bool.not_eq_true,Mh];intro y hy;simp;rintro rfl;exact h hy
def Jjr(h:S[q]? =some (dnO dn)):cop .inn (.int x) (.loc q) S=some (decide (x∈dn)):=by rw[Jug h,Jua]
theorem Jq8{ks:Nat->List Int}:∀{n i:Nat},i<n->ks i∈Sbl.dd ks n
 |n+1,i,h=>by
  unfold Sbl.dd
  by_cases e:i=n
  ·subst e;split
   ·assumption
   ·exact Bh
  ·have:=Jq8 (ks:=ks) (show i<n by lia);split
   ·exact this
   ·exact Ax _ this
theorem Jxw{ks:Nat->List Int}:∀{n:Nat},(Sbl.dd ks n).length=n->∀{i j:Nat},i<j->j<n->ks i≠ks j
 |n+1,h,i,j,hij,hj=>by
  have hl:=Sbl.Jhm ks n;unfold Sbl.dd at h;split at h
  ·lia
  ·rename_i hn;simp only[A5]at h
   by_cases e:j=n
   ·subst e;intro z;exact hn (z▸Jq8 hij)
   ·exact Jxw (n:=n) (by lia) hij (by lia)
def Jxu{ps:List PP}(h:¬dst ps<ps.length){i j:Nat}{x y:PP}(hij:i<j)(hx:ps[i]? =some x)(hy:ps[j]? =some y):x≠y:=by
 rintro rfl;have hj:=(Ae.mp hy).1;have:=Sbl.Jhm (λi=>[(ps.getD i (0,0)).1,(ps.getD i (0,0)).2]) ps.length;refine Jxw (ks:=λi=>[(ps.getD i (0,0)).1,(ps.getD i (0,0)).2]) (by unfold dst at h;lia) hij hj ?_;simp only[Ep,hx,hy]
def Jb9{d:Dd}(hw:Vw c dn d h=none):d.n∉dn/\¬dst (nms d)<(nms d).length/\(∀i∈d.ins,∃k,dVal c i.1=some k):=by
 unfold Vw at hw;split at hw
 ·cases hw
 ·rename_i h1;split at hw
  ·cases hw
  ·rename_i h2;refine⟨h1,h2,λi hi=>?_⟩;split at hw
   ·cases hw
   ·rename_i h3;have:=Ij.mp h3 i hi;unfold inW at this;split at this
    ·cases this
    ·exact⟨_,‹_›⟩
theorem Jgf{d:Dd}(hd:¬dst (nms d)<(nms d).length):∀{i:Nat},(∀j<i,∀x,d.ins[j]? =some x->x.1≠k)->dVal (dropO c d i) k=dVal c k
 |0,_=>rfl
 |i+1,h=>by
  unfold dropO;split
  ·rename_i x hx;rw[Jmz (λe=>h i (by lia) x hx e.symm)];exact Jgf hd λj hj=>h j (by lia)
  ·exact Jgf hd λj hj=>h j (by lia)
def Jmu{c:Cs}{d:Dd}(hd:¬dst (nms d)<(nms d).length){i:Nat}{x:PP×List Int}(hx:d.ins[i]? =some x):dVal (dropO c d i) x.1=dVal c x.1:=by
 refine Jgf hd λj hj y hy=>Jxu hd hj (by simp[nms,hy]) (by simp[nms,hx])
@[simp]theorem Jlf{S:Store}:seqAt (S++(.lst ds::X)) S.length=some ds:=Ja6 Jau
structure Hd(S:Store)(L u q:Nat)(c:Cs)(dn:List Int):Prop where
 l:S[L]? =some (.ins "Hoard" [("unspent",.loc u),("done",.loc q)])
 u:S[u]? =some (csO c)
 q:S[q]? =some (dnO dn)
section
variable {W n:Nat} {S S':Store} {L u q:Nat} {c:Cs} {dn:List Int} {ps:List Nat} {d:Dd} {h:Int}
def Hd.ext(a:Hd S L u q c dn)(k:Ext S S'):Hd S' L u q c dn:=⟨k.get a.l,k.get a.u,k.get a.q⟩
theorem Hd.fu(a:Hd S L u q c dn):Ys "Hoard" "unspent" (.loc L) S=.ok (.loc u) S:=Jet a.l rfl
theorem Hd.fq(a:Hd S L u q c dn):Ys "Hoard" "done" (.loc L) S=.ok (.loc q) S:=Jet a.l rfl
def Hd.rc(a:Hd S L u q c dn)(h1:(m=="unspent")=false:=by rfl)(h2:(m=="done")=false:=by rfl):isRec S (.loc L) "Hoard" m=true:=Jpc a.l (by simp[Dj,h1,h2])
def is_maker:callN T G W (n+1) "is_maker" [ddD d] S=.ok (.bl (decide (d.ins=[]))) S:=by
 rw[Jaa Jid rfl];simp[Jdp,ddD]
def spent_by(hl:d.ins.length<=3):callN T G W (n+1) "spent_by" [ddD d] S=.ok (.loc S.length) (S++[.lst ((nms d).map dK)]):=by
 rw[Jaa Jh4 rfl];simp[Jdk,ddD];rw[Ja7 (xs:=d.ins) inD (λi=>dK i.1) (by lia) (.inl rfl) (λx _=>by simp[Jak,Vl,inD])];simp[nms,Bn]
def Jbl(hl:d.outs.length<=3)(ht:∀x∈d.outs,V7 C (.tvar 0) .nul el (ouD x) (Vl 1 [] Z) S=.ok (some (.int x.1)) S):W6 C 1 [] (.tvar 0) .nul el Z (none,d.outs.map ouD) S=.ok (.loc S.length) (S++[pl (Vt d)]):=by
 rw[Ja7 (xs:=d.outs) ouD (λi=>.int i.1) (by lia) (.inl rfl) ht];simp[Vt,Bn]
def Jdx(ns:List Int):Vh .sum1 [.loc S.length] (S++[pl ns])=.ok (.int ns.sum) (S++[pl ns]):=by
 have:=Jbv (S:=S) id ns;simp only[id,List.map_id]at this;exact this
def worth_of(hl:d.outs.length<=3):callN T G W (n+1) "worth_of" [ddD d] S=.ok (.int (worth d)) (S++[pl (Vt d)]):=by
 rw[Jaa Jh3 rfl];simp[Jdj,ddD];rw[Jbl hl (λx _=>by simp[Jak,Vl,ouD])];simp only[Res.bind_ok,V9,Wb,Vu];rw[Jdx];simp[worth]
theorem Jw3(xs:List PP):Xk kyD (xs.map dK)=some xs:=by
 induction xs with
 |nil=>rfl
 |cons a r ih=>simp only[Ay,Xk,kyD,ih]
def Jqw{xs:List PP}(hS:S[l]? =some (.lst (xs.map dK)))(hl:xs.length<=3):Yp (.loc l) S=.ok (.int (dst xs)) S:=by
 simp only[Yp,Ja6 hS,G6,Jw3,if_pos (show xs.length<4 by lia)]
def has_twice{xs:List PP}(hS:S[l]? =some (.lst (xs.map dK)))(hl:xs.length<=3):callN T G W (n+1) "has_twice" [.loc l] S=.ok (.bl (decide (dst xs<xs.length))) S:=by
 rw[Jaa Jgu rfl];simp[Jcq,Jqw hS hl,Jav hS]
def facts_of(hl:d.outs.length<=3):callN T G W (n+1) "facts_of" [kpD k,ddD d,.int h] S=.ok (fD (fx k d h)) (S++[pl (Vt d)]):=by
 rw[Jaa Jie rfl];simp[Jdq,ddD,kpD,Jyi,Jnh];rw[Jbl hl (λx _=>by simp[Jak,Vl,ouD])];simp only[Res.bind_ok,V9,Wb,Vu];rw[Jam Jad];simp[Line,fD,fx,Vt]
def Xq(lk:List Rw):Prop:=lk.length<=6/\∀F keys,∃b,W5 F lk keys=some b
structure Ok1(p:PP×Kp):Prop where
 a:0<=p.1.1/\p.1.1<345/\0<=p.1.2/\p.1.2<3
 w:p.2.w<=10^40
 lk:Xq p.2.lk
structure Gc(c:Cs):Prop where
 nd:(c.map (·.1)).Nodup
 ok:∀p∈c,Ok1 p
structure Gd(dn:List Int):Prop where
 nd:dn.Nodup
 ok:∀x∈dn,0<=x/\x<345
structure W1(d:Dd):Prop where
 n:0<=d.n/\d.n<345
 i:d.ins.length<=3
 o:d.outs.length<=3
 k:∀i∈d.ins,i.2.length<=3
 w:∀o∈d.outs,o.1<=10^40/\Xq o.2
theorem fault_of_in(a:Hd S L u q c dn)(g:Gc c)(g2:W1 d)(hi:i∈d.ins):∃S',callN T G W (n+5) "Hoard.fault_of_in" [.loc L,inD i,ddD d,.int h] S=.ok (wD (inW c d h i)) S'/\Ext S S':=by
 rw[Jaa Jb7 rfl];have e1:=Jl4 (p:=i.1) a.u;rw[show cp c=c.map λp=>(p.1,kpD p.2)from rfl,Jbd]at e1;have e2:=Zs (me:=.get1) rfl a.u;simp only[inW];cases hv:dVal c i.1 with
 |none=>
  rw[hv]at e1;simp[Jap,a.fu,inD,e1,e2,wD];exact .refl _
 |some k=>
  rw[hv]at e1;simp only[Eu,Option.getD_some]at e1;dsimp only
  by_cases hh:h<k.f
  ·rw[if_pos hh];simp only[kpD]at e1;simp[Jap,a.fu,inD,e1,e2,wD,Jrg,hh];exact .refl _
  ·rw[if_neg hh];have o1:=g.ok _ (Jc9 hv);obtain⟨b,hb⟩:=o1.lk.2 (fx k d h) i.2;have e3:=facts_of (W:=W) (n:=n+3) (S:=S) (h:=h) (k:=k) g2.o;obtain⟨S2,e4,x2⟩:=Jjg (W:=W) n (fx k d h) k.lk i.2 (S++[pl (Vt d)]) (by have:=o1.lk.1;simp at this;lia) (by have:=g2.k i hi;lia) hb;simp only[kpD]at e1 e3;simp[Jap,a.fu,inD,e1,e2,Jrg,Jyj,hh,e3];simp[e4,hb];cases b<;>simp[wD]<;>exact(Ext.new _ _).trans x2
def worth_spent(a:Hd S L u q c dn)(hl:d.ins.length<=3)(hv:∀i∈d.ins,∃k,dVal c i.1=some k):callN T G W (n+2) "Hoard.worth_spent" [.loc L,ddD d] S=.ok (.int (spent c d)) (S++[.lst ((nms d).map dK),pl ((nms d).map (wOf c))]):=by
 rw[Jaa Jb6 rfl];simp[Jaz,spent_by (W:=W) (n:=n) (S:=S) hl];have a1:=a.ext (.new S [.lst ((nms d).map dK)]);rw[Ja7 (xs:=nms d) dK (λi=>.int (wOf c i)) (by simp[nms];lia) (.inr ⟨_,rfl,Jad⟩) (λx hx=>by
  obtain⟨i,hi,rfl⟩:=Bd.mp hx;obtain⟨k,hk⟩:=hv i hi;have:dVal (cp c) i.1=some (kpD k):=by rw[Jbd,hk];rfl
  simp[Jak,Vl,a1.fu,Jf7 a1.u this,Jnh,wOf,hk];simp[kpD])]
 have:=Jdx (S:=S++[.lst ((nms d).map dK)]) ((nms d).map (wOf c));simp only[pl,B4,Bn]at this;simp only[Res.bind_ok,V9,Wb,Vu];rw[this];simp[spent,nms,Bn]
end
section
variable {W n:Nat} {S S':Store} {L u q:Nat} {c:Cs} {dn:List Int} {ps:List Nat} {d:Dd} {h f:Int}
def Sat.to{P:Store->Prop}(h:Sat r λd S'=>d=x/\P S'):∃S',r=.ok x S'/\P S':=by
 obtain⟨d,S',e,rfl,p⟩:=h;exact⟨S',e,p⟩
@[simp]theorem J1g:Jao (ddD d) (.int 0) S=.ok (.int d.n) S:=Jbn
@[simp]theorem J1f:Jao (ddD d) (.int 1) S=.ok (.tup (d.ins.map inD)) S:=Jd9
@[simp]theorem J1e:Jao (ddD d) (.int 2) S=.ok (.tup (d.outs.map ouD)) S:=Jjl
@[simp]theorem J1d{i:PP×List Int}:Jao (inD i) (.int 0) S=.ok (dK i.1) S:=Jbn
@[simp]theorem J1a{o:Int×List Rw}:Jao (ouD o) (.int 0) S=.ok (.int o.1) S:=Jbn
@[simp]theorem J09{o:Int×List Rw}:Jao (ouD o) (.int 1) S=.ok (.tup (o.2.map rD)) S:=Jd9
@[simp]theorem J1c{k:Kp}:Jao (kpD k) (.int 0) S=.ok (.int k.w) S:=Jbn
@[simp]theorem J1b{k:Kp}:Jao (kpD k) (.int 1) S=.ok (.tup (k.lk.map rD)) S:=Jd9
theorem sub_len{α:Type}[DecidableEq α]:∀{l m:List α},l.Nodup->(∀x∈l,x∈m)->l.length<=m.length
 |[],m,_,_=>Cz _
 |x::l,m,hn,hs=>by
  rw[Cr]at hn;have hx:=hs x Bh;have:=sub_len (m:=m.erase x) hn.2 λy hy=>(Qi (by rintro rfl;exact hn.1 hy)).mpr (hs y (Ax _ hy));rw[O1 hx]at this;have:=Pm hx;simp only[A5];omega
noncomputable def nums:List Int:=(B3 345).map λ(i:Nat)=>(i:Int)
def Jjh(h:0<=x/\x<345):x∈nums:=Bd.mpr ⟨x.toNat,by simp;lia,by lia⟩
def Gd.len(g:Gd dn):dn.length<=345:=by
 have:=sub_len g.nd λx hx=>Jjh (g.ok x hx);rwa[nums,Ah,E3]at this
def Gc.len(g:Gc c):c.length<=1035:=by
 have:=sub_len (m:=nums.map (λi=>(i,(0:Int)))++(nums.map (λi=>(i,(1:Int)))++nums.map λi=>(i,(2:Int)))) g.nd λx hx=>by
  obtain⟨p,hp,rfl⟩:=Bd.mp hx;have z:=(g.ok p hp).a;have hm:=Jjh ⟨z.1,z.2.1⟩;simp only[Bj,Bd];rcases(show p.1.2=0\/p.1.2=1\/p.1.2=2 by lia)with e|e|e
  ·exact .inl ⟨_,hm,by rw[<-e]⟩
  ·exact .inr (.inl ⟨_,hm,by rw[<-e]⟩)
  ·exact .inr (.inr ⟨_,hm,by rw[<-e]⟩)
 simp only[Ah,Bf,nums,E3]at this
 lia
def Gc.apt(g:Gc c):Ye ((cp c).map (·.1))=true:=by
 simp only[Ye,cp,B4,Bn,Ai,Dl,decide_eq_true_eq];refine⟨λp hp=>?_,g.nd⟩;obtain⟨x,hx,rfl⟩:=Bd.mp hp;have:=(g.ok x hx).a;exact⟨⟨⟨this.1,this.2.1⟩,this.2.2.1⟩,this.2.2.2⟩
def Gc.drop(g:Gc c)(k:PP):Gc (dDrop c k):=⟨g.nd.sublist (Wq.map _),λp hp=>g.ok p (Wq.subset hp)⟩
def Gc.put(g:Gc c)(hv:Ok1 (k,v)):Gc (dPut c k v):=⟨Jkm g.nd,λp hp=>(Jea hp).elim (g.ok p) λe=>e▸hv⟩
theorem Gc.dropO(g:Gc c):∀i,Gc (dropO c d i)
 |0=>g
 |i+1=>by
  unfold K26.dropO;split
  ·exact(g.dropO i).drop _
  ·exact g.dropO i
theorem Gc.putO(g:Gc c)(g2:W1 d):∀i,Gc (putO c d h f i)
 |0=>g.dropO _
 |i+1=>by
  unfold K26.putO;split
  ·rename_i x hx;have hl:=(Ae.mp hx).1;have:=g2.o;have hw:=g2.w x (Ba hx);exact(g.putO g2 i).put ⟨⟨g2.n.1,g2.n.2,L5 _,by show(i:Int)<3;lia⟩,hw.1,hw.2⟩
  ·exact g.putO g2 i
def Gd.add(g:Gd dn)(h1:x∉dn)(h2:0<=x/\x<345):Gd (dn++[x]):=⟨by
 rw[Jf];exact⟨g.nd,by simp,λa ha b hb=>by rw[Av.mp hb];rintro rfl;exact h1 ha⟩,λy hy=>(Bj.mp hy).elim (g.ok y) λe=>Av.mp e▸h2⟩
def did(a:Hd S L u q c dn):callN T G W (n+1) "Hoard.did" [.loc L,.int x] S=.ok (.bl (decide (x∈dn))) S:=by
 rw[Jaa Jgx rfl];simp[Jcs,a.fq,Jjr a.q]
inductive IFau (S:Store) (L:Nat) (c:Cs) (d:Dd) (h:Int) (i:Nat) (Z:En) (S':Store):Prop
 |mk (x y) (_:Z=[some (.loc L),some (ddD d),some (.int h),x,y]) (_:Ext S S') (_:d.ins.findSome? (inW c d h)=(d.ins.drop i).findSome? (inW c d h)):IFau S L c d h i Z S'
inductive RFau (S:Store) (c:Cs) (d:Dd) (h:Int) (r:D) (S':Store):Prop
 |mk (x) (_:d.ins.findSome? (inW c d h)=some x) (_:r=.str x) (_:Ext S S'):RFau S c d h r S'
def fault(a:Hd S L u q c dn)(g:Gc c)(g2:W1 d):∃S',callN T G W (n+6) "Hoard.fault" [.loc L,ddD d,.int h] S=.ok (wD (Vw c dn d h)) S'/\Ext S S':=by
 rw[Jaa Je7 rfl];have e1:=did (W:=W) (n:=n+4) (x:=d.n) a;have e2:=spent_by (W:=W) (n:=n+4) (S:=S) g2.i;have e3:=has_twice (W:=W) (n:=n+4) (S:=S++[.lst ((nms d).map dK)]) (xs:=nms d) Jad (by simp[nms];exact g2.i);unfold Vw
 by_cases h1:d.n∈dn
 ·simp[Ja2,a.rc (m:="did"),e1,h1];exact .refl _
 by_cases h2:dst (nms d)<(nms d).length
 ·simp[Ja2,a.rc (m:="did"),e1,h1,e2,e3,h2];exact .new _ _
 refine Sat.to ?_;simp[Ja2,a.rc (m:="did"),e1,h1,e2,e3,h2];refine Sat.p2 (loop (IFau S L c d h) (RFau S c d h) ⟨none,none,rfl,.new _ _,by simp⟩ ?_) ?_
 ·rintro i z _ S2 hd ⟨x,y,rfl,x2,hf⟩;rw[Ap]at hd;obtain⟨r,hr,rfl⟩:=Al.mp hd;have hi:i<d.ins.length:=(Ae.mp hr).1;rw[Cm hi,(Ae.mp hr).2,Qs]at hf;have a2:=a.ext x2;obtain⟨S3,e4,x3⟩:=fault_of_in (W:=W) (n:=n) (h:=h) a2 g g2 (Ba hr);rw[Jat];simp[a2.rc (m:="fault_of_in"),e4];cases hw:inW c d h r with
  |none=>
   rw[hw]at hf;simp;exact⟨_,_,rfl,x2.trans x3,hf⟩
  |some w=>
   rw[hw]at hf;simp;exact⟨w,hf,rfl,x2.trans x3⟩
 ·intro fl S2 hh;rcases hh.nr with⟨_,rfl,x,y,rfl,x2,hf⟩|⟨r,rfl,x,hf,rfl,x2⟩
  ·rw[Ah,Hf]at hf;have hn:=Ij.mp hf;have hv:∀i∈d.ins,∃k,dVal c i.1=some k:=λi hi=>by
    have:=hn i hi;unfold inW at this;split at this
    ·cases this
    ·exact⟨_,‹_›⟩
   rw[hf];have e5:=is_maker (W:=W) (n:=n+4) (S:=S2) (d:=d)
   by_cases hm:d.ins=[]
   ·simp[e5,hm];exact x2
   ·have e6:=worth_of (W:=W) (n:=n+4) (S:=S2) g2.o;have a3:=(a.ext x2).ext (.new S2 [pl (Vt d)]);have e7:=worth_spent (W:=W) (n:=n+3) a3 g2.i hv;simp[e5,hm,e6,a3.rc (m:="worth_spent"),e7]
    by_cases hs:spent c d<worth d
    ·simp[hs];exact x2.trans (.new _ _)
    ·simp[hs];exact x2.trans (.new _ _)
  ·simp[hf];exact x2
def fee(a:Hd S L u q c dn)(g2:W1 d)(hv:∀i∈d.ins,∃k,dVal c i.1=some k):∃S',callN T G W (n+3) "Hoard.fee" [.loc L,ddD d] S=.ok (.int (Yd c d)) S'/\Ext S S':=by
 rw[Jaa Jgw rfl];have e5:=is_maker (W:=W) (n:=n+1) (S:=S) (d:=d);unfold Yd
 by_cases hm:d.ins=[]
 ·simp[Jbr,e5,hm];exact .refl _
 ·have e7:=worth_spent (W:=W) (n:=n) a g2.i hv;have e6:=worth_of (W:=W) (n:=n+1) (S:=S++[.lst ((nms d).map dK),pl ((nms d).map (wOf c))]) g2.o;simp[Jbr,e5,hm,a.rc (m:="worth_spent"),e7];simp at e6;simp[e6];exact .new _ _
def Jn1(hl:d.outs.length<=3):Yb (.int (d.outs.length:Int)) S=.ok (none,(B3 d.outs.length).map λ(i:Nat)=>.int i) S:=by
 rw[Jdf (by lia) (by lia)];simp
def Jw0:V7 C (.tvar 0) .nul (.tup (.cns (.idx (.var 1) (.cst (.int 0))) (.cns (.var 0) .nul))) (.int x) (Vl 1 [0] [some (ddD d)]) S=.ok (some (dK (d.n,(x:Int)))) S:=by
 simp[Jak,Vl];simp[Line]
def Jsk(hl:k<=1000):(B3 k).length<=1000000:=by rw[E3];exact Bl hl (by decide)
def made_by(hl:d.outs.length<=3):callN T G W (n+1) "made_by" [ddD d] S=.ok (.loc S.length) (S++[.lst ((B3 d.outs.length).map λ(j:Nat)=>dK (d.n,(j:Int)))]):=by
 rw[Jaa Ji5 rfl];simp[Jew,Jn1 hl];rw[Ja7 (xs:=B3 d.outs.length) (λ(i:Nat)=>D.int i) (λ(j:Nat)=>dK (d.n,(j:Int))) (Jsk (by lia)) (.inl rfl) (λx _=>Jw0)];simp only[Res.bind_ok,Yr,kB,Xw]
end
local macro_rules|`(tactic|simp!)=>`(tactic|simp -implicitDefEqProofs)|`(tactic|simp![$a,*])=>`(tactic|simp -implicitDefEqProofs[$a,*])
section
variable {W n:Nat} {S S':Store} {L u q:Nat} {c:Cs} {dn:List Int} {ps:List Nat} {d:Dd} {h f:Int}
def Hd.uq(a:Hd S L u q c dn):u≠q:=by
 rintro rfl;have:=a.u.symm.trans a.q;cases this
def Hd.lu(a:Hd S L u q c dn):L≠u/\L≠q:=by
 constructor<;>rintro rfl
 ·have:=a.l.symm.trans a.u;cases this
 ·have:=a.l.symm.trans a.q;cases this
def pop_at(hu:S[u]? =some (csO c))(hv:dVal c k=some v):Vo .pop1 (.loc u) [dK k] S=.ok (kpD v) (S.set u (csO (dDrop c k))):=by
 have:=Jl2 (p:=k) (d:=kpD v) hu (by rw[Jbd,hv];rfl);rw[this,Jm0]
def Jqj(hu:S[u]? =some (csO c))(g:Gc c):We (.loc u) (dK k) (kpD v) S=.ok () (S.set u (csO (dPut c k v))):=by
 rw[Jny hu (by rw[Ah];have:=g.len;unfold Line;lia),Jpq]
def Jqi(hq:S[q]? =some (dnO dn))(g:Gd dn)(hx:x∉dn):We (.loc q) (.int x) (.bl true) S=.ok () (S.set q (dnO (dn++[x]))):=by
 rw[Jnz hq (by rw[Ah];have:=g.len;unfold Line;lia),Jub hx]
def Jmv{x:PP×List Int}(hx:d.ins[i]? =some x):dropO c d (i+1)=dDrop (dropO c d i) x.1:=by simp only[dropO,hx]
def Jqk{x:Int×List Rw}(hx:d.outs[i]? =some x):putO c d h f (i+1)=dPut (putO c d h f i) (d.n,(i:Int)) ⟨x.1,x.2,h,f⟩:=by simp only[putO,hx]
inductive IPop (S:Store) (L u:Nat) (c:Cs) (d:Dd) (h f:Int) (nt:D) (i:Nat) (Z:En) (S':Store):Prop
 |mk (x) (_:Z=[some (.loc L),some (ddD d),some (.int h),some (.int f),some .non,some nt,x,none]) (_:Keep [u] S S') (_:S'[u]? =some (csO (dropO c d i))):IPop S L u c d h f nt i Z S'
inductive IPut (S:Store) (L u:Nat) (c:Cs) (d:Dd) (h f:Int) (nt:D) (i:Nat) (Z:En) (S':Store):Prop
 |mk (x y) (_:Z=[some (.loc L),some (ddD d),some (.int h),some (.int f),some .non,some nt,x,y]) (_:Keep [u] S S') (_:S'[u]? =some (csO (putO c d h f i))):IPut S L u c d h f nt i Z S'
def Jxv(a:Hd S L u q c dn)(g:Gc c)(gd:Gd dn)(g2:W1 d)(hw:Vw c dn d h=none):Sat (callN T G W (n+7) "Hoard.do" [.loc L,ddD d,.int h,.int f] S) λ_ S'=>Keep [u,q] S S'/\Hd S' L u q (Xs c d h f) (dn++[d.n]):=by
 rw[Jaa Jig rfl];obtain⟨hn,h2,hv⟩:=Jb9 hw;obtain⟨S1,e1,x1⟩:=fault (W:=W) (n:=n) (h:=h) a g g2;rw[hw]at e1;have a1:=a.ext x1;have e2:=λS=>spent_by (W:=W) (n:=n+5) (S:=S) g2.i;simp[Jds,a.rc (m:="fault"),e1,e2];have a2:=a1.ext (.new S1 [.lst ((nms d).map dK)]);have hlen:(nms d).length=d.ins.length:=by simp[nms]
 have i3:=g2.i;rw[Ja7 (xs:=nms d) dK (λi=>.tup [dK i,(((dVal c i).map kpD).getD .non)]) (by lia) (.inr ⟨_,rfl,Jad⟩) (λx hx=>by
  obtain⟨i,hi,rfl⟩:=Bd.mp hx;obtain⟨k,hk⟩:=hv i hi;have:dVal (cp c) i.1=some (kpD k):=by rw[Jbd,hk];rfl
  simp[Jak,Vl,a2.fu,Jf7 a2.u this,hk];simp[Line])]
 simp only[Res.bind_ok,V9,Wb,Vu];rw[Jam Jad];generalize hnt:(D.tup ((nms d).map λi=>.tup [dK i,(((dVal c i).map kpD).getD .non)]))=nt1;have a3:=a2.ext (.new (S1++[.lst ((nms d).map dK)]) [.lst ((nms d).map λi=>.tup [dK i,(((dVal c i).map kpD).getD .non)])]);generalize hS3:S1++[.lst ((nms d).map dK)]++[.lst ((nms d).map λi=>.tup [dK i,(((dVal c i).map kpD).getD .non)])]=S3 at a3;have x3:Ext S S3:=by rw[<-hS3];exact(x1.trans (.new _ _)).trans (.new _ _)
 clear hS3 a2 hnt;simp only[Res.bind_ok,V9,Wb,Vu,Wa4,A5,Ez,if_pos (show 0+1+1<=Line by decide),Z8,Jp3];simp[e2];have a5:=a3.ext (.new S3 [.lst ((nms d).map dK)]);have x5:=x3.trans (.new S3 [.lst ((nms d).map dK)]);have hl5:(S3++[Obj.lst ((nms d).map dK)])[S3.length]? =some (.lst ((nms d).map dK)):=Jad;have hul:u<S3.length:=Jax a3.u;generalize S3++[Obj.lst ((nms d).map dK)]=S5 at a5 x5 hl5;refine Sat.p2 (Zo (IPop S5 L u c d h f (.tup [ddD d,nt1])) noR ⟨none,rfl,.refl,a5.u⟩ (λi Z S4 ⟨x,_,k4,_⟩=>k4.get hl5 (by simp;lia)) ?_) ?_
 ·rintro i z _ S4 hd ⟨x,rfl,k4,hu⟩;rw[Ap]at hd;obtain⟨k,hk,rfl⟩:=Al.mp hd;rw[nms,Ap]at hk;obtain⟨j,hj,rfl⟩:=Al.mp hk;obtain⟨v,hv⟩:=hv j (Ba hj);have e:=pop_at hu ((Jmu h2 hj).trans hv);have r:=Zs (me:=.pop1) rfl hu;have ff:=Jet (f:="unspent") (k4.get a5.l (by simp;exact a5.lu.1)) rfl;rw[Jat];simp[ff,e,r];exact⟨_,rfl,k4.trans (.set (by simp)),by rw[Jar hu,Jmv hj]⟩
 ·intro fl S6 hh;obtain⟨_,rfl,x,rfl,k6,hu6⟩:=hh.nx;simp only[Ah,hlen]at hu6;have e3:=made_by (W:=W) (n:=n+5) (S:=S6) g2.o;simp! [e3];have o3:=g2.o;simp only[zpD,Jlf,Ah,E3,if_true,Res.bind_ok];have k7:Keep [u] S5 (S6++[.lst ((B3 d.outs.length).map λ(j:Nat)=>dK (d.n,(j:Int)))]):=k6.trans (.new _);have hu7:=Jai (X:=[.lst ((B3 d.outs.length).map λ(j:Nat)=>dK (d.n,(j:Int)))]) hu6;have hl7:(S6++[Obj.lst ((B3 d.outs.length).map λ(j:Nat)=>dK (d.n,(j:Int)))])[S6.length]? =some (.lst ((B3 d.outs.length).map λ(j:Nat)=>dK (d.n,(j:Int)))):=Jad;have hu6l:=Jax hu6;generalize S6++[Obj.lst ((B3 d.outs.length).map λ(j:Nat)=>dK (d.n,(j:Int)))]=S7 at k7 hu7 hl7;refine Sat.p2 (Xo (IPut S7 L u c d h f (.tup [ddD d,nt1])) noR ⟨_,_,rfl,.refl,hu7⟩ (λi Z S8 ⟨x,y,_,k8,_⟩=>?_) ?_) ?_
  ·have:=k8.get hl7 (by simp;lia);simp[sameAt,this]
  ·rintro i _ S8 hi ⟨x,y,rfl,k8,hu8⟩;have hi:i<d.outs.length:=by simpa using hi
   have hl8:=k8.get hl7 (by simp;lia);refine⟨.tup [dK (d.n,(i:Int)),ouD d.outs[i]],by simp[nth,Ja6 hl8,hi],?_⟩;have ff:=Jet (f:="unspent") (k8.get (k7.get a5.l (by simp;exact a5.lu.1)) (by simp;exact a5.lu.1)) rfl;have e:=Jqj (k:=(d.n,(i:Int))) (v:=⟨d.outs[i].1,d.outs[i].2,h,f⟩) hu8 (g.putO g2 i);simp only[kpD]at e;rw[Jat];simp[ff];rw[if_pos (by decide)];simp[ff,e];exact⟨_,_,rfl,k8.trans (.set (by simp)),by rw[Jar hu8,Jqk (Ag hi)]⟩
  ·intro fl S9 hh;obtain⟨_,rfl,x,y,rfl,k9,hu9⟩:=hh.nx;simp only[Ah]at hu9;have a9l:=k9.get (k7.get a5.l (by simp;exact a5.lu.1)) (by simp;exact a5.lu.1);have a9q:=k9.get (k7.get a5.q (by simp;exact a5.uq.symm)) (by simp;exact a5.uq.symm);have ff:=Jet (f:="done") a9l rfl;simp[ff,Jqi a9q gd hn];refine⟨((Keep.ext x5).trans (k7.mono (by simp))).trans ((k9.mono (by simp)).trans (.set (by simp))),?_,?_,?_⟩
   ·rw[Ao a5.lu.2.symm];exact a9l
   ·rw[Ao a5.uq.symm];exact hu9
   ·exact Jar a9q
def init:callN T G W (n+1) "Hoard.__init__" [.loc S.length] (S++[.ins "Hoard" []])=.ok .non (S++[.ins "Hoard" [("unspent",.loc (S.length+1)),("done",.loc (S.length+2))],.dtu [],.dct []]):=by
 rw[Jaa Jde rfl];have h0:(S++[Obj.ins "Hoard" [],.dtu []])[S.length]? =some (.ins "Hoard" []):=Jau;have h1:(S++[Obj.ins "Hoard" [("unspent",.loc (S.length+1))],.dtu [],.dct []])[S.length]? =some (.ins "Hoard" [("unspent",.loc (S.length+1))]):=Jau;simp[Jba];rw[Jfy h0 (by simp)];simp[putD];rw[Jfy h1 (by simp)];simp[putD]
def Jwu:evE (Cn T G W (n+1)) (.new "Hoard" "Hoard.__init__") Z S=.ok (.loc S.length) (S++[.ins "Hoard" [("unspent",.loc (S.length+1)),("done",.loc (S.length+2))],.dtu [],.dct []]):=by
 rw[Ju4];simp[init]
def copied(a:Hd S L u q c dn)(g:Gc c):∃S' u' q',callN T G W (n+2) "Hoard.copied" [.loc L] S=.ok (.loc S.length) S'/\Ext S S'/\S.length<=u'/\S.length<=q'/\Hd S' S.length u' q' c dn:=by
 rw[Jaa Jd1 rfl];simp! [Jbj,Jwu,-Ju4];have a1:=a.ext (.new S [.ins "Hoard" [("unspent",.loc (S.length+1)),("done",.loc (S.length+2))],.dtu [],.dct []]);have x1:=Ext.new S [.ins "Hoard" [("unspent",.loc (S.length+1)),("done",.loc (S.length+2))],.dtu [],.dct []];have h1:(S++[Obj.ins "Hoard" [("unspent",.loc (S.length+1)),("done",.loc (S.length+2))],.dtu [],.dct []])[S.length]? =some (.ins "Hoard" [("unspent",.loc (S.length+1)),("done",.loc (S.length+2))]):=Jau;generalize S++[Obj.ins "Hoard" [("unspent",.loc (S.length+1)),("done",.loc (S.length+2))],.dtu [],.dct []]=S1 at a1 x1 h1;have hl:L<S.length:=Jax a.l;have hs:=Jax h1;simp[a1.fu,Jgh a1.u g.apt];rw[Jfy (Jai h1) (by simp)];simp[putD];have h2:((S1++[csO c]).set S.length (.ins "Hoard" [("unspent",.loc S1.length),("done",.loc (S.length+2))]))[S.length]? =some (.ins "Hoard" [("unspent",.loc S1.length),("done",.loc (S.length+2))]):=Jar (Jai h1);have x2:=(x1.trans (.new S1 [csO c])).set (Aj _) (.ins "Hoard" [("unspent",.loc S1.length),("done",.loc (S.length+2))]);have u2:((S1++[csO c]).set S.length (.ins "Hoard" [("unspent",.loc S1.length),("done",.loc (S.length+2))]))[S1.length]? =some (csO c):=by
  rw[Ao (by lia)];exact Jad
 generalize(S1++[csO c]).set S.length (.ins "Hoard" [("unspent",.loc S1.length),("done",.loc (S.length+2))])=S2 at h2 x2 u2;have a2:=a.ext x2;have hs2:=Jax u2;simp[a2.fq,Jgi a2.q];rw[Jfy (Jai h2) (by simp)];simp[putD];refine⟨(x2.trans (.new S2 [dnO dn])).set (Aj _) _,S1.length,by lia,S2.length,by lia,Jar (Jai h2),?_,?_⟩
 ·rw[Ao (by lia)];exact Jai u2
 ·rw[Ao (by lia)];exact Jad
end
structure Rl where
 a:Int
 b:Int
 c:Int
noncomputable def rlD(r:Rl):D:=.tup [.int r.a,.int r.b,.int r.c]
structure RlOk(r:Rl):Prop where
 a:0<=r.a/\r.a<=10^40
 b:1<=r.b/\r.b<=1000
noncomputable def Vv(r:Rl)(h:Int):Int:=r.a/2^(min 200 ((h-1)/r.b).toNat)
structure Bk where
 x:Int
 y:Int
 z:Int
 ds:List Dd
def bkD(b:Bk):D:=.tup [.int b.x,.int b.y,.int b.z,.tup (b.ds.map ddD)]
structure BkOk(ds:List Dd):Prop where
 ok:∀d∈ds,W1 d
 l:ds.length<=20
 mr:∀i d,ds[i]? =some d->(d.ins=[]↔i=0)
 ne:0<ds.length
def goP(h w:Int):Nat->Cs->List Int->Int->List Dd->Option (Nat×String)×Cs×List Int×Int
 |_,c,dn,f,[]=>(none,c,dn,f)
 |j,c,dn,f,d::ds=>match Vw c dn d h with
  |some x=>(some (j,x),c,dn,f)
  |none=>goP h w (j+1) (Xs c d h (if j=0 then h+w else h)) (dn++[d.n]) (f+Yd c d) ds
def first(ds:List Dd):Int:=match ds with
 |[]=>0
 |d::_=>worth d
def bfP(r:Rl)(h:Int)(c:Cs)(dn:List Int)(ds:List Dd):Option (Nat×String):=match(goP h r.c 0 c dn 0 ds).1 with
 |some x=>some x
 |none=>if Vv r h+(goP h r.c 0 c dn 0 ds).2.2.2<first ds then some (0,"much")else none
@[simp]noncomputable def bwD:Option (Nat×String)->D
 |none=>.non
 |some (j,x)=>.tup [.int j,.str x]
section
variable {W n:Nat} {S S':Store} {L u q:Nat} {c:Cs} {dn:List Int} {ps:List Nat} {d:Dd} {h f:Int} {r:Rl} {b:Bk}
@[simp]theorem J08:Jao (rlD r) (.int 0) S=.ok (.int r.a) S:=Jbn
@[simp]theorem J07:Jao (rlD r) (.int 1) S=.ok (.int r.b) S:=Jd9
@[simp]theorem J06:Jao (rlD r) (.int 2) S=.ok (.int r.c) S:=Jjl
@[simp]theorem J1h:Jao (bkD b) (.int 3) S=.ok (.tup (b.ds.map ddD)) S:=Jo3
def Jey{a:Int}{x y:Nat}(h0:0<=a)(h1:a<2^x)(h2:x<=y):a/2^y=0:=by
 refine Int.ediv_eq_zero_of_lt h0 (L6 h1 ?_)
 exact_mod_cast Nat.pow_le_pow_right (by decide:0<2) h2
def Juo(h0:0<=a):a<2^Bx a:=by
 unfold Bx;split
 ·rename_i e;simp at e;subst e;decide
 ·have:=Nat.lt_log2_self (n:=a.natAbs);have e:((a.natAbs:Nat):Int)=a:=Qv h0;rw[<-e];simp only[Int.natAbs_natCast]
  exact_mod_cast this
def Jt2(g:RlOk r):r.a/2^(min ((h-1)/r.b).toNat (Bx r.a))=Vv r h:=by
 unfold Vv;have h1:=Juo g.a.1;have h2:r.a<2^200:=Iy g.a.2 (by decide);generalize((h-1)/r.b).toNat=t;generalize Bx r.a=B at h1
 by_cases ht:200<t
 ·rw[show min 200 t=200 by lia,Jey g.a.1 h2 (Aj _)]
  by_cases hB:B<=t
  ·rw[show min t B=B by lia];exact Jey g.a.1 h1 (Aj _)
  ·rw[show min t B=t by lia];exact Jey g.a.1 h2 (by lia)
 ·rw[show min 200 t=t by lia]
  by_cases hB:B<=t
  ·rw[show min t B=B by lia,Jey g.a.1 h1 (Aj _),Jey g.a.1 h1 hB]
  ·rw[show min t B=t by lia]
def gift(g:RlOk r)(hh:1<=h):callN T G W (n+1) "gift" [rlD r,.int h] S=.ok (.int (Vv r h)) S:=by
 rw[Jaa Jp2 rfl];have hb:=g.b;have h0:0<=(h-1)/r.b:=Nt (by lia) (by lia);rw[<-Jt2 g];simp[Jmr,Jaw (S:=S) (i:=h-1) (j:=r.b) (by lia) (by lia)];generalize(h-1)/r.b=t at h0;rw[show(if t<0 then 0 else t)=t from if_neg (by lia)]
 by_cases hB:((Bx r.a:Nat):Int)<t
 ·rw[if_pos hB,Je1 (by lia)];simp;rw[show min t.toNat (Bx r.a)=Bx r.a by lia]
 ·rw[if_neg hB,Je1 h0];simp;rw[show min t.toNat (Bx r.a)=t.toNat by lia]
def free_from:callN T G W (n+2) "free_from" [ddD d,.int h,rlD r] S=.ok (.int (if d.ins=[]then h+r.c else h)) S:=by
 rw[Jaa Jgv rfl];have e5:=is_maker (W:=W) (n:=n) (S:=S) (d:=d)
 by_cases hm:d.ins=[]<;>simp[Jcr,e5,hm]
def IMk(S:Store)(ds:List Dd)(i:Nat)(acc:List D)(S':Store):Prop:=Ext S S'/\acc=((ds.take i).filter λd=>decide (d.ins=[])).map λd=>D.int (worth d)
theorem Jwz{ds:List Dd}(g:BkOk ds):((ds.filter λd=>decide (d.ins=[])).map worth).sum=first ds:=by
 cases ds with
 |nil=>exact absurd g.ne (by simp)
 |cons d r=>
  have h0:=(g.mr 0 d rfl).mpr rfl;have hr:r.filter (λd=>decide (d.ins=[]))=[]:=by
   rw[Pn];intro x hx;obtain⟨i,hi,e⟩:=C6.mp hx;have:=g.mr (i+1) x (by rw[Bu,Ag hi,e]);simp;intro z;have:=this.mp z
   lia
  rw[Ff,if_pos (by simp[h0]),hr];simp[first]
def worth_of_makers(g:BkOk b.ds):∃S',callN T G W (n+2) "worth_of_makers" [bkD b] S=.ok (.int (first b.ds)) S'/\Ext S S':=by
 rw[Jaa Jcz rfl];refine Sat.to ?_;simp[Ja3];have hl:=g.l;obtain⟨d,S1,e,ys,S0,⟨x0,rfl⟩,rfl,rfl⟩:=comp (C:=Cn T G W (n+1)) (g:=none) (S:=S) (Z:=[some (bkD b)]) (k:=1) (keep:=[]) (tg:=.tvar 0) (cd:=.cns (.call "is_maker" (.cns (.var 0) .nul)) .nul) (el:=.call "worth_of" (.cns (.var 0) .nul)) (ds:=b.ds.map ddD) (IMk S b.ds) (by rw[Ah];unfold Line;lia) ⟨.refl _,by simp⟩
  (λi acc S1 ⟨_,h1⟩=>⟨by rw[h1,Ah];exact Bl (Kf _ _) (by simp;lia),rfl⟩)
  (λi acc S1 hi ⟨x1,h1⟩=>by
   have hx:i<b.ds.length:=by simpa using hi
   refine⟨ddD b.ds[i],by simp[nth,hx],?_⟩;have e5:=is_maker (W:=W) (n:=n) (S:=S1) (d:=b.ds[i]);have e6:=worth_of (W:=W) (n:=n) (S:=S1) (g.ok _ (He hx)).o;rw[Jak]
   by_cases hm:b.ds[i].ins=[]
   ·simp[Vl,e5,hm,e6];refine⟨x1.trans (.new _ _),?_⟩;rw[h1,Eb,Ag hx,Q6,Ey];congr 1;simp[hm]
   ·simp[Vl,e5,hm];refine⟨x1,?_⟩;rw[h1,Eb,Ag hx,Q6,Ey];simp[hm])
 rw[e];simp only[Res.bind_ok,V9,Wb,Vu];rw[Jbv,Ah,Hc,Jwz g];simp;exact x0.trans (.new _ _)
theorem Jge:∀{xs:List D} {k i:Nat},(enD k xs)[i]? =(xs[i]?).map λx=>.tup [.int ((k+i:Nat):Int),x]
 |[],k,i=>by simp[enD]
 |x::xs,k,0=>by simp[enD]
 |x::xs,k,i+1=>by
  rw[enD,Bu,Bu,Jge,show k+1+i=k+(i+1) by lia]
theorem enD_len:∀{xs:List D} {k:Nat},(enD k xs).length=xs.length
 |[],k=>rfl
 |x::xs,k=>by simp[enD,enD_len]
inductive IBf (S:Store) (L0:Nat) (L u q:Nat) (r:Rl) (h:Int) (b:Bk) (z:Option (Nat×String)×Cs×List Int×Int) (i:Nat) (Z:En) (S':Store):Prop
 |mk (c dn f v0 v1 v2) (_:Z=[some (.loc L0),some (bkD b),some (.int h),some (rlD r),some (.loc L),some (.int f),v0,v1,v2]) (_:Ext S S') (_:Hd S' L u q c dn) (_:Gc c) (_:Gd dn) (_:z=goP h r.c i c dn f (b.ds.drop i)):IBf S L0 L u q r h b z i Z S'
def RBf(S:Store)(z:Option (Nat×String)×Cs×List Int×Int)(d:D)(S':Store):Prop:=Ext S S'/\∃x,z.1=some x/\d=bwD (some x)
def block_fault(a:Hd S L u q c dn)(g:Gc c)(gd:Gd dn)(gr:RlOk r)(gb:BkOk b.ds)(hh:1<=h):∃S',callN T G W (n+8) "block_fault" [.loc L,bkD b,.int h,rlD r] S=.ok (bwD (bfP r h c dn b.ds)) S'/\Ext S S':=by
 rw[Jaa Je5 rfl];refine Sat.to ?_;obtain⟨S1,u1,q1,e1,x1,hu1,hq1,a1⟩:=copied (W:=W) (n:=n+5) a g;simp[Jbp,a.rc (m:="copied"),e1];unfold bfP;generalize hz:goP h r.c 0 c dn 0 b.ds=z;refine Sat.p2 (loop (IBf S L S.length u1 q1 r h b z) (RBf S z) ⟨c,dn,0,none,none,none,rfl,x1,a1,g,gd,by rw[<-hz];rfl⟩ ?_) ?_
 ·rintro i y _ S2 hd0 ⟨c2,dn2,f2,v0,v1,v2,rfl,x2,a2,g2,gd2,hz2⟩;rw[Jge,Ap]at hd0;obtain⟨y',hy,rfl⟩:=Al.mp hd0;obtain⟨d,hd,rfl⟩:=Al.mp hy;have hi:i<b.ds.length:=(Ae.mp hd).1;have dk:=gb.ok d (Ba hd);rw[Cm hi,(Ae.mp hd).2,goP]at hz2;obtain⟨S3,e3,x3⟩:=fault (W:=W) (n:=n+1) (h:=h) a2 g2 dk;have a3:=a2.ext x3;rw[Jat];simp[a2.rc (m:="fault"),e3];cases hw:Vw c2 dn2 d h with
  |some w=>
   rw[hw]at hz2;simp;rw[if_pos (by decide)];simp;exact⟨x2.trans x3,(i,w),by rw[hz2],rfl⟩
  |none=>
   rw[hw]at hz2;obtain⟨hn,hdst,hv⟩:=Jb9 hw;obtain⟨S4,e4,x4⟩:=fee (W:=W) (n:=n+4) a3 dk hv;have a4:=a3.ext x4;have e5:=free_from (W:=W) (n:=n+5) (S:=S4) (d:=d) (h:=h) (r:=r);obtain⟨v,S5,e6,k5,a5⟩:=Jxv (W:=W) (n:=n) (f:=if d.ins=[]then h+r.c else h) a4 g2 gd2 dk hw;simp[a3.rc (m:="fee"),e4,a4.rc (m:="do"),e5,e6];refine⟨_,_,_,_,_,_,rfl,((x2.trans x3).trans x4).keep k5 (by simp;lia),a5,?_,gd2.add hn dk.n,?_⟩
   ·exact g2.putO dk _
   ·rw[hz2];dsimp only;have:=gb.mr i d hd
    by_cases h0:i=0
    ·rw[if_pos h0,if_pos (this.mpr h0)]
    ·rw[if_neg h0,if_neg (λz=>h0 (this.mp z))]
 ·intro fl S2 hf;rcases hf.nr with⟨_,rfl,c2,dn2,f2,v0,v1,v2,rfl,x2,a2,g2,gd2,hz2⟩|⟨y,rfl,x2,w,hw,rfl⟩
  ·rw[enD_len,Ah,Hf,goP]at hz2;obtain⟨S3,e3,x3⟩:=worth_of_makers (W:=W) (n:=n+5) (S:=S2) gb;have e4:=gift (W:=W) (n:=n+6) (S:=S3) gr hh;subst hz2;simp[e3,e4]
   by_cases hm:Vv r h+f2<first b.ds
   ·simp[hm];rw[if_pos (by decide)];simp;exact x2.trans x3
   ·simp[hm];exact x2.trans x3
  ·simp[hw];exact x2
inductive IDb (S:Store) (L u q:Nat) (r:Rl) (h:Int) (b:Bk) (z:Option (Nat×String)×Cs×List Int×Int) (i:Nat) (acc:List D) (S':Store):Prop
 |mk (_:acc.length=i) (_:Keep [u,q] S S') (_:∃c dn f,Hd S' L u q c dn/\Gc c/\Gd dn/\z=goP h r.c i c dn f (b.ds.drop i)):IDb S L u q r h b z i acc S'
def do_block(a:Hd S L u q c dn)(g:Gc c)(gd:Gd dn)(gr:RlOk r)(gb:BkOk b.ds)(hh:1<=h)(hf:bfP r h c dn b.ds=none):
  Sat (callN T G W (n+9) "do_block" [.loc L,bkD b,.int h,rlD r] S) λd S'=>(∃x ys,d=.loc x/\S'[x]? =some (.lst ys)/\ys.length=b.ds.length)/\Keep [u,q] S S'/\Hd S' L u q (goP h r.c 0 c dn 0 b.ds).2.1 (goP h r.c 0 c dn 0 b.ds).2.2.1/\Gc (goP h r.c 0 c dn 0 b.ds).2.1/\Gd (goP h r.c 0 c dn 0 b.ds).2.2.1:=by
 rw[Jaa Jif rfl];obtain⟨S1,e1,x1⟩:=block_fault (W:=W) (n:=n) a g gd gr gb hh;rw[hf]at e1;simp[Jdr,e1];have a1:=a.ext x1;have hz1:(goP h r.c 0 c dn 0 b.ds).1=none:=by
  unfold bfP at hf;split at hf
  ·cases hf
  ·assumption
 generalize hz:goP h r.c 0 c dn 0 b.ds=z at hz1;have hl:=gb.l;have cc:=comp (C:=Cn T G W (n+8)) (g:=none) (S:=S1) (Z:=[some (.loc L),some (bkD b),some (.int h),some (rlD r),some (bwD none)]) (k:=1) (keep:=[2,0,3]) (tg:=.tvar 0) (cd:=.nul) (el:=(.mcl "Hoard" "do" "Hoard.do" (.var 2) (.cns (.var 0) (.cns (.var 1) (.cns (.call "free_from" (.cns (.var 0) (.cns (.var 1) (.cns (.var 3) .nul)))) .nul))))) (ds:=b.ds.map ddD) (IDb S L u q r h b z) (by rw[Ah];unfold Line;lia) ⟨by simp,.ext x1,c,dn,0,a1,g,gd,by rw[<-hz];rfl⟩
  (λi acc S1 h1=>⟨Kb h1.1,rfl⟩)
  (λi acc S2 hi q_=>by
   obtain⟨hacc,k2,c2,dn2,f2,a2,g2,gd2,hz2⟩:=q_;have hx:i<b.ds.length:=by simpa using hi
   have hd:b.ds[i]? =some b.ds[i]:=Ag hx;refine⟨ddD b.ds[i],by simp[nth,hx],?_⟩;generalize b.ds[i]=d at hd;have dk:=gb.ok d (Ba hd);rw[Cm hx,(Ae.mp hd).2,goP]at hz2;have hw:Vw c2 dn2 d h=none:=by
    cases hw:Vw c2 dn2 d h with
    |none=>rfl
    |some w=>rw[hw]at hz2;rw[hz2]at hz1;cases hz1
   rw[hw]at hz2;obtain⟨hn,hdst,hv⟩:=Jb9 hw;have e5:=free_from (W:=W) (n:=n+6) (S:=S2) (d:=d) (h:=h) (r:=r);obtain⟨v,S5,e6,k5,a5⟩:=Jxv (W:=W) (n:=n+1) (f:=if d.ins=[]then h+r.c else h) a2 g2 gd2 dk hw;rw[Jak];simp[Vl,a2.rc (m:="do"),e5,e6];refine⟨by simp;exact hacc,k2.trans k5,_,_,f2+Yd c2 d,a5,g2.putO dk _,gd2.add hn dk.n,hz2.trans ?_⟩;dsimp only;have:=gb.mr i d hd
   by_cases h0:i=0
   ·rw[if_pos h0,if_pos (this.mpr h0)]
   ·rw[if_neg h0,if_neg (λz=>h0 (this.mp z))])
 obtain⟨d,S2,e,ys,S0,⟨ha,k0,c2,dn2,f2,a2,g2,gd2,hz2⟩,rfl,rfl⟩:=cc;simp only[bwD]at e;rw[e];rw[Ah,Hf,goP]at hz2;subst hz2;simp;exact⟨by simpa using ha,k0.trans (.new _),a2.ext (.new _ _),g2,gd2⟩
def held(a:Hd S L u q c dn)(g:Gc c)(hu:upB ((cp c).map (·.1))=true):callN T G W (n+1) "Hoard.held" [.loc L] S=.ok (.loc S.length) (S++[csO c]):=by
 rw[Jaa Jfe rfl];simp[Jb3,a.fu,Jpg a.u hu (by rw[Ah];have:=g.len;unfold Line;lia)]
noncomputable def hdD:D->D
 |.tup (x::_)=>x
 |_=>.non
def Jvh(hx:S[l]? =some (csO c))(g:Gc c){b:Bool}{keep:List Nat}{el:M}{C:Pr}{Z:En}(ht:∀p∈cp c,V7 C (.tvar 0) .nul el (dwI b p) (Vl 1 keep Z) (S.set l (.fz (cp c)))=.ok (some (hdD p.2)) (S.set l (.fz (cp c)))):
  Za C b keep (.tvar 0) el Z (.loc l) S=.ok (.loc S.length) (S++[pl (c.map (·.2.w))]):=by
 rw[Jtu (λp=>hdD p.2) hx (by rw[Ah];have:=g.len;lia) ht];simp[pl,kpD,hdD]
def total(a:Hd S L u q c dn)(g:Gc c):callN T G W (n+1) "Hoard.total" [.loc L] S=.ok (.int (c.map (·.2.w)).sum) (S++[pl (c.map (·.2.w))]):=by
 rw[Jaa Je6 rfl];have e:=Jvh (C:=Cn T G W n) (b:=true) (keep:=[]) (el:=.idx (.var 0) (.glb "WORTH")) (Z:=[some (.loc L)]) a.u g λp hp=>by
  obtain⟨z,_,rfl⟩:=Bd.mp hp;simp[Jak,Vl,dwI,kpD,hdD]
 simp[Jbq,a.fu,e,Jdx]
theorem Jfo{ds:List D}:cop .ne (.tup ds) (.tup []) S=some (!ds.isEmpty):=by
 cases ds<;>rfl
def Jwt(hu:S[u]? =some (csO c)):cop .nin (dK k) (.loc u) S=some (!(dVal c k).isSome):=by
 rw[Jpr hu,Jbd,Ex]
def Jxi(hu:S[u]? =some (csO c)):cop .inn (dK k) (.loc u) S=some (dVal c k).isSome:=by
 rw[Juf hu,Jbd,Ex]
def Jjn(hu:S[u]? =some (csO c))(hv:dVal c k=some v):Jao (.loc u) (dK k) S=.ok (kpD v) S:=Jf7 hu (by rw[Jbd,hv];rfl)
inductive IWd (S:Store) (u q l:Nat) (c:Cs) (d:Dd) (h:Int) (i:Nat) (Z:En) (S':Store):Prop
 |mk (a0 a1 a2 a3 a4 a5 a6 a7 a8) (_:Z=[some (.loc u),some (.loc q),some (ddD d),some (.int h),some (.int d.n),some (.tup (d.ins.map inD)),some (.tup (d.outs.map ouD)),some (.loc l),a0,a1,a2,a3,a4,a5,a6,a7,a8]) (_:Ext S S') (_:d.ins.findSome? (inW c d h)=(d.ins.drop i).findSome? (inW c d h)):IWd S u q l c d h i Z S'
def Jkt(hu:S[u]? =some (csO c))(hq:S[q]? =some (dnO dn))(g:Gc c)(g2:W1 d):∃S',callN T G W (n+5) "_law_word" [.loc u,.loc q,ddD d,.int h] S=.ok (wD (Vw c dn d h)) S'/\Ext S S':=by
 rw[Jaa Jh5 rfl];have i3:=g2.i;have eg:∀Z,evG (Cn T G W (n+4)) (.ttup (.cns (.tvar 4) (.cns (.tvar 5) (.cns (.tvar 6) .nul)))) (ddD d) Z S=evGs (Cn T G W (n+4)) (.cns (.tvar 4) (.cns (.tvar 5) (.cns (.tvar 6) .nul))) [.int d.n,.tup (d.ins.map inD),.tup (d.outs.map ouD)] Z S:=λZ=>rfl;unfold Vw
 by_cases h1:d.n∈dn
 ·simp[Jcd,eg,Jjr hq,h1];exact .refl _
 refine Sat.to ?_;simp[Jcd,eg,Jjr hq,h1];rw[Ja7 (xs:=d.ins) inD (λi=>dK i.1) (by lia) (.inl rfl) (λx _=>by simp[Jak,Vl])];have hN:(S++[Obj.lst (d.ins.map λi=>dK i.1)])[S.length]? =some (.lst ((nms d).map dK)):=by rw[Jad];simp[nms,Bn]
 have x1:=Ext.new S [Obj.lst (d.ins.map λi=>dK i.1)];generalize S++[Obj.lst (d.ins.map λi=>dK i.1)]=S1 at hN x1;have hln:(nms d).length=d.ins.length:=by simp[nms]
 have e2:=Jqw hN (by lia);have e3:=Jav hN;rw[Ah]at e3;simp[e2,e3]
 by_cases h2:dst (nms d)<(nms d).length
 ·simp[h2];exact x1
 simp[h2];refine Sat.p2 (loop (IWd S1 u q S.length c d h) (RFau S c d h) ⟨_,_,_,_,_,_,_,_,_,rfl,.refl _,by simp⟩ ?_) ?_
 ·rintro i z _ S2 hd ⟨a0,a1,a2,a3,a4,a5,a6,a7,a8,rfl,x2,hf⟩;rw[Ap]at hd;obtain⟨r,hr,rfl⟩:=Al.mp hd;have hi:i<d.ins.length:=(Ae.mp hr).1;rw[Cm hi,(Ae.mp hr).2,Qs]at hf;have hu2:=(x1.trans x2).get hu;have eg:∀Z,evG (Cn T G W (n+4)) (.ttup (.cns (.tvar 8) (.cns (.tvar 9) .nul))) (inD r) Z S2=evGs (Cn T G W (n+4)) (.cns (.tvar 8) (.cns (.tvar 9) .nul)) [dK r.1,.tup (r.2.map D.int)] Z S2:=λZ=>rfl;rw[Jat];simp[eg,Jwt hu2];cases hv:dVal c r.1 with
  |none=>
   simp -implicitDefEqProofs [inW,hv]at hf ⊢;exact⟨"gone",hf,rfl,x1.trans x2⟩
  |some k=>
   have ek:∀Z,evG (Cn T G W (n+4)) (.ttup (.cns (.tvar 10) (.cns (.tvar 11) (.cns (.tvar 12) (.cns (.tvar 13) .nul))))) (kpD k) Z S2=evGs (Cn T G W (n+4)) (.cns (.tvar 10) (.cns (.tvar 11) (.cns (.tvar 12) (.cns (.tvar 13) .nul)))) [.int k.w,.tup (k.lk.map rD),.int k.m,.int k.f] Z S2:=λZ=>rfl;simp[Jjn hu2 hv,ek];simp only[inW,hv]at hf
   by_cases hh:h<k.f
   ·rw[if_pos hh]at hf;simp[hh];exact⟨"green",hf,rfl,x1.trans x2⟩
   ·rw[if_neg hh]at hf;simp[hh];rw[Jbl g2.o (λx _=>by simp[Jak,Vl])];simp only[Res.bind_ok,V9,Wb,Vu];rw[Jam Jad];have o1:=g.ok _ (Jc9 hv);obtain⟨bb,hb⟩:=o1.lk.2 (fx k d h) r.2;obtain⟨S3,e4,x3⟩:=Jjg (W:=W) n (fx k d h) k.lk r.2 (S2++[pl (Vt d)]) (by have:=o1.lk.1;simp at this;lia) (by have:=g2.k r (Ba hr);lia) hb;have ea:(if k.m<h then h-k.m else 0)=if h-k.m<0 then 0 else h-k.m:=by split<;>split<;>lia
    simp only[fD,fx]at e4;rw[<-ea]at e4;simp;rw[if_pos (by decide)];simp[e4];rw[hb]at hf;cases bb with
    |false=>
     simp at hf ⊢;exact⟨"shut",hf,rfl,((x1.trans x2).trans (.new _ _)).trans x3⟩
    |true=>
     simp at hf ⊢;exact⟨_,_,_,_,_,_,_,_,_,rfl,(x2.trans (.new _ _)).trans x3,hf⟩
 ·intro fl S2 hh;rcases hh.nr with⟨_,rfl,a0,a1,a2,a3,a4,a5,a6,a7,a8,rfl,x2,hf⟩|⟨r,rfl,x,hf,rfl,x2⟩
  ·rw[Ah,Hf]at hf;have hn:=Ij.mp hf;have hv:∀i∈d.ins,∃k,dVal c i.1=some k:=λi hi=>by
    have:=hn i hi;unfold inW at this;split at this
    ·cases this
    ·exact⟨_,‹_›⟩
   rw[hf];simp;rw[Jbl g2.o (λx _=>by simp[Jak,Vl])];simp only[Res.bind_ok,V9,Wb,Vu];rw[Jdx];have x3:=(x1.trans x2).trans (.new _ [pl (Vt d)]);have hN3:=Jai (X:=[pl (Vt d)]) (x2.get hN);generalize S2++[pl (Vt d)]=S3 at x3 hN3;simp[Jfo]
   by_cases hm:d.ins=[]
   ·simp[hm];exact x3
   ·simp[hm,Ja6 hN3];have hu3:=x3.get hu;rw[Ja7 (xs:=nms d) dK (λi=>.int (wOf c i)) (by lia) (.inr ⟨_,rfl,hN3⟩) (λx hx=>by
     obtain⟨i,hi,rfl⟩:=Bd.mp hx;obtain⟨k,hk⟩:=hv i hi;simp[Jak,Vl,Jjn hu3 hk,wOf,hk])]
    have:=Jdx (S:=S3) ((nms d).map (wOf c));simp only[pl,B4,Bn]at this;simp only[Res.bind_ok,V9,Wb,Vu];rw[this];have es:((nms d).map (wOf c)).sum=spent c d:=by simp[spent,nms,Bn]
    rw[es];have ew:(Vt d).sum=worth d:=rfl
    by_cases hs:spent c d<worth d
    ·simp[hs,ew];exact x3.trans (.new _ _)
    ·simp[hs,ew];exact x3.trans (.new _ _)
  ·simp[hf];exact x2
def sofar(c:Cs)(d:Dd)(i:Nat):Int:=((d.ins.take i).map λx=>wOf c x.1).sum
inductive ILp (S:Store) (u q:Nat) (c:Cs) (d:Dd) (h f:Int) (i:Nat) (Z:En) (S':Store):Prop
 |mk (a0 a1) (_:Z=[some (.loc u),some (.loc q),some (ddD d),some (.int h),some (.int f),some (.int (-worth d+sofar c d i)),a0,a1,none,none]) (_:Keep [u] S S') (_:S'[u]? =some (csO (dropO c d i))):ILp S u q c d h f i Z S'
inductive ILq (S:Store) (u q:Nat) (c:Cs) (d:Dd) (h f:Int) (v:D) (i:Nat) (Z:En) (S':Store):Prop
 |mk (a0 a1 a2 a3) (_:Z=[some (.loc u),some (.loc q),some (ddD d),some (.int h),some (.int f),some v,a0,a1,a2,a3]) (_:Keep [u] S S') (_:S'[u]? =some (csO (putO c d h f i))):ILq S u q c d h f v i Z S'
def Jlj(hu:S[u]? =some (csO c))(hq:S[q]? =some (dnO dn))(g:Gc c)(gd:Gd dn)(g2:W1 d)(hn:d.n∉dn)(h2:¬dst (nms d)<(nms d).length)(hv:∀i∈d.ins,∃k,dVal c i.1=some k):
  ∃S',callN T G W (n+1) "_law_put" [.loc u,.loc q,ddD d,.int h,.int f] S=.ok (.int (Yd c d)) S'/\Keep [u,q] S S'/\S'[u]? =some (csO (Xs c d h f))/\S'[q]? =some (dnO (dn++[d.n])):=by
 rw[Jaa Ji6 rfl];have huq:u≠q:=by
  rintro rfl;have:=hu.symm.trans hq;cases this
 refine Sat.to ?_;simp[Jex];rw[Jbl g2.o (λx _=>by simp[Jak,Vl])];simp only[Res.bind_ok,V9,Wb,Vu];rw[Jdx];have x1:=Ext.new S [pl (Vt d)];generalize S++[pl (Vt d)]=S1 at x1;have hu1:=x1.get hu;have hq1:=x1.get hq;simp;refine Sat.p2 (loop (ILp S1 u q c d h f) noR ⟨none,none,by simp[sofar];rfl,.refl,hu1⟩ ?_) ?_
 ·rintro i z _ S2 hd ⟨a0,a1,rfl,k2,hu2⟩;rw[Ap]at hd;obtain⟨x,hx,rfl⟩:=Al.mp hd;have hi:i<d.ins.length:=(Ae.mp hx).1;obtain⟨v,hv⟩:=hv x (Ba hx);have e:=pop_at hu2 ((Jmu h2 hx).trans hv);have rr:=Zs (me:=.pop1) rfl hu2;have eg:∀Z,evG (Cn T G W n) (.ttup (.cns (.tvar 6) (.cns (.tvar 7) .nul))) (inD x) Z S2=evGs (Cn T G W n) (.cns (.tvar 6) (.cns (.tvar 7) .nul)) [dK x.1,.tup (x.2.map D.int)] Z S2:=λZ=>rfl;rw[Jat];simp[eg,e,rr];have:sofar c d (i+1)=sofar c d i+v.w:=by
   unfold sofar;rw[Eb,hx,Ey,List.sum_append];simp[wOf,hv]
  rw[Int.add_assoc,<-this];exact⟨_,_,rfl,k2.trans (.set (by simp)),by rw[Jar hu2,Jmv hx]⟩
 ·intro fl S6 hh;obtain⟨_,rfl,x,y,rfl,k6,hu6⟩:=hh.nx;simp only[Ah]at hu6 ⊢;have es:sofar c d d.ins.length=spent c d:=by simp[sofar,spent]
  rw[es];simp;refine Sat.p2 (loop (ILq S6 u q c d h f (.int (-worth d+spent c d))) noR ⟨_,_,_,_,rfl,.refl,hu6⟩ ?_) ?_
  ·rintro i z _ S8 hd0 ⟨a0,a1,a2,a3,rfl,k8,hu8⟩;rw[Jge,Ap]at hd0;obtain⟨y',hy,rfl⟩:=Al.mp hd0;obtain⟨o,ho,rfl⟩:=Al.mp hy;have e:=Jqj (k:=(d.n,(i:Int))) (v:=⟨o.1,o.2,h,f⟩) hu8 (g.putO g2 i);simp only[kpD]at e;rw[Jat];simp;rw[if_pos (by decide)];simp;rw[if_pos (by decide)];simp[e];exact⟨_,_,_,_,rfl,k8.trans (.set (by simp)),by rw[Jar hu8,Jqk ho]⟩
  ·intro fl S9 hh;obtain⟨_,rfl,a0,a1,a2,a3,rfl,k9,hu9⟩:=hh.nx;rw[enD_len,Ah]at hu9;have hq9:=k9.get (k6.get hq1 (by simp;exact huq.symm)) (by simp;exact huq.symm);simp[Jqi hq9 gd hn,Jfo];have kk:Keep [u,q] S (S9.set q (dnO (dn++[d.n]))):=(((Keep.ext x1).trans (k6.mono (by simp))).trans (k9.mono (by simp))).trans (.set (by simp));have hu':(S9.set q (dnO (dn++[d.n])))[u]? =some (csO (Xs c d h f)):=by rw[Ao huq.symm];exact hu9
   have hq':(S9.set q (dnO (dn++[d.n])))[q]? =some (dnO (dn++[d.n])):=Jar hq9;unfold Yd
   by_cases hm:d.ins=[]
   ·rw[Jbf (by simp[hm];rfl)];simp[hm];exact⟨kk,hu',hq'⟩
   ·rw[Jbf (by simp[hm];rfl)];simp[hm];exact⟨by lia,kk,hu',hq'⟩
inductive IGf (r:Rl) (h:Int) (S:Store) (i:Nat) (Z:En) (S':Store):Prop
 |mk (a) (_:Z=[some (rlD r),some (.int h),some (.int (r.a/2^i)),a]) (_:S'=S):IGf r h S i Z S'
def Jga(g:RlOk r)(hh:1<=h):callN T G W (n+1) "_law_gift" [rlD r,.int h] S=.ok (.int (Vv r h)) S:=by
 suffices hs:∃S',callN T G W (n+1) "_law_gift" [rlD r,.int h] S=.ok (.int (Vv r h)) S'/\S'=S by
  obtain⟨S',e,rfl⟩:=hs;exact e
 rw[Jaa Jia rfl];refine Sat.to ?_;have hb:=g.b;have h0:0<=(h-1)/r.b:=Nt (by lia) (by lia);have e1:=Jaw (S:=S) (i:=h-1) (j:=r.b) (by lia) (by lia);unfold Vv;generalize(h-1)/r.b=t at h0 e1;simp[Jdn,e1];obtain⟨k,hk,ek⟩:∃k:Nat,(if t<200 then t else 200)=(k:Int)/\k=min 200 t.toNat:=⟨min 200 t.toNat,by split<;>lia,rfl⟩
 rw[hk,Jdf (by lia) (by lia)];simp;refine Sat.p2 (loop (IGf r h S) noR ⟨none,by simp,rfl⟩ ?_) ?_
 ·rintro i z _ S2 hd ⟨a,rfl,rfl⟩;rw[Ap]at hd;obtain⟨x,hx,rfl⟩:=Al.mp hd;rw[Jat];have e2:=Jaw (S:=S2) (i:=r.a/2^i) (j:=2) (by decide) (by decide);simp[e2];refine⟨some (.int x),?_,rfl⟩;rw[Int.pow_succ,Int.ediv_ediv_of_nonneg (Uw (by decide))]
 ·intro fl S2 hf;obtain⟨_,rfl,a,rfl,rfl⟩:=hf.nx;simp[ek]
inductive IDn (S:Store) (L u:Nat) (r:Rl) (h:Int) (b:Bk) (z:Option (Nat×String)×Cs×List Int×Int) (i:Nat) (Z:En) (S':Store):Prop
 |mk (c dn f v0 v1 v2) (_:Z=[some (.loc L),some (.loc u),some (bkD b),some (.int h),some (rlD r),some (.int f),v0,v1,v2]) (_:Ext S S') (_:S'[L]? =some (csO c)) (_:S'[u]? =some (dnO dn)) (_:Gc c) (_:Gd dn) (_:z=goP h r.c i c dn f (b.ds.drop i)):IDn S L u r h b z i Z S'
def RDn(S:Store)(u q:Nat)(z:Option (Nat×String)×Cs×List Int×Int)(d:D)(S':Store):Prop:=Ext S S'/\∃x,z.1=some x/\d=.tup [bwD (some x),.loc u,.loc q,.int 0]
def Jmw(hu:S[u]? =some (csO c))(hq:S[q]? =some (dnO dn))(g:Gc c)(gd:Gd dn)(gr:RlOk r)(gb:BkOk b.ds)(hh:1<=h):∃f S',callN T G W (n+6) "_law_done" [.loc u,.loc q,bkD b,.int h,rlD r] S=.ok (.tup [bwD (bfP r h c dn b.ds),.loc S.length,.loc (S.length+1),.int f]) S'/\Ext S S'/\
  (bfP r h c dn b.ds=none->S'[S.length]? =some (csO (goP h r.c 0 c dn 0 b.ds).2.1)/\S'[S.length+1]? =some (dnO (goP h r.c 0 c dn 0 b.ds).2.2.1)):=by
 rw[Jaa Jib rfl]
 suffices hs:Sat ((evB (Cn T G W (n+5)) V2.body (N0 some [.loc u,.loc q,bkD b,.int h,rlD r]++Eo (V2.N.length-[D.loc u,.loc q,bkD b,.int h,rlD r].length) none) S).bind Xw) λd S'=>∃f,d=.tup [bwD (bfP r h c dn b.ds),.loc S.length,.loc (S.length+1),.int f]/\Ext S S'/\(bfP r h c dn b.ds=none->S'[S.length]? =some (csO (goP h r.c 0 c dn 0 b.ds).2.1)/\S'[S.length+1]? =some (dnO (goP h r.c 0 c dn 0 b.ds).2.2.1)) by
  obtain⟨d,S',e,f,rfl,x,p⟩:=hs;exact⟨f,S',e,x,p⟩
 have hq1:=Jai (X:=[csO c]) hq;have e2:=Jgi hq1;simp[V2,Jgh hu g.apt];simp at e2;simp[e2];unfold bfP;generalize hz:goP h r.c 0 c dn 0 b.ds=z;obtain⟨d0,rs,hds⟩:∃d0 rs,b.ds=d0::rs:=by
  cases hds:b.ds with
  |nil=>have:=gb.ne;rw[hds]at this;cases this
  |cons d0 rs=>exact⟨d0,rs,rfl⟩
 refine Sat.p2 (loop (IDn S S.length (S.length+1) r h b z) (RDn S S.length (S.length+1) z) ⟨c,dn,0,none,none,none,rfl,.new _ _,Jau,Jdd,g,gd,by rw[<-hz];rfl⟩ ?_) ?_
 ·rintro i y _ S2 hd0 ⟨c2,dn2,f2,v0,v1,v2,rfl,x2,hu2,hq2,g2,gd2,hz2⟩;rw[Jge,Ap]at hd0;obtain⟨y',hy,rfl⟩:=Al.mp hd0;obtain⟨d,hd,rfl⟩:=Al.mp hy;have hi:i<b.ds.length:=(Ae.mp hd).1;have dk:=gb.ok d (Ba hd);rw[Cm hi,(Ae.mp hd).2,goP]at hz2;obtain⟨S3,e3,x3⟩:=Jkt (W:=W) (n:=n) (h:=h) hu2 hq2 g2 dk;rw[Jat];simp[e3];cases hw:Vw c2 dn2 d h with
  |some w=>
   rw[hw]at hz2;simp;rw[if_pos (by decide)];simp;rw[if_pos (by decide)];simp;exact⟨x2.trans x3,(i,w),by rw[hz2],rfl⟩
  |none=>
   rw[hw]at hz2;obtain⟨hn,hdst,hv⟩:=Jb9 hw;obtain⟨S5,e6,k5,hu5,hq5⟩:=Jlj (W:=W) (n:=n+4) (h:=h) (f:=if i=0 then h+r.c else h) (x3.get hu2) (x3.get hq2) g2 gd2 dk hn hdst hv;simp;rw[Jbf (by split<;>rfl)];have ef:h+r.c*(if i=0 then 1 else 0)=if i=0 then h+r.c else h:=by split<;>simp
   simp only[Res.bind_ok,Yc,Jcx,ef,V9,Vu,Wb,Y4,Jux];simp[e6];refine⟨_,_,_,_,_,_,rfl,(x2.trans x3).keep k5 (by simp),hu5,hq5,?_,gd2.add hn dk.n,hz2⟩;exact g2.putO dk _
 ·intro fl S2 hf;rcases hf.nr with⟨_,rfl,c2,dn2,f2,v0,v1,v2,rfl,x2,hu2,hq2,g2,gd2,hz2⟩|⟨y,rfl,x2,w,hw,rfl⟩
  ·rw[enD_len,Ah,Hf,goP]at hz2;have e0:Jao (.tup (b.ds.map ddD)) (.int 0) S2=.ok (ddD d0) S2:=by rw[hds];exact Jbn
   have d0k:=gb.ok d0 (by rw[hds];simp);have ef:first b.ds=worth d0:=by rw[hds];rfl
   simp[e0];rw[Jbl d0k.o (λx _=>by simp[Jak,Vl])];simp only[Res.bind_ok,V9,Wb,Vu];rw[Jdx,show(Vt d0).sum=worth d0 from rfl];have e4:=Jga (W:=W) (n:=n+4) (S:=S2++[pl (Vt d0)]) gr hh;subst hz2;simp[e4];rw[ef]
   by_cases hm:Vv r h+f2<worth d0
   ·simp[hm];rw[if_pos (by decide)];simp;rw[if_pos (by decide)];simp;exact⟨x2.trans (.new _ _),λ_=>⟨Jai hu2,Jai hq2⟩⟩
   ·simp[hm];rw[if_pos (by decide)];simp;exact⟨x2.trans (.new _ _),λ_=>⟨Jai hu2,Jai hq2⟩⟩
  ·simp[hw];exact x2
end
section
variable {α0 α1 α2 α3 α4 α5 α6:Type} {r:Res α0} {f1:α0->Store->Res α1} {f2:α1->Store->Res α2} {f3:α2->Store->Res α3} {f4:α3->Store->Res α4} {f5:α4->Store->Res α5} {f6:α5->Store->Res α6} {Q:α0->Store->Prop}
def p5{P:α5->Store->Prop}(h:Sat r Q)(k:∀a S,Q a S->Sat (((((f1 a S).bind f2).bind f3).bind f4).bind f5) P):Sat (((((r.bind f1).bind f2).bind f3).bind f4).bind f5) P:=by
 obtain⟨a,S,rfl,h⟩:=h;exact k a S h
def p6{P:α6->Store->Prop}(h:Sat r Q)(k:∀a S,Q a S->Sat ((((((f1 a S).bind f2).bind f3).bind f4).bind f5).bind f6) P):Sat ((((((r.bind f1).bind f2).bind f3).bind f4).bind f5).bind f6) P:=by
 obtain⟨a,S,rfl,h⟩:=h;exact k a S h
end
section
variable {W n:Nat} {S S':Store} {l L u q:Nat} {c:Cs} {dn:List Int} {ps:List Nat} {d:Dd} {h f m:Int} {r:Rl} {b:Bk} {ds:List D}
inductive Stm (S:Store) (l:Nat):Prop
 |mk (a e s) (_:S[l]? =some (.lst [.int a,.bl e,.int s])):Stm S l
theorem Jg2(hs:Stm S l)(h0:0<m)(h1:m<2^250):∃x S',callN T G W (n+1) "_law_take" [.loc l,.int m] S=.ok (.int x) S'/\Keep [l] S S'/\Stm S' l/\0<=x/\x<m:=by
 obtain⟨a,e,s,hl⟩:=hs;rw[Jaa Jh6 rfl];have i0:∀S a e s,S[l]? =some (Obj.lst [.int a,.bl e,.int s])->Jao (.loc l) (.int 0) S=.ok (.int a) S:=λS a e s h=>Jaq h (at0 (k:=0) rfl);have i2:∀S a e s,S[l]? =some (Obj.lst [.int a,.bl e,.int s])->Jao (.loc l) (.int 2) S=.ok (.int s) S:=λS a e s h=>Jaq h (at0 (k:=2) rfl);have t1:∀S a e s,S[l]? =some (Obj.lst [.int a,.bl e,.int s])->Jrl (.loc l) (.int 1) S=.ok e S:=λS a e s h=>by simp only[Jrl];rw[show idxD (.loc l) (.int 1) S=some (.bl e)from Jmk h (at0 (k:=1) rfl)];rfl
 have s0:∀S a e s v,S[l]? =some (Obj.lst [.int a,.bl e,.int s])->We (.loc l) (.int 0) v S=.ok () (S.set l (.lst [v,.bl e,.int s])):=λS a e s v h=>Jij h (k:=0) rfl;have s1:∀S a e s v,S[l]? =some (Obj.lst [.int a,.bl e,.int s])->We (.loc l) (.int 1) v S=.ok () (S.set l (.lst [.int a,v,.int s])):=λS a e s v h=>Jij h (k:=1) rfl;have sg:∀o,(S.set l o)[l]? =some o:=λo=>Jar hl;have fin:∀x,0<=x%m/\x%m<m:=λx=>⟨T3 _ (by omega),Rz _ h0⟩
 cases e with
 |true=>
  by_cases ha:1<a
  ·simp[Jbk,t1 _ _ _ _ hl,i0 _ _ _ _ hl,ha,Jaj h0,Jaw h0 h1,s0 _ _ _ _ _ hl];exact⟨a%m,_,⟨rfl,rfl⟩,.set (by simp),⟨_,_,_,sg _⟩,fin _⟩
  ·simp[Jbk,t1 _ _ _ _ hl,i0 _ _ _ _ hl,i2 _ _ _ _ hl,ha,s0 _ _ _ _ _ hl];simp[s1 _ _ _ _ _ (sg (.lst [.int s,.bl true,.int s]))];simp[i0 _ _ _ _ (sg (.lst [.int s,.bl false,.int s]))];rw[Jbf (by rfl)];simp[Jaj (S:=S.set l (.lst [.int s,.bl false,.int s])) (i:=s*48271+11) (j:=2147483629) (by decide),s0 _ _ _ _ _ (sg (.lst [.int s,.bl false,.int s]))];simp[i0 _ _ _ _ (sg (.lst [.int ((s*48271+11)%2147483629),.bl false,.int s])),Jaw (show(0:Int)<7 by decide) (by decide),Jaj h0];exact⟨_,_,⟨rfl,rfl⟩,.set (by simp),⟨_,_,_,sg _⟩,fin _⟩
 |false=>
  simp[Jbk,t1 _ _ _ _ hl,i0 _ _ _ _ hl];rw[Jbf (by rfl)];simp[Jaj (S:=S) (i:=a*48271+11) (j:=2147483629) (by decide),s0 _ _ _ _ _ hl];simp[i0 _ _ _ _ (sg (.lst [.int ((a*48271+11)%2147483629),.bl false,.int s])),Jaw (show(0:Int)<7 by decide) (by decide),Jaj h0];exact⟨_,_,⟨rfl,rfl⟩,.set (by simp),⟨_,_,_,sg _⟩,fin _⟩
inductive Tkn (W n:Nat) (S:Store) (l:Nat) (m:Int):Prop
 |mk (x:Int) (S':Store) (_:callN T G W (n+1) "_law_take" [.loc l,.int m] S=.ok (.int x) S') (_:Keep [l] S S') (_:Stm S' l) (_:0<=x/\x<m):Tkn W n S l m
def Jah(hs:Stm S l)(h0:0<m)(h1:m<2^250):Tkn W n S l m:=by
 obtain⟨x,S',a,b,c,d⟩:=Jg2 (W:=W) (n:=n) hs h0 h1;exact⟨x,S',a,b,c,d⟩
noncomputable def dOk:List Rw->Nat->Bool
 |[],_=>true
 |.iff::r,k=>dOk r (k+1)
 |.els::r,k=>decide (0<k)&&dOk r k
 |.fin::r,k=>decide (0<k)&&dOk r (k-1)
 |_::r,k=>dOk r k
theorem runs:∀{lk:List Rw} {p:List Int} {st:List Pt},dOk lk st.length=true->∃e,runP F lk p st=some e
 |[],p,st,_=>⟨_,rfl⟩
 |r::rs,p,st,hd=>by
  have pl:∀z:Bool×List Int×List Pt,dOk rs z.2.2.length=true->Vs F p st r=some z->∃e,runP F (r::rs) p st=some e:=λz hz e=>by
   obtain⟨z1,z2,z3⟩:=z;simp only[runP,e];cases z1 with
   |false=>exact⟨false,rfl⟩
   |true=>exact runs hz
  cases r with
  |iff=>
   cases hs:Wg st with
   |false=>exact pl (true,p,(false,false)::st) hd (by simp[Vs,Wl,Wc,hs])
   |true=>
    by_cases hp:p=[]
    ·refine⟨false,?_⟩;simp[runP,Vs,Wl,Wc,hs,hp]
    ·exact pl (true,p.dropLast,(decide (p.getLastD 0≠0),decide (p.getLastD 0=0))::st) hd (by simp[Vs,Wl,Wc,hs,hp])
  |els=>
   simp only[dOk,Ai,decide_eq_true_eq]at hd;cases st with
   |nil=>exact absurd hd.1 (by simp)
   |cons x s=>exact pl (true,p,(x.2,false)::s) hd.2 (by simp[Vs,Wl,Wc])
  |fin=>
   simp only[dOk,Ai,decide_eq_true_eq]at hd;cases st with
   |nil=>exact absurd hd.1 (by simp)
   |cons x s=>exact pl (true,p,s) hd.2 (by simp[Vs,Wl,Wc])
  |push x=>
   cases hs:Wg st with
   |false=>exact pl (true,p,st) hd (by simp[Vs,Wl,hs])
   |true=>exact pl (_,_,st) hd (by simp[Vs,Wl,hs];exact⟨rfl,rfl⟩)
  |paid x=>
   cases hs:Wg st with
   |false=>exact pl (true,p,st) hd (by simp[Vs,Wl,hs])
   |true=>exact pl (_,_,st) hd (by simp[Vs,Wl,hs];exact⟨rfl,rfl⟩)
  |w x=>
   cases hs:Wg st with
   |false=>exact pl (true,p,st) hd (by simp[Vs,Wl,hs])
   |true=>exact pl (_,_,st) hd (by simp[Vs,Wl,hs];exact⟨rfl,rfl⟩)
def Xq.of{lk:List Rw}(h1:lk.length<=6)(h2:dOk lk 0=true):Xq lk:=⟨h1,λF keys=>by
 unfold W5;split
 ·exact runs h2
 ·exact⟨false,rfl⟩⟩
def Jbo{i:Int}(hl:S[l]? =some (.lst ds))(h0:0<=i)(h1:i<ds.length){P:D->Prop}(hp:∀x∈ds,P x):Sat (Jao (.loc l) (.int i) S) λd S'=>P d/\S'=S:=by
 obtain⟨x,e,hx⟩:=Jzz h0 h1;rw[Jaq hl e];exact .ok ⟨hp x hx,rfl⟩
def Jus{d:D}(h:ds.length<1000):Vo .append (.loc S.length) [d] (S++[.lst ds])=.ok .non (S++[.lst (ds++[d])]):=by
 rw[Jay Jad (Jch (by omega))];simp
def Jsm:rcv .append (S++[.lst ds]) (.loc S.length)=true:=Jbi rfl Jad
def lkD(lk:List Rw):D:=.tup (lk.map rD)
def Jca(hs:Stm S l)(h0:0<m)(h1:m<2^250):Sat (callN T G W (n+1) "_law_take" [.loc l,.int m] S) λd S'=>∃x,d=.int x/\Keep [l] S S'/\Stm S' l/\0<=x/\x<m:=by
 obtain⟨x,S',e,p⟩:=Jg2 (W:=W) (n:=n) hs h0 h1;exact⟨_,S',e,x,rfl,p⟩
def Stm.ext(hs:Stm S l)(x:Ext S S'):Stm S' l:=by
 obtain⟨a,e,s,h⟩:=hs;exact⟨a,e,s,x.get h⟩
def Stm.lt(hs:Stm S l):l<S.length:=by
 obtain⟨a,e,s,h⟩:=hs;exact Jax h
def Jjj(hs:Stm S l):∃(lk:List Rw) (ks:List Int) (S':Store),callN T G W (n+2) "_law_lock" [.loc l] S=.ok (.tup [lkD lk,.tup (ks.map D.int)]) S'/\Keep [l] S S'/\Stm S' l/\Xq lk/\ks.length<=2:=by
 rw[Jaa Jh9 rfl]
 suffices hs:Sat ((evB (Cn T G W (n+1)) V1.body (N0 some [.loc l]++Eo (V1.N.length-[D.loc l].length) none) S).bind Xw) λd S'=>∃(lk:List Rw) (ks:List Int),d=.tup [lkD lk,.tup (ks.map D.int)]/\Keep [l] S S'/\Stm S' l/\Xq lk/\ks.length<=2 by
  obtain⟨d,S',e,lk,ks,rfl,p⟩:=hs;exact⟨lk,ks,S',e,p⟩
 obtain⟨x,S1,e1,k1,s1,hx⟩:=Jah (W:=W) (n:=n) (m:=2000) hs (by decide) (by decide);have hl1:l<S1.length:=by obtain⟨a,e,s,h⟩:=s1;exact Jax h
 simp[V1,e1,Line,Jus,Jsm,Jaj (show(0:Int)<9 by decide),Jaj (show(0:Int)<4 by decide),Jaj (show(0:Int)<3 by decide),Jaj (show(0:Int)<2 by decide)];have hk:∃a:List Int,a.length<=2/\atI [D.tup [.int (x-1000),.int 1],.tup [.int 0]] ((x-1000)%2)=some (.tup (a.map D.int)):=by
  rcases(show(x-1000)%2=0\/(x-1000)%2=1 by omega)with e|e
  ·exact⟨[x-1000,1],by simp,by rw[e];exact at0 (k:=0) rfl⟩
  ·exact⟨[0],by simp,by rw[e];exact at0 (k:=1) rfl⟩
 obtain⟨ka,hka,eka⟩:=hk;rw[Jaq Jdd eka];simp[Line];refine Sat.p3 (Jca (m:=10) (s1.ext (.new _ _)) (by decide) (by decide)) ?_;rintro _ S2 ⟨w,rfl,k2,s2,h0,h1⟩;have k12:Keep [l] S S2:=k1.trans ((Keep.new _).trans k2);have hB0:=k2.get Jau (by simp;omega);have hB2:=k2.get Jee (by simp;omega);clear k2;simp;refine p5 (Jbo hB0 h0 (by simp;omega) (P:=λy=>∃lk,y=lkD lk/\Xq lk) ?_) ?_
 ·intro y hy;simp only[An,A1,or_false]at hy;rcases hy with rfl|rfl|rfl|rfl|rfl|rfl|rfl|rfl|rfl|rfl
  ·exact⟨[],rfl,.of (by decide) rfl⟩
  ·exact⟨[.push 1],rfl,.of (by simp) rfl⟩
  ·exact⟨[.push _,.w .same],rfl,.of (by simp) rfl⟩
  ·exact⟨[.w .height,.push _,.w .less,.w .not],rfl,.of (by simp) rfl⟩
  ·exact⟨[.w .age,.push _,.w .less,.w .not],rfl,.of (by simp) rfl⟩
  ·exact⟨[.iff,.push _,.w .same,.els,.push 1,.fin],rfl,.of (by simp) rfl⟩
  ·exact⟨[.w .worth,.push _,.w .less,.w .not],rfl,.of (by simp) rfl⟩
  ·exact⟨[.w .ins,.push _,.w .same],rfl,.of (by simp) rfl⟩
  ·exact⟨[.w .outs,.push _,.w .same,.w .not],rfl,.of (by simp) rfl⟩
  ·exact⟨[.paid _,.push _,.w .less,.w .not],rfl,.of (by simp) rfl⟩
 rintro _ _ ⟨⟨lk,rfl,hlk⟩,rfl⟩;simp[Line];rw[Jcw (Jai hB2) Jad (by simp[Line])];simp only[Res.bind_ok,Z5,v_var,Yq,Bu,Dk];refine p6 (Jbo Jad h0 (by simp;omega) (P:=λy=>∃ks:List Int,y=.tup (ks.map D.int)/\ks.length<=2) ?_) ?_
 ·intro y hy;simp only[Bj,An,A1,or_false]at hy;rcases hy with(rfl|rfl|rfl|rfl|rfl|rfl)|(rfl|rfl|rfl|rfl)
  ·exact⟨[_],rfl,by simp⟩
  ·exact⟨[],rfl,by simp⟩
  ·exact⟨[_],rfl,by simp⟩
  ·exact⟨[],rfl,by simp⟩
  ·exact⟨[],rfl,by simp⟩
  ·exact⟨ka,rfl,hka⟩
  ·exact⟨[],rfl,by simp⟩
  ·exact⟨[],rfl,by simp⟩
  ·exact⟨[],rfl,by simp⟩
  ·exact⟨[],rfl,by simp⟩
 rintro _ _ ⟨⟨ks,rfl,hks⟩,rfl⟩;simp[Line];exact⟨lk,ks,⟨rfl,rfl⟩,k12.trans (.new _),s2.ext (.new _ _),hlk,hks⟩
end
def lkR(lk:List Rw):=(lkK (lkD lk)).getD []
theorem Jsi(r:Rw):∃k,rwK (rD r)=some k:=by
 cases r with
 |w x=>exact⟨_,rfl⟩
 |_=>exact⟨_,rfl⟩
theorem Jl7(lk:List Rw):lkK (lkD lk)=some (lkR lk):=by
 have:∃k,lkK (lkD lk)=some k:=by
  unfold lkD;simp only[lkK]
  induction lk with
  |nil=>exact⟨_,rfl⟩
  |cons a r ih=>
   obtain⟨k,e⟩:=Jsi a;obtain⟨ks,e2⟩:=ih;exact⟨k::ks,by simp only[Ay,Xk,e,e2]⟩
 obtain⟨k,e⟩:=this;rw[lkR,e];rfl
section
variable {κ α:Type} [DecidableEq κ] {c:List (κ×α)} {k k':κ} {v:α}
def Y3:(∃v,dVal c k=some v)↔k∈c.map (·.1):=by
 constructor
 ·rintro⟨v,h⟩;exact Bd.mpr ⟨_,Jc9 h,rfl⟩
 ·intro h;obtain⟨p,hp,rfl⟩:=Bd.mp h;unfold dVal;have:(c.find? λq=>decide (q.1=p.1)).isSome:=by
   rw[List.find?_isSome];exact⟨p,hp,by simp⟩
  obtain⟨x,hx⟩:=Bw.mp this;exact⟨x.2,by rw[hx];rfl⟩
def Jss:k∈(dPut c k v).map (·.1):=by
 unfold dPut;split
 ·rename_i h;obtain⟨p,hp,e⟩:=Hg.mp h;rw[B4];refine Bd.mpr ⟨p,hp,?_⟩;simp only[decide_eq_true_eq]at e;simp[e]
 ·simp
def Jsq(h:k'∈c.map (·.1)):k'∈(dPut c k v).map (·.1):=by
 rcases Jda (c:=c) (k:=k) (v:=v)with e|⟨e,_⟩
 ·rw[e];exact h
 ·rw[e];exact Ci _ h
def Jsr:(dPut c k v).length<=c.length+1:=by
 rcases Jda (c:=c) (k:=k) (v:=v)with e|⟨e,_⟩
 ·have:=congrArg Jg e;simp at this
  lia
 ·have:=congrArg Jg e;simp at this
  lia
end
abbrev Kv:=List (List (List Key)×D)
structure Wr(kvs:Kv)(mx:Nat):Prop where
 l:kvs.length<=mx
 k:∀p∈kvs,∃ks:List Int,p.2=.tup (ks.map D.int)/\ks.length<=2
def Hs(kvs:Kv)(lk:List Rw):Prop:=lkR lk∈kvs.map (·.1)
def Gr(k1 k2:Kv):Prop:=∀lk,Hs k1 lk->Hs k2 lk
section
variable {W n:Nat} {S S':Store} {l L u q rl:Nat} {c:Cs} {dn:List Int} {ps:List Nat} {d:Dd} {h f m t:Int} {r:Rl} {b:Bk} {ds:List D} {kvs:Kv} {lk:List Rw} {mx:Nat} {ks:List Int}
def Wr.put(g:Wr kvs mx)(hk:ks.length<=2):Wr (dPut kvs (lkR lk) (.tup (ks.map D.int))) (mx+1):=⟨by have:=Jsr (c:=kvs) (k:=lkR lk) (v:=D.tup (ks.map D.int));have:=g.l;lia,λp hp=>(Jea hp).elim (g.k p) λe=>⟨ks,by rw[e],hk⟩⟩
def Gr.put:Gr kvs (dPut kvs (lkR lk) v):=λ_ h=>Jsq h
def Hs.put:Hs (dPut kvs (lkR lk) v) lk:=Jss
def Jqc(hr:S[rl]? =some (.rg kvs))(g:Wr kvs mx)(hm:mx<=100000):We (.loc rl) (lkD lk) v S=.ok () (S.set rl (.rg (dPut kvs (lkR lk) v))):=by
 have:=g.l;simp only[We,hr,Jl7,if_pos (show kvs.length<Line by unfold Line;lia)]
def Jxj(hr:S[rl]? =some (.rg kvs))(g:Wr kvs mx)(hh:Hs kvs lk):∃ks:List Int,Jao (.loc rl) (lkD lk) S=.ok (.tup (ks.map D.int)) S/\ks.length<=2:=by
 obtain⟨v,hv⟩:=Y3.mpr hh;obtain⟨ks,e,hk⟩:=g.k _ (Jc9 hv);refine⟨ks,?_,hk⟩;simp only at e;subst e;simp[Jao,idxD,Vp,seqAt,hr,Jl7,hv]
def Jo2{S1:Store}(k:Keep ps S S1)(h:S.length<=p):Keep ps S (S1.set p o):=⟨by simp[k.1],λl hl n=>by rw[Ao (by lia)];exact k.2 l hl n⟩
def Stm.ne_rg(hs:Stm S l)(hr:S[rl]? =some (.rg kvs)):l≠rl:=by
 rintro rfl;obtain⟨a,e,s,h⟩:=hs;have:=h.symm.trans hr;cases this
def Stm.get(hs:Stm S l){p:Nat}(k:Keep ps S S')(hp:l∉ps):Stm S' l:=by
 obtain⟨a,e,s,h⟩:=hs;exact⟨a,e,s,k.get h hp⟩
def OuOk(kvs:Kv)(o:Int×List Rw):Prop:=o.1<=10^40/\Xq o.2/\Hs kvs o.2
structure Sr(S:Store)(l rl:Nat)(kvs:Kv)(mx:Nat)(S':Store)(kvs':Kv):Prop where
 k:Keep [l,rl] S S'
 s:Stm S' l
 r:S'[rl]? =some (.rg kvs')
 g:Wr kvs' mx
 m:Gr kvs kvs'
def Sr.refl(hs:Stm S l)(hr:S[rl]? =some (.rg kvs))(g:Wr kvs mx):Sr S l rl kvs mx S kvs:=⟨.refl,hs,hr,g,λ_ h=>h⟩
def Sr.take(a:Sr S l rl kvs mx S1 kv)(k:Keep [l] S1 S2)(s:Stm S2 l):Sr S l rl kvs mx S2 kv:=⟨a.k.trans (k.mono (by simp)),s,k.get a.r (by simp;exact(a.s.ne_rg a.r).symm),a.g,a.m⟩
def Sr.ext(a:Sr S l rl kvs mx S1 kv)(x:Ext S1 S2):Sr S l rl kvs mx S2 kv:=⟨a.k.trans (.ext x),a.s.ext x,x.get a.r,a.g,a.m⟩
def Sr.put{S1:Store}(a:Sr S l rl kvs mx S1 kv)(hk:ks.length<=2):Sr S l rl kvs (mx+1) (S1.set rl (.rg (dPut kv (lkR lk) (.tup (ks.map D.int))))) (dPut kv (lkR lk) (.tup (ks.map D.int))):=⟨a.k.trans (.set (by simp)),a.s.get (p:=0) (Keep.set (ps:=[rl]) (by simp)) (by simp;exact a.s.ne_rg a.r),Jar a.r,a.g.put hk,λlk h=>Gr.put lk (a.m lk h)⟩
def Sr.mono(a:Sr S l rl kvs mx S1 kv)(h:mx<=my):Sr S l rl kvs my S1 kv:=⟨a.k,a.s,a.r,⟨Bl a.g.l h,a.g.k⟩,a.m⟩
def Sr.trans(a:Sr S l rl kvs mx S1 k1)(b:Sr S1 l rl k1 my S2 k2):Sr S l rl kvs my S2 k2:=⟨a.k.trans b.k,b.s,b.r,b.g,λlk h=>b.m lk (a.m lk h)⟩
def Sr.new{S1:Store}(a:Sr S l rl kvs mx S1 kv)(h:S.length<=p)(hp:p≠l)(hq:p≠rl):Sr S l rl kvs mx (S1.set p o) kv:=⟨Jo2 a.k h,a.s.get (p:=0) (Keep.set (ps:=[p]) (by simp)) (by simp;exact hp.symm),by rw[Ao hq];exact a.r,a.g,a.m⟩
inductive IOut (S:Store) (l rl o:Nat) (kvs:Kv) (mx:Nat) (i:Nat) (Z:En) (S':Store):Prop
 |mk (t:Int) (os:List (Int×List Rw)) (kv:Kv) (a4 a5 a6 a7:Option D) (_:Z=[some (.loc l),some (.int t),some (.loc rl),some (.loc o),a4,a5,a6,a7]) (_:Sr S l rl kvs (mx+i) S' kv) (_:S'[o]? =some (.lst (os.map ouD))) (_:os.length<=i) (_:(1<=t/\t<=10^40)) (_:∀x∈os,OuOk kv x):IOut S l rl o kvs mx i Z S'
def Jjf(hs:Stm S l)(hr:S[rl]? =some (.rg kvs))(gk:Wr kvs mx)(hmx:mx<=90000)(ht:1<=t/\t<=10^40):
  Sat (callN T G W (n+3) "_law_outs" [.loc l,.int t,.loc rl] S) λd S'=>∃(os:List (Int×List Rw)) (kv:Kv),d=.tup (os.map ouD)/\Sr S l rl kvs (mx+3) S' kv/\os.length<=3/\os≠[]/\∀x∈os,OuOk kv x:=by
 rw[Jaa Jh7 rfl];obtain⟨x,S2,e2,k2,s2,hx⟩:=Jah (W:=W) (n:=n+1) (S:=S++[.lst []]) (m:=3) (hs.ext (.new _ _)) (by decide) (by decide);have a2:Sr S l rl kvs mx S2 kvs:=((Sr.refl hs hr gk).ext (.new _ [.lst []])).take k2 s2;have hll:=hs.lt;have hrl:=Jax hr;have ho2:=k2.get (Jad (o:=.lst [])) (by simp;lia);simp[Jdl,e2,Line];rw[Jdf (by lia) (by lia)];simp;have hxn:x.toNat<=2:=by lia
 refine Sat.p2 (loop (IOut S l rl S.length kvs mx) noR ⟨t,[],kvs,none,none,none,none,rfl,a2,ho2,by simp,ht,by simp⟩ ?_) ?_
 ·rintro i z _ S3 hd ⟨t3,os,kv,a4,a5,a6,a7,rfl,a3,ho,hlen,ht3,hos⟩;rw[Ap]at hd;obtain⟨j,hj,rfl⟩:=Al.mp hd;have hi:i<x.toNat:=by simpa using(Ae.mp hj).1
  rw[Jat]
  by_cases h1:1<t3
  ·obtain⟨lk,ks,S4,e4,k4,s4,hlk,hks⟩:=Jjj (W:=W) (n:=n) a3.s;obtain⟨y,S5,e5,k5,s5,hy⟩:=Jah (W:=W) (n:=n+1) (S:=S4) (m:=t3-1) s4 (by lia) (Iy (show t3-1<=10^40 by lia) (by decide));have b5:=(a3.take k4 s4).take k5 s5;have e6:=Jqc (lk:=lk) (v:=.tup (ks.map D.int)) b5.r b5.g (by lia);have b6:=b5.put (lk:=lk) hks;have ho6:(S5.set rl (.rg (dPut kv (lkR lk) (.tup (ks.map D.int)))))[S.length]? =some (.lst (os.map ouD)):=by
    rw[Ao (by lia)];exact k5.get (k4.get ho (by simp;lia)) (by simp;lia)
   have e7:=Jay (d:=ouD (1+y,lk)) ho6 (Jch (by rw[Ah];lia));simp only[ouD]at e7;have e8:=Jbi (me:=.append) rfl ho6;simp only[lkD]at e4 e6;simp[h1,e4,e5,e6];simp[Line,e7,e8];refine⟨_,os++[(1+y,lk)],_,_,_,_,_,rfl,b6.new (Aj _) (by lia) (by lia),?_,by simp;lia,by lia,?_⟩
   ·rw[Jar ho6];simp[ouD]
   ·intro z hz;rcases Bj.mp hz with hz|hz
    ·exact⟨(hos z hz).1,(hos z hz).2.1,Gr.put _ (hos z hz).2.2⟩
    ·rw[Av.mp hz];exact⟨by show 1+y<=10^40;lia,hlk,Hs.put⟩
  ·simp[h1];exact⟨_,os,_,_,_,_,_,rfl,a3.mono (by lia),ho,by lia,ht3,hos⟩
 ·intro fl S3 hh;obtain⟨_,rfl,t3,os,kv,a4,a5,a6,a7,rfl,a3,ho,hlen,ht3,hos⟩:=hh.nx;rw[Ah,E3]at a3 hlen;obtain⟨lk,ks,S4,e4,k4,s4,hlk,hks⟩:=Jjj (W:=W) (n:=n) a3.s;have b5:=a3.take k4 s4;have e6:=Jqc (lk:=lk) (v:=.tup (ks.map D.int)) b5.r b5.g (by lia);have b6:=b5.put (lk:=lk) hks;have ho6:(S4.set rl (.rg (dPut kv (lkR lk) (.tup (ks.map D.int)))))[S.length]? =some (.lst (os.map ouD)):=by
   rw[Ao (by lia)];exact k4.get ho (by simp;lia)
  simp only[lkD]at e4 e6;simp[e4,e6];generalize S4.set rl (.rg (dPut kv (lkR lk) (.tup (ks.map D.int))))=S6 at b6 ho6;rw[if_pos (show 2<=Line by decide)];simp;rw[if_pos (show 1<=Line by decide)];simp;rw[Jcw (Jai ho6) Jad (by simp[Line];lia)];simp only[Res.bind_ok,V9,Wb,Vu];rw[Jam Jad];simp;refine⟨os++[(t3,lk)],by rw[Ey];rfl,dPut kv (lkR lk) (.tup (ks.map D.int)),(b6.ext (.new _ _)).mono (by lia),by simp;lia,by simp,λz1 z2 hz=>?_⟩;rcases Bj.mp hz with hz|hz
  ·exact⟨(hos _ hz).1,(hos _ hz).2.1,Gr.put _ (hos _ hz).2.2⟩
  ·cases Av.mp hz;exact⟨ht3.2,hlk,Hs.put⟩
end
def p7{α0 α1 α2 α3 α4 α5 α6 α7:Type}{r:Res α0}{f1:α0->Store->Res α1}{f2:α1->Store->Res α2}{f3:α2->Store->Res α3}{f4:α3->Store->Res α4}{f5:α4->Store->Res α5}{f6:α5->Store->Res α6}{f7:α6->Store->Res α7}{Q:α0->Store->Prop}{P:α7->Store->Prop}(h:Sat r Q)(k:∀a S,Q a S->Sat (((((((f1 a S).bind f2).bind f3).bind f4).bind f5).bind f6).bind f7) P):Sat (((((((r.bind f1).bind f2).bind f3).bind f4).bind f5).bind f6).bind f7) P:=by
 obtain⟨a,S,rfl,h⟩:=h;exact k a S h
structure Mn(kvs:Kv)(c:Cs)(dn:List Int)(m:Int):Prop where
 gc:Gc c
 gd:Gd dn
 up:(c.map (·.1)).Pairwise λa b=>Rdu.ltP a b=true
 lt:∀p∈c,p.1.1<m
 has:∀p∈c,Hs kvs p.2.lk
 dlt:∀x∈dn,x<m
theorem Jp6:∀{ps:List PP},ps.Pairwise (λa b=>Rdu.ltP a b=true)->upB ps=true
 |[],_=>rfl
 |[a],_=>rfl
 |a::b::r,h=>by
  rw[Q5]at h;simp only[upB,Ai];refine⟨h.1 b (by simp),?_⟩;have:=Jp6 h.2
  simpa [upB]using this
section
variable {W n:Nat} {S S':Store} {l L u q rl:Nat} {c:Cs} {dn:List Int} {ps:List Nat} {d:Dd} {h f m t:Int} {r:Rl} {b:Bk} {ds:List D} {kvs:Kv} {lk:List Rw} {mx:Nat} {ks:List Int}
def Mn.upB(g:Mn kvs c dn m):upB ((cp c).map (·.1))=true:=Jp6 (by simpa [cp,B4,Bn]using g.up)
def Jkn(h1:S[x]? =some (.lst ds))(h2:S[y]? =some (.lst [])):cop .eq (.loc x) (.loc y) S=some ds.isEmpty:=by
 cases ds<;>simp[cop,Jgj,eqD,seqAt,h1,h2,eqL]
def Stm.ne_cs(hs:Stm S l)(hr:S[u]? =some (csO c)):u≠l:=by
 rintro rfl;obtain⟨a,e,s,h⟩:=hs;have:=h.symm.trans hr;cases this
def Jfz(hs:S[rl]? =some (.rg kvs))(hr:S[u]? =some (csO c)):u≠rl:=by
 rintro rfl;have:=hs.symm.trans hr;cases this
def Jqb{ks:List Int}(hk:ks.length<=3):Wm (.tup (ks.map D.int)) none (some 10) S=.ok (.tup (ks.map D.int)) S:=by
 have:cutD (ks.map D.int) none (some 10)=ks.map D.int:=by
  rw[Jjq (by decide),Ek (by simp;lia)]
 simp[Wm,this]
def Jxg(hs:Stm S l)(hr:S[rl]? =some (.rg kvs))(gk:Wr kvs mx)(hu:S[u]? =some (csO c))(g:Mn kvs c dn m):
  Sat (callN T G W (n+2) "_law_in" [.loc l,.loc u,.loc rl] S) λd S'=>∃(nm:PP) (ks:List Int),d=inD (nm,ks)/\Keep [l] S S'/\Stm S' l/\ks.length<=3:=by
 rw[Jaa Jkq rfl];have hln:=g.gc.len;have e1:=Jnr hu g.upB (by rw[Ah];unfold Line;lia);obtain⟨x,S2,e2,k2,s2,hx⟩:=Jah (W:=W) (n:=n) (S:=S++[.lst ((cp c).map λp=>dK p.1)]) (m:=12) (hs.ext (.new _ _)) (by decide) (by decide);have hll:=hs.lt;have k02:Keep [l] S S2:=(Keep.new _).trans k2;have hN:=k2.get (Jad (o:=.lst ((cp c).map λp=>dK p.1))) (by simp;lia);have hu2:=k02.get hu (by simp;exact hs.ne_cs hu);have hr2:=k02.get hr (by simp;exact(hs.ne_rg hr).symm);have e3:=Jkn (Jai hN) (Jad (S:=S2) (o:=.lst []));simp[Jgb,e1];simp only[cp,B4,Bn]at e2 e3 hN;simp[Bn,e2];simp[e3];have s3:=s2.ext (.new S2 [.lst []]);have k03:Keep [l] S (S2++[.lst []]):=k02.trans (.new _);have hN3:=Jai (X:=[.lst []]) hN;have hu3:=Jai (X:=[.lst []]) hu2;have hr3:=Jai (X:=[.lst []]) hr2;generalize S2++[Obj.lst []]=S3 at s3 k03 hN3 hu3 hr3
 by_cases hc:c=[]\/x=0
 ·have hcb:(c.isEmpty=true\/x=0):=hc.elim (λe=>.inl (by simp[e])) .inr;obtain⟨y,S4,e4,k4,s4,hy⟩:=Jah (W:=W) (n:=n) (S:=S3) (m:=90) s3 (by decide) (by decide);obtain⟨z,S5,e5,k5,s5,hz⟩:=Jah (W:=W) (n:=n) (S:=S4) (m:=3) s4 (by decide) (by decide);have fin:∃(nm:PP) (ks:List Int),D.tup [.tup [.int y,.int z],.tup []]=inD (nm,ks)/\Keep [l] S S5/\Stm S5 l/\ks.length<=3:=⟨(y,z),[],rfl,(k03.trans k4).trans k5,s5,by simp⟩
  rcases hc with rfl|rfl
  ·simp[e4,e5,Line]
   simpa using fin
  ·by_cases hc:c=[]
   ·simp[hc,e4,e5,Line]
    simpa using fin
   ·simp[hc,e4,e5,Line]
    simpa using fin
 ·have hc1:¬c=[]:=λe=>hc (.inl e);have hx0:¬x=0:=λe=>hc (.inr e);have hpos:0<c.length:=K8.mpr hc1;have e4:=Jav hN3;rw[Ah]at e4;obtain⟨y,S5,e5,k5,s5,hy⟩:=Jah (W:=W) (n:=n) (S:=S3) (m:=c.length) s3 (by lia) (Int.lt_trans (show(c.length:Int)<2000 by lia) (by decide));have hN5:=k5.get hN3 (by simp;lia);have hu5:=k5.get hu3 (by simp;exact hs.ne_cs hu);have hr5:=k5.get hr3 (by simp;exact(hs.ne_rg hr).symm);simp[hc1,hx0,e4,e5];refine Sat.p3 (Jbo hN5 hy.1 (by simp;lia) (P:=λx=>∃p∈c,x=dK p.1) (λx hx=>by obtain⟨p,hp,rfl⟩:=Bd.mp hx;exact⟨p,hp,rfl⟩)) ?_;rintro _ S6 ⟨⟨p,hp,rfl⟩,rfl⟩;obtain⟨ks,e6,hks⟩:=Jxj hr5 gk (g.has p hp);simp only[lkD]at e6;have e7:=Jjn hu5 (Jiy g.gc.nd hp);have kk:=k03.trans k5;simp[e7,e6]
  by_cases h1:x=1
  ·have e8:bop .add (.tup (ks.map D.int)) (.tup [.int 0]) S6=.ok (.tup ((ks++[0]).map D.int)) S6:=by rw[Jcv (by simp[Line];lia)];simp
   have e9:=Jqb (S:=S6) (ks:=ks++[0]) (by simp;lia);rw[Ey]at e8 e9;simp only[Ay,Ga]at e8 e9;simp[h1,Line,e8,e9];exact⟨p.1.1,p.1.2,ks++[0],by simp[inD],kk,s5,by simp;lia⟩
  ·have e9:=Jqb (S:=S6) (ks:=ks) (by lia);simp[h1,Line,e9];exact⟨p.1.1,p.1.2,ks,rfl,kk,s5,by lia⟩
theorem Jze{ps:List PP}(hl:S[l]? =some (.lst (ps.map dK))):∃e,cop .nin (dK p) (.loc l) S=some e/\(ps=[]->e=true):=by
 have:∀ps:List PP,∃e,anyEq S Deep (dK p) (ps.map dK)=some e:=by
  intro ps
  induction ps with
  |nil=>exact⟨false,rfl⟩
  |cons a r ih=>
   obtain⟨e,he⟩:=ih;have h1:∃e1,eqD S Deep (dK a) (dK p)=some e1:=⟨_,rfl⟩
   obtain⟨e1,h1⟩:=h1;exact⟨e1||e,by simp only[Ay,anyEq,he,h1]⟩
 obtain⟨e,he⟩:=this ps;refine⟨!e,by simp[cop,Vp,seqAt,hl,he],λh=>?_⟩;subst h;cases he;rfl
theorem Jp9:∀{xs:List Int},(∀x∈xs,x<=B)->xs.sum<=xs.length*B
 |[],_=>by simp
 |x::xs,h=>by
  have:=Jp9 (xs:=xs) (B:=B) λy hy=>h y (Ax _ hy);have:=h x (by simp);rw[Uv,A5,Int.natCast_add,Int.add_mul];omega
theorem Jhj{α β:Type}(p:α->Bool)(g:α->β):∀xs:List α,xs.filterMap (λi=>if p i then some (g i)else none)=(xs.filter p).map g
 |[]=>rfl
 |a::r=>by
  rw[Fc,Ff,Jhj p g r];cases p a<;>rfl
inductive IDe (S:Store) (l u rl o:Nat) (num:Int) (kvs:Kv) (mx:Nat) (i:Nat) (Z:En) (S':Store):Prop
 |mk (is:List (PP×List Int)) (a5 a6 a7 a8:Option D) (_:Z=[some (.loc l),some (.int num),some (.loc u),some (.loc rl),some (.loc o),a5,a6,a7,a8]) (_:Sr S l rl kvs mx S' kvs) (_:S'[o]? =some (.lst (is.map inD))) (_:is.length<=i) (_:(0<i->is≠[])) (_:∀x∈is,x.2.length<=3):IDe S l u rl o num kvs mx i Z S'
def Jpo(hs:Stm S l)(hr:S[rl]? =some (.rg kvs))(gk:Wr kvs mx)(hmx:mx<=90000)(hu:S[u]? =some (csO c))(g:Mn kvs c dn m)(hnum:0<=num/\num<345):
  Sat (callN T G W (n+4) "_law_deed" [.loc l,.int num,.loc u,.loc rl] S) λd' S'=>∃(d:Dd) (kv:Kv),d'=ddD d/\d.n=num/\Sr S l rl kvs (mx+3) S' kv/\W1 d/\d.ins≠[]/\∀o∈d.outs,OuOk kv o:=by
 rw[Jaa Jic rfl];obtain⟨x,S2,e2,k2,s2,hx⟩:=Jah (W:=W) (n:=n+2) (S:=S++[.lst []]) (m:=3) (hs.ext (.new _ _)) (by decide) (by decide);have a2:Sr S l rl kvs mx S2 kvs:=((Sr.refl hs hr gk).ext (.new _ [.lst []])).take k2 s2;have hll:=hs.lt;have hrl:=Jax hr;have hul:=Jax hu;have ho2:=k2.get (Jad (o:=.lst [])) (by simp;lia);simp[Jdo,e2,Line];rw[Jdf (by lia) (by lia)];simp;have hxn:(1+x).toNat<=3/\0<(1+x).toNat:=by lia
 have huk:∀{S':Store} {kv:Kv} {my:Nat},Sr S l rl kvs my S' kv->S'[u]? =some (csO c):=λa=>a.k.get hu (by simp;exact⟨hs.ne_cs hu,Jfz hr hu⟩);refine Sat.p2 (loop (IDe S l u rl S.length num kvs mx) noR ⟨[],none,none,none,none,rfl,a2,ho2,by simp,by simp,by simp⟩ ?_) ?_
 ·rintro i z _ S3 hd ⟨is,a5,a6,a7,a8,rfl,a3,ho,hlen,hne,his⟩;rw[Ap]at hd;obtain⟨j,hj,rfl⟩:=Al.mp hd;have hi:i<(1+x).toNat:=by simpa using(Ae.mp hj).1
  obtain⟨_,S4,e4,nm,ks,rfl,k4,s4,hks⟩:=Jxg (W:=W) (n:=n+1) a3.s a3.r gk (huk a3) g;have a4:=a3.take k4 s4;have ho4:=k4.get ho (by simp;lia);rw[Jat];simp[e4,Ja6 ho4];rw[Ja7 (xs:=is) inD (λi=>dK i.1) (by lia) (.inr ⟨_,rfl,ho4⟩) (λx _=>by simp[Jak,Vl])];obtain⟨e,e5,he⟩:=Jze (p:=nm) (ps:=is.map (·.1)) (S:=S4++[.lst (is.map λi=>dK i.1)]) (l:=S4.length) (by rw[Jad];simp[Bn]);have a6:=a4.ext (.new S4 [.lst (is.map λi=>dK i.1)]);have ho6:=Jai (X:=[.lst (is.map λi=>dK i.1)]) ho4;generalize hS6:S4++[Obj.lst (is.map λi=>dK i.1)]=S6 at e5 a6 ho6;simp[e5];have app:∀{S7:Store},S7[S.length]? =some (.lst (is.map inD))->rcv .append S7 (.loc S.length)=true/\Vo .append (.loc S.length) [inD (nm,ks)] S7=.ok .non (S7.set S.length (.lst (is.map inD++[inD (nm,ks)]))):=λh=>⟨Jbi rfl h,by rw[Jay h (Jch (by rw[Ah];lia))]⟩
  have fin:∀{S7:Store},Sr S l rl kvs mx S7 kvs->S7[S.length]? =some (.lst (is.map inD))->∀v,IDe S l u rl S.length num kvs mx (i+1) [some (.loc l),some (.int num),some (.loc u),some (.loc rl),some (.loc S.length),some (.int j),some v,a7,a8] (S7.set S.length (.lst (is.map inD++[inD (nm,ks)]))):=λa7 h v=>by
   refine⟨is++[(nm,ks)],_,_,_,_,rfl,a7.new (Aj _) (by lia) (by lia),by rw[Jar h];simp,by simp;lia,λ_=>by simp,λz hz=>?_⟩;rcases Bj.mp hz with hz|hz
   ·exact his z hz
   ·rw[Av.mp hz];exact hks
  cases e with
  |true=>
   simp[app ho6];exact fin a6 ho6 _
  |false=>
   obtain⟨y,S7,e7,k7,s7,hy⟩:=Jah (W:=W) (n:=n+2) (S:=S6) (m:=6) a6.s (by decide) (by decide);have a7':=a6.take k7 s7;have ho7:=k7.get ho6 (by simp;lia)
   by_cases hy0:y=0
   ·simp[e7,hy0,app ho7];exact fin a7' ho7 _
   ·simp[e7,hy0];refine⟨is,_,_,_,_,rfl,a7',ho7,by lia,λ_ h=>?_,his⟩;have:=he (by simp[h]);cases this
 ·intro fl S3 hh;obtain⟨_,rfl,is,a5,a6,a7,a8,rfl,a3,ho,hlen,hne,his⟩:=hh.nx;rw[Ah,E3]at hlen hne;have hne:=hne hxn.2;have hu3:=huk a3;simp[Ja6 ho];rw[Jjm (xs:=is) inD (λi=>if(dVal c i.1).isSome then some (.int (wOf c i.1))else none) (by lia) (.inr ⟨_,rfl,ho⟩) (λx _=>by
   cases hv:dVal c x.1 with
   |none=>simp[Jak,Vl,Jxi hu3,hv]
   |some k=>simp[Jak,Vl,Jxi hu3,hv,Jjn hu3 hv,wOf])]
  rw[Jhj (λi:PP×List Int=>(dVal c i.1).isSome) (λi=>D.int (wOf c i.1))];simp only[Res.bind_ok,V9,Wb,Vu];rw[Jbv];have hsum:((is.filter λi=>(dVal c i.1).isSome).map λi=>wOf c i.1).sum<=3*10^40:=by
   have h1:=Jp9 (B:=10^40) (xs:=(is.filter λi=>(dVal c i.1).isSome).map λi=>wOf c i.1) λx hx=>by
    obtain⟨y,hy,rfl⟩:=Bd.mp hx;obtain⟨k,hk⟩:=Bw.mp (Hq.mp hy).2;simp only[wOf,hk];exact(g.gc.ok _ (Jc9 hk)).w
   have h2:=Kf (λi:PP×List Int=>(dVal c i.1).isSome) is;rw[Ah]at h1;generalize((is.filter λi=>(dVal c i.1).isSome).map λi=>wOf c i.1).sum=s at h1;generalize(is.filter λi=>(dVal c i.1).isSome).length=k at h1 h2;have:k<=3:=by lia
   lia
  have a4:=a3.ext (.new S3 [.lst ((is.filter λi=>(dVal c i.1).isSome).map λi=>D.int (wOf c i.1))]);have ho4:=Jai (X:=[.lst ((is.filter λi=>(dVal c i.1).isSome).map λi=>D.int (wOf c i.1))]) ho;generalize((is.filter λi=>(dVal c i.1).isSome).map λi=>wOf c i.1).sum=tot at hsum;generalize S3++[Obj.lst ((is.filter λi=>(dVal c i.1).isSome).map λi=>D.int (wOf c i.1))]=S4 at a4 ho4;obtain⟨w,S5,e5,k5,s5,hw⟩:=Jah (W:=W) (n:=n+2) (S:=S4) (m:=8) a4.s (by decide) (by decide);have a5:=a4.take k5 s5;have ho5:=k5.get ho4 (by simp;lia);have epow:∀S:Store,bop .pow (.int 10) (.int 40) S=.ok (.int (10^40)) S:=λS=>Ja4 (k:=40) rfl (by decide) (by decide);have fin:∀{S6:Store} {t:Int},Sr S l rl kvs mx S6 kvs->1<=t/\t<=10^40->Sat (callN T G W (n+3) "_law_outs" [.loc l,.int t,.loc rl] S6) λd' S'=>∃(d:Dd) (kv:Kv),.tup [.int num,.tup (is.map inD),d']=ddD d/\d.n=num/\Sr S l rl kvs (mx+3) S' kv/\W1 d/\d.ins≠[]/\∀o∈d.outs,OuOk kv o:=λ{S6 t} a6 ht=>by
   refine(Jjf (W:=W) (n:=n) a6.s a6.r gk hmx ht).mono ?_;rintro _ S7 ⟨os,kv,rfl,a7,h3,h4,h5⟩;exact⟨⟨num,is,os⟩,kv,rfl,rfl,a6.trans a7,⟨hnum,by show is.length<=3;lia,h3,his,λo ho=>⟨(h5 o ho).1,(h5 o ho).2.1⟩⟩,hne,h5⟩
  simp[e5]
  by_cases hw0:w=0
  ·simp[hw0,Jam ho5,epow];refine p7 (fin a5 (by constructor<;>(repeat' split)<;>lia)) ?_;rintro d' S7 ⟨d,kv,e,h1,h2,h3,h4,h5⟩;simp[Line];exact⟨d,e,h1,kv,h2,h3,h4,λa b h=>h5 _ h⟩
  ·simp[hw0]
   by_cases hw4:4<w
   ·by_cases ht1:1<tot
    ·obtain⟨y,S6,e6,k6,s6,hy⟩:=Jah (W:=W) (n:=n+2) (S:=S5) (m:=tot) s5 (by lia) (Iy hsum (by decide));have ho6:=k6.get ho5 (by simp;lia);have a6:=a5.take k6 s6;simp[hw4,ht1,e6,Jam ho6,epow];refine p7 (fin a6 (by constructor<;>(repeat' split)<;>lia)) ?_;rintro d' S7 ⟨d,kv,e,h1,h2,h3,h4,h5⟩;simp[Line];exact⟨d,e,h1,kv,h2,h3,h4,λa b h=>h5 _ h⟩
    ·simp[hw4,ht1,Jam ho5,epow];refine p7 (fin a5 (by constructor<;>(repeat' split)<;>lia)) ?_;rintro d' S7 ⟨d,kv,e,h1,h2,h3,h4,h5⟩;simp[Line];exact⟨d,e,h1,kv,h2,h3,h4,λa b h=>h5 _ h⟩
   ·simp[hw4,Jam ho5,epow];refine p7 (fin a5 (by constructor<;>(repeat' split)<;>lia)) ?_;rintro d' S7 ⟨d,kv,e,h1,h2,h3,h4,h5⟩;simp[Line];exact⟨d,e,h1,kv,h2,h3,h4,λa b h=>h5 _ h⟩
theorem Jb4:∀i,(dropO c d i).Sublist c
 |0=>List.Sublist.refl _
 |i+1=>by
  unfold dropO;split
  ·exact Wq.trans (Jb4 i)
  ·exact Jb4 i
theorem Jlk(g:Mn kvs c dn m)(hm:m<=d.n)(ho:∀o∈d.outs,Hs kvs o.2):∀i,((putO c d h f i).map (·.1)).Pairwise (λa b=>Rdu.ltP a b=true)/\(∀p∈putO c d h f i,p.1.1<d.n\/(p.1.1=d.n/\p.1.2<i))/\∀p∈putO c d h f i,Hs kvs p.2.lk
 |0=>⟨g.up.sublist ((Jb4 _).map _),λp hp=>.inl (by have:=g.lt p ((Jb4 _).subset hp);lia),λp hp=>g.has p ((Jb4 _).subset hp)⟩
 |i+1=>by
  obtain⟨h1,h2,h3⟩:=Jlk g hm ho i;unfold putO;split
  ·rename_i x hx;refine⟨?_,λp hp=>?_,λp hp=>?_⟩
   ·rcases Jda (c:=putO c d h f i) (k:=(d.n,(i:Int))) (v:=⟨x.1,x.2,h,f⟩)with e|⟨e,_⟩
    ·rw[e];exact h1
    ·rw[e,Qh];refine⟨h1,by simp,λa ha b hb=>?_⟩;rw[Av.mp hb];obtain⟨p,hp,rfl⟩:=Bd.mp ha;exact Rdu.Wj.mpr (h2 p hp)
   ·rcases Jea hp with hp|rfl
    ·rcases h2 p hp with z|z
     ·exact .inl z
     ·exact .inr ⟨z.1,by lia⟩
    ·exact .inr ⟨rfl,by show(i:Int)<_;lia⟩
   ·rcases Jea hp with hp|rfl
    ·exact h3 p hp
    ·exact ho x (Ba hx)
  ·refine⟨h1,λp hp=>?_,h3⟩;rcases h2 p hp with z|z
   ·exact .inl z
   ·exact .inr ⟨z.1,by lia⟩
def Mn.put(g:Mn kvs c dn m)(g2:W1 d)(ho:∀o∈d.outs,Hs kvs o.2)(hn:d.n∉dn)(hm:m<=d.n):Mn kvs (Xs c d h f) (dn++[d.n]) (d.n+1):=by
 obtain⟨h1,h2,h3⟩:=Jlk (h:=h) (f:=f) g hm ho d.outs.length;refine⟨g.gc.putO g2 _,g.gd.add hn g2.n,h1,λp hp=>?_,h3,λx hx=>?_⟩
 ·rcases h2 p hp with z|z<;>lia
 ·rcases Bj.mp hx with z|z
  ·have:=g.dlt x z;lia
  ·rw[Av.mp z];lia
def Mn.mono(g:Mn kvs c dn m)(h:m<=m'):Mn kvs c dn m':=⟨g.gc,g.gd,g.up,λp hp=>L6 (g.lt p hp) h,g.has,λx hx=>L6 (g.dlt x hx) h⟩
def Mn.ring(g:Mn kvs c dn m)(h:Gr kvs kv):Mn kv c dn m:=⟨g.gc,g.gd,g.up,g.lt,λp hp=>h _ (g.has p hp),g.dlt⟩
def NumOk(first:Int)(dn:List Int)(ds:List Dd):Prop:=∀(i:Nat) (d:Dd),ds[i]? =some d->d.n=first+i\/d.n∈dn\/∃(j:Nat) (d':Dd),j<i/\ds[j]? =some d'/\d'.n=d.n
theorem Jq3{first w:Int}{ds:List Dd}(hb:BkOk ds)(hn:NumOk first dn ds)(ho:∀d∈ds,∀o∈d.outs,Hs kvs o.2){z:Option (Nat×String)×Cs×List Int×Int}(hz1:z.1=none):∀(k i:Nat) (c':Cs) (dn':List Int) (f':Int),i+k=ds.length->Mn kvs c' dn' (first+i)->(∀x∈dn,x∈dn')->(∀j d',j<i->ds[j]? =some d'->d'.n∈dn')->z=goP h w i c' dn' f' (ds.drop i)->Mn kvs z.2.1 z.2.2.1 (first+ds.length)
 |0,i,c',dn',f',hi,g,h1,h2,hz=>by
  rw[J3 (by lia),goP]at hz;subst hz;exact g.mono (by lia)
 |k+1,i,c',dn',f',hi,g,h1,h2,hz=>by
  have hx:i<ds.length:=by lia
  have hd:ds[i]? =some ds[i]:=Ag hx;rw[Cm hx]at hz;generalize ds[i]=d at hd hz;rw[goP]at hz;have hw:Vw c' dn' d h=none:=by
   cases hw:Vw c' dn' d h with
   |none=>rfl
   |some w=>rw[hw]at hz;rw[hz]at hz1;cases hz1
  rw[hw]at hz;have hnn:=(Jb9 hw).1;have hdn:d.n=first+i:=by
   rcases hn i d hd with e|e|⟨j,d',hj,hd',e⟩
   ·exact e
   ·exact absurd (h1 _ e) hnn
   ·exact absurd (e▸h2 j d' hj hd') hnn
  have hm:=Ba hd;have g':=g.put (h:=h) (f:=if i=0 then h+w else h) (hb.ok d hm) (ho d hm) hnn (by lia);refine Jq3 hb hn ho hz1 k (i+1) _ _ _ (by lia) (g'.mono (by lia)) (λx hx=>Ci _ (h1 x hx)) (λj d' hj hd'=>?_) hz
  by_cases e:j=i
  ·subst e;rw[hd]at hd';cases hd';simp
  ·exact Ci _ (h2 j d' (by lia) hd')
def Jt1(g:RlOk r):0<=Vv r h/\Vv r h<=10^40:=by
 unfold Vv;have hp:(0:Int)<=2^(min 200 ((h-1)/r.b).toNat):=Uw (by decide);exact⟨Nt g.a.1 hp,Int.le_trans (Int.ediv_le_self _ g.a.1) g.a.2⟩
def Sr.keepN(a:Sr S l rl kvs mx S1 kv)(k:Keep ps S1 S2)(hp:∀p∈ps,S.length<=p)(hl:l<S.length)(hr:rl<S.length):Sr S l rl kvs mx S2 kv:=⟨⟨Bl a.k.1 k.1,λx hx n=>(k.2 x (Be hx a.k.1) (λz=>by have:=hp x z;lia)).trans (a.k.2 x hx n)⟩,a.s.get (p:=0) k (λz=>by have:=hp l z;lia),k.get a.r (λz=>by have:=hp rl z;lia),a.g,a.m⟩
structure Bld(S:Store)(l rl u q o:Nat)(kvs:Kv)(mx:Nat)(first:Int)(dn:List Int)(i:Nat)(S':Store)(kv:Kv)(ds:List Dd)(c:Cs)(db:List Int):Prop where
 a:Sr S l rl kvs (mx+3*i+3) S' kv
 u:S'[u]? =some (csO c)
 q:S'[q]? =some (dnO db)
 o:S'[o]? =some (.lst (ds.map ddD))
 n:ds.length=i+1
 g:Mn kv c db (first+1+i)
 b:BkOk ds
 m:NumOk first dn ds
 h:∀d∈ds,∀x∈d.outs,Hs kv x.2
 s:∀x∈db,x∈dn\/∃d'∈ds,d'.n=x
 e:db≠[]
 z:∃d0 rs,ds=d0::rs/\d0.outs≠[]/\d0.n=first
abbrev eB(l:Nat)(first:Int)(u0 q0:Nat)(h:Int)(r:Rl)(rl:Nat)(w:Int)(u q o:Nat)(a11 a12 a13:Option D):En:=[some (.loc l),some (.int first),some (.loc u0),some (.loc q0),some (.int h),some (rlD r),some (.loc rl),some (.int w),some (.loc u),some (.loc q),some (.loc o),a11,a12,a13,none,none,none,none]
theorem Jyu{u0 q0 u q o:Nat}{first w num:Int}{i:Nat}{kv:Kv}{dds:List Dd}{db:List Int}{a11 a13:Option D}(B:Bld S l rl u q o kvs mx first dn i S' kv dds c db)
  (hl:l<S.length)(hrl:rl<S.length)(hu:S.length<=u)(hq:S.length<=q)(ho:S.length<=o)(hmx:mx+3*i+6<=90000)(hi:i<=15)(hfirst:1<=first/\first<=321)
  (hnum:num=first+1+i\/num∈db):
  Sat (evB (Cn T G W (n+6)) tl (eB l first u0 q0 h r rl w u q o a11 (some (.int num)) a13) S') λfl S2=>∃kv2 ds2 c2 db2,fl=.nx (eB l first u0 q0 h r rl w u q o a11 (some (.int num)) a13)/\Bld S l rl u q o kvs mx first dn (i+1) S2 kv2 ds2 c2 db2:=by
 have hn345:0<=num/\num<345:=by
  rcases hnum with e|e
  ·lia
  ·exact B.g.gd.ok _ e
 obtain⟨_,S3,e3,d,kv3,rfl,hdn,a3,dk,hne,hou⟩:=Jpo (W:=W) (n:=n+2) B.a.s B.a.r B.a.g (by lia) B.u B.g hn345;have A3:=B.a.trans a3;have huq:u≠q:=by
  intro e;have h1:=B.u;rw[e,B.q]at h1;cases h1
 have hoq:o≠u/\o≠q:=by
  constructor
  ·intro e;have h1:=B.o;rw[e,B.u]at h1;cases h1
  ·intro e;have h1:=B.o;rw[e,B.q]at h1;cases h1
 have kp:∀{p:Nat},S.length<=p->p∉[l,rl]:=λhp=>by simp;lia
 have hu3:=a3.k.get B.u (kp hu);have hq3:=a3.k.get B.q (kp hq);have ho3:=a3.k.get B.o (kp ho);have e4:=Jay (d:=ddD d) ho3 (Jch (by rw[Ah,B.n];lia));have e5:=Jbi (me:=.append) rfl B.o;have ho4:(S3.set o (.lst (dds.map ddD++[ddD d])))[o]? =some (.lst (dds.map ddD++[ddD d])):=Jar ho3;have k4:Keep [o] S3 (S3.set o (.lst (dds.map ddD++[ddD d]))):=.set (by simp);have A4:=A3.keepN k4 (by simp;exact ho) hl hrl;have hu4:=k4.get hu3 (by simp;exact hoq.1.symm);have hq4:=k4.get hq3 (by simp;exact hoq.2.symm);simp[tl,e3,e4,e5];generalize S3.set o (.lst (dds.map ddD++[ddD d]))=S4 at ho4 k4 A4 hu4 hq4;have g4:=B.g.ring a3.m;obtain⟨S5,e6,x5⟩:=Jkt (W:=W) (n:=n+1) (h:=h) hu4 hq4 g4.gc dk;have e7:∀{S:Store},S[o]? =some (.lst (dds.map ddD++[ddD d]))->Jao (.loc o) (.int (-1)) S=.ok (ddD d) S:=λh=>Jc5 h;have Ho:∀x∈d.outs,Hs kv3 x.2:=λx hx=>(hou x hx).2.2;have Hall:∀d'∈dds++[d],∀x∈d'.outs,Hs kv3 x.2:=λd' hd' x hx=>by
  rcases Bj.mp hd' with z|z
  ·exact a3.m _ (B.h d' z x hx)
  ·rw[Av.mp z]at hx;exact Ho x hx
 have Bk:BkOk (dds++[d]):=⟨λd' hd'=>by
   rcases Bj.mp hd' with z|z
   ·exact B.b.ok d' z
   ·rw[Av.mp z];exact dk,by have:=B.n;simp;lia,λj d' hj=>by
   have hn:=B.n
   by_cases hjl:j<dds.length
   ·rw[A0 hjl]at hj;exact B.b.mr j d' hj
   ·have hl:=(Ae.mp hj).1;rw[Bf,Dy]at hl;have:j=dds.length:=by lia
    subst this;rw[Az (Aj _),El]at hj;cases hj;exact⟨λz=>absurd z hne,λz=>by lia⟩,by simp⟩
 have Nk:NumOk first dn (dds++[d]):=λj d' hj=>by
  have hn:=B.n
  by_cases hjl:j<dds.length
  ·have hj':=hj;rw[A0 hjl]at hj';rcases B.m j d' hj' with e|e|⟨k,d2,hk,hd2,e⟩
   ·exact .inl e
   ·exact .inr (.inl e)
   ·exact .inr (.inr ⟨k,d2,hk,by rw[A0 (by lia)];exact hd2,e⟩)
  ·have hl:=(Ae.mp hj).1;rw[Bf,Dy]at hl;have hjj:j=dds.length:=by lia
   subst hjj;rw[Az (Aj _),El]at hj;cases hj;rcases hnum with e|e
   ·exact .inl (by lia)
   ·rcases B.s _ e with z|⟨d2,hd2,z⟩
    ·exact .inr (.inl (by rw[hdn];exact z))
    ·obtain⟨k,hk,ek⟩:=C6.mp hd2;exact .inr (.inr ⟨k,d2,hk,by rw[A0 hk,Ag hk,ek],by rw[z,hdn]⟩)
 have Zk:∃d0 rs,dds++[d]=d0::rs/\d0.outs≠[]/\d0.n=first:=by
  obtain⟨d0,rs,e,h0⟩:=B.z;exact⟨d0,rs++[d],by rw[e];rfl,h0⟩
 have om:(dds.map ddD++[ddD d])=(dds++[d]).map ddD:=by simp
 have nk:(dds++[d]).length=i+1+1:=by simp;exact B.n
 simp[e7 ho4,e6];cases hw:Vw c db d h with
 |some x=>
  simp;exact⟨kv3,dds++[d],c,db,(A4.ext x5).mono (by lia),x5.get hu4,x5.get hq4,by rw[x5.get ho4,om],nk,g4.mono (by lia),Bk,Nk,Hall,λx hx=>(B.s x hx).elim .inl λ⟨d',h1,h2⟩=>.inr ⟨d',Ci _ h1,h2⟩,B.e,Zk⟩
 |none=>
  obtain⟨hnn,hdst,hv⟩:=Jb9 hw;obtain⟨S6,e8,k6,hu6,hq6⟩:=Jlj (W:=W) (n:=n+5) (h:=h) (f:=h) (x5.get hu4) (x5.get hq4) g4.gc g4.gd dk hnn hdst hv;have hdi:d.n=first+1+i:=hnum.elim (λe=>by lia) λe=>absurd (hdn▸e) hnn
  simp[e7 (x5.get ho4),e8];refine⟨kv3,dds++[d],Xs c d h h,db++[d.n],((A4.ext x5).keepN k6 (by simp;lia) hl hrl).mono (by lia),hu6,hq6,by rw[k6.get (x5.get ho4) (by simp;exact hoq),om],nk,?_,Bk,Nk,Hall,λx hx=>?_,by simp,Zk⟩
  ·exact(g4.put dk Ho hnn (by lia)).mono (by lia)
  ·rcases Bj.mp hx with z|z
   ·exact(B.s x z).elim .inl λ⟨d',h1,h2⟩=>.inr ⟨d',Ci _ h1,h2⟩
   ·rw[Av.mp z];exact .inr ⟨d,by simp,rfl⟩
def three(h0:Z[0]? =some (some (.loc l)))(hs:Stm S l):Sat (W6 (Cn T G W (n+1)) 1 [0] (.tvar 0) .nul (.call "_law_take" (.cns (.var 1) (.cns (.bin .pow (.cst (.int 10)) (.cst (.int 30))) .nul))) Z (none,(B3 3).map λ(i:Nat)=>D.int i) S) λd S'=>∃(x y z:Int) (p:Nat),d=.loc p/\S'[p]? =some (.lst [.int x,.int y,.int z])/\Keep [l] S S'/\Stm S' l:=by
 refine(comp (λi acc S'=>∃xs:List Int,acc=xs.map D.int/\xs.length=i/\Keep [l] S S'/\Stm S' l) (by decide) ⟨[],rfl,rfl,.refl,hs⟩ (λi acc S1 ⟨xs,h1,h2,_⟩=>⟨by rw[h1,Ah];lia,rfl⟩) (λi acc S1 hi ⟨xs,h1,h2,k1,s1⟩=>?_)).mono ?_
 ·have hx:i<3:=by simpa using hi
  obtain⟨x,S2,e2,k2,s2,hx2⟩:=Jah (W:=W) (n:=n) (m:=1000000000000000000000000000000) s1 (by decide) (by decide);have ep:bop .pow (.int 10) (.int 30) S1=.ok (.int 1000000000000000000000000000000) S1:=Ja4 (k:=30) rfl (by decide) (by decide);refine⟨.int i,by simp[nth,hx],?_⟩;rw[Jak];simp only[Vl,Ay,Ga,h0];simp[ep,e2];exact⟨xs++[x],by simp[h1],by simp[h2],k1.trans k2,s2⟩
 ·rintro _ _ ⟨ys,S0,⟨xs,rfl,h2,k0,s0⟩,rfl,rfl⟩;rcases xs with _|⟨x,_|⟨y,_|⟨z,_|⟨a,xs⟩⟩⟩⟩<;>simp at h2;exact⟨x,y,z,_,rfl,Jad,k0.trans (.new _),s0.ext (.new _ _)⟩
inductive PB (S:Store) (l rl:Nat) (kvs:Kv) (mx:Nat) (first:Int) (dn:List Int) (d':D) (S':Store):Prop
 |mk (b:Bk) (kv:Kv) (_:d'=bkD b) (_:Sr S l rl kvs (mx+45) S' kv) (_:BkOk b.ds) (_:NumOk first dn b.ds) (_:∀d∈b.ds,∀o∈d.outs,Hs kv o.2):PB S l rl kvs mx first dn d' S'
inductive IBk (S:Store) (l rl u0 q0 o:Nat) (kvs:Kv) (mx:Nat) (first:Int) (dn:List Int) (h:Int) (r:Rl) (w:Int) (i:Nat) (Z:En) (S':Store):Prop
 |mk (kv:Kv) (ds:List Dd) (cb:Cs) (db:List Int) (a11 a12 a13:Option D) (_:Z=eB l first u0 q0 h r rl w S.length (S.length+1) o a11 a12 a13) (_:Bld S l rl S.length (S.length+1) o kvs mx first dn i S' kv ds cb db):IBk S l rl u0 q0 o kvs mx first dn h r w i Z S'
def Wc7{first w:Int}(hs:Stm S l)(hr:S[rl]? =some (.rg kvs))(gk:Wr kvs mx)(hmx:mx+45<=90000)(hu:S[u]? =some (csO c))(hq:S[q]? =some (dnO dn))(g:Mn kvs c dn first)(hf:1<=first/\first<=321)(gr:RlOk r)(hh:1<=h)(hw:1<=w):
  Sat ((evB (Cn T G W (n+6)) rest [some (.loc l),some (.int first),some (.loc u),some (.loc q),some (.int h),some (rlD r),some (.loc rl),some (.int w),none,none,none,none,none,none,none,none,none,none] S).bind Xw) (PB S l rl kvs mx first dn):=by
 have hl:=hs.lt;have hrl:=Jax hr;have e2:=Jgi (Jai (X:=[csO c]) hq);simp[rest,Jgh hu g.gc.apt];simp at e2;have epow:∀S:Store,bop .pow (.int 10) (.int 40) S=.ok (.int (10000000000000000000000000000000000000000:Int)) S:=λS=>Ja4 (k:=40) rfl (by decide) (by decide);simp[e2,epow];have x1:=Ext.new S [csO c,dnO dn];obtain⟨_,S2,e3,os,kv2,rfl,a2,ho3,hne,hou⟩:=Jjf (W:=W) (n:=n+3) (S:=S++[csO c,dnO dn]) (t:=if w<(10000000000000000000000000000000000000000:Int)then w else(10000000000000000000000000000000000000000:Int)) (hs.ext x1) (x1.get hr) gk (by lia) (by constructor<;>split<;>lia);have A2:Sr S l rl kvs (mx+3) S2 kv2:=⟨(Keep.ext x1).trans a2.k,a2.s,a2.r,a2.g,a2.m⟩
 have hu2:=a2.k.get (Jau (S:=S) (a0:=csO c) (X:=[dnO dn])) (by simp;lia);have hq2:=a2.k.get (Jdd (S:=S) (a0:=csO c) (a1:=dnO dn) (X:=[])) (by simp;lia);have l2:S.length+2<=S2.length:=by have:=a2.k.1;simpa using this
 have dk0:W1 ⟨first,[],os⟩:=⟨⟨by show 0<=first;lia,by show first<345;lia⟩,by simp,ho3,by simp,λo ho=>⟨(hou o ho).1,(hou o ho).2.1⟩⟩
 have hn0:first∉dn:=λz=>by have:=g.dlt _ z;lia
 have x3:=Ext.new S2 [Obj.lst [ddD ⟨first,[],os⟩]];have ho0:(S2++[Obj.lst [ddD ⟨first,[],os⟩]])[S2.length]? =some (.lst [ddD ⟨first,[],os⟩]):=Jad;have i0:=Jaq ho0 (at0 (k:=0) rfl);obtain⟨S3,e4,k3,hu3,hq3⟩:=Jlj (W:=W) (n:=n+5) (h:=h) (f:=h+r.c) (x3.get hu2) (x3.get hq2) g.gc g.gd dk0 hn0 (by simp[nms,dst,Sbl.dd]) (by simp);have A3:=(A2.ext x3).keepN k3 (by simp) hl hrl;have ho3':=k3.get ho0 (by simp;lia);have edd:D.tup [.int first,.tup [],.tup (os.map ouD)]=ddD ⟨first,[],os⟩:=rfl;simp[e3];rw[if_pos (show 3<=Line by decide),edd];simp;rw[if_pos (show 1<=Line by decide)];simp only[Res.bind_ok,Z8,Jp3,A5,Ez,List.set_cons_succ,List.set_cons_zero,if_pos (show 10<0+1+1+1+1+1+1+1+1+1+1+1+1+1+1+1+1+1+1 by decide),kNx,kB,Yf,Jyq,Ju9,Y4,v_var,Yq,Bu,Dk,V9,Jyp,Z5,Jih];rw[show Jao (.loc S2.length) (.int 0) (S2++[Obj.lst [ddD ⟨first,[],os⟩]])=.ok (ddD ⟨first,[],os⟩) (S2++[Obj.lst [ddD ⟨first,[],os⟩]])from i0];simp[e4];obtain⟨y1,S4,e5,k4,s4,hy1⟩:=Jah (W:=W) (n:=n+5) (S:=S3) (m:=5) A3.s (by decide) (by decide);obtain⟨y2,S5,e6,k5,s5,hy2⟩:=Jah (W:=W) (n:=n+5) (S:=S4) (m:=12) s4 (by decide) (by decide);obtain⟨y3,S6,e7,k6,s6,hy3⟩:=Jah (W:=W) (n:=n+5) (S:=S5++[.lst [.int y1,.int y2]]) (m:=4) (s5.ext (.new _ _)) (by decide) (by decide);have l5:S2.length<S5.length:=by have:=k5.1;have:=k4.1;have:=Jax ho3';lia
 obtain⟨y,hy,ey⟩:∃y:Int,(0<=y/\y<12)/\Jao (.loc S5.length) (.int (if y3=3 then 1 else 0)) S6=.ok (.int y) S6:=by
  have h6:=k6.get (Jad (S:=S5) (o:=.lst [.int y1,.int y2])) (by simp;lia);split
  ·exact⟨y2,hy2,Jaq h6 (at0 (k:=1) rfl)⟩
  ·exact⟨y1,by lia,Jaq h6 (at0 (k:=0) rfl)⟩
 have A6:=(((A3.take k4 s4).take k5 s5).ext (.new _ [.lst [.int y1,.int y2]])).take k6 s6;have kk:Keep [l] S3 S6:=((k4.trans k5).trans (.new _)).trans k6;simp[e5,e6,Line,e7,ey];rw[Jdf (by lia) (by lia)];simp;have B0:Bld S l rl S.length (S.length+1) S2.length kvs mx first dn 0 S6 kv2 [⟨first,[],os⟩] (Xs c ⟨first,[],os⟩ h (h+r.c)) (dn++[first]):=by
  refine⟨A6,kk.get hu3 (by simp;lia),kk.get hq3 (by simp;lia),kk.get ho3' (by simp;lia),rfl,?_,?_,?_,?_,?_,by simp,⟨_,_,rfl,hne,rfl⟩⟩
  ·have:=(g.ring a2.m).put (h:=h) (f:=h+r.c) dk0 (λo ho=>(hou o ho).2.2) hn0 (by show first<=first;lia);exact this.mono (by show first+1<=_;lia)
  ·refine⟨by simp;exact dk0,by simp,λi d hd=>?_,by simp⟩;cases i with
   |zero=>cases hd;simp
   |succ i=>simp at hd
  ·intro i d hd;cases i with
   |zero=>cases hd;exact .inl (by simp)
   |succ i=>simp at hd
  ·intro d hd o ho;rw[Av.mp hd]at ho;exact(hou o ho).2.2
  ·intro x hx;rcases Bj.mp hx with z|z
   ·exact .inl z
   ·rw[Av.mp z];exact .inr ⟨⟨first,[],os⟩,by simp,rfl⟩
 have hyn:y.toNat<=11:=by lia
 refine Sat.p2 (loop (IBk S l rl u q S2.length kvs mx first dn h r w) noR ⟨kv2,_,_,_,none,none,none,rfl,B0⟩ ?_) ?_
 ·rintro i z _ S7 hd ⟨kv,ds,cb,db,a11,a12,a13,rfl,B⟩;rw[Ap]at hd;obtain⟨j,hj,rfl⟩:=Al.mp hd;have hij:=Ae.mp hj;have hi:i<y.toNat:=by simpa using hij.1
  have hji:j=i:=by have:=hij.2;simp at this;lia
  subst hji;have TL:=λ{num:Int} {a13:Option D} {S8:Store} (B:Bld S l rl S.length (S.length+1) S2.length kvs mx first dn j S8 kv ds cb db) (hnum:num=first+1+j\/num∈db)=>(Jyu (W:=W) (n:=n) (h:=h) (r:=r) (u0:=u) (q0:=q) (w:=w) (a11:=some (.int j)) (a13:=a13) B hl hrl (Aj _) (by lia) (by lia) (by lia) (by lia) hf hnum).mono (Q:=FlP (IBk S l rl u q S2.length kvs mx first dn h r w (j+1)) noR) (λfl S9 q_=>by obtain⟨kv2,ds2,c2,db2,e,B2⟩:=q_;rw[e];exact⟨kv2,ds2,c2,db2,_,_,_,rfl,B2⟩);obtain⟨y4,S8,e8,k8,s8,hy4⟩:=Jah (W:=W) (n:=n+5) (S:=S7) (m:=16) B.a.s (by decide) (by decide);have kp:∀{p:Nat},S.length<=p->p∉[l]:=λhp=>by simp;lia
  have mv:∀{S9:Store},Keep [l] S7 S9->Stm S9 l->Bld S l rl S.length (S.length+1) S2.length kvs mx first dn j S9 kv ds cb db:=λk s=>⟨B.a.take k s,k.get B.u (kp (Aj _)),k.get B.q (kp (by lia)),k.get B.o (kp (by lia)),B.n,B.g,B.b,B.m,B.h,B.s,B.e,B.z⟩
  rw[Jat];unfold lpB
  by_cases h4:y4=0
  ·have q8:=k8.get B.q (kp (by lia));have e9:=Jov q8;have e10:=Jtr (Jai (X:=[.lst ((dp db).map λp=>.int p.1)]) q8);have hpos:0<db.length:=K8.mpr B.e;have hdl:=B.g.gd.len;obtain⟨y5,S9,e11,k9,s9,hy5⟩:=Jah (W:=W) (n:=n+5) (S:=S8++[.lst ((dp db).map λp=>.int p.1)]) (m:=db.length) (s8.ext (.new _ _)) (by lia) (Int.lt_trans (show(db.length:Int)<2000 by lia) (by decide));have hL:=k9.get (Jad (S:=S8) (o:=.lst ((dp db).map λp=>.int p.1))) (by simp;have:=s8.lt;lia);have kall:Keep [l] S7 S9:=(k8.trans (.new _)).trans k9;simp only[Ah]at e10;simp only[h4]at e8;simp[e8,e9];simp only[B4,Bn]at e10 e11 hL;simp[Bn,e10,e11];refine Sat.p3 (Jbo hL hy5.1 (by simp;lia) (P:=λz=>∃v∈db,z=.int v) (λz hz=>by obtain⟨v,hv,rfl⟩:=Bd.mp hz;exact⟨v,hv,rfl⟩)) ?_;rintro _ S10 ⟨⟨v,hv,rfl⟩,rfl⟩;simp;exact TL (mv kall s9) (.inr hv)
  ·simp[e8,h4];exact TL (mv k8 s8) (.inl rfl)
 ·intro fl S7 hF;obtain⟨_,rfl,kv,ds,cb,db,a11,a12,a13,rfl,B⟩:=hF.nx;clear hF;rw[Ah,E3]at B;have ho:=B.o;simp;rw[Jdf (by decide) (by decide)];simp only[Res.bind_ok];refine Sat.p3 (three (W:=W) (n:=n+5) rfl B.a.s) ?_;rintro _ S8 ⟨x0,x1',x2,p,rfl,hp8,k8,s8⟩;have A8:=B.a.take k8 s8;have ho8:=k8.get ho (by simp;lia);have j0:=Jaq hp8 (at0 (k:=0) rfl);have j1:=Jaq hp8 (at0 (k:=1) rfl);have j2:=Jaq hp8 (at0 (k:=2) rfl);simp only[Int.cast_ofNat_Int,Int.natCast_zero,Int.natCast_one]at j0 j1 j2;simp[j0,j1,j2,Jam ho8,Line];obtain⟨y6,S9,e9,k9,s9,hy6⟩:=Jah (W:=W) (n:=n+5) (S:=S8) (m:=3) s8 (by decide) (by decide);have A9:=A8.take k9 s9
  by_cases h6:y6=0
  ·obtain⟨d0,rs,hds,hd0,hd0n⟩:=B.z;obtain⟨o0,os',hos⟩:∃o0 os',d0.outs=o0::os':=by
    cases ho:d0.outs with
    |nil=>exact absurd ho hd0
    |cons a b=>exact⟨a,b,rfl⟩
   have hul:u∉[l,rl]:=by simp;exact⟨hs.ne_cs hu,Jfz hr hu⟩
   have hql:q∉[l,rl]:=by
    simp;constructor
    ·rintro rfl;obtain⟨a,e,s,h⟩:=hs;have:=h.symm.trans hq;cases this
    ·rintro rfl;have:=hr.symm.trans hq;cases this
   obtain⟨fz,S10,e10,x10,_⟩:=Jmw (W:=W) (n:=n) (b:=⟨1+x0,x1',1+x2,ds⟩) (A9.k.get hu hul) (A9.k.get hq hql) g.gc g.gd gr B.b hh;simp only[bkD]at e10;have e11:=Jga (W:=W) (n:=n+5) (S:=S10) gr hh;obtain⟨y7,S11,e12,k11,s11,hy7⟩:=Jah (W:=W) (n:=n+5) (S:=S10) (m:=2) (s9.ext x10) (by decide) (by decide);have A11:=(A9.ext x10).take k11 s11;have ho11:=k11.get (x10.get (k9.get ho8 (by simp;lia))) (by simp;lia);rw[hds,Ay]at ho11;have i1:Jao (.loc S2.length) (.int 0) S11=.ok (ddD d0) S11:=Jaq ho11 (at0 (k:=0) rfl);have i2:Jao (.tup (d0.outs.map ouD)) (.int 0) S11=.ok (ouD o0) S11:=by rw[hos,Ay];exact Jbn
   have c1:Wm (.tup [.int (1+x0),.int x1',.int (1+x2),.tup (ds.map ddD)]) none (some 3) S11=.ok (.tup [.int (1+x0),.int x1',.int (1+x2)]) S11:=by simp only[Wm];rw[Jjq (by decide)];rfl
   have c2:Wm (.tup (ds.map ddD)) (some 1) none S11=.ok (.tup (rs.map ddD)) S11:=by simp only[Wm];rw[Jgl (by decide),hds];rfl
   have hrs:rs.length<=19:=by have:=B.b.l;rw[hds]at this;simp at this;lia
   simp[e9,h6,e10,e11,e12,i1,i2,epow,c1,c2];generalize hv:(if(if 1<Vv r h+fz+y7 then Vv r h+fz+y7 else 1)<(10000000000000000000000000000000000000000:Int)then(if 1<Vv r h+fz+y7 then Vv r h+fz+y7 else 1)else(10000000000000000000000000000000000000000:Int))=v;have hvl:v<=10^40:=by rw[<-hv];split<;>lia
   have em:D.tup [.int first,.tup [],.tup [.tup [.int v,.tup (o0.2.map rD)]]]=ddD ⟨first,[],[(v,o0.2)]⟩:=rfl;simp[Line];rw[em];have b1:∀{S:Store},bop .add (.tup [ddD ⟨first,[],[(v,o0.2)]⟩]) (.tup (rs.map ddD)) S=.ok (.tup ((⟨first,[],[(v,o0.2)]⟩::rs:List Dd).map ddD)) S:=λ{S}=>by rw[Jcv (by simp[Line];lia)];rfl
   have b2:∀{S:Store} {z:D},bop .add (.tup [.int (1+x0),.int x1',.int (1+x2)]) (.tup [z]) S=.ok (.tup [.int (1+x0),.int x1',.int (1+x2),z]) S:=λ{S z}=>by rw[Jcv (by simp[Line])];rfl
   simp only[Ay]at b1;simp[c1,c2,b1,b2,Line];have dk0':=B.b.ok d0 (by rw[hds];simp);have ho0':o0∈d0.outs:=by rw[hos];simp
   refine⟨⟨1+x0,x1',1+x2,⟨first,[],[(v,o0.2)]⟩::rs⟩,kv,rfl,A11.mono (by lia),?_,?_,?_⟩
   ·refine⟨λd' hd'=>?_,by simp;lia,λi d' hd'=>?_,by simp⟩
    ·rcases An.mp hd' with rfl|z
     ·exact⟨⟨by show 0<=first;lia,by show first<345;lia⟩,by simp,by simp,by simp,by simp;exact⟨by lia,(dk0'.w o0 ho0').2⟩⟩
     ·exact B.b.ok d' (by rw[hds];exact Ax _ z)
    ·cases i with
     |zero=>cases hd';simp
     |succ i=>exact B.b.mr (i+1) d' (by rw[hds];exact hd')
   ·intro i d' hd';cases i with
    |zero=>cases hd';exact .inl (by simp)
    |succ i=>
     rcases B.m (i+1) d' (by rw[hds];exact hd')with e|e|⟨j,d2,hj,hd2,e⟩
     ·exact .inl e
     ·exact .inr (.inl e)
     ·cases j with
      |zero=>
       rw[hds]at hd2;cases hd2;exact .inr (.inr ⟨0,_,hj,rfl,by rw[<-e,hd0n]⟩)
      |succ j=>exact .inr (.inr ⟨j+1,d2,hj,by rw[hds]at hd2;exact hd2,e⟩)
   ·intro d' hd' o ho;rcases An.mp hd' with rfl|z
    ·rw[Av.mp ho];exact B.h d0 (by rw[hds];simp) o0 ho0'
    ·exact B.h d' (by rw[hds];exact Ax _ z) o ho
  ·simp[e9,h6];exact⟨⟨1+x0,x1',1+x2,ds⟩,kv,rfl,A9.mono (by lia),B.b,B.m,B.h⟩
def Jnc{first:Int}(hs:Stm S l)(hr:S[rl]? =some (.rg kvs))(gk:Wr kvs mx)(hmx:mx+45<=90000)(hu:S[u]? =some (csO c))(hq:S[q]? =some (dnO dn))(g:Mn kvs c dn first)(hf:1<=first/\first<=321)(gr:RlOk r)(hh:1<=h):
  Sat (callN T G W (n+7) "_law_block" [.loc l,.int first,.loc u,.loc q,.int h,rlD r,.loc rl] S) (PB S l rl kvs mx first dn):=by
 rw[Jaa Jgs rfl];have e1:=Jga (W:=W) (n:=n+5) (S:=S) gr hh;have gl:=Jt1 (h:=h) gr;obtain⟨x,S1,e2,k1,s1,hx⟩:=Jah (W:=W) (n:=n+5) (S:=S) (m:=4) hs (by decide) (by decide);obtain⟨y,S2,e3,k2,s2,hy⟩:=Jah (W:=W) (n:=n+5) (S:=S1) (m:=3) s1 (by decide) (by decide);have a2:Sr S l rl kvs mx S2 kvs:=((Sr.refl hs hr gk).take k1 s1).take k2 s2;have hul:u∉[l,rl]:=by simp;exact⟨hs.ne_cs hu,Jfz hr hu⟩
 have hql:q∉[l,rl]:=by
  simp;constructor
  ·rintro rfl;obtain⟨a,e,s,h⟩:=hs;have:=h.symm.trans hq;cases this
  ·rintro rfl;have:=hr.symm.trans hq;cases this
 have fin:∀{S3:Store} {w:Int},Sr S l rl kvs mx S3 kvs->1<=w->Sat ((evB (Cn T G W (n+6)) rest [some (.loc l),some (.int first),some (.loc u),some (.loc q),some (.int h),some (rlD r),some (.loc rl),some (.int w),none,none,none,none,none,none,none,none,none,none] S3).bind Xw) (PB S l rl kvs mx first dn):=λ{S3 w} a3 hw=>by
  refine(Wc7 (W:=W) (n:=n) a3.s a3.r gk hmx (a3.k.get hu hul) (a3.k.get hq hql) g hf gr hh hw).mono ?_;rintro d' S4 ⟨b,kv,e,a4,h1,h2,h3⟩;exact⟨b,kv,e,a3.trans a4,h1,h2,h3⟩
 simp! [Jco,e1,e2,e3];generalize hw:(if 1<Vv r h+x-2 then Vv r h+x-2 else 1)=w;have hw1:1<=w/\w<=2*10^40:=by rw[<-hw];constructor<;>split<;>omega
 by_cases h0:y=0
 ·obtain⟨z,S3,e4,k3,s3,hz⟩:=Jah (W:=W) (n:=n+5) (S:=S2) (m:=w) s2 (by omega) (Iy hw1.2 (by decide));simp! [h0,e4];exact fin (a2.take k3 s3) (by omega)
 ·simp! [h0];exact fin a2 hw1.1
def mixed:∃v,callN T G W (n+1) "_law_mixed" [.int x] S=.ok (.int v) S:=by
 rw[Jaa Jgr rfl];simp! [Jcn,Jaj (S:=S) (i:=x) (j:=2147483647) (by decide)];rw[Jbf (by rfl)];simp -implicitDefEqProofs only[Res.bind_ok,Yc,Jih];rw[Jbf (by rfl)];simp -implicitDefEqProofs only[Res.bind_ok,Yc,Jih];rw[Jaj (by decide)];simp
theorem stream:∃p,callN T G W (n+2) "_law_stream" [.int x,.int k,.bl e] S=.ok (.loc S.length) (S++[p])/\Stm (S++[p]) S.length:=by
 rw[Jaa Jfb rfl];obtain⟨v,ev⟩:=mixed (W:=W) (n:=n) (S:=S) (x:=x);simp! [Jbz,ev];rw[Jhy (by rfl)];simp! [Jaj (S:=S) (i:=v+69621*k) (j:=2147483629) (by decide)];have p60:bop .pow (.int 10) (.int 60) S=.ok (.int (10^60)) S:=Ja4 (k:=60) rfl (by decide) (by decide);have m60:bop .mul (.int (10^60)) (.int (10^60)) S=.ok (.int (10^60*10^60)) S:=Jcu (by decide);have d60:=Jaj (S:=S) (i:=x) (j:=10^60*10^60) (by decide);cases e with
 |false=>
  simp! [Line];exact⟨_,_,_,Jad⟩
 |true=>
  have f2:∀{j:Int},j=1\/j=2->bop .fdiv (.int (x%(10^60*10^60))) (.int j) S=.ok (.int (x%(10^60*10^60)/j)) S:=λhj=>Jaw (by omega) (by omega)
  by_cases hk:k=0
  ·simp -implicitDefEqProofs only[Yf,Ju6,w_var,Yg,kTru,Jp8,Res.bind_ok,Xa,if_true,Jnl,Ju5,Y4,Jva,v_var,Yq,Yc,Jih,p60,m60,d60,Dk,Bu,Jp4,Wb,V9,Vu,Ju8,Z7,Jo4,Jdu,hk,decide_true,Jej,Jcx,f2 (.inr rfl),show(1:Int)+1=2 from rfl];simp! [Line];exact⟨_,_,_,Jad⟩
  ·simp -implicitDefEqProofs only[Yf,Ju6,w_var,Yg,kTru,Jp8,Res.bind_ok,Xa,if_true,Jnl,Ju5,Y4,Jva,v_var,Yq,Yc,Jih,p60,m60,d60,Dk,Bu,Jp4,Wb,V9,Vu,Ju8,Z7,Jo4,Jdu,hk,decide_false,Jej,Jcx,f2 (.inl rfl),show(1:Int)+0=1 from rfl,if_neg Aw];simp! [Line];exact⟨_,_,_,Jad⟩
def p8{α0 α1 α2 α3 α4 α5 α6 α7 α8:Type}{r:Res α0}{f1:α0->Store->Res α1}{f2:α1->Store->Res α2}{f3:α2->Store->Res α3}{f4:α3->Store->Res α4}{f5:α4->Store->Res α5}{f6:α5->Store->Res α6}{f7:α6->Store->Res α7}{f8:α7->Store->Res α8}{Q:α0->Store->Prop}{P:α8->Store->Prop}(h:Sat r Q)(k:∀a S,Q a S->Sat ((((((((f1 a S).bind f2).bind f3).bind f4).bind f5).bind f6).bind f7).bind f8) P):Sat ((((((((r.bind f1).bind f2).bind f3).bind f4).bind f5).bind f6).bind f7).bind f8) P:=by
 obtain⟨a,S,rfl,h⟩:=h;exact k a S h
def Jor(hs:Stm S l)(hh:0<=h):Sat (callN T G W (n+2) "_law_next" [.loc l,rlD r,.int h] S) λd S'=>∃h',d=.int h'/\1<=h'/\Keep [l] S S'/\Stm S' l:=by
 rw[Jaa Jh8 rfl];obtain⟨x,S1,e1,k1,s1,hx⟩:=Jah (W:=W) (n:=n) (S:=S) (m:=2000) hs (by decide) (by decide);simp! [Jdm,e1];rw[if_pos (show 6<=Line by decide)];simp!;have hl1:=s1.lt;refine p5 (Jca (m:=6) (s1.ext (.new _ _)) (by decide) (by decide)) ?_;rintro _ S2 ⟨y,rfl,k2,s2,hy⟩;have hL:=k2.get Jau (by simp;omega);have kk:Keep [l] S S2:=(k1.trans (.new _)).trans k2;clear k2;refine Sat.p4 (Jbo hL hy.1 (by simp;omega) (P:=λz=>∃v,z=.int v/\1<=v) ?_) ?_
 ·intro z hz;simp only[An,A1,or_false]at hz;rcases hz with rfl|rfl|rfl|rfl|rfl|rfl
  ·exact⟨1,rfl,by omega⟩
  ·exact⟨1,rfl,by omega⟩
  ·exact⟨1,rfl,by omega⟩
  ·exact⟨_,rfl,by split<;>omega⟩
  ·exact⟨_,rfl,by split<;>omega⟩
  ·exact⟨_,rfl,by omega⟩
 rintro _ S3 ⟨⟨v,rfl,hv⟩,rfl⟩;simp!;exact⟨by omega,kk,s2⟩
def Jlh(hs:Stm S l):Sat (callN T G W (n+2) "_law_rules" [.loc l] S) λd S'=>∃r,d=rlD r/\RlOk r/\Keep [l] S S'/\Stm S' l:=by
 rw[Jaa Jgq rfl];have hl:=hs.lt;have epow:∀S:Store,bop .pow (.int 10) (.int 40) S=.ok (.int 10000000000000000000000000000000000000000) S:=λS=>Ja4 (k:=40) rfl (by decide) (by decide);simp! [Jcm,epow];rw[if_pos (show 6<=Line by decide)];simp!;refine Sat.p4 (Jca (m:=6) (hs.ext (.new _ _)) (by decide) (by decide)) ?_;rintro _ S2 ⟨y,rfl,k2,s2,hy⟩;have hL:=k2.get Jau (by simp;omega);have k02:Keep [l] S S2:=(Keep.new _).trans k2;clear k2;refine Sat.p3 (Jbo hL hy.1 (by simp;omega) (P:=λz=>∃v,z=.int v/\0<=v/\v<=10^40) ?_) ?_
 ·intro z hz;simp only[An,A1,or_false]at hz;rcases hz with rfl|rfl|rfl|rfl|rfl|rfl<;>exact⟨_,rfl,by omega⟩
 rintro _ S3 ⟨⟨va,rfl,hva⟩,rfl⟩;have hl3:=s2.lt;simp!;rw[if_pos (show 4<=Line by decide)];simp!;refine p7 (Jca (m:=4) (s2.ext (.new _ _)) (by decide) (by decide)) ?_;rintro _ S4 ⟨y4,rfl,k4,s4,hy4⟩;have hL4:=k4.get Jau (by simp;omega);have k04:Keep [l] S S4:=(k02.trans (.new _)).trans k4;clear k4;refine p6 (Jbo hL4 hy4.1 (by simp;omega) (P:=λz=>∃v,z=.int v/\1<=v/\v<=1000) ?_) ?_
 ·intro z hz;simp only[An,A1,or_false]at hz;rcases hz with rfl|rfl|rfl|rfl<;>exact⟨_,rfl,by omega⟩
 rintro _ S5 ⟨⟨vb,rfl,hvb⟩,rfl⟩;have hl5:=s4.lt;simp!;rw[if_pos (show 6<=Line by decide)];simp!;refine p8 (Jca (m:=6) (s4.ext (.new _ _)) (by decide) (by decide)) ?_;rintro _ S6 ⟨y6,rfl,k6,s6,hy6⟩;have hL6:=k6.get Jau (by simp;omega);have k06:Keep [l] S S6:=(k04.trans (.new _)).trans k6;clear k6;refine p7 (Jbo hL6 hy6.1 (by simp;omega) (P:=λz=>∃v,z=.int v) ?_) ?_
 ·intro z hz;simp only[An,A1,or_false]at hz;rcases hz with rfl|rfl|rfl|rfl|rfl|rfl<;>exact⟨_,rfl⟩
 rintro _ S7 ⟨⟨vc,rfl⟩,rfl⟩;simp! [Line];exact⟨⟨va,vb,vc⟩,rfl,⟨hva,hvb⟩,k06,s6⟩
def Jyg{es:List D}(h:S[k]? =some (.lst es))(hl:ds.length+es.length<=Line):bop .add (.kl ds) (.loc k) S=.ok (.loc S.length) (S++[.lst (ds++es)]):=by
 show(match S[k]? with|some (.lst b)=>if ds.length+b.length<=Line then Res.ok (D.loc S.length) (S++[Obj.lst (ds++b)])else .bad|_=>.bad)=_;rw[h];exact if_pos hl
def Stm.all(hs:Stm S l')(k:Keep [l] S S')(s:Stm S' l):Stm S' l':=by
 by_cases e:l'=l
 ·rw[e];exact s
 ·exact hs.get (p:=0) k (by simp;exact e)
inductive PSt (d:D) (S':Store):Prop
 |mk (p:Nat) (ls:List Nat) (_:d=.loc p) (_:S'[p]? =some (.lst (ls.map D.loc))) (_:0<ls.length) (_:∀l∈ls,Stm S' l):PSt d S'
theorem Jii{ns:List Int}(hn:ns.length<=63):Sat (callN T G W (n+3) "_law_streams" [.kl (ns.map D.int)] S) PSt:=by
 rw[Jaa Je4 rfl];have e1:bop .add (.kl (ns.map D.int)) (.loc S.length) (S++[.lst [.int 0]])=.ok (.loc (S.length+1)) (S++[.lst [.int 0],.lst ((ns++[0]).map D.int)]):=by
  rw[Jyg Jad (by simp[Line];lia)];simp
 have e2:Wm (.loc (S.length+1)) none (some 60) (S++[.lst [.int 0],.lst ((ns++[0]).map D.int)])=.ok (.loc (S.length+2)) (S++[.lst [.int 0],.lst ((ns++[0]).map D.int),.lst (((ns++[0]).take 60).map D.int)]):=by
  rw[Jd6 Jdd,Jjq (by decide)];simp[Jp]
 have e3:Yt (.loc (S.length+2)) (S++[.lst [.int 0],.lst ((ns++[0]).map D.int),.lst (((ns++[0]).take 60).map D.int)])=.ok (some (S.length+2,.enm),((ns++[0]).take 60).map D.int) (S++[.lst [.int 0],.lst ((ns++[0]).map D.int),.lst (((ns++[0]).take 60).map D.int)]):=Jmb Jee;have hpos:0<((ns++[0]).take 60).length:=by simp;lia
 have hlen:((ns++[0]).take 60).length<=60:=by simp;lia
 generalize hxs:(ns++[0]).take 60=xs at e2 e3 hpos hlen;have hL:(S++[Obj.lst [.int 0],.lst ((ns++[0]).map D.int),.lst (xs.map D.int)])[S.length+2]? =some (.lst (xs.map D.int)):=Jee;generalize(ns++[0]).map D.int=ys at e1 e2 e3 hL;generalize S++[Obj.lst [.int 0],.lst ys,.lst (xs.map D.int)]=Sb at e2 e3 hL;have fin:∀{e:Bool},Sat (((W6 (Cn T G W (n+2)) 2 [1] (.ttup (.cns (.tvar 0) (.cns (.tvar 1) .nul))) .nul (.call "_law_stream" (.cns (.var 1) (.cns (.var 0) (.cns (.var 2) .nul)))) [some (.kl (ns.map D.int)),some (.bl e)] (some (S.length+2,.enm),xs.map D.int) Sb).bind Yr).bind (kB (Cn T G W (n+2)) .nul)|>.bind Xw) PSt:=λ{e}=>by
  refine Sat.p3 (comp (λi acc S'=>∃ls:List Nat,acc=ls.map D.loc/\ls.length=i/\Ext Sb S'/\∀l∈ls,Stm S' l) (by rw[Ah];unfold Line;lia) ⟨[],rfl,rfl,.refl _,by simp⟩ (λi acc S1 ⟨ls,h1,h2,h3,_⟩=>⟨by rw[h1,Ah];lia,Jeh (h3.get hL)⟩) (λi acc S1 hi ⟨ls,h1,h2,x1,h4⟩=>?_)) ?_
  ·have hx:i<xs.length:=by simpa using hi
   refine⟨.tup [.int i,.int xs[i]],by simp[nth,Ja6 (x1.get hL),hx],?_⟩;obtain⟨p,e5,s5⟩:=stream (W:=W) (n:=n) (S:=S1) (x:=xs[i]) (k:=i) (e:=e);rw[Jak];simp[Vl,e5];refine⟨ls++[S1.length],by simp[h1],by simp[h2],x1.trans (.new _ _),λz hz=>?_⟩;rcases Bj.mp hz with z1|z1
   ·exact(h4 z z1).ext (.new _ _)
   ·rw[Av.mp z1];exact s5
  ·rintro _ _ ⟨ys,S0,⟨ls,rfl,h2,x0,h4⟩,rfl,rfl⟩;simp;exact⟨_,ls,rfl,Jad,by rw[Ah]at h2;lia,λz hz=>(h4 z hz).ext (.new _ _)⟩
 cases ns with
 |nil=>
  simp[Jbb];rw[if_pos (show 1<=Line by decide)];simp only[Ga]at e1 fin;simp[e1,e2,e3];exact fin
 |cons x ns=>
  have i0:Jao (.kl (D.int x::ns.map D.int)) (.int 0) S=.ok (.int x) S:=by simp only[Jao];rw[show idxD (.kl (D.int x::ns.map D.int)) (.int 0) S=some (.int x)from Jxl (at0 (k:=0) rfl)]
  simp[Jbb,i0,Jaj (S:=S) (i:=x) (j:=2) (by decide)];rw[if_pos (show 1<=Line by decide)];simp only[Ay]at e1 fin;simp[e1,e2,e3];exact fin
inductive PBg (d:D) (S':Store):Prop
 |mk (p:Nat) (ls:List Nat) (r:Rl) (h:Int) (_:d=.tup [.loc p,rlD r,.int h]) (_:S'[p]? =some (.lst (ls.map D.loc))) (_:ls.length<=17) (_:(∀l∈ls,Stm S' l)) (_:RlOk r) (_:0<=h):PBg d S'
def Jne{ns:List Int}(hn:ns.length<=63):Sat (callN T G W (n+4) "_law_begin" [.kl (ns.map D.int)] S) PBg:=by
 rw[Jaa Jgt rfl];obtain⟨_,S1,e1,p,ls,rfl,hp,hl0,hst⟩:=Jii (W:=W) (n:=n) (S:=S) hn;have c1:Wm (.loc p) none (some 17) S1=.ok (.loc S1.length) (S1++[.lst ((ls.take 17).map D.loc)]):=by
  rw[Jd6 hp,Jjq (by decide),Jp];rfl
 obtain⟨l0,ls1,hls⟩:∃l0 ls1,ls.take 17=l0::ls1:=by
  cases ls with
  |nil=>cases hl0
  |cons a b=>exact⟨a,b.take 16,rfl⟩
 have hll:ls1.length<=16:=by
  have h1:=congrArg Jg hls;rw[Gb,A5]at h1
  lia
 have hst2:∀l∈l0::ls1,Stm (S1++[.lst ((l0::ls1).map D.loc)]) l:=λl hl=>(hst l (Ks (hls▸hl))).ext (.new _ _);rw[hls]at c1;have hp2:(S1++[Obj.lst ((l0::ls1).map D.loc)])[S1.length]? =some (.lst ((l0::ls1).map D.loc)):=Jad;have i0:∀{S:Store},S[S1.length]? =some (.lst ((l0::ls1).map D.loc))->Jao (.loc S1.length) (.int 0) S=.ok (.loc l0) S:=λh=>Jaq h (at0 (k:=0) rfl);have hne:∀{S:Store},Stm S l0->S[S1.length]? =some (.lst ((l0::ls1).map D.loc))->S1.length≠l0:=λhs h e=>by
  obtain⟨a,b,s,h2⟩:=hs;rw[<-e,h]at h2;simp at h2
 simp[Jcp,e1,c1];simp only[Ay]at hp2 hst2 i0 hne;generalize S1++[Obj.lst (D.loc l0::ls1.map D.loc)]=S2 at hp2 hst2;obtain⟨_,S3,e3,r,rfl,hr,k3,s3⟩:=Jlh (W:=W) (n:=n+1) (hst2 l0 (by simp));have hp3:=k3.get hp2 (by simp;exact hne (hst2 l0 (by simp)) hp2);have st3:∀l∈l0::ls1,Stm S3 l:=λl hl=>(hst2 l hl).all k3 s3;have p20:∀S:Store,bop .pow (.int 10) (.int 20) S=.ok (.int 100000000000000000000) S:=λS=>Ja4 (k:=20) rfl (by decide) (by decide);obtain⟨x,S4,e4,k4,s4,hx⟩:=Jah (W:=W) (n:=n+2) (S:=S3) (m:=100000000000000000000) s3 (by decide) (by decide);have hp4:=k4.get hp3 (by simp;exact hne s3 hp3);have st4:∀l∈l0::ls1,Stm S4 l:=λl hl=>(st3 l hl).all k4 s4;simp[i0 hp2,e3,i0 hp3,p20,e4];rw[if_pos (show 4<=Line by decide)];simp[i0 (Jai hp4)];refine Sat.p4 (Jca (m:=4) (s4.ext (.new _ _)) (by decide) (by decide)) ?_;rintro _ S5 ⟨y,rfl,k5,s5,hy⟩;have hl04:=s4.lt;have hL:=k5.get Jau (by simp;lia);have hp5:=k5.get (Jai hp4) (by simp;exact hne s4 hp4);have st5:∀l∈l0::ls1,Stm S5 l:=λl hl=>((st4 l hl).ext (.new _ _)).all k5 s5;clear k5;refine Sat.p3 (Jbo hL hy.1 (by simp;lia) (P:=λz=>∃v,z=.int v/\0<=v) ?_) ?_
 ·intro z hz;simp only[An,A1,or_false]at hz;rcases hz with rfl|rfl|rfl|rfl<;>exact⟨_,rfl,by lia⟩
 rintro _ S6 ⟨⟨v,rfl,hv⟩,rfl⟩;have c2:Wm (.loc S1.length) (some 1) none S6=.ok (.loc S6.length) (S6++[.lst (ls1.map D.loc)]):=by
  rw[Jd6 hp5,Jgl (by decide)];rfl
 obtain⟨o,e7,s7⟩:=stream (W:=W) (n:=n+1) (S:=S6++[.lst (ls1.map D.loc)]) (x:=7) (k:=17) (e:=false);simp at e7 s7;simp[c2,e7];rw[if_pos (show 1<=Line by decide)];simp;rw[Jcw (S:=S6++[.lst (ls1.map D.loc),o,.lst [.loc (S6.length+1)]]) Jau Jee (by simp[Line];lia)];simp[Line];refine⟨_,ls1++[S6.length+1],r,v,rfl,?_,by simp;lia,λl hl=>?_,hr,hv⟩
 ·rw[show S6.length+3=S6.length+3 from rfl,Jdw];simp
 ·rcases Bj.mp hl with z|z
  ·exact(st5 l (Ax _ z)).ext (.new _ _)
  ·rw[Av.mp z];refine s7.ext ⟨[.lst [.loc (S6.length+1)],.lst (ls1.map D.loc++[.loc (S6.length+1)])],by simp⟩
theorem Jgd{f:D->D->Option Bool}:∀{xs:List D},(∀x∈xs,f x x=some true)->eqL f xs xs=some true
 |[],_=>rfl
 |a::r,h=>by simp only[eqL,h a (by simp),Jgd λx hx=>h x (Ax _ hx),O2]
def eq_int:eqD S (k+1) (.int x) (.int x)=some true:=by simp[eqD,V0,eqV]
def Jzt(x:Rw):eqD S (k+1+1) (rD x) (rD x)=some true:=by
 cases x<;>simp[rD,eqD,eqL,V0,eqV]
def Jzu:eqD S Deep (kpD k) (kpD k)=some true:=by
 rw[show Deep=8+1+1+1+1 from rfl];have h1:eqL (eqD S (8+1+1)) (k.lk.map rD) (k.lk.map rD)=some true:=Jgd λx hx=>by
  obtain⟨y,_,rfl⟩:=Bd.mp hx;exact Jzt (k:=8) y
 have h2:eqD S (8+1+1+1) (.tup (k.lk.map rD)) (.tup (k.lk.map rD))=some true:=by
  rw[eqD,if_pos rfl];exact h1
 unfold kpD;rw[eqD,if_pos rfl];simp only[eqL,eq_int,h2,O2]
def Jtm(g:Gc c)(h1:S[x]? =some (csO c))(h2:S[y]? =some (csO c)):cop .ne (.loc x) (.loc y) S=some false:=by
 have:Xt S (.loc x) (.loc y)=some false:=by
  simp only[Xt,dtAt,h1,h2];rw[if_pos];refine⟨trivial,?_⟩;rw[Dl];intro p hp;obtain⟨z,hz,rfl⟩:=Bd.mp hp;simp only[Jbd,Jiy g.nd hz,Eu,Jzu];rfl
 simp only[cop,this]
structure Lw(S:Store)(p L u q uc qc rl:Nat)(ls:List Nat)(kv:Kv)(mx:Nat)(c:Cs)(dn:List Int)(m:Int):Prop where
 p:S[p]? =some (.lst (ls.map D.loc))
 st:∀l∈ls,Stm S l
 r:S[rl]? =some (.rg kv)
 g:Wr kv mx
 mn:Mn kv c dn m
 h:Hd S L u q c dn
 u:S[uc]? =some (csO c)
 q:S[qc]? =some (dnO dn)
section
variable {p uc qc:Nat} {ls:List Nat} {kv:Kv}
def Lw.ext(w:Lw S p L u q uc qc rl ls kv mx c dn m)(x:Ext S S'):Lw S' p L u q uc qc rl ls kv mx c dn m:=⟨x.get w.p,λl hl=>(w.st l hl).ext x,x.get w.r,w.g,w.mn,w.h.ext x,x.get w.u,x.get w.q⟩
theorem Sr.get{kv':Kv}{x:Nat}{o:Mi.Obj}(a:Sr S l rl kv mx S' kv')(hs:Stm S l)(hr:S[rl]? =some (.rg kv))(hx:S[x]? =some o)(h1:∀a e s,o≠ .lst [.int a,.bl e,.int s])(h2:∀k,o≠ .rg k):S'[x]? =some o:=by
 refine a.k.get hx ?_;intro z;rcases An.mp z with rfl|z
 ·obtain⟨y,e,s,h⟩:=hs;rw[h]at hx;cases hx;exact h1 _ _ _ rfl
 ·rw[Av.mp z,hr]at hx;cases hx;exact h2 _ rfl
def Lw.sr{kv':Kv}{my:Nat}(w:Lw S p L u q uc qc rl ls kv mx c dn m)(hl:l∈ls)(a:Sr S l rl kv my S' kv'):Lw S' p L u q uc qc rl ls kv' my c dn m:=by
 have hs:=w.st l hl;refine⟨a.get hs w.r w.p ?_ nofun,λl' hl'=>?_,a.r,a.g,w.mn.ring a.m,⟨a.get hs w.r w.h.l nofun nofun,a.get hs w.r w.h.u nofun nofun,a.get hs w.r w.h.q nofun nofun⟩,a.get hs w.r w.u nofun nofun,a.get hs w.r w.q nofun nofun⟩
 ·intro a e s z;cases ls<;>simp at z
 ·by_cases e:l'=l
  ·rw[e];exact a.s
  ·refine(w.st l' hl').get (p:=0) a.k ?_;simp;exact⟨e,(w.st l' hl').ne_rg w.r⟩
end
abbrev eL(sc:D)(p:Nat)(r:Rl)(h:Int)(L uc qc rl:Nat)(a8 a9 a10 a11 a12 a13 a14 a15:Option D):En:=[some sc,some (.loc p),some (rlD r),some (.int h),some (.loc L),some (.loc uc),some (.loc qc),some (.loc rl),a8,a9,a10,a11,a12,a13,a14,a15]
inductive ILaw (sc:D) (p L u q rl:Nat) (ls:List Nat) (r:Rl) (i:Nat) (Z:En) (S':Store):Prop
 |mk (h:Int) (uc qc:Nat) (kv:Kv) (c:Cs) (dn:List Int) (a8 a9 a10 a11 a12 a13 a14 a15:Option D) (_:Z=eL sc p r h L uc qc rl a8 a9 a10 a11 a12 a13 a14 a15) (_:0<=h) (_:Lw S' p L u q uc qc rl ls kv (45*i) c dn (20*i+1)):ILaw sc p L u q rl ls r i Z S'
def Jk1(w:Lw S p L u q uc qc rl ls kv mx c dn m)(hm:mx<=45*(i+1))(hm2:m<=20*(i+1:Nat)+1)(gb:BkOk b.ds)(hh:1<=h):
  Sat (evB (Cn T G W (n+9)) tlL (eL sc p r h L uc qc rl a8 a9 (some (bkD b)) a11 a12 a13 a14 a15) S) (FlP (ILaw sc p L u q rl ls r (i+1)) noR):=by
 have e1:=held (W:=W) (n:=n+8) w.h w.mn.gc w.mn.upB;have w1:=w.ext (.new S [csO c]);have e2:=Jtm w1.mn.gc (Jad (S:=S) (o:=csO c)) w1.u;simp[tlL,e1,w.h.rc (m:="held")];generalize S++[csO c]=S1 at e2 w1;have e3:=total (W:=W) (n:=n+8) w1.h w1.mn.gc;have w2:=w1.ext (.new S1 [pl (c.map (·.2.w))]);simp[e2,e3,w1.h.rc (m:="total")];generalize S1++[pl (c.map (·.2.w))]=S2 at w2;have e4:=Jvh (C:=Cn T G W (n+9)) (b:=false) (keep:=[5]) (el:=.idx (.idx (.var 1) (.var 0)) (.cst (.int 0))) (Z:=eL sc p r h L uc qc rl a8 a9 (some (bkD b)) a11 a12 a13 a14 a15) w2.u w2.mn.gc λp hp=>by
  obtain⟨z,hz,rfl⟩:=Bd.mp hp;have e5:dVal (cp c) z.1=some (kpD z.2):=by rw[Jbd,Jiy w2.mn.gc.nd hz];rfl
  simp[Jak,Vl,dwI,hdD,Jtt (B5 (Jax w2.u)) e5,kpD]
 have w3:=w2.ext (.new S2 [pl (c.map (·.2.w))]);simp[e4,Jdx];generalize S2++[pl (c.map (·.2.w))]=S3 at w3;have hbl:=gb.l;rw[Ja7 (xs:=b.ds) ddD (λ_=>.bl true) (by lia) (.inl rfl) (λx _=>by
  have e9:=did (W:=W) (n:=n+8) (x:=x.n) w3.h;simp[Jak,Vl,w3.h.rc (m:="did"),e9,Jjr w3.q])]
 simp only[Res.bind_ok,V9,Wb,Vu,Wah];rw[Jhb (λ_=>true)];simp;have w4:=w3.ext (.new S3 [.lst (b.ds.map λ_=>.bl true)]);exact⟨h,uc,qc,kv,c,dn,_,_,_,_,_,_,_,_,rfl,by lia,⟨w4.p,w4.st,w4.r,⟨Bl w4.g.l hm,w4.g.k⟩,w4.mn.mono hm2,w4.h,w4.u,w4.q⟩⟩
def Jzn(h1:inW c d h k=some x):x∈["gone","green","shut"]:=by
 unfold inW at h1;split at h1
 ·cases h1;simp
 ·split at h1
  ·cases h1;simp
  ·split at h1<;>cases h1;simp
def Jri(h1:Vw c dn d h=some x):Ac x∈wds:=by
 unfold Vw at h1;split at h1
 ·cases h1;simp[wds]
 split at h1
 ·cases h1;simp[wds]
 split at h1
 ·rename_i y hy;cases h1;obtain⟨k,_,e⟩:=List.exists_of_findSome?_eq_some hy;have:=Jzn e;simp at this;rcases this with rfl|rfl|rfl<;>simp[wds]
 ·split at h1<;>cases h1;simp[wds]
theorem Jxn{x:Nat×String}:∀{ds:List Dd} {k:Nat} {c:Cs} {dn:List Int} {f:Int},(goP h w k c dn f ds).1=some x->x.1<k+ds.length/\Ac x.2∈wds
 |[],_,_,_,_,e=>by cases e
 |d::ds,k,c,dn,f,e=>by
  rw[goP]at e;split at e
  ·rename_i y hy;cases e;exact⟨by simp,Jri hy⟩
  ·obtain⟨h1,h2⟩:=Jxn e;exact⟨by simp;lia,h2⟩
def Jyd(gb:BkOk b.ds)(e:bfP r h c dn b.ds=some x):okW (bwD (some x))=true:=by
 have:x.1<20/\Ac x.2∈wds:=by
  unfold bfP at e;have:=gb.l;split at e
  ·rename_i y hy;cases e;obtain⟨h1,h2⟩:=Jxn hy;exact⟨by lia,h2⟩
  ·split at e<;>cases e;exact⟨by simp,by simp[wds]⟩
 simp only[bwD,okW,Ai,Hg,beq_iff_eq];exact⟨⟨x.1,by simpa using this.1,rfl⟩,by simpa using this.2⟩
def Jnb(a:Hd S L u q c dn)(g:Gc c)(gd:Gd dn)(gr:RlOk r)(gb:BkOk b.ds)(hh:1<=h):∃S',callN T G W (n+9) "do_block?" [.loc L,bkD b,.int h,rlD r] S=.ok (bwD (bfP r h c dn b.ds)) S'/\Ext S S':=by
 obtain⟨S1,e1,x1⟩:=block_fault (W:=W) (n:=n) a g gd gr gb hh;rw[Jaa Jfd rfl];exact⟨S1,by simp[Jb2,e1],x1⟩
theorem War{C:Pr}{f g cl:String}{n j:Nat}{ts:List (String×Bool)}{as:M}{Z:En}:evS C (.tri f g cl n j ts as) Z S=(evA C as Z S).bind λds S1=>(C.call g ds S1).bind λd S2=>match d with
  |.non=>(C.call f ds S1).bind λ_ S3=>.ok (.nx Z) S3
  |d=>if okW d&&decide (n<Z.length)&&decide (j<Z.length)&&n !=j&&decide (ts.length<Line)then .ok (.nx ((Z.set n none).set j (some (.loc S2.length)))) (S2++[.lst (ts.map λt=>.bl t.2)])else .bad:=rfl
noncomputable abbrev Wae:M:=.tri "do_block" "do_block?" "CoinError" 5 4 [("BadBlock",true),("NoFit",false),("NoBlock",false),("ValueError",true)] (.cns (.var 0) (.cns (.var 1) (.cns (.var 2) (.cns (.var 3) .nul))))
def Jg9{x:Nat×String}(a:Hd S L u q c dn)(g:Gc c)(gd:Gd dn)(gr:RlOk r)(gb:BkOk b.ds)(hh:1<=h)(hf:bfP r h c dn b.ds=some x):
  ∃y S',callN T G W (n+10) "_law_refused" [.loc L,bkD b,.int h,rlD r] S=.ok (.loc y) S'/\Ext S S'/\S'[y]? =some (.lst [.bl true,.bl false,.bl false,.bl true]):=by
 obtain⟨S1,e1,x1⟩:=Jnb (W:=W) (n:=n) (a.ext (.new S [.lst []])) g gd gr gb hh;rw[hf]at e1;have ok:=Jyd gb hf;have et:evS (Cn T G W (n+9)) Wae [some (.loc L),some (bkD b),some (.int h),some (rlD r),some (.loc S.length),none] (S++[.lst []])=.ok (.nx [some (.loc L),some (bkD b),some (.int h),some (rlD r),some (.loc S1.length),none]) (S1++[.lst [.bl true,.bl false,.bl false,.bl true]]):=by
  rw[War];refine Res.bnd (a:=[D.loc L,bkD b,.int h,rlD r]) (S:=S++[Mi.Obj.lst []]) rfl (Res.bnd e1 ?_);obtain⟨j,w⟩:=x;simp only[bwD]at ok ⊢;rw[ok];rfl
 rw[Jaa Jb5 rfl];refine⟨S1.length,_,?_,((Ext.new S [.lst []]).trans x1).trans (.new S1 [.lst [.bl true,.bl false,.bl false,.bl true]]),Jad⟩;simp[Jbc,et]
def Jha(a:Hd S L u q c dn)(g:Gc c)(gd:Gd dn)(gr:RlOk r)(gb:BkOk b.ds)(hh:1<=h)(hf:bfP r h c dn b.ds=none):
  ∃y S',callN T G W (n+10) "_law_refused" [.loc L,bkD b,.int h,rlD r] S=.ok (.loc y) S'/\S'[y]? =some (.lst [])/\Keep [u,q] S S'/\Hd S' L u q (goP h r.c 0 c dn 0 b.ds).2.1 (goP h r.c 0 c dn 0 b.ds).2.2.1:=by
 have a0:=a.ext (.new S [.lst []]);obtain⟨S1,e1,x1⟩:=Jnb (W:=W) (n:=n) a0 g gd gr gb hh;rw[hf]at e1;obtain⟨v,S7,e8,_,k7,hd7,gc7,gd7⟩:=do_block (W:=W) (n:=n) a0 g gd gr gb hh hf;have et:evS (Cn T G W (n+9)) Wae [some (.loc L),some (bkD b),some (.int h),some (rlD r),some (.loc S.length),none] (S++[.lst []])=.ok (.nx [some (.loc L),some (bkD b),some (.int h),some (rlD r),some (.loc S.length),none]) S7:=by
  rw[War];exact Res.bnd (a:=[D.loc L,bkD b,.int h,rlD r]) (S:=S++[Mi.Obj.lst []]) rfl (Res.bnd e1 (Res.bnd e8 rfl))
 rw[Jaa Jb5 rfl];have lu:=Jax a.u;have lq:=Jax a.q;refine⟨S.length,S7,by simp[Jbc,et],k7.get Jad (by simp;lia),(Keep.new _).trans k7,hd7⟩
def Jwv{bs:List Bool}(h1:S[x]? =some (.lst (bs.map D.bl)))(h2:S[y]? =some (.lst (bs.map D.bl))):cop .ne (.loc x) (.loc y) S=some false:=by
 have e:eqL (eqD S 11) (bs.map D.bl) (bs.map D.bl)=some true:=Jgd λz hz=>by
  obtain⟨b,_,rfl⟩:=Bd.mp hz;simp[eqD,V0,eqV]
 have e2:eqD S Deep (.loc x) (.loc y)=some true:=by
  rw[show Deep=11+1 from rfl,eqD];simp only[seqAt,h1,h2,if_true,e]
 have e3:Xt S (.loc x) (.loc y)=none:=by simp only[Xt,dtAt,h1]
 simp only[cop,e3,e2,Eu,Dg]
noncomputable abbrev li(S:Store):Store:=S++[Obj.lst [.bl true,.bl false,.bl false,.bl true],.lst [],.lst [.loc S.length,.loc (S.length+1)]]
def Jox(e:([Obj.lst [.bl true,.bl false,.bl false,.bl true],.lst [],.lst [.loc S.length,.loc (S.length+1)]]:Store)[k]? =some o):(li S)[S.length+k]? =some o:=by rw[li,Jdw];exact e
theorem li0:Jao (.loc (S.length+2)) (.int 0) (li S)=.ok (.loc S.length) (li S):=Jaq (Jox rfl) rfl
theorem li1:Jao (.loc (S.length+2)) (.int 1) (li S)=.ok (.loc (S.length+1)) (li S):=Jaq (Jox rfl) rfl
theorem Joy(hI:ILaw sc p L u q rl ls r i Z S)(hl:l∈ls)(hi:i<=16)(gr:RlOk r):
  Sat (W3 (Cn T G W (n+1+9)) (.ttup (.cns (.tvar 8) (.cns (.tvar 9) .nul))) Z0 (.tup [.int i,.loc l]) Z S) (FlP (ILaw sc p L u q rl ls r (i+1)) noR):=by
 obtain⟨h,uc,qc,kv,c,dn,a8,a9,a10,a11,a12,a13,a14,a15,rfl,hh,w⟩:=hI;obtain⟨_,S1,e1,h1,rfl,hh1,k1,s1⟩:=Jor (W:=W) (n:=n+1+7) (r:=r) (w.st l hl) hh;have w1:=w.sr hl ((Sr.refl (w.st l hl) w.r w.g).take k1 s1);have em:bop .mul (.int 20) (.int i) S1=.ok (.int (20*i)) S1:=Jhy rfl;obtain⟨_,S2,e2,b,kv2,rfl,a2,gb,hnum,hhs⟩:=Jnc (W:=W) (n:=n+1+2) (h:=h1) (r:=r) (first:=20*(i:Int)+1) s1 w1.r w1.g (by lia) w1.u w1.q w1.mn (by lia) gr hh1;have w2:=w1.sr hl a2;obtain⟨f,S3,e3,x3,hacc⟩:=Jmw (W:=W) (n:=n+1+3) (h:=h1) (b:=b) w2.u w2.q w2.mn.gc w2.mn.gd gr gb hh1;have w3:=w2.ext x3;rw[Jat];simp[Z0,e1,em,e2,e3,-bwD];cases hb:bfP r h1 c dn b.ds with
 |some x=>
  obtain⟨y,S4,e8,x4,hy⟩:=Jg9 (W:=W) (n:=n) w3.h w3.mn.gc w3.mn.gd gr gb hh1 hb;rw[show n+10=n+1+9 from rfl]at e8;have w4:Lw (li S4) p L u q uc qc rl ls kv2 _ c dn _:=(w3.ext x4).ext (.new S4 _);have ne:cop .ne (.loc y) (.loc S4.length) (li S4)=some false:=Jwv (bs:=[true,false,false,true]) ((Ext.new S4 _).get hy) (Jox (S:=S4) (k:=0) rfl);obtain⟨x1,x2⟩:=x;simp[e8,Line,li0,ne];exact Jk1 (W:=W) (n:=n+1) w4 (by lia) (by lia) gb hh1
 |none=>
  obtain⟨y,S7,e8,hy,k7,hd7⟩:=Jha (W:=W) (n:=n) w3.h w3.mn.gc w3.mn.gd gr gb hh1 hb;rw[show n+10=n+1+9 from rfl]at e8;obtain⟨hu3,hq3⟩:=hacc hb;have lu:=Jax w2.h.u;have lq:=Jax w2.h.q;have kp:∀{x:Nat} {o:Mi.Obj},S3[x]? =some o->(∀z,o≠ .dtu z)->(∀z,o≠ .dct z)->S7[x]? =some o:=λ{x o} hx h1 h2=>by
   refine k7.get hx ?_;intro z;rcases An.mp z with rfl|z
   ·rw[w3.h.u]at hx;cases hx;exact h1 _ rfl
   ·rw[Av.mp z,w3.h.q]at hx;cases hx;exact h2 _ rfl
  have hz1:(goP h1 r.c 0 c dn 0 b.ds).1=none:=by
   unfold bfP at hb;split at hb
   ·cases hb
   ·assumption
  have mn7:=Jq3 gb hnum hhs hz1 b.ds.length 0 c dn 0 (by lia) (by simpa using w2.mn) (λx hx=>hx) (λj d' hj=>by lia) rfl;have hbl:=gb.l;have w7:Lw S7 p L u q S2.length (S2.length+1) rl ls kv2 (45*i+45) (goP h1 r.c 0 c dn 0 b.ds).2.1 (goP h1 r.c 0 c dn 0 b.ds).2.2.1 (20*(i:Int)+1+b.ds.length):=
   ⟨kp w3.p nofun nofun,λl' hl'=>by obtain⟨a,e,s,hs⟩:=w3.st l' hl';exact⟨a,e,s,kp hs nofun nofun⟩,kp w3.r nofun nofun,w3.g,mn7,hd7,k7.get hu3 (by simp;lia),k7.get hq3 (by simp;lia)⟩
  have ne:cop .ne (.loc y) (.loc (S7.length+1)) (li S7)=some false:=Jwv (bs:=[]) ((Ext.new S7 _).get hy) (Jox (S:=S7) (k:=1) rfl);simp[e8,Line,li1,ne];exact Jk1 (W:=W) (n:=n+1) (w7.ext (.new S7 _)) (by lia) (by lia) gb hh1
def PT(d:D)(S:Store):Prop:=d=.bl true
theorem Jw2{ns:List Int}(hn:ns.length<=63):Sat (callN T G W (n+1+10) "law" [.kl (ns.map D.int)] []) PT:=by
 rw[Jaa Juw rfl];obtain⟨_,S1,e1,p,ls,r,h0,rfl,hp,hll,hst,gr,hh0⟩:=Jne (W:=W) (n:=n+1+5) (S:=[]) hn;have e2:=init (W:=W) (n:=n+1+8) (S:=S1);simp[Jt4,e1,e2];generalize hS2:S1++[Obj.ins "Hoard" [("unspent",.loc (S1.length+1)),("done",.loc (S1.length+2))],.dtu [],.dct [],.dtu [],.dct [],.rg []]=S2;have x2:Ext S1 S2:=⟨_,hS2.symm⟩
 have g:∀(k:Nat) (o:Mi.Obj),([Obj.ins "Hoard" [("unspent",.loc (S1.length+1)),("done",.loc (S1.length+2))],.dtu [],.dct [],.dtu [],.dct [],.rg []]:List Mi.Obj)[k]? =some o->S2[S1.length+k]? =some o:=λk o e=>by rw[<-hS2,Jdw];exact e
 have w0:Lw S2 p S1.length (S1.length+1) (S1.length+2) (S1.length+3) (S1.length+4) (S1.length+5) ls [] 0 [] [] 1:=by
  refine⟨x2.get hp,λl hl=>(hst l hl).ext x2,g 5 _ rfl,⟨by simp,by simp⟩,⟨⟨by simp,by simp⟩,⟨by simp,by simp⟩,by simp,by simp,by simp,by simp⟩,⟨g 0 _ rfl,g 1 _ rfl,g 2 _ rfl⟩,g 3 _ rfl,g 4 _ rfl⟩
 clear hS2 g;have e3:=Jmb w0.p;generalize(D.kl (ns.map D.int))=sc;simp[e3];refine Sat.p2 (Wa2 (ILaw sc p S1.length (S1.length+1) (S1.length+2) (S1.length+5) ls r) noR ⟨h0,_,_,[],[],[],_,_,_,_,_,_,_,_,rfl,hh0,w0⟩ (λi Z S h=>by obtain⟨_,_,_,_,_,_,_,_,_,_,_,_,_,_,_,_,w⟩:=h;exact w.p) ?_) ?_
 ·intro i d Z S3 hd hI;rw[Ap]at hd;obtain⟨l,hl,rfl⟩:=Al.mp hd;have:=(Ae.mp hl).1;exact Joy (W:=W) (n:=n) hI (Ba hl) (by lia) gr
 ·intro fl S3 hF;obtain⟨Z,rfl,h,uc,qc,kv,c,dn,a8,a9,a10,a11,a12,a13,a14,a15,rfl,hh,w⟩:=hF.nx;simp;rfl
end
def run(ns:List Int)(hn:ns.length<=63):∃S',callN T G 100 30 "law" [.kl (ns.map D.int)] []=.ok (.bl true) S':=by
 obtain⟨_,S',e,rfl⟩:=Jw2 (W:=100) (n:=19) hn;exact⟨S',e⟩
noncomputable def top(i:Nat):Stmt:=PySem.Challenge.pw_spentonce_k26_bad_block_leaves_all.main.body.getD i (.Pass ⟨0,0,0,0⟩)
noncomputable def B:List String:=["len","range","sum","max","min","enumerate","abs","set","tuple","int","sorted","dict","list","isinstance","all","zip"]
noncomputable def FL:List (String×Nat):=[("is_maker",7),("made_by",8),("worth_of",9),("gift",11),("block_fault",12),("do_block",13),("free_from",14),("worth_of_makers",15),("opens",21),("is_done",22),("lay",23),("turn",24),("do_row",25),("has_enough",26),("take",27),("laid_by",28),("paid_at",29),("outcome",30),("spent_by",37),("has_twice",38),("facts_of",39),("_law_mixed",41),("_law_stream",42),("_law_take",43),("_law_streams",44),("_law_lock",45),("_law_outs",46),("_law_in",47),("_law_deed",48),("_law_word",49),("_law_put",50),("_law_gift",51),("_law_done",52),("_law_block",53),("_law_rules",54),("_law_begin",55),("_law_next",56),("_law_refused",57),("law",58)]
def F:List String:=FL.map (·.1)
noncomputable def O:Ow:=⟨[("Hoard","__init__","Hoard.__init__"),("Hoard","copied","Hoard.copied"),("Hoard","held","Hoard.held"),("Hoard","total","Hoard.total"),("Hoard","did","Hoard.did"),("Hoard","fault","Hoard.fault"),("Hoard","fault_of_in","Hoard.fault_of_in"),("Hoard","fee","Hoard.fee"),("Hoard","worth_spent","Hoard.worth_spent"),("Hoard","do","Hoard.do")],[("Hoard","unspent"),("Hoard","done")],[("Hoard","Hoard.__init__")],[("do_block","do_block?","CoinError",[("BadBlock",true),("NoFit",false),("NoBlock",false),("ValueError",true)])]⟩
noncomputable def Wbg:Stmt->List Stmt
 |.ClassDef _ _ _ b _ _ _ _ _ _ _=>b
 |_=>[]
def Waf(j:Nat):Stmt:=(Wbg (top 36)).getD j (.Pass ⟨0,0,0,0⟩)
def Fk(f:Fn)(s:Stmt):Prop:=(defScope s).kind=.function/\(defScope s).isCoroutine=false/\(defScope s).isGenerator=false/\(nN f s).Nodup/\(nN f s).take (f.ps.map Ac).length=f.ps.map Ac/\(∀x∈f.ps.map Ac,(defScope s).names.lookup x=some .local\/(defScope s).names.lookup x=some .cell)/\(∀y∈(defScope s).names,y.2≠ .free)/\Wn f.body ⟨nN f s,(defScope s).names,true,B,F,O⟩ (Vk s)=true
def Fk.sc{f:Fn}(k:Fk f s):FnScope (nN f s) (f.ps.map Ac) (defScope s):=⟨k.1,k.2.1,k.2.2.1,k.2.2.2.1,k.2.2.2.2.1,k.2.2.2.2.2.1,k.2.2.2.2.2.2.1⟩
def Fk.ck{f:Fn}(k:Fk f s):Wn f.body ⟨nN f s,(defScope s).names,true,B,F,O⟩ (Vk s)=true:=k.2.2.2.2.2.2.2
open PySem L2 Mi PySem.W
def q:Program:={PySem.Challenge.pw_spentonce_k26_bad_block_leaves_all with main:={PySem.Challenge.pw_spentonce_k26_bad_block_leaves_all.main with body:=[0,2,3,4,5,7,8,9,11,12,13,14,15,17,18,19,20,21,22,23,24,25,26,27,28,29,30,32,33,34,35,36,37,38,39,41,42,43,44,45,46,47,48,49,50,51,52,53,54,55,56,57,58].map top}}
noncomputable abbrev kE(P:Hj)(x:Str)(t:Nat)(v:Value):Cg:=⟨PyData.keyHash P x,.str x t,v⟩
noncomputable abbrev yT(xs:List Value):D9:=⟨.type "tuple",none,.seq ⟨xs⟩ 0,#[]⟩
noncomputable abbrev yF(c:Int)(xs:List (Nat×Nat)):D9:=⟨.none,none,.fields ⟨xs.flatMap λp=>[.int p.1 0,.int c 0,.ref p.2]⟩,#[]⟩
noncomputable abbrev yD(xs:List Cg)(n:Nat):D9:=⟨.type "dict",none,.dict ⟨xs⟩ n,#[]⟩
noncomputable abbrev yA(c:String)(vs:List Value):D9:=⟨.type c,none,.fields ⟨vs⟩,#[]⟩
noncomputable abbrev cut:Str:="/claim/cut.py"
abbrev yC(n q:Str)(t l x u a:Nat)(f:Bool)(y:Nat)(vs:List Value):D9:=yA "code" ([.str n t,.str q (t+1),.str cut (t+2),.int l 0,.int x 0,.int 0 0,.int 0 0,.int u 0,.ref a,.bool f,.int 181 0,.ref (a+1),.none]++vs++[.int (t+3+y) 0,.int l 0,.str cut (t+4+y)])
structure Sm where
 m:Str
 k:Nat
 a:Nat
 t:Nat
 o:List D9
 e:List Cg
 c:List (Nat×Nat)
def dv(s:Stmt):Option (List Str):=(localNames (Vr s) (defScope s) (.stmts (Vk s))).map (·.1)
def dW(cl:Str)(n:Str)(s:Stmt)(p:Pos)(P:Hj)(z:Sm):Sm:=
 let v:=dv s
 let y:=(v.getD []).length
 let w:=z.a+(match v with|some _=>4|none=>2)
 let f (g:Nat) (m c:Value):Data:=.func ⟨n,cl++n,Vr s,.stmts (Vk s),defScope s,g,[],.none,.none,.none,m,none,c,.none,0⟩
 {z with
  a:=w+3
  t:=z.t+6+y
  o:=z.o++yT []::yF 0 []::(match v with|some v=>[yT ((v.zipIdx (z.t+3)).map λx=>.str x.1 x.2),yT []]|none=>[])++[⟨.none,none,f 0 .none .none,#[]⟩,
   yC n (cl++n) z.t p.line (Vr s).args.length 3 z.a true y ((match v with|some _=>[.ref (z.a+2),.ref (z.a+3)]|none=>[.none,.none])++[.ref w]),⟨.type "function",none,f 3 (.str z.m z.k) (.ref (w+1)),#[]⟩]
  e:=z.e++[kE P n (z.t+5+y) (.ref (w+2))]
  c:=z.c++[(p.line,w+1)]}
def cW(n:Str)(l:Nat)(bt bs mr sub:List Value)(nw:String)(xs:List (Str×List Value))(ms:List Stmt)(sa:List Str)(P:Hj)(z:Sm):Sm:=
 let a:=z.a
 let t:=z.t
 let i:=ms.foldl (λz s=>(match s with|.FunctionDef m _ _ _ _ _ _ _ _ p=>dW (n++".") m s p P z|_=>z)) {z with a:=a+7,t:=t+12,o:=[],e:=[],c:=[]}
 let b:=i.a
 let u:=i.t+sa.length+1
 let d:=u+2*xs.length
 let g:=[.ref (b+2)]
 let M:=kE P "__module__" (t+7) (.str z.m z.k)
 let F:=kE P "__firstlineno__" (t+11) (.int l (t+10))::i.e++[kE P "__static_attributes__" (u-1) (.ref b)]
 {z with
  a:=b+5+xs.length
  t:=d+3
  o:=z.o++yT bt::yA "builtin_function_or_method" [.builtin "type.__prepare__",.type "type"]::yD (M::kE P "__qualname__" (t+9) (.str n (t+8))::F) (F.length+2)::yT []::yF 4 i.c::yC n n (t+2) l 0 0 (a+3) false 0 [.none,.none,.none]::
   ⟨.type "frame",none,.plain,#[some (.ref (a+5)),some (.ref 3),some (.ref (a+2)),none,some (.str z.m z.k),none,some (.ref 0)]⟩::i.o++yT ((sa.zipIdx i.t).map λx=>.str x.1 x.2)::
   yD (M::F++((xs.zipIdx.map λx=>kE P x.1.1 (u+2*x.2+1) (.ref (b+3+x.2)))++[kE P "__doc__" d .none])) (2+xs.length)::
   ⟨.type "type",none,.cls ⟨n,bs,g++mr,b+1,n,true,[],sub,false,none,false⟩,#[match bt with|[]=>none|_=>some (.ref a),none,some (.str n t),some (.str n (t+8)),some (.builtin nw),some (.bool true)]⟩::
   (xs.zipIdx.map λx=>yA "getset_descriptor" (.str x.1.1 (u+2*x.2)::g++x.1.2))++[yA "super" (g++g++g),yA "builtin_function_or_method" (.builtin "object.__init_subclass__"::g)]
  e:=z.e++[kE P n (d+2) (.ref (b+2))]
  c:=z.c++[(l,a+5)]}
noncomputable def vw:Str×List Value:=("__weakref__",[.builtin "ExceptionGroup.__weakref__",.none])
def sW(P:Hj)(z:Sm)(s:Stmt):Sm:=match s with
 |.FunctionDef n _ _ _ _ _ _ _ _ p=>dW "" n s p P z
 |.Assign [.Name x _] (.Constant (.int i) _ _) _=>{z with e:=z.e++[kE P x (z.t+1) (.int i z.t)],t:=z.t+2}
 |.Assign _ (.Constant (.str v) _ _) _=>{z with m:=v,k:=z.t,t:=z.t+2}
 |.Assign [.Name x _] (.Tuple es _ _) _=>{z with a:=z.a+1,t:=z.t+es.length+1,o:=z.o++[yT ((es.zipIdx z.t).map λe=>match e.1 with|.Constant (.str v) _ _=>.str v e.2|_=>.none)],e:=z.e++[kE P x (z.t+es.length) (.ref z.a)]}
 |.Assign [.Name x _] (.Dict ks vs _) _=>{z with a:=z.a+1,t:=z.t+3*ks.length+1,o:=z.o++[yD (((ks.zip vs).zipIdx).map λe=>match e.1 with|(some (.Constant (.str v) _ _),.Constant (.int i) _ _)=>kE P v (z.t+2*e.2) (.int i (z.t+2*e.2+1))|_=>kE P "" 0 .none) ks.length],e:=z.e++[kE P x (z.t+3*ks.length) (.ref z.a)]}
 |.ClassDef n bs _ b _ _ _ _ _ sa p=>(let T:=[.type "ValueError",.type "Exception",.type "BaseException",.type "object"]
  match bs with
  |[]=>cW n p.line [] [.type "object"] [.type "object"] [] "object.__new__" [("__dict__",[.builtin "function.__dict__",.builtin "function.__dict__#set"]),vw] b sa P z
  |.Name "ValueError" _::_=>cW n p.line [.type "ValueError"] [.type "ValueError"] T [.ref 44,.ref 56,.ref 68] "ValueError.__new__" [vw] [] [] P z
  |_=>cW n p.line [.ref 31] [.ref 31] (.ref 31::T) [] "ValueError.__new__" [] [] [] P z)
 |_=>z
def hp(P:Hj)(z:Sm):PySem.Heap:=⟨⟨boot_o_0 P::boot_o_1 P::boot_o_2 P::yD (kE P "__name__" 165 (.str z.m z.k)::z.e) (z.e.length+1)::boot_o_4 P::boot_o_5 P::boot_o_6 P::boot_o_7 P::boot_o_8 P::boot_o_9 P::boot_o_10 P::yT []::yF 0 z.c::yC "<module>" "<module>" 182 1 0 0 11 false 0 [.none,.none,.none]::
 ⟨.type "frame",none,.plain,#[some (.ref 13),some (.ref 3),some (.ref 3),none,some (.str "__main__" 164),none,some (.ref 0)]⟩::z.o⟩,(boot_heap P).life⟩
noncomputable abbrev bd:List Stmt:=behindTheImports PySem.Challenge.pw_spentonce_k26_bad_block_leaves_all
def zs(P:Hj)(n:Nat):Sm:=(bd.take n).foldl (sW P) ⟨"__main__",164,15,187,[],[kE P "__doc__" 166 .none,kE P "__package__" 167 .none,kE P "__loader__" 168 (.builtin "__main__.__loader__#opaque"),kE P "__spec__" 169 .none,kE P "__annotations__" 170 (.ref 6),kE P "__builtins__" 171 (.ref 4),kE P "__file__" 173 (.str cut 172),kE P "__cached__" 174 .none],[]⟩
def hF(P:Hj):PySem.Heap:=hp P (zs P 59)
noncomputable def as:List Addr:=[2,3,15,17,18,20,21,22,29,30,31,32,35,42,43,44,47,54,55,56,59,66,67,68,71,73,74,76,77,78,81,82,83,86,87,88,90,91,93,94,95,97,98,100,101,102,105,106,107,109,110,112,113,114,117,118,119,120,121,123,124,126,127,128,130,131,133,134,135,137,138,140,141,142,144,145,147,148,149,151,152,154,155,156,158,159,161,162,163,165,166,168,169,170,172,173,175,176,177,179,180,182,183,184,186,187,189,190,198,200,201,203,204,205,207,208,210,211,212,214,215,217,218,219,222,223,224,226,227,229,230,231,233,234,236,237,238,240,241,243,244,245,247,248,250,251,252,255,256,257,260,261,262,264,265,267,268,269,270,271,272,273,276,279,280,281,283,284,286,287,288,291,292,293,295,296,298,299,300,302,303,305,306,307,309,310,312,313,314,317,318,319,321,322,324,325,326,328,329,331,332,333,335,336,338,339,340,343,344,345,348,349,350,353,354,355,357,358,360,361,362,365,366,367,370,371,372,374,375,377,378,379,381,382,384,385,386,388,389,391,392,393,395,396,398,399,400,403,404]
def K(P:Hj):Af:=as.map λa=>(a,(hF P).objs.getD a (yT []))
noncomputable def loose:List Str:=["TAKEN"]
def asK:∀P,as=(K P).map (·.1):=λ_=>by kernel_rfl
def said:PySem.Challenge.rw_spentonce_k26_bad_block_leaves_all.wellSaid=true:=by kernel_rfl
noncomputable def env:Env:={scope:=PySem.Challenge.pw_spentonce_k26_bad_block_leaves_all.main.scope,locals:=mainNs,globals:=mainNs,cells:=[],code:=.ref 13,frame:=some 14}
abbrev cd:Code:=.body bd env
abbrev sh(w:World)(i:Nat)(os:OsState):Shared:=⟨hp w.params (zs w.params i),⟨[]⟩,⟨0,0,0,0⟩,(zs w.params i).t,os⟩
noncomputable abbrev an:Option Value:=some (.ref 6)
def Jy0(w:World):(λos=>topGo L8 PySem.Challenge.pw_spentonce_k26_bad_block_leaves_all w (nat_lit 11) an (nat_lit 12) ⟨boot_heap w.params,⟨[]⟩,boot_drawn,boot_toks,os⟩ (topStub PySem.Challenge.pw_spentonce_k26_bad_block_leaves_all))=λos=>some (sh w 0 os,(⟨denote L8 cd,cd,⟨0,0,0,0⟩,[topFrame ⟨0,0,0,0⟩]⟩:Thread)):=by kernel_rfl
def Jso(w:World):(λos=>segRun L8 PySem.Challenge.pw_spentonce_k26_bad_block_leaves_all w (nat_lit 11) an (nat_lit 1) (nat_lit 1) (sh w 0 os) (blockOf bd env cd ⟨0,0,0,0⟩ [topFrame ⟨0,0,0,0⟩]))=λos=>some (.next,sh w 0 os,cd,(⟨0,0,0,0⟩:Pos)):=by kernel_rfl
abbrev rC(i j n:Nat)(p p':Pos)(w:World):Prop:=(λos=>segRun L8 PySem.Challenge.pw_spentonce_k26_bad_block_leaves_all w (nat_lit 11) an (nat_lit 1) n (sh w i os) (piecesOf ((bd.drop i).take j) env cd p [topFrame ⟨0,0,0,0⟩]))=λos=>some (.next,sh w (i+j) os,cd,p')
def r_0(w:World):rC 0 12 (nat_lit 996) ⟨0,0,0,0⟩ ⟨21,0,24,50⟩ w:=by kernel_rfl
def Wb5(w:World):rC 12 24 (nat_lit 669) ⟨21,0,24,50⟩ ⟨134,0,134,4⟩ w:=by rw[<-World.withFollow_self w "special-get-raises"];cases w.params.followText "special-get-raises"<;>kernel_rfl
def Wb4(w:World):rC 36 17 (nat_lit 986) ⟨134,0,134,4⟩ ⟨310,0,321,56⟩ w:=by kernel_rfl
def Wb3(w:World):rC 53 6 (nat_lit 181) ⟨310,0,321,56⟩ ⟨363,0,383,15⟩ w:=by kernel_rfl
def Jy1(w:World):(λos=>topRun L8 PySem.Challenge.pw_spentonce_k26_bad_block_leaves_all w (nat_lit 11) an (nat_lit 2) (sh w 59 os) ⟨doneF .next,cd,⟨363,0,383,15⟩,[topFrame ⟨0,0,0,0⟩]⟩)=λos=>some (⟨hF w.params,⟨[]⟩,⟨0,0,0,0⟩,nat_lit 761,os⟩:Shared):=by kernel_rfl
def Jzy:bd=(bd.drop 0).take 12++((bd.drop 12).take 24++((bd.drop 36).take 17++((bd.drop 53).take 6++[]))):=by kernel_rfl
def Wb2(w:World)(os:OsState):topRun L8 PySem.Challenge.pw_spentonce_k26_bad_block_leaves_all w (nat_lit 11) an (nat_lit 2847) ⟨boot_heap w.params,⟨[]⟩,boot_drawn,boot_toks,os⟩ (topStub PySem.Challenge.pw_spentonce_k26_bad_block_leaves_all)=some ⟨hF w.params,⟨[]⟩,⟨0,0,0,0⟩,nat_lit 761,os⟩:=by
 refine go_top (congrFun (Jy0 w) os) (piece_block (N:=2834) (congrFun (Jso w) os) ?_);have h:=Q0 (congrFun (r_0 w) os) (Q0 (congrFun (Wb5 w) os) (Q0 (congrFun (Wb4 w) os) (Q0 (congrFun (Wb3 w) os) (piece_nil (congrFun (Jy1 w) os)))));rw[<-Jzy]at h;exact h
def left:LeftO PySem.Challenge.pw_spentonce_k26_bad_block_leaves_all q loose (λs:Shared=>xlAt q [] s&&recOk [] s) (λs:Shared=>as.map s.heap.get?) (λw=>(K w.params).map λp=>some p.2) 5774:=
 LeftO.of_pieces (g0:=true) (boot_open (by kernel_rfl) (by decide) (λ_=>rfl)) (λ_=>by kernel_rfl) Wb2 (by decide) λw=>by kernel_rfl
def dL:Ur:=⟨"law",Vr (top 58),Vk (top 58),defScope (top 58),⟨363,0,383,15⟩⟩
section
variable {w:World} {mg:Str->Option Value} {h:Heap}
abbrev fa(P:Hj)(i:Nat):Nat:=(zs P (i+1)).a-1
abbrev fO(n x:Str)(s:Stmt)(z:Sm)(a:Nat):D9:=⟨.type "function",none,.func (fnOf n x (Vr s) (Vk s) (defScope s) .none .none .none (.str z.m z.k) none (.ref (a-1)) .none),#[]⟩
def fe(P:Hj)(x:String)(i:Nat)(e:nsIn (K P) A7 (Ac x)=some (some (.ref (fa P i))))(l:(K P).lookup (fa P i)=some (fO (Ac x) (Ac x) (top i) (zs P i) (fa P i)))(c:G2 (K P) (.ref (fa P i-1)) (Ac x)=true)(k:C7 (K P) (.ref (fa P i))=true):FE (K P) (Ac x) (top i):=⟨_,_,_,_,_,_,_,_,_,_,e,l,c,k⟩
noncomputable def ma(m:String):Nat×Nat×String:=([("__init__",204,0,"Hoard.__init__"),("copied",211,1,"Hoard.copied"),("held",218,2,"Hoard.held"),("total",223,3,"Hoard.total"),("did",230,4,"Hoard.did"),("fault",237,5,"Hoard.fault"),("fault_of_in",244,6,"Hoard.fault_of_in"),("fee",251,7,"Hoard.fee"),("worth_spent",256,8,"Hoard.worth_spent"),("do",261,9,"Hoard.do")].lookup m).getD (0,0,"")
def me(P:Hj)(m:String)(n:nsIn (K P) A7 "Hoard"=some (some (.ref 271)))(e:Cf (K P) (.ref 271) (Ac m)=some (some (.ref (ma m).1)))(l:(K P).lookup (ma m).1=some (fO (Ac m) (Ac (ma m).2.2) (Waf (ma m).2.1) (zs P 36) (ma m).1))(c:G2 (K P) (.ref ((ma m).1-1)) (Ac (ma m).2.2)=true)(k:C7 (K P) (.ref (ma m).1)=true)(f:isFn (K P) (.ref (ma m).1)=true):MF (K P) "Hoard" (Ac m) (Ac (ma m).2.2) (Waf (ma m).2.1):=⟨_,_,_,_,_,_,_,_,_,_,_,n,e,l,c,k,f⟩
def cf(P:Hj):CF (K P) "Hoard":=⟨271,by kernel_rfl,by kernel_rfl,by kernel_rfl,by kernel_rfl,by kernel_rfl⟩
def fes(P:Hj):∀y∈FL,FE (K P) (Ac y.1) (top y.2):=by
 intro y hy;simp only[FL,An,A1,or_false]at hy;rcases hy with rfl|rfl|rfl|rfl|rfl|rfl|rfl|rfl|rfl|rfl|rfl|rfl|rfl|rfl|rfl|rfl|rfl|rfl|rfl|rfl|rfl|rfl|rfl|rfl|rfl|rfl|rfl|rfl|rfl|rfl|rfl|rfl|rfl|rfl|rfl|rfl|rfl|rfl|rfl<;>exact fe _ _ _ (by kernel_rfl) (by kernel_rfl) (by kernel_rfl) (by kernel_rfl)
def fns(KX:(K w.params).In h)(hG:h.Ns A7 mg):∀x∈F,∃a fd,FnB (K w.params) T B F O x a fd/\mg (Ac x)=some (.ref a):=by
 intro x hx;obtain⟨y,hy,rfl⟩:=Bd.mp hx;have e:=fes w.params y hy;simp only[FL,An,A1,or_false]at hy;rcases hy with rfl|rfl|rfl|rfl|rfl|rfl|rfl|rfl|rfl|rfl|rfl|rfl|rfl|rfl|rfl|rfl|rfl|rfl|rfl|rfl|rfl|rfl|rfl|rfl|rfl|rfl|rfl|rfl|rfl|rfl|rfl|rfl|rfl|rfl|rfl|rfl|rfl|rfl|rfl<;>
  (refine Jxo KX hG e rfl (Fk.sc ?k) (Fk.ck ?k) ?b;(case k=>exact⟨rfl,rfl,rfl,by decide+kernel⟩);(case b=>intro _ _ _ _ _ _;first|exact Zz λ_=>rfl|exact Zy λ_ _=>rfl|exact Zx λ_ _ _=>rfl|exact Zw λ_ _ _ _=>rfl|exact Zv λ_ _ _ _ _=>rfl|exact Wa3 λ_ _ _ _ _ _ _=>rfl))
def mts:∀c m f,(c,m,f)∈O.mt->∃a fd Ca,FnB (K w.params) T B F O f a fd/\nsIn (K w.params) A7 (Ac c)=some (some (.ref Ca))/\L2.Cls (K w.params) Ca/\L2.Meth (K w.params) Ca (Ac m) a:=by
 intro c m f hf;simp only[O,An,A1,or_false,Iw]at hf;rcases hf with⟨rfl,rfl,rfl⟩|⟨rfl,rfl,rfl⟩|⟨rfl,rfl,rfl⟩|⟨rfl,rfl,rfl⟩|⟨rfl,rfl,rfl⟩|⟨rfl,rfl,rfl⟩|⟨rfl,rfl,rfl⟩|⟨rfl,rfl,rfl⟩|⟨rfl,rfl,rfl⟩|⟨rfl,rfl,rfl⟩<;>
  (refine Jww (cf _) (me _ _ (by kernel_rfl) (by kernel_rfl) (by kernel_rfl) (by kernel_rfl) (by kernel_rfl) (by kernel_rfl)) rfl (Fk.sc ?k) (Fk.ck ?k) ?b;(case k=>exact⟨rfl,rfl,rfl,by decide+kernel⟩);(case b=>intro _ _ _ _ _ _;first|exact Zz λ_=>rfl|exact Zy λ_ _=>rfl|exact Zx λ_ _ _=>rfl|exact Zw λ_ _ _ _=>rfl|exact Zv λ_ _ _ _ _=>rfl|exact Wa3 λ_ _ _ _ _ _ _=>rfl))
def Jbg{p:Prop}[Decidable p]{α:Type}{a d:α}{b:Option α}(h:(if p then some a else b)=some d):(p/\a=d)\/b=some d:=by by_cases e:p<;>simp_all
def txt(KX:(K w.params).In h)(hG:h.Ns A7 mg):Txt (K w.params) mg T G B F O where
 fns:=fns KX hG
 np:=by kernel_rfl
 blt:=by
  intro x hx;simp only[B,An,A1,or_false]at hx;rcases hx with rfl|rfl|rfl|rfl|rfl|rfl|rfl|rfl|rfl|rfl|rfl|rfl|rfl|rfl|rfl|rfl<;>exact Jzr KX hG (by kernel_rfl)
 gl:=by
  intro x d hd;unfold G at hd;rcases Jbg hd with⟨rfl,rfl⟩|hd
  ·exact Jkj KX hG (t:=333) (by kernel_rfl)
  rcases Jbg hd with⟨rfl,rfl⟩|hd
  ·exact Jxm KX hG (Jt0 (a:=120) (by kernel_rfl) (by unfold Vx;kernel_rfl))
  rcases Jbg hd with⟨rfl,rfl⟩|hd
  ·exact Jkj KX hG (t:=341) (by kernel_rfl)
  rcases Jbg hd with⟨rfl,rfl⟩|hd
  ·exact Jxm KX hG (Jtz ["height","age","worth","ins","outs"] (a:=119) (its:=⟨[(.str "height" 335),(.str "age" 336),(.str "worth" 337),(.str "ins" 338),(.str "outs" 339)]⟩) (n:=0) (sl:= #[]) (by kernel_rfl) (by kernel_rfl) (by kernel_rfl))
  rcases Jbg hd with⟨rfl,rfl⟩|hd
  ·exact Jkj KX hG (t:=472) (by kernel_rfl)
  rcases Jbg hd with⟨rfl,rfl⟩|hd
  ·exact Jkj KX hG (t:=468) (by kernel_rfl)
  rcases Jbg hd with⟨rfl,rfl⟩|hd
  ·exact Jkj KX hG (t:=474) (by kernel_rfl)
  rcases Jbg hd with⟨rfl,rfl⟩|hd
  ·exact Jkj KX hG (t:=470) (by kernel_rfl)
  cases hd
 mts:=mts
 fds:=by
  intro c f hf;simp only[O,An,A1,or_false,Iw]at hf;rcases hf with⟨rfl,rfl⟩|⟨rfl,rfl⟩<;>exact Jxq (cf _) (Jzf (Ca:=271) (by kernel_rfl) (by kernel_rfl))
 nws:=by
  intro c f hf;simp only[O,An,A1,or_false,Iw]at hf;obtain⟨rfl,rfl⟩:=hf;exact Jws KX hG (cf _) ⟨271,by kernel_rfl,by kernel_rfl,by kernel_rfl⟩ (mts _ _ _ (by simp[O]))
 exs:=by
  intro f g cl ts hf;simp only[O,An,A1,or_false,Iw]at hf;obtain⟨rfl,rfl,rfl,rfl⟩:=hf;obtain⟨a,fd,fb,hm⟩:=fns KX hG "do_block" (by simp[F,FL]);obtain⟨FN,st,nm,ql,hT,FU,sc,ck,bd⟩:=fb.ex;cases hT;refine⟨a,fd,_,st,nm,ql,_,_,_,_,68,FU,sc,rfl,rfl,rfl,ck,bd,hm,Hv KX hG (by kernel_rfl),⟨[.ref 31,.type "ValueError",.type "Exception",.type "BaseException",.type "object"],67,"BadBlock","BadBlock",[.ref 31],true,[],[],false,none,none,some (.ref 59),none,some (.str "BadBlock" 246),some (.str "BadBlock" 254),some (.bool true),by kernel_rfl,by kernel_rfl,by kernel_rfl,by kernel_rfl⟩,⟨_,Hv KX hG (v:=.ref 31) (by kernel_rfl),by kernel_rfl⟩,⟨by kernel_rfl,by kernel_rfl,by kernel_rfl,by kernel_rfl,by kernel_rfl,by kernel_rfl,by kernel_rfl⟩,by kernel_rfl,λt ht=>?_⟩;simp only[An,A1,or_false]at ht;rcases ht with rfl|rfl|rfl|rfl
  ·exact .inl ⟨68,Hv KX hG (by kernel_rfl),by kernel_rfl⟩
  ·exact .inl ⟨44,Hv KX hG (by kernel_rfl),by kernel_rfl⟩
  ·exact .inl ⟨56,Hv KX hG (by kernel_rfl),by kernel_rfl⟩
  ·exact .inr ⟨rfl,Uh KX hG (by kernel_rfl),by kernel_rfl⟩
end
end K26
open PySem PySem.W PyProof.Rows
set_option maxRecDepth 100000 in
set_option maxHeartbeats 0 in
theorem PySem.Challenge.cw_spentonce_k26_bad_block_leaves_all_holds : PySem.Challenge.rw_spentonce_k26_bad_block_leaves_all.Holds := by
 refine Mi.holds (q:=K26.q) (d:=K26.dL) K26.said K26.asK K26.left (by kernel_rfl) (by kernel_rfl) (by kernel_rfl) (by decide+kernel) ⟨rfl,rfl,rfl,rfl,rfl,by decide+kernel⟩ ?hw ?hc
 (case hw=>w_witness2)
 exact Mi.walk (l:=PySem.Challenge.rw_spentonce_k26_bad_block_leaves_all) (T:=K26.T) (G:=K26.G) (B:=K26.B) (F:=K26.F) (O:=K26.O) (x:="_law_script") (W:=100) (n:=30) rfl rfl (λw h Y=>Y) ⟨rfl,by decide,by decide,rfl⟩ rfl (by decide) ⟨_,rfl,rfl⟩ (λ_ _ _ KX hG=>K26.txt KX hG) K26.run
