import PyProof.Rows.All
import Wide.All
import OpenK.AllK
import Wide.FinOn
import Lean
import PyProof.EqAt
import PyProof.EqKinds
import PyProof.TupleCall
import KE.KRevIter
import PyProof.EnumStmt
import PyProof.EnumFor
import PyProof.EnumMake
import PyProof.Draws
import PyProof.WalksMore
import PyProof.Rows.SeqMore
import KE.KDictList
import KE.KMinKey
import PyProof.WalkInts
import PyProof.Rows.SortShell
import PyProof.Rows.SetFrom
import PyProof.SetRoads
import PyProof.TupleKey
import PyProof.DictRoadsH
import PyProof.IsRules
import PyProof.DictWalks
import KE.KDictOf
import KE.KEqDict
import KE.KSortTup
import KE.KItemsList
import PyProof.AttrMissHeap
import PyProof.ZipIter
import PyProof.ListMulRoad
import PyProof.StrBlock2
import PyProof.NeKinds
import PyProof.ConsumeWalk
import PyProof.SumAny
import PySem.Challenge.RW_spentonce_k24_block_fault
set_option autoImplicit true
set_option Elab.async false
set_option linter.all false
set_option maxRecDepth 100000
set_option maxHeartbeats 4000000
open PySem renaming wpAny_bind→Aa,wpAny_pure→Ac,mainGlobals→Ax,Obj→A5,wpAny_holding→Bh,Around→Bj,starEach→Bl,wpAny_call_entry→Bn,wpAny_dictEntries→Bt,wpAny_newObj_type→Bx,wpAny_mono→B3,wpAny_callSpecial?_slot→B4,wpAny_field→B7,DictEntry→B8,wpAny_setField_rec→Cj,cLine→Cw,codeAny_builtin→C7,bootBuiltins→C8,tupleKind_room_in1→De,wpAny_forIn_list→Dg,wpAny_truthy_bool→Dl,foldedSetIterable→Dm,wpAny_isInstance→Du,compareOp→Dv,wpAny_seqItems→D3,mem_of_lookup→D4,backTo→D5,wpAny_dictEpoch→Ec,Params→El,wpAny_notOrdered_dict→Ep,NameKind→Ey,wpAny_typeNameOfWhole_itemiter→Fb,wpAny_typeNameOfWhole_keyiter→Fh,wpAny_typeOf→Fj,wpAny_rule→Fm,codeAny_mono→Fo,assignEach→Fp,wpAny_specialOf→Ft,size_of_entries→Fu,binaryOp→Fv,wpAny_attempt→Fy,plainId_quiet→Fz,wpAny_pyIter_list→F1,keywordEach→F8,IsPair→F9,swapsWith→Gb,codeAny→Ge,wpAny_typeNameOf_itemiter→Gh,atKey→Gi,wpAny_typeNameOf_keyiter→Gm,wpAny_Call_Name_kw→Gu,treeTable→Gx,sizeLine_eq→Gy,firstArgMember→G8,isSubtype_tuple_tuple→Hg,wpAny_eqBool_int→Hl,behindInMarks→Hn,sliceBounds→Hr,Scope→Hu,FuncData→Hv,wpAny_passesOwn→Ie,letOwnedTupleGo→Ig,wpAny_richCompare_same_room→Iq,wpAny_setField→Jf,wpAny_pyIter_tuple→Jg,backToKw→Jh,Heap→Jn,wpAny_setState_of→Jp,Keyword→Jr,IsZip→J1,HeapKind→J2,wpAny_isOneOf_itemiter→Kg,getItem→Kh,wpAny_loadPart'→Km,wpAny_fieldsOf→K4,concat_meets→K5,ZipApart→K6,Result→K7,IsPart→K8,callerA→Le,noFill_tuple_add→Ln,wpAny_standAt→Lu,wpAny_newList→Lv,setSearchFrom→Lx,wpAny_tupleItemsOf→L4,wpAny_load→L5,valueAt→Me,standAt→Mf,ofAClassStatement→Mg,keyPart→Mh,entry_at→Mj,call→Ml,atKey_none_of_get→Mm,wpAny_comp_letGo→M3,wpAny_Dict_empty→M4,seq_tuple_add→M5,eqIsQuiet→M6,wpAny_of_eq→Nh,wpAny_letGo→Ni,wpAny_updateSeq→Nx,passOn→Ny,Within→Nz,storedH→N8,wpAny_runValue→Og,wpAny_newTuple→Oh,methodCallForm→Oi,isSubtype_stop→Oj,isInstance→Ol,carriedByValue→Om,call_meets→Oo,evalArgs_none→O3,wpAny_onRaise→Pg,wpAny_handled→Ph,wpAny_Call_method0_late→Pw,seqItems?→Px,field→Py,bindL→Pz,bindC→P0,wpAny_pyNext_list_item→Qd,wpAny_Call_method_late→Qe,spliced→Qf,newExc→Qg,call_meetsIn→Qh,wpAny_pyNext_list_end→Qw,wpAny_isOneOf_keyiter→Qx,wpAny_eqIsQuiet_tuple→Qy,wpAny_updateSeq_pair→Q6,wpAny_throw→Q7,wpAny_loadName_local→Q8,setField→Q9,seqIndex_of→Ra,richCompare→Rb,hashByValue→Rc,bindArgs→Rf,Model→Rk,wpAny_loadName_cell→Rv,wpAny_dictFind_heap→Rx,wpAny_setItem_heap→So,wpAny_getItem_heap→Sq,wpAny_eqBool_tuple→Ss,wpAny_call→Su,wpAny_Name→Sv,typeOf→Sw,typeIs_int→Sx,reduceHash→Sy,getattributeRaised→Sz,closureFor→Ta,builtinsNs→Tc,PlainAttrs→Tg,IsTupleKey→Ti,DefRec→To,wpAny_sequenceKey→Tz,wpAny_pyIter_slot→T1,wpAny_pyIter_enum→T2,wpAny_assign_Name→T3,slot_list_getitem→T4,setItem→T5,searchCouldBeSeen→T6,BindsTo→Ud
open PySem.Str renaming ofString→Ab,ofString_eq_toList→Ou
open PySem.Heap renaming get?_push_of_some→Ad,get?_push_size→Ak,lt_size→Am,size_push→Cc,get?_update_self→Cm,SameBut→C0,get?_update_other→Ea,get?_none_of_le→Kb,ExtBut→O6,get?_push_ne→Ql,IsTuple→Ua
open List renaming getElem?_eq_some_iff→Ae,getElem?_eq_getElem→Ag,length_map→Ai,mem_cons→An,size_toArray→Ao,getElem?_map→Aq,mem_singleton→As,map_cons→Av,getElem?_set_ne→Aw,mem_cons_of_mem→Ay,getElem?_append_left→A0,getElem?_append_right→A1,length_cons→A7,mem_of_getElem?→Ba,not_mem_nil→Bc,length_append→Bd,mem_map→Bg,mem_cons_self→Bm,mem_append→Bo,getElem?_cons_succ→Bv,mem_append_right→Bw,map_map→Bz,range→B1,drop_eq_getElem_cons→Ce,nodup_cons→Ci,mem_iff_getElem→Cz,find?_cons→C3,mem_append_left→C5,lookup_cons→C6,getElem?_set_self→Di,length_singleton→Dq,take_add_one→Dx,getElem?_cons_zero→Dy,map_append→D1,map_congr_left→D8,take_of_length_le→Eb,all_eq_true→Ef,getD_eq_getElem?_getD→Eg,length_set→Em,length_nil→Eo,lookup→Es,length_range→Et,replicate→E1,length_take→E2,getElem?_replicate→E3,filter_cons→E4,map_nil→E9,any_cons→Fg,mem_iff_getElem?→Fi,pairwise_iff_getElem→F5,filterMap_cons→F7,getElem?_take_of_lt→Ga,append_nil→Gg,length_replicate→G2,getElem?_eq_none→G3,take_length→G4,length_drop→G5,getElem_mem→G6,drop_length→G7,map_take→Hc,mem_of_mem_take→He,mem_filter→Hi,forIn_cons→Hj,nodup_nil→Ib,findSome?_eq_none_iff→Ic,nodup_append→Iy,length→Iz,any_toArray→Jm,drop_eq_nil_of_le→Js,length_filter_le→Jw,length_pos_iff→Kq,map_drop→Ky,all_cons→Kz,pairwise_map→Lj,append_assoc→Lk,any_eq_false→Ll,any_eq_true→L3,of_mem_zip→Mc,map→Mz,getElem?_take_eq_none→M0,getElem?_zip_eq_some→Nd,extract_eq_take_drop→Nf,length_erase_of_mem→Nv,length_eq_zero_iff→N3,filter_cons_of_pos→N4,filter_cons_of_neg→N5,eraseIdx_cons_succ→N6,range_succ_eq_map→Oc,length_pos_of_mem→Od,filter_eq_nil_iff→Oe,any_map→Of,dropLast_eq_take→O1,pairwise_append→O9,mem_of_mem_drop→Pa,mem_erase_of_ne→Pb,getElem?_of_mem→Pc,findSome?_cons→Po,filter_sublist→Pp,zip_cons_cons→P7,pairwise_cons→P8,mem_filterMap→P9,filter_append→Qa,take_sublist→Qt,ext_getElem?→Qu,zipIdx_cons→Q4,range'_succ→Q5,zipIdx_nil→Ru,mem_range→Sh,forIn_nil→Si,find?_map→Sj,drop_zero→Sk,sum_cons→Tu,map_id'→Uh,all_map→Ui
open PySem.W renaming Frag→Af,nsIn→Bb,keepIn→Cr,findIn→Ct,emptyDict→Df,fnOf→D6,instObj→Ei,codeIn→Fq,kia_one→F6,boot_heap→Gk,plainGet→Gv,hasDictIn→H9,OpenLaw→I9,isFn→Ji,makesIn→Jl,lookIn→Jt,plainGet_of→Jx,callWith_K0→Jy,mg_of→Ka,plainOver→Kr,methodObj→Ks,takerIn→Lq,WalkO→Ly,cellsFrom_some→M7,methodCall_KW→Nj,callWith_K→Oq,boot_drawn→Ot,boot_toks→O4,handedIn→Pk,boot_o_2→Pl,piece_app→P1,piecesOf→Rh,InK→Ry,segRun→Td,XL→Te
open Bool renaming and_eq_true→Ah,false_eq_true→Ar,false_ne_true→Az,not_true→Dh,or_eq_true→Hk,not_eq_true'→I8,and_false→Kf,true_and→K1,eq_iff_iff→Md,and_self→Nw,or_eq_false_iff→Pe,and_eq_true_iff→Pf,not_false→Sm,and_true→Tw
open Nat renaming le_refl→Aj,ne_of_lt→Au,lt_of_lt_of_le→Bf,le_trans→Bu,ne_of_gt→Cf,zero_le→Cp,lt_succ_self→C9,le_of_lt→Ed,lt_irrefl→Ee,sub_self→Eu,lt_trans→Ew,zero_add→Fc,lt_of_le_of_lt→Fd,le_add_right→Hb,add_le_add_left→Hq,sub_zero→Hy,lt_or_ge→Hz,lt_trichotomy→Jc,lt_succ_of_lt→Jd,le_of_lt_succ→Je,le_succ→Kj,add_assoc→K3,succ_pos→Ls,mod_lt→Nc,le_of_eq→O0,not_lt→Qs,strongRecOn→Sg
open Option renaming map_eq_some_iff→Al,isSome_iff_exists→B6,isSome_map→Ek,map_some→E8,bind_some→Gz,bind_eq_some_iff→Nb,isNone_some→O8,getD_none→P6,map_map→Q3,toList→Rt
open PySem.Value renaming ref→Ap,none→Cd,int→Dr,type→Dw,bool→Ht,isInt_shape→Im,isInt→Io,str→Nl,isStrOf→Rz,builtin→R0,float→T8,bytes→T9
open Option.some renaming inj→Bi,injEq→Hh
open Function renaming comp_def→Bp
open PySem.SetTable renaming runEnd→Bq,below→Cq,turns→Dc,Probe→Ds,insertAt→Dt,bits→E5,advance→Gp,has→Ja,leap→Jz,fill→L7,fits→Qi
open Array renaming getElem?_eq_getElem→Br,length_toList→By,mem_toList_iff→C4,getElem?_toList→Dp,forIn_toList→E7,mem_of_getElem?→Ju,getElem?_eq_none→N7,toList_extract→O2,toList_push→Qb,getElem_mem→Qc,isEmpty→Sn,toList→Tx
open PySem.Builtin.Int renaming intBits→Bs
open PySem.Builtin.SmallTypes renaming ownedTupleIsFree→B5,nextOf→Co,ownedTupleHandOut→Ia
open PyProof.Rows renaming slot_tuple_getitem→B9,callWith_type1→C2,wpS_bind→Fw,callWith_builtin1→Gj,wpS_pure→Jk,AllBare→Ki,tail_any→Kx,tupleItemsOf_→L1,envOfC→L6,entry_list_sort→N2,slot_list_sort→Ob,setPending→Oy,SortKind→Oz,listUpdate_at→Pn,wpS_get→Qn,wpS_forRange→Qo,subscriptTail_builtinR→Qp,IntsAre→Qr,UnaryOp_→Q2,seqEpoch_at→Rp,entry_proto_collect'→Rq,Call_→Rr,entry_tuple_getitem→R5,args_tuple_getitem→Tq,SortSt→Ts,arrOf→Ue
open PySem.Paired renaming length→Cg,snoc→Th
open PySem.Builtin.Tuple renaming tupleHashOf→Cu,tupleExact→Fs,tupleItemsOf→G1,tupleIsExact→Kt
open PySem.Around renaming under_plainId→Cv,under→Nu
open PySem.Heap.SameBut renaming update→Cy,refl→M8
open PySem.F renaming slot_dict_itemiterator_next→C1,called_set→Dn,slot_dict_keyiterator_next→D9,plain_extend_loop→Eh,slot_tuple_iterator_next→F4,slot_dict_get→Gq,slot_tuple_hash→G0,slot_tuple_eq→Hw,args_tuple_add_2→Ii,plainAttrs_dict→Iu,entry_tuple_add→Iw,slot_tuple_add→Jj,slot_list_getattribute→Jo,args_dict_itemiterator_next_1→Jv,entry_dict_itemiterator_next→J3,slot_zip_next→Kc,slot_dict_items_iter→Lr,slot_dict_getitem→L8,entry_extend_loop→L9,slot_tuple_index→Mo,slot_dict_iter→Mp,args_dict_keyiterator_next_1→Mq,slot_dict_items→Mt,plain_list_iadd→Mu,plainAttrs_list→Mv,entry_dict_keyiterator_next→Mw,args_dict_get_2→Mx,entry_dict_get→M9,args_tuple_iterator_next_1→Na,type_dict_get→Nq,slot_dict_pop→Nr,entry_tuple_iterator_next→Nt,slot_dict_ne→N1,slot_list_append→Ov,slot_list_pop→P4,kt_typeCall_dict_1→Qm,args_dict_init_2→Rm,entry_dict_init→R3,args_zip_next_1→R4,kt_called_dict→Tj,entry_zip_next→Tn,slot_tuple_lt→Uc
open PySem.Obj renaming mapSeq→Dj,data_mapDictKeys→Hf,data_mapFields→Ih,isFreed_of_fields→O5,isFreed_of_dict→P2,putSet→Qj,cls_mapFields→Qz
open PySem.Builtin.Dict_items renaming ownsTuple→Dk,ownedTupleIsFree→Ij,ownedTupleFields→Ik,pairFromOwner→Jb,newIterator→Q0,dictOf→Q1
open False renaming elim→Dz
open Int renaming toNat_natCast→D2,lt_of_le_of_lt→Il,toNat_of_nonneg→K0,natCast_nonneg→Lb,lt_of_lt_of_le→Lc,ediv_nonneg→Ms,fdiv_eq_ediv_of_nonneg→Ng,natAbs_of_nonneg→Pu,emod_lt_of_pos→Qv,emod_nonneg→Sl,pow_nonneg→Tv
open Ne renaming symm→D7
open PyProof.Rows.KTD.Dat renaming flat→Ej,At→Tt
open PySem.Shared renaming TypeIs→Er,heap→N9
open True renaming intro→Ex
open Std.Legacy.Range renaming forIn_eq_forIn_range'→Ez,size→Hm
open PySem.SeqAt renaming EqAt→E6,RcNeAt→N0,RcAt→Pm
open PySem.Builtin.Slice renaming slicePlaces→Ff,sliceAdjust→Ha,sliceApplied→Ku
open PySem.Builtin.Dict renaming updateFrom→F0,showsAll→Gf,entriesForEmpty→Kn,dictSlotArgs→K9,selfAndRest→Lg,addKeywords→Lh,samePairs→Lz,takeOut→Ma,quietEq→Mb
open ForInStep renaming yield→F2
open Sum renaming inl→F3,inr→Lm
open PySem.Calls renaming callWith_builtin→Gn,spliced_cons→Hx,spliced_nil→Ip,Name_function_global→Mr,call_function_entry→My,evalArgs_plain→Ox
open PyProof.Rows.F renaming plain_set_update_loop→Gs,entry_set_update_loop→O7
open PySem.NameKind renaming free→Gw,cell→Qk
open PySem.SetTable.below renaming go→G9
open PySem.SetTable.probe renaming go→Jq
open Prod.mk renaming injEq→Ke
open Classical renaming not_not→Kk
open Std.Legacy renaming Range→Kl
open PyProof.Rows.KTD renaming tabLook→Ko,opened_int→R6,get2_text→R7,each_nil→R8,each_miss→R9,each_hit→Sa,datLooks→Sd,Each→Se
open PySem.Builtin.List renaming listExtendWith→Kw,listSameRef→Lf
open PySem.SeqAt.EqAt renaming same→K2,str_int→Nm,of_refs→Nn,int_str→Np
open List.Pairwise renaming imp_of_mem→La,nil→M1
open Sum.inl renaming inj→Ld
open PyProof.V.Flat renaming int_inv→Li
open Char renaming toNat→M2
open PySem.Code renaming isFrame→Oa,quiet_builtin→P5
open List.cons renaming injEq→Pd
open PySem.Walks renaming list→Pj
open List.Perm renaming cons→Pq
open PyProof.Rows.IsTup renaming new→Qq
open PySem.W.KatTups renaming cons→Ri
open PySem.SetTable.Probe.mk renaming injEq→Rj
open PySem.Builtin.Frozenset renaming updateFrom→Ro
open PySem.Heap.IsItemsView renaming typeIs→R1
open Prod renaming ext→Sf
open PySem.W.OpenLaw renaming row→Tf
open PySem.W.WShape renaming has→T7
open PySem.Heap.IsSliceOf renaming new→Ub
open PyProof.Rows.SortSt renaming mk'→Ug
theorem fx9{p:Prop}(h:false=true):p:=absurd h Az
namespace L2
open PySem PySem.Spec PyProof.Rows
abbrev Key:=Sum Int Str
noncomputable def Wp:Key->Value->Bool
 |.inl k,v=>Io k v
 |.inr x,v=>Rz x v
noncomputable def We4(w:World):Key->Int
 |.inl k=>hashInt k
 |.inr x=>hashStr w x
theorem Jas:∀{k:Key} {v:Value},Wp k v=true->(∃i t,k=F3 i/\v=Dr i t)\/(∃x t,k=Lm x/\v=Nl x t)
 |.inl i,v,h=>by
  obtain⟨t,e⟩:=Im (k:=i) (v:=v) h;exact .inl ⟨i,t,rfl,e⟩
 |.inr x,v,h=>by
  obtain⟨t,e⟩:=Value.isStrOf_shape (x:=x) (v:=v) h;exact .inr ⟨x,t,rfl,e⟩
def Jmq(i:Int)(t:Tok):Wp (.inl i) (.int i t)=true:=by simp[Wp,Io]
def Jmp(x:Str)(t:Tok):Wp (.inr x) (.str x t)=true:=by simp[Wp,Rz]
def Jym(a b:Int):decide ((F3 a:Key)=F3 b)=(a==b):=by
 by_cases e:a=b
 ·subst e;simp
 ·have h:¬(F3 a:Key)=F3 b:=λq=>e (Ld q);rw[decide_eq_false h];exact(beq_eq_false_iff_ne.mpr e).symm
def Jyj(a b:Str):decide ((Lm a:Key)=Lm b)=decide (a=b):=by
 by_cases e:a=b
 ·subst e;simp
 ·have h:¬(Lm a:Key)=Lm b:=λq=>e (Sum.inr.inj q);rw[decide_eq_false h,decide_eq_false e]
def Jyl(a:Int)(b:Str):decide ((F3 a:Key)=Lm b)=false:=decide_eq_false (λq=>nomatch q)
def Jyk(a:Str)(b:Int):decide ((Lm a:Key)=F3 b)=false:=decide_eq_false (λq=>nomatch q)
noncomputable def mixKind(prog:Program)(w:World):PySem.KeyKind prog w Key where
 is:=Wp
 hash:=We4 w
 inj:=λv a b ha hb=>by
  rcases Jas ha with⟨i,t,rfl,rfl⟩|⟨x,t,rfl,rfl⟩
  ·rcases Jas hb with⟨j,u,rfl,e⟩|⟨y,u,rfl,e⟩
   ·injection e with e1 _;rw[e1]
   ·exact nomatch e
  ·rcases Jas hb with⟨j,u,rfl,e⟩|⟨y,u,rfl,e⟩
   ·exact nomatch e
   ·injection e with e1 _;rw[e1]
 byValue:=λk v h=>by
  rcases Jas h with⟨i,t,rfl,rfl⟩|⟨x,t,rfl,rfl⟩<;>rfl
 pyHash:=λhv h=>by
  rcases Jas hv with⟨i,t,rfl,rfl⟩|⟨x,t,rfl,rfl⟩
  ·exact wpAny_pyHash_int h
  ·exact wpAny_pyHash_str h
 eqBool:=λhu hv h=>by
  rcases Jas hu with⟨i,t,rfl,rfl⟩|⟨x,t,rfl,rfl⟩
  ·rcases Jas hv with⟨j,u,rfl,rfl⟩|⟨y,u,rfl,rfl⟩
   ·rw[Jym]at h;exact Hl h
   ·rw[Jyl]at h;exact Np i t y u _ _ _ _ h
  ·rcases Jas hv with⟨j,u,rfl,rfl⟩|⟨y,u,rfl,rfl⟩
   ·rw[Jyk]at h;exact Nm x t j u _ _ _ _ h
   ·rw[Jyj]at h;exact wpAny_eqBool_str h
 «strs»:=λk x t v h=>by
  rcases Jas h with⟨i,u,rfl,e⟩|⟨y,u,rfl,e⟩
  ·exact nomatch e
  ·injection e with e1 _;subst e1;cases v<;>rfl
def Jik(prog:Program)(w:World)(i:Int)(t:Tok):(mixKind prog w).is (.inl i) (.int i t)=true:=Jmq i t
def Jij(prog:Program)(w:World)(x:Str)(t:Tok):(mixKind prog w).is (.inr x) (.str x t)=true:=Jmp x t
inductive V where
 |non|bl (b:Bool)|int (i:Int)|str (x:Str)|byt (b:Array UInt8)|flt (b:UInt64)|ref (a:Addr)|ty (n:String)
 deriving DecidableEq
def RelV:V->Value->Prop
 |.non,u=>u=Cd
 |.bl b,u=>u=Ht b
 |.int i,u=>∃t,u=Dr i t
 |.str x,u=>∃t,u=Nl x t
 |.byt b,u=>∃t,u=T9 b t
 |.flt b,u=>∃t,u=T8 b t
 |.ref a,u=>u=Ap a
 |.ty n,u=>u=Dw n
abbrev Vals:List V->List Value->Prop:=Paired RelV
def Vals.length{xs:List V}{us:List Value}(r:Vals xs us):xs.length=us.length:=Cg r
theorem Vals.get:∀{xs:List V} {us:List Value} {i:Nat} {x:V},Vals xs us->xs[i]? =some x->∃u,us[i]? =some u/\RelV x u
 |_,_,_,_,.nil,e=>by simp at e
 |_,_,0,_,.cons r _,e=>by simp at e;subst e;exact⟨_,rfl,r⟩
 |_,_,i+1,x,.cons _ t,e=>by
  obtain⟨u,h1,h2⟩:=Vals.get (i:=i) (x:=x) t (by simpa using e);exact⟨u,by simpa using h1,h2⟩
theorem Vals.set(r:RelV x u):∀{xs:List V} {us:List Value} (i:Nat),Vals xs us->Vals (xs.set i x) (us.set i u)
 |_,_,_,.nil=>.nil
 |_,_,0,.cons _ t=>.cons r t
 |_,_,i+1,.cons q t=>.cons q (Vals.set r i t)
theorem Vals.append:∀{xs ys:List V} {us ws:List Value},Vals xs us->Vals ys ws->Vals (xs++ys) (us++ws)
 |_,_,_,_,.nil,s=>s
 |_,_,_,_,.cons r t,s=>.cons r (Vals.append t s)
theorem Vals.take:∀{xs:List V} {us:List Value} (n:Nat),Vals xs us->Vals (xs.take n) (us.take n)
 |_,_,0,_=>.nil
 |_,_,_+1,.nil=>.nil
 |_,_,n+1,.cons r t=>.cons r (Vals.take n t)
theorem Vals.drop:∀{xs:List V} {us:List Value} (n:Nat),Vals xs us->Vals (xs.drop n) (us.drop n)
 |_,_,0,r=>r
 |_,_,_+1,.nil=>.nil
 |_,_,n+1,.cons _ t=>Vals.drop n t
def RelO:Option V->Option Value->Prop
 |some v,some u=>RelV v u
 |none,none=>True
 |_,_=>False
def KV{κ:Type}:List (κ×V)->List (κ×Value)->Prop:=Paired λ(p:κ×V) (q:κ×Value)=>p.1=q.1/\RelV p.2 q.2
noncomputable def kV:Key->V
 |.inl i=>.int i
 |.inr x=>.str x
inductive HO where
 |lst (xs:List V)
 |tup (xs:List V)
 |dK (kvs:List (Key×V))|dT (kvs:List (List Key×V))
 |set (S:Int->Bool) (n:Nat)
 |ins (C dx:Addr) (fs:List (Str×V))
 |own (x:Addr)
 |xd (fs:List (Str×V))
 |met (f x:Addr)
 |rng (lo hi:Int)
 |frz (o:Obj) (u:HO)
 |tbl (ps:Array Value)
 |ext (φ:Program->World->Heap->Prop)
abbrev Hp:=Addr->Option HO
noncomputable def upd(H:Hp)(a:Addr)(o:HO):Hp:=λb=>if b=a then some o else H b
def Jai:upd H a o a=some o:=by unfold upd;rw[if_pos rfl]
def Jae(h:b≠a):upd H a o b=H b:=by unfold upd;rw[if_neg h]
def Jpa{H:Hp}{a b:Addr}{o u:HO}(h:H a=some o)(h':H b=some u)(d:o≠u):a≠b:=by
 intro e;subst e;rw[h]at h';exact d (Bi h')
def Jam{H:Hp}{a b:Addr}{o:HO}(h:H a=some o)(h':H b=none):a≠b:=by
 intro e;subst e;rw[h]at h';cases h'
section
variable (P:Program) (w:World)
def Uq(H:Hp)(h:Heap)(a:Addr):HO->Prop
 |.lst xs=>xs.length<=sizeLine/\∃(its:List Value) (n:Nat),Vals xs its/\h.get? a=some {cls:=.type "list",data:=.seq its.toArray n}
 |.tup xs=>xs.length<=sizeLine/\∃its:List Value,Vals xs its/\IsTup h a its.toArray
 |.dK kvs=>kvs.length<=sizeLine/\(a==sysModules)=false/\∃vs,KV kvs vs/\h.DictOf (mixKind P w) a vs
 |.dT kvs=>kvs.length<=sizeLine/\(a==sysModules)=false/\∃xs:List (List Key×Addr×Value),
   Paired (λ(p:List Key×V) (q:List Key×Addr×Value)=>p.1=q.1/\H q.2.1=some (.tup (p.1.map kV))/\RelV p.2 q.2.2) kvs xs/\
   ∃o es ep,h.get? a=some o/\o.ExactDict/\o.data=.dict es ep/\es.toList=xs.map (entryOfKey (tupleKind (mixKind P w)))/\(xs.map (·.1)).Nodup
 |.set S n=>h.SetOf (intKind P w) a S n
 |.ins C dx fs=>H dx=some (.own a)/\fs.length<=1000/\dx≠a/\h.get? a=some (Ei C dx)/\
   ∃mA,h.Ns1 dx mA/\(∀f,RelO (fs.lookup f) (mA f))/\Nz mA (fs.map (·.1))
 |.own _=>∃o,h.get? a=some o
 |.xd fs=>∃mA,h.Ns1 a mA/\∀f,RelO (fs.lookup f) (mA f)
 |.rng lo hi=>∃t u v,h.get? a=some {cls:=.type "range",data:=.fields #[.int lo t,.int hi u,.int 1 v]}
 |.frz o u=>h.get? a=some o/\Uq H h a u
 |.tbl ps=>h.get? a=some {cls:=.none,data:=.fields ps}
 |.met f x=>h.get? a=some (Ks (.ref f) (.ref x))
 |.ext φ=>φ P w h/\(∃o,h.get? a=some o)/\∀h1 h2:Heap,φ P w h1->(∀o,h1.get? a=some o->h2.get? a=some o)->φ P w h2
def HOk(H:Hp)(h:Heap):Prop:=∀a o,H a=some o->Uq P w H h a o
end
section
variable {P:Program} {w:World} {H H':Hp} {h h':Heap} {a:Addr} {o:HO}
theorem Uq.lt(x:Uq P w H h a o):a<h.objs.size:=by
 cases o with
 |lst xs=>obtain⟨_,_,_,_,e⟩:=x;exact Am e
 |tup xs=>obtain⟨_,_,_,p⟩:=x;exact p.lt
 |dK kvs=>obtain⟨_,_,_,_,o,_,_,e,_⟩:=x;exact Am e
 |dT kvs=>obtain⟨_,_,_,_,o,_,_,e,_⟩:=x;exact Am e
 |set S n=>obtain⟨o,_,_,_,e,_⟩:=x;exact Am e
 |ins C dx fs=>obtain⟨_,_,_,e,_⟩:=x;exact Am e
 |own y=>obtain⟨_,e⟩:=x;exact Am e
 |xd fs=>obtain⟨_,⟨_,_,_,e,_⟩,_⟩:=x;exact Am e
 |rng lo hi=>obtain⟨_,_,_,e⟩:=x;exact Am e
 |frz ob u=>obtain⟨e,_⟩:=x;exact Am e
 |tbl ps=>exact Am (show h.get? a=some _ from x)
 |met f y=>exact Am (show h.get? a=some _ from x)
 |ext φ=>obtain⟨_,⟨_,e⟩,_⟩:=x;exact Am e
theorem Paired.mapP{α β:Type}{F G:α->β->Prop}:∀{l₁:List α} {l₂:List β},Paired F l₁ l₂->(∀a b,F a b->G a b)->Paired G l₁ l₂
 |_,_,.nil,_=>.nil
 |_,_,.cons r t,f=>.cons (f _ _ r) (Paired.mapP t f)
theorem Uq.stay(x:Uq P w H h a o)(k:∀b u,(b=a\/H b=some (.own a))->h.get? b=some u->h'.get? b=some u)
  (ho:∀b,H b=some (.own a)->H' b=some (.own a))(ht:∀b xs,H b=some (.tup xs)->H' b=some (.tup xs)):Uq P w H' h' a o:=by
 induction o with
 |lst xs=>obtain⟨z,its,n,r,e⟩:=x;exact⟨z,its,n,r,k _ _ (.inl rfl) e⟩
 |tup xs=>obtain⟨z,its,r,ob,e,c⟩:=x;exact⟨z,its,r,ob,k _ _ (.inl rfl) e,c⟩
 |dK kvs=>obtain⟨z,y,vs,r,ob,es,ep,e,c⟩:=x;exact⟨z,y,vs,r,ob,es,ep,k _ _ (.inl rfl) e,c⟩
 |dT kvs=>
  obtain⟨z,y,xs,r,ob,es,ep,e,c⟩:=x;exact⟨z,y,xs,Paired.mapP r λp q z=>⟨z.1,ht _ _ z.2.1,z.2.2⟩,ob,es,ep,k _ _ (.inl rfl) e,c⟩
 |set S n=>obtain⟨ob,es,ep,t,e,c⟩:=x;exact⟨ob,es,ep,t,k _ _ (.inl rfl) e,c⟩
 |ins C dx fs=>
  obtain⟨d,z,ne,e,mA,⟨od,es,ep,e2,c⟩,r⟩:=x;exact⟨ho _ d,z,ne,k _ _ (.inl rfl) e,mA,⟨od,es,ep,k _ _ (.inr d) e2,c⟩,r⟩
 |own y=>obtain⟨ob,e⟩:=x;exact⟨ob,k _ _ (.inl rfl) e⟩
 |xd fs=>obtain⟨mA,⟨od,es,ep,e,c⟩,r⟩:=x;exact⟨mA,⟨od,es,ep,k _ _ (.inl rfl) e,c⟩,r⟩
 |rng lo hi=>obtain⟨t,u,v,e⟩:=x;exact⟨t,u,v,k _ _ (.inl rfl) e⟩
 |frz ob u ih=>obtain⟨e,q⟩:=x;exact⟨k _ _ (.inl rfl) e,ih q⟩
 |tbl ps=>
  have e:h.get? a=some {cls:=.none,data:=.fields ps}:=x;show h'.get? a=some {cls:=.none,data:=.fields ps};exact k a _ (.inl rfl) e
 |met f y=>
  have e:h.get? a=some (Ks (.ref f) (.ref y)):=x;show h'.get? a=some (Ks (.ref f) (.ref y));exact k a _ (.inl rfl) e
 |ext φ=>obtain⟨p,⟨o,e⟩,st⟩:=x;exact⟨st _ _ p λo q=>k _ _ (.inl rfl) q,⟨o,k _ _ (.inl rfl) e⟩,st⟩
def HOk.lt(x:HOk P w H h)(e:H a=some o):a<h.objs.size:=(x a o e).lt
theorem HOk.fresh(x:HOk P w H h)(e:h.objs.size<=a):H a=none:=by
 cases q:H a with
 |none=>rfl
 |some u=>exact absurd (Bf (x.lt q) e) (Ee _)
def HOk.kept(x:HOk P w H h)(k:∀b u,h.get? b=some u->h'.get? b=some u):HOk P w H h':=λa o e=>
 (x a o e).stay (λb u _ q=>k b u q) (λ_ q=>q) λ_ _ q=>q
def HOk.laid(x:HOk P w H h)(k:∀b u,h.get? b=some u->h'.get? b=some u)(hp:h.objs.size<=a)(new:Uq P w (upd H a o) h' a o):HOk P w (upd H a o) h':=λb u e=>by
 have hn:=x.fresh hp
 by_cases hb:b=a
 ·subst hb;rw[Jai]at e;cases e;exact new
 ·rw[Jae hb]at e;exact(x b u e).stay (λc v _ q=>k c v q) (λc q=>by rw[Jae (Jam q hn)];exact q) λc xs q=>by rw[Jae (Jam q hn)];exact q
end
def Rd(H:Hp)(a:Addr)(u:HO):Prop:=H a=some u\/∃o,H a=some (.frz o u)
def Rd.of(h:H a=some u):Rd H a u:=.inl h
def Rd.ok(r:Rd H a u)(x:HOk P w H h):Uq P w H h a u:=by
 rcases r with r|⟨o,r⟩
 ·exact x a u r
 ·obtain⟨_,q⟩:=x a _ r;exact q
def Mut:Option HO->Prop
 |some (.lst _)=>True
 |some (.dK _)=>True
 |some (.dT _)=>True
 |some (.set _ _)=>True
 |some (.ins _ _ _)=>True
 |some (.ext _)=>True
 |_=>False
section
variable {P:Program} {w:World} {H:Hp} {h h':Heap} {x e:Addr} {o':HO}
theorem HOk.write(ok:HOk P w H h)(mu:Mut (H x))(he:e=x\/H e=some (.own x))(k:∀b u,b≠e->h.get? b=some u->h'.get? b=some u)(heo:∃u,h'.get? e=some u)
  (new:Uq P w (upd H x o') h' x o'):HOk P w (upd H x o') h':=λb u q=>by
 have nown:∀c y,H c=some (.own y)->c≠x:=λc y r z=>by subst z;rw[r]at mu;exact mu
 have ntup:∀c xs,H c=some (.tup xs)->c≠x:=λc xs r z=>by subst z;rw[r]at mu;exact mu
 by_cases hb:b=x
 ·subst hb;rw[Jai]at q;cases q;exact new
 ·rw[Jae hb]at q
  by_cases hbe:b=e
  ·have q':H b=some (.own x):=by
    rcases he with z|z
    ·exact absurd (hbe.trans z) hb
    ·rw[hbe];exact z
   rw[q]at q';cases q';obtain⟨v,hv⟩:=heo;exact⟨v,by rw[hbe];exact hv⟩
  ·refine(ok b u q).stay (λc v hc r=>k c v ?_ r) (λc r=>by rw[Jae (nown c b r)];exact r) λc xs r=>by rw[Jae (ntup c xs r)];exact r
   rcases hc with rfl|hc
   ·exact hbe
   ·rintro rfl;rcases he with z|z
    ·exact nown c b hc z
    ·rw[hc]at z;cases z;exact hb rfl
end
structure Un(fs ex:List Addr)(H H':Hp)(h h':Heap):Prop where
 keep:∀b o,h.get? b=some o->H b=none->b∉fs->b∉ex->h'.get? b=some o
 slot:∀b o,h.get? b=some o->H b=none->b∈fs->b∉ex->∃sl,h'.get? b=some {o with slots:=sl}
 free:∀b o,h.get? b=some o->H b=none->b∉ex->H' b=none
 there:∀b o,h.get? b=some o->b∉ex->∃o',h'.get? b=some o'
 tups:∀b xs,H b=some (.tup xs)->H' b=some (.tup xs)
 frzs:∀b o u,H b=some (.frz o u)->H' b=some (.frz o u)
 tbls:∀b ps,H b=some (.tbl ps)->∃more,H' b=some (.tbl (ps++more))
section
variable {fs fs' ex ex':List Addr} {H H1 H2:Hp} {h h1 h2 h':Heap} {a x e:Addr} {o:HO}
def Un.any(u:Un fs ex H H1 h h1)(q:h.get? b=some ob)(n:H b=none)(hx:b∉ex):∃sl,h1.get? b=some {ob with slots:=sl}:=by
 by_cases hb:b∈fs
 ·exact u.slot b ob q n hb hx
 ·exact⟨ob.slots,u.keep b ob q n hb hx⟩
def Un.kept(k:∀b u,h.get? b=some u->h'.get? b=some u):Un fs ex H H h h':=
 ⟨λb ob q _ _ _=>k b ob q,λb ob q _ _ _=>⟨ob.slots,k b ob q⟩,λ_ _ _ n _=>n,λb ob q _=>⟨ob,k b ob q⟩,λ_ _ q=>q,λ_ _ _ q=>q,λ_ ps q=>⟨#[],by rw[q];simp⟩⟩
def Un.refl:Un fs ex H H h h:=Un.kept λ_ _ q=>q
def Un.laid(k:∀b u,h.get? b=some u->h'.get? b=some u)(hp:h.objs.size<=a)(hn:H a=none):Un fs ex H (upd H a o) h h' where
 keep:=λb u q _ _ _=>k b u q
 slot:=λb u q _ _ _=>⟨u.slots,k b u q⟩
 free:=λb u q n _=>by rw[Jae (Au (Bf (Am q) hp))];exact n
 there:=λb u q _=>⟨u,k b u q⟩
 tups:=λb xs q=>by rw[Jae (Jam q hn)];exact q
 frzs:=λb u xs q=>by rw[Jae (Jam q hn)];exact q
 tbls:=λb ps q=>⟨#[],by rw[Jae (Jam q hn),q];simp⟩
def Un.write(mu:Mut (H x))(he:e=x\/H e=some (.own x))(k:∀b u,b≠e->h.get? b=some u->h'.get? b=some u)(heo:∃u,h'.get? e=some u):Un fs ex H (upd H x o) h h':=by
 have hx:∀b,H b=none->b≠x:=λb n z=>by subst z;rw[n]at mu;exact mu
 have hb:∀b,H b=none->b≠e:=λb n z=>by
  subst z;rcases he with r|r
  ·exact hx b n r
  ·rw[n]at r;cases r
 have hm:∀b u,H b=some u->¬Mut (some u)->b≠x:=λb u q nm z=>by subst z;rw[q]at mu;exact nm mu
 refine⟨λb u q n _ _=>k b u (hb b n) q,λb u q n _ _=>⟨u.slots,k b u (hb b n) q⟩,λb u q n _=>by rw[Jae (hx b n)];exact n,λb u q _=>?_,
  λb xs q=>by rw[Jae (hm b _ q λz=>z)];exact q,λb u xs q=>by rw[Jae (hm b _ q λz=>z)];exact q,λb ps q=>⟨#[],by rw[Jae (hm b _ q λz=>z),q];simp⟩⟩
 by_cases hbe:b=e
 ·subst hbe;exact heo
 ·exact⟨u,k b u hbe q⟩
end
noncomputable def trk(h:Heap)(H:Hp):List Addr:=(B1 h.objs.size).filter λa=>(H a).isSome
noncomputable def Wu(h:Heap)(H:Hp):Heap:=PySem.W.hideAll h (trk h H)
def Jm1(h:Heap)(H:Hp):(Wu h H).objs.size=h.objs.size:=PySem.W.hideAll_size _ _
def Jpv{h:Heap}(e:h.get? b=some o)(n:H b=none):(Wu h H).get? b=some o:=
 PySem.W.hideAll_get _ e λhm=>by
  have q:(H b).isSome=true:=(Hi.mp hm).2;rw[n]at q;simp at q
theorem Jt4{h:Heap}(e:(Wu h H).get? b=some o):h.get? b=some o/\H b=none:=by
 have e':h.get? b=some o:=PySem.W.of_hideAll (trk h H) e;refine⟨e',?_⟩;cases q:H b with
 |none=>rfl
 |some x=>
  have hm:b∈trk h H:=Hi.mpr ⟨Sh.mpr (Am e'),by simp[q]⟩;have z:(Wu h H).get? b=none:=PySem.W.hideAll_none (trk h H) hm;rw[z]at e;cases e
structure Mod(K:Af)(mg:Str->Option Value)(base:Heap):Prop where
 kin:K.In base
 glob:base.Ns Ax mg
 blt:∃mb,base.Ns Tc mb/\∀x:Str,x≠"__name__"->mb x=C8 x
 nolimit:base.NoLimit
structure Cx where
 prog:Program
 w:World
 K:Af
 mg:Str->Option Value
 base:Heap
 A:Bj
 N:List Str
 s₀:Shared
 H₀:Hp
 env:Env
 outer:List Env
 stack:List Env
 ex:List Addr
 fn:Str->Bool
 calm:Bool
 pn:List (Addr×Obj)
 xe:Value->Shared->Prop
noncomputable def frs(l:List Env):List Addr:=l.filterMap (·.frame)
noncomputable abbrev Cx.fs(X:Cx):List Addr:=frs X.outer
def Vis(sc:Hu)(x:Str):Prop:=sc.names.lookup x=some .local\/sc.names.lookup x=some .cell\/sc.names.lookup x=some .free
def Loc(sc:Hu)(x:Str):Prop:=sc.names.lookup x=some .local\/sc.names.lookup x=some .cell
def Look(env:Env)(h:Heap)(m:Str->Option Value)(x:Str)(u:Value):Prop:=
 (env.kindOf x=some .local/\m x=some u)\/((env.kindOf x=some .cell\/env.kindOf x=some .free)/\∃c,env.cells.lookup x=some c/\h.IsCell c (some u))
structure Cx.Ok(X:Cx):Prop where
 mod:Mod X.K X.mg X.base
 kind:X.env.scope.kind=.function
 glob:X.env.globals=Ax
 blt:X.env.builtins=Tc
 above:X.s₀.heap.objs.size<=X.env.locals
 inj:∀x y c,X.env.cells.lookup x=some c->X.env.cells.lookup y=some c->x=y
 has:∀x,(X.env.kindOf x=some .cell\/X.env.kindOf x=some .free)->∃c,X.env.cells.lookup x=some c
 cab:∀x c,X.fn x=true->X.env.cells.lookup x=some c->X.s₀.heap.objs.size<=c
 hd:X.calm=true->X.A.handled=none
 frames:X.A.frames=some X.stack
 stk:X.stack=X.outer\/(X.stack=X.env::X.outer/\X.env.frame=some X.env.locals)
 exf:∀b∈X.ex,b≠X.env.locals/\∀x c,X.env.cells.lookup x=some c->c≠b
 bs:∀b o,X.base.get? b=some o->X.s₀.heap.get? b=some o/\X.H₀ b=none
 bsz:X.base.objs.size<=X.s₀.heap.objs.size
 noex:∀b o,X.base.get? b=some o->b∉X.ex
 exfs:∀b∈X.ex,b∉X.fs
 funs:X.s₀.heap.FunFrames X.base X.outer
 frf:∀b∈X.fs,X.H₀ b=none
structure Inv(X:Cx)(pins:List (Addr×Obj))(U:List (Option V))(H:Hp)(s:Shared):Prop where
 ok:X.Ok
 os:s.os=X.s₀.os
 bare:Ki s.gens
 base:Un X.fs X.ex X.H₀ H X.s₀.heap s.heap
 loc:∃m,s.heap.Ns X.env.locals m/\∀(i:Nat) (x:Str) (v:V),X.N[i]? =some x->U[i]? =some (some v)->Vis X.env.scope x->∃u,RelV v u/\Look X.env s.heap m x u
 cell:∀x c,X.env.cells.lookup x=some c->∃v,s.heap.IsCell c v
 free:H X.env.locals=none
 freeC:∀x c,X.env.cells.lookup x=some c->H c=none
 pin:∀p∈X.pn++pins,s.heap.get? p.1=some p.2/\H p.1=none/\p.1≠X.env.locals/\p.1∉X.fs/\∀v,p.2.data≠ .cell v
 hok:HOk X.prog X.w H s.heap
 len:U.length=X.N.length
section
variable {X:Cx} {pins:List (Addr×Obj)} {U:List (Option V)} {H H':Hp} {s:Shared} {h':Heap}
def Cx.Ok.nofr(ok:X.Ok)(e:X.base.get? b=some o):b∉X.fs:=λhb=>by
 have:=(ok.funs.mem hb).1;rw[e]at this;cases this
def Inv.bs(I:Inv X pins U H s):∀b o,X.base.get? b=some o->s.heap.get? b=some o/\H b=none:=λb o e=>
 ⟨I.base.keep b o (I.ok.bs b o e).1 (I.ok.bs b o e).2 (I.ok.nofr e) (I.ok.noex b o e),I.base.free b o (I.ok.bs b o e).1 (I.ok.bs b o e).2 (I.ok.noex b o e)⟩
def Inv.bk(I:Inv X pins U H s):∀b o,X.base.get? b=some o->s.heap.get? b=some o:=λb o e=>(I.bs b o e).1
def Inv.mod(I:Inv X pins U H s):Mod X.K X.mg X.base:=I.ok.mod
def Inv.kIn(I:Inv X pins U H s):X.K.In s.heap:=I.ok.mod.kin.keeps I.bk
def Inv.lt(I:Inv X pins U H s):X.env.locals<s.heap.objs.size:=let⟨_,hn,_⟩:=I.loc;hn.lt
def Inv.sz(I:Inv X pins U H s):X.s₀.heap.objs.size<=s.heap.objs.size:=Bu I.ok.above (Ed I.lt)
def Inv.nofs(I:Inv X pins U H s)(h:s.heap.objs.size<=a):a∉X.fs:=λhb=>by
 obtain⟨_,o,ho,_⟩:=I.ok.funs.mem hb;exact absurd (Bf (Am ho) (Bu I.sz h)) (Ee _)
def Inv.cne(I:Inv X pins U H s):∀x c,X.env.cells.lookup x=some c->c≠X.env.locals:=λx c e z=>by
 obtain⟨v,o,ho,hd⟩:=I.cell x c e;obtain⟨m,⟨o',es,ep,ho',hd',_⟩,_⟩:=I.loc;rw[z,ho']at ho;cases ho;rw[hd']at hd;cases hd
def Inv.funs(I:Inv X pins U H s):s.heap.FunFrames X.base X.outer:=by
 have all:∀(l:List Env),(∀b∈frs l,b∈X.fs)->X.s₀.heap.FunFrames X.base l->s.heap.FunFrames X.base l:=by
  intro l
  induction l with
  |nil=>intro _ _;trivial
  |cons env r ih=>
   intro hs hl;obtain⟨hk,⟨L,o,hf,hn,ho,hd⟩,hr⟩:=hl;have hL:L∈X.fs:=hs L (by unfold frs;rw[F7,hf];exact Bm);obtain⟨sl,e⟩:=I.base.slot L o ho (I.ok.frf L hL) hL λz=>I.ok.exfs L z hL;exact⟨hk,⟨L,_,hf,hn,e,hd⟩,ih (λb hb=>hs b (by unfold frs;rw[F7,hf];exact Ay _ hb)) hr⟩
 exact all X.outer (λ_ hb=>hb) I.ok.funs
def Inv.stack(I:Inv X pins U H s):s.heap.FunFrames X.base X.stack:=by
 rcases I.ok.stk with e|⟨e,hf⟩
 ·rw[e];exact I.funs
 ·rw[e];obtain⟨m,hn,_⟩:=I.loc;refine .cons (by rw[I.ok.kind];decide) hf hn ?_ I.funs;exact Kb (Bu I.ok.bsz I.ok.above)
def Inv.stkSub(I:Inv X pins U H s):∀b∈frs X.stack,b∈X.env.locals::X.fs:=λb hb=>by
 rcases I.ok.stk with e|⟨e,hf⟩
 ·rw[e]at hb;exact Ay _ hb
 ·rw[e]at hb;unfold frs at hb;rw[F7,hf]at hb;exact hb
def Inv.stkFree(I:Inv X pins U H s):∀b∈frs X.stack,H b=none:=λb hb=>by
 rcases An.mp (I.stkSub b hb)with e|hb
 ·rw[e];exact I.free
 ·obtain⟨_,o,ho,_⟩:=I.ok.funs.mem hb;exact I.base.free b o ho (I.ok.frf b hb) λz=>I.ok.exfs b z hb
def Inv.step{ch:List Addr}(I:Inv X pins U H s)
  (hch:∀b∈ch,(b∈X.ex\/X.s₀.heap.objs.size<=b)/\b≠X.env.locals/\(∀x c,X.env.cells.lookup x=some c->c≠b)/\∀p∈X.pn++pins,p.1≠b)
  (keep:∀b o,b≠X.env.locals->b∉X.fs->b∉ch->s.heap.get? b=some o->H b=none->h'.get? b=some o)
  (slot:∀b o,b≠X.env.locals->b∈X.fs->b∉ch->s.heap.get? b=some o->H b=none->∃sl,h'.get? b=some {o with slots:=sl})(free:∀b o,b∉ch->s.heap.get? b=some o->H b=none->H' b=none)
  (there:∀b o,b∉ch->s.heap.get? b=some o->∃o',h'.get? b=some o')
  (tups:∀b xs,H b=some (.tup xs)->H' b=some (.tup xs))(frzs:∀b o u,H b=some (.frz o u)->H' b=some (.frz o u))(tbls:∀b ps,H b=some (.tbl ps)->∃more,H' b=some (.tbl (ps++more)))
  (ns:∀m,s.heap.Ns X.env.locals m->h'.Ns X.env.locals m)(hok:HOk X.prog X.w H' h')(hg:Ki g'):
  Inv X pins U H' {s with heap:=h',gens:=g',drawn:=d',toks:=t'}:=by
 have neL:∀b o,X.s₀.heap.get? b=some o->b≠X.env.locals:=λb o e=>Au (Bf (Am e) I.ok.above);have neC:∀b o,X.s₀.heap.get? b=some o->b∉X.ex->b∉ch:=λb o e hx hb=>by
  rcases(hch b hb).1 with z|z
  ·exact hx z
  ·exact absurd (Bf (Am e) z) (Ee _)
 have cellK:∀x c,X.env.cells.lookup x=some c->∀v,s.heap.IsCell c v->h'.IsCell c v:=λx c e v ⟨o,ho,hd⟩=>by
  have nch:c∉ch:=λz=>(hch c z).2.2.1 x c e rfl
  by_cases hc:c∈X.fs
  ·obtain⟨sl,q⟩:=slot c o (I.cne x c e) hc nch ho (I.freeC x c e);exact⟨_,q,hd⟩
  ·exact⟨o,keep c o (I.cne x c e) hc nch ho (I.freeC x c e),hd⟩
 refine⟨I.ok,I.os,hg,⟨λb o e n hb hx=>?_,λb o e n hb hx=>?_,λb o e n hx=>?_,λb o e hx=>?_,λb xs e=>tups b xs (I.base.tups b xs e),λb o xs e=>frzs b o xs (I.base.frzs b o xs e),λb ps e=>?_⟩,?_,λx c e=>?_,?_,λx c e=>?_,λp hp=>?_,hok,I.len⟩
 ·exact keep b o (neL b o e) hb (neC b o e hx) (I.base.keep b o e n hb hx) (I.base.free b o e n hx)
 ·obtain⟨sl,e1⟩:=I.base.slot b o e n hb hx;obtain⟨sl',e2⟩:=slot b _ (neL b o e) hb (neC b o e hx) e1 (I.base.free b o e n hx);exact⟨sl',e2⟩
 ·obtain⟨o',e1⟩:=I.base.there b o e hx;exact free b o' (neC b o e hx) e1 (I.base.free b o e n hx)
 ·obtain⟨o',e1⟩:=I.base.there b o e hx;exact there b o' (neC b o e hx) e1
 ·obtain⟨m1,e1⟩:=I.base.tbls b ps e;obtain⟨m2,e2⟩:=tbls b _ e1;exact⟨m1++m2,by rw[e2,Array.append_assoc]⟩
 ·obtain⟨m,hn,hl⟩:=I.loc;refine⟨m,ns m hn,λi x v e1 e2 e3=>?_⟩;obtain⟨u,r,l⟩:=hl i x v e1 e2 e3;refine⟨u,r,?_⟩;rcases l with l|⟨k,c,e,z⟩
  ·exact .inl l
  ·exact .inr ⟨k,c,e,cellK x c e _ z⟩
 ·obtain⟨v,z⟩:=I.cell x c e;exact⟨v,cellK x c e v z⟩
 ·obtain⟨m,⟨o,_,_,ho,_⟩,_⟩:=I.loc;exact free _ o (λz=>(hch _ z).2.1 rfl) ho I.free
 ·obtain⟨v,o,ho,hd⟩:=I.cell x c e;exact free c o (λz=>(hch c z).2.2.1 x c e rfl) ho (I.freeC x c e)
 ·obtain⟨e,n,ne,nf,d⟩:=I.pin p hp;have nch:p.1∉ch:=λz=>(hch p.1 z).2.2.2 p hp rfl;exact⟨keep p.1 p.2 ne nf nch e n,free p.1 p.2 nch e n,ne,nf,d⟩
def Inv.un(I:Inv X pins U H s)(u:Un X.fs [] H H' s.heap h')(hok:HOk X.prog X.w H' h'):Inv X pins U H' {s with heap:=h',toks:=t'}:=by
 obtain⟨m,⟨o,es,ep,ho,r⟩,_⟩:=id I.loc;obtain⟨sl,hL⟩:=u.any ho I.free (by simp);exact I.step (g':=s.gens) (d':=s.drawn) (ch:=[]) (λ_ z=>nomatch z) (λb o _ hb _ e n=>u.keep b o e n hb (by simp)) (λb o _ hb _ e n=>u.slot b o e n hb (by simp)) (λb o _ e n=>u.free b o e n (by simp)) (λb o _ e=>u.there b o e (by simp)) u.tups u.frzs u.tbls (λm' hm=>by
  obtain⟨o',es',ep',ho',r'⟩:=hm;rw[ho]at ho';cases ho';exact⟨_,es',ep',hL,r'⟩) hok I.bare
def Inv.call(I:Inv X pins U H s)(u:Un (frs X.stack) ch H H' s.heap h')(hok:HOk X.prog X.w H' h')(hg:Ki g')
  (hch:∀b∈ch,(b∈X.ex\/X.s₀.heap.objs.size<=b)/\b≠X.env.locals/\(∀x c,X.env.cells.lookup x=some c->c≠b)/\∀p∈X.pn++pins,p.1≠b):
  Inv X pins U H' {s with heap:=h',gens:=g',drawn:=d',toks:=t'}:=by
 obtain⟨m,⟨o,es,ep,ho,r⟩,_⟩:=id I.loc;obtain⟨sl,hL⟩:=u.any ho I.free λz=>(hch _ z).2.1 rfl;exact I.step (ch:=ch) hch (λb o hL hb hc e n=>u.keep b o e n (λz=>(An.mp (I.stkSub b z)).elim hL hb) hc) (λb o _ _ hc e n=>u.any e n hc) (λb o hc e n=>u.free b o e n hc) (λb o hc e=>u.there b o e hc) u.tups u.frzs u.tbls (λm' hm=>by
  obtain⟨o',es',ep',ho',r'⟩:=hm;rw[ho]at ho';cases ho';exact⟨_,es',ep',hL,r'⟩) hok hg
def Inv.turned(I:Inv X pins U H s)(k:∀b o,b≠it->s.heap.get? b=some o->h'.get? b=some o)(hn:H it=none)(hL:it≠X.env.locals)
  (h1:it∈X.ex\/X.s₀.heap.objs.size<=it)(h2:∀x c,X.env.cells.lookup x=some c->c≠it)(h3:∀p∈X.pn++pins,p.1≠it):Inv X pins U H {s with heap:=h',toks:=t'}:=by
 have nit:∀b u,H b=some u->b≠it:=λb u e z=>by rw[z,hn]at e;cases e
 refine I.step (g':=s.gens) (d':=s.drawn) (ch:=[it]) (λb hb=>?_) (λb o _ _ hc e _=>k b o (λz=>hc (by simp[z])) e) (λb o _ _ hc e _=>⟨o.slots,k b o (λz=>hc (by simp[z])) e⟩) (λ_ _ _ _ n=>n)
  (λb o hc e=>⟨o,k b o (λz=>hc (by simp[z])) e⟩) (λ_ _ e=>e) (λ_ _ _ e=>e) (λb ps e=>⟨#[],by rw[e];simp⟩) (λm hm=>?_) (λb u e=>?_) I.bare
 ·have e:b=it:=by simpa using hb
  subst e;exact⟨h1,hL,h2,h3⟩
 ·obtain⟨o,es,ep,ho,r⟩:=hm;exact⟨o,es,ep,k _ o (D7 hL) ho,r⟩
 ·refine(I.hok b u e).stay (λc v hc q=>k c v ?_ q) (λ_ q=>q) λ_ _ q=>q;rcases hc with z|z
  ·rw[z];exact nit b u e
  ·exact nit c _ z
def Inv.tok(I:Inv X pins U H s)(t:Nat):Inv X pins U H {s with toks:=t}:=I.un (h':=s.heap) (t':=t) Un.refl I.hok
def Inv.kept(I:Inv X pins U H s)(k:∀b u,s.heap.get? b=some u->h'.get? b=some u):Inv X pins U H {s with heap:=h',toks:=t'}:=I.un (Un.kept k) (I.hok.kept k)
def Inv.laid(I:Inv X pins U H s)(k:∀b u,s.heap.get? b=some u->h'.get? b=some u)(hp:s.heap.objs.size<=a)(new:Uq X.prog X.w (upd H a o) h' a o):
  Inv X pins U (upd H a o) {s with heap:=h',toks:=t'}:=I.un (Un.laid k hp (I.hok.fresh hp)) (I.hok.laid k hp new)
def Inv.write(I:Inv X pins U H s)(mu:Mut (H x))(he:e=x\/H e=some (.own x))(k:∀b u,b≠e->s.heap.get? b=some u->h'.get? b=some u)(heo:∃u,h'.get? e=some u)
  (new:Uq X.prog X.w (upd H x o) h' x o):Inv X pins U (upd H x o) {s with heap:=h',toks:=t'}:=I.un (Un.write mu he k heo) (I.hok.write mu he k heo new)
def Inv.pins_of{pins':List (Addr×Obj)}(I:Inv X pins U H s)(h:∀p∈pins',s.heap.get? p.1=some p.2/\H p.1=none/\p.1≠X.env.locals/\p.1∉X.fs/\∀v,p.2.data≠ .cell v):Inv X pins' U H s:=
 ⟨I.ok,I.os,I.bare,I.base,I.loc,I.cell,I.free,I.freeC,λp hp=>(Bo.mp hp).elim (λz=>I.pin p (C5 _ z)) (h p),I.hok,I.len⟩
def Jjn{N:List Str}(hN:N.Nodup){i j:Nat}{x:Str}(a:N[i]? =some x)(b:N[j]? =some x):i=j:=by
 obtain⟨h1,e1⟩:=Ae.mp a;obtain⟨h2,e2⟩:=Ae.mp b;exact(List.getElem_inj hN).mp (e1.trans e2.symm)
def Jg0{M:Rk}{A:Bj}{E:Value->Shared->Prop}{i:Nat}{x:Str}{v:V}{u:Value}{Q:Unit->Shared->Prop}(I:Inv X pins U H s)(hN:X.N.Nodup)(hi:X.N[i]? =some x)(hx:Loc X.env.scope x)(r:RelV v u)
  (h:∀s',Inv X pins (U.set i (some v)) H s'->(∃a,C0 a s.heap s'.heap/\(a=X.env.locals\/X.env.cells.lookup x=some a))->Q () s')(hf:X.fn x=true\/X.env.scope.names.lookup x=some .local:=by first|exact .inl rfl|exact .inr rfl|assumption):wpAny M A (storeName X.env x u) Q E s:=by
 obtain⟨m,hn,hl⟩:=id I.loc;have hcls:(X.env.scope.kind== .class||(X.env.scope.kind== .module&&X.env.locals !=X.env.globals))=false:=by rw[I.ok.kind];rfl
 have hiσ:i<U.length:=by rw[I.len];exact(Ae.mp hi).1
 have cne:=I.cne;have tracked:∀{a:Addr} {h':Heap},(∃o,s.heap.get? a=some o/\H a=none)->C0 a s.heap h'->HOk X.prog X.w H h':=λ{a h'} ha hs b ob e=>by
  obtain⟨_,_,hfree⟩:=ha;refine(I.hok b ob e).stay (λc w' hc q=>(hs.2 c ?_).trans q) (λ_ q=>q) λ_ _ q=>q;rintro rfl;rcases hc with rfl|hc
  ·rw[hfree]at e;cases e
  ·rw[hfree]at hc;cases hc
 rcases hx with hk|hk
 ·refine wpAny_storeName_local hk hn (λh' hn' hs=>?_) hcls;obtain⟨oL,_,_,hoL,_⟩:=id hn;refine h _ ⟨I.ok,I.os,I.bare,⟨λb o e n hb hx=>?_,λb o e n hb hx=>?_,I.base.free,λb o e hx=>?_,I.base.tups,I.base.frzs,I.base.tbls⟩,⟨_,hn',λj y v' e1 e2 e3=>?_⟩,λy c e=>?_,I.free,I.freeC,λp hp=>?_,tracked ⟨oL,hoL,I.free⟩ hs,by simpa using I.len⟩ ⟨_,hs,.inl rfl⟩
  ·exact(hs.2 b (Au (Bf (Am e) I.ok.above))).trans (I.base.keep b o e n hb hx)
  ·obtain⟨sl,e1⟩:=I.base.slot b o e n hb hx;exact⟨sl,(hs.2 b (Au (Bf (Am e) I.ok.above))).trans e1⟩
  ·obtain⟨o',e1⟩:=I.base.there b o e hx;exact⟨o',(hs.2 b (Au (Bf (Am e) I.ok.above))).trans e1⟩
  ·by_cases hj:j=i
   ·subst hj;rw[hi]at e1;cases e1;rw[Di hiσ]at e2;cases e2;exact⟨u,r,.inl ⟨hk,by simp⟩⟩
   ·rw[Aw (D7 hj)]at e2;obtain⟨u',r',q⟩:=hl j y v' e1 e2 e3;refine⟨u',r',?_⟩;rcases q with⟨k,e⟩|⟨k,c,e,z⟩
    ·refine .inl ⟨k,?_⟩;have:y≠x:=λe=>hj (Jjn hN e1 (e▸hi));simp[this,e]
    ·exact .inr ⟨k,c,e,z.sameBut hs (cne y c e)⟩
  ·obtain⟨w',z⟩:=I.cell y c e;exact⟨w',z.sameBut hs (cne y c e)⟩
  ·obtain⟨e,n,ne,nf,d⟩:=I.pin p hp;exact⟨(hs.2 p.1 ne).trans e,n,ne,nf,d⟩
 ·have hfn:X.fn x=true:=by
   rcases hf with z|z
   ·exact z
   ·rw[z]at hk;cases hk
  obtain⟨c,hc⟩:=I.ok.has x (.inl hk);obtain⟨w',z⟩:=I.cell x c hc;refine wpAny_storeName_cell I.ok.kind hk hc z (λh' hc' hs=>?_);obtain⟨oc,hoc,hocd⟩:=id z;refine h {s with heap:=h'} ⟨I.ok,I.os,I.bare,⟨λb o e n hb hx=>?_,λb o e n hb hx=>?_,I.base.free,λb o e hx=>?_,I.base.tups,I.base.frzs,I.base.tbls⟩,⟨m,hn.sameBut hs (D7 (cne x c hc)),λj y v' e1 e2 e3=>?_⟩,λy c' e=>?_,I.free,I.freeC,λp hp=>?_,tracked ⟨oc,hoc,I.freeC x c hc⟩ hs,by simpa using I.len⟩ ⟨c,hs,.inr hc⟩
  ·exact(hs.2 b (Au (Bf (Am e) (I.ok.cab x c hfn hc)))).trans (I.base.keep b o e n hb hx)
  ·obtain⟨sl,e1⟩:=I.base.slot b o e n hb hx;exact⟨sl,(hs.2 b (Au (Bf (Am e) (I.ok.cab x c hfn hc)))).trans e1⟩
  ·obtain⟨o',e1⟩:=I.base.there b o e hx;exact⟨o',(hs.2 b (Au (Bf (Am e) (I.ok.cab x c hfn hc)))).trans e1⟩
  ·by_cases hj:j=i
   ·subst hj;rw[hi]at e1;cases e1;rw[Di hiσ]at e2;cases e2;exact⟨u,r,.inr ⟨.inl hk,c,hc,hc'⟩⟩
   ·rw[Aw (D7 hj)]at e2;obtain⟨u',r',q⟩:=hl j y v' e1 e2 e3;refine⟨u',r',?_⟩;rcases q with q|⟨k,c',e,z'⟩
    ·exact .inl q
    ·refine .inr ⟨k,c',e,z'.sameBut hs ?_⟩;rintro rfl;exact hj (Jjn hN e1 (I.ok.inj _ _ _ e hc▸hi))
  ·by_cases hcc:c'=c
   ·subst hcc;exact⟨_,hc'⟩
   ·obtain⟨w2,z2⟩:=I.cell y c' e;exact⟨w2,z2.sameBut hs hcc⟩
  ·obtain⟨e,n,ne,nf,d⟩:=I.pin p hp;refine⟨(hs.2 p.1 ?_).trans e,n,ne,nf,d⟩;intro q;rw[q,hoc]at e;have q':oc=p.2:=Bi e;exact d w' (by rw[<-q'];exact hocd)
def Jfq{E:Value->Shared->Prop}{Q:Unit->Shared->Prop}(I:Inv X pins U H s)(hN:X.N.Nodup)(hi:X.N[i]? =some x)(hx:Loc X.env.scope x)(r:RelV v u)
  (h:∀s',Inv X pins (U.set i (some v)) H s'->Q () s')(hf:X.fn x=true\/X.env.scope.names.lookup x=some .local:=by first|exact .inl rfl|exact .inr rfl|assumption):wpAny M A (storeName X.env x u) Q E s:=
 Jg0 I hN hi hx r (λs' I' _=>h s' I') hf
def Inv.call'{s':Shared}(I:Inv X pins U H s)(ho:s'.os=s.os)(u:Un (frs X.stack) ch H H' s.heap s'.heap)(hok:HOk X.prog X.w H' s'.heap)(hg:Ki s'.gens)
  (hch:∀b∈ch,(b∈X.ex\/X.s₀.heap.objs.size<=b)/\b≠X.env.locals/\(∀x c,X.env.cells.lookup x=some c->c≠b)/\∀p∈X.pn++pins,p.1≠b):Inv X pins U H' s':=by
 obtain⟨h',g',d',t',o'⟩:=s';have e:o'=s.os:=ho;subst e;exact I.call (g':=g') (t':=t') (d':=d') u hok hg hch
end
abbrev XK:=Value->Option Addr->Hp->Prop
abbrev St:=List (Option V)
abbrev VK:=V->Hp->Prop
abbrev TE:=St->Hp->VK->Prop
abbrev TT:=St->Hp->(Bool->Hp->Prop)->Prop
abbrev TA:=St->Hp->(List V->Hp->Prop)->Prop
structure Ends where
 nx:St->Hp->Prop
 rt:VK
 bk:St->Hp->Prop:=λ_ _=>False
 ct:St->Hp->Prop:=λ_ _=>False
abbrev TS:=Ends->St->Hp->Prop
def EP(X:Cx)(pins:List (Addr×Obj))(U:St)(Q:VK)(u:Value)(s':Shared):Prop:=∃v H',Inv X pins U H' s'/\RelV v u/\Q v H'
def TP(X:Cx)(pins:List (Addr×Obj))(U:St)(Q:Bool->Hp->Prop)(b:Bool)(s':Shared):Prop:=∃H',Inv X pins U H' s'/\Q b H'
def AP(X:Cx)(pins:List (Addr×Obj))(U:St)(Q:List V->Hp->Prop)(us:List Value)(s':Shared):Prop:=∃vs H',Inv X pins U H' s'/\Vals vs us/\Q vs H'
def SP(X:Cx)(pins:List (Addr×Obj))(D:Ends)(f:Flow)(s':Shared):Prop:=
 match f with
 |.next=>∃U' H',Inv X pins U' H' s'/\D.nx U' H'
 |.brk=>∃U' H',Inv X pins U' H' s'/\D.bk U' H'
 |.cont=>∃U' H',Inv X pins U' H' s'/\D.ct U' H'
 |.ret u=>∃v U' H',Inv X pins U' H' s'/\RelV v u/\D.rt v H'
def PE(X:Cx)(e:Expr)(t:TE):Prop:=
 ∀(pins:List (Addr×Obj)) (s:Shared) (U:St) (H:Hp) (Q:VK),Inv X pins U H s->t U H Q->wpAny (model X.prog X.w) X.A (eval e X.env) (EP X pins U Q) X.xe s
def PT(X:Cx)(e:Expr)(t:TT):Prop:=
 ∀(pins:List (Addr×Obj)) (s:Shared) (U:St) (H:Hp) (Q:Bool->Hp->Prop),Inv X pins U H s->t U H Q->wpAny (model X.prog X.w) X.A (isTrue e X.env (eval e X.env)) (TP X pins U Q) X.xe s
def PW(X:Cx)(e:Expr)(t:TT):Prop:=
 ∀(whole:Sem Value) (pins:List (Addr×Obj)) (s:Shared) (U:St) (H:Hp) (Q:Bool->Hp->Prop),Inv X pins U H s->t U H Q->wpAny (model X.prog X.w) X.A (isTrue e X.env whole) (TP X pins U Q) X.xe s
def PW.pt(h:PW X e t):PT X e t:=h _
def PA(X:Cx)(es:List Expr)(t:TA):Prop:=
 ∀(pos:Pos) (pins:List (Addr×Obj)) (s:Shared) (U:St) (H:Hp) (Q:List V->Hp->Prop),Inv X pins U H s->t U H Q->wpAny (model X.prog X.w) X.A (Qf (D5 pos (Bl es X.env))) (AP X pins U Q) X.xe s
def PS(X:Cx)(st:Stmt)(t:TS):Prop:=
 ∀(pins:List (Addr×Obj)) (s:Shared) (U:St) (H:Hp) (D:Ends),Inv X pins U H s->t D U H->wpAny (model X.prog X.w) X.A (exec st X.env) (SP X pins D) X.xe s
def PSs(X:Cx)(st:List Stmt)(t:TS):Prop:=
 ∀(pins:List (Addr×Obj)) (s:Shared) (U:St) (H:Hp) (D:Ends),Inv X pins U H s->t D U H->wpAny (model X.prog X.w) X.A (execs st X.env) (SP X pins D) X.xe s
def thn{α:Type}{t:Sem α}{Q Q':α->Shared->Prop}{M:Rk}{A:Bj}{E:Value->Shared->Prop}{s:Shared}(h:wpAny M A t Q E s)(hQ:∀a s,Q a s->Q' a s):wpAny M A t Q' E s:=B3 h hQ λ_ _ x=>x
section
variable {X:Cx}
def bin{a b:Expr}{ta tb:TE}(ha:PE X a ta)(hb:PE X b tb){pins:List (Addr×Obj)}{s:Shared}{U:St}{H:Hp}{R:V->V->Hp->Prop}(I:Inv X pins U H s)(h:ta U H λx H1=>tb U H1 λy H2=>R x y H2)
  {α:Type}{Q:α->Shared->Prop}{f:Value->Value->Sem α}
  (hf:∀v u s2 x y H2,Inv X pins U H2 s2->RelV x v->RelV y u->R x y H2->wpAny (model X.prog X.w) X.A (f v u) Q X.xe s2):
  wpAny (model X.prog X.w) X.A (eval a X.env) (λv s₁=>wpAny (model X.prog X.w) X.A (eval b X.env) (λu s₂=>wpAny (model X.prog X.w) X.A (f v u) Q X.xe s₂) X.xe s₁) X.xe s:=by
 refine thn (ha pins s U H _ I h) λv s1 ⟨x,H1,I1,r1,q1⟩=>?_;refine thn (hb pins s1 U H1 _ I1 q1) λu s2 ⟨y,H2,I2,r2,q2⟩=>?_;exact hf v u s2 x y H2 I2 r1 r2 q2
def Wed(i:Nat):TE:=λU H Q=>∃v,U[i]? =some (some v)/\Q v H
def tC(v:V):TE:=λ_ H Q=>Q v H
def Jxm(hN:X.N[i]? =some x)(hv:Vis X.env.scope x)(hd:(x==("__debug__":Str))=false:=by decide)(hcd:(x==("__classdict__":Str))=false:=by decide):PE X (.Name x pos) (Wed i):=by
 intro pins s U H Q I h;obtain⟨v,e,h⟩:=h;obtain⟨m,hn,hl⟩:=I.loc;obtain⟨u,r,l⟩:=hl i x v hN e hv;have fin:EP X pins U Q u s:=⟨v,H,I,r,h⟩
 rcases l with⟨hk,hm⟩|⟨hk,c,hc,hcell⟩
 ·exact Sv (Q8 I.ok.kind hk hn hm fin) hd
 ·rcases hk with hk|hk
  ·exact Sv (Rv I.ok.kind hk hc hcell fin) hd
  ·exact Sv (wpAny_loadName_free I.ok.kind hk hc hcell fin hcd) hd
def Jxs{i j pos}:PE X (.Constant (.int i) j pos) (tC (.int i)):=λ_ _ _ H _ I h=>wpAny_Constant_int ⟨.int i,H,I.tok _,⟨_,rfl⟩,h⟩
def J0u{b j pos}:PE X (.Constant (.bool b) j pos) (tC (.bl b)):=λ_ _ _ H _ I h=>Constant_bool ⟨.bl b,H,I,rfl,h⟩
def Jxq{j pos}:PE X (.Constant .none j pos) (tC .non):=λ_ _ _ H _ I h=>Constant_none ⟨.non,H,I,rfl,h⟩
def Jxo{x j pos}:PE X (.Constant (.str x) j pos) (tC (.str x)):=λ_ _ _ H _ I h=>Calls.Constant_str ⟨.str x,H,I.tok _,⟨_,rfl⟩,h⟩
def Gl(X:Cx)(x:Str):Prop:=X.env.kindOf x=some .globalImplicit
def Jf1{E:Value->Shared->Prop}{Q:Value->Shared->Prop}(I:Inv X pins U H s)(hg:Gl X x)(hm:X.mg x=some u)(h:Q u s)
  (hd:(x==("__debug__":Str))=false:=by decide):wpAny (model X.prog X.w) X.A (eval (.Name x pos) X.env) Q E s:=
 Mr I.ok.kind hg (Calls.loadGlobal_global (by rw[I.ok.glob];exact I.mod.glob.keeps I.bk) hm h) hd
def Jcf{E:Value->Shared->Prop}{Q:Value->Shared->Prop}(I:Inv X pins U H s)(hg:Gl X x)(hm:X.mg x=none)(hv:C8 x=some u)(h:Q u s)
  (hn:x≠"__name__":=by decide)(hd:(x==("__debug__":Str))=false:=by decide):wpAny (model X.prog X.w) X.A (eval (.Name x pos) X.env) Q E s:=by
 obtain⟨mb,h1,h2⟩:=I.mod.blt;exact Mr I.ok.kind hg (Calls.loadGlobal_builtin (by rw[I.ok.glob];exact I.mod.glob.keeps I.bk) hm (by rw[I.ok.blt];exact h1.keeps I.bk) ((h2 x hn).trans hv) h) hd
def Jl8(hg:Gl X x)(hm:X.mg x=some u)(r:RelV v u)(hd:(x==("__debug__":Str))=false:=by decide):PE X (.Name x pos) (tC v):=
 λ_ _ _ H _ I h=>Jf1 I hg hm ⟨v,H,I,r,h⟩ hd
def Jty(hg:Gl X x)(hm:X.mg x=none)(hv:C8 x=some u)(r:RelV v u)(hn:x≠"__name__":=by decide)(hd:(x==("__debug__":Str))=false:=by decide):PE X (.Name x pos) (tC v):=
 λ_ _ _ H _ I h=>Jcf I hg hm hv ⟨v,H,I,r,h⟩ hn hd
variable {a b:Expr} {ta tb:TE} {pos:Pos}
variable {tA tB':TT} {rest:List Expr}
def Wet(t u:TT):TT:=λU H Q=>t U H λc H1=>if c=true then u U H1 Q else Q false H1
def tOr(t u:TT):TT:=λU H Q=>t U H λc H1=>if c=true then Q true H1 else u U H1 Q
def Wei(t:TT):TT:=λU H Q=>t U H λc H1=>Q (!c) H1
theorem Jta(ha:PT X a tA):PW X (.BoolOp .And [a] pos) tA:=by
 intro wh pins s U H Q I h;refine isTrue_and (thn (ha pins s U H Q I h) λc s1 e=>?_);cases c with
 |true=>exact isTrue_and_nil e
 |false=>exact e
theorem Jxa(ha:PT X a tA):PW X (.BoolOp .Or [a] pos) tA:=by
 intro wh pins s U H Q I h;refine isTrue_or (thn (ha pins s U H Q I h) λc s1 e=>?_);cases c with
 |false=>exact isTrue_or_nil e
 |true=>exact e
theorem Jxb(ha:PT X a tA)(hb:PW X (.BoolOp .And (b::rest) pos) tB'):PW X (.BoolOp .And (a::b::rest) pos) (Wet tA tB'):=by
 intro wh pins s U H Q I h;refine isTrue_and (thn (ha pins s U H _ I h) λc s1 ⟨H1,I1,q1⟩=>?_);cases c with
 |true=>exact hb wh pins s1 U H1 Q I1 q1
 |false=>exact⟨H1,I1,q1⟩
theorem J0m(ha:PT X a tA)(hb:PW X (.BoolOp .Or (b::rest) pos) tB'):PW X (.BoolOp .Or (a::b::rest) pos) (tOr tA tB'):=by
 intro wh pins s U H Q I h;refine isTrue_or (thn (ha pins s U H _ I h) λc s1 ⟨H1,I1,q1⟩=>?_);cases c with
 |true=>exact⟨H1,I1,q1⟩
 |false=>exact hb wh pins s1 U H1 Q I1 q1
def Jxc(ha:PT X a tA):PT X (.UnaryOp .Not a pos) (Wei tA):=by
 intro pins s U H Q I h;exact isTrue_not (ha pins s U H (λc H1=>Q (!c) H1) I h)
def Zw(ta tb:TE):TE:=λU H Q=>ta U H λx H1=>∃c,x=.bl c/\if c=true then tb U H1 Q else Q (.bl false) H1
def Weh(ta tb:TE):TE:=λU H Q=>ta U H λx H1=>∃c,x=.bl c/\if c=true then Q (.bl true) H1 else tb U H1 Q
def Jxp{op}(h:PE X a t):PE X (.BoolOp op [a] pos) t:=λpins s U H Q I hw=>BoolOp_one (h pins s U H Q I hw)
theorem Jxu(ha:PE X a ta)(hb:PE X (.BoolOp .And (b::rest) pos) tb):PE X (.BoolOp .And (a::b::rest) pos) (Zw ta tb):=by
 intro pins s U H Q I h;refine BoolOp_and (thn (ha pins s U H _ I h) λv s1 ⟨x,H1,I1,r1,q1⟩=>?_);obtain⟨c,rfl,q1⟩:=q1;cases r1;refine Dl ?_;cases c with
 |true=>exact hb pins s1 U H1 Q I1 q1
 |false=>exact⟨.bl false,H1,I1,rfl,q1⟩
theorem J0q(ha:PE X a ta)(hb:PE X (.BoolOp .Or (b::rest) pos) tb):PE X (.BoolOp .Or (a::b::rest) pos) (Weh ta tb):=by
 intro pins s U H Q I h;refine BoolOp_or (thn (ha pins s U H _ I h) λv s1 ⟨x,H1,I1,r1,q1⟩=>?_);obtain⟨c,rfl,q1⟩:=q1;cases r1;refine Dl ?_;cases c with
 |false=>exact hb pins s1 U H1 Q I1 q1
 |true=>exact⟨.bl true,H1,I1,rfl,q1⟩
def tIf(t:TT)(ta tb:TE):TE:=λU H Q=>t U H λc H1=>if c=true then ta U H1 Q else tb U H1 Q
theorem Jox{c:Expr}(hc:PT X c tA)(ha:PE X a ta)(hb:PE X b tb):PE X (.IfExp c a b pos) (tIf tA ta tb):=by
 intro pins s U H Q I h;refine wpAny_IfExp (thn (hc pins s U H _ I h) λd s1 ⟨H1,I1,q1⟩=>?_);cases d with
 |true=>exact ha pins s1 U H1 Q I1 q1
 |false=>exact hb pins s1 U H1 Q I1 q1
end
def SqL(K:Af)(H:Hp)(a:Addr)(xs:List V):Prop:=
 Rd H a (.lst xs)\/
  ∃(o:Obj) (its:Array Value) (n:Nat),K.lookup a=some o/\o.cls=.type "list"/\o.dict=none/\o.data=.seq its n/\its.size<=sizeLine/\Vals xs its.toList
def SqT(K:Af)(H:Hp)(a:Addr)(xs:List V):Prop:=
 H a=some (.tup xs)\/
  ∃(o:Obj) (its:Array Value) (n:Nat),K.lookup a=some o/\o.cls=.type "tuple"/\o.data=.seq its n/\its.size<=sizeLine/\Vals xs its.toList
noncomputable def Wgd:Value->Option V
 |.none=>some .non
 |.bool b=>some (.bl b)
 |.int i _=>some (.int i)
 |.str x _=>some (.str x)
 |.bytes b _=>some (.byt b)
 |.float b _=>some (.flt b)
 |.ref a=>some (.ref a)
 |.type n=>some (.ty n)
 |_=>none
theorem RelV.abs(r:RelV x u):Wgd u=some x:=by
 cases x with
 |non=>cases r;rfl
 |bl _=>cases r;rfl
 |int _=>obtain⟨t,rfl⟩:=r;rfl
 |str _=>obtain⟨t,rfl⟩:=r;rfl
 |byt _=>obtain⟨t,rfl⟩:=r;rfl
 |flt _=>obtain⟨t,rfl⟩:=r;rfl
 |ref _=>cases r;rfl
 |ty _=>cases r;rfl
def RelV.inj(r:RelV x u)(q:RelV y u):x=y:=Bi (r.abs.symm.trans q.abs)
theorem Vals.inj:∀{xs ys:List V} {us:List Value},Vals xs us->Vals ys us->xs=ys
 |_,_,_,.nil,.nil=>rfl
 |_,_,_,.cons r t,.cons r' t'=>by rw[r.inj r',Vals.inj t t']
section
variable {X:Cx} {pins:List (Addr×Obj)} {U:St} {H:Hp} {s:Shared} {a:Addr} {xs ys:List V}
def SqL.of{K:Af}(h:H a=some (.lst xs)):SqL K H a xs:=.inl (.inl h)
def SqT.of{K:Af}(h:H a=some (.tup xs)):SqT K H a xs:=.inl h
inductive InvL (s:Shared) (a:Addr) (xs:List V):Prop
 |mk (its:List Value) (_:Vals xs its) (_:PlainL s.heap a its.toArray) (_:xs.length<=sizeLine):InvL s a xs
def Inv.list(I:Inv X pins U H s)(h:SqL X.K H a xs):InvL s a xs:=by
 rcases h with h|⟨o,its,n,hk,hc,hd,hs,hz,r⟩
 ·obtain⟨z,its,n,r,e⟩:=h.ok I.hok;exact⟨its,r,⟨_,n,e,rfl,rfl,rfl⟩,z⟩
 ·refine⟨its.toList,r,⟨o,n,I.kIn a o hk,hc,hd,by simpa using hs⟩,?_⟩;have e:=r.length;simp only[By]at e
  lia
inductive InvT (s:Shared) (a:Addr) (xs:List V):Prop
 |mk (its:List Value) (_:Vals xs its) (_:IsTup s.heap a its.toArray) (_:xs.length<=sizeLine):InvT s a xs
def Inv.tuple(I:Inv X pins U H s)(h:SqT X.K H a xs):InvT s a xs:=by
 rcases h with h|⟨o,its,n,hk,hc,hs,hz,r⟩
 ·obtain⟨z,its,r,p⟩:=(Rd.of h).ok I.hok;exact⟨its,r,p,z⟩
 ·refine⟨its.toList,r,⟨o,I.kIn a o hk,hc,n,by simpa using hs⟩,?_⟩;have e:=r.length;simp only[By]at e
  lia
def Inv.list_inj(I:Inv X pins U H s)(h:SqL X.K H a xs)(h':SqL X.K H a ys):xs=ys:=by
 obtain⟨its,r,⟨o,n,e,_,_,d⟩,_⟩:=I.list h;obtain⟨its',r',⟨o',n',e',_,_,d'⟩,_⟩:=I.list h';rw[e]at e';cases e';rw[d]at d';injection d' with d1 _;have:its=its':=by simpa using congrArg Tx d1
 subst this;exact r.inj r'
def Inv.tuple_inj(I:Inv X pins U H s)(h:SqT X.K H a xs)(h':SqT X.K H a ys):xs=ys:=by
 obtain⟨its,r,⟨o,e,_,n,d⟩,_⟩:=I.tuple h;obtain⟨its',r',⟨o',e',_,n',d'⟩,_⟩:=I.tuple h';rw[e]at e';cases e';rw[d]at d';injection d' with d1 _;have:its=its':=by simpa using congrArg Tx d1
 subst this;exact r.inj r'
end
noncomputable abbrev Cx.wish(X:Cx)(E:Value->Shared->Prop):Cx:={X with xe:=E}
noncomputable abbrev Cx.nox(X:Cx):Cx:=X.wish λ_ _=>False
def Cx.Ok.wish{X:Cx}(ok:X.Ok)(E:Value->Shared->Prop):(X.wish E).Ok:=
 ⟨ok.mod,ok.kind,ok.glob,ok.blt,ok.above,ok.inj,ok.has,ok.cab,ok.hd,ok.frames,ok.stk,ok.exf,ok.bs,ok.bsz,ok.noex,ok.exfs,ok.funs,ok.frf⟩
def Cx.Ok.unwish{X:Cx}{E:Value->Shared->Prop}(ok:(X.wish E).Ok):X.Ok:=
 ⟨ok.mod,ok.kind,ok.glob,ok.blt,ok.above,ok.inj,ok.has,ok.cab,ok.hd,ok.frames,ok.stk,ok.exf,ok.bs,ok.bsz,ok.noex,ok.exfs,ok.funs,ok.frf⟩
section
variable {X:Cx} {pins:List (Addr×Obj)} {U:St} {H:Hp} {s:Shared} {E:Value->Shared->Prop}
def Inv.wish(I:Inv X pins U H s)(E:Value->Shared->Prop):Inv (X.wish E) pins U H s:=⟨I.ok.wish E,I.os,I.bare,I.base,I.loc,I.cell,I.free,I.freeC,I.pin,I.hok,I.len⟩
def Inv.unwish(I:Inv (X.wish E) pins U H s):Inv X pins U H s:=⟨I.ok.unwish,I.os,I.bare,I.base,I.loc,I.cell,I.free,I.freeC,I.pin,I.hok,I.len⟩
theorem SP.unwish(h:SP (X.wish E) pins D f s'):SP X pins D f s':=by
 cases f with
 |next=>obtain⟨U',H',I,q⟩:=h;exact⟨U',H',I.unwish,q⟩
 |brk=>obtain⟨U',H',I,q⟩:=h;exact⟨U',H',I.unwish,q⟩
 |cont=>obtain⟨U',H',I,q⟩:=h;exact⟨U',H',I.unwish,q⟩
 |ret u=>obtain⟨v,U',H',I,r,q⟩:=h;exact⟨v,U',H',I.unwish,r,q⟩
def PSs.nox{st:List Stmt}{t:TS}(h:PSs X.nox st t):PSs X st t:=λpins s U H D I hw=>
 B3 (h pins s U H D (I.wish _) hw) (λ_ _ q=>q.unwish) λ_ _ z=>Dz z
end
section
variable {X:Cx} {st:Stmt} {rest:List Stmt} {t u:TS} {e:Expr} {te:TE} {pos:Pos}
def Zr:TS:=λD U H=>D.nx U H
def Wef(t u:TS):TS:=λD U H=>t {D with nx:=u D} U H
def Jth:PSs X [] Zr:=λ_ _ U H _ I h=>wpAny_execs_nil ⟨U,H,I,h⟩
theorem Joo(h1:PS X st t)(h2:PSs X rest u):PSs X (st::rest) (Wef t u):=by
 intro pins s U H D I h;refine wpAny_execs_cons (thn (h1 pins s U H {D with nx:=u D} I h) λf s1 q=>?_);cases f with
 |next=>
  obtain⟨U',H',I',q⟩:=q;exact h2 pins s1 U' H' D I' q
 |ret v=>exact q
 |brk=>exact q
 |cont=>exact q
def Inv.quiet(I:Inv X pins U H s):interactive X.env=false:=by simp[interactive,I.ok.kind]
def Zu(te:TE):TS:=λD U H=>te U H λ_ H1=>D.nx U H1
def Jti(he:PE X e te)(hs:Gb e none pos.line X.env=pure false:=by rfl):PS X (.Expr e pos) (Zu te):=by
 intro pins s U H D I h;exact wpAny_Expr_any (thn (he pins s U H _ I h) λv s1 ⟨x,H1,I1,r1,q1⟩=>⟨U,H1,I1,q1⟩) I.quiet hs
def Weg(te:TE):TS:=λD U H=>te U H D.rt
def Jxe(he:PE X e te):PS X (.Return (some e) pos) (Weg te):=by
 intro pins s U H D I h;exact wpAny_Return_some (thn (he pins s U H _ I h) λv s1 ⟨x,H1,I1,r1,q1⟩=>⟨x,U,H1,I1,r1,q1⟩)
def Wem(c:TT)(t u:TS):TS:=λD U H=>c U H λb H1=>if b=true then t D U H1 else u D U H1
theorem J0o{c:Expr}{a b:List Stmt}{tc:TT}(hc:PT X c tc)(ha:PSs X a t)(hb:PSs X b u):PS X (.If c a b pos) (Wem tc t u):=by
 intro pins s U H D I h;refine wpAny_If (thn (hc pins s U H _ I h) λd s1 ⟨H1,I1,q1⟩=>?_);cases d with
 |true=>exact ha pins s1 U H1 D I1 q1
 |false=>exact hb pins s1 U H1 D I1 q1
end
abbrev TG:=V->St->Hp->(St->Hp->Prop)->Prop
abbrev TGs:=List V->St->Hp->(St->Hp->Prop)->Prop
def PG(X:Cx)(target:Expr)(t:TG):Prop:=
 ∀(pins:List (Addr×Obj)) (s:Shared) (U:St) (H:Hp) (v:V) (u:Value) (Q:St->Hp->Prop),Inv X pins U H s->RelV v u->t v U H Q->
  wpAny (model X.prog X.w) X.A (assign target X.env u) (λ_ s'=>∃U' H',Inv X pins U' H' s'/\Q U' H') X.xe s
def PGs(X:Cx)(ts:List Expr)(t:TGs):Prop:=
 ∀(pins:List (Addr×Obj)) (s:Shared) (U:St) (H:Hp) (vs:List V) (us:List Value) (Q:St->Hp->Prop),Inv X pins U H s->Vals vs us->t vs U H Q->
  wpAny (model X.prog X.w) X.A (assignInOrder ((Fp ts X.env).map (·.2)) us) (λ_ s'=>∃U' H',Inv X pins U' H' s'/\Q U' H') X.xe s
abbrev Yr:=V->V->V->Hp->(Hp->Prop)->Prop
def Zm(X:Cx)(t:Yr):Prop:=
 ∀(pins:List (Addr×Obj)) (s:Shared) (U:St) (H:Hp) (o i v:V) (ov iv u:Value) (Q:Hp->Prop),Inv X pins U H s->RelV o ov->RelV i iv->RelV v u->t o i v H Q->
  wpAny (model X.prog X.w) X.A (T5 ov iv u) (λ_ s'=>∃H',Inv X pins U H' s'/\Q H') X.xe s
abbrev TIp:=V->V->Hp->VK->Prop
def PIp(X:Cx)(op:Operator)(t:TIp):Prop:=
 ∀(pins:List (Addr×Obj)) (s:Shared) (U:St) (H:Hp) (x y:V) (v u:Value) (Q:VK),Inv X pins U H s->RelV x v->RelV y u->t x y H Q->
  wpAny (model X.prog X.w) X.A (inplaceOp op v u) (EP X pins U Q) X.xe s
section
variable {X:Cx} {pos:Pos}
def Xe(i:Nat):TG:=λv U H Q=>Q (U.set i (some v)) H
def Jtr(hN:X.N.Nodup)(hi:X.N[i]? =some x)(hx:Loc X.env.scope x)(hf:X.fn x=true\/X.env.scope.names.lookup x=some .local:=by first|exact .inl rfl|exact .inr rfl|assumption):PG X (.Name x pos) (Xe i):=by
 intro pins s U H v u Q I r h;exact T3 (Jfq I hN hi hx r (λs' I'=>⟨_,H,I',h⟩) hf)
def Wfp:TGs:=λvs U H Q=>vs=[]/\Q U H
def Wd3(t:TG)(u:TGs):TGs:=λvs U H Q=>∃v r,vs=v::r/\t v U H λU' H'=>u r U' H' Q
def Jtq:PGs X [] Wfp:=by
 intro pins s U H vs us Q I r h;obtain⟨e,h⟩:=h;subst e;cases r;exact assignInOrder_nil ⟨U,H,I,h⟩
theorem Jot{e:Expr}{es:List Expr}{t:TG}{u:TGs}(h1:PG X e t)(h2:PGs X es u)
  (hs:(Fp (e::es) X.env).map (·.2)=assign e X.env::(Fp es X.env).map (·.2):=by rfl):PGs X (e::es) (Wd3 t u):=by
 intro pins s U H vs us Q I r h;obtain⟨v,vr,e1,h⟩:=h;subst e1;cases r with
 |cons r rr=>
  rw[hs];refine assignInOrder_cons (thn (h1 pins s U H _ _ _ I r h) λ_ s1 ⟨σ1,H1,I1,q1⟩=>?_);exact h2 pins s1 σ1 H1 _ _ Q I1 rr q1
def Wfn(K:Af)(n:Nat)(t:TGs):TG:=λv U H Q=>∃a xs,v=.ref a/\SqT K H a xs/\xs.length=n/\t xs U H Q
def Jxk(hc:X.calm=true)(h:PGs X es t)
  (hn:(Fp es X.env).length=n:=by rfl)(hst:(Fp es X.env).findIdx? (·.1)=none:=by rfl):PG X (.Tuple es k pos) (Wfn X.K n t):=by
 intro pins s U H v u Q I r hw;obtain⟨a,xs,e1,hq,hl,hw⟩:=hw;subst e1;cases r;obtain⟨its,rv,ht,hz⟩:=I.tuple hq;refine assign_Tuple_tuple (I.ok.hd hc) ht (by simp[hn,<-hl,rv.length]) hst λh' hx=>?_;have I1:Inv X pins U H {s with heap:=h'}:=I.kept (t':=s.toks) λb o e=>hx b o (Au (Am e)) e;exact h pins _ U H xs _ Q I1 (by simpa using rv) hw
def Wfo(to ti:TE)(t:Yr):TG:=λv U H Q=>to U H λo H1=>ti U H1 λi H2=>t o i v H2 λH3=>Q U H3
def Jxl{o i:Expr}{to ti:TE}{t:Yr}(ho:PE X o to)(hi:PE X i ti)(hs:Zm X t)
  (ha:∀v,assign (.Subscript o i pos) X.env v=(do
   let ov<-holding [v] (eval o X.env)
   let iv<-holding [v,ov] (eval i X.env)
   Mf pos
   holding [v,ov,iv] (T5 ov iv v)
   release [v,ov,iv] []):=by intro _;rfl):PG X (.Subscript o i pos) (Wfo to ti t):=by
 intro pins s U H v u Q I r h;rw[ha];refine Aa (Bh (thn (ho pins s U H _ I h) λov s1 ⟨x,H1,I1,r1,q1⟩=>?_));refine Aa (Bh (thn (hi pins s1 U H1 _ I1 q1) λiv s2 ⟨y,H2,I2,r2,q2⟩=>?_));refine Aa (Lu (Aa (Bh (thn (hs pins s2 U H2 x y v ov iv u _ I2 r1 r2 r q2) λ_ s3 ⟨H3,I3,q3⟩=>?_))));exact wpAny_release ⟨U,H3,I3,q3⟩
def Xx(te:TE)(g:TG):TS:=λD U H=>te U H λx H1=>g x U H1 D.nx
def Jxi{tg e:Expr}{te:TE}{g:TG}(he:PE X e te)(hg:PG X tg g)(hs:swapsWithSole [tg] e pos.line X.env=pure false:=by rfl)(hw:swappedStores [tg] e X.env=pure none:=by rfl)
  (h1:(Fp [tg] X.env).map (·.2)=[assign tg X.env]:=by rfl):PS X (.Assign [tg] e pos) (Xx te g):=by
 intro pins s U H D I h;refine wpAny_Assign_stores (thn (he pins s U H _ I h) λv s1 ⟨x,H1,I1,r1,q1⟩=>?_) hs hw;rw[h1];exact thn (hg pins s1 U H1 x v _ I1 r1 q1) λ_ s2 q=>q
def Jxd{i:Nat}{x:Str}{e:Expr}{te:TE}{pos':Pos}(hN:X.N.Nodup)(hi:X.N[i]? =some x)(hx:Loc X.env.scope x)(he:PE X e te)(hs:Gb e (some (.Name x pos')) pos.line X.env=pure false:=by rfl)(hf:X.fn x=true\/X.env.scope.names.lookup x=some .local:=by first|exact .inl rfl|exact .inr rfl|assumption):
  PS X (.Assign [.Name x pos'] e pos) (Xx te (Xe i)):=by
 intro pins s U H D I h;refine wpAny_Assign_Name (thn (he pins s U H _ I h) λv s1 ⟨y,H1,I1,r1,q1⟩=>?_) hs;exact Jfq I1 hN hi hx r1 (λs2 I2=>⟨_,H1,I2,q1⟩) hf
def Wes(i:Nat)(te:TE)(ti:TIp):TS:=λD U H=>∃x,U[i]? =some (some x)/\te U H λy H1=>ti x y H1 λz H2=>D.nx (U.set i (some z)) H2
def Jxh{i:Nat}{x:Str}{e:Expr}{te:TE}{op:Operator}{ti:TIp}{pos':Pos}(hN:X.N.Nodup)(hi:X.N[i]? =some x)(hx:Loc X.env.scope x)(he:PE X e te)(ho:PIp X op ti)(hf:X.fn x=true\/X.env.scope.names.lookup x=some .local:=by first|exact .inl rfl|exact .inr rfl|assumption):
  PS X (.AugAssign (.Name x pos') op e pos) (Wes i te ti):=by
 intro pins s U H D I h;obtain⟨v,e1,h⟩:=h;obtain⟨m,hn,hl⟩:=I.loc;have vis:Vis X.env.scope x:=by rcases hx with k|k;exact .inl k;exact .inr (.inl k)
 obtain⟨u,r,l⟩:=hl i x v hi e1 vis;refine wpAny_AugAssign_Name ?_;have go:wpAny (model X.prog X.w) X.A (eval e X.env) (λw s₂=>wpAny (model X.prog X.w) X.A (inplaceOp op u w) (λr s₃=>wpAny (model X.prog X.w) X.A (storeName X.env x r) (λ_=>SP X pins D .next) X.xe s₃) X.xe s₂) X.xe s:=by
  refine thn (he pins s U H _ I h) λw s1 ⟨y,H1,I1,r1,q1⟩=>?_;refine thn (ho pins s1 U H1 v y u w _ I1 r r1 q1) λz s2 ⟨zv,H2,I2,r2,q2⟩=>?_;exact Jfq I2 hN hi hx r2 (λs3 I3=>⟨_,H2,I3,q2⟩) hf
 rcases l with⟨hk,hm⟩|⟨hk,c,hc,hcell⟩
 ·exact Q8 I.ok.kind hk hn hm go
 ·rcases hk with hk|hk
  ·exact Rv I.ok.kind hk hc hcell go
  ·rcases hx with k|k
   ·have:X.env.scope.names.lookup x=some .free:=hk;rw[k]at this;cases this
   ·have:X.env.scope.names.lookup x=some .free:=hk;rw[k]at this;cases this
def ipI(f:Int->Int->Int):TIp:=λx y H Q=>∃i j,x=.int i/\y=.int j/\Q (.int (f i j)) H
def Jyr:PIp X .Add (ipI λi j=>i+j):=by
 intro pins s U H x y v u Q I r1 r2 h;obtain⟨i,j,e1,e2,q⟩:=h;subst e1;subst e2;obtain⟨t,rfl⟩:=r1;obtain⟨t',rfl⟩:=r2;exact iadd_int ⟨.int _,H,I.tok _,⟨_,rfl⟩,q⟩
end
section
variable {X:Cx} {pos:Pos}
end
structure It where
 go:Nat->Hp->Prop
 yld:Nat->Hp->V->Hp->Prop
 stop:Nat->Hp->Prop
def V4(X:Cx)(pins:List (Addr×Obj))(H:Hp)(b:Addr):Prop:=
 H b=none/\b≠X.env.locals/\b∉X.fs/\(b∈X.ex\/X.s₀.heap.objs.size<=b)/\(∀x c,X.env.cells.lookup x=some c->c≠b)/\∀p∈X.pn++pins,p.1≠b
def Inv.fpOk{s:Shared}(I:Inv X pins U H s)(hb:s.heap.objs.size<=b)(hn:H' b=none):V4 X pins H' b:=by
 refine⟨hn,Cf (Bf I.lt hb),I.nofs hb,.inr (Bu I.sz hb),λx c e z=>?_,λp hp z=>?_⟩
 ·obtain⟨v,q⟩:=I.cell x c e;exact absurd (Bf q.lt (by rw[z];exact hb)) (Ee _)
 ·exact absurd (Bf (Am (I.pin p hp).1) (by rw[z];exact hb)) (Ee _)
structure Turn(P:Program)(w:World)(K:Af)(tg:Expr)(J:It)(fp:List Addr)(it:Addr)(tn:Nat->Heap->Prop):Prop where
 mem:it∈fp
 obj:∀i h,tn i h->∀b∈fp,∃o,h.get? b=some o/\∀v,o.data≠ .cell v
 keep:∀i h h',tn i h->(∀b∈fp,∀o,h.get? b=some o->h'.get? b=some o)->tn i h'
 item:∀(X:Cx),X.prog=P->X.w=w->X.K=K->X.calm=true->∀(i:Nat) (pins:List (Addr×Obj)) (s:Shared) (U:St) (H:Hp) (E:Value->Shared->Prop),Inv X pins U H s->(∀b∈fp,V4 X pins H b)->tn i s.heap->J.go i H->
  wpAny (model P w) X.A (pyNext (.ref it)) (λr s1=>∃u,r=some u/\
   wpAny (model P w) X.A (Ig tg (.ref it) u) (λ_ s2=>∃x H',Inv X pins U H' s2/\RelV x u/\J.yld i H x H'/\tn (i+1) s2.heap/\∀b∈fp,H' b=none) E s1) E s
 done:∀(X:Cx),X.prog=P->X.w=w->X.K=K->X.calm=true->∀(i:Nat) (pins:List (Addr×Obj)) (s:Shared) (U:St) (H:Hp) (E:Value->Shared->Prop),Inv X pins U H s->(∀b∈fp,V4 X pins H b)->tn i s.heap->J.stop i H->
  wpAny (model P w) X.A (pyNext (.ref it)) (λr s1=>r=none/\Inv X pins U H s1) E s
 self:∀(A:Bj) (i:Nat) (s:Shared) (Q:Value->Shared->Prop) (E:Value->Shared->Prop),tn i s.heap->Q (.ref it) s->wpAny (model P w) A (pyIter (.ref it)) Q E s
abbrev TI:=St->Hp->(It->Hp->Prop)->Prop
def PIE(X:Cx)(pins:List (Addr×Obj))(U:St)(tg:Expr)(R:It->Hp->Prop)(itv:Value)(s2:Shared):Prop:=
 ∃(it:Addr) (fp:List Addr) (tn:Nat->Heap->Prop) (J:It) (H':Hp),itv=.ref it/\Inv X pins U H' s2/\Turn X.prog X.w X.K tg J fp it tn/\tn 0 s2.heap/\(∀b∈fp,V4 X pins H' b)/\R J H'
def PI(X:Cx)(tg iter:Expr)(wi:TI):Prop:=
 ∀(pins:List (Addr×Obj)) (s:Shared) (U:St) (H:Hp) (R:It->Hp->Prop),Inv X pins U H s->wi U H R->
  wpAny (model X.prog X.w) X.A (eval iter X.env) (λv s1=>wpAny (model X.prog X.w) X.A (pyIter v) (PIE X pins U tg R) X.xe s1) X.xe s
def Juj{E:Value->Shared->Prop}{s:Shared}{o:Obj}{Q:Unit->Shared->Prop}(ho:s.heap.get? it=some o)(hc:o.cls=.type n)(hd:o.data=.fields vs)
  (hn:["enumerate","zip","dict_itemiterator","dict_reverseitemiterator","odict_iterator","itertools.zip_longest","itertools.pairwise"].contains n=false)(hQ:Q () s):wpAny M A (Ig tg (.ref it) u) Q E s:=by
 unfold Ig;cases tg<;>first
  |exact Ac hQ
  |(cases u<;>first
    |exact Ac hQ
    |(refine Aa (L5 ho ?_)
      rw[hc,hd];show wpAny M A (if(["enumerate","zip","dict_itemiterator","dict_reverseitemiterator","odict_iterator","itertools.zip_longest","itertools.pairwise"].contains n&&vs[0]? ==some (rawInt _))=true then _ else _) Q E s;rw[if_neg (by intro h;rw[hn,Bool.false_and]at h;cases h)];exact Ac hQ))
noncomputable def Itl(K:Af)(a:Addr):It:=
 ⟨λi H=>∃xs x,SqL K H a xs/\xs[i]? =some x,λi H x H'=>H'=H/\∀xs,SqL K H a xs->xs[i]? =some x,λi H=>∃xs,SqL K H a xs/\xs.length<=i⟩
noncomputable def Itt(K:Af)(a:Addr):It:=
 ⟨λi H=>∃xs x,SqT K H a xs/\xs[i]? =some x,λi H x H'=>H'=H/\∀xs,SqT K H a xs->xs[i]? =some x,λi H=>∃xs,SqT K H a xs/\xs.length<=i⟩
noncomputable def Itr(lo:Int)(n:Nat):It:=⟨λi _=>i<n,λi H x H'=>H'=H/\x=.int (lo+i),λi _=>n<=i⟩
def Jk3{P:Program}{w:World}{K:Af}{tg:Expr}(a it:Addr):Turn P w K tg (Itl K a) [it] it (λi h=>h.IsListIter it a i)where
 mem:=by simp
 obj:=λi h st b hb=>by
  have e:b=it:=by simpa using hb
  subst e;obtain⟨o,e,c,d⟩:=st;exact⟨o,e,λv z=>by rw[d]at z;cases z⟩
 keep:=λi h h' st k=>st.at λo e=>k it (by simp) o e
 item:=by
  intro X hP hw hK hc i pins s U H E I hf st hg;subst hP hw hK;obtain⟨xs,x,hq,hx⟩:=hg;obtain⟨its,rv,p,hz⟩:=I.list hq;obtain⟨u,hu,ru⟩:=rv.get hx;obtain⟨f0,f1,f2,f3,f4,f5⟩:=hf it (by simp);refine Qd st p.isList (x:=u) (by simpa using hu) λh' st' sb=>?_;have I1:Inv X pins U H {s with heap:=h'}:=I.turned (t':=s.toks) (λb o hb e=>(sb.2 b hb).trans e) f0 f1 f3 f4 f5;obtain⟨o,e,c,d⟩:=id st';exact⟨u,rfl,Juj (s:={s with heap:=h'}) e c d (by decide) ⟨x,H,I1,ru,⟨rfl,λys hy=>by rw[I.list_inj hy hq];exact hx⟩,st',λb hb=>(hf b hb).1⟩⟩
 done:=by
  intro X hP hw hK hc i pins s U H E I hf st hg;subst hP hw hK;obtain⟨xs,hq,hx⟩:=hg;obtain⟨its,rv,p,hz⟩:=I.list hq;obtain⟨f0,f1,f2,f3,f4,f5⟩:=hf it (by simp);have hl:=rv.length;exact Qw (I.ok.hd hc) st p.isList (by simp;lia) λh' eb=>⟨rfl,I.turned (t':=s.toks) (λb o hb e=>eb b o hb e) f0 f1 f3 f4 f5⟩
 self:=λ_ _ _ _ _ st h=>wpAny_pyIter_listiter st h
def Jj3{P:Program}{w:World}{K:Af}{tg:Expr}(a it:Addr):Turn P w K tg (Itt K a) [it] it (λi h=>h.IsTupleIter it a i)where
 mem:=by simp
 obj:=λi h st b hb=>by
  have e:b=it:=by simpa using hb
  subst e;obtain⟨o,e,c,d⟩:=st;exact⟨o,e,λv z=>by rw[d]at z;cases z⟩
 keep:=λi h h' st k=>st.at λo e=>k it (by simp) o e
 item:=by
  intro X hP hw hK hc i pins s U H E I hf st hg;subst hP hw hK;obtain⟨xs,x,hq,hx⟩:=hg;obtain⟨its,rv,p,hz⟩:=I.tuple hq;obtain⟨u,hu,ru⟩:=rv.get hx;obtain⟨f0,f1,f2,f3,f4,f5⟩:=hf it (by simp);refine wpAny_pyNext_tuple_item st (show s.heap.IsTuple a its.toArray from p) (x:=u) (by simpa using hu) λh' st' sb=>?_;have I1:Inv X pins U H {s with heap:=h'}:=I.turned (t':=s.toks) (λb o hb e=>(sb.2 b hb).trans e) f0 f1 f3 f4 f5;obtain⟨o,e,c,d⟩:=id st';exact⟨u,rfl,Juj (s:={s with heap:=h'}) e c d (by decide) ⟨x,H,I1,ru,⟨rfl,λys hy=>by rw[I.tuple_inj hy hq];exact hx⟩,st',λb hb=>(hf b hb).1⟩⟩
 done:=by
  intro X hP hw hK hc i pins s U H E I hf st hg;subst hP hw hK;obtain⟨xs,hq,hx⟩:=hg;obtain⟨its,rv,p,hz⟩:=I.tuple hq;obtain⟨f0,f1,f2,f3,f4,f5⟩:=hf it (by simp);have hl:=rv.length;exact wpAny_pyNext_tuple_end (I.ok.hd hc) st (show s.heap.IsTuple a its.toArray from p) (by simp;lia) λh' eb=>⟨rfl,I.turned (t':=s.toks) (λb o hb e=>eb b o hb e) f0 f1 f3 f4 f5⟩
 self:=λ_ _ _ _ _ st h=>wpAny_pyIter_tupleiter st h
def Jj4{P:Program}{w:World}{K:Af}{tg:Expr}(it:Addr)(lo:Int)(n:Nat):Turn P w K tg (Itr lo n) [it] it (λi h=>IsRangeIter h it (lo+(i:Nat)*1) ((n:Int)-(i:Nat)) 1)where
 mem:=by simp
 obj:=λi h st b hb=>by
  have e:b=it:=by simpa using hb
  subst e;exact⟨_,st,λv z=>by
   have z':Data.fields _=Data.cell v:=z;cases z'⟩
 keep:=λi h h' st k=>k it (by simp) _ st
 item:=by
  intro X hP hw hK hc i pins s U H E I hf st hg;subst hP hw hK;obtain⟨f0,f1,f2,f3,f4,f5⟩:=hf it (by simp);have W:=Walks.range (prog:=X.prog) (w:=X.w) (I.ok.hd hc) it lo 1 n;refine W.item i s _ _ hg st λv h' tk hv st' kk=>?_;obtain⟨t,rfl⟩:=hv;have I1:Inv X pins U H {s with heap:=h',toks:=tk}:=I.turned (λb o hb e=>kk b o (by simpa using hb) e) f0 f1 f3 f4 f5;refine⟨_,rfl,Juj (s:={s with heap:=h',toks:=tk}) (n:="range_iterator") st' rfl rfl (by decide) ⟨.int (lo+i),H,I1,⟨t,?_⟩,⟨rfl,rfl⟩,st',λb hb=>(hf b hb).1⟩⟩;rw[Int.mul_one]
 done:=by
  intro X hP hw hK hc i pins s U H E I hf st hg;subst hP hw hK;obtain⟨f0,f1,f2,f3,f4,f5⟩:=hf it (by simp);exact wpAny_pyNext_range_end (I.ok.hd hc) st (by have:n<=i:=hg;lia) λh' eb=>⟨rfl,I.turned (t':=s.toks) (λb o hb e=>eb b o hb e) f0 f1 f3 f4 f5⟩
 self:=λ_ _ _ _ _ st h=>wpAny_pyIter_rangeiter st h
section
variable {X:Cx} {tg:Expr}
def Jol{pins:List (Addr×Obj)}{U:St}{H:Hp}{s:Shared}{R:It->Hp->Prop}{E:Value->Shared->Prop}{lo hi:Int}{t u v:Tok}{tk:Nat}(I:Inv X pins U H s)(h1: -(2^62)<=lo)(h2:lo<2^62)(h3: -(2^62)<=hi)(h4:hi<2^62)
  (q:R (Itr lo (hi-lo).toNat) H):wpAny (model X.prog X.w) X.A (pyIter (.ref s.heap.objs.size)) (PIE X pins U tg R) E {s with heap:=s.heap.push {cls:=.type "range",data:=.fields #[.int lo t,.int hi u,.int 1 v]},toks:=tk}:=by
 refine wpAny_pyIter_range (IsRange.new ..) (small_one h1 h2 h3 h4) ?_;have I1:Inv X pins U H {s with heap:=s.heap.push {cls:=.type "range",data:=.fields #[.int lo t,.int hi u,.int 1 v]},toks:=tk}:=I.kept λb o e=>Ad _ e;refine⟨(s.heap.push {cls:=.type "range",data:=.fields #[.int lo t,.int hi u,.int 1 v]}).objs.size,[(s.heap.push {cls:=.type "range",data:=.fields #[.int lo t,.int hi u,.int 1 v]}).objs.size],_,_,H,rfl,
  I1.kept (t':=tk) λb o e=>Ad _ e,Jj4 _ lo (hi-lo).toNat,?_,λb hb=>?_,q⟩
 ·have e1:lo+((0:Nat):Int)*1=lo:=by simp
  have e2:(((hi-lo).toNat:Nat):Int)-((0:Nat):Int)=Builtin.Range.rangeSize lo hi 1:=by rw[rangeSize_one];split<;>lia
  show IsRangeIter _ _ (lo+((0:Nat):Int)*1) ((((hi-lo).toNat:Nat):Int)-((0:Nat):Int)) 1;rw[e1,e2];exact Ak _ rfl
 ·have e:b=(s.heap.push {cls:=.type "range",data:=.fields #[.int lo t,.int hi u,.int 1 v]}).objs.size:=by simpa using hb
  subst e;exact I1.fpOk (Aj _) (I1.hok.fresh (Aj _))
def J09(ta:TA):TI:=λU H R=>ta U H λvs H1=>∃j:Int,vs=[.int j]/\ -(2^62)<=j/\j<2^62/\R (Itr 0 j.toNat) H1
theorem Jl6(hg:Gl X "range")(hm:X.mg "range"=none)(ha:PA X [a] ta)(hs:Bl [a] X.env=[(false,eval a X.env)]:=by rfl):PI X tg (.Call (.Name "range" p) [a] [] pos) (J09 ta):=by
 intro pins s U H R I h;refine Rr (Jcf I hg hm boot_range (C2 (thn (ha pos pins s U H _ I h) λus s1 ⟨vs,H1,I1,r1,q1⟩=>?_) hs rfl));obtain⟨j,e,q1,q2,q⟩:=q1;subst e;cases r1 with
 |cons r rr=>
  cases rr;obtain⟨t,rfl⟩:=r;exact call_range_1 (Jol I1 (by lia) (by lia) q1 q2 (by simpa using q))
def Weo(wi:TI)(g:TG)(tb:TS):TS:=λD U H=>wi U H λJ H1=>∃W:Nat->Nat->St->Hp->Prop,(∃m,W 0 m U H1)/\∀i m U H,W i m U H->
 (J.stop i H/\D.nx U H)\/(J.go i H/\∃N:St->Hp->Prop,(∀U' H',N U' H'->∃m',m'<m/\W (i+1) m' U' H')/\∀x H',J.yld i H x H'->g x U H' λσ2 H2=>tb {D with nx:=N,ct:=N,bk:=D.nx} σ2 H2)
noncomputable def We(fp:List Addr)(h:Heap):List (Addr×Obj):=fp.filterMap λb=>(h.get? b).map λo=>(b,o)
def Jb8{h:Heap}(hb:b∈fp)(e:h.get? b=some o):(b,o)∈We fp h:=P9.mpr ⟨b,hb,by rw[e];rfl⟩
theorem Jmg{h:Heap}{p:Addr×Obj}(hp:p∈We fp h):p.1∈fp/\h.get? p.1=some p.2:=by
 obtain⟨b,hb,e⟩:=P9.mp hp;cases q:h.get? b with
 |none=>rw[q]at e;cases e
 |some o=>
  rw[q]at e;have e':(b,o)=p:=Bi e;subst e';exact⟨hb,q⟩
def Inv.pinned{s:Shared}{fp:List Addr}(I:Inv X pins U H s)(hf:∀b∈fp,V4 X pins H b)(ho:∀b∈fp,∃o,s.heap.get? b=some o/\∀v,o.data≠ .cell v):Inv X (pins++We fp s.heap) U H s:=
 I.pins_of λp hp=>(Bo.mp hp).elim (λz=>I.pin p (Bw _ z)) λz=>by
  obtain⟨hb,e⟩:=Jmg z;obtain⟨f0,f1,f2,_⟩:=hf p.1 hb;obtain⟨o,e',d⟩:=ho p.1 hb;rw[e]at e';cases e';exact⟨e,f0,f1,f2,d⟩
def Inv.unpinned(I:Inv X (pins++pl) U H s):Inv X pins U H s:=I.pins_of λp hp=>I.pin p (Bw _ (C5 _ hp))
def Jxf(hp:PassesOwn (model X.prog X.w) X.A X.env X.xe)(hc:X.calm=true)(hi:PI X tg iter wi)(hg:PG X tg g)(hb:PSs X body tb)
  (hs:∀x,Dm iter X.env x=pure x:=by intro _;rfl):PS X (.For tg iter body [] pos) (Weo wi g tb):=by
 intro pins s U H D I h;refine wpAny_For (thn (hi pins s U H _ I h) λv s1 h1=>thn h1 λitv s2 h2=>?_) hs;obtain⟨it,fp,tn,J,H2,e,I2,T,st2,f2,W,⟨m0,w0⟩,turn⟩:=h2;subst e;have stat:∀{H':Hp},(∀b∈fp,H' b=none)->∀b∈fp,V4 X pins H' b:=λhn b hb=>⟨hn b hb,(f2 b hb).2⟩
 refine codeAny_forLoop_any (λn s'=>∃i U' H',Inv X pins U' H' s'/\tn i s'.heap/\(∀b∈fp,H' b=none)/\W i n U' H') ?_ m0 ⟨0,U,H2,I2,st2,λb hb=>(f2 b hb).1,w0⟩;rintro n s3 ⟨i,σ3,H3,I3,st3,fr3,w3⟩;rcases turn i n σ3 H3 w3 with⟨stop,qn⟩|⟨go,N,hN,step⟩
 ·refine Ie hp (thn (T.done X rfl rfl rfl hc i pins s3 σ3 H3 X.xe I3 (stat fr3) st3 stop) λr s4 ⟨hr,I4⟩=>?_);subst hr;exact wpAny_execs_nil ⟨σ3,H3,I4,qn⟩
 ·refine Ie hp (thn (T.item X rfl rfl rfl hc i pins s3 σ3 H3 X.xe I3 (stat fr3) st3 go) λr s4 ⟨u,hr,h4⟩=>?_);subst hr;refine Ie hp (thn h4 λ_ s5 ⟨x,H5,I5,r5,y5,st5,fr5⟩=>?_);have I5':=I5.pinned (stat fr5) (T.obj _ _ st5);refine Ie hp (thn (hg _ s5 σ3 H5 x u _ I5' r5 (step x H5 y5)) λ_ s6 ⟨σ6,H6,I6,q6⟩=>?_);refine Ie hp (thn (hb _ s6 σ6 H6 _ I6 q6) λf s7 q7=>?_);have again:∀{σ7:St} {H7:Hp},Inv X (pins++We fp s5.heap) σ7 H7 s7->N σ7 H7->∃m,m<n/\∃i U' H',Inv X pins U' H' s7/\tn i s7.heap/\(∀b∈fp,H' b=none)/\W i m U' H':=λ{σ7 H7} I7 n7=>by
   obtain⟨m',hm,w7⟩:=hN σ7 H7 n7;refine⟨m',hm,i+1,σ7,H7,I7.unpinned,T.keep _ _ _ st5 λb hb o e=>(I7.pin (b,o) (Bw _ (Bw _ (Jb8 hb e)))).1,λb hb=>?_,w7⟩;obtain⟨o,e,d⟩:=T.obj _ _ st5 b hb;exact(I7.pin (b,o) (Bw _ (Bw _ (Jb8 hb e)))).2.1
  cases f with
  |next=>obtain⟨σ7,H7,I7,n7⟩:=q7;exact again I7 n7
  |cont=>obtain⟨σ7,H7,I7,n7⟩:=q7;exact again I7 n7
  |brk=>obtain⟨σ7,H7,I7,q7⟩:=q7;exact⟨σ7,H7,I7.unpinned,q7⟩
  |ret v=>obtain⟨x7,σ7,H7,I7,r7,q7⟩:=q7;exact⟨x7,σ7,H7,I7.unpinned,r7,q7⟩
end
abbrev R2:=V->V->Hp->VK->Prop
def OpR(X:Cx)(f:Value->Value->Sem Value)(r:R2):Prop:=
 ∀(pins:List (Addr×Obj)) (s:Shared) (U:St) (H:Hp) (x y:V) (v u:Value) (Q:VK),Inv X pins U H s->RelV x v->RelV y u->r x y H Q->
  wpAny (model X.prog X.w) X.A (f v u) (EP X pins U Q) X.xe s
def UnR(X:Cx)(f:Value->Sem Value)(r:V->Hp->VK->Prop):Prop:=
 ∀(pins:List (Addr×Obj)) (s:Shared) (U:St) (H:Hp) (x:V) (v:Value) (Q:VK),Inv X pins U H s->RelV x v->r x H Q->
  wpAny (model X.prog X.w) X.A (f v) (EP X pins U Q) X.xe s
def U2(X:Cx)(f:Value)(r:List V->Hp->VK->Prop):Prop:=
 ∀(pins:List (Addr×Obj)) (s:Shared) (U:St) (H:Hp) (xs:List V) (us:List Value) (Q:VK),Inv X pins U H s->Vals xs us->r xs H Q->
  wpAny (model X.prog X.w) X.A (call f us) (EP X pins U Q) X.xe s
def Wge(X:Cx)(r:V->Hp->(Bool->Hp->Prop)->Prop):Prop:=
 ∀(pins:List (Addr×Obj)) (s:Shared) (U:St) (H:Hp) (x:V) (v:Value) (Q:Bool->Hp->Prop),Inv X pins U H s->RelV x v->r x H Q->
  wpAny (model X.prog X.w) X.A (truthy v) (TP X pins U Q) X.xe s
def tOp(r:R2)(ta tb:TE):TE:=λU H Q=>ta U H λx H1=>tb U H1 λy H2=>r x y H2 Q
def tUn(r:V->Hp->VK->Prop)(ta:TE):TE:=λU H Q=>ta U H λx H1=>r x H1 Q
def rI(C:Int->Int->Prop)(g:Int->Int->V):R2:=λx y H Q=>∃i j,x=.int i/\y=.int j/\C i j/\Q (g i j) H
def rI0(g:Int->Int->V):R2:=λx y H Q=>∃i j,x=.int i/\y=.int j/\Q (g i j) H
def rU(g:Int->V):V->Hp->VK->Prop:=λx H Q=>∃i,x=.int i/\Q (g i) H
section
variable {X:Cx} {a b c:Expr} {ta tb tc:TE} {pos:Pos}
def Zl(ha:PE X a ta)(hb:PE X b tb){R:V->V->Hp->Prop}(I:Inv X pins U H s)
  (h:ta U H λx H1=>tb U H1 λy H2=>R x y H2){Q:Value->Shared->Prop}{f:Value->Value->Sem Value}
  (hf:∀v u s2 x y H2,Inv X pins U H2 s2->RelV x v->RelV y u->R x y H2->wpAny (model X.prog X.w) X.A (f v u) Q X.xe s2):
  wpAny (model X.prog X.w) X.A (eval a X.env) (λv s₁=>wpAny (model X.prog X.w) X.A (eval b X.env) (λu s₂=>wpAny (model X.prog X.w) X.A (f v u) Q X.xe s₂) X.xe s₁) X.xe s:=by
 refine thn (ha pins s U H _ I h) λv s1 ⟨x,H1,I1,r1,q1⟩=>?_;refine thn (hb pins s1 U H1 _ I1 q1) λu s2 ⟨y,H2,I2,r2,q2⟩=>?_;exact hf v u s2 x y H2 I2 r1 r2 q2
def J0r(ho:OpR X (Fv op) r)(ha:PE X a ta)(hb:PE X b tb):PE X (.BinOp a op b pos) (tOp r ta tb):=by
 intro pins s U H Q I h;exact wpAny_BinOp (Zl ha hb I h λv u s2 x y H2 I2 rx ry q=>ho pins s2 U H2 x y v u Q I2 rx ry q)
def J0p{r:V->Hp->VK->Prop}(ho:UnR X (unaryOp op) r)(ha:PE X a ta):PE X (.UnaryOp op a pos) (tUn r ta):=by
 intro pins s U H Q I h;exact Q2 (thn (ha pins s U H _ I h) λv s1 ⟨x,H1,I1,r1,q1⟩=>ho pins s1 U H1 x v Q I1 r1 q1)
def opI{f:Value->Value->Sem Value}{C:Int->Int->Prop}{g:Int->Int->Int}
  (rule:∀(i j:Int) (t u:Tok) (s:Shared) (Q:Value->Shared->Prop) (E:Value->Shared->Prop),C i j->Q (.int (g i j) s.toks) {s with toks:=s.toks+1}->wpAny (model X.prog X.w) X.A (f (.int i t) (.int j u)) Q E s):
  OpR X f (rI C λi j=>.int (g i j)):=by
 intro pins s U H x y v u Q I rx ry h;obtain⟨i,j,rfl,rfl,hc,q⟩:=h;obtain⟨t,rfl⟩:=rx;obtain⟨t',rfl⟩:=ry;exact rule i j t t' s _ _ hc ⟨.int (g i j),H,I.tok _,⟨_,rfl⟩,q⟩
def Z6{f:Value->Value->Sem Value}{g:Int->Int->Int}
  (rule:∀(i j:Int) (t u:Tok) (s:Shared) (Q:Value->Shared->Prop) (E:Value->Shared->Prop),Q (.int (g i j) s.toks) {s with toks:=s.toks+1}->wpAny (model X.prog X.w) X.A (f (.int i t) (.int j u)) Q E s):
  OpR X f (rI0 λi j=>.int (g i j)):=by
 intro pins s U H x y v u Q I rx ry h;obtain⟨i,j,rfl,rfl,q⟩:=h;obtain⟨t,rfl⟩:=rx;obtain⟨t',rfl⟩:=ry;exact rule i j t t' s _ _ ⟨.int (g i j),H,I.tok _,⟨_,rfl⟩,q⟩
def Yk{f:Value->Value->Sem Value}{g:Int->Int->Bool}
  (rule:∀(i j:Int) (t u:Tok) (s:Shared) (Q:Value->Shared->Prop) (E:Value->Shared->Prop),Q (.bool (g i j)) s->wpAny (model X.prog X.w) X.A (f (.int i t) (.int j u)) Q E s):
  OpR X f (rI0 λi j=>.bl (g i j)):=by
 intro pins s U H x y v u Q I rx ry h;obtain⟨i,j,rfl,rfl,q⟩:=h;obtain⟨t,rfl⟩:=rx;obtain⟨t',rfl⟩:=ry;exact rule i j t t' s _ _ ⟨.bl (g i j),H,I,rfl,q⟩
def Wgf(i j:Int):Prop:=0<=j/\j<=1000000/\i.natAbs<2^64
def Yu(i j:Int):Prop:=(-(2^64)<i/\i<2^64)\/(-(2^64)<j/\j<2^64)
def Yu.ok(h:Yu i j):IntMulOk i j:=by
 rcases h with⟨h1,h2⟩|⟨h1,h2⟩
 ·exact .of_left (intBits_le_64 h1 h2)
 ·exact .of_right (intBits_le_64 h1 h2)
def Jj2(k:Nat):(0:Int)<=2^k:=by
 rw[two_pow_cast];exact Lb _
def Jx1:OpR X (Fv .Add) (rI0 λi j=>.int (i+j)):=Z6 λ_ _ _ _ _ _ _ q=>add_int q
def Jxv:OpR X (Fv .Sub) (rI0 λi j=>.int (i-j)):=Z6 λ_ _ _ _ _ _ _ q=>sub_int q
def Jxy:OpR X (Fv .Mod) (rI (λ_ j=>0<j) λi j=>.int (i%j)):=opI λi j _ _ _ _ _ hc q=>by
 have h1:(0:Int)<j:=hc;exact mod_int' (by lia) (by rw[Int.fmod_eq_emod_of_nonneg i (by lia)];exact q)
def Jxx:OpR X (Fv .Pow) (rI Wgf λi j=>.int (i^j.toNat)):=opI λ_ _ _ _ _ _ _ hc q=>pow_int_small hc.1 hc.2.1 hc.2.2 q
def Jxw:OpR X (Fv .RShift) (rI (λ_ j=>0<=j) λi j=>.int (i/2^j.toNat)):=opI λi j _ _ _ _ _ hc q=>
 rshift_int hc (by rw[Ng i (Jj2 _)];exact q)
def unI{f:Value->Sem Value}{g:Int->Int}
  (rule:∀(i:Int) (t:Tok) (s:Shared) (Q:Value->Shared->Prop) (E:Value->Shared->Prop),Q (.int (g i) s.toks) {s with toks:=s.toks+1}->wpAny (model X.prog X.w) X.A (f (.int i t)) Q E s):
  UnR X f (rU λi=>.int (g i)):=by
 intro pins s U H x v Q I rx h;obtain⟨i,rfl,q⟩:=h;obtain⟨t,rfl⟩:=rx;exact rule i t s _ _ ⟨.int (g i),H,I.tok _,⟨_,rfl⟩,q⟩
def Jvv:UnR X (unaryOp .USub) (rU λi=>.int (-i)):=unI λ_ _ _ _ _ q=>neg_int q
end
section
variable {X:Cx} {a b c:Expr} {ta tb tc:TE} {pos:Pos}
def Jrp(I:Inv X pins U H s)(q:Q (.bl k) H)(e:k=k'):EP X pins U Q (.bool k') s:=by
 subst e;exact⟨.bl k,H,I,rfl,q⟩
def J0v:OpR X (Dv .Lt) (rI0 λi j=>.bl (decide (i<j))):=Yk λ_ _ _ _ _ _ _ q=>lt_int q
def J0w:OpR X (Dv .LtE) (rI0 λi j=>.bl (decide (i<=j))):=Yk λ_ _ _ _ _ _ _ q=>le_int q
def J0x:OpR X (Dv .Gt) (rI0 λi j=>.bl (decide (j<i))):=Yk λ_ _ _ _ _ _ _ q=>gt_int q
def J0y:OpR X (Dv .GtE) (rI0 λi j=>.bl (decide (j<=i))):=Yk λ_ _ _ _ _ _ _ q=>ge_int q
def Jxz:OpR X (Dv .Is) (λx y H Q=>y=.non/\Q (.bl (decide (x=.non))) H):=by
 intro pins s U H x y v u Q I rx ry h;obtain⟨rfl,q⟩:=h;cases ry;refine is_none_gen (Jrp I q ?_);cases x<;>first
  |(cases rx;rfl)
  |(obtain⟨t,rfl⟩:=rx;rfl)
def Jt0:OpR X (Dv .IsNot) (λx y H Q=>y=.non/\Q (.bl (!decide (x=.non))) H):=by
 intro pins s U H x y v u Q I rx ry h;obtain⟨rfl,q⟩:=h;cases ry;refine isnot_none_gen (Jrp I q ?_);cases x<;>first
  |(cases rx;rfl)
  |(obtain⟨t,rfl⟩:=rx;rfl)
def We2(b:Expr)(h:op≠ .In:=by decide)(h2:op≠ .NotIn:=by decide):Hn op b=false:=by
 have e1:(op==CmpOp.In)=false:=by cases op<;>first|rfl|exact absurd rfl h
 have e2:(op==CmpOp.NotIn)=false:=by cases op<;>first|rfl|exact absurd rfl h2
 cases b<;>simp[Hn,e1,e2]
def Jtw(ho:OpR X (Dv op) r)(ha:PE X a ta)(hb:PE X b tb)(hm:Hn op b=false):PE X (.Compare a [op] [b] pos) (tOp r ta tb):=by
 intro pins s U H Q I h;exact wpAny_Compare1 (Zl ha hb I h λv u s2 x y H2 I2 rx ry q=>ho pins s2 U H2 x y v u Q I2 rx ry q) hm
def Yv(t:TE):TT:=λU H Q=>t U H λx H'=>∃k,x=.bl k/\Q k H'
def Jtg(ho:OpR X (Dv op) r)(ha:PE X a ta)(hb:PE X b tb)(hm:Hn op b=false):PT X (.Compare a [op] [b] pos) (Yv (tOp r ta tb)):=by
 intro pins s U H Q I h;refine wpAny_isTrue_Compare1 (thn (ha pins s U H _ I h) λv s1 ⟨x,H1,I1,r1,q1⟩=>thn (hb pins s1 U H1 _ I1 q1) λu s2 ⟨y,H2,I2,r2,q2⟩=>
  thn (ho pins s2 U H2 x y v u _ I2 r1 r2 q2) λc s3 ⟨z,H3,I3,r3,k,e,q3⟩=>?_) hm
 subst e;cases r3;exact Dl ⟨H3,I3,q3⟩
def W4(r r':R2)(ta tb tc:TE):TE:=λU H Q=>ta U H λx H1=>tb U H1 λy H2=>r x y H2 λz H3=>∃k,z=.bl k/\
 (if k=true then tc U H3 λw' H4=>r' y w' H4 Q else Q (.bl false) H3)
theorem Jo2(ho:OpR X (Dv op) r)(ho':OpR X (Dv op') r')(ha:PE X a ta)(hb:PE X b tb)(hc:PE X c tc)
  (hm:lastMarks [op,op'] [b,c]=false:=by with_unfolding_all rfl):PE X (.Compare a [op,op'] [b,c] pos) (W4 r r' ta tb tc):=by
 intro pins s U H Q I h;refine Compare_chain (thn (ha pins s U H _ I h) λv s1 ⟨x,H1,I1,r1,q1⟩=>chain_link (thn (hb pins s1 U H1 _ I1 q1) λu s2 ⟨y,H2,I2,r2,q2⟩=>
  thn (ho pins s2 U H2 x y v u _ I2 r1 r2 q2) λd s3 ⟨z,H3,I3,r3,k,e,q3⟩=>?_)) hm
 subst e;cases r3;refine Dl ?_;cases k with
 |false=>exact ite_ff ⟨.bl false,H3,I3,rfl,q3⟩
 |true=>exact ite_tt (chain_last (thn (hc pins s3 U H3 _ I3 q3) λw' s4 ⟨z',H4,I4,r4,q4⟩=>ho' pins s4 U H4 y z' u w' Q I4 r2 r4 q4))
theorem Jon(ho:OpR X (Dv op) r)(ho':OpR X (Dv op') r')(ha:PE X a ta)(hb:PE X b tb)(hc:PE X c tc)
  (hm:lastMarks [op,op'] [b,c]=false:=by with_unfolding_all rfl):PT X (.Compare a [op,op'] [b,c] pos) (Yv (W4 r r' ta tb tc)):=by
 intro pins s U H Q I h;refine isTrue_chain (thn (ha pins s U H _ I h) λv s1 ⟨x,H1,I1,r1,q1⟩=>test_link (thn (hb pins s1 U H1 _ I1 q1) λu s2 ⟨y,H2,I2,r2,q2⟩=>
  thn (ho pins s2 U H2 x y v u _ I2 r1 r2 q2) λd s3 ⟨z,H3,I3,r3,k,e,q3⟩=>?_)) hm
 subst e;cases r3;refine Dl ?_;cases k with
 |false=>
  obtain⟨k',e',q'⟩:=q3;cases e';exact ite_ff ⟨H3,I3,q'⟩
 |true=>
  refine ite_tt (test_last (thn (hc pins s3 U H3 _ I3 q3) λw' s4 ⟨z',H4,I4,r4,q4⟩=>thn (ho' pins s4 U H4 y z' u w' _ I4 r2 r4 q4) λd' s5 ⟨z2,H5,I5,r5,k2,e2,q5⟩=>?_));subst e2;cases r5;exact Dl ⟨H5,I5,q5⟩
def Yq(K:Af)(x:V)(H:Hp)(k:Bool):Prop:=
 match x with
 |.non=>k=false
 |.bl b=>k=b
 |.int i=>k=(i !=0)
 |.str y=>y.length<=sizeLine/\k=((y.length:Int) !=0)
 |.byt y=>y.size<=sizeLine/\k=((y.size:Int) !=0)
 |.ref p=>(∃xs,SqL K H p xs/\k= !xs.isEmpty)\/(∃xs,SqT K H p xs/\k= !xs.isEmpty)\/∃kvs,H p=some (.dK kvs)/\k= !kvs.isEmpty
 |_=>False
theorem Jkn{κ:Type}{kvs:List (κ×V)}{vs:List (κ×Value)}(r:KV kvs vs):(!vs.isEmpty)= !kvs.isEmpty:=by
 cases r<;>rfl
def Jfc{xs:List V}{its:List Value}(r:Vals xs its):(!its.toArray.isEmpty)= !xs.isEmpty:=by
 cases r<;>simp
def Jhd:(sizeLine:Nat)<2^63:=by rw[Gy];decide
theorem Jqo:Wge X (λx H Q=>∃k,Yq X.K x H k/\Q k H):=by
 intro pins s U H x v Q I rx h;obtain⟨k,e,q⟩:=h;have hl:=Jhd;have hs:sizeLine=16777216:=Gy;cases x with
 |non=>
  cases rx;have e':k=false:=e;subst e';exact truthy_none ⟨H,I,q⟩
 |bl b=>
  cases rx;have e':k=b:=e;subst e';exact Dl ⟨H,I,q⟩
 |int i=>
  obtain⟨t,rfl⟩:=rx;have e':k=(i !=0):=e;subst e';exact PySem.P.truthy_int ⟨H,I,q⟩
 |str y=>
  obtain⟨t,rfl⟩:=rx;obtain⟨hy,e'⟩:y.length<=sizeLine/\k=((y.length:Int) !=0):=e;subst e';exact PySem.P.truthy_str (by lia) ⟨H,I.tok _,q⟩
 |byt y=>
  obtain⟨t,rfl⟩:=rx;obtain⟨hy,e'⟩:y.size<=sizeLine/\k=((y.size:Int) !=0):=e;subst e';exact PySem.W.truthy_bytes (by lia) ⟨H,I.tok _,q⟩
 |ref p=>
  cases rx;have e':(∃xs,SqL X.K H p xs/\k= !xs.isEmpty)\/(∃xs,SqT X.K H p xs/\k= !xs.isEmpty)\/∃kvs,H p=some (.dK kvs)/\k= !kvs.isEmpty:=e;rcases e' with⟨xs,hx,e'⟩|⟨xs,hx,e'⟩|⟨kvs,hx,e'⟩
  ·subst e';obtain⟨its,r,pl,hz⟩:=I.list hx;have hlen:=r.length;exact wpAny_truthy_list pl.isList (by simp only[Ao];lia) ⟨H,I.tok _,by rw[Jfc r];exact q⟩
  ·subst e';obtain⟨its,r,pl,hz⟩:=I.tuple hx;have hlen:=r.length;exact truthy_tuple pl (by simp only[Ao];lia) ⟨H,I.tok _,by rw[Jfc r];exact q⟩
  ·subst e';obtain⟨hz,hS,vs,r,m⟩:kvs.length<=sizeLine/\(p==sysModules)=false/\∃vs,KV kvs vs/\s.heap.DictOf (mixKind X.prog X.w) p vs:=I.hok p _ hx;have hlen:kvs.length=vs.length:=Cg r;exact wpAny_truthy_dict hS m (by lia) ⟨H,I.tok _,by rw[Jkn r];exact q⟩
 |_=>exact(show False from e).elim
def Jom(ha:PE X a ta)(he:∀whole,isTrue a X.env whole=(do let v<-whole;Mf a.pos;holding [v] (truthy v))):
  PT X a (λU H Q=>ta U H λx H'=>∃k,Yq X.K x H' k/\Q k H'):=by
 intro pins s U H Q I h;exact isTrue_plain (thn (ha pins s U H _ I h) λv s1 ⟨x,H1,I1,r1,q1⟩=>Jqo pins s1 U H1 x v Q I1 r1 q1) (he _)
theorem vals1(r:Vals [x] us):∃u,us=[u]/\RelV x u:=by
 cases r with
 |cons r1 r2=>cases r2;exact⟨_,rfl,r1⟩
theorem vals2(r:Vals [x,y] us):∃u w',us=[u,w']/\RelV x u/\RelV y w':=by
 cases r with
 |cons r1 r2=>
  cases r2 with
  |cons r3 r4=>cases r4;exact⟨_,_,rfl,r1,r3⟩
def Jp8:U2 X (.builtin "abs") (λxs H Q=>∃i,xs=[.int i]/\Q (.int (if i<0 then -i else i)) H):=by
 intro pins s U H xs us Q I r h;obtain⟨i,rfl,q⟩:=h;obtain⟨u,rfl,t,rfl⟩:=vals1 r;exact call_abs_int λu tk=>⟨.int (if i<0 then -i else i),H,I.tok _,⟨_,rfl⟩,q⟩
def Jni(hc:X.calm=true):U2 X (.builtin "max") (λxs H Q=>∃i j,xs=[.int i,.int j]/\Q (.int (if j>i then j else i)) H):=by
 intro pins s U H xs us Q I r h;obtain⟨i,j,rfl,q⟩:=h;obtain⟨u,w',rfl,⟨t,rfl⟩,⟨t',rfl⟩⟩:=vals2 r;refine max_two_ints (I.ok.hd hc) λh' tk k=>⟨_,H,I.kept k,?_,q⟩
 by_cases hj:j>i
 ·rw[if_pos hj,if_pos hj];exact⟨_,rfl⟩
 ·rw[if_neg hj,if_neg hj];exact⟨_,rfl⟩
def Jnh(hc:X.calm=true):U2 X (.builtin "min") (λxs H Q=>∃i j,xs=[.int i,.int j]/\Q (.int (if j<i then j else i)) H):=by
 intro pins s U H xs us Q I r h;obtain⟨i,j,rfl,q⟩:=h;obtain⟨u,w',rfl,⟨t,rfl⟩,⟨t',rfl⟩⟩:=vals2 r;refine min_two_ints (I.ok.hd hc) λh' tk k=>⟨_,H,I.kept k,?_,q⟩
 by_cases hj:j<i
 ·rw[if_pos hj,if_pos hj];exact⟨_,rfl⟩
 ·rw[if_neg hj,if_neg hj];exact⟨_,rfl⟩
def Jhr:U2 X (.type "int") (λxs H Q=>(∃i,xs=[.int i]/\Q (.int i) H)\/∃k,xs=[.bl k]/\Q (.int (if k then 1 else 0)) H):=by
 intro pins s U H xs us Q I r h;rcases h with⟨i,rfl,q⟩|⟨k,rfl,q⟩
 ·obtain⟨u,rfl,t,rfl⟩:=vals1 r;exact call_int_int ⟨.int i,H,I,⟨_,rfl⟩,q⟩
 ·obtain⟨u,rfl,r1⟩:=vals1 r;cases r1;exact call_int_bool ⟨.int (if k then 1 else 0),H,I.tok _,⟨_,rfl⟩,q⟩
end
structure W9(h:Heap)(x dx C:Addr)(mA:Str->Option Value):Prop where
 obj:h.get? x=some (Ei C dx)
 ns:h.Ns1 dx mA
 ne:dx≠x
def Jmm{h:Heap}{mA:Str->Option Value}(n:h.Ns1 dx mA):∃od,h.get? dx=some od/\∀name,Jt name od=some (mA name):=by
 obtain⟨o,es,ep,ho,hd,hk,_,hm⟩:=n;refine⟨o,ho,λname=>?_⟩;have e:=hm name;unfold nsFind findBy at e;rw[<-Array.find?_toList]at e;unfold Jt;rw[hd];dsimp only;split
 ·rename_i y q;rw[q]at e;exact congrArg some e
 ·rename_i q;rw[q]at e;have a:es.toList.any (·.refKey)=false:=by
   rw[Ll];intro y hy;obtain⟨z,t,hkey⟩:=hk y (C4.mp hy);simp[DictEntry.refKey,hkey]
  have a':¬es.toList.any (·.refKey)=true:=by rw[a];exact Az
  rw[if_neg a'];exact congrArg some e
def W9.look{mA:Str->Option Value}(I:W9 h x dx C mA):∃od,PySem.W.InstAt h x (Ei C dx) C (some od)/\∀name,Jt name od=some (mA name):=
 let⟨od,ho,hl⟩:=Jmm I.ns
 ⟨od,⟨I.obj,rfl,rfl,ho⟩,hl⟩
section
variable {prog:Program} {w:World} {A:Bj} {E:Value->Shared->Prop} {s:Shared} {K:Af} {x dx C f:Addr} {mA:Str->Option Value} {name:Str} {v:Value}
def get_map{Q:Value->Shared->Prop}(X:K.In s.heap)(I:W9 s.heap x dx C mA)(hg:Gv K C name=true)(hh:H9 K C=true)
  (ha:Ct K (.ref C) name=some none)(hv:mA name=some v)(hv':Pk v=true)(h:Q v {s with toks:=s.toks+1}):
  wpAny (model prog w) A (getAttr (.ref x) name expr) Q E s:=by
 obtain⟨od,J,hl⟩:=I.look;exact PySem.W.get_value X J (Jx hg).1 (PySem.W.findObj_own hh ha rfl (by rw[hl,hv])) hv' h
def Jpx{Q:Value×List Value->Shared->Prop}(X:K.In s.heap)(I:W9 s.heap x dx C mA)(hg:Gv K C name=true)
  (hf:Ct K (.ref C) name=some (some (.ref f)))(ht:Ji K (.ref f)=true)(hv:mA name=none)(h:Q (.ref f,[.ref x]) s):
  wpAny (model prog w) A (getMethod (.ref x) name pl) Q E s:=by
 obtain⟨od,J,hl⟩:=I.look;exact PySem.W.method_fn X J (Jx hg).1 (Jx hg).2 hf (beq_iff_eq.mp ht) (by show(Jt name od).map (·.isSome)=some false;rw[hl,hv];rfl) h
def Jss{ns:List Str}{Q:Unit->Shared->Prop}(X:K.In s.heap)(I:W9 s.heap x dx C mA)
  (hs:Ct K (.ref C) "__setattr__"=some (some (.builtin "object.__setattr__")))(hp:Kr K C=true)(ht:Lq K C name=some none)(hh:H9 K C=true)
  (hw:Nz mA ns)(hsz:ns.length<=sizeLine)
  (h:∀h',W9 h' x dx C (λy=>if y=name then some v else mA y)->C0 dx s.heap h'->Q () {s with heap:=h',toks:=s.toks+2}):
  wpAny (model prog w) A (setAttr (.ref x) name v) Q E s:=by
 obtain⟨od,J,hl⟩:=I.look;refine PySem.W.set_plain X J hs (PySem.W.osa_open (s:={s with toks:=s.toks+1}) (r:=none) X J hp ht λb=>?_);obtain⟨cd,hc,hd'⟩:=PySem.W.any_some hh;have hx:s.heap.get? x=some ⟨.ref C,some dx,.plain,#[]⟩:=I.obj;refine Aa (Ac (Aa (Aa (wpAny_loadPart hx (Aa (PySem.W.Looks.here (s:={s with toks:=s.toks+1}) (PySem.W.looks_clsIn X hc) ?_))))));rw[hd'];refine Ac (a:=some dx) (Aa (Ac (Aa ?_)));refine wpAny_nsSet1 (s:={s with toks:=s.toks+1}) I.ns λh' hn2 hs2=>?_;obtain⟨oD,esD,epD,hoD,hdD,hcD⟩:=hn2.count (PySem.Within.cons name v hw);refine Aa (wpAny_lookBehind hoD (by rw[hdD];exact pastItsLine_dict (Bu hcD (by rw[A7];lia))) ?_);exact Ac (h _ ⟨(hs2.2 _ (D7 I.ne)).trans I.obj,hn2,I.ne⟩ hs2)
def Jpb{R:K7->Shared->Prop}(X:K.In s.heap)(hm:Jl K C=true)
  (hi:Ct K (.ref C) "__init__"=some (some (.ref f)))(hf:PySem.W.typeIn K (.ref f)=some (.type "function"))
  (h:Ge (model prog w) (A.under (.builtin "type.__call__" ⟨.ref C::vs,kw⟩)) (.call (.ref f) ⟨.ref (s.heap.objs.size+1)::vs,kw⟩) (PySem.W.InitBack (s.heap.objs.size+1) R)
   {s with heap:=(s.heap.push Df).push (Ei C s.heap.objs.size)}):
  Ge (model prog w) A (.call (.ref C) ⟨vs,kw⟩) R s:=by
 obtain⟨hh,g,d,t,os⟩:=s;exact PySem.W.make_core (PySem.W.makes_of X hm) (PySem.W.looks_findIn X hi) (λself=>PySem.W.bind_fn X self hf) (.inl rfl) h
end
noncomputable def Va(f:Str)(v:V):List (Str×V)->List (Str×V)
 |[]=>[(f,v)]
 |(g,x)::r=>if g=f then(g,v)::r else(g,x)::Va f v r
theorem Jec(f g:Str)(v:V):∀fs:List (Str×V),(Va f v fs).lookup g=if g=f then some v else fs.lookup g
 |[]=>by
  show Es g [(f,v)]=_
  by_cases h:g=f
  ·have hb:(g==f)=true:=beq_iff_eq.mpr h;simp only[Es,hb,if_pos h]
  ·have hb:(g==f)=false:=beq_eq_false_iff_ne.mpr h;simp only[Es,hb,if_neg h]
 |(k,x)::r=>by
  have ih:=Jec f g v r;rw[show Va f v ((k,x)::r)=(if k=f then(k,v)::r else(k,x)::Va f v r)from rfl]
  by_cases hk:k=f
  ·rw[if_pos hk]
   by_cases h:g=k
   ·have hb:(g==k)=true:=beq_iff_eq.mpr h;simp only[Es,hb,if_pos (h.trans hk)]
   ·have hb:(g==k)=false:=beq_eq_false_iff_ne.mpr h;simp only[Es,hb,if_neg (λe:g=f=>h (e.trans hk.symm))]
  ·rw[if_neg hk]
   by_cases h:g=k
   ·have hb:(g==k)=true:=beq_iff_eq.mpr h;simp only[Es,hb,if_neg (λe:g=f=>hk (h.symm.trans e))]
   ·have hb:(g==k)=false:=beq_eq_false_iff_ne.mpr h;simp only[Es,hb];exact ih
theorem Jef(f:Str)(v:V):∀fs:List (Str×V),f∈(Va f v fs).map (·.1)/\∀g,g∈fs.map (·.1)->g∈(Va f v fs).map (·.1)
 |[]=>⟨by simp[Va],λg h=>by simp at h⟩
 |(k,x)::r=>by
  obtain⟨i1,i2⟩:=Jef f v r;rw[show Va f v ((k,x)::r)=(if k=f then(k,v)::r else(k,x)::Va f v r)from rfl]
  by_cases hk:k=f
  ·rw[if_pos hk];subst hk;exact⟨by simp,λg h=>by simpa using h⟩
  ·rw[if_neg hk];refine⟨?_,λg h=>?_⟩
   ·rw[Av];exact Ay _ i1
   ·rw[Av]at h ⊢;rcases An.mp h with e|e
    ·exact An.mpr (.inl e)
    ·exact Ay _ (i2 g e)
theorem Jee(f:Str)(v:V):∀fs:List (Str×V),(Va f v fs).length<=fs.length+1
 |[]=>by simp[Va]
 |(k,x)::r=>by
  have ih:=Jee f v r;rw[show Va f v ((k,x)::r)=(if k=f then(k,v)::r else(k,x)::Va f v r)from rfl]
  by_cases hk:k=f
  ·rw[if_pos hk,A7,A7];lia
  ·rw[if_neg hk,A7,A7];lia
theorem RelO.some_of(r:RelO (some v) o):∃u,o=some u/\RelV v u:=by
 cases o with
 |none=>exact(show False from r).elim
 |some u=>exact⟨u,rfl,r⟩
theorem RelO.none_of(r:RelO none o):o=none:=by
 cases o with
 |none=>rfl
 |some u=>exact(show False from r).elim
theorem Jm2(r:RelV v u):Pk u=true:=by
 cases v with
 |non=>cases(show u=Cd from r);rfl
 |bl b=>cases(show u=Ht b from r);rfl
 |int i=>obtain⟨t,e⟩:=(show∃t,u=Dr i t from r);cases e;rfl
 |str x=>obtain⟨t,e⟩:=(show∃t,u=Nl x t from r);cases e;rfl
 |byt b=>obtain⟨t,e⟩:=(show∃t,u=T9 b t from r);cases e;rfl
 |flt b=>obtain⟨t,e⟩:=(show∃t,u=T8 b t from r);cases e;rfl
 |ref a=>cases(show u=Ap a from r);rfl
 |ty n=>cases(show u=Dw n from r);rfl
section
variable {P:Program} {w:World} {H H':Hp} {h h':Heap} {a C dx:Addr} {fs fs':List (Str×V)}
def Jin(hok:HOk P w H h)(e:H a=some (.ins C dx fs)):∃mA,W9 h a dx C mA/\(∀f,RelO (fs.lookup f) (mA f))/\Nz mA (fs.map (·.1))/\fs.length<=1000/\H dx=some (.own a):=by
 obtain⟨d,z,ne,ob,mA,n,r,q⟩:=(show Uq P w H h a (.ins C dx fs)from hok a _ e)
 exact⟨mA,⟨ob,n,ne⟩,r,q,z,d⟩
end
structure Cls(K:Af)(C:Addr):Prop where
 pg:Gv K C Str.empty=true
 hd:H9 K C=true
 po:Kr K C=true
 sa:Ct K (.ref C) "__setattr__"=some (some (.builtin "object.__setattr__"))
def Cls.get{K:Af}{C:Addr}(c:Cls K C)(f:Str):Gv K C f=true:=c.pg
def Vc(K:Af)(C:Addr)(f:Str):Prop:=Ct K (.ref C) f=some none
theorem Vc.taker{K:Af}{C:Addr}{f:Str}(n:Vc K C f):Lq K C f=some none:=by
 unfold Lq;rw[show Ct K (.ref C) f=some none from n];rfl
structure Meth(K:Af)(C:Addr)(m:Str)(f:Addr):Prop where
 at_:Ct K (.ref C) m=some (some (.ref f))
 fn:Ji K (.ref f)=true
 kp:Cr K (.ref f)=true
section
variable {X:Cx} {pins:List (Addr×Obj)} {U:St} {H:Hp} {s:Shared} {a C dx:Addr} {fs:List (Str×V)} {f:Str} {v:V} {A:Bj} {E:Value->Shared->Prop}
def Jkp{Q:Value->Shared->Prop}(I:Inv X pins U H s)(e:H a=some (.ins C dx fs))(c:Cls X.K C)(n:Vc X.K C f)(l:fs.lookup f=some v)
  (h:∀u s',Inv X pins U H s'->RelV v u->Q u s'):wpAny (model X.prog X.w) A (getAttr (.ref a) f b) Q E s:=by
 obtain⟨mA,O,r,_,_,_⟩:=Jin I.hok e;obtain⟨u,hu,ru⟩:=RelO.some_of (v:=v) (o:=mA f) (by rw[<-l];exact r f);exact get_map I.kIn O (c.get f) c.hd n hu (Jm2 ru) (h u _ (I.tok _) ru)
def Jfe{Q:Value×List Value->Shared->Prop}(I:Inv X pins U H s)(e:H a=some (.ins C dx fs))(c:Cls X.K C)(k:Meth X.K C m g)(l:fs.lookup m=none)
  (h:Q (.ref g,[.ref a]) s):wpAny (model X.prog X.w) A (getMethod (.ref a) m pl) Q E s:=by
 obtain⟨mA,O,r,_,_,_⟩:=Jin I.hok e;have hn:mA m=none:=RelO.none_of (by rw[<-l];exact r m);exact Jpx I.kIn O (c.get m) k.at_ k.fn hn h
def Jj9{Q:Unit->Shared->Prop}(I:Inv X pins U H s)(e:H a=some (.ins C dx fs))(c:Cls X.K C)(n:Vc X.K C f)(hl:fs.length<1000)(ry:RelV y u)
  (h:∀s',Inv X pins U (upd H a (.ins C dx (Va f y fs))) s'->Q () s'):wpAny (model X.prog X.w) A (setAttr (.ref a) f u) Q E s:=by
 obtain⟨mA,O,r,wi,_,ho⟩:=Jin I.hok e;have hz:(fs.map (·.1)).length<=sizeLine:=by rw[Ai,Gy];lia
 refine Jss I.kIn O c.sa c.po n.taker c.hd wi hz λh' O' sb=>h _ ?_;have hd:∃o,h'.get? dx=some o:=let⟨o,_,_,e',_⟩:=O'.ns;⟨o,e'⟩;refine I.write (x:=a) (e:=dx) (by rw[e];exact Ex) (.inr ho) (λb q hb z=>(sb.2 b hb).trans z) hd ?_;refine⟨by rw[Jae O.ne];exact ho,?_,O.ne,O'.obj,_,O'.ns,λg=>?_,λg hg=>?_⟩
 ·have:=Jee f y fs;lia
 ·show RelO ((Va f y fs).lookup g) (if g=f then some u else mA g);rw[Jec]
  by_cases q:g=f
  ·rw[if_pos q,if_pos q];exact ry
  ·rw[if_neg q,if_neg q];exact r g
 ·by_cases q:g=f
  ·rw[q];exact(Jef f y fs).1
  ·refine(Jef f y fs).2 g (wi g λz=>hg ?_);show(if g=f then some u else mA g)=none;rw[if_neg q];exact z
def Inv.made(I:Inv X pins U H s):Inv X pins U (upd (upd H s.heap.objs.size (.own (s.heap.objs.size+1))) (s.heap.objs.size+1) (.ins C s.heap.objs.size []))
  {s with heap:=(s.heap.push Df).push (Ei C s.heap.objs.size)}:=by
 have e1:(s.heap.push Df).get? s.heap.objs.size=some Df:=Ak s.heap rfl;have e2:((s.heap.push Df).push (Ei C s.heap.objs.size)).get? (s.heap.objs.size+1)=some (Ei C s.heap.objs.size):=by
  have:=Ak (s.heap.push Df) (o:=Ei C s.heap.objs.size) rfl;rwa[Cc]at this
 have e3:(s.heap.push Df).Ns s.heap.objs.size (λ_=>none):=⟨Df,#[],_,e1,rfl,(λe he=>absurd he (by simp)),λ_=>rfl⟩
 have I1:=I.laid (a:=s.heap.objs.size) (o:=.own (s.heap.objs.size+1)) (h':=s.heap.push Df) (t':=s.toks) (λb u q=>Ad _ q) (Aj _) ⟨_,e1⟩;refine I1.laid (a:=s.heap.objs.size+1) (o:=.ins C s.heap.objs.size []) (t':=s.toks) (λb u q=>Ad _ q) (O0 (Cc _ _)) ?_;have ne:s.heap.objs.size≠s.heap.objs.size+1:=Au (C9 _);refine⟨by rw[Jae ne,Jai],Cp _,ne,e2,λ_=>none,(Heap.Ns1.of_empty e3).at λo q=>Ad _ q,λ_=>Ex,λy hy=>absurd rfl hy⟩
def Ju8{Q:Value->Shared->Prop}(hb:attributeBase e f env (eval e env)=eval e env)
  (h:wpAny (model prog w) A (eval e env) (λo s₁=>wpAny (model prog w) A (getAttr o f true) Q E s₁) E s):wpAny (model prog w) A (eval (.Attribute e f pos) env) Q E s:=
 Attribute_any_ h (by rw[arm_eval_Attribute,hb])
end
def Wep(K:Af)(ta:TE)(f:Str):TE:=λU H Q=>ta U H λx H1=>∃a C dx fs v,x=.ref a/\H1 a=some (.ins C dx fs)/\Cls K C/\Vc K C f/\fs.lookup f=some v/\Q v H1
def Weu(K:Af)(ta tv:TE)(f:Str):TS:=λD U H=>tv U H λy H1=>ta U H1 λx H2=>∃a C dx fs,x=.ref a/\H2 a=some (.ins C dx fs)/\Cls K C/\Vc K C f/\fs.length<1000/\
 D.nx U (upd H2 a (.ins C dx (Va f y fs)))
section
variable {X:Cx} {o e value:Expr} {f:Str} {pos pos' tpos:Pos} {ta tv:TE}
def Jxt(he:PE X e ta)(hb:attributeBase e f X.env (eval e X.env)=eval e X.env):PE X (.Attribute e f pos) (Wep X.K ta f):=by
 intro pins s U H Q I h;refine Ju8 hb (thn (he pins s U H _ I h) λu s1 ⟨x,H1,I1,rx,a,C,dx,fs,v,ex,ea,c,n,l,q⟩=>?_);subst ex;obtain rfl:u=Ap a:=rx;exact Jkp I1 ea c n l λu' s2 I2 ru=>⟨v,H1,I2,ru,q⟩
def Jxg(ha:PE X o ta)(hv:PE X value tv)(hs:Gb value (some (.Attribute o f pos')) pos.line X.env=pure false):PS X (.Assign [.Attribute o f pos'] value pos) (Weu X.K ta tv f):=by
 intro pins s U H D I h;refine plainObj_wpAny_Assign_Attribute (thn (hv pins s U H _ I h) λu s1 ⟨y,H1,I1,ry,q⟩=>thn (ha pins s1 U H1 _ I1 q) λov s2 ⟨x,H2,I2,rx,a,C,dx,fs,ex,ea,c,n,l,q2⟩=>?_) hs;subst ex;obtain rfl:ov=Ap a:=rx;exact Jj9 I2 ea c n l ry λs3 I3=>⟨U,_,I3,q2⟩
end
section
variable {X:Cx} {pins:List (Addr×Obj)} {U:St} {H:Hp} {s:Shared} {A:Bj} {E:Value->Shared->Prop} {Q:Value->Shared->Prop} {c:Value} {b:Bool}
end
structure Uy(k:Nat)(A:Bj):Prop where
 hd:A.handled=none
 dp:A.depth+3*k+5<recursionLimit
 un:A.units+16*k+200<Cw
def Uy.mono(r:Uy k A)(h:j<=k):Uy j A:=⟨r.hd,by have:=r.dp;lia,by have:=r.un;lia⟩
def Uy.deeper{A:Bj}(r:Uy (k+1) A)(env:Env):Uy k (A.deeper env):=
 ⟨r.hd,by have:=r.dp;show A.depth+1+3*k+5<_;lia,by have:=r.un;show A.units+3+16*k+200<_;lia⟩
def Jkh{A:Bj}:(A.under (.builtin "type.__call__" ⟨.ref C::us,kw⟩)).depth=A.depth+1:=by
 first|rfl|simp[Nu,Code.weight,Code.isCreation,Code.isGuard,Code.isCaller,Code.frames,Oa,guardIds]
def Jkg{A:Bj}:(A.under (.builtin "type.__call__" ⟨.ref C::us,kw⟩)).units=A.units+1:=by
 first|rfl|simp[Nu,Code.cUnits,Code.frames,Oa]
def Uy.make{A:Bj}(r:Uy (k+1) A)(C:Addr)(us:List Value)(kw:List (Str×Value)):Uy k (A.under (.builtin "type.__call__" ⟨.ref C::us,kw⟩)):=
 ⟨r.hd,by have:=r.dp;rw[Jkh];omega,by have:=r.un;rw[Jkg];omega⟩
def Uy.depth{A:Bj}(r:Uy k A):A.depth<recursionLimit:=by have:=r.dp;lia
def Uy.units{A:Bj}(r:Uy k A):A.units+64<Cw:=by have:=r.un;lia
def Xs:TA:=λ_ H Q=>Q [] H
def Xu(ta:TE)(tr:TA):TA:=λU H Q=>ta U H λx H1=>tr U H1 λxs H2=>Q (x::xs) H2
section
variable {X:Cx} {e:Expr} {es:List Expr} {te:TE} {t:TA} {pos:Pos}
def Je9:PA X [] Xs:=λ_ _ _ _ H Q I h=>Ip ⟨[],H,I,.nil,h⟩
def Jbv(ha:PE X e te)(hr:PA X es t)(hs:Bl (e::es) X.env=(false,eval e X.env)::Bl es X.env:=by rfl):PA X (e::es) (Xu te t):=by
 intro pos pins s U H Q I h;rw[hs];show wpAny _ _ (Qf ((false,eval e X.env)::D5 pos (Bl es X.env))) _ _ s;refine Hx (thn (ha pins s U H _ I h) λu s1 ⟨x,H1,I1,r1,q1⟩=>?_);exact thn (hr pos pins s1 U H1 _ I1 q1) λus s2 ⟨xs,H2,I2,r2,q2⟩=>⟨x::xs,H2,I2,.cons r1 r2,q2⟩
def Wee(t:TA):TE:=λU H Q=>t U H λxs H1=>xs.length<=sizeLine/\∀p,H1 p=none->Q (.ref p) (upd H1 p (.tup xs))
def Wek(t:TA):TE:=λU H Q=>t U H λxs H1=>xs.length<=sizeLine/\∀p,H1 p=none->Q (.ref p) (upd H1 p (.lst xs))
def Jxn{x1}(h:PA X es t):PE X (.Tuple es x1 pos) (Wee t):=by
 intro pins s U H Q I hq;refine wpAny_Tuple_spliced (thn (h pos pins s U H _ I hq) λus s1 ⟨xs,H1,I1,r,z,q⟩=>⟨by rw[<-r.length];exact z,?_⟩);have hf:H1 s1.heap.objs.size=none:=I1.hok.fresh (Aj _);refine⟨.ref s1.heap.objs.size,upd H1 s1.heap.objs.size (.tup xs),I1.laid (t':=s1.toks) (λb u e=>Ad _ e) (Aj _) ?_,rfl,q _ hf⟩;exact⟨z,us,r,⟨_,Ak _ rfl,rfl,_,rfl⟩⟩
def Jxr(h:PA X es t):PE X (.List es pos) (Wek t):=by
 intro pins s U H Q I hq;refine wpAny_List_spliced (thn (h pos pins s U H _ I hq) λus s1 ⟨xs,H1,I1,r,z,q⟩=>⟨by rw[<-r.length];exact z,?_⟩);have hf:H1 s1.heap.objs.size=none:=I1.hok.fresh (Aj _);refine⟨.ref s1.heap.objs.size,upd H1 s1.heap.objs.size (.lst xs),I1.laid (t':=s1.toks) (λb u e=>Ad _ e) (Aj _) ?_,rfl,q _ hf⟩;exact⟨z,us,0,r,Ak _ rfl⟩
end
abbrev Sp:=List V->Hp->VK->XK->Prop
abbrev CXT:=List Env->Hp->Shared->XK->Value->Shared->Prop
structure Xa(P:Program)(w:World)(K:Af)(mg:Str->Option Value)(base:Heap)(A:Bj)(outer:List Env)(s:Shared)(H:Hp):Prop where
 frames:A.frames=some outer
 mod:Mod K mg base
 bs:∀b o,base.get? b=some o->s.heap.get? b=some o/\H b=none
 bsz:base.objs.size<=s.heap.objs.size
 funs:s.heap.FunFrames base outer
 frf:∀b∈frs outer,H b=none
 hok:HOk P w H s.heap
 bare:Ki s.gens
def CE(outer:List Env)(P:Program)(w:World)(H:Hp)(s:Shared)(Q:VK)(u:Value)(s':Shared):Prop:=
 ∃v H',s'.os=s.os/\Ki s'.gens/\Un (frs outer) [] H H' s.heap s'.heap/\HOk P w H' s'.heap/\RelV v u/\Q v H'
def CR(CX:CXT)(outer:List Env)(P:Program)(w:World)(H:Hp)(s:Shared)(Q:VK)(E:XK)(r:K7)(s':Shared):Prop:=
 match r with
 |.ok (.ret u)=>CE outer P w H s Q u s'
 |.ok _=>False
 |.error e=>CX outer H s E e s'
structure Vv(P:Program)(w:World)(K:Af)(mg:Str->Option Value)(base:Heap)(CX:CXT)(k:Nat)(f:Addr)(fd:Hv)(ps:List Str)(sp:Sp):Prop where
 len:∀vs H Q E,sp vs H Q E->vs.length=ps.length
 run:∀(A:Bj) (outer:List Env) (s:Shared) (H:Hp) (args:Args) (us:List Value) (vs:List V) (Q:VK) (E:XK),Uy k A->Xa P w K mg base A outer s H->Ud s fd args (ps.zip us)->Vals vs us->sp vs H Q E->
  Ge (model P w) A (.call (.ref f) args) (CR CX outer P w H s Q E) s
def Xa.make{P:Program}{w:World}{K:Af}{mg:Str->Option Value}{base:Heap}{A:Bj}{outer:List Env}{s:Shared}{H:Hp}(e:Xa P w K mg base A outer s H)(C:Addr)(us:List Value)(kw:List (Str×Value)):
  Xa P w K mg base (A.under (.builtin "type.__call__" ⟨.ref C::us,kw⟩)) outer s H:=⟨by first|exact e.frames|(simpa [Nu,Code.envs,Oa,pushEnvs]using e.frames),e.mod,e.bs,e.bsz,e.funs,e.frf,e.hok,e.bare⟩
section
variable {X:Cx} {pins:List (Addr×Obj)} {U:St} {H:Hp} {s s':Shared}
def Inv.env0(I:Inv X pins U H s):Xa X.prog X.w X.K X.mg X.base X.A X.stack s H:=
 ⟨I.ok.frames,I.ok.mod,I.bs,Bu I.ok.bsz I.sz,I.stack,I.stkFree,I.hok,I.bare⟩
def Inv.after(I:Inv X pins U H s)(h:CE X.stack X.prog X.w H s Q u s'):EP X pins U Q u s':=by
 obtain⟨v,H',os,bare,un,hok,r,q⟩:=h;obtain⟨hh,g,d,t,os'⟩:=s';obtain rfl:os'=s.os:=os;exact⟨v,H',I.call (h':=hh) (g':=g) (d':=d) (t':=t) (ch:=[]) un hok bare (λb z=>absurd z (by simp)),r,q⟩
end
def Xw(sp:Sp)(dvs:List V)(E:XK)(t:TA):TE:=λU H Q=>t U H λvs H1=>sp (vs++dvs) H1 Q E
def Xt(C:Addr)(m:Str)(sp:Sp)(dvs:List V)(E:XK)(ta:TE)(t:TA):TE:=λU H Q=>ta U H λx H1=>∃a dx fs,x=.ref a/\H1 a=some (.ins C dx fs)/\fs.lookup m=none/\
 t U H1 λvs H2=>sp (x::(vs++dvs)) H2 Q E
def Zs(C:Addr)(sp:Sp)(dvs:List V)(E:XK)(t:TA):TE:=λU H Q=>t U H λvs H1=>∀x dx,H1 x=none->H1 dx=none->dx≠x->
 sp (.ref x::(vs++dvs)) (upd (upd H1 dx (.own x)) x (.ins C dx [])) (λv H2=>v=.non/\Q (.ref x) H2) E
def Binds(K:Af)(fd:Hv)(ps:List Str)(ds:List Value):Prop:=
 ∀(s:Shared) (us:List Value),K.In s.heap->(us++ds).length=ps.length->Ud s fd ⟨us,[]⟩ (ps.zip (us++ds))
def Binds.all{K:Af}{fd:Hv}{ps:List Str}(h:∀us:List Value,us.length=ps.length->Rf fd ⟨us,[]⟩=pure (ps.zip us)):Binds K fd ps []:=λs us _ hl=>by
 rw[Gg]at hl ⊢;exact .of_eq (h us hl)
def Vr(CX:CXT)(X:Cx)(E:XK):Prop:=∀(pins:List (Addr×Obj)) (U:St) (H:Hp) (s:Shared) (e:Value) (s':Shared),Inv X pins U H s->CX X.stack H s E e s'->X.xe e s'
section
variable {X:Cx} {CX:CXT} {k:Nat} {f C:Addr} {fd:Hv} {ps:List Str} {sp:Sp} {dvs:List V} {ds:List Value} {E:XK} {x m:Str} {p pos apos:Pos} {e o:Expr} {es:List Expr} {ta:TE} {t:TA}
theorem Ji7(F:Vv X.prog X.w X.K X.mg X.base CX k f fd ps sp)(hr:Uy k X.A)(hb:Binds X.K fd ps ds)(hd:Vals dvs ds)(hx:Vr CX X E)
  (I:Inv X pins U H s)(r:Vals vs us)(h:sp (vs++dvs) H Q E):wpAny (model X.prog X.w) X.A (call (.ref f) us) (EP X pins U Q) X.xe s:=by
 have r2:Vals (vs++dvs) (us++ds):=r.append hd;have hl:(us++ds).length=ps.length:=by rw[<-r2.length];exact F.len _ _ _ _ h
 refine Su (Fo (F.run X.A X.stack s H ⟨us,[]⟩ (us++ds) (vs++dvs) Q E hr I.env0 (hb s us I.kIn hl) r2 h) λr s' hq=>?_);cases r with
 |error e=>exact hx pins U H s e s' I hq
 |ok fl=>
  cases fl with
  |ret u=>exact I.after hq
  |next=>exact Dz hq
  |brk=>exact Dz hq
  |cont=>exact Dz hq
def Jtx(F:Vv X.prog X.w X.K X.mg X.base CX k f fd ps sp)(hr:Uy k X.A)(hg:Gl X x)(hm:X.mg x=some (.ref f))(hk:Cr X.K (.ref f)=true)(hb:Binds X.K fd ps ds)(hd:Vals dvs ds)(hx:Vr CX X E)
  (ha:PA X (e::es) t)(hdb:(x==("__debug__":Str))=false:=by decide)(he:Bl (e::es) X.env=(false,eval e X.env)::Bl es X.env:=by rfl)(hpl:(D5 pos (Bl es X.env)).any (·.1)=false:=by rfl):
  PE X (.Call (.Name x p) (e::es) [] pos) (Xw sp dvs E t):=by
 intro pins s U H Q I h;refine Gu (Jf1 I hg hm ?_ hdb);refine Oq (h₀:=X.base) I.ok.mod.kin hk (thn (ha pos pins s U H _ I h) λus s1 ⟨vs,H1,I1,r,q⟩=>⟨I1.kIn,?_⟩) he hpl;exact Ji7 F hr hb hd hx I1 r q
def Jo3(F:Vv X.prog X.w X.K X.mg X.base CX k f fd ps sp)(hr:Uy k X.A)(hg:Gl X x)(hm:X.mg x=some (.ref f))(hk:Cr X.K (.ref f)=true)(hb:Binds X.K fd ps ds)(hd:Vals dvs ds)(hx:Vr CX X E)
  (hdb:(x==("__debug__":Str))=false:=by decide):PE X (.Call (.Name x p) [] [] pos) (Xw sp dvs E Xs):=by
 intro pins s U H Q I h;refine Gu (Jf1 I hg hm ?_ hdb);exact Jy I.kIn hk (Ji7 (us:=[]) F hr hb hd hx I .nil h)
def Jtt(he:PE X o ta)(c:Cls X.K C)(hm:Meth X.K C m f)(F:Vv X.prog X.w X.K X.mg X.base CX k f fd ps sp)(hr:Uy k X.A)(hb:Binds X.K fd ps ds)(hd:Vals dvs ds)(hx:Vr CX X E)(ha:PA X (e::es) t)
  (hst:Bl (e::es) X.env=(false,eval e X.env)::Bl es X.env:=by rfl)(hpl:(D5 pos (Bl es X.env)).any (·.1)=false:=by rfl)
  (ht:eval (.Call (.Attribute o m apos) (e::es) [] pos) X.env=(do
   let ov<-eval o X.env
   Mf apos.atName
   let(f,first)<-holding [ov] (getMethod ov m pl)
   callWith pos f first (D5 pos (Bl (e::es) X.env)) (Jh pos (F8 [] X.env))):=by rfl):
  PE X (.Call (.Attribute o m apos) (e::es) [] pos) (Xt C m sp dvs E ta t):=by
 intro pins s U H Q I h;refine Nj (pl:=pl) (thn (he pins s U H _ I h) λu s1 ⟨x,H1,I1,rx,a,dx,fs,ex,ea,l,q⟩=>?_) ht;subst ex;obtain rfl:u=Ap a:=rx;refine Jfe I1 ea c hm l ?_;refine Oq (first:=[.ref a]) (h₀:=X.base) I.ok.mod.kin hm.kp (thn (ha pos pins s1 U H1 _ I1 q) λus s2 ⟨vs,H2,I2,r,q2⟩=>⟨I2.kIn,?_⟩) hst hpl;exact Ji7 (us:=.ref a::us) (vs:=.ref a::vs) F hr hb hd hx I2 (.cons rfl r) q2
def Jov(he:PE X o ta)(c:Cls X.K C)(hm:Meth X.K C m f)(F:Vv X.prog X.w X.K X.mg X.base CX k f fd ps sp)(hr:Uy k X.A)(hb:Binds X.K fd ps ds)(hd:Vals dvs ds)(hx:Vr CX X E)
  (ht:eval (.Call (.Attribute o m apos) [] [] pos) X.env=(do
   let ov<-eval o X.env
   Mf apos.atName
   let(f,first)<-holding [ov] (getMethod ov m pl)
   callWith pos f first (D5 pos (Bl [] X.env)) (Jh pos (F8 [] X.env))):=by rfl):
  PE X (.Call (.Attribute o m apos) [] [] pos) (Xt C m sp dvs E ta Xs):=by
 intro pins s U H Q I h;refine Nj (pl:=pl) (thn (he pins s U H _ I h) λu s1 ⟨x,H1,I1,rx,a,dx,fs,ex,ea,l,q⟩=>?_) ht;subst ex;obtain rfl:u=Ap a:=rx;refine Jfe I1 ea c hm l ?_;exact Jy (first:=[.ref a]) I1.kIn hm.kp (Ji7 (us:=[.ref a]) (vs:=[.ref a]) F hr hb hd hx I1 (.cons rfl .nil) q)
structure Mk(K:Af)(C f:Addr):Prop where
 makes:Jl K C=true
 init:Ct K (.ref C) "__init__"=some (some (.ref f))
 fn:Ji K (.ref f)=true
 kp:Cr K (.ref C)=true
theorem Joa(M:Mk X.K C f)(F:Vv X.prog X.w X.K X.mg X.base CX k f fd ps sp)(hr:Uy (k+1) X.A)(hb:Binds X.K fd ps ds)(hd:Vals dvs ds)
  (hx:Vr CX X E)(I:Inv X pins U H s)(r:Vals vs us)
  (h:∀x dx,H x=none->H dx=none->dx≠x->sp (.ref x::(vs++dvs)) (upd (upd H dx (.own x)) x (.ins C dx [])) (λv H2=>v=.non/\Q (.ref x) H2) E):
  wpAny (model X.prog X.w) X.A (call (.ref C) us) (EP X pins U Q) X.xe s:=by
 have hq:=h (s.heap.objs.size+1) s.heap.objs.size (I.hok.fresh (Kj _)) (I.hok.fresh (Aj _)) (Au (C9 _));have I2:=Inv.made (C:=C) I;have r2:Vals (V.ref (s.heap.objs.size+1)::(vs++dvs)) (Ap (s.heap.objs.size+1)::(us++ds)):=.cons rfl (r.append hd);have hl:(Ap (s.heap.objs.size+1)::us++ds).length=ps.length:=by
  have e:=r2.length;rw[F.len _ _ _ _ hq]at e;exact e.symm
 refine Su (Jpb (f:=f) I.kIn M.makes M.init (beq_iff_eq.mp M.fn) (Fo (F.run _ X.stack _ _ ⟨Ap (s.heap.objs.size+1)::us,[]⟩ (Ap (s.heap.objs.size+1)::(us++ds)) _ _ E (hr.make C us [])
  (I2.env0.make C us []) (hb _ (Ap (s.heap.objs.size+1)::us) I2.kIn hl) r2 hq) λr s' hq'=>?_))
 cases r with
 |error e=>exact hx pins U _ _ e s' I2 hq'
 |ok fl=>
  cases fl with
  |ret u=>
   obtain⟨v,H',I3,rv,ev,q3⟩:=I2.after hq';subst ev;exact⟨rv,⟨V.ref (s.heap.objs.size+1),H',I3,rfl,q3⟩⟩
  |next=>exact Dz hq'
  |brk=>exact Dz hq'
  |cont=>exact Dz hq'
def Jow(M:Mk X.K C f)(F:Vv X.prog X.w X.K X.mg X.base CX k f fd ps sp)(hr:Uy (k+1) X.A)(hg:Gl X x)(hm:X.mg x=some (.ref C))(hb:Binds X.K fd ps ds)(hd:Vals dvs ds)(hx:Vr CX X E)
  (hdb:(x==("__debug__":Str))=false:=by decide):PE X (.Call (.Name x p) [] [] pos) (Zs C sp dvs E Xs):=by
 intro pins s U H Q I h;refine Gu (Jf1 I hg hm ?_ hdb);exact Jy I.kIn M.kp (Joa (us:=[]) M F hr hb hd hx I .nil h)
end
section
variable {X:Cx} {CX:CXT} {k:Nat} {f C:Addr} {fd:Hv} {ps ks:List Str} {sp:Sp} {E:XK} {x m:Str} {p pos apos kpos:Pos} {e o:Expr} {es:List Expr} {kws:List Jr} {te ta:TE} {t tk:TA} {nm:Option Str}
variable {g:List Value->List Value->List Value} {gV:List V->List V->List V}
end
structure Vg(N P:List Str)(sc:Hu):Prop where
 kind:sc.kind=.function
 co:sc.isCoroutine=false
 gen:sc.isGenerator=false
 nd:N.Nodup
 pre:N.take P.length=P
 par:∀x∈P,sc.names.lookup x=some .local\/sc.names.lookup x=some .cell
 nofree:∀y∈sc.names,y.2≠ .free
theorem Jhu{kindOf:Str->Option Ey}:∀{binds:List (Str×Value)} {m:Str->Option Value},(∀v,(x,v)∉binds)->Pz kindOf binds m x=m x
 |[],_,_=>rfl
 |(n,v)::r,m,h=>by
  unfold Pz;rw[Jhu λw hw=>h w (Ay _ hw)];split
  ·have:x≠n:=by rintro rfl;exact h v Bm
   simp[this]
  ·rfl
theorem Jhw{kindOf:Str->Option Ey}:∀{binds:List (Str×Value)} {m:Str->Option Value},(∀v,(x,v)∉binds)->P0 kindOf binds m x=m x
 |[],_,_=>rfl
 |(n,v)::r,m,h=>by
  unfold P0;rw[Jhw λw hw=>h w (Ay _ hw)];split
  ·rfl
  ·have:x≠n:=by rintro rfl;exact h v Bm
   simp[this]
theorem Jhv{kindOf:Str->Option Ey}:∀{P:List Str} {vs:List Value} {i:Nat} {m:Str->Option Value},P.Nodup->P[i]? =some x->vs[i]? =some v->kindOf x=some .local->
  Pz kindOf (P.zip vs) m x=some v
 |[],_,_,_,_,h,_,_=>by simp at h
 |_::_,[],_,_,_,_,h,_=>by simp at h
 |p::P,w::vs,0,m,nd,h1,h2,hk=>by
  simp at h1 h2;subst h1;subst h2;show Pz kindOf ((p,w)::P.zip vs) m p=_;unfold Pz;rw[Jhu λv hv=>(Ci.mp nd).1 (Mc hv).1,if_pos hk];simp
 |p::P,w::vs,i+1,m,nd,h1,h2,hk=>by
  show Pz kindOf ((p,w)::P.zip vs) m x=_;unfold Pz;exact Jhv (i:=i) (Ci.mp nd).2 (by simpa using h1) (by simpa using h2) hk
theorem Jhx{kindOf:Str->Option Ey}:∀{P:List Str} {vs:List Value} {i:Nat} {m:Str->Option Value},P.Nodup->P[i]? =some x->vs[i]? =some v->kindOf x≠some .local->
  P0 kindOf (P.zip vs) m x=some v
 |[],_,_,_,_,h,_,_=>by simp at h
 |_::_,[],_,_,_,_,h,_=>by simp at h
 |p::P,w::vs,0,m,nd,h1,h2,hk=>by
  simp at h1 h2;subst h1;subst h2;show P0 kindOf ((p,w)::P.zip vs) m p=_;unfold P0;rw[Jhw λv hv=>(Ci.mp nd).1 (Mc hv).1,if_neg hk];simp
 |p::P,w::vs,i+1,m,nd,h1,h2,hk=>by
  show P0 kindOf ((p,w)::P.zip vs) m x=_;unfold P0;exact Jhx (i:=i) (Ci.mp nd).2 (by simpa using h1) (by simpa using h2) hk
noncomputable def start(N:List Str)(vs:List V):St:=vs.map some++E1 (N.length-vs.length) none
noncomputable def Xo(CX:CXT)(P:Program)(w:World)(K:Af)(mg:Str->Option Value)(base:Heap)(N:List Str)(qual:Str)(scope:Hu)(f:Addr)(cd:Value)(A:Bj)(outer:List Env)(s:Shared)(H:Hp)(E:XK):Cx where
 prog:=P
 w:=w
 K:=K
 mg:=mg
 base:=base
 A:=A.deeper (L6 qual scope s.heap.objs.size f cd)
 N:=N
 s₀:=s
 H₀:=H
 env:=L6 qual scope s.heap.objs.size f cd
 outer:=outer
 stack:=L6 qual scope s.heap.objs.size f cd::outer
 ex:=[]
 calm:=true
 fn:=λ_=>true
 pn:=[]
 xe:=λe s'=>wpAny (model P w) (A.deeper (L6 qual scope s.heap.objs.size f cd)) (leaving (L6 qual scope s.heap.objs.size f cd) e) (λ_ s''=>CX outer H s E e s'') (λe' s''=>CX outer H s E e' s'') s'
def Jj0{sc:Hu}(h:sc.names.lookup x=some .cell):∃c,(cellsFrom n sc.names []).lookup x=some c:=by
 have q:=M7 sc.names n [] (.inl h);exact B6.mp q
def Jmu{CX:CXT}{P:Program}{w:World}{K:Af}{mg:Str->Option Value}{base:Heap}{N ps:List Str}{qual:Str}{scope:Hu}{f:Addr}{cd:Value}{A:Bj}{outer:List Env}{s s1:Shared}{H:Hp}{E:XK}{us:List Value}{vs:List V}
  (S:Vg N ps scope)(hd:A.handled=none)(e0:Xa P w K mg base A outer s H)(hl:vs.length=ps.length)(r:Vals vs us)
  (x:InCallC s s.heap.objs.size (Pz (L6 qual scope s.heap.objs.size f cd).kindOf (ps.zip us) λ_=>none) (cellsFrom (s.heap.objs.size+1) scope.names []) (P0 (L6 qual scope s.heap.objs.size f cd).kindOf (ps.zip us) λ_=>none) s1):
  Inv (Xo CX P w K mg base N qual scope f cd A outer s H E) [] (start N vs) H s1:=by
 have hpl:ps.length<=N.length:=by have:=congrArg Iz S.pre;rw[E2]at this;lia
 obtain⟨h1,tk,rfl,hk⟩:=x.done;have noA:∀b:Addr,b∉(Xo CX P w K mg base N qual scope f cd A outer s H E).ex:=λb z=>absurd (show b∈([]:List Addr)from z) (by simp);refine⟨⟨e0.mod,S.kind,rfl,rfl,Aj _,λy z c h1 h2=>?_,λy hy=>?_,λy c _ h=>?_,λ_=>hd,Around.frames_deeper e0.frames,.inr ⟨rfl,rfl⟩,λb z=>absurd z (noA b),e0.bs,e0.bsz,λb _ _=>noA b,λb z=>absurd z (noA b),e0.funs,e0.frf⟩,
  rfl,e0.bare,Un.kept hk,⟨_,x.toInCall.ns,λi y v h1 h2 h3=>?_⟩,λy c h=>⟨_,x.cell y c h⟩,e0.hok.fresh (Aj _),λy c h=>?_,λp hp=>absurd (show p∈([]:List (Addr×Obj))from hp) (by simp),e0.hok.kept hk,?_⟩
 ·exact name_of_addr x.apart (D4 h1) (D4 h2)
 ·have hy:scope.names.lookup y=some .cell\/scope.names.lookup y=some .free:=hy;rcases hy with hy|hy
  ·exact Jj0 hy
  ·exact absurd rfl (S.nofree _ (D4 hy))
 ·exact Ed (x.above y c (D4 h))
 ·have hi:i<vs.length:=by
   unfold start at h2
   by_cases hi:i<vs.length
   ·exact hi
   ·rw[A1 (by simpa using hi)]at h2;rw[E3]at h2;split at h2<;>cases h2
  have ha:vs[i]? =some v:=by
   unfold start at h2;rw[A0 (by simpa using hi),Aq]at h2;cases e:vs[i]? with
   |none=>rw[e]at h2;cases h2
   |some a=>rw[e]at h2;cases h2;rfl
  obtain⟨u,hu,rv⟩:=r.get ha;have hp:ps[i]? =some y:=by
   rw[<-S.pre,Ga (by lia)];exact h1
  have ndP:ps.Nodup:=by rw[<-S.pre];exact S.nd.sublist (Qt _ _)
  refine⟨u,rv,?_⟩;rcases S.par y (Ba hp)with k|k
  ·exact .inl ⟨k,Jhv ndP hp hu k⟩
  ·obtain⟨c,e⟩:=Jj0 (n:=s.heap.objs.size+1) k;refine .inr ⟨.inl k,c,e,?_⟩;have q:=x.cell y c e;rw[Jhx ndP hp hu (by show scope.names.lookup y≠_;rw[k];decide)]at q;exact q
 ·exact e0.hok.fresh (Ed (x.above y c (D4 h)))
 ·unfold start;show _=N.length;rw[Bd,Ai,G2]
  lia
theorem J1e{CX:CXT}{P:Program}{w:World}{K:Af}{mg:Str->Option Value}{base:Heap}{k:Nat}{f:Addr}{name qual:Str}{params:Arguments}{body:List Stmt}{scope:Hu}{dV kV doc pm cdv ct oc:Value}{an od:Option Addr}
  {osl:Array (Option Value)}{N ps:List Str}{sp:Sp}(lk:K.lookup f=some ⟨oc,od,.func (D6 name qual params body scope dV kV doc pm an cdv ct),osl⟩)(hcd:Fq K cdv qual=true)(S:Vg N ps scope)
  (len:∀vs H Q E,sp vs H Q E->vs.length=ps.length)
  (hbody:∀(A:Bj) (outer:List Env) (s:Shared) (H:Hp) (vs:List V) (Q:VK) (E:XK),Uy k (A.deeper (L6 qual scope s.heap.objs.size f cdv))->sp vs H Q E->
   ∃t,PSs (Xo CX P w K mg base N qual scope f cdv A outer s H E) body t/\t {nx:=λ_ H'=>Q .non H',rt:=Q} (start N vs) H):
  Vv P w K mg base CX (k+1) f (D6 name qual params body scope dV kV doc pm an cdv ct) ps sp:=by
 refine⟨len,λA outer s H args us vs Q E hr e0 hb r hsp=>?_⟩;have hl:=len _ _ _ _ hsp;have KX:K.In s.heap:=e0.mod.kin.keeps λb o e=>(e0.bs b o e).1;have lim:s.heap.NoLimit:=e0.mod.nolimit.keeps λb o e=>(e0.bs b o e).1;have hkind:∀y∈ps.zip us,scope.names.lookup y.1=some .local\/(scope.names.lookup y.1=some .cell/\((cellsFrom (s.heap.objs.size+1) scope.names []).lookup y.1).isSome=true):=λ⟨n,v⟩ hy=>by
  rcases S.par n (Mc hy).1 with q|q
  ·exact .inl q
  ·exact .inr ⟨q,M7 _ _ _ (.inl q)⟩
 refine codeAny_call_function hr.depth (KX _ _ lk) rfl S.co S.gen rfl (PySem.W.codeRec_of KX hcd) (hb _ _ _ _ ?_);refine wpAny_newFunctionEnv_cells S.kind hkind λenv he s1 x=>?_;subst he;refine⟨lim.keeps x.toInCall.keep,codeAny_func ?_⟩;obtain⟨t,ht,hq⟩:=hbody A outer s H vs Q E (hr.deeper _) hsp;have I:Inv (Xo CX P w K mg base N qual scope f cdv A outer s H E) [] (start N vs) H s1:=Jmu S hr.hd e0 hl r x;refine B3 (ht [] s1 (start N vs) H _ I hq) (λfl s' hs=>?_) λe s' hs=>hs;have fin:∀{U':St} {H':Hp} {v:V} {u:Value},Inv (Xo CX P w K mg base N qual scope f cdv A outer s H E) [] U' H' s'->RelV v u->Q v H'->CE outer P w H s Q u s':=
  λ{U' H' v u} J rv q=>⟨v,H',J.os,J.bare,J.base,J.hok,rv,q⟩
 cases fl with
 |ret u=>
  obtain⟨v,U',H',J,rv,q⟩:=hs;exact fin J rv q
 |next=>
  obtain⟨U',H',J,q⟩:=hs;exact fin (v:=V.non) (u:=Cd) J rfl q
 |brk=>
  obtain⟨_,_,_,q⟩:=hs;exact Dz q
 |cont=>
  obtain⟨_,_,_,q⟩:=hs;exact Dz q
section
variable {X:Cx} {x:Str} {p pos:Pos} {e:Expr} {es:List Expr} {t:TA} {id T:String} {r:List V->Hp->VK->Prop}
def tCB(r:List V->Hp->VK->Prop)(t:TA):TE:=λU H Q=>t U H λvs H1=>r vs H1 Q
def Jjj(hc:U2 X (.builtin id) r)(hg:Gl X x)(hm:X.mg x=none)(hv:C8 x=some (.builtin id))(ha:PA X (e::es) t)(hn:x≠"__name__":=by decide)(hdb:(x==("__debug__":Str))=false:=by decide)
  (he:Bl (e::es) X.env=(false,eval e X.env)::Bl es X.env:=by rfl)(hpl:(D5 pos (Bl es X.env)).any (·.1)=false:=by rfl):PE X (.Call (.Name x p) (e::es) [] pos) (tCB r t):=by
 intro pins s U H Q I h;refine Gu (Jcf I hg hm hv ?_ hn hdb);exact Gj (thn (ha pos pins s U H _ I h) λus s1 ⟨vs,H1,I1,r1,q1⟩=>hc pins s1 U H1 vs us Q I1 r1 q1) he hpl
def Jl9(hc:U2 X (.type T) r)(hg:Gl X x)(hm:X.mg x=none)(hv:C8 x=some (.type T))(ha:PA X (e::es) t)(hn:x≠"__name__":=by decide)(hdb:(x==("__debug__":Str))=false:=by decide)
  (he:Bl (e::es) X.env=(false,eval e X.env)::Bl es X.env:=by rfl)(hpl:(D5 pos (Bl es X.env)).any (·.1)=false:=by rfl):PE X (.Call (.Name x p) (e::es) [] pos) (tCB r t):=by
 intro pins s U H Q I h;refine Gu (Jcf I hg hm hv ?_ hn hdb);exact C2 (thn (ha pos pins s U H _ I h) λus s1 ⟨vs,H1,I1,r1,q1⟩=>hc pins s1 U H1 vs us Q I1 r1 q1) he hpl
end
end L2
namespace HT
open PySem PyProof.Rows
section
open PySem.SeqAt
open PySem.AutoSeq1 (wpAny_loadPart')
open PySem.MeetsSeq PySem.MeetsSeq2 PySem.MeetsSeq3
end
section
variable {prog:Program} {w:World} {A:Bj} {E:Value->Shared->Prop} {s:Shared}
def Ju1{vs ws:List Value}{Q:Value->Shared->Prop}(ht:IsTup s.heap t vs.toArray)(hb:IsTup s.heap b ws.toArray)(hv:vs≠[])
  (h1:ws=[]->Q (.ref t) s)(h2:ws≠[]->Q (.ref s.heap.objs.size) {s with heap:=s.heap.push {cls:=.type "tuple",data:=.seq (vs++ws).toArray}})
  (hsz:vs.length+ws.length<=sizeLine):wpAny (model prog w) A (Fv .Add (.ref t) (.ref b)) Q E s:=by
 obtain⟨⟨cls,dd,data,sl⟩,ho,hc,n,hd⟩:=id ht;obtain⟨⟨cls2,dd2,data2,sl2⟩,ho2,hc2,n2,hd2⟩:=id hb;simp only at hc hd hc2 hd2;subst hc hd hc2 hd2;have e:vs.toArray++ws.toArray=(vs++ws).toArray:=by simp
 by_cases hw:ws=[]
 ·exact K5 ⟨_,ho,rfl⟩ ⟨_,ho2,rfl⟩ Ln M5 Jj Iw (Ii _ _)
   (tuple_addW1 t b vs.toArray ws.toArray n n2 dd dd2 sl sl2 (by simpa using hv) (by simp[hw])) ⟨ho,ho2,h1 hw⟩
 ·refine K5 ⟨_,ho,rfl⟩ ⟨_,ho2,rfl⟩ Ln M5 Jj Iw (Ii _ _)
   (tuple_addW2 t b vs.toArray ws.toArray n n2 dd dd2 sl sl2 (by simpa using hv) (by simpa using hw) (by rw[Ao,Ao];exact hsz)) ⟨ho,ho2,?_⟩
  rw[e];exact h2 hw
noncomputable def sIx(n d:Nat):Option Int->Nat
 |none=>d
 |some v=>if v<0 then(v+(n:Int)).toNat else min v.toNat n
theorem Jv6(n d:Nat)(hd:d<=n)(o:Option Int):sIx n d o<=n:=by
 cases o with
 |none=>exact hd
 |some v=>
  show(if v<0 then(v+(n:Int)).toNat else min v.toNat n)<=n
  by_cases hv:v<0
  ·rw[if_pos hv];lia
  ·rw[if_neg hv];exact Nat.min_le_right _ _
def Jnf(v:Int)(n d:Nat):(if v<0 then max (v+(n:Int)) 0 else min v (n:Int))=((sIx n d (some v):Nat):Int):=by
 show(if v<0 then max (v+(n:Int)) 0 else min v (n:Int))=(((if v<0 then(v+(n:Int)).toNat else min v.toNat n):Nat):Int)
 by_cases hv:v<0
 ·simp only[if_pos hv];lia
 ·simp only[if_neg hv];lia
def Jku(lo hi:Option Int)(n:Nat):Ha lo hi 1 (n:Int)=(((sIx n 0 lo:Nat):Int),((sIx n n hi:Nat):Int)):=by
 have h1:¬((1:Int)<0):=by lia
 unfold Ha;simp only[h1,if_false];refine Sf ?_ ?_
 ·cases lo with
  |none=>rfl
  |some v=>exact Jnf v n 0
 ·cases hi with
  |none=>rfl
  |some v=>exact Jnf v n n
def Jkd(i j:Nat):Ff (i:Int) (j:Int) 1=j-i:=by
 unfold Ff;have h1:(1:Int)>0:=by lia
 simp only[h1,if_true,Int.ediv_one];split<;>lia
theorem Je7{Q:Option Int->Shared->Prop}(p:K8 v o)(h:Q o s):wpAny (model prog w) A (Builtin.Slice.slicePartIndex v) Q E s:=by
 cases p with
 |none=>exact slicePart_none h
 |int i t=>exact slicePart_int h
def Jbt{sl:Addr}{vl vu:Value}{lo hi:Option Int}{n:Nat}{Q:Int×Int×Nat->Shared->Prop}(hs:s.heap.IsSliceOf sl vl vu .none)(pl:K8 vl lo)(pu:K8 vu hi)
  (h:Q (((sIx n 0 lo:Nat):Int),1,sIx n n hi-sIx n 0 lo) s):wpAny (model prog w) A (Ku (.ref sl) (pure (n:Int))) Q E s:=by
 obtain⟨os,hos,hcs,hds⟩:=id hs;unfold Ku Builtin.Slice.sliceFields;refine Aa (Aa (B7 hos hds (x:=vl) rfl (Aa (B7 hos hds (x:=vu) rfl (Aa (B7 hos hds (x:=.none) rfl (Ac ?_)))))));refine Aa (slicePart_none ?_);show wpAny _ _ (if((1:Int)==0)=true then _ else _) _ _ s;rw[if_neg (by decide)];refine Aa (Je7 pl (Aa (Je7 pu (Aa (Ac ?_)))));show wpAny _ _ (match Ha lo hi 1 (n:Int)with|(lo,hi)=>pure (lo,(1:Int),Ff lo hi 1)) _ _ s;rw[Jku lo hi n];show wpAny _ _ (pure (((sIx n 0 lo:Nat):Int),(1:Int),Ff ((sIx n 0 lo:Nat):Int) ((sIx n n hi:Nat):Int) 1)) _ _ s;rw[Jkd];exact Ac h
def Jos(xs:Array Value)(i k:Nat):((B1 k).filterMap λ(m:Nat)=>xs[((i:Int)+(m:Int)*1).toNat]?).toArray=((xs.toList.drop i).take k).toArray:=by
 have e:(λ(m:Nat)=>xs[((i:Int)+(m:Int)*1).toNat]?)=λm=>xs[i+m]? :=by
  funext m;have:((i:Int)+(m:Int)*1).toNat=i+m:=by lia
  rw[this]
 rw[e];have:=pick_run xs i k;rw[List.filterMap_map]at this;have e2:((λx=>xs[x]?)∘λx=>i+x)=λm=>xs[i+m]? :=rfl;rw[e2]at this;rw[this]
def Jda{t sl:Addr}{items:Array Value}{vl vu:Value}{lo hi:Option Int}{Q:Value->Shared->Prop}(ht:IsTup s.heap t items)(hs:s.heap.IsSliceOf sl vl vu .none)(pl:K8 vl lo)(pu:K8 vu hi)
  (hw:¬(sIx items.size 0 lo=0/\sIx items.size items.size hi=items.size))
  (h:Q (.ref s.heap.objs.size) {s with heap:=s.heap.push {cls:=.type "tuple",data:=.seq ((items.toList.drop (sIx items.size 0 lo)).take (sIx items.size items.size hi-sIx items.size 0 lo)).toArray}})
  (hsz:items.size<=sizeLine):wpAny (model prog w) A (Kh (.ref t) (.ref sl)) Q E s:=by
 have htake:sizeOk (.seq ((items.toList.drop (sIx items.size 0 lo)).take (sIx items.size items.size hi-sIx items.size 0 lo)).toArray):=by
  show((items.toList.drop (sIx items.size 0 lo)).take (sIx items.size items.size hi-sIx items.size 0 lo)).toArray.size<=sizeLine;rw[Ao,E2,G5,By];omega
 have hj:sIx items.size items.size hi<=items.size:=Jv6 _ _ (Aj _) hi;obtain⟨os,hos,hcs,hds⟩:=id hs;have hTs:s.TypeIs (.ref sl) "slice":=⟨os,hos,hcs⟩
 unfold Kh
 try with_reducible refine Bh ?_
 first|refine Aa (Ac ?_)|skip
 refine Aa (Tz ht.typeIs (by decide) ?_);refine Aa (B4 (name:=Ab "__getitem__") ht.typeIs B9
  (Bn B9 ht.typeIs R5 ?_ (Tq _ _)))
 show wpAny _ _ (G1 (.ref t)>>=_) _ _ s;refine Aa (L1 ht ?_);refine Aa (Fj hTs ?_);rw[if_pos (by decide)];refine Aa (Jbt hs pl pu ?_);have hno:¬((((sIx items.size 0 lo:Nat):Int)==0&&(1:Int)==1&&(sIx items.size items.size hi-sIx items.size 0 lo)==items.size)=true):=by
  intro q;rw[Ah,Ah]at q;have q1:((sIx items.size 0 lo:Nat):Int)=0:=eq_of_beq q.1.1;have q2:sIx items.size items.size hi-sIx items.size 0 lo=items.size:=eq_of_beq q.2;exact hw ⟨by omega,by omega⟩
 show wpAny _ _ (if(((sIx items.size 0 lo:Nat):Int)==0&&(1:Int)==1&&(sIx items.size items.size hi-sIx items.size 0 lo)==items.size)=true then _ else _) _ _ s;rw[if_neg hno,Jos]
 first
  |exact Aa (m:=Fs _) (Bx (Ac ⟨_,rfl,Ac h⟩) htake)
  |exact Aa (m:=Fs _) (Bx (Aa (Ac (Ac ⟨_,rfl,Ac h⟩))) htake)
  |exact Aa (Aa (m:=Fs _) (Bx (Ac (Ac ⟨_,rfl,Ac h⟩)) htake))
  |exact Aa (Aa (m:=Fs _) (Bx (Ac ⟨_,rfl,Ac h⟩) htake))
end
end HT
namespace L2
open PySem PySem.Spec PyProof.Rows
abbrev TO:=St->Hp->(Option Int->Hp->Prop)->Prop
def PO(X:Cx)(e:Option Expr)(t:TO):Prop:=
 ∀(pins:List (Addr×Obj)) (s:Shared) (U:St) (H:Hp) (Q:Option Int->Hp->Prop),Inv X pins U H s->t U H Q->
  wpAny (model X.prog X.w) X.A (evalPart e X.env) (λu s'=>∃o H',Inv X pins U H' s'/\K8 u o/\Q o H') X.xe s
def Yh:TO:=λ_ H Q=>Q none H
def Zp(t:TE):TO:=λU H Q=>t U H λx H1=>∃i,x=.int i/\Q (some i) H1
section
variable {X:Cx} {e:Expr} {te:TE} {lo hi:Option Expr} {tl th:TO} {pos p2:Pos}
def Jtn:PO X none Yh:=by
 intro pins s U H Q I h;rw[evalPart_none];exact Ac ⟨none,H,I,.none,h⟩
def Jtm(h:PE X e te):PO X (some e) (Zp te):=by
 intro pins s U H Q I hw;rw[evalPart_some];refine thn (h pins s U H _ I hw) λu s1 ⟨x,H1,I1,r1,q1⟩=>?_;obtain⟨i,rfl,q⟩:=q1;obtain⟨t,rfl⟩:=r1;exact⟨some i,H1,I1,.int i t,q⟩
def SlR(X:Cx)(r:V->Option Int->Option Int->Hp->VK->Prop):Prop:=
 ∀(pins:List (Addr×Obj)) (s:Shared) (U:St) (H:Hp) (x:V) (v vl vu:Value) (lo hi:Option Int) (sl:Addr) (Q:VK),Inv X pins U H s->RelV x v->s.heap.IsSliceOf sl vl vu .none->K8 vl lo->K8 vu hi->r x lo hi H Q->
  ∃T id,typeLookup (.type T) "__getitem__"=pure (some (.builtin id))/\s.TypeIs v T/\wpAny (model X.prog X.w) X.A (Kh v (.ref sl)) (EP X pins U Q) X.xe s
def tSl(r:V->Option Int->Option Int->Hp->VK->Prop)(te:TE)(tl th:TO):TE:=λU H Q=>te U H λx H1=>tl U H1 λl H2=>th U H2 λu H3=>r x l u H3 Q
def Jou{r:V->Option Int->Option Int->Hp->VK->Prop}(hr:SlR X r)(he:PE X e te)(hl:PO X lo tl)(hu:PO X hi th):PE X (.Subscript e (.Slice lo hi none p2) pos) (tSl r te tl th):=by
 intro pins s U H Q I h;refine Subscript_ (thn (he pins s U H _ I h) λv s1 ⟨x,H1,I1,r1,q1⟩=>?_);refine wpAny_Slice (thn (hl pins s1 U H1 _ I1 q1) λvl s2 ⟨l,H2,I2,pl,q2⟩=>thn (hu pins s2 U H2 _ I2 q2) λvu s3 ⟨u,H3,I3,pu,q3⟩=>?_);rw[evalPart_none];refine Ac ?_;have I4:Inv X pins U H3 {s3 with heap:=s3.heap.push {cls:=.type "slice",data:=.fields #[vl,vu,.none]}}:=I3.kept (t':=s3.toks) λb ob q=>Ad _ q;obtain⟨T,id,hT,ht,hg⟩:=hr pins {s3 with heap:=s3.heap.push {cls:=.type "slice",data:=.fields #[vl,vu,.none]}} U H3 x v vl vu l u s3.heap.objs.size Q I4 r1 (Ub ..) pl pu q3;show wpAny (model X.prog X.w) X.A (subscriptTail e (.Slice lo hi none p2) v (.ref s3.heap.objs.size)) (EP X pins U Q) X.xe {s3 with heap:=s3.heap.push {cls:=.type "slice",data:=.fields #[vl,vu,.none]}};exact Kx (ops:=[.ref s3.heap.objs.size,v]) ht hT hg (by with_unfolding_all rfl)
noncomputable def W2(xs:List V)(lo hi:Option Int):List V:=(xs.drop (HT.sIx xs.length 0 lo)).take (HT.sIx xs.length xs.length hi-HT.sIx xs.length 0 lo)
def Jet(xs:List V)(lo hi:Option Int):(W2 xs lo hi).length<=xs.length:=by
 unfold W2;rw[E2,G5];omega
def Wew(K:Af):V->Option Int->Option Int->Hp->VK->Prop:=λx lo hi H Q=>∃a xs,x=.ref a/\SqT K H a xs/\
 ¬(HT.sIx xs.length 0 lo=0/\HT.sIx xs.length xs.length hi=xs.length)/\∀p,H p=none->Q (.ref p) (upd H p (.tup (W2 xs lo hi)))
def Jv3:SlR X (Wew X.K):=by
 intro pins s U H x v vl vu lo hi sl Q I rx hs pl pu h;obtain⟨a,xs,rfl,hx,hw,q⟩:=h;cases rx;obtain⟨its,r,ht,hz⟩:=I.tuple hx;have hlen:its.toArray.size=xs.length:=by rw[Ao];exact r.length.symm
 refine⟨"tuple",_,B9.lookup,ht.typeIs,?_⟩;refine HT.Jda ht hs pl pu (by rw[hlen];exact hw) ?_ (by rw[hlen];exact hz);rw[hlen];refine⟨.ref s.heap.objs.size,_,I.laid (t':=s.toks) (o:=.tup (W2 xs lo hi)) (λb ob q=>Ad _ q) (Aj _) ?_,rfl,q _ (I.hok.fresh (Aj _))⟩;exact⟨Bu (Jet xs lo hi) hz,_,(r.drop (HT.sIx xs.length 0 lo)).take (HT.sIx xs.length xs.length hi-HT.sIx xs.length 0 lo),Qq _ _⟩
def Z4(K:Af):R2:=λx y H Q=>∃a b xs ys,x=.ref a/\y=.ref b/\SqT K H a xs/\SqT K H b ys/\xs≠[]/\xs.length+ys.length<=sizeLine/\
 (ys=[]->Q (.ref a) H)/\(ys≠[]->∀p,H p=none->Q (.ref p) (upd H p (.tup (xs++ys))))
theorem Vals.nil_iff(r:Vals xs us):us=[]↔xs=[]:=by
 cases r with
 |nil=>simp
 |cons _ _=>simp
def Jt2:OpR X (Fv .Add) (Z4 X.K):=by
 intro pins s U H x y v u Q I rx ry h;obtain⟨a,b,xs,ys,rfl,rfl,ha,hb,hx,hz,q1,q2⟩:=h;cases rx;cases ry;obtain⟨its,r1,p1,_⟩:=I.tuple ha;obtain⟨its2,r2,p2,_⟩:=I.tuple hb;refine HT.Ju1 p1 p2 (λz=>hx (r1.nil_iff.mp z)) (λz=>⟨.ref a,H,I,rfl,q1 (r2.nil_iff.mp z)⟩) (λz=>?_) (by rw[<-r1.length,<-r2.length];exact hz);refine⟨.ref s.heap.objs.size,_,I.laid (t':=s.toks) (o:=.tup (xs++ys)) (λb ob q=>Ad _ q) (Aj _) ?_,rfl,q2 (λw=>z (r2.nil_iff.mpr w)) _ (I.hok.fresh (Aj _))⟩;exact⟨by rw[Bd];exact hz,_,r1.append r2,Qq _ _⟩
end
noncomputable def ixN(n:Nat)(i:Int):Option Nat:=if 0<=i then(if i<n then some i.toNat else none)else if -(n:Int)<=i then some (i+n).toNat else none
noncomputable def atI{α:Type}(xs:List α)(i:Int):Option α:=(ixN xs.length i).bind λj=>xs[j]?
def Jms(h:ixN n i=some j):seqIndex? i n=some j/\j<n/\ -(n:Int)<=i/\i<n:=by
 unfold ixN at h
 by_cases h0:0<=i
 ·rw[if_pos h0]at h
  by_cases h1:i<n
  ·rw[if_pos h1]at h;have e:i.toNat=j:=Bi h;exact⟨by rw[Ra h0 h1,e],by lia,by lia,h1⟩
  ·rw[if_neg h1]at h;cases h
 ·rw[if_neg h0]at h
  by_cases h1: -(n:Int)<=i
  ·rw[if_pos h1]at h;have e:(i+n).toNat=j:=Bi h;exact⟨by rw[seqIndex_neg (by lia) h1,e],by lia,h1,by lia⟩
  ·rw[if_neg h1]at h;cases h
theorem Jnr{α:Type}{xs:List α}{i:Int}{v:α}(h:atI xs i=some v):∃j,seqIndex? i xs.length=some j/\xs[j]? =some v/\j<xs.length/\ -(xs.length:Int)<=i/\i<xs.length:=by
 unfold atI at h;cases e:ixN xs.length i with
 |none=>rw[e]at h;cases h
 |some j=>
  rw[e]at h;obtain⟨h1,h2,h3,h4⟩:=Jms e;exact⟨j,h1,h,h2,h3,h4⟩
def Xf(b:Expr):Prop:=∀o i,subscripted b false o i=operate [o,i] (Kh o i)
def IxR(X:Cx)(r:R2):Prop:=
 ∀(value slice:Expr) (pins:List (Addr×Obj)) (s:Shared) (U:St) (H:Hp) (x y:V) (v u:Value) (Q:VK),Inv X pins U H s->RelV x v->RelV y u->r x y H Q->
  subscripted slice false v u=operate [v,u] (Kh v u)->wpAny (model X.prog X.w) X.A (subscriptTail value slice v u) (EP X pins U Q) X.xe s
def MtR(X:Cx)(id:String)(r:V->List V->Hp->VK->Prop):Prop:=
 ∀(pins:List (Addr×Obj)) (s:Shared) (U:St) (H:Hp) (x:V) (xs:List V) (v:Value) (us:List Value) (Q:VK),Inv X pins U H s->RelV x v->Vals xs us->r x xs H Q->
  wpAny (model X.prog X.w) X.A (call (.builtin id) (v::us)) (EP X pins U Q) X.xe s
section
variable {X:Cx} {a b:Expr} {ta tb:TE} {pos:Pos}
def J0s(hr:IxR X r)(ha:PE X a ta)(hb:PE X b tb)(hs:Xf b):PE X (.Subscript a b pos) (tOp r ta tb):=by
 intro pins s U H Q I h;exact Subscript_ (Zl ha hb I h λv u s2 x y H2 I2 rx ry q=>hr a b pins s2 U H2 x y v u Q I2 rx ry q (hs _ _))
def We0(K:Af):R2:=λx y H Q=>∃p xs i v,x=.ref p/\y=.int i/\SqL K H p xs/\atI xs i=some v/\Q v H
def Wez(K:Af):R2:=λx y H Q=>∃p xs i v,x=.ref p/\y=.int i/\SqT K H p xs/\atI xs i=some v/\Q v H
def Jud:IxR X (We0 X.K):=by
 intro value slice pins s U H x y v u Q I rx ry h hs;obtain⟨p,xs,i,z,rfl,rfl,hq,he,q⟩:=h;cases rx;obtain⟨t,rfl⟩:=ry;obtain⟨its,r,pl,hz⟩:=I.list hq;obtain⟨j,h1,h2,h3,h4,h5⟩:=Jnr he;obtain⟨w,ew,rw'⟩:=r.get h2;have hl:=r.length;have hn:=Jhd;have fin:EP X pins U Q w s:=⟨z,H,I,rw',q⟩
 by_cases h0:0<=i
 ·have hj:i.toNat=j:=by
   rw[Ra h0 h5]at h1;exact Bi h1
  exact item_listR pl.isList h0 (by lia) (by rw[hj];simpa using ew) fin hs
 ·have hj:(i+(its.toArray.size:Int)).toNat=j:=by
   rw[seqIndex_neg (by lia) h4]at h1;rw[Ao,<-hl];exact Bi h1
  exact Qp (x:=w) pl.isList.typeIs T4.lookup
   (wpAny_getItem_list_neg (Q:=λr s'=>r=w/\EP X pins U Q r s') pl.isList (by lia) (by rw[Ao]<;>lia) (by lia) (by rw[hj];simpa using ew) ⟨rfl,fin⟩) hs
def Jyp:IxR X (Wez X.K):=by
 intro value slice pins s U H x y v u Q I rx ry h hs;obtain⟨p,xs,i,z,rfl,rfl,hq,he,q⟩:=h;cases rx;obtain⟨t,rfl⟩:=ry;obtain⟨its,r,pl,hz⟩:=I.tuple hq;obtain⟨j,h1,h2,h3,h4,h5⟩:=Jnr he;obtain⟨w,ew,rw'⟩:=r.get h2;have hl:=r.length;have hn:=Jhd;have fin:EP X pins U Q w s:=⟨z,H,I,rw',q⟩
 exact Qp (x:=w) pl.typeIs B9.lookup
  (getItem_tuple (j:=j) (Q:=λr s'=>r=w/\EP X pins U Q r s') pl (by lia) (by lia) (by rw[Ao,<-hl];exact h1) (by simpa using ew) ⟨rfl,fin⟩) hs
def Jkf(its:List Value)(n j:Nat)(u:Value):Dj (·.setIfInBounds j u) {cls:=.type "list",data:=.seq its.toArray n}={cls:=.type "list",data:=.seq (its.set j u).toArray n}:=by
 simp[Dj]
inductive InvM (s:Shared) (p:Addr) (xs:List V):Prop
 |mk (its:List Value) (n:Nat) (_:Vals xs its) (_:s.heap.get? p=some {cls:=.type "list",data:=.seq its.toArray n}) (_:xs.length<=sizeLine):InvM s p xs
def Inv.lst(I:Inv X pins U H s)(h:H p=some (.lst xs)):InvM s p xs:=by
 obtain⟨z,its,n,r,e⟩:=I.hok p _ h;exact⟨its,n,r,e,z⟩
def Inv.lstUpd{s:Shared}{ys:List V}{its its':List Value}{f:Obj->Obj}(I:Inv X pins U H s)(h:H p=some (.lst xs))
  (ho:s.heap.get? p=some {cls:=.type "list",data:=.seq its.toArray n})(hf:f {cls:=.type "list",data:=.seq its.toArray n}={cls:=.type "list",data:=.seq its'.toArray n'})(r:Vals ys its')(hz:ys.length<=sizeLine)(t:Nat):
  Inv X pins U (upd H p (.lst ys)) {s with heap:=s.heap.update p f,toks:=t}:=by
 have e:(s.heap.update p f).get? p=some {cls:=.type "list",data:=.seq its'.toArray n'}:=by
  rw[Cm f ho (by rw[hf]<;>rfl),hf]
 refine I.write (x:=p) (e:=p) (by rw[h];trivial) (.inl rfl) (λb u hb q=>(Ea _ _ (D7 hb)).trans q) ⟨_,e⟩ ?_;exact⟨hz,its',n',r,e⟩
def Z3:V->V->V->Hp->(Hp->Prop)->Prop:=λo i v H Q=>∃p xs k j,o=.ref p/\i=.int k/\H p=some (.lst xs)/\ixN xs.length k=some j/\Q (upd H p (.lst (xs.set j v)))
def set_list:Zm X Z3:=by
 intro pins s U H o i v ov iv u Q I ro ri rv h;obtain⟨p,xs,k,j,rfl,rfl,hp,hj,q⟩:=h;cases ro;obtain⟨t,rfl⟩:=ri;obtain⟨its,n,r,ho,hz⟩:=I.lst hp;obtain⟨h1,h2,h3,h4⟩:=Jms hj;have hl:=r.length;have hn:=Jhd;have I':Inv X pins U (upd H p (.lst (xs.set j v))) {s with heap:=s.heap.update p (Dj (·.setIfInBounds j u))}:=
  I.lstUpd hp ho (Jkf its n j u) (r.set rv j) (by rw[Em];exact hz) s.toks
 by_cases h0:0<=k
 ·have hk:k.toNat=j:=by
   rw[Ra h0 h4]at h1;exact Bi h1
  exact PySem.W.ki_setAt ho h0 (by lia) (by rw[Ao,<-hl];exact h4) (by rw[hk];exact⟨_,I',q⟩)
 ·have hk:(k+(its.toArray.size:Int)).toNat=j:=by
   rw[seqIndex_neg (by lia) h3]at h1;rw[Ao,<-hl];exact Bi h1
  exact PySem.W.ki_setBack ho (by lia) (by rw[Ao,<-hl];exact h3) (by lia) (by rw[hk];exact⟨_,I',q⟩)
def Jg1(lo hi:Option Int)(n:Nat):(Hr lo hi none n).1=((HT.sIx n 0 lo:Nat):Int)/\(Hr lo hi none n).2.1=((HT.sIx n n hi:Nat):Int)/\(Hr lo hi none n).2.2=1:=by
 refine⟨?_,?_,rfl⟩
 ·cases lo with
  |none=>simp[Hr,HT.sIx]
  |some i=>
   simp only[Hr,HT.sIx,P6,show(1:Int)>0 by decide,if_true]
   by_cases h:i<0
   ·simp only[h,if_true]<;>lia
   ·simp only[h,if_false]<;>lia
 ·cases hi with
  |none=>simp[Hr,HT.sIx]
  |some i=>
   simp only[Hr,HT.sIx,P6,show(1:Int)>0 by decide,if_true]
   by_cases h:i<0
   ·simp only[h,if_true]<;>lia
   ·simp only[h,if_false]<;>lia
theorem Jfr(its:List Value)(lo hi:Option Int):slicePick its.toArray lo hi none=((its.drop (HT.sIx its.length 0 lo)).take (HT.sIx its.length its.length hi-HT.sIx its.length 0 lo)).toArray:=by
 obtain⟨h1,h2,h3⟩:=Jg1 lo hi its.toArray.size;unfold slicePick;rw[h1,h2,h3];simp only[sliceRange_one,pick_run,Ao]<;>rfl
def Wex(K:Af):V->Option Int->Option Int->Hp->VK->Prop:=λx lo hi H Q=>∃a xs,x=.ref a/\SqL K H a xs/\∀p,H p=none->Q (.ref p) (upd H p (.lst (W2 xs lo hi)))
def Jlo:SlR X (Wex X.K):=by
 intro pins s U H x v vl vu lo hi sl Q I rx hs pl pu h;obtain⟨a,xs,rfl,hx,q⟩:=h;cases rx;obtain⟨its,r,ht,hz⟩:=I.list hx;have hlen:=r.length;refine⟨"list",_,T4.lookup,ht.isList.typeIs,?_⟩;refine wpAny_getItem_list_slice ht.isList hs pl pu .none (by simp) ?_ (by rw[Ao]<;>lia);rw[Jfr,<-hlen];refine⟨.ref s.heap.objs.size,_,I.laid (t':=s.toks) (o:=.lst (W2 xs lo hi)) (λb ob q=>Ad _ q) (Aj _) ?_,rfl,q _ (I.hok.fresh (Aj _))⟩;exact⟨Bu (Jet xs lo hi) hz,_,0,(r.drop (HT.sIx xs.length 0 lo)).take (HT.sIx xs.length xs.length hi-HT.sIx xs.length 0 lo),Ak _ rfl⟩
noncomputable def Wi:V->Bool
 |.non=>true
 |.bl _=>true
 |.int _=>true
 |.str _=>true
 |_=>false
noncomputable def eqV:V->V->Bool
 |.non,.non=>true
 |.bl a,.bl b=>a==b
 |.bl a,.int b=>(if a then 1 else 0)==b
 |.int a,.bl b=>a==(if b then 1 else 0)
 |.int a,.int b=>a==b
 |.str a,.str b=>a==b
 |_,_=>false
theorem Jy4(ry:RelV y u)(rx:RelV x v)(fy:Wi y=true)(fx:Wi x=true):E6 A s u v (eqV y x):=by
 cases y with
 |non=>
  cases ry;cases x with
  |non=>cases rx;exact K2 _
  |bl b=>cases rx;exact SeqAt.EqAt.none_bool b
  |int b=>obtain⟨t,rfl⟩:=rx;exact SeqAt.EqAt.none_int b t
  |str b=>obtain⟨t,rfl⟩:=rx;exact SeqAt.EqAt.none_str b t
  |_=>exact fx9 (show false=true from fx)
 |bl a=>
  cases ry;cases x with
  |non=>cases rx;exact SeqAt.EqAt.bool_none a
  |bl b=>cases rx;exact SeqAt.EqAt.bool_bool a b
  |int b=>obtain⟨t,rfl⟩:=rx;exact SeqAt.EqAt.bool_int a b t
  |str b=>obtain⟨t,rfl⟩:=rx;exact SeqAt.EqAt.bool_str a b t
  |_=>exact fx9 (show false=true from fx)
 |int a=>
  obtain⟨t',rfl⟩:=ry;cases x with
  |non=>cases rx;exact SeqAt.EqAt.int_none a t'
  |bl b=>cases rx;exact SeqAt.EqAt.int_bool a t' b
  |int b=>obtain⟨t,rfl⟩:=rx;exact SeqAt.EqAt.int_int a t' b t
  |str b=>obtain⟨t,rfl⟩:=rx;exact Np a t' b t
  |_=>exact fx9 (show false=true from fx)
 |str a=>
  obtain⟨t',rfl⟩:=ry;cases x with
  |non=>cases rx;exact SeqAt.EqAt.str_none a t'
  |bl b=>cases rx;exact SeqAt.EqAt.str_bool a t' b
  |int b=>obtain⟨t,rfl⟩:=rx;exact Nm a t' b t
  |str b=>obtain⟨t,rfl⟩:=rx;exact SeqAt.EqAt.str_str a t' b t
  |_=>exact fx9 (show false=true from fx)
 |_=>exact fx9 (show false=true from fy)
def Jhq:U2 X (.builtin "len") (λxs H Q=>∃p ys,xs=[.ref p]/\(SqL X.K H p ys\/SqT X.K H p ys)/\Q (.int ys.length) H):=by
 intro pins s U H xs us Q I r h;obtain⟨p,ys,rfl,hq,q⟩:=h;obtain⟨u,rfl,rx⟩:=vals1 r;cases rx;have hn:=Jhd;rcases hq with hq|hq
 ·obtain⟨its,r',pl,hz⟩:=I.list hq;have hlen:=r'.length;exact Calls.call_len_list pl.isList (by simp only[Ao]<;>lia) ⟨.int ys.length,H,I.tok _,⟨s.toks+1,by rw[Ao,hlen]⟩,q⟩
 ·obtain⟨its,r',pl,hz⟩:=I.tuple hq;have hlen:=r'.length;exact len_tuple pl (by simp only[Ao]<;>lia) ⟨.int ys.length,H,I.tok _,⟨s.toks+1,by rw[Ao,hlen]⟩,q⟩
def Jhp:U2 X (.type "list") (λxs H Q=>∃p ys,xs=[.ref p]/\(SqL X.K H p ys\/SqT X.K H p ys)/\∀l,H l=none->Q (.ref l) (upd H l (.lst ys))):=by
 intro pins s U H xs us Q I r h;obtain⟨p,ys,rfl,hq,q⟩:=h;obtain⟨u,rfl,rx⟩:=vals1 r;cases rx;have fin:∀(its:List Value),Vals ys its->ys.length<=sizeLine->∀(h':Heap) (c':Nat),(∀b o',s.heap.get? b=some o'->h'.get? b=some o')->
   h'.get? s.heap.objs.size=some {cls:=.type "list",dict:=none,data:=.seq its.toArray c',slots:= #[]}->EP X pins U Q (.ref s.heap.objs.size) {s with heap:=h'}:=λits r' hz h' c' kp e=>
  ⟨.ref s.heap.objs.size,_,I.laid (t':=s.toks) kp (Aj _) (show Uq X.prog X.w _ h' _ (.lst ys)from⟨hz,its,c',r',e⟩),rfl,q _ (I.hok.fresh (Aj _))⟩
 rcases hq with hq|hq
 ·obtain⟨its,r',pl,hz⟩:=I.list hq;have hlen:=r'.length;obtain⟨o,ho,hc,n,hd⟩:=pl.isList;exact call_list_seq p (.inl rfl) ho hc hd (λh' c' kp e=>fin its r' hz h' c' kp e) (by simp only[Ao]<;>lia)
 ·obtain⟨its,r',pl,hz⟩:=I.tuple hq;have hlen:=r'.length;obtain⟨o,ho,hc,n,hd⟩:=pl;exact call_list_seq p (.inr rfl) ho hc hd (λh' c' kp e=>fin its r' hz h' c' kp e) (by simp only[Ao]<;>lia)
def Jgg:U2 X (.type "tuple") (λxs H Q=>∃p ys,xs=[.ref p]/\((SqL X.K H p ys/\∀l,H l=none->Q (.ref l) (upd H l (.tup ys)))\/(SqT X.K H p ys/\Q (.ref p) H))):=by
 intro pins s U H xs us Q I r h;obtain⟨p,ys,rfl,h⟩:=h;obtain⟨u,rfl,rx⟩:=vals1 r;cases rx;rcases h with⟨hq,q⟩|⟨hq,q⟩
 ·obtain⟨its,r',pl,hz⟩:=I.list hq;have hlen:=r'.length;refine call_tuple_list pl.isList (λh' kp=>?_) (by simp only[Ao]<;>lia);have I1:Inv X pins U H {s with heap:=h'}:=I.kept (t':=s.toks) kp;have I2:Inv X pins U (upd H h'.objs.size (.tup ys)) {s with heap:=h'.push {cls:=.type "tuple",data:=.seq its.toArray}}:=
   I1.laid (t':=s.toks) (λb o e=>Ad _ e) (Aj _) (show Uq X.prog X.w _ _ _ (.tup ys)from⟨hz,its,r',Qq _ _⟩)
  exact⟨.ref h'.objs.size,_,I2,rfl,q _ (I1.hok.fresh (Aj _))⟩
 ·obtain⟨its,r',pl,hz⟩:=I.tuple hq;exact call_tuple_same pl ⟨.ref p,H,I,rfl,q⟩
def tyV(K:Af)(T:String)(x:V)(H:Hp):Prop:=match x with
 |.str _=>T="str"
 |.int _=>T="int"
 |.ref p=>(T="list"/\∃xs,SqL K H p xs)\/(T="tuple"/\∃o,K.lookup p=some o/\o.cls=.type "tuple"/\o.dict=none)\/
   (T="dict"/\((∃kvs,H p=some (.dK kvs))\/∃kvs,H p=some (.dT kvs)))\/(T="set"/\∃S n,H p=some (.set S n))
 |_=>False
theorem Jqn{s:Shared}(I:Inv X pins U H s)(r:RelV x v)(ty:tyV X.K T x H):
  s.TypeIs v T/\∀a,v=.ref a->∃ob,s.heap.get? a=some ob/\ob.dict=none:=by
 cases x with
 |str z=>
  obtain⟨t,rfl⟩:=r;cases(show T="str" from ty);exact⟨typeIs_str s z t,λ_ e=>nomatch e⟩
 |int i=>
  obtain⟨t,rfl⟩:=r;cases(show T="int" from ty);exact⟨Sx s i t,λ_ e=>nomatch e⟩
 |ref p=>
  cases r;rcases ty with⟨rfl,xs,hq⟩|⟨rfl,o,hk,hc,hd⟩|⟨rfl,hk⟩|⟨rfl,S,n,hk⟩
  ·obtain⟨its,_,pl,_⟩:=I.list hq;refine⟨pl.isList.typeIs,λa e=>?_⟩;cases e;obtain⟨o,n,e,c,hd,_⟩:=pl;exact⟨o,e,hd⟩
  ·refine⟨⟨o,I.kIn p o hk,hc⟩,λa e=>?_⟩;cases e;exact⟨o,I.kIn _ o hk,hd⟩
  ·have z:∃o,s.heap.get? p=some o/\o.ExactDict:=by
    rcases hk with⟨kvs,hk⟩|⟨kvs,hk⟩
    ·obtain⟨_,_,_,_,o,_,_,e,ex,_⟩:=I.hok p _ hk;exact⟨o,e,ex⟩
    ·obtain⟨_,_,_,_,o,_,_,e,ex,_⟩:=I.hok p _ hk;exact⟨o,e,ex⟩
   obtain⟨o,e,ex⟩:=z;refine⟨⟨o,e,ex.1⟩,λa e2=>?_⟩;cases e2;exact⟨o,e,ex.2.1⟩
  ·obtain⟨o,_,_,_,e,ex,_⟩:=I.hok p _ hk;refine⟨⟨o,e,ex.1⟩,λa e2=>?_⟩;cases e2;exact⟨o,e,ex.2.1⟩
 |_=>exact Dz ty
def Wer(K:Af)(T:String)(r:V->List V->Hp->VK->Prop)(to:TE):TE:=λU H Q=>to U H λx H1=>tyV K T x H1/\r x [] H1 Q
def tBM(K:Af)(T:String)(r:V->List V->Hp->VK->Prop)(to:TE)(t:TA):TE:=λU H Q=>to U H λx H1=>tyV K T x H1/\t U H1 λxs H2=>r x xs H2 Q
variable {o e:Expr} {es:List Expr} {to:TE} {t:TA} {name:Str} {apos cpos:Pos} {T id:String} {r:V->List V->Hp->VK->Prop}
def Jrb(pa:Tg T)(slot:Slot T name id)(hty:Sw (.builtin id)=pure (.type "method_descriptor"))(hm:MtR X id r)(ho:PE X o to)
  (hbase:attributeBase o name X.env (eval o X.env)=eval o X.env:=by rfl)(hline:(apos.endLine==cpos.line)=true:=by rfl):PE X (.Call (.Attribute o name apos) [] [] cpos) (Wer X.K T r to):=by
 intro pins s U H Q I h;refine Pw hbase hline (thn (ho pins s U H _ I h) λv s1 ⟨x,H1,I1,r1,ty,q1⟩=>?_);obtain⟨h1,h2⟩:=Jqn I1 r1 ty;exact⟨T,id,pa,slot,hty,h1,h2,Gn rfl (O3 (hm pins s1 U H1 x [] v [] Q I1 r1 .nil q1))⟩
def J0t(pa:Tg T)(slot:Slot T name id)(hty:Sw (.builtin id)=pure (.type "method_descriptor"))(hm:MtR X id r)(ho:PE X o to)(ha:PA X (e::es) t)
  (hbase:attributeBase o name X.env (eval o X.env)=eval o X.env:=by rfl)
  (hfew:((D5 cpos (Bl (e::es) X.env)).all (λx=> !x.1)&&(Jh cpos (F8 [] X.env)).all (λx=>x.1.isSome)
   &&decide ((e::es).length+([]:List Jr).length+(if([]:List Jr).isEmpty then 0 else 1)<30))=true:=by rfl)
  (hline:(apos.endLine==cpos.line)=true:=by rfl)(hs:Bl (e::es) X.env=(false,eval e X.env)::Bl es X.env:=by rfl)(hplain:(D5 cpos (Bl es X.env)).any (·.1)=false:=by rfl):
  PE X (.Call (.Attribute o name apos) (e::es) [] cpos) (tBM X.K T r to t):=by
 intro pins s U H Q I h;refine Qe hbase hfew hline rfl (thn (ho pins s U H _ I h) λv s1 ⟨x,H1,I1,r1,ty,q1⟩=>?_);obtain⟨h1,h2⟩:=Jqn I1 r1 ty;refine⟨T,id,pa,slot,hty,h1,h2,?_⟩;have hA:=ha cpos pins s1 U H1 _ I1 q1;rw[hs]at hA ⊢;refine Gn (by show(false||(D5 cpos (Bl es X.env)).any (·.1))=false;rw[hplain]<;>rfl) (Ox ?_);exact thn hA λus s2 ⟨vs,H2,I2,r2,q2⟩=>hm pins s2 U H2 x vs v us Q I2 r1 r2 q2
end
def MtM(X:Cx)(id:String)(r:V->List V->Hp->VK->Prop):Prop:=
 ∀(pins:List (Addr×Obj)) (s:Shared) (U:St) (H:Hp) (x:V) (xs:List V) (v:Value) (us:List Value) (Q:VK),Inv X pins U H s->RelV x v->Vals xs us->r x xs H Q->
  wpAny (model X.prog X.w) X.A (call (.builtin id) (v::us)) (EP X pins U Q) X.xe s
theorem Vals.one:∀{x:V} {us:List Value},Vals [x] us->∃u,us=[u]/\RelV x u
 |_,_,.cons r .nil=>⟨_,rfl,r⟩
theorem Vals.zero:∀{us:List Value},Vals [] us->us=[]
 |_,.nil=>rfl
theorem Vals.dropLast{xs:List V}{us:List Value}(h:Vals xs us):Vals xs.dropLast us.dropLast:=by
 induction h with
 |nil=>exact .nil
 |cons r t ih=>
  cases t with
  |nil=>exact .nil
  |cons q t'=>exact .cons r ih
theorem Jkq{α:Type}(l:List α):l.eraseIdx (l.length-1)=l.dropLast:=by
 induction l with
 |nil=>rfl
 |cons a r ih=>
  cases r with
  |nil=>rfl
  |cons b r=>
   have e:(a::b::r).length-1=((b::r).length-1)+1:=by
    have h1:(a::b::r).length=r.length+2:=rfl;have h2:(b::r).length=r.length+1:=rfl
    lia
   rw[e,N6,ih]
   all_goals rfl
section
variable {X:Cx} {pins:List (Addr×Obj)} {U:St} {H:Hp} {s:Shared} {l b:Addr} {xs ys zs:List V}
def Inv.lset{its its':List Value}{f:Array Value->Array Value}(I:Inv X pins U H s)(hH:H l=some (.lst xs))
  (e:s.heap.get? l=some {cls:=.type "list",data:=.seq its.toArray n})(hf:f its.toArray=its'.toArray)(hv:Vals ys its')(hz:ys.length<=sizeLine):
  Inv X pins U (upd H l (.lst ys)) {s with heap:=s.heap.update l (Dj f),toks:=t'}:=by
 have q:=PySem.IsL.update e f;rw[hf]at q;refine I.write (x:=l) (e:=l) (by rw[hH];exact trivial) (.inl rfl) (λb' u hb hu=>(Ea s.heap (Dj f) (D7 hb)).trans hu) ⟨_,q⟩ ?_;exact⟨hz,its',_,hv,q⟩
def Inv.lnew{its:List Value}(I:Inv X pins U H s)(hv:Vals ys its)(hz:ys.length<=sizeLine):
  Inv X pins U (upd H s.heap.objs.size (.lst ys)) {s with heap:=s.heap.push {cls:=.type "list",data:=.seq its.toArray},toks:=t'}:=
 I.laid (λ_ _ q=>Ad _ q) (Aj _) ⟨hz,its,0,hv,Ak _ rfl⟩
def Inv.fresh(I:Inv X pins U H s):H s.heap.objs.size=none:=I.hok.fresh (Aj _)
def Inv.lstM(I:Inv X pins U H s)(hH:H l=some (.lst xs)):xs.length<=sizeLine/\∃(its:List Value) (n:Nat),Vals xs its/\xs.length=its.length/\s.heap.get? l=some {cls:=.type "list",data:=.seq its.toArray n}:=by
 obtain⟨z,its,n,r,e⟩:=I.hok l _ hH;exact⟨z,its,n,r,r.length,e⟩
end
section
variable {X:Cx}
def Yi:V->List V->Hp->VK->Prop:=λx vs H Q=>∃l xs y,x=.ref l/\vs=[y]/\H l=some (.lst xs)/\xs.length<sizeLine/\Q .non (upd H l (.lst (xs++[y])))
def Jmh:MtM X "list.append" Yi:=by
 intro pins s U H x vs v us Q I rx rv h;obtain⟨l,xs,y,rfl,rfl,hH,hz,q⟩:=h;cases rx;obtain⟨u,rfl,ru⟩:=rv.one;obtain⟨z,its,n,r,hl,e⟩:=I.lstM hH;refine Oo Ov ⟨_,e,rfl⟩ F.entry_list_append (F.args_list_append_2 _ _) (PySem.list_append l its.toArray n u (by rw[Ao];lia)) ⟨e,?_⟩;refine⟨.non,_,I.lset (its':=its++[u]) hH e (by simp) (r.append (.cons ru .nil)) ?_,rfl,q⟩;rw[Bd,Dq]
 lia
def Wey:V->List V->Hp->VK->Prop:=λx vs H Q=>∃l xs y,x=.ref l/\vs=[]/\H l=some (.lst xs)/\xs[xs.length-1]? =some y/\Q y (upd H l (.lst xs.dropLast))
def Jx7:MtM X "list.pop" Wey:=by
 intro pins s U H x vs v us Q I rx rv h;obtain⟨l,xs,y,rfl,rfl,hH,hy,q⟩:=h;cases rx;have hus:=rv.zero;subst hus;obtain⟨z,its,n,r,hl,e⟩:=I.lstM hH;obtain⟨u,hu,ru⟩:=r.get hy;have hy':its.toArray[its.toArray.size-1]? =some u:=by
  show its.toArray[its.length-1]? =some u;rw[<-Dp,<-hl];exact hu
 refine Oo P4 ⟨_,e,rfl⟩ F.entry_list_pop (F.args_list_pop_1 _) (MeetsSeq.list_pop_last l its.toArray n u hy' (by rw[Ao];omega)) ⟨e,?_⟩;refine⟨y,_,I.lset (its':=its.dropLast) hH e ?_ r.dropLast ?_,ru,q⟩
 ·show its.toArray.eraseIdxIfInBounds (its.toArray.size-1)=its.dropLast.toArray;rw[Ao,List.eraseIdxIfInBounds_toArray,Jkq]
 ·rw[List.length_dropLast];omega
def We1:R2:=λx y H Q=>∃l b xs zs,x=.ref l/\y=.ref b/\H l=some (.lst xs)/\H b=some (.lst zs)/\xs.length+zs.length<=sizeLine/\∀p,H p=none->Q (.ref p) (upd H p (.lst (xs++zs)))
def Jx0:OpR X (Fv .Add) We1:=by
 intro pins s U H x y v u Q I rx ry h;obtain⟨l,b,xs,zs,rfl,rfl,hH,hB,hz,q⟩:=h;cases rx;cases ry;obtain⟨z,its,n,r,hl,e⟩:=I.lstM hH;obtain⟨z2,its2,n2,r2,hl2,e2⟩:=I.lstM hB;refine PySem.P.add_list e e2 ?_ (by rw[Ao,Ao];lia);have ea:its.toArray++its2.toArray=(its++its2).toArray:=by simp
 rw[ea];exact⟨.ref _,_,I.lnew (t':=s.toks) (r.append r2) (by rw[Bd];lia),rfl,q _ I.fresh⟩
end
section
variable {prog:Program} {w:World} {A:Bj} {E:Value->Shared->Prop} {s:Shared}
set_option maxRecDepth 100000 in
end
section
variable {X:Cx}
end
end L2
namespace Att
open PySem PySem.W PySem.Calls PyProof.Rows
theorem Jel:∀(ns:List Int) (vs:List Value),WellAll P h vs (ns.map WData.int)->Qr vs ns:=by
 intro ns
 induction ns with
 |nil=>
  intro vs w;rw[E9]at w;cases w;exact .nil
 |cons n ns ih=>
  intro vs w;rw[Av]at w;cases w with
  |cons a b=>
   cases a;exact .cons _ _ (ih _ b)
theorem Jlq{l:I9}(hn:l.most=some n){h:Heap}
  (hpre:l.row.toRowW.claim.pre args=true)(hwl:WellAll P h vals args):
  ∃a vs ns,vals=[Ap a]/\args=[WData.list (ns.map WData.int)]/\h.get? a=some {cls:=.type "list",data:=.seq vs.toArray}/\Qr vs ns/\ns.length<=n:=by
 have hsh:WShape.hasAll [] args [.list .int]=true:=(pre_splitW hpre).1;have hc:l.pre.holds [] {args:=args}=true:=(pre_splitW hpre).2;obtain⟨d,r,rfl,h1,h2⟩:=hasAllW_cons hsh;obtain rfl:=hasAllW_nil h2;obtain⟨xs,rfl,h3⟩:=hasW_list h1;obtain⟨ns,rfl⟩:=items_int h3;have hlen:ns.length<=n:=by
  unfold OpenLaw.pre at hc;have h4:(WTm.not (.lt (.lit (.int (n:Int))) (.len (.arg 0)))).holds [] {args:=[.list (ns.map .int)]}=true:=by
   have h4:=(holds_andW hc).1;rw[hn]at h4;exact h4
  have h5:=condW_of h4 (w_not (w_lt w_lit (w_len_list (w_arg rfl))));rw[Ai]at h5;refine Nat.le_of_not_lt λq=>?_;have q':(n:Int)<((ns.length:Nat):Int):=by omega
  first
   |(rw[decide_eq_true q']at h5;exact absurd h5 (by decide))
   |(simp at h5;omega)
 cases hwl with
 |cons w1 w2=>
  cases w2;cases w1 with
  |list ho hall=>exact⟨_,_,ns,rfl,rfl,ho,Jel ns _ hall,hlen⟩
theorem Jl5(l:I9)(args:List WData):l.row.toRowW.claim.post args (.bool true) args=true:=
 postW_of (r:=l.row.toRowW) (X:=(true==true))
  (show T7 [] (.bool true) .bool=true by first|rfl|decide|simp[T7,WShape.arms,WShape.armsAll])
  (show(WTm.eq .res (.lit (.bool true))).value [] {args:=args,res:=some (.bool true),after:=args}=some (.bool (true==true))from w_eq_bool (w_res rfl) w_lit) rfl
def Jiv{l:I9}{XP:(Str->Option Value)->Heap->Prop}{YP:World->Heap->Prop}{d:To}
  (hn:l.most=some n)(hdf:d.params.defaults=[])
  (call:∀(w:World) (s₀ s₁:Shared) (mg mb:Str->Option Value) (fa:Addr) (o:Obj) (pm cd doc:Value) (a:Addr) (vs:List Value) (ns:List Int),
   Ground q loose [] XP w s₀ mg mb s₁.heap->YP w s₁.heap->
   s₁.heap.get? fa=some o->o.data=.func (docDef d.name d.params d.body d.scope pm cd doc)->s₁.heap.CodeRec cd d.name->mg d.name=some (.ref fa)->
   s₁.heap.get? a=some {cls:=.type "list",data:=.seq vs.toArray}->Qr vs ns->ns.length<=n->s₁.gens= #[]->
   Ge (model l.prog w) Le (.call (.ref fa) ⟨[.ref a],[]⟩) (λr s'=>r=.ok (.ret (.bool true))/\OldK s₁.heap s'.heap/\s'.os=s₁.os/\Ki s'.gens) s₁):
  Ly q loose XP YP l.row.toRowW d [] (λf vs=>Ml f vs):=by
 intro w s₀ s₁ mg mb G Y fa o pm cd doc dV kV ho hd hcd hD hmg hg args vals as hpre hlay hrd hwl hlo;obtain rfl:dV=.none:=Dflts.none hD hdf;obtain rfl:kV=.none:=Dflts.noKw hD;obtain⟨a,vs,ns,rfl,rfl,hobj,hints,hlen⟩:=Jlq hn hpre hwl;refine enter_call (Fo (call w s₀ s₁ mg mb fa o pm cd doc a vs ns G Y ho (fd_plain hd) hcd hmg hobj hints hlen hg) λr s' hq=>?_);obtain⟨rfl,h2,h3,h4⟩:=hq;exact⟨.inl ⟨.bool true,.bool true,[],rfl,λ_=>rfl,.bool true,Jl5 l _,λ_=>⟨M1,λ_ hm=>(nomatch hm)⟩⟩,h2,h3,h4⟩
section
variable {prog:Program} {w:World} {A:Bj} {E:Value->Shared->Prop} {s:Shared} {K:Frag}
end
end Att
namespace L2
open PySem PySem.Spec PyProof.Rows
theorem Jgt:∀{vs:List Value} {ns:List Int},Qr vs ns->Vals (ns.map V.int) vs
 |_,_,.nil=>.nil
 |_,_,.cons n t h=>.cons ⟨t,rfl⟩ (Jgt h)
def Yt(H:Hp):Prop:=∀b,H b=none\/∃o xs,H b=some (.frz o (.lst xs))
theorem Jph{K:Af}{mg mb:Str->Option Value}{x:Str}{s₁:Shared}{vs:List Value}{ns:List Int}
  (KX:K.In s₁.heap)(hns:s₁.heap.Ns Ax mg)(hb:s₁.heap.Ns Tc mb)(hbb:∀x:Str,x≠"__name__"->mb x=C8 x)(hlim:s₁.heap.NoLimit)(hg:s₁.gens= #[])
  (ha:s₁.heap.get? a=some {cls:=.type "list",data:=.seq vs.toArray})(hi:Qr vs ns)(hl:ns.length<=sizeLine)(hr:Uy k Le)
  (F:∀base:Heap,K.In base->base.Ns Ax mg->Vv P w K mg base CX k fa fd [x] sp)(hbind:∀(s:Shared) (u:Value),Ud s fd ⟨[u],[]⟩ [(x,u)])
  (hsp:∀H:Hp,Yt H->SqL K H a (ns.map V.int)->sp [.ref a] H (λv _=>v=.bl true) λ_ _ _=>False)
  (hCX:∀H e s',CX [] H s₁ (λ_ _ _=>False) e s'->False):
  Ge (model P w) Le (.call (.ref fa) ⟨[.ref a],[]⟩) (λr s'=>r=.ok (.ret (.bool true))/\OldK s₁.heap s'.heap/\s'.os=s₁.os/\Ki s'.gens) s₁:=by
 have rv:=Jgt hi;have lenV:=hi.length;have core:∀H:Hp,Yt H->SqL K H a (ns.map V.int)->HOk P w H s₁.heap->(∀b,H b≠none->b=a)->(H a≠none->K.lookup a=none)->
   Ge (model P w) Le (.call (.ref fa) ⟨[.ref a],[]⟩) (λr s'=>r=.ok (.ret (.bool true))/\OldK s₁.heap s'.heap/\s'.os=s₁.os/\Ki s'.gens) s₁:=by
  intro H hO hS hok hA hK;have Jev:∀{b:Addr} {o:Obj},s₁.heap.get? b=some o->H b=none->(Wu s₁.heap H).get? b=some o:=λe n=>Jpv e n;have noA:∀{b:Addr} {o:Obj} {es:Array B8} {ep:Nat},s₁.heap.get? b=some o->o.data=.dict es ep->H b=none:=λ{b o es ep} e d=>by
   cases q:H b with
   |none=>rfl
   |some u=>
    have e':b=a:=hA b (by rw[q];simp);subst e';rw[ha]at e;cases e;have d':Data.seq vs.toArray _=Data.dict es ep:=d;cases d'
  have nsK:∀{b:Addr} {m:Str->Option Value},s₁.heap.Ns b m->(Wu s₁.heap H).Ns b m:=λ{b m} ⟨o,es,ep,e,d,r⟩=>⟨o,es,ep,Jev e (noA e d),d,r⟩
  have hKb:K.In (Wu s₁.heap H):=λb o e=>Jev (KX b o e) (by
   cases q:H b with
   |none=>rfl
   |some u=>
    have e':b=a:=hA b (by rw[q];simp);subst e';rw[hK (by rw[q];simp)]at e;cases e)
  have hM:Mod K mg (Wu s₁.heap H):=⟨hKb,nsK hns,⟨mb,nsK hb,hbb⟩,let⟨mc,h1,h2⟩:=hlim;⟨mc,nsK h1,h2⟩⟩
  have e0:Xa P w K mg (Wu s₁.heap H) Le [] s₁ H:=⟨rfl,hM,λb o e=>Jt4 e,O0 (Jm1 _ _),trivial,λb hb=>absurd (show b∈([]:List Addr)from hb) (by simp),hok,.of_eq hg⟩
  refine Fo ((F _ hKb (nsK hns)).run Le [] s₁ H ⟨[.ref a],[]⟩ [.ref a] [.ref a] _ _ hr e0 (hbind s₁ (.ref a)) (.cons rfl .nil) (hsp H hO hS)) λr s' h=>?_;cases r with
  |error e=>exact(hCX H e s' h).elim
  |ok fl=>
   cases fl with
   |next=>exact Dz h
   |brk=>exact Dz h
   |cont=>exact Dz h
   |ret u=>
    obtain⟨v,H',os,bare,un,hok',r',q⟩:=h;have q':v=.bl true:=q;subst q';obtain rfl:u=Ht true:=r';refine⟨rfl,OldK.of_keep λb o e=>?_,os,bare⟩;cases q:H b with
    |none=>exact un.keep b o e q (by intro z;exact absurd (show b∈([]:List Addr)from z) (by simp)) (by simp)
    |some u=>
     rcases hO b with z|⟨ob,xs,z⟩
     ·rw[q]at z;cases z
     ·have z2:=un.frzs b ob _ z;obtain⟨e1,_⟩:=hok b _ z;obtain⟨e2,_⟩:=hok' b _ z2;rw[e]at e1;cases e1;exact e2
 cases hk:K.lookup a with
 |some o=>
  have e:=KX a o hk;rw[ha]at e;cases e;refine core (λ_=>none) (λ_=>.inl rfl) (.inr ⟨_,vs.toArray,_,hk,rfl,rfl,rfl,by rw[Ao,lenV];exact hl,by simpa using rv⟩) (λb u z=>by have z':(none:Option HO)=some u:=z;cases z') (λb z=>absurd rfl z) λz=>absurd rfl z
 |none=>
  refine core (λb=>if b=a then some (.frz {cls:=.type "list",data:=.seq vs.toArray} (.lst (ns.map V.int)))else none) (λb=>?_) (.inl (.inr ⟨{cls:=.type "list",data:=.seq vs.toArray},if_pos rfl⟩)) (λb u z=>?_) (λb z=>?_) λ_=>hk
  ·by_cases hb:b=a
   ·exact .inr ⟨_,_,if_pos hb⟩
   ·exact .inl (if_neg hb)
  ·by_cases hb:b=a
   ·have z':=(if_pos hb).symm.trans z;cases z';subst hb;exact⟨ha,by rw[Ai];exact hl,vs,_,rv,ha⟩
   ·have z':=(if_neg hb).symm.trans z;cases z'
  ·by_cases hb:b=a
   ·exact hb
   ·exact absurd (if_neg hb) z
def Jr1{l:I9}{XP:(Str->Option Value)->Heap->Prop}{YP:World->Heap->Prop}{d:To}{K:El->Af}{CX:World->CXT}{sp:World->Sp}
  (hn:l.most=some n)(hn2:n<=sizeLine)(hdf:d.params.defaults=[])(hr:Uy k Le)
  (hY:∀(w:World) (h:Heap),YP w h->(K w.params).In h)
  (F:∀(w:World) (mg:Str->Option Value) (fa:Addr) (h:Heap),(K w.params).In h->h.Ns Ax mg->mg d.name=some (.ref fa)->
   ∃fd:Hv,(∀(s:Shared) (u:Value),Ud s fd ⟨[u],[]⟩ [(x,u)])/\
    ∀base:Heap,(K w.params).In base->base.Ns Ax mg->Vv l.prog w (K w.params) mg base (CX w) k fa fd [x] (sp w))
  (hsp:∀(w:World) (H:Hp) (a:Addr) (ns:List Int),ns.length<=n->Yt H->SqL (K w.params) H a (ns.map V.int)->sp w [.ref a] H (λv _=>v=.bl true) λ_ _ _=>False)
  (hCX:∀(w:World) (H:Hp) (s:Shared) (e:Value) (s':Shared),CX w [] H s (λ_ _ _=>False) e s'->False):
  Ly q loose XP YP l.row.toRowW d [] (λf vs=>Ml f vs):=by
 refine Att.Jiv hn hdf λw s₀ s₁ mg mb fa o pm cd doc a vs ns G Y ho hd hcd hmg hobj hints hlen hg=>?_;have KX:=hY w _ Y;obtain⟨fd,hb,hF⟩:=F w mg fa _ KX G.T.g hmg;exact Jph KX G.T.g G.T.b G.T.builtins G.T.nolimit hg hobj hints (Bu hlen hn2) hr hF hb (λH hO hS=>hsp w H a ns hlen hO hS) λH e s'=>hCX w H s₁ e s'
noncomputable def Ul(s:Stmt):Arguments:=match s with
 |.FunctionDef _ a _ _ _ _ _ _ _ _=>a
 |_=>{posonlyargs:=[],args:=[],vararg:=none,kwonlyargs:=[],kw_defaults:=[],kwarg:=none,defaults:=[]}
noncomputable def Uk(s:Stmt):List Stmt:=match s with
 |.FunctionDef _ _ b _ _ _ _ _ _ _=>b
 |_=>[]
noncomputable def defScope(s:Stmt):Hu:=match s with
 |.FunctionDef _ _ _ _ _ _ sc _ _ _=>sc
 |_=>{kind:=.function,names:=[],isGenerator:=false,isCoroutine:=false}
abbrev CX0:CXT:=λ_ _ _ _ _ _=>False
abbrev E0:XK:=λ_ _ _=>False
def Jmb:Vr CX0 X E0:=λ_ _ _ _ _ _ _ h=>h.elim
structure Fun(K:Af)(x qual:Str)(st:Stmt)(f:Addr)(fd:Hv):Prop where
 ex:∃(oc:Value) (od:Option Addr) (kV doc pm:Value) (an:Option Addr) (cdv ct:Value) (osl:Array (Option Value)),
  fd=D6 x qual (Ul st) (Uk st) (defScope st) .none kV doc pm an cdv ct/\K.lookup f=some ⟨oc,od,.func fd,osl⟩/\Fq K cdv qual=true
 kp:Cr K (.ref f)=true
section
variable {P:Program} {w:World} {K:Af} {mg:Str->Option Value} {base:Heap}
def Fun.ok{x qual:Str}{st:Stmt}{f:Addr}{fd:Hv}{N ps:List Str}{k:Nat}{sp:Sp}(F:Fun K x qual st f fd)(S:Vg N ps (defScope st))(len:∀vs H Q E,sp vs H Q E->vs.length=ps.length)
  (hbody:∀(cdv:Value) (A:Bj) (outer:List Env) (s:Shared) (H:Hp) (vs:List V) (Q:VK) (E:XK),Uy k (A.deeper (L6 qual (defScope st) s.heap.objs.size f cdv))->sp vs H Q E->
   ∃t,PSs (Xo CX0 P w K mg base N qual (defScope st) f cdv A outer s H E).nox (Uk st) t/\t {nx:=λ_ H'=>Q .non H',rt:=Q} (start N vs) H):Vv P w K mg base CX0 (k+1) f fd ps sp:=by
 obtain⟨oc,od,kV,doc,pm,an,cdv,ct,osl,rfl,lk,hcd⟩:=F.ex;refine J1e lk hcd S len λA outer s H vs Q E hr hsp=>?_;obtain⟨t,h,q⟩:=hbody cdv A outer s H vs Q E hr hsp;exact⟨t,h.nox,q⟩
def Jro{x qual:Str}{st:Stmt}{f:Addr}{oc:Value}{od an:Option Addr}{osl:Array (Option Value)}{kV doc pm cdv ct:Value}(l:K.lookup f=some ⟨oc,od,.func (D6 x qual (Ul st) (Uk st) (defScope st) .none kV doc pm an cdv ct),osl⟩)
  (c:Fq K cdv qual=true)(k:Cr K (.ref f)=true):Fun K x qual st f (D6 x qual (Ul st) (Uk st) (defScope st) .none kV doc pm an cdv ct):=⟨⟨oc,od,kV,doc,pm,an,cdv,ct,osl,rfl,l,c⟩,k⟩
end
section
variable {X:Cx}
end
def Wfl{A B:Prop}(h:B):if false=true then A else B:=by
 rw[if_neg Az];exact h
def Wfk{A B:Prop}(h:A):if true=true then A else B:=by
 rw[if_pos rfl];exact h
section
variable {prog:Program} {w:World} {A:Bj} {R:K7->Shared->Prop} {s:Shared}
theorem Jhl{E:Value->Shared->Prop}(hE:∀e s,E e s->notedBy (model prog w) A env (λx s'=>R (.error x) s') e s)(I:Nat->Shared->Prop)
  (turn:∀n s,I n s->wpAny (model prog w) A (pyNext it) (λr s₁=>match r with
   |none=>R (.ok .next) s₁
   |some v=>wpAny (model prog w) A (Ig target it v) (λ_ s₁'=>wpAny (model prog w) A (assign target env v) (λ_ s₂=>
     wpAny (model prog w) A (forIn ifs true λc r=>if r=true then do let ok<-isTrue c env (eval c env);pure (F2 ok)else pure (F2 r)) (λok s₃=>
      if ok=true then wpAny (model prog w) A (eval elt env) (λx s₄=>
       wpAny (model prog w) A (call (.builtin "list.append") [acc,x]) (λ_ s₅=>∃m,m<n/\I m s₅) E s₄) E s₃
      else∃m,m<n/\I m s₃) E s₂) E s₁') E s₁) E s)
  (n:Nat)(h:I n s):
  Ge (model prog w) A (.compLoop (.ListComp elt [⟨target,iter,ifs,0⟩] scope pos) 0 it acc env) R s:=by
 refine codeAny_loop rfl I (λn s hI=>?_) n h;show wpAny _ A ((compTurn (.ListComp elt [⟨target,iter,ifs,0⟩] scope pos) 0 it acc env).onRaise (λx=>do noteFrame x env;theTreesLotGoes x)) _ _ s;refine wpAny_noted ?_;rw[compTurn_list];refine Aa (Lu (Aa (B3 (turn n s hI) (λr s₁ h₁=>?_) hE)));cases r with
 |none=>exact Ac h₁
 |some v=>
  refine Aa (B3 h₁ (λ_ s₁' h₁'=>?_) hE);refine Aa (B3 h₁' (λ_ s₂ h₂=>Aa (B3 h₂ (λok s₃ h₃=>?_) hE)) hE);cases ok with
  |false=>exact Ac ⟨rfl,h₃⟩
  |true=>
   exact Aa (Aa (B3 h₃ (λx s₄ h₄=>Aa (B3 h₄ (λ_ s₅ h₅=>Ac (Ac ⟨rfl,h₅⟩)) hE)) hE))
end
noncomputable def clOf(cells:List (Str×Addr)):List (Str×Ey)->List (Str×Addr)->List (Str×Addr)
 |[],acc=>acc
 |(n,k)::r,acc=>if k== .free then(match cells.lookup n with|some c=>clOf cells r ((n,c)::acc)|none=>clOf cells r acc)else clOf cells r acc
theorem Jbc(env:Env):∀(names:List (Str×Ey)) (acc:List (Str×Addr)),(∀x∈names,x.2=.free->∃c,env.cells.lookup x.1=some c)->
  (forIn names acc (λ(x:Str×Ey) (cs:List (Str×Addr))=>(match x with|(name,kind)=>if kind== .free then(do let c<-cellOf env name;pure (F2 ((name,c)::cs)))else pure (F2 cs):Sem (ForInStep (List (Str×Addr))))))=pure (clOf env.cells names acc)
 |[],acc,_=>rfl
 |(n,k)::r,acc,h=>by
  have hr:∀x∈r,x.2=.free->∃c,env.cells.lookup x.1=some c:=λx hx=>h x (Ay _ hx);simp only[Hj]
  by_cases hk:(k==Gw)=true
  ·obtain⟨c,hc⟩:=h (n,k) Bm (by simpa using hk);have hc':env.cells.lookup n=some c:=hc;simp only[hk,if_true,cellOf,hc',pure_bind,clOf];exact Jbc env r _ hr
  ·simp only[hk,Ar,if_false,pure_bind,clOf];exact Jbc env r _ hr
def Jc6{scope:Hu}{env:Env}(h:∀x∈scope.names,x.2=.free->∃c,env.cells.lookup x.1=some c):Ta scope env=pure (clOf env.cells scope.names []):=by
 have e:=Jbc env scope.names [] h;unfold Ta;simp only[bind_pure];refine Eq.trans ?_ e;congr 1
theorem Jdz(cells:List (Str×Addr)):∀(names:List (Str×Ey)) (acc:List (Str×Addr)),(∀p∈acc,cells.lookup p.1=some p.2)->∀p∈clOf cells names acc,cells.lookup p.1=some p.2
 |[],acc,h,p,hp=>h p hp
 |(n,k)::r,acc,h,p,hp=>by
  unfold clOf at hp;split at hp
  ·split at hp
   ·rename_i c hc;refine Jdz cells r _ (λq hq=>?_) p hp;rcases An.mp hq with e|e
    ·subst e;exact hc
    ·exact h q e
   ·exact Jdz cells r _ h p hp
  ·exact Jdz cells r _ h p hp
theorem Jcc(cells:List (Str×Addr)):∀(names:List (Str×Ey)) (acc:List (Str×Addr)) (p),p∈acc->p∈clOf cells names acc
 |[],acc,p,h=>h
 |(n,k)::r,acc,p,h=>by
  unfold clOf;split
  ·split
   ·exact Jcc cells r _ p (Ay _ h)
   ·exact Jcc cells r _ p h
  ·exact Jcc cells r _ p h
theorem Jd0(cells:List (Str×Addr)):∀(names:List (Str×Ey)) (acc:List (Str×Addr)) (x:Str) (c:Addr),(x,Gw)∈names->cells.lookup x=some c->(x,c)∈clOf cells names acc
 |[],acc,x,c,h,_=>by simp at h
 |(n,k)::r,acc,x,c,h,e=>by
  unfold clOf;rcases An.mp h with q|q
  ·cases q;simp only[beq_self_eq_true,if_true,e];exact Jcc cells r _ _ Bm
  ·split
   ·split
    ·exact Jd0 cells r _ x c q e
    ·exact Jd0 cells r _ x c q e
   ·exact Jd0 cells r _ x c q e
theorem Jf0{α:Type}{l:List (Str×α)}{x:Str}{c:α}(h:(x,c)∈l):∃c',l.lookup x=some c':=by
 induction l with
 |nil=>simp at h
 |cons p r ih=>
  obtain⟨y,d⟩:=p
  by_cases e:(x==y)=true
  ·exact⟨d,by simp[C6,e]⟩
  ·have e':(x==y)=false:=by simpa using e
   rcases An.mp h with q|q
   ·cases q;simp at e
   ·obtain⟨c',hc⟩:=ih q;exact⟨c',by simp[C6,e',hc]⟩
def Jbr{cells:List (Str×Addr)}(h:(clOf cells names []).lookup x=some c):cells.lookup x=some c:=
 Jdz cells names [] (λ_ h=>by simp at h) (x,c) (D4 h)
def Jhm{cells:List (Str×Addr)}(h:(x,Gw)∈names)(e:cells.lookup x=some c):(clOf cells names []).lookup x=some c:=by
 obtain⟨c',hc⟩:=Jf0 (Jd0 cells names [] x c h e);rw[hc,<-Jbr hc,e]
def Uq.upd_none(n:H b=none)(x:Uq P w H h a o):Uq P w (upd H b u) h a o:=
 x.stay (λ_ _ _ q=>q) (λc q=>by rw[Jae (Jam q n)];exact q) λc xs q=>by rw[Jae (Jam q n)];exact q
def Inv.adopt{X:Cx}{s:Shared}(I:Inv X pins U H s)(n:H d=none)(h1:X.s₀.heap.objs.size<=d)(h2:d≠X.env.locals)
  (h3:∀x c,X.env.cells.lookup x=some c->c≠d)(h4:∀p∈X.pn++pins,p.1≠d)(new:Uq X.prog X.w (upd H d o) s.heap d o):Inv X pins U (upd H d o) s:=by
 have hH:HOk X.prog X.w (upd H d o) s.heap:=λb u e=>by
  by_cases hb:b=d
  ·subst hb;rw[Jai]at e;cases e;exact new
  ·rw[Jae hb]at e;exact(I.hok b u e).upd_none n
 have q:=I.step (h':=s.heap) (H':=upd H d o) (g':=s.gens) (d':=s.drawn) (t':=s.toks) (ch:=[d]) (λb hb=>by
   have e:b=d:=by simpa using hb
   subst e;exact⟨.inr h1,h2,h3,h4⟩) (λb o _ _ _ e _=>e) (λb o _ _ _ e _=>⟨o.slots,e⟩) (λb u hb e z=>by
   have hb':b≠d:=λe=>hb (by simp[e]);rw[Jae hb'];exact z) (λb o _ e=>⟨o,e⟩)
  (λb xs e=>by rw[Jae (Jam e n)];exact e) (λb u xs e=>by rw[Jae (Jam e n)];exact e) (λb ps e=>⟨#[],by rw[Jae (Jam e n),e];simp⟩) (λm hm=>hm) hH I.bare
 exact q
theorem Jce(scope:Hu)(env:Env)(x:Str):(relabel scope env).names.lookup x=(scope.names.lookup x).map λk=>if(k== .free&&env.scope.kind== .function&&env.kindOf x==some .cell)=true then .cell else k:=by
 show(scope.names.map λ(n,k)=>if(k==Gw&&env.scope.kind== .function&&env.kindOf n==some .cell)then(n,Qk)else(n,k)).lookup x=_;generalize scope.names=l
 induction l with
 |nil=>rfl
 |cons p r ih=>
  obtain⟨n,k⟩:=p;show Es x ((if(k==Gw&&env.scope.kind== .function&&env.kindOf n==some .cell)=true then(n,Qk)else(n,k))::_)=_;cases hx:x==n with
  |true=>
   have e:x=n:=by simpa using hx
   subst e;simp only[C6,beq_self_eq_true,E8];split<;>simp
  |false=>
   simp only[C6,hx];split<;>(simp only[C6,hx];exact ih)
noncomputable def Ur(X:Cx)(N':List Str)(scope:Hu)(s₃:Shared)(H₃:Hp)(ex:List Addr)(pins:List (Addr×Obj))(xe:Value->Shared->Prop:=λ_ _=>False):Cx:=
 {X with N:=N',s₀:=s₃,H₀:=H₃,env:=compEnvC scope (clOf X.env.cells scope.names []) s₃.heap.objs.size X.env,outer:=X.stack,ex:=ex,fn:=λ_=>false,pn:=X.pn++pins,xe:=xe}
noncomputable def Wt(k:Nat)(keep:List Nat)(U:St):St:=E1 k none++keep.map λi=>(U[i]?).join
structure U9(X:Cx)(N':List Str)(k:Nat)(keep:List Nat)(scope:Hu):Prop where
 kind:scope.kind=.function
 cell:∀y∈scope.names,y.2≠ .cell
 names:∀y∈scope.names,y.2=.local->scope.names.lookup y.1=some .local
 free:∀y∈scope.names,y.2=.free->X.env.scope.names.lookup y.1=some .cell\/X.env.scope.names.lookup y.1=some .free
 len:N'.length=k+keep.length
 kept:∀j i,keep[j]? =some i->∃x,N'[k+j]? =some x/\X.N[i]? =some x/\scope.names.lookup x=some .free
def Jbw{l:List (Str×Ey)}(h:l.lookup x=some k):(x,k)∈l:=D4 h
section
variable {X:Cx} {N':List Str} {k:Nat} {keep:List Nat} {scope:Hu} {pins:List (Addr×Obj)} {U:St} {H H₃:Hp} {s s₃:Shared} {ex:List Addr} {xe:Value->Shared->Prop}
def U9.clo(c:U9 X N' k keep scope)(ok:X.Ok):∀y∈scope.names,y.2=.free->∃c,X.env.cells.lookup y.1=some c:=λy hy hf=>ok.has y.1 (c.free y hy hf)
theorem U9.inner(c:U9 X N' k keep scope)(h:(relabel scope X.env).names.lookup x=some .cell\/(relabel scope X.env).names.lookup x=some .free):scope.names.lookup x=some .free:=by
 rw[Jce]at h;cases e:scope.names.lookup x with
 |none=>rw[e]at h;simp at h
 |some q=>
  rw[e]at h;have hc:=c.cell _ (Jbw e);simp only[E8,Hh]at h
  by_cases hq:(q==Gw&&X.env.scope.kind== .function&&X.env.kindOf x==some .cell)=true
  ·have:q=.free:=by
    simp only[Ah]at hq
    simpa using hq.1.1
   rw[this]
  ·rw[if_neg hq]at h;rcases h with h|h
   ·exact absurd h hc
   ·rw[h]
def Inv.enter(c:U9 X N' k keep scope)(I:Inv X pins U H s₃){h':Heap}{m:Str->Option Value}(hns:h'.Ns s₃.heap.objs.size m)(hk:∀b o,s₃.heap.get? b=some o->h'.get? b=some o)
  (hex:∀b∈ex,b<s₃.heap.objs.size/\b≠X.env.locals/\b∉X.fs/\(b∈X.ex\/X.s₀.heap.objs.size<=b)/\∀x c,X.env.cells.lookup x=some c->c≠b):
  Inv (Ur X N' scope s₃ H ex pins xe) [] (Wt k keep U) H {s₃ with heap:=h',toks:=t'}:=by
 have hcl:∀x c',(clOf X.env.cells scope.names []).lookup x=some c'->X.env.cells.lookup x=some c':=λx c' h=>Jbr h;have nstk:∀b∈ex,b∉frs X.stack:=λb hb z=>by
  obtain⟨h0,h1,h2,_⟩:=hex b hb;rcases An.mp (I.stkSub b z)with e|e
  ·exact h1 e
  ·exact h2 e
 have cltb:∀x c',X.env.cells.lookup x=some c'->c'<s₃.heap.objs.size:=λx c' e=>by
  obtain⟨v,q⟩:=I.cell x c' e;exact q.lt
 refine⟨⟨I.ok.mod,c.kind,I.ok.glob,I.ok.blt,Aj _,?inj,?has,?cab,I.ok.hd,I.ok.frames,.inl rfl,?exf,I.bs,Bu I.ok.bsz I.sz,?noex,nstk,I.stack,I.stkFree⟩,rfl,I.bare,Un.kept hk,?loc,?cell,?free,?freeC,?pin,I.hok.kept hk,?len⟩
 case inj=>exact λx y a h1 h2=>I.ok.inj x y a (hcl x a h1) (hcl y a h2)
 case has=>
  intro x hx;have e:scope.names.lookup x=some .free:=c.inner hx;obtain⟨a,ha⟩:=c.clo I.ok (x,.free) (Jbw e) rfl;exact⟨a,Jhm (Jbw e) ha⟩
 case cab=>exact λx a hf=>absurd hf (by show¬(false=true);simp)
 case exf=>exact λb hb=>⟨Au (hex b hb).1,λx a e=>(hex b hb).2.2.2.2 x a (hcl x a e)⟩
 case noex=>
  intro b o e hb;rcases(hex b hb).2.2.2.1 with z|z
  ·exact I.ok.noex b o e z
  ·exact absurd (Bf (Am e) (Bu I.ok.bsz z)) (Ee _)
 case loc=>
  refine⟨m,hns,λi x v e1 e2 e3=>?_⟩;have e1:N'[i]? =some x:=e1;unfold Wt at e2
  by_cases hi:i<k
  ·rw[A0 (by simpa using hi),E3,if_pos hi]at e2;cases e2
  ·rw[A1 (by simpa using hi),G2,Aq]at e2;cases ej:keep[i-k]? with
   |none=>rw[ej]at e2;cases e2
   |some j=>
    rw[ej]at e2;have e2':(U[j]?).join=some v:=Bi e2;have e2':U[j]? =some (some v):=by
     cases q:U[j]? with
     |none=>rw[q]at e2';cases e2'
     |some y=>rw[q]at e2';exact congrArg some e2'
    obtain⟨x',p1,p2,p3⟩:=c.kept _ _ ej;have ex':k+(i-k)=i:=by omega
    rw[ex',e1]at p1;cases p1;have fr:=c.free _ (Jbw p3) rfl;obtain⟨m0,hn0,hl0⟩:=I.loc;obtain⟨u,ru,lk⟩:=hl0 j x v p2 e2' (.inr fr);refine⟨u,ru,?_⟩;rcases lk with⟨l1,_⟩|⟨_,a,ha,hcell⟩
    ·exfalso;have l1:X.env.scope.names.lookup x=some .local:=l1;rcases fr with z|z
     ·rw[z]at l1;cases l1
     ·rw[z]at l1;cases l1
    ·refine .inr ⟨e3.elim (λz=>?_) id,a,Jhm (Jbw p3) ha,?_⟩
     ·exfalso;have z:(relabel scope X.env).names.lookup x=some .local:=z;rw[Jce,p3]at z;simp only[E8,Hh]at z;split at z<;>cases z
     ·obtain⟨o,ho,hd⟩:=hcell;exact⟨o,hk _ _ ho,hd⟩
 case cell=>
  intro x a h;obtain⟨v,o,ho,hd⟩:=I.cell x a (hcl x a h);exact⟨v,o,hk _ _ ho,hd⟩
 case free=>exact I.hok.fresh (Aj _)
 case freeC=>exact λx a h=>I.freeC x a (hcl x a h)
 case pin=>
  intro p hp;have hp:p∈X.pn++pins:=by simpa [Ur]using hp
  obtain⟨e,n,ne,nf,d⟩:=I.pin p hp;refine⟨hk _ _ e,n,Au (Am e),λz=>?_,d⟩;rcases An.mp (I.stkSub p.1 z)with q|q
  ·exact ne q
  ·exact nf q
 case len=>
  show(Wt k keep U).length=N'.length;rw[c.len];unfold Wt;simp
structure Ww(X:Cx)(pins:List (Addr×Obj))(U:St)(H:Hp)(s₃:Shared)(ex:List Addr):Prop where
 inv:Inv X pins U H s₃
 exo:∀b∈ex,b<s₃.heap.objs.size/\b≠X.env.locals/\b∉X.fs/\(b∈X.ex\/X.s₀.heap.objs.size<=b)/\∀x c,X.env.cells.lookup x=some c->c≠b
 pin:∀b∈ex,∀p∈X.pn++pins,p.1≠b
def Inv.leave(I:Inv X pins U H₃ s₃)(J:Inv (Ur X N' scope s₃ H₃ ex pins xe) pins' U' H s)
  (hex:∀b∈ex,b<s₃.heap.objs.size/\b≠X.env.locals/\b∉X.fs/\(b∈X.ex\/X.s₀.heap.objs.size<=b)/\∀x c,X.env.cells.lookup x=some c->c≠b)(hpin:∀b∈ex,∀p∈X.pn++pins,p.1≠b):
  Inv X pins U H s:=by
 have u:Un (frs X.stack) ex H₃ H s₃.heap s.heap:=J.base;have ho:s.os=s₃.os:=J.os;exact I.call' ho u J.hok J.bare λb hb=>⟨(hex b hb).2.2.2.1,(hex b hb).2.1,(hex b hb).2.2.2.2,hpin b hb⟩
end
def PTs(X:Cx)(ifs:List Expr)(t:TT):Prop:=
 ∀(pins:List (Addr×Obj)) (s:Shared) (U:St) (H:Hp) (Q:Bool->Hp->Prop),Inv X pins U H s->t U H Q->
  wpAny (model X.prog X.w) X.A (forIn ifs true λc r=>if r=true then do let ok<-isTrue c X.env (eval c X.env);pure (F2 ok)else pure (F2 r)) (TP X pins U Q) X.xe s
def Jtf:PTs X [] (λ_ H Q=>Q true H):=λpins s U H Q I h=>wpAny_tests_nil ⟨H,I,h⟩
def Jte(h:PT X c t):PTs X [c] t:=λpins s U H Q I q=>wpAny_tests_one (h pins s U H Q I q)
def Ye(J:It)(g:TG)(tc:TT)(te:TE)(Q:List V->Hp->Prop)(U':St)(H1:Hp):Prop:=
 ∃W:Nat->Nat->List V->St->Hp->Prop,(∃m,W 0 m [] U' H1)/\∀i m xs U H,W i m xs U H->xs.length<=sizeLine/\
  ((J.stop i H/\Q xs H)\/(J.go i H/\∀x H',J.yld i H x H'->g x U H' λσ2 H2=>tc σ2 H2 λb H3=>
   if b=true then te σ2 H3 λy H4=>∃m',m'<m/\W (i+1) m' (xs++[y]) σ2 H4 else∃m',m'<m/\W (i+1) m' xs σ2 H3))
def Own(X:Cx)(pins:List (Addr×Obj))(H:Hp)(b:Addr):Prop:=
 H b=none/\X.s₀.heap.objs.size<=b/\b≠X.env.locals/\(∀x c,X.env.cells.lookup x=some c->c≠b)/\∀p∈X.pn++pins,p.1≠b
def Inv.own{s:Shared}(I:Inv X pins U H s)(hb:s.heap.objs.size<=b)(hn:H' b=none):Own X pins H' b:=by
 obtain⟨f0,f1,f2,f3,f4,f5⟩:=I.fpOk hb hn;exact⟨f0,Bu I.sz hb,f1,f4,f5⟩
structure Yy(P:Program)(w:World)(K:Af)(tg:Expr)(J:It)(fp:List Addr)(it:Addr)(tn:Nat->Heap->Prop)(cm:Cx->Prop):Prop where
 obj:∀n g,tn n g->∀a∈fp,∃u,g.get? a=some u/\∀v,u.data≠ .cell v
 keep:∀n g g',tn n g->(∀a∈fp,∀u,g.get? a=some u->g'.get? a=some u)->tn n g'
 item:∀(Y:Cx),Y.prog=P->Y.w=w->Y.K=K->cm Y->∀(n:Nat) (ps:List (Addr×Obj)) (s:Shared) (U:St) (H:Hp) (E:Value->Shared->Prop),Inv Y ps U H s->(∀a∈fp,V4 Y ps H a)->tn n s.heap->J.go n H->
  wpAny (model P w) Y.A (pyNext (.ref it)) (λr s1=>∃u,r=some u/\wpAny (model P w) Y.A (Ig tg (.ref it) u) (λ_ s2=>∃x H',Inv Y ps U H' s2/\RelV x u/\J.yld n H x H'/\tn (n+1) s2.heap/\∀a∈fp,H' a=none) E s1) E s
 done:∀(Y:Cx),Y.prog=P->Y.w=w->Y.K=K->cm Y->∀(n:Nat) (ps:List (Addr×Obj)) (s:Shared) (U:St) (H:Hp) (E:Value->Shared->Prop),Inv Y ps U H s->(∀a∈fp,V4 Y ps H a)->tn n s.heap->J.stop n H->wpAny (model P w) Y.A (pyNext (.ref it)) (λr s1=>r=none/\Inv Y ps U H s1) E s
 self:∀(B:Bj) (n:Nat) (s:Shared) (R:Value->Shared->Prop) (E:Value->Shared->Prop),tn n s.heap->R (.ref it) s->wpAny (model P w) B (pyIter (.ref it)) R E s
def Turn.toC{P:Program}{w:World}{K:Af}{tg:Expr}{J:It}{fp:List Addr}{it:Addr}{tn:Nat->Heap->Prop}(T:Turn P w K tg J fp it tn):Yy P w K tg J fp it tn (λX=>X.calm=true):=⟨T.obj,T.keep,T.item,T.done,T.self⟩
section
variable {X:Cx} {N':List Str} {k:Nat} {keep:List Nat} {scope:Hu} {pins:List (Addr×Obj)} {U:St} {H:Hp} {s:Shared}
def Jfj{fp:List Addr}{tn:Nat->Heap->Prop}{Q:List V->Hp->Prop}{RR:Value->Addr->K7->Shared->Prop}{E:Value->Shared->Prop}{xe:Shared->Value->Shared->Prop}
  {cm:Cx->Prop}(c:U9 X N' k keep scope)(calm:∀s₃ ex,cm (Ur X N' scope s₃ H ex pins (xe s₃)))(I:Inv X pins U H s)(T:Yy X.prog X.w X.K tg J fp it tn cm)(st:tn 0 s.heap)(hf:∀b∈fp,V4 X pins H b)
  (hg:∀s₃ ex,PG (Ur X N' scope s₃ H ex pins (xe s₃)) tg g)(hc:∀s₃ ex,PTs (Ur X N' scope s₃ H ex pins (xe s₃)) ifs tc)(he:∀s₃ ex,Ww X pins U H s₃ ex->PE (Ur X N' scope s₃ H ex pins (xe s₃)) elt te)
  (hE:∀s₃ D e s',xe s₃ e s'->notedBy (model X.prog X.w) X.A (compEnvC scope (clOf X.env.cells scope.names []) s₃.heap.objs.size X.env) (λx s''=>RR D s₃.heap.objs.size (.error x) s'') e s')
  (hW:Ye J g tc te Q (Wt k keep U) H)
  (hRR:∀D C s' H' xs m,Inv X pins U H' s'->Own X pins H' D->Own X pins H' C->D≠C->Uq X.prog X.w (upd H' D (.lst xs)) s'.heap D (.lst xs)->s'.heap.Ns C m->Q xs H'->RR (.ref D) C (.ok .next) s'):
  wpAny (model X.prog X.w) X.A (newList []) (λacc s₃=>wpAny (model X.prog X.w) X.A (newFunctionEnv scope X.env.globals (clOf X.env.cells scope.names []) [] X.env.qual none .none (some X.env)) (λcenv s₄=>cenv.frame=X.env.frame/\
   Ge (model X.prog X.w) X.A (.compStart (.ListComp elt [⟨tg,iter,ifs,0⟩] scope pos) 0 (.ref it) acc {cenv with scope:=relabel scope X.env}) (RR acc cenv.locals) s₄) E s₃) E s:=by
 refine Bx (wpAny_newFunctionEnv c.cell (by intro y hy;simp at hy) (λh₁ hns₁ hsb₁=>?_) c.kind);dsimp only at hns₁ hsb₁ ⊢;generalize hH2:s.heap.push {cls:=.type "list",dict:=none,data:=.seq ([]:List Value).toArray}=H2 at hns₁ hsb₁ ⊢;have I3:Inv X pins U H {s with heap:=H2}:=I.kept (t':=s.toks) λb o e=>hH2▸Ad _ e;have hC:H2.objs.size=s.heap.objs.size+1:=by rw[<-hH2,Cc]
 have hlt:s.heap.objs.size<H2.objs.size:=by rw[hC];exact C9 _
 have hne:s.heap.objs.size≠H2.objs.size:=Au hlt;have fpo:∀b∈fp,∃o,s.heap.get? b=some o/\∀v,o.data≠ .cell v:=T.obj _ _ st;have fplt:∀b∈fp,b<s.heap.objs.size:=λb hb=>by
  obtain⟨o,e,_⟩:=fpo b hb;exact Am e
 have nD:H s.heap.objs.size=none:=I.hok.fresh (Aj _);have nC:H H2.objs.size=none:=I.hok.fresh (by lia);have oD:Own X pins H s.heap.objs.size:=I.own (Aj _) nD;have oC:Own X pins H H2.objs.size:=I.own (by lia) nC;have hkp:∀b o,H2.get? b=some o->h₁.get? b=some o:=λb o e=>hsb₁.extBut b o (Au (Am e)) (Ad _ e);have hex:∀b∈s.heap.objs.size::fp,b<({s with heap:=H2}:Shared).heap.objs.size/\b≠X.env.locals/\b∉X.fs/\(b∈X.ex\/X.s₀.heap.objs.size<=b)/\∀x c,X.env.cells.lookup x=some c->c≠b:=λb hb=>by
  rcases An.mp hb with e|e
  ·subst e;exact⟨hlt,oD.2.2.1,I.nofs (Aj _),.inr oD.2.1,oD.2.2.2.1⟩
  ·obtain⟨f0,f1,f2,f3,f4,f5⟩:=hf b e;exact⟨Ew (fplt b e) hlt,f1,f2,f3,f4⟩
 have hpin:∀b∈s.heap.objs.size::fp,∀p∈X.pn++pins,p.1≠b:=λb hb p hp=>by
  rcases An.mp hb with e|e
  ·subst e;exact oD.2.2.2.2 p hp
  ·exact(hf b e).2.2.2.2.2 p hp
 have Dstk:s.heap.objs.size∉frs X.stack:=λz=>by
  rcases An.mp (I.stkSub _ z)with q|q
  ·exact oD.2.2.1 q
  ·exact I.nofs (Aj _) q
 generalize hY:Ur X N' scope {s with heap:=H2} H (s.heap.objs.size::fp) pins (xe {s with heap:=H2})=Y;have ePrg:Y.prog=X.prog:=by subst hY;rfl
 have eW:Y.w=X.w:=by subst hY;rfl
 have eK:Y.K=X.K:=by subst hY;rfl
 have eA:Y.A=X.A:=by subst hY;rfl
 have eCalm:cm Y:=by subst hY;exact calm _ _
 have eEnv:Y.env=compEnvC scope (clOf X.env.cells scope.names []) H2.objs.size X.env:=by subst hY;rfl
 have eXe:Y.xe=xe {s with heap:=H2}:=by subst hY;rfl
 have J0:Inv Y [] (Wt k keep U) H {s with heap:=h₁,toks:=s.toks+([]:List (Str×Value)).length}:=by
  subst hY;exact I3.enter (t':=s.toks+([]:List (Str×Value)).length) c hns₁ hkp hex
 have fpY:∀{H':Hp} {q:List (Addr×Obj)},(∀b∈fp,H' b=none)->(∀p∈q,p.1=s.heap.objs.size)->∀b∈fp,V4 Y q H' b:=λ{H' q} hn hq b hb=>by
  obtain⟨f0,f1,f2,f3,f4,f5⟩:=hf b hb;have lt:=fplt b hb;subst hY;refine⟨hn b hb,Au (Ew lt hlt),λz=>?_,.inl (Ay _ hb),λx a e=>f4 x a (Jbr e),λp hp=>?_⟩
  ·rcases An.mp (I.stkSub b z)with q|q
   ·exact f1 q
   ·exact f2 q
  ·rcases Bo.mp (show p∈(X.pn++pins)++q from hp)with z|z
   ·exact f5 p z
   ·rw[hq p z];exact Cf lt
 obtain⟨W,⟨m0,w0⟩,turn⟩:=hW
 let Iv:Nat->Shared->Prop:=λn s'=>∃i xs U' H' its nn,Inv Y [] U' H' s'/\tn i s'.heap/\(∀b∈fp,H' b=none)/\H' s.heap.objs.size=none/\Vals xs its/\s'.heap.get? s.heap.objs.size=some {cls:=.type "list",data:=.seq its.toArray nn}/\W i n xs U' H'
 have hdD:∀{h':Heap},(∀b o,s.heap.get? b=some o->h'.get? b=some o)->True:=λ_=>trivial;have start:Iv m0 {s with heap:=h₁,toks:=s.toks+([]:List (Str×Value)).length}:=by
  refine⟨0,[],_,H,[],0,J0,T.keep _ _ _ st λb hb o e=>hkp b o (hH2▸Ad _ e),λb hb=>(hf b hb).1,nD,.nil,?_,w0⟩;exact hkp _ _ (hH2▸Ak _ rfl)
 have loop:∀s₃:Shared,s₃={s with heap:=h₁,toks:=s.toks+([]:List (Str×Value)).length}->
   Ge (model X.prog X.w) X.A (.compLoop (.ListComp elt [⟨tg,iter,ifs,0⟩] scope pos) 0 (.ref it) (.ref s.heap.objs.size) (compEnvC scope (clOf X.env.cells scope.names []) H2.objs.size X.env))
    (RR (.ref s.heap.objs.size) H2.objs.size) s₃:=by
  rintro s₃ rfl;refine Jhl (hE {s with heap:=H2} _) Iv (λn s' hI=>?_) m0 start;obtain⟨i,xs,U',H',its,nn,J',tn',fr',dn',rv,hl,w'⟩:=hI;obtain⟨hsz,alt⟩:=turn i n xs U' H' w';rcases alt with⟨stop,q⟩|⟨go,step⟩
  ·have z:=T.done Y ePrg eW eK eCalm i [] s' U' H' (xe {s with heap:=H2}) J' (fpY fr' (λ_ h=>by simp at h)) tn' stop;rw[eA]at z;have J'':Inv Y [(s.heap.objs.size,{cls:=.type "list",data:=.seq its.toArray nn})] U' H' s':=J'.pins_of λp hp=>by
    have e:p=(s.heap.objs.size,{cls:=.type "list",data:=.seq its.toArray nn}):=by simpa using hp
    subst e;refine⟨hl,dn',?_,?_,λv h=>nomatch h⟩
    ·rw[eEnv];exact hne
    ·subst hY;exact Dstk
   have z:=T.done Y ePrg eW eK eCalm i _ s' U' H' (xe {s with heap:=H2}) J'' (fpY fr' (λp hp=>by have e:p=_:=(As.mp hp);rw[e])) tn' stop;rw[eA]at z;refine B3 z (λr s4 ⟨hr,J4⟩=>?_) λ_ _ f=>f;subst hr;have hl4:=(J4.pin _ (Bw _ (As.mpr rfl))).1;have J5:Inv (Ur X N' scope {s with heap:=H2} H (s.heap.objs.size::fp) pins (xe {s with heap:=H2})) [(s.heap.objs.size,{cls:=.type "list",data:=.seq its.toArray nn})] U' H' s4:=by rw[hY];exact J4
   have I4:Inv X pins U H' s4:=I3.leave J5 hex hpin;obtain⟨mC,hnC,_⟩:=J4.loc;have cfree:=J4.free;rw[eEnv]at hnC cfree;refine hRR _ _ s4 H' xs mC I4 ⟨dn',oD.2⟩ ⟨cfree,oC.2⟩ hne ⟨hsz,its,nn,rv,hl4⟩ hnC q
  ·have J'':Inv Y [(s.heap.objs.size,{cls:=.type "list",data:=.seq its.toArray nn})] U' H' s':=J'.pins_of λp hp=>by
    have e:p=(s.heap.objs.size,{cls:=.type "list",data:=.seq its.toArray nn}):=by simpa using hp
    subst e;refine⟨hl,dn',?_,?_,λv h=>nomatch h⟩
    ·rw[eEnv];exact hne
    ·subst hY;exact Dstk
   have z:=T.item Y ePrg eW eK eCalm i _ s' U' H' (xe {s with heap:=H2}) J'' (fpY fr' (λp hp=>by have e:p=_:=(As.mp hp);rw[e])) tn' go;rw[eA]at z;refine B3 z (λr s4 ⟨u,hr,h4⟩=>?_) λ_ _ f=>f;subst hr;refine B3 h4 (λ_ s5 ⟨x,H5,J5,r5,y5,tn5,fr5⟩=>?_) λ_ _ f=>f;have J5':=J5.pinned (fpY fr5 (λp hp=>by have e:p=_:=(As.mp hp);rw[e])) (T.obj _ _ tn5);have hg':PG Y tg g:=hY▸hg _ _;have hc':PTs Y ifs tc:=hY▸hc _ _;have he':PE Y elt te:=hY▸he _ _ ⟨I3,hex,hpin⟩;have g6:=hg' _ s5 U' H5 x u _ J5' r5 (step x H5 y5);rw[eXe,eA,ePrg,eW,eEnv]at g6;refine B3 g6 (λ_ s6 ⟨σ6,H6,J6,q6⟩=>?_) λ_ _ f=>f;have c7:=hc' _ s6 σ6 H6 _ J6 q6;rw[eXe,eA,ePrg,eW,eEnv]at c7;refine B3 c7 (λok s7 ⟨H7,J7,q7⟩=>?_) λ_ _ f=>f;have fin:∀{s8:Shared} {σ8:St} {H8:Hp} {xs':List V} {its':List Value} {n' m':Nat},Inv Y [] σ8 H8 s8->tn (i+1) s8.heap->(∀b∈fp,H8 b=none)->H8 s.heap.objs.size=none->Vals xs' its'->
     s8.heap.get? s.heap.objs.size=some {cls:=.type "list",data:=.seq its'.toArray n'}->W (i+1) m' xs' σ8 H8->m'<n->∃m,m<n/\Iv m s8:=λa1 a2 a3 a4 a5 a6 a7 a8=>⟨_,a8,_,_,_,_,_,_,a1,a2,a3,a4,a5,a6,a7⟩
   have kp:∀{s8:Shared} {σ8:St} {H8:Hp},Inv Y ([(s.heap.objs.size,{cls:=.type "list",data:=.seq its.toArray nn})]++We fp s5.heap) σ8 H8 s8->
     tn (i+1) s8.heap/\(∀b∈fp,H8 b=none)/\H8 s.heap.objs.size=none/\s8.heap.get? s.heap.objs.size=some {cls:=.type "list",data:=.seq its.toArray nn}:=λ{s8 σ8 H8} J8=>by
    have p1:=J8.pin _ (Bw _ (C5 _ (As.mpr rfl)));refine⟨T.keep _ _ _ tn5 λb hb o e=>(J8.pin (b,o) (Bw _ (Bw _ (Jb8 hb e)))).1,λb hb=>?_,p1.2.1,p1.1⟩;obtain⟨o,e,d⟩:=T.obj _ _ tn5 b hb;exact(J8.pin (b,o) (Bw _ (Bw _ (Jb8 hb e)))).2.1
   cases ok with
   |false=>
    simp only[Ar,if_false]at q7 ⊢;obtain⟨m',hm,w7⟩:=q7;obtain⟨k1,k2,k3,k4⟩:=kp J7;exact fin (J7.pins_of λp hp=>by simp at hp) k1 k2 k3 rv k4 w7 hm
   |true=>
    simp only[if_true]at q7 ⊢;have e8:=he' _ s7 σ6 H7 _ J7 q7;rw[eXe,eA,ePrg,eW,eEnv]at e8;refine B3 e8 (λy s8 ⟨v8,H8,J8,r8,m',hm,w8⟩=>?_) λ_ _ f=>f;obtain⟨k1,k2,k3,k4⟩:=kp J8;have hl8:s8.heap.PlainList s.heap.objs.size its.toArray:=⟨nn,k4⟩
    refine wpAny_list_append_plain (hsz:=by have:=rv.length;simp only[Ao];lia) hl8 λh9 hl9 hs9=>?_;obtain⟨n9,e9⟩:=hl9;have J9:Inv Y [] σ6 H8 {s8 with heap:=h9}:=by
     have J8':Inv Y [] σ6 H8 s8:=J8.pins_of λp hp=>by simp at hp
     refine J8'.turned (t':=s8.toks) (it:=s.heap.objs.size) (λb o hb e=>hs9.extBut b o hb e) k3 ?_ ?_ ?_ ?_
     ·rw[eEnv];exact hne
     ·subst hY;exact .inl Bm
     ·subst hY;exact λx a e=>oD.2.2.2.1 x a (Jbr e)
     ·subst hY;intro p hp;exact oD.2.2.2.2 p (by simpa [Ur]using hp)
    refine fin (n':=n9) (its':=its++[y]) J9 (T.keep _ _ _ k1 λb hb o e=>hs9.extBut b o (Au (fplt b hb)) e) k2 k3 (rv.append (.cons r8 .nil)) ?_ w8 hm;show h9.get? _=_;rw[e9,List.push_toArray]
 exact⟨rfl,codeAny_compStart_list (loop _ rfl) (T.self _ 0 _ _ _ (T.keep _ _ _ st λb hb o e=>hkp b o (hH2▸Ad _ e)) (loop _ rfl))⟩
end
def Wx(k:Nat)(keep:List Nat)(wi:TI)(g:TG)(tc:TT)(te:TE):TE:=λU H Q=>wi U H λJ H1=>
 Ye J g tc te (λxs H'=>∀p,H' p=none->Q (.ref p) (upd H' p (.lst xs))) (Wt k keep U) H1
def compEnd(M:Rk)(A:Bj)(E:Value->Shared->Prop)(use:Option (Value->Sem Unit))(Q:Value->Shared->Prop)(env:Env)(acc:Value)(C:Addr)(r:K7)(s':Shared):Prop:=match r with
 |.ok f=>compPost M A E use Q acc C (.ok f) s'
 |.error x=>∃m,s'.heap.Ns C m/\∀h',C0 C s'.heap h'->wpAny M A (Ny "comprehension.variables-let-go" x env:Sem Value) (λ_ _=>False) E {s' with heap:=h'}
section
variable {M:Rk} {A:Bj} {E:Value->Shared->Prop} {s:Shared} {env:Env}
theorem Jhj{sc:Hu}{g:Comprehension}{use:Option (Value->Sem Unit)}{Q:Value->Shared->Prop}
  (h1:clausesOf e=g::gs)(h2:∀x,Dm g.iter env x=pure x)(h3:Ta sc env=pure cl)(h4:sc.kind=.function)(h5:∀y∈sc.names,y.2=.local->sc.names.lookup y.1=some .local)
  (h:wpAny M A fi (λx s1=>wpAny M A (pyIter x) (λit s2=>wpAny M A na (λacc s3=>wpAny M A (newFunctionEnv sc env.globals cl [] env.qual none .none (some env)) (λce s4=>ce.frame=env.frame/\
   Ge M A (.compStart e 0 it acc {ce with scope:=relabel sc env}) (compEnd M A E use Q env acc ce.locals) s4) E s3) E s2) E s1) E s):wpAny M A (comprehension e sc env pos na false fi use) Q E s:=by
 have up:∀{u:Value} {v:Shared},E u v->E u v:=λz=>z;unfold comprehension;rw[h3,h1];refine Aa (B3 h (λx s1 k1=>?_) λ_ _=>up);refine Aa (Lu (Aa (Nh (h2 x) ?_)));refine Aa (Bh (B3 k1 (λit s2 k2=>?_) λ_ _=>up));refine wpAny_standIf (Aa (B3 k2 (λacc s3 k3=>?_) λ_ _=>up));refine Aa (Ac (Aa (B3 k3 (λce s4 k4=>?_) λ_ _=>up)));obtain⟨fr,k4⟩:=k4;dsimp only;have loc:∀{l:List (Str×Ey)},(∀y∈l,y∈sc.names)->∀y∈l,y.2=.local->Env.kindOf {ce with scope:=relabel sc env} y.1=some .local:=λ{l} hl y hy yl=>lookup_relabel_local (h5 y (hl y hy) yl);have mem:∀{q:Str×Ey->Bool} {y},y∈(sc.names.filter q).reverse->y∈sc.names:=λz=>(Hi.mp (List.mem_reverse.mp z)).1;refine Bh (Aa (Fy (Bh (wpAny_run (Fo k4 λr s5 k5=>?_)))));cases r with
 |error x=>
  obtain⟨m,hn,k6⟩:=k5;refine Aa (Bh (M3 (cenv:={ce with scope:=relabel sc env}) h4 _ s5 m (loc λy=>mem) hn λh' m' _ hs'=>?_));have z:=B3 (k6 h' hs') (λ_ _ z=>z.elim) (λ_ _=>up) (Q':=Q);unfold Ny at z ⊢;dsimp only;rw[fr];exact z
 |ok f=>
  cases use with
  |none=>
   obtain⟨m,hn,k6⟩:=k5;exact Aa (Bh (M3 (cenv:={ce with scope:=relabel sc env}) h4 _ s5 m (loc λy=>mem) hn λh' m' _ hs'=>Ac (k6 h' hs')))
  |some u=>
   refine Aa (Fm (Aa (Bh (B3 k5 (λ_ s6 k6=>?_) λ_ _=>up))));obtain⟨m,hn,k6⟩:=k6;refine Aa (M3 (cenv:={ce with scope:=relabel sc env}) h4 _ s6 m (loc λy hy=>?_) hn λh' m' _ hs'=>Ac (k6 h' hs'));exact(Bo.mp hy).elim (λz=>mem (Pa z)) λz=>mem (He z)
end
def Yo(X:Cx)(s₃:Shared):Value->Shared->Prop:=λx s'=>∃m,s'.heap.Ns s₃.heap.objs.size m/\∀h',C0 s₃.heap.objs.size s'.heap h'->wpAny (model X.prog X.w) X.A (Ny "comprehension.variables-let-go" x X.env:Sem Value) (λ_ _=>False) X.xe {s' with heap:=h'}
abbrev Yc(X:Cx)(scope:Hu)(s₃:Shared):Value->Shared->Prop:=notedBy (model X.prog X.w) X.A (compEnvC scope (clOf X.env.cells scope.names []) s₃.heap.objs.size X.env) (Yo X s₃)
section
variable {X:Cx} {N':List Str} {k:Nat} {keep:List Nat} {scope:Hu} {elt tg iter:Expr} {ifs:List Expr} {pos:Pos} {wi:TI} {g:TG} {tc:TT} {te:TE}
def Jo1{te':St->TE}{xe:St->Shared->Value->Shared->Prop}(c:U9 X N' k keep scope)(calm:X.calm=true)(hi:PI X tg iter wi)
  (hg:∀s₃ H ex pins U,PG (Ur X N' scope s₃ H ex pins (xe U s₃)) tg g)(hc:∀s₃ H ex pins U,PTs (Ur X N' scope s₃ H ex pins (xe U s₃)) ifs tc)(he:∀s₃ H ex pins U,Ww X pins U H s₃ ex->PE (Ur X N' scope s₃ H ex pins (xe U s₃)) elt (te' U))
  (hE:∀U s₃ e s',xe U s₃ e s'->Yc X scope s₃ e s')
  (hs:∀x,Dm iter X.env x=pure x):PE X (.ListComp elt [⟨tg,iter,ifs,0⟩] scope pos) (λU H Q=>Wx k keep wi g tc (te' U) U H Q):=by
 intro pins s U H Q I h;rw[eval_ListComp];refine Jhj (use:=none) rfl hs (Jc6 (c.clo I.ok)) c.kind c.names ?_;refine thn (hi pins s U H _ I h) λv s1 h1=>thn h1 λitv s2 h2=>?_;obtain⟨it,fp,tn,J,H2,e,I2,T,st2,f2,hW⟩:=h2;subst e;refine Jfj c (λ_ _=>calm) I2 T.toC st2 f2 (xe:=xe U) (λs₃ ex=>hg s₃ H2 ex pins U) (λs₃ ex=>hc s₃ H2 ex pins U) (λs₃ ex b=>he s₃ H2 ex pins U b) (λs₃ D e s' z=>hE U s₃ e s' z) hW (RR:=λacc C=>compEnd (model X.prog X.w) X.A X.xe none (EP X pins U Q) X.env acc C) ?_;intro D C s' H' xs m I' oD oC hDC new hn q;refine⟨m,hn,λh' hs'=>?_⟩;have I3:Inv X pins U (upd H' D (.lst xs)) s':=I'.adopt oD.1 oD.2.1 oD.2.2.1 oD.2.2.2.1 oD.2.2.2.2 new;have I4:Inv X pins U (upd H' D (.lst xs)) {s' with heap:=h'}:=I3.turned (t':=s'.toks) (it:=C) (λb o hb e=>hs'.extBut b o hb e) (by rw[Jae hDC.symm];exact oC.1) oC.2.2.1 (.inr oC.2.1) oC.2.2.2.1 oC.2.2.2.2;exact⟨.ref D,_,I4,rfl,q D oD.1⟩
def Jop{te':St->TE}{xe:St->Shared->Value->Shared->Prop}{spos:Pos}(hN:X.N.Nodup)(hiy:X.N[i]? =some y)(hy:Loc X.env.scope y)(hf:X.fn y=true\/X.env.scope.names.lookup y=some .local)
  (hsw:Gb (.ListComp elt [⟨tg,iter,ifs,0⟩] scope pos) (some (.Name y py)) spos.line X.env=pure true)
  (c:U9 X N' k keep scope)(calm:X.calm=true)(hi:PI X tg iter wi)
  (hg:∀s₃ H ex pins U,PG (Ur X N' scope s₃ H ex pins (xe U s₃)) tg g)(hc:∀s₃ H ex pins U,PTs (Ur X N' scope s₃ H ex pins (xe U s₃)) ifs tc)(he:∀s₃ H ex pins U,Ww X pins U H s₃ ex->PE (Ur X N' scope s₃ H ex pins (xe U s₃)) elt (te' U))
  (hE:∀U s₃ e s',xe U s₃ e s'->Yc X scope s₃ e s')
  (hs:∀x,Dm iter X.env x=pure x):PS X (.Assign [.Name y py] (.ListComp elt [⟨tg,iter,ifs,0⟩] scope pos) spos) (Xx (λU H Q=>Wx k keep wi g tc (te' U) U H Q) (Xe i)):=by
 intro pins s U H D0 I h;rw[exec_Assign_Name_used _ _ _ _ hsw];refine Aa (Lu (Aa ?_));show wpAny _ X.A (do let _<-comprehension (.ListComp elt [⟨tg,iter,ifs,0⟩] scope pos) scope X.env _ (newList []) false (eval iter X.env) (some (assign (.Name y py) X.env))) _ _ s;refine Aa (B3 (Jhj (use:=some (assign (.Name y py) X.env)) (Q:=λ_ s'=>SP X pins D0 .next s') rfl hs (Jc6 (c.clo I.ok)) c.kind c.names ?_) (λ_ s' hq=>Ac (Ac hq)) λ_ _ e=>e);refine thn (hi pins s U H _ I h) λv s1 h1=>thn h1 λitv s2 h2=>?_;obtain⟨it,fp,tn,J,H2,e,I2,T,st2,f2,hW⟩:=h2;subst e;refine Jfj c (λ_ _=>calm) I2 T.toC st2 f2 (xe:=xe U) (λs₃ ex=>hg s₃ H2 ex pins U) (λs₃ ex=>hc s₃ H2 ex pins U) (λs₃ ex b=>he s₃ H2 ex pins U b) (λs₃ D e s' z=>hE U s₃ e s' z) hW (RR:=λacc C=>compEnd (model X.prog X.w) X.A X.xe (some (assign (.Name y py) X.env)) (λ_ s'=>SP X pins D0 .next s') X.env acc C) ?_;intro D C s' H' xs m I' oD oC hDC new hn q;have I3:Inv X pins U (upd H' D (.lst xs)) s':=I'.adopt oD.1 oD.2.1 oD.2.2.1 oD.2.2.2.1 oD.2.2.2.2 new;show wpAny _ X.A (assign (.Name y py) X.env (.ref D)) _ _ _;refine T3 (Jg0 I3 hN hiy hy (v:=.ref D) rfl (λs'' I5 hsb=>?_) hf);obtain⟨a,sb,ha⟩:=hsb;have hCa:C≠a:=by
  rcases ha with e|e
  ·rw[e];exact oC.2.2.1
  ·exact λz=>oC.2.2.2.1 y a e z.symm
 refine⟨m,hn.sameBut sb hCa,λh' hs'=>?_⟩;have I4:Inv X pins (U.set i (some (.ref D))) (upd H' D (.lst xs)) {s'' with heap:=h'}:=I5.turned (t':=s''.toks) (it:=C) (λb o hb e=>hs'.extBut b o hb e) (by rw[Jae hDC.symm];exact oC.1) oC.2.2.1 (.inr oC.2.1) oC.2.2.2.1 oC.2.2.2.2;exact⟨_,_,I4,q D oD.1⟩
def Jtv(c:U9 X N' k keep scope)(calm:X.calm=true)(hi:PI X tg iter wi)
  (hg:∀s₃ H ex pins,PG (Ur X N' scope s₃ H ex pins) tg g)(hc:∀s₃ H ex pins,PTs (Ur X N' scope s₃ H ex pins) ifs tc)(he:∀s₃ H ex pins,PE (Ur X N' scope s₃ H ex pins) elt te)
  (hs:∀x,Dm iter X.env x=pure x):PE X (.ListComp elt [⟨tg,iter,ifs,0⟩] scope pos) (Wx k keep wi g tc te):=
 Jo1 (te':=λ_=>te) (xe:=λ_ _ _ _=>False) c calm hi (λs₃ H ex pins _=>hg s₃ H ex pins) (λs₃ H ex pins _=>hc s₃ H ex pins) (λs₃ H ex pins _ _=>he s₃ H ex pins) (λ_ _ _ _ z=>z.elim) hs
def Jtj{spos:Pos}(hN:X.N.Nodup)(hiy:X.N[i]? =some y)(hy:Loc X.env.scope y)(hf:X.fn y=true\/X.env.scope.names.lookup y=some .local)
  (hsw:Gb (.ListComp elt [⟨tg,iter,ifs,0⟩] scope pos) (some (.Name y py)) spos.line X.env=pure true)(c:U9 X N' k keep scope)(calm:X.calm=true)(hi:PI X tg iter wi)
  (hg:∀s₃ H ex pins,PG (Ur X N' scope s₃ H ex pins) tg g)(hc:∀s₃ H ex pins,PTs (Ur X N' scope s₃ H ex pins) ifs tc)(he:∀s₃ H ex pins,PE (Ur X N' scope s₃ H ex pins) elt te)
  (hs:∀x,Dm iter X.env x=pure x):PS X (.Assign [.Name y py] (.ListComp elt [⟨tg,iter,ifs,0⟩] scope pos) spos) (Xx (Wx k keep wi g tc te) (Xe i)):=
 Jop (te':=λ_=>te) (xe:=λ_ _ _ _=>False) hN hiy hy hf hsw c calm hi (λs₃ H ex pins _=>hg s₃ H ex pins) (λs₃ H ex pins _=>hc s₃ H ex pins) (λs₃ H ex pins _ _=>he s₃ H ex pins) (λ_ _ _ _ z=>z.elim) hs
end
end L2
namespace LR
open PySem PySem.Spec PyProof.Rows PySem.F
section
variable {prog:Program} {w:World} {A:Bj} {E:Value->Shared->Prop} {s:Shared}
def Xc(hl:IsTup s.heap l items):s.TypeIs (.ref l) "tuple":=let⟨o,ho,hc,_⟩:=hl;⟨o,ho,hc⟩
end
end LR
namespace L2
open PySem PySem.Spec PyProof.Rows
end L2
namespace HT
open PySem PySem.Spec PyProof.Rows
section
variable {prog:Program} {w:World} {A:Bj} {E:Value->Shared->Prop} {s:Shared}
def Jcj{t sl:Addr}{items:Array Value}{vl vu:Value}{lo hi:Option Int}{Q:Value->Shared->Prop}(ht:IsTup s.heap t items)(hs:s.heap.IsSliceOf sl vl vu .none)(pl:K8 vl lo)(pu:K8 vu hi)
  (hw:sIx items.size 0 lo=0/\sIx items.size items.size hi=items.size)(h:Q (.ref t) s):wpAny (model prog w) A (Kh (.ref t) (.ref sl)) Q E s:=by
 obtain⟨os,hos,hcs,hds⟩:=id hs;have hTs:s.TypeIs (.ref sl) "slice":=⟨os,hos,hcs⟩
 unfold Kh
 try with_reducible refine Bh ?_
 first|refine Aa (Ac ?_)|skip
 refine Aa (Tz ht.typeIs (by decide) ?_);refine Aa (B4 (name:=Ab "__getitem__") ht.typeIs B9
  (Bn B9 ht.typeIs R5 ?_ (Tq _ _)))
 show wpAny _ _ (G1 (.ref t)>>=_) _ _ s;refine Aa (L1 ht ?_);refine Aa (Fj hTs ?_);rw[if_pos (by decide)];refine Aa (Jbt hs pl pu ?_);show wpAny _ _ (if(((sIx items.size 0 lo:Nat):Int)==0&&(1:Int)==1&&(sIx items.size items.size hi-sIx items.size 0 lo)==items.size)=true then _ else _) _ _ s;rw[if_pos (by rw[hw.1,hw.2];simp)];refine Aa (m:=Kt (.ref t)) ?_;unfold Kt;refine Aa (Fj ht.typeIs ?_);refine Ac ?_;rw[if_pos (by decide)];exact Aa (Fm (Ac ⟨_,rfl,Ac h⟩))
end
end HT
namespace L2
open PySem PySem.Spec PyProof.Rows
variable {X:Cx}
def Z2(K:Af):V->Option Int->Option Int->Hp->VK->Prop:=λx lo hi H Q=>∃a xs,x=.ref a/\SqT K H a xs/\
 (HT.sIx xs.length 0 lo=0/\HT.sIx xs.length xs.length hi=xs.length)/\Q (.ref a) H
def Jsr:SlR X (Z2 X.K):=by
 intro pins s U H x v vl vu lo hi sl Q I rx hs pl pu h;obtain⟨a,xs,rfl,hx,hw,q⟩:=h;cases rx;obtain⟨its,r,ht,hz⟩:=I.tuple hx;have hlen:its.toArray.size=xs.length:=by rw[Ao];exact r.length.symm
 exact⟨"tuple",_,B9.lookup,ht.typeIs,HT.Jcj ht hs pl pu (by rw[hlen];exact hw) ⟨.ref a,H,I,rfl,q⟩⟩
end L2
namespace L2
open PySem PySem.Spec PyProof.Rows
section
variable {κ:Type} [DecidableEq κ]
noncomputable def Vl(kvs:List (κ×V))(k:κ):Option V:=(kvs.find? λkv=>decide (kv.1=k)).map (·.2)
noncomputable def putK(kvs:List (κ×V))(k:κ)(v:V):List (κ×V):=
 if(kvs.any λkv=>decide (kv.1=k))=true then kvs.map (λkv=>if kv.1=k then(kv.1,v)else kv)else kvs++[(k,v)]
noncomputable def Wj(kvs:List (κ×V))(k:κ):List (κ×V):=kvs.filter λkv=>decide (kv.1≠k)
def Jds{p:κ×V}(e:p.1=k):Vl (p::r) k=some p.2:=by simp[Vl,C3,e]
def Jdt{p:κ×V}(e:¬p.1=k):Vl (p::r) k=Vl r k:=by simp[Vl,C3,e]
theorem Ji0(k:κ):∀kvs:List (κ×V),(kvs.any λkv=>decide (kv.1=k))=(Vl kvs k).isSome
 |[]=>rfl
 |p::r=>by
  rw[Fg]
  by_cases e:p.1=k
  ·simp only[Jds e,decide_eq_true e,Bool.true_or,Option.isSome_some]
  ·rw[Jdt e,decide_eq_false e,Bool.false_or];exact Ji0 k r
def Jed(kvs:List (κ×V))(k:κ)(v:V):(putK kvs k v).length<=kvs.length+1:=by
 unfold putK;split
 ·rw[Ai];lia
 ·rw[Bd,A7,Eo];lia
theorem RelO.isSome_eq{o:Option V}{u:Option Value}(r:RelO o u):o.isSome=u.isSome:=by
 cases o with
 |none=>cases u with
  |none=>rfl
  |some _=>exact(show False from r).elim
 |some _=>cases u with
  |none=>exact(show False from r).elim
  |some _=>rfl
theorem RelO.getD{o:Option V}{u:Option Value}(r:RelO o u)(rd:RelV d d'):RelV (o.getD d) (u.getD d'):=by
 cases o with
 |none=>cases u with
  |none=>exact rd
  |some _=>exact(show False from r).elim
 |some _=>cases u with
  |none=>exact(show False from r).elim
  |some _=>exact r
theorem KV.val(r:KV kvs vs)(k:κ):RelO (Vl kvs k) (Me vs k):=by
 unfold KV at r
 induction r with
 |nil=>exact Ex
 |@cons p q ps qs h t ih=>
  obtain⟨h1,h2⟩:=h
  by_cases e:p.1=k
  ·have e':q.1=k:=h1.symm.trans e;have b:Me (q::qs) k=some q.2:=by simp[Me,C3,e']
   rw[Jds e,b];exact h2
  ·have e':¬q.1=k:=λz=>e (h1.trans z);have b:Me (q::qs) k=Me qs k:=by simp[Me,C3,e']
   rw[Jdt e,b];exact ih
theorem KV.any{kvs:List (κ×V)}{vs:List (κ×Value)}(r:KV kvs vs)(k:κ):(kvs.any λkv=>decide (kv.1=k))=vs.any λkv=>decide (kv.1=k):=by
 unfold KV at r
 induction r with
 |nil=>rfl
 |cons h t ih=>rw[Fg,Fg,ih,h.1]
theorem KV.repl{kvs:List (κ×V)}{vs:List (κ×Value)}(r:KV kvs vs)(k:κ)(ry:RelV y u):
  KV (kvs.map λkv=>if kv.1=k then(kv.1,y)else kv) (vs.map λkv=>if kv.1=k then(kv.1,u)else kv):=by
 unfold KV at r ⊢
 induction r with
 |nil=>exact .nil
 |@cons p q ps qs h t ih=>
  rw[Av,Av];refine .cons ?_ ih;obtain⟨h1,h2⟩:=h
  by_cases e:p.1=k
  ·rw[if_pos e,if_pos (h1.symm.trans e)];exact⟨h1,ry⟩
  ·rw[if_neg e,if_neg (λz=>e (h1.trans z))];exact⟨h1,h2⟩
def KV.put(r:KV kvs vs)(k:κ)(ry:RelV y u):KV (putK kvs k y) (stored vs k u):=by
 unfold putK stored;rw[r.any k]
 by_cases e:(vs.any λkv=>decide (kv.1=k))=true
 ·rw[if_pos e,if_pos e];exact r.repl k ry
 ·rw[if_neg e,if_neg e];exact Th r ⟨rfl,ry⟩
def KV.length{kvs:List (κ×V)}{vs:List (κ×Value)}(r:KV kvs vs):kvs.length=vs.length:=Cg r
def Jp1(kvs:List (κ×V))(k:κ):(Wj kvs k).length<=kvs.length:=Jw _ _
end
theorem Jkj(r:RelV (kV k) u):(mixKind P w).is k u=true:=by
 cases k with
 |inl i=>obtain⟨t,e⟩:=(show∃t,u=Dr i t from r);subst e;exact Jik P w i t
 |inr x=>obtain⟨t,e⟩:=(show∃t,u=Nl x t from r);subst e;exact Jij P w x t
theorem Jej:∀{ks:List Key} {us:List Value},Vals (ks.map kV) us->ItemsAre (mixKind P w) ks us
 |[],_,r=>by rw[E9]at r;cases r;exact .nil
 |k::ks,_,r=>by
  rw[Av]at r;cases r with
  |cons h t=>exact .cons (Jkj h) (Jej t)
abbrev KT(H:Hp):List (List Key×V)->List (List Key×Addr×Value)->Prop:=Paired λp q=>p.1=q.1/\H q.2.1=some (.tup (p.1.map kV))/\RelV p.2 q.2.2
theorem KT.val(r:KT H kvs xs)(k:List Key):RelO (Vl kvs k) ((Gi xs k).map (·.2)):=by
 induction r with
 |nil=>exact Ex
 |@cons p q ps qs h t ih=>
  obtain⟨h1,_,h2⟩:=h
  by_cases e:p.1=k
  ·have e':q.1=k:=h1.symm.trans e;have b:Gi (q::qs) k=some q.2:=by simp[Gi,C3,e']
   rw[Jds e,b];exact h2
  ·have e':¬q.1=k:=λz=>e (h1.trans z);have b:Gi (q::qs) k=Gi qs k:=by simp[Gi,C3,e']
   rw[Jdt e,b];exact ih
theorem KT.repl{kvs:List (List Key×V)}{xs:List (List Key×Addr×Value)}(r:KT H kvs xs)(k:List Key)(ry:RelV y u):
  KT H (kvs.map λkv=>if kv.1=k then(kv.1,y)else kv) (xs.map (putAt k u)):=by
 induction r with
 |nil=>exact .nil
 |@cons p q ps qs h t ih=>
  rw[Av,Av];refine .cons ?_ ih;obtain⟨h1,h2,h3⟩:=h;unfold putAt
  by_cases e:p.1=k
  ·rw[if_pos e,if_pos (h1.symm.trans e)];exact⟨h1,h2,ry⟩
  ·rw[if_neg e,if_neg (λz=>e (h1.trans z))];exact⟨h1,h2,h3⟩
def KT.put(r:KT H kvs xs)(k:List Key)(hb:H b=some (.tup (k.map kV)))(ry:RelV y u):
  KT H (putK kvs k y) (N8 xs k b u):=by
 have e:(kvs.any λkv=>decide (kv.1=k))=(Gi xs k).isSome:=by
  rw[Ji0,(r.val k).isSome_eq,Ek]
 unfold putK N8;rw[e]
 by_cases q:(Gi xs k).isSome=true
 ·rw[if_pos q,if_pos q];exact r.repl k ry
 ·rw[if_neg q,if_neg q];exact Th r ⟨rfl,hb,ry⟩
def KT.keeps(r:KT H kvs xs)(ht:∀b ys,H b=some (.tup ys)->H' b=some (.tup ys)):KT H' kvs xs:=
 Paired.mapP r λ_ _ z=>⟨z.1,ht _ _ z.2.1,z.2.2⟩
section
variable {P:Program} {w:World} {H:Hp} {h:Heap} {a:Addr}
def Jw3(ok:HOk P w H h)(e:Rd H a u):Uq P w H h a u:=e.ok ok
def Jgb{kvs:List (Key×V)}(ok:HOk P w H h)(e:Rd H a (.dK kvs)):kvs.length<=sizeLine/\(a==sysModules)=false/\∃vs,KV kvs vs/\h.DictOf (mixKind P w) a vs:=
 show Uq P w H h a (.dK kvs)from Jw3 ok e
def J1i{kvs:List (Key×V)}(ok:HOk P w H h)(e:H a=some (.dK kvs)):kvs.length<=sizeLine/\(a==sysModules)=false/\∃vs,KV kvs vs/\h.DictOf (mixKind P w) a vs:=Jgb ok (.inl e)
def Jeg{ks:List Key}(ok:HOk P w H h)(e:H a=some (.tup (ks.map kV))):(tupleKind (mixKind P w)).is h ks a:=by
 obtain⟨_,its,r,o,h1,h2,n,h3⟩:=(show Uq P w H h a (.tup (ks.map kV))from ok a _ e)
 exact⟨o,its.toArray,n,h1,h2,h3,by simpa using Jej r⟩
def Jdq{kvs:List (List Key×V)}(ok:HOk P w H h)(e:Rd H a (.dT kvs)):kvs.length<=sizeLine/\(a==sysModules)=false/\
  ∃xs,KT H kvs xs/\h.DictOfH (tupleKind (mixKind P w)) a xs:=by
 obtain⟨z,y,xs,r,o,es,ep,h1,h2,h3,h4,h5⟩:=(show Uq P w H h a (.dT kvs)from Jw3 ok e)
 refine⟨z,y,xs,r,o,es,ep,h1,h2,h3,h4,λx hx=>?_,h5⟩;have all:∀{l:List (List Key×V)} {m:List (List Key×Addr×Value)},KT H l m->∀x∈m,(tupleKind (mixKind P w)).is h x.1 x.2.1:=by
  intro l m q
  induction q with
  |nil=>intro x hx;exact nomatch hx
  |@cons p q ps qs hq t ih=>
   intro x hx;rcases An.mp hx with e|hx
   ·subst e;exact Jeg ok (by rw[<-hq.1];exact hq.2.1)
   ·exact ih x hx
 exact all r x hx
def Jza{kvs:List (List Key×V)}(ok:HOk P w H h)(e:H a=some (.dT kvs)):kvs.length<=sizeLine/\(a==sysModules)=false/\
  ∃xs,KT H kvs xs/\h.DictOfH (tupleKind (mixKind P w)) a xs:=Jdq ok (.inl e)
end
def Wo(H:Hp)(a:Addr)(y:V)(r:Option V):Prop:=
 (∃kvs k,Rd H a (.dK kvs)/\y=kV k/\r=Vl kvs k)\/∃kvs k b,Rd H a (.dT kvs)/\y=.ref b/\H b=some (.tup (k.map kV))/\r=Vl kvs k
def Xb(H:Hp)(a:Addr)(y v:V)(H':Hp):Prop:=
 (∃kvs k,H a=some (.dK kvs)/\y=kV k/\kvs.length<sizeLine/\H'=upd H a (.dK (putK kvs k v)))\/
 ∃kvs k b,H a=some (.dT kvs)/\y=.ref b/\H b=some (.tup (k.map kV))/\kvs.length<sizeLine/\H'=upd H a (.dT (putK kvs k v))
def Wo.t{k:List Key}(e:H a=some (.dT kvs))(eb:H b=some (.tup (k.map kV))):Wo H a (.ref b) (Vl kvs k):=.inr ⟨kvs,k,b,.inl e,rfl,eb,rfl⟩
def Xb.k{H:Hp}{a:Addr}{kvs:List (Key×V)}{k:Key}{v:V}(e:H a=some (.dK kvs))(hl:kvs.length<sizeLine):Xb H a (kV k) v (upd H a (.dK (putK kvs k v))):=.inl ⟨kvs,k,e,rfl,hl,rfl⟩
def Xb.t{kvs:List (List Key×V)}{k:List Key}(e:H a=some (.dT kvs))(eb:H b=some (.tup (k.map kV)))(hl:kvs.length<sizeLine):
  Xb H a (.ref b) v (upd H a (.dT (putK kvs k v))):=.inr ⟨kvs,k,b,e,rfl,eb,hl,rfl⟩
section
variable {X:Cx} {pins:List (Addr×Obj)} {U:St} {H:Hp} {s:Shared} {a:Addr} {y v:V} {u r:Value} {o:Option V} {A:Bj} {E:Value->Shared->Prop}
def Inv.big(I:Inv X pins U H s):sysModules<s.heap.objs.size:=by
 have h:Ax<s.heap.objs.size:=(I.mod.glob.keeps I.bk).lt;exact Ew (by decide) h
def Jna{Q:Value->Shared->Prop}(hu:A.units+1<Cw)(I:Inv X pins U H s)(g:Wo H a y (some v))(ry:RelV y u)(h:∀w' s',Inv X pins U H s'->RelV v w'->Q w' s'):
  wpAny (model X.prog X.w) A (Kh (.ref a) u) Q E s:=by
 rcases g with⟨kvs,k,e,ey,l⟩|⟨kvs,k,b,e,ey,eb,l⟩
 ·subst ey;obtain⟨z,hd,vs,rel,dd⟩:=Jgb I.hok e;obtain⟨w',hw,rw'⟩:=RelO.some_of (v:=v) (o:=Me vs k) (by rw[l];exact rel.val k);exact wpAny_getItem_of (Jkj ry) dd.mapOf hw (h w' _ (I.tok _) rw')
 ·subst ey;cases(show u=Ap b from ry);obtain⟨z,hd,xs,rel,dd⟩:=Jdq I.hok e;obtain⟨w',hw,rw'⟩:=RelO.some_of (v:=v) (o:=(Gi xs k).map (·.2)) (by rw[l];exact rel.val k);obtain⟨p,hp,hp2⟩:=Al.mp hw;refine Sq (De hu) (Jeg I.hok eb) dd hp ?_;rw[hp2];exact h w' _ (I.tok _) rw'
def Wfs{Q:Value->Shared->Prop}(hu:A.units+1<Cw)(I:Inv X pins U H s)(g:Wo H a y o)(ry:RelV y u)(h:∀s',Inv X pins U H s'->Q (.bool o.isSome) s'):
  wpAny (model X.prog X.w) A (Dv .In u (.ref a)) Q E s:=by
 rcases g with⟨kvs,k,e,ey,l⟩|⟨kvs,k,b,e,ey,eb,l⟩
 ·subst ey;obtain⟨z,hd,vs,rel,dd⟩:=Jgb I.hok e;refine wpAny_in_of (Jkj ry) hd dd.mapOf ?_;rw[<-(rel.val k).isSome_eq,<-l];exact h _ (I.tok _)
 ·subst ey;cases(show u=Ap b from ry);obtain⟨z,hd,xs,rel,dd⟩:=Jdq I.hok e;refine wpAny_in_heap (De hu) (Jeg I.hok eb) hd dd ?_;have q:=(rel.val k).isSome_eq;rw[Ek]at q;rw[<-q,<-l];exact h _ (I.tok _)
def Jur{Q:Value->Shared->Prop}(hu:A.units+1<Cw)(I:Inv X pins U H s)(g:Wo H a y o)(ry:RelV y u)(h:∀s',Inv X pins U H s'->Q (.bool (!o.isSome)) s'):
  wpAny (model X.prog X.w) A (Dv .NotIn u (.ref a)) Q E s:=by
 rcases g with⟨kvs,k,e,ey,l⟩|⟨kvs,k,b,e,ey,eb,l⟩
 ·subst ey;obtain⟨z,hd,vs,rel,dd⟩:=Jgb I.hok e;refine wpAny_notIn_of (Jkj ry) hd dd.mapOf ?_;rw[<-(rel.val k).isSome_eq,<-l];exact h _ (I.tok _)
 ·subst ey;cases(show u=Ap b from ry);obtain⟨z,hd,xs,rel,dd⟩:=Jdq I.hok e;refine wpAny_notIn_heap (De hu) (Jeg I.hok eb) hd dd ?_;have q:=(rel.val k).isSome_eq;rw[Ek]at q;rw[<-q,<-l];exact h _ (I.tok _)
def Jge{h':Heap}(I:Inv X pins U H s)(mu:Mut (H a))(hs:C0 a s.heap h')(he:∃q,h'.get? a=some q)(new:Uq X.prog X.w (upd H a ob) h' a ob):
  Inv X pins U (upd H a ob) {s with heap:=h',toks:=t'}:=
 I.write (x:=a) (e:=a) mu (.inl rfl) (λb q hb z=>(hs.2 b hb).trans z) he new
def Jrs{h':Heap}{kvs:List (Key×V)}(z:kvs.length<=sizeLine)(hd:(a==sysModules)=false)(rel:KV kvs vs)(dd:h'.DictOf (mixKind P w) a vs):
  Uq P w H' h' a (.dK kvs):=⟨z,hd,vs,rel,dd⟩
def Jhi{Q:Unit->Shared->Prop}(hu:A.units+1<Cw)(I:Inv X pins U H s)(g:Xb H a y v H')(ry:RelV y u)(rv:RelV v r)(h:∀s',Inv X pins U H' s'->Q () s'):
  wpAny (model X.prog X.w) A (T5 (.ref a) u r) Q E s:=by
 rcases g with⟨kvs,k,e,ey,l,eH⟩|⟨kvs,k,b,e,ey,eb,l,eH⟩
 ·subst ey eH;obtain⟨z,hd,vs,rel,dd⟩:=J1i I.hok e;have hz:vs.length<=sizeLine:=by rw[<-rel.length];exact z
  have hl:(putK kvs k v).length<=sizeLine:=by have:=Jed kvs k v;lia
  refine wpAny_setItem_pairs (hsz:=hz) (Jkj ry) dd λh' dd' hs=>h _ ?_;have he:∃q,h'.get? a=some q:=let⟨q,_,_,hq,_⟩:=dd';⟨q,hq⟩;exact Jge I (by rw[e];exact Ex) hs he (Jrs hl hd (rel.put k rv) dd')
 ·subst ey eH;cases(show u=Ap b from ry);obtain⟨z,hd,xs,rel,dd⟩:=Jza I.hok e;have hz:xs.length<=sizeLine:=by rw[<-Cg rel];exact z
  have hl:(putK kvs k v).length<=sizeLine:=by have:=Jed kvs k v;lia
  refine So (hsz:=hz) (De hu) (Jeg I.hok eb) dd λh' dd' hs=>h _ ?_;obtain⟨q,es,ep,hq,h2,h3,h4,_,h5⟩:=dd';refine Jge I (by rw[e];exact Ex) hs ⟨q,hq⟩ ⟨hl,hd,_,(rel.put k eb rv).keeps λc ys ec=>?_,q,es,ep,hq,h2,h3,h4,h5⟩;rw[Jae (Jpa ec e (λz=>nomatch z))];exact ec
end
section
variable {X:Cx} {pins:List (Addr×Obj)} {U:St} {H:Hp} {s:Shared} {a:Addr} {kvs:List (Key×V)} {k:Key} {u:Value} {A:Bj} {E:Value->Shared->Prop}
def J1k{Q:Value->Shared->Prop}(I:Inv X pins U H s)(e:Rd H a (.dK kvs))(h:∀t s',Inv X pins U H s'->Q (.int kvs.length t) s'):wpAny (model X.prog X.w) A (call (.builtin "len") [.ref a]) Q E s:=by
 obtain⟨z,hd,vs,rel,dd⟩:=Jgb I.hok e;refine call_len_dict hd dd (by rw[<-rel.length];rw[Gy]at z;lia) ?_;rw[<-rel.length];exact h _ _ (I.tok _)
end
def Jir{s:Shared}(I:Inv X pins U H s)(g:Wo H a y o):s.TypeIs (.ref a) "dict":=by
 rcases g with⟨kvs,k,e,_,_⟩|⟨kvs,k,b,e,_,_,_⟩
 ·obtain⟨_,_,vs,_,dd⟩:=Jgb I.hok e;exact dd.typeIs
 ·obtain⟨_,_,xs,_,dd⟩:=Jdq I.hok e;exact dd.typeIs
section
variable {X:Cx} {o i e value:Expr} {pos pos' tpos:Pos} {td ty tv:TE}
end
def Jp2(h:Heap)(hb:sysModules<h.objs.size):Uq P w H (h.push {cls:=.type "dict",data:=.dict #[]}) h.objs.size (.dK []):=
 ⟨Cp _,beq_eq_false_iff_ne.mpr (D7 (Au hb)),[],.nil,Heap.DictOf.new h⟩
def Jp0(h:Heap)(hb:sysModules<h.objs.size):Uq P w H (h.push {cls:=.type "dict",data:=.dict #[]}) h.objs.size (.dT []):=
 ⟨Cp _,beq_eq_false_iff_ne.mpr (D7 (Au hb)),[],.nil,_,#[],0,Ak _ rfl,⟨rfl,rfl,rfl⟩,rfl,rfl,Ib⟩
def Y0:TE:=λ_ H Q=>∀p,H p=none->Q (.ref p) (upd H p (.dK []))
def Yz:TE:=λ_ H Q=>∀p,H p=none->Q (.ref p) (upd H p (.dT []))
section
variable {X:Cx} {pos:Pos}
def Jo0:PE X (.Dict [] [] pos) Y0:=λpins s U H Q I h=>
 M4 ⟨.ref s.heap.objs.size,_,I.laid (a:=s.heap.objs.size) (o:=.dK []) (t':=s.toks) (λ_ _ q=>Ad _ q) (Aj _) (Jp2 s.heap I.big),rfl,h _ (I.hok.fresh (Aj _))⟩
def Joy:PE X (.Dict [] [] pos) Yz:=λpins s U H Q I h=>
 M4 ⟨.ref s.heap.objs.size,_,I.laid (a:=s.heap.objs.size) (o:=.dT []) (t':=s.toks) (λ_ _ q=>Ad _ q) (Aj _) (Jp0 s.heap I.big),rfl,h _ (I.hok.fresh (Aj _))⟩
end
def IsD(H:Hp)(a:Addr):Prop:=(∃kvs,Rd H a (.dK kvs))\/∃kvs,Rd H a (.dT kvs)
def Jri{s:Shared}(I:Inv X pins U H s)(d:IsD H a):
  s.TypeIs (.ref a) "dict"/\(∀b,Ap a=.ref b->∃ob,s.heap.get? b=some ob/\ob.dict=none)/\(a==sysModules)=false:=by
 rcases d with⟨kvs,e⟩|⟨kvs,e⟩
 ·obtain⟨_,hd,vs,_,dd⟩:=Jgb I.hok e;refine⟨dd.typeIs,λb q=>?_,hd⟩;cases q;obtain⟨ob,_,_,h1,h2,_⟩:=dd;exact⟨ob,h1,h2.2.1⟩
 ·obtain⟨_,hd,xs,_,dd⟩:=Jdq I.hok e;refine⟨dd.typeIs,λb q=>?_,hd⟩;cases q;obtain⟨ob,_,_,h1,h2,_⟩:=dd;exact⟨ob,h1,h2.2.1⟩
section
variable {X:Cx} {pins:List (Addr×Obj)} {U:St} {H:Hp} {s:Shared} {a:Addr} {y d:V} {u r:Value} {o:Option V} {A:Bj} {E:Value->Shared->Prop}
theorem Jzi{Q:Value->Shared->Prop}(hu:A.units+1<Cw)(I:Inv X pins U H s)(g:Wo H a y o)(ry:RelV y u)(h:∀w' s',Inv X pins U H s'->RelV (o.getD .non) w'->Q w' s'):
  wpAny (model X.prog X.w) A (call (.builtin "dict.get") [.ref a,u]) Q E s:=by
 rcases g with⟨kvs,k,e,ey,l⟩|⟨kvs,k,b,e,ey,eb,l⟩
 ·subst ey;obtain⟨z,hd,vs,rel,dd⟩:=Jgb I.hok e;refine Qh Gq dd.typeIs M9 (Mx _ _) (meets_dict_get (mixKind X.prog X.w) a (Jkj ry) hd) ⟨_,dd.mapOf,h _ _ (I.tok _) ?_⟩;rw[l];exact(rel.val k).getD rfl
 ·subst ey;cases(show u=Ap b from ry);obtain⟨z,hd,xs,rel,dd⟩:=Jdq I.hok e;refine Qh Gq dd.typeIs M9 (Mx _ _) (meetsH_dict_get (tupleKind (mixKind X.prog X.w)) a b hd) ⟨De hu,k,xs,Jeg I.hok eb,dd,h _ _ (I.tok _) ?_⟩;rw[l];exact(rel.val k).getD rfl
end
section
variable {X:Cx} {o e f:Expr} {apos cpos:Pos} {td ty tx:TE}
end
section
variable {X:Cx} {pins:List (Addr×Obj)} {U:St} {H:Hp} {s:Shared} {a:Addr} {kvs:List (Key×V)} {A:Bj} {E:Value->Shared->Prop}
def Jp4{Q:Value->Shared->Prop}(I:Inv X pins U H s)(e:Rd H a (.dK kvs))(h:∀p s',H p=none->Inv X pins U (upd H p (.dK kvs)) s'->Q (.ref p) s'):wpAny (model X.prog X.w) A (call (.type "dict") [.ref a]) Q E s:=by
 obtain⟨z,hd,vs,rel,dd⟩:=Jgb I.hok e;refine kt_call_dict hd dd (by rw[<-rel.length];exact z) λh' dd' hs=>?_;refine h _ _ (I.hok.fresh (Aj _)) (I.laid (a:=s.heap.objs.size) (o:=.dK kvs) (t':=s.toks) (λb q hq=>?_) (Aj _) (Jrs z (beq_eq_false_iff_ne.mpr (D7 (Au I.big))) rel dd'));exact(hs.2 b (Au (Am hq))).trans (Ad _ hq)
end
section
variable {X:Cx} {pins:List (Addr×Obj)} {U:St} {H:Hp} {s:Shared} {a:Addr} {y:V} {u:Value} {A:Bj} {E:Value->Shared->Prop}
end
end L2
namespace LZ
open PySem PyProof.Rows
open AutoSeq1 (wpAny_loadPart')
section
variable {prog:Program} {w:World} {A:Bj} {E:Value->Shared->Prop} {s:Shared}
def nx{Q:Value->Shared->Prop}(h1:s.heap.IsTupleIter j u i)(h2:s.heap.IsTuple u us)(h3:us[i]? =some x)
  (k:∀h',h'.IsTupleIter j u (i+1)->C0 j s.heap h'->Q x {s with heap:=h'}):wpAny (model prog w) A (Co (.ref j)) Q E s:=by
 obtain⟨o,eo,c,d⟩:=id h1;obtain⟨ot,et,_,n,dt⟩:=h2;unfold Co;refine Aa (B4 (name:=Ab "__next__") h1.typeIs F4 (Bn F4 h1.typeIs Nt ?_ (Na _)));show wpAny _ _ (Py (.ref j) 0>>=_) _ _ s;refine Aa (B7 eo d (x:=.ref u) rfl ?_);show wpAny _ _ (if(Ap u==Cd)=true then _ else _) _ _ s;rw[if_neg (show¬((Ap u==Cd)=true)from Az)];show wpAny _ _ (Py (.ref j) 1>>=_) _ _ s;refine Aa (B7 eo d (x:=.int i 0) rfl ?_);show wpAny _ _ (Px (.ref u)>>=_) _ _ s;refine Aa (D3 et dt ?_);simp only[D2,h3];refine Aa (Jf eo d (by simp) (Ac ⟨x,rfl,Ac (k _ ?_ (Cy ..))⟩));exact⟨_,Cm _ eo (O5 (Ih d _)),(Qz ..).trans c,by rw[Ih d];simp[rawInt]⟩
def Jx2{Q:Value->Shared->Prop}(hh:A.handled=none)(h1:s.heap.IsTupleIter j u i)(h2:s.heap.IsTuple u us)(h3:us[i]? =none)
  (k:∀h' e,O6 j s.heap h'->(∃o,h'.get? e=some o/\o.cls=.type "StopIteration")->E (.ref e) {s with heap:=h'}):wpAny (model prog w) A (Co (.ref j)) Q E s:=by
 obtain⟨o,eo,c,d⟩:=id h1;obtain⟨ot,et,_,n,dt⟩:=h2;unfold Co;refine Aa (B4 (name:=Ab "__next__") h1.typeIs F4 (Bn F4 h1.typeIs Nt ?_ (Na _)));show wpAny _ _ (Py (.ref j) 0>>=_) _ _ s;refine Aa (B7 eo d (x:=.ref u) rfl ?_);show wpAny _ _ (if(Ap u==Cd)=true then _ else _) _ _ s;rw[if_neg (show¬((Ap u==Cd)=true)from Az)];show wpAny _ _ (Py (.ref j) 1>>=_) _ _ s;refine Aa (B7 eo d (x:=.int i 0) rfl ?_);show wpAny _ _ (Px (.ref u)>>=_) _ _ s;refine Aa (D3 et dt ?_);simp only[D2,h3];refine Aa (Fm (Aa (Jf eo d (by simp) ?_)));show wpAny _ _ (Qg (.type "StopIteration") []>>=_) _ _ _;refine Aa ?_;simp only[Qg,newTuple];refine Aa (Bx ?_ (by size_fits));refine Aa (m:=G8 _ _) (Nh (a:=Cd) (by first|rfl|(simp only[G8];rfl)) ?_);refine Bx ?_ (by size_fits);simp only[raiseNew];refine Aa (Ph ?_);first|rw[show A.in1.handled=none from hh]|rw[hh]
 refine Aa (Ac (Q7 ?_));exact k _ _ (((Cy ..).extBut.push _).push _) ⟨_,Ak _ rfl,rfl⟩
end
def Sr(b:Bool)(h:Heap)(l:Addr)(its:Array Value):Prop:=if b=true then h.IsList l its else h.IsTuple l its
def Ir(b:Bool)(h:Heap)(it l:Addr)(i:Nat):Prop:=if b=true then h.IsListIter it l i else h.IsTupleIter it l i
def Ir.obj{h:Heap}(x:Ir b h it l i):∃o fs,h.get? it=some o/\o.data=.fields fs:=by
 cases b
 ·obtain⟨o,e,_,d⟩:=(show h.IsTupleIter it l i from x);exact⟨o,_,e,d⟩
 ·obtain⟨o,e,_,d⟩:=(show h.IsListIter it l i from x);exact⟨o,_,e,d⟩
def Ir.at{h h':Heap}(x:Ir b h it l i)(k:∀o,h.get? it=some o->h'.get? it=some o):Ir b h' it l i:=by
 cases b
 ·exact(show h.IsTupleIter it l i from x).at k
 ·exact(show h.IsListIter it l i from x).at k
def Sr.lt{h:Heap}(x:Sr b h l its):l<h.objs.size:=by
 cases b
 ·obtain⟨o,e,_⟩:=(show h.IsTuple l its from x);exact Am e
 ·obtain⟨o,e,_⟩:=(show h.IsList l its from x);exact Am e
def draw{A:Bj}(b:Bool)(hh:A.handled=none)(it l:Addr)(hne:l≠it)(items:Array Value):Draws prog w A it [it,l] items.size (λi v=>items[i]? =some v) (λi h=>Ir b h it l i/\Sr b h l items):=by
 cases b
 ·exact{live:=λ_ _ st=>let⟨o,_,ho,_⟩:=st.1.obj;⟨o,ho⟩,frame:=λi h h' st hk=>⟨st.1.at λo e=>hk it (by simp) o e,(show h.IsTuple l items from st.2).at λo e=>hk l (by simp) o e⟩,item:=λi s Q E hi st hQ=>nx st.1 st.2 (x:=items[i]) (by simp[hi]) λh' hit' hs'=>hQ _ h' s.toks (by simp[hi]) ⟨hit',(show s.heap.IsTuple l items from st.2).extBut hs'.extBut hne⟩ hs',done:=λs Q E st hE=>Jx2 hh st.1 st.2 (by simp) hE}
 ·exact Draws.list hh it l hne items
def Jil(l:Addr)(items:Array Value)(n:Nat)(dct:Option Addr)(sl:Array (Option Value)):
  Meets (Builtin.«enumerate.__new__» ⟨[.type "enumerate",.ref l],[]⟩) (λ_ R s=>s.heap.get? l=some {cls:=.type "tuple",dict:=dct,data:=.seq items n,slots:=sl}/\
   R (.ok (.ret (.ref (s.heap.push {cls:=.type "tuple_iterator",data:=.fields #[.ref l,.int 0 0]}).objs.size)))
    {s with heap:=(s.heap.push {cls:=.type "tuple_iterator",data:=.fields #[.ref l,.int 0 0]}).push {cls:=.type "enumerate",data:=.fields #[.none,.bool false,.ref s.heap.objs.size,rawInt 0,.none,.none]}}):=
 .of_wp λprog w A R s h=>by
  obtain⟨hp,g,d,tk,os⟩:=s;obtain⟨hl,h⟩:=h;have hsub:=sub_enumerate;have hL:Ua (N9 ⟨hp,g,d,tk,os⟩) l items:=⟨_,hl,rfl,n,rfl⟩
  wp_walk using Km hl
  refine wpAny_stack_any λst=>Ac ?_;split
  ·rename_i c _ _ _ _ _;cases(c==Dw "enumerate")<;>(wp_walk using Km hl,Jg hL;exact⟨_,rfl,h⟩)
  ·wp_walk using Km hl,Jg hL
   exact⟨_,rfl,h⟩
def Jnk{E:Value->Shared->Prop}{s:Shared}{Q:Value->Shared->Prop}(hL:Sr b s.heap l items)
  (h:∀h',IsEnum h' (s.heap.objs.size+1) s.heap.objs.size 0 .none->Ir b h' s.heap.objs.size l 0->
   (∀b o,s.heap.get? b=some o->h'.get? b=some o)->Q (.ref (s.heap.objs.size+1)) {s with heap:=h'}):
  wpAny (model prog w) A (call (.type "enumerate") [.ref l]) Q E s:=by
 cases b
 ·obtain⟨⟨c,dct,dt,sl⟩,hl,hc,n,hd⟩:=(show s.heap.IsTuple l items from hL)
  replace hc:c=.type "tuple":=hc
  replace hd:dt=.seq items n:=hd
  subst hc hd;refine callType_new F.called_enumerate (by decide) (F.typeCall_enumerate_1 _) (F.newCall_enumerate_1 _) (λobj=>F.args_object_init_2 obj _) F.entry_enumerate_new (Jil l items n dct sl) ⟨hl,?_⟩;have hz:(s.heap.push {cls:=.type "tuple_iterator",data:=.fields #[.ref l,.int 0 0]}).objs.size=s.heap.objs.size+1:=Cc ..;show _/\_;have he:=Ak (s.heap.push {cls:=.type "tuple_iterator",data:=.fields #[.ref l,.int 0 0]}) (o:={cls:=.type "enumerate",data:=.fields #[.none,.bool false,.ref s.heap.objs.size,rawInt 0,.none,.none]}) rfl;rw[hz]at he ⊢;exact⟨⟨_,he,rfl⟩,h _ he ⟨_,Ad _ (Ak _ rfl),rfl,rfl⟩ λb o x=>Ad _ (Ad _ x)⟩
 ·exact call_enumerate_list hL λh' z j _ k=>h h' z j k
end LZ
namespace L2
open PySem PySem.Spec PyProof.Rows LZ
def Inv.turnedL{s:Shared}{h':Heap}{fp:List Addr}(I:Inv X pins U H s)(k:∀b o,b∉fp->s.heap.get? b=some o->h'.get? b=some o)(hf:∀b∈fp,V4 X pins H b):Inv X pins U H {s with heap:=h',toks:=t'}:=by
 have nit:∀b u,H b=some u->b∉fp:=λb u e z=>by rw[(hf b z).1]at e;cases e
 refine I.step (g':=s.gens) (d':=s.drawn) (ch:=fp) (λb hb=>?_) (λb o _ _ hc e _=>k b o hc e) (λb o _ _ hc e _=>⟨o.slots,k b o hc e⟩) (λ_ _ _ _ n=>n)
  (λb o hc e=>⟨o,k b o hc e⟩) (λ_ _ e=>e) (λ_ _ _ e=>e) (λb ps e=>⟨#[],by rw[e];simp⟩) (λm hm=>?_) (λb u e=>?_) I.bare
 ·obtain⟨f0,f1,f2,f3,f4,f5⟩:=hf b hb;exact⟨f3,f1,f4,f5⟩
 ·obtain⟨o,es,ep,ho,r⟩:=hm;exact⟨o,es,ep,k _ o (λz=>(hf _ z).2.1 rfl) ho,r⟩
 ·refine(I.hok b u e).stay (λc v hc q=>k c v ?_ q) (λ_ q=>q) λ_ _ q=>q;rcases hc with z|z
  ·rw[z];exact nit b u e
  ·exact nit c _ z
def SqB(b:Bool)(K:Af)(H:Hp)(l:Addr)(xs:List V):Prop:=if b=true then SqL K H l xs else SqT K H l xs
def SqB.sr{X:Cx}{s:Shared}(I:Inv X pins U H s)(h:SqB b X.K H l xs):∃its:List Value,Vals xs its/\Sr b s.heap l its.toArray:=by
 cases b
 ·obtain⟨its,rv,p,_⟩:=I.tuple h;exact⟨its,rv,p⟩
 ·obtain⟨its,rv,p,_⟩:=I.list h;exact⟨its,rv,p.isList⟩
def SqB.inj{X:Cx}(I:Inv X pins U H s)(h:SqB b X.K H l xs)(h':SqB b X.K H l ys):xs=ys:=by
 cases b
 ·exact I.tuple_inj h h'
 ·exact I.list_inj h h'
noncomputable def Ite(b:Bool)(K:Af)(l:Addr):It:=
 ⟨λi H=>∃xs x,SqB b K H l xs/\xs[i]? =some x,
  λi H v H'=>∃p x,H p=none/\v=.ref p/\H'=upd H p (.tup [.int i,x])/\∀xs,SqB b K H l xs->xs[i]? =some x,
  λi H=>∃xs,SqB b K H l xs/\xs.length=i⟩
def Zh(b:Bool)(e it l:Addr)(i:Nat)(h:Heap):Prop:=(∃old,IsEnum h e it i old)/\Ir b h it l i
def Jk4{P:Program}{w:World}{K:Af}{elts:List Expr}{x1:Nat}{tp:Pos}{b:Bool}(e it l:Addr)(hei:e≠it)(hl1:l≠it)(hl2:l≠e):
  Turn P w K (.Tuple elts x1 tp) (Ite b K l) [e,it] e (Zh b e it l)where
 mem:=by simp
 obj:=λi h st b hb=>by
  obtain⟨⟨old,he⟩,h1⟩:=st;obtain⟨o1,fs,e1,d1⟩:=h1.obj;simp only[An,Bc,or_false]at hb;rcases hb with rfl|rfl
  ·exact⟨_,he,λv q=>by cases q⟩
  ·exact⟨o1,e1,λv q=>by rw[d1]at q;cases q⟩
 keep:=λi h h' st k=>by
  obtain⟨⟨old,he⟩,h1⟩:=st;exact⟨⟨old,k e (by simp) _ he⟩,h1.at λo q=>k it (by simp) o q⟩
 item:=by
  intro X hP hw hK hc i pins s U H E I hf st hg;subst hP hw hK;obtain⟨xs,x,hq,hx⟩:=hg;obtain⟨⟨old,he⟩,hi⟩:=st;obtain⟨oi,_,hoi,_⟩:=hi.obj;obtain⟨its,rv,p⟩:=hq.sr I;obtain⟨u,hu,ru⟩:=rv.get hx;have hlt:i<its.toArray.size:=by simpa using(Ae.mp hu).1
  refine wpAny_pyNext_enum_itemD (draw (A:=X.A.in1) b (I.ok.hd hc) it l hl1 its.toArray) he ⟨hi,p⟩ hlt hei (by simp[hei,D7 hl2]) λu' h' tk pu z1 j1 pr sz kk=>?_;obtain rfl:u=u':=by rw[List.getElem?_toArray,hu]at pu;exact Bi pu
  refine⟨_,rfl,wpAny_letOwnedTupleGo_enum (s:={s with heap:=h',toks:=tk+1}) z1 λh2 z2 sb=>?_⟩;have hf0:H s.heap.objs.size=none:=I.hok.fresh (Aj _);have I0:Inv X pins U (upd H s.heap.objs.size (.tup [.int i,x])) {s with heap:=s.heap.push {cls:=.type "tuple",data:=.seq #[.int i tk,u]},toks:=tk+1}:=
   I.laid (t':=tk+1) (λb o e=>Ad _ e) (Aj _) ⟨by show 2<=sizeLine;decide,[.int i tk,u],.cons ⟨_,rfl⟩ (.cons ru .nil),⟨_,Ak _ rfl,rfl,_,rfl⟩⟩
  have hf':∀b∈[e,it],V4 X pins (upd H s.heap.objs.size (.tup [.int i,x])) b:=λb hb=>by
   have nb:b≠s.heap.objs.size:=λq=>by
    simp only[An,Bc,or_false]at hb;rcases hb with rfl|rfl
    ·exact absurd (Am he) (by rw[q];exact Ee _)
    ·exact absurd (Am hoi) (by rw[q];exact Ee _)
   obtain⟨f0,f1,f2,f3,f4,f5⟩:=hf b hb;exact⟨by rw[Jae nb];exact f0,f1,f2,f3,f4,f5⟩
  have I1:Inv X pins U (upd H s.heap.objs.size (.tup [.int i,x])) {s with heap:=h2,toks:=tk+1}:=by
   refine Inv.turnedL (s:={s with heap:=s.heap.push {cls:=.type "tuple",data:=.seq #[.int i tk,u]},toks:=tk+1}) (h':=h2) (t':=tk+1) (fp:=[e,it]) I0 (λb o hb q=>?_) hf'
   replace q:(s.heap.push {cls:=.type "tuple",data:=.seq #[.int i tk,u]}).get? b=some o:=q
   simp only[An,Bc,or_false,not_or]at hb;obtain⟨b1,b2⟩:=hb;rw[sb.2 b b1]
   by_cases hT:b=s.heap.objs.size
   ·subst hT;rw[Ak _ rfl]at q;cases q;exact pr
   ·rw[Ql _ _ _ hT]at q;exact kk b o b1 b2 q
  refine⟨.ref s.heap.objs.size,_,I1,rfl,⟨_,x,hf0,rfl,rfl,λzs hz'=>by rw[hz'.inj I hq];exact hx⟩,⟨⟨u,by simpa using z2⟩,?_⟩,λb hb=>(hf' b hb).1⟩;exact j1.1.at λo q=>(sb.2 it (D7 hei)).trans q
 done:=by
  intro X hP hw hK hc i pins s U H E I hf st hg;subst hP hw hK;obtain⟨xs,hq,rfl⟩:=hg;obtain⟨⟨old,he⟩,hi⟩:=st;obtain⟨its,rv,p⟩:=hq.sr I;have e1:xs.length=its.toArray.size:=by rw[rv.length];simp
  rw[e1]at hi;refine wpAny_pyNext_enum_endD (draw (A:=X.A.in1) b (I.ok.hd hc) it l hl1 its.toArray) he ⟨hi,p⟩ λh' kk=>⟨rfl,I.turnedL (t':=s.toks) (fp:=[e,it]) (λb o hb q=>?_) hf⟩
  simp only[An,Bc,or_false,not_or]at hb;exact kk b o hb.2 q
 self:=λ_ _ _ _ _ st h=>by
  obtain⟨⟨old,he⟩,_⟩:=st;exact T2 he h
def Wd0(K:Af)(ta:TA):TI:=λU H R=>ta U H λvs H1=>∃l b,vs=[.ref l]/\(∃xs,SqB b K H1 l xs)/\R (Ite b K l) H1
theorem Jnn:C8 "enumerate"=some (.type "enumerate"):=by rfl
def Jtp{X:Cx}{a:Expr}{ta:TA}{p pos:Pos}{elts:List Expr}{x1:Nat}{tp:Pos}(hg:Gl X "enumerate")(hm:X.mg "enumerate"=none)(ha:PA X [a] ta)(hs:Bl [a] X.env=[(false,eval a X.env)]):
  PI X (.Tuple elts x1 tp) (.Call (.Name "enumerate" p) [a] [] pos) (Wd0 X.K ta):=by
 intro pins s U H R I h;refine Rr (Jcf I hg hm Jnn (C2 (thn (ha pos pins s U H _ I h) λus s1 ⟨vs,H1,I1,r1,q1⟩=>?_) (by rw[hs];rfl) rfl));obtain⟨l,b,e,⟨xs,hq⟩,q⟩:=q1;subst e;obtain⟨u,rfl,rx⟩:=vals1 r1;cases rx;obtain⟨its,rv,p1⟩:=hq.sr I1;refine Jnk p1 λh' z1 j1 kk=>?_;refine T2 (s:={s1 with heap:=h'}) z1 ?_;have hl:=p1.lt;refine⟨s1.heap.objs.size+1,_,_,_,H1,rfl,I1.kept (t':=s1.toks) kk,Jk4 _ _ l (Cf (C9 _)) (Au hl) (Au (Jd hl)),⟨⟨_,z1⟩,j1⟩,λb hb=>?_,q⟩;have hb':s1.heap.objs.size<=b:=by
  simp only[An,Bc,or_false]at hb;rcases hb with rfl|rfl
  ·exact Kj _
  ·exact Aj _
 exact I1.fpOk hb' (I1.hok.fresh hb')
section
variable {X:Cx}
def Z5(K:Af):R2:=λx y H Q=>∃l b xs zs,x=.ref l/\y=.ref b/\SqL K H l xs/\SqL K H b zs/\xs.length+zs.length<=sizeLine/\∀p,H p=none->Q (.ref p) (upd H p (.lst (xs++zs)))
def Jt3:OpR X (Fv .Add) (Z5 X.K):=by
 intro pins s U H x y v u Q I rx ry h;obtain⟨l,b,xs,zs,rfl,rfl,hH,hB,hz,q⟩:=h;cases rx;cases ry;obtain⟨its,r,p1,_⟩:=I.list hH;obtain⟨its2,r2,p2,_⟩:=I.list hB;have hl:=r.length;have hl2:=r2.length;obtain⟨⟨cls,dd,data,sl⟩,ho,hc,n,hd⟩:=id p1.isList;obtain⟨⟨cls2,dd2,data2,sl2⟩,ho2,hc2,n2,hd2⟩:=id p2.isList;simp only at hc hd hc2 hd2;subst hc hd hc2 hd2;have e:its.toArray++its2.toArray=(its++its2).toArray:=by simp
 refine K5 ⟨_,ho,rfl⟩ ⟨_,ho2,rfl⟩ noFill_list_add seq_list_add PySem.F.slot_list_add PySem.F.entry_list_add (PySem.F.args_list_add_2 _ _) (list_addW l b its.toArray its2.toArray n n2 dd dd2 sl sl2 (by simp;lia)) ⟨ho,ho2,?_⟩;rw[e];exact⟨.ref _,_,I.lnew (t':=s.toks) (r.append r2) (by rw[Bd];lia),rfl,q _ I.fresh⟩
end
open PySem PySem.Spec PyProof.Rows
section
variable {X:Cx}
theorem J04(r:KV kvs vs):∀(i:Nat) (k:Key) (x:Value),vs[i]? =some (k,x)->∃v,kvs[i]? =some (k,v):=by
 unfold KV at r
 induction r with
 |nil=>intro i k x h;simp at h
 |@cons p q ps qs hpq _ ih=>
  intro i k x h;cases i with
  |zero=>
   have h':q=(k,x):=by simpa using h
   subst h';refine⟨p.2,?_⟩;show some p=_;have:p.1=k:=hpq.1;rw[<-this]
  |succ i=>exact ih i k x (by simpa using h)
theorem Jyi{kvs:List (Key×V)}{vs:List (Key×Value)}(r:KV kvs vs):kvs.length=vs.length:=by
 unfold KV at r
 induction r with
 |nil=>rfl
 |cons _ _ ih=>rw[A7,A7,ih]
theorem Jk1:∀{xs:List V} {us:List Value},xs.length=us.length->(∀(i:Nat) (u:Value),us[i]? =some u->∃x,xs[i]? =some x/\RelV x u)->Vals xs us
 |[],[],_,_=>.nil
 |[],u::us,h,_=>by simp at h
 |x::xs,[],h,_=>by simp at h
 |x::xs,u::us,h,g=>by
  obtain⟨y,e,r⟩:=g 0 u rfl;have e':x=y:=by simpa using e
  subst e';exact .cons r (Jk1 (by simpa using h) λi w q=>by simpa using g (i+1) w (by simpa using q))
def Jgh(hc:X.calm=true):U2 X (.type "list") (λxs H Q=>∃p kvs,xs=[.ref p]/\H p=some (.dK kvs)/\∀l,H l=none->Q (.ref l) (upd H l (.lst (kvs.map λkv=>kV kv.1)))):=by
 intro pins s U H xs us Q I r h;obtain⟨p,kvs,rfl,hp,q⟩:=h;obtain⟨u,rfl,rx⟩:=vals1 r;cases rx;obtain⟨hz,hS,vs,rel,o,es,ep,m⟩:=(show Uq X.prog X.w H s.heap p (.dK kvs)from I.hok p _ hp)
 have hl:=Jyi rel;refine PySem.W.kdl_call (PySem.W.kdl_dict (knd:=mixKind X.prog X.w) (kvs:=vs) (ep:=ep) hS) (I.ok.hd hc) ⟨o,es,m⟩ (by rw[<-hl];exact hz) λh' tk acc' c' kp e it=>?_;have rv:Vals (kvs.map λkv=>kV kv.1) acc'.toList:=by
  refine Jk1 (by rw[Ai,hl];exact it.1.symm) λi u hu=>?_;obtain⟨k,x,ek,hk⟩:=it.2 i u (by rw[<-Dp];exact hu);obtain⟨v,ev⟩:=J04 rel i k x ek;refine⟨kV k,by rw[Aq,ev];rfl,?_⟩;rcases Jas hk with⟨j,t,rfl,rfl⟩|⟨y,t,rfl,rfl⟩
  ·exact⟨_,rfl⟩
  ·exact⟨_,rfl⟩
 refine⟨.ref s.heap.objs.size,_,I.laid (t':=tk) kp (Aj _) (show Uq X.prog X.w _ h' _ (.lst (kvs.map λkv=>kV kv.1))from⟨by rw[Ai];exact hz,acc'.toList,c',rv,by simpa using e⟩),rfl,q _ (I.hok.fresh (Aj _))⟩
end
end L2
namespace LR
open PySem PySem.Spec PyProof.Rows PySem.F
section
variable {prog:Program} {w:World} {A:Bj} {E:Value->Shared->Prop} {s:Shared}
noncomputable def ltZ(a b c d:Int):Bool:=decide (a<c)||(decide (a=c)&&decide (b<d))
def int_lt{Q:Value->Shared->Prop}(h:Q (.bool (decide (a<b))) s):wpAny (model prog w) A (Rb .Lt (.int a t) (.int b u)) Q E s:=
 richCompare_gives (op:=.Lt) (Sx s _ t) (Sx s _ u) F.slot_int_lt F.entry_int_lt (F.args_int_lt_2 _ _) (gives_int_lt _ _ t u) (λx=>nomatch x) h
def Jtz{Q:Value->Shared->Prop}(hp:IsTup s.heap p #[.int a t,.int b u])(hq:IsTup s.heap q #[.int c v,.int d x])(hu:A.units<Cw)
  (h:Q (.bool (ltZ a b c d)) s):wpAny (model prog w) A (Rb .Lt (.ref p) (.ref q)) Q E s:=by
 refine Iq (op:=.Lt) (Xc hp) (Xc hq) Uc (Bn Uc (Xc hp) F.entry_tuple_lt ?_ (F.args_tuple_lt_2 _ _)) hu;show wpAny _ _ (Ol (.ref q) (.type "tuple")>>=_) _ _ s;refine Aa (Du (Xc hq) Hg ?_);rw[if_neg (show¬((!true)=true)from Az)];refine Aa (L1 hp ?_);refine Aa (L1 hq ?_);refine Aa ?_;show wpAny _ _ (forIn [((Dr a t:Value),(Dr c v:Value)),(.int b u,.int d x)] _ _) _ _ s;rw[Hj];refine Aa (Aa (Hl ?_))
 by_cases e1:a=c
 ·subst e1;rw[show(a==a)=true from beq_self_eq_true a,if_neg (show¬((!true)=true)from Az)];refine Ac ?_;show wpAny _ _ (forIn [((Dr b u:Value),(Dr d x:Value))] _ _) _ _ s;rw[Hj];refine Aa (Aa (Hl ?_))
  by_cases e2:b=d
  ·subst e2;rw[show(b==b)=true from beq_self_eq_true b,if_neg (show¬((!true)=true)from Az)];refine Ac ?_;refine Ac ?_;have h':Q (.bool false) s:=by simpa [ltZ]using h
   exact Ac ⟨_,rfl,(λz=>nomatch z),h'⟩
  ·rw[show(b==d)=false from beq_eq_false_iff_ne.mpr e2,if_pos (show(!false)=true from rfl)];have h':Q (.bool (decide (b<d))) s:=by simpa [ltZ]using h
   refine Aa (Fm ?_);refine Aa (int_lt ?_);exact Aa (Ac (Ac (Ac (Ac ⟨_,rfl,(λz=>nomatch z),h'⟩))))
 ·rw[show(a==c)=false from beq_eq_false_iff_ne.mpr e1,if_pos (show(!false)=true from rfl)];have h':Q (.bool (decide (a<c))) s:=by simpa [ltZ,e1]using h
  refine Aa (Fm ?_);refine Aa (int_lt ?_);exact Aa (Ac (Ac (Ac (Ac ⟨_,rfl,(λz=>nomatch z),h'⟩))))
end
end LR
namespace L2
open PySem PySem.Spec PyProof.Rows
end L2
namespace Sre
open PySem PyProof.Rows
section
variable {κ:Oz} {M:Rk} {A:Bj} {E:Value->Shared->Prop} {s:Shared} {st:Ts} {a:Array Keyed}
def Ys(M:Rk)(A:Bj)(s:Shared)(κ:Oz)(a:Array Keyed):Prop:=
 ∀(i:Nat) (x y:Keyed),a[i+1]? =some x->a[i]? =some y->∀Q:Bool->Shared->Prop,Q false s->wpAny M A (keyLt' κ x.1 y.1) Q (λ_ _=>False) s
def J02{x y:Keyed}{Q:Option Bool->Ts->Prop}(hA:∀Q:Bool->Shared->Prop,Q false s->wpAny M A (keyLt' κ x.1 y.1) Q (λ_ _=>False) s)(hk:kindOf st=κ)(h:Q (some false) st):wpS M A E s (lt' x y) Q st:=by
 rw[lt'_eq];refine Fw (Qn ?_);rw[hk];refine Fw (wpS_lift (Fy (B3 (hA (λb s'=>s'=s/\b=false) ⟨rfl,rfl⟩) (λb s' hb=>?_) λ_ _ e=>e.elim)));obtain⟨rfl,rfl⟩:=hb;exact⟨rfl,Jk h⟩
def Jt7{Q:Option Bool->Ts->Prop}(hA:Ys M A s κ a)(hk:kindOf st=κ)(ha:Ue st=a)(hi:i+1<a.size)(h:Q (some false) st):wpS M A E s (ltAt' (i+1) i) Q st:=by
 rw[ltAt'_eq];refine Fw (Qn ?_);rw[ha];have h1:a[i+1]? =some a[i+1]:=Br hi;have h2:a[i]? =some a[i]:=Br (by omega);dsimp only;rw[elem'_eq,elem'_eq,h1,h2];exact Fw (Jk (Fw (Jk (J02 (hA i _ _ h1 h2) hk h))))
def Jsu{Q:Option Nat->Ts->Prop}(hA:Ys M A s κ a)(hk:kindOf st=κ)(ha:Ue st=a)(h2:2<=a.size)(h:Q (some a.size) st):wpS M A E s (countRun' 0 a.size) Q st:=by
 rw[countRun'_eq];refine Fw (wpS_mono (Qo (I:=λx c st'=>st'=st/\c=(none,x)/\x<=a.size) (Q:=λc st'=>st'=st/\c=(none,a.size)) ?step ?fin ⟨rfl,rfl,by lia⟩) ?post)
 case fin=>
  rintro c st' ⟨rfl,rfl,b⟩;exact⟨rfl,by rw[show max 1 a.size=a.size by lia]⟩
 case step=>
  rintro x c st' b1 b2 ⟨rfl,rfl,b3⟩;obtain⟨y,rfl⟩:∃y,x=y+1:=⟨x-1,by lia⟩
  dsimp only;rw[show 0+(y+1)=y+1 by lia,show y+1-1=y by lia];refine Fw (Jt7 hA hk ha (by lia) ?_);simp only[Ar,if_false];exact Jk ⟨rfl,rfl,by lia⟩
 case post=>
  rintro c st' ⟨rfl,rfl⟩;dsimp only;rw[if_pos (by simp)];exact Jk h
theorem Jhc:∀(f n r:Nat),r<=1->minRun' f n r<=n+r
 |0,n,r,_=>Aj _
 |f+1,n,r,hr=>by
  rw[minRun'_succ];split
  ·exact Aj _
  ·have:=Jhc f (n/2) (max r (n%2)) (by lia)
   lia
def Jj6{Q:Unit->Ts->Prop}(hA:Ys M A s κ a)(hk:kindOf st=κ)(ha:Ue st=a)(hf:failedOf st=none)(he:pendingOf st= #[])(h2:2<=a.size)
  (h:∀st',Ue st'=a->failedOf st'=none->Q () st'):wpS M A E s sortRuns' Q st:=by
 have hm:minRun' a.size a.size 0<=a.size:=Jhc a.size a.size 0 (Cp _);rw[sortRuns'_eq];refine Fw (Qn ?_);dsimp only;rw[ha];refine Fw (wpS_mono (Qo (I:=λx c st'=>(x=0/\c=(none,0)/\st'=st)\/(c=(none,a.size)/\st'=Oy st #[(0,a.size,0)])) (Q:=λc st'=>c=(none,a.size)/\st'=Oy st #[(0,a.size,0)]) ?step ?fin (.inl ⟨rfl,rfl,rfl⟩)) ?post)
 case fin=>
  rintro c st' (⟨q,_⟩|q)
  ·lia
  ·exact q
 case step=>
  rintro x c st' b1 b2 (⟨rfl,rfl,rfl⟩|⟨rfl,rfl⟩)
  ·dsimp only;rw[if_neg (by lia),Hy];refine Fw (Jsu hA hk ha h2 ?_);dsimp only;rw[if_neg (by lia)];refine Fw (Qn ?_);rw[he];refine Fw (wpS_modify (Jk (.inr ⟨by simp,?_⟩)));rw[he];rfl
  ·dsimp only;rw[if_pos (Aj _)];exact Jk ⟨rfl,rfl⟩
 case post=>
  rintro c st' ⟨rfl,rfl⟩;dsimp only;refine Fw (wpS_mono (Qo (I:=λx c st'=>c=(none,())/\st'=Oy st #[(0,a.size,0)]) (Q:=λc st'=>c=(none,())/\st'=Oy st #[(0,a.size,0)]) ?step1 (λ_ _ q=>q) ⟨rfl,rfl⟩) ?post1)
  case step1=>
   rintro x c st' _ _ ⟨rfl,rfl⟩;refine Fw (Qn ?_);rw[if_pos (by show(1:Nat)<=1;lia)];exact Jk ⟨rfl,rfl⟩
  case post1=>
   rintro c st' ⟨rfl,rfl⟩;exact Jk (h _ ha hf)
end
end Sre
namespace Sbl
open PySem
def Ris(P:List Nat):Prop:=P.Pairwise (·<·)
def Jg5{xs:Array Nat}(h:Ris xs.toList)(hik:i<k)(hk:k<xs.size):xs[i]<xs[k]:=by
 have:=F5.mp h i k (by simp;omega) (by simpa using hk) hik
 simpa using this
theorem Jgi{xs:Array Nat}(h:Ris xs.toList):∀(f lo hi:Nat),hi-lo<=f->lo<=hi->hi<=xs.size->(∀i (hx:i<xs.size),i<lo->xs[i]<j)->(∀i (hx:i<xs.size),hi<=i->j<=xs[i])->
  (∀i (hx:i<xs.size),i<G9 xs j f lo hi->xs[i]<j)/\(∀i (hx:i<xs.size),G9 xs j f lo hi<=i->j<=xs[i])/\G9 xs j f lo hi<=xs.size
 |0,lo,hi,a,b,c,d,e=>by
  have:lo=hi:=by omega
  subst this;exact⟨d,e,c⟩
 |f+1,lo,hi,a,b,c,d,e=>by
  unfold G9
  by_cases g:lo<hi
  ·rw[if_pos g];have hm:(lo+hi)/2<xs.size:=by omega
   have e1:xs.getD ((lo+hi)/2) j=xs[(lo+hi)/2]:=by simp[Array.getD,hm]
   dsimp only;rw[e1]
   by_cases g2:xs[(lo+hi)/2]<j
   ·rw[if_pos g2];refine Jgi h f ((lo+hi)/2+1) hi (by omega) (by omega) c (λi hi' hl=>?_) e;rcases Hz i ((lo+hi)/2)with q|q
    ·exact Ew (Jg5 h q hm) g2
    ·have:i=(lo+hi)/2:=by omega
     subst this;exact g2
   ·rw[if_neg g2];refine Jgi h f lo ((lo+hi)/2) (by omega) (by omega) (by omega) d (λi hx hl=>?_);rcases Hz ((lo+hi)/2) i with q|q
    ·exact Bu (Qs.mp g2) (Ed (Jg5 h q hx))
    ·have:i=(lo+hi)/2:=by omega
     subst this;exact Qs.mp g2
  ·rw[if_neg g];have:lo=hi:=by omega
   subst this;exact⟨d,e,c⟩
def Jfl{xs:Array Nat}(j:Nat)(h:Ris xs.toList):
  (∀i (hi:i<xs.size),i<Cq xs j->xs[i]<j)/\(∀i (hx:i<xs.size),Cq xs j<=i->j<=xs[i])/\Cq xs j<=xs.size:=
 Jgi h _ _ _ (by lia) (Cp _) (Aj _) (λi _ hi=>absurd hi (Nat.not_lt_zero _)) (λi hx hi=>by lia)
theorem slot_of{t:SetTable}(h:Ris t.place.toList)(hd:t.dummies= #[])(j:Nat):
  (j∉t.place.toList/\t.slot j=.empty)\/∃i,∃hi:i<t.place.size,t.place[i]=j/\t.slot j=.live i:=by
 obtain⟨a,b,c⟩:=Jfl j h;unfold SetTable.slot;dsimp only
 by_cases hm:t.place[Cq t.place j]? =some j
 ·have hb:(t.place[Cq t.place j]? ==some j)=true:=by rw[hm];exact beq_self_eq_true _
  rw[if_pos hb];obtain⟨h1,h2⟩:=Array.getElem?_eq_some_iff.mp hm;exact .inr ⟨_,h1,h2,rfl⟩
 ·refine .inl ⟨λhj=>hm ?_,?_⟩
  ·obtain⟨i,hi,e⟩:=Cz.mp hj;have hi':i<t.place.size:=by simpa using hi
   have e':t.place[i]=j:=by simpa using e
   have h1:Cq t.place j<=i:=by
    rcases Hz i (Cq t.place j)with q|q
    ·have:=a i hi' q;lia
    ·exact q
   have h2:i<=Cq t.place j:=by
    rcases Hz (Cq t.place j) i with q|q
    ·have h3:=b (Cq t.place j) (by lia) (Aj _);have h4:=Jg5 h q hi'
     lia
    ·exact q
   have:Cq t.place j=i:=by lia
   rw[this,Br hi',e']
  ·have hb:¬(t.place[Cq t.place j]? ==some j)=true:=λq=>hm (eq_of_beq q);rw[if_neg hb,hd];have:Ja #[] j=false:=by unfold Ja;simp
   rw[this];rfl
noncomputable def lcg(m i:Nat):Nat->Nat
 |0=>i
 |k+1=>lcg m ((i*5+1)%(m+1)) k
def We3:∀i,i<8->∀j,j<8->∃k,k<8/\lcg 7 i k=j:=by decide+kernel
def Hit(t:SetTable)(occ:Nat->Prop):Nat->Ds->Nat->Prop
 |0,p,j=>p.j=j
 |n+1,p,j=>occ p.j/\Hit t occ n (t.advance p) j
theorem Hit.mono{t t':SetTable}(hm:t'.mask=t.mask){occ occ':Nat->Prop}(h:∀j,occ j->occ' j):∀{n:Nat} {p:Ds} {j:Nat},Hit t occ n p j->Hit t' occ' n p j
 |0,p,j,q=>q
 |n+1,p,j,⟨a,b⟩=>⟨h _ a,by
   have e:t'.advance p=t.advance p:=by unfold Gp;rw[hm]
   rw[e];exact Hit.mono hm h b⟩
noncomputable def Lp(m i pt:Nat):Ds:={j:=i,more:=Bq m i-i,i,perturb:=pt,dummy:=none}
noncomputable def Rn(m i pt k:Nat):Ds:={j:=i+k,more:=Bq m i-i-k,i,perturb:=pt,dummy:=none}
def Jry{t:SetTable}(h:k<Bq t.mask i-i):t.advance (Rn t.mask i pt k)=Rn t.mask i pt (k+1):=by
 unfold Gp Rn;rw[if_pos (by show Bq t.mask i-i-k>0;lia)];simp only[Rj,and_true,true_and]
 lia
theorem Jvd{t:SetTable}(h:Bq t.mask i-i<=k):t.advance (Rn t.mask i pt k)=Lp t.mask ((i*5+1+pt/32)%(t.mask+1)) (pt/32):=by
 unfold Gp Rn;rw[if_neg (by show¬Bq t.mask i-i-k>0;omega)];rfl
def Jqu(m i:Nat):Bq m i-i<=9:=by unfold Bq;split<;>lia
theorem Jm0{t:SetTable}{occ:Nat->Prop}:∀(d k:Nat),k+d=Bq t.mask i-i->(∀x,k<=x->x<=Bq t.mask i-i->occ (i+x))->
  Hit t occ n (Lp t.mask ((i*5+1+pt/32)%(t.mask+1)) (pt/32)) j->Hit t occ (n+d+1) (Rn t.mask i pt k) j
 |0,k,e,ho,h=>⟨ho k (Aj _) (by lia),by rw[Jvd (by lia)];exact h⟩
 |d+1,k,e,ho,h=>⟨ho k (Aj _) (by lia),by
   rw[Jry (by lia)];exact Jm0 d (k+1) (by lia) (λx a b=>ho x (by lia) b) h⟩
theorem Jrl{t:SetTable}{occ:Nat->Prop}:∀(d k:Nat),k+d<=Bq t.mask i-i->(∀x,k<=x->x<k+d->occ (i+x))->Hit t occ d (Rn t.mask i pt k) (i+(k+d))
 |0,k,_,_=>rfl
 |d+1,k,e,ho=>⟨ho k (Aj _) (by lia),by
   rw[Jry (by lia),show k+(d+1)=k+1+d by lia];exact Jrl d (k+1) (by lia) λx a b=>ho x (by lia) (by lia)⟩
theorem least{P:Nat->Prop}:∀x,P x->∃y,y<=x/\P y/\∀z,z<y->¬P z:=λx=>by
 induction x using Sg with
 |ind x ih=>
  intro h
  by_cases q:∃z,z<x/\P z
  ·obtain⟨z,hz,pz⟩:=q;obtain⟨y,a,b,c⟩:=ih z hz pz;exact⟨y,by lia,b,c⟩
  ·exact⟨x,Aj _,h,λz hz pz=>q ⟨z,hz,pz⟩⟩
def Jrk{t:SetTable}{occ:Nat->Prop}(hj:¬occ j)(h:Hit t occ n (Lp t.mask ((i*5+1+pt/32)%(t.mask+1)) (pt/32)) j):∃n' j',n'<=n+10/\¬occ j'/\Hit t occ n' (Lp t.mask i pt) j':=by
 by_cases hr:∃x,x<=Bq t.mask i-i/\¬occ (i+x)
 ·obtain⟨x,hx,hno,hmin⟩:∃x,x<=Bq t.mask i-i/\¬occ (i+x)/\∀y,y<x->occ (i+y):=by
   obtain⟨x,h1,h2⟩:=hr;obtain⟨y,a,b,c⟩:=least (P:=λx=>¬occ (i+x)) x h2;exact⟨y,Bu a h1,b,λz hz=>Kk.mp (c z hz)⟩
  have:=Jqu t.mask i;have q:=Jrl (t:=t) (occ:=occ) (i:=i) (pt:=pt) x 0 (by lia) λy _ hy=>hmin y (by lia);rw[Fc]at q;exact⟨x,i+x,by lia,hno,q⟩
 ·have ho:∀x,x<=Bq t.mask i-i->occ (i+x):=λx hx=>Kk.mp λq=>hr ⟨x,hx,q⟩;have:=Jqu t.mask i;exact⟨_,j,by lia,hj,Jm0 (Bq t.mask i-i) 0 (by lia) (λx _ hx=>ho x hx) h⟩
theorem Wd2{t:SetTable}{occ:Nat->Prop}(hj:¬occ j):∀(k i:Nat),lcg t.mask i k=j->∃n j',n<=10*k/\¬occ j'/\Hit t occ n (Lp t.mask i 0) j'
 |0,i,e=>⟨0,j,by lia,hj,e⟩
 |k+1,i,e=>by
  obtain⟨n,j',a,b,c⟩:=Wd2 hj k ((i*5+1)%(t.mask+1)) e;obtain⟨n',j'',a',b',c'⟩:=Jrk (i:=i) (pt:=0) b c;exact⟨n',j'',by lia,b',c'⟩
theorem Wd1{t:SetTable}{occ:Nat->Prop}(h0:∀i,i<=t.mask->∃n j',n<=B/\¬occ j'/\Hit t occ n (Lp t.mask i 0) j'):∀(k pt i:Nat),i<=t.mask->pt<32^k->∃n j',n<=B+10*k/\¬occ j'/\Hit t occ n (Lp t.mask i pt) j'
 |0,pt,i,hi,hp=>by
  have:pt=0:=by lia
  subst this;exact h0 i hi
 |k+1,pt,i,hi,hp=>by
  obtain⟨n,j',a,b,c⟩:=Wd1 h0 k (pt/32) ((i*5+1+pt/32)%(t.mask+1)) (Je (Nc _ (Ls _))) (by rw[Nat.pow_succ]at hp;lia);obtain⟨n',j'',a',b',c'⟩:=Jrk (i:=i) (pt:=pt) b c;exact⟨n',j'',by lia,b',c'⟩
def Jpu{t:SetTable}{occ:Nat->Prop}(hm:t.mask=7)(hj:j<=t.mask)(hno:¬occ j)(h:Int):∃n j',n<10*Dc t.mask/\¬occ j'/\Hit t occ n (t.probeStart h) j':=by
 have hb:E5 h<32^13:=by
  unfold E5;have h1:h%(2^64:Int)<2^64:=Qv _ (by decide);have h2:0<=h%(2^64:Int):=Sl _ (by decide);have h3:((h%(2^64:Int)).toNat:Int)<2^64:=by rw[K0 h2];exact h1
  have h4:(h%(2^64:Int)).toNat<2^64:=by exact_mod_cast h3
  exact Bf h4 (by decide)
 have h0:∀i,i<=t.mask->∃n j',n<=10*t.mask/\¬occ j'/\Hit t occ n (Lp t.mask i 0) j':=λi hi=>by
  have:∃k,k<t.mask+1/\lcg t.mask i k=j:=by
   rw[hm]at hi hj ⊢;exact We3 i (by lia) j (by lia)
  obtain⟨k,hk,e⟩:=this;obtain⟨n,j',a,b,c⟩:=Wd2 (t:=t) hno k i e;exact⟨n,j',by lia,b,c⟩
 obtain⟨n,j',a,b,c⟩:=Wd1 h0 13 (E5 h) (E5 h%(t.mask+1)) (Je (Nc _ (Ls _))) hb;exact⟨n,j',by unfold Dc;lia,b,c⟩
theorem Hit.dummy{t:SetTable}{occ:Nat->Prop}(p:Ds):(t.advance p).dummy=p.dummy:=by unfold Gp;split<;>rfl
theorem Jju{t:SetTable}(hr:Ris t.place.toList)(hd:t.dummies= #[]){hashAt:Nat->Int}:∀(n f:Nat) (p:Ds) (j:Nat),n<f->p.dummy=none->Hit t (·∈t.place.toList) n p j->
  (∃m p',m<=n/\Hit t (·∈t.place.toList) (n-m) p' j/\p'.dummy=none/\((m=n/\p'.j=j/\j∉t.place.toList/\Jq t hashAt h f p=some (.empty j none))\/
   ∃i,∃hi:i<t.place.size,t.place[i]=p'.j/\t.slot p'.j=.live i/\hashAt i=h/\Jq t hashAt h f p=some (.candidate p'.j i (t.advance p'))))\/
  (j∈t.place.toList/\∃i,∃hi:i<t.place.size,t.place[i]=j/\hashAt i≠h)
 |n,0,p,j,hf,_,_=>by lia
 |n,f+1,p,j,hf,hdm,hh=>by
  rw[Jq];rcases slot_of hr hd p.j with⟨hno,hs⟩|⟨i,hi,hpi,hs⟩
  ·cases n with
   |zero=>
    have e:p.j=j:=hh;refine .inl ⟨0,p,Aj _,hh,hdm,.inl ⟨rfl,e,e▸hno,?_⟩⟩;rw[hs,hdm,e]
   |succ n=>exact absurd hh.1 hno
  ·rw[hs];dsimp only
   by_cases hq:hashAt i=h
   ·refine .inl ⟨0,p,Cp _,by simpa using hh,hdm,.inr ⟨i,hi,hpi,hs,hq,?_⟩⟩;rw[if_pos (by rw[hq];exact beq_self_eq_true h)]
   ·rw[if_neg (λq=>hq (eq_of_beq q))];cases n with
    |zero=>
     have e:p.j=j:=hh;exact .inr ⟨by rw[<-e,<-hpi];simp,i,hi,by rw[hpi,e],hq⟩
    |succ n=>
     rcases Jju hr hd n f (t.advance p) j (by lia) (by rw[Hit.dummy (occ:=λ_=>True)];exact hdm) hh.2 with⟨m,p',a,b,c,d⟩|d
     ·refine .inl ⟨m+1,p',by lia,by rw[show n+1-(m+1)=n-m by lia];exact b,c,?_⟩;rcases d with⟨d1,d2,d3,d4⟩|d
      ·exact .inl ⟨by lia,d2,d3,d4⟩
      ·exact .inr d
     ·exact .inr d
section
variable {prog:Program} {w:World} {A:Bj} {E:Value->Shared->Prop} {s:Shared}
abbrev IK(prog:Program)(w:World)(h:Heap)(k:List Int)(b:Addr):Prop:=Ti (intKind prog w) h k b
noncomputable abbrev kh(prog:Program)(w:World)(k:List Int):Int:=tupleKeyHash (intKind prog w) k
theorem items_int(h:ItemsAre (intKind prog w) k vs):∀v∈vs,∃i t,v=.int i t:=by
 induction h with
 |nil=>intro v hv;cases hv
 |cons h1 _ ih=>
  intro v hv;rcases An.mp hv with rfl|hv
  ·exact⟨_,Im h1⟩
  ·exact ih v hv
def Jd3{Q:Bool->Shared->Prop}(hk:IK prog w s.heap k b)(h:Q false s):wpAny (model prog w) A (Mg 8 (.ref b)) Q E s:=by
 have hT:=hk.typeIs;obtain⟨o,items,n,ho,_,hd,hi⟩:=hk;have hv:=items_int hi;unfold Mg;refine Aa (Fj (T:="tuple") hT ?_);dsimp only;simp only[beq_self_eq_true,if_true];refine Aa (Ac ?_);simp only[Dh,Ar,if_false];refine Aa ?_;unfold Px;refine Aa (L5 ho ?_);rw[hd];refine Ac ?_;dsimp only;refine Aa ?_;rw[<-E7];refine Dg _ (λrest r s'=>r=(none,())/\s'=s/\∀v∈rest,∃i t,v=Dr i t) _ ?_ ?_ _ _ ⟨rfl,rfl,hv⟩
 ·rintro v rest r s' ⟨rfl,rfl,hall⟩;obtain⟨i,t,rfl⟩:=hall v Bm;refine Aa ?_;unfold Mg;refine Ac ?_;simp only[Ar,if_false];exact Ac ⟨rfl,rfl,λu hu=>hall u (Ay _ hu)⟩
 ·rintro r s' ⟨rfl,rfl,_⟩;exact Ac h
def Je1{Q:Bool->Shared->Prop}(hk:IK prog w s.heap k b)(h:Q true s):wpAny (model prog w) A (Rc 8 (.ref b)) Q E s:=by
 have hT:=hk.typeIs;obtain⟨o,items,n,ho,_,hd,hi⟩:=hk;have hv:=items_int hi;unfold Rc;refine Aa (Ft hT G0.lookup ?_);dsimp only;refine Aa ?_;unfold Px;refine Aa (L5 ho ?_);rw[hd];refine Ac ?_;refine Aa ?_;show wpAny _ _ (forIn items _ _) _ _ s;rw[<-E7];refine Dg _ (λrest r s'=>r=(none,())/\s'=s/\∀v∈rest,∃i t,v=Dr i t) _ ?_ ?_ _ _ ⟨rfl,rfl,hv⟩
 ·rintro v rest r s' ⟨rfl,rfl,hall⟩;obtain⟨i,t,rfl⟩:=hall v Bm;refine Aa ?_;unfold Rc;refine Ac ?_;simp only[Dh,Ar,if_false];exact Ac ⟨rfl,rfl,λu hu=>hall u (Ay _ hu)⟩
 ·rintro r s' ⟨rfl,rfl,_⟩;exact Ac h
def Jr0{Q:Bool->Shared->Prop}(hk:IK prog w s.heap k b)(h:Q false s):∀l:List Value,(∀v∈l,∃k' b',v=.ref b'/\IK prog w s.heap k' b')->wpAny (model prog w) A (T6 (.ref b) l) Q E s:=by
 intro l hl;unfold T6;refine Aa ?_;refine Dg _ (λrest r s'=>r=(none,())/\s'=s/\∀v∈rest,∃k' b',v=Ap b'/\IK prog w s.heap k' b') _ ?_ ?_ _ _ ⟨rfl,rfl,hl⟩
 ·rintro v rest r s' ⟨rfl,rfl,hall⟩;obtain⟨k',b',rfl,hk'⟩:=hall v Bm;have nx:∀v∈rest,∃k' b',v=Ap b'/\IK prog w s'.heap k' b':=λv hv=>hall v (Ay _ hv);dsimp only
  by_cases c:(b==b'||(Om (.ref b)&&Om (.ref b')))=true
  ·rw[if_pos c];exact Ac ⟨rfl,rfl,nx⟩
  ·rw[if_neg c];refine Aa (Qy hk ?_);simp only[Dh,Ar,if_false];refine Aa (Qy hk' ?_);simp only[Dh,Ar,if_false];refine Aa (Jd3 hk ?_);simp only[Ar,if_false];refine Aa (Jd3 hk' ?_);simp only[Ar,if_false];exact Ac ⟨rfl,rfl,nx⟩
 ·rintro r s' ⟨rfl,rfl,_⟩;exact Ac h
structure Tb(prog:Program)(w:World)(t:SetTable)(kb:List (List Int×Addr)):Prop where
 ris:Ris t.place.toList
 dum:t.dummies= #[]
 msk:t.mask=7
 len:t.place.size=kb.length
 inb:∀j∈t.place.toList,j<=t.mask
 room:kb.length*5<t.mask*3
 nd:(kb.map (·.1)).Nodup
 way:∀q∈t.place.toList.zip kb,∃n,n<10*Dc t.mask/\Hit t (·∈t.place.toList) n (t.probeStart (kh prog w q.2.1)) q.1
noncomputable def entS(prog:Program)(w:World)(x:List Int×Addr):Int×Value:=(kh prog w x.1,.ref x.2)
def Tb.fits{t:SetTable}{kb:List (List Int×Addr)}(T:Tb prog w t kb){es:Array (Int×Value)}(he:es.toList=kb.map (entS prog w)):t.fits es.size=true:=by
 have h1:es.size=kb.length:=by rw[<-By,he,Ai]
 unfold Qi L7;rw[T.dum,h1,T.len];have:=T.room;simp only[beq_self_eq_true,K1,decide_eq_true_eq];show kb.length+0<=t.mask
 lia
def Jg7{t:SetTable}(hr:Ris t.place.toList)(hi:i<t.place.size)(hk:k<t.place.size)(e:t.place[i]=t.place[k]):i=k:=by
 rcases Jc i k with h|h|h
 ·have:=Jg5 hr h hk;omega
 ·exact h
 ·have:=Jg5 hr h hi;omega
def Jd8{t:SetTable}(hr:Ris t.place.toList)(hd:t.dummies= #[]){F:Nat->Int}{p:Ds}(e:t.probe F h p=r)(hn:n<10*Dc t.mask)(hdm:p.dummy=none)
  (hh:Hit t (·∈t.place.toList) n p j)(ok:∀i (hi:i<t.place.size),t.place[i]=j->F i=h):
  (j∉t.place.toList/\r=some (.empty j none))\/
   ∃m p' i,m<=n/\Hit t (·∈t.place.toList) (n-m) p' j/\p'.dummy=none/\∃hi:i<t.place.size,t.place[i]=p'.j/\t.slot p'.j=.live i/\F i=h/\r=some (.candidate p'.j i (t.advance p')):=by
 subst e;unfold SetTable.probe;rcases Jju hr hd (hashAt:=F) (h:=h) n (10*Dc t.mask) p j hn hdm hh with⟨m,p',a,b,c,d⟩|⟨d1,i,hi,d2,d3⟩
 ·rcases d with⟨d1,d2,d3,d4⟩|⟨i,hi,d1,d2,d3,d4⟩
  ·exact .inl ⟨d3,d4⟩
  ·exact .inr ⟨m,p',i,a,b,c,hi,d1,d2,d3,d4⟩
 ·exact absurd (ok i hi d2) d3
def Jkb{t:SetTable}(hr:Ris t.place.toList)(hd:t.dummies= #[]){F:Nat->Int}{p:Ds}(e:∀met,t.probe F h p=some met->False)(hn:n<10*Dc t.mask)(hdm:p.dummy=none)
  (hh:Hit t (·∈t.place.toList) n p j)(ok:∀i (hi:i<t.place.size),t.place[i]=j->F i=h):False:=by
 rcases Jd8 hr hd (F:=F) rfl hn hdm hh ok with⟨_,q⟩|⟨_,_,_,_,_,_,_,_,_,_,q⟩
 ·exact e _ q
 ·exact e _ q
theorem Jcx{o:Obj}{es:Array (Int×Value)}{t:SetTable}{kb:List (List Int×Addr)}{Q:SetFound->Shared->Prop}(hu:A.units<Cw)(T:Tb prog w t kb)
  (ho:s.heap.get? a=some o)(hd:o.data=.set es ep t)(he:es.toList=kb.map (entS prog w))(hkb:∀x∈kb,IK prog w s.heap x.1 x.2)(hk:IK prog w s.heap k b)
  (goal:(j∉t.place.toList/\k∉kb.map (·.1)/\Q (.free j false) s)\/(∃i,∃hi:i<t.place.size,t.place[i]=j/\(kb[i]?).map (·.1)=some k)/\Q (.there none) s):
  ∀(n f:Nat) (stand:Option Ds),n<f->n<10*Dc t.mask->(stand.getD (t.probeStart (kh prog w k))).dummy=none->Hit t (·∈t.place.toList) n (stand.getD (t.probeStart (kh prog w k))) j->
   wpAny (model prog w) A (Lx a (.ref b) (kh prog w k) true f stand) Q E s:=by
 have hfit:=T.fits he;have hent:∀i,es[i]? =(kb[i]?).map (entS prog w):=λi=>by rw[<-Dp,he,Aq]
 intro n
 induction n using Sg with
 |ind n ih=>
  intro f stand hf hn hdm hh;obtain⟨f,rfl⟩:∃f',f=f'+1:=⟨f-1,by lia⟩
  rw[Lx];refine Aa (Jp ho hd hfit ?_);dsimp only;have hgw:¬t.gaveWay=true:=by
   unfold SetTable.gaveWay;rw[T.msk];decide
  rw[if_neg hgw];obtain⟨p,hp⟩:∃p,stand.getD (t.probeStart (kh prog w k))=p:=⟨_,rfl⟩
  rw[hp]at hdm hh ⊢;have okF:∀F:Nat->Int,(∀i,F i=((es[i]?).map (·.1)).getD 0)->∀i (hi:i<t.place.size),t.place[i]=j->F i=kh prog w k:=λF hF i hi e=>by
   rcases goal with⟨hj,_⟩|⟨⟨i',hi',e',ek⟩,_⟩
   ·exact absurd (by rw[<-e];simp) hj
   ·have:i=i':=Jg7 T.ris hi hi' (by rw[e,e']);subst this;obtain⟨x,hx,rfl⟩:=Al.mp ek;rw[hF,hent,hx];rfl
  split
  case _ met heq=>
   rcases Jd8 T.ris T.dum heq hn hdm hh (okF _ λ_=>rfl)with⟨hj,e⟩|⟨m,p',i,hm,hh',hdm',hi,hpi,hsl,hFi,e⟩
   ·cases e;dsimp only;rcases goal with⟨_,_,q⟩|⟨⟨i',hi',e',_⟩,_⟩
    ·exact Ac q
    ·exact absurd (by rw[<-e'];simp) hj
   ·cases e;dsimp only;have hikb:i<kb.length:=by rw[<-T.len];exact hi
    obtain⟨⟨k',b'⟩,hx⟩:∃x,kb[i]? =some x:=⟨kb[i],Ag hikb⟩
    have hk':=hkb _ (Ba hx);have hes:es[i]? =some (kh prog w k',.ref b'):=by rw[hent,hx];rfl
    have seen:∀v∈((es.filter (·.1==kh prog w k)).toList.map (·.2)),∃k'' b'',v=Ap b''/\IK prog w s.heap k'' b'':=λv hv=>by
     obtain⟨e,h1,rfl⟩:=Bg.mp hv;have h2:e∈es.toList:=by
      have:e∈(es.filter (·.1==kh prog w k)):=C4.mp h1;exact C4.mpr (Array.mem_filter.mp this).1
     rw[he]at h2;obtain⟨x,hx,rfl⟩:=Bg.mp h2;exact⟨x.1,x.2,rfl,hkb x hx⟩
    have tail:wpAny (model prog w) A (do
      let some (_,y):=es[i]? |unsupported "internal:set-entry"
      let equal<-holding [y] (eqBool y (.ref b))
      let(es',_,t')<-setState a
      if true&&equal then return .there none
      let some same:=t'.sameMemory t.moves t.mask|unsupported "set.changed-during-lookup:is-the-new-block-at-the-old-address"
      let still<-match(if same then t'.slot p'.j else .empty)with
       |.live i'=>match es'[i']? with
        |some (_,y')=>do pure (if<-isSame y' y then some i' else none)
        |none=>pure none
       |_=>pure none
      match still with
      |none=>rule "set.search.anew";Lx a (.ref b) (kh prog w k) true f none
      |some i'=>if equal then return .there (some i')else Lx a (.ref b) (kh prog w k) true f (some (t.advance p'))) Q E s:=by
     rw[hes];dsimp only;refine Aa (Bh (Ss hu hk' hk ?_));refine Aa (Jp ho hd hfit ?_);dsimp only
     by_cases hkk:k'=k
     ·subst hkk;rw[decide_eq_true rfl];simp only[Nw,if_true];rcases goal with⟨_,hno,_⟩|⟨_,q⟩
      ·exact absurd (Bg.mpr ⟨_,Ba hx,rfl⟩) hno
      ·exact Ac q
     ·rw[decide_eq_false hkk];simp only[Kf,Ar,if_false];have hsm:t.sameMemory t.moves t.mask=some true:=by unfold SetTable.sameMemory;simp
      rw[hsm];dsimp only;simp only[if_true];rw[hsl];dsimp only;rw[hes];dsimp only;refine Aa (wpAny_isSame_ref_self ?_);simp only[if_true];refine Aa (Ac ?_);dsimp only;cases hnm:n-m with
      |zero=>
       rw[hnm]at hh';have ej:p'.j=j:=hh';rcases goal with⟨hj,_⟩|⟨⟨i',hi',e',ek⟩,_⟩
       ·exact absurd (by rw[<-ej,<-hpi];simp) hj
       ·have:i=i':=Jg7 T.ris hi hi' (by rw[hpi,ej,e']);subst this;rw[hx]at ek;exact absurd (Bi ek) hkk
      |succ r=>
       rw[hnm]at hh';exact ih r (by lia) f (some (t.advance p')) (by lia) (by lia) (by show(t.advance p').dummy=none;rw[Hit.dummy (occ:=λ_=>True)];exact hdm') hh'.2
    by_cases hled:(!t.led)=true
    ·rw[if_pos hled];refine Aa (Jr0 hk ?_ _ seen);simp only[Ar,if_false];exact tail
    ·rw[if_neg hled];exact tail
  case _ heq=>
   exact(Jkb T.ris T.dum heq hn hdm hh (okF _ λ_=>rfl)).elim
end
section
variable {prog:Program} {w:World} {A:Bj} {E:Value->Shared->Prop} {s:Shared}
def Jfd{α:Type}(xs:Array α)(p:Nat)(x:α):(Dt xs p x).toList=xs.toList.take p++x::xs.toList.drop p:=by
 unfold Dt;have e:(xs.extract p xs.size).toList=xs.toList.drop p:=by rw[O2,Nf];exact Eb (by simp)
 rw[Array.toList_append,Qb,e,O2,Nf];simp
theorem Hit.le{t:SetTable}{occ:Nat->Prop}:∀{n:Nat} {p:Ds} {j:Nat},p.j+p.more<=t.mask->Hit t occ n p j->j<=t.mask
 |0,p,j,h,e=>by have e:p.j=j:=e;lia
 |n+1,p,j,h,⟨_,q⟩=>by
  refine Hit.le ?_ q;unfold Gp;split
  ·show p.j+1+(p.more-1)<=t.mask;lia
  ·show(Jz t.mask p.i p.perturb).1+(Bq t.mask (Jz t.mask p.i p.perturb).1-(Jz t.mask p.i p.perturb).1)<=t.mask;have hl:(Jz t.mask p.i p.perturb).1<=t.mask:=Je (Nc _ (Ls _));unfold Bq;split<;>lia
def Jn1(t:SetTable)(h:Int):(t.probeStart h).j+(t.probeStart h).more<=t.mask:=by
 show E5 h%(t.mask+1)+(Bq t.mask (E5 h%(t.mask+1))-E5 h%(t.mask+1))<=t.mask;have hl:E5 h%(t.mask+1)<=t.mask:=Je (Nc _ (Ls _));unfold Bq;split<;>lia
theorem sub_len:∀(l P:List Nat),l.Nodup->(∀j∈l,j∈P)->l.length<=P.length
 |[],P,_,_=>by simp
 |x::l,P,hl,hm=>by
  have hx:=hm x (.head _);have h2:=sub_len l (P.erase x) (Ci.mp hl).2 λj hj=>by
   have hne:j≠x:=λe=>(Ci.mp hl).1 (e▸hj);exact(Pb hne).mpr (hm j (.tail _ hj))
  rw[Nv hx]at h2;have:=Od hx;simp only[A7]
  lia
def Jvc(n:Nat)(P:List Nat)(h:∀j,j<n->j∈P):n<=P.length:=by
 simpa using sub_len (B1 n) P List.nodup_range λj hj=>h j (Sh.mp hj)
def Tb.free{t:SetTable}(T:Tb prog w t kb):∃j,j<=t.mask/\j∉t.place.toList:=by
 apply Classical.byContradiction;intro h;have h1:∀j,j<t.mask+1->j∈t.place.toList:=λj hj=>Kk.mp λq=>h ⟨j,by lia,q⟩;have h2:=Jvc _ _ h1;rw[By,T.len]at h2;have:=T.room
 lia
def Tb.put{t:SetTable}{kb:List (List Int×Addr)}(T:Tb prog w t kb)(hk:k∉kb.map (·.1))(hj:j∉t.place.toList)(hn:n<10*Dc t.mask)(hh:Hit t (·∈t.place.toList) n (t.probeStart (kh prog w k)) j):
  ∃kb1,kb1.Perm ((k,b)::kb)/\Ris (t.put j).1.place.toList/\(t.put j).1.dummies= #[]/\(t.put j).1.mask=t.mask/\(t.put j).1.place.size=kb1.length/\
   (∀i∈(t.put j).1.place.toList,i<=t.mask)/\(kb1.map (·.1)).Nodup/\(∀q∈(t.put j).1.place.toList.zip kb1,∃n,n<10*Dc t.mask/\Hit (t.put j).1 (·∈(t.put j).1.place.toList) n ((t.put j).1.probeStart (kh prog w q.2.1)) q.1)/\
   ∀es:Array (Int×Value),es.toList=kb.map (entS prog w)->(Dt es (t.put j).2 (kh prog w k,.ref b)).toList=kb1.map (entS prog w):=by
 obtain⟨b1,b2,b3⟩:=Jfl j T.ris;obtain⟨p,hp⟩:∃p,Cq t.place j=p:=⟨_,rfl⟩
 rw[hp]at b1 b2 b3;have ep:(t.put j).1.place=Dt t.place p j:=by rw[<-hp];rfl
 have epl:(t.put j).1.place.toList=t.place.toList.take p++j::t.place.toList.drop p:=by rw[ep,Jfd]
 have ed:(t.put j).1.dummies= #[]:=by
  show(if Ja t.dummies j then _ else t.dummies)= #[];rw[T.dum];have:Ja #[] j=false:=by unfold Ja;simp
  rw[this];rfl
 have em:(t.put j).1.mask=t.mask:=rfl;have len:t.place.toList.length=kb.length:=by rw[By,T.len]
 have hpl:p<=t.place.toList.length:=by simpa using b3
 have zp:(t.place.toList.take p++j::t.place.toList.drop p).zip (kb.take p++(k,b)::kb.drop p)=(t.place.toList.zip kb).take p++(j,(k,b))::(t.place.toList.zip kb).drop p:=by
  rw[List.zip_append (by simp;lia),P7];congr 1
  ·exact(List.take_zipWith ..).symm
  ·congr 1;exact(List.drop_zipWith ..).symm
 have perm1:∀{α:Type} (l:List α) (x:α),(l.take p++x::l.drop p).Perm (x::l):=λl x=>by
  refine List.perm_middle.trans (Pq _ ?_);rw[List.take_append_drop]
 have occ1:∀i,i∈t.place.toList->i∈(t.put j).1.place.toList:=λi hi=>by
  rw[epl];exact(perm1 _ _).mem_iff.mpr (.tail _ hi)
 refine⟨kb.take p++(k,b)::kb.drop p,perm1 _ _,?_,ed,em,?_,?_,?_,?_,?_⟩
 ·rw[epl];refine O9.mpr ⟨T.ris.sublist (Qt _ _),P8.mpr ⟨λy hy=>?_,T.ris.sublist (List.drop_sublist _ _)⟩,λx hx y hy=>?_⟩
  ·obtain⟨i,hi,rfl⟩:=Cz.mp hy;have hi':p+i<t.place.size:=by simp at hi;lia
   have h1:=b2 (p+i) hi' (by lia);have h2:(List.drop p t.place.toList)[i]=t.place[p+i]:=by simp
   rw[h2];rcases Nat.lt_or_eq_of_le h1 with q|q
   ·exact q
   ·exact absurd (by rw[q];simp) hj
  ·obtain⟨i,hi,rfl⟩:=Cz.mp hx;have hi2:i<p/\i<t.place.size:=by simp at hi;lia
   have h2:(List.take p t.place.toList)[i]=t.place[i]:=by simp
   rw[h2];have h3:=b1 i hi2.2 hi2.1;rcases An.mp hy with rfl|hy
   ·exact h3
   ·obtain⟨i',hi',rfl⟩:=Cz.mp hy;have h4:(List.drop p t.place.toList)[i']=t.place[p+i']'(by simp at hi';lia):=by simp
    rw[h4];have:=b2 (p+i') (by simp at hi';lia) (by lia)
    lia
 ·rw[<-By,epl,(perm1 _ _).length_eq,(perm1 _ _).length_eq,A7,A7,len]
 ·intro i hi;rw[epl]at hi;rcases An.mp ((perm1 _ _).mem_iff.mp hi)with rfl|hi
  ·exact hh.le (Jn1 t _)
  ·exact T.inb i hi
 ·have:((kb.take p++(k,b)::kb.drop p).map (·.1)).Perm (((k,b)::kb).map (·.1)):=(perm1 _ _).map _;exact this.nodup_iff.mpr (Ci.mpr ⟨hk,T.nd⟩)
 ·intro q hq;rw[epl,zp]at hq;rcases An.mp ((perm1 _ _).mem_iff.mp hq)with rfl|hq
  ·exact⟨n,hn,hh.mono (t':=(t.put j).1) em occ1⟩
  ·obtain⟨n',h1,h2⟩:=T.way q hq;exact⟨n',h1,h2.mono (t':=(t.put j).1) em occ1⟩
 ·intro es he;rw[show(t.put j).2=p from hp,Jfd,he];simp[entS,Hc,Ky]
end
section
variable {prog:Program} {w:World} {A:Bj} {E:Value->Shared->Prop} {s:Shared}
inductive SetT (prog:Program) (w:World) (h:Heap) (a:Addr) (kb:List (List Int×Addr)):Prop
 |mk (o es ep t) (_:h.get? a=some o) (_:o.ExactSet) (_:o.data=.set es ep t) (_:es.toList=kb.map (entS prog w)) (_:Tb prog w t kb):SetT prog w h a kb
def stored{h:Heap}{o:Obj}(ho:h.get? a=some o)(hd:o.data=.set es ep t):
  (h.update a (Qj es' t')).get? a=some {o with data:=.set es' (ep+1) t'}:=by
 have:=Cm (Qj es' t') ho (by rw[putSet_of es' t' hd];rfl);rw[putSet_of es' t' hd]at this;exact this
def Jqa:100<=sizeLine:=by rw[Gy];decide
def Jvm{kb:List (List Int×Addr)}{Q:Bool->Shared->Prop}(hu:A.units<Cw)(S:SetT prog w s.heap a kb)(hkb:∀x∈kb,IK prog w s.heap x.1 x.2)(hk:IK prog w s.heap k b)(hn:kb.length<3)
  (hold:k∈kb.map (·.1)->Q false s)(hnew:k∉kb.map (·.1)->∀h' kb',C0 a s.heap h'->SetT prog w h' a kb'->kb'.Perm ((k,b)::kb)->Q true {s with heap:=h'}):
  wpAny (model prog w) A (setAddHashed a (.ref b) (kh prog w k)) Q E s:=by
 obtain⟨o,es,ep,t,ho,hx,hd,he,T⟩:=S;have hf:=T.fits he;unfold setAddHashed;refine Bh ?_;rw[show(100000:Nat)=99999+1 from rfl,setAddHashedIn];refine Aa (Jp ho hd hf ?_);dsimp only;have hsc:byScan (.ref b) es=false:=by unfold byScan;rfl
 rw[hsc];simp only[Ar,if_false];unfold setSearch;have hturn:10*Dc t.mask<100000:=by unfold Dc;rw[T.msk];decide
 by_cases hin:k∈kb.map (·.1)
 ·obtain⟨x,hx',ek⟩:=Bg.mp hin;obtain⟨i,hi,ei⟩:=Cz.mp hx';have hip:i<t.place.size:=by rw[T.len];exact hi
  have hz:(t.place[i],x)∈t.place.toList.zip kb:=by
   refine Fi.mpr ⟨i,?_⟩;rw[Nd];exact⟨by rw[Dp];exact Br hip,by rw[Ag hi,ei]⟩
  obtain⟨n,h1,h2⟩:=T.way _ hz;simp only[ek]at h2;refine Aa (Jcx (j:=t.place[i]) hu T ho hd he hkb hk (.inr ⟨⟨i,hip,rfl,by rw[Ag hi,ei];exact congrArg some ek⟩,?_⟩) n 100000 none (by lia) h1 rfl h2);exact Ac (hold hin)
 ·obtain⟨j0,hj0,hno⟩:=T.free;obtain⟨n,j,h1,h2,h3⟩:=Jpu (occ:=(·∈t.place.toList)) T.msk hj0 hno (kh prog w k);refine Aa (Jcx (j:=j) hu T ho hd he hkb hk (.inl ⟨h2,hin,?_⟩) n 100000 none (by lia) h1 rfl h3);dsimp only;refine Aa (Jp ho hd hf ?_);dsimp only;obtain⟨kb1,p1,r1,d1,m1,l1,i1,n1,w1,e1⟩:=T.put (b:=b) hin h2 h1 h3;have e1:=e1 es he;have hlen1:kb1.length=kb.length+1:=by rw[p1.length_eq];rfl
  have hesz:es.size=kb.length:=by rw[<-By,he,Ai]
  have hz1:(Dt es (t.put j).2 (kh prog w k,Ap b)).size=kb.length+1:=by rw[<-By,e1,Ai,hlen1]
  have fit1:(t.put j).1.fits (Dt es (t.put j).2 (kh prog w k,Ap b)).size=true:=by
   unfold Qi L7;rw[d1,l1,hz1,hlen1,m1];have:=T.room;simp only[beq_self_eq_true,K1,decide_eq_true_eq];show kb.length+1+0<=t.mask;rw[T.msk];lia
  have body:wpAny (model prog w) A (do
    storeSet a (Dt es (t.put j).2 (kh prog w k,Ap b)) (t.put j).1
    if(!false&&(t.put j).1.tooFull)=true then do
     setRelay a (SetTable.grown (es.size+1))
     pure true
    else pure true) Q E s:=by
   refine Aa (wpAny_storeSet_of ho hd ?_ (by rw[hz1];have:=Jqa;lia));have sb:=Cy s.heap a (Qj (Dt es (t.put j).2 (kh prog w k,Ap b)) (t.put j).1);have fill:(t.put j).1.fill=kb.length+1:=by unfold L7;rw[d1,l1,hlen1];rfl
   have full:(t.put j).1.tooFull=false:=by
    unfold SetTable.tooFull;rw[fill,m1,T.msk];exact decide_eq_false (by lia)
   rw[full];simp only[Kf,Ar,if_false];exact Ac (hnew hin _ kb1 sb ⟨_,_,_,_,stored ho hd,hx,rfl,e1,r1,d1,by rw[m1];exact T.msk,l1,by rw[m1];exact i1,by rw[hlen1,m1,T.msk];lia,n1,by rw[m1];exact w1⟩ p1)
  by_cases hpl:(t.put j).1.plain=true
  ·rw[if_pos hpl];refine Aa (Je1 hk ?_);exact body
  ·rw[if_neg hpl];refine Aa (Ac ?_);exact body
end
open PySem PyProof.Rows
noncomputable def dd(ks:Nat->List Int):Nat->List (List Int)
 |0=>[]
 |n+1=>if ks n∈dd ks n then dd ks n else ks n::dd ks n
theorem Jhh(ks:Nat->List Int):∀n,(dd ks n).length<=n
 |0=>Aj _
 |n+1=>by
  unfold dd;have:=Jhh ks n;split
  ·lia
  ·simp only[A7];lia
section
variable {prog:Program} {w:World} {A:Bj} {s:Shared} {R:K7->Shared->Prop}
def IK.keep{h h':Heap}(x:IK prog w h k b)(e:∀o,h.get? b=some o->h'.get? b=some o):IK prog w h' k b:=by
 obtain⟨o,its,n,ho,r⟩:=x;exact⟨o,its,n,e o ho,r⟩
def SetT.keep{h h':Heap}(x:SetT prog w h a kb)(e:∀o,h.get? a=some o->h'.get? a=some o):SetT prog w h' a kb:=by
 obtain⟨o,es,ep,t,ho,r,r1,r2,r3⟩:=x;exact⟨o,es,ep,t,e o ho,r,r1,r2,r3⟩
structure Lo(prog:Program)(w:World)(I l S:Addr)(items:Array Value)(ks:Nat->List Int)(i:Nat)(h:Heap)(kb:List (List Int×Addr)):Prop where
 it:h.IsListIter I l i
 li:h.IsList l items
 st:SetT prog w h S kb
 el:∀j v,items[j]? =some v->∃b,v=.ref b/\b≠S/\b≠I/\IK prog w h (ks j) b
 ek:∀x∈kb,x.2≠S/\x.2≠I/\IK prog w h x.1 x.2
 pm:(kb.map (·.1)).Perm (dd ks i)
theorem loop{items:Array Value}{ks:Nat->List Int}(hh:A.in1.handled=none)(hu:A.in1.units<Cw)(h1:l≠I)(h2:S≠I)(h3:S≠l)(hb:items.size<4):
  ∀(k i:Nat) (s:Shared) (kb:List (List Int×Addr)),items.size-i=k->i<=items.size->Lo prog w I l S items ks i s.heap kb->
   (∀h' tk kb',(∀b o,b≠S->b≠I->s.heap.get? b=some o->h'.get? b=some o)->SetT prog w h' S kb'->(kb'.map (·.1)).Perm (dd ks items.size)->R (.ok (.ret .none)) {s with heap:=h',toks:=tk})->
   Ge (model prog w) A (.builtin "set.update.loop" ⟨[.ref S,.ref I],[]⟩) R s:=by
 have W:=Pj (prog:=prog) (w:=w) (A:=A.in1) hh I l h1 items;intro k
 induction k with
 |zero=>
  intro i s kb hk hi L hR;have:i=items.size:=by lia
  subst this;refine C7 O7 ?_;rw[Cv Gs _];show wpAny _ A.in1 (pyNext (.ref I)>>=_) _ _ s;refine Aa (W.done s _ _ ⟨L.it,L.li⟩ λh' tk hm=>?_);exact Ac (hR h' tk kb (λb o _ hI e=>hm b o (by simpa using hI) e) (L.st.keep λo e=>hm S o (by simpa using h2) e) L.pm)
 |succ k ih=>
  intro i s kb hk hi L hR;have hlt:i<items.size:=by lia
  refine C7 O7 ?_;rw[Cv Gs _];show wpAny _ A.in1 (pyNext (.ref I)>>=_) _ _ s;refine Aa (W.item i s _ _ hlt ⟨L.it,L.li⟩ λv h' tk hP hst hm=>?_);obtain⟨b,rfl,b1,b2,b3⟩:=L.el i v hP;have k1:∀c o,c≠I->s.heap.get? c=some o->h'.get? c=some o:=λc o hc e=>hm c o (by simpa using hc) e;have st1:SetT prog w h' S kb:=L.st.keep λo e=>k1 S o h2 e;have el1:∀j v,items[j]? =some v->∃b,v=.ref b/\b≠S/\b≠I/\IK prog w h' (ks j) b:=λj v hv=>by
   obtain⟨c,rfl,c1,c2,c3⟩:=L.el j v hv;exact⟨c,rfl,c1,c2,c3.keep λo e=>k1 c o c2 e⟩
  have ek1:∀x∈kb,x.2≠S/\x.2≠I/\IK prog w h' x.1 x.2:=λx hx=>by
   obtain⟨c1,c2,c3⟩:=L.ek x hx;exact⟨c1,c2,c3.keep λo e=>k1 _ o c2 e⟩
  have hkb:IK prog w h' (ks i) b:=b3.keep λo e=>k1 b o b2 e;have hlen:kb.length<3:=by
   have e1:=L.pm.length_eq;have e2:=Jhh ks i;rw[Ai]at e1
   lia
  show wpAny _ A.in1 (holding [Ap b] (setAdd S (.ref b))>>=_) _ _ _;refine Aa (Bh ?_);unfold setAdd;refine Bh ?_;refine Aa (wpAny_pyHash_tuple (s:={s with heap:=h',toks:=tk}) hu hkb ?_);refine Jvm (s:={s with heap:=h',toks:=tk+((ks i).length+1)}) hu st1 (λx hx=>(ek1 x hx).2.2) hkb hlen (λhin=>?_) (λhin h2' kb' sb S' pm'=>?_)
  ·refine Ac ⟨Fz Gs _,ih (i+1) _ kb (by lia) hlt ⟨hst.1,hst.2,st1,el1,ek1,?_⟩ λh3' tk' kb' hkeep S' p'=>?_⟩
   ·unfold dd;rw[if_pos (L.pm.mem_iff.mp hin)];exact L.pm
   ·exact hR h3' tk' kb' (λc o c1 c2 e=>hkeep c o c1 c2 (k1 c o c2 e)) S' p'
  ·have k2:∀c o,c≠S->h'.get? c=some o->h2'.get? c=some o:=λc o hc e=>by rw[sb.2 c hc];exact e
   refine Ac ⟨Fz Gs _,ih (i+1) _ kb' (by lia) hlt ⟨hst.1.at λo e=>k2 I o (D7 h2) e,hst.2.at λo e=>k2 l o (D7 h3) e,S',λj v hv=>?_,λx hx=>?_,?_⟩ λh3' tk' kb'' hkeep S'' p'=>?_⟩
   ·obtain⟨c,rfl,c1,c2,c3⟩:=el1 j v hv;exact⟨c,rfl,c1,c2,c3.keep λo e=>k2 c o c1 e⟩
   ·rcases An.mp (pm'.mem_iff.mp hx)with rfl|hx
    ·exact⟨b1,b2,hkb.keep λo e=>k2 b o b1 e⟩
    ·obtain⟨c1,c2,c3⟩:=ek1 x hx;exact⟨c1,c2,c3.keep λo e=>k2 _ o c1 e⟩
   ·unfold dd;rw[if_neg λq=>hin (L.pm.mem_iff.mpr q)];exact(pm'.map _).trans (Pq _ L.pm)
   ·exact hR h3' tk' kb'' (λc o c1 c2 e=>hkeep c o c1 c2 (k2 c o c1 (k1 c o c2 e))) S'' p'
variable {E:Value->Shared->Prop}
noncomputable abbrev setO(led:Bool):Obj:={cls:=.type "set",dict:=none,data:=.set #[] 0 (.fresh 0 0 led)}
def Jpy(led:Bool):Tb prog w (.fresh 0 0 led) []:=
 ⟨M1,rfl,rfl,rfl,nofun,by show 0*5<7*3;decide,Ib,nofun⟩
inductive Mad (prog:Program) (w:World) (s:Shared) (ks:Nat->List Int) (n:Nat) (h':Heap):Prop
 |mk (_:(∃kb,SetT prog w h' s.heap.objs.size kb/\(kb.map (·.1)).Perm (dd ks n))) (_:∀b o,b<s.heap.objs.size->s.heap.get? b=some o->h'.get? b=some o):Mad prog w s ks n h'
def Jmx{items:Array Value}{ks:Nat->List Int}(hh:A.handled=none)(hu:A.in1.in1.in1.units<Cw)(hl:s.heap.IsList l items)
  (hi:∀j v,items[j]? =some v->∃b,v=.ref b/\IK prog w s.heap (ks j) b)(hb:items.size<4){P:PySem.Fin->Shared->Prop}
  (h:∀h' tk,Mad prog w s ks items.size h'->P (.done (.ret .none)) {s with heap:=h',toks:=tk}):
  wpAny (model prog w) A.in1.in1 (Builtin.«set.__init__» ⟨[.ref s.heap.objs.size,.ref l],[]⟩) P E {s with heap:=s.heap.push (setO led)}:=by
 obtain⟨ol,hol,hcl,nl,hdl⟩:=id hl;obtain⟨hp,g,d,tk0,os⟩:=s;obtain⟨oc,od,oda,osl⟩:=ol;simp only at hcl hdl hol hl hi h ⊢;subst hcl hdl;have hlS:l<hp.objs.size:=Am hol;have hS:(hp.push (setO led)).get? hp.objs.size=some (setO led):=Ak _ rfl;have hol1:=Ad (setO led) hol;have n1:=PySem.F.sub_list_set;have n2:=PySem.F.sub_list_frozenset;have n3:(Dw "list"==Dw "dict")=false:=by decide
 have hl1:(hp.push (setO led)).IsList l items:=⟨_,hol1,rfl,nl,rfl⟩
 unfold Builtin.«set.__init__» noKeywords Ro;generalize hPI:pyIter=PI
 wp_walk
 subst hPI;refine F1 hl1 (Aa (Og ?_));have hz:(hp.push (setO led)).objs.size=hp.objs.size+1:=Cc ..;have lo:∀{b:Addr} {o:Obj},hp.get? b=some o->b≠hp.objs.size/\b≠(hp.push (setO led)).objs.size:=λe=>by
  have q:=Am e;rw[hz];exact⟨Au q,Au (Jd q)⟩
 have up:∀{b:Addr} {o:Obj} (x:Obj),hp.get? b=some o->((hp.push (setO led)).push x).get? b=some o:=λx e=>Ad _ (Ad _ e);refine loop (ks:=ks) (by simp[hh]) hu (l:=l) (by rw[hz];exact Au (Jd hlS)) (by rw[hz];exact Au (C9 _)) (Cf hlS) hb items.size 0 _ [] (by lia) (Cp _)
  ⟨⟨_,Ak _ rfl,rfl,rfl⟩,hl1.push _,⟨_,#[],0,_,Ad _ hS,⟨rfl,rfl,rfl⟩,rfl,rfl,Jpy led⟩,λj v hv=>?_,nofun,List.Perm.refl _⟩ λh' tk kb' hk S' p'=>?_
 ·obtain⟨b,rfl,x⟩:=hi j v hv;obtain⟨o,its,m,ho,r⟩:=id x;exact⟨b,rfl,(lo ho).1,(lo ho).2,o,its,m,up _ ho,r⟩
 ·show wpAny _ _ _ _ _ _;refine Ac ?_;show wpAny _ _ (ret Cd) _ _ _;exact Ac (h h' tk ⟨⟨kb',S',p'⟩,λb o _ e=>hk b o (lo e).1 (lo e).2 (up _ e)⟩)
theorem Jng{items:Array Value}{ks:Nat->List Int}{Q:Value->Shared->Prop}(hh:A.handled=none)(hu:A.units+9<Cw)(hl:s.heap.IsList l items)
  (hi:∀j v,items[j]? =some v->∃b,v=.ref b/\IK prog w s.heap (ks j) b)(hb:items.size<4)
  (h:∀h' tk,Mad prog w s ks items.size h'->Q (.ref s.heap.objs.size) {s with heap:=h',toks:=tk}):
  wpAny (model prog w) A (call (.type "set") [.ref l]) Q E s:=by
 obtain⟨c,tl,hmro⟩:=Dn.mro;have m1:=Dn.made;have m2:=Dn.sub;have m3:=Dn.notType;have m4:=Dn.canCreate;have m5:=PySem.F.typeCall_set_1 (.ref l);refine Su (codeAny_of_tree ?_);show wpAny _ _ (callAny (.type "set") _) _ _ _;refine Ac ⟨P5 _ (by decide+kernel),C7 PySem.F.entry_type_call ?_⟩;rw[Around.under_plain (weight_type_call_type "set" [.ref l] []) rfl]
 repeat (any_goals (first|assumption|wp_step))
 refine Fo (code_set_new_1 (.ref l) (E:=E) (Q₁:=λx s₁=>∃led,x=.ref s.heap.objs.size/\s₁={s with heap:=s.heap.push (setO led)}) λled=>⟨led,rfl,rfl⟩) λr s₁ hr=>?_;cases r with
 |error e=>exact hr
 |ok fl=>
  cases fl<;>try exact hr.elim
  obtain⟨led,rfl,rfl⟩:=hr;have hS:(s.heap.push (setO led)).get? s.heap.objs.size=some (setO led):=Ak _ rfl;have hT:Er {s with heap:=s.heap.push (setO led)} (.ref s.heap.objs.size) "set":=⟨_,hS,rfl⟩
  have m6:=Dn.init.lookup;have m7:=Dn.init.bind (.ref s.heap.objs.size)
  repeat (any_goals (first|assumption|wp_step))
  refine Fo (codeAny_call_builtin (R:=wants (λr s₂=>r=.none/\∃h' tk,s₂={s with heap:=h',toks:=tk}/\Mad prog w s ks items.size h') E) Dn.init.plain PySem.F.entry_set_init
   (check_set_init_1 hT (Jmx hh (by show A.units+1+1+1<Cw;lia) hl hi hb λh' tk m=>⟨rfl,h',tk,rfl,m⟩))) λr₂ s₂ hr₂=>?_
  cases r₂ with
  |error e=>exact hr₂
  |ok f2=>
   cases f2<;>try exact hr₂.elim
   obtain⟨rfl,h',tk,rfl,m⟩:=hr₂
   repeat (any_goals (first|assumption|wp_step))
   exact h _ _ m
end
end Sbl
namespace Rdc
open PySem
inductive Raw (h:Heap) (d:Addr) (es:Array B8) (ep:Nat):Prop
 |mk (o) (_:h.get? d=some o) (_:o.ExactDict) (_:o.data=.dict es ep):Raw h d es ep
def Raw.keep{h h':Heap}(x:Raw h d es ep)(e:∀o,h.get? d=some o->h'.get? d=some o):Raw h' d es ep:=let⟨o,a,r,r'⟩:=x;⟨o,e o a,r,r'⟩
def Raw.typeIs{s:Shared}(x:Raw s.heap d es ep):s.TypeIs (.ref d) "dict":=let⟨o,a,b,_⟩:=x;⟨o,a,b.1⟩
section
variable {prog:Program} {w:World} {A:Bj} {E:Value->Shared->Prop} {s:Shared} {d it v:Addr} {es:Array B8} {ep i:Nat}
def Jmt{Q:Value->Shared->Prop}(hd:(d==sysModules)=false)(hm:Raw s.heap d es ep)
  (hQ:Q (.ref s.heap.objs.size) {s with heap:=s.heap.push {cls:=.type "dict_keyiterator",data:=.fields #[.ref d,.int 0 0,.int es.size 0,.int ep 0]}}):wpAny (model prog w) A (pyIter (.ref d)) Q E s:=by
 have hT:=hm.typeIs;obtain⟨o,h1,h2,h3⟩:=hm;refine T1 hT Mp (Bn Mp hT F.entry_dict_iter ?_ (F.args_dict_iter_1 _));unfold Builtin.«dict.__iter__» Builtin.Dict.dictSlotNone;refine Aa (Aa (Ep hT (Ac ?_)));unfold Gf;refine Aa (Ac ?_);rw[if_neg (by rw[hd];simp)];exact Aa (Ac (Aa (Bt h1 h3 (Aa (Ec h1 h3 (Aa (Bx (Ac ⟨_,rfl,"dict_keyiterator",_,⟨_,Ak _ rfl,rfl⟩,D9.lookup,hQ⟩))))))))
def Jo9{Q:Option Value->Shared->Prop}(hit:s.heap.IsKeyIter it d i es.size ep)(hm:Raw s.heap d es ep)(hi:i<es.size)
  (hQ:∀h',h'.IsKeyIter it d (i+1) es.size ep->C0 it s.heap h'->Q (some es[i].key) {s with heap:=h'}):wpAny (model prog w) A (pyNext (.ref it)) Q E s:=by
 obtain⟨o,ho,hc,hd⟩:=id hit;obtain⟨q,h1,h2,h3⟩:=hm;unfold pyNext;refine Aa (Fy (B4 (name:=Ab "__next__") hit.typeIs D9 (Bn D9 hit.typeIs Mw ?_ (Mq _))));refine Aa (Ac (Aa (Aa ?_)))
 first|refine Aa (Fh hit.typeIs (Ac ?_))|refine Aa (Gm hit.typeIs (Ac ?_))
 refine Aa (K4 ho hd ?_);simp only[show Dk "dict_keyiterator"=false by decide,Ar,if_false];show wpAny _ _ (if(Ap d==Cd)=true then _ else _) _ _ s;rw[if_neg (show¬((Ap d==Cd)=true)from Az)];refine Aa (Ac (Aa (Bt h1 h3 ?_)));rw[if_neg (by simp)];refine Aa (Ac (Aa (Ec h1 h3 ?_)));rw[if_neg (by simp)];refine Ac ?_;simp only[show¬((i:Int)<0) by omega,if_false,D2,Br hi];refine Aa ?_
 first|refine Aa (Fh hit.typeIs (Ac ?_))|refine Aa (Gm hit.typeIs (Ac ?_))
 refine Aa (Qx hit.typeIs ?_);show wpAny _ _ (Q9 (.ref it) 1 (rawInt ((i:Int)+1))>>=_) _ _ s;refine Aa (Jf ho hd (by simp) ?_);obtain⟨h',hh'⟩:∃h',h'=s.heap.update it (Obj.mapFields (·.setIfInBounds 1 (rawInt ((i:Int)+1)))):=⟨_,rfl⟩
 have hit':h'.IsKeyIter it d (i+1) es.size ep:=by
  rw[hh'];exact⟨_,Cm _ ho (O5 (Ih hd _)),(Qz ..).trans hc,by rw[Ih hd];simp[rawInt]⟩
 rw[<-hh'];refine Aa (Bh (Aa (Qx (s:={s with heap:=h'}) hit'.typeIs ?_)));show wpAny _ _ (pure es[i].key) _ _ _;exact Ac (Ac ⟨_,rfl,Ac (hQ _ hit' (by rw[hh'];exact Cy ..))⟩)
def Juq{Q:Option Value->Shared->Prop}(hh:A.handled=none)(hit:s.heap.IsKeyIter it d i es.size ep)(hm:Raw s.heap d es ep)(hi:es.size<=i)
  (hQ:∀h',O6 it s.heap h'->Q none {s with heap:=h'}):wpAny (model prog w) A (pyNext (.ref it)) Q E s:=by
 obtain⟨o,ho,hc,hd⟩:=id hit;obtain⟨q,h1,h2,h3⟩:=hm;unfold pyNext;refine Aa (Fy (B4 (name:=Ab "__next__") hit.typeIs D9 (Bn D9 hit.typeIs Mw ?_ (Mq _))));refine Aa (Ac (Aa (Aa ?_)))
 first|refine Aa (Fh hit.typeIs (Ac ?_))|refine Aa (Gm hit.typeIs (Ac ?_))
 refine Aa (K4 ho hd ?_);simp only[show Dk "dict_keyiterator"=false by decide,Ar,if_false];show wpAny _ _ (if(Ap d==Cd)=true then _ else _) _ _ s;rw[if_neg (show¬((Ap d==Cd)=true)from Az)];refine Aa (Ac (Aa (Bt h1 h3 ?_)));rw[if_neg (by simp)];refine Aa (Ac (Aa (Ec h1 h3 ?_)));rw[if_neg (by simp)];refine Ac ?_;simp only[show¬((i:Int)<0) by omega,if_false,D2,N7 hi];refine Aa ?_
 first|refine Aa (Fh hit.typeIs (Ac ?_))|refine Aa (Gm hit.typeIs (Ac ?_))
 show wpAny _ _ (Q9 (.ref it) 0 .none>>=_) _ _ s;refine Aa (Jf ho hd (by simp) ?_);show wpAny _ _ (Qg (.type "StopIteration") []>>=_) _ _ _;simp only[Qg,newTuple];refine Aa (Aa (Bx ?_ (by size_fits)));refine Aa (m:=G8 _ _) (Nh (a:=Cd) (by first|rfl|(simp only[G8];rfl)) ?_);refine Bx ?_ (by size_fits);simp only[raiseNew];refine Aa (Ph ?_);rw[show A.in1.handled=none from hh];refine Aa (Ac (Q7 ?_));refine Aa (Du (T:="StopIteration") (b:=true) ⟨_,Ak _ rfl,rfl⟩ Oj ?_);exact Ac (hQ _ (((Cy ..).extBut.push _).push _))
def Jk0(hh:A.handled=none)(I d:Addr)(hne:d≠I)(es:Array B8)(ep:Nat):
  Walks prog w A I [I,d] [I] es.size (λi v=>∃e,es[i]? =some e/\v=e.key) (λi h=>h.IsKeyIter I d i es.size ep/\Raw h d es ep)where
 sub:=λb hb=>by simp at hb;simp[hb]
 frame:=λ_ _ _ st hk=>⟨st.1.at λo e=>hk I (by simp) o e,st.2.keep λo e=>hk d (by simp) o e⟩
 item:=λi s Q E hi st hQ=>Jo9 st.1 st.2 hi λh' hit' hs'=>hQ _ h' s.toks ⟨es[i],Br hi,rfl⟩ ⟨hit',st.2.keep λo e=>by rw[hs'.2 d hne];exact e⟩ λb o hb e=>hs'.extBut b o (λh=>hb (by simp[h])) e
 done:=λs Q E st hQ=>Juq hh st.1 st.2 (Aj _) λh' he'=>hQ h' s.toks λb o hb e=>he' b o (λh=>hb (by simp[h])) e
 self:=λ_ _ _ _ st hQ=>wpAny_pyIter_keyiter st.1 hQ
open PySem.W in
def Jn2(hd:(d==sysModules)=false):KdlSrc prog w "dict" d d es.size (λi v=>∃e,es[i]? =some e/\v=e.key) (λh=>Raw h d es ep)where
 type:=λs x=>x.typeIs
 there:=λh x=>let⟨_,e,_,_⟩:=x;⟨Am e,Am e⟩
 keep:=λh h' x k=>x.keep λo e=>k d (.inl rfl) o e
 notList:=by decide
 notTuple:=by decide
 hint:=λA E s Q x q=>kdl_hint_dict x.typeIs q
 iter:=λA s hh x=>⟨_,_,λE Q q=>Jmt hd x q,Jk0 hh _ d (let⟨_,e,_,_⟩:=x;Au (Am e)) es ep,⟨_,Ak _ rfl,rfl,rfl⟩,x.keep λo e=>Ad _ e⟩
end
section
variable {prog:Program} {w:World} {K:Type} [DecidableEq K] {knd:J2 prog w K} {A:Bj} {E:Value->Shared->Prop} {s:Shared} {d a:Addr} {k:K} {xs:List (K×Addr×Value)}
noncomputable def V7(xs:List (K×Addr×Value))(k:K):List (K×Addr×Value):=xs.filter λx=>decide (x.1≠k)
def Jo5{xs:List (K×Addr×Value)}(h:k∉xs.map (·.1)):V7 xs k=xs:=by
 unfold V7;rw[List.filter_eq_self];intro x hx;have:x.1≠k:=λe=>h (e▸Bg.mpr ⟨x,hx,rfl⟩);simp[this]
theorem Jmf{β:Type}(f:K×Addr×Value->β):∀{xs:List (K×Addr×Value)} {j:Nat} {p:Addr×Value},(xs.map (·.1)).Nodup->xs[j]? =some (k,p)->(xs.map f).eraseIdx j=(V7 xs k).map f
 |[],j,p,_,h=>by simp at h
 |x::r,0,p,hn,h=>by
  simp only[Dy,Hh]at h;subst h;rw[Av,Ci]at hn;have e:V7 ((k,p)::r) k=r:=by
   have:=Jo5 hn.1;unfold V7 at this ⊢;rw[E4,if_neg (by simp)];exact this
  rw[e,Av,List.eraseIdx_cons_zero]
 |x::r,j+1,p,hn,h=>by
  simp only[Bv]at h;rw[Av,Ci]at hn;have hne:x.1≠k:=λe=>hn.1 (e▸Bg.mpr ⟨(k,p),Ba h,rfl⟩);have e:V7 (x::r) k=x::V7 r k:=by
   unfold V7;rw[E4,if_pos (by simpa using hne)]
  rw[e,Av,N6,Jmf f hn.2 h,Av]
def Jgx{p:Addr×Value}{Q:Option B8->Shared->Prop}(hu:knd.room A)(hkey:knd.is s.heap k a)(hm:s.heap.DictOfH knd d xs)(hp:Gi xs k=some p)(hsz:xs.length<=sizeLine)
  (h:∀(c:Addr) h',h'.DictOfH knd d (V7 xs k)->C0 d s.heap h'->Q (some ⟨knd.hash k,.ref c,p.2⟩) {s with heap:=h',toks:=s.toks+knd.draws k}):
  wpAny (model prog w) A (Ma d (.ref a)) Q E s:=by
 obtain⟨o,es,ep,ho,hc,hd,he,his,hn⟩:=hm;unfold Ma
 try with_reducible refine Bh ?_
 refine Aa (knd.pyHash hu hkey ?_);refine Aa (Rx (s:={s with toks:=s.toks+knd.draws k}) hu hkey ho hd he his hn ?_ ?_)
 ·intro hno;rw[Mm hno]at hp;exact nomatch hp
 ·intro j q hj;rw[atKey_of_get hn hj]at hp;cases hp;refine Aa (Bt (s:={s with toks:=s.toks+knd.draws k}) ho hd ?_);rw[Mj he j,hj];refine Aa (wpAny_updateDictKeys (hz:=by have e:=Fu he;lia) (s:={s with toks:=s.toks+knd.draws k}) ho hd (Ac (h _ _ ⟨_,_,ep+1,Cm _ ho (P2 (Hf hd _)),
   hc.mapDictKeys _,Hf hd _,?_,?_,?_⟩ (Cy ..))))
  ·have:=Jmf (entryOfKey knd) hn hj;rw[<-he]at this;obtain⟨l⟩:=es
   simpa using this
  ·intro x hx;exact knd.keeps (his x (Hi.mp hx).1) ho hd (Cy ..)
  ·exact hn.sublist ((Pp).map _)
end
section
variable {prog:Program} {w:World} {K:Type} [DecidableEq K] (knd:J2 prog w K) (d a:Addr)
def Jke:MeetsIn prog w (Builtin.«dict.pop» ⟨[.ref d,.ref a],[]⟩) (λA R s=>knd.room A.in1/\∃k xs p,knd.is s.heap k a/\s.heap.DictOfH knd d xs/\Gi xs k=some p/\xs.length<=sizeLine/\
   ∀h',h'.DictOfH knd d (V7 xs k)->C0 d s.heap h'->R (.ok (.ret p.2)) {s with heap:=h',toks:=s.toks+knd.draws k}):=
 .of_wp λA R s ⟨hu,k,xs,p,hkey,hm,hp,hsz,h⟩=>by
  unfold Builtin.«dict.pop»;refine Aa ?_;unfold Builtin.Dict.keyAndDefault;refine Aa (Ep hm.typeIs ?_);show wpAny _ _ (pure (d,Ap a,none)) _ _ s;refine Ac ?_;obtain⟨o,es,ep,ho,hc,hd,he,_⟩:=id hm;have hne:es.isEmpty=false:=by
   cases xs with
   |nil=>simp[Gi]at hp
   |cons x r=>have:=Fu he;simp at this;simp[Sn,this]
  simp only[show(Mh (Ap a)).isSome=false from rfl,Ar,if_false];refine Aa (Bt ho hd (Aa (Ac ?_)));rw[hne];simp only[Ar,if_false];refine Aa (Jgx hu hkey hm hp hsz λc h' hm' hs'=>?_);simp only[O8,Ar,if_false];exact Aa (Ni (Ac ⟨p.2,rfl,h h' hm' hs'⟩))
end
section
variable {prog:Program} {w:World} {A:Bj} {E:Value->Shared->Prop} {s:Shared} {o:Addr} {es:Array B8} {ep:Nat}
def Jig{Q:Bool->Shared->Prop}(ht:s.TypeIs (.ref k) "tuple")(h:Q false s):wpAny (model prog w) A (Mb (.ref k)) Q E s:=by
 unfold Mb;exact Aa (Ft ht Hw.lookup (Ac h))
def Ya{id:String}{Q:Array B8->Shared->Prop}(hm:Raw s.heap o es ep)(ht:∀e∈es,∃k,e.key=.ref k/\s.TypeIs (.ref k) "tuple")(hq:∀e∈es,(es.filter (·.hash==e.hash)).size<=1)(h:Q es s):
  wpAny (model prog w) A (Kn id o) Q E s:=by
 obtain⟨ob,h1,h2,h3⟩:=hm;unfold Kn;refine Aa (Bt h1 h3 (Aa ?_));show wpAny _ _ (forIn es _ _) _ _ s;rw[<-E7];refine Dg _ (λrest r s'=>s'=s/\∀e∈rest,e∈es) _ ?_ ?_ _ _ ⟨rfl,λe he=>C4.mp he⟩
 ·rintro e rest r s' ⟨rfl,hall⟩;obtain⟨k,ek,tk⟩:=ht e (hall e Bm);rw[ek];refine Aa (Jig tk ?_);simp only[Sm,if_true];rw[if_neg (by have:=hq e (hall e Bm);omega)];exact Ac ⟨rfl,λu hu=>hall u (Ay _ hu)⟩
 ·rintro r s' ⟨rfl,_⟩;exact Ac h
def Jnl{Q:Value->Shared->Prop}(hd:(o==sysModules)=false)(hm:Raw s.heap o es ep)(ht:∀e∈es,∃k,e.key=.ref k/\s.TypeIs (.ref k) "tuple")(hq:∀e∈es,(es.filter (·.hash==e.hash)).size<=1)
  (hz:es.size<=sizeLine)(h:∀h' ep',Raw h' s.heap.objs.size es ep'->C0 s.heap.objs.size (s.heap.push {cls:=.type "dict",data:=.dict #[]}) h'->Q (.ref s.heap.objs.size) {s with heap:=h'}):
  wpAny (model prog w) A (call (.type "dict") [.ref o]) Q E s:=by
 refine callType_codes (Q₁:=λobj s₁=>obj=.ref s.heap.objs.size/\s₁={s with heap:=s.heap.push {cls:=.type "dict",data:=.dict #[]}}) Tj (Qm _) R3 (kt_code_dict_new _ ⟨rfl,rfl⟩) ?_;rintro obj s₁ ⟨rfl,rfl⟩;have hnew:Raw (s.heap.push {cls:=.type "dict",data:=.dict #[]}) s.heap.objs.size #[] 0:=⟨_,Ak _ rfl,⟨rfl,rfl,rfl⟩,rfl⟩
 have ho':Raw (s.heap.push {cls:=.type "dict",data:=.dict #[]}) o es ep:=hm.keep λ_ q=>Ad _ q;have tN:Er {s with heap:=s.heap.push {cls:=.type "dict",data:=.dict #[]}} (.ref s.heap.objs.size) "dict":=Raw.typeIs (s:={s with heap:=s.heap.push {cls:=.type "dict",data:=.dict #[]}}) hnew;have tO:Er {s with heap:=s.heap.push {cls:=.type "dict",data:=.dict #[]}} (.ref o) "dict":=Raw.typeIs (s:={s with heap:=s.heap.push {cls:=.type "dict",data:=.dict #[]}}) ho';have hdo:¬((s.heap.objs.size==o)=true):=by
  obtain⟨_,hg,_⟩:=hm;exact λe=>absurd (Am hg) (by rw[eq_of_beq e];exact Ee _)
 refine⟨tN,Rm _ _,?_⟩;unfold Builtin.«dict.__init__»;refine Aa ?_;unfold Lg;refine Aa (Ep tN ?_);show wpAny _ _ (pure (s.heap.objs.size,[Ap o])) _ _ _;refine Ac ?_;show wpAny _ _ (F0 "dict.__init__" s.heap.objs.size (.ref o) [] .none) _ _ _;unfold F0;refine Aa (Fj tO ?_);rw[if_neg (by decide)];refine Aa ?_;unfold Builtin.Dict.merge;refine Aa ?_;unfold Builtin.Dict.readDirectly;refine Aa (Du tO isSubtype_dict_dict ?_);simp only[Dh,Ar,if_false];refine Aa (Ft tO Mp.lookup (Ac ?_));simp only[beq_self_eq_true,if_true];refine Aa (Ac ?_);obtain⟨ob,h1,h2,h3⟩:=id ho';obtain⟨nb,n1,n2,n3⟩:=id hnew;unfold Builtin.Dict.mergeDict;rw[if_neg hdo];unfold Gf;rw[if_neg (by rw[hd];simp)];refine Aa (Ac (Aa (Bt h1 h3 ?_)))
 by_cases he:es= #[]
 ·have hf:(decide (es.size<=8)&&es.all λe=>(Mh e.key).isSome)=true:=by subst he;simp
  show wpAny _ _ (if(!(decide (es.size<=8)&&es.all λe=>(Mh e.key).isSome))=true then _ else _) _ _ _;rw[hf,if_neg (by simp)];refine Aa (Ec h1 h3 (Aa (Bt h1 h3 (Aa ?_))));subst he;simp only[Ez,Hm];refine Ac (Ac ?_);show wpAny _ _ (Lh s.heap.objs.size []>>=_) _ _ _;exact Aa (Ac (Ac ⟨rfl,h _ _ hnew (M8 _ _)⟩))
 ·have hz0:0<es.size:=Nat.pos_of_ne_zero λq=>he (Array.eq_empty_of_size_eq_zero q);have hf:(decide (es.size<=8)&&es.all λe=>(Mh e.key).isSome)=false:=by
   have:(es.all λe=>(Mh e.key).isSome)=false:=by
    cases q:es.all λe=>(Mh e.key).isSome with
    |false=>rfl
    |true=>
     have q0:=Array.all_eq_true.mp q 0 hz0;obtain⟨k,ek,_⟩:=ht es[0] (Qc _);rw[ek]at q0;cases q0
   rw[this,Kf]
  show wpAny _ _ (if(!(decide (es.size<=8)&&es.all λe=>(Mh e.key).isSome))=true then _ else _) _ _ _;rw[hf,if_pos (by rfl)];refine Aa (Bt n1 n3 ?_);rw[if_pos (by rfl)];refine Aa (Ya ho' (λe q=>let⟨k,ek,o',g,c⟩:=ht e q;⟨k,ek,o',Ad _ g,c⟩) hq ?_);show wpAny _ _ (if(!es.isEmpty)=true then _ else _) _ _ _;rw[if_pos (by simp[Sn];lia)];refine Aa (wpAny_updateDictKeysTo n1 n3 ?_ (by show es.size<=_;lia));refine Ac ?_;show wpAny _ _ (Lh s.heap.objs.size []>>=_) _ _ _;exact Aa (Ac (Ac ⟨rfl,h _ _ ⟨_,Cm _ n1 (P2 (Hf n3 _)),n2.mapDictKeys _,Hf n3 _⟩ (Cy ..)⟩))
end
open PySem PySem.W
section
variable {prog:Program} {w:World} {K:Type} [DecidableEq K] {knd:J2 prog w K} {A:Bj} {E:Value->Shared->Prop} {s:Shared} {a b:Addr} {xa xb:List (K×Addr×Value)}
def Z1{Q:Bool->Shared->Prop}(ha:(a==sysModules)=false)(hb:(b==sysModules)=false)(hu:knd.room A)(da:s.heap.DictOfH knd a xa)(db:s.heap.DictOfH knd b xb)(hl:xa.length=xb.length)
  (hits:∀x∈xa,∃p,Gi xb x.1=some p/\E6 A s x.2.2 p.2 true)(h:Q true s):wpAny (model prog w) A (Lz nm a b) Q E s:=by
 obtain⟨oa,es,ep,hoa,_,hda,hea,hia,hna⟩:=da;obtain⟨ob,es',ep',hob,_,hdb,heb,hib,hnb⟩:=db;have hla:=Fu hea;have hlb:=Fu heb;unfold Lz Gf;rw[if_neg (show¬(a==sysModules)=true by rw[ha];exact Az),if_neg (show¬(b==sysModules)=true by rw[hb];exact Az)];refine Aa (Ac (Aa (Ac ?_)));refine Aa (Bt hoa hda ?_);dsimp only;refine Aa (Bt hob hdb ?_);have hsz:es.size=es'.size:=by lia
 rw[if_neg (by rw[hsz];simp)];refine Aa (Ec hoa hda ?_);refine Aa ?_;rw[Ez];simp only[Hm,Hy,Nat.add_sub_cancel,Nat.div_one];refine Dg _ (λrest q s'=>s'=s/\q=(none,())/\∀i∈rest,i<es.size) _ ?_ ?_ _ _ ⟨rfl,rfl,λi hi=>by simpa using hi⟩
 ·rintro x rest q s' ⟨rfl,rfl,hall⟩;have hlt:x<es.size:=hall x Bm;have hlt':x<xa.length:=by lia
  refine Aa (Bt hoa hda ?_);rw[Br hlt];have he:es[x]=entryOfKey knd xa[x]:=by
   have:=Mj hea x;rw[Br hlt,Ag hlt']at this;exact Bi this
  have hm:xa[x]∈xa:=G6 hlt';obtain⟨p,hp,hv⟩:=hits _ hm;show wpAny _ _ (holding [es[x].key,es[x].val] _>>=_) _ _ _;rw[he];refine Aa (Bh (Aa (Rx hu (hia _ hm) hob hdb heb hib hnb ?_ ?_)))
  ·intro hno;rw[Mm hno]at hp;exact nomatch hp
  ·intro j r hj;rw[atKey_of_get hnb hj]at hp;cases hp;refine Aa (Bt hob hdb ?_);rw[Mj heb j,hj];refine Bh (hv prog w _ _ ?_);show wpAny _ _ (if(!true)=true then _ else _) _ _ _;rw[if_neg (by decide)];refine Aa (Ec hoa hda ?_);rw[if_neg (by simp)];exact Ac ⟨rfl,rfl,λi hi=>hall i (Ay _ hi)⟩
 ·rintro q s' ⟨rfl,rfl,_⟩;exact Ac h
def neH{Q:Value->Shared->Prop}(ha:(a==sysModules)=false)(hb:(b==sysModules)=false)(hu:A.units<Cw)(hr:knd.room A.in1)(da:s.heap.DictOfH knd a xa)(db:s.heap.DictOfH knd b xb)(hl:xa.length=xb.length)
  (hits:∀x∈xa,∃p,Gi xb x.1=some p/\E6 A.in1 s x.2.2 p.2 true)(h:Q (.bool false) s):wpAny (model prog w) A (Dv .NotEq (.ref a) (.ref b)) Q E s:=by
 refine Iq (op:=.NotEq) da.typeIs db.typeIs N1 (Bn N1 da.typeIs PySem.F.entry_dict_ne ?_ (PySem.F.args_dict_ne_2 _ _)) hu;show wpAny _ _ (K9 "__ne__" ⟨[.ref a,.ref b],[]⟩>>=_) _ _ s;refine Aa ?_;unfold K9;refine Aa (Ep da.typeIs ?_);show wpAny _ _ (pure (Ap a,Ap b)) _ _ s;refine Ac ?_;refine Aa (Du (T:="dict") db.typeIs PySem.F.sub_dict_dict ?_);simp only[Dh,Ar,if_false];refine Aa (Ac (Aa (Ac ?_)));refine Aa (Z1 ha hb hr da db hl hits ?_);refine Ac ⟨_,rfl,?_,?_⟩
 ·exact λx=>nomatch x
 ·simpa using h
end
end Rdc
namespace Rdu
open PySem PyProof.Rows PySem.W Rdc
abbrev PK:=Int×Int
noncomputable def ltP(a b:PK):Bool:=LR.ltZ a.1 a.2 b.1 b.2
def Vs{a b:PK}:ltP a b=true↔a.1<b.1\/(a.1=b.1/\a.2<b.2):=by simp[ltP,LR.ltZ]
section
variable {prog:Program} {w:World} {A:Bj} {E:Value->Shared->Prop} {s:Shared}
abbrev IK2(prog:Program)(w:World)(h:Heap)(k:PK)(b:Addr):Prop:=Ti (intKind prog w) h [k.1,k.2] b
theorem Jdu{k:PK}{items:Array Value}(h:ItemsAre (intKind prog w) [k.1,k.2] items.toList):∃t u,items= #[.int k.1 t,.int k.2 u]:=by
 obtain⟨l⟩:=items;simp only at h;cases h with
 |cons h1 h'=>
  cases h' with
  |cons h2 h''=>
   cases h'';obtain⟨t,rfl⟩:=Im h1;obtain⟨u,rfl⟩:=Im h2;exact⟨t,u,rfl⟩
def Jpc{Q:Bool->Shared->Prop}(hx:IK2 prog w s.heap k x)(hy:IK2 prog w s.heap l y)(h:Q (ltP k l) s):wpAny (model prog w) A (keyLt' (tuples' b) (.ref x) (.ref y)) Q E s:=by
 obtain⟨ox,xs,n,h1,_,h2,h3⟩:=hx;obtain⟨oy,ys,m,g1,_,g2,g3⟩:=hy;obtain⟨t,u,rfl⟩:=Jdu h3;obtain⟨t',u',rfl⟩:=Jdu g3;have one:∀(c:Bool) {a d:Int} {t u:Tok} {Q:Bool->Shared->Prop},Q (decide (a<d)) s->wpAny (model prog w) A (oneLt' c (.int a t) (.int d u)) Q (λ_ _=>False) s:=λc {a d t u Q} h=>by
  cases c with
  |true=>exact oneLt_int h
  |false=>exact kat_one _ _ (show wpAny (model prog w) A (Rb .Lt (.int a t) (.int d u)) _ _ s from LR.int_lt h)
 refine kat_lt h1 h2 g1 g2 (kat_cons (Hl ?_))
 by_cases e1:k.1=l.1
 ·rw[e1,beq_self_eq_true];refine kat_yes (kat_cons (Hl ?_))
  by_cases e2:k.2=l.2
  ·rw[e2,beq_self_eq_true];refine kat_yes (kat_nil ?_);have:ltP k l=false:=by simp[ltP,LR.ltZ,e1,e2]
   rw[this]at h;exact h
  ·rw[beq_eq_false_iff_ne.mpr e2];refine kat_no (one _ ?_);have:ltP k l=decide (k.2<l.2):=by simp[ltP,LR.ltZ,e1]
   rw[this]at h;exact h
 ·rw[beq_eq_false_iff_ne.mpr e1];refine kat_no (one _ ?_);have:ltP k l=decide (k.1<l.1):=by simp[ltP,LR.ltZ,e1]
  rw[this]at h;exact h
def IK2.keep{h h':Heap}(x:IK2 prog w h k b)(e:∀o,h.get? b=some o->h'.get? b=some o):IK2 prog w h' k b:=by
 obtain⟨o,its,n,ho,r⟩:=x;exact⟨o,its,n,e o ho,r⟩
def Jki{pk:Value->PK}{vs:List Value}{Q:Oz->Shared->Prop}(hne:0<vs.length)(hv:∀v∈vs,∃b,v=.ref b/\IK2 prog w s.heap (pk v) b)(h:Q (tuples' true) s):wpAny (model prog w) A (keyKind' vs.toArray) Q E s:=by
 have:∀vs:List Value,(∀v∈vs,∃b,v=.ref b/\IK2 prog w s.heap (pk v) b)->∃fs,KatTups s.heap vs fs/\fs.length=vs.length/\∀f∈fs,∃i t,f=Dr i t:=by
  intro vs
  induction vs with
  |nil=>intro _;exact⟨[],trivial,rfl,nofun⟩
  |cons v vs ih=>
   intro hv;obtain⟨fs,h1,h2,h3⟩:=ih λv h=>hv v (.tail _ h);obtain⟨b,rfl,o,its,n,g1,g2,g3,g4⟩:=hv v (.head _);obtain⟨t,u,rfl⟩:=Jdu g4;refine⟨_::fs,Ri g1 g2 g3 rfl h1,by simp[h2],λf hf=>?_⟩;rcases An.mp hf with rfl|hf
   ·exact⟨_,_,rfl⟩
   ·exact h3 f hf
 obtain⟨fs,h1,h2,h3⟩:=this vs hv;refine kat_kind (T:=.type "int") h1 (by lia) (λv hv=>?_) (by decide) (by rw[show(Dw "int" !=Dw "tuple")=true by decide];exact h);obtain⟨i,t,rfl⟩:=h3 v hv;exact .now
def Ji2(l:List Value):((l.toArray.zip l.toArray).map (·.2))=l.toArray:=by
 apply Array.toList_inj.mp;simp[List.map_snd_zip]
def Jk7{vs:List Value}{P:PySem.Fin->Shared->Prop}(ho:s.heap.get? a=some (seqObj "list" vs.toArray n))(hz:vs.length<sizeLine)
  (kind:∀h1:Heap,(∀b o,b≠a->s.heap.get? b=some o->h1.get? b=some o)->2<=vs.length->∀Q:Oz->Shared->Prop,Q κ {s with heap:=h1}->wpAny (model prog w) A (keyKind' vs.toArray) Q E {s with heap:=h1})
  (up:∀h1:Heap,(∀b o,b≠a->s.heap.get? b=some o->h1.get? b=some o)->∀(i:Nat) (x y:Value),vs[i+1]? =some x->vs[i]? =some y->∀Q:Bool->Shared->Prop,Q false {s with heap:=h1}->wpAny (model prog w) A (keyLt' κ x y) Q (λ_ _=>False) {s with heap:=h1})
  (h:P (.done (.ret .none)) {s with heap:=sortedHeap s.heap a vs vs.toArray}):wpAny (model prog w) A (Builtin.«list.sort» ⟨[.ref a],[]⟩) P E s:=by
 rw[list_sort_plain];have ha:a<s.heap.objs.size:=Am ho;refine Aa (listItems_at ho rfl (Aa (Pn ho rfl ?_ (by simp;lia) (by simp))));obtain⟨e1,ho1⟩:∃e1,(s.heap.update a (Dj λ_=> #[])).get? a=some (seqObj "list" #[] e1):=⟨_,get?_update_seq ho (λ_=> #[])⟩
 refine Aa (Rp ho1 rfl (Aa (Oh ?_ (by show vs.length<=_;lia))));refine Aa (Lv ?_ (Cp _));refine Bh ?_;obtain⟨h1,eh⟩:∃h1,h1=((s.heap.update a (Dj λ_=> #[])).push (seqObj "tuple" vs.toArray 0)).push (seqObj "list" #[] 0):=⟨_,rfl⟩
 have oth:∀{b:Addr} {o:Obj},b≠a->s.heap.get? b=some o->h1.get? b=some o:=λ{b o} hb e=>by
  rw[eh];exact Ad _ (Ad _ ((Heap.get?_update_ne _ _ _ _ hb).trans e))
 have ho6:h1.get? a=some (seqObj "list" #[] e1):=by rw[eh];exact Ad _ (Ad _ ho1)
 have es:∀out:Array Value,h1.update a (Dj λ_=>out)=sortedHeap s.heap a vs out:=λout=>by rw[eh];rfl
 show wpAny (model prog w) A _ P E {s with heap:=((s.heap.update a (Dj λ_=> #[])).push (seqObj "tuple" vs.toArray 0)).push (seqObj "list" #[] 0)};rw[<-eh];dsimp only;have hsz:vs.toArray.size=vs.length:=by simp
 have oth':∀b o,b≠a->s.heap.get? b=some o->h1.get? b=some o:=λb o hb e=>oth hb e
 by_cases h2:vs.toArray.size<2
 ·rw[if_pos h2,if_pos h2];refine Aa (Ac ?_);rw[StateT.run_pure];refine Aa (Ac ?_);dsimp only;rw[show(Ue (Ug general' (vs.toArray.zip vs.toArray) #[] 7 none)).map (·.2)=vs.toArray from Ji2 vs];refine Aa (Rp ho6 rfl (Aa (Pn ho6 rfl ?_ (Cp _) (by show vs.toArray.size<=_;lia))));simp only[bne_self_eq_false,Ar,if_false];refine Ac ?_;show P _ {s with heap:=h1.update a (Dj λ_=>vs.toArray)};rw[es];exact h
 ·rw[if_neg h2,if_neg h2];refine Aa (kind h1 oth' (by lia) _ ?_);have hA:Sre.Ys (model prog w) A {s with heap:=h1} κ (vs.toArray.zip vs.toArray):=λi x y hx hy Q q=>by
   have ez:∀j:Nat,∀z:Keyed,(vs.toArray.zip vs.toArray)[j]? =some z->vs[j]? =some z.1:=λj z hz=>by
    rw[<-Dp]at hz;have hz:(vs.zip vs)[j]? =some z:=by simpa using hz
    rw[Nd]at hz;exact hz.1
   exact up h1 oth' i x.1 y.1 (ez _ _ hx) (ez _ _ hy) Q q
  have hzz:(vs.toArray.zip vs.toArray).size=vs.length:=by simp
  refine Aa (B3 (Sre.Jj6 (a:=vs.toArray.zip vs.toArray) (st:=Ug κ (vs.toArray.zip vs.toArray) #[] 7 none)
   (Q:=λ_ st'=>Ue st'=vs.toArray.zip vs.toArray/\failedOf st'=none) hA rfl rfl rfl rfl (by lia) λst' a1 a2=>⟨a1,a2⟩) ?_ λ_ _ e=>e)
  rintro⟨⟨⟩,st'⟩ s' ⟨rfl,ha,hf⟩;dsimp only;rw[ha,Ji2];refine Aa (Rp ho6 rfl (Aa (Pn ho6 rfl ?_ (Cp _) (by show vs.toArray.size<=_;lia))));rw[hf];simp only[bne_self_eq_false,Ar,if_false];refine Ac ?_;show P _ {s with heap:=h1.update a (Dj λ_=>vs.toArray)};rw[es];exact h
def Jne{Pi:Nat->Value->Prop}{OK:Heap->Prop}{R:K7->Shared->Prop}(K:KdlSrc prog w T r d n Pi OK)(hh:A.handled=none)(hok:OK s.heap)(hn:n<=sizeLine)(h1:S≠r)(h2:S≠d)(hS:s.heap.get? S=some {cls:=.type "list",data:=.seq #[] 0})
  (h:∀h' tk acc c,(∀b o,b≠S->s.heap.get? b=some o->h'.get? b=some o)->h'.get? S=some {cls:=.type "list",dict:=none,data:=.seq acc c,slots:= #[]}->ItemsOf Pi acc n->R (.ok (.ret (.ref S))) {s with heap:=h',toks:=tk}):
  Ge (model prog w) A (.builtin "list.__iadd__" ⟨[.ref S,.ref r],[]⟩) R s:=by
 refine C7 entry_list_iadd' ?_;rw[Cv (show plainId "list.__iadd__"=true by decide+kernel) _];exact kdl_extend (R:=R) K hh hok S h1 h2 (.ref S) 0 hS h hn
def Jiu{Pi:Nat->Value->Prop}{OK:Heap->Prop}{Q:List Value->Shared->Prop}(K:KdlSrc prog w T r d n Pi OK)(hh:A.handled=none)(hok:OK s.heap)(hn:n<=sizeLine)
  (h:∀h' tk (acc:Array Value),(∀b o,s.heap.get? b=some o->h'.get? b=some o)->h'.objs.size≥s.heap.objs.size->ItemsOf Pi acc n->Q acc.toList {s with heap:=h',toks:=tk}):wpAny (model prog w) A (collect (.ref r)) Q E s:=by
 unfold collect;refine Aa (Og (C7 Rq ?_));show wpAny _ _ (do again (.builtin "list.__iadd__" ⟨[<-newList [],.ref r],[]⟩)) _ _ s;have hS:(s.heap.push (seqObj "list" #[] 0)).get? s.heap.objs.size=some (seqObj "list" #[] 0):=Ak _ rfl;obtain⟨lr,ld⟩:=K.there _ hok;refine Aa (Lv (Ac ⟨P5 _ (by decide+kernel),Jne (s:={s with heap:=s.heap.push (seqObj "list" #[] 0)}) K hh (K.keep _ _ hok λb _ o e=>Ad _ e) hn (Cf lr) (Cf ld) hS
  λh' tk acc c kp hS' it=>?_⟩))
 have kp':∀b o,s.heap.get? b=some o->h'.get? b=some o:=λb o e=>kp b o (Au (Am e)) (Ad _ e);show wpAny (model prog w) A (do
   let o<-load s.heap.objs.size
   match o.data with
   |.seq xs _=>pure xs.toList
   |_=>unsupported "internal:collect") Q E {s with heap:=h',toks:=tk}
 refine Aa (L5 hS' ?_);exact Ac (h h' tk acc kp' (Ed (Am hS')) it)
def Je2{Pi:Nat->Value->Prop}{OK:Heap->Prop}{Q:Value->Shared->Prop}(K:KdlSrc prog w T r d n Pi OK)(hh:A.handled=none)(hok:OK s.heap)(hn:n<sizeLine)
  (kind:∀(vs:List Value) (h1:Heap) (t:Nat),vs.length=n->(∀(i:Nat) (v:Value),vs[i]? =some v->Pi i v)->(∀b o,s.heap.get? b=some o->h1.get? b=some o)->2<=n->∀(A':Bj) (E':Value->Shared->Prop) (Q:Oz->Shared->Prop),Q κ {s with heap:=h1,toks:=t}->wpAny (model prog w) A' (keyKind' vs.toArray) Q E' {s with heap:=h1,toks:=t})
  (up:∀(h1:Heap) (t:Nat),(∀b o,s.heap.get? b=some o->h1.get? b=some o)->∀(i:Nat) (x y:Value),Pi (i+1) x->Pi i y->∀(A':Bj) (Q:Bool->Shared->Prop),Q false {s with heap:=h1,toks:=t}->wpAny (model prog w) A' (keyLt' κ x y) Q (λ_ _=>False) {s with heap:=h1,toks:=t})
  (h:∀(h':Heap) (tk:Nat) (l:Addr) (c:Nat) (vs:List Value),(∀b o,s.heap.get? b=some o->h'.get? b=some o)->s.heap.objs.size<=l->h'.get? l=some (seqObj "list" vs.toArray c)->vs.length=n->(∀(i:Nat) (v:Value),vs[i]? =some v->Pi i v)->
   Q (.ref l) {s with heap:=h',toks:=tk}):
  wpAny (model prog w) A (call (.builtin "sorted") [.ref r]) Q E s:=by
 refine My kind_sorted plain_sorted entry_sorted (args_sorted1 _) ?_;unfold Builtin.«sorted»;refine Aa (m:=checkCount "sorted" 1 1 _) (Ac ?_);refine Aa (Jiu K (by simp[hh]) hok (Ed hn) λh' tk acc kp hsz it=>?_);have hlen:acc.toList.length=n:=by rw[By];exact it.1
 have hpi:∀(i:Nat) (v:Value),acc.toList[i]? =some v->Pi i v:=λi v e=>it.2 i v (by rw[<-Dp];exact e);refine Aa (Lv ?_ (by rw[hlen];lia));have ho:(h'.push (seqObj "list" acc.toList.toArray 0)).get? h'.objs.size=some (seqObj "list" acc.toList.toArray 0):=Ak _ rfl;have kp2:∀b o,s.heap.get? b=some o->b≠h'.objs.size/\(h'.push (seqObj "list" acc.toList.toArray 0)).get? b=some o:=λb o e=>
  ⟨Au (Bf (Am e) hsz),Ad _ (kp b o e)⟩
 refine Aa (Bh (Bn Ob ⟨_,ho,rfl⟩ N2 (Jk7 (s:={s with heap:=h'.push (seqObj "list" acc.toList.toArray 0),toks:=tk}) (κ:=κ) ho (by rw[hlen];exact hn)
  (λh1 k1 z Q q=>kind _ h1 tk hlen hpi (λb o e=>k1 b o (kp2 b o e).1 (kp2 b o e).2) (by lia) _ _ Q q) (λh1 k1 i x y ex ey Q q=>up h1 tk (λb o e=>k1 b o (kp2 b o e).1 (kp2 b o e).2) i x y (hpi _ _ ex) (hpi _ _ ey) _ Q q) ⟨_,rfl,?_⟩) (args_list_sort _)))
 obtain⟨c,hc⟩:=sortedHeap_at (out:=acc.toList.toArray) ho;refine Ac ⟨_,rfl,h _ _ _ c acc.toList (λb o e=>?_) hsz hc hlen hpi⟩;obtain⟨k1,k2⟩:=kp2 b o e;rw[sortedHeap_old k1 (Am k2)];exact k2
end
noncomputable def itO(own:Value)(f:Bool)(d:Addr)(i n ep:Nat)(ok ov:Value):Obj:={cls:=.type "dict_itemiterator",dict:=none,data:=.fields #[own,.bool f,.ref d,.int i 0,.int n 0,.int ep 0,ok,ov],slots:= #[]}
inductive ItSt (h:Heap) (it d:Addr) (i n ep:Nat):Prop
 |mk (own f ok ov) (_:h.get? it=some (itO own f d i n ep ok ov)) (_:(own=.none\/∃(a:Nat) (oa:Obj),own=rawInt a/\h.get? a=some oa/\a≠it)):ItSt h it d i n ep
section
variable {prog:Program} {w:World} {A:Bj} {E:Value->Shared->Prop} {s:Shared} {it d:Addr} {es:Array B8} {ep i:Nat}
def next_item{Q:Option Value->Shared->Prop}(hst:ItSt s.heap it d i es.size ep)(hm:Raw s.heap d es ep)(hi:i<es.size)
  (hQ:∀h',ItSt h' it d (i+1) es.size ep->h'.get? s.heap.objs.size=some {cls:=.type "tuple",data:=.seq #[es[i].key,es[i].val]}->h'.objs.size=s.heap.objs.size+1->
   (∀b o,b≠it->s.heap.get? b=some o->h'.get? b=some o)->Q (some (.ref s.heap.objs.size)) {s with heap:=h'}):wpAny (model prog w) A (pyNext (.ref it)) Q E s:=by
 obtain⟨hp,g,dr,tk,os⟩:=s;obtain⟨own,f,ok,ov,hit,hown⟩:=hst;obtain⟨od,hod,_,hdd⟩:=hm;have hT:Er ⟨hp,g,dr,tk,os⟩ (.ref it) "dict_itemiterator":=⟨_,hit,rfl⟩
 unfold pyNext;refine Aa (Fy (B4 (name:=Ab "__next__") hT C1 (Bn C1 hT J3 ?_ (Jv _))));refine Aa (Ac (Aa (Aa ?_)))
 first|refine Aa (Fb hT (Ac ?_))|refine Aa (Gh hT (Ac ?_))
 refine Aa (K4 hit rfl ?_);simp only[show Dk "dict_itemiterator"=true by decide,if_true];show wpAny _ _ (if(Ap d==Cd)=true then _ else _) _ _ _;rw[if_neg (show¬((Ap d==Cd)=true)from Az)];refine Aa (Ac (Aa (Bt hod hdd ?_)));rw[if_neg (by simp)];refine Aa (Ac (Aa (Ec hod hdd ?_)));rw[if_neg (by simp)];refine Ac ?_;simp only[show¬((i:Int)<0) by lia,if_false,D2,Br hi];refine Aa ?_
 first|refine Aa (Fb hT (Ac ?_))|refine Aa (Gh hT (Ac ?_))
 refine Aa (Kg hT ?_);show wpAny _ _ (Q9 (.ref it) 3 (rawInt ((i:Int)+1))>>=_) _ _ ⟨hp,g,dr,tk,os⟩;refine Aa (Cj hit (by simp) λh₁ he₁ hs₁=>?_)
 replace hs₁:C0 it hp h₁:=hs₁
 replace he₁:h₁.get? it=some (itO own f d (i+1) es.size ep ok ov):=by
  unfold itO;rw[show((i+1:Nat):Int)=(i:Int)+1 by lia];simpa [rawInt]using he₁
 have hT₁:Er ⟨h₁,g,dr,tk,os⟩ (.ref it) "dict_itemiterator":=⟨_,he₁,rfl⟩
 refine Aa (Bh (Aa (Kg hT₁ (Aa (Kg hT₁ ?_)))));show wpAny _ _ (Jb (.ref it) 6 es[i].key es[i].val) _ _ ⟨h₁,g,dr,tk,os⟩;unfold Jb;refine Aa (Oh ?_);obtain⟨h₂,hh₂⟩:∃h₂,h₂=h₁.push {cls:=.type "tuple",data:=.seq #[es[i].key,es[i].val]}:=⟨_,rfl⟩
 have he₂:h₂.get? it=some (itO own f d (i+1) es.size ep ok ov):=by rw[hh₂];exact Ad _ he₁
 have hz₁:h₁.objs.size=hp.objs.size:=hs₁.1;have hil:hp.objs.size≠it:=Cf (Am hit);have ht₂:h₂.get? hp.objs.size=some {cls:=.type "tuple",data:=.seq #[es[i].key,es[i].val]}:=by rw[hh₂,<-hz₁];exact Ak _ rfl
 have hz₂:h₂.objs.size=hp.objs.size+1:=by rw[hh₂,Cc,hz₁]
 have hk₂:∀b o,b≠it->hp.get? b=some o->h₂.get? b=some o:=λb o hb e=>by rw[hh₂];exact Ad _ (hs₁.extBut b o hb e)
 have fin:∀(h₃:Heap) (own':Value) (f':Bool) (ok' ov':Value),h₃.get? it=some (itO own' f' d (i+1) es.size ep ok' ov')->C0 it h₂ h₃->(own'=.none\/∃(a:Nat) (oa:Obj),own'=rawInt a/\h₂.get? a=some oa/\a≠it)->Q (some (.ref hp.objs.size)) ⟨h₃,g,dr,tk,os⟩:=λh₃ own' f' ok' ov' e₃ s₃ o₃=>
  hQ h₃ ⟨own',f',ok',ov',e₃,o₃.imp id λ⟨a,oa,q1,q2,q3⟩=>⟨a,oa,q1,s₃.extBut _ _ q3 q2,q3⟩⟩ (s₃.extBut _ _ hil ht₂) (by show h₃.objs.size=hp.objs.size+1;rw[s₃.1,hz₂]) λb o hb e=>s₃.extBut b o hb (hk₂ b o hb e)
 show wpAny _ _ (Ij (.ref it)>>=_) _ _ ⟨h₁.push {cls:=.type "tuple",data:=.seq #[es[i].key,es[i].val]},g,dr,tk,os⟩;rw[<-hh₂,hz₁];refine Aa ?_;unfold Ij;rcases hown with rfl|⟨a,oa,rfl,ha,hai⟩
 ·refine Aa (B7 he₂ rfl (x:=.none) rfl (Ac ?_));simp only[if_true];refine Aa (B7 he₂ rfl (x:=ok) rfl (Aa (B7 he₂ rfl (x:=ov) rfl ?_)));refine Aa (Cj he₂ (by simp) λh₃ he₃ hs₃=>?_)
  replace he₃:h₃.get? it=some (itO .none f d (i+1) es.size ep es[i].key ov):=he₃
  refine Aa (Cj he₃ (by simp) λh₄ he₄ hs₄=>?_)
  replace he₄:h₄.get? it=some (itO .none f d (i+1) es.size ep es[i].key es[i].val):=he₄
  refine Aa (Cj he₄ (by simp) λh₅ he₅ hs₅=>?_)
  replace he₅:h₅.get? it=some (itO (rawInt hp.objs.size) f d (i+1) es.size ep es[i].key es[i].val):=he₅
  refine Aa (Cj he₅ (by simp) λh₆ he₆ hs₆=>?_);exact Aa (Ni (Ac (Ac ⟨_,rfl,Ac (fin h₆ _ false _ _ he₆ (((hs₃.trans hs₄).trans hs₅).trans hs₆) (.inr ⟨_,_,rfl,ht₂,hil⟩))⟩)))
 ·refine Aa (B7 he₂ rfl (x:=rawInt a) rfl ?_);show wpAny _ _ (loadIfAlive ((a:Int).toNat)>>=_) _ _ _;rw[D2];refine Aa (kdx_alive (hk₂ a oa hai ha) ?_);simp only[O8,Ar,if_false];refine Aa (B7 he₂ rfl (x:=.bool f) rfl ?_);cases f with
  |true=>
   rw[if_neg (show¬((Ht true !=Ht true)=true)from Az)];refine Ac ?_;simp only[Ar,if_false];exact Ac (Ac ⟨_,rfl,Ac (fin h₂ _ _ _ _ he₂ (M8 _ _) (.inr ⟨a,oa,rfl,hk₂ a oa hai ha,hai⟩))⟩)
  |false=>
   rw[if_pos (show(Ht false !=Ht true)=true from rfl)];refine Aa (Cj he₂ (by simp) λh₃ he₃ hs₃=>?_);refine Ac ?_;simp only[Ar,if_false];exact Ac (Ac ⟨_,rfl,Ac (fin h₃ _ true _ _ he₃ hs₃ (.inr ⟨a,oa,rfl,hk₂ a oa hai ha,hai⟩))⟩)
def Jpz{Q:Option Value->Shared->Prop}(hh:A.handled=none)(hst:ItSt s.heap it d i es.size ep)(hm:Raw s.heap d es ep)(hi:es.size<=i)
  (hQ:∀h',O6 it s.heap h'->Q none {s with heap:=h'}):wpAny (model prog w) A (pyNext (.ref it)) Q E s:=by
 obtain⟨own,f,ok,ov,hit,_⟩:=hst;obtain⟨od,hod,_,hdd⟩:=hm;have hT:s.TypeIs (.ref it) "dict_itemiterator":=⟨_,hit,rfl⟩
 unfold pyNext;refine Aa (Fy (B4 (name:=Ab "__next__") hT C1 (Bn C1 hT J3 ?_ (Jv _))));refine Aa (Ac (Aa (Aa ?_)))
 first|refine Aa (Fb hT (Ac ?_))|refine Aa (Gh hT (Ac ?_))
 refine Aa (K4 hit rfl ?_);simp only[show Dk "dict_itemiterator"=true by decide,if_true];show wpAny _ _ (if(Ap d==Cd)=true then _ else _) _ _ s;rw[if_neg (show¬((Ap d==Cd)=true)from Az)];refine Aa (Ac (Aa (Bt hod hdd ?_)));rw[if_neg (by simp)];refine Aa (Ac (Aa (Ec hod hdd ?_)));rw[if_neg (by simp)];refine Ac ?_;simp only[show¬((i:Int)<0) by lia,if_false,D2,N7 hi];refine Aa ?_
 first|refine Aa (Fb hT (Ac ?_))|refine Aa (Gh hT (Ac ?_))
 show wpAny _ _ (Q9 (.ref it) 2 .none>>=_) _ _ s;refine Aa (Jf hit rfl (by simp) ?_);show wpAny _ _ (Qg (.type "StopIteration") []>>=_) _ _ _;simp only[Qg,newTuple];refine Aa (Aa (Bx ?_ (by size_fits)));refine Aa (m:=G8 _ _) (Nh (a:=Cd) (by first|rfl|(simp only[G8];rfl)) ?_);refine Bx ?_ (by size_fits);simp only[raiseNew];refine Aa (Ph ?_);rw[show A.in1.handled=none from hh];refine Aa (Ac (Q7 ?_));refine Aa (Du (T:="StopIteration") (b:=true) ⟨_,Ak _ rfl,rfl⟩ Oj ?_);exact Ac (hQ _ (((Cy ..).extBut.push _).push _))
end
noncomputable def Wy(e:B8):Obj:={cls:=.type "tuple",data:=.seq #[e.key,e.val]}
structure ItG(es:Array B8)(lo:Addr)(h:Heap)(as:List Addr):Prop where
 above:∀a∈as,lo<a
 pairs:∀(j:Nat) (a:Addr),as[j]? =some a->∃e,es[j]? =some e/\h.get? a=some (Wy e)
section
variable {prog:Program} {w:World} {A:Bj} {E:Value->Shared->Prop} {s:Shared} {r d:Addr} {es:Array B8} {ep:Nat} {R:K7->Shared->Prop}
def ItSt.keep{h h':Heap}(x:ItSt h it d i n ep)(k:h'.get? it=h.get? it)(k':∀b o,h.get? b=some o->∃o',h'.get? b=some o'):ItSt h' it d i n ep:=by
 obtain⟨own,f,ok,ov,e,o⟩:=x;refine⟨own,f,ok,ov,k.trans e,o.imp id λ⟨a,oa,q1,q2,q3⟩=>?_⟩;obtain⟨o',e'⟩:=k' a oa q2;exact⟨a,o',q1,e',q3⟩
theorem Jkm(hh:A.handled=none)(hSI:S<I)(hSd:d≠S)(hId:d≠I)(hn:es.size<=sizeLine)(res:Value){h₁:Heap}
  (hR:∀h' acc c as,(∀b o,b≠S->b≠I->h₁.get? b=some o->h'.get? b=some o)->h'.get? S=some {cls:=.type "list",dict:=none,data:=.seq acc c,slots:= #[]}->as.length=es.size->ItG es I h' as->acc.toList=as.map Ap->R (.ok (.ret res)) {s with heap:=h'}):
  ∀(k i:Nat) (h:Heap) (c:Nat) (acc:Array Value) (as:List Addr),es.size-i=k->i<=es.size->ItSt h I d i es.size ep->Raw h d es ep->(∀b o,b≠S->b≠I->h₁.get? b=some o->h.get? b=some o)->
   h.get? S=some {cls:=.type "list",dict:=none,data:=.seq acc c,slots:= #[]}->acc.toList=as.map Ap->as.length=i->ItG es I h as->I<h.objs.size->
   Ge (model prog w) A (.builtin "list.extend.loop" ⟨[.ref S,.ref I,res],[]⟩) R {s with heap:=h}:=by
 have hne:S≠I:=Au hSI;intro k
 induction k with
 |zero=>
  intro i h c acc as hk hi hst hD hkeep hS hacc hal hG hIs;refine C7 L9 ?_;rw[Cv Eh _];show wpAny _ A.in1 (pyNext (.ref I)>>=_) _ _ _;refine Aa (Jpz (s:={s with heap:=h}) (A:=A.in1) hh hst hD (by lia) λh' he=>?_);refine Ac (hR h' acc c as (λb o h1 h2 e=>he b o h2 (hkeep b o h1 h2 e)) (he S _ hne hS) (by lia) ⟨hG.above,λj a hj=>?_⟩ hacc);obtain⟨e,e1,e2⟩:=hG.pairs j a hj;exact⟨e,e1,he a _ (Cf (hG.above a (Ba hj))) e2⟩
 |succ k ih=>
  intro i h c acc as hk hi hst hD hkeep hS hacc hal hG hIs;have hlt:i<es.size:=by lia
  have hsz:acc.size=i:=by rw[<-By,hacc,Ai,hal]
  refine C7 L9 ?_;rw[Cv Eh _];show wpAny _ A.in1 (pyNext (.ref I)>>=_) _ _ _;refine Aa (next_item (s:={s with heap:=h}) hst hD hlt λh' hst' ht hz hkp=>?_);dsimp only at ht hz hkp ⊢;have hS':=hkp S _ hne hS;have up:∀b o,b≠S->h'.get? b=some o->(h'.update S (Dj (·.push (Ap h.objs.size)))).get? b=some o:=λb o hb e=>(Ea _ _ (D7 hb)).trans e;have hSl:S<h.objs.size:=Am hS;have hS2:=Cm (Dj (·.push (Ap h.objs.size))) hS' rfl;show wpAny _ A.in1 (updateSeq S (·.push (Ap h.objs.size))>>=_) _ _ _;refine Aa ?_;refine Nx hS' rfl (Ac ⟨Fz Eh _,ih (i+1) _ _ (acc.push (Ap h.objs.size)) (as++[h.objs.size]) (by lia) hlt
   (hst'.keep (Ea _ _ hne) λb o e=>?_) (hD.keep λo e=>up d o hSd (hkp d o hId e))
   (λb o h1 h2 e=>up b o h1 (hkp b o h2 (hkeep b o h1 h2 e))) hS2 (by rw[Qb,hacc,D1];rfl) (by rw[Bd,hal];rfl) ⟨?_,?_⟩ ?_⟩) (by rw[hsz];lia) (by show(acc.push (Ap h.objs.size)).size<=sizeLine+1;rw[Array.size_push,hsz];lia)
  ·by_cases hb:b=S
   ·subst hb;exact⟨_,hS2⟩
   ·exact⟨o,up b o hb e⟩
  ·intro a ha;rcases Bo.mp ha with ha|ha
   ·exact hG.above a ha
   ·rw[As.mp ha];exact hIs
  ·intro j b hj;rcases Jc j as.length with h1|h1|h1
   ·rw[A0 h1]at hj;obtain⟨e,e1,e2⟩:=hG.pairs j b hj;have hb:=hG.above b (Ba hj);exact⟨e,e1,up b _ (Cf (Ew hSI hb)) (hkp b _ (Cf hb) e2)⟩
   ·subst h1;have hb:h.objs.size=b:=by simpa using hj
    subst hb;exact⟨es[i],by rw[hal];exact Br hlt,up _ _ (Cf hSl) ht⟩
   ·have hnone:(as++[h.objs.size])[j]? =none:=G3 (by rw[Bd,Dq];lia);rw[hnone]at hj;cases hj
  ·have e:(h'.update S (Dj (·.push (Ap h.objs.size)))).get? h.objs.size=_:=up _ _ (Cf hSl) ht;exact Ew hIs (Am e)
def Jkk{Q:Value->Shared->Prop}(hv:s.heap.IsItemsView r d)(hm:Raw s.heap d es ep)
  (h:Q (.ref s.heap.objs.size) {s with heap:=s.heap.push (itO .none false d 0 es.size ep .none .none)}):wpAny (model prog w) A (pyIter (.ref r)) Q E s:=by
 obtain⟨ov,hov,hcv,hdv⟩:=id hv;obtain⟨o,ho,hc,hdat⟩:=id hm;refine T1 hv.typeIs Lr (Bn Lr hv.typeIs PySem.F.entry_dict_items_iter ?_ (PySem.F.args_dict_items_iter_1 _));unfold Builtin.«dict_items.__iter__» Q1 Q0;refine Aa (Ac (Aa (Aa (B7 hov hdv (x:=.ref d) rfl (Ac (Aa ?_))))));refine Aa (Bt ho hdat (Aa (Ec ho hdat ?_)));simp only[show Dk "dict_itemiterator"=true by decide,if_true];refine Bx (Ac ⟨_,rfl,"dict_itemiterator",_,⟨_,Ak _ rfl,rfl⟩,C1.lookup,?_⟩)
  (by simp only[sizeOk,Ik,Ao,Bd,A7,Eo,Gy];lia)
 simpa [rawInt,itO,Ik]using h
inductive Got (s:Shared) (es:Array B8) (res:K7) (s':Shared):Prop
 |mk (h' acc c as) (_:res=.ok (.ret (.ref s.heap.objs.size))) (_:s'={s with heap:=h'}) (_:(∀b o,s.heap.get? b=some o->h'.get? b=some o)) (_:h'.get? s.heap.objs.size=some {cls:=.type "list",dict:=none,data:=.seq acc c,slots:= #[]}) (_:as.length=es.size) (_:ItG es s.heap.objs.size h' as) (_:acc.toList=as.map Ap):Got s es res s'
def Jf4{Q:List Value->Shared->Prop}(hh:A.handled=none)(hv:s.heap.IsItemsView r d)(hm:Raw s.heap d es ep)(hn:es.size<=sizeLine)
  (h:∀(h':Heap) (as:List Addr),(∀b o,s.heap.get? b=some o->h'.get? b=some o)->s.heap.objs.size<=h'.objs.size->as.length=es.size->ItG es s.heap.objs.size h' as->Q (as.map Ap) {s with heap:=h'}):
  wpAny (model prog w) A (collect (.ref r)) Q E s:=by
 have hr:r<s.heap.objs.size:=let⟨_,ho,_⟩:=hv;Am ho;have hd:d<s.heap.objs.size:=let⟨_,ho,_,_⟩:=hm;Am ho;unfold collect;refine Aa (Og (C7 Rq ?_));rw[Cv PySem.F.plain_proto_collect _];show wpAny _ A.in1 (newList []>>=λl=>again (.builtin "list.__iadd__" ⟨[l,.ref r],[]⟩)) _ _ s;refine Aa (Bx ?_);refine Ac ⟨Fz Mu _,C7 entry_list_iadd' ?_⟩;rw[Cv Mu _];obtain⟨h1,e1⟩:∃h1,h1=s.heap.push {cls:=.type "list",data:=.seq ([]:List Value).toArray}:=⟨_,rfl⟩
 have hS₁:h1.get? s.heap.objs.size=some {cls:=.type "list",data:=.seq #[]}:=by rw[e1];exact Ak _ rfl
 have k1:∀b o,s.heap.get? b=some o->h1.get? b=some o:=λb o e=>by rw[e1];exact Ad _ e
 have hv1:h1.IsItemsView r d:=let⟨o,ho,x⟩:=hv;⟨o,k1 _ _ ho,x⟩;have lt1:s.heap.objs.size<h1.objs.size:=by rw[e1,Cc];exact C9 _
 show wpAny _ A.in1 (Kw (.ref s.heap.objs.size) (.ref r) (.ref s.heap.objs.size)) _ _ {s with heap:=s.heap.push {cls:=.type "list",data:=.seq ([]:List Value).toArray}};rw[<-e1];unfold Kw;refine Aa (Fj (T:="dict_items") (R1 (s:={s with heap:=h1}) hv1) ?_);simp only[show Lf (.ref s.heap.objs.size) (.ref r)=false by simp[Lf,Cf hr],show(Dw "dict_items"==Dw "list")=false by decide,show(Dw "dict_items"==Dw "tuple")=false by decide,Bool.or_false,Ar,if_false];refine Aa (Jkk (s:={s with heap:=h1}) hv1 (hm.keep λo e=>k1 _ _ e) ?_);have hS₂:=Ad (itO .none false d 0 es.size ep .none .none) hS₁;have key:∀(h2:Heap) (c₁:Nat),(∀b o,b≠s.heap.objs.size->(h1.push (itO .none false d 0 es.size ep .none .none)).get? b=some o->h2.get? b=some o)->h2.get? s.heap.objs.size=some {cls:=.type "list",data:=.seq #[] c₁}->
   Ge (model prog w) A (.builtin "list.extend.loop" ⟨[.ref s.heap.objs.size,.ref h1.objs.size,.ref s.heap.objs.size],[]⟩) (Got s es) {s with heap:=h2}:=λh2 c₁ k2 g2=>by
  have hI:=k2 h1.objs.size _ (Cf lt1) (Ak _ rfl);refine Jkm (S:=s.heap.objs.size) (I:=h1.objs.size) (d:=d) (s:=s) (h₁:=s.heap) (es:=es) (ep:=ep) hh lt1 (Au hd) (Au (Ew hd lt1)) hn _ (λh' acc c as kp e l g q=>⟨h',acc,c,as,rfl,rfl,λb o x=>kp b o (Au (Am x)) (Au (Ew (Am x) lt1)) x,e,l,⟨λa ha=>Ew lt1 (g.above a ha),g.pairs⟩,q⟩)
   es.size 0 h2 c₁ #[] [] (Hy _) (Cp _) ⟨.none,false,.none,.none,hI,.inl rfl⟩ (hm.keep λo e=>k2 d o (Au hd) (Ad _ (k1 _ _ e))) (λb o hb _ e=>k2 b o hb (Ad _ (k1 _ _ e))) g2 rfl rfl
   ⟨(λ_ ha=>nomatch ha),(λj a hj=>by simp at hj)⟩ (Am hI)
 refine Aa (Bh (kdx_hint (let⟨o,ho,hc,_⟩:=hv1;⟨o,Ad _ ho,hc⟩) ?_));have fin:∀(h':Heap) (acc:Array Value) (c:Nat) (as:List Addr),(∀b o,s.heap.get? b=some o->h'.get? b=some o)->h'.get? s.heap.objs.size=some {cls:=.type "list",dict:=none,data:=.seq acc c,slots:= #[]}->as.length=es.size->ItG es s.heap.objs.size h' as->acc.toList=as.map Ap->
   wpAny (model prog w) A (load s.heap.objs.size>>=λo=>match o.data with|.seq xs _=>(pure xs.toList:Sem (List Value))|_=>unsupported "internal:collect") Q E {s with heap:=h'}:=λh' acc c as hk hS' hl hG hacc=>by
  refine Aa (L5 hS' (Ac ?_));show Q acc.toList _;rw[hacc];exact h h' as hk (Ed (Am hS')) hl hG
 refine wpAny_ite_split (λ_=>?_) (λ_=>Ac ⟨Fz Eh _,Fo (key _ 0 (λb o _ e=>e) hS₂) ?_⟩)
 ·refine Aa (Fm (Aa ?_));show wpAny _ _ (updateSeq s.heap.objs.size (·.push .none)>>=λ_=>updateSeq s.heap.objs.size (·.pop)) _ _ _;refine Aa (Nx hS₂ rfl ?_);have hS₃:=Cm (Dj (·.push Cd)) hS₂ rfl;refine Nx (hz:=by seq_fits) hS₃ rfl ?_;have hS₄:=Cm (Dj (·.pop)) hS₃ rfl;refine Ac ⟨Fz Eh _,Fo (key _ _ (λb o hb e=>(Ea _ _ (D7 hb)).trans ((Ea _ _ (D7 hb)).trans e)) hS₄) ?_⟩;rintro q s₂ ⟨h',acc,c,as,rfl,rfl,a1,a2,a3,a4,a5⟩;exact fin h' acc c as a1 a2 a3 a4 a5
 ·rintro q s₂ ⟨h',acc,c,as,rfl,rfl,a1,a2,a3,a4,a5⟩;exact fin h' acc c as a1 a2 a3 a4 a5
end
open PySem PySem.Spec PyProof.Rows PySem.F PySem.W Rdc
section
variable {prog:Program} {w:World} {A:Bj} {E:Value->Shared->Prop} {s:Shared} {r d:Addr} {es:Array B8} {ep:Nat}
def IK2.tup{k:PK}(x:IK2 prog w h k b):∃t u,IsTup h b #[.int k.1 t,.int k.2 u]:=by
 obtain⟨o,its,n,h1,h2,h3,h4⟩:=x;obtain⟨t,u,rfl⟩:=Jdu h4;exact⟨t,u,o,h1,h2,n,h3⟩
def Jpd{e e':B8}{Q:Bool->Shared->Prop}(hu:A.units<Cw)(hx:s.heap.get? x=some (Wy e'))(hy:s.heap.get? y=some (Wy e))(eb:e'.key=.ref b)(ec:e.key=.ref c)
  (hb:IK2 prog w s.heap l b)(hc:IK2 prog w s.heap k c)(hl:ltP k l=true)(h:Q false s):wpAny (model prog w) A (keyLt' (tuples' false) (.ref x) (.ref y)) Q (λ_ _=>False) s:=by
 have hne:decide ([l.1,l.2]=[k.1,k.2])=false:=by
  have:=Vs.mp hl;simp;omega
 have hlt:ltP l k=false:=by
  cases q:ltP l k with
  |false=>rfl
  |true=>have:=Vs.mp hl;have:=Vs.mp q;omega
 obtain⟨t,u,tb⟩:=hb.tup;obtain⟨t',u',tc⟩:=hc.tup;refine kat_lt hx rfl hy rfl (kat_cons ?_);rw[eb,ec];refine Ss (knd:=intKind prog w) hu hb hc ?_;rw[hne];refine kat_no ?_;refine kat_one _ _ ?_;exact LR.Jtz tb tc hu (by rw[show LR.ltZ l.1 l.2 k.1 k.2=false from hlt];exact h)
theorem Yb{h:Heap}:∀{as:List Addr} {n:Nat},(∀(j:Nat) (a:Addr),as[j]? =some a->∃e,es[n+j]? =some e/\h.get? a=some (Wy e))->(∀e∈es.toList,∃b,e.key=.ref b/\∃o,h.get? b=some o/\o.cls=.type "tuple")->
  ∃fs,KatTups h (as.map Ap) fs/\fs.length=as.length/\∀f∈fs,∃b,f=.ref b/\∃o,h.get? b=some o/\o.cls=.type "tuple"
 |[],_,_,_=>⟨[],trivial,rfl,λ_ h=>nomatch h⟩
 |a::as,n,hp,hk=>by
  obtain⟨fs,h1,h2,h3⟩:=Yb (as:=as) (n:=n+1) (λj b e=>by rw[show n+1+j=n+(j+1) by lia];exact hp (j+1) b e) hk;obtain⟨e,e1,e2⟩:=hp 0 a rfl;refine⟨e.key::fs,Ri e2 rfl rfl rfl h1,by simp[h2],λf hf=>?_⟩;rcases An.mp hf with rfl|hf
  ·exact hk e (C4.mpr (Ju e1))
  ·exact h3 f hf
def Jdo{pk:Value->PK}{Q:Value->Shared->Prop}(hh:A.handled=none)(hu:A.units+8<Cw)(hv:s.heap.IsItemsView r d)(hm:Raw s.heap d es ep)(hz:es.size<sizeLine)
  (hk:∀e∈es.toList,∃b,e.key=.ref b/\IK2 prog w s.heap (pk e.key) b)(up:∀i e e',es[i]? =some e->es[i+1]? =some e'->ltP (pk e.key) (pk e'.key)=true)
  (h:∀(h':Heap) (l:Addr) (c:Nat) (as:List Addr),(∀b o,s.heap.get? b=some o->h'.get? b=some o)->s.heap.objs.size<=l->h'.get? l=some (seqObj "list" (as.map Ap).toArray c)->as.length=es.size->
   (∀(j:Nat) (a:Addr),as[j]? =some a->s.heap.objs.size<a/\a≠l/\∃e,es[j]? =some e/\h'.get? a=some (Wy e))->Q (.ref l) {s with heap:=h'}):
  wpAny (model prog w) A (call (.builtin "sorted") [.ref r]) Q E s:=by
 refine My kind_sorted plain_sorted entry_sorted (args_sorted1 _) ?_;unfold Builtin.«sorted»;refine Aa (m:=checkCount "sorted" 1 1 _) (Ac ?_);refine Aa (Jf4 (by simp[hh]) hv hm (Ed hz) λh' as kp hsz hl hG=>?_);have hlen:(as.map Ap).length=es.size:=by rw[Ai];exact hl
 refine Aa (Lv ?_ (by rw[hlen];lia));have ho:(h'.push (seqObj "list" (as.map Ap).toArray 0)).get? h'.objs.size=some (seqObj "list" (as.map Ap).toArray 0):=Ak _ rfl;have kp2:∀b o,h'.get? b=some o->b≠h'.objs.size/\(h'.push (seqObj "list" (as.map Ap).toArray 0)).get? b=some o:=λb o e=>
  ⟨Au (Am e),Ad _ e⟩
 refine Aa (Bh (Bn Ob ⟨_,ho,rfl⟩ N2 (Jk7 (s:={s with heap:=h'.push (seqObj "list" (as.map Ap).toArray 0)}) (κ:=tuples' false) ho (by rw[hlen];exact hz)
  (λh1 k1 z Q q=>?kind) (λh1 k1 i x y ex ey Q q=>?up) ⟨_,rfl,?fin⟩) (args_list_sort _)))
 case kind=>
  have k3:∀b o,h'.get? b=some o->h1.get? b=some o:=λb o e=>k1 b o (kp2 b o e).1 (kp2 b o e).2;obtain⟨fs,f1,f2,f3⟩:=Yb (es:=es) (h:=h1) (as:=as) (n:=0) (λj a e=>by
   obtain⟨q,q1,q2⟩:=hG.pairs j a e;exact⟨q,by rw[Fc];exact q1,k3 _ _ q2⟩) λe he=>by
    obtain⟨b,eb,o,_,_,g1,g2,_⟩:=hk e he;exact⟨b,eb,o,k3 _ _ (kp _ _ g1),g2⟩
  refine kat_kind (s:={s with heap:=h1}) (T:=.type "tuple") f1 (by rw[f2,hl];lia) (λv hv=>?_) (by decide) (by rw[show(Dw "tuple" !=Dw "tuple")=false by decide];exact q);obtain⟨b,rfl,o,g1,g2⟩:=f3 v hv;exact λA' Q' E' s' kk qq=>Fj ⟨o,kk _ _ g1,g2⟩ qq
 case up=>
  have k3:∀b o,h'.get? b=some o->h1.get? b=some o:=λb o e=>k1 b o (kp2 b o e).1 (kp2 b o e).2;rw[Aq,Al]at ex ey;obtain⟨a,ea,rfl⟩:=ex;obtain⟨b,eb,rfl⟩:=ey;obtain⟨e',g1,g2⟩:=hG.pairs _ _ ea;obtain⟨e,g3,g4⟩:=hG.pairs _ _ eb;obtain⟨b1,q1,q2⟩:=hk e' (C4.mpr (Ju g1));obtain⟨b2,q3,q4⟩:=hk e (C4.mpr (Ju g3));exact Jpd (s:={s with heap:=h1}) (by simp;lia) (k3 _ _ g2) (k3 _ _ g4) q1 q3 (q2.keep λo e=>k3 _ _ (kp _ _ e)) (q4.keep λo e=>k3 _ _ (kp _ _ e)) (up i e e' g3 g1) q
 case fin=>
  obtain⟨c,hc⟩:=sortedHeap_at (out:=(as.map Ap).toArray) ho;have old:∀b o,h'.get? b=some o->(sortedHeap (h'.push (seqObj "list" (as.map Ap).toArray 0)) h'.objs.size (as.map Ap) (as.map Ap).toArray).get? b=some o:=λb o e=>by
   rw[sortedHeap_old (kp2 b o e).1 (Am (kp2 b o e).2)];exact(kp2 b o e).2
  refine Ac ⟨_,rfl,h _ _ c as (λb o e=>old b o (kp b o e)) hsz hc hl λj a e=>?_⟩;obtain⟨q,q1,q2⟩:=hG.pairs j a e;exact⟨hG.above a (Ba e),(kp2 _ _ q2).1,q,q1,old _ _ q2⟩
end
open PySem
def Jua:typeLookup (.type "list") "keys"=pure none:=by rw[typeLookup_type,builtinLookup_eq_fast];kernel_rfl
section
variable {prog:Program} {w:World} {A:Bj} {E:Value->Shared->Prop} {s:Shared} {a:Addr} {xs:Array Value} {k:Nat}
def Jt5{Q:Option Value->Shared->Prop}(ho:s.heap.get? a=some {cls:=.type "list",data:=.seq xs k})(hA:A.handled=none)
  (h:∀h' tk,(∀b o,s.heap.get? b=some o->h'.get? b=some o)->Q none {s with heap:=h',toks:=tk}):wpAny (model prog w) A (getAttr? (.ref a) "keys") Q E s:=by
 obtain⟨hp,g,d,tk,os⟩:=s;have hT:∀s':Shared,s'.heap.get? a=some {cls:=.type "list",data:=.seq xs k}->s'.TypeIs (.ref a) "list":=λ_ e=>⟨_,e,rfl⟩
 have hT0:Er ⟨hp,g,d,tk,os⟩ (.ref a) "list":=⟨_,ho,rfl⟩
 have f1:=sub_AttributeError;have f3:=Jo.lookup;have f4:=Jo.bind (.ref a);have f5:=am_list_getattr_none;unfold getAttr? getAttrBy? getAttrBy
 repeat (any_goals (first|assumption|((with_reducible show wpAny _ _ (call (R0 "list.__getattribute__") _ _) _ _ _);refine Oo Jo (hT _ ho) am_entry_list_getattribute (F.args_list_getattribute_2 _ _) (meets_getattribute_miss_list a xs k #[] "keys" _ Jua (by decide) (by size_fits)) ?_)|wp_step))
 refine⟨ho,hA,λh' tk' e hx'=>?_⟩;obtain⟨t',u',he⟩:=hx'.there;show wpAny _ _ (Sz _ _ _ _ _ _ _) _ _ _;unfold Sz
 repeat (any_goals (first|assumption|wp_step))
 exact h _ _ hx'.keeps
end
open PySem PyProof.Rows
def Jy5:entryFor table "dict.update.loop"=some Builtin.«dict.update.loop»:=entryFor_of_tree (by kernel_rfl)
def Jo4:plainId "dict.update.loop"=true:=by decide+kernel
section
variable {prog:Program} {w:World} {K:Type} [DecidableEq K] {knd:J2 prog w K} {A:Bj} {E:Value->Shared->Prop} {s:Shared} {R:K7->Shared->Prop} {xs:List (K×Addr×Value)} {as:List Addr}
noncomputable def Yw(b:Addr)(v:Value):Obj:={cls:=.type "tuple",data:=.seq #[.ref b,v]}
def Prs(knd:J2 prog w K)(h:Heap)(as:List Addr)(xs:List (K×Addr×Value)):Prop:=as.length=xs.length/\∀(j:Nat) (a:Addr) (x:K×Addr×Value),as[j]? =some a->xs[j]? =some x->h.get? a=some (Yw x.2.1 x.2.2)/\knd.is h x.1 x.2.1
theorem Jny(hh:A.handled=none)(hr:knd.room A.in1)(hz:xs.length<=sizeLine)(kk:∀{h h':Heap} {k:K} {b:Addr},knd.is h k b->(∀o,h.get? b=some o->h'.get? b=some o)->knd.is h' k b)
  (hP:Prs knd s.heap as xs)(hn:(xs.map (·.1)).Nodup)(hl:s.heap.IsList l (as.map Ap).toArray)(hp:s.heap.get? p=none)(hi:s.heap.get? it=none)(hpi:p≠it)
  (hR:∀h' tk,(∀b o,s.heap.get? b=some o->h'.get? b=some o)->h'.DictOfH knd p xs->R (.ok (.ret .none)) {s with heap:=h',toks:=tk}):
  ∀(n i:Nat) (h:Heap) (tk:Nat),xs.length-i=n->i<=xs.length->(∀b o,s.heap.get? b=some o->h.get? b=some o)->h.IsListIter it l i->h.DictOfH knd p (xs.take i)->
   Ge (model prog w) A (.builtin "dict.update.loop" ⟨[.ref p,.ref it,rawInt i,.none],[]⟩) R {s with heap:=h,toks:=tk}:=by
 have old:∀b o,s.heap.get? b=some o->b≠p/\b≠it:=λb o e=>⟨(λq=>by rw[q,hp]at e;exact nomatch e),(λq=>by rw[q,hi]at e;exact nomatch e)⟩
 have hlk:∀h:Heap,(∀b o,s.heap.get? b=some o->h.get? b=some o)->h.IsList l (as.map Ap).toArray:=λh k=>let⟨o,e,r⟩:=hl;⟨o,k _ _ e,r⟩;intro n
 induction n with
 |zero=>
  intro i h tk hk hi' hkeep hit hD;refine C7 Jy5 ?_;rw[Cv Jo4 _];show wpAny _ A.in1 (pyNext (.ref it)>>=_) _ _ _;refine Aa (Qw (s:={s with heap:=h,toks:=tk}) (A:=A.in1) hh hit (hlk h hkeep) (by simp[hP.1];lia) λh' he=>?_);dsimp only;refine Aa (Ac (Ac (hR h' tk (λb o e=>he b o (old b o e).2 (hkeep b o e)) ?_)));obtain⟨o,es,ep,q1,q2,q3,q4,q5,q6⟩:=hD;have ei:xs.take i=xs:=Eb (by lia);rw[ei]at q4 q5 q6;refine⟨o,es,ep,he p o hpi q1,q2,q3,q4,λx hx=>?_,q6⟩;obtain⟨j,hj⟩:=Fi.mp hx;have hjl:j<as.length:=by rw[hP.1];exact(Ae.mp hj).1
  exact kk (hP.2 j _ x (Ag hjl) hj).2 λo' e'=>he _ _ (old _ _ e').2 (hkeep _ _ e')
 |succ n ih=>
  intro i h tk hk hi' hkeep hit hD;have hlt:i<xs.length:=by lia
  have hja:i<as.length:=by rw[hP.1];exact hlt
  obtain⟨x,hx⟩:∃x,xs[i]? =some x:=⟨_,Ag hlt⟩
  obtain⟨g1,g2⟩:=hP.2 i _ x (Ag hja) hx;refine C7 Jy5 ?_;rw[Cv Jo4 _];show wpAny _ A.in1 (pyNext (.ref it)>>=_) _ _ _;refine Aa (Qd (s:={s with heap:=h,toks:=tk}) (A:=A.in1) hit (hlk h hkeep) (x:=.ref as[i]) (by simp[hja]) λh' hit' hs'=>?_);have k':∀b o,s.heap.get? b=some o->h'.get? b=some o:=λb o e=>(hs'.2 b (old b o e).2).trans (hkeep b o e);have hD':h'.DictOfH knd p (xs.take i):=by
   obtain⟨o,es,ep,q1,q2,q3,q4,q5,q6⟩:=hD;refine⟨o,es,ep,(hs'.2 p hpi).trans q1,q2,q3,q4,λy hy=>?_,q6⟩;obtain⟨j,hj⟩:=Fi.mp (He hy);have hjl:j<as.length:=by rw[hP.1];exact(Ae.mp hj).1
   exact kk (hP.2 j _ y (Ag hjl) hj).2 λo' e'=>k' _ _ e'
  dsimp only;refine Aa (Bh (Aa ?_));have hg:h'.get? as[i]=some (Yw x.2.1 x.2.2):=k' _ _ g1;have hti:Er {s with heap:=h',toks:=tk} (.ref as[i]) "tuple":=⟨_,hg,rfl⟩
  refine wpAny_tryCatch ?_;unfold Builtin.Dict.pairItems;refine Aa (Fj hti ?_);rw[if_pos (by decide)];refine Aa (D3 hg rfl (Ac ?_));show wpAny _ _ (holding [.ref x.2.1,x.2.2] (dictSet p (.ref x.2.1) x.2.2)) _ _ _;have hkx:knd.is h' x.1 x.2.1:=kk g2 λo' e'=>k' _ _ e';have hnew:Gi (xs.take i) x.1=none:=by
   refine Mm λj q hj=>?_;have hj':xs[j]? =some (x.1,q):=by
    by_cases hji:j<i
    ·rwa[Ga hji]at hj
    ·rw[M0 (by lia)]at hj;exact nomatch hj
   have:=idxH_unique hn hj' (show xs[i]? =some (x.1,x.2)from hx);subst this;rw[M0 (Aj _)]at hj;exact nomatch hj
  refine Bh (wpAny_dictSet_heap (s:={s with heap:=h',toks:=tk}) hr hkx hD' (λh'' hD'' hs''=>?_) (hsz:=by simp;lia));rw[storedH_new hnew]at hD'';have etake:xs.take i++[(x.1,x.2.1,x.2.2)]=xs.take (i+1):=by
   rw[Dx,hx];rfl
  rw[etake]at hD'';have hk'':∀b o,s.heap.get? b=some o->h''.get? b=some o:=λb o e=>(hs''.2 b (old b o e).1).trans (k' b o e);have hit'':h''.IsListIter it l (i+1):=let⟨o,e,r⟩:=hit';⟨o,(hs''.2 it (D7 hpi)).trans e,r⟩;exact Ac ⟨Fz Jo4 _,ih (i+1) h'' _ (by lia) (by lia) hk'' hit'' hD''⟩
def Jkt{Q:Value->Shared->Prop}(hh:A.handled=none)(hr:knd.room A.in1.in1)(hz:xs.length<=sizeLine)(kk:∀{h h':Heap} {k:K} {b:Addr},knd.is h k b->(∀o,h.get? b=some o->h'.get? b=some o)->knd.is h' k b)
  (hP:Prs knd s.heap as xs)(hn:(xs.map (·.1)).Nodup)(hl:s.heap.get? l=some (seqObj "list" (as.map Ap).toArray c))
  (h:∀h' tk,(∀b o,s.heap.get? b=some o->h'.get? b=some o)->h'.DictOfH knd s.heap.objs.size xs->Q (.ref s.heap.objs.size) {s with heap:=h',toks:=tk}):wpAny (model prog w) A (call (.type "dict") [.ref l]) Q E s:=by
 refine callType_codes (Q₁:=λobj s₁=>obj=.ref s.heap.objs.size/\s₁={s with heap:=s.heap.push {cls:=.type "dict",data:=.dict #[]}}) Tj (Qm _) R3 (kt_code_dict_new _ ⟨rfl,rfl⟩) ?_;rintro obj s₁ ⟨rfl,rfl⟩;obtain⟨h1,e1⟩:∃h1,h1=s.heap.push {cls:=.type "dict",data:=.dict #[]}:=⟨_,rfl⟩
 rw[<-e1];have hnew:h1.get? s.heap.objs.size=some {cls:=.type "dict",data:=.dict #[]}:=by rw[e1];exact Ak _ rfl
 have k1:∀b o,s.heap.get? b=some o->h1.get? b=some o:=λb o e=>by rw[e1];exact Ad _ e
 have tN:Er {s with heap:=h1} (.ref s.heap.objs.size) "dict":=⟨_,hnew,rfl⟩
 have tL:Er {s with heap:=h1} (.ref l) "list":=⟨_,k1 _ _ hl,rfl⟩
 refine⟨tN,Rm _ _,?_⟩;unfold Builtin.«dict.__init__»;refine Aa ?_;unfold Lg;refine Aa (Ep tN ?_);show wpAny _ _ (pure (s.heap.objs.size,[Ap l])) _ _ _;refine Ac ?_;show wpAny _ _ (F0 "dict.__init__" s.heap.objs.size (.ref l) [] .none) _ _ _;unfold F0;refine Aa (Fj tL ?_);rw[if_pos (by decide)];refine Aa (Jt5 (s:={s with heap:=h1}) (k1 _ _ hl) (by simp[hh]) λh2 t2 k2=>?_);dsimp only at k2 ⊢;rw[if_pos (by rfl)];have k12:∀b o,s.heap.get? b=some o->h2.get? b=some o:=λb o e=>k2 b o (k1 b o e);refine Aa (Fm (Aa (F1 (s:={s with heap:=h2,toks:=t2}) ⟨_,k12 _ _ hl,rfl,_,rfl⟩ ?_)));have n2:=k2 _ _ hnew;have z2:s.heap.objs.size<h2.objs.size:=Am n2;refine Ac ⟨Fz Jo4 _,?_⟩;refine Jny (s:=s) (p:=s.heap.objs.size) (it:=h2.objs.size) (l:=l) (as:=as) (xs:=xs) (by simp[hh]) hr hz kk hP hn ⟨_,hl,rfl,_,rfl⟩ (Kb (Aj _)) (Kb (Ed z2)) (Au z2)
  (λh' tk kp dd=>⟨rfl,h h' tk kp dd⟩) xs.length 0 _ _ (Hy _) (Cp _) (λb o e=>Ad _ (k12 b o e)) ⟨_,Ak _ rfl,rfl,rfl⟩ ?_
 exact⟨_,#[],0,Ad _ n2,⟨rfl,rfl,rfl⟩,rfl,rfl,(λx hx=>by simp at hx),by simp⟩
end
end Rdu
namespace L2
open PySem PySem.W PySem.Spec PyProof.Rows Rdc Rdu
theorem KT.drop(r:KT H kvs xs)(k:List Key):KT H (Wj kvs k) (V7 xs k):=by
 induction r with
 |nil=>exact .nil
 |@cons p q ps qs hq t ih=>
  unfold Wj V7 at ih ⊢;rw[E4,E4,hq.1]
  by_cases e:q.1=k
  ·rw[if_neg (by simpa using e),if_neg (by simpa using e)];exact ih
  ·rw[if_pos (by simpa using e),if_pos (by simpa using e)];exact .cons hq ih
theorem KT.keys{kvs:List (List Key×V)}{xs:List (List Key×Addr×Value)}(r:KT H kvs xs):xs.map (·.1)=kvs.map (·.1):=by
 induction r with
 |nil=>rfl
 |cons hq _ ih=>rw[Av,Av,ih,hq.1]
section
variable {X:Cx} {pins:List (Addr×Obj)} {U:St} {H:Hp} {s:Shared} {a b:Addr} {kvs:List (List Key×V)} {k:List Key} {A:Bj} {E:Value->Shared->Prop}
def Jzf{Q:Value->Shared->Prop}(hu:A.units+2<Cw)(I:Inv X pins U H s)(e:H a=some (.dT kvs))(eb:H b=some (.tup (k.map kV)))(l:Vl kvs k=some v)
  (h:∀w' s',Inv X pins U (upd H a (.dT (Wj kvs k))) s'->RelV v w'->Q w' s'):wpAny (model X.prog X.w) A (call (.builtin "dict.pop") [.ref a,.ref b]) Q E s:=by
 obtain⟨z,hd,xs,rel,dd⟩:=Jza I.hok e;obtain⟨w',hw,rw'⟩:=RelO.some_of (v:=v) (o:=(Gi xs k).map (·.2)) (by rw[<-l];exact rel.val k);obtain⟨p,hp,hp2⟩:=Al.mp hw;refine Qh Nr dd.typeIs PySem.F.entry_dict_pop (PySem.F.args_dict_pop_2 _ _) (Jke (tupleKind (mixKind X.prog X.w)) a b)
  ⟨De (by lia),k,xs,p,Jeg I.hok eb,dd,hp,by rw[<-Cg rel];exact z,λh' dd' hs=>?_⟩
 rw[hp2];refine h w' _ ?_ rw';obtain⟨q,es,ep,hq,h2,h3,h4,_,h5⟩:=dd';refine Jge I (by rw[e];exact Ex) hs ⟨q,hq⟩ ⟨Bu (Jp1 kvs k) z,hd,_,(rel.drop k).keeps λc ys ec=>?_,q,es,ep,hq,h2,h3,h4,h5⟩;rw[Jae (Jpa ec e (λz=>nomatch z))];exact ec
def Apart(P:Program)(w:World)(kvs:List (List Key×V)):Prop:=(kvs.map λkv=>(tupleKind (mixKind P w)).hash kv.1).Nodup
def Jqf{xs:List (List Key×Addr×Value)}{es:Array B8}(he:es.toList=xs.map (entryOfKey (tupleKind (mixKind P w))))(hn:(xs.map λx=>(tupleKind (mixKind P w)).hash x.1).Nodup):
  ∀e∈es,(es.filter (·.hash==e.hash)).size<=1:=by
 intro e _;have hn':(es.toList.map (·.hash)).Nodup:=by rw[he,Bz];exact hn
 have key:∀l:List B8,(l.map (·.hash)).Nodup->(l.filter (·.hash==e.hash)).length<=1:=by
  intro l
  induction l with
  |nil=>intro _;exact Cp _
  |cons x l ih=>
   intro hl;rw[Av,Ci]at hl;rw[E4];split
   ·rename_i hx;have:l.filter (·.hash==e.hash)=[]:=by
     rw[Oe];intro y hy hy';refine hl.1 (Bg.mpr ⟨y,hy,?_⟩);rw[eq_of_beq hy',eq_of_beq hx]
    rw[this];exact Aj _
   ·exact ih hl.2
 have:=key es.toList hn';rw[<-By,Array.toList_filter];exact this
def Jus{Q:Value->Shared->Prop}(I:Inv X pins U H s)(e:Rd H a (.dT kvs))(ap:Apart X.prog X.w kvs)(h:∀p s',H p=none->Inv X pins U (upd H p (.dT kvs)) s'->Q (.ref p) s'):wpAny (model X.prog X.w) A (call (.type "dict") [.ref a]) Q E s:=by
 obtain⟨z,hd,xs,rel,o,es,ep,h1,h2,h3,h4,h5,h6⟩:=Jdq I.hok e;have hx:(xs.map λx=>(tupleKind (mixKind X.prog X.w)).hash x.1)=kvs.map λkv=>(tupleKind (mixKind X.prog X.w)).hash kv.1:=by
  have:=congrArg (Mz λk=>(tupleKind (mixKind X.prog X.w)).hash k) rel.keys;rw[Bz,Bz]at this;exact this
 refine Jnl hd ⟨o,h1,h2,h3⟩ (λq hq=>?_) (Jqf h4 (by rw[hx];exact ap)) (by rw[Fu h4,<-Cg rel];exact z) λh' ep' rw' hs=>?_
 ·have hq':q∈xs.map (entryOfKey (tupleKind (mixKind X.prog X.w))):=h4▸C4.mpr hq;obtain⟨x,hx1,rfl⟩:=Bg.mp hq';obtain⟨o',_,_,g1,g2,_⟩:=h5 x hx1;exact⟨x.2.1,rfl,o',g1,g2⟩
 ·have hf:=I.hok.fresh (Aj s.heap.objs.size);obtain⟨o',g1,g2,g3⟩:=rw';refine h _ _ hf (I.laid (a:=s.heap.objs.size) (o:=.dT kvs) (t':=s.toks) (λc q hq=>?_) (Aj _) ⟨z,beq_eq_false_iff_ne.mpr (D7 (Au I.big)),xs,rel.keeps λc ys ec=>?_,o',es,ep',g1,g2,g3,h4,h6⟩)
  ·exact(hs.2 c (Au (Am hq))).trans (Ad _ hq)
  ·rw[Jae (Jam ec hf)];exact ec
end
noncomputable def intAt(its:Array Value)(i:Nat):Int:=match its[i]? with
 |some (Dr x _)=>x
 |_=>0
noncomputable def pkH(h:Heap)(v:Value):Rdu.PK:=match v with
 |Ap b=>match h.get? b with
  |some o=>match o.data with
   |Data.seq its _=>(intAt its 0,intAt its 1)
   |_=>(0,0)
  |none=>(0,0)
 |_=>(0,0)
noncomputable abbrev pK(p:Rdu.PK):List Key:=[.inl p.1,.inl p.2]
theorem Jrj(ok:HOk P w H h)(e:H b=some (.tup ((pK p).map kV))):IK2 P w h p b/\pkH h (.ref b)=p:=by
 obtain⟨_,its,r,o,h1,h2,n,h3⟩:=(show Uq P w H h b (.tup ((pK p).map kV))from ok b _ e)
 cases r with
 |cons r1 r=>
  cases r with
  |cons r2 r=>
   cases r;obtain⟨t,rfl⟩:=(show∃t,_=Dr p.1 t from r1)
   obtain⟨u,rfl⟩:=(show∃t,_=Dr p.2 t from r2)
   refine⟨⟨o,_,n,h1,h2,h3,.cons (by simp[intKind,Io]) (.cons (by simp[intKind,Io]) .nil)⟩,?_⟩;simp only[pkH,h1,h3];rfl
theorem KT.at(r:KT H kvs xs):∀{i:Nat} {x:List Key×Addr×Value},xs[i]? =some x->H x.2.1=some (.tup (x.1.map kV)):=by
 induction r with
 |nil=>intro i x hx;simp at hx
 |cons hq _ ih=>
  intro i x hx;cases i with
  |zero=>simp only[Dy,Hh]at hx;subst hx;rw[<-hq.1];exact hq.2.1
  |succ i=>simp only[Bv]at hx;exact ih hx
section
variable {X:Cx} {pins:List (Addr×Obj)} {U:St} {H:Hp} {s:Shared} {a:Addr} {kvs:List (List Key×V)} {ps:List Rdu.PK} {A:Bj} {E:Value->Shared->Prop}
def Jkl{Q:Value->Shared->Prop}(hd:(d==sysModules)=false)(hm:Raw s.heap d es ep)
  (h:Q (.ref s.heap.objs.size) {s with heap:=s.heap.push {cls:=.type "dict_items",data:=.fields #[.ref d]}}):wpAny (model prog w) A (call (.builtin "dict.items") [.ref d]) Q E s:=by
 refine Bn Mt hm.typeIs PySem.F.entry_dict_items ?_ (PySem.F.args_dict_items_1 _);unfold Builtin.«dict.items» Builtin.Dict.noArgs Gf;refine Aa (Aa (Ep hm.typeIs ?_));show wpAny _ _ (pure d) _ _ s;refine Ac ?_;show wpAny _ _ (ite ((d==sysModules)=true) _ _>>=_) _ _ s;rw[if_neg (by rw[hd];exact Az)];exact Aa (Ac (Aa (Bx (Ac ⟨_,rfl,h⟩))))
def Jzg{Q:Value->Shared->Prop}(hh:A.handled=none)(hu:A.units+8<Cw)(I:Inv X pins U H s)(e:Rd H a (.dT kvs))(ek:kvs.map (·.1)=ps.map pK)(up:∀(i:Nat) (p q:Rdu.PK),ps[i]? =some p->ps[i+1]? =some q->ltP p q=true)(hz:kvs.length<sizeLine)
  (h:∀p s',H p=none->Inv X pins U (upd H p (.dT kvs)) s'->Q (.ref p) s'):
  wpAny (model X.prog X.w) A (call (.builtin "dict.items") [.ref a]) (λr s1=>wpAny (model X.prog X.w) A (call (.builtin "sorted") [r]) (λl s2=>wpAny (model X.prog X.w) A (call (.type "dict") [l]) Q E s2) E s1) E s:=by
 obtain⟨z,hd,xs,rel,o,es,ep,h1,h2,h3,h4,h5,h6⟩:=Jdq I.hok e;have esz:es.size=kvs.length:=by rw[Fu h4,<-Cg rel]
 have at_:∀(i:Nat) (q:B8),es[i]? =some q->∃p b v,ps[i]? =some p/\xs[i]? =some (pK p,b,v)/\q.key=.ref b/\q.val=v/\IK2 X.prog X.w s.heap p b/\pkH s.heap q.key=p:=λi q hq=>by
  rw[Mj h4 i,Al]at hq;obtain⟨x,hx,rfl⟩:=hq;have hk:(xs.map (·.1))[i]? =some x.1:=by rw[Aq,hx];rfl
  rw[rel.keys,ek,Aq,Al]at hk;obtain⟨p,hp,ep'⟩:=hk;have hH:=rel.at hx;rw[<-ep']at hH;obtain⟨q1,q2⟩:=Jrj I.hok hH;exact⟨p,x.2.1,x.2.2,hp,by rw[hx,ep'],rfl,rfl,q1,q2⟩
 refine Jkl hd ⟨o,h1,h2,h3⟩ ?_;obtain⟨g1,e1⟩:∃g1,g1=s.heap.push {cls:=.type "dict_items",data:=.fields #[.ref a]}:=⟨_,rfl⟩
 rw[<-e1];have k1:∀b o,s.heap.get? b=some o->g1.get? b=some o:=λb o e=>by rw[e1];exact Ad _ e
 have hv:g1.IsItemsView s.heap.objs.size a:=⟨_,by rw[e1];exact Ak _ rfl,rfl,rfl⟩
 refine Jdo (s:={s with heap:=g1}) (pk:=pkH s.heap) hh hu hv ⟨o,k1 _ _ h1,h2,h3⟩ (by lia) (λq hq=>?_) (λi q q' e1 e2=>?_) λh' l c as kp hl gl al ap=>?_
 ·obtain⟨i,hi⟩:=Fi.mp hq;obtain⟨p,b,v,_,_,kb,_,q1,q2⟩:=at_ i q (by rw[<-Dp];exact hi);exact⟨b,kb,by rw[q2];exact q1.keep λo e=>k1 _ _ e⟩
 ·obtain⟨p,_,_,p1,_,_,_,_,q1⟩:=at_ _ _ e1;obtain⟨p',_,_,p2,_,_,_,_,q2⟩:=at_ _ _ e2;rw[q1,q2];exact up i p p' p1 p2
 ·have k2:∀b o,s.heap.get? b=some o->h'.get? b=some o:=λb o e=>kp b o (k1 b o e);refine Jkt (s:={s with heap:=h'}) (knd:=tupleKind (mixKind X.prog X.w)) (xs:=xs) (as:=as) hh (De (by simp;lia)) (by rw[<-Cg rel];exact z) (λ{g g' k b} x y=>?_) ⟨by rw[al,esz,Cg rel],λj b x hb hx=>?_⟩ h6 gl λh'' tk kp' dd=>?_
  ·obtain⟨o',its,n,w1,w2⟩:=x;exact⟨o',its,n,y o' w1,w2⟩
  ·obtain⟨_,_,q,q1,q2⟩:=ap j b hb;rw[Mj h4 j,hx]at q1;cases q1;refine⟨q2,?_⟩;obtain⟨o',its,n,w1,w2⟩:=h5 x (Ba hx);exact⟨o',its,n,k2 _ _ w1,w2⟩
  ·obtain⟨o',es',ep',g1',g2',g3',g4',_,g6'⟩:=dd;have hle:s.heap.objs.size<=h'.objs.size:=Bu (by rw[e1,Cc];exact Kj _) (Ed (Fd hl (Am gl)));have hf:=I.hok.fresh hle;refine h _ _ hf (I.laid (a:=h'.objs.size) (o:=.dT kvs) (t':=tk) (λc q hq=>kp' _ _ (k2 _ _ hq)) hle ⟨z,beq_eq_false_iff_ne.mpr (D7 (Au (Bf I.big hle))),xs,rel.keeps λc ys ec=>?_,o',es',ep',g1',g2',g3',g4',g6'⟩);rw[Jae (Jam ec hf)];exact ec
end
section
variable {X:Cx} {pins:List (Addr×Obj)} {U:St} {H:Hp} {s:Shared} {a b:Addr} {ka kb kvs:List (List Key×V)} {ps:List Rdu.PK} {A:Bj} {E:Value->Shared->Prop}
theorem KT.mem(r:KT H kvs xs):∀x∈xs,∃kv∈kvs,kv.1=x.1/\RelV kv.2 x.2.2:=by
 induction r with
 |nil=>intro x hx;exact nomatch hx
 |@cons p q ps qs hq _ ih=>
  intro x hx;rcases An.mp hx with rfl|hx
  ·exact⟨p,Bm,hq.1,hq.2.2⟩
  ·obtain⟨kv,h1,h2⟩:=ih x hx;exact⟨kv,Ay _ h1,h2⟩
def J1j{Q:Value->Shared->Prop}(hu:A.units+1<Cw)(I:Inv X pins U H s)(ea:Rd H a (.dT ka))(eb:Rd H b (.dT kb))(hl:ka.length=kb.length)
  (hits:∀kv∈ka,∃v',Vl kb kv.1=some v'/\∀u u',RelV kv.2 u->RelV v' u'->E6 A.in1 s u u' true)(h:Q (.bool false) s):wpAny (model X.prog X.w) A (Dv .NotEq (.ref a) (.ref b)) Q E s:=by
 obtain⟨_,hda,xa,ra,da⟩:=Jdq I.hok ea;obtain⟨_,hdb,xb,rb,db⟩:=Jdq I.hok eb;refine neH hda hdb (by lia) (De hu) da db (by rw[<-Cg ra,<-Cg rb];exact hl) (λx hx=>?_) h;obtain⟨kv,m,e1,e2⟩:=ra.mem x hx;obtain⟨v',g1,g2⟩:=hits kv m;obtain⟨w',hw,rw'⟩:=RelO.some_of (v:=v') (o:=(Gi xb kv.1).map (·.2)) (by rw[<-g1];exact rb.val kv.1);obtain⟨p,hp,hp2⟩:=Al.mp hw;exact⟨p,by rw[<-e1];exact hp,by rw[hp2];exact g2 _ _ e2 rw'⟩
def Jm9{Q:Value->Shared->Prop}(hh:A.handled=none)(I:Inv X pins U H s)(e:Rd H a (.dT kvs))(ek:kvs.map (·.1)=ps.map pK)(up:∀(i:Nat) (p q:Rdu.PK),ps[i]? =some p->ps[i+1]? =some q->ltP p q=true)(hz:kvs.length<sizeLine)
  (h:∀(p:Addr) (bs:List Addr) (s':Shared),H p=none->bs.length=ps.length->(∀(i:Nat) (b:Addr) (q:Rdu.PK),bs[i]? =some b->ps[i]? =some q->H b=some (.tup ((pK q).map kV)))->Inv X pins U (upd H p (.lst (bs.map V.ref))) s'->Q (.ref p) s'):
  wpAny (model X.prog X.w) A (call (.builtin "sorted") [.ref a]) Q E s:=by
 obtain⟨z,hd,xs,rel,o,es,ep,h1,h2,h3,h4,h5,h6⟩:=Jdq I.hok e;have esz:es.size=kvs.length:=by rw[Fu h4,<-Cg rel]
 have pl:ps.length=kvs.length:=by have:=congrArg Iz ek;simpa using this.symm
 have at_:∀(i:Nat) (q:B8),es[i]? =some q->∃p x,ps[i]? =some p/\xs[i]? =some x/\q.key=.ref x.2.1/\H x.2.1=some (.tup ((pK p).map kV)):=λi q hq=>by
  rw[Mj h4 i,Al]at hq;obtain⟨x,hx,rfl⟩:=hq;have hk:(xs.map (·.1))[i]? =some x.1:=by rw[Aq,hx];rfl
  rw[rel.keys,ek,Aq,Al]at hk;obtain⟨p,hp,ep'⟩:=hk;exact⟨p,x,hp,hx,rfl,by rw[ep'];exact rel.at hx⟩
 have ik:∀(h1:Heap) (v:Value) (i:Nat),(∀b o,s.heap.get? b=some o->h1.get? b=some o)->(∃q,es[i]? =some q/\v=q.key)->∃p b,ps[i]? =some p/\v=.ref b/\IK2 X.prog X.w h1 p b/\pkH s.heap v=p:=λh1 v i k ⟨q,hq,ev⟩=>by
  obtain⟨p,x,hp,_,kq,hH⟩:=at_ i q hq;obtain⟨q1,q2⟩:=Jrj I.hok hH;exact⟨p,x.2.1,hp,ev.trans kq,q1.keep λo e=>k _ _ e,by rw[ev,kq];exact q2⟩
 refine Je2 (κ:=tuples' true) (Jn2 hd) hh (show Raw s.heap a es ep from⟨o,h1,h2,h3⟩) (by lia) (λvs g1 t hl hv k1 h2 A' E' Q' q=>?_) (λg1 t k1 i x y hx hy A' Q' q=>?_) λh' tk l c vs kp hl gl vl hv=>?_
 ·refine Jki (s:={s with heap:=g1,toks:=t}) (pk:=pkH s.heap) (by lia) (λv hvv=>?_) q;obtain⟨i,hi⟩:=Fi.mp hvv;obtain⟨p,b,_,e1,e2,e3⟩:=ik g1 v i k1 (hv i v hi);exact⟨b,e1,by rw[e3];exact e2⟩
 ·obtain⟨p,b,p1,rfl,q1,_⟩:=ik g1 x (i+1) k1 hx;obtain⟨p',b',p2,rfl,q2,_⟩:=ik g1 y i k1 hy;refine Jpc (s:={s with heap:=g1,toks:=t}) q1 q2 ?_;have l1:=up i p' p p2 p1;have:ltP p p'=false:=by
   cases q:ltP p p' with
   |false=>rfl
   |true=>have:=Vs.mp l1;have:=Vs.mp q;lia
  rw[this];exact q
 ·have hf:=I.hok.fresh hl;obtain⟨bs,hbs,hat⟩:∃bs:List Addr,vs=bs.map Ap/\∀(i:Nat) (b:Addr) (q:Rdu.PK),bs[i]? =some b->ps[i]? =some q->H b=some (.tup ((pK q).map kV)):=by
   refine⟨xs.map (·.2.1),Qu λi=>?_,λi b q hb hq=>?_⟩
   ·by_cases hi:i<es.size
    ·have hi':i<vs.length:=by lia
     obtain⟨e,he,ev⟩:=hv i vs[i] (Ag hi');obtain⟨p,x,_,hx,kq,_⟩:=at_ i e he;rw[Ag hi',ev,kq];simp[hx]
    ·rw[G3 (by lia),G3 (by simp;rw[<-Cg rel];lia)]
   ·rw[Aq,Al]at hb;obtain⟨x,hx,rfl⟩:=hb;have hk:(xs.map (·.1))[i]? =some x.1:=by rw[Aq,hx];rfl
    rw[rel.keys,ek,Aq,hq]at hk;have hk:pK q=x.1:=Bi hk;rw[hk];exact rel.at hx
  have hbl:bs.length=ps.length:=by have:=congrArg Iz hbs;simp at this;lia
  refine h l bs _ hf hbl hat (I.laid (a:=l) (o:=.lst (bs.map V.ref)) (t':=tk) (λc q hq=>kp _ _ hq) hl ⟨by simp;lia,bs.map Ap,c,?_,by rw[<-hbs];exact gl⟩);have vr:∀l:List Addr,Vals (l.map V.ref) (l.map Ap):=λl=>by
   induction l with
   |nil=>exact .nil
   |cons x l ih=>exact .cons rfl ih
  exact vr bs
end
open PySem Rdu
inductive Tr where
 |nil
 |node (l:Tr) (k:Nat) (r:Tr)
noncomputable def Tr.has(j:Nat):Tr->Bool
 |.nil=>false
 |.node l k r=>if j<k then l.has j else if k<j then r.has j else true
noncomputable def Tr.ins(j:Nat):Tr->Option Tr
 |.nil=>some (.node .nil j .nil)
 |.node l k r=>if j<k then(match l.ins j with|some l'=>some (.node l' k r)|none=>none)else if k<j then(match r.ins j with|some r'=>some (.node l k r')|none=>none)else none
theorem Tr.ins_has:∀{t t':Tr},t.ins j=some t'->t.has j=false/\∀i,t'.has i=(decide (i=j)||t.has i)
 |.nil,t',e=>by
  cases e;refine⟨rfl,λi=>?_⟩;unfold Tr.has Tr.has
  by_cases h1:i<j
  ·simp[h1,Au h1]
  ·by_cases h2:j<i
   ·simp[h1,h2,Cf h2]
   ·have:i=j:=by lia
    simp[this]
 |.node l k r,t',e=>by
  unfold Tr.ins at e
  by_cases h1:j<k
  ·rw[if_pos h1]at e;cases q:l.ins j with
   |none=>rw[q]at e;cases e
   |some l'=>
    rw[q]at e;cases e;obtain⟨a,b⟩:=Tr.ins_has q;refine⟨by unfold Tr.has;rw[if_pos h1];exact a,λi=>?_⟩;unfold Tr.has
    by_cases h2:i<k
    ·rw[if_pos h2,if_pos h2];exact b i
    ·have:i≠j:=by lia
     simp[h2,this]
  ·rw[if_neg h1]at e
   by_cases h3:k<j
   ·rw[if_pos h3]at e;cases q:r.ins j with
    |none=>rw[q]at e;cases e
    |some r'=>
     rw[q]at e;cases e;obtain⟨a,b⟩:=Tr.ins_has q;refine⟨by unfold Tr.has;rw[if_neg h1,if_pos h3];exact a,λi=>?_⟩;unfold Tr.has
     by_cases h2:i<k
     ·have:i≠j:=by lia
      simp[h2,this]
     ·rw[if_neg h2,if_neg h2]
      by_cases h4:k<i
      ·rw[if_pos h4,if_pos h4];exact b i
      ·simp[h4]
   ·rw[if_neg h3]at e;cases e
noncomputable def chk(f:Nat×Nat->Int):List (Nat×Nat)->Tr->Tr->Bool
 |[],_,_=>true
 |q::r,a,b=>match f q with
  |.ofNat 0=>false
  |.ofNat (k+1)=>(match a.ins k with|some a'=>chk f r a' b|none=>false)
  |.negSucc 0=>false
  |.negSucc (k+1)=>(match b.ins k with|some b'=>chk f r a b'|none=>false)
noncomputable def X9(a b:Tr):Int->Bool
 |.ofNat 0=>false
 |.ofNat (k+1)=>a.has k
 |.negSucc 0=>false
 |.negSucc (k+1)=>b.has k
theorem Jjz{f:Nat×Nat->Int}:∀{l:List (Nat×Nat)} {a b:Tr},chk f l a b=true->(∀q∈l,X9 a b (f q)=false)/\(l.map f).Nodup
 |[],_,_,_=>⟨(λ_ h=>nomatch h),Ib⟩
 |q::r,a,b,h=>by
  unfold chk at h;have step:∀a' b',chk f r a' b'=true->X9 a b (f q)=false->(∀i,X9 a' b' i=false->i≠f q/\X9 a b i=false)->(∀q'∈q::r,X9 a b (f q')=false)/\((q::r).map f).Nodup:=λa' b' c h1 h2=>by
   obtain⟨x,y⟩:=Jjz c;refine⟨λq' hq=>?_,?_⟩
   ·rcases An.mp hq with rfl|hq
    ·exact h1
    ·exact(h2 _ (x q' hq)).2
   ·rw[Av,Ci];refine⟨λm=>?_,y⟩;obtain⟨q',hq,e⟩:=Bg.mp m;exact(h2 _ (x q' hq)).1 e
  cases e:f q with
  |ofNat n=>
   cases n with
   |zero=>rw[e]at h;cases h
   |succ k=>
    rw[e]at h;cases g:a.ins k with
    |none=>simp only[g]at h;cases h
    |some a'=>
     simp only[g]at h;obtain⟨u,v⟩:=Tr.ins_has g;refine step a' b h (by rw[e];exact u) λi hi=>?_;rw[e]
     match i,hi with
     |.ofNat 0,_=>exact⟨(λz=>nomatch z),rfl⟩
     |.ofNat (j+1),hi=>
      have hi:a'.has j=false:=hi;rw[v j,Pe]at hi;refine⟨λz=>?_,hi.2⟩;have z':j=k:=by injection z with z;lia
      simp[z']at hi
     |.negSucc 0,_=>exact⟨(λz=>nomatch z),rfl⟩
     |.negSucc (j+1),hi=>exact⟨(λz=>nomatch z),hi⟩
  |negSucc n=>
   cases n with
   |zero=>rw[e]at h;cases h
   |succ k=>
    rw[e]at h;cases g:b.ins k with
    |none=>simp only[g]at h;cases h
    |some b'=>
     simp only[g]at h;obtain⟨u,v⟩:=Tr.ins_has g;refine step a b' h (by rw[e];exact u) λi hi=>?_;rw[e]
     match i,hi with
     |.ofNat 0,_=>exact⟨(λz=>nomatch z),rfl⟩
     |.ofNat (j+1),hi=>exact⟨(λz=>nomatch z),hi⟩
     |.negSucc 0,_=>exact⟨(λz=>by injection z with z;lia),rfl⟩
     |.negSucc (j+1),hi=>
      have hi:b'.has j=false:=hi;rw[v j,Pe]at hi;refine⟨λz=>?_,hi.2⟩;have z':j=k:=by injection z with z;lia
      simp[z']at hi
noncomputable def Yx(q:Nat×Nat):Int:=Sy (Cu [hashInt q.1,hashInt q.2])
noncomputable def small:Nat->List (Nat×Nat)
 |0=>[]
 |n+1=>(n,0)::(n,1)::(n,2)::small n
def Jln:chk Yx (small 345) .nil .nil=true:=by decide+kernel
theorem Jeb(hp:p<3):∀{m:Nat},n<m->(n,p)∈small m
 |m+1,h=>by
  unfold small
  by_cases e:n=m
  ·subst e;have:p=0\/p=1\/p=2:=by lia
   rcases this with rfl|rfl|rfl<;>simp
  ·have:=Jeb (n:=n) hp (m:=m) (by lia);simp[this]
def Jys{α:Type}{f:α->Int}{l:List α}(h:(l.map f).Nodup){x y:α}(hx:x∈l)(hy:y∈l)(e:f x=f y):x=y:=by
 obtain⟨i,hi,rfl⟩:=Cz.mp hx;obtain⟨j,hj,rfl⟩:=Cz.mp hy;have q:=F5.mp (Lj.mp h);rcases Jc i j with k|k|k
 ·exact absurd e (q i j hi hj k)
 ·subst k;rfl
 ·exact absurd e.symm (q j i hj hi k)
def Jqe{P:Program}{w:World}{kvs:List (List Key×V)}{ps:List (Nat×Nat)}(ek:kvs.map (·.1)=ps.map λq=>pK ((q.1:Int),(q.2:Int)))(hs:∀q∈ps,q.1<345/\q.2<3)(nd:ps.Nodup):Apart P w kvs:=by
 have e:(kvs.map λkv=>(tupleKind (mixKind P w)).hash kv.1)=ps.map Yx:=by
  have h:=congrArg (Mz λk=>(tupleKind (mixKind P w)).hash k) ek;rw[Bz,Bz]at h;exact h
 unfold Apart;rw[e];refine Lj.mpr (La (λ{x y} hx hy hne hxy=>?_) nd);exact hne (Jys (Jjz Jln).2 (Jeb (hs x hx).2 (hs x hx).1) (Jeb (hs y hy).2 (hs y hy).1) hxy)
end L2
namespace Nst
open PySem
section
variable {prog:Program} {w:World} {K:Type} [DecidableEq K] (knd:J2 prog w K)
inductive Refs (h:Heap):List K->List Value->Prop
 |nil:Refs h [] []
 |cons {k:K} {b:Addr} {ks:List K} {vs:List Value}:knd.is h k b->Refs h ks vs->Refs h (k::ks) (.ref b::vs)
inductive Is (h:Heap) (ks:List K) (a:Addr):Prop
 |mk (o items n) (_:h.get? a=some o) (_:o.cls=.type "tuple") (_:o.data=.seq items n) (_:Refs knd h ks items.toList):Is h ks a
noncomputable def drw(ks:List K):Nat:=(ks.map knd.draws).sum
variable {knd} {A:Bj} {E:Value->Shared->Prop} {s:Shared}
theorem Refs.inj(hx:Refs knd h x vs)(hy:Refs knd h y vs):x=y:=by
 induction hx generalizing y with
 |nil=>cases hy;rfl
 |cons h1 _ ih=>cases hy with|cons h2 t2=>rw[knd.inj h1 h2,ih t2]
theorem Refs.map(hx:Refs knd h x vs)(f:∀k b,knd.is h k b->knd.is h' k b):Refs knd h' x vs:=by
 induction hx with
 |nil=>exact .nil
 |cons h1 _ ih=>exact .cons (f _ _ h1) ih
def Is.inj(hx:Is knd h x a)(hy:Is knd h y a):x=y:=by
 obtain⟨o,items,n,ho,_,hd,hi⟩:=hx;obtain⟨o',items',n',ho',_,hd',hi'⟩:=hy;obtain rfl:o=o':=Bi (ho.symm.trans ho');rw[hd]at hd';injection hd' with h1 _;subst h1;exact hi.inj hi'
def Is.keeps{h:Heap}{o:Obj}{es ep}(x:Is knd h ks a)(ho:h.get? d=some o)(hd:o.data=.dict es ep)(hs:C0 d h h'):Is knd h' ks a:=by
 obtain⟨o',items,n,ho',hc,hd',hi⟩:=x;have hne:a≠d:=λq=>by
  subst q;obtain rfl:o'=o:=Bi (ho'.symm.trans ho);rw[hd]at hd';exact nomatch hd'
 exact⟨o',items,n,(hs.2 a hne).trans ho',hc,hd',hi.map λk b q=>knd.keeps q ho hd hs⟩
def Is.typeIs(x:Is knd s.heap ks a):s.TypeIs (.ref a) "tuple":=let⟨o,_,_,ho,hc,_,_⟩:=x;⟨o,ho,hc⟩
noncomputable def hsh(knd:J2 prog w K)(ks:List K):Int:=Sy (Cu (ks.map knd.hash))
def J1a{Q:Int->Shared->Prop}(hu:A.units<Cw)(hr:knd.room A.in1)(hk:Is knd s.heap ks a)(h:Q (hsh knd ks) {s with toks:=s.toks+(drw knd ks+1)}):wpAny (model prog w) A (pyHash (.ref a)) Q E s:=by
 have hT:=hk.typeIs;obtain⟨o,items,n,ho,_,hd,hi⟩:=hk;unfold pyHash
 first|unfold pyHashByItsType|skip
 first|refine Aa (wpAny_cRoomFor_or (.inr hu) ?_)|skip
 refine Aa (Ft hT G0.lookup ?_);show wpAny _ _ (if(some (R0 "tuple.__hash__")==some Cd)=true then _ else _) Q E s;rw[if_neg (by rw[beq_builtin_none];exact Az)];refine Aa (Ft hT G0.lookup ?_);show wpAny _ _ (callSpecialIfBoundUnlessNone? (.ref a) "__hash__" _>>=_) Q E s;refine Aa (wpAny_callSpecialIfBoundUnlessNone?_slot hT G0 (Bn G0 hT F.entry_tuple_hash ?_ (F.args_tuple_hash_1 _)));show wpAny _ _ (G1 (.ref a)>>=_) _ _ s;refine Aa (L4 ho hd (Aa ?_));rw[<-E7];refine Dg _ (λrest (b:Array Int) s'=>∃done left,ks=done++left/\Refs knd s.heap left rest/\b.toList=done.map knd.hash/\s'={s with toks:=s.toks+drw knd done})
  _ ?_ ?_ _ _ ⟨[],ks,rfl,hi,rfl,rfl⟩
 ·rintro x rest b s' ⟨done,left,rfl,hl,hb,rfl⟩;cases hl with
  |@cons k b' ks' _ h1 hl'=>
   have e:({s with toks:=s.toks+drw knd done+knd.draws k}:Shared)={s with toks:=s.toks+drw knd (done++[k])}:=by simp[drw,K3]
   refine Aa (knd.pyHash (s:={s with toks:=s.toks+drw knd done}) hr h1 ?_)
   first
    |exact Ac ⟨done++[k],ks',by simp,hl',by simp[hb],e⟩
    |exact Aa (Ac (Ac ⟨done++[k],ks',by simp,hl',by simp[hb],e⟩))
 ·rintro b s' ⟨done,left,rfl,hl,hb,rfl⟩;cases hl;rw[Gg]at h;show wpAny _ _ (retInt (Cu b.toList)) _ _ _;rw[hb];refine wpAny_ret_mkInt ?_;show wpAny _ _ (if(decide (-(2:Int)^63<=Cu (done.map knd.hash))&&decide (Cu (done.map knd.hash)<2^63))=true then _ else _) Q E _;unfold hsh Sy at h
  by_cases hr:(decide (-(2:Int)^63<=Cu (done.map knd.hash))&&decide (Cu (done.map knd.hash)<2^63))=true
  ·rw[if_pos hr];rw[if_pos hr]at h;exact Ac (by simpa [K3]using h)
  ·rw[if_neg hr];rw[if_neg hr]at h;exact Aa (Fm (Ac (by simpa [K3]using h)))
def Jup{P:Fin->Shared->Prop}(hr:knd.room A)(hx:Is knd s.heap x a)(hy:Is knd s.heap y b)(h:P (.done (.ret (.bool (decide (x=y))))) s):
  wpAny (model prog w) A (Builtin.«tuple.__eq__» ⟨[.ref a,.ref b],[]⟩) P E s:=by
 have hTb:=hy.typeIs;obtain⟨oa,xs,na,hoa,_,hda,hia⟩:=hx;obtain⟨ob,ys,nb,hob,_,hdb,hib⟩:=hy;show wpAny _ _ (Ol (.ref b) (.type "tuple")>>=_) _ _ s;refine Aa (Du hTb Hg ?_);simp only[Dh,Ar,if_false];refine Aa (L4 hoa hda (Aa (L4 hob hdb (Aa ?_))));refine Dg _
  (λrest r s'=>r.1=none/\s'=s/\∃x' y' xs' ys',rest=List.zip xs' ys'/\Refs knd s.heap x' xs'/\Refs knd s.heap y' ys'/\decide (x'=y')=decide (x=y)/\(xs'.length==ys'.length)=(xs.size==ys.size))
  _ ?_ ?_ _ _ ⟨rfl,rfl,x,y,xs.toList,ys.toList,rfl,hia,hib,rfl,by simp⟩
 ·rintro⟨u,v⟩ rest r s' ⟨hr',rfl,x',y',xs',ys',hz,hx',hy',hdec,hlen⟩;cases hx' with
  |nil=>simp at hz
  |@cons k1 u' x'' xs'' h1 hx''=>
   cases hy' with
   |nil=>simp at hz
   |@cons k2 v' y'' ys'' h2 hy''=>
    simp only[P7,Pd,Ke]at hz;obtain⟨⟨rfl,rfl⟩,rfl⟩:=hz;refine Aa (knd.eqBool hr h1 h2 ?_)
    by_cases hk:k1=k2
    ·subst hk;rw[decide_eq_true rfl];simp only[Dh,Ar,if_false];refine Ac ⟨rfl,rfl,x'',y'',xs'',ys'',rfl,hx'',hy'',?_,by simpa using hlen⟩;rw[<-hdec]
     by_cases hxy:x''=y''<;>simp[hxy]
    ·rw[decide_eq_false hk];simp only[Sm,if_true];have hf:decide (x=y)=false:=by rw[<-hdec];simp[hk]
     rw[hf]at h;exact Aa (Ac (Ac (Ac h)))
 ·rintro⟨r1,r2⟩ s' ⟨hr',rfl,x',y',xs',ys',hz,hx',hy',hdec,hlen⟩;simp only at hr';subst hr';refine Ac ?_;have hfin:(xs.size==ys.size)=decide (x=y):=by
   rw[<-hdec,<-hlen];cases hx' with
   |nil=>cases hy'<;>simp
   |cons _ _=>
    cases hy' with
    |nil=>simp
    |cons _ _=>simp at hz
  show P (.done (.ret (.bool (xs.size==ys.size)))) s';rw[hfin];exact h
def eq_{Q:Bool->Shared->Prop}(hu:A.units<Cw)(hr:knd.room A.in1)(hx:Is knd s.heap x a)(hy:Is knd s.heap y b)(h:Q (decide (x=y)) s):wpAny (model prog w) A (eqBool (.ref a) (.ref b)) Q E s:=by
 unfold eqBool
 try with_reducible refine Bh ?_
 show wpAny _ _ (if(Ap a==Ap b)=true then _ else _) Q E s
 by_cases hab:(Ap a==Ap b)=true
 ·rw[if_pos hab];have e:a=b:=by have:=eq_of_beq hab;injection this
  subst e;obtain rfl:=hx.inj hy;exact Aa (Fm (Ac (by simpa using h)))
 ·rw[if_neg hab];exact Aa (Iq (op:=.Eq) hx.typeIs hy.typeIs Hw
   (Bn Hw hx.typeIs F.entry_tuple_eq (Jup hr hx hy ⟨_,rfl,(λe=>nomatch e),Dl h⟩) (F.args_tuple_eq_2 _ _)) hu)
def Jw8{Q:Bool->Shared->Prop}(q7:∀{A:Bj} {E:Value->Shared->Prop} {s:Shared} {k:K} {b:Addr} {Q:Bool->Shared->Prop},knd.is s.heap k b->Q true s->wpAny (model prog w) A (M6 7 (.ref b)) Q E s)
  (hk:Is knd s.heap ks a)(h:Q true s):wpAny (model prog w) A (M6 8 (.ref a)) Q E s:=by
 have hT:=hk.typeIs;obtain⟨o,items,n,ho,_,hd,hi⟩:=hk;unfold M6;refine Aa (Ft hT Hw.lookup ?_);show wpAny _ _ (Ol (.ref a) (.type "tuple")>>=_) _ _ s;refine Aa (Du hT Hg ?_);simp only[Dh,Ar,if_false];refine Aa (D3 ho hd (Aa ?_));show wpAny _ _ (forIn items _ _) _ _ s;rw[<-E7];refine Dg _ (λrest r s'=>r.1=none/\s'=s/\∃ls,Refs knd s.heap ls rest) _ ?_ ?_ _ _ ⟨rfl,rfl,ks,hi⟩
 ·rintro v rest r s' ⟨hr,rfl,ls,hl⟩;cases hl with
  |cons h1 h2=>
   refine Aa (q7 h1 ?_);simp only[Dh,Ar,if_false];exact Ac ⟨rfl,rfl,_,h2⟩
 ·rintro⟨r1,r2⟩ s' ⟨hr,rfl,_⟩;simp only at hr;subst hr;exact Ac h
end
section
variable {prog:Program} {w:World} {K:Type} [DecidableEq K] {knd:KeyKind prog w K} {A:Bj} {E:Value->Shared->Prop} {s:Shared}
def Jw9{Q:Bool->Shared->Prop}(hk:Ti knd s.heap ks a)(h:Q true s):wpAny (model prog w) A (M6 7 (.ref a)) Q E s:=by
 have hT:=hk.typeIs;obtain⟨o,items,n,ho,_,hd,hi⟩:=hk;unfold M6;refine Aa (Ft hT Hw.lookup ?_);show wpAny _ _ (Ol (.ref a) (.type "tuple")>>=_) _ _ s;refine Aa (Du hT Hg ?_);simp only[Dh,Ar,if_false];refine Aa (D3 ho hd (Aa ?_));show wpAny _ _ (forIn items _ _) _ _ s;rw[<-E7];refine Dg _ (λrest r s'=>r.1=none/\s'=s/\∀v∈rest,Om v=true) _ ?_ ?_ _ _ ⟨rfl,rfl,hi.byValue⟩
 ·rintro v rest r s' ⟨hr,rfl,hall⟩;rw[eqIsQuiet_byValue _ (hall v Bm)];refine Aa (Ac ?_);simp only[Dh,Ar,if_false];exact Ac ⟨rfl,rfl,λu hu'=>hall u (Ay _ hu')⟩
 ·rintro⟨r1,r2⟩ s' ⟨hr,rfl,_⟩;simp only at hr;subst hr;exact Ac h
end
noncomputable def Jim{prog:Program}{w:World}{K:Type}[DecidableEq K](knd:KeyKind prog w K):J2 prog w (List (List K))where
 is:=Is (tupleKind knd)
 hash:=hsh (tupleKind knd)
 draws:=λks=>drw (tupleKind knd) ks+1
 room:=λA=>A.units<Cw/\(tupleKind knd).room A.in1
 inj:=λhx hy=>hx.inj hy
 keeps:=λx ho hd hs=>x.keeps ho hd hs
 pyHash:=λhu hk h=>J1a hu.1 hu.2 hk h
 eqBool:=λhu hx hy h=>eq_ hu.1 hu.2 hx hy h
 quiet:=λhk h=>Jw8 (λq h=>Jw9 q h) hk h
end Nst
namespace L2
open PySem PySem.Spec PyProof.Rows Nst
abbrev RK:=List (List Key)
noncomputable def Rg(a:Addr)(xs:List (RK×Addr×Value)):HO:=.ext λP w h=>(a==sysModules)=false/\(xs.map (·.1)).Nodup/\∃o es ep,h.get? a=some o/\o.ExactDict/\o.data=.dict es ep/\es.toList=xs.map (entryOfKey (Jim (mixKind P w)))
inductive Vy (K:Af) (H:Hp) (r:RK) (a:Addr):Prop
 |mk (bs:List Addr) (_:SqT K H a (bs.map V.ref)) (_:Paired (λk b=>SqT K H b (k.map kV)) r bs):Vy K H r a
section
variable {X:Cx} {pins:List (Addr×Obj)} {U:St} {H:Hp} {s:Shared} {a b:Addr} {r:RK} {xs:List (RK×Addr×Value)} {A:Bj} {E:Value->Shared->Prop}
def Jt9(I:Inv X pins U H s)(x:Vy X.K H r a):(Jim (mixKind X.prog X.w)).is s.heap r a:=by
 obtain⟨bs,e,q⟩:=x;obtain⟨its,rel,⟨o,h1,h2,n,h3⟩,_⟩:=I.tuple e;refine⟨o,its.toArray,n,h1,h2,h3,?_⟩;have go:∀{r:RK} {bs:List Addr} {its:List Value},Paired (λk b=>SqT X.K H b (k.map kV)) r bs->Vals (bs.map V.ref) its->Refs (tupleKind (mixKind X.prog X.w)) s.heap r its:=by
  intro r bs its q
  induction q generalizing its with
  |nil=>intro v;cases v;exact .nil
  |cons hq _ ih=>
   intro v;cases v with
   |cons v1 v2=>
    cases v1;obtain⟨its,r1,⟨o,h1,h2,n,h3⟩,_⟩:=I.tuple hq;exact .cons ⟨o,its.toArray,n,h1,h2,h3,by simpa using Jej r1⟩ (ih v2)
 simpa using go q rel
def Jv9(I:Inv X pins U H s)(e:H a=some (Rg a xs))(hk:∀x∈xs,Vy X.K H x.1 x.2.1):(a==sysModules)=false/\s.heap.DictOfH (Jim (mixKind X.prog X.w)) a xs:=by
 obtain⟨⟨q1,q2,o,es,ep,q3,q4,q5,q6⟩,_⟩:=(show Uq X.prog X.w H s.heap a (Rg a xs)from I.hok a _ e)
 exact⟨q1,o,es,ep,q3,q4,q5,q6,λx hx=>Jt9 I (hk x hx),q2⟩
def Jv7(hu:A.units+2<Cw):(Jim (mixKind P w)).room A.in1:=by
 have a1:A.in1.units<=A.units+1:=by simp[Around.in1,Around.units]<;>omega
 exact⟨by omega,De (by omega)⟩
def J0e(I:Inv X pins U H s)(e:H a=some (Rg a xs)):s.TypeIs (.ref a) "dict":=by
 obtain⟨⟨q1,q2,o,es,ep,q3,q4,q5,q6⟩,_⟩:=(show Uq X.prog X.w H s.heap a (Rg a xs)from I.hok a _ e)
 exact⟨o,q3,q4.1⟩
def Jzh{p:Addr×Value}{Q:Value->Shared->Prop}(hu:A.units+2<Cw)(I:Inv X pins U H s)(e:H a=some (Rg a xs))(hk:∀x∈xs,Vy X.K H x.1 x.2.1)(eb:Vy X.K H r b)(hp:Gi xs r=some p)
  (h:∀s',Inv X pins U H s'->Q p.2 s'):wpAny (model X.prog X.w) A (Kh (.ref a) (.ref b)) Q E s:=by
 obtain⟨hd,dd⟩:=Jv9 I e hk;have rm:(Jim (mixKind X.prog X.w)).room A.in1:=Jv7 hu;exact Sq rm (Jt9 I eb) dd hp (h _ (I.tok _))
def Jv8{h:Heap}{o:Obj}{es:Array B8}(hd:(a==sysModules)=false)(h5:(xs.map (·.1)).Nodup)(hq:h.get? a=some o)(h2:o.ExactDict)(h3:o.data=.dict es ep)(h4:es.toList=xs.map (entryOfKey (Jim (mixKind P w)))):Uq P w H h a (Rg a xs):=
 ⟨⟨hd,h5,o,es,ep,hq,h2,h3,h4⟩,⟨o,hq⟩,λg1 g2 ⟨w1,w2,o,es,ep,w3,w4⟩ k=>⟨w1,w2,o,es,ep,k o w3,w4⟩⟩
def Jze{Q:Unit->Shared->Prop}(hu:A.units+2<Cw)(I:Inv X pins U H s)(e:H a=some (Rg a xs))(hk:∀x∈xs,Vy X.K H x.1 x.2.1)(eb:Vy X.K H r b)(hz:xs.length<sizeLine)
  (h:∀s',Inv X pins U (upd H a (Rg a (N8 xs r b u))) s'->Q () s'):wpAny (model X.prog X.w) A (T5 (.ref a) (.ref b) u) Q E s:=by
 obtain⟨hd,dd⟩:=Jv9 I e hk;have rm:(Jim (mixKind X.prog X.w)).room A.in1:=Jv7 hu;refine So (hsz:=Ed hz) rm (Jt9 I eb) dd λh' dd' hs=>h _ ?_;obtain⟨q,es,ep,hq,h2,h3,h4,_,h5⟩:=dd';exact Jge I (by rw[e];exact Ex) hs ⟨q,hq⟩ (Jv8 hd h5 hq h2 h3 h4)
def Joz:PE X (.Dict [] [] pos) (λ_ H Q=>∀p,H p=none->Q (.ref p) (upd H p (Rg p []))):=λpins s U H Q I h=>
 M4 ⟨.ref s.heap.objs.size,_,I.laid (a:=s.heap.objs.size) (o:=Rg s.heap.objs.size []) (t':=s.toks) (λ_ _ q=>Ad _ q) (Aj _) (Jv8 (beq_eq_false_iff_ne.mpr (D7 (Au I.big))) Ib (Ak _ rfl) ⟨rfl,rfl,rfl⟩ rfl rfl),rfl,h _ (I.hok.fresh (Aj _))⟩
end
end L2
namespace LZ
open PySem PyProof.Rows
section
variable {prog:Program} {w:World} {A:Bj} {E:Value->Shared->Prop} {s:Shared}
def item{Q:Value->Shared->Prop}(D:K6 z a b p q u v)(hz:J1 s.heap z a b .none)(ha:F9 s.heap a (.ref p) (.ref q))(hb:F9 s.heap b c0 c1)
  (h1:s.heap.IsListIter p u m)(h2:s.heap.IsTupleIter q v n)(hu:s.heap.IsList u us)(hv:s.heap.IsTuple v vs)(hx:us[m]? =some x)(hy:vs[n]? =some y)
  (k:∀h',J1 h' z a b (rawInt s.heap.objs.size)->F9 h' b x y->h'.IsListIter p u (m+1)->h'.IsTupleIter q v (n+1)->F9 h' s.heap.objs.size x y->h'.objs.size=s.heap.objs.size+1->
   (∀c o,c≠z->c≠b->c≠p->c≠q->s.heap.get? c=some o->h'.get? c=some o)->Q (.ref s.heap.objs.size) {s with heap:=h'}):
  wpAny (model prog w) A (Builtin.«zip.__next__» ⟨[.ref z],[]⟩) (λfin s'=>∃v,fin=.done (.ret v)/\Q v s') E s:=by
 show wpAny _ A (Py (.ref z) 2>>=_) _ _ s;refine Aa (B7 hz rfl (x:=.bool false) rfl (?_:wpAny _ A (Py (.ref z) 3>>=_) _ _ s));refine Aa (B7 hz rfl (x:=.ref a) rfl (Aa (D3 ha rfl (?_:wpAny _ A (B5 (.ref z)>>=_) _ _ s))));refine Aa (m:=B5 (.ref z)) ?_;unfold B5;refine Aa (B7 hz rfl (x:=.none) rfl (Ac ?_));simp only[if_true];refine Aa (Fm (Aa (B7 hz rfl (x:=.ref b) rfl (Aa (Cj hz (by simp) λg1 z1 t1=>?_)))))
 replace z1:J1 g1 z a b .ellipsis:=z1
 refine Aa ?_;simp only[Q4,Ru,Hj,Si];refine Aa (Aa (Pg ?_));show wpAny _ _ (Co (.ref p)>>=_) _ _ _;refine Aa (wpAny_nextOf_list_item (h1.extBut t1.extBut D.i1z) (hu.extBut t1.extBut D.l1z) hx λg2 r2 t2=>Ac ?_);have b2:F9 g2 b c0 c1:=t2.extBut _ _ D.TOi1 (t1.extBut _ _ D.TOz hb);refine Aa (D3 b2 rfl (Aa (Q6 b2 λg3 b3 t3=>?_)))
 replace b3:F9 g3 b x c1:=b3
 refine Aa (Ni (Ac ?_));refine Aa (Aa (Pg ?_));show wpAny _ _ (Co (.ref q)>>=_) _ _ _;refine Aa (nx (((h2.extBut t1.extBut D.i2z).extBut t2.extBut D.i12.symm).extBut t3.extBut D.TOi2.symm) (((hv.extBut t1.extBut D.l2z).extBut t2.extBut D.l2i1).extBut t3.extBut D.l2TO) hy λg4 r4 t4=>Ac ?_);have b4:F9 g4 b x c1:=t4.extBut _ _ D.TOi2 b3;refine Aa (D3 b4 rfl (Aa (Q6 b4 λg5 b5 t5=>?_)))
 replace b5:F9 g5 b x y:=b5
 refine Aa (Ni (Ac (Ac (Aa (D3 b5 rfl (Aa (Oh ?_)))))));have sz:g5.objs.size=s.heap.objs.size:=by rw[t5.1,t4.1,t3.1,t2.1,t1.1]
 have z5:J1 g5 z a b .ellipsis:=t5.extBut _ _ D.TOz.symm (t4.extBut _ _ D.i2z.symm (t3.extBut _ _ D.TOz.symm (t2.extBut _ _ D.i1z.symm z1)));have k5:∀c o,c≠z->c≠b->c≠p->c≠q->s.heap.get? c=some o->g5.get? c=some o:=λc o n1 n2 n3 n4 e=>t5.extBut _ _ n2 (t4.extBut _ _ n4 (t3.extBut _ _ n2 (t2.extBut _ _ n3 (t1.extBut _ _ n1 e))));have r5:g5.IsListIter p u (m+1):=((r2.extBut t3.extBut D.TOi1.symm).extBut t4.extBut D.i12).extBut t5.extBut D.TOi1.symm;have w5:g5.IsTupleIter q v (n+1):=r4.extBut t5.extBut D.TOi2.symm;have lz:z<g5.objs.size:=Am z5;show wpAny _ _ (Ia (.ref z) (.ref g5.objs.size)>>=_) _ _ _;refine Aa ?_;unfold Ia;have z6:J1 (g5.push {cls:=.type "tuple",data:=.seq #[x,y]}) z a b .ellipsis:=Ad _ z5;refine Aa (Cj z6 (by simp) λg7 z7 t7=>?_)
 replace z7:J1 g7 z a b (rawInt g5.objs.size):=z7
 refine Cj z7 (by simp) λg8 z8 t8=>?_
 replace z8:J1 g8 z a b (rawInt g5.objs.size):=z8
 have up:∀c o,c≠z->g5.get? c=some o->g8.get? c=some o:=λc o n1 e=>t8.extBut _ _ n1 (t7.extBut _ _ n1 (Ad _ e));have n8:F9 g8 g5.objs.size x y:=t8.extBut _ _ (Cf lz) (t7.extBut _ _ (Cf lz) (Ak _ rfl));have s8:g8.objs.size=g5.objs.size+1:=by rw[t8.1,t7.1,Cc]
 rw[sz]at z8 n8 s8;refine Ac ⟨_,rfl,(?_:Q (.ref g5.objs.size) _)⟩;rw[sz];exact k g8 z8 (up _ _ D.TOz b5) (r5.at λo e=>up _ o D.i1z e) (w5.at λo e=>up _ o D.i2z e) n8 s8 λc o n1 n2 n3 n4 e=>up c o n1 (k5 c o n1 n2 n3 n4 e)
def last{Q:Fin->Shared->Prop}(hh:A.handled=none)(D:K6 z a b p q u v)(hz:J1 s.heap z a b .none)(ha:F9 s.heap a (.ref p) (.ref q))
  (h1:s.heap.IsListIter p u m)(hu:s.heap.IsList u us)(he:us[m]? =none)
  (k:∀h' e,(∀c o,c≠z->c≠b->c≠p->c≠q->s.heap.get? c=some o->h'.get? c=some o)->(∃o,h'.get? e=some o/\o.cls=.type "StopIteration")->E (.ref e) {s with heap:=h'}):
  wpAny (model prog w) A (Builtin.«zip.__next__» ⟨[.ref z],[]⟩) Q E s:=by
 show wpAny _ A (Py (.ref z) 2>>=_) _ _ s;refine Aa (B7 hz rfl (x:=.bool false) rfl (?_:wpAny _ A (Py (.ref z) 3>>=_) _ _ s));refine Aa (B7 hz rfl (x:=.ref a) rfl (Aa (D3 ha rfl (?_:wpAny _ A (B5 (.ref z)>>=_) _ _ s))));refine Aa (m:=B5 (.ref z)) ?_;unfold B5;refine Aa (B7 hz rfl (x:=.none) rfl (Ac ?_));simp only[if_true];refine Aa (Fm (Aa (B7 hz rfl (x:=.ref b) rfl (Aa (Cj hz (by simp) λg1 z1 t1=>?_)))))
 replace z1:J1 g1 z a b .ellipsis:=z1
 refine Aa ?_;simp only[Q4,Ru,Hj,Si];refine Aa (Aa (Pg ?_));show wpAny _ _ (Co (.ref p)>>=_) _ _ _;refine Aa (wpAny_nextOf_list_end hh (h1.extBut t1.extBut D.i1z) (hu.extBut t1.extBut D.l1z) he λg2 e t2 ⟨oe,eo,ce⟩=>?_);have z2:J1 g2 z a b .ellipsis:=t2 _ _ D.i1z.symm z1;have nz:e≠z:=λr=>by subst r;rw[z2]at eo;cases eo;simp at ce
 exact Cj z2 (by simp) λg3 _ t3=>k g3 e (λc o n1 _ n3 _ r=>t3.extBut _ _ n1 (t2 _ _ n3 (t1.extBut _ _ n1 r))) ⟨oe,t3.extBut _ _ nz eo,ce⟩
def go{Q:Option Value->Shared->Prop}(D:K6 z a b p q u v)(hz:J1 s.heap z a b .none)(ha:F9 s.heap a (.ref p) (.ref q))(hb:F9 s.heap b c0 c1)
  (h1:s.heap.IsListIter p u m)(h2:s.heap.IsTupleIter q v n)(hu:s.heap.IsList u us)(hv:s.heap.IsTuple v vs)(hx:us[m]? =some x)(hy:vs[n]? =some y)
  (k:∀h',J1 h' z a b (rawInt s.heap.objs.size)->F9 h' b x y->h'.IsListIter p u (m+1)->h'.IsTupleIter q v (n+1)->F9 h' s.heap.objs.size x y->h'.objs.size=s.heap.objs.size+1->
   (∀c o,c≠z->c≠b->c≠p->c≠q->s.heap.get? c=some o->h'.get? c=some o)->Q (some (.ref s.heap.objs.size)) {s with heap:=h'}):wpAny (model prog w) A (pyNext (.ref z)) Q E s:=by
 have ty:s.TypeIs (.ref z) "zip":=⟨_,hz,rfl⟩
 unfold pyNext;exact Aa (Fy (B4 (name:=Ab "__next__") ty Kc (Bn Kc ty Tn (item D hz ha hb h1 h2 hu hv hx hy λh' r1 r2 r3 r4 r5 r6 r7=>Ac (k h' r1 r2 r3 r4 r5 r6 r7)) (R4 _))))
def stop{Q:Option Value->Shared->Prop}(hh:A.handled=none)(D:K6 z a b p q u v)(hz:J1 s.heap z a b .none)(ha:F9 s.heap a (.ref p) (.ref q))
  (h1:s.heap.IsListIter p u m)(hu:s.heap.IsList u us)(he:us[m]? =none)
  (k:∀h',(∀c o,c≠z->c≠b->c≠p->c≠q->s.heap.get? c=some o->h'.get? c=some o)->Q none {s with heap:=h'}):wpAny (model prog w) A (pyNext (.ref z)) Q E s:=by
 have ty:s.TypeIs (.ref z) "zip":=⟨_,hz,rfl⟩
 unfold pyNext;refine Aa (Fy (B4 (name:=Ab "__next__") ty Kc (Bn Kc ty Tn (last hh D hz ha h1 hu he λh' e r1 ⟨o,eo,ce⟩=>?_) (R4 _))));exact Aa (Du (T:="StopIteration") (b:=true) ⟨o,eo,ce⟩ Oj (Ac (k _ r1)))
end
noncomputable abbrev g1(h:Heap)(u:Addr):Heap:=h.push {cls:=.type "list_iterator",data:=.fields #[.ref u,.int 0 0]}
noncomputable abbrev g2(h:Heap)(u v:Addr):Heap:=(g1 h u).push {cls:=.type "tuple_iterator",data:=.fields #[.ref v,.int 0 0]}
noncomputable abbrev g3(h:Heap)(u v:Addr):Heap:=(g2 h u v).push {cls:=.type "tuple",data:=.seq #[.ref h.objs.size,.ref (g1 h u).objs.size]}
noncomputable abbrev g4(h:Heap)(u v:Addr):Heap:=(g3 h u v).push {cls:=.type "tuple",data:=.seq #[.none,.none]}
noncomputable abbrev g5(h:Heap)(u v:Addr):Heap:=(g4 h u v).push {cls:=.type "zip",data:=.fields #[.none,.bool false,.bool false,.ref (g2 h u v).objs.size,.ref (g3 h u v).objs.size]}
def made(u v:Addr)(us vs:Array Value):Meets (Builtin.«zip.__new__» ⟨[.type "zip",.ref u,.ref v],[]⟩) (λ_ R s=>s.heap.IsList u us/\s.heap.IsTuple v vs/\R (.ok (.ret (.ref (g4 s.heap u v).objs.size))) {s with heap:=g5 s.heap u v}):=
 .of_wp λprog w A R s ⟨hu,hv,h⟩=>by
  obtain⟨hp,g,d,tk,os⟩:=s;have sb:=sub_zip;have k1:Heap.IsList (N9 ⟨hp,g,d,tk,os⟩) u us:=hu;have k2:Ua (N9 ⟨hp.push {cls:=.type "list_iterator",data:=.fields #[.ref u,.int 0 0]},g,d,tk,os⟩) v vs:=Heap.IsTuple.push hv _
  wp_walk using F1 k1,Jg k2
  exact⟨_,rfl,h⟩
def new{E:Value->Shared->Prop}{s:Shared}{Q:Value->Shared->Prop}(hu:s.heap.IsList u us)(hv:s.heap.IsTuple v vs)
  (k:∀h',J1 h' (s.heap.objs.size+4) (s.heap.objs.size+2) (s.heap.objs.size+3) .none->F9 h' (s.heap.objs.size+2) (.ref s.heap.objs.size) (.ref (s.heap.objs.size+1))->F9 h' (s.heap.objs.size+3) .none .none->
   h'.IsListIter s.heap.objs.size u 0->h'.IsTupleIter (s.heap.objs.size+1) v 0->h'.objs.size=s.heap.objs.size+5->(∀c o,s.heap.get? c=some o->h'.get? c=some o)->Q (.ref (s.heap.objs.size+4)) {s with heap:=h'}):
  wpAny (model prog w) A (call (.type "zip") [.ref u,.ref v]) Q E s:=by
 refine callType_new F.called_zip (by decide) (F.typeCall_zip_2 _ _) (F.newCall_zip_2 _ _) (λobj=>F.args_object_init_3 obj _ _) F.entry_zip_new (made u v us vs) ⟨hu,hv,?_⟩;have z1:(g1 s.heap u).objs.size=s.heap.objs.size+1:=Cc ..;have z2:(g2 s.heap u v).objs.size=s.heap.objs.size+2:=by rw[Cc,z1]
 have z3:(g3 s.heap u v).objs.size=s.heap.objs.size+3:=by rw[Cc,z2]
 have z4:(g4 s.heap u v).objs.size=s.heap.objs.size+4:=by rw[Cc,z3]
 have z5:(g5 s.heap u v).objs.size=s.heap.objs.size+5:=by rw[Cc,z4]
 have up:∀{h:Heap} {c:Addr} {o o':A5},h.get? c=some o->(h.push o').get? c=some o:=λe=>Ad _ e;have e5:(g5 s.heap u v).get? (g4 s.heap u v).objs.size=some _:=Ak _ rfl;have e4:(g5 s.heap u v).get? (g3 s.heap u v).objs.size=some _:=up (Ak _ rfl);have e3:(g5 s.heap u v).get? (g2 s.heap u v).objs.size=some _:=up (up (Ak _ rfl));have e2:(g5 s.heap u v).get? (g1 s.heap u).objs.size=some _:=up (up (up (Ak _ rfl)));have e1:(g5 s.heap u v).get? s.heap.objs.size=some _:=up (up (up (up (Ak _ rfl))));show _/\_;rw[z2,z3,z4]at e5;rw[z1,z2]at e3;rw[z3]at e4;rw[z1]at e2;rw[z4];exact⟨⟨_,e5,rfl⟩,k _ e5 e3 e4 ⟨_,e1,rfl,rfl⟩ ⟨_,e2,rfl,rfl⟩ z5 λc o r=>up (up (up (up (up r))))⟩
end LZ
namespace L2
open PySem PySem.Spec PyProof.Rows
noncomputable def Izz(K:Af)(u v:Addr)(ys:List V):It:=
 ⟨λi H=>∃xs x y,SqL K H u xs/\SqT K H v ys/\xs[i]? =some x/\ys[i]? =some y,
  λi H w H'=>∃p x y,H p=none/\w=.ref p/\H'=upd H p (.tup [x,y])/\(∀xs,SqL K H u xs->xs[i]? =some x)/\ys[i]? =some y,
  λi H=>∃xs,SqL K H u xs/\xs.length<=i⟩
def Wec(z a b p q u v:Addr)(i:Nat)(h:Heap):Prop:=J1 h z a b .none/\F9 h a (.ref p) (.ref q)/\(∃c d,F9 h b c d)/\h.IsListIter p u i/\h.IsTupleIter q v i
def Jk2{P:Program}{w:World}{K:Af}{elts:List Expr}{x1:Nat}{tp:Pos}(z a b p q u v:Addr)(ys:List V)(ap:K6 z a b p q u v):
  Turn P w K (.Tuple elts x1 tp) (Izz K u v ys) [z,a,b,p,q] z (Wec z a b p q u v)where
 mem:=by simp
 obj:=λi h st c hc=>by
  obtain⟨hz,ha,⟨_,_,hb⟩,⟨o1,e1,c1,d1⟩,⟨o2,e2,c2,d2⟩⟩:=st;simp only[An,Bc,or_false]at hc;rcases hc with rfl|rfl|rfl|rfl|rfl
  ·exact⟨_,hz,λv q=>by cases q⟩
  ·exact⟨_,ha,λv q=>by cases q⟩
  ·exact⟨_,hb,λv q=>by cases q⟩
  ·exact⟨o1,e1,λv q=>by rw[d1]at q;cases q⟩
  ·exact⟨o2,e2,λv q=>by rw[d2]at q;cases q⟩
 keep:=λi h h' st k=>by
  obtain⟨hz,ha,⟨_,_,hb⟩,h1,h2⟩:=st;exact⟨k z (by simp) _ hz,k a (by simp) _ ha,⟨_,_,k b (by simp) _ hb⟩,h1.at λo e=>k p (by simp) o e,h2.at λo e=>k q (by simp) o e⟩
 item:=by
  intro X hP hw hK hc i pins s U H E I hf st hg;subst hP hw hK;obtain⟨xs,x,y,hq1,hq2,hx,hy⟩:=hg;have ho:∀c∈[z,a,b,p,q],∃o,s.heap.get? c=some o:=λc hc=>by
   obtain⟨hz,ha,⟨_,_,hb⟩,⟨o1,e1,_⟩,⟨o2,e2,_⟩⟩:=st;simp only[An,Bc,or_false]at hc;rcases hc with rfl|rfl|rfl|rfl|rfl
   ·exact⟨_,hz⟩
   ·exact⟨_,ha⟩
   ·exact⟨_,hb⟩
   ·exact⟨_,e1⟩
   ·exact⟨_,e2⟩
  obtain⟨hz,ha,⟨_,_,hb⟩,hi1,hi2⟩:=st;obtain⟨its1,rv1,p1,_⟩:=I.list hq1;obtain⟨its2,rv2,p2,_⟩:=I.tuple hq2;obtain⟨m1,hm1,ru⟩:=rv1.get hx;obtain⟨m2,hm2,rv⟩:=rv2.get hy;refine LZ.go ap hz ha hb hi1 hi2 p1.isList p2 (x:=m1) (y:=m2) (by simpa using hm1) (by simpa using hm2) λh' z1 to1 j1 j2 pr sz kk=>?_;refine⟨_,rfl,wpAny_letOwnedTupleGo_zip (s:={s with heap:=h'}) z1 λh2 z2 sb=>?_⟩;have hf0:H s.heap.objs.size=none:=I.hok.fresh (Aj _);have I0:Inv X pins U (upd H s.heap.objs.size (.tup [x,y])) {s with heap:=s.heap.push {cls:=.type "tuple",data:=.seq #[m1,m2]},toks:=s.toks}:=
   I.laid (t':=s.toks) (λb o e=>Ad _ e) (Aj _) ⟨by show 2<=sizeLine;decide,[m1,m2],.cons ru (.cons rv .nil),⟨_,Ak _ rfl,rfl,_,rfl⟩⟩
  have neT:∀c∈[z,a,b,p,q],c≠s.heap.objs.size:=λc hc e=>by
   obtain⟨o,r⟩:=ho c hc;exact absurd (Am r) (by rw[e];exact Ee _)
  have hf':∀c∈[z,a,b,p,q],V4 X pins (upd H s.heap.objs.size (.tup [x,y])) c:=λc hc=>by
   obtain⟨f0,f1,f2,f3,f4,f5⟩:=hf c hc;exact⟨by rw[Jae (neT c hc)];exact f0,f1,f2,f3,f4,f5⟩
  have I1:Inv X pins U (upd H s.heap.objs.size (.tup [x,y])) {s with heap:=h2,toks:=s.toks}:=by
   refine Inv.turnedL (s:={s with heap:=s.heap.push {cls:=.type "tuple",data:=.seq #[m1,m2]},toks:=s.toks}) (h':=h2) (t':=s.toks) (fp:=[z,a,b,p,q]) I0 (λc o hc e=>?_) hf'
   replace e:(s.heap.push {cls:=.type "tuple",data:=.seq #[m1,m2]}).get? c=some o:=e
   simp only[An,Bc,or_false,not_or]at hc;obtain⟨b1,b2,b3,b4,b5⟩:=hc;rw[sb.2 c b1]
   by_cases hT:c=s.heap.objs.size
   ·subst hT;have:(s.heap.push {cls:=.type "tuple",data:=.seq #[m1,m2]}).get? s.heap.objs.size=some {cls:=.type "tuple",data:=.seq #[m1,m2]}:=Ak _ rfl;rw[this]at e;cases e;exact pr
   ·have e':s.heap.get? c=some o:=by
     rw[Ql _ _ _ hT]at e;exact e
    exact kk c o b1 b3 b4 b5 e'
  refine⟨.ref s.heap.objs.size,_,I1,rfl,⟨_,x,y,hf0,rfl,rfl,λzs hz'=>by rw[I.list_inj hz' hq1];exact hx,hy⟩,⟨z2,?_,⟨m1,m2,?_⟩,?_,?_⟩,λc hc=>(hf' c hc).1⟩
  ·show h2.get? a=_;rw[sb.2 a ap.TIz];exact kk a _ ap.TIz ap.TITO ap.TIi1 ap.TIi2 ha
  ·show h2.get? b=_;rw[sb.2 b ap.TOz];exact to1
  ·exact j1.at λo e=>(sb.2 p ap.i1z).trans e
  ·exact j2.at λo e=>(sb.2 q ap.i2z).trans e
 done:=by
  intro X hP hw hK hc i pins s U H E I hf st hg;subst hP hw hK;obtain⟨xs,hq1,hl⟩:=hg;obtain⟨hz,ha,⟨_,_,hb⟩,hi1,hi2⟩:=st;obtain⟨its1,rv1,p1,_⟩:=I.list hq1;have l1:=rv1.length;refine LZ.stop (I.ok.hd hc) ap hz ha hi1 p1.isList (by simp;lia) λh' kk=>⟨rfl,I.turnedL (t':=s.toks) (fp:=[z,a,b,p,q]) (λc o hc e=>?_) hf⟩
  simp only[An,Bc,or_false,not_or]at hc;exact kk c o hc.1 hc.2.2.1 hc.2.2.2.1 hc.2.2.2.2 e
 self:=λ_ _ _ _ _ st h=>wpAny_pyIter_zip st.1 h
def Wdz(K:Af)(ta:TA):TI:=λU H R=>ta U H λvs H1=>∃u v xs ys,vs=[.ref u,.ref v]/\SqL K H1 u xs/\SqT K H1 v ys/\R (Izz K u v ys) H1
theorem boot_zip:C8 "zip"=some (.type "zip"):=by rfl
def Jkx{n a b:Nat}(h1:a<n)(h2:b<n):K6 (n+4) (n+2) (n+3) n (n+1) a b:=by
 constructor<;>(intro e;replace e:@Eq Nat _ _:=e;lia)
theorem Jto{X:Cx}{a b:Expr}{ta:TA}{p pos:Pos}{elts:List Expr}{x1:Nat}{tp:Pos}(hg:Gl X "zip")(hm:X.mg "zip"=none)(ha:PA X [a,b] ta)(hs:Bl [a,b] X.env=[(false,eval a X.env),(false,eval b X.env)])(hs2:Bl [b] X.env=[(false,eval b X.env)]):
  PI X (.Tuple elts x1 tp) (.Call (.Name "zip" p) [a,b] [] pos) (Wdz X.K ta):=by
 intro pins s U H R I h;refine Rr (Jcf I hg hm boot_zip (C2 (thn (ha pos pins s U H _ I h) λus s1 ⟨vs,H1,I1,r1,q1⟩=>?_) (by rw[hs,hs2]) (by rw[hs2];rfl)));obtain⟨u,v,xs,ys,e,hq1,hq2,q⟩:=q1;subst e;cases r1 with
 |cons r rr=>
  cases rr with
  |cons r' rr=>
   cases rr;cases r;cases r';obtain⟨its1,rv1,p1,_⟩:=I1.list hq1;obtain⟨its2,rv2,p2,_⟩:=I1.tuple hq2;have lt1:u<s1.heap.objs.size:=p1.lt;have lt2:v<s1.heap.objs.size:=by obtain⟨o,e,_⟩:=id p2;exact Am e
   refine LZ.new p1.isList p2 λh' z1 ti to j1 j2 sz kk=>?_;refine wpAny_pyIter_zip (s:={s1 with heap:=h'}) z1 ?_;have ap:K6 (s1.heap.objs.size+4) (s1.heap.objs.size+2) (s1.heap.objs.size+3) s1.heap.objs.size (s1.heap.objs.size+1) u v:=Jkx lt1 lt2;refine⟨s1.heap.objs.size+4,_,_,_,H1,rfl,I1.kept (t':=s1.toks) kk,Jk2 _ _ _ _ _ u v ys ap,⟨z1,ti,⟨_,_,to⟩,j1,j2⟩,λb hb=>?_,q⟩;have hb':s1.heap.objs.size<=b:=by
    simp only[An,Bc,or_false]at hb;rcases hb with rfl|rfl|rfl|rfl|rfl
    ·exact Hb _ _
    ·exact Hb _ _
    ·exact Hb _ _
    ·exact Aj _
    ·exact Hb _ _
   exact I1.fpOk hb' (I1.hok.fresh hb')
open PySem PySem.Spec PyProof.Rows Rdc Rdu
def Up(ps:List Rdu.PK):Prop:=∀(i:Nat) (p q:Rdu.PK),ps[i]? =some p->ps[i+1]? =some q->ltP p q=true
def UpD(H:Hp)(a:Addr)(kvs:List (List Key×V))(ps:List Rdu.PK):Prop:=Rd H a (.dT kvs)/\kvs.map (·.1)=ps.map pK/\Up ps/\kvs.length<sizeLine
section
variable {X:Cx}
def Jho(hc:X.calm=true):U2 X (.builtin "sorted") (λxs H Q=>∃a kvs ps,xs=[.ref a]/\UpD H a kvs ps/\∀(p:Addr) (bs:List Addr),H p=none->bs.length=ps.length->(∀(i:Nat) (b:Addr) (q:Rdu.PK),bs[i]? =some b->ps[i]? =some q->H b=some (.tup ((pK q).map kV)))->Q (.ref p) (upd H p (.lst (bs.map V.ref)))):=by
 intro pins s U H xs us Q I r h;obtain⟨a,kvs,ps,rfl,⟨e,ek,up,hz⟩,q⟩:=h;obtain⟨u,rfl,ru⟩:=vals1 r;cases ru;exact Jm9 (I.ok.hd hc) I e ek up hz λp bs s' hp hl hb I'=>⟨.ref p,_,I',rfl,q p bs hp hl hb⟩
def Jfk:U2 X (.type "dict") (λxs H Q=>∃a,xs=[.ref a]/\((∃kvs,Rd H a (.dK kvs)/\∀p,H p=none->Q (.ref p) (upd H p (.dK kvs)))\/∃kvs,Rd H a (.dT kvs)/\Apart X.prog X.w kvs/\∀p,H p=none->Q (.ref p) (upd H p (.dT kvs)))):=by
 intro pins s U H xs us Q I r h;obtain⟨a,rfl,q⟩:=h;obtain⟨u,rfl,ru⟩:=vals1 r;cases ru;rcases q with⟨kvs,e,q⟩|⟨kvs,e,ap,q⟩
 ·exact Jp4 I e λp s' hp I'=>⟨.ref p,_,I',rfl,q p hp⟩
 ·exact Jus I e ap λp s' hp I'=>⟨.ref p,_,I',rfl,q p hp⟩
def Jnj:U2 X (.builtin "len") (λxs H Q=>∃a kvs,xs=[V.ref a]/\H a=some (.dK kvs)/\Q (.int kvs.length) H):=by
 intro pins s U H xs us Q I r h;obtain⟨a,kvs,rfl,ha,q⟩:=h;obtain⟨u,rfl,ru⟩:=vals1 r;cases ru;exact J1k I (.inl ha) λt s' I'=>⟨.int kvs.length,H,I',⟨t,rfl⟩,q⟩
theorem boot_dict:C8 "dict"=some (.type "dict"):=by rfl
theorem boot_sorted:C8 "sorted"=some (.builtin "sorted"):=by rfl
def Zt(to:TE):TE:=λU H Q=>to U H λx H1=>∃a kvs ps,x=.ref a/\UpD H1 a kvs ps/\∀p,H1 p=none->Q (.ref p) (upd H1 p (.dT kvs))
def Jtu{ap cp:Pos}(hc:X.calm=true)(hu:X.A.units+8<Cw)(g1:Gl X "dict")(m1:X.mg "dict"=none)(g2:Gl X "sorted")(m2:X.mg "sorted"=none)(ho:PE X o to)
  (hbase:attributeBase o "items" X.env (eval o X.env)=eval o X.env)(hline:(ap.endLine==cp.line)=true):PE X (.Call (.Name "dict" p1) [.Call (.Name "sorted" p2) [.Call (.Attribute o "items" ap) [] [] cp] [] pos2] [] pos1) (Zt to):=by
 intro pins s U H Q I h;refine Rr (Jcf I g1 m1 boot_dict (C2 ?_ rfl rfl));show wpAny _ _ (Qf ((false,eval (.Call (.Name "sorted" p2) [.Call (.Attribute o "items" ap) [] [] cp] [] pos2) X.env)::D5 pos1 (Bl [] X.env))) _ _ s;refine Hx (Rr (Jcf I g2 m2 boot_sorted (Gj ?_ rfl rfl)));show wpAny _ _ (Qf ((false,eval (.Call (.Attribute o "items" ap) [] [] cp) X.env)::D5 pos2 (Bl [] X.env))) _ _ s;refine Hx (Pw hbase hline (thn (ho pins s U H _ I h) λv s1 ⟨x,H1,I1,r1,q1⟩=>?_));obtain⟨a,kvs,ps,rfl,⟨e,ek,up,hz⟩,q⟩:=q1;cases r1;obtain⟨h1,h2,_⟩:=Jri I1 (.inr ⟨kvs,e⟩);refine⟨"dict","dict.items",Iu,Mt,PySem.F.type_dict_items,h1,h2,Gn rfl (O3 ?_)⟩;refine thn (Jzg (I1.ok.hd hc) hu I1 e ek up hz λp s' hp I'=>(⟨.ref p,_,I',rfl,q p hp⟩:EP X pins U Q (.ref p) s')) λr s2 hr=>Ip (thn hr λl s3 hl=>Ip hl)
theorem Ju5:C8 "len"=some (.builtin "len"):=by rfl
theorem Ju4:C8 "set"=some (.type "set"):=by rfl
noncomputable def dst(ps:List Rdu.PK):Nat:=(Sbl.dd (λi=>[(ps.getD i (0,0)).1,(ps.getD i (0,0)).2]) ps.length).length
def tLs(K:Af)(ta:TA):TE:=λU H Q=>ta U H λvs H1=>∃p bs ps,vs=[.ref p]/\SqL K H1 p (bs.map V.ref)/\Paired (λk b=>SqT K H1 b ((pK k).map kV)) ps bs/\ps.length<4/\Q (.int (dst ps)) H1
theorem Jmd{α β:Type}{R:α->β->Prop}{xs:List α}{ys:List β}(h:Paired R xs ys):∀{i:Nat} {y:β},ys[i]? =some y->∃x,xs[i]? =some x/\R x y:=by
 induction h with
 |nil=>intro i y e;simp at e
 |cons h _ ih=>
  intro i y e;cases i with
  |zero=>cases e;exact⟨_,rfl,h⟩
  |succ i=>simp only[Bv]at e ⊢;exact ih e
def Jl7{e:Expr}{ta:TA}{p1 p2 pos1 pos2:Pos}(hc:X.calm=true)(hu:X.A.units+9<Cw)(g1:Gl X "len")(m1:X.mg "len"=none)(g2:Gl X "set")(m2:X.mg "set"=none)(he:PA X [e] ta)(hs:Bl [e] X.env=[(false,eval e X.env)]):
  PE X (.Call (.Name "len" p1) [.Call (.Name "set" p2) [e] [] pos2] [] pos1) (tLs X.K ta):=by
 intro pins s U H Q I h;refine Rr (Jcf I g1 m1 Ju5 (Gj ?_ rfl rfl));show wpAny _ _ (Qf ((false,eval (.Call (.Name "set" p2) [e] [] pos2) X.env)::D5 pos1 (Bl [] X.env))) _ _ s;refine Hx (Rr (Jcf I g2 m2 Ju4 (C2 (thn (he pos2 pins s U H _ I h) λus s1 ⟨vs,H1,I1,r1,q1⟩=>?_) (by rw[hs];rfl) rfl)));obtain⟨p,bs,ps,e1,hq,hp,hz,q⟩:=q1;subst e1;obtain⟨u,rfl,rx⟩:=vals1 r1;cases rx;obtain⟨its,rv,pl,_⟩:=I1.list hq;have hl:=rv.length;rw[Ai,<-Cg hp]at hl;have hsz:its.toArray.size=ps.length:=by rw[Ao,hl]
 refine Sbl.Jng (ks:=λi=>[(ps.getD i (0,0)).1,(ps.getD i (0,0)).2]) (I.ok.hd hc) hu pl.isList (λj v hv=>?_) (by rw[hsz];exact hz) λh' tk m=>?_
 ·have hv:its[j]? =some v:=by simpa using hv
  have hj:j<bs.length:=by rw[<-Cg hp,hl];exact(Ae.mp hv).1
  obtain⟨u,hu',ru⟩:=rv.get (show(bs.map V.ref)[j]? =some (.ref bs[j]) by rw[Aq,Ag hj];rfl);rw[hv]at hu';cases hu';cases ru;obtain⟨k,hk,sk⟩:=Jmd hp (Ag hj);refine⟨_,rfl,?_⟩;rw[Eg,hk];obtain⟨its2,r2,⟨o,g1,g2,n,g3⟩,_⟩:=I1.tuple sk;refine⟨o,its2.toArray,n,g1,g2,g3,?_⟩;cases r2 with
  |cons a1 r2=>
   cases r2 with
   |cons a2 r2=>
    cases r2;obtain⟨t,rfl⟩:=(show∃t,_=Dr k.1 t from a1)
    obtain⟨t2,rfl⟩:=(show∃t,_=Dr k.2 t from a2)
    exact .cons (by simp[intKind,Io]) (.cons (by simp[intKind,Io]) .nil)
 ·rw[hsz]at m;obtain⟨⟨kb,⟨o,es,ep,t,ho,hx,hd,he',T⟩,pm⟩,kp⟩:=m;have hn:es.size=dst ps:=by
   rw[<-By,he',Ai,<-Ai (f:=(·.1)),pm.length_eq];rfl
  refine Ip (PySem.call_len_set (s:={s1 with heap:=h',toks:=tk}) ho hx hd (T.fits he') (by rw[hn];have:dst ps<=ps.length:=Sbl.Jhh _ _;lia) ?_);exact⟨.int (dst ps),H1,I1.kept (t':=tk+1+1) λb o e=>kp b o (Am e) e,⟨tk+1,by rw[hn]⟩,q⟩
end
end L2
namespace Mi
open PySem L2
inductive D where
 |non|bl (b:Bool)|int (i:Int)|str (x:Str)|tup (ds:List D)|loc (l:Nat)|kl (ds:List D)|kd (kvs:List (Str×Int))
 deriving Inhabited
inductive Obj where
 |lst (ds:List D)|dct (kvs:List (Int×D))|dtu (kvs:List (Rdu.PK×D))|rg (kvs:List (RK×D))|ins (c:String) (fs:List (String×D))
 deriving Inhabited
abbrev Store:=List Obj
abbrev En:=List (Option D)
inductive Res (α:Type)where
 |ok (a:α) (S:Store)|err (c:String) (Z:En) (S:Store)|bad
noncomputable def Res.bind{α β:Type}(r:Res α)(f:α->Store->Res β):Res β:=match r with
 |.ok a S=>f a S
 |.err c Z S=>.err c Z S
 |.bad=>.bad
@[simp]theorem Res.bind_ok{α β:Type}(a:α)(S:Store)(f:α->Store->Res β):(Res.ok a S).bind f=f a S:=rfl
@[simp]theorem Res.bind_err{α β:Type}(c:String)(Z:En)(S:Store)(f:α->Store->Res β):(Res.err c Z S:Res α).bind f=.err c Z S:=rfl
@[simp]theorem Res.bind_bad{α β:Type}(f:α->Store->Res β):(Res.bad:Res α).bind f=.bad:=rfl
inductive Bnd {α β:Type} (r:Res α) (f:α->Store->Res β) (b:β) (S':Store):Prop
 |mk (a:α) (S:Store) (_:r=.ok a S) (_:f a S=.ok b S'):Bnd r f b S'
theorem Res.bind_eq_ok{α β:Type}{r:Res α}{f:α->Store->Res β}{b:β}{S':Store}(h:r.bind f=.ok b S'):Bnd r f b S':=by
 cases r with
 |ok a S=>exact⟨a,S,rfl,h⟩
 |err c Z S=>cases h
 |bad=>cases h
noncomputable def Line:Nat:=16777216
inductive Bop where|add|sub|mul|fdiv|mod|pow|shr deriving DecidableEq
inductive Cop where|eq|ne|lt|le|gt|ge|isc|isnc|inn|nin deriving DecidableEq
inductive Prim where|len|abs|min2|max2|int1|list1|tuple1|all1|sum1|sort1|dict1 deriving DecidableEq
inductive Meth where|append|pop0|get2|indexT|get1|pop1 deriving DecidableEq
noncomputable def U3:D->Option V
 |.non=>some .non
 |.bl b=>some (.bl b)
 |.int i=>some (.int i)
 |.str x=>some (.str x)
 |_=>none
noncomputable def seqAt(S:Store)(l:Nat):Option (List D):=match S[l]? with
 |some (.lst ds)=>some ds
 |_=>none
noncomputable def dctAt(S:Store)(l:Nat):Option (List (Int×D)):=match S[l]? with
 |some (.dct kvs)=>some kvs
 |_=>none
noncomputable def dVal{κ α:Type}[DecidableEq κ](kvs:List (κ×α))(k:κ):Option α:=(kvs.find? λp=>decide (p.1=k)).map (·.2)
noncomputable def dPut{κ α:Type}[DecidableEq κ](kvs:List (κ×α))(k:κ)(v:α):List (κ×α):=if kvs.any (λp=>decide (p.1=k))=true then kvs.map (λp=>if p.1=k then(p.1,v)else p)else kvs++[(k,v)]
noncomputable def dDrop{κ α:Type}[DecidableEq κ](kvs:List (κ×α))(k:κ):List (κ×α):=kvs.filter λp=>decide (p.1≠k)
noncomputable def kyD:D->Option Rdu.PK
 |.tup [.int a,.int b]=>some (a,b)
 |_=>none
noncomputable abbrev dK(p:Rdu.PK):D:=.tup [.int p.1,.int p.2]
noncomputable def scK:D->Option Key
 |.int i=>some (.inl i)
 |.str x=>some (.inr x)
 |_=>none
noncomputable def Wv{α β:Type}(f:α->Option β):List α->Option (List β)
 |[]=>some []
 |a::r=>match f a,Wv f r with
  |some b,some bs=>some (b::bs)
  |_,_=>none
noncomputable def rwK:D->Option (List Key)
 |.tup ds=>Wv scK ds
 |_=>none
noncomputable def lkK:D->Option RK
 |.tup ds=>Wv rwK ds
 |_=>none
noncomputable def V9(S:Store)(l:Nat)(y:D):Option (Option D):=match S[l]? with
 |some (.dct kvs)=>(match y with|.int i=>some (dVal kvs i)|_=>none)
 |some (.dtu kvs)=>(kyD y).map (dVal kvs)
 |_=>none
noncomputable def dtAt(S:Store)(l:Nat):Option (List (Rdu.PK×D)):=match S[l]? with
 |some (.dtu kvs)=>some kvs
 |_=>none
noncomputable def upB:List Rdu.PK->Bool
 |[]=>true
 |p::r=>(match r with|[]=>true|q::_=>Rdu.ltP p q)&&upB r
noncomputable def W8(ps:List Rdu.PK):Bool:=ps.all (λp=>decide (0<=p.1)&&decide (p.1<345)&&decide (0<=p.2)&&decide (p.2<3))&&decide ps.Nodup
noncomputable def V6(S:Store)(l:Nat)(c:String):Option (List (String×D)):=match S[l]? with
 |some (.ins c' fs)=>if c'=c then some fs else none
 |_=>none
noncomputable def isDm:Meth->Bool
 |.get1=>true|.pop1=>true
 |_=>false
noncomputable def rcv(p:Meth)(S:Store)(x:D):Bool:=match x with|.loc l=>if isDm p=true then(dctAt S l).isSome||(dtAt S l).isSome else(seqAt S l).isSome|_=> !isDm p
noncomputable def putD(f:String)(v:D):List (String×D)->List (String×D)
 |[]=>[(f,v)]
 |p::r=>if p.1=f then(p.1,v)::r else p::putD f v r
noncomputable def W1(S:Store)(x:D)(c f:String):Option D:=match x with
 |.loc l=>match V6 S l c with|some fs=>fs.lookup f|none=>none
 |_=>none
noncomputable def isRec(S:Store)(x:D)(c m:String):Bool:=match x with
 |.loc l=>match V6 S l c with|some fs=>(fs.lookup m).isNone|none=>false
 |_=>false
noncomputable def Xy(S:Store)(x:D)(c f:String)(v:D):Option Store:=match x with
 |.loc l=>match V6 S l c with|some fs=>if fs.length<1000 then some (S.set l (.ins c (putD f v fs)))else none|none=>none
 |_=>none
noncomputable def dIn(x y:D)(S:Store):Option Bool:=match y with
 |.loc l=>(V9 S l x).map Option.isSome
 |_=>none
noncomputable def eqL(f:D->D->Option Bool):List D->List D->Option Bool
 |[],[]=>some true
 |a::as,b::bs=>match f a b,eqL f as bs with
  |some x,some y=>some (x&&y)
  |_,_=>none
 |_,_=>some false
noncomputable def eqD(S:Store):Nat->D->D->Option Bool
 |0,a,b=>match U3 a,U3 b with
  |some x,some y=>some (eqV x y)
  |_,_=>none
 |n+1,a,b=>match a,b with
  |.tup as,.tup bs=>if as.length=bs.length then eqL (eqD S n) as bs else(if(eqL (eqD S n) (as.take bs.length) (bs.take as.length)).isSome then some false else none)
  |.loc l,.loc k=>match seqAt S l,seqAt S k with
   |some as,some bs=>if as.length=bs.length then eqL (eqD S n) as bs else some false
   |_,_=>none
  |a,b=>match U3 a,U3 b with
   |some x,some y=>some (eqV x y)
   |_,_=>none
noncomputable def Deep:Nat:=12
noncomputable def anyEq(S:Store)(n:Nat)(x:D):List D->Option Bool
 |[]=>some false
 |y::ys=>match eqD S n y x,anyEq S n x ys with
  |some a,some b=>some (a||b)
  |_,_=>none
noncomputable def small(i:Int):Bool:=decide (-(2^64)<i)&&decide (i<2^64)
noncomputable def mid(i:Int):Bool:=decide (i.natAbs<2^4096)
noncomputable def bop(o:Bop)(x y:D)(S:Store):Res D:=match o,x,y with
 |.add,.int i,.int j=>.ok (.int (i+j)) S
 |.add,.tup a,.tup b=>if a.length+b.length<=Line then .ok (.tup (a++b)) S else .bad
 |.add,.loc l,.loc k=>match S[l]?,S[k]? with
  |some (.lst a),some (.lst b)=>if a.length+b.length<=Line then .ok (.loc S.length) (S++[.lst (a++b)])else .bad
  |_,_=>.bad
 |.shr,.int i,.int j=>if 0<=j then .ok (.int (i/2^j.toNat)) S else .bad
 |.sub,.int i,.int j=>.ok (.int (i-j)) S
 |.mul,.int i,.int j=>if small i||small j||(mid i&&mid j)then .ok (.int (i*j)) S else .bad
 |.fdiv,.int i,.int j=>if 0<j/\j.natAbs<2^4096 then .ok (.int (i/j)) S else .bad
 |.mod,.int i,.int j=>if 0<j then .ok (.int (i%j)) S else .bad
 |.pow,.int i,.int j=>if decide (0<=j)&&decide (j<=1000000)&&decide (i.natAbs<2^64)then .ok (.int (i^j.toNat)) S else .bad
 |.add,.kl a,.loc k=>match S[k]? with
  |some (.lst b)=>if a.length+b.length<=Line then .ok (.loc S.length) (S++[.lst (a++b)])else .bad
  |_=>.bad
 |_,_,_=>.bad
noncomputable def Ut(S:Store):D->Option (List D)
 |.tup ds=>some ds
 |.loc l=>seqAt S l
 |.kl ds=>some ds
 |_=>none
noncomputable def Xh(S:Store)(x y:D):Option Bool:=match x,y with
 |.loc l,.loc k=>match dtAt S l,dtAt S k with
  |some a,some b=>if a.length=b.length/\(a.all λp=>match dVal b p.1 with|some d=>eqD S Deep p.2 d==some true|none=>false)=true then some false else none
  |_,_=>none
 |_,_=>none
noncomputable def cop(o:Cop)(x y:D)(S:Store):Option Bool:=match o with
 |.eq=>eqD S Deep x y
 |.ne=>match Xh S x y with|some b=>some b|none=>(eqD S Deep x y).map (!·)
 |.lt=>match x,y with|.int i,.int j=>some (decide (i<j))|_,_=>none
 |.le=>match x,y with|.int i,.int j=>some (decide (i<=j))|_,_=>none
 |.gt=>match x,y with|.int i,.int j=>some (decide (j<i))|_,_=>none
 |.ge=>match x,y with|.int i,.int j=>some (decide (j<=i))|_,_=>none
 |.isc=>match y with|.non=>some (match x with|.non=>true|_=>false)|_=>none
 |.isnc=>match y with|.non=>some (match x with|.non=>false|_=>true)|_=>none
 |.inn=>match Ut S y with|some ds=>anyEq S Deep x ds|none=>dIn x y S
 |.nin=>match Ut S y with|some ds=>(anyEq S Deep x ds).map (!·)|none=>(dIn x y S).map (!·)
noncomputable def tru(S:Store):D->Option Bool
 |.non=>some false
 |.bl b=>some b
 |.int i=>some (i !=0)
 |.tup ds=>some (!ds.isEmpty)
 |.loc l=>match seqAt S l with|some ds=>some (!ds.isEmpty)|none=>none
 |.kl ds=>some (!ds.isEmpty)
 |_=>none
noncomputable def idxD(x y:D)(S:Store):Option D:=match Ut S x with
 |some ds=>(match y with|.int i=>atI ds i|_=>none)
 |none=>match x with
  |.loc l=>match S[l]? with
   |some (.rg kvs)=>(lkK y).bind (dVal kvs)
   |_=>(V9 S l y).join
  |_=>none
noncomputable def cutD(xs:List D)(lo hi:Option Int):List D:=(xs.drop (HT.sIx xs.length 0 lo)).take (HT.sIx xs.length xs.length hi-HT.sIx xs.length 0 lo)
noncomputable def Vt(x:D)(lo hi:Option Int)(S:Store):Res D:=match x with
 |.tup ds=>.ok (.tup (cutD ds lo hi)) S
 |.loc l=>match seqAt S l with
  |some ds=>.ok (.loc S.length) (S++[.lst (cutD ds lo hi)])
  |none=>.bad
 |.kl ds=>.ok (.loc S.length) (S++[.lst (cutD ds lo hi)])
 |_=>.bad
noncomputable def tyD(S:Store):D->Option String
 |.non=>some "NoneType"
 |.bl _=>some "bool"
 |.int _=>some "int"
 |.str _=>some "str"
 |.tup _=>some "tuple"
 |.loc l=>match S[l]? with|some (.lst _)=>some "list"|_=>none
 |.kl _=>none
 |.kd _=>none
noncomputable def isiD(t c:String):Bool:=t==c||(t=="bool"&&c=="int")
noncomputable def allB:List D->Option Bool
 |[]=>some true
 |.bl b::r=>(allB r).map (b&&·)
 |_=>none
noncomputable def sumI:List D->Option Int
 |[]=>some 0
 |.int i::r=>(sumI r).map (i+·)
 |_=>none
noncomputable def Uo(p:Prim)(ds:List D)(S:Store):Res D:=match p,ds with
 |.len,[x]=>match Ut S x with
  |some ds=>.ok (.int ds.length) S
  |none=>match x with|.loc l=>(match dctAt S l with|some kvs=>.ok (.int kvs.length) S|none=>.bad)|_=>.bad
 |.abs,[.int i]=>.ok (.int (if i<0 then -i else i)) S
 |.max2,[.int i,.int j]=>.ok (.int (if j>i then j else i)) S
 |.min2,[.int i,.int j]=>.ok (.int (if j<i then j else i)) S
 |.int1,[.int i]=>.ok (.int i) S
 |.int1,[.bl b]=>.ok (.int (if b then 1 else 0)) S
 |.list1,[x]=>match Ut S x with
  |some ds=>.ok (.loc S.length) (S++[.lst ds])
  |none=>match x with
   |.loc l=>match dctAt S l with|some kvs=>.ok (.loc S.length) (S++[.lst (kvs.map λp=>.int p.1)])|none=>.bad
   |_=>.bad
 |.tuple1,[x]=>match Ut S x with
  |some ds=>.ok (.tup ds) S
  |none=>.bad
 |.all1,[.loc l]=>match seqAt S l with|some ds=>(match allB ds with|some b=>.ok (.bl b) S|none=>.bad)|none=>.bad
 |.sum1,[.loc l]=>match seqAt S l with|some ds=>(match sumI ds with|some b=>.ok (.int b) S|none=>.bad)|none=>.bad
 |.sort1,[.loc l]=>(match dtAt S l with|some kvs=>if upB (kvs.map (·.1))=true/\kvs.length<Line then .ok (.loc S.length) (S++[.lst (kvs.map λp=>dK p.1)])else .bad|none=>.bad)
 |.dict1,[.loc l]=>(match S[l]? with
  |some (.dct kvs)=>.ok (.loc S.length) (S++[.dct kvs])
  |some (.dtu kvs)=>if W8 (kvs.map (·.1))=true then .ok (.loc S.length) (S++[.dtu kvs])else .bad
  |_=>.bad)
 |_,_=>.bad
noncomputable def Xd(S:Store)(x:D)(ds:List D):Option Nat:=if ds.all (λy=>(eqD S 0 y x).isSome)then ds.findIdx? (λy=>eqD S 0 y x==some true)else none
noncomputable def Uw(p:Meth)(o:D)(ds:List D)(S:Store):Res D:=match p,o,ds with
 |.append,.loc l,[y]=>match S[l]? with
  |some (.lst xs)=>if xs.length<Line then .ok .non (S.set l (.lst (xs++[y])))else .bad
  |_=>.bad
 |.pop0,.loc l,[]=>match S[l]? with
  |some (.lst xs)=>match xs[xs.length-1]? with
   |some y=>.ok y (S.set l (.lst xs.dropLast))
   |none=>.bad
  |_=>.bad
 |.indexT,.tup xs,[y]=>if xs.length<=Line then(match Xd S y xs with|some j=>.ok (.int j) S|none=>.bad)else .bad
 |.get2,.kd kvs,[.str x,y]=>.ok (match kvs.lookup x with|some n=>.int n|none=>y) S
 |.get1,.loc l,[y]=>(match V9 S l y with|some o=>.ok (o.getD .non) S|none=>.bad)
 |.pop1,.loc l,[y]=>(match dtAt S l,kyD y with
  |some kvs,some k=>(match dVal kvs k with|some d=>.ok d (S.set l (.dtu (dDrop kvs k)))|none=>.bad)
  |_,_=>.bad)
 |_,_,_=>.bad
inductive M where
 |nul|cns (a b:M)
 |cst (d:D)|var (i:Nat)|glb (x:String)
 |bin (o:Bop) (a b:M)|neg (a:M)|bit (a:M)|nott (a:M)|bo (w:Bool) (as:M)
 |cmp (o:Cop) (a b:M)|cmp2 (o p:Cop) (a b c:M)|ife (c a b:M)
 |tup (as:M)|lst (as:M)|idx (a b:M)|sli (a lo hi:M)
 |call (f:String) (as:M)|prim (p:Prim) (as:M)|isi (a:M) (t:String)|meth (p:Meth) (o as:M)
 |comp (N:List String) (k:Nat) (keep:List Nat) (tg it cd el:M)
 |rng (a:M)|enm (a:M)|zp (a b:M)
 |dnil (k:Nat)|hld (a:M)|lsp (a:M)|fld (c f:String) (a:M)|mcl (c m f:String) (o as:M)|new (c f:String)
 |tvar (i:Nat)|ttup (ts:M)|tsub (a b:M)
 |asg (t e:M)|aug (i:Nat) (e:M)|ifs (c a b:M)|forr (t i b:M)|ret (e:M)|exp (e:M)|rse|sfd (c f:String) (o v:M)
inductive Fl where
 |nx (Z:En)|rt (d:D)
structure Pr where
 call:String->List D->Store->Res D
 glob:String->Option D
 W:Nat
noncomputable def Vi(o i v:D)(S:Store):Res Unit:=match o with
 |.loc l=>match S[l]? with
  |some (.lst xs)=>(match i with
   |.int k=>(match ixN xs.length k with
    |some j=>.ok () (S.set l (.lst (xs.set j v)))
    |none=>.bad)
   |_=>.bad)
  |some (.dct kvs)=>(match i with|.int k=>if kvs.length<Line then .ok () (S.set l (.dct (dPut kvs k v)))else .bad|_=>.bad)
  |some (.dtu kvs)=>(match kyD i with|some k=>if kvs.length<Line then .ok () (S.set l (.dtu (dPut kvs k v)))else .bad|none=>.bad)
  |some (.rg kvs)=>(match lkK i with|some k=>if kvs.length<Line then .ok () (S.set l (.rg (dPut kvs k v)))else .bad|none=>.bad)
  |_=>.bad
 |_=>.bad
inductive Kd where|lst|enm|zip
abbrev Wk:=Option (Nat×Kd)
noncomputable def sameAt(S:Store)(g:Wk)(n:Nat):Bool:=match g with
 |none=>true
 |some (l,_)=>match S[l]? with
  |some (.lst ds)=>ds.length==n
  |_=>false
noncomputable def nth(S:Store)(g:Wk)(ds:List D)(i:Nat):Option D:=match g with
 |none=>ds[i]?
 |some (l,.enm)=>match seqAt S l with
  |some es=>(es[i]?).map λx=>.tup [.int i,x]
  |none=>none
 |some (l,.zip)=>match seqAt S l with
  |some es=>match es[i]?,ds[i]? with
   |some x,some y=>some (.tup [x,y])
   |_,_=>none
  |none=>none
 |some (l,.lst)=>match seqAt S l with
  |some es=>es[i]?
  |none=>none
noncomputable def enD:Nat->List D->List D
 |_,[]=>[]
 |i,x::r=>.tup [.int i,x]::enD (i+1) r
noncomputable def forL(turn:D->En->Store->Res Fl)(g:Wk)(ds:List D):Nat->Nat->En->Store->Res Fl
 |0,i,Z,S=>if sameAt S g ds.length then .ok (.nx Z) S else .bad
 |f+1,i,Z,S=>if sameAt S g ds.length then(match nth S g ds i with
   |none=>.bad
   |some d=>(turn d Z S).bind λfl S1=>match fl with
    |.nx τ1=>forL turn g ds f (i+1) τ1 S1
    |.rt d=>.ok (.rt d) S1)else .bad
noncomputable def Vh(turn:D->En->Store->Res (Option D))(g:Wk)(ds:List D):Nat->Nat->En->Store->List D->Res (List D)
 |0,i,Z,S,acc=>if sameAt S g ds.length then .ok acc S else .bad
 |f+1,i,Z,S,acc=>if sameAt S g ds.length then(match nth S g ds i with
   |none=>.bad
   |some d=>(turn d Z S).bind λo S1=>match o with
    |some y=>if acc.length<Line then Vh turn g ds f (i+1) Z S1 (acc++[y])else .bad
    |none=>Vh turn g ds f (i+1) Z S1 acc)else .bad
noncomputable def Us(k:Nat)(keep:List Nat)(Z:En):En:=E1 k none++keep.map λi=>(Z[i]?).join
noncomputable def Xl(x:D)(S:Store):Res D:=match x with
 |.loc l=>(match dtAt S l with|some kvs=>if upB (kvs.map (·.1))=true/\kvs.length<Line then .ok (.loc S.length) (S++[.dtu kvs])else .bad|none=>.bad)
 |_=>.bad
noncomputable def zpD(x y:D)(S:Store):Res (Wk×List D):=match x,y with
 |.loc l,.tup ds=>(match seqAt S l with|some es=>if es.length=ds.length then .ok (some (l,.zip),ds) S else .bad|none=>.bad)
 |_,_=>.bad
noncomputable def Xi(x:D)(S:Store):Res D:=match x with
 |.loc l=>(match(seqAt S l).bind (Wv kyD)with|some ps=>if ps.length<4 then .ok (.int (dst ps)) S else .bad|none=>.bad)
 |_=>.bad
mutual
noncomputable def evE(C:Pr):M->En->Store->Res D
 |.cst d,_,S=>.ok d S
 |.var i,Z,S=>match Z[i]? with|some (some d)=>.ok d S|_=>.bad
 |.glb x,_,S=>match C.glob x with|some d=>.ok d S|none=>.bad
 |.bin o a b,Z,S=>(evE C a Z S).bind λx S1=>(evE C b Z S1).bind λy S2=>bop o x y S2
 |.neg a,Z,S=>(evE C a Z S).bind λx S1=>match x with|.int i=>.ok (.int (-i)) S1|_=>.bad
 |.bit a,Z,S=>(evE C a Z S).bind λx S1=>match x with|.int i=>.ok (.int (Bs i)) S1|_=>.bad
 |.nott a,Z,S=>(evE C a Z S).bind λx S1=>match tru S1 x with|some b=>.ok (.bl (!b)) S1|none=>.bad
 |.bo w as,Z,S=>evBV C w as Z S
 |.cmp o a b,Z,S=>(evE C a Z S).bind λx S1=>(evE C b Z S1).bind λy S2=>match cop o x y S2 with|some k=>.ok (.bl k) S2|none=>.bad
 |.cmp2 o p a b c,Z,S=>(evE C a Z S).bind λx S1=>(evE C b Z S1).bind λy S2=>match cop o x y S2 with
  |some true=>(evE C c Z S2).bind λz S3=>(match cop p y z S3 with|some k=>.ok (.bl k) S3|none=>.bad)
  |some false=>.ok (.bl false) S2
  |none=>.bad
 |.ife c a b,Z,S=>(evT C c Z S).bind λk S1=>if k then evE C a Z S1 else evE C b Z S1
 |.tup as,Z,S=>(evA C as Z S).bind λds S1=>if ds.length<=Line then .ok (.tup ds) S1 else .bad
 |.lst as,Z,S=>(evA C as Z S).bind λds S1=>if ds.length<=Line then .ok (.loc S1.length) (S1++[.lst ds])else .bad
 |.idx a b,Z,S=>(evE C a Z S).bind λx S1=>(evE C b Z S1).bind λy S2=>match idxD x y S2 with|some d=>.ok d S2|none=>.bad
 |.sli a lo hi,Z,S=>(evE C a Z S).bind λx S1=>(evO C lo Z S1).bind λl S2=>(evO C hi Z S2).bind λh S3=>Vt x l h S3
 |.call f as,Z,S=>(evA C as Z S).bind λds S1=>C.call f ds S1
 |.prim p as,Z,S=>(evA C as Z S).bind λds S1=>Uo p ds S1
 |.isi a t,Z,S=>(evE C a Z S).bind λx S1=>match tyD S1 x with|some y=>.ok (.bl (isiD y t)) S1|none=>.bad
 |.meth p o as,Z,S=>(evE C o Z S).bind λx S1=>if rcv p S1 x then(evA C as Z S1).bind λds S2=>Uw p x ds S2 else .bad
 |.comp N k keep tg it cd el,Z,S=>(evI C it Z S).bind λw S1=>
   (Vh (λd τ1 S2=>(evG C tg d τ1 S2).bind λτ2 S3=>(evC C cd τ2 S3).bind λb S4=>if b then(evE C el τ2 S4).bind λy S5=>.ok (some y) S5 else .ok none S4) w.1 w.2 w.2.length 0 (Us k keep Z) S1 []).bind
    λys S6=>.ok (.loc S6.length) (S6++[.lst ys])
 |.dnil k,_,S=>.ok (.loc S.length) (S++[match k with|0=>.dct []|1=>.dtu []|_=>.rg []])
 |.hld a,Z,S=>(evE C a Z S).bind λx S1=>Xl x S1
 |.lsp a,Z,S=>(evE C a Z S).bind λx S1=>Xi x S1
 |.fld c f a,Z,S=>(evE C a Z S).bind λx S1=>match W1 S1 x c f with|some d=>.ok d S1|none=>.bad
 |.mcl c m f o as,Z,S=>(evE C o Z S).bind λx S1=>if isRec S1 x c m then(evA C as Z S1).bind λds S2=>C.call f (x::ds) S2 else .bad
 |.new c f,_,S=>(C.call f [.loc S.length] (S++[.ins c []])).bind λd S1=>match d with|.non=>.ok (.loc S.length) S1|_=>.bad
 |_,_,_=>.bad
noncomputable def evT(C:Pr):M->En->Store->Res Bool
 |.nott a,Z,S=>(evT C a Z S).bind λb S1=>.ok (!b) S1
 |.bo w as,Z,S=>evBT C w as Z S
 |.cmp o a b,Z,S=>(evE C a Z S).bind λx S1=>(evE C b Z S1).bind λy S2=>match cop o x y S2 with|some k=>.ok k S2|none=>.bad
 |.cmp2 o p a b c,Z,S=>(evE C a Z S).bind λx S1=>(evE C b Z S1).bind λy S2=>match cop o x y S2 with
  |some true=>(evE C c Z S2).bind λz S3=>(match cop p y z S3 with|some k=>.ok k S3|none=>.bad)
  |some false=>.ok false S2
  |none=>.bad
 |.var i,Z,S=>match Z[i]? with|some (some d)=>(match tru S d with|some b=>.ok b S|none=>.bad)|_=>.bad
 |.idx a b,Z,S=>(evE C a Z S).bind λx S1=>(evE C b Z S1).bind λy S2=>match idxD x y S2 with|some d=>(match tru S2 d with|some b=>.ok b S2|none=>.bad)|none=>.bad
 |.call f as,Z,S=>(evA C as Z S).bind λds S1=>(C.call f ds S1).bind λd S2=>match tru S2 d with|some b=>.ok b S2|none=>.bad
 |.prim p as,Z,S=>(evA C as Z S).bind λds S1=>(Uo p ds S1).bind λd S2=>match tru S2 d with|some b=>.ok b S2|none=>.bad
 |.isi a t,Z,S=>(evE C a Z S).bind λx S1=>match tyD S1 x with|some y=>.ok (isiD y t) S1|none=>.bad
 |.mcl c m f o as,Z,S=>(evE C o Z S).bind λx S1=>if isRec S1 x c m then(evA C as Z S1).bind λds S2=>(C.call f (x::ds) S2).bind λd S3=>match tru S3 d with|some b=>.ok b S3|none=>.bad else .bad
 |_,_,_=>.bad
noncomputable def evBV(C:Pr)(w:Bool):M->En->Store->Res D
 |.cns a .nul,Z,S=>evE C a Z S
 |.cns a r,Z,S=>(evE C a Z S).bind λx S1=>match x with|.bl c=>if c=w then evBV C w r Z S1 else .ok (.bl (!w)) S1|_=>.bad
 |_,_,_=>.bad
noncomputable def evBT(C:Pr)(w:Bool):M->En->Store->Res Bool
 |.cns a .nul,Z,S=>evT C a Z S
 |.cns a r,Z,S=>(evT C a Z S).bind λc S1=>if c=w then evBT C w r Z S1 else .ok (!w) S1
 |_,_,_=>.bad
noncomputable def evC(C:Pr):M->En->Store->Res Bool
 |.nul,_,S=>.ok true S
 |.cns c .nul,Z,S=>evT C c Z S
 |_,_,_=>.bad
noncomputable def evA(C:Pr):M->En->Store->Res (List D)
 |.nul,_,S=>.ok [] S
 |.cns a b,Z,S=>(evE C a Z S).bind λx S1=>(evA C b Z S1).bind λxs S2=>.ok (x::xs) S2
 |_,_,_=>.bad
noncomputable def evO(C:Pr):M->En->Store->Res (Option Int)
 |.nul,_,S=>.ok none S
 |.cns a .nul,Z,S=>(evE C a Z S).bind λx S1=>match x with|.int i=>.ok (some i) S1|_=>.bad
 |_,_,_=>.bad
noncomputable def evI(C:Pr):M->En->Store->Res (Wk×List D)
 |.rng a,Z,S=>(evE C a Z S).bind λx S1=>match x with
  |.int j=>if decide (-(2^62)<=j)&&decide (j<2^62)then .ok (none,(B1 j.toNat).map λ(i:Nat)=>.int i) S1 else .bad
  |_=>.bad
 |.cns a .nul,Z,S=>(evE C a Z S).bind λx S1=>match x with
  |.tup ds=>.ok (none,ds) S1
  |.kl ds=>.ok (none,ds) S1
  |.loc l=>(match seqAt S1 l with|some ds=>.ok (some (l,.lst),ds) S1|none=>.bad)
  |_=>.bad
 |.enm a,Z,S=>(evE C a Z S).bind λx S1=>match x with
  |.loc l=>(match seqAt S1 l with|some ds=>.ok (some (l,.enm),ds) S1|none=>.bad)
  |.tup ds=>.ok (none,enD 0 ds) S1
  |_=>.bad
 |.zp a b,Z,S=>(evE C a Z S).bind λx S1=>(evE C b Z S1).bind λy S2=>zpD x y S2
 |_,_,_=>.bad
noncomputable def evG(C:Pr):M->D->En->Store->Res En
 |.tvar i,d,Z,S=>if i<Z.length then .ok (Z.set i (some d)) S else .bad
 |.ttup ts,d,Z,S=>match d with|.tup ds=>evGs C ts ds Z S|_=>.bad
 |.tsub a b,d,Z,S=>(evE C a Z S).bind λo S1=>(evE C b Z S1).bind λi S2=>(Vi o i d S2).bind λ_ S3=>.ok Z S3
 |_,_,_,_=>.bad
noncomputable def evGs(C:Pr):M->List D->En->Store->Res En
 |.nul,ds,Z,S=>match ds with|[]=>.ok Z S|_=>.bad
 |.cns t ts,ds,Z,S=>match ds with|d::r=>(evG C t d Z S).bind λτ1 S1=>evGs C ts r τ1 S1|[]=>.bad
 |_,_,_,_=>.bad
noncomputable def evS(C:Pr):M->En->Store->Res Fl
 |.asg t e,Z,S=>(evE C e Z S).bind λd S1=>(evG C t d Z S1).bind λτ1 S2=>.ok (.nx τ1) S2
 |.aug i e,Z,S=>(match Z[i]? with
  |some (some (.int x))=>(evE C e Z S).bind λy S1=>(match y with|.int z=>.ok (.nx (Z.set i (some (.int (x+z))))) S1|_=>.bad)
  |_=>.bad)
 |.ifs c a b,Z,S=>(evT C c Z S).bind λk S1=>if k then evB C a Z S1 else evB C b Z S1
 |.forr t i b,Z,S=>(evI C i Z S).bind λw S1=>forL (λd τ1 S2=>(evG C t d τ1 S2).bind λτ2 S3=>evB C b τ2 S3) w.1 w.2 w.2.length 0 Z S1
 |.ret e,Z,S=>(evE C e Z S).bind λd S1=>.ok (.rt d) S1
 |.exp e,Z,S=>(evE C e Z S).bind λ_ S1=>.ok (.nx Z) S1
 |.sfd c f o v,Z,S=>(evE C v Z S).bind λy S1=>(evE C o Z S1).bind λx S2=>match Xy S2 x c f y with|some S3=>.ok (.nx Z) S3|none=>.bad
 |_,_,_=>.bad
noncomputable def evB(C:Pr):M->En->Store->Res Fl
 |.nul,Z,S=>.ok (.nx Z) S
 |.cns s r,Z,S=>(evS C s Z S).bind λfl S1=>match fl with
  |.nx τ1=>evB C r τ1 S1
  |.rt d=>.ok (.rt d) S1
 |_,_,_=>.bad
end
structure Fn where
 ps:List String
 N:List String
 body:M
noncomputable abbrev Tb:=String->Option Fn
noncomputable def callN(T:Tb)(G:String->Option D)(W:Nat):Nat->String->List D->Store->Res D
 |0,_,_,_=>.bad
 |n+1,f,ds,S=>match T f with
  |none=>.bad
  |some F=>if ds.length=F.ps.length then(evB ⟨callN T G W n,G,W⟩ F.body (ds.map some++E1 (F.N.length-ds.length) none) S).bind λfl S1=>match fl with
    |.rt d=>.ok d S1
    |.nx _=>.ok .non S1
   else .bad
def Jaa{α:Type}{d:α}{S:Store}:¬(Res.bad:Res α)=.ok d S:=nofun
theorem Jw6:bop (.add) (.int i) (.int j) S=(.ok (.int (i+j)) S):=rfl
theorem Jq3:bop (.add) (.tup a) (.tup b) S=(if a.length+b.length<=Line then .ok (.tup (a++b)) S else .bad):=rfl
theorem Jq2:bop (.add) (.loc l) (.loc k) S=(match S[l]?,S[k]? with
  |some (.lst a),some (.lst b)=>if a.length+b.length<=Line then .ok (.loc S.length) (S++[.lst (a++b)])else .bad
  |_,_=>.bad):=rfl
theorem Jl1:bop (.shr) (.int i) (.int j) S=(if 0<=j then .ok (.int (i/2^j.toNat)) S else .bad):=rfl
theorem Jw5:bop (.sub) (.int i) (.int j) S=(.ok (.int (i-j)) S):=rfl
theorem Jq1:bop (.mul) (.int i) (.int j) S=(if small i||small j||(mid i&&mid j)then .ok (.int (i*j)) S else .bad):=rfl
theorem Jq0:bop (.fdiv) (.int i) (.int j) S=(if 0<j/\j.natAbs<2^4096 then .ok (.int (i/j)) S else .bad):=rfl
theorem Jqz:bop (.mod) (.int i) (.int j) S=(if 0<j then .ok (.int (i%j)) S else .bad):=rfl
theorem Jl2:bop (.pow) (.int i) (.int j) S=(if decide (0<=j)&&decide (j<=1000000)&&decide (i.natAbs<2^64)then .ok (.int (i^j.toNat)) S else .bad):=rfl
theorem Js8:bop (.add) (.kl a) (.loc k) S=(match S[k]? with
  |some (.lst b)=>if a.length+b.length<=Line then .ok (.loc S.length) (S++[.lst (a++b)])else .bad
  |_=>.bad):=rfl
theorem Jft:Uo (.len) ([x]) S=(match Ut S x with
  |some ds=>.ok (.int ds.length) S
  |none=>match x with|.loc l=>(match dctAt S l with|some kvs=>.ok (.int kvs.length) S|none=>.bad)|_=>.bad):=rfl
theorem Jof:Uo (.abs) ([.int i]) S=(.ok (.int (if i<0 then -i else i)) S):=rfl
theorem Joe:Uo (.max2) ([.int i,.int j]) S=(.ok (.int (if j>i then j else i)) S):=rfl
theorem Jod:Uo (.min2) ([.int i,.int j]) S=(.ok (.int (if j<i then j else i)) S):=rfl
theorem Joc:Uo (.int1) ([.int i]) S=(.ok (.int i) S):=rfl
theorem Job:Uo (.int1) ([.bl b]) S=(.ok (.int (if b then 1 else 0)) S):=rfl
theorem Ji9:Uo (.list1) ([x]) S=(match Ut S x with
  |some ds=>.ok (.loc S.length) (S++[.lst ds])
  |none=>match x with
   |.loc l=>match dctAt S l with|some kvs=>.ok (.loc S.length) (S++[.lst (kvs.map λp=>.int p.1)])|none=>.bad
   |_=>.bad):=rfl
theorem Ji8:Uo (.tuple1) ([x]) S=(match Ut S x with
  |some ds=>.ok (.tup ds) S
  |none=>.bad):=rfl
theorem Jg4:Uo (.all1) ([.loc l]) S=(match seqAt S l with|some ds=>(match allB ds with|some b=>.ok (.bl b) S|none=>.bad)|none=>.bad):=rfl
theorem Jg3:Uo (.sum1) ([.loc l]) S=(match seqAt S l with|some ds=>(match sumI ds with|some b=>.ok (.int b) S|none=>.bad)|none=>.bad):=rfl
theorem Jg2:Uo (.sort1) ([.loc l]) S=(match dtAt S l with|some kvs=>if upB (kvs.map (·.1))=true/\kvs.length<Line then .ok (.loc S.length) (S++[.lst (kvs.map λp=>dK p.1)])else .bad|none=>.bad):=rfl
theorem Jd5:Uo (.dict1) ([.loc l]) S=(match S[l]? with
  |some (.dct kvs)=>.ok (.loc S.length) (S++[.dct kvs])
  |some (.dtu kvs)=>if W8 (kvs.map (·.1))=true then .ok (.loc S.length) (S++[.dtu kvs])else .bad
  |_=>.bad):=rfl
theorem Jjf:Uw (.append) (.loc l) ([y]) S=(match S[l]? with
  |some (.lst xs)=>if xs.length<Line then .ok .non (S.set l (.lst (xs++[y])))else .bad
  |_=>.bad):=rfl
theorem Jje:Uw (.pop0) (.loc l) ([]) S=(match S[l]? with
  |some (.lst xs)=>match xs[xs.length-1]? with
   |some y=>.ok y (S.set l (.lst xs.dropLast))
   |none=>.bad
  |_=>.bad):=rfl
theorem Joh:Uw (.indexT) (.tup xs) ([y]) S=(if xs.length<=Line then(match Xd S y xs with|some j=>.ok (.int j) S|none=>.bad)else .bad):=rfl
theorem Jjd:Uw (.get2) (.kd kvs) ([.str x,y]) S=(.ok (match kvs.lookup x with|some n=>.int n|none=>y) S):=rfl
theorem Jjc:Uw (.get1) (.loc l) ([y]) S=(match V9 S l y with|some o=>.ok (o.getD .non) S|none=>.bad):=rfl
theorem Jjb:Uw (.pop1) (.loc l) ([y]) S=(match dtAt S l,kyD y with
  |some kvs,some k=>(match dVal kvs k with|some d=>.ok d (S.set l (.dtu (dDrop kvs k)))|none=>.bad)
  |_,_=>.bad):=rfl
theorem Jji:evE C (.cst d) (u1') (S)=(.ok d S):=rfl
theorem Jqx:evE C (.var i) (Z) (S)=(match Z[i]? with|some (some d)=>.ok d S|_=>.bad):=rfl
theorem Je8:evE C (.glb x) (u1') (S)=(match C.glob x with|some d=>.ok d S|none=>.bad):=rfl
theorem Jwy:evE C (.bin o a b) (Z) (S)=((evE C a Z S).bind λx S1=>(evE C b Z S1).bind λy S2=>bop o x y S2):=rfl
theorem Jwx:evE C (.neg a) (Z) (S)=((evE C a Z S).bind λx S1=>match x with|.int i=>.ok (.int (-i)) S1|_=>.bad):=rfl
theorem Joj:evE C (.bit a) (Z) (S)=((evE C a Z S).bind λx S1=>match x with|.int i=>.ok (.int (Bs i)) S1|_=>.bad):=rfl
theorem Jww:evE C (.nott a) (Z) (S)=((evE C a Z S).bind λx S1=>match tru S1 x with|some b=>.ok (.bl (!b)) S1|none=>.bad):=rfl
theorem Jwv:evE C (.bo w as) (Z) (S)=(evBV C w as Z S):=rfl
theorem Jwu:evE C (.cmp o a b) (Z) (S)=((evE C a Z S).bind λx S1=>(evE C b Z S1).bind λy S2=>match cop o x y S2 with|some k=>.ok (.bl k) S2|none=>.bad):=rfl
theorem Jjh:evE C (.cmp2 o p a b c) (Z) (S)=((evE C a Z S).bind λx S1=>(evE C b Z S1).bind λy S2=>match cop o x y S2 with
  |some true=>(evE C c Z S2).bind λz S3=>(match cop p y z S3 with|some k=>.ok (.bl k) S3|none=>.bad)
  |some false=>.ok (.bl false) S2
  |none=>.bad):=rfl
theorem Jwt:evE C (.ife c a b) (Z) (S)=((evT C c Z S).bind λk S1=>if k then evE C a Z S1 else evE C b Z S1):=rfl
theorem Js4:evE C (.tup as) (Z) (S)=((evA C as Z S).bind λds S1=>if ds.length<=Line then .ok (.tup ds) S1 else .bad):=rfl
theorem Js3:evE C (.lst as) (Z) (S)=((evA C as Z S).bind λds S1=>if ds.length<=Line then .ok (.loc S1.length) (S1++[.lst ds])else .bad):=rfl
theorem Jly:evE C (.idx a b) (Z) (S)=((evE C a Z S).bind λx S1=>(evE C b Z S1).bind λy S2=>match idxD x y S2 with|some d=>.ok d S2|none=>.bad):=rfl
theorem Js2:evE C (.sli a lo hi) (Z) (S)=((evE C a Z S).bind λx S1=>(evO C lo Z S1).bind λl S2=>(evO C hi Z S2).bind λh S3=>Vt x l h S3):=rfl
theorem Jlx:evE C (.call f as) (Z) (S)=((evA C as Z S).bind λds S1=>C.call f ds S1):=rfl
theorem Jlw:evE C (.prim p as) (Z) (S)=((evA C as Z S).bind λds S1=>Uo p ds S1):=rfl
theorem Jlv:evE C (.isi a t) (Z) (S)=((evE C a Z S).bind λx S1=>match tyD S1 x with|some y=>.ok (.bl (isiD y t)) S1|none=>.bad):=rfl
theorem Jbl:evE C (.meth p o as) (Z) (S)=((evE C o Z S).bind λx S1=>if rcv p S1 x then(evA C as Z S1).bind λds S2=>Uw p x ds S2 else .bad):=rfl
theorem Jlu:evE C (.comp N k keep tg it cd el) (Z) (S)=((evI C it Z S).bind λw S1=>
   (Vh (λd τ1 S2=>(evG C tg d τ1 S2).bind λτ2 S3=>(evC C cd τ2 S3).bind λb S4=>if b then(evE C el τ2 S4).bind λy S5=>.ok (some y) S5 else .ok none S4) w.1 w.2 w.2.length 0 (Us k keep Z) S1 []).bind
    λys S6=>.ok (.loc S6.length) (S6++[.lst ys])):=rfl
theorem Js1:evE C (.hld a) (Z) (S)=((evE C a Z S).bind λx S1=>Xl x S1):=rfl
theorem Jsy:evE C (.lsp a) (Z) (S)=((evE C a Z S).bind λx S1=>Xi x S1):=rfl
theorem Js0:evE C (.fld c f a) (Z) (S)=((evE C a Z S).bind λx S1=>match W1 S1 x c f with|some d=>.ok d S1|none=>.bad):=rfl
theorem Jlt:evE C (.mcl c m f o as) (Z) (S)=((evE C o Z S).bind λx S1=>if isRec S1 x c m then(evA C as Z S1).bind λds S2=>C.call f (x::ds) S2 else .bad):=rfl
theorem Jsz:evE C (.new c f) (u1') (S)=((C.call f [.loc S.length] (S++[.ins c []])).bind λd S1=>match d with|.non=>.ok (.loc S.length) S1|_=>.bad):=rfl
theorem Jwi:evT C (.nott a) (Z) (S)=((evT C a Z S).bind λb S1=>.ok (!b) S1):=rfl
theorem Jwh:evT C (.bo w as) (Z) (S)=(evBT C w as Z S):=rfl
theorem Jwg:evT C (.cmp o a b) (Z) (S)=((evE C a Z S).bind λx S1=>(evE C b Z S1).bind λy S2=>match cop o x y S2 with|some k=>.ok k S2|none=>.bad):=rfl
theorem Jqv:evT C (.cmp2 o p a b c) (Z) (S)=((evE C a Z S).bind λx S1=>(evE C b Z S1).bind λy S2=>match cop o x y S2 with
  |some true=>(evE C c Z S2).bind λz S3=>(match cop p y z S3 with|some k=>.ok k S3|none=>.bad)
  |some false=>.ok false S2
  |none=>.bad):=rfl
theorem Jwf:evT C (.var i) (Z) (S)=(match Z[i]? with|some (some d)=>(match tru S d with|some b=>.ok b S|none=>.bad)|_=>.bad):=rfl
theorem Jwe:evT C (.idx a b) (Z) (S)=((evE C a Z S).bind λx S1=>(evE C b Z S1).bind λy S2=>match idxD x y S2 with|some d=>(match tru S2 d with|some b=>.ok b S2|none=>.bad)|none=>.bad):=rfl
theorem Jwd:evT C (.call f as) (Z) (S)=((evA C as Z S).bind λds S1=>(C.call f ds S1).bind λd S2=>match tru S2 d with|some b=>.ok b S2|none=>.bad):=rfl
theorem Jwc:evT C (.prim p as) (Z) (S)=((evA C as Z S).bind λds S1=>(Uo p ds S1).bind λd S2=>match tru S2 d with|some b=>.ok b S2|none=>.bad):=rfl
theorem Jwb:evT C (.isi a t) (Z) (S)=((evE C a Z S).bind λx S1=>match tyD S1 x with|some y=>.ok (isiD y t) S1|none=>.bad):=rfl
theorem Jwa:evT C (.mcl c m f o as) (Z) (S)=((evE C o Z S).bind λx S1=>if isRec S1 x c m then(evA C as Z S1).bind λds S2=>(C.call f (x::ds) S2).bind λd S3=>match tru S3 d with|some b=>.ok b S3|none=>.bad else .bad):=rfl
theorem Js5:evBV C w (.cns a .nul) (Z) (S)=(evE C a Z S):=rfl
theorem Jlz:evBV C w (.cns a (.cns a2 r2)) (Z) (S)=((evE C a Z S).bind λx S1=>match x with|.bl c=>if c=w then evBV C w (.cns a2 r2) Z S1 else .ok (.bl (!w)) S1|_=>.bad):=rfl
theorem Js6:evBT C w (.cns a .nul) (Z) (S)=(evT C a Z S):=rfl
theorem Jl0:evBT C w (.cns a (.cns a2 r2)) (Z) (S)=((evT C a Z S).bind λc S1=>if c=w then evBT C w (.cns a2 r2) Z S1 else .ok (!w) S1):=rfl
theorem Jw0:evC C (.nul) (u1') (S)=(.ok true S):=rfl
theorem Jwz:evC C (.cns c .nul) (Z) (S)=(evT C c Z S):=rfl
theorem Jd7:evA C (.nul) (u1') (S)=(.ok [] S):=rfl
theorem Jqy:evA C (.cns a b) (Z) (S)=((evE C a Z S).bind λx S1=>(evA C b Z S1).bind λxs S2=>.ok (x::xs) S2):=rfl
theorem Jwo:evO C (.nul) (u1') (S)=(.ok none S):=rfl
theorem Jwn:evO C (.cns a .nul) (Z) (S)=((evE C a Z S).bind λx S1=>match x with|.int i=>.ok (some i) S1|_=>.bad):=rfl
theorem Jwr:evI C (.rng a) (Z) (S)=((evE C a Z S).bind λx S1=>match x with
  |.int j=>if decide (-(2^62)<=j)&&decide (j<2^62)then .ok (none,(B1 j.toNat).map λ(i:Nat)=>.int i) S1 else .bad
  |_=>.bad):=rfl
theorem Jwq:evI C (.cns a .nul) (Z) (S)=((evE C a Z S).bind λx S1=>match x with
  |.tup ds=>.ok (none,ds) S1
  |.kl ds=>.ok (none,ds) S1
  |.loc l=>(match seqAt S1 l with|some ds=>.ok (some (l,.lst),ds) S1|none=>.bad)
  |_=>.bad):=rfl
theorem Jwp:evI C (.enm a) (Z) (S)=((evE C a Z S).bind λx S1=>match x with
  |.loc l=>(match seqAt S1 l with|some ds=>.ok (some (l,.enm),ds) S1|none=>.bad)
  |.tup ds=>.ok (none,enD 0 ds) S1
  |_=>.bad):=rfl
theorem Jsx:evI C (.zp a b) (Z) (S)=((evE C a Z S).bind λx S1=>(evE C b Z S1).bind λy S2=>zpD x y S2):=rfl
theorem Jjg:evG C (.tvar i) (d) (Z) (S)=(if i<Z.length then .ok (Z.set i (some d)) S else .bad):=rfl
theorem Jqw:evG C (.ttup ts) (d) (Z) (S)=(match d with|.tup ds=>evGs C ts ds Z S|_=>.bad):=rfl
theorem Jws:evG C (.tsub a b) (d) (Z) (S)=((evE C a Z S).bind λo S1=>(evE C b Z S1).bind λi S2=>(Vi o i d S2).bind λ_ S3=>.ok Z S3):=rfl
theorem Jfv:evGs C (.nul) (ds) (Z) (S)=(match ds with|[]=>.ok Z S|_=>.bad):=rfl
theorem Jd6:evGs C (.cns t ts) (ds) (Z) (S)=(match ds with|d::r=>(evG C t d Z S).bind λτ1 S1=>evGs C ts r τ1 S1|[]=>.bad):=rfl
theorem Jls:evS C (.asg t e) (Z) (S)=((evE C e Z S).bind λd S1=>(evG C t d Z S1).bind λτ1 S2=>.ok (.nx τ1) S2):=rfl
theorem Joi:evS C (.aug i e) (Z) (S)=(match Z[i]? with
  |some (some (.int x))=>(evE C e Z S).bind λy S1=>(match y with|.int z=>.ok (.nx (Z.set i (some (.int (x+z))))) S1|_=>.bad)
  |_=>.bad):=rfl
theorem Jwm:evS C (.ifs c a b) (Z) (S)=((evT C c Z S).bind λk S1=>if k then evB C a Z S1 else evB C b Z S1):=rfl
theorem Jwl:evS C (.forr t i b) (Z) (S)=((evI C i Z S).bind λw S1=>forL (λd τ1 S2=>(evG C t d τ1 S2).bind λτ2 S3=>evB C b τ2 S3) w.1 w.2 w.2.length 0 Z S1):=rfl
theorem Jwk:evS C (.ret e) (Z) (S)=((evE C e Z S).bind λd S1=>.ok (.rt d) S1):=rfl
theorem Jwj:evS C (.exp e) (Z) (S)=((evE C e Z S).bind λ_ S1=>.ok (.nx Z) S1):=rfl
theorem Jsw:evS C (.sfd c f o v) (Z) (S)=((evE C v Z S).bind λy S1=>(evE C o Z S1).bind λx S2=>match Xy S2 x c f y with|some S3=>.ok (.nx Z) S3|none=>.bad):=rfl
theorem Jw2:evB C (.nul) (Z) (S)=(.ok (.nx Z) S):=rfl
theorem Jw1:evB C (.cns s r) (Z) (S)=((evS C s Z S).bind λfl S1=>match fl with
  |.nx τ1=>evB C r τ1 S1
  |.rt d=>.ok (.rt d) S1):=rfl
end Mi
namespace Mi
open PySem L2
def U4(K:Af)(a:Addr)(kvs:List (Str×Int)):Prop:=Ko (Sd λb=>K.lookup b) (λb=>K.lookup b) a (kvs.map λp=>(p.1,Ej (.int p.2)))=true
def SqF(K:Af)(H:Hp)(a:Addr)(xs:List V):Prop:=
 (∃o,H a=some (.frz o (.lst xs)))\/
  ∃(o:A5) (its:Array Value) (n:Nat),K.lookup a=some o/\o.cls=.type "list"/\o.dict=none/\o.data=.seq its n/\its.size<=sizeLine/\Vals xs its.toList
def SqF.sq(h:SqF K H a xs):SqL K H a xs:=h.elim (λz=>.inl (.inr z)) .inr
mutual
def RelD(K:Af)(ρ:List Addr)(H:Hp):D->V->Prop
 |.non,v=>v=.non
 |.bl b,v=>v=.bl b
 |.int i,v=>v=.int i
 |.str x,v=>v=.str x
 |.tup ds,v=>∃a xs,v=.ref a/\SqT K H a xs/\RelDs K ρ H ds xs
 |.loc l,v=>∃a,v=.ref a/\ρ[l]? =some a
 |.kl ds,v=>∃a xs,v=.ref a/\SqF K H a xs/\RelDs K ρ H ds xs
 |.kd kvs,v=>∃a,v=.ref a/\U4 K a kvs
def RelDs(K:Af)(ρ:List Addr)(H:Hp):List D->List V->Prop
 |[],xs=>xs=[]
 |d::ds,xs=>∃v vs,xs=v::vs/\RelD K ρ H d v/\RelDs K ρ H ds vs
end
noncomputable def RelKv{κ κ':Type}(e:κ->κ')(K:Af)(ρ:List Addr)(H:Hp):List (κ×D)->List (κ'×V)->Prop
 |[],ws=>ws=[]
 |p::r,ws=>∃v us,ws=(e p.1,v)::us/\RelD K ρ H p.2 v/\RelKv e K ρ H r us
noncomputable def Uu(K:Af)(ρ:List Addr)(H:Hp):List (RK×D)->List (RK×Addr×Value)->Prop
 |[],xs=>xs=[]
 |p::r,xs=>∃a u v ys,xs=(p.1,a,u)::ys/\Vy K H p.1 a/\RelV v u/\RelD K ρ H p.2 v/\Uu K ρ H r ys
theorem Jjo:∀{a b:List Char},a.map M2=b.map M2->a=b
 |[],[],_=>rfl
 |[],y::ys,h=>by simp at h
 |x::xs,[],h=>by simp at h
 |x::xs,y::ys,h=>by
  simp only[Av,Pd]at h;rw[Jjo h.2,Char.toNat_inj.mp h.1]
def Jii(h:Ab a=Ab b):a=b:=by
 rw[Ou,Ou]at h;injection h with h;have h:a.toList.map M2=b.toList.map M2:=by simpa using h
 refine String.toList_inj.mp ?_;exact Jjo h
noncomputable def Vq(K:Af)(ρ:List Addr)(H:Hp):List (String×D)->List (Str×V)->Prop
 |[],ws=>ws=[]
 |p::r,ws=>∃v us,ws=(Ab p.1,v)::us/\RelD K ρ H p.2 v/\Vq K ρ H r us
noncomputable def RelO(K:Af)(ρ:List Addr)(H:Hp)(a:Addr):Obj->Prop
 |.lst ds=>∃xs,H a=some (.lst xs)/\RelDs K ρ H ds xs
 |.dct kvs=>∃ws,H a=some (.dK ws)/\RelKv F3 K ρ H kvs ws
 |.dtu kvs=>∃ws,H a=some (.dT ws)/\RelKv pK K ρ H kvs ws
 |.rg kvs=>∃xs,H a=some (Rg a xs)/\Uu K ρ H kvs xs
 |.ins c fs=>∃C dx ws,Bb K Ax (Ab c)=some (some (.ref C))/\H a=some (.ins C dx ws)/\Vq K ρ H fs ws
structure RelS(K:Af)(ρ:List Addr)(S:Store)(H:Hp):Prop where
 len:ρ.length=S.length
 nd:ρ.Nodup
 ob:∀(l:Nat) (a:Addr) (o:Obj),ρ[l]? =some a->S[l]? =some o->RelO K ρ H a o
structure Fut(K:Af)(ρ:List Addr)(H:Hp)(ρ':List Addr)(H':Hp):Prop where
 pre:∃t,ρ'=ρ++t
 tup:∀a xs,SqT K H a xs->SqT K H' a xs
 frz:∀a o u,H a=some (.frz o u)->H' a=some (.frz o u)
variable {K:Af} {ρ ρ' ρ1:List Addr} {H H' H1:Hp} {S S':Store}
def Fut.refl:Fut K ρ H ρ H:=⟨⟨[],by simp⟩,λ_ _ h=>h,λ_ _ _ h=>h⟩
def Fut.trans(a:Fut K ρ H ρ1 H1)(b:Fut K ρ1 H1 ρ' H'):Fut K ρ H ρ' H':=by
 obtain⟨t,rfl⟩:=a.pre;obtain⟨u,e⟩:=b.pre;exact⟨⟨t++u,by rw[e,Lk]⟩,λ_ _ h=>b.tup _ _ (a.tup _ _ h),λ_ _ _ h=>b.frz _ _ _ (a.frz _ _ _ h)⟩
def Fut.sqF(f:Fut K ρ H ρ' H')(h:SqF K H a xs):SqF K H' a xs:=h.elim (λ⟨o,z⟩=>.inl ⟨o,f.frz _ _ _ z⟩) .inr
def Fut.get(f:Fut K ρ H ρ' H'){l:Nat}{a:Addr}(h:ρ[l]? =some a):ρ'[l]? =some a:=by
 obtain⟨t,rfl⟩:=f.pre;rw[A0 (Ae.mp h).1];exact h
mutual
theorem RelD.fut(f:Fut K ρ H ρ' H'):∀{d:D} {v:V},RelD K ρ H d v->RelD K ρ' H' d v
 |.non,v,h=>by simpa only[RelD]using h
 |.bl b,v,h=>by simpa only[RelD]using h
 |.int i,v,h=>by simpa only[RelD]using h
 |.str x,v,h=>by simpa only[RelD]using h
 |.tup ds,v,h=>by
  simp only[RelD]at h ⊢;obtain⟨a,xs,e,q,r⟩:=h;exact⟨a,xs,e,f.tup _ _ q,RelDs.fut f r⟩
 |.loc l,v,h=>by
  simp only[RelD]at h ⊢;obtain⟨a,e,q⟩:=h;exact⟨a,e,f.get q⟩
 |.kl ds,v,h=>by
  simp only[RelD]at h ⊢;obtain⟨a,xs,e,q,r⟩:=h;exact⟨a,xs,e,f.sqF q,RelDs.fut f r⟩
 |.kd kvs,v,h=>by simpa only[RelD]using h
theorem RelDs.fut(f:Fut K ρ H ρ' H'):∀{ds:List D} {vs:List V},RelDs K ρ H ds vs->RelDs K ρ' H' ds vs
 |[],vs,h=>by simpa only[RelDs]using h
 |d::ds,vs,h=>by
  simp only[RelDs]at h ⊢;obtain⟨v,r,e,q,t⟩:=h;exact⟨v,r,e,RelD.fut f q,RelDs.fut f t⟩
end
def RelDs.cons(a:RelD K ρ H d v)(b:RelDs K ρ H ds vs):RelDs K ρ H (d::ds) (v::vs):=by
 simp only[RelDs];exact⟨v,vs,rfl,a,b⟩
def RelDs.nil:RelDs K ρ H [] []:=by simp only[RelDs]
inductive DsC (K:Af) (ρ:List Addr) (H:Hp) (d:D) (ds:List D) (xs:List V):Prop
 |mk (v vs) (_:xs=v::vs) (_:RelD K ρ H d v) (_:RelDs K ρ H ds vs):DsC K ρ H d ds xs
def RelDs.inv_cons(h:RelDs K ρ H (d::ds) xs):DsC K ρ H d ds xs:=by
 obtain⟨v,vs,e,q,r⟩:=h;exact⟨v,vs,e,q,r⟩
def RelDs.inv_nil(h:RelDs K ρ H [] xs):xs=[]:=by simpa only[RelDs]using h
theorem RelDs.length:∀{ds:List D} {vs:List V},RelDs K ρ H ds vs->ds.length=vs.length
 |[],vs,h=>by rw[h.inv_nil];rfl
 |d::ds,vs,h=>by
  obtain⟨v,r,rfl,_,t⟩:=h.inv_cons;rw[A7,A7,t.length]
theorem RelDs.get:∀{ds:List D} {vs:List V} {i:Nat} {d:D},RelDs K ρ H ds vs->ds[i]? =some d->∃v,vs[i]? =some v/\RelD K ρ H d v
 |[],vs,i,d,h,e=>by simp at e
 |d::ds,vs,0,x,h,e=>by
  obtain⟨v,r,rfl,q,t⟩:=h.inv_cons;simp at e;subst e;exact⟨v,rfl,q⟩
 |d::ds,vs,i+1,x,h,e=>by
  obtain⟨v,r,rfl,q,t⟩:=h.inv_cons;exact RelDs.get (i:=i) t (by simpa using e)
theorem RelDs.append:∀{ds es:List D} {vs ws:List V},RelDs K ρ H ds vs->RelDs K ρ H es ws->RelDs K ρ H (ds++es) (vs++ws)
 |[],es,vs,ws,h,g=>by rw[h.inv_nil];exact g
 |d::ds,es,vs,ws,h,g=>by
  obtain⟨v,r,rfl,q,t⟩:=h.inv_cons;exact RelDs.cons q (t.append g)
theorem RelDs.take:∀{ds:List D} {vs:List V} (n:Nat),RelDs K ρ H ds vs->RelDs K ρ H (ds.take n) (vs.take n)
 |ds,vs,0,h=>by simp[RelDs.nil]
 |[],vs,n+1,h=>by rw[h.inv_nil];simp[RelDs.nil]
 |d::ds,vs,n+1,h=>by
  obtain⟨v,r,rfl,q,t⟩:=h.inv_cons;exact RelDs.cons q (t.take n)
theorem RelDs.drop:∀{ds:List D} {vs:List V} (n:Nat),RelDs K ρ H ds vs->RelDs K ρ H (ds.drop n) (vs.drop n)
 |ds,vs,0,h=>h
 |[],vs,n+1,h=>by rw[h.inv_nil];simp[RelDs.nil]
 |d::ds,vs,n+1,h=>by
  obtain⟨v,r,rfl,q,t⟩:=h.inv_cons;exact t.drop n
theorem RelDs.set(a:RelD K ρ H d v):∀{ds:List D} {vs:List V} (i:Nat),RelDs K ρ H ds vs->RelDs K ρ H (ds.set i d) (vs.set i v)
 |[],vs,i,h=>by rw[h.inv_nil];simp[RelDs.nil]
 |x::ds,vs,0,h=>by
  obtain⟨w,r,rfl,q,t⟩:=h.inv_cons;exact RelDs.cons a t
 |x::ds,vs,i+1,h=>by
  obtain⟨w,r,rfl,q,t⟩:=h.inv_cons;exact RelDs.cons q (RelDs.set a i t)
def RelDs.dropLast{ds:List D}{vs:List V}(h:RelDs K ρ H ds vs):RelDs K ρ H ds.dropLast vs.dropLast:=by
 rw[O1,O1,h.length];exact h.take _
theorem Ju9(h:RelDs K ρ H ds vs)(e:atI ds i=some d):∃v,atI vs i=some v/\RelD K ρ H d v:=by
 unfold atI at e ⊢;rw[<-h.length];cases q:ixN ds.length i with
 |none=>rw[q]at e;cases e
 |some j=>
  rw[q]at e;exact h.get e
section
variable {κ κ':Type} {e:κ->κ'} [DecidableEq κ] [DecidableEq κ']
theorem RelKv.fut(f:Fut K ρ H ρ' H'):∀{kvs:List (κ×D)} {ws:List (κ'×V)},RelKv e K ρ H kvs ws->RelKv e K ρ' H' kvs ws
 |[],ws,h=>h
 |p::r,ws,h=>by
  obtain⟨v,us,e,q,t⟩:=h;exact⟨v,us,e,q.fut f,RelKv.fut f t⟩
theorem RelKv.length:∀{kvs:List (κ×D)} {ws:List (κ'×V)},RelKv e K ρ H kvs ws->kvs.length=ws.length
 |[],ws,h=>by cases(show ws=[]from h);rfl
 |p::r,ws,h=>by
  obtain⟨v,us,rfl,q,t⟩:=h;simp[RelKv.length t]
theorem RelKv.keys:∀{kvs:List (κ×D)} {ws:List (κ'×V)},RelKv e K ρ H kvs ws->ws.map (·.1)=(kvs.map (·.1)).map e
 |[],ws,h=>by cases(show ws=[]from h);rfl
 |p::r,ws,h=>by
  obtain⟨v,us,rfl,q,t⟩:=h;simp[RelKv.keys t]
variable (ei:∀a b,e a=e b->a=b) (k:κ)
include ei
theorem RelKv.val:∀{kvs:List (κ×D)} {ws:List (κ'×V)},RelKv e K ρ H kvs ws->(dVal kvs k=none/\Vl ws (e k)=none)\/∃d v,dVal kvs k=some d/\Vl ws (e k)=some v/\RelD K ρ H d v
 |[],ws,h=>by cases(show ws=[]from h);exact .inl ⟨rfl,rfl⟩
 |p::r,ws,h=>by
  obtain⟨v,us,rfl,q,t⟩:=h
  by_cases z:p.1=k
  ·refine .inr ⟨p.2,v,?_,Jds (congrArg e z),q⟩;simp[dVal,C3,z]
  ·rw[Jdt (λq=>z (ei _ _ q)),show dVal (p::r) k=dVal r k by simp[dVal,C3,z]];exact RelKv.val t
def RelKv.put(q:RelD K ρ H d v)(h:RelKv e K ρ H kvs ws):RelKv e K ρ H (dPut kvs k d) (putK ws (e k) v):=by
 have any:∀{kvs:List (κ×D)} {ws:List (κ'×V)},RelKv e K ρ H kvs ws->kvs.any (λp=>decide (p.1=k))=ws.any (λkv=>decide (kv.1=e k)):=by
  intro kvs
  induction kvs with
  |nil=>intro ws h;cases(show ws=[]from h);rfl
  |cons p r ih=>
   intro ws h;obtain⟨u,us,rfl,q',t⟩:=h;rw[Fg,Fg,ih t];congr 1;exact decide_eq_decide.mpr ⟨λz=>congrArg e z,λz=>ei _ _ z⟩
 have snoc:∀{kvs:List (κ×D)} {ws:List (κ'×V)},RelKv e K ρ H kvs ws->RelKv e K ρ H (kvs++[(k,d)]) (ws++[(e k,v)]):=by
  intro kvs
  induction kvs with
  |nil=>intro ws h;cases(show ws=[]from h);exact⟨v,[],rfl,q,rfl⟩
  |cons p r ih=>
   intro ws h;obtain⟨u,us,rfl,q',t⟩:=h;exact⟨u,_,rfl,q',ih t⟩
 have map:∀{kvs:List (κ×D)} {ws:List (κ'×V)},RelKv e K ρ H kvs ws->RelKv e K ρ H (kvs.map (λp=>if p.1=k then(p.1,d)else p)) (ws.map (λkv=>if kv.1=e k then(kv.1,v)else kv)):=by
  intro kvs
  induction kvs with
  |nil=>intro ws h;cases(show ws=[]from h);rfl
  |cons p r ih=>
   intro ws h;obtain⟨u,us,rfl,q',t⟩:=h
   by_cases z:p.1=k
   ·rw[Av,Av,if_pos z,if_pos (congrArg e z)];exact⟨v,_,rfl,q,ih t⟩
   ·rw[Av,Av,if_neg z,if_neg λq=>z (ei _ _ q)];exact⟨u,_,rfl,q',ih t⟩
 unfold dPut putK;rw[any h];split
 ·exact map h
 ·exact snoc h
theorem RelKv.drop:∀{kvs:List (κ×D)} {ws:List (κ'×V)},RelKv e K ρ H kvs ws->RelKv e K ρ H (dDrop kvs k) (Wj ws (e k))
 |[],ws,h=>by cases(show ws=[]from h);rfl
 |p::r,ws,h=>by
  obtain⟨v,us,rfl,q,t⟩:=h;have ih:=RelKv.drop t;unfold dDrop Wj at ih ⊢
  by_cases z:p.1=k
  ·rw[N5 (by simpa using z),N5 (by simpa using congrArg e z)];exact ih
  ·rw[N4 (by simpa using z),N4 (by simpa using λq=>z (ei _ _ q))];exact⟨v,_,rfl,q,ih⟩
end
def Jmw{α β:Type}(a b:α)(h:(F3 a:α ⊕ β)=F3 b):a=b:=Ld h
def Jg9(a b:Rdu.PK)(h:pK a=pK b):a=b:=by
 injection h with h1 h2;injection h2 with h2 _;exact Sf (Ld h1) (Ld h2)
def Vy.fut(f:Fut K ρ H ρ' H')(x:Vy K H r a):Vy K H' r a:=by
 obtain⟨bs,h1,h2⟩:=x;exact⟨bs,f.tup _ _ h1,Paired.mapP h2 λ_ _ q=>f.tup _ _ q⟩
theorem Uu.fut(f:Fut K ρ H ρ' H'):∀{kvs:List (RK×D)} {xs:List (RK×Addr×Value)},Uu K ρ H kvs xs->Uu K ρ' H' kvs xs
 |[],xs,h=>h
 |p::r,xs,h=>by
  obtain⟨a,u,v,ys,e,l,rv,q,t⟩:=h;exact⟨a,u,v,ys,e,Vy.fut f l,rv,q.fut f,Uu.fut f t⟩
theorem Uu.mem:∀{kvs:List (RK×D)} {xs:List (RK×Addr×Value)},Uu K ρ H kvs xs->∀x∈xs,Vy K H x.1 x.2.1
 |[],xs,h,x,hx=>by cases(show xs=[]from h);cases hx
 |p::r,xs,h,x,hx=>by
  obtain⟨a,u,v,ys,rfl,l,rv,q,t⟩:=h;rcases An.mp hx with rfl|hx
  ·exact l
  ·exact Uu.mem t x hx
theorem Uu.length:∀{kvs:List (RK×D)} {xs:List (RK×Addr×Value)},Uu K ρ H kvs xs->kvs.length=xs.length
 |[],xs,h=>by cases(show xs=[]from h);rfl
 |p::r,xs,h=>by
  obtain⟨a,u,v,ys,rfl,l,rv,q,t⟩:=h;simp[Uu.length t]
theorem Uu.val(k:RK):∀{kvs:List (RK×D)} {xs:List (RK×Addr×Value)},Uu K ρ H kvs xs->dVal kvs k=some d->∃p v,Gi xs k=some p/\RelV v p.2/\RelD K ρ H d v
 |[],xs,h,e=>by cases e
 |p::r,xs,h,e=>by
  obtain⟨a,u,v,ys,rfl,l,rv,q,t⟩:=h
  by_cases z:p.1=k
  ·have:dVal (p::r) k=some p.2:=by simp[dVal,C3,z]
   rw[this]at e;cases e;exact⟨(a,u),v,by simp[Gi,z],rv,q⟩
  ·rw[show dVal (p::r) k=dVal r k by simp[dVal,C3,z]]at e;obtain⟨p',v',h1,h2⟩:=Uu.val k t e;exact⟨p',v',by simpa [Gi,z]using h1,h2⟩
def Uu.put(l:Vy K H k a)(rv:RelV v u)(q:RelD K ρ H d v)(h:Uu K ρ H kvs xs):Uu K ρ H (dPut kvs k d) (N8 xs k a u):=by
 have all:∀{kvs:List (RK×D)} {xs:List (RK×Addr×Value)},Uu K ρ H kvs xs->kvs.any (λp=>decide (p.1=k))=(Gi xs k).isSome/\Uu K ρ H (kvs++[(k,d)]) (xs++[(k,a,u)])/\Uu K ρ H (kvs.map (λp=>if p.1=k then(p.1,d)else p)) (xs.map (putAt k u)):=by
  intro kvs
  induction kvs with
  |nil=>intro xs h;cases(show xs=[]from h);exact⟨rfl,⟨a,u,v,[],rfl,l,rv,q,rfl⟩,rfl⟩
  |cons p r ih=>
   intro xs h;obtain⟨a',u',v',ys,rfl,l',rv',q',t⟩:=h;obtain⟨h1,h2,h3⟩:=ih t;refine⟨?_,⟨a',u',v',_,rfl,l',rv',q',h2⟩,?_⟩
   ·by_cases z:p.1=k
    ·simp[Gi,z]
    ·rw[Fg,h1];simp[Gi,z]
   ·by_cases z:p.1=k
    ·simp only[Av,if_pos z,putAt];exact⟨a',u,v,_,rfl,l',rv,q,h3⟩
    ·simp only[Av,if_neg z,putAt];exact⟨a',u',v',_,rfl,l',rv',q',h3⟩
 obtain⟨h1,h2,h3⟩:=all h;unfold dPut N8;rw[h1];split
 ·exact h3
 ·exact h2
theorem Vq.fut(f:Fut K ρ H ρ' H'):∀{fs:List (String×D)} {ws:List (Str×V)},Vq K ρ H fs ws->Vq K ρ' H' fs ws
 |[],ws,h=>h
 |p::r,ws,h=>by
  obtain⟨v,us,e,q,t⟩:=h;exact⟨v,us,e,q.fut f,Vq.fut f t⟩
theorem Vq.length:∀{fs:List (String×D)} {ws:List (Str×V)},Vq K ρ H fs ws->fs.length=ws.length
 |[],ws,h=>by cases(show ws=[]from h);rfl
 |p::r,ws,h=>by
  obtain⟨v,us,rfl,q,t⟩:=h;simp[Vq.length t]
theorem Vq.look(f:String):∀{fs:List (String×D)} {ws:List (Str×V)},Vq K ρ H fs ws->(fs.lookup f=none/\ws.lookup (Ab f)=none)\/∃d v,fs.lookup f=some d/\ws.lookup (Ab f)=some v/\RelD K ρ H d v
 |[],ws,h=>by cases(show ws=[]from h);exact .inl ⟨rfl,rfl⟩
 |p::r,ws,h=>by
  obtain⟨v,us,rfl,q,t⟩:=h;obtain⟨g,d⟩:=p
  by_cases e:f=g
  ·subst e;exact .inr ⟨d,v,by simp[Es],by simp[Es],q⟩
  ·have e':(Ab f==Ab g)=false:=beq_eq_false_iff_ne.mpr λz=>e (Jii z);have e2:(f==g)=false:=beq_eq_false_iff_ne.mpr e;simp only[Es,e',e2];exact Vq.look f t
theorem Vq.put(f:String)(q:RelD K ρ H d v):∀{fs:List (String×D)} {ws:List (Str×V)},Vq K ρ H fs ws->Vq K ρ H (putD f d fs) (Va (Ab f) v ws)
 |[],ws,h=>by cases(show ws=[]from h);exact⟨v,[],rfl,q,rfl⟩
 |p::r,ws,h=>by
  obtain⟨u,us,rfl,q',t⟩:=h
  by_cases e:p.1=f
  ·rw[show putD f d (p::r)=(p.1,d)::r from if_pos e,show Va (Ab f) v ((Ab p.1,u)::us)=(Ab p.1,v)::us from if_pos (congrArg _ e)];exact⟨v,us,rfl,q,t⟩
  ·rw[show putD f d (p::r)=p::putD f d r from if_neg e,show Va (Ab f) v ((Ab p.1,u)::us)=(Ab p.1,u)::Va (Ab f) v us from if_neg λz=>e (Jii z)];exact⟨u,_,rfl,q',Vq.put f q t⟩
theorem RelO.fut(f:Fut K ρ H ρ' H')(hk:H' a=H a)(h:RelO K ρ H a o):RelO K ρ' H' a o:=by
 cases o with
 |lst ds=>obtain⟨xs,e,r⟩:=h;exact⟨xs,hk.trans e,r.fut f⟩
 |dct kvs=>obtain⟨xs,e,r⟩:=h;exact⟨xs,hk.trans e,r.fut f⟩
 |dtu kvs=>obtain⟨xs,e,r⟩:=h;exact⟨xs,hk.trans e,r.fut f⟩
 |rg kvs=>obtain⟨xs,e,r⟩:=h;exact⟨xs,hk.trans e,r.fut f⟩
 |ins c fs=>obtain⟨C,dx,ws,n,e,r⟩:=h;exact⟨C,dx,ws,n,hk.trans e,r.fut f⟩
theorem RelO.some(h:RelO K ρ H a o):H a≠none:=by
 cases o with
 |lst ds=>obtain⟨xs,e,r⟩:=h;rw[e];simp
 |dct kvs=>obtain⟨xs,e,r⟩:=h;rw[e];simp
 |dtu kvs=>obtain⟨xs,e,r⟩:=h;rw[e];simp
 |rg kvs=>obtain⟨xs,e,r⟩:=h;rw[e];simp
 |ins c fs=>obtain⟨C,dx,ws,n,e,r⟩:=h;rw[e];simp
def RelS.at(r:RelS K ρ S H){l:Nat}{a:Addr}(h:ρ[l]? =some a):∃o,S[l]? =some o/\RelO K ρ H a o:=by
 have hl:l<S.length:=by rw[<-r.len];exact(Ae.mp h).1
 exact⟨S[l],Ag hl,r.ob l a _ h (Ag hl)⟩
def Jba(n:H p=none)(t:List Addr):Fut K ρ H (ρ++t) (upd H p o):=by
 refine⟨⟨t,rfl⟩,λa xs h=>?_,λa o u h=>by rw[Jae (Jam h n)];exact h⟩;rcases h with h|h
 ·exact .inl (by rw[Jae (Jam h n)];exact h)
 ·exact .inr h
def Ja1(n:H p=none):Fut K ρ H ρ (upd H p o):=by
 have q:=Jba (K:=K) (ρ:=ρ) (o:=o) n [];rwa[Gg]at q
def RelS.new(r:RelS K ρ S H)(n:H p=none):RelS K ρ S (upd H p o):=
 ⟨r.len,r.nd,λl a u h1 h2=>by
  have q:=r.ob l a u h1 h2;exact q.fut (Ja1 n) (Jae λz=>q.some (z▸n))⟩
def RelS.alloc(r:RelS K ρ S H){p:Addr}{xs:List V}{ds:List D}(n:H p=none)(h:RelDs K ρ H ds xs):RelS K (ρ++[p]) (S++[.lst ds]) (upd H p (.lst xs)):=by
 have hp:p∉ρ:=λz=>by
  obtain⟨l,hl⟩:=Pc z;obtain⟨o,_,q⟩:=r.at hl;exact q.some n
 refine⟨by rw[Bd,Bd,r.len];rfl,?_,λl a o h1 h2=>?_⟩
 ·rw[Iy];exact⟨r.nd,by simp,λa ha b hb=>by rw[As.mp hb];exact λe=>hp (e▸ha)⟩
 ·by_cases hl:l<ρ.length
  ·rw[A0 hl]at h1;rw[A0 (by rw[<-r.len];exact hl)]at h2;have q:=r.ob l a o h1 h2;exact q.fut (Jba n [p]) (Jae λz=>q.some (z▸n))
  ·have e:l=ρ.length:=by
    have:=(Ae.mp h1).1;rw[Bd,Dq]at this
    lia
   subst e;rw[A1 (Aj _),Eu]at h1;rw[A1 (by rw[r.len];exact Aj _),r.len,Eu]at h2;simp at h1 h2;subst h1 h2;exact⟨xs,Jai,h.fut (Jba n [_])⟩
def Jcz{ρ:List Addr}(hN:ρ.Nodup){i j:Nat}{x:Addr}(a:ρ[i]? =some x)(b:ρ[j]? =some x):i=j:=by
 obtain⟨h1,e1⟩:=Ae.mp a;obtain⟨h2,e2⟩:=Ae.mp b;rcases Jc i j with h|h|h
 ·exact absurd (e1.trans e2.symm) (F5.mp hN i j h1 h2 h)
 ·exact h
 ·exact absurd (e2.trans e1.symm) (F5.mp hN j i h2 h1 h)
def Jdb(h:H p=some (.lst xs)):Fut K ρ H ρ (upd H p o):=by
 refine⟨⟨[],by simp⟩,λa ys q=>?_,λa o u q=>by rw[Jae (Jpa q h (by intro z;cases z))];exact q⟩;rcases q with q|q
 ·exact .inl (by rw[Jae (Jpa q h (by intro z;cases z))];exact q)
 ·exact .inr q
def RelS.set(r:RelS K ρ S H){l:Nat}{p:Addr}{xs ys:List V}{ds:List D}(hl:ρ[l]? =some p)(h:H p=some (.lst xs))(hd:RelDs K ρ H ds ys):RelS K ρ (S.set l (.lst ds)) (upd H p (.lst ys)):=by
 refine⟨by rw[Em];exact r.len,r.nd,λk a o h1 h2=>?_⟩
 by_cases e:l=k
 ·subst e;rw[hl]at h1;cases h1;have lt:l<S.length:=by rw[<-r.len];exact(Ae.mp hl).1
  rw[Di lt]at h2;cases h2;exact⟨ys,Jai,hd.fut (Jdb h)⟩
 ·rw[Aw e]at h2;have ne:a≠p:=λz=>by
   subst z;exact e (Jcz r.nd hl h1)
  exact(r.ob k a o h1 h2).fut (Jdb h) (Jae ne)
def Jen{o:HO}(h:H p=some o0)(h1:∀xs,o0≠ .tup xs)(h2:∀o u,o0≠ .frz o u):Fut K ρ H ρ (upd H p o):=by
 have ne:∀a u,H a=some u->(∀xs,u≠ .tup xs->u≠ .tup xs)->u≠o0->a≠p:=λa u q _ z e=>by rw[e,h]at q;exact z (Bi q).symm
 refine⟨⟨[],by simp⟩,λa ys q=>?_,λa o u q=>by rw[Jae (ne a _ q (λ_ z=>z) λz=>h2 _ _ z.symm)];exact q⟩;rcases q with q|q
 ·exact .inl (by rw[Jae (ne a _ q (λ_ z=>z) λz=>h1 _ z.symm)];exact q)
 ·exact .inr q
def RelS.allocO(r:RelS K ρ S H){p:Addr}{o:HO}{ob:Obj}(n:H p=none)(h:RelO K (ρ++[p]) (upd H p o) p ob):RelS K (ρ++[p]) (S++[ob]) (upd H p o):=by
 have hp:p∉ρ:=λz=>by
  obtain⟨l,hl⟩:=Pc z;obtain⟨o,_,q⟩:=r.at hl;exact q.some n
 refine⟨by rw[Bd,Bd,r.len];rfl,?_,λl a u h1 h2=>?_⟩
 ·rw[Iy];exact⟨r.nd,by simp,λa ha b hb=>by rw[As.mp hb];exact λe=>hp (e▸ha)⟩
 ·by_cases hl:l<ρ.length
  ·rw[A0 hl]at h1;rw[A0 (by rw[<-r.len];exact hl)]at h2;have q:=r.ob l a u h1 h2;exact q.fut (Jba n [p]) (Jae λz=>q.some (z▸n))
  ·have e:l=ρ.length:=by
    have:=(Ae.mp h1).1;rw[Bd,Dq]at this
    lia
   subst e;rw[A1 (Aj _),Eu]at h1;rw[A1 (by rw[r.len];exact Aj _),r.len,Eu]at h2;simp at h1 h2;subst h1 h2;exact h
def RelS.setO(r:RelS K ρ S H){l:Nat}{p:Addr}{o0 o:HO}{ob:Obj}(hl:ρ[l]? =some p)(f:Fut K ρ H ρ (upd H p o))(new:RelO K ρ (upd H p o) p ob):RelS K ρ (S.set l ob) (upd H p o):=by
 refine⟨by rw[Em];exact r.len,r.nd,λk a u h1 h2=>?_⟩
 by_cases e:l=k
 ·subst e;rw[hl]at h1;cases h1;have lt:l<S.length:=by rw[<-r.len];exact(Ae.mp hl).1
  rw[Di lt]at h2;cases h2;exact new
 ·rw[Aw e]at h2;have ne:a≠p:=λz=>by
   subst z;exact e (Jcz r.nd hl h1)
  exact(r.ob k a u h1 h2).fut f (Jae ne)
structure RelE(K:Af)(ρ:List Addr)(H:Hp)(Z:En)(U:St):Prop where
 len:Z.length=U.length
 at':∀(i:Nat) (d:D),Z[i]? =some (some d)->∃v,U[i]? =some (some v)/\RelD K ρ H d v
def RelE.fut(f:Fut K ρ H ρ' H')(r:RelE K ρ H Z U):RelE K ρ' H' Z U:=
 ⟨r.len,λi d h=>let⟨v,e,q⟩:=r.at' i d h;⟨v,e,q.fut f⟩⟩
def RelE.set{Z:En}{U:St}(r:RelE K ρ H Z U)(q:RelD K ρ H d v)(i:Nat):RelE K ρ H (Z.set i (some d)) (U.set i (some v)):=by
 refine⟨by rw[Em,Em];exact r.len,λj e h=>?_⟩
 by_cases z:i=j
 ·subst z
  by_cases hl:i<Z.length
  ·rw[Di hl]at h;cases h;exact⟨v,Di (by rw[<-r.len];exact hl),q⟩
  ·rw[G3 (by rw[Em];lia)]at h;cases h
 ·rw[Aw z]at h;rw[Aw z];exact r.at' j e h
theorem RelE.inner(r:RelE K ρ H Z U)(k:Nat)(keep:List Nat):RelE K ρ H (Us k keep Z) (Wt k keep U):=by
 unfold Us Wt;refine⟨by simp,λi d h=>?_⟩
 by_cases hi:i<k
 ·rw[A0 (by simpa using hi),E3,if_pos hi]at h;cases h
 ·rw[A1 (by simpa using hi),G2,Aq]at h;rw[A1 (by simpa using hi),G2,Aq];cases ej:keep[i-k]? with
  |none=>rw[ej]at h;cases h
  |some j=>
   rw[ej]at h;have h':(Z[j]?).join=some d:=Bi h;have h':Z[j]? =some (some d):=by
    cases q:Z[j]? with
    |none=>rw[q]at h';cases h'
    |some y=>rw[q]at h';exact congrArg some h'
   obtain⟨v,e,q⟩:=r.at' j d h';refine⟨v,?_,q⟩;show some ((U[j]?).join)=some (some v);rw[e];rfl
noncomputable def Web(Z Z':En):Prop:=Z'.length=Z.length/\∀(i:Nat) (d:D),Z'[i]? =some (some d)->Z[i]? =some (some d)
def RelE.less(r:RelE K ρ H Z U)(l:Web Z Z'):RelE K ρ H Z' U:=⟨l.1.trans r.len,λi d h=>r.at' i d (l.2 i d h)⟩
end Mi
namespace Mi
open PySem L2
noncomputable def Y2:Bop->Operator
 |.add=>.Add
 |.shr=>.RShift
 |.sub=>.Sub
 |.mul=>.Mult
 |.fdiv=>.FloorDiv
 |.mod=>.Mod
 |.pow=>.Pow
noncomputable def Vx:Cop->CmpOp
 |.eq=>.Eq
 |.ne=>.NotEq
 |.lt=>.Lt
 |.le=>.LtE
 |.gt=>.Gt
 |.ge=>.GtE
 |.isc=>.Is
 |.isnc=>.IsNot
 |.inn=>.In
 |.nin=>.NotIn
def Fin(K:Af)(ρ:List Addr)(H:Hp)(d:D)(S':Store)(Q:VK):Prop:=
 ∀(ρ':List Addr) (v:V) (H':Hp),Fut K ρ H ρ' H'->RelS K ρ' S' H'->RelD K ρ' H' d v->Q v H'
variable {K:Af} {ρ ρ':List Addr} {H H':Hp} {S S':Store} {d:D} {Q:VK}
def Fin.now(f:Fin K ρ H d S Q)(r:RelS K ρ S H)(q:RelD K ρ H d v):Q v H:=f ρ v H Fut.refl r q
def Fin.newT(f:Fin K ρ H (.tup ds) S Q)(r:RelS K ρ S H)(q:RelDs K ρ H ds xs):∀p,H p=none->Q (.ref p) (upd H p (.tup xs)):=λp n=>
 f ρ _ _ (Ja1 n) (r.new n) (by simp only[RelD];exact⟨p,xs,rfl,SqT.of Jai,q.fut (Ja1 n)⟩)
def Fin.newL(f:Fin K ρ H (.loc S.length) (S++[.lst ds]) Q)(r:RelS K ρ S H)(q:RelDs K ρ H ds xs):∀p,H p=none->Q (.ref p) (upd H p (.lst xs)):=λp n=>
 f (ρ++[p]) _ _ (Jba n [p]) (r.alloc n q) (by simp only[RelD];exact⟨p,rfl,by rw[<-r.len,A1 (Aj _),Eu];rfl⟩)
def RelD.int_inv(h:RelD K ρ H (.int i) v):v=.int i:=by simpa only[RelD]using h
def RelD.bl_inv(h:RelD K ρ H (.bl i) v):v=.bl i:=by simpa only[RelD]using h
def RelD.str_inv(h:RelD K ρ H (.str i) v):v=.str i:=by simpa only[RelD]using h
def RelD.non_inv(h:RelD K ρ H .non v):v=.non:=by simpa only[RelD]using h
inductive TupI (K:Af) (ρ:List Addr) (H:Hp) (ds:List D) (v:V):Prop
 |mk (a xs) (_:v=.ref a) (_:SqT K H a xs) (_:RelDs K ρ H ds xs):TupI K ρ H ds v
def RelD.tup_inv(h:RelD K ρ H (.tup ds) v):TupI K ρ H ds v:=by
 obtain⟨v,vs,e,q,r⟩:=h;exact⟨v,vs,e,q,r⟩
inductive KlI (K:Af) (ρ:List Addr) (H:Hp) (ds:List D) (v:V):Prop
 |mk (a xs) (_:v=.ref a) (_:SqF K H a xs) (_:RelDs K ρ H ds xs):KlI K ρ H ds v
def RelD.kl_inv(h:RelD K ρ H (.kl ds) v):KlI K ρ H ds v:=by
 obtain⟨v,vs,e,q,r⟩:=h;exact⟨v,vs,e,q,r⟩
def RelD.loc_inv(h:RelD K ρ H (.loc l) v):∃a,v=.ref a/\ρ[l]? =some a:=by simpa only[RelD]using h
def RelD.int(i:Int):RelD K ρ H (.int i) (.int i):=by simp only[RelD]
def RelD.bl(i:Bool):RelD K ρ H (.bl i) (.bl i):=by simp only[RelD]
def RelD.str(i:Str):RelD K ρ H (.str i) (.str i):=by simp only[RelD]
def RelD.non:RelD K ρ H .non .non:=by simp only[RelD]
def RelD.kd_inv(h:RelD K ρ H (.kd kvs) v):∃a,v=.ref a/\U4 K a kvs:=by simpa only[RelD]using h
open PyProof.Rows in
theorem Jja:∀{es:List B8} {h:Heap} {a b:List (Str×Int)},KTD.Rows (Tt h) es (a.map λp=>(p.1,Ej (.int p.2)))->KTD.Rows (Tt h) es (b.map λp=>(p.1,Ej (.int p.2)))->a=b
 |[],h,a,b,h1,h2=>by
  cases a with
  |cons p a=>cases h1
  |nil=>
   cases b with
   |cons p b=>cases h2
   |nil=>rfl
 |e::es,h,a,b,h1,h2=>by
  cases a with
  |nil=>cases h1
  |cons p a=>
   cases b with
   |nil=>cases h2
   |cons q b=>
    obtain⟨x,n⟩:=p;obtain⟨y,m⟩:=q;cases h1 with
    |cons k1 v1 r1=>
     cases h2 with
     |cons k2 v2 r2=>
      rw[k1]at k2;cases k2;obtain⟨t1,e1⟩:=Li v1;obtain⟨t2,e2⟩:=Li v2;rw[e1]at e2;cases e2;rw[Jja r1 r2]
open PyProof.Rows in
def U4.text{kvs:List (Str×Int)}(d:U4 K a kvs)(KX:K.In h):KTD.TextTab h a (kvs.map λp=>(p.1,Ej (.int p.2))):=PySem.W.kt_text_in KX d
def U4.inj(d:U4 K a kvs)(d':U4 K a kvs')(KX:K.In h):kvs=kvs':=by
 obtain⟨_,o,es,ep,ho,_,hd,hr⟩:=d.text KX;obtain⟨_,o',es',ep',ho',_,hd',hr'⟩:=d'.text KX;rw[ho]at ho';cases ho';rw[hd]at hd';cases hd';exact Jja hr hr'
def U4.obj{h:Heap}(d:U4 K a kvs)(KX:K.In h):∃o,h.get? a=some o/\o.ExactDict:=by
 obtain⟨_,o,es,ep,ho,hx,_⟩:=d.text KX;exact⟨o,ho,hx⟩
inductive LstI (K:Af) (ρ:List Addr) (H:Hp) (l:Nat) (v:V) (ds:List D):Prop
 |mk (a xs) (_:v=.ref a) (_:ρ[l]? =some a) (_:H a=some (.lst xs)) (_:RelDs K ρ H ds xs):LstI K ρ H l v ds
def RelS.lst(r:RelS K ρ S H)(h:RelD K ρ H (.loc l) v)(e:S[l]? =some (.lst ds)):LstI K ρ H l v ds:=by
 obtain⟨a,rfl,ha⟩:=h.loc_inv;obtain⟨xs,hx,q⟩:=r.ob l a _ ha e;exact⟨a,xs,rfl,ha,hx,q⟩
def Jan(e:seqAt S l=some ds):S[l]? =some (.lst ds):=by
 unfold seqAt at e;split at e
 ·cases e;assumption
 ·cases e
def RelS.seq(r:RelS K ρ S H)(h:RelD K ρ H x v)(e:Ut S x=some ds):∃a xs,v=.ref a/\(SqL K H a xs\/SqT K H a xs)/\RelDs K ρ H ds xs:=by
 unfold Ut at e;split at e
 ·cases e;obtain⟨a,xs,rfl,q,t⟩:=h.tup_inv;exact⟨a,xs,rfl,.inr q,t⟩
 ·obtain⟨a,xs,rfl,_,q,t⟩:=r.lst h (Jan e);exact⟨a,xs,rfl,.inl (SqL.of q),t⟩
 ·cases e;obtain⟨a,xs,rfl,q,t⟩:=h.kl_inv;exact⟨a,xs,rfl,.inl q.sq,t⟩
 ·cases e
theorem Ja9:Line=sizeLine:=by rw[Gy];rfl
section
open PySem.Spec PyProof.Rows PyProof
section
open L2
variable {X:Cx}
def Jo7:OpR X (Fv .Add) (λx y H Q=>∃a b ys,x=.ref a/\y=.ref b/\SqT X.K H a []/\SqT X.K H b ys/\Q (.ref b) H):=by
 intro pins s U H x y v u Q I rx ry h;obtain⟨a,b,ys,rfl,rfl,ha,hb,q⟩:=h;cases rx;cases ry;obtain⟨its,r1,p1,_⟩:=I.tuple ha;obtain⟨its2,r2,p2,_⟩:=I.tuple hb;have hn:its=[]:=r1.nil_iff.mpr rfl;subst hn;obtain⟨⟨cls,dd,data,sl⟩,ho,hc,n,hd⟩:=id p1;obtain⟨⟨cls2,dd2,data2,sl2⟩,ho2,hc2,n2,hd2⟩:=id p2;simp only at hc hd hc2 hd2;subst hc hd hc2 hd2;exact K5 ⟨_,ho,rfl⟩ ⟨_,ho2,rfl⟩ Ln M5 Jj Iw (Ii _ _) (PyProof.Rows.tuple_addW0 a b #[] its2.toArray n n2 dd dd2 sl sl2 rfl) ⟨ho,ho2,⟨.ref b,H,I,rfl,q⟩⟩
end
end
def rB(K:Af)(o:Bop):R2:=λx y H Q=>∃ρ S dx dy d S',RelS K ρ S H/\RelD K ρ H dx x/\RelD K ρ H dy y/\bop o dx dy S=.ok d S'/\Fin K ρ H d S' Q
def Jnp{i:Int}(h:i.natAbs<2^4096):Bs i<=2^20:=by
 unfold Bs;split
 ·exact Cp _
 ·have hp:i.natAbs≠0:=by
   rename_i z;intro e;exact z (by simp[Int.natAbs_eq_zero.mp e])
  have:i.natAbs.log2<4096:=(Nat.log2_lt hp).mpr h;have:(2:Nat)^20=1048576:=by decide
  lia
def Jt8{n:Nat}(h:n<2^4096):n.log2<9000:=by
 by_cases e:n=0
 ·subst e;decide+kernel
 ·have:=(Nat.log2_lt e).mpr h
  lia
section
variable {X:Cx}
def Jt1:OpR X (Fv .Mult) (rI (λi j=>(small i||small j||(mid i&&mid j))=true) λi j=>.int (i*j)):=opI λi j _ _ _ _ _ hc q=>PyProof.Rows.mul_int q (by
 simp only[Hk,Ah,small,mid,decide_eq_true_eq]at hc;rcases hc with(h|h)|h
 ·exact Yu.ok (.inl h)
 ·exact Yu.ok (.inr h)
 ·exact IntMulOk.of_bits (Jnp h.1) (Jnp h.2))
def Jo6:OpR X (Fv .FloorDiv) (rI (λ_ j=>0<j/\j.natAbs<2^4096) λi j=>.int (i/j)):=opI λi j _ _ _ _ _ hc q=>by
 refine PyProof.Rows.floordiv_int (by omega) ?_ (.inl (PyProof.noPylong_of_log2 (Jt8 hc.2)));rw[Ng i (by omega)];exact q
theorem Jzq(o:Bop):OpR X (Fv (Y2 o)) (rB X.K o):=by
 intro pins s U H x y v u Q I rx ry hq_;obtain⟨ρ,S,dx,dy,d,S',rs,r1,r2,e,fin⟩:=hq_;cases o with
 |add=>
  cases dx<;>cases dy<;>first|exact absurd e Jaa|simp only[Jw6,Jq3,Jq2,Js8]at e
  ·cases e;cases r1.int_inv;cases r2.int_inv;exact Jx1 pins s U H _ _ v u Q I rx ry ⟨_,_,rfl,rfl,fin.now rs (RelD.int _)⟩
  ·split at e
   ·rename_i hl;cases e;obtain⟨a,xs,rfl,q1,t1⟩:=r1.tup_inv;obtain⟨b,ys,rfl,q2,t2⟩:=r2.tup_inv
    by_cases hds:xs=[]
    ·subst hds;have:=t1.length;rw[Eo]at this;have ea:=N3.mp this;subst ea;refine Jo7 pins s U H _ _ v u Q I rx ry ⟨a,b,ys,rfl,rfl,q1,q2,fin.now rs ?_⟩;simp only[RelD,List.nil_append];exact⟨b,ys,rfl,q2,t2⟩
    refine Jt2 pins s U H _ _ v u Q I rx ry ⟨a,b,xs,ys,rfl,rfl,q1,q2,hds,?_,λey=>?_,λ_=>fin.newT rs (t1.append t2)⟩
    ·rw[<-t1.length,<-t2.length,<-Ja9];exact hl
    ·subst ey;have:=t2.length;rw[Eo]at this;have eb:=N3.mp this;subst eb;refine fin.now rs ?_;simp only[RelD,Gg];exact⟨a,xs,rfl,q1,t1⟩
   ·cases e
  ·split at e
   ·rename_i a b ha hb;split at e
    ·rename_i hl;cases e;obtain⟨p,xs,rfl,_,q1,t1⟩:=rs.lst r1 ha;obtain⟨p2,ys,rfl,_,q2,t2⟩:=rs.lst r2 hb;exact Jx0 pins s U H _ _ v u Q I rx ry ⟨p,p2,xs,ys,rfl,rfl,q1,q2,by rw[<-t1.length,<-t2.length,<-Ja9];exact hl,fin.newL rs (t1.append t2)⟩
    ·cases e
   ·cases e
  ·split at e
   ·rename_i b hb;split at e
    ·rename_i hl;cases e;obtain⟨p,xs,rfl,q1,t1⟩:=r1.kl_inv;obtain⟨p2,ys,rfl,_,q2,t2⟩:=rs.lst r2 hb;exact Jt3 pins s U H _ _ v u Q I rx ry ⟨p,p2,xs,ys,rfl,rfl,q1.sq,SqL.of q2,by rw[<-t1.length,<-t2.length,<-Ja9];exact hl,fin.newL rs (t1.append t2)⟩
    ·cases e
   ·cases e
 |shr=>
  cases dx<;>cases dy<;>first|exact absurd e Jaa|simp only[Jl1]at e
  split at e
  ·rename_i hl;cases e;cases r1.int_inv;cases r2.int_inv;exact Jxw pins s U H _ _ v u Q I rx ry ⟨_,_,rfl,rfl,hl,fin.now rs (RelD.int _)⟩
  ·cases e
 |sub=>
  cases dx<;>cases dy<;>first|exact absurd e Jaa|simp only[Jw5]at e
  cases e;cases r1.int_inv;cases r2.int_inv;exact Jxv pins s U H _ _ v u Q I rx ry ⟨_,_,rfl,rfl,fin.now rs (RelD.int _)⟩
 |mul=>
  cases dx<;>cases dy<;>first|exact absurd e Jaa|simp only[Jq1]at e
  split at e
  ·rename_i hl;cases e;cases r1.int_inv;cases r2.int_inv;exact Jt1 pins s U H _ _ v u Q I rx ry ⟨_,_,rfl,rfl,hl,fin.now rs (RelD.int _)⟩
  ·cases e
 |fdiv=>
  cases dx<;>cases dy<;>first|exact absurd e Jaa|simp only[Jq0]at e
  split at e
  ·rename_i hl;cases e;cases r1.int_inv;cases r2.int_inv;exact Jo6 pins s U H _ _ v u Q I rx ry ⟨_,_,rfl,rfl,hl,fin.now rs (RelD.int _)⟩
  ·cases e
 |mod=>
  cases dx<;>cases dy<;>first|exact absurd e Jaa|simp only[Jqz]at e
  split at e
  ·rename_i hl;cases e;cases r1.int_inv;cases r2.int_inv;exact Jxy pins s U H _ _ v u Q I rx ry ⟨_,_,rfl,rfl,hl,fin.now rs (RelD.int _)⟩
  ·cases e
 |pow=>
  cases dx<;>cases dy<;>first|exact absurd e Jaa|simp only[Jl2]at e
  split at e
  ·rename_i hl;simp only[Ah,decide_eq_true_eq]at hl;cases e;cases r1.int_inv;cases r2.int_inv;exact Jxx pins s U H _ _ v u Q I rx ry ⟨_,_,rfl,rfl,⟨hl.1.1,hl.1.2,hl.2⟩,fin.now rs (RelD.int _)⟩
  ·cases e
end
theorem in1_units(A:Bj):A.in1.units=A.units+1:=rfl
section
variable {X:Cx} {pins:List (Addr×A5)} {U:L2.St} {s:Shared}
theorem Jw4(ry:RelV y u)(rx:RelV x v)(fy:Wi y=true)(fx:Wi x=true):Pm A s u v (eqV y x):=by
 cases y with
 |non=>
  cases ry;cases x with
  |non=>cases rx;exact SeqAt.RcAt.none_none
  |bl b=>cases rx;exact SeqAt.RcAt.none_bool b
  |int b=>obtain⟨t,rfl⟩:=rx;exact SeqAt.RcAt.none_int b t
  |str b=>obtain⟨t,rfl⟩:=rx;exact SeqAt.RcAt.none_str b t
  |_=>exact fx9 (show false=true from fx)
 |bl a=>
  cases ry;cases x with
  |non=>cases rx;exact SeqAt.RcAt.bool_none a
  |bl b=>cases rx;exact SeqAt.RcAt.bool_bool a b
  |int b=>obtain⟨t,rfl⟩:=rx;exact SeqAt.RcAt.bool_int a b t
  |str b=>obtain⟨t,rfl⟩:=rx;exact SeqAt.RcAt.bool_str a b t
  |_=>exact fx9 (show false=true from fx)
 |int a=>
  obtain⟨t',rfl⟩:=ry;cases x with
  |non=>cases rx;exact SeqAt.RcAt.int_none a t'
  |bl b=>cases rx;exact SeqAt.RcAt.int_bool a t' b
  |int b=>obtain⟨t,rfl⟩:=rx;exact SeqAt.RcAt.int_int a t' b t
  |str b=>obtain⟨t,rfl⟩:=rx;exact SeqAt.RcAt.int_str a t' b t
  |_=>exact fx9 (show false=true from fx)
 |str a=>
  obtain⟨t',rfl⟩:=ry;cases x with
  |non=>cases rx;exact SeqAt.RcAt.str_none a t'
  |bl b=>cases rx;exact SeqAt.RcAt.str_bool a t' b
  |int b=>obtain⟨t,rfl⟩:=rx;exact SeqAt.RcAt.str_int a t' b t
  |str b=>obtain⟨t,rfl⟩:=rx;exact SeqAt.RcAt.str_str a t' b t
  |_=>exact fx9 (show false=true from fx)
 |_=>exact fx9 (show false=true from fy)
def Jdv(h:RelD K ρ H x v)(e:U3 x=some w):v=w/\Wi w=true:=by
 cases x<;>simp only[U3]at e<;>try (cases e;done)
 ·cases e;exact⟨h.non_inv,rfl⟩
 ·cases e;exact⟨h.bl_inv,rfl⟩
 ·cases e;exact⟨h.int_inv,rfl⟩
 ·cases e;exact⟨h.str_inv,rfl⟩
theorem Jdm{f:D->D->Option Bool}:∀{as bs:List D} {b:Bool},eqL f as bs=some b->as.length=bs.length->∀(i:Nat) (x y:D),as[i]? =some x->bs[i]? =some y->∃c,f x y=some c
 |[],[],b,_,_,i,x,y,h1,_=>by simp at h1
 |[],_::_,b,_,hl,i,x,y,h1,_=>by simp at h1
 |_::_,[],b,_,hl,i,x,y,_,h2=>by simp at h2
 |a::as,c::bs,b,e,hl,i,x,y,h1,h2=>by
  simp only[eqL]at e;split at e
  ·rename_i p q hp hq;cases i with
   |zero=>simp at h1 h2;subst h1 h2;exact⟨p,hp⟩
   |succ i=>exact Jdm hq (by simpa using hl) i x y (by simpa using h1) (by simpa using h2)
  ·cases e
theorem Jip{f:D->D->Option Bool}(e:Nat->Bool):∀{as bs:List D} {b:Bool} (k:Nat),eqL f as bs=some b->as.length=bs.length->(∀(i:Nat) (x y:D),as[i]? =some x->bs[i]? =some y->f x y=some (e (k+i)))->b=((B1 as.length).map (k+·)).all e
 |[],[],b,k,h,_,_=>by simp only[eqL]at h;cases h;rfl
 |[],_::_,b,k,h,hl,_=>by simp at hl
 |_::_,[],b,k,h,hl,_=>by simp at hl
 |a::as,c::bs,b,k,h,hl,hf=>by
  simp only[eqL]at h;split at h
  ·rename_i p q hp hq;cases h;have h0:=hf 0 a c rfl rfl;rw[hp]at h0;have h0:p=e (k+0):=Bi h0;have h1:=Jip e (k+1) hq (by simpa using hl) λi x y e1 e2=>by
    have:=hf (i+1) x y (by simpa using e1) (by simpa using e2);rw[show k+1+i=k+(i+1)from by lia];exact this
   rw[h0,h1,A7,Oc,Av,Kz,Bz];congr 2;refine D8 λi _=>?_;show k+1+i=k+(i+1)
   lia
  ·cases h
theorem Jjw(I:Inv X pins U H s)(r:RelS X.K ρ S H):∀(n:Nat) {x y:D} {v:V} {b:Bool},RelD X.K ρ H x v->RelD X.K ρ H y v->eqD S n x y=some b->b=true:=by
 have sc:∀{x y:D} {v w z:V} {b:Bool},RelD X.K ρ H x v->RelD X.K ρ H y v->U3 x=some w->U3 y=some z->some (eqV w z)=some b->b=true:=λ{x y v w z b} h1 h2 e1 e2 e=>by
  obtain⟨rfl,f1⟩:=Jdv h1 e1;obtain⟨rfl,f2⟩:=Jdv h2 e2;cases e;cases v<;>first|rfl|exact fx9 f1|exact beq_self_eq_true _
 intro n
 induction n with
 |zero=>
  intro x y v b h1 h2 e;simp only[eqD]at e;split at e
  ·rename_i w z e1 e2;exact sc h1 h2 e1 e2 e
  ·cases e
 |succ n ih=>
  intro x y v b h1 h2 e;have ihL:∀{as bs:List D} {vs:List V} {b:Bool},RelDs X.K ρ H as vs->RelDs X.K ρ H bs vs->eqL (eqD S n) as bs=some b->b=true:=by
   intro as
   induction as with
   |nil=>
    intro bs vs b h1 h2 e;cases bs with
    |nil=>simp only[eqL]at e;cases e;rfl
    |cons c bs=>
     rw[h1.inv_nil]at h2;obtain⟨_,_,z,_⟩:=h2.inv_cons;cases z
   |cons a as iha=>
    intro bs vs b h1 h2 e;obtain⟨w,ws,rfl,q1,t1⟩:=h1.inv_cons;cases bs with
    |nil=>cases h2.inv_nil
    |cons c bs=>
     obtain⟨w',ws',z,q2,t2⟩:=h2.inv_cons;cases z;simp only[eqL]at e;split at e
     ·rename_i p q hp hq;cases e;rw[ih q1 q2 hp,iha t1 t2 hq];rfl
     ·cases e
  simp only[eqD]at e;split at e
  ·rename_i as bs;obtain⟨a,xs,rfl,p1,t1⟩:=h1.tup_inv;obtain⟨a',xs',e',p2,t2⟩:=h2.tup_inv;cases e';cases I.tuple_inj p1 p2;have hl:as.length=bs.length:=t1.length.trans t2.length.symm;rw[if_pos hl]at e;exact ihL t1 t2 e
  ·rename_i l k;obtain⟨a,rfl,p1⟩:=h1.loc_inv;obtain⟨a',e',p2⟩:=h2.loc_inv;cases e';have hlk:l=k:=Jcz r.nd p1 p2;subst hlk;split at e
   ·rename_i as bs e1 e2;rw[e1]at e2;cases e2;rw[if_pos rfl]at e;obtain⟨b',xs,_,_,_,t⟩:=r.lst h1 (Jan e1);exact ihL t t e
   ·cases e
  ·split at e
   ·rename_i w z e1 e2;exact sc h1 h2 e1 e2 e
   ·cases e
end
end Mi
namespace Mi
open PySem L2
theorem Jok(ry:RelV y u)(rx:RelV x v)(fy:Wi y=true)(fx:Wi x=true):N0 A s u v (!eqV y x):=by
 cases y with
 |non=>
  cases ry;cases x with
  |non=>cases rx;exact SeqAt.RcNeAt.none_none
  |bl b=>cases rx;exact SeqAt.RcNeAt.none_bool b
  |int b=>obtain⟨t,rfl⟩:=rx;exact SeqAt.RcNeAt.none_int b t
  |str b=>obtain⟨t,rfl⟩:=rx;exact SeqAt.RcNeAt.none_str b t
  |_=>exact fx9 (show false=true from fx)
 |bl a=>
  cases ry;cases x with
  |non=>cases rx;exact SeqAt.RcNeAt.bool_none a
  |bl b=>cases rx;exact SeqAt.RcNeAt.bool_bool a b
  |int b=>obtain⟨t,rfl⟩:=rx;exact SeqAt.RcNeAt.bool_int a b t
  |str b=>obtain⟨t,rfl⟩:=rx;exact SeqAt.RcNeAt.bool_str a b t
  |_=>exact fx9 (show false=true from fx)
 |int a=>
  obtain⟨t',rfl⟩:=ry;cases x with
  |non=>cases rx;exact SeqAt.RcNeAt.int_none a t'
  |bl b=>cases rx;exact SeqAt.RcNeAt.int_bool a t' b
  |int b=>obtain⟨t,rfl⟩:=rx;exact SeqAt.RcNeAt.int_int a t' b t
  |str b=>obtain⟨t,rfl⟩:=rx;exact SeqAt.RcNeAt.int_str a t' b t
  |_=>exact fx9 (show false=true from fx)
 |str a=>
  obtain⟨t',rfl⟩:=ry;cases x with
  |non=>cases rx;exact SeqAt.RcNeAt.str_none a t'
  |bl b=>cases rx;exact SeqAt.RcNeAt.str_bool a t' b
  |int b=>obtain⟨t,rfl⟩:=rx;exact SeqAt.RcNeAt.str_int a t' b t
  |str b=>obtain⟨t,rfl⟩:=rx;exact SeqAt.RcNeAt.str_str a t' b t
  |_=>exact fx9 (show false=true from fx)
 |_=>exact fx9 (show false=true from fy)
section
variable {X:Cx} {pins:List (Addr×A5)} {U:L2.St} {s:Shared} {ρ:List Addr} {H:Hp} {S:Store}
structure Xg(A:Bj)(s:Shared)(u w:Value)(b:Bool):Prop where
 eq:E6 A s u w b
 rc:Pm A s u w b
 ne:N0 A s u w (!b)
def Jm6(h1:RelD X.K ρ H x vx)(h2:RelD X.K ρ H y vy)(r1:RelV vx u)(r2:RelV vy w)(e1:U3 x=some p)(e2:U3 y=some q)(e:some (eqV p q)=some b):Xg A s u w b:=by
 obtain⟨rfl,f1⟩:=Jdv h1 e1;obtain⟨rfl,f2⟩:=Jdv h2 e2;cases e;exact⟨Jy4 r1 r2 f1 f2,Jw4 r1 r2 f1 f2,Jok r1 r2 f1 f2⟩
def Jme{us ws:List Value}(t1:RelDs X.K ρ H as xs)(t2:RelDs X.K ρ H bs ys)(v1:Vals xs us)(v2:Vals ys ws)(h1:j<us.toArray.size)(h2:j<ws.toArray.size):
  ∃a b v z,as[j]? =some a/\bs[j]? =some b/\RelD X.K ρ H a v/\RelD X.K ρ H b z/\RelV v us.toArray[j]/\RelV z ws.toArray[j]:=by
 have l1:j<as.length:=by rw[t1.length,v1.length];simpa using h1
 have l2:j<bs.length:=by rw[t2.length,v2.length];simpa using h2
 obtain⟨v,e1,q1⟩:=t1.get (Ag l1);obtain⟨z,e2,q2⟩:=t2.get (Ag l2);obtain⟨u',e3,q3⟩:=v1.get e1;obtain⟨w',e4,q4⟩:=v2.get e2;refine⟨_,_,v,z,Ag l1,Ag l2,q1,q2,?_,?_⟩
 ·have:us.toArray[j]=u':=by
   have:=Ae.mp e3;obtain⟨_,e⟩:=this
   simpa using e
  rw[this];exact q3
 ·have:ws.toArray[j]=w':=by
   have:=Ae.mp e4;obtain⟨_,e⟩:=this
   simpa using e
  rw[this];exact q4
theorem Jhg(I:Inv X pins U H s)(r:RelS X.K ρ S H):∀(n:Nat) {A:Bj} {x y:D} {vx vy:V} {u w:Value} {b:Bool},A.units+n<Cw->RelD X.K ρ H x vx->RelD X.K ρ H y vy->RelV vx u->RelV vy w->eqD S n x y=some b->Xg A s u w b:=by
 intro n
 induction n with
 |zero=>
  intro A x y vx vy u w b hu h1 h2 r1 r2 e;simp only[eqD]at e;split at e
  ·rename_i p q e1 e2;exact Jm6 h1 h2 r1 r2 e1 e2 e
  ·cases e
 |succ n ih=>
  intro A x y vx vy u w b hu h1 h2 r1 r2 e;have e0:=e;have hu0:A.units<Cw:=by lia
  have hu1:A.in1.units+n<Cw:=by rw[in1_units];lia
  simp only[eqD]at e;split at e
  ·rename_i as bs;obtain⟨a,xs,rfl,p1,t1⟩:=h1.tup_inv;obtain⟨c,ys,rfl,p2,t2⟩:=h2.tup_inv;cases r1;cases r2;obtain⟨us,v1,i1,z1⟩:=I.tuple p1;obtain⟨ws,v2,i2,z2⟩:=I.tuple p2;have s1:us.toArray.size=as.length:=by rw[Ao,<-v1.length,t1.length]
   have s2:ws.toArray.size=bs.length:=by rw[Ao,<-v2.length,t2.length]
   let ev:Nat->Bool:=λj=>match as[j]?,bs[j]? with|some p,some q=>(eqD S n p q).getD false|_,_=>false
   have he:∀(hs:∀(j:Nat) (p q:D),as[j]? =some p->bs[j]? =some q->∃c,eqD S n p q=some c) (j:Nat) (g1:j<us.toArray.size) (g2:j<ws.toArray.size),E6 A.in1 s us.toArray[j] ws.toArray[j] (ev j):=λhs j g1 g2=>by
    obtain⟨p,q,v,z,a1,a2,q1,q2,q3,q4⟩:=Jme t1 t2 v1 v2 g1 g2;obtain⟨c,hc⟩:=hs j p q a1 a2;have:ev j=c:=by simp only[ev,a1,a2,hc];rfl
    rw[this];exact(ih hu1 q1 q2 q3 q4 hc).eq
   have fin:∀(hs:∀(j:Nat) (p q:D),as[j]? =some p->bs[j]? =some q->∃c,eqD S n p q=some c),((B1 (min us.toArray.size ws.toArray.size)).all ev&&us.toArray.size==ws.toArray.size)=b->Xg A s (.ref a) (.ref c) b:=λhs hb=>by
    have rc:=SeqAt.RcAt.tuples (show s.heap.IsTuple a us.toArray from i1) (show s.heap.IsTuple c ws.toArray from i2) hu0 (he hs);have ne:=SeqAt.RcNeAt.tuples (show s.heap.IsTuple a us.toArray from i1) (show s.heap.IsTuple c ws.toArray from i2) hu0 (he hs);rw[hb]at rc ne;refine⟨?_,rc,ne⟩
    by_cases hac:a=c
    ·subst hac;have:=Jjw I r (n+1) h1 h2 e0;subst this;exact K2 _
    ·exact Nn hac rc
   split at e
   ·rename_i hl;refine fin (λj p q a1 a2=>Jdm e hl j p q a1 a2) ?_;rw[s1,s2,hl,Nat.min_self,beq_self_eq_true,Tw];rw[Jip ev 0 e hl λj p q a1 a2=>?_]
    ·rw[hl];congr 1;exact(Uh _).symm.trans (D8 λj _=>(Fc j).symm)
    ·obtain⟨c',hc'⟩:=Jdm e hl j p q a1 a2;rw[hc',Fc];simp only[ev,a1,a2,hc'];rfl
   ·rename_i hl;split at e
    ·rename_i hsome;cases e;obtain⟨b',hb'⟩:=B6.mp hsome;refine fin (λj p q a1 a2=>?_) ?_
     ·have l1:=(Ae.mp a1).1;have l2:=(Ae.mp a2).1;refine Jdm hb' (by rw[E2,E2,Nat.min_comm]) j p q ?_ ?_
      ·rw[Ga l2];exact a1
      ·rw[Ga l1];exact a2
     ·have:(us.toArray.size==ws.toArray.size)=false:=by rw[s1,s2];simpa using hl
      rw[this,Kf]
    ·cases e
  ·rename_i l k;split at e
   ·rename_i as bs e1 e2;obtain⟨a,xs,rfl,_,p1,t1⟩:=r.lst h1 (Jan e1);obtain⟨c,ys,rfl,_,p2,t2⟩:=r.lst h2 (Jan e2);cases r1;cases r2;obtain⟨us,v1,i1,z1⟩:=I.list (SqL.of p1);obtain⟨ws,v2,i2,z2⟩:=I.list (SqL.of p2);have s1:us.toArray.size=as.length:=by rw[Ao,<-v1.length,t1.length]
    have s2:ws.toArray.size=bs.length:=by rw[Ao,<-v2.length,t2.length]
    have fin:∀(rc:Pm A s (.ref a) (.ref c) b) (ne:N0 A s (.ref a) (.ref c) (!b)),Xg A s (.ref a) (.ref c) b:=λrc ne=>by
     refine⟨?_,rc,ne⟩
     by_cases hac:a=c
     ·subst hac;have:=Jjw I r (n+1) h1 h2 e0;subst this;exact K2 _
     ·exact Nn hac rc
    split at e
    ·rename_i hl
     let ev:Nat->Bool:=λj=>match as[j]?,bs[j]? with|some p,some q=>(eqD S n p q).getD false|_,_=>false
     have he:∀(j:Nat) (g1:j<us.toArray.size) (g2:j<ws.toArray.size),E6 A.in1 s us.toArray[j] ws.toArray[j] (ev j):=λj g1 g2=>by
      obtain⟨p,q,v,z,a1,a2,q1,q2,q3,q4⟩:=Jme t1 t2 v1 v2 g1 g2;obtain⟨c,hc⟩:=Jdm e hl j p q a1 a2;have:ev j=c:=by simp only[ev,a1,a2,hc];rfl
      rw[this];exact(ih hu1 q1 q2 q3 q4 hc).eq
     have hb:(B1 us.toArray.size).all ev=b:=by
      rw[s1];rw[Jip ev 0 e hl λj p q a1 a2=>?_]
      ·congr 1;exact(Uh _).symm.trans (D8 λj _=>(Fc j).symm)
      ·obtain⟨c',hc'⟩:=Jdm e hl j p q a1 a2;rw[hc',Fc];simp only[ev,a1,a2,hc'];rfl
     have rc:=SeqAt.RcAt.lists i1.isList i2.isList (by rw[s1,s2,hl]) hu0 he;have ne:=SeqAt.RcNeAt.lists i1.isList i2.isList (by rw[s1,s2,hl]) hu0 he;rw[hb]at rc ne;exact fin rc ne
    ·rename_i hl;cases e;have hsz:(us.toArray.size !=ws.toArray.size)=true:=by rw[s1,s2];simpa using hl
     exact fin (SeqAt.RcAt.lists_lengths i1.isList i2.isList hsz hu0) (SeqAt.RcNeAt.lists_lengths i1.isList i2.isList hsz hu0)
   ·cases e
  ·split at e
   ·rename_i p q e1 e2;exact Jm6 h1 h2 r1 r2 e1 e2 e
   ·cases e
end
section
variable {X:Cx} {ρ:List Addr} {H:Hp} {S:Store} {pins:List (Addr×A5)} {U:L2.St} {s:Shared}
def Jc0(I:Inv X pins U H s)(h1:SqL X.K H a xs)(h2:SqT X.K H a ys):False:=by
 obtain⟨its,_,⟨o,n,e,c,_⟩,_⟩:=I.list h1;obtain⟨its2,_,⟨o2,e2,c2,_⟩,_⟩:=I.tuple h2;rw[e]at e2;cases e2;rw[c]at c2;injection c2 with z;exact absurd z (by decide)
def Jfb(I:Inv X pins U H s)(h1:SqL X.K H a xs)(h2:U4 X.K a kvs):False:=by
 obtain⟨its,_,⟨o,n,e,c,_⟩,_⟩:=I.list h1;obtain⟨o2,e2,x⟩:=h2.obj I.kIn;rw[e]at e2;cases e2;have c2:=x.1;rw[c]at c2;injection c2 with z;exact absurd z (by decide)
def Jeh(I:Inv X pins U H s)(h1:SqT X.K H a xs)(h2:U4 X.K a kvs):False:=by
 obtain⟨its,_,⟨o,e,c,_⟩,_⟩:=I.tuple h1;obtain⟨o2,e2,x⟩:=h2.obj I.kIn;rw[e]at e2;cases e2;have c2:=x.1;rw[c]at c2;injection c2 with z;exact absurd z (by decide)
theorem U4.look{K:Af}(d:U4 K a kvs):∃o,K.lookup a=some o:=by
 unfold U4 Ko at d;cases h:K.lookup a with
 |none=>simp[h]at d
 |some o=>exact⟨o,rfl⟩
theorem Jdw(h:RelO K ρ H a o):∃o0:HO,H a=Option.some o0/\(∀xs,o0≠ .tup xs)/\∀u w,o0≠ .frz u (.tup w)/\o0≠ .frz u (.lst w):=by
 cases o with
 |lst ds=>obtain⟨xs,e,_⟩:=h;exact⟨_,e,(λ_ z=>by cases z),(λ_ _=>⟨nofun,nofun⟩)⟩
 |dct ds=>obtain⟨xs,e,_⟩:=h;exact⟨_,e,(λ_ z=>by cases z),(λ_ _=>⟨nofun,nofun⟩)⟩
 |dtu ds=>obtain⟨xs,e,_⟩:=h;exact⟨_,e,(λ_ z=>by cases z),(λ_ _=>⟨nofun,nofun⟩)⟩
 |rg ds=>obtain⟨xs,e,_⟩:=h;exact⟨_,e,(λ_ z=>by cases z),(λ_ _=>⟨nofun,nofun⟩)⟩
 |ins c fs=>obtain⟨C,dx,ws,n,e,r⟩:=h;exact⟨_,e,(λ_ z=>by cases z),(λ_ _=>⟨nofun,nofun⟩)⟩
def Wdr(I:Inv X pins U H s){xs:List V}(e:H a=some o0)(m1:∀xs,o0≠ .tup xs)(m2:∀u w,o0≠ .frz u (.tup w)/\o0≠ .frz u (.lst w))(q:SqT X.K H a xs):False:=by
 rcases q with q|⟨o,_,_,hk,_⟩
 ·rw[e]at q;exact m1 _ (Bi q)
 ·have z:=(I.bs a o (I.ok.mod.kin a o hk)).2;rw[e]at z;cases z
def Wds(I:Inv X pins U H s)(e:H a=some o0)(m2:∀u w,o0≠ .frz u (.tup w)/\o0≠ .frz u (.lst w))(q:SqF X.K H a xs):False:=by
 rcases q with⟨o,q⟩|⟨o,_,_,hk,_⟩
 ·rw[e]at q;exact(m2 _ _).2 (Bi q)
 ·have z:=(I.bs a o (I.ok.mod.kin a o hk)).2;rw[e]at z;cases z
def Wdt(I:Inv X pins U H s)(e:H a=some o0)(q:U4 X.K a kvs):False:=by
 obtain⟨o,hk⟩:=q.look;have z:=(I.bs a o (I.ok.mod.kin a o hk)).2;rw[e]at z;cases z
mutual
theorem RelD.inj(I:Inv X pins U H s)(r:RelS X.K ρ S H):∀{d d':D} {v:V},RelD X.K ρ H d v->RelD X.K ρ H d' v->d=d'
 |.non,d',v,h,h'=>by
  cases h.non_inv;cases d'<;>simp only[RelD]at h'<;>first|rfl|(cases h';done)|(obtain⟨_,_,e,_⟩:=h';cases e)|(obtain⟨_,e,_⟩:=h';cases e)
 |.bl b,d',v,h,h'=>by
  cases h.bl_inv;cases d'<;>simp only[RelD]at h'<;>first|(cases h';rfl)|(cases h';done)|(obtain⟨_,_,e,_⟩:=h';cases e)|(obtain⟨_,e,_⟩:=h';cases e)
 |.int b,d',v,h,h'=>by
  cases h.int_inv;cases d'<;>simp only[RelD]at h'<;>first|(cases h';rfl)|(cases h';done)|(obtain⟨_,_,e,_⟩:=h';cases e)|(obtain⟨_,e,_⟩:=h';cases e)
 |.str b,d',v,h,h'=>by
  cases h.str_inv;cases d'<;>simp only[RelD]at h'<;>first|(cases h';rfl)|(cases h';done)|(obtain⟨_,_,e,_⟩:=h';cases e)|(obtain⟨_,e,_⟩:=h';cases e)
 |.tup ds,d',v,h,h'=>by
  obtain⟨a,xs,rfl,q,t⟩:=h.tup_inv;cases d' with
  |tup es=>
   obtain⟨a',xs',e,q',t'⟩:=h'.tup_inv;cases e;cases I.tuple_inj q q';rw[RelDs.inj I r t t']
  |loc l=>
   obtain⟨a',e,hl⟩:=h'.loc_inv;cases e;obtain⟨o,_,ho⟩:=r.at hl;obtain⟨o0,e0,m1,m2⟩:=Jdw ho;exact(Wdr I e0 m1 m2 q).elim
  |kl es=>
   obtain⟨a',xs',e,q',t'⟩:=h'.kl_inv;cases e;exact(Jc0 I q'.sq q).elim
  |kd kvs=>
   obtain⟨a',e,q'⟩:=h'.kd_inv;cases e;exact(Jeh I q q').elim
  |_=>simp only[RelD]at h';cases h'
 |.loc l,d',v,h,h'=>by
  obtain⟨a,rfl,hl⟩:=h.loc_inv;obtain⟨o,_,ho⟩:=r.at hl;obtain⟨o0,e0,m1,m2⟩:=Jdw ho;cases d' with
  |loc k=>
   obtain⟨a',e,hk⟩:=h'.loc_inv;cases e;rw[Jcz r.nd hl hk]
  |tup es=>
   obtain⟨a',xs',e,q',t'⟩:=h'.tup_inv;cases e;exact(Wdr I e0 m1 m2 q').elim
  |kl es=>
   obtain⟨a',xs',e,q',t'⟩:=h'.kl_inv;cases e;exact(Wds I e0 m2 q').elim
  |kd kvs=>
   obtain⟨a',e,q'⟩:=h'.kd_inv;cases e;exact(Wdt I e0 q').elim
  |_=>simp only[RelD]at h';cases h'
 |.kl ds,d',v,h,h'=>by
  obtain⟨a,xs,rfl,q,t⟩:=h.kl_inv;cases d' with
  |kl es=>
   obtain⟨a',xs',e,q',t'⟩:=h'.kl_inv;cases e;cases I.list_inj q.sq q'.sq;rw[RelDs.inj I r t t']
  |loc l=>
   obtain⟨a',e,hl⟩:=h'.loc_inv;cases e;obtain⟨o,_,ho⟩:=r.at hl;obtain⟨o0,e0,m1,m2⟩:=Jdw ho;exact(Wds I e0 m2 q).elim
  |tup es=>
   obtain⟨a',xs',e,q',t'⟩:=h'.tup_inv;cases e;exact(Jc0 I q.sq q').elim
  |kd kvs=>
   obtain⟨a',e,q'⟩:=h'.kd_inv;cases e;exact(Jfb I q.sq q').elim
  |_=>simp only[RelD]at h';cases h'
 |.kd kvs,d',v,h,h'=>by
  obtain⟨a,rfl,q⟩:=h.kd_inv;cases d' with
  |kd kvs'=>
   obtain⟨a',e,q'⟩:=h'.kd_inv;cases e;rw[q.inj q' I.kIn]
  |tup es=>
   obtain⟨a',xs',e,q',t'⟩:=h'.tup_inv;cases e;exact(Jeh I q' q).elim
  |loc l=>
   obtain⟨a',e,hl⟩:=h'.loc_inv;cases e;obtain⟨o,_,ho⟩:=r.at hl;obtain⟨o0,e0,m1,m2⟩:=Jdw ho;exact(Wdt I e0 q).elim
  |kl es=>
   obtain⟨a',xs',e,q',t'⟩:=h'.kl_inv;cases e;exact(Jfb I q'.sq q).elim
  |_=>simp only[RelD]at h';cases h'
theorem RelDs.inj(I:Inv X pins U H s)(r:RelS X.K ρ S H):∀{ds ds':List D} {vs:List V},RelDs X.K ρ H ds vs->RelDs X.K ρ H ds' vs->ds=ds'
 |[],ds',vs,h,h'=>by
  rw[h.inv_nil]at h';cases ds' with
  |nil=>rfl
  |cons d es=>obtain⟨_,_,e,_⟩:=h'.inv_cons;cases e
 |d::ds,ds',vs,h,h'=>by
  obtain⟨v,ws,rfl,q,t⟩:=h.inv_cons;cases ds' with
  |nil=>cases h'.inv_nil
  |cons d' es=>
   obtain⟨v',ws',e,q',t'⟩:=h'.inv_cons;cases e;rw[RelD.inj I r q q',RelDs.inj I r t t']
end
def rC(K:Af)(o:Cop):R2:=λx y H Q=>∃ρ S dx dy k,RelS K ρ S H/\RelD K ρ H dx x/\RelD K ρ H dy y/\cop o dx dy S=some k/\Q (.bl k) H
theorem Jd2(I:Inv X pins U H s)(r:RelS X.K ρ S H){A:Bj}(hu:A.units+Deep<Cw)(hx:RelD X.K ρ H x vx)(rx:RelV vx w)
  {us:List Value}(t:RelDs X.K ρ H ds xs)(v:Vals xs us)(e:anyEq S Deep x ds=some b):∃e:Value->Bool,(∀u∈us,E6 A s u w (e u))/\us.any e=b:=by
 classical
 let ev:Value->Bool:=λu=>decide (∃d v,RelD X.K ρ H d v/\RelV v u/\eqD S Deep d x=some true)
 have one:∀{d:D} {v:V} {u:Value} {b:Bool},RelD X.K ρ H d v->RelV v u->eqD S Deep d x=some b->ev u=b:=λ{d v u b} h r1 e=>by
  cases b with
  |true=>exact decide_eq_true ⟨d,v,h,r1,e⟩
  |false=>
   refine decide_eq_false ?_;rintro⟨d',v',h',r2,e'⟩;cases r1.inj r2;rw[RelD.inj I r h h',e']at e;cases e
 refine⟨ev,?_⟩
 induction ds generalizing xs us b with
 |nil=>
  rw[t.inv_nil]at v;cases v;simp only[anyEq]at e;cases e;exact⟨λu hu=>by simp at hu,rfl⟩
 |cons d ds ih=>
  obtain⟨z,zs,rfl,q,t'⟩:=t.inv_cons;cases v with
  |cons r1 v'=>
   rename_i u us;simp only[anyEq]at e;split at e
   ·rename_i p p' e1 e2;cases e;obtain⟨h1,h2⟩:=ih t' v' e2;refine⟨λu' hu'=>?_,?_⟩
    ·rcases An.mp hu' with rfl|hm
     ·rw[one q r1 e1];exact(Jhg I r Deep hu q hx r1 rx e1).eq
     ·exact h1 u' hm
    ·rw[Fg,one q r1 e1,h2]
   ·cases e
def RelS.dct(rs:RelS K ρ S H)(r:RelD K ρ H (.loc l) v)(h:S[l]? =some (.dct kvs)):∃a ws,v=.ref a/\ρ[l]? =some a/\H a=some (.dK ws)/\RelKv F3 K ρ H kvs ws:=by
 obtain⟨a,rfl,hl⟩:=r.loc_inv;obtain⟨ws,e,q⟩:=rs.ob l a _ hl h;exact⟨a,ws,rfl,hl,e,q⟩
inductive DtuI (K:Af) (ρ:List Addr) (H:Hp) (l:Nat) (v:V) (kvs:List (Rdu.PK×D)):Prop
 |mk (a ws) (_:v=.ref a) (_:ρ[l]? =some a) (_:H a=some (.dT ws)) (_:RelKv pK K ρ H kvs ws):DtuI K ρ H l v kvs
def RelS.dtu(rs:RelS K ρ S H)(r:RelD K ρ H (.loc l) v)(h:S[l]? =some (.dtu kvs)):DtuI K ρ H l v kvs:=by
 obtain⟨a,rfl,hl⟩:=r.loc_inv;obtain⟨ws,e,q⟩:=rs.ob l a _ hl h;exact⟨a,ws,rfl,hl,e,q⟩
def RelS.rgn(rs:RelS K ρ S H)(r:RelD K ρ H (.loc l) v)(h:S[l]? =some (.rg kvs)):∃a xs,v=.ref a/\ρ[l]? =some a/\H a=some (Rg a xs)/\Uu K ρ H kvs xs:=by
 obtain⟨a,rfl,hl⟩:=r.loc_inv;obtain⟨ws,e,q⟩:=rs.ob l a _ hl h;exact⟨a,ws,rfl,hl,e,q⟩
def Jes(e:dctAt S l=some kvs):S[l]? =some (.dct kvs):=by
 unfold dctAt at e;split at e
 ·cases e;assumption
 ·cases e
def Jcb(e:dtAt S l=some kvs):S[l]? =some (.dtu kvs):=by
 unfold dtAt at e;split at e
 ·cases e;assumption
 ·cases e
noncomputable def npB(K:Af):Bool:=K.all λp=>match p.2.data with
 |.seq its _=>(match its.toList with|[.int _ _,.int _ _]=>false|_=>true)
 |_=>true
def Jf2(h:kyD y=some p):y=dK p:=by
 unfold kyD at h;split at h
 ·cases h;rfl
 ·cases h
def Jfy(np:npB K=true)(h:RelD K ρ H (dK p) v):∃b,v=.ref b/\H b=some (.tup ((pK p).map kV)):=by
 obtain⟨a,xs,rfl,sq,t0⟩:=h.tup_inv;obtain⟨v1,r1,rfl,q1,t1⟩:=t0.inv_cons;obtain⟨v2,r2,rfl,q2,t⟩:=t1.inv_cons;cases t.inv_nil;cases q1.int_inv;cases q2.int_inv;refine⟨a,rfl,?_⟩;rcases sq with h|⟨o,its,n,hk,_,hd,_,r⟩
 ·exact h
 ·have hm:(a,o)∈K:=by obtain⟨l1,l2,e,_⟩:=List.lookup_eq_some_iff.mp hk;rw[e];simp
  have:=Ef.mp np _ hm;cases hi:its.toList with
  |nil=>rw[hi]at r;cases r
  |cons u us=>
   rw[hi]at r;cases r with
   |cons r1 r2=>
    cases r2 with
    |cons r2 r3=>
     cases r3;obtain⟨t1,rfl⟩:=r1;obtain⟨t2,rfl⟩:=r2;simp[hd,hi]at this
def Jis(np:npB K=true)(rs:RelS K ρ S H)(r1:RelD K ρ H (.loc l) x)(r2:RelD K ρ H y vy)(e:V9 S l y=some o):
  ∃a o',x=.ref a/\IsD H a/\Wo H a vy o'/\((o=none/\o'=none)\/∃d v,o=some d/\o'=some v/\RelD K ρ H d v):=by
 unfold V9 at e;split at e
 ·rename_i kvs hk;split at e<;>try (cases e;done)
  rename_i i;cases e;obtain⟨a,ws,rfl,_,ea,q⟩:=rs.dct r1 hk;cases r2.int_inv;refine⟨a,Vl ws (F3 i),rfl,.inl ⟨ws,.inl ea⟩,.inl ⟨ws,F3 i,.inl ea,rfl,rfl⟩,?_⟩;exact q.val Jmw i
 ·rename_i kvs hk;obtain⟨p,hp,rfl⟩:=Al.mp e;cases Jf2 hp;obtain⟨a,ws,rfl,_,ea,q⟩:=rs.dtu r1 hk;obtain⟨b,rfl,eb⟩:=Jfy np r2;exact⟨a,Vl ws (pK p),rfl,.inr ⟨ws,.inl ea⟩,Wo.t ea eb,q.val Jg9 p⟩
 ·cases e
theorem Jru(np:npB K=true)(rs:RelS K ρ S H)(r1:RelD K ρ H dx x)(r2:RelD K ρ H dy y)(e:dIn dx dy S=some b):∃a,y=.ref a/\∃o,Wo H a x o/\b=o.isSome:=by
 unfold dIn at e;split at e<;>try (cases e;done)
 obtain⟨o,ho,rfl⟩:=Al.mp e;obtain⟨a,o',rfl,_,g,h⟩:=Jis np rs r2 r1 ho;refine⟨a,rfl,o',g,?_⟩;rcases h with⟨rfl,rfl⟩|⟨d,v,rfl,rfl,_⟩<;>rfl
theorem Jml{κ κ':Type}{f:κ->κ'}:∀{kvs:List (κ×D)} {ws:List (κ'×V)},RelKv f K ρ H kvs ws->∀w∈ws,∃p∈kvs,w.1=f p.1/\RelD K ρ H p.2 w.2
 |[],ws,h,w,hw=>by cases(show ws=[]from h);cases hw
 |p::r,ws,h,w,hw=>by
  obtain⟨v,us,rfl,q,t⟩:=h;rcases An.mp hw with rfl|hw
  ·exact⟨p,Bm,rfl,q⟩
  ·obtain⟨p',h1,h2⟩:=Jml t w hw;exact⟨p',Ay _ h1,h2⟩
theorem Jfg(o:Cop)(hu:X.A.units+64<Cw)(np:npB X.K=true):OpR X (Dv (Vx o)) (rC X.K o):=by
 intro pins s U H x y v u Q I rx ry hq_;obtain⟨ρ,S,dx,dy,k,rs,r1,r2,e,q⟩:=hq_;have hu2:X.A.units+Deep<Cw:=by show X.A.units+12<Cw;lia
 have hu3:X.A.in1.units+Deep<Cw:=by rw[in1_units];show X.A.units+1+12<Cw;lia
 cases o with
 |eq=>exact(Jhg I rs Deep hu2 r1 r2 rx ry e).rc X.prog X.w X.xe _ ⟨.bl k,H,I,rfl,q⟩
 |ne=>
  simp only[cop]at e;split at e
  ·rename_i k' hk;cases e;unfold Xh at hk;split at hk<;>try (cases hk;done)
   split at hk<;>try (cases hk;done)
   rename_i ka kb h1 h2;split at hk<;>try (cases hk;done)
   rename_i hall;cases hk;obtain⟨a,wa,rfl,_,ea,qa⟩:=rs.dtu r1 (Jcb h1);obtain⟨b,wb,rfl,_,eb,qb⟩:=rs.dtu r2 (Jcb h2);cases rx;cases ry;refine J1j (by lia) I (.inl ea) (.inl eb) (by rw[<-qa.length,<-qb.length];exact hall.1) (λw hw=>?_) ⟨.bl false,H,I,rfl,q⟩;obtain⟨p,hp,e1,q1⟩:=Jml qa w hw;have:=Ef.mp hall.2 p hp;rw[e1];rcases qb.val Jg9 p.1 with⟨z,_⟩|⟨d,v,z1,z2,z3⟩
   ·rw[z]at this;cases this
   ·rw[z1]at this;exact⟨v,z2,λu u' ru ru'=>(Jhg I rs Deep hu3 q1 z3 ru ru' (eq_of_beq this)).eq⟩
  ·simp only[Al]at e;obtain⟨b,e,rfl⟩:=e;exact(Jhg I rs Deep hu2 r1 r2 rx ry e).ne X.prog X.w X.xe _ ⟨.bl (!b),H,I,rfl,q⟩
 |lt=>
  cases dx<;>cases dy<;>simp only[cop]at e<;>try (cases e;done)
  cases e;cases r1.int_inv;cases r2.int_inv;exact J0v pins s U H _ _ v u Q I rx ry ⟨_,_,rfl,rfl,q⟩
 |le=>
  cases dx<;>cases dy<;>simp only[cop]at e<;>try (cases e;done)
  cases e;cases r1.int_inv;cases r2.int_inv;exact J0w pins s U H _ _ v u Q I rx ry ⟨_,_,rfl,rfl,q⟩
 |gt=>
  cases dx<;>cases dy<;>simp only[cop]at e<;>try (cases e;done)
  cases e;cases r1.int_inv;cases r2.int_inv;exact J0x pins s U H _ _ v u Q I rx ry ⟨_,_,rfl,rfl,q⟩
 |ge=>
  cases dx<;>cases dy<;>simp only[cop]at e<;>try (cases e;done)
  cases e;cases r1.int_inv;cases r2.int_inv;exact J0y pins s U H _ _ v u Q I rx ry ⟨_,_,rfl,rfl,q⟩
 |isc=>
  cases dy<;>simp only[cop]at e<;>try (cases e;done)
  cases r2.non_inv;refine Jxz pins s U H _ _ v u Q I rx ry ⟨rfl,?_⟩;cases dx<;>cases e<;>simp only[RelD]at r1<;>first|(subst r1;exact q)|(obtain⟨_,_,rfl,_⟩:=r1;exact q)|(obtain⟨_,rfl,_⟩:=r1;exact q)
 |isnc=>
  cases dy<;>simp only[cop]at e<;>try (cases e;done)
  cases r2.non_inv;refine Jt0 pins s U H _ _ v u Q I rx ry ⟨rfl,?_⟩;cases dx<;>cases e<;>simp only[RelD]at r1<;>first|(subst r1;exact q)|(obtain⟨_,_,rfl,_⟩:=r1;exact q)|(obtain⟨_,rfl,_⟩:=r1;exact q)
 |inn=>
  simp only[cop]at e;split at e
  ·rename_i ds hs;obtain⟨a,xs,rfl,sq,t⟩:=rs.seq r2 hs;cases ry;rcases sq with sq|sq
   ·obtain⟨us,vv,pl,_⟩:=I.list sq;obtain⟨ev,h1,h2⟩:=Jd2 I rs hu3 r1 rx t vv e;exact SeqAt.in_listAt ev pl.isList (λy hy=>h1 y (by simpa using hy)) ⟨.bl k,H,I,by rw[Jm,h2];rfl,q⟩
   ·obtain⟨us,vv,pl,_⟩:=I.tuple sq;obtain⟨ev,h1,h2⟩:=Jd2 I rs hu3 r1 rx t vv e;exact SeqAt.in_tupleAt ev (show s.heap.IsTuple a us.toArray from pl) (λy hy=>h1 y (by simpa using hy)) ⟨.bl k,H,I,by rw[Jm,h2];rfl,q⟩
  ·obtain⟨a,rfl,o,g,eo⟩:=Jru np rs r1 r2 e;cases ry;exact Wfs (by show X.A.units+1<Cw;lia) I g rx λs' I'=>⟨.bl k,H,I',by rw[eo];rfl,q⟩
 |nin=>
  simp only[cop]at e;split at e
  ·rename_i ds hs;simp only[Al]at e;obtain⟨b,e,rfl⟩:=e;obtain⟨a,xs,rfl,sq,t⟩:=rs.seq r2 hs;cases ry;rcases sq with sq|sq
   ·obtain⟨us,vv,pl,_⟩:=I.list sq;obtain⟨ev,h1,h2⟩:=Jd2 I rs hu3 r1 rx t vv e;exact SeqAt.notIn_listAt ev pl.isList (λy hy=>h1 y (by simpa using hy)) ⟨.bl (!b),H,I,by rw[Jm,h2];rfl,q⟩
   ·obtain⟨us,vv,pl,_⟩:=I.tuple sq;obtain⟨ev,h1,h2⟩:=Jd2 I rs hu3 r1 rx t vv e;exact SeqAt.notIn_tupleAt ev (show s.heap.IsTuple a us.toArray from pl) (λy hy=>h1 y (by simpa using hy)) ⟨.bl (!b),H,I,by rw[Jm,h2];rfl,q⟩
  ·simp only[Al]at e;obtain⟨b,e,rfl⟩:=e;obtain⟨a,rfl,o,g,eo⟩:=Jru np rs r1 r2 e;cases ry;exact Jur (by show X.A.units+1<Cw;lia) I g rx λs' I'=>⟨.bl (!b),H,I',by rw[eo];rfl,q⟩
theorem Jci{ds:List D}{xs:List V}(t:RelDs K ρ H ds xs):(!ds.isEmpty)= !xs.isEmpty:=by
 cases ds with
 |nil=>rw[t.inv_nil];rfl
 |cons d ds=>obtain⟨_,_,rfl,_⟩:=t.inv_cons;rfl
theorem Jk5(r:RelS K ρ S H)(h:RelD K ρ H d x)(e:tru S d=some k):Yq K x H k:=by
 cases d with
 |non=>cases h.non_inv;cases e;rfl
 |bl b=>cases h.bl_inv;cases e;rfl
 |int i=>cases h.int_inv;cases e;rfl
 |str z=>cases e
 |tup ds=>
  obtain⟨a,xs,rfl,q,t⟩:=h.tup_inv;cases e;exact .inr (.inl ⟨xs,q,Jci t⟩)
 |loc l=>
  simp only[tru]at e;split at e
  ·rename_i ds hs;cases e;obtain⟨a,xs,rfl,_,q,t⟩:=r.lst h (Jan hs);exact .inl ⟨xs,SqL.of q,Jci t⟩
  ·cases e
 |kl ds=>
  obtain⟨a,xs,rfl,q,t⟩:=h.kl_inv;cases e;exact .inl ⟨xs,q.sq,Jci t⟩
 |kd kvs=>cases e
inductive rX (K:Af) (x:V) (y:V) (H:Hp) (Q:VK):Prop
 |mk (ρ S dx dy d) (_:RelS K ρ S H) (_:RelD K ρ H dx x) (_:RelD K ρ H dy y) (_:idxD dx dy S=some d) (_:Fin K ρ H d S Q):rX K x y H Q
def Jv5(r:RelD K ρ H d v)(e:scK d=some k):v=kV k:=by
 cases d<;>cases e
 ·exact r.int_inv
 ·exact r.str_inv
theorem Jgj{β γ:Type}{f:D->Option β}{g:γ->V}{R:β->γ->Prop}(h:∀{d b v},RelD K ρ H d v->f d=some b->∃c,v=g c/\R b c):∀{ds:List D} {bs:List β} {vs:List V},RelDs K ρ H ds vs->Wv f ds=some bs->∃cs:List γ,vs=cs.map g/\Paired R bs cs
 |[],bs,vs,r,e=>by cases e;cases r.inv_nil;exact⟨[],rfl,.nil⟩
 |d::ds,bs,vs,r,e=>by
  obtain⟨v,us,rfl,q,t⟩:=r.inv_cons;unfold Wv at e;split at e<;>try (cases e;done)
  rename_i b bs' e1 e2;cases e;obtain⟨c,rfl,h1⟩:=h q e1;obtain⟨cs,rfl,h2⟩:=Jgj h t e2;exact⟨c::cs,rfl,.cons h1 h2⟩
theorem Jmc{α:Type}{xs ys:List α}(h:Paired (λa b=>a=b) xs ys):xs=ys:=by
 induction h with
 |nil=>rfl
 |cons h _ ih=>rw[h,ih]
def Jrg(h:RelD K ρ H d v)(e:lkK d=some r):∃a,v=.ref a/\Vy K H r a:=by
 cases d<;>try (cases e;done)
 obtain⟨a,xs,rfl,sq,t⟩:=h.tup_inv;obtain⟨bs,rfl,hb⟩:=Jgj (g:=V.ref) (R:=λk b=>SqT K H b (k.map kV)) (λ{d b v} r e=>by
  cases d<;>try (cases e;done)
  obtain⟨a,xs,rfl,sq,t⟩:=r.tup_inv;obtain⟨cs,rfl,hc⟩:=Jgj (g:=kV) (R:=λa b=>a=b) (λr e=>⟨_,Jv5 r e,rfl⟩) t e;cases Jmc hc;exact⟨a,rfl,sq⟩) t e
 exact⟨a,rfl,bs,sq,hb⟩
def Jyx(hu:X.A.units+2<Cw)(np:npB X.K=true):IxR X (rX X.K):=by
 intro value slice pins s U H x y v u Q I rx ry ⟨ρ,S,dx,dy,d,rs,r1,r2,e,fin⟩ hs;unfold idxD at e;split at e
 ·rename_i ds hds;split at e<;>try (cases e;done)
  cases r2.int_inv;obtain⟨a,xs,rfl,sq,t⟩:=rs.seq r1 hds;obtain⟨w,ew,rw'⟩:=Ju9 t e;rcases sq with sq|sq
  ·exact Jud value slice pins s U H _ _ v u Q I rx ry ⟨a,xs,_,w,rfl,rfl,sq,ew,fin.now rs rw'⟩ hs
  ·exact Jyp value slice pins s U H _ _ v u Q I rx ry ⟨a,xs,_,w,rfl,rfl,sq,ew,fin.now rs rw'⟩ hs
 ·split at e<;>try (cases e;done)
  split at e
  ·rename_i kvs hk;obtain⟨r,hr,e⟩:=Nb.mp e;obtain⟨a,xs,rfl,_,ea,q⟩:=rs.rgn r1 hk;obtain⟨b,rfl,lk⟩:=Jrg r2 hr;cases rx;cases ry;obtain⟨p,w,hp,rw',rd⟩:=q.val r e;exact Kx (ops:=[.ref a,.ref b]) (J0e I ea) L8.lookup (Jzh (by show X.A.units+2<Cw;omega) I ea q.mem lk hp λs' I'=>⟨w,H,I',rw',fin.now rs rd⟩) hs
  ·obtain⟨o,ho,rfl⟩:=Option.join_eq_some_iff.mp e|>λz=>(⟨_,z,rfl⟩:∃o,V9 _ _ _=some o/\o=some d)
   obtain⟨a,o',rfl,_,g,h⟩:=Jis np rs r1 r2 ho;rcases h with⟨z,_⟩|⟨d',w,z,rfl,rd⟩
   ·cases z
   ·cases z;cases rx;exact Kx (ops:=[.ref a,u]) (Jir I g) L8.lookup (Jna (by show X.A.units+1<Cw;omega) I g ry λw' s' I' rw2=>⟨w,H,I',rw2,fin.now rs rd⟩) hs
def rSl(K:Af):V->Option Int->Option Int->Hp->VK->Prop:=λx lo hi H Q=>∃ρ S dx d S',RelS K ρ S H/\RelD K ρ H dx x/\Vt dx lo hi S=.ok d S'/\Fin K ρ H d S' Q
def Jit(t:RelDs K ρ H ds xs)(lo hi:Option Int):RelDs K ρ H (cutD ds lo hi) (W2 xs lo hi):=by
 unfold cutD W2;rw[t.length];exact(t.drop _).take _
def Jv2:SlR X (rSl X.K):=by
 intro pins s U H x v vl vu lo hi sl Q I rx hs pl pu hq_;obtain⟨ρ,S,dx,d,S',rs,r1,e,fin⟩:=hq_;cases dx<;>simp only[Vt]at e<;>try (cases e;done)
 ·cases e;obtain⟨a,xs,rfl,q,t⟩:=r1.tup_inv
  by_cases hw:HT.sIx xs.length 0 lo=0/\HT.sIx xs.length xs.length hi=xs.length
  ·rename_i ds;refine Jsr pins s U H _ v vl vu lo hi sl Q I rx hs pl pu ⟨a,xs,rfl,q,hw,?_⟩;have ec:cutD ds lo hi=ds:=by
    unfold cutD;rw[t.length,hw.1,hw.2,Hy,Sk,<-t.length,G4]
   rw[ec]at fin;exact fin _ _ _ Fut.refl rs r1
  ·exact Jv3 pins s U H _ v vl vu lo hi sl Q I rx hs pl pu ⟨a,xs,rfl,q,hw,fin.newT rs (Jit t lo hi)⟩
 ·split at e
  ·rename_i ds hds;cases e;obtain⟨a,xs,rfl,_,q,t⟩:=rs.lst r1 (Jan hds);exact Jlo pins s U H _ v vl vu lo hi sl Q I rx hs pl pu ⟨a,xs,rfl,SqL.of q,fin.newL rs (Jit t lo hi)⟩
  ·cases e
 ·cases e;obtain⟨a,xs,rfl,q,t⟩:=r1.kl_inv;exact Jlo pins s U H _ v vl vu lo hi sl Q I rx hs pl pu ⟨a,xs,rfl,q.sq,fin.newL rs (Jit t lo hi)⟩
def rSt(K:Af):Yr:=λo i v H Q=>∃ρ S dO di dv S',RelS K ρ S H/\RelD K ρ H dO o/\RelD K ρ H di i/\RelD K ρ H dv v/\Vi dO di dv S=.ok () S'/\∀H',Fut K ρ H ρ H'->RelS K ρ S' H'->Q H'
def Jv4(hu:X.A.units+2<Cw)(np:npB X.K=true):Zm X (rSt X.K):=by
 intro pins s U H o i v ov iv u Q I ro ri rv hq_;obtain⟨ρ,S,dO,di,dv,S',rs,r1,r2,r3,e,fin⟩:=hq_;unfold Vi at e;split at e<;>try (cases e;done)
 rename_i l;split at e<;>try (cases e;done)
 ·rename_i xs hx;split at e<;>try (cases e;done)
  split at e<;>try (cases e;done)
  rename_i j hj;cases e;obtain⟨a,ys,rfl,hl,q,t⟩:=rs.lst r1 hx;cases r2.int_inv;refine set_list pins s U H _ _ v ov iv u Q I ro ri rv ⟨a,ys,_,j,rfl,rfl,q,by rw[<-t.length];exact hj,fin _ (Jdb q) (rs.set hl q (RelDs.set r3 j t))⟩
 ·rename_i kvs hk;split at e<;>try (cases e;done)
  rename_i ki;split at e<;>try (cases e;done)
  rename_i hl;cases e;obtain⟨a,ws,rfl,hp,ea,q⟩:=rs.dct r1 hk;cases r2.int_inv;cases ro;have f:Fut X.K ρ H ρ (upd H a (.dK (putK ws (F3 ki) v))):=Jen (o0:=.dK ws) ea (λ_ z=>by cases z) (λ_ _ z=>by cases z);exact Jhi (by show X.A.units+1<Cw;lia) I (Xb.k (k:=F3 ki) ea (by rw[<-q.length,<-Ja9];exact hl)) ri rv λs' I'=>⟨_,I',fin _ f (rs.setO (o0:=.dK ws) hp f ⟨_,Jai,(q.put Jmw _ r3).fut f⟩)⟩
 ·rename_i kvs hk;split at e<;>try (cases e;done)
  rename_i ki hki;split at e<;>try (cases e;done)
  rename_i hl;cases e;cases Jf2 hki;obtain⟨a,ws,rfl,hp,ea,q⟩:=rs.dtu r1 hk;obtain⟨b,rfl,eb⟩:=Jfy np r2;cases ro;have f:Fut X.K ρ H ρ (upd H a (.dT (putK ws (pK ki) v))):=Jen (o0:=.dT ws) ea (λ_ z=>by cases z) (λ_ _ z=>by cases z);exact Jhi (by show X.A.units+1<Cw;lia) I (Xb.t ea eb (by rw[<-q.length,<-Ja9];exact hl)) ri rv λs' I'=>⟨_,I',fin _ f (rs.setO (o0:=.dT ws) hp f ⟨_,Jai,(q.put Jg9 _ r3).fut f⟩)⟩
 ·rename_i kvs hk;split at e<;>try (cases e;done)
  rename_i ki hki;split at e<;>try (cases e;done)
  rename_i hl;cases e;obtain⟨a,xs,rfl,hp,ea,q⟩:=rs.rgn r1 hk;obtain⟨b,rfl,lk⟩:=Jrg r2 hki;cases ro;cases ri;have f:Fut X.K ρ H ρ (upd H a (Rg a (N8 xs ki b u))):=Jen ea (λ_ z=>by cases z) (λ_ _ z=>by cases z);exact Jze (by show X.A.units+2<Cw;lia) I ea q.mem lk (by rw[<-q.length,<-Ja9];exact hl) λs' I'=>⟨_,I',fin _ f (rs.setO (o0:=Rg a xs) hp f ⟨_,Jai,(q.put lk rv r3).fut f⟩)⟩
end
end Mi
namespace Mi
open PySem L2
section
open PySem.Spec PyProof.Rows PyProof
def Jgs{M:Rk}{A:Bj}{E:Value->Shared->Prop}{s:Shared}{β:Type}{b:Nat}(f:Nat->β->Sem (ForInStep β))(I:Nat->β->Shared->Prop)(Q:β->Shared->Prop)
  (turn:∀i c s,i<b->I i c s->wpAny M A (f i c) (λr s'=>match r with|.yield c'=>I (i+1) c' s'|.done c'=>Q c' s') E s)(fin:∀c s,I b c s->Q c s)(c:β)(h:I 0 c s):wpAny M A (forIn ([:b]:Kl) c f) Q E s:=by
 rw[Ez];have hsz:([:b]:Kl).size=b:=by simp[Hm]
 show wpAny M A (forIn (List.range' 0 ([:b]:Kl).size 1) c f) Q E s;rw[hsz];refine Dg f (λl c s=>∃i,i<=b/\l=List.range' i (b-i) 1/\I i c s) Q ?_ ?_ _ c ⟨0,Cp _,rfl,h⟩
 ·rintro x rest c s ⟨i,hib,hl,hI⟩;have hlt:i<b:=by
   rcases Hz i b with h'|h'
   ·exact h'
   ·rw[show b-i=0 by lia]at hl;simp at hl
  obtain⟨n,hn⟩:∃n,b-i=n+1:=⟨b-i-1,by lia⟩
  rw[hn,Q5]at hl;obtain⟨rfl,rfl⟩:=List.cons.inj hl;refine B3 (turn x c s hlt hI) (λr st' h'=>?_) λ_ _ e=>e;cases r with
  |done c'=>exact h'
  |yield c'=>exact⟨x+1,by lia,by congr 1;lia,h'⟩
 ·rintro c s ⟨i,hib,hl,hI⟩;have:i=b:=by
   rcases Hz i b with h'|h'
   ·obtain⟨n,hn⟩:∃n,b-i=n+1:=⟨b-i-1,by lia⟩
    rw[hn,Q5]at hl;simp at hl
   ·lia
  subst this;exact fin _ _ hI
def Jgu(l:Addr)(items:Array Value)(n:Nat)(dd:Option Addr)(sl:Array (Option Value))(x:Value)(e:Value->Bool)(j:Nat)(hj:j<items.size)(hit:e items[j]=true)(hno:∀m (hm:m<items.size),m<j->e items[m]=false):
  Meets (Builtin.«tuple.index» ⟨[.ref l,x],[]⟩)
   (λA R s=>s.heap.get? l=some {cls:=.type "tuple",dict:=dd,data:=.seq items n,slots:=sl}/\(∀y,y∈items->E6 A.in1 s y x (e y))/\R (.ok (.ret (.int j s.toks))) {s with toks:=s.toks+1}):=
 .of_wp λprog w A R s h=>by
  obtain⟨hp,g,d,tk,os⟩:=s;obtain⟨hl,he,h⟩:=h
  wp_walk using Km hl,Jgs _ (λi b s'=>b.1=none/\s'=⟨hp,g,d,tk,os⟩/\i<=j) _
  case turn=>
   rintro i b s' hi ⟨hb,rfl,hij⟩;have hi':i<items.size:=by simpa using hi
   rw[Br hi'];refine Aa (he _ (Qc hi') prog w _ _ ?_)
   by_cases hlt:i<j
   ·rw[hno i hi' hlt]
    wp_walk
    exact⟨rfl,rfl,hlt⟩
   ·have:i=j:=by lia
    subst this;rw[hit]
    wp_walk
    exact⟨_,rfl,h⟩
  case fin=>
   rintro⟨b1,b2⟩ s' ⟨hb,rfl,hij⟩;simp only[Nat.min_self]at hij
   lia
  case h=>
   exact⟨rfl,rfl,Cp _⟩
def Jfn{A:Bj}{E:Value->Shared->Prop}{s:Shared}{items:Array Value}{e:Value->Bool}{Q:Value->Shared->Prop}(ht:s.heap.IsTuple a items)(hj:j<items.size)
  (hit:e items[j]=true)(hno:∀m (hm:m<items.size),m<j->e items[m]=false)(he:∀y∈items,E6 A.in1 s y x (e y))(h:Q (.int j s.toks) {s with toks:=s.toks+1}):wpAny (model prog w) A (call (.builtin "tuple.index") [.ref a,x]) Q E s:=by
 obtain⟨⟨cls,dd,data,sl⟩,ho,hc,n,hd⟩:=id ht;simp only at hc hd;subst hc hd;exact Oo Mo ⟨_,ho,rfl⟩ PySem.F.entry_tuple_index (PySem.F.args_tuple_index_2 _ _) (Jgu a items n dd sl x e j hj hit hno) ⟨ho,he,h⟩
end
section
variable {X:Cx} {ρ:List Addr} {H:Hp} {S:Store}
noncomputable def tyNames:List String:=["NoneType","bool","int","str","tuple","list"]
noncomputable def clNames:List String:=["bool","int","tuple","list"]
def Jfa(K:Af):∀t∈tyNames,∀c∈clNames,PySem.W.kitOne K (.type t) (.type c)=some (isiD t c):=by
 intro t ht c hc;simp only[tyNames,clNames,An,Bc,or_false]at ht hc;rcases ht with rfl|rfl|rfl|rfl|rfl|rfl<;>rcases hc with rfl|rfl|rfl|rfl<;>kernel_rfl
def rIs(K:Af)(c:String):List V->Hp->VK->Prop:=λxs H Q=>∃ρ S d x t,RelS K ρ S H/\xs=[x,.ty c]/\RelD K ρ H d x/\tyD S d=some t/\Q (.bl (isiD t c)) H
theorem Jyq(hc:c∈clNames):U2 X (.builtin "isinstance") (rIs X.K c):=by
 intro pins s U H xs us Q I r hq_;obtain⟨ρ,S,d,x,t,rs,e,rd,ht,q⟩:=hq_;subst e;obtain⟨u,w,rfl,ru,rw'⟩:=vals2 r;cases(show w=Dw c from rw');have fin:∀tk,EP X pins U Q (.bool (isiD t c)) {s with toks:=tk}:=λtk=>⟨.bl _,H,I.tok _,rfl,q⟩
 cases d with
 |non=>cases ht;cases rd.non_inv;cases ru;exact F6 PySem.W.kitx_none I.kIn Ex (Jfa X.K _ (by decide) c hc) (λz=>nomatch z) fin
 |bl b=>cases ht;cases rd.bl_inv;cases ru;exact F6 PySem.W.kitx_bool I.kIn Ex (Jfa X.K _ (by decide) c hc) (λz=>nomatch z) fin
 |int b=>cases ht;cases rd.int_inv;obtain⟨tk,rfl⟩:=ru;exact F6 PySem.W.kitx_int I.kIn Ex (Jfa X.K _ (by decide) c hc) (λz=>nomatch z) fin
 |str b=>cases ht;cases rd.str_inv;obtain⟨tk,rfl⟩:=ru;exact F6 PySem.W.kitx_str I.kIn Ex (Jfa X.K _ (by decide) c hc) (λz=>nomatch z) fin
 |tup ds=>
  cases ht;obtain⟨a,ys,rfl,sq,_⟩:=rd.tup_inv;cases ru;obtain⟨_,_,⟨o,h1,h2,_⟩,_⟩:=I.tuple sq;exact F6 PySem.W.kitx_tuple I.kIn ⟨o,h1,h2⟩ (Jfa X.K _ (by decide) c hc) (λz=>nomatch z) fin
 |loc l=>
  simp only[tyD]at ht;split at ht
  ·rename_i ds hs;cases ht;obtain⟨a,ys,rfl,_,sq,_⟩:=rs.lst rd hs;cases ru;obtain⟨_,_,⟨o,n,h1,h2,_⟩,_⟩:=I.list (SqL.of (K:=X.K) sq);exact F6 PySem.W.kitx_list I.kIn ⟨o,h1,h2⟩ (Jfa X.K _ (by decide) c hc) (λz=>nomatch z) fin
  ·cases ht
 |kl ds=>cases ht
 |kd ds=>cases ht
noncomputable def Vb:Prim->String
 |.len=>"len"|.abs=>"abs"|.min2=>"min"|.max2=>"max"|.int1=>"int"|.list1=>"list"|.tuple1=>"tuple"|.all1=>"all"|.sum1=>"sum"|.sort1=>"sorted"|.dict1=>"dict"
noncomputable def Xz:Prim->Bool
 |.int1=>true|.list1=>true|.tuple1=>true|.dict1=>true
 |_=>false
noncomputable def Wr(p:Prim):Value:=if Xz p then .type (Vb p)else .builtin (Vb p)
def Jnm(p:Prim):C8 (Ab (Vb p))=some (Wr p):=by cases p<;>kernel_rfl
def Jhb(p:Prim):Ab (Vb p)≠"__name__":=by cases p<;>decide+kernel
def Jff(p:Prim):(Ab (Vb p)==("__debug__":Str))=false:=by cases p<;>decide+kernel
def rP(K:Af)(p:Prim):List V->Hp->VK->Prop:=λxs H Q=>∃ρ S ds d S',RelS K ρ S H/\RelDs K ρ H ds xs/\Uo p ds S=.ok d S'/\Fin K ρ H d S' Q
def RelDs.one(h:RelDs K ρ H [d] xs):∃v,xs=[v]/\RelD K ρ H d v:=by
 obtain⟨v,vs,rfl,q,t⟩:=h.inv_cons;cases t.inv_nil;exact⟨v,rfl,q⟩
def RelDs.two(h:RelDs K ρ H [d,e] xs):∃v w,xs=[v,w]/\RelD K ρ H d v/\RelD K ρ H e w:=by
 obtain⟨v,vs,rfl,q,t⟩:=h.inv_cons;obtain⟨w,rfl,q'⟩:=t.one;exact⟨v,w,rfl,q,q'⟩
theorem allB_list:∀{ds:List D} {b:Bool},allB ds=some b->∃bs:List Bool,ds=bs.map D.bl/\b=bs.all id
 |[],b,h=>⟨[],rfl,by simp only[allB]at h;cases h;rfl⟩
 |.bl c::r,b,h=>by
  simp only[allB,Al]at h;obtain⟨k,h,rfl⟩:=h;obtain⟨bs,rfl,rfl⟩:=allB_list h;exact⟨c::bs,rfl,by simp⟩
 |.non::_,b,h=>by simp[allB]at h
 |.int _::_,b,h=>by simp[allB]at h
 |.str _::_,b,h=>by simp[allB]at h
 |.tup _::_,b,h=>by simp[allB]at h
 |.loc _::_,b,h=>by simp[allB]at h
 |.kl _::_,b,h=>by simp[allB]at h
 |.kd _::_,b,h=>by simp[allB]at h
theorem Jgz:∀{ds:List D} {b:Int},sumI ds=some b->∃bs:List Int,ds=bs.map D.int/\b=bs.sum
 |[],b,h=>⟨[],rfl,by simp only[sumI]at h;cases h;rfl⟩
 |.int c::r,b,h=>by
  simp only[sumI,Al]at h;obtain⟨k,h,rfl⟩:=h;obtain⟨bs,rfl,rfl⟩:=Jgz h;exact⟨c::bs,rfl,by simp⟩
 |.non::_,b,h=>by simp[sumI]at h
 |.bl _::_,b,h=>by simp[sumI]at h
 |.str _::_,b,h=>by simp[sumI]at h
 |.tup _::_,b,h=>by simp[sumI]at h
 |.loc _::_,b,h=>by simp[sumI]at h
 |.kl _::_,b,h=>by simp[sumI]at h
 |.kd _::_,b,h=>by simp[sumI]at h
def Juf{K:Af}{bs:List Int}{xs:List V}{us:List Value}(t:RelDs K ρ H (bs.map D.int) xs)(v:Vals xs us){i:Nat}{u:Value}(h:us[i]? =some u):∃tk,u=.int (bs.getD i 0) tk:=by
 have hl:i<bs.length:=by
  have:=(Ae.mp h).1;have e1:=t.length;have e2:=v.length;rw[Ai]at e1
  lia
 obtain⟨w,ew,rw'⟩:=t.get (show(bs.map D.int)[i]? =some (.int bs[i]) by rw[Aq,Ag hl];rfl);obtain⟨u',eu,ru⟩:=v.get ew;rw[h]at eu;cases eu;cases rw'.int_inv;obtain⟨tk,rfl⟩:=ru;exact⟨tk,by rw[Eg,Ag hl];rfl⟩
theorem Jp9{K:Af}{bs:List Bool}{xs:List V}{us:List Value}(t:RelDs K ρ H (bs.map D.bl) xs)(v:Vals xs us){i:Nat}{u:Value}(h:us[i]? =some u):u=.bool (bs.getD i true):=by
 have hl:i<bs.length:=by
  have:=(Ae.mp h).1;have e1:=t.length;have e2:=v.length;rw[Ai]at e1
  lia
 obtain⟨w,ew,rw'⟩:=t.get (show(bs.map D.bl)[i]? =some (.bl bs[i]) by rw[Aq,Ag hl];rfl);obtain⟨u',eu,ru⟩:=v.get ew;rw[h]at eu;cases eu;cases rw'.bl_inv;cases ru;rw[Eg,Ag hl];rfl
theorem range_all(bs:List Bool):(B1 bs.length).all (λi=>bs.getD i true)=bs.all id:=by
 induction bs with
 |nil=>rfl
 |cons b r ih=>
  rw[A7,Oc,Kz,Kz,Ui,<-ih];congr 1
def Jhs(hc:X.calm=true):U2 X (.builtin "all") (λxs H Q=>∃ρ S l ds b,RelS X.K ρ S H/\∃x,xs=[x]/\RelD X.K ρ H (.loc l) x/\seqAt S l=some ds/\allB ds=some b/\Q (.bl b) H):=by
 intro pins s U H xs us Q I r hq_;obtain⟨ρ,S,l,ds,b,rs,x,e,rd,hs,hb,q⟩:=hq_;subst e;obtain⟨u,rfl,ru⟩:=vals1 r;obtain⟨bs,rfl,rfl⟩:=allB_list hb;obtain⟨a,ys,rfl,_,sq,t⟩:=rs.lst rd (Jan hs);cases ru;have hh:X.A.in1.handled=none:=I.ok.hd hc;obtain⟨its,vv,pl,_⟩:=I.list (SqL.of (K:=X.K) sq);have hne:a≠s.heap.objs.size:=Au pl.lt;have hsz:its.toArray.size=bs.length:=by rw[Ao,<-vv.length,<-t.length,Ai]
 refine call_all_walk (F1 pl.isList ?_);refine⟨_,_,_,_,_,_,λi=>bs.getD i true,rfl,Pj (A:=X.A.in1) hh s.heap.objs.size a hne its.toArray,⟨⟨_,Ak _ rfl,rfl,rfl⟩,(pl.keeps λb o e=>Ad _ e).isList⟩,?_,λh' tk hk=>?_⟩
 ·intro i v s' Q' E' hP hQ;have hP:its.toArray[i]? =some v:=hP;have ev:v=.bool (bs.getD i true):=Jp9 t vv (by simpa using hP);subst ev;exact Dl hQ
 ·rw[hsz,range_all];refine⟨.bl _,H,I.kept (t':=tk) λb o e=>hk b o ?_ (Ad _ e),rfl,q⟩;simp only[As];exact Au (Am e)
def Jkc(bs:List Int):preSum (λi=>bs.getD i 0) bs.length=bs.sum:=by
 rw[PyProof.Rows.preSum_getD,G4]
def Jhn(hc:X.calm=true):U2 X (.builtin "sum") (λxs H Q=>∃ρ S l ds b,RelS X.K ρ S H/\∃x,xs=[x]/\RelD X.K ρ H (.loc l) x/\seqAt S l=some ds/\sumI ds=some b/\Q (.int b) H):=by
 intro pins s U H xs us Q I r hq_;obtain⟨ρ,S,l,ds,b,rs,x,e,rd,hs,hb,q⟩:=hq_;subst e;obtain⟨u,rfl,ru⟩:=vals1 r;obtain⟨bs,rfl,rfl⟩:=Jgz hb;obtain⟨a,ys,rfl,_,sq,t⟩:=rs.lst rd (Jan hs);cases ru;have hh:X.A.in1.handled=none:=I.ok.hd hc;have done:∀(I0:Addr) (s':Shared) (t':Tok),I0=s.heap.objs.size->∀o:A5,Moved [I0] (λa b=>b=a) {s with heap:=s.heap.push o} s'->EP X pins U Q (.int bs.sum t') s':=λI0 s' t' e0 o hm=>by
  subst e0;obtain⟨h',g',d',tk,os'⟩:=s';have e1:g'=s.gens:=hm.gens;have e2:d'=s.drawn:=hm.drawn;have e3:os'=s.os:=hm.os;subst e1 e2 e3;refine⟨.int bs.sum,H,I.kept (t':=tk) λb o e=>hm.heap b o ?_ (Ad _ e),⟨t',rfl⟩,q⟩;simp only[As];exact Au (Am e)
 obtain⟨its,vv,pl,_⟩:=I.list (SqL.of (K:=X.K) sq);have hne:a≠s.heap.objs.size:=Au pl.lt;have hsz:its.toArray.size=bs.length:=by rw[Ao,<-vv.length,<-t.length,Ai]
 refine call_sum_walkAnyS (F1 pl.isList ?_);refine⟨_,_,_,_,_,_,_,λi=>bs.getD i 0,rfl,(Pj (A:=X.A.in1) hh s.heap.objs.size a hne its.toArray).toS,⟨⟨_,Ak _ rfl,rfl,rfl⟩,(pl.keeps λb o e=>Ad _ e).isList⟩,?_,?_,λs' t' hm=>?_⟩
 ·intro b hb;show b<(s.heap.push _).objs.size;rw[Cc];simp only[An,Bc,or_false]at hb;rcases hb with rfl|rfl
  ·exact C9 _
  ·exact Jd pl.lt
 ·intro i v hP;have hP:its.toArray[i]? =some v:=hP;exact Juf t vv (by simpa using hP)
 ·rw[hsz,Jkc];exact done _ s' t' rfl _ hm
def Fin.newO(f:Fin K ρ H (.loc S.length) (S++[ob]) Q)(r:RelS K ρ S H)(q:∀p,H p=none->RelO K (ρ++[p]) (upd H p o) p ob):∀p,H p=none->Q (.ref p) (upd H p o):=λp n=>
 f (ρ++[p]) _ _ (Jba n [p]) (r.allocO n (q p n)) (by simp only[RelD];exact⟨p,rfl,by rw[<-r.len];simp⟩)
theorem Jvu:∀{ps:List Rdu.PK},upB ps=true->Up ps
 |[],_=>λi p q h=>by simp at h
 |a::r,h=>λi p q h1 h2=>by
  simp only[upB,Ah]at h;cases i with
  |zero=>
   cases r with
   |nil=>simp at h2
   |cons b r=>simp at h1 h2;subst h1 h2;exact h.1
  |succ i=>exact Jvu h.2 i p q (by simpa using h1) (by simpa using h2)
def Jzt{kvs:List (Rdu.PK×D)}(q:RelKv pK K ρ H kvs ws)(h:W8 (kvs.map (·.1))=true):Apart P w ws:=by
 simp only[W8,Ah,Ef,decide_eq_true_eq]at h;have nn:∀p∈kvs.map (·.1),((p.1.toNat:Int),(p.2.toNat:Int))=p:=λp hp=>by
  obtain⟨⟨⟨h1,_⟩,h2⟩,_⟩:=h.1 p hp;exact Sf (K0 h1) (K0 h2)
 refine Jqe (ps:=(kvs.map (·.1)).map λp=>(p.1.toNat,p.2.toNat)) ?_ (λx hx=>?_) ?_
 ·rw[q.keys];refine Eq.trans ?_ (Bz).symm;exact D8 λp hp=>congrArg pK (nn p hp).symm
 ·obtain⟨p,hp,rfl⟩:=Bg.mp hx;obtain⟨⟨⟨h1,h2⟩,h3⟩,h4⟩:=h.1 p hp;exact⟨by lia,by lia⟩
 ·refine Lj.mpr (La (λ{x y} hx hy hne e=>hne ?_) h.2);rw[<-nn x hx,<-nn y hy];injection e with e1 e2;rw[e1,e2]
def Jql{kvs:List (Rdu.PK×D)}(ea:H a=some (.dT ws))(q:RelKv pK K ρ H kvs ws)(h:upB (kvs.map (·.1))=true/\kvs.length<Line):UpD H a ws (kvs.map (·.1)):=⟨.inl ea,q.keys,Jvu h.1,by rw[<-q.length,<-Ja9];exact h.2⟩
theorem Jmo:∀{ps:List Rdu.PK} {bs:List Addr},bs.length=ps.length->(∀(i:Nat) (b:Addr) (q:Rdu.PK),bs[i]? =some b->ps[i]? =some q->H b=some (.tup ((pK q).map kV)))->RelDs K ρ H (ps.map dK) (bs.map V.ref)
 |[],[],_,_=>RelDs.nil
 |p::ps,b::bs,hl,h=>by
  refine RelDs.cons ?_ (Jmo (by simpa using hl) λi b q h1 h2=>h (i+1) b q (by simpa using h1) (by simpa using h2));simp only[RelD];exact⟨b,_,rfl,SqT.of (h 0 b p rfl rfl),RelDs.cons (RelD.int _) (RelDs.cons (RelD.int _) RelDs.nil)⟩
theorem Jtk(p:Prim)(hc:X.calm=true):U2 X (Wr p) (rP X.K p):=by
 intro pins s U H xs us Q I r hq_;obtain⟨ρ,S,ds,d,S',rs,rd,e,fin⟩:=hq_;cases p with
 |len=>
  rcases ds with _|⟨x,_|⟨y,ds⟩⟩<;>try (first|exact absurd e Jaa|(cases x<;>exact absurd e Jaa)|(cases x<;>first|exact absurd e Jaa|(cases y<;>exact absurd e Jaa)))
  all_goals simp only[Jft]at e
  obtain⟨v,rfl,rv⟩:=rd.one;split at e
  ·rename_i es hs;cases e;obtain⟨a,ys,rfl,sq,t⟩:=rs.seq rv hs;refine Jhq pins s U H _ us Q I r ⟨a,ys,rfl,sq,?_⟩;rw[<-t.length];exact fin.now rs (RelD.int _)
  ·split at e<;>try (cases e;done)
   split at e<;>try (cases e;done)
   rename_i kvs hd;cases e;obtain⟨a,ws,rfl,_,ea,q⟩:=rs.dct rv (Jes hd);refine Jnj pins s U H _ us Q I r ⟨a,ws,rfl,ea,?_⟩;rw[<-q.length];exact fin.now rs (RelD.int _)
 |abs=>
  rcases ds with _|⟨x,_|⟨y,ds⟩⟩<;>try (first|exact absurd e Jaa|(cases x<;>exact absurd e Jaa)|(cases x<;>first|exact absurd e Jaa|(cases y<;>exact absurd e Jaa)))
  cases x<;>try (exact absurd e Jaa)
  all_goals simp only[Jof]at e
  cases e;obtain⟨v,rfl,rv⟩:=rd.one;cases rv.int_inv;exact Jp8 pins s U H _ us Q I r ⟨_,rfl,fin.now rs (RelD.int _)⟩
 |max2=>
  rcases ds with _|⟨x,_|⟨y,_|⟨z,ds⟩⟩⟩<;>try (first|exact absurd e Jaa|(cases x<;>exact absurd e Jaa)|(cases x<;>first|exact absurd e Jaa|(cases y<;>exact absurd e Jaa)))
  cases x<;>cases y<;>try (exact absurd e Jaa)
  all_goals simp only[Joe]at e
  cases e;obtain⟨v,w,rfl,rv,rw'⟩:=rd.two;cases rv.int_inv;cases rw'.int_inv;exact Jni hc pins s U H _ us Q I r ⟨_,_,rfl,fin.now rs (RelD.int _)⟩
 |min2=>
  rcases ds with _|⟨x,_|⟨y,_|⟨z,ds⟩⟩⟩<;>try (first|exact absurd e Jaa|(cases x<;>exact absurd e Jaa)|(cases x<;>first|exact absurd e Jaa|(cases y<;>exact absurd e Jaa)))
  cases x<;>cases y<;>try (exact absurd e Jaa)
  all_goals simp only[Jod]at e
  cases e;obtain⟨v,w,rfl,rv,rw'⟩:=rd.two;cases rv.int_inv;cases rw'.int_inv;exact Jnh hc pins s U H _ us Q I r ⟨_,_,rfl,fin.now rs (RelD.int _)⟩
 |int1=>
  rcases ds with _|⟨x,_|⟨y,ds⟩⟩<;>try (first|exact absurd e Jaa|(cases x<;>exact absurd e Jaa)|(cases x<;>first|exact absurd e Jaa|(cases y<;>exact absurd e Jaa)))
  obtain⟨v,rfl,rv⟩:=rd.one;cases x<;>try (exact absurd e Jaa)
  all_goals simp only[Joc,Job]at e
  ·cases e;cases rv.bl_inv;exact Jhr pins s U H _ us Q I r (.inr ⟨_,rfl,fin.now rs (RelD.int _)⟩)
  ·cases e;cases rv.int_inv;exact Jhr pins s U H _ us Q I r (.inl ⟨_,rfl,fin.now rs (RelD.int _)⟩)
 |list1=>
  rcases ds with _|⟨x,_|⟨y,ds⟩⟩<;>try (first|exact absurd e Jaa|(cases x<;>exact absurd e Jaa)|(cases x<;>first|exact absurd e Jaa|(cases y<;>exact absurd e Jaa)))
  all_goals simp only[Ji9]at e
  obtain⟨v,rfl,rv⟩:=rd.one;split at e
  ·rename_i es hs;cases e;obtain⟨a,ys,rfl,sq,t⟩:=rs.seq rv hs;exact Jhp pins s U H _ us Q I r ⟨a,ys,rfl,sq,fin.newL rs t⟩
  ·split at e
   ·rename_i l _;cases hd:dctAt S l with
    |none=>rw[hd]at e;cases e
    |some kvs=>
     rw[hd]at e;cases e;obtain⟨a,ws,rfl,_,ea,q⟩:=rs.dct rv (Jes hd);refine Jgh hc pins s U H _ us Q I r ⟨a,ws,rfl,ea,fin.newL rs ?_⟩;have e1:ws.map (λkv=>kV kv.1)=kvs.map λp=>V.int p.1:=by
      have:=congrArg (Mz kV) q.keys;rw[Bz,Bz,Bz]at this;exact this
     rw[e1];have all:∀l:List (Int×D),RelDs X.K ρ H (l.map λp=>D.int p.1) (l.map λp=>V.int p.1):=λl=>by
      induction l with
      |nil=>exact RelDs.nil
      |cons p l ih=>exact RelDs.cons (RelD.int _) ih
     exact all kvs
   ·cases e
 |tuple1=>
  rcases ds with _|⟨x,_|⟨y,ds⟩⟩<;>try (first|exact absurd e Jaa|(cases x<;>exact absurd e Jaa)|(cases x<;>first|exact absurd e Jaa|(cases y<;>exact absurd e Jaa)))
  all_goals simp only[Ji8]at e
  obtain⟨v,rfl,rv⟩:=rd.one;split at e
  ·rename_i es hs;cases e;obtain⟨a,ys,rfl,sq,t⟩:=rs.seq rv hs;refine Jgg pins s U H _ us Q I r ⟨a,ys,rfl,?_⟩;rcases sq with sq|sq
   ·exact .inl ⟨sq,fin.newT rs t⟩
   ·exact .inr ⟨sq,fin.now rs (by simp only[RelD];exact⟨a,ys,rfl,sq,t⟩)⟩
  ·cases e
 |all1=>
  rcases ds with _|⟨x,_|⟨y,ds⟩⟩<;>try (first|exact absurd e Jaa|(cases x<;>exact absurd e Jaa)|(cases x<;>first|exact absurd e Jaa|(cases y<;>exact absurd e Jaa)))
  cases x<;>try (exact absurd e Jaa)
  simp only[Jg4]at e;obtain⟨v,rfl,rv⟩:=rd.one;split at e<;>try (cases e;done)
  rename_i es hs;split at e<;>try (cases e;done)
  rename_i b hb;cases e;exact Jhs hc pins s U H _ us Q I r ⟨ρ,S,_,es,b,rs,v,rfl,rv,hs,hb,fin.now rs (RelD.bl _)⟩
 |sum1=>
  rcases ds with _|⟨x,_|⟨y,ds⟩⟩<;>try (first|exact absurd e Jaa|(cases x<;>exact absurd e Jaa)|(cases x<;>first|exact absurd e Jaa|(cases y<;>exact absurd e Jaa)))
  cases x<;>try (exact absurd e Jaa)
  simp only[Jg3]at e;obtain⟨v,rfl,rv⟩:=rd.one;split at e<;>try (cases e;done)
  rename_i es hs;split at e<;>try (cases e;done)
  rename_i b hb;cases e;exact Jhn hc pins s U H _ us Q I r ⟨ρ,S,_,es,b,rs,v,rfl,rv,hs,hb,fin.now rs (RelD.int _)⟩
 |sort1=>
  rcases ds with _|⟨x,_|⟨y,ds⟩⟩<;>try (first|exact absurd e Jaa|(cases x<;>exact absurd e Jaa)|(cases x<;>first|exact absurd e Jaa|(cases y<;>exact absurd e Jaa)))
  cases x<;>try (exact absurd e Jaa)
  simp only[Jg2]at e;obtain⟨v,rfl,rv⟩:=rd.one;split at e<;>try (cases e;done)
  rename_i kvs hk;split at e<;>try (cases e;done)
  rename_i hup;cases e;obtain⟨a,ws,rfl,_,ea,q⟩:=rs.dtu rv (Jcb hk);refine Jho hc pins s U H _ us Q I r ⟨a,ws,_,rfl,Jql ea q hup,λp bs hp hl hb=>?_⟩;have:=Jmo (K:=X.K) (ρ:=ρ) hl hb;rw[Bz]at this;exact fin.newL rs this p hp
 |dict1=>
  rcases ds with _|⟨x,_|⟨y,ds⟩⟩<;>try (first|exact absurd e Jaa|(cases x<;>exact absurd e Jaa)|(cases x<;>first|exact absurd e Jaa|(cases y<;>exact absurd e Jaa)))
  cases x<;>try (exact absurd e Jaa)
  simp only[Jd5]at e;obtain⟨v,rfl,rv⟩:=rd.one;split at e<;>try (cases e;done)
  ·rename_i kvs hk;cases e;obtain⟨a,ws,rfl,_,ea,q⟩:=rs.dct rv hk;exact Jfk pins s U H _ us Q I r ⟨a,rfl,.inl ⟨ws,.inl ea,fin.newO rs λp n=>⟨ws,Jai,q.fut (Jba n [p])⟩⟩⟩
  ·rename_i kvs hk;split at e<;>try (cases e;done)
   rename_i hap;cases e;obtain⟨a,ws,rfl,_,ea,q⟩:=rs.dtu rv hk;exact Jfk pins s U H _ us Q I r ⟨a,rfl,.inr ⟨ws,.inl ea,Jzt q hap,fin.newO rs λp n=>⟨ws,Jai,q.fut (Jba n [p])⟩⟩⟩
noncomputable def V1:Meth->String
 |.append=>"append"|.pop0=>"pop"|.get2=>"get"|.indexT=>"index"|.get1=>"get"|.pop1=>"pop"
noncomputable def Wg:Meth->String
 |.append=>"list.append"|.pop0=>"list.pop"|.get2=>"dict.get"|.indexT=>"tuple.index"|.get1=>"dict.get"|.pop1=>"dict.pop"
def rM(K:Af)(p:Meth):V->List V->Hp->VK->Prop:=λx xs H Q=>∃ρ S o ds d S',RelS K ρ S H/\RelD K ρ H o x/\RelDs K ρ H ds xs/\Uw p o ds S=.ok d S'/\Fin K ρ H d S' Q
def Jpt(I:Inv X pins U H s)(r:RelS X.K ρ S H)(hx:RelD X.K ρ H x vx)(rx:RelV vx w){us:List Value}
  (t:RelDs X.K ρ H ds xs)(v:Vals xs us)(e:Xd S x ds=some j):∃e:Value->Bool,∃hj:j<us.length,e us[j]=true/\(∀m (hm:m<us.length),m<j->e us[m]=false)/\∀A:Bj,A.units<Cw->∀u∈us,E6 A s u w (e u):=by
 unfold Xd at e;split at e
 ·rename_i hall;rw[Ef]at hall
  classical
  let ev:Value->Bool:=λu=>decide (∃d z,RelD X.K ρ H d z/\RelV z u/\eqD S 0 d x=some true)
  have one:∀{d:D} {v:V} {u:Value} {b:Bool},RelD X.K ρ H d v->RelV v u->eqD S 0 d x=some b->ev u=b:=λ{d v u b} h r1 e=>by
   cases b with
   |true=>exact decide_eq_true ⟨d,v,h,r1,e⟩
   |false=>
    refine decide_eq_false ?_;rintro⟨d',v',h',r2,e'⟩;cases r1.inj r2;rw[RelD.inj I r h h',e']at e;cases e
  have at':∀(m:Nat) (hm:m<us.length),∃d z,ds[m]? =some d/\RelD X.K ρ H d z/\RelV z us[m]:=λm hm=>by
   have l1:m<ds.length:=by rw[t.length,v.length];exact hm
   obtain⟨z,e1,q1⟩:=t.get (Ag l1);obtain⟨u',e2,q2⟩:=v.get e1;obtain⟨_,e3⟩:=Ae.mp e2;exact⟨_,z,Ag l1,q1,by rw[e3];exact q2⟩
  obtain⟨hj,h1,h2⟩:=List.findIdx?_eq_some_iff_getElem.mp e;have hj':j<us.length:=by rw[<-v.length,<-t.length];exact hj
  refine⟨ev,hj',?_,λm hm hlt=>?_,λA hA u hu=>?_⟩
  ·obtain⟨d,z,e1,q1,q2⟩:=at' j hj';rw[Ag hj]at e1;cases e1;exact one q1 q2 (by simpa using h1)
  ·obtain⟨d,z,e1,q1,q2⟩:=at' m hm;have hm':m<ds.length:=by lia
   have:=h2 m hlt;rw[Ag hm']at e1;cases e1;obtain⟨b,hb⟩:=B6.mp (hall _ (G6 hm'));rw[one q1 q2 hb];rw[hb]at this;cases b
   ·rfl
   ·simp at this
  ·obtain⟨m,hm,rfl⟩:=List.getElem_of_mem hu;obtain⟨d,z,e1,q1,q2⟩:=at' m hm;obtain⟨b,hb⟩:=B6.mp (hall _ (Ba e1));rw[one q1 q2 hb];exact(Jhg I r 0 (by simpa using hA) q1 hx q2 rx hb).eq
 ·cases e
theorem Jea(p:Meth)(hu:X.A.units+64<Cw)(np:npB X.K=true):MtR X (Wg p) (rM X.K p):=by
 intro pins s U H x xs v us Q I rx rvs hq_;obtain⟨ρ,S,o,ds,d,S',rs,ro,rd,e,fin⟩:=hq_;cases p with
 |append=>
  cases o<;>rcases ds with _|⟨y,_|⟨z,ds⟩⟩<;>try (exact absurd e Jaa)
  all_goals simp only[Jjf]at e
  split at e
  ·rename_i ys hy;split at e
   ·rename_i hl;cases e;obtain⟨a,zs,rfl,ha,q,t⟩:=rs.lst ro hy;obtain⟨w,rfl,rw'⟩:=rd.one;exact Jmh pins s U H _ _ v us Q I rx rvs ⟨a,zs,w,rfl,rfl,q,by rw[<-t.length,<-Ja9];exact hl,fin ρ _ _ (Jdb q) (rs.set ha q (t.append (RelDs.cons rw' RelDs.nil))) RelD.non⟩
   ·cases e
  ·cases e
 |pop0=>
  cases o<;>rcases ds with _|⟨y,ds⟩<;>try (exact absurd e Jaa)
  all_goals simp only[Jje]at e
  split at e
  ·rename_i ys hy;split at e
   ·rename_i z hz;cases e;obtain⟨a,zs,rfl,ha,q,t⟩:=rs.lst ro hy;cases rd.inv_nil;obtain⟨w,ew,rw'⟩:=t.get hz;refine Jx7 pins s U H _ _ v us Q I rx rvs ⟨a,zs,w,rfl,rfl,q,by rw[<-t.length];exact ew,fin ρ _ _ (Jdb q) (rs.set ha q t.dropLast) (rw'.fut (Jdb q))⟩
   ·cases e
  ·cases e
 |indexT=>
  cases o<;>rcases ds with _|⟨y,_|⟨z,ds⟩⟩<;>try (exact absurd e Jaa)
  all_goals simp only[Joh]at e
  split at e
  ·split at e
   ·rename_i j hj;cases e;obtain⟨a,zs,rfl,q,t⟩:=ro.tup_inv;obtain⟨vy,rfl,rw'⟩:=rd.one;obtain⟨u,rfl,ru⟩:=vals1 rvs;cases rx;obtain⟨its,vv,pl,_⟩:=I.tuple q;obtain⟨ev,hk,e1,e2,e3⟩:=Jpt I rs rw' ru t vv hj;exact Jfn (show s.heap.IsTuple a its.toArray from pl) (by simpa using hk) (by simpa using e1) (λm hm hlt=>by simpa using e2 m (by simpa using hm) hlt) (λy hy=>e3 _ (by rw[in1_units];lia) y (by simpa using hy)) ⟨.int j,H,I.tok _,⟨_,rfl⟩,fin.now rs (RelD.int _)⟩
   ·cases e
  ·cases e
 |get1=>
  cases o<;>rcases ds with _|⟨y,_|⟨z,ds⟩⟩<;>try (exact absurd e Jaa)
  simp only[Jjc]at e;split at e<;>try (cases e;done)
  rename_i o' ho;cases e;obtain⟨vy,rfl,ry⟩:=rd.one;obtain⟨u,rfl,ru⟩:=vals1 rvs;obtain⟨a,o2,rfl,_,g,h⟩:=Jis np rs ro ry ho;cases rx;refine Jzi (by show X.A.units+1<Cw;lia) I g ru λw' s' I' rw'=>⟨_,H,I',rw',?_⟩
  rcases h with⟨rfl,rfl⟩|⟨d,v,rfl,rfl,q⟩
  ·exact fin.now rs RelD.non
  ·exact fin.now rs q
 |pop1=>
  cases o<;>rcases ds with _|⟨y,_|⟨z,ds⟩⟩<;>try (exact absurd e Jaa)
  simp only[Jjb]at e;split at e<;>try (cases e;done)
  rename_i kvs k hk hy;split at e<;>try (cases e;done)
  rename_i d0 hd;cases e;cases Jf2 hy;obtain⟨vy,rfl,ry⟩:=rd.one;obtain⟨u,rfl,ru⟩:=vals1 rvs;obtain⟨a,ws,rfl,hp,ea,q⟩:=rs.dtu ro (Jcb hk);obtain⟨b,rfl,eb⟩:=Jfy np ry;cases rx;cases ru;rcases q.val Jg9 k with⟨z,_⟩|⟨d',v,z1,z2,z3⟩
  ·rw[z]at hd;cases hd
  ·rw[z1]at hd;cases hd;have f:Fut X.K ρ H ρ (upd H a (.dT (Wj ws (pK k)))):=Jen (o0:=.dT ws) ea (λ_ z=>by cases z) (λ_ _ z=>by cases z);exact Jzf (by show X.A.units+2<Cw;lia) I ea eb z2 λw' s' I' rw'=>⟨v,_,I',rw',fin ρ _ _ f (rs.setO (o0:=.dT ws) hp f ⟨_,Jai,(q.drop Jg9 k).fut f⟩) (z3.fut f)⟩
 |get2=>
  cases o<;>rcases ds with _|⟨x0,_|⟨y,_|⟨z,ds⟩⟩⟩<;>try (first|exact absurd e Jaa|(cases x0<;>exact absurd e Jaa))
  cases x0<;>try (exact absurd e Jaa)
  simp only[Jjd]at e;cases e;rename_i kvs k;obtain⟨a,rfl,kd⟩:=ro.kd_inv;obtain⟨v1,v2,rfl,r1,r2⟩:=rd.two;obtain⟨u1,u2,rfl,q1,q2⟩:=vals2 rvs;cases rx;cases r1.str_inv;obtain⟨tk,rfl⟩:=q1;have T:=kd.text I.kIn;refine R7 (h₀:=s.heap) (D:=kvs.map λp=>(p.1,Ej (.int p.2))) ⟨T,λ_ _ z=>z⟩ ?_;clear T kd;have main:∀(kvs:List (Str×Int)),(∀n tk',kvs.lookup k=some n->EP X pins U Q (.int n tk') {s with toks:=s.toks+1})->(kvs.lookup k=none->EP X pins U Q u2 {s with toks:=s.toks+1})->
    Se s.heap k (λv=>EP X pins U Q v {s with toks:=s.toks+1}) (EP X pins U Q u2 {s with toks:=s.toks+1}) (kvs.map λp=>(p.1,Ej (.int p.2))):=by
   intro kvs
   induction kvs with
   |nil=>intro _ h2;exact R8 (h2 rfl)
   |cons p r ih=>
    obtain⟨y,n⟩:=p;intro h1 h2
    by_cases hy:k=y
    ·subst hy;exact Sa rfl (R6 λt=>h1 n t (by simp))
    ·have hb:(k==y)=false:=by simpa using hy
     exact R9 hy (ih (λn tk' e=>h1 n tk' (by simp only[C6,hb];exact e)) λe=>h2 (by simp only[C6,hb];exact e))
  refine main kvs (λn tk' en=>?_) (λen=>?_)
  ·rw[en]at fin;exact⟨.int n,H,I.tok _,⟨_,rfl⟩,fin.now rs (RelD.int _)⟩
  ·rw[en]at fin;exact⟨_,H,I.tok _,q2,fin.now rs r2⟩
end
structure Ow where
 mt:List (String×String×String)
 fd:List (String×String)
 nw:List (String×String)
structure Ck where
 N:List Str
 names:List (Str×Ey)
 fn:Bool
 B:List String
 F:List String
 O:Ow
noncomputable def dbg(x:Str):Bool:= !(x==("__debug__":Str))&& !(x==("__classdict__":Str))
noncomputable def Ck.vis(c:Ck)(x:Str):Bool:=c.names.lookup x==some .local||c.names.lookup x==some .cell||c.names.lookup x==some .free
noncomputable def Ck.own(c:Ck)(x:Str):Bool:=if c.fn then c.names.lookup x==some .local||c.names.lookup x==some .cell else c.names.lookup x==some .local
noncomputable def Ck.gl(c:Ck)(x:Str):Bool:=c.names.lookup x==some .globalImplicit
noncomputable def relab(inner outer:List (Str×Ey)):List (Str×Ey):=inner.map λ(n,k)=>if(k== .free&&outer.lookup n==some .cell)then(n,.cell)else(n,k)
noncomputable def Ck.inner(c:Ck)(N:List String)(scope:Hu):Ck:={c with N:=N.map Ab,names:=relab scope.names c.names,fn:=false}
noncomputable def Ck.comp(c:Ck)(N:List String)(k:Nat)(keep:List Nat)(scope:Hu):Bool:=
 scope.kind== .function&&scope.names.all (λy=>y.2 != .cell)&&scope.names.all (λy=>y.2 != .local||scope.names.lookup y.1==some .local)
  &&scope.names.all (λy=>y.2 != .free||c.names.lookup y.1==some .cell||c.names.lookup y.1==some .free)
  &&N.length==k+keep.length&&decide ((N.map Ab).Nodup)
  &&(B1 keep.length).all (λj=>match keep[j]?,(N.map Ab)[k+j]? with
   |some i,some x=>c.N[i]? ==some x&&scope.names.lookup x==some .free
   |_,_=>false)
noncomputable def Jek:Expr->Bool
 |.Call (.Name ..) [] [] _=>true
 |_=>false
noncomputable def W6:Expr->Bool
 |.Name .. =>true
 |_=>false
noncomputable def isComp:Expr->Bool
 |.ListComp .. =>true|.SetComp .. =>true|.DictComp .. =>true
 |_=>false
noncomputable def V5(k:Nat):M->Bool
 |.tvar i=>decide (i<k)
 |.ttup ts=>V5 k ts
 |.nul=>true
 |.cns a b=>V5 k a&&V5 k b
 |_=>false
noncomputable def X1:Meth->M->Bool
 |.indexT,.glb _=>true
 |.indexT,_=>false
 |_,_=>true
noncomputable def cNB:Expr->Bool
 |.Constant .none _ _=>true
 |_=>false
noncomputable def Y3:Expr->Bool
 |.Set .. =>false
 |_=>true
noncomputable def Vf(o:Cop)(e:Expr):Bool:=match o with
 |.isc=>cNB e
 |.isnc=>cNB e
 |_=>Y3 e
noncomputable def itT:M->Expr->Bool
 |.enm _,.Tuple _ _ _=>true
 |.enm _,_=>false
 |.zp _ _,.Tuple _ _ _=>true
 |.zp _ _,_=>false
 |_,_=>true
mutual
noncomputable def Uj:M->Ck->Expr->Bool
 |.cst .non,_,.Constant .none _ _=>true
 |.cst (.bl b),_,.Constant (.bool b') _ _=>b==b'
 |.cst (.int i),_,.Constant (.int j) _ _=>i==j
 |.cst (.str x),_,.Constant (.str y) _ _=>x==y
 |.var i,c,.Name x _=>c.N[i]? ==some x&&c.vis x&&dbg x
 |.glb g,c,.Name x _=>Ab g==x&&c.gl x&&dbg x
 |.bin o a b,c,.BinOp e p f _=>Y2 o==p&&Uj a c e&&Uj b c f
 |.neg a,c,.UnaryOp .USub e _=>Uj a c e
 |.nott a,c,.UnaryOp .Not e _=>Uj a c e
 |.bit a,c,.Call (.Attribute e x ap) [] [] cp=>Ab "bit_length"==x&&W6 e&&ap.endLine==cp.line&&Uj a c e
 |.bo true as,c,.BoolOp .And es _=>Ux as c es
 |.bo false as,c,.BoolOp .Or es _=>Ux as c es
 |.cmp o a b,c,.Compare e [p] [f] _=>Vx o==p&&Uj a c e&&Uj b c f&&Vf o f
 |.cmp2 o o' a b d,c,.Compare e [p,p'] [f,g] _=>Vx o==p&&Vx o'==p'&&Uj a c e&&Uj b c f&&Uj d c g&&Vf o f&&Vf o' g
 |.ife t a b,c,.IfExp x e f _=>Uj t c x&&Uj a c e&&Uj b c f
 |.tup as,c,.Tuple es _ _=>Ux as c es
 |.lst as,c,.List es _=>Ux as c es
 |.idx a b,c,.Subscript e f _=>Uj a c e&&Uj b c f
 |.sli a lo hi,c,.Subscript e (.Slice l h none _) _=>Uj a c e&&Xp lo c l&&Xp hi c h
 |.call f as,c,.Call (.Name x _) es [] _=>Ab f==x&&c.gl x&&dbg x&&c.F.contains f&&Ux as c es
 |.prim p as,c,.Call (.Name x _) (e::es) [] _=>Ab (Vb p)==x&&c.gl x&&c.B.contains (Vb p)&&Ux as c (e::es)
 |.isi a t,c,.Call (.Name x _) [e,.Name y _] [] _=>Ab "isinstance"==x&&Ab t==y&&c.gl x&&c.gl y&&c.B.contains "isinstance"&&c.B.contains t&&clNames.contains t&&Uj a c e
 |.meth p o as,c,.Call (.Attribute e x ap) es [] cp=>Ab (V1 p)==x&& !Jek e&&ap.endLine==cp.line&&decide (es.length<20)&&Uj o c e&&Ux as c es&&X1 p o
 |.comp N k keep tg it cd el,c,.ListComp elt [⟨t,i,fs,asy⟩] scope _=>asy==0&&c.comp N k keep scope&&V5 k tg&&Vj tg (c.inner N scope) t&&V0 it c i&&Yp cd (c.inner N scope) fs&&Uj el (c.inner N scope) elt&&itT it t
 |.dnil _,_,.Dict [] [] _=>true
 |.hld a,c,.Call (.Name x _) [.Call (.Name y _) [.Call (.Attribute e z ap) [] [] cp] [] _] [] _=>Ab "dict"==x&&Ab "sorted"==y&&Ab "items"==z&&c.gl x&&c.gl y&&c.B.contains "dict"&&c.B.contains "sorted"&& !Jek e&&ap.endLine==cp.line&&Uj a c e
 |.lsp a,c,.Call (.Name x _) [.Call (.Name y _) [e] [] _] [] _=>Ab "len"==x&&Ab "set"==y&&c.gl x&&c.gl y&&c.B.contains "len"&&c.B.contains "set"&&Uj a c e
 |.fld cl f a,c,.Attribute e x _=>Ab f==x&&W6 e&&c.O.fd.contains (cl,f)&&Uj a c e
 |.mcl cl m f o as,c,.Call (.Attribute e x ap) es [] cp=>Ab m==x&&W6 e&&ap.endLine==cp.line&&decide (es.length<20)&&c.O.mt.contains (cl,m,f)&&Uj o c e&&Ux as c es
 |.new cl f,c,.Call (.Name x _) [] [] _=>Ab cl==x&&c.gl x&&dbg x&&c.O.nw.contains (cl,f)
 |_,_,_=>false
noncomputable def Ux:M->Ck->List Expr->Bool
 |.nul,_,[]=>true
 |.cns a b,c,e::es=>Uj a c e&&Ux b c es
 |_,_,_=>false
noncomputable def Xp:M->Ck->Option Expr->Bool
 |.nul,_,none=>true
 |.cns a .nul,c,some e=>Uj a c e
 |_,_,_=>false
noncomputable def Yp:M->Ck->List Expr->Bool
 |.nul,_,[]=>true
 |.cns a .nul,c,[e]=>Uj a c e
 |_,_,_=>false
noncomputable def V0:M->Ck->Expr->Bool
 |.rng a,c,.Call (.Name x _) [e] [] _=>Ab "range"==x&&c.gl x&&c.B.contains "range"&&Uj a c e
 |.cns a .nul,c,e=>Uj a c e
 |.enm a,c,.Call (.Name x _) [e] [] _=>Ab "enumerate"==x&&c.gl x&&c.B.contains "enumerate"&&Uj a c e
 |.zp a b,c,.Call (.Name x _) [e,f] [] _=>Ab "zip"==x&&c.gl x&&c.B.contains "zip"&&Uj a c e&&Uj b c f
 |_,_,_=>false
noncomputable def Vj:M->Ck->Expr->Bool
 |.tvar i,c,.Name x _=>c.N[i]? ==some x&&c.own x
 |.ttup ts,c,.Tuple es _ _=>Vp ts c es
 |.tsub a b,c,.Subscript e f _=>Uj a c e&&Uj b c f
 |_,_,_=>false
noncomputable def Vp:M->Ck->List Expr->Bool
 |.nul,_,[]=>true
 |.cns a b,c,e::es=>Vj a c e&&Vp b c es
 |_,_,_=>false
noncomputable def Vd:M->Ck->Stmt->Bool
 |.asg t e,c,.Assign [tg] v _=>Vj t c tg&&Uj e c v&&(match tg,v with|.Tuple ..,.Tuple .. =>false|.Name ..,_=>true|_,v=> !isComp v)
 |.aug i e,c,.AugAssign (.Name x _) .Add v _=>c.N[i]? ==some x&&c.own x&&Uj e c v
 |.ifs t a b,c,.If x y z _=>Uj t c x&&Vk a c y&&Vk b c z
 |.forr t i b,c,.For tg it body [] _=>Vj t c tg&&V0 i c it&&Vk b c body&&itT i tg
 |.ret e,c,.Return (some v) _=>Uj e c v
 |.exp e,c,.Expr v _=>Uj e c v&& !isComp v
 |.rse,_,.Raise (some _) none _=>true
 |.sfd cl f o v,c,.Assign [.Attribute e x _] w _=>Ab f==x&& !isComp w&&c.O.fd.contains (cl,f)&&Uj o c e&&Uj v c w
 |_,_,_=>false
noncomputable def Vk:M->Ck->List Stmt->Bool
 |.nul,_,[]=>true
 |.cns a b,c,s::ss=>Vd a c s&&Vk b c ss
 |_,_,_=>false
end
theorem Wga:Uj (.cst (.bl b)) (u1') (.Constant (.bool b') u2' u3')=(b==b'):=rfl
theorem Wf9:Uj (.cst (.int i)) (u1') (.Constant (.int j) u2' u3')=(i==j):=rfl
theorem Wf8:Uj (.cst (.str x)) (u1') (.Constant (.str y) u2' u3')=(x==y):=rfl
theorem Wf7:Uj (.var i) (c) (.Name x u1')=(c.N[i]? ==some x&&c.vis x&&dbg x):=rfl
theorem Wd7:Uj (.glb g) (c) (.Name x u1')=(Ab g==x&&c.gl x&&dbg x):=rfl
theorem Wf6:Uj (.bin o a b) (c) (.BinOp e p f u1')=(Y2 o==p&&Uj a c e&&Uj b c f):=rfl
theorem Wf5:Uj (.neg a) (c) (.UnaryOp .USub e u1')=(Uj a c e):=rfl
theorem Wf4:Uj (.nott a) (c) (.UnaryOp .Not e u1')=(Uj a c e):=rfl
theorem Jzo:Uj (.bit a) c (.Call (.Attribute e x ap) [] [] cp)=(Ab "bit_length"==x&&W6 e&&ap.endLine==cp.line&&Uj a c e):=rfl
theorem Wf3:Uj (.bo true as) (c) (.BoolOp .And es u1')=(Ux as c es):=rfl
theorem J15:Uj (.bo false as) (c) (.BoolOp .Or es u1')=(Ux as c es):=rfl
theorem J14:Uj (.cmp o a b) (c) (.Compare e [p] [f] u1')=(Vx o==p&&Uj a c e&&Uj b c f&&Vf o f):=rfl
theorem J13:Uj (.cmp2 o o' a b d) (c) (.Compare e [p,p'] [f,g] u1')=(Vx o==p&&Vx o'==p'&&Uj a c e&&Uj b c f&&Uj d c g&&Vf o f&&Vf o' g):=rfl
theorem J12:Uj (.ife t a b) (c) (.IfExp x e f u1')=(Uj t c x&&Uj a c e&&Uj b c f):=rfl
theorem J11:Uj (.tup as) (c) (.Tuple es u1' u2')=(Ux as c es):=rfl
theorem J10:Uj (.lst as) (c) (.List es u1')=(Ux as c es):=rfl
theorem J1z:Uj (.idx a b) (c) (.Subscript e f u1')=(Uj a c e&&Uj b c f):=rfl
theorem J1y:Uj (.sli a lo hi) (c) (.Subscript e (.Slice l h none u1') u2')=(Uj a c e&&Xp lo c l&&Xp hi c h):=rfl
theorem J1x:Uj (.call f as) (c) (.Call (.Name x u1') es [] u2')=(Ab f==x&&c.gl x&&dbg x&&c.F.contains f&&Ux as c es):=rfl
theorem J1w:Uj (.prim p as) (c) (.Call (.Name x u1') (e::es) [] u2')=(Ab (Vb p)==x&&c.gl x&&c.B.contains (Vb p)&&Ux as c (e::es)):=rfl
theorem J1v:Uj (.isi a t) (c) (.Call (.Name x u1') [e,.Name y u2'] [] u3')=(Ab "isinstance"==x&&Ab t==y&&c.gl x&&c.gl y&&c.B.contains "isinstance"&&c.B.contains t&&clNames.contains t&&Uj a c e):=rfl
theorem J1u:Uj (.meth p o as) (c) (.Call (.Attribute e x ap) es [] cp)=(Ab (V1 p)==x&& !Jek e&&ap.endLine==cp.line&&decide (es.length<20)&&Uj o c e&&Ux as c es&&X1 p o):=rfl
theorem Jzp:Uj (.comp N k keep tg it cd el) (c) (.ListComp elt [⟨t,i,fs,asy⟩] scope u1')=(asy==0&&c.comp N k keep scope&&V5 k tg&&Vj tg (c.inner N scope) t&&V0 it c i&&Yp cd (c.inner N scope) fs&&Uj el (c.inner N scope) elt&&itT it t):=rfl
theorem J1t:Uj (.hld a) c (.Call (.Name x u1') [.Call (.Name y u2') [.Call (.Attribute e z ap) [] [] cp] [] u3'] [] u4')=(Ab "dict"==x&&Ab "sorted"==y&&Ab "items"==z&&c.gl x&&c.gl y&&c.B.contains "dict"&&c.B.contains "sorted"&& !Jek e&&ap.endLine==cp.line&&Uj a c e):=rfl
theorem J1p:Uj (.lsp a) c (.Call (.Name x u1') [.Call (.Name y u2') [e] [] u3'] [] u4')=(Ab "len"==x&&Ab "set"==y&&c.gl x&&c.gl y&&c.B.contains "len"&&c.B.contains "set"&&Uj a c e):=rfl
theorem J1s:Uj (.fld cl f a) c (.Attribute e x u1')=(Ab f==x&&W6 e&&c.O.fd.contains (cl,f)&&Uj a c e):=rfl
theorem J1r:Uj (.mcl cl m f o as) c (.Call (.Attribute e x ap) es [] cp)=(Ab m==x&&W6 e&&ap.endLine==cp.line&&decide (es.length<20)&&c.O.mt.contains (cl,m,f)&&Uj o c e&&Ux as c es):=rfl
theorem J1q:Uj (.new cl f) c (.Call (.Name x u1') [] [] u2')=(Ab cl==x&&c.gl x&&dbg x&&c.O.nw.contains (cl,f)):=rfl
theorem Wl:Ux (.cns a b) c (e::es)=(Uj a c e&&Ux b c es):=rfl
theorem Ju2:Vp (.cns a b) c (e::es)=(Vj a c e&&Vp b c es):=rfl
theorem Wgb:Vk (.cns a b) c (s::ss)=(Vd a c s&&Vk b c ss):=rfl
theorem Wf0:V0 (.rng a) (c) (.Call (.Name x u1') [e] [] u2')=(Ab "range"==x&&c.gl x&&c.B.contains "range"&&Uj a c e):=rfl
theorem Wfz:V0 (.cns a .nul) (c) (e)=(Uj a c e):=rfl
theorem Wfy:V0 (.enm a) (c) (.Call (.Name x u1') [e] [] u2')=(Ab "enumerate"==x&&c.gl x&&c.B.contains "enumerate"&&Uj a c e):=rfl
theorem J1o:V0 (.zp a b) (c) (.Call (.Name x u1') [e,f] [] u2')=(Ab "zip"==x&&c.gl x&&c.B.contains "zip"&&Uj a c e&&Uj b c f):=rfl
theorem Zj:Vj (.tvar i) (c) (.Name x u1')=(c.N[i]? ==some x&&c.own x):=rfl
theorem Wf2:Vj (.ttup ts) (c) (.Tuple es u1' u2')=(Vp ts c es):=rfl
theorem Wf1:Vj (.tsub a b) (c) (.Subscript e f u1')=(Uj a c e&&Uj b c f):=rfl
theorem Wfx:Vd (.asg t e) (c) (.Assign [tg] v u1')=(Vj t c tg&&Uj e c v&&(match tg,v with|.Tuple ..,.Tuple .. =>false|.Name ..,_=>true|_,v=> !isComp v)):=rfl
theorem Jzn:Vd (.aug i e) (c) (.AugAssign (.Name x u1') .Add v u2')=(c.N[i]? ==some x&&c.own x&&Uj e c v):=rfl
theorem Wfw:Vd (.ifs t a b) (c) (.If x y z u1')=(Uj t c x&&Vk a c y&&Vk b c z):=rfl
theorem Wfv:Vd (.forr t i b) (c) (.For tg it body [] u1')=(Vj t c tg&&V0 i c it&&Vk b c body&&itT i tg):=rfl
theorem Wfu:Vd (.ret e) (c) (.Return (some v) u1')=(Uj e c v):=rfl
theorem Wft:Vd (.exp e) (c) (.Expr v u1')=(Uj e c v&& !isComp v):=rfl
theorem J1n:Vd (.sfd cl f o v) c (.Assign [.Attribute e x u1'] w u2')=(Ab f==x&& !isComp w&&c.O.fd.contains (cl,f)&&Uj o c e&&Uj v c w):=rfl
section
variable (K:Af) (C:Pr)
inductive tE (m:M) (U:L2.St) (H:Hp) (Q:VK):Prop
 |mk (ρ S Z d S') (_:RelS K ρ S H) (_:RelE K ρ H Z U) (_:evE C m Z S=.ok d S') (_:Fin K ρ H d S' Q):tE m U H Q
noncomputable def FinB(ρ:List Addr)(H:Hp)(S':Store)(Q:Hp->Prop):Prop:=∀ρ' H',Fut K ρ H ρ' H'->RelS K ρ' S' H'->Q H'
inductive tT (m:M) (U:L2.St) (H:Hp) (Q:Bool->Hp->Prop):Prop
 |mk (ρ S Z b S') (_:RelS K ρ S H) (_:RelE K ρ H Z U) (_:evT C m Z S=.ok b S') (_:FinB K ρ H S' (Q b)):tT m U H Q
inductive tC (m:M) (U:L2.St) (H:Hp) (Q:Bool->Hp->Prop):Prop
 |mk (ρ S Z b S') (_:RelS K ρ S H) (_:RelE K ρ H Z U) (_:evC C m Z S=.ok b S') (_:FinB K ρ H S' (Q b)):tC m U H Q
inductive tBV (w:Bool) (m:M) (U:L2.St) (H:Hp) (Q:VK):Prop
 |mk (ρ S Z d S') (_:RelS K ρ S H) (_:RelE K ρ H Z U) (_:evBV C w m Z S=.ok d S') (_:Fin K ρ H d S' Q):tBV w m U H Q
inductive tBT (w:Bool) (m:M) (U:L2.St) (H:Hp) (Q:Bool->Hp->Prop):Prop
 |mk (ρ S Z b S') (_:RelS K ρ S H) (_:RelE K ρ H Z U) (_:evBT C w m Z S=.ok b S') (_:FinB K ρ H S' (Q b)):tBT w m U H Q
inductive tA (m:M) (U:L2.St) (H:Hp) (Q:List V->Hp->Prop):Prop
 |mk (ρ S Z ds S') (_:RelS K ρ S H) (_:RelE K ρ H Z U) (_:evA C m Z S=.ok ds S') (_:∀ρ' vs H',Fut K ρ H ρ' H'->RelS K ρ' S' H'->RelDs K ρ' H' ds vs->Q vs H'):tA m U H Q
inductive tO (m:M) (U:L2.St) (H:Hp) (Q:Option Int->Hp->Prop):Prop
 |mk (ρ S Z o S') (_:RelS K ρ S H) (_:RelE K ρ H Z U) (_:evO C m Z S=.ok o S') (_:FinB K ρ H S' (Q o)):tO m U H Q
structure ItOk(ρ0:List Addr)(H0:Hp)(J:It)(g:Wk)(ds:List D):Prop where
 go:∀ρ H S i d,Fut K ρ0 H0 ρ H->RelS K ρ S H->sameAt S g ds.length=true->nth S g ds i=some d->J.go i H/\∀x H',J.yld i H x H'->Fut K ρ H ρ H'/\RelS K ρ S H'/\RelD K ρ H' d x
 stop:∀ρ H S,Fut K ρ0 H0 ρ H->RelS K ρ S H->sameAt S g ds.length=true->J.stop ds.length H
inductive tI (m:M) (U:L2.St) (H:Hp) (R:It->Hp->Prop):Prop
 |mk (ρ S Z g ds S') (_:RelS K ρ S H) (_:RelE K ρ H Z U) (_:evI C m Z S=.ok (g,ds) S') (_:∀ρ' H' J,Fut K ρ H ρ' H'->RelS K ρ' S' H'->ItOk K ρ' H' J g ds->R J H'):tI m U H R
noncomputable def FinG(ρ:List Addr)(H:Hp)(Z':En)(S':Store)(Q:L2.St->Hp->Prop):Prop:=∀ρ' U' H',Fut K ρ H ρ' H'->RelS K ρ' S' H'->RelE K ρ' H' Z' U'->Q U' H'
inductive tG (m:M) (v:V) (U:L2.St) (H:Hp) (Q:L2.St->Hp->Prop):Prop
 |mk (ρ S Z d Z' S') (_:RelS K ρ S H) (_:RelE K ρ H Z U) (_:RelD K ρ H d v) (_:evG C m d Z S=.ok Z' S') (_:FinG K ρ H Z' S' Q):tG m v U H Q
inductive tGs (m:M) (vs:List V) (U:L2.St) (H:Hp) (Q:L2.St->Hp->Prop):Prop
 |mk (ρ S Z ds Z' S') (_:RelS K ρ S H) (_:RelE K ρ H Z U) (_:RelDs K ρ H ds vs) (_:evGs C m ds Z S=.ok Z' S') (_:FinG K ρ H Z' S' Q):tGs m vs U H Q
noncomputable def FlOk(ρ:List Addr)(H:Hp)(fl:Fl)(S':Store)(D:Ends):Prop:=match fl with
 |.nx Z'=>FinG K ρ H Z' S' D.nx
 |.rt d=>Fin K ρ H d S' D.rt
inductive tS (m:M) (D:Ends) (U:L2.St) (H:Hp):Prop
 |mk (ρ S Z fl S') (_:RelS K ρ S H) (_:RelE K ρ H Z U) (_:evS C m Z S=.ok fl S') (_:FlOk K ρ H fl S' D):tS m D U H
inductive tB' (m:M) (D:Ends) (U:L2.St) (H:Hp):Prop
 |mk (ρ S Z fl S') (_:RelS K ρ S H) (_:RelE K ρ H Z U) (_:evB C m Z S=.ok fl S') (_:FlOk K ρ H fl S' D):tB' m D U H
noncomputable def spM(f:String):Sp:=λvs H Q _=>∃ρ S ds d S',RelS K ρ S H/\RelDs K ρ H ds vs/\C.call f ds S=.ok d S'/\Fin K ρ H d S' Q
end
structure Tp(P:Program)(w:World)(K:Af)(mg:Str->Option Value)(base:Heap)(A:Bj)(C:Pr)(B F:List String)(O:Ow):Prop where
 fns:∀f∈F,∃k a fd ps,Uy k A/\mg (Ab f)=some (.ref a)/\Vv P w K mg base CX0 k a fd ps (spM K C f)/\Binds K fd ps []/\Cr K (.ref a)=true
 blt:∀x∈B,mg (Ab x)=none
 gl:∀x d,C.glob x=some d->∃v u,mg (Ab x)=some u/\RelV v u/\(∀ρ H,RelD K ρ H d v)/\∀ds,d=.tup ds->∃a o,v=.ref a/\K.lookup a=some o/\o.cls=.type "tuple"/\o.dict=none
 un:A.units+64<Cw
 np:npB K=true
 mts:∀c m f,(c,m,f)∈O.mt->∃k a fd ps Ca,Uy (k+1) A/\Bb K Ax (Ab c)=some (some (.ref Ca))/\L2.Cls K Ca/\L2.Meth K Ca (Ab m) a/\Vv P w K mg base CX0 k a fd ps (spM K C f)/\Binds K fd ps []
 fds:∀c f,(c,f)∈O.fd->∃Ca,Bb K Ax (Ab c)=some (some (.ref Ca))/\L2.Cls K Ca/\L2.Vc K Ca (Ab f)
 nws:∀c f,(c,f)∈O.nw->∃k a fd ps Ca,Uy (k+1) A/\Bb K Ax (Ab c)=some (some (.ref Ca))/\mg (Ab c)=some (.ref Ca)/\L2.Mk K Ca a/\Vv P w K mg base CX0 k a fd ps (spM K C f)/\Binds K fd ps []
structure Gd(X:Cx)(C:Pr)(c:Ck):Prop where
 N:X.N=c.N
 nd:X.N.Nodup
 names:X.env.scope.names=c.names
 sk:X.env.scope.kind=.function
 fn:∀x,X.fn x=c.fn
 calm:X.calm=true
 xe:X.xe=λ_ _=>False
 top:Tp X.prog X.w X.K X.mg X.base X.A C c.B c.F c.O
section
variable {X:Cx} {C:Pr} {c:Ck}
def PE.imp(h:PE X e t)(hi:∀U H Q,t' U H Q->t U H Q):PE X e t':=λpins s U H Q I q=>h pins s U H Q I (hi _ _ _ q)
def PT.imp(h:PT X e t)(hi:∀U H Q,t' U H Q->t U H Q):PT X e t':=λpins s U H Q I q=>h pins s U H Q I (hi _ _ _ q)
def PA.imp(h:PA X e t)(hi:∀U H Q,t' U H Q->t U H Q):PA X e t':=λpos pins s U H Q I q=>h pos pins s U H Q I (hi _ _ _ q)
def PI.imp(h:PI X tg e t)(hi:∀U H Q,t' U H Q->t U H Q):PI X tg e t':=λpins s U H Q I q=>h pins s U H Q I (hi _ _ _ q)
def PO.imp(h:PO X e t)(hi:∀U H Q,t' U H Q->t U H Q):PO X e t':=λpins s U H Q I q=>h pins s U H Q I (hi _ _ _ q)
def PG.imp(h:PG X e t)(hi:∀v U H Q,t' v U H Q->t v U H Q):PG X e t':=λpins s U H v u Q I r q=>h pins s U H v u Q I r (hi _ _ _ _ q)
def PGs.imp(h:PGs X e t)(hi:∀v U H Q,t' v U H Q->t v U H Q):PGs X e t':=λpins s U H v u Q I r q=>h pins s U H v u Q I r (hi _ _ _ _ q)
def PS.imp(h:PS X e t)(hi:∀D U H,t' D U H->t D U H):PS X e t':=λpins s U H D I q=>h pins s U H D I (hi _ _ _ q)
def PSs.imp(h:PSs X e t)(hi:∀D U H,t' D U H->t D U H):PSs X e t':=λpins s U H D I q=>h pins s U H D I (hi _ _ _ q)
def PTs.imp(h:PTs X e t)(hi:∀U H Q,t' U H Q->t U H Q):PTs X e t':=λpins s U H Q I q=>h pins s U H Q I (hi _ _ _ q)
def Xn(h:dbg x=true):(x==("__debug__":Str))=false:=by unfold dbg at h;simp only[Ah,I8]at h;exact h.1
def Wfr(h:dbg x=true):(x==("__classdict__":Str))=false:=by unfold dbg at h;simp only[Ah,I8]at h;exact h.2
def Gd.vis(g:Gd X C c)(h:c.vis x=true):Vis X.env.scope x:=by
 unfold Ck.vis at h;simp only[Hk,beq_iff_eq]at h;unfold Vis;rw[g.names];rcases h with(h|h)|h
 ·exact .inl h
 ·exact .inr (.inl h)
 ·exact .inr (.inr h)
def Gd.own(g:Gd X C c)(h:c.own x=true):L2.Loc X.env.scope x/\(X.fn x=true\/X.env.scope.names.lookup x=some .local):=by
 unfold Ck.own at h;unfold L2.Loc;rw[g.names,g.fn];split at h
 ·rename_i hf;simp only[Hk,beq_iff_eq]at h;exact⟨h,.inl hf⟩
 ·simp only[beq_iff_eq]at h;exact⟨.inl h,.inr h⟩
def Gd.glo(g:Gd X C c)(h:c.gl x=true):Gl X x:=by
 unfold Ck.gl at h;simp only[beq_iff_eq]at h;unfold Gl Env.kindOf;rw[g.names];exact h
def noStar:∀{m:M} {c:Ck} {e:Expr},Uj m c e=true->∀x p,e≠ .Starred x p:=by
 intro m c e h x p z;subst z;cases m<;>first|(exact fx9 h)|(rename_i d;cases d<;>exact fx9 h)|(rename_i w _;cases w<;>exact fx9 h)
def Jad(h:∀x p,e≠ .Starred x p):Bl (e::es) env=(false,eval e env)::Bl es env:=by
 cases e<;>first|rfl|exact absurd rfl (h _ _)
def Jcv(h:∀x p,e≠ .Starred x p):Fp (e::es) env=(false,assign e env)::Fp es env:=by
 cases e<;>first|rfl|exact absurd rfl (h _ _)
theorem U5:∀{m:M} {c:Ck} {es:List Expr} {env:Env},Ux m c es=true->(Bl es env).any (·.1)=false:=by
 intro m
 induction m with
 |nul=>intro c es env h;cases es<;>first|rfl|exact fx9 h
 |cns a b _ ihb=>
  intro c es env h;cases es with
  |nil=>exact fx9 h
  |cons e es=>
   simp only[Wl,Ah]at h;rw[Jad (noStar h.1),Fg,ihb h.2];rfl
 |_=>intro c es env h;exact fx9 h
theorem Jax(pos:Pos)(l:List (Bool×Sem Value)):(D5 pos l).any (·.1)=l.any (·.1):=by
 unfold D5;rw[Of];rfl
def Jfm(pos:Pos)(l:List (Bool×Sem Value))(h:l.any (·.1)=false):(D5 pos l).all (λx=> !x.1)=true:=by
 unfold D5;rw[Ui];rw[Ll]at h;rw[Ef];intro x hx;have:=h x hx
 simpa using this
def Yj:∀{m:M} {c:Ck} {e:Expr},Uj m c e=true->Xf e:=by
 intro m c e h o i;cases e<;>first|rfl|(exfalso;cases m<;>first|(exact fx9 h)|(rename_i d;cases d<;>exact fx9 h)|(rename_i w _;cases w<;>exact fx9 h))
def Jak{l:List String}(h:l.contains x=true):x∈l:=by simpa using h
def marks(h:Vf o e=true)(p:CmpOp):Hn p e=false:=by
 cases e<;>first|rfl|(cases o<;>exact fx9 h)
end
end Mi
namespace Mi
open PySem L2
structure Snd(C:Pr)(m:M):Prop where
 e:∀(X:Cx) (c:Ck) (x:Expr),Gd X C c->Uj m c x=true->PE X x (tE X.K C m)
 t:∀(X:Cx) (c:Ck) (x:Expr),Gd X C c->Uj m c x=true->PT X x (tT X.K C m)
 a:∀(X:Cx) (c:Ck) (x:List Expr),Gd X C c->Ux m c x=true->PA X x (tA X.K C m)
 bv:∀(X:Cx) (c:Ck) (w:Bool) (x:List Expr) (pos:Pos),Gd X C c->Ux m c x=true->PE X (.BoolOp (if w then .And else .Or) x pos) (tBV X.K C w m)
 bt:∀(X:Cx) (c:Ck) (w:Bool) (x:List Expr) (pos:Pos),Gd X C c->Ux m c x=true->PW X (.BoolOp (if w then .And else .Or) x pos) (tBT X.K C w m)
 o:∀(X:Cx) (c:Ck) (x:Option Expr),Gd X C c->Xp m c x=true->PO X x (tO X.K C m)
 cd:∀(X:Cx) (c:Ck) (x:List Expr),Gd X C c->Yp m c x=true->PTs X x (tC X.K C m)
 i:∀(X:Cx) (c:Ck) (tg x:Expr),Gd X C c->V0 m c x=true->itT m tg=true->PI X tg x (tI X.K C m)/\∀v,Dm x X.env v=pure v
 g:∀(X:Cx) (c:Ck) (x:Expr),Gd X C c->Vj m c x=true->PG X x (tG X.K C m)
 gs:∀(X:Cx) (c:Ck) (x:List Expr),Gd X C c->Vp m c x=true->PGs X x (tGs X.K C m)
 s:∀(X:Cx) (c:Ck) (x:Stmt),Gd X C c->Vd m c x=true->PS X x (tS X.K C m)
 b:∀(X:Cx) (c:Ck) (x:List Stmt),Gd X C c->Vk m c x=true->PSs X x (tB' X.K C m)
section
variable {C:Pr} {X:Cx} {c:Ck}
def Jih(h:∀U H Q,¬t U H Q):PE X e t:=λpins s U H Q _ q=>absurd q (h _ _ _)
def J0n(h:∀U H Q,¬t U H Q):PT X e t:=λpins s U H Q _ q=>absurd q (h _ _ _)
def J0d(h:∀Z S,evE C m Z S=.bad):∀U H Q,¬tE K C m U H Q:=by
 rintro U H Q ⟨ρ,S,Z,d,S',_,_,e,_⟩;rw[h]at e;cases e
def J0b(h:∀Z S,evT C m Z S=.bad):∀U H Q,¬tT K C m U H Q:=by
 rintro U H Q ⟨ρ,S,Z,d,S',_,_,e,_⟩;rw[h]at e;cases e
def Wb(h:∀a b p,e≠ .Set a b p)(v:Value):Dm e env v=pure v:=by
 cases e<;>first|rfl|exact absurd rfl (h _ _ _)
def Wdq:∀{m:M} {c:Ck} {e:Expr},Uj m c e=true->∀a b p,e≠ .Set a b p:=by
 intro m c e h x q p z;subst z;cases m<;>first|(exact fx9 h)|(rename_i d;cases d<;>exact fx9 h)|(rename_i w _;cases w<;>exact fx9 h)
def Jka{x:Expr}(h:PE X x (tE X.K C m))(he:∀whole,isTrue x X.env whole=(do let v<-whole;Mf x.pos;holding [v] (truthy v)))
  (hv:∀Z S b S',evT C m Z S=.ok b S'->∃d,evE C m Z S=.ok d S'/\tru S' d=some b):PT X x (tT X.K C m):=by
 refine PT.imp (Jom h he) λU H Q hq_=>?_;obtain⟨ρ,S,Z,b,S',rs,re,e,fin⟩:=hq_;obtain⟨d,e1,e2⟩:=hv Z S b S' e;exact⟨ρ,S,Z,d,S',rs,re,e1,λρ' v H' f r q=>⟨b,Jk5 r q e2,fin ρ' H' f r⟩⟩
def Jso(ha:Snd C a)(hb:Snd C b):∀(X:Cx) (c:Ck) (x:Expr),Gd X C c->Uj (.bin o a b) c x=true->PE X x (tE X.K C (.bin o a b)):=by
 intro X c x g h;cases x<;>try (exact fx9 h)
 simp only[Wf6,Ah,beq_iff_eq]at h;obtain⟨⟨rfl,h1⟩,h2⟩:=h;refine PE.imp (J0r (Jzq o) (ha.e X c _ g h1) (hb.e X c _ g h2)) λU H Q hq_=>?_;obtain⟨ρ,S,Z,d,S',rs,re,e,fin⟩:=hq_;simp only[Jwy]at e;obtain⟨x1,S1,e1,e⟩:=Res.bind_eq_ok e;obtain⟨x2,S2,e2,e⟩:=Res.bind_eq_ok e;refine⟨ρ,S,Z,x1,S1,rs,re,e1,λρ1 v1 H1 f1 r1 q1=>⟨ρ1,S1,Z,x2,S2,r1,re.fut f1,e2,λρ2 v2 H2 f2 r2 q2=>?_⟩⟩;exact⟨ρ2,S2,x1,x2,d,S',r2,q1.fut f2,q2,e,λρ3 v3 H3 f3 r3 q3=>fin ρ3 v3 H3 (f1.trans (f2.trans f3)) r3 q3⟩
def Jsb(ha:Snd C a):∀(X:Cx) (c:Ck) (x:Expr),Gd X C c->Uj (.neg a) c x=true->PE X x (tE X.K C (.neg a)):=by
 intro X c x g h;cases x<;>try (exact fx9 h)
 rename_i op e pos;cases op<;>try (exact fx9 h)
 simp only[Wf5]at h;refine PE.imp (J0p Jvv (ha.e X c _ g h)) λU H Q hq_=>?_;obtain⟨ρ,S,Z,d,S',rs,re,e,fin⟩:=hq_;simp only[Jwx]at e;obtain⟨x1,S1,e1,e⟩:=Res.bind_eq_ok e;refine⟨ρ,S,Z,x1,S1,rs,re,e1,λρ1 v1 H1 f1 r1 q1=>?_⟩;cases x1<;>simp only at e<;>try (cases e;done)
 cases e;exact⟨_,q1.int_inv,fin ρ1 _ H1 f1 r1 (RelD.int _)⟩
def Jx8:MtR X "int.bit_length" (λx xs H Q=>xs=[]/\∃i,x=.int i/\Q (.int (Bs i)) H):=by
 intro pins s U H x xs v us Q I rx r hq_;obtain⟨rfl,i,rfl,q⟩:=hq_;cases r;obtain⟨t,rfl⟩:=(show∃t',v=Dr i t' from rx)
 exact PyProof.Rows.call_int_bit_length ⟨.int _,H,I.tok _,⟨_,rfl⟩,q⟩
def Jsn(ha:Snd C a):∀(X:Cx) (c:Ck) (x:Expr),Gd X C c->Uj (.bit a) c x=true->PE X x (tE X.K C (.bit a)):=by
 intro X c x g h;cases x<;>try (exact fx9 h)
 rename_i fn es kws pos;cases fn<;>try (exact fx9 h)
 cases es<;>cases kws<;>try (exact fx9 h)
 simp only[Jzo,Ah,beq_iff_eq]at h;obtain⟨⟨⟨rfl,h1⟩,h2⟩,h3⟩:=h;rename_i e0 ap;have hbase:attributeBase e0 (Ab "bit_length") X.env (eval e0 X.env)=eval e0 X.env:=by
  cases e0<;>first|rfl|exact fx9 h1
 refine PE.imp (Jrb PySem.F.plainAttrs_int PySem.F.slot_int_bit_length PySem.F.type_int_bit_length Jx8 (ha.e X c _ g h3) hbase (by simpa using h2)) λU H Q hq_=>?_;obtain⟨ρ,S,Z,d,S',rs,re,e,fin⟩:=hq_;simp only[Joj]at e;obtain⟨x1,S1,e1,e⟩:=Res.bind_eq_ok e;refine⟨ρ,S,Z,x1,S1,rs,re,e1,λρ1 v1 H1 f1 r1 q1=>?_⟩;cases x1<;>simp only at e<;>try (cases e;done)
 cases e;cases q1.int_inv;exact⟨rfl,rfl,_,rfl,fin ρ1 _ H1 f1 r1 (RelD.int _)⟩
def Jts(ha:PE X a ta):PE X (.UnaryOp .Not a pos) (λU H Q=>ta U H λx H1=>∃k,Yq X.K x H1 k/\Q (.bl (!k)) H1):=by
 intro pins s U H Q I h;refine Q2 (thn (ha pins s U H _ I h) λv s1 ⟨x,H1,I1,r1,q1⟩=>?_);obtain⟨k,hk,q⟩:=q1;refine PyProof.Rows.not_of (thn (Jqo pins s1 U H1 x v (λb H2=>Q (.bl (!b)) H2) I1 r1 ⟨k,hk,q⟩) λb s2 ⟨H2,I2,q2⟩=>?_);exact⟨.bl (!b),H2,I2,rfl,q2⟩
def Jk9(ha:Snd C a):∀(X:Cx) (c:Ck) (x:Expr),Gd X C c->Uj (.nott a) c x=true->PE X x (tE X.K C (.nott a))/\PT X x (tT X.K C (.nott a)):=by
 intro X c x g h;cases x<;>try (exact fx9 h)
 rename_i op e pos;cases op<;>try (exact fx9 h)
 simp only[Wf4]at h;constructor
 ·refine PE.imp (Jts (ha.e X c _ g h)) λU H Q hq_=>?_;obtain⟨ρ,S,Z,d,S',rs,re,e,fin⟩:=hq_;simp only[Jww]at e;obtain⟨x1,S1,e1,e⟩:=Res.bind_eq_ok e;refine⟨ρ,S,Z,x1,S1,rs,re,e1,λρ1 v1 H1 f1 r1 q1=>?_⟩;split at e
  ·rename_i b hb;cases e;exact⟨b,Jk5 r1 q1 hb,fin ρ1 _ H1 f1 r1 (RelD.bl _)⟩
  ·cases e
 ·refine PT.imp (Jxc (ha.t X c _ g h)) λU H Q hq_=>?_;obtain⟨ρ,S,Z,d,S',rs,re,e,fin⟩:=hq_;simp only[Jwi]at e;obtain⟨x1,S1,e1,e⟩:=Res.bind_eq_ok e;cases e;exact⟨ρ,S,Z,x1,_,rs,re,e1,fin⟩
def Jlk(ha:Snd C a)(hb:Snd C b):∀(X:Cx) (c:Ck) (x:Expr),Gd X C c->Uj (.cmp o a b) c x=true->PE X x (tE X.K C (.cmp o a b))/\PT X x (tT X.K C (.cmp o a b)):=by
 intro X c x g h;cases x<;>try (exact fx9 h)
 rename_i l ops cs pos;rcases ops with _|⟨p,_|⟨p2,ops⟩⟩<;>rcases cs with _|⟨f,_|⟨f2,cs⟩⟩<;>try (exact fx9 h)
 simp only[J14]at h;simp only[Ah,beq_iff_eq]at h;obtain⟨⟨⟨rfl,h1⟩,h2⟩,h3⟩:=h;have key:∀{ρ S Z k S' H U} {Q:VK},RelS X.K ρ S H->RelE X.K ρ H Z U->(evE C a Z S).bind (λx S1=>(evE C b Z S1).bind λy S2=>match cop o x y S2 with|some k=>(.ok (.bl k) S2:Res D)|none=>.bad)=.ok (.bl k) S'->
   FinB X.K ρ H S' (λH'=>Q (.bl k) H')->tOp (rC X.K o) (tE X.K C a) (tE X.K C b) U H Q:=λ{ρ S Z k S' H U Q} rs re e fin=>by
  obtain⟨x1,S1,e1,e⟩:=Res.bind_eq_ok e;obtain⟨x2,S2,e2,e⟩:=Res.bind_eq_ok e;refine⟨ρ,S,Z,x1,S1,rs,re,e1,λρ1 v1 H1 f1 r1 q1=>⟨ρ1,S1,Z,x2,S2,r1,re.fut f1,e2,λρ2 v2 H2 f2 r2 q2=>?_⟩⟩;split at e
  ·rename_i k' hk;cases e;exact⟨ρ2,_,x1,x2,_,r2,q1.fut f2,q2,hk,fin ρ2 H2 (f1.trans f2) r2⟩
  ·cases e
 constructor
 ·refine PE.imp (Jtw (Jfg o g.top.un g.top.np) (ha.e X c _ g h1) (hb.e X c _ g h2) (marks h3 _)) λU H Q hq_=>?_;obtain⟨ρ,S,Z,d,S',rs,re,e,fin⟩:=hq_;simp only[Jwu]at e;have hd:∃k,d=.bl k:=by
   obtain⟨x1,S1,e1,e⟩:=Res.bind_eq_ok e;obtain⟨x2,S2,e2,e⟩:=Res.bind_eq_ok e;split at e
   ·cases e;exact⟨_,rfl⟩
   ·cases e
  obtain⟨k,rfl⟩:=hd;exact key rs re e λρ' H' f r=>fin ρ' _ H' f r (RelD.bl _)
 ·refine PT.imp (Jtg (Jfg o g.top.un g.top.np) (ha.e X c _ g h1) (hb.e X c _ g h2) (marks h3 _)) λU H Q hq_=>?_;obtain⟨ρ,S,Z,k,S',rs,re,e,fin⟩:=hq_;simp only[Jwg]at e;have e':(evE C a Z S).bind (λx S1=>(evE C b Z S1).bind λy S2=>match cop o x y S2 with|some k=>(.ok (.bl k) S2:Res D)|none=>.bad)=.ok (.bl k) S':=by
   obtain⟨x1,S1,e1,e⟩:=Res.bind_eq_ok e;obtain⟨x2,S2,e2,e⟩:=Res.bind_eq_ok e;rw[e1,Res.bind_ok,e2,Res.bind_ok];split at e
   ·rename_i hk;cases e;first|rfl|rw[hk]
   ·cases e
  exact key rs re e' λρ' H' f r=>⟨k,rfl,fin ρ' H' f r⟩
def Ji4(ha:Snd C a)(hb:Snd C b)(hd:Snd C d):∀(X:Cx) (c:Ck) (x:Expr),Gd X C c->Uj (.cmp2 o o' a b d) c x=true->PE X x (tE X.K C (.cmp2 o o' a b d))/\PT X x (tT X.K C (.cmp2 o o' a b d)):=by
 intro X c x g h;cases x<;>try (exact fx9 h)
 rename_i l ops cs pos;rcases ops with _|⟨p,_|⟨p2,_|⟨p3,ops⟩⟩⟩<;>rcases cs with _|⟨f,_|⟨f2,_|⟨f3,cs⟩⟩⟩<;>try (exact fx9 h)
 simp only[J13]at h;simp only[Ah,beq_iff_eq]at h;obtain⟨⟨⟨⟨⟨⟨rfl,rfl⟩,h1⟩,h2⟩,h3⟩,h4⟩,h5⟩:=h;have hm:lastMarks [Vx o,Vx o'] [f,f2]=false:=by
  show Hn (Vx o') f2=false;exact marks h5 _
 have key:∀{ρ S Z k S' H U} {Q:VK},RelS X.K ρ S H->RelE X.K ρ H Z U->evE C (.cmp2 o o' a b d) Z S=.ok (.bl k) S'->
   FinB X.K ρ H S' (λH'=>Q (.bl k) H')->W4 (rC X.K o) (rC X.K o') (tE X.K C a) (tE X.K C b) (tE X.K C d) U H Q:=λ{ρ S Z k S' H U Q} rs re e fin=>by
  simp only[Jjh]at e;obtain⟨x1,S1,e1,e⟩:=Res.bind_eq_ok e;obtain⟨x2,S2,e2,e⟩:=Res.bind_eq_ok e;refine⟨ρ,S,Z,x1,S1,rs,re,e1,λρ1 v1 H1 f1 r1 q1=>⟨ρ1,S1,Z,x2,S2,r1,re.fut f1,e2,λρ2 v2 H2 f2 r2 q2=>?_⟩⟩;split at e
  ·rename_i hk;obtain⟨x3,S3,e3,e⟩:=Res.bind_eq_ok e;refine⟨ρ2,S2,x1,x2,true,r2,q1.fut f2,q2,hk,true,rfl,?_⟩;rw[if_pos rfl];refine⟨ρ2,S2,Z,x3,S3,r2,re.fut (f1.trans f2),e3,λρ3 v3 H3 f3 r3 q3=>?_⟩;split at e
   ·rename_i k' hk';cases e;exact⟨ρ3,_,x2,x3,_,r3,q2.fut f3,q3,hk',fin ρ3 H3 (f1.trans (f2.trans f3)) r3⟩
   ·cases e
  ·rename_i hk;cases e;refine⟨ρ2,_,x1,x2,false,r2,q1.fut f2,q2,hk,false,rfl,?_⟩;rw[if_neg Az];exact fin ρ2 H2 (f1.trans f2) r2
  ·cases e
 constructor
 ·refine PE.imp (Jo2 (Jfg o g.top.un g.top.np) (Jfg o' g.top.un g.top.np) (ha.e X c _ g h1) (hb.e X c _ g h2) (hd.e X c _ g h3) hm) λU H Q hq_=>?_;obtain⟨ρ,S,Z,d',S',rs,re,e,fin⟩:=hq_;have hd:∃k,d'=.bl k:=by
   simp only[Jjh]at e;obtain⟨x1,S1,e1,e⟩:=Res.bind_eq_ok e;obtain⟨x2,S2,e2,e⟩:=Res.bind_eq_ok e;split at e
   ·obtain⟨x3,S3,e3,e⟩:=Res.bind_eq_ok e;split at e
    ·cases e;exact⟨_,rfl⟩
    ·cases e
   ·cases e;exact⟨_,rfl⟩
   ·cases e
  obtain⟨k,rfl⟩:=hd;exact key rs re e λρ' H' f r=>fin ρ' _ H' f r (RelD.bl _)
 ·refine PT.imp (Jon (Jfg o g.top.un g.top.np) (Jfg o' g.top.un g.top.np) (ha.e X c _ g h1) (hb.e X c _ g h2) (hd.e X c _ g h3) hm) λU H Q hq_=>?_;obtain⟨ρ,S,Z,k,S',rs,re,e,fin⟩:=hq_;have e':evE C (.cmp2 o o' a b d) Z S=.ok (.bl k) S':=by
   simp only[Jjh];simp only[Jqv]at e;obtain⟨x1,S1,e1,e⟩:=Res.bind_eq_ok e;obtain⟨x2,S2,e2,e⟩:=Res.bind_eq_ok e;rw[e1,Res.bind_ok,e2,Res.bind_ok];split at e
   ·rename_i hk
    try rw[hk]
    obtain⟨x3,S3,e3,e⟩:=Res.bind_eq_ok e;rw[e3,Res.bind_ok];split at e
    ·rename_i hk';cases e;first|rfl|rw[hk']
    ·cases e
   ·rename_i hk;cases e;first|rfl|rw[hk]
   ·cases e
  exact key rs re e' λρ' H' f r=>⟨k,rfl,fin ρ' H' f r⟩
end
section
variable {C:Pr}
theorem Jsf(ht:Snd C t)(ha:Snd C a)(hb:Snd C b):∀(X:Cx) (c:Ck) (x:Expr),Gd X C c->Uj (.ife t a b) c x=true->PE X x (tE X.K C (.ife t a b)):=by
 intro X c x g h;cases x<;>try (exact fx9 h)
 simp only[J12,Ah]at h;refine PE.imp (Jox (ht.t X c _ g h.1.1) (ha.e X c _ g h.1.2) (hb.e X c _ g h.2)) λU H Q hq_=>?_;obtain⟨ρ,S,Z,d,S',rs,re,e,fin⟩:=hq_;simp only[Jwt]at e;obtain⟨k,S1,e1,e⟩:=Res.bind_eq_ok e;refine⟨ρ,S,Z,k,S1,rs,re,e1,λρ1 H1 f1 r1=>?_⟩;cases k with
 |true=>rw[if_pos rfl];exact⟨ρ1,S1,Z,d,S',r1,re.fut f1,e,λρ2 v2 H2 f2=>fin ρ2 v2 H2 (f1.trans f2)⟩
 |false=>rw[if_neg Az];exact⟨ρ1,S1,Z,d,S',r1,re.fut f1,e,λρ2 v2 H2 f2=>fin ρ2 v2 H2 (f1.trans f2)⟩
def Jr4(ha:Snd C as):∀(X:Cx) (c:Ck) (x:Expr),Gd X C c->Uj (.tup as) c x=true->PE X x (tE X.K C (.tup as)):=by
 intro X c x g h;cases x<;>try (exact fx9 h)
 simp only[J11]at h;refine PE.imp (Jxn (ha.a X c _ g h)) λU H Q hq_=>?_;obtain⟨ρ,S,Z,d,S',rs,re,e,fin⟩:=hq_;simp only[Js4]at e;obtain⟨ds,S1,e1,e⟩:=Res.bind_eq_ok e;refine⟨ρ,S,Z,ds,S1,rs,re,e1,λρ1 vs H1 f1 r1 q1=>?_⟩;split at e
 ·rename_i hl;cases e;exact⟨by rw[<-q1.length,<-Ja9];exact hl,Fin.newT (ρ:=ρ1) (λρ2 v2 H2 f2=>fin ρ2 v2 H2 (f1.trans f2)) r1 q1⟩
 ·cases e
def Jsc(ha:Snd C as):∀(X:Cx) (c:Ck) (x:Expr),Gd X C c->Uj (.lst as) c x=true->PE X x (tE X.K C (.lst as)):=by
 intro X c x g h;cases x<;>try (exact fx9 h)
 simp only[J10]at h;refine PE.imp (Jxr (ha.a X c _ g h)) λU H Q hq_=>?_;obtain⟨ρ,S,Z,d,S',rs,re,e,fin⟩:=hq_;simp only[Js3]at e;obtain⟨ds,S1,e1,e⟩:=Res.bind_eq_ok e;refine⟨ρ,S,Z,ds,S1,rs,re,e1,λρ1 vs H1 f1 r1 q1=>?_⟩;split at e
 ·rename_i hl;cases e;exact⟨by rw[<-q1.length,<-Ja9];exact hl,Fin.newL (ρ:=ρ1) (λρ2 v2 H2 f2=>fin ρ2 v2 H2 (f1.trans f2)) r1 q1⟩
 ·cases e
def Jlc(ha:Snd C a)(hb:Snd C b):∀(X:Cx) (c:Ck) (x:Expr),Gd X C c->Uj (.idx a b) c x=true->PE X x (tE X.K C (.idx a b))/\PT X x (tT X.K C (.idx a b)):=by
 intro X c x g h;cases x<;>try (exact fx9 h)
 rename_i vx sx px;simp only[J1z,Ah]at h;have pe:PE X (.Subscript vx sx px) (tE X.K C (.idx a b)):=by
  refine PE.imp (J0s (Jyx (Fd (Hq (by decide:2<=64) _) g.top.un) g.top.np) (ha.e X c _ g h.1) (hb.e X c _ g h.2) (Yj h.2)) λU H Q hq_=>?_;obtain⟨ρ,S,Z,d,S',rs,re,e,fin⟩:=hq_;simp only[Jly]at e;obtain⟨x1,S1,e1,e⟩:=Res.bind_eq_ok e;obtain⟨x2,S2,e2,e⟩:=Res.bind_eq_ok e;refine⟨ρ,S,Z,x1,S1,rs,re,e1,λρ1 v1 H1 f1 r1 q1=>⟨ρ1,S1,Z,x2,S2,r1,re.fut f1,e2,λρ2 v2 H2 f2 r2 q2=>?_⟩⟩;split at e
  ·rename_i d' hd;cases e;exact⟨ρ2,_,x1,x2,d,r2,q1.fut f2,q2,hd,λρ3 v3 H3 f3 r3 q3=>fin ρ3 v3 H3 (f1.trans (f2.trans f3)) r3 q3⟩
  ·cases e
 refine⟨pe,Jka pe (λ_=>rfl) λZ S b S' e=>?_⟩;simp only[Jwe]at e;obtain⟨x1,S1,e1,e⟩:=Res.bind_eq_ok e;obtain⟨x2,S2,e2,e⟩:=Res.bind_eq_ok e;split at e
 ·rename_i d hd;split at e
  ·rename_i k hk;cases e;exact⟨d,by simp only[Jly];rw[e1,Res.bind_ok,e2,Res.bind_ok,hd],hk⟩
  ·cases e
 ·cases e
def Jr5(ha:Snd C a)(hl:Snd C l)(hu:Snd C u):∀(X:Cx) (c:Ck) (x:Expr),Gd X C c->Uj (.sli a l u) c x=true->PE X x (tE X.K C (.sli a l u)):=by
 intro X c x g h;cases x<;>try (exact fx9 h)
 rename_i e0 sl pos;cases sl<;>try (exact fx9 h)
 rename_i lo up st p2;cases st<;>try (exact fx9 h)
 simp only[J1y,Ah]at h;refine PE.imp (Jou Jv2 (ha.e X c _ g h.1.1) (hl.o X c _ g h.1.2) (hu.o X c _ g h.2)) λU H Q hq_=>?_;obtain⟨ρ,S,Z,d,S',rs,re,e,fin⟩:=hq_;simp only[Js2]at e;obtain⟨x1,S1,e1,e⟩:=Res.bind_eq_ok e;obtain⟨x2,S2,e2,e⟩:=Res.bind_eq_ok e;obtain⟨x3,S3,e3,e⟩:=Res.bind_eq_ok e;refine⟨ρ,S,Z,x1,S1,rs,re,e1,λρ1 v1 H1 f1 r1 q1=>⟨ρ1,S1,Z,x2,S2,r1,re.fut f1,e2,λρ2 H2 f2 r2=>⟨ρ2,S2,Z,x3,S3,r2,re.fut (f1.trans f2),e3,λρ3 H3 f3 r3=>?_⟩⟩⟩;exact⟨ρ3,S3,x1,d,S',r3,q1.fut (f2.trans f3),e,λρ4 v4 H4 f4 r4 q4=>fin ρ4 v4 H4 (f1.trans (f2.trans (f3.trans f4))) r4 q4⟩
def Ji5(ha:Snd C as):∀(X:Cx) (c:Ck) (x:Expr),Gd X C c->Uj (.call f as) c x=true->PE X x (tE X.K C (.call f as))/\PT X x (tT X.K C (.call f as)):=by
 intro X c x g h;cases x<;>try (exact fx9 h)
 rename_i fn es kws pos;cases fn<;>try (exact fx9 h)
 rename_i y p;cases kws<;>try (exact fx9 h)
 simp only[J1x,Ah,beq_iff_eq]at h;obtain⟨⟨⟨⟨rfl,h1⟩,h2⟩,h3⟩,h4⟩:=h;obtain⟨k,a,fd,ps,hr,hm,F,hb,hk⟩:=g.top.fns f (Jak h3);have pe:PE X (.Call (.Name (Ab f) p) es [] pos) (tE X.K C (.call f as)):=by
  have rd:∀{t:TA},(∀U H Q,tA X.K C as U H Q->t U H Q)->∀U H Q,tE X.K C (.call f as) U H Q->Xw (spM X.K C f) [] E0 t U H Q:=λht U H Q ⟨ρ,S,Z,d,S',rs,re,e,fin⟩=>by
   simp only[Jlx]at e;obtain⟨ds,S1,e1,e⟩:=Res.bind_eq_ok e;refine ht U H _ ⟨ρ,S,Z,ds,S1,rs,re,e1,λρ1 vs H1 f1 r1 q1=>?_⟩;show spM X.K C f (vs++[]) H1 Q E0;rw[Gg];exact⟨ρ1,S1,ds,d,S',r1,q1,e,λρ2 v2 H2 f2 r2 q2=>fin ρ2 v2 H2 (f1.trans f2) r2 q2⟩
  cases es with
  |nil=>
   refine PE.imp (Jo3 F hr (g.glo h1) hm hk hb .nil Jmb (Xn h2)) (rd λU H Q ⟨ρ,S,Z,ds,S',rs,re,e,fin⟩=>?_);cases as<;>try (exact fx9 h4)
   simp only[Jd7]at e;cases e;exact fin ρ [] H Fut.refl rs RelDs.nil
  |cons e es=>
   cases as<;>try (exact fx9 h4)
   have h4':=h4;simp only[Wl,Ah]at h4;refine PE.imp (Jtx F hr (g.glo h1) hm hk hb .nil Jmb (ha.a X c _ g h4') (Xn h2) (Jad (noStar h4.1)) (by rw[Jax];exact U5 h4.2)) (rd λU H Q z=>z)
 refine⟨pe,Jka pe (λ_=>rfl) λZ S b S' e=>?_⟩;simp only[Jwd]at e;obtain⟨ds,S1,e1,e⟩:=Res.bind_eq_ok e;obtain⟨d,S2,e2,e⟩:=Res.bind_eq_ok e;split at e
 ·rename_i k hk;cases e;exact⟨d,by simp only[Jlx];rw[e1,Res.bind_ok,e2],hk⟩
 ·cases e
def Ji3(ha:Snd C as):∀(X:Cx) (c:Ck) (x:Expr),Gd X C c->Uj (.prim p as) c x=true->PE X x (tE X.K C (.prim p as))/\PT X x (tT X.K C (.prim p as)):=by
 intro X c x g h;cases x<;>try (exact fx9 h)
 rename_i fn es kws pos;cases fn<;>try (exact fx9 h)
 rename_i y pp;cases kws<;>cases es<;>try (exact fx9 h)
 rename_i e0 es;simp only[J1w,Ah,beq_iff_eq]at h;obtain⟨⟨⟨rfl,h1⟩,h2⟩,h3⟩:=h;have hm:=g.top.blt _ (Jak h2);have hs:(∀x p,e0≠ .Starred x p)/\(Bl es X.env).any (·.1)=false:=by
  cases as<;>try (exact fx9 h3)
  simp only[Wl,Ah]at h3;exact⟨noStar h3.1,U5 h3.2⟩
 have rd:∀U H Q,tE X.K C (.prim p as) U H Q->tCB (rP X.K p) (tA X.K C as) U H Q:=λU H Q ⟨ρ,S,Z,d,S',rs,re,e,fin⟩=>by
  simp only[Jlw]at e;obtain⟨ds,S1,e1,e⟩:=Res.bind_eq_ok e;refine⟨ρ,S,Z,ds,S1,rs,re,e1,λρ1 vs H1 f1 r1 q1=>?_⟩;exact⟨ρ1,S1,ds,d,S',r1,q1,e,λρ2 v2 H2 f2 r2 q2=>fin ρ2 v2 H2 (f1.trans f2) r2 q2⟩
 have pe:PE X (.Call (.Name (Ab (Vb p)) pp) (e0::es) [] pos) (tE X.K C (.prim p as)):=by
  have hp:=Jtk (X:=X) p g.calm;have hb:=Jnm p;unfold Wr at hp hb
  by_cases ht:Xz p=true
  ·rw[if_pos ht]at hp hb;exact PE.imp (Jl9 hp (g.glo h1) hm hb (ha.a X c _ g h3) (Jhb p) (Jff p) (Jad hs.1) (by rw[Jax];exact hs.2)) rd
  ·rw[if_neg ht]at hp hb;exact PE.imp (Jjj hp (g.glo h1) hm hb (ha.a X c _ g h3) (Jhb p) (Jff p) (Jad hs.1) (by rw[Jax];exact hs.2)) rd
 refine⟨pe,Jka pe (λ_=>rfl) λZ S b S' e=>?_⟩;simp only[Jwc]at e;obtain⟨ds,S1,e1,e⟩:=Res.bind_eq_ok e;obtain⟨d,S2,e2,e⟩:=Res.bind_eq_ok e;split at e
 ·rename_i k hk;cases e;exact⟨d,by simp only[Jlw];rw[e1,Res.bind_ok,e2],hk⟩
 ·cases e
def Ju6:∀t∈clNames,C8 (Ab t)=some (.type t)/\Ab t≠"__name__"/\(Ab t==("__debug__":Str))=false:=by
 intro t ht;simp only[clNames,An,Bc,or_false]at ht;rcases ht with rfl|rfl|rfl|rfl<;>exact⟨by kernel_rfl,by decide+kernel,by decide+kernel⟩
def Jlb(ha:Snd C a):∀(X:Cx) (c:Ck) (x:Expr),Gd X C c->Uj (.isi a t) c x=true->PE X x (tE X.K C (.isi a t))/\PT X x (tT X.K C (.isi a t)):=by
 intro X c x g h;cases x<;>try (exact fx9 h)
 rename_i fn es kws pos;cases fn<;>try (exact fx9 h)
 rename_i y pp;rcases es with _|⟨e0,_|⟨e1,_|⟨e2,es⟩⟩⟩<;>cases kws<;>try (exact fx9 h)
 all_goals (cases e1<;>try (exact fx9 h))
 rename_i y2 p2;simp only[J1v,Ah,beq_iff_eq]at h;obtain⟨⟨⟨⟨⟨⟨⟨rfl,rfl⟩,h1⟩,h2⟩,h3⟩,h4⟩,h5⟩,h6⟩:=h;have ht:t∈clNames:=by simpa using h5
 obtain⟨b1,b2,b3⟩:=Ju6 t ht;have py:PE X (.Name (Ab t) p2) (L2.tC (.ty t)):=Jty (g.glo h2) (g.top.blt _ (Jak h4)) b1 rfl b2 b3;have pa:PA X [e0,.Name (Ab t) p2] (Xu (tE X.K C a) (Xu (L2.tC (.ty t)) Xs)):=Jbv (ha.e X c _ g h6) (Jbv py Je9) (Jad (noStar h6));have pe:PE X (.Call (.Name (Ab "isinstance") pp) [e0,.Name (Ab t) p2] [] pos) (tE X.K C (.isi a t)):=by
  refine PE.imp (Jjj (Jyq ht) (g.glo h1) (g.top.blt _ (Jak h3)) (by kernel_rfl) pa (by decide+kernel) (by decide+kernel) (Jad (noStar h6)) (by rw[Jax];rfl)) λU H Q hq_=>?_;obtain⟨ρ,S,Z,d,S',rs,re,e,fin⟩:=hq_;simp only[Jlv]at e;obtain⟨x1,S1,e1,e⟩:=Res.bind_eq_ok e;refine⟨ρ,S,Z,x1,S1,rs,re,e1,λρ1 v1 H1 f1 r1 q1=>?_⟩;split at e
  ·rename_i ty hy;cases e;exact⟨ρ1,_,x1,v1,ty,r1,rfl,q1,hy,fin ρ1 _ H1 f1 r1 (RelD.bl _)⟩
  ·cases e
 refine⟨pe,Jka pe (λ_=>rfl) λZ S b S' e=>?_⟩;simp only[Jwb]at e;obtain⟨x1,S1,e1,e⟩:=Res.bind_eq_ok e;split at e
 ·rename_i ty hy;cases e;exact⟨_,by simp only[Jlv];rw[e1,Res.bind_ok,hy],rfl⟩
 ·cases e
def Jma{X:Cx}{T id:String}{name:Str}{o e:Expr}{es:List Expr}{apos cpos:Pos}{to:TE}{t:TA}{r:V->List V->Hp->VK->Prop}{tp:V->Hp->Prop}
  (hT:∀pins s U H x v,Inv X pins U H s->RelV x v->tp x H->s.TypeIs v T/\∀a,v=.ref a->∃ob,s.heap.get? a=some ob/\ob.dict=none)
  (pa:Tg T)(slot:Slot T name id)(hty:Sw (.builtin id)=pure (.type "method_descriptor"))(hm:MtR X id r)(ho:PE X o to)(ha:PA X (e::es) t)
  (hbase:attributeBase o name X.env (eval o X.env)=eval o X.env)
  (hfew:((D5 cpos (Bl (e::es) X.env)).all (λx=> !x.1)&&(Jh cpos (F8 [] X.env)).all (λx=>x.1.isSome)
   &&decide ((e::es).length+([]:List Jr).length+(if([]:List Jr).isEmpty then 0 else 1)<30))=true)
  (hline:(apos.endLine==cpos.line)=true)(hs:Bl (e::es) X.env=(false,eval e X.env)::Bl es X.env)(hplain:(D5 cpos (Bl es X.env)).any (·.1)=false):
  PE X (.Call (.Attribute o name apos) (e::es) [] cpos) (λU H Q=>to U H λx H1=>tp x H1/\t U H1 λxs H2=>r x xs H2 Q):=by
 intro pins s U H Q I h;refine Qe hbase hfew hline rfl (thn (ho pins s U H _ I h) λv s1 ⟨x,H1,I1,r1,ty,q1⟩=>?_);obtain⟨h1,h2⟩:=hT pins s1 U H1 x v I1 r1 ty;refine⟨T,id,pa,slot,hty,h1,h2,?_⟩;have hA:=ha cpos pins s1 U H1 _ I1 q1;rw[hs]at hA ⊢;refine Gn (by show(false||(D5 cpos (Bl es X.env)).any (·.1))=false;rw[hplain]<;>rfl) (Ox ?_);exact thn hA λus s2 ⟨vs,H2,I2,r2,q2⟩=>hm pins s2 U H2 x vs v us Q I2 r1 r2 q2
def Jc7(h:Ux as c (e::es)=true):∃a b,as=.cns a b:=by
 cases as<;>first|exact⟨_,_,rfl⟩|exact fx9 h
def Jd1(h:Ux as c []=true):as=.nul:=by
 cases as<;>first|rfl|exact fx9 h
theorem Jn4(ho:Snd C o)(ha:Snd C as):∀(X:Cx) (c:Ck) (x:Expr),Gd X C c->Uj (.meth p o as) c x=true->PE X x (tE X.K C (.meth p o as)):=by
 intro X c x g h;cases x<;>try (exact fx9 h)
 rename_i fn es kws pos;cases fn<;>try (exact fx9 h)
 rename_i e0 y ap;cases kws<;>try (exact fx9 h)
 simp only[J1u,Ah,beq_iff_eq,decide_eq_true_eq]at h;obtain⟨⟨⟨⟨⟨⟨rfl,h1⟩,h2⟩,h3⟩,h4⟩,h5⟩,h6⟩:=h;have hbase:∀nm,attributeBase e0 nm X.env (eval e0 X.env)=eval e0 X.env:=λnm=>by
  cases e0<;>try rfl
  rename_i f0 a0 k0 p0;cases f0<;>try rfl
  cases a0<;>try rfl
  cases k0<;>try rfl
  exact fx9 h1
 have hline:(ap.endLine==pos.line)=true:=by simpa using h2
 have few:∀{e1:Expr} {es':List Expr},es=e1::es'->Ux as c (e1::es')=true->((D5 pos (Bl (e1::es') X.env)).all (λx=> !x.1)&&(Jh pos (F8 [] X.env)).all (λx=>x.1.isSome)&&decide ((e1::es').length+([]:List Jr).length+(if([]:List Jr).isEmpty then 0 else 1)<30))=true:=λ{e1 es'} ee h5'=>by
  subst ee;rw[Jfm _ _ (U5 (env:=X.env) h5')];simp only[K1,Ah,decide_eq_true_eq];exact⟨rfl,by simp only[Eo,List.isEmpty_nil,if_true];lia⟩
 have rd:(p≠ .get2/\p≠ .indexT/\isDm p=false)->∀{t:TA},(∀U H Q,tA X.K C as U H Q->t U H Q)->∀U H Q,tE X.K C (.meth p o as) U H Q->(tE X.K C o U H λx H1=>tyV X.K "list" x H1/\t U H1 λxs H2=>rM X.K p x xs H2 Q):=λhp {t} ht U H Q ⟨ρ,S,Z,d,S',rs,re,e,fin⟩=>by
  simp only[Jbl]at e;obtain⟨x1,S1,e1,e⟩:=Res.bind_eq_ok e;split at e<;>try (exact absurd e Jaa)
  rename_i hrc;obtain⟨ds,S2,e2,e⟩:=Res.bind_eq_ok e;refine⟨ρ,S,Z,x1,S1,rs,re,e1,λρ1 v1 H1 f1 r1 q1=>⟨?_,ht U H1 _ ⟨ρ1,S1,Z,ds,S2,r1,re.fut f1,e2,λρ2 vs H2 f2 r2 q2=>?_⟩⟩⟩
  ·have hl:∃l,x1=.loc l:=by
    cases p<;>first|(exact absurd rfl hp.1)|(exact absurd rfl hp.2.1)|(cases x1<;>first|exact⟨_,rfl⟩|exact absurd e Jaa|(rcases ds with _|⟨y,_|⟨z,ds⟩⟩<;>exact absurd e Jaa))
   obtain⟨l,rfl⟩:=hl;obtain⟨es,he⟩:=B6.mp (show(seqAt S1 l).isSome=true by simpa [rcv,hp.2.2]using hrc);obtain⟨p,xs,rfl,hl,hx,t⟩:=r1.lst q1 (Jan he);exact .inl ⟨rfl,xs,SqL.of hx⟩
  ·exact⟨ρ2,S2,x1,ds,d,S',r2,q1.fut f2,q2,e,λρ3 v3 H3 f3 r3 q3=>fin ρ3 v3 H3 (f1.trans (f2.trans f3)) r3 q3⟩
 have run:(p≠ .get2/\p≠ .indexT/\isDm p=false)->∀(slot:Slot "list" (Ab (V1 p)) (Wg p)) (hty:Sw (.builtin (Wg p))=pure (.type "method_descriptor")),PE X (.Call (.Attribute e0 (Ab (V1 p)) ap) es [] pos) (tE X.K C (.meth p o as)):=λhp slot hty=>by
  cases es with
  |nil=>
   refine PE.imp (Jrb Mv slot hty (Jea p g.top.un g.top.np) (ho.e X c _ g h4) (hbase _) hline) λU H Q z=>rd hp (t:=λ_ H Q=>Q [] H) (λU H Q ⟨ρ,S,Z,ds,S',rs,re,e,fin⟩=>?_) U H Q z;obtain rfl:=Jd1 h5;simp only[Jd7]at e;cases e;exact fin ρ [] H Fut.refl rs RelDs.nil
  |cons e1 es=>
   obtain⟨a0,b0,rfl⟩:=Jc7 h5;have h5':=h5;simp only[Wl,Ah]at h5;exact PE.imp (J0t Mv slot hty (Jea p g.top.un g.top.np) (ho.e X c _ g h4) (ha.a X c _ g h5') (hbase _) (few rfl h5') hline (Jad (noStar h5.1)) (by rw[Jax];exact U5 h5.2)) (rd hp λU H Q z=>z)
 have rund:isDm p=true->∀(slot:Slot "dict" (Ab (V1 p)) (Wg p)) (hty:Sw (.builtin (Wg p))=pure (.type "method_descriptor")),PE X (.Call (.Attribute e0 (Ab (V1 p)) ap) es [] pos) (tE X.K C (.meth p o as)):=λhp slot hty=>by
  cases es with
  |nil=>
   refine Jih λU H Q hq_=>?_;obtain⟨ρ,S,Z,d,S',rs,re,e,fin⟩:=hq_;obtain rfl:=Jd1 h5;simp only[Jbl,Jd7]at e;obtain⟨x1,S1,e1,e⟩:=Res.bind_eq_ok e;split at e<;>try (exact absurd e Jaa)
   cases p<;>first|(cases hp;done)|(cases x1<;>exact absurd e Jaa)
  |cons e1 es=>
   obtain⟨a0,b0,rfl⟩:=Jc7 h5;have h5':=h5;simp only[Wl,Ah]at h5;refine PE.imp (Jma (T:="dict") (tp:=λx H=>∃a,x=.ref a/\IsD H a) (λpins s U H x v I r ⟨a,hx,q⟩=>?_) Iu slot hty (Jea p g.top.un g.top.np) (ho.e X c _ g h4) (ha.a X c _ g h5') (hbase _) (few rfl h5') hline (Jad (noStar h5.1)) (by rw[Jax];exact U5 h5.2)) λU H Q ⟨ρ,S,Z,d,S',rs,re,e,fin⟩=>?_
   ·subst hx;cases r;obtain⟨z1,z2,_⟩:=Jri I q;exact⟨z1,z2⟩
   ·simp only[Jbl]at e;obtain⟨x1,S1,e1,e⟩:=Res.bind_eq_ok e;split at e<;>try (exact absurd e Jaa)
    rename_i hrc;obtain⟨ds,S2,e2,e⟩:=Res.bind_eq_ok e;refine⟨ρ,S,Z,x1,S1,rs,re,e1,λρ1 v1 H1 f1 r1 q1=>⟨?_,ρ1,S1,Z,ds,S2,r1,re.fut f1,e2,λρ2 vs H2 f2 r2 q2=>?_⟩⟩
    ·cases x1<;>simp only[rcv,hp]at hrc<;>try (cases hrc;done)
     simp only[if_true,Hk]at hrc;rcases hrc with z|z
     ·obtain⟨kvs,hk⟩:=B6.mp z;obtain⟨a,ws,rfl,_,ea,_⟩:=r1.dct q1 (Jes hk);exact⟨a,rfl,.inl ⟨ws,.inl ea⟩⟩
     ·obtain⟨kvs,hk⟩:=B6.mp z;obtain⟨a,ws,rfl,_,ea,_⟩:=r1.dtu q1 (Jcb hk);exact⟨a,rfl,.inr ⟨ws,.inl ea⟩⟩
    ·exact⟨ρ2,S2,x1,ds,d,S',r2,q1.fut f2,q2,e,λρ3 v3 H3 f3 r3 q3=>fin ρ3 v3 H3 (f1.trans (f2.trans f3)) r3 q3⟩
 cases p with
 |append=>exact run ⟨nofun,nofun,rfl⟩ Ov PySem.F.type_list_append
 |pop0=>exact run ⟨nofun,nofun,rfl⟩ P4 PySem.F.type_list_pop
 |get1=>exact rund rfl Gq Nq
 |pop1=>exact rund rfl Nr PySem.F.type_dict_pop
 |get2=>
  cases es with
  |nil=>
   refine Jih λU H Q hq_=>?_;obtain⟨ρ,S,Z,d,S',rs,re,e,fin⟩:=hq_;obtain rfl:=Jd1 h5;simp only[Jbl,Jd7]at e;obtain⟨x1,S1,e1,e⟩:=Res.bind_eq_ok e;split at e<;>try (exact absurd e Jaa)
   cases x1<;>exact absurd e Jaa
  |cons e1 es=>
   obtain⟨a0,b0,rfl⟩:=Jc7 h5;have h5':=h5;simp only[Wl,Ah]at h5;refine PE.imp (Jma (T:="dict") (tp:=λx H=>∃ρ kvs,RelD X.K ρ H (.kd kvs) x) (λpins s U H x v I r ⟨ρ,kvs,q⟩=>?_) Iu Gq Nq (Jea .get2 g.top.un g.top.np) (ho.e X c _ g h4) (ha.a X c _ g h5') (hbase _) (few rfl h5') hline (Jad (noStar h5.1)) (by rw[Jax];exact U5 h5.2)) λU H Q ⟨ρ,S,Z,d,S',rs,re,e,fin⟩=>?_
   ·obtain⟨a,rfl,kd⟩:=q.kd_inv;cases r;obtain⟨ob,hob,hx⟩:=kd.obj I.kIn;exact⟨⟨ob,hob,hx.1⟩,λa' e=>by cases e;exact⟨ob,hob,hx.2.1⟩⟩
   ·simp only[Jbl,Jqy]at e;obtain⟨x1,S1,e1,e⟩:=Res.bind_eq_ok e;split at e<;>try (exact absurd e Jaa)
    obtain⟨ds,S2,e2,e⟩:=Res.bind_eq_ok e;have hk:∃kvs,x1=.kd kvs:=by
     cases x1<;>first|exact⟨_,rfl⟩|exact absurd e Jaa|(rcases ds with _|⟨y,_|⟨z,ds⟩⟩<;>exact absurd e Jaa)
    obtain⟨kvs,rfl⟩:=hk;refine⟨ρ,S,Z,_,S1,rs,re,e1,λρ1 v1 H1 f1 r1 q1=>⟨⟨ρ1,kvs,q1⟩,⟨ρ1,S1,Z,ds,S2,r1,re.fut f1,e2,λρ2 vs H2 f2 r2 q2=>?_⟩⟩⟩;exact⟨ρ2,S2,_,ds,d,S',r2,q1.fut f2,q2,e,λρ3 v3 H3 f3 r3 q3=>fin ρ3 v3 H3 (f1.trans (f2.trans f3)) r3 q3⟩
 |indexT=>
  cases o<;>try (exact fx9 h6)
  rename_i gx;cases e0<;>try (exact fx9 h4)
  rename_i y0 p0;simp only[Wd7,Ah,beq_iff_eq]at h4;obtain⟨⟨rfl,k2⟩,k3⟩:=h4;cases eg:C.glob gx with
  |none=>
   refine Jih λU H Q hq_=>?_;obtain⟨ρ,S,Z,d,S',rs,re,e,fin⟩:=hq_;simp only[Jbl,Je8,eg]at e;cases e
  |some dg=>
   cases es with
   |nil=>
    refine Jih λU H Q hq_=>?_;obtain⟨ρ,S,Z,d,S',rs,re,e,fin⟩:=hq_;obtain rfl:=Jd1 h5;simp only[Jbl,Je8,Jd7,eg,Res.bind_ok]at e;split at e<;>try (exact absurd e Jaa)
    cases dg<;>exact absurd e Jaa
   |cons e1 es=>
    obtain⟨a0,b0,rfl⟩:=Jc7 h5;have h5':=h5;simp only[Wl,Ah]at h5;obtain⟨v,u,hm,r,hr,ht⟩:=g.top.gl gx dg eg
    by_cases hd:∃ds,dg=.tup ds
    ·obtain⟨gs,rfl⟩:=hd;obtain⟨a,ob,rfl,hk,hc,hdd⟩:=ht gs rfl;refine PE.imp (Jma (T:="tuple") (tp:=λx H=>x=.ref a) (λpins s U H x v I r e=>?_) PySem.F.plainAttrs_tuple Mo PySem.F.type_tuple_index (Jea .indexT g.top.un g.top.np) (Jl8 (g.glo k2) hm r (Xn k3)) (ha.a X c _ g h5') rfl (few rfl h5') hline (Jad (noStar h5.1)) (by rw[Jax];exact U5 h5.2)) λU H Q ⟨ρ,S,Z,d,S',rs,re,e,fin⟩=>?_
     ·subst e;cases r;exact⟨⟨ob,I.kIn a ob hk,hc⟩,λa' e=>by cases e;exact⟨ob,I.kIn a ob hk,hdd⟩⟩
     ·simp only[Jbl,Je8,eg,Res.bind_ok]at e;split at e<;>try (exact absurd e Jaa)
      obtain⟨ds,S2,e2,e⟩:=Res.bind_eq_ok e;refine⟨rfl,ρ,S,Z,ds,S2,rs,re,e2,λρ2 vs H2 f2 r2 q2=>?_⟩;exact⟨ρ2,S2,_,ds,d,S',r2,hr ρ2 H2,q2,e,λρ3 v3 H3 f3 r3 q3=>fin ρ3 v3 H3 (f2.trans f3) r3 q3⟩
    ·refine Jih λU H Q hq_=>?_;obtain⟨ρ,S,Z,d,S',rs,re,e,fin⟩:=hq_;simp only[Jbl,Je8,eg,Res.bind_ok]at e;split at e<;>try (exact absurd e Jaa)
     obtain⟨ds,S2,e2,e⟩:=Res.bind_eq_ok e;cases dg<;>first|(exact absurd ⟨_,rfl⟩ hd)|exact absurd e Jaa|(rcases ds with _|⟨y,_|⟨z,ds⟩⟩<;>exact absurd e Jaa)
end
section
variable {C:Pr}
def Jsl:∀(X:Cx) (c:Ck) (x:Expr),Gd X C c->Uj (.cst d) c x=true->PE X x (tE X.K C (.cst d)):=by
 intro X c x g h;cases d<;>cases x<;>try (exact fx9 h)
 all_goals (rename_i k _ _;cases k<;>try (exact fx9 h))
 ·refine PE.imp Jxq λU H Q hq_=>?_;obtain⟨ρ,S,Z,d,S',rs,re,e,fin⟩:=hq_;simp only[Jji]at e;cases e;exact fin.now rs RelD.non
 ·simp only[Wga,beq_iff_eq]at h;subst h;refine PE.imp J0u λU H Q hq_=>?_;obtain⟨ρ,S,Z,d,S',rs,re,e,fin⟩:=hq_;simp only[Jji]at e;cases e;exact fin.now rs (RelD.bl _)
 ·simp only[Wf9,beq_iff_eq]at h;subst h;refine PE.imp Jxs λU H Q hq_=>?_;obtain⟨ρ,S,Z,d,S',rs,re,e,fin⟩:=hq_;simp only[Jji]at e;cases e;exact fin.now rs (RelD.int _)
 ·simp only[Wf8,beq_iff_eq]at h;subst h;refine PE.imp Jxo λU H Q hq_=>?_;obtain⟨ρ,S,Z,d,S',rs,re,e,fin⟩:=hq_;simp only[Jji]at e;cases e;exact fin.now rs (RelD.str _)
def Jk8:∀(X:Cx) (c:Ck) (x:Expr),Gd X C c->Uj (.var i) c x=true->PE X x (tE X.K C (.var i))/\PT X x (tT X.K C (.var i)):=by
 intro X c x g h;cases x<;>try (exact fx9 h)
 rename_i y p;simp only[Wf7,Ah,beq_iff_eq]at h;obtain⟨⟨h1,h2⟩,h3⟩:=h;have pe:PE X (.Name y p) (tE X.K C (.var i)):=by
  refine PE.imp (Jxm (i:=i) (by rw[g.N];exact h1) (g.vis h2) (Xn h3) (Wfr h3)) λU H Q hq_=>?_;obtain⟨ρ,S,Z,d,S',rs,re,e,fin⟩:=hq_;simp only[Jqx]at e;split at e
  ·rename_i d' hd;cases e;obtain⟨v,hv,q⟩:=re.at' i _ hd;exact⟨v,hv,fin.now rs q⟩
  ·cases e
 refine⟨pe,Jka pe (λ_=>rfl) λZ S b S' e=>?_⟩;simp only[Jwf]at e;split at e
 ·rename_i d hd;split at e
  ·rename_i b' hb;cases e;exact⟨d,by simp only[Jqx];rw[hd],hb⟩
  ·cases e
 ·cases e
theorem Jsh:∀(X:Cx) (c:Ck) (x:Expr),Gd X C c->Uj (.glb n) c x=true->PE X x (tE X.K C (.glb n)):=by
 intro X c x g h;cases x<;>try (exact fx9 h)
 rename_i y p;simp only[Wd7,Ah,beq_iff_eq]at h;obtain⟨⟨rfl,h2⟩,h3⟩:=h;cases e0:C.glob n with
 |none=>exact Jih (J0d λZ S=>by simp only[Je8];rw[e0])
 |some d=>
  obtain⟨v,u,hm,r,hr,_⟩:=g.top.gl n d e0;refine PE.imp (Jl8 (g.glo h2) hm r (Xn h3)) λU H Q hq_=>?_;obtain⟨ρ,S,Z,d,S',rs,re,e,fin⟩:=hq_;simp only[Je8]at e;rw[e0]at e;cases e;exact fin.now rs (hr ρ H)
theorem Jv0(ha:Snd C a)(hb:Snd C b):∀(X:Cx) (c:Ck) (w:Bool) (x:List Expr) (pos:Pos),Gd X C c->Ux (.cns a b) c x=true->PE X (.BoolOp (if w then .And else .Or) x pos) (tBV X.K C w (.cns a b)):=by
 intro X c w x pos g h;cases x with
 |nil=>exact fx9 h
 |cons e es=>
  have h0:=h;simp only[Wl,Ah]at h;cases b<;>try (exact fx9 h.2)
  ·cases es with
   |cons e1 es=>exact fx9 h.2
   |nil=>
    refine PE.imp (Jxp (ha.e X c e g h.1)) λU H Q hq_=>?_;obtain⟨ρ,S,Z,d,S',rs,re,e,fin⟩:=hq_;simp only[Js5]at e;exact⟨ρ,S,Z,d,S',rs,re,e,fin⟩
  ·rename_i a' b';cases es with
   |nil=>exact fx9 h.2
   |cons e1 es=>
    have hbv:=hb.bv X c w (e1::es) pos g h.2;cases w with
    |true=>
     refine PE.imp (Jxu (ha.e X c e g h.1) hbv) λU H Q hq_=>?_;obtain⟨ρ,S,Z,d,S',rs,re,e,fin⟩:=hq_;simp only[Jlz]at e;obtain⟨x1,S1,e1,e⟩:=Res.bind_eq_ok e;refine⟨ρ,S,Z,x1,S1,rs,re,e1,λρ1 v1 H1 f1 r1 q1=>?_⟩;cases x1<;>simp only at e<;>try (cases e;done)
     rename_i k;refine⟨k,q1.bl_inv,?_⟩;cases k with
     |true=>
      rw[if_pos rfl]at e ⊢;exact⟨ρ1,S1,Z,d,S',r1,re.fut f1,e,λρ2 v2 H2 f2=>fin ρ2 v2 H2 (f1.trans f2)⟩
     |false=>
      rw[if_neg Az]at e ⊢;cases e;exact fin ρ1 _ H1 f1 r1 (RelD.bl _)
    |false=>
     refine PE.imp (J0q (ha.e X c e g h.1) hbv) λU H Q hq_=>?_;obtain⟨ρ,S,Z,d,S',rs,re,e,fin⟩:=hq_;simp only[Jlz]at e;obtain⟨x1,S1,e1,e⟩:=Res.bind_eq_ok e;refine⟨ρ,S,Z,x1,S1,rs,re,e1,λρ1 v1 H1 f1 r1 q1=>?_⟩;cases x1<;>simp only at e<;>try (cases e;done)
     rename_i k;refine⟨k,q1.bl_inv,?_⟩;cases k with
     |false=>
      rw[if_pos rfl]at e;rw[if_neg Az];exact⟨ρ1,S1,Z,d,S',r1,re.fut f1,e,λρ2 v2 H2 f2=>fin ρ2 v2 H2 (f1.trans f2)⟩
     |true=>
      rw[if_neg (by decide)]at e;rw[if_pos rfl];cases e;exact fin ρ1 _ H1 f1 r1 (RelD.bl _)
theorem Jv1(ha:Snd C a)(hb:Snd C b):∀(X:Cx) (c:Ck) (w:Bool) (x:List Expr) (pos:Pos),Gd X C c->Ux (.cns a b) c x=true->PW X (.BoolOp (if w then .And else .Or) x pos) (tBT X.K C w (.cns a b)):=by
 intro X c w x pos g h;cases x with
 |nil=>exact fx9 h
 |cons e es=>
  simp only[Wl,Ah]at h;cases b<;>try (exact fx9 h.2)
  ·cases es with
   |cons e1 es=>exact fx9 h.2
   |nil=>
    have hi:∀U H Q,tBT X.K C w (.cns a .nul) U H Q->tT X.K C a U H Q:=λU H Q ⟨ρ,S,Z,d,S',rs,re,e,fin⟩=>by
     simp only[Js6]at e;exact⟨ρ,S,Z,d,S',rs,re,e,fin⟩
    cases w with
    |true=>exact λwh pins s U H Q I q=>Jta (ha.t X c e g h.1) wh pins s U H Q I (hi _ _ _ q)
    |false=>exact λwh pins s U H Q I q=>Jxa (ha.t X c e g h.1) wh pins s U H Q I (hi _ _ _ q)
  ·rename_i a' b';cases es with
   |nil=>exact fx9 h.2
   |cons e1 es=>
    have hbv:=hb.bt X c w (e1::es) pos g h.2;cases w with
    |true=>
     refine λwh pins s U H Q I q=>Jxb (ha.t X c e g h.1) hbv wh pins s U H Q I ?_;obtain⟨ρ,S,Z,d,S',rs,re,e,fin⟩:=q;simp only[Jl0]at e;obtain⟨k,S1,e1,e⟩:=Res.bind_eq_ok e;refine⟨ρ,S,Z,k,S1,rs,re,e1,λρ1 H1 f1 r1=>?_⟩;cases k with
     |true=>
      rw[if_pos rfl]at e ⊢;exact⟨ρ1,S1,Z,d,S',r1,re.fut f1,e,λρ2 H2 f2=>fin ρ2 H2 (f1.trans f2)⟩
     |false=>
      rw[if_neg Az]at e ⊢;cases e;exact fin ρ1 H1 f1 r1
    |false=>
     refine λwh pins s U H Q I q=>J0m (ha.t X c e g h.1) hbv wh pins s U H Q I ?_;obtain⟨ρ,S,Z,d,S',rs,re,e,fin⟩:=q;simp only[Jl0]at e;obtain⟨k,S1,e1,e⟩:=Res.bind_eq_ok e;refine⟨ρ,S,Z,k,S1,rs,re,e1,λρ1 H1 f1 r1=>?_⟩;cases k with
     |false=>
      rw[if_pos rfl]at e;rw[if_neg Az];exact⟨ρ1,S1,Z,d,S',r1,re.fut f1,e,λρ2 H2 f2=>fin ρ2 H2 (f1.trans f2)⟩
     |true=>
      rw[if_neg (by decide)]at e;rw[if_pos rfl];cases e;exact fin ρ1 H1 f1 r1
def Jqr(ha:Snd C as):∀(X:Cx) (c:Ck) (x:Expr),Gd X C c->Uj (.bo w as) c x=true->PE X x (tE X.K C (.bo w as))/\PT X x (tT X.K C (.bo w as)):=by
 intro X c x g h;have main:∀es pos,Ux as c es=true->PE X (.BoolOp (if w then .And else .Or) es pos) (tE X.K C (.bo w as))/\PT X (.BoolOp (if w then .And else .Or) es pos) (tT X.K C (.bo w as)):=λes pos h=>by
  refine⟨PE.imp (ha.bv X c w es pos g h) λU H Q ⟨ρ,S,Z,d,S',rs,re,e,fin⟩=>?_,PT.imp (ha.bt X c w es pos g h).pt λU H Q ⟨ρ,S,Z,d,S',rs,re,e,fin⟩=>?_⟩
  ·simp only[Jwv]at e;exact⟨ρ,S,Z,d,S',rs,re,e,fin⟩
  ·simp only[Jwh]at e;exact⟨ρ,S,Z,d,S',rs,re,e,fin⟩
 cases w<;>cases x<;>try (exact fx9 h)
 all_goals (rename_i op es pos;cases op<;>try (exact fx9 h))
 all_goals (simp only[Wf3,J15]at h;exact main es pos h)
def Wfm(K:Af)(tl:TE):TI:=λU H R=>tl U H λx H1=>∃a,x=.ref a/\(((∃xs,SqL K H1 a xs)/\R (Itl K a) H1)\/((∃xs,SqT K H1 a xs)/\R (Itt K a) H1))
def Jxj{X:Cx}(hl:PE X l tl):PI X tg l (Wfm X.K tl):=by
 intro pins s U H R I h;refine thn (hl pins s U H _ I h) λv s1 hq_=>?_;obtain⟨x,H1,I1,r1,q1⟩:=hq_;obtain⟨a,e,q1⟩:=q1;subst e;cases r1;rcases q1 with⟨⟨xs,hq⟩,q⟩|⟨⟨xs,hq⟩,q⟩
 ·obtain⟨its,rv,p,hz⟩:=I1.list hq;refine F1 p.isList ?_;refine⟨s1.heap.objs.size,[s1.heap.objs.size],_,_,H1,rfl,I1.kept (t':=s1.toks) λb o e=>Ad _ e,Jk3 a _,⟨_,Ak _ rfl,rfl,rfl⟩,λb hb=>?_,q⟩;have e:b=s1.heap.objs.size:=by simpa using hb
  subst e;exact I1.fpOk (Aj _) (I1.hok.fresh (Aj _))
 ·obtain⟨its,rv,p,hz⟩:=I1.tuple hq;refine Jg (show s1.heap.IsTuple a its.toArray from p) ?_;refine⟨s1.heap.objs.size,[s1.heap.objs.size],_,_,H1,rfl,I1.kept (t':=s1.toks) λb o e=>Ad _ e,Jj3 a _,⟨_,Ak _ rfl,rfl,rfl⟩,λb hb=>?_,q⟩;have e:b=s1.heap.objs.size:=by simpa using hb
  subst e;exact I1.fpOk (Aj _) (I1.hok.fresh (Aj _))
def Jpo(lo:Int)(n:Nat):ItOk K ρ H (Itr lo n) none ((B1 n).map λ(i:Nat)=>D.int (lo+i))where
 go:=λρ' H' S i d f r s e=>by
  simp only[nth,Aq,Al]at e;obtain⟨j,hj,rfl⟩:=e;obtain⟨h1,h2⟩:=Ae.mp hj;simp only[List.getElem_range]at h2;subst h2;refine⟨(by simpa using h1:i<n),λx H2 ⟨e1,e2⟩=>?_⟩;subst e1;refine⟨Fut.refl,r,?_⟩;subst e2;exact RelD.int _
 stop:=λρ' H' S f r s=>by
  show n<=_;simp
def Jpp(hl:ρ[l]? =some a)(ds:List D):ItOk K ρ H (Itl K a) (some (l,.lst)) ds where
 go:=λρ' H' S i d f r s e=>by
  simp only[nth]at e;split at e
  ·rename_i es he;have ha:=f.get hl;obtain⟨xs,hx,q⟩:=r.ob l a _ ha (Jan he);obtain⟨v,hv,rv⟩:=q.get e;refine⟨⟨xs,v,SqL.of hx,hv⟩,λx H2 ⟨e1,e2⟩=>?_⟩;subst e1;refine⟨Fut.refl,r,?_⟩;have:=e2 xs (SqL.of hx);rw[hv]at this;cases this;exact rv
  ·cases e
 stop:=λρ' H' S f r s=>by
  simp only[sameAt]at s;split at s
  ·rename_i es he;obtain⟨xs,hx,q⟩:=r.ob l a _ (f.get hl) he;refine⟨xs,SqL.of hx,?_⟩;rw[<-q.length];simp only[beq_iff_eq]at s
   lia
  ·cases s
def Jpq(hl:ρ[l]? =some a)(ds:List D):ItOk K ρ H (Ite true K a) (some (l,.enm)) ds where
 go:=λρ' H' S i d f r s e=>by
  simp only[nth]at e;split at e<;>try (cases e;done)
  rename_i es he;obtain⟨d0,e0,rfl⟩:=Al.mp e;obtain⟨xs,hx,q⟩:=r.ob l a _ (f.get hl) (Jan he);obtain⟨v,hv,rv⟩:=q.get e0;refine⟨⟨xs,v,SqL.of hx,hv⟩,λx H2 ⟨p,y,hp,e1,e2,e3⟩=>?_⟩;subst e1 e2;have:=e3 xs (SqL.of hx);rw[hv]at this;cases this;exact⟨Ja1 hp,r.new hp,by simp only[RelD];exact⟨p,_,rfl,.inl Jai,RelDs.cons (by simp only[RelD]) (RelDs.cons (rv.fut (Ja1 hp)) RelDs.nil)⟩⟩
 stop:=λρ' H' S f r s=>by
  simp only[sameAt]at s;split at s<;>try (cases s;done)
  rename_i es he;obtain⟨xs,hx,q⟩:=r.ob l a _ (f.get hl) he;exact⟨xs,SqL.of hx,by rw[<-q.length];exact eq_of_beq s⟩
theorem Jrr:∀{ds:List D} {k i:Nat} {d:D},(enD k ds)[i]? =some d->∃x,ds[i]? =some x/\d=.tup [.int (k+i:Nat),x]
 |[],k,i,d,h=>by simp[enD]at h
 |x::r,k,0,d,h=>by simp[enD]at h;exact⟨x,rfl,h.symm⟩
 |x::r,k,i+1,d,h=>by
  simp only[enD,Bv]at h;obtain⟨y,h1,h2⟩:=Jrr h;exact⟨y,by simpa using h1,by rw[h2,Nat.add_right_comm,K3]⟩
theorem enD_len:∀(ds:List D) (k:Nat),(enD k ds).length=ds.length
 |[],_=>rfl
 |x::r,k=>by simp[enD,enD_len r]
def Jpr(hs:SqT K H a xs)(t:RelDs K ρ H ds xs):ItOk K ρ H (Ite false K a) none (enD 0 ds)where
 go:=λρ' H' S i d f r s e=>by
  obtain⟨d0,e0,rfl⟩:=Jrr (show(enD 0 ds)[i]? =some d from e);rw[Fc];obtain⟨v,hv,rv⟩:=(t.fut f).get e0;refine⟨⟨xs,v,f.tup _ _ hs,hv⟩,λx H2 ⟨p,y,hp,e1,e2,e3⟩=>?_⟩;subst e1 e2;have:=e3 xs (f.tup _ _ hs);rw[hv]at this;cases this;exact⟨Ja1 hp,r.new hp,by simp only[RelD];exact⟨p,_,rfl,.inl Jai,RelDs.cons (by simp only[RelD]) (RelDs.cons (rv.fut (Ja1 hp)) RelDs.nil)⟩⟩
 stop:=λρ' H' S f r s=>⟨xs,f.tup _ _ hs,by rw[enD_len,t.length]⟩
def Jpn(hl:ρ[l]? =some a)(hs:SqT K H b ys)(t:RelDs K ρ H ds ys):ItOk K ρ H (Izz K a b ys) (some (l,.zip)) ds where
 go:=λρ' H' S i d f r s e=>by
  simp only[nth]at e;split at e<;>try (cases e;done)
  rename_i es he;split at e<;>try (cases e;done)
  rename_i dx dy e1 e2;cases e;obtain⟨xs,hx,q⟩:=r.ob l a _ (f.get hl) (Jan he);obtain⟨v,hv,rv⟩:=q.get e1;obtain⟨w,hw,rw'⟩:=(t.fut f).get e2;refine⟨⟨xs,v,w,SqL.of hx,f.tup _ _ hs,hv,hw⟩,λx H2 ⟨p,y,z,hp,e1,e2,e3,e4⟩=>?_⟩;subst e1 e2;have:=e3 xs (SqL.of hx);rw[hv]at this;cases this;rw[hw]at e4;cases e4;exact⟨Ja1 hp,r.new hp,by simp only[RelD];exact⟨p,_,rfl,.inl Jai,RelDs.cons (rv.fut (Ja1 hp)) (RelDs.cons (rw'.fut (Ja1 hp)) RelDs.nil)⟩⟩
 stop:=λρ' H' S f r s=>by
  simp only[sameAt]at s;split at s<;>try (cases s;done)
  rename_i es he;obtain⟨xs,hx,q⟩:=r.ob l a _ (f.get hl) he;exact⟨xs,SqL.of hx,by rw[<-q.length];exact O0 (eq_of_beq s)⟩
def Jue(hs:SqF K H a xs)(t:RelDs K ρ H ds xs):ItOk K ρ H (Itl K a) none ds where
 go:=λρ' H' S i d f r s e=>by
  have hs':=(f.sqF hs).sq;obtain⟨v,hv,rv⟩:=(t.fut f).get (show ds[i]? =some d from e);refine⟨⟨xs,v,hs',hv⟩,λx H2 ⟨e1,e2⟩=>?_⟩;subst e1;refine⟨Fut.refl,r,?_⟩;have:=e2 xs hs';rw[hv]at this;cases this;exact rv
 stop:=λρ' H' S f r s=>⟨xs,(f.sqF hs).sq,by rw[<-t.length];exact Aj _⟩
def Jle(ha:Snd C a):∀(X:Cx) (c:Ck) (tg x:Expr),Gd X C c->Uj a c x=true->PI X tg x (tI X.K C (.cns a .nul)):=by
 intro X c tg x g h;refine PI.imp (Jxj (ha.e X c x g h)) λU H R hq_=>?_;obtain⟨ρ,S,Z,gg,ds,S',rs,re,e,fin⟩:=hq_;simp only[Jwq]at e;obtain⟨d,S1,e1,e⟩:=Res.bind_eq_ok e;refine⟨ρ,S,Z,d,S1,rs,re,e1,λρ1 v1 H1 f1 r1 q1=>?_⟩;split at e
 ·cases e;obtain⟨p,xs,rfl,sq,t⟩:=q1.tup_inv;refine⟨p,rfl,.inr ⟨⟨xs,sq⟩,fin ρ1 H1 _ f1 r1 ?_⟩⟩;exact{go:=(λρ' H' S i d f r s e=>by
       have hs':=f.tup _ _ sq;obtain⟨v,hv,rv⟩:=(t.fut f).get (show ds[i]? =some d from e);refine⟨⟨xs,v,hs',hv⟩,λx H2 ⟨e1,e2⟩=>?_⟩;subst e1;refine⟨Fut.refl,r,?_⟩;have:=e2 xs hs';rw[hv]at this;cases this;exact rv),stop:=λρ' H' S f r s=>⟨xs,f.tup _ _ sq,by rw[<-t.length];exact Aj _⟩}
 ·cases e;obtain⟨p,xs,rfl,sq,t⟩:=q1.kl_inv;exact⟨p,rfl,.inl ⟨⟨xs,sq.sq⟩,fin ρ1 H1 _ f1 r1 (Jue sq t)⟩⟩
 ·split at e
  ·rename_i es he;cases e;obtain⟨p,xs,rfl,hl,hx,t⟩:=r1.lst q1 (Jan he);exact⟨p,rfl,.inl ⟨⟨xs,SqL.of hx⟩,fin ρ1 H1 _ f1 r1 (Jpp hl _)⟩⟩
  ·cases e
 ·cases e
def Jlf(ha:Snd C a):∀(X:Cx) (c:Ck) (tg x:Expr),Gd X C c->V0 (.rng a) c x=true->PI X tg x (tI X.K C (.rng a)):=by
 intro X c tg x g h;cases x<;>try (exact fx9 h)
 rename_i fn es kws pos;cases fn<;>try (exact fx9 h)
 rename_i y pp;rcases es with _|⟨e0,_|⟨e1,es⟩⟩<;>cases kws<;>try (exact fx9 h)
 simp only[Wf0,Ah,beq_iff_eq]at h;obtain⟨⟨⟨rfl,h1⟩,h2⟩,h3⟩:=h;refine PI.imp (Jl6 (g.glo h1) (g.top.blt _ (Jak h2)) (Jbv (ha.e X c _ g h3) Je9 (Jad (noStar h3))) (Jad (noStar h3))) λU H R hq_=>?_;obtain⟨ρ,S,Z,gg,ds,S',rs,re,e,fin⟩:=hq_;simp only[Jwr]at e;obtain⟨d,S1,e1,e⟩:=Res.bind_eq_ok e;refine⟨ρ,S,Z,d,S1,rs,re,e1,λρ1 v1 H1 f1 r1 q1=>?_⟩;split at e
 ·rename_i j;split at e
  ·rename_i hj;simp only[Ah,decide_eq_true_eq]at hj;cases e;cases q1.int_inv;refine⟨j,rfl,hj.1,hj.2,fin ρ1 H1 _ f1 r1 ?_⟩;have:=Jpo (K:=X.K) (ρ:=ρ1) (H:=H1) 0 j.toNat
   simpa only[Int.zero_add]using this
  ·cases e
 ·cases e
def Jlg(ha:Snd C a):∀(X:Cx) (c:Ck) (tg x:Expr),Gd X C c->V0 (.enm a) c x=true->itT (.enm a) tg=true->PI X tg x (tI X.K C (.enm a)):=by
 intro X c tg x g h ht;cases x<;>try (exact fx9 h)
 rename_i fn es kws pos;cases fn<;>try (exact fx9 h)
 rename_i y pp;rcases es with _|⟨e0,_|⟨e1,es⟩⟩<;>cases kws<;>try (exact fx9 h)
 cases tg<;>try (exact fx9 ht)
 simp only[Wfy,Ah,beq_iff_eq]at h;obtain⟨⟨⟨rfl,h1⟩,h2⟩,h3⟩:=h;refine PI.imp (Jtp (g.glo h1) (g.top.blt _ (Jak h2)) (Jbv (ha.e X c _ g h3) Je9 (Jad (noStar h3))) (Jad (noStar h3))) λU H R hq_=>?_;obtain⟨ρ,S,Z,gg,ds,S',rs,re,e,fin⟩:=hq_;simp only[Jwp]at e;obtain⟨d,S1,e1,e⟩:=Res.bind_eq_ok e;refine⟨ρ,S,Z,d,S1,rs,re,e1,λρ1 v1 H1 f1 r1 q1=>?_⟩;split at e<;>try (cases e;done)
 ·split at e<;>try (cases e;done)
  rename_i es he;cases e;obtain⟨p,xs,rfl,hl,hx,t⟩:=r1.lst q1 (Jan he);exact⟨p,true,rfl,⟨xs,SqL.of hx⟩,fin ρ1 H1 _ f1 r1 (Jpq hl _)⟩
 ·cases e;obtain⟨p,xs,rfl,sq,t⟩:=q1.tup_inv;exact⟨p,false,rfl,⟨xs,sq⟩,fin ρ1 H1 _ f1 r1 (Jpr sq t)⟩
def Jld(ha:Snd C a)(hb:Snd C b):∀(X:Cx) (c:Ck) (tg x:Expr),Gd X C c->V0 (.zp a b) c x=true->itT (.zp a b) tg=true->PI X tg x (tI X.K C (.zp a b)):=by
 intro X c tg x g h ht;cases x<;>try (exact fx9 h)
 rename_i fn es kws pos;cases fn<;>try (exact fx9 h)
 rename_i y pp;rcases es with _|⟨e0,_|⟨e1,_|⟨e2,es⟩⟩⟩<;>cases kws<;>try (exact fx9 h)
 cases tg<;>try (exact fx9 ht)
 simp only[J1o,Ah,beq_iff_eq]at h;obtain⟨⟨⟨⟨rfl,h1⟩,h2⟩,h3⟩,h4⟩:=h;refine PI.imp (Jto (g.glo h1) (g.top.blt _ (Jak h2)) (Jbv (ha.e X c _ g h3) (Jbv (hb.e X c _ g h4) Je9 (Jad (noStar h4))) (Jad (noStar h3))) ((Jad (noStar h3)).trans (by rw[Jad (noStar h4)];rfl)) (Jad (noStar h4))) λU H R hq_=>?_;obtain⟨ρ,S,Z,gg,ds,S',rs,re,e,fin⟩:=hq_;simp only[Jsx]at e;obtain⟨d,S1,q1,e⟩:=Res.bind_eq_ok e;obtain⟨d2,S2,q2,e⟩:=Res.bind_eq_ok e;refine⟨ρ,S,Z,d,S1,rs,re,q1,λρ1 v1 H1 f1 r1 w1=>⟨ρ1,S1,Z,d2,S2,r1,re.fut f1,q2,λρ2 v2 H2 f2 r2 w2=>?_⟩⟩;unfold zpD at e;split at e<;>try (cases e;done)
 split at e<;>try (cases e;done)
 rename_i es he;split at e<;>try (cases e;done)
 cases e;obtain⟨p,xs,rfl,hl,hx,t⟩:=r2.lst (w1.fut f2) (Jan he);obtain⟨q,ys,rfl,sq,t2⟩:=w2.tup_inv;exact⟨p,q,xs,ys,rfl,SqL.of hx,sq,fin ρ2 H2 _ (f1.trans f2) r2 (Jpn hl sq t2)⟩
end
section
variable {C:Pr}
def Ws:∀{m:M} {c:Ck} {e:Expr},Vj m c e=true->∀x p,e≠ .Starred x p:=by
 intro m c e h x p z;subst z;cases m<;>exact fx9 h
theorem Jrm:∀{m:M} {c:Ck} {es:List Expr} {env:Env},Vp m c es=true->(Fp es env).length=es.length/\(Fp es env).findIdx? (·.1)=none:=by
 intro m
 induction m with
 |nul=>intro c es env h;cases es<;>first|exact⟨rfl,rfl⟩|exact fx9 h
 |cns a b _ ihb=>
  intro c es env h;cases es with
  |nil=>exact fx9 h
  |cons e es=>
   simp only[Ju2,Ah]at h;rw[Jcv (Ws h.1)];obtain⟨h1,h2⟩:=ihb (env:=env) h.2;refine⟨by rw[A7,A7,h1],?_⟩;rw[List.findIdx?_cons,h2];rfl
 |_=>intro c es env h;exact fx9 h
theorem J1b:∀{m:M} {c:Ck} {es:List Expr} {ds:List D} {Z Z':En} {S S':Store},Vp m c es=true->evGs C m ds Z S=.ok Z' S'->ds.length=es.length:=by
 intro m
 induction m with
 |nul=>
  intro c es ds Z Z' S S' h e;cases es<;>try (exact fx9 h)
  cases ds<;>simp only[Jfv]at e
  ·rfl
  ·cases e
 |cns a b _ ihb=>
  intro c es ds Z Z' S S' h e;cases es with
  |nil=>exact fx9 h
  |cons x es=>
   simp only[Ju2,Ah]at h;cases ds with
   |nil=>simp only[Jd6]at e;cases e
   |cons d ds=>
    simp only[Jd6]at e;obtain⟨τ1,S1,e1,e⟩:=Res.bind_eq_ok e;rw[A7,A7,ihb h.2 e]
 |_=>intro c es ds Z Z' S S' h;exact fx9 h
def Jlh:∀(X:Cx) (c:Ck) (x:Expr),Gd X C c->Vj (.tvar i) c x=true->PG X x (tG X.K C (.tvar i)):=by
 intro X c x g h;cases x<;>try (exact fx9 h)
 rename_i y p;simp only[Zj,Ah,beq_iff_eq]at h;obtain⟨h1,h2⟩:=h;obtain⟨o1,o2⟩:=g.own h2;refine PG.imp (Jtr (i:=i) g.nd (by rw[g.N];exact h1) o1 o2) λv U H Q hq_=>?_;obtain⟨ρ,S,Z,d,Z',S',rs,re,rd,e,fin⟩:=hq_;simp only[Jjg]at e;split at e
 ·cases e;exact fin ρ _ H Fut.refl rs (re.set rd i)
 ·cases e
def Jli(ha:Snd C ts):∀(X:Cx) (c:Ck) (x:Expr),Gd X C c->Vj (.ttup ts) c x=true->PG X x (tG X.K C (.ttup ts)):=by
 intro X c x g h;cases x<;>try (exact fx9 h)
 rename_i es k p;simp only[Wf2]at h;refine PG.imp (Jxk g.calm (ha.gs X c _ g h) (Jrm h).1 (Jrm h).2) λv U H Q hq_=>?_;obtain⟨ρ,S,Z,d,Z',S',rs,re,rd,e,fin⟩:=hq_;simp only[Jqw]at e;split at e
 ·rename_i ds;obtain⟨a,xs,rfl,sq,t⟩:=rd.tup_inv;exact⟨a,xs,rfl,sq,by rw[<-t.length];exact J1b h e,ρ,S,Z,ds,Z',S',rs,re,t,e,fin⟩
 ·cases e
def Jlj(ha:Snd C a)(hb:Snd C b):∀(X:Cx) (c:Ck) (x:Expr),Gd X C c->Vj (.tsub a b) c x=true->PG X x (tG X.K C (.tsub a b)):=by
 intro X c x g h;cases x<;>try (exact fx9 h)
 rename_i o i p;simp only[Wf1,Ah]at h;have nsl:∀l u t p,i≠ .Slice l u t p:=by
  intro l u t p z;subst z;have h2:=h.2;cases b<;>first|(exact fx9 h2)|(rename_i d;cases d<;>exact fx9 h2)|(rename_i w _;cases w<;>exact fx9 h2)
 refine PG.imp (Jxl (ha.e X c _ g h.1) (hb.e X c _ g h.2) (Jv4 (Fd (Hq (by decide:2<=64) _) g.top.un) g.top.np) (by
  intro v;cases i<;>first|rfl|exact absurd rfl (nsl _ _ _ _))) λv U H Q ⟨ρ,S,Z,d,Z',S',rs,re,rd,e,fin⟩=>?_
 simp only[Jws]at e;obtain⟨d1,S1,e1,e⟩:=Res.bind_eq_ok e;obtain⟨d2,S2,e2,e⟩:=Res.bind_eq_ok e;obtain⟨_,S3,e3,e⟩:=Res.bind_eq_ok e;cases e;refine⟨ρ,S,Z,d1,S1,rs,re,e1,λρ1 v1 H1 f1 r1 q1=>⟨ρ1,S1,Z,d2,S2,r1,re.fut f1,e2,λρ2 v2 H2 f2 r2 q2=>?_⟩⟩;refine⟨ρ2,S2,d1,d2,d,S',r2,q1.fut f2,q2,rd.fut (f1.trans f2),e3,λH3 f3 r3=>?_⟩;have f:=f1.trans (f2.trans f3);exact fin ρ2 U H3 f r3 (re.fut f)
theorem Jj8(ha:Snd C a)(hb:Snd C b):∀(X:Cx) (c:Ck) (x:List Expr),Gd X C c->Vp (.cns a b) c x=true->PGs X x (tGs X.K C (.cns a b)):=by
 intro X c x g h;cases x with
 |nil=>exact fx9 h
 |cons e es=>
  simp only[Ju2,Ah]at h;refine PGs.imp (Jot (ha.g X c _ g h.1) (hb.gs X c _ g h.2) (by rw[Jcv (Ws h.1)];rfl)) λvs U H Q hq_=>?_;obtain⟨ρ,S,Z,ds,Z',S',rs,re,rd,e,fin⟩:=hq_;cases ds with
  |nil=>simp only[Jd6]at e;cases e
  |cons d ds=>
   simp only[Jd6]at e;obtain⟨τ1,S1,e1,e⟩:=Res.bind_eq_ok e;obtain⟨v,r,rfl,q,t⟩:=rd.inv_cons;refine⟨v,r,rfl,ρ,S,Z,d,τ1,S1,rs,re,q,e1,λρ1 σ1 H1 f1 r1 q1=>?_⟩;exact⟨ρ1,S1,τ1,ds,Z',S',r1,q1,t.fut f1,e,λρ2 σ2 H2 f2=>fin ρ2 σ2 H2 (f1.trans f2)⟩
theorem Jj7:∀(X:Cx) (c:Ck) (x:List Expr),Gd X C c->Vp .nul c x=true->PGs X x (tGs X.K C .nul):=by
 intro X c x g h;cases x with
 |cons e es=>exact fx9 h
 |nil=>
  refine PGs.imp Jtq λvs U H Q hq_=>?_;obtain⟨ρ,S,Z,ds,Z',S',rs,re,rd,e,fin⟩:=hq_;cases ds with
  |cons d ds=>simp only[Jfv]at e;cases e
  |nil=>
   simp only[Jfv]at e;cases e;exact⟨rd.inv_nil,fin ρ U H Fut.refl rs re⟩
def Ck.compOk{c:Ck}{N:List String}(g:Gd X C c)(h:c.comp N k keep scope=true):U9 X (N.map Ab) k keep scope/\(N.map Ab).Nodup:=by
 unfold Ck.comp at h;simp only[Ah,Ef,beq_iff_eq,bne_iff_ne,Hk,decide_eq_true_eq]at h;obtain⟨⟨⟨⟨⟨⟨h1,h2⟩,h3⟩,h4⟩,h5⟩,h6⟩,h7⟩:=h;refine⟨⟨h1,h2,λy hy hl=>?_,λy hy hf=>?_,by rw[Ai];exact h5,λj i hj=>?_⟩,h6⟩
 ·rcases h3 y hy with z|z
  ·exact absurd hl z
  ·exact z
 ·rw[g.names];rcases h4 y hy with(z|z)|z
  ·exact absurd hf z
  ·exact .inl z
  ·exact .inr z
 ·have hlt:=(Ae.mp hj).1;have:=h7 j (by simpa using hlt);rw[hj]at this;split at this
  ·rename_i i' x e1 e2;cases e1;simp only[Ah,beq_iff_eq]at this;exact⟨x,e2,by rw[g.N];exact this.1,this.2⟩
  ·cases this
def Gd.inner{c:Ck}{N:List String}(g:Gd X C c)(h:c.comp N k keep scope=true)(s₃:Shared)(H:Hp)(ex:List Addr)(pins:List (Addr×A5)):
  Gd (Ur X (N.map Ab) scope s₃ H ex pins) C (c.inner N scope):=by
 obtain⟨ok,nd⟩:=Ck.compOk g h;refine⟨rfl,nd,?_,ok.kind,λx=>rfl,g.calm,rfl,g.top⟩;show(relabel scope X.env).names=relab scope.names c.names;unfold relabel relab;show scope.names.map _=scope.names.map _;refine D8 λp hp=>?_;obtain⟨n,q⟩:=p;have e1:(X.env.scope.kind==ScopeKind.function)=true:=by rw[g.sk];rfl
 have e2:X.env.kindOf n=c.names.lookup n:=by
  show X.env.scope.names.lookup n=_;rw[g.names]
 simp only[e1,e2,Tw]
def Yd(k:Nat)(τ0 Z:En):Prop:=Z.length=τ0.length/\∀i,k<=i->Z[i]? =τ0[i]?
theorem Juo:∀{m:M},V5 k m=true->(∀{d:D} {τ0 Z Z':En} {S S':Store},Yd k τ0 Z->evG C m d Z S=.ok Z' S'->Yd k τ0 Z'/\S'=S)/\(∀{ds:List D} {τ0 Z Z':En} {S S':Store},Yd k τ0 Z->evGs C m ds Z S=.ok Z' S'->Yd k τ0 Z'/\S'=S):=by
 intro m
 induction m with
 |tvar i=>
  intro h;have h:=of_decide_eq_true h;refine⟨λ{d τ0 Z Z' S S'} o e=>?_,λ{ds τ0 Z Z' S S'} o e=>?_⟩
  ·simp only[Jjg]at e;split at e
   ·cases e;refine⟨⟨by rw[Em];exact o.1,λj hj=>?_⟩,rfl⟩;rw[Aw (by lia)];exact o.2 j hj
   ·cases e
  ·exact absurd e Jaa
 |ttup ts ih=>
  intro h;refine⟨λ{d τ0 Z Z' S S'} o e=>?_,λ{ds τ0 Z Z' S S'} o e=>?_⟩
  ·simp only[Jqw]at e;split at e
   ·exact(ih h).2 o e
   ·cases e
  ·exact absurd e Jaa
 |nul=>
  intro h;refine⟨λ{d τ0 Z Z' S S'} o e=>?_,λ{ds τ0 Z Z' S S'} o e=>?_⟩
  ·exact absurd e Jaa
  ·cases ds<;>simp only[Jfv]at e
   ·cases e;exact⟨o,rfl⟩
   ·cases e
 |cns a b iha ihb=>
  intro h;have h:=(Ah _ _).mp h;refine⟨λ{d τ0 Z Z' S S'} o e=>?_,λ{ds τ0 Z Z' S S'} o e=>?_⟩
  ·exact absurd e Jaa
  ·cases ds<;>simp only[Jd6]at e
   ·cases e
   ·obtain⟨τ1,S1,e1,e2⟩:=Res.bind_eq_ok e;obtain⟨o1,rfl⟩:=(iha h.1).1 o e1;exact(ihb h.2).2 o1 e2
 |_=>intro h;exact fx9 h
noncomputable abbrev Vz(C:Pr)(tg cd el:M):D->En->Store->Res (Option D):=λd τ1 S2=>(evG C tg d τ1 S2).bind λτ2 S3=>(evC C cd τ2 S3).bind λb S4=>if b then(evE C el τ2 S4).bind λy S5=>.ok (some y) S5 else .ok none S4
def Jmy(h:(Us k keep Z)[i]? =some (some d)):k<=i:=by
 unfold Us at h
 by_cases hi:i<k
 ·rw[A0 (by simpa using hi),E3,if_pos hi]at h;cases h
 ·lia
theorem Jp7{ds:List D}{Q:List V->Hp->Prop}(hown:V5 k tg=true)(it:ItOk K ρ0 H0 J g ds)
  (rs0:RelS K ρ0 S0 H0)(re0:RelE K ρ0 H0 (Us k keep τ0) σ0)(e0:Vh (Vz C tg cd el) g ds ds.length 0 (Us k keep τ0) S0 []=.ok ys S')(fin:∀ρ H xs,Fut K ρ0 H0 ρ H->RelS K ρ S' H->RelDs K ρ H ys xs->Q xs H):
  Ye J (tG K C tg) (tC K C cd) (tE K C el) Q σ0 H0:=by
 refine⟨λi m xs U H=>∃ρ S acc,Fut K ρ0 H0 ρ H/\RelS K ρ S H/\RelE K ρ H (Us k keep τ0) U/\RelDs K ρ H acc xs/\i+m=ds.length/\acc.length<=Line/\Vh (Vz C tg cd el) g ds m i (Us k keep τ0) S acc=.ok ys S',⟨ds.length,ρ0,S0,[],Fut.refl,rs0,re0,RelDs.nil,Fc _,Cp _,e0⟩,?_⟩;rintro i m xs U H ⟨ρ,S,acc,f,rs,re,ra,hi,hl,e⟩;refine⟨by rw[<-ra.length,<-Ja9];exact hl,?_⟩;cases m with
 |zero=>
  simp only[Vh]at e;split at e
  ·rename_i hs;cases e;refine .inl ⟨?_,fin ρ H xs f rs ra⟩;have:i=ds.length:=by lia
   rw[this];exact it.stop ρ H _ f rs hs
  ·cases e
 |succ m=>
  simp only[Vh]at e;split at e
  ·rename_i hs;split at e
   ·cases e
   ·rename_i d hd;obtain⟨hgo,hy⟩:=it.go ρ H S i d f rs hs hd;refine .inr ⟨hgo,λx H' hyl=>?_⟩;obtain⟨f0,rs,rd⟩:=hy x H' hyl
    replace re:=re.fut f0
    replace ra:=ra.fut f0
    replace f:=f.trans f0
    obtain⟨o,S1,e1,e⟩:=Res.bind_eq_ok e;obtain⟨τ2,S2,eG,e1⟩:=Res.bind_eq_ok e1;obtain⟨b,S3,eC,e1⟩:=Res.bind_eq_ok e1;have own:Yd k (Us k keep τ0) τ2:=((Juo (C:=C) hown).1 (τ0:=Us k keep τ0) ⟨rfl,λ_ _=>rfl⟩ eG).1;have less:Web τ2 (Us k keep τ0):=⟨own.1.symm,λj d hj=>by rw[own.2 j (Jmy hj)];exact hj⟩
    refine⟨ρ,S,_,d,τ2,S2,rs,re,rd,eG,λρ1 σ1 H1 f1 r1 q1=>⟨ρ1,S2,τ2,b,S3,r1,q1,eC,λρ2 H2 f2 r2=>?_⟩⟩;cases b with
    |true=>
     rw[if_pos rfl]at e1 ⊢;obtain⟨y,S4,eE,e1⟩:=Res.bind_eq_ok e1;cases e1;simp only at e;split at e
     ·rename_i hlt;refine⟨ρ2,S3,τ2,y,S1,r2,q1.fut f2,eE,λρ3 v3 H3 f3 r3 q3=>⟨m,C9 m,?_⟩⟩;have f13:=f1.trans (f2.trans f3);exact⟨ρ3,S1,acc++[y],f.trans f13,r3,(q1.fut (f2.trans f3)).less less,(ra.fut f13).append (RelDs.cons q3 RelDs.nil),by lia,by rw[Bd];exact hlt,e⟩
     ·cases e
    |false=>
     rw[if_neg Az]at e1 ⊢;cases e1;simp only at e;have f12:=f1.trans f2;exact⟨m,C9 m,ρ2,S1,acc,f.trans f12,r2,(q1.fut f2).less less,ra.fut f12,by lia,hl,e⟩
  ·cases e
def Jhk{X:Cx}(hown:V5 k tg=true)(h:tE X.K C (.comp N k keep tg it cd el) U H Q):Wx k keep (tI X.K C it) (tG X.K C tg) (tC X.K C cd) (tE X.K C el) U H Q:=by
 obtain⟨ρ,S,Z,d,S',rs,re,e,fin⟩:=h;simp only[Jlu]at e;obtain⟨w,S1,e1,e⟩:=Res.bind_eq_ok e;obtain⟨ys,S2,e2,e⟩:=Res.bind_eq_ok e;cases e;obtain⟨g,ds⟩:=w;refine⟨ρ,S,Z,g,ds,S1,rs,re,e1,λρ1 H1 J f1 r1 itk=>?_⟩;refine Jp7 hown itk r1 ((re.fut f1).inner k keep) e2 λρ2 H2 xs f2 r2 q2=>?_;exact Fin.newL (ρ:=ρ2) (λρ3 v3 H3 f3 r3 q3=>fin ρ3 v3 H3 (f1.trans (f2.trans f3)) r3 q3) r2 q2
def Jn6(hg:Snd C tg)(hi:Snd C it)(hc:Snd C cd)(he:Snd C el):∀(X:Cx) (c:Ck) (x:Expr),Gd X C c->Uj (.comp N k keep tg it cd el) c x=true->PE X x (tE X.K C (.comp N k keep tg it cd el)):=by
 intro X c x g h;cases x<;>try (exact fx9 h)
 rename_i elt gens scope pos;rcases gens with _|⟨⟨t,i,fs,asy⟩,_|⟨g2,gens⟩⟩<;>try (exact fx9 h)
 simp only[Jzp,Ah,beq_iff_eq]at h;obtain⟨⟨⟨⟨⟨⟨⟨rfl,h1⟩,h2⟩,h3⟩,h4⟩,h5⟩,h6⟩,h7⟩:=h;obtain⟨pi,fs0⟩:=hi.i X c t i g h4 h7;refine PE.imp (Jtv (Ck.compOk g h1).1 g.calm pi (λs₃ H ex pins=>hg.g _ _ _ (g.inner h1 s₃ H ex pins) h3) (λs₃ H ex pins=>hc.cd _ _ _ (g.inner h1 s₃ H ex pins) h5) (λs₃ H ex pins=>he.e _ _ _ (g.inner h1 s₃ H ex pins) h6) fs0) λU H Q q=>Jhk h2 q
end
section
variable {C:Pr}
def Jha(h:isComp e=false):Gb e none n env=pure false:=by
 cases e<;>first|rfl|exact fx9 h.symm
def Jdp(h:isComp e=false):Gb e (some t) n env=pure false:=by
 cases e<;>first|rfl|exact fx9 h.symm
def Jj5:Gb e (some (.Name x p)) n env=pure true\/Gb e (some (.Name x p)) n env=pure false:=by
 have h:∃b,Gb e (some (.Name x p)) n env=pure b:=by
  cases e<;>exact⟨_,rfl⟩
 obtain⟨b,h⟩:=h;cases b
 ·exact .inr h
 ·exact .inl h
def Jgy(h:∀a b p,t=.Tuple a b p->∀a' b' p',e≠ .Tuple a' b' p')(hl:∀a p,t≠ .List a p):swappedStores [t] e env=pure none:=by
 cases t<;>first|rfl|exact absurd rfl (hl _ _)|skip
 rename_i a b p;cases e<;>first|rfl|exact absurd rfl (h a b p rfl _ _ _)
def Jqd{K:Af}{t e:M}{D:Ends}{U:L2.St}{H:Hp}(h:tS K C (.asg t e) D U H):Xx (tE K C e) (tG K C t) D U H:=by
 obtain⟨ρ,S,Z,fl,S',rs,re,e0,fin⟩:=h;simp only[Jls]at e0;obtain⟨d,S1,e1,e0⟩:=Res.bind_eq_ok e0;obtain⟨τ1,S2,e2,e0⟩:=Res.bind_eq_ok e0;cases e0;exact⟨ρ,S,Z,d,S1,rs,re,e1,λρ1 v1 H1 f1 r1 q1=>⟨ρ1,S1,Z,d,τ1,S',r1,re.fut f1,q1,e2,λρ2 σ2 H2 f2=>fin ρ2 σ2 H2 (f1.trans f2)⟩⟩
def Jzl(h:Uj e c (.ListComp elt gens scope pos)=true):∃N k keep mg mi mc me,e=.comp N k keep mg mi mc me:=by
 cases e<;>first|exact⟨_,_,_,_,_,_,_,rfl⟩|(exact fx9 h)|(rename_i d;cases d<;>exact fx9 h)|(rename_i w _;cases w<;>exact fx9 h)
def Jzk:¬Uj e c (.SetComp elt gens scope pos)=true:=by
 intro h;cases e<;>first|(exact fx9 h)|(rename_i d;cases d<;>exact fx9 h)|(rename_i w _;cases w<;>exact fx9 h)
def Jzm:¬Uj e c (.DictComp k elt gens scope pos)=true:=by
 intro h;cases e<;>first|(exact fx9 h)|(rename_i d;cases d<;>exact fx9 h)|(rename_i w _;cases w<;>exact fx9 h)
def Jsq(ht:Snd C t)(he:Snd C e)(hc:∀N k keep tg it cd el,e=.comp N k keep tg it cd el->Snd C tg/\Snd C it/\Snd C cd/\Snd C el):∀(X:Cx) (c:Ck) (x:Stmt),Gd X C c->Vd (.asg t e) c x=true->PS X x (tS X.K C (.asg t e)):=by
 intro X c x g h;cases x<;>try (exact fx9 h)
 rename_i tgs v pos;rcases tgs with _|⟨tg,_|⟨t2,tgs⟩⟩<;>try (exact fx9 h)
 simp only[Wfx,Ah]at h;obtain⟨⟨h1,h2⟩,h3⟩:=h;have one:(Fp [tg] X.env).map (·.2)=[assign tg X.env]:=by rw[Jcv (Ws h1)];rfl
 have nlist:∀a p,tg≠ .List a p:=by
  intro a p z;subst z;cases t<;>exact fx9 h1
 by_cases hn:∃y p,tg=.Name y p
 ·obtain⟨y,p,rfl⟩:=hn;rcases Jj5 (e:=v) (x:=y) (p:=p) (n:=pos.line) (env:=X.env)with hs|hs
  ·
   cases v<;>first|(exact absurd hs (by intro z;cases z))|skip
   ·
    rename_i elt gens scope cpos;cases t<;>try (exact fx9 h1)
    rename_i i;obtain⟨N,k,keep,mg,mi,mc,me,rfl⟩:=Jzl h2;obtain⟨sg,si,sc,se⟩:=hc _ _ _ _ _ _ _ rfl;rcases gens with _|⟨⟨tt,ii,fs,asy⟩,_|⟨g2,gens⟩⟩<;>try (exact fx9 h2)
    simp only[Jzp,Ah,beq_iff_eq]at h2;obtain⟨⟨⟨⟨⟨⟨⟨rfl,k1⟩,k2⟩,k3⟩,k4⟩,k5⟩,k6⟩,k7⟩:=h2;obtain⟨pi,fs0⟩:=si.i X c tt ii g k4 k7;simp only[Zj,Ah,beq_iff_eq]at h1;obtain⟨o1,o2⟩:=g.own h1.2;refine PS.imp (Jtj (i:=i) (wi:=tI X.K C mi) (g:=tG X.K C mg) (tc:=tC X.K C mc) (te:=tE X.K C me) g.nd (by rw[g.N];exact h1.1) o1 o2 hs (Ck.compOk g k1).1 g.calm pi (λs₃ H ex pins=>sg.g _ _ _ (g.inner k1 s₃ H ex pins) k3) (λs₃ H ex pins=>sc.cd _ _ _ (g.inner k1 s₃ H ex pins) k5) (λs₃ H ex pins=>se.e _ _ _ (g.inner k1 s₃ H ex pins) k6) fs0) λD U H q=>?_;obtain⟨ρ,S,Z,fl,S',rs,re,e0,fin⟩:=q;simp only[Jlu,Jjg,Jls]at e0;obtain⟨d,S1,e1,e0⟩:=Res.bind_eq_ok e0;obtain⟨τ1,S2,e2,e0⟩:=Res.bind_eq_ok e0;cases e0;refine Jhk (N:=N) k2 ⟨ρ,S,Z,d,S1,rs,re,e1,λρ1 v1 H1 f1 r1 q1=>?_⟩;split at e2
    ·cases e2;exact fin ρ1 _ H1 f1 r1 ((re.fut f1).set q1 i)
    ·cases e2
   ·exact absurd h2 Jzk
   ·exact absurd h2 Jzm
  ·cases t<;>try (exact fx9 h1)
   rename_i i;simp only[Zj,Ah,beq_iff_eq]at h1;obtain⟨o1,o2⟩:=g.own h1.2;refine PS.imp (Jxd (i:=i) g.nd (by rw[g.N];exact h1.1) o1 (he.e X c _ g h2) hs o2) λD U H q=>?_;obtain⟨ρ,S,Z,fl,S',rs,re,e0,fin⟩:=q;simp only[Jjg,Jls]at e0;obtain⟨d,S1,e1,e0⟩:=Res.bind_eq_ok e0;obtain⟨τ1,S2,e2,e0⟩:=Res.bind_eq_ok e0;cases e0;refine⟨ρ,S,Z,d,S1,rs,re,e1,λρ1 v1 H1 f1 r1 q1=>?_⟩;split at e2
   ·cases e2;exact fin ρ1 _ H1 f1 r1 ((re.fut f1).set q1 i)
   ·cases e2
 ·have hv:isComp v=false:=by
   cases v<;>first|rfl|(exfalso;cases tg<;>first|(exact absurd ⟨_,_,rfl⟩ hn)|(exact fx9 h3))
  refine PS.imp (Jxi (he.e X c _ g h2) (ht.g X c _ g h1) (by show Gb v (some tg) _ _=_;exact Jdp hv) (Jgy (λa b p z a' b' p' z'=>by subst z;subst z';exact Az h3) nlist) one) λD U H q=>Jqd q
def Jsp(he:Snd C e):∀(X:Cx) (c:Ck) (x:Stmt),Gd X C c->Vd (.aug i e) c x=true->PS X x (tS X.K C (.aug i e)):=by
 intro X c x g h;cases x<;>try (exact fx9 h)
 rename_i tg op v pos;cases tg<;>try (exact fx9 h)
 cases op<;>try (exact fx9 h)
 simp only[Jzn,Ah,beq_iff_eq]at h;obtain⟨⟨h1,h2⟩,h3⟩:=h;obtain⟨o1,o2⟩:=g.own h2;refine PS.imp (Jxh (i:=i) g.nd (by rw[g.N];exact h1) o1 (he.e X c _ g h3) Jyr o2) λD U H hq_=>?_;obtain⟨ρ,S,Z,fl,S',rs,re,e,fin⟩:=hq_;simp only[Joi]at e;split at e<;>try (cases e;done)
 rename_i x hx;obtain⟨y,S1,e1,e⟩:=Res.bind_eq_ok e;split at e<;>try (cases e;done)
 cases e;obtain⟨v,hv,rv⟩:=re.at' i _ hx;refine⟨v,hv,ρ,S,Z,_,S',rs,re,e1,λρ1 v1 H1 f1 r1 q1=>⟨x,_,rv.int_inv,q1.int_inv,?_⟩⟩;exact fin ρ1 _ H1 f1 r1 ((re.fut f1).set (RelD.int _) i)
theorem Jse(ht:Snd C t)(ha:Snd C a)(hb:Snd C b):∀(X:Cx) (c:Ck) (x:Stmt),Gd X C c->Vd (.ifs t a b) c x=true->PS X x (tS X.K C (.ifs t a b)):=by
 intro X c x g h;cases x<;>try (exact fx9 h)
 simp only[Wfw,Ah]at h;refine PS.imp (J0o (ht.t X c _ g h.1.1) (ha.b X c _ g h.1.2) (hb.b X c _ g h.2)) λD U H hq_=>?_;obtain⟨ρ,S,Z,fl,S',rs,re,e,fin⟩:=hq_;simp only[Jwm]at e;obtain⟨k,S1,e1,e⟩:=Res.bind_eq_ok e;refine⟨ρ,S,Z,k,S1,rs,re,e1,λρ1 H1 f1 r1=>?_⟩;have fin':FlOk X.K ρ1 H1 fl S' D:=by
  cases fl with
  |nx Z'=>exact λρ2 σ2 H2 f2=>fin ρ2 σ2 H2 (f1.trans f2)
  |rt d=>exact λρ2 σ2 H2 f2=>fin ρ2 σ2 H2 (f1.trans f2)
 cases k with
 |true=>exact Wfk ⟨ρ1,S1,Z,fl,S',r1,re.fut f1,e,fin'⟩
 |false=>exact Wfl ⟨ρ1,S1,Z,fl,S',r1,re.fut f1,e,fin'⟩
theorem FlOk.fut{K:Af}{ρ ρ1:List Addr}{H H1:Hp}{fl:Fl}{S':Store}{D:Ends}(fin:FlOk K ρ H fl S' D)(f1:Fut K ρ H ρ1 H1):FlOk K ρ1 H1 fl S' D:=by
 cases fl with
 |nx Z'=>exact λρ2 σ2 H2 f2=>fin ρ2 σ2 H2 (f1.trans f2)
 |rt d=>exact λρ2 σ2 H2 f2=>fin ρ2 σ2 H2 (f1.trans f2)
theorem Jsi(ht:Snd C t)(hi:Snd C i)(hb:Snd C b):∀(X:Cx) (c:Ck) (x:Stmt),Gd X C c->Vd (.forr t i b) c x=true->PS X x (tS X.K C (.forr t i b)):=by
 intro X c x g h;cases x<;>try (exact fx9 h)
 rename_i tg iter body els pos;cases els<;>try (exact fx9 h)
 simp only[Wfv,Ah]at h;obtain⟨pi,fs0⟩:=hi.i X c tg iter g h.1.1.2 h.2;refine PS.imp (Jxf (by rw[g.xe];exact PassesOwn.never) g.calm pi (ht.g X c _ g h.1.1.1) (hb.b X c _ g h.1.2) fs0) λD U H hq_=>?_;obtain⟨ρ,S,Z,fl,S',rs,re,e,fin⟩:=hq_;simp only[Jwl]at e;obtain⟨w,S1,e1,e⟩:=Res.bind_eq_ok e;obtain⟨gg,ds⟩:=w;refine⟨ρ,S,Z,gg,ds,S1,rs,re,e1,λρ0 H0 J f0 r0 it=>?_⟩;have fin0:=fin.fut f0
 let turn:Mi.D->En->Store->Res Fl:=λd τ1 S2=>(evG C t d τ1 S2).bind λτ2 S3=>evB C b τ2 S3
 have e:forL turn gg ds ds.length 0 Z S1=.ok fl S':=e;refine⟨λi m U H=>∃ρ S Z,Fut X.K ρ0 H0 ρ H/\RelS X.K ρ S H/\RelE X.K ρ H Z U/\i+m=ds.length/\forL turn gg ds m i Z S=.ok fl S',⟨ds.length,ρ0,S1,Z,Fut.refl,r0,re.fut f0,Fc _,e⟩,?_⟩;rintro i m U H ⟨ρ,S,Z,f,rs,re,hi,e⟩;cases m with
 |zero=>
  simp only[forL]at e;split at e
  ·rename_i hs;cases e;refine .inl ⟨?_,fin0 ρ U H f rs re⟩;have:i=ds.length:=by lia
   rw[this];exact it.stop ρ H _ f rs hs
  ·cases e
 |succ m=>
  simp only[forL]at e;split at e
  ·rename_i hs;split at e
   ·cases e
   ·rename_i d hd;obtain⟨hgo,hy⟩:=it.go ρ H S i d f rs hs hd;refine .inr ⟨hgo,λU' H'=>∃ρ' S'' Z',Fut X.K ρ0 H0 ρ' H'/\RelS X.K ρ' S'' H'/\RelE X.K ρ' H' Z' U'/\forL turn gg ds m (i+1) Z' S''=.ok fl S',λU' H' ⟨ρ',S'',Z',a1,a2,a3,a4⟩=>⟨m,C9 m,ρ',S'',Z',a1,a2,a3,by lia,a4⟩,λx H' hyl=>?_⟩;obtain⟨f0,rs,rd⟩:=hy x H' hyl
    replace re:=re.fut f0
    replace f:=f.trans f0
    obtain⟨fl1,S1,e1,e⟩:=Res.bind_eq_ok e;obtain⟨τ2,S2,eG,eB⟩:=Res.bind_eq_ok e1;refine⟨ρ,S,Z,d,τ2,S2,rs,re,rd,eG,λρ1 σ1 H1 f1 r1 q1=>⟨ρ1,S2,τ2,fl1,S1,r1,q1,eB,?_⟩⟩;cases fl1 with
    |nx τ1=>exact λρ2 σ2 H2 f2 r2 q2=>⟨ρ2,S1,τ1,f.trans (f1.trans f2),r2,q2,e⟩
    |rt d=>
     simp only at e;cases e;exact λρ2 v2 H2 f2 r2 q2=>fin0 ρ2 v2 H2 (f.trans (f1.trans f2)) r2 q2
  ·cases e
def Jr8(ha:Snd C a):∀(X:Cx) (c:Ck) (x:Stmt),Gd X C c->Vd (.ret a) c x=true->PS X x (tS X.K C (.ret a)):=by
 intro X c x g h;cases x<;>try (exact fx9 h)
 rename_i v pos;cases v<;>try (exact fx9 h)
 simp only[Wfu]at h;refine PS.imp (Jxe (ha.e X c _ g h)) λD U H hq_=>?_;obtain⟨ρ,S,Z,fl,S',rs,re,e,fin⟩:=hq_;simp only[Jwk]at e;obtain⟨d,S1,e1,e⟩:=Res.bind_eq_ok e;cases e;exact⟨ρ,S,Z,d,_,rs,re,e1,fin⟩
def Jsk(ha:Snd C a):∀(X:Cx) (c:Ck) (x:Stmt),Gd X C c->Vd (.exp a) c x=true->PS X x (tS X.K C (.exp a)):=by
 intro X c x g h;cases x<;>try (exact fx9 h)
 simp only[Wft,Ah,I8]at h;refine PS.imp (Jti (ha.e X c _ g h.1) (Jha h.2)) λD U H hq_=>?_;obtain⟨ρ,S,Z,fl,S',rs,re,e,fin⟩:=hq_;simp only[Jwj]at e;obtain⟨d,S1,e1,e⟩:=Res.bind_eq_ok e;cases e;exact⟨ρ,S,Z,d,_,rs,re,e1,λρ1 v1 H1 f1 r1 q1=>fin ρ1 U H1 f1 r1 (re.fut f1)⟩
theorem Jll:∀(X:Cx) (c:Ck) (x:List Stmt),Gd X C c->Vk .nul c x=true->PSs X x (tB' X.K C .nul):=by
 intro X c x g h;cases x with
 |cons s ss=>exact fx9 h
 |nil=>
  refine PSs.imp Jth λD U H hq_=>?_;obtain⟨ρ,S,Z,fl,S',rs,re,e,fin⟩:=hq_;simp only[Jw2]at e;cases e;exact fin ρ _ H Fut.refl rs re
theorem Jlm(ha:Snd C a)(hb:Snd C b):∀(X:Cx) (c:Ck) (x:List Stmt),Gd X C c->Vk (.cns a b) c x=true->PSs X x (tB' X.K C (.cns a b)):=by
 intro X c x g h;cases x with
 |nil=>exact fx9 h
 |cons s ss=>
  simp only[Wgb,Ah]at h;refine PSs.imp (Joo (ha.s X c _ g h.1) (hb.b X c _ g h.2)) λD U H hq_=>?_;obtain⟨ρ,S,Z,fl,S',rs,re,e,fin⟩:=hq_;simp only[Jw1]at e;obtain⟨fl1,S1,e1,e⟩:=Res.bind_eq_ok e;refine⟨ρ,S,Z,fl1,S1,rs,re,e1,?_⟩;cases fl1 with
  |nx τ1=>exact λρ1 σ1 H1 f1 r1 q1=>⟨ρ1,S1,τ1,fl,S',r1,q1,e,fin.fut f1⟩
  |rt d=>simp only at e;cases e;exact fin
end
section
variable {C:Pr}
def Jn5:∀(X:Cx) (c:Ck) (x:Expr),Gd X C c->Uj (.dnil k) c x=true->PE X x (tE X.K C (.dnil k)):=by
 intro X c x g h;cases x<;>try (exact fx9 h)
 rename_i ks vs pos;rcases ks with _|⟨k,ks⟩<;>rcases vs with _|⟨v,vs⟩<;>try (exact fx9 h)
 rcases k with _|_|k
 ·refine PE.imp Jo0 λU H Q ⟨ρ,S,Z,d,S',rs,re,e,fin⟩=>?_;cases e;exact fin.newO rs λp n=>⟨[],Jai,rfl⟩
 ·refine PE.imp Joy λU H Q ⟨ρ,S,Z,d,S',rs,re,e,fin⟩=>?_;cases e;exact fin.newO rs λp n=>⟨[],Jai,rfl⟩
 ·refine PE.imp Joz λU H Q ⟨ρ,S,Z,d,S',rs,re,e,fin⟩ p hp=>?_;cases e;exact fin (ρ++[p]) _ _ (Jba hp [p]) (rs.allocO hp ⟨[],Jai,rfl⟩) (by simp only[RelD];exact⟨p,rfl,by rw[<-rs.len];simp⟩)
def Jqb{X:Cx}(h1:(!Jek e0)=true):∀nm,attributeBase e0 nm X.env (eval e0 X.env)=eval e0 X.env:=λnm=>by
 cases e0<;>try rfl
 rename_i f0 a0 k0 p0;cases f0<;>try rfl
 cases a0<;>try rfl
 cases k0<;>try rfl
 exact fx9 h1
def Jsg(ha:Snd C a):∀(X:Cx) (c:Ck) (x:Expr),Gd X C c->Uj (.hld a) c x=true->PE X x (tE X.K C (.hld a)):=by
 intro X c x g h;cases x<;>try (exact fx9 h)
 rename_i fn es kws pos;cases fn<;>try (exact fx9 h)
 rcases es with _|⟨e0,es⟩<;>try (exact fx9 h)
 cases e0<;>try (exact fx9 h)
 rename_i fn2 es2 kws2 pos2;cases fn2<;>try (exact fx9 h)
 rcases es2 with _|⟨e1,es2⟩<;>try (exact fx9 h)
 cases e1<;>try (exact fx9 h)
 rename_i fn3 es3 kws3 pos3;cases fn3<;>try (exact fx9 h)
 cases es3<;>cases kws3<;>cases es2<;>cases kws2<;>cases es<;>cases kws<;>try (exact fx9 h)
 simp only[J1t,Ah,beq_iff_eq]at h;obtain⟨⟨⟨⟨⟨⟨⟨⟨⟨rfl,rfl⟩,rfl⟩,h1⟩,h2⟩,h3⟩,h4⟩,h5⟩,h6⟩,h7⟩:=h;refine PE.imp (Jtu g.calm (Fd (Hq (by decide:8<=64) _) g.top.un) (g.glo h1) (g.top.blt _ (Jak h3)) (g.glo h2) (g.top.blt _ (Jak h4)) (ha.e X c _ g h7) (Jqb h5 _) (by simpa using h6)) λU H Q ⟨ρ,S,Z,d,S',rs,re,e,fin⟩=>?_;simp only[Js1]at e;obtain⟨x,S1,e1,e⟩:=Res.bind_eq_ok e;refine⟨ρ,S,Z,x,S1,rs,re,e1,λρ1 v1 H1 f1 r1 q1=>?_⟩;unfold Xl at e;split at e<;>try (cases e;done)
 split at e<;>try (cases e;done)
 rename_i kvs hk;split at e<;>try (cases e;done)
 rename_i hup;cases e;obtain⟨p,ws,rfl,_,ea,q⟩:=r1.dtu q1 (Jcb hk);exact⟨p,ws,_,rfl,Jql ea q hup,Fin.newO (ρ:=ρ1) (λρ2 v2 H2 f2=>fin ρ2 v2 H2 (f1.trans f2)) r1 λp n=>⟨ws,Jai,q.fut (Jba n [p])⟩⟩
def Jsd(ha:Snd C a):∀(X:Cx) (c:Ck) (x:Expr),Gd X C c->Uj (.lsp a) c x=true->PE X x (tE X.K C (.lsp a)):=by
 intro X c x g h;cases x<;>try (exact fx9 h)
 rename_i fn es kws pos;cases fn<;>try (exact fx9 h)
 rcases es with _|⟨e0,es⟩<;>try (exact fx9 h)
 cases e0<;>try (exact fx9 h)
 rename_i fn2 es2 kws2 pos2;cases fn2<;>try (exact fx9 h)
 rcases es2 with _|⟨e0,_|⟨e1,es2⟩⟩<;>cases kws2<;>cases es<;>cases kws<;>try (exact fx9 h)
 simp only[J1p,Ah,beq_iff_eq]at h;obtain⟨⟨⟨⟨⟨⟨rfl,rfl⟩,h1⟩,h2⟩,h3⟩,h4⟩,h5⟩:=h;refine PE.imp (Jl7 g.calm (Fd (Hq (by decide:9<=64) _) g.top.un) (g.glo h1) (g.top.blt _ (Jak h3)) (g.glo h2) (g.top.blt _ (Jak h4)) (Jbv (ha.e X c _ g h5) Je9 (Jad (noStar h5))) (Jad (noStar h5))) λU H Q ⟨ρ,S,Z,d,S',rs,re,e,fin⟩=>?_;simp only[Jsy]at e;obtain⟨x,S1,e1,e⟩:=Res.bind_eq_ok e;refine⟨ρ,S,Z,x,S1,rs,re,e1,λρ1 v1 H1 f1 r1 q1=>?_⟩;unfold Xi at e;split at e<;>try (cases e;done)
 split at e<;>try (cases e;done)
 rename_i ps hp;split at e<;>try (cases e;done)
 rename_i hl;cases e;obtain⟨es,hs,hp⟩:=Nb.mp hp;obtain⟨p,xs,rfl,_,hx,t⟩:=r1.lst q1 (Jan hs);obtain⟨bs,rfl,hb⟩:=Jgj (g:=V.ref) (R:=λ(k:Rdu.PK) b=>SqT X.K H1 b ((pK k).map kV)) (λ{d b v} r e=>by
  cases Jf2 e;obtain⟨a,eb,h⟩:=Jfy g.top.np r;exact⟨a,eb,SqT.of h⟩) t hp
 exact⟨p,bs,ps,rfl,SqL.of hx,hb,hl,fin ρ1 _ H1 f1 r1 (RelD.int _)⟩
def Jmv(h:V6 S l c=some fs):S[l]? =some (.ins c fs):=by
 unfold V6 at h;split at h
 ·rename_i c' fs' e;split at h
  ·rename_i hc;cases h;rw[e,hc]
  ·cases h
 ·cases h
def RelS.ins(rs:RelS K ρ S H)(r:RelD K ρ H (.loc l) x)(h:V6 S l c=some fs):
  ∃a Ca dx ws,x=.ref a/\ρ[l]? =some a/\Bb K Ax (Ab c)=some (some (.ref Ca))/\H a=some (.ins Ca dx ws)/\Vq K ρ H fs ws:=by
 obtain⟨a,rfl,hl⟩:=r.loc_inv;obtain⟨Ca,dx,ws,n,e,q⟩:=rs.ob l a _ hl (Jmv h);exact⟨a,Ca,dx,ws,rfl,hl,n,e,q⟩
def Jev{X:Cx}(h1:W6 e0=true):∀nm,attributeBase e0 nm X.env (eval e0 X.env)=eval e0 X.env:=λnm=>by
 cases e0<;>first|rfl|exact fx9 h1
def Jsj(ha:Snd C a):∀(X:Cx) (c:Ck) (x:Expr),Gd X C c->Uj (.fld cl f a) c x=true->PE X x (tE X.K C (.fld cl f a)):=by
 intro X c x g h;cases x<;>try (exact fx9 h)
 rename_i e0 y pos;simp only[J1s,Ah,beq_iff_eq]at h;obtain⟨⟨⟨rfl,h1⟩,h2⟩,h3⟩:=h;obtain⟨Ca,n0,hc,hn⟩:=g.top.fds cl f (by simpa using h2);refine PE.imp (Jxt (ha.e X c _ g h3) (Jev h1 _)) λU H Q hq_=>?_;obtain⟨ρ,S,Z,d,S',rs,re,e,fin⟩:=hq_;simp only[Js0]at e;obtain⟨x1,S1,e1,e⟩:=Res.bind_eq_ok e;refine⟨ρ,S,Z,x1,S1,rs,re,e1,λρ1 v1 H1 f1 r1 q1=>?_⟩;split at e<;>try (exact absurd e Jaa)
 rename_i d' hd;cases e;unfold W1 at hd;split at hd<;>try (cases hd;done)
 rename_i l;split at hd<;>try (cases hd;done)
 rename_i fs hi;obtain⟨b,Cb,dx,ws,rfl,hl,n,eb,q⟩:=r1.ins q1 hi;rw[n0]at n;cases n;rcases q.look f with⟨z,_⟩|⟨d2,v2,z1,z2,z3⟩
 ·rw[z]at hd;cases hd
 ·rw[z1]at hd;cases hd;exact⟨b,_,dx,ws,v2,rfl,eb,hc,hn,z2,fin ρ1 v2 H1 f1 r1 z3⟩
def Jr6(ho:Snd C o)(hv:Snd C v):∀(X:Cx) (c:Ck) (x:Stmt),Gd X C c->Vd (.sfd cl f o v) c x=true->PS X x (tS X.K C (.sfd cl f o v)):=by
 intro X c x g h;cases x<;>try (exact fx9 h)
 rename_i tgs w pos;rcases tgs with _|⟨tg,tgs⟩<;>try (exact fx9 h)
 cases tg<;>try (exact fx9 h)
 rename_i e0 y p0;rcases tgs with _|⟨t2,tgs⟩<;>try (exact fx9 h)
 simp only[J1n,Ah,beq_iff_eq,I8]at h;obtain⟨⟨⟨⟨rfl,h1⟩,h2⟩,h3⟩,h4⟩:=h;obtain⟨Ca,n0,hc,hn⟩:=g.top.fds cl f (by simpa using h2);refine PS.imp (Jxg (ho.e X c _ g h3) (hv.e X c _ g h4) (Jdp h1)) λD U H hq_=>?_;obtain⟨ρ,S,Z,fl,S',rs,re,e,fin⟩:=hq_;simp only[Jsw]at e;obtain⟨y1,S1,e1,e⟩:=Res.bind_eq_ok e;obtain⟨x1,S2,e2,e⟩:=Res.bind_eq_ok e;refine⟨ρ,S,Z,y1,S1,rs,re,e1,λρ1 v1 H1 f1 r1 q1=>⟨ρ1,S1,Z,x1,S2,r1,re.fut f1,e2,λρ2 v2 H2 f2 r2 q2=>?_⟩⟩;split at e<;>try (exact absurd e Jaa)
 rename_i S3 hs;cases e;unfold Xy at hs;split at hs<;>try (cases hs;done)
 rename_i l;split at hs<;>try (cases hs;done)
 rename_i fs hi;split at hs<;>try (cases hs;done)
 rename_i hl;cases hs;obtain⟨b,Cb,dx,ws,rfl,hb,n,eb,q⟩:=r2.ins q2 hi;rw[n0]at n;cases n;have fm:Fut X.K ρ2 H2 ρ2 (upd H2 b (.ins Ca dx (Va (Ab f) v1 ws))):=Jen (o0:=.ins Ca dx ws) eb (λ_ z=>by cases z) (λ_ _ z=>by cases z);refine⟨b,Ca,dx,ws,rfl,eb,hc,hn,by rw[<-q.length];exact hl,?_⟩;have ft:=f1.trans (f2.trans fm);exact fin ρ2 U _ ft (r2.setO (o0:=.ins Ca dx ws) hb fm ⟨Ca,dx,_,n0,Jai,(q.put f (q1.fut f2)).fut fm⟩) (re.fut ft)
theorem Jmi{X:Cx}{ap pos:Pos}{es:List Expr}(hb:attributeBase e0 m X.env (eval e0 X.env)=eval e0 X.env)(hf:Oi (es.length+([]:List Jr).length) (D5 pos (Bl es X.env)) (Jh pos (F8 [] X.env))=true)
  (hl:(ap.endLine==pos.line)=true):eval (.Call (.Attribute e0 m ap) es [] pos) X.env=(do
   let ov<-eval e0 X.env
   Mf ap.atName
   let(f,first)<-holding [ov] (getMethod ov m (do return (<-importBound e0 X.env).getD true))
   callWith pos f first (D5 pos (Bl es X.env)) (Jh pos (F8 [] X.env))):=by
 show(do
  let ov<-attributeBase e0 m X.env (eval e0 X.env)
  Mf ap.atName
  methodCall e0 m ap pos X.env ov (es.length+([]:List Jr).length) (D5 pos (Bl es X.env)) (Jh pos (F8 [] X.env)))=_
 rw[hb];unfold methodCall calleeOf methodCallPos;rw[hf,hl];rfl
def Jla(ho:Snd C o)(ha:Snd C as):∀(X:Cx) (c:Ck) (x:Expr),Gd X C c->Uj (.mcl cl m f o as) c x=true->PE X x (tE X.K C (.mcl cl m f o as))/\PT X x (tT X.K C (.mcl cl m f o as)):=by
 intro X c x g h;cases x<;>try (exact fx9 h)
 rename_i fn es kws pos;cases fn<;>try (exact fx9 h)
 rename_i e0 y ap;cases kws<;>try (exact fx9 h)
 simp only[J1r,Ah,beq_iff_eq,decide_eq_true_eq]at h;obtain⟨⟨⟨⟨⟨⟨rfl,h1⟩,hln⟩,hfw⟩,h2⟩,h3⟩,h4⟩:=h;obtain⟨k,a,fd,ps,Ca,hr',n0,hc,hm,F,hb⟩:=g.top.mts cl m f (by simpa using h2);have hr:=hr'.mono (Kj k);have rd:∀{t:TA},(∀U H Q,tA X.K C as U H Q->t U H Q)->∀U H Q,tE X.K C (.mcl cl m f o as) U H Q->Xt Ca (Ab m) (spM X.K C f) [] E0 (tE X.K C o) t U H Q:=λ{t} ht U H Q ⟨ρ,S,Z,d,S',rs,re,e,fin⟩=>by
  simp only[Jlt]at e;obtain⟨x1,S1,e1,e⟩:=Res.bind_eq_ok e;split at e<;>try (exact absurd e Jaa)
  rename_i hrc;obtain⟨ds,S2,e2,e⟩:=Res.bind_eq_ok e;refine⟨ρ,S,Z,x1,S1,rs,re,e1,λρ1 v1 H1 f1 r1 q1=>?_⟩;unfold isRec at hrc;split at hrc<;>try (cases hrc;done)
  rename_i l;split at hrc<;>try (cases hrc;done)
  rename_i fs hi;obtain⟨b,Cb,dx,ws,rfl,hl,n,eb,q⟩:=r1.ins q1 hi;rw[n0]at n;cases n;have hno:ws.lookup (Ab m)=none:=by
   rcases q.look m with⟨_,z⟩|⟨d2,v2,z1,_,_⟩
   ·exact z
   ·rw[z1]at hrc;cases hrc
  refine⟨b,dx,ws,rfl,eb,hno,ht U H1 _ ⟨ρ1,S1,Z,ds,S2,r1,re.fut f1,e2,λρ2 vs H2 f2 r2 q2=>?_⟩⟩;show spM X.K C f (_::(vs++[])) H2 Q E0;rw[Gg];exact⟨ρ2,S2,.loc _::ds,d,S',r2,RelDs.cons (q1.fut f2) q2,e,λρ3 v3 H3 f3 r3 q3=>fin ρ3 v3 H3 (f1.trans (f2.trans f3)) r3 q3⟩
 have hform:Oi (es.length+([]:List Jr).length) (D5 pos (Bl es X.env)) (Jh pos (F8 [] X.env))=true:=by
  unfold Oi;have hall:(D5 pos (Bl es X.env)).all (λx=> !x.1)=true:=Jfm _ _ (U5 (env:=X.env) h4);rw[show(D5 pos (Bl es X.env)).all (!·.1)=true from hall];simp only[K1,Ah,decide_eq_true_eq];exact⟨rfl,by show es.length+0+0<30;lia⟩
 have hpl:=Jmi (X:=X) (e0:=e0) (m:=Ab m) (ap:=ap) (pos:=pos) (es:=es) (Jev h1 _) hform (by simpa using hln);have pe:PE X (.Call (.Attribute e0 (Ab m) ap) es [] pos) (tE X.K C (.mcl cl m f o as)):=by
  cases es with
  |nil=>
   refine PE.imp (Jov (ho.e X c _ g h3) hc hm F hr hb .nil Jmb hpl) (rd λU H Q ⟨ρ,S,Z,ds,S',rs,re,e,fin⟩=>?_);cases as<;>try (exact fx9 h4)
   simp only[Jd7]at e;cases e;exact fin ρ [] H Fut.refl rs RelDs.nil
  |cons e es=>
   cases as<;>try (exact fx9 h4)
   have h4':=h4;simp only[Wl,Ah]at h4;refine PE.imp (Jtt (ho.e X c _ g h3) hc hm F hr hb .nil Jmb (ha.a X c _ g h4') (Jad (noStar h4.1)) (by rw[Jax];exact U5 h4.2) hpl) (rd λU H Q z=>z)
 refine⟨pe,Jka pe (λ_=>rfl) λZ S b S' e=>?_⟩;simp only[Jwa]at e;obtain⟨x1,S1,e1,e⟩:=Res.bind_eq_ok e;split at e<;>try (exact absurd e Jaa)
 rename_i hrc;obtain⟨ds,S2,e2,e⟩:=Res.bind_eq_ok e;obtain⟨d,S3,e3,e⟩:=Res.bind_eq_ok e;split at e
 ·rename_i k hk;cases e;exact⟨d,by simp only[Jlt];rw[e1,Res.bind_ok,if_pos hrc,e2,Res.bind_ok,e3],hk⟩
 ·cases e
def Jsa:∀(X:Cx) (c:Ck) (x:Expr),Gd X C c->Uj (.new cl f) c x=true->PE X x (tE X.K C (.new cl f)):=by
 intro X c x g h;cases x<;>try (exact fx9 h)
 rename_i fn es kws pos;cases fn<;>try (exact fx9 h)
 rename_i y p;cases es<;>cases kws<;>try (exact fx9 h)
 simp only[J1q,Ah,beq_iff_eq]at h;obtain⟨⟨⟨rfl,h1⟩,h2⟩,h3⟩:=h;obtain⟨k,a,fd,ps,Ca,hr,n0,hm,mk,F,hb⟩:=g.top.nws cl f (by simpa using h3);refine PE.imp (Jow mk F hr (g.glo h1) hm hb .nil Jmb (Xn h2)) λU H Q hq_=>?_;obtain⟨ρ,S,Z,d,S',rs,re,e,fin⟩:=hq_;simp only[Jsz]at e;obtain⟨r,S1,e1,e⟩:=Res.bind_eq_ok e;split at e<;>try (exact absurd e Jaa)
 cases e;intro x dx hx hdx hne;have f1:Fut X.K ρ H ρ (upd H dx (.own x)):=Ja1 hdx;have hx':(upd H dx (.own x)) x=none:=by rw[Jae (D7 hne)];exact hx
 have f2:Fut X.K ρ (upd H dx (.own x)) (ρ++[x]) (upd (upd H dx (.own x)) x (.ins Ca dx [])):=Jba hx' [x];have r2:RelS X.K (ρ++[x]) (S++[.ins cl []]) (upd (upd H dx (.own x)) x (.ins Ca dx [])):=(rs.new hdx).allocO hx' ⟨Ca,dx,[],n0,Jai,rfl⟩;have hl:(ρ++[x])[S.length]? =some x:=by rw[<-rs.len];simp
 refine⟨ρ++[x],S++[.ins cl []],[.loc S.length],.non,S',r2,RelDs.cons (by simp only[RelD];exact⟨x,rfl,hl⟩) RelDs.nil,e1,λρ3 v3 H3 f3 r3 q3=>⟨q3.non_inv,?_⟩⟩;refine fin ρ3 _ H3 (f1.trans (f2.trans f3)) r3 ?_;simp only[RelD];exact⟨x,rfl,f3.get hl⟩
def Jr7:∀(X:Cx) (c:Ck) (x:Stmt),Gd X C c->Vd .rse c x=true->PS X x (tS X.K C .rse):=by
 intro X c x g h pins s U H D I hq_;obtain⟨ρ,S,Z,fl,S',rs,re,e,fin⟩:=hq_;exact absurd e Jaa
end
noncomputable def kd:M->Nat
 |.nul=>0|.cns _ _=>0
 |.rng _=>2|.enm _=>2|.zp _ _=>2
 |.tvar _=>3|.ttup _=>3|.tsub _ _=>3
 |.asg _ _=>4|.aug _ _=>4|.ifs _ _ _=>4|.forr _ _ _=>4|.ret _=>4|.exp _=>4|.rse=>4|.sfd _ _ _ _=>4
 |_=>1
def Wm(h:Uj m c x=true):kd m=1:=by
 cases m<;>first|rfl|(exact fx9 h)
def V8(h:Ux m c x=true):kd m=0:=by
 cases m<;>first|rfl|(exact fx9 h)
def Yl(h:Xp m c x=true):kd m=0:=by
 cases m<;>first|rfl|(exact fx9 h)
def Ym(h:Yp m c x=true):kd m=0:=by
 cases m<;>first|rfl|(exact fx9 h)
def Zb(h:V0 m c x=true):kd m=0\/kd m=2:=by
 cases m<;>first|exact .inl rfl|exact .inr rfl|(exact fx9 h)|(cases x<;>exact fx9 h)
def X4(h:Vj m c x=true):kd m=3:=by
 cases m<;>first|rfl|(exact fx9 h)|(cases x<;>exact fx9 h)
def Jpj(h:Vp m c x=true):kd m=0:=by
 cases m<;>first|rfl|(exact fx9 h)
def X3(h:Vd m c x=true):kd m=4:=by
 cases m<;>first|rfl|(exact fx9 h)|(cases x<;>exact fx9 h)
def Yn(h:Vk m c x=true):kd m=0:=by
 cases m<;>first|rfl|(exact fx9 h)
section
variable {C:Pr}
def Snd.ofE(hk:kd m=1)(he:∀(X:Cx) (c:Ck) (x:Expr),Gd X C c->Uj m c x=true->PE X x (tE X.K C m))(ht:∀(X:Cx) (c:Ck) (x:Expr),Gd X C c->Uj m c x=true->PT X x (tT X.K C m)):Snd C m where
 e:=he
 t:=ht
 a:=λX c x g h=>absurd ((V8 h).symm.trans hk) (by decide)
 bv:=λX c w x p g h=>absurd ((V8 h).symm.trans hk) (by decide)
 bt:=λX c w x p g h=>absurd ((V8 h).symm.trans hk) (by decide)
 o:=λX c x g h=>absurd ((Yl h).symm.trans hk) (by decide)
 cd:=λX c x g h=>absurd ((Ym h).symm.trans hk) (by decide)
 i:=λX c tg x g h _=>(Zb h).elim (λz=>absurd (z.symm.trans hk) (by decide)) (λz=>absurd (z.symm.trans hk) (by decide))
 g:=λX c x g h=>absurd ((X4 h).symm.trans hk) (by decide)
 gs:=λX c x g h=>absurd ((Jpj h).symm.trans hk) (by decide)
 s:=λX c x g h=>absurd ((X3 h).symm.trans hk) (by decide)
 b:=λX c x g h=>absurd ((Yn h).symm.trans hk) (by decide)
def Snd.ofI(hk:kd m=2)(hi:∀(X:Cx) (c:Ck) (tg x:Expr),Gd X C c->V0 m c x=true->itT m tg=true->PI X tg x (tI X.K C m)/\∀v,Dm x X.env v=pure v):Snd C m where
 e:=λX c x g h=>absurd ((Wm h).symm.trans hk) (by decide)
 t:=λX c x g h=>absurd ((Wm h).symm.trans hk) (by decide)
 a:=λX c x g h=>absurd ((V8 h).symm.trans hk) (by decide)
 bv:=λX c w x p g h=>absurd ((V8 h).symm.trans hk) (by decide)
 bt:=λX c w x p g h=>absurd ((V8 h).symm.trans hk) (by decide)
 o:=λX c x g h=>absurd ((Yl h).symm.trans hk) (by decide)
 cd:=λX c x g h=>absurd ((Ym h).symm.trans hk) (by decide)
 i:=hi
 g:=λX c x g h=>absurd ((X4 h).symm.trans hk) (by decide)
 gs:=λX c x g h=>absurd ((Jpj h).symm.trans hk) (by decide)
 s:=λX c x g h=>absurd ((X3 h).symm.trans hk) (by decide)
 b:=λX c x g h=>absurd ((Yn h).symm.trans hk) (by decide)
def Snd.ofG(hk:kd m=3)(hg:∀(X:Cx) (c:Ck) (x:Expr),Gd X C c->Vj m c x=true->PG X x (tG X.K C m)):Snd C m where
 e:=λX c x g h=>absurd ((Wm h).symm.trans hk) (by decide)
 t:=λX c x g h=>absurd ((Wm h).symm.trans hk) (by decide)
 a:=λX c x g h=>absurd ((V8 h).symm.trans hk) (by decide)
 bv:=λX c w x p g h=>absurd ((V8 h).symm.trans hk) (by decide)
 bt:=λX c w x p g h=>absurd ((V8 h).symm.trans hk) (by decide)
 o:=λX c x g h=>absurd ((Yl h).symm.trans hk) (by decide)
 cd:=λX c x g h=>absurd ((Ym h).symm.trans hk) (by decide)
 i:=λX c tg x g h _=>(Zb h).elim (λz=>absurd (z.symm.trans hk) (by decide)) (λz=>absurd (z.symm.trans hk) (by decide))
 g:=hg
 gs:=λX c x g h=>absurd ((Jpj h).symm.trans hk) (by decide)
 s:=λX c x g h=>absurd ((X3 h).symm.trans hk) (by decide)
 b:=λX c x g h=>absurd ((Yn h).symm.trans hk) (by decide)
def Snd.ofS(hk:kd m=4)(hs:∀(X:Cx) (c:Ck) (x:Stmt),Gd X C c->Vd m c x=true->PS X x (tS X.K C m)):Snd C m where
 e:=λX c x g h=>absurd ((Wm h).symm.trans hk) (by decide)
 t:=λX c x g h=>absurd ((Wm h).symm.trans hk) (by decide)
 a:=λX c x g h=>absurd ((V8 h).symm.trans hk) (by decide)
 bv:=λX c w x p g h=>absurd ((V8 h).symm.trans hk) (by decide)
 bt:=λX c w x p g h=>absurd ((V8 h).symm.trans hk) (by decide)
 o:=λX c x g h=>absurd ((Yl h).symm.trans hk) (by decide)
 cd:=λX c x g h=>absurd ((Ym h).symm.trans hk) (by decide)
 i:=λX c tg x g h _=>(Zb h).elim (λz=>absurd (z.symm.trans hk) (by decide)) (λz=>absurd (z.symm.trans hk) (by decide))
 g:=λX c x g h=>absurd ((X4 h).symm.trans hk) (by decide)
 gs:=λX c x g h=>absurd ((Jpj h).symm.trans hk) (by decide)
 s:=hs
 b:=λX c x g h=>absurd ((Yn h).symm.trans hk) (by decide)
def Jr9:Snd C .nul where
 e:=λX c x g h=>absurd (Wm h) (by decide)
 t:=λX c x g h=>absurd (Wm h) (by decide)
 a:=λX c x g h=>by
  cases x with
  |cons e es=>exact fx9 h
  |nil=>
   refine PA.imp Je9 λU H Q hq_=>?_;obtain⟨ρ,S,Z,ds,S',rs,re,e,fin⟩:=hq_;simp only[Jd7]at e;cases e;exact fin ρ [] H Fut.refl rs RelDs.nil
 bv:=λX c w x p g h=>Jih λU H Q ⟨ρ,S,Z,ds,S',rs,re,e,fin⟩=>absurd e Jaa
 bt:=λX c w x p g h=>λwh pins s U H Q I ⟨ρ,S,Z,ds,S',rs,re,e,fin⟩=>absurd e Jaa
 o:=λX c x g h=>by
  cases x with
  |some e=>exact fx9 h
  |none=>
   refine PO.imp Jtn λU H Q hq_=>?_;obtain⟨ρ,S,Z,ds,S',rs,re,e,fin⟩:=hq_;simp only[Jwo]at e;cases e;exact fin ρ H Fut.refl rs
 cd:=λX c x g h=>by
  cases x with
  |cons e es=>exact fx9 h
  |nil=>
   refine PTs.imp Jtf λU H Q hq_=>?_;obtain⟨ρ,S,Z,ds,S',rs,re,e,fin⟩:=hq_;simp only[Jw0]at e;cases e;exact fin ρ H Fut.refl rs
 i:=λX c tg x g h _=>by cases h
 g:=λX c x g h=>absurd (X4 h) (by decide)
 gs:=Jj7
 s:=λX c x g h=>absurd (X3 h) (by decide)
 b:=Jll
def Jsm(ha:Snd C a)(hb:Snd C b):Snd C (.cns a b)where
 e:=λX c x g h=>absurd (show 0=1 from Wm h) (by decide)
 t:=λX c x g h=>absurd (show 0=1 from Wm h) (by decide)
 a:=λX c x g h=>by
  cases x with
  |nil=>exact fx9 h
  |cons e es=>
   simp only[Wl,Ah]at h;refine PA.imp (Jbv (ha.e X c e g h.1) (hb.a X c es g h.2) (Jad (noStar h.1))) λU H Q hq_=>?_;obtain⟨ρ,S,Z,ds,S',rs,re,e,fin⟩:=hq_;simp only[Jqy]at e;obtain⟨x1,S1,e1,e⟩:=Res.bind_eq_ok e;obtain⟨xs,S2,e2,e⟩:=Res.bind_eq_ok e;cases e;refine⟨ρ,S,Z,x1,S1,rs,re,e1,λρ1 v1 H1 f1 r1 q1=>⟨ρ1,S1,Z,xs,S',r1,re.fut f1,e2,λρ2 vs H2 f2 r2 q2=>?_⟩⟩;exact fin ρ2 _ H2 (f1.trans f2) r2 (RelDs.cons (q1.fut f2) q2)
 bv:=Jv0 ha hb
 bt:=Jv1 ha hb
 o:=λX c x g h=>by
  cases x with
  |none=>cases b<;>exact fx9 h
  |some e=>
   cases b<;>try (exact fx9 h)
   refine PO.imp (Jtm (ha.e X c e g h)) λU H Q hq_=>?_;obtain⟨ρ,S,Z,o,S',rs,re,e,fin⟩:=hq_;simp only[Jwn]at e;obtain⟨x1,S1,e1,e⟩:=Res.bind_eq_ok e;refine⟨ρ,S,Z,x1,S1,rs,re,e1,λρ1 v1 H1 f1 r1 q1=>?_⟩;cases x1<;>simp only at e<;>try (cases e;done)
   cases e;exact⟨_,q1.int_inv,fin ρ1 H1 f1 r1⟩
 cd:=λX c x g h=>by
  rcases x with _|⟨e,_|⟨e2,es⟩⟩<;>cases b<;>try (exact fx9 h)
  refine PTs.imp (Jte (ha.t X c e g h)) λU H Q hq_=>?_;obtain⟨ρ,S,Z,o,S',rs,re,e,fin⟩:=hq_;simp only[Jwz]at e;exact⟨ρ,S,Z,o,S',rs,re,e,fin⟩
 i:=λX c tg x g h _=>by
  cases b<;>(try (exact fx9 h))<;>try simp only[Wfz]at h
  exact⟨Jle ha X c tg x g h,Wb (Wdq h)⟩
 g:=λX c x g h=>absurd (show 0=3 from X4 h) (by decide)
 gs:=Jj8 ha hb
 s:=λX c x g h=>absurd (show 0=4 from X3 h) (by decide)
 b:=Jlm ha hb
def J1l{C:Pr}{m:M}(h:∀N k keep tg it cd el,m=.comp N k keep tg it cd el->Snd C tg/\Snd C it/\Snd C cd/\Snd C el):∀N k keep tg it cd el,m=.comp N k keep tg it cd el->Snd C tg/\Snd C it/\Snd C cd/\Snd C el:=λN k keep tg it cd el e=>by
 have z:=h N k keep tg it cd el e;exact⟨z.1,z.2.1,z.2.2.1,z.2.2.2⟩
theorem snd(C:Pr):∀m:M,Snd C m/\∀N k keep tg it cd el,m=.comp N k keep tg it cd el->Snd C tg/\Snd C it/\Snd C cd/\Snd C el:=by
 intro m;have noT:∀{m:M},(∀Z S,evT C m Z S=.bad)->∀(X:Cx) (c:Ck) (x:Expr),Gd X C c->Uj m c x=true->PT X x (tT X.K C m):=λh X c x _ _=>J0n (J0b h)
 induction m with
 |nul=>exact⟨Jr9,λ_ _ _ _ _ _ _ h=>(by cases h)⟩
 |cns a b ha hb=>exact⟨Jsm ha.1 hb.1,λ_ _ _ _ _ _ _ h=>(by cases h)⟩
 |cst d=>exact⟨.ofE rfl Jsl (noT λZ S=>rfl),λ_ _ _ _ _ _ _ h=>(by cases h)⟩
 |var i=>exact⟨.ofE rfl (λX c x g h=>(Jk8 X c x g h).1) λX c x g h=>(Jk8 X c x g h).2,λ_ _ _ _ _ _ _ h=>(by cases h)⟩
 |glb x=>exact⟨.ofE rfl Jsh (noT λZ S=>rfl),λ_ _ _ _ _ _ _ h=>(by cases h)⟩
 |bin o a b ha hb=>exact⟨.ofE rfl (Jso ha.1 hb.1) (noT λZ S=>rfl),λ_ _ _ _ _ _ _ h=>(by cases h)⟩
 |neg a ha=>exact⟨.ofE rfl (Jsb ha.1) (noT λZ S=>rfl),λ_ _ _ _ _ _ _ h=>(by cases h)⟩
 |bit a ha=>exact⟨.ofE rfl (Jsn ha.1) (noT λZ S=>rfl),λ_ _ _ _ _ _ _ h=>(by cases h)⟩
 |nott a ha=>exact⟨.ofE rfl (λX c x g h=>(Jk9 ha.1 X c x g h).1) λX c x g h=>(Jk9 ha.1 X c x g h).2,λ_ _ _ _ _ _ _ h=>(by cases h)⟩
 |bo w as ha=>exact⟨.ofE rfl (λX c x g h=>(Jqr ha.1 X c x g h).1) λX c x g h=>(Jqr ha.1 X c x g h).2,λ_ _ _ _ _ _ _ h=>(by cases h)⟩
 |cmp o a b ha hb=>exact⟨.ofE rfl (λX c x g h=>(Jlk ha.1 hb.1 X c x g h).1) λX c x g h=>(Jlk ha.1 hb.1 X c x g h).2,λ_ _ _ _ _ _ _ h=>(by cases h)⟩
 |cmp2 o p a b d ha hb hd=>exact⟨.ofE rfl (λX c x g h=>(Ji4 ha.1 hb.1 hd.1 X c x g h).1) λX c x g h=>(Ji4 ha.1 hb.1 hd.1 X c x g h).2,λ_ _ _ _ _ _ _ h=>(by cases h)⟩
 |ife t a b ht ha hb=>exact⟨.ofE rfl (Jsf ht.1 ha.1 hb.1) (noT λZ S=>rfl),λ_ _ _ _ _ _ _ h=>(by cases h)⟩
 |tup as ha=>exact⟨.ofE rfl (Jr4 ha.1) (noT λZ S=>rfl),λ_ _ _ _ _ _ _ h=>(by cases h)⟩
 |lst as ha=>exact⟨.ofE rfl (Jsc ha.1) (noT λZ S=>rfl),λ_ _ _ _ _ _ _ h=>(by cases h)⟩
 |idx a b ha hb=>exact⟨.ofE rfl (λX c x g h=>(Jlc ha.1 hb.1 X c x g h).1) λX c x g h=>(Jlc ha.1 hb.1 X c x g h).2,λ_ _ _ _ _ _ _ h=>(by cases h)⟩
 |sli a l u ha hl hu=>exact⟨.ofE rfl (Jr5 ha.1 hl.1 hu.1) (noT λZ S=>rfl),λ_ _ _ _ _ _ _ h=>(by cases h)⟩
 |call f as ha=>exact⟨.ofE rfl (λX c x g h=>(Ji5 ha.1 X c x g h).1) λX c x g h=>(Ji5 ha.1 X c x g h).2,λ_ _ _ _ _ _ _ h=>(by cases h)⟩
 |prim p as ha=>exact⟨.ofE rfl (λX c x g h=>(Ji3 ha.1 X c x g h).1) λX c x g h=>(Ji3 ha.1 X c x g h).2,λ_ _ _ _ _ _ _ h=>(by cases h)⟩
 |isi a t ha=>exact⟨.ofE rfl (λX c x g h=>(Jlb ha.1 X c x g h).1) λX c x g h=>(Jlb ha.1 X c x g h).2,λ_ _ _ _ _ _ _ h=>(by cases h)⟩
 |meth p o as ho ha=>exact⟨.ofE rfl (Jn4 ho.1 ha.1) (noT λZ S=>rfl),λ_ _ _ _ _ _ _ h=>(by cases h)⟩
 |comp N k keep tg it cd el hg hi hc he=>exact⟨.ofE rfl (Jn6 hg.1 hi.1 hc.1 he.1) (noT λZ S=>rfl),λ_ _ _ _ _ _ _ h=>(by cases h;exact⟨hg.1,hi.1,hc.1,he.1⟩)⟩
 |rng a ha=>exact⟨.ofI rfl λX c tg x g h _=>⟨Jlf ha.1 X c tg x g h,Wb λa b p z=>by subst z;cases h⟩,λ_ _ _ _ _ _ _ h=>(by cases h)⟩
 |enm a ha=>exact⟨.ofI rfl λX c tg x g h ht=>⟨Jlg ha.1 X c tg x g h ht,Wb λa b p z=>by subst z;cases h⟩,λ_ _ _ _ _ _ _ h=>(by cases h)⟩
 |zp a b ha hb=>exact⟨.ofI rfl λX c tg x g h ht=>⟨Jld ha.1 hb.1 X c tg x g h ht,Wb λa b p z=>by subst z;cases h⟩,λ_ _ _ _ _ _ _ h=>(by cases h)⟩
 |dnil k=>exact⟨.ofE rfl Jn5 (noT λZ S=>rfl),λ_ _ _ _ _ _ _ h=>(by cases h)⟩
 |hld a ha=>exact⟨.ofE rfl (Jsg ha.1) (noT λZ S=>rfl),λ_ _ _ _ _ _ _ h=>(by cases h)⟩
 |lsp a ha=>exact⟨.ofE rfl (Jsd ha.1) (noT λZ S=>rfl),λ_ _ _ _ _ _ _ h=>(by cases h)⟩
 |aug i e he=>exact⟨.ofS rfl (Jsp he.1),λ_ _ _ _ _ _ _ h=>(by cases h)⟩
 |fld c f a ha=>exact⟨.ofE rfl (Jsj ha.1) (noT λZ S=>rfl),λ_ _ _ _ _ _ _ h=>(by cases h)⟩
 |mcl c m f o as ho ha=>exact⟨.ofE rfl (λX c x g h=>(Jla ho.1 ha.1 X c x g h).1) λX c x g h=>(Jla ho.1 ha.1 X c x g h).2,λ_ _ _ _ _ _ _ h=>(by cases h)⟩
 |new c f=>exact⟨.ofE rfl Jsa (noT λZ S=>rfl),λ_ _ _ _ _ _ _ h=>(by cases h)⟩
 |rse=>exact⟨.ofS rfl Jr7,λ_ _ _ _ _ _ _ h=>(by cases h)⟩
 |sfd c f o v ho hv=>exact⟨.ofS rfl (Jr6 ho.1 hv.1),λ_ _ _ _ _ _ _ h=>(by cases h)⟩
 |tvar i=>exact⟨.ofG rfl Jlh,λ_ _ _ _ _ _ _ h=>(by cases h)⟩
 |ttup ts ha=>exact⟨.ofG rfl (Jli ha.1),λ_ _ _ _ _ _ _ h=>(by cases h)⟩
 |tsub a b ha hb=>exact⟨.ofG rfl (Jlj ha.1 hb.1),λ_ _ _ _ _ _ _ h=>(by cases h)⟩
 |asg t e ht he=>exact⟨.ofS rfl (Jsq ht.1 he.1 (J1l he.2)),λ_ _ _ _ _ _ _ h=>(by cases h)⟩
 |ifs t a b ht ha hb=>exact⟨.ofS rfl (Jse ht.1 ha.1 hb.1),λ_ _ _ _ _ _ _ h=>(by cases h)⟩
 |forr t i b ht hi hb=>exact⟨.ofS rfl (Jsi ht.1 hi.1 hb.1),λ_ _ _ _ _ _ _ h=>(by cases h)⟩
 |ret a ha=>exact⟨.ofS rfl (Jr8 ha.1),λ_ _ _ _ _ _ _ h=>(by cases h)⟩
 |exp a ha=>exact⟨.ofS rfl (Jsk ha.1),λ_ _ _ _ _ _ _ h=>(by cases h)⟩
end
noncomputable def Cn(T:Tb)(G:String->Option D)(W n:Nat):Pr:=⟨callN T G W n,G,W⟩
structure FnB(K:Af)(T:Tb)(B F:List String)(O:Ow)(f:String)(a:Addr)(fd:Hv):Prop where
 ex:∃(FN:Fn) (st:Stmt) (nm ql:Str),T f=some FN/\Fun K nm ql st a fd/\Vg (FN.N.map Ab) (FN.ps.map Ab) (defScope st)/\
  Vk FN.body ⟨FN.N.map Ab,(defScope st).names,true,B,F,O⟩ (Uk st)=true/\∀us:List Value,us.length=(FN.ps.map Ab).length->Rf fd ⟨us,[]⟩=pure ((FN.ps.map Ab).zip us)
structure Txt(K:Af)(mg:Str->Option Value)(T:Tb)(G:String->Option D)(B F:List String)(O:Ow):Prop where
 fns:∀f∈F,∃a fd,FnB K T B F O f a fd/\mg (Ab f)=some (.ref a)
 np:npB K=true
 blt:∀x∈B,mg (Ab x)=none
 gl:∀x d,G x=some d->∃v u,mg (Ab x)=some u/\RelV v u/\(∀ρ H,RelD K ρ H d v)/\∀ds,d=.tup ds->∃a o,v=.ref a/\K.lookup a=some o/\o.cls=.type "tuple"/\o.dict=none
 mts:∀c m f,(c,m,f)∈O.mt->∃a fd Ca,FnB K T B F O f a fd/\Bb K Ax (Ab c)=some (some (.ref Ca))/\L2.Cls K Ca/\L2.Meth K Ca (Ab m) a
 fds:∀c f,(c,f)∈O.fd->∃Ca,Bb K Ax (Ab c)=some (some (.ref Ca))/\L2.Cls K Ca/\L2.Vc K Ca (Ab f)
 nws:∀c f,(c,f)∈O.nw->∃a fd Ca,FnB K T B F O f a fd/\Bb K Ax (Ab c)=some (some (.ref Ca))/\mg (Ab c)=some (.ref Ca)/\L2.Mk K Ca a
section
variable {P:Program} {w:World} {K:Af} {mg:Str->Option Value} {base:Heap} {T:Tb} {G:String->Option D} {B F:List String} {O:Ow}
def RelE.start{ds:List D}{N:List Str}(r:RelDs K ρ H ds vs)(hk:k=N.length-ds.length):RelE K ρ H (ds.map some++E1 k none) (L2.start N vs):=by
 unfold L2.start;rw[<-r.length,<-hk];refine⟨by simp[r.length],λi d h=>?_⟩
 by_cases hi:i<ds.length
 ·rw[A0 (by simpa using hi),Aq]at h;rw[A0 (by rw[Ai,<-r.length];exact hi),Aq];cases e:ds[i]? with
  |none=>rw[e]at h;cases h
  |some d'=>
   rw[e]at h;have h:d'=d:=by simpa using h
   subst h;obtain⟨v,hv,q⟩:=r.get e;exact⟨v,by rw[hv];rfl,q⟩
 ·rw[A1 (by simpa using hi),E3]at h;split at h<;>cases h
theorem J1d(t:Txt K mg T G B F O)(W:Nat):∀(n:Nat) (f:String) (a:Addr) (fd:Hv),FnB K T B F O f a fd->∀FN,T f=some FN->Vv P w K mg base CX0 (2*n) a fd (FN.ps.map Ab) (spM K (Cn T G W n) f):=by
 intro n
 induction n with
 |zero=>
  intro f a fd hf FN hT;exact⟨λvs H Q E ⟨ρ,S,ds,d,S',_,_,e,_⟩=>(by simp only[Cn,callN]at e;cases e),λA outer s H args us vs Q E _ _ _ _ ⟨ρ,S,ds,d,S',_,_,e,_⟩=>(by simp only[Cn,callN]at e;cases e)⟩
 |succ n ih=>
  intro f a fd hf FN hT;obtain⟨FN',st,nm,ql,hT',FU,sc,ck,bd⟩:=hf.ex;rw[hT]at hT';cases hT';show Vv P w K mg base CX0 (2*n+1+1) a fd _ _;refine FU.ok sc (λvs H Q E ⟨ρ,S,ds,d,S',_,rd,e,_⟩=>?_) (λcdv A outer s H vs Q E hr ⟨ρ,S,ds,d,S',rs,rd,e,fin⟩=>?_)
  ·simp only[Cn,callN]at e;rw[hT]at e;simp only at e;split at e
   ·rename_i hl;rw[<-rd.length,hl,Ai]
   ·cases e
  ·refine⟨_,((snd (Cn T G W n) FN.body).1.b _ ⟨FN.N.map Ab,(defScope st).names,true,B,F,O⟩ _ ⟨rfl,sc.nd,rfl,sc.kind,λ_=>rfl,rfl,rfl,?_⟩ ck),?_⟩
   ·refine⟨λg hg=>?_,t.blt,t.gl,Fd (Aj _) hr.units,t.np,λc m g hg=>?_,t.fds,λc g hg=>?_⟩
    ·obtain⟨b,fd2,hb,hmg⟩:=t.fns g hg;obtain⟨FN2,st2,nm2,ql2,hT2,FU2,sc2,ck2,bd2⟩:=id hb.ex;exact⟨2*n,b,fd2,_,hr.mono (Kj _),hmg,ih g b fd2 hb FN2 hT2,.all bd2,FU2.kp⟩
    ·obtain⟨b,fd2,Ca,hb,h1,h2,h3⟩:=t.mts c m g hg;obtain⟨FN2,st2,nm2,ql2,hT2,FU2,sc2,ck2,bd2⟩:=id hb.ex;exact⟨2*n,b,fd2,_,Ca,hr,h1,h2,h3,ih g b fd2 hb FN2 hT2,.all bd2⟩
    ·obtain⟨b,fd2,Ca,hb,h1,h2,h3⟩:=t.nws c g hg;obtain⟨FN2,st2,nm2,ql2,hT2,FU2,sc2,ck2,bd2⟩:=id hb.ex;exact⟨2*n,b,fd2,_,Ca,hr,h1,h2,h3,ih g b fd2 hb FN2 hT2,.all bd2⟩
   ·simp only[Cn,callN]at e;rw[hT]at e;simp only at e;split at e
    ·rename_i hl;obtain⟨fl,S1,e1,e⟩:=Res.bind_eq_ok e;refine⟨ρ,S,_,fl,S1,rs,RelE.start rd (by rw[Ai]),e1,?_⟩;cases fl with
     |nx Z=>simp only at e;cases e;exact λρ1 σ1 H1 f1 r1 q1=>fin ρ1 _ H1 f1 r1 RelD.non
     |rt d=>simp only at e;cases e;exact fin
    ·cases e
def Jyb{G:String->Option D}(h:∀ns:List Int,ns.length<=63->∃S',callN T G W n "law" [.kl (ns.map D.int)] []=.ok (.bl true) S')(H:Hp)(a:Addr)(ns:List Int)(hl:ns.length<=63)(hO:Yt H)(hS:SqL K H a (ns.map V.int))(E:XK):
  spM K (Cn T G W n) "law" [.ref a] H (λv _=>v=.bl true) E:=by
 obtain⟨S',e⟩:=h ns hl;have allI:∀(ns:List Int),RelDs K [] H (ns.map D.int) (ns.map V.int):=by
  intro ns
  induction ns with
  |nil=>exact RelDs.nil
  |cons i r ih=>exact RelDs.cons (RelD.int i) ih
 have sf:SqF K H a (ns.map V.int):=by
  rcases hS with(h|h)|h
  ·rcases hO a with z|⟨o,xs,z⟩
   ·rw[h]at z;cases z
   ·rw[h]at z;cases z
  ·exact .inl h
  ·exact .inr h
 refine⟨[],[],[.kl (ns.map D.int)],.bl true,S',⟨rfl,Ib,λl b o h=>by simp at h⟩,RelDs.cons ?_ RelDs.nil,e,λρ' v H' _ _ q=>q.bl_inv⟩;simp only[RelD];exact⟨a,_,rfl,sf,allI ns⟩
end
def walk{l:I9}{XP:(Str->Option Value)->Heap->Prop}{YP:World->Heap->Prop}{d:To}{K:El->Af}{G:String->Option D}(hn:l.most=some 63)(hdf:d.params.defaults=[])
  (hY:∀(w:World) (h:Heap),YP w h->(K w.params).In h)(hr:Uy (2*n) Le)(hd:d.name=Ab "law")(hlaw:"law"∈F)(hT:∃FN,T "law"=some FN/\FN.ps=[x])
  (X:∀(w:World) (mg:Str->Option Value) (h:Heap),(K w.params).In h->h.Ns Ax mg->Txt (K w.params) mg T G B F O)
  (run:∀ns:List Int,ns.length<=63->∃S',callN T G W n "law" [.kl (ns.map D.int)] []=.ok (.bl true) S'):
  Ly q loose XP YP l.row.toRowW d [] (λf vs=>Ml f vs):=by
 refine L2.Jr1 (n:=63) (k:=2*n) (x:=Ab x) (CX:=λ_=>CX0) (sp:=λw=>spM (K w.params) (Cn T G W n) "law") hn (by decide) hdf hr hY (λw mg fa h KX hns hmg=>?_) (λw H a ns hl hO hS=>Jyb run H a ns hl hO hS _) λ_ _ _ _ _ z=>z;have t:=X w mg h KX hns;obtain⟨a,fd,hf,hlm⟩:=t.fns "law" hlaw;obtain⟨FN,hT,hps⟩:=hT;obtain⟨FN',st,nm,ql,hT',FU,sc,ck,bd⟩:=id hf.ex;rw[hT]at hT';cases hT';rw[hd,hlm]at hmg;cases hmg;refine⟨fd,λs u=>?_,λbase kb nb=>?_⟩
 ·have:=bd [u] (by rw[hps];rfl);rw[hps]at this;exact .of_eq this
 ·have:=J1d (P:=l.prog) (w:=w) (base:=base) t W n "law" fa fd hf FN hT;rw[hps]at this;exact this
def holds{l:I9}{d:To}{K:El->Af}{as:List Addr}(ok:l.wellSaid=true)(e:∀P,as=(K P).map (·.1))
  (left:PySem.W.LeftO l.prog q loose (λs=>PySem.W.xlAt q [] s&&PySem.W.recOk [] s) (λs=>as.map s.heap.get?) (λw=>(K w.params).map λp=>some p.2) N)
  (hdef:PySem.W.defOf q l.name=some (d,[]))(hp:l.prog.theDef l.name=some (d.params,d.body,d.scope))(hk:PySem.W.kwWritten? d.params.kwonlyargs d.params.kw_defaults=some [])
  (ok2:(PySem.W.chainsOk q&&PySem.W.opensWell l.prog&&(PySem.W.frees l.row.toRowW&&l.row.within.isEmpty))=true)(hb:l.prog.bare)(hw:l.row.toRowW.promised)
  (hc:Ly q loose (Te q []) (Ry K) l.row.toRowW d [] (λf vs=>Ml f vs)):l.Holds:=
 PySem.W.holds_law ok λsaid=>PySem.W.holds_open (r:=l.row) (XP:=Te q []) (YP:=Ry K) left (PySem.W.InK.of e) PySem.W.InK.keeps (λs z=>PySem.W.xl_of s (Pf.mp z).1) PySem.W.XL.keeps hdef hp hk
  (λs z=>PySem.W.recFacts_of (Pf.mp z).2) (by cases h:l.writes<;>simp[Tf]) said ok2 hb hw hc
theorem Y9{α:Type}{P:List α->Prop}(h:∀a,P [a]):∀us:List α,us.length=1->P us
 |[a],_=>h a
theorem Y8{α:Type}{P:List α->Prop}(h:∀a b,P [a,b]):∀us:List α,us.length=2->P us
 |[a,b],_=>h a b
theorem Y7{α:Type}{P:List α->Prop}(h:∀a b c,P [a,b,c]):∀us:List α,us.length=3->P us
 |[a,b,c],_=>h a b c
theorem Y6{α:Type}{P:List α->Prop}(h:∀a b c d,P [a,b,c,d]):∀us:List α,us.length=4->P us
 |[a,b,c,d],_=>h a b c d
theorem Y5{α:Type}{P:List α->Prop}(h:∀a b c d e,P [a,b,c,d,e]):∀us:List α,us.length=5->P us
 |[a,b,c,d,e],_=>h a b c d e
theorem Y4{α:Type}{P:List α->Prop}(h:∀a b c d e f g,P [a,b,c,d,e,f,g]):∀us:List α,us.length=7->P us
 |[a,b,c,d,e,f,g],_=>h a b c d e f g
structure FE(K:Af)(x:Str)(st:Stmt):Prop where
 ex:∃(f:Addr) (oc:Value) (od:Option Addr) (kV doc pm:Value) (an:Option Addr) (cdv ct:Value) (sl:Array (Option Value)),Bb K Ax x=some (some (.ref f))/\
  K.lookup f=some ⟨oc,od,.func (D6 x x (Ul st) (Uk st) (defScope st) .none kV doc pm an cdv ct),sl⟩/\Fq K cdv x=true/\Cr K (.ref f)=true
def J1f{K:Af}{x:Str}{st:Stmt}{f:Addr}{oc:Value}{od:Option Addr}{kV doc pm:Value}{an:Option Addr}{cdv ct:Value}{sl:Array (Option Value)}(a:Bb K Ax x=some (some (.ref f)))
  (l:K.lookup f=some ⟨oc,od,.func (D6 x x (Ul st) (Uk st) (defScope st) .none kV doc pm an cdv ct),sl⟩)(c:Fq K cdv x=true)(k:Cr K (.ref f)=true):FE K x st:=⟨_,_,_,_,_,_,_,_,_,_,a,l,c,k⟩
section
variable {K:Af} {mg:Str->Option Value} {h:Heap} {T:Tb} {G:String->Option D} {B F:List String} {O:Ow}
def Jy3(KX:K.In h)(hG:h.Ns Ax mg){FN:Fn}(e:FE K (Ab f) st)(hT:T f=some FN)(sc:Vg (FN.N.map Ab) (FN.ps.map Ab) (defScope st))
  (ck:Vk FN.body ⟨FN.N.map Ab,(defScope st).names,true,B,F,O⟩ (Uk st)=true)
  (bd:∀(kV doc pm:Value) (an:Option Addr) (cdv ct:Value) (us:List Value),us.length=(FN.ps.map Ab).length->Rf (D6 (Ab f) (Ab f) (Ul st) (Uk st) (defScope st) .none kV doc pm an cdv ct) ⟨us,[]⟩=pure ((FN.ps.map Ab).zip us)):
  ∃a fd,FnB K T B F O f a fd/\mg (Ab f)=some (.ref a):=by
 obtain⟨a,oc,od,kV,doc,pm,an,cdv,ct,sl,h1,h2,h3,h4⟩:=e.ex;exact⟨a,_,⟨FN,st,_,_,hT,Jro (st:=st) h2 h3 h4,sc,ck,bd kV doc pm an cdv ct⟩,Ka KX hG h1⟩
structure CF(K:Af)(c:Str):Prop where
 ex:∃Ca:Addr,Bb K Ax c=some (some (.ref Ca))/\L2.Cls K Ca
def J1m(n:Bb K Ax c=some (some (.ref Ca)))(pg:Gv K Ca Str.empty=true)(hd:H9 K Ca=true)(po:Kr K Ca=true)
  (sa:Ct K (.ref Ca) "__setattr__"=some (some (.builtin "object.__setattr__"))):CF K c:=⟨Ca,n,pg,hd,po,sa⟩
structure NF(K:Af)(c f:Str):Prop where
 ex:∃Ca:Addr,Bb K Ax c=some (some (.ref Ca))/\L2.Vc K Ca f
def Jx5(n:Bb K Ax c=some (some (.ref Ca)))(a:Ct K (.ref Ca) f=some none):NF K c f:=⟨Ca,n,a⟩
structure MF(K:Af)(c m ql:Str)(st:Stmt):Prop where
 ex:∃(Ca f:Addr) (oc:Value) (od:Option Addr) (kV doc pm:Value) (an:Option Addr) (cdv ct:Value) (sl:Array (Option Value)),Bb K Ax c=some (some (.ref Ca))/\Ct K (.ref Ca) m=some (some (.ref f))/\
  K.lookup f=some ⟨oc,od,.func (D6 m ql (Ul st) (Uk st) (defScope st) .none kV doc pm an cdv ct),sl⟩/\Fq K cdv ql=true/\Cr K (.ref f)=true/\Ji K (.ref f)=true
def J01{c m ql:Str}{st:Stmt}{Ca f:Addr}{oc:Value}{od:Option Addr}{kV doc pm:Value}{an:Option Addr}{cdv ct:Value}{sl:Array (Option Value)}(n:Bb K Ax c=some (some (.ref Ca)))(a:Ct K (.ref Ca) m=some (some (.ref f)))
  (l:K.lookup f=some ⟨oc,od,.func (D6 m ql (Ul st) (Uk st) (defScope st) .none kV doc pm an cdv ct),sl⟩)(cd:Fq K cdv ql=true)(k:Cr K (.ref f)=true)(i:Ji K (.ref f)=true):MF K c m ql st:=
 ⟨_,_,_,_,_,_,_,_,_,_,_,n,a,l,cd,k,i⟩
structure NW(K:Af)(c:Str):Prop where
 ex:∃Ca:Addr,Bb K Ax c=some (some (.ref Ca))/\Jl K Ca=true/\Cr K (.ref Ca)=true
def J0z(n:Bb K Ax c=some (some (.ref Ca)))(mk:Jl K Ca=true)(k:Cr K (.ref Ca)=true):NW K c:=⟨Ca,n,mk,k⟩
def Jre{FN:Fn}(cf:CF K (Ab c))(e:MF K (Ab c) (Ab m) (Ab ql) st)(hT:T f=some FN)(sc:Vg (FN.N.map Ab) (FN.ps.map Ab) (defScope st))
  (ck:Vk FN.body ⟨FN.N.map Ab,(defScope st).names,true,B,F,O⟩ (Uk st)=true)
  (bd:∀(kV doc pm:Value) (an:Option Addr) (cdv ct:Value) (us:List Value),us.length=(FN.ps.map Ab).length->Rf (D6 (Ab m) (Ab ql) (Ul st) (Uk st) (defScope st) .none kV doc pm an cdv ct) ⟨us,[]⟩=pure ((FN.ps.map Ab).zip us)):
  ∃a fd Ca,FnB K T B F O f a fd/\Bb K Ax (Ab c)=some (some (.ref Ca))/\L2.Cls K Ca/\L2.Meth K Ca (Ab m) a:=by
 obtain⟨Cb,n1,hc⟩:=cf.ex;obtain⟨Ca,a,oc,od,kV,doc,pm,an,cdv,ct,sl,n,h1,h2,h3,h4,h5⟩:=e.ex;rw[n]at n1;cases n1;exact⟨a,_,_,⟨FN,st,_,_,hT,Jro (st:=st) h2 h3 h4,sc,ck,bd kV doc pm an cdv ct⟩,n,hc,⟨h1,h5,h4⟩⟩
def Jrq(cf:CF K (Ab c))(e:NF K (Ab c) (Ab f)):∃Ca,Bb K Ax (Ab c)=some (some (.ref Ca))/\L2.Cls K Ca/\L2.Vc K Ca (Ab f):=by
 obtain⟨Cb,n1,hc⟩:=cf.ex;obtain⟨Ca,n,h⟩:=e.ex;rw[n]at n1;cases n1;exact⟨_,n,hc,h⟩
def Jx3(KX:K.In h)(hG:h.Ns Ax mg)(cf:CF K (Ab c))(e:NW K (Ab c))(mf:∃a fd Ca,FnB K T B F O f a fd/\Bb K Ax (Ab c)=some (some (.ref Ca))/\L2.Cls K Ca/\L2.Meth K Ca (Ab "__init__") a):
  ∃a fd Ca,FnB K T B F O f a fd/\Bb K Ax (Ab c)=some (some (.ref Ca))/\mg (Ab c)=some (.ref Ca)/\L2.Mk K Ca a:=by
 obtain⟨Cb,n1,h1,h2⟩:=e.ex;obtain⟨a,fd,Ca,fb,n,_,hm⟩:=mf;rw[n]at n1;cases n1;exact⟨a,fd,_,fb,n,Ka KX hG n,h1,hm.at_,hm.fn,h2⟩
def Jko(KX:K.In h)(hG:h.Ns Ax mg)(e:Bb K Ax (Ab x)=some (some (.int i t))):∃v u,mg (Ab x)=some u/\RelV v u/\(∀ρ H,RelD K ρ H (.int i) v)/\∀ds,D.int i=.tup ds->∃a o,v=.ref a/\K.lookup a=some o/\o.cls=.type "tuple"/\o.dict=none:=
 ⟨.int i,_,Ka KX hG e,⟨t,rfl⟩,λ_ _=>RelD.int i,λ_ z=>by cases z⟩
def J1c(KX:K.In h)(hG:h.Ns Ax mg)(e:Bb K Ax (Ab x)=some none):mg (Ab x)=none:=PySem.W.mg_none_of KX hG e
structure GV(K:Af)(x:Str)(d:D):Prop where
 ex:∃v u,Bb K Ax x=some (some u)/\RelV v u/\(∀ρ H,RelD K ρ H d v)/\∀ds,d=.tup ds->∃a o,v=.ref a/\K.lookup a=some o/\o.cls=.type "tuple"/\o.dict=none
def Jy2(KX:K.In h)(hG:h.Ns Ax mg)(e:GV K (Ab x) d):∃v u,mg (Ab x)=some u/\RelV v u/\(∀ρ H,RelD K ρ H d v)/\∀ds,d=.tup ds->∃a o,v=.ref a/\K.lookup a=some o/\o.cls=.type "tuple"/\o.dict=none:=by
 obtain⟨v,u,h1,h2,h3,h4⟩:=e.ex;exact⟨v,u,Ka KX hG h1,h2,h3,h4⟩
noncomputable def strsLook:List Value->List Str->Bool
 |[],[]=>true
 |.str y _::us,x::xs=>x==y&&strsLook us xs
 |_,_=>false
theorem Jfp:∀{xs:List Str},strsLook us xs=true->Vals (xs.map V.str) us:=by
 induction us with
 |nil=>
  intro xs h;cases xs with
  |nil=>exact .nil
  |cons x xs=>exact fx9 h
 |cons u us ih=>
  intro xs h;cases xs with
  |nil=>cases u<;>exact fx9 h
  |cons x xs=>
   cases u<;>try (exact fx9 h)
   replace h:=(Ah _ _).mp h
   obtain rfl:=eq_of_beq h.1;exact .cons ⟨_,rfl⟩ (ih h.2)
def Juh(xs:List Str){its:Array Value}(e:Bb K Ax x=some (some (.ref a)))(l:K.lookup a=some ⟨.type "tuple",none,.seq its n,sl⟩)
  (v:(strsLook its.toList xs&&decide (its.size<=1000))=true):GV K x (.tup (xs.map D.str)):=by
 simp only[Ah,decide_eq_true_eq]at v;refine⟨.ref a,.ref a,e,rfl,λρ H=>?_,λds _=>⟨a,_,rfl,l,rfl,rfl⟩⟩;simp only[RelD];refine⟨a,xs.map V.str,rfl,.inr ⟨_,its,n,l,rfl,rfl,by rw[Gy];lia,Jfp v.1⟩,?_⟩;have main:∀ys:List Str,RelDs K ρ H (ys.map D.str) (ys.map V.str):=by
  intro ys
  induction ys with
  |nil=>exact RelDs.nil
  |cons y r ih=>exact RelDs.cons (RelD.str y) ih
 exact main xs
def Jui(e:Bb K Ax x=some (some (.ref a)))(l:U4 K a kvs):GV K x (.kd kvs):=
 ⟨.ref a,.ref a,e,rfl,λρ H=>by simp only[RelD];exact⟨a,rfl,l⟩,λds z=>by cases z⟩
end
inductive Sat {α:Type} (r:Res α) (P:α->Store->Prop):Prop
 |mk (a S) (_:r=.ok a S) (_:P a S):Sat r P
def Sat.ok{α:Type}{a:α}{S:Store}{P:α->Store->Prop}(h:P a S):Sat (.ok a S) P:=⟨a,S,rfl,h⟩
@[simp]theorem J2j{α:Type}{a:α}{S:Store}{P:α->Store->Prop}:Sat (.ok a S) P↔P a S:=⟨λ⟨_,_,e,h⟩=>by cases e;exact h,Sat.ok⟩
def Sat.mono{α:Type}{r:Res α}{P Q:α->Store->Prop}(h:Sat r P)(hq:∀a S,P a S->Q a S):Sat r Q:=by
 obtain⟨a,S,e,h⟩:=h;exact⟨a,S,e,hq a S h⟩
section
variable {α0 α1 α2 α3 α4:Type} {r:Res α0} {f1:α0->Store->Res α1} {f2:α1->Store->Res α2} {f3:α2->Store->Res α3} {f4:α3->Store->Res α4} {Q:α0->Store->Prop}
def Sat.p1{P:α1->Store->Prop}(h:Sat r Q)(k:∀a S,Q a S->Sat (f1 a S) P):Sat (r.bind f1) P:=by
 obtain⟨a,S,rfl,h⟩:=h;exact k a S h
def Sat.p2{P:α2->Store->Prop}(h:Sat r Q)(k:∀a S,Q a S->Sat ((f1 a S).bind f2) P):Sat ((r.bind f1).bind f2) P:=by
 obtain⟨a,S,rfl,h⟩:=h;exact k a S h
def Sat.p3{P:α3->Store->Prop}(h:Sat r Q)(k:∀a S,Q a S->Sat (((f1 a S).bind f2).bind f3) P):Sat (((r.bind f1).bind f2).bind f3) P:=by
 obtain⟨a,S,rfl,h⟩:=h;exact k a S h
def Sat.p4{P:α4->Store->Prop}(h:Sat r Q)(k:∀a S,Q a S->Sat ((((f1 a S).bind f2).bind f3).bind f4) P):Sat ((((r.bind f1).bind f2).bind f3).bind f4) P:=by
 obtain⟨a,S,rfl,h⟩:=h;exact k a S h
end
@[simp]noncomputable def W7(fl:Fl)(S:Store):Res D:=match fl with
 |.rt d=>.ok d S
 |.nx _=>.ok .non S
def Jab{G:String->Option D}{FN:Fn}{ds:List D}(hT:T f=some FN)(hl:ds.length=FN.ps.length):
  callN T G W (n+1) f ds S=(evB (Cn T G W n) FN.body (ds.map some++E1 (FN.N.length-ds.length) none) S).bind W7:=by
 simp only[callN,hT,if_pos hl];congr 1
@[simp]theorem Jvg{G:String->Option D}:(Cn T G W n).call=callN T G W n:=rfl
@[simp]theorem Jnv{G:String->Option D}:(Cn T G W n).glob=G:=rfl
def FlP(I:En->Store->Prop)(R:D->Store->Prop)(fl:Fl)(S:Store):Prop:=match fl with
 |.nx Z=>I Z S
 |.rt d=>R d S
def noR:D->Store->Prop:=λ_ _=>False
@[simp]theorem J2l{I:En->Store->Prop}{R:D->Store->Prop}:FlP I R (.nx Z) S↔I Z S:=Iff.rfl
@[simp]theorem J2k{I:En->Store->Prop}{R:D->Store->Prop}:FlP I R (.rt d) S↔R d S:=Iff.rfl
inductive NxI (I:En->Store->Prop) (fl:Fl) (S:Store):Prop
 |mk (Z) (_:fl=.nx Z) (_:I Z S):NxI I fl S
theorem FlP.nx{I:En->Store->Prop}(h:FlP I noR fl S):NxI I fl S:=by
 cases fl with
 |nx Z=>exact⟨Z,rfl,h⟩
 |rt d=>exact Dz h
theorem FlP.nr{I:En->Store->Prop}{R:D->Store->Prop}(h:FlP I R fl S):(∃Z,fl=.nx Z/\I Z S)\/∃d,fl=.rt d/\R d S:=by
 cases fl with
 |nx Z=>exact .inl ⟨Z,rfl,h⟩
 |rt d=>exact .inr ⟨d,rfl,h⟩
theorem Wfq{turn:D->En->Store->Res Fl}{g:Wk}{ds:List D}{R:D->Store->Prop}(I:Nat->En->Store->Prop)(same:∀i Z S,I i Z S->sameAt S g ds.length=true)
  (ht:∀i Z S,i<ds.length->I i Z S->∃d,nth S g ds i=some d/\Sat (turn d Z S) (FlP (I (i+1)) R)):
  ∀(n i:Nat) (Z:En) (S:Store),i+n=ds.length->I i Z S->Sat (forL turn g ds n i Z S) (FlP (I ds.length) R):=by
 intro n
 induction n with
 |zero=>
  intro i Z S hi h;have:i=ds.length:=by lia
  subst this;simp only[forL,same _ Z S h,if_true];exact .ok h
 |succ n ih=>
  intro i Z S hi h;obtain⟨d,e,q⟩:=ht i Z S (by lia) h;simp only[forL,same _ Z S h,if_true,e];refine q.p1 λfl S1 q=>?_;cases fl with
  |nx τ1=>exact ih (i+1) τ1 S1 (by lia) q
  |rt d=>exact .ok q
theorem Wd5{turn:D->En->Store->Res (Option D)}{g:Wk}{ds:List D}{Z:En}(I:Nat->List D->Store->Prop)(hl:ds.length<=Line)(same:∀i acc S,I i acc S->acc.length<=i/\sameAt S g ds.length=true)
  (ht:∀i acc S,i<ds.length->I i acc S->∃d,nth S g ds i=some d/\Sat (turn d Z S) λo S1=>I (i+1) (acc++o.toList) S1):
  ∀(n i:Nat) (acc:List D) (S:Store),i+n=ds.length->I i acc S->Sat (Vh turn g ds n i Z S acc) (I ds.length):=by
 intro n
 induction n with
 |zero=>
  intro i acc S hi h;have:i=ds.length:=by lia
  subst this;simp only[Vh,(same _ acc S h).2,if_true];exact .ok h
 |succ n ih=>
  intro i acc S hi h;obtain⟨d,e,q⟩:=ht i acc S (by lia) h;simp only[Vh,(same _ acc S h).2,if_true,e];refine q.p1 λo S1 q=>?_;cases o with
  |none=>exact ih (i+1) acc S1 (by lia) (by simpa using q)
  |some y=>
   have:=(same _ _ _ h).1;simp only[if_pos (show acc.length<Line by lia)];exact ih (i+1) _ S1 (by lia) q
section
variable {S:Store} {i j:Int} {a b:Bool} {x y:Str} {ds es:List D}
@[simp]theorem Jcu:bop .add (.int i) (.int j) S=.ok (.int (i+j)) S:=rfl
@[simp]theorem Ju3:bop .sub (.int i) (.int j) S=.ok (.int (i-j)) S:=rfl
def Jcs(h:(small i||small j||(mid i&&mid j))=true):bop .mul (.int i) (.int j) S=.ok (.int (i*j)) S:=by
 simp only[Jq1];exact if_pos h
@[simp]theorem Jht(h:small i=true):bop .mul (.int i) (.int j) S=.ok (.int (i*j)) S:=Jcs (by rw[h];rfl)
@[simp]theorem Jbd(h:small j=true):bop .mul (.int i) (.int j) S=.ok (.int (i*j)) S:=Jcs (by rw[h,Bool.or_true];rfl)
@[simp]theorem Jah(h:0<j):bop .mod (.int i) (.int j) S=.ok (.int (i%j)) S:=by
 simp only[Jqz];exact if_pos h
def Jzr{j:Int}(h1:0<j)(h2:j<2^250):0<j/\j.natAbs<2^4096:=by
 refine⟨h1,?_⟩;have h3:j.natAbs<2^250:=by
  have:(j.natAbs:Int)<(2^250:Nat):=by
   rw[Pu (by omega)]
   exact_mod_cast h2
  exact_mod_cast this
 exact Ew h3 (Nat.pow_lt_pow_right (by decide) (by decide))
@[simp]theorem Jeu(h:0<=j):bop .shr (.int i) (.int j) S=.ok (.int (i/2^j.toNat)) S:=by
 simp only[Jl1];exact if_pos h
@[simp]theorem Jaw(h1:0<j)(h2:j<2^250):bop .fdiv (.int i) (.int j) S=.ok (.int (i/j)) S:=by
 simp only[Jq0];exact if_pos (Jzr h1 h2)
def Jcr(h:(decide (0<=j)&&decide (j<=1000000)&&decide (i.natAbs<2^64))=true):bop .pow (.int i) (.int j) S=.ok (.int (i^j.toNat)) S:=by
 simp only[Jl2];exact if_pos h
def Ja5{k:Nat}(h0:j=(k:Int))(h1:k<=1000000)(h2:i.natAbs<2^64):bop .pow (.int i) (.int j) S=.ok (.int (i^k)) S:=by
 subst h0;rw[Jcr]
 ·rfl
 ·simp only[Ah,decide_eq_true_eq];exact⟨⟨by omega,by omega⟩,h2⟩
@[simp]theorem Jbs(h1:S[l]? =some (.lst ds))(h2:S[k]? =some (.lst es))(h3:ds.length+es.length<=Line):bop .add (.loc l) (.loc k) S=.ok (.loc S.length) (S++[.lst (ds++es)]):=by
 simp only[Jq2,h1,h2,if_pos h3]
def Jct(h3:ds.length+es.length<=Line):bop .add (.tup ds) (.tup es) S=.ok (.tup (ds++es)) S:=by
 simp only[Jq3,if_pos h3]
theorem Jer:Deep=11+1:=rfl
@[simp]theorem Jdn:cop .eq (.int i) (.int j) S=some (decide (i=j)):=by
 simp only[cop,Jer,eqD,U3,eqV];congr 1
@[simp]theorem Jvl:cop .eq (.str x) (.str y) S=some (decide (x=y)):=by
 simp only[cop,Jer,eqD,U3,eqV];congr 1
@[simp]theorem Jzj:cop .eq (.bl a) (.bl b) S=some (a==b):=by
 simp only[cop,Jer,eqD,U3,eqV]
@[simp]theorem Jvh:cop .ne (.int i) (.int j) S=some (!decide (i=j)):=by
 have:=Jdn (i:=i) (j:=j) (S:=S);simp only[cop,Xh]at this ⊢;rw[this];rfl
@[simp]theorem Jvi:cop .lt (.int i) (.int j) S=some (decide (i<j)):=rfl
@[simp]theorem Jvj:cop .le (.int i) (.int j) S=some (decide (i<=j)):=rfl
@[simp]theorem Jvk:cop .gt (.int i) (.int j) S=some (decide (j<i)):=rfl
@[simp]theorem Jfi:cop .ge (.int i) (.int j) S=some (decide (j<=i)):=rfl
@[simp]theorem Juy:cop .isc .non .non S=some true:=rfl
@[simp]theorem Jrx:cop .isnc .non .non S=some false:=rfl
@[simp]theorem Juw:cop .isc (.tup ds) .non S=some false:=rfl
@[simp]theorem Jrv:cop .isnc (.tup ds) .non S=some true:=rfl
@[simp]theorem Jux:cop .isc (.str x) .non S=some false:=rfl
@[simp]theorem Jrw:cop .isnc (.str x) .non S=some true:=rfl
@[simp]theorem Jz0:Uo .abs [.int i] S=.ok (.int (if i<0 then -i else i)) S:=rfl
@[simp]theorem Jzz:Uo .max2 [.int i,.int j] S=.ok (.int (if j>i then j else i)) S:=rfl
@[simp]theorem Jzy:Uo .min2 [.int i,.int j] S=.ok (.int (if j<i then j else i)) S:=rfl
@[simp]theorem Jra:Uo .int1 [.int i] S=.ok (.int i) S:=rfl
@[simp]theorem Jd9:Uo .int1 [.bl b] S=.ok (.int (if b then 1 else 0)) S:=rfl
@[simp]theorem Jq9:Uo .len [.tup ds] S=.ok (.int ds.length) S:=rfl
@[simp]theorem Jtl:Uo .len [.kl ds] S=.ok (.int ds.length) S:=rfl
def Jav(h:S[l]? =some (.lst ds)):Uo .len [.loc l] S=.ok (.int ds.length) S:=by simp only[Jft,Ut,seqAt,h]
@[simp]theorem Jnw:Uo .tuple1 [.tup ds] S=.ok (.tup ds) S:=rfl
@[simp]theorem Joq:Uo .tuple1 [.kl ds] S=.ok (.tup ds) S:=rfl
def Jaj(h:S[l]? =some (.lst ds)):Uo .tuple1 [.loc l] S=.ok (.tup ds) S:=by simp only[Ji8,Ut,seqAt,h]
@[simp]theorem Jor:Uo .list1 [.tup ds] S=.ok (.loc S.length) (S++[.lst ds]):=rfl
@[simp]theorem Jq8:Uo .list1 [.kl ds] S=.ok (.loc S.length) (S++[.lst ds]):=rfl
theorem Jj1{α:Type}(p:α->Bool):∀xs:List α,allB (xs.map λx=>D.bl (p x))=some (xs.all p)
 |[]=>rfl
 |x::xs=>by simp only[Av,allB,Jj1 p xs,Kz,E8]
theorem Ji1{α:Type}(p:α->Int):∀xs:List α,sumI (xs.map λx=>D.int (p x))=some (xs.map p).sum
 |[]=>rfl
 |x::xs=>by simp only[Av,sumI,Ji1 p xs,Tu,E8]
def Jg6{α:Type}(p:α->Bool)(xs:List α):Uo .all1 [.loc S.length] (S++[.lst (xs.map λx=>D.bl (p x))])=.ok (.bl (xs.all p)) (S++[.lst (xs.map λx=>D.bl (p x))]):=by
 have h:(S++[Obj.lst (xs.map λx=>D.bl (p x))])[S.length]? =some (.lst (xs.map λx=>D.bl (p x))):=by
  rw[A1 (Aj _),Eu];rfl
 simp only[Jg4,seqAt,h,Jj1]
def Jbu{α:Type}(p:α->Int)(xs:List α):Uo .sum1 [.loc S.length] (S++[.lst (xs.map λx=>D.int (p x))])=.ok (.int (xs.map p).sum) (S++[.lst (xs.map λx=>D.int (p x))]):=by
 have h:(S++[Obj.lst (xs.map λx=>D.int (p x))])[S.length]? =some (.lst (xs.map λx=>D.int (p x))):=by
  rw[A1 (Aj _),Eu];rfl
 simp only[Jg3,seqAt,h,Ji1]
@[simp]theorem Jac:(S++[o])[S.length]? =some o:=by
 rw[A1 (Aj _),Eu];rfl
def Jag{l:Nat}{o:Obj}{X:Store}(h:S[l]? =some o):(S++X)[l]? =some o:=by
 rw[A0 (Ae.mp h).1];exact h
def Jug(h:atI ds i=some d):idxD (.tup ds) (.int i) S=some d:=by simp only[idxD,Ut,h]
def Jmz(hl:S[l]? =some (.lst ds))(h:atI ds i=some d):idxD (.loc l) (.int i) S=some d:=by simp only[idxD,Ut,seqAt,hl,h]
def Jyy(h:atI ds i=some d):idxD (.kl ds) (.int i) S=some d:=by simp only[idxD,Ut,h]
def Jzs{α:Type}{xs:List α}{i:Int}(h0:0<=i)(h1:i<xs.length):∃x,atI xs i=some x/\x∈xs/\xs[i.toNat]? =some x:=by
 have hl:i.toNat<xs.length:=by omega
 refine⟨xs[i.toNat],?_,G6 hl,Ag hl⟩;simp only[atI,ixN,if_pos h0,if_pos h1,Gz];exact Ag hl
def Jva{α:Type}{xs:List α}(h1:k<xs.length):atI xs (k:Int)=xs[k]? :=by
 have:(k:Int)<xs.length:=by omega
 simp only[atI,ixN,if_pos (Lb k),if_pos this,Gz,D2]
def Jay(h:S[l]? =some (.lst ds))(hl:ds.length<Line):Uw .append (.loc l) [d] S=.ok .non (S.set l (.lst (ds++[d]))):=by simp only[Jjf,h,if_pos hl]
def Jif(h:S[l]? =some (.lst ds))(hk:ixN ds.length i=some k):Vi (.loc l) (.int i) d S=.ok () (S.set l (.lst (ds.set k d))):=by simp only[Vi,h,hk]
def Jpf(h:n<=1000000):n<=Line:=by unfold Line;omega
def Jcg(h:n<=1000000):n<Line:=by unfold Line;omega
end
@[simp]noncomputable def X5(o:Option (Option D))(S:Store):Res D:=match o with|some (some d)=>.ok d S|_=>.bad
@[simp]noncomputable def Ze(o:Option D)(S:Store):Res D:=match o with|some d=>.ok d S|none=>.bad
@[simp]noncomputable def Xk(C:Pr)(o:Bop)(b:M)(Z:En)(x:D)(S:Store):Res D:=(evE C b Z S).bind (bop o x)
@[simp]noncomputable def Wfi(x:D)(S:Store):Res D:=match x with|.int i=>.ok (.int (Bs i)) S|_=>.bad
@[simp]noncomputable def Wfb(x:D)(S:Store):Res D:=match x with|.int i=>.ok (.int (-i)) S|_=>.bad
@[simp]noncomputable def We9(x:D)(S:Store):Res D:=match tru S x with|some b=>.ok (.bl (!b)) S|none=>.bad
@[simp]noncomputable def Jpl(o:Cop)(x y:D)(S:Store):Res D:=match cop o x y S with|some k=>.ok (.bl k) S|none=>.bad
@[simp]noncomputable def Zf(C:Pr)(o:Cop)(b:M)(Z:En)(x:D)(S:Store):Res D:=(evE C b Z S).bind (Jpl o x)
@[simp]noncomputable def Jyo(C:Pr)(o p:Cop)(c:M)(Z:En)(x y:D)(S:Store):Res D:=match cop o x y S with
 |some k=>if k then(evE C c Z S).bind (Jpl p y)else .ok (.bl false) S
 |none=>.bad
@[simp]noncomputable def Wdy(C:Pr)(o p:Cop)(b c:M)(Z:En)(x:D)(S:Store):Res D:=(evE C b Z S).bind (Jyo C o p c Z x)
@[simp]noncomputable def Wff(C:Pr)(a b:M)(Z:En)(k:Bool)(S:Store):Res D:=if k then evE C a Z S else evE C b Z S
@[simp]noncomputable def Wdw(ds:List D)(S:Store):Res D:=if ds.length<=Line then .ok (.tup ds) S else .bad
@[simp]noncomputable def Wfd(ds:List D)(S:Store):Res D:=if ds.length<=Line then .ok (.loc S.length) (S++[.lst ds])else .bad
noncomputable def Jaq(x y:D)(S:Store):Res D:=match idxD x y S with|some d=>.ok d S|none=>.bad
@[simp]noncomputable def Zd(C:Pr)(b:M)(Z:En)(x:D)(S:Store):Res D:=(evE C b Z S).bind (Jaq x)
@[simp]noncomputable def J06(C:Pr)(hi:M)(Z:En)(x:D)(l:Option Int)(S:Store):Res D:=(evO C hi Z S).bind (Vt x l)
@[simp]noncomputable def We6(C:Pr)(lo hi:M)(Z:En)(x:D)(S:Store):Res D:=(evO C lo Z S).bind (J06 C hi Z x)
@[simp]noncomputable def Wfe(t:String)(x:D)(S:Store):Res D:=match tyD S x with|some y=>.ok (.bl (isiD y t)) S|none=>.bad
@[simp]noncomputable def Wdx(C:Pr)(p:Meth)(as:M)(Z:En)(x:D)(S:Store):Res D:=if rcv p S x then(evA C as Z S).bind (Uw p x)else .bad
@[simp]noncomputable def kTru(d:D)(S:Store):Res Bool:=match tru S d with|some b=>.ok b S|none=>.bad
@[simp]noncomputable def Xr(o:Option (Option D))(S:Store):Res Bool:=match o with|some (some d)=>kTru d S|_=>.bad
@[simp]noncomputable def Zq(b:Bool)(S:Store):Res Bool:=.ok (!b) S
@[simp]noncomputable def Jnz(o:Cop)(x y:D)(S:Store):Res Bool:=match cop o x y S with|some k=>.ok k S|none=>.bad
@[simp]noncomputable def Xv(C:Pr)(o:Cop)(b:M)(Z:En)(x:D)(S:Store):Res Bool:=(evE C b Z S).bind (Jnz o x)
@[simp]noncomputable def Jvz(C:Pr)(o p:Cop)(c:M)(Z:En)(x y:D)(S:Store):Res Bool:=match cop o x y S with
 |some k=>if k then(evE C c Z S).bind (Jnz p y)else .ok false S
 |none=>.bad
@[simp]noncomputable def Zv(C:Pr)(o p:Cop)(b c:M)(Z:En)(x:D)(S:Store):Res Bool:=(evE C b Z S).bind (Jvz C o p c Z x)
noncomputable def Jr3(x y:D)(S:Store):Res Bool:=match idxD x y S with|some d=>kTru d S|none=>.bad
@[simp]noncomputable def Wen(C:Pr)(b:M)(Z:En)(x:D)(S:Store):Res Bool:=(evE C b Z S).bind (Jr3 x)
@[simp]noncomputable def Weq(C:Pr)(f:String)(ds:List D)(S:Store):Res Bool:=(C.call f ds S).bind kTru
@[simp]noncomputable def Zo(p:Prim)(ds:List D)(S:Store):Res Bool:=(Uo p ds S).bind kTru
@[simp]noncomputable def Wel(t:String)(x:D)(S:Store):Res Bool:=match tyD S x with|some y=>.ok (isiD y t) S|none=>.bad
@[simp]noncomputable def kBV(C:Pr)(w:Bool)(r:M)(Z:En)(x:D)(S:Store):Res D:=match x with|.bl c=>if c=w then evBV C w r Z S else .ok (.bl (!w)) S|_=>.bad
@[simp]noncomputable def kBT(C:Pr)(w:Bool)(r:M)(Z:En)(c:Bool)(S:Store):Res Bool:=if c=w then evBT C w r Z S else .ok (!w) S
@[simp]noncomputable def U0(x:D)(xs:List D)(S:Store):Res (List D):=.ok (x::xs) S
@[simp]noncomputable def Ve(C:Pr)(b:M)(Z:En)(x:D)(S:Store):Res (List D):=(evA C b Z S).bind (U0 x)
@[simp]noncomputable def We8(x:D)(S:Store):Res (Option Int):=match x with|.int i=>.ok (some i) S|_=>.bad
noncomputable def rOk(j:Int):Bool:=match j with
 |.ofNat n=>Nat.ble n (2^62-1)
 |.negSucc n=>Nat.ble n (2^62-1)
theorem Jq4(j:Int):(decide (-(2^62)<=j)&&decide (j<2^62))=rOk j:=by
 rw[Md,Ah,decide_eq_true_eq,decide_eq_true_eq];cases j with
 |ofNat n=>rw[rOk,Nat.ble_eq,Int.ofNat_eq_natCast];omega
 |negSucc n=>rw[rOk,Nat.ble_eq,Int.negSucc_eq];omega
noncomputable def Xj(x:D)(S:Store):Res (Wk×List D):=match x with
 |.int j=>if rOk j then .ok (none,(B1 j.toNat).map λ(i:Nat)=>.int i) S else .bad
 |_=>.bad
@[simp]noncomputable def Zc(x:D)(S:Store):Res (Wk×List D):=match x with
 |.tup ds=>.ok (none,ds) S
 |.kl ds=>.ok (none,ds) S
 |.loc l=>(match seqAt S l with|some ds=>.ok (some (l,.lst),ds) S|none=>.bad)
 |_=>.bad
noncomputable def X8(x:D)(S:Store):Res (Wk×List D):=match x with
 |.loc l=>(match seqAt S l with|some ds=>.ok (some (l,.enm),ds) S|none=>.bad)
 |.tup ds=>.ok (none,enD 0 ds) S
 |_=>.bad
@[simp]theorem Jz3:X8 (.tup ds) S=.ok (none,enD 0 ds) S:=rfl
@[simp]noncomputable def kZp(C:Pr)(b:M)(Z:En)(x:D)(S:Store):Res (Wk×List D):=(evE C b Z S).bind (zpD x)
@[simp]noncomputable def J08(i:Nat)(Z:En)(x:Int)(y:D)(S:Store):Res Fl:=match y with|.int z=>.ok (.nx (Z.set i (some (.int (x+z))))) S|_=>.bad
@[simp]noncomputable def Wfj(C:Pr)(i:Nat)(e:M)(Z:En)(o:Option (Option D))(S:Store):Res Fl:=match o with
 |some (some (.int x))=>(evE C e Z S).bind (J08 i Z x)
 |_=>.bad
noncomputable def X7(c f:String)(x:D)(S:Store):Res D:=match W1 S x c f with|some d=>.ok d S|none=>.bad
@[simp]noncomputable def J07(C:Pr)(f:String)(x:D)(ds:List D)(S:Store):Res D:=C.call f (x::ds) S
@[simp]noncomputable def Wfc(C:Pr)(c m f:String)(as:M)(Z:En)(x:D)(S:Store):Res D:=if isRec S x c m then(evA C as Z S).bind (J07 C f x)else .bad
@[simp]noncomputable def J0c(C:Pr)(f:String)(x:D)(ds:List D)(S:Store):Res Bool:=(C.call f (x::ds) S).bind kTru
@[simp]noncomputable def Wej(C:Pr)(c m f:String)(as:M)(Z:En)(x:D)(S:Store):Res Bool:=if isRec S x c m then(evA C as Z S).bind (J0c C f x)else .bad
@[simp]noncomputable def Wfa(l:Nat)(d:D)(S:Store):Res D:=match d with|.non=>.ok (.loc l) S|_=>.bad
noncomputable def Juc(c f:String)(Z:En)(y x:D)(S:Store):Res Fl:=match Xy S x c f y with|some S3=>.ok (.nx Z) S3|none=>.bad
@[simp]noncomputable def We7(C:Pr)(c f:String)(o:M)(Z:En)(y:D)(S:Store):Res Fl:=(evE C o Z S).bind (Juc c f Z y)
@[simp]noncomputable def kEn(Z:En)(_:Unit)(S:Store):Res En:=.ok Z S
@[simp]noncomputable def J05(d:D)(Z:En)(o i:D)(S:Store):Res En:=(Vi o i d S).bind (kEn Z)
@[simp]noncomputable def We5(C:Pr)(b:M)(d:D)(Z:En)(o:D)(S:Store):Res En:=(evE C b Z S).bind (J05 d Z o)
@[simp]noncomputable def kNx(Z:En)(S:Store):Res Fl:=.ok (.nx Z) S
@[simp]noncomputable def Zg(C:Pr)(t:M)(Z:En)(d:D)(S:Store):Res Fl:=(evG C t d Z S).bind kNx
@[simp]noncomputable def Wn(C:Pr)(a b:M)(Z:En)(k:Bool)(S:Store):Res Fl:=if k then evB C a Z S else evB C b Z S
@[simp]noncomputable def X6(d:D)(S:Store):Res Fl:=.ok (.rt d) S
@[simp]noncomputable def Wfg(Z:En)(_:D)(S:Store):Res Fl:=.ok (.nx Z) S
@[simp]noncomputable def kB(C:Pr)(r:M)(fl:Fl)(S:Store):Res Fl:=match fl with
 |.nx τ1=>evB C r τ1 S
 |.rt d=>.ok (.rt d) S
noncomputable def Wc(C:Pr)(t b:M)(d:D)(Z:En)(S:Store):Res Fl:=(evG C t d Z S).bind (evB C b)
noncomputable def kFor(C:Pr)(t b:M)(Z:En)(w:Wk×List D)(S:Store):Res Fl:=forL (Wc C t b) w.1 w.2 w.2.length 0 Z S
@[simp]noncomputable def Jyn(ys:List D)(S:Store):Res D:=.ok (.loc S.length) (S++[.lst ys])
noncomputable def Wh(C:Pr)(k:Nat)(keep:List Nat)(tg cd el:M)(Z:En)(w:Wk×List D)(S:Store):Res D:=(Vh (Vz C tg cd el) w.1 w.2 w.2.length 0 (Us k keep Z) S []).bind Jyn
section
variable {C:Pr} {Z:En} {S:Store} {w:Bool} {d:D} {ds:List D} {i k:Nat} {keep:List Nat} {N:List String} {x f t:String} {a b c r as lo hi e s ts t':M} {it tg cd el:M} {o p:Cop} {q:Bop} {pr:Prim} {me:Meth}
@[simp]theorem Jid:evE C (.cst d) Z S=.ok d S:=rfl
@[simp]theorem v_var:evE C (.var i) Z S=X5 Z[i]? S:=rfl
@[simp]theorem Jvq:evE C (.glb x) Z S=Ze (C.glob x) S:=rfl
@[simp]theorem Jvt:evE C (.bin q a b) Z S=(evE C a Z S).bind (Xk C q b Z):=rfl
@[simp]theorem J3a:evE C (.bit a) Z S=(evE C a Z S).bind Wfi:=rfl
@[simp]theorem J2v:evE C (.neg a) Z S=(evE C a Z S).bind Wfb:=rfl
@[simp]theorem J2e:evE C (.nott a) Z S=(evE C a Z S).bind We9:=rfl
@[simp]theorem v_bo:evE C (.bo w as) Z S=evBV C w as Z S:=rfl
@[simp]theorem Jvr:evE C (.cmp o a b) Z S=(evE C a Z S).bind (Zf C o b Z):=rfl
@[simp]theorem J2h:evE C (.cmp2 o p a b c) Z S=(evE C a Z S).bind (Wdy C o p b c Z):=by
 simp only[Jjh];congr 1;funext x S1;simp only[Wdy];congr 1;funext y S2;simp only[Jyo];cases cop o x y S2 with
 |none=>rfl
 |some k=>cases k<;>rfl
@[simp]theorem J2z:evE C (.ife c a b) Z S=(evT C c Z S).bind (Wff C a b Z):=rfl
@[simp]theorem J2q:evE C (.tup as) Z S=(evA C as Z S).bind Wdw:=rfl
@[simp]theorem Jvo:evE C (.lst as) Z S=(evA C as Z S).bind Wfd:=rfl
@[simp]theorem Jz4:evE C (.idx a b) Z S=(evE C a Z S).bind (Zd C b Z):=rfl
@[simp]theorem J2r:evE C (.sli a lo hi) Z S=(evE C a Z S).bind (We6 C lo hi Z):=rfl
@[simp]theorem Jvs:evE C (.call f as) Z S=(evA C as Z S).bind (C.call f):=rfl
@[simp]theorem Jqk:evE C (.prim pr as) Z S=(evA C as Z S).bind (Uo pr):=rfl
@[simp]theorem J2y:evE C (.isi a t) Z S=(evE C a Z S).bind (Wfe t):=rfl
@[simp]theorem J2f:evE C (.meth me a as) Z S=(evE C a Z S).bind (Wdx C me as Z):=rfl
@[simp]theorem J2g:evE C (.comp N k keep tg it cd el) Z S=(evI C it Z S).bind (Wh C k keep tg cd el Z):=rfl
@[simp]theorem Jz8:evE C (.dnil 0) Z S=.ok (.loc S.length) (S++[.dct []]):=rfl
@[simp]theorem Jz7:evE C (.dnil 1) Z S=.ok (.loc S.length) (S++[.dtu []]):=rfl
@[simp]theorem Jz6:evE C (.dnil 2) Z S=.ok (.loc S.length) (S++[.rg []]):=rfl
@[simp]theorem J20:evE C (.hld a) Z S=(evE C a Z S).bind Xl:=rfl
@[simp]theorem J2x:evE C (.lsp a) Z S=(evE C a Z S).bind Xi:=rfl
@[simp]theorem v_zp:evI C (.zp a b) Z S=(evE C a Z S).bind (kZp C b Z):=rfl
@[simp]theorem J3b:evS C (.aug i e) Z S=Wfj C i e Z Z[i]? S:=rfl
@[simp]theorem J24:evE C (.fld x f a) Z S=(evE C a Z S).bind (X7 x f):=rfl
@[simp]theorem J2w:evE C (.mcl x t f a as) Z S=(evE C a Z S).bind (Wfc C x t f as Z):=rfl
@[simp]theorem Jvn:evE C (.new x f) Z S=(C.call f [.loc S.length] (S++[.ins x []])).bind (Wfa S.length):=rfl
@[simp]theorem J25:evI C (.enm a) Z S=(evE C a Z S).bind X8:=rfl
@[simp]theorem J2s:evS C (.sfd x f a b) Z S=(evE C b Z S).bind (We7 C x f a Z):=rfl
@[simp]theorem J2m:evT C (.mcl x t f a as) Z S=(evE C a Z S).bind (Wej C x t f as Z):=rfl
@[simp]theorem J19:evT C (.nott a) Z S=(evT C a Z S).bind Zq:=rfl
@[simp]theorem w_bo:evT C (.bo w as) Z S=evBT C w as Z S:=rfl
@[simp]theorem J2p:evT C (.cmp o a b) Z S=(evE C a Z S).bind (Xv C o b Z):=rfl
@[simp]theorem J2a:evT C (.cmp2 o p a b c) Z S=(evE C a Z S).bind (Zv C o p b c Z):=by
 simp only[Jqv];congr 1;funext x S1;simp only[Zv];congr 1;funext y S2;simp only[Jvz];cases cop o x y S2 with
 |none=>rfl
 |some k=>cases k<;>rfl
@[simp]theorem w_var:evT C (.var i) Z S=Xr Z[i]? S:=rfl
@[simp]theorem J2o:evT C (.idx a b) Z S=(evE C a Z S).bind (Wen C b Z):=rfl
@[simp]theorem J2b:evT C (.call f as) Z S=(evA C as Z S).bind (Weq C f):=rfl
@[simp]theorem J18:evT C (.prim pr as) Z S=(evA C as Z S).bind (Zo pr):=rfl
@[simp]theorem J2n:evT C (.isi a t) Z S=(evE C a Z S).bind (Wel t):=rfl
@[simp]theorem J27:evBV C w (.cns a .nul) Z S=evE C a Z S:=rfl
@[simp]theorem J26:evBV C w (.cns a (.cns b r)) Z S=(evE C a Z S).bind (kBV C w (.cns b r) Z):=rfl
@[simp]theorem J29:evBT C w (.cns a .nul) Z S=evT C a Z S:=rfl
@[simp]theorem J28:evBT C w (.cns a (.cns b r)) Z S=(evT C a Z S).bind (kBT C w (.cns b r) Z):=rfl
@[simp]theorem v_c0:evC C .nul Z S=.ok true S:=rfl
@[simp]theorem v_c1:evC C (.cns c .nul) Z S=evT C c Z S:=rfl
@[simp]theorem Vm:evA C .nul Z S=.ok [] S:=rfl
@[simp]theorem Yg:evA C (.cns a b) Z S=(evE C a Z S).bind (Ve C b Z):=rfl
@[simp]theorem v_o0:evO C .nul Z S=.ok none S:=rfl
@[simp]theorem v_o1:evO C (.cns a .nul) Z S=(evE C a Z S).bind We8:=rfl
@[simp]theorem J2u:evI C (.rng a) Z S=(evE C a Z S).bind Xj:=by
 have:Xj=λx S1=>match x with|.int j=>if decide (-(2^62)<=j)&&decide (j<2^62)then .ok (none,(B1 j.toNat).map λ(i:Nat)=>D.int i) S1 else .bad|_=>.bad:=by
  funext x S1;unfold Xj;cases x<;>simp only[Jq4]
 rw[this];rfl
@[simp]theorem J2t:evI C (.cns a .nul) Z S=(evE C a Z S).bind Zc:=rfl
@[simp]theorem Jqj:evG C (.tvar i) d Z S=if i<Z.length then .ok (Z.set i (some d)) S else .bad:=rfl
@[simp]theorem J2c:evG C (.ttup ts) (.tup ds) Z S=evGs C ts ds Z S:=rfl
@[simp]theorem J2d:evG C (.tsub a b) d Z S=(evE C a Z S).bind (We5 C b d Z):=rfl
@[simp]theorem J22:evGs C .nul [] Z S=.ok Z S:=rfl
@[simp]theorem J21:evGs C (.cns t' ts) (d::ds) Z S=(evG C t' d Z S).bind (evGs C ts ds):=rfl
@[simp]theorem J3c:evS C (.asg t' e) Z S=(evE C e Z S).bind (Zg C t' Z):=rfl
@[simp]theorem Jvp:evS C (.ifs c a b) Z S=(evT C c Z S).bind (Wn C a b Z):=rfl
@[simp]theorem Jnx:evS C (.ret e) Z S=(evE C e Z S).bind X6:=rfl
@[simp]theorem Jz5:evS C (.exp e) Z S=(evE C e Z S).bind (Wfg Z):=rfl
@[simp]theorem J23:evS C (.forr t' it b) Z S=(evI C it Z S).bind (kFor C t' b Z):=rfl
@[simp]theorem Zn:evB C .nul Z S=.ok (.nx Z) S:=rfl
@[simp]theorem Xq:evB C (.cns s r) Z S=(evS C s Z S).bind (kB C r):=rfl
theorem Jap{t b:M}:Wc C t b d Z S=(evG C t d Z S).bind (evB C b):=rfl
@[simp]noncomputable def Wfh(y:D)(S:Store):Res (Option D):=.ok (some y) S
@[simp]noncomputable def kEl(C:Pr)(el:M)(Z:En)(b:Bool)(S:Store):Res (Option D):=if b then(evE C el Z S).bind Wfh else .ok none S
@[simp]noncomputable def kCd(C:Pr)(cd el:M)(Z:En)(S:Store):Res (Option D):=(evC C cd Z S).bind (kEl C el Z)
theorem Jal:Vz C tg cd el d Z S=(evG C tg d Z S).bind (kCd C cd el):=rfl
def Jch{j:Int}(h0: -(2^62)<=j)(h1:j<2^62):Xj (.int j) S=.ok (none,(B1 j.toNat).map λ(i:Nat)=>.int i) S:=by
 simp only[Xj];rw[if_pos (by rw[<-Jq4,Ah,decide_eq_true_eq,decide_eq_true_eq];exact⟨h0,h1⟩)]
end
def Ext(S S':Store):Prop:=∃X,S'=S++X
def Ext.refl(S:Store):Ext S S:=⟨[],by simp⟩
def Ext.trans(a:Ext S S1)(b:Ext S1 S2):Ext S S2:=by
 obtain⟨X,rfl⟩:=a;obtain⟨Y,rfl⟩:=b;exact⟨X++Y,by rw[Lk]⟩
def Ext.new(S X:Store):Ext S (S++X):=⟨X,rfl⟩
def Ext.get{S S':Store}{l:Nat}{o:Obj}(e:Ext S S')(h:S[l]? =some o):S'[l]? =some o:=by
 obtain⟨X,rfl⟩:=e;exact Jag h
def Ext.len{S S':Store}(e:Ext S S'):S.length<=S'.length:=by
 obtain⟨X,rfl⟩:=e;simp
def Ext.set{S S':Store}(e:Ext S S')(h:S.length<=l)(o:Obj):Ext S (S'.set l o):=by
 obtain⟨X,rfl⟩:=e;exact⟨X.set (l-S.length) o,by rw[List.set_append_right _ _ h]⟩
def Ja3{S:Store}(h:S[l]? =some o):l<S.length:=(Ae.mp h).1
def Jar{S:Store}(h:S[l]? =some o):(S.set l o')[l]? =some o':=Di (Ja3 h)
def Jew(S X:Store)(k:Nat):(S++X)[S.length+k]? =X[k]? :=by
 rw[A1 (Hb _ _),Nat.add_sub_cancel_left]
@[simp]theorem Jat{S:Store}:(S++(a0::X))[S.length]? =some a0:=Jew S (a0::X) 0
@[simp]theorem Jcd{S:Store}:(S++(a0::a1::X))[S.length+1]? =some a1:=by rw[Jew];rfl
@[simp]theorem Jc8{S:Store}:(S++(a0::a1::a2::X))[S.length+2]? =some a2:=by rw[Jew];rfl
def Keep(ps:List Nat)(S S':Store):Prop:=S.length<=S'.length/\∀l:Nat,l<S.length->l∉ps->S'[l]? =S[l]?
section
variable {S S1 S2 B:Store} {ps:List Nat}
def Keep.refl:Keep ps S S:=⟨Aj _,λ_ _ _=>rfl⟩
def Keep.trans(a:Keep ps S S1)(b:Keep ps S1 S2):Keep ps S S2:=⟨Bu a.1 b.1,λl h n=>(b.2 l (Bf h a.1) n).trans (a.2 l h n)⟩
def Keep.get(a:Keep ps S S1)(h:S[l]? =some o)(n:l∉ps):S1[l]? =some o:=(a.2 l (Ja3 h) n).trans h
def Keep.ext(e:Ext S S1):Keep ps S S1:=⟨e.len,λl h n=>by
 rw[Ag h];exact e.get (Ag h)⟩
def Keep.new(X:Store):Keep ps S (S++X):=.ext (.new _ _)
def Keep.set(h:p∈ps):Keep ps S (S.set p o):=⟨by simp,λl hl n=>by
 rw[Aw];rintro rfl;exact n h⟩
def Keep.mono(a:Keep ps S S1)(h:∀p∈ps,p∈qs):Keep qs S S1:=⟨a.1,λl hl n=>a.2 l hl λz=>n (h l z)⟩
def Keep.less(a:Keep ps S S1)(h:∀p∈ps,p∈qs\/S.length<=p):Keep qs S S1:=⟨a.1,λl hl n=>a.2 l hl λz=>(h l z).elim n (by lia)⟩
def Ext.of(k:Keep [] S S1):Ext S S1:=by
 refine⟨S1.drop S.length,Qu λi=>?_⟩;have:=k.1
 by_cases hi:i<S.length
 ·rw[A0 hi];exact k.2 i hi (by simp)
 ·rw[A1 (by lia),List.getElem?_drop];congr 1;lia
def Ext.keep(e:Ext B S)(k:Keep ps S S1)(h:∀p∈ps,B.length<=p):Ext B S1:=.of (((Keep.ext (ps:=ps) e).trans k).less λp hp=>.inr (h p hp))
end
section
variable {C:Pr} {t b:M} {ds:List D} {S:Store} {Z:En} {g:Wk}
def Wz(I:Nat->En->Store->Prop)(R:D->Store->Prop)(h0:I 0 Z S)(same:∀i Z S,I i Z S->sameAt S g ds.length=true)
  (ht:∀i Z S,i<ds.length->I i Z S->∃d,nth S g ds i=some d/\Sat (Wc C t b d Z S) (FlP (I (i+1)) R)):Sat (kFor C t b Z (g,ds) S) (FlP (I ds.length) R):=Wfq I same ht _ 0 Z S (by simp) h0
def loop(I:Nat->En->Store->Prop)(R:D->Store->Prop)(h0:I 0 Z S)(ht:∀i d Z S,ds[i]? =some d->I i Z S->Sat (Wc C t b d Z S) (FlP (I (i+1)) R)):Sat (kFor C t b Z (none,ds) S) (FlP (I ds.length) R):=
 Wz I R h0 (λ_ _ _ _=>rfl) λi Z S hi h=>⟨ds[i],Ag hi,ht i _ Z S (Ag hi) h⟩
def Jd4(h:S[l]? =some (.lst ds)):sameAt S (some (l,k)) ds.length=true:=by simp[sameAt,h]
def X2(I:Nat->En->Store->Prop)(R:D->Store->Prop)(h0:I 0 Z S)(hst:∀i Z S,I i Z S->S[l]? =some (.lst ds))(ht:∀i d Z S,ds[i]? =some d->I i Z S->Sat (Wc C t b d Z S) (FlP (I (i+1)) R)):Sat (kFor C t b Z (some (l,.lst),ds) S) (FlP (I ds.length) R):=
 Wz I R h0 (λi Z S h=>Jd4 (hst i Z S h)) λi Z S hi h=>⟨ds[i],by simp[nth,seqAt,hst i Z S h,hi],ht i _ Z S (Ag hi) h⟩
def Wdu(I:Nat->En->Store->Prop)(R:D->Store->Prop)(h0:I 0 Z S)(hst:∀i Z S,I i Z S->S[l]? =some (.lst ds))(ht:∀i d Z S,ds[i]? =some d->I i Z S->Sat (Wc C t b (.tup [.int i,d]) Z S) (FlP (I (i+1)) R)):Sat (kFor C t b Z (some (l,.enm),ds) S) (FlP (I ds.length) R):=
 Wz I R h0 (λi Z S h=>Jd4 (hst i Z S h)) λi Z S hi h=>⟨.tup [.int i,ds[i]],by simp[nth,seqAt,hst i Z S h,hi],ht i _ Z S (Ag hi) h⟩
def comp(I:Nat->List D->Store->Prop)(hl:ds.length<=Line)(h0:I 0 [] S)(same:∀i acc S,I i acc S->acc.length<=i/\sameAt S g ds.length=true)
  (ht:∀i acc S,i<ds.length->I i acc S->∃d,nth S g ds i=some d/\Sat (Vz C tg cd el d (Us k keep Z) S) λo S1=>I (i+1) (acc++o.toList) S1):
  Sat (Wh C k keep tg cd el Z (g,ds) S) λd S1=>∃ys S0,I ds.length ys S0/\d=.loc S0.length/\S1=S0++[.lst ys]:=
 (Wd5 I hl same ht _ 0 [] S (by simp) h0).p1 λys S0 h=>.ok ⟨ys,S0,h,rfl,rfl⟩
def Jjs{α:Type}{xs:List α}(h:α->D)(f:α->Option D)(hl:xs.length<=1000000)(hg:g=none\/∃l,g=some (l,.lst)/\S[l]? =some (.lst (xs.map h)))
  (ht:∀x∈xs,Vz C tg cd el (h x) (Us k keep Z) S=.ok (f x) S):Wh C k keep tg cd el Z (g,xs.map h) S=.ok (.loc S.length) (S++[.lst (xs.filterMap f)]):=by
 obtain⟨d,S1,e,ys,S0,⟨rfl,rfl⟩,rfl,rfl⟩:=comp (C:=C) (g:=g) (S:=S) (Z:=Z) (k:=k) (keep:=keep) (tg:=tg) (cd:=cd) (el:=el) (ds:=xs.map h) (λi acc S1=>acc=(xs.take i).filterMap f/\S1=S) (by rw[Ai];exact Jpf hl) ⟨by simp,rfl⟩
  (λi acc S1 ⟨h1,h2⟩=>⟨by rw[h1];exact Bu (List.length_filterMap_le _ _) (by simp;lia),by rcases hg with rfl|⟨l,rfl,hs⟩<;>first|rfl|(rw[h2];exact Jd4 hs)⟩)
  (λi acc S1 hi ⟨h1,h2⟩=>by
   have hx:i<xs.length:=by simpa using hi
   refine⟨h xs[i],?_,?_⟩
   ·rcases hg with rfl|⟨l,rfl,hs⟩
    ·simp[nth,hx]
    ·simp[nth,seqAt,h2,hs,hx]
   ·rw[h2,ht _ (G6 hx)];refine .ok ⟨?_,rfl⟩;rw[h1,Dx,Ag hx,List.filterMap_append];simp only[Rt,F7,List.filterMap_nil];cases f xs[i]<;>rfl)
 rw[e,show(xs.map h).length=xs.length by simp,G4]
def Ja7{α:Type}{xs:List α}(h:α->D)(f:α->D)(hl:xs.length<=1000000)(hg:g=none\/∃l,g=some (l,.lst)/\S[l]? =some (.lst (xs.map h)))
  (ht:∀x∈xs,Vz C tg cd el (h x) (Us k keep Z) S=.ok (some (f x)) S):Wh C k keep tg cd el Z (g,xs.map h) S=.ok (.loc S.length) (S++[.lst (xs.map f)]):=by
 rw[Jjs h (λx=>some (f x)) hl hg ht];simp
end
section
variable {S:Store} {l:Nat} {ds:List D} {d:D} {i:Int}
def Jbm(e:atI ds i=some d):Jaq (.tup ds) (.int i) S=.ok d S:=by simp only[Jaq,Jug e]
def Jau(h:S[l]? =some (.lst ds))(e:atI ds i=some d):Jaq (.loc l) (.int i) S=.ok d S:=by simp only[Jaq,Jmz h e]
def at0{α:Type}{a:α}{r:List α}{k:Nat}{x:α}(h:(a::r)[k]? =some x):atI (a::r) (k:Int)=some x:=by rw[Jva (Ae.mp h).1];exact h
@[simp]theorem Jbn{a:D}:Jaq (.tup (a::ds)) (.int 0) S=.ok a S:=Jbm (at0 (k:=0) rfl)
@[simp]theorem Jdx{a b:D}:Jaq (.tup (a::b::ds)) (.int 1) S=.ok b S:=Jbm (at0 (k:=1) rfl)
@[simp]theorem Jjr{a b c:D}:Jaq (.tup (a::b::c::ds)) (.int 2) S=.ok c S:=Jbm (at0 (k:=2) rfl)
@[simp]theorem Jpk{a b c e:D}:Jaq (.tup (a::b::c::e::ds)) (.int 3) S=.ok e S:=Jbm (at0 (k:=3) rfl)
@[simp]theorem Jz2{a b c e f:D}:Jaq (.tup (a::b::c::e::f::ds)) (.int 4) S=.ok f S:=Jbm (at0 (k:=4) rfl)
@[simp]theorem Jz1{a b c e f x:D}:Jaq (.tup (a::b::c::e::f::x::ds)) (.int 5) S=.ok x S:=Jbm (at0 (k:=5) rfl)
def J17{α:Type}{xs:List α}(h0:0<=i)(h1:i<xs.length):∃x,atI xs i=some x/\x∈xs:=let⟨x,a,b,_⟩:=Jzs h0 h1;⟨x,a,b⟩
def Jqc{α:Type}{xs:List α}{x:α}:atI (xs++[x]) (-1)=some x:=by
 have h1:¬(0:Int)<= -1:=by decide
 have h2: -(((xs++[x]).length:Nat):Int)<= -1:=by simp;lia
 simp only[atI,ixN,if_neg h1,if_pos h2,Gz];have:(-1+(((xs++[x]).length:Nat):Int)).toNat=xs.length:=by simp;lia
 rw[this];simp
def Jpm{α:Type}{xs:List α}{x:α}:ixN (xs++[x]).length (-1)=some xs.length:=by
 have h1:¬(0:Int)<= -1:=by decide
 have h2: -(((xs++[x]).length:Nat):Int)<= -1:=by simp;lia
 simp only[ixN,if_neg h1,if_pos h2];congr 1;simp;lia
def Jc1(h:S[l]? =some (.lst (ds++[d]))):Jaq (.loc l) (.int (-1)) S=.ok d S:=Jau h Jqc
def Jn7{e:D}(h:S[l]? =some (.lst (ds++[d]))):Vi (.loc l) (.int (-1)) e S=.ok () (S.set l (.lst (ds++[e]))):=by
 rw[Jif h Jpm];simp
def Jfz(h:S[l]? =some (.lst (ds++[d]))):Uw .pop0 (.loc l) [] S=.ok d (S.set l (.lst ds)):=by
 have:(ds++[d])[(ds++[d]).length-1]? =some d:=by simp
 simp only[Jje,h,this,List.dropLast_concat]
def Jfo(h:S[l]? =some (.lst ds)):tru S (.loc l)=some (!ds.isEmpty):=by simp only[tru,seqAt,h]
def set_same(h:S[l]? =some o):S.set l o=S:=by
 obtain⟨h1,rfl⟩:=Ae.mp h;exact List.set_getElem_self h1
@[simp]theorem Jqp:tru S (.bl b)=some b:=rfl
@[simp]theorem Jrc:Ab a=Ab b↔a=b:=⟨Jii,λh=>h▸rfl⟩
@[simp]theorem Jrd:(Ab a==Ab b)=(a==b):=by
 rw[Md];simp
def Jcy(h:S[l]? =some (.lst ds)):Vt (.loc l) lo hi S=.ok (.loc S.length) (S++[.lst (cutD ds lo hi)]):=by simp only[Vt,seqAt,h]
def Jgf(h0:0<=i):cutD ds (some i) none=ds.drop i.toNat:=by
 simp only[cutD,HT.sIx];rw[if_neg (by lia)]
 by_cases h:i.toNat<=ds.length
 ·rw[show min i.toNat ds.length=i.toNat by lia];rw[Eb (by rw[G5];lia)]
 ·rw[Js (by lia:ds.length<=i.toNat),Js (by lia),List.take_nil]
def Jjx(h0:0<=i):cutD ds none (some i)=ds.take i.toNat:=by
 simp only[cutD,HT.sIx];rw[if_neg (by lia)];simp only[Sk,Hy]
 by_cases h:i.toNat<=ds.length
 ·rw[show min i.toNat ds.length=i.toNat by lia]
 ·rw[show min i.toNat ds.length=ds.length by lia,Eb (Aj _),Eb (by lia)]
variable {kvs:List (Int×D)} {cs:List (Rdu.PK×D)} {fs:List (String×D)} {c f m:String} {x:Int} {p:Rdu.PK}
def Ja0(h:S[l]? =some (.lst ds)):seqAt S l=some ds:=by unfold seqAt;rw[h]
def Jbh(hm:isDm me=false)(h:S[l]? =some (.lst ds)):rcv me S (.loc l)=true:=by simp[rcv,hm,Ja0 h]
def Jf5(h:S[l]? =some (.ins c fs)):V6 S l c=some fs:=by unfold V6;rw[h];simp
def Jei(h:S[l]? =some (.ins c fs))(e:fs.lookup f=some d):X7 c f (.loc l) S=.ok d S:=by simp only[X7,W1,Jf5 h,e]
def Jps(h:S[l]? =some (.ins c fs))(e:fs.lookup m=none):isRec S (.loc l) c m=true:=by simp only[isRec,Jf5 h,e,Option.isNone_none]
def Jfs(h:S[l]? =some (.ins c fs))(hl:fs.length<1000):Juc c f Z v (.loc l) S=.ok (.nx Z) (S.set l (.ins c (putD f v fs))):=by simp only[Juc,Xy,Jf5 h,if_pos hl]
def Ju0(h:S[l]? =some (.dct kvs)):cop .inn (.int x) (.loc l) S=some (dVal kvs x).isSome:=by simp[cop,Ut,seqAt,h,dIn,V9]
def Juz(h:S[l]? =some (.dtu cs)):cop .inn (dK p) (.loc l) S=some (dVal cs p).isSome:=by simp[cop,Ut,seqAt,h,dIn,V9,kyD]
def Jp6(h:S[l]? =some (.dtu cs)):cop .nin (dK p) (.loc l) S=some (!(dVal cs p).isSome):=by simp[cop,Ut,seqAt,h,dIn,V9,kyD]
def Jf3(h:S[l]? =some (.dtu cs))(e:dVal cs p=some d):Jaq (.loc l) (dK p) S=.ok d S:=by simp[Jaq,idxD,Ut,seqAt,h,V9,kyD,e]
def Jn9(h:S[l]? =some (.dct kvs))(hl:kvs.length<Line):Vi (.loc l) (.int x) v S=.ok () (S.set l (.dct (dPut kvs x v))):=by simp only[Vi,h,if_pos hl]
def Jn8(h:S[l]? =some (.dtu cs))(hl:cs.length<Line):Vi (.loc l) (dK p) v S=.ok () (S.set l (.dtu (dPut cs p v))):=by simp only[Vi,h,kyD,if_pos hl]
def Y1(hm:isDm me=true)(h:S[l]? =some (.dtu cs)):rcv me S (.loc l)=true:=by simp[rcv,hm,dtAt,h]
def Jmk(h:S[l]? =some (.dtu cs)):Uw .get1 (.loc l) [dK p] S=.ok ((dVal cs p).getD .non) S:=by simp[Jjc,V9,h,kyD]
def Jmj(h:S[l]? =some (.dtu cs))(e:dVal cs p=some d):Uw .pop1 (.loc l) [dK p] S=.ok d (S.set l (.dtu (dDrop cs p))):=by simp[Jjb,dtAt,h,kyD,e]
def Jub(h:S[l]? =some (.dct kvs)):Uo .len [.loc l] S=.ok (.int kvs.length) S:=by simp[Jft,Ut,seqAt,h,dctAt]
def Jpe(h:S[l]? =some (.dct kvs)):Uo .list1 [.loc l] S=.ok (.loc S.length) (S++[.lst (kvs.map λp=>.int p.1)]):=by simp[Ji9,Ut,seqAt,h,dctAt]
def Jgd(h:S[l]? =some (.dct kvs)):Uo .dict1 [.loc l] S=.ok (.loc S.length) (S++[.dct kvs]):=by simp[Jd5,h]
def Jgc(h:S[l]? =some (.dtu cs))(ha:W8 (cs.map (·.1))=true):Uo .dict1 [.loc l] S=.ok (.loc S.length) (S++[.dtu cs]):=by simp[Jd5,h,ha]
def Jn3(h:S[l]? =some (.dtu cs))(ha:upB (cs.map (·.1))=true)(hl:cs.length<Line):Uo .sort1 [.loc l] S=.ok (.loc S.length) (S++[.lst (cs.map λp=>dK p.1)]):=by simp[Jg2,dtAt,h,ha,hl]
def Jpw(h:S[l]? =some (.dtu cs))(ha:upB (cs.map (·.1))=true)(hl:cs.length<Line):Xl (.loc l) S=.ok (.loc S.length) (S++[.dtu cs]):=by simp[Xl,dtAt,h,ha,hl]
def Jmr(h:S[l]? =some (.lst ds)):X8 (.loc l) S=.ok (some (l,.enm),ds) S:=by simp only[X8,Ja0 h]
end
end Mi
namespace K24
open PySem L2 Mi
section
local macro_rules|`(#[])=>`(M.nul)|`(#[$a])=>`(M.cns $a M.nul)|`(#[$a,$b,*])=>`(M.cns $a #[$b,*])|`(‹$n›)=>`(M.cst (D.int $n))|`(↑$n)=>`(M.var $n)
noncomputable def Ja6:Fn:=⟨["self"],["self"],#[.sfd "Hoard" "unspent" ↑0 (.dnil 1),.sfd "Hoard" "done" ↑0 (.dnil 0)]⟩
noncomputable def Jbi:Fn:=⟨["self"],["self","other"],#[.asg (.tvar 1) (.new "Hoard" "Hoard.__init__"),.sfd "Hoard" "unspent" ↑1 (.prim .dict1 #[.fld "Hoard" "unspent" ↑0]),.sfd "Hoard" "done" ↑1 (.prim .dict1 #[.fld "Hoard" "done" ↑0]),.ret ↑1]⟩
noncomputable def Jb0:Fn:=⟨["self"],["self"],#[.ret (.hld (.fld "Hoard" "unspent" ↑0))]⟩
noncomputable def Jcq:Fn:=⟨["self","number"],["self","number"],#[.ret (.cmp .inn ↑1 (.fld "Hoard" "done" ↑0))]⟩
noncomputable def Ja2:Fn:=⟨["self","deed","height"],["self","deed","height","part","word"],#[.ifs (.mcl "Hoard" "did" "Hoard.did" ↑0 #[.idx ↑1 ‹0›]) #[.ret (.cst (.str "known"))] .nul,.ifs (.call "has_twice" #[.call "spent_by" #[↑1]]) #[.ret (.cst (.str "twice"))] .nul,.forr (.tvar 3) #[.idx ↑1 ‹1›] #[.asg (.tvar 4) (.mcl "Hoard" "fault_of_in" "Hoard.fault_of_in" ↑0 #[↑3,↑1,↑2]),.ifs (.cmp .isnc ↑4 (.cst .non)) #[.ret ↑4] .nul],.ifs (.bo true #[.nott (.call "is_maker" #[↑1]),.cmp .gt (.call "worth_of" #[↑1]) (.mcl "Hoard" "worth_spent" "Hoard.worth_spent" ↑0 #[↑1])]) #[.ret (.cst (.str "less"))] .nul,.ret (.cst .non)]⟩
noncomputable def Jao:Fn:=⟨["self","part","deed","height"],["self","part","deed","height","kept"],#[.asg (.tvar 4) (.meth .get1 (.fld "Hoard" "unspent" ↑0) #[.idx ↑1 ‹0›]),.ifs (.cmp .isc ↑4 (.cst .non)) #[.ret (.cst (.str "gone"))] .nul,.ifs (.cmp .lt ↑3 (.idx ↑4 (.glb "FREE"))) #[.ret (.cst (.str "green"))] .nul,.ifs (.nott (.call "opens" #[.idx ↑4 (.glb "LOCK"),.idx ↑1 ‹1›,.call "facts_of" #[↑4,↑2,↑3]])) #[.ret (.cst (.str "shut"))] .nul,.ret (.cst .non)]⟩
noncomputable def Jbq:Fn:=⟨["self","deed"],["self","deed"],#[.ret (.ife (.call "is_maker" #[↑1]) ‹0› (.bin .sub (.mcl "Hoard" "worth_spent" "Hoard.worth_spent" ↑0 #[↑1]) (.call "worth_of" #[↑1])))]⟩
noncomputable def Jaz:Fn:=⟨["self","deed"],["self","deed"],#[.ret (.prim .sum1 #[.comp ["coin","self"] 1 [0] (.tvar 0) #[.call "spent_by" #[↑1]] .nul (.idx (.idx (.fld "Hoard" "unspent" ↑1) ↑0) (.glb "WORTH"))])]⟩
noncomputable def Jdl:Fn:=⟨["self","deed","height","free"],["self","deed","height","free","word","note","coin","out"],#[.asg (.tvar 4) (.mcl "Hoard" "fault" "Hoard.fault" ↑0 #[↑1,↑2]),.ifs (.cmp .isnc ↑4 (.cst .non)) #[.rse] .nul,.asg (.tvar 5) (.tup #[↑1,.prim .tuple1 #[.comp ["coin","self"] 1 [0] (.tvar 0) #[.call "spent_by" #[↑1]] .nul (.tup #[↑0,.idx (.fld "Hoard" "unspent" ↑1) ↑0])]]),.forr (.tvar 6) #[.call "spent_by" #[↑1]] #[.exp (.meth .pop1 (.fld "Hoard" "unspent" ↑0) #[↑6])],.forr (.ttup #[.tvar 6,.tvar 7]) (.zp (.call "made_by" #[↑1]) (.idx ↑1 ‹2›)) #[.asg (.tsub (.fld "Hoard" "unspent" ↑0) ↑6) (.tup #[.idx ↑7 ‹0›,.idx ↑7 ‹1›,↑2,↑3])],.asg (.tsub (.fld "Hoard" "done" ↑0) (.idx ↑1 ‹0›)) (.cst (.bl true)),.ret ↑5]⟩
noncomputable def Jdi:Fn:=⟨["deed"],["deed"],#[.ret (.cmp .eq (.prim .len #[.idx ↑0 ‹1›]) ‹0›)]⟩
noncomputable def Jeo:Fn:=⟨["deed"],["deed"],#[.ret (.comp ["place","deed"] 1 [0] (.tvar 0) (.rng (.prim .len #[.idx ↑0 ‹2›])) .nul (.tup #[.idx ↑1 ‹0›,↑0]))]⟩
noncomputable def Jdc:Fn:=⟨["deed"],["deed"],#[.ret (.prim .sum1 #[.comp ["out"] 1 [] (.tvar 0) #[.idx ↑0 ‹2›] .nul (.idx ↑0 ‹0›)])]⟩
noncomputable def Jm5:Fn:=⟨["rules","height"],["rules","height","first","times"],#[.asg (.tvar 2) (.idx ↑0 ‹0›),.asg (.tvar 3) (.prim .max2 #[.bin .fdiv (.bin .sub ↑1 ‹1›) (.idx ↑0 ‹1›),‹0›]),.ret (.bin .shr ↑2 (.prim .min2 #[↑3,.bit ↑2]))]⟩
noncomputable def Jbp:Fn:=⟨["hoard","block","height","rules"],["hoard","block","height","rules","trial","fees","place","deed","word"],#[.asg (.tvar 4) (.mcl "Hoard" "copied" "Hoard.copied" ↑0 .nul),.asg (.tvar 5) ‹0›,.forr (.ttup #[.tvar 6,.tvar 7]) (.enm (.idx ↑1 ‹3›)) #[.asg (.tvar 8) (.mcl "Hoard" "fault" "Hoard.fault" ↑4 #[↑7,↑2]),.ifs (.cmp .isnc ↑8 (.cst .non)) #[.ret (.tup #[↑6,↑8])] .nul,.aug 5 (.mcl "Hoard" "fee" "Hoard.fee" ↑4 #[↑7]),.exp (.mcl "Hoard" "do" "Hoard.do" ↑4 #[↑7,↑2,.call "free_from" #[↑7,↑2,↑3]])],.ifs (.cmp .gt (.call "worth_of_makers" #[↑1]) (.bin .add (.call "gift" #[↑3,↑2]) ↑5)) #[.ret (.tup #[‹0›,.cst (.str "much")])] .nul,.ret (.cst .non)]⟩
noncomputable def Jdk:Fn:=⟨["hoard","block","height","rules"],["hoard","block","height","rules","fault"],#[.asg (.tvar 4) (.call "block_fault" #[↑0,↑1,↑2,↑3]),.ifs (.cmp .isnc ↑4 (.cst .non)) #[.rse] .nul,.ret (.comp ["deed","height","hoard","rules"] 1 [2,0,3] (.tvar 0) #[.idx ↑1 ‹3›] .nul (.mcl "Hoard" "do" "Hoard.do" ↑2 #[↑0,↑1,.call "free_from" #[↑0,↑1,↑3]]))]⟩
noncomputable def Jcp:Fn:=⟨["deed","height","rules"],["deed","height","rules"],#[.ret (.ife (.call "is_maker" #[↑0]) (.bin .add ↑1 (.idx ↑2 ‹2›)) ↑1)]⟩
noncomputable def Ja4:Fn:=⟨["block"],["block"],#[.ret (.prim .sum1 #[.comp ["deed"] 1 [] (.tvar 0) #[.idx ↑0 ‹3›] #[.call "is_maker" #[↑0]] (.call "worth_of" #[↑0])])]⟩
noncomputable def Jio:Fn:=⟨["lock","keys","facts"],["lock","keys","facts","pile","parts","row","stays_shut"],#[.asg (.tvar 3) (.lst .nul),.asg (.tvar 4) (.lst .nul),.ifs (.nott (.call "lay" #[↑3,↑1])) #[.ret (.cst (.bl false))] .nul,.forr (.tvar 5) #[↑0] #[.ifs (.cmp .inn (.idx ↑5 ‹0›) (.tup #[.cst (.str "if"),.cst (.str "else"),.cst (.str "end")])) #[.asg (.tvar 6) (.nott (.call "turn" #[.idx ↑5 ‹0›,↑4,↑3]))] #[.asg (.tvar 6) (.bo true #[.call "is_done" #[↑4],.nott (.call "do_row" #[↑5,↑3,↑2])])],.ifs ↑6 #[.ret (.cst (.bl false))] .nul],.ret (.bo true #[.cmp .gt (.prim .len #[↑3]) ‹0›,.cmp .ne (.idx ↑3 (.neg ‹1›)) ‹0›])]⟩
noncomputable def Jc3:Fn:=⟨["parts"],["parts"],#[.ret (.bo false #[.nott ↑0,.idx (.idx ↑0 (.neg ‹1›)) ‹0›])]⟩
noncomputable def Jum:Fn:=⟨["pile","numbers"],["pile","numbers","number"],#[.forr (.tvar 2) #[↑1] #[.ifs (.bo false #[.cmp .ge (.prim .abs #[↑2]) (.bin .pow ‹10› ‹60›),.cmp .ge (.prim .len #[↑0]) (.glb "MOST_LYING")]) #[.ret (.cst (.bl false))] .nul,.exp (.meth .append ↑0 #[↑2])],.ret (.cst (.bl true))]⟩
noncomputable def Jhf:Fn:=⟨["word","parts","pile"],["word","parts","pile","top"],#[.ifs (.cmp .eq ↑0 (.cst (.str "end"))) #[.exp (.meth .pop0 ↑1 .nul)] #[.ifs (.cmp .eq ↑0 (.cst (.str "else"))) #[.asg (.tsub ↑1 (.neg ‹1›)) (.tup #[.idx (.idx ↑1 (.neg ‹1›)) ‹1›,.cst (.bl false)])] #[.ifs (.nott (.call "is_done" #[↑1])) #[.exp (.meth .append ↑1 #[.tup #[.cst (.bl false),.cst (.bl false)]])] #[.ifs (.nott ↑2) #[.ret (.cst (.bl false))] #[.asg (.tvar 3) (.meth .pop0 ↑2 .nul),.exp (.meth .append ↑1 #[.tup #[.cmp .ne ↑3 ‹0›,.cmp .eq ↑3 ‹0›]])]]]],.ret (.cst (.bl true))]⟩
noncomputable def Jf8:Fn:=⟨["row","pile","facts"],["row","pile","facts","taken"],#[.ifs (.nott (.call "has_enough" #[↑0,↑1])) #[.ret (.cst (.bl false))] .nul,.asg (.tvar 3) (.call "take" #[↑1,.meth .get2 (.glb "TAKEN") #[.idx ↑0 ‹0›,‹0›]]),.ifs (.cmp .eq (.idx ↑0 ‹0›) (.cst (.str "need"))) #[.ret (.cmp .ne (.idx ↑3 ‹0›) ‹0›)] .nul,.ret (.call "lay" #[↑1,.call "laid_by" #[↑0,↑3,↑1,↑2]])]⟩
noncomputable def Jbz:Fn:=⟨["row","pile"],["row","pile"],#[.ifs (.cmp .eq (.idx ↑0 ‹0›) (.cst (.str "copy"))) #[.ret (.cmp2 .le .lt ‹0› (.idx ↑0 ‹1›) (.prim .len #[↑1]))] .nul,.ret (.cmp .le (.meth .get2 (.glb "TAKEN") #[.idx ↑0 ‹0›,‹0›]) (.prim .len #[↑1]))]⟩
noncomputable def Jm4:Fn:=⟨["pile","count"],["pile","count","taken","number"],#[.asg (.tvar 2) (.sli ↑0 #[.bin .sub (.prim .len #[↑0]) ↑1] .nul),.forr (.tvar 3) #[↑2] #[.exp (.meth .pop0 ↑0 .nul)],.ret ↑2]⟩
noncomputable def Jbb:Fn:=⟨["row","taken","pile","facts"],["row","taken","pile","facts","word"],#[.asg (.tvar 4) (.idx ↑0 ‹0›),.ifs (.cmp .eq ↑4 (.cst (.str "push"))) #[.ret (.lst #[.idx ↑0 ‹1›])] .nul,.ifs (.cmp .eq ↑4 (.cst (.str "copy"))) #[.ret (.lst #[.idx ↑2 (.bin .sub (.neg ‹1›) (.idx ↑0 ‹1›))])] .nul,.ifs (.cmp .eq ↑4 (.cst (.str "paid"))) #[.ret (.lst #[.call "paid_at" #[.idx ↑3 (.glb "PAID"),.idx ↑0 ‹1›]])] .nul,.ifs (.cmp .inn ↑4 (.glb "FACT_WORDS")) #[.ret (.lst #[.idx ↑3 (.meth .indexT (.glb "FACT_WORDS") #[↑4])])] .nul,.ifs (.cmp .eq ↑4 (.cst (.str "drop"))) #[.ret (.lst .nul)] .nul,.ifs (.cmp .eq ↑4 (.cst (.str "swap"))) #[.ret (.lst #[.idx ↑1 ‹1›,.idx ↑1 ‹0›])] .nul,.ifs (.cmp .eq ↑4 (.cst (.str "not"))) #[.ret (.lst #[.ife (.cmp .eq (.idx ↑1 ‹0›) ‹0›) ‹1› ‹0›])] .nul,.ret (.lst #[.call "outcome" #[↑4,.idx ↑1 ‹0›,.idx ↑1 ‹1›]])]⟩
noncomputable def Jbx:Fn:=⟨["paid","place"],["paid","place"],#[.ret (.ife (.cmp2 .le .lt ‹0› ↑1 (.prim .len #[↑0])) (.idx ↑0 ↑1) ‹0›)]⟩
noncomputable def Jc2:Fn:=⟨["word","a","b"],["word","a","b"],#[.ifs (.cmp .eq ↑0 (.cst (.str "add"))) #[.ret (.bin .add ↑1 ↑2)] .nul,.ifs (.cmp .eq ↑0 (.cst (.str "sub"))) #[.ret (.bin .sub ↑1 ↑2)] .nul,.ifs (.cmp .eq ↑0 (.cst (.str "mul"))) #[.ret (.bin .mul ↑1 ↑2)] .nul,.ifs (.cmp .eq ↑0 (.cst (.str "less"))) #[.ret (.ife (.cmp .lt ↑1 ↑2) ‹1› ‹0›)] .nul,.ret (.ife (.cmp .eq ↑1 ↑2) ‹1› ‹0›)]⟩
noncomputable def Jdd:Fn:=⟨["deed"],["deed"],#[.ret (.comp ["part"] 1 [] (.tvar 0) #[.idx ↑0 ‹1›] .nul (.idx ↑0 ‹0›))]⟩
noncomputable def Jco:Fn:=⟨["coins"],["coins"],#[.ret (.cmp .lt (.lsp ↑0) (.prim .len #[↑0]))]⟩
noncomputable def Jdj:Fn:=⟨["kept","deed","height"],["kept","deed","height","age","paid"],#[.asg (.tvar 3) (.prim .max2 #[.bin .sub ↑2 (.idx ↑0 (.glb "MADE")),‹0›]),.asg (.tvar 4) (.prim .tuple1 #[.comp ["out"] 1 [] (.tvar 0) #[.idx ↑1 ‹2›] .nul (.idx ↑0 ‹0›)]),.ret (.tup #[↑2,↑3,.idx ↑0 (.glb "WORTH"),.prim .len #[.idx ↑1 ‹1›],.prim .len #[.idx ↑1 ‹2›],↑4])]⟩
noncomputable def Jcl:Fn:=⟨["_law_cell"],["_law_cell"],#[.ret (.bin .mod (.bin .mul (.bin .mul (.bin .add (.bin .mod ↑0 ‹2147483647›) ‹11›) ‹48271›) ‹69621›) ‹2147483629›)]⟩
noncomputable def Jby:Fn:=⟨["_law_cell","_law_k","_law_digits"],["_law_cell","_law_k","_law_digits","_law_seed"],#[.asg (.tvar 3) (.bin .mod (.bin .add (.call "_law_mixed" #[↑0]) (.bin .mul ‹69621› ↑1)) ‹2147483629›),.ifs ↑2 #[.ret (.lst #[.bin .fdiv (.bin .mod ↑0 (.bin .mul (.bin .pow ‹10› ‹60›) (.bin .pow ‹10› ‹60›))) (.bin .add ‹1› (.prim .int1 #[.cmp .eq ↑1 ‹0›])),.cst (.bl true),↑3])] .nul,.ret (.lst #[↑3,.cst (.bl false),↑3])]⟩
noncomputable def Jbj:Fn:=⟨["_law_stream_here","_law_many"],["_law_stream_here","_law_many","_law_found"],#[.ifs (.bo true #[.idx ↑0 ‹1›,.cmp .gt (.idx ↑0 ‹0›) ‹1›]) #[.asg (.tvar 2) (.bin .mod (.idx ↑0 ‹0›) ↑1),.asg (.tsub ↑0 ‹0›) (.bin .fdiv (.idx ↑0 ‹0›) ↑1),.ret ↑2] .nul,.ifs (.idx ↑0 ‹1›) #[.asg (.tsub ↑0 ‹0›) (.idx ↑0 ‹2›),.asg (.tsub ↑0 ‹1›) (.cst (.bl false))] .nul,.asg (.tsub ↑0 ‹0›) (.bin .mod (.bin .add (.bin .mul (.idx ↑0 ‹0›) ‹48271›) ‹11›) ‹2147483629›),.ret (.bin .mod (.bin .fdiv (.idx ↑0 ‹0›) ‹7›) ↑1)]⟩
noncomputable def Ja8:Fn:=⟨["_law_script"],["_law_script","_law_digits"],#[.asg (.tvar 1) (.bo true #[.cmp .gt (.prim .len #[↑0]) ‹0›,.cmp .eq (.bin .mod (.idx ↑0 ‹0›) ‹2›) ‹1›]),.ret (.comp ["_law_k","_law_cell","_law_digits"] 2 [1] (.ttup #[.tvar 0,.tvar 1]) (.enm (.sli (.bin .add ↑0 (.lst #[‹0›])) .nul #[‹60›])) .nul (.call "_law_stream" #[↑1,↑0,↑2]))]⟩
noncomputable def U7:Fn:=⟨["_law_stream_here"],["_law_stream_here","_law_number","_law_least","_law_lock_here","_law_keys","_law_way"],#[.asg (.tvar 1) (.bin .sub (.call "_law_take" #[↑0,‹2000›]) ‹1000›),.asg (.tvar 2) (.tup #[.cst (.str "push"),.bin .mod (.prim .abs #[↑1]) ‹9›]),.asg (.tvar 3) (.lst #[.tup .nul,.tup #[.tup #[.cst (.str "push"),‹1›]],.tup #[.tup #[.cst (.str "push"),↑1],.tup #[.cst (.str "same")]],.tup #[.tup #[.cst (.str "height")],↑2,.tup #[.cst (.str "less")],.tup #[.cst (.str "not")]]]),.exp (.meth .append ↑3 #[.tup #[.tup #[.cst (.str "age")],.tup #[.cst (.str "push"),.bin .mod (.prim .abs #[↑1]) ‹4›],.tup #[.cst (.str "less")],.tup #[.cst (.str "not")]]]),.exp (.meth .append ↑3 #[.tup #[.tup #[.cst (.str "if")],.tup #[.cst (.str "push"),↑1],.tup #[.cst (.str "same")],.tup #[.cst (.str "else")],.tup #[.cst (.str "push"),‹1›],.tup #[.cst (.str "end")]]]),.exp (.meth .append ↑3 #[.tup #[.tup #[.cst (.str "worth")],↑2,.tup #[.cst (.str "less")],.tup #[.cst (.str "not")]]]),.exp (.meth .append ↑3 #[.tup #[.tup #[.cst (.str "ins")],.tup #[.cst (.str "push"),.bin .add ‹1› (.bin .mod (.prim .abs #[↑1]) ‹3›)],.tup #[.cst (.str "same")]]]),.exp (.meth .append ↑3 #[.tup #[.tup #[.cst (.str "outs")],.tup #[.cst (.str "push"),.bin .add ‹1› (.bin .mod (.prim .abs #[↑1]) ‹3›)],.tup #[.cst (.str "same")],.tup #[.cst (.str "not")]]]),.exp (.meth .append ↑3 #[.tup #[.tup #[.cst (.str "paid"),.bin .mod (.prim .abs #[↑1]) ‹2›],↑2,.tup #[.cst (.str "less")],.tup #[.cst (.str "not")]]]),.asg (.tvar 4) (.lst #[.tup #[.bin .add ‹1› (.prim .abs #[↑1])],.tup .nul,.tup #[↑1],.tup .nul,.tup .nul,.idx (.lst #[.tup #[↑1,‹1›],.tup #[‹0›]]) (.bin .mod ↑1 ‹2›)]),.asg (.tvar 5) (.call "_law_take" #[↑0,‹10›]),.ret (.tup #[.idx ↑3 ↑5,.idx (.bin .add ↑4 (.lst #[.tup .nul,.tup .nul,.tup .nul,.tup .nul])) ↑5])]⟩
noncomputable def Jde:Fn:=⟨["_law_stream_here","_law_total","_law_ring"],["_law_stream_here","_law_total","_law_ring","_law_outs_here","_law_k","_law_lock_here","_law_keys","_law_part"],#[.asg (.tvar 3) (.lst .nul),.forr (.tvar 4) (.rng (.call "_law_take" #[↑0,‹3›])) #[.ifs (.cmp .gt ↑1 ‹1›) #[.asg (.ttup #[.tvar 5,.tvar 6]) (.call "_law_lock" #[↑0]),.asg (.tvar 7) (.bin .add ‹1› (.call "_law_take" #[↑0,.bin .sub ↑1 ‹1›])),.asg (.tvar 1) (.bin .sub ↑1 ↑7),.asg (.tsub ↑2 ↑5) ↑6,.exp (.meth .append ↑3 #[.tup #[↑7,↑5]])] .nul],.asg (.ttup #[.tvar 5,.tvar 6]) (.call "_law_lock" #[↑0]),.asg (.tsub ↑2 ↑5) ↑6,.ret (.prim .tuple1 #[.bin .add ↑3 (.lst #[.tup #[↑1,↑5]])])]⟩
noncomputable def Jf7:Fn:=⟨["_law_stream_here","_law_coins","_law_ring"],["_law_stream_here","_law_coins","_law_ring","_law_names","_law_pick","_law_name","_law_keys"],#[.asg (.tvar 3) (.prim .sort1 #[↑1]),.asg (.tvar 4) (.call "_law_take" #[↑0,‹12›]),.ifs (.bo false #[.cmp .eq ↑3 (.lst .nul),.cmp .eq ↑4 ‹0›]) #[.ret (.tup #[.tup #[.call "_law_take" #[↑0,‹90›],.call "_law_take" #[↑0,‹3›]],.tup .nul])] .nul,.asg (.tvar 5) (.idx ↑3 (.call "_law_take" #[↑0,.prim .len #[↑3]])),.asg (.tvar 6) (.idx ↑2 (.idx (.idx ↑1 ↑5) ‹1›)),.ifs (.cmp .eq ↑4 ‹1›) #[.asg (.tvar 6) (.bin .add ↑6 (.tup #[‹0›]))] .nul,.ret (.tup #[↑5,.sli ↑6 .nul #[‹10›]])]⟩
noncomputable def Jdh:Fn:=⟨["_law_stream_here","_law_number","_law_coins","_law_ring"],["_law_stream_here","_law_number","_law_coins","_law_ring","_law_ins","_law_k","_law_one","_law_total","_law_way"],#[.asg (.tvar 4) (.lst .nul),.forr (.tvar 5) (.rng (.bin .add ‹1› (.call "_law_take" #[↑0,‹3›]))) #[.asg (.tvar 6) (.call "_law_in" #[↑0,↑2,↑3]),.ifs (.bo false #[.cmp .nin (.idx ↑6 ‹0›) (.comp ["_law_other"] 1 [] (.tvar 0) #[↑4] .nul (.idx ↑0 ‹0›)),.cmp .eq (.call "_law_take" #[↑0,‹6›]) ‹0›]) #[.exp (.meth .append ↑4 #[↑6])] .nul],.asg (.tvar 7) (.prim .sum1 #[.comp ["_law_one","_law_coins"] 1 [2] (.tvar 0) #[↑4] #[.cmp .inn (.idx ↑0 ‹0›) ↑1] (.idx (.idx ↑1 (.idx ↑0 ‹0›)) ‹0›)]),.asg (.tvar 8) (.call "_law_take" #[↑0,‹8›]),.ifs (.cmp .eq ↑8 ‹0›) #[.asg (.tvar 7) (.bin .add ↑7 ‹1›)] .nul,.ifs (.bo true #[.cmp .gt ↑8 ‹4›,.cmp .gt ↑7 ‹1›]) #[.asg (.tvar 7) (.bin .add ‹1› (.call "_law_take" #[↑0,↑7]))] .nul,.ret (.tup #[↑1,.prim .tuple1 #[↑4],.call "_law_outs" #[↑0,.prim .min2 #[.bin .pow ‹10› ‹40›,.prim .max2 #[‹1›,↑7]],↑3]])]⟩
noncomputable def Jb9:Fn:=⟨["_law_coins","_law_done_here","_law_deed_here","_law_height"],["_law_coins","_law_done_here","_law_deed_here","_law_height","_law_number","_law_ins","_law_outs_here","_law_names","_law_name","_law_keys","_law_worth","_law_lock_here","_law_made","_law_free","_law_paid","_law_facts","_law_total"],#[.asg (.ttup #[.tvar 4,.tvar 5,.tvar 6]) ↑2,.ifs (.cmp .inn ↑4 ↑1) #[.ret (.cst (.str "known"))] .nul,.asg (.tvar 7) (.comp ["_law_one"] 1 [] (.tvar 0) #[↑5] .nul (.idx ↑0 ‹0›)),.ifs (.cmp .lt (.lsp ↑7) (.prim .len #[↑7])) #[.ret (.cst (.str "twice"))] .nul,.forr (.ttup #[.tvar 8,.tvar 9]) #[↑5] #[.ifs (.cmp .nin ↑8 ↑0) #[.ret (.cst (.str "gone"))] .nul,.asg (.ttup #[.tvar 10,.tvar 11,.tvar 12,.tvar 13]) (.idx ↑0 ↑8),.ifs (.cmp .lt ↑3 ↑13) #[.ret (.cst (.str "green"))] .nul,.asg (.tvar 14) (.prim .tuple1 #[.comp ["_law_out"] 1 [] (.tvar 0) #[↑6] .nul (.idx ↑0 ‹0›)]),.asg (.tvar 15) (.tup #[↑3,.prim .max2 #[‹0›,.bin .sub ↑3 ↑12],↑10,.prim .len #[↑5],.prim .len #[↑6],↑14]),.ifs (.nott (.call "opens" #[↑11,↑9,↑15])) #[.ret (.cst (.str "shut"))] .nul],.asg (.tvar 16) (.prim .sum1 #[.comp ["_law_out"] 1 [] (.tvar 0) #[↑6] .nul (.idx ↑0 ‹0›)]),.ifs (.bo true #[.cmp .ne ↑5 (.tup .nul),.cmp .gt ↑16 (.prim .sum1 #[.comp ["_law_name","_law_coins"] 1 [0] (.tvar 0) #[↑7] .nul (.idx (.idx ↑1 ↑0) ‹0›)])]) #[.ret (.cst (.str "less"))] .nul,.ret (.cst .non)]⟩
noncomputable def Jep:Fn:=⟨["_law_coins","_law_done_here","_law_deed_here","_law_height","_law_free"],["_law_coins","_law_done_here","_law_deed_here","_law_height","_law_free","_law_fee","_law_name","_law_keys","_law_place","_law_out"],#[.asg (.tvar 5) (.bin .sub ‹0› (.prim .sum1 #[.comp ["_law_out"] 1 [] (.tvar 0) #[.idx ↑2 ‹2›] .nul (.idx ↑0 ‹0›)])),.forr (.ttup #[.tvar 6,.tvar 7]) #[.idx ↑2 ‹1›] #[.asg (.tvar 5) (.bin .add ↑5 (.idx (.meth .pop1 ↑0 #[↑6]) ‹0›))],.forr (.ttup #[.tvar 8,.tvar 9]) (.enm (.idx ↑2 ‹2›)) #[.asg (.tsub ↑0 (.tup #[.idx ↑2 ‹0›,↑8])) (.tup #[.idx ↑9 ‹0›,.idx ↑9 ‹1›,↑3,↑4])],.asg (.tsub ↑1 (.idx ↑2 ‹0›)) (.cst (.bl true)),.ret (.bin .mul ↑5 (.prim .int1 #[.cmp .ne (.idx ↑2 ‹1›) (.tup .nul)]))]⟩
noncomputable def Jdg:Fn:=⟨["_law_rules_here","_law_height"],["_law_rules_here","_law_height","_law_worth","_law_k"],#[.asg (.tvar 2) (.idx ↑0 ‹0›),.forr (.tvar 3) (.rng (.prim .min2 #[‹200›,.bin .fdiv (.bin .sub ↑1 ‹1›) (.idx ↑0 ‹1›)])) #[.asg (.tvar 2) (.bin .fdiv ↑2 ‹2›)],.ret ↑2]⟩
noncomputable def U8:Fn:=⟨["_law_coins","_law_done_here","_law_block_here","_law_height","_law_rules_here"],["_law_coins","_law_done_here","_law_block_here","_law_height","_law_rules_here","_law_fees","_law_place","_law_deed_here","_law_word_here"],#[.asg (.tvar 0) (.prim .dict1 #[↑0]),.asg (.tvar 1) (.prim .dict1 #[↑1]),.asg (.tvar 5) ‹0›,.forr (.ttup #[.tvar 6,.tvar 7]) (.enm (.idx ↑2 ‹3›)) #[.asg (.tvar 8) (.call "_law_word" #[↑0,↑1,↑7,↑3]),.ifs (.cmp .isnc ↑8 (.cst .non)) #[.ret (.tup #[.tup #[↑6,↑8],↑0,↑1,‹0›])] .nul,.asg (.tvar 5) (.bin .add ↑5 (.call "_law_put" #[↑0,↑1,↑7,↑3,.bin .add ↑3 (.bin .mul (.idx ↑4 ‹2›) (.prim .int1 #[.cmp .eq ↑6 ‹0›]))]))],.ifs (.cmp .gt (.prim .sum1 #[.comp ["_law_out"] 1 [] (.tvar 0) #[.idx (.idx (.idx ↑2 ‹3›) ‹0›) ‹2›] .nul (.idx ↑0 ‹0›)]) (.bin .add (.call "_law_gift" #[↑4,↑3]) ↑5)) #[.ret (.tup #[.tup #[‹0›,.cst (.str "much")],↑0,↑1,↑5])] .nul,.ret (.tup #[.cst .non,↑0,↑1,↑5])]⟩
noncomputable def tl:M:= #[.exp (.meth .append ↑10 #[.call "_law_deed" #[↑0,↑12,↑8,↑6]]),.ifs (.cmp .isc (.call "_law_word" #[↑8,↑9,.idx ↑10 (.neg ‹1›),↑4]) (.cst .non)) #[.exp (.call "_law_put" #[↑8,↑9,.idx ↑10 (.neg ‹1›),↑4,↑4])] .nul]
noncomputable def lpB:M:=(.cns (.asg (.tvar 12) (.bin .add (.bin .add ↑1 ‹1›) ↑11)) (.cns (.asg (.tvar 13) (.call "_law_take" #[↑0,‹16›])) (.cns (.ifs (.cmp .eq ↑13 ‹0›) #[.asg (.tvar 12) (.idx (.prim .list1 #[↑9]) (.call "_law_take" #[↑0,.prim .len #[↑9]]))] .nul) tl)))
noncomputable def rest:M:= #[.asg (.tvar 8) (.prim .dict1 #[↑2]),.asg (.tvar 9) (.prim .dict1 #[↑3]),.asg (.tvar 10) (.lst #[.tup #[↑1,.tup .nul,.call "_law_outs" #[↑0,.prim .min2 #[.bin .pow ‹10› ‹40›,↑7],↑6]]]),.exp (.call "_law_put" #[↑8,↑9,.idx ↑10 ‹0›,↑4,.bin .add ↑4 (.idx ↑5 ‹2›)]),.forr (.tvar 11) (.rng (.idx (.lst #[.call "_law_take" #[↑0,‹5›],.call "_law_take" #[↑0,‹12›]]) (.prim .int1 #[.cmp .eq (.call "_law_take" #[↑0,‹4›]) ‹3›]))) lpB,.asg (.tvar 14) (.comp ["_law_k","_law_stream_here"] 1 [0] (.tvar 0) (.rng ‹3›) .nul (.call "_law_take" #[↑1,.bin .pow ‹10› ‹30›])),.asg (.tvar 15) (.tup #[.bin .add ‹1› (.idx ↑14 ‹0›),.idx ↑14 ‹1›,.bin .add ‹1› (.idx ↑14 ‹2›),.prim .tuple1 #[↑10]]),.ifs (.cmp .eq (.call "_law_take" #[↑0,‹3›]) ‹0›) #[.asg (.tvar 16) (.idx (.call "_law_done" #[↑2,↑3,↑15,↑4,↑5]) ‹3›),.asg (.tvar 7) (.bin .add (.bin .add (.call "_law_gift" #[↑5,↑4]) ↑16) (.call "_law_take" #[↑0,‹2›])),.asg (.tvar 17) (.tup #[↑1,.tup .nul,.tup #[.tup #[.prim .min2 #[.bin .pow ‹10› ‹40›,.prim .max2 #[‹1›,↑7]],.idx (.idx (.idx (.idx ↑10 ‹0›) ‹2›) ‹0›) ‹1›]]]),.asg (.tvar 15) (.bin .add (.sli ↑15 .nul #[‹3›]) (.tup #[.bin .add (.tup #[↑17]) (.sli (.idx ↑15 ‹3›) #[‹1›] .nul)]))] .nul,.ret ↑15]
noncomputable def Jcm:Fn:=⟨["_law_stream_here","_law_first","_law_held","_law_known","_law_height","_law_rules_here","_law_ring"],["_law_stream_here","_law_first","_law_held","_law_known","_law_height","_law_rules_here","_law_ring","_law_worth","_law_coins","_law_done_here","_law_deeds","_law_k","_law_number","_law_way","_law_numbers","_law_block_here","_law_fees","_law_maker"],(.cns (.asg (.tvar 7) (.prim .max2 #[‹1›,.bin .sub (.bin .add (.call "_law_gift" #[↑5,↑4]) (.call "_law_take" #[↑0,‹4›])) ‹2›])) (.cns (.ifs (.cmp .eq (.call "_law_take" #[↑0,‹3›]) ‹0›) #[.asg (.tvar 7) (.bin .add ‹1› (.call "_law_take" #[↑0,↑7]))] .nul) rest))⟩
noncomputable def Jck:Fn:=⟨["_law_stream_here"],["_law_stream_here","_law_gift_of"],#[.asg (.tvar 1) (.idx (.lst #[‹0›,‹1›,‹7›,‹50›,‹1000›,.bin .pow ‹10› ‹40›]) (.call "_law_take" #[↑0,‹6›])),.ret (.tup #[↑1,.idx (.lst #[‹1›,‹2›,‹3›,‹1000›]) (.call "_law_take" #[↑0,‹4›]),.idx (.lst #[‹0›,‹0›,‹1›,‹2›,‹5›,‹1000›]) (.call "_law_take" #[↑0,‹6›])])]⟩
noncomputable def Jcn:Fn:=⟨["_law_script"],["_law_script","_law_streams_here","_law_rules_here","_law_height"],#[.asg (.tvar 1) (.sli (.call "_law_streams" #[↑0]) .nul #[‹17›]),.asg (.tvar 2) (.call "_law_rules" #[.idx ↑1 ‹0›]),.asg (.tvar 3) (.idx (.lst #[‹0›,‹0›,‹3›,.call "_law_take" #[.idx ↑1 ‹0›,.bin .pow ‹10› ‹20›]]) (.call "_law_take" #[.idx ↑1 ‹0›,‹4›])),.ret (.tup #[.bin .add (.sli ↑1 #[‹1›] .nul) (.lst #[.call "_law_stream" #[‹7›,‹17›,.cst (.bl false)]]),↑2,↑3])]⟩
noncomputable def Jdf:Fn:=⟨["_law_stream_here","_law_rules_here","_law_height"],["_law_stream_here","_law_rules_here","_law_height"],#[.ret (.bin .add ↑2 (.idx (.lst #[‹1›,‹1›,‹1›,.prim .max2 #[‹1›,.idx ↑1 ‹2›],.prim .max2 #[‹1›,.bin .sub (.idx ↑1 ‹2›) ‹1›],.bin .add ‹1› (.call "_law_take" #[↑0,‹2000›])]) (.call "_law_take" #[↑0,‹6›])))]⟩
noncomputable def Jca:Fn:=⟨["_law_found","_law_due"],["_law_found","_law_due"],#[.ifs (.cmp .isc ↑1 (.cst .non)) #[.ret (.cmp .isc ↑0 (.cst .non))] .nul,.ifs (.bo false #[.nott (.isi ↑0 "tuple"),.cmp .ne (.prim .len #[↑0]) ‹2›,.cmp .ne ↑0 ↑1]) #[.ret (.cst (.bl false))] .nul,.ret (.bo true #[.isi (.idx ↑0 ‹0›) "int",.nott (.isi (.idx ↑0 ‹0›) "bool")])]⟩
noncomputable def tlL:M:= #[.asg (.tvar 8) (.bin .add (.sli ↑8 #[.neg ‹2›] .nul) (.lst #[↑11])),.forr (.tvar 18) #[↑8] #[.ifs (.nott (.call "_law_same" #[.call "block_fault" #[↑4,↑18,↑3,↑2],.idx (.call "_law_done" #[↑5,↑6,↑18,↑3,↑2]) ‹0›])) #[.ret (.cst (.bl false))] .nul]]
noncomputable def Za:M:=(.cns (.asg (.tvar 3) (.call "_law_next" #[↑10,↑2,↑3])) (.cns (.asg (.tvar 11) (.call "_law_block" #[↑10,.bin .add (.bin .mul ‹20› ↑9) ‹1›,↑5,↑6,↑3,↑2,↑7])) (.cns (.asg (.ttup #[.tvar 12,.tvar 13,.tvar 14,.tvar 15]) (.call "_law_done" #[↑5,↑6,↑11,↑3,↑2])) (.cns (.forr (.tvar 16) (.rng ‹2›) #[.asg (.tvar 17) (.call "block_fault" #[↑4,↑11,↑3,↑2]),.ifs (.bo false #[.nott (.call "_law_same" #[↑17,↑12]),.cmp .ne (.mcl "Hoard" "held" "Hoard.held" ↑4 .nul) ↑5]) #[.ret (.cst (.bl false))] .nul,.ifs (.nott (.prim .all1 #[.comp ["_law_deed_here","_law_done_here","_law_hoard"] 1 [6,4] (.tvar 0) #[.idx ↑11 ‹3›] .nul (.cmp .eq (.mcl "Hoard" "did" "Hoard.did" ↑2 #[.idx ↑0 ‹0›]) (.cmp .inn (.idx ↑0 ‹0›) ↑1))])) #[.ret (.cst (.bl false))] .nul]) (.cns (.ifs (.cmp .isc ↑12 (.cst .non)) #[.exp (.call "do_block" #[↑4,↑11,↑3,↑2]),.asg (.tvar 5) ↑13,.asg (.tvar 6) ↑14] .nul) tlL)))))
noncomputable def Jun:Fn:=⟨["_law_script"],["_law_script","_law_streams_here","_law_rules_here","_law_height","_law_hoard","_law_coins","_law_done_here","_law_ring","_law_asked","_law_k","_law_stream_here","_law_block_here","_law_word_here","_law_after","_law_known","_law_fees","_law_again","_law_found","_law_one"],#[.asg (.ttup #[.tvar 1,.tvar 2,.tvar 3]) (.call "_law_begin" #[↑0]),.asg (.tvar 4) (.new "Hoard" "Hoard.__init__"),.asg (.tvar 5) (.dnil 1),.asg (.tvar 6) (.dnil 0),.asg (.tvar 7) (.dnil 2),.asg (.tvar 8) (.lst .nul),.forr (.ttup #[.tvar 9,.tvar 10]) (.enm ↑1) Za,.ret (.cst (.bl true))]⟩
end
noncomputable def T:Tb:=λf=>if f="Hoard.__init__" then some Ja6 else if f="Hoard.copied" then some Jbi else if f="Hoard.held" then some Jb0 else if f="Hoard.did" then some Jcq else if f="Hoard.fault" then some Ja2 else if f="Hoard.fault_of_in" then some Jao else if f="Hoard.fee" then some Jbq else if f="Hoard.worth_spent" then some Jaz else if f="Hoard.do" then some Jdl else if f="is_maker" then some Jdi else if f="made_by" then some Jeo else if f="worth_of" then some Jdc else if f="gift" then some Jm5 else if f="block_fault" then some Jbp else if f="do_block" then some Jdk else if f="free_from" then some Jcp else if f="worth_of_makers" then some Ja4 else if f="opens" then some Jio else if f="is_done" then some Jc3 else if f="lay" then some Jum else if f="turn" then some Jhf else if f="do_row" then some Jf8 else if f="has_enough" then some Jbz else if f="take" then some Jm4 else if f="laid_by" then some Jbb else if f="paid_at" then some Jbx else if f="outcome" then some Jc2 else if f="spent_by" then some Jdd else if f="has_twice" then some Jco else if f="facts_of" then some Jdj else if f="_law_mixed" then some Jcl else if f="_law_stream" then some Jby else if f="_law_take" then some Jbj else if f="_law_streams" then some Ja8 else if f="_law_lock" then some U7 else if f="_law_outs" then some Jde else if f="_law_in" then some Jf7 else if f="_law_deed" then some Jdh else if f="_law_word" then some Jb9 else if f="_law_put" then some Jep else if f="_law_gift" then some Jdg else if f="_law_done" then some U8 else if f="_law_block" then some Jcm else if f="_law_rules" then some Jck else if f="_law_begin" then some Jcn else if f="_law_next" then some Jdf else if f="_law_same" then some Jca else if f="law" then some Jun else none
noncomputable def G:String->Option D:=λx=>if x="MOST_LYING" then some (.int 20)else if x="TAKEN" then some (.kd [("drop",1),("swap",2),("add",2),("sub",2),("mul",2),("less",2),("same",2),("not",1),("need",1)])else if x="PAID" then some (.int 5)else if x="FACT_WORDS" then some (.tup [.str "height",.str "age",.str "worth",.str "ins",.str "outs"])else if x="MADE" then some (.int 2)else if x="WORTH" then some (.int 0)else if x="FREE" then some (.int 3)else if x="LOCK" then some (.int 1)else none
theorem Jc9:T "Hoard.__init__"=some Ja6:=rfl
theorem Jdr:T "Hoard.copied"=some Jbi:=rfl
theorem Je5:T "Hoard.held"=some Jb0:=rfl
theorem Jgr:T "Hoard.did"=some Jcq:=rfl
theorem Je0:T "Hoard.fault"=some Ja2:=rfl
theorem Jb3:T "Hoard.fault_of_in"=some Jao:=rfl
theorem Jgq:T "Hoard.fee"=some Jbq:=rfl
theorem Jb2:T "Hoard.worth_spent"=some Jaz:=rfl
theorem Jic:T "Hoard.do"=some Jdl:=rfl
theorem Jh9:T "is_maker"=some Jdi:=rfl
theorem Jix:T "made_by"=some Jeo:=rfl
theorem Jhy:T "worth_of"=some Jdc:=rfl
theorem Jqi:T "gift"=some Jm5:=rfl
theorem Jez:T "block_fault"=some Jbp:=rfl
theorem Jib:T "do_block"=some Jdk:=rfl
theorem Jgp:T "free_from"=some Jcp:=rfl
theorem Jcw:T "worth_of_makers"=some Ja4:=rfl
theorem Jns:T "opens"=some Jio:=rfl
theorem Jiz:T "is_done"=some Jc3:=rfl
theorem Jve:T "lay"=some Jum:=rfl
theorem Jqg:T "turn"=some Jhf:=rfl
theorem Jkw:T "do_row"=some Jf8:=rfl
theorem Je4:T "has_enough"=some Jbz:=rfl
theorem Jqh:T "take"=some Jm4:=rfl
theorem Jbe:T "laid_by"=some Jbb:=rfl
theorem Jiw:T "paid_at"=some Jbx:=rfl
theorem Jex:T "outcome"=some Jc2:=rfl
theorem Jhz:T "spent_by"=some Jdd:=rfl
theorem Jgo:T "has_twice"=some Jco:=rfl
theorem Jia:T "facts_of"=some Jdj:=rfl
theorem Jgl:T "_law_mixed"=some Jcl:=rfl
theorem Je3:T "_law_stream"=some Jby:=rfl
theorem Jh1:T "_law_take"=some Jbj:=rfl
theorem Jey:T "_law_streams"=some Ja8:=rfl
theorem Jh5:T "_law_lock"=some U7:=rfl
theorem Jh3:T "_law_outs"=some Jde:=rfl
theorem Jkv:T "_law_in"=some Jf7:=rfl
theorem Jh8:T "_law_deed"=some Jdh:=rfl
theorem Jh0:T "_law_word"=some Jb9:=rfl
theorem Jiy:T "_law_put"=some Jep:=rfl
theorem Jh6:T "_law_gift"=some Jdg:=rfl
theorem Jh7:T "_law_done"=some U8:=rfl
theorem Jgm:T "_law_block"=some Jcm:=rfl
theorem Jgk:T "_law_rules"=some Jck:=rfl
theorem Jgn:T "_law_begin"=some Jcn:=rfl
theorem Jh4:T "_law_next"=some Jdf:=rfl
theorem Jh2:T "_law_same"=some Jca:=rfl
theorem Jvf:T "law"=some Jun:=rfl
@[simp]theorem Jb4:G "MOST_LYING"=some (.int 20):=rfl
@[simp]theorem Jnu:G "TAKEN"=some (.kd [("drop",1),("swap",2),("add",2),("sub",2),("mul",2),("less",2),("same",2),("not",1),("need",1)]):=rfl
@[simp]theorem Jzv:G "PAID"=some (.int 5):=rfl
@[simp]theorem Jb5:G "FACT_WORDS"=some (.tup [.str "height",.str "age",.str "worth",.str "ins",.str "outs"]):=rfl
@[simp]theorem Jzw:G "MADE"=some (.int 2):=rfl
@[simp]theorem Jnt:G "WORTH"=some (.int 0):=rfl
@[simp]theorem Jrz:G "FREE"=some (.int 3):=rfl
@[simp]theorem Jzx:G "LOCK"=some (.int 1):=rfl
@[simp]theorem J0f:rcv p S (.tup ds)= !isDm p:=rfl
@[simp]theorem J2i:rcv p S (.kd ks)= !isDm p:=rfl
inductive Wd where|less|same|not|height|age|worth|ins|outs
 deriving DecidableEq
noncomputable def Wd.nm:Wd->String
 |.less=>"less"|.same=>"same"|.not=>"not"|.height=>"height"|.age=>"age"|.worth=>"worth"|.ins=>"ins"|.outs=>"outs"
inductive Rw where|push (n:Int)|paid (k:Int)|w (x:Wd)|iff|els|fin
noncomputable def rD:Rw->D
 |.push n=>.tup [.str "push",.int n]
 |.paid k=>.tup [.str "paid",.int k]
 |.w x=>.tup [.str x.nm]
 |.iff=>.tup [.str "if"]
 |.els=>.tup [.str "else"]
 |.fin=>.tup [.str "end"]
structure Fx where
 h:Int
 a:Int
 w:Int
 i:Int
 o:Int
 paid:List Int
noncomputable def fD(f:Fx):D:=.tup [.int f.h,.int f.a,.int f.w,.int f.i,.int f.o,.tup (f.paid.map D.int)]
def big(n:Int):Prop:=1000000000000000000000000000000000000000000000000000000000000<=(if n<0 then -n else n)
noncomputable instance (n:Int):Decidable (big n):=inferInstanceAs (Decidable (_<=_))
noncomputable def layP(p:List Int):List Int->Bool×List Int
 |[]=>(true,p)
 |n::ns=>if big n\/20<=p.length then(false,p)else layP (p++[n]) ns
noncomputable abbrev pl(p:List Int):Mi.Obj:=.lst (p.map D.int)
section
variable {W:Nat}
inductive ILay (S:Store) (p:Nat) (nD:D) (pile ns:List Int) (i:Nat) (Z:En) (S':Store):Prop
 |mk (a) (_:Z=[some (.loc p),some nD,a]) (_:S'=S.set p (pl (pile++ns.take i))) (_:layP pile ns=layP (pile++ns.take i) (ns.drop i)):ILay S p nD pile ns i Z S'
def Wd8(S:Store)(p:Nat)(pile ns:List Int)(d:D)(S':Store):Prop:=d=.bl (layP pile ns).1/\S'=S.set p (pl (layP pile ns).2)
def Jrh(n:Nat){pile ns:List Int}(hp:S[p]? =some (pl pile))(hl:pile.length+ns.length<=1000)(hk:Zc nD S=.ok (g,ns.map D.int) S)(hg:g=none\/∃q,g=some (q,.lst)/\p≠q/\S[q]? =some (pl ns)):
  Sat (callN T G W (n+1) "lay" [.loc p,nD] S) (Wd8 S p pile ns):=by
 rw[Jab Jve rfl];simp[Jum,hk,-Zc];refine Sat.p2 (Wz (ILay S p nD pile ns) (Wd8 S p pile ns) ⟨none,rfl,by simp[set_same hp],by simp⟩ ?_ ?_) ?_
 ·rintro i Z S' ⟨a,rfl,rfl,_⟩;rcases hg with rfl|⟨q,rfl,hq,h⟩
  ·rfl
  ·exact Jd4 (by rw[Aw hq];exact h)
 ·rintro i Z S' hi ⟨a,rfl,rfl,hlay⟩;have hi:i<ns.length:=by simpa using hi
  refine⟨.int ns[i],?_,?_⟩
  ·rcases hg with rfl|⟨q,rfl,hq,h⟩
   ·simp[nth,hi]
   ·simp[nth,seqAt,Aw hq,h,hi]
  have hgt:(S.set p (pl (pile++ns.take i)))[p]? =some (pl (pile++ns.take i)):=Jar hp;rw[Ce hi]at hlay;rw[Jap];simp only[layP]at hlay
  by_cases hb:big ns[i]
  ·rw[if_pos (.inl hb)]at hlay;have hb':(1000000000000000000000000000000000000000000000000000000000000:Int)<=(if ns[i]<0 then -ns[i]else ns[i]):=hb;simp[Jcr,hb'];exact⟨by rw[hlay],by rw[hlay]⟩
  ·have hb':¬(1000000000000000000000000000000000000000000000000000000000000:Int)<=(if ns[i]<0 then -ns[i]else ns[i]):=hb;simp[Jcr,hb',Jb4];rw[Jav hgt];have e:(pile++ns.take i).take (pile++ns.take i).length=pile++ns.take i:=G4
   by_cases h20:20<=(pile++ns.take i).length
   ·rw[if_pos (.inr h20)]at hlay;have h20':(20:Int)<=(((pile++ns.take i).map D.int).length:Nat):=by rw[Ai];lia
    simp only[Jid,Jvq,Jnx,Zn,Xq,Ze,Jnz,Xv,Wn,X6,kB,Res.bind_ok,Jnv,Jfi,decide_eq_true h20',if_true,Jb4];simp;exact⟨by rw[hlay],by rw[hlay]⟩
   ·rw[if_neg (λz=>z.elim hb h20)]at hlay;have h20':¬(20:Int)<=(((pile++ns.take i).map D.int).length:Nat):=by rw[Ai];lia
    simp only[Jid,Jvq,Jnx,Zn,Xq,Ze,Jnz,Xv,Wn,X6,kB,Res.bind_ok,Jnv,Jfi,decide_eq_false h20',Jb4];simp[Jbh (me:=.append) rfl hgt];rw[Jay hgt (Jcg (by simp;lia))];simp;refine⟨_,rfl,?_,?_⟩
    ·congr 1;rw[Dx (l:=ns),Ag hi];simp only[pl,D1,Rt,Av,E9,Lk,Hc]
    ·rw[hlay,Dx,Ag hi];simp
 ·intro fl S' h;rcases h.nr with⟨Z,rfl,a,rfl,rfl,hlay⟩|⟨d,rfl,hd⟩
  ·simp;simp[layP]at hlay;exact⟨by rw[hlay],by rw[hlay]⟩
  ·simp;exact hd
noncomputable def tk:Wd->Nat
 |.less=>2|.same=>2|.not=>1
 |_=>0
noncomputable def X0(F:Fx)(k:Int):Int:=if 0<=k/\k<F.paid.length then F.paid.getD k.toNat 0 else 0
noncomputable def W0(F:Fx)(a b:Int):Wd->Int
 |.less=>if a<b then 1 else 0|.same=>if a=b then 1 else 0
 |.not=>if a=0 then 1 else 0|.height=>F.h|.age=>F.a|.worth=>F.w|.ins=>F.i|.outs=>F.o
def paid_at(n:Nat)(F:Fx)(k:Int)(S:Store):callN T G W (n+1) "paid_at" [.tup (F.paid.map D.int),.int k] S=.ok (.int (X0 F k)) S:=by
 rw[Jab Jiw rfl];unfold X0
 by_cases h0:0<=k
 ·by_cases h1:k<F.paid.length
  ·have e:atI (F.paid.map D.int) k=some (.int (F.paid.getD k.toNat 0)):=by
    have hl:k.toNat<F.paid.length:=by omega
    simp only[atI,ixN,Ai,if_pos h0,if_pos h1,Gz];rw[Aq,Ag hl,Eg,Ag hl];rfl
   simp[Jbx,h0,h1];rw[Jbm e];simp;rw[Ag (by omega)];rfl
  ·simp[Jbx,h0,h1]
 ·simp[Jbx,h0]
noncomputable def tkR:Rw->Nat
 |.w x=>tk x
 |_=>0
noncomputable def word:Rw->String
 |.push _=>"push"|.paid _=>"paid"|.w x=>x.nm|.iff=>"if"|.els=>"else"|.fin=>"end"
def Jfw(r:Rw)(S:Store):Jaq (rD r) (.int 0) S=.ok (.str (word r)) S:=by cases r<;>simp[rD,word]
theorem Jgv(r:Rw)(S:Store):Uw .get2 (.kd [("drop",1),("swap",2),("add",2),("sub",2),("mul",2),("less",2),("same",2),("not",1),("need",1)]) [.str (word r),.int 0] S=.ok (.int (tkR r)) S:=by
 rw[Jjd];cases r with
 |w x=>cases x<;>simp[word,Wd.nm,C6,tkR,tk]
 |_=>simp[word,C6,tkR]
theorem Jkz(r:Rw):¬word r="copy"/\¬word r="need"/\¬word r="drop"/\¬word r="swap":=by
 cases r with
 |w x=>cases x<;>decide
 |_=>simp[word]
def has_enough(n:Nat){pile:List Int}(hp:S[p]? =some (pl pile))(r:Rw):callN T G W (n+1) "has_enough" [rD r,.loc p] S=.ok (.bl (decide (tkR r<=pile.length))) S:=by
 rw[Jab Je4 rfl];have hlen:=Jav hp;rw[Ai]at hlen;simp[Jbz,Jfw,(Jkz r).1,Jnu,Jgv,hlen,isDm]
inductive ITake (S:Store) (p q:Nat) (c:Int) (pile:List Int) (i:Nat) (Z:En) (S':Store):Prop
 |mk (a) (_:Z=[some (.loc p),some (.int c),some (.loc q),a]) (_:S'=S.set p (pl (pile.take (pile.length-i)))):ITake S p q c pile i Z S'
def Jr2(n:Nat){S:Store}{pile:List Int}(hp:S[p]? =some (pl pile))(hc:c<=pile.length):
  callN T G W (n+1) "take" [.loc p,.int c] S=.ok (.loc S.length) ((S++[pl (pile.drop (pile.length-c))]).set p (pl (pile.take (pile.length-c)))):=by
 suffices h:Sat (callN T G W (n+1) "take" [.loc p,.int c] S) λd S'=>d=.loc S.length/\S'=(S++[pl (pile.drop (pile.length-c))]).set p (pl (pile.take (pile.length-c))) by
  obtain⟨d,S',e,rfl,rfl⟩:=h;exact e
 rw[Jab Jqh rfl];have hlen:=Jav hp;rw[Ai]at hlen;have hcut:cutD (pile.map D.int) (some ((pile.length:Int)-c)) none=(pile.drop (pile.length-c)).map D.int:=by
  rw[Jgf (by lia),Ky];congr 1
  lia
 simp only[Jm4,Av,E9,A7,Eo];simp[hlen];rw[Jcy hp,hcut];have hpl:p<S.length:=Ja3 hp;have hq:(S++[pl (pile.drop (pile.length-c))])[S.length]? =some (pl (pile.drop (pile.length-c))):=Jac;have hp1:(S++[pl (pile.drop (pile.length-c))])[p]? =some (pl pile):=Jag hp;generalize S++[pl (pile.drop (pile.length-c))]=S1 at hq hp1 ⊢;simp[Ja0 hq];refine Sat.p2 (X2 (ITake S1 p S.length c pile) noR ⟨none,rfl,by simp[set_same hp1]⟩ ?_ ?_) ?_
 ·rintro i Z S' ⟨a,rfl,rfl⟩;rw[Aw (by lia)];rw[<-Ky];exact hq
 ·rintro i d _ S' hd ⟨a,rfl,rfl⟩;have hi:i<c:=by
   have:=(Ae.mp hd).1;simp at this
   lia
  have hlast:pile.take (pile.length-i)=pile.take (pile.length-(i+1))++[pile[pile.length-(i+1)]]:=by
   rw[show pile.length-i=pile.length-(i+1)+1 by lia,Dx,Ag (by lia)];rfl
  have hg:(S1.set p (pl (pile.take (pile.length-i))))[p]? =some (.lst ((pile.take (pile.length-(i+1))).map D.int++[D.int pile[pile.length-(i+1)]])):=by
   rw[Jar hp1,hlast];simp only[pl,D1,Av,E9]
  rw[Jap];simp[Jbh (me:=.pop0) rfl hg];rw[Jfz hg];simp;exact⟨_,rfl,by rw[<-Hc]⟩
 ·intro fl S' h;obtain⟨_,rfl,a,rfl,rfl⟩:=h.nx;simp;rw[show pile.length-(pile.length-(pile.length-c))=pile.length-c by lia]
noncomputable def Vw(F:Fx)(t:List Int):Rw->Int
 |.push n=>n
 |.paid k=>X0 F k
 |.w x=>W0 F (t.getD 0 0) (t.getD 1 0) x
 |_=>0
noncomputable def Vu:Rw->Bool
 |.iff=>false|.els=>false|.fin=>false
 |_=>true
theorem laid_by(n:Nat){S:Store}{t:List Int}(hq:S[q]? =some (pl t))(F:Fx)(r:Rw)(hr:Vu r=true)(ht:t.length=tkR r):
  callN T G W (n+2) "laid_by" [rD r,.loc q,.loc p,fD F] S=.ok (.loc S.length) (S++[pl [Vw F t r]]):=by
 rw[Jab Jbe rfl];have i0:∀a r',t=a::r'->Jaq (.loc q) (.int 0) S=.ok (.int a) S:=λa r' e=>Jau hq (by rw[e];exact at0 (k:=0) rfl);have i1:∀a b r',t=a::b::r'->Jaq (.loc q) (.int 1) S=.ok (.int b) S:=λa b r' e=>Jau hq (by rw[e];exact at0 (k:=1) rfl);have inn:∀x:Wd,cop .inn (.str x.nm) (.tup [.str "height",.str "age",.str "worth",.str "ins",.str "outs"]) S=some (decide (tk x=0)):=λx=>by
  cases x<;>rfl
 cases r with
 |iff=>cases hr
 |els=>cases hr
 |fin=>cases hr
 |push k=>simp[Jbb,rD,Line,Vw]
 |paid k=>
  simp[Jbb,rD,fD,Jzv];rw[paid_at n F k S];simp[Line,Vw]
 |w x=>
  have out:∀a b v,t=[a,b]->callN T G W (n+1) "outcome" [.str x.nm,.int a,.int b] S=.ok (.int v) S->¬tk x=0->¬x=.not->callN T G W (n+2) "laid_by" [rD (.w x),.loc q,.loc p,fD F] S=.ok (.loc S.length) (S++[pl [v]]):=λa b v e eo h0 h1=>by
   rw[Jab Jbe rfl];have h:=inn x;cases x<;>first|(exact absurd rfl h0)|(exact absurd rfl h1)|(simp only[Wd.nm]at h eo;simp[Jbb,rD,Wd.nm,Jb5,h,tk,i0 _ _ e,i1 _ _ _ e,eo,Line])
  have fact:∀k:Int,∀v,Uw .indexT (.tup [.str "height",.str "age",.str "worth",.str "ins",.str "outs"]) [.str x.nm] S=.ok (.int k) S->Jaq (fD F) (.int k) S=.ok (.int v) S->tk x=0->callN T G W (n+2) "laid_by" [rD (.w x),.loc q,.loc p,fD F] S=.ok (.loc S.length) (S++[pl [v]]):=λk v e1 e2 h0=>by
   rw[Jab Jbe rfl];have h:=inn x;cases x<;>first|(cases h0;done)|(simp only[Wd.nm]at h e1;simp[Jbb,rD,Wd.nm,Jb5,h,tk,e1,e2,Line,isDm])
  have ix:Uw .indexT (.tup [.str "height",.str "age",.str "worth",.str "ins",.str "outs"]) [.str x.nm] S=.ok (.int (match x with|.age=>1|.worth=>2|.ins=>3|.outs=>4|_=>0)) S\/¬tk x=0:=by
   cases x<;>first|exact .inr (by decide)|exact .inl rfl
  rw[<-Jab Jbe rfl];rcases t with _|⟨a,_|⟨b,_|⟨c,t⟩⟩⟩
  ·cases x<;>first|(cases ht;done)|(rcases ix with ix|ix<;>first|exact fact _ _ ix (by simp[fD,Vw,W0]) rfl|exact absurd rfl ix)
  ·cases x<;>try (cases ht;done)
   rw[Jab Jbe rfl];have h:=inn .not;simp only[Wd.nm]at h
   by_cases z:a=0<;>simp[Jbb,rD,Wd.nm,Jb5,h,tk,i0 a [] rfl,z,Line,Vw,W0]
  ·cases x<;>try (cases ht;done)
   ·refine out a b _ rfl ?_ (by decide) (by decide);rw[Jab Jex rfl]
    by_cases h:a<b<;>simp[Jc2,Wd.nm,h,Vw,W0]
   ·refine out a b _ rfl ?_ (by decide) (by decide);rw[Jab Jex rfl]
    by_cases h:a=b<;>simp[Jc2,Wd.nm,h,Vw,W0]
  ·exfalso;cases x<;>simp[tkR,tk]at ht
noncomputable def Wq(F:Fx)(p:List Int)(r:Rw):Bool×List Int:=if p.length<tkR r then(false,p)else layP (p.take (p.length-tkR r)) [Vw F (p.drop (p.length-tkR r)) r]
theorem Jjq{p:List Int}(h:p.length<=20):∀{ns:List Int},(layP p ns).2.length<=20:=by
 intro ns
 induction ns generalizing p with
 |nil=>exact h
 |cons n ns ih=>
  simp only[layP];split
  ·exact h
  ·rename_i hn;refine ih ?_;rw[Bd,Dq];have:¬20<=p.length:=λz=>hn (.inr z)
   lia
def Wea(S:Store)(p:Nat)(z:Bool×List Int)(d:D)(S':Store):Prop:=d=.bl z.1/\Keep [p] S S'/\S'[p]? =some (pl z.2)
def do_row(n:Nat){pile:List Int}(hp:S[p]? =some (pl pile))(F:Fx)(r:Rw)(hr:Vu r=true)(hl:pile.length<=20):
  Sat (callN T G W (n+3) "do_row" [rD r,.loc p,fD F] S) (Wea S p (Wq F pile r)):=by
 rw[Jab Jkw rfl];simp[Jf8];rw[has_enough (n+1) hp r]
 by_cases he:tkR r<=pile.length
 ·have hpl:p<S.length:=Ja3 hp;have e1:=Jr2 (W:=W) (n+1) hp he;have hq1:((S++[pl (pile.drop (pile.length-tkR r))]).set p (pl (pile.take (pile.length-tkR r))))[S.length]? =some (pl (pile.drop (pile.length-tkR r))):=by
   rw[Aw (by lia)];exact Jac
  have hp1:((S++[pl (pile.drop (pile.length-tkR r))]).set p (pl (pile.take (pile.length-tkR r))))[p]? =some (pl (pile.take (pile.length-tkR r))):=Jar (Jag hp);have k1:Keep [p] S ((S++[pl (pile.drop (pile.length-tkR r))]).set p (pl (pile.take (pile.length-tkR r)))):=(Keep.new _).trans (.set (by simp));generalize(S++[pl (pile.drop (pile.length-tkR r))]).set p (pl (pile.take (pile.length-tkR r)))=S1 at e1 hq1 hp1 k1;have e2:=laid_by (W:=W) n (p:=p) hq1 F r hr (by rw[G5];lia);obtain⟨d,S2,e3,rfl,rfl⟩:=Jrh (W:=W) (n+1) (S:=S1++[pl [Vw F (pile.drop (pile.length-tkR r)) r]]) (nD:=.loc S1.length) (ns:=[Vw F (pile.drop (pile.length-tkR r)) r]) (Jag hp1) (by simp;lia) (by simp[seqAt]) (.inr ⟨_,rfl,by have:=k1.1;lia,Jac⟩);simp[he,Jfw,Jnu,Jgv,e1,(Jkz r).2.1,e2,isDm];rw[e3];simp[Wea,Wq,if_neg (Qs.mpr he)];exact⟨(k1.trans (.new _)).trans (.set (by simp)),by rw[Jar (Jag hp1)]⟩
 ·simp[he];exact⟨by simp[Wq,if_pos (show pile.length<tkR r by lia)],.refl,by rw[hp,Wq,if_pos (by lia)]⟩
abbrev Pt:=Bool×Bool
noncomputable def pD(x:Pt):D:=.tup [.bl x.1,.bl x.2]
noncomputable abbrev pts(st:List Pt):Mi.Obj:=.lst (st.reverse.map pD)
noncomputable def Vo:List Pt->Bool
 |[]=>true
 |x::_=>x.1
def Jfx(x:Pt)(st:List Pt):pts (x::st)=.lst (st.reverse.map pD++[pD x]):=by simp
theorem is_done(n:Nat)(hq:S[q]? =some (pts st)):callN T G W (n+1) "is_done" [.loc q] S=.ok (.bl (Vo st)) S:=by
 rw[Jab Jiz rfl];cases st with
 |nil=>simp[Jc3,Jfo hq,Vo]
 |cons x st=>
  rw[Jfx]at hq;simp[Jc3,Jfo hq,Vo];rw[Jc1 hq];simp[pD]
noncomputable def Vn(p:List Int)(st:List Pt):Rw->Option (Bool×List Int×List Pt)
 |.fin=>match st with|[]=>none|_::s=>some (true,p,s)
 |.els=>match st with|[]=>none|x::s=>some (true,p,(x.2,false)::s)
 |.iff=>if Vo st then(if p=[]then some (false,p,st)else some (true,p.dropLast,(decide (p.getLastD 0≠0),decide (p.getLastD 0=0))::st))else some (true,p,(false,false)::st)
 |_=>none
def Wd9(S:Store)(p q:Nat)(z:Bool×List Int×List Pt)(d:D)(S':Store):Prop:=d=.bl z.1/\Keep [p,q] S S'/\S'[p]? =some (pl z.2.1)/\S'[q]? =some (pts z.2.2)
def Jg8{p:List Int}(h:p≠[]):p=p.dropLast++[p.getLastD 0]:=by
 rcases List.eq_nil_or_concat p with rfl|⟨l,x,rfl⟩
 ·exact absurd rfl h
 ·simp
theorem turn(n:Nat){st:List Pt}(hp:S[p]? =some (pl pile))(hq:S[q]? =some (pts st))(hpq:p≠q)(hs:st.length<=1000)(r:Rw)(hz:Vn pile st r=some z):
  Sat (callN T G W (n+2) "turn" [.str (word r),.loc q,.loc p] S) (Wd9 S p q z):=by
 rw[Jab Jqg rfl];have hq0:∀o,(S.set q o)[p]? =some (pl pile):=λo=>by rw[Aw hpq.symm];exact hp
 have setq:∀o,(S.set q o)[q]? =some o:=λo=>Jar hq;cases r with
 |fin=>
  cases st with
  |nil=>cases hz
  |cons x s=>
   cases hz;rw[Jfx]at hq;simp[Jhf,word,Jbh (me:=.pop0) rfl hq];rw[Jfz hq];simp;exact⟨rfl,.set (by simp),hq0 _,by rw[setq];simp⟩
 |els=>
  cases st with
  |nil=>cases hz
  |cons x s=>
   cases hz;rw[Jfx]at hq;simp[Jhf,word];rw[Jc1 hq];simp[pD,Line];rw[Jn7 hq];simp;exact⟨rfl,.set (by simp),hq0 _,by rw[setq];simp[pD]⟩
 |iff=>
  simp[Jhf,word];rw[is_done n hq];simp only[Vn]at hz;cases hd:Vo st with
  |false=>
   rw[hd]at hz;cases hz;simp[Line,Jbh (me:=.append) rfl hq];rw[Jay hq (Jcg (by simp;lia))];simp;exact⟨rfl,.set (by simp),hq0 _,by rw[setq];simp[pD]⟩
  |true=>
   rw[hd,if_pos rfl]at hz
   by_cases he:pile=[]
   ·subst he;cases hz;simp[Jfo hp];exact⟨rfl,.refl,hp,hq⟩
   ·rw[if_neg he]at hz;cases hz;have hp':S[p]? =some (.lst (pile.dropLast.map D.int++[D.int (pile.getLastD 0)])):=by
     rw[hp]
     conv=>lhs;rw[Jg8 he]
     simp
    have hq1:(S.set p (.lst (pile.dropLast.map D.int)))[q]? =some (pts st):=by rw[Aw hpq];exact hq
    have e1:=Jay (d:=pD (decide (pile.getLastD 0≠0),decide (pile.getLastD 0=0))) hq1 (Jcg (by simp;lia));simp only[pD,decide_not]at e1;have e2:=Jbh (me:=.append) rfl hq1;generalize hx:pile.getLastD 0=x at*;have e3:=Jfz hp';generalize hS1:S.set p (.lst (pile.dropLast.map D.int))=S1 at*;simp[Jfo hp',Jbh (me:=.pop0) rfl hp',e3,e2,Line,e1];have l1:S1.length=S.length:=by rw[<-hS1,Em]
    refine⟨rfl,(show Keep [p,q] S S1 by rw[<-hS1];exact .set (by simp)).trans (.set (by simp)),?_,?_⟩
    ·rw[Aw hpq.symm,<-hS1,Jar hp]
    ·rw[Jar hq1];simp[pD]
 |_=>cases hz
noncomputable def Uv(F:Fx)(p:List Int)(st:List Pt)(r:Rw):Option (Bool×List Int×List Pt):=
 if Vu r then(if Vo st then some ((Wq F p r).1,(Wq F p r).2,st)else some (true,p,st))else Vn p st r
noncomputable def Wd4(p:List Int):Bool:= !p.isEmpty&&decide (p.getLastD 0≠0)
noncomputable def runP(F:Fx):List Rw->List Int->List Pt->Option Bool
 |[],p,_=>some (Wd4 p)
 |r::rs,p,st=>match Uv F p st r with
  |none=>none
  |some (true,p',st')=>runP F rs p' st'
  |some (false,_,_)=>some false
noncomputable def Wf(F:Fx)(lock:List Rw)(keys:List Int):Option Bool:=if(layP [] keys).1 then runP F lock (layP [] keys).2 []else some false
def Jn0{p:List Int}{st:List Pt}{z:Bool×List Int×List Pt}(h:p.length<=20)(hz:Uv F p st r=some z):z.2.1.length<=20/\z.2.2.length<=st.length+1:=by
 unfold Uv at hz;split at hz
 ·split at hz
  ·cases hz;refine⟨?_,by simp⟩;unfold Wq;split
   ·exact h
   ·exact Jjq (by simp;lia)
  ·cases hz;exact⟨h,by simp⟩
 ·cases r<;>simp only[Vn]at hz<;>try (cases hz;done)
  ·split at hz
   ·split at hz<;>cases hz<;>exact⟨by simp;lia,by simp⟩
   ·cases hz;exact⟨h,by simp⟩
  ·cases st<;>cases hz;exact⟨h,by simp⟩
  ·cases st<;>cases hz;exact⟨h,by simp;lia⟩
theorem Jyu(r:Rw)(S:Store):cop .inn (.str (word r)) (.tup [.str "if",.str "else",.str "end"]) S=some (!Vu r):=by
 cases r with
 |w x=>cases x<;>rfl
 |_=>rfl
inductive IOpens (F:Fx) (lock:List Rw) (kD:D) (p q:Nat) (B:Store) (b:Bool) (i:Nat) (Z:En) (S:Store):Prop
 |mk (pile st a c) (_:Z=[some (.tup (lock.map rD)),some kD,some (fD F),some (.loc p),some (.loc q),a,c]) (_:Ext B S) (_:S[p]? =some (pl pile)) (_:S[q]? =some (pts st)) (_:pile.length<=20) (_:st.length<=i) (_:runP F (lock.drop i) pile st=some b):IOpens F lock kD p q B b i Z S
theorem Jjl(n:Nat)(F:Fx)(lock:List Rw)(keys:List Int)(S:Store)(hl:lock.length<=500)(hk:keys.length<=500)(hb:Wf F lock keys=some b):
  ∃S',callN T G W (n+4) "opens" [.tup (lock.map rD),.tup (keys.map D.int),fD F] S=.ok (.bl b) S'/\Ext S S':=by
 suffices h:Sat (callN T G W (n+4) "opens" [.tup (lock.map rD),.tup (keys.map D.int),fD F] S) λd S'=>d=.bl b/\Ext S S' by
  obtain⟨d,S',e,rfl,x⟩:=h;exact⟨S',e,x⟩
 rw[Jab Jns rfl];simp[Jio,Line];obtain⟨d,S1,e1,rfl,eS⟩:=Jrh (W:=W) (n+2) (S:=S++[.lst [],.lst []]) (p:=S.length) (nD:=.tup (keys.map D.int)) (g:=none) (pile:=[]) (ns:=keys) Jat (by simp;lia) rfl (.inl rfl);have x1:Ext S S1:=by rw[eS];exact(Ext.new _ _).set (Aj _) _
 have hp1:S1[S.length]? =some (pl (layP [] keys).2):=by rw[eS];exact Jar (o:=.lst []) Jat
 have hq1:S1[S.length+1]? =some (pts []):=by
  rw[eS,Aw (by lia)];exact Jcd
 clear eS;simp[e1];unfold Wf at hb;cases hk:(layP [] keys).1 with
 |false=>
  rw[hk]at hb;cases hb;simp;exact x1
 |true=>
  rw[hk,if_pos rfl]at hb;simp;refine Sat.p2 (loop (IOpens F lock (.tup (keys.map D.int)) S.length (S.length+1) S b) (λd S'=>d=.bl b/\Ext S S') ⟨_,[],none,none,rfl,x1,hp1,hq1,Jjq (by simp),by simp,hb⟩ ?_) ?_
  ·rintro i d _ S2 hd ⟨pile,st,a,c,rfl,x2,hp,hq,hok,hst,hrun⟩;rw[Aq]at hd;obtain⟨r,hr,rfl⟩:=Al.mp hd;have hi:i<lock.length:=(Ae.mp hr).1;rw[Ce hi,(Ae.mp hr).2]at hrun;simp only[runP]at hrun;have fin:∀(z:Bool×List Int×List Pt) (S3:Store),Uv F pile st r=some z->Keep [S.length,S.length+1] S2 S3->S3[S.length]? =some (pl z.2.1)->S3[S.length+1]? =some (pts z.2.2)->
     Sat ((Wn (Cn T G W (n+3)) (.cns (.ret (.cst (.bl false))) .nul) .nul [some (.tup (lock.map rD)),some (.tup (keys.map D.int)),some (fD F),some (.loc S.length),some (.loc (S.length+1)),some (rD r),some (.bl !z.1)] (!z.1) S3).bind (kB (Cn T G W (n+3)) .nul)) (FlP (IOpens F lock (.tup (keys.map D.int)) S.length (S.length+1) S b (i+1)) λd S'=>d=.bl b/\Ext S S'):=by
    intro z S3 hz k3 hp3 hq3;have x3:Ext S S3:=x2.keep k3 (by simp);rw[hz]at hrun;obtain⟨z1,z2,z3⟩:=z;have g:=Jn0 hok hz;cases z1 with
    |false=>
     cases hrun;simp;exact x3
    |true=>
     simp;exact⟨z2,z3,_,_,rfl,x3,hp3,hq3,g.1,by have:=g.2;simp at this;lia,hrun⟩
   rw[Jap];simp[Jfw,Line,Jyu,-Wn,-kB];cases hn:Vu r with
   |false=>
    obtain⟨z,hz⟩:∃z,Vn pile st r=some z:=by
     cases hzz:Vn pile st r with
     |some z=>exact⟨z,rfl⟩
     |none=>simp[Uv,hn,hzz]at hrun
    obtain⟨_,S3,e,rfl,k3,hp3,hq3⟩:=turn (W:=W) (n+1) hp hq (by lia) (by lia) r hz;have f:=fin z S3 (by simp[Uv,hn,hz]) k3 hp3 hq3;simp[Wn,Jfw,e,kB]at f ⊢;exact f
   |true=>
    have ed:=is_done (W:=W) (n+2) hq;cases hdn:Vo st with
    |false=>
     have f:=fin (true,pile,st) S2 (by simp[Uv,hn,hdn]) .refl hp hq;rw[hdn]at ed;simp[Wn,ed,kB]at f ⊢;exact f
    |true=>
     obtain⟨_,S3,e,rfl,k3,hp3⟩:=do_row (W:=W) n hp F r hn hok;have f:=fin ((Wq F pile r).1,(Wq F pile r).2,st) S3 (by simp[Uv,hn,hdn]) (k3.mono (by simp)) hp3 (k3.get hq (by simp));rw[hdn]at ed;simp[Wn,ed,e,kB]at f ⊢;exact f
  ·intro fl S2 h;rcases h.nr with⟨_,rfl,pile,st,a,c,rfl,x2,hp,hq,hok,hst,hrun⟩|⟨d,rfl,hd⟩
   ·simp[runP]at hrun;have hlen:=Jav hp;rw[Ai]at hlen;simp[hlen]
    by_cases he:pile=[]
    ·subst he;simp;exact⟨by rw[<-hrun];rfl,x2⟩
    ·have hpos':0<pile.length:=Kq.mpr he;have hp':S2[S.length]? =some (.lst (pile.dropLast.map D.int++[D.int (pile.getLastD 0)])):=by
      rw[hp]
      conv=>lhs;rw[Jg8 he]
      simp
     simp[hpos'];rw[Jc1 hp'];simp;refine⟨?_,x2⟩;rw[<-hrun];simp[Wd4,he]
   ·simp;exact hd
end
abbrev PP:=Rdu.PK
structure Kp where
 w:Int
 lk:List Rw
 m:Int
 f:Int
noncomputable def kpD(k:Kp):D:=.tup [.int k.w,.tup (k.lk.map rD),.int k.m,.int k.f]
abbrev Cs:=List (PP×Kp)
noncomputable abbrev cp(c:Cs):List (PP×D):=c.map λp=>(p.1,kpD p.2)
noncomputable abbrev csO(c:Cs):Mi.Obj:=.dtu (cp c)
noncomputable abbrev dp(ns:List Int):List (Int×D):=ns.map λn=>(n,D.bl true)
noncomputable abbrev dnO(ns:List Int):Mi.Obj:=.dct (dp ns)
structure Dd where
 n:Int
 ins:List (PP×List Int)
 outs:List (Int×List Rw)
noncomputable def inD(i:PP×List Int):D:=.tup [dK i.1,.tup (i.2.map D.int)]
noncomputable def ouD(o:Int×List Rw):D:=.tup [.int o.1,.tup (o.2.map rD)]
noncomputable def ddD(d:Dd):D:=.tup [.int d.n,.tup (d.ins.map inD),.tup (d.outs.map ouD)]
noncomputable def nms(d:Dd):List PP:=d.ins.map (·.1)
noncomputable def Uz(d:Dd):List Int:=d.outs.map (·.1)
noncomputable def worth(d:Dd):Int:=(Uz d).sum
noncomputable def wOf(c:Cs)(k:PP):Int:=match dVal c k with|some k=>k.w|none=>0
noncomputable def spent(c:Cs)(d:Dd):Int:=(d.ins.map λi=>wOf c i.1).sum
noncomputable def fx(k:Kp)(d:Dd)(h:Int):Fx:=⟨h,if h-k.m<0 then 0 else h-k.m,k.w,d.ins.length,d.outs.length,Uz d⟩
noncomputable def inW(c:Cs)(d:Dd)(h:Int)(i:PP×List Int):Option String:=match dVal c i.1 with
 |none=>some "gone"
 |some k=>if h<k.f then some "green" else if Wf (fx k d h) k.lk i.2=some true then none else some "shut"
noncomputable def U6(c:Cs)(dn:List Int)(d:Dd)(h:Int):Option String:=
 if d.n∈dn then some "known" else if dst (nms d)<(nms d).length then some "twice" else match d.ins.findSome? (inW c d h)with
  |some x=>some x
  |none=>if d.ins≠[]/\spent c d<worth d then some "less" else none
@[simp]noncomputable def wD:Option String->D
 |none=>.non
 |some x=>.str x
noncomputable def dropO(c:Cs)(d:Dd):Nat->Cs
 |0=>c
 |i+1=>match d.ins[i]? with
  |some x=>dDrop (dropO c d i) x.1
  |none=>dropO c d i
noncomputable def putO(c:Cs)(d:Dd)(h f:Int):Nat->Cs
 |0=>dropO c d d.ins.length
 |i+1=>match d.outs[i]? with
  |some x=>dPut (putO c d h f i) (d.n,(i:Int)) ⟨x.1,x.2,h,f⟩
  |none=>putO c d h f i
noncomputable def W5(c:Cs)(d:Dd)(h f:Int):Cs:=putO c d h f d.outs.length
noncomputable def Xm(c:Cs)(d:Dd):Int:=if d.ins=[]then 0 else spent c d-worth d
section
variable {κ α β:Type} [DecidableEq κ] {c:List (κ×α)} {k k':κ} {v:α}
theorem Jbg{f:α->β}:dVal (c.map λp=>(p.1,f p.2)) k=(dVal c k).map f:=by
 unfold dVal;rw[Sj,Q3,Q3];rfl
def Jp5{f:α->β}:dPut (c.map λp=>(p.1,f p.2)) k (f v)=(dPut c k v).map λp=>(p.1,f p.2):=by
 unfold dPut;rw[Of];simp only[Bp];split
 ·rw[Bz,Bz];apply D8;intro p _;simp only[Bp];split<;>rfl
 ·simp
theorem Jnd{f:α->β}:dDrop (c.map λp=>(p.1,f p.2)) k=(dDrop c k).map λp=>(p.1,f p.2):=by
 unfold dDrop;rw[List.filter_map];rfl
def Jc4(h:dVal c k=some v):(k,v)∈c:=by
 unfold dVal at h;obtain⟨p,hp,rfl⟩:=Al.mp h;have h1:=List.find?_some hp;simp only[decide_eq_true_eq]at h1;subst h1;exact List.mem_of_find?_eq_some hp
def Jnc(h:k'≠k):dVal (dDrop c k) k'=dVal c k':=by
 unfold dVal dDrop;rw[List.find?_filter];congr 2;funext p
 by_cases e:p.1=k'
 ·simp[e,h]
 ·simp[e]
theorem Jnb(hn:(c.map (·.1)).Nodup){p:κ×α}(hp:p∈c):dVal c p.1=some p.2:=by
 induction c with
 |nil=>cases hp
 |cons a r ih=>
  rw[Av,Ci]at hn;unfold dVal;rw[C3];rcases An.mp hp with rfl|h
  ·simp
  ·have:a.1≠p.1:=λe=>hn.1 (e▸Bg.mpr ⟨p,h,rfl⟩);simp only[this,decide_false];exact ih hn.2 h
def Jdy(hp:p∈dPut c k v):p∈c\/p=(k,v):=by
 unfold dPut at hp;split at hp
 ·obtain⟨q,hq,rfl⟩:=Bg.mp hp;split
  ·rename_i e;exact .inr (by rw[e])
  ·exact .inl hq
 ·rcases Bo.mp hp with h|h
  ·exact .inl h
  ·exact .inr (As.mp h)
def Jc5:(dPut c k v).map (·.1)=c.map (·.1)\/((dPut c k v).map (·.1)=c.map (·.1)++[k]/\k∉c.map (·.1)):=by
 unfold dPut;split
 ·left;rw[Bz];apply D8;intro p _;simp only[Bp];split<;>rfl
 ·rename_i h;right;refine⟨by simp,λz=>h ?_⟩;obtain⟨p,hp,e⟩:=Bg.mp z;exact L3.mpr ⟨p,hp,by simp[e]⟩
def Jkr(hn:(c.map (·.1)).Nodup):((dPut c k v).map (·.1)).Nodup:=by
 rcases Jc5 (c:=c) (k:=k) (v:=v)with e|⟨e,h⟩
 ·rw[e];exact hn
 ·rw[e,Iy];exact⟨hn,by simp,λa ha b hb=>by rw[As.mp hb];rintro rfl;exact h ha⟩
def V2:(dDrop c k).Sublist c:=Pp
end
def Jut:(dVal (dp dn) x).isSome=decide (x∈dn):=by
 unfold dVal;rw[Ek,Sj,Ek,List.isSome_find?];rw[Md,L3];simp
def Juu(h:x∉dn):dPut (dp dn) x (.bl true)=dp (dn++[x]):=by
 unfold dPut;rw[if_neg]
 ·simp
 ·rw[Of,Bool.not_eq_true,Ll];intro y hy;simp;rintro rfl;exact h hy
def Jjy(h:S[q]? =some (dnO dn)):cop .inn (.int x) (.loc q) S=some (decide (x∈dn)):=by rw[Ju0 h,Jut]
theorem Jrt{ks:Nat->List Int}:∀{n i:Nat},i<n->ks i∈Sbl.dd ks n
 |n+1,i,h=>by
  unfold Sbl.dd
  by_cases e:i=n
  ·subst e;split
   ·assumption
   ·exact Bm
  ·have:=Jrt (ks:=ks) (show i<n by lia);split
   ·exact this
   ·exact Ay _ this
theorem Jzd{ks:Nat->List Int}:∀{n:Nat},(Sbl.dd ks n).length=n->∀{i j:Nat},i<j->j<n->ks i≠ks j
 |n+1,h,i,j,hij,hj=>by
  have hl:=Sbl.Jhh ks n;unfold Sbl.dd at h;split at h
  ·lia
  ·rename_i hn;simp only[A7]at h
   by_cases e:j=n
   ·subst e;intro z;exact hn (z▸Jrt hij)
   ·exact Jzd (n:=n) (by lia) hij (by lia)
def Jzb{ps:List PP}(h:¬dst ps<ps.length){i j:Nat}{x y:PP}(hij:i<j)(hx:ps[i]? =some x)(hy:ps[j]? =some y):x≠y:=by
 rintro rfl;have hj:=(Ae.mp hy).1;have:=Sbl.Jhh (λi=>[(ps.getD i (0,0)).1,(ps.getD i (0,0)).2]) ps.length;refine Jzd (ks:=λi=>[(ps.getD i (0,0)).1,(ps.getD i (0,0)).2]) (by unfold dst at h;lia) hij hj ?_;simp only[Eg,hx,hy]
def Jb6{d:Dd}(hw:U6 c dn d h=none):d.n∉dn/\¬dst (nms d)<(nms d).length/\(∀i∈d.ins,∃k,dVal c i.1=some k):=by
 unfold U6 at hw;split at hw
 ·cases hw
 ·rename_i h1;split at hw
  ·cases hw
  ·rename_i h2;refine⟨h1,h2,λi hi=>?_⟩;split at hw
   ·cases hw
   ·rename_i h3;have:=Ic.mp h3 i hi;unfold inW at this;split at this
    ·cases this
    ·exact⟨_,‹_›⟩
theorem Jga{d:Dd}(hd:¬dst (nms d)<(nms d).length):∀{i:Nat},(∀j<i,∀x,d.ins[j]? =some x->x.1≠k)->dVal (dropO c d i) k=dVal c k
 |0,_=>rfl
 |i+1,h=>by
  unfold dropO;split
  ·rename_i x hx;rw[Jnc (λe=>h i (by lia) x hx e.symm)];exact Jga hd λj hj=>h j (by lia)
  ·exact Jga hd λj hj=>h j (by lia)
def Jm7{c:Cs}{d:Dd}(hd:¬dst (nms d)<(nms d).length){i:Nat}{x:PP×List Int}(hx:d.ins[i]? =some x):dVal (dropO c d i) x.1=dVal c x.1:=by
 refine Jga hd λj hj y hy=>Jzb hd hj (by simp[nms,hy]) (by simp[nms,hx])
@[simp]theorem Jlp{S:Store}:seqAt (S++(.lst ds::X)) S.length=some ds:=Ja0 Jat
structure Hd(S:Store)(L u q:Nat)(c:Cs)(dn:List Int):Prop where
 l:S[L]? =some (.ins "Hoard" [("unspent",.loc u),("done",.loc q)])
 u:S[u]? =some (csO c)
 q:S[q]? =some (dnO dn)
section
variable {W n:Nat} {S S':Store} {L u q:Nat} {c:Cs} {dn:List Int} {ps:List Nat} {d:Dd} {h:Int}
def Hd.ext(a:Hd S L u q c dn)(k:Ext S S'):Hd S' L u q c dn:=⟨k.get a.l,k.get a.u,k.get a.q⟩
theorem Hd.fu(a:Hd S L u q c dn):X7 "Hoard" "unspent" (.loc L) S=.ok (.loc u) S:=Jei a.l rfl
theorem Hd.fq(a:Hd S L u q c dn):X7 "Hoard" "done" (.loc L) S=.ok (.loc q) S:=Jei a.l rfl
def Hd.rc(a:Hd S L u q c dn)(h1:(m=="unspent")=false:=by rfl)(h2:(m=="done")=false:=by rfl):isRec S (.loc L) "Hoard" m=true:=Jps a.l (by simp[C6,h1,h2])
def is_maker:callN T G W (n+1) "is_maker" [ddD d] S=.ok (.bl (decide (d.ins=[]))) S:=by
 rw[Jab Jh9 rfl];simp[Jdi,ddD]
def spent_by(hl:d.ins.length<=3):callN T G W (n+1) "spent_by" [ddD d] S=.ok (.loc S.length) (S++[.lst ((nms d).map dK)]):=by
 rw[Jab Jhz rfl];simp[Jdd,ddD];rw[Ja7 (xs:=d.ins) inD (λi=>dK i.1) (by lia) (.inl rfl) (λx _=>by simp[Jal,Us,inD])];simp[nms,Bp]
def Jbk(hl:d.outs.length<=3)(ht:∀x∈d.outs,Vz C (.tvar 0) .nul el (ouD x) (Us 1 [] Z) S=.ok (some (.int x.1)) S):Wh C 1 [] (.tvar 0) .nul el Z (none,d.outs.map ouD) S=.ok (.loc S.length) (S++[pl (Uz d)]):=by
 rw[Ja7 (xs:=d.outs) ouD (λi=>.int i.1) (by lia) (.inl rfl) ht];simp[Uz,Bp]
def Je6(ns:List Int):Uo .sum1 [.loc S.length] (S++[pl ns])=.ok (.int ns.sum) (S++[pl ns]):=by
 have:=Jbu (S:=S) id ns;simp only[id,List.map_id]at this;exact this
def worth_of(hl:d.outs.length<=3):callN T G W (n+1) "worth_of" [ddD d] S=.ok (.int (worth d)) (S++[pl (Uz d)]):=by
 rw[Jab Jhy rfl];simp[Jdc,ddD];rw[Jbk hl (λx _=>by simp[Jal,Us,ouD])];simp only[Res.bind_ok,Ve,Vm,U0];rw[Je6];simp[worth]
theorem Jyh(xs:List PP):Wv kyD (xs.map dK)=some xs:=by
 induction xs with
 |nil=>rfl
 |cons a r ih=>simp only[Av,Wv,kyD,ih]
def Jrf{xs:List PP}(hS:S[l]? =some (.lst (xs.map dK)))(hl:xs.length<=3):Xi (.loc l) S=.ok (.int (dst xs)) S:=by
 simp only[Xi,Ja0 hS,Gz,Jyh,if_pos (show xs.length<4 by lia)]
def has_twice{xs:List PP}(hS:S[l]? =some (.lst (xs.map dK)))(hl:xs.length<=3):callN T G W (n+1) "has_twice" [.loc l] S=.ok (.bl (decide (dst xs<xs.length))) S:=by
 rw[Jab Jgo rfl];simp[Jco,Jrf hS hl,Jav hS]
def facts_of(hl:d.outs.length<=3):callN T G W (n+1) "facts_of" [kpD k,ddD d,.int h] S=.ok (fD (fx k d h)) (S++[pl (Uz d)]):=by
 rw[Jab Jia rfl];simp[Jdj,ddD,kpD,Jzw,Jnt];rw[Jbk hl (λx _=>by simp[Jal,Us,ouD])];simp only[Res.bind_ok,Ve,Vm,U0];rw[Jaj Jac];simp[Line,fD,fx,Uz]
def W3(lk:List Rw):Prop:=lk.length<=6/\∀F keys,∃b,Wf F lk keys=some b
structure Ok1(p:PP×Kp):Prop where
 a:0<=p.1.1/\p.1.1<345/\0<=p.1.2/\p.1.2<3
 w:p.2.w<=10^40
 lk:W3 p.2.lk
structure Gc(c:Cs):Prop where
 nd:(c.map (·.1)).Nodup
 ok:∀p∈c,Ok1 p
structure Gd(dn:List Int):Prop where
 nd:dn.Nodup
 ok:∀x∈dn,0<=x/\x<345
structure Wa(d:Dd):Prop where
 n:0<=d.n/\d.n<345
 i:d.ins.length<=3
 o:d.outs.length<=3
 k:∀i∈d.ins,i.2.length<=3
 w:∀o∈d.outs,o.1<=10^40/\W3 o.2
theorem fault_of_in(a:Hd S L u q c dn)(g:Gc c)(g2:Wa d)(hi:i∈d.ins):∃S',callN T G W (n+5) "Hoard.fault_of_in" [.loc L,inD i,ddD d,.int h] S=.ok (wD (inW c d h i)) S'/\Ext S S':=by
 rw[Jab Jb3 rfl];have e1:=Jmk (p:=i.1) a.u;rw[show cp c=c.map λp=>(p.1,kpD p.2)from rfl,Jbg]at e1;have e2:=Y1 (me:=.get1) rfl a.u;simp only[inW];cases hv:dVal c i.1 with
 |none=>
  rw[hv]at e1;simp[Jao,a.fu,inD,e1,e2,wD];exact .refl _
 |some k=>
  rw[hv]at e1;simp only[E8,Option.getD_some]at e1;dsimp only
  by_cases hh:h<k.f
  ·rw[if_pos hh];simp only[kpD]at e1;simp[Jao,a.fu,inD,e1,e2,wD,Jrz,hh];exact .refl _
  ·rw[if_neg hh];have o1:=g.ok _ (Jc4 hv);obtain⟨b,hb⟩:=o1.lk.2 (fx k d h) i.2;have e3:=facts_of (W:=W) (n:=n+3) (S:=S) (h:=h) (k:=k) g2.o;obtain⟨S2,e4,x2⟩:=Jjl (W:=W) n (fx k d h) k.lk i.2 (S++[pl (Uz d)]) (by have:=o1.lk.1;simp at this;lia) (by have:=g2.k i hi;lia) hb;simp only[kpD]at e1 e3;simp[Jao,a.fu,inD,e1,e2,Jrz,Jzx,hh,e3];simp[e4,hb];cases b<;>simp[wD]<;>exact(Ext.new _ _).trans x2
def worth_spent(a:Hd S L u q c dn)(hl:d.ins.length<=3)(hv:∀i∈d.ins,∃k,dVal c i.1=some k):callN T G W (n+2) "Hoard.worth_spent" [.loc L,ddD d] S=.ok (.int (spent c d)) (S++[.lst ((nms d).map dK),pl ((nms d).map (wOf c))]):=by
 rw[Jab Jb2 rfl];simp[Jaz,spent_by (W:=W) (n:=n) (S:=S) hl];have a1:=a.ext (.new S [.lst ((nms d).map dK)]);rw[Ja7 (xs:=nms d) dK (λi=>.int (wOf c i)) (by simp[nms];lia) (.inr ⟨_,rfl,Jac⟩) (λx hx=>by
  obtain⟨i,hi,rfl⟩:=Bg.mp hx;obtain⟨k,hk⟩:=hv i hi;have:dVal (cp c) i.1=some (kpD k):=by rw[Jbg,hk];rfl
  simp[Jal,Us,a1.fu,Jf3 a1.u this,Jnt,wOf,hk];simp[kpD])]
 have:=Je6 (S:=S++[.lst ((nms d).map dK)]) ((nms d).map (wOf c));simp only[pl,Bz,Bp]at this;simp only[Res.bind_ok,Ve,Vm,U0];rw[this];simp[spent,nms,Bp]
end
section
variable {W n:Nat} {S S':Store} {L u q:Nat} {c:Cs} {dn:List Int} {ps:List Nat} {d:Dd} {h f:Int}
def Sat.to{P:Store->Prop}(h:Sat r λd S'=>d=x/\P S'):∃S',r=.ok x S'/\P S':=by
 obtain⟨d,S',e,rfl,p⟩:=h;exact⟨S',e,p⟩
@[simp]theorem J3n:Jaq (ddD d) (.int 0) S=.ok (.int d.n) S:=Jbn
@[simp]theorem J3m:Jaq (ddD d) (.int 1) S=.ok (.tup (d.ins.map inD)) S:=Jdx
@[simp]theorem J3l:Jaq (ddD d) (.int 2) S=.ok (.tup (d.outs.map ouD)) S:=Jjr
@[simp]theorem J3k{i:PP×List Int}:Jaq (inD i) (.int 0) S=.ok (dK i.1) S:=Jbn
@[simp]theorem J3h{o:Int×List Rw}:Jaq (ouD o) (.int 0) S=.ok (.int o.1) S:=Jbn
@[simp]theorem J3g{o:Int×List Rw}:Jaq (ouD o) (.int 1) S=.ok (.tup (o.2.map rD)) S:=Jdx
@[simp]theorem J3j{k:Kp}:Jaq (kpD k) (.int 0) S=.ok (.int k.w) S:=Jbn
@[simp]theorem J3i{k:Kp}:Jaq (kpD k) (.int 1) S=.ok (.tup (k.lk.map rD)) S:=Jdx
theorem sub_len{α:Type}[DecidableEq α]:∀{l m:List α},l.Nodup->(∀x∈l,x∈m)->l.length<=m.length
 |[],m,_,_=>Cp _
 |x::l,m,hn,hs=>by
  rw[Ci]at hn;have hx:=hs x Bm;have:=sub_len (m:=m.erase x) hn.2 λy hy=>(Pb (by rintro rfl;exact hn.1 hy)).mpr (hs y (Ay _ hy));rw[Nv hx]at this;have:=Od hx;simp only[A7];omega
noncomputable def nums:List Int:=(B1 345).map λ(i:Nat)=>(i:Int)
def Jjm(h:0<=x/\x<345):x∈nums:=Bg.mpr ⟨x.toNat,by simp;lia,by lia⟩
def Gd.len(g:Gd dn):dn.length<=345:=by
 have:=sub_len g.nd λx hx=>Jjm (g.ok x hx);rwa[nums,Ai,Et]at this
def Gc.len(g:Gc c):c.length<=1035:=by
 have:=sub_len (m:=nums.map (λi=>(i,(0:Int)))++(nums.map (λi=>(i,(1:Int)))++nums.map λi=>(i,(2:Int)))) g.nd λx hx=>by
  obtain⟨p,hp,rfl⟩:=Bg.mp hx;have z:=(g.ok p hp).a;have hm:=Jjm ⟨z.1,z.2.1⟩;simp only[Bo,Bg];rcases(show p.1.2=0\/p.1.2=1\/p.1.2=2 by lia)with e|e|e
  ·exact .inl ⟨_,hm,by rw[<-e]⟩
  ·exact .inr (.inl ⟨_,hm,by rw[<-e]⟩)
  ·exact .inr (.inr ⟨_,hm,by rw[<-e]⟩)
 simp only[Ai,Bd,nums,Et]at this
 lia
def Gc.apt(g:Gc c):W8 ((cp c).map (·.1))=true:=by
 simp only[W8,cp,Bz,Bp,Ah,Ef,decide_eq_true_eq];refine⟨λp hp=>?_,g.nd⟩;obtain⟨x,hx,rfl⟩:=Bg.mp hp;have:=(g.ok x hx).a;exact⟨⟨⟨this.1,this.2.1⟩,this.2.2.1⟩,this.2.2.2⟩
def Gc.drop(g:Gc c)(k:PP):Gc (dDrop c k):=⟨g.nd.sublist (V2.map _),λp hp=>g.ok p (V2.subset hp)⟩
def Gc.put(g:Gc c)(hv:Ok1 (k,v)):Gc (dPut c k v):=⟨Jkr g.nd,λp hp=>(Jdy hp).elim (g.ok p) λe=>e▸hv⟩
theorem Gc.dropO(g:Gc c):∀i,Gc (dropO c d i)
 |0=>g
 |i+1=>by
  unfold K24.dropO;split
  ·exact(g.dropO i).drop _
  ·exact g.dropO i
theorem Gc.putO(g:Gc c)(g2:Wa d):∀i,Gc (putO c d h f i)
 |0=>g.dropO _
 |i+1=>by
  unfold K24.putO;split
  ·rename_i x hx;have hl:=(Ae.mp hx).1;have:=g2.o;have hw:=g2.w x (Ba hx);exact(g.putO g2 i).put ⟨⟨g2.n.1,g2.n.2,Lb _,by show(i:Int)<3;lia⟩,hw.1,hw.2⟩
  ·exact g.putO g2 i
def Gd.add(g:Gd dn)(h1:x∉dn)(h2:0<=x/\x<345):Gd (dn++[x]):=⟨by
 rw[Iy];exact⟨g.nd,by simp,λa ha b hb=>by rw[As.mp hb];rintro rfl;exact h1 ha⟩,λy hy=>(Bo.mp hy).elim (g.ok y) λe=>As.mp e▸h2⟩
def did(a:Hd S L u q c dn):callN T G W (n+1) "Hoard.did" [.loc L,.int x] S=.ok (.bl (decide (x∈dn))) S:=by
 rw[Jab Jgr rfl];simp[Jcq,a.fq,Jjy a.q]
inductive IFau (S:Store) (L:Nat) (c:Cs) (d:Dd) (h:Int) (i:Nat) (Z:En) (S':Store):Prop
 |mk (x y) (_:Z=[some (.loc L),some (ddD d),some (.int h),x,y]) (_:Ext S S') (_:d.ins.findSome? (inW c d h)=(d.ins.drop i).findSome? (inW c d h)):IFau S L c d h i Z S'
inductive RFau (S:Store) (c:Cs) (d:Dd) (h:Int) (r:D) (S':Store):Prop
 |mk (x) (_:d.ins.findSome? (inW c d h)=some x) (_:r=.str x) (_:Ext S S'):RFau S c d h r S'
def fault(a:Hd S L u q c dn)(g:Gc c)(g2:Wa d):∃S',callN T G W (n+6) "Hoard.fault" [.loc L,ddD d,.int h] S=.ok (wD (U6 c dn d h)) S'/\Ext S S':=by
 rw[Jab Je0 rfl];have e1:=did (W:=W) (n:=n+4) (x:=d.n) a;have e2:=spent_by (W:=W) (n:=n+4) (S:=S) g2.i;have e3:=has_twice (W:=W) (n:=n+4) (S:=S++[.lst ((nms d).map dK)]) (xs:=nms d) Jac (by simp[nms];exact g2.i);unfold U6
 by_cases h1:d.n∈dn
 ·simp[Ja2,a.rc (m:="did"),e1,h1];exact .refl _
 by_cases h2:dst (nms d)<(nms d).length
 ·simp[Ja2,a.rc (m:="did"),e1,h1,e2,e3,h2];exact .new _ _
 refine Sat.to ?_;simp[Ja2,a.rc (m:="did"),e1,h1,e2,e3,h2];refine Sat.p2 (loop (IFau S L c d h) (RFau S c d h) ⟨none,none,rfl,.new _ _,by simp⟩ ?_) ?_
 ·rintro i z _ S2 hd ⟨x,y,rfl,x2,hf⟩;rw[Aq]at hd;obtain⟨r,hr,rfl⟩:=Al.mp hd;have hi:i<d.ins.length:=(Ae.mp hr).1;rw[Ce hi,(Ae.mp hr).2,Po]at hf;have a2:=a.ext x2;obtain⟨S3,e4,x3⟩:=fault_of_in (W:=W) (n:=n) (h:=h) a2 g g2 (Ba hr);rw[Jap];simp[a2.rc (m:="fault_of_in"),e4];cases hw:inW c d h r with
  |none=>
   rw[hw]at hf;simp;exact⟨_,_,rfl,x2.trans x3,hf⟩
  |some w=>
   rw[hw]at hf;simp;exact⟨w,hf,rfl,x2.trans x3⟩
 ·intro fl S2 hh;rcases hh.nr with⟨_,rfl,x,y,rfl,x2,hf⟩|⟨r,rfl,x,hf,rfl,x2⟩
  ·rw[Ai,G7]at hf;have hn:=Ic.mp hf;have hv:∀i∈d.ins,∃k,dVal c i.1=some k:=λi hi=>by
    have:=hn i hi;unfold inW at this;split at this
    ·cases this
    ·exact⟨_,‹_›⟩
   rw[hf];have e5:=is_maker (W:=W) (n:=n+4) (S:=S2) (d:=d)
   by_cases hm:d.ins=[]
   ·simp[e5,hm];exact x2
   ·have e6:=worth_of (W:=W) (n:=n+4) (S:=S2) g2.o;have a3:=(a.ext x2).ext (.new S2 [pl (Uz d)]);have e7:=worth_spent (W:=W) (n:=n+3) a3 g2.i hv;simp[e5,hm,e6,a3.rc (m:="worth_spent"),e7]
    by_cases hs:spent c d<worth d
    ·simp[hs];exact x2.trans (.new _ _)
    ·simp[hs];exact x2.trans (.new _ _)
  ·simp[hf];exact x2
def fee(a:Hd S L u q c dn)(g2:Wa d)(hv:∀i∈d.ins,∃k,dVal c i.1=some k):∃S',callN T G W (n+3) "Hoard.fee" [.loc L,ddD d] S=.ok (.int (Xm c d)) S'/\Ext S S':=by
 rw[Jab Jgq rfl];have e5:=is_maker (W:=W) (n:=n+1) (S:=S) (d:=d);unfold Xm
 by_cases hm:d.ins=[]
 ·simp[Jbq,e5,hm];exact .refl _
 ·have e7:=worth_spent (W:=W) (n:=n) a g2.i hv;have e6:=worth_of (W:=W) (n:=n+1) (S:=S++[.lst ((nms d).map dK),pl ((nms d).map (wOf c))]) g2.o;simp[Jbq,e5,hm,a.rc (m:="worth_spent"),e7];simp at e6;simp[e6];exact .new _ _
def Jog(hl:d.outs.length<=3):Xj (.int (d.outs.length:Int)) S=.ok (none,(B1 d.outs.length).map λ(i:Nat)=>.int i) S:=by
 rw[Jch (by lia) (by lia)];simp
def Jya:Vz C (.tvar 0) .nul (.tup (.cns (.idx (.var 1) (.cst (.int 0))) (.cns (.var 0) .nul))) (.int x) (Us 1 [0] [some (ddD d)]) S=.ok (some (dK (d.n,(x:Int)))) S:=by
 simp[Jal,Us];simp[Line]
def Jsv(hl:k<=1000):(B1 k).length<=1000000:=by rw[Et];exact Bu hl (by decide)
def made_by(hl:d.outs.length<=3):callN T G W (n+1) "made_by" [ddD d] S=.ok (.loc S.length) (S++[.lst ((B1 d.outs.length).map λ(j:Nat)=>dK (d.n,(j:Int)))]):=by
 rw[Jab Jix rfl];simp[Jeo,Jog hl];rw[Ja7 (xs:=B1 d.outs.length) (λ(i:Nat)=>D.int i) (λ(j:Nat)=>dK (d.n,(j:Int))) (Jsv (by lia)) (.inl rfl) (λx _=>Jya)];simp only[Res.bind_ok,X6,kB,W7]
end
local macro_rules|`(tactic|simp!)=>`(tactic|simp -implicitDefEqProofs)|`(tactic|simp![$a,*])=>`(tactic|simp -implicitDefEqProofs[$a,*])
section
variable {W n:Nat} {S S':Store} {L u q:Nat} {c:Cs} {dn:List Int} {ps:List Nat} {d:Dd} {h f:Int}
def Hd.uq(a:Hd S L u q c dn):u≠q:=by
 rintro rfl;have:=a.u.symm.trans a.q;cases this
def Hd.lu(a:Hd S L u q c dn):L≠u/\L≠q:=by
 constructor<;>rintro rfl
 ·have:=a.l.symm.trans a.u;cases this
 ·have:=a.l.symm.trans a.q;cases this
def pop_at(hu:S[u]? =some (csO c))(hv:dVal c k=some v):Uw .pop1 (.loc u) [dK k] S=.ok (kpD v) (S.set u (csO (dDrop c k))):=by
 have:=Jmj (p:=k) (d:=kpD v) hu (by rw[Jbg,hv];rfl);rw[this,Jnd]
def Jq6(hu:S[u]? =some (csO c))(g:Gc c):Vi (.loc u) (dK k) (kpD v) S=.ok () (S.set u (csO (dPut c k v))):=by
 rw[Jn8 hu (by rw[Ai];have:=g.len;unfold Line;lia),Jp5]
def Jq5(hq:S[q]? =some (dnO dn))(g:Gd dn)(hx:x∉dn):Vi (.loc q) (.int x) (.bl true) S=.ok () (S.set q (dnO (dn++[x]))):=by
 rw[Jn9 hq (by rw[Ai];have:=g.len;unfold Line;lia),Juu hx]
def Jm8{x:PP×List Int}(hx:d.ins[i]? =some x):dropO c d (i+1)=dDrop (dropO c d i) x.1:=by simp only[dropO,hx]
def Jq7{x:Int×List Rw}(hx:d.outs[i]? =some x):putO c d h f (i+1)=dPut (putO c d h f i) (d.n,(i:Int)) ⟨x.1,x.2,h,f⟩:=by simp only[putO,hx]
inductive IPop (S:Store) (L u:Nat) (c:Cs) (d:Dd) (h f:Int) (nt:D) (i:Nat) (Z:En) (S':Store):Prop
 |mk (x) (_:Z=[some (.loc L),some (ddD d),some (.int h),some (.int f),some .non,some nt,x,none]) (_:Keep [u] S S') (_:S'[u]? =some (csO (dropO c d i))):IPop S L u c d h f nt i Z S'
inductive IPut (S:Store) (L u:Nat) (c:Cs) (d:Dd) (h f:Int) (nt:D) (i:Nat) (Z:En) (S':Store):Prop
 |mk (x y) (_:Z=[some (.loc L),some (ddD d),some (.int h),some (.int f),some .non,some nt,x,y]) (_:Keep [u] S S') (_:S'[u]? =some (csO (putO c d h f i))):IPut S L u c d h f nt i Z S'
def Jzc(a:Hd S L u q c dn)(g:Gc c)(gd:Gd dn)(g2:Wa d)(hw:U6 c dn d h=none):Sat (callN T G W (n+7) "Hoard.do" [.loc L,ddD d,.int h,.int f] S) λ_ S'=>Keep [u,q] S S'/\Hd S' L u q (W5 c d h f) (dn++[d.n]):=by
 rw[Jab Jic rfl];obtain⟨hn,h2,hv⟩:=Jb6 hw;obtain⟨S1,e1,x1⟩:=fault (W:=W) (n:=n) (h:=h) a g g2;rw[hw]at e1;have a1:=a.ext x1;have e2:=λS=>spent_by (W:=W) (n:=n+5) (S:=S) g2.i;simp[Jdl,a.rc (m:="fault"),e1,e2];have a2:=a1.ext (.new S1 [.lst ((nms d).map dK)]);have hlen:(nms d).length=d.ins.length:=by simp[nms]
 have i3:=g2.i;rw[Ja7 (xs:=nms d) dK (λi=>.tup [dK i,(((dVal c i).map kpD).getD .non)]) (by lia) (.inr ⟨_,rfl,Jac⟩) (λx hx=>by
  obtain⟨i,hi,rfl⟩:=Bg.mp hx;obtain⟨k,hk⟩:=hv i hi;have:dVal (cp c) i.1=some (kpD k):=by rw[Jbg,hk];rfl
  simp[Jal,Us,a2.fu,Jf3 a2.u this,hk];simp[Line])]
 simp only[Res.bind_ok,Ve,Vm,U0];rw[Jaj Jac];generalize hnt:(D.tup ((nms d).map λi=>.tup [dK i,(((dVal c i).map kpD).getD .non)]))=nt1;have a3:=a2.ext (.new (S1++[.lst ((nms d).map dK)]) [.lst ((nms d).map λi=>.tup [dK i,(((dVal c i).map kpD).getD .non)])]);generalize hS3:S1++[.lst ((nms d).map dK)]++[.lst ((nms d).map λi=>.tup [dK i,(((dVal c i).map kpD).getD .non)])]=S3 at a3;have x3:Ext S S3:=by rw[<-hS3];exact(x1.trans (.new _ _)).trans (.new _ _)
 clear hS3 a2 hnt;simp only[Res.bind_ok,Ve,Vm,U0,Wdw,A7,Eo,if_pos (show 0+1+1<=Line by decide),Zg,Jqj];simp[e2];have a5:=a3.ext (.new S3 [.lst ((nms d).map dK)]);have x5:=x3.trans (.new S3 [.lst ((nms d).map dK)]);have hl5:(S3++[Obj.lst ((nms d).map dK)])[S3.length]? =some (.lst ((nms d).map dK)):=Jac;have hul:u<S3.length:=Ja3 a3.u;generalize S3++[Obj.lst ((nms d).map dK)]=S5 at a5 x5 hl5;refine Sat.p2 (X2 (IPop S5 L u c d h f (.tup [ddD d,nt1])) noR ⟨none,rfl,.refl,a5.u⟩ (λi Z S4 ⟨x,_,k4,_⟩=>k4.get hl5 (by simp;lia)) ?_) ?_
 ·rintro i z _ S4 hd ⟨x,rfl,k4,hu⟩;rw[Aq]at hd;obtain⟨k,hk,rfl⟩:=Al.mp hd;rw[nms,Aq]at hk;obtain⟨j,hj,rfl⟩:=Al.mp hk;obtain⟨v,hv⟩:=hv j (Ba hj);have e:=pop_at hu ((Jm7 h2 hj).trans hv);have r:=Y1 (me:=.pop1) rfl hu;have ff:=Jei (f:="unspent") (k4.get a5.l (by simp;exact a5.lu.1)) rfl;rw[Jap];simp[ff,e,r];exact⟨_,rfl,k4.trans (.set (by simp)),by rw[Jar hu,Jm8 hj]⟩
 ·intro fl S6 hh;obtain⟨_,rfl,x,rfl,k6,hu6⟩:=hh.nx;simp only[Ai,hlen]at hu6;have e3:=made_by (W:=W) (n:=n+5) (S:=S6) g2.o;simp! [e3];have o3:=g2.o;simp only[zpD,Jlp,Ai,Et,if_true,Res.bind_ok];have k7:Keep [u] S5 (S6++[.lst ((B1 d.outs.length).map λ(j:Nat)=>dK (d.n,(j:Int)))]):=k6.trans (.new _);have hu7:=Jag (X:=[.lst ((B1 d.outs.length).map λ(j:Nat)=>dK (d.n,(j:Int)))]) hu6;have hl7:(S6++[Obj.lst ((B1 d.outs.length).map λ(j:Nat)=>dK (d.n,(j:Int)))])[S6.length]? =some (.lst ((B1 d.outs.length).map λ(j:Nat)=>dK (d.n,(j:Int)))):=Jac;have hu6l:=Ja3 hu6;generalize S6++[Obj.lst ((B1 d.outs.length).map λ(j:Nat)=>dK (d.n,(j:Int)))]=S7 at k7 hu7 hl7;refine Sat.p2 (Wz (IPut S7 L u c d h f (.tup [ddD d,nt1])) noR ⟨_,_,rfl,.refl,hu7⟩ (λi Z S8 ⟨x,y,_,k8,_⟩=>?_) ?_) ?_
  ·have:=k8.get hl7 (by simp;lia);simp[sameAt,this]
  ·rintro i _ S8 hi ⟨x,y,rfl,k8,hu8⟩;have hi:i<d.outs.length:=by simpa using hi
   have hl8:=k8.get hl7 (by simp;lia);refine⟨.tup [dK (d.n,(i:Int)),ouD d.outs[i]],by simp[nth,Ja0 hl8,hi],?_⟩;have ff:=Jei (f:="unspent") (k8.get (k7.get a5.l (by simp;exact a5.lu.1)) (by simp;exact a5.lu.1)) rfl;have e:=Jq6 (k:=(d.n,(i:Int))) (v:=⟨d.outs[i].1,d.outs[i].2,h,f⟩) hu8 (g.putO g2 i);simp only[kpD]at e;rw[Jap];simp[ff];rw[if_pos (by decide)];simp[ff,e];exact⟨_,_,rfl,k8.trans (.set (by simp)),by rw[Jar hu8,Jq7 (Ag hi)]⟩
  ·intro fl S9 hh;obtain⟨_,rfl,x,y,rfl,k9,hu9⟩:=hh.nx;simp only[Ai]at hu9;have a9l:=k9.get (k7.get a5.l (by simp;exact a5.lu.1)) (by simp;exact a5.lu.1);have a9q:=k9.get (k7.get a5.q (by simp;exact a5.uq.symm)) (by simp;exact a5.uq.symm);have ff:=Jei (f:="done") a9l rfl;simp[ff,Jq5 a9q gd hn];refine⟨((Keep.ext x5).trans (k7.mono (by simp))).trans ((k9.mono (by simp)).trans (.set (by simp))),?_,?_,?_⟩
   ·rw[Aw a5.lu.2.symm];exact a9l
   ·rw[Aw a5.uq.symm];exact hu9
   ·exact Jar a9q
def init:callN T G W (n+1) "Hoard.__init__" [.loc S.length] (S++[.ins "Hoard" []])=.ok .non (S++[.ins "Hoard" [("unspent",.loc (S.length+1)),("done",.loc (S.length+2))],.dtu [],.dct []]):=by
 rw[Jab Jc9 rfl];have h0:(S++[Obj.ins "Hoard" [],.dtu []])[S.length]? =some (.ins "Hoard" []):=Jat;have h1:(S++[Obj.ins "Hoard" [("unspent",.loc (S.length+1))],.dtu [],.dct []])[S.length]? =some (.ins "Hoard" [("unspent",.loc (S.length+1))]):=Jat;simp[Ja6];rw[Jfs h0 (by simp)];simp[putD];rw[Jfs h1 (by simp)];simp[putD]
def Jx6:evE (Cn T G W (n+1)) (.new "Hoard" "Hoard.__init__") Z S=.ok (.loc S.length) (S++[.ins "Hoard" [("unspent",.loc (S.length+1)),("done",.loc (S.length+2))],.dtu [],.dct []]):=by
 rw[Jvn];simp[init]
def copied(a:Hd S L u q c dn)(g:Gc c):∃S' u' q',callN T G W (n+2) "Hoard.copied" [.loc L] S=.ok (.loc S.length) S'/\Ext S S'/\S.length<=u'/\S.length<=q'/\Hd S' S.length u' q' c dn:=by
 rw[Jab Jdr rfl];simp! [Jbi,Jx6,-Jvn];have a1:=a.ext (.new S [.ins "Hoard" [("unspent",.loc (S.length+1)),("done",.loc (S.length+2))],.dtu [],.dct []]);have x1:=Ext.new S [.ins "Hoard" [("unspent",.loc (S.length+1)),("done",.loc (S.length+2))],.dtu [],.dct []];have h1:(S++[Obj.ins "Hoard" [("unspent",.loc (S.length+1)),("done",.loc (S.length+2))],.dtu [],.dct []])[S.length]? =some (.ins "Hoard" [("unspent",.loc (S.length+1)),("done",.loc (S.length+2))]):=Jat;generalize S++[Obj.ins "Hoard" [("unspent",.loc (S.length+1)),("done",.loc (S.length+2))],.dtu [],.dct []]=S1 at a1 x1 h1;have hl:L<S.length:=Ja3 a.l;have hs:=Ja3 h1;simp[a1.fu,Jgc a1.u g.apt];rw[Jfs (Jag h1) (by simp)];simp[putD];have h2:((S1++[csO c]).set S.length (.ins "Hoard" [("unspent",.loc S1.length),("done",.loc (S.length+2))]))[S.length]? =some (.ins "Hoard" [("unspent",.loc S1.length),("done",.loc (S.length+2))]):=Jar (Jag h1);have x2:=(x1.trans (.new S1 [csO c])).set (Aj _) (.ins "Hoard" [("unspent",.loc S1.length),("done",.loc (S.length+2))]);have u2:((S1++[csO c]).set S.length (.ins "Hoard" [("unspent",.loc S1.length),("done",.loc (S.length+2))]))[S1.length]? =some (csO c):=by
  rw[Aw (by lia)];exact Jac
 generalize(S1++[csO c]).set S.length (.ins "Hoard" [("unspent",.loc S1.length),("done",.loc (S.length+2))])=S2 at h2 x2 u2;have a2:=a.ext x2;have hs2:=Ja3 u2;simp[a2.fq,Jgd a2.q];rw[Jfs (Jag h2) (by simp)];simp[putD];refine⟨(x2.trans (.new S2 [dnO dn])).set (Aj _) _,S1.length,by lia,S2.length,by lia,Jar (Jag h2),?_,?_⟩
 ·rw[Aw (by lia)];exact Jag u2
 ·rw[Aw (by lia)];exact Jac
end
structure Rl where
 a:Int
 b:Int
 c:Int
noncomputable def rlD(r:Rl):D:=.tup [.int r.a,.int r.b,.int r.c]
structure RlOk(r:Rl):Prop where
 a:0<=r.a/\r.a<=10^40
 b:1<=r.b/\r.b<=1000
noncomputable def U1(r:Rl)(h:Int):Int:=r.a/2^(min 200 ((h-1)/r.b).toNat)
structure Bk where
 x:Int
 y:Int
 z:Int
 ds:List Dd
noncomputable def bkD(b:Bk):D:=.tup [.int b.x,.int b.y,.int b.z,.tup (b.ds.map ddD)]
structure BkOk(ds:List Dd):Prop where
 ok:∀d∈ds,Wa d
 l:ds.length<=20
 mr:∀i d,ds[i]? =some d->(d.ins=[]↔i=0)
 ne:0<ds.length
noncomputable def goP(h w:Int):Nat->Cs->List Int->Int->List Dd->Option (Nat×String)×Cs×List Int×Int
 |_,c,dn,f,[]=>(none,c,dn,f)
 |j,c,dn,f,d::ds=>match U6 c dn d h with
  |some x=>(some (j,x),c,dn,f)
  |none=>goP h w (j+1) (W5 c d h (if j=0 then h+w else h)) (dn++[d.n]) (f+Xm c d) ds
noncomputable def first(ds:List Dd):Int:=match ds with
 |[]=>0
 |d::_=>worth d
noncomputable def bfP(r:Rl)(h:Int)(c:Cs)(dn:List Int)(ds:List Dd):Option (Nat×String):=match(goP h r.c 0 c dn 0 ds).1 with
 |some x=>some x
 |none=>if U1 r h+(goP h r.c 0 c dn 0 ds).2.2.2<first ds then some (0,"much")else none
@[simp]noncomputable def bwD:Option (Nat×String)->D
 |none=>.non
 |some (j,x)=>.tup [.int j,.str x]
section
variable {W n:Nat} {S S':Store} {L u q:Nat} {c:Cs} {dn:List Int} {ps:List Nat} {d:Dd} {h f:Int} {r:Rl} {b:Bk}
@[simp]theorem J3f:Jaq (rlD r) (.int 0) S=.ok (.int r.a) S:=Jbn
@[simp]theorem J3e:Jaq (rlD r) (.int 1) S=.ok (.int r.b) S:=Jdx
@[simp]theorem J3d:Jaq (rlD r) (.int 2) S=.ok (.int r.c) S:=Jjr
@[simp]theorem J3o:Jaq (bkD b) (.int 3) S=.ok (.tup (b.ds.map ddD)) S:=Jpk
def Jeq{a:Int}{x y:Nat}(h0:0<=a)(h1:a<2^x)(h2:x<=y):a/2^y=0:=by
 refine Int.ediv_eq_zero_of_lt h0 (Lc h1 ?_)
 exact_mod_cast Nat.pow_le_pow_right (by decide:0<2) h2
def Ju7(h0:0<=a):a<2^Bs a:=by
 unfold Bs;split
 ·rename_i e;simp at e;subst e;decide
 ·have:=Nat.lt_log2_self (n:=a.natAbs);have e:((a.natAbs:Nat):Int)=a:=Pu h0;rw[<-e];simp only[Int.natAbs_natCast]
  exact_mod_cast this
def Jul(g:RlOk r):r.a/2^(min ((h-1)/r.b).toNat (Bs r.a))=U1 r h:=by
 unfold U1;have h1:=Ju7 g.a.1;have h2:r.a<2^200:=Il g.a.2 (by decide);generalize((h-1)/r.b).toNat=t;generalize Bs r.a=B at h1
 by_cases ht:200<t
 ·rw[show min 200 t=200 by lia,Jeq g.a.1 h2 (Aj _)]
  by_cases hB:B<=t
  ·rw[show min t B=B by lia];exact Jeq g.a.1 h1 (Aj _)
  ·rw[show min t B=t by lia];exact Jeq g.a.1 h2 (by lia)
 ·rw[show min 200 t=t by lia]
  by_cases hB:B<=t
  ·rw[show min t B=B by lia,Jeq g.a.1 h1 (Aj _),Jeq g.a.1 h1 hB]
  ·rw[show min t B=t by lia]
def gift(g:RlOk r)(hh:1<=h):callN T G W (n+1) "gift" [rlD r,.int h] S=.ok (.int (U1 r h)) S:=by
 rw[Jab Jqi rfl];have hb:=g.b;have h0:0<=(h-1)/r.b:=Ms (by lia) (by lia);rw[<-Jul g];simp[Jm5,Jaw (S:=S) (i:=h-1) (j:=r.b) (by lia) (by lia)];generalize(h-1)/r.b=t at h0;rw[show(if t<0 then 0 else t)=t from if_neg (by lia)]
 by_cases hB:((Bs r.a:Nat):Int)<t
 ·rw[if_pos hB,Jeu (by lia)];simp;rw[show min t.toNat (Bs r.a)=Bs r.a by lia]
 ·rw[if_neg hB,Jeu h0];simp;rw[show min t.toNat (Bs r.a)=t.toNat by lia]
def free_from:callN T G W (n+2) "free_from" [ddD d,.int h,rlD r] S=.ok (.int (if d.ins=[]then h+r.c else h)) S:=by
 rw[Jab Jgp rfl];have e5:=is_maker (W:=W) (n:=n) (S:=S) (d:=d)
 by_cases hm:d.ins=[]<;>simp[Jcp,e5,hm]
def IMk(S:Store)(ds:List Dd)(i:Nat)(acc:List D)(S':Store):Prop:=Ext S S'/\acc=((ds.take i).filter λd=>decide (d.ins=[])).map λd=>D.int (worth d)
theorem Jx9{ds:List Dd}(g:BkOk ds):((ds.filter λd=>decide (d.ins=[])).map worth).sum=first ds:=by
 cases ds with
 |nil=>exact absurd g.ne (by simp)
 |cons d r=>
  have h0:=(g.mr 0 d rfl).mpr rfl;have hr:r.filter (λd=>decide (d.ins=[]))=[]:=by
   rw[Oe];intro x hx;obtain⟨i,hi,e⟩:=Cz.mp hx;have:=g.mr (i+1) x (by rw[Bv,Ag hi,e]);simp;intro z;have:=this.mp z
   lia
  rw[E4,if_pos (by simp[h0]),hr];simp[first]
def worth_of_makers(g:BkOk b.ds):∃S',callN T G W (n+2) "worth_of_makers" [bkD b] S=.ok (.int (first b.ds)) S'/\Ext S S':=by
 rw[Jab Jcw rfl];refine Sat.to ?_;simp[Ja4];have hl:=g.l;obtain⟨d,S1,e,ys,S0,⟨x0,rfl⟩,rfl,rfl⟩:=comp (C:=Cn T G W (n+1)) (g:=none) (S:=S) (Z:=[some (bkD b)]) (k:=1) (keep:=[]) (tg:=.tvar 0) (cd:=.cns (.call "is_maker" (.cns (.var 0) .nul)) .nul) (el:=.call "worth_of" (.cns (.var 0) .nul)) (ds:=b.ds.map ddD) (IMk S b.ds) (by rw[Ai];unfold Line;lia) ⟨.refl _,by simp⟩
  (λi acc S1 ⟨_,h1⟩=>⟨by rw[h1,Ai];exact Bu (Jw _ _) (by simp;lia),rfl⟩)
  (λi acc S1 hi ⟨x1,h1⟩=>by
   have hx:i<b.ds.length:=by simpa using hi
   refine⟨ddD b.ds[i],by simp[nth,hx],?_⟩;have e5:=is_maker (W:=W) (n:=n) (S:=S1) (d:=b.ds[i]);have e6:=worth_of (W:=W) (n:=n) (S:=S1) (g.ok _ (G6 hx)).o;rw[Jal]
   by_cases hm:b.ds[i].ins=[]
   ·simp[Us,e5,hm,e6];refine⟨x1.trans (.new _ _),?_⟩;rw[h1,Dx,Ag hx,Qa,D1];congr 1;simp[hm]
   ·simp[Us,e5,hm];refine⟨x1,?_⟩;rw[h1,Dx,Ag hx,Qa,D1];simp[hm])
 rw[e];simp only[Res.bind_ok,Ve,Vm,U0];rw[Jbu,Ai,G4,Jx9 g];simp;exact x0.trans (.new _ _)
theorem Jf9:∀{xs:List D} {k i:Nat},(enD k xs)[i]? =(xs[i]?).map λx=>.tup [.int ((k+i:Nat):Int),x]
 |[],k,i=>by simp[enD]
 |x::xs,k,0=>by simp[enD]
 |x::xs,k,i+1=>by
  rw[enD,Bv,Bv,Jf9,show k+1+i=k+(i+1) by lia]
theorem enD_len:∀{xs:List D} {k:Nat},(enD k xs).length=xs.length
 |[],k=>rfl
 |x::xs,k=>by simp[enD,enD_len]
inductive IBf (S:Store) (L0:Nat) (L u q:Nat) (r:Rl) (h:Int) (b:Bk) (z:Option (Nat×String)×Cs×List Int×Int) (i:Nat) (Z:En) (S':Store):Prop
 |mk (c dn f v0 v1 v2) (_:Z=[some (.loc L0),some (bkD b),some (.int h),some (rlD r),some (.loc L),some (.int f),v0,v1,v2]) (_:Ext S S') (_:Hd S' L u q c dn) (_:Gc c) (_:Gd dn) (_:z=goP h r.c i c dn f (b.ds.drop i)):IBf S L0 L u q r h b z i Z S'
def RBf(S:Store)(z:Option (Nat×String)×Cs×List Int×Int)(d:D)(S':Store):Prop:=Ext S S'/\∃x,z.1=some x/\d=bwD (some x)
def block_fault(a:Hd S L u q c dn)(g:Gc c)(gd:Gd dn)(gr:RlOk r)(gb:BkOk b.ds)(hh:1<=h):∃S',callN T G W (n+8) "block_fault" [.loc L,bkD b,.int h,rlD r] S=.ok (bwD (bfP r h c dn b.ds)) S'/\Ext S S':=by
 rw[Jab Jez rfl];refine Sat.to ?_;obtain⟨S1,u1,q1,e1,x1,hu1,hq1,a1⟩:=copied (W:=W) (n:=n+5) a g;simp[Jbp,a.rc (m:="copied"),e1];unfold bfP;generalize hz:goP h r.c 0 c dn 0 b.ds=z;refine Sat.p2 (loop (IBf S L S.length u1 q1 r h b z) (RBf S z) ⟨c,dn,0,none,none,none,rfl,x1,a1,g,gd,by rw[<-hz];rfl⟩ ?_) ?_
 ·rintro i y _ S2 hd0 ⟨c2,dn2,f2,v0,v1,v2,rfl,x2,a2,g2,gd2,hz2⟩;rw[Jf9,Aq]at hd0;obtain⟨y',hy,rfl⟩:=Al.mp hd0;obtain⟨d,hd,rfl⟩:=Al.mp hy;have hi:i<b.ds.length:=(Ae.mp hd).1;have dk:=gb.ok d (Ba hd);rw[Ce hi,(Ae.mp hd).2,goP]at hz2;obtain⟨S3,e3,x3⟩:=fault (W:=W) (n:=n+1) (h:=h) a2 g2 dk;have a3:=a2.ext x3;rw[Jap];simp[a2.rc (m:="fault"),e3];cases hw:U6 c2 dn2 d h with
  |some w=>
   rw[hw]at hz2;simp;rw[if_pos (by decide)];simp;exact⟨x2.trans x3,(i,w),by rw[hz2],rfl⟩
  |none=>
   rw[hw]at hz2;obtain⟨hn,hdst,hv⟩:=Jb6 hw;obtain⟨S4,e4,x4⟩:=fee (W:=W) (n:=n+4) a3 dk hv;have a4:=a3.ext x4;have e5:=free_from (W:=W) (n:=n+5) (S:=S4) (d:=d) (h:=h) (r:=r);obtain⟨v,S5,e6,k5,a5⟩:=Jzc (W:=W) (n:=n) (f:=if d.ins=[]then h+r.c else h) a4 g2 gd2 dk hw;simp[a3.rc (m:="fee"),e4,a4.rc (m:="do"),e5,e6];refine⟨_,_,_,_,_,_,rfl,((x2.trans x3).trans x4).keep k5 (by simp;lia),a5,?_,gd2.add hn dk.n,?_⟩
   ·exact g2.putO dk _
   ·rw[hz2];dsimp only;have:=gb.mr i d hd
    by_cases h0:i=0
    ·rw[if_pos h0,if_pos (this.mpr h0)]
    ·rw[if_neg h0,if_neg (λz=>h0 (this.mp z))]
 ·intro fl S2 hf;rcases hf.nr with⟨_,rfl,c2,dn2,f2,v0,v1,v2,rfl,x2,a2,g2,gd2,hz2⟩|⟨y,rfl,x2,w,hw,rfl⟩
  ·rw[enD_len,Ai,G7,goP]at hz2;obtain⟨S3,e3,x3⟩:=worth_of_makers (W:=W) (n:=n+5) (S:=S2) gb;have e4:=gift (W:=W) (n:=n+6) (S:=S3) gr hh;subst hz2;simp[e3,e4]
   by_cases hm:U1 r h+f2<first b.ds
   ·simp[hm];rw[if_pos (by decide)];simp;exact x2.trans x3
   ·simp[hm];exact x2.trans x3
  ·simp[hw];exact x2
inductive IDb (S:Store) (L u q:Nat) (r:Rl) (h:Int) (b:Bk) (z:Option (Nat×String)×Cs×List Int×Int) (i:Nat) (acc:List D) (S':Store):Prop
 |mk (_:acc.length<=i) (_:Keep [u,q] S S') (_:∃c dn f,Hd S' L u q c dn/\Gc c/\Gd dn/\z=goP h r.c i c dn f (b.ds.drop i)):IDb S L u q r h b z i acc S'
def do_block(a:Hd S L u q c dn)(g:Gc c)(gd:Gd dn)(gr:RlOk r)(gb:BkOk b.ds)(hh:1<=h)(hf:bfP r h c dn b.ds=none):
  Sat (callN T G W (n+9) "do_block" [.loc L,bkD b,.int h,rlD r] S) λ_ S'=>Keep [u,q] S S'/\Hd S' L u q (goP h r.c 0 c dn 0 b.ds).2.1 (goP h r.c 0 c dn 0 b.ds).2.2.1/\Gc (goP h r.c 0 c dn 0 b.ds).2.1/\Gd (goP h r.c 0 c dn 0 b.ds).2.2.1:=by
 rw[Jab Jib rfl];obtain⟨S1,e1,x1⟩:=block_fault (W:=W) (n:=n) a g gd gr gb hh;rw[hf]at e1;simp[Jdk,e1];have a1:=a.ext x1;have hz1:(goP h r.c 0 c dn 0 b.ds).1=none:=by
  unfold bfP at hf;split at hf
  ·cases hf
  ·assumption
 generalize hz:goP h r.c 0 c dn 0 b.ds=z at hz1;have hl:=gb.l;have cc:=comp (C:=Cn T G W (n+8)) (g:=none) (S:=S1) (Z:=[some (.loc L),some (bkD b),some (.int h),some (rlD r),some (bwD none)]) (k:=1) (keep:=[2,0,3]) (tg:=.tvar 0) (cd:=.nul) (el:=(.mcl "Hoard" "do" "Hoard.do" (.var 2) (.cns (.var 0) (.cns (.var 1) (.cns (.call "free_from" (.cns (.var 0) (.cns (.var 1) (.cns (.var 3) .nul)))) .nul))))) (ds:=b.ds.map ddD) (IDb S L u q r h b z) (by rw[Ai];unfold Line;lia) ⟨by simp,.ext x1,c,dn,0,a1,g,gd,by rw[<-hz];rfl⟩
  (λi acc S1 h1=>⟨h1.1,rfl⟩)
  (λi acc S2 hi ⟨hacc,k2,c2,dn2,f2,a2,g2,gd2,hz2⟩=>by
   have hx:i<b.ds.length:=by simpa using hi
   have hd:b.ds[i]? =some b.ds[i]:=Ag hx;refine⟨ddD b.ds[i],by simp[nth,hx],?_⟩;generalize b.ds[i]=d at hd;have dk:=gb.ok d (Ba hd);rw[Ce hx,(Ae.mp hd).2,goP]at hz2;have hw:U6 c2 dn2 d h=none:=by
    cases hw:U6 c2 dn2 d h with
    |none=>rfl
    |some w=>rw[hw]at hz2;rw[hz2]at hz1;cases hz1
   rw[hw]at hz2;obtain⟨hn,hdst,hv⟩:=Jb6 hw;have e5:=free_from (W:=W) (n:=n+6) (S:=S2) (d:=d) (h:=h) (r:=r);obtain⟨v,S5,e6,k5,a5⟩:=Jzc (W:=W) (n:=n+1) (f:=if d.ins=[]then h+r.c else h) a2 g2 gd2 dk hw;rw[Jal];simp[Us,a2.rc (m:="do"),e5,e6];refine⟨by simp;exact hacc,k2.trans k5,_,_,f2+Xm c2 d,a5,g2.putO dk _,gd2.add hn dk.n,hz2.trans ?_⟩;dsimp only;have:=gb.mr i d hd
   by_cases h0:i=0
   ·rw[if_pos h0,if_pos (this.mpr h0)]
   ·rw[if_neg h0,if_neg (λz=>h0 (this.mp z))])
 obtain⟨d,S2,e,ys,S0,⟨_,k0,c2,dn2,f2,a2,g2,gd2,hz2⟩,rfl,rfl⟩:=cc;simp only[bwD]at e;rw[e];rw[Ai,G7,goP]at hz2;subst hz2;simp;exact⟨k0.trans (.new _),a2.ext (.new _ _),g2,gd2⟩
def held(a:Hd S L u q c dn)(g:Gc c)(hu:upB ((cp c).map (·.1))=true):callN T G W (n+1) "Hoard.held" [.loc L] S=.ok (.loc S.length) (S++[csO c]):=by
 rw[Jab Je5 rfl];simp[Jb0,a.fu,Jpw a.u hu (by rw[Ai];have:=g.len;unfold Line;lia)]
theorem Jfh{ds:List D}:cop .ne (.tup ds) (.tup []) S=some (!ds.isEmpty):=by
 cases ds<;>rfl
def Jx4(hu:S[u]? =some (csO c)):cop .nin (dK k) (.loc u) S=some (!(dVal c k).isSome):=by
 rw[Jp6 hu,Jbg,Ek]
def Jyv(hu:S[u]? =some (csO c)):cop .inn (dK k) (.loc u) S=some (dVal c k).isSome:=by
 rw[Juz hu,Jbg,Ek]
def Jjt(hu:S[u]? =some (csO c))(hv:dVal c k=some v):Jaq (.loc u) (dK k) S=.ok (kpD v) S:=Jf3 hu (by rw[Jbg,hv];rfl)
inductive IWd (S:Store) (u q l:Nat) (c:Cs) (d:Dd) (h:Int) (i:Nat) (Z:En) (S':Store):Prop
 |mk (a0 a1 a2 a3 a4 a5 a6 a7 a8) (_:Z=[some (.loc u),some (.loc q),some (ddD d),some (.int h),some (.int d.n),some (.tup (d.ins.map inD)),some (.tup (d.outs.map ouD)),some (.loc l),a0,a1,a2,a3,a4,a5,a6,a7,a8]) (_:Ext S S') (_:d.ins.findSome? (inW c d h)=(d.ins.drop i).findSome? (inW c d h)):IWd S u q l c d h i Z S'
def Jky(hu:S[u]? =some (csO c))(hq:S[q]? =some (dnO dn))(g:Gc c)(g2:Wa d):∃S',callN T G W (n+5) "_law_word" [.loc u,.loc q,ddD d,.int h] S=.ok (wD (U6 c dn d h)) S'/\Ext S S':=by
 rw[Jab Jh0 rfl];have i3:=g2.i;have eg:∀Z,evG (Cn T G W (n+4)) (.ttup (.cns (.tvar 4) (.cns (.tvar 5) (.cns (.tvar 6) .nul)))) (ddD d) Z S=evGs (Cn T G W (n+4)) (.cns (.tvar 4) (.cns (.tvar 5) (.cns (.tvar 6) .nul))) [.int d.n,.tup (d.ins.map inD),.tup (d.outs.map ouD)] Z S:=λZ=>rfl;unfold U6
 by_cases h1:d.n∈dn
 ·simp[Jb9,eg,Jjy hq,h1];exact .refl _
 refine Sat.to ?_;simp[Jb9,eg,Jjy hq,h1];rw[Ja7 (xs:=d.ins) inD (λi=>dK i.1) (by lia) (.inl rfl) (λx _=>by simp[Jal,Us])];have hN:(S++[Obj.lst (d.ins.map λi=>dK i.1)])[S.length]? =some (.lst ((nms d).map dK)):=by rw[Jac];simp[nms,Bp]
 have x1:=Ext.new S [Obj.lst (d.ins.map λi=>dK i.1)];generalize S++[Obj.lst (d.ins.map λi=>dK i.1)]=S1 at hN x1;have hln:(nms d).length=d.ins.length:=by simp[nms]
 have e2:=Jrf hN (by lia);have e3:=Jav hN;rw[Ai]at e3;simp[e2,e3]
 by_cases h2:dst (nms d)<(nms d).length
 ·simp[h2];exact x1
 simp[h2];refine Sat.p2 (loop (IWd S1 u q S.length c d h) (RFau S c d h) ⟨_,_,_,_,_,_,_,_,_,rfl,.refl _,by simp⟩ ?_) ?_
 ·rintro i z _ S2 hd ⟨a0,a1,a2,a3,a4,a5,a6,a7,a8,rfl,x2,hf⟩;rw[Aq]at hd;obtain⟨r,hr,rfl⟩:=Al.mp hd;have hi:i<d.ins.length:=(Ae.mp hr).1;rw[Ce hi,(Ae.mp hr).2,Po]at hf;have hu2:=(x1.trans x2).get hu;have eg:∀Z,evG (Cn T G W (n+4)) (.ttup (.cns (.tvar 8) (.cns (.tvar 9) .nul))) (inD r) Z S2=evGs (Cn T G W (n+4)) (.cns (.tvar 8) (.cns (.tvar 9) .nul)) [dK r.1,.tup (r.2.map D.int)] Z S2:=λZ=>rfl;rw[Jap];simp[eg,Jx4 hu2];cases hv:dVal c r.1 with
  |none=>
   simp -implicitDefEqProofs [inW,hv]at hf ⊢;exact⟨"gone",hf,rfl,x1.trans x2⟩
  |some k=>
   have ek:∀Z,evG (Cn T G W (n+4)) (.ttup (.cns (.tvar 10) (.cns (.tvar 11) (.cns (.tvar 12) (.cns (.tvar 13) .nul))))) (kpD k) Z S2=evGs (Cn T G W (n+4)) (.cns (.tvar 10) (.cns (.tvar 11) (.cns (.tvar 12) (.cns (.tvar 13) .nul)))) [.int k.w,.tup (k.lk.map rD),.int k.m,.int k.f] Z S2:=λZ=>rfl;simp[Jjt hu2 hv,ek];simp only[inW,hv]at hf
   by_cases hh:h<k.f
   ·rw[if_pos hh]at hf;simp[hh];exact⟨"green",hf,rfl,x1.trans x2⟩
   ·rw[if_neg hh]at hf;simp[hh];rw[Jbk g2.o (λx _=>by simp[Jal,Us])];simp only[Res.bind_ok,Ve,Vm,U0];rw[Jaj Jac];have o1:=g.ok _ (Jc4 hv);obtain⟨bb,hb⟩:=o1.lk.2 (fx k d h) r.2;obtain⟨S3,e4,x3⟩:=Jjl (W:=W) n (fx k d h) k.lk r.2 (S2++[pl (Uz d)]) (by have:=o1.lk.1;simp at this;lia) (by have:=g2.k r (Ba hr);lia) hb;have ea:(if k.m<h then h-k.m else 0)=if h-k.m<0 then 0 else h-k.m:=by split<;>split<;>lia
    simp only[fD,fx]at e4;rw[<-ea]at e4;simp;rw[if_pos (by decide)];simp[e4];rw[hb]at hf;cases bb with
    |false=>
     simp at hf ⊢;exact⟨"shut",hf,rfl,((x1.trans x2).trans (.new _ _)).trans x3⟩
    |true=>
     simp at hf ⊢;exact⟨_,_,_,_,_,_,_,_,_,rfl,(x2.trans (.new _ _)).trans x3,hf⟩
 ·intro fl S2 hh;rcases hh.nr with⟨_,rfl,a0,a1,a2,a3,a4,a5,a6,a7,a8,rfl,x2,hf⟩|⟨r,rfl,x,hf,rfl,x2⟩
  ·rw[Ai,G7]at hf;have hn:=Ic.mp hf;have hv:∀i∈d.ins,∃k,dVal c i.1=some k:=λi hi=>by
    have:=hn i hi;unfold inW at this;split at this
    ·cases this
    ·exact⟨_,‹_›⟩
   rw[hf];simp;rw[Jbk g2.o (λx _=>by simp[Jal,Us])];simp only[Res.bind_ok,Ve,Vm,U0];rw[Je6];have x3:=(x1.trans x2).trans (.new _ [pl (Uz d)]);have hN3:=Jag (X:=[pl (Uz d)]) (x2.get hN);generalize S2++[pl (Uz d)]=S3 at x3 hN3;simp[Jfh]
   by_cases hm:d.ins=[]
   ·simp[hm];exact x3
   ·simp[hm,Ja0 hN3];have hu3:=x3.get hu;rw[Ja7 (xs:=nms d) dK (λi=>.int (wOf c i)) (by lia) (.inr ⟨_,rfl,hN3⟩) (λx hx=>by
     obtain⟨i,hi,rfl⟩:=Bg.mp hx;obtain⟨k,hk⟩:=hv i hi;simp[Jal,Us,Jjt hu3 hk,wOf,hk])]
    have:=Je6 (S:=S3) ((nms d).map (wOf c));simp only[pl,Bz,Bp]at this;simp only[Res.bind_ok,Ve,Vm,U0];rw[this];have es:((nms d).map (wOf c)).sum=spent c d:=by simp[spent,nms,Bp]
    rw[es];have ew:(Uz d).sum=worth d:=rfl
    by_cases hs:spent c d<worth d
    ·simp[hs,ew];exact x3.trans (.new _ _)
    ·simp[hs,ew];exact x3.trans (.new _ _)
  ·simp[hf];exact x2
noncomputable def sofar(c:Cs)(d:Dd)(i:Nat):Int:=((d.ins.take i).map λx=>wOf c x.1).sum
inductive ILp (S:Store) (u q:Nat) (c:Cs) (d:Dd) (h f:Int) (i:Nat) (Z:En) (S':Store):Prop
 |mk (a0 a1) (_:Z=[some (.loc u),some (.loc q),some (ddD d),some (.int h),some (.int f),some (.int (-worth d+sofar c d i)),a0,a1,none,none]) (_:Keep [u] S S') (_:S'[u]? =some (csO (dropO c d i))):ILp S u q c d h f i Z S'
inductive ILq (S:Store) (u q:Nat) (c:Cs) (d:Dd) (h f:Int) (v:D) (i:Nat) (Z:En) (S':Store):Prop
 |mk (a0 a1 a2 a3) (_:Z=[some (.loc u),some (.loc q),some (ddD d),some (.int h),some (.int f),some v,a0,a1,a2,a3]) (_:Keep [u] S S') (_:S'[u]? =some (csO (putO c d h f i))):ILq S u q c d h f v i Z S'
def Jl3(hu:S[u]? =some (csO c))(hq:S[q]? =some (dnO dn))(g:Gc c)(gd:Gd dn)(g2:Wa d)(hn:d.n∉dn)(h2:¬dst (nms d)<(nms d).length)(hv:∀i∈d.ins,∃k,dVal c i.1=some k):
  ∃S',callN T G W (n+1) "_law_put" [.loc u,.loc q,ddD d,.int h,.int f] S=.ok (.int (Xm c d)) S'/\Keep [u,q] S S'/\S'[u]? =some (csO (W5 c d h f))/\S'[q]? =some (dnO (dn++[d.n])):=by
 rw[Jab Jiy rfl];have huq:u≠q:=by
  rintro rfl;have:=hu.symm.trans hq;cases this
 refine Sat.to ?_;simp[Jep];rw[Jbk g2.o (λx _=>by simp[Jal,Us])];simp only[Res.bind_ok,Ve,Vm,U0];rw[Je6];have x1:=Ext.new S [pl (Uz d)];generalize S++[pl (Uz d)]=S1 at x1;have hu1:=x1.get hu;have hq1:=x1.get hq;simp;refine Sat.p2 (loop (ILp S1 u q c d h f) noR ⟨none,none,by simp[sofar];rfl,.refl,hu1⟩ ?_) ?_
 ·rintro i z _ S2 hd ⟨a0,a1,rfl,k2,hu2⟩;rw[Aq]at hd;obtain⟨x,hx,rfl⟩:=Al.mp hd;have hi:i<d.ins.length:=(Ae.mp hx).1;obtain⟨v,hv⟩:=hv x (Ba hx);have e:=pop_at hu2 ((Jm7 h2 hx).trans hv);have rr:=Y1 (me:=.pop1) rfl hu2;have eg:∀Z,evG (Cn T G W n) (.ttup (.cns (.tvar 6) (.cns (.tvar 7) .nul))) (inD x) Z S2=evGs (Cn T G W n) (.cns (.tvar 6) (.cns (.tvar 7) .nul)) [dK x.1,.tup (x.2.map D.int)] Z S2:=λZ=>rfl;rw[Jap];simp[eg,e,rr];have:sofar c d (i+1)=sofar c d i+v.w:=by
   unfold sofar;rw[Dx,hx,D1,List.sum_append];simp[wOf,hv]
  rw[Int.add_assoc,<-this];exact⟨_,_,rfl,k2.trans (.set (by simp)),by rw[Jar hu2,Jm8 hx]⟩
 ·intro fl S6 hh;obtain⟨_,rfl,x,y,rfl,k6,hu6⟩:=hh.nx;simp only[Ai]at hu6 ⊢;have es:sofar c d d.ins.length=spent c d:=by simp[sofar,spent]
  rw[es];simp;refine Sat.p2 (loop (ILq S6 u q c d h f (.int (-worth d+spent c d))) noR ⟨_,_,_,_,rfl,.refl,hu6⟩ ?_) ?_
  ·rintro i z _ S8 hd0 ⟨a0,a1,a2,a3,rfl,k8,hu8⟩;rw[Jf9,Aq]at hd0;obtain⟨y',hy,rfl⟩:=Al.mp hd0;obtain⟨o,ho,rfl⟩:=Al.mp hy;have e:=Jq6 (k:=(d.n,(i:Int))) (v:=⟨o.1,o.2,h,f⟩) hu8 (g.putO g2 i);simp only[kpD]at e;rw[Jap];simp;rw[if_pos (by decide)];simp;rw[if_pos (by decide)];simp[e];exact⟨_,_,_,_,rfl,k8.trans (.set (by simp)),by rw[Jar hu8,Jq7 ho]⟩
  ·intro fl S9 hh;obtain⟨_,rfl,a0,a1,a2,a3,rfl,k9,hu9⟩:=hh.nx;rw[enD_len,Ai]at hu9;have hq9:=k9.get (k6.get hq1 (by simp;exact huq.symm)) (by simp;exact huq.symm);simp[Jq5 hq9 gd hn,Jfh];have kk:Keep [u,q] S (S9.set q (dnO (dn++[d.n]))):=(((Keep.ext x1).trans (k6.mono (by simp))).trans (k9.mono (by simp))).trans (.set (by simp));have hu':(S9.set q (dnO (dn++[d.n])))[u]? =some (csO (W5 c d h f)):=by rw[Aw huq.symm];exact hu9
   have hq':(S9.set q (dnO (dn++[d.n])))[q]? =some (dnO (dn++[d.n])):=Jar hq9;unfold Xm
   by_cases hm:d.ins=[]
   ·rw[Jbd (by simp[hm];rfl)];simp[hm];exact⟨kk,hu',hq'⟩
   ·rw[Jbd (by simp[hm];rfl)];simp[hm];exact⟨by lia,kk,hu',hq'⟩
inductive IGf (r:Rl) (h:Int) (S:Store) (i:Nat) (Z:En) (S':Store):Prop
 |mk (a) (_:Z=[some (rlD r),some (.int h),some (.int (r.a/2^i)),a]) (_:S'=S):IGf r h S i Z S'
def Jf6(g:RlOk r)(hh:1<=h):callN T G W (n+1) "_law_gift" [rlD r,.int h] S=.ok (.int (U1 r h)) S:=by
 suffices hs:∃S',callN T G W (n+1) "_law_gift" [rlD r,.int h] S=.ok (.int (U1 r h)) S'/\S'=S by
  obtain⟨S',e,rfl⟩:=hs;exact e
 rw[Jab Jh6 rfl];refine Sat.to ?_;have hb:=g.b;have h0:0<=(h-1)/r.b:=Ms (by lia) (by lia);have e1:=Jaw (S:=S) (i:=h-1) (j:=r.b) (by lia) (by lia);unfold U1;generalize(h-1)/r.b=t at h0 e1;simp[Jdg,e1];obtain⟨k,hk,ek⟩:∃k:Nat,(if t<200 then t else 200)=(k:Int)/\k=min 200 t.toNat:=⟨min 200 t.toNat,by split<;>lia,rfl⟩
 rw[hk,Jch (by lia) (by lia)];simp;refine Sat.p2 (loop (IGf r h S) noR ⟨none,by simp,rfl⟩ ?_) ?_
 ·rintro i z _ S2 hd ⟨a,rfl,rfl⟩;rw[Aq]at hd;obtain⟨x,hx,rfl⟩:=Al.mp hd;rw[Jap];have e2:=Jaw (S:=S2) (i:=r.a/2^i) (j:=2) (by decide) (by decide);simp[e2];refine⟨some (.int x),?_,rfl⟩;rw[Int.pow_succ,Int.ediv_ediv_of_nonneg (Tv (by decide))]
 ·intro fl S2 hf;obtain⟨_,rfl,a,rfl,rfl⟩:=hf.nx;simp[ek]
inductive IDn (S:Store) (L u:Nat) (r:Rl) (h:Int) (b:Bk) (z:Option (Nat×String)×Cs×List Int×Int) (i:Nat) (Z:En) (S':Store):Prop
 |mk (c dn f v0 v1 v2) (_:Z=[some (.loc L),some (.loc u),some (bkD b),some (.int h),some (rlD r),some (.int f),v0,v1,v2]) (_:Ext S S') (_:S'[L]? =some (csO c)) (_:S'[u]? =some (dnO dn)) (_:Gc c) (_:Gd dn) (_:z=goP h r.c i c dn f (b.ds.drop i)):IDn S L u r h b z i Z S'
def RDn(S:Store)(u q:Nat)(z:Option (Nat×String)×Cs×List Int×Int)(d:D)(S':Store):Prop:=Ext S S'/\∃x,z.1=some x/\d=.tup [bwD (some x),.loc u,.loc q,.int 0]
def Jiq(hu:S[u]? =some (csO c))(hq:S[q]? =some (dnO dn))(g:Gc c)(gd:Gd dn)(gr:RlOk r)(gb:BkOk b.ds)(hh:1<=h):∃f S',callN T G W (n+6) "_law_done" [.loc u,.loc q,bkD b,.int h,rlD r] S=.ok (.tup [bwD (bfP r h c dn b.ds),.loc S.length,.loc (S.length+1),.int f]) S'/\Ext S S'/\
  (bfP r h c dn b.ds=none->S'[S.length]? =some (csO (goP h r.c 0 c dn 0 b.ds).2.1)/\S'[S.length+1]? =some (dnO (goP h r.c 0 c dn 0 b.ds).2.2.1)):=by
 rw[Jab Jh7 rfl]
 suffices hs:Sat ((evB (Cn T G W (n+5)) U8.body (Mz some [.loc u,.loc q,bkD b,.int h,rlD r]++E1 (U8.N.length-[D.loc u,.loc q,bkD b,.int h,rlD r].length) none) S).bind W7) λd S'=>∃f,d=.tup [bwD (bfP r h c dn b.ds),.loc S.length,.loc (S.length+1),.int f]/\Ext S S'/\(bfP r h c dn b.ds=none->S'[S.length]? =some (csO (goP h r.c 0 c dn 0 b.ds).2.1)/\S'[S.length+1]? =some (dnO (goP h r.c 0 c dn 0 b.ds).2.2.1)) by
  obtain⟨d,S',e,f,rfl,x,p⟩:=hs;exact⟨f,S',e,x,p⟩
 have hq1:=Jag (X:=[csO c]) hq;have e2:=Jgd hq1;simp[U8,Jgc hu g.apt];simp at e2;simp[e2];unfold bfP;generalize hz:goP h r.c 0 c dn 0 b.ds=z;obtain⟨d0,rs,hds⟩:∃d0 rs,b.ds=d0::rs:=by
  cases hds:b.ds with
  |nil=>have:=gb.ne;rw[hds]at this;cases this
  |cons d0 rs=>exact⟨d0,rs,rfl⟩
 refine Sat.p2 (loop (IDn S S.length (S.length+1) r h b z) (RDn S S.length (S.length+1) z) ⟨c,dn,0,none,none,none,rfl,.new _ _,Jat,Jcd,g,gd,by rw[<-hz];rfl⟩ ?_) ?_
 ·rintro i y _ S2 hd0 ⟨c2,dn2,f2,v0,v1,v2,rfl,x2,hu2,hq2,g2,gd2,hz2⟩;rw[Jf9,Aq]at hd0;obtain⟨y',hy,rfl⟩:=Al.mp hd0;obtain⟨d,hd,rfl⟩:=Al.mp hy;have hi:i<b.ds.length:=(Ae.mp hd).1;have dk:=gb.ok d (Ba hd);rw[Ce hi,(Ae.mp hd).2,goP]at hz2;obtain⟨S3,e3,x3⟩:=Jky (W:=W) (n:=n) (h:=h) hu2 hq2 g2 dk;rw[Jap];simp[e3];cases hw:U6 c2 dn2 d h with
  |some w=>
   rw[hw]at hz2;simp;rw[if_pos (by decide)];simp;rw[if_pos (by decide)];simp;exact⟨x2.trans x3,(i,w),by rw[hz2],rfl⟩
  |none=>
   rw[hw]at hz2;obtain⟨hn,hdst,hv⟩:=Jb6 hw;obtain⟨S5,e6,k5,hu5,hq5⟩:=Jl3 (W:=W) (n:=n+4) (h:=h) (f:=if i=0 then h+r.c else h) (x3.get hu2) (x3.get hq2) g2 gd2 dk hn hdst hv;simp;rw[Jbd (by split<;>rfl)];have ef:h+r.c*(if i=0 then 1 else 0)=if i=0 then h+r.c else h:=by split<;>simp
   simp only[Res.bind_ok,Xk,Jcu,ef,Ve,U0,Vm,Yg,Jvg];simp[e6];refine⟨_,_,_,_,_,_,rfl,(x2.trans x3).keep k5 (by simp),hu5,hq5,?_,gd2.add hn dk.n,hz2⟩;exact g2.putO dk _
 ·intro fl S2 hf;rcases hf.nr with⟨_,rfl,c2,dn2,f2,v0,v1,v2,rfl,x2,hu2,hq2,g2,gd2,hz2⟩|⟨y,rfl,x2,w,hw,rfl⟩
  ·rw[enD_len,Ai,G7,goP]at hz2;have e0:Jaq (.tup (b.ds.map ddD)) (.int 0) S2=.ok (ddD d0) S2:=by rw[hds];exact Jbn
   have d0k:=gb.ok d0 (by rw[hds];simp);have ef:first b.ds=worth d0:=by rw[hds];rfl
   simp[e0];rw[Jbk d0k.o (λx _=>by simp[Jal,Us])];simp only[Res.bind_ok,Ve,Vm,U0];rw[Je6,show(Uz d0).sum=worth d0 from rfl];have e4:=Jf6 (W:=W) (n:=n+4) (S:=S2++[pl (Uz d0)]) gr hh;subst hz2;simp[e4];rw[ef]
   by_cases hm:U1 r h+f2<worth d0
   ·simp[hm];rw[if_pos (by decide)];simp;rw[if_pos (by decide)];simp;exact⟨x2.trans (.new _ _),λ_=>⟨Jag hu2,Jag hq2⟩⟩
   ·simp[hm];rw[if_pos (by decide)];simp;exact⟨x2.trans (.new _ _),λ_=>⟨Jag hu2,Jag hq2⟩⟩
  ·simp[hw];exact x2
end
section
variable {α0 α1 α2 α3 α4 α5 α6:Type} {r:Res α0} {f1:α0->Store->Res α1} {f2:α1->Store->Res α2} {f3:α2->Store->Res α3} {f4:α3->Store->Res α4} {f5:α4->Store->Res α5} {f6:α5->Store->Res α6} {Q:α0->Store->Prop}
def p5{P:α5->Store->Prop}(h:Sat r Q)(k:∀a S,Q a S->Sat (((((f1 a S).bind f2).bind f3).bind f4).bind f5) P):Sat (((((r.bind f1).bind f2).bind f3).bind f4).bind f5) P:=by
 obtain⟨a,S,rfl,h⟩:=h;exact k a S h
def p6{P:α6->Store->Prop}(h:Sat r Q)(k:∀a S,Q a S->Sat ((((((f1 a S).bind f2).bind f3).bind f4).bind f5).bind f6) P):Sat ((((((r.bind f1).bind f2).bind f3).bind f4).bind f5).bind f6) P:=by
 obtain⟨a,S,rfl,h⟩:=h;exact k a S h
end
section
variable {W n:Nat} {S S':Store} {l L u q:Nat} {c:Cs} {dn:List Int} {ps:List Nat} {d:Dd} {h f m:Int} {r:Rl} {b:Bk} {ds:List D}
inductive Stm (S:Store) (l:Nat):Prop
 |mk (a e s) (_:S[l]? =some (.lst [.int a,.bl e,.int s])):Stm S l
theorem Jgw(hs:Stm S l)(h0:0<m)(h1:m<2^250):∃x S',callN T G W (n+1) "_law_take" [.loc l,.int m] S=.ok (.int x) S'/\Keep [l] S S'/\Stm S' l/\0<=x/\x<m:=by
 obtain⟨a,e,s,hl⟩:=hs;rw[Jab Jh1 rfl];have i0:∀S a e s,S[l]? =some (Obj.lst [.int a,.bl e,.int s])->Jaq (.loc l) (.int 0) S=.ok (.int a) S:=λS a e s h=>Jau h (at0 (k:=0) rfl);have i2:∀S a e s,S[l]? =some (Obj.lst [.int a,.bl e,.int s])->Jaq (.loc l) (.int 2) S=.ok (.int s) S:=λS a e s h=>Jau h (at0 (k:=2) rfl);have t1:∀S a e s,S[l]? =some (Obj.lst [.int a,.bl e,.int s])->Jr3 (.loc l) (.int 1) S=.ok e S:=λS a e s h=>by simp only[Jr3];rw[show idxD (.loc l) (.int 1) S=some (.bl e)from Jmz h (at0 (k:=1) rfl)];rfl
 have s0:∀S a e s v,S[l]? =some (Obj.lst [.int a,.bl e,.int s])->Vi (.loc l) (.int 0) v S=.ok () (S.set l (.lst [v,.bl e,.int s])):=λS a e s v h=>Jif h (k:=0) rfl;have s1:∀S a e s v,S[l]? =some (Obj.lst [.int a,.bl e,.int s])->Vi (.loc l) (.int 1) v S=.ok () (S.set l (.lst [.int a,v,.int s])):=λS a e s v h=>Jif h (k:=1) rfl;have sg:∀o,(S.set l o)[l]? =some o:=λo=>Jar hl;have fin:∀x,0<=x%m/\x%m<m:=λx=>⟨Sl _ (by omega),Qv _ h0⟩
 cases e with
 |true=>
  by_cases ha:1<a
  ·simp[Jbj,t1 _ _ _ _ hl,i0 _ _ _ _ hl,ha,Jah h0,Jaw h0 h1,s0 _ _ _ _ _ hl];exact⟨a%m,_,⟨rfl,rfl⟩,.set (by simp),⟨_,_,_,sg _⟩,fin _⟩
  ·simp[Jbj,t1 _ _ _ _ hl,i0 _ _ _ _ hl,i2 _ _ _ _ hl,ha,s0 _ _ _ _ _ hl];simp[s1 _ _ _ _ _ (sg (.lst [.int s,.bl true,.int s]))];simp[i0 _ _ _ _ (sg (.lst [.int s,.bl false,.int s]))];rw[Jbd (by rfl)];simp[Jah (S:=S.set l (.lst [.int s,.bl false,.int s])) (i:=s*48271+11) (j:=2147483629) (by decide),s0 _ _ _ _ _ (sg (.lst [.int s,.bl false,.int s]))];simp[i0 _ _ _ _ (sg (.lst [.int ((s*48271+11)%2147483629),.bl false,.int s])),Jaw (show(0:Int)<7 by decide) (by decide),Jah h0];exact⟨_,_,⟨rfl,rfl⟩,.set (by simp),⟨_,_,_,sg _⟩,fin _⟩
 |false=>
  simp[Jbj,t1 _ _ _ _ hl,i0 _ _ _ _ hl];rw[Jbd (by rfl)];simp[Jah (S:=S) (i:=a*48271+11) (j:=2147483629) (by decide),s0 _ _ _ _ _ hl];simp[i0 _ _ _ _ (sg (.lst [.int ((a*48271+11)%2147483629),.bl false,.int s])),Jaw (show(0:Int)<7 by decide) (by decide),Jah h0];exact⟨_,_,⟨rfl,rfl⟩,.set (by simp),⟨_,_,_,sg _⟩,fin _⟩
inductive Tkn (W n:Nat) (S:Store) (l:Nat) (m:Int):Prop
 |mk (x:Int) (S':Store) (_:callN T G W (n+1) "_law_take" [.loc l,.int m] S=.ok (.int x) S') (_:Keep [l] S S') (_:Stm S' l) (_:0<=x/\x<m):Tkn W n S l m
def Jaf(hs:Stm S l)(h0:0<m)(h1:m<2^250):Tkn W n S l m:=by
 obtain⟨x,S',a,b,c,d⟩:=Jgw (W:=W) (n:=n) hs h0 h1;exact⟨x,S',a,b,c,d⟩
noncomputable def dOk:List Rw->Nat->Bool
 |[],_=>true
 |.iff::r,k=>dOk r (k+1)
 |.els::r,k=>decide (0<k)&&dOk r k
 |.fin::r,k=>decide (0<k)&&dOk r (k-1)
 |_::r,k=>dOk r k
theorem runs:∀{lk:List Rw} {p:List Int} {st:List Pt},dOk lk st.length=true->∃e,runP F lk p st=some e
 |[],p,st,_=>⟨_,rfl⟩
 |r::rs,p,st,hd=>by
  have pl:∀z:Bool×List Int×List Pt,dOk rs z.2.2.length=true->Uv F p st r=some z->∃e,runP F (r::rs) p st=some e:=λz hz e=>by
   obtain⟨z1,z2,z3⟩:=z;simp only[runP,e];cases z1 with
   |false=>exact⟨false,rfl⟩
   |true=>exact runs hz
  cases r with
  |iff=>
   cases hs:Vo st with
   |false=>exact pl (true,p,(false,false)::st) hd (by simp[Uv,Vu,Vn,hs])
   |true=>
    by_cases hp:p=[]
    ·refine⟨false,?_⟩;simp[runP,Uv,Vu,Vn,hs,hp]
    ·exact pl (true,p.dropLast,(decide (p.getLastD 0≠0),decide (p.getLastD 0=0))::st) hd (by simp[Uv,Vu,Vn,hs,hp])
  |els=>
   simp only[dOk,Ah,decide_eq_true_eq]at hd;cases st with
   |nil=>exact absurd hd.1 (by simp)
   |cons x s=>exact pl (true,p,(x.2,false)::s) hd.2 (by simp[Uv,Vu,Vn])
  |fin=>
   simp only[dOk,Ah,decide_eq_true_eq]at hd;cases st with
   |nil=>exact absurd hd.1 (by simp)
   |cons x s=>exact pl (true,p,s) hd.2 (by simp[Uv,Vu,Vn])
  |push x=>
   cases hs:Vo st with
   |false=>exact pl (true,p,st) hd (by simp[Uv,Vu,hs])
   |true=>exact pl (_,_,st) hd (by simp[Uv,Vu,hs];exact⟨rfl,rfl⟩)
  |paid x=>
   cases hs:Vo st with
   |false=>exact pl (true,p,st) hd (by simp[Uv,Vu,hs])
   |true=>exact pl (_,_,st) hd (by simp[Uv,Vu,hs];exact⟨rfl,rfl⟩)
  |w x=>
   cases hs:Vo st with
   |false=>exact pl (true,p,st) hd (by simp[Uv,Vu,hs])
   |true=>exact pl (_,_,st) hd (by simp[Uv,Vu,hs];exact⟨rfl,rfl⟩)
def W3.of{lk:List Rw}(h1:lk.length<=6)(h2:dOk lk 0=true):W3 lk:=⟨h1,λF keys=>by
 unfold Wf;split
 ·exact runs h2
 ·exact⟨false,rfl⟩⟩
def Jbo{i:Int}(hl:S[l]? =some (.lst ds))(h0:0<=i)(h1:i<ds.length){P:D->Prop}(hp:∀x∈ds,P x):Sat (Jaq (.loc l) (.int i) S) λd S'=>P d/\S'=S:=by
 obtain⟨x,e,hx⟩:=J17 h0 h1;rw[Jau hl e];exact .ok ⟨hp x hx,rfl⟩
def Jvb{d:D}(h:ds.length<1000):Uw .append (.loc S.length) [d] (S++[.lst ds])=.ok .non (S++[.lst (ds++[d])]):=by
 rw[Jay Jac (Jcg (by omega))];simp
def Js7:rcv .append (S++[.lst ds]) (.loc S.length)=true:=Jbh rfl Jac
noncomputable def lkD(lk:List Rw):D:=.tup (lk.map rD)
def Jb7(hs:Stm S l)(h0:0<m)(h1:m<2^250):Sat (callN T G W (n+1) "_law_take" [.loc l,.int m] S) λd S'=>∃x,d=.int x/\Keep [l] S S'/\Stm S' l/\0<=x/\x<m:=by
 obtain⟨x,S',e,p⟩:=Jgw (W:=W) (n:=n) hs h0 h1;exact⟨_,S',e,x,rfl,p⟩
def Stm.ext(hs:Stm S l)(x:Ext S S'):Stm S' l:=by
 obtain⟨a,e,s,h⟩:=hs;exact⟨a,e,s,x.get h⟩
def Stm.lt(hs:Stm S l):l<S.length:=by
 obtain⟨a,e,s,h⟩:=hs;exact Ja3 h
def Jjp(hs:Stm S l):∃(lk:List Rw) (ks:List Int) (S':Store),callN T G W (n+2) "_law_lock" [.loc l] S=.ok (.tup [lkD lk,.tup (ks.map D.int)]) S'/\Keep [l] S S'/\Stm S' l/\W3 lk/\ks.length<=2:=by
 rw[Jab Jh5 rfl]
 suffices hs:Sat ((evB (Cn T G W (n+1)) U7.body (Mz some [.loc l]++E1 (U7.N.length-[D.loc l].length) none) S).bind W7) λd S'=>∃(lk:List Rw) (ks:List Int),d=.tup [lkD lk,.tup (ks.map D.int)]/\Keep [l] S S'/\Stm S' l/\W3 lk/\ks.length<=2 by
  obtain⟨d,S',e,lk,ks,rfl,p⟩:=hs;exact⟨lk,ks,S',e,p⟩
 obtain⟨x,S1,e1,k1,s1,hx⟩:=Jaf (W:=W) (n:=n) (m:=2000) hs (by decide) (by decide);have hl1:l<S1.length:=by obtain⟨a,e,s,h⟩:=s1;exact Ja3 h
 simp[U7,e1,Line,Jvb,Js7,Jah (show(0:Int)<9 by decide),Jah (show(0:Int)<4 by decide),Jah (show(0:Int)<3 by decide),Jah (show(0:Int)<2 by decide)];have hk:∃a:List Int,a.length<=2/\atI [D.tup [.int (x-1000),.int 1],.tup [.int 0]] ((x-1000)%2)=some (.tup (a.map D.int)):=by
  rcases(show(x-1000)%2=0\/(x-1000)%2=1 by omega)with e|e
  ·exact⟨[x-1000,1],by simp,by rw[e];exact at0 (k:=0) rfl⟩
  ·exact⟨[0],by simp,by rw[e];exact at0 (k:=1) rfl⟩
 obtain⟨ka,hka,eka⟩:=hk;rw[Jau Jcd eka];simp[Line];refine Sat.p3 (Jb7 (m:=10) (s1.ext (.new _ _)) (by decide) (by decide)) ?_;rintro _ S2 ⟨w,rfl,k2,s2,h0,h1⟩;have k12:Keep [l] S S2:=k1.trans ((Keep.new _).trans k2);have hB0:=k2.get Jat (by simp;omega);have hB2:=k2.get Jc8 (by simp;omega);clear k2;simp;refine p5 (Jbo hB0 h0 (by simp;omega) (P:=λy=>∃lk,y=lkD lk/\W3 lk) ?_) ?_
 ·intro y hy;simp only[An,Bc,or_false]at hy;rcases hy with rfl|rfl|rfl|rfl|rfl|rfl|rfl|rfl|rfl|rfl
  ·exact⟨[],rfl,.of (by decide) rfl⟩
  ·exact⟨[.push 1],rfl,.of (by simp) rfl⟩
  ·exact⟨[.push _,.w .same],rfl,.of (by simp) rfl⟩
  ·exact⟨[.w .height,.push _,.w .less,.w .not],rfl,.of (by simp) rfl⟩
  ·exact⟨[.w .age,.push _,.w .less,.w .not],rfl,.of (by simp) rfl⟩
  ·exact⟨[.iff,.push _,.w .same,.els,.push 1,.fin],rfl,.of (by simp) rfl⟩
  ·exact⟨[.w .worth,.push _,.w .less,.w .not],rfl,.of (by simp) rfl⟩
  ·exact⟨[.w .ins,.push _,.w .same],rfl,.of (by simp) rfl⟩
  ·exact⟨[.w .outs,.push _,.w .same,.w .not],rfl,.of (by simp) rfl⟩
  ·exact⟨[.paid _,.push _,.w .less,.w .not],rfl,.of (by simp) rfl⟩
 rintro _ _ ⟨⟨lk,rfl,hlk⟩,rfl⟩;simp[Line];rw[Jbs (Jag hB2) Jac (by simp[Line])];simp only[Res.bind_ok,Zd,v_var,X5,Bv,Dy];refine p6 (Jbo Jac h0 (by simp;omega) (P:=λy=>∃ks:List Int,y=.tup (ks.map D.int)/\ks.length<=2) ?_) ?_
 ·intro y hy;simp only[Bo,An,Bc,or_false]at hy;rcases hy with(rfl|rfl|rfl|rfl|rfl|rfl)|(rfl|rfl|rfl|rfl)
  ·exact⟨[_],rfl,by simp⟩
  ·exact⟨[],rfl,by simp⟩
  ·exact⟨[_],rfl,by simp⟩
  ·exact⟨[],rfl,by simp⟩
  ·exact⟨[],rfl,by simp⟩
  ·exact⟨ka,rfl,hka⟩
  ·exact⟨[],rfl,by simp⟩
  ·exact⟨[],rfl,by simp⟩
  ·exact⟨[],rfl,by simp⟩
  ·exact⟨[],rfl,by simp⟩
 rintro _ _ ⟨⟨ks,rfl,hks⟩,rfl⟩;simp[Line];exact⟨lk,ks,⟨rfl,rfl⟩,k12.trans (.new _),s2.ext (.new _ _),hlk,hks⟩
end
noncomputable def lkR(lk:List Rw):=(lkK (lkD lk)).getD []
theorem Jst(r:Rw):∃k,rwK (rD r)=some k:=by
 cases r with
 |w x=>exact⟨_,rfl⟩
 |_=>exact⟨_,rfl⟩
theorem Jmn(lk:List Rw):lkK (lkD lk)=some (lkR lk):=by
 have:∃k,lkK (lkD lk)=some k:=by
  unfold lkD;simp only[lkK]
  induction lk with
  |nil=>exact⟨_,rfl⟩
  |cons a r ih=>
   obtain⟨k,e⟩:=Jst a;obtain⟨ks,e2⟩:=ih;exact⟨k::ks,by simp only[Av,Wv,e,e2]⟩
 obtain⟨k,e⟩:=this;rw[lkR,e];rfl
section
variable {κ α:Type} [DecidableEq κ] {c:List (κ×α)} {k k':κ} {v:α}
def Yf:(∃v,dVal c k=some v)↔k∈c.map (·.1):=by
 constructor
 ·rintro⟨v,h⟩;exact Bg.mpr ⟨_,Jc4 h,rfl⟩
 ·intro h;obtain⟨p,hp,rfl⟩:=Bg.mp h;unfold dVal;have:(c.find? λq=>decide (q.1=p.1)).isSome:=by
   rw[List.find?_isSome];exact⟨p,hp,by simp⟩
  obtain⟨x,hx⟩:=B6.mp this;exact⟨x.2,by rw[hx];rfl⟩
def Jtd:k∈(dPut c k v).map (·.1):=by
 unfold dPut;split
 ·rename_i h;obtain⟨p,hp,e⟩:=L3.mp h;rw[Bz];refine Bg.mpr ⟨p,hp,?_⟩;simp only[decide_eq_true_eq]at e;simp[e]
 ·simp
def Jtb(h:k'∈c.map (·.1)):k'∈(dPut c k v).map (·.1):=by
 rcases Jc5 (c:=c) (k:=k) (v:=v)with e|⟨e,_⟩
 ·rw[e];exact h
 ·rw[e];exact C5 _ h
def Jtc:(dPut c k v).length<=c.length+1:=by
 rcases Jc5 (c:=c) (k:=k) (v:=v)with e|⟨e,_⟩
 ·have:=congrArg Iz e;simp at this
  lia
 ·have:=congrArg Iz e;simp at this
  lia
end
abbrev Kv:=List (List (List Key)×D)
structure V3(kvs:Kv)(mx:Nat):Prop where
 l:kvs.length<=mx
 k:∀p∈kvs,∃ks:List Int,p.2=.tup (ks.map D.int)/\ks.length<=2
def Hs(kvs:Kv)(lk:List Rw):Prop:=lkR lk∈kvs.map (·.1)
def Gr(k1 k2:Kv):Prop:=∀lk,Hs k1 lk->Hs k2 lk
section
variable {W n:Nat} {S S':Store} {l L u q rl:Nat} {c:Cs} {dn:List Int} {ps:List Nat} {d:Dd} {h f m t:Int} {r:Rl} {b:Bk} {ds:List D} {kvs:Kv} {lk:List Rw} {mx:Nat} {ks:List Int}
def V3.put(g:V3 kvs mx)(hk:ks.length<=2):V3 (dPut kvs (lkR lk) (.tup (ks.map D.int))) (mx+1):=⟨by have:=Jtc (c:=kvs) (k:=lkR lk) (v:=D.tup (ks.map D.int));have:=g.l;lia,λp hp=>(Jdy hp).elim (g.k p) λe=>⟨ks,by rw[e],hk⟩⟩
def Gr.put:Gr kvs (dPut kvs (lkR lk) v):=λ_ h=>Jtb h
def Hs.put:Hs (dPut kvs (lkR lk) v) lk:=Jtd
def Jqt(hr:S[rl]? =some (.rg kvs))(g:V3 kvs mx)(hm:mx<=100000):Vi (.loc rl) (lkD lk) v S=.ok () (S.set rl (.rg (dPut kvs (lkR lk) v))):=by
 have:=g.l;simp only[Vi,hr,Jmn,if_pos (show kvs.length<Line by unfold Line;lia)]
def Jyw(hr:S[rl]? =some (.rg kvs))(g:V3 kvs mx)(hh:Hs kvs lk):∃ks:List Int,Jaq (.loc rl) (lkD lk) S=.ok (.tup (ks.map D.int)) S/\ks.length<=2:=by
 obtain⟨v,hv⟩:=Yf.mpr hh;obtain⟨ks,e,hk⟩:=g.k _ (Jc4 hv);refine⟨ks,?_,hk⟩;simp only at e;subst e;simp[Jaq,idxD,Ut,seqAt,hr,Jmn,hv]
def Jpi{S1:Store}(k:Keep ps S S1)(h:S.length<=p):Keep ps S (S1.set p o):=⟨by simp[k.1],λl hl n=>by rw[Aw (by lia)];exact k.2 l hl n⟩
def Stm.ne_rg(hs:Stm S l)(hr:S[rl]? =some (.rg kvs)):l≠rl:=by
 rintro rfl;obtain⟨a,e,s,h⟩:=hs;have:=h.symm.trans hr;cases this
def Stm.get(hs:Stm S l){p:Nat}(k:Keep ps S S')(hp:l∉ps):Stm S' l:=by
 obtain⟨a,e,s,h⟩:=hs;exact⟨a,e,s,k.get h hp⟩
def OuOk(kvs:Kv)(o:Int×List Rw):Prop:=o.1<=10^40/\W3 o.2/\Hs kvs o.2
structure Sr(S:Store)(l rl:Nat)(kvs:Kv)(mx:Nat)(S':Store)(kvs':Kv):Prop where
 k:Keep [l,rl] S S'
 s:Stm S' l
 r:S'[rl]? =some (.rg kvs')
 g:V3 kvs' mx
 m:Gr kvs kvs'
def Sr.refl(hs:Stm S l)(hr:S[rl]? =some (.rg kvs))(g:V3 kvs mx):Sr S l rl kvs mx S kvs:=⟨.refl,hs,hr,g,λ_ h=>h⟩
def Sr.take(a:Sr S l rl kvs mx S1 kv)(k:Keep [l] S1 S2)(s:Stm S2 l):Sr S l rl kvs mx S2 kv:=⟨a.k.trans (k.mono (by simp)),s,k.get a.r (by simp;exact(a.s.ne_rg a.r).symm),a.g,a.m⟩
def Sr.ext(a:Sr S l rl kvs mx S1 kv)(x:Ext S1 S2):Sr S l rl kvs mx S2 kv:=⟨a.k.trans (.ext x),a.s.ext x,x.get a.r,a.g,a.m⟩
def Sr.put{S1:Store}(a:Sr S l rl kvs mx S1 kv)(hk:ks.length<=2):Sr S l rl kvs (mx+1) (S1.set rl (.rg (dPut kv (lkR lk) (.tup (ks.map D.int))))) (dPut kv (lkR lk) (.tup (ks.map D.int))):=⟨a.k.trans (.set (by simp)),a.s.get (p:=0) (Keep.set (ps:=[rl]) (by simp)) (by simp;exact a.s.ne_rg a.r),Jar a.r,a.g.put hk,λlk h=>Gr.put lk (a.m lk h)⟩
def Sr.mono(a:Sr S l rl kvs mx S1 kv)(h:mx<=my):Sr S l rl kvs my S1 kv:=⟨a.k,a.s,a.r,⟨Bu a.g.l h,a.g.k⟩,a.m⟩
def Sr.trans(a:Sr S l rl kvs mx S1 k1)(b:Sr S1 l rl k1 my S2 k2):Sr S l rl kvs my S2 k2:=⟨a.k.trans b.k,b.s,b.r,b.g,λlk h=>b.m lk (a.m lk h)⟩
def Sr.new{S1:Store}(a:Sr S l rl kvs mx S1 kv)(h:S.length<=p)(hp:p≠l)(hq:p≠rl):Sr S l rl kvs mx (S1.set p o) kv:=⟨Jpi a.k h,a.s.get (p:=0) (Keep.set (ps:=[p]) (by simp)) (by simp;exact hp.symm),by rw[Aw hq];exact a.r,a.g,a.m⟩
inductive IOut (S:Store) (l rl o:Nat) (kvs:Kv) (mx:Nat) (i:Nat) (Z:En) (S':Store):Prop
 |mk (t:Int) (os:List (Int×List Rw)) (kv:Kv) (a4 a5 a6 a7:Option D) (_:Z=[some (.loc l),some (.int t),some (.loc rl),some (.loc o),a4,a5,a6,a7]) (_:Sr S l rl kvs (mx+i) S' kv) (_:S'[o]? =some (.lst (os.map ouD))) (_:os.length<=i) (_:(1<=t/\t<=10^40)) (_:∀x∈os,OuOk kv x):IOut S l rl o kvs mx i Z S'
def Jjk(hs:Stm S l)(hr:S[rl]? =some (.rg kvs))(gk:V3 kvs mx)(hmx:mx<=90000)(ht:1<=t/\t<=10^40):
  Sat (callN T G W (n+3) "_law_outs" [.loc l,.int t,.loc rl] S) λd S'=>∃(os:List (Int×List Rw)) (kv:Kv),d=.tup (os.map ouD)/\Sr S l rl kvs (mx+3) S' kv/\os.length<=3/\os≠[]/\∀x∈os,OuOk kv x:=by
 rw[Jab Jh3 rfl];obtain⟨x,S2,e2,k2,s2,hx⟩:=Jaf (W:=W) (n:=n+1) (S:=S++[.lst []]) (m:=3) (hs.ext (.new _ _)) (by decide) (by decide);have a2:Sr S l rl kvs mx S2 kvs:=((Sr.refl hs hr gk).ext (.new _ [.lst []])).take k2 s2;have hll:=hs.lt;have hrl:=Ja3 hr;have ho2:=k2.get (Jac (o:=.lst [])) (by simp;lia);simp[Jde,e2,Line];rw[Jch (by lia) (by lia)];simp;have hxn:x.toNat<=2:=by lia
 refine Sat.p2 (loop (IOut S l rl S.length kvs mx) noR ⟨t,[],kvs,none,none,none,none,rfl,a2,ho2,by simp,ht,by simp⟩ ?_) ?_
 ·rintro i z _ S3 hd ⟨t3,os,kv,a4,a5,a6,a7,rfl,a3,ho,hlen,ht3,hos⟩;rw[Aq]at hd;obtain⟨j,hj,rfl⟩:=Al.mp hd;have hi:i<x.toNat:=by simpa using(Ae.mp hj).1
  rw[Jap]
  by_cases h1:1<t3
  ·obtain⟨lk,ks,S4,e4,k4,s4,hlk,hks⟩:=Jjp (W:=W) (n:=n) a3.s;obtain⟨y,S5,e5,k5,s5,hy⟩:=Jaf (W:=W) (n:=n+1) (S:=S4) (m:=t3-1) s4 (by lia) (Il (show t3-1<=10^40 by lia) (by decide));have b5:=(a3.take k4 s4).take k5 s5;have e6:=Jqt (lk:=lk) (v:=.tup (ks.map D.int)) b5.r b5.g (by lia);have b6:=b5.put (lk:=lk) hks;have ho6:(S5.set rl (.rg (dPut kv (lkR lk) (.tup (ks.map D.int)))))[S.length]? =some (.lst (os.map ouD)):=by
    rw[Aw (by lia)];exact k5.get (k4.get ho (by simp;lia)) (by simp;lia)
   have e7:=Jay (d:=ouD (1+y,lk)) ho6 (Jcg (by rw[Ai];lia));simp only[ouD]at e7;have e8:=Jbh (me:=.append) rfl ho6;simp only[lkD]at e4 e6;simp[h1,e4,e5,e6];simp[Line,e7,e8];refine⟨_,os++[(1+y,lk)],_,_,_,_,_,rfl,b6.new (Aj _) (by lia) (by lia),?_,by simp;lia,by lia,?_⟩
   ·rw[Jar ho6];simp[ouD]
   ·intro z hz;rcases Bo.mp hz with hz|hz
    ·exact⟨(hos z hz).1,(hos z hz).2.1,Gr.put _ (hos z hz).2.2⟩
    ·rw[As.mp hz];exact⟨by show 1+y<=10^40;lia,hlk,Hs.put⟩
  ·simp[h1];exact⟨_,os,_,_,_,_,_,rfl,a3.mono (by lia),ho,by lia,ht3,hos⟩
 ·intro fl S3 hh;obtain⟨_,rfl,t3,os,kv,a4,a5,a6,a7,rfl,a3,ho,hlen,ht3,hos⟩:=hh.nx;rw[Ai,Et]at a3 hlen;obtain⟨lk,ks,S4,e4,k4,s4,hlk,hks⟩:=Jjp (W:=W) (n:=n) a3.s;have b5:=a3.take k4 s4;have e6:=Jqt (lk:=lk) (v:=.tup (ks.map D.int)) b5.r b5.g (by lia);have b6:=b5.put (lk:=lk) hks;have ho6:(S4.set rl (.rg (dPut kv (lkR lk) (.tup (ks.map D.int)))))[S.length]? =some (.lst (os.map ouD)):=by
   rw[Aw (by lia)];exact k4.get ho (by simp;lia)
  simp only[lkD]at e4 e6;simp[e4,e6];generalize S4.set rl (.rg (dPut kv (lkR lk) (.tup (ks.map D.int))))=S6 at b6 ho6;rw[if_pos (show 2<=Line by decide)];simp;rw[if_pos (show 1<=Line by decide)];simp;rw[Jbs (Jag ho6) Jac (by simp[Line];lia)];simp only[Res.bind_ok,Ve,Vm,U0];rw[Jaj Jac];simp;refine⟨os++[(t3,lk)],by rw[D1];rfl,dPut kv (lkR lk) (.tup (ks.map D.int)),(b6.ext (.new _ _)).mono (by lia),by simp;lia,by simp,λz1 z2 hz=>?_⟩;rcases Bo.mp hz with hz|hz
  ·exact⟨(hos _ hz).1,(hos _ hz).2.1,Gr.put _ (hos _ hz).2.2⟩
  ·cases As.mp hz;exact⟨ht3.2,hlk,Hs.put⟩
end
def p7{α0 α1 α2 α3 α4 α5 α6 α7:Type}{r:Res α0}{f1:α0->Store->Res α1}{f2:α1->Store->Res α2}{f3:α2->Store->Res α3}{f4:α3->Store->Res α4}{f5:α4->Store->Res α5}{f6:α5->Store->Res α6}{f7:α6->Store->Res α7}{Q:α0->Store->Prop}{P:α7->Store->Prop}(h:Sat r Q)(k:∀a S,Q a S->Sat (((((((f1 a S).bind f2).bind f3).bind f4).bind f5).bind f6).bind f7) P):Sat (((((((r.bind f1).bind f2).bind f3).bind f4).bind f5).bind f6).bind f7) P:=by
 obtain⟨a,S,rfl,h⟩:=h;exact k a S h
structure Mn(kvs:Kv)(c:Cs)(dn:List Int)(m:Int):Prop where
 gc:Gc c
 gd:Gd dn
 up:(c.map (·.1)).Pairwise λa b=>Rdu.ltP a b=true
 lt:∀p∈c,p.1.1<m
 has:∀p∈c,Hs kvs p.2.lk
 dlt:∀x∈dn,x<m
theorem Jqm:∀{ps:List PP},ps.Pairwise (λa b=>Rdu.ltP a b=true)->upB ps=true
 |[],_=>rfl
 |[a],_=>rfl
 |a::b::r,h=>by
  rw[P8]at h;simp only[upB,Ah];refine⟨h.1 b (by simp),?_⟩;have:=Jqm h.2
  simpa [upB]using this
section
variable {W n:Nat} {S S':Store} {l L u q rl:Nat} {c:Cs} {dn:List Int} {ps:List Nat} {d:Dd} {h f m t:Int} {r:Rl} {b:Bk} {ds:List D} {kvs:Kv} {lk:List Rw} {mx:Nat} {ks:List Int}
def Mn.upB(g:Mn kvs c dn m):upB ((cp c).map (·.1))=true:=Jqm (by simpa [cp,Bz,Bp]using g.up)
def Jks(h1:S[x]? =some (.lst ds))(h2:S[y]? =some (.lst [])):cop .eq (.loc x) (.loc y) S=some ds.isEmpty:=by
 cases ds<;>simp[cop,Jer,eqD,seqAt,h1,h2,eqL]
def Stm.ne_cs(hs:Stm S l)(hr:S[u]? =some (csO c)):u≠l:=by
 rintro rfl;obtain⟨a,e,s,h⟩:=hs;have:=h.symm.trans hr;cases this
def Jfu(hs:S[rl]? =some (.rg kvs))(hr:S[u]? =some (csO c)):u≠rl:=by
 rintro rfl;have:=hs.symm.trans hr;cases this
def Jqs{ks:List Int}(hk:ks.length<=3):Vt (.tup (ks.map D.int)) none (some 10) S=.ok (.tup (ks.map D.int)) S:=by
 have:cutD (ks.map D.int) none (some 10)=ks.map D.int:=by
  rw[Jjx (by decide),Eb (by simp;lia)]
 simp[Vt,this]
def Jyt(hs:Stm S l)(hr:S[rl]? =some (.rg kvs))(gk:V3 kvs mx)(hu:S[u]? =some (csO c))(g:Mn kvs c dn m):
  Sat (callN T G W (n+2) "_law_in" [.loc l,.loc u,.loc rl] S) λd S'=>∃(nm:PP) (ks:List Int),d=inD (nm,ks)/\Keep [l] S S'/\Stm S' l/\ks.length<=3:=by
 rw[Jab Jkv rfl];have hln:=g.gc.len;have e1:=Jn3 hu g.upB (by rw[Ai];unfold Line;lia);obtain⟨x,S2,e2,k2,s2,hx⟩:=Jaf (W:=W) (n:=n) (S:=S++[.lst ((cp c).map λp=>dK p.1)]) (m:=12) (hs.ext (.new _ _)) (by decide) (by decide);have hll:=hs.lt;have k02:Keep [l] S S2:=(Keep.new _).trans k2;have hN:=k2.get (Jac (o:=.lst ((cp c).map λp=>dK p.1))) (by simp;lia);have hu2:=k02.get hu (by simp;exact hs.ne_cs hu);have hr2:=k02.get hr (by simp;exact(hs.ne_rg hr).symm);have e3:=Jks (Jag hN) (Jac (S:=S2) (o:=.lst []));simp[Jf7,e1];simp only[cp,Bz,Bp]at e2 e3 hN;simp[Bp,e2];simp[e3];have s3:=s2.ext (.new S2 [.lst []]);have k03:Keep [l] S (S2++[.lst []]):=k02.trans (.new _);have hN3:=Jag (X:=[.lst []]) hN;have hu3:=Jag (X:=[.lst []]) hu2;have hr3:=Jag (X:=[.lst []]) hr2;generalize S2++[Obj.lst []]=S3 at s3 k03 hN3 hu3 hr3
 by_cases hc:c=[]\/x=0
 ·have hcb:(c.isEmpty=true\/x=0):=hc.elim (λe=>.inl (by simp[e])) .inr;obtain⟨y,S4,e4,k4,s4,hy⟩:=Jaf (W:=W) (n:=n) (S:=S3) (m:=90) s3 (by decide) (by decide);obtain⟨z,S5,e5,k5,s5,hz⟩:=Jaf (W:=W) (n:=n) (S:=S4) (m:=3) s4 (by decide) (by decide);have fin:∃(nm:PP) (ks:List Int),D.tup [.tup [.int y,.int z],.tup []]=inD (nm,ks)/\Keep [l] S S5/\Stm S5 l/\ks.length<=3:=⟨(y,z),[],rfl,(k03.trans k4).trans k5,s5,by simp⟩
  rcases hc with rfl|rfl
  ·simp[e4,e5,Line]
   simpa using fin
  ·by_cases hc:c=[]
   ·simp[hc,e4,e5,Line]
    simpa using fin
   ·simp[hc,e4,e5,Line]
    simpa using fin
 ·have hc1:¬c=[]:=λe=>hc (.inl e);have hx0:¬x=0:=λe=>hc (.inr e);have hpos:0<c.length:=Kq.mpr hc1;have e4:=Jav hN3;rw[Ai]at e4;obtain⟨y,S5,e5,k5,s5,hy⟩:=Jaf (W:=W) (n:=n) (S:=S3) (m:=c.length) s3 (by lia) (Int.lt_trans (show(c.length:Int)<2000 by lia) (by decide));have hN5:=k5.get hN3 (by simp;lia);have hu5:=k5.get hu3 (by simp;exact hs.ne_cs hu);have hr5:=k5.get hr3 (by simp;exact(hs.ne_rg hr).symm);simp[hc1,hx0,e4,e5];refine Sat.p3 (Jbo hN5 hy.1 (by simp;lia) (P:=λx=>∃p∈c,x=dK p.1) (λx hx=>by obtain⟨p,hp,rfl⟩:=Bg.mp hx;exact⟨p,hp,rfl⟩)) ?_;rintro _ S6 ⟨⟨p,hp,rfl⟩,rfl⟩;obtain⟨ks,e6,hks⟩:=Jyw hr5 gk (g.has p hp);simp only[lkD]at e6;have e7:=Jjt hu5 (Jnb g.gc.nd hp);have kk:=k03.trans k5;simp[e7,e6]
  by_cases h1:x=1
  ·have e8:bop .add (.tup (ks.map D.int)) (.tup [.int 0]) S6=.ok (.tup ((ks++[0]).map D.int)) S6:=by rw[Jct (by simp[Line];lia)];simp
   have e9:=Jqs (S:=S6) (ks:=ks++[0]) (by simp;lia);rw[D1]at e8 e9;simp only[Av,E9]at e8 e9;simp[h1,Line,e8,e9];exact⟨p.1.1,p.1.2,ks++[0],by simp[inD],kk,s5,by simp;lia⟩
  ·have e9:=Jqs (S:=S6) (ks:=ks) (by lia);simp[h1,Line,e9];exact⟨p.1.1,p.1.2,ks,rfl,kk,s5,by lia⟩
theorem J00{ps:List PP}(hl:S[l]? =some (.lst (ps.map dK))):∃e,cop .nin (dK p) (.loc l) S=some e/\(ps=[]->e=true):=by
 have:∀ps:List PP,∃e,anyEq S Deep (dK p) (ps.map dK)=some e:=by
  intro ps
  induction ps with
  |nil=>exact⟨false,rfl⟩
  |cons a r ih=>
   obtain⟨e,he⟩:=ih;have h1:∃e1,eqD S Deep (dK a) (dK p)=some e1:=⟨_,rfl⟩
   obtain⟨e1,h1⟩:=h1;exact⟨e1||e,by simp only[Av,anyEq,he,h1]⟩
 obtain⟨e,he⟩:=this ps;refine⟨!e,by simp[cop,Ut,seqAt,hl,he],λh=>?_⟩;subst h;cases he;rfl
theorem Jqq:∀{xs:List Int},(∀x∈xs,x<=B)->xs.sum<=xs.length*B
 |[],_=>by simp
 |x::xs,h=>by
  have:=Jqq (xs:=xs) (B:=B) λy hy=>h y (Ay _ hy);have:=h x (by simp);rw[Tu,A7,Int.natCast_add,Int.add_mul];omega
theorem Jhe{α β:Type}(p:α->Bool)(g:α->β):∀xs:List α,xs.filterMap (λi=>if p i then some (g i)else none)=(xs.filter p).map g
 |[]=>rfl
 |a::r=>by
  rw[F7,E4,Jhe p g r];cases p a<;>rfl
inductive IDe (S:Store) (l u rl o:Nat) (num:Int) (kvs:Kv) (mx:Nat) (i:Nat) (Z:En) (S':Store):Prop
 |mk (is:List (PP×List Int)) (a5 a6 a7 a8:Option D) (_:Z=[some (.loc l),some (.int num),some (.loc u),some (.loc rl),some (.loc o),a5,a6,a7,a8]) (_:Sr S l rl kvs mx S' kvs) (_:S'[o]? =some (.lst (is.map inD))) (_:is.length<=i) (_:(0<i->is≠[])) (_:∀x∈is,x.2.length<=3):IDe S l u rl o num kvs mx i Z S'
def Jp3(hs:Stm S l)(hr:S[rl]? =some (.rg kvs))(gk:V3 kvs mx)(hmx:mx<=90000)(hu:S[u]? =some (csO c))(g:Mn kvs c dn m)(hnum:0<=num/\num<345):
  Sat (callN T G W (n+4) "_law_deed" [.loc l,.int num,.loc u,.loc rl] S) λd' S'=>∃(d:Dd) (kv:Kv),d'=ddD d/\d.n=num/\Sr S l rl kvs (mx+3) S' kv/\Wa d/\d.ins≠[]/\∀o∈d.outs,OuOk kv o:=by
 rw[Jab Jh8 rfl];obtain⟨x,S2,e2,k2,s2,hx⟩:=Jaf (W:=W) (n:=n+2) (S:=S++[.lst []]) (m:=3) (hs.ext (.new _ _)) (by decide) (by decide);have a2:Sr S l rl kvs mx S2 kvs:=((Sr.refl hs hr gk).ext (.new _ [.lst []])).take k2 s2;have hll:=hs.lt;have hrl:=Ja3 hr;have hul:=Ja3 hu;have ho2:=k2.get (Jac (o:=.lst [])) (by simp;lia);simp[Jdh,e2,Line];rw[Jch (by lia) (by lia)];simp;have hxn:(1+x).toNat<=3/\0<(1+x).toNat:=by lia
 have huk:∀{S':Store} {kv:Kv} {my:Nat},Sr S l rl kvs my S' kv->S'[u]? =some (csO c):=λa=>a.k.get hu (by simp;exact⟨hs.ne_cs hu,Jfu hr hu⟩);refine Sat.p2 (loop (IDe S l u rl S.length num kvs mx) noR ⟨[],none,none,none,none,rfl,a2,ho2,by simp,by simp,by simp⟩ ?_) ?_
 ·rintro i z _ S3 hd ⟨is,a5,a6,a7,a8,rfl,a3,ho,hlen,hne,his⟩;rw[Aq]at hd;obtain⟨j,hj,rfl⟩:=Al.mp hd;have hi:i<(1+x).toNat:=by simpa using(Ae.mp hj).1
  obtain⟨_,S4,e4,nm,ks,rfl,k4,s4,hks⟩:=Jyt (W:=W) (n:=n+1) a3.s a3.r gk (huk a3) g;have a4:=a3.take k4 s4;have ho4:=k4.get ho (by simp;lia);rw[Jap];simp[e4,Ja0 ho4];rw[Ja7 (xs:=is) inD (λi=>dK i.1) (by lia) (.inr ⟨_,rfl,ho4⟩) (λx _=>by simp[Jal,Us])];obtain⟨e,e5,he⟩:=J00 (p:=nm) (ps:=is.map (·.1)) (S:=S4++[.lst (is.map λi=>dK i.1)]) (l:=S4.length) (by rw[Jac];simp[Bp]);have a6:=a4.ext (.new S4 [.lst (is.map λi=>dK i.1)]);have ho6:=Jag (X:=[.lst (is.map λi=>dK i.1)]) ho4;generalize hS6:S4++[Obj.lst (is.map λi=>dK i.1)]=S6 at e5 a6 ho6;simp[e5];have app:∀{S7:Store},S7[S.length]? =some (.lst (is.map inD))->rcv .append S7 (.loc S.length)=true/\Uw .append (.loc S.length) [inD (nm,ks)] S7=.ok .non (S7.set S.length (.lst (is.map inD++[inD (nm,ks)]))):=λh=>⟨Jbh rfl h,by rw[Jay h (Jcg (by rw[Ai];lia))]⟩
  have fin:∀{S7:Store},Sr S l rl kvs mx S7 kvs->S7[S.length]? =some (.lst (is.map inD))->∀v,IDe S l u rl S.length num kvs mx (i+1) [some (.loc l),some (.int num),some (.loc u),some (.loc rl),some (.loc S.length),some (.int j),some v,a7,a8] (S7.set S.length (.lst (is.map inD++[inD (nm,ks)]))):=λa7 h v=>by
   refine⟨is++[(nm,ks)],_,_,_,_,rfl,a7.new (Aj _) (by lia) (by lia),by rw[Jar h];simp,by simp;lia,λ_=>by simp,λz hz=>?_⟩;rcases Bo.mp hz with hz|hz
   ·exact his z hz
   ·rw[As.mp hz];exact hks
  cases e with
  |true=>
   simp[app ho6];exact fin a6 ho6 _
  |false=>
   obtain⟨y,S7,e7,k7,s7,hy⟩:=Jaf (W:=W) (n:=n+2) (S:=S6) (m:=6) a6.s (by decide) (by decide);have a7':=a6.take k7 s7;have ho7:=k7.get ho6 (by simp;lia)
   by_cases hy0:y=0
   ·simp[e7,hy0,app ho7];exact fin a7' ho7 _
   ·simp[e7,hy0];refine⟨is,_,_,_,_,rfl,a7',ho7,by lia,λ_ h=>?_,his⟩;have:=he (by simp[h]);cases this
 ·intro fl S3 hh;obtain⟨_,rfl,is,a5,a6,a7,a8,rfl,a3,ho,hlen,hne,his⟩:=hh.nx;rw[Ai,Et]at hlen hne;have hne:=hne hxn.2;have hu3:=huk a3;simp[Ja0 ho];rw[Jjs (xs:=is) inD (λi=>if(dVal c i.1).isSome then some (.int (wOf c i.1))else none) (by lia) (.inr ⟨_,rfl,ho⟩) (λx _=>by
   cases hv:dVal c x.1 with
   |none=>simp[Jal,Us,Jyv hu3,hv]
   |some k=>simp[Jal,Us,Jyv hu3,hv,Jjt hu3 hv,wOf])]
  rw[Jhe (λi:PP×List Int=>(dVal c i.1).isSome) (λi=>D.int (wOf c i.1))];simp only[Res.bind_ok,Ve,Vm,U0];rw[Jbu];have hsum:((is.filter λi=>(dVal c i.1).isSome).map λi=>wOf c i.1).sum<=3*10^40:=by
   have h1:=Jqq (B:=10^40) (xs:=(is.filter λi=>(dVal c i.1).isSome).map λi=>wOf c i.1) λx hx=>by
    obtain⟨y,hy,rfl⟩:=Bg.mp hx;obtain⟨k,hk⟩:=B6.mp (Hi.mp hy).2;simp only[wOf,hk];exact(g.gc.ok _ (Jc4 hk)).w
   have h2:=Jw (λi:PP×List Int=>(dVal c i.1).isSome) is;rw[Ai]at h1;generalize((is.filter λi=>(dVal c i.1).isSome).map λi=>wOf c i.1).sum=s at h1;generalize(is.filter λi=>(dVal c i.1).isSome).length=k at h1 h2;have:k<=3:=by lia
   lia
  have a4:=a3.ext (.new S3 [.lst ((is.filter λi=>(dVal c i.1).isSome).map λi=>D.int (wOf c i.1))]);have ho4:=Jag (X:=[.lst ((is.filter λi=>(dVal c i.1).isSome).map λi=>D.int (wOf c i.1))]) ho;generalize((is.filter λi=>(dVal c i.1).isSome).map λi=>wOf c i.1).sum=tot at hsum;generalize S3++[Obj.lst ((is.filter λi=>(dVal c i.1).isSome).map λi=>D.int (wOf c i.1))]=S4 at a4 ho4;obtain⟨w,S5,e5,k5,s5,hw⟩:=Jaf (W:=W) (n:=n+2) (S:=S4) (m:=8) a4.s (by decide) (by decide);have a5:=a4.take k5 s5;have ho5:=k5.get ho4 (by simp;lia);have epow:∀S:Store,bop .pow (.int 10) (.int 40) S=.ok (.int (10^40)) S:=λS=>Ja5 (k:=40) rfl (by decide) (by decide);have fin:∀{S6:Store} {t:Int},Sr S l rl kvs mx S6 kvs->1<=t/\t<=10^40->Sat (callN T G W (n+3) "_law_outs" [.loc l,.int t,.loc rl] S6) λd' S'=>∃(d:Dd) (kv:Kv),.tup [.int num,.tup (is.map inD),d']=ddD d/\d.n=num/\Sr S l rl kvs (mx+3) S' kv/\Wa d/\d.ins≠[]/\∀o∈d.outs,OuOk kv o:=λ{S6 t} a6 ht=>by
   refine(Jjk (W:=W) (n:=n) a6.s a6.r gk hmx ht).mono ?_;rintro _ S7 ⟨os,kv,rfl,a7,h3,h4,h5⟩;exact⟨⟨num,is,os⟩,kv,rfl,rfl,a6.trans a7,⟨hnum,by show is.length<=3;lia,h3,his,λo ho=>⟨(h5 o ho).1,(h5 o ho).2.1⟩⟩,hne,h5⟩
  simp[e5]
  by_cases hw0:w=0
  ·simp[hw0,Jaj ho5,epow];refine p7 (fin a5 (by constructor<;>(repeat' split)<;>lia)) ?_;rintro d' S7 ⟨d,kv,e,h1,h2,h3,h4,h5⟩;simp[Line];exact⟨d,e,h1,kv,h2,h3,h4,λa b h=>h5 _ h⟩
  ·simp[hw0]
   by_cases hw4:4<w
   ·by_cases ht1:1<tot
    ·obtain⟨y,S6,e6,k6,s6,hy⟩:=Jaf (W:=W) (n:=n+2) (S:=S5) (m:=tot) s5 (by lia) (Il hsum (by decide));have ho6:=k6.get ho5 (by simp;lia);have a6:=a5.take k6 s6;simp[hw4,ht1,e6,Jaj ho6,epow];refine p7 (fin a6 (by constructor<;>(repeat' split)<;>lia)) ?_;rintro d' S7 ⟨d,kv,e,h1,h2,h3,h4,h5⟩;simp[Line];exact⟨d,e,h1,kv,h2,h3,h4,λa b h=>h5 _ h⟩
    ·simp[hw4,ht1,Jaj ho5,epow];refine p7 (fin a5 (by constructor<;>(repeat' split)<;>lia)) ?_;rintro d' S7 ⟨d,kv,e,h1,h2,h3,h4,h5⟩;simp[Line];exact⟨d,e,h1,kv,h2,h3,h4,λa b h=>h5 _ h⟩
   ·simp[hw4,Jaj ho5,epow];refine p7 (fin a5 (by constructor<;>(repeat' split)<;>lia)) ?_;rintro d' S7 ⟨d,kv,e,h1,h2,h3,h4,h5⟩;simp[Line];exact⟨d,e,h1,kv,h2,h3,h4,λa b h=>h5 _ h⟩
theorem Jb1:∀i,(dropO c d i).Sublist c
 |0=>List.Sublist.refl _
 |i+1=>by
  unfold dropO;split
  ·exact V2.trans (Jb1 i)
  ·exact Jb1 i
theorem Jl4(g:Mn kvs c dn m)(hm:m<=d.n)(ho:∀o∈d.outs,Hs kvs o.2):∀i,((putO c d h f i).map (·.1)).Pairwise (λa b=>Rdu.ltP a b=true)/\(∀p∈putO c d h f i,p.1.1<d.n\/(p.1.1=d.n/\p.1.2<i))/\∀p∈putO c d h f i,Hs kvs p.2.lk
 |0=>⟨g.up.sublist ((Jb1 _).map _),λp hp=>.inl (by have:=g.lt p ((Jb1 _).subset hp);lia),λp hp=>g.has p ((Jb1 _).subset hp)⟩
 |i+1=>by
  obtain⟨h1,h2,h3⟩:=Jl4 g hm ho i;unfold putO;split
  ·rename_i x hx;refine⟨?_,λp hp=>?_,λp hp=>?_⟩
   ·rcases Jc5 (c:=putO c d h f i) (k:=(d.n,(i:Int))) (v:=⟨x.1,x.2,h,f⟩)with e|⟨e,_⟩
    ·rw[e];exact h1
    ·rw[e,O9];refine⟨h1,by simp,λa ha b hb=>?_⟩;rw[As.mp hb];obtain⟨p,hp,rfl⟩:=Bg.mp ha;exact Rdu.Vs.mpr (h2 p hp)
   ·rcases Jdy hp with hp|rfl
    ·rcases h2 p hp with z|z
     ·exact .inl z
     ·exact .inr ⟨z.1,by lia⟩
    ·exact .inr ⟨rfl,by show(i:Int)<_;lia⟩
   ·rcases Jdy hp with hp|rfl
    ·exact h3 p hp
    ·exact ho x (Ba hx)
  ·refine⟨h1,λp hp=>?_,h3⟩;rcases h2 p hp with z|z
   ·exact .inl z
   ·exact .inr ⟨z.1,by lia⟩
def Mn.put(g:Mn kvs c dn m)(g2:Wa d)(ho:∀o∈d.outs,Hs kvs o.2)(hn:d.n∉dn)(hm:m<=d.n):Mn kvs (W5 c d h f) (dn++[d.n]) (d.n+1):=by
 obtain⟨h1,h2,h3⟩:=Jl4 (h:=h) (f:=f) g hm ho d.outs.length;refine⟨g.gc.putO g2 _,g.gd.add hn g2.n,h1,λp hp=>?_,h3,λx hx=>?_⟩
 ·rcases h2 p hp with z|z<;>lia
 ·rcases Bo.mp hx with z|z
  ·have:=g.dlt x z;lia
  ·rw[As.mp z];lia
def Mn.mono(g:Mn kvs c dn m)(h:m<=m'):Mn kvs c dn m':=⟨g.gc,g.gd,g.up,λp hp=>Lc (g.lt p hp) h,g.has,λx hx=>Lc (g.dlt x hx) h⟩
def Mn.ring(g:Mn kvs c dn m)(h:Gr kvs kv):Mn kv c dn m:=⟨g.gc,g.gd,g.up,g.lt,λp hp=>h _ (g.has p hp),g.dlt⟩
def NumOk(first:Int)(dn:List Int)(ds:List Dd):Prop:=∀(i:Nat) (d:Dd),ds[i]? =some d->d.n=first+i\/d.n∈dn\/∃(j:Nat) (d':Dd),j<i/\ds[j]? =some d'/\d'.n=d.n
theorem Jrn{first w:Int}{ds:List Dd}(hb:BkOk ds)(hn:NumOk first dn ds)(ho:∀d∈ds,∀o∈d.outs,Hs kvs o.2){z:Option (Nat×String)×Cs×List Int×Int}(hz1:z.1=none):∀(k i:Nat) (c':Cs) (dn':List Int) (f':Int),i+k=ds.length->Mn kvs c' dn' (first+i)->(∀x∈dn,x∈dn')->(∀j d',j<i->ds[j]? =some d'->d'.n∈dn')->z=goP h w i c' dn' f' (ds.drop i)->Mn kvs z.2.1 z.2.2.1 (first+ds.length)
 |0,i,c',dn',f',hi,g,h1,h2,hz=>by
  rw[Js (by lia),goP]at hz;subst hz;exact g.mono (by lia)
 |k+1,i,c',dn',f',hi,g,h1,h2,hz=>by
  have hx:i<ds.length:=by lia
  have hd:ds[i]? =some ds[i]:=Ag hx;rw[Ce hx]at hz;generalize ds[i]=d at hd hz;rw[goP]at hz;have hw:U6 c' dn' d h=none:=by
   cases hw:U6 c' dn' d h with
   |none=>rfl
   |some w=>rw[hw]at hz;rw[hz]at hz1;cases hz1
  rw[hw]at hz;have hnn:=(Jb6 hw).1;have hdn:d.n=first+i:=by
   rcases hn i d hd with e|e|⟨j,d',hj,hd',e⟩
   ·exact e
   ·exact absurd (h1 _ e) hnn
   ·exact absurd (e▸h2 j d' hj hd') hnn
  have hm:=Ba hd;have g':=g.put (h:=h) (f:=if i=0 then h+w else h) (hb.ok d hm) (ho d hm) hnn (by lia);refine Jrn hb hn ho hz1 k (i+1) _ _ _ (by lia) (g'.mono (by lia)) (λx hx=>C5 _ (h1 x hx)) (λj d' hj hd'=>?_) hz
  by_cases e:j=i
  ·subst e;rw[hd]at hd';cases hd';simp
  ·exact C5 _ (h2 j d' (by lia) hd')
def Juk(g:RlOk r):0<=U1 r h/\U1 r h<=10^40:=by
 unfold U1;have hp:(0:Int)<=2^(min 200 ((h-1)/r.b).toNat):=Tv (by decide);exact⟨Ms g.a.1 hp,Int.le_trans (Int.ediv_le_self _ g.a.1) g.a.2⟩
def Sr.keepN(a:Sr S l rl kvs mx S1 kv)(k:Keep ps S1 S2)(hp:∀p∈ps,S.length<=p)(hl:l<S.length)(hr:rl<S.length):Sr S l rl kvs mx S2 kv:=⟨⟨Bu a.k.1 k.1,λx hx n=>(k.2 x (Bf hx a.k.1) (λz=>by have:=hp x z;lia)).trans (a.k.2 x hx n)⟩,a.s.get (p:=0) k (λz=>by have:=hp l z;lia),k.get a.r (λz=>by have:=hp rl z;lia),a.g,a.m⟩
structure Bld(S:Store)(l rl u q o:Nat)(kvs:Kv)(mx:Nat)(first:Int)(dn:List Int)(i:Nat)(S':Store)(kv:Kv)(ds:List Dd)(c:Cs)(db:List Int):Prop where
 a:Sr S l rl kvs (mx+3*i+3) S' kv
 u:S'[u]? =some (csO c)
 q:S'[q]? =some (dnO db)
 o:S'[o]? =some (.lst (ds.map ddD))
 n:ds.length=i+1
 g:Mn kv c db (first+1+i)
 b:BkOk ds
 m:NumOk first dn ds
 h:∀d∈ds,∀x∈d.outs,Hs kv x.2
 s:∀x∈db,x∈dn\/∃d'∈ds,d'.n=x
 e:db≠[]
 z:∃d0 rs,ds=d0::rs/\d0.outs≠[]/\d0.n=first
noncomputable abbrev eB(l:Nat)(first:Int)(u0 q0:Nat)(h:Int)(r:Rl)(rl:Nat)(w:Int)(u q o:Nat)(a11 a12 a13:Option D):En:=[some (.loc l),some (.int first),some (.loc u0),some (.loc q0),some (.int h),some (rlD r),some (.loc rl),some (.int w),some (.loc u),some (.loc q),some (.loc o),a11,a12,a13,none,none,none,none]
theorem Jz9{u0 q0 u q o:Nat}{first w num:Int}{i:Nat}{kv:Kv}{dds:List Dd}{db:List Int}{a11 a13:Option D}(B:Bld S l rl u q o kvs mx first dn i S' kv dds c db)
  (hl:l<S.length)(hrl:rl<S.length)(hu:S.length<=u)(hq:S.length<=q)(ho:S.length<=o)(hmx:mx+3*i+6<=90000)(hi:i<=15)(hfirst:1<=first/\first<=321)
  (hnum:num=first+1+i\/num∈db):
  Sat (evB (Cn T G W (n+6)) tl (eB l first u0 q0 h r rl w u q o a11 (some (.int num)) a13) S') λfl S2=>∃kv2 ds2 c2 db2,fl=.nx (eB l first u0 q0 h r rl w u q o a11 (some (.int num)) a13)/\Bld S l rl u q o kvs mx first dn (i+1) S2 kv2 ds2 c2 db2:=by
 have hn345:0<=num/\num<345:=by
  rcases hnum with e|e
  ·lia
  ·exact B.g.gd.ok _ e
 obtain⟨_,S3,e3,d,kv3,rfl,hdn,a3,dk,hne,hou⟩:=Jp3 (W:=W) (n:=n+2) B.a.s B.a.r B.a.g (by lia) B.u B.g hn345;have A3:=B.a.trans a3;have huq:u≠q:=by
  intro e;have h1:=B.u;rw[e,B.q]at h1;cases h1
 have hoq:o≠u/\o≠q:=by
  constructor
  ·intro e;have h1:=B.o;rw[e,B.u]at h1;cases h1
  ·intro e;have h1:=B.o;rw[e,B.q]at h1;cases h1
 have kp:∀{p:Nat},S.length<=p->p∉[l,rl]:=λhp=>by simp;lia
 have hu3:=a3.k.get B.u (kp hu);have hq3:=a3.k.get B.q (kp hq);have ho3:=a3.k.get B.o (kp ho);have e4:=Jay (d:=ddD d) ho3 (Jcg (by rw[Ai,B.n];lia));have e5:=Jbh (me:=.append) rfl B.o;have ho4:(S3.set o (.lst (dds.map ddD++[ddD d])))[o]? =some (.lst (dds.map ddD++[ddD d])):=Jar ho3;have k4:Keep [o] S3 (S3.set o (.lst (dds.map ddD++[ddD d]))):=.set (by simp);have A4:=A3.keepN k4 (by simp;exact ho) hl hrl;have hu4:=k4.get hu3 (by simp;exact hoq.1.symm);have hq4:=k4.get hq3 (by simp;exact hoq.2.symm);simp[tl,e3,e4,e5];generalize S3.set o (.lst (dds.map ddD++[ddD d]))=S4 at ho4 k4 A4 hu4 hq4;have g4:=B.g.ring a3.m;obtain⟨S5,e6,x5⟩:=Jky (W:=W) (n:=n+1) (h:=h) hu4 hq4 g4.gc dk;have e7:∀{S:Store},S[o]? =some (.lst (dds.map ddD++[ddD d]))->Jaq (.loc o) (.int (-1)) S=.ok (ddD d) S:=λh=>Jc1 h;have Ho:∀x∈d.outs,Hs kv3 x.2:=λx hx=>(hou x hx).2.2;have Hall:∀d'∈dds++[d],∀x∈d'.outs,Hs kv3 x.2:=λd' hd' x hx=>by
  rcases Bo.mp hd' with z|z
  ·exact a3.m _ (B.h d' z x hx)
  ·rw[As.mp z]at hx;exact Ho x hx
 have Bk:BkOk (dds++[d]):=⟨λd' hd'=>by
   rcases Bo.mp hd' with z|z
   ·exact B.b.ok d' z
   ·rw[As.mp z];exact dk,by have:=B.n;simp;lia,λj d' hj=>by
   have hn:=B.n
   by_cases hjl:j<dds.length
   ·rw[A0 hjl]at hj;exact B.b.mr j d' hj
   ·have hl:=(Ae.mp hj).1;rw[Bd,Dq]at hl;have:j=dds.length:=by lia
    subst this;rw[A1 (Aj _),Eu]at hj;cases hj;exact⟨λz=>absurd z hne,λz=>by lia⟩,by simp⟩
 have Nk:NumOk first dn (dds++[d]):=λj d' hj=>by
  have hn:=B.n
  by_cases hjl:j<dds.length
  ·have hj':=hj;rw[A0 hjl]at hj';rcases B.m j d' hj' with e|e|⟨k,d2,hk,hd2,e⟩
   ·exact .inl e
   ·exact .inr (.inl e)
   ·exact .inr (.inr ⟨k,d2,hk,by rw[A0 (by lia)];exact hd2,e⟩)
  ·have hl:=(Ae.mp hj).1;rw[Bd,Dq]at hl;have hjj:j=dds.length:=by lia
   subst hjj;rw[A1 (Aj _),Eu]at hj;cases hj;rcases hnum with e|e
   ·exact .inl (by lia)
   ·rcases B.s _ e with z|⟨d2,hd2,z⟩
    ·exact .inr (.inl (by rw[hdn];exact z))
    ·obtain⟨k,hk,ek⟩:=Cz.mp hd2;exact .inr (.inr ⟨k,d2,hk,by rw[A0 hk,Ag hk,ek],by rw[z,hdn]⟩)
 have Zk:∃d0 rs,dds++[d]=d0::rs/\d0.outs≠[]/\d0.n=first:=by
  obtain⟨d0,rs,e,h0⟩:=B.z;exact⟨d0,rs++[d],by rw[e];rfl,h0⟩
 have om:(dds.map ddD++[ddD d])=(dds++[d]).map ddD:=by simp
 have nk:(dds++[d]).length=i+1+1:=by simp;exact B.n
 simp[e7 ho4,e6];cases hw:U6 c db d h with
 |some x=>
  simp;exact⟨kv3,dds++[d],c,db,(A4.ext x5).mono (by lia),x5.get hu4,x5.get hq4,by rw[x5.get ho4,om],nk,g4.mono (by lia),Bk,Nk,Hall,λx hx=>(B.s x hx).elim .inl λ⟨d',h1,h2⟩=>.inr ⟨d',C5 _ h1,h2⟩,B.e,Zk⟩
 |none=>
  obtain⟨hnn,hdst,hv⟩:=Jb6 hw;obtain⟨S6,e8,k6,hu6,hq6⟩:=Jl3 (W:=W) (n:=n+5) (h:=h) (f:=h) (x5.get hu4) (x5.get hq4) g4.gc g4.gd dk hnn hdst hv;have hdi:d.n=first+1+i:=hnum.elim (λe=>by lia) λe=>absurd (hdn▸e) hnn
  simp[e7 (x5.get ho4),e8];refine⟨kv3,dds++[d],W5 c d h h,db++[d.n],((A4.ext x5).keepN k6 (by simp;lia) hl hrl).mono (by lia),hu6,hq6,by rw[k6.get (x5.get ho4) (by simp;exact hoq),om],nk,?_,Bk,Nk,Hall,λx hx=>?_,by simp,Zk⟩
  ·exact(g4.put dk Ho hnn (by lia)).mono (by lia)
  ·rcases Bo.mp hx with z|z
   ·exact(B.s x z).elim .inl λ⟨d',h1,h2⟩=>.inr ⟨d',C5 _ h1,h2⟩
   ·rw[As.mp z];exact .inr ⟨d,by simp,rfl⟩
def three(h0:Z[0]? =some (some (.loc l)))(hs:Stm S l):Sat (Wh (Cn T G W (n+1)) 1 [0] (.tvar 0) .nul (.call "_law_take" (.cns (.var 1) (.cns (.bin .pow (.cst (.int 10)) (.cst (.int 30))) .nul))) Z (none,(B1 3).map λ(i:Nat)=>D.int i) S) λd S'=>∃(x y z:Int) (p:Nat),d=.loc p/\S'[p]? =some (.lst [.int x,.int y,.int z])/\Keep [l] S S'/\Stm S' l:=by
 refine(comp (λi acc S'=>∃xs:List Int,acc=xs.map D.int/\xs.length=i/\Keep [l] S S'/\Stm S' l) (by decide) ⟨[],rfl,rfl,.refl,hs⟩ (λi acc S1 ⟨xs,h1,h2,_⟩=>⟨by rw[h1,Ai];lia,rfl⟩) (λi acc S1 hi ⟨xs,h1,h2,k1,s1⟩=>?_)).mono ?_
 ·have hx:i<3:=by simpa using hi
  obtain⟨x,S2,e2,k2,s2,hx2⟩:=Jaf (W:=W) (n:=n) (m:=1000000000000000000000000000000) s1 (by decide) (by decide);have ep:bop .pow (.int 10) (.int 30) S1=.ok (.int 1000000000000000000000000000000) S1:=Ja5 (k:=30) rfl (by decide) (by decide);refine⟨.int i,by simp[nth,hx],?_⟩;rw[Jal];simp only[Us,Av,E9,h0];simp[ep,e2];exact⟨xs++[x],by simp[h1],by simp[h2],k1.trans k2,s2⟩
 ·rintro _ _ ⟨ys,S0,⟨xs,rfl,h2,k0,s0⟩,rfl,rfl⟩;rcases xs with _|⟨x,_|⟨y,_|⟨z,_|⟨a,xs⟩⟩⟩⟩<;>simp at h2;exact⟨x,y,z,_,rfl,Jac,k0.trans (.new _),s0.ext (.new _ _)⟩
inductive PB (S:Store) (l rl:Nat) (kvs:Kv) (mx:Nat) (first:Int) (dn:List Int) (d':D) (S':Store):Prop
 |mk (b:Bk) (kv:Kv) (_:d'=bkD b) (_:Sr S l rl kvs (mx+45) S' kv) (_:BkOk b.ds) (_:NumOk first dn b.ds) (_:∀d∈b.ds,∀o∈d.outs,Hs kv o.2):PB S l rl kvs mx first dn d' S'
inductive IBk (S:Store) (l rl u0 q0 o:Nat) (kvs:Kv) (mx:Nat) (first:Int) (dn:List Int) (h:Int) (r:Rl) (w:Int) (i:Nat) (Z:En) (S':Store):Prop
 |mk (kv:Kv) (ds:List Dd) (cb:Cs) (db:List Int) (a11 a12 a13:Option D) (_:Z=eB l first u0 q0 h r rl w S.length (S.length+1) o a11 a12 a13) (_:Bld S l rl S.length (S.length+1) o kvs mx first dn i S' kv ds cb db):IBk S l rl u0 q0 o kvs mx first dn h r w i Z S'
def Wgc{first w:Int}(hs:Stm S l)(hr:S[rl]? =some (.rg kvs))(gk:V3 kvs mx)(hmx:mx+45<=90000)(hu:S[u]? =some (csO c))(hq:S[q]? =some (dnO dn))(g:Mn kvs c dn first)(hf:1<=first/\first<=321)(gr:RlOk r)(hh:1<=h)(hw:1<=w):
  Sat ((evB (Cn T G W (n+6)) rest [some (.loc l),some (.int first),some (.loc u),some (.loc q),some (.int h),some (rlD r),some (.loc rl),some (.int w),none,none,none,none,none,none,none,none,none,none] S).bind W7) (PB S l rl kvs mx first dn):=by
 have hl:=hs.lt;have hrl:=Ja3 hr;have e2:=Jgd (Jag (X:=[csO c]) hq);simp[rest,Jgc hu g.gc.apt];simp at e2;have epow:∀S:Store,bop .pow (.int 10) (.int 40) S=.ok (.int (10000000000000000000000000000000000000000:Int)) S:=λS=>Ja5 (k:=40) rfl (by decide) (by decide);simp[e2,epow];have x1:=Ext.new S [csO c,dnO dn];obtain⟨_,S2,e3,os,kv2,rfl,a2,ho3,hne,hou⟩:=Jjk (W:=W) (n:=n+3) (S:=S++[csO c,dnO dn]) (t:=if w<(10000000000000000000000000000000000000000:Int)then w else(10000000000000000000000000000000000000000:Int)) (hs.ext x1) (x1.get hr) gk (by lia) (by constructor<;>split<;>lia);have A2:Sr S l rl kvs (mx+3) S2 kv2:=⟨(Keep.ext x1).trans a2.k,a2.s,a2.r,a2.g,a2.m⟩
 have hu2:=a2.k.get (Jat (S:=S) (a0:=csO c) (X:=[dnO dn])) (by simp;lia);have hq2:=a2.k.get (Jcd (S:=S) (a0:=csO c) (a1:=dnO dn) (X:=[])) (by simp;lia);have l2:S.length+2<=S2.length:=by have:=a2.k.1;simpa using this
 have dk0:Wa ⟨first,[],os⟩:=⟨⟨by show 0<=first;lia,by show first<345;lia⟩,by simp,ho3,by simp,λo ho=>⟨(hou o ho).1,(hou o ho).2.1⟩⟩
 have hn0:first∉dn:=λz=>by have:=g.dlt _ z;lia
 have x3:=Ext.new S2 [Obj.lst [ddD ⟨first,[],os⟩]];have ho0:(S2++[Obj.lst [ddD ⟨first,[],os⟩]])[S2.length]? =some (.lst [ddD ⟨first,[],os⟩]):=Jac;have i0:=Jau ho0 (at0 (k:=0) rfl);obtain⟨S3,e4,k3,hu3,hq3⟩:=Jl3 (W:=W) (n:=n+5) (h:=h) (f:=h+r.c) (x3.get hu2) (x3.get hq2) g.gc g.gd dk0 hn0 (by simp[nms,dst,Sbl.dd]) (by simp);have A3:=(A2.ext x3).keepN k3 (by simp) hl hrl;have ho3':=k3.get ho0 (by simp;lia);have edd:D.tup [.int first,.tup [],.tup (os.map ouD)]=ddD ⟨first,[],os⟩:=rfl;simp[e3];rw[if_pos (show 3<=Line by decide),edd];simp;rw[if_pos (show 1<=Line by decide)];simp only[Res.bind_ok,Zg,Jqj,A7,Eo,List.set_cons_succ,List.set_cons_zero,if_pos (show 10<0+1+1+1+1+1+1+1+1+1+1+1+1+1+1+1+1+1+1 by decide),kNx,kB,Xq,Jz5,Jvs,Yg,v_var,X5,Bv,Dy,Ve,Jz4,Zd,Jid];rw[show Jaq (.loc S2.length) (.int 0) (S2++[Obj.lst [ddD ⟨first,[],os⟩]])=.ok (ddD ⟨first,[],os⟩) (S2++[Obj.lst [ddD ⟨first,[],os⟩]])from i0];simp[e4];obtain⟨y1,S4,e5,k4,s4,hy1⟩:=Jaf (W:=W) (n:=n+5) (S:=S3) (m:=5) A3.s (by decide) (by decide);obtain⟨y2,S5,e6,k5,s5,hy2⟩:=Jaf (W:=W) (n:=n+5) (S:=S4) (m:=12) s4 (by decide) (by decide);obtain⟨y3,S6,e7,k6,s6,hy3⟩:=Jaf (W:=W) (n:=n+5) (S:=S5++[.lst [.int y1,.int y2]]) (m:=4) (s5.ext (.new _ _)) (by decide) (by decide);have l5:S2.length<S5.length:=by have:=k5.1;have:=k4.1;have:=Ja3 ho3';lia
 obtain⟨y,hy,ey⟩:∃y:Int,(0<=y/\y<12)/\Jaq (.loc S5.length) (.int (if y3=3 then 1 else 0)) S6=.ok (.int y) S6:=by
  have h6:=k6.get (Jac (S:=S5) (o:=.lst [.int y1,.int y2])) (by simp;lia);split
  ·exact⟨y2,hy2,Jau h6 (at0 (k:=1) rfl)⟩
  ·exact⟨y1,by lia,Jau h6 (at0 (k:=0) rfl)⟩
 have A6:=(((A3.take k4 s4).take k5 s5).ext (.new _ [.lst [.int y1,.int y2]])).take k6 s6;have kk:Keep [l] S3 S6:=((k4.trans k5).trans (.new _)).trans k6;simp[e5,e6,Line,e7,ey];rw[Jch (by lia) (by lia)];simp;have B0:Bld S l rl S.length (S.length+1) S2.length kvs mx first dn 0 S6 kv2 [⟨first,[],os⟩] (W5 c ⟨first,[],os⟩ h (h+r.c)) (dn++[first]):=by
  refine⟨A6,kk.get hu3 (by simp;lia),kk.get hq3 (by simp;lia),kk.get ho3' (by simp;lia),rfl,?_,?_,?_,?_,?_,by simp,⟨_,_,rfl,hne,rfl⟩⟩
  ·have:=(g.ring a2.m).put (h:=h) (f:=h+r.c) dk0 (λo ho=>(hou o ho).2.2) hn0 (by show first<=first;lia);exact this.mono (by show first+1<=_;lia)
  ·refine⟨by simp;exact dk0,by simp,λi d hd=>?_,by simp⟩;cases i with
   |zero=>cases hd;simp
   |succ i=>simp at hd
  ·intro i d hd;cases i with
   |zero=>cases hd;exact .inl (by simp)
   |succ i=>simp at hd
  ·intro d hd o ho;rw[As.mp hd]at ho;exact(hou o ho).2.2
  ·intro x hx;rcases Bo.mp hx with z|z
   ·exact .inl z
   ·rw[As.mp z];exact .inr ⟨⟨first,[],os⟩,by simp,rfl⟩
 have hyn:y.toNat<=11:=by lia
 refine Sat.p2 (loop (IBk S l rl u q S2.length kvs mx first dn h r w) noR ⟨kv2,_,_,_,none,none,none,rfl,B0⟩ ?_) ?_
 ·rintro i z _ S7 hd ⟨kv,ds,cb,db,a11,a12,a13,rfl,B⟩;rw[Aq]at hd;obtain⟨j,hj,rfl⟩:=Al.mp hd;have hij:=Ae.mp hj;have hi:i<y.toNat:=by simpa using hij.1
  have hji:j=i:=by have:=hij.2;simp at this;lia
  subst hji;have TL:=λ{num:Int} {a13:Option D} {S8:Store} (B:Bld S l rl S.length (S.length+1) S2.length kvs mx first dn j S8 kv ds cb db) (hnum:num=first+1+j\/num∈db)=>(Jz9 (W:=W) (n:=n) (h:=h) (r:=r) (u0:=u) (q0:=q) (w:=w) (a11:=some (.int j)) (a13:=a13) B hl hrl (Aj _) (by lia) (by lia) (by lia) (by lia) hf hnum).mono (Q:=FlP (IBk S l rl u q S2.length kvs mx first dn h r w (j+1)) noR) (λfl S9 ⟨kv2,ds2,c2,db2,e,B2⟩=>by rw[e];exact⟨kv2,ds2,c2,db2,_,_,_,rfl,B2⟩);obtain⟨y4,S8,e8,k8,s8,hy4⟩:=Jaf (W:=W) (n:=n+5) (S:=S7) (m:=16) B.a.s (by decide) (by decide);have kp:∀{p:Nat},S.length<=p->p∉[l]:=λhp=>by simp;lia
  have mv:∀{S9:Store},Keep [l] S7 S9->Stm S9 l->Bld S l rl S.length (S.length+1) S2.length kvs mx first dn j S9 kv ds cb db:=λk s=>⟨B.a.take k s,k.get B.u (kp (Aj _)),k.get B.q (kp (by lia)),k.get B.o (kp (by lia)),B.n,B.g,B.b,B.m,B.h,B.s,B.e,B.z⟩
  rw[Jap];unfold lpB
  by_cases h4:y4=0
  ·have q8:=k8.get B.q (kp (by lia));have e9:=Jpe q8;have e10:=Jub (Jag (X:=[.lst ((dp db).map λp=>.int p.1)]) q8);have hpos:0<db.length:=Kq.mpr B.e;have hdl:=B.g.gd.len;obtain⟨y5,S9,e11,k9,s9,hy5⟩:=Jaf (W:=W) (n:=n+5) (S:=S8++[.lst ((dp db).map λp=>.int p.1)]) (m:=db.length) (s8.ext (.new _ _)) (by lia) (Int.lt_trans (show(db.length:Int)<2000 by lia) (by decide));have hL:=k9.get (Jac (S:=S8) (o:=.lst ((dp db).map λp=>.int p.1))) (by simp;have:=s8.lt;lia);have kall:Keep [l] S7 S9:=(k8.trans (.new _)).trans k9;simp only[Ai]at e10;simp only[h4]at e8;simp[e8,e9];simp only[Bz,Bp]at e10 e11 hL;simp[Bp,e10,e11];refine Sat.p3 (Jbo hL hy5.1 (by simp;lia) (P:=λz=>∃v∈db,z=.int v) (λz hz=>by obtain⟨v,hv,rfl⟩:=Bg.mp hz;exact⟨v,hv,rfl⟩)) ?_;rintro _ S10 ⟨⟨v,hv,rfl⟩,rfl⟩;simp;exact TL (mv kall s9) (.inr hv)
  ·simp[e8,h4];exact TL (mv k8 s8) (.inl rfl)
 ·intro fl S7 hF;obtain⟨_,rfl,kv,ds,cb,db,a11,a12,a13,rfl,B⟩:=hF.nx;clear hF;rw[Ai,Et]at B;have ho:=B.o;simp;rw[Jch (by decide) (by decide)];simp only[Res.bind_ok];refine Sat.p3 (three (W:=W) (n:=n+5) rfl B.a.s) ?_;rintro _ S8 ⟨x0,x1',x2,p,rfl,hp8,k8,s8⟩;have A8:=B.a.take k8 s8;have ho8:=k8.get ho (by simp;lia);have j0:=Jau hp8 (at0 (k:=0) rfl);have j1:=Jau hp8 (at0 (k:=1) rfl);have j2:=Jau hp8 (at0 (k:=2) rfl);simp only[Int.cast_ofNat_Int,Int.natCast_zero,Int.natCast_one]at j0 j1 j2;simp[j0,j1,j2,Jaj ho8,Line];obtain⟨y6,S9,e9,k9,s9,hy6⟩:=Jaf (W:=W) (n:=n+5) (S:=S8) (m:=3) s8 (by decide) (by decide);have A9:=A8.take k9 s9
  by_cases h6:y6=0
  ·obtain⟨d0,rs,hds,hd0,hd0n⟩:=B.z;obtain⟨o0,os',hos⟩:∃o0 os',d0.outs=o0::os':=by
    cases ho:d0.outs with
    |nil=>exact absurd ho hd0
    |cons a b=>exact⟨a,b,rfl⟩
   have hul:u∉[l,rl]:=by simp;exact⟨hs.ne_cs hu,Jfu hr hu⟩
   have hql:q∉[l,rl]:=by
    simp;constructor
    ·rintro rfl;obtain⟨a,e,s,h⟩:=hs;have:=h.symm.trans hq;cases this
    ·rintro rfl;have:=hr.symm.trans hq;cases this
   obtain⟨fz,S10,e10,x10,_⟩:=Jiq (W:=W) (n:=n) (b:=⟨1+x0,x1',1+x2,ds⟩) (A9.k.get hu hul) (A9.k.get hq hql) g.gc g.gd gr B.b hh;simp only[bkD]at e10;have e11:=Jf6 (W:=W) (n:=n+5) (S:=S10) gr hh;obtain⟨y7,S11,e12,k11,s11,hy7⟩:=Jaf (W:=W) (n:=n+5) (S:=S10) (m:=2) (s9.ext x10) (by decide) (by decide);have A11:=(A9.ext x10).take k11 s11;have ho11:=k11.get (x10.get (k9.get ho8 (by simp;lia))) (by simp;lia);rw[hds,Av]at ho11;have i1:Jaq (.loc S2.length) (.int 0) S11=.ok (ddD d0) S11:=Jau ho11 (at0 (k:=0) rfl);have i2:Jaq (.tup (d0.outs.map ouD)) (.int 0) S11=.ok (ouD o0) S11:=by rw[hos,Av];exact Jbn
   have c1:Vt (.tup [.int (1+x0),.int x1',.int (1+x2),.tup (ds.map ddD)]) none (some 3) S11=.ok (.tup [.int (1+x0),.int x1',.int (1+x2)]) S11:=by simp only[Vt];rw[Jjx (by decide)];rfl
   have c2:Vt (.tup (ds.map ddD)) (some 1) none S11=.ok (.tup (rs.map ddD)) S11:=by simp only[Vt];rw[Jgf (by decide),hds];rfl
   have hrs:rs.length<=19:=by have:=B.b.l;rw[hds]at this;simp at this;lia
   simp[e9,h6,e10,e11,e12,i1,i2,epow,c1,c2];generalize hv:(if(if 1<U1 r h+fz+y7 then U1 r h+fz+y7 else 1)<(10000000000000000000000000000000000000000:Int)then(if 1<U1 r h+fz+y7 then U1 r h+fz+y7 else 1)else(10000000000000000000000000000000000000000:Int))=v;have hvl:v<=10^40:=by rw[<-hv];split<;>lia
   have em:D.tup [.int first,.tup [],.tup [.tup [.int v,.tup (o0.2.map rD)]]]=ddD ⟨first,[],[(v,o0.2)]⟩:=rfl;simp[Line];rw[em];have b1:∀{S:Store},bop .add (.tup [ddD ⟨first,[],[(v,o0.2)]⟩]) (.tup (rs.map ddD)) S=.ok (.tup ((⟨first,[],[(v,o0.2)]⟩::rs:List Dd).map ddD)) S:=λ{S}=>by rw[Jct (by simp[Line];lia)];rfl
   have b2:∀{S:Store} {z:D},bop .add (.tup [.int (1+x0),.int x1',.int (1+x2)]) (.tup [z]) S=.ok (.tup [.int (1+x0),.int x1',.int (1+x2),z]) S:=λ{S z}=>by rw[Jct (by simp[Line])];rfl
   simp only[Av]at b1;simp[c1,c2,b1,b2,Line];have dk0':=B.b.ok d0 (by rw[hds];simp);have ho0':o0∈d0.outs:=by rw[hos];simp
   refine⟨⟨1+x0,x1',1+x2,⟨first,[],[(v,o0.2)]⟩::rs⟩,kv,rfl,A11.mono (by lia),?_,?_,?_⟩
   ·refine⟨λd' hd'=>?_,by simp;lia,λi d' hd'=>?_,by simp⟩
    ·rcases An.mp hd' with rfl|z
     ·exact⟨⟨by show 0<=first;lia,by show first<345;lia⟩,by simp,by simp,by simp,by simp;exact⟨by lia,(dk0'.w o0 ho0').2⟩⟩
     ·exact B.b.ok d' (by rw[hds];exact Ay _ z)
    ·cases i with
     |zero=>cases hd';simp
     |succ i=>exact B.b.mr (i+1) d' (by rw[hds];exact hd')
   ·intro i d' hd';cases i with
    |zero=>cases hd';exact .inl (by simp)
    |succ i=>
     rcases B.m (i+1) d' (by rw[hds];exact hd')with e|e|⟨j,d2,hj,hd2,e⟩
     ·exact .inl e
     ·exact .inr (.inl e)
     ·cases j with
      |zero=>
       rw[hds]at hd2;cases hd2;exact .inr (.inr ⟨0,_,hj,rfl,by rw[<-e,hd0n]⟩)
      |succ j=>exact .inr (.inr ⟨j+1,d2,hj,by rw[hds]at hd2;exact hd2,e⟩)
   ·intro d' hd' o ho;rcases An.mp hd' with rfl|z
    ·rw[As.mp ho];exact B.h d0 (by rw[hds];simp) o0 ho0'
    ·exact B.h d' (by rw[hds];exact Ay _ z) o ho
  ·simp[e9,h6];exact⟨⟨1+x0,x1',1+x2,ds⟩,kv,rfl,A9.mono (by lia),B.b,B.m,B.h⟩
def Jno{first:Int}(hs:Stm S l)(hr:S[rl]? =some (.rg kvs))(gk:V3 kvs mx)(hmx:mx+45<=90000)(hu:S[u]? =some (csO c))(hq:S[q]? =some (dnO dn))(g:Mn kvs c dn first)(hf:1<=first/\first<=321)(gr:RlOk r)(hh:1<=h):
  Sat (callN T G W (n+7) "_law_block" [.loc l,.int first,.loc u,.loc q,.int h,rlD r,.loc rl] S) (PB S l rl kvs mx first dn):=by
 rw[Jab Jgm rfl];have e1:=Jf6 (W:=W) (n:=n+5) (S:=S) gr hh;have gl:=Juk (h:=h) gr;obtain⟨x,S1,e2,k1,s1,hx⟩:=Jaf (W:=W) (n:=n+5) (S:=S) (m:=4) hs (by decide) (by decide);obtain⟨y,S2,e3,k2,s2,hy⟩:=Jaf (W:=W) (n:=n+5) (S:=S1) (m:=3) s1 (by decide) (by decide);have a2:Sr S l rl kvs mx S2 kvs:=((Sr.refl hs hr gk).take k1 s1).take k2 s2;have hul:u∉[l,rl]:=by simp;exact⟨hs.ne_cs hu,Jfu hr hu⟩
 have hql:q∉[l,rl]:=by
  simp;constructor
  ·rintro rfl;obtain⟨a,e,s,h⟩:=hs;have:=h.symm.trans hq;cases this
  ·rintro rfl;have:=hr.symm.trans hq;cases this
 have fin:∀{S3:Store} {w:Int},Sr S l rl kvs mx S3 kvs->1<=w->Sat ((evB (Cn T G W (n+6)) rest [some (.loc l),some (.int first),some (.loc u),some (.loc q),some (.int h),some (rlD r),some (.loc rl),some (.int w),none,none,none,none,none,none,none,none,none,none] S3).bind W7) (PB S l rl kvs mx first dn):=λ{S3 w} a3 hw=>by
  refine(Wgc (W:=W) (n:=n) a3.s a3.r gk hmx (a3.k.get hu hul) (a3.k.get hq hql) g hf gr hh hw).mono ?_;rintro d' S4 ⟨b,kv,e,a4,h1,h2,h3⟩;exact⟨b,kv,e,a3.trans a4,h1,h2,h3⟩
 simp! [Jcm,e1,e2,e3];generalize hw:(if 1<U1 r h+x-2 then U1 r h+x-2 else 1)=w;have hw1:1<=w/\w<=2*10^40:=by rw[<-hw];constructor<;>split<;>omega
 by_cases h0:y=0
 ·obtain⟨z,S3,e4,k3,s3,hz⟩:=Jaf (W:=W) (n:=n+5) (S:=S2) (m:=w) s2 (by omega) (Il hw1.2 (by decide));simp! [h0,e4];exact fin (a2.take k3 s3) (by omega)
 ·simp! [h0];exact fin a2 hw1.1
def mixed:∃v,callN T G W (n+1) "_law_mixed" [.int x] S=.ok (.int v) S:=by
 rw[Jab Jgl rfl];simp! [Jcl,Jah (S:=S) (i:=x) (j:=2147483647) (by decide)];rw[Jbd (by rfl)];simp -implicitDefEqProofs only[Res.bind_ok,Xk,Jid];rw[Jbd (by rfl)];simp -implicitDefEqProofs only[Res.bind_ok,Xk,Jid];rw[Jah (by decide)];simp
theorem stream:∃p,callN T G W (n+2) "_law_stream" [.int x,.int k,.bl e] S=.ok (.loc S.length) (S++[p])/\Stm (S++[p]) S.length:=by
 rw[Jab Je3 rfl];obtain⟨v,ev⟩:=mixed (W:=W) (n:=n) (S:=S) (x:=x);simp! [Jby,ev];rw[Jht (by rfl)];simp! [Jah (S:=S) (i:=v+69621*k) (j:=2147483629) (by decide)];have p60:bop .pow (.int 10) (.int 60) S=.ok (.int (10^60)) S:=Ja5 (k:=60) rfl (by decide) (by decide);have m60:bop .mul (.int (10^60)) (.int (10^60)) S=.ok (.int (10^60*10^60)) S:=Jcs (by decide);have d60:=Jah (S:=S) (i:=x) (j:=10^60*10^60) (by decide);cases e with
 |false=>
  simp! [Line];exact⟨_,_,_,Jac⟩
 |true=>
  have f2:∀{j:Int},j=1\/j=2->bop .fdiv (.int (x%(10^60*10^60))) (.int j) S=.ok (.int (x%(10^60*10^60)/j)) S:=λhj=>Jaw (by omega) (by omega)
  by_cases hk:k=0
  ·simp -implicitDefEqProofs only[Xq,Jvp,w_var,Xr,kTru,Jqp,Res.bind_ok,Wn,if_true,Jnx,Jvo,Yg,Jvt,v_var,X5,Xk,Jid,p60,m60,d60,Dy,Bv,Jqk,Vm,Ve,U0,Jvr,Zf,Jpl,Jdn,hk,decide_true,Jd9,Jcu,f2 (.inr rfl),show(1:Int)+1=2 from rfl];simp! [Line];exact⟨_,_,_,Jac⟩
  ·simp -implicitDefEqProofs only[Xq,Jvp,w_var,Xr,kTru,Jqp,Res.bind_ok,Wn,if_true,Jnx,Jvo,Yg,Jvt,v_var,X5,Xk,Jid,p60,m60,d60,Dy,Bv,Jqk,Vm,Ve,U0,Jvr,Zf,Jpl,Jdn,hk,decide_false,Jd9,Jcu,f2 (.inl rfl),show(1:Int)+0=1 from rfl,if_neg Az];simp! [Line];exact⟨_,_,_,Jac⟩
theorem Ji6:callN T G W (n+1) "_law_same" [bwD w,bwD w] S=.ok (.bl true) S:=by
 rw[Jab Jh2 rfl];cases w with
 |none=>simp[Jca]
 |some x=>
  have:∀{j:Nat} {x:String},cop .ne (.tup [.int j,.str x]) (.tup [.int j,.str x]) S=some false:=λ{j x}=>by simp[cop,Xh,Jer,eqD,eqL,U3,eqV]
  simp! [Jca,tyD,isiD,this]
def p8{α0 α1 α2 α3 α4 α5 α6 α7 α8:Type}{r:Res α0}{f1:α0->Store->Res α1}{f2:α1->Store->Res α2}{f3:α2->Store->Res α3}{f4:α3->Store->Res α4}{f5:α4->Store->Res α5}{f6:α5->Store->Res α6}{f7:α6->Store->Res α7}{f8:α7->Store->Res α8}{Q:α0->Store->Prop}{P:α8->Store->Prop}(h:Sat r Q)(k:∀a S,Q a S->Sat ((((((((f1 a S).bind f2).bind f3).bind f4).bind f5).bind f6).bind f7).bind f8) P):Sat ((((((((r.bind f1).bind f2).bind f3).bind f4).bind f5).bind f6).bind f7).bind f8) P:=by
 obtain⟨a,S,rfl,h⟩:=h;exact k a S h
def Jo8(hs:Stm S l)(hh:0<=h):Sat (callN T G W (n+2) "_law_next" [.loc l,rlD r,.int h] S) λd S'=>∃h',d=.int h'/\1<=h'/\Keep [l] S S'/\Stm S' l:=by
 rw[Jab Jh4 rfl];obtain⟨x,S1,e1,k1,s1,hx⟩:=Jaf (W:=W) (n:=n) (S:=S) (m:=2000) hs (by decide) (by decide);simp! [Jdf,e1];rw[if_pos (show 6<=Line by decide)];simp!;have hl1:=s1.lt;refine p5 (Jb7 (m:=6) (s1.ext (.new _ _)) (by decide) (by decide)) ?_;rintro _ S2 ⟨y,rfl,k2,s2,hy⟩;have hL:=k2.get Jat (by simp;omega);have kk:Keep [l] S S2:=(k1.trans (.new _)).trans k2;clear k2;refine Sat.p4 (Jbo hL hy.1 (by simp;omega) (P:=λz=>∃v,z=.int v/\1<=v) ?_) ?_
 ·intro z hz;simp only[An,Bc,or_false]at hz;rcases hz with rfl|rfl|rfl|rfl|rfl|rfl
  ·exact⟨1,rfl,by omega⟩
  ·exact⟨1,rfl,by omega⟩
  ·exact⟨1,rfl,by omega⟩
  ·exact⟨_,rfl,by split<;>omega⟩
  ·exact⟨_,rfl,by split<;>omega⟩
  ·exact⟨_,rfl,by omega⟩
 rintro _ S3 ⟨⟨v,rfl,hv⟩,rfl⟩;simp!;exact⟨by omega,kk,s2⟩
def Jlr(hs:Stm S l):Sat (callN T G W (n+2) "_law_rules" [.loc l] S) λd S'=>∃r,d=rlD r/\RlOk r/\Keep [l] S S'/\Stm S' l:=by
 rw[Jab Jgk rfl];have hl:=hs.lt;have epow:∀S:Store,bop .pow (.int 10) (.int 40) S=.ok (.int 10000000000000000000000000000000000000000) S:=λS=>Ja5 (k:=40) rfl (by decide) (by decide);simp! [Jck,epow];rw[if_pos (show 6<=Line by decide)];simp!;refine Sat.p4 (Jb7 (m:=6) (hs.ext (.new _ _)) (by decide) (by decide)) ?_;rintro _ S2 ⟨y,rfl,k2,s2,hy⟩;have hL:=k2.get Jat (by simp;omega);have k02:Keep [l] S S2:=(Keep.new _).trans k2;clear k2;refine Sat.p3 (Jbo hL hy.1 (by simp;omega) (P:=λz=>∃v,z=.int v/\0<=v/\v<=10^40) ?_) ?_
 ·intro z hz;simp only[An,Bc,or_false]at hz;rcases hz with rfl|rfl|rfl|rfl|rfl|rfl<;>exact⟨_,rfl,by omega⟩
 rintro _ S3 ⟨⟨va,rfl,hva⟩,rfl⟩;have hl3:=s2.lt;simp!;rw[if_pos (show 4<=Line by decide)];simp!;refine p7 (Jb7 (m:=4) (s2.ext (.new _ _)) (by decide) (by decide)) ?_;rintro _ S4 ⟨y4,rfl,k4,s4,hy4⟩;have hL4:=k4.get Jat (by simp;omega);have k04:Keep [l] S S4:=(k02.trans (.new _)).trans k4;clear k4;refine p6 (Jbo hL4 hy4.1 (by simp;omega) (P:=λz=>∃v,z=.int v/\1<=v/\v<=1000) ?_) ?_
 ·intro z hz;simp only[An,Bc,or_false]at hz;rcases hz with rfl|rfl|rfl|rfl<;>exact⟨_,rfl,by omega⟩
 rintro _ S5 ⟨⟨vb,rfl,hvb⟩,rfl⟩;have hl5:=s4.lt;simp!;rw[if_pos (show 6<=Line by decide)];simp!;refine p8 (Jb7 (m:=6) (s4.ext (.new _ _)) (by decide) (by decide)) ?_;rintro _ S6 ⟨y6,rfl,k6,s6,hy6⟩;have hL6:=k6.get Jat (by simp;omega);have k06:Keep [l] S S6:=(k04.trans (.new _)).trans k6;clear k6;refine p7 (Jbo hL6 hy6.1 (by simp;omega) (P:=λz=>∃v,z=.int v) ?_) ?_
 ·intro z hz;simp only[An,Bc,or_false]at hz;rcases hz with rfl|rfl|rfl|rfl|rfl|rfl<;>exact⟨_,rfl⟩
 rintro _ S7 ⟨⟨vc,rfl⟩,rfl⟩;simp! [Line];exact⟨⟨va,vb,vc⟩,rfl,⟨hva,hvb⟩,k06,s6⟩
def Jzu{es:List D}(h:S[k]? =some (.lst es))(hl:ds.length+es.length<=Line):bop .add (.kl ds) (.loc k) S=.ok (.loc S.length) (S++[.lst (ds++es)]):=by
 show(match S[k]? with|some (.lst b)=>if ds.length+b.length<=Line then Res.ok (D.loc S.length) (S++[Obj.lst (ds++b)])else .bad|_=>.bad)=_;rw[h];exact if_pos hl
def Stm.all(hs:Stm S l')(k:Keep [l] S S')(s:Stm S' l):Stm S' l':=by
 by_cases e:l'=l
 ·rw[e];exact s
 ·exact hs.get (p:=0) k (by simp;exact e)
inductive PSt (d:D) (S':Store):Prop
 |mk (p:Nat) (ls:List Nat) (_:d=.loc p) (_:S'[p]? =some (.lst (ls.map D.loc))) (_:0<ls.length) (_:∀l∈ls,Stm S' l):PSt d S'
theorem Jie{ns:List Int}(hn:ns.length<=63):Sat (callN T G W (n+3) "_law_streams" [.kl (ns.map D.int)] S) PSt:=by
 rw[Jab Jey rfl];have e1:bop .add (.kl (ns.map D.int)) (.loc S.length) (S++[.lst [.int 0]])=.ok (.loc (S.length+1)) (S++[.lst [.int 0],.lst ((ns++[0]).map D.int)]):=by
  rw[Jzu Jac (by simp[Line];lia)];simp
 have e2:Vt (.loc (S.length+1)) none (some 60) (S++[.lst [.int 0],.lst ((ns++[0]).map D.int)])=.ok (.loc (S.length+2)) (S++[.lst [.int 0],.lst ((ns++[0]).map D.int),.lst (((ns++[0]).take 60).map D.int)]):=by
  rw[Jcy Jcd,Jjx (by decide)];simp[Hc]
 have e3:X8 (.loc (S.length+2)) (S++[.lst [.int 0],.lst ((ns++[0]).map D.int),.lst (((ns++[0]).take 60).map D.int)])=.ok (some (S.length+2,.enm),((ns++[0]).take 60).map D.int) (S++[.lst [.int 0],.lst ((ns++[0]).map D.int),.lst (((ns++[0]).take 60).map D.int)]):=Jmr Jc8;have hpos:0<((ns++[0]).take 60).length:=by simp;lia
 have hlen:((ns++[0]).take 60).length<=60:=by simp;lia
 generalize hxs:(ns++[0]).take 60=xs at e2 e3 hpos hlen;have hL:(S++[Obj.lst [.int 0],.lst ((ns++[0]).map D.int),.lst (xs.map D.int)])[S.length+2]? =some (.lst (xs.map D.int)):=Jc8;generalize(ns++[0]).map D.int=ys at e1 e2 e3 hL;generalize S++[Obj.lst [.int 0],.lst ys,.lst (xs.map D.int)]=Sb at e2 e3 hL;have fin:∀{e:Bool},Sat (((Wh (Cn T G W (n+2)) 2 [1] (.ttup (.cns (.tvar 0) (.cns (.tvar 1) .nul))) .nul (.call "_law_stream" (.cns (.var 1) (.cns (.var 0) (.cns (.var 2) .nul)))) [some (.kl (ns.map D.int)),some (.bl e)] (some (S.length+2,.enm),xs.map D.int) Sb).bind X6).bind (kB (Cn T G W (n+2)) .nul)|>.bind W7) PSt:=λ{e}=>by
  refine Sat.p3 (comp (λi acc S'=>∃ls:List Nat,acc=ls.map D.loc/\ls.length=i/\Ext Sb S'/\∀l∈ls,Stm S' l) (by rw[Ai];unfold Line;lia) ⟨[],rfl,rfl,.refl _,by simp⟩ (λi acc S1 ⟨ls,h1,h2,h3,_⟩=>⟨by rw[h1,Ai];lia,Jd4 (h3.get hL)⟩) (λi acc S1 hi ⟨ls,h1,h2,x1,h4⟩=>?_)) ?_
  ·have hx:i<xs.length:=by simpa using hi
   refine⟨.tup [.int i,.int xs[i]],by simp[nth,Ja0 (x1.get hL),hx],?_⟩;obtain⟨p,e5,s5⟩:=stream (W:=W) (n:=n) (S:=S1) (x:=xs[i]) (k:=i) (e:=e);rw[Jal];simp[Us,e5];refine⟨ls++[S1.length],by simp[h1],by simp[h2],x1.trans (.new _ _),λz hz=>?_⟩;rcases Bo.mp hz with z1|z1
   ·exact(h4 z z1).ext (.new _ _)
   ·rw[As.mp z1];exact s5
  ·rintro _ _ ⟨ys,S0,⟨ls,rfl,h2,x0,h4⟩,rfl,rfl⟩;simp;exact⟨_,ls,rfl,Jac,by rw[Ai]at h2;lia,λz hz=>(h4 z hz).ext (.new _ _)⟩
 cases ns with
 |nil=>
  simp[Ja8];rw[if_pos (show 1<=Line by decide)];simp only[E9]at e1 fin;simp[e1,e2,e3];exact fin
 |cons x ns=>
  have i0:Jaq (.kl (D.int x::ns.map D.int)) (.int 0) S=.ok (.int x) S:=by simp only[Jaq];rw[show idxD (.kl (D.int x::ns.map D.int)) (.int 0) S=some (.int x)from Jyy (at0 (k:=0) rfl)]
  simp[Ja8,i0,Jah (S:=S) (i:=x) (j:=2) (by decide)];rw[if_pos (show 1<=Line by decide)];simp only[Av]at e1 fin;simp[e1,e2,e3];exact fin
inductive PBg (d:D) (S':Store):Prop
 |mk (p:Nat) (ls:List Nat) (r:Rl) (h:Int) (_:d=.tup [.loc p,rlD r,.int h]) (_:S'[p]? =some (.lst (ls.map D.loc))) (_:ls.length<=17) (_:(∀l∈ls,Stm S' l)) (_:RlOk r) (_:0<=h):PBg d S'
def Jnq{ns:List Int}(hn:ns.length<=63):Sat (callN T G W (n+4) "_law_begin" [.kl (ns.map D.int)] S) PBg:=by
 rw[Jab Jgn rfl];obtain⟨_,S1,e1,p,ls,rfl,hp,hl0,hst⟩:=Jie (W:=W) (n:=n) (S:=S) hn;have c1:Vt (.loc p) none (some 17) S1=.ok (.loc S1.length) (S1++[.lst ((ls.take 17).map D.loc)]):=by
  rw[Jcy hp,Jjx (by decide),Hc];rfl
 obtain⟨l0,ls1,hls⟩:∃l0 ls1,ls.take 17=l0::ls1:=by
  cases ls with
  |nil=>cases hl0
  |cons a b=>exact⟨a,b.take 16,rfl⟩
 have hll:ls1.length<=16:=by
  have h1:=congrArg Iz hls;rw[E2,A7]at h1
  lia
 have hst2:∀l∈l0::ls1,Stm (S1++[.lst ((l0::ls1).map D.loc)]) l:=λl hl=>(hst l (He (hls▸hl))).ext (.new _ _);rw[hls]at c1;have hp2:(S1++[Obj.lst ((l0::ls1).map D.loc)])[S1.length]? =some (.lst ((l0::ls1).map D.loc)):=Jac;have i0:∀{S:Store},S[S1.length]? =some (.lst ((l0::ls1).map D.loc))->Jaq (.loc S1.length) (.int 0) S=.ok (.loc l0) S:=λh=>Jau h (at0 (k:=0) rfl);have hne:∀{S:Store},Stm S l0->S[S1.length]? =some (.lst ((l0::ls1).map D.loc))->S1.length≠l0:=λhs h e=>by
  obtain⟨a,b,s,h2⟩:=hs;rw[<-e,h]at h2;simp at h2
 simp[Jcn,e1,c1];simp only[Av]at hp2 hst2 i0 hne;generalize S1++[Obj.lst (D.loc l0::ls1.map D.loc)]=S2 at hp2 hst2;obtain⟨_,S3,e3,r,rfl,hr,k3,s3⟩:=Jlr (W:=W) (n:=n+1) (hst2 l0 (by simp));have hp3:=k3.get hp2 (by simp;exact hne (hst2 l0 (by simp)) hp2);have st3:∀l∈l0::ls1,Stm S3 l:=λl hl=>(hst2 l hl).all k3 s3;have p20:∀S:Store,bop .pow (.int 10) (.int 20) S=.ok (.int 100000000000000000000) S:=λS=>Ja5 (k:=20) rfl (by decide) (by decide);obtain⟨x,S4,e4,k4,s4,hx⟩:=Jaf (W:=W) (n:=n+2) (S:=S3) (m:=100000000000000000000) s3 (by decide) (by decide);have hp4:=k4.get hp3 (by simp;exact hne s3 hp3);have st4:∀l∈l0::ls1,Stm S4 l:=λl hl=>(st3 l hl).all k4 s4;simp[i0 hp2,e3,i0 hp3,p20,e4];rw[if_pos (show 4<=Line by decide)];simp[i0 (Jag hp4)];refine Sat.p4 (Jb7 (m:=4) (s4.ext (.new _ _)) (by decide) (by decide)) ?_;rintro _ S5 ⟨y,rfl,k5,s5,hy⟩;have hl04:=s4.lt;have hL:=k5.get Jat (by simp;lia);have hp5:=k5.get (Jag hp4) (by simp;exact hne s4 hp4);have st5:∀l∈l0::ls1,Stm S5 l:=λl hl=>((st4 l hl).ext (.new _ _)).all k5 s5;clear k5;refine Sat.p3 (Jbo hL hy.1 (by simp;lia) (P:=λz=>∃v,z=.int v/\0<=v) ?_) ?_
 ·intro z hz;simp only[An,Bc,or_false]at hz;rcases hz with rfl|rfl|rfl|rfl<;>exact⟨_,rfl,by lia⟩
 rintro _ S6 ⟨⟨v,rfl,hv⟩,rfl⟩;have c2:Vt (.loc S1.length) (some 1) none S6=.ok (.loc S6.length) (S6++[.lst (ls1.map D.loc)]):=by
  rw[Jcy hp5,Jgf (by decide)];rfl
 obtain⟨o,e7,s7⟩:=stream (W:=W) (n:=n+1) (S:=S6++[.lst (ls1.map D.loc)]) (x:=7) (k:=17) (e:=false);simp at e7 s7;simp[c2,e7];rw[if_pos (show 1<=Line by decide)];simp;rw[Jbs (S:=S6++[.lst (ls1.map D.loc),o,.lst [.loc (S6.length+1)]]) Jat Jc8 (by simp[Line];lia)];simp[Line];refine⟨_,ls1++[S6.length+1],r,v,rfl,?_,by simp;lia,λl hl=>?_,hr,hv⟩
 ·rw[show S6.length+3=S6.length+3 from rfl,Jew];simp
 ·rcases Bo.mp hl with z|z
  ·exact(st5 l (Ay _ z)).ext (.new _ _)
  ·rw[As.mp z];refine s7.ext ⟨[.lst [.loc (S6.length+1)],.lst (ls1.map D.loc++[.loc (S6.length+1)])],by simp⟩
theorem Jjv{f:D->D->Option Bool}:∀{xs:List D},(∀x∈xs,f x x=some true)->eqL f xs xs=some true
 |[],_=>rfl
 |a::r,h=>by simp only[eqL,h a (by simp),Jjv λx hx=>h x (Ay _ hx),Nw]
def eq_int:eqD S (k+1) (.int x) (.int x)=some true:=by simp[eqD,U3,eqV]
def J1g(x:Rw):eqD S (k+1+1) (rD x) (rD x)=some true:=by
 cases x<;>simp[rD,eqD,eqL,U3,eqV]
def J1h:eqD S Deep (kpD k) (kpD k)=some true:=by
 rw[show Deep=8+1+1+1+1 from rfl];have h1:eqL (eqD S (8+1+1)) (k.lk.map rD) (k.lk.map rD)=some true:=Jjv λx hx=>by
  obtain⟨y,_,rfl⟩:=Bg.mp hx;exact J1g (k:=8) y
 have h2:eqD S (8+1+1+1) (.tup (k.lk.map rD)) (.tup (k.lk.map rD))=some true:=by
  rw[eqD,if_pos rfl];exact h1
 unfold kpD;rw[eqD,if_pos rfl];simp only[eqL,eq_int,h2,Nw]
def Jt6(g:Gc c)(h1:S[x]? =some (csO c))(h2:S[y]? =some (csO c)):cop .ne (.loc x) (.loc y) S=some false:=by
 have:Xh S (.loc x) (.loc y)=some false:=by
  simp only[Xh,dtAt,h1,h2];rw[if_pos];refine⟨trivial,?_⟩;rw[Ef];intro p hp;obtain⟨z,hz,rfl⟩:=Bg.mp hp;simp only[Jbg,Jnb g.nd hz,E8,J1h];rfl
 simp only[cop,this]
structure Lw(S:Store)(p L u q uc qc rl ak:Nat)(ls:List Nat)(kv:Kv)(mx:Nat)(c:Cs)(dn:List Int)(m:Int)(bs:List Bk)(k:Nat):Prop where
 p:S[p]? =some (.lst (ls.map D.loc))
 st:∀l∈ls,Stm S l
 r:S[rl]? =some (.rg kv)
 g:V3 kv mx
 mn:Mn kv c dn m
 h:Hd S L u q c dn
 u:S[uc]? =some (csO c)
 q:S[qc]? =some (dnO dn)
 a:S[ak]? =some (.lst (bs.map bkD))
 bl:bs.length<=k
 bo:∀b∈bs,BkOk b.ds
section
variable {p uc qc ak:Nat} {ls:List Nat} {kv:Kv} {bs:List Bk} {k:Nat}
def Lw.ext(w:Lw S p L u q uc qc rl ak ls kv mx c dn m bs k)(x:Ext S S'):Lw S' p L u q uc qc rl ak ls kv mx c dn m bs k:=⟨x.get w.p,λl hl=>(w.st l hl).ext x,x.get w.r,w.g,w.mn,w.h.ext x,x.get w.u,x.get w.q,x.get w.a,w.bl,w.bo⟩
theorem Sr.get{kv':Kv}{x:Nat}{o:Mi.Obj}(a:Sr S l rl kv mx S' kv')(hs:Stm S l)(hr:S[rl]? =some (.rg kv))(hx:S[x]? =some o)(h1:∀a e s,o≠ .lst [.int a,.bl e,.int s])(h2:∀k,o≠ .rg k):S'[x]? =some o:=by
 refine a.k.get hx ?_;intro z;rcases An.mp z with rfl|z
 ·obtain⟨y,e,s,h⟩:=hs;rw[h]at hx;cases hx;exact h1 _ _ _ rfl
 ·rw[As.mp z,hr]at hx;cases hx;exact h2 _ rfl
def Lw.sr{kv':Kv}{my:Nat}(w:Lw S p L u q uc qc rl ak ls kv mx c dn m bs k)(hl:l∈ls)(a:Sr S l rl kv my S' kv'):Lw S' p L u q uc qc rl ak ls kv' my c dn m bs k:=by
 have hs:=w.st l hl;refine⟨a.get hs w.r w.p ?_ nofun,λl' hl'=>?_,a.r,a.g,w.mn.ring a.m,⟨a.get hs w.r w.h.l nofun nofun,a.get hs w.r w.h.u nofun nofun,a.get hs w.r w.h.q nofun nofun⟩,a.get hs w.r w.u nofun nofun,a.get hs w.r w.q nofun nofun,a.get hs w.r w.a ?_ nofun,w.bl,w.bo⟩
 ·intro a e s z;cases ls<;>simp at z
 ·by_cases e:l'=l
  ·rw[e];exact a.s
  ·refine(w.st l' hl').get (p:=0) a.k ?_;simp;exact⟨e,(w.st l' hl').ne_rg w.r⟩
 ·intro a e s z;cases bs with
  |nil=>simp at z
  |cons b bs=>simp[bkD]at z
end
def Juv{α β:Type}(f:α->D)(xs:List α)(lo hi:Option Int):∃ys:List α,cutD (xs.map f) lo hi=ys.map f/\ys.length<=xs.length/\∀y∈ys,y∈xs:=
 ⟨(xs.drop (HT.sIx (xs.map f).length 0 lo)).take (HT.sIx (xs.map f).length (xs.map f).length hi-HT.sIx (xs.map f).length 0 lo),by simp only[cutD,Hc,Ky],by rw[E2,G5];omega,λy hy=>Pa (He hy)⟩
noncomputable abbrev eL(sc:D)(p:Nat)(r:Rl)(h:Int)(L uc qc rl ak:Nat)(a9 a10 a11 a12 a13 a14 a15 a16 a17 a18:Option D):En:=[some sc,some (.loc p),some (rlD r),some (.int h),some (.loc L),some (.loc uc),some (.loc qc),some (.loc rl),some (.loc ak),a9,a10,a11,a12,a13,a14,a15,a16,a17,a18]
inductive ILaw (sc:D) (p L u q rl:Nat) (ls:List Nat) (r:Rl) (i:Nat) (Z:En) (S':Store):Prop
 |mk (h:Int) (uc qc ak:Nat) (kv:Kv) (c:Cs) (dn:List Int) (bs:List Bk) (a9 a10 a11 a12 a13 a14 a15 a16 a17 a18:Option D) (_:Z=eL sc p r h L uc qc rl ak a9 a10 a11 a12 a13 a14 a15 a16 a17 a18) (_:0<=h) (_:Lw S' p L u q uc qc rl ak ls kv (45*i) c dn (20*i+1) bs i):ILaw sc p L u q rl ls r i Z S'
inductive IAs (S:Store) (sc:D) (p:Nat) (r:Rl) (h:Int) (L uc qc rl ak:Nat) (a9 a10 a11 a12 a13 a14 a15 a16 a17:Option D) (j:Nat) (Z:En) (S':Store):Prop
 |mk (a18) (_:Z=eL sc p r h L uc qc rl ak a9 a10 a11 a12 a13 a14 a15 a16 a17 a18) (_:Ext S S'):IAs S sc p r h L uc qc rl ak a9 a10 a11 a12 a13 a14 a15 a16 a17 j Z S'
def Jk6(w:Lw S p L u q uc qc rl ak ls kv mx c dn m bs i)(hm:mx<=45*(i+1))(hm2:m<=20*(i+1:Nat)+1)(gr:RlOk r)(gb:BkOk b.ds)(hh:1<=h)(hi:i<=100):
  Sat (evB (Cn T G W (n+9)) tlL (eL sc p r h L uc qc rl ak a9 a10 (some (bkD b)) a12 a13 a14 a15 a16 a17 a18) S) (FlP (ILaw sc p L u q rl ls r (i+1)) noR):=by
 obtain⟨b2,e1,hb2,hm3⟩:=Juv (β:=D) bkD bs (some (-2)) none;have e2:=Jcy (lo:=some (-2)) (hi:=none) w.a;rw[e1]at e2;have hbl:=w.bl;have e3:bop .add (.loc S.length) (.loc (S.length+1)) (S++[.lst (b2.map bkD),.lst [bkD b]])=.ok (.loc (S.length+2)) (S++[.lst (b2.map bkD),.lst [bkD b],.lst ((b2++[b]).map bkD)]):=by
  rw[Jbs Jat Jcd (by simp[Line];lia)];simp
 simp[tlL,e2];rw[if_pos (show 1<=Line by decide)];simp[e3];have x1:=Ext.new S [.lst (b2.map bkD),.lst [bkD b],.lst ((b2++[b]).map bkD)];have hA:(S++[Obj.lst (b2.map bkD),.lst [bkD b],.lst ((b2++[b]).map bkD)])[S.length+2]? =some (.lst ((b2++[b]).map bkD)):=Jc8;have w1:=w.ext x1;have hbo:∀x∈b2++[b],BkOk x.ds:=λx hx=>by
  rcases Bo.mp hx with z|z
  ·exact w.bo x (hm3 x z)
  ·rw[As.mp z];exact gb
 simp only[D1,Av,E9]at hA w1;generalize S++[Obj.lst (b2.map bkD),.lst [bkD b],.lst (b2.map bkD++[bkD b])]=S1 at hA w1;simp[Ja0 hA];refine Sat.p1 (X2 (IAs S1 sc p r h L uc qc rl (S.length+2) a9 a10 (some (bkD b)) a12 a13 a14 a15 a16 a17) noR ⟨_,rfl,.refl _⟩ (λj Z S2 ⟨_,_,x2⟩=>x2.get hA) ?_) ?_
 ·rintro j z _ S2 hd ⟨a18,rfl,x2⟩;have hd':((b2++[b]).map bkD)[j]? =some z:=by rw[<-hd];simp
  rw[Aq]at hd';obtain⟨y,hy,rfl⟩:=Al.mp hd';have yb:=hbo y (Ba hy);have w2:=w1.ext x2;obtain⟨S3,e4,x3⟩:=block_fault (W:=W) (n:=n+1) (h:=h) (b:=y) w2.h w2.mn.gc w2.mn.gd gr yb hh;have w3:=w2.ext x3;obtain⟨f,S4,e5,x4,_⟩:=Jiq (W:=W) (n:=n+3) (h:=h) (b:=y) w3.u w3.q w3.mn.gc w3.mn.gd gr yb hh;have e6:=Ji6 (W:=W) (n:=n+8) (S:=S4) (w:=bfP r h c dn y.ds);rw[Jap];simp[e4,e5,e6,-bwD];exact⟨_,rfl,(x2.trans x3).trans x4⟩
 ·intro fl S2 hF;obtain⟨_,rfl,a18,rfl,x2⟩:=hF.nx;have w2:=w1.ext x2;simp;refine⟨h,uc,qc,S.length+2,kv,c,dn,b2++[b],_,_,_,_,_,_,_,_,_,_,rfl,by lia,⟨w2.p,w2.st,w2.r,⟨Bu w2.g.l hm,w2.g.k⟩,w2.mn.mono hm2,w2.h,w2.u,w2.q,?_,by simp;lia,hbo⟩⟩;rw[x2.get hA];simp
inductive IAg (S:Store) (sc:D) (p:Nat) (r:Rl) (h:Int) (L uc qc rl ak:Nat) (a9 a10 a11 a12 a13 a14 a15 a18:Option D) (j:Nat) (Z:En) (S':Store):Prop
 |mk (a16 a17) (_:Z=eL sc p r h L uc qc rl ak a9 a10 a11 a12 a13 a14 a15 a16 a17 a18) (_:Ext S S'):IAg S sc p r h L uc qc rl ak a9 a10 a11 a12 a13 a14 a15 a18 j Z S'
def Jpg(hI:ILaw sc p L u q rl ls r i Z S)(hl:l∈ls)(hi:i<=16)(gr:RlOk r):
  Sat (Wc (Cn T G W (n+9)) (.ttup (.cns (.tvar 9) (.cns (.tvar 10) .nul))) Za (.tup [.int i,.loc l]) Z S) (FlP (ILaw sc p L u q rl ls r (i+1)) noR):=by
 obtain⟨h,uc,qc,ak,kv,c,dn,bs,a9,a10,a11,a12,a13,a14,a15,a16,a17,a18,rfl,hh,w⟩:=hI;obtain⟨_,S1,e1,h1,rfl,hh1,k1,s1⟩:=Jo8 (W:=W) (n:=n+7) (r:=r) (w.st l hl) hh;have w1:=w.sr hl ((Sr.refl (w.st l hl) w.r w.g).take k1 s1);have em:bop .mul (.int 20) (.int i) S1=.ok (.int (20*i)) S1:=Jht rfl;obtain⟨_,S2,e2,b,kv2,rfl,a2,gb,hnum,hhs⟩:=Jno (W:=W) (n:=n+2) (h:=h1) (r:=r) (first:=20*(i:Int)+1) s1 w1.r w1.g (by lia) w1.u w1.q w1.mn (by lia) gr hh1;have w2:=w1.sr hl a2;obtain⟨f,S3,e3,x3,hacc⟩:=Jiq (W:=W) (n:=n+3) (h:=h1) (b:=b) w2.u w2.q w2.mn.gc w2.mn.gd gr gb hh1;have w3:=w2.ext x3;rw[Jap];simp[Za,e1,em,e2,e3,-bwD];rw[Jch (by decide) (by decide)];simp only[Res.bind_ok];refine Sat.p1 (loop (IAg S3 sc p r h1 L uc qc rl ak (some (.int i)) (some (.loc l)) (some (bkD b)) (some (bwD (bfP r h1 c dn b.ds))) (some (.loc S2.length)) (some (.loc (S2.length+1))) (some (.int f)) a18) noR ⟨_,_,rfl,.refl _⟩ ?_) ?_
 ·rintro j z _ S4 hd ⟨a16,a17,rfl,x4⟩;have w4:=w3.ext x4;obtain⟨S5,e5,x5⟩:=block_fault (W:=W) (n:=n+1) (h:=h1) (b:=b) w4.h w4.mn.gc w4.mn.gd gr gb hh1;have w5:=w4.ext x5;have e6:=Ji6 (W:=W) (n:=n+8) (S:=S5) (w:=bfP r h1 c dn b.ds);have e7:=held (W:=W) (n:=n+8) w5.h w5.mn.gc w5.mn.upB;have x6:=Ext.new S5 [csO c];have w6:=w5.ext x6;have e8:=Jt6 w6.mn.gc (Jac (S:=S5) (o:=csO c)) w6.u;rw[Jap];simp[e5,e6,e7,w5.h.rc (m:="held"),-bwD];generalize S5++[csO c]=S6 at e8 w6 x6;simp[e8,-bwD];have hbl:=gb.l;rw[Ja7 (xs:=b.ds) ddD (λ_=>.bl true) (by lia) (.inl rfl) (λx _=>by
   have e9:=did (W:=W) (n:=n+8) (x:=x.n) w6.h;simp[Jal,Us,w6.h.rc (m:="did"),e9,Jjy w6.q])]
  simp only[Res.bind_ok,Ve,Vm,U0,Zo];rw[Jg6 (λ_=>true)];simp[-bwD];exact⟨_,_,rfl,((x4.trans x5).trans x6).trans (.new _ _)⟩
 ·intro fl S4 hF;obtain⟨_,rfl,a16,a17,rfl,x4⟩:=hF.nx;have w4:=w3.ext x4;clear hF;cases hb:bfP r h1 c dn b.ds with
  |some x=>
   obtain⟨x1,x2⟩:=x;simp;exact Jk6 (W:=W) (n:=n) w4 (by lia) (by lia) gr gb hh1 (by lia)
  |none=>
   obtain⟨v,S7,e8,k7,hd7,gc7,gd7⟩:=do_block (W:=W) (n:=n) w4.h w4.mn.gc w4.mn.gd gr gb hh1 hb;obtain⟨hu3,hq3⟩:=hacc hb;have lu:=Ja3 w2.h.u;have lq:=Ja3 w2.h.q;have kp:∀{x:Nat} {o:Mi.Obj},S4[x]? =some o->(∀z,o≠ .dtu z)->(∀z,o≠ .dct z)->S7[x]? =some o:=λ{x o} hx h1 h2=>by
    refine k7.get hx ?_;intro z;rcases An.mp z with rfl|z
    ·rw[w4.h.u]at hx;cases hx;exact h1 _ rfl
    ·rw[As.mp z,w4.h.q]at hx;cases hx;exact h2 _ rfl
   have hz1:(goP h1 r.c 0 c dn 0 b.ds).1=none:=by
    unfold bfP at hb;split at hb
    ·cases hb
    ·assumption
   have mn7:=Jrn gb hnum hhs hz1 b.ds.length 0 c dn 0 (by lia) (by simpa using w2.mn) (λx hx=>hx) (λj d' hj=>by lia) rfl;have hbl:=gb.l;have w7:Lw S7 p L u q S2.length (S2.length+1) rl ak ls kv2 (45*i+45) (goP h1 r.c 0 c dn 0 b.ds).2.1 (goP h1 r.c 0 c dn 0 b.ds).2.2.1 (20*(i:Int)+1+b.ds.length) bs i:=
    ⟨kp w4.p nofun nofun,λl' hl'=>by obtain⟨a,e,s,hs⟩:=w4.st l' hl';exact⟨a,e,s,kp hs nofun nofun⟩,kp w4.r nofun nofun,w4.g,mn7,hd7,k7.get (x4.get hu3) (by simp;lia),k7.get (x4.get hq3) (by simp;lia),kp w4.a nofun nofun,w4.bl,w4.bo⟩
   simp[e8];exact Jk6 (W:=W) (n:=n) w7 (by lia) (by lia) gr gb hh1 (by lia)
def PT(d:D)(S:Store):Prop:=d=.bl true
theorem Jyc{ns:List Int}(hn:ns.length<=63):Sat (callN T G W (n+10) "law" [.kl (ns.map D.int)] []) PT:=by
 rw[Jab Jvf rfl];obtain⟨_,S1,e1,p,ls,r,h0,rfl,hp,hll,hst,gr,hh0⟩:=Jnq (W:=W) (n:=n+5) (S:=[]) hn;have e2:=init (W:=W) (n:=n+8) (S:=S1);simp[Jun,e1,e2];generalize hS2:S1++[Obj.ins "Hoard" [("unspent",.loc (S1.length+1)),("done",.loc (S1.length+2))],.dtu [],.dct [],.dtu [],.dct [],.rg [],.lst []]=S2;have x2:Ext S1 S2:=⟨_,hS2.symm⟩
 have g:∀(k:Nat) (o:Mi.Obj),([Obj.ins "Hoard" [("unspent",.loc (S1.length+1)),("done",.loc (S1.length+2))],.dtu [],.dct [],.dtu [],.dct [],.rg [],.lst []]:List Mi.Obj)[k]? =some o->S2[S1.length+k]? =some o:=λk o e=>by rw[<-hS2,Jew];exact e
 have w0:Lw S2 p S1.length (S1.length+1) (S1.length+2) (S1.length+3) (S1.length+4) (S1.length+5) (S1.length+6) ls [] 0 [] [] 1 [] 0:=by
  refine⟨x2.get hp,λl hl=>(hst l hl).ext x2,g 5 _ rfl,⟨by simp,by simp⟩,⟨⟨by simp,by simp⟩,⟨by simp,by simp⟩,by simp,by simp,by simp,by simp⟩,⟨g 0 _ rfl,g 1 _ rfl,g 2 _ rfl⟩,g 3 _ rfl,g 4 _ rfl,g 6 _ rfl,by simp,by simp⟩
 clear hS2 g;have e3:=Jmr w0.p;generalize(D.kl (ns.map D.int))=sc;simp[e3];refine Sat.p2 (Wdu (ILaw sc p S1.length (S1.length+1) (S1.length+2) (S1.length+5) ls r) noR ⟨h0,_,_,_,[],[],[],[],_,_,_,_,_,_,_,_,_,_,rfl,hh0,w0⟩ (λi Z S h=>by obtain⟨_,_,_,_,_,_,_,_,_,_,_,_,_,_,_,_,_,_,_,_,w⟩:=h;exact w.p) ?_) ?_
 ·intro i d Z S3 hd hI;rw[Aq]at hd;obtain⟨l,hl,rfl⟩:=Al.mp hd;have:=(Ae.mp hl).1;exact Jpg (W:=W) (n:=n) hI (Ba hl) (by lia) gr
 ·intro fl S3 hF;obtain⟨Z,rfl,h,uc,qc,ak,kv,c,dn,bs,a9,a10,a11,a12,a13,a14,a15,a16,a17,a18,rfl,hh,w⟩:=hF.nx;simp;rfl
end
def run(ns:List Int)(hn:ns.length<=63):∃S',callN T G 100 30 "law" [.kl (ns.map D.int)] []=.ok (.bl true) S':=by
 obtain⟨_,S',e,rfl⟩:=Jyc (W:=100) (n:=20) hn;exact⟨S',e⟩
def Jbf{p:Prop}[Decidable p]{α:Type}{a d:α}{b:Option α}(h:(if p then some a else b)=some d):(p/\a=d)\/b=some d:=by by_cases e:p<;>simp_all
noncomputable def top(i:Nat):Stmt:=PySem.Challenge.pw_spentonce_k24_block_fault.main.body.getD i (.Pass ⟨0,0,0,0⟩)
noncomputable def B:List String:=["len","range","sum","max","min","enumerate","abs","set","tuple","int","sorted","dict","list","isinstance","bool","all","zip"]
noncomputable def FL:List (String×Nat):=[("is_maker",6),("made_by",7),("worth_of",8),("gift",10),("block_fault",11),("do_block",12),("free_from",13),("worth_of_makers",14),("opens",20),("is_done",21),("lay",22),("turn",23),("do_row",24),("has_enough",25),("take",26),("laid_by",27),("paid_at",28),("outcome",29),("spent_by",36),("has_twice",37),("facts_of",38),("_law_mixed",40),("_law_stream",41),("_law_take",42),("_law_streams",43),("_law_lock",44),("_law_outs",45),("_law_in",46),("_law_deed",47),("_law_word",48),("_law_put",49),("_law_gift",50),("_law_done",51),("_law_block",52),("_law_rules",53),("_law_begin",54),("_law_next",55),("_law_same",56),("law",57)]
noncomputable def F:List String:=FL.map (·.1)
noncomputable def O:Ow:=⟨[("Hoard","__init__","Hoard.__init__"),("Hoard","copied","Hoard.copied"),("Hoard","held","Hoard.held"),("Hoard","did","Hoard.did"),("Hoard","fault","Hoard.fault"),("Hoard","fault_of_in","Hoard.fault_of_in"),("Hoard","fee","Hoard.fee"),("Hoard","worth_spent","Hoard.worth_spent"),("Hoard","do","Hoard.do")],[("Hoard","unspent"),("Hoard","done")],[("Hoard","Hoard.__init__")]⟩
noncomputable def Wd6:Stmt->List Stmt
 |.ClassDef _ _ _ b _ _ _ _ _ _ _=>b
 |_=>[]
noncomputable def Um(i j:Nat):Stmt:=(Wd6 (top i)).getD j (.Pass ⟨0,0,0,0⟩)
def Fk(f:Fn)(s:Stmt):Prop:=(defScope s).kind=.function/\(defScope s).isCoroutine=false/\(defScope s).isGenerator=false/\(f.N.map Ab).Nodup/\(f.N.map Ab).take (f.ps.map Ab).length=f.ps.map Ab/\(∀x∈f.ps.map Ab,(defScope s).names.lookup x=some .local\/(defScope s).names.lookup x=some .cell)/\(∀y∈(defScope s).names,y.2≠ .free)/\Vk f.body ⟨f.N.map Ab,(defScope s).names,true,B,F,O⟩ (Uk s)=true
def Fk.sc{f:Fn}(k:Fk f s):Vg (f.N.map Ab) (f.ps.map Ab) (defScope s):=⟨k.1,k.2.1,k.2.2.1,k.2.2.2.1,k.2.2.2.2.1,k.2.2.2.2.2.1,k.2.2.2.2.2.2.1⟩
def Fk.ck{f:Fn}(k:Fk f s):Vk f.body ⟨f.N.map Ab,(defScope s).names,true,B,F,O⟩ (Uk s)=true:=k.2.2.2.2.2.2.2
abbrev Fe(K:Af)(x:String)(i:Nat):Prop:=FE K (Ab x) (top i)
abbrev Be(K:Af)(x:String):Prop:=Bb K Ax (Ab x)=some none
def txt{K:Af}{mg:Str->Option Value}{h:Heap}(KX:K.In h)(hG:h.Ns Ax mg)(np:npB K=true)(fe:∀x∈FL,Fe K x.1 x.2)(be:∀x∈B,Be K x)(cf:CF K (Ab "Hoard"))(nw:NW K (Ab "Hoard"))(n0:NF K (Ab "Hoard") (Ab "unspent"))(n1:NF K (Ab "Hoard") (Ab "done"))(m0:MF K (Ab "Hoard") (Ab "__init__") (Ab "Hoard.__init__") (Um 35 0))(m1:MF K (Ab "Hoard") (Ab "copied") (Ab "Hoard.copied") (Um 35 1))(m2:MF K (Ab "Hoard") (Ab "held") (Ab "Hoard.held") (Um 35 2))(m3:MF K (Ab "Hoard") (Ab "did") (Ab "Hoard.did") (Um 35 4))(m4:MF K (Ab "Hoard") (Ab "fault") (Ab "Hoard.fault") (Um 35 5))(m5:MF K (Ab "Hoard") (Ab "fault_of_in") (Ab "Hoard.fault_of_in") (Um 35 6))(m6:MF K (Ab "Hoard") (Ab "fee") (Ab "Hoard.fee") (Um 35 7))(m7:MF K (Ab "Hoard") (Ab "worth_spent") (Ab "Hoard.worth_spent") (Um 35 8))(m8:MF K (Ab "Hoard") (Ab "do") (Ab "Hoard.do") (Um 35 9))(g0:Bb K Ax (Ab "MOST_LYING")=some (some (.int 20 t0)))(g1:GV K (Ab "TAKEN") (.kd [("drop",1),("swap",2),("add",2),("sub",2),("mul",2),("less",2),("same",2),("not",1),("need",1)]))(g2:Bb K Ax (Ab "PAID")=some (some (.int 5 t2)))(g3:GV K (Ab "FACT_WORDS") (.tup [.str "height",.str "age",.str "worth",.str "ins",.str "outs"]))(g4:Bb K Ax (Ab "MADE")=some (some (.int 2 t4)))(g5:Bb K Ax (Ab "WORTH")=some (some (.int 0 t5)))(g6:Bb K Ax (Ab "FREE")=some (some (.int 3 t6)))(g7:Bb K Ax (Ab "LOCK")=some (some (.int 1 t7))):Txt K mg T G B F O where
 fns:=by
  intro x hx;obtain⟨y,hy,rfl⟩:=Bg.mp hx;have e:=fe y hy;simp only[FL,An,Bc,or_false]at hy;rcases hy with rfl|rfl|rfl|rfl|rfl|rfl|rfl|rfl|rfl|rfl|rfl|rfl|rfl|rfl|rfl|rfl|rfl|rfl|rfl|rfl|rfl|rfl|rfl|rfl|rfl|rfl|rfl|rfl|rfl|rfl|rfl|rfl|rfl|rfl|rfl|rfl|rfl|rfl|rfl<;>
   (refine Jy3 KX hG e rfl (Fk.sc ?k) (Fk.ck ?k) ?b;(case k=>exact⟨rfl,rfl,rfl,by decide+kernel⟩);(case b=>intro _ _ _ _ _ _;first|exact Y9 λ_=>rfl|exact Y8 λ_ _=>rfl|exact Y7 λ_ _ _=>rfl|exact Y6 λ_ _ _ _=>rfl|exact Y5 λ_ _ _ _ _=>rfl|exact Y4 λ_ _ _ _ _ _ _=>rfl))
 np:=np
 blt x hx:=J1c KX hG (be x hx)
 gl:=by
  intro x d hd;unfold G at hd;rcases Jbf hd with⟨rfl,rfl⟩|hd
  ·exact Jko KX hG g0
  rcases Jbf hd with⟨rfl,rfl⟩|hd
  ·exact Jy2 KX hG g1
  rcases Jbf hd with⟨rfl,rfl⟩|hd
  ·exact Jko KX hG g2
  rcases Jbf hd with⟨rfl,rfl⟩|hd
  ·exact Jy2 KX hG g3
  rcases Jbf hd with⟨rfl,rfl⟩|hd
  ·exact Jko KX hG g4
  rcases Jbf hd with⟨rfl,rfl⟩|hd
  ·exact Jko KX hG g5
  rcases Jbf hd with⟨rfl,rfl⟩|hd
  ·exact Jko KX hG g6
  rcases Jbf hd with⟨rfl,rfl⟩|hd
  ·exact Jko KX hG g7
  cases hd
 mts:=by
  intro c m f hf;simp only[O,An,Bc,or_false,Ke]at hf;rcases hf with⟨rfl,rfl,rfl⟩|⟨rfl,rfl,rfl⟩|⟨rfl,rfl,rfl⟩|⟨rfl,rfl,rfl⟩|⟨rfl,rfl,rfl⟩|⟨rfl,rfl,rfl⟩|⟨rfl,rfl,rfl⟩|⟨rfl,rfl,rfl⟩|⟨rfl,rfl,rfl⟩<;>
   (refine' Jre cf ?e rfl (Fk.sc ?k) (Fk.ck ?k) ?b;(case e=>assumption);(case k=>exact⟨rfl,rfl,rfl,by decide+kernel⟩);(case b=>intro _ _ _ _ _ _;first|exact Y9 λ_=>rfl|exact Y8 λ_ _=>rfl|exact Y7 λ_ _ _=>rfl|exact Y6 λ_ _ _ _=>rfl|exact Y5 λ_ _ _ _ _=>rfl|exact Y4 λ_ _ _ _ _ _ _=>rfl))
 fds:=by
  intro c f hf;simp only[O,An,Bc,or_false,Ke]at hf;rcases hf with⟨rfl,rfl⟩|⟨rfl,rfl⟩
  ·exact Jrq cf n0
  ·exact Jrq cf n1
 nws:=by
  intro c f hf;simp only[O,An,Bc,or_false,Ke]at hf;obtain⟨rfl,rfl⟩:=hf;exact Jx3 KX hG cf nw (by refine Jre cf m0 rfl (Fk.sc ?k) (Fk.ck ?k) ?b;(case k=>exact⟨rfl,rfl,rfl,by decide+kernel⟩);(case b=>intro _ _ _ _ _ _;first|exact Y9 λ_=>rfl|exact Y8 λ_ _=>rfl|exact Y7 λ_ _ _=>rfl|exact Y6 λ_ _ _ _=>rfl|exact Y5 λ_ _ _ _ _=>rfl|exact Y4 λ_ _ _ _ _ _ _=>rfl))
open PySem L2 Mi PySem.W
noncomputable abbrev kE(P:El)(x:Str)(t:Nat)(v:Value):B8:=⟨PyData.keyHash P x,.str x t,v⟩
noncomputable def q:Program:={PySem.Challenge.pw_spentonce_k24_block_fault with main:={PySem.Challenge.pw_spentonce_k24_block_fault.main with body:=[0,2,3,4,6,7,8,10,11,12,13,14,16,17,18,19,20,21,22,23,24,25,26,27,28,29,31,32,33,34,35,36,37,38,40,41,42,43,44,45,46,47,48,49,50,51,52,53,54,55,56,57].map top}}
noncomputable abbrev yT(xs:Array Value):A5:=⟨.type "tuple",none,.seq xs 0,#[]⟩
noncomputable abbrev yN:A5:=⟨.none,none,.fields #[],#[]⟩
noncomputable abbrev yC(n:Str)(a b c:Nat)(l:Int)(x y z u:Int)(r:Nat)(f:Bool)(r2:Nat)(v1 v2 v3 v4:Value)(h:Int)(k:Nat):A5:=⟨.type "code",none,.fields #[.str n a,.str n b,.str "/claim/cut.py" c,.int l 0,.int x 0,.int y 0,.int z 0,.int u 0,.ref r,.bool f,.int 181 0,.ref r2,v1,v2,v3,v4,.int h 0,.int l 0,.str "/claim/cut.py" k],#[]⟩
noncomputable abbrev yQ(n:Str)(t:Stmt):A5:=⟨.none,none,.func ⟨n,n,Ul t,.stmts (Uk t),defScope t,0,[],.none,.none,.none,.none,none,.none,.none,0⟩,#[]⟩
noncomputable abbrev yU(n:Str)(t:Stmt)(m:Str)(k c:Nat):A5:=⟨.type "function",none,.func ⟨n,n,Ul t,.stmts (Uk t),defScope t,3,[],.none,.none,.none,.str m k,none,.ref c,.none,0⟩,#[]⟩
noncomputable abbrev yF(xs:List (Int×Nat)):A5:=⟨.none,none,.fields ⟨xs.flatMap λp=>[.int p.1 0,.int 0 0,.ref p.2]⟩,#[]⟩
noncomputable abbrev yD(xs:List B8):A5:=⟨.type "dict",none,.dict ⟨xs⟩ xs.length,#[]⟩
noncomputable abbrev o11:=yT #[]
noncomputable abbrev o16:=yN
noncomputable abbrev o17:=yT #[(.str "k" 190)]
noncomputable abbrev o20:=yC "_wall" 187 188 189 1 1 0 0 3 15 true 16 .none (.ref 17) (.ref 18) (.ref 19) 191 192
noncomputable abbrev o21:=yU "_wall" (top 0) "__main__" 164 20
noncomputable abbrev o22:=yT #[(.type "ValueError")]
noncomputable abbrev o23:A5:=⟨(.type "builtin_function_or_method"),none,(.fields #[(.builtin "type.__prepare__"),(.type "type")]),#[]⟩
noncomputable abbrev o30(P:El):A5:=⟨(.type "dict"),none,(.dict #[kE P "__module__" 203 (.str "spentonce.errors" 194),kE P "__firstlineno__" 207 (.int 5 206),kE P "__static_attributes__" 208 (.ref 29),kE P "__weakref__" 210 (.ref 32),kE P "__doc__" 211 .none] 3),#[]⟩
noncomputable abbrev o31:A5:=⟨(.type "type"),none,(.cls ⟨"CoinError",[(.type "ValueError")],[(.ref 31),(.type "ValueError"),(.type "Exception"),(.type "BaseException"),(.type "object")],30,"CoinError",true,[],[(.ref 44),(.ref 56)],false,none,false⟩),#[(some (.ref 22)),none,(some (.str "CoinError" 196)),(some (.str "CoinError" 204)),(some (.builtin "ValueError.__new__")),(some (.bool true))]⟩
noncomputable abbrev o32:A5:=⟨(.type "getset_descriptor"),none,(.fields #[(.str "__weakref__" 209),(.ref 31),(.builtin "ExceptionGroup.__weakref__"),.none]),#[]⟩
noncomputable abbrev o35:=yT #[(.ref 31)]
noncomputable abbrev o43(P:El):A5:=⟨(.type "dict"),none,(.dict #[kE P "__module__" 221 (.str "spentonce.errors" 194),kE P "__firstlineno__" 225 (.int 7 224),kE P "__static_attributes__" 226 (.ref 42),kE P "__doc__" 227 .none] 2),#[]⟩
noncomputable abbrev o44:A5:=⟨(.type "type"),none,(.cls ⟨"NoFit",[(.ref 31)],[(.ref 44),(.ref 31),(.type "ValueError"),(.type "Exception"),(.type "BaseException"),(.type "object")],43,"NoFit",true,[],[],false,none,false⟩),#[(some (.ref 35)),none,(some (.str "NoFit" 214)),(some (.str "NoFit" 222)),(some (.builtin "ValueError.__new__")),(some (.bool true))]⟩
noncomputable abbrev o55(P:El):A5:=⟨(.type "dict"),none,(.dict #[kE P "__module__" 237 (.str "spentonce.errors" 194),kE P "__firstlineno__" 241 (.int 9 240),kE P "__static_attributes__" 242 (.ref 54),kE P "__doc__" 243 .none] 2),#[]⟩
noncomputable abbrev o56:A5:=⟨(.type "type"),none,(.cls ⟨"BadBlock",[(.ref 31)],[(.ref 56),(.ref 31),(.type "ValueError"),(.type "Exception"),(.type "BaseException"),(.type "object")],55,"BadBlock",true,[],[],false,none,false⟩),#[(some (.ref 47)),none,(some (.str "BadBlock" 230)),(some (.str "BadBlock" 238)),(some (.builtin "ValueError.__new__")),(some (.bool true))]⟩
noncomputable abbrev o61:=yT #[(.str "deed" 251)]
noncomputable abbrev o64:=yC "is_maker" 248 249 250 12 1 0 0 3 59 true 60 .none (.ref 61) (.ref 62) (.ref 63) 252 253
noncomputable abbrev o65:=yU "is_maker" (top 6) "spentonce.deeds" 246 64
noncomputable abbrev o69:=yC "made_by" 255 256 257 14 1 0 0 3 66 true 67 .none .none .none (.ref 68) 258 259
noncomputable abbrev o70:=yU "made_by" (top 7) "spentonce.deeds" 246 69
noncomputable abbrev o74:=yC "worth_of" 261 262 263 16 1 0 0 3 71 true 72 .none .none .none (.ref 73) 264 265
noncomputable abbrev o75:=yU "worth_of" (top 8) "spentonce.deeds" 246 74
noncomputable abbrev o78:=yT #[(.str "rules" 272),(.str "height" 273),(.str "first" 274),(.str "times" 275)]
noncomputable abbrev o81:=yC "gift" 269 270 271 19 2 0 0 3 76 true 77 .none (.ref 78) (.ref 79) (.ref 80) 276 277
noncomputable abbrev o82:=yU "gift" (top 10) "spentonce.blocks" 267 81
noncomputable abbrev o85:=yT #[(.str "hoard" 282),(.str "block" 283),(.str "height" 284),(.str "rules" 285),(.str "trial" 286),(.str "fees" 287),(.str "place" 288),(.str "deed" 289),(.str "word" 290)]
noncomputable abbrev o88:=yC "block_fault" 279 280 281 23 4 0 0 3 83 true 84 .none (.ref 85) (.ref 86) (.ref 87) 291 292
noncomputable abbrev o89:=yU "block_fault" (top 11) "spentonce.blocks" 267 88
noncomputable abbrev o93:=yC "do_block" 294 295 296 35 4 0 0 3 90 true 91 .none .none .none (.ref 92) 297 298
noncomputable abbrev o94:=yU "do_block" (top 12) "spentonce.blocks" 267 93
noncomputable abbrev o97:=yT #[(.str "deed" 303),(.str "height" 304),(.str "rules" 305)]
noncomputable abbrev Wdp:=yC "free_from" 300 301 302 40 3 0 0 3 95 true 96 .none (.ref 97) (.ref 98) (.ref 99) 306 307
noncomputable abbrev Wdo:=yU "free_from" (top 13) "spentonce.blocks" 267 100
noncomputable abbrev Wdn:=yC "worth_of_makers" 309 310 311 42 1 0 0 3 102 true 103 .none .none .none (.ref 104) 312 313
noncomputable abbrev Wdm:=yU "worth_of_makers" (top 14) "spentonce.blocks" 267 105
noncomputable abbrev Wdl:=yT #[(.str "height" 319),(.str "age" 320),(.str "worth" 321),(.str "ins" 322),(.str "outs" 323)]
noncomputable abbrev Wdk(P:El):=yD [kE P "drop" 327 (.int 1 328),kE P "swap" 329 (.int 2 330),kE P "add" 331 (.int 2 332),kE P "sub" 333 (.int 2 334),kE P "mul" 335 (.int 2 336),kE P "less" 337 (.int 2 338),kE P "same" 339 (.int 2 340),kE P "not" 341 (.int 1 342),kE P "need" 343 (.int 1 344)]
noncomputable abbrev Wdj:=yT #[(.str "lock" 358),(.str "keys" 359),(.str "facts" 360),(.str "pile" 361),(.str "parts" 362),(.str "row" 363),(.str "stays_shut" 364)]
noncomputable abbrev Wdi:=yC "opens" 355 356 357 49 3 0 0 3 109 true 110 .none (.ref 111) (.ref 112) (.ref 113) 365 366
noncomputable abbrev Wdh:=yU "opens" (top 20) "spentonce.trying" 315 114
noncomputable abbrev Wdg:=yT #[(.str "parts" 371)]
noncomputable abbrev Wdf:=yC "is_done" 368 369 370 62 1 0 0 3 116 true 117 .none (.ref 118) (.ref 119) (.ref 120) 372 373
noncomputable abbrev Wde:=yU "is_done" (top 21) "spentonce.trying" 315 121
noncomputable abbrev Wdd:=yT #[(.str "pile" 378),(.str "numbers" 379),(.str "number" 380)]
noncomputable abbrev Wdc:=yC "lay" 375 376 377 64 2 0 0 3 123 true 124 .none (.ref 125) (.ref 126) (.ref 127) 381 382
noncomputable abbrev Wdb:=yU "lay" (top 22) "spentonce.trying" 315 128
noncomputable abbrev Wda:=yT #[(.str "word" 387),(.str "parts" 388),(.str "pile" 389),(.str "top" 390)]
noncomputable abbrev Wc9:=yC "turn" 384 385 386 70 3 0 0 3 130 true 131 .none (.ref 132) (.ref 133) (.ref 134) 391 392
noncomputable abbrev Wc8:=yU "turn" (top 23) "spentonce.trying" 315 135
noncomputable abbrev Wc7:=yT #[(.str "row" 397),(.str "pile" 398),(.str "facts" 399),(.str "taken" 400)]
noncomputable abbrev Wc6:=yC "do_row" 394 395 396 83 3 0 0 3 137 true 138 .none (.ref 139) (.ref 140) (.ref 141) 401 402
noncomputable abbrev Wc5:=yU "do_row" (top 24) "spentonce.trying" 315 142
noncomputable abbrev Wc4:=yT #[(.str "row" 407),(.str "pile" 408)]
noncomputable abbrev Wc3:=yC "has_enough" 404 405 406 90 2 0 0 3 144 true 145 .none (.ref 146) (.ref 147) (.ref 148) 409 410
noncomputable abbrev Wc2:=yU "has_enough" (top 25) "spentonce.trying" 315 149
noncomputable abbrev Wc1:=yT #[(.str "pile" 415),(.str "count" 416),(.str "taken" 417),(.str "number" 418)]
noncomputable abbrev Wc0:=yC "take" 412 413 414 94 2 0 0 3 151 true 152 .none (.ref 153) (.ref 154) (.ref 155) 419 420
noncomputable abbrev Wcz:=yU "take" (top 26) "spentonce.trying" 315 156
noncomputable abbrev Wcy:=yT #[(.str "row" 425),(.str "taken" 426),(.str "pile" 427),(.str "facts" 428),(.str "word" 429)]
noncomputable abbrev Wcx:=yC "laid_by" 422 423 424 99 4 0 0 3 158 true 159 .none (.ref 160) (.ref 161) (.ref 162) 430 431
noncomputable abbrev Wcw:=yU "laid_by" (top 27) "spentonce.trying" 315 163
noncomputable abbrev Wcv:=yT #[(.str "paid" 436),(.str "place" 437)]
noncomputable abbrev Wcu:=yC "paid_at" 433 434 435 116 2 0 0 3 165 true 166 .none (.ref 167) (.ref 168) (.ref 169) 438 439
noncomputable abbrev Wct:=yU "paid_at" (top 28) "spentonce.trying" 315 170
noncomputable abbrev Wcs:=yT #[(.str "word" 444),(.str "a" 445),(.str "b" 446)]
noncomputable abbrev Wcr:=yC "outcome" 441 442 443 118 3 0 0 3 172 true 173 .none (.ref 174) (.ref 175) (.ref 176) 447 448
noncomputable abbrev Wcq:=yU "outcome" (top 29) "spentonce.trying" 315 177
noncomputable abbrev Wcp:=yT #[(.str "self" 475)]
noncomputable abbrev Wco:A5:=⟨(.type "code"),none,(.fields #[(.str "__init__" 472),(.str "Hoard.__init__" 473),(.str "/claim/cut.py" 474),(.int 135 0),(.int 1 0),(.int 0 0),(.int 0 0),(.int 3 0),(.ref 186),(.bool true),(.int 181 0),(.ref 187),.none,(.ref 188),(.ref 189),(.ref 190),(.int 476 0),(.int 135 0),(.str "/claim/cut.py" 477)]),#[]⟩
noncomputable abbrev Wcn:A5:=⟨(.type "function"),none,(.func ⟨"__init__","Hoard.__init__",Ul (Um 35 0),.stmts (Uk (Um 35 0)),defScope (Um 35 0),3,[],.none,.none,.none,(.str "spentonce.hoards" 450),none,(.ref 191),.none,0⟩),#[]⟩
noncomputable abbrev Wcm:=yT #[(.str "self" 482),(.str "other" 483)]
noncomputable abbrev Wcl:A5:=⟨(.type "code"),none,(.fields #[(.str "copied" 479),(.str "Hoard.copied" 480),(.str "/claim/cut.py" 481),(.int 139 0),(.int 1 0),(.int 0 0),(.int 0 0),(.int 3 0),(.ref 193),(.bool true),(.int 181 0),(.ref 194),.none,(.ref 195),(.ref 196),(.ref 197),(.int 484 0),(.int 139 0),(.str "/claim/cut.py" 485)]),#[]⟩
noncomputable abbrev Wck:A5:=⟨(.type "function"),none,(.func ⟨"copied","Hoard.copied",Ul (Um 35 1),.stmts (Uk (Um 35 1)),defScope (Um 35 1),3,[],.none,.none,.none,(.str "spentonce.hoards" 450),none,(.ref 198),.none,0⟩),#[]⟩
noncomputable abbrev Wcj:=yT #[(.str "self" 490)]
noncomputable abbrev Wci:A5:=⟨(.type "code"),none,(.fields #[(.str "held" 487),(.str "Hoard.held" 488),(.str "/claim/cut.py" 489),(.int 145 0),(.int 1 0),(.int 0 0),(.int 0 0),(.int 3 0),(.ref 200),(.bool true),(.int 181 0),(.ref 201),.none,(.ref 202),(.ref 203),(.ref 204),(.int 491 0),(.int 145 0),(.str "/claim/cut.py" 492)]),#[]⟩
noncomputable abbrev Wch:A5:=⟨(.type "function"),none,(.func ⟨"held","Hoard.held",Ul (Um 35 2),.stmts (Uk (Um 35 2)),defScope (Um 35 2),3,[],.none,.none,.none,(.str "spentonce.hoards" 450),none,(.ref 205),.none,0⟩),#[]⟩
noncomputable abbrev Wcg:=yT #[(.str "self" 497)]
noncomputable abbrev Wcf:A5:=⟨(.type "code"),none,(.fields #[(.str "total" 494),(.str "Hoard.total" 495),(.str "/claim/cut.py" 496),(.int 148 0),(.int 1 0),(.int 0 0),(.int 0 0),(.int 3 0),(.ref 207),(.bool true),(.int 181 0),(.ref 208),.none,(.ref 209),(.ref 210),(.ref 211),(.int 498 0),(.int 148 0),(.str "/claim/cut.py" 499)]),#[]⟩
noncomputable abbrev Wce:A5:=⟨(.type "function"),none,(.func ⟨"total","Hoard.total",Ul (Um 35 3),.stmts (Uk (Um 35 3)),defScope (Um 35 3),3,[],.none,.none,.none,(.str "spentonce.hoards" 450),none,(.ref 212),.none,0⟩),#[]⟩
noncomputable abbrev Wcd:=yT #[(.str "self" 504),(.str "number" 505)]
noncomputable abbrev Wcc:A5:=⟨(.type "code"),none,(.fields #[(.str "did" 501),(.str "Hoard.did" 502),(.str "/claim/cut.py" 503),(.int 151 0),(.int 2 0),(.int 0 0),(.int 0 0),(.int 3 0),(.ref 214),(.bool true),(.int 181 0),(.ref 215),.none,(.ref 216),(.ref 217),(.ref 218),(.int 506 0),(.int 151 0),(.str "/claim/cut.py" 507)]),#[]⟩
noncomputable abbrev Wcb:A5:=⟨(.type "function"),none,(.func ⟨"did","Hoard.did",Ul (Um 35 4),.stmts (Uk (Um 35 4)),defScope (Um 35 4),3,[],.none,.none,.none,(.str "spentonce.hoards" 450),none,(.ref 219),.none,0⟩),#[]⟩
noncomputable abbrev Wca:=yT #[(.str "self" 512),(.str "deed" 513),(.str "height" 514),(.str "part" 515),(.str "word" 516)]
noncomputable abbrev Wb9:A5:=⟨(.type "code"),none,(.fields #[(.str "fault" 509),(.str "Hoard.fault" 510),(.str "/claim/cut.py" 511),(.int 154 0),(.int 3 0),(.int 0 0),(.int 0 0),(.int 3 0),(.ref 221),(.bool true),(.int 181 0),(.ref 222),.none,(.ref 223),(.ref 224),(.ref 225),(.int 517 0),(.int 154 0),(.str "/claim/cut.py" 518)]),#[]⟩
noncomputable abbrev Wb8:A5:=⟨(.type "function"),none,(.func ⟨"fault","Hoard.fault",Ul (Um 35 5),.stmts (Uk (Um 35 5)),defScope (Um 35 5),3,[],.none,.none,.none,(.str "spentonce.hoards" 450),none,(.ref 226),.none,0⟩),#[]⟩
noncomputable abbrev Wb7:=yT #[(.str "self" 523),(.str "part" 524),(.str "deed" 525),(.str "height" 526),(.str "kept" 527)]
noncomputable abbrev Wb6:A5:=⟨(.type "code"),none,(.fields #[(.str "fault_of_in" 520),(.str "Hoard.fault_of_in" 521),(.str "/claim/cut.py" 522),(.int 167 0),(.int 4 0),(.int 0 0),(.int 0 0),(.int 3 0),(.ref 228),(.bool true),(.int 181 0),(.ref 229),.none,(.ref 230),(.ref 231),(.ref 232),(.int 528 0),(.int 167 0),(.str "/claim/cut.py" 529)]),#[]⟩
noncomputable abbrev Wb5:A5:=⟨(.type "function"),none,(.func ⟨"fault_of_in","Hoard.fault_of_in",Ul (Um 35 6),.stmts (Uk (Um 35 6)),defScope (Um 35 6),3,[],.none,.none,.none,(.str "spentonce.hoards" 450),none,(.ref 233),.none,0⟩),#[]⟩
noncomputable abbrev Wb4:=yT #[(.str "self" 534),(.str "deed" 535)]
noncomputable abbrev Wb3:A5:=⟨(.type "code"),none,(.fields #[(.str "fee" 531),(.str "Hoard.fee" 532),(.str "/claim/cut.py" 533),(.int 177 0),(.int 2 0),(.int 0 0),(.int 0 0),(.int 3 0),(.ref 235),(.bool true),(.int 181 0),(.ref 236),.none,(.ref 237),(.ref 238),(.ref 239),(.int 536 0),(.int 177 0),(.str "/claim/cut.py" 537)]),#[]⟩
noncomputable abbrev Wb2:A5:=⟨(.type "function"),none,(.func ⟨"fee","Hoard.fee",Ul (Um 35 7),.stmts (Uk (Um 35 7)),defScope (Um 35 7),3,[],.none,.none,.none,(.str "spentonce.hoards" 450),none,(.ref 240),.none,0⟩),#[]⟩
noncomputable abbrev Wb1:A5:=⟨(.type "code"),none,(.fields #[(.str "worth_spent" 539),(.str "Hoard.worth_spent" 540),(.str "/claim/cut.py" 541),(.int 180 0),(.int 2 0),(.int 0 0),(.int 0 0),(.int 3 0),(.ref 242),(.bool true),(.int 181 0),(.ref 243),.none,.none,.none,(.ref 244),(.int 542 0),(.int 180 0),(.str "/claim/cut.py" 543)]),#[]⟩
noncomputable abbrev Wb0:A5:=⟨(.type "function"),none,(.func ⟨"worth_spent","Hoard.worth_spent",Ul (Um 35 8),.stmts (Uk (Um 35 8)),defScope (Um 35 8),3,[],.none,.none,.none,(.str "spentonce.hoards" 450),none,(.ref 245),.none,0⟩),#[]⟩
noncomputable abbrev Wbz:A5:=⟨(.type "code"),none,(.fields #[(.str "do" 545),(.str "Hoard.do" 546),(.str "/claim/cut.py" 547),(.int 183 0),(.int 4 0),(.int 0 0),(.int 0 0),(.int 3 0),(.ref 247),(.bool true),(.int 181 0),(.ref 248),.none,.none,.none,(.ref 249),(.int 548 0),(.int 183 0),(.str "/claim/cut.py" 549)]),#[]⟩
noncomputable abbrev Wby:A5:=⟨(.type "function"),none,(.func ⟨"do","Hoard.do",Ul (Um 35 9),.stmts (Uk (Um 35 9)),defScope (Um 35 9),3,[],.none,.none,.none,(.str "spentonce.hoards" 450),none,(.ref 250),.none,0⟩),#[]⟩
noncomputable abbrev Wbx:=yT #[(.str "self" 554),(.str "note" 555)]
noncomputable abbrev Wbw:A5:=⟨(.type "code"),none,(.fields #[(.str "undo" 551),(.str "Hoard.undo" 552),(.str "/claim/cut.py" 553),(.int 195 0),(.int 2 0),(.int 0 0),(.int 0 0),(.int 3 0),(.ref 252),(.bool true),(.int 181 0),(.ref 253),.none,(.ref 254),(.ref 255),(.ref 256),(.int 556 0),(.int 195 0),(.str "/claim/cut.py" 557)]),#[]⟩
noncomputable abbrev Wbv:A5:=⟨(.type "function"),none,(.func ⟨"undo","Hoard.undo",Ul (Um 35 10),.stmts (Uk (Um 35 10)),defScope (Um 35 10),3,[],.none,.none,.none,(.str "spentonce.hoards" 450),none,(.ref 257),.none,0⟩),#[]⟩
noncomputable abbrev Wbu:=yT #[(.str "done" 559),(.str "unspent" 560)]
noncomputable abbrev Wbt(P:El):A5:=⟨(.type "dict"),none,(.dict #[kE P "__module__" 467 (.str "spentonce.hoards" 450),kE P "__firstlineno__" 471 (.int 133 470),kE P "__init__" 478 (.ref 192),kE P "copied" 486 (.ref 199),kE P "held" 493 (.ref 206),kE P "total" 500 (.ref 213),kE P "did" 508 (.ref 220),kE P "fault" 519 (.ref 227),kE P "fault_of_in" 530 (.ref 234),kE P "fee" 538 (.ref 241),kE P "worth_spent" 544 (.ref 246),kE P "do" 550 (.ref 251),kE P "undo" 558 (.ref 258),kE P "__static_attributes__" 561 (.ref 259),kE P "__dict__" 563 (.ref 262),kE P "__weakref__" 565 (.ref 263),kE P "__doc__" 566 .none] 4),#[]⟩
noncomputable abbrev Wbs:A5:=⟨(.type "type"),none,(.cls ⟨"Hoard",[(.type "object")],[(.ref 261),(.type "object")],260,"Hoard",true,[],[],false,none,false⟩),#[none,none,(some (.str "Hoard" 460)),(some (.str "Hoard" 468)),(some (.builtin "object.__new__")),(some (.bool true))]⟩
noncomputable abbrev Wbr:A5:=⟨(.type "getset_descriptor"),none,(.fields #[(.str "__dict__" 562),(.ref 261),(.builtin "function.__dict__"),(.builtin "function.__dict__#set")]),#[]⟩
noncomputable abbrev Wbq:A5:=⟨(.type "getset_descriptor"),none,(.fields #[(.str "__weakref__" 564),(.ref 261),(.builtin "ExceptionGroup.__weakref__"),.none]),#[]⟩
noncomputable abbrev Wbp:=yC "spent_by" 569 570 571 197 1 0 0 3 266 true 267 .none .none .none (.ref 268) 572 573
noncomputable abbrev Wbo:=yU "spent_by" (top 36) "spentonce.hoards" 450 269
noncomputable abbrev Wbn:=yT #[(.str "coins" 578)]
noncomputable abbrev Wbm:=yC "has_twice" 575 576 577 199 1 0 0 3 271 true 272 .none (.ref 273) (.ref 274) (.ref 275) 579 580
noncomputable abbrev Wbl:=yU "has_twice" (top 37) "spentonce.hoards" 450 276
noncomputable abbrev Wbk:=yC "facts_of" 582 583 584 201 3 0 0 3 278 true 279 .none .none .none (.ref 280) 585 586
noncomputable abbrev Wbj:=yU "facts_of" (top 38) "spentonce.hoards" 450 281
noncomputable abbrev Wbi:=yT #[(.str "_law_cell" 593)]
noncomputable abbrev Wbh:=yC "_law_mixed" 590 591 592 206 1 0 0 3 283 true 284 .none (.ref 285) (.ref 286) (.ref 287) 594 595
noncomputable abbrev Wbg:=yU "_law_mixed" (top 40) "law_spentonce_k24_block_fault" 588 288
noncomputable abbrev Wbf:=yT #[(.str "_law_cell" 600),(.str "_law_k" 601),(.str "_law_digits" 602),(.str "_law_seed" 603)]
noncomputable abbrev Wbe:=yC "_law_stream" 597 598 599 208 3 0 0 3 290 true 291 .none (.ref 292) (.ref 293) (.ref 294) 604 605
noncomputable abbrev Wbd:=yU "_law_stream" (top 41) "law_spentonce_k24_block_fault" 588 295
noncomputable abbrev Wbc:=yT #[(.str "_law_stream_here" 610),(.str "_law_many" 611),(.str "_law_found" 612)]
noncomputable abbrev Wbb:=yC "_law_take" 607 608 609 213 2 0 0 3 297 true 298 .none (.ref 299) (.ref 300) (.ref 301) 613 614
noncomputable abbrev Wba:=yU "_law_take" (top 42) "law_spentonce_k24_block_fault" 588 302
noncomputable abbrev Wa9:=yC "_law_streams" 616 617 618 223 1 0 0 3 304 true 305 .none .none .none (.ref 306) 619 620
noncomputable abbrev Wa8:=yU "_law_streams" (top 43) "law_spentonce_k24_block_fault" 588 307
noncomputable abbrev Wa7:=yT #[(.str "_law_stream_here" 625),(.str "_law_number" 626),(.str "_law_least" 627),(.str "_law_lock_here" 628),(.str "_law_keys" 629),(.str "_law_way" 630)]
noncomputable abbrev Wa6:=yC "_law_lock" 622 623 624 226 1 0 0 3 309 true 310 .none (.ref 311) (.ref 312) (.ref 313) 631 632
noncomputable abbrev Wa5:=yU "_law_lock" (top 44) "law_spentonce_k24_block_fault" 588 314
noncomputable abbrev Wa4:=yT #[(.str "_law_stream_here" 637),(.str "_law_total" 638),(.str "_law_ring" 639),(.str "_law_outs_here" 640),(.str "_law_k" 641),(.str "_law_lock_here" 642),(.str "_law_keys" 643),(.str "_law_part" 644)]
noncomputable abbrev Wa3:=yC "_law_outs" 634 635 636 239 3 0 0 3 316 true 317 .none (.ref 318) (.ref 319) (.ref 320) 645 646
noncomputable abbrev Wa2:=yU "_law_outs" (top 45) "law_spentonce_k24_block_fault" 588 321
noncomputable abbrev Wa1:=yT #[(.str "_law_stream_here" 651),(.str "_law_coins" 652),(.str "_law_ring" 653),(.str "_law_names" 654),(.str "_law_pick" 655),(.str "_law_name" 656),(.str "_law_keys" 657)]
noncomputable abbrev Wa0:=yC "_law_in" 648 649 650 251 3 0 0 3 323 true 324 .none (.ref 325) (.ref 326) (.ref 327) 658 659
noncomputable abbrev Waz:=yU "_law_in" (top 46) "law_spentonce_k24_block_fault" 588 328
noncomputable abbrev Wax:=yC "_law_deed" 661 662 663 261 4 0 0 3 330 true 331 .none .none .none (.ref 332) 664 665
noncomputable abbrev Waw:=yU "_law_deed" (top 47) "law_spentonce_k24_block_fault" 588 333
noncomputable abbrev Wav:=yC "_law_word" 667 668 669 274 4 0 0 3 335 true 336 .none .none .none (.ref 337) 670 671
noncomputable abbrev Wau:=yU "_law_word" (top 48) "law_spentonce_k24_block_fault" 588 338
noncomputable abbrev Wat:=yC "_law_put" 673 674 675 295 5 0 0 3 340 true 341 .none .none .none (.ref 342) 676 677
noncomputable abbrev Was:=yU "_law_put" (top 49) "law_spentonce_k24_block_fault" 588 343
noncomputable abbrev War:=yT #[(.str "_law_rules_here" 682),(.str "_law_height" 683),(.str "_law_worth" 684),(.str "_law_k" 685)]
noncomputable abbrev Waq:=yC "_law_gift" 679 680 681 303 2 0 0 3 345 true 346 .none (.ref 347) (.ref 348) (.ref 349) 686 687
noncomputable abbrev Wap:=yU "_law_gift" (top 50) "law_spentonce_k24_block_fault" 588 350
noncomputable abbrev Wao:=yC "_law_done" 689 690 691 308 5 0 0 3 352 true 353 .none .none .none (.ref 354) 692 693
noncomputable abbrev Wan:=yU "_law_done" (top 51) "law_spentonce_k24_block_fault" 588 355
noncomputable abbrev Wam:=yC "_law_block" 695 696 697 320 7 0 0 3 357 true 358 .none .none .none (.ref 359) 698 699
noncomputable abbrev Wal:=yU "_law_block" (top 52) "law_spentonce_k24_block_fault" 588 360
noncomputable abbrev Wak:=yT #[(.str "_law_stream_here" 704),(.str "_law_gift_of" 705)]
noncomputable abbrev Waj:=yC "_law_rules" 701 702 703 344 1 0 0 3 362 true 363 .none (.ref 364) (.ref 365) (.ref 366) 706 707
noncomputable abbrev Wai:=yU "_law_rules" (top 53) "law_spentonce_k24_block_fault" 588 367
noncomputable abbrev Wah:=yT #[(.str "_law_script" 712),(.str "_law_streams_here" 713),(.str "_law_rules_here" 714),(.str "_law_height" 715)]
noncomputable abbrev Wag:=yC "_law_begin" 709 710 711 347 1 0 0 3 369 true 370 .none (.ref 371) (.ref 372) (.ref 373) 716 717
noncomputable abbrev Waf:=yU "_law_begin" (top 54) "law_spentonce_k24_block_fault" 588 374
noncomputable abbrev Wae:=yT #[(.str "_law_stream_here" 722),(.str "_law_rules_here" 723),(.str "_law_height" 724)]
noncomputable abbrev Wad:=yC "_law_next" 719 720 721 352 3 0 0 3 376 true 377 .none (.ref 378) (.ref 379) (.ref 380) 725 726
noncomputable abbrev Wac:=yU "_law_next" (top 55) "law_spentonce_k24_block_fault" 588 381
noncomputable abbrev Wab:=yT #[(.str "_law_found" 731),(.str "_law_due" 732)]
noncomputable abbrev Waa:=yC "_law_same" 728 729 730 354 2 0 0 3 383 true 384 .none (.ref 385) (.ref 386) (.ref 387) 733 734
noncomputable abbrev Z9:=yU "_law_same" (top 56) "law_spentonce_k24_block_fault" 588 388
noncomputable abbrev Z8:=yC "law" 736 737 738 360 1 0 0 3 390 true 391 .none .none .none (.ref 392) 739 740
noncomputable abbrev Z7:=yU "law" (top 57) "law_spentonce_k24_block_fault" 588 393
noncomputable def Jyd(P:El):List A5:=[yC "<module>" 182 183 184 1 0 0 0 0 11 false 12 .none .none .none .none 185 186,⟨(.type "frame"),none,.plain,#[(some (.ref 13)),(some (.ref 3)),(some (.ref 3)),none,(some (.str "__main__" 164)),none,(some (.ref 0))]⟩]
noncomputable def hp(P:El)(a b:A5)(l:List A5):Jn:=⟨⟨PySem.W.boot_o_0 P::PySem.W.boot_o_1 P::Pl P::a::([PySem.W.boot_o_4 P,PySem.W.boot_o_5 P,PySem.W.boot_o_6 P,PySem.W.boot_o_7 P,PySem.W.boot_o_8 P,PySem.W.boot_o_9 P,PySem.W.boot_o_10 P,o11]++b::l)⟩,(Gk P).life⟩
noncomputable def Jm3(P:El):Jn:=hp P (PySem.W.boot_o_3 P) o16 (Jyd P)
noncomputable def Jyg(P:El):List A5:=Jyd P++[o11,o16,o17,o11,yQ "_wall" (top 0),o20,o21,o22,o23,yD [kE P "__module__" 203 (.str "spentonce.errors" 194),kE P "__qualname__" 205 (.str "CoinError" 204),kE P "__firstlineno__" 207 (.int 5 206),kE P "__static_attributes__" 208 (.ref 29)],o11,o16,yC "CoinError" 198 199 200 5 0 0 0 0 25 false 26 .none .none .none .none 201 202,⟨(.type "frame"),none,.plain,#[(some (.ref 27)),(some (.ref 3)),(some (.ref 24)),none,(some (.str "spentonce.errors" 194)),none,(some (.ref 0))]⟩,o11,o30 P,o31,o32,⟨(.type "super"),none,(.fields #[(.ref 31),(.ref 31),(.ref 31)]),#[]⟩,⟨(.type "builtin_function_or_method"),none,(.fields #[(.builtin "object.__init_subclass__"),(.ref 31)]),#[]⟩,o35,o23,yD [kE P "__module__" 221 (.str "spentonce.errors" 194),kE P "__qualname__" 223 (.str "NoFit" 222),kE P "__firstlineno__" 225 (.int 7 224),kE P "__static_attributes__" 226 (.ref 42)],o11,o16,yC "NoFit" 216 217 218 7 0 0 0 0 38 false 39 .none .none .none .none 219 220,⟨(.type "frame"),none,.plain,#[(some (.ref 40)),(some (.ref 3)),(some (.ref 37)),none,(some (.str "spentonce.errors" 194)),none,(some (.ref 0))]⟩,o11,o43 P,o44,⟨(.type "super"),none,(.fields #[(.ref 44),(.ref 44),(.ref 44)]),#[]⟩,⟨(.type "builtin_function_or_method"),none,(.fields #[(.builtin "object.__init_subclass__"),(.ref 44)]),#[]⟩,o35,o23,yD [kE P "__module__" 237 (.str "spentonce.errors" 194),kE P "__qualname__" 239 (.str "BadBlock" 238),kE P "__firstlineno__" 241 (.int 9 240),kE P "__static_attributes__" 242 (.ref 54)],o11,o16,yC "BadBlock" 232 233 234 9 0 0 0 0 50 false 51 .none .none .none .none 235 236,⟨(.type "frame"),none,.plain,#[(some (.ref 52)),(some (.ref 3)),(some (.ref 49)),none,(some (.str "spentonce.errors" 194)),none,(some (.ref 0))]⟩,o11,o55 P,o56,⟨(.type "super"),none,(.fields #[(.ref 56),(.ref 56),(.ref 56)]),#[]⟩,⟨(.type "builtin_function_or_method"),none,(.fields #[(.builtin "object.__init_subclass__"),(.ref 56)]),#[]⟩,o11,o16,o61,o11,yQ "is_maker" (top 6),o64,o65,o11,o16,yQ "made_by" (top 7),o69,o70,o11,o16,yQ "worth_of" (top 8),o74,o75,o11,o16,o78,o11,yQ "gift" (top 10),o81,o82,o11,o16,o85,o11,yQ "block_fault" (top 11),o88,o89,o11,o16,yQ "do_block" (top 12),o93,o94,o11,o16,o97,o11,yQ "free_from" (top 13),Wdp,Wdo,o11,o16,yQ "worth_of_makers" (top 14),Wdn,Wdm,Wdl]
noncomputable def Jy9(P:El):List B8:=[kE P "__doc__" 166 .none,kE P "__package__" 167 .none,kE P "__loader__" 168 (.builtin "__main__.__loader__#opaque"),kE P "__spec__" 169 .none,kE P "__annotations__" 170 (.ref 6),kE P "__builtins__" 171 (.ref 4),kE P "__file__" 173 (.str "/claim/cut.py" 172),kE P "__cached__" 174 .none,kE P "_wall" 193 (.ref 21),kE P "CoinError" 213 (.ref 31),kE P "NoFit" 229 (.ref 44),kE P "BadBlock" 245 (.ref 56),kE P "is_maker" 254 (.ref 65),kE P "made_by" 260 (.ref 70),kE P "worth_of" 266 (.ref 75),kE P "gift" 278 (.ref 82),kE P "block_fault" 293 (.ref 89),kE P "do_block" 299 (.ref 94),kE P "free_from" 308 (.ref 101),kE P "worth_of_makers" 314 (.ref 106),kE P "MOST_LYING" 318 (.int 20 317),kE P "FACT_WORDS" 324 (.ref 107),kE P "PAID" 326 (.int 5 325)]
noncomputable def Jvy:List (Int×Nat):=[(1,20),(5,27),(7,40),(9,52),(12,64),(14,69),(16,74),(19,81),(23,88),(35,93),(40,100),(42,105)]
noncomputable def Jy1(P:El):Jn:=hp P (yD (kE P "__name__" 165 (.str "spentonce.trying" 315)::Jy9 P)) (yF Jvy) (Jyg P)
noncomputable def Jyf(P:El):List A5:=Jyg P++[Wdk P,o11,o16,Wdj,o11,yQ "opens" (top 20),Wdi,Wdh,o11,o16,Wdg,o11,yQ "is_done" (top 21),Wdf,Wde,o11,o16,Wdd,o11,yQ "lay" (top 22),Wdc,Wdb,o11,o16,Wda,o11,yQ "turn" (top 23),Wc9,Wc8,o11,o16,Wc7,o11,yQ "do_row" (top 24),Wc6,Wc5,o11,o16,Wc4,o11,yQ "has_enough" (top 25),Wc3,Wc2,o11,o16,Wc1,o11,yQ "take" (top 26),Wc0,Wcz,o11,o16,Wcy,o11,yQ "laid_by" (top 27),Wcx,Wcw,o11,o16,Wcv,o11,yQ "paid_at" (top 28),Wcu,Wct,o11,o16,Wcs,o11,yQ "outcome" (top 29),Wcr,Wcq]
noncomputable def Jy8(P:El):List B8:=Jy9 P++[kE P "TAKEN" 354 (.ref 108),kE P "opens" 367 (.ref 115),kE P "is_done" 374 (.ref 122),kE P "lay" 383 (.ref 129),kE P "turn" 393 (.ref 136),kE P "do_row" 403 (.ref 143),kE P "has_enough" 411 (.ref 150),kE P "take" 421 (.ref 157),kE P "laid_by" 432 (.ref 164),kE P "paid_at" 440 (.ref 171),kE P "outcome" 449 (.ref 178),kE P "WORTH" 453 (.int 0 452),kE P "LOCK" 455 (.int 1 454),kE P "MADE" 457 (.int 2 456),kE P "FREE" 459 (.int 3 458)]
noncomputable def Jvx:List (Int×Nat):=Jvy++[(49,114),(62,121),(64,128),(70,135),(83,142),(90,149),(94,156),(99,163),(116,170),(118,177)]
noncomputable def Jy0(P:El):Jn:=hp P (yD (kE P "__name__" 165 (.str "spentonce.hoards" 450)::Jy8 P)) (yF Jvx) (Jyf P)
noncomputable def Jye(P:El):List A5:=Jyf P++[o11,o23,yD [kE P "__module__" 467 (.str "spentonce.hoards" 450),kE P "__qualname__" 469 (.str "Hoard" 468),kE P "__firstlineno__" 471 (.int 133 470),kE P "__init__" 478 (.ref 192),kE P "copied" 486 (.ref 199),kE P "held" 493 (.ref 206),kE P "total" 500 (.ref 213),kE P "did" 508 (.ref 220),kE P "fault" 519 (.ref 227),kE P "fault_of_in" 530 (.ref 234),kE P "fee" 538 (.ref 241),kE P "worth_spent" 544 (.ref 246),kE P "do" 550 (.ref 251),kE P "undo" 558 (.ref 258),kE P "__static_attributes__" 561 (.ref 259)],o11,⟨.none,none,(.fields #[(.int 135 0),(.int 4 0),(.ref 191),(.int 139 0),(.int 4 0),(.ref 198),(.int 145 0),(.int 4 0),(.ref 205),(.int 148 0),(.int 4 0),(.ref 212),(.int 151 0),(.int 4 0),(.ref 219),(.int 154 0),(.int 4 0),(.ref 226),(.int 167 0),(.int 4 0),(.ref 233),(.int 177 0),(.int 4 0),(.ref 240),(.int 180 0),(.int 4 0),(.ref 245),(.int 183 0),(.int 4 0),(.ref 250),(.int 195 0),(.int 4 0),(.ref 257)]),#[]⟩,yC "Hoard" 462 463 464 133 0 0 0 0 182 false 183 .none .none .none .none 465 466,⟨(.type "frame"),none,.plain,#[(some (.ref 184)),(some (.ref 3)),(some (.ref 181)),none,(some (.str "spentonce.hoards" 450)),none,(some (.ref 0))]⟩,o11,o16,Wcp,o11,⟨.none,none,(.func ⟨"__init__","Hoard.__init__",Ul (Um 35 0),.stmts (Uk (Um 35 0)),defScope (Um 35 0),0,[],.none,.none,.none,.none,none,.none,.none,0⟩),#[]⟩,Wco,Wcn,o11,o16,Wcm,o11,⟨.none,none,(.func ⟨"copied","Hoard.copied",Ul (Um 35 1),.stmts (Uk (Um 35 1)),defScope (Um 35 1),0,[],.none,.none,.none,.none,none,.none,.none,0⟩),#[]⟩,Wcl,Wck,o11,o16,Wcj,o11,⟨.none,none,(.func ⟨"held","Hoard.held",Ul (Um 35 2),.stmts (Uk (Um 35 2)),defScope (Um 35 2),0,[],.none,.none,.none,.none,none,.none,.none,0⟩),#[]⟩,Wci,Wch,o11,o16,Wcg,o11,⟨.none,none,(.func ⟨"total","Hoard.total",Ul (Um 35 3),.stmts (Uk (Um 35 3)),defScope (Um 35 3),0,[],.none,.none,.none,.none,none,.none,.none,0⟩),#[]⟩,Wcf,Wce,o11,o16,Wcd,o11,⟨.none,none,(.func ⟨"did","Hoard.did",Ul (Um 35 4),.stmts (Uk (Um 35 4)),defScope (Um 35 4),0,[],.none,.none,.none,.none,none,.none,.none,0⟩),#[]⟩,Wcc,Wcb,o11,o16,Wca,o11,⟨.none,none,(.func ⟨"fault","Hoard.fault",Ul (Um 35 5),.stmts (Uk (Um 35 5)),defScope (Um 35 5),0,[],.none,.none,.none,.none,none,.none,.none,0⟩),#[]⟩,Wb9,Wb8,o11,o16,Wb7,o11,⟨.none,none,(.func ⟨"fault_of_in","Hoard.fault_of_in",Ul (Um 35 6),.stmts (Uk (Um 35 6)),defScope (Um 35 6),0,[],.none,.none,.none,.none,none,.none,.none,0⟩),#[]⟩,Wb6,Wb5,o11,o16,Wb4,o11,⟨.none,none,(.func ⟨"fee","Hoard.fee",Ul (Um 35 7),.stmts (Uk (Um 35 7)),defScope (Um 35 7),0,[],.none,.none,.none,.none,none,.none,.none,0⟩),#[]⟩,Wb3,Wb2,o11,o16,⟨.none,none,(.func ⟨"worth_spent","Hoard.worth_spent",Ul (Um 35 8),.stmts (Uk (Um 35 8)),defScope (Um 35 8),0,[],.none,.none,.none,.none,none,.none,.none,0⟩),#[]⟩,Wb1,Wb0,o11,o16,⟨.none,none,(.func ⟨"do","Hoard.do",Ul (Um 35 9),.stmts (Uk (Um 35 9)),defScope (Um 35 9),0,[],.none,.none,.none,.none,none,.none,.none,0⟩),#[]⟩,Wbz,Wby,o11,o16,Wbx,o11,⟨.none,none,(.func ⟨"undo","Hoard.undo",Ul (Um 35 10),.stmts (Uk (Um 35 10)),defScope (Um 35 10),0,[],.none,.none,.none,.none,none,.none,.none,0⟩),#[]⟩,Wbw,Wbv,Wbu,Wbt P,Wbs,Wbr,Wbq,⟨(.type "super"),none,(.fields #[(.ref 261),(.ref 261),(.ref 261)]),#[]⟩,⟨(.type "builtin_function_or_method"),none,(.fields #[(.builtin "object.__init_subclass__"),(.ref 261)]),#[]⟩,o11,o16,yQ "spent_by" (top 36),Wbp,Wbo,o11,o16,Wbn,o11,yQ "has_twice" (top 37),Wbm,Wbl,o11,o16,yQ "facts_of" (top 38),Wbk,Wbj,o11,o16,Wbi,o11,yQ "_law_mixed" (top 40),Wbh,Wbg,o11,o16,Wbf,o11,yQ "_law_stream" (top 41),Wbe,Wbd,o11,o16,Wbc,o11,yQ "_law_take" (top 42),Wbb,Wba,o11,o16,yQ "_law_streams" (top 43),Wa9,Wa8,o11,o16,Wa7,o11,yQ "_law_lock" (top 44),Wa6,Wa5,o11,o16,Wa4,o11,yQ "_law_outs" (top 45),Wa3,Wa2,o11,o16,Wa1,o11,yQ "_law_in" (top 46),Wa0,Waz,o11,o16,yQ "_law_deed" (top 47),Wax,Waw,o11,o16,yQ "_law_word" (top 48),Wav,Wau,o11,o16,yQ "_law_put" (top 49),Wat,Was,o11,o16,War,o11,yQ "_law_gift" (top 50),Waq,Wap,o11,o16,yQ "_law_done" (top 51),Wao,Wan]
noncomputable def Jy7(P:El):List B8:=Jy8 P++[kE P "Hoard" 568 (.ref 261),kE P "spent_by" 574 (.ref 270),kE P "has_twice" 581 (.ref 277),kE P "facts_of" 587 (.ref 282),kE P "_law_mixed" 596 (.ref 289),kE P "_law_stream" 606 (.ref 296),kE P "_law_take" 615 (.ref 303),kE P "_law_streams" 621 (.ref 308),kE P "_law_lock" 633 (.ref 315),kE P "_law_outs" 647 (.ref 322),kE P "_law_in" 660 (.ref 329),kE P "_law_deed" 666 (.ref 334),kE P "_law_word" 672 (.ref 339),kE P "_law_put" 678 (.ref 344),kE P "_law_gift" 688 (.ref 351),kE P "_law_done" 694 (.ref 356)]
noncomputable def Jvw:List (Int×Nat):=Jvx++[(133,184),(197,269),(199,276),(201,281),(206,288),(208,295),(213,302),(223,307),(226,314),(239,321),(251,328),(261,333),(274,338),(295,343),(303,350),(308,355)]
noncomputable def Jyz(P:El):Jn:=hp P (yD (kE P "__name__" 165 (.str "law_spentonce_k24_block_fault" 588)::Jy7 P)) (yF Jvw) (Jye P)
noncomputable def J03(P:El):List A5:=Jye P++[o11,o16,yQ "_law_block" (top 52),Wam,Wal,o11,o16,Wak,o11,yQ "_law_rules" (top 53),Waj,Wai,o11,o16,Wah,o11,yQ "_law_begin" (top 54),Wag,Waf,o11,o16,Wae,o11,yQ "_law_next" (top 55),Wad,Wac,o11,o16,Wab,o11,yQ "_law_same" (top 56),Waa,Z9,o11,o16,yQ "law" (top 57),Z8,Z7]
noncomputable def Jy6(P:El):List B8:=Jy7 P++[kE P "_law_block" 700 (.ref 361),kE P "_law_rules" 708 (.ref 368),kE P "_law_begin" 718 (.ref 375),kE P "_law_next" 727 (.ref 382),kE P "_law_same" 735 (.ref 389),kE P "law" 741 (.ref 394)]
noncomputable def J0a:List (Int×Nat):=Jvw++[(320,360),(344,367),(347,374),(352,381),(354,388),(360,393)]
noncomputable def Jem(P:El):Jn:=hp P (yD (kE P "__name__" 165 (.str "law_spentonce_k24_block_fault" 588)::Jy6 P)) (yF J0a) (J03 P)
noncomputable def as:List Addr:=[2,3,15,17,18,20,21,22,29,30,31,32,35,42,43,44,47,54,55,56,59,61,62,64,65,66,69,70,71,74,75,76,78,79,81,82,83,85,86,88,89,90,93,94,95,97,98,100,101,102,105,106,107,108,109,111,112,114,115,116,118,119,121,122,123,125,126,128,129,130,132,133,135,136,137,139,140,142,143,144,146,147,149,150,151,153,154,156,157,158,160,161,163,164,165,167,168,170,171,172,174,175,177,178,186,188,189,191,192,193,195,196,198,199,200,202,203,205,206,207,209,210,212,213,214,216,217,219,220,221,223,224,226,227,228,230,231,233,234,235,237,238,240,241,242,245,246,247,250,251,252,254,255,257,258,259,260,261,262,263,266,269,270,271,273,274,276,277,278,281,282,283,285,286,288,289,290,292,293,295,296,297,299,300,302,303,304,307,308,309,311,312,314,315,316,318,319,321,322,323,325,326,328,329,330,333,334,335,338,339,340,343,344,345,347,348,350,351,352,355,356,357,360,361,362,364,365,367,368,369,371,372,374,375,376,378,379,381,382,383,385,386,388,389,390,393,394]
noncomputable def K(P:El):Af:=
 (nat_lit 2,Pl P)::(nat_lit 3,yD (kE P "__name__" 165 (.str "law_spentonce_k24_block_fault" 588)::Jy6 P))::(nat_lit 15,o11)::(nat_lit 17,o17)::(nat_lit 18,o11)::(nat_lit 20,o20)::(nat_lit 21,o21)::(nat_lit 22,o22)::(nat_lit 29,o11)::(nat_lit 30,o30 P)::(nat_lit 31,o31)::(nat_lit 32,o32)::(nat_lit 35,o35)::(nat_lit 42,o11)::(nat_lit 43,o43 P)::(nat_lit 44,o44)::(nat_lit 47,o35)::(nat_lit 54,o11)::(nat_lit 55,o55 P)::(nat_lit 56,o56)::(nat_lit 59,o11)::(nat_lit 61,o61)::(nat_lit 62,o11)::(nat_lit 64,o64)::(nat_lit 65,o65)::(nat_lit 66,o11)::(nat_lit 69,o69)::(nat_lit 70,o70)::(nat_lit 71,o11)::(nat_lit 74,o74)::(nat_lit 75,o75)::(nat_lit 76,o11)::(nat_lit 78,o78)::(nat_lit 79,o11)::(nat_lit 81,o81)::(nat_lit 82,o82)::(nat_lit 83,o11)::(nat_lit 85,o85)::(nat_lit 86,o11)::(nat_lit 88,o88)::(nat_lit 89,o89)::(nat_lit 90,o11)::(nat_lit 93,o93)::(nat_lit 94,o94)::(nat_lit 95,o11)::(nat_lit 97,o97)::(nat_lit 98,o11)::(nat_lit 100,Wdp)::(nat_lit 101,Wdo)::(nat_lit 102,o11)::(nat_lit 105,Wdn)::(nat_lit 106,Wdm)::(nat_lit 107,Wdl)::(nat_lit 108,Wdk P)::(nat_lit 109,o11)::(nat_lit 111,Wdj)::(nat_lit 112,o11)::(nat_lit 114,Wdi)::(nat_lit 115,Wdh)::(nat_lit 116,o11)::(nat_lit 118,Wdg)::(nat_lit 119,o11)::(nat_lit 121,Wdf)::(nat_lit 122,Wde)::(nat_lit 123,o11)::(nat_lit 125,Wdd)::(nat_lit 126,o11)::(nat_lit 128,Wdc)::(nat_lit 129,Wdb)::(nat_lit 130,o11)::(nat_lit 132,Wda)::(nat_lit 133,o11)::(nat_lit 135,Wc9)::(nat_lit 136,Wc8)::(nat_lit 137,o11)::(nat_lit 139,Wc7)::(nat_lit 140,o11)::(nat_lit 142,Wc6)::(nat_lit 143,Wc5)::(nat_lit 144,o11)::(nat_lit 146,Wc4)::(nat_lit 147,o11)::(nat_lit 149,Wc3)::(nat_lit 150,Wc2)::(nat_lit 151,o11)::(nat_lit 153,Wc1)::(nat_lit 154,o11)::(nat_lit 156,Wc0)::(nat_lit 157,Wcz)::(nat_lit 158,o11)::(nat_lit 160,Wcy)::(nat_lit 161,o11)::(nat_lit 163,Wcx)::(nat_lit 164,Wcw)::(nat_lit 165,o11)::(nat_lit 167,Wcv)::(nat_lit 168,o11)::(nat_lit 170,Wcu)::(nat_lit 171,Wct)::(nat_lit 172,o11)::(nat_lit 174,Wcs)::(nat_lit 175,o11)::(nat_lit 177,Wcr)::(nat_lit 178,Wcq)::(nat_lit 186,o11)::(nat_lit 188,Wcp)::(nat_lit 189,o11)::(nat_lit 191,Wco)::(nat_lit 192,Wcn)::(nat_lit 193,o11)::(nat_lit 195,Wcm)::(nat_lit 196,o11)::(nat_lit 198,Wcl)::(nat_lit 199,Wck)::(nat_lit 200,o11)::(nat_lit 202,Wcj)::(nat_lit 203,o11)::(nat_lit 205,Wci)::(nat_lit 206,Wch)::(nat_lit 207,o11)::(nat_lit 209,Wcg)::(nat_lit 210,o11)::(nat_lit 212,Wcf)::(nat_lit 213,Wce)::(nat_lit 214,o11)::(nat_lit 216,Wcd)::(nat_lit 217,o11)::(nat_lit 219,Wcc)::(nat_lit 220,Wcb)::(nat_lit 221,o11)::(nat_lit 223,Wca)::(nat_lit 224,o11)::(nat_lit 226,Wb9)::(nat_lit 227,Wb8)::(nat_lit 228,o11)::(nat_lit 230,Wb7)::(nat_lit 231,o11)::(nat_lit 233,Wb6)::(nat_lit 234,Wb5)::(nat_lit 235,o11)::(nat_lit 237,Wb4)::(nat_lit 238,o11)::(nat_lit 240,Wb3)::(nat_lit 241,Wb2)::(nat_lit 242,o11)::(nat_lit 245,Wb1)::(nat_lit 246,Wb0)::(nat_lit 247,o11)::(nat_lit 250,Wbz)::(nat_lit 251,Wby)::(nat_lit 252,o11)::(nat_lit 254,Wbx)::(nat_lit 255,o11)::(nat_lit 257,Wbw)::(nat_lit 258,Wbv)::(nat_lit 259,Wbu)::(nat_lit 260,Wbt P)::(nat_lit 261,Wbs)::(nat_lit 262,Wbr)::(nat_lit 263,Wbq)::(nat_lit 266,o11)::(nat_lit 269,Wbp)::(nat_lit 270,Wbo)::(nat_lit 271,o11)::(nat_lit 273,Wbn)::(nat_lit 274,o11)::(nat_lit 276,Wbm)::(nat_lit 277,Wbl)::(nat_lit 278,o11)::(nat_lit 281,Wbk)::(nat_lit 282,Wbj)::(nat_lit 283,o11)::(nat_lit 285,Wbi)::(nat_lit 286,o11)::(nat_lit 288,Wbh)::(nat_lit 289,Wbg)::(nat_lit 290,o11)::(nat_lit 292,Wbf)::(nat_lit 293,o11)::(nat_lit 295,Wbe)::(nat_lit 296,Wbd)::(nat_lit 297,o11)::(nat_lit 299,Wbc)::(nat_lit 300,o11)::(nat_lit 302,Wbb)::(nat_lit 303,Wba)::(nat_lit 304,o11)::(nat_lit 307,Wa9)::(nat_lit 308,Wa8)::(nat_lit 309,o11)::(nat_lit 311,Wa7)::(nat_lit 312,o11)::(nat_lit 314,Wa6)::(nat_lit 315,Wa5)::(nat_lit 316,o11)::(nat_lit 318,Wa4)::(nat_lit 319,o11)::(nat_lit 321,Wa3)::(nat_lit 322,Wa2)::(nat_lit 323,o11)::(nat_lit 325,Wa1)::(nat_lit 326,o11)::(nat_lit 328,Wa0)::(nat_lit 329,Waz)::(nat_lit 330,o11)::(nat_lit 333,Wax)::(nat_lit 334,Waw)::(nat_lit 335,o11)::(nat_lit 338,Wav)::(nat_lit 339,Wau)::(nat_lit 340,o11)::(nat_lit 343,Wat)::(nat_lit 344,Was)::(nat_lit 345,o11)::(nat_lit 347,War)::(nat_lit 348,o11)::(nat_lit 350,Waq)::(nat_lit 351,Wap)::(nat_lit 352,o11)::(nat_lit 355,Wao)::(nat_lit 356,Wan)::(nat_lit 357,o11)::(nat_lit 360,Wam)::(nat_lit 361,Wal)::(nat_lit 362,o11)::(nat_lit 364,Wak)::(nat_lit 365,o11)::(nat_lit 367,Waj)::(nat_lit 368,Wai)::(nat_lit 369,o11)::(nat_lit 371,Wah)::(nat_lit 372,o11)::(nat_lit 374,Wag)::(nat_lit 375,Waf)::(nat_lit 376,o11)::(nat_lit 378,Wae)::(nat_lit 379,o11)::(nat_lit 381,Wad)::(nat_lit 382,Wac)::(nat_lit 383,o11)::(nat_lit 385,Wab)::(nat_lit 386,o11)::(nat_lit 388,Waa)::(nat_lit 389,Z9)::(nat_lit 390,o11)::(nat_lit 393,Z8)::(nat_lit 394,Z7)::[]
noncomputable def loose:List Str:=["TAKEN"]
def asK:∀P,as=(K P).map (·.1):=λ_=>by kernel_rfl
def said:PySem.Challenge.rw_spentonce_k24_block_fault.wellSaid=true:=by kernel_rfl
noncomputable abbrev bd:List Stmt:=behindTheImports PySem.Challenge.pw_spentonce_k24_block_fault
noncomputable def env:Env:={scope:=PySem.Challenge.pw_spentonce_k24_block_fault.main.scope,locals:=mainNs,globals:=mainNs,cells:=[],code:=(.ref 13),frame:=some 14}
noncomputable abbrev cd:Code:=.body bd env
def J0g:∀w:World,(λos=>topGo Gx PySem.Challenge.pw_spentonce_k24_block_fault w (nat_lit 11) (some (.ref 6)) (nat_lit 12) ⟨Gk w.params,⟨[]⟩,Ot,O4,os⟩ (topStub PySem.Challenge.pw_spentonce_k24_block_fault))=λos=>some (⟨Jm3 w.params,⟨[]⟩,⟨0,0,0,0⟩,nat_lit 187,os⟩,(⟨denote Gx cd,cd,⟨0,0,0,0⟩,[topFrame ⟨0,0,0,0⟩]⟩:Thread)):=λw=>by kernel_rfl
def Js9:∀w:World,(λos=>Td Gx PySem.Challenge.pw_spentonce_k24_block_fault w (nat_lit 11) (some (.ref 6)) (nat_lit 1) (nat_lit 1) ⟨Jm3 w.params,⟨[]⟩,⟨0,0,0,0⟩,nat_lit 187,os⟩ (blockOf bd env cd ⟨0,0,0,0⟩ [topFrame ⟨0,0,0,0⟩]))=λos=>some (.next,(⟨Jm3 w.params,⟨[]⟩,⟨0,0,0,0⟩,nat_lit 187,os⟩:Shared),cd,(⟨0,0,0,0⟩:Pos)):=λw=>by kernel_rfl
noncomputable def Z0:List Stmt:=(bd.drop 0).take 19
def J0l:∀w:World,(λos=>Td Gx PySem.Challenge.pw_spentonce_k24_block_fault w (nat_lit 11) (some (.ref 6)) (nat_lit 1) (nat_lit 945) ⟨Jm3 w.params,⟨[]⟩,⟨0,0,0,0⟩,nat_lit 187,os⟩ (Rh Z0 env cd ⟨0,0,0,0⟩ [topFrame ⟨0,0,0,0⟩]))=λos=>some (.next,(⟨Jy1 w.params,⟨[]⟩,⟨0,0,0,0⟩,nat_lit 327,os⟩:Shared),cd,(⟨47,0,47,4⟩:Pos)):=λw=>by kernel_rfl
noncomputable def Zz:List Stmt:=(bd.drop 19).take 16
def J0k:∀w:World,(λos=>Td Gx PySem.Challenge.pw_spentonce_k24_block_fault w (nat_lit 11) (some (.ref 6)) (nat_lit 1) (nat_lit 507) ⟨Jy1 w.params,⟨[]⟩,⟨0,0,0,0⟩,nat_lit 327,os⟩ (Rh Zz env cd ⟨47,0,47,4⟩ [topFrame ⟨0,0,0,0⟩]))=λos=>some (.next,(⟨Jy0 w.params,⟨[]⟩,⟨0,0,0,0⟩,nat_lit 460,os⟩:Shared),cd,(⟨132,0,132,4⟩:Pos)):=by
 intro w;rw[<-World.withFollow_self w "special-get-raises"];cases w.params.followText "special-get-raises"<;>kernel_rfl
noncomputable def Zy:List Stmt:=(bd.drop 35).take 17
def J0j:∀w:World,(λos=>Td Gx PySem.Challenge.pw_spentonce_k24_block_fault w (nat_lit 11) (some (.ref 6)) (nat_lit 1) (nat_lit 989) ⟨Jy0 w.params,⟨[]⟩,⟨0,0,0,0⟩,nat_lit 460,os⟩ (Rh Zy env cd ⟨132,0,132,4⟩ [topFrame ⟨0,0,0,0⟩]))=λos=>some (.next,(⟨Jyz w.params,⟨[]⟩,⟨0,0,0,0⟩,nat_lit 695,os⟩:Shared),cd,(⟨308,0,319,56⟩:Pos)):=λw=>by kernel_rfl
noncomputable def Zx:List Stmt:=(bd.drop 52).take 6
def J0i:∀w:World,(λos=>Td Gx PySem.Challenge.pw_spentonce_k24_block_fault w (nat_lit 11) (some (.ref 6)) (nat_lit 1) (nat_lit 177) ⟨Jyz w.params,⟨[]⟩,⟨0,0,0,0⟩,nat_lit 695,os⟩ (Rh Zx env cd ⟨308,0,319,56⟩ [topFrame ⟨0,0,0,0⟩]))=λos=>some (.next,(⟨Jem w.params,⟨[]⟩,⟨0,0,0,0⟩,nat_lit 742,os⟩:Shared),cd,(⟨360,0,385,15⟩:Pos)):=λw=>by kernel_rfl
def J0h:∀w:World,(λos=>topRun Gx PySem.Challenge.pw_spentonce_k24_block_fault w (nat_lit 11) (some (.ref 6)) (nat_lit 2) ⟨Jem w.params,⟨[]⟩,⟨0,0,0,0⟩,nat_lit 742,os⟩ ⟨doneF .next,cd,⟨360,0,385,15⟩,[topFrame ⟨0,0,0,0⟩]⟩)=λos=>some (⟨Jem w.params,⟨[]⟩,⟨0,0,0,0⟩,nat_lit 742,os⟩:Shared):=λw=>by kernel_rfl
def J16:bd=Z0++(Zz++(Zy++(Zx++[]))):=by kernel_rfl
def Jw7(w:World)(os:OsState):topRun Gx PySem.Challenge.pw_spentonce_k24_block_fault w (nat_lit 11) (some (.ref 6)) (nat_lit 2620) ⟨Jm3 w.params,⟨[]⟩,⟨0,0,0,0⟩,nat_lit 187,os⟩ (restOf bd env cd ⟨0,0,0,0⟩ [topFrame ⟨0,0,0,0⟩])=some ⟨Jem w.params,⟨[]⟩,⟨0,0,0,0⟩,nat_lit 742,os⟩:=by
 have h:=P1 (congrFun (J0l w) os) (P1 (congrFun (J0k w) os) (P1 (congrFun (J0j w) os) (P1 (congrFun (J0i w) os) (piece_nil (congrFun (J0h w) os)))));rw[<-J16]at h;exact h
def Wev(w:World)(os:OsState):topRun Gx PySem.Challenge.pw_spentonce_k24_block_fault w (nat_lit 11) (some (.ref 6)) (nat_lit 2633) ⟨Gk w.params,⟨[]⟩,Ot,O4,os⟩ (topStub PySem.Challenge.pw_spentonce_k24_block_fault)=some ⟨Jem w.params,⟨[]⟩,⟨0,0,0,0⟩,nat_lit 742,os⟩:=
 go_top (congrFun (J0g w) os) (piece_block (congrFun (Js9 w) os) (Jw7 w os))
def Wdv(w:World):(λos=>((staticsOk (importedModules PySem.Challenge.pw_spentonce_k24_block_fault.main.body) (Gk w.params) (Jem w.params)&&namesBound PySem.Challenge.pw_spentonce_k24_block_fault (Jem w.params)&&gensDone (⟨Jem w.params,⟨[]⟩,⟨0,0,0,0⟩,nat_lit 742,os⟩:Shared)&&laidKept (Gk w.params) (Jem w.params)),openSeen q loose (importedModules PySem.Challenge.pw_spentonce_k24_block_fault.main.body) (λs:Shared=>xlAt q [] s&&recOk [] s) true (⟨Jem w.params,⟨[]⟩,⟨0,0,0,0⟩,nat_lit 742,os⟩:Shared),(λs:Shared=>as.map s.heap.get?) (⟨Jem w.params,⟨[]⟩,⟨0,0,0,0⟩,nat_lit 742,os⟩:Shared)))=λ_=>(true,openGood q loose,(λw=>(K w.params).map λp=>some p.2) w):=by kernel_rfl
def left:LeftO PySem.Challenge.pw_spentonce_k24_block_fault q loose (λs:Shared=>xlAt q [] s&&recOk [] s) (λs:Shared=>as.map s.heap.get?) (λw=>(K w.params).map λp=>some p.2) 5346:=
 LeftO.of_pieces (boot_open (by kernel_rfl) (by decide) (λ_=>rfl)) (λ_=>by kernel_rfl) Wev (by decide) Wdv
noncomputable def Zi:Stmt->Pos
 |.FunctionDef _ _ _ _ _ _ _ _ _ p=>p
 |_=>⟨0,0,0,0⟩
noncomputable def dL:To:=⟨"law",Ul (top 57),Uk (top 57),defScope (top 57),Zi (top 57)⟩
end K24
open PySem PySem.W PyProof.Rows
set_option maxRecDepth 100000 in
set_option maxHeartbeats 0 in
theorem PySem.Challenge.cw_spentonce_k24_block_fault_holds : PySem.Challenge.rw_spentonce_k24_block_fault.Holds := by
 refine Mi.holds (q:=K24.q) (d:=K24.dL) K24.said K24.asK K24.left (by kernel_rfl) (by kernel_rfl) (by kernel_rfl) (by decide+kernel) ⟨rfl,rfl,rfl,rfl,rfl,by decide+kernel⟩ ?hw ?hc
 (case hw=>w_witness2)
 k_fill
 refine Mi.walk (l:=PySem.Challenge.rw_spentonce_k24_block_fault) (T:=K24.T) (G:=K24.G) (B:=K24.B) (F:=K24.F) (O:=K24.O) (x:="_law_script") (W:=100) (n:=30) rfl rfl (λw h Y=>Y) ⟨rfl,by decide,by decide⟩ rfl (by decide) ⟨_,rfl,rfl⟩ ?X K24.run
 case X=>
  intro w mg h KX hG;refine' K24.txt KX hG ?np ?fe ?be ?cf ?nw ?n0 ?n1 ?m0 ?m1 ?m2 ?m3 ?m4 ?m5 ?m6 ?m7 ?m8 ?zg0 ?zg1 ?zg2 ?zg3 ?zg4 ?zg5 ?zg6 ?zg7
  (case fe=>intro x hx;simp only[K24.FL,List.mem_cons,List.not_mem_nil,or_false]at hx;rcases hx with rfl|rfl|rfl|rfl|rfl|rfl|rfl|rfl|rfl|rfl|rfl|rfl|rfl|rfl|rfl|rfl|rfl|rfl|rfl|rfl|rfl|rfl|rfl|rfl|rfl|rfl|rfl|rfl|rfl|rfl|rfl|rfl|rfl|rfl|rfl|rfl|rfl|rfl|rfl<;>(dsimp only;refine' Mi.J1f ?a ?l ?c ?k;(case a=>k_is);(case l=>k_is);(case c=>k_is);(case k=>k_is)))
  (case np=>kernel_rfl)
  (case be=>intro x hx;simp only[K24.B,List.mem_cons,List.not_mem_nil,or_false]at hx;rcases hx with rfl|rfl|rfl|rfl|rfl|rfl|rfl|rfl|rfl|rfl|rfl|rfl|rfl|rfl|rfl|rfl|rfl<;>(unfold K24.Be;k_is))
  (case cf=>refine' Mi.J1m ?qn ?qp ?qh ?qo ?qs;(case qn=>k_is);(case qp=>k_is);(case qh=>k_is);(case qo=>k_is);(case qs=>k_is))
  (case nw=>refine' Mi.J0z ?qn ?qm ?qk;(case qn=>k_is);(case qm=>k_is);(case qk=>k_is))
  (case n0=>refine' Mi.Jx5 ?qn ?qa;(case qn=>k_is);(case qa=>k_is))
  (case n1=>refine' Mi.Jx5 ?qn ?qa;(case qn=>k_is);(case qa=>k_is))
  (case m0|m1|m2|m3|m4|m5|m6|m7|m8=>refine' Mi.J01 ?qn ?qa ?ql ?qc ?qk ?qi;(case qn=>k_is);(case qa=>k_is);(case ql=>k_is);(case qc=>k_is);(case qk=>k_is);(case qi=>k_is))
  (case zg0=>k_is)
  (case zg1=>refine' Mi.Jui ?a ?l;(case a=>k_is);(case l=>first|rfl|k_is))
  (case zg2=>k_is)
  (case zg3=>refine' Mi.Juh ["height","age","worth","ins","outs"] ?a ?l ?v;(case a=>k_is);(case l=>k_is);(case v=>rfl))
  (case zg4=>k_is)
  (case zg5=>k_is)
  (case zg6=>k_is)
  (case zg7=>k_is)
