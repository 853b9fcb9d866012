import PyProof.Rows.All
import Wide.All
import OpenK.AllK
import Wide.FinOn
import Lean
import PyProof.EqAt
import PyProof.EqKinds
import PyProof.TupleCall
import KE.KRevIter
import PyProof.EnumStmt
import PyProof.EnumFor
import PyProof.EnumMake
import PyProof.Draws
import PyProof.WalksMore
import PyProof.Rows.SeqMore
import KE.KDictList
import KE.KMinKey
import PyProof.WalkInts
import PyProof.Rows.SortShell
import PyProof.Rows.SetFrom
import PyProof.SetRoads
import PyProof.TupleKey
import PyProof.DictRoadsH
import PyProof.IsRules
import PyProof.DictWalks
import KE.KDictOf
import KE.KEqDict
import KE.KSortTup
import KE.KItemsList
import PyProof.AttrMissHeap
import PyProof.ZipIter
import PyProof.ListMulRoad
import PyProof.StrBlock2
import PyProof.NeKinds
import PyProof.ConsumeWalk
import PyProof.SumAny
import PySem.Challenge.RW_spentonce_k23_block_done
set_option autoImplicit true
set_option Elab.async false
set_option linter.all false
set_option maxRecDepth 100000
set_option maxHeartbeats 4000000
open PySem renaming wpAny_bind→Aa,wpAny_pure→Ac,mainGlobals→Ax,Obj→A5,wpAny_call_entry→Bg,wpAny_holding→Bi,Around→Bl,starEach→Bm,wpAny_newObj_type→Br,wpAny_dictEntries→Bs,wpAny_callSpecial?_slot→Bv,wpAny_mono→B4,wpAny_field→B5,DictEntry→B6,wpAny_setField_rec→Co,cLine→C0,foldedSetIterable→C5,codeAny_builtin→De,bootBuiltins→Df,tupleKind_room_in1→Di,wpAny_forIn_list→Dk,wpAny_truthy_bool→Dn,wpAny_dictEpoch→Dt,wpAny_notOrdered_dict→Dv,wpAny_isInstance→Dy,compareOp→Dz,wpAny_seqItems→D6,mem_of_lookup→D7,backTo→D8,wpAny_attempt→El,Params→Er,size_of_entries→E2,NameKind→E3,wpAny_typeNameOfWhole_itemiter→Ff,wpAny_typeNameOfWhole_valiter→Fm,wpAny_typeNameOfWhole_keyiter→Fo,wpAny_typeOf→Fq,wpAny_rule→Fs,codeAny_mono→Ft,assignEach→Fv,wpAny_specialOf→Fz,binaryOp→F0,plainId_quiet→F2,wpAny_pyIter_list→F4,keywordEach→Gf,IsPair→Gg,swapsWith→Gk,codeAny→Gm,wpAny_typeNameOf_itemiter→Gp,atKey→Gq,wpAny_typeNameOf_valiter→Gv,wpAny_typeNameOf_keyiter→Gw,wpAny_Call_Name_kw→G0,treeTable→G3,sizeLine_eq→G4,firstArgMember→He,isSubtype_tuple_tuple→Hj,wpAny_eqBool_int→Hn,behindInMarks→Hr,sliceBounds→Hu,Scope→Hw,FuncData→Hx,wpAny_passesOwn→Ih,letOwnedTupleGo→Ii,wpAny_richCompare_same_room→Iw,wpAny_setField→Jh,wpAny_pyIter_tuple→Ji,backToKw→Jj,Heap→Jr,wpAny_setState_of→Jt,Keyword→Jv,wpAny_Call_method0_late→J2,IsZip→Kc,HeapKind→Ke,wpAny_isOneOf_itemiter→Kn,getItem→Ko,evalArgs_none→Kq,wpAny_loadPart'→Kw,wpAny_isOneOf_valiter→K0,wpAny_fieldsOf→Lc,entry_at→Ld,concat_meets→Le,ZipApart→Lf,Result→Lg,IsPart→Lh,callerA→Ln,noFill_tuple_add→L1,wpAny_standAt→L7,wpAny_newList→L8,setSearchFrom→L9,wpAny_tupleItemsOf→Me,wpAny_load→Mf,wpAny_pyIter_slot→Mu,valueAt→Mv,standAt→Mw,ofAClassStatement→Mx,keyPart→My,call→Mz,atKey_none_of_get→M0,wpAny_comp_letGo→Ni,wpAny_Dict_empty→Nj,seq_tuple_add→Nl,eqIsQuiet→Nm,wpAny_of_eq→Ny,wpAny_letGo→Nz,wpAny_updateSeq→Oc,passOn→Od,Within→Oe,storedH→Oq,wpAny_runValue→O1,wpAny_newTuple→O2,methodCallForm→O3,isSubtype_stop→O4,isInstance→O5,carriedByValue→O6,call_meets→O7,wpAny_onRaise→Pz,wpAny_handled→P0,seqItems?→Qb,field→Qc,bindL→Qd,bindC→Qe,wpAny_pyNext_list_item→Qq,wpAny_Call_method_late→Qr,spliced→Qs,newExc→Qt,call_meetsIn→Qu,wpAny_pyNext_list_end→Q9,wpAny_isOneOf_keyiter→Ra,wpAny_eqIsQuiet_tuple→Rb,wpAny_updateSeq_pair→Rk,wpAny_throw→Rm,wpAny_pyIter_keyiter→Ro,wpAny_loadName_local→Rp,setField→Rq,seqIndex_of→Rr,richCompare→Rt,hashByValue→Ru,bindArgs→Rv,Model→R0,wpAny_loadName_cell→R9,wpAny_dictFind_heap→Sa,wpAny_setItem_heap→Te,wpAny_getItem_heap→Tf,wpAny_eqBool_tuple→Tg,wpAny_call→Th,wpAny_Name→Ti,typeOf→Tj,typeIs_int→Tn,reduceHash→To,getattributeRaised→Tq,closureFor→Ts,builtinsNs→Tt,PlainAttrs→Tx,IsTupleKey→T1,DefRec→T4,wpAny_sequenceKey→Uc,wpAny_pyIter_enum→Ud,wpAny_assign_Name→Ue,slot_list_getitem→Ug,setItem→Uh,searchCouldBeSeen→Ui,BindsTo→Ur
open PySem.Str renaming ofString→Ab,ofString_eq_toList→Pa
open PySem.Heap renaming get?_push_of_some→Ad,get?_push_size→Aj,lt_size→Am,size_push→Cd,get?_update_self→Cp,SameBut→Ct,get?_update_other→Ee,get?_none_of_le→Ki,ExtBut→Mg,get?_push_ne→Qy,IsTuple→Um
open List renaming getElem?_eq_some_iff→Ae,getElem?_eq_getElem→Ag,length_map→Ah,mem_cons→An,getElem?_map→Ao,size_toArray→Ap,getElem?_set_ne→Au,mem_singleton→Av,map_cons→Aw,mem_cons_of_mem→Ay,getElem?_append_left→A0,getElem?_append_right→A1,length_cons→A7,mem_of_getElem?→Ba,not_mem_nil→Bc,mem_map→Bd,length_append→Bf,mem_cons_self→Bn,mem_append→Bt,getElem?_cons_succ→Bu,mem_append_right→By,map_map→B1,range→B7,drop_eq_getElem_cons→Cg,getElem?_set_self→Ci,nodup_cons→Cm,mem_iff_getElem→C2,find?_cons→C6,mem_append_left→C8,lookup_cons→C9,getElem?_cons_zero→Dc,length_singleton→Dr,take_add_one→D2,length_set→D4,map_congr_left→Ec,take_of_length_le→Ef,all_eq_true→Ei,getD_eq_getElem?_getD→Ej,map_append→Es,length_nil→Et,lookup→Ew,length_range→Ex,replicate→E5,getElem?_replicate→E6,filter_cons→E7,any_cons→Fj,mem_iff_getElem?→Fp,map_nil→F5,length_take→F6,pairwise_iff_getElem→Ga,filterMap_cons→Ge,getElem?_take_of_lt→Gj,append_nil→Gn,length_replicate→G8,getElem?_eq_none→G9,take_length→Ha,getElem_mem→Hb,drop_length→Hc,mem_filter→Hk,forIn_cons→Hl,nodup_nil→Ie,findSome?_eq_none_iff→Ig,nodup_append→Iz,length→I8,map_take→Jg,length_drop→Jp,any_toArray→Jq,drop_eq_nil_of_le→Jw,length_filter_le→J1,mem_of_mem_take→Kl,length_pos_iff→Kz,all_cons→K7,pairwise_map→Lv,append_assoc→Lx,any_eq_false→Ly,any_eq_true→Md,of_mem_zip→Ms,map→Nd,getElem?_take_eq_none→Nf,getElem?_zip_eq_some→Nv,extract_eq_take_drop→Nw,map_drop→N9,length_erase_of_mem→Oa,length_eq_zero_iff→Oi,filter_cons_of_pos→Oj,filter_cons_of_neg→Ol,eraseIdx_cons_succ→Om,range_succ_eq_map→Ox,length_pos_of_mem→Oy,filter_eq_nil_iff→Oz,any_map→O0,set_getElem_self→Pg,dropLast_eq_take→Ph,pairwise_append→Pp,mem_erase_of_ne→Pq,getElem?_of_mem→Pu,findSome?_cons→P7,filter_sublist→P8,zip_cons_cons→Qk,pairwise_cons→Ql,mem_filterMap→Qm,filter_append→Qn,take_sublist→Q6,ext_getElem?→Q7,zipIdx_cons→Ri,range'_succ→Rj,zipIdx_nil→R8,mem_range→Sw,forIn_nil→Sx,find?_map→Sy,drop_zero→Sz,sum_cons→T8,map_id'→Uu,all_map→Uv
open PySem.W renaming Frag→Af,nsIn→Bb,keepIn→Cv,findIn→Cw,emptyDict→Dj,fnOf→D9,instObj→Em,codeIn→Fw,kia_one→Gb,boot_heap→Gu,plainGet→G1,hasDictIn→Ib,OpenLaw→Ja,isFn→Jk,makesIn→Jn,lookIn→Jx,plainGet_of→J3,callWith_K0→Ka,mg_of→Kh,plainOver→K1,methodObj→K2,takerIn→L3,WalkO→Ma,cellsFrom_some→Nn,methodCall_KW→N0,callWith_K→O8,boot_drawn→O9,boot_toks→Pk,handedIn→P2,boot_o_2→P4,piece_app→Qf,piecesOf→Rx,InK→Sd,segRun→Tu,XL→Tv
open Nat renaming le_refl→Ai,ne_of_lt→As,lt_of_lt_of_le→Bh,le_trans→Bw,ne_of_gt→Cj,zero_le→Cr,lt_succ_self→Dg,le_of_lt→Eg,lt_irrefl→Eh,sub_self→Ey,lt_trans→Ez,zero_add→Fg,lt_of_le_of_lt→Fh,le_add_right→Hh,add_le_add_left→Ht,sub_zero→H9,lt_or_ge→Ia,lt_trichotomy→Jd,lt_succ_of_lt→Je,le_of_lt_succ→Jf,le_succ→Ks,add_assoc→Lb,succ_pos→L5,le_of_eq→L6,mod_lt→Nu,not_lt→Q5,strongRecOn→Sv
open Option renaming map_eq_some_iff→Ak,isSome_iff_exists→B9,isSome_map→Ep,map_some→Fd,bind_some→G5,bind_eq_some_iff→Nt,isNone_some→Po,getD_none→Qj,map_map→Rh,toList→R7
open Bool renaming and_eq_true→Al,false_eq_true→Ar,false_ne_true→Az,not_true→Dl,or_eq_true→Hm,not_eq_true'→I9,and_false→Km,true_and→K9,eq_iff_iff→Mt,and_self→Ob,or_eq_false_iff→Px,and_eq_true_iff→Py,not_false→Tc,and_true→Ua
open PySem.Value renaming ref→Aq,none→Cf,int→Ds,type→D1,bool→Hv,isInt_shape→Ip,isInt→Iq,str→N1,isStrOf→Se,builtin→Sf,float→Uk,bytes→Ul
open Option.some renaming inj→Bj,injEq→Gh
open Array renaming getElem?_eq_getElem→Bo,length_toList→Bz,mem_toList_iff→C7,getElem?_toList→Dq,forIn_toList→Fc,mem_of_getElem?→Jy,getElem?_eq_none→Oo,toList_extract→Pj,toList_push→Qo,getElem_mem→Qp,isEmpty→Td,toList→Ub
open Function renaming comp_def→Bp
open PySem.SetTable renaming runEnd→Bq,below→Cu,turns→Dh,Probe→Du,insertAt→Dw,bits→E8,advance→Gx,has→Jb,leap→Kb,fill→Ml,fits→Qv
open PySem.Builtin.Int renaming intBits→Bx
open PySem.Builtin.Dict_items renaming ownsTuple→B3,ownedTupleIsFree→Il,ownedTupleFields→Im,pairFromOwner→Jc,newIterator→Jo,dictOf→Kg
open PySem.Builtin.SmallTypes renaming ownedTupleIsFree→B8,nextOf→Cq,ownedTupleHandOut→Ic
open PyProof.Rows renaming slot_tuple_getitem→Cc,callWith_type1→C4,wpS_bind→F1,callWith_builtin1→Gs,wpS_pure→Jm,AllBare→Kr,tail_any→K6,tupleItemsOf_→Mc,envOfC→Mj,entry_list_sort→Oh,slot_list_sort→Ov,setPending→Pe,SortKind→Pf,listUpdate_at→P6,wpS_get→Q0,wpS_forRange→Q1,subscriptTail_builtinR→Q2,IntsAre→Q4,UnaryOp_→Rf,seqEpoch_at→R4,entry_proto_collect'→R5,Call_→R6,entry_tuple_getitem→Sj,args_tuple_getitem→T5,SortSt→T6,arrOf→Us
open PySem.Paired renaming length→Ce,snoc→Tz
open PySem.Builtin.Tuple renaming tupleHashOf→Cy,tupleExact→Fy,tupleItemsOf→G7,tupleIsExact→K3
open PySem.Around renaming under_plainId→Cz,under→N8
open PySem.Heap.SameBut renaming update→C1,refl→Np
open PySem.F renaming slot_dict_itemiterator_next→C3,called_set→Dp,slot_dict_valueiterator_next→Dx,slot_dict_keyiterator_next→Ed,plain_extend_loop→Ek,slot_tuple_iterator_next→F9,plainAttrs_dict→Gi,slot_dict_get→Gy,slot_tuple_hash→G6,slot_tuple_eq→Hy,args_tuple_add_2→Ik,entry_tuple_add→Iy,slot_tuple_add→Jl,slot_list_getattribute→Js,args_dict_itemiterator_next_1→Jz,entry_dict_itemiterator_next→Kf,slot_zip_next→Kj,slot_dict_items_iter→L4,args_dict_valueiterator_next_1→Mh,slot_dict_getitem→Mm,entry_extend_loop→Mo,entry_dict_valueiterator_next→Mp,slot_tuple_index→M1,slot_dict_iter→M2,args_dict_keyiterator_next_1→M3,slot_dict_items→M7,plain_list_iadd→M8,plainAttrs_list→M9,entry_dict_keyiterator_next→Na,args_dict_get_2→Nb,entry_dict_get→Nq,args_tuple_iterator_next_1→Nr,type_dict_get→N5,slot_dict_pop→N6,entry_tuple_iterator_next→N7,slot_dict_ne→Og,slot_list_append→Pb,slot_dict_values→Pc,slot_dict_values_iter→Pm,slot_list_pop→Qh,kt_typeCall_dict_1→Qz,args_dict_init_2→R1,entry_dict_init→Sh,args_zip_next_1→Si,kt_called_dict→T2,entry_zip_next→T3,slot_tuple_lt→Uq
open PySem.Obj renaming mapSeq→Dm,data_mapDictKeys→Hi,data_mapFields→Ij,isFreed_of_fields→Pl,isFreed_of_dict→Qg,putSet→Qw,cls_mapFields→Rc
open False renaming elim→D3
open Int renaming toNat_natCast→D5,lt_of_le_of_lt→Io,toNat_of_nonneg→K8,natCast_nonneg→Lk,lt_of_lt_of_le→Ll,ediv_nonneg→M6,fdiv_eq_ediv_of_nonneg→Nx,natAbs_of_nonneg→Qa,emod_lt_of_pos→Q8,emod_nonneg→Ta,pow_nonneg→T9
open PySem.Builtin.Dict renaming showsAll→Ea,updateFrom→F3,entriesForEmpty→Kx,dictSlotArgs→Li,selfAndRest→Lr,addKeywords→Ls,samePairs→Mb,takeOut→Mq,quietEq→Mr,noArgs→M5
open Ne renaming symm→Eb
open PyProof.Rows.KTD.Dat renaming flat→Eo,At→T7
open PySem.Shared renaming TypeIs→Eu,heap→Ot
open True renaming intro→E1
open Std.Legacy.Range renaming forIn_eq_forIn_range'→E4,size→Hq
open PySem.SeqAt renaming EqAt→E9,RcNeAt→Of,RcAt→P5
open PySem.Calls renaming callWith_builtin→Fb,spliced_cons→Hz,spliced_nil→Iu,Name_function_global→M4,call_function_entry→Nc,evalArgs_plain→Pd
open PySem.Builtin.Slice renaming slicePlaces→Fi,sliceAdjust→Hg,sliceApplied→K4
open ForInStep renaming yield→F7
open Sum renaming inl→F8,inr→Lz
open PyProof.Rows.F renaming plain_set_update_loop→Gz,entry_set_update_loop→Pn
open PySem.NameKind renaming free→G2,cell→Qx
open PySem.SetTable.below renaming go→Hf
open PySem.SetTable.probe renaming go→Ju
open Prod.mk renaming injEq→Kk
open Classical renaming not_not→Kt
open Std.Legacy renaming Range→Ku
open PyProof.Rows.KTD renaming tabLook→Ky,opened_int→Sk,get2_text→Sl,each_nil→Sm,each_miss→Sn,each_hit→So,datLooks→Sq,Each→Ss
open PySem.Builtin.List renaming listExtendWith→K5,listSameRef→Lq
open PySem.SeqAt.EqAt renaming same→La,str_int→N2,of_refs→N3,int_str→N4
open List.Pairwise renaming imp_of_mem→Lj,nil→Ng
open Sum.inl renaming inj→Lm
open PyProof.V.Flat renaming int_inv→Lu
open Char renaming toNat→Nh
open PySem.Code renaming isFrame→Ou,quiet_builtin→Qi
open List.cons renaming injEq→Pw
open PySem.Walks renaming list→P1
open List.Perm renaming cons→P9
open PyProof.Rows.IsTup renaming new→Q3
open PySem.W.KatTups renaming cons→Ry
open PySem.SetTable.Probe.mk renaming injEq→Rz
open PySem.Builtin.Frozenset renaming updateFrom→R3
open PySem.Heap.IsItemsView renaming typeIs→Sg
open Prod renaming ext→Su
open PySem.W.OpenLaw renaming row→Tw
open PySem.W.WShape renaming has→Uj
open PySem.Heap.IsSliceOf renaming new→Uo
open PyProof.Rows.SortSt renaming mk'→Ut
theorem fx9{p:Prop}(h:false=true):p:=absurd h Az
namespace L2
open PySem PySem.Spec PyProof.Rows
abbrev Key:=Sum Int Str
noncomputable def Wy:Key->Value->Bool
 |.inl k,v=>Iq k v
 |.inr x,v=>Se x v
noncomputable def Wfa(w:World):Key->Int
 |.inl k=>hashInt k
 |.inr x=>hashStr w x
theorem Jar:∀{k:Key} {v:Value},Wy k v=true->(∃i t,k=F8 i/\v=Ds i t)\/(∃x t,k=Lz x/\v=N1 x t)
 |.inl i,v,h=>by
  obtain⟨t,e⟩:=Ip (k:=i) (v:=v) h;exact .inl ⟨i,t,rfl,e⟩
 |.inr x,v,h=>by
  obtain⟨t,e⟩:=Value.isStrOf_shape (x:=x) (v:=v) h;exact .inr ⟨x,t,rfl,e⟩
def Jl6(i:Int)(t:Tok):Wy (.inl i) (.int i t)=true:=by simp[Wy,Iq]
def Jl5(x:Str)(t:Tok):Wy (.inr x) (.str x t)=true:=by simp[Wy,Se]
def Jwn(a b:Int):decide ((F8 a:Key)=F8 b)=(a==b):=by
 by_cases e:a=b
 ·subst e;simp
 ·have h:¬(F8 a:Key)=F8 b:=λq=>e (Lm q);rw[decide_eq_false h];exact(beq_eq_false_iff_ne.mpr e).symm
def Jwk(a b:Str):decide ((Lz a:Key)=Lz b)=decide (a=b):=by
 by_cases e:a=b
 ·subst e;simp
 ·have h:¬(Lz a:Key)=Lz b:=λq=>e (Sum.inr.inj q);rw[decide_eq_false h,decide_eq_false e]
def Jwm(a:Int)(b:Str):decide ((F8 a:Key)=Lz b)=false:=decide_eq_false (λq=>nomatch q)
def Jwl(a:Str)(b:Int):decide ((Lz a:Key)=F8 b)=false:=decide_eq_false (λq=>nomatch q)
noncomputable def mixKind(prog:Program)(w:World):PySem.KeyKind prog w Key where
 is:=Wy
 hash:=Wfa w
 inj:=λv a b ha hb=>by
  rcases Jar ha with⟨i,t,rfl,rfl⟩|⟨x,t,rfl,rfl⟩
  ·rcases Jar hb with⟨j,u,rfl,e⟩|⟨y,u,rfl,e⟩
   ·injection e with e1 _;rw[e1]
   ·exact nomatch e
  ·rcases Jar hb with⟨j,u,rfl,e⟩|⟨y,u,rfl,e⟩
   ·exact nomatch e
   ·injection e with e1 _;rw[e1]
 byValue:=λk v h=>by
  rcases Jar h with⟨i,t,rfl,rfl⟩|⟨x,t,rfl,rfl⟩<;>rfl
 pyHash:=λhv h=>by
  rcases Jar hv with⟨i,t,rfl,rfl⟩|⟨x,t,rfl,rfl⟩
  ·exact wpAny_pyHash_int h
  ·exact wpAny_pyHash_str h
 eqBool:=λhu hv h=>by
  rcases Jar hu with⟨i,t,rfl,rfl⟩|⟨x,t,rfl,rfl⟩
  ·rcases Jar hv with⟨j,u,rfl,rfl⟩|⟨y,u,rfl,rfl⟩
   ·rw[Jwn]at h;exact Hn h
   ·rw[Jwm]at h;exact N4 i t y u _ _ _ _ h
  ·rcases Jar hv with⟨j,u,rfl,rfl⟩|⟨y,u,rfl,rfl⟩
   ·rw[Jwl]at h;exact N2 x t j u _ _ _ _ h
   ·rw[Jwk]at h;exact wpAny_eqBool_str h
 «strs»:=λk x t v h=>by
  rcases Jar h with⟨i,u,rfl,e⟩|⟨y,u,rfl,e⟩
  ·exact nomatch e
  ·injection e with e1 _;subst e1;cases v<;>rfl
def Jig(prog:Program)(w:World)(i:Int)(t:Tok):(mixKind prog w).is (.inl i) (.int i t)=true:=Jl6 i t
def Jif(prog:Program)(w:World)(x:Str)(t:Tok):(mixKind prog w).is (.inr x) (.str x t)=true:=Jl5 x t
inductive V where
 |non|bl (b:Bool)|int (i:Int)|str (x:Str)|byt (b:Array UInt8)|flt (b:UInt64)|ref (a:Addr)|ty (n:String)
 deriving DecidableEq
def RelV:V->Value->Prop
 |.non,u=>u=Cf
 |.bl b,u=>u=Hv b
 |.int i,u=>∃t,u=Ds i t
 |.str x,u=>∃t,u=N1 x t
 |.byt b,u=>∃t,u=Ul b t
 |.flt b,u=>∃t,u=Uk b t
 |.ref a,u=>u=Aq a
 |.ty n,u=>u=D1 n
abbrev Vals:List V->List Value->Prop:=Paired RelV
def Vals.length{xs:List V}{us:List Value}(r:Vals xs us):xs.length=us.length:=Ce r
theorem Vals.get:∀{xs:List V} {us:List Value} {i:Nat} {x:V},Vals xs us->xs[i]? =some x->∃u,us[i]? =some u/\RelV x u
 |_,_,_,_,.nil,e=>by simp at e
 |_,_,0,_,.cons r _,e=>by simp at e;subst e;exact⟨_,rfl,r⟩
 |_,_,i+1,x,.cons _ t,e=>by
  obtain⟨u,h1,h2⟩:=Vals.get (i:=i) (x:=x) t (by simpa using e);exact⟨u,by simpa using h1,h2⟩
theorem Vals.set(r:RelV x u):∀{xs:List V} {us:List Value} (i:Nat),Vals xs us->Vals (xs.set i x) (us.set i u)
 |_,_,_,.nil=>.nil
 |_,_,0,.cons _ t=>.cons r t
 |_,_,i+1,.cons q t=>.cons q (Vals.set r i t)
theorem Vals.append:∀{xs ys:List V} {us ws:List Value},Vals xs us->Vals ys ws->Vals (xs++ys) (us++ws)
 |_,_,_,_,.nil,s=>s
 |_,_,_,_,.cons r t,s=>.cons r (Vals.append t s)
theorem Vals.take:∀{xs:List V} {us:List Value} (n:Nat),Vals xs us->Vals (xs.take n) (us.take n)
 |_,_,0,_=>.nil
 |_,_,_+1,.nil=>.nil
 |_,_,n+1,.cons r t=>.cons r (Vals.take n t)
theorem Vals.drop:∀{xs:List V} {us:List Value} (n:Nat),Vals xs us->Vals (xs.drop n) (us.drop n)
 |_,_,0,r=>r
 |_,_,_+1,.nil=>.nil
 |_,_,n+1,.cons _ t=>Vals.drop n t
def RelO:Option V->Option Value->Prop
 |some v,some u=>RelV v u
 |none,none=>True
 |_,_=>False
def KV{κ:Type}:List (κ×V)->List (κ×Value)->Prop:=Paired λ(p:κ×V) (q:κ×Value)=>p.1=q.1/\RelV p.2 q.2
noncomputable def kV:Key->V
 |.inl i=>.int i
 |.inr x=>.str x
inductive HO where
 |lst (xs:List V)
 |tup (xs:List V)
 |dK (kvs:List (Key×V))|dT (kvs:List (List Key×V))
 |set (S:Int->Bool) (n:Nat)
 |ins (C dx:Addr) (fs:List (Str×V))
 |own (x:Addr)
 |xd (fs:List (Str×V))
 |met (f x:Addr)
 |rng (lo hi:Int)
 |frz (o:Obj) (u:HO)
 |tbl (ps:Array Value)
 |ext (φ:Program->World->Heap->Prop)
abbrev Hp:=Addr->Option HO
noncomputable def upd(H:Hp)(a:Addr)(o:HO):Hp:=λb=>if b=a then some o else H b
def Jaf:upd H a o a=some o:=by unfold upd;rw[if_pos rfl]
def Jac(h:b≠a):upd H a o b=H b:=by unfold upd;rw[if_neg h]
def Je1{H:Hp}{a b:Addr}{o u:HO}(h:H a=some o)(h':H b=some u)(d:o≠u):a≠b:=by
 intro e;subst e;rw[h]at h';exact d (Bj h')
def Jak{H:Hp}{a b:Addr}{o:HO}(h:H a=some o)(h':H b=none):a≠b:=by
 intro e;subst e;rw[h]at h';cases h'
section
variable (P:Program) (w:World)
def U1(H:Hp)(h:Heap)(a:Addr):HO->Prop
 |.lst xs=>xs.length<=sizeLine/\∃(its:List Value) (n:Nat),Vals xs its/\h.get? a=some {cls:=.type "list",data:=.seq its.toArray n}
 |.tup xs=>xs.length<=sizeLine/\∃its:List Value,Vals xs its/\IsTup h a its.toArray
 |.dK kvs=>kvs.length<=sizeLine/\(a==sysModules)=false/\∃vs,KV kvs vs/\h.DictOf (mixKind P w) a vs
 |.dT kvs=>kvs.length<=sizeLine/\(a==sysModules)=false/\∃xs:List (List Key×Addr×Value),
   Paired (λ(p:List Key×V) (q:List Key×Addr×Value)=>p.1=q.1/\H q.2.1=some (.tup (p.1.map kV))/\RelV p.2 q.2.2) kvs xs/\
   ∃o es ep,h.get? a=some o/\o.ExactDict/\o.data=.dict es ep/\es.toList=xs.map (entryOfKey (tupleKind (mixKind P w)))/\(xs.map (·.1)).Nodup
 |.set S n=>h.SetOf (intKind P w) a S n
 |.ins C dx fs=>H dx=some (.own a)/\fs.length<=1000/\dx≠a/\h.get? a=some (Em C dx)/\
   ∃mA,h.Ns1 dx mA/\(∀f,RelO (fs.lookup f) (mA f))/\Oe mA (fs.map (·.1))
 |.own _=>∃o,h.get? a=some o
 |.xd fs=>∃mA,h.Ns1 a mA/\∀f,RelO (fs.lookup f) (mA f)
 |.rng lo hi=>∃t u v,h.get? a=some {cls:=.type "range",data:=.fields #[.int lo t,.int hi u,.int 1 v]}
 |.frz o u=>h.get? a=some o/\U1 H h a u
 |.tbl ps=>h.get? a=some {cls:=.none,data:=.fields ps}
 |.met f x=>h.get? a=some (K2 (.ref f) (.ref x))
 |.ext φ=>φ P w h/\(∃o,h.get? a=some o)/\∀h1 h2:Heap,φ P w h1->(∀o,h1.get? a=some o->h2.get? a=some o)->φ P w h2
def HOk(H:Hp)(h:Heap):Prop:=∀a o,H a=some o->U1 P w H h a o
end
section
variable {P:Program} {w:World} {H H':Hp} {h h':Heap} {a:Addr} {o:HO}
theorem U1.lt(x:U1 P w H h a o):a<h.objs.size:=by
 cases o with
 |lst xs=>obtain⟨_,_,_,_,e⟩:=x;exact Am e
 |tup xs=>obtain⟨_,_,_,p⟩:=x;exact p.lt
 |dK kvs=>obtain⟨_,_,_,_,o,_,_,e,_⟩:=x;exact Am e
 |dT kvs=>obtain⟨_,_,_,_,o,_,_,e,_⟩:=x;exact Am e
 |set S n=>obtain⟨o,_,_,_,e,_⟩:=x;exact Am e
 |ins C dx fs=>obtain⟨_,_,_,e,_⟩:=x;exact Am e
 |own y=>obtain⟨_,e⟩:=x;exact Am e
 |xd fs=>obtain⟨_,⟨_,_,_,e,_⟩,_⟩:=x;exact Am e
 |rng lo hi=>obtain⟨_,_,_,e⟩:=x;exact Am e
 |frz ob u=>obtain⟨e,_⟩:=x;exact Am e
 |tbl ps=>exact Am (show h.get? a=some _ from x)
 |met f y=>exact Am (show h.get? a=some _ from x)
 |ext φ=>obtain⟨_,⟨_,e⟩,_⟩:=x;exact Am e
theorem Paired.mapP{α β:Type}{F G:α->β->Prop}:∀{l₁:List α} {l₂:List β},Paired F l₁ l₂->(∀a b,F a b->G a b)->Paired G l₁ l₂
 |_,_,.nil,_=>.nil
 |_,_,.cons r t,f=>.cons (f _ _ r) (Paired.mapP t f)
theorem U1.stay(x:U1 P w H h a o)(k:∀b u,(b=a\/H b=some (.own a))->h.get? b=some u->h'.get? b=some u)
  (ho:∀b,H b=some (.own a)->H' b=some (.own a))(ht:∀b xs,H b=some (.tup xs)->H' b=some (.tup xs)):U1 P w H' h' a o:=by
 induction o with
 |lst xs=>obtain⟨z,its,n,r,e⟩:=x;exact⟨z,its,n,r,k _ _ (.inl rfl) e⟩
 |tup xs=>obtain⟨z,its,r,ob,e,c⟩:=x;exact⟨z,its,r,ob,k _ _ (.inl rfl) e,c⟩
 |dK kvs=>obtain⟨z,y,vs,r,ob,es,ep,e,c⟩:=x;exact⟨z,y,vs,r,ob,es,ep,k _ _ (.inl rfl) e,c⟩
 |dT kvs=>
  obtain⟨z,y,xs,r,ob,es,ep,e,c⟩:=x;exact⟨z,y,xs,Paired.mapP r λp q z=>⟨z.1,ht _ _ z.2.1,z.2.2⟩,ob,es,ep,k _ _ (.inl rfl) e,c⟩
 |set S n=>obtain⟨ob,es,ep,t,e,c⟩:=x;exact⟨ob,es,ep,t,k _ _ (.inl rfl) e,c⟩
 |ins C dx fs=>
  obtain⟨d,z,ne,e,mA,⟨od,es,ep,e2,c⟩,r⟩:=x;exact⟨ho _ d,z,ne,k _ _ (.inl rfl) e,mA,⟨od,es,ep,k _ _ (.inr d) e2,c⟩,r⟩
 |own y=>obtain⟨ob,e⟩:=x;exact⟨ob,k _ _ (.inl rfl) e⟩
 |xd fs=>obtain⟨mA,⟨od,es,ep,e,c⟩,r⟩:=x;exact⟨mA,⟨od,es,ep,k _ _ (.inl rfl) e,c⟩,r⟩
 |rng lo hi=>obtain⟨t,u,v,e⟩:=x;exact⟨t,u,v,k _ _ (.inl rfl) e⟩
 |frz ob u ih=>obtain⟨e,q⟩:=x;exact⟨k _ _ (.inl rfl) e,ih q⟩
 |tbl ps=>
  have e:h.get? a=some {cls:=.none,data:=.fields ps}:=x;show h'.get? a=some {cls:=.none,data:=.fields ps};exact k a _ (.inl rfl) e
 |met f y=>
  have e:h.get? a=some (K2 (.ref f) (.ref y)):=x;show h'.get? a=some (K2 (.ref f) (.ref y));exact k a _ (.inl rfl) e
 |ext φ=>obtain⟨p,⟨o,e⟩,st⟩:=x;exact⟨st _ _ p λo q=>k _ _ (.inl rfl) q,⟨o,k _ _ (.inl rfl) e⟩,st⟩
def HOk.lt(x:HOk P w H h)(e:H a=some o):a<h.objs.size:=(x a o e).lt
theorem HOk.fresh(x:HOk P w H h)(e:h.objs.size<=a):H a=none:=by
 cases q:H a with
 |none=>rfl
 |some u=>exact absurd (Bh (x.lt q) e) (Eh _)
def HOk.kept(x:HOk P w H h)(k:∀b u,h.get? b=some u->h'.get? b=some u):HOk P w H h':=λa o e=>
 (x a o e).stay (λb u _ q=>k b u q) (λ_ q=>q) λ_ _ q=>q
def HOk.laid(x:HOk P w H h)(k:∀b u,h.get? b=some u->h'.get? b=some u)(hp:h.objs.size<=a)(new:U1 P w (upd H a o) h' a o):HOk P w (upd H a o) h':=λb u e=>by
 have hn:=x.fresh hp
 by_cases hb:b=a
 ·subst hb;rw[Jaf]at e;cases e;exact new
 ·rw[Jac hb]at e;exact(x b u e).stay (λc v _ q=>k c v q) (λc q=>by rw[Jac (Jak q hn)];exact q) λc xs q=>by rw[Jac (Jak q hn)];exact q
end
def Rd(H:Hp)(a:Addr)(u:HO):Prop:=H a=some u\/∃o,H a=some (.frz o u)
def Rd.of(h:H a=some u):Rd H a u:=.inl h
def Rd.ok(r:Rd H a u)(x:HOk P w H h):U1 P w H h a u:=by
 rcases r with r|⟨o,r⟩
 ·exact x a u r
 ·obtain⟨_,q⟩:=x a _ r;exact q
def Mut:Option HO->Prop
 |some (.lst _)=>True
 |some (.dK _)=>True
 |some (.dT _)=>True
 |some (.set _ _)=>True
 |some (.ins _ _ _)=>True
 |some (.ext _)=>True
 |_=>False
section
variable {P:Program} {w:World} {H:Hp} {h h':Heap} {x e:Addr} {o':HO}
theorem HOk.write(ok:HOk P w H h)(mu:Mut (H x))(he:e=x\/H e=some (.own x))(k:∀b u,b≠e->h.get? b=some u->h'.get? b=some u)(heo:∃u,h'.get? e=some u)
  (new:U1 P w (upd H x o') h' x o'):HOk P w (upd H x o') h':=λb u q=>by
 have nown:∀c y,H c=some (.own y)->c≠x:=λc y r z=>by subst z;rw[r]at mu;exact mu
 have ntup:∀c xs,H c=some (.tup xs)->c≠x:=λc xs r z=>by subst z;rw[r]at mu;exact mu
 by_cases hb:b=x
 ·subst hb;rw[Jaf]at q;cases q;exact new
 ·rw[Jac hb]at q
  by_cases hbe:b=e
  ·have q':H b=some (.own x):=by
    rcases he with z|z
    ·exact absurd (hbe.trans z) hb
    ·rw[hbe];exact z
   rw[q]at q';cases q';obtain⟨v,hv⟩:=heo;exact⟨v,by rw[hbe];exact hv⟩
  ·refine(ok b u q).stay (λc v hc r=>k c v ?_ r) (λc r=>by rw[Jac (nown c b r)];exact r) λc xs r=>by rw[Jac (ntup c xs r)];exact r
   rcases hc with rfl|hc
   ·exact hbe
   ·rintro rfl;rcases he with z|z
    ·exact nown c b hc z
    ·rw[hc]at z;cases z;exact hb rfl
end
structure Un(fs ex:List Addr)(H H':Hp)(h h':Heap):Prop where
 keep:∀b o,h.get? b=some o->H b=none->b∉fs->b∉ex->h'.get? b=some o
 slot:∀b o,h.get? b=some o->H b=none->b∈fs->b∉ex->∃sl,h'.get? b=some {o with slots:=sl}
 free:∀b o,h.get? b=some o->H b=none->b∉ex->H' b=none
 there:∀b o,h.get? b=some o->b∉ex->∃o',h'.get? b=some o'
 tups:∀b xs,H b=some (.tup xs)->H' b=some (.tup xs)
 frzs:∀b o u,H b=some (.frz o u)->H' b=some (.frz o u)
 tbls:∀b ps,H b=some (.tbl ps)->∃more,H' b=some (.tbl (ps++more))
section
variable {fs fs' ex ex':List Addr} {H H1 H2:Hp} {h h1 h2 h':Heap} {a x e:Addr} {o:HO}
def Un.any(u:Un fs ex H H1 h h1)(q:h.get? b=some ob)(n:H b=none)(hx:b∉ex):∃sl,h1.get? b=some {ob with slots:=sl}:=by
 by_cases hb:b∈fs
 ·exact u.slot b ob q n hb hx
 ·exact⟨ob.slots,u.keep b ob q n hb hx⟩
def Un.kept(k:∀b u,h.get? b=some u->h'.get? b=some u):Un fs ex H H h h':=
 ⟨λb ob q _ _ _=>k b ob q,λb ob q _ _ _=>⟨ob.slots,k b ob q⟩,λ_ _ _ n _=>n,λb ob q _=>⟨ob,k b ob q⟩,λ_ _ q=>q,λ_ _ _ q=>q,λ_ ps q=>⟨#[],by rw[q];simp⟩⟩
def Un.refl:Un fs ex H H h h:=Un.kept λ_ _ q=>q
def Un.laid(k:∀b u,h.get? b=some u->h'.get? b=some u)(hp:h.objs.size<=a)(hn:H a=none):Un fs ex H (upd H a o) h h' where
 keep:=λb u q _ _ _=>k b u q
 slot:=λb u q _ _ _=>⟨u.slots,k b u q⟩
 free:=λb u q n _=>by rw[Jac (As (Bh (Am q) hp))];exact n
 there:=λb u q _=>⟨u,k b u q⟩
 tups:=λb xs q=>by rw[Jac (Jak q hn)];exact q
 frzs:=λb u xs q=>by rw[Jac (Jak q hn)];exact q
 tbls:=λb ps q=>⟨#[],by rw[Jac (Jak q hn),q];simp⟩
def Un.write(mu:Mut (H x))(he:e=x\/H e=some (.own x))(k:∀b u,b≠e->h.get? b=some u->h'.get? b=some u)(heo:∃u,h'.get? e=some u):Un fs ex H (upd H x o) h h':=by
 have hx:∀b,H b=none->b≠x:=λb n z=>by subst z;rw[n]at mu;exact mu
 have hb:∀b,H b=none->b≠e:=λb n z=>by
  subst z;rcases he with r|r
  ·exact hx b n r
  ·rw[n]at r;cases r
 have hm:∀b u,H b=some u->¬Mut (some u)->b≠x:=λb u q nm z=>by subst z;rw[q]at mu;exact nm mu
 refine⟨λb u q n _ _=>k b u (hb b n) q,λb u q n _ _=>⟨u.slots,k b u (hb b n) q⟩,λb u q n _=>by rw[Jac (hx b n)];exact n,λb u q _=>?_,
  λb xs q=>by rw[Jac (hm b _ q λz=>z)];exact q,λb u xs q=>by rw[Jac (hm b _ q λz=>z)];exact q,λb ps q=>⟨#[],by rw[Jac (hm b _ q λz=>z),q];simp⟩⟩
 by_cases hbe:b=e
 ·subst hbe;exact heo
 ·exact⟨u,k b u hbe q⟩
end
noncomputable def trk(h:Heap)(H:Hp):List Addr:=(B7 h.objs.size).filter λa=>(H a).isSome
noncomputable def W3(h:Heap)(H:Hp):Heap:=PySem.W.hideAll h (trk h H)
def Jmi(h:Heap)(H:Hp):(W3 h H).objs.size=h.objs.size:=PySem.W.hideAll_size _ _
def Jo4{h:Heap}(e:h.get? b=some o)(n:H b=none):(W3 h H).get? b=some o:=
 PySem.W.hideAll_get _ e λhm=>by
  have q:(H b).isSome=true:=(Hk.mp hm).2;rw[n]at q;simp at q
theorem Jsx{h:Heap}(e:(W3 h H).get? b=some o):h.get? b=some o/\H b=none:=by
 have e':h.get? b=some o:=PySem.W.of_hideAll (trk h H) e;refine⟨e',?_⟩;cases q:H b with
 |none=>rfl
 |some x=>
  have hm:b∈trk h H:=Hk.mpr ⟨Sw.mpr (Am e'),by simp[q]⟩;have z:(W3 h H).get? b=none:=PySem.W.hideAll_none (trk h H) hm;rw[z]at e;cases e
structure Mod(K:Af)(mg:Str->Option Value)(base:Heap):Prop where
 kin:K.In base
 glob:base.Ns Ax mg
 blt:∃mb,base.Ns Tt mb/\∀x:Str,x≠"__name__"->mb x=Df x
 nolimit:base.NoLimit
structure Cx where
 prog:Program
 w:World
 K:Af
 mg:Str->Option Value
 base:Heap
 A:Bl
 N:List Str
 s₀:Shared
 H₀:Hp
 env:Env
 outer:List Env
 stack:List Env
 ex:List Addr
 fn:Str->Bool
 calm:Bool
 pn:List (Addr×Obj)
 xe:Value->Shared->Prop
noncomputable def frs(l:List Env):List Addr:=l.filterMap (·.frame)
noncomputable abbrev Cx.fs(X:Cx):List Addr:=frs X.outer
def Vis(sc:Hw)(x:Str):Prop:=sc.names.lookup x=some .local\/sc.names.lookup x=some .cell\/sc.names.lookup x=some .free
def Loc(sc:Hw)(x:Str):Prop:=sc.names.lookup x=some .local\/sc.names.lookup x=some .cell
def Look(env:Env)(h:Heap)(m:Str->Option Value)(x:Str)(u:Value):Prop:=
 (env.kindOf x=some .local/\m x=some u)\/((env.kindOf x=some .cell\/env.kindOf x=some .free)/\∃c,env.cells.lookup x=some c/\h.IsCell c (some u))
structure Cx.Ok(X:Cx):Prop where
 mod:Mod X.K X.mg X.base
 kind:X.env.scope.kind=.function
 glob:X.env.globals=Ax
 blt:X.env.builtins=Tt
 above:X.s₀.heap.objs.size<=X.env.locals
 inj:∀x y c,X.env.cells.lookup x=some c->X.env.cells.lookup y=some c->x=y
 has:∀x,(X.env.kindOf x=some .cell\/X.env.kindOf x=some .free)->∃c,X.env.cells.lookup x=some c
 cab:∀x c,X.fn x=true->X.env.cells.lookup x=some c->X.s₀.heap.objs.size<=c
 hd:X.calm=true->X.A.handled=none
 frames:X.A.frames=some X.stack
 stk:X.stack=X.outer\/(X.stack=X.env::X.outer/\X.env.frame=some X.env.locals)
 exf:∀b∈X.ex,b≠X.env.locals/\∀x c,X.env.cells.lookup x=some c->c≠b
 bs:∀b o,X.base.get? b=some o->X.s₀.heap.get? b=some o/\X.H₀ b=none
 bsz:X.base.objs.size<=X.s₀.heap.objs.size
 noex:∀b o,X.base.get? b=some o->b∉X.ex
 exfs:∀b∈X.ex,b∉X.fs
 funs:X.s₀.heap.FunFrames X.base X.outer
 frf:∀b∈X.fs,X.H₀ b=none
structure Inv(X:Cx)(pins:List (Addr×Obj))(U:List (Option V))(H:Hp)(s:Shared):Prop where
 ok:X.Ok
 os:s.os=X.s₀.os
 bare:Kr s.gens
 base:Un X.fs X.ex X.H₀ H X.s₀.heap s.heap
 loc:∃m,s.heap.Ns X.env.locals m/\∀(i:Nat) (x:Str) (v:V),X.N[i]? =some x->U[i]? =some (some v)->Vis X.env.scope x->∃u,RelV v u/\Look X.env s.heap m x u
 cell:∀x c,X.env.cells.lookup x=some c->∃v,s.heap.IsCell c v
 free:H X.env.locals=none
 freeC:∀x c,X.env.cells.lookup x=some c->H c=none
 pin:∀p∈X.pn++pins,s.heap.get? p.1=some p.2/\H p.1=none/\p.1≠X.env.locals/\p.1∉X.fs/\∀v,p.2.data≠ .cell v
 hok:HOk X.prog X.w H s.heap
 len:U.length=X.N.length
section
variable {X:Cx} {pins:List (Addr×Obj)} {U:List (Option V)} {H H':Hp} {s:Shared} {h':Heap}
def Cx.Ok.nofr(ok:X.Ok)(e:X.base.get? b=some o):b∉X.fs:=λhb=>by
 have:=(ok.funs.mem hb).1;rw[e]at this;cases this
def Inv.bs(I:Inv X pins U H s):∀b o,X.base.get? b=some o->s.heap.get? b=some o/\H b=none:=λb o e=>
 ⟨I.base.keep b o (I.ok.bs b o e).1 (I.ok.bs b o e).2 (I.ok.nofr e) (I.ok.noex b o e),I.base.free b o (I.ok.bs b o e).1 (I.ok.bs b o e).2 (I.ok.noex b o e)⟩
def Inv.bk(I:Inv X pins U H s):∀b o,X.base.get? b=some o->s.heap.get? b=some o:=λb o e=>(I.bs b o e).1
def Inv.mod(I:Inv X pins U H s):Mod X.K X.mg X.base:=I.ok.mod
def Inv.kIn(I:Inv X pins U H s):X.K.In s.heap:=I.ok.mod.kin.keeps I.bk
def Inv.lt(I:Inv X pins U H s):X.env.locals<s.heap.objs.size:=let⟨_,hn,_⟩:=I.loc;hn.lt
def Inv.sz(I:Inv X pins U H s):X.s₀.heap.objs.size<=s.heap.objs.size:=Bw I.ok.above (Eg I.lt)
def Inv.nofs(I:Inv X pins U H s)(h:s.heap.objs.size<=a):a∉X.fs:=λhb=>by
 obtain⟨_,o,ho,_⟩:=I.ok.funs.mem hb;exact absurd (Bh (Am ho) (Bw I.sz h)) (Eh _)
def Inv.cne(I:Inv X pins U H s):∀x c,X.env.cells.lookup x=some c->c≠X.env.locals:=λx c e z=>by
 obtain⟨v,o,ho,hd⟩:=I.cell x c e;obtain⟨m,⟨o',es,ep,ho',hd',_⟩,_⟩:=I.loc;rw[z,ho']at ho;cases ho;rw[hd']at hd;cases hd
def Inv.funs(I:Inv X pins U H s):s.heap.FunFrames X.base X.outer:=by
 have all:∀(l:List Env),(∀b∈frs l,b∈X.fs)->X.s₀.heap.FunFrames X.base l->s.heap.FunFrames X.base l:=by
  intro l
  induction l with
  |nil=>intro _ _;trivial
  |cons env r ih=>
   intro hs hl;obtain⟨hk,⟨L,o,hf,hn,ho,hd⟩,hr⟩:=hl;have hL:L∈X.fs:=hs L (by unfold frs;rw[Ge,hf];exact Bn);obtain⟨sl,e⟩:=I.base.slot L o ho (I.ok.frf L hL) hL λz=>I.ok.exfs L z hL;exact⟨hk,⟨L,_,hf,hn,e,hd⟩,ih (λb hb=>hs b (by unfold frs;rw[Ge,hf];exact Ay _ hb)) hr⟩
 exact all X.outer (λ_ hb=>hb) I.ok.funs
def Inv.stack(I:Inv X pins U H s):s.heap.FunFrames X.base X.stack:=by
 rcases I.ok.stk with e|⟨e,hf⟩
 ·rw[e];exact I.funs
 ·rw[e];obtain⟨m,hn,_⟩:=I.loc;refine .cons (by rw[I.ok.kind];decide) hf hn ?_ I.funs;exact Ki (Bw I.ok.bsz I.ok.above)
def Inv.stkSub(I:Inv X pins U H s):∀b∈frs X.stack,b∈X.env.locals::X.fs:=λb hb=>by
 rcases I.ok.stk with e|⟨e,hf⟩
 ·rw[e]at hb;exact Ay _ hb
 ·rw[e]at hb;unfold frs at hb;rw[Ge,hf]at hb;exact hb
def Inv.stkFree(I:Inv X pins U H s):∀b∈frs X.stack,H b=none:=λb hb=>by
 rcases An.mp (I.stkSub b hb)with e|hb
 ·rw[e];exact I.free
 ·obtain⟨_,o,ho,_⟩:=I.ok.funs.mem hb;exact I.base.free b o ho (I.ok.frf b hb) λz=>I.ok.exfs b z hb
def Inv.step{ch:List Addr}(I:Inv X pins U H s)
  (hch:∀b∈ch,(b∈X.ex\/X.s₀.heap.objs.size<=b)/\b≠X.env.locals/\(∀x c,X.env.cells.lookup x=some c->c≠b)/\∀p∈X.pn++pins,p.1≠b)
  (keep:∀b o,b≠X.env.locals->b∉X.fs->b∉ch->s.heap.get? b=some o->H b=none->h'.get? b=some o)
  (slot:∀b o,b≠X.env.locals->b∈X.fs->b∉ch->s.heap.get? b=some o->H b=none->∃sl,h'.get? b=some {o with slots:=sl})(free:∀b o,b∉ch->s.heap.get? b=some o->H b=none->H' b=none)
  (there:∀b o,b∉ch->s.heap.get? b=some o->∃o',h'.get? b=some o')
  (tups:∀b xs,H b=some (.tup xs)->H' b=some (.tup xs))(frzs:∀b o u,H b=some (.frz o u)->H' b=some (.frz o u))(tbls:∀b ps,H b=some (.tbl ps)->∃more,H' b=some (.tbl (ps++more)))
  (ns:∀m,s.heap.Ns X.env.locals m->h'.Ns X.env.locals m)(hok:HOk X.prog X.w H' h')(hg:Kr g'):
  Inv X pins U H' {s with heap:=h',gens:=g',drawn:=d',toks:=t'}:=by
 have neL:∀b o,X.s₀.heap.get? b=some o->b≠X.env.locals:=λb o e=>As (Bh (Am e) I.ok.above);have neC:∀b o,X.s₀.heap.get? b=some o->b∉X.ex->b∉ch:=λb o e hx hb=>by
  rcases(hch b hb).1 with z|z
  ·exact hx z
  ·exact absurd (Bh (Am e) z) (Eh _)
 have cellK:∀x c,X.env.cells.lookup x=some c->∀v,s.heap.IsCell c v->h'.IsCell c v:=λx c e v ⟨o,ho,hd⟩=>by
  have nch:c∉ch:=λz=>(hch c z).2.2.1 x c e rfl
  by_cases hc:c∈X.fs
  ·obtain⟨sl,q⟩:=slot c o (I.cne x c e) hc nch ho (I.freeC x c e);exact⟨_,q,hd⟩
  ·exact⟨o,keep c o (I.cne x c e) hc nch ho (I.freeC x c e),hd⟩
 refine⟨I.ok,I.os,hg,⟨λb o e n hb hx=>?_,λb o e n hb hx=>?_,λb o e n hx=>?_,λb o e hx=>?_,λb xs e=>tups b xs (I.base.tups b xs e),λb o xs e=>frzs b o xs (I.base.frzs b o xs e),λb ps e=>?_⟩,?_,λx c e=>?_,?_,λx c e=>?_,λp hp=>?_,hok,I.len⟩
 ·exact keep b o (neL b o e) hb (neC b o e hx) (I.base.keep b o e n hb hx) (I.base.free b o e n hx)
 ·obtain⟨sl,e1⟩:=I.base.slot b o e n hb hx;obtain⟨sl',e2⟩:=slot b _ (neL b o e) hb (neC b o e hx) e1 (I.base.free b o e n hx);exact⟨sl',e2⟩
 ·obtain⟨o',e1⟩:=I.base.there b o e hx;exact free b o' (neC b o e hx) e1 (I.base.free b o e n hx)
 ·obtain⟨o',e1⟩:=I.base.there b o e hx;exact there b o' (neC b o e hx) e1
 ·obtain⟨m1,e1⟩:=I.base.tbls b ps e;obtain⟨m2,e2⟩:=tbls b _ e1;exact⟨m1++m2,by rw[e2,Array.append_assoc]⟩
 ·obtain⟨m,hn,hl⟩:=I.loc;refine⟨m,ns m hn,λi x v e1 e2 e3=>?_⟩;obtain⟨u,r,l⟩:=hl i x v e1 e2 e3;refine⟨u,r,?_⟩;rcases l with l|⟨k,c,e,z⟩
  ·exact .inl l
  ·exact .inr ⟨k,c,e,cellK x c e _ z⟩
 ·obtain⟨v,z⟩:=I.cell x c e;exact⟨v,cellK x c e v z⟩
 ·obtain⟨m,⟨o,_,_,ho,_⟩,_⟩:=I.loc;exact free _ o (λz=>(hch _ z).2.1 rfl) ho I.free
 ·obtain⟨v,o,ho,hd⟩:=I.cell x c e;exact free c o (λz=>(hch c z).2.2.1 x c e rfl) ho (I.freeC x c e)
 ·obtain⟨e,n,ne,nf,d⟩:=I.pin p hp;have nch:p.1∉ch:=λz=>(hch p.1 z).2.2.2 p hp rfl;exact⟨keep p.1 p.2 ne nf nch e n,free p.1 p.2 nch e n,ne,nf,d⟩
def Inv.un(I:Inv X pins U H s)(u:Un X.fs [] H H' s.heap h')(hok:HOk X.prog X.w H' h'):Inv X pins U H' {s with heap:=h',toks:=t'}:=by
 obtain⟨m,⟨o,es,ep,ho,r⟩,_⟩:=id I.loc;obtain⟨sl,hL⟩:=u.any ho I.free (by simp);exact I.step (g':=s.gens) (d':=s.drawn) (ch:=[]) (λ_ z=>nomatch z) (λb o _ hb _ e n=>u.keep b o e n hb (by simp)) (λb o _ hb _ e n=>u.slot b o e n hb (by simp)) (λb o _ e n=>u.free b o e n (by simp)) (λb o _ e=>u.there b o e (by simp)) u.tups u.frzs u.tbls (λm' hm=>by
  obtain⟨o',es',ep',ho',r'⟩:=hm;rw[ho]at ho';cases ho';exact⟨_,es',ep',hL,r'⟩) hok I.bare
def Inv.call(I:Inv X pins U H s)(u:Un (frs X.stack) ch H H' s.heap h')(hok:HOk X.prog X.w H' h')(hg:Kr g')
  (hch:∀b∈ch,(b∈X.ex\/X.s₀.heap.objs.size<=b)/\b≠X.env.locals/\(∀x c,X.env.cells.lookup x=some c->c≠b)/\∀p∈X.pn++pins,p.1≠b):
  Inv X pins U H' {s with heap:=h',gens:=g',drawn:=d',toks:=t'}:=by
 obtain⟨m,⟨o,es,ep,ho,r⟩,_⟩:=id I.loc;obtain⟨sl,hL⟩:=u.any ho I.free λz=>(hch _ z).2.1 rfl;exact I.step (ch:=ch) hch (λb o hL hb hc e n=>u.keep b o e n (λz=>(An.mp (I.stkSub b z)).elim hL hb) hc) (λb o _ _ hc e n=>u.any e n hc) (λb o hc e n=>u.free b o e n hc) (λb o hc e=>u.there b o e hc) u.tups u.frzs u.tbls (λm' hm=>by
  obtain⟨o',es',ep',ho',r'⟩:=hm;rw[ho]at ho';cases ho';exact⟨_,es',ep',hL,r'⟩) hok hg
def Inv.turned(I:Inv X pins U H s)(k:∀b o,b≠it->s.heap.get? b=some o->h'.get? b=some o)(hn:H it=none)(hL:it≠X.env.locals)
  (h1:it∈X.ex\/X.s₀.heap.objs.size<=it)(h2:∀x c,X.env.cells.lookup x=some c->c≠it)(h3:∀p∈X.pn++pins,p.1≠it):Inv X pins U H {s with heap:=h',toks:=t'}:=by
 have nit:∀b u,H b=some u->b≠it:=λb u e z=>by rw[z,hn]at e;cases e
 refine I.step (g':=s.gens) (d':=s.drawn) (ch:=[it]) (λb hb=>?_) (λb o _ _ hc e _=>k b o (λz=>hc (by simp[z])) e) (λb o _ _ hc e _=>⟨o.slots,k b o (λz=>hc (by simp[z])) e⟩) (λ_ _ _ _ n=>n)
  (λb o hc e=>⟨o,k b o (λz=>hc (by simp[z])) e⟩) (λ_ _ e=>e) (λ_ _ _ e=>e) (λb ps e=>⟨#[],by rw[e];simp⟩) (λm hm=>?_) (λb u e=>?_) I.bare
 ·have e:b=it:=by simpa using hb
  subst e;exact⟨h1,hL,h2,h3⟩
 ·obtain⟨o,es,ep,ho,r⟩:=hm;exact⟨o,es,ep,k _ o (Eb hL) ho,r⟩
 ·refine(I.hok b u e).stay (λc v hc q=>k c v ?_ q) (λ_ q=>q) λ_ _ q=>q;rcases hc with z|z
  ·rw[z];exact nit b u e
  ·exact nit c _ z
def Inv.tok(I:Inv X pins U H s)(t:Nat):Inv X pins U H {s with toks:=t}:=I.un (h':=s.heap) (t':=t) Un.refl I.hok
def Inv.kept(I:Inv X pins U H s)(k:∀b u,s.heap.get? b=some u->h'.get? b=some u):Inv X pins U H {s with heap:=h',toks:=t'}:=I.un (Un.kept k) (I.hok.kept k)
def Inv.laid(I:Inv X pins U H s)(k:∀b u,s.heap.get? b=some u->h'.get? b=some u)(hp:s.heap.objs.size<=a)(new:U1 X.prog X.w (upd H a o) h' a o):
  Inv X pins U (upd H a o) {s with heap:=h',toks:=t'}:=I.un (Un.laid k hp (I.hok.fresh hp)) (I.hok.laid k hp new)
def Inv.write(I:Inv X pins U H s)(mu:Mut (H x))(he:e=x\/H e=some (.own x))(k:∀b u,b≠e->s.heap.get? b=some u->h'.get? b=some u)(heo:∃u,h'.get? e=some u)
  (new:U1 X.prog X.w (upd H x o) h' x o):Inv X pins U (upd H x o) {s with heap:=h',toks:=t'}:=I.un (Un.write mu he k heo) (I.hok.write mu he k heo new)
def Inv.pins_of{pins':List (Addr×Obj)}(I:Inv X pins U H s)(h:∀p∈pins',s.heap.get? p.1=some p.2/\H p.1=none/\p.1≠X.env.locals/\p.1∉X.fs/\∀v,p.2.data≠ .cell v):Inv X pins' U H s:=
 ⟨I.ok,I.os,I.bare,I.base,I.loc,I.cell,I.free,I.freeC,λp hp=>(Bt.mp hp).elim (λz=>I.pin p (C8 _ z)) (h p),I.hok,I.len⟩
def Jja{N:List Str}(hN:N.Nodup){i j:Nat}{x:Str}(a:N[i]? =some x)(b:N[j]? =some x):i=j:=by
 obtain⟨h1,e1⟩:=Ae.mp a;obtain⟨h2,e2⟩:=Ae.mp b;exact(List.getElem_inj hN).mp (e1.trans e2.symm)
def Jgy{M:R0}{A:Bl}{E:Value->Shared->Prop}{i:Nat}{x:Str}{v:V}{u:Value}{Q:Unit->Shared->Prop}(I:Inv X pins U H s)(hN:X.N.Nodup)(hi:X.N[i]? =some x)(hx:Loc X.env.scope x)(r:RelV v u)
  (h:∀s',Inv X pins (U.set i (some v)) H s'->(∃a,Ct a s.heap s'.heap/\(a=X.env.locals\/X.env.cells.lookup x=some a))->Q () s')(hf:X.fn x=true\/X.env.scope.names.lookup x=some .local:=by first|exact .inl rfl|exact .inr rfl|assumption):wpAny M A (storeName X.env x u) Q E s:=by
 obtain⟨m,hn,hl⟩:=id I.loc;have hcls:(X.env.scope.kind== .class||(X.env.scope.kind== .module&&X.env.locals !=X.env.globals))=false:=by rw[I.ok.kind];rfl
 have hiσ:i<U.length:=by rw[I.len];exact(Ae.mp hi).1
 have cne:=I.cne;have tracked:∀{a:Addr} {h':Heap},(∃o,s.heap.get? a=some o/\H a=none)->Ct a s.heap h'->HOk X.prog X.w H h':=λ{a h'} ha hs b ob e=>by
  obtain⟨_,_,hfree⟩:=ha;refine(I.hok b ob e).stay (λc w' hc q=>(hs.2 c ?_).trans q) (λ_ q=>q) λ_ _ q=>q;rintro rfl;rcases hc with rfl|hc
  ·rw[hfree]at e;cases e
  ·rw[hfree]at hc;cases hc
 rcases hx with hk|hk
 ·refine wpAny_storeName_local hk hn (λh' hn' hs=>?_) hcls;obtain⟨oL,_,_,hoL,_⟩:=id hn;refine h _ ⟨I.ok,I.os,I.bare,⟨λb o e n hb hx=>?_,λb o e n hb hx=>?_,I.base.free,λb o e hx=>?_,I.base.tups,I.base.frzs,I.base.tbls⟩,⟨_,hn',λj y v' e1 e2 e3=>?_⟩,λy c e=>?_,I.free,I.freeC,λp hp=>?_,tracked ⟨oL,hoL,I.free⟩ hs,by simpa using I.len⟩ ⟨_,hs,.inl rfl⟩
  ·exact(hs.2 b (As (Bh (Am e) I.ok.above))).trans (I.base.keep b o e n hb hx)
  ·obtain⟨sl,e1⟩:=I.base.slot b o e n hb hx;exact⟨sl,(hs.2 b (As (Bh (Am e) I.ok.above))).trans e1⟩
  ·obtain⟨o',e1⟩:=I.base.there b o e hx;exact⟨o',(hs.2 b (As (Bh (Am e) I.ok.above))).trans e1⟩
  ·by_cases hj:j=i
   ·subst hj;rw[hi]at e1;cases e1;rw[Ci hiσ]at e2;cases e2;exact⟨u,r,.inl ⟨hk,by simp⟩⟩
   ·rw[Au (Eb hj)]at e2;obtain⟨u',r',q⟩:=hl j y v' e1 e2 e3;refine⟨u',r',?_⟩;rcases q with⟨k,e⟩|⟨k,c,e,z⟩
    ·refine .inl ⟨k,?_⟩;have:y≠x:=λe=>hj (Jja hN e1 (e▸hi));simp[this,e]
    ·exact .inr ⟨k,c,e,z.sameBut hs (cne y c e)⟩
  ·obtain⟨w',z⟩:=I.cell y c e;exact⟨w',z.sameBut hs (cne y c e)⟩
  ·obtain⟨e,n,ne,nf,d⟩:=I.pin p hp;exact⟨(hs.2 p.1 ne).trans e,n,ne,nf,d⟩
 ·have hfn:X.fn x=true:=by
   rcases hf with z|z
   ·exact z
   ·rw[z]at hk;cases hk
  obtain⟨c,hc⟩:=I.ok.has x (.inl hk);obtain⟨w',z⟩:=I.cell x c hc;refine wpAny_storeName_cell I.ok.kind hk hc z (λh' hc' hs=>?_);obtain⟨oc,hoc,hocd⟩:=id z;refine h {s with heap:=h'} ⟨I.ok,I.os,I.bare,⟨λb o e n hb hx=>?_,λb o e n hb hx=>?_,I.base.free,λb o e hx=>?_,I.base.tups,I.base.frzs,I.base.tbls⟩,⟨m,hn.sameBut hs (Eb (cne x c hc)),λj y v' e1 e2 e3=>?_⟩,λy c' e=>?_,I.free,I.freeC,λp hp=>?_,tracked ⟨oc,hoc,I.freeC x c hc⟩ hs,by simpa using I.len⟩ ⟨c,hs,.inr hc⟩
  ·exact(hs.2 b (As (Bh (Am e) (I.ok.cab x c hfn hc)))).trans (I.base.keep b o e n hb hx)
  ·obtain⟨sl,e1⟩:=I.base.slot b o e n hb hx;exact⟨sl,(hs.2 b (As (Bh (Am e) (I.ok.cab x c hfn hc)))).trans e1⟩
  ·obtain⟨o',e1⟩:=I.base.there b o e hx;exact⟨o',(hs.2 b (As (Bh (Am e) (I.ok.cab x c hfn hc)))).trans e1⟩
  ·by_cases hj:j=i
   ·subst hj;rw[hi]at e1;cases e1;rw[Ci hiσ]at e2;cases e2;exact⟨u,r,.inr ⟨.inl hk,c,hc,hc'⟩⟩
   ·rw[Au (Eb hj)]at e2;obtain⟨u',r',q⟩:=hl j y v' e1 e2 e3;refine⟨u',r',?_⟩;rcases q with q|⟨k,c',e,z'⟩
    ·exact .inl q
    ·refine .inr ⟨k,c',e,z'.sameBut hs ?_⟩;rintro rfl;exact hj (Jja hN e1 (I.ok.inj _ _ _ e hc▸hi))
  ·by_cases hcc:c'=c
   ·subst hcc;exact⟨_,hc'⟩
   ·obtain⟨w2,z2⟩:=I.cell y c' e;exact⟨w2,z2.sameBut hs hcc⟩
  ·obtain⟨e,n,ne,nf,d⟩:=I.pin p hp;refine⟨(hs.2 p.1 ?_).trans e,n,ne,nf,d⟩;intro q;rw[q,hoc]at e;have q':oc=p.2:=Bj e;exact d w' (by rw[<-q'];exact hocd)
def Jfq{E:Value->Shared->Prop}{Q:Unit->Shared->Prop}(I:Inv X pins U H s)(hN:X.N.Nodup)(hi:X.N[i]? =some x)(hx:Loc X.env.scope x)(r:RelV v u)
  (h:∀s',Inv X pins (U.set i (some v)) H s'->Q () s')(hf:X.fn x=true\/X.env.scope.names.lookup x=some .local:=by first|exact .inl rfl|exact .inr rfl|assumption):wpAny M A (storeName X.env x u) Q E s:=
 Jgy I hN hi hx r (λs' I' _=>h s' I') hf
def Inv.call'{s':Shared}(I:Inv X pins U H s)(ho:s'.os=s.os)(u:Un (frs X.stack) ch H H' s.heap s'.heap)(hok:HOk X.prog X.w H' s'.heap)(hg:Kr s'.gens)
  (hch:∀b∈ch,(b∈X.ex\/X.s₀.heap.objs.size<=b)/\b≠X.env.locals/\(∀x c,X.env.cells.lookup x=some c->c≠b)/\∀p∈X.pn++pins,p.1≠b):Inv X pins U H' s':=by
 obtain⟨h',g',d',t',o'⟩:=s';have e:o'=s.os:=ho;subst e;exact I.call (g':=g') (t':=t') (d':=d') u hok hg hch
end
abbrev XK:=Value->Option Addr->Hp->Prop
abbrev St:=List (Option V)
abbrev VK:=V->Hp->Prop
abbrev TE:=St->Hp->VK->Prop
abbrev TT:=St->Hp->(Bool->Hp->Prop)->Prop
abbrev TA:=St->Hp->(List V->Hp->Prop)->Prop
structure Ends where
 nx:St->Hp->Prop
 rt:VK
 bk:St->Hp->Prop:=λ_ _=>False
 ct:St->Hp->Prop:=λ_ _=>False
abbrev TS:=Ends->St->Hp->Prop
def EP(X:Cx)(pins:List (Addr×Obj))(U:St)(Q:VK)(u:Value)(s':Shared):Prop:=∃v H',Inv X pins U H' s'/\RelV v u/\Q v H'
def TP(X:Cx)(pins:List (Addr×Obj))(U:St)(Q:Bool->Hp->Prop)(b:Bool)(s':Shared):Prop:=∃H',Inv X pins U H' s'/\Q b H'
def AP(X:Cx)(pins:List (Addr×Obj))(U:St)(Q:List V->Hp->Prop)(us:List Value)(s':Shared):Prop:=∃vs H',Inv X pins U H' s'/\Vals vs us/\Q vs H'
def SP(X:Cx)(pins:List (Addr×Obj))(D:Ends)(f:Flow)(s':Shared):Prop:=
 match f with
 |.next=>∃U' H',Inv X pins U' H' s'/\D.nx U' H'
 |.brk=>∃U' H',Inv X pins U' H' s'/\D.bk U' H'
 |.cont=>∃U' H',Inv X pins U' H' s'/\D.ct U' H'
 |.ret u=>∃v U' H',Inv X pins U' H' s'/\RelV v u/\D.rt v H'
def PE(X:Cx)(e:Expr)(t:TE):Prop:=
 ∀(pins:List (Addr×Obj)) (s:Shared) (U:St) (H:Hp) (Q:VK),Inv X pins U H s->t U H Q->wpAny (model X.prog X.w) X.A (eval e X.env) (EP X pins U Q) X.xe s
def PT(X:Cx)(e:Expr)(t:TT):Prop:=
 ∀(pins:List (Addr×Obj)) (s:Shared) (U:St) (H:Hp) (Q:Bool->Hp->Prop),Inv X pins U H s->t U H Q->wpAny (model X.prog X.w) X.A (isTrue e X.env (eval e X.env)) (TP X pins U Q) X.xe s
def PW(X:Cx)(e:Expr)(t:TT):Prop:=
 ∀(whole:Sem Value) (pins:List (Addr×Obj)) (s:Shared) (U:St) (H:Hp) (Q:Bool->Hp->Prop),Inv X pins U H s->t U H Q->wpAny (model X.prog X.w) X.A (isTrue e X.env whole) (TP X pins U Q) X.xe s
def PW.pt(h:PW X e t):PT X e t:=h _
def PA(X:Cx)(es:List Expr)(t:TA):Prop:=
 ∀(pos:Pos) (pins:List (Addr×Obj)) (s:Shared) (U:St) (H:Hp) (Q:List V->Hp->Prop),Inv X pins U H s->t U H Q->wpAny (model X.prog X.w) X.A (Qs (D8 pos (Bm es X.env))) (AP X pins U Q) X.xe s
def PS(X:Cx)(st:Stmt)(t:TS):Prop:=
 ∀(pins:List (Addr×Obj)) (s:Shared) (U:St) (H:Hp) (D:Ends),Inv X pins U H s->t D U H->wpAny (model X.prog X.w) X.A (exec st X.env) (SP X pins D) X.xe s
def PSs(X:Cx)(st:List Stmt)(t:TS):Prop:=
 ∀(pins:List (Addr×Obj)) (s:Shared) (U:St) (H:Hp) (D:Ends),Inv X pins U H s->t D U H->wpAny (model X.prog X.w) X.A (execs st X.env) (SP X pins D) X.xe s
def thn{α:Type}{t:Sem α}{Q Q':α->Shared->Prop}{M:R0}{A:Bl}{E:Value->Shared->Prop}{s:Shared}(h:wpAny M A t Q E s)(hQ:∀a s,Q a s->Q' a s):wpAny M A t Q' E s:=B4 h hQ λ_ _ x=>x
section
variable {X:Cx}
def bin{a b:Expr}{ta tb:TE}(ha:PE X a ta)(hb:PE X b tb){pins:List (Addr×Obj)}{s:Shared}{U:St}{H:Hp}{R:V->V->Hp->Prop}(I:Inv X pins U H s)(h:ta U H λx H1=>tb U H1 λy H2=>R x y H2)
  {α:Type}{Q:α->Shared->Prop}{f:Value->Value->Sem α}
  (hf:∀v u s2 x y H2,Inv X pins U H2 s2->RelV x v->RelV y u->R x y H2->wpAny (model X.prog X.w) X.A (f v u) Q X.xe s2):
  wpAny (model X.prog X.w) X.A (eval a X.env) (λv s₁=>wpAny (model X.prog X.w) X.A (eval b X.env) (λu s₂=>wpAny (model X.prog X.w) X.A (f v u) Q X.xe s₂) X.xe s₁) X.xe s:=by
 refine thn (ha pins s U H _ I h) λv s1 ⟨x,H1,I1,r1,q1⟩=>?_;refine thn (hb pins s1 U H1 _ I1 q1) λu s2 ⟨y,H2,I2,r2,q2⟩=>?_;exact hf v u s2 x y H2 I2 r1 r2 q2
def Wej(i:Nat):TE:=λU H Q=>∃v,U[i]? =some (some v)/\Q v H
def tC(v:V):TE:=λ_ H Q=>Q v H
def Jvn(hN:X.N[i]? =some x)(hv:Vis X.env.scope x)(hd:(x==("__debug__":Str))=false:=by decide)(hcd:(x==("__classdict__":Str))=false:=by decide):PE X (.Name x pos) (Wej i):=by
 intro pins s U H Q I h;obtain⟨v,e,h⟩:=h;obtain⟨m,hn,hl⟩:=I.loc;obtain⟨u,r,l⟩:=hl i x v hN e hv;have fin:EP X pins U Q u s:=⟨v,H,I,r,h⟩
 rcases l with⟨hk,hm⟩|⟨hk,c,hc,hcell⟩
 ·exact Ti (Rp I.ok.kind hk hn hm fin) hd
 ·rcases hk with hk|hk
  ·exact Ti (R9 I.ok.kind hk hc hcell fin) hd
  ·exact Ti (wpAny_loadName_free I.ok.kind hk hc hcell fin hcd) hd
def Jvt{i j pos}:PE X (.Constant (.int i) j pos) (tC (.int i)):=λ_ _ _ H _ I h=>wpAny_Constant_int ⟨.int i,H,I.tok _,⟨_,rfl⟩,h⟩
def Jyt{b j pos}:PE X (.Constant (.bool b) j pos) (tC (.bl b)):=λ_ _ _ H _ I h=>Constant_bool ⟨.bl b,H,I,rfl,h⟩
def Jvr{j pos}:PE X (.Constant .none j pos) (tC .non):=λ_ _ _ H _ I h=>Constant_none ⟨.non,H,I,rfl,h⟩
def Jvp{x j pos}:PE X (.Constant (.str x) j pos) (tC (.str x)):=λ_ _ _ H _ I h=>Calls.Constant_str ⟨.str x,H,I.tok _,⟨_,rfl⟩,h⟩
def Gl(X:Cx)(x:Str):Prop:=X.env.kindOf x=some .globalImplicit
def Jfz{E:Value->Shared->Prop}{Q:Value->Shared->Prop}(I:Inv X pins U H s)(hg:Gl X x)(hm:X.mg x=some u)(h:Q u s)
  (hd:(x==("__debug__":Str))=false:=by decide):wpAny (model X.prog X.w) X.A (eval (.Name x pos) X.env) Q E s:=
 M4 I.ok.kind hg (Calls.loadGlobal_global (by rw[I.ok.glob];exact I.mod.glob.keeps I.bk) hm h) hd
def Jcc{E:Value->Shared->Prop}{Q:Value->Shared->Prop}(I:Inv X pins U H s)(hg:Gl X x)(hm:X.mg x=none)(hv:Df x=some u)(h:Q u s)
  (hn:x≠"__name__":=by decide)(hd:(x==("__debug__":Str))=false:=by decide):wpAny (model X.prog X.w) X.A (eval (.Name x pos) X.env) Q E s:=by
 obtain⟨mb,h1,h2⟩:=I.mod.blt;exact M4 I.ok.kind hg (Calls.loadGlobal_builtin (by rw[I.ok.glob];exact I.mod.glob.keeps I.bk) hm (by rw[I.ok.blt];exact h1.keeps I.bk) ((h2 x hn).trans hv) h) hd
def Jln(hg:Gl X x)(hm:X.mg x=some u)(r:RelV v u)(hd:(x==("__debug__":Str))=false:=by decide):PE X (.Name x pos) (tC v):=
 λ_ _ _ H _ I h=>Jfz I hg hm ⟨v,H,I,r,h⟩ hd
def Jsr(hg:Gl X x)(hm:X.mg x=none)(hv:Df x=some u)(r:RelV v u)(hn:x≠"__name__":=by decide)(hd:(x==("__debug__":Str))=false:=by decide):PE X (.Name x pos) (tC v):=
 λ_ _ _ H _ I h=>Jcc I hg hm hv ⟨v,H,I,r,h⟩ hn hd
variable {a b:Expr} {ta tb:TE} {pos:Pos}
variable {tA tB':TT} {rest:List Expr}
def Wez(t u:TT):TT:=λU H Q=>t U H λc H1=>if c=true then u U H1 Q else Q false H1
def tOr(t u:TT):TT:=λU H Q=>t U H λc H1=>if c=true then Q true H1 else u U H1 Q
def Weo(t:TT):TT:=λU H Q=>t U H λc H1=>Q (!c) H1
theorem Jr1(ha:PT X a tA):PW X (.BoolOp .And [a] pos) tA:=by
 intro wh pins s U H Q I h;refine isTrue_and (thn (ha pins s U H Q I h) λc s1 e=>?_);cases c with
 |true=>exact isTrue_and_nil e
 |false=>exact e
theorem Jvb(ha:PT X a tA):PW X (.BoolOp .Or [a] pos) tA:=by
 intro wh pins s U H Q I h;refine isTrue_or (thn (ha pins s U H Q I h) λc s1 e=>?_);cases c with
 |false=>exact isTrue_or_nil e
 |true=>exact e
theorem Jvc(ha:PT X a tA)(hb:PW X (.BoolOp .And (b::rest) pos) tB'):PW X (.BoolOp .And (a::b::rest) pos) (Wez tA tB'):=by
 intro wh pins s U H Q I h;refine isTrue_and (thn (ha pins s U H _ I h) λc s1 ⟨H1,I1,q1⟩=>?_);cases c with
 |true=>exact hb wh pins s1 U H1 Q I1 q1
 |false=>exact⟨H1,I1,q1⟩
theorem Jyl(ha:PT X a tA)(hb:PW X (.BoolOp .Or (b::rest) pos) tB'):PW X (.BoolOp .Or (a::b::rest) pos) (tOr tA tB'):=by
 intro wh pins s U H Q I h;refine isTrue_or (thn (ha pins s U H _ I h) λc s1 ⟨H1,I1,q1⟩=>?_);cases c with
 |true=>exact⟨H1,I1,q1⟩
 |false=>exact hb wh pins s1 U H1 Q I1 q1
def Jvd(ha:PT X a tA):PT X (.UnaryOp .Not a pos) (Weo tA):=by
 intro pins s U H Q I h;exact isTrue_not (ha pins s U H (λc H1=>Q (!c) H1) I h)
def Z6(ta tb:TE):TE:=λU H Q=>ta U H λx H1=>∃c,x=.bl c/\if c=true then tb U H1 Q else Q (.bl false) H1
def Wen(ta tb:TE):TE:=λU H Q=>ta U H λx H1=>∃c,x=.bl c/\if c=true then Q (.bl true) H1 else tb U H1 Q
def Jvq{op}(h:PE X a t):PE X (.BoolOp op [a] pos) t:=λpins s U H Q I hw=>BoolOp_one (h pins s U H Q I hw)
theorem Jvv(ha:PE X a ta)(hb:PE X (.BoolOp .And (b::rest) pos) tb):PE X (.BoolOp .And (a::b::rest) pos) (Z6 ta tb):=by
 intro pins s U H Q I h;refine BoolOp_and (thn (ha pins s U H _ I h) λv s1 ⟨x,H1,I1,r1,q1⟩=>?_);obtain⟨c,rfl,q1⟩:=q1;cases r1;refine Dn ?_;cases c with
 |true=>exact hb pins s1 U H1 Q I1 q1
 |false=>exact⟨.bl false,H1,I1,rfl,q1⟩
theorem Jyp(ha:PE X a ta)(hb:PE X (.BoolOp .Or (b::rest) pos) tb):PE X (.BoolOp .Or (a::b::rest) pos) (Wen ta tb):=by
 intro pins s U H Q I h;refine BoolOp_or (thn (ha pins s U H _ I h) λv s1 ⟨x,H1,I1,r1,q1⟩=>?_);obtain⟨c,rfl,q1⟩:=q1;cases r1;refine Dn ?_;cases c with
 |false=>exact hb pins s1 U H1 Q I1 q1
 |true=>exact⟨.bl true,H1,I1,rfl,q1⟩
def tIf(t:TT)(ta tb:TE):TE:=λU H Q=>t U H λc H1=>if c=true then ta U H1 Q else tb U H1 Q
theorem Jn8{c:Expr}(hc:PT X c tA)(ha:PE X a ta)(hb:PE X b tb):PE X (.IfExp c a b pos) (tIf tA ta tb):=by
 intro pins s U H Q I h;refine wpAny_IfExp (thn (hc pins s U H _ I h) λd s1 ⟨H1,I1,q1⟩=>?_);cases d with
 |true=>exact ha pins s1 U H1 Q I1 q1
 |false=>exact hb pins s1 U H1 Q I1 q1
end
def SqL(K:Af)(H:Hp)(a:Addr)(xs:List V):Prop:=
 Rd H a (.lst xs)\/
  ∃(o:Obj) (its:Array Value) (n:Nat),K.lookup a=some o/\o.cls=.type "list"/\o.dict=none/\o.data=.seq its n/\its.size<=sizeLine/\Vals xs its.toList
def SqT(K:Af)(H:Hp)(a:Addr)(xs:List V):Prop:=
 H a=some (.tup xs)\/
  ∃(o:Obj) (its:Array Value) (n:Nat),K.lookup a=some o/\o.cls=.type "tuple"/\o.data=.seq its n/\its.size<=sizeLine/\Vals xs its.toList
noncomputable def Wf1:Value->Option V
 |.none=>some .non
 |.bool b=>some (.bl b)
 |.int i _=>some (.int i)
 |.str x _=>some (.str x)
 |.bytes b _=>some (.byt b)
 |.float b _=>some (.flt b)
 |.ref a=>some (.ref a)
 |.type n=>some (.ty n)
 |_=>none
theorem RelV.abs(r:RelV x u):Wf1 u=some x:=by
 cases x with
 |non=>cases r;rfl
 |bl _=>cases r;rfl
 |int _=>obtain⟨t,rfl⟩:=r;rfl
 |str _=>obtain⟨t,rfl⟩:=r;rfl
 |byt _=>obtain⟨t,rfl⟩:=r;rfl
 |flt _=>obtain⟨t,rfl⟩:=r;rfl
 |ref _=>cases r;rfl
 |ty _=>cases r;rfl
def RelV.inj(r:RelV x u)(q:RelV y u):x=y:=Bj (r.abs.symm.trans q.abs)
theorem Vals.inj:∀{xs ys:List V} {us:List Value},Vals xs us->Vals ys us->xs=ys
 |_,_,_,.nil,.nil=>rfl
 |_,_,_,.cons r t,.cons r' t'=>by rw[r.inj r',Vals.inj t t']
section
variable {X:Cx} {pins:List (Addr×Obj)} {U:St} {H:Hp} {s:Shared} {a:Addr} {xs ys:List V}
def SqL.of{K:Af}(h:H a=some (.lst xs)):SqL K H a xs:=.inl (.inl h)
def SqT.of{K:Af}(h:H a=some (.tup xs)):SqT K H a xs:=.inl h
inductive InvL (s:Shared) (a:Addr) (xs:List V):Prop
 |mk (its:List Value) (_:Vals xs its) (_:PlainL s.heap a its.toArray) (_:xs.length<=sizeLine):InvL s a xs
def Inv.list(I:Inv X pins U H s)(h:SqL X.K H a xs):InvL s a xs:=by
 rcases h with h|⟨o,its,n,hk,hc,hd,hs,hz,r⟩
 ·obtain⟨z,its,n,r,e⟩:=h.ok I.hok;exact⟨its,r,⟨_,n,e,rfl,rfl,rfl⟩,z⟩
 ·refine⟨its.toList,r,⟨o,n,I.kIn a o hk,hc,hd,by simpa using hs⟩,?_⟩;have e:=r.length;simp only[Bz]at e
  lia
inductive InvT (s:Shared) (a:Addr) (xs:List V):Prop
 |mk (its:List Value) (_:Vals xs its) (_:IsTup s.heap a its.toArray) (_:xs.length<=sizeLine):InvT s a xs
def Inv.tuple(I:Inv X pins U H s)(h:SqT X.K H a xs):InvT s a xs:=by
 rcases h with h|⟨o,its,n,hk,hc,hs,hz,r⟩
 ·obtain⟨z,its,r,p⟩:=(Rd.of h).ok I.hok;exact⟨its,r,p,z⟩
 ·refine⟨its.toList,r,⟨o,I.kIn a o hk,hc,n,by simpa using hs⟩,?_⟩;have e:=r.length;simp only[Bz]at e
  lia
def Inv.list_inj(I:Inv X pins U H s)(h:SqL X.K H a xs)(h':SqL X.K H a ys):xs=ys:=by
 obtain⟨its,r,⟨o,n,e,_,_,d⟩,_⟩:=I.list h;obtain⟨its',r',⟨o',n',e',_,_,d'⟩,_⟩:=I.list h';rw[e]at e';cases e';rw[d]at d';injection d' with d1 _;have:its=its':=by simpa using congrArg Ub d1
 subst this;exact r.inj r'
def Inv.tuple_inj(I:Inv X pins U H s)(h:SqT X.K H a xs)(h':SqT X.K H a ys):xs=ys:=by
 obtain⟨its,r,⟨o,e,_,n,d⟩,_⟩:=I.tuple h;obtain⟨its',r',⟨o',e',_,n',d'⟩,_⟩:=I.tuple h';rw[e]at e';cases e';rw[d]at d';injection d' with d1 _;have:its=its':=by simpa using congrArg Ub d1
 subst this;exact r.inj r'
end
noncomputable abbrev Cx.wish(X:Cx)(E:Value->Shared->Prop):Cx:={X with xe:=E}
noncomputable abbrev Cx.nox(X:Cx):Cx:=X.wish λ_ _=>False
def Cx.Ok.wish{X:Cx}(ok:X.Ok)(E:Value->Shared->Prop):(X.wish E).Ok:=
 ⟨ok.mod,ok.kind,ok.glob,ok.blt,ok.above,ok.inj,ok.has,ok.cab,ok.hd,ok.frames,ok.stk,ok.exf,ok.bs,ok.bsz,ok.noex,ok.exfs,ok.funs,ok.frf⟩
def Cx.Ok.unwish{X:Cx}{E:Value->Shared->Prop}(ok:(X.wish E).Ok):X.Ok:=
 ⟨ok.mod,ok.kind,ok.glob,ok.blt,ok.above,ok.inj,ok.has,ok.cab,ok.hd,ok.frames,ok.stk,ok.exf,ok.bs,ok.bsz,ok.noex,ok.exfs,ok.funs,ok.frf⟩
section
variable {X:Cx} {pins:List (Addr×Obj)} {U:St} {H:Hp} {s:Shared} {E:Value->Shared->Prop}
def Inv.wish(I:Inv X pins U H s)(E:Value->Shared->Prop):Inv (X.wish E) pins U H s:=⟨I.ok.wish E,I.os,I.bare,I.base,I.loc,I.cell,I.free,I.freeC,I.pin,I.hok,I.len⟩
def Inv.unwish(I:Inv (X.wish E) pins U H s):Inv X pins U H s:=⟨I.ok.unwish,I.os,I.bare,I.base,I.loc,I.cell,I.free,I.freeC,I.pin,I.hok,I.len⟩
theorem SP.unwish(h:SP (X.wish E) pins D f s'):SP X pins D f s':=by
 cases f with
 |next=>obtain⟨U',H',I,q⟩:=h;exact⟨U',H',I.unwish,q⟩
 |brk=>obtain⟨U',H',I,q⟩:=h;exact⟨U',H',I.unwish,q⟩
 |cont=>obtain⟨U',H',I,q⟩:=h;exact⟨U',H',I.unwish,q⟩
 |ret u=>obtain⟨v,U',H',I,r,q⟩:=h;exact⟨v,U',H',I.unwish,r,q⟩
def PSs.nox{st:List Stmt}{t:TS}(h:PSs X.nox st t):PSs X st t:=λpins s U H D I hw=>
 B4 (h pins s U H D (I.wish _) hw) (λ_ _ q=>q.unwish) λ_ _ z=>D3 z
end
section
variable {X:Cx} {st:Stmt} {rest:List Stmt} {t u:TS} {e:Expr} {te:TE} {pos:Pos}
def Z1:TS:=λD U H=>D.nx U H
def Wel(t u:TS):TS:=λD U H=>t {D with nx:=u D} U H
def Jr8:PSs X [] Z1:=λ_ _ U H _ I h=>wpAny_execs_nil ⟨U,H,I,h⟩
theorem Jnz(h1:PS X st t)(h2:PSs X rest u):PSs X (st::rest) (Wel t u):=by
 intro pins s U H D I h;refine wpAny_execs_cons (thn (h1 pins s U H {D with nx:=u D} I h) λf s1 q=>?_);cases f with
 |next=>
  obtain⟨U',H',I',q⟩:=q;exact h2 pins s1 U' H' D I' q
 |ret v=>exact q
 |brk=>exact q
 |cont=>exact q
def Inv.quiet(I:Inv X pins U H s):interactive X.env=false:=by simp[interactive,I.ok.kind]
def Z4(te:TE):TS:=λD U H=>te U H λ_ H1=>D.nx U H1
def Jr9(he:PE X e te)(hs:Gk e none pos.line X.env=pure false:=by rfl):PS X (.Expr e pos) (Z4 te):=by
 intro pins s U H D I h;exact wpAny_Expr_any (thn (he pins s U H _ I h) λv s1 ⟨x,H1,I1,r1,q1⟩=>⟨U,H1,I1,q1⟩) I.quiet hs
def Wem(te:TE):TS:=λD U H=>te U H D.rt
def Jvf(he:PE X e te):PS X (.Return (some e) pos) (Wem te):=by
 intro pins s U H D I h;exact wpAny_Return_some (thn (he pins s U H _ I h) λv s1 ⟨x,H1,I1,r1,q1⟩=>⟨x,U,H1,I1,r1,q1⟩)
def Wes(c:TT)(t u:TS):TS:=λD U H=>c U H λb H1=>if b=true then t D U H1 else u D U H1
theorem Jyn{c:Expr}{a b:List Stmt}{tc:TT}(hc:PT X c tc)(ha:PSs X a t)(hb:PSs X b u):PS X (.If c a b pos) (Wes tc t u):=by
 intro pins s U H D I h;refine wpAny_If (thn (hc pins s U H _ I h) λd s1 ⟨H1,I1,q1⟩=>?_);cases d with
 |true=>exact ha pins s1 U H1 D I1 q1
 |false=>exact hb pins s1 U H1 D I1 q1
end
abbrev TG:=V->St->Hp->(St->Hp->Prop)->Prop
abbrev TGs:=List V->St->Hp->(St->Hp->Prop)->Prop
def PG(X:Cx)(target:Expr)(t:TG):Prop:=
 ∀(pins:List (Addr×Obj)) (s:Shared) (U:St) (H:Hp) (v:V) (u:Value) (Q:St->Hp->Prop),Inv X pins U H s->RelV v u->t v U H Q->
  wpAny (model X.prog X.w) X.A (assign target X.env u) (λ_ s'=>∃U' H',Inv X pins U' H' s'/\Q U' H') X.xe s
def PGs(X:Cx)(ts:List Expr)(t:TGs):Prop:=
 ∀(pins:List (Addr×Obj)) (s:Shared) (U:St) (H:Hp) (vs:List V) (us:List Value) (Q:St->Hp->Prop),Inv X pins U H s->Vals vs us->t vs U H Q->
  wpAny (model X.prog X.w) X.A (assignInOrder ((Fv ts X.env).map (·.2)) us) (λ_ s'=>∃U' H',Inv X pins U' H' s'/\Q U' H') X.xe s
abbrev Yz:=V->V->V->Hp->(Hp->Prop)->Prop
def Zw(X:Cx)(t:Yz):Prop:=
 ∀(pins:List (Addr×Obj)) (s:Shared) (U:St) (H:Hp) (o i v:V) (ov iv u:Value) (Q:Hp->Prop),Inv X pins U H s->RelV o ov->RelV i iv->RelV v u->t o i v H Q->
  wpAny (model X.prog X.w) X.A (Uh ov iv u) (λ_ s'=>∃H',Inv X pins U H' s'/\Q H') X.xe s
abbrev TIp:=V->V->Hp->VK->Prop
def PIp(X:Cx)(op:Operator)(t:TIp):Prop:=
 ∀(pins:List (Addr×Obj)) (s:Shared) (U:St) (H:Hp) (x y:V) (v u:Value) (Q:VK),Inv X pins U H s->RelV x v->RelV y u->t x y H Q->
  wpAny (model X.prog X.w) X.A (inplaceOp op v u) (EP X pins U Q) X.xe s
section
variable {X:Cx} {pos:Pos}
def Xk(i:Nat):TG:=λv U H Q=>Q (U.set i (some v)) H
def Jsk(hN:X.N.Nodup)(hi:X.N[i]? =some x)(hx:Loc X.env.scope x)(hf:X.fn x=true\/X.env.scope.names.lookup x=some .local:=by first|exact .inl rfl|exact .inr rfl|assumption):PG X (.Name x pos) (Xk i):=by
 intro pins s U H v u Q I r h;exact Ue (Jfq I hN hi hx r (λs' I'=>⟨_,H,I',h⟩) hf)
def Wfv:TGs:=λvs U H Q=>vs=[]/\Q U H
def Wea(t:TG)(u:TGs):TGs:=λvs U H Q=>∃v r,vs=v::r/\t v U H λU' H'=>u r U' H' Q
def Jsj:PGs X [] Wfv:=by
 intro pins s U H vs us Q I r h;obtain⟨e,h⟩:=h;subst e;cases r;exact assignInOrder_nil ⟨U,H,I,h⟩
theorem Jn4{e:Expr}{es:List Expr}{t:TG}{u:TGs}(h1:PG X e t)(h2:PGs X es u)
  (hs:(Fv (e::es) X.env).map (·.2)=assign e X.env::(Fv es X.env).map (·.2):=by rfl):PGs X (e::es) (Wea t u):=by
 intro pins s U H vs us Q I r h;obtain⟨v,vr,e1,h⟩:=h;subst e1;cases r with
 |cons r rr=>
  rw[hs];refine assignInOrder_cons (thn (h1 pins s U H _ _ _ I r h) λ_ s1 ⟨σ1,H1,I1,q1⟩=>?_);exact h2 pins s1 σ1 H1 _ _ Q I1 rr q1
def Wft(K:Af)(n:Nat)(t:TGs):TG:=λv U H Q=>∃a xs,v=.ref a/\SqT K H a xs/\xs.length=n/\t xs U H Q
def Jvl(hc:X.calm=true)(h:PGs X es t)
  (hn:(Fv es X.env).length=n:=by rfl)(hst:(Fv es X.env).findIdx? (·.1)=none:=by rfl):PG X (.Tuple es k pos) (Wft X.K n t):=by
 intro pins s U H v u Q I r hw;obtain⟨a,xs,e1,hq,hl,hw⟩:=hw;subst e1;cases r;obtain⟨its,rv,ht,hz⟩:=I.tuple hq;refine assign_Tuple_tuple (I.ok.hd hc) ht (by simp[hn,<-hl,rv.length]) hst λh' hx=>?_;have I1:Inv X pins U H {s with heap:=h'}:=I.kept (t':=s.toks) λb o e=>hx b o (As (Am e)) e;exact h pins _ U H xs _ Q I1 (by simpa using rv) hw
def Wfu(to ti:TE)(t:Yz):TG:=λv U H Q=>to U H λo H1=>ti U H1 λi H2=>t o i v H2 λH3=>Q U H3
def Jvm{o i:Expr}{to ti:TE}{t:Yz}(ho:PE X o to)(hi:PE X i ti)(hs:Zw X t)
  (ha:∀v,assign (.Subscript o i pos) X.env v=(do
   let ov<-holding [v] (eval o X.env)
   let iv<-holding [v,ov] (eval i X.env)
   Mw pos
   holding [v,ov,iv] (Uh ov iv v)
   release [v,ov,iv] []):=by intro _;rfl):PG X (.Subscript o i pos) (Wfu to ti t):=by
 intro pins s U H v u Q I r h;rw[ha];refine Aa (Bi (thn (ho pins s U H _ I h) λov s1 ⟨x,H1,I1,r1,q1⟩=>?_));refine Aa (Bi (thn (hi pins s1 U H1 _ I1 q1) λiv s2 ⟨y,H2,I2,r2,q2⟩=>?_));refine Aa (L7 (Aa (Bi (thn (hs pins s2 U H2 x y v ov iv u _ I2 r1 r2 r q2) λ_ s3 ⟨H3,I3,q3⟩=>?_))));exact wpAny_release ⟨U,H3,I3,q3⟩
def X1(te:TE)(g:TG):TS:=λD U H=>te U H λx H1=>g x U H1 D.nx
def Jvj{tg e:Expr}{te:TE}{g:TG}(he:PE X e te)(hg:PG X tg g)(hs:swapsWithSole [tg] e pos.line X.env=pure false:=by rfl)(hw:swappedStores [tg] e X.env=pure none:=by rfl)
  (h1:(Fv [tg] X.env).map (·.2)=[assign tg X.env]:=by rfl):PS X (.Assign [tg] e pos) (X1 te g):=by
 intro pins s U H D I h;refine wpAny_Assign_stores (thn (he pins s U H _ I h) λv s1 ⟨x,H1,I1,r1,q1⟩=>?_) hs hw;rw[h1];exact thn (hg pins s1 U H1 x v _ I1 r1 q1) λ_ s2 q=>q
def Jve{i:Nat}{x:Str}{e:Expr}{te:TE}{pos':Pos}(hN:X.N.Nodup)(hi:X.N[i]? =some x)(hx:Loc X.env.scope x)(he:PE X e te)(hs:Gk e (some (.Name x pos')) pos.line X.env=pure false:=by rfl)(hf:X.fn x=true\/X.env.scope.names.lookup x=some .local:=by first|exact .inl rfl|exact .inr rfl|assumption):
  PS X (.Assign [.Name x pos'] e pos) (X1 te (Xk i)):=by
 intro pins s U H D I h;refine wpAny_Assign_Name (thn (he pins s U H _ I h) λv s1 ⟨y,H1,I1,r1,q1⟩=>?_) hs;exact Jfq I1 hN hi hx r1 (λs2 I2=>⟨_,H1,I2,q1⟩) hf
def Wey(i:Nat)(te:TE)(ti:TIp):TS:=λD U H=>∃x,U[i]? =some (some x)/\te U H λy H1=>ti x y H1 λz H2=>D.nx (U.set i (some z)) H2
def Jvi{i:Nat}{x:Str}{e:Expr}{te:TE}{op:Operator}{ti:TIp}{pos':Pos}(hN:X.N.Nodup)(hi:X.N[i]? =some x)(hx:Loc X.env.scope x)(he:PE X e te)(ho:PIp X op ti)(hf:X.fn x=true\/X.env.scope.names.lookup x=some .local:=by first|exact .inl rfl|exact .inr rfl|assumption):
  PS X (.AugAssign (.Name x pos') op e pos) (Wey i te ti):=by
 intro pins s U H D I h;obtain⟨v,e1,h⟩:=h;obtain⟨m,hn,hl⟩:=I.loc;have vis:Vis X.env.scope x:=by rcases hx with k|k;exact .inl k;exact .inr (.inl k)
 obtain⟨u,r,l⟩:=hl i x v hi e1 vis;refine wpAny_AugAssign_Name ?_;have go:wpAny (model X.prog X.w) X.A (eval e X.env) (λw s₂=>wpAny (model X.prog X.w) X.A (inplaceOp op u w) (λr s₃=>wpAny (model X.prog X.w) X.A (storeName X.env x r) (λ_=>SP X pins D .next) X.xe s₃) X.xe s₂) X.xe s:=by
  refine thn (he pins s U H _ I h) λw s1 ⟨y,H1,I1,r1,q1⟩=>?_;refine thn (ho pins s1 U H1 v y u w _ I1 r r1 q1) λz s2 ⟨zv,H2,I2,r2,q2⟩=>?_;exact Jfq I2 hN hi hx r2 (λs3 I3=>⟨_,H2,I3,q2⟩) hf
 rcases l with⟨hk,hm⟩|⟨hk,c,hc,hcell⟩
 ·exact Rp I.ok.kind hk hn hm go
 ·rcases hk with hk|hk
  ·exact R9 I.ok.kind hk hc hcell go
  ·rcases hx with k|k
   ·have:X.env.scope.names.lookup x=some .free:=hk;rw[k]at this;cases this
   ·have:X.env.scope.names.lookup x=some .free:=hk;rw[k]at this;cases this
def ipI(f:Int->Int->Int):TIp:=λx y H Q=>∃i j,x=.int i/\y=.int j/\Q (.int (f i j)) H
def Jwt:PIp X .Add (ipI λi j=>i+j):=by
 intro pins s U H x y v u Q I r1 r2 h;obtain⟨i,j,e1,e2,q⟩:=h;subst e1;subst e2;obtain⟨t,rfl⟩:=r1;obtain⟨t',rfl⟩:=r2;exact iadd_int ⟨.int _,H,I.tok _,⟨_,rfl⟩,q⟩
end
section
variable {X:Cx} {pos:Pos}
end
structure It where
 go:Nat->Hp->Prop
 yld:Nat->Hp->V->Hp->Prop
 stop:Nat->Hp->Prop
def V9(X:Cx)(pins:List (Addr×Obj))(H:Hp)(b:Addr):Prop:=
 H b=none/\b≠X.env.locals/\b∉X.fs/\(b∈X.ex\/X.s₀.heap.objs.size<=b)/\(∀x c,X.env.cells.lookup x=some c->c≠b)/\∀p∈X.pn++pins,p.1≠b
def Inv.fpOk{s:Shared}(I:Inv X pins U H s)(hb:s.heap.objs.size<=b)(hn:H' b=none):V9 X pins H' b:=by
 refine⟨hn,Cj (Bh I.lt hb),I.nofs hb,.inr (Bw I.sz hb),λx c e z=>?_,λp hp z=>?_⟩
 ·obtain⟨v,q⟩:=I.cell x c e;exact absurd (Bh q.lt (by rw[z];exact hb)) (Eh _)
 ·exact absurd (Bh (Am (I.pin p hp).1) (by rw[z];exact hb)) (Eh _)
structure Turn(P:Program)(w:World)(K:Af)(tg:Expr)(J:It)(fp:List Addr)(it:Addr)(tn:Nat->Heap->Prop):Prop where
 mem:it∈fp
 obj:∀i h,tn i h->∀b∈fp,∃o,h.get? b=some o/\∀v,o.data≠ .cell v
 keep:∀i h h',tn i h->(∀b∈fp,∀o,h.get? b=some o->h'.get? b=some o)->tn i h'
 item:∀(X:Cx),X.prog=P->X.w=w->X.K=K->X.calm=true->∀(i:Nat) (pins:List (Addr×Obj)) (s:Shared) (U:St) (H:Hp) (E:Value->Shared->Prop),Inv X pins U H s->(∀b∈fp,V9 X pins H b)->tn i s.heap->J.go i H->
  wpAny (model P w) X.A (pyNext (.ref it)) (λr s1=>∃u,r=some u/\
   wpAny (model P w) X.A (Ii tg (.ref it) u) (λ_ s2=>∃x H',Inv X pins U H' s2/\RelV x u/\J.yld i H x H'/\tn (i+1) s2.heap/\∀b∈fp,H' b=none) E s1) E s
 done:∀(X:Cx),X.prog=P->X.w=w->X.K=K->X.calm=true->∀(i:Nat) (pins:List (Addr×Obj)) (s:Shared) (U:St) (H:Hp) (E:Value->Shared->Prop),Inv X pins U H s->(∀b∈fp,V9 X pins H b)->tn i s.heap->J.stop i H->
  wpAny (model P w) X.A (pyNext (.ref it)) (λr s1=>r=none/\Inv X pins U H s1) E s
 self:∀(A:Bl) (i:Nat) (s:Shared) (Q:Value->Shared->Prop) (E:Value->Shared->Prop),tn i s.heap->Q (.ref it) s->wpAny (model P w) A (pyIter (.ref it)) Q E s
abbrev TI:=St->Hp->(It->Hp->Prop)->Prop
def PIE(X:Cx)(pins:List (Addr×Obj))(U:St)(tg:Expr)(R:It->Hp->Prop)(itv:Value)(s2:Shared):Prop:=
 ∃(it:Addr) (fp:List Addr) (tn:Nat->Heap->Prop) (J:It) (H':Hp),itv=.ref it/\Inv X pins U H' s2/\Turn X.prog X.w X.K tg J fp it tn/\tn 0 s2.heap/\(∀b∈fp,V9 X pins H' b)/\R J H'
def PI(X:Cx)(tg iter:Expr)(wi:TI):Prop:=
 ∀(pins:List (Addr×Obj)) (s:Shared) (U:St) (H:Hp) (R:It->Hp->Prop),Inv X pins U H s->wi U H R->
  wpAny (model X.prog X.w) X.A (eval iter X.env) (λv s1=>wpAny (model X.prog X.w) X.A (pyIter v) (PIE X pins U tg R) X.xe s1) X.xe s
def Jml{E:Value->Shared->Prop}{s:Shared}{o:Obj}{Q:Unit->Shared->Prop}(ho:s.heap.get? it=some o)(hc:o.cls=.type n)(hd:o.data=.fields vs)
  (hn:["enumerate","zip","dict_itemiterator","dict_reverseitemiterator","odict_iterator","itertools.zip_longest","itertools.pairwise"].contains n=false)(hQ:Q () s):wpAny M A (Ii tg (.ref it) u) Q E s:=by
 unfold Ii;cases tg<;>first
  |exact Ac hQ
  |(cases u<;>first
    |exact Ac hQ
    |(refine Aa (Mf ho ?_)
      rw[hc,hd];show wpAny M A (if(["enumerate","zip","dict_itemiterator","dict_reverseitemiterator","odict_iterator","itertools.zip_longest","itertools.pairwise"].contains n&&vs[0]? ==some (rawInt _))=true then _ else _) Q E s;rw[if_neg (by intro h;rw[hn,Bool.false_and]at h;cases h)];exact Ac hQ))
noncomputable def Itl(K:Af)(a:Addr):It:=
 ⟨λi H=>∃xs x,SqL K H a xs/\xs[i]? =some x,λi H x H'=>H'=H/\∀xs,SqL K H a xs->xs[i]? =some x,λi H=>∃xs,SqL K H a xs/\xs.length<=i⟩
noncomputable def Itt(K:Af)(a:Addr):It:=
 ⟨λi H=>∃xs x,SqT K H a xs/\xs[i]? =some x,λi H x H'=>H'=H/\∀xs,SqT K H a xs->xs[i]? =some x,λi H=>∃xs,SqT K H a xs/\xs.length<=i⟩
noncomputable def Itr(lo:Int)(n:Nat):It:=⟨λi _=>i<n,λi H x H'=>H'=H/\x=.int (lo+i),λi _=>n<=i⟩
def Jks{P:Program}{w:World}{K:Af}{tg:Expr}(a it:Addr):Turn P w K tg (Itl K a) [it] it (λi h=>h.IsListIter it a i)where
 mem:=by simp
 obj:=λi h st b hb=>by
  have e:b=it:=by simpa using hb
  subst e;obtain⟨o,e,c,d⟩:=st;exact⟨o,e,λv z=>by rw[d]at z;cases z⟩
 keep:=λi h h' st k=>st.at λo e=>k it (by simp) o e
 item:=by
  intro X hP hw hK hc i pins s U H E I hf st hg;subst hP hw hK;obtain⟨xs,x,hq,hx⟩:=hg;obtain⟨its,rv,p,hz⟩:=I.list hq;obtain⟨u,hu,ru⟩:=rv.get hx;obtain⟨f0,f1,f2,f3,f4,f5⟩:=hf it (by simp);refine Qq st p.isList (x:=u) (by simpa using hu) λh' st' sb=>?_;have I1:Inv X pins U H {s with heap:=h'}:=I.turned (t':=s.toks) (λb o hb e=>(sb.2 b hb).trans e) f0 f1 f3 f4 f5;obtain⟨o,e,c,d⟩:=id st';exact⟨u,rfl,Jml (s:={s with heap:=h'}) e c d (by decide) ⟨x,H,I1,ru,⟨rfl,λys hy=>by rw[I.list_inj hy hq];exact hx⟩,st',λb hb=>(hf b hb).1⟩⟩
 done:=by
  intro X hP hw hK hc i pins s U H E I hf st hg;subst hP hw hK;obtain⟨xs,hq,hx⟩:=hg;obtain⟨its,rv,p,hz⟩:=I.list hq;obtain⟨f0,f1,f2,f3,f4,f5⟩:=hf it (by simp);have hl:=rv.length;exact Q9 (I.ok.hd hc) st p.isList (by simp;lia) λh' eb=>⟨rfl,I.turned (t':=s.toks) (λb o hb e=>eb b o hb e) f0 f1 f3 f4 f5⟩
 self:=λ_ _ _ _ _ st h=>wpAny_pyIter_listiter st h
def Jjs{P:Program}{w:World}{K:Af}{tg:Expr}(a it:Addr):Turn P w K tg (Itt K a) [it] it (λi h=>h.IsTupleIter it a i)where
 mem:=by simp
 obj:=λi h st b hb=>by
  have e:b=it:=by simpa using hb
  subst e;obtain⟨o,e,c,d⟩:=st;exact⟨o,e,λv z=>by rw[d]at z;cases z⟩
 keep:=λi h h' st k=>st.at λo e=>k it (by simp) o e
 item:=by
  intro X hP hw hK hc i pins s U H E I hf st hg;subst hP hw hK;obtain⟨xs,x,hq,hx⟩:=hg;obtain⟨its,rv,p,hz⟩:=I.tuple hq;obtain⟨u,hu,ru⟩:=rv.get hx;obtain⟨f0,f1,f2,f3,f4,f5⟩:=hf it (by simp);refine wpAny_pyNext_tuple_item st (show s.heap.IsTuple a its.toArray from p) (x:=u) (by simpa using hu) λh' st' sb=>?_;have I1:Inv X pins U H {s with heap:=h'}:=I.turned (t':=s.toks) (λb o hb e=>(sb.2 b hb).trans e) f0 f1 f3 f4 f5;obtain⟨o,e,c,d⟩:=id st';exact⟨u,rfl,Jml (s:={s with heap:=h'}) e c d (by decide) ⟨x,H,I1,ru,⟨rfl,λys hy=>by rw[I.tuple_inj hy hq];exact hx⟩,st',λb hb=>(hf b hb).1⟩⟩
 done:=by
  intro X hP hw hK hc i pins s U H E I hf st hg;subst hP hw hK;obtain⟨xs,hq,hx⟩:=hg;obtain⟨its,rv,p,hz⟩:=I.tuple hq;obtain⟨f0,f1,f2,f3,f4,f5⟩:=hf it (by simp);have hl:=rv.length;exact wpAny_pyNext_tuple_end (I.ok.hd hc) st (show s.heap.IsTuple a its.toArray from p) (by simp;lia) λh' eb=>⟨rfl,I.turned (t':=s.toks) (λb o hb e=>eb b o hb e) f0 f1 f3 f4 f5⟩
 self:=λ_ _ _ _ _ st h=>wpAny_pyIter_tupleiter st h
def Jjt{P:Program}{w:World}{K:Af}{tg:Expr}(it:Addr)(lo:Int)(n:Nat):Turn P w K tg (Itr lo n) [it] it (λi h=>IsRangeIter h it (lo+(i:Nat)*1) ((n:Int)-(i:Nat)) 1)where
 mem:=by simp
 obj:=λi h st b hb=>by
  have e:b=it:=by simpa using hb
  subst e;exact⟨_,st,λv z=>by
   have z':Data.fields _=Data.cell v:=z;cases z'⟩
 keep:=λi h h' st k=>k it (by simp) _ st
 item:=by
  intro X hP hw hK hc i pins s U H E I hf st hg;subst hP hw hK;obtain⟨f0,f1,f2,f3,f4,f5⟩:=hf it (by simp);have W:=Walks.range (prog:=X.prog) (w:=X.w) (I.ok.hd hc) it lo 1 n;refine W.item i s _ _ hg st λv h' tk hv st' kk=>?_;obtain⟨t,rfl⟩:=hv;have I1:Inv X pins U H {s with heap:=h',toks:=tk}:=I.turned (λb o hb e=>kk b o (by simpa using hb) e) f0 f1 f3 f4 f5;refine⟨_,rfl,Jml (s:={s with heap:=h',toks:=tk}) (n:="range_iterator") st' rfl rfl (by decide) ⟨.int (lo+i),H,I1,⟨t,?_⟩,⟨rfl,rfl⟩,st',λb hb=>(hf b hb).1⟩⟩;rw[Int.mul_one]
 done:=by
  intro X hP hw hK hc i pins s U H E I hf st hg;subst hP hw hK;obtain⟨f0,f1,f2,f3,f4,f5⟩:=hf it (by simp);exact wpAny_pyNext_range_end (I.ok.hd hc) st (by have:n<=i:=hg;lia) λh' eb=>⟨rfl,I.turned (t':=s.toks) (λb o hb e=>eb b o hb e) f0 f1 f3 f4 f5⟩
 self:=λ_ _ _ _ _ st h=>wpAny_pyIter_rangeiter st h
section
variable {X:Cx} {tg:Expr}
def Jnw{pins:List (Addr×Obj)}{U:St}{H:Hp}{s:Shared}{R:It->Hp->Prop}{E:Value->Shared->Prop}{lo hi:Int}{t u v:Tok}{tk:Nat}(I:Inv X pins U H s)(h1: -(2^62)<=lo)(h2:lo<2^62)(h3: -(2^62)<=hi)(h4:hi<2^62)
  (q:R (Itr lo (hi-lo).toNat) H):wpAny (model X.prog X.w) X.A (pyIter (.ref s.heap.objs.size)) (PIE X pins U tg R) E {s with heap:=s.heap.push {cls:=.type "range",data:=.fields #[.int lo t,.int hi u,.int 1 v]},toks:=tk}:=by
 refine wpAny_pyIter_range (IsRange.new ..) (small_one h1 h2 h3 h4) ?_;have I1:Inv X pins U H {s with heap:=s.heap.push {cls:=.type "range",data:=.fields #[.int lo t,.int hi u,.int 1 v]},toks:=tk}:=I.kept λb o e=>Ad _ e;refine⟨(s.heap.push {cls:=.type "range",data:=.fields #[.int lo t,.int hi u,.int 1 v]}).objs.size,[(s.heap.push {cls:=.type "range",data:=.fields #[.int lo t,.int hi u,.int 1 v]}).objs.size],_,_,H,rfl,
  I1.kept (t':=tk) λb o e=>Ad _ e,Jjt _ lo (hi-lo).toNat,?_,λb hb=>?_,q⟩
 ·have e1:lo+((0:Nat):Int)*1=lo:=by simp
  have e2:(((hi-lo).toNat:Nat):Int)-((0:Nat):Int)=Builtin.Range.rangeSize lo hi 1:=by rw[rangeSize_one];split<;>lia
  show IsRangeIter _ _ (lo+((0:Nat):Int)*1) ((((hi-lo).toNat:Nat):Int)-((0:Nat):Int)) 1;rw[e1,e2];exact Aj _ rfl
 ·have e:b=(s.heap.push {cls:=.type "range",data:=.fields #[.int lo t,.int hi u,.int 1 v]}).objs.size:=by simpa using hb
  subst e;exact I1.fpOk (Ai _) (I1.hok.fresh (Ai _))
def Jy8(ta:TA):TI:=λU H R=>ta U H λvs H1=>∃j:Int,vs=[.int j]/\ -(2^62)<=j/\j<2^62/\R (Itr 0 j.toNat) H1
theorem Jll(hg:Gl X "range")(hm:X.mg "range"=none)(ha:PA X [a] ta)(hs:Bm [a] X.env=[(false,eval a X.env)]:=by rfl):PI X tg (.Call (.Name "range" p) [a] [] pos) (Jy8 ta):=by
 intro pins s U H R I h;refine R6 (Jcc I hg hm boot_range (C4 (thn (ha pos pins s U H _ I h) λus s1 ⟨vs,H1,I1,r1,q1⟩=>?_) hs rfl));obtain⟨j,e,q1,q2,q⟩:=q1;subst e;cases r1 with
 |cons r rr=>
  cases rr;obtain⟨t,rfl⟩:=r;exact call_range_1 (Jnw I1 (by lia) (by lia) q1 q2 (by simpa using q))
def Weu(wi:TI)(g:TG)(tb:TS):TS:=λD U H=>wi U H λJ H1=>∃W:Nat->Nat->St->Hp->Prop,(∃m,W 0 m U H1)/\∀i m U H,W i m U H->
 (J.stop i H/\D.nx U H)\/(J.go i H/\∃N:St->Hp->Prop,(∀U' H',N U' H'->∃m',m'<m/\W (i+1) m' U' H')/\∀x H',J.yld i H x H'->g x U H' λσ2 H2=>tb {D with nx:=N,ct:=N,bk:=D.nx} σ2 H2)
noncomputable def Wn(fp:List Addr)(h:Heap):List (Addr×Obj):=fp.filterMap λb=>(h.get? b).map λo=>(b,o)
def Jb8{h:Heap}(hb:b∈fp)(e:h.get? b=some o):(b,o)∈Wn fp h:=Qm.mpr ⟨b,hb,by rw[e];rfl⟩
theorem Jlw{h:Heap}{p:Addr×Obj}(hp:p∈Wn fp h):p.1∈fp/\h.get? p.1=some p.2:=by
 obtain⟨b,hb,e⟩:=Qm.mp hp;cases q:h.get? b with
 |none=>rw[q]at e;cases e
 |some o=>
  rw[q]at e;have e':(b,o)=p:=Bj e;subst e';exact⟨hb,q⟩
def Inv.pinned{s:Shared}{fp:List Addr}(I:Inv X pins U H s)(hf:∀b∈fp,V9 X pins H b)(ho:∀b∈fp,∃o,s.heap.get? b=some o/\∀v,o.data≠ .cell v):Inv X (pins++Wn fp s.heap) U H s:=
 I.pins_of λp hp=>(Bt.mp hp).elim (λz=>I.pin p (By _ z)) λz=>by
  obtain⟨hb,e⟩:=Jlw z;obtain⟨f0,f1,f2,_⟩:=hf p.1 hb;obtain⟨o,e',d⟩:=ho p.1 hb;rw[e]at e';cases e';exact⟨e,f0,f1,f2,d⟩
def Inv.unpinned(I:Inv X (pins++pl) U H s):Inv X pins U H s:=I.pins_of λp hp=>I.pin p (By _ (C8 _ hp))
def Jvg(hp:PassesOwn (model X.prog X.w) X.A X.env X.xe)(hc:X.calm=true)(hi:PI X tg iter wi)(hg:PG X tg g)(hb:PSs X body tb)
  (hs:∀x,C5 iter X.env x=pure x:=by intro _;rfl):PS X (.For tg iter body [] pos) (Weu wi g tb):=by
 intro pins s U H D I h;refine wpAny_For (thn (hi pins s U H _ I h) λv s1 h1=>thn h1 λitv s2 h2=>?_) hs;obtain⟨it,fp,tn,J,H2,e,I2,T,st2,f2,W,⟨m0,w0⟩,turn⟩:=h2;subst e;have stat:∀{H':Hp},(∀b∈fp,H' b=none)->∀b∈fp,V9 X pins H' b:=λhn b hb=>⟨hn b hb,(f2 b hb).2⟩
 refine codeAny_forLoop_any (λn s'=>∃i U' H',Inv X pins U' H' s'/\tn i s'.heap/\(∀b∈fp,H' b=none)/\W i n U' H') ?_ m0 ⟨0,U,H2,I2,st2,λb hb=>(f2 b hb).1,w0⟩;rintro n s3 ⟨i,σ3,H3,I3,st3,fr3,w3⟩;rcases turn i n σ3 H3 w3 with⟨stop,qn⟩|⟨go,N,hN,step⟩
 ·refine Ih hp (thn (T.done X rfl rfl rfl hc i pins s3 σ3 H3 X.xe I3 (stat fr3) st3 stop) λr s4 ⟨hr,I4⟩=>?_);subst hr;exact wpAny_execs_nil ⟨σ3,H3,I4,qn⟩
 ·refine Ih hp (thn (T.item X rfl rfl rfl hc i pins s3 σ3 H3 X.xe I3 (stat fr3) st3 go) λr s4 ⟨u,hr,h4⟩=>?_);subst hr;refine Ih hp (thn h4 λ_ s5 ⟨x,H5,I5,r5,y5,st5,fr5⟩=>?_);have I5':=I5.pinned (stat fr5) (T.obj _ _ st5);refine Ih hp (thn (hg _ s5 σ3 H5 x u _ I5' r5 (step x H5 y5)) λ_ s6 ⟨σ6,H6,I6,q6⟩=>?_);refine Ih hp (thn (hb _ s6 σ6 H6 _ I6 q6) λf s7 q7=>?_);have again:∀{σ7:St} {H7:Hp},Inv X (pins++Wn fp s5.heap) σ7 H7 s7->N σ7 H7->∃m,m<n/\∃i U' H',Inv X pins U' H' s7/\tn i s7.heap/\(∀b∈fp,H' b=none)/\W i m U' H':=λ{σ7 H7} I7 n7=>by
   obtain⟨m',hm,w7⟩:=hN σ7 H7 n7;refine⟨m',hm,i+1,σ7,H7,I7.unpinned,T.keep _ _ _ st5 λb hb o e=>(I7.pin (b,o) (By _ (By _ (Jb8 hb e)))).1,λb hb=>?_,w7⟩;obtain⟨o,e,d⟩:=T.obj _ _ st5 b hb;exact(I7.pin (b,o) (By _ (By _ (Jb8 hb e)))).2.1
  cases f with
  |next=>obtain⟨σ7,H7,I7,n7⟩:=q7;exact again I7 n7
  |cont=>obtain⟨σ7,H7,I7,n7⟩:=q7;exact again I7 n7
  |brk=>obtain⟨σ7,H7,I7,q7⟩:=q7;exact⟨σ7,H7,I7.unpinned,q7⟩
  |ret v=>obtain⟨x7,σ7,H7,I7,r7,q7⟩:=q7;exact⟨x7,σ7,H7,I7.unpinned,r7,q7⟩
end
abbrev R2:=V->V->Hp->VK->Prop
def OpR(X:Cx)(f:Value->Value->Sem Value)(r:R2):Prop:=
 ∀(pins:List (Addr×Obj)) (s:Shared) (U:St) (H:Hp) (x y:V) (v u:Value) (Q:VK),Inv X pins U H s->RelV x v->RelV y u->r x y H Q->
  wpAny (model X.prog X.w) X.A (f v u) (EP X pins U Q) X.xe s
def UnR(X:Cx)(f:Value->Sem Value)(r:V->Hp->VK->Prop):Prop:=
 ∀(pins:List (Addr×Obj)) (s:Shared) (U:St) (H:Hp) (x:V) (v:Value) (Q:VK),Inv X pins U H s->RelV x v->r x H Q->
  wpAny (model X.prog X.w) X.A (f v) (EP X pins U Q) X.xe s
def Vc(X:Cx)(f:Value)(r:List V->Hp->VK->Prop):Prop:=
 ∀(pins:List (Addr×Obj)) (s:Shared) (U:St) (H:Hp) (xs:List V) (us:List Value) (Q:VK),Inv X pins U H s->Vals xs us->r xs H Q->
  wpAny (model X.prog X.w) X.A (call f us) (EP X pins U Q) X.xe s
def Wf2(X:Cx)(r:V->Hp->(Bool->Hp->Prop)->Prop):Prop:=
 ∀(pins:List (Addr×Obj)) (s:Shared) (U:St) (H:Hp) (x:V) (v:Value) (Q:Bool->Hp->Prop),Inv X pins U H s->RelV x v->r x H Q->
  wpAny (model X.prog X.w) X.A (truthy v) (TP X pins U Q) X.xe s
def tOp(r:R2)(ta tb:TE):TE:=λU H Q=>ta U H λx H1=>tb U H1 λy H2=>r x y H2 Q
def tUn(r:V->Hp->VK->Prop)(ta:TE):TE:=λU H Q=>ta U H λx H1=>r x H1 Q
def rI(C:Int->Int->Prop)(g:Int->Int->V):R2:=λx y H Q=>∃i j,x=.int i/\y=.int j/\C i j/\Q (g i j) H
def rI0(g:Int->Int->V):R2:=λx y H Q=>∃i j,x=.int i/\y=.int j/\Q (g i j) H
def rU(g:Int->V):V->Hp->VK->Prop:=λx H Q=>∃i,x=.int i/\Q (g i) H
section
variable {X:Cx} {a b c:Expr} {ta tb tc:TE} {pos:Pos}
def Zv(ha:PE X a ta)(hb:PE X b tb){R:V->V->Hp->Prop}(I:Inv X pins U H s)
  (h:ta U H λx H1=>tb U H1 λy H2=>R x y H2){Q:Value->Shared->Prop}{f:Value->Value->Sem Value}
  (hf:∀v u s2 x y H2,Inv X pins U H2 s2->RelV x v->RelV y u->R x y H2->wpAny (model X.prog X.w) X.A (f v u) Q X.xe s2):
  wpAny (model X.prog X.w) X.A (eval a X.env) (λv s₁=>wpAny (model X.prog X.w) X.A (eval b X.env) (λu s₂=>wpAny (model X.prog X.w) X.A (f v u) Q X.xe s₂) X.xe s₁) X.xe s:=by
 refine thn (ha pins s U H _ I h) λv s1 ⟨x,H1,I1,r1,q1⟩=>?_;refine thn (hb pins s1 U H1 _ I1 q1) λu s2 ⟨y,H2,I2,r2,q2⟩=>?_;exact hf v u s2 x y H2 I2 r1 r2 q2
def Jyq(ho:OpR X (F0 op) r)(ha:PE X a ta)(hb:PE X b tb):PE X (.BinOp a op b pos) (tOp r ta tb):=by
 intro pins s U H Q I h;exact wpAny_BinOp (Zv ha hb I h λv u s2 x y H2 I2 rx ry q=>ho pins s2 U H2 x y v u Q I2 rx ry q)
def Jyo{r:V->Hp->VK->Prop}(ho:UnR X (unaryOp op) r)(ha:PE X a ta):PE X (.UnaryOp op a pos) (tUn r ta):=by
 intro pins s U H Q I h;exact Rf (thn (ha pins s U H _ I h) λv s1 ⟨x,H1,I1,r1,q1⟩=>ho pins s1 U H1 x v Q I1 r1 q1)
def opI{f:Value->Value->Sem Value}{C:Int->Int->Prop}{g:Int->Int->Int}
  (rule:∀(i j:Int) (t u:Tok) (s:Shared) (Q:Value->Shared->Prop) (E:Value->Shared->Prop),C i j->Q (.int (g i j) s.toks) {s with toks:=s.toks+1}->wpAny (model X.prog X.w) X.A (f (.int i t) (.int j u)) Q E s):
  OpR X f (rI C λi j=>.int (g i j)):=by
 intro pins s U H x y v u Q I rx ry h;obtain⟨i,j,rfl,rfl,hc,q⟩:=h;obtain⟨t,rfl⟩:=rx;obtain⟨t',rfl⟩:=ry;exact rule i j t t' s _ _ hc ⟨.int (g i j),H,I.tok _,⟨_,rfl⟩,q⟩
def Wah{f:Value->Value->Sem Value}{g:Int->Int->Int}
  (rule:∀(i j:Int) (t u:Tok) (s:Shared) (Q:Value->Shared->Prop) (E:Value->Shared->Prop),Q (.int (g i j) s.toks) {s with toks:=s.toks+1}->wpAny (model X.prog X.w) X.A (f (.int i t) (.int j u)) Q E s):
  OpR X f (rI0 λi j=>.int (g i j)):=by
 intro pins s U H x y v u Q I rx ry h;obtain⟨i,j,rfl,rfl,q⟩:=h;obtain⟨t,rfl⟩:=rx;obtain⟨t',rfl⟩:=ry;exact rule i j t t' s _ _ ⟨.int (g i j),H,I.tok _,⟨_,rfl⟩,q⟩
def Yq{f:Value->Value->Sem Value}{g:Int->Int->Bool}
  (rule:∀(i j:Int) (t u:Tok) (s:Shared) (Q:Value->Shared->Prop) (E:Value->Shared->Prop),Q (.bool (g i j)) s->wpAny (model X.prog X.w) X.A (f (.int i t) (.int j u)) Q E s):
  OpR X f (rI0 λi j=>.bl (g i j)):=by
 intro pins s U H x y v u Q I rx ry h;obtain⟨i,j,rfl,rfl,q⟩:=h;obtain⟨t,rfl⟩:=rx;obtain⟨t',rfl⟩:=ry;exact rule i j t t' s _ _ ⟨.bl (g i j),H,I,rfl,q⟩
def Wf3(i j:Int):Prop:=0<=j/\j<=1000000/\i.natAbs<2^64
def Y2(i j:Int):Prop:=(-(2^64)<i/\i<2^64)\/(-(2^64)<j/\j<2^64)
def Y2.ok(h:Y2 i j):IntMulOk i j:=by
 rcases h with⟨h1,h2⟩|⟨h1,h2⟩
 ·exact .of_left (intBits_le_64 h1 h2)
 ·exact .of_right (intBits_le_64 h1 h2)
def Jjr(k:Nat):(0:Int)<=2^k:=by
 rw[two_pow_cast];exact Lk _
def Jv2:OpR X (F0 .Add) (rI0 λi j=>.int (i+j)):=Wah λ_ _ _ _ _ _ _ q=>add_int q
def Jvw:OpR X (F0 .Sub) (rI0 λi j=>.int (i-j)):=Wah λ_ _ _ _ _ _ _ q=>sub_int q
def Jvz:OpR X (F0 .Mod) (rI (λ_ j=>0<j) λi j=>.int (i%j)):=opI λi j _ _ _ _ _ hc q=>by
 have h1:(0:Int)<j:=hc;exact mod_int' (by lia) (by rw[Int.fmod_eq_emod_of_nonneg i (by lia)];exact q)
def Jvy:OpR X (F0 .Pow) (rI Wf3 λi j=>.int (i^j.toNat)):=opI λ_ _ _ _ _ _ _ hc q=>pow_int_small hc.1 hc.2.1 hc.2.2 q
def Jvx:OpR X (F0 .RShift) (rI (λ_ j=>0<=j) λi j=>.int (i/2^j.toNat)):=opI λi j _ _ _ _ _ hc q=>
 rshift_int hc (by rw[Nx i (Jjr _)];exact q)
def unI{f:Value->Sem Value}{g:Int->Int}
  (rule:∀(i:Int) (t:Tok) (s:Shared) (Q:Value->Shared->Prop) (E:Value->Shared->Prop),Q (.int (g i) s.toks) {s with toks:=s.toks+1}->wpAny (model X.prog X.w) X.A (f (.int i t)) Q E s):
  UnR X f (rU λi=>.int (g i)):=by
 intro pins s U H x v Q I rx h;obtain⟨i,rfl,q⟩:=h;obtain⟨t,rfl⟩:=rx;exact rule i t s _ _ ⟨.int (g i),H,I.tok _,⟨_,rfl⟩,q⟩
def Jun:UnR X (unaryOp .USub) (rU λi=>.int (-i)):=unI λ_ _ _ _ _ q=>neg_int q
end
section
variable {X:Cx} {a b c:Expr} {ta tb tc:TE} {pos:Pos}
def Jqr(I:Inv X pins U H s)(q:Q (.bl k) H)(e:k=k'):EP X pins U Q (.bool k') s:=by
 subst e;exact⟨.bl k,H,I,rfl,q⟩
def Jyu:OpR X (Dz .Lt) (rI0 λi j=>.bl (decide (i<j))):=Yq λ_ _ _ _ _ _ _ q=>lt_int q
def Jyv:OpR X (Dz .LtE) (rI0 λi j=>.bl (decide (i<=j))):=Yq λ_ _ _ _ _ _ _ q=>le_int q
def Jyw:OpR X (Dz .Gt) (rI0 λi j=>.bl (decide (j<i))):=Yq λ_ _ _ _ _ _ _ q=>gt_int q
def Jyx:OpR X (Dz .GtE) (rI0 λi j=>.bl (decide (j<=i))):=Yq λ_ _ _ _ _ _ _ q=>ge_int q
def Jv0:OpR X (Dz .Is) (λx y H Q=>y=.non/\Q (.bl (decide (x=.non))) H):=by
 intro pins s U H x y v u Q I rx ry h;obtain⟨rfl,q⟩:=h;cases ry;refine is_none_gen (Jqr I q ?_);cases x<;>first
  |(cases rx;rfl)
  |(obtain⟨t,rfl⟩:=rx;rfl)
def Jst:OpR X (Dz .IsNot) (λx y H Q=>y=.non/\Q (.bl (!decide (x=.non))) H):=by
 intro pins s U H x y v u Q I rx ry h;obtain⟨rfl,q⟩:=h;cases ry;refine isnot_none_gen (Jqr I q ?_);cases x<;>first
  |(cases rx;rfl)
  |(obtain⟨t,rfl⟩:=rx;rfl)
def We8(b:Expr)(h:op≠ .In:=by decide)(h2:op≠ .NotIn:=by decide):Hr op b=false:=by
 have e1:(op==CmpOp.In)=false:=by cases op<;>first|rfl|exact absurd rfl h
 have e2:(op==CmpOp.NotIn)=false:=by cases op<;>first|rfl|exact absurd rfl h2
 cases b<;>simp[Hr,e1,e2]
def Jsp(ho:OpR X (Dz op) r)(ha:PE X a ta)(hb:PE X b tb)(hm:Hr op b=false):PE X (.Compare a [op] [b] pos) (tOp r ta tb):=by
 intro pins s U H Q I h;exact wpAny_Compare1 (Zv ha hb I h λv u s2 x y H2 I2 rx ry q=>ho pins s2 U H2 x y v u Q I2 rx ry q) hm
def Y3(t:TE):TT:=λU H Q=>t U H λx H'=>∃k,x=.bl k/\Q k H'
def Jr7(ho:OpR X (Dz op) r)(ha:PE X a ta)(hb:PE X b tb)(hm:Hr op b=false):PT X (.Compare a [op] [b] pos) (Y3 (tOp r ta tb)):=by
 intro pins s U H Q I h;refine wpAny_isTrue_Compare1 (thn (ha pins s U H _ I h) λv s1 ⟨x,H1,I1,r1,q1⟩=>thn (hb pins s1 U H1 _ I1 q1) λu s2 ⟨y,H2,I2,r2,q2⟩=>
  thn (ho pins s2 U H2 x y v u _ I2 r1 r2 q2) λc s3 ⟨z,H3,I3,r3,k,e,q3⟩=>?_) hm
 subst e;cases r3;exact Dn ⟨H3,I3,q3⟩
def Xd(r r':R2)(ta tb tc:TE):TE:=λU H Q=>ta U H λx H1=>tb U H1 λy H2=>r x y H2 λz H3=>∃k,z=.bl k/\
 (if k=true then tc U H3 λw' H4=>r' y w' H4 Q else Q (.bl false) H3)
theorem Jod(ho:OpR X (Dz op) r)(ho':OpR X (Dz op') r')(ha:PE X a ta)(hb:PE X b tb)(hc:PE X c tc)
  (hm:lastMarks [op,op'] [b,c]=false:=by with_unfolding_all rfl):PE X (.Compare a [op,op'] [b,c] pos) (Xd r r' ta tb tc):=by
 intro pins s U H Q I h;refine Compare_chain (thn (ha pins s U H _ I h) λv s1 ⟨x,H1,I1,r1,q1⟩=>chain_link (thn (hb pins s1 U H1 _ I1 q1) λu s2 ⟨y,H2,I2,r2,q2⟩=>
  thn (ho pins s2 U H2 x y v u _ I2 r1 r2 q2) λd s3 ⟨z,H3,I3,r3,k,e,q3⟩=>?_)) hm
 subst e;cases r3;refine Dn ?_;cases k with
 |false=>exact ite_ff ⟨.bl false,H3,I3,rfl,q3⟩
 |true=>exact ite_tt (chain_last (thn (hc pins s3 U H3 _ I3 q3) λw' s4 ⟨z',H4,I4,r4,q4⟩=>ho' pins s4 U H4 y z' u w' Q I4 r2 r4 q4))
theorem Jny(ho:OpR X (Dz op) r)(ho':OpR X (Dz op') r')(ha:PE X a ta)(hb:PE X b tb)(hc:PE X c tc)
  (hm:lastMarks [op,op'] [b,c]=false:=by with_unfolding_all rfl):PT X (.Compare a [op,op'] [b,c] pos) (Y3 (Xd r r' ta tb tc)):=by
 intro pins s U H Q I h;refine isTrue_chain (thn (ha pins s U H _ I h) λv s1 ⟨x,H1,I1,r1,q1⟩=>test_link (thn (hb pins s1 U H1 _ I1 q1) λu s2 ⟨y,H2,I2,r2,q2⟩=>
  thn (ho pins s2 U H2 x y v u _ I2 r1 r2 q2) λd s3 ⟨z,H3,I3,r3,k,e,q3⟩=>?_)) hm
 subst e;cases r3;refine Dn ?_;cases k with
 |false=>
  obtain⟨k',e',q'⟩:=q3;cases e';exact ite_ff ⟨H3,I3,q'⟩
 |true=>
  refine ite_tt (test_last (thn (hc pins s3 U H3 _ I3 q3) λw' s4 ⟨z',H4,I4,r4,q4⟩=>thn (ho' pins s4 U H4 y z' u w' _ I4 r2 r4 q4) λd' s5 ⟨z2,H5,I5,r5,k2,e2,q5⟩=>?_));subst e2;cases r5;exact Dn ⟨H5,I5,q5⟩
def Yy(K:Af)(x:V)(H:Hp)(k:Bool):Prop:=
 match x with
 |.non=>k=false
 |.bl b=>k=b
 |.int i=>k=(i !=0)
 |.str y=>y.length<=sizeLine/\k=((y.length:Int) !=0)
 |.byt y=>y.size<=sizeLine/\k=((y.size:Int) !=0)
 |.ref p=>(∃xs,SqL K H p xs/\k= !xs.isEmpty)\/(∃xs,SqT K H p xs/\k= !xs.isEmpty)\/∃kvs,H p=some (.dK kvs)/\k= !kvs.isEmpty
 |_=>False
theorem Jkc{κ:Type}{kvs:List (κ×V)}{vs:List (κ×Value)}(r:KV kvs vs):(!vs.isEmpty)= !kvs.isEmpty:=by
 cases r<;>rfl
def Jfc{xs:List V}{its:List Value}(r:Vals xs its):(!its.toArray.isEmpty)= !xs.isEmpty:=by
 cases r<;>simp
def Jg7:(sizeLine:Nat)<2^63:=by rw[G4];decide
theorem Jpv:Wf2 X (λx H Q=>∃k,Yy X.K x H k/\Q k H):=by
 intro pins s U H x v Q I rx h;obtain⟨k,e,q⟩:=h;have hl:=Jg7;have hs:sizeLine=16777216:=G4;cases x with
 |non=>
  cases rx;have e':k=false:=e;subst e';exact truthy_none ⟨H,I,q⟩
 |bl b=>
  cases rx;have e':k=b:=e;subst e';exact Dn ⟨H,I,q⟩
 |int i=>
  obtain⟨t,rfl⟩:=rx;have e':k=(i !=0):=e;subst e';exact PySem.P.truthy_int ⟨H,I,q⟩
 |str y=>
  obtain⟨t,rfl⟩:=rx;obtain⟨hy,e'⟩:y.length<=sizeLine/\k=((y.length:Int) !=0):=e;subst e';exact PySem.P.truthy_str (by lia) ⟨H,I.tok _,q⟩
 |byt y=>
  obtain⟨t,rfl⟩:=rx;obtain⟨hy,e'⟩:y.size<=sizeLine/\k=((y.size:Int) !=0):=e;subst e';exact PySem.W.truthy_bytes (by lia) ⟨H,I.tok _,q⟩
 |ref p=>
  cases rx;have e':(∃xs,SqL X.K H p xs/\k= !xs.isEmpty)\/(∃xs,SqT X.K H p xs/\k= !xs.isEmpty)\/∃kvs,H p=some (.dK kvs)/\k= !kvs.isEmpty:=e;rcases e' with⟨xs,hx,e'⟩|⟨xs,hx,e'⟩|⟨kvs,hx,e'⟩
  ·subst e';obtain⟨its,r,pl,hz⟩:=I.list hx;have hlen:=r.length;exact wpAny_truthy_list pl.isList (by simp only[Ap];lia) ⟨H,I.tok _,by rw[Jfc r];exact q⟩
  ·subst e';obtain⟨its,r,pl,hz⟩:=I.tuple hx;have hlen:=r.length;exact truthy_tuple pl (by simp only[Ap];lia) ⟨H,I.tok _,by rw[Jfc r];exact q⟩
  ·subst e';obtain⟨hz,hS,vs,r,m⟩:kvs.length<=sizeLine/\(p==sysModules)=false/\∃vs,KV kvs vs/\s.heap.DictOf (mixKind X.prog X.w) p vs:=I.hok p _ hx;have hlen:kvs.length=vs.length:=Ce r;exact wpAny_truthy_dict hS m (by lia) ⟨H,I.tok _,by rw[Jkc r];exact q⟩
 |_=>exact(show False from e).elim
def Jnx(ha:PE X a ta)(he:∀whole,isTrue a X.env whole=(do let v<-whole;Mw a.pos;holding [v] (truthy v))):
  PT X a (λU H Q=>ta U H λx H'=>∃k,Yy X.K x H' k/\Q k H'):=by
 intro pins s U H Q I h;exact isTrue_plain (thn (ha pins s U H _ I h) λv s1 ⟨x,H1,I1,r1,q1⟩=>Jpv pins s1 U H1 x v Q I1 r1 q1) (he _)
theorem vals1(r:Vals [x] us):∃u,us=[u]/\RelV x u:=by
 cases r with
 |cons r1 r2=>cases r2;exact⟨_,rfl,r1⟩
theorem vals2(r:Vals [x,y] us):∃u w',us=[u,w']/\RelV x u/\RelV y w':=by
 cases r with
 |cons r1 r2=>
  cases r2 with
  |cons r3 r4=>cases r4;exact⟨_,_,rfl,r1,r3⟩
def Jpg:Vc X (.builtin "abs") (λxs H Q=>∃i,xs=[.int i]/\Q (.int (if i<0 then -i else i)) H):=by
 intro pins s U H xs us Q I r h;obtain⟨i,rfl,q⟩:=h;obtain⟨u,rfl,t,rfl⟩:=vals1 r;exact call_abs_int λu tk=>⟨.int (if i<0 then -i else i),H,I.tok _,⟨_,rfl⟩,q⟩
def Jm0(hc:X.calm=true):Vc X (.builtin "max") (λxs H Q=>∃i j,xs=[.int i,.int j]/\Q (.int (if j>i then j else i)) H):=by
 intro pins s U H xs us Q I r h;obtain⟨i,j,rfl,q⟩:=h;obtain⟨u,w',rfl,⟨t,rfl⟩,⟨t',rfl⟩⟩:=vals2 r;refine max_two_ints (I.ok.hd hc) λh' tk k=>⟨_,H,I.kept k,?_,q⟩
 by_cases hj:j>i
 ·rw[if_pos hj,if_pos hj];exact⟨_,rfl⟩
 ·rw[if_neg hj,if_neg hj];exact⟨_,rfl⟩
def Jmz(hc:X.calm=true):Vc X (.builtin "min") (λxs H Q=>∃i j,xs=[.int i,.int j]/\Q (.int (if j<i then j else i)) H):=by
 intro pins s U H xs us Q I r h;obtain⟨i,j,rfl,q⟩:=h;obtain⟨u,w',rfl,⟨t,rfl⟩,⟨t',rfl⟩⟩:=vals2 r;refine min_two_ints (I.ok.hd hc) λh' tk k=>⟨_,H,I.kept k,?_,q⟩
 by_cases hj:j<i
 ·rw[if_pos hj,if_pos hj];exact⟨_,rfl⟩
 ·rw[if_neg hj,if_neg hj];exact⟨_,rfl⟩
def Jhm:Vc X (.type "int") (λxs H Q=>(∃i,xs=[.int i]/\Q (.int i) H)\/∃k,xs=[.bl k]/\Q (.int (if k then 1 else 0)) H):=by
 intro pins s U H xs us Q I r h;rcases h with⟨i,rfl,q⟩|⟨k,rfl,q⟩
 ·obtain⟨u,rfl,t,rfl⟩:=vals1 r;exact call_int_int ⟨.int i,H,I,⟨_,rfl⟩,q⟩
 ·obtain⟨u,rfl,r1⟩:=vals1 r;cases r1;exact call_int_bool ⟨.int (if k then 1 else 0),H,I.tok _,⟨_,rfl⟩,q⟩
end
structure Xg(h:Heap)(x dx C:Addr)(mA:Str->Option Value):Prop where
 obj:h.get? x=some (Em C dx)
 ns:h.Ns1 dx mA
 ne:dx≠x
def Jl2{h:Heap}{mA:Str->Option Value}(n:h.Ns1 dx mA):∃od,h.get? dx=some od/\∀name,Jx name od=some (mA name):=by
 obtain⟨o,es,ep,ho,hd,hk,_,hm⟩:=n;refine⟨o,ho,λname=>?_⟩;have e:=hm name;unfold nsFind findBy at e;rw[<-Array.find?_toList]at e;unfold Jx;rw[hd];dsimp only;split
 ·rename_i y q;rw[q]at e;exact congrArg some e
 ·rename_i q;rw[q]at e;have a:es.toList.any (·.refKey)=false:=by
   rw[Ly];intro y hy;obtain⟨z,t,hkey⟩:=hk y (C7.mp hy);simp[DictEntry.refKey,hkey]
  have a':¬es.toList.any (·.refKey)=true:=by rw[a];exact Az
  rw[if_neg a'];exact congrArg some e
def Xg.look{mA:Str->Option Value}(I:Xg h x dx C mA):∃od,PySem.W.InstAt h x (Em C dx) C (some od)/\∀name,Jx name od=some (mA name):=
 let⟨od,ho,hl⟩:=Jl2 I.ns
 ⟨od,⟨I.obj,rfl,rfl,ho⟩,hl⟩
section
variable {prog:Program} {w:World} {A:Bl} {E:Value->Shared->Prop} {s:Shared} {K:Af} {x dx C f:Addr} {mA:Str->Option Value} {name:Str} {v:Value}
def get_map{Q:Value->Shared->Prop}(X:K.In s.heap)(I:Xg s.heap x dx C mA)(hg:G1 K C name=true)(hh:Ib K C=true)
  (ha:Cw K (.ref C) name=some none)(hv:mA name=some v)(hv':P2 v=true)(h:Q v {s with toks:=s.toks+1}):
  wpAny (model prog w) A (getAttr (.ref x) name expr) Q E s:=by
 obtain⟨od,J,hl⟩:=I.look;exact PySem.W.get_value X J (J3 hg).1 (PySem.W.findObj_own hh ha rfl (by rw[hl,hv])) hv' h
def Jo6{Q:Value×List Value->Shared->Prop}(X:K.In s.heap)(I:Xg s.heap x dx C mA)(hg:G1 K C name=true)
  (hf:Cw K (.ref C) name=some (some (.ref f)))(ht:Jk K (.ref f)=true)(hv:mA name=none)(h:Q (.ref f,[.ref x]) s):
  wpAny (model prog w) A (getMethod (.ref x) name pl) Q E s:=by
 obtain⟨od,J,hl⟩:=I.look;exact PySem.W.method_fn X J (J3 hg).1 (J3 hg).2 hf (beq_iff_eq.mp ht) (by show(Jx name od).map (·.isSome)=some false;rw[hl,hv];rfl) h
def Jru{ns:List Str}{Q:Unit->Shared->Prop}(X:K.In s.heap)(I:Xg s.heap x dx C mA)
  (hs:Cw K (.ref C) "__setattr__"=some (some (.builtin "object.__setattr__")))(hp:K1 K C=true)(ht:L3 K C name=some none)(hh:Ib K C=true)
  (hw:Oe mA ns)(hsz:ns.length<=sizeLine)
  (h:∀h',Xg h' x dx C (λy=>if y=name then some v else mA y)->Ct dx s.heap h'->Q () {s with heap:=h',toks:=s.toks+2}):
  wpAny (model prog w) A (setAttr (.ref x) name v) Q E s:=by
 obtain⟨od,J,hl⟩:=I.look;refine PySem.W.set_plain X J hs (PySem.W.osa_open (s:={s with toks:=s.toks+1}) (r:=none) X J hp ht λb=>?_);obtain⟨cd,hc,hd'⟩:=PySem.W.any_some hh;have hx:s.heap.get? x=some ⟨.ref C,some dx,.plain,#[]⟩:=I.obj;refine Aa (Ac (Aa (Aa (wpAny_loadPart hx (Aa (PySem.W.Looks.here (s:={s with toks:=s.toks+1}) (PySem.W.looks_clsIn X hc) ?_))))));rw[hd'];refine Ac (a:=some dx) (Aa (Ac (Aa ?_)));refine wpAny_nsSet1 (s:={s with toks:=s.toks+1}) I.ns λh' hn2 hs2=>?_;obtain⟨oD,esD,epD,hoD,hdD,hcD⟩:=hn2.count (PySem.Within.cons name v hw);refine Aa (wpAny_lookBehind hoD (by rw[hdD];exact pastItsLine_dict (Bw hcD (by rw[A7];lia))) ?_);exact Ac (h _ ⟨(hs2.2 _ (Eb I.ne)).trans I.obj,hn2,I.ne⟩ hs2)
def Jok{R:Lg->Shared->Prop}(X:K.In s.heap)(hm:Jn K C=true)
  (hi:Cw K (.ref C) "__init__"=some (some (.ref f)))(hf:PySem.W.typeIn K (.ref f)=some (.type "function"))
  (h:Gm (model prog w) (A.under (.builtin "type.__call__" ⟨.ref C::vs,kw⟩)) (.call (.ref f) ⟨.ref (s.heap.objs.size+1)::vs,kw⟩) (PySem.W.InitBack (s.heap.objs.size+1) R)
   {s with heap:=(s.heap.push Dj).push (Em C s.heap.objs.size)}):
  Gm (model prog w) A (.call (.ref C) ⟨vs,kw⟩) R s:=by
 obtain⟨hh,g,d,t,os⟩:=s;exact PySem.W.make_core (PySem.W.makes_of X hm) (PySem.W.looks_findIn X hi) (λself=>PySem.W.bind_fn X self hf) (.inl rfl) h
end
noncomputable def Vm(f:Str)(v:V):List (Str×V)->List (Str×V)
 |[]=>[(f,v)]
 |(g,x)::r=>if g=f then(g,v)::r else(g,x)::Vm f v r
theorem Jeb(f g:Str)(v:V):∀fs:List (Str×V),(Vm f v fs).lookup g=if g=f then some v else fs.lookup g
 |[]=>by
  show Ew g [(f,v)]=_
  by_cases h:g=f
  ·have hb:(g==f)=true:=beq_iff_eq.mpr h;simp only[Ew,hb,if_pos h]
  ·have hb:(g==f)=false:=beq_eq_false_iff_ne.mpr h;simp only[Ew,hb,if_neg h]
 |(k,x)::r=>by
  have ih:=Jeb f g v r;rw[show Vm f v ((k,x)::r)=(if k=f then(k,v)::r else(k,x)::Vm f v r)from rfl]
  by_cases hk:k=f
  ·rw[if_pos hk]
   by_cases h:g=k
   ·have hb:(g==k)=true:=beq_iff_eq.mpr h;simp only[Ew,hb,if_pos (h.trans hk)]
   ·have hb:(g==k)=false:=beq_eq_false_iff_ne.mpr h;simp only[Ew,hb,if_neg (λe:g=f=>h (e.trans hk.symm))]
  ·rw[if_neg hk]
   by_cases h:g=k
   ·have hb:(g==k)=true:=beq_iff_eq.mpr h;simp only[Ew,hb,if_neg (λe:g=f=>hk (h.symm.trans e))]
   ·have hb:(g==k)=false:=beq_eq_false_iff_ne.mpr h;simp only[Ew,hb];exact ih
theorem Jef(f:Str)(v:V):∀fs:List (Str×V),f∈(Vm f v fs).map (·.1)/\∀g,g∈fs.map (·.1)->g∈(Vm f v fs).map (·.1)
 |[]=>⟨by simp[Vm],λg h=>by simp at h⟩
 |(k,x)::r=>by
  obtain⟨i1,i2⟩:=Jef f v r;rw[show Vm f v ((k,x)::r)=(if k=f then(k,v)::r else(k,x)::Vm f v r)from rfl]
  by_cases hk:k=f
  ·rw[if_pos hk];subst hk;exact⟨by simp,λg h=>by simpa using h⟩
  ·rw[if_neg hk];refine⟨?_,λg h=>?_⟩
   ·rw[Aw];exact Ay _ i1
   ·rw[Aw]at h ⊢;rcases An.mp h with e|e
    ·exact An.mpr (.inl e)
    ·exact Ay _ (i2 g e)
theorem Jed(f:Str)(v:V):∀fs:List (Str×V),(Vm f v fs).length<=fs.length+1
 |[]=>by simp[Vm]
 |(k,x)::r=>by
  have ih:=Jed f v r;rw[show Vm f v ((k,x)::r)=(if k=f then(k,v)::r else(k,x)::Vm f v r)from rfl]
  by_cases hk:k=f
  ·rw[if_pos hk,A7,A7];lia
  ·rw[if_neg hk,A7,A7];lia
theorem RelO.some_of(r:RelO (some v) o):∃u,o=some u/\RelV v u:=by
 cases o with
 |none=>exact(show False from r).elim
 |some u=>exact⟨u,rfl,r⟩
theorem RelO.none_of(r:RelO none o):o=none:=by
 cases o with
 |none=>rfl
 |some u=>exact(show False from r).elim
theorem Jmj(r:RelV v u):P2 u=true:=by
 cases v with
 |non=>cases(show u=Cf from r);rfl
 |bl b=>cases(show u=Hv b from r);rfl
 |int i=>obtain⟨t,e⟩:=(show∃t,u=Ds i t from r);cases e;rfl
 |str x=>obtain⟨t,e⟩:=(show∃t,u=N1 x t from r);cases e;rfl
 |byt b=>obtain⟨t,e⟩:=(show∃t,u=Ul b t from r);cases e;rfl
 |flt b=>obtain⟨t,e⟩:=(show∃t,u=Uk b t from r);cases e;rfl
 |ref a=>cases(show u=Aq a from r);rfl
 |ty n=>cases(show u=D1 n from r);rfl
section
variable {P:Program} {w:World} {H H':Hp} {h h':Heap} {a C dx:Addr} {fs fs':List (Str×V)}
def Jij(hok:HOk P w H h)(e:H a=some (.ins C dx fs)):∃mA,Xg h a dx C mA/\(∀f,RelO (fs.lookup f) (mA f))/\Oe mA (fs.map (·.1))/\fs.length<=1000/\H dx=some (.own a):=by
 obtain⟨d,z,ne,ob,mA,n,r,q⟩:=(show U1 P w H h a (.ins C dx fs)from hok a _ e)
 exact⟨mA,⟨ob,n,ne⟩,r,q,z,d⟩
end
structure Cls(K:Af)(C:Addr):Prop where
 pg:G1 K C Str.empty=true
 hd:Ib K C=true
 po:K1 K C=true
 sa:Cw K (.ref C) "__setattr__"=some (some (.builtin "object.__setattr__"))
def Cls.get{K:Af}{C:Addr}(c:Cls K C)(f:Str):G1 K C f=true:=c.pg
def Vn(K:Af)(C:Addr)(f:Str):Prop:=Cw K (.ref C) f=some none
theorem Vn.taker{K:Af}{C:Addr}{f:Str}(n:Vn K C f):L3 K C f=some none:=by
 unfold L3;rw[show Cw K (.ref C) f=some none from n];rfl
structure Meth(K:Af)(C:Addr)(m:Str)(f:Addr):Prop where
 at_:Cw K (.ref C) m=some (some (.ref f))
 fn:Jk K (.ref f)=true
 kp:Cv K (.ref f)=true
section
variable {X:Cx} {pins:List (Addr×Obj)} {U:St} {H:Hp} {s:Shared} {a C dx:Addr} {fs:List (Str×V)} {f:Str} {v:V} {A:Bl} {E:Value->Shared->Prop}
def Jke{Q:Value->Shared->Prop}(I:Inv X pins U H s)(e:H a=some (.ins C dx fs))(c:Cls X.K C)(n:Vn X.K C f)(l:fs.lookup f=some v)
  (h:∀u s',Inv X pins U H s'->RelV v u->Q u s'):wpAny (model X.prog X.w) A (getAttr (.ref a) f b) Q E s:=by
 obtain⟨mA,O,r,_,_,_⟩:=Jij I.hok e;obtain⟨u,hu,ru⟩:=RelO.some_of (v:=v) (o:=mA f) (by rw[<-l];exact r f);exact get_map I.kIn O (c.get f) c.hd n hu (Jmj ru) (h u _ (I.tok _) ru)
def Jfe{Q:Value×List Value->Shared->Prop}(I:Inv X pins U H s)(e:H a=some (.ins C dx fs))(c:Cls X.K C)(k:Meth X.K C m g)(l:fs.lookup m=none)
  (h:Q (.ref g,[.ref a]) s):wpAny (model X.prog X.w) A (getMethod (.ref a) m pl) Q E s:=by
 obtain⟨mA,O,r,_,_,_⟩:=Jij I.hok e;have hn:mA m=none:=RelO.none_of (by rw[<-l];exact r m);exact Jo6 I.kIn O (c.get m) k.at_ k.fn hn h
def Jjy{Q:Unit->Shared->Prop}(I:Inv X pins U H s)(e:H a=some (.ins C dx fs))(c:Cls X.K C)(n:Vn X.K C f)(hl:fs.length<1000)(ry:RelV y u)
  (h:∀s',Inv X pins U (upd H a (.ins C dx (Vm f y fs))) s'->Q () s'):wpAny (model X.prog X.w) A (setAttr (.ref a) f u) Q E s:=by
 obtain⟨mA,O,r,wi,_,ho⟩:=Jij I.hok e;have hz:(fs.map (·.1)).length<=sizeLine:=by rw[Ah,G4];lia
 refine Jru I.kIn O c.sa c.po n.taker c.hd wi hz λh' O' sb=>h _ ?_;have hd:∃o,h'.get? dx=some o:=let⟨o,_,_,e',_⟩:=O'.ns;⟨o,e'⟩;refine I.write (x:=a) (e:=dx) (by rw[e];exact E1) (.inr ho) (λb q hb z=>(sb.2 b hb).trans z) hd ?_;refine⟨by rw[Jac O.ne];exact ho,?_,O.ne,O'.obj,_,O'.ns,λg=>?_,λg hg=>?_⟩
 ·have:=Jed f y fs;lia
 ·show RelO ((Vm f y fs).lookup g) (if g=f then some u else mA g);rw[Jeb]
  by_cases q:g=f
  ·rw[if_pos q,if_pos q];exact ry
  ·rw[if_neg q,if_neg q];exact r g
 ·by_cases q:g=f
  ·rw[q];exact(Jef f y fs).1
  ·refine(Jef f y fs).2 g (wi g λz=>hg ?_);show(if g=f then some u else mA g)=none;rw[if_neg q];exact z
def Inv.made(I:Inv X pins U H s):Inv X pins U (upd (upd H s.heap.objs.size (.own (s.heap.objs.size+1))) (s.heap.objs.size+1) (.ins C s.heap.objs.size []))
  {s with heap:=(s.heap.push Dj).push (Em C s.heap.objs.size)}:=by
 have e1:(s.heap.push Dj).get? s.heap.objs.size=some Dj:=Aj s.heap rfl;have e2:((s.heap.push Dj).push (Em C s.heap.objs.size)).get? (s.heap.objs.size+1)=some (Em C s.heap.objs.size):=by
  have:=Aj (s.heap.push Dj) (o:=Em C s.heap.objs.size) rfl;rwa[Cd]at this
 have e3:(s.heap.push Dj).Ns s.heap.objs.size (λ_=>none):=⟨Dj,#[],_,e1,rfl,(λe he=>absurd he (by simp)),λ_=>rfl⟩
 have I1:=I.laid (a:=s.heap.objs.size) (o:=.own (s.heap.objs.size+1)) (h':=s.heap.push Dj) (t':=s.toks) (λb u q=>Ad _ q) (Ai _) ⟨_,e1⟩;refine I1.laid (a:=s.heap.objs.size+1) (o:=.ins C s.heap.objs.size []) (t':=s.toks) (λb u q=>Ad _ q) (L6 (Cd _ _)) ?_;have ne:s.heap.objs.size≠s.heap.objs.size+1:=As (Dg _);refine⟨by rw[Jac ne,Jaf],Cr _,ne,e2,λ_=>none,(Heap.Ns1.of_empty e3).at λo q=>Ad _ q,λ_=>E1,λy hy=>absurd rfl hy⟩
def Jt0{Q:Value->Shared->Prop}(hb:attributeBase e f env (eval e env)=eval e env)
  (h:wpAny (model prog w) A (eval e env) (λo s₁=>wpAny (model prog w) A (getAttr o f true) Q E s₁) E s):wpAny (model prog w) A (eval (.Attribute e f pos) env) Q E s:=
 Attribute_any_ h (by rw[arm_eval_Attribute,hb])
end
def Wev(K:Af)(ta:TE)(f:Str):TE:=λU H Q=>ta U H λx H1=>∃a C dx fs v,x=.ref a/\H1 a=some (.ins C dx fs)/\Cls K C/\Vn K C f/\fs.lookup f=some v/\Q v H1
def We0(K:Af)(ta tv:TE)(f:Str):TS:=λD U H=>tv U H λy H1=>ta U H1 λx H2=>∃a C dx fs,x=.ref a/\H2 a=some (.ins C dx fs)/\Cls K C/\Vn K C f/\fs.length<1000/\
 D.nx U (upd H2 a (.ins C dx (Vm f y fs)))
section
variable {X:Cx} {o e value:Expr} {f:Str} {pos pos' tpos:Pos} {ta tv:TE}
def Jvu(he:PE X e ta)(hb:attributeBase e f X.env (eval e X.env)=eval e X.env):PE X (.Attribute e f pos) (Wev X.K ta f):=by
 intro pins s U H Q I h;refine Jt0 hb (thn (he pins s U H _ I h) λu s1 ⟨x,H1,I1,rx,a,C,dx,fs,v,ex,ea,c,n,l,q⟩=>?_);subst ex;obtain rfl:u=Aq a:=rx;exact Jke I1 ea c n l λu' s2 I2 ru=>⟨v,H1,I2,ru,q⟩
def Jvh(ha:PE X o ta)(hv:PE X value tv)(hs:Gk value (some (.Attribute o f pos')) pos.line X.env=pure false):PS X (.Assign [.Attribute o f pos'] value pos) (We0 X.K ta tv f):=by
 intro pins s U H D I h;refine plainObj_wpAny_Assign_Attribute (thn (hv pins s U H _ I h) λu s1 ⟨y,H1,I1,ry,q⟩=>thn (ha pins s1 U H1 _ I1 q) λov s2 ⟨x,H2,I2,rx,a,C,dx,fs,ex,ea,c,n,l,q2⟩=>?_) hs;subst ex;obtain rfl:ov=Aq a:=rx;exact Jjy I2 ea c n l ry λs3 I3=>⟨U,_,I3,q2⟩
end
section
variable {X:Cx} {pins:List (Addr×Obj)} {U:St} {H:Hp} {s:Shared} {A:Bl} {E:Value->Shared->Prop} {Q:Value->Shared->Prop} {c:Value} {b:Bool}
end
structure U8(k:Nat)(A:Bl):Prop where
 hd:A.handled=none
 dp:A.depth+3*k+5<recursionLimit
 un:A.units+16*k+200<C0
def U8.mono(r:U8 k A)(h:j<=k):U8 j A:=⟨r.hd,by have:=r.dp;lia,by have:=r.un;lia⟩
def U8.deeper{A:Bl}(r:U8 (k+1) A)(env:Env):U8 k (A.deeper env):=
 ⟨r.hd,by have:=r.dp;show A.depth+1+3*k+5<_;lia,by have:=r.un;show A.units+3+16*k+200<_;lia⟩
def Jj6{A:Bl}:(A.under (.builtin "type.__call__" ⟨.ref C::us,kw⟩)).depth=A.depth+1:=by
 first|rfl|simp[N8,Code.weight,Code.isCreation,Code.isGuard,Code.isCaller,Code.frames,Ou,guardIds]
def Jj5{A:Bl}:(A.under (.builtin "type.__call__" ⟨.ref C::us,kw⟩)).units=A.units+1:=by
 first|rfl|simp[N8,Code.cUnits,Code.frames,Ou]
def U8.make{A:Bl}(r:U8 (k+1) A)(C:Addr)(us:List Value)(kw:List (Str×Value)):U8 k (A.under (.builtin "type.__call__" ⟨.ref C::us,kw⟩)):=
 ⟨r.hd,by have:=r.dp;rw[Jj6];omega,by have:=r.un;rw[Jj5];omega⟩
def U8.depth{A:Bl}(r:U8 k A):A.depth<recursionLimit:=by have:=r.dp;lia
def U8.units{A:Bl}(r:U8 k A):A.units+64<C0:=by have:=r.un;lia
def Xw:TA:=λ_ H Q=>Q [] H
def Xy(ta:TE)(tr:TA):TA:=λU H Q=>ta U H λx H1=>tr U H1 λxs H2=>Q (x::xs) H2
section
variable {X:Cx} {e:Expr} {es:List Expr} {te:TE} {t:TA} {pos:Pos}
def Je8:PA X [] Xw:=λ_ _ _ _ H Q I h=>Iu ⟨[],H,I,.nil,h⟩
def Jbv(ha:PE X e te)(hr:PA X es t)(hs:Bm (e::es) X.env=(false,eval e X.env)::Bm es X.env:=by rfl):PA X (e::es) (Xy te t):=by
 intro pos pins s U H Q I h;rw[hs];show wpAny _ _ (Qs ((false,eval e X.env)::D8 pos (Bm es X.env))) _ _ s;refine Hz (thn (ha pins s U H _ I h) λu s1 ⟨x,H1,I1,r1,q1⟩=>?_);exact thn (hr pos pins s1 U H1 _ I1 q1) λus s2 ⟨xs,H2,I2,r2,q2⟩=>⟨x::xs,H2,I2,.cons r1 r2,q2⟩
def Wek(t:TA):TE:=λU H Q=>t U H λxs H1=>xs.length<=sizeLine/\∀p,H1 p=none->Q (.ref p) (upd H1 p (.tup xs))
def Weq(t:TA):TE:=λU H Q=>t U H λxs H1=>xs.length<=sizeLine/\∀p,H1 p=none->Q (.ref p) (upd H1 p (.lst xs))
def Jvo{x1}(h:PA X es t):PE X (.Tuple es x1 pos) (Wek t):=by
 intro pins s U H Q I hq;refine wpAny_Tuple_spliced (thn (h pos pins s U H _ I hq) λus s1 ⟨xs,H1,I1,r,z,q⟩=>⟨by rw[<-r.length];exact z,?_⟩);have hf:H1 s1.heap.objs.size=none:=I1.hok.fresh (Ai _);refine⟨.ref s1.heap.objs.size,upd H1 s1.heap.objs.size (.tup xs),I1.laid (t':=s1.toks) (λb u e=>Ad _ e) (Ai _) ?_,rfl,q _ hf⟩;exact⟨z,us,r,⟨_,Aj _ rfl,rfl,_,rfl⟩⟩
def Jvs(h:PA X es t):PE X (.List es pos) (Weq t):=by
 intro pins s U H Q I hq;refine wpAny_List_spliced (thn (h pos pins s U H _ I hq) λus s1 ⟨xs,H1,I1,r,z,q⟩=>⟨by rw[<-r.length];exact z,?_⟩);have hf:H1 s1.heap.objs.size=none:=I1.hok.fresh (Ai _);refine⟨.ref s1.heap.objs.size,upd H1 s1.heap.objs.size (.lst xs),I1.laid (t':=s1.toks) (λb u e=>Ad _ e) (Ai _) ?_,rfl,q _ hf⟩;exact⟨z,us,0,r,Aj _ rfl⟩
end
abbrev Sp:=List V->Hp->VK->XK->Prop
abbrev CXT:=List Env->Hp->Shared->XK->Value->Shared->Prop
structure Xh(P:Program)(w:World)(K:Af)(mg:Str->Option Value)(base:Heap)(A:Bl)(outer:List Env)(s:Shared)(H:Hp):Prop where
 frames:A.frames=some outer
 mod:Mod K mg base
 bs:∀b o,base.get? b=some o->s.heap.get? b=some o/\H b=none
 bsz:base.objs.size<=s.heap.objs.size
 funs:s.heap.FunFrames base outer
 frf:∀b∈frs outer,H b=none
 hok:HOk P w H s.heap
 bare:Kr s.gens
def CE(outer:List Env)(P:Program)(w:World)(H:Hp)(s:Shared)(Q:VK)(u:Value)(s':Shared):Prop:=
 ∃v H',s'.os=s.os/\Kr s'.gens/\Un (frs outer) [] H H' s.heap s'.heap/\HOk P w H' s'.heap/\RelV v u/\Q v H'
def CR(CX:CXT)(outer:List Env)(P:Program)(w:World)(H:Hp)(s:Shared)(Q:VK)(E:XK)(r:Lg)(s':Shared):Prop:=
 match r with
 |.ok (.ret u)=>CE outer P w H s Q u s'
 |.ok _=>False
 |.error e=>CX outer H s E e s'
structure V1(P:Program)(w:World)(K:Af)(mg:Str->Option Value)(base:Heap)(CX:CXT)(k:Nat)(f:Addr)(fd:Hx)(ps:List Str)(sp:Sp):Prop where
 len:∀vs H Q E,sp vs H Q E->vs.length=ps.length
 run:∀(A:Bl) (outer:List Env) (s:Shared) (H:Hp) (args:Args) (us:List Value) (vs:List V) (Q:VK) (E:XK),U8 k A->Xh P w K mg base A outer s H->Ur s fd args (ps.zip us)->Vals vs us->sp vs H Q E->
  Gm (model P w) A (.call (.ref f) args) (CR CX outer P w H s Q E) s
def Xh.make{P:Program}{w:World}{K:Af}{mg:Str->Option Value}{base:Heap}{A:Bl}{outer:List Env}{s:Shared}{H:Hp}(e:Xh P w K mg base A outer s H)(C:Addr)(us:List Value)(kw:List (Str×Value)):
  Xh P w K mg base (A.under (.builtin "type.__call__" ⟨.ref C::us,kw⟩)) outer s H:=⟨by first|exact e.frames|(simpa [N8,Code.envs,Ou,pushEnvs]using e.frames),e.mod,e.bs,e.bsz,e.funs,e.frf,e.hok,e.bare⟩
section
variable {X:Cx} {pins:List (Addr×Obj)} {U:St} {H:Hp} {s s':Shared}
def Inv.env0(I:Inv X pins U H s):Xh X.prog X.w X.K X.mg X.base X.A X.stack s H:=
 ⟨I.ok.frames,I.ok.mod,I.bs,Bw I.ok.bsz I.sz,I.stack,I.stkFree,I.hok,I.bare⟩
def Inv.after(I:Inv X pins U H s)(h:CE X.stack X.prog X.w H s Q u s'):EP X pins U Q u s':=by
 obtain⟨v,H',os,bare,un,hok,r,q⟩:=h;obtain⟨hh,g,d,t,os'⟩:=s';obtain rfl:os'=s.os:=os;exact⟨v,H',I.call (h':=hh) (g':=g) (d':=d) (t':=t) (ch:=[]) un hok bare (λb z=>absurd z (by simp)),r,q⟩
end
def X0(sp:Sp)(dvs:List V)(E:XK)(t:TA):TE:=λU H Q=>t U H λvs H1=>sp (vs++dvs) H1 Q E
def Xx(C:Addr)(m:Str)(sp:Sp)(dvs:List V)(E:XK)(ta:TE)(t:TA):TE:=λU H Q=>ta U H λx H1=>∃a dx fs,x=.ref a/\H1 a=some (.ins C dx fs)/\fs.lookup m=none/\
 t U H1 λvs H2=>sp (x::(vs++dvs)) H2 Q E
def Z2(C:Addr)(sp:Sp)(dvs:List V)(E:XK)(t:TA):TE:=λU H Q=>t U H λvs H1=>∀x dx,H1 x=none->H1 dx=none->dx≠x->
 sp (.ref x::(vs++dvs)) (upd (upd H1 dx (.own x)) x (.ins C dx [])) (λv H2=>v=.non/\Q (.ref x) H2) E
def Binds(K:Af)(fd:Hx)(ps:List Str)(ds:List Value):Prop:=
 ∀(s:Shared) (us:List Value),K.In s.heap->(us++ds).length=ps.length->Ur s fd ⟨us,[]⟩ (ps.zip (us++ds))
def Binds.all{K:Af}{fd:Hx}{ps:List Str}(h:∀us:List Value,us.length=ps.length->Rv fd ⟨us,[]⟩=pure (ps.zip us)):Binds K fd ps []:=λs us _ hl=>by
 rw[Gn]at hl ⊢;exact .of_eq (h us hl)
def Vy(CX:CXT)(X:Cx)(E:XK):Prop:=∀(pins:List (Addr×Obj)) (U:St) (H:Hp) (s:Shared) (e:Value) (s':Shared),Inv X pins U H s->CX X.stack H s E e s'->X.xe e s'
section
variable {X:Cx} {CX:CXT} {k:Nat} {f C:Addr} {fd:Hx} {ps:List Str} {sp:Sp} {dvs:List V} {ds:List Value} {E:XK} {x m:Str} {p pos apos:Pos} {e o:Expr} {es:List Expr} {ta:TE} {t:TA}
theorem Ji3(F:V1 X.prog X.w X.K X.mg X.base CX k f fd ps sp)(hr:U8 k X.A)(hb:Binds X.K fd ps ds)(hd:Vals dvs ds)(hx:Vy CX X E)
  (I:Inv X pins U H s)(r:Vals vs us)(h:sp (vs++dvs) H Q E):wpAny (model X.prog X.w) X.A (call (.ref f) us) (EP X pins U Q) X.xe s:=by
 have r2:Vals (vs++dvs) (us++ds):=r.append hd;have hl:(us++ds).length=ps.length:=by rw[<-r2.length];exact F.len _ _ _ _ h
 refine Th (Ft (F.run X.A X.stack s H ⟨us,[]⟩ (us++ds) (vs++dvs) Q E hr I.env0 (hb s us I.kIn hl) r2 h) λr s' hq=>?_);cases r with
 |error e=>exact hx pins U H s e s' I hq
 |ok fl=>
  cases fl with
  |ret u=>exact I.after hq
  |next=>exact D3 hq
  |brk=>exact D3 hq
  |cont=>exact D3 hq
def Jsq(F:V1 X.prog X.w X.K X.mg X.base CX k f fd ps sp)(hr:U8 k X.A)(hg:Gl X x)(hm:X.mg x=some (.ref f))(hk:Cv X.K (.ref f)=true)(hb:Binds X.K fd ps ds)(hd:Vals dvs ds)(hx:Vy CX X E)
  (ha:PA X (e::es) t)(hdb:(x==("__debug__":Str))=false:=by decide)(he:Bm (e::es) X.env=(false,eval e X.env)::Bm es X.env:=by rfl)(hpl:(D8 pos (Bm es X.env)).any (·.1)=false:=by rfl):
  PE X (.Call (.Name x p) (e::es) [] pos) (X0 sp dvs E t):=by
 intro pins s U H Q I h;refine G0 (Jfz I hg hm ?_ hdb);refine O8 (h₀:=X.base) I.ok.mod.kin hk (thn (ha pos pins s U H _ I h) λus s1 ⟨vs,H1,I1,r,q⟩=>⟨I1.kIn,?_⟩) he hpl;exact Ji3 F hr hb hd hx I1 r q
def Joe(F:V1 X.prog X.w X.K X.mg X.base CX k f fd ps sp)(hr:U8 k X.A)(hg:Gl X x)(hm:X.mg x=some (.ref f))(hk:Cv X.K (.ref f)=true)(hb:Binds X.K fd ps ds)(hd:Vals dvs ds)(hx:Vy CX X E)
  (hdb:(x==("__debug__":Str))=false:=by decide):PE X (.Call (.Name x p) [] [] pos) (X0 sp dvs E Xw):=by
 intro pins s U H Q I h;refine G0 (Jfz I hg hm ?_ hdb);exact Ka I.kIn hk (Ji3 (us:=[]) F hr hb hd hx I .nil h)
def Jsn(he:PE X o ta)(c:Cls X.K C)(hm:Meth X.K C m f)(F:V1 X.prog X.w X.K X.mg X.base CX k f fd ps sp)(hr:U8 k X.A)(hb:Binds X.K fd ps ds)(hd:Vals dvs ds)(hx:Vy CX X E)(ha:PA X (e::es) t)
  (hst:Bm (e::es) X.env=(false,eval e X.env)::Bm es X.env:=by rfl)(hpl:(D8 pos (Bm es X.env)).any (·.1)=false:=by rfl)
  (ht:eval (.Call (.Attribute o m apos) (e::es) [] pos) X.env=(do
   let ov<-eval o X.env
   Mw apos.atName
   let(f,first)<-holding [ov] (getMethod ov m pl)
   callWith pos f first (D8 pos (Bm (e::es) X.env)) (Jj pos (Gf [] X.env))):=by rfl):
  PE X (.Call (.Attribute o m apos) (e::es) [] pos) (Xx C m sp dvs E ta t):=by
 intro pins s U H Q I h;refine N0 (pl:=pl) (thn (he pins s U H _ I h) λu s1 ⟨x,H1,I1,rx,a,dx,fs,ex,ea,l,q⟩=>?_) ht;subst ex;obtain rfl:u=Aq a:=rx;refine Jfe I1 ea c hm l ?_;refine O8 (first:=[.ref a]) (h₀:=X.base) I.ok.mod.kin hm.kp (thn (ha pos pins s1 U H1 _ I1 q) λus s2 ⟨vs,H2,I2,r,q2⟩=>⟨I2.kIn,?_⟩) hst hpl;exact Ji3 (us:=.ref a::us) (vs:=.ref a::vs) F hr hb hd hx I2 (.cons rfl r) q2
def Jn6(he:PE X o ta)(c:Cls X.K C)(hm:Meth X.K C m f)(F:V1 X.prog X.w X.K X.mg X.base CX k f fd ps sp)(hr:U8 k X.A)(hb:Binds X.K fd ps ds)(hd:Vals dvs ds)(hx:Vy CX X E)
  (ht:eval (.Call (.Attribute o m apos) [] [] pos) X.env=(do
   let ov<-eval o X.env
   Mw apos.atName
   let(f,first)<-holding [ov] (getMethod ov m pl)
   callWith pos f first (D8 pos (Bm [] X.env)) (Jj pos (Gf [] X.env))):=by rfl):
  PE X (.Call (.Attribute o m apos) [] [] pos) (Xx C m sp dvs E ta Xw):=by
 intro pins s U H Q I h;refine N0 (pl:=pl) (thn (he pins s U H _ I h) λu s1 ⟨x,H1,I1,rx,a,dx,fs,ex,ea,l,q⟩=>?_) ht;subst ex;obtain rfl:u=Aq a:=rx;refine Jfe I1 ea c hm l ?_;exact Ka (first:=[.ref a]) I1.kIn hm.kp (Ji3 (us:=[.ref a]) (vs:=[.ref a]) F hr hb hd hx I1 (.cons rfl .nil) q)
structure Mk(K:Af)(C f:Addr):Prop where
 makes:Jn K C=true
 init:Cw K (.ref C) "__init__"=some (some (.ref f))
 fn:Jk K (.ref f)=true
 kp:Cv K (.ref C)=true
theorem Jns(M:Mk X.K C f)(F:V1 X.prog X.w X.K X.mg X.base CX k f fd ps sp)(hr:U8 (k+1) X.A)(hb:Binds X.K fd ps ds)(hd:Vals dvs ds)
  (hx:Vy CX X E)(I:Inv X pins U H s)(r:Vals vs us)
  (h:∀x dx,H x=none->H dx=none->dx≠x->sp (.ref x::(vs++dvs)) (upd (upd H dx (.own x)) x (.ins C dx [])) (λv H2=>v=.non/\Q (.ref x) H2) E):
  wpAny (model X.prog X.w) X.A (call (.ref C) us) (EP X pins U Q) X.xe s:=by
 have hq:=h (s.heap.objs.size+1) s.heap.objs.size (I.hok.fresh (Ks _)) (I.hok.fresh (Ai _)) (As (Dg _));have I2:=Inv.made (C:=C) I;have r2:Vals (V.ref (s.heap.objs.size+1)::(vs++dvs)) (Aq (s.heap.objs.size+1)::(us++ds)):=.cons rfl (r.append hd);have hl:(Aq (s.heap.objs.size+1)::us++ds).length=ps.length:=by
  have e:=r2.length;rw[F.len _ _ _ _ hq]at e;exact e.symm
 refine Th (Jok (f:=f) I.kIn M.makes M.init (beq_iff_eq.mp M.fn) (Ft (F.run _ X.stack _ _ ⟨Aq (s.heap.objs.size+1)::us,[]⟩ (Aq (s.heap.objs.size+1)::(us++ds)) _ _ E (hr.make C us [])
  (I2.env0.make C us []) (hb _ (Aq (s.heap.objs.size+1)::us) I2.kIn hl) r2 hq) λr s' hq'=>?_))
 cases r with
 |error e=>exact hx pins U _ _ e s' I2 hq'
 |ok fl=>
  cases fl with
  |ret u=>
   obtain⟨v,H',I3,rv,ev,q3⟩:=I2.after hq';subst ev;exact⟨rv,⟨V.ref (s.heap.objs.size+1),H',I3,rfl,q3⟩⟩
  |next=>exact D3 hq'
  |brk=>exact D3 hq'
  |cont=>exact D3 hq'
def Jn7(M:Mk X.K C f)(F:V1 X.prog X.w X.K X.mg X.base CX k f fd ps sp)(hr:U8 (k+1) X.A)(hg:Gl X x)(hm:X.mg x=some (.ref C))(hb:Binds X.K fd ps ds)(hd:Vals dvs ds)(hx:Vy CX X E)
  (hdb:(x==("__debug__":Str))=false:=by decide):PE X (.Call (.Name x p) [] [] pos) (Z2 C sp dvs E Xw):=by
 intro pins s U H Q I h;refine G0 (Jfz I hg hm ?_ hdb);exact Ka I.kIn M.kp (Jns (us:=[]) M F hr hb hd hx I .nil h)
end
section
variable {X:Cx} {CX:CXT} {k:Nat} {f C:Addr} {fd:Hx} {ps ks:List Str} {sp:Sp} {E:XK} {x m:Str} {p pos apos kpos:Pos} {e o:Expr} {es:List Expr} {kws:List Jv} {te ta:TE} {t tk:TA} {nm:Option Str}
variable {g:List Value->List Value->List Value} {gV:List V->List V->List V}
end
structure Vq(N P:List Str)(sc:Hw):Prop where
 kind:sc.kind=.function
 co:sc.isCoroutine=false
 gen:sc.isGenerator=false
 nd:N.Nodup
 pre:N.take P.length=P
 par:∀x∈P,sc.names.lookup x=some .local\/sc.names.lookup x=some .cell
 nofree:∀y∈sc.names,y.2≠ .free
theorem Jhp{kindOf:Str->Option E3}:∀{binds:List (Str×Value)} {m:Str->Option Value},(∀v,(x,v)∉binds)->Qd kindOf binds m x=m x
 |[],_,_=>rfl
 |(n,v)::r,m,h=>by
  unfold Qd;rw[Jhp λw hw=>h w (Ay _ hw)];split
  ·have:x≠n:=by rintro rfl;exact h v Bn
   simp[this]
  ·rfl
theorem Jhr{kindOf:Str->Option E3}:∀{binds:List (Str×Value)} {m:Str->Option Value},(∀v,(x,v)∉binds)->Qe kindOf binds m x=m x
 |[],_,_=>rfl
 |(n,v)::r,m,h=>by
  unfold Qe;rw[Jhr λw hw=>h w (Ay _ hw)];split
  ·rfl
  ·have:x≠n:=by rintro rfl;exact h v Bn
   simp[this]
theorem Jhq{kindOf:Str->Option E3}:∀{P:List Str} {vs:List Value} {i:Nat} {m:Str->Option Value},P.Nodup->P[i]? =some x->vs[i]? =some v->kindOf x=some .local->
  Qd kindOf (P.zip vs) m x=some v
 |[],_,_,_,_,h,_,_=>by simp at h
 |_::_,[],_,_,_,_,h,_=>by simp at h
 |p::P,w::vs,0,m,nd,h1,h2,hk=>by
  simp at h1 h2;subst h1;subst h2;show Qd kindOf ((p,w)::P.zip vs) m p=_;unfold Qd;rw[Jhp λv hv=>(Cm.mp nd).1 (Ms hv).1,if_pos hk];simp
 |p::P,w::vs,i+1,m,nd,h1,h2,hk=>by
  show Qd kindOf ((p,w)::P.zip vs) m x=_;unfold Qd;exact Jhq (i:=i) (Cm.mp nd).2 (by simpa using h1) (by simpa using h2) hk
theorem Jhs{kindOf:Str->Option E3}:∀{P:List Str} {vs:List Value} {i:Nat} {m:Str->Option Value},P.Nodup->P[i]? =some x->vs[i]? =some v->kindOf x≠some .local->
  Qe kindOf (P.zip vs) m x=some v
 |[],_,_,_,_,h,_,_=>by simp at h
 |_::_,[],_,_,_,_,h,_=>by simp at h
 |p::P,w::vs,0,m,nd,h1,h2,hk=>by
  simp at h1 h2;subst h1;subst h2;show Qe kindOf ((p,w)::P.zip vs) m p=_;unfold Qe;rw[Jhr λv hv=>(Cm.mp nd).1 (Ms hv).1,if_neg hk];simp
 |p::P,w::vs,i+1,m,nd,h1,h2,hk=>by
  show Qe kindOf ((p,w)::P.zip vs) m x=_;unfold Qe;exact Jhs (i:=i) (Cm.mp nd).2 (by simpa using h1) (by simpa using h2) hk
noncomputable def start(N:List Str)(vs:List V):St:=vs.map some++E5 (N.length-vs.length) none
noncomputable def Xs(CX:CXT)(P:Program)(w:World)(K:Af)(mg:Str->Option Value)(base:Heap)(N:List Str)(qual:Str)(scope:Hw)(f:Addr)(cd:Value)(A:Bl)(outer:List Env)(s:Shared)(H:Hp)(E:XK):Cx where
 prog:=P
 w:=w
 K:=K
 mg:=mg
 base:=base
 A:=A.deeper (Mj qual scope s.heap.objs.size f cd)
 N:=N
 s₀:=s
 H₀:=H
 env:=Mj qual scope s.heap.objs.size f cd
 outer:=outer
 stack:=Mj qual scope s.heap.objs.size f cd::outer
 ex:=[]
 calm:=true
 fn:=λ_=>true
 pn:=[]
 xe:=λe s'=>wpAny (model P w) (A.deeper (Mj qual scope s.heap.objs.size f cd)) (leaving (Mj qual scope s.heap.objs.size f cd) e) (λ_ s''=>CX outer H s E e s'') (λe' s''=>CX outer H s E e' s'') s'
def Jjo{sc:Hw}(h:sc.names.lookup x=some .cell):∃c,(cellsFrom n sc.names []).lookup x=some c:=by
 have q:=Nn sc.names n [] (.inl h);exact B9.mp q
def Jmb{CX:CXT}{P:Program}{w:World}{K:Af}{mg:Str->Option Value}{base:Heap}{N ps:List Str}{qual:Str}{scope:Hw}{f:Addr}{cd:Value}{A:Bl}{outer:List Env}{s s1:Shared}{H:Hp}{E:XK}{us:List Value}{vs:List V}
  (S:Vq N ps scope)(hd:A.handled=none)(e0:Xh P w K mg base A outer s H)(hl:vs.length=ps.length)(r:Vals vs us)
  (x:InCallC s s.heap.objs.size (Qd (Mj qual scope s.heap.objs.size f cd).kindOf (ps.zip us) λ_=>none) (cellsFrom (s.heap.objs.size+1) scope.names []) (Qe (Mj qual scope s.heap.objs.size f cd).kindOf (ps.zip us) λ_=>none) s1):
  Inv (Xs CX P w K mg base N qual scope f cd A outer s H E) [] (start N vs) H s1:=by
 have hpl:ps.length<=N.length:=by have:=congrArg I8 S.pre;rw[F6]at this;lia
 obtain⟨h1,tk,rfl,hk⟩:=x.done;have noA:∀b:Addr,b∉(Xs CX P w K mg base N qual scope f cd A outer s H E).ex:=λb z=>absurd (show b∈([]:List Addr)from z) (by simp);refine⟨⟨e0.mod,S.kind,rfl,rfl,Ai _,λy z c h1 h2=>?_,λy hy=>?_,λy c _ h=>?_,λ_=>hd,Around.frames_deeper e0.frames,.inr ⟨rfl,rfl⟩,λb z=>absurd z (noA b),e0.bs,e0.bsz,λb _ _=>noA b,λb z=>absurd z (noA b),e0.funs,e0.frf⟩,
  rfl,e0.bare,Un.kept hk,⟨_,x.toInCall.ns,λi y v h1 h2 h3=>?_⟩,λy c h=>⟨_,x.cell y c h⟩,e0.hok.fresh (Ai _),λy c h=>?_,λp hp=>absurd (show p∈([]:List (Addr×Obj))from hp) (by simp),e0.hok.kept hk,?_⟩
 ·exact name_of_addr x.apart (D7 h1) (D7 h2)
 ·have hy:scope.names.lookup y=some .cell\/scope.names.lookup y=some .free:=hy;rcases hy with hy|hy
  ·exact Jjo hy
  ·exact absurd rfl (S.nofree _ (D7 hy))
 ·exact Eg (x.above y c (D7 h))
 ·have hi:i<vs.length:=by
   unfold start at h2
   by_cases hi:i<vs.length
   ·exact hi
   ·rw[A1 (by simpa using hi)]at h2;rw[E6]at h2;split at h2<;>cases h2
  have ha:vs[i]? =some v:=by
   unfold start at h2;rw[A0 (by simpa using hi),Ao]at h2;cases e:vs[i]? with
   |none=>rw[e]at h2;cases h2
   |some a=>rw[e]at h2;cases h2;rfl
  obtain⟨u,hu,rv⟩:=r.get ha;have hp:ps[i]? =some y:=by
   rw[<-S.pre,Gj (by lia)];exact h1
  have ndP:ps.Nodup:=by rw[<-S.pre];exact S.nd.sublist (Q6 _ _)
  refine⟨u,rv,?_⟩;rcases S.par y (Ba hp)with k|k
  ·exact .inl ⟨k,Jhq ndP hp hu k⟩
  ·obtain⟨c,e⟩:=Jjo (n:=s.heap.objs.size+1) k;refine .inr ⟨.inl k,c,e,?_⟩;have q:=x.cell y c e;rw[Jhs ndP hp hu (by show scope.names.lookup y≠_;rw[k];decide)]at q;exact q
 ·exact e0.hok.fresh (Eg (x.above y c (D7 h)))
 ·unfold start;show _=N.length;rw[Bf,Ah,G8]
  lia
theorem Jzd{CX:CXT}{P:Program}{w:World}{K:Af}{mg:Str->Option Value}{base:Heap}{k:Nat}{f:Addr}{name qual:Str}{params:Arguments}{body:List Stmt}{scope:Hw}{dV kV doc pm cdv ct oc:Value}{an od:Option Addr}
  {osl:Array (Option Value)}{N ps:List Str}{sp:Sp}(lk:K.lookup f=some ⟨oc,od,.func (D9 name qual params body scope dV kV doc pm an cdv ct),osl⟩)(hcd:Fw K cdv qual=true)(S:Vq N ps scope)
  (len:∀vs H Q E,sp vs H Q E->vs.length=ps.length)
  (hbody:∀(A:Bl) (outer:List Env) (s:Shared) (H:Hp) (vs:List V) (Q:VK) (E:XK),U8 k (A.deeper (Mj qual scope s.heap.objs.size f cdv))->sp vs H Q E->
   ∃t,PSs (Xs CX P w K mg base N qual scope f cdv A outer s H E) body t/\t {nx:=λ_ H'=>Q .non H',rt:=Q} (start N vs) H):
  V1 P w K mg base CX (k+1) f (D9 name qual params body scope dV kV doc pm an cdv ct) ps sp:=by
 refine⟨len,λA outer s H args us vs Q E hr e0 hb r hsp=>?_⟩;have hl:=len _ _ _ _ hsp;have KX:K.In s.heap:=e0.mod.kin.keeps λb o e=>(e0.bs b o e).1;have lim:s.heap.NoLimit:=e0.mod.nolimit.keeps λb o e=>(e0.bs b o e).1;have hkind:∀y∈ps.zip us,scope.names.lookup y.1=some .local\/(scope.names.lookup y.1=some .cell/\((cellsFrom (s.heap.objs.size+1) scope.names []).lookup y.1).isSome=true):=λ⟨n,v⟩ hy=>by
  rcases S.par n (Ms hy).1 with q|q
  ·exact .inl q
  ·exact .inr ⟨q,Nn _ _ _ (.inl q)⟩
 refine codeAny_call_function hr.depth (KX _ _ lk) rfl S.co S.gen rfl (PySem.W.codeRec_of KX hcd) (hb _ _ _ _ ?_);refine wpAny_newFunctionEnv_cells S.kind hkind λenv he s1 x=>?_;subst he;refine⟨lim.keeps x.toInCall.keep,codeAny_func ?_⟩;obtain⟨t,ht,hq⟩:=hbody A outer s H vs Q E (hr.deeper _) hsp;have I:Inv (Xs CX P w K mg base N qual scope f cdv A outer s H E) [] (start N vs) H s1:=Jmb S hr.hd e0 hl r x;refine B4 (ht [] s1 (start N vs) H _ I hq) (λfl s' hs=>?_) λe s' hs=>hs;have fin:∀{U':St} {H':Hp} {v:V} {u:Value},Inv (Xs CX P w K mg base N qual scope f cdv A outer s H E) [] U' H' s'->RelV v u->Q v H'->CE outer P w H s Q u s':=
  λ{U' H' v u} J rv q=>⟨v,H',J.os,J.bare,J.base,J.hok,rv,q⟩
 cases fl with
 |ret u=>
  obtain⟨v,U',H',J,rv,q⟩:=hs;exact fin J rv q
 |next=>
  obtain⟨U',H',J,q⟩:=hs;exact fin (v:=V.non) (u:=Cf) J rfl q
 |brk=>
  obtain⟨_,_,_,q⟩:=hs;exact D3 q
 |cont=>
  obtain⟨_,_,_,q⟩:=hs;exact D3 q
section
variable {X:Cx} {x:Str} {p pos:Pos} {e:Expr} {es:List Expr} {t:TA} {id T:String} {r:List V->Hp->VK->Prop}
def tCB(r:List V->Hp->VK->Prop)(t:TA):TE:=λU H Q=>t U H λvs H1=>r vs H1 Q
def Ji6(hc:Vc X (.builtin id) r)(hg:Gl X x)(hm:X.mg x=none)(hv:Df x=some (.builtin id))(ha:PA X (e::es) t)(hn:x≠"__name__":=by decide)(hdb:(x==("__debug__":Str))=false:=by decide)
  (he:Bm (e::es) X.env=(false,eval e X.env)::Bm es X.env:=by rfl)(hpl:(D8 pos (Bm es X.env)).any (·.1)=false:=by rfl):PE X (.Call (.Name x p) (e::es) [] pos) (tCB r t):=by
 intro pins s U H Q I h;refine G0 (Jcc I hg hm hv ?_ hn hdb);exact Gs (thn (ha pos pins s U H _ I h) λus s1 ⟨vs,H1,I1,r1,q1⟩=>hc pins s1 U H1 vs us Q I1 r1 q1) he hpl
def Jlp(hc:Vc X (.type T) r)(hg:Gl X x)(hm:X.mg x=none)(hv:Df x=some (.type T))(ha:PA X (e::es) t)(hn:x≠"__name__":=by decide)(hdb:(x==("__debug__":Str))=false:=by decide)
  (he:Bm (e::es) X.env=(false,eval e X.env)::Bm es X.env:=by rfl)(hpl:(D8 pos (Bm es X.env)).any (·.1)=false:=by rfl):PE X (.Call (.Name x p) (e::es) [] pos) (tCB r t):=by
 intro pins s U H Q I h;refine G0 (Jcc I hg hm hv ?_ hn hdb);exact C4 (thn (ha pos pins s U H _ I h) λus s1 ⟨vs,H1,I1,r1,q1⟩=>hc pins s1 U H1 vs us Q I1 r1 q1) he hpl
end
end L2
namespace HT
open PySem PyProof.Rows
section
open PySem.SeqAt
open PySem.AutoSeq1 (wpAny_loadPart')
open PySem.MeetsSeq PySem.MeetsSeq2 PySem.MeetsSeq3
end
section
variable {prog:Program} {w:World} {A:Bl} {E:Value->Shared->Prop} {s:Shared}
def Jtu{vs ws:List Value}{Q:Value->Shared->Prop}(ht:IsTup s.heap t vs.toArray)(hb:IsTup s.heap b ws.toArray)(hv:vs≠[])
  (h1:ws=[]->Q (.ref t) s)(h2:ws≠[]->Q (.ref s.heap.objs.size) {s with heap:=s.heap.push {cls:=.type "tuple",data:=.seq (vs++ws).toArray}})
  (hsz:vs.length+ws.length<=sizeLine):wpAny (model prog w) A (F0 .Add (.ref t) (.ref b)) Q E s:=by
 obtain⟨⟨cls,dd,data,sl⟩,ho,hc,n,hd⟩:=id ht;obtain⟨⟨cls2,dd2,data2,sl2⟩,ho2,hc2,n2,hd2⟩:=id hb;simp only at hc hd hc2 hd2;subst hc hd hc2 hd2;have e:vs.toArray++ws.toArray=(vs++ws).toArray:=by simp
 by_cases hw:ws=[]
 ·exact Le ⟨_,ho,rfl⟩ ⟨_,ho2,rfl⟩ L1 Nl Jl Iy (Ik _ _)
   (tuple_addW1 t b vs.toArray ws.toArray n n2 dd dd2 sl sl2 (by simpa using hv) (by simp[hw])) ⟨ho,ho2,h1 hw⟩
 ·refine Le ⟨_,ho,rfl⟩ ⟨_,ho2,rfl⟩ L1 Nl Jl Iy (Ik _ _)
   (tuple_addW2 t b vs.toArray ws.toArray n n2 dd dd2 sl sl2 (by simpa using hv) (by simpa using hw) (by rw[Ap,Ap];exact hsz)) ⟨ho,ho2,?_⟩
  rw[e];exact h2 hw
noncomputable def sIx(n d:Nat):Option Int->Nat
 |none=>d
 |some v=>if v<0 then(v+(n:Int)).toNat else min v.toNat n
theorem Ju0(n d:Nat)(hd:d<=n)(o:Option Int):sIx n d o<=n:=by
 cases o with
 |none=>exact hd
 |some v=>
  show(if v<0 then(v+(n:Int)).toNat else min v.toNat n)<=n
  by_cases hv:v<0
  ·rw[if_pos hv];lia
  ·rw[if_neg hv];exact Nat.min_le_right _ _
def Jmx(v:Int)(n d:Nat):(if v<0 then max (v+(n:Int)) 0 else min v (n:Int))=((sIx n d (some v):Nat):Int):=by
 show(if v<0 then max (v+(n:Int)) 0 else min v (n:Int))=(((if v<0 then(v+(n:Int)).toNat else min v.toNat n):Nat):Int)
 by_cases hv:v<0
 ·simp only[if_pos hv];lia
 ·simp only[if_neg hv];lia
def Jkj(lo hi:Option Int)(n:Nat):Hg lo hi 1 (n:Int)=(((sIx n 0 lo:Nat):Int),((sIx n n hi:Nat):Int)):=by
 have h1:¬((1:Int)<0):=by lia
 unfold Hg;simp only[h1,if_false];refine Su ?_ ?_
 ·cases lo with
  |none=>rfl
  |some v=>exact Jmx v n 0
 ·cases hi with
  |none=>rfl
  |some v=>exact Jmx v n n
def Jj2(i j:Nat):Fi (i:Int) (j:Int) 1=j-i:=by
 unfold Fi;have h1:(1:Int)>0:=by lia
 simp only[h1,if_true,Int.ediv_one];split<;>lia
theorem Je6{Q:Option Int->Shared->Prop}(p:Lh v o)(h:Q o s):wpAny (model prog w) A (Builtin.Slice.slicePartIndex v) Q E s:=by
 cases p with
 |none=>exact slicePart_none h
 |int i t=>exact slicePart_int h
def Jbt{sl:Addr}{vl vu:Value}{lo hi:Option Int}{n:Nat}{Q:Int×Int×Nat->Shared->Prop}(hs:s.heap.IsSliceOf sl vl vu .none)(pl:Lh vl lo)(pu:Lh vu hi)
  (h:Q (((sIx n 0 lo:Nat):Int),1,sIx n n hi-sIx n 0 lo) s):wpAny (model prog w) A (K4 (.ref sl) (pure (n:Int))) Q E s:=by
 obtain⟨os,hos,hcs,hds⟩:=id hs;unfold K4 Builtin.Slice.sliceFields;refine Aa (Aa (B5 hos hds (x:=vl) rfl (Aa (B5 hos hds (x:=vu) rfl (Aa (B5 hos hds (x:=.none) rfl (Ac ?_)))))));refine Aa (slicePart_none ?_);show wpAny _ _ (if((1:Int)==0)=true then _ else _) _ _ s;rw[if_neg (by decide)];refine Aa (Je6 pl (Aa (Je6 pu (Aa (Ac ?_)))));show wpAny _ _ (match Hg lo hi 1 (n:Int)with|(lo,hi)=>pure (lo,(1:Int),Fi lo hi 1)) _ _ s;rw[Jkj lo hi n];show wpAny _ _ (pure (((sIx n 0 lo:Nat):Int),(1:Int),Fi ((sIx n 0 lo:Nat):Int) ((sIx n n hi:Nat):Int) 1)) _ _ s;rw[Jj2];exact Ac h
def Jn3(xs:Array Value)(i k:Nat):((B7 k).filterMap λ(m:Nat)=>xs[((i:Int)+(m:Int)*1).toNat]?).toArray=((xs.toList.drop i).take k).toArray:=by
 have e:(λ(m:Nat)=>xs[((i:Int)+(m:Int)*1).toNat]?)=λm=>xs[i+m]? :=by
  funext m;have:((i:Int)+(m:Int)*1).toNat=i+m:=by lia
  rw[this]
 rw[e];have:=pick_run xs i k;rw[List.filterMap_map]at this;have e2:((λx=>xs[x]?)∘λx=>i+x)=λm=>xs[i+m]? :=rfl;rw[e2]at this;rw[this]
def Jc7{t sl:Addr}{items:Array Value}{vl vu:Value}{lo hi:Option Int}{Q:Value->Shared->Prop}(ht:IsTup s.heap t items)(hs:s.heap.IsSliceOf sl vl vu .none)(pl:Lh vl lo)(pu:Lh vu hi)
  (hw:¬(sIx items.size 0 lo=0/\sIx items.size items.size hi=items.size))
  (h:Q (.ref s.heap.objs.size) {s with heap:=s.heap.push {cls:=.type "tuple",data:=.seq ((items.toList.drop (sIx items.size 0 lo)).take (sIx items.size items.size hi-sIx items.size 0 lo)).toArray}})
  (hsz:items.size<=sizeLine):wpAny (model prog w) A (Ko (.ref t) (.ref sl)) Q E s:=by
 have htake:sizeOk (.seq ((items.toList.drop (sIx items.size 0 lo)).take (sIx items.size items.size hi-sIx items.size 0 lo)).toArray):=by
  show((items.toList.drop (sIx items.size 0 lo)).take (sIx items.size items.size hi-sIx items.size 0 lo)).toArray.size<=sizeLine;rw[Ap,F6,Jp,Bz];omega
 have hj:sIx items.size items.size hi<=items.size:=Ju0 _ _ (Ai _) hi;obtain⟨os,hos,hcs,hds⟩:=id hs;have hTs:s.TypeIs (.ref sl) "slice":=⟨os,hos,hcs⟩
 unfold Ko
 try with_reducible refine Bi ?_
 first|refine Aa (Ac ?_)|skip
 refine Aa (Uc ht.typeIs (by decide) ?_);refine Aa (Bv (name:=Ab "__getitem__") ht.typeIs Cc
  (Bg Cc ht.typeIs Sj ?_ (T5 _ _)))
 show wpAny _ _ (G7 (.ref t)>>=_) _ _ s;refine Aa (Mc ht ?_);refine Aa (Fq hTs ?_);rw[if_pos (by decide)];refine Aa (Jbt hs pl pu ?_);have hno:¬((((sIx items.size 0 lo:Nat):Int)==0&&(1:Int)==1&&(sIx items.size items.size hi-sIx items.size 0 lo)==items.size)=true):=by
  intro q;rw[Al,Al]at q;have q1:((sIx items.size 0 lo:Nat):Int)=0:=eq_of_beq q.1.1;have q2:sIx items.size items.size hi-sIx items.size 0 lo=items.size:=eq_of_beq q.2;exact hw ⟨by omega,by omega⟩
 show wpAny _ _ (if(((sIx items.size 0 lo:Nat):Int)==0&&(1:Int)==1&&(sIx items.size items.size hi-sIx items.size 0 lo)==items.size)=true then _ else _) _ _ s;rw[if_neg hno,Jn3]
 first
  |exact Aa (m:=Fy _) (Br (Ac ⟨_,rfl,Ac h⟩) htake)
  |exact Aa (m:=Fy _) (Br (Aa (Ac (Ac ⟨_,rfl,Ac h⟩))) htake)
  |exact Aa (Aa (m:=Fy _) (Br (Ac (Ac ⟨_,rfl,Ac h⟩)) htake))
  |exact Aa (Aa (m:=Fy _) (Br (Ac ⟨_,rfl,Ac h⟩) htake))
end
end HT
namespace L2
open PySem PySem.Spec PyProof.Rows
abbrev TO:=St->Hp->(Option Int->Hp->Prop)->Prop
def PO(X:Cx)(e:Option Expr)(t:TO):Prop:=
 ∀(pins:List (Addr×Obj)) (s:Shared) (U:St) (H:Hp) (Q:Option Int->Hp->Prop),Inv X pins U H s->t U H Q->
  wpAny (model X.prog X.w) X.A (evalPart e X.env) (λu s'=>∃o H',Inv X pins U H' s'/\Lh u o/\Q o H') X.xe s
def Ym:TO:=λ_ H Q=>Q none H
def Zz(t:TE):TO:=λU H Q=>t U H λx H1=>∃i,x=.int i/\Q (some i) H1
section
variable {X:Cx} {e:Expr} {te:TE} {lo hi:Option Expr} {tl th:TO} {pos p2:Pos}
def Jse:PO X none Ym:=by
 intro pins s U H Q I h;rw[evalPart_none];exact Ac ⟨none,H,I,.none,h⟩
def Jsd(h:PE X e te):PO X (some e) (Zz te):=by
 intro pins s U H Q I hw;rw[evalPart_some];refine thn (h pins s U H _ I hw) λu s1 ⟨x,H1,I1,r1,q1⟩=>?_;obtain⟨i,rfl,q⟩:=q1;obtain⟨t,rfl⟩:=r1;exact⟨some i,H1,I1,.int i t,q⟩
def SlR(X:Cx)(r:V->Option Int->Option Int->Hp->VK->Prop):Prop:=
 ∀(pins:List (Addr×Obj)) (s:Shared) (U:St) (H:Hp) (x:V) (v vl vu:Value) (lo hi:Option Int) (sl:Addr) (Q:VK),Inv X pins U H s->RelV x v->s.heap.IsSliceOf sl vl vu .none->Lh vl lo->Lh vu hi->r x lo hi H Q->
  ∃T id,typeLookup (.type T) "__getitem__"=pure (some (.builtin id))/\s.TypeIs v T/\wpAny (model X.prog X.w) X.A (Ko v (.ref sl)) (EP X pins U Q) X.xe s
def tSl(r:V->Option Int->Option Int->Hp->VK->Prop)(te:TE)(tl th:TO):TE:=λU H Q=>te U H λx H1=>tl U H1 λl H2=>th U H2 λu H3=>r x l u H3 Q
def Jn5{r:V->Option Int->Option Int->Hp->VK->Prop}(hr:SlR X r)(he:PE X e te)(hl:PO X lo tl)(hu:PO X hi th):PE X (.Subscript e (.Slice lo hi none p2) pos) (tSl r te tl th):=by
 intro pins s U H Q I h;refine Subscript_ (thn (he pins s U H _ I h) λv s1 ⟨x,H1,I1,r1,q1⟩=>?_);refine wpAny_Slice (thn (hl pins s1 U H1 _ I1 q1) λvl s2 ⟨l,H2,I2,pl,q2⟩=>thn (hu pins s2 U H2 _ I2 q2) λvu s3 ⟨u,H3,I3,pu,q3⟩=>?_);rw[evalPart_none];refine Ac ?_;have I4:Inv X pins U H3 {s3 with heap:=s3.heap.push {cls:=.type "slice",data:=.fields #[vl,vu,.none]}}:=I3.kept (t':=s3.toks) λb ob q=>Ad _ q;obtain⟨T,id,hT,ht,hg⟩:=hr pins {s3 with heap:=s3.heap.push {cls:=.type "slice",data:=.fields #[vl,vu,.none]}} U H3 x v vl vu l u s3.heap.objs.size Q I4 r1 (Uo ..) pl pu q3;show wpAny (model X.prog X.w) X.A (subscriptTail e (.Slice lo hi none p2) v (.ref s3.heap.objs.size)) (EP X pins U Q) X.xe {s3 with heap:=s3.heap.push {cls:=.type "slice",data:=.fields #[vl,vu,.none]}};exact K6 (ops:=[.ref s3.heap.objs.size,v]) ht hT hg (by with_unfolding_all rfl)
noncomputable def Xa(xs:List V)(lo hi:Option Int):List V:=(xs.drop (HT.sIx xs.length 0 lo)).take (HT.sIx xs.length xs.length hi-HT.sIx xs.length 0 lo)
def Jer(xs:List V)(lo hi:Option Int):(Xa xs lo hi).length<=xs.length:=by
 unfold Xa;rw[F6,Jp];omega
def We2(K:Af):V->Option Int->Option Int->Hp->VK->Prop:=λx lo hi H Q=>∃a xs,x=.ref a/\SqT K H a xs/\
 ¬(HT.sIx xs.length 0 lo=0/\HT.sIx xs.length xs.length hi=xs.length)/\∀p,H p=none->Q (.ref p) (upd H p (.tup (Xa xs lo hi)))
def Jux:SlR X (We2 X.K):=by
 intro pins s U H x v vl vu lo hi sl Q I rx hs pl pu h;obtain⟨a,xs,rfl,hx,hw,q⟩:=h;cases rx;obtain⟨its,r,ht,hz⟩:=I.tuple hx;have hlen:its.toArray.size=xs.length:=by rw[Ap];exact r.length.symm
 refine⟨"tuple",_,Cc.lookup,ht.typeIs,?_⟩;refine HT.Jc7 ht hs pl pu (by rw[hlen];exact hw) ?_ (by rw[hlen];exact hz);rw[hlen];refine⟨.ref s.heap.objs.size,_,I.laid (t':=s.toks) (o:=.tup (Xa xs lo hi)) (λb ob q=>Ad _ q) (Ai _) ?_,rfl,q _ (I.hok.fresh (Ai _))⟩;exact⟨Bw (Jer xs lo hi) hz,_,(r.drop (HT.sIx xs.length 0 lo)).take (HT.sIx xs.length xs.length hi-HT.sIx xs.length 0 lo),Q3 _ _⟩
def Wae(K:Af):R2:=λx y H Q=>∃a b xs ys,x=.ref a/\y=.ref b/\SqT K H a xs/\SqT K H b ys/\xs≠[]/\xs.length+ys.length<=sizeLine/\
 (ys=[]->Q (.ref a) H)/\(ys≠[]->∀p,H p=none->Q (.ref p) (upd H p (.tup (xs++ys))))
theorem Vals.nil_iff(r:Vals xs us):us=[]↔xs=[]:=by
 cases r with
 |nil=>simp
 |cons _ _=>simp
def Jsv:OpR X (F0 .Add) (Wae X.K):=by
 intro pins s U H x y v u Q I rx ry h;obtain⟨a,b,xs,ys,rfl,rfl,ha,hb,hx,hz,q1,q2⟩:=h;cases rx;cases ry;obtain⟨its,r1,p1,_⟩:=I.tuple ha;obtain⟨its2,r2,p2,_⟩:=I.tuple hb;refine HT.Jtu p1 p2 (λz=>hx (r1.nil_iff.mp z)) (λz=>⟨.ref a,H,I,rfl,q1 (r2.nil_iff.mp z)⟩) (λz=>?_) (by rw[<-r1.length,<-r2.length];exact hz);refine⟨.ref s.heap.objs.size,_,I.laid (t':=s.toks) (o:=.tup (xs++ys)) (λb ob q=>Ad _ q) (Ai _) ?_,rfl,q2 (λw=>z (r2.nil_iff.mpr w)) _ (I.hok.fresh (Ai _))⟩;exact⟨by rw[Bf];exact hz,_,r1.append r2,Q3 _ _⟩
end
noncomputable def ixN(n:Nat)(i:Int):Option Nat:=if 0<=i then(if i<n then some i.toNat else none)else if -(n:Int)<=i then some (i+n).toNat else none
noncomputable def atI{α:Type}(xs:List α)(i:Int):Option α:=(ixN xs.length i).bind λj=>xs[j]?
def Jl8(h:ixN n i=some j):seqIndex? i n=some j/\j<n/\ -(n:Int)<=i/\i<n:=by
 unfold ixN at h
 by_cases h0:0<=i
 ·rw[if_pos h0]at h
  by_cases h1:i<n
  ·rw[if_pos h1]at h;have e:i.toNat=j:=Bj h;exact⟨by rw[Rr h0 h1,e],by lia,by lia,h1⟩
  ·rw[if_neg h1]at h;cases h
 ·rw[if_neg h0]at h
  by_cases h1: -(n:Int)<=i
  ·rw[if_pos h1]at h;have e:(i+n).toNat=j:=Bj h;exact⟨by rw[seqIndex_neg (by lia) h1,e],by lia,h1,by lia⟩
  ·rw[if_neg h1]at h;cases h
theorem Jm9{α:Type}{xs:List α}{i:Int}{v:α}(h:atI xs i=some v):∃j,seqIndex? i xs.length=some j/\xs[j]? =some v/\j<xs.length/\ -(xs.length:Int)<=i/\i<xs.length:=by
 unfold atI at h;cases e:ixN xs.length i with
 |none=>rw[e]at h;cases h
 |some j=>
  rw[e]at h;obtain⟨h1,h2,h3,h4⟩:=Jl8 e;exact⟨j,h1,h,h2,h3,h4⟩
def Xm(b:Expr):Prop:=∀o i,subscripted b false o i=operate [o,i] (Ko o i)
def IxR(X:Cx)(r:R2):Prop:=
 ∀(value slice:Expr) (pins:List (Addr×Obj)) (s:Shared) (U:St) (H:Hp) (x y:V) (v u:Value) (Q:VK),Inv X pins U H s->RelV x v->RelV y u->r x y H Q->
  subscripted slice false v u=operate [v,u] (Ko v u)->wpAny (model X.prog X.w) X.A (subscriptTail value slice v u) (EP X pins U Q) X.xe s
def MtR(X:Cx)(id:String)(r:V->List V->Hp->VK->Prop):Prop:=
 ∀(pins:List (Addr×Obj)) (s:Shared) (U:St) (H:Hp) (x:V) (xs:List V) (v:Value) (us:List Value) (Q:VK),Inv X pins U H s->RelV x v->Vals xs us->r x xs H Q->
  wpAny (model X.prog X.w) X.A (call (.builtin id) (v::us)) (EP X pins U Q) X.xe s
section
variable {X:Cx} {a b:Expr} {ta tb:TE} {pos:Pos}
def Jyr(hr:IxR X r)(ha:PE X a ta)(hb:PE X b tb)(hs:Xm b):PE X (.Subscript a b pos) (tOp r ta tb):=by
 intro pins s U H Q I h;exact Subscript_ (Zv ha hb I h λv u s2 x y H2 I2 rx ry q=>hr a b pins s2 U H2 x y v u Q I2 rx ry q (hs _ _))
def We6(K:Af):R2:=λx y H Q=>∃p xs i v,x=.ref p/\y=.int i/\SqL K H p xs/\atI xs i=some v/\Q v H
def We5(K:Af):R2:=λx y H Q=>∃p xs i v,x=.ref p/\y=.int i/\SqT K H p xs/\atI xs i=some v/\Q v H
def Js8:IxR X (We6 X.K):=by
 intro value slice pins s U H x y v u Q I rx ry h hs;obtain⟨p,xs,i,z,rfl,rfl,hq,he,q⟩:=h;cases rx;obtain⟨t,rfl⟩:=ry;obtain⟨its,r,pl,hz⟩:=I.list hq;obtain⟨j,h1,h2,h3,h4,h5⟩:=Jm9 he;obtain⟨w,ew,rw'⟩:=r.get h2;have hl:=r.length;have hn:=Jg7;have fin:EP X pins U Q w s:=⟨z,H,I,rw',q⟩
 by_cases h0:0<=i
 ·have hj:i.toNat=j:=by
   rw[Rr h0 h5]at h1;exact Bj h1
  exact item_listR pl.isList h0 (by lia) (by rw[hj];simpa using ew) fin hs
 ·have hj:(i+(its.toArray.size:Int)).toNat=j:=by
   rw[seqIndex_neg (by lia) h4]at h1;rw[Ap,<-hl];exact Bj h1
  exact Q2 (x:=w) pl.isList.typeIs Ug.lookup
   (wpAny_getItem_list_neg (Q:=λr s'=>r=w/\EP X pins U Q r s') pl.isList (by lia) (by rw[Ap]<;>lia) (by lia) (by rw[hj];simpa using ew) ⟨rfl,fin⟩) hs
def Jwq:IxR X (We5 X.K):=by
 intro value slice pins s U H x y v u Q I rx ry h hs;obtain⟨p,xs,i,z,rfl,rfl,hq,he,q⟩:=h;cases rx;obtain⟨t,rfl⟩:=ry;obtain⟨its,r,pl,hz⟩:=I.tuple hq;obtain⟨j,h1,h2,h3,h4,h5⟩:=Jm9 he;obtain⟨w,ew,rw'⟩:=r.get h2;have hl:=r.length;have hn:=Jg7;have fin:EP X pins U Q w s:=⟨z,H,I,rw',q⟩
 exact Q2 (x:=w) pl.typeIs Cc.lookup
  (getItem_tuple (j:=j) (Q:=λr s'=>r=w/\EP X pins U Q r s') pl (by lia) (by lia) (by rw[Ap,<-hl];exact h1) (by simpa using ew) ⟨rfl,fin⟩) hs
def Jj4(its:List Value)(n j:Nat)(u:Value):Dm (·.setIfInBounds j u) {cls:=.type "list",data:=.seq its.toArray n}={cls:=.type "list",data:=.seq (its.set j u).toArray n}:=by
 simp[Dm]
inductive InvM (s:Shared) (p:Addr) (xs:List V):Prop
 |mk (its:List Value) (n:Nat) (_:Vals xs its) (_:s.heap.get? p=some {cls:=.type "list",data:=.seq its.toArray n}) (_:xs.length<=sizeLine):InvM s p xs
def Inv.lst(I:Inv X pins U H s)(h:H p=some (.lst xs)):InvM s p xs:=by
 obtain⟨z,its,n,r,e⟩:=I.hok p _ h;exact⟨its,n,r,e,z⟩
def Inv.lstUpd{s:Shared}{ys:List V}{its its':List Value}{f:Obj->Obj}(I:Inv X pins U H s)(h:H p=some (.lst xs))
  (ho:s.heap.get? p=some {cls:=.type "list",data:=.seq its.toArray n})(hf:f {cls:=.type "list",data:=.seq its.toArray n}={cls:=.type "list",data:=.seq its'.toArray n'})(r:Vals ys its')(hz:ys.length<=sizeLine)(t:Nat):
  Inv X pins U (upd H p (.lst ys)) {s with heap:=s.heap.update p f,toks:=t}:=by
 have e:(s.heap.update p f).get? p=some {cls:=.type "list",data:=.seq its'.toArray n'}:=by
  rw[Cp f ho (by rw[hf]<;>rfl),hf]
 refine I.write (x:=p) (e:=p) (by rw[h];trivial) (.inl rfl) (λb u hb q=>(Ee _ _ (Eb hb)).trans q) ⟨_,e⟩ ?_;exact⟨hz,its',n',r,e⟩
def Wad:V->V->V->Hp->(Hp->Prop)->Prop:=λo i v H Q=>∃p xs k j,o=.ref p/\i=.int k/\H p=some (.lst xs)/\ixN xs.length k=some j/\Q (upd H p (.lst (xs.set j v)))
def set_list:Zw X Wad:=by
 intro pins s U H o i v ov iv u Q I ro ri rv h;obtain⟨p,xs,k,j,rfl,rfl,hp,hj,q⟩:=h;cases ro;obtain⟨t,rfl⟩:=ri;obtain⟨its,n,r,ho,hz⟩:=I.lst hp;obtain⟨h1,h2,h3,h4⟩:=Jl8 hj;have hl:=r.length;have hn:=Jg7;have I':Inv X pins U (upd H p (.lst (xs.set j v))) {s with heap:=s.heap.update p (Dm (·.setIfInBounds j u))}:=
  I.lstUpd hp ho (Jj4 its n j u) (r.set rv j) (by rw[D4];exact hz) s.toks
 by_cases h0:0<=k
 ·have hk:k.toNat=j:=by
   rw[Rr h0 h4]at h1;exact Bj h1
  exact PySem.W.ki_setAt ho h0 (by lia) (by rw[Ap,<-hl];exact h4) (by rw[hk];exact⟨_,I',q⟩)
 ·have hk:(k+(its.toArray.size:Int)).toNat=j:=by
   rw[seqIndex_neg (by lia) h3]at h1;rw[Ap,<-hl];exact Bj h1
  exact PySem.W.ki_setBack ho (by lia) (by rw[Ap,<-hl];exact h3) (by lia) (by rw[hk];exact⟨_,I',q⟩)
def Jgz(lo hi:Option Int)(n:Nat):(Hu lo hi none n).1=((HT.sIx n 0 lo:Nat):Int)/\(Hu lo hi none n).2.1=((HT.sIx n n hi:Nat):Int)/\(Hu lo hi none n).2.2=1:=by
 refine⟨?_,?_,rfl⟩
 ·cases lo with
  |none=>simp[Hu,HT.sIx]
  |some i=>
   simp only[Hu,HT.sIx,Qj,show(1:Int)>0 by decide,if_true]
   by_cases h:i<0
   ·simp only[h,if_true]<;>lia
   ·simp only[h,if_false]<;>lia
 ·cases hi with
  |none=>simp[Hu,HT.sIx]
  |some i=>
   simp only[Hu,HT.sIx,Qj,show(1:Int)>0 by decide,if_true]
   by_cases h:i<0
   ·simp only[h,if_true]<;>lia
   ·simp only[h,if_false]<;>lia
theorem Jfr(its:List Value)(lo hi:Option Int):slicePick its.toArray lo hi none=((its.drop (HT.sIx its.length 0 lo)).take (HT.sIx its.length its.length hi-HT.sIx its.length 0 lo)).toArray:=by
 obtain⟨h1,h2,h3⟩:=Jgz lo hi its.toArray.size;unfold slicePick;rw[h1,h2,h3];simp only[sliceRange_one,pick_run,Ap]<;>rfl
def We3(K:Af):V->Option Int->Option Int->Hp->VK->Prop:=λx lo hi H Q=>∃a xs,x=.ref a/\SqL K H a xs/\∀p,H p=none->Q (.ref p) (upd H p (.lst (Xa xs lo hi)))
def Jle:SlR X (We3 X.K):=by
 intro pins s U H x v vl vu lo hi sl Q I rx hs pl pu h;obtain⟨a,xs,rfl,hx,q⟩:=h;cases rx;obtain⟨its,r,ht,hz⟩:=I.list hx;have hlen:=r.length;refine⟨"list",_,Ug.lookup,ht.isList.typeIs,?_⟩;refine wpAny_getItem_list_slice ht.isList hs pl pu .none (by simp) ?_ (by rw[Ap]<;>lia);rw[Jfr,<-hlen];refine⟨.ref s.heap.objs.size,_,I.laid (t':=s.toks) (o:=.lst (Xa xs lo hi)) (λb ob q=>Ad _ q) (Ai _) ?_,rfl,q _ (I.hok.fresh (Ai _))⟩;exact⟨Bw (Jer xs lo hi) hz,_,0,(r.drop (HT.sIx xs.length 0 lo)).take (HT.sIx xs.length xs.length hi-HT.sIx xs.length 0 lo),Aj _ rfl⟩
noncomputable def Ws:V->Bool
 |.non=>true
 |.bl _=>true
 |.int _=>true
 |.str _=>true
 |_=>false
noncomputable def eqV:V->V->Bool
 |.non,.non=>true
 |.bl a,.bl b=>a==b
 |.bl a,.int b=>(if a then 1 else 0)==b
 |.int a,.bl b=>a==(if b then 1 else 0)
 |.int a,.int b=>a==b
 |.str a,.str b=>a==b
 |_,_=>false
theorem Jw6(ry:RelV y u)(rx:RelV x v)(fy:Ws y=true)(fx:Ws x=true):E9 A s u v (eqV y x):=by
 cases y with
 |non=>
  cases ry;cases x with
  |non=>cases rx;exact La _
  |bl b=>cases rx;exact SeqAt.EqAt.none_bool b
  |int b=>obtain⟨t,rfl⟩:=rx;exact SeqAt.EqAt.none_int b t
  |str b=>obtain⟨t,rfl⟩:=rx;exact SeqAt.EqAt.none_str b t
  |_=>exact fx9 (show false=true from fx)
 |bl a=>
  cases ry;cases x with
  |non=>cases rx;exact SeqAt.EqAt.bool_none a
  |bl b=>cases rx;exact SeqAt.EqAt.bool_bool a b
  |int b=>obtain⟨t,rfl⟩:=rx;exact SeqAt.EqAt.bool_int a b t
  |str b=>obtain⟨t,rfl⟩:=rx;exact SeqAt.EqAt.bool_str a b t
  |_=>exact fx9 (show false=true from fx)
 |int a=>
  obtain⟨t',rfl⟩:=ry;cases x with
  |non=>cases rx;exact SeqAt.EqAt.int_none a t'
  |bl b=>cases rx;exact SeqAt.EqAt.int_bool a t' b
  |int b=>obtain⟨t,rfl⟩:=rx;exact SeqAt.EqAt.int_int a t' b t
  |str b=>obtain⟨t,rfl⟩:=rx;exact N4 a t' b t
  |_=>exact fx9 (show false=true from fx)
 |str a=>
  obtain⟨t',rfl⟩:=ry;cases x with
  |non=>cases rx;exact SeqAt.EqAt.str_none a t'
  |bl b=>cases rx;exact SeqAt.EqAt.str_bool a t' b
  |int b=>obtain⟨t,rfl⟩:=rx;exact N2 a t' b t
  |str b=>obtain⟨t,rfl⟩:=rx;exact SeqAt.EqAt.str_str a t' b t
  |_=>exact fx9 (show false=true from fx)
 |_=>exact fx9 (show false=true from fy)
def Jhl:Vc X (.builtin "len") (λxs H Q=>∃p ys,xs=[.ref p]/\(SqL X.K H p ys\/SqT X.K H p ys)/\Q (.int ys.length) H):=by
 intro pins s U H xs us Q I r h;obtain⟨p,ys,rfl,hq,q⟩:=h;obtain⟨u,rfl,rx⟩:=vals1 r;cases rx;have hn:=Jg7;rcases hq with hq|hq
 ·obtain⟨its,r',pl,hz⟩:=I.list hq;have hlen:=r'.length;exact Calls.call_len_list pl.isList (by simp only[Ap]<;>lia) ⟨.int ys.length,H,I.tok _,⟨s.toks+1,by rw[Ap,hlen]⟩,q⟩
 ·obtain⟨its,r',pl,hz⟩:=I.tuple hq;have hlen:=r'.length;exact len_tuple pl (by simp only[Ap]<;>lia) ⟨.int ys.length,H,I.tok _,⟨s.toks+1,by rw[Ap,hlen]⟩,q⟩
def Jhk:Vc X (.type "list") (λxs H Q=>∃p ys,xs=[.ref p]/\(SqL X.K H p ys\/SqT X.K H p ys)/\∀l,H l=none->Q (.ref l) (upd H l (.lst ys))):=by
 intro pins s U H xs us Q I r h;obtain⟨p,ys,rfl,hq,q⟩:=h;obtain⟨u,rfl,rx⟩:=vals1 r;cases rx;have fin:∀(its:List Value),Vals ys its->ys.length<=sizeLine->∀(h':Heap) (c':Nat),(∀b o',s.heap.get? b=some o'->h'.get? b=some o')->
   h'.get? s.heap.objs.size=some {cls:=.type "list",dict:=none,data:=.seq its.toArray c',slots:= #[]}->EP X pins U Q (.ref s.heap.objs.size) {s with heap:=h'}:=λits r' hz h' c' kp e=>
  ⟨.ref s.heap.objs.size,_,I.laid (t':=s.toks) kp (Ai _) (show U1 X.prog X.w _ h' _ (.lst ys)from⟨hz,its,c',r',e⟩),rfl,q _ (I.hok.fresh (Ai _))⟩
 rcases hq with hq|hq
 ·obtain⟨its,r',pl,hz⟩:=I.list hq;have hlen:=r'.length;obtain⟨o,ho,hc,n,hd⟩:=pl.isList;exact call_list_seq p (.inl rfl) ho hc hd (λh' c' kp e=>fin its r' hz h' c' kp e) (by simp only[Ap]<;>lia)
 ·obtain⟨its,r',pl,hz⟩:=I.tuple hq;have hlen:=r'.length;obtain⟨o,ho,hc,n,hd⟩:=pl;exact call_list_seq p (.inr rfl) ho hc hd (λh' c' kp e=>fin its r' hz h' c' kp e) (by simp only[Ap]<;>lia)
def Jge:Vc X (.type "tuple") (λxs H Q=>∃p ys,xs=[.ref p]/\((SqL X.K H p ys/\∀l,H l=none->Q (.ref l) (upd H l (.tup ys)))\/(SqT X.K H p ys/\Q (.ref p) H))):=by
 intro pins s U H xs us Q I r h;obtain⟨p,ys,rfl,h⟩:=h;obtain⟨u,rfl,rx⟩:=vals1 r;cases rx;rcases h with⟨hq,q⟩|⟨hq,q⟩
 ·obtain⟨its,r',pl,hz⟩:=I.list hq;have hlen:=r'.length;refine call_tuple_list pl.isList (λh' kp=>?_) (by simp only[Ap]<;>lia);have I1:Inv X pins U H {s with heap:=h'}:=I.kept (t':=s.toks) kp;have I2:Inv X pins U (upd H h'.objs.size (.tup ys)) {s with heap:=h'.push {cls:=.type "tuple",data:=.seq its.toArray}}:=
   I1.laid (t':=s.toks) (λb o e=>Ad _ e) (Ai _) (show U1 X.prog X.w _ _ _ (.tup ys)from⟨hz,its,r',Q3 _ _⟩)
  exact⟨.ref h'.objs.size,_,I2,rfl,q _ (I1.hok.fresh (Ai _))⟩
 ·obtain⟨its,r',pl,hz⟩:=I.tuple hq;exact call_tuple_same pl ⟨.ref p,H,I,rfl,q⟩
def tyV(K:Af)(T:String)(x:V)(H:Hp):Prop:=match x with
 |.str _=>T="str"
 |.int _=>T="int"
 |.ref p=>(T="list"/\∃xs,SqL K H p xs)\/(T="tuple"/\∃o,K.lookup p=some o/\o.cls=.type "tuple"/\o.dict=none)\/
   (T="dict"/\((∃kvs,H p=some (.dK kvs))\/∃kvs,H p=some (.dT kvs)))\/(T="set"/\∃S n,H p=some (.set S n))
 |_=>False
theorem Jpu{s:Shared}(I:Inv X pins U H s)(r:RelV x v)(ty:tyV X.K T x H):
  s.TypeIs v T/\∀a,v=.ref a->∃ob,s.heap.get? a=some ob/\ob.dict=none:=by
 cases x with
 |str z=>
  obtain⟨t,rfl⟩:=r;cases(show T="str" from ty);exact⟨typeIs_str s z t,λ_ e=>nomatch e⟩
 |int i=>
  obtain⟨t,rfl⟩:=r;cases(show T="int" from ty);exact⟨Tn s i t,λ_ e=>nomatch e⟩
 |ref p=>
  cases r;rcases ty with⟨rfl,xs,hq⟩|⟨rfl,o,hk,hc,hd⟩|⟨rfl,hk⟩|⟨rfl,S,n,hk⟩
  ·obtain⟨its,_,pl,_⟩:=I.list hq;refine⟨pl.isList.typeIs,λa e=>?_⟩;cases e;obtain⟨o,n,e,c,hd,_⟩:=pl;exact⟨o,e,hd⟩
  ·refine⟨⟨o,I.kIn p o hk,hc⟩,λa e=>?_⟩;cases e;exact⟨o,I.kIn _ o hk,hd⟩
  ·have z:∃o,s.heap.get? p=some o/\o.ExactDict:=by
    rcases hk with⟨kvs,hk⟩|⟨kvs,hk⟩
    ·obtain⟨_,_,_,_,o,_,_,e,ex,_⟩:=I.hok p _ hk;exact⟨o,e,ex⟩
    ·obtain⟨_,_,_,_,o,_,_,e,ex,_⟩:=I.hok p _ hk;exact⟨o,e,ex⟩
   obtain⟨o,e,ex⟩:=z;refine⟨⟨o,e,ex.1⟩,λa e2=>?_⟩;cases e2;exact⟨o,e,ex.2.1⟩
  ·obtain⟨o,_,_,_,e,ex,_⟩:=I.hok p _ hk;refine⟨⟨o,e,ex.1⟩,λa e2=>?_⟩;cases e2;exact⟨o,e,ex.2.1⟩
 |_=>exact D3 ty
def Wex(K:Af)(T:String)(r:V->List V->Hp->VK->Prop)(to:TE):TE:=λU H Q=>to U H λx H1=>tyV K T x H1/\r x [] H1 Q
def tBM(K:Af)(T:String)(r:V->List V->Hp->VK->Prop)(to:TE)(t:TA):TE:=λU H Q=>to U H λx H1=>tyV K T x H1/\t U H1 λxs H2=>r x xs H2 Q
variable {o e:Expr} {es:List Expr} {to:TE} {t:TA} {name:Str} {apos cpos:Pos} {T id:String} {r:V->List V->Hp->VK->Prop}
def Jqd(pa:Tx T)(slot:Slot T name id)(hty:Tj (.builtin id)=pure (.type "method_descriptor"))(hm:MtR X id r)(ho:PE X o to)
  (hbase:attributeBase o name X.env (eval o X.env)=eval o X.env:=by rfl)(hline:(apos.endLine==cpos.line)=true:=by rfl):PE X (.Call (.Attribute o name apos) [] [] cpos) (Wex X.K T r to):=by
 intro pins s U H Q I h;refine J2 hbase hline (thn (ho pins s U H _ I h) λv s1 ⟨x,H1,I1,r1,ty,q1⟩=>?_);obtain⟨h1,h2⟩:=Jpu I1 r1 ty;exact⟨T,id,pa,slot,hty,h1,h2,Fb rfl (Kq (hm pins s1 U H1 x [] v [] Q I1 r1 .nil q1))⟩
def Jys(pa:Tx T)(slot:Slot T name id)(hty:Tj (.builtin id)=pure (.type "method_descriptor"))(hm:MtR X id r)(ho:PE X o to)(ha:PA X (e::es) t)
  (hbase:attributeBase o name X.env (eval o X.env)=eval o X.env:=by rfl)
  (hfew:((D8 cpos (Bm (e::es) X.env)).all (λx=> !x.1)&&(Jj cpos (Gf [] X.env)).all (λx=>x.1.isSome)
   &&decide ((e::es).length+([]:List Jv).length+(if([]:List Jv).isEmpty then 0 else 1)<30))=true:=by rfl)
  (hline:(apos.endLine==cpos.line)=true:=by rfl)(hs:Bm (e::es) X.env=(false,eval e X.env)::Bm es X.env:=by rfl)(hplain:(D8 cpos (Bm es X.env)).any (·.1)=false:=by rfl):
  PE X (.Call (.Attribute o name apos) (e::es) [] cpos) (tBM X.K T r to t):=by
 intro pins s U H Q I h;refine Qr hbase hfew hline rfl (thn (ho pins s U H _ I h) λv s1 ⟨x,H1,I1,r1,ty,q1⟩=>?_);obtain⟨h1,h2⟩:=Jpu I1 r1 ty;refine⟨T,id,pa,slot,hty,h1,h2,?_⟩;have hA:=ha cpos pins s1 U H1 _ I1 q1;rw[hs]at hA ⊢;refine Fb (by show(false||(D8 cpos (Bm es X.env)).any (·.1))=false;rw[hplain]<;>rfl) (Pd ?_);exact thn hA λus s2 ⟨vs,H2,I2,r2,q2⟩=>hm pins s2 U H2 x vs v us Q I2 r1 r2 q2
end
def MtM(X:Cx)(id:String)(r:V->List V->Hp->VK->Prop):Prop:=
 ∀(pins:List (Addr×Obj)) (s:Shared) (U:St) (H:Hp) (x:V) (xs:List V) (v:Value) (us:List Value) (Q:VK),Inv X pins U H s->RelV x v->Vals xs us->r x xs H Q->
  wpAny (model X.prog X.w) X.A (call (.builtin id) (v::us)) (EP X pins U Q) X.xe s
theorem Vals.one:∀{x:V} {us:List Value},Vals [x] us->∃u,us=[u]/\RelV x u
 |_,_,.cons r .nil=>⟨_,rfl,r⟩
theorem Vals.zero:∀{us:List Value},Vals [] us->us=[]
 |_,.nil=>rfl
theorem Vals.dropLast{xs:List V}{us:List Value}(h:Vals xs us):Vals xs.dropLast us.dropLast:=by
 induction h with
 |nil=>exact .nil
 |cons r t ih=>
  cases t with
  |nil=>exact .nil
  |cons q t'=>exact .cons r ih
theorem Jkf{α:Type}(l:List α):l.eraseIdx (l.length-1)=l.dropLast:=by
 induction l with
 |nil=>rfl
 |cons a r ih=>
  cases r with
  |nil=>rfl
  |cons b r=>
   have e:(a::b::r).length-1=((b::r).length-1)+1:=by
    have h1:(a::b::r).length=r.length+2:=rfl;have h2:(b::r).length=r.length+1:=rfl
    lia
   rw[e,Om,ih]
   all_goals rfl
section
variable {X:Cx} {pins:List (Addr×Obj)} {U:St} {H:Hp} {s:Shared} {l b:Addr} {xs ys zs:List V}
def Inv.lset{its its':List Value}{f:Array Value->Array Value}(I:Inv X pins U H s)(hH:H l=some (.lst xs))
  (e:s.heap.get? l=some {cls:=.type "list",data:=.seq its.toArray n})(hf:f its.toArray=its'.toArray)(hv:Vals ys its')(hz:ys.length<=sizeLine):
  Inv X pins U (upd H l (.lst ys)) {s with heap:=s.heap.update l (Dm f),toks:=t'}:=by
 have q:=PySem.IsL.update e f;rw[hf]at q;refine I.write (x:=l) (e:=l) (by rw[hH];exact trivial) (.inl rfl) (λb' u hb hu=>(Ee s.heap (Dm f) (Eb hb)).trans hu) ⟨_,q⟩ ?_;exact⟨hz,its',_,hv,q⟩
def Inv.lnew{its:List Value}(I:Inv X pins U H s)(hv:Vals ys its)(hz:ys.length<=sizeLine):
  Inv X pins U (upd H s.heap.objs.size (.lst ys)) {s with heap:=s.heap.push {cls:=.type "list",data:=.seq its.toArray},toks:=t'}:=
 I.laid (λ_ _ q=>Ad _ q) (Ai _) ⟨hz,its,0,hv,Aj _ rfl⟩
def Inv.fresh(I:Inv X pins U H s):H s.heap.objs.size=none:=I.hok.fresh (Ai _)
def Inv.lstM(I:Inv X pins U H s)(hH:H l=some (.lst xs)):xs.length<=sizeLine/\∃(its:List Value) (n:Nat),Vals xs its/\xs.length=its.length/\s.heap.get? l=some {cls:=.type "list",data:=.seq its.toArray n}:=by
 obtain⟨z,its,n,r,e⟩:=I.hok l _ hH;exact⟨z,its,n,r,r.length,e⟩
end
section
variable {X:Cx}
def Yo:V->List V->Hp->VK->Prop:=λx vs H Q=>∃l xs y,x=.ref l/\vs=[y]/\H l=some (.lst xs)/\xs.length<sizeLine/\Q .non (upd H l (.lst (xs++[y])))
def Jlx:MtM X "list.append" Yo:=by
 intro pins s U H x vs v us Q I rx rv h;obtain⟨l,xs,y,rfl,rfl,hH,hz,q⟩:=h;cases rx;obtain⟨u,rfl,ru⟩:=rv.one;obtain⟨z,its,n,r,hl,e⟩:=I.lstM hH;refine O7 Pb ⟨_,e,rfl⟩ F.entry_list_append (F.args_list_append_2 _ _) (PySem.list_append l its.toArray n u (by rw[Ap];lia)) ⟨e,?_⟩;refine⟨.non,_,I.lset (its':=its++[u]) hH e (by simp) (r.append (.cons ru .nil)) ?_,rfl,q⟩;rw[Bf,Dr]
 lia
def We4:V->List V->Hp->VK->Prop:=λx vs H Q=>∃l xs y,x=.ref l/\vs=[]/\H l=some (.lst xs)/\xs[xs.length-1]? =some y/\Q y (upd H l (.lst xs.dropLast))
def Jv8:MtM X "list.pop" We4:=by
 intro pins s U H x vs v us Q I rx rv h;obtain⟨l,xs,y,rfl,rfl,hH,hy,q⟩:=h;cases rx;have hus:=rv.zero;subst hus;obtain⟨z,its,n,r,hl,e⟩:=I.lstM hH;obtain⟨u,hu,ru⟩:=r.get hy;have hy':its.toArray[its.toArray.size-1]? =some u:=by
  show its.toArray[its.length-1]? =some u;rw[<-Dq,<-hl];exact hu
 refine O7 Qh ⟨_,e,rfl⟩ F.entry_list_pop (F.args_list_pop_1 _) (MeetsSeq.list_pop_last l its.toArray n u hy' (by rw[Ap];omega)) ⟨e,?_⟩;refine⟨y,_,I.lset (its':=its.dropLast) hH e ?_ r.dropLast ?_,ru,q⟩
 ·show its.toArray.eraseIdxIfInBounds (its.toArray.size-1)=its.dropLast.toArray;rw[Ap,List.eraseIdxIfInBounds_toArray,Jkf]
 ·rw[List.length_dropLast];omega
def We7:R2:=λx y H Q=>∃l b xs zs,x=.ref l/\y=.ref b/\H l=some (.lst xs)/\H b=some (.lst zs)/\xs.length+zs.length<=sizeLine/\∀p,H p=none->Q (.ref p) (upd H p (.lst (xs++zs)))
def Jv1:OpR X (F0 .Add) We7:=by
 intro pins s U H x y v u Q I rx ry h;obtain⟨l,b,xs,zs,rfl,rfl,hH,hB,hz,q⟩:=h;cases rx;cases ry;obtain⟨z,its,n,r,hl,e⟩:=I.lstM hH;obtain⟨z2,its2,n2,r2,hl2,e2⟩:=I.lstM hB;refine PySem.P.add_list e e2 ?_ (by rw[Ap,Ap];lia);have ea:its.toArray++its2.toArray=(its++its2).toArray:=by simp
 rw[ea];exact⟨.ref _,_,I.lnew (t':=s.toks) (r.append r2) (by rw[Bf];lia),rfl,q _ I.fresh⟩
end
section
variable {prog:Program} {w:World} {A:Bl} {E:Value->Shared->Prop} {s:Shared}
set_option maxRecDepth 100000 in
end
section
variable {X:Cx}
end
end L2
namespace Att
open PySem PySem.W PySem.Calls PyProof.Rows
theorem Jel:∀(ns:List Int) (vs:List Value),WellAll P h vs (ns.map WData.int)->Q4 vs ns:=by
 intro ns
 induction ns with
 |nil=>
  intro vs w;rw[F5]at w;cases w;exact .nil
 |cons n ns ih=>
  intro vs w;rw[Aw]at w;cases w with
  |cons a b=>
   cases a;exact .cons _ _ (ih _ b)
theorem Jlg{l:Ja}(hn:l.most=some n){h:Heap}
  (hpre:l.row.toRowW.claim.pre args=true)(hwl:WellAll P h vals args):
  ∃a vs ns,vals=[Aq a]/\args=[WData.list (ns.map WData.int)]/\h.get? a=some {cls:=.type "list",data:=.seq vs.toArray}/\Q4 vs ns/\ns.length<=n:=by
 have hsh:WShape.hasAll [] args [.list .int]=true:=(pre_splitW hpre).1;have hc:l.pre.holds [] {args:=args}=true:=(pre_splitW hpre).2;obtain⟨d,r,rfl,h1,h2⟩:=hasAllW_cons hsh;obtain rfl:=hasAllW_nil h2;obtain⟨xs,rfl,h3⟩:=hasW_list h1;obtain⟨ns,rfl⟩:=items_int h3;have hlen:ns.length<=n:=by
  unfold OpenLaw.pre at hc;have h4:(WTm.not (.lt (.lit (.int (n:Int))) (.len (.arg 0)))).holds [] {args:=[.list (ns.map .int)]}=true:=by
   have h4:=(holds_andW hc).1;rw[hn]at h4;exact h4
  have h5:=condW_of h4 (w_not (w_lt w_lit (w_len_list (w_arg rfl))));rw[Ah]at h5;refine Nat.le_of_not_lt λq=>?_;have q':(n:Int)<((ns.length:Nat):Int):=by omega
  first
   |(rw[decide_eq_true q']at h5;exact absurd h5 (by decide))
   |(simp at h5;omega)
 cases hwl with
 |cons w1 w2=>
  cases w2;cases w1 with
  |list ho hall=>exact⟨_,_,ns,rfl,rfl,ho,Jel ns _ hall,hlen⟩
theorem Jlk(l:Ja)(args:List WData):l.row.toRowW.claim.post args (.bool true) args=true:=
 postW_of (r:=l.row.toRowW) (X:=(true==true))
  (show Uj [] (.bool true) .bool=true by first|rfl|decide|simp[Uj,WShape.arms,WShape.armsAll])
  (show(WTm.eq .res (.lit (.bool true))).value [] {args:=args,res:=some (.bool true),after:=args}=some (.bool (true==true))from w_eq_bool (w_res rfl) w_lit) rfl
def Jis{l:Ja}{XP:(Str->Option Value)->Heap->Prop}{YP:World->Heap->Prop}{d:T4}
  (hn:l.most=some n)(hdf:d.params.defaults=[])
  (call:∀(w:World) (s₀ s₁:Shared) (mg mb:Str->Option Value) (fa:Addr) (o:Obj) (pm cd doc:Value) (a:Addr) (vs:List Value) (ns:List Int),
   Ground q loose [] XP w s₀ mg mb s₁.heap->YP w s₁.heap->
   s₁.heap.get? fa=some o->o.data=.func (docDef d.name d.params d.body d.scope pm cd doc)->s₁.heap.CodeRec cd d.name->mg d.name=some (.ref fa)->
   s₁.heap.get? a=some {cls:=.type "list",data:=.seq vs.toArray}->Q4 vs ns->ns.length<=n->s₁.gens= #[]->
   Gm (model l.prog w) Ln (.call (.ref fa) ⟨[.ref a],[]⟩) (λr s'=>r=.ok (.ret (.bool true))/\OldK s₁.heap s'.heap/\s'.os=s₁.os/\Kr s'.gens) s₁):
  Ma q loose XP YP l.row.toRowW d [] (λf vs=>Mz f vs):=by
 intro w s₀ s₁ mg mb G Y fa o pm cd doc dV kV ho hd hcd hD hmg hg args vals as hpre hlay hrd hwl hlo;obtain rfl:dV=.none:=Dflts.none hD hdf;obtain rfl:kV=.none:=Dflts.noKw hD;obtain⟨a,vs,ns,rfl,rfl,hobj,hints,hlen⟩:=Jlg hn hpre hwl;refine enter_call (Ft (call w s₀ s₁ mg mb fa o pm cd doc a vs ns G Y ho (fd_plain hd) hcd hmg hobj hints hlen hg) λr s' hq=>?_);obtain⟨rfl,h2,h3,h4⟩:=hq;exact⟨.inl ⟨.bool true,.bool true,[],rfl,λ_=>rfl,.bool true,Jlk l _,λ_=>⟨Ng,λ_ hm=>(nomatch hm)⟩⟩,h2,h3,h4⟩
section
variable {prog:Program} {w:World} {A:Bl} {E:Value->Shared->Prop} {s:Shared} {K:Frag}
end
end Att
namespace L2
open PySem PySem.Spec PyProof.Rows
theorem Jgr:∀{vs:List Value} {ns:List Int},Q4 vs ns->Vals (ns.map V.int) vs
 |_,_,.nil=>.nil
 |_,_,.cons n t h=>.cons ⟨t,rfl⟩ (Jgr h)
def Y1(H:Hp):Prop:=∀b,H b=none\/∃o xs,H b=some (.frz o (.lst xs))
theorem Joq{K:Af}{mg mb:Str->Option Value}{x:Str}{s₁:Shared}{vs:List Value}{ns:List Int}
  (KX:K.In s₁.heap)(hns:s₁.heap.Ns Ax mg)(hb:s₁.heap.Ns Tt mb)(hbb:∀x:Str,x≠"__name__"->mb x=Df x)(hlim:s₁.heap.NoLimit)(hg:s₁.gens= #[])
  (ha:s₁.heap.get? a=some {cls:=.type "list",data:=.seq vs.toArray})(hi:Q4 vs ns)(hl:ns.length<=sizeLine)(hr:U8 k Ln)
  (F:∀base:Heap,K.In base->base.Ns Ax mg->V1 P w K mg base CX k fa fd [x] sp)(hbind:∀(s:Shared) (u:Value),Ur s fd ⟨[u],[]⟩ [(x,u)])
  (hsp:∀H:Hp,Y1 H->SqL K H a (ns.map V.int)->sp [.ref a] H (λv _=>v=.bl true) λ_ _ _=>False)
  (hCX:∀H e s',CX [] H s₁ (λ_ _ _=>False) e s'->False):
  Gm (model P w) Ln (.call (.ref fa) ⟨[.ref a],[]⟩) (λr s'=>r=.ok (.ret (.bool true))/\OldK s₁.heap s'.heap/\s'.os=s₁.os/\Kr s'.gens) s₁:=by
 have rv:=Jgr hi;have lenV:=hi.length;have core:∀H:Hp,Y1 H->SqL K H a (ns.map V.int)->HOk P w H s₁.heap->(∀b,H b≠none->b=a)->(H a≠none->K.lookup a=none)->
   Gm (model P w) Ln (.call (.ref fa) ⟨[.ref a],[]⟩) (λr s'=>r=.ok (.ret (.bool true))/\OldK s₁.heap s'.heap/\s'.os=s₁.os/\Kr s'.gens) s₁:=by
  intro H hO hS hok hA hK;have Jet:∀{b:Addr} {o:Obj},s₁.heap.get? b=some o->H b=none->(W3 s₁.heap H).get? b=some o:=λe n=>Jo4 e n;have noA:∀{b:Addr} {o:Obj} {es:Array B6} {ep:Nat},s₁.heap.get? b=some o->o.data=.dict es ep->H b=none:=λ{b o es ep} e d=>by
   cases q:H b with
   |none=>rfl
   |some u=>
    have e':b=a:=hA b (by rw[q];simp);subst e';rw[ha]at e;cases e;have d':Data.seq vs.toArray _=Data.dict es ep:=d;cases d'
  have nsK:∀{b:Addr} {m:Str->Option Value},s₁.heap.Ns b m->(W3 s₁.heap H).Ns b m:=λ{b m} ⟨o,es,ep,e,d,r⟩=>⟨o,es,ep,Jet e (noA e d),d,r⟩
  have hKb:K.In (W3 s₁.heap H):=λb o e=>Jet (KX b o e) (by
   cases q:H b with
   |none=>rfl
   |some u=>
    have e':b=a:=hA b (by rw[q];simp);subst e';rw[hK (by rw[q];simp)]at e;cases e)
  have hM:Mod K mg (W3 s₁.heap H):=⟨hKb,nsK hns,⟨mb,nsK hb,hbb⟩,let⟨mc,h1,h2⟩:=hlim;⟨mc,nsK h1,h2⟩⟩
  have e0:Xh P w K mg (W3 s₁.heap H) Ln [] s₁ H:=⟨rfl,hM,λb o e=>Jsx e,L6 (Jmi _ _),trivial,λb hb=>absurd (show b∈([]:List Addr)from hb) (by simp),hok,.of_eq hg⟩
  refine Ft ((F _ hKb (nsK hns)).run Ln [] s₁ H ⟨[.ref a],[]⟩ [.ref a] [.ref a] _ _ hr e0 (hbind s₁ (.ref a)) (.cons rfl .nil) (hsp H hO hS)) λr s' h=>?_;cases r with
  |error e=>exact(hCX H e s' h).elim
  |ok fl=>
   cases fl with
   |next=>exact D3 h
   |brk=>exact D3 h
   |cont=>exact D3 h
   |ret u=>
    obtain⟨v,H',os,bare,un,hok',r',q⟩:=h;have q':v=.bl true:=q;subst q';obtain rfl:u=Hv true:=r';refine⟨rfl,OldK.of_keep λb o e=>?_,os,bare⟩;cases q:H b with
    |none=>exact un.keep b o e q (by intro z;exact absurd (show b∈([]:List Addr)from z) (by simp)) (by simp)
    |some u=>
     rcases hO b with z|⟨ob,xs,z⟩
     ·rw[q]at z;cases z
     ·have z2:=un.frzs b ob _ z;obtain⟨e1,_⟩:=hok b _ z;obtain⟨e2,_⟩:=hok' b _ z2;rw[e]at e1;cases e1;exact e2
 cases hk:K.lookup a with
 |some o=>
  have e:=KX a o hk;rw[ha]at e;cases e;refine core (λ_=>none) (λ_=>.inl rfl) (.inr ⟨_,vs.toArray,_,hk,rfl,rfl,rfl,by rw[Ap,lenV];exact hl,by simpa using rv⟩) (λb u z=>by have z':(none:Option HO)=some u:=z;cases z') (λb z=>absurd rfl z) λz=>absurd rfl z
 |none=>
  refine core (λb=>if b=a then some (.frz {cls:=.type "list",data:=.seq vs.toArray} (.lst (ns.map V.int)))else none) (λb=>?_) (.inl (.inr ⟨{cls:=.type "list",data:=.seq vs.toArray},if_pos rfl⟩)) (λb u z=>?_) (λb z=>?_) λ_=>hk
  ·by_cases hb:b=a
   ·exact .inr ⟨_,_,if_pos hb⟩
   ·exact .inl (if_neg hb)
  ·by_cases hb:b=a
   ·have z':=(if_pos hb).symm.trans z;cases z';subst hb;exact⟨ha,by rw[Ah];exact hl,vs,_,rv,ha⟩
   ·have z':=(if_neg hb).symm.trans z;cases z'
  ·by_cases hb:b=a
   ·exact hb
   ·exact absurd (if_neg hb) z
def Jq3{l:Ja}{XP:(Str->Option Value)->Heap->Prop}{YP:World->Heap->Prop}{d:T4}{K:Er->Af}{CX:World->CXT}{sp:World->Sp}
  (hn:l.most=some n)(hn2:n<=sizeLine)(hdf:d.params.defaults=[])(hr:U8 k Ln)
  (hY:∀(w:World) (h:Heap),YP w h->(K w.params).In h)
  (F:∀(w:World) (mg:Str->Option Value) (fa:Addr) (h:Heap),(K w.params).In h->h.Ns Ax mg->mg d.name=some (.ref fa)->
   ∃fd:Hx,(∀(s:Shared) (u:Value),Ur s fd ⟨[u],[]⟩ [(x,u)])/\
    ∀base:Heap,(K w.params).In base->base.Ns Ax mg->V1 l.prog w (K w.params) mg base (CX w) k fa fd [x] (sp w))
  (hsp:∀(w:World) (H:Hp) (a:Addr) (ns:List Int),ns.length<=n->Y1 H->SqL (K w.params) H a (ns.map V.int)->sp w [.ref a] H (λv _=>v=.bl true) λ_ _ _=>False)
  (hCX:∀(w:World) (H:Hp) (s:Shared) (e:Value) (s':Shared),CX w [] H s (λ_ _ _=>False) e s'->False):
  Ma q loose XP YP l.row.toRowW d [] (λf vs=>Mz f vs):=by
 refine Att.Jis hn hdf λw s₀ s₁ mg mb fa o pm cd doc a vs ns G Y ho hd hcd hmg hobj hints hlen hg=>?_;have KX:=hY w _ Y;obtain⟨fd,hb,hF⟩:=F w mg fa _ KX G.T.g hmg;exact Joq KX G.T.g G.T.b G.T.builtins G.T.nolimit hg hobj hints (Bw hlen hn2) hr hF hb (λH hO hS=>hsp w H a ns hlen hO hS) λH e s'=>hCX w H s₁ e s'
noncomputable def Ux(s:Stmt):Arguments:=match s with
 |.FunctionDef _ a _ _ _ _ _ _ _ _=>a
 |_=>{posonlyargs:=[],args:=[],vararg:=none,kwonlyargs:=[],kw_defaults:=[],kwarg:=none,defaults:=[]}
noncomputable def Uw(s:Stmt):List Stmt:=match s with
 |.FunctionDef _ _ b _ _ _ _ _ _ _=>b
 |_=>[]
noncomputable def defScope(s:Stmt):Hw:=match s with
 |.FunctionDef _ _ _ _ _ _ sc _ _ _=>sc
 |_=>{kind:=.function,names:=[],isGenerator:=false,isCoroutine:=false}
abbrev CX0:CXT:=λ_ _ _ _ _ _=>False
abbrev E0:XK:=λ_ _ _=>False
def Jlr:Vy CX0 X E0:=λ_ _ _ _ _ _ _ h=>h.elim
structure Fun(K:Af)(x qual:Str)(st:Stmt)(f:Addr)(fd:Hx):Prop where
 ex:∃(oc:Value) (od:Option Addr) (kV doc pm:Value) (an:Option Addr) (cdv ct:Value) (osl:Array (Option Value)),
  fd=D9 x qual (Ux st) (Uw st) (defScope st) .none kV doc pm an cdv ct/\K.lookup f=some ⟨oc,od,.func fd,osl⟩/\Fw K cdv qual=true
 kp:Cv K (.ref f)=true
section
variable {P:Program} {w:World} {K:Af} {mg:Str->Option Value} {base:Heap}
def Fun.ok{x qual:Str}{st:Stmt}{f:Addr}{fd:Hx}{N ps:List Str}{k:Nat}{sp:Sp}(F:Fun K x qual st f fd)(S:Vq N ps (defScope st))(len:∀vs H Q E,sp vs H Q E->vs.length=ps.length)
  (hbody:∀(cdv:Value) (A:Bl) (outer:List Env) (s:Shared) (H:Hp) (vs:List V) (Q:VK) (E:XK),U8 k (A.deeper (Mj qual (defScope st) s.heap.objs.size f cdv))->sp vs H Q E->
   ∃t,PSs (Xs CX0 P w K mg base N qual (defScope st) f cdv A outer s H E).nox (Uw st) t/\t {nx:=λ_ H'=>Q .non H',rt:=Q} (start N vs) H):V1 P w K mg base CX0 (k+1) f fd ps sp:=by
 obtain⟨oc,od,kV,doc,pm,an,cdv,ct,osl,rfl,lk,hcd⟩:=F.ex;refine Jzd lk hcd S len λA outer s H vs Q E hr hsp=>?_;obtain⟨t,h,q⟩:=hbody cdv A outer s H vs Q E hr hsp;exact⟨t,h.nox,q⟩
def Jqq{x qual:Str}{st:Stmt}{f:Addr}{oc:Value}{od an:Option Addr}{osl:Array (Option Value)}{kV doc pm cdv ct:Value}(l:K.lookup f=some ⟨oc,od,.func (D9 x qual (Ux st) (Uw st) (defScope st) .none kV doc pm an cdv ct),osl⟩)
  (c:Fw K cdv qual=true)(k:Cv K (.ref f)=true):Fun K x qual st f (D9 x qual (Ux st) (Uw st) (defScope st) .none kV doc pm an cdv ct):=⟨⟨oc,od,kV,doc,pm,an,cdv,ct,osl,rfl,l,c⟩,k⟩
end
section
variable {X:Cx}
end
def Wfr{A B:Prop}(h:B):if false=true then A else B:=by
 rw[if_neg Az];exact h
def Wfq{A B:Prop}(h:A):if true=true then A else B:=by
 rw[if_pos rfl];exact h
section
variable {prog:Program} {w:World} {A:Bl} {R:Lg->Shared->Prop} {s:Shared}
theorem Jhg{E:Value->Shared->Prop}(hE:∀e s,E e s->notedBy (model prog w) A env (λx s'=>R (.error x) s') e s)(I:Nat->Shared->Prop)
  (turn:∀n s,I n s->wpAny (model prog w) A (pyNext it) (λr s₁=>match r with
   |none=>R (.ok .next) s₁
   |some v=>wpAny (model prog w) A (Ii target it v) (λ_ s₁'=>wpAny (model prog w) A (assign target env v) (λ_ s₂=>
     wpAny (model prog w) A (forIn ifs true λc r=>if r=true then do let ok<-isTrue c env (eval c env);pure (F7 ok)else pure (F7 r)) (λok s₃=>
      if ok=true then wpAny (model prog w) A (eval elt env) (λx s₄=>
       wpAny (model prog w) A (call (.builtin "list.append") [acc,x]) (λ_ s₅=>∃m,m<n/\I m s₅) E s₄) E s₃
      else∃m,m<n/\I m s₃) E s₂) E s₁') E s₁) E s)
  (n:Nat)(h:I n s):
  Gm (model prog w) A (.compLoop (.ListComp elt [⟨target,iter,ifs,0⟩] scope pos) 0 it acc env) R s:=by
 refine codeAny_loop rfl I (λn s hI=>?_) n h;show wpAny _ A ((compTurn (.ListComp elt [⟨target,iter,ifs,0⟩] scope pos) 0 it acc env).onRaise (λx=>do noteFrame x env;theTreesLotGoes x)) _ _ s;refine wpAny_noted ?_;rw[compTurn_list];refine Aa (L7 (Aa (B4 (turn n s hI) (λr s₁ h₁=>?_) hE)));cases r with
 |none=>exact Ac h₁
 |some v=>
  refine Aa (B4 h₁ (λ_ s₁' h₁'=>?_) hE);refine Aa (B4 h₁' (λ_ s₂ h₂=>Aa (B4 h₂ (λok s₃ h₃=>?_) hE)) hE);cases ok with
  |false=>exact Ac ⟨rfl,h₃⟩
  |true=>
   exact Aa (Aa (B4 h₃ (λx s₄ h₄=>Aa (B4 h₄ (λ_ s₅ h₅=>Ac (Ac ⟨rfl,h₅⟩)) hE)) hE))
end
noncomputable def clOf(cells:List (Str×Addr)):List (Str×E3)->List (Str×Addr)->List (Str×Addr)
 |[],acc=>acc
 |(n,k)::r,acc=>if k== .free then(match cells.lookup n with|some c=>clOf cells r ((n,c)::acc)|none=>clOf cells r acc)else clOf cells r acc
theorem Jbd(env:Env):∀(names:List (Str×E3)) (acc:List (Str×Addr)),(∀x∈names,x.2=.free->∃c,env.cells.lookup x.1=some c)->
  (forIn names acc (λ(x:Str×E3) (cs:List (Str×Addr))=>(match x with|(name,kind)=>if kind== .free then(do let c<-cellOf env name;pure (F7 ((name,c)::cs)))else pure (F7 cs):Sem (ForInStep (List (Str×Addr))))))=pure (clOf env.cells names acc)
 |[],acc,_=>rfl
 |(n,k)::r,acc,h=>by
  have hr:∀x∈r,x.2=.free->∃c,env.cells.lookup x.1=some c:=λx hx=>h x (Ay _ hx);simp only[Hl]
  by_cases hk:(k==G2)=true
  ·obtain⟨c,hc⟩:=h (n,k) Bn (by simpa using hk);have hc':env.cells.lookup n=some c:=hc;simp only[hk,if_true,cellOf,hc',pure_bind,clOf];exact Jbd env r _ hr
  ·simp only[hk,Ar,if_false,pure_bind,clOf];exact Jbd env r _ hr
def Jc2{scope:Hw}{env:Env}(h:∀x∈scope.names,x.2=.free->∃c,env.cells.lookup x.1=some c):Ts scope env=pure (clOf env.cells scope.names []):=by
 have e:=Jbd env scope.names [] h;unfold Ts;simp only[bind_pure];refine Eq.trans ?_ e;congr 1
theorem Jdz(cells:List (Str×Addr)):∀(names:List (Str×E3)) (acc:List (Str×Addr)),(∀p∈acc,cells.lookup p.1=some p.2)->∀p∈clOf cells names acc,cells.lookup p.1=some p.2
 |[],acc,h,p,hp=>h p hp
 |(n,k)::r,acc,h,p,hp=>by
  unfold clOf at hp;split at hp
  ·split at hp
   ·rename_i c hc;refine Jdz cells r _ (λq hq=>?_) p hp;rcases An.mp hq with e|e
    ·subst e;exact hc
    ·exact h q e
   ·exact Jdz cells r _ h p hp
  ·exact Jdz cells r _ h p hp
theorem Jca(cells:List (Str×Addr)):∀(names:List (Str×E3)) (acc:List (Str×Addr)) (p),p∈acc->p∈clOf cells names acc
 |[],acc,p,h=>h
 |(n,k)::r,acc,p,h=>by
  unfold clOf;split
  ·split
   ·exact Jca cells r _ p (Ay _ h)
   ·exact Jca cells r _ p h
  ·exact Jca cells r _ p h
theorem Jd0(cells:List (Str×Addr)):∀(names:List (Str×E3)) (acc:List (Str×Addr)) (x:Str) (c:Addr),(x,G2)∈names->cells.lookup x=some c->(x,c)∈clOf cells names acc
 |[],acc,x,c,h,_=>by simp at h
 |(n,k)::r,acc,x,c,h,e=>by
  unfold clOf;rcases An.mp h with q|q
  ·cases q;simp only[beq_self_eq_true,if_true,e];exact Jca cells r _ _ Bn
  ·split
   ·split
    ·exact Jd0 cells r _ x c q e
    ·exact Jd0 cells r _ x c q e
   ·exact Jd0 cells r _ x c q e
theorem Jfy{α:Type}{l:List (Str×α)}{x:Str}{c:α}(h:(x,c)∈l):∃c',l.lookup x=some c':=by
 induction l with
 |nil=>simp at h
 |cons p r ih=>
  obtain⟨y,d⟩:=p
  by_cases e:(x==y)=true
  ·exact⟨d,by simp[C9,e]⟩
  ·have e':(x==y)=false:=by simpa using e
   rcases An.mp h with q|q
   ·cases q;simp at e
   ·obtain⟨c',hc⟩:=ih q;exact⟨c',by simp[C9,e',hc]⟩
def Jbs{cells:List (Str×Addr)}(h:(clOf cells names []).lookup x=some c):cells.lookup x=some c:=
 Jdz cells names [] (λ_ h=>by simp at h) (x,c) (D7 h)
def Jhh{cells:List (Str×Addr)}(h:(x,G2)∈names)(e:cells.lookup x=some c):(clOf cells names []).lookup x=some c:=by
 obtain⟨c',hc⟩:=Jfy (Jd0 cells names [] x c h e);rw[hc,<-Jbs hc,e]
def U1.upd_none(n:H b=none)(x:U1 P w H h a o):U1 P w (upd H b u) h a o:=
 x.stay (λ_ _ _ q=>q) (λc q=>by rw[Jac (Jak q n)];exact q) λc xs q=>by rw[Jac (Jak q n)];exact q
def Inv.adopt{X:Cx}{s:Shared}(I:Inv X pins U H s)(n:H d=none)(h1:X.s₀.heap.objs.size<=d)(h2:d≠X.env.locals)
  (h3:∀x c,X.env.cells.lookup x=some c->c≠d)(h4:∀p∈X.pn++pins,p.1≠d)(new:U1 X.prog X.w (upd H d o) s.heap d o):Inv X pins U (upd H d o) s:=by
 have hH:HOk X.prog X.w (upd H d o) s.heap:=λb u e=>by
  by_cases hb:b=d
  ·subst hb;rw[Jaf]at e;cases e;exact new
  ·rw[Jac hb]at e;exact(I.hok b u e).upd_none n
 have q:=I.step (h':=s.heap) (H':=upd H d o) (g':=s.gens) (d':=s.drawn) (t':=s.toks) (ch:=[d]) (λb hb=>by
   have e:b=d:=by simpa using hb
   subst e;exact⟨.inr h1,h2,h3,h4⟩) (λb o _ _ _ e _=>e) (λb o _ _ _ e _=>⟨o.slots,e⟩) (λb u hb e z=>by
   have hb':b≠d:=λe=>hb (by simp[e]);rw[Jac hb'];exact z) (λb o _ e=>⟨o,e⟩)
  (λb xs e=>by rw[Jac (Jak e n)];exact e) (λb u xs e=>by rw[Jac (Jak e n)];exact e) (λb ps e=>⟨#[],by rw[Jac (Jak e n),e];simp⟩) (λm hm=>hm) hH I.bare
 exact q
theorem Jcb(scope:Hw)(env:Env)(x:Str):(relabel scope env).names.lookup x=(scope.names.lookup x).map λk=>if(k== .free&&env.scope.kind== .function&&env.kindOf x==some .cell)=true then .cell else k:=by
 show(scope.names.map λ(n,k)=>if(k==G2&&env.scope.kind== .function&&env.kindOf n==some .cell)then(n,Qx)else(n,k)).lookup x=_;generalize scope.names=l
 induction l with
 |nil=>rfl
 |cons p r ih=>
  obtain⟨n,k⟩:=p;show Ew x ((if(k==G2&&env.scope.kind== .function&&env.kindOf n==some .cell)=true then(n,Qx)else(n,k))::_)=_;cases hx:x==n with
  |true=>
   have e:x=n:=by simpa using hx
   subst e;simp only[C9,beq_self_eq_true,Fd];split<;>simp
  |false=>
   simp only[C9,hx];split<;>(simp only[C9,hx];exact ih)
noncomputable def U3(X:Cx)(N':List Str)(scope:Hw)(s₃:Shared)(H₃:Hp)(ex:List Addr)(pins:List (Addr×Obj))(xe:Value->Shared->Prop:=λ_ _=>False):Cx:=
 {X with N:=N',s₀:=s₃,H₀:=H₃,env:=compEnvC scope (clOf X.env.cells scope.names []) s₃.heap.objs.size X.env,outer:=X.stack,ex:=ex,fn:=λ_=>false,pn:=X.pn++pins,xe:=xe}
noncomputable def W2(k:Nat)(keep:List Nat)(U:St):St:=E5 k none++keep.map λi=>(U[i]?).join
structure Vk(X:Cx)(N':List Str)(k:Nat)(keep:List Nat)(scope:Hw):Prop where
 kind:scope.kind=.function
 cell:∀y∈scope.names,y.2≠ .cell
 names:∀y∈scope.names,y.2=.local->scope.names.lookup y.1=some .local
 free:∀y∈scope.names,y.2=.free->X.env.scope.names.lookup y.1=some .cell\/X.env.scope.names.lookup y.1=some .free
 len:N'.length=k+keep.length
 kept:∀j i,keep[j]? =some i->∃x,N'[k+j]? =some x/\X.N[i]? =some x/\scope.names.lookup x=some .free
def Jbw{l:List (Str×E3)}(h:l.lookup x=some k):(x,k)∈l:=D7 h
section
variable {X:Cx} {N':List Str} {k:Nat} {keep:List Nat} {scope:Hw} {pins:List (Addr×Obj)} {U:St} {H H₃:Hp} {s s₃:Shared} {ex:List Addr} {xe:Value->Shared->Prop}
def Vk.clo(c:Vk X N' k keep scope)(ok:X.Ok):∀y∈scope.names,y.2=.free->∃c,X.env.cells.lookup y.1=some c:=λy hy hf=>ok.has y.1 (c.free y hy hf)
theorem Vk.inner(c:Vk X N' k keep scope)(h:(relabel scope X.env).names.lookup x=some .cell\/(relabel scope X.env).names.lookup x=some .free):scope.names.lookup x=some .free:=by
 rw[Jcb]at h;cases e:scope.names.lookup x with
 |none=>rw[e]at h;simp at h
 |some q=>
  rw[e]at h;have hc:=c.cell _ (Jbw e);simp only[Fd,Gh]at h
  by_cases hq:(q==G2&&X.env.scope.kind== .function&&X.env.kindOf x==some .cell)=true
  ·have:q=.free:=by
    simp only[Al]at hq
    simpa using hq.1.1
   rw[this]
  ·rw[if_neg hq]at h;rcases h with h|h
   ·exact absurd h hc
   ·rw[h]
def Inv.enter(c:Vk X N' k keep scope)(I:Inv X pins U H s₃){h':Heap}{m:Str->Option Value}(hns:h'.Ns s₃.heap.objs.size m)(hk:∀b o,s₃.heap.get? b=some o->h'.get? b=some o)
  (hex:∀b∈ex,b<s₃.heap.objs.size/\b≠X.env.locals/\b∉X.fs/\(b∈X.ex\/X.s₀.heap.objs.size<=b)/\∀x c,X.env.cells.lookup x=some c->c≠b):
  Inv (U3 X N' scope s₃ H ex pins xe) [] (W2 k keep U) H {s₃ with heap:=h',toks:=t'}:=by
 have hcl:∀x c',(clOf X.env.cells scope.names []).lookup x=some c'->X.env.cells.lookup x=some c':=λx c' h=>Jbs h;have nstk:∀b∈ex,b∉frs X.stack:=λb hb z=>by
  obtain⟨h0,h1,h2,_⟩:=hex b hb;rcases An.mp (I.stkSub b z)with e|e
  ·exact h1 e
  ·exact h2 e
 have cltb:∀x c',X.env.cells.lookup x=some c'->c'<s₃.heap.objs.size:=λx c' e=>by
  obtain⟨v,q⟩:=I.cell x c' e;exact q.lt
 refine⟨⟨I.ok.mod,c.kind,I.ok.glob,I.ok.blt,Ai _,?inj,?has,?cab,I.ok.hd,I.ok.frames,.inl rfl,?exf,I.bs,Bw I.ok.bsz I.sz,?noex,nstk,I.stack,I.stkFree⟩,rfl,I.bare,Un.kept hk,?loc,?cell,?free,?freeC,?pin,I.hok.kept hk,?len⟩
 case inj=>exact λx y a h1 h2=>I.ok.inj x y a (hcl x a h1) (hcl y a h2)
 case has=>
  intro x hx;have e:scope.names.lookup x=some .free:=c.inner hx;obtain⟨a,ha⟩:=c.clo I.ok (x,.free) (Jbw e) rfl;exact⟨a,Jhh (Jbw e) ha⟩
 case cab=>exact λx a hf=>absurd hf (by show¬(false=true);simp)
 case exf=>exact λb hb=>⟨As (hex b hb).1,λx a e=>(hex b hb).2.2.2.2 x a (hcl x a e)⟩
 case noex=>
  intro b o e hb;rcases(hex b hb).2.2.2.1 with z|z
  ·exact I.ok.noex b o e z
  ·exact absurd (Bh (Am e) (Bw I.ok.bsz z)) (Eh _)
 case loc=>
  refine⟨m,hns,λi x v e1 e2 e3=>?_⟩;have e1:N'[i]? =some x:=e1;unfold W2 at e2
  by_cases hi:i<k
  ·rw[A0 (by simpa using hi),E6,if_pos hi]at e2;cases e2
  ·rw[A1 (by simpa using hi),G8,Ao]at e2;cases ej:keep[i-k]? with
   |none=>rw[ej]at e2;cases e2
   |some j=>
    rw[ej]at e2;have e2':(U[j]?).join=some v:=Bj e2;have e2':U[j]? =some (some v):=by
     cases q:U[j]? with
     |none=>rw[q]at e2';cases e2'
     |some y=>rw[q]at e2';exact congrArg some e2'
    obtain⟨x',p1,p2,p3⟩:=c.kept _ _ ej;have ex':k+(i-k)=i:=by omega
    rw[ex',e1]at p1;cases p1;have fr:=c.free _ (Jbw p3) rfl;obtain⟨m0,hn0,hl0⟩:=I.loc;obtain⟨u,ru,lk⟩:=hl0 j x v p2 e2' (.inr fr);refine⟨u,ru,?_⟩;rcases lk with⟨l1,_⟩|⟨_,a,ha,hcell⟩
    ·exfalso;have l1:X.env.scope.names.lookup x=some .local:=l1;rcases fr with z|z
     ·rw[z]at l1;cases l1
     ·rw[z]at l1;cases l1
    ·refine .inr ⟨e3.elim (λz=>?_) id,a,Jhh (Jbw p3) ha,?_⟩
     ·exfalso;have z:(relabel scope X.env).names.lookup x=some .local:=z;rw[Jcb,p3]at z;simp only[Fd,Gh]at z;split at z<;>cases z
     ·obtain⟨o,ho,hd⟩:=hcell;exact⟨o,hk _ _ ho,hd⟩
 case cell=>
  intro x a h;obtain⟨v,o,ho,hd⟩:=I.cell x a (hcl x a h);exact⟨v,o,hk _ _ ho,hd⟩
 case free=>exact I.hok.fresh (Ai _)
 case freeC=>exact λx a h=>I.freeC x a (hcl x a h)
 case pin=>
  intro p hp;have hp:p∈X.pn++pins:=by simpa [U3]using hp
  obtain⟨e,n,ne,nf,d⟩:=I.pin p hp;refine⟨hk _ _ e,n,As (Am e),λz=>?_,d⟩;rcases An.mp (I.stkSub p.1 z)with q|q
  ·exact ne q
  ·exact nf q
 case len=>
  show(W2 k keep U).length=N'.length;rw[c.len];unfold W2;simp
structure W5(X:Cx)(pins:List (Addr×Obj))(U:St)(H:Hp)(s₃:Shared)(ex:List Addr):Prop where
 inv:Inv X pins U H s₃
 exo:∀b∈ex,b<s₃.heap.objs.size/\b≠X.env.locals/\b∉X.fs/\(b∈X.ex\/X.s₀.heap.objs.size<=b)/\∀x c,X.env.cells.lookup x=some c->c≠b
 pin:∀b∈ex,∀p∈X.pn++pins,p.1≠b
def Inv.leave(I:Inv X pins U H₃ s₃)(J:Inv (U3 X N' scope s₃ H₃ ex pins xe) pins' U' H s)
  (hex:∀b∈ex,b<s₃.heap.objs.size/\b≠X.env.locals/\b∉X.fs/\(b∈X.ex\/X.s₀.heap.objs.size<=b)/\∀x c,X.env.cells.lookup x=some c->c≠b)(hpin:∀b∈ex,∀p∈X.pn++pins,p.1≠b):
  Inv X pins U H s:=by
 have u:Un (frs X.stack) ex H₃ H s₃.heap s.heap:=J.base;have ho:s.os=s₃.os:=J.os;exact I.call' ho u J.hok J.bare λb hb=>⟨(hex b hb).2.2.2.1,(hex b hb).2.1,(hex b hb).2.2.2.2,hpin b hb⟩
end
def PTs(X:Cx)(ifs:List Expr)(t:TT):Prop:=
 ∀(pins:List (Addr×Obj)) (s:Shared) (U:St) (H:Hp) (Q:Bool->Hp->Prop),Inv X pins U H s->t U H Q->
  wpAny (model X.prog X.w) X.A (forIn ifs true λc r=>if r=true then do let ok<-isTrue c X.env (eval c X.env);pure (F7 ok)else pure (F7 r)) (TP X pins U Q) X.xe s
def Jr6:PTs X [] (λ_ H Q=>Q true H):=λpins s U H Q I h=>wpAny_tests_nil ⟨H,I,h⟩
def Jr5(h:PT X c t):PTs X [c] t:=λpins s U H Q I q=>wpAny_tests_one (h pins s U H Q I q)
def Yj(J:It)(g:TG)(tc:TT)(te:TE)(Q:List V->Hp->Prop)(U':St)(H1:Hp):Prop:=
 ∃W:Nat->Nat->List V->St->Hp->Prop,(∃m,W 0 m [] U' H1)/\∀i m xs U H,W i m xs U H->xs.length<=sizeLine/\
  ((J.stop i H/\Q xs H)\/(J.go i H/\∀x H',J.yld i H x H'->g x U H' λσ2 H2=>tc σ2 H2 λb H3=>
   if b=true then te σ2 H3 λy H4=>∃m',m'<m/\W (i+1) m' (xs++[y]) σ2 H4 else∃m',m'<m/\W (i+1) m' xs σ2 H3))
def Own(X:Cx)(pins:List (Addr×Obj))(H:Hp)(b:Addr):Prop:=
 H b=none/\X.s₀.heap.objs.size<=b/\b≠X.env.locals/\(∀x c,X.env.cells.lookup x=some c->c≠b)/\∀p∈X.pn++pins,p.1≠b
def Inv.own{s:Shared}(I:Inv X pins U H s)(hb:s.heap.objs.size<=b)(hn:H' b=none):Own X pins H' b:=by
 obtain⟨f0,f1,f2,f3,f4,f5⟩:=I.fpOk hb hn;exact⟨f0,Bw I.sz hb,f1,f4,f5⟩
structure Y8(P:Program)(w:World)(K:Af)(tg:Expr)(J:It)(fp:List Addr)(it:Addr)(tn:Nat->Heap->Prop)(cm:Cx->Prop):Prop where
 obj:∀n g,tn n g->∀a∈fp,∃u,g.get? a=some u/\∀v,u.data≠ .cell v
 keep:∀n g g',tn n g->(∀a∈fp,∀u,g.get? a=some u->g'.get? a=some u)->tn n g'
 item:∀(Y:Cx),Y.prog=P->Y.w=w->Y.K=K->cm Y->∀(n:Nat) (ps:List (Addr×Obj)) (s:Shared) (U:St) (H:Hp) (E:Value->Shared->Prop),Inv Y ps U H s->(∀a∈fp,V9 Y ps H a)->tn n s.heap->J.go n H->
  wpAny (model P w) Y.A (pyNext (.ref it)) (λr s1=>∃u,r=some u/\wpAny (model P w) Y.A (Ii tg (.ref it) u) (λ_ s2=>∃x H',Inv Y ps U H' s2/\RelV x u/\J.yld n H x H'/\tn (n+1) s2.heap/\∀a∈fp,H' a=none) E s1) E s
 done:∀(Y:Cx),Y.prog=P->Y.w=w->Y.K=K->cm Y->∀(n:Nat) (ps:List (Addr×Obj)) (s:Shared) (U:St) (H:Hp) (E:Value->Shared->Prop),Inv Y ps U H s->(∀a∈fp,V9 Y ps H a)->tn n s.heap->J.stop n H->wpAny (model P w) Y.A (pyNext (.ref it)) (λr s1=>r=none/\Inv Y ps U H s1) E s
 self:∀(B:Bl) (n:Nat) (s:Shared) (R:Value->Shared->Prop) (E:Value->Shared->Prop),tn n s.heap->R (.ref it) s->wpAny (model P w) B (pyIter (.ref it)) R E s
def Turn.toC{P:Program}{w:World}{K:Af}{tg:Expr}{J:It}{fp:List Addr}{it:Addr}{tn:Nat->Heap->Prop}(T:Turn P w K tg J fp it tn):Y8 P w K tg J fp it tn (λX=>X.calm=true):=⟨T.obj,T.keep,T.item,T.done,T.self⟩
section
variable {X:Cx} {N':List Str} {k:Nat} {keep:List Nat} {scope:Hw} {pins:List (Addr×Obj)} {U:St} {H:Hp} {s:Shared}
def Jfj{fp:List Addr}{tn:Nat->Heap->Prop}{Q:List V->Hp->Prop}{RR:Value->Addr->Lg->Shared->Prop}{E:Value->Shared->Prop}{xe:Shared->Value->Shared->Prop}
  {cm:Cx->Prop}(c:Vk X N' k keep scope)(calm:∀s₃ ex,cm (U3 X N' scope s₃ H ex pins (xe s₃)))(I:Inv X pins U H s)(T:Y8 X.prog X.w X.K tg J fp it tn cm)(st:tn 0 s.heap)(hf:∀b∈fp,V9 X pins H b)
  (hg:∀s₃ ex,PG (U3 X N' scope s₃ H ex pins (xe s₃)) tg g)(hc:∀s₃ ex,PTs (U3 X N' scope s₃ H ex pins (xe s₃)) ifs tc)(he:∀s₃ ex,W5 X pins U H s₃ ex->PE (U3 X N' scope s₃ H ex pins (xe s₃)) elt te)
  (hE:∀s₃ D e s',xe s₃ e s'->notedBy (model X.prog X.w) X.A (compEnvC scope (clOf X.env.cells scope.names []) s₃.heap.objs.size X.env) (λx s''=>RR D s₃.heap.objs.size (.error x) s'') e s')
  (hW:Yj J g tc te Q (W2 k keep U) H)
  (hRR:∀D C s' H' xs m,Inv X pins U H' s'->Own X pins H' D->Own X pins H' C->D≠C->U1 X.prog X.w (upd H' D (.lst xs)) s'.heap D (.lst xs)->s'.heap.Ns C m->Q xs H'->RR (.ref D) C (.ok .next) s'):
  wpAny (model X.prog X.w) X.A (newList []) (λacc s₃=>wpAny (model X.prog X.w) X.A (newFunctionEnv scope X.env.globals (clOf X.env.cells scope.names []) [] X.env.qual none .none (some X.env)) (λcenv s₄=>cenv.frame=X.env.frame/\
   Gm (model X.prog X.w) X.A (.compStart (.ListComp elt [⟨tg,iter,ifs,0⟩] scope pos) 0 (.ref it) acc {cenv with scope:=relabel scope X.env}) (RR acc cenv.locals) s₄) E s₃) E s:=by
 refine Br (wpAny_newFunctionEnv c.cell (by intro y hy;simp at hy) (λh₁ hns₁ hsb₁=>?_) c.kind);dsimp only at hns₁ hsb₁ ⊢;generalize hH2:s.heap.push {cls:=.type "list",dict:=none,data:=.seq ([]:List Value).toArray}=H2 at hns₁ hsb₁ ⊢;have I3:Inv X pins U H {s with heap:=H2}:=I.kept (t':=s.toks) λb o e=>hH2▸Ad _ e;have hC:H2.objs.size=s.heap.objs.size+1:=by rw[<-hH2,Cd]
 have hlt:s.heap.objs.size<H2.objs.size:=by rw[hC];exact Dg _
 have hne:s.heap.objs.size≠H2.objs.size:=As hlt;have fpo:∀b∈fp,∃o,s.heap.get? b=some o/\∀v,o.data≠ .cell v:=T.obj _ _ st;have fplt:∀b∈fp,b<s.heap.objs.size:=λb hb=>by
  obtain⟨o,e,_⟩:=fpo b hb;exact Am e
 have nD:H s.heap.objs.size=none:=I.hok.fresh (Ai _);have nC:H H2.objs.size=none:=I.hok.fresh (by lia);have oD:Own X pins H s.heap.objs.size:=I.own (Ai _) nD;have oC:Own X pins H H2.objs.size:=I.own (by lia) nC;have hkp:∀b o,H2.get? b=some o->h₁.get? b=some o:=λb o e=>hsb₁.extBut b o (As (Am e)) (Ad _ e);have hex:∀b∈s.heap.objs.size::fp,b<({s with heap:=H2}:Shared).heap.objs.size/\b≠X.env.locals/\b∉X.fs/\(b∈X.ex\/X.s₀.heap.objs.size<=b)/\∀x c,X.env.cells.lookup x=some c->c≠b:=λb hb=>by
  rcases An.mp hb with e|e
  ·subst e;exact⟨hlt,oD.2.2.1,I.nofs (Ai _),.inr oD.2.1,oD.2.2.2.1⟩
  ·obtain⟨f0,f1,f2,f3,f4,f5⟩:=hf b e;exact⟨Ez (fplt b e) hlt,f1,f2,f3,f4⟩
 have hpin:∀b∈s.heap.objs.size::fp,∀p∈X.pn++pins,p.1≠b:=λb hb p hp=>by
  rcases An.mp hb with e|e
  ·subst e;exact oD.2.2.2.2 p hp
  ·exact(hf b e).2.2.2.2.2 p hp
 have Dstk:s.heap.objs.size∉frs X.stack:=λz=>by
  rcases An.mp (I.stkSub _ z)with q|q
  ·exact oD.2.2.1 q
  ·exact I.nofs (Ai _) q
 generalize hY:U3 X N' scope {s with heap:=H2} H (s.heap.objs.size::fp) pins (xe {s with heap:=H2})=Y;have ePrg:Y.prog=X.prog:=by subst hY;rfl
 have eW:Y.w=X.w:=by subst hY;rfl
 have eK:Y.K=X.K:=by subst hY;rfl
 have eA:Y.A=X.A:=by subst hY;rfl
 have eCalm:cm Y:=by subst hY;exact calm _ _
 have eEnv:Y.env=compEnvC scope (clOf X.env.cells scope.names []) H2.objs.size X.env:=by subst hY;rfl
 have eXe:Y.xe=xe {s with heap:=H2}:=by subst hY;rfl
 have J0:Inv Y [] (W2 k keep U) H {s with heap:=h₁,toks:=s.toks+([]:List (Str×Value)).length}:=by
  subst hY;exact I3.enter (t':=s.toks+([]:List (Str×Value)).length) c hns₁ hkp hex
 have fpY:∀{H':Hp} {q:List (Addr×Obj)},(∀b∈fp,H' b=none)->(∀p∈q,p.1=s.heap.objs.size)->∀b∈fp,V9 Y q H' b:=λ{H' q} hn hq b hb=>by
  obtain⟨f0,f1,f2,f3,f4,f5⟩:=hf b hb;have lt:=fplt b hb;subst hY;refine⟨hn b hb,As (Ez lt hlt),λz=>?_,.inl (Ay _ hb),λx a e=>f4 x a (Jbs e),λp hp=>?_⟩
  ·rcases An.mp (I.stkSub b z)with q|q
   ·exact f1 q
   ·exact f2 q
  ·rcases Bt.mp (show p∈(X.pn++pins)++q from hp)with z|z
   ·exact f5 p z
   ·rw[hq p z];exact Cj lt
 obtain⟨W,⟨m0,w0⟩,turn⟩:=hW
 let Iv:Nat->Shared->Prop:=λn s'=>∃i xs U' H' its nn,Inv Y [] U' H' s'/\tn i s'.heap/\(∀b∈fp,H' b=none)/\H' s.heap.objs.size=none/\Vals xs its/\s'.heap.get? s.heap.objs.size=some {cls:=.type "list",data:=.seq its.toArray nn}/\W i n xs U' H'
 have hdD:∀{h':Heap},(∀b o,s.heap.get? b=some o->h'.get? b=some o)->True:=λ_=>trivial;have start:Iv m0 {s with heap:=h₁,toks:=s.toks+([]:List (Str×Value)).length}:=by
  refine⟨0,[],_,H,[],0,J0,T.keep _ _ _ st λb hb o e=>hkp b o (hH2▸Ad _ e),λb hb=>(hf b hb).1,nD,.nil,?_,w0⟩;exact hkp _ _ (hH2▸Aj _ rfl)
 have loop:∀s₃:Shared,s₃={s with heap:=h₁,toks:=s.toks+([]:List (Str×Value)).length}->
   Gm (model X.prog X.w) X.A (.compLoop (.ListComp elt [⟨tg,iter,ifs,0⟩] scope pos) 0 (.ref it) (.ref s.heap.objs.size) (compEnvC scope (clOf X.env.cells scope.names []) H2.objs.size X.env))
    (RR (.ref s.heap.objs.size) H2.objs.size) s₃:=by
  rintro s₃ rfl;refine Jhg (hE {s with heap:=H2} _) Iv (λn s' hI=>?_) m0 start;obtain⟨i,xs,U',H',its,nn,J',tn',fr',dn',rv,hl,w'⟩:=hI;obtain⟨hsz,alt⟩:=turn i n xs U' H' w';rcases alt with⟨stop,q⟩|⟨go,step⟩
  ·have z:=T.done Y ePrg eW eK eCalm i [] s' U' H' (xe {s with heap:=H2}) J' (fpY fr' (λ_ h=>by simp at h)) tn' stop;rw[eA]at z;have J'':Inv Y [(s.heap.objs.size,{cls:=.type "list",data:=.seq its.toArray nn})] U' H' s':=J'.pins_of λp hp=>by
    have e:p=(s.heap.objs.size,{cls:=.type "list",data:=.seq its.toArray nn}):=by simpa using hp
    subst e;refine⟨hl,dn',?_,?_,λv h=>nomatch h⟩
    ·rw[eEnv];exact hne
    ·subst hY;exact Dstk
   have z:=T.done Y ePrg eW eK eCalm i _ s' U' H' (xe {s with heap:=H2}) J'' (fpY fr' (λp hp=>by have e:p=_:=(Av.mp hp);rw[e])) tn' stop;rw[eA]at z;refine B4 z (λr s4 ⟨hr,J4⟩=>?_) λ_ _ f=>f;subst hr;have hl4:=(J4.pin _ (By _ (Av.mpr rfl))).1;have J5:Inv (U3 X N' scope {s with heap:=H2} H (s.heap.objs.size::fp) pins (xe {s with heap:=H2})) [(s.heap.objs.size,{cls:=.type "list",data:=.seq its.toArray nn})] U' H' s4:=by rw[hY];exact J4
   have I4:Inv X pins U H' s4:=I3.leave J5 hex hpin;obtain⟨mC,hnC,_⟩:=J4.loc;have cfree:=J4.free;rw[eEnv]at hnC cfree;refine hRR _ _ s4 H' xs mC I4 ⟨dn',oD.2⟩ ⟨cfree,oC.2⟩ hne ⟨hsz,its,nn,rv,hl4⟩ hnC q
  ·have J'':Inv Y [(s.heap.objs.size,{cls:=.type "list",data:=.seq its.toArray nn})] U' H' s':=J'.pins_of λp hp=>by
    have e:p=(s.heap.objs.size,{cls:=.type "list",data:=.seq its.toArray nn}):=by simpa using hp
    subst e;refine⟨hl,dn',?_,?_,λv h=>nomatch h⟩
    ·rw[eEnv];exact hne
    ·subst hY;exact Dstk
   have z:=T.item Y ePrg eW eK eCalm i _ s' U' H' (xe {s with heap:=H2}) J'' (fpY fr' (λp hp=>by have e:p=_:=(Av.mp hp);rw[e])) tn' go;rw[eA]at z;refine B4 z (λr s4 ⟨u,hr,h4⟩=>?_) λ_ _ f=>f;subst hr;refine B4 h4 (λ_ s5 ⟨x,H5,J5,r5,y5,tn5,fr5⟩=>?_) λ_ _ f=>f;have J5':=J5.pinned (fpY fr5 (λp hp=>by have e:p=_:=(Av.mp hp);rw[e])) (T.obj _ _ tn5);have hg':PG Y tg g:=hY▸hg _ _;have hc':PTs Y ifs tc:=hY▸hc _ _;have he':PE Y elt te:=hY▸he _ _ ⟨I3,hex,hpin⟩;have g6:=hg' _ s5 U' H5 x u _ J5' r5 (step x H5 y5);rw[eXe,eA,ePrg,eW,eEnv]at g6;refine B4 g6 (λ_ s6 ⟨σ6,H6,J6,q6⟩=>?_) λ_ _ f=>f;have c7:=hc' _ s6 σ6 H6 _ J6 q6;rw[eXe,eA,ePrg,eW,eEnv]at c7;refine B4 c7 (λok s7 ⟨H7,J7,q7⟩=>?_) λ_ _ f=>f;have fin:∀{s8:Shared} {σ8:St} {H8:Hp} {xs':List V} {its':List Value} {n' m':Nat},Inv Y [] σ8 H8 s8->tn (i+1) s8.heap->(∀b∈fp,H8 b=none)->H8 s.heap.objs.size=none->Vals xs' its'->
     s8.heap.get? s.heap.objs.size=some {cls:=.type "list",data:=.seq its'.toArray n'}->W (i+1) m' xs' σ8 H8->m'<n->∃m,m<n/\Iv m s8:=λa1 a2 a3 a4 a5 a6 a7 a8=>⟨_,a8,_,_,_,_,_,_,a1,a2,a3,a4,a5,a6,a7⟩
   have kp:∀{s8:Shared} {σ8:St} {H8:Hp},Inv Y ([(s.heap.objs.size,{cls:=.type "list",data:=.seq its.toArray nn})]++Wn fp s5.heap) σ8 H8 s8->
     tn (i+1) s8.heap/\(∀b∈fp,H8 b=none)/\H8 s.heap.objs.size=none/\s8.heap.get? s.heap.objs.size=some {cls:=.type "list",data:=.seq its.toArray nn}:=λ{s8 σ8 H8} J8=>by
    have p1:=J8.pin _ (By _ (C8 _ (Av.mpr rfl)));refine⟨T.keep _ _ _ tn5 λb hb o e=>(J8.pin (b,o) (By _ (By _ (Jb8 hb e)))).1,λb hb=>?_,p1.2.1,p1.1⟩;obtain⟨o,e,d⟩:=T.obj _ _ tn5 b hb;exact(J8.pin (b,o) (By _ (By _ (Jb8 hb e)))).2.1
   cases ok with
   |false=>
    simp only[Ar,if_false]at q7 ⊢;obtain⟨m',hm,w7⟩:=q7;obtain⟨k1,k2,k3,k4⟩:=kp J7;exact fin (J7.pins_of λp hp=>by simp at hp) k1 k2 k3 rv k4 w7 hm
   |true=>
    simp only[if_true]at q7 ⊢;have e8:=he' _ s7 σ6 H7 _ J7 q7;rw[eXe,eA,ePrg,eW,eEnv]at e8;refine B4 e8 (λy s8 ⟨v8,H8,J8,r8,m',hm,w8⟩=>?_) λ_ _ f=>f;obtain⟨k1,k2,k3,k4⟩:=kp J8;have hl8:s8.heap.PlainList s.heap.objs.size its.toArray:=⟨nn,k4⟩
    refine wpAny_list_append_plain (hsz:=by have:=rv.length;simp only[Ap];lia) hl8 λh9 hl9 hs9=>?_;obtain⟨n9,e9⟩:=hl9;have J9:Inv Y [] σ6 H8 {s8 with heap:=h9}:=by
     have J8':Inv Y [] σ6 H8 s8:=J8.pins_of λp hp=>by simp at hp
     refine J8'.turned (t':=s8.toks) (it:=s.heap.objs.size) (λb o hb e=>hs9.extBut b o hb e) k3 ?_ ?_ ?_ ?_
     ·rw[eEnv];exact hne
     ·subst hY;exact .inl Bn
     ·subst hY;exact λx a e=>oD.2.2.2.1 x a (Jbs e)
     ·subst hY;intro p hp;exact oD.2.2.2.2 p (by simpa [U3]using hp)
    refine fin (n':=n9) (its':=its++[y]) J9 (T.keep _ _ _ k1 λb hb o e=>hs9.extBut b o (As (fplt b hb)) e) k2 k3 (rv.append (.cons r8 .nil)) ?_ w8 hm;show h9.get? _=_;rw[e9,List.push_toArray]
 exact⟨rfl,codeAny_compStart_list (loop _ rfl) (T.self _ 0 _ _ _ (T.keep _ _ _ st λb hb o e=>hkp b o (hH2▸Ad _ e)) (loop _ rfl))⟩
end
def W6(k:Nat)(keep:List Nat)(wi:TI)(g:TG)(tc:TT)(te:TE):TE:=λU H Q=>wi U H λJ H1=>
 Yj J g tc te (λxs H'=>∀p,H' p=none->Q (.ref p) (upd H' p (.lst xs))) (W2 k keep U) H1
def compEnd(M:R0)(A:Bl)(E:Value->Shared->Prop)(use:Option (Value->Sem Unit))(Q:Value->Shared->Prop)(env:Env)(acc:Value)(C:Addr)(r:Lg)(s':Shared):Prop:=match r with
 |.ok f=>compPost M A E use Q acc C (.ok f) s'
 |.error x=>∃m,s'.heap.Ns C m/\∀h',Ct C s'.heap h'->wpAny M A (Od "comprehension.variables-let-go" x env:Sem Value) (λ_ _=>False) E {s' with heap:=h'}
section
variable {M:R0} {A:Bl} {E:Value->Shared->Prop} {s:Shared} {env:Env}
theorem Jhe{sc:Hw}{g:Comprehension}{use:Option (Value->Sem Unit)}{Q:Value->Shared->Prop}
  (h1:clausesOf e=g::gs)(h2:∀x,C5 g.iter env x=pure x)(h3:Ts sc env=pure cl)(h4:sc.kind=.function)(h5:∀y∈sc.names,y.2=.local->sc.names.lookup y.1=some .local)
  (h:wpAny M A fi (λx s1=>wpAny M A (pyIter x) (λit s2=>wpAny M A na (λacc s3=>wpAny M A (newFunctionEnv sc env.globals cl [] env.qual none .none (some env)) (λce s4=>ce.frame=env.frame/\
   Gm M A (.compStart e 0 it acc {ce with scope:=relabel sc env}) (compEnd M A E use Q env acc ce.locals) s4) E s3) E s2) E s1) E s):wpAny M A (comprehension e sc env pos na false fi use) Q E s:=by
 have up:∀{u:Value} {v:Shared},E u v->E u v:=λz=>z;unfold comprehension;rw[h3,h1];refine Aa (B4 h (λx s1 k1=>?_) λ_ _=>up);refine Aa (L7 (Aa (Ny (h2 x) ?_)));refine Aa (Bi (B4 k1 (λit s2 k2=>?_) λ_ _=>up));refine wpAny_standIf (Aa (B4 k2 (λacc s3 k3=>?_) λ_ _=>up));refine Aa (Ac (Aa (B4 k3 (λce s4 k4=>?_) λ_ _=>up)));obtain⟨fr,k4⟩:=k4;dsimp only;have loc:∀{l:List (Str×E3)},(∀y∈l,y∈sc.names)->∀y∈l,y.2=.local->Env.kindOf {ce with scope:=relabel sc env} y.1=some .local:=λ{l} hl y hy yl=>lookup_relabel_local (h5 y (hl y hy) yl);have mem:∀{q:Str×E3->Bool} {y},y∈(sc.names.filter q).reverse->y∈sc.names:=λz=>(Hk.mp (List.mem_reverse.mp z)).1;refine Bi (Aa (El (Bi (wpAny_run (Ft k4 λr s5 k5=>?_)))));cases r with
 |error x=>
  obtain⟨m,hn,k6⟩:=k5;refine Aa (Bi (Ni (cenv:={ce with scope:=relabel sc env}) h4 _ s5 m (loc λy=>mem) hn λh' m' _ hs'=>?_));have z:=B4 (k6 h' hs') (λ_ _ z=>z.elim) (λ_ _=>up) (Q':=Q);unfold Od at z ⊢;dsimp only;rw[fr];exact z
 |ok f=>
  cases use with
  |none=>
   obtain⟨m,hn,k6⟩:=k5;exact Aa (Bi (Ni (cenv:={ce with scope:=relabel sc env}) h4 _ s5 m (loc λy=>mem) hn λh' m' _ hs'=>Ac (k6 h' hs')))
  |some u=>
   refine Aa (Fs (Aa (Bi (B4 k5 (λ_ s6 k6=>?_) λ_ _=>up))));obtain⟨m,hn,k6⟩:=k6;refine Aa (Ni (cenv:={ce with scope:=relabel sc env}) h4 _ s6 m (loc λy hy=>?_) hn λh' m' _ hs'=>Ac (k6 h' hs'));exact(Bt.mp hy).elim (λz=>mem (List.mem_of_mem_drop z)) λz=>mem (Kl z)
end
def Yw(X:Cx)(s₃:Shared):Value->Shared->Prop:=λx s'=>∃m,s'.heap.Ns s₃.heap.objs.size m/\∀h',Ct s₃.heap.objs.size s'.heap h'->wpAny (model X.prog X.w) X.A (Od "comprehension.variables-let-go" x X.env:Sem Value) (λ_ _=>False) X.xe {s' with heap:=h'}
abbrev Yh(X:Cx)(scope:Hw)(s₃:Shared):Value->Shared->Prop:=notedBy (model X.prog X.w) X.A (compEnvC scope (clOf X.env.cells scope.names []) s₃.heap.objs.size X.env) (Yw X s₃)
section
variable {X:Cx} {N':List Str} {k:Nat} {keep:List Nat} {scope:Hw} {elt tg iter:Expr} {ifs:List Expr} {pos:Pos} {wi:TI} {g:TG} {tc:TT} {te:TE}
def Joc{te':St->TE}{xe:St->Shared->Value->Shared->Prop}(c:Vk X N' k keep scope)(calm:X.calm=true)(hi:PI X tg iter wi)
  (hg:∀s₃ H ex pins U,PG (U3 X N' scope s₃ H ex pins (xe U s₃)) tg g)(hc:∀s₃ H ex pins U,PTs (U3 X N' scope s₃ H ex pins (xe U s₃)) ifs tc)(he:∀s₃ H ex pins U,W5 X pins U H s₃ ex->PE (U3 X N' scope s₃ H ex pins (xe U s₃)) elt (te' U))
  (hE:∀U s₃ e s',xe U s₃ e s'->Yh X scope s₃ e s')
  (hs:∀x,C5 iter X.env x=pure x):PE X (.ListComp elt [⟨tg,iter,ifs,0⟩] scope pos) (λU H Q=>W6 k keep wi g tc (te' U) U H Q):=by
 intro pins s U H Q I h;rw[eval_ListComp];refine Jhe (use:=none) rfl hs (Jc2 (c.clo I.ok)) c.kind c.names ?_;refine thn (hi pins s U H _ I h) λv s1 h1=>thn h1 λitv s2 h2=>?_;obtain⟨it,fp,tn,J,H2,e,I2,T,st2,f2,hW⟩:=h2;subst e;refine Jfj c (λ_ _=>calm) I2 T.toC st2 f2 (xe:=xe U) (λs₃ ex=>hg s₃ H2 ex pins U) (λs₃ ex=>hc s₃ H2 ex pins U) (λs₃ ex b=>he s₃ H2 ex pins U b) (λs₃ D e s' z=>hE U s₃ e s' z) hW (RR:=λacc C=>compEnd (model X.prog X.w) X.A X.xe none (EP X pins U Q) X.env acc C) ?_;intro D C s' H' xs m I' oD oC hDC new hn q;refine⟨m,hn,λh' hs'=>?_⟩;have I3:Inv X pins U (upd H' D (.lst xs)) s':=I'.adopt oD.1 oD.2.1 oD.2.2.1 oD.2.2.2.1 oD.2.2.2.2 new;have I4:Inv X pins U (upd H' D (.lst xs)) {s' with heap:=h'}:=I3.turned (t':=s'.toks) (it:=C) (λb o hb e=>hs'.extBut b o hb e) (by rw[Jac hDC.symm];exact oC.1) oC.2.2.1 (.inr oC.2.1) oC.2.2.2.1 oC.2.2.2.2;exact⟨.ref D,_,I4,rfl,q D oD.1⟩
def Jn0{te':St->TE}{xe:St->Shared->Value->Shared->Prop}{spos:Pos}(hN:X.N.Nodup)(hiy:X.N[i]? =some y)(hy:Loc X.env.scope y)(hf:X.fn y=true\/X.env.scope.names.lookup y=some .local)
  (hsw:Gk (.ListComp elt [⟨tg,iter,ifs,0⟩] scope pos) (some (.Name y py)) spos.line X.env=pure true)
  (c:Vk X N' k keep scope)(calm:X.calm=true)(hi:PI X tg iter wi)
  (hg:∀s₃ H ex pins U,PG (U3 X N' scope s₃ H ex pins (xe U s₃)) tg g)(hc:∀s₃ H ex pins U,PTs (U3 X N' scope s₃ H ex pins (xe U s₃)) ifs tc)(he:∀s₃ H ex pins U,W5 X pins U H s₃ ex->PE (U3 X N' scope s₃ H ex pins (xe U s₃)) elt (te' U))
  (hE:∀U s₃ e s',xe U s₃ e s'->Yh X scope s₃ e s')
  (hs:∀x,C5 iter X.env x=pure x):PS X (.Assign [.Name y py] (.ListComp elt [⟨tg,iter,ifs,0⟩] scope pos) spos) (X1 (λU H Q=>W6 k keep wi g tc (te' U) U H Q) (Xk i)):=by
 intro pins s U H D0 I h;rw[exec_Assign_Name_used _ _ _ _ hsw];refine Aa (L7 (Aa ?_));show wpAny _ X.A (do let _<-comprehension (.ListComp elt [⟨tg,iter,ifs,0⟩] scope pos) scope X.env _ (newList []) false (eval iter X.env) (some (assign (.Name y py) X.env))) _ _ s;refine Aa (B4 (Jhe (use:=some (assign (.Name y py) X.env)) (Q:=λ_ s'=>SP X pins D0 .next s') rfl hs (Jc2 (c.clo I.ok)) c.kind c.names ?_) (λ_ s' hq=>Ac (Ac hq)) λ_ _ e=>e);refine thn (hi pins s U H _ I h) λv s1 h1=>thn h1 λitv s2 h2=>?_;obtain⟨it,fp,tn,J,H2,e,I2,T,st2,f2,hW⟩:=h2;subst e;refine Jfj c (λ_ _=>calm) I2 T.toC st2 f2 (xe:=xe U) (λs₃ ex=>hg s₃ H2 ex pins U) (λs₃ ex=>hc s₃ H2 ex pins U) (λs₃ ex b=>he s₃ H2 ex pins U b) (λs₃ D e s' z=>hE U s₃ e s' z) hW (RR:=λacc C=>compEnd (model X.prog X.w) X.A X.xe (some (assign (.Name y py) X.env)) (λ_ s'=>SP X pins D0 .next s') X.env acc C) ?_;intro D C s' H' xs m I' oD oC hDC new hn q;have I3:Inv X pins U (upd H' D (.lst xs)) s':=I'.adopt oD.1 oD.2.1 oD.2.2.1 oD.2.2.2.1 oD.2.2.2.2 new;show wpAny _ X.A (assign (.Name y py) X.env (.ref D)) _ _ _;refine Ue (Jgy I3 hN hiy hy (v:=.ref D) rfl (λs'' I5 hsb=>?_) hf);obtain⟨a,sb,ha⟩:=hsb;have hCa:C≠a:=by
  rcases ha with e|e
  ·rw[e];exact oC.2.2.1
  ·exact λz=>oC.2.2.2.1 y a e z.symm
 refine⟨m,hn.sameBut sb hCa,λh' hs'=>?_⟩;have I4:Inv X pins (U.set i (some (.ref D))) (upd H' D (.lst xs)) {s'' with heap:=h'}:=I5.turned (t':=s''.toks) (it:=C) (λb o hb e=>hs'.extBut b o hb e) (by rw[Jac hDC.symm];exact oC.1) oC.2.2.1 (.inr oC.2.1) oC.2.2.2.1 oC.2.2.2.2;exact⟨_,_,I4,q D oD.1⟩
def Jlo(c:Vk X N' k keep scope)(calm:X.calm=true)(hi:PI X tg iter wi)
  (hg:∀s₃ H ex pins,PG (U3 X N' scope s₃ H ex pins) tg g)(hc:∀s₃ H ex pins,PTs (U3 X N' scope s₃ H ex pins) ifs tc)(he:∀s₃ H ex pins,PE (U3 X N' scope s₃ H ex pins) elt te)
  (hs:∀x,C5 iter X.env x=pure x):PE X (.ListComp elt [⟨tg,iter,ifs,0⟩] scope pos) (W6 k keep wi g tc te):=
 Joc (te':=λ_=>te) (xe:=λ_ _ _ _=>False) c calm hi (λs₃ H ex pins _=>hg s₃ H ex pins) (λs₃ H ex pins _=>hc s₃ H ex pins) (λs₃ H ex pins _ _=>he s₃ H ex pins) (λ_ _ _ _ z=>z.elim) hs
def Jsa{spos:Pos}(hN:X.N.Nodup)(hiy:X.N[i]? =some y)(hy:Loc X.env.scope y)(hf:X.fn y=true\/X.env.scope.names.lookup y=some .local)
  (hsw:Gk (.ListComp elt [⟨tg,iter,ifs,0⟩] scope pos) (some (.Name y py)) spos.line X.env=pure true)(c:Vk X N' k keep scope)(calm:X.calm=true)(hi:PI X tg iter wi)
  (hg:∀s₃ H ex pins,PG (U3 X N' scope s₃ H ex pins) tg g)(hc:∀s₃ H ex pins,PTs (U3 X N' scope s₃ H ex pins) ifs tc)(he:∀s₃ H ex pins,PE (U3 X N' scope s₃ H ex pins) elt te)
  (hs:∀x,C5 iter X.env x=pure x):PS X (.Assign [.Name y py] (.ListComp elt [⟨tg,iter,ifs,0⟩] scope pos) spos) (X1 (W6 k keep wi g tc te) (Xk i)):=
 Jn0 (te':=λ_=>te) (xe:=λ_ _ _ _=>False) hN hiy hy hf hsw c calm hi (λs₃ H ex pins _=>hg s₃ H ex pins) (λs₃ H ex pins _=>hc s₃ H ex pins) (λs₃ H ex pins _ _=>he s₃ H ex pins) (λ_ _ _ _ z=>z.elim) hs
end
end L2
namespace LR
open PySem PySem.Spec PyProof.Rows PySem.F
section
variable {prog:Program} {w:World} {A:Bl} {E:Value->Shared->Prop} {s:Shared}
def Xj(hl:IsTup s.heap l items):s.TypeIs (.ref l) "tuple":=let⟨o,ho,hc,_⟩:=hl;⟨o,ho,hc⟩
end
end LR
namespace L2
open PySem PySem.Spec PyProof.Rows
end L2
namespace HT
open PySem PySem.Spec PyProof.Rows
section
variable {prog:Program} {w:World} {A:Bl} {E:Value->Shared->Prop} {s:Shared}
def Jcf{t sl:Addr}{items:Array Value}{vl vu:Value}{lo hi:Option Int}{Q:Value->Shared->Prop}(ht:IsTup s.heap t items)(hs:s.heap.IsSliceOf sl vl vu .none)(pl:Lh vl lo)(pu:Lh vu hi)
  (hw:sIx items.size 0 lo=0/\sIx items.size items.size hi=items.size)(h:Q (.ref t) s):wpAny (model prog w) A (Ko (.ref t) (.ref sl)) Q E s:=by
 obtain⟨os,hos,hcs,hds⟩:=id hs;have hTs:s.TypeIs (.ref sl) "slice":=⟨os,hos,hcs⟩
 unfold Ko
 try with_reducible refine Bi ?_
 first|refine Aa (Ac ?_)|skip
 refine Aa (Uc ht.typeIs (by decide) ?_);refine Aa (Bv (name:=Ab "__getitem__") ht.typeIs Cc
  (Bg Cc ht.typeIs Sj ?_ (T5 _ _)))
 show wpAny _ _ (G7 (.ref t)>>=_) _ _ s;refine Aa (Mc ht ?_);refine Aa (Fq hTs ?_);rw[if_pos (by decide)];refine Aa (Jbt hs pl pu ?_);show wpAny _ _ (if(((sIx items.size 0 lo:Nat):Int)==0&&(1:Int)==1&&(sIx items.size items.size hi-sIx items.size 0 lo)==items.size)=true then _ else _) _ _ s;rw[if_pos (by rw[hw.1,hw.2];simp)];refine Aa (m:=K3 (.ref t)) ?_;unfold K3;refine Aa (Fq ht.typeIs ?_);refine Ac ?_;rw[if_pos (by decide)];exact Aa (Fs (Ac ⟨_,rfl,Ac h⟩))
end
end HT
namespace L2
open PySem PySem.Spec PyProof.Rows
variable {X:Cx}
def Wac(K:Af):V->Option Int->Option Int->Hp->VK->Prop:=λx lo hi H Q=>∃a xs,x=.ref a/\SqT K H a xs/\
 (HT.sIx xs.length 0 lo=0/\HT.sIx xs.length xs.length hi=xs.length)/\Q (.ref a) H
def Jrt:SlR X (Wac X.K):=by
 intro pins s U H x v vl vu lo hi sl Q I rx hs pl pu h;obtain⟨a,xs,rfl,hx,hw,q⟩:=h;cases rx;obtain⟨its,r,ht,hz⟩:=I.tuple hx;have hlen:its.toArray.size=xs.length:=by rw[Ap];exact r.length.symm
 exact⟨"tuple",_,Cc.lookup,ht.typeIs,HT.Jcf ht hs pl pu (by rw[hlen];exact hw) ⟨.ref a,H,I,rfl,q⟩⟩
end L2
namespace L2
open PySem PySem.Spec PyProof.Rows
section
variable {κ:Type} [DecidableEq κ]
noncomputable def Vr(kvs:List (κ×V))(k:κ):Option V:=(kvs.find? λkv=>decide (kv.1=k)).map (·.2)
noncomputable def putK(kvs:List (κ×V))(k:κ)(v:V):List (κ×V):=
 if(kvs.any λkv=>decide (kv.1=k))=true then kvs.map (λkv=>if kv.1=k then(kv.1,v)else kv)else kvs++[(k,v)]
noncomputable def Wt(kvs:List (κ×V))(k:κ):List (κ×V):=kvs.filter λkv=>decide (kv.1≠k)
def Jdr{p:κ×V}(e:p.1=k):Vr (p::r) k=some p.2:=by simp[Vr,C6,e]
def Jds{p:κ×V}(e:¬p.1=k):Vr (p::r) k=Vr r k:=by simp[Vr,C6,e]
theorem Jix(k:κ):∀kvs:List (κ×V),(kvs.any λkv=>decide (kv.1=k))=(Vr kvs k).isSome
 |[]=>rfl
 |p::r=>by
  rw[Fj]
  by_cases e:p.1=k
  ·simp only[Jdr e,decide_eq_true e,Bool.true_or,Option.isSome_some]
  ·rw[Jds e,decide_eq_false e,Bool.false_or];exact Jix k r
def Jec(kvs:List (κ×V))(k:κ)(v:V):(putK kvs k v).length<=kvs.length+1:=by
 unfold putK;split
 ·rw[Ah];omega
 ·rw[Bf,A7,Et];omega
theorem RelO.isSome_eq{o:Option V}{u:Option Value}(r:RelO o u):o.isSome=u.isSome:=by
 cases o with
 |none=>cases u with
  |none=>rfl
  |some _=>exact(show False from r).elim
 |some _=>cases u with
  |none=>exact(show False from r).elim
  |some _=>rfl
theorem RelO.getD{o:Option V}{u:Option Value}(r:RelO o u)(rd:RelV d d'):RelV (o.getD d) (u.getD d'):=by
 cases o with
 |none=>cases u with
  |none=>exact rd
  |some _=>exact(show False from r).elim
 |some _=>cases u with
  |none=>exact(show False from r).elim
  |some _=>exact r
theorem KV.val(r:KV kvs vs)(k:κ):RelO (Vr kvs k) (Mv vs k):=by
 unfold KV at r
 induction r with
 |nil=>exact E1
 |@cons p q ps qs h t ih=>
  obtain⟨h1,h2⟩:=h
  by_cases e:p.1=k
  ·have e':q.1=k:=h1.symm.trans e;have b:Mv (q::qs) k=some q.2:=by simp[Mv,C6,e']
   rw[Jdr e,b];exact h2
  ·have e':¬q.1=k:=λz=>e (h1.trans z);have b:Mv (q::qs) k=Mv qs k:=by simp[Mv,C6,e']
   rw[Jds e,b];exact ih
theorem KV.any{kvs:List (κ×V)}{vs:List (κ×Value)}(r:KV kvs vs)(k:κ):(kvs.any λkv=>decide (kv.1=k))=vs.any λkv=>decide (kv.1=k):=by
 unfold KV at r
 induction r with
 |nil=>rfl
 |cons h t ih=>rw[Fj,Fj,ih,h.1]
theorem KV.repl{kvs:List (κ×V)}{vs:List (κ×Value)}(r:KV kvs vs)(k:κ)(ry:RelV y u):
  KV (kvs.map λkv=>if kv.1=k then(kv.1,y)else kv) (vs.map λkv=>if kv.1=k then(kv.1,u)else kv):=by
 unfold KV at r ⊢
 induction r with
 |nil=>exact .nil
 |@cons p q ps qs h t ih=>
  rw[Aw,Aw];refine .cons ?_ ih;obtain⟨h1,h2⟩:=h
  by_cases e:p.1=k
  ·rw[if_pos e,if_pos (h1.symm.trans e)];exact⟨h1,ry⟩
  ·rw[if_neg e,if_neg (λz=>e (h1.trans z))];exact⟨h1,h2⟩
def KV.put(r:KV kvs vs)(k:κ)(ry:RelV y u):KV (putK kvs k y) (stored vs k u):=by
 unfold putK stored;rw[r.any k]
 by_cases e:(vs.any λkv=>decide (kv.1=k))=true
 ·rw[if_pos e,if_pos e];exact r.repl k ry
 ·rw[if_neg e,if_neg e];exact Tz r ⟨rfl,ry⟩
def KV.length{kvs:List (κ×V)}{vs:List (κ×Value)}(r:KV kvs vs):kvs.length=vs.length:=Ce r
def Jpa(kvs:List (κ×V))(k:κ):(Wt kvs k).length<=kvs.length:=J1 _ _
end
theorem Jj8(r:RelV (kV k) u):(mixKind P w).is k u=true:=by
 cases k with
 |inl i=>obtain⟨t,e⟩:=(show∃t,u=Ds i t from r);subst e;exact Jig P w i t
 |inr x=>obtain⟨t,e⟩:=(show∃t,u=N1 x t from r);subst e;exact Jif P w x t
theorem Jej:∀{ks:List Key} {us:List Value},Vals (ks.map kV) us->ItemsAre (mixKind P w) ks us
 |[],_,r=>by rw[F5]at r;cases r;exact .nil
 |k::ks,_,r=>by
  rw[Aw]at r;cases r with
  |cons h t=>exact .cons (Jj8 h) (Jej t)
abbrev KT(H:Hp):List (List Key×V)->List (List Key×Addr×Value)->Prop:=Paired λp q=>p.1=q.1/\H q.2.1=some (.tup (p.1.map kV))/\RelV p.2 q.2.2
theorem KT.val(r:KT H kvs xs)(k:List Key):RelO (Vr kvs k) ((Gq xs k).map (·.2)):=by
 induction r with
 |nil=>exact E1
 |@cons p q ps qs h t ih=>
  obtain⟨h1,_,h2⟩:=h
  by_cases e:p.1=k
  ·have e':q.1=k:=h1.symm.trans e;have b:Gq (q::qs) k=some q.2:=by simp[Gq,C6,e']
   rw[Jdr e,b];exact h2
  ·have e':¬q.1=k:=λz=>e (h1.trans z);have b:Gq (q::qs) k=Gq qs k:=by simp[Gq,C6,e']
   rw[Jds e,b];exact ih
theorem KT.repl{kvs:List (List Key×V)}{xs:List (List Key×Addr×Value)}(r:KT H kvs xs)(k:List Key)(ry:RelV y u):
  KT H (kvs.map λkv=>if kv.1=k then(kv.1,y)else kv) (xs.map (putAt k u)):=by
 induction r with
 |nil=>exact .nil
 |@cons p q ps qs h t ih=>
  rw[Aw,Aw];refine .cons ?_ ih;obtain⟨h1,h2,h3⟩:=h;unfold putAt
  by_cases e:p.1=k
  ·rw[if_pos e,if_pos (h1.symm.trans e)];exact⟨h1,h2,ry⟩
  ·rw[if_neg e,if_neg (λz=>e (h1.trans z))];exact⟨h1,h2,h3⟩
def KT.put(r:KT H kvs xs)(k:List Key)(hb:H b=some (.tup (k.map kV)))(ry:RelV y u):
  KT H (putK kvs k y) (Oq xs k b u):=by
 have e:(kvs.any λkv=>decide (kv.1=k))=(Gq xs k).isSome:=by
  rw[Jix,(r.val k).isSome_eq,Ep]
 unfold putK Oq;rw[e]
 by_cases q:(Gq xs k).isSome=true
 ·rw[if_pos q,if_pos q];exact r.repl k ry
 ·rw[if_neg q,if_neg q];exact Tz r ⟨rfl,hb,ry⟩
def KT.keeps(r:KT H kvs xs)(ht:∀b ys,H b=some (.tup ys)->H' b=some (.tup ys)):KT H' kvs xs:=
 Paired.mapP r λ_ _ z=>⟨z.1,ht _ _ z.2.1,z.2.2⟩
section
variable {P:Program} {w:World} {H:Hp} {h:Heap} {a:Addr}
def Ju6(ok:HOk P w H h)(e:Rd H a u):U1 P w H h a u:=e.ok ok
def Jf8{kvs:List (Key×V)}(ok:HOk P w H h)(e:Rd H a (.dK kvs)):kvs.length<=sizeLine/\(a==sysModules)=false/\∃vs,KV kvs vs/\h.DictOf (mixKind P w) a vs:=
 show U1 P w H h a (.dK kvs)from Ju6 ok e
def Jzh{kvs:List (Key×V)}(ok:HOk P w H h)(e:H a=some (.dK kvs)):kvs.length<=sizeLine/\(a==sysModules)=false/\∃vs,KV kvs vs/\h.DictOf (mixKind P w) a vs:=Jf8 ok (.inl e)
def Jeg{ks:List Key}(ok:HOk P w H h)(e:H a=some (.tup (ks.map kV))):(tupleKind (mixKind P w)).is h ks a:=by
 obtain⟨_,its,r,o,h1,h2,n,h3⟩:=(show U1 P w H h a (.tup (ks.map kV))from ok a _ e)
 exact⟨o,its.toArray,n,h1,h2,h3,by simpa using Jej r⟩
def Jdp{kvs:List (List Key×V)}(ok:HOk P w H h)(e:Rd H a (.dT kvs)):kvs.length<=sizeLine/\(a==sysModules)=false/\
  ∃xs,KT H kvs xs/\h.DictOfH (tupleKind (mixKind P w)) a xs:=by
 obtain⟨z,y,xs,r,o,es,ep,h1,h2,h3,h4,h5⟩:=(show U1 P w H h a (.dT kvs)from Ju6 ok e)
 refine⟨z,y,xs,r,o,es,ep,h1,h2,h3,h4,λx hx=>?_,h5⟩;have all:∀{l:List (List Key×V)} {m:List (List Key×Addr×Value)},KT H l m->∀x∈m,(tupleKind (mixKind P w)).is h x.1 x.2.1:=by
  intro l m q
  induction q with
  |nil=>intro x hx;exact nomatch hx
  |@cons p q ps qs hq t ih=>
   intro x hx;rcases An.mp hx with e|hx
   ·subst e;exact Jeg ok (by rw[<-hq.1];exact hq.2.1)
   ·exact ih x hx
 exact all r x hx
def Jtk{kvs:List (List Key×V)}(ok:HOk P w H h)(e:H a=some (.dT kvs)):kvs.length<=sizeLine/\(a==sysModules)=false/\
  ∃xs,KT H kvs xs/\h.DictOfH (tupleKind (mixKind P w)) a xs:=Jdp ok (.inl e)
end
def Wx(H:Hp)(a:Addr)(y:V)(r:Option V):Prop:=
 (∃kvs k,Rd H a (.dK kvs)/\y=kV k/\r=Vr kvs k)\/∃kvs k b,Rd H a (.dT kvs)/\y=.ref b/\H b=some (.tup (k.map kV))/\r=Vr kvs k
def Xi(H:Hp)(a:Addr)(y v:V)(H':Hp):Prop:=
 (∃kvs k,H a=some (.dK kvs)/\y=kV k/\kvs.length<sizeLine/\H'=upd H a (.dK (putK kvs k v)))\/
 ∃kvs k b,H a=some (.dT kvs)/\y=.ref b/\H b=some (.tup (k.map kV))/\kvs.length<sizeLine/\H'=upd H a (.dT (putK kvs k v))
def Wx.t{k:List Key}(e:H a=some (.dT kvs))(eb:H b=some (.tup (k.map kV))):Wx H a (.ref b) (Vr kvs k):=.inr ⟨kvs,k,b,.inl e,rfl,eb,rfl⟩
def Xi.k{H:Hp}{a:Addr}{kvs:List (Key×V)}{k:Key}{v:V}(e:H a=some (.dK kvs))(hl:kvs.length<sizeLine):Xi H a (kV k) v (upd H a (.dK (putK kvs k v))):=.inl ⟨kvs,k,e,rfl,hl,rfl⟩
def Xi.t{kvs:List (List Key×V)}{k:List Key}(e:H a=some (.dT kvs))(eb:H b=some (.tup (k.map kV)))(hl:kvs.length<sizeLine):
  Xi H a (.ref b) v (upd H a (.dT (putK kvs k v))):=.inr ⟨kvs,k,b,e,rfl,eb,hl,rfl⟩
section
variable {X:Cx} {pins:List (Addr×Obj)} {U:St} {H:Hp} {s:Shared} {a:Addr} {y v:V} {u r:Value} {o:Option V} {A:Bl} {E:Value->Shared->Prop}
def Inv.big(I:Inv X pins U H s):sysModules<s.heap.objs.size:=by
 have h:Ax<s.heap.objs.size:=(I.mod.glob.keeps I.bk).lt;exact Ez (by decide) h
def Jmt{Q:Value->Shared->Prop}(hu:A.units+1<C0)(I:Inv X pins U H s)(g:Wx H a y (some v))(ry:RelV y u)(h:∀w' s',Inv X pins U H s'->RelV v w'->Q w' s'):
  wpAny (model X.prog X.w) A (Ko (.ref a) u) Q E s:=by
 rcases g with⟨kvs,k,e,ey,l⟩|⟨kvs,k,b,e,ey,eb,l⟩
 ·subst ey;obtain⟨z,hd,vs,rel,dd⟩:=Jf8 I.hok e;obtain⟨w',hw,rw'⟩:=RelO.some_of (v:=v) (o:=Mv vs k) (by rw[l];exact rel.val k);exact wpAny_getItem_of (Jj8 ry) dd.mapOf hw (h w' _ (I.tok _) rw')
 ·subst ey;cases(show u=Aq b from ry);obtain⟨z,hd,xs,rel,dd⟩:=Jdp I.hok e;obtain⟨w',hw,rw'⟩:=RelO.some_of (v:=v) (o:=(Gq xs k).map (·.2)) (by rw[l];exact rel.val k);obtain⟨p,hp,hp2⟩:=Ak.mp hw;refine Tf (Di hu) (Jeg I.hok eb) dd hp ?_;rw[hp2];exact h w' _ (I.tok _) rw'
def Wfy{Q:Value->Shared->Prop}(hu:A.units+1<C0)(I:Inv X pins U H s)(g:Wx H a y o)(ry:RelV y u)(h:∀s',Inv X pins U H s'->Q (.bool o.isSome) s'):
  wpAny (model X.prog X.w) A (Dz .In u (.ref a)) Q E s:=by
 rcases g with⟨kvs,k,e,ey,l⟩|⟨kvs,k,b,e,ey,eb,l⟩
 ·subst ey;obtain⟨z,hd,vs,rel,dd⟩:=Jf8 I.hok e;refine wpAny_in_of (Jj8 ry) hd dd.mapOf ?_;rw[<-(rel.val k).isSome_eq,<-l];exact h _ (I.tok _)
 ·subst ey;cases(show u=Aq b from ry);obtain⟨z,hd,xs,rel,dd⟩:=Jdp I.hok e;refine wpAny_in_heap (Di hu) (Jeg I.hok eb) hd dd ?_;have q:=(rel.val k).isSome_eq;rw[Ep]at q;rw[<-q,<-l];exact h _ (I.tok _)
def Jtl{Q:Value->Shared->Prop}(hu:A.units+1<C0)(I:Inv X pins U H s)(g:Wx H a y o)(ry:RelV y u)(h:∀s',Inv X pins U H s'->Q (.bool (!o.isSome)) s'):
  wpAny (model X.prog X.w) A (Dz .NotIn u (.ref a)) Q E s:=by
 rcases g with⟨kvs,k,e,ey,l⟩|⟨kvs,k,b,e,ey,eb,l⟩
 ·subst ey;obtain⟨z,hd,vs,rel,dd⟩:=Jf8 I.hok e;refine wpAny_notIn_of (Jj8 ry) hd dd.mapOf ?_;rw[<-(rel.val k).isSome_eq,<-l];exact h _ (I.tok _)
 ·subst ey;cases(show u=Aq b from ry);obtain⟨z,hd,xs,rel,dd⟩:=Jdp I.hok e;refine wpAny_notIn_heap (Di hu) (Jeg I.hok eb) hd dd ?_;have q:=(rel.val k).isSome_eq;rw[Ep]at q;rw[<-q,<-l];exact h _ (I.tok _)
def Jgc{h':Heap}(I:Inv X pins U H s)(mu:Mut (H a))(hs:Ct a s.heap h')(he:∃q,h'.get? a=some q)(new:U1 X.prog X.w (upd H a ob) h' a ob):
  Inv X pins U (upd H a ob) {s with heap:=h',toks:=t'}:=
 I.write (x:=a) (e:=a) mu (.inl rfl) (λb q hb z=>(hs.2 b hb).trans z) he new
def Jqu{h':Heap}{kvs:List (Key×V)}(z:kvs.length<=sizeLine)(hd:(a==sysModules)=false)(rel:KV kvs vs)(dd:h'.DictOf (mixKind P w) a vs):
  U1 P w H' h' a (.dK kvs):=⟨z,hd,vs,rel,dd⟩
def Jhd{Q:Unit->Shared->Prop}(hu:A.units+1<C0)(I:Inv X pins U H s)(g:Xi H a y v H')(ry:RelV y u)(rv:RelV v r)(h:∀s',Inv X pins U H' s'->Q () s'):
  wpAny (model X.prog X.w) A (Uh (.ref a) u r) Q E s:=by
 rcases g with⟨kvs,k,e,ey,l,eH⟩|⟨kvs,k,b,e,ey,eb,l,eH⟩
 ·subst ey eH;obtain⟨z,hd,vs,rel,dd⟩:=Jzh I.hok e;have hz:vs.length<=sizeLine:=by rw[<-rel.length];exact z
  have hl:(putK kvs k v).length<=sizeLine:=by have:=Jec kvs k v;omega
  refine wpAny_setItem_pairs (hsz:=hz) (Jj8 ry) dd λh' dd' hs=>h _ ?_;have he:∃q,h'.get? a=some q:=let⟨q,_,_,hq,_⟩:=dd';⟨q,hq⟩;exact Jgc I (by rw[e];exact E1) hs he (Jqu hl hd (rel.put k rv) dd')
 ·subst ey eH;cases(show u=Aq b from ry);obtain⟨z,hd,xs,rel,dd⟩:=Jtk I.hok e;have hz:xs.length<=sizeLine:=by rw[<-Ce rel];exact z
  have hl:(putK kvs k v).length<=sizeLine:=by have:=Jec kvs k v;omega
  refine Te (hsz:=hz) (Di hu) (Jeg I.hok eb) dd λh' dd' hs=>h _ ?_;obtain⟨q,es,ep,hq,h2,h3,h4,_,h5⟩:=dd';refine Jgc I (by rw[e];exact E1) hs ⟨q,hq⟩ ⟨hl,hd,_,(rel.put k eb rv).keeps λc ys ec=>?_,q,es,ep,hq,h2,h3,h4,h5⟩;rw[Jac (Je1 ec e (λz=>nomatch z))];exact ec
end
section
variable {X:Cx} {pins:List (Addr×Obj)} {U:St} {H:Hp} {s:Shared} {a:Addr} {kvs:List (Key×V)} {k:Key} {u:Value} {A:Bl} {E:Value->Shared->Prop}
def Jzj{Q:Value->Shared->Prop}(I:Inv X pins U H s)(e:Rd H a (.dK kvs))(h:∀t s',Inv X pins U H s'->Q (.int kvs.length t) s'):wpAny (model X.prog X.w) A (call (.builtin "len") [.ref a]) Q E s:=by
 obtain⟨z,hd,vs,rel,dd⟩:=Jf8 I.hok e;refine call_len_dict hd dd (by rw[<-rel.length];rw[G4]at z;omega) ?_;rw[<-rel.length];exact h _ _ (I.tok _)
end
def Jim{s:Shared}(I:Inv X pins U H s)(g:Wx H a y o):s.TypeIs (.ref a) "dict":=by
 rcases g with⟨kvs,k,e,_,_⟩|⟨kvs,k,b,e,_,_,_⟩
 ·obtain⟨_,_,vs,_,dd⟩:=Jf8 I.hok e;exact dd.typeIs
 ·obtain⟨_,_,xs,_,dd⟩:=Jdp I.hok e;exact dd.typeIs
section
variable {X:Cx} {o i e value:Expr} {pos pos' tpos:Pos} {td ty tv:TE}
end
def Jpb(h:Heap)(hb:sysModules<h.objs.size):U1 P w H (h.push {cls:=.type "dict",data:=.dict #[]}) h.objs.size (.dK []):=
 ⟨Cr _,beq_eq_false_iff_ne.mpr (Eb (As hb)),[],.nil,Heap.DictOf.new h⟩
def Jo9(h:Heap)(hb:sysModules<h.objs.size):U1 P w H (h.push {cls:=.type "dict",data:=.dict #[]}) h.objs.size (.dT []):=
 ⟨Cr _,beq_eq_false_iff_ne.mpr (Eb (As hb)),[],.nil,_,#[],0,Aj _ rfl,⟨rfl,rfl,rfl⟩,rfl,rfl,Ie⟩
def Za:TE:=λ_ H Q=>∀p,H p=none->Q (.ref p) (upd H p (.dK []))
def Y9:TE:=λ_ H Q=>∀p,H p=none->Q (.ref p) (upd H p (.dT []))
section
variable {X:Cx} {pos:Pos}
def Job:PE X (.Dict [] [] pos) Za:=λpins s U H Q I h=>
 Nj ⟨.ref s.heap.objs.size,_,I.laid (a:=s.heap.objs.size) (o:=.dK []) (t':=s.toks) (λ_ _ q=>Ad _ q) (Ai _) (Jpb s.heap I.big),rfl,h _ (I.hok.fresh (Ai _))⟩
def Jn9:PE X (.Dict [] [] pos) Y9:=λpins s U H Q I h=>
 Nj ⟨.ref s.heap.objs.size,_,I.laid (a:=s.heap.objs.size) (o:=.dT []) (t':=s.toks) (λ_ _ q=>Ad _ q) (Ai _) (Jo9 s.heap I.big),rfl,h _ (I.hok.fresh (Ai _))⟩
end
def IsD(H:Hp)(a:Addr):Prop:=(∃kvs,Rd H a (.dK kvs))\/∃kvs,Rd H a (.dT kvs)
def Jma{s:Shared}(I:Inv X pins U H s)(d:IsD H a):
  s.TypeIs (.ref a) "dict"/\(∀b,Aq a=.ref b->∃ob,s.heap.get? b=some ob/\ob.dict=none)/\(a==sysModules)=false:=by
 rcases d with⟨kvs,e⟩|⟨kvs,e⟩
 ·obtain⟨_,hd,vs,_,dd⟩:=Jf8 I.hok e;refine⟨dd.typeIs,λb q=>?_,hd⟩;cases q;obtain⟨ob,_,_,h1,h2,_⟩:=dd;exact⟨ob,h1,h2.2.1⟩
 ·obtain⟨_,hd,xs,_,dd⟩:=Jdp I.hok e;refine⟨dd.typeIs,λb q=>?_,hd⟩;cases q;obtain⟨ob,_,_,h1,h2,_⟩:=dd;exact⟨ob,h1,h2.2.1⟩
section
variable {X:Cx} {pins:List (Addr×Obj)} {U:St} {H:Hp} {s:Shared} {a:Addr} {y d:V} {u r:Value} {o:Option V} {A:Bl} {E:Value->Shared->Prop}
theorem Jxk{Q:Value->Shared->Prop}(hu:A.units+1<C0)(I:Inv X pins U H s)(g:Wx H a y o)(ry:RelV y u)(h:∀w' s',Inv X pins U H s'->RelV (o.getD .non) w'->Q w' s'):
  wpAny (model X.prog X.w) A (call (.builtin "dict.get") [.ref a,u]) Q E s:=by
 rcases g with⟨kvs,k,e,ey,l⟩|⟨kvs,k,b,e,ey,eb,l⟩
 ·subst ey;obtain⟨z,hd,vs,rel,dd⟩:=Jf8 I.hok e;refine Qu Gy dd.typeIs Nq (Nb _ _) (meets_dict_get (mixKind X.prog X.w) a (Jj8 ry) hd) ⟨_,dd.mapOf,h _ _ (I.tok _) ?_⟩;rw[l];exact(rel.val k).getD rfl
 ·subst ey;cases(show u=Aq b from ry);obtain⟨z,hd,xs,rel,dd⟩:=Jdp I.hok e;refine Qu Gy dd.typeIs Nq (Nb _ _) (meetsH_dict_get (tupleKind (mixKind X.prog X.w)) a b hd) ⟨Di hu,k,xs,Jeg I.hok eb,dd,h _ _ (I.tok _) ?_⟩;rw[l];exact(rel.val k).getD rfl
end
section
variable {X:Cx} {o e f:Expr} {apos cpos:Pos} {td ty tx:TE}
end
section
variable {X:Cx} {pins:List (Addr×Obj)} {U:St} {H:Hp} {s:Shared} {a:Addr} {kvs:List (Key×V)} {A:Bl} {E:Value->Shared->Prop}
def Jpd{Q:Value->Shared->Prop}(I:Inv X pins U H s)(e:Rd H a (.dK kvs))(h:∀p s',H p=none->Inv X pins U (upd H p (.dK kvs)) s'->Q (.ref p) s'):wpAny (model X.prog X.w) A (call (.type "dict") [.ref a]) Q E s:=by
 obtain⟨z,hd,vs,rel,dd⟩:=Jf8 I.hok e;refine kt_call_dict hd dd (by rw[<-rel.length];exact z) λh' dd' hs=>?_;refine h _ _ (I.hok.fresh (Ai _)) (I.laid (a:=s.heap.objs.size) (o:=.dK kvs) (t':=s.toks) (λb q hq=>?_) (Ai _) (Jqu z (beq_eq_false_iff_ne.mpr (Eb (As I.big))) rel dd'));exact(hs.2 b (As (Am hq))).trans (Ad _ hq)
end
section
variable {X:Cx} {pins:List (Addr×Obj)} {U:St} {H:Hp} {s:Shared} {a:Addr} {y:V} {u:Value} {A:Bl} {E:Value->Shared->Prop}
end
end L2
namespace LZ
open PySem PyProof.Rows
open AutoSeq1 (wpAny_loadPart')
section
variable {prog:Program} {w:World} {A:Bl} {E:Value->Shared->Prop} {s:Shared}
def nx{Q:Value->Shared->Prop}(h1:s.heap.IsTupleIter j u i)(h2:s.heap.IsTuple u us)(h3:us[i]? =some x)
  (k:∀h',h'.IsTupleIter j u (i+1)->Ct j s.heap h'->Q x {s with heap:=h'}):wpAny (model prog w) A (Cq (.ref j)) Q E s:=by
 obtain⟨o,eo,c,d⟩:=id h1;obtain⟨ot,et,_,n,dt⟩:=h2;unfold Cq;refine Aa (Bv (name:=Ab "__next__") h1.typeIs F9 (Bg F9 h1.typeIs N7 ?_ (Nr _)));show wpAny _ _ (Qc (.ref j) 0>>=_) _ _ s;refine Aa (B5 eo d (x:=.ref u) rfl ?_);show wpAny _ _ (if(Aq u==Cf)=true then _ else _) _ _ s;rw[if_neg (show¬((Aq u==Cf)=true)from Az)];show wpAny _ _ (Qc (.ref j) 1>>=_) _ _ s;refine Aa (B5 eo d (x:=.int i 0) rfl ?_);show wpAny _ _ (Qb (.ref u)>>=_) _ _ s;refine Aa (D6 et dt ?_);simp only[D5,h3];refine Aa (Jh eo d (by simp) (Ac ⟨x,rfl,Ac (k _ ?_ (C1 ..))⟩));exact⟨_,Cp _ eo (Pl (Ij d _)),(Rc ..).trans c,by rw[Ij d];simp[rawInt]⟩
def Jv3{Q:Value->Shared->Prop}(hh:A.handled=none)(h1:s.heap.IsTupleIter j u i)(h2:s.heap.IsTuple u us)(h3:us[i]? =none)
  (k:∀h' e,Mg j s.heap h'->(∃o,h'.get? e=some o/\o.cls=.type "StopIteration")->E (.ref e) {s with heap:=h'}):wpAny (model prog w) A (Cq (.ref j)) Q E s:=by
 obtain⟨o,eo,c,d⟩:=id h1;obtain⟨ot,et,_,n,dt⟩:=h2;unfold Cq;refine Aa (Bv (name:=Ab "__next__") h1.typeIs F9 (Bg F9 h1.typeIs N7 ?_ (Nr _)));show wpAny _ _ (Qc (.ref j) 0>>=_) _ _ s;refine Aa (B5 eo d (x:=.ref u) rfl ?_);show wpAny _ _ (if(Aq u==Cf)=true then _ else _) _ _ s;rw[if_neg (show¬((Aq u==Cf)=true)from Az)];show wpAny _ _ (Qc (.ref j) 1>>=_) _ _ s;refine Aa (B5 eo d (x:=.int i 0) rfl ?_);show wpAny _ _ (Qb (.ref u)>>=_) _ _ s;refine Aa (D6 et dt ?_);simp only[D5,h3];refine Aa (Fs (Aa (Jh eo d (by simp) ?_)));show wpAny _ _ (Qt (.type "StopIteration") []>>=_) _ _ _;refine Aa ?_;simp only[Qt,newTuple];refine Aa (Br ?_ (by size_fits));refine Aa (m:=He _ _) (Ny (a:=Cf) (by first|rfl|(simp only[He];rfl)) ?_);refine Br ?_ (by size_fits);simp only[raiseNew];refine Aa (P0 ?_);first|rw[show A.in1.handled=none from hh]|rw[hh]
 refine Aa (Ac (Rm ?_));exact k _ _ (((C1 ..).extBut.push _).push _) ⟨_,Aj _ rfl,rfl⟩
end
def Sr(b:Bool)(h:Heap)(l:Addr)(its:Array Value):Prop:=if b=true then h.IsList l its else h.IsTuple l its
def Ir(b:Bool)(h:Heap)(it l:Addr)(i:Nat):Prop:=if b=true then h.IsListIter it l i else h.IsTupleIter it l i
def Ir.obj{h:Heap}(x:Ir b h it l i):∃o fs,h.get? it=some o/\o.data=.fields fs:=by
 cases b
 ·obtain⟨o,e,_,d⟩:=(show h.IsTupleIter it l i from x);exact⟨o,_,e,d⟩
 ·obtain⟨o,e,_,d⟩:=(show h.IsListIter it l i from x);exact⟨o,_,e,d⟩
def Ir.at{h h':Heap}(x:Ir b h it l i)(k:∀o,h.get? it=some o->h'.get? it=some o):Ir b h' it l i:=by
 cases b
 ·exact(show h.IsTupleIter it l i from x).at k
 ·exact(show h.IsListIter it l i from x).at k
def Sr.lt{h:Heap}(x:Sr b h l its):l<h.objs.size:=by
 cases b
 ·obtain⟨o,e,_⟩:=(show h.IsTuple l its from x);exact Am e
 ·obtain⟨o,e,_⟩:=(show h.IsList l its from x);exact Am e
def draw{A:Bl}(b:Bool)(hh:A.handled=none)(it l:Addr)(hne:l≠it)(items:Array Value):Draws prog w A it [it,l] items.size (λi v=>items[i]? =some v) (λi h=>Ir b h it l i/\Sr b h l items):=by
 cases b
 ·exact{live:=λ_ _ st=>let⟨o,_,ho,_⟩:=st.1.obj;⟨o,ho⟩,frame:=λi h h' st hk=>⟨st.1.at λo e=>hk it (by simp) o e,(show h.IsTuple l items from st.2).at λo e=>hk l (by simp) o e⟩,item:=λi s Q E hi st hQ=>nx st.1 st.2 (x:=items[i]) (by simp[hi]) λh' hit' hs'=>hQ _ h' s.toks (by simp[hi]) ⟨hit',(show s.heap.IsTuple l items from st.2).extBut hs'.extBut hne⟩ hs',done:=λs Q E st hE=>Jv3 hh st.1 st.2 (by simp) hE}
 ·exact Draws.list hh it l hne items
def Jih(l:Addr)(items:Array Value)(n:Nat)(dct:Option Addr)(sl:Array (Option Value)):
  Meets (Builtin.«enumerate.__new__» ⟨[.type "enumerate",.ref l],[]⟩) (λ_ R s=>s.heap.get? l=some {cls:=.type "tuple",dict:=dct,data:=.seq items n,slots:=sl}/\
   R (.ok (.ret (.ref (s.heap.push {cls:=.type "tuple_iterator",data:=.fields #[.ref l,.int 0 0]}).objs.size)))
    {s with heap:=(s.heap.push {cls:=.type "tuple_iterator",data:=.fields #[.ref l,.int 0 0]}).push {cls:=.type "enumerate",data:=.fields #[.none,.bool false,.ref s.heap.objs.size,rawInt 0,.none,.none]}}):=
 .of_wp λprog w A R s h=>by
  obtain⟨hp,g,d,tk,os⟩:=s;obtain⟨hl,h⟩:=h;have hsub:=sub_enumerate;have hL:Um (Ot ⟨hp,g,d,tk,os⟩) l items:=⟨_,hl,rfl,n,rfl⟩
  wp_walk using Kw hl
  refine wpAny_stack_any λst=>Ac ?_;split
  ·rename_i c _ _ _ _ _;cases(c==D1 "enumerate")<;>(wp_walk using Kw hl,Ji hL;exact⟨_,rfl,h⟩)
  ·wp_walk using Kw hl,Ji hL
   exact⟨_,rfl,h⟩
def Jm2{E:Value->Shared->Prop}{s:Shared}{Q:Value->Shared->Prop}(hL:Sr b s.heap l items)
  (h:∀h',IsEnum h' (s.heap.objs.size+1) s.heap.objs.size 0 .none->Ir b h' s.heap.objs.size l 0->
   (∀b o,s.heap.get? b=some o->h'.get? b=some o)->Q (.ref (s.heap.objs.size+1)) {s with heap:=h'}):
  wpAny (model prog w) A (call (.type "enumerate") [.ref l]) Q E s:=by
 cases b
 ·obtain⟨⟨c,dct,dt,sl⟩,hl,hc,n,hd⟩:=(show s.heap.IsTuple l items from hL)
  replace hc:c=.type "tuple":=hc
  replace hd:dt=.seq items n:=hd
  subst hc hd;refine callType_new F.called_enumerate (by decide) (F.typeCall_enumerate_1 _) (F.newCall_enumerate_1 _) (λobj=>F.args_object_init_2 obj _) F.entry_enumerate_new (Jih l items n dct sl) ⟨hl,?_⟩;have hz:(s.heap.push {cls:=.type "tuple_iterator",data:=.fields #[.ref l,.int 0 0]}).objs.size=s.heap.objs.size+1:=Cd ..;show _/\_;have he:=Aj (s.heap.push {cls:=.type "tuple_iterator",data:=.fields #[.ref l,.int 0 0]}) (o:={cls:=.type "enumerate",data:=.fields #[.none,.bool false,.ref s.heap.objs.size,rawInt 0,.none,.none]}) rfl;rw[hz]at he ⊢;exact⟨⟨_,he,rfl⟩,h _ he ⟨_,Ad _ (Aj _ rfl),rfl,rfl⟩ λb o x=>Ad _ (Ad _ x)⟩
 ·exact call_enumerate_list hL λh' z j _ k=>h h' z j k
end LZ
namespace L2
open PySem PySem.Spec PyProof.Rows LZ
def Inv.turnedL{s:Shared}{h':Heap}{fp:List Addr}(I:Inv X pins U H s)(k:∀b o,b∉fp->s.heap.get? b=some o->h'.get? b=some o)(hf:∀b∈fp,V9 X pins H b):Inv X pins U H {s with heap:=h',toks:=t'}:=by
 have nit:∀b u,H b=some u->b∉fp:=λb u e z=>by rw[(hf b z).1]at e;cases e
 refine I.step (g':=s.gens) (d':=s.drawn) (ch:=fp) (λb hb=>?_) (λb o _ _ hc e _=>k b o hc e) (λb o _ _ hc e _=>⟨o.slots,k b o hc e⟩) (λ_ _ _ _ n=>n)
  (λb o hc e=>⟨o,k b o hc e⟩) (λ_ _ e=>e) (λ_ _ _ e=>e) (λb ps e=>⟨#[],by rw[e];simp⟩) (λm hm=>?_) (λb u e=>?_) I.bare
 ·obtain⟨f0,f1,f2,f3,f4,f5⟩:=hf b hb;exact⟨f3,f1,f4,f5⟩
 ·obtain⟨o,es,ep,ho,r⟩:=hm;exact⟨o,es,ep,k _ o (λz=>(hf _ z).2.1 rfl) ho,r⟩
 ·refine(I.hok b u e).stay (λc v hc q=>k c v ?_ q) (λ_ q=>q) λ_ _ q=>q;rcases hc with z|z
  ·rw[z];exact nit b u e
  ·exact nit c _ z
def SqB(b:Bool)(K:Af)(H:Hp)(l:Addr)(xs:List V):Prop:=if b=true then SqL K H l xs else SqT K H l xs
def SqB.sr{X:Cx}{s:Shared}(I:Inv X pins U H s)(h:SqB b X.K H l xs):∃its:List Value,Vals xs its/\Sr b s.heap l its.toArray:=by
 cases b
 ·obtain⟨its,rv,p,_⟩:=I.tuple h;exact⟨its,rv,p⟩
 ·obtain⟨its,rv,p,_⟩:=I.list h;exact⟨its,rv,p.isList⟩
def SqB.inj{X:Cx}(I:Inv X pins U H s)(h:SqB b X.K H l xs)(h':SqB b X.K H l ys):xs=ys:=by
 cases b
 ·exact I.tuple_inj h h'
 ·exact I.list_inj h h'
noncomputable def Ite(b:Bool)(K:Af)(l:Addr):It:=
 ⟨λi H=>∃xs x,SqB b K H l xs/\xs[i]? =some x,
  λi H v H'=>∃p x,H p=none/\v=.ref p/\H'=upd H p (.tup [.int i,x])/\∀xs,SqB b K H l xs->xs[i]? =some x,
  λi H=>∃xs,SqB b K H l xs/\xs.length=i⟩
def Zs(b:Bool)(e it l:Addr)(i:Nat)(h:Heap):Prop:=(∃old,IsEnum h e it i old)/\Ir b h it l i
def Jkt{P:Program}{w:World}{K:Af}{elts:List Expr}{x1:Nat}{tp:Pos}{b:Bool}(e it l:Addr)(hei:e≠it)(hl1:l≠it)(hl2:l≠e):
  Turn P w K (.Tuple elts x1 tp) (Ite b K l) [e,it] e (Zs b e it l)where
 mem:=by simp
 obj:=λi h st b hb=>by
  obtain⟨⟨old,he⟩,h1⟩:=st;obtain⟨o1,fs,e1,d1⟩:=h1.obj;simp only[An,Bc,or_false]at hb;rcases hb with rfl|rfl
  ·exact⟨_,he,λv q=>by cases q⟩
  ·exact⟨o1,e1,λv q=>by rw[d1]at q;cases q⟩
 keep:=λi h h' st k=>by
  obtain⟨⟨old,he⟩,h1⟩:=st;exact⟨⟨old,k e (by simp) _ he⟩,h1.at λo q=>k it (by simp) o q⟩
 item:=by
  intro X hP hw hK hc i pins s U H E I hf st hg;subst hP hw hK;obtain⟨xs,x,hq,hx⟩:=hg;obtain⟨⟨old,he⟩,hi⟩:=st;obtain⟨oi,_,hoi,_⟩:=hi.obj;obtain⟨its,rv,p⟩:=hq.sr I;obtain⟨u,hu,ru⟩:=rv.get hx;have hlt:i<its.toArray.size:=by simpa using(Ae.mp hu).1
  refine wpAny_pyNext_enum_itemD (draw (A:=X.A.in1) b (I.ok.hd hc) it l hl1 its.toArray) he ⟨hi,p⟩ hlt hei (by simp[hei,Eb hl2]) λu' h' tk pu z1 j1 pr sz kk=>?_;obtain rfl:u=u':=by rw[List.getElem?_toArray,hu]at pu;exact Bj pu
  refine⟨_,rfl,wpAny_letOwnedTupleGo_enum (s:={s with heap:=h',toks:=tk+1}) z1 λh2 z2 sb=>?_⟩;have hf0:H s.heap.objs.size=none:=I.hok.fresh (Ai _);have I0:Inv X pins U (upd H s.heap.objs.size (.tup [.int i,x])) {s with heap:=s.heap.push {cls:=.type "tuple",data:=.seq #[.int i tk,u]},toks:=tk+1}:=
   I.laid (t':=tk+1) (λb o e=>Ad _ e) (Ai _) ⟨by show 2<=sizeLine;decide,[.int i tk,u],.cons ⟨_,rfl⟩ (.cons ru .nil),⟨_,Aj _ rfl,rfl,_,rfl⟩⟩
  have hf':∀b∈[e,it],V9 X pins (upd H s.heap.objs.size (.tup [.int i,x])) b:=λb hb=>by
   have nb:b≠s.heap.objs.size:=λq=>by
    simp only[An,Bc,or_false]at hb;rcases hb with rfl|rfl
    ·exact absurd (Am he) (by rw[q];exact Eh _)
    ·exact absurd (Am hoi) (by rw[q];exact Eh _)
   obtain⟨f0,f1,f2,f3,f4,f5⟩:=hf b hb;exact⟨by rw[Jac nb];exact f0,f1,f2,f3,f4,f5⟩
  have I1:Inv X pins U (upd H s.heap.objs.size (.tup [.int i,x])) {s with heap:=h2,toks:=tk+1}:=by
   refine Inv.turnedL (s:={s with heap:=s.heap.push {cls:=.type "tuple",data:=.seq #[.int i tk,u]},toks:=tk+1}) (h':=h2) (t':=tk+1) (fp:=[e,it]) I0 (λb o hb q=>?_) hf'
   replace q:(s.heap.push {cls:=.type "tuple",data:=.seq #[.int i tk,u]}).get? b=some o:=q
   simp only[An,Bc,or_false,not_or]at hb;obtain⟨b1,b2⟩:=hb;rw[sb.2 b b1]
   by_cases hT:b=s.heap.objs.size
   ·subst hT;rw[Aj _ rfl]at q;cases q;exact pr
   ·rw[Qy _ _ _ hT]at q;exact kk b o b1 b2 q
  refine⟨.ref s.heap.objs.size,_,I1,rfl,⟨_,x,hf0,rfl,rfl,λzs hz'=>by rw[hz'.inj I hq];exact hx⟩,⟨⟨u,by simpa using z2⟩,?_⟩,λb hb=>(hf' b hb).1⟩;exact j1.1.at λo q=>(sb.2 it (Eb hei)).trans q
 done:=by
  intro X hP hw hK hc i pins s U H E I hf st hg;subst hP hw hK;obtain⟨xs,hq,rfl⟩:=hg;obtain⟨⟨old,he⟩,hi⟩:=st;obtain⟨its,rv,p⟩:=hq.sr I;have e1:xs.length=its.toArray.size:=by rw[rv.length];simp
  rw[e1]at hi;refine wpAny_pyNext_enum_endD (draw (A:=X.A.in1) b (I.ok.hd hc) it l hl1 its.toArray) he ⟨hi,p⟩ λh' kk=>⟨rfl,I.turnedL (t':=s.toks) (fp:=[e,it]) (λb o hb q=>?_) hf⟩
  simp only[An,Bc,or_false,not_or]at hb;exact kk b o hb.2 q
 self:=λ_ _ _ _ _ st h=>by
  obtain⟨⟨old,he⟩,_⟩:=st;exact Ud he h
def Wd7(K:Af)(ta:TA):TI:=λU H R=>ta U H λvs H1=>∃l b,vs=[.ref l]/\(∃xs,SqB b K H1 l xs)/\R (Ite b K l) H1
theorem Jm5:Df "enumerate"=some (.type "enumerate"):=by rfl
def Jsi{X:Cx}{a:Expr}{ta:TA}{p pos:Pos}{elts:List Expr}{x1:Nat}{tp:Pos}(hg:Gl X "enumerate")(hm:X.mg "enumerate"=none)(ha:PA X [a] ta)(hs:Bm [a] X.env=[(false,eval a X.env)]):
  PI X (.Tuple elts x1 tp) (.Call (.Name "enumerate" p) [a] [] pos) (Wd7 X.K ta):=by
 intro pins s U H R I h;refine R6 (Jcc I hg hm Jm5 (C4 (thn (ha pos pins s U H _ I h) λus s1 ⟨vs,H1,I1,r1,q1⟩=>?_) (by rw[hs];rfl) rfl));obtain⟨l,b,e,⟨xs,hq⟩,q⟩:=q1;subst e;obtain⟨u,rfl,rx⟩:=vals1 r1;cases rx;obtain⟨its,rv,p1⟩:=hq.sr I1;refine Jm2 p1 λh' z1 j1 kk=>?_;refine Ud (s:={s1 with heap:=h'}) z1 ?_;have hl:=p1.lt;refine⟨s1.heap.objs.size+1,_,_,_,H1,rfl,I1.kept (t':=s1.toks) kk,Jkt _ _ l (Cj (Dg _)) (As hl) (As (Je hl)),⟨⟨_,z1⟩,j1⟩,λb hb=>?_,q⟩;have hb':s1.heap.objs.size<=b:=by
  simp only[An,Bc,or_false]at hb;rcases hb with rfl|rfl
  ·exact Ks _
  ·exact Ai _
 exact I1.fpOk hb' (I1.hok.fresh hb')
section
variable {X:Cx}
def Waf(K:Af):R2:=λx y H Q=>∃l b xs zs,x=.ref l/\y=.ref b/\SqL K H l xs/\SqL K H b zs/\xs.length+zs.length<=sizeLine/\∀p,H p=none->Q (.ref p) (upd H p (.lst (xs++zs)))
def Jsw:OpR X (F0 .Add) (Waf X.K):=by
 intro pins s U H x y v u Q I rx ry h;obtain⟨l,b,xs,zs,rfl,rfl,hH,hB,hz,q⟩:=h;cases rx;cases ry;obtain⟨its,r,p1,_⟩:=I.list hH;obtain⟨its2,r2,p2,_⟩:=I.list hB;have hl:=r.length;have hl2:=r2.length;obtain⟨⟨cls,dd,data,sl⟩,ho,hc,n,hd⟩:=id p1.isList;obtain⟨⟨cls2,dd2,data2,sl2⟩,ho2,hc2,n2,hd2⟩:=id p2.isList;simp only at hc hd hc2 hd2;subst hc hd hc2 hd2;have e:its.toArray++its2.toArray=(its++its2).toArray:=by simp
 refine Le ⟨_,ho,rfl⟩ ⟨_,ho2,rfl⟩ noFill_list_add seq_list_add PySem.F.slot_list_add PySem.F.entry_list_add (PySem.F.args_list_add_2 _ _) (list_addW l b its.toArray its2.toArray n n2 dd dd2 sl sl2 (by simp;lia)) ⟨ho,ho2,?_⟩;rw[e];exact⟨.ref _,_,I.lnew (t':=s.toks) (r.append r2) (by rw[Bf];lia),rfl,q _ I.fresh⟩
end
open PySem PySem.Spec PyProof.Rows
section
variable {X:Cx}
theorem Jy3(r:KV kvs vs):∀(i:Nat) (k:Key) (x:Value),vs[i]? =some (k,x)->∃v,kvs[i]? =some (k,v):=by
 unfold KV at r
 induction r with
 |nil=>intro i k x h;simp at h
 |@cons p q ps qs hpq _ ih=>
  intro i k x h;cases i with
  |zero=>
   have h':q=(k,x):=by simpa using h
   subst h';refine⟨p.2,?_⟩;show some p=_;have:p.1=k:=hpq.1;rw[<-this]
  |succ i=>exact ih i k x (by simpa using h)
theorem Jwj{kvs:List (Key×V)}{vs:List (Key×Value)}(r:KV kvs vs):kvs.length=vs.length:=by
 unfold KV at r
 induction r with
 |nil=>rfl
 |cons _ _ ih=>rw[A7,A7,ih]
theorem Jkq:∀{xs:List V} {us:List Value},xs.length=us.length->(∀(i:Nat) (u:Value),us[i]? =some u->∃x,xs[i]? =some x/\RelV x u)->Vals xs us
 |[],[],_,_=>.nil
 |[],u::us,h,_=>by simp at h
 |x::xs,[],h,_=>by simp at h
 |x::xs,u::us,h,g=>by
  obtain⟨y,e,r⟩:=g 0 u rfl;have e':x=y:=by simpa using e
  subst e';exact .cons r (Jkq (by simpa using h) λi w q=>by simpa using g (i+1) w (by simpa using q))
def Jgf(hc:X.calm=true):Vc X (.type "list") (λxs H Q=>∃p kvs,xs=[.ref p]/\H p=some (.dK kvs)/\∀l,H l=none->Q (.ref l) (upd H l (.lst (kvs.map λkv=>kV kv.1)))):=by
 intro pins s U H xs us Q I r h;obtain⟨p,kvs,rfl,hp,q⟩:=h;obtain⟨u,rfl,rx⟩:=vals1 r;cases rx;obtain⟨hz,hS,vs,rel,o,es,ep,m⟩:=(show U1 X.prog X.w H s.heap p (.dK kvs)from I.hok p _ hp)
 have hl:=Jwj rel;refine PySem.W.kdl_call (PySem.W.kdl_dict (knd:=mixKind X.prog X.w) (kvs:=vs) (ep:=ep) hS) (I.ok.hd hc) ⟨o,es,m⟩ (by rw[<-hl];exact hz) λh' tk acc' c' kp e it=>?_;have rv:Vals (kvs.map λkv=>kV kv.1) acc'.toList:=by
  refine Jkq (by rw[Ah,hl];exact it.1.symm) λi u hu=>?_;obtain⟨k,x,ek,hk⟩:=it.2 i u (by rw[<-Dq];exact hu);obtain⟨v,ev⟩:=Jy3 rel i k x ek;refine⟨kV k,by rw[Ao,ev];rfl,?_⟩;rcases Jar hk with⟨j,t,rfl,rfl⟩|⟨y,t,rfl,rfl⟩
  ·exact⟨_,rfl⟩
  ·exact⟨_,rfl⟩
 refine⟨.ref s.heap.objs.size,_,I.laid (t':=tk) kp (Ai _) (show U1 X.prog X.w _ h' _ (.lst (kvs.map λkv=>kV kv.1))from⟨by rw[Ah];exact hz,acc'.toList,c',rv,by simpa using e⟩),rfl,q _ (I.hok.fresh (Ai _))⟩
end
end L2
namespace LR
open PySem PySem.Spec PyProof.Rows PySem.F
section
variable {prog:Program} {w:World} {A:Bl} {E:Value->Shared->Prop} {s:Shared}
noncomputable def ltZ(a b c d:Int):Bool:=decide (a<c)||(decide (a=c)&&decide (b<d))
def int_lt{Q:Value->Shared->Prop}(h:Q (.bool (decide (a<b))) s):wpAny (model prog w) A (Rt .Lt (.int a t) (.int b u)) Q E s:=
 richCompare_gives (op:=.Lt) (Tn s _ t) (Tn s _ u) F.slot_int_lt F.entry_int_lt (F.args_int_lt_2 _ _) (gives_int_lt _ _ t u) (λx=>nomatch x) h
def Jss{Q:Value->Shared->Prop}(hp:IsTup s.heap p #[.int a t,.int b u])(hq:IsTup s.heap q #[.int c v,.int d x])(hu:A.units<C0)
  (h:Q (.bool (ltZ a b c d)) s):wpAny (model prog w) A (Rt .Lt (.ref p) (.ref q)) Q E s:=by
 refine Iw (op:=.Lt) (Xj hp) (Xj hq) Uq (Bg Uq (Xj hp) F.entry_tuple_lt ?_ (F.args_tuple_lt_2 _ _)) hu;show wpAny _ _ (O5 (.ref q) (.type "tuple")>>=_) _ _ s;refine Aa (Dy (Xj hq) Hj ?_);rw[if_neg (show¬((!true)=true)from Az)];refine Aa (Mc hp ?_);refine Aa (Mc hq ?_);refine Aa ?_;show wpAny _ _ (forIn [((Ds a t:Value),(Ds c v:Value)),(.int b u,.int d x)] _ _) _ _ s;rw[Hl];refine Aa (Aa (Hn ?_))
 by_cases e1:a=c
 ·subst e1;rw[show(a==a)=true from beq_self_eq_true a,if_neg (show¬((!true)=true)from Az)];refine Ac ?_;show wpAny _ _ (forIn [((Ds b u:Value),(Ds d x:Value))] _ _) _ _ s;rw[Hl];refine Aa (Aa (Hn ?_))
  by_cases e2:b=d
  ·subst e2;rw[show(b==b)=true from beq_self_eq_true b,if_neg (show¬((!true)=true)from Az)];refine Ac ?_;refine Ac ?_;have h':Q (.bool false) s:=by simpa [ltZ]using h
   exact Ac ⟨_,rfl,(λz=>nomatch z),h'⟩
  ·rw[show(b==d)=false from beq_eq_false_iff_ne.mpr e2,if_pos (show(!false)=true from rfl)];have h':Q (.bool (decide (b<d))) s:=by simpa [ltZ]using h
   refine Aa (Fs ?_);refine Aa (int_lt ?_);exact Aa (Ac (Ac (Ac (Ac ⟨_,rfl,(λz=>nomatch z),h'⟩))))
 ·rw[show(a==c)=false from beq_eq_false_iff_ne.mpr e1,if_pos (show(!false)=true from rfl)];have h':Q (.bool (decide (a<c))) s:=by simpa [ltZ,e1]using h
  refine Aa (Fs ?_);refine Aa (int_lt ?_);exact Aa (Ac (Ac (Ac (Ac ⟨_,rfl,(λz=>nomatch z),h'⟩))))
end
end LR
namespace L2
open PySem PySem.Spec PyProof.Rows
end L2
namespace Sre
open PySem PyProof.Rows
section
variable {κ:Pf} {M:R0} {A:Bl} {E:Value->Shared->Prop} {s:Shared} {st:T6} {a:Array Keyed}
def Y0(M:R0)(A:Bl)(s:Shared)(κ:Pf)(a:Array Keyed):Prop:=
 ∀(i:Nat) (x y:Keyed),a[i+1]? =some x->a[i]? =some y->∀Q:Bool->Shared->Prop,Q false s->wpAny M A (keyLt' κ x.1 y.1) Q (λ_ _=>False) s
def Jy1{x y:Keyed}{Q:Option Bool->T6->Prop}(hA:∀Q:Bool->Shared->Prop,Q false s->wpAny M A (keyLt' κ x.1 y.1) Q (λ_ _=>False) s)(hk:kindOf st=κ)(h:Q (some false) st):wpS M A E s (lt' x y) Q st:=by
 rw[lt'_eq];refine F1 (Q0 ?_);rw[hk];refine F1 (wpS_lift (El (B4 (hA (λb s'=>s'=s/\b=false) ⟨rfl,rfl⟩) (λb s' hb=>?_) λ_ _ e=>e.elim)));obtain⟨rfl,rfl⟩:=hb;exact⟨rfl,Jm h⟩
def Js0{Q:Option Bool->T6->Prop}(hA:Y0 M A s κ a)(hk:kindOf st=κ)(ha:Us st=a)(hi:i+1<a.size)(h:Q (some false) st):wpS M A E s (ltAt' (i+1) i) Q st:=by
 rw[ltAt'_eq];refine F1 (Q0 ?_);rw[ha];have h1:a[i+1]? =some a[i+1]:=Bo hi;have h2:a[i]? =some a[i]:=Bo (by omega);dsimp only;rw[elem'_eq,elem'_eq,h1,h2];exact F1 (Jm (F1 (Jm (Jy1 (hA i _ _ h1 h2) hk h))))
def Jrw{Q:Option Nat->T6->Prop}(hA:Y0 M A s κ a)(hk:kindOf st=κ)(ha:Us st=a)(h2:2<=a.size)(h:Q (some a.size) st):wpS M A E s (countRun' 0 a.size) Q st:=by
 rw[countRun'_eq];refine F1 (wpS_mono (Q1 (I:=λx c st'=>st'=st/\c=(none,x)/\x<=a.size) (Q:=λc st'=>st'=st/\c=(none,a.size)) ?step ?fin ⟨rfl,rfl,by lia⟩) ?post)
 case fin=>
  rintro c st' ⟨rfl,rfl,b⟩;exact⟨rfl,by rw[show max 1 a.size=a.size by lia]⟩
 case step=>
  rintro x c st' b1 b2 ⟨rfl,rfl,b3⟩;obtain⟨y,rfl⟩:∃y,x=y+1:=⟨x-1,by lia⟩
  dsimp only;rw[show 0+(y+1)=y+1 by lia,show y+1-1=y by lia];refine F1 (Js0 hA hk ha (by lia) ?_);simp only[Ar,if_false];exact Jm ⟨rfl,rfl,by lia⟩
 case post=>
  rintro c st' ⟨rfl,rfl⟩;dsimp only;rw[if_pos (by simp)];exact Jm h
theorem Jg6:∀(f n r:Nat),r<=1->minRun' f n r<=n+r
 |0,n,r,_=>Ai _
 |f+1,n,r,hr=>by
  rw[minRun'_succ];split
  ·exact Ai _
  ·have:=Jg6 f (n/2) (max r (n%2)) (by lia)
   lia
def Jjv{Q:Unit->T6->Prop}(hA:Y0 M A s κ a)(hk:kindOf st=κ)(ha:Us st=a)(hf:failedOf st=none)(he:pendingOf st= #[])(h2:2<=a.size)
  (h:∀st',Us st'=a->failedOf st'=none->Q () st'):wpS M A E s sortRuns' Q st:=by
 have hm:minRun' a.size a.size 0<=a.size:=Jg6 a.size a.size 0 (Cr _);rw[sortRuns'_eq];refine F1 (Q0 ?_);dsimp only;rw[ha];refine F1 (wpS_mono (Q1 (I:=λx c st'=>(x=0/\c=(none,0)/\st'=st)\/(c=(none,a.size)/\st'=Pe st #[(0,a.size,0)])) (Q:=λc st'=>c=(none,a.size)/\st'=Pe st #[(0,a.size,0)]) ?step ?fin (.inl ⟨rfl,rfl,rfl⟩)) ?post)
 case fin=>
  rintro c st' (⟨q,_⟩|q)
  ·lia
  ·exact q
 case step=>
  rintro x c st' b1 b2 (⟨rfl,rfl,rfl⟩|⟨rfl,rfl⟩)
  ·dsimp only;rw[if_neg (by lia),H9];refine F1 (Jrw hA hk ha h2 ?_);dsimp only;rw[if_neg (by lia)];refine F1 (Q0 ?_);rw[he];refine F1 (wpS_modify (Jm (.inr ⟨by simp,?_⟩)));rw[he];rfl
  ·dsimp only;rw[if_pos (Ai _)];exact Jm ⟨rfl,rfl⟩
 case post=>
  rintro c st' ⟨rfl,rfl⟩;dsimp only;refine F1 (wpS_mono (Q1 (I:=λx c st'=>c=(none,())/\st'=Pe st #[(0,a.size,0)]) (Q:=λc st'=>c=(none,())/\st'=Pe st #[(0,a.size,0)]) ?step1 (λ_ _ q=>q) ⟨rfl,rfl⟩) ?post1)
  case step1=>
   rintro x c st' _ _ ⟨rfl,rfl⟩;refine F1 (Q0 ?_);rw[if_pos (by show(1:Nat)<=1;lia)];exact Jm ⟨rfl,rfl⟩
  case post1=>
   rintro c st' ⟨rfl,rfl⟩;exact Jm (h _ ha hf)
end
end Sre
namespace Sbl
open PySem
def Ris(P:List Nat):Prop:=P.Pairwise (·<·)
def Jg0{xs:Array Nat}(h:Ris xs.toList)(hik:i<k)(hk:k<xs.size):xs[i]<xs[k]:=by
 have:=Ga.mp h i k (by simp;omega) (by simpa using hk) hik
 simpa using this
theorem Jgg{xs:Array Nat}(h:Ris xs.toList):∀(f lo hi:Nat),hi-lo<=f->lo<=hi->hi<=xs.size->(∀i (hx:i<xs.size),i<lo->xs[i]<j)->(∀i (hx:i<xs.size),hi<=i->j<=xs[i])->
  (∀i (hx:i<xs.size),i<Hf xs j f lo hi->xs[i]<j)/\(∀i (hx:i<xs.size),Hf xs j f lo hi<=i->j<=xs[i])/\Hf xs j f lo hi<=xs.size
 |0,lo,hi,a,b,c,d,e=>by
  have:lo=hi:=by omega
  subst this;exact⟨d,e,c⟩
 |f+1,lo,hi,a,b,c,d,e=>by
  unfold Hf
  by_cases g:lo<hi
  ·rw[if_pos g];have hm:(lo+hi)/2<xs.size:=by omega
   have e1:xs.getD ((lo+hi)/2) j=xs[(lo+hi)/2]:=by simp[Array.getD,hm]
   dsimp only;rw[e1]
   by_cases g2:xs[(lo+hi)/2]<j
   ·rw[if_pos g2];refine Jgg h f ((lo+hi)/2+1) hi (by omega) (by omega) c (λi hi' hl=>?_) e;rcases Ia i ((lo+hi)/2)with q|q
    ·exact Ez (Jg0 h q hm) g2
    ·have:i=(lo+hi)/2:=by omega
     subst this;exact g2
   ·rw[if_neg g2];refine Jgg h f lo ((lo+hi)/2) (by omega) (by omega) (by omega) d (λi hx hl=>?_);rcases Ia ((lo+hi)/2) i with q|q
    ·exact Bw (Q5.mp g2) (Eg (Jg0 h q hx))
    ·have:i=(lo+hi)/2:=by omega
     subst this;exact Q5.mp g2
  ·rw[if_neg g];have:lo=hi:=by omega
   subst this;exact⟨d,e,c⟩
def Jfl{xs:Array Nat}(j:Nat)(h:Ris xs.toList):
  (∀i (hi:i<xs.size),i<Cu xs j->xs[i]<j)/\(∀i (hx:i<xs.size),Cu xs j<=i->j<=xs[i])/\Cu xs j<=xs.size:=
 Jgg h _ _ _ (by lia) (Cr _) (Ai _) (λi _ hi=>absurd hi (Nat.not_lt_zero _)) (λi hx hi=>by lia)
theorem slot_of{t:SetTable}(h:Ris t.place.toList)(hd:t.dummies= #[])(j:Nat):
  (j∉t.place.toList/\t.slot j=.empty)\/∃i,∃hi:i<t.place.size,t.place[i]=j/\t.slot j=.live i:=by
 obtain⟨a,b,c⟩:=Jfl j h;unfold SetTable.slot;dsimp only
 by_cases hm:t.place[Cu t.place j]? =some j
 ·have hb:(t.place[Cu t.place j]? ==some j)=true:=by rw[hm];exact beq_self_eq_true _
  rw[if_pos hb];obtain⟨h1,h2⟩:=Array.getElem?_eq_some_iff.mp hm;exact .inr ⟨_,h1,h2,rfl⟩
 ·refine .inl ⟨λhj=>hm ?_,?_⟩
  ·obtain⟨i,hi,e⟩:=C2.mp hj;have hi':i<t.place.size:=by simpa using hi
   have e':t.place[i]=j:=by simpa using e
   have h1:Cu t.place j<=i:=by
    rcases Ia i (Cu t.place j)with q|q
    ·have:=a i hi' q;lia
    ·exact q
   have h2:i<=Cu t.place j:=by
    rcases Ia (Cu t.place j) i with q|q
    ·have h3:=b (Cu t.place j) (by lia) (Ai _);have h4:=Jg0 h q hi'
     lia
    ·exact q
   have:Cu t.place j=i:=by lia
   rw[this,Bo hi',e']
  ·have hb:¬(t.place[Cu t.place j]? ==some j)=true:=λq=>hm (eq_of_beq q);rw[if_neg hb,hd];have:Jb #[] j=false:=by unfold Jb;simp
   rw[this];rfl
noncomputable def lcg(m i:Nat):Nat->Nat
 |0=>i
 |k+1=>lcg m ((i*5+1)%(m+1)) k
def We9:∀i,i<8->∀j,j<8->∃k,k<8/\lcg 7 i k=j:=by decide+kernel
def Hit(t:SetTable)(occ:Nat->Prop):Nat->Du->Nat->Prop
 |0,p,j=>p.j=j
 |n+1,p,j=>occ p.j/\Hit t occ n (t.advance p) j
theorem Hit.mono{t t':SetTable}(hm:t'.mask=t.mask){occ occ':Nat->Prop}(h:∀j,occ j->occ' j):∀{n:Nat} {p:Du} {j:Nat},Hit t occ n p j->Hit t' occ' n p j
 |0,p,j,q=>q
 |n+1,p,j,⟨a,b⟩=>⟨h _ a,by
   have e:t'.advance p=t.advance p:=by unfold Gx;rw[hm]
   rw[e];exact Hit.mono hm h b⟩
noncomputable def Lp(m i pt:Nat):Du:={j:=i,more:=Bq m i-i,i,perturb:=pt,dummy:=none}
noncomputable def Rn(m i pt k:Nat):Du:={j:=i+k,more:=Bq m i-i-k,i,perturb:=pt,dummy:=none}
def Jq0{t:SetTable}(h:k<Bq t.mask i-i):t.advance (Rn t.mask i pt k)=Rn t.mask i pt (k+1):=by
 unfold Gx Rn;rw[if_pos (by show Bq t.mask i-i-k>0;lia)];simp only[Rz,and_true,true_and]
 lia
theorem Jt5{t:SetTable}(h:Bq t.mask i-i<=k):t.advance (Rn t.mask i pt k)=Lp t.mask ((i*5+1+pt/32)%(t.mask+1)) (pt/32):=by
 unfold Gx Rn;rw[if_neg (by show¬Bq t.mask i-i-k>0;omega)];rfl
def Jp2(m i:Nat):Bq m i-i<=9:=by unfold Bq;split<;>lia
theorem Jmh{t:SetTable}{occ:Nat->Prop}:∀(d k:Nat),k+d=Bq t.mask i-i->(∀x,k<=x->x<=Bq t.mask i-i->occ (i+x))->
  Hit t occ n (Lp t.mask ((i*5+1+pt/32)%(t.mask+1)) (pt/32)) j->Hit t occ (n+d+1) (Rn t.mask i pt k) j
 |0,k,e,ho,h=>⟨ho k (Ai _) (by lia),by rw[Jt5 (by lia)];exact h⟩
 |d+1,k,e,ho,h=>⟨ho k (Ai _) (by lia),by
   rw[Jq0 (by lia)];exact Jmh d (k+1) (by lia) (λx a b=>ho x (by lia) b) h⟩
theorem Jqn{t:SetTable}{occ:Nat->Prop}:∀(d k:Nat),k+d<=Bq t.mask i-i->(∀x,k<=x->x<k+d->occ (i+x))->Hit t occ d (Rn t.mask i pt k) (i+(k+d))
 |0,k,_,_=>rfl
 |d+1,k,e,ho=>⟨ho k (Ai _) (by lia),by
   rw[Jq0 (by lia),show k+(d+1)=k+1+d by lia];exact Jqn d (k+1) (by lia) λx a b=>ho x (by lia) (by lia)⟩
theorem least{P:Nat->Prop}:∀x,P x->∃y,y<=x/\P y/\∀z,z<y->¬P z:=λx=>by
 induction x using Sv with
 |ind x ih=>
  intro h
  by_cases q:∃z,z<x/\P z
  ·obtain⟨z,hz,pz⟩:=q;obtain⟨y,a,b,c⟩:=ih z hz pz;exact⟨y,by lia,b,c⟩
  ·exact⟨x,Ai _,h,λz hz pz=>q ⟨z,hz,pz⟩⟩
def Jqm{t:SetTable}{occ:Nat->Prop}(hj:¬occ j)(h:Hit t occ n (Lp t.mask ((i*5+1+pt/32)%(t.mask+1)) (pt/32)) j):∃n' j',n'<=n+10/\¬occ j'/\Hit t occ n' (Lp t.mask i pt) j':=by
 by_cases hr:∃x,x<=Bq t.mask i-i/\¬occ (i+x)
 ·obtain⟨x,hx,hno,hmin⟩:∃x,x<=Bq t.mask i-i/\¬occ (i+x)/\∀y,y<x->occ (i+y):=by
   obtain⟨x,h1,h2⟩:=hr;obtain⟨y,a,b,c⟩:=least (P:=λx=>¬occ (i+x)) x h2;exact⟨y,Bw a h1,b,λz hz=>Kt.mp (c z hz)⟩
  have:=Jp2 t.mask i;have q:=Jqn (t:=t) (occ:=occ) (i:=i) (pt:=pt) x 0 (by lia) λy _ hy=>hmin y (by lia);rw[Fg]at q;exact⟨x,i+x,by lia,hno,q⟩
 ·have ho:∀x,x<=Bq t.mask i-i->occ (i+x):=λx hx=>Kt.mp λq=>hr ⟨x,hx,q⟩;have:=Jp2 t.mask i;exact⟨_,j,by lia,hj,Jmh (Bq t.mask i-i) 0 (by lia) (λx _ hx=>ho x hx) h⟩
theorem Wd9{t:SetTable}{occ:Nat->Prop}(hj:¬occ j):∀(k i:Nat),lcg t.mask i k=j->∃n j',n<=10*k/\¬occ j'/\Hit t occ n (Lp t.mask i 0) j'
 |0,i,e=>⟨0,j,by lia,hj,e⟩
 |k+1,i,e=>by
  obtain⟨n,j',a,b,c⟩:=Wd9 hj k ((i*5+1)%(t.mask+1)) e;obtain⟨n',j'',a',b',c'⟩:=Jqm (i:=i) (pt:=0) b c;exact⟨n',j'',by lia,b',c'⟩
theorem Wd8{t:SetTable}{occ:Nat->Prop}(h0:∀i,i<=t.mask->∃n j',n<=B/\¬occ j'/\Hit t occ n (Lp t.mask i 0) j'):∀(k pt i:Nat),i<=t.mask->pt<32^k->∃n j',n<=B+10*k/\¬occ j'/\Hit t occ n (Lp t.mask i pt) j'
 |0,pt,i,hi,hp=>by
  have:pt=0:=by lia
  subst this;exact h0 i hi
 |k+1,pt,i,hi,hp=>by
  obtain⟨n,j',a,b,c⟩:=Wd8 h0 k (pt/32) ((i*5+1+pt/32)%(t.mask+1)) (Jf (Nu _ (L5 _))) (by rw[Nat.pow_succ]at hp;lia);obtain⟨n',j'',a',b',c'⟩:=Jqm (i:=i) (pt:=pt) b c;exact⟨n',j'',by lia,b',c'⟩
def Jo3{t:SetTable}{occ:Nat->Prop}(hm:t.mask=7)(hj:j<=t.mask)(hno:¬occ j)(h:Int):∃n j',n<10*Dh t.mask/\¬occ j'/\Hit t occ n (t.probeStart h) j':=by
 have hb:E8 h<32^13:=by
  unfold E8;have h1:h%(2^64:Int)<2^64:=Q8 _ (by decide);have h2:0<=h%(2^64:Int):=Ta _ (by decide);have h3:((h%(2^64:Int)).toNat:Int)<2^64:=by rw[K8 h2];exact h1
  have h4:(h%(2^64:Int)).toNat<2^64:=by exact_mod_cast h3
  exact Bh h4 (by decide)
 have h0:∀i,i<=t.mask->∃n j',n<=10*t.mask/\¬occ j'/\Hit t occ n (Lp t.mask i 0) j':=λi hi=>by
  have:∃k,k<t.mask+1/\lcg t.mask i k=j:=by
   rw[hm]at hi hj ⊢;exact We9 i (by lia) j (by lia)
  obtain⟨k,hk,e⟩:=this;obtain⟨n,j',a,b,c⟩:=Wd9 (t:=t) hno k i e;exact⟨n,j',by lia,b,c⟩
 obtain⟨n,j',a,b,c⟩:=Wd8 h0 13 (E8 h) (E8 h%(t.mask+1)) (Jf (Nu _ (L5 _))) hb;exact⟨n,j',by unfold Dh;lia,b,c⟩
theorem Hit.dummy{t:SetTable}{occ:Nat->Prop}(p:Du):(t.advance p).dummy=p.dummy:=by unfold Gx;split<;>rfl
theorem Jjh{t:SetTable}(hr:Ris t.place.toList)(hd:t.dummies= #[]){hashAt:Nat->Int}:∀(n f:Nat) (p:Du) (j:Nat),n<f->p.dummy=none->Hit t (·∈t.place.toList) n p j->
  (∃m p',m<=n/\Hit t (·∈t.place.toList) (n-m) p' j/\p'.dummy=none/\((m=n/\p'.j=j/\j∉t.place.toList/\Ju t hashAt h f p=some (.empty j none))\/
   ∃i,∃hi:i<t.place.size,t.place[i]=p'.j/\t.slot p'.j=.live i/\hashAt i=h/\Ju t hashAt h f p=some (.candidate p'.j i (t.advance p'))))\/
  (j∈t.place.toList/\∃i,∃hi:i<t.place.size,t.place[i]=j/\hashAt i≠h)
 |n,0,p,j,hf,_,_=>by lia
 |n,f+1,p,j,hf,hdm,hh=>by
  rw[Ju];rcases slot_of hr hd p.j with⟨hno,hs⟩|⟨i,hi,hpi,hs⟩
  ·cases n with
   |zero=>
    have e:p.j=j:=hh;refine .inl ⟨0,p,Ai _,hh,hdm,.inl ⟨rfl,e,e▸hno,?_⟩⟩;rw[hs,hdm,e]
   |succ n=>exact absurd hh.1 hno
  ·rw[hs];dsimp only
   by_cases hq:hashAt i=h
   ·refine .inl ⟨0,p,Cr _,by simpa using hh,hdm,.inr ⟨i,hi,hpi,hs,hq,?_⟩⟩;rw[if_pos (by rw[hq];exact beq_self_eq_true h)]
   ·rw[if_neg (λq=>hq (eq_of_beq q))];cases n with
    |zero=>
     have e:p.j=j:=hh;exact .inr ⟨by rw[<-e,<-hpi];simp,i,hi,by rw[hpi,e],hq⟩
    |succ n=>
     rcases Jjh hr hd n f (t.advance p) j (by lia) (by rw[Hit.dummy (occ:=λ_=>True)];exact hdm) hh.2 with⟨m,p',a,b,c,d⟩|d
     ·refine .inl ⟨m+1,p',by lia,by rw[show n+1-(m+1)=n-m by lia];exact b,c,?_⟩;rcases d with⟨d1,d2,d3,d4⟩|d
      ·exact .inl ⟨by lia,d2,d3,d4⟩
      ·exact .inr d
     ·exact .inr d
section
variable {prog:Program} {w:World} {A:Bl} {E:Value->Shared->Prop} {s:Shared}
abbrev IK(prog:Program)(w:World)(h:Heap)(k:List Int)(b:Addr):Prop:=T1 (intKind prog w) h k b
noncomputable abbrev kh(prog:Program)(w:World)(k:List Int):Int:=tupleKeyHash (intKind prog w) k
theorem items_int(h:ItemsAre (intKind prog w) k vs):∀v∈vs,∃i t,v=.int i t:=by
 induction h with
 |nil=>intro v hv;cases hv
 |cons h1 _ ih=>
  intro v hv;rcases An.mp hv with rfl|hv
  ·exact⟨_,Ip h1⟩
  ·exact ih v hv
def Jd4{Q:Bool->Shared->Prop}(hk:IK prog w s.heap k b)(h:Q false s):wpAny (model prog w) A (Mx 8 (.ref b)) Q E s:=by
 have hT:=hk.typeIs;obtain⟨o,items,n,ho,_,hd,hi⟩:=hk;have hv:=items_int hi;unfold Mx;refine Aa (Fq (T:="tuple") hT ?_);dsimp only;simp only[beq_self_eq_true,if_true];refine Aa (Ac ?_);simp only[Dl,Ar,if_false];refine Aa ?_;unfold Qb;refine Aa (Mf ho ?_);rw[hd];refine Ac ?_;dsimp only;refine Aa ?_;rw[<-Fc];refine Dk _ (λrest r s'=>r=(none,())/\s'=s/\∀v∈rest,∃i t,v=Ds i t) _ ?_ ?_ _ _ ⟨rfl,rfl,hv⟩
 ·rintro v rest r s' ⟨rfl,rfl,hall⟩;obtain⟨i,t,rfl⟩:=hall v Bn;refine Aa ?_;unfold Mx;refine Ac ?_;simp only[Ar,if_false];exact Ac ⟨rfl,rfl,λu hu=>hall u (Ay _ hu)⟩
 ·rintro r s' ⟨rfl,rfl,_⟩;exact Ac h
def Je0{Q:Bool->Shared->Prop}(hk:IK prog w s.heap k b)(h:Q true s):wpAny (model prog w) A (Ru 8 (.ref b)) Q E s:=by
 have hT:=hk.typeIs;obtain⟨o,items,n,ho,_,hd,hi⟩:=hk;have hv:=items_int hi;unfold Ru;refine Aa (Fz hT G6.lookup ?_);dsimp only;refine Aa ?_;unfold Qb;refine Aa (Mf ho ?_);rw[hd];refine Ac ?_;refine Aa ?_;show wpAny _ _ (forIn items _ _) _ _ s;rw[<-Fc];refine Dk _ (λrest r s'=>r=(none,())/\s'=s/\∀v∈rest,∃i t,v=Ds i t) _ ?_ ?_ _ _ ⟨rfl,rfl,hv⟩
 ·rintro v rest r s' ⟨rfl,rfl,hall⟩;obtain⟨i,t,rfl⟩:=hall v Bn;refine Aa ?_;unfold Ru;refine Ac ?_;simp only[Dl,Ar,if_false];exact Ac ⟨rfl,rfl,λu hu=>hall u (Ay _ hu)⟩
 ·rintro r s' ⟨rfl,rfl,_⟩;exact Ac h
def Jq2{Q:Bool->Shared->Prop}(hk:IK prog w s.heap k b)(h:Q false s):∀l:List Value,(∀v∈l,∃k' b',v=.ref b'/\IK prog w s.heap k' b')->wpAny (model prog w) A (Ui (.ref b) l) Q E s:=by
 intro l hl;unfold Ui;refine Aa ?_;refine Dk _ (λrest r s'=>r=(none,())/\s'=s/\∀v∈rest,∃k' b',v=Aq b'/\IK prog w s.heap k' b') _ ?_ ?_ _ _ ⟨rfl,rfl,hl⟩
 ·rintro v rest r s' ⟨rfl,rfl,hall⟩;obtain⟨k',b',rfl,hk'⟩:=hall v Bn;have nx:∀v∈rest,∃k' b',v=Aq b'/\IK prog w s'.heap k' b':=λv hv=>hall v (Ay _ hv);dsimp only
  by_cases c:(b==b'||(O6 (.ref b)&&O6 (.ref b')))=true
  ·rw[if_pos c];exact Ac ⟨rfl,rfl,nx⟩
  ·rw[if_neg c];refine Aa (Rb hk ?_);simp only[Dl,Ar,if_false];refine Aa (Rb hk' ?_);simp only[Dl,Ar,if_false];refine Aa (Jd4 hk ?_);simp only[Ar,if_false];refine Aa (Jd4 hk' ?_);simp only[Ar,if_false];exact Ac ⟨rfl,rfl,nx⟩
 ·rintro r s' ⟨rfl,rfl,_⟩;exact Ac h
structure Tb(prog:Program)(w:World)(t:SetTable)(kb:List (List Int×Addr)):Prop where
 ris:Ris t.place.toList
 dum:t.dummies= #[]
 msk:t.mask=7
 len:t.place.size=kb.length
 inb:∀j∈t.place.toList,j<=t.mask
 room:kb.length*5<t.mask*3
 nd:(kb.map (·.1)).Nodup
 way:∀q∈t.place.toList.zip kb,∃n,n<10*Dh t.mask/\Hit t (·∈t.place.toList) n (t.probeStart (kh prog w q.2.1)) q.1
noncomputable def entS(prog:Program)(w:World)(x:List Int×Addr):Int×Value:=(kh prog w x.1,.ref x.2)
def Tb.fits{t:SetTable}{kb:List (List Int×Addr)}(T:Tb prog w t kb){es:Array (Int×Value)}(he:es.toList=kb.map (entS prog w)):t.fits es.size=true:=by
 have h1:es.size=kb.length:=by rw[<-Bz,he,Ah]
 unfold Qv Ml;rw[T.dum,h1,T.len];have:=T.room;simp only[beq_self_eq_true,K9,decide_eq_true_eq];show kb.length+0<=t.mask
 lia
def Jg2{t:SetTable}(hr:Ris t.place.toList)(hi:i<t.place.size)(hk:k<t.place.size)(e:t.place[i]=t.place[k]):i=k:=by
 rcases Jd i k with h|h|h
 ·have:=Jg0 hr h hk;omega
 ·exact h
 ·have:=Jg0 hr h hi;omega
def Jd6{t:SetTable}(hr:Ris t.place.toList)(hd:t.dummies= #[]){F:Nat->Int}{p:Du}(e:t.probe F h p=r)(hn:n<10*Dh t.mask)(hdm:p.dummy=none)
  (hh:Hit t (·∈t.place.toList) n p j)(ok:∀i (hi:i<t.place.size),t.place[i]=j->F i=h):
  (j∉t.place.toList/\r=some (.empty j none))\/
   ∃m p' i,m<=n/\Hit t (·∈t.place.toList) (n-m) p' j/\p'.dummy=none/\∃hi:i<t.place.size,t.place[i]=p'.j/\t.slot p'.j=.live i/\F i=h/\r=some (.candidate p'.j i (t.advance p')):=by
 subst e;unfold SetTable.probe;rcases Jjh hr hd (hashAt:=F) (h:=h) n (10*Dh t.mask) p j hn hdm hh with⟨m,p',a,b,c,d⟩|⟨d1,i,hi,d2,d3⟩
 ·rcases d with⟨d1,d2,d3,d4⟩|⟨i,hi,d1,d2,d3,d4⟩
  ·exact .inl ⟨d3,d4⟩
  ·exact .inr ⟨m,p',i,a,b,c,hi,d1,d2,d3,d4⟩
 ·exact absurd (ok i hi d2) d3
def Jj0{t:SetTable}(hr:Ris t.place.toList)(hd:t.dummies= #[]){F:Nat->Int}{p:Du}(e:∀met,t.probe F h p=some met->False)(hn:n<10*Dh t.mask)(hdm:p.dummy=none)
  (hh:Hit t (·∈t.place.toList) n p j)(ok:∀i (hi:i<t.place.size),t.place[i]=j->F i=h):False:=by
 rcases Jd6 hr hd (F:=F) rfl hn hdm hh ok with⟨_,q⟩|⟨_,_,_,_,_,_,_,_,_,_,q⟩
 ·exact e _ q
 ·exact e _ q
theorem Jcu{o:Obj}{es:Array (Int×Value)}{t:SetTable}{kb:List (List Int×Addr)}{Q:SetFound->Shared->Prop}(hu:A.units<C0)(T:Tb prog w t kb)
  (ho:s.heap.get? a=some o)(hd:o.data=.set es ep t)(he:es.toList=kb.map (entS prog w))(hkb:∀x∈kb,IK prog w s.heap x.1 x.2)(hk:IK prog w s.heap k b)
  (goal:(j∉t.place.toList/\k∉kb.map (·.1)/\Q (.free j false) s)\/(∃i,∃hi:i<t.place.size,t.place[i]=j/\(kb[i]?).map (·.1)=some k)/\Q (.there none) s):
  ∀(n f:Nat) (stand:Option Du),n<f->n<10*Dh t.mask->(stand.getD (t.probeStart (kh prog w k))).dummy=none->Hit t (·∈t.place.toList) n (stand.getD (t.probeStart (kh prog w k))) j->
   wpAny (model prog w) A (L9 a (.ref b) (kh prog w k) true f stand) Q E s:=by
 have hfit:=T.fits he;have hent:∀i,es[i]? =(kb[i]?).map (entS prog w):=λi=>by rw[<-Dq,he,Ao]
 intro n
 induction n using Sv with
 |ind n ih=>
  intro f stand hf hn hdm hh;obtain⟨f,rfl⟩:∃f',f=f'+1:=⟨f-1,by lia⟩
  rw[L9];refine Aa (Jt ho hd hfit ?_);dsimp only;have hgw:¬t.gaveWay=true:=by
   unfold SetTable.gaveWay;rw[T.msk];decide
  rw[if_neg hgw];obtain⟨p,hp⟩:∃p,stand.getD (t.probeStart (kh prog w k))=p:=⟨_,rfl⟩
  rw[hp]at hdm hh ⊢;have okF:∀F:Nat->Int,(∀i,F i=((es[i]?).map (·.1)).getD 0)->∀i (hi:i<t.place.size),t.place[i]=j->F i=kh prog w k:=λF hF i hi e=>by
   rcases goal with⟨hj,_⟩|⟨⟨i',hi',e',ek⟩,_⟩
   ·exact absurd (by rw[<-e];simp) hj
   ·have:i=i':=Jg2 T.ris hi hi' (by rw[e,e']);subst this;obtain⟨x,hx,rfl⟩:=Ak.mp ek;rw[hF,hent,hx];rfl
  split
  case _ met heq=>
   rcases Jd6 T.ris T.dum heq hn hdm hh (okF _ λ_=>rfl)with⟨hj,e⟩|⟨m,p',i,hm,hh',hdm',hi,hpi,hsl,hFi,e⟩
   ·cases e;dsimp only;rcases goal with⟨_,_,q⟩|⟨⟨i',hi',e',_⟩,_⟩
    ·exact Ac q
    ·exact absurd (by rw[<-e'];simp) hj
   ·cases e;dsimp only;have hikb:i<kb.length:=by rw[<-T.len];exact hi
    obtain⟨⟨k',b'⟩,hx⟩:∃x,kb[i]? =some x:=⟨kb[i],Ag hikb⟩
    have hk':=hkb _ (Ba hx);have hes:es[i]? =some (kh prog w k',.ref b'):=by rw[hent,hx];rfl
    have seen:∀v∈((es.filter (·.1==kh prog w k)).toList.map (·.2)),∃k'' b'',v=Aq b''/\IK prog w s.heap k'' b'':=λv hv=>by
     obtain⟨e,h1,rfl⟩:=Bd.mp hv;have h2:e∈es.toList:=by
      have:e∈(es.filter (·.1==kh prog w k)):=C7.mp h1;exact C7.mpr (Array.mem_filter.mp this).1
     rw[he]at h2;obtain⟨x,hx,rfl⟩:=Bd.mp h2;exact⟨x.1,x.2,rfl,hkb x hx⟩
    have tail:wpAny (model prog w) A (do
      let some (_,y):=es[i]? |unsupported "internal:set-entry"
      let equal<-holding [y] (eqBool y (.ref b))
      let(es',_,t')<-setState a
      if true&&equal then return .there none
      let some same:=t'.sameMemory t.moves t.mask|unsupported "set.changed-during-lookup:is-the-new-block-at-the-old-address"
      let still<-match(if same then t'.slot p'.j else .empty)with
       |.live i'=>match es'[i']? with
        |some (_,y')=>do pure (if<-isSame y' y then some i' else none)
        |none=>pure none
       |_=>pure none
      match still with
      |none=>rule "set.search.anew";L9 a (.ref b) (kh prog w k) true f none
      |some i'=>if equal then return .there (some i')else L9 a (.ref b) (kh prog w k) true f (some (t.advance p'))) Q E s:=by
     rw[hes];dsimp only;refine Aa (Bi (Tg hu hk' hk ?_));refine Aa (Jt ho hd hfit ?_);dsimp only
     by_cases hkk:k'=k
     ·subst hkk;rw[decide_eq_true rfl];simp only[Ob,if_true];rcases goal with⟨_,hno,_⟩|⟨_,q⟩
      ·exact absurd (Bd.mpr ⟨_,Ba hx,rfl⟩) hno
      ·exact Ac q
     ·rw[decide_eq_false hkk];simp only[Km,Ar,if_false];have hsm:t.sameMemory t.moves t.mask=some true:=by unfold SetTable.sameMemory;simp
      rw[hsm];dsimp only;simp only[if_true];rw[hsl];dsimp only;rw[hes];dsimp only;refine Aa (wpAny_isSame_ref_self ?_);simp only[if_true];refine Aa (Ac ?_);dsimp only;cases hnm:n-m with
      |zero=>
       rw[hnm]at hh';have ej:p'.j=j:=hh';rcases goal with⟨hj,_⟩|⟨⟨i',hi',e',ek⟩,_⟩
       ·exact absurd (by rw[<-ej,<-hpi];simp) hj
       ·have:i=i':=Jg2 T.ris hi hi' (by rw[hpi,ej,e']);subst this;rw[hx]at ek;exact absurd (Bj ek) hkk
      |succ r=>
       rw[hnm]at hh';exact ih r (by lia) f (some (t.advance p')) (by lia) (by lia) (by show(t.advance p').dummy=none;rw[Hit.dummy (occ:=λ_=>True)];exact hdm') hh'.2
    by_cases hled:(!t.led)=true
    ·rw[if_pos hled];refine Aa (Jq2 hk ?_ _ seen);simp only[Ar,if_false];exact tail
    ·rw[if_neg hled];exact tail
  case _ heq=>
   exact(Jj0 T.ris T.dum heq hn hdm hh (okF _ λ_=>rfl)).elim
end
section
variable {prog:Program} {w:World} {A:Bl} {E:Value->Shared->Prop} {s:Shared}
def Jfd{α:Type}(xs:Array α)(p:Nat)(x:α):(Dw xs p x).toList=xs.toList.take p++x::xs.toList.drop p:=by
 unfold Dw;have e:(xs.extract p xs.size).toList=xs.toList.drop p:=by rw[Pj,Nw];exact Ef (by simp)
 rw[Array.toList_append,Qo,e,Pj,Nw];simp
theorem Hit.le{t:SetTable}{occ:Nat->Prop}:∀{n:Nat} {p:Du} {j:Nat},p.j+p.more<=t.mask->Hit t occ n p j->j<=t.mask
 |0,p,j,h,e=>by have e:p.j=j:=e;lia
 |n+1,p,j,h,⟨_,q⟩=>by
  refine Hit.le ?_ q;unfold Gx;split
  ·show p.j+1+(p.more-1)<=t.mask;lia
  ·show(Kb t.mask p.i p.perturb).1+(Bq t.mask (Kb t.mask p.i p.perturb).1-(Kb t.mask p.i p.perturb).1)<=t.mask;have hl:(Kb t.mask p.i p.perturb).1<=t.mask:=Jf (Nu _ (L5 _));unfold Bq;split<;>lia
def Jnj(t:SetTable)(h:Int):(t.probeStart h).j+(t.probeStart h).more<=t.mask:=by
 show E8 h%(t.mask+1)+(Bq t.mask (E8 h%(t.mask+1))-E8 h%(t.mask+1))<=t.mask;have hl:E8 h%(t.mask+1)<=t.mask:=Jf (Nu _ (L5 _));unfold Bq;split<;>lia
theorem sub_len:∀(l P:List Nat),l.Nodup->(∀j∈l,j∈P)->l.length<=P.length
 |[],P,_,_=>by simp
 |x::l,P,hl,hm=>by
  have hx:=hm x (.head _);have h2:=sub_len l (P.erase x) (Cm.mp hl).2 λj hj=>by
   have hne:j≠x:=λe=>(Cm.mp hl).1 (e▸hj);exact(Pq hne).mpr (hm j (.tail _ hj))
  rw[Oa hx]at h2;have:=Oy hx;simp only[A7]
  lia
def Jt4(n:Nat)(P:List Nat)(h:∀j,j<n->j∈P):n<=P.length:=by
 simpa using sub_len (B7 n) P List.nodup_range λj hj=>h j (Sw.mp hj)
def Tb.free{t:SetTable}(T:Tb prog w t kb):∃j,j<=t.mask/\j∉t.place.toList:=by
 apply Classical.byContradiction;intro h;have h1:∀j,j<t.mask+1->j∈t.place.toList:=λj hj=>Kt.mp λq=>h ⟨j,by lia,q⟩;have h2:=Jt4 _ _ h1;rw[Bz,T.len]at h2;have:=T.room
 lia
def Tb.put{t:SetTable}{kb:List (List Int×Addr)}(T:Tb prog w t kb)(hk:k∉kb.map (·.1))(hj:j∉t.place.toList)(hn:n<10*Dh t.mask)(hh:Hit t (·∈t.place.toList) n (t.probeStart (kh prog w k)) j):
  ∃kb1,kb1.Perm ((k,b)::kb)/\Ris (t.put j).1.place.toList/\(t.put j).1.dummies= #[]/\(t.put j).1.mask=t.mask/\(t.put j).1.place.size=kb1.length/\
   (∀i∈(t.put j).1.place.toList,i<=t.mask)/\(kb1.map (·.1)).Nodup/\(∀q∈(t.put j).1.place.toList.zip kb1,∃n,n<10*Dh t.mask/\Hit (t.put j).1 (·∈(t.put j).1.place.toList) n ((t.put j).1.probeStart (kh prog w q.2.1)) q.1)/\
   ∀es:Array (Int×Value),es.toList=kb.map (entS prog w)->(Dw es (t.put j).2 (kh prog w k,.ref b)).toList=kb1.map (entS prog w):=by
 obtain⟨b1,b2,b3⟩:=Jfl j T.ris;obtain⟨p,hp⟩:∃p,Cu t.place j=p:=⟨_,rfl⟩
 rw[hp]at b1 b2 b3;have ep:(t.put j).1.place=Dw t.place p j:=by rw[<-hp];rfl
 have epl:(t.put j).1.place.toList=t.place.toList.take p++j::t.place.toList.drop p:=by rw[ep,Jfd]
 have ed:(t.put j).1.dummies= #[]:=by
  show(if Jb t.dummies j then _ else t.dummies)= #[];rw[T.dum];have:Jb #[] j=false:=by unfold Jb;simp
  rw[this];rfl
 have em:(t.put j).1.mask=t.mask:=rfl;have len:t.place.toList.length=kb.length:=by rw[Bz,T.len]
 have hpl:p<=t.place.toList.length:=by simpa using b3
 have zp:(t.place.toList.take p++j::t.place.toList.drop p).zip (kb.take p++(k,b)::kb.drop p)=(t.place.toList.zip kb).take p++(j,(k,b))::(t.place.toList.zip kb).drop p:=by
  rw[List.zip_append (by simp;lia),Qk];congr 1
  ·exact(List.take_zipWith ..).symm
  ·congr 1;exact(List.drop_zipWith ..).symm
 have perm1:∀{α:Type} (l:List α) (x:α),(l.take p++x::l.drop p).Perm (x::l):=λl x=>by
  refine List.perm_middle.trans (P9 _ ?_);rw[List.take_append_drop]
 have occ1:∀i,i∈t.place.toList->i∈(t.put j).1.place.toList:=λi hi=>by
  rw[epl];exact(perm1 _ _).mem_iff.mpr (.tail _ hi)
 refine⟨kb.take p++(k,b)::kb.drop p,perm1 _ _,?_,ed,em,?_,?_,?_,?_,?_⟩
 ·rw[epl];refine Pp.mpr ⟨T.ris.sublist (Q6 _ _),Ql.mpr ⟨λy hy=>?_,T.ris.sublist (List.drop_sublist _ _)⟩,λx hx y hy=>?_⟩
  ·obtain⟨i,hi,rfl⟩:=C2.mp hy;have hi':p+i<t.place.size:=by simp at hi;lia
   have h1:=b2 (p+i) hi' (by lia);have h2:(List.drop p t.place.toList)[i]=t.place[p+i]:=by simp
   rw[h2];rcases Nat.lt_or_eq_of_le h1 with q|q
   ·exact q
   ·exact absurd (by rw[q];simp) hj
  ·obtain⟨i,hi,rfl⟩:=C2.mp hx;have hi2:i<p/\i<t.place.size:=by simp at hi;lia
   have h2:(List.take p t.place.toList)[i]=t.place[i]:=by simp
   rw[h2];have h3:=b1 i hi2.2 hi2.1;rcases An.mp hy with rfl|hy
   ·exact h3
   ·obtain⟨i',hi',rfl⟩:=C2.mp hy;have h4:(List.drop p t.place.toList)[i']=t.place[p+i']'(by simp at hi';lia):=by simp
    rw[h4];have:=b2 (p+i') (by simp at hi';lia) (by lia)
    lia
 ·rw[<-Bz,epl,(perm1 _ _).length_eq,(perm1 _ _).length_eq,A7,A7,len]
 ·intro i hi;rw[epl]at hi;rcases An.mp ((perm1 _ _).mem_iff.mp hi)with rfl|hi
  ·exact hh.le (Jnj t _)
  ·exact T.inb i hi
 ·have:((kb.take p++(k,b)::kb.drop p).map (·.1)).Perm (((k,b)::kb).map (·.1)):=(perm1 _ _).map _;exact this.nodup_iff.mpr (Cm.mpr ⟨hk,T.nd⟩)
 ·intro q hq;rw[epl,zp]at hq;rcases An.mp ((perm1 _ _).mem_iff.mp hq)with rfl|hq
  ·exact⟨n,hn,hh.mono (t':=(t.put j).1) em occ1⟩
  ·obtain⟨n',h1,h2⟩:=T.way q hq;exact⟨n',h1,h2.mono (t':=(t.put j).1) em occ1⟩
 ·intro es he;rw[show(t.put j).2=p from hp,Jfd,he];simp[entS,Jg,N9]
end
section
variable {prog:Program} {w:World} {A:Bl} {E:Value->Shared->Prop} {s:Shared}
inductive SetT (prog:Program) (w:World) (h:Heap) (a:Addr) (kb:List (List Int×Addr)):Prop
 |mk (o es ep t) (_:h.get? a=some o) (_:o.ExactSet) (_:o.data=.set es ep t) (_:es.toList=kb.map (entS prog w)) (_:Tb prog w t kb):SetT prog w h a kb
def stored{h:Heap}{o:Obj}(ho:h.get? a=some o)(hd:o.data=.set es ep t):
  (h.update a (Qw es' t')).get? a=some {o with data:=.set es' (ep+1) t'}:=by
 have:=Cp (Qw es' t') ho (by rw[putSet_of es' t' hd];rfl);rw[putSet_of es' t' hd]at this;exact this
def Jpi:100<=sizeLine:=by rw[G4];decide
def Jue{kb:List (List Int×Addr)}{Q:Bool->Shared->Prop}(hu:A.units<C0)(S:SetT prog w s.heap a kb)(hkb:∀x∈kb,IK prog w s.heap x.1 x.2)(hk:IK prog w s.heap k b)(hn:kb.length<3)
  (hold:k∈kb.map (·.1)->Q false s)(hnew:k∉kb.map (·.1)->∀h' kb',Ct a s.heap h'->SetT prog w h' a kb'->kb'.Perm ((k,b)::kb)->Q true {s with heap:=h'}):
  wpAny (model prog w) A (setAddHashed a (.ref b) (kh prog w k)) Q E s:=by
 obtain⟨o,es,ep,t,ho,hx,hd,he,T⟩:=S;have hf:=T.fits he;unfold setAddHashed;refine Bi ?_;rw[show(100000:Nat)=99999+1 from rfl,setAddHashedIn];refine Aa (Jt ho hd hf ?_);dsimp only;have hsc:byScan (.ref b) es=false:=by unfold byScan;rfl
 rw[hsc];simp only[Ar,if_false];unfold setSearch;have hturn:10*Dh t.mask<100000:=by unfold Dh;rw[T.msk];decide
 by_cases hin:k∈kb.map (·.1)
 ·obtain⟨x,hx',ek⟩:=Bd.mp hin;obtain⟨i,hi,ei⟩:=C2.mp hx';have hip:i<t.place.size:=by rw[T.len];exact hi
  have hz:(t.place[i],x)∈t.place.toList.zip kb:=by
   refine Fp.mpr ⟨i,?_⟩;rw[Nv];exact⟨by rw[Dq];exact Bo hip,by rw[Ag hi,ei]⟩
  obtain⟨n,h1,h2⟩:=T.way _ hz;simp only[ek]at h2;refine Aa (Jcu (j:=t.place[i]) hu T ho hd he hkb hk (.inr ⟨⟨i,hip,rfl,by rw[Ag hi,ei];exact congrArg some ek⟩,?_⟩) n 100000 none (by lia) h1 rfl h2);exact Ac (hold hin)
 ·obtain⟨j0,hj0,hno⟩:=T.free;obtain⟨n,j,h1,h2,h3⟩:=Jo3 (occ:=(·∈t.place.toList)) T.msk hj0 hno (kh prog w k);refine Aa (Jcu (j:=j) hu T ho hd he hkb hk (.inl ⟨h2,hin,?_⟩) n 100000 none (by lia) h1 rfl h3);dsimp only;refine Aa (Jt ho hd hf ?_);dsimp only;obtain⟨kb1,p1,r1,d1,m1,l1,i1,n1,w1,e1⟩:=T.put (b:=b) hin h2 h1 h3;have e1:=e1 es he;have hlen1:kb1.length=kb.length+1:=by rw[p1.length_eq];rfl
  have hesz:es.size=kb.length:=by rw[<-Bz,he,Ah]
  have hz1:(Dw es (t.put j).2 (kh prog w k,Aq b)).size=kb.length+1:=by rw[<-Bz,e1,Ah,hlen1]
  have fit1:(t.put j).1.fits (Dw es (t.put j).2 (kh prog w k,Aq b)).size=true:=by
   unfold Qv Ml;rw[d1,l1,hz1,hlen1,m1];have:=T.room;simp only[beq_self_eq_true,K9,decide_eq_true_eq];show kb.length+1+0<=t.mask;rw[T.msk];lia
  have body:wpAny (model prog w) A (do
    storeSet a (Dw es (t.put j).2 (kh prog w k,Aq b)) (t.put j).1
    if(!false&&(t.put j).1.tooFull)=true then do
     setRelay a (SetTable.grown (es.size+1))
     pure true
    else pure true) Q E s:=by
   refine Aa (wpAny_storeSet_of ho hd ?_ (by rw[hz1];have:=Jpi;lia));have sb:=C1 s.heap a (Qw (Dw es (t.put j).2 (kh prog w k,Aq b)) (t.put j).1);have fill:(t.put j).1.fill=kb.length+1:=by unfold Ml;rw[d1,l1,hlen1];rfl
   have full:(t.put j).1.tooFull=false:=by
    unfold SetTable.tooFull;rw[fill,m1,T.msk];exact decide_eq_false (by lia)
   rw[full];simp only[Km,Ar,if_false];exact Ac (hnew hin _ kb1 sb ⟨_,_,_,_,stored ho hd,hx,rfl,e1,r1,d1,by rw[m1];exact T.msk,l1,by rw[m1];exact i1,by rw[hlen1,m1,T.msk];lia,n1,by rw[m1];exact w1⟩ p1)
  by_cases hpl:(t.put j).1.plain=true
  ·rw[if_pos hpl];refine Aa (Je0 hk ?_);exact body
  ·rw[if_neg hpl];refine Aa (Ac ?_);exact body
end
open PySem PyProof.Rows
noncomputable def dd(ks:Nat->List Int):Nat->List (List Int)
 |0=>[]
 |n+1=>if ks n∈dd ks n then dd ks n else ks n::dd ks n
theorem Jhc(ks:Nat->List Int):∀n,(dd ks n).length<=n
 |0=>Ai _
 |n+1=>by
  unfold dd;have:=Jhc ks n;split
  ·lia
  ·simp only[A7];lia
section
variable {prog:Program} {w:World} {A:Bl} {s:Shared} {R:Lg->Shared->Prop}
def IK.keep{h h':Heap}(x:IK prog w h k b)(e:∀o,h.get? b=some o->h'.get? b=some o):IK prog w h' k b:=by
 obtain⟨o,its,n,ho,r⟩:=x;exact⟨o,its,n,e o ho,r⟩
def SetT.keep{h h':Heap}(x:SetT prog w h a kb)(e:∀o,h.get? a=some o->h'.get? a=some o):SetT prog w h' a kb:=by
 obtain⟨o,es,ep,t,ho,r,r1,r2,r3⟩:=x;exact⟨o,es,ep,t,e o ho,r,r1,r2,r3⟩
structure Lo(prog:Program)(w:World)(I l S:Addr)(items:Array Value)(ks:Nat->List Int)(i:Nat)(h:Heap)(kb:List (List Int×Addr)):Prop where
 it:h.IsListIter I l i
 li:h.IsList l items
 st:SetT prog w h S kb
 el:∀j v,items[j]? =some v->∃b,v=.ref b/\b≠S/\b≠I/\IK prog w h (ks j) b
 ek:∀x∈kb,x.2≠S/\x.2≠I/\IK prog w h x.1 x.2
 pm:(kb.map (·.1)).Perm (dd ks i)
theorem loop{items:Array Value}{ks:Nat->List Int}(hh:A.in1.handled=none)(hu:A.in1.units<C0)(h1:l≠I)(h2:S≠I)(h3:S≠l)(hb:items.size<4):
  ∀(k i:Nat) (s:Shared) (kb:List (List Int×Addr)),items.size-i=k->i<=items.size->Lo prog w I l S items ks i s.heap kb->
   (∀h' tk kb',(∀b o,b≠S->b≠I->s.heap.get? b=some o->h'.get? b=some o)->SetT prog w h' S kb'->(kb'.map (·.1)).Perm (dd ks items.size)->R (.ok (.ret .none)) {s with heap:=h',toks:=tk})->
   Gm (model prog w) A (.builtin "set.update.loop" ⟨[.ref S,.ref I],[]⟩) R s:=by
 have W:=P1 (prog:=prog) (w:=w) (A:=A.in1) hh I l h1 items;intro k
 induction k with
 |zero=>
  intro i s kb hk hi L hR;have:i=items.size:=by lia
  subst this;refine De Pn ?_;rw[Cz Gz _];show wpAny _ A.in1 (pyNext (.ref I)>>=_) _ _ s;refine Aa (W.done s _ _ ⟨L.it,L.li⟩ λh' tk hm=>?_);exact Ac (hR h' tk kb (λb o _ hI e=>hm b o (by simpa using hI) e) (L.st.keep λo e=>hm S o (by simpa using h2) e) L.pm)
 |succ k ih=>
  intro i s kb hk hi L hR;have hlt:i<items.size:=by lia
  refine De Pn ?_;rw[Cz Gz _];show wpAny _ A.in1 (pyNext (.ref I)>>=_) _ _ s;refine Aa (W.item i s _ _ hlt ⟨L.it,L.li⟩ λv h' tk hP hst hm=>?_);obtain⟨b,rfl,b1,b2,b3⟩:=L.el i v hP;have k1:∀c o,c≠I->s.heap.get? c=some o->h'.get? c=some o:=λc o hc e=>hm c o (by simpa using hc) e;have st1:SetT prog w h' S kb:=L.st.keep λo e=>k1 S o h2 e;have el1:∀j v,items[j]? =some v->∃b,v=.ref b/\b≠S/\b≠I/\IK prog w h' (ks j) b:=λj v hv=>by
   obtain⟨c,rfl,c1,c2,c3⟩:=L.el j v hv;exact⟨c,rfl,c1,c2,c3.keep λo e=>k1 c o c2 e⟩
  have ek1:∀x∈kb,x.2≠S/\x.2≠I/\IK prog w h' x.1 x.2:=λx hx=>by
   obtain⟨c1,c2,c3⟩:=L.ek x hx;exact⟨c1,c2,c3.keep λo e=>k1 _ o c2 e⟩
  have hkb:IK prog w h' (ks i) b:=b3.keep λo e=>k1 b o b2 e;have hlen:kb.length<3:=by
   have e1:=L.pm.length_eq;have e2:=Jhc ks i;rw[Ah]at e1
   lia
  show wpAny _ A.in1 (holding [Aq b] (setAdd S (.ref b))>>=_) _ _ _;refine Aa (Bi ?_);unfold setAdd;refine Bi ?_;refine Aa (wpAny_pyHash_tuple (s:={s with heap:=h',toks:=tk}) hu hkb ?_);refine Jue (s:={s with heap:=h',toks:=tk+((ks i).length+1)}) hu st1 (λx hx=>(ek1 x hx).2.2) hkb hlen (λhin=>?_) (λhin h2' kb' sb S' pm'=>?_)
  ·refine Ac ⟨F2 Gz _,ih (i+1) _ kb (by lia) hlt ⟨hst.1,hst.2,st1,el1,ek1,?_⟩ λh3' tk' kb' hkeep S' p'=>?_⟩
   ·unfold dd;rw[if_pos (L.pm.mem_iff.mp hin)];exact L.pm
   ·exact hR h3' tk' kb' (λc o c1 c2 e=>hkeep c o c1 c2 (k1 c o c2 e)) S' p'
  ·have k2:∀c o,c≠S->h'.get? c=some o->h2'.get? c=some o:=λc o hc e=>by rw[sb.2 c hc];exact e
   refine Ac ⟨F2 Gz _,ih (i+1) _ kb' (by lia) hlt ⟨hst.1.at λo e=>k2 I o (Eb h2) e,hst.2.at λo e=>k2 l o (Eb h3) e,S',λj v hv=>?_,λx hx=>?_,?_⟩ λh3' tk' kb'' hkeep S'' p'=>?_⟩
   ·obtain⟨c,rfl,c1,c2,c3⟩:=el1 j v hv;exact⟨c,rfl,c1,c2,c3.keep λo e=>k2 c o c1 e⟩
   ·rcases An.mp (pm'.mem_iff.mp hx)with rfl|hx
    ·exact⟨b1,b2,hkb.keep λo e=>k2 b o b1 e⟩
    ·obtain⟨c1,c2,c3⟩:=ek1 x hx;exact⟨c1,c2,c3.keep λo e=>k2 _ o c1 e⟩
   ·unfold dd;rw[if_neg λq=>hin (L.pm.mem_iff.mpr q)];exact(pm'.map _).trans (P9 _ L.pm)
   ·exact hR h3' tk' kb'' (λc o c1 c2 e=>hkeep c o c1 c2 (k2 c o c1 (k1 c o c2 e))) S'' p'
variable {E:Value->Shared->Prop}
noncomputable abbrev setO(led:Bool):Obj:={cls:=.type "set",dict:=none,data:=.set #[] 0 (.fresh 0 0 led)}
def Jo7(led:Bool):Tb prog w (.fresh 0 0 led) []:=
 ⟨Ng,rfl,rfl,rfl,nofun,by show 0*5<7*3;decide,Ie,nofun⟩
inductive Mad (prog:Program) (w:World) (s:Shared) (ks:Nat->List Int) (n:Nat) (h':Heap):Prop
 |mk (_:(∃kb,SetT prog w h' s.heap.objs.size kb/\(kb.map (·.1)).Perm (dd ks n))) (_:∀b o,b<s.heap.objs.size->s.heap.get? b=some o->h'.get? b=some o):Mad prog w s ks n h'
def Jme{items:Array Value}{ks:Nat->List Int}(hh:A.handled=none)(hu:A.in1.in1.in1.units<C0)(hl:s.heap.IsList l items)
  (hi:∀j v,items[j]? =some v->∃b,v=.ref b/\IK prog w s.heap (ks j) b)(hb:items.size<4){P:PySem.Fin->Shared->Prop}
  (h:∀h' tk,Mad prog w s ks items.size h'->P (.done (.ret .none)) {s with heap:=h',toks:=tk}):
  wpAny (model prog w) A.in1.in1 (Builtin.«set.__init__» ⟨[.ref s.heap.objs.size,.ref l],[]⟩) P E {s with heap:=s.heap.push (setO led)}:=by
 obtain⟨ol,hol,hcl,nl,hdl⟩:=id hl;obtain⟨hp,g,d,tk0,os⟩:=s;obtain⟨oc,od,oda,osl⟩:=ol;simp only at hcl hdl hol hl hi h ⊢;subst hcl hdl;have hlS:l<hp.objs.size:=Am hol;have hS:(hp.push (setO led)).get? hp.objs.size=some (setO led):=Aj _ rfl;have hol1:=Ad (setO led) hol;have n1:=PySem.F.sub_list_set;have n2:=PySem.F.sub_list_frozenset;have n3:(D1 "list"==D1 "dict")=false:=by decide
 have hl1:(hp.push (setO led)).IsList l items:=⟨_,hol1,rfl,nl,rfl⟩
 unfold Builtin.«set.__init__» noKeywords R3;generalize hPI:pyIter=PI
 wp_walk
 subst hPI;refine F4 hl1 (Aa (O1 ?_));have hz:(hp.push (setO led)).objs.size=hp.objs.size+1:=Cd ..;have lo:∀{b:Addr} {o:Obj},hp.get? b=some o->b≠hp.objs.size/\b≠(hp.push (setO led)).objs.size:=λe=>by
  have q:=Am e;rw[hz];exact⟨As q,As (Je q)⟩
 have up:∀{b:Addr} {o:Obj} (x:Obj),hp.get? b=some o->((hp.push (setO led)).push x).get? b=some o:=λx e=>Ad _ (Ad _ e);refine loop (ks:=ks) (by simp[hh]) hu (l:=l) (by rw[hz];exact As (Je hlS)) (by rw[hz];exact As (Dg _)) (Cj hlS) hb items.size 0 _ [] (by lia) (Cr _)
  ⟨⟨_,Aj _ rfl,rfl,rfl⟩,hl1.push _,⟨_,#[],0,_,Ad _ hS,⟨rfl,rfl,rfl⟩,rfl,rfl,Jo7 led⟩,λj v hv=>?_,nofun,List.Perm.refl _⟩ λh' tk kb' hk S' p'=>?_
 ·obtain⟨b,rfl,x⟩:=hi j v hv;obtain⟨o,its,m,ho,r⟩:=id x;exact⟨b,rfl,(lo ho).1,(lo ho).2,o,its,m,up _ ho,r⟩
 ·show wpAny _ _ _ _ _ _;refine Ac ?_;show wpAny _ _ (ret Cf) _ _ _;exact Ac (h h' tk ⟨⟨kb',S',p'⟩,λb o _ e=>hk b o (lo e).1 (lo e).2 (up _ e)⟩)
theorem Jmy{items:Array Value}{ks:Nat->List Int}{Q:Value->Shared->Prop}(hh:A.handled=none)(hu:A.units+9<C0)(hl:s.heap.IsList l items)
  (hi:∀j v,items[j]? =some v->∃b,v=.ref b/\IK prog w s.heap (ks j) b)(hb:items.size<4)
  (h:∀h' tk,Mad prog w s ks items.size h'->Q (.ref s.heap.objs.size) {s with heap:=h',toks:=tk}):
  wpAny (model prog w) A (call (.type "set") [.ref l]) Q E s:=by
 obtain⟨c,tl,hmro⟩:=Dp.mro;have m1:=Dp.made;have m2:=Dp.sub;have m3:=Dp.notType;have m4:=Dp.canCreate;have m5:=PySem.F.typeCall_set_1 (.ref l);refine Th (codeAny_of_tree ?_);show wpAny _ _ (callAny (.type "set") _) _ _ _;refine Ac ⟨Qi _ (by decide+kernel),De PySem.F.entry_type_call ?_⟩;rw[Around.under_plain (weight_type_call_type "set" [.ref l] []) rfl]
 repeat (any_goals (first|assumption|wp_step))
 refine Ft (code_set_new_1 (.ref l) (E:=E) (Q₁:=λx s₁=>∃led,x=.ref s.heap.objs.size/\s₁={s with heap:=s.heap.push (setO led)}) λled=>⟨led,rfl,rfl⟩) λr s₁ hr=>?_;cases r with
 |error e=>exact hr
 |ok fl=>
  cases fl<;>try exact hr.elim
  obtain⟨led,rfl,rfl⟩:=hr;have hS:(s.heap.push (setO led)).get? s.heap.objs.size=some (setO led):=Aj _ rfl;have hT:Eu {s with heap:=s.heap.push (setO led)} (.ref s.heap.objs.size) "set":=⟨_,hS,rfl⟩
  have m6:=Dp.init.lookup;have m7:=Dp.init.bind (.ref s.heap.objs.size)
  repeat (any_goals (first|assumption|wp_step))
  refine Ft (codeAny_call_builtin (R:=wants (λr s₂=>r=.none/\∃h' tk,s₂={s with heap:=h',toks:=tk}/\Mad prog w s ks items.size h') E) Dp.init.plain PySem.F.entry_set_init
   (check_set_init_1 hT (Jme hh (by show A.units+1+1+1<C0;lia) hl hi hb λh' tk m=>⟨rfl,h',tk,rfl,m⟩))) λr₂ s₂ hr₂=>?_
  cases r₂ with
  |error e=>exact hr₂
  |ok f2=>
   cases f2<;>try exact hr₂.elim
   obtain⟨rfl,h',tk,rfl,m⟩:=hr₂
   repeat (any_goals (first|assumption|wp_step))
   exact h _ _ m
end
end Sbl
namespace Rdc
open PySem
inductive Raw (h:Heap) (d:Addr) (es:Array B6) (ep:Nat):Prop
 |mk (o) (_:h.get? d=some o) (_:o.ExactDict) (_:o.data=.dict es ep):Raw h d es ep
def Raw.keep{h h':Heap}(x:Raw h d es ep)(e:∀o,h.get? d=some o->h'.get? d=some o):Raw h' d es ep:=let⟨o,a,r,r'⟩:=x;⟨o,e o a,r,r'⟩
def Raw.typeIs{s:Shared}(x:Raw s.heap d es ep):s.TypeIs (.ref d) "dict":=let⟨o,a,b,_⟩:=x;⟨o,a,b.1⟩
section
variable {prog:Program} {w:World} {A:Bl} {E:Value->Shared->Prop} {s:Shared} {d it v:Addr} {es:Array B6} {ep i:Nat}
def Jg8{Q:Value->Shared->Prop}(hd:(d==sysModules)=false)(hm:Raw s.heap d es ep)
  (hQ:Q (.ref s.heap.objs.size) {s with heap:=s.heap.push {cls:=.type "dict_keyiterator",data:=.fields #[.ref d,.int 0 0,.int es.size 0,.int ep 0]}}):wpAny (model prog w) A (pyIter (.ref d)) Q E s:=by
 have hT:=hm.typeIs;obtain⟨o,h1,h2,h3⟩:=hm;refine Mu hT M2 (Bg M2 hT F.entry_dict_iter ?_ (F.args_dict_iter_1 _));unfold Builtin.«dict.__iter__» Builtin.Dict.dictSlotNone;refine Aa (Aa (Dv hT (Ac ?_)));unfold Ea;refine Aa (Ac ?_);rw[if_neg (by rw[hd];simp)];exact Aa (Ac (Aa (Bs h1 h3 (Aa (Dt h1 h3 (Aa (Br (Ac ⟨_,rfl,"dict_keyiterator",_,⟨_,Aj _ rfl,rfl⟩,Ed.lookup,hQ⟩))))))))
def Jqg{Q:Option Value->Shared->Prop}(b:Bool)(hit:cond b (s.heap.IsValIter it d i es.size ep) (s.heap.IsKeyIter it d i es.size ep))(hm:Raw s.heap d es ep)(hi:i<es.size)
  (hQ:∀h',cond b (h'.IsValIter it d (i+1) es.size ep) (h'.IsKeyIter it d (i+1) es.size ep)->Ct it s.heap h'->Q (some (cond b es[i].val es[i].key)) {s with heap:=h'}):wpAny (model prog w) A (pyNext (.ref it)) Q E s:=by
 obtain⟨h',hh'⟩:∃h',h'=s.heap.update it (Obj.mapFields (·.setIfInBounds 1 (rawInt ((i:Int)+1)))):=⟨_,rfl⟩
 have nx:cond b (h'.IsValIter it d (i+1) es.size ep) (h'.IsKeyIter it d (i+1) es.size ep):=by
  cases b<;>exact let⟨o,ho,hc,hd⟩:=hit;⟨_,by rw[hh'];exact Cp _ ho (Pl (Ij hd _)),(Rc ..).trans hc,by rw[Ij hd];simp[rawInt]⟩
 replace hQ:=hQ h' nx (by rw[hh'];exact C1 ..)
 cases b<;>dsimp only[cond]at hit nx hQ
 all_goals
  obtain⟨o,ho,hc,hd⟩:=id hit;obtain⟨q,h1,h2,h3⟩:=hm;unfold pyNext
  first|refine Aa (El (Bv (name:=Ab "__next__") hit.typeIs Dx (Bg Dx hit.typeIs Mp ?_ (Mh _))))|refine Aa (El (Bv (name:=Ab "__next__") hit.typeIs Ed (Bg Ed hit.typeIs Na ?_ (M3 _))))
  refine Aa (Ac (Aa (Aa ?_)))
  first|refine Aa (Fm hit.typeIs (Ac ?_))|refine Aa (Gv hit.typeIs (Ac ?_))|refine Aa (Fo hit.typeIs (Ac ?_))|refine Aa (Gw hit.typeIs (Ac ?_))
  refine Aa (Lc ho hd ?_)
  first|rw[if_neg (show¬B3 "dict_valueiterator"=true by decide)]|rw[if_neg (show¬B3 "dict_keyiterator"=true by decide)]
  show wpAny _ _ (if(Aq d==Cf)=true then _ else _) _ _ s;rw[if_neg (show¬((Aq d==Cf)=true)from Az)];refine Aa (Ac (Aa (Bs h1 h3 ?_)));rw[if_neg (by simp)];refine Aa (Ac (Aa (Dt h1 h3 ?_)));rw[if_neg (by simp)];refine Ac ?_;dsimp only;rw[if_neg (show¬((i:Int)<0) by omega),D5,Bo hi];refine Aa ?_
  first|refine Aa (Fm hit.typeIs (Ac ?_))|refine Aa (Gv hit.typeIs (Ac ?_))|refine Aa (Fo hit.typeIs (Ac ?_))|refine Aa (Gw hit.typeIs (Ac ?_))
  first|refine Aa (K0 hit.typeIs ?_)|refine Aa (Ra hit.typeIs ?_)
  show wpAny _ _ (Rq (.ref it) 1 (rawInt ((i:Int)+1))>>=_) _ _ s;refine Aa (Jh ho hd (by simp) ?_);rw[<-hh']
  first|refine Aa (Bi (Aa (K0 (s:={s with heap:=h'}) nx.typeIs (Aa (K0 (s:={s with heap:=h'}) nx.typeIs ?_)))))|refine Aa (Bi (Aa (Ra (s:={s with heap:=h'}) nx.typeIs ?_)))
  exact Ac (Ac ⟨_,rfl,Ac hQ⟩)
def Jw7{Q:Option Value->Shared->Prop}(b:Bool)(hh:A.handled=none)(hit:cond b (s.heap.IsValIter it d i es.size ep) (s.heap.IsKeyIter it d i es.size ep))(hm:Raw s.heap d es ep)(hi:es.size<=i)
  (hQ:∀h',Mg it s.heap h'->Q none {s with heap:=h'}):wpAny (model prog w) A (pyNext (.ref it)) Q E s:=by
 cases b<;>dsimp only[cond]at hit
 all_goals
  obtain⟨o,ho,hc,hd⟩:=id hit;obtain⟨q,h1,h2,h3⟩:=hm;unfold pyNext
  first|refine Aa (El (Bv (name:=Ab "__next__") hit.typeIs Dx (Bg Dx hit.typeIs Mp ?_ (Mh _))))|refine Aa (El (Bv (name:=Ab "__next__") hit.typeIs Ed (Bg Ed hit.typeIs Na ?_ (M3 _))))
  refine Aa (Ac (Aa (Aa ?_)))
  first|refine Aa (Fm hit.typeIs (Ac ?_))|refine Aa (Gv hit.typeIs (Ac ?_))|refine Aa (Fo hit.typeIs (Ac ?_))|refine Aa (Gw hit.typeIs (Ac ?_))
  refine Aa (Lc ho hd ?_)
  first|rw[if_neg (show¬B3 "dict_valueiterator"=true by decide)]|rw[if_neg (show¬B3 "dict_keyiterator"=true by decide)]
  show wpAny _ _ (if(Aq d==Cf)=true then _ else _) _ _ s;rw[if_neg (show¬((Aq d==Cf)=true)from Az)];refine Aa (Ac (Aa (Bs h1 h3 ?_)));rw[if_neg (by simp)];refine Aa (Ac (Aa (Dt h1 h3 ?_)));rw[if_neg (by simp)];refine Ac ?_;dsimp only;rw[if_neg (show¬((i:Int)<0) by omega),D5,Oo hi];refine Aa ?_
  first|refine Aa (Fm hit.typeIs (Ac ?_))|refine Aa (Gv hit.typeIs (Ac ?_))|refine Aa (Fo hit.typeIs (Ac ?_))|refine Aa (Gw hit.typeIs (Ac ?_))
  show wpAny _ _ (Rq (.ref it) 0 .none>>=_) _ _ s;refine Aa (Jh ho hd (by simp) ?_);show wpAny _ _ (Qt (.type "StopIteration") []>>=_) _ _ _;simp only[Qt,newTuple];refine Aa (Aa (Br ?_ (by size_fits)));refine Aa (m:=He _ _) (Ny (a:=Cf) (by first|rfl|(simp only[He];rfl)) ?_);refine Br ?_ (by size_fits);simp only[raiseNew];refine Aa (P0 ?_);rw[show A.in1.handled=none from hh];refine Aa (Ac (Rm ?_));refine Aa (Dy (T:="StopIteration") (b:=true) ⟨_,Aj _ rfl,rfl⟩ O4 ?_);exact Ac (hQ _ (((C1 ..).extBut.push _).push _))
def Jl9{Q:Value->Shared->Prop}(hv:s.heap.IsValuesView v d)(hm:Raw s.heap d es ep)
  (hQ:Q (.ref s.heap.objs.size) {s with heap:=s.heap.push {cls:=.type "dict_valueiterator",data:=.fields #[.ref d,.int 0 0,.int es.size 0,.int ep 0]}}):wpAny (model prog w) A (pyIter (.ref v)) Q E s:=by
 obtain⟨ov,v1,v2,v3⟩:=id hv;obtain⟨o,h1,h2,h3⟩:=hm;refine Mu hv.typeIs Pm (Bg Pm hv.typeIs F.entry_dict_values_iter ?_ (F.args_dict_values_iter_1 _));unfold Builtin.«dict_values.__iter__» Kg Jo;refine Aa (Ac (Aa (Aa (B5 v1 v3 (x:=.ref d) rfl (Ac ?_)))));refine Aa (Aa (Bs h1 h3 (Aa (Dt h1 h3 ?_))));simp only[show B3 "dict_valueiterator"=false by decide,Ar,if_false];exact Br (Ac ⟨_,rfl,"dict_valueiterator",_,⟨_,Aj _ rfl,rfl⟩,Dx.lookup,hQ⟩)
def Jir{Q:Value->Shared->Prop}(hd:(d==sysModules)=false)(hm:Raw s.heap d es ep)
  (hQ:Q (.ref s.heap.objs.size) {s with heap:=s.heap.push {cls:=.type "dict_values",data:=.fields #[.ref d]}}):wpAny (model prog w) A (call (.builtin "dict.values") [.ref d]) Q E s:=by
 refine Bg Pc hm.typeIs F.entry_dict_values ?_ (F.args_dict_values_1 _);refine Aa ?_;unfold M5;refine Aa (Dv hm.typeIs ?_);refine Ac ?_;show wpAny _ _ (Ea d>>=_) _ _ s;unfold Ea;rw[if_neg (by rw[hd];simp)];exact Aa (Ac (Aa (Br (Ac ⟨_,rfl,hQ⟩))))
def Jkp(hh:A.handled=none)(I d:Addr)(hne:d≠I)(es:Array B6)(ep:Nat):
  Walks prog w A I [I,d] [I] es.size (λi v=>∃e,es[i]? =some e/\v=e.key) (λi h=>h.IsKeyIter I d i es.size ep/\Raw h d es ep)where
 sub:=λb hb=>by simp at hb;simp[hb]
 frame:=λ_ _ _ st hk=>⟨st.1.at λo e=>hk I (by simp) o e,st.2.keep λo e=>hk d (by simp) o e⟩
 item:=λi s Q E hi st hQ=>Jqg false st.1 st.2 hi λh' hit' hs'=>hQ _ h' s.toks ⟨es[i],Bo hi,rfl⟩ ⟨hit',st.2.keep λo e=>by rw[hs'.2 d hne];exact e⟩ λb o hb e=>hs'.extBut b o (λh=>hb (by simp[h])) e
 done:=λs Q E st hQ=>Jw7 false hh st.1 st.2 (Ai _) λh' he'=>hQ h' s.toks λb o hb e=>he' b o (λh=>hb (by simp[h])) e
 self:=λ_ _ _ _ st hQ=>Ro st.1 hQ
open PySem.W in
def Jnk(hd:(d==sysModules)=false):KdlSrc prog w "dict" d d es.size (λi v=>∃e,es[i]? =some e/\v=e.key) (λh=>Raw h d es ep)where
 type:=λs x=>x.typeIs
 there:=λh x=>let⟨_,e,_,_⟩:=x;⟨Am e,Am e⟩
 keep:=λh h' x k=>x.keep λo e=>k d (.inl rfl) o e
 notList:=by decide
 notTuple:=by decide
 hint:=λA E s Q x q=>kdl_hint_dict x.typeIs q
 iter:=λA s hh x=>⟨_,_,λE Q q=>Jg8 hd x q,Jkp hh _ d (let⟨_,e,_,_⟩:=x;As (Am e)) es ep,⟨_,Aj _ rfl,rfl,rfl⟩,x.keep λo e=>Ad _ e⟩
end
section
variable {prog:Program} {w:World} {K:Type} [DecidableEq K] {knd:Ke prog w K} {A:Bl} {E:Value->Shared->Prop} {s:Shared} {d a:Addr} {k:K} {xs:List (K×Addr×Value)}
noncomputable def We(xs:List (K×Addr×Value))(k:K):List (K×Addr×Value):=xs.filter λx=>decide (x.1≠k)
def Jog{xs:List (K×Addr×Value)}(h:k∉xs.map (·.1)):We xs k=xs:=by
 unfold We;rw[List.filter_eq_self];intro x hx;have:x.1≠k:=λe=>h (e▸Bd.mpr ⟨x,hx,rfl⟩);simp[this]
theorem Jlv{β:Type}(f:K×Addr×Value->β):∀{xs:List (K×Addr×Value)} {j:Nat} {p:Addr×Value},(xs.map (·.1)).Nodup->xs[j]? =some (k,p)->(xs.map f).eraseIdx j=(We xs k).map f
 |[],j,p,_,h=>by simp at h
 |x::r,0,p,hn,h=>by
  simp only[Dc,Gh]at h;subst h;rw[Aw,Cm]at hn;have e:We ((k,p)::r) k=r:=by
   have:=Jog hn.1;unfold We at this ⊢;rw[E7,if_neg (by simp)];exact this
  rw[e,Aw,List.eraseIdx_cons_zero]
 |x::r,j+1,p,hn,h=>by
  simp only[Bu]at h;rw[Aw,Cm]at hn;have hne:x.1≠k:=λe=>hn.1 (e▸Bd.mpr ⟨(k,p),Ba h,rfl⟩);have e:We (x::r) k=x::We r k:=by
   unfold We;rw[E7,if_pos (by simpa using hne)]
  rw[e,Aw,Om,Jlv f hn.2 h,Aw]
def Jgv{p:Addr×Value}{Q:Option B6->Shared->Prop}(hu:knd.room A)(hkey:knd.is s.heap k a)(hm:s.heap.DictOfH knd d xs)(hp:Gq xs k=some p)(hsz:xs.length<=sizeLine)
  (h:∀(c:Addr) h',h'.DictOfH knd d (We xs k)->Ct d s.heap h'->Q (some ⟨knd.hash k,.ref c,p.2⟩) {s with heap:=h',toks:=s.toks+knd.draws k}):
  wpAny (model prog w) A (Mq d (.ref a)) Q E s:=by
 obtain⟨o,es,ep,ho,hc,hd,he,his,hn⟩:=hm;unfold Mq
 try with_reducible refine Bi ?_
 refine Aa (knd.pyHash hu hkey ?_);refine Aa (Sa (s:={s with toks:=s.toks+knd.draws k}) hu hkey ho hd he his hn ?_ ?_)
 ·intro hno;rw[M0 hno]at hp;exact nomatch hp
 ·intro j q hj;rw[atKey_of_get hn hj]at hp;cases hp;refine Aa (Bs (s:={s with toks:=s.toks+knd.draws k}) ho hd ?_);rw[Ld he j,hj];refine Aa (wpAny_updateDictKeys (hz:=by have e:=E2 he;lia) (s:={s with toks:=s.toks+knd.draws k}) ho hd (Ac (h _ _ ⟨_,_,ep+1,Cp _ ho (Qg (Hi hd _)),
   hc.mapDictKeys _,Hi hd _,?_,?_,?_⟩ (C1 ..))))
  ·have:=Jlv (entryOfKey knd) hn hj;rw[<-he]at this;obtain⟨l⟩:=es
   simpa using this
  ·intro x hx;exact knd.keeps (his x (Hk.mp hx).1) ho hd (C1 ..)
  ·exact hn.sublist ((P8).map _)
end
section
variable {prog:Program} {w:World} {K:Type} [DecidableEq K] (knd:Ke prog w K) (d a:Addr)
def Jj3:MeetsIn prog w (Builtin.«dict.pop» ⟨[.ref d,.ref a],[]⟩) (λA R s=>knd.room A.in1/\∃k xs p,knd.is s.heap k a/\s.heap.DictOfH knd d xs/\Gq xs k=some p/\xs.length<=sizeLine/\
   ∀h',h'.DictOfH knd d (We xs k)->Ct d s.heap h'->R (.ok (.ret p.2)) {s with heap:=h',toks:=s.toks+knd.draws k}):=
 .of_wp λA R s ⟨hu,k,xs,p,hkey,hm,hp,hsz,h⟩=>by
  unfold Builtin.«dict.pop»;refine Aa ?_;unfold Builtin.Dict.keyAndDefault;refine Aa (Dv hm.typeIs ?_);show wpAny _ _ (pure (d,Aq a,none)) _ _ s;refine Ac ?_;obtain⟨o,es,ep,ho,hc,hd,he,_⟩:=id hm;have hne:es.isEmpty=false:=by
   cases xs with
   |nil=>simp[Gq]at hp
   |cons x r=>have:=E2 he;simp at this;simp[Td,this]
  simp only[show(My (Aq a)).isSome=false from rfl,Ar,if_false];refine Aa (Bs ho hd (Aa (Ac ?_)));rw[hne];simp only[Ar,if_false];refine Aa (Jgv hu hkey hm hp hsz λc h' hm' hs'=>?_);simp only[Po,Ar,if_false];exact Aa (Nz (Ac ⟨p.2,rfl,h h' hm' hs'⟩))
end
section
variable {prog:Program} {w:World} {A:Bl} {E:Value->Shared->Prop} {s:Shared} {o:Addr} {es:Array B6} {ep:Nat}
def Jic{Q:Bool->Shared->Prop}(ht:s.TypeIs (.ref k) "tuple")(h:Q false s):wpAny (model prog w) A (Mr (.ref k)) Q E s:=by
 unfold Mr;exact Aa (Fz ht Hy.lookup (Ac h))
def Yf{id:String}{Q:Array B6->Shared->Prop}(hm:Raw s.heap o es ep)(ht:∀e∈es,∃k,e.key=.ref k/\s.TypeIs (.ref k) "tuple")(hq:∀e∈es,(es.filter (·.hash==e.hash)).size<=1)(h:Q es s):
  wpAny (model prog w) A (Kx id o) Q E s:=by
 obtain⟨ob,h1,h2,h3⟩:=hm;unfold Kx;refine Aa (Bs h1 h3 (Aa ?_));show wpAny _ _ (forIn es _ _) _ _ s;rw[<-Fc];refine Dk _ (λrest r s'=>s'=s/\∀e∈rest,e∈es) _ ?_ ?_ _ _ ⟨rfl,λe he=>C7.mp he⟩
 ·rintro e rest r s' ⟨rfl,hall⟩;obtain⟨k,ek,tk⟩:=ht e (hall e Bn);rw[ek];refine Aa (Jic tk ?_);simp only[Tc,if_true];rw[if_neg (by have:=hq e (hall e Bn);omega)];exact Ac ⟨rfl,λu hu=>hall u (Ay _ hu)⟩
 ·rintro r s' ⟨rfl,_⟩;exact Ac h
def Jm3{Q:Value->Shared->Prop}(hd:(o==sysModules)=false)(hm:Raw s.heap o es ep)(ht:∀e∈es,∃k,e.key=.ref k/\s.TypeIs (.ref k) "tuple")(hq:∀e∈es,(es.filter (·.hash==e.hash)).size<=1)
  (hz:es.size<=sizeLine)(h:∀h' ep',Raw h' s.heap.objs.size es ep'->Ct s.heap.objs.size (s.heap.push {cls:=.type "dict",data:=.dict #[]}) h'->Q (.ref s.heap.objs.size) {s with heap:=h'}):
  wpAny (model prog w) A (call (.type "dict") [.ref o]) Q E s:=by
 refine callType_codes (Q₁:=λobj s₁=>obj=.ref s.heap.objs.size/\s₁={s with heap:=s.heap.push {cls:=.type "dict",data:=.dict #[]}}) T2 (Qz _) Sh (kt_code_dict_new _ ⟨rfl,rfl⟩) ?_;rintro obj s₁ ⟨rfl,rfl⟩;have hnew:Raw (s.heap.push {cls:=.type "dict",data:=.dict #[]}) s.heap.objs.size #[] 0:=⟨_,Aj _ rfl,⟨rfl,rfl,rfl⟩,rfl⟩
 have ho':Raw (s.heap.push {cls:=.type "dict",data:=.dict #[]}) o es ep:=hm.keep λ_ q=>Ad _ q;have tN:Eu {s with heap:=s.heap.push {cls:=.type "dict",data:=.dict #[]}} (.ref s.heap.objs.size) "dict":=Raw.typeIs (s:={s with heap:=s.heap.push {cls:=.type "dict",data:=.dict #[]}}) hnew;have tO:Eu {s with heap:=s.heap.push {cls:=.type "dict",data:=.dict #[]}} (.ref o) "dict":=Raw.typeIs (s:={s with heap:=s.heap.push {cls:=.type "dict",data:=.dict #[]}}) ho';have hdo:¬((s.heap.objs.size==o)=true):=by
  obtain⟨_,hg,_⟩:=hm;exact λe=>absurd (Am hg) (by rw[eq_of_beq e];exact Eh _)
 refine⟨tN,R1 _ _,?_⟩;unfold Builtin.«dict.__init__»;refine Aa ?_;unfold Lr;refine Aa (Dv tN ?_);show wpAny _ _ (pure (s.heap.objs.size,[Aq o])) _ _ _;refine Ac ?_;show wpAny _ _ (F3 "dict.__init__" s.heap.objs.size (.ref o) [] .none) _ _ _;unfold F3;refine Aa (Fq tO ?_);rw[if_neg (by decide)];refine Aa ?_;unfold Builtin.Dict.merge;refine Aa ?_;unfold Builtin.Dict.readDirectly;refine Aa (Dy tO isSubtype_dict_dict ?_);simp only[Dl,Ar,if_false];refine Aa (Fz tO M2.lookup (Ac ?_));simp only[beq_self_eq_true,if_true];refine Aa (Ac ?_);obtain⟨ob,h1,h2,h3⟩:=id ho';obtain⟨nb,n1,n2,n3⟩:=id hnew;unfold Builtin.Dict.mergeDict;rw[if_neg hdo];unfold Ea;rw[if_neg (by rw[hd];simp)];refine Aa (Ac (Aa (Bs h1 h3 ?_)))
 by_cases he:es= #[]
 ·have hf:(decide (es.size<=8)&&es.all λe=>(My e.key).isSome)=true:=by subst he;simp
  show wpAny _ _ (if(!(decide (es.size<=8)&&es.all λe=>(My e.key).isSome))=true then _ else _) _ _ _;rw[hf,if_neg (by simp)];refine Aa (Dt h1 h3 (Aa (Bs h1 h3 (Aa ?_))));subst he;simp only[E4,Hq];refine Ac (Ac ?_);show wpAny _ _ (Ls s.heap.objs.size []>>=_) _ _ _;exact Aa (Ac (Ac ⟨rfl,h _ _ hnew (Np _ _)⟩))
 ·have hz0:0<es.size:=Nat.pos_of_ne_zero λq=>he (Array.eq_empty_of_size_eq_zero q);have hf:(decide (es.size<=8)&&es.all λe=>(My e.key).isSome)=false:=by
   have:(es.all λe=>(My e.key).isSome)=false:=by
    cases q:es.all λe=>(My e.key).isSome with
    |false=>rfl
    |true=>
     have q0:=Array.all_eq_true.mp q 0 hz0;obtain⟨k,ek,_⟩:=ht es[0] (Qp _);rw[ek]at q0;cases q0
   rw[this,Km]
  show wpAny _ _ (if(!(decide (es.size<=8)&&es.all λe=>(My e.key).isSome))=true then _ else _) _ _ _;rw[hf,if_pos (by rfl)];refine Aa (Bs n1 n3 ?_);rw[if_pos (by rfl)];refine Aa (Yf ho' (λe q=>let⟨k,ek,o',g,c⟩:=ht e q;⟨k,ek,o',Ad _ g,c⟩) hq ?_);show wpAny _ _ (if(!es.isEmpty)=true then _ else _) _ _ _;rw[if_pos (by simp[Td];lia)];refine Aa (wpAny_updateDictKeysTo n1 n3 ?_ (by show es.size<=_;lia));refine Ac ?_;show wpAny _ _ (Ls s.heap.objs.size []>>=_) _ _ _;exact Aa (Ac (Ac ⟨rfl,h _ _ ⟨_,Cp _ n1 (Qg (Hi n3 _)),n2.mapDictKeys _,Hi n3 _⟩ (C1 ..)⟩))
end
open PySem PySem.W
section
variable {prog:Program} {w:World} {K:Type} [DecidableEq K] {knd:Ke prog w K} {A:Bl} {E:Value->Shared->Prop} {s:Shared} {a b:Addr} {xa xb:List (K×Addr×Value)}
def Wab{Q:Bool->Shared->Prop}(ha:(a==sysModules)=false)(hb:(b==sysModules)=false)(hu:knd.room A)(da:s.heap.DictOfH knd a xa)(db:s.heap.DictOfH knd b xb)(hl:xa.length=xb.length)
  (hits:∀x∈xa,∃p,Gq xb x.1=some p/\E9 A s x.2.2 p.2 true)(h:Q true s):wpAny (model prog w) A (Mb nm a b) Q E s:=by
 obtain⟨oa,es,ep,hoa,_,hda,hea,hia,hna⟩:=da;obtain⟨ob,es',ep',hob,_,hdb,heb,hib,hnb⟩:=db;have hla:=E2 hea;have hlb:=E2 heb;unfold Mb Ea;rw[if_neg (show¬(a==sysModules)=true by rw[ha];exact Az),if_neg (show¬(b==sysModules)=true by rw[hb];exact Az)];refine Aa (Ac (Aa (Ac ?_)));refine Aa (Bs hoa hda ?_);dsimp only;refine Aa (Bs hob hdb ?_);have hsz:es.size=es'.size:=by lia
 rw[if_neg (by rw[hsz];simp)];refine Aa (Dt hoa hda ?_);refine Aa ?_;rw[E4];simp only[Hq,H9,Nat.add_sub_cancel,Nat.div_one];refine Dk _ (λrest q s'=>s'=s/\q=(none,())/\∀i∈rest,i<es.size) _ ?_ ?_ _ _ ⟨rfl,rfl,λi hi=>by simpa using hi⟩
 ·rintro x rest q s' ⟨rfl,rfl,hall⟩;have hlt:x<es.size:=hall x Bn;have hlt':x<xa.length:=by lia
  refine Aa (Bs hoa hda ?_);rw[Bo hlt];have he:es[x]=entryOfKey knd xa[x]:=by
   have:=Ld hea x;rw[Bo hlt,Ag hlt']at this;exact Bj this
  have hm:xa[x]∈xa:=Hb hlt';obtain⟨p,hp,hv⟩:=hits _ hm;show wpAny _ _ (holding [es[x].key,es[x].val] _>>=_) _ _ _;rw[he];refine Aa (Bi (Aa (Sa hu (hia _ hm) hob hdb heb hib hnb ?_ ?_)))
  ·intro hno;rw[M0 hno]at hp;exact nomatch hp
  ·intro j r hj;rw[atKey_of_get hnb hj]at hp;cases hp;refine Aa (Bs hob hdb ?_);rw[Ld heb j,hj];refine Bi (hv prog w _ _ ?_);show wpAny _ _ (if(!true)=true then _ else _) _ _ _;rw[if_neg (by decide)];refine Aa (Dt hoa hda ?_);rw[if_neg (by simp)];exact Ac ⟨rfl,rfl,λi hi=>hall i (Ay _ hi)⟩
 ·rintro q s' ⟨rfl,rfl,_⟩;exact Ac h
def neH{Q:Value->Shared->Prop}(ha:(a==sysModules)=false)(hb:(b==sysModules)=false)(hu:A.units<C0)(hr:knd.room A.in1)(da:s.heap.DictOfH knd a xa)(db:s.heap.DictOfH knd b xb)(hl:xa.length=xb.length)
  (hits:∀x∈xa,∃p,Gq xb x.1=some p/\E9 A.in1 s x.2.2 p.2 true)(h:Q (.bool false) s):wpAny (model prog w) A (Dz .NotEq (.ref a) (.ref b)) Q E s:=by
 refine Iw (op:=.NotEq) da.typeIs db.typeIs Og (Bg Og da.typeIs PySem.F.entry_dict_ne ?_ (PySem.F.args_dict_ne_2 _ _)) hu;show wpAny _ _ (Li "__ne__" ⟨[.ref a,.ref b],[]⟩>>=_) _ _ s;refine Aa ?_;unfold Li;refine Aa (Dv da.typeIs ?_);show wpAny _ _ (pure (Aq a,Aq b)) _ _ s;refine Ac ?_;refine Aa (Dy (T:="dict") db.typeIs PySem.F.sub_dict_dict ?_);simp only[Dl,Ar,if_false];refine Aa (Ac (Aa (Ac ?_)));refine Aa (Wab ha hb hr da db hl hits ?_);refine Ac ⟨_,rfl,?_,?_⟩
 ·exact λx=>nomatch x
 ·simpa using h
end
end Rdc
namespace Rdu
open PySem PyProof.Rows PySem.W Rdc
abbrev PK:=Int×Int
noncomputable def ltP(a b:PK):Bool:=LR.ltZ a.1 a.2 b.1 b.2
def Vz{a b:PK}:ltP a b=true↔a.1<b.1\/(a.1=b.1/\a.2<b.2):=by simp[ltP,LR.ltZ]
section
variable {prog:Program} {w:World} {A:Bl} {E:Value->Shared->Prop} {s:Shared}
abbrev IK2(prog:Program)(w:World)(h:Heap)(k:PK)(b:Addr):Prop:=T1 (intKind prog w) h [k.1,k.2] b
theorem Jdt{k:PK}{items:Array Value}(h:ItemsAre (intKind prog w) [k.1,k.2] items.toList):∃t u,items= #[.int k.1 t,.int k.2 u]:=by
 obtain⟨l⟩:=items;simp only at h;cases h with
 |cons h1 h'=>
  cases h' with
  |cons h2 h''=>
   cases h'';obtain⟨t,rfl⟩:=Ip h1;obtain⟨u,rfl⟩:=Ip h2;exact⟨t,u,rfl⟩
def Jol{Q:Bool->Shared->Prop}(hx:IK2 prog w s.heap k x)(hy:IK2 prog w s.heap l y)(h:Q (ltP k l) s):wpAny (model prog w) A (keyLt' (tuples' b) (.ref x) (.ref y)) Q E s:=by
 obtain⟨ox,xs,n,h1,_,h2,h3⟩:=hx;obtain⟨oy,ys,m,g1,_,g2,g3⟩:=hy;obtain⟨t,u,rfl⟩:=Jdt h3;obtain⟨t',u',rfl⟩:=Jdt g3;have one:∀(c:Bool) {a d:Int} {t u:Tok} {Q:Bool->Shared->Prop},Q (decide (a<d)) s->wpAny (model prog w) A (oneLt' c (.int a t) (.int d u)) Q (λ_ _=>False) s:=λc {a d t u Q} h=>by
  cases c with
  |true=>exact oneLt_int h
  |false=>exact kat_one _ _ (show wpAny (model prog w) A (Rt .Lt (.int a t) (.int d u)) _ _ s from LR.int_lt h)
 refine kat_lt h1 h2 g1 g2 (kat_cons (Hn ?_))
 by_cases e1:k.1=l.1
 ·rw[e1,beq_self_eq_true];refine kat_yes (kat_cons (Hn ?_))
  by_cases e2:k.2=l.2
  ·rw[e2,beq_self_eq_true];refine kat_yes (kat_nil ?_);have:ltP k l=false:=by simp[ltP,LR.ltZ,e1,e2]
   rw[this]at h;exact h
  ·rw[beq_eq_false_iff_ne.mpr e2];refine kat_no (one _ ?_);have:ltP k l=decide (k.2<l.2):=by simp[ltP,LR.ltZ,e1]
   rw[this]at h;exact h
 ·rw[beq_eq_false_iff_ne.mpr e1];refine kat_no (one _ ?_);have:ltP k l=decide (k.1<l.1):=by simp[ltP,LR.ltZ,e1]
  rw[this]at h;exact h
def IK2.keep{h h':Heap}(x:IK2 prog w h k b)(e:∀o,h.get? b=some o->h'.get? b=some o):IK2 prog w h' k b:=by
 obtain⟨o,its,n,ho,r⟩:=x;exact⟨o,its,n,e o ho,r⟩
def Jj7{pk:Value->PK}{vs:List Value}{Q:Pf->Shared->Prop}(hne:0<vs.length)(hv:∀v∈vs,∃b,v=.ref b/\IK2 prog w s.heap (pk v) b)(h:Q (tuples' true) s):wpAny (model prog w) A (keyKind' vs.toArray) Q E s:=by
 have:∀vs:List Value,(∀v∈vs,∃b,v=.ref b/\IK2 prog w s.heap (pk v) b)->∃fs,KatTups s.heap vs fs/\fs.length=vs.length/\∀f∈fs,∃i t,f=Ds i t:=by
  intro vs
  induction vs with
  |nil=>intro _;exact⟨[],trivial,rfl,nofun⟩
  |cons v vs ih=>
   intro hv;obtain⟨fs,h1,h2,h3⟩:=ih λv h=>hv v (.tail _ h);obtain⟨b,rfl,o,its,n,g1,g2,g3,g4⟩:=hv v (.head _);obtain⟨t,u,rfl⟩:=Jdt g4;refine⟨_::fs,Ry g1 g2 g3 rfl h1,by simp[h2],λf hf=>?_⟩;rcases An.mp hf with rfl|hf
   ·exact⟨_,_,rfl⟩
   ·exact h3 f hf
 obtain⟨fs,h1,h2,h3⟩:=this vs hv;refine kat_kind (T:=.type "int") h1 (by lia) (λv hv=>?_) (by decide) (by rw[show(D1 "int" !=D1 "tuple")=true by decide];exact h);obtain⟨i,t,rfl⟩:=h3 v hv;exact .now
def Jiz(l:List Value):((l.toArray.zip l.toArray).map (·.2))=l.toArray:=by
 apply Array.toList_inj.mp;simp[List.map_snd_zip]
def Jkw{vs:List Value}{P:PySem.Fin->Shared->Prop}(ho:s.heap.get? a=some (seqObj "list" vs.toArray n))(hz:vs.length<sizeLine)
  (kind:∀h1:Heap,(∀b o,b≠a->s.heap.get? b=some o->h1.get? b=some o)->2<=vs.length->∀Q:Pf->Shared->Prop,Q κ {s with heap:=h1}->wpAny (model prog w) A (keyKind' vs.toArray) Q E {s with heap:=h1})
  (up:∀h1:Heap,(∀b o,b≠a->s.heap.get? b=some o->h1.get? b=some o)->∀(i:Nat) (x y:Value),vs[i+1]? =some x->vs[i]? =some y->∀Q:Bool->Shared->Prop,Q false {s with heap:=h1}->wpAny (model prog w) A (keyLt' κ x y) Q (λ_ _=>False) {s with heap:=h1})
  (h:P (.done (.ret .none)) {s with heap:=sortedHeap s.heap a vs vs.toArray}):wpAny (model prog w) A (Builtin.«list.sort» ⟨[.ref a],[]⟩) P E s:=by
 rw[list_sort_plain];have ha:a<s.heap.objs.size:=Am ho;refine Aa (listItems_at ho rfl (Aa (P6 ho rfl ?_ (by simp;lia) (by simp))));obtain⟨e1,ho1⟩:∃e1,(s.heap.update a (Dm λ_=> #[])).get? a=some (seqObj "list" #[] e1):=⟨_,get?_update_seq ho (λ_=> #[])⟩
 refine Aa (R4 ho1 rfl (Aa (O2 ?_ (by show vs.length<=_;lia))));refine Aa (L8 ?_ (Cr _));refine Bi ?_;obtain⟨h1,eh⟩:∃h1,h1=((s.heap.update a (Dm λ_=> #[])).push (seqObj "tuple" vs.toArray 0)).push (seqObj "list" #[] 0):=⟨_,rfl⟩
 have oth:∀{b:Addr} {o:Obj},b≠a->s.heap.get? b=some o->h1.get? b=some o:=λ{b o} hb e=>by
  rw[eh];exact Ad _ (Ad _ ((Heap.get?_update_ne _ _ _ _ hb).trans e))
 have ho6:h1.get? a=some (seqObj "list" #[] e1):=by rw[eh];exact Ad _ (Ad _ ho1)
 have es:∀out:Array Value,h1.update a (Dm λ_=>out)=sortedHeap s.heap a vs out:=λout=>by rw[eh];rfl
 show wpAny (model prog w) A _ P E {s with heap:=((s.heap.update a (Dm λ_=> #[])).push (seqObj "tuple" vs.toArray 0)).push (seqObj "list" #[] 0)};rw[<-eh];dsimp only;have hsz:vs.toArray.size=vs.length:=by simp
 have oth':∀b o,b≠a->s.heap.get? b=some o->h1.get? b=some o:=λb o hb e=>oth hb e
 by_cases h2:vs.toArray.size<2
 ·rw[if_pos h2,if_pos h2];refine Aa (Ac ?_);rw[StateT.run_pure];refine Aa (Ac ?_);dsimp only;rw[show(Us (Ut general' (vs.toArray.zip vs.toArray) #[] 7 none)).map (·.2)=vs.toArray from Jiz vs];refine Aa (R4 ho6 rfl (Aa (P6 ho6 rfl ?_ (Cr _) (by show vs.toArray.size<=_;lia))));simp only[bne_self_eq_false,Ar,if_false];refine Ac ?_;show P _ {s with heap:=h1.update a (Dm λ_=>vs.toArray)};rw[es];exact h
 ·rw[if_neg h2,if_neg h2];refine Aa (kind h1 oth' (by lia) _ ?_);have hA:Sre.Y0 (model prog w) A {s with heap:=h1} κ (vs.toArray.zip vs.toArray):=λi x y hx hy Q q=>by
   have ez:∀j:Nat,∀z:Keyed,(vs.toArray.zip vs.toArray)[j]? =some z->vs[j]? =some z.1:=λj z hz=>by
    rw[<-Dq]at hz;have hz:(vs.zip vs)[j]? =some z:=by simpa using hz
    rw[Nv]at hz;exact hz.1
   exact up h1 oth' i x.1 y.1 (ez _ _ hx) (ez _ _ hy) Q q
  have hzz:(vs.toArray.zip vs.toArray).size=vs.length:=by simp
  refine Aa (B4 (Sre.Jjv (a:=vs.toArray.zip vs.toArray) (st:=Ut κ (vs.toArray.zip vs.toArray) #[] 7 none)
   (Q:=λ_ st'=>Us st'=vs.toArray.zip vs.toArray/\failedOf st'=none) hA rfl rfl rfl rfl (by lia) λst' a1 a2=>⟨a1,a2⟩) ?_ λ_ _ e=>e)
  rintro⟨⟨⟩,st'⟩ s' ⟨rfl,ha,hf⟩;dsimp only;rw[ha,Jiz];refine Aa (R4 ho6 rfl (Aa (P6 ho6 rfl ?_ (Cr _) (by show vs.toArray.size<=_;lia))));rw[hf];simp only[bne_self_eq_false,Ar,if_false];refine Ac ?_;show P _ {s with heap:=h1.update a (Dm λ_=>vs.toArray)};rw[es];exact h
def Jmw{Pi:Nat->Value->Prop}{OK:Heap->Prop}{R:Lg->Shared->Prop}(K:KdlSrc prog w T r d n Pi OK)(hh:A.handled=none)(hok:OK s.heap)(hn:n<=sizeLine)(h1:S≠r)(h2:S≠d)(hS:s.heap.get? S=some {cls:=.type "list",data:=.seq #[] 0})
  (h:∀h' tk acc c,(∀b o,b≠S->s.heap.get? b=some o->h'.get? b=some o)->h'.get? S=some {cls:=.type "list",dict:=none,data:=.seq acc c,slots:= #[]}->ItemsOf Pi acc n->R (.ok (.ret (.ref S))) {s with heap:=h',toks:=tk}):
  Gm (model prog w) A (.builtin "list.__iadd__" ⟨[.ref S,.ref r],[]⟩) R s:=by
 refine De entry_list_iadd' ?_;rw[Cz (show plainId "list.__iadd__"=true by decide+kernel) _];exact kdl_extend (R:=R) K hh hok S h1 h2 (.ref S) 0 hS h hn
def Jiq{Pi:Nat->Value->Prop}{OK:Heap->Prop}{Q:List Value->Shared->Prop}(K:KdlSrc prog w T r d n Pi OK)(hh:A.handled=none)(hok:OK s.heap)(hn:n<=sizeLine)
  (h:∀h' tk (acc:Array Value),(∀b o,s.heap.get? b=some o->h'.get? b=some o)->h'.objs.size≥s.heap.objs.size->ItemsOf Pi acc n->Q acc.toList {s with heap:=h',toks:=tk}):wpAny (model prog w) A (collect (.ref r)) Q E s:=by
 unfold collect;refine Aa (O1 (De R5 ?_));show wpAny _ _ (do again (.builtin "list.__iadd__" ⟨[<-newList [],.ref r],[]⟩)) _ _ s;have hS:(s.heap.push (seqObj "list" #[] 0)).get? s.heap.objs.size=some (seqObj "list" #[] 0):=Aj _ rfl;obtain⟨lr,ld⟩:=K.there _ hok;refine Aa (L8 (Ac ⟨Qi _ (by decide+kernel),Jmw (s:={s with heap:=s.heap.push (seqObj "list" #[] 0)}) K hh (K.keep _ _ hok λb _ o e=>Ad _ e) hn (Cj lr) (Cj ld) hS
  λh' tk acc c kp hS' it=>?_⟩))
 have kp':∀b o,s.heap.get? b=some o->h'.get? b=some o:=λb o e=>kp b o (As (Am e)) (Ad _ e);show wpAny (model prog w) A (do
   let o<-load s.heap.objs.size
   match o.data with
   |.seq xs _=>pure xs.toList
   |_=>unsupported "internal:collect") Q E {s with heap:=h',toks:=tk}
 refine Aa (Mf hS' ?_);exact Ac (h h' tk acc kp' (Eg (Am hS')) it)
def Je2{Pi:Nat->Value->Prop}{OK:Heap->Prop}{Q:Value->Shared->Prop}(K:KdlSrc prog w T r d n Pi OK)(hh:A.handled=none)(hok:OK s.heap)(hn:n<sizeLine)
  (kind:∀(vs:List Value) (h1:Heap) (t:Nat),vs.length=n->(∀(i:Nat) (v:Value),vs[i]? =some v->Pi i v)->(∀b o,s.heap.get? b=some o->h1.get? b=some o)->2<=n->∀(A':Bl) (E':Value->Shared->Prop) (Q:Pf->Shared->Prop),Q κ {s with heap:=h1,toks:=t}->wpAny (model prog w) A' (keyKind' vs.toArray) Q E' {s with heap:=h1,toks:=t})
  (up:∀(h1:Heap) (t:Nat),(∀b o,s.heap.get? b=some o->h1.get? b=some o)->∀(i:Nat) (x y:Value),Pi (i+1) x->Pi i y->∀(A':Bl) (Q:Bool->Shared->Prop),Q false {s with heap:=h1,toks:=t}->wpAny (model prog w) A' (keyLt' κ x y) Q (λ_ _=>False) {s with heap:=h1,toks:=t})
  (h:∀(h':Heap) (tk:Nat) (l:Addr) (c:Nat) (vs:List Value),(∀b o,s.heap.get? b=some o->h'.get? b=some o)->s.heap.objs.size<=l->h'.get? l=some (seqObj "list" vs.toArray c)->vs.length=n->(∀(i:Nat) (v:Value),vs[i]? =some v->Pi i v)->
   Q (.ref l) {s with heap:=h',toks:=tk}):
  wpAny (model prog w) A (call (.builtin "sorted") [.ref r]) Q E s:=by
 refine Nc kind_sorted plain_sorted entry_sorted (args_sorted1 _) ?_;unfold Builtin.«sorted»;refine Aa (m:=checkCount "sorted" 1 1 _) (Ac ?_);refine Aa (Jiq K (by simp[hh]) hok (Eg hn) λh' tk acc kp hsz it=>?_);have hlen:acc.toList.length=n:=by rw[Bz];exact it.1
 have hpi:∀(i:Nat) (v:Value),acc.toList[i]? =some v->Pi i v:=λi v e=>it.2 i v (by rw[<-Dq];exact e);refine Aa (L8 ?_ (by rw[hlen];lia));have ho:(h'.push (seqObj "list" acc.toList.toArray 0)).get? h'.objs.size=some (seqObj "list" acc.toList.toArray 0):=Aj _ rfl;have kp2:∀b o,s.heap.get? b=some o->b≠h'.objs.size/\(h'.push (seqObj "list" acc.toList.toArray 0)).get? b=some o:=λb o e=>
  ⟨As (Bh (Am e) hsz),Ad _ (kp b o e)⟩
 refine Aa (Bi (Bg Ov ⟨_,ho,rfl⟩ Oh (Jkw (s:={s with heap:=h'.push (seqObj "list" acc.toList.toArray 0),toks:=tk}) (κ:=κ) ho (by rw[hlen];exact hn)
  (λh1 k1 z Q q=>kind _ h1 tk hlen hpi (λb o e=>k1 b o (kp2 b o e).1 (kp2 b o e).2) (by lia) _ _ Q q) (λh1 k1 i x y ex ey Q q=>up h1 tk (λb o e=>k1 b o (kp2 b o e).1 (kp2 b o e).2) i x y (hpi _ _ ex) (hpi _ _ ey) _ Q q) ⟨_,rfl,?_⟩) (args_list_sort _)))
 obtain⟨c,hc⟩:=sortedHeap_at (out:=acc.toList.toArray) ho;refine Ac ⟨_,rfl,h _ _ _ c acc.toList (λb o e=>?_) hsz hc hlen hpi⟩;obtain⟨k1,k2⟩:=kp2 b o e;rw[sortedHeap_old k1 (Am k2)];exact k2
end
noncomputable def itO(own:Value)(f:Bool)(d:Addr)(i n ep:Nat)(ok ov:Value):Obj:={cls:=.type "dict_itemiterator",dict:=none,data:=.fields #[own,.bool f,.ref d,.int i 0,.int n 0,.int ep 0,ok,ov],slots:= #[]}
inductive ItSt (h:Heap) (it d:Addr) (i n ep:Nat):Prop
 |mk (own f ok ov) (_:h.get? it=some (itO own f d i n ep ok ov)) (_:(own=.none\/∃(a:Nat) (oa:Obj),own=rawInt a/\h.get? a=some oa/\a≠it)):ItSt h it d i n ep
section
variable {prog:Program} {w:World} {A:Bl} {E:Value->Shared->Prop} {s:Shared} {it d:Addr} {es:Array B6} {ep i:Nat}
def next_item{Q:Option Value->Shared->Prop}(hst:ItSt s.heap it d i es.size ep)(hm:Raw s.heap d es ep)(hi:i<es.size)
  (hQ:∀h',ItSt h' it d (i+1) es.size ep->h'.get? s.heap.objs.size=some {cls:=.type "tuple",data:=.seq #[es[i].key,es[i].val]}->h'.objs.size=s.heap.objs.size+1->
   (∀b o,b≠it->s.heap.get? b=some o->h'.get? b=some o)->Q (some (.ref s.heap.objs.size)) {s with heap:=h'}):wpAny (model prog w) A (pyNext (.ref it)) Q E s:=by
 obtain⟨hp,g,dr,tk,os⟩:=s;obtain⟨own,f,ok,ov,hit,hown⟩:=hst;obtain⟨od,hod,_,hdd⟩:=hm;have hT:Eu ⟨hp,g,dr,tk,os⟩ (.ref it) "dict_itemiterator":=⟨_,hit,rfl⟩
 unfold pyNext;refine Aa (El (Bv (name:=Ab "__next__") hT C3 (Bg C3 hT Kf ?_ (Jz _))));refine Aa (Ac (Aa (Aa ?_)))
 first|refine Aa (Ff hT (Ac ?_))|refine Aa (Gp hT (Ac ?_))
 refine Aa (Lc hit rfl ?_);rw[if_pos (show B3 "dict_itemiterator"=true by decide)];show wpAny _ _ (if(Aq d==Cf)=true then _ else _) _ _ _;rw[if_neg (show¬((Aq d==Cf)=true)from Az)];refine Aa (Ac (Aa (Bs hod hdd ?_)));rw[if_neg (by simp)];refine Aa (Ac (Aa (Dt hod hdd ?_)));rw[if_neg (by simp)];refine Ac ?_;dsimp only;rw[if_neg (show¬((i:Int)<0) by lia),D5,Bo hi];refine Aa ?_
 first|refine Aa (Ff hT (Ac ?_))|refine Aa (Gp hT (Ac ?_))
 refine Aa (Kn hT ?_);show wpAny _ _ (Rq (.ref it) 3 (rawInt ((i:Int)+1))>>=_) _ _ ⟨hp,g,dr,tk,os⟩;refine Aa (Co hit (by simp) λh₁ he₁ hs₁=>?_)
 replace hs₁:Ct it hp h₁:=hs₁
 replace he₁:h₁.get? it=some (itO own f d (i+1) es.size ep ok ov):=by
  unfold itO;rw[show((i+1:Nat):Int)=(i:Int)+1 by lia];simpa [rawInt]using he₁
 have hT₁:Eu ⟨h₁,g,dr,tk,os⟩ (.ref it) "dict_itemiterator":=⟨_,he₁,rfl⟩
 refine Aa (Bi (Aa (Kn hT₁ (Aa (Kn hT₁ ?_)))));show wpAny _ _ (Jc (.ref it) 6 es[i].key es[i].val) _ _ ⟨h₁,g,dr,tk,os⟩;unfold Jc;refine Aa (O2 ?_);obtain⟨h₂,hh₂⟩:∃h₂,h₂=h₁.push {cls:=.type "tuple",data:=.seq #[es[i].key,es[i].val]}:=⟨_,rfl⟩
 have he₂:h₂.get? it=some (itO own f d (i+1) es.size ep ok ov):=by rw[hh₂];exact Ad _ he₁
 have hz₁:h₁.objs.size=hp.objs.size:=hs₁.1;have hil:hp.objs.size≠it:=Cj (Am hit);have ht₂:h₂.get? hp.objs.size=some {cls:=.type "tuple",data:=.seq #[es[i].key,es[i].val]}:=by rw[hh₂,<-hz₁];exact Aj _ rfl
 have hz₂:h₂.objs.size=hp.objs.size+1:=by rw[hh₂,Cd,hz₁]
 have hk₂:∀b o,b≠it->hp.get? b=some o->h₂.get? b=some o:=λb o hb e=>by rw[hh₂];exact Ad _ (hs₁.extBut b o hb e)
 have fin:∀(h₃:Heap) (own':Value) (f':Bool) (ok' ov':Value),h₃.get? it=some (itO own' f' d (i+1) es.size ep ok' ov')->Ct it h₂ h₃->(own'=.none\/∃(a:Nat) (oa:Obj),own'=rawInt a/\h₂.get? a=some oa/\a≠it)->Q (some (.ref hp.objs.size)) ⟨h₃,g,dr,tk,os⟩:=λh₃ own' f' ok' ov' e₃ s₃ o₃=>
  hQ h₃ ⟨own',f',ok',ov',e₃,o₃.imp id λ⟨a,oa,q1,q2,q3⟩=>⟨a,oa,q1,s₃.extBut _ _ q3 q2,q3⟩⟩ (s₃.extBut _ _ hil ht₂) (by show h₃.objs.size=hp.objs.size+1;rw[s₃.1,hz₂]) λb o hb e=>s₃.extBut b o hb (hk₂ b o hb e)
 show wpAny _ _ (Il (.ref it)>>=_) _ _ ⟨h₁.push {cls:=.type "tuple",data:=.seq #[es[i].key,es[i].val]},g,dr,tk,os⟩;rw[<-hh₂,hz₁];refine Aa ?_;unfold Il;rcases hown with rfl|⟨a,oa,rfl,ha,hai⟩
 ·refine Aa (B5 he₂ rfl (x:=.none) rfl (Ac ?_));simp only[if_true];refine Aa (B5 he₂ rfl (x:=ok) rfl (Aa (B5 he₂ rfl (x:=ov) rfl ?_)));refine Aa (Co he₂ (by simp) λh₃ he₃ hs₃=>?_)
  replace he₃:h₃.get? it=some (itO .none f d (i+1) es.size ep es[i].key ov):=he₃
  refine Aa (Co he₃ (by simp) λh₄ he₄ hs₄=>?_)
  replace he₄:h₄.get? it=some (itO .none f d (i+1) es.size ep es[i].key es[i].val):=he₄
  refine Aa (Co he₄ (by simp) λh₅ he₅ hs₅=>?_)
  replace he₅:h₅.get? it=some (itO (rawInt hp.objs.size) f d (i+1) es.size ep es[i].key es[i].val):=he₅
  refine Aa (Co he₅ (by simp) λh₆ he₆ hs₆=>?_);exact Aa (Nz (Ac (Ac ⟨_,rfl,Ac (fin h₆ _ false _ _ he₆ (((hs₃.trans hs₄).trans hs₅).trans hs₆) (.inr ⟨_,_,rfl,ht₂,hil⟩))⟩)))
 ·refine Aa (B5 he₂ rfl (x:=rawInt a) rfl ?_);show wpAny _ _ (loadIfAlive ((a:Int).toNat)>>=_) _ _ _;rw[D5];refine Aa (kdx_alive (hk₂ a oa hai ha) ?_);simp only[Po,Ar,if_false];refine Aa (B5 he₂ rfl (x:=.bool f) rfl ?_);cases f with
  |true=>
   rw[if_neg (show¬((Hv true !=Hv true)=true)from Az)];refine Ac ?_;simp only[Ar,if_false];exact Ac (Ac ⟨_,rfl,Ac (fin h₂ _ _ _ _ he₂ (Np _ _) (.inr ⟨a,oa,rfl,hk₂ a oa hai ha,hai⟩))⟩)
  |false=>
   rw[if_pos (show(Hv false !=Hv true)=true from rfl)];refine Aa (Co he₂ (by simp) λh₃ he₃ hs₃=>?_);refine Ac ?_;simp only[Ar,if_false];exact Ac (Ac ⟨_,rfl,Ac (fin h₃ _ true _ _ he₃ hs₃ (.inr ⟨a,oa,rfl,hk₂ a oa hai ha,hai⟩))⟩)
def Jo8{Q:Option Value->Shared->Prop}(hh:A.handled=none)(hst:ItSt s.heap it d i es.size ep)(hm:Raw s.heap d es ep)(hi:es.size<=i)
  (hQ:∀h',Mg it s.heap h'->Q none {s with heap:=h'}):wpAny (model prog w) A (pyNext (.ref it)) Q E s:=by
 obtain⟨own,f,ok,ov,hit,_⟩:=hst;obtain⟨od,hod,_,hdd⟩:=hm;have hT:s.TypeIs (.ref it) "dict_itemiterator":=⟨_,hit,rfl⟩
 unfold pyNext;refine Aa (El (Bv (name:=Ab "__next__") hT C3 (Bg C3 hT Kf ?_ (Jz _))));refine Aa (Ac (Aa (Aa ?_)))
 first|refine Aa (Ff hT (Ac ?_))|refine Aa (Gp hT (Ac ?_))
 refine Aa (Lc hit rfl ?_);rw[if_pos (show B3 "dict_itemiterator"=true by decide)];show wpAny _ _ (if(Aq d==Cf)=true then _ else _) _ _ s;rw[if_neg (show¬((Aq d==Cf)=true)from Az)];refine Aa (Ac (Aa (Bs hod hdd ?_)));rw[if_neg (by simp)];refine Aa (Ac (Aa (Dt hod hdd ?_)));rw[if_neg (by simp)];refine Ac ?_;dsimp only;rw[if_neg (show¬((i:Int)<0) by lia),D5,Oo hi];refine Aa ?_
 first|refine Aa (Ff hT (Ac ?_))|refine Aa (Gp hT (Ac ?_))
 show wpAny _ _ (Rq (.ref it) 2 .none>>=_) _ _ s;refine Aa (Jh hit rfl (by simp) ?_);show wpAny _ _ (Qt (.type "StopIteration") []>>=_) _ _ _;simp only[Qt,newTuple];refine Aa (Aa (Br ?_ (by size_fits)));refine Aa (m:=He _ _) (Ny (a:=Cf) (by first|rfl|(simp only[He];rfl)) ?_);refine Br ?_ (by size_fits);simp only[raiseNew];refine Aa (P0 ?_);rw[show A.in1.handled=none from hh];refine Aa (Ac (Rm ?_));refine Aa (Dy (T:="StopIteration") (b:=true) ⟨_,Aj _ rfl,rfl⟩ O4 ?_);exact Ac (hQ _ (((C1 ..).extBut.push _).push _))
end
noncomputable def W7(e:B6):Obj:={cls:=.type "tuple",data:=.seq #[e.key,e.val]}
structure ItG(es:Array B6)(lo:Addr)(h:Heap)(as:List Addr):Prop where
 above:∀a∈as,lo<a
 pairs:∀(j:Nat) (a:Addr),as[j]? =some a->∃e,es[j]? =some e/\h.get? a=some (W7 e)
section
variable {prog:Program} {w:World} {A:Bl} {E:Value->Shared->Prop} {s:Shared} {r d:Addr} {es:Array B6} {ep:Nat} {R:Lg->Shared->Prop}
def ItSt.keep{h h':Heap}(x:ItSt h it d i n ep)(k:h'.get? it=h.get? it)(k':∀b o,h.get? b=some o->∃o',h'.get? b=some o'):ItSt h' it d i n ep:=by
 obtain⟨own,f,ok,ov,e,o⟩:=x;refine⟨own,f,ok,ov,k.trans e,o.imp id λ⟨a,oa,q1,q2,q3⟩=>?_⟩;obtain⟨o',e'⟩:=k' a oa q2;exact⟨a,o',q1,e',q3⟩
theorem Jkb(hh:A.handled=none)(hSI:S<I)(hSd:d≠S)(hId:d≠I)(hn:es.size<=sizeLine)(res:Value){h₁:Heap}
  (hR:∀h' acc c as,(∀b o,b≠S->b≠I->h₁.get? b=some o->h'.get? b=some o)->h'.get? S=some {cls:=.type "list",dict:=none,data:=.seq acc c,slots:= #[]}->as.length=es.size->ItG es I h' as->acc.toList=as.map Aq->R (.ok (.ret res)) {s with heap:=h'}):
  ∀(k i:Nat) (h:Heap) (c:Nat) (acc:Array Value) (as:List Addr),es.size-i=k->i<=es.size->ItSt h I d i es.size ep->Raw h d es ep->(∀b o,b≠S->b≠I->h₁.get? b=some o->h.get? b=some o)->
   h.get? S=some {cls:=.type "list",dict:=none,data:=.seq acc c,slots:= #[]}->acc.toList=as.map Aq->as.length=i->ItG es I h as->I<h.objs.size->
   Gm (model prog w) A (.builtin "list.extend.loop" ⟨[.ref S,.ref I,res],[]⟩) R {s with heap:=h}:=by
 have hne:S≠I:=As hSI;intro k
 induction k with
 |zero=>
  intro i h c acc as hk hi hst hD hkeep hS hacc hal hG hIs;refine De Mo ?_;rw[Cz Ek _];show wpAny _ A.in1 (pyNext (.ref I)>>=_) _ _ _;refine Aa (Jo8 (s:={s with heap:=h}) (A:=A.in1) hh hst hD (by lia) λh' he=>?_);refine Ac (hR h' acc c as (λb o h1 h2 e=>he b o h2 (hkeep b o h1 h2 e)) (he S _ hne hS) (by lia) ⟨hG.above,λj a hj=>?_⟩ hacc);obtain⟨e,e1,e2⟩:=hG.pairs j a hj;exact⟨e,e1,he a _ (Cj (hG.above a (Ba hj))) e2⟩
 |succ k ih=>
  intro i h c acc as hk hi hst hD hkeep hS hacc hal hG hIs;have hlt:i<es.size:=by lia
  have hsz:acc.size=i:=by rw[<-Bz,hacc,Ah,hal]
  refine De Mo ?_;rw[Cz Ek _];show wpAny _ A.in1 (pyNext (.ref I)>>=_) _ _ _;refine Aa (next_item (s:={s with heap:=h}) hst hD hlt λh' hst' ht hz hkp=>?_);dsimp only at ht hz hkp ⊢;have hS':=hkp S _ hne hS;have up:∀b o,b≠S->h'.get? b=some o->(h'.update S (Dm (·.push (Aq h.objs.size)))).get? b=some o:=λb o hb e=>(Ee _ _ (Eb hb)).trans e;have hSl:S<h.objs.size:=Am hS;have hS2:=Cp (Dm (·.push (Aq h.objs.size))) hS' rfl;show wpAny _ A.in1 (updateSeq S (·.push (Aq h.objs.size))>>=_) _ _ _;refine Aa ?_;refine Oc hS' rfl (Ac ⟨F2 Ek _,ih (i+1) _ _ (acc.push (Aq h.objs.size)) (as++[h.objs.size]) (by lia) hlt
   (hst'.keep (Ee _ _ hne) λb o e=>?_) (hD.keep λo e=>up d o hSd (hkp d o hId e))
   (λb o h1 h2 e=>up b o h1 (hkp b o h2 (hkeep b o h1 h2 e))) hS2 (by rw[Qo,hacc,Es];rfl) (by rw[Bf,hal];rfl) ⟨?_,?_⟩ ?_⟩) (by rw[hsz];lia) (by show(acc.push (Aq h.objs.size)).size<=sizeLine+1;rw[Array.size_push,hsz];lia)
  ·by_cases hb:b=S
   ·subst hb;exact⟨_,hS2⟩
   ·exact⟨o,up b o hb e⟩
  ·intro a ha;rcases Bt.mp ha with ha|ha
   ·exact hG.above a ha
   ·rw[Av.mp ha];exact hIs
  ·intro j b hj;rcases Jd j as.length with h1|h1|h1
   ·rw[A0 h1]at hj;obtain⟨e,e1,e2⟩:=hG.pairs j b hj;have hb:=hG.above b (Ba hj);exact⟨e,e1,up b _ (Cj (Ez hSI hb)) (hkp b _ (Cj hb) e2)⟩
   ·subst h1;have hb:h.objs.size=b:=by simpa using hj
    subst hb;exact⟨es[i],by rw[hal];exact Bo hlt,up _ _ (Cj hSl) ht⟩
   ·have hnone:(as++[h.objs.size])[j]? =none:=G9 (by rw[Bf,Dr];lia);rw[hnone]at hj;cases hj
  ·have e:(h'.update S (Dm (·.push (Aq h.objs.size)))).get? h.objs.size=_:=up _ _ (Cj hSl) ht;exact Ez hIs (Am e)
def Jj9{Q:Value->Shared->Prop}(hv:s.heap.IsItemsView r d)(hm:Raw s.heap d es ep)
  (h:Q (.ref s.heap.objs.size) {s with heap:=s.heap.push (itO .none false d 0 es.size ep .none .none)}):wpAny (model prog w) A (pyIter (.ref r)) Q E s:=by
 obtain⟨ov,hov,hcv,hdv⟩:=id hv;obtain⟨o,ho,hc,hdat⟩:=id hm;refine Mu hv.typeIs L4 (Bg L4 hv.typeIs PySem.F.entry_dict_items_iter ?_ (PySem.F.args_dict_items_iter_1 _));unfold Builtin.«dict_items.__iter__» Kg Jo;refine Aa (Ac (Aa (Aa (B5 hov hdv (x:=.ref d) rfl (Ac (Aa ?_))))));refine Aa (Bs ho hdat (Aa (Dt ho hdat ?_)));simp only[show B3 "dict_itemiterator"=true by decide,if_true];refine Br (Ac ⟨_,rfl,"dict_itemiterator",_,⟨_,Aj _ rfl,rfl⟩,C3.lookup,?_⟩)
  (by simp only[sizeOk,Im,Ap,Bf,A7,Et,G4];lia)
 simpa [rawInt,itO,Im]using h
inductive Got (s:Shared) (es:Array B6) (res:Lg) (s':Shared):Prop
 |mk (h' acc c as) (_:res=.ok (.ret (.ref s.heap.objs.size))) (_:s'={s with heap:=h'}) (_:(∀b o,s.heap.get? b=some o->h'.get? b=some o)) (_:h'.get? s.heap.objs.size=some {cls:=.type "list",dict:=none,data:=.seq acc c,slots:= #[]}) (_:as.length=es.size) (_:ItG es s.heap.objs.size h' as) (_:acc.toList=as.map Aq):Got s es res s'
def Jf1{Q:List Value->Shared->Prop}(hh:A.handled=none)(hv:s.heap.IsItemsView r d)(hm:Raw s.heap d es ep)(hn:es.size<=sizeLine)
  (h:∀(h':Heap) (as:List Addr),(∀b o,s.heap.get? b=some o->h'.get? b=some o)->s.heap.objs.size<=h'.objs.size->as.length=es.size->ItG es s.heap.objs.size h' as->Q (as.map Aq) {s with heap:=h'}):
  wpAny (model prog w) A (collect (.ref r)) Q E s:=by
 have hr:r<s.heap.objs.size:=let⟨_,ho,_⟩:=hv;Am ho;have hd:d<s.heap.objs.size:=let⟨_,ho,_,_⟩:=hm;Am ho;unfold collect;refine Aa (O1 (De R5 ?_));rw[Cz PySem.F.plain_proto_collect _];show wpAny _ A.in1 (newList []>>=λl=>again (.builtin "list.__iadd__" ⟨[l,.ref r],[]⟩)) _ _ s;refine Aa (Br ?_);refine Ac ⟨F2 M8 _,De entry_list_iadd' ?_⟩;rw[Cz M8 _];obtain⟨h1,e1⟩:∃h1,h1=s.heap.push {cls:=.type "list",data:=.seq ([]:List Value).toArray}:=⟨_,rfl⟩
 have hS₁:h1.get? s.heap.objs.size=some {cls:=.type "list",data:=.seq #[]}:=by rw[e1];exact Aj _ rfl
 have k1:∀b o,s.heap.get? b=some o->h1.get? b=some o:=λb o e=>by rw[e1];exact Ad _ e
 have hv1:h1.IsItemsView r d:=let⟨o,ho,x⟩:=hv;⟨o,k1 _ _ ho,x⟩;have lt1:s.heap.objs.size<h1.objs.size:=by rw[e1,Cd];exact Dg _
 show wpAny _ A.in1 (K5 (.ref s.heap.objs.size) (.ref r) (.ref s.heap.objs.size)) _ _ {s with heap:=s.heap.push {cls:=.type "list",data:=.seq ([]:List Value).toArray}};rw[<-e1];unfold K5;refine Aa (Fq (T:="dict_items") (Sg (s:={s with heap:=h1}) hv1) ?_);simp only[show Lq (.ref s.heap.objs.size) (.ref r)=false by simp[Lq,Cj hr],show(D1 "dict_items"==D1 "list")=false by decide,show(D1 "dict_items"==D1 "tuple")=false by decide,Bool.or_false,Ar,if_false];refine Aa (Jj9 (s:={s with heap:=h1}) hv1 (hm.keep λo e=>k1 _ _ e) ?_);have hS₂:=Ad (itO .none false d 0 es.size ep .none .none) hS₁;have key:∀(h2:Heap) (c₁:Nat),(∀b o,b≠s.heap.objs.size->(h1.push (itO .none false d 0 es.size ep .none .none)).get? b=some o->h2.get? b=some o)->h2.get? s.heap.objs.size=some {cls:=.type "list",data:=.seq #[] c₁}->
   Gm (model prog w) A (.builtin "list.extend.loop" ⟨[.ref s.heap.objs.size,.ref h1.objs.size,.ref s.heap.objs.size],[]⟩) (Got s es) {s with heap:=h2}:=λh2 c₁ k2 g2=>by
  have hI:=k2 h1.objs.size _ (Cj lt1) (Aj _ rfl);refine Jkb (S:=s.heap.objs.size) (I:=h1.objs.size) (d:=d) (s:=s) (h₁:=s.heap) (es:=es) (ep:=ep) hh lt1 (As hd) (As (Ez hd lt1)) hn _ (λh' acc c as kp e l g q=>⟨h',acc,c,as,rfl,rfl,λb o x=>kp b o (As (Am x)) (As (Ez (Am x) lt1)) x,e,l,⟨λa ha=>Ez lt1 (g.above a ha),g.pairs⟩,q⟩)
   es.size 0 h2 c₁ #[] [] (H9 _) (Cr _) ⟨.none,false,.none,.none,hI,.inl rfl⟩ (hm.keep λo e=>k2 d o (As hd) (Ad _ (k1 _ _ e))) (λb o hb _ e=>k2 b o hb (Ad _ (k1 _ _ e))) g2 rfl rfl
   ⟨(λ_ ha=>nomatch ha),(λj a hj=>by simp at hj)⟩ (Am hI)
 refine Aa (Bi (kdx_hint (let⟨o,ho,hc,_⟩:=hv1;⟨o,Ad _ ho,hc⟩) ?_));have fin:∀(h':Heap) (acc:Array Value) (c:Nat) (as:List Addr),(∀b o,s.heap.get? b=some o->h'.get? b=some o)->h'.get? s.heap.objs.size=some {cls:=.type "list",dict:=none,data:=.seq acc c,slots:= #[]}->as.length=es.size->ItG es s.heap.objs.size h' as->acc.toList=as.map Aq->
   wpAny (model prog w) A (load s.heap.objs.size>>=λo=>match o.data with|.seq xs _=>(pure xs.toList:Sem (List Value))|_=>unsupported "internal:collect") Q E {s with heap:=h'}:=λh' acc c as hk hS' hl hG hacc=>by
  refine Aa (Mf hS' (Ac ?_));show Q acc.toList _;rw[hacc];exact h h' as hk (Eg (Am hS')) hl hG
 refine wpAny_ite_split (λ_=>?_) (λ_=>Ac ⟨F2 Ek _,Ft (key _ 0 (λb o _ e=>e) hS₂) ?_⟩)
 ·refine Aa (Fs (Aa ?_));show wpAny _ _ (updateSeq s.heap.objs.size (·.push .none)>>=λ_=>updateSeq s.heap.objs.size (·.pop)) _ _ _;refine Aa (Oc hS₂ rfl ?_);have hS₃:=Cp (Dm (·.push Cf)) hS₂ rfl;refine Oc (hz:=by seq_fits) hS₃ rfl ?_;have hS₄:=Cp (Dm (·.pop)) hS₃ rfl;refine Ac ⟨F2 Ek _,Ft (key _ _ (λb o hb e=>(Ee _ _ (Eb hb)).trans ((Ee _ _ (Eb hb)).trans e)) hS₄) ?_⟩;rintro q s₂ ⟨h',acc,c,as,rfl,rfl,a1,a2,a3,a4,a5⟩;exact fin h' acc c as a1 a2 a3 a4 a5
 ·rintro q s₂ ⟨h',acc,c,as,rfl,rfl,a1,a2,a3,a4,a5⟩;exact fin h' acc c as a1 a2 a3 a4 a5
end
open PySem PySem.Spec PyProof.Rows PySem.F PySem.W Rdc
section
variable {prog:Program} {w:World} {A:Bl} {E:Value->Shared->Prop} {s:Shared} {r d:Addr} {es:Array B6} {ep:Nat}
def IK2.tup{k:PK}(x:IK2 prog w h k b):∃t u,IsTup h b #[.int k.1 t,.int k.2 u]:=by
 obtain⟨o,its,n,h1,h2,h3,h4⟩:=x;obtain⟨t,u,rfl⟩:=Jdt h4;exact⟨t,u,o,h1,h2,n,h3⟩
def Jom{e e':B6}{Q:Bool->Shared->Prop}(hu:A.units<C0)(hx:s.heap.get? x=some (W7 e'))(hy:s.heap.get? y=some (W7 e))(eb:e'.key=.ref b)(ec:e.key=.ref c)
  (hb:IK2 prog w s.heap l b)(hc:IK2 prog w s.heap k c)(hl:ltP k l=true)(h:Q false s):wpAny (model prog w) A (keyLt' (tuples' false) (.ref x) (.ref y)) Q (λ_ _=>False) s:=by
 have hne:decide ([l.1,l.2]=[k.1,k.2])=false:=by
  have:=Vz.mp hl;simp;omega
 have hlt:ltP l k=false:=by
  cases q:ltP l k with
  |false=>rfl
  |true=>have:=Vz.mp hl;have:=Vz.mp q;omega
 obtain⟨t,u,tb⟩:=hb.tup;obtain⟨t',u',tc⟩:=hc.tup;refine kat_lt hx rfl hy rfl (kat_cons ?_);rw[eb,ec];refine Tg (knd:=intKind prog w) hu hb hc ?_;rw[hne];refine kat_no ?_;refine kat_one _ _ ?_;exact LR.Jss tb tc hu (by rw[show LR.ltZ l.1 l.2 k.1 k.2=false from hlt];exact h)
theorem Yg{h:Heap}:∀{as:List Addr} {n:Nat},(∀(j:Nat) (a:Addr),as[j]? =some a->∃e,es[n+j]? =some e/\h.get? a=some (W7 e))->(∀e∈es.toList,∃b,e.key=.ref b/\∃o,h.get? b=some o/\o.cls=.type "tuple")->
  ∃fs,KatTups h (as.map Aq) fs/\fs.length=as.length/\∀f∈fs,∃b,f=.ref b/\∃o,h.get? b=some o/\o.cls=.type "tuple"
 |[],_,_,_=>⟨[],trivial,rfl,λ_ h=>nomatch h⟩
 |a::as,n,hp,hk=>by
  obtain⟨fs,h1,h2,h3⟩:=Yg (as:=as) (n:=n+1) (λj b e=>by rw[show n+1+j=n+(j+1) by lia];exact hp (j+1) b e) hk;obtain⟨e,e1,e2⟩:=hp 0 a rfl;refine⟨e.key::fs,Ry e2 rfl rfl rfl h1,by simp[h2],λf hf=>?_⟩;rcases An.mp hf with rfl|hf
  ·exact hk e (C7.mpr (Jy e1))
  ·exact h3 f hf
def Jdm{pk:Value->PK}{Q:Value->Shared->Prop}(hh:A.handled=none)(hu:A.units+8<C0)(hv:s.heap.IsItemsView r d)(hm:Raw s.heap d es ep)(hz:es.size<sizeLine)
  (hk:∀e∈es.toList,∃b,e.key=.ref b/\IK2 prog w s.heap (pk e.key) b)(up:∀i e e',es[i]? =some e->es[i+1]? =some e'->ltP (pk e.key) (pk e'.key)=true)
  (h:∀(h':Heap) (l:Addr) (c:Nat) (as:List Addr),(∀b o,s.heap.get? b=some o->h'.get? b=some o)->s.heap.objs.size<=l->h'.get? l=some (seqObj "list" (as.map Aq).toArray c)->as.length=es.size->
   (∀(j:Nat) (a:Addr),as[j]? =some a->s.heap.objs.size<a/\a≠l/\∃e,es[j]? =some e/\h'.get? a=some (W7 e))->Q (.ref l) {s with heap:=h'}):
  wpAny (model prog w) A (call (.builtin "sorted") [.ref r]) Q E s:=by
 refine Nc kind_sorted plain_sorted entry_sorted (args_sorted1 _) ?_;unfold Builtin.«sorted»;refine Aa (m:=checkCount "sorted" 1 1 _) (Ac ?_);refine Aa (Jf1 (by simp[hh]) hv hm (Eg hz) λh' as kp hsz hl hG=>?_);have hlen:(as.map Aq).length=es.size:=by rw[Ah];exact hl
 refine Aa (L8 ?_ (by rw[hlen];lia));have ho:(h'.push (seqObj "list" (as.map Aq).toArray 0)).get? h'.objs.size=some (seqObj "list" (as.map Aq).toArray 0):=Aj _ rfl;have kp2:∀b o,h'.get? b=some o->b≠h'.objs.size/\(h'.push (seqObj "list" (as.map Aq).toArray 0)).get? b=some o:=λb o e=>
  ⟨As (Am e),Ad _ e⟩
 refine Aa (Bi (Bg Ov ⟨_,ho,rfl⟩ Oh (Jkw (s:={s with heap:=h'.push (seqObj "list" (as.map Aq).toArray 0)}) (κ:=tuples' false) ho (by rw[hlen];exact hz)
  (λh1 k1 z Q q=>?kind) (λh1 k1 i x y ex ey Q q=>?up) ⟨_,rfl,?fin⟩) (args_list_sort _)))
 case kind=>
  have k3:∀b o,h'.get? b=some o->h1.get? b=some o:=λb o e=>k1 b o (kp2 b o e).1 (kp2 b o e).2;obtain⟨fs,f1,f2,f3⟩:=Yg (es:=es) (h:=h1) (as:=as) (n:=0) (λj a e=>by
   obtain⟨q,q1,q2⟩:=hG.pairs j a e;exact⟨q,by rw[Fg];exact q1,k3 _ _ q2⟩) λe he=>by
    obtain⟨b,eb,o,_,_,g1,g2,_⟩:=hk e he;exact⟨b,eb,o,k3 _ _ (kp _ _ g1),g2⟩
  refine kat_kind (s:={s with heap:=h1}) (T:=.type "tuple") f1 (by rw[f2,hl];lia) (λv hv=>?_) (by decide) (by rw[show(D1 "tuple" !=D1 "tuple")=false by decide];exact q);obtain⟨b,rfl,o,g1,g2⟩:=f3 v hv;exact λA' Q' E' s' kk qq=>Fq ⟨o,kk _ _ g1,g2⟩ qq
 case up=>
  have k3:∀b o,h'.get? b=some o->h1.get? b=some o:=λb o e=>k1 b o (kp2 b o e).1 (kp2 b o e).2;rw[Ao,Ak]at ex ey;obtain⟨a,ea,rfl⟩:=ex;obtain⟨b,eb,rfl⟩:=ey;obtain⟨e',g1,g2⟩:=hG.pairs _ _ ea;obtain⟨e,g3,g4⟩:=hG.pairs _ _ eb;obtain⟨b1,q1,q2⟩:=hk e' (C7.mpr (Jy g1));obtain⟨b2,q3,q4⟩:=hk e (C7.mpr (Jy g3));exact Jom (s:={s with heap:=h1}) (by simp;lia) (k3 _ _ g2) (k3 _ _ g4) q1 q3 (q2.keep λo e=>k3 _ _ (kp _ _ e)) (q4.keep λo e=>k3 _ _ (kp _ _ e)) (up i e e' g3 g1) q
 case fin=>
  obtain⟨c,hc⟩:=sortedHeap_at (out:=(as.map Aq).toArray) ho;have old:∀b o,h'.get? b=some o->(sortedHeap (h'.push (seqObj "list" (as.map Aq).toArray 0)) h'.objs.size (as.map Aq) (as.map Aq).toArray).get? b=some o:=λb o e=>by
   rw[sortedHeap_old (kp2 b o e).1 (Am (kp2 b o e).2)];exact(kp2 b o e).2
  refine Ac ⟨_,rfl,h _ _ c as (λb o e=>old b o (kp b o e)) hsz hc hl λj a e=>?_⟩;obtain⟨q,q1,q2⟩:=hG.pairs j a e;exact⟨hG.above a (Ba e),(kp2 _ _ q2).1,q,q1,old _ _ q2⟩
end
open PySem
def Js3:typeLookup (.type "list") "keys"=pure none:=by rw[typeLookup_type,builtinLookup_eq_fast];kernel_rfl
section
variable {prog:Program} {w:World} {A:Bl} {E:Value->Shared->Prop} {s:Shared} {a:Addr} {xs:Array Value} {k:Nat}
def Jsy{Q:Option Value->Shared->Prop}(ho:s.heap.get? a=some {cls:=.type "list",data:=.seq xs k})(hA:A.handled=none)
  (h:∀h' tk,(∀b o,s.heap.get? b=some o->h'.get? b=some o)->Q none {s with heap:=h',toks:=tk}):wpAny (model prog w) A (getAttr? (.ref a) "keys") Q E s:=by
 obtain⟨hp,g,d,tk,os⟩:=s;have hT:∀s':Shared,s'.heap.get? a=some {cls:=.type "list",data:=.seq xs k}->s'.TypeIs (.ref a) "list":=λ_ e=>⟨_,e,rfl⟩
 have hT0:Eu ⟨hp,g,d,tk,os⟩ (.ref a) "list":=⟨_,ho,rfl⟩
 have f1:=sub_AttributeError;have f3:=Js.lookup;have f4:=Js.bind (.ref a);have f5:=am_list_getattr_none;unfold getAttr? getAttrBy? getAttrBy
 repeat (any_goals (first|assumption|((with_reducible show wpAny _ _ (call (Sf "list.__getattribute__") _ _) _ _ _);refine O7 Js (hT _ ho) am_entry_list_getattribute (F.args_list_getattribute_2 _ _) (meets_getattribute_miss_list a xs k #[] "keys" _ Js3 (by decide) (by size_fits)) ?_)|wp_step))
 refine⟨ho,hA,λh' tk' e hx'=>?_⟩;obtain⟨t',u',he⟩:=hx'.there;show wpAny _ _ (Tq _ _ _ _ _ _ _) _ _ _;unfold Tq
 repeat (any_goals (first|assumption|wp_step))
 exact h _ _ hx'.keeps
end
open PySem PyProof.Rows
def Jw8:entryFor table "dict.update.loop"=some Builtin.«dict.update.loop»:=entryFor_of_tree (by kernel_rfl)
def Jof:plainId "dict.update.loop"=true:=by decide+kernel
section
variable {prog:Program} {w:World} {K:Type} [DecidableEq K] {knd:Ke prog w K} {A:Bl} {E:Value->Shared->Prop} {s:Shared} {R:Lg->Shared->Prop} {xs:List (K×Addr×Value)} {as:List Addr}
noncomputable def Y4(b:Addr)(v:Value):Obj:={cls:=.type "tuple",data:=.seq #[.ref b,v]}
def Prs(knd:Ke prog w K)(h:Heap)(as:List Addr)(xs:List (K×Addr×Value)):Prop:=as.length=xs.length/\∀(j:Nat) (a:Addr) (x:K×Addr×Value),as[j]? =some a->xs[j]? =some x->h.get? a=some (Y4 x.2.1 x.2.2)/\knd.is h x.1 x.2.1
theorem Jng(hh:A.handled=none)(hr:knd.room A.in1)(hz:xs.length<=sizeLine)(kk:∀{h h':Heap} {k:K} {b:Addr},knd.is h k b->(∀o,h.get? b=some o->h'.get? b=some o)->knd.is h' k b)
  (hP:Prs knd s.heap as xs)(hn:(xs.map (·.1)).Nodup)(hl:s.heap.IsList l (as.map Aq).toArray)(hp:s.heap.get? p=none)(hi:s.heap.get? it=none)(hpi:p≠it)
  (hR:∀h' tk,(∀b o,s.heap.get? b=some o->h'.get? b=some o)->h'.DictOfH knd p xs->R (.ok (.ret .none)) {s with heap:=h',toks:=tk}):
  ∀(n i:Nat) (h:Heap) (tk:Nat),xs.length-i=n->i<=xs.length->(∀b o,s.heap.get? b=some o->h.get? b=some o)->h.IsListIter it l i->h.DictOfH knd p (xs.take i)->
   Gm (model prog w) A (.builtin "dict.update.loop" ⟨[.ref p,.ref it,rawInt i,.none],[]⟩) R {s with heap:=h,toks:=tk}:=by
 have old:∀b o,s.heap.get? b=some o->b≠p/\b≠it:=λb o e=>⟨(λq=>by rw[q,hp]at e;exact nomatch e),(λq=>by rw[q,hi]at e;exact nomatch e)⟩
 have hlk:∀h:Heap,(∀b o,s.heap.get? b=some o->h.get? b=some o)->h.IsList l (as.map Aq).toArray:=λh k=>let⟨o,e,r⟩:=hl;⟨o,k _ _ e,r⟩;intro n
 induction n with
 |zero=>
  intro i h tk hk hi' hkeep hit hD;refine De Jw8 ?_;rw[Cz Jof _];show wpAny _ A.in1 (pyNext (.ref it)>>=_) _ _ _;refine Aa (Q9 (s:={s with heap:=h,toks:=tk}) (A:=A.in1) hh hit (hlk h hkeep) (by simp[hP.1];lia) λh' he=>?_);dsimp only;refine Aa (Ac (Ac (hR h' tk (λb o e=>he b o (old b o e).2 (hkeep b o e)) ?_)));obtain⟨o,es,ep,q1,q2,q3,q4,q5,q6⟩:=hD;have ei:xs.take i=xs:=Ef (by lia);rw[ei]at q4 q5 q6;refine⟨o,es,ep,he p o hpi q1,q2,q3,q4,λx hx=>?_,q6⟩;obtain⟨j,hj⟩:=Fp.mp hx;have hjl:j<as.length:=by rw[hP.1];exact(Ae.mp hj).1
  exact kk (hP.2 j _ x (Ag hjl) hj).2 λo' e'=>he _ _ (old _ _ e').2 (hkeep _ _ e')
 |succ n ih=>
  intro i h tk hk hi' hkeep hit hD;have hlt:i<xs.length:=by lia
  have hja:i<as.length:=by rw[hP.1];exact hlt
  obtain⟨x,hx⟩:∃x,xs[i]? =some x:=⟨_,Ag hlt⟩
  obtain⟨g1,g2⟩:=hP.2 i _ x (Ag hja) hx;refine De Jw8 ?_;rw[Cz Jof _];show wpAny _ A.in1 (pyNext (.ref it)>>=_) _ _ _;refine Aa (Qq (s:={s with heap:=h,toks:=tk}) (A:=A.in1) hit (hlk h hkeep) (x:=.ref as[i]) (by simp[hja]) λh' hit' hs'=>?_);have k':∀b o,s.heap.get? b=some o->h'.get? b=some o:=λb o e=>(hs'.2 b (old b o e).2).trans (hkeep b o e);have hD':h'.DictOfH knd p (xs.take i):=by
   obtain⟨o,es,ep,q1,q2,q3,q4,q5,q6⟩:=hD;refine⟨o,es,ep,(hs'.2 p hpi).trans q1,q2,q3,q4,λy hy=>?_,q6⟩;obtain⟨j,hj⟩:=Fp.mp (Kl hy);have hjl:j<as.length:=by rw[hP.1];exact(Ae.mp hj).1
   exact kk (hP.2 j _ y (Ag hjl) hj).2 λo' e'=>k' _ _ e'
  dsimp only;refine Aa (Bi (Aa ?_));have hg:h'.get? as[i]=some (Y4 x.2.1 x.2.2):=k' _ _ g1;have hti:Eu {s with heap:=h',toks:=tk} (.ref as[i]) "tuple":=⟨_,hg,rfl⟩
  refine wpAny_tryCatch ?_;unfold Builtin.Dict.pairItems;refine Aa (Fq hti ?_);rw[if_pos (by decide)];refine Aa (D6 hg rfl (Ac ?_));show wpAny _ _ (holding [.ref x.2.1,x.2.2] (dictSet p (.ref x.2.1) x.2.2)) _ _ _;have hkx:knd.is h' x.1 x.2.1:=kk g2 λo' e'=>k' _ _ e';have hnew:Gq (xs.take i) x.1=none:=by
   refine M0 λj q hj=>?_;have hj':xs[j]? =some (x.1,q):=by
    by_cases hji:j<i
    ·rwa[Gj hji]at hj
    ·rw[Nf (by lia)]at hj;exact nomatch hj
   have:=idxH_unique hn hj' (show xs[i]? =some (x.1,x.2)from hx);subst this;rw[Nf (Ai _)]at hj;exact nomatch hj
  refine Bi (wpAny_dictSet_heap (s:={s with heap:=h',toks:=tk}) hr hkx hD' (λh'' hD'' hs''=>?_) (hsz:=by simp;lia));rw[storedH_new hnew]at hD'';have etake:xs.take i++[(x.1,x.2.1,x.2.2)]=xs.take (i+1):=by
   rw[D2,hx];rfl
  rw[etake]at hD'';have hk'':∀b o,s.heap.get? b=some o->h''.get? b=some o:=λb o e=>(hs''.2 b (old b o e).1).trans (k' b o e);have hit'':h''.IsListIter it l (i+1):=let⟨o,e,r⟩:=hit';⟨o,(hs''.2 it (Eb hpi)).trans e,r⟩;exact Ac ⟨F2 Jof _,ih (i+1) h'' _ (by lia) (by lia) hk'' hit'' hD''⟩
def Jki{Q:Value->Shared->Prop}(hh:A.handled=none)(hr:knd.room A.in1.in1)(hz:xs.length<=sizeLine)(kk:∀{h h':Heap} {k:K} {b:Addr},knd.is h k b->(∀o,h.get? b=some o->h'.get? b=some o)->knd.is h' k b)
  (hP:Prs knd s.heap as xs)(hn:(xs.map (·.1)).Nodup)(hl:s.heap.get? l=some (seqObj "list" (as.map Aq).toArray c))
  (h:∀h' tk,(∀b o,s.heap.get? b=some o->h'.get? b=some o)->h'.DictOfH knd s.heap.objs.size xs->Q (.ref s.heap.objs.size) {s with heap:=h',toks:=tk}):wpAny (model prog w) A (call (.type "dict") [.ref l]) Q E s:=by
 refine callType_codes (Q₁:=λobj s₁=>obj=.ref s.heap.objs.size/\s₁={s with heap:=s.heap.push {cls:=.type "dict",data:=.dict #[]}}) T2 (Qz _) Sh (kt_code_dict_new _ ⟨rfl,rfl⟩) ?_;rintro obj s₁ ⟨rfl,rfl⟩;obtain⟨h1,e1⟩:∃h1,h1=s.heap.push {cls:=.type "dict",data:=.dict #[]}:=⟨_,rfl⟩
 rw[<-e1];have hnew:h1.get? s.heap.objs.size=some {cls:=.type "dict",data:=.dict #[]}:=by rw[e1];exact Aj _ rfl
 have k1:∀b o,s.heap.get? b=some o->h1.get? b=some o:=λb o e=>by rw[e1];exact Ad _ e
 have tN:Eu {s with heap:=h1} (.ref s.heap.objs.size) "dict":=⟨_,hnew,rfl⟩
 have tL:Eu {s with heap:=h1} (.ref l) "list":=⟨_,k1 _ _ hl,rfl⟩
 refine⟨tN,R1 _ _,?_⟩;unfold Builtin.«dict.__init__»;refine Aa ?_;unfold Lr;refine Aa (Dv tN ?_);show wpAny _ _ (pure (s.heap.objs.size,[Aq l])) _ _ _;refine Ac ?_;show wpAny _ _ (F3 "dict.__init__" s.heap.objs.size (.ref l) [] .none) _ _ _;unfold F3;refine Aa (Fq tL ?_);rw[if_pos (by decide)];refine Aa (Jsy (s:={s with heap:=h1}) (k1 _ _ hl) (by simp[hh]) λh2 t2 k2=>?_);dsimp only at k2 ⊢;rw[if_pos (by rfl)];have k12:∀b o,s.heap.get? b=some o->h2.get? b=some o:=λb o e=>k2 b o (k1 b o e);refine Aa (Fs (Aa (F4 (s:={s with heap:=h2,toks:=t2}) ⟨_,k12 _ _ hl,rfl,_,rfl⟩ ?_)));have n2:=k2 _ _ hnew;have z2:s.heap.objs.size<h2.objs.size:=Am n2;refine Ac ⟨F2 Jof _,?_⟩;refine Jng (s:=s) (p:=s.heap.objs.size) (it:=h2.objs.size) (l:=l) (as:=as) (xs:=xs) (by simp[hh]) hr hz kk hP hn ⟨_,hl,rfl,_,rfl⟩ (Ki (Ai _)) (Ki (Eg z2)) (As z2)
  (λh' tk kp dd=>⟨rfl,h h' tk kp dd⟩) xs.length 0 _ _ (H9 _) (Cr _) (λb o e=>Ad _ (k12 b o e)) ⟨_,Aj _ rfl,rfl,rfl⟩ ?_
 exact⟨_,#[],0,Ad _ n2,⟨rfl,rfl,rfl⟩,rfl,rfl,(λx hx=>by simp at hx),by simp⟩
end
end Rdu
namespace L2
open PySem PySem.W PySem.Spec PyProof.Rows Rdc Rdu
theorem KT.drop(r:KT H kvs xs)(k:List Key):KT H (Wt kvs k) (We xs k):=by
 induction r with
 |nil=>exact .nil
 |@cons p q ps qs hq t ih=>
  unfold Wt We at ih ⊢;rw[E7,E7,hq.1]
  by_cases e:q.1=k
  ·rw[if_neg (by simpa using e),if_neg (by simpa using e)];exact ih
  ·rw[if_pos (by simpa using e),if_pos (by simpa using e)];exact .cons hq ih
theorem KT.keys{kvs:List (List Key×V)}{xs:List (List Key×Addr×Value)}(r:KT H kvs xs):xs.map (·.1)=kvs.map (·.1):=by
 induction r with
 |nil=>rfl
 |cons hq _ ih=>rw[Aw,Aw,ih,hq.1]
section
variable {X:Cx} {pins:List (Addr×Obj)} {U:St} {H:Hp} {s:Shared} {a b:Addr} {kvs:List (List Key×V)} {k:List Key} {A:Bl} {E:Value->Shared->Prop}
def Jxh{Q:Value->Shared->Prop}(hu:A.units+2<C0)(I:Inv X pins U H s)(e:H a=some (.dT kvs))(eb:H b=some (.tup (k.map kV)))(l:Vr kvs k=some v)
  (h:∀w' s',Inv X pins U (upd H a (.dT (Wt kvs k))) s'->RelV v w'->Q w' s'):wpAny (model X.prog X.w) A (call (.builtin "dict.pop") [.ref a,.ref b]) Q E s:=by
 obtain⟨z,hd,xs,rel,dd⟩:=Jtk I.hok e;obtain⟨w',hw,rw'⟩:=RelO.some_of (v:=v) (o:=(Gq xs k).map (·.2)) (by rw[<-l];exact rel.val k);obtain⟨p,hp,hp2⟩:=Ak.mp hw;refine Qu N6 dd.typeIs PySem.F.entry_dict_pop (PySem.F.args_dict_pop_2 _ _) (Jj3 (tupleKind (mixKind X.prog X.w)) a b)
  ⟨Di (by lia),k,xs,p,Jeg I.hok eb,dd,hp,by rw[<-Ce rel];exact z,λh' dd' hs=>?_⟩
 rw[hp2];refine h w' _ ?_ rw';obtain⟨q,es,ep,hq,h2,h3,h4,_,h5⟩:=dd';refine Jgc I (by rw[e];exact E1) hs ⟨q,hq⟩ ⟨Bw (Jpa kvs k) z,hd,_,(rel.drop k).keeps λc ys ec=>?_,q,es,ep,hq,h2,h3,h4,h5⟩;rw[Jac (Je1 ec e (λz=>nomatch z))];exact ec
def Apart(P:Program)(w:World)(kvs:List (List Key×V)):Prop:=(kvs.map λkv=>(tupleKind (mixKind P w)).hash kv.1).Nodup
def Jpm{xs:List (List Key×Addr×Value)}{es:Array B6}(he:es.toList=xs.map (entryOfKey (tupleKind (mixKind P w))))(hn:(xs.map λx=>(tupleKind (mixKind P w)).hash x.1).Nodup):
  ∀e∈es,(es.filter (·.hash==e.hash)).size<=1:=by
 intro e _;have hn':(es.toList.map (·.hash)).Nodup:=by rw[he,B1];exact hn
 have key:∀l:List B6,(l.map (·.hash)).Nodup->(l.filter (·.hash==e.hash)).length<=1:=by
  intro l
  induction l with
  |nil=>intro _;exact Cr _
  |cons x l ih=>
   intro hl;rw[Aw,Cm]at hl;rw[E7];split
   ·rename_i hx;have:l.filter (·.hash==e.hash)=[]:=by
     rw[Oz];intro y hy hy';refine hl.1 (Bd.mpr ⟨y,hy,?_⟩);rw[eq_of_beq hy',eq_of_beq hx]
    rw[this];exact Ai _
   ·exact ih hl.2
 have:=key es.toList hn';rw[<-Bz,Array.toList_filter];exact this
def Jtm{Q:Value->Shared->Prop}(I:Inv X pins U H s)(e:Rd H a (.dT kvs))(ap:Apart X.prog X.w kvs)(h:∀p s',H p=none->Inv X pins U (upd H p (.dT kvs)) s'->Q (.ref p) s'):wpAny (model X.prog X.w) A (call (.type "dict") [.ref a]) Q E s:=by
 obtain⟨z,hd,xs,rel,o,es,ep,h1,h2,h3,h4,h5,h6⟩:=Jdp I.hok e;have hx:(xs.map λx=>(tupleKind (mixKind X.prog X.w)).hash x.1)=kvs.map λkv=>(tupleKind (mixKind X.prog X.w)).hash kv.1:=by
  have:=congrArg (Nd λk=>(tupleKind (mixKind X.prog X.w)).hash k) rel.keys;rw[B1,B1]at this;exact this
 refine Jm3 hd ⟨o,h1,h2,h3⟩ (λq hq=>?_) (Jpm h4 (by rw[hx];exact ap)) (by rw[E2 h4,<-Ce rel];exact z) λh' ep' rw' hs=>?_
 ·have hq':q∈xs.map (entryOfKey (tupleKind (mixKind X.prog X.w))):=h4▸C7.mpr hq;obtain⟨x,hx1,rfl⟩:=Bd.mp hq';obtain⟨o',_,_,g1,g2,_⟩:=h5 x hx1;exact⟨x.2.1,rfl,o',g1,g2⟩
 ·have hf:=I.hok.fresh (Ai s.heap.objs.size);obtain⟨o',g1,g2,g3⟩:=rw';refine h _ _ hf (I.laid (a:=s.heap.objs.size) (o:=.dT kvs) (t':=s.toks) (λc q hq=>?_) (Ai _) ⟨z,beq_eq_false_iff_ne.mpr (Eb (As I.big)),xs,rel.keeps λc ys ec=>?_,o',es,ep',g1,g2,g3,h4,h6⟩)
  ·exact(hs.2 c (As (Am hq))).trans (Ad _ hq)
  ·rw[Jac (Jak ec hf)];exact ec
end
noncomputable def intAt(its:Array Value)(i:Nat):Int:=match its[i]? with
 |some (Ds x _)=>x
 |_=>0
noncomputable def pkH(h:Heap)(v:Value):Rdu.PK:=match v with
 |Aq b=>match h.get? b with
  |some o=>match o.data with
   |Data.seq its _=>(intAt its 0,intAt its 1)
   |_=>(0,0)
  |none=>(0,0)
 |_=>(0,0)
noncomputable abbrev pK(p:Rdu.PK):List Key:=[.inl p.1,.inl p.2]
theorem Jql(ok:HOk P w H h)(e:H b=some (.tup ((pK p).map kV))):IK2 P w h p b/\pkH h (.ref b)=p:=by
 obtain⟨_,its,r,o,h1,h2,n,h3⟩:=(show U1 P w H h b (.tup ((pK p).map kV))from ok b _ e)
 cases r with
 |cons r1 r=>
  cases r with
  |cons r2 r=>
   cases r;obtain⟨t,rfl⟩:=(show∃t,_=Ds p.1 t from r1)
   obtain⟨u,rfl⟩:=(show∃t,_=Ds p.2 t from r2)
   refine⟨⟨o,_,n,h1,h2,h3,.cons (by simp[intKind,Iq]) (.cons (by simp[intKind,Iq]) .nil)⟩,?_⟩;simp only[pkH,h1,h3];rfl
theorem KT.at(r:KT H kvs xs):∀{i:Nat} {x:List Key×Addr×Value},xs[i]? =some x->H x.2.1=some (.tup (x.1.map kV)):=by
 induction r with
 |nil=>intro i x hx;simp at hx
 |cons hq _ ih=>
  intro i x hx;cases i with
  |zero=>simp only[Dc,Gh]at hx;subst hx;rw[<-hq.1];exact hq.2.1
  |succ i=>simp only[Bu]at hx;exact ih hx
section
variable {X:Cx} {pins:List (Addr×Obj)} {U:St} {H:Hp} {s:Shared} {a:Addr} {kvs:List (List Key×V)} {ps:List Rdu.PK} {A:Bl} {E:Value->Shared->Prop}
def Jka{Q:Value->Shared->Prop}(hd:(d==sysModules)=false)(hm:Raw s.heap d es ep)
  (h:Q (.ref s.heap.objs.size) {s with heap:=s.heap.push {cls:=.type "dict_items",data:=.fields #[.ref d]}}):wpAny (model prog w) A (call (.builtin "dict.items") [.ref d]) Q E s:=by
 refine Bg M7 hm.typeIs PySem.F.entry_dict_items ?_ (PySem.F.args_dict_items_1 _);unfold Builtin.«dict.items» M5 Ea;refine Aa (Aa (Dv hm.typeIs ?_));show wpAny _ _ (pure d) _ _ s;refine Ac ?_;show wpAny _ _ (ite ((d==sysModules)=true) _ _>>=_) _ _ s;rw[if_neg (by rw[hd];exact Az)];exact Aa (Ac (Aa (Br (Ac ⟨_,rfl,h⟩))))
def Jxi{Q:Value->Shared->Prop}(hh:A.handled=none)(hu:A.units+8<C0)(I:Inv X pins U H s)(e:Rd H a (.dT kvs))(ek:kvs.map (·.1)=ps.map pK)(up:∀(i:Nat) (p q:Rdu.PK),ps[i]? =some p->ps[i+1]? =some q->ltP p q=true)(hz:kvs.length<sizeLine)
  (h:∀p s',H p=none->Inv X pins U (upd H p (.dT kvs)) s'->Q (.ref p) s'):
  wpAny (model X.prog X.w) A (call (.builtin "dict.items") [.ref a]) (λr s1=>wpAny (model X.prog X.w) A (call (.builtin "sorted") [r]) (λl s2=>wpAny (model X.prog X.w) A (call (.type "dict") [l]) Q E s2) E s1) E s:=by
 obtain⟨z,hd,xs,rel,o,es,ep,h1,h2,h3,h4,h5,h6⟩:=Jdp I.hok e;have esz:es.size=kvs.length:=by rw[E2 h4,<-Ce rel]
 have at_:∀(i:Nat) (q:B6),es[i]? =some q->∃p b v,ps[i]? =some p/\xs[i]? =some (pK p,b,v)/\q.key=.ref b/\q.val=v/\IK2 X.prog X.w s.heap p b/\pkH s.heap q.key=p:=λi q hq=>by
  rw[Ld h4 i,Ak]at hq;obtain⟨x,hx,rfl⟩:=hq;have hk:(xs.map (·.1))[i]? =some x.1:=by rw[Ao,hx];rfl
  rw[rel.keys,ek,Ao,Ak]at hk;obtain⟨p,hp,ep'⟩:=hk;have hH:=rel.at hx;rw[<-ep']at hH;obtain⟨q1,q2⟩:=Jql I.hok hH;exact⟨p,x.2.1,x.2.2,hp,by rw[hx,ep'],rfl,rfl,q1,q2⟩
 refine Jka hd ⟨o,h1,h2,h3⟩ ?_;obtain⟨g1,e1⟩:∃g1,g1=s.heap.push {cls:=.type "dict_items",data:=.fields #[.ref a]}:=⟨_,rfl⟩
 rw[<-e1];have k1:∀b o,s.heap.get? b=some o->g1.get? b=some o:=λb o e=>by rw[e1];exact Ad _ e
 have hv:g1.IsItemsView s.heap.objs.size a:=⟨_,by rw[e1];exact Aj _ rfl,rfl,rfl⟩
 refine Jdm (s:={s with heap:=g1}) (pk:=pkH s.heap) hh hu hv ⟨o,k1 _ _ h1,h2,h3⟩ (by lia) (λq hq=>?_) (λi q q' e1 e2=>?_) λh' l c as kp hl gl al ap=>?_
 ·obtain⟨i,hi⟩:=Fp.mp hq;obtain⟨p,b,v,_,_,kb,_,q1,q2⟩:=at_ i q (by rw[<-Dq];exact hi);exact⟨b,kb,by rw[q2];exact q1.keep λo e=>k1 _ _ e⟩
 ·obtain⟨p,_,_,p1,_,_,_,_,q1⟩:=at_ _ _ e1;obtain⟨p',_,_,p2,_,_,_,_,q2⟩:=at_ _ _ e2;rw[q1,q2];exact up i p p' p1 p2
 ·have k2:∀b o,s.heap.get? b=some o->h'.get? b=some o:=λb o e=>kp b o (k1 b o e);refine Jki (s:={s with heap:=h'}) (knd:=tupleKind (mixKind X.prog X.w)) (xs:=xs) (as:=as) hh (Di (by simp;lia)) (by rw[<-Ce rel];exact z) (λ{g g' k b} x y=>?_) ⟨by rw[al,esz,Ce rel],λj b x hb hx=>?_⟩ h6 gl λh'' tk kp' dd=>?_
  ·obtain⟨o',its,n,w1,w2⟩:=x;exact⟨o',its,n,y o' w1,w2⟩
  ·obtain⟨_,_,q,q1,q2⟩:=ap j b hb;rw[Ld h4 j,hx]at q1;cases q1;refine⟨q2,?_⟩;obtain⟨o',its,n,w1,w2⟩:=h5 x (Ba hx);exact⟨o',its,n,k2 _ _ w1,w2⟩
  ·obtain⟨o',es',ep',g1',g2',g3',g4',_,g6'⟩:=dd;have hle:s.heap.objs.size<=h'.objs.size:=Bw (by rw[e1,Cd];exact Ks _) (Eg (Fh hl (Am gl)));have hf:=I.hok.fresh hle;refine h _ _ hf (I.laid (a:=h'.objs.size) (o:=.dT kvs) (t':=tk) (λc q hq=>kp' _ _ (k2 _ _ hq)) hle ⟨z,beq_eq_false_iff_ne.mpr (Eb (As (Bh I.big hle))),xs,rel.keeps λc ys ec=>?_,o',es',ep',g1',g2',g3',g4',g6'⟩);rw[Jac (Jak ec hf)];exact ec
end
section
variable {X:Cx} {pins:List (Addr×Obj)} {U:St} {H:Hp} {s:Shared} {a b:Addr} {ka kb kvs:List (List Key×V)} {ps:List Rdu.PK} {A:Bl} {E:Value->Shared->Prop}
theorem KT.mem(r:KT H kvs xs):∀x∈xs,∃kv∈kvs,kv.1=x.1/\RelV kv.2 x.2.2:=by
 induction r with
 |nil=>intro x hx;exact nomatch hx
 |@cons p q ps qs hq _ ih=>
  intro x hx;rcases An.mp hx with rfl|hx
  ·exact⟨p,Bn,hq.1,hq.2.2⟩
  ·obtain⟨kv,h1,h2⟩:=ih x hx;exact⟨kv,Ay _ h1,h2⟩
def Jzi{Q:Value->Shared->Prop}(hu:A.units+1<C0)(I:Inv X pins U H s)(ea:Rd H a (.dT ka))(eb:Rd H b (.dT kb))(hl:ka.length=kb.length)
  (hits:∀kv∈ka,∃v',Vr kb kv.1=some v'/\∀u u',RelV kv.2 u->RelV v' u'->E9 A.in1 s u u' true)(h:Q (.bool false) s):wpAny (model X.prog X.w) A (Dz .NotEq (.ref a) (.ref b)) Q E s:=by
 obtain⟨_,hda,xa,ra,da⟩:=Jdp I.hok ea;obtain⟨_,hdb,xb,rb,db⟩:=Jdp I.hok eb;refine neH hda hdb (by lia) (Di hu) da db (by rw[<-Ce ra,<-Ce rb];exact hl) (λx hx=>?_) h;obtain⟨kv,m,e1,e2⟩:=ra.mem x hx;obtain⟨v',g1,g2⟩:=hits kv m;obtain⟨w',hw,rw'⟩:=RelO.some_of (v:=v') (o:=(Gq xb kv.1).map (·.2)) (by rw[<-g1];exact rb.val kv.1);obtain⟨p,hp,hp2⟩:=Ak.mp hw;exact⟨p,by rw[<-e1];exact hp,by rw[hp2];exact g2 _ _ e2 rw'⟩
def Jms{Q:Value->Shared->Prop}(hh:A.handled=none)(I:Inv X pins U H s)(e:Rd H a (.dT kvs))(ek:kvs.map (·.1)=ps.map pK)(up:∀(i:Nat) (p q:Rdu.PK),ps[i]? =some p->ps[i+1]? =some q->ltP p q=true)(hz:kvs.length<sizeLine)
  (h:∀(p:Addr) (bs:List Addr) (s':Shared),H p=none->bs.length=ps.length->(∀(i:Nat) (b:Addr) (q:Rdu.PK),bs[i]? =some b->ps[i]? =some q->H b=some (.tup ((pK q).map kV)))->Inv X pins U (upd H p (.lst (bs.map V.ref))) s'->Q (.ref p) s'):
  wpAny (model X.prog X.w) A (call (.builtin "sorted") [.ref a]) Q E s:=by
 obtain⟨z,hd,xs,rel,o,es,ep,h1,h2,h3,h4,h5,h6⟩:=Jdp I.hok e;have esz:es.size=kvs.length:=by rw[E2 h4,<-Ce rel]
 have pl:ps.length=kvs.length:=by have:=congrArg I8 ek;simpa using this.symm
 have at_:∀(i:Nat) (q:B6),es[i]? =some q->∃p x,ps[i]? =some p/\xs[i]? =some x/\q.key=.ref x.2.1/\H x.2.1=some (.tup ((pK p).map kV)):=λi q hq=>by
  rw[Ld h4 i,Ak]at hq;obtain⟨x,hx,rfl⟩:=hq;have hk:(xs.map (·.1))[i]? =some x.1:=by rw[Ao,hx];rfl
  rw[rel.keys,ek,Ao,Ak]at hk;obtain⟨p,hp,ep'⟩:=hk;exact⟨p,x,hp,hx,rfl,by rw[ep'];exact rel.at hx⟩
 have ik:∀(h1:Heap) (v:Value) (i:Nat),(∀b o,s.heap.get? b=some o->h1.get? b=some o)->(∃q,es[i]? =some q/\v=q.key)->∃p b,ps[i]? =some p/\v=.ref b/\IK2 X.prog X.w h1 p b/\pkH s.heap v=p:=λh1 v i k ⟨q,hq,ev⟩=>by
  obtain⟨p,x,hp,_,kq,hH⟩:=at_ i q hq;obtain⟨q1,q2⟩:=Jql I.hok hH;exact⟨p,x.2.1,hp,ev.trans kq,q1.keep λo e=>k _ _ e,by rw[ev,kq];exact q2⟩
 refine Je2 (κ:=tuples' true) (Jnk hd) hh (show Raw s.heap a es ep from⟨o,h1,h2,h3⟩) (by lia) (λvs g1 t hl hv k1 h2 A' E' Q' q=>?_) (λg1 t k1 i x y hx hy A' Q' q=>?_) λh' tk l c vs kp hl gl vl hv=>?_
 ·refine Jj7 (s:={s with heap:=g1,toks:=t}) (pk:=pkH s.heap) (by lia) (λv hvv=>?_) q;obtain⟨i,hi⟩:=Fp.mp hvv;obtain⟨p,b,_,e1,e2,e3⟩:=ik g1 v i k1 (hv i v hi);exact⟨b,e1,by rw[e3];exact e2⟩
 ·obtain⟨p,b,p1,rfl,q1,_⟩:=ik g1 x (i+1) k1 hx;obtain⟨p',b',p2,rfl,q2,_⟩:=ik g1 y i k1 hy;refine Jol (s:={s with heap:=g1,toks:=t}) q1 q2 ?_;have l1:=up i p' p p2 p1;have:ltP p p'=false:=by
   cases q:ltP p p' with
   |false=>rfl
   |true=>have:=Vz.mp l1;have:=Vz.mp q;lia
  rw[this];exact q
 ·have hf:=I.hok.fresh hl;obtain⟨bs,hbs,hat⟩:∃bs:List Addr,vs=bs.map Aq/\∀(i:Nat) (b:Addr) (q:Rdu.PK),bs[i]? =some b->ps[i]? =some q->H b=some (.tup ((pK q).map kV)):=by
   refine⟨xs.map (·.2.1),Q7 λi=>?_,λi b q hb hq=>?_⟩
   ·by_cases hi:i<es.size
    ·have hi':i<vs.length:=by lia
     obtain⟨e,he,ev⟩:=hv i vs[i] (Ag hi');obtain⟨p,x,_,hx,kq,_⟩:=at_ i e he;rw[Ag hi',ev,kq];simp[hx]
    ·rw[G9 (by lia),G9 (by simp;rw[<-Ce rel];lia)]
   ·rw[Ao,Ak]at hb;obtain⟨x,hx,rfl⟩:=hb;have hk:(xs.map (·.1))[i]? =some x.1:=by rw[Ao,hx];rfl
    rw[rel.keys,ek,Ao,hq]at hk;have hk:pK q=x.1:=Bj hk;rw[hk];exact rel.at hx
  have hbl:bs.length=ps.length:=by have:=congrArg I8 hbs;simp at this;lia
  refine h l bs _ hf hbl hat (I.laid (a:=l) (o:=.lst (bs.map V.ref)) (t':=tk) (λc q hq=>kp _ _ hq) hl ⟨by simp;lia,bs.map Aq,c,?_,by rw[<-hbs];exact gl⟩);have vr:∀l:List Addr,Vals (l.map V.ref) (l.map Aq):=λl=>by
   induction l with
   |nil=>exact .nil
   |cons x l ih=>exact .cons rfl ih
  exact vr bs
end
open PySem Rdu
inductive Tr where
 |nil
 |node (l:Tr) (k:Nat) (r:Tr)
noncomputable def Tr.has(j:Nat):Tr->Bool
 |.nil=>false
 |.node l k r=>if j<k then l.has j else if k<j then r.has j else true
noncomputable def Tr.ins(j:Nat):Tr->Option Tr
 |.nil=>some (.node .nil j .nil)
 |.node l k r=>if j<k then(match l.ins j with|some l'=>some (.node l' k r)|none=>none)else if k<j then(match r.ins j with|some r'=>some (.node l k r')|none=>none)else none
theorem Tr.ins_has:∀{t t':Tr},t.ins j=some t'->t.has j=false/\∀i,t'.has i=(decide (i=j)||t.has i)
 |.nil,t',e=>by
  cases e;refine⟨rfl,λi=>?_⟩;unfold Tr.has Tr.has
  by_cases h1:i<j
  ·simp[h1,As h1]
  ·by_cases h2:j<i
   ·simp[h1,h2,Cj h2]
   ·have:i=j:=by lia
    simp[this]
 |.node l k r,t',e=>by
  unfold Tr.ins at e
  by_cases h1:j<k
  ·rw[if_pos h1]at e;cases q:l.ins j with
   |none=>rw[q]at e;cases e
   |some l'=>
    rw[q]at e;cases e;obtain⟨a,b⟩:=Tr.ins_has q;refine⟨by unfold Tr.has;rw[if_pos h1];exact a,λi=>?_⟩;unfold Tr.has
    by_cases h2:i<k
    ·rw[if_pos h2,if_pos h2];exact b i
    ·have:i≠j:=by lia
     simp[h2,this]
  ·rw[if_neg h1]at e
   by_cases h3:k<j
   ·rw[if_pos h3]at e;cases q:r.ins j with
    |none=>rw[q]at e;cases e
    |some r'=>
     rw[q]at e;cases e;obtain⟨a,b⟩:=Tr.ins_has q;refine⟨by unfold Tr.has;rw[if_neg h1,if_pos h3];exact a,λi=>?_⟩;unfold Tr.has
     by_cases h2:i<k
     ·have:i≠j:=by lia
      simp[h2,this]
     ·rw[if_neg h2,if_neg h2]
      by_cases h4:k<i
      ·rw[if_pos h4,if_pos h4];exact b i
      ·simp[h4]
   ·rw[if_neg h3]at e;cases e
noncomputable def chk(f:Nat×Nat->Int):List (Nat×Nat)->Tr->Tr->Bool
 |[],_,_=>true
 |q::r,a,b=>match f q with
  |.ofNat 0=>false
  |.ofNat (k+1)=>(match a.ins k with|some a'=>chk f r a' b|none=>false)
  |.negSucc 0=>false
  |.negSucc (k+1)=>(match b.ins k with|some b'=>chk f r a b'|none=>false)
noncomputable def Yc(a b:Tr):Int->Bool
 |.ofNat 0=>false
 |.ofNat (k+1)=>a.has k
 |.negSucc 0=>false
 |.negSucc (k+1)=>b.has k
theorem Jjn{f:Nat×Nat->Int}:∀{l:List (Nat×Nat)} {a b:Tr},chk f l a b=true->(∀q∈l,Yc a b (f q)=false)/\(l.map f).Nodup
 |[],_,_,_=>⟨(λ_ h=>nomatch h),Ie⟩
 |q::r,a,b,h=>by
  unfold chk at h;have step:∀a' b',chk f r a' b'=true->Yc a b (f q)=false->(∀i,Yc a' b' i=false->i≠f q/\Yc a b i=false)->(∀q'∈q::r,Yc a b (f q')=false)/\((q::r).map f).Nodup:=λa' b' c h1 h2=>by
   obtain⟨x,y⟩:=Jjn c;refine⟨λq' hq=>?_,?_⟩
   ·rcases An.mp hq with rfl|hq
    ·exact h1
    ·exact(h2 _ (x q' hq)).2
   ·rw[Aw,Cm];refine⟨λm=>?_,y⟩;obtain⟨q',hq,e⟩:=Bd.mp m;exact(h2 _ (x q' hq)).1 e
  cases e:f q with
  |ofNat n=>
   cases n with
   |zero=>rw[e]at h;cases h
   |succ k=>
    rw[e]at h;cases g:a.ins k with
    |none=>simp only[g]at h;cases h
    |some a'=>
     simp only[g]at h;obtain⟨u,v⟩:=Tr.ins_has g;refine step a' b h (by rw[e];exact u) λi hi=>?_;rw[e]
     match i,hi with
     |.ofNat 0,_=>exact⟨(λz=>nomatch z),rfl⟩
     |.ofNat (j+1),hi=>
      have hi:a'.has j=false:=hi;rw[v j,Px]at hi;refine⟨λz=>?_,hi.2⟩;have z':j=k:=by injection z with z;lia
      simp[z']at hi
     |.negSucc 0,_=>exact⟨(λz=>nomatch z),rfl⟩
     |.negSucc (j+1),hi=>exact⟨(λz=>nomatch z),hi⟩
  |negSucc n=>
   cases n with
   |zero=>rw[e]at h;cases h
   |succ k=>
    rw[e]at h;cases g:b.ins k with
    |none=>simp only[g]at h;cases h
    |some b'=>
     simp only[g]at h;obtain⟨u,v⟩:=Tr.ins_has g;refine step a b' h (by rw[e];exact u) λi hi=>?_;rw[e]
     match i,hi with
     |.ofNat 0,_=>exact⟨(λz=>nomatch z),rfl⟩
     |.ofNat (j+1),hi=>exact⟨(λz=>nomatch z),hi⟩
     |.negSucc 0,_=>exact⟨(λz=>by injection z with z;lia),rfl⟩
     |.negSucc (j+1),hi=>
      have hi:b'.has j=false:=hi;rw[v j,Px]at hi;refine⟨λz=>?_,hi.2⟩;have z':j=k:=by injection z with z;lia
      simp[z']at hi
noncomputable def Y5(q:Nat×Nat):Int:=To (Cy [hashInt q.1,hashInt q.2])
noncomputable def small:Nat->List (Nat×Nat)
 |0=>[]
 |n+1=>(n,0)::(n,1)::(n,2)::small n
def Jld:chk Y5 (small 345) .nil .nil=true:=by decide+kernel
theorem Jea(hp:p<3):∀{m:Nat},n<m->(n,p)∈small m
 |m+1,h=>by
  unfold small
  by_cases e:n=m
  ·subst e;have:p=0\/p=1\/p=2:=by lia
   rcases this with rfl|rfl|rfl<;>simp
  ·have:=Jea (n:=n) hp (m:=m) (by lia);simp[this]
def Jwu{α:Type}{f:α->Int}{l:List α}(h:(l.map f).Nodup){x y:α}(hx:x∈l)(hy:y∈l)(e:f x=f y):x=y:=by
 obtain⟨i,hi,rfl⟩:=C2.mp hx;obtain⟨j,hj,rfl⟩:=C2.mp hy;have q:=Ga.mp (Lv.mp h);rcases Jd i j with k|k|k
 ·exact absurd e (q i j hi hj k)
 ·subst k;rfl
 ·exact absurd e.symm (q j i hj hi k)
def Jpl{P:Program}{w:World}{kvs:List (List Key×V)}{ps:List (Nat×Nat)}(ek:kvs.map (·.1)=ps.map λq=>pK ((q.1:Int),(q.2:Int)))(hs:∀q∈ps,q.1<345/\q.2<3)(nd:ps.Nodup):Apart P w kvs:=by
 have e:(kvs.map λkv=>(tupleKind (mixKind P w)).hash kv.1)=ps.map Y5:=by
  have h:=congrArg (Nd λk=>(tupleKind (mixKind P w)).hash k) ek;rw[B1,B1]at h;exact h
 unfold Apart;rw[e];refine Lv.mpr (Lj (λ{x y} hx hy hne hxy=>?_) nd);exact hne (Jwu (Jjn Jld).2 (Jea (hs x hx).2 (hs x hx).1) (Jea (hs y hy).2 (hs y hy).1) hxy)
open PySem PySem.Spec PyProof.Rows Rdc Rdu
noncomputable def Itw(K:Af)(b:Bool)(a:Addr)(o:Obj)(kvs:List (List Key×V))(bs:List Addr):It:=
 ⟨λi H=>H a=some (.frz o (.dT kvs))/\i<kvs.length/\∀(j:Nat) (k:List Key) (v:V) (c:Addr),kvs[j]? =some (k,v)->bs[j]? =some c->SqT K H c (k.map kV),
  λi H x H'=>H'=H/\∃k v,kvs[i]? =some (k,v)/\cond b (x=v) (∃c,x=.ref c/\SqT K H c (k.map kV)),λi H=>H a=some (.frz o (.dT kvs))/\kvs.length<=i⟩
def Juo{K:Af}(b:Bool)(a it:Addr){o:Obj}{kvs:List (List Key×V)}{es:Array B6}(hz:es.size=kvs.length)
  (rel:∀(i:Nat) (e:B6),es[i]? =some e->∃k v,kvs[i]? =some (k,v)/\cond b (RelV v e.val) (∃c,bs[i]? =some c/\e.key=.ref c))(hc:o.ExactDict)(hd:o.data=.dict es ep):
  Turn P w K tg (Itw K b a o kvs bs) [it] it (λi h=>cond b (h.IsValIter it a i es.size ep) (h.IsKeyIter it a i es.size ep))where
 mem:=by simp
 obj:=λi h st c hb=>by
  have e:c=it:=by simpa using hb
  subst e;cases b<;>exact let⟨o,e,c,d⟩:=st;⟨o,e,λv z=>by rw[d]at z;cases z⟩
 keep:=λi h h' st k=>by
  cases b<;>exact let⟨o,e,r⟩:=st;⟨o,k it (by simp) o e,r⟩
 item:=by
  intro X hP hw hK hcl i pins s U H E I hf st hg;subst hP hw hK;obtain⟨ha,hi,hB⟩:=hg;have hm:Raw s.heap a es ep:=⟨o,(show U1 X.prog X.w H s.heap a (.frz o (.dT kvs))from I.hok a _ ha).1,hc,hd⟩
  have hi':i<es.size:=by omega
  obtain⟨k,v,hv,rv⟩:=rel i es[i] (Bo hi');obtain⟨f0,f1,f2,f3,f4,f5⟩:=hf it (by simp);have I1:∀h':Heap,Ct it s.heap h'->Inv X pins U H {s with heap:=h'}:=λh' sb=>I.turned (t':=s.toks) (λb o hb e=>(sb.2 b hb).trans e) f0 f1 f3 f4 f5;refine Jqg b st hm hi' λh' st' sb=>?_;cases b with
  |true=>
   obtain⟨o',e,c,d⟩:=id st';exact⟨_,rfl,Jml (s:={s with heap:=h'}) e c d (by decide) ⟨v,H,I1 h' sb,rv,⟨rfl,k,v,hv,rfl⟩,st',λb hb=>(hf b hb).1⟩⟩
  |false=>
   obtain⟨c,hc,ek⟩:=rv;obtain⟨o',e,cl,d⟩:=id st';exact⟨_,rfl,Jml (s:={s with heap:=h'}) e cl d (by decide) ⟨.ref c,H,I1 h' sb,ek,⟨rfl,k,v,hv,c,rfl,hB i k v c hv hc⟩,st',λb hb=>(hf b hb).1⟩⟩
 done:=by
  intro X hP hw hK hcl i pins s U H E I hf st hg;subst hP hw hK;obtain⟨ha,hi⟩:=hg;have hm:Raw s.heap a es ep:=⟨o,(show U1 X.prog X.w H s.heap a (.frz o (.dT kvs))from I.hok a _ ha).1,hc,hd⟩
  obtain⟨f0,f1,f2,f3,f4,f5⟩:=hf it (by simp);have q:∀h',Mg it s.heap h'->(none:Option Value)=none/\Inv X pins U H {s with heap:=h'}:=λh' eb=>⟨rfl,I.turned (t':=s.toks) (λb o hb e=>eb b o hb e) f0 f1 f3 f4 f5⟩
  exact Jw7 b (I.ok.hd hcl) st hm (by omega) q
 self:=λ_ _ _ _ _ st h=>by
  cases b
  ·exact Ro st h
  ·exact wpAny_pyIter_valiter st h
open PySem PySem.Spec PyProof.Rows
def HOk.thaw(x:HOk P w H h)(e:H a=some (.frz o u)):HOk P w (upd H a u) h:=λb v q=>by
 have ho:∀c d,H c=some (.own d)->upd H a u c=some (.own d):=λc d z=>by rw[Jac (Je1 z e (λk=>nomatch k))];exact z
 have ht:∀c xs,H c=some (.tup xs)->upd H a u c=some (.tup xs):=λc xs z=>by rw[Jac (Je1 z e (λk=>nomatch k))];exact z
 by_cases hb:b=a
 ·subst hb;rw[Jaf]at q;cases q;exact(x b _ e).2.stay (λ_ _ _ q=>q) (λc z=>ho c b z) ht
 ·rw[Jac hb]at q;exact(x b v q).stay (λ_ _ _ q=>q) (λc z=>ho c b z) ht
def Inv.thaw{X:Cx}(I:Inv X pins U H s)(e:H a=some (.frz o u))(n:∀o u,X.H₀ a≠some (.frz o u)):Inv X pins U (upd H a u) s:=by
 have ne:∀b,H b=none->b≠a:=λb q z=>by rw[z,e]at q;cases q
 have nn:∀b v,H b=some v->(∀o u,v≠ .frz o u)->b≠a:=λb v q k z=>by rw[z,e]at q;cases q;exact k _ _ rfl
 refine⟨I.ok,I.os,I.bare,⟨I.base.keep,I.base.slot,λb ob q z hx=>?_,I.base.there,λb xs q=>?_,λb ob v q=>?_,λb ps q=>?_⟩,I.loc,I.cell,?_,λx c q=>?_,λp hp=>?_,I.hok.thaw e,I.len⟩
 ·have:=I.base.free b ob q z hx;rw[Jac (ne b this)];exact this
 ·have:=I.base.tups b xs q;rw[Jac (nn b _ this λ_ _ k=>nomatch k)];exact this
 ·have:=I.base.frzs b ob v q;have hb:b≠a:=λz=>n ob v (z▸q);rw[Jac hb];exact this
 ·obtain⟨more,h⟩:=I.base.tbls b ps q;exact⟨more,by rw[Jac (nn b _ h λ_ _ k=>nomatch k)];exact h⟩
 ·rw[Jac (ne _ I.free)];exact I.free
 ·rw[Jac (ne _ (I.freeC x c q))];exact I.freeC x c q
 ·obtain⟨p1,p2,p3⟩:=I.pin p hp;exact⟨p1,by rw[Jac (ne _ p2)];exact p2,p3⟩
section
open Rdc Rdu
variable {X:Cx} {pins:List (Addr×Obj)} {U:St} {H:Hp} {s:Shared} {tg:Expr} {a:Addr} {kvs:List (List Key×V)}
theorem KT.val_at(r:KT H kvs xs):∀{i:Nat} {x:List Key×Addr×Value},xs[i]? =some x->∃v,kvs[i]? =some (x.1,v)/\RelV v x.2.2:=by
 induction r with
 |nil=>intro i x hx;simp at hx
 |@cons p q ps qs hq _ ih=>
  intro i x hx;cases i with
  |zero=>
   simp only[Dc,Gh]at hx;subst hx;exact⟨p.2,by rw[<-hq.1];rfl,hq.2.2⟩
  |succ i=>simp only[Bu]at hx ⊢;exact ih hx
def NF(X:Cx)(a:Addr):Prop:=∀o u,X.H₀ a≠some (.frz o u)
def iDw(X:Cx)(b:Bool)(to:TE):TI:=λU H R=>to U H λx H1=>∃a kvs,x=.ref a/\H1 a=some (.dT kvs)/\(NF X a->∀o bs,(∀(j:Nat) (k:List Key) (v:V) (c:Addr),kvs[j]? =some (k,v)->bs[j]? =some c->H1 c=some (.tup (k.map kV)))->R (Itw X.K b a o kvs bs) (upd H1 a (.frz o (.dT kvs))))
def Wd5{R:It->Hp->Prop}(b:Bool)(I:Inv X pins U H s)(ha:H a=some (.dT kvs))(q:NF X a->∀o bs,(∀(j:Nat) (k:List Key) (v:V) (c:Addr),kvs[j]? =some (k,v)->bs[j]? =some c->H c=some (.tup (k.map kV)))->R (Itw X.K b a o kvs bs) (upd H a (.frz o (.dT kvs)))):
  cond b (wpAny (model X.prog X.w) X.A (call (.builtin "dict.values") [.ref a]) (λr s1=>wpAny (model X.prog X.w) X.A (pyIter r) (PIE X pins U tg R) X.xe s1) X.xe s) (wpAny (model X.prog X.w) X.A (pyIter (.ref a)) (PIE X pins U tg R) X.xe s):=by
 obtain⟨z,hd,xs,rel,o,es,ep,h1,h2,h3,h4,h5,h6⟩:=Jtk I.hok ha;have nf:NF X a:=λo u e=>by have:=I.base.frzs a o u e;rw[ha]at this;cases this
 have go:∀(h:Heap) (ob:Obj),(∀b o,s.heap.get? b=some o->h.get? b=some o)->cond b ((h.push ob).IsValIter h.objs.size a 0 es.size ep) ((h.push ob).IsKeyIter h.objs.size a 0 es.size ep)->PIE X pins U tg R (.ref h.objs.size) {s with heap:=h.push ob}:=λh ob kp st=>by
  have I2:Inv X pins U (upd H a (.frz o (.dT kvs))) {s with heap:=h}:=I.write (x:=a) (e:=a) (h':=h) (t':=s.toks) (by rw[ha];trivial) (.inl rfl) (λb u _ e=>kp b u e) ⟨_,kp _ _ h1⟩
   ⟨kp _ _ h1,z,hd,xs,rel.keeps λc ys ec=>by rw[Jac (Je1 ec ha (λz=>nomatch z))];exact ec,o,es,ep,kp _ _ h1,h2,h3,h4,h6⟩
  refine⟨h.objs.size,[h.objs.size],_,_,_,rfl,I2.kept (t':=s.toks) λb o e=>Ad _ e,Juo b a _ (o:=o) (es:=es) (ep:=ep) (bs:=xs.map (·.2.1)) (by rw[E2 h4,<-Ce rel]) (λi e he=>?_) h2 h3,st,λc hb=>?_,q nf o _ λj k v c hk hb=>?_⟩
  ·rw[Ld h4 i,Ak]at he;obtain⟨x,hx,rfl⟩:=he;obtain⟨v,hv,rv⟩:=rel.val_at hx;refine⟨x.1,v,hv,?_⟩;cases b
   ·exact⟨_,by rw[Ao,hx];rfl,rfl⟩
   ·exact rv
  ·have e:c=h.objs.size:=by simpa using hb
   subst e;exact I2.fpOk (Ai _) (I2.hok.fresh (Ai _))
  ·rw[Ao,Ak]at hb;obtain⟨x,hx,rfl⟩:=hb;obtain⟨v',hv,_⟩:=rel.val_at hx;rw[hk]at hv;cases hv;exact rel.at hx
 cases b
 ·exact Jg8 hd ⟨o,h1,h2,h3⟩ (go s.heap _ (λ_ _ e=>e) ⟨_,Aj _ rfl,rfl,rfl⟩)
 ·refine Jir hd ⟨o,h1,h2,h3⟩ ?_;have k1:∀(b:Addr) (o:Obj),s.heap.get? b=some o->(s.heap.push {cls:=.type "dict_values",data:=.fields #[.ref a]}).get? b=some o:=λb o e=>Ad _ e;exact Jl9 (s:={s with heap:=_}) (d:=a) (es:=es) (ep:=ep) ⟨_,Aj _ rfl,rfl,rfl⟩ ⟨o,k1 _ _ h1,h2,h3⟩ (go _ _ k1 ⟨_,Aj _ rfl,rfl,rfl⟩)
def Jsh(hl:PE X l tl):PI X tg l (iDw X false tl):=λpins s U H R I h=>thn (hl pins s U H _ I h) λv s1 ⟨x,H1,I1,r1,a,kvs,e,ha,q⟩=>by
 subst e;cases r1;exact Wd5 false I1 ha q
def Jsg{ap cp:Pos}(hl:PE X l tl)(hbase:attributeBase l "values" X.env (eval l X.env)=eval l X.env)(hline:(ap.endLine==cp.line)=true):PI X tg (.Call (.Attribute l "values" ap) [] [] cp) (iDw X true tl):=λpins s U H R I h=>by
 refine J2 hbase hline (thn (hl pins s U H _ I h) λv s1 ⟨x,H1,I1,r1,a,kvs,e,ha,q⟩=>?_);subst e;cases r1;obtain⟨h1,h2,_⟩:=Jma I1 (.inr ⟨kvs,.inl ha⟩);exact⟨"dict","dict.values",Gi,Pc,PySem.F.type_dict_values,h1,h2,Fb rfl (Kq (Wd5 true I1 ha q))⟩
def Jsl(h:PE X e w):PE X e (λU H Q=>w U H λv H'=>∃a o u,NF X a/\H' a=some (.frz o u)/\Q v (upd H' a u)):=
 λpins s U H Q I q=>thn (h pins s U H _ I q) λv s1 ⟨x,H1,I1,r1,a,o,u,n,e,q1⟩=>⟨x,_,I1.thaw e n,r1,q1⟩
end
end L2
namespace Nst
open PySem
section
variable {prog:Program} {w:World} {K:Type} [DecidableEq K] (knd:Ke prog w K)
inductive Refs (h:Heap):List K->List Value->Prop
 |nil:Refs h [] []
 |cons {k:K} {b:Addr} {ks:List K} {vs:List Value}:knd.is h k b->Refs h ks vs->Refs h (k::ks) (.ref b::vs)
inductive Is (h:Heap) (ks:List K) (a:Addr):Prop
 |mk (o items n) (_:h.get? a=some o) (_:o.cls=.type "tuple") (_:o.data=.seq items n) (_:Refs knd h ks items.toList):Is h ks a
noncomputable def drw(ks:List K):Nat:=(ks.map knd.draws).sum
variable {knd} {A:Bl} {E:Value->Shared->Prop} {s:Shared}
theorem Refs.inj(hx:Refs knd h x vs)(hy:Refs knd h y vs):x=y:=by
 induction hx generalizing y with
 |nil=>cases hy;rfl
 |cons h1 _ ih=>cases hy with|cons h2 t2=>rw[knd.inj h1 h2,ih t2]
theorem Refs.map(hx:Refs knd h x vs)(f:∀k b,knd.is h k b->knd.is h' k b):Refs knd h' x vs:=by
 induction hx with
 |nil=>exact .nil
 |cons h1 _ ih=>exact .cons (f _ _ h1) ih
def Is.inj(hx:Is knd h x a)(hy:Is knd h y a):x=y:=by
 obtain⟨o,items,n,ho,_,hd,hi⟩:=hx;obtain⟨o',items',n',ho',_,hd',hi'⟩:=hy;obtain rfl:o=o':=Bj (ho.symm.trans ho');rw[hd]at hd';injection hd' with h1 _;subst h1;exact hi.inj hi'
def Is.keeps{h:Heap}{o:Obj}{es ep}(x:Is knd h ks a)(ho:h.get? d=some o)(hd:o.data=.dict es ep)(hs:Ct d h h'):Is knd h' ks a:=by
 obtain⟨o',items,n,ho',hc,hd',hi⟩:=x;have hne:a≠d:=λq=>by
  subst q;obtain rfl:o'=o:=Bj (ho'.symm.trans ho);rw[hd]at hd';exact nomatch hd'
 exact⟨o',items,n,(hs.2 a hne).trans ho',hc,hd',hi.map λk b q=>knd.keeps q ho hd hs⟩
def Is.typeIs(x:Is knd s.heap ks a):s.TypeIs (.ref a) "tuple":=let⟨o,_,_,ho,hc,_,_⟩:=x;⟨o,ho,hc⟩
noncomputable def hsh(knd:Ke prog w K)(ks:List K):Int:=To (Cy (ks.map knd.hash))
def Jy9{Q:Int->Shared->Prop}(hu:A.units<C0)(hr:knd.room A.in1)(hk:Is knd s.heap ks a)(h:Q (hsh knd ks) {s with toks:=s.toks+(drw knd ks+1)}):wpAny (model prog w) A (pyHash (.ref a)) Q E s:=by
 have hT:=hk.typeIs;obtain⟨o,items,n,ho,_,hd,hi⟩:=hk;unfold pyHash
 first|unfold pyHashByItsType|skip
 first|refine Aa (wpAny_cRoomFor_or (.inr hu) ?_)|skip
 refine Aa (Fz hT G6.lookup ?_);show wpAny _ _ (if(some (Sf "tuple.__hash__")==some Cf)=true then _ else _) Q E s;rw[if_neg (by rw[beq_builtin_none];exact Az)];refine Aa (Fz hT G6.lookup ?_);show wpAny _ _ (callSpecialIfBoundUnlessNone? (.ref a) "__hash__" _>>=_) Q E s;refine Aa (wpAny_callSpecialIfBoundUnlessNone?_slot hT G6 (Bg G6 hT F.entry_tuple_hash ?_ (F.args_tuple_hash_1 _)));show wpAny _ _ (G7 (.ref a)>>=_) _ _ s;refine Aa (Me ho hd (Aa ?_));rw[<-Fc];refine Dk _ (λrest (b:Array Int) s'=>∃done left,ks=done++left/\Refs knd s.heap left rest/\b.toList=done.map knd.hash/\s'={s with toks:=s.toks+drw knd done})
  _ ?_ ?_ _ _ ⟨[],ks,rfl,hi,rfl,rfl⟩
 ·rintro x rest b s' ⟨done,left,rfl,hl,hb,rfl⟩;cases hl with
  |@cons k b' ks' _ h1 hl'=>
   have e:({s with toks:=s.toks+drw knd done+knd.draws k}:Shared)={s with toks:=s.toks+drw knd (done++[k])}:=by simp[drw,Lb]
   refine Aa (knd.pyHash (s:={s with toks:=s.toks+drw knd done}) hr h1 ?_)
   first
    |exact Ac ⟨done++[k],ks',by simp,hl',by simp[hb],e⟩
    |exact Aa (Ac (Ac ⟨done++[k],ks',by simp,hl',by simp[hb],e⟩))
 ·rintro b s' ⟨done,left,rfl,hl,hb,rfl⟩;cases hl;rw[Gn]at h;show wpAny _ _ (retInt (Cy b.toList)) _ _ _;rw[hb];refine wpAny_ret_mkInt ?_;show wpAny _ _ (if(decide (-(2:Int)^63<=Cy (done.map knd.hash))&&decide (Cy (done.map knd.hash)<2^63))=true then _ else _) Q E _;unfold hsh To at h
  by_cases hr:(decide (-(2:Int)^63<=Cy (done.map knd.hash))&&decide (Cy (done.map knd.hash)<2^63))=true
  ·rw[if_pos hr];rw[if_pos hr]at h;exact Ac (by simpa [Lb]using h)
  ·rw[if_neg hr];rw[if_neg hr]at h;exact Aa (Fs (Ac (by simpa [Lb]using h)))
def Jtj{P:Fin->Shared->Prop}(hr:knd.room A)(hx:Is knd s.heap x a)(hy:Is knd s.heap y b)(h:P (.done (.ret (.bool (decide (x=y))))) s):
  wpAny (model prog w) A (Builtin.«tuple.__eq__» ⟨[.ref a,.ref b],[]⟩) P E s:=by
 have hTb:=hy.typeIs;obtain⟨oa,xs,na,hoa,_,hda,hia⟩:=hx;obtain⟨ob,ys,nb,hob,_,hdb,hib⟩:=hy;show wpAny _ _ (O5 (.ref b) (.type "tuple")>>=_) _ _ s;refine Aa (Dy hTb Hj ?_);simp only[Dl,Ar,if_false];refine Aa (Me hoa hda (Aa (Me hob hdb (Aa ?_))));refine Dk _
  (λrest r s'=>r.1=none/\s'=s/\∃x' y' xs' ys',rest=List.zip xs' ys'/\Refs knd s.heap x' xs'/\Refs knd s.heap y' ys'/\decide (x'=y')=decide (x=y)/\(xs'.length==ys'.length)=(xs.size==ys.size))
  _ ?_ ?_ _ _ ⟨rfl,rfl,x,y,xs.toList,ys.toList,rfl,hia,hib,rfl,by simp⟩
 ·rintro⟨u,v⟩ rest r s' ⟨hr',rfl,x',y',xs',ys',hz,hx',hy',hdec,hlen⟩;cases hx' with
  |nil=>simp at hz
  |@cons k1 u' x'' xs'' h1 hx''=>
   cases hy' with
   |nil=>simp at hz
   |@cons k2 v' y'' ys'' h2 hy''=>
    simp only[Qk,Pw,Kk]at hz;obtain⟨⟨rfl,rfl⟩,rfl⟩:=hz;refine Aa (knd.eqBool hr h1 h2 ?_)
    by_cases hk:k1=k2
    ·subst hk;rw[decide_eq_true rfl];simp only[Dl,Ar,if_false];refine Ac ⟨rfl,rfl,x'',y'',xs'',ys'',rfl,hx'',hy'',?_,by simpa using hlen⟩;rw[<-hdec]
     by_cases hxy:x''=y''<;>simp[hxy]
    ·rw[decide_eq_false hk];simp only[Tc,if_true];have hf:decide (x=y)=false:=by rw[<-hdec];simp[hk]
     rw[hf]at h;exact Aa (Ac (Ac (Ac h)))
 ·rintro⟨r1,r2⟩ s' ⟨hr',rfl,x',y',xs',ys',hz,hx',hy',hdec,hlen⟩;simp only at hr';subst hr';refine Ac ?_;have hfin:(xs.size==ys.size)=decide (x=y):=by
   rw[<-hdec,<-hlen];cases hx' with
   |nil=>cases hy'<;>simp
   |cons _ _=>
    cases hy' with
    |nil=>simp
    |cons _ _=>simp at hz
  show P (.done (.ret (.bool (xs.size==ys.size)))) s';rw[hfin];exact h
def eq_{Q:Bool->Shared->Prop}(hu:A.units<C0)(hr:knd.room A.in1)(hx:Is knd s.heap x a)(hy:Is knd s.heap y b)(h:Q (decide (x=y)) s):wpAny (model prog w) A (eqBool (.ref a) (.ref b)) Q E s:=by
 unfold eqBool
 try with_reducible refine Bi ?_
 show wpAny _ _ (if(Aq a==Aq b)=true then _ else _) Q E s
 by_cases hab:(Aq a==Aq b)=true
 ·rw[if_pos hab];have e:a=b:=by have:=eq_of_beq hab;injection this
  subst e;obtain rfl:=hx.inj hy;exact Aa (Fs (Ac (by simpa using h)))
 ·rw[if_neg hab];exact Aa (Iw (op:=.Eq) hx.typeIs hy.typeIs Hy
   (Bg Hy hx.typeIs F.entry_tuple_eq (Jtj hr hx hy ⟨_,rfl,(λe=>nomatch e),Dn h⟩) (F.args_tuple_eq_2 _ _)) hu)
def Ju9{Q:Bool->Shared->Prop}(q7:∀{A:Bl} {E:Value->Shared->Prop} {s:Shared} {k:K} {b:Addr} {Q:Bool->Shared->Prop},knd.is s.heap k b->Q true s->wpAny (model prog w) A (Nm 7 (.ref b)) Q E s)
  (hk:Is knd s.heap ks a)(h:Q true s):wpAny (model prog w) A (Nm 8 (.ref a)) Q E s:=by
 have hT:=hk.typeIs;obtain⟨o,items,n,ho,_,hd,hi⟩:=hk;unfold Nm;refine Aa (Fz hT Hy.lookup ?_);show wpAny _ _ (O5 (.ref a) (.type "tuple")>>=_) _ _ s;refine Aa (Dy hT Hj ?_);simp only[Dl,Ar,if_false];refine Aa (D6 ho hd (Aa ?_));show wpAny _ _ (forIn items _ _) _ _ s;rw[<-Fc];refine Dk _ (λrest r s'=>r.1=none/\s'=s/\∃ls,Refs knd s.heap ls rest) _ ?_ ?_ _ _ ⟨rfl,rfl,ks,hi⟩
 ·rintro v rest r s' ⟨hr,rfl,ls,hl⟩;cases hl with
  |cons h1 h2=>
   refine Aa (q7 h1 ?_);simp only[Dl,Ar,if_false];exact Ac ⟨rfl,rfl,_,h2⟩
 ·rintro⟨r1,r2⟩ s' ⟨hr,rfl,_⟩;simp only at hr;subst hr;exact Ac h
end
section
variable {prog:Program} {w:World} {K:Type} [DecidableEq K] {knd:KeyKind prog w K} {A:Bl} {E:Value->Shared->Prop} {s:Shared}
def Jva{Q:Bool->Shared->Prop}(hk:T1 knd s.heap ks a)(h:Q true s):wpAny (model prog w) A (Nm 7 (.ref a)) Q E s:=by
 have hT:=hk.typeIs;obtain⟨o,items,n,ho,_,hd,hi⟩:=hk;unfold Nm;refine Aa (Fz hT Hy.lookup ?_);show wpAny _ _ (O5 (.ref a) (.type "tuple")>>=_) _ _ s;refine Aa (Dy hT Hj ?_);simp only[Dl,Ar,if_false];refine Aa (D6 ho hd (Aa ?_));show wpAny _ _ (forIn items _ _) _ _ s;rw[<-Fc];refine Dk _ (λrest r s'=>r.1=none/\s'=s/\∀v∈rest,O6 v=true) _ ?_ ?_ _ _ ⟨rfl,rfl,hi.byValue⟩
 ·rintro v rest r s' ⟨hr,rfl,hall⟩;rw[eqIsQuiet_byValue _ (hall v Bn)];refine Aa (Ac ?_);simp only[Dl,Ar,if_false];exact Ac ⟨rfl,rfl,λu hu'=>hall u (Ay _ hu')⟩
 ·rintro⟨r1,r2⟩ s' ⟨hr,rfl,_⟩;simp only at hr;subst hr;exact Ac h
end
noncomputable def Jii{prog:Program}{w:World}{K:Type}[DecidableEq K](knd:KeyKind prog w K):Ke prog w (List (List K))where
 is:=Is (tupleKind knd)
 hash:=hsh (tupleKind knd)
 draws:=λks=>drw (tupleKind knd) ks+1
 room:=λA=>A.units<C0/\(tupleKind knd).room A.in1
 inj:=λhx hy=>hx.inj hy
 keeps:=λx ho hd hs=>x.keeps ho hd hs
 pyHash:=λhu hk h=>Jy9 hu.1 hu.2 hk h
 eqBool:=λhu hx hy h=>eq_ hu.1 hu.2 hx hy h
 quiet:=λhk h=>Ju9 (λq h=>Jva q h) hk h
end Nst
namespace L2
open PySem PySem.Spec PyProof.Rows Nst
abbrev RK:=List (List Key)
noncomputable def Rg(a:Addr)(xs:List (RK×Addr×Value)):HO:=.ext λP w h=>(a==sysModules)=false/\(xs.map (·.1)).Nodup/\∃o es ep,h.get? a=some o/\o.ExactDict/\o.data=.dict es ep/\es.toList=xs.map (entryOfKey (Jii (mixKind P w)))
inductive V4 (K:Af) (H:Hp) (r:RK) (a:Addr):Prop
 |mk (bs:List Addr) (_:SqT K H a (bs.map V.ref)) (_:Paired (λk b=>SqT K H b (k.map kV)) r bs):V4 K H r a
section
variable {X:Cx} {pins:List (Addr×Obj)} {U:St} {H:Hp} {s:Shared} {a b:Addr} {r:RK} {xs:List (RK×Addr×Value)} {A:Bl} {E:Value->Shared->Prop}
def Js2(I:Inv X pins U H s)(x:V4 X.K H r a):(Jii (mixKind X.prog X.w)).is s.heap r a:=by
 obtain⟨bs,e,q⟩:=x;obtain⟨its,rel,⟨o,h1,h2,n,h3⟩,_⟩:=I.tuple e;refine⟨o,its.toArray,n,h1,h2,h3,?_⟩;have go:∀{r:RK} {bs:List Addr} {its:List Value},Paired (λk b=>SqT X.K H b (k.map kV)) r bs->Vals (bs.map V.ref) its->Refs (tupleKind (mixKind X.prog X.w)) s.heap r its:=by
  intro r bs its q
  induction q generalizing its with
  |nil=>intro v;cases v;exact .nil
  |cons hq _ ih=>
   intro v;cases v with
   |cons v1 v2=>
    cases v1;obtain⟨its,r1,⟨o,h1,h2,n,h3⟩,_⟩:=I.tuple hq;exact .cons ⟨o,its.toArray,n,h1,h2,h3,by simpa using Jej r1⟩ (ih v2)
 simpa using go q rel
def Ju3(I:Inv X pins U H s)(e:H a=some (Rg a xs))(hk:∀x∈xs,V4 X.K H x.1 x.2.1):(a==sysModules)=false/\s.heap.DictOfH (Jii (mixKind X.prog X.w)) a xs:=by
 obtain⟨⟨q1,q2,o,es,ep,q3,q4,q5,q6⟩,_⟩:=(show U1 X.prog X.w H s.heap a (Rg a xs)from I.hok a _ e)
 exact⟨q1,o,es,ep,q3,q4,q5,q6,λx hx=>Js2 I (hk x hx),q2⟩
def Ju1(hu:A.units+2<C0):(Jii (mixKind P w)).room A.in1:=by
 have a1:A.in1.units<=A.units+1:=by simp[Around.in1,Around.units]<;>omega
 exact⟨by omega,Di (by omega)⟩
def Jyd(I:Inv X pins U H s)(e:H a=some (Rg a xs)):s.TypeIs (.ref a) "dict":=by
 obtain⟨⟨q1,q2,o,es,ep,q3,q4,q5,q6⟩,_⟩:=(show U1 X.prog X.w H s.heap a (Rg a xs)from I.hok a _ e)
 exact⟨o,q3,q4.1⟩
def Jxj{p:Addr×Value}{Q:Value->Shared->Prop}(hu:A.units+2<C0)(I:Inv X pins U H s)(e:H a=some (Rg a xs))(hk:∀x∈xs,V4 X.K H x.1 x.2.1)(eb:V4 X.K H r b)(hp:Gq xs r=some p)
  (h:∀s',Inv X pins U H s'->Q p.2 s'):wpAny (model X.prog X.w) A (Ko (.ref a) (.ref b)) Q E s:=by
 obtain⟨hd,dd⟩:=Ju3 I e hk;have rm:(Jii (mixKind X.prog X.w)).room A.in1:=Ju1 hu;exact Tf rm (Js2 I eb) dd hp (h _ (I.tok _))
def Ju2{h:Heap}{o:Obj}{es:Array B6}(hd:(a==sysModules)=false)(h5:(xs.map (·.1)).Nodup)(hq:h.get? a=some o)(h2:o.ExactDict)(h3:o.data=.dict es ep)(h4:es.toList=xs.map (entryOfKey (Jii (mixKind P w)))):U1 P w H h a (Rg a xs):=
 ⟨⟨hd,h5,o,es,ep,hq,h2,h3,h4⟩,⟨o,hq⟩,λg1 g2 ⟨w1,w2,o,es,ep,w3,w4⟩ k=>⟨w1,w2,o,es,ep,k o w3,w4⟩⟩
def Jxg{Q:Unit->Shared->Prop}(hu:A.units+2<C0)(I:Inv X pins U H s)(e:H a=some (Rg a xs))(hk:∀x∈xs,V4 X.K H x.1 x.2.1)(eb:V4 X.K H r b)(hz:xs.length<sizeLine)
  (h:∀s',Inv X pins U (upd H a (Rg a (Oq xs r b u))) s'->Q () s'):wpAny (model X.prog X.w) A (Uh (.ref a) (.ref b) u) Q E s:=by
 obtain⟨hd,dd⟩:=Ju3 I e hk;have rm:(Jii (mixKind X.prog X.w)).room A.in1:=Ju1 hu;refine Te (hsz:=Eg hz) rm (Js2 I eb) dd λh' dd' hs=>h _ ?_;obtain⟨q,es,ep,hq,h2,h3,h4,_,h5⟩:=dd';exact Jgc I (by rw[e];exact E1) hs ⟨q,hq⟩ (Ju2 hd h5 hq h2 h3 h4)
def Joa:PE X (.Dict [] [] pos) (λ_ H Q=>∀p,H p=none->Q (.ref p) (upd H p (Rg p []))):=λpins s U H Q I h=>
 Nj ⟨.ref s.heap.objs.size,_,I.laid (a:=s.heap.objs.size) (o:=Rg s.heap.objs.size []) (t':=s.toks) (λ_ _ q=>Ad _ q) (Ai _) (Ju2 (beq_eq_false_iff_ne.mpr (Eb (As I.big))) Ie (Aj _ rfl) ⟨rfl,rfl,rfl⟩ rfl rfl),rfl,h _ (I.hok.fresh (Ai _))⟩
end
end L2
namespace LZ
open PySem PyProof.Rows
section
variable {prog:Program} {w:World} {A:Bl} {E:Value->Shared->Prop} {s:Shared}
def item{Q:Value->Shared->Prop}(D:Lf z a b p q u v)(hz:Kc s.heap z a b .none)(ha:Gg s.heap a (.ref p) (.ref q))(hb:Gg s.heap b c0 c1)
  (h1:s.heap.IsListIter p u m)(h2:s.heap.IsTupleIter q v n)(hu:s.heap.IsList u us)(hv:s.heap.IsTuple v vs)(hx:us[m]? =some x)(hy:vs[n]? =some y)
  (k:∀h',Kc h' z a b (rawInt s.heap.objs.size)->Gg h' b x y->h'.IsListIter p u (m+1)->h'.IsTupleIter q v (n+1)->Gg h' s.heap.objs.size x y->h'.objs.size=s.heap.objs.size+1->
   (∀c o,c≠z->c≠b->c≠p->c≠q->s.heap.get? c=some o->h'.get? c=some o)->Q (.ref s.heap.objs.size) {s with heap:=h'}):
  wpAny (model prog w) A (Builtin.«zip.__next__» ⟨[.ref z],[]⟩) (λfin s'=>∃v,fin=.done (.ret v)/\Q v s') E s:=by
 show wpAny _ A (Qc (.ref z) 2>>=_) _ _ s;refine Aa (B5 hz rfl (x:=.bool false) rfl (?_:wpAny _ A (Qc (.ref z) 3>>=_) _ _ s));refine Aa (B5 hz rfl (x:=.ref a) rfl (Aa (D6 ha rfl (?_:wpAny _ A (B8 (.ref z)>>=_) _ _ s))));refine Aa (m:=B8 (.ref z)) ?_;unfold B8;refine Aa (B5 hz rfl (x:=.none) rfl (Ac ?_));simp only[if_true];refine Aa (Fs (Aa (B5 hz rfl (x:=.ref b) rfl (Aa (Co hz (by simp) λg1 z1 t1=>?_)))))
 replace z1:Kc g1 z a b .ellipsis:=z1
 refine Aa ?_;simp only[Ri,R8,Hl,Sx];refine Aa (Aa (Pz ?_));show wpAny _ _ (Cq (.ref p)>>=_) _ _ _;refine Aa (wpAny_nextOf_list_item (h1.extBut t1.extBut D.i1z) (hu.extBut t1.extBut D.l1z) hx λg2 r2 t2=>Ac ?_);have b2:Gg g2 b c0 c1:=t2.extBut _ _ D.TOi1 (t1.extBut _ _ D.TOz hb);refine Aa (D6 b2 rfl (Aa (Rk b2 λg3 b3 t3=>?_)))
 replace b3:Gg g3 b x c1:=b3
 refine Aa (Nz (Ac ?_));refine Aa (Aa (Pz ?_));show wpAny _ _ (Cq (.ref q)>>=_) _ _ _;refine Aa (nx (((h2.extBut t1.extBut D.i2z).extBut t2.extBut D.i12.symm).extBut t3.extBut D.TOi2.symm) (((hv.extBut t1.extBut D.l2z).extBut t2.extBut D.l2i1).extBut t3.extBut D.l2TO) hy λg4 r4 t4=>Ac ?_);have b4:Gg g4 b x c1:=t4.extBut _ _ D.TOi2 b3;refine Aa (D6 b4 rfl (Aa (Rk b4 λg5 b5 t5=>?_)))
 replace b5:Gg g5 b x y:=b5
 refine Aa (Nz (Ac (Ac (Aa (D6 b5 rfl (Aa (O2 ?_)))))));have sz:g5.objs.size=s.heap.objs.size:=by rw[t5.1,t4.1,t3.1,t2.1,t1.1]
 have z5:Kc g5 z a b .ellipsis:=t5.extBut _ _ D.TOz.symm (t4.extBut _ _ D.i2z.symm (t3.extBut _ _ D.TOz.symm (t2.extBut _ _ D.i1z.symm z1)));have k5:∀c o,c≠z->c≠b->c≠p->c≠q->s.heap.get? c=some o->g5.get? c=some o:=λc o n1 n2 n3 n4 e=>t5.extBut _ _ n2 (t4.extBut _ _ n4 (t3.extBut _ _ n2 (t2.extBut _ _ n3 (t1.extBut _ _ n1 e))));have r5:g5.IsListIter p u (m+1):=((r2.extBut t3.extBut D.TOi1.symm).extBut t4.extBut D.i12).extBut t5.extBut D.TOi1.symm;have w5:g5.IsTupleIter q v (n+1):=r4.extBut t5.extBut D.TOi2.symm;have lz:z<g5.objs.size:=Am z5;show wpAny _ _ (Ic (.ref z) (.ref g5.objs.size)>>=_) _ _ _;refine Aa ?_;unfold Ic;have z6:Kc (g5.push {cls:=.type "tuple",data:=.seq #[x,y]}) z a b .ellipsis:=Ad _ z5;refine Aa (Co z6 (by simp) λg7 z7 t7=>?_)
 replace z7:Kc g7 z a b (rawInt g5.objs.size):=z7
 refine Co z7 (by simp) λg8 z8 t8=>?_
 replace z8:Kc g8 z a b (rawInt g5.objs.size):=z8
 have up:∀c o,c≠z->g5.get? c=some o->g8.get? c=some o:=λc o n1 e=>t8.extBut _ _ n1 (t7.extBut _ _ n1 (Ad _ e));have n8:Gg g8 g5.objs.size x y:=t8.extBut _ _ (Cj lz) (t7.extBut _ _ (Cj lz) (Aj _ rfl));have s8:g8.objs.size=g5.objs.size+1:=by rw[t8.1,t7.1,Cd]
 rw[sz]at z8 n8 s8;refine Ac ⟨_,rfl,(?_:Q (.ref g5.objs.size) _)⟩;rw[sz];exact k g8 z8 (up _ _ D.TOz b5) (r5.at λo e=>up _ o D.i1z e) (w5.at λo e=>up _ o D.i2z e) n8 s8 λc o n1 n2 n3 n4 e=>up c o n1 (k5 c o n1 n2 n3 n4 e)
def last{Q:Fin->Shared->Prop}(hh:A.handled=none)(D:Lf z a b p q u v)(hz:Kc s.heap z a b .none)(ha:Gg s.heap a (.ref p) (.ref q))
  (h1:s.heap.IsListIter p u m)(hu:s.heap.IsList u us)(he:us[m]? =none)
  (k:∀h' e,(∀c o,c≠z->c≠b->c≠p->c≠q->s.heap.get? c=some o->h'.get? c=some o)->(∃o,h'.get? e=some o/\o.cls=.type "StopIteration")->E (.ref e) {s with heap:=h'}):
  wpAny (model prog w) A (Builtin.«zip.__next__» ⟨[.ref z],[]⟩) Q E s:=by
 show wpAny _ A (Qc (.ref z) 2>>=_) _ _ s;refine Aa (B5 hz rfl (x:=.bool false) rfl (?_:wpAny _ A (Qc (.ref z) 3>>=_) _ _ s));refine Aa (B5 hz rfl (x:=.ref a) rfl (Aa (D6 ha rfl (?_:wpAny _ A (B8 (.ref z)>>=_) _ _ s))));refine Aa (m:=B8 (.ref z)) ?_;unfold B8;refine Aa (B5 hz rfl (x:=.none) rfl (Ac ?_));simp only[if_true];refine Aa (Fs (Aa (B5 hz rfl (x:=.ref b) rfl (Aa (Co hz (by simp) λg1 z1 t1=>?_)))))
 replace z1:Kc g1 z a b .ellipsis:=z1
 refine Aa ?_;simp only[Ri,R8,Hl,Sx];refine Aa (Aa (Pz ?_));show wpAny _ _ (Cq (.ref p)>>=_) _ _ _;refine Aa (wpAny_nextOf_list_end hh (h1.extBut t1.extBut D.i1z) (hu.extBut t1.extBut D.l1z) he λg2 e t2 ⟨oe,eo,ce⟩=>?_);have z2:Kc g2 z a b .ellipsis:=t2 _ _ D.i1z.symm z1;have nz:e≠z:=λr=>by subst r;rw[z2]at eo;cases eo;simp at ce
 exact Co z2 (by simp) λg3 _ t3=>k g3 e (λc o n1 _ n3 _ r=>t3.extBut _ _ n1 (t2 _ _ n3 (t1.extBut _ _ n1 r))) ⟨oe,t3.extBut _ _ nz eo,ce⟩
def go{Q:Option Value->Shared->Prop}(D:Lf z a b p q u v)(hz:Kc s.heap z a b .none)(ha:Gg s.heap a (.ref p) (.ref q))(hb:Gg s.heap b c0 c1)
  (h1:s.heap.IsListIter p u m)(h2:s.heap.IsTupleIter q v n)(hu:s.heap.IsList u us)(hv:s.heap.IsTuple v vs)(hx:us[m]? =some x)(hy:vs[n]? =some y)
  (k:∀h',Kc h' z a b (rawInt s.heap.objs.size)->Gg h' b x y->h'.IsListIter p u (m+1)->h'.IsTupleIter q v (n+1)->Gg h' s.heap.objs.size x y->h'.objs.size=s.heap.objs.size+1->
   (∀c o,c≠z->c≠b->c≠p->c≠q->s.heap.get? c=some o->h'.get? c=some o)->Q (some (.ref s.heap.objs.size)) {s with heap:=h'}):wpAny (model prog w) A (pyNext (.ref z)) Q E s:=by
 have ty:s.TypeIs (.ref z) "zip":=⟨_,hz,rfl⟩
 unfold pyNext;exact Aa (El (Bv (name:=Ab "__next__") ty Kj (Bg Kj ty T3 (item D hz ha hb h1 h2 hu hv hx hy λh' r1 r2 r3 r4 r5 r6 r7=>Ac (k h' r1 r2 r3 r4 r5 r6 r7)) (Si _))))
def stop{Q:Option Value->Shared->Prop}(hh:A.handled=none)(D:Lf z a b p q u v)(hz:Kc s.heap z a b .none)(ha:Gg s.heap a (.ref p) (.ref q))
  (h1:s.heap.IsListIter p u m)(hu:s.heap.IsList u us)(he:us[m]? =none)
  (k:∀h',(∀c o,c≠z->c≠b->c≠p->c≠q->s.heap.get? c=some o->h'.get? c=some o)->Q none {s with heap:=h'}):wpAny (model prog w) A (pyNext (.ref z)) Q E s:=by
 have ty:s.TypeIs (.ref z) "zip":=⟨_,hz,rfl⟩
 unfold pyNext;refine Aa (El (Bv (name:=Ab "__next__") ty Kj (Bg Kj ty T3 (last hh D hz ha h1 hu he λh' e r1 ⟨o,eo,ce⟩=>?_) (Si _))));exact Aa (Dy (T:="StopIteration") (b:=true) ⟨o,eo,ce⟩ O4 (Ac (k _ r1)))
end
noncomputable abbrev g1(h:Heap)(u:Addr):Heap:=h.push {cls:=.type "list_iterator",data:=.fields #[.ref u,.int 0 0]}
noncomputable abbrev g2(h:Heap)(u v:Addr):Heap:=(g1 h u).push {cls:=.type "tuple_iterator",data:=.fields #[.ref v,.int 0 0]}
noncomputable abbrev g3(h:Heap)(u v:Addr):Heap:=(g2 h u v).push {cls:=.type "tuple",data:=.seq #[.ref h.objs.size,.ref (g1 h u).objs.size]}
noncomputable abbrev g4(h:Heap)(u v:Addr):Heap:=(g3 h u v).push {cls:=.type "tuple",data:=.seq #[.none,.none]}
noncomputable abbrev g5(h:Heap)(u v:Addr):Heap:=(g4 h u v).push {cls:=.type "zip",data:=.fields #[.none,.bool false,.bool false,.ref (g2 h u v).objs.size,.ref (g3 h u v).objs.size]}
def made(u v:Addr)(us vs:Array Value):Meets (Builtin.«zip.__new__» ⟨[.type "zip",.ref u,.ref v],[]⟩) (λ_ R s=>s.heap.IsList u us/\s.heap.IsTuple v vs/\R (.ok (.ret (.ref (g4 s.heap u v).objs.size))) {s with heap:=g5 s.heap u v}):=
 .of_wp λprog w A R s ⟨hu,hv,h⟩=>by
  obtain⟨hp,g,d,tk,os⟩:=s;have sb:=sub_zip;have k1:Heap.IsList (Ot ⟨hp,g,d,tk,os⟩) u us:=hu;have k2:Um (Ot ⟨hp.push {cls:=.type "list_iterator",data:=.fields #[.ref u,.int 0 0]},g,d,tk,os⟩) v vs:=Heap.IsTuple.push hv _
  wp_walk using F4 k1,Ji k2
  exact⟨_,rfl,h⟩
def new{E:Value->Shared->Prop}{s:Shared}{Q:Value->Shared->Prop}(hu:s.heap.IsList u us)(hv:s.heap.IsTuple v vs)
  (k:∀h',Kc h' (s.heap.objs.size+4) (s.heap.objs.size+2) (s.heap.objs.size+3) .none->Gg h' (s.heap.objs.size+2) (.ref s.heap.objs.size) (.ref (s.heap.objs.size+1))->Gg h' (s.heap.objs.size+3) .none .none->
   h'.IsListIter s.heap.objs.size u 0->h'.IsTupleIter (s.heap.objs.size+1) v 0->h'.objs.size=s.heap.objs.size+5->(∀c o,s.heap.get? c=some o->h'.get? c=some o)->Q (.ref (s.heap.objs.size+4)) {s with heap:=h'}):
  wpAny (model prog w) A (call (.type "zip") [.ref u,.ref v]) Q E s:=by
 refine callType_new F.called_zip (by decide) (F.typeCall_zip_2 _ _) (F.newCall_zip_2 _ _) (λobj=>F.args_object_init_3 obj _ _) F.entry_zip_new (made u v us vs) ⟨hu,hv,?_⟩;have z1:(g1 s.heap u).objs.size=s.heap.objs.size+1:=Cd ..;have z2:(g2 s.heap u v).objs.size=s.heap.objs.size+2:=by rw[Cd,z1]
 have z3:(g3 s.heap u v).objs.size=s.heap.objs.size+3:=by rw[Cd,z2]
 have z4:(g4 s.heap u v).objs.size=s.heap.objs.size+4:=by rw[Cd,z3]
 have z5:(g5 s.heap u v).objs.size=s.heap.objs.size+5:=by rw[Cd,z4]
 have up:∀{h:Heap} {c:Addr} {o o':A5},h.get? c=some o->(h.push o').get? c=some o:=λe=>Ad _ e;have e5:(g5 s.heap u v).get? (g4 s.heap u v).objs.size=some _:=Aj _ rfl;have e4:(g5 s.heap u v).get? (g3 s.heap u v).objs.size=some _:=up (Aj _ rfl);have e3:(g5 s.heap u v).get? (g2 s.heap u v).objs.size=some _:=up (up (Aj _ rfl));have e2:(g5 s.heap u v).get? (g1 s.heap u).objs.size=some _:=up (up (up (Aj _ rfl)));have e1:(g5 s.heap u v).get? s.heap.objs.size=some _:=up (up (up (up (Aj _ rfl))));show _/\_;rw[z2,z3,z4]at e5;rw[z1,z2]at e3;rw[z3]at e4;rw[z1]at e2;rw[z4];exact⟨⟨_,e5,rfl⟩,k _ e5 e3 e4 ⟨_,e1,rfl,rfl⟩ ⟨_,e2,rfl,rfl⟩ z5 λc o r=>up (up (up (up (up r))))⟩
end LZ
namespace L2
open PySem PySem.Spec PyProof.Rows
noncomputable def Izz(K:Af)(u v:Addr)(ys:List V):It:=
 ⟨λi H=>∃xs x y,SqL K H u xs/\SqT K H v ys/\xs[i]? =some x/\ys[i]? =some y,
  λi H w H'=>∃p x y,H p=none/\w=.ref p/\H'=upd H p (.tup [x,y])/\(∀xs,SqL K H u xs->xs[i]? =some x)/\ys[i]? =some y,
  λi H=>∃xs,SqL K H u xs/\xs.length<=i⟩
def Wei(z a b p q u v:Addr)(i:Nat)(h:Heap):Prop:=Kc h z a b .none/\Gg h a (.ref p) (.ref q)/\(∃c d,Gg h b c d)/\h.IsListIter p u i/\h.IsTupleIter q v i
def Jkr{P:Program}{w:World}{K:Af}{elts:List Expr}{x1:Nat}{tp:Pos}(z a b p q u v:Addr)(ys:List V)(ap:Lf z a b p q u v):
  Turn P w K (.Tuple elts x1 tp) (Izz K u v ys) [z,a,b,p,q] z (Wei z a b p q u v)where
 mem:=by simp
 obj:=λi h st c hc=>by
  obtain⟨hz,ha,⟨_,_,hb⟩,⟨o1,e1,c1,d1⟩,⟨o2,e2,c2,d2⟩⟩:=st;simp only[An,Bc,or_false]at hc;rcases hc with rfl|rfl|rfl|rfl|rfl
  ·exact⟨_,hz,λv q=>by cases q⟩
  ·exact⟨_,ha,λv q=>by cases q⟩
  ·exact⟨_,hb,λv q=>by cases q⟩
  ·exact⟨o1,e1,λv q=>by rw[d1]at q;cases q⟩
  ·exact⟨o2,e2,λv q=>by rw[d2]at q;cases q⟩
 keep:=λi h h' st k=>by
  obtain⟨hz,ha,⟨_,_,hb⟩,h1,h2⟩:=st;exact⟨k z (by simp) _ hz,k a (by simp) _ ha,⟨_,_,k b (by simp) _ hb⟩,h1.at λo e=>k p (by simp) o e,h2.at λo e=>k q (by simp) o e⟩
 item:=by
  intro X hP hw hK hc i pins s U H E I hf st hg;subst hP hw hK;obtain⟨xs,x,y,hq1,hq2,hx,hy⟩:=hg;have ho:∀c∈[z,a,b,p,q],∃o,s.heap.get? c=some o:=λc hc=>by
   obtain⟨hz,ha,⟨_,_,hb⟩,⟨o1,e1,_⟩,⟨o2,e2,_⟩⟩:=st;simp only[An,Bc,or_false]at hc;rcases hc with rfl|rfl|rfl|rfl|rfl
   ·exact⟨_,hz⟩
   ·exact⟨_,ha⟩
   ·exact⟨_,hb⟩
   ·exact⟨_,e1⟩
   ·exact⟨_,e2⟩
  obtain⟨hz,ha,⟨_,_,hb⟩,hi1,hi2⟩:=st;obtain⟨its1,rv1,p1,_⟩:=I.list hq1;obtain⟨its2,rv2,p2,_⟩:=I.tuple hq2;obtain⟨m1,hm1,ru⟩:=rv1.get hx;obtain⟨m2,hm2,rv⟩:=rv2.get hy;refine LZ.go ap hz ha hb hi1 hi2 p1.isList p2 (x:=m1) (y:=m2) (by simpa using hm1) (by simpa using hm2) λh' z1 to1 j1 j2 pr sz kk=>?_;refine⟨_,rfl,wpAny_letOwnedTupleGo_zip (s:={s with heap:=h'}) z1 λh2 z2 sb=>?_⟩;have hf0:H s.heap.objs.size=none:=I.hok.fresh (Ai _);have I0:Inv X pins U (upd H s.heap.objs.size (.tup [x,y])) {s with heap:=s.heap.push {cls:=.type "tuple",data:=.seq #[m1,m2]},toks:=s.toks}:=
   I.laid (t':=s.toks) (λb o e=>Ad _ e) (Ai _) ⟨by show 2<=sizeLine;decide,[m1,m2],.cons ru (.cons rv .nil),⟨_,Aj _ rfl,rfl,_,rfl⟩⟩
  have neT:∀c∈[z,a,b,p,q],c≠s.heap.objs.size:=λc hc e=>by
   obtain⟨o,r⟩:=ho c hc;exact absurd (Am r) (by rw[e];exact Eh _)
  have hf':∀c∈[z,a,b,p,q],V9 X pins (upd H s.heap.objs.size (.tup [x,y])) c:=λc hc=>by
   obtain⟨f0,f1,f2,f3,f4,f5⟩:=hf c hc;exact⟨by rw[Jac (neT c hc)];exact f0,f1,f2,f3,f4,f5⟩
  have I1:Inv X pins U (upd H s.heap.objs.size (.tup [x,y])) {s with heap:=h2,toks:=s.toks}:=by
   refine Inv.turnedL (s:={s with heap:=s.heap.push {cls:=.type "tuple",data:=.seq #[m1,m2]},toks:=s.toks}) (h':=h2) (t':=s.toks) (fp:=[z,a,b,p,q]) I0 (λc o hc e=>?_) hf'
   replace e:(s.heap.push {cls:=.type "tuple",data:=.seq #[m1,m2]}).get? c=some o:=e
   simp only[An,Bc,or_false,not_or]at hc;obtain⟨b1,b2,b3,b4,b5⟩:=hc;rw[sb.2 c b1]
   by_cases hT:c=s.heap.objs.size
   ·subst hT;have:(s.heap.push {cls:=.type "tuple",data:=.seq #[m1,m2]}).get? s.heap.objs.size=some {cls:=.type "tuple",data:=.seq #[m1,m2]}:=Aj _ rfl;rw[this]at e;cases e;exact pr
   ·have e':s.heap.get? c=some o:=by
     rw[Qy _ _ _ hT]at e;exact e
    exact kk c o b1 b3 b4 b5 e'
  refine⟨.ref s.heap.objs.size,_,I1,rfl,⟨_,x,y,hf0,rfl,rfl,λzs hz'=>by rw[I.list_inj hz' hq1];exact hx,hy⟩,⟨z2,?_,⟨m1,m2,?_⟩,?_,?_⟩,λc hc=>(hf' c hc).1⟩
  ·show h2.get? a=_;rw[sb.2 a ap.TIz];exact kk a _ ap.TIz ap.TITO ap.TIi1 ap.TIi2 ha
  ·show h2.get? b=_;rw[sb.2 b ap.TOz];exact to1
  ·exact j1.at λo e=>(sb.2 p ap.i1z).trans e
  ·exact j2.at λo e=>(sb.2 q ap.i2z).trans e
 done:=by
  intro X hP hw hK hc i pins s U H E I hf st hg;subst hP hw hK;obtain⟨xs,hq1,hl⟩:=hg;obtain⟨hz,ha,⟨_,_,hb⟩,hi1,hi2⟩:=st;obtain⟨its1,rv1,p1,_⟩:=I.list hq1;have l1:=rv1.length;refine LZ.stop (I.ok.hd hc) ap hz ha hi1 p1.isList (by simp;lia) λh' kk=>⟨rfl,I.turnedL (t':=s.toks) (fp:=[z,a,b,p,q]) (λc o hc e=>?_) hf⟩
  simp only[An,Bc,or_false,not_or]at hc;exact kk c o hc.1 hc.2.2.1 hc.2.2.2.1 hc.2.2.2.2 e
 self:=λ_ _ _ _ _ st h=>wpAny_pyIter_zip st.1 h
def Wd6(K:Af)(ta:TA):TI:=λU H R=>ta U H λvs H1=>∃u v xs ys,vs=[.ref u,.ref v]/\SqL K H1 u xs/\SqT K H1 v ys/\R (Izz K u v ys) H1
theorem boot_zip:Df "zip"=some (.type "zip"):=by rfl
def Jkm{n a b:Nat}(h1:a<n)(h2:b<n):Lf (n+4) (n+2) (n+3) n (n+1) a b:=by
 constructor<;>(intro e;replace e:@Eq Nat _ _:=e;lia)
theorem Jsf{X:Cx}{a b:Expr}{ta:TA}{p pos:Pos}{elts:List Expr}{x1:Nat}{tp:Pos}(hg:Gl X "zip")(hm:X.mg "zip"=none)(ha:PA X [a,b] ta)(hs:Bm [a,b] X.env=[(false,eval a X.env),(false,eval b X.env)])(hs2:Bm [b] X.env=[(false,eval b X.env)]):
  PI X (.Tuple elts x1 tp) (.Call (.Name "zip" p) [a,b] [] pos) (Wd6 X.K ta):=by
 intro pins s U H R I h;refine R6 (Jcc I hg hm boot_zip (C4 (thn (ha pos pins s U H _ I h) λus s1 ⟨vs,H1,I1,r1,q1⟩=>?_) (by rw[hs,hs2]) (by rw[hs2];rfl)));obtain⟨u,v,xs,ys,e,hq1,hq2,q⟩:=q1;subst e;cases r1 with
 |cons r rr=>
  cases rr with
  |cons r' rr=>
   cases rr;cases r;cases r';obtain⟨its1,rv1,p1,_⟩:=I1.list hq1;obtain⟨its2,rv2,p2,_⟩:=I1.tuple hq2;have lt1:u<s1.heap.objs.size:=p1.lt;have lt2:v<s1.heap.objs.size:=by obtain⟨o,e,_⟩:=id p2;exact Am e
   refine LZ.new p1.isList p2 λh' z1 ti to j1 j2 sz kk=>?_;refine wpAny_pyIter_zip (s:={s1 with heap:=h'}) z1 ?_;have ap:Lf (s1.heap.objs.size+4) (s1.heap.objs.size+2) (s1.heap.objs.size+3) s1.heap.objs.size (s1.heap.objs.size+1) u v:=Jkm lt1 lt2;refine⟨s1.heap.objs.size+4,_,_,_,H1,rfl,I1.kept (t':=s1.toks) kk,Jkr _ _ _ _ _ u v ys ap,⟨z1,ti,⟨_,_,to⟩,j1,j2⟩,λb hb=>?_,q⟩;have hb':s1.heap.objs.size<=b:=by
    simp only[An,Bc,or_false]at hb;rcases hb with rfl|rfl|rfl|rfl|rfl
    ·exact Hh _ _
    ·exact Hh _ _
    ·exact Hh _ _
    ·exact Ai _
    ·exact Hh _ _
   exact I1.fpOk hb' (I1.hok.fresh hb')
open PySem PySem.Spec PyProof.Rows Rdc Rdu
def Up(ps:List Rdu.PK):Prop:=∀(i:Nat) (p q:Rdu.PK),ps[i]? =some p->ps[i+1]? =some q->ltP p q=true
def UpD(H:Hp)(a:Addr)(kvs:List (List Key×V))(ps:List Rdu.PK):Prop:=Rd H a (.dT kvs)/\kvs.map (·.1)=ps.map pK/\Up ps/\kvs.length<sizeLine
section
variable {X:Cx}
def Jhj(hc:X.calm=true):Vc X (.builtin "sorted") (λxs H Q=>∃a kvs ps,xs=[.ref a]/\UpD H a kvs ps/\∀(p:Addr) (bs:List Addr),H p=none->bs.length=ps.length->(∀(i:Nat) (b:Addr) (q:Rdu.PK),bs[i]? =some b->ps[i]? =some q->H b=some (.tup ((pK q).map kV)))->Q (.ref p) (upd H p (.lst (bs.map V.ref)))):=by
 intro pins s U H xs us Q I r h;obtain⟨a,kvs,ps,rfl,⟨e,ek,up,hz⟩,q⟩:=h;obtain⟨u,rfl,ru⟩:=vals1 r;cases ru;exact Jms (I.ok.hd hc) I e ek up hz λp bs s' hp hl hb I'=>⟨.ref p,_,I',rfl,q p bs hp hl hb⟩
def Jfk:Vc X (.type "dict") (λxs H Q=>∃a,xs=[.ref a]/\((∃kvs,Rd H a (.dK kvs)/\∀p,H p=none->Q (.ref p) (upd H p (.dK kvs)))\/∃kvs,Rd H a (.dT kvs)/\Apart X.prog X.w kvs/\∀p,H p=none->Q (.ref p) (upd H p (.dT kvs)))):=by
 intro pins s U H xs us Q I r h;obtain⟨a,rfl,q⟩:=h;obtain⟨u,rfl,ru⟩:=vals1 r;cases ru;rcases q with⟨kvs,e,q⟩|⟨kvs,e,ap,q⟩
 ·exact Jpd I e λp s' hp I'=>⟨.ref p,_,I',rfl,q p hp⟩
 ·exact Jtm I e ap λp s' hp I'=>⟨.ref p,_,I',rfl,q p hp⟩
def Jm1:Vc X (.builtin "len") (λxs H Q=>∃a kvs,xs=[V.ref a]/\H a=some (.dK kvs)/\Q (.int kvs.length) H):=by
 intro pins s U H xs us Q I r h;obtain⟨a,kvs,rfl,ha,q⟩:=h;obtain⟨u,rfl,ru⟩:=vals1 r;cases ru;exact Jzj I (.inl ha) λt s' I'=>⟨.int kvs.length,H,I',⟨t,rfl⟩,q⟩
theorem boot_dict:Df "dict"=some (.type "dict"):=by rfl
theorem boot_sorted:Df "sorted"=some (.builtin "sorted"):=by rfl
def Z3(to:TE):TE:=λU H Q=>to U H λx H1=>∃a kvs ps,x=.ref a/\UpD H1 a kvs ps/\∀p,H1 p=none->Q (.ref p) (upd H1 p (.dT kvs))
def Jso{ap cp:Pos}(hc:X.calm=true)(hu:X.A.units+8<C0)(g1:Gl X "dict")(m1:X.mg "dict"=none)(g2:Gl X "sorted")(m2:X.mg "sorted"=none)(ho:PE X o to)
  (hbase:attributeBase o "items" X.env (eval o X.env)=eval o X.env)(hline:(ap.endLine==cp.line)=true):PE X (.Call (.Name "dict" p1) [.Call (.Name "sorted" p2) [.Call (.Attribute o "items" ap) [] [] cp] [] pos2] [] pos1) (Z3 to):=by
 intro pins s U H Q I h;refine R6 (Jcc I g1 m1 boot_dict (C4 ?_ rfl rfl));show wpAny _ _ (Qs ((false,eval (.Call (.Name "sorted" p2) [.Call (.Attribute o "items" ap) [] [] cp] [] pos2) X.env)::D8 pos1 (Bm [] X.env))) _ _ s;refine Hz (R6 (Jcc I g2 m2 boot_sorted (Gs ?_ rfl rfl)));show wpAny _ _ (Qs ((false,eval (.Call (.Attribute o "items" ap) [] [] cp) X.env)::D8 pos2 (Bm [] X.env))) _ _ s;refine Hz (J2 hbase hline (thn (ho pins s U H _ I h) λv s1 ⟨x,H1,I1,r1,q1⟩=>?_));obtain⟨a,kvs,ps,rfl,⟨e,ek,up,hz⟩,q⟩:=q1;cases r1;obtain⟨h1,h2,_⟩:=Jma I1 (.inr ⟨kvs,e⟩);refine⟨"dict","dict.items",Gi,M7,PySem.F.type_dict_items,h1,h2,Fb rfl (Kq ?_)⟩;refine thn (Jxi (I1.ok.hd hc) hu I1 e ek up hz λp s' hp I'=>(⟨.ref p,_,I',rfl,q p hp⟩:EP X pins U Q (.ref p) s')) λr s2 hr=>Iu (thn hr λl s3 hl=>Iu hl)
theorem Jtx:Df "len"=some (.builtin "len"):=by rfl
theorem Jtw:Df "set"=some (.type "set"):=by rfl
noncomputable def dst(ps:List Rdu.PK):Nat:=(Sbl.dd (λi=>[(ps.getD i (0,0)).1,(ps.getD i (0,0)).2]) ps.length).length
def tLs(K:Af)(ta:TA):TE:=λU H Q=>ta U H λvs H1=>∃p bs ps,vs=[.ref p]/\SqL K H1 p (bs.map V.ref)/\Paired (λk b=>SqT K H1 b ((pK k).map kV)) ps bs/\ps.length<4/\Q (.int (dst ps)) H1
theorem Jlt{α β:Type}{R:α->β->Prop}{xs:List α}{ys:List β}(h:Paired R xs ys):∀{i:Nat} {y:β},ys[i]? =some y->∃x,xs[i]? =some x/\R x y:=by
 induction h with
 |nil=>intro i y e;simp at e
 |cons h _ ih=>
  intro i y e;cases i with
  |zero=>cases e;exact⟨_,rfl,h⟩
  |succ i=>simp only[Bu]at e ⊢;exact ih e
def Jlm{e:Expr}{ta:TA}{p1 p2 pos1 pos2:Pos}(hc:X.calm=true)(hu:X.A.units+9<C0)(g1:Gl X "len")(m1:X.mg "len"=none)(g2:Gl X "set")(m2:X.mg "set"=none)(he:PA X [e] ta)(hs:Bm [e] X.env=[(false,eval e X.env)]):
  PE X (.Call (.Name "len" p1) [.Call (.Name "set" p2) [e] [] pos2] [] pos1) (tLs X.K ta):=by
 intro pins s U H Q I h;refine R6 (Jcc I g1 m1 Jtx (Gs ?_ rfl rfl));show wpAny _ _ (Qs ((false,eval (.Call (.Name "set" p2) [e] [] pos2) X.env)::D8 pos1 (Bm [] X.env))) _ _ s;refine Hz (R6 (Jcc I g2 m2 Jtw (C4 (thn (he pos2 pins s U H _ I h) λus s1 ⟨vs,H1,I1,r1,q1⟩=>?_) (by rw[hs];rfl) rfl)));obtain⟨p,bs,ps,e1,hq,hp,hz,q⟩:=q1;subst e1;obtain⟨u,rfl,rx⟩:=vals1 r1;cases rx;obtain⟨its,rv,pl,_⟩:=I1.list hq;have hl:=rv.length;rw[Ah,<-Ce hp]at hl;have hsz:its.toArray.size=ps.length:=by rw[Ap,hl]
 refine Sbl.Jmy (ks:=λi=>[(ps.getD i (0,0)).1,(ps.getD i (0,0)).2]) (I.ok.hd hc) hu pl.isList (λj v hv=>?_) (by rw[hsz];exact hz) λh' tk m=>?_
 ·have hv:its[j]? =some v:=by simpa using hv
  have hj:j<bs.length:=by rw[<-Ce hp,hl];exact(Ae.mp hv).1
  obtain⟨u,hu',ru⟩:=rv.get (show(bs.map V.ref)[j]? =some (.ref bs[j]) by rw[Ao,Ag hj];rfl);rw[hv]at hu';cases hu';cases ru;obtain⟨k,hk,sk⟩:=Jlt hp (Ag hj);refine⟨_,rfl,?_⟩;rw[Ej,hk];obtain⟨its2,r2,⟨o,g1,g2,n,g3⟩,_⟩:=I1.tuple sk;refine⟨o,its2.toArray,n,g1,g2,g3,?_⟩;cases r2 with
  |cons a1 r2=>
   cases r2 with
   |cons a2 r2=>
    cases r2;obtain⟨t,rfl⟩:=(show∃t,_=Ds k.1 t from a1)
    obtain⟨t2,rfl⟩:=(show∃t,_=Ds k.2 t from a2)
    exact .cons (by simp[intKind,Iq]) (.cons (by simp[intKind,Iq]) .nil)
 ·rw[hsz]at m;obtain⟨⟨kb,⟨o,es,ep,t,ho,hx,hd,he',T⟩,pm⟩,kp⟩:=m;have hn:es.size=dst ps:=by
   rw[<-Bz,he',Ah,<-Ah (f:=(·.1)),pm.length_eq];rfl
  refine Iu (PySem.call_len_set (s:={s1 with heap:=h',toks:=tk}) ho hx hd (T.fits he') (by rw[hn];have:dst ps<=ps.length:=Sbl.Jhc _ _;lia) ?_);exact⟨.int (dst ps),H1,I1.kept (t':=tk+1+1) λb o e=>kp b o (Am e) e,⟨tk+1,by rw[hn]⟩,q⟩
end
end L2
namespace Mi
open PySem L2
inductive D where
 |non|bl (b:Bool)|int (i:Int)|str (x:Str)|tup (ds:List D)|loc (l:Nat)|kl (ds:List D)|kd (kvs:List (Str×Int))
 deriving Inhabited
inductive Obj where
 |lst (ds:List D)|dct (kvs:List (Int×D))|dtu (kvs:List (Rdu.PK×D))|fz (kvs:List (Rdu.PK×D))|rg (kvs:List (RK×D))|ins (c:String) (fs:List (String×D))
 deriving Inhabited
abbrev Store:=List Obj
abbrev En:=List (Option D)
inductive Res (α:Type)where
 |ok (a:α) (S:Store)|err (c:String) (Z:En) (S:Store)|bad
noncomputable def Res.bind{α β:Type}(r:Res α)(f:α->Store->Res β):Res β:=match r with
 |.ok a S=>f a S
 |.err c Z S=>.err c Z S
 |.bad=>.bad
@[simp]theorem Res.bind_ok{α β:Type}(a:α)(S:Store)(f:α->Store->Res β):(Res.ok a S).bind f=f a S:=rfl
@[simp]theorem Res.bind_err{α β:Type}(c:String)(Z:En)(S:Store)(f:α->Store->Res β):(Res.err c Z S:Res α).bind f=.err c Z S:=rfl
@[simp]theorem Res.bind_bad{α β:Type}(f:α->Store->Res β):(Res.bad:Res α).bind f=.bad:=rfl
def Res.bnd{α β:Type}{r:Res α}{f:α->Store->Res β}{a:α}{x:Res β}(h:r=.ok a S)(e:f a S=x):r.bind f=x:=by rw[h];exact e
inductive Bnd {α β:Type} (r:Res α) (f:α->Store->Res β) (b:β) (S':Store):Prop
 |mk (a:α) (S:Store) (_:r=.ok a S) (_:f a S=.ok b S'):Bnd r f b S'
theorem Res.bind_eq_ok{α β:Type}{r:Res α}{f:α->Store->Res β}{b:β}{S':Store}(h:r.bind f=.ok b S'):Bnd r f b S':=by
 cases r with
 |ok a S=>exact⟨a,S,rfl,h⟩
 |err c Z S=>cases h
 |bad=>cases h
noncomputable def Line:Nat:=16777216
inductive Bop where|add|sub|mul|fdiv|mod|pow|shr deriving DecidableEq
inductive Cop where|eq|ne|lt|le|gt|ge|isc|isnc|inn|nin deriving DecidableEq
inductive Prim where|len|abs|min2|max2|int1|list1|tuple1|all1|sum1|sort1|dict1 deriving DecidableEq
inductive Meth where|append|pop0|get2|indexT|get1|pop1 deriving DecidableEq
noncomputable def Vg:D->Option V
 |.non=>some .non
 |.bl b=>some (.bl b)
 |.int i=>some (.int i)
 |.str x=>some (.str x)
 |_=>none
noncomputable def seqAt(S:Store)(l:Nat):Option (List D):=match S[l]? with
 |some (.lst ds)=>some ds
 |_=>none
noncomputable def dctAt(S:Store)(l:Nat):Option (List (Int×D)):=match S[l]? with
 |some (.dct kvs)=>some kvs
 |_=>none
noncomputable def dVal{κ α:Type}[DecidableEq κ](kvs:List (κ×α))(k:κ):Option α:=(kvs.find? λp=>decide (p.1=k)).map (·.2)
noncomputable def dPut{κ α:Type}[DecidableEq κ](kvs:List (κ×α))(k:κ)(v:α):List (κ×α):=if kvs.any (λp=>decide (p.1=k))=true then kvs.map (λp=>if p.1=k then(p.1,v)else p)else kvs++[(k,v)]
noncomputable def dDrop{κ α:Type}[DecidableEq κ](kvs:List (κ×α))(k:κ):List (κ×α):=kvs.filter λp=>decide (p.1≠k)
noncomputable def kyD:D->Option Rdu.PK
 |.tup [.int a,.int b]=>some (a,b)
 |_=>none
noncomputable abbrev dK(p:Rdu.PK):D:=.tup [.int p.1,.int p.2]
noncomputable def scK:D->Option Key
 |.int i=>some (.inl i)
 |.str x=>some (.inr x)
 |_=>none
noncomputable def W4{α β:Type}(f:α->Option β):List α->Option (List β)
 |[]=>some []
 |a::r=>match f a,W4 f r with
  |some b,some bs=>some (b::bs)
  |_,_=>none
noncomputable def rwK:D->Option (List Key)
 |.tup ds=>W4 scK ds
 |_=>none
noncomputable def lkK:D->Option RK
 |.tup ds=>W4 rwK ds
 |_=>none
noncomputable def Wg(S:Store)(l:Nat)(y:D):Option (Option D):=match S[l]? with
 |some (.dct kvs)=>(match y with|.int i=>some (dVal kvs i)|_=>none)
 |some (.dtu kvs)=>(kyD y).map (dVal kvs)
 |some (.fz kvs)=>(kyD y).map (dVal kvs)
 |_=>none
noncomputable def dtAt(S:Store)(l:Nat):Option (List (Rdu.PK×D)):=match S[l]? with
 |some (.dtu kvs)=>some kvs
 |_=>none
noncomputable def upB:List Rdu.PK->Bool
 |[]=>true
 |p::r=>(match r with|[]=>true|q::_=>Rdu.ltP p q)&&upB r
noncomputable def Xt(ps:List Rdu.PK):Bool:=ps.all (λp=>decide (0<=p.1)&&decide (p.1<345)&&decide (0<=p.2)&&decide (p.2<3))&&decide ps.Nodup
noncomputable def Wb(S:Store)(l:Nat)(c:String):Option (List (String×D)):=match S[l]? with
 |some (.ins c' fs)=>if c'=c then some fs else none
 |_=>none
noncomputable def isDm:Meth->Bool
 |.get1=>true|.pop1=>true
 |_=>false
noncomputable def rcv(p:Meth)(S:Store)(x:D):Bool:=match x with|.loc l=>if isDm p=true then(dctAt S l).isSome||(dtAt S l).isSome else(seqAt S l).isSome|_=> !isDm p
noncomputable def putD(f:String)(v:D):List (String×D)->List (String×D)
 |[]=>[(f,v)]
 |p::r=>if p.1=f then(p.1,v)::r else p::putD f v r
noncomputable def Xl(S:Store)(x:D)(c f:String):Option D:=match x with
 |.loc l=>match Wb S l c with|some fs=>fs.lookup f|none=>none
 |_=>none
noncomputable def isRec(S:Store)(x:D)(c m:String):Bool:=match x with
 |.loc l=>match Wb S l c with|some fs=>(fs.lookup m).isNone|none=>false
 |_=>false
noncomputable def Yn(S:Store)(x:D)(c f:String)(v:D):Option Store:=match x with
 |.loc l=>match Wb S l c with|some fs=>if fs.length<1000 then some (S.set l (.ins c (putD f v fs)))else none|none=>none
 |_=>none
noncomputable def dIn(x y:D)(S:Store):Option Bool:=match y with
 |.loc l=>(Wg S l x).map Option.isSome
 |_=>none
noncomputable def eqL(f:D->D->Option Bool):List D->List D->Option Bool
 |[],[]=>some true
 |a::as,b::bs=>match f a b,eqL f as bs with
  |some x,some y=>some (x&&y)
  |_,_=>none
 |_,_=>some false
noncomputable def eqD(S:Store):Nat->D->D->Option Bool
 |0,a,b=>match Vg a,Vg b with
  |some x,some y=>some (eqV x y)
  |_,_=>none
 |n+1,a,b=>match a,b with
  |.tup as,.tup bs=>if as.length=bs.length then eqL (eqD S n) as bs else(if(eqL (eqD S n) (as.take bs.length) (bs.take as.length)).isSome then some false else none)
  |.loc l,.loc k=>match seqAt S l,seqAt S k with
   |some as,some bs=>if as.length=bs.length then eqL (eqD S n) as bs else some false
   |_,_=>none
  |a,b=>match Vg a,Vg b with
   |some x,some y=>some (eqV x y)
   |_,_=>none
noncomputable def Deep:Nat:=12
noncomputable def anyEq(S:Store)(n:Nat)(x:D):List D->Option Bool
 |[]=>some false
 |y::ys=>match eqD S n y x,anyEq S n x ys with
  |some a,some b=>some (a||b)
  |_,_=>none
noncomputable def small(i:Int):Bool:=decide (-(2^64)<i)&&decide (i<2^64)
noncomputable def mid(i:Int):Bool:=decide (i.natAbs<2^4096)
noncomputable def bop(o:Bop)(x y:D)(S:Store):Res D:=match o,x,y with
 |.add,.int i,.int j=>.ok (.int (i+j)) S
 |.add,.tup a,.tup b=>if a.length+b.length<=Line then .ok (.tup (a++b)) S else .bad
 |.add,.loc l,.loc k=>match S[l]?,S[k]? with
  |some (.lst a),some (.lst b)=>if a.length+b.length<=Line then .ok (.loc S.length) (S++[.lst (a++b)])else .bad
  |_,_=>.bad
 |.shr,.int i,.int j=>if 0<=j then .ok (.int (i/2^j.toNat)) S else .bad
 |.sub,.int i,.int j=>.ok (.int (i-j)) S
 |.mul,.int i,.int j=>if small i||small j||(mid i&&mid j)then .ok (.int (i*j)) S else .bad
 |.fdiv,.int i,.int j=>if 0<j/\j.natAbs<2^4096 then .ok (.int (i/j)) S else .bad
 |.mod,.int i,.int j=>if 0<j then .ok (.int (i%j)) S else .bad
 |.pow,.int i,.int j=>if decide (0<=j)&&decide (j<=1000000)&&decide (i.natAbs<2^64)then .ok (.int (i^j.toNat)) S else .bad
 |.add,.kl a,.loc k=>match S[k]? with
  |some (.lst b)=>if a.length+b.length<=Line then .ok (.loc S.length) (S++[.lst (a++b)])else .bad
  |_=>.bad
 |_,_,_=>.bad
noncomputable def U6(S:Store):D->Option (List D)
 |.tup ds=>some ds
 |.loc l=>seqAt S l
 |.kl ds=>some ds
 |_=>none
noncomputable def X4(S:Store)(x y:D):Option Bool:=match x,y with
 |.loc l,.loc k=>match dtAt S l,dtAt S k with
  |some a,some b=>if a.length=b.length/\(a.all λp=>match dVal b p.1 with|some d=>eqD S Deep p.2 d==some true|none=>false)=true then some false else none
  |_,_=>none
 |_,_=>none
noncomputable def cop(o:Cop)(x y:D)(S:Store):Option Bool:=match o with
 |.eq=>eqD S Deep x y
 |.ne=>match X4 S x y with|some b=>some b|none=>(eqD S Deep x y).map (!·)
 |.lt=>match x,y with|.int i,.int j=>some (decide (i<j))|_,_=>none
 |.le=>match x,y with|.int i,.int j=>some (decide (i<=j))|_,_=>none
 |.gt=>match x,y with|.int i,.int j=>some (decide (j<i))|_,_=>none
 |.ge=>match x,y with|.int i,.int j=>some (decide (j<=i))|_,_=>none
 |.isc=>match y with|.non=>some (match x with|.non=>true|_=>false)|_=>none
 |.isnc=>match y with|.non=>some (match x with|.non=>false|_=>true)|_=>none
 |.inn=>match U6 S y with|some ds=>anyEq S Deep x ds|none=>dIn x y S
 |.nin=>match U6 S y with|some ds=>(anyEq S Deep x ds).map (!·)|none=>(dIn x y S).map (!·)
noncomputable def tru(S:Store):D->Option Bool
 |.non=>some false
 |.bl b=>some b
 |.int i=>some (i !=0)
 |.tup ds=>some (!ds.isEmpty)
 |.loc l=>match seqAt S l with|some ds=>some (!ds.isEmpty)|none=>none
 |.kl ds=>some (!ds.isEmpty)
 |_=>none
noncomputable def idxD(x y:D)(S:Store):Option D:=match U6 S x with
 |some ds=>(match y with|.int i=>atI ds i|_=>none)
 |none=>match x with
  |.loc l=>match S[l]? with
   |some (.rg kvs)=>(lkK y).bind (dVal kvs)
   |_=>(Wg S l y).join
  |_=>none
noncomputable def cutD(xs:List D)(lo hi:Option Int):List D:=(xs.drop (HT.sIx xs.length 0 lo)).take (HT.sIx xs.length xs.length hi-HT.sIx xs.length 0 lo)
noncomputable def V3(x:D)(lo hi:Option Int)(S:Store):Res D:=match x with
 |.tup ds=>.ok (.tup (cutD ds lo hi)) S
 |.loc l=>match seqAt S l with
  |some ds=>.ok (.loc S.length) (S++[.lst (cutD ds lo hi)])
  |none=>.bad
 |.kl ds=>.ok (.loc S.length) (S++[.lst (cutD ds lo hi)])
 |_=>.bad
noncomputable def tyD(S:Store):D->Option String
 |.non=>some "NoneType"
 |.bl _=>some "bool"
 |.int _=>some "int"
 |.str _=>some "str"
 |.tup _=>some "tuple"
 |.loc l=>match S[l]? with|some (.lst _)=>some "list"|_=>none
 |.kl _=>none
 |.kd _=>none
noncomputable def isiD(t c:String):Bool:=t==c||(t=="bool"&&c=="int")
noncomputable def allB:List D->Option Bool
 |[]=>some true
 |.bl b::r=>(allB r).map (b&&·)
 |_=>none
noncomputable def sumI:List D->Option Int
 |[]=>some 0
 |.int i::r=>(sumI r).map (i+·)
 |_=>none
noncomputable def U0(p:Prim)(ds:List D)(S:Store):Res D:=match p,ds with
 |.len,[x]=>match U6 S x with
  |some ds=>.ok (.int ds.length) S
  |none=>match x with|.loc l=>(match dctAt S l with|some kvs=>.ok (.int kvs.length) S|none=>.bad)|_=>.bad
 |.abs,[.int i]=>.ok (.int (if i<0 then -i else i)) S
 |.max2,[.int i,.int j]=>.ok (.int (if j>i then j else i)) S
 |.min2,[.int i,.int j]=>.ok (.int (if j<i then j else i)) S
 |.int1,[.int i]=>.ok (.int i) S
 |.int1,[.bl b]=>.ok (.int (if b then 1 else 0)) S
 |.list1,[x]=>match U6 S x with
  |some ds=>.ok (.loc S.length) (S++[.lst ds])
  |none=>match x with
   |.loc l=>match dctAt S l with|some kvs=>.ok (.loc S.length) (S++[.lst (kvs.map λp=>.int p.1)])|none=>.bad
   |_=>.bad
 |.tuple1,[x]=>match U6 S x with
  |some ds=>.ok (.tup ds) S
  |none=>.bad
 |.all1,[.loc l]=>match seqAt S l with|some ds=>(match allB ds with|some b=>.ok (.bl b) S|none=>.bad)|none=>.bad
 |.sum1,[.loc l]=>match seqAt S l with|some ds=>(match sumI ds with|some b=>.ok (.int b) S|none=>.bad)|none=>.bad
 |.sort1,[.loc l]=>(match dtAt S l with|some kvs=>if upB (kvs.map (·.1))=true/\kvs.length<Line then .ok (.loc S.length) (S++[.lst (kvs.map λp=>dK p.1)])else .bad|none=>.bad)
 |.dict1,[.loc l]=>(match S[l]? with
  |some (.dct kvs)=>.ok (.loc S.length) (S++[.dct kvs])
  |some (.dtu kvs)=>if Xt (kvs.map (·.1))=true then .ok (.loc S.length) (S++[.dtu kvs])else .bad
  |_=>.bad)
 |_,_=>.bad
noncomputable def Yd(S:Store)(x:D)(ds:List D):Option Nat:=if ds.all (λy=>(eqD S 0 y x).isSome)then ds.findIdx? (λy=>eqD S 0 y x==some true)else none
noncomputable def U5(p:Meth)(o:D)(ds:List D)(S:Store):Res D:=match p,o,ds with
 |.append,.loc l,[y]=>match S[l]? with
  |some (.lst xs)=>if xs.length<Line then .ok .non (S.set l (.lst (xs++[y])))else .bad
  |_=>.bad
 |.pop0,.loc l,[]=>match S[l]? with
  |some (.lst xs)=>match xs[xs.length-1]? with
   |some y=>.ok y (S.set l (.lst xs.dropLast))
   |none=>.bad
  |_=>.bad
 |.indexT,.tup xs,[y]=>if xs.length<=Line then(match Yd S y xs with|some j=>.ok (.int j) S|none=>.bad)else .bad
 |.get2,.kd kvs,[.str x,y]=>.ok (match kvs.lookup x with|some n=>.int n|none=>y) S
 |.get1,.loc l,[y]=>(match Wg S l y with|some o=>.ok (o.getD .non) S|none=>.bad)
 |.pop1,.loc l,[y]=>(match dtAt S l,kyD y with
  |some kvs,some k=>(match dVal kvs k with|some d=>.ok d (S.set l (.dtu (dDrop kvs k)))|none=>.bad)
  |_,_=>.bad)
 |_,_,_=>.bad
inductive M where
 |nul|cns (a b:M)
 |cst (d:D)|var (i:Nat)|glb (x:String)
 |bin (o:Bop) (a b:M)|neg (a:M)|bit (a:M)|nott (a:M)|bo (w:Bool) (as:M)
 |cmp (o:Cop) (a b:M)|cmp2 (o p:Cop) (a b c:M)|ife (c a b:M)
 |tup (as:M)|lst (as:M)|idx (a b:M)|sli (a lo hi:M)
 |call (f:String) (as:M)|prim (p:Prim) (as:M)|isi (a:M) (t:String)|meth (p:Meth) (o as:M)
 |comp (N:List String) (k:Nat) (keep:List Nat) (tg it cd el:M)
 |dcm (b:Bool) (N:List String) (keep:List Nat) (tg a el:M)
 |rng (a:M)|enm (a:M)|zp (a b:M)
 |dnil (k:Nat)|hld (a:M)|lsp (a:M)|fld (c f:String) (a:M)|mcl (c m f:String) (o as:M)|new (c f:String)
 |tvar (i:Nat)|ttup (ts:M)|tsub (a b:M)
 |asg (t e:M)|aug (i:Nat) (e:M)|ifs (c a b:M)|forr (t i b:M)|ret (e:M)|exp (e:M)|rse|sfd (c f:String) (o v:M)
inductive Fl where
 |nx (Z:En)|rt (d:D)
structure Pr where
 call:String->List D->Store->Res D
 glob:String->Option D
 W:Nat
noncomputable def Vu(o i v:D)(S:Store):Res Unit:=match o with
 |.loc l=>match S[l]? with
  |some (.lst xs)=>(match i with
   |.int k=>(match ixN xs.length k with
    |some j=>.ok () (S.set l (.lst (xs.set j v)))
    |none=>.bad)
   |_=>.bad)
  |some (.dct kvs)=>(match i with|.int k=>if kvs.length<Line then .ok () (S.set l (.dct (dPut kvs k v)))else .bad|_=>.bad)
  |some (.dtu kvs)=>(match kyD i with|some k=>if kvs.length<Line then .ok () (S.set l (.dtu (dPut kvs k v)))else .bad|none=>.bad)
  |some (.rg kvs)=>(match lkK i with|some k=>if kvs.length<Line then .ok () (S.set l (.rg (dPut kvs k v)))else .bad|none=>.bad)
  |_=>.bad
 |_=>.bad
inductive Kd where|lst|enm|zip
abbrev Wk:=Option (Nat×Kd)
noncomputable def sameAt(S:Store)(g:Wk)(n:Nat):Bool:=match g with
 |none=>true
 |some (l,_)=>match S[l]? with
  |some (.lst ds)=>ds.length==n
  |_=>false
noncomputable def nth(S:Store)(g:Wk)(ds:List D)(i:Nat):Option D:=match g with
 |none=>ds[i]?
 |some (l,.enm)=>match seqAt S l with
  |some es=>(es[i]?).map λx=>.tup [.int i,x]
  |none=>none
 |some (l,.zip)=>match seqAt S l with
  |some es=>match es[i]?,ds[i]? with
   |some x,some y=>some (.tup [x,y])
   |_,_=>none
  |none=>none
 |some (l,.lst)=>match seqAt S l with
  |some es=>es[i]?
  |none=>none
noncomputable def enD:Nat->List D->List D
 |_,[]=>[]
 |i,x::r=>.tup [.int i,x]::enD (i+1) r
noncomputable def forL(turn:D->En->Store->Res Fl)(g:Wk)(ds:List D):Nat->Nat->En->Store->Res Fl
 |0,i,Z,S=>if sameAt S g ds.length then .ok (.nx Z) S else .bad
 |f+1,i,Z,S=>if sameAt S g ds.length then(match nth S g ds i with
   |none=>.bad
   |some d=>(turn d Z S).bind λfl S1=>match fl with
    |.nx τ1=>forL turn g ds f (i+1) τ1 S1
    |.rt d=>.ok (.rt d) S1)else .bad
noncomputable def Vj(turn:D->En->Store->Res (Option D))(g:Wk)(ds:List D):Nat->Nat->En->Store->List D->Res (List D)
 |0,i,Z,S,acc=>if sameAt S g ds.length then .ok acc S else .bad
 |f+1,i,Z,S,acc=>if sameAt S g ds.length then(match nth S g ds i with
   |none=>.bad
   |some d=>(turn d Z S).bind λo S1=>match o with
    |some y=>if acc.length<Line then Vj turn g ds f (i+1) Z S1 (acc++[y])else .bad
    |none=>Vj turn g ds f (i+1) Z S1 acc)else .bad
noncomputable def U2(k:Nat)(keep:List Nat)(Z:En):En:=E5 k none++keep.map λi=>(Z[i]?).join
noncomputable def Ye(x:D)(S:Store):Res D:=match x with
 |.loc l=>(match dtAt S l with|some kvs=>if upB (kvs.map (·.1))=true/\kvs.length<Line then .ok (.loc S.length) (S++[.dtu kvs])else .bad|none=>.bad)
 |_=>.bad
noncomputable def zpD(x y:D)(S:Store):Res (Wk×List D):=match x,y with
 |.loc l,.tup ds=>(match seqAt S l with|some es=>if es.length=ds.length then .ok (some (l,.zip),ds) S else .bad|none=>.bad)
 |_,_=>.bad
noncomputable def X5(x:D)(S:Store):Res D:=match x with
 |.loc l=>(match(seqAt S l).bind (W4 kyD)with|some ps=>if ps.length<4 then .ok (.int (dst ps)) S else .bad|none=>.bad)
 |_=>.bad
noncomputable def dwI(b:Bool)(p:Rdu.PK×D):D:=if b then p.2 else dK p.1
noncomputable def frD(x:D)(S:Store):Res (Nat×List (Rdu.PK×D)):=match x with
 |.loc l=>(match dtAt S l with|some kvs=>.ok (l,kvs) (S.set l (.fz kvs))|none=>.bad)
 |_=>.bad
noncomputable def thD(l:Nat)(ys:List D)(S:Store):Res D:=match S[l]? with
 |some (.fz kvs)=>.ok (.loc S.length) ((S++[Obj.lst ys]).set l (.dtu kvs))
 |_=>.bad
mutual
noncomputable def evE(C:Pr):M->En->Store->Res D
 |.cst d,_,S=>.ok d S
 |.var i,Z,S=>match Z[i]? with|some (some d)=>.ok d S|_=>.bad
 |.glb x,_,S=>match C.glob x with|some d=>.ok d S|none=>.bad
 |.bin o a b,Z,S=>(evE C a Z S).bind λx S1=>(evE C b Z S1).bind λy S2=>bop o x y S2
 |.neg a,Z,S=>(evE C a Z S).bind λx S1=>match x with|.int i=>.ok (.int (-i)) S1|_=>.bad
 |.bit a,Z,S=>(evE C a Z S).bind λx S1=>match x with|.int i=>.ok (.int (Bx i)) S1|_=>.bad
 |.nott a,Z,S=>(evE C a Z S).bind λx S1=>match tru S1 x with|some b=>.ok (.bl (!b)) S1|none=>.bad
 |.bo w as,Z,S=>evBV C w as Z S
 |.cmp o a b,Z,S=>(evE C a Z S).bind λx S1=>(evE C b Z S1).bind λy S2=>match cop o x y S2 with|some k=>.ok (.bl k) S2|none=>.bad
 |.cmp2 o p a b c,Z,S=>(evE C a Z S).bind λx S1=>(evE C b Z S1).bind λy S2=>match cop o x y S2 with
  |some true=>(evE C c Z S2).bind λz S3=>(match cop p y z S3 with|some k=>.ok (.bl k) S3|none=>.bad)
  |some false=>.ok (.bl false) S2
  |none=>.bad
 |.ife c a b,Z,S=>(evT C c Z S).bind λk S1=>if k then evE C a Z S1 else evE C b Z S1
 |.tup as,Z,S=>(evA C as Z S).bind λds S1=>if ds.length<=Line then .ok (.tup ds) S1 else .bad
 |.lst as,Z,S=>(evA C as Z S).bind λds S1=>if ds.length<=Line then .ok (.loc S1.length) (S1++[.lst ds])else .bad
 |.idx a b,Z,S=>(evE C a Z S).bind λx S1=>(evE C b Z S1).bind λy S2=>match idxD x y S2 with|some d=>.ok d S2|none=>.bad
 |.sli a lo hi,Z,S=>(evE C a Z S).bind λx S1=>(evO C lo Z S1).bind λl S2=>(evO C hi Z S2).bind λh S3=>V3 x l h S3
 |.call f as,Z,S=>(evA C as Z S).bind λds S1=>C.call f ds S1
 |.prim p as,Z,S=>(evA C as Z S).bind λds S1=>U0 p ds S1
 |.isi a t,Z,S=>(evE C a Z S).bind λx S1=>match tyD S1 x with|some y=>.ok (.bl (isiD y t)) S1|none=>.bad
 |.meth p o as,Z,S=>(evE C o Z S).bind λx S1=>if rcv p S1 x then(evA C as Z S1).bind λds S2=>U5 p x ds S2 else .bad
 |.comp N k keep tg it cd el,Z,S=>(evI C it Z S).bind λw S1=>
   (Vj (λd τ1 S2=>(evG C tg d τ1 S2).bind λτ2 S3=>(evC C cd τ2 S3).bind λb S4=>if b then(evE C el τ2 S4).bind λy S5=>.ok (some y) S5 else .ok none S4) w.1 w.2 w.2.length 0 (U2 k keep Z) S1 []).bind
    λys S6=>.ok (.loc S6.length) (S6++[.lst ys])
 |.dcm b N keep tg a el,Z,S=>(evE C a Z S).bind λx S1=>(frD x S1).bind λw S2=>
   (Vj (λd τ1 S2=>(evG C tg d τ1 S2).bind λτ2 S3=>(evE C el τ2 S3).bind λy S5=>.ok (some y) S5) none (w.2.map (dwI b)) (w.2.map (dwI b)).length 0 (U2 1 keep Z) S2 []).bind (thD w.1)
 |.dnil k,_,S=>.ok (.loc S.length) (S++[match k with|0=>.dct []|1=>.dtu []|_=>.rg []])
 |.hld a,Z,S=>(evE C a Z S).bind λx S1=>Ye x S1
 |.lsp a,Z,S=>(evE C a Z S).bind λx S1=>X5 x S1
 |.fld c f a,Z,S=>(evE C a Z S).bind λx S1=>match Xl S1 x c f with|some d=>.ok d S1|none=>.bad
 |.mcl c m f o as,Z,S=>(evE C o Z S).bind λx S1=>if isRec S1 x c m then(evA C as Z S1).bind λds S2=>C.call f (x::ds) S2 else .bad
 |.new c f,_,S=>(C.call f [.loc S.length] (S++[.ins c []])).bind λd S1=>match d with|.non=>.ok (.loc S.length) S1|_=>.bad
 |_,_,_=>.bad
noncomputable def evT(C:Pr):M->En->Store->Res Bool
 |.nott a,Z,S=>(evT C a Z S).bind λb S1=>.ok (!b) S1
 |.bo w as,Z,S=>evBT C w as Z S
 |.cmp o a b,Z,S=>(evE C a Z S).bind λx S1=>(evE C b Z S1).bind λy S2=>match cop o x y S2 with|some k=>.ok k S2|none=>.bad
 |.cmp2 o p a b c,Z,S=>(evE C a Z S).bind λx S1=>(evE C b Z S1).bind λy S2=>match cop o x y S2 with
  |some true=>(evE C c Z S2).bind λz S3=>(match cop p y z S3 with|some k=>.ok k S3|none=>.bad)
  |some false=>.ok false S2
  |none=>.bad
 |.var i,Z,S=>match Z[i]? with|some (some d)=>(match tru S d with|some b=>.ok b S|none=>.bad)|_=>.bad
 |.idx a b,Z,S=>(evE C a Z S).bind λx S1=>(evE C b Z S1).bind λy S2=>match idxD x y S2 with|some d=>(match tru S2 d with|some b=>.ok b S2|none=>.bad)|none=>.bad
 |.call f as,Z,S=>(evA C as Z S).bind λds S1=>(C.call f ds S1).bind λd S2=>match tru S2 d with|some b=>.ok b S2|none=>.bad
 |.prim p as,Z,S=>(evA C as Z S).bind λds S1=>(U0 p ds S1).bind λd S2=>match tru S2 d with|some b=>.ok b S2|none=>.bad
 |.isi a t,Z,S=>(evE C a Z S).bind λx S1=>match tyD S1 x with|some y=>.ok (isiD y t) S1|none=>.bad
 |.mcl c m f o as,Z,S=>(evE C o Z S).bind λx S1=>if isRec S1 x c m then(evA C as Z S1).bind λds S2=>(C.call f (x::ds) S2).bind λd S3=>match tru S3 d with|some b=>.ok b S3|none=>.bad else .bad
 |_,_,_=>.bad
noncomputable def evBV(C:Pr)(w:Bool):M->En->Store->Res D
 |.cns a .nul,Z,S=>evE C a Z S
 |.cns a r,Z,S=>(evE C a Z S).bind λx S1=>match x with|.bl c=>if c=w then evBV C w r Z S1 else .ok (.bl (!w)) S1|_=>.bad
 |_,_,_=>.bad
noncomputable def evBT(C:Pr)(w:Bool):M->En->Store->Res Bool
 |.cns a .nul,Z,S=>evT C a Z S
 |.cns a r,Z,S=>(evT C a Z S).bind λc S1=>if c=w then evBT C w r Z S1 else .ok (!w) S1
 |_,_,_=>.bad
noncomputable def evC(C:Pr):M->En->Store->Res Bool
 |.nul,_,S=>.ok true S
 |.cns c .nul,Z,S=>evT C c Z S
 |_,_,_=>.bad
noncomputable def evA(C:Pr):M->En->Store->Res (List D)
 |.nul,_,S=>.ok [] S
 |.cns a b,Z,S=>(evE C a Z S).bind λx S1=>(evA C b Z S1).bind λxs S2=>.ok (x::xs) S2
 |_,_,_=>.bad
noncomputable def evO(C:Pr):M->En->Store->Res (Option Int)
 |.nul,_,S=>.ok none S
 |.cns a .nul,Z,S=>(evE C a Z S).bind λx S1=>match x with|.int i=>.ok (some i) S1|_=>.bad
 |_,_,_=>.bad
noncomputable def evI(C:Pr):M->En->Store->Res (Wk×List D)
 |.rng a,Z,S=>(evE C a Z S).bind λx S1=>match x with
  |.int j=>if decide (-(2^62)<=j)&&decide (j<2^62)then .ok (none,(B7 j.toNat).map λ(i:Nat)=>.int i) S1 else .bad
  |_=>.bad
 |.cns a .nul,Z,S=>(evE C a Z S).bind λx S1=>match x with
  |.tup ds=>.ok (none,ds) S1
  |.kl ds=>.ok (none,ds) S1
  |.loc l=>(match seqAt S1 l with|some ds=>.ok (some (l,.lst),ds) S1|none=>.bad)
  |_=>.bad
 |.enm a,Z,S=>(evE C a Z S).bind λx S1=>match x with
  |.loc l=>(match seqAt S1 l with|some ds=>.ok (some (l,.enm),ds) S1|none=>.bad)
  |.tup ds=>.ok (none,enD 0 ds) S1
  |_=>.bad
 |.zp a b,Z,S=>(evE C a Z S).bind λx S1=>(evE C b Z S1).bind λy S2=>zpD x y S2
 |_,_,_=>.bad
noncomputable def evG(C:Pr):M->D->En->Store->Res En
 |.tvar i,d,Z,S=>if i<Z.length then .ok (Z.set i (some d)) S else .bad
 |.ttup ts,d,Z,S=>match d with|.tup ds=>evGs C ts ds Z S|_=>.bad
 |.tsub a b,d,Z,S=>(evE C a Z S).bind λo S1=>(evE C b Z S1).bind λi S2=>(Vu o i d S2).bind λ_ S3=>.ok Z S3
 |_,_,_,_=>.bad
noncomputable def evGs(C:Pr):M->List D->En->Store->Res En
 |.nul,ds,Z,S=>match ds with|[]=>.ok Z S|_=>.bad
 |.cns t ts,ds,Z,S=>match ds with|d::r=>(evG C t d Z S).bind λτ1 S1=>evGs C ts r τ1 S1|[]=>.bad
 |_,_,_,_=>.bad
noncomputable def evS(C:Pr):M->En->Store->Res Fl
 |.asg t e,Z,S=>(evE C e Z S).bind λd S1=>(evG C t d Z S1).bind λτ1 S2=>.ok (.nx τ1) S2
 |.aug i e,Z,S=>(match Z[i]? with
  |some (some (.int x))=>(evE C e Z S).bind λy S1=>(match y with|.int z=>.ok (.nx (Z.set i (some (.int (x+z))))) S1|_=>.bad)
  |_=>.bad)
 |.ifs c a b,Z,S=>(evT C c Z S).bind λk S1=>if k then evB C a Z S1 else evB C b Z S1
 |.forr t i b,Z,S=>(evI C i Z S).bind λw S1=>forL (λd τ1 S2=>(evG C t d τ1 S2).bind λτ2 S3=>evB C b τ2 S3) w.1 w.2 w.2.length 0 Z S1
 |.ret e,Z,S=>(evE C e Z S).bind λd S1=>.ok (.rt d) S1
 |.exp e,Z,S=>(evE C e Z S).bind λ_ S1=>.ok (.nx Z) S1
 |.sfd c f o v,Z,S=>(evE C v Z S).bind λy S1=>(evE C o Z S1).bind λx S2=>match Yn S2 x c f y with|some S3=>.ok (.nx Z) S3|none=>.bad
 |_,_,_=>.bad
noncomputable def evB(C:Pr):M->En->Store->Res Fl
 |.nul,Z,S=>.ok (.nx Z) S
 |.cns s r,Z,S=>(evS C s Z S).bind λfl S1=>match fl with
  |.nx τ1=>evB C r τ1 S1
  |.rt d=>.ok (.rt d) S1
 |_,_,_=>.bad
end
structure Fn where
 ps:List String
 N:List String
 body:M
noncomputable abbrev Tb:=String->Option Fn
noncomputable def callN(T:Tb)(G:String->Option D)(W:Nat):Nat->String->List D->Store->Res D
 |0,_,_,_=>.bad
 |n+1,f,ds,S=>match T f with
  |none=>.bad
  |some F=>if ds.length=F.ps.length then(evB ⟨callN T G W n,G,W⟩ F.body (ds.map some++E5 (F.N.length-ds.length) none) S).bind λfl S1=>match fl with
    |.rt d=>.ok d S1
    |.nx _=>.ok .non S1
   else .bad
def Jaa{α:Type}{d:α}{S:Store}:¬(Res.bad:Res α)=.ok d S:=nofun
theorem Jp5:evE C (.var i) (Z) (S)=(match Z[i]? with|some (some d)=>.ok d S|_=>.bad):=rfl
theorem Je7:evE C (.glb x) (u1') (S)=(match C.glob x with|some d=>.ok d S|none=>.bad):=rfl
theorem Jfu:evE C (.meth p o as) (Z) (S)=((evE C o Z S).bind λx S1=>if rcv p S1 x then(evA C as Z S1).bind λds S2=>U5 p x ds S2 else .bad):=rfl
theorem Jry:evE C (.comp N k keep tg it cd el) (Z) (S)=((evI C it Z S).bind λw S1=>
   (Vj (λd τ1 S2=>(evG C tg d τ1 S2).bind λτ2 S3=>(evC C cd τ2 S3).bind λb S4=>if b then(evE C el τ2 S4).bind λy S5=>.ok (some y) S5 else .ok none S4) w.1 w.2 w.2.length 0 (U2 k keep Z) S1 []).bind
    λys S6=>.ok (.loc S6.length) (S6++[.lst ys])):=rfl
theorem Ju4:evT C (.var i) (Z) (S)=(match Z[i]? with|some (some d)=>(match tru S d with|some b=>.ok b S|none=>.bad)|_=>.bad):=rfl
theorem Ju5:evA C (.nul) (u1') (S)=(.ok [] S):=rfl
theorem Ji5:evG C (.tvar i) (d) (Z) (S)=(if i<Z.length then .ok (Z.set i (some d)) S else .bad):=rfl
theorem Jp4:evG C (.ttup ts) (d) (Z) (S)=(match d with|.tup ds=>evGs C ts ds Z S|_=>.bad):=rfl
theorem Jib:evGs C (.nul) (ds) (Z) (S)=(match ds with|[]=>.ok Z S|_=>.bad):=rfl
theorem Jia:evGs C (.cns t ts) (ds) (Z) (S)=(match ds with|d::r=>(evG C t d Z S).bind λτ1 S1=>evGs C ts r τ1 S1|[]=>.bad):=rfl
theorem Jp3:evS C (.asg t e) (Z) (S)=((evE C e Z S).bind λd S1=>(evG C t d Z S1).bind λτ1 S2=>.ok (.nx τ1) S2):=rfl
theorem Jnu:evS C (.aug i e) (Z) (S)=(match Z[i]? with
  |some (some (.int x))=>(evE C e Z S).bind λy S1=>(match y with|.int z=>.ok (.nx (Z.set i (some (.int (x+z))))) S1|_=>.bad)
  |_=>.bad):=rfl
end Mi
namespace Mi
open PySem L2
def Vd(K:Af)(a:Addr)(kvs:List (Str×Int)):Prop:=Ky (Sq λb=>K.lookup b) (λb=>K.lookup b) a (kvs.map λp=>(p.1,Eo (.int p.2)))=true
def SqF(K:Af)(H:Hp)(a:Addr)(xs:List V):Prop:=
 (∃o,H a=some (.frz o (.lst xs)))\/
  ∃(o:A5) (its:Array Value) (n:Nat),K.lookup a=some o/\o.cls=.type "list"/\o.dict=none/\o.data=.seq its n/\its.size<=sizeLine/\Vals xs its.toList
def SqF.sq(h:SqF K H a xs):SqL K H a xs:=h.elim (λz=>.inl (.inr z)) .inr
mutual
def RelD(K:Af)(ρ:List Addr)(H:Hp):D->V->Prop
 |.non,v=>v=.non
 |.bl b,v=>v=.bl b
 |.int i,v=>v=.int i
 |.str x,v=>v=.str x
 |.tup ds,v=>∃a xs,v=.ref a/\SqT K H a xs/\RelDs K ρ H ds xs
 |.loc l,v=>∃a,v=.ref a/\ρ[l]? =some a
 |.kl ds,v=>∃a xs,v=.ref a/\SqF K H a xs/\RelDs K ρ H ds xs
 |.kd kvs,v=>∃a,v=.ref a/\Vd K a kvs
def RelDs(K:Af)(ρ:List Addr)(H:Hp):List D->List V->Prop
 |[],xs=>xs=[]
 |d::ds,xs=>∃v vs,xs=v::vs/\RelD K ρ H d v/\RelDs K ρ H ds vs
end
noncomputable def RelKv{κ κ':Type}(e:κ->κ')(K:Af)(ρ:List Addr)(H:Hp):List (κ×D)->List (κ'×V)->Prop
 |[],ws=>ws=[]
 |p::r,ws=>∃v us,ws=(e p.1,v)::us/\RelD K ρ H p.2 v/\RelKv e K ρ H r us
noncomputable def U4(K:Af)(ρ:List Addr)(H:Hp):List (RK×D)->List (RK×Addr×Value)->Prop
 |[],xs=>xs=[]
 |p::r,xs=>∃a u v ys,xs=(p.1,a,u)::ys/\V4 K H p.1 a/\RelV v u/\RelD K ρ H p.2 v/\U4 K ρ H r ys
theorem Jjb:∀{a b:List Char},a.map Nh=b.map Nh->a=b
 |[],[],_=>rfl
 |[],y::ys,h=>by simp at h
 |x::xs,[],h=>by simp at h
 |x::xs,y::ys,h=>by
  simp only[Aw,Pw]at h;rw[Jjb h.2,Char.toNat_inj.mp h.1]
def Jie(h:Ab a=Ab b):a=b:=by
 rw[Pa,Pa]at h;injection h with h;have h:a.toList.map Nh=b.toList.map Nh:=by simpa using h
 refine String.toList_inj.mp ?_;exact Jjb h
noncomputable def Vx(K:Af)(ρ:List Addr)(H:Hp):List (String×D)->List (Str×V)->Prop
 |[],ws=>ws=[]
 |p::r,ws=>∃v us,ws=(Ab p.1,v)::us/\RelD K ρ H p.2 v/\Vx K ρ H r us
noncomputable def RelO(K:Af)(ρ:List Addr)(H:Hp)(a:Addr):Obj->Prop
 |.lst ds=>∃xs,H a=some (.lst xs)/\RelDs K ρ H ds xs
 |.dct kvs=>∃ws,H a=some (.dK ws)/\RelKv F8 K ρ H kvs ws
 |.dtu kvs=>∃ws,H a=some (.dT ws)/\RelKv pK K ρ H kvs ws
 |.fz kvs=>∃ws o,H a=some (.frz o (.dT ws))/\RelKv pK K ρ H kvs ws
 |.rg kvs=>∃xs,H a=some (Rg a xs)/\U4 K ρ H kvs xs
 |.ins c fs=>∃C dx ws,Bb K Ax (Ab c)=some (some (.ref C))/\H a=some (.ins C dx ws)/\Vx K ρ H fs ws
structure RelS(K:Af)(ρ:List Addr)(S:Store)(H:Hp):Prop where
 len:ρ.length=S.length
 nd:ρ.Nodup
 ob:∀(l:Nat) (a:Addr) (o:Obj),ρ[l]? =some a->S[l]? =some o->RelO K ρ H a o
structure Fut(K:Af)(ρ:List Addr)(H:Hp)(ρ':List Addr)(H':Hp):Prop where
 pre:∃t,ρ'=ρ++t
 tup:∀a xs,SqT K H a xs->SqT K H' a xs
 frz:∀a o u,H a=some (.frz o u)->H' a=some (.frz o u)
variable {K:Af} {ρ ρ' ρ1:List Addr} {H H' H1:Hp} {S S':Store}
def Fut.refl:Fut K ρ H ρ H:=⟨⟨[],by simp⟩,λ_ _ h=>h,λ_ _ _ h=>h⟩
def Fut.trans(a:Fut K ρ H ρ1 H1)(b:Fut K ρ1 H1 ρ' H'):Fut K ρ H ρ' H':=by
 obtain⟨t,rfl⟩:=a.pre;obtain⟨u,e⟩:=b.pre;exact⟨⟨t++u,by rw[e,Lx]⟩,λ_ _ h=>b.tup _ _ (a.tup _ _ h),λ_ _ _ h=>b.frz _ _ _ (a.frz _ _ _ h)⟩
structure Fu(K:Af)(ρ:List Addr)(H:Hp)(ρ':List Addr)(H':Hp):Prop where
 pre:∃t,ρ'=ρ++t
 tup:∀a xs,SqT K H a xs->SqT K H' a xs
 frz:∀a o xs,H a=some (.frz o (.lst xs))->H' a=some (.frz o (.lst xs))
def Fut.fu(f:Fut K ρ H ρ' H'):Fu K ρ H ρ' H':=⟨f.pre,f.tup,λa o _=>f.frz a o _⟩
def Fu.sqF(f:Fu K ρ H ρ' H')(h:SqF K H a xs):SqF K H' a xs:=h.elim (λ⟨o,z⟩=>.inl ⟨o,f.frz _ _ _ z⟩) .inr
def Fu.get(f:Fu K ρ H ρ' H'){l:Nat}{a:Addr}(h:ρ[l]? =some a):ρ'[l]? =some a:=by
 obtain⟨t,rfl⟩:=f.pre;rw[A0 (Ae.mp h).1];exact h
def Fut.get(f:Fut K ρ H ρ' H'){l:Nat}{a:Addr}(h:ρ[l]? =some a):ρ'[l]? =some a:=f.fu.get h
mutual
theorem RelD.fu(f:Fu K ρ H ρ' H'):∀{d:D} {v:V},RelD K ρ H d v->RelD K ρ' H' d v
 |.non,v,h=>by simpa only[RelD]using h
 |.bl b,v,h=>by simpa only[RelD]using h
 |.int i,v,h=>by simpa only[RelD]using h
 |.str x,v,h=>by simpa only[RelD]using h
 |.tup ds,v,h=>by
  simp only[RelD]at h ⊢;obtain⟨a,xs,e,q,r⟩:=h;exact⟨a,xs,e,f.tup _ _ q,RelDs.fu f r⟩
 |.loc l,v,h=>by
  simp only[RelD]at h ⊢;obtain⟨a,e,q⟩:=h;exact⟨a,e,f.get q⟩
 |.kl ds,v,h=>by
  simp only[RelD]at h ⊢;obtain⟨a,xs,e,q,r⟩:=h;exact⟨a,xs,e,f.sqF q,RelDs.fu f r⟩
 |.kd kvs,v,h=>by simpa only[RelD]using h
theorem RelDs.fu(f:Fu K ρ H ρ' H'):∀{ds:List D} {vs:List V},RelDs K ρ H ds vs->RelDs K ρ' H' ds vs
 |[],vs,h=>by simpa only[RelDs]using h
 |d::ds,vs,h=>by
  simp only[RelDs]at h ⊢;obtain⟨v,r,e,q,t⟩:=h;exact⟨v,r,e,RelD.fu f q,RelDs.fu f t⟩
end
def RelD.fut(f:Fut K ρ H ρ' H'){d:D}{v:V}(h:RelD K ρ H d v):RelD K ρ' H' d v:=h.fu f.fu
def RelDs.fut(f:Fut K ρ H ρ' H')(h:RelDs K ρ H ds vs):RelDs K ρ' H' ds vs:=h.fu f.fu
def RelDs.cons(a:RelD K ρ H d v)(b:RelDs K ρ H ds vs):RelDs K ρ H (d::ds) (v::vs):=by
 simp only[RelDs];exact⟨v,vs,rfl,a,b⟩
def RelDs.nil:RelDs K ρ H [] []:=by simp only[RelDs]
inductive DsC (K:Af) (ρ:List Addr) (H:Hp) (d:D) (ds:List D) (xs:List V):Prop
 |mk (v vs) (_:xs=v::vs) (_:RelD K ρ H d v) (_:RelDs K ρ H ds vs):DsC K ρ H d ds xs
def RelDs.inv_cons(h:RelDs K ρ H (d::ds) xs):DsC K ρ H d ds xs:=by
 obtain⟨v,vs,e,q,r⟩:=h;exact⟨v,vs,e,q,r⟩
def RelDs.inv_nil(h:RelDs K ρ H [] xs):xs=[]:=by simpa only[RelDs]using h
theorem RelDs.length:∀{ds:List D} {vs:List V},RelDs K ρ H ds vs->ds.length=vs.length
 |[],vs,h=>by rw[h.inv_nil];rfl
 |d::ds,vs,h=>by
  obtain⟨v,r,rfl,_,t⟩:=h.inv_cons;rw[A7,A7,t.length]
theorem RelDs.get:∀{ds:List D} {vs:List V} {i:Nat} {d:D},RelDs K ρ H ds vs->ds[i]? =some d->∃v,vs[i]? =some v/\RelD K ρ H d v
 |[],vs,i,d,h,e=>by simp at e
 |d::ds,vs,0,x,h,e=>by
  obtain⟨v,r,rfl,q,t⟩:=h.inv_cons;simp at e;subst e;exact⟨v,rfl,q⟩
 |d::ds,vs,i+1,x,h,e=>by
  obtain⟨v,r,rfl,q,t⟩:=h.inv_cons;exact RelDs.get (i:=i) t (by simpa using e)
theorem RelDs.append:∀{ds es:List D} {vs ws:List V},RelDs K ρ H ds vs->RelDs K ρ H es ws->RelDs K ρ H (ds++es) (vs++ws)
 |[],es,vs,ws,h,g=>by rw[h.inv_nil];exact g
 |d::ds,es,vs,ws,h,g=>by
  obtain⟨v,r,rfl,q,t⟩:=h.inv_cons;exact RelDs.cons q (t.append g)
theorem RelDs.take:∀{ds:List D} {vs:List V} (n:Nat),RelDs K ρ H ds vs->RelDs K ρ H (ds.take n) (vs.take n)
 |ds,vs,0,h=>by simp[RelDs.nil]
 |[],vs,n+1,h=>by rw[h.inv_nil];simp[RelDs.nil]
 |d::ds,vs,n+1,h=>by
  obtain⟨v,r,rfl,q,t⟩:=h.inv_cons;exact RelDs.cons q (t.take n)
theorem RelDs.drop:∀{ds:List D} {vs:List V} (n:Nat),RelDs K ρ H ds vs->RelDs K ρ H (ds.drop n) (vs.drop n)
 |ds,vs,0,h=>h
 |[],vs,n+1,h=>by rw[h.inv_nil];simp[RelDs.nil]
 |d::ds,vs,n+1,h=>by
  obtain⟨v,r,rfl,q,t⟩:=h.inv_cons;exact t.drop n
theorem RelDs.set(a:RelD K ρ H d v):∀{ds:List D} {vs:List V} (i:Nat),RelDs K ρ H ds vs->RelDs K ρ H (ds.set i d) (vs.set i v)
 |[],vs,i,h=>by rw[h.inv_nil];simp[RelDs.nil]
 |x::ds,vs,0,h=>by
  obtain⟨w,r,rfl,q,t⟩:=h.inv_cons;exact RelDs.cons a t
 |x::ds,vs,i+1,h=>by
  obtain⟨w,r,rfl,q,t⟩:=h.inv_cons;exact RelDs.cons q (RelDs.set a i t)
def RelDs.dropLast{ds:List D}{vs:List V}(h:RelDs K ρ H ds vs):RelDs K ρ H ds.dropLast vs.dropLast:=by
 rw[Ph,Ph,h.length];exact h.take _
theorem Jt1(h:RelDs K ρ H ds vs)(e:atI ds i=some d):∃v,atI vs i=some v/\RelD K ρ H d v:=by
 unfold atI at e ⊢;rw[<-h.length];cases q:ixN ds.length i with
 |none=>rw[q]at e;cases e
 |some j=>
  rw[q]at e;exact h.get e
section
variable {κ κ':Type} {e:κ->κ'} [DecidableEq κ] [DecidableEq κ']
theorem RelKv.fu(f:Fu K ρ H ρ' H'):∀{kvs:List (κ×D)} {ws:List (κ'×V)},RelKv e K ρ H kvs ws->RelKv e K ρ' H' kvs ws
 |[],ws,h=>h
 |p::r,ws,h=>by
  obtain⟨v,us,e,q,t⟩:=h;exact⟨v,us,e,q.fu f,RelKv.fu f t⟩
def RelKv.fut(f:Fut K ρ H ρ' H')(h:RelKv e K ρ H kvs ws):RelKv e K ρ' H' kvs ws:=h.fu f.fu
theorem RelKv.get:∀{kvs:List (κ×D)} {ws:List (κ'×V)} {i:Nat} {p:κ×D},RelKv e K ρ H kvs ws->kvs[i]? =some p->∃v,ws[i]? =some (e p.1,v)/\RelD K ρ H p.2 v
 |[],_,_,_,_,h=>by simp at h
 |_::_,_,0,_,⟨v,_,rfl,q,_⟩,h=>by cases h;exact⟨v,rfl,q⟩
 |_::r,_,i+1,_,⟨_,_,rfl,_,t⟩,h=>RelKv.get (kvs:=r) (i:=i) t h
theorem RelKv.length:∀{kvs:List (κ×D)} {ws:List (κ'×V)},RelKv e K ρ H kvs ws->kvs.length=ws.length
 |[],ws,h=>by cases(show ws=[]from h);rfl
 |p::r,ws,h=>by
  obtain⟨v,us,rfl,q,t⟩:=h;simp[RelKv.length t]
theorem RelKv.keys:∀{kvs:List (κ×D)} {ws:List (κ'×V)},RelKv e K ρ H kvs ws->ws.map (·.1)=(kvs.map (·.1)).map e
 |[],ws,h=>by cases(show ws=[]from h);rfl
 |p::r,ws,h=>by
  obtain⟨v,us,rfl,q,t⟩:=h;simp[RelKv.keys t]
variable (ei:∀a b,e a=e b->a=b) (k:κ)
include ei
theorem RelKv.val:∀{kvs:List (κ×D)} {ws:List (κ'×V)},RelKv e K ρ H kvs ws->(dVal kvs k=none/\Vr ws (e k)=none)\/∃d v,dVal kvs k=some d/\Vr ws (e k)=some v/\RelD K ρ H d v
 |[],ws,h=>by cases(show ws=[]from h);exact .inl ⟨rfl,rfl⟩
 |p::r,ws,h=>by
  obtain⟨v,us,rfl,q,t⟩:=h
  by_cases z:p.1=k
  ·refine .inr ⟨p.2,v,?_,Jdr (congrArg e z),q⟩;simp[dVal,C6,z]
  ·rw[Jds (λq=>z (ei _ _ q)),show dVal (p::r) k=dVal r k by simp[dVal,C6,z]];exact RelKv.val t
def RelKv.put(q:RelD K ρ H d v)(h:RelKv e K ρ H kvs ws):RelKv e K ρ H (dPut kvs k d) (putK ws (e k) v):=by
 have any:∀{kvs:List (κ×D)} {ws:List (κ'×V)},RelKv e K ρ H kvs ws->kvs.any (λp=>decide (p.1=k))=ws.any (λkv=>decide (kv.1=e k)):=by
  intro kvs
  induction kvs with
  |nil=>intro ws h;cases(show ws=[]from h);rfl
  |cons p r ih=>
   intro ws h;obtain⟨u,us,rfl,q',t⟩:=h;rw[Fj,Fj,ih t];congr 1;exact decide_eq_decide.mpr ⟨λz=>congrArg e z,λz=>ei _ _ z⟩
 have snoc:∀{kvs:List (κ×D)} {ws:List (κ'×V)},RelKv e K ρ H kvs ws->RelKv e K ρ H (kvs++[(k,d)]) (ws++[(e k,v)]):=by
  intro kvs
  induction kvs with
  |nil=>intro ws h;cases(show ws=[]from h);exact⟨v,[],rfl,q,rfl⟩
  |cons p r ih=>
   intro ws h;obtain⟨u,us,rfl,q',t⟩:=h;exact⟨u,_,rfl,q',ih t⟩
 have map:∀{kvs:List (κ×D)} {ws:List (κ'×V)},RelKv e K ρ H kvs ws->RelKv e K ρ H (kvs.map (λp=>if p.1=k then(p.1,d)else p)) (ws.map (λkv=>if kv.1=e k then(kv.1,v)else kv)):=by
  intro kvs
  induction kvs with
  |nil=>intro ws h;cases(show ws=[]from h);rfl
  |cons p r ih=>
   intro ws h;obtain⟨u,us,rfl,q',t⟩:=h
   by_cases z:p.1=k
   ·rw[Aw,Aw,if_pos z,if_pos (congrArg e z)];exact⟨v,_,rfl,q,ih t⟩
   ·rw[Aw,Aw,if_neg z,if_neg λq=>z (ei _ _ q)];exact⟨u,_,rfl,q',ih t⟩
 unfold dPut putK;rw[any h];split
 ·exact map h
 ·exact snoc h
theorem RelKv.drop:∀{kvs:List (κ×D)} {ws:List (κ'×V)},RelKv e K ρ H kvs ws->RelKv e K ρ H (dDrop kvs k) (Wt ws (e k))
 |[],ws,h=>by cases(show ws=[]from h);rfl
 |p::r,ws,h=>by
  obtain⟨v,us,rfl,q,t⟩:=h;have ih:=RelKv.drop t;unfold dDrop Wt at ih ⊢
  by_cases z:p.1=k
  ·rw[Ol (by simpa using z),Ol (by simpa using congrArg e z)];exact ih
  ·rw[Oj (by simpa using z),Oj (by simpa using λq=>z (ei _ _ q))];exact⟨v,_,rfl,q,ih⟩
end
def Jmd{α β:Type}(a b:α)(h:(F8 a:α ⊕ β)=F8 b):a=b:=Lm h
def Je9(a b:Rdu.PK)(h:pK a=pK b):a=b:=by
 injection h with h1 h2;injection h2 with h2 _;exact Su (Lm h1) (Lm h2)
def V4.fu(f:Fu K ρ H ρ' H')(x:V4 K H r a):V4 K H' r a:=by
 obtain⟨bs,h1,h2⟩:=x;exact⟨bs,f.tup _ _ h1,Paired.mapP h2 λ_ _ q=>f.tup _ _ q⟩
theorem U4.fu(f:Fu K ρ H ρ' H'):∀{kvs:List (RK×D)} {xs:List (RK×Addr×Value)},U4 K ρ H kvs xs->U4 K ρ' H' kvs xs
 |[],xs,h=>h
 |p::r,xs,h=>by
  obtain⟨a,u,v,ys,e,l,rv,q,t⟩:=h;exact⟨a,u,v,ys,e,V4.fu f l,rv,q.fu f,U4.fu f t⟩
def U4.fut(f:Fut K ρ H ρ' H')(h:U4 K ρ H kvs xs):U4 K ρ' H' kvs xs:=h.fu f.fu
theorem U4.mem:∀{kvs:List (RK×D)} {xs:List (RK×Addr×Value)},U4 K ρ H kvs xs->∀x∈xs,V4 K H x.1 x.2.1
 |[],xs,h,x,hx=>by cases(show xs=[]from h);cases hx
 |p::r,xs,h,x,hx=>by
  obtain⟨a,u,v,ys,rfl,l,rv,q,t⟩:=h;rcases An.mp hx with rfl|hx
  ·exact l
  ·exact U4.mem t x hx
theorem U4.length:∀{kvs:List (RK×D)} {xs:List (RK×Addr×Value)},U4 K ρ H kvs xs->kvs.length=xs.length
 |[],xs,h=>by cases(show xs=[]from h);rfl
 |p::r,xs,h=>by
  obtain⟨a,u,v,ys,rfl,l,rv,q,t⟩:=h;simp[U4.length t]
theorem U4.val(k:RK):∀{kvs:List (RK×D)} {xs:List (RK×Addr×Value)},U4 K ρ H kvs xs->dVal kvs k=some d->∃p v,Gq xs k=some p/\RelV v p.2/\RelD K ρ H d v
 |[],xs,h,e=>by cases e
 |p::r,xs,h,e=>by
  obtain⟨a,u,v,ys,rfl,l,rv,q,t⟩:=h
  by_cases z:p.1=k
  ·have:dVal (p::r) k=some p.2:=by simp[dVal,C6,z]
   rw[this]at e;cases e;exact⟨(a,u),v,by simp[Gq,z],rv,q⟩
  ·rw[show dVal (p::r) k=dVal r k by simp[dVal,C6,z]]at e;obtain⟨p',v',h1,h2⟩:=U4.val k t e;exact⟨p',v',by simpa [Gq,z]using h1,h2⟩
def U4.put(l:V4 K H k a)(rv:RelV v u)(q:RelD K ρ H d v)(h:U4 K ρ H kvs xs):U4 K ρ H (dPut kvs k d) (Oq xs k a u):=by
 have all:∀{kvs:List (RK×D)} {xs:List (RK×Addr×Value)},U4 K ρ H kvs xs->kvs.any (λp=>decide (p.1=k))=(Gq xs k).isSome/\U4 K ρ H (kvs++[(k,d)]) (xs++[(k,a,u)])/\U4 K ρ H (kvs.map (λp=>if p.1=k then(p.1,d)else p)) (xs.map (putAt k u)):=by
  intro kvs
  induction kvs with
  |nil=>intro xs h;cases(show xs=[]from h);exact⟨rfl,⟨a,u,v,[],rfl,l,rv,q,rfl⟩,rfl⟩
  |cons p r ih=>
   intro xs h;obtain⟨a',u',v',ys,rfl,l',rv',q',t⟩:=h;obtain⟨h1,h2,h3⟩:=ih t;refine⟨?_,⟨a',u',v',_,rfl,l',rv',q',h2⟩,?_⟩
   ·by_cases z:p.1=k
    ·simp[Gq,z]
    ·rw[Fj,h1];simp[Gq,z]
   ·by_cases z:p.1=k
    ·simp only[Aw,if_pos z,putAt];exact⟨a',u,v,_,rfl,l',rv,q,h3⟩
    ·simp only[Aw,if_neg z,putAt];exact⟨a',u',v',_,rfl,l',rv',q',h3⟩
 obtain⟨h1,h2,h3⟩:=all h;unfold dPut Oq;rw[h1];split
 ·exact h3
 ·exact h2
theorem Vx.fu(f:Fu K ρ H ρ' H'):∀{fs:List (String×D)} {ws:List (Str×V)},Vx K ρ H fs ws->Vx K ρ' H' fs ws
 |[],ws,h=>h
 |p::r,ws,h=>by
  obtain⟨v,us,e,q,t⟩:=h;exact⟨v,us,e,q.fu f,Vx.fu f t⟩
theorem Vx.length:∀{fs:List (String×D)} {ws:List (Str×V)},Vx K ρ H fs ws->fs.length=ws.length
 |[],ws,h=>by cases(show ws=[]from h);rfl
 |p::r,ws,h=>by
  obtain⟨v,us,rfl,q,t⟩:=h;simp[Vx.length t]
theorem Vx.look(f:String):∀{fs:List (String×D)} {ws:List (Str×V)},Vx K ρ H fs ws->(fs.lookup f=none/\ws.lookup (Ab f)=none)\/∃d v,fs.lookup f=some d/\ws.lookup (Ab f)=some v/\RelD K ρ H d v
 |[],ws,h=>by cases(show ws=[]from h);exact .inl ⟨rfl,rfl⟩
 |p::r,ws,h=>by
  obtain⟨v,us,rfl,q,t⟩:=h;obtain⟨g,d⟩:=p
  by_cases e:f=g
  ·subst e;exact .inr ⟨d,v,by simp[Ew],by simp[Ew],q⟩
  ·have e':(Ab f==Ab g)=false:=beq_eq_false_iff_ne.mpr λz=>e (Jie z);have e2:(f==g)=false:=beq_eq_false_iff_ne.mpr e;simp only[Ew,e',e2];exact Vx.look f t
theorem Vx.put(f:String)(q:RelD K ρ H d v):∀{fs:List (String×D)} {ws:List (Str×V)},Vx K ρ H fs ws->Vx K ρ H (putD f d fs) (Vm (Ab f) v ws)
 |[],ws,h=>by cases(show ws=[]from h);exact⟨v,[],rfl,q,rfl⟩
 |p::r,ws,h=>by
  obtain⟨u,us,rfl,q',t⟩:=h
  by_cases e:p.1=f
  ·rw[show putD f d (p::r)=(p.1,d)::r from if_pos e,show Vm (Ab f) v ((Ab p.1,u)::us)=(Ab p.1,v)::us from if_pos (congrArg _ e)];exact⟨v,us,rfl,q,t⟩
  ·rw[show putD f d (p::r)=p::putD f d r from if_neg e,show Vm (Ab f) v ((Ab p.1,u)::us)=(Ab p.1,u)::Vm (Ab f) v us from if_neg λz=>e (Jie z)];exact⟨u,_,rfl,q',Vx.put f q t⟩
theorem RelO.fu(f:Fu K ρ H ρ' H')(hk:H' a=H a)(h:RelO K ρ H a o):RelO K ρ' H' a o:=by
 cases o with
 |lst ds=>obtain⟨xs,e,r⟩:=h;exact⟨xs,hk.trans e,r.fu f⟩
 |dct kvs=>obtain⟨xs,e,r⟩:=h;exact⟨xs,hk.trans e,r.fu f⟩
 |dtu kvs=>obtain⟨xs,e,r⟩:=h;exact⟨xs,hk.trans e,r.fu f⟩
 |fz kvs=>obtain⟨xs,o,e,r⟩:=h;exact⟨xs,o,hk.trans e,r.fu f⟩
 |rg kvs=>obtain⟨xs,e,r⟩:=h;exact⟨xs,hk.trans e,r.fu f⟩
 |ins c fs=>obtain⟨C,dx,ws,n,e,r⟩:=h;exact⟨C,dx,ws,n,hk.trans e,r.fu f⟩
def RelO.fut(f:Fut K ρ H ρ' H')(hk:H' a=H a)(h:RelO K ρ H a o):RelO K ρ' H' a o:=h.fu f.fu hk
theorem RelO.some(h:RelO K ρ H a o):H a≠none:=by
 cases o with
 |lst ds=>obtain⟨xs,e,r⟩:=h;rw[e];simp
 |dct kvs=>obtain⟨xs,e,r⟩:=h;rw[e];simp
 |dtu kvs=>obtain⟨xs,e,r⟩:=h;rw[e];simp
 |fz kvs=>obtain⟨xs,o,e,r⟩:=h;rw[e];simp
 |rg kvs=>obtain⟨xs,e,r⟩:=h;rw[e];simp
 |ins c fs=>obtain⟨C,dx,ws,n,e,r⟩:=h;rw[e];simp
def RelS.at(r:RelS K ρ S H){l:Nat}{a:Addr}(h:ρ[l]? =some a):∃o,S[l]? =some o/\RelO K ρ H a o:=by
 have hl:l<S.length:=by rw[<-r.len];exact(Ae.mp h).1
 exact⟨S[l],Ag hl,r.ob l a _ h (Ag hl)⟩
def Ja7(n:H p=none)(t:List Addr):Fut K ρ H (ρ++t) (upd H p o):=by
 refine⟨⟨t,rfl⟩,λa xs h=>?_,λa o u h=>by rw[Jac (Jak h n)];exact h⟩;rcases h with h|h
 ·exact .inl (by rw[Jac (Jak h n)];exact h)
 ·exact .inr h
def Ja1(n:H p=none):Fut K ρ H ρ (upd H p o):=by
 have q:=Ja7 (K:=K) (ρ:=ρ) (o:=o) n [];rwa[Gn]at q
def RelS.new(r:RelS K ρ S H)(n:H p=none):RelS K ρ S (upd H p o):=
 ⟨r.len,r.nd,λl a u h1 h2=>by
  have q:=r.ob l a u h1 h2;exact q.fut (Ja1 n) (Jac λz=>q.some (z▸n))⟩
def RelS.alloc(r:RelS K ρ S H){p:Addr}{xs:List V}{ds:List D}(n:H p=none)(h:RelDs K ρ H ds xs):RelS K (ρ++[p]) (S++[.lst ds]) (upd H p (.lst xs)):=by
 have hp:p∉ρ:=λz=>by
  obtain⟨l,hl⟩:=Pu z;obtain⟨o,_,q⟩:=r.at hl;exact q.some n
 refine⟨by rw[Bf,Bf,r.len];rfl,?_,λl a o h1 h2=>?_⟩
 ·rw[Iz];exact⟨r.nd,by simp,λa ha b hb=>by rw[Av.mp hb];exact λe=>hp (e▸ha)⟩
 ·by_cases hl:l<ρ.length
  ·rw[A0 hl]at h1;rw[A0 (by rw[<-r.len];exact hl)]at h2;have q:=r.ob l a o h1 h2;exact q.fut (Ja7 n [p]) (Jac λz=>q.some (z▸n))
  ·have e:l=ρ.length:=by
    have:=(Ae.mp h1).1;rw[Bf,Dr]at this
    lia
   subst e;rw[A1 (Ai _),Ey]at h1;rw[A1 (by rw[r.len];exact Ai _),r.len,Ey]at h2;simp at h1 h2;subst h1 h2;exact⟨xs,Jaf,h.fut (Ja7 n [_])⟩
def Jcv{ρ:List Addr}(hN:ρ.Nodup){i j:Nat}{x:Addr}(a:ρ[i]? =some x)(b:ρ[j]? =some x):i=j:=by
 obtain⟨h1,e1⟩:=Ae.mp a;obtain⟨h2,e2⟩:=Ae.mp b;rcases Jd i j with h|h|h
 ·exact absurd (e1.trans e2.symm) (Ga.mp hN i j h1 h2 h)
 ·exact h
 ·exact absurd (e2.trans e1.symm) (Ga.mp hN j i h2 h1 h)
def Jc8(h:H p=some (.lst xs)):Fut K ρ H ρ (upd H p o):=by
 refine⟨⟨[],by simp⟩,λa ys q=>?_,λa o u q=>by rw[Jac (Je1 q h (by intro z;cases z))];exact q⟩;rcases q with q|q
 ·exact .inl (by rw[Jac (Je1 q h (by intro z;cases z))];exact q)
 ·exact .inr q
def RelS.set(r:RelS K ρ S H){l:Nat}{p:Addr}{xs ys:List V}{ds:List D}(hl:ρ[l]? =some p)(h:H p=some (.lst xs))(hd:RelDs K ρ H ds ys):RelS K ρ (S.set l (.lst ds)) (upd H p (.lst ys)):=by
 refine⟨by rw[D4];exact r.len,r.nd,λk a o h1 h2=>?_⟩
 by_cases e:l=k
 ·subst e;rw[hl]at h1;cases h1;have lt:l<S.length:=by rw[<-r.len];exact(Ae.mp hl).1
  rw[Ci lt]at h2;cases h2;exact⟨ys,Jaf,hd.fut (Jc8 h)⟩
 ·rw[Au e]at h2;have ne:a≠p:=λz=>by
   subst z;exact e (Jcv r.nd hl h1)
  exact(r.ob k a o h1 h2).fut (Jc8 h) (Jac ne)
def Jc9{o:HO}(h:H p=some o0)(h1:∀xs,o0≠ .tup xs)(h2:∀o u,o0≠ .frz o u):Fut K ρ H ρ (upd H p o):=by
 have ne:∀a u,H a=some u->(∀xs,u≠ .tup xs->u≠ .tup xs)->u≠o0->a≠p:=λa u q _ z e=>by rw[e,h]at q;exact z (Bj q).symm
 refine⟨⟨[],by simp⟩,λa ys q=>?_,λa o u q=>by rw[Jac (ne a _ q (λ_ z=>z) λz=>h2 _ _ z.symm)];exact q⟩;rcases q with q|q
 ·exact .inl (by rw[Jac (ne a _ q (λ_ z=>z) λz=>h1 _ z.symm)];exact q)
 ·exact .inr q
def RelS.allocO(r:RelS K ρ S H){p:Addr}{o:HO}{ob:Obj}(n:H p=none)(h:RelO K (ρ++[p]) (upd H p o) p ob):RelS K (ρ++[p]) (S++[ob]) (upd H p o):=by
 have hp:p∉ρ:=λz=>by
  obtain⟨l,hl⟩:=Pu z;obtain⟨o,_,q⟩:=r.at hl;exact q.some n
 refine⟨by rw[Bf,Bf,r.len];rfl,?_,λl a u h1 h2=>?_⟩
 ·rw[Iz];exact⟨r.nd,by simp,λa ha b hb=>by rw[Av.mp hb];exact λe=>hp (e▸ha)⟩
 ·by_cases hl:l<ρ.length
  ·rw[A0 hl]at h1;rw[A0 (by rw[<-r.len];exact hl)]at h2;have q:=r.ob l a u h1 h2;exact q.fut (Ja7 n [p]) (Jac λz=>q.some (z▸n))
  ·have e:l=ρ.length:=by
    have:=(Ae.mp h1).1;rw[Bf,Dr]at this
    lia
   subst e;rw[A1 (Ai _),Ey]at h1;rw[A1 (by rw[r.len];exact Ai _),r.len,Ey]at h2;simp at h1 h2;subst h1 h2;exact h
def RelS.setW(r:RelS K ρ S H){l:Nat}{p:Addr}{o0 o:HO}{ob:Obj}(hl:ρ[l]? =some p)(f:Fu K ρ H ρ (upd H p o))(new:RelO K ρ (upd H p o) p ob):RelS K ρ (S.set l ob) (upd H p o):=by
 refine⟨by rw[D4];exact r.len,r.nd,λk a u h1 h2=>?_⟩
 by_cases e:l=k
 ·subst e;rw[hl]at h1;cases h1;have lt:l<S.length:=by rw[<-r.len];exact(Ae.mp hl).1
  rw[Ci lt]at h2;cases h2;exact new
 ·rw[Au e]at h2;have ne:a≠p:=λz=>by
   subst z;exact e (Jcv r.nd hl h1)
  exact(r.ob k a u h1 h2).fu f (Jac ne)
def RelS.setO(r:RelS K ρ S H){l:Nat}{p:Addr}{o0 o:HO}{ob:Obj}(hl:ρ[l]? =some p)(f:Fut K ρ H ρ (upd H p o))(new:RelO K ρ (upd H p o) p ob):RelS K ρ (S.set l ob) (upd H p o):=r.setW (o0:=o0) hl f.fu new
structure RelE(K:Af)(ρ:List Addr)(H:Hp)(Z:En)(U:St):Prop where
 len:Z.length=U.length
 at':∀(i:Nat) (d:D),Z[i]? =some (some d)->∃v,U[i]? =some (some v)/\RelD K ρ H d v
def RelE.fut(f:Fut K ρ H ρ' H')(r:RelE K ρ H Z U):RelE K ρ' H' Z U:=
 ⟨r.len,λi d h=>let⟨v,e,q⟩:=r.at' i d h;⟨v,e,q.fut f⟩⟩
def RelE.set{Z:En}{U:St}(r:RelE K ρ H Z U)(q:RelD K ρ H d v)(i:Nat):RelE K ρ H (Z.set i (some d)) (U.set i (some v)):=by
 refine⟨by rw[D4,D4];exact r.len,λj e h=>?_⟩
 by_cases z:i=j
 ·subst z
  by_cases hl:i<Z.length
  ·rw[Ci hl]at h;cases h;exact⟨v,Ci (by rw[<-r.len];exact hl),q⟩
  ·rw[G9 (by rw[D4];lia)]at h;cases h
 ·rw[Au z]at h;rw[Au z];exact r.at' j e h
theorem RelE.inner(r:RelE K ρ H Z U)(k:Nat)(keep:List Nat):RelE K ρ H (U2 k keep Z) (W2 k keep U):=by
 unfold U2 W2;refine⟨by simp,λi d h=>?_⟩
 by_cases hi:i<k
 ·rw[A0 (by simpa using hi),E6,if_pos hi]at h;cases h
 ·rw[A1 (by simpa using hi),G8,Ao]at h;rw[A1 (by simpa using hi),G8,Ao];cases ej:keep[i-k]? with
  |none=>rw[ej]at h;cases h
  |some j=>
   rw[ej]at h;have h':(Z[j]?).join=some d:=Bj h;have h':Z[j]? =some (some d):=by
    cases q:Z[j]? with
    |none=>rw[q]at h';cases h'
    |some y=>rw[q]at h';exact congrArg some h'
   obtain⟨v,e,q⟩:=r.at' j d h';refine⟨v,?_,q⟩;show some ((U[j]?).join)=some (some v);rw[e];rfl
noncomputable def Weh(Z Z':En):Prop:=Z'.length=Z.length/\∀(i:Nat) (d:D),Z'[i]? =some (some d)->Z[i]? =some (some d)
def RelE.less(r:RelE K ρ H Z U)(l:Weh Z Z'):RelE K ρ H Z' U:=⟨l.1.trans r.len,λi d h=>r.at' i d (l.2 i d h)⟩
end Mi
namespace Mi
open PySem L2
noncomputable def Wag:Bop->Operator
 |.add=>.Add
 |.shr=>.RShift
 |.sub=>.Sub
 |.mul=>.Mult
 |.fdiv=>.FloorDiv
 |.mod=>.Mod
 |.pow=>.Pow
noncomputable def Wu:Cop->CmpOp
 |.eq=>.Eq
 |.ne=>.NotEq
 |.lt=>.Lt
 |.le=>.LtE
 |.gt=>.Gt
 |.ge=>.GtE
 |.isc=>.Is
 |.isnc=>.IsNot
 |.inn=>.In
 |.nin=>.NotIn
def Fin(K:Af)(ρ:List Addr)(H:Hp)(d:D)(S':Store)(Q:VK):Prop:=
 ∀(ρ':List Addr) (v:V) (H':Hp),Fut K ρ H ρ' H'->RelS K ρ' S' H'->RelD K ρ' H' d v->Q v H'
variable {K:Af} {ρ ρ':List Addr} {H H':Hp} {S S':Store} {d:D} {Q:VK}
def Fin.now(f:Fin K ρ H d S Q)(r:RelS K ρ S H)(q:RelD K ρ H d v):Q v H:=f ρ v H Fut.refl r q
def Fin.newT(f:Fin K ρ H (.tup ds) S Q)(r:RelS K ρ S H)(q:RelDs K ρ H ds xs):∀p,H p=none->Q (.ref p) (upd H p (.tup xs)):=λp n=>
 f ρ _ _ (Ja1 n) (r.new n) (by simp only[RelD];exact⟨p,xs,rfl,SqT.of Jaf,q.fut (Ja1 n)⟩)
def Fin.newL(f:Fin K ρ H (.loc S.length) (S++[.lst ds]) Q)(r:RelS K ρ S H)(q:RelDs K ρ H ds xs):∀p,H p=none->Q (.ref p) (upd H p (.lst xs)):=λp n=>
 f (ρ++[p]) _ _ (Ja7 n [p]) (r.alloc n q) (by simp only[RelD];exact⟨p,rfl,by rw[<-r.len,A1 (Ai _),Ey];rfl⟩)
def RelD.int_inv(h:RelD K ρ H (.int i) v):v=.int i:=by simpa only[RelD]using h
def RelD.bl_inv(h:RelD K ρ H (.bl i) v):v=.bl i:=by simpa only[RelD]using h
def RelD.str_inv(h:RelD K ρ H (.str i) v):v=.str i:=by simpa only[RelD]using h
def RelD.non_inv(h:RelD K ρ H .non v):v=.non:=by simpa only[RelD]using h
inductive TupI (K:Af) (ρ:List Addr) (H:Hp) (ds:List D) (v:V):Prop
 |mk (a xs) (_:v=.ref a) (_:SqT K H a xs) (_:RelDs K ρ H ds xs):TupI K ρ H ds v
def RelD.tup_inv(h:RelD K ρ H (.tup ds) v):TupI K ρ H ds v:=by
 obtain⟨v,vs,e,q,r⟩:=h;exact⟨v,vs,e,q,r⟩
inductive KlI (K:Af) (ρ:List Addr) (H:Hp) (ds:List D) (v:V):Prop
 |mk (a xs) (_:v=.ref a) (_:SqF K H a xs) (_:RelDs K ρ H ds xs):KlI K ρ H ds v
def RelD.kl_inv(h:RelD K ρ H (.kl ds) v):KlI K ρ H ds v:=by
 obtain⟨v,vs,e,q,r⟩:=h;exact⟨v,vs,e,q,r⟩
def RelD.loc_inv(h:RelD K ρ H (.loc l) v):∃a,v=.ref a/\ρ[l]? =some a:=by simpa only[RelD]using h
def RelD.int(i:Int):RelD K ρ H (.int i) (.int i):=by simp only[RelD]
def RelD.bl(i:Bool):RelD K ρ H (.bl i) (.bl i):=by simp only[RelD]
def RelD.str(i:Str):RelD K ρ H (.str i) (.str i):=by simp only[RelD]
def RelD.non:RelD K ρ H .non .non:=by simp only[RelD]
def RelD.kd_inv(h:RelD K ρ H (.kd kvs) v):∃a,v=.ref a/\Vd K a kvs:=by simpa only[RelD]using h
open PyProof.Rows in
theorem Ji4:∀{es:List B6} {h:Heap} {a b:List (Str×Int)},KTD.Rows (T7 h) es (a.map λp=>(p.1,Eo (.int p.2)))->KTD.Rows (T7 h) es (b.map λp=>(p.1,Eo (.int p.2)))->a=b
 |[],h,a,b,h1,h2=>by
  cases a with
  |cons p a=>cases h1
  |nil=>
   cases b with
   |cons p b=>cases h2
   |nil=>rfl
 |e::es,h,a,b,h1,h2=>by
  cases a with
  |nil=>cases h1
  |cons p a=>
   cases b with
   |nil=>cases h2
   |cons q b=>
    obtain⟨x,n⟩:=p;obtain⟨y,m⟩:=q;cases h1 with
    |cons k1 v1 r1=>
     cases h2 with
     |cons k2 v2 r2=>
      rw[k1]at k2;cases k2;obtain⟨t1,e1⟩:=Lu v1;obtain⟨t2,e2⟩:=Lu v2;rw[e1]at e2;cases e2;rw[Ji4 r1 r2]
open PyProof.Rows in
def Vd.text{kvs:List (Str×Int)}(d:Vd K a kvs)(KX:K.In h):KTD.TextTab h a (kvs.map λp=>(p.1,Eo (.int p.2))):=PySem.W.kt_text_in KX d
def Vd.inj(d:Vd K a kvs)(d':Vd K a kvs')(KX:K.In h):kvs=kvs':=by
 obtain⟨_,o,es,ep,ho,_,hd,hr⟩:=d.text KX;obtain⟨_,o',es',ep',ho',_,hd',hr'⟩:=d'.text KX;rw[ho]at ho';cases ho';rw[hd]at hd';cases hd';exact Ji4 hr hr'
def Vd.obj{h:Heap}(d:Vd K a kvs)(KX:K.In h):∃o,h.get? a=some o/\o.ExactDict:=by
 obtain⟨_,o,es,ep,ho,hx,_⟩:=d.text KX;exact⟨o,ho,hx⟩
inductive LstI (K:Af) (ρ:List Addr) (H:Hp) (l:Nat) (v:V) (ds:List D):Prop
 |mk (a xs) (_:v=.ref a) (_:ρ[l]? =some a) (_:H a=some (.lst xs)) (_:RelDs K ρ H ds xs):LstI K ρ H l v ds
def RelS.lst(r:RelS K ρ S H)(h:RelD K ρ H (.loc l) v)(e:S[l]? =some (.lst ds)):LstI K ρ H l v ds:=by
 obtain⟨a,rfl,ha⟩:=h.loc_inv;obtain⟨xs,hx,q⟩:=r.ob l a _ ha e;exact⟨a,xs,rfl,ha,hx,q⟩
def Jan(e:seqAt S l=some ds):S[l]? =some (.lst ds):=by
 unfold seqAt at e;split at e
 ·cases e;assumption
 ·cases e
def RelS.seq(r:RelS K ρ S H)(h:RelD K ρ H x v)(e:U6 S x=some ds):∃a xs,v=.ref a/\(SqL K H a xs\/SqT K H a xs)/\RelDs K ρ H ds xs:=by
 unfold U6 at e;split at e
 ·cases e;obtain⟨a,xs,rfl,q,t⟩:=h.tup_inv;exact⟨a,xs,rfl,.inr q,t⟩
 ·obtain⟨a,xs,rfl,_,q,t⟩:=r.lst h (Jan e);exact⟨a,xs,rfl,.inl (SqL.of q),t⟩
 ·cases e;obtain⟨a,xs,rfl,q,t⟩:=h.kl_inv;exact⟨a,xs,rfl,.inl q.sq,t⟩
 ·cases e
theorem Jbb:Line=sizeLine:=by rw[G4];rfl
section
open PySem.Spec PyProof.Rows PyProof
section
open L2
variable {X:Cx}
def Joi:OpR X (F0 .Add) (λx y H Q=>∃a b ys,x=.ref a/\y=.ref b/\SqT X.K H a []/\SqT X.K H b ys/\Q (.ref b) H):=by
 intro pins s U H x y v u Q I rx ry h;obtain⟨a,b,ys,rfl,rfl,ha,hb,q⟩:=h;cases rx;cases ry;obtain⟨its,r1,p1,_⟩:=I.tuple ha;obtain⟨its2,r2,p2,_⟩:=I.tuple hb;have hn:its=[]:=r1.nil_iff.mpr rfl;subst hn;obtain⟨⟨cls,dd,data,sl⟩,ho,hc,n,hd⟩:=id p1;obtain⟨⟨cls2,dd2,data2,sl2⟩,ho2,hc2,n2,hd2⟩:=id p2;simp only at hc hd hc2 hd2;subst hc hd hc2 hd2;exact Le ⟨_,ho,rfl⟩ ⟨_,ho2,rfl⟩ L1 Nl Jl Iy (Ik _ _) (PyProof.Rows.tuple_addW0 a b #[] its2.toArray n n2 dd dd2 sl sl2 rfl) ⟨ho,ho2,⟨.ref b,H,I,rfl,q⟩⟩
end
end
def rB(K:Af)(o:Bop):R2:=λx y H Q=>∃ρ S dx dy d S',RelS K ρ S H/\RelD K ρ H dx x/\RelD K ρ H dy y/\bop o dx dy S=.ok d S'/\Fin K ρ H d S' Q
def Jm7{i:Int}(h:i.natAbs<2^4096):Bx i<=2^20:=by
 unfold Bx;split
 ·exact Cr _
 ·have hp:i.natAbs≠0:=by
   rename_i z;intro e;exact z (by simp[Int.natAbs_eq_zero.mp e])
  have:i.natAbs.log2<4096:=(Nat.log2_lt hp).mpr h;have:(2:Nat)^20=1048576:=by decide
  lia
def Js1{n:Nat}(h:n<2^4096):n.log2<9000:=by
 by_cases e:n=0
 ·subst e;decide+kernel
 ·have:=(Nat.log2_lt e).mpr h
  lia
section
variable {X:Cx}
def Jsu:OpR X (F0 .Mult) (rI (λi j=>(small i||small j||(mid i&&mid j))=true) λi j=>.int (i*j)):=opI λi j _ _ _ _ _ hc q=>PyProof.Rows.mul_int q (by
 simp only[Hm,Al,small,mid,decide_eq_true_eq]at hc;rcases hc with(h|h)|h
 ·exact Y2.ok (.inl h)
 ·exact Y2.ok (.inr h)
 ·exact IntMulOk.of_bits (Jm7 h.1) (Jm7 h.2))
def Joh:OpR X (F0 .FloorDiv) (rI (λ_ j=>0<j/\j.natAbs<2^4096) λi j=>.int (i/j)):=opI λi j _ _ _ _ _ hc q=>by
 refine PyProof.Rows.floordiv_int (by omega) ?_ (.inl (PyProof.noPylong_of_log2 (Js1 hc.2)));rw[Nx i (by omega)];exact q
theorem Jxp(o:Bop):OpR X (F0 (Wag o)) (rB X.K o):=by
 intro pins s U H x y v u Q I rx ry hq_;obtain⟨ρ,S,dx,dy,d,S',rs,r1,r2,e,fin⟩:=hq_;cases o with
 |add=>
  cases dx<;>cases dy<;>first|exact absurd e Jaa|(delta bop at e;dsimp only at e)
  ·cases e;cases r1.int_inv;cases r2.int_inv;exact Jv2 pins s U H _ _ v u Q I rx ry ⟨_,_,rfl,rfl,fin.now rs (RelD.int _)⟩
  ·split at e
   ·rename_i hl;cases e;obtain⟨a,xs,rfl,q1,t1⟩:=r1.tup_inv;obtain⟨b,ys,rfl,q2,t2⟩:=r2.tup_inv
    by_cases hds:xs=[]
    ·subst hds;have:=t1.length;rw[Et]at this;have ea:=Oi.mp this;subst ea;refine Joi pins s U H _ _ v u Q I rx ry ⟨a,b,ys,rfl,rfl,q1,q2,fin.now rs ?_⟩;simp only[RelD,List.nil_append];exact⟨b,ys,rfl,q2,t2⟩
    refine Jsv pins s U H _ _ v u Q I rx ry ⟨a,b,xs,ys,rfl,rfl,q1,q2,hds,?_,λey=>?_,λ_=>fin.newT rs (t1.append t2)⟩
    ·rw[<-t1.length,<-t2.length,<-Jbb];exact hl
    ·subst ey;have:=t2.length;rw[Et]at this;have eb:=Oi.mp this;subst eb;refine fin.now rs ?_;simp only[RelD,Gn];exact⟨a,xs,rfl,q1,t1⟩
   ·cases e
  ·split at e
   ·rename_i a b ha hb;split at e
    ·rename_i hl;cases e;obtain⟨p,xs,rfl,_,q1,t1⟩:=rs.lst r1 ha;obtain⟨p2,ys,rfl,_,q2,t2⟩:=rs.lst r2 hb;exact Jv1 pins s U H _ _ v u Q I rx ry ⟨p,p2,xs,ys,rfl,rfl,q1,q2,by rw[<-t1.length,<-t2.length,<-Jbb];exact hl,fin.newL rs (t1.append t2)⟩
    ·cases e
   ·cases e
  ·split at e
   ·rename_i b hb;split at e
    ·rename_i hl;cases e;obtain⟨p,xs,rfl,q1,t1⟩:=r1.kl_inv;obtain⟨p2,ys,rfl,_,q2,t2⟩:=rs.lst r2 hb;exact Jsw pins s U H _ _ v u Q I rx ry ⟨p,p2,xs,ys,rfl,rfl,q1.sq,SqL.of q2,by rw[<-t1.length,<-t2.length,<-Jbb];exact hl,fin.newL rs (t1.append t2)⟩
    ·cases e
   ·cases e
 |shr=>
  cases dx<;>cases dy<;>first|exact absurd e Jaa|(delta bop at e;dsimp only at e)
  split at e
  ·rename_i hl;cases e;cases r1.int_inv;cases r2.int_inv;exact Jvx pins s U H _ _ v u Q I rx ry ⟨_,_,rfl,rfl,hl,fin.now rs (RelD.int _)⟩
  ·cases e
 |sub=>
  cases dx<;>cases dy<;>first|exact absurd e Jaa|(delta bop at e;dsimp only at e)
  cases e;cases r1.int_inv;cases r2.int_inv;exact Jvw pins s U H _ _ v u Q I rx ry ⟨_,_,rfl,rfl,fin.now rs (RelD.int _)⟩
 |mul=>
  cases dx<;>cases dy<;>first|exact absurd e Jaa|(delta bop at e;dsimp only at e)
  split at e
  ·rename_i hl;cases e;cases r1.int_inv;cases r2.int_inv;exact Jsu pins s U H _ _ v u Q I rx ry ⟨_,_,rfl,rfl,hl,fin.now rs (RelD.int _)⟩
  ·cases e
 |fdiv=>
  cases dx<;>cases dy<;>first|exact absurd e Jaa|(delta bop at e;dsimp only at e)
  split at e
  ·rename_i hl;cases e;cases r1.int_inv;cases r2.int_inv;exact Joh pins s U H _ _ v u Q I rx ry ⟨_,_,rfl,rfl,hl,fin.now rs (RelD.int _)⟩
  ·cases e
 |mod=>
  cases dx<;>cases dy<;>first|exact absurd e Jaa|(delta bop at e;dsimp only at e)
  split at e
  ·rename_i hl;cases e;cases r1.int_inv;cases r2.int_inv;exact Jvz pins s U H _ _ v u Q I rx ry ⟨_,_,rfl,rfl,hl,fin.now rs (RelD.int _)⟩
  ·cases e
 |pow=>
  cases dx<;>cases dy<;>first|exact absurd e Jaa|(delta bop at e;dsimp only at e)
  split at e
  ·rename_i hl;simp only[Al,decide_eq_true_eq]at hl;cases e;cases r1.int_inv;cases r2.int_inv;exact Jvy pins s U H _ _ v u Q I rx ry ⟨_,_,rfl,rfl,⟨hl.1.1,hl.1.2,hl.2⟩,fin.now rs (RelD.int _)⟩
  ·cases e
end
theorem in1_units(A:Bl):A.in1.units=A.units+1:=rfl
section
variable {X:Cx} {pins:List (Addr×A5)} {U:L2.St} {s:Shared}
theorem Ju7(ry:RelV y u)(rx:RelV x v)(fy:Ws y=true)(fx:Ws x=true):P5 A s u v (eqV y x):=by
 cases y with
 |non=>
  cases ry;cases x with
  |non=>cases rx;exact SeqAt.RcAt.none_none
  |bl b=>cases rx;exact SeqAt.RcAt.none_bool b
  |int b=>obtain⟨t,rfl⟩:=rx;exact SeqAt.RcAt.none_int b t
  |str b=>obtain⟨t,rfl⟩:=rx;exact SeqAt.RcAt.none_str b t
  |_=>exact fx9 (show false=true from fx)
 |bl a=>
  cases ry;cases x with
  |non=>cases rx;exact SeqAt.RcAt.bool_none a
  |bl b=>cases rx;exact SeqAt.RcAt.bool_bool a b
  |int b=>obtain⟨t,rfl⟩:=rx;exact SeqAt.RcAt.bool_int a b t
  |str b=>obtain⟨t,rfl⟩:=rx;exact SeqAt.RcAt.bool_str a b t
  |_=>exact fx9 (show false=true from fx)
 |int a=>
  obtain⟨t',rfl⟩:=ry;cases x with
  |non=>cases rx;exact SeqAt.RcAt.int_none a t'
  |bl b=>cases rx;exact SeqAt.RcAt.int_bool a t' b
  |int b=>obtain⟨t,rfl⟩:=rx;exact SeqAt.RcAt.int_int a t' b t
  |str b=>obtain⟨t,rfl⟩:=rx;exact SeqAt.RcAt.int_str a t' b t
  |_=>exact fx9 (show false=true from fx)
 |str a=>
  obtain⟨t',rfl⟩:=ry;cases x with
  |non=>cases rx;exact SeqAt.RcAt.str_none a t'
  |bl b=>cases rx;exact SeqAt.RcAt.str_bool a t' b
  |int b=>obtain⟨t,rfl⟩:=rx;exact SeqAt.RcAt.str_int a t' b t
  |str b=>obtain⟨t,rfl⟩:=rx;exact SeqAt.RcAt.str_str a t' b t
  |_=>exact fx9 (show false=true from fx)
 |_=>exact fx9 (show false=true from fy)
def Jdv(h:RelD K ρ H x v)(e:Vg x=some w):v=w/\Ws w=true:=by
 cases x<;>simp only[Vg]at e<;>try (cases e;done)
 ·cases e;exact⟨h.non_inv,rfl⟩
 ·cases e;exact⟨h.bl_inv,rfl⟩
 ·cases e;exact⟨h.int_inv,rfl⟩
 ·cases e;exact⟨h.str_inv,rfl⟩
theorem Jdk{f:D->D->Option Bool}:∀{as bs:List D} {b:Bool},eqL f as bs=some b->as.length=bs.length->∀(i:Nat) (x y:D),as[i]? =some x->bs[i]? =some y->∃c,f x y=some c
 |[],[],b,_,_,i,x,y,h1,_=>by simp at h1
 |[],_::_,b,_,hl,i,x,y,h1,_=>by simp at h1
 |_::_,[],b,_,hl,i,x,y,_,h2=>by simp at h2
 |a::as,c::bs,b,e,hl,i,x,y,h1,h2=>by
  simp only[eqL]at e;split at e
  ·rename_i p q hp hq;cases i with
   |zero=>simp at h1 h2;subst h1 h2;exact⟨p,hp⟩
   |succ i=>exact Jdk hq (by simpa using hl) i x y (by simpa using h1) (by simpa using h2)
  ·cases e
theorem Jil{f:D->D->Option Bool}(e:Nat->Bool):∀{as bs:List D} {b:Bool} (k:Nat),eqL f as bs=some b->as.length=bs.length->(∀(i:Nat) (x y:D),as[i]? =some x->bs[i]? =some y->f x y=some (e (k+i)))->b=((B7 as.length).map (k+·)).all e
 |[],[],b,k,h,_,_=>by simp only[eqL]at h;cases h;rfl
 |[],_::_,b,k,h,hl,_=>by simp at hl
 |_::_,[],b,k,h,hl,_=>by simp at hl
 |a::as,c::bs,b,k,h,hl,hf=>by
  simp only[eqL]at h;split at h
  ·rename_i p q hp hq;cases h;have h0:=hf 0 a c rfl rfl;rw[hp]at h0;have h0:p=e (k+0):=Bj h0;have h1:=Jil e (k+1) hq (by simpa using hl) λi x y e1 e2=>by
    have:=hf (i+1) x y (by simpa using e1) (by simpa using e2);rw[show k+1+i=k+(i+1)from by lia];exact this
   rw[h0,h1,A7,Ox,Aw,K7,B1];congr 2;refine Ec λi _=>?_;show k+1+i=k+(i+1)
   lia
  ·cases h
theorem Jjj(I:Inv X pins U H s)(r:RelS X.K ρ S H):∀(n:Nat) {x y:D} {v:V} {b:Bool},RelD X.K ρ H x v->RelD X.K ρ H y v->eqD S n x y=some b->b=true:=by
 have sc:∀{x y:D} {v w z:V} {b:Bool},RelD X.K ρ H x v->RelD X.K ρ H y v->Vg x=some w->Vg y=some z->some (eqV w z)=some b->b=true:=λ{x y v w z b} h1 h2 e1 e2 e=>by
  obtain⟨rfl,f1⟩:=Jdv h1 e1;obtain⟨rfl,f2⟩:=Jdv h2 e2;cases e;cases v<;>first|rfl|exact fx9 f1|exact beq_self_eq_true _
 intro n
 induction n with
 |zero=>
  intro x y v b h1 h2 e;simp only[eqD]at e;split at e
  ·rename_i w z e1 e2;exact sc h1 h2 e1 e2 e
  ·cases e
 |succ n ih=>
  intro x y v b h1 h2 e;have ihL:∀{as bs:List D} {vs:List V} {b:Bool},RelDs X.K ρ H as vs->RelDs X.K ρ H bs vs->eqL (eqD S n) as bs=some b->b=true:=by
   intro as
   induction as with
   |nil=>
    intro bs vs b h1 h2 e;cases bs with
    |nil=>simp only[eqL]at e;cases e;rfl
    |cons c bs=>
     rw[h1.inv_nil]at h2;obtain⟨_,_,z,_⟩:=h2.inv_cons;cases z
   |cons a as iha=>
    intro bs vs b h1 h2 e;obtain⟨w,ws,rfl,q1,t1⟩:=h1.inv_cons;cases bs with
    |nil=>cases h2.inv_nil
    |cons c bs=>
     obtain⟨w',ws',z,q2,t2⟩:=h2.inv_cons;cases z;simp only[eqL]at e;split at e
     ·rename_i p q hp hq;cases e;rw[ih q1 q2 hp,iha t1 t2 hq];rfl
     ·cases e
  simp only[eqD]at e;split at e
  ·rename_i as bs;obtain⟨a,xs,rfl,p1,t1⟩:=h1.tup_inv;obtain⟨a',xs',e',p2,t2⟩:=h2.tup_inv;cases e';cases I.tuple_inj p1 p2;have hl:as.length=bs.length:=t1.length.trans t2.length.symm;rw[if_pos hl]at e;exact ihL t1 t2 e
  ·rename_i l k;obtain⟨a,rfl,p1⟩:=h1.loc_inv;obtain⟨a',e',p2⟩:=h2.loc_inv;cases e';have hlk:l=k:=Jcv r.nd p1 p2;subst hlk;split at e
   ·rename_i as bs e1 e2;rw[e1]at e2;cases e2;rw[if_pos rfl]at e;obtain⟨b',xs,_,_,_,t⟩:=r.lst h1 (Jan e1);exact ihL t t e
   ·cases e
  ·split at e
   ·rename_i w z e1 e2;exact sc h1 h2 e1 e2 e
   ·cases e
end
end Mi
namespace Mi
open PySem L2
theorem Jnv(ry:RelV y u)(rx:RelV x v)(fy:Ws y=true)(fx:Ws x=true):Of A s u v (!eqV y x):=by
 cases y with
 |non=>
  cases ry;cases x with
  |non=>cases rx;exact SeqAt.RcNeAt.none_none
  |bl b=>cases rx;exact SeqAt.RcNeAt.none_bool b
  |int b=>obtain⟨t,rfl⟩:=rx;exact SeqAt.RcNeAt.none_int b t
  |str b=>obtain⟨t,rfl⟩:=rx;exact SeqAt.RcNeAt.none_str b t
  |_=>exact fx9 (show false=true from fx)
 |bl a=>
  cases ry;cases x with
  |non=>cases rx;exact SeqAt.RcNeAt.bool_none a
  |bl b=>cases rx;exact SeqAt.RcNeAt.bool_bool a b
  |int b=>obtain⟨t,rfl⟩:=rx;exact SeqAt.RcNeAt.bool_int a b t
  |str b=>obtain⟨t,rfl⟩:=rx;exact SeqAt.RcNeAt.bool_str a b t
  |_=>exact fx9 (show false=true from fx)
 |int a=>
  obtain⟨t',rfl⟩:=ry;cases x with
  |non=>cases rx;exact SeqAt.RcNeAt.int_none a t'
  |bl b=>cases rx;exact SeqAt.RcNeAt.int_bool a t' b
  |int b=>obtain⟨t,rfl⟩:=rx;exact SeqAt.RcNeAt.int_int a t' b t
  |str b=>obtain⟨t,rfl⟩:=rx;exact SeqAt.RcNeAt.int_str a t' b t
  |_=>exact fx9 (show false=true from fx)
 |str a=>
  obtain⟨t',rfl⟩:=ry;cases x with
  |non=>cases rx;exact SeqAt.RcNeAt.str_none a t'
  |bl b=>cases rx;exact SeqAt.RcNeAt.str_bool a t' b
  |int b=>obtain⟨t,rfl⟩:=rx;exact SeqAt.RcNeAt.str_int a t' b t
  |str b=>obtain⟨t,rfl⟩:=rx;exact SeqAt.RcNeAt.str_str a t' b t
  |_=>exact fx9 (show false=true from fx)
 |_=>exact fx9 (show false=true from fy)
section
variable {X:Cx} {pins:List (Addr×A5)} {U:L2.St} {s:Shared} {ρ:List Addr} {H:Hp} {S:Store}
structure Xn(A:Bl)(s:Shared)(u w:Value)(b:Bool):Prop where
 eq:E9 A s u w b
 rc:P5 A s u w b
 ne:Of A s u w (!b)
def Jmo(h1:RelD X.K ρ H x vx)(h2:RelD X.K ρ H y vy)(r1:RelV vx u)(r2:RelV vy w)(e1:Vg x=some p)(e2:Vg y=some q)(e:some (eqV p q)=some b):Xn A s u w b:=by
 obtain⟨rfl,f1⟩:=Jdv h1 e1;obtain⟨rfl,f2⟩:=Jdv h2 e2;cases e;exact⟨Jw6 r1 r2 f1 f2,Ju7 r1 r2 f1 f2,Jnv r1 r2 f1 f2⟩
def Jlu{us ws:List Value}(t1:RelDs X.K ρ H as xs)(t2:RelDs X.K ρ H bs ys)(v1:Vals xs us)(v2:Vals ys ws)(h1:j<us.toArray.size)(h2:j<ws.toArray.size):
  ∃a b v z,as[j]? =some a/\bs[j]? =some b/\RelD X.K ρ H a v/\RelD X.K ρ H b z/\RelV v us.toArray[j]/\RelV z ws.toArray[j]:=by
 have l1:j<as.length:=by rw[t1.length,v1.length];simpa using h1
 have l2:j<bs.length:=by rw[t2.length,v2.length];simpa using h2
 obtain⟨v,e1,q1⟩:=t1.get (Ag l1);obtain⟨z,e2,q2⟩:=t2.get (Ag l2);obtain⟨u',e3,q3⟩:=v1.get e1;obtain⟨w',e4,q4⟩:=v2.get e2;refine⟨_,_,v,z,Ag l1,Ag l2,q1,q2,?_,?_⟩
 ·have:us.toArray[j]=u':=by
   have:=Ae.mp e3;obtain⟨_,e⟩:=this
   simpa using e
  rw[this];exact q3
 ·have:ws.toArray[j]=w':=by
   have:=Ae.mp e4;obtain⟨_,e⟩:=this
   simpa using e
  rw[this];exact q4
theorem Jhb(I:Inv X pins U H s)(r:RelS X.K ρ S H):∀(n:Nat) {A:Bl} {x y:D} {vx vy:V} {u w:Value} {b:Bool},A.units+n<C0->RelD X.K ρ H x vx->RelD X.K ρ H y vy->RelV vx u->RelV vy w->eqD S n x y=some b->Xn A s u w b:=by
 intro n
 induction n with
 |zero=>
  intro A x y vx vy u w b hu h1 h2 r1 r2 e;simp only[eqD]at e;split at e
  ·rename_i p q e1 e2;exact Jmo h1 h2 r1 r2 e1 e2 e
  ·cases e
 |succ n ih=>
  intro A x y vx vy u w b hu h1 h2 r1 r2 e;have e0:=e;have hu0:A.units<C0:=by lia
  have hu1:A.in1.units+n<C0:=by rw[in1_units];lia
  simp only[eqD]at e;split at e
  ·rename_i as bs;obtain⟨a,xs,rfl,p1,t1⟩:=h1.tup_inv;obtain⟨c,ys,rfl,p2,t2⟩:=h2.tup_inv;cases r1;cases r2;obtain⟨us,v1,i1,z1⟩:=I.tuple p1;obtain⟨ws,v2,i2,z2⟩:=I.tuple p2;have s1:us.toArray.size=as.length:=by rw[Ap,<-v1.length,t1.length]
   have s2:ws.toArray.size=bs.length:=by rw[Ap,<-v2.length,t2.length]
   let ev:Nat->Bool:=λj=>match as[j]?,bs[j]? with|some p,some q=>(eqD S n p q).getD false|_,_=>false
   have he:∀(hs:∀(j:Nat) (p q:D),as[j]? =some p->bs[j]? =some q->∃c,eqD S n p q=some c) (j:Nat) (g1:j<us.toArray.size) (g2:j<ws.toArray.size),E9 A.in1 s us.toArray[j] ws.toArray[j] (ev j):=λhs j g1 g2=>by
    obtain⟨p,q,v,z,a1,a2,q1,q2,q3,q4⟩:=Jlu t1 t2 v1 v2 g1 g2;obtain⟨c,hc⟩:=hs j p q a1 a2;have:ev j=c:=by simp only[ev,a1,a2,hc];rfl
    rw[this];exact(ih hu1 q1 q2 q3 q4 hc).eq
   have fin:∀(hs:∀(j:Nat) (p q:D),as[j]? =some p->bs[j]? =some q->∃c,eqD S n p q=some c),((B7 (min us.toArray.size ws.toArray.size)).all ev&&us.toArray.size==ws.toArray.size)=b->Xn A s (.ref a) (.ref c) b:=λhs hb=>by
    have rc:=SeqAt.RcAt.tuples (show s.heap.IsTuple a us.toArray from i1) (show s.heap.IsTuple c ws.toArray from i2) hu0 (he hs);have ne:=SeqAt.RcNeAt.tuples (show s.heap.IsTuple a us.toArray from i1) (show s.heap.IsTuple c ws.toArray from i2) hu0 (he hs);rw[hb]at rc ne;refine⟨?_,rc,ne⟩
    by_cases hac:a=c
    ·subst hac;have:=Jjj I r (n+1) h1 h2 e0;subst this;exact La _
    ·exact N3 hac rc
   split at e
   ·rename_i hl;refine fin (λj p q a1 a2=>Jdk e hl j p q a1 a2) ?_;rw[s1,s2,hl,Nat.min_self,beq_self_eq_true,Ua];rw[Jil ev 0 e hl λj p q a1 a2=>?_]
    ·rw[hl];congr 1;exact(Uu _).symm.trans (Ec λj _=>(Fg j).symm)
    ·obtain⟨c',hc'⟩:=Jdk e hl j p q a1 a2;rw[hc',Fg];simp only[ev,a1,a2,hc'];rfl
   ·rename_i hl;split at e
    ·rename_i hsome;cases e;obtain⟨b',hb'⟩:=B9.mp hsome;refine fin (λj p q a1 a2=>?_) ?_
     ·have l1:=(Ae.mp a1).1;have l2:=(Ae.mp a2).1;refine Jdk hb' (by rw[F6,F6,Nat.min_comm]) j p q ?_ ?_
      ·rw[Gj l2];exact a1
      ·rw[Gj l1];exact a2
     ·have:(us.toArray.size==ws.toArray.size)=false:=by rw[s1,s2];simpa using hl
      rw[this,Km]
    ·cases e
  ·rename_i l k;split at e
   ·rename_i as bs e1 e2;obtain⟨a,xs,rfl,_,p1,t1⟩:=r.lst h1 (Jan e1);obtain⟨c,ys,rfl,_,p2,t2⟩:=r.lst h2 (Jan e2);cases r1;cases r2;obtain⟨us,v1,i1,z1⟩:=I.list (SqL.of p1);obtain⟨ws,v2,i2,z2⟩:=I.list (SqL.of p2);have s1:us.toArray.size=as.length:=by rw[Ap,<-v1.length,t1.length]
    have s2:ws.toArray.size=bs.length:=by rw[Ap,<-v2.length,t2.length]
    have fin:∀(rc:P5 A s (.ref a) (.ref c) b) (ne:Of A s (.ref a) (.ref c) (!b)),Xn A s (.ref a) (.ref c) b:=λrc ne=>by
     refine⟨?_,rc,ne⟩
     by_cases hac:a=c
     ·subst hac;have:=Jjj I r (n+1) h1 h2 e0;subst this;exact La _
     ·exact N3 hac rc
    split at e
    ·rename_i hl
     let ev:Nat->Bool:=λj=>match as[j]?,bs[j]? with|some p,some q=>(eqD S n p q).getD false|_,_=>false
     have he:∀(j:Nat) (g1:j<us.toArray.size) (g2:j<ws.toArray.size),E9 A.in1 s us.toArray[j] ws.toArray[j] (ev j):=λj g1 g2=>by
      obtain⟨p,q,v,z,a1,a2,q1,q2,q3,q4⟩:=Jlu t1 t2 v1 v2 g1 g2;obtain⟨c,hc⟩:=Jdk e hl j p q a1 a2;have:ev j=c:=by simp only[ev,a1,a2,hc];rfl
      rw[this];exact(ih hu1 q1 q2 q3 q4 hc).eq
     have hb:(B7 us.toArray.size).all ev=b:=by
      rw[s1];rw[Jil ev 0 e hl λj p q a1 a2=>?_]
      ·congr 1;exact(Uu _).symm.trans (Ec λj _=>(Fg j).symm)
      ·obtain⟨c',hc'⟩:=Jdk e hl j p q a1 a2;rw[hc',Fg];simp only[ev,a1,a2,hc'];rfl
     have rc:=SeqAt.RcAt.lists i1.isList i2.isList (by rw[s1,s2,hl]) hu0 he;have ne:=SeqAt.RcNeAt.lists i1.isList i2.isList (by rw[s1,s2,hl]) hu0 he;rw[hb]at rc ne;exact fin rc ne
    ·rename_i hl;cases e;have hsz:(us.toArray.size !=ws.toArray.size)=true:=by rw[s1,s2];simpa using hl
     exact fin (SeqAt.RcAt.lists_lengths i1.isList i2.isList hsz hu0) (SeqAt.RcNeAt.lists_lengths i1.isList i2.isList hsz hu0)
   ·cases e
  ·split at e
   ·rename_i p q e1 e2;exact Jmo h1 h2 r1 r2 e1 e2 e
   ·cases e
end
section
variable {X:Cx} {ρ:List Addr} {H:Hp} {S:Store} {pins:List (Addr×A5)} {U:L2.St} {s:Shared}
def Jcw(I:Inv X pins U H s)(h1:SqL X.K H a xs)(h2:SqT X.K H a ys):False:=by
 obtain⟨its,_,⟨o,n,e,c,_⟩,_⟩:=I.list h1;obtain⟨its2,_,⟨o2,e2,c2,_⟩,_⟩:=I.tuple h2;rw[e]at e2;cases e2;rw[c]at c2;injection c2 with z;exact absurd z (by decide)
def Jfb(I:Inv X pins U H s)(h1:SqL X.K H a xs)(h2:Vd X.K a kvs):False:=by
 obtain⟨its,_,⟨o,n,e,c,_⟩,_⟩:=I.list h1;obtain⟨o2,e2,x⟩:=h2.obj I.kIn;rw[e]at e2;cases e2;have c2:=x.1;rw[c]at c2;injection c2 with z;exact absurd z (by decide)
def Jeh(I:Inv X pins U H s)(h1:SqT X.K H a xs)(h2:Vd X.K a kvs):False:=by
 obtain⟨its,_,⟨o,e,c,_⟩,_⟩:=I.tuple h1;obtain⟨o2,e2,x⟩:=h2.obj I.kIn;rw[e]at e2;cases e2;have c2:=x.1;rw[c]at c2;injection c2 with z;exact absurd z (by decide)
theorem Vd.look{K:Af}(d:Vd K a kvs):∃o,K.lookup a=some o:=by
 unfold Vd Ky at d;cases h:K.lookup a with
 |none=>simp[h]at d
 |some o=>exact⟨o,rfl⟩
theorem Jdw(h:RelO K ρ H a o):∃o0:HO,H a=Option.some o0/\(∀xs,o0≠ .tup xs)/\∀u w,o0≠ .frz u (.tup w)/\o0≠ .frz u (.lst w):=by
 cases o with
 |lst ds=>obtain⟨xs,e,_⟩:=h;exact⟨_,e,(λ_ z=>by cases z),(λ_ _=>⟨nofun,nofun⟩)⟩
 |dct ds=>obtain⟨xs,e,_⟩:=h;exact⟨_,e,(λ_ z=>by cases z),(λ_ _=>⟨nofun,nofun⟩)⟩
 |dtu ds=>obtain⟨xs,e,_⟩:=h;exact⟨_,e,(λ_ z=>by cases z),(λ_ _=>⟨nofun,nofun⟩)⟩
 |fz ds=>obtain⟨xs,o,e,_⟩:=h;exact⟨_,e,(λ_ z=>by cases z),(λ_ _=>⟨nofun,nofun⟩)⟩
 |rg ds=>obtain⟨xs,e,_⟩:=h;exact⟨_,e,(λ_ z=>by cases z),(λ_ _=>⟨nofun,nofun⟩)⟩
 |ins c fs=>obtain⟨C,dx,ws,n,e,r⟩:=h;exact⟨_,e,(λ_ z=>by cases z),(λ_ _=>⟨nofun,nofun⟩)⟩
def Wdx(I:Inv X pins U H s){xs:List V}(e:H a=some o0)(m1:∀xs,o0≠ .tup xs)(m2:∀u w,o0≠ .frz u (.tup w)/\o0≠ .frz u (.lst w))(q:SqT X.K H a xs):False:=by
 rcases q with q|⟨o,_,_,hk,_⟩
 ·rw[e]at q;exact m1 _ (Bj q)
 ·have z:=(I.bs a o (I.ok.mod.kin a o hk)).2;rw[e]at z;cases z
def Wdy(I:Inv X pins U H s)(e:H a=some o0)(m2:∀u w,o0≠ .frz u (.tup w)/\o0≠ .frz u (.lst w))(q:SqF X.K H a xs):False:=by
 rcases q with⟨o,q⟩|⟨o,_,_,hk,_⟩
 ·rw[e]at q;exact(m2 _ _).2 (Bj q)
 ·have z:=(I.bs a o (I.ok.mod.kin a o hk)).2;rw[e]at z;cases z
def Wdz(I:Inv X pins U H s)(e:H a=some o0)(q:Vd X.K a kvs):False:=by
 obtain⟨o,hk⟩:=q.look;have z:=(I.bs a o (I.ok.mod.kin a o hk)).2;rw[e]at z;cases z
mutual
theorem RelD.inj(I:Inv X pins U H s)(r:RelS X.K ρ S H):∀{d d':D} {v:V},RelD X.K ρ H d v->RelD X.K ρ H d' v->d=d'
 |.non,d',v,h,h'=>by
  cases h.non_inv;cases d'<;>simp only[RelD]at h'<;>first|rfl|(cases h';done)|(obtain⟨_,_,e,_⟩:=h';cases e)|(obtain⟨_,e,_⟩:=h';cases e)
 |.bl b,d',v,h,h'=>by
  cases h.bl_inv;cases d'<;>simp only[RelD]at h'<;>first|(cases h';rfl)|(cases h';done)|(obtain⟨_,_,e,_⟩:=h';cases e)|(obtain⟨_,e,_⟩:=h';cases e)
 |.int b,d',v,h,h'=>by
  cases h.int_inv;cases d'<;>simp only[RelD]at h'<;>first|(cases h';rfl)|(cases h';done)|(obtain⟨_,_,e,_⟩:=h';cases e)|(obtain⟨_,e,_⟩:=h';cases e)
 |.str b,d',v,h,h'=>by
  cases h.str_inv;cases d'<;>simp only[RelD]at h'<;>first|(cases h';rfl)|(cases h';done)|(obtain⟨_,_,e,_⟩:=h';cases e)|(obtain⟨_,e,_⟩:=h';cases e)
 |.tup ds,d',v,h,h'=>by
  obtain⟨a,xs,rfl,q,t⟩:=h.tup_inv;cases d' with
  |tup es=>
   obtain⟨a',xs',e,q',t'⟩:=h'.tup_inv;cases e;cases I.tuple_inj q q';rw[RelDs.inj I r t t']
  |loc l=>
   obtain⟨a',e,hl⟩:=h'.loc_inv;cases e;obtain⟨o,_,ho⟩:=r.at hl;obtain⟨o0,e0,m1,m2⟩:=Jdw ho;exact(Wdx I e0 m1 m2 q).elim
  |kl es=>
   obtain⟨a',xs',e,q',t'⟩:=h'.kl_inv;cases e;exact(Jcw I q'.sq q).elim
  |kd kvs=>
   obtain⟨a',e,q'⟩:=h'.kd_inv;cases e;exact(Jeh I q q').elim
  |_=>simp only[RelD]at h';cases h'
 |.loc l,d',v,h,h'=>by
  obtain⟨a,rfl,hl⟩:=h.loc_inv;obtain⟨o,_,ho⟩:=r.at hl;obtain⟨o0,e0,m1,m2⟩:=Jdw ho;cases d' with
  |loc k=>
   obtain⟨a',e,hk⟩:=h'.loc_inv;cases e;rw[Jcv r.nd hl hk]
  |tup es=>
   obtain⟨a',xs',e,q',t'⟩:=h'.tup_inv;cases e;exact(Wdx I e0 m1 m2 q').elim
  |kl es=>
   obtain⟨a',xs',e,q',t'⟩:=h'.kl_inv;cases e;exact(Wdy I e0 m2 q').elim
  |kd kvs=>
   obtain⟨a',e,q'⟩:=h'.kd_inv;cases e;exact(Wdz I e0 q').elim
  |_=>simp only[RelD]at h';cases h'
 |.kl ds,d',v,h,h'=>by
  obtain⟨a,xs,rfl,q,t⟩:=h.kl_inv;cases d' with
  |kl es=>
   obtain⟨a',xs',e,q',t'⟩:=h'.kl_inv;cases e;cases I.list_inj q.sq q'.sq;rw[RelDs.inj I r t t']
  |loc l=>
   obtain⟨a',e,hl⟩:=h'.loc_inv;cases e;obtain⟨o,_,ho⟩:=r.at hl;obtain⟨o0,e0,m1,m2⟩:=Jdw ho;exact(Wdy I e0 m2 q).elim
  |tup es=>
   obtain⟨a',xs',e,q',t'⟩:=h'.tup_inv;cases e;exact(Jcw I q.sq q').elim
  |kd kvs=>
   obtain⟨a',e,q'⟩:=h'.kd_inv;cases e;exact(Jfb I q.sq q').elim
  |_=>simp only[RelD]at h';cases h'
 |.kd kvs,d',v,h,h'=>by
  obtain⟨a,rfl,q⟩:=h.kd_inv;cases d' with
  |kd kvs'=>
   obtain⟨a',e,q'⟩:=h'.kd_inv;cases e;rw[q.inj q' I.kIn]
  |tup es=>
   obtain⟨a',xs',e,q',t'⟩:=h'.tup_inv;cases e;exact(Jeh I q' q).elim
  |loc l=>
   obtain⟨a',e,hl⟩:=h'.loc_inv;cases e;obtain⟨o,_,ho⟩:=r.at hl;obtain⟨o0,e0,m1,m2⟩:=Jdw ho;exact(Wdz I e0 q).elim
  |kl es=>
   obtain⟨a',xs',e,q',t'⟩:=h'.kl_inv;cases e;exact(Jfb I q'.sq q).elim
  |_=>simp only[RelD]at h';cases h'
theorem RelDs.inj(I:Inv X pins U H s)(r:RelS X.K ρ S H):∀{ds ds':List D} {vs:List V},RelDs X.K ρ H ds vs->RelDs X.K ρ H ds' vs->ds=ds'
 |[],ds',vs,h,h'=>by
  rw[h.inv_nil]at h';cases ds' with
  |nil=>rfl
  |cons d es=>obtain⟨_,_,e,_⟩:=h'.inv_cons;cases e
 |d::ds,ds',vs,h,h'=>by
  obtain⟨v,ws,rfl,q,t⟩:=h.inv_cons;cases ds' with
  |nil=>cases h'.inv_nil
  |cons d' es=>
   obtain⟨v',ws',e,q',t'⟩:=h'.inv_cons;cases e;rw[RelD.inj I r q q',RelDs.inj I r t t']
end
def rC(K:Af)(o:Cop):R2:=λx y H Q=>∃ρ S dx dy k,RelS K ρ S H/\RelD K ρ H dx x/\RelD K ρ H dy y/\cop o dx dy S=some k/\Q (.bl k) H
theorem Jd3(I:Inv X pins U H s)(r:RelS X.K ρ S H){A:Bl}(hu:A.units+Deep<C0)(hx:RelD X.K ρ H x vx)(rx:RelV vx w)
  {us:List Value}(t:RelDs X.K ρ H ds xs)(v:Vals xs us)(e:anyEq S Deep x ds=some b):∃e:Value->Bool,(∀u∈us,E9 A s u w (e u))/\us.any e=b:=by
 classical
 let ev:Value->Bool:=λu=>decide (∃d v,RelD X.K ρ H d v/\RelV v u/\eqD S Deep d x=some true)
 have one:∀{d:D} {v:V} {u:Value} {b:Bool},RelD X.K ρ H d v->RelV v u->eqD S Deep d x=some b->ev u=b:=λ{d v u b} h r1 e=>by
  cases b with
  |true=>exact decide_eq_true ⟨d,v,h,r1,e⟩
  |false=>
   refine decide_eq_false ?_;rintro⟨d',v',h',r2,e'⟩;cases r1.inj r2;rw[RelD.inj I r h h',e']at e;cases e
 refine⟨ev,?_⟩
 induction ds generalizing xs us b with
 |nil=>
  rw[t.inv_nil]at v;cases v;simp only[anyEq]at e;cases e;exact⟨λu hu=>by simp at hu,rfl⟩
 |cons d ds ih=>
  obtain⟨z,zs,rfl,q,t'⟩:=t.inv_cons;cases v with
  |cons r1 v'=>
   rename_i u us;simp only[anyEq]at e;split at e
   ·rename_i p p' e1 e2;cases e;obtain⟨h1,h2⟩:=ih t' v' e2;refine⟨λu' hu'=>?_,?_⟩
    ·rcases An.mp hu' with rfl|hm
     ·rw[one q r1 e1];exact(Jhb I r Deep hu q hx r1 rx e1).eq
     ·exact h1 u' hm
    ·rw[Fj,one q r1 e1,h2]
   ·cases e
def RelS.dct(rs:RelS K ρ S H)(r:RelD K ρ H (.loc l) v)(h:S[l]? =some (.dct kvs)):∃a ws,v=.ref a/\ρ[l]? =some a/\H a=some (.dK ws)/\RelKv F8 K ρ H kvs ws:=by
 obtain⟨a,rfl,hl⟩:=r.loc_inv;obtain⟨ws,e,q⟩:=rs.ob l a _ hl h;exact⟨a,ws,rfl,hl,e,q⟩
inductive DtuI (K:Af) (ρ:List Addr) (H:Hp) (l:Nat) (v:V) (kvs:List (Rdu.PK×D)):Prop
 |mk (a ws) (_:v=.ref a) (_:ρ[l]? =some a) (_:H a=some (.dT ws)) (_:RelKv pK K ρ H kvs ws):DtuI K ρ H l v kvs
def RelS.dtu(rs:RelS K ρ S H)(r:RelD K ρ H (.loc l) v)(h:S[l]? =some (.dtu kvs)):DtuI K ρ H l v kvs:=by
 obtain⟨a,rfl,hl⟩:=r.loc_inv;obtain⟨ws,e,q⟩:=rs.ob l a _ hl h;exact⟨a,ws,rfl,hl,e,q⟩
def RelS.rgn(rs:RelS K ρ S H)(r:RelD K ρ H (.loc l) v)(h:S[l]? =some (.rg kvs)):∃a xs,v=.ref a/\ρ[l]? =some a/\H a=some (Rg a xs)/\U4 K ρ H kvs xs:=by
 obtain⟨a,rfl,hl⟩:=r.loc_inv;obtain⟨ws,e,q⟩:=rs.ob l a _ hl h;exact⟨a,ws,rfl,hl,e,q⟩
def Jeq(e:dctAt S l=some kvs):S[l]? =some (.dct kvs):=by
 unfold dctAt at e;split at e
 ·cases e;assumption
 ·cases e
def Jbr(e:dtAt S l=some kvs):S[l]? =some (.dtu kvs):=by
 unfold dtAt at e;split at e
 ·cases e;assumption
 ·cases e
noncomputable def npB(K:Af):Bool:=K.all λp=>match p.2.data with
 |.seq its _=>(match its.toList with|[.int _ _,.int _ _]=>false|_=>true)
 |_=>true
def Jee(h:kyD y=some p):y=dK p:=by
 unfold kyD at h;split at h
 ·cases h;rfl
 ·cases h
def Jd8(np:npB K=true)(h:RelD K ρ H (dK p) v):∃b,v=.ref b/\H b=some (.tup ((pK p).map kV)):=by
 obtain⟨a,xs,rfl,sq,t0⟩:=h.tup_inv;obtain⟨v1,r1,rfl,q1,t1⟩:=t0.inv_cons;obtain⟨v2,r2,rfl,q2,t⟩:=t1.inv_cons;cases t.inv_nil;cases q1.int_inv;cases q2.int_inv;refine⟨a,rfl,?_⟩;rcases sq with h|⟨o,its,n,hk,_,hd,_,r⟩
 ·exact h
 ·have hm:(a,o)∈K:=by obtain⟨l1,l2,e,_⟩:=List.lookup_eq_some_iff.mp hk;rw[e];simp
  have:=Ei.mp np _ hm;cases hi:its.toList with
  |nil=>rw[hi]at r;cases r
  |cons u us=>
   rw[hi]at r;cases r with
   |cons r1 r2=>
    cases r2 with
    |cons r2 r3=>
     cases r3;obtain⟨t1,rfl⟩:=r1;obtain⟨t2,rfl⟩:=r2;simp[hd,hi]at this
def Jio(np:npB K=true)(rs:RelS K ρ S H)(r1:RelD K ρ H (.loc l) x)(r2:RelD K ρ H y vy)(e:Wg S l y=some o):
  ∃a o',x=.ref a/\IsD H a/\Wx H a vy o'/\((o=none/\o'=none)\/∃d v,o=some d/\o'=some v/\RelD K ρ H d v):=by
 unfold Wg at e;split at e
 ·rename_i kvs hk;split at e<;>try (cases e;done)
  rename_i i;cases e;obtain⟨a,ws,rfl,_,ea,q⟩:=rs.dct r1 hk;cases r2.int_inv;refine⟨a,Vr ws (F8 i),rfl,.inl ⟨ws,.inl ea⟩,.inl ⟨ws,F8 i,.inl ea,rfl,rfl⟩,?_⟩;exact q.val Jmd i
 ·rename_i kvs hk;obtain⟨p,hp,rfl⟩:=Ak.mp e;cases Jee hp;obtain⟨a,ws,rfl,_,ea,q⟩:=rs.dtu r1 hk;obtain⟨b,rfl,eb⟩:=Jd8 np r2;exact⟨a,Vr ws (pK p),rfl,.inr ⟨ws,.inl ea⟩,Wx.t ea eb,q.val Je9 p⟩
 ·rename_i kvs hk;obtain⟨p,hp,rfl⟩:=Ak.mp e;cases Jee hp;obtain⟨a,rfl,hl⟩:=r1.loc_inv;obtain⟨ws,o,ea,q⟩:=rs.ob l a _ hl hk;obtain⟨b,rfl,eb⟩:=Jd8 np r2;exact⟨a,Vr ws (pK p),rfl,.inr ⟨ws,.inr ⟨o,ea⟩⟩,.inr ⟨ws,_,b,.inr ⟨o,ea⟩,rfl,eb,rfl⟩,q.val Je9 p⟩
 ·cases e
theorem Jqw(np:npB K=true)(rs:RelS K ρ S H)(r1:RelD K ρ H dx x)(r2:RelD K ρ H dy y)(e:dIn dx dy S=some b):∃a,y=.ref a/\∃o,Wx H a x o/\b=o.isSome:=by
 unfold dIn at e;split at e<;>try (cases e;done)
 obtain⟨o,ho,rfl⟩:=Ak.mp e;obtain⟨a,o',rfl,_,g,h⟩:=Jio np rs r2 r1 ho;refine⟨a,rfl,o',g,?_⟩;rcases h with⟨rfl,rfl⟩|⟨d,v,rfl,rfl,_⟩<;>rfl
theorem Jl1{κ κ':Type}{f:κ->κ'}:∀{kvs:List (κ×D)} {ws:List (κ'×V)},RelKv f K ρ H kvs ws->∀w∈ws,∃p∈kvs,w.1=f p.1/\RelD K ρ H p.2 w.2
 |[],ws,h,w,hw=>by cases(show ws=[]from h);cases hw
 |p::r,ws,h,w,hw=>by
  obtain⟨v,us,rfl,q,t⟩:=h;rcases An.mp hw with rfl|hw
  ·exact⟨p,Bn,rfl,q⟩
  ·obtain⟨p',h1,h2⟩:=Jl1 t w hw;exact⟨p',Ay _ h1,h2⟩
theorem Jfg(o:Cop)(hu:X.A.units+64<C0)(np:npB X.K=true):OpR X (Dz (Wu o)) (rC X.K o):=by
 intro pins s U H x y v u Q I rx ry hq_;obtain⟨ρ,S,dx,dy,k,rs,r1,r2,e,q⟩:=hq_;have hu2:X.A.units+Deep<C0:=by show X.A.units+12<C0;lia
 have hu3:X.A.in1.units+Deep<C0:=by rw[in1_units];show X.A.units+1+12<C0;lia
 cases o with
 |eq=>exact(Jhb I rs Deep hu2 r1 r2 rx ry e).rc X.prog X.w X.xe _ ⟨.bl k,H,I,rfl,q⟩
 |ne=>
  simp only[cop]at e;split at e
  ·rename_i k' hk;cases e;unfold X4 at hk;split at hk<;>try (cases hk;done)
   split at hk<;>try (cases hk;done)
   rename_i ka kb h1 h2;split at hk<;>try (cases hk;done)
   rename_i hall;cases hk;obtain⟨a,wa,rfl,_,ea,qa⟩:=rs.dtu r1 (Jbr h1);obtain⟨b,wb,rfl,_,eb,qb⟩:=rs.dtu r2 (Jbr h2);cases rx;cases ry;refine Jzi (by lia) I (.inl ea) (.inl eb) (by rw[<-qa.length,<-qb.length];exact hall.1) (λw hw=>?_) ⟨.bl false,H,I,rfl,q⟩;obtain⟨p,hp,e1,q1⟩:=Jl1 qa w hw;have:=Ei.mp hall.2 p hp;rw[e1];rcases qb.val Je9 p.1 with⟨z,_⟩|⟨d,v,z1,z2,z3⟩
   ·rw[z]at this;cases this
   ·rw[z1]at this;exact⟨v,z2,λu u' ru ru'=>(Jhb I rs Deep hu3 q1 z3 ru ru' (eq_of_beq this)).eq⟩
  ·simp only[Ak]at e;obtain⟨b,e,rfl⟩:=e;exact(Jhb I rs Deep hu2 r1 r2 rx ry e).ne X.prog X.w X.xe _ ⟨.bl (!b),H,I,rfl,q⟩
 |lt=>
  cases dx<;>cases dy<;>simp only[cop]at e<;>try (cases e;done)
  cases e;cases r1.int_inv;cases r2.int_inv;exact Jyu pins s U H _ _ v u Q I rx ry ⟨_,_,rfl,rfl,q⟩
 |le=>
  cases dx<;>cases dy<;>simp only[cop]at e<;>try (cases e;done)
  cases e;cases r1.int_inv;cases r2.int_inv;exact Jyv pins s U H _ _ v u Q I rx ry ⟨_,_,rfl,rfl,q⟩
 |gt=>
  cases dx<;>cases dy<;>simp only[cop]at e<;>try (cases e;done)
  cases e;cases r1.int_inv;cases r2.int_inv;exact Jyw pins s U H _ _ v u Q I rx ry ⟨_,_,rfl,rfl,q⟩
 |ge=>
  cases dx<;>cases dy<;>simp only[cop]at e<;>try (cases e;done)
  cases e;cases r1.int_inv;cases r2.int_inv;exact Jyx pins s U H _ _ v u Q I rx ry ⟨_,_,rfl,rfl,q⟩
 |isc=>
  cases dy<;>simp only[cop]at e<;>try (cases e;done)
  cases r2.non_inv;refine Jv0 pins s U H _ _ v u Q I rx ry ⟨rfl,?_⟩;cases dx<;>cases e<;>simp only[RelD]at r1<;>first|(subst r1;exact q)|(obtain⟨_,_,rfl,_⟩:=r1;exact q)|(obtain⟨_,rfl,_⟩:=r1;exact q)
 |isnc=>
  cases dy<;>simp only[cop]at e<;>try (cases e;done)
  cases r2.non_inv;refine Jst pins s U H _ _ v u Q I rx ry ⟨rfl,?_⟩;cases dx<;>cases e<;>simp only[RelD]at r1<;>first|(subst r1;exact q)|(obtain⟨_,_,rfl,_⟩:=r1;exact q)|(obtain⟨_,rfl,_⟩:=r1;exact q)
 |inn=>
  simp only[cop]at e;split at e
  ·rename_i ds hs;obtain⟨a,xs,rfl,sq,t⟩:=rs.seq r2 hs;cases ry;rcases sq with sq|sq
   ·obtain⟨us,vv,pl,_⟩:=I.list sq;obtain⟨ev,h1,h2⟩:=Jd3 I rs hu3 r1 rx t vv e;exact SeqAt.in_listAt ev pl.isList (λy hy=>h1 y (by simpa using hy)) ⟨.bl k,H,I,by rw[Jq,h2];rfl,q⟩
   ·obtain⟨us,vv,pl,_⟩:=I.tuple sq;obtain⟨ev,h1,h2⟩:=Jd3 I rs hu3 r1 rx t vv e;exact SeqAt.in_tupleAt ev (show s.heap.IsTuple a us.toArray from pl) (λy hy=>h1 y (by simpa using hy)) ⟨.bl k,H,I,by rw[Jq,h2];rfl,q⟩
  ·obtain⟨a,rfl,o,g,eo⟩:=Jqw np rs r1 r2 e;cases ry;exact Wfy (by show X.A.units+1<C0;lia) I g rx λs' I'=>⟨.bl k,H,I',by rw[eo];rfl,q⟩
 |nin=>
  simp only[cop]at e;split at e
  ·rename_i ds hs;simp only[Ak]at e;obtain⟨b,e,rfl⟩:=e;obtain⟨a,xs,rfl,sq,t⟩:=rs.seq r2 hs;cases ry;rcases sq with sq|sq
   ·obtain⟨us,vv,pl,_⟩:=I.list sq;obtain⟨ev,h1,h2⟩:=Jd3 I rs hu3 r1 rx t vv e;exact SeqAt.notIn_listAt ev pl.isList (λy hy=>h1 y (by simpa using hy)) ⟨.bl (!b),H,I,by rw[Jq,h2];rfl,q⟩
   ·obtain⟨us,vv,pl,_⟩:=I.tuple sq;obtain⟨ev,h1,h2⟩:=Jd3 I rs hu3 r1 rx t vv e;exact SeqAt.notIn_tupleAt ev (show s.heap.IsTuple a us.toArray from pl) (λy hy=>h1 y (by simpa using hy)) ⟨.bl (!b),H,I,by rw[Jq,h2];rfl,q⟩
  ·simp only[Ak]at e;obtain⟨b,e,rfl⟩:=e;obtain⟨a,rfl,o,g,eo⟩:=Jqw np rs r1 r2 e;cases ry;exact Jtl (by show X.A.units+1<C0;lia) I g rx λs' I'=>⟨.bl (!b),H,I',by rw[eo];rfl,q⟩
theorem Jce{ds:List D}{xs:List V}(t:RelDs K ρ H ds xs):(!ds.isEmpty)= !xs.isEmpty:=by
 cases ds with
 |nil=>rw[t.inv_nil];rfl
 |cons d ds=>obtain⟨_,_,rfl,_⟩:=t.inv_cons;rfl
theorem Jku(r:RelS K ρ S H)(h:RelD K ρ H d x)(e:tru S d=some k):Yy K x H k:=by
 cases d with
 |non=>cases h.non_inv;cases e;rfl
 |bl b=>cases h.bl_inv;cases e;rfl
 |int i=>cases h.int_inv;cases e;rfl
 |str z=>cases e
 |tup ds=>
  obtain⟨a,xs,rfl,q,t⟩:=h.tup_inv;cases e;exact .inr (.inl ⟨xs,q,Jce t⟩)
 |loc l=>
  simp only[tru]at e;split at e
  ·rename_i ds hs;cases e;obtain⟨a,xs,rfl,_,q,t⟩:=r.lst h (Jan hs);exact .inl ⟨xs,SqL.of q,Jce t⟩
  ·cases e
 |kl ds=>
  obtain⟨a,xs,rfl,q,t⟩:=h.kl_inv;cases e;exact .inl ⟨xs,q.sq,Jce t⟩
 |kd kvs=>cases e
inductive rX (K:Af) (x:V) (y:V) (H:Hp) (Q:VK):Prop
 |mk (ρ S dx dy d) (_:RelS K ρ S H) (_:RelD K ρ H dx x) (_:RelD K ρ H dy y) (_:idxD dx dy S=some d) (_:Fin K ρ H d S Q):rX K x y H Q
def Juz(r:RelD K ρ H d v)(e:scK d=some k):v=kV k:=by
 cases d<;>cases e
 ·exact r.int_inv
 ·exact r.str_inv
theorem Jgh{β γ:Type}{f:D->Option β}{g:γ->V}{R:β->γ->Prop}(h:∀{d b v},RelD K ρ H d v->f d=some b->∃c,v=g c/\R b c):∀{ds:List D} {bs:List β} {vs:List V},RelDs K ρ H ds vs->W4 f ds=some bs->∃cs:List γ,vs=cs.map g/\Paired R bs cs
 |[],bs,vs,r,e=>by cases e;cases r.inv_nil;exact⟨[],rfl,.nil⟩
 |d::ds,bs,vs,r,e=>by
  obtain⟨v,us,rfl,q,t⟩:=r.inv_cons;unfold W4 at e;split at e<;>try (cases e;done)
  rename_i b bs' e1 e2;cases e;obtain⟨c,rfl,h1⟩:=h q e1;obtain⟨cs,rfl,h2⟩:=Jgh h t e2;exact⟨c::cs,rfl,.cons h1 h2⟩
theorem Jls{α:Type}{xs ys:List α}(h:Paired (λa b=>a=b) xs ys):xs=ys:=by
 induction h with
 |nil=>rfl
 |cons h _ ih=>rw[h,ih]
def Jqj(h:RelD K ρ H d v)(e:lkK d=some r):∃a,v=.ref a/\V4 K H r a:=by
 cases d<;>try (cases e;done)
 obtain⟨a,xs,rfl,sq,t⟩:=h.tup_inv;obtain⟨bs,rfl,hb⟩:=Jgh (g:=V.ref) (R:=λk b=>SqT K H b (k.map kV)) (λ{d b v} r e=>by
  cases d<;>try (cases e;done)
  obtain⟨a,xs,rfl,sq,t⟩:=r.tup_inv;obtain⟨cs,rfl,hc⟩:=Jgh (g:=kV) (R:=λa b=>a=b) (λr e=>⟨_,Juz r e,rfl⟩) t e;cases Jls hc;exact⟨a,rfl,sq⟩) t e
 exact⟨a,rfl,bs,sq,hb⟩
def Jwz(hu:X.A.units+2<C0)(np:npB X.K=true):IxR X (rX X.K):=by
 intro value slice pins s U H x y v u Q I rx ry ⟨ρ,S,dx,dy,d,rs,r1,r2,e,fin⟩ hs;unfold idxD at e;split at e
 ·rename_i ds hds;split at e<;>try (cases e;done)
  cases r2.int_inv;obtain⟨a,xs,rfl,sq,t⟩:=rs.seq r1 hds;obtain⟨w,ew,rw'⟩:=Jt1 t e;rcases sq with sq|sq
  ·exact Js8 value slice pins s U H _ _ v u Q I rx ry ⟨a,xs,_,w,rfl,rfl,sq,ew,fin.now rs rw'⟩ hs
  ·exact Jwq value slice pins s U H _ _ v u Q I rx ry ⟨a,xs,_,w,rfl,rfl,sq,ew,fin.now rs rw'⟩ hs
 ·split at e<;>try (cases e;done)
  split at e
  ·rename_i kvs hk;obtain⟨r,hr,e⟩:=Nt.mp e;obtain⟨a,xs,rfl,_,ea,q⟩:=rs.rgn r1 hk;obtain⟨b,rfl,lk⟩:=Jqj r2 hr;cases rx;cases ry;obtain⟨p,w,hp,rw',rd⟩:=q.val r e;exact K6 (ops:=[.ref a,.ref b]) (Jyd I ea) Mm.lookup (Jxj (by show X.A.units+2<C0;omega) I ea q.mem lk hp λs' I'=>⟨w,H,I',rw',fin.now rs rd⟩) hs
  ·obtain⟨o,ho,rfl⟩:=Option.join_eq_some_iff.mp e|>λz=>(⟨_,z,rfl⟩:∃o,Wg _ _ _=some o/\o=some d)
   obtain⟨a,o',rfl,_,g,h⟩:=Jio np rs r1 r2 ho;rcases h with⟨z,_⟩|⟨d',w,z,rfl,rd⟩
   ·cases z
   ·cases z;cases rx;exact K6 (ops:=[.ref a,u]) (Jim I g) Mm.lookup (Jmt (by show X.A.units+1<C0;omega) I g ry λw' s' I' rw2=>⟨w,H,I',rw2,fin.now rs rd⟩) hs
def rSl(K:Af):V->Option Int->Option Int->Hp->VK->Prop:=λx lo hi H Q=>∃ρ S dx d S',RelS K ρ S H/\RelD K ρ H dx x/\V3 dx lo hi S=.ok d S'/\Fin K ρ H d S' Q
def Jip(t:RelDs K ρ H ds xs)(lo hi:Option Int):RelDs K ρ H (cutD ds lo hi) (Xa xs lo hi):=by
 unfold cutD Xa;rw[t.length];exact(t.drop _).take _
def Juw:SlR X (rSl X.K):=by
 intro pins s U H x v vl vu lo hi sl Q I rx hs pl pu hq_;obtain⟨ρ,S,dx,d,S',rs,r1,e,fin⟩:=hq_;cases dx<;>simp only[V3]at e<;>try (cases e;done)
 ·cases e;obtain⟨a,xs,rfl,q,t⟩:=r1.tup_inv
  by_cases hw:HT.sIx xs.length 0 lo=0/\HT.sIx xs.length xs.length hi=xs.length
  ·rename_i ds;refine Jrt pins s U H _ v vl vu lo hi sl Q I rx hs pl pu ⟨a,xs,rfl,q,hw,?_⟩;have ec:cutD ds lo hi=ds:=by
    unfold cutD;rw[t.length,hw.1,hw.2,H9,Sz,<-t.length,Ha]
   rw[ec]at fin;exact fin _ _ _ Fut.refl rs r1
  ·exact Jux pins s U H _ v vl vu lo hi sl Q I rx hs pl pu ⟨a,xs,rfl,q,hw,fin.newT rs (Jip t lo hi)⟩
 ·split at e
  ·rename_i ds hds;cases e;obtain⟨a,xs,rfl,_,q,t⟩:=rs.lst r1 (Jan hds);exact Jle pins s U H _ v vl vu lo hi sl Q I rx hs pl pu ⟨a,xs,rfl,SqL.of q,fin.newL rs (Jip t lo hi)⟩
  ·cases e
 ·cases e;obtain⟨a,xs,rfl,q,t⟩:=r1.kl_inv;exact Jle pins s U H _ v vl vu lo hi sl Q I rx hs pl pu ⟨a,xs,rfl,q.sq,fin.newL rs (Jip t lo hi)⟩
def rSt(K:Af):Yz:=λo i v H Q=>∃ρ S dO di dv S',RelS K ρ S H/\RelD K ρ H dO o/\RelD K ρ H di i/\RelD K ρ H dv v/\Vu dO di dv S=.ok () S'/\∀H',Fut K ρ H ρ H'->RelS K ρ S' H'->Q H'
def Juy(hu:X.A.units+2<C0)(np:npB X.K=true):Zw X (rSt X.K):=by
 intro pins s U H o i v ov iv u Q I ro ri rv hq_;obtain⟨ρ,S,dO,di,dv,S',rs,r1,r2,r3,e,fin⟩:=hq_;unfold Vu at e;split at e<;>try (cases e;done)
 rename_i l;split at e<;>try (cases e;done)
 ·rename_i xs hx;split at e<;>try (cases e;done)
  split at e<;>try (cases e;done)
  rename_i j hj;cases e;obtain⟨a,ys,rfl,hl,q,t⟩:=rs.lst r1 hx;cases r2.int_inv;refine set_list pins s U H _ _ v ov iv u Q I ro ri rv ⟨a,ys,_,j,rfl,rfl,q,by rw[<-t.length];exact hj,fin _ (Jc8 q) (rs.set hl q (RelDs.set r3 j t))⟩
 ·rename_i kvs hk;split at e<;>try (cases e;done)
  rename_i ki;split at e<;>try (cases e;done)
  rename_i hl;cases e;obtain⟨a,ws,rfl,hp,ea,q⟩:=rs.dct r1 hk;cases r2.int_inv;cases ro;have f:Fut X.K ρ H ρ (upd H a (.dK (putK ws (F8 ki) v))):=Jc9 (o0:=.dK ws) ea (λ_ z=>by cases z) (λ_ _ z=>by cases z);exact Jhd (by show X.A.units+1<C0;lia) I (Xi.k (k:=F8 ki) ea (by rw[<-q.length,<-Jbb];exact hl)) ri rv λs' I'=>⟨_,I',fin _ f (rs.setO (o0:=.dK ws) hp f ⟨_,Jaf,(q.put Jmd _ r3).fut f⟩)⟩
 ·rename_i kvs hk;split at e<;>try (cases e;done)
  rename_i ki hki;split at e<;>try (cases e;done)
  rename_i hl;cases e;cases Jee hki;obtain⟨a,ws,rfl,hp,ea,q⟩:=rs.dtu r1 hk;obtain⟨b,rfl,eb⟩:=Jd8 np r2;cases ro;have f:Fut X.K ρ H ρ (upd H a (.dT (putK ws (pK ki) v))):=Jc9 (o0:=.dT ws) ea (λ_ z=>by cases z) (λ_ _ z=>by cases z);exact Jhd (by show X.A.units+1<C0;lia) I (Xi.t ea eb (by rw[<-q.length,<-Jbb];exact hl)) ri rv λs' I'=>⟨_,I',fin _ f (rs.setO (o0:=.dT ws) hp f ⟨_,Jaf,(q.put Je9 _ r3).fut f⟩)⟩
 ·rename_i kvs hk;split at e<;>try (cases e;done)
  rename_i ki hki;split at e<;>try (cases e;done)
  rename_i hl;cases e;obtain⟨a,xs,rfl,hp,ea,q⟩:=rs.rgn r1 hk;obtain⟨b,rfl,lk⟩:=Jqj r2 hki;cases ro;cases ri;have f:Fut X.K ρ H ρ (upd H a (Rg a (Oq xs ki b u))):=Jc9 ea (λ_ z=>by cases z) (λ_ _ z=>by cases z);exact Jxg (by show X.A.units+2<C0;lia) I ea q.mem lk (by rw[<-q.length,<-Jbb];exact hl) λs' I'=>⟨_,I',fin _ f (rs.setO (o0:=Rg a xs) hp f ⟨_,Jaf,(q.put lk rv r3).fut f⟩)⟩
end
end Mi
namespace Mi
open PySem L2
section
open PySem.Spec PyProof.Rows PyProof
def Jgq{M:R0}{A:Bl}{E:Value->Shared->Prop}{s:Shared}{β:Type}{b:Nat}(f:Nat->β->Sem (ForInStep β))(I:Nat->β->Shared->Prop)(Q:β->Shared->Prop)
  (turn:∀i c s,i<b->I i c s->wpAny M A (f i c) (λr s'=>match r with|.yield c'=>I (i+1) c' s'|.done c'=>Q c' s') E s)(fin:∀c s,I b c s->Q c s)(c:β)(h:I 0 c s):wpAny M A (forIn ([:b]:Ku) c f) Q E s:=by
 rw[E4];have hsz:([:b]:Ku).size=b:=by simp[Hq]
 show wpAny M A (forIn (List.range' 0 ([:b]:Ku).size 1) c f) Q E s;rw[hsz];refine Dk f (λl c s=>∃i,i<=b/\l=List.range' i (b-i) 1/\I i c s) Q ?_ ?_ _ c ⟨0,Cr _,rfl,h⟩
 ·rintro x rest c s ⟨i,hib,hl,hI⟩;have hlt:i<b:=by
   rcases Ia i b with h'|h'
   ·exact h'
   ·rw[show b-i=0 by lia]at hl;simp at hl
  obtain⟨n,hn⟩:∃n,b-i=n+1:=⟨b-i-1,by lia⟩
  rw[hn,Rj]at hl;obtain⟨rfl,rfl⟩:=List.cons.inj hl;refine B4 (turn x c s hlt hI) (λr st' h'=>?_) λ_ _ e=>e;cases r with
  |done c'=>exact h'
  |yield c'=>exact⟨x+1,by lia,by congr 1;lia,h'⟩
 ·rintro c s ⟨i,hib,hl,hI⟩;have:i=b:=by
   rcases Ia i b with h'|h'
   ·obtain⟨n,hn⟩:∃n,b-i=n+1:=⟨b-i-1,by lia⟩
    rw[hn,Rj]at hl;simp at hl
   ·lia
  subst this;exact fin _ _ hI
def Jgs(l:Addr)(items:Array Value)(n:Nat)(dd:Option Addr)(sl:Array (Option Value))(x:Value)(e:Value->Bool)(j:Nat)(hj:j<items.size)(hit:e items[j]=true)(hno:∀m (hm:m<items.size),m<j->e items[m]=false):
  Meets (Builtin.«tuple.index» ⟨[.ref l,x],[]⟩)
   (λA R s=>s.heap.get? l=some {cls:=.type "tuple",dict:=dd,data:=.seq items n,slots:=sl}/\(∀y,y∈items->E9 A.in1 s y x (e y))/\R (.ok (.ret (.int j s.toks))) {s with toks:=s.toks+1}):=
 .of_wp λprog w A R s h=>by
  obtain⟨hp,g,d,tk,os⟩:=s;obtain⟨hl,he,h⟩:=h
  wp_walk using Kw hl,Jgq _ (λi b s'=>b.1=none/\s'=⟨hp,g,d,tk,os⟩/\i<=j) _
  case turn=>
   rintro i b s' hi ⟨hb,rfl,hij⟩;have hi':i<items.size:=by simpa using hi
   rw[Bo hi'];refine Aa (he _ (Qp hi') prog w _ _ ?_)
   by_cases hlt:i<j
   ·rw[hno i hi' hlt]
    wp_walk
    exact⟨rfl,rfl,hlt⟩
   ·have:i=j:=by lia
    subst this;rw[hit]
    wp_walk
    exact⟨_,rfl,h⟩
  case fin=>
   rintro⟨b1,b2⟩ s' ⟨hb,rfl,hij⟩;simp only[Nat.min_self]at hij
   lia
  case h=>
   exact⟨rfl,rfl,Cr _⟩
def Jfn{A:Bl}{E:Value->Shared->Prop}{s:Shared}{items:Array Value}{e:Value->Bool}{Q:Value->Shared->Prop}(ht:s.heap.IsTuple a items)(hj:j<items.size)
  (hit:e items[j]=true)(hno:∀m (hm:m<items.size),m<j->e items[m]=false)(he:∀y∈items,E9 A.in1 s y x (e y))(h:Q (.int j s.toks) {s with toks:=s.toks+1}):wpAny (model prog w) A (call (.builtin "tuple.index") [.ref a,x]) Q E s:=by
 obtain⟨⟨cls,dd,data,sl⟩,ho,hc,n,hd⟩:=id ht;simp only at hc hd;subst hc hd;exact O7 M1 ⟨_,ho,rfl⟩ PySem.F.entry_tuple_index (PySem.F.args_tuple_index_2 _ _) (Jgs a items n dd sl x e j hj hit hno) ⟨ho,he,h⟩
end
section
variable {X:Cx} {ρ:List Addr} {H:Hp} {S:Store}
noncomputable def tyNames:List String:=["NoneType","bool","int","str","tuple","list"]
noncomputable def clNames:List String:=["bool","int","tuple","list"]
def Jfa(K:Af):∀t∈tyNames,∀c∈clNames,PySem.W.kitOne K (.type t) (.type c)=some (isiD t c):=by
 intro t ht c hc;simp only[tyNames,clNames,An,Bc,or_false]at ht hc;rcases ht with rfl|rfl|rfl|rfl|rfl|rfl<;>rcases hc with rfl|rfl|rfl|rfl<;>kernel_rfl
def rIs(K:Af)(c:String):List V->Hp->VK->Prop:=λxs H Q=>∃ρ S d x t,RelS K ρ S H/\xs=[x,.ty c]/\RelD K ρ H d x/\tyD S d=some t/\Q (.bl (isiD t c)) H
theorem Jws(hc:c∈clNames):Vc X (.builtin "isinstance") (rIs X.K c):=by
 intro pins s U H xs us Q I r hq_;obtain⟨ρ,S,d,x,t,rs,e,rd,ht,q⟩:=hq_;subst e;obtain⟨u,w,rfl,ru,rw'⟩:=vals2 r;cases(show w=D1 c from rw');have fin:∀tk,EP X pins U Q (.bool (isiD t c)) {s with toks:=tk}:=λtk=>⟨.bl _,H,I.tok _,rfl,q⟩
 cases d with
 |non=>cases ht;cases rd.non_inv;cases ru;exact Gb PySem.W.kitx_none I.kIn E1 (Jfa X.K _ (by decide) c hc) (λz=>nomatch z) fin
 |bl b=>cases ht;cases rd.bl_inv;cases ru;exact Gb PySem.W.kitx_bool I.kIn E1 (Jfa X.K _ (by decide) c hc) (λz=>nomatch z) fin
 |int b=>cases ht;cases rd.int_inv;obtain⟨tk,rfl⟩:=ru;exact Gb PySem.W.kitx_int I.kIn E1 (Jfa X.K _ (by decide) c hc) (λz=>nomatch z) fin
 |str b=>cases ht;cases rd.str_inv;obtain⟨tk,rfl⟩:=ru;exact Gb PySem.W.kitx_str I.kIn E1 (Jfa X.K _ (by decide) c hc) (λz=>nomatch z) fin
 |tup ds=>
  cases ht;obtain⟨a,ys,rfl,sq,_⟩:=rd.tup_inv;cases ru;obtain⟨_,_,⟨o,h1,h2,_⟩,_⟩:=I.tuple sq;exact Gb PySem.W.kitx_tuple I.kIn ⟨o,h1,h2⟩ (Jfa X.K _ (by decide) c hc) (λz=>nomatch z) fin
 |loc l=>
  simp only[tyD]at ht;split at ht
  ·rename_i ds hs;cases ht;obtain⟨a,ys,rfl,_,sq,_⟩:=rs.lst rd hs;cases ru;obtain⟨_,_,⟨o,n,h1,h2,_⟩,_⟩:=I.list (SqL.of (K:=X.K) sq);exact Gb PySem.W.kitx_list I.kIn ⟨o,h1,h2⟩ (Jfa X.K _ (by decide) c hc) (λz=>nomatch z) fin
  ·cases ht
 |kl ds=>cases ht
 |kd ds=>cases ht
noncomputable def Vv:Prim->String
 |.len=>"len"|.abs=>"abs"|.min2=>"min"|.max2=>"max"|.int1=>"int"|.list1=>"list"|.tuple1=>"tuple"|.all1=>"all"|.sum1=>"sum"|.sort1=>"sorted"|.dict1=>"dict"
noncomputable def X2:Prim->Bool
 |.int1=>true|.list1=>true|.tuple1=>true|.dict1=>true
 |_=>false
noncomputable def W0(p:Prim):Value:=if X2 p then .type (Vv p)else .builtin (Vv p)
def Jm4(p:Prim):Df (Ab (Vv p))=some (W0 p):=by cases p<;>kernel_rfl
def Jg5(p:Prim):Ab (Vv p)≠"__name__":=by cases p<;>decide+kernel
def Jff(p:Prim):(Ab (Vv p)==("__debug__":Str))=false:=by cases p<;>decide+kernel
def rP(K:Af)(p:Prim):List V->Hp->VK->Prop:=λxs H Q=>∃ρ S ds d S',RelS K ρ S H/\RelDs K ρ H ds xs/\U0 p ds S=.ok d S'/\Fin K ρ H d S' Q
def RelDs.one(h:RelDs K ρ H [d] xs):∃v,xs=[v]/\RelD K ρ H d v:=by
 obtain⟨v,vs,rfl,q,t⟩:=h.inv_cons;cases t.inv_nil;exact⟨v,rfl,q⟩
def RelDs.two(h:RelDs K ρ H [d,e] xs):∃v w,xs=[v,w]/\RelD K ρ H d v/\RelD K ρ H e w:=by
 obtain⟨v,vs,rfl,q,t⟩:=h.inv_cons;obtain⟨w,rfl,q'⟩:=t.one;exact⟨v,w,rfl,q,q'⟩
theorem allB_list:∀{ds:List D} {b:Bool},allB ds=some b->∃bs:List Bool,ds=bs.map D.bl/\b=bs.all id
 |[],b,h=>⟨[],rfl,by simp only[allB]at h;cases h;rfl⟩
 |.bl c::r,b,h=>by
  simp only[allB,Ak]at h;obtain⟨k,h,rfl⟩:=h;obtain⟨bs,rfl,rfl⟩:=allB_list h;exact⟨c::bs,rfl,by simp⟩
 |.non::_,b,h=>by simp[allB]at h
 |.int _::_,b,h=>by simp[allB]at h
 |.str _::_,b,h=>by simp[allB]at h
 |.tup _::_,b,h=>by simp[allB]at h
 |.loc _::_,b,h=>by simp[allB]at h
 |.kl _::_,b,h=>by simp[allB]at h
 |.kd _::_,b,h=>by simp[allB]at h
theorem Jgx:∀{ds:List D} {b:Int},sumI ds=some b->∃bs:List Int,ds=bs.map D.int/\b=bs.sum
 |[],b,h=>⟨[],rfl,by simp only[sumI]at h;cases h;rfl⟩
 |.int c::r,b,h=>by
  simp only[sumI,Ak]at h;obtain⟨k,h,rfl⟩:=h;obtain⟨bs,rfl,rfl⟩:=Jgx h;exact⟨c::bs,rfl,by simp⟩
 |.non::_,b,h=>by simp[sumI]at h
 |.bl _::_,b,h=>by simp[sumI]at h
 |.str _::_,b,h=>by simp[sumI]at h
 |.tup _::_,b,h=>by simp[sumI]at h
 |.loc _::_,b,h=>by simp[sumI]at h
 |.kl _::_,b,h=>by simp[sumI]at h
 |.kd _::_,b,h=>by simp[sumI]at h
def Jta{K:Af}{bs:List Int}{xs:List V}{us:List Value}(t:RelDs K ρ H (bs.map D.int) xs)(v:Vals xs us){i:Nat}{u:Value}(h:us[i]? =some u):∃tk,u=.int (bs.getD i 0) tk:=by
 have hl:i<bs.length:=by
  have:=(Ae.mp h).1;have e1:=t.length;have e2:=v.length;rw[Ah]at e1
  lia
 obtain⟨w,ew,rw'⟩:=t.get (show(bs.map D.int)[i]? =some (.int bs[i]) by rw[Ao,Ag hl];rfl);obtain⟨u',eu,ru⟩:=v.get ew;rw[h]at eu;cases eu;cases rw'.int_inv;obtain⟨tk,rfl⟩:=ru;exact⟨tk,by rw[Ej,Ag hl];rfl⟩
theorem Jph{K:Af}{bs:List Bool}{xs:List V}{us:List Value}(t:RelDs K ρ H (bs.map D.bl) xs)(v:Vals xs us){i:Nat}{u:Value}(h:us[i]? =some u):u=.bool (bs.getD i true):=by
 have hl:i<bs.length:=by
  have:=(Ae.mp h).1;have e1:=t.length;have e2:=v.length;rw[Ah]at e1
  lia
 obtain⟨w,ew,rw'⟩:=t.get (show(bs.map D.bl)[i]? =some (.bl bs[i]) by rw[Ao,Ag hl];rfl);obtain⟨u',eu,ru⟩:=v.get ew;rw[h]at eu;cases eu;cases rw'.bl_inv;cases ru;rw[Ej,Ag hl];rfl
theorem range_all(bs:List Bool):(B7 bs.length).all (λi=>bs.getD i true)=bs.all id:=by
 induction bs with
 |nil=>rfl
 |cons b r ih=>
  rw[A7,Ox,K7,K7,Uv,<-ih];congr 1
def Jhn(hc:X.calm=true):Vc X (.builtin "all") (λxs H Q=>∃ρ S l ds b,RelS X.K ρ S H/\∃x,xs=[x]/\RelD X.K ρ H (.loc l) x/\seqAt S l=some ds/\allB ds=some b/\Q (.bl b) H):=by
 intro pins s U H xs us Q I r hq_;obtain⟨ρ,S,l,ds,b,rs,x,e,rd,hs,hb,q⟩:=hq_;subst e;obtain⟨u,rfl,ru⟩:=vals1 r;obtain⟨bs,rfl,rfl⟩:=allB_list hb;obtain⟨a,ys,rfl,_,sq,t⟩:=rs.lst rd (Jan hs);cases ru;have hh:X.A.in1.handled=none:=I.ok.hd hc;obtain⟨its,vv,pl,_⟩:=I.list (SqL.of (K:=X.K) sq);have hne:a≠s.heap.objs.size:=As pl.lt;have hsz:its.toArray.size=bs.length:=by rw[Ap,<-vv.length,<-t.length,Ah]
 refine call_all_walk (F4 pl.isList ?_);refine⟨_,_,_,_,_,_,λi=>bs.getD i true,rfl,P1 (A:=X.A.in1) hh s.heap.objs.size a hne its.toArray,⟨⟨_,Aj _ rfl,rfl,rfl⟩,(pl.keeps λb o e=>Ad _ e).isList⟩,?_,λh' tk hk=>?_⟩
 ·intro i v s' Q' E' hP hQ;have hP:its.toArray[i]? =some v:=hP;have ev:v=.bool (bs.getD i true):=Jph t vv (by simpa using hP);subst ev;exact Dn hQ
 ·rw[hsz,range_all];refine⟨.bl _,H,I.kept (t':=tk) λb o e=>hk b o ?_ (Ad _ e),rfl,q⟩;simp only[Av];exact As (Am e)
def Jj1(bs:List Int):preSum (λi=>bs.getD i 0) bs.length=bs.sum:=by
 rw[PyProof.Rows.preSum_getD,Ha]
def Jhi(hc:X.calm=true):Vc X (.builtin "sum") (λxs H Q=>∃ρ S l ds b,RelS X.K ρ S H/\∃x,xs=[x]/\RelD X.K ρ H (.loc l) x/\seqAt S l=some ds/\sumI ds=some b/\Q (.int b) H):=by
 intro pins s U H xs us Q I r hq_;obtain⟨ρ,S,l,ds,b,rs,x,e,rd,hs,hb,q⟩:=hq_;subst e;obtain⟨u,rfl,ru⟩:=vals1 r;obtain⟨bs,rfl,rfl⟩:=Jgx hb;obtain⟨a,ys,rfl,_,sq,t⟩:=rs.lst rd (Jan hs);cases ru;have hh:X.A.in1.handled=none:=I.ok.hd hc;have done:∀(I0:Addr) (s':Shared) (t':Tok),I0=s.heap.objs.size->∀o:A5,Moved [I0] (λa b=>b=a) {s with heap:=s.heap.push o} s'->EP X pins U Q (.int bs.sum t') s':=λI0 s' t' e0 o hm=>by
  subst e0;obtain⟨h',g',d',tk,os'⟩:=s';have e1:g'=s.gens:=hm.gens;have e2:d'=s.drawn:=hm.drawn;have e3:os'=s.os:=hm.os;subst e1 e2 e3;refine⟨.int bs.sum,H,I.kept (t':=tk) λb o e=>hm.heap b o ?_ (Ad _ e),⟨t',rfl⟩,q⟩;simp only[Av];exact As (Am e)
 obtain⟨its,vv,pl,_⟩:=I.list (SqL.of (K:=X.K) sq);have hne:a≠s.heap.objs.size:=As pl.lt;have hsz:its.toArray.size=bs.length:=by rw[Ap,<-vv.length,<-t.length,Ah]
 refine call_sum_walkAnyS (F4 pl.isList ?_);refine⟨_,_,_,_,_,_,_,λi=>bs.getD i 0,rfl,(P1 (A:=X.A.in1) hh s.heap.objs.size a hne its.toArray).toS,⟨⟨_,Aj _ rfl,rfl,rfl⟩,(pl.keeps λb o e=>Ad _ e).isList⟩,?_,?_,λs' t' hm=>?_⟩
 ·intro b hb;show b<(s.heap.push _).objs.size;rw[Cd];simp only[An,Bc,or_false]at hb;rcases hb with rfl|rfl
  ·exact Dg _
  ·exact Je pl.lt
 ·intro i v hP;have hP:its.toArray[i]? =some v:=hP;exact Jta t vv (by simpa using hP)
 ·rw[hsz,Jj1];exact done _ s' t' rfl _ hm
def Fin.newO(f:Fin K ρ H (.loc S.length) (S++[ob]) Q)(r:RelS K ρ S H)(q:∀p,H p=none->RelO K (ρ++[p]) (upd H p o) p ob):∀p,H p=none->Q (.ref p) (upd H p o):=λp n=>
 f (ρ++[p]) _ _ (Ja7 n [p]) (r.allocO n (q p n)) (by simp only[RelD];exact⟨p,rfl,by rw[<-r.len];simp⟩)
theorem Jum:∀{ps:List Rdu.PK},upB ps=true->Up ps
 |[],_=>λi p q h=>by simp at h
 |a::r,h=>λi p q h1 h2=>by
  simp only[upB,Al]at h;cases i with
  |zero=>
   cases r with
   |nil=>simp at h2
   |cons b r=>simp at h1 h2;subst h1 h2;exact h.1
  |succ i=>exact Jum h.2 i p q (by simpa using h1) (by simpa using h2)
def Jxs{kvs:List (Rdu.PK×D)}(q:RelKv pK K ρ H kvs ws)(h:Xt (kvs.map (·.1))=true):Apart P w ws:=by
 simp only[Xt,Al,Ei,decide_eq_true_eq]at h;have nn:∀p∈kvs.map (·.1),((p.1.toNat:Int),(p.2.toNat:Int))=p:=λp hp=>by
  obtain⟨⟨⟨h1,_⟩,h2⟩,_⟩:=h.1 p hp;exact Su (K8 h1) (K8 h2)
 refine Jpl (ps:=(kvs.map (·.1)).map λp=>(p.1.toNat,p.2.toNat)) ?_ (λx hx=>?_) ?_
 ·rw[q.keys];refine Eq.trans ?_ (B1).symm;exact Ec λp hp=>congrArg pK (nn p hp).symm
 ·obtain⟨p,hp,rfl⟩:=Bd.mp hx;obtain⟨⟨⟨h1,h2⟩,h3⟩,h4⟩:=h.1 p hp;exact⟨by lia,by lia⟩
 ·refine Lv.mpr (Lj (λ{x y} hx hy hne e=>hne ?_) h.2);rw[<-nn x hx,<-nn y hy];injection e with e1 e2;rw[e1,e2]
def Jps{kvs:List (Rdu.PK×D)}(ea:H a=some (.dT ws))(q:RelKv pK K ρ H kvs ws)(h:upB (kvs.map (·.1))=true/\kvs.length<Line):UpD H a ws (kvs.map (·.1)):=⟨.inl ea,q.keys,Jum h.1,by rw[<-q.length,<-Jbb];exact h.2⟩
theorem Jl4:∀{ps:List Rdu.PK} {bs:List Addr},bs.length=ps.length->(∀(i:Nat) (b:Addr) (q:Rdu.PK),bs[i]? =some b->ps[i]? =some q->H b=some (.tup ((pK q).map kV)))->RelDs K ρ H (ps.map dK) (bs.map V.ref)
 |[],[],_,_=>RelDs.nil
 |p::ps,b::bs,hl,h=>by
  refine RelDs.cons ?_ (Jl4 (by simpa using hl) λi b q h1 h2=>h (i+1) b q (by simpa using h1) (by simpa using h2));simp only[RelD];exact⟨b,_,rfl,SqT.of (h 0 b p rfl rfl),RelDs.cons (RelD.int _) (RelDs.cons (RelD.int _) RelDs.nil)⟩
theorem Jsb(p:Prim)(hc:X.calm=true):Vc X (W0 p) (rP X.K p):=by
 intro pins s U H xs us Q I r hq_;obtain⟨ρ,S,ds,d,S',rs,rd,e,fin⟩:=hq_;cases p with
 |len=>
  rcases ds with _|⟨x,_|⟨y,ds⟩⟩<;>try (first|exact absurd e Jaa|(cases x<;>exact absurd e Jaa)|(cases x<;>first|exact absurd e Jaa|(cases y<;>exact absurd e Jaa)))
  all_goals (delta U0 at e;dsimp only at e)
  obtain⟨v,rfl,rv⟩:=rd.one;split at e
  ·rename_i es hs;cases e;obtain⟨a,ys,rfl,sq,t⟩:=rs.seq rv hs;refine Jhl pins s U H _ us Q I r ⟨a,ys,rfl,sq,?_⟩;rw[<-t.length];exact fin.now rs (RelD.int _)
  ·split at e<;>try (cases e;done)
   split at e<;>try (cases e;done)
   rename_i kvs hd;cases e;obtain⟨a,ws,rfl,_,ea,q⟩:=rs.dct rv (Jeq hd);refine Jm1 pins s U H _ us Q I r ⟨a,ws,rfl,ea,?_⟩;rw[<-q.length];exact fin.now rs (RelD.int _)
 |abs=>
  rcases ds with _|⟨x,_|⟨y,ds⟩⟩<;>try (first|exact absurd e Jaa|(cases x<;>exact absurd e Jaa)|(cases x<;>first|exact absurd e Jaa|(cases y<;>exact absurd e Jaa)))
  cases x<;>try (exact absurd e Jaa)
  cases e;obtain⟨v,rfl,rv⟩:=rd.one;cases rv.int_inv;exact Jpg pins s U H _ us Q I r ⟨_,rfl,fin.now rs (RelD.int _)⟩
 |max2=>
  rcases ds with _|⟨x,_|⟨y,_|⟨z,ds⟩⟩⟩<;>try (first|exact absurd e Jaa|(cases x<;>exact absurd e Jaa)|(cases x<;>first|exact absurd e Jaa|(cases y<;>exact absurd e Jaa)))
  cases x<;>cases y<;>try (exact absurd e Jaa)
  cases e;obtain⟨v,w,rfl,rv,rw'⟩:=rd.two;cases rv.int_inv;cases rw'.int_inv;exact Jm0 hc pins s U H _ us Q I r ⟨_,_,rfl,fin.now rs (RelD.int _)⟩
 |min2=>
  rcases ds with _|⟨x,_|⟨y,_|⟨z,ds⟩⟩⟩<;>try (first|exact absurd e Jaa|(cases x<;>exact absurd e Jaa)|(cases x<;>first|exact absurd e Jaa|(cases y<;>exact absurd e Jaa)))
  cases x<;>cases y<;>try (exact absurd e Jaa)
  cases e;obtain⟨v,w,rfl,rv,rw'⟩:=rd.two;cases rv.int_inv;cases rw'.int_inv;exact Jmz hc pins s U H _ us Q I r ⟨_,_,rfl,fin.now rs (RelD.int _)⟩
 |int1=>
  rcases ds with _|⟨x,_|⟨y,ds⟩⟩<;>try (first|exact absurd e Jaa|(cases x<;>exact absurd e Jaa)|(cases x<;>first|exact absurd e Jaa|(cases y<;>exact absurd e Jaa)))
  obtain⟨v,rfl,rv⟩:=rd.one;cases x<;>try (exact absurd e Jaa)
  ·cases e;cases rv.bl_inv;exact Jhm pins s U H _ us Q I r (.inr ⟨_,rfl,fin.now rs (RelD.int _)⟩)
  ·cases e;cases rv.int_inv;exact Jhm pins s U H _ us Q I r (.inl ⟨_,rfl,fin.now rs (RelD.int _)⟩)
 |list1=>
  rcases ds with _|⟨x,_|⟨y,ds⟩⟩<;>try (first|exact absurd e Jaa|(cases x<;>exact absurd e Jaa)|(cases x<;>first|exact absurd e Jaa|(cases y<;>exact absurd e Jaa)))
  all_goals (delta U0 at e;dsimp only at e)
  obtain⟨v,rfl,rv⟩:=rd.one;split at e
  ·rename_i es hs;cases e;obtain⟨a,ys,rfl,sq,t⟩:=rs.seq rv hs;exact Jhk pins s U H _ us Q I r ⟨a,ys,rfl,sq,fin.newL rs t⟩
  ·split at e
   ·rename_i l _;cases hd:dctAt S l with
    |none=>rw[hd]at e;cases e
    |some kvs=>
     rw[hd]at e;cases e;obtain⟨a,ws,rfl,_,ea,q⟩:=rs.dct rv (Jeq hd);refine Jgf hc pins s U H _ us Q I r ⟨a,ws,rfl,ea,fin.newL rs ?_⟩;have e1:ws.map (λkv=>kV kv.1)=kvs.map λp=>V.int p.1:=by
      have:=congrArg (Nd kV) q.keys;rw[B1,B1,B1]at this;exact this
     rw[e1];have all:∀l:List (Int×D),RelDs X.K ρ H (l.map λp=>D.int p.1) (l.map λp=>V.int p.1):=λl=>by
      induction l with
      |nil=>exact RelDs.nil
      |cons p l ih=>exact RelDs.cons (RelD.int _) ih
     exact all kvs
   ·cases e
 |tuple1=>
  rcases ds with _|⟨x,_|⟨y,ds⟩⟩<;>try (first|exact absurd e Jaa|(cases x<;>exact absurd e Jaa)|(cases x<;>first|exact absurd e Jaa|(cases y<;>exact absurd e Jaa)))
  all_goals (delta U0 at e;dsimp only at e)
  obtain⟨v,rfl,rv⟩:=rd.one;split at e
  ·rename_i es hs;cases e;obtain⟨a,ys,rfl,sq,t⟩:=rs.seq rv hs;refine Jge pins s U H _ us Q I r ⟨a,ys,rfl,?_⟩;rcases sq with sq|sq
   ·exact .inl ⟨sq,fin.newT rs t⟩
   ·exact .inr ⟨sq,fin.now rs (by simp only[RelD];exact⟨a,ys,rfl,sq,t⟩)⟩
  ·cases e
 |all1=>
  rcases ds with _|⟨x,_|⟨y,ds⟩⟩<;>try (first|exact absurd e Jaa|(cases x<;>exact absurd e Jaa)|(cases x<;>first|exact absurd e Jaa|(cases y<;>exact absurd e Jaa)))
  cases x<;>try (exact absurd e Jaa)
  (delta U0 at e;dsimp only at e)
  obtain⟨v,rfl,rv⟩:=rd.one;split at e<;>try (cases e;done)
  rename_i es hs;split at e<;>try (cases e;done)
  rename_i b hb;cases e;exact Jhn hc pins s U H _ us Q I r ⟨ρ,S,_,es,b,rs,v,rfl,rv,hs,hb,fin.now rs (RelD.bl _)⟩
 |sum1=>
  rcases ds with _|⟨x,_|⟨y,ds⟩⟩<;>try (first|exact absurd e Jaa|(cases x<;>exact absurd e Jaa)|(cases x<;>first|exact absurd e Jaa|(cases y<;>exact absurd e Jaa)))
  cases x<;>try (exact absurd e Jaa)
  (delta U0 at e;dsimp only at e)
  obtain⟨v,rfl,rv⟩:=rd.one;split at e<;>try (cases e;done)
  rename_i es hs;split at e<;>try (cases e;done)
  rename_i b hb;cases e;exact Jhi hc pins s U H _ us Q I r ⟨ρ,S,_,es,b,rs,v,rfl,rv,hs,hb,fin.now rs (RelD.int _)⟩
 |sort1=>
  rcases ds with _|⟨x,_|⟨y,ds⟩⟩<;>try (first|exact absurd e Jaa|(cases x<;>exact absurd e Jaa)|(cases x<;>first|exact absurd e Jaa|(cases y<;>exact absurd e Jaa)))
  cases x<;>try (exact absurd e Jaa)
  (delta U0 at e;dsimp only at e)
  obtain⟨v,rfl,rv⟩:=rd.one;split at e<;>try (cases e;done)
  rename_i kvs hk;split at e<;>try (cases e;done)
  rename_i hup;cases e;obtain⟨a,ws,rfl,_,ea,q⟩:=rs.dtu rv (Jbr hk);refine Jhj hc pins s U H _ us Q I r ⟨a,ws,_,rfl,Jps ea q hup,λp bs hp hl hb=>?_⟩;have:=Jl4 (K:=X.K) (ρ:=ρ) hl hb;rw[B1]at this;exact fin.newL rs this p hp
 |dict1=>
  rcases ds with _|⟨x,_|⟨y,ds⟩⟩<;>try (first|exact absurd e Jaa|(cases x<;>exact absurd e Jaa)|(cases x<;>first|exact absurd e Jaa|(cases y<;>exact absurd e Jaa)))
  cases x<;>try (exact absurd e Jaa)
  (delta U0 at e;dsimp only at e)
  obtain⟨v,rfl,rv⟩:=rd.one;split at e<;>try (cases e;done)
  ·rename_i kvs hk;cases e;obtain⟨a,ws,rfl,_,ea,q⟩:=rs.dct rv hk;exact Jfk pins s U H _ us Q I r ⟨a,rfl,.inl ⟨ws,.inl ea,fin.newO rs λp n=>⟨ws,Jaf,q.fut (Ja7 n [p])⟩⟩⟩
  ·rename_i kvs hk;split at e<;>try (cases e;done)
   rename_i hap;cases e;obtain⟨a,ws,rfl,_,ea,q⟩:=rs.dtu rv hk;exact Jfk pins s U H _ us Q I r ⟨a,rfl,.inr ⟨ws,.inl ea,Jxs q hap,fin.newO rs λp n=>⟨ws,Jaf,q.fut (Ja7 n [p])⟩⟩⟩
noncomputable def Wp:Meth->String
 |.append=>"append"|.pop0=>"pop"|.get2=>"get"|.indexT=>"index"|.get1=>"get"|.pop1=>"pop"
noncomputable def Wq:Meth->String
 |.append=>"list.append"|.pop0=>"list.pop"|.get2=>"dict.get"|.indexT=>"tuple.index"|.get1=>"dict.get"|.pop1=>"dict.pop"
def rM(K:Af)(p:Meth):V->List V->Hp->VK->Prop:=λx xs H Q=>∃ρ S o ds d S',RelS K ρ S H/\RelD K ρ H o x/\RelDs K ρ H ds xs/\U5 p o ds S=.ok d S'/\Fin K ρ H d S' Q
def Jo2(I:Inv X pins U H s)(r:RelS X.K ρ S H)(hx:RelD X.K ρ H x vx)(rx:RelV vx w){us:List Value}
  (t:RelDs X.K ρ H ds xs)(v:Vals xs us)(e:Yd S x ds=some j):∃e:Value->Bool,∃hj:j<us.length,e us[j]=true/\(∀m (hm:m<us.length),m<j->e us[m]=false)/\∀A:Bl,A.units<C0->∀u∈us,E9 A s u w (e u):=by
 unfold Yd at e;split at e
 ·rename_i hall;rw[Ei]at hall
  classical
  let ev:Value->Bool:=λu=>decide (∃d z,RelD X.K ρ H d z/\RelV z u/\eqD S 0 d x=some true)
  have one:∀{d:D} {v:V} {u:Value} {b:Bool},RelD X.K ρ H d v->RelV v u->eqD S 0 d x=some b->ev u=b:=λ{d v u b} h r1 e=>by
   cases b with
   |true=>exact decide_eq_true ⟨d,v,h,r1,e⟩
   |false=>
    refine decide_eq_false ?_;rintro⟨d',v',h',r2,e'⟩;cases r1.inj r2;rw[RelD.inj I r h h',e']at e;cases e
  have at':∀(m:Nat) (hm:m<us.length),∃d z,ds[m]? =some d/\RelD X.K ρ H d z/\RelV z us[m]:=λm hm=>by
   have l1:m<ds.length:=by rw[t.length,v.length];exact hm
   obtain⟨z,e1,q1⟩:=t.get (Ag l1);obtain⟨u',e2,q2⟩:=v.get e1;obtain⟨_,e3⟩:=Ae.mp e2;exact⟨_,z,Ag l1,q1,by rw[e3];exact q2⟩
  obtain⟨hj,h1,h2⟩:=List.findIdx?_eq_some_iff_getElem.mp e;have hj':j<us.length:=by rw[<-v.length,<-t.length];exact hj
  refine⟨ev,hj',?_,λm hm hlt=>?_,λA hA u hu=>?_⟩
  ·obtain⟨d,z,e1,q1,q2⟩:=at' j hj';rw[Ag hj]at e1;cases e1;exact one q1 q2 (by simpa using h1)
  ·obtain⟨d,z,e1,q1,q2⟩:=at' m hm;have hm':m<ds.length:=by lia
   have:=h2 m hlt;rw[Ag hm']at e1;cases e1;obtain⟨b,hb⟩:=B9.mp (hall _ (Hb hm'));rw[one q1 q2 hb];rw[hb]at this;cases b
   ·rfl
   ·simp at this
  ·obtain⟨m,hm,rfl⟩:=List.getElem_of_mem hu;obtain⟨d,z,e1,q1,q2⟩:=at' m hm;obtain⟨b,hb⟩:=B9.mp (hall _ (Ba e1));rw[one q1 q2 hb];exact(Jhb I r 0 (by simpa using hA) q1 hx q2 rx hb).eq
 ·cases e
theorem Jd9(p:Meth)(hu:X.A.units+64<C0)(np:npB X.K=true):MtR X (Wq p) (rM X.K p):=by
 intro pins s U H x xs v us Q I rx rvs hq_;obtain⟨ρ,S,o,ds,d,S',rs,ro,rd,e,fin⟩:=hq_;cases p with
 |append=>
  cases o<;>rcases ds with _|⟨y,_|⟨z,ds⟩⟩<;>try (exact absurd e Jaa)
  all_goals (delta U5 at e;dsimp only at e)
  split at e
  ·rename_i ys hy;split at e
   ·rename_i hl;cases e;obtain⟨a,zs,rfl,ha,q,t⟩:=rs.lst ro hy;obtain⟨w,rfl,rw'⟩:=rd.one;exact Jlx pins s U H _ _ v us Q I rx rvs ⟨a,zs,w,rfl,rfl,q,by rw[<-t.length,<-Jbb];exact hl,fin ρ _ _ (Jc8 q) (rs.set ha q (t.append (RelDs.cons rw' RelDs.nil))) RelD.non⟩
   ·cases e
  ·cases e
 |pop0=>
  cases o<;>rcases ds with _|⟨y,ds⟩<;>try (exact absurd e Jaa)
  all_goals (delta U5 at e;dsimp only at e)
  split at e
  ·rename_i ys hy;split at e
   ·rename_i z hz;cases e;obtain⟨a,zs,rfl,ha,q,t⟩:=rs.lst ro hy;cases rd.inv_nil;obtain⟨w,ew,rw'⟩:=t.get hz;refine Jv8 pins s U H _ _ v us Q I rx rvs ⟨a,zs,w,rfl,rfl,q,by rw[<-t.length];exact ew,fin ρ _ _ (Jc8 q) (rs.set ha q t.dropLast) (rw'.fut (Jc8 q))⟩
   ·cases e
  ·cases e
 |indexT=>
  cases o<;>rcases ds with _|⟨y,_|⟨z,ds⟩⟩<;>try (exact absurd e Jaa)
  all_goals (delta U5 at e;dsimp only at e)
  split at e
  ·split at e
   ·rename_i j hj;cases e;obtain⟨a,zs,rfl,q,t⟩:=ro.tup_inv;obtain⟨vy,rfl,rw'⟩:=rd.one;obtain⟨u,rfl,ru⟩:=vals1 rvs;cases rx;obtain⟨its,vv,pl,_⟩:=I.tuple q;obtain⟨ev,hk,e1,e2,e3⟩:=Jo2 I rs rw' ru t vv hj;exact Jfn (show s.heap.IsTuple a its.toArray from pl) (by simpa using hk) (by simpa using e1) (λm hm hlt=>by simpa using e2 m (by simpa using hm) hlt) (λy hy=>e3 _ (by rw[in1_units];lia) y (by simpa using hy)) ⟨.int j,H,I.tok _,⟨_,rfl⟩,fin.now rs (RelD.int _)⟩
   ·cases e
  ·cases e
 |get1=>
  cases o<;>rcases ds with _|⟨y,_|⟨z,ds⟩⟩<;>try (exact absurd e Jaa)
  (delta U5 at e;dsimp only at e)
  split at e<;>try (cases e;done)
  rename_i o' ho;cases e;obtain⟨vy,rfl,ry⟩:=rd.one;obtain⟨u,rfl,ru⟩:=vals1 rvs;obtain⟨a,o2,rfl,_,g,h⟩:=Jio np rs ro ry ho;cases rx;refine Jxk (by show X.A.units+1<C0;lia) I g ru λw' s' I' rw'=>⟨_,H,I',rw',?_⟩
  rcases h with⟨rfl,rfl⟩|⟨d,v,rfl,rfl,q⟩
  ·exact fin.now rs RelD.non
  ·exact fin.now rs q
 |pop1=>
  cases o<;>rcases ds with _|⟨y,_|⟨z,ds⟩⟩<;>try (exact absurd e Jaa)
  (delta U5 at e;dsimp only at e)
  split at e<;>try (cases e;done)
  rename_i kvs k hk hy;split at e<;>try (cases e;done)
  rename_i d0 hd;cases e;cases Jee hy;obtain⟨vy,rfl,ry⟩:=rd.one;obtain⟨u,rfl,ru⟩:=vals1 rvs;obtain⟨a,ws,rfl,hp,ea,q⟩:=rs.dtu ro (Jbr hk);obtain⟨b,rfl,eb⟩:=Jd8 np ry;cases rx;cases ru;rcases q.val Je9 k with⟨z,_⟩|⟨d',v,z1,z2,z3⟩
  ·rw[z]at hd;cases hd
  ·rw[z1]at hd;cases hd;have f:Fut X.K ρ H ρ (upd H a (.dT (Wt ws (pK k)))):=Jc9 (o0:=.dT ws) ea (λ_ z=>by cases z) (λ_ _ z=>by cases z);exact Jxh (by show X.A.units+2<C0;lia) I ea eb z2 λw' s' I' rw'=>⟨v,_,I',rw',fin ρ _ _ f (rs.setO (o0:=.dT ws) hp f ⟨_,Jaf,(q.drop Je9 k).fut f⟩) (z3.fut f)⟩
 |get2=>
  cases o<;>rcases ds with _|⟨x0,_|⟨y,_|⟨z,ds⟩⟩⟩<;>try (first|exact absurd e Jaa|(cases x0<;>exact absurd e Jaa))
  cases x0<;>try (exact absurd e Jaa)
  cases e;rename_i kvs k;obtain⟨a,rfl,kd⟩:=ro.kd_inv;obtain⟨v1,v2,rfl,r1,r2⟩:=rd.two;obtain⟨u1,u2,rfl,q1,q2⟩:=vals2 rvs;cases rx;cases r1.str_inv;obtain⟨tk,rfl⟩:=q1;have T:=kd.text I.kIn;refine Sl (h₀:=s.heap) (D:=kvs.map λp=>(p.1,Eo (.int p.2))) ⟨T,λ_ _ z=>z⟩ ?_;clear T kd;have main:∀(kvs:List (Str×Int)),(∀n tk',kvs.lookup k=some n->EP X pins U Q (.int n tk') {s with toks:=s.toks+1})->(kvs.lookup k=none->EP X pins U Q u2 {s with toks:=s.toks+1})->
    Ss s.heap k (λv=>EP X pins U Q v {s with toks:=s.toks+1}) (EP X pins U Q u2 {s with toks:=s.toks+1}) (kvs.map λp=>(p.1,Eo (.int p.2))):=by
   intro kvs
   induction kvs with
   |nil=>intro _ h2;exact Sm (h2 rfl)
   |cons p r ih=>
    obtain⟨y,n⟩:=p;intro h1 h2
    by_cases hy:k=y
    ·subst hy;exact So rfl (Sk λt=>h1 n t (by simp))
    ·have hb:(k==y)=false:=by simpa using hy
     exact Sn hy (ih (λn tk' e=>h1 n tk' (by simp only[C9,hb];exact e)) λe=>h2 (by simp only[C9,hb];exact e))
  refine main kvs (λn tk' en=>?_) (λen=>?_)
  ·rw[en]at fin;exact⟨.int n,H,I.tok _,⟨_,rfl⟩,fin.now rs (RelD.int _)⟩
  ·rw[en]at fin;exact⟨_,H,I.tok _,q2,fin.now rs r2⟩
end
structure Ow where
 mt:List (String×String×String)
 fd:List (String×String)
 nw:List (String×String)
structure Ck where
 N:List Str
 names:List (Str×E3)
 fn:Bool
 B:List String
 F:List String
 O:Ow
noncomputable def dbg(x:Str):Bool:= !(x==("__debug__":Str))&& !(x==("__classdict__":Str))
noncomputable def Ck.vis(c:Ck)(x:Str):Bool:=c.names.lookup x==some .local||c.names.lookup x==some .cell||c.names.lookup x==some .free
noncomputable def Ck.own(c:Ck)(x:Str):Bool:=if c.fn then c.names.lookup x==some .local||c.names.lookup x==some .cell else c.names.lookup x==some .local
noncomputable def Ck.gl(c:Ck)(x:Str):Bool:=c.names.lookup x==some .globalImplicit
noncomputable def relab(inner outer:List (Str×E3)):List (Str×E3):=inner.map λ(n,k)=>if(k== .free&&outer.lookup n==some .cell)then(n,.cell)else(n,k)
noncomputable def Ck.inner(c:Ck)(N:List String)(scope:Hw):Ck:={c with N:=N.map Ab,names:=relab scope.names c.names,fn:=false}
noncomputable def Ck.comp(c:Ck)(N:List String)(k:Nat)(keep:List Nat)(scope:Hw):Bool:=
 scope.kind== .function&&scope.names.all (λy=>y.2 != .cell)&&scope.names.all (λy=>y.2 != .local||scope.names.lookup y.1==some .local)
  &&scope.names.all (λy=>y.2 != .free||c.names.lookup y.1==some .cell||c.names.lookup y.1==some .free)
  &&N.length==k+keep.length&&decide ((N.map Ab).Nodup)
  &&(B7 keep.length).all (λj=>match keep[j]?,(N.map Ab)[k+j]? with
   |some i,some x=>c.N[i]? ==some x&&scope.names.lookup x==some .free
   |_,_=>false)
noncomputable def Jek:Expr->Bool
 |.Call (.Name ..) [] [] _=>true
 |_=>false
noncomputable def Yv:Expr->Bool
 |.Name .. =>true
 |_=>false
noncomputable def isComp:Expr->Bool
 |.ListComp .. =>true|.SetComp .. =>true|.DictComp .. =>true
 |_=>false
noncomputable def Wa(k:Nat):M->Bool
 |.tvar i=>decide (i<k)
 |.ttup ts=>Wa k ts
 |.nul=>true
 |.cns a b=>Wa k a&&Wa k b
 |_=>false
noncomputable def Zc:Meth->M->Bool
 |.indexT,.glb _=>true
 |.indexT,_=>false
 |_,_=>true
noncomputable def cNB:Expr->Bool
 |.Constant .none _ _=>true
 |_=>false
noncomputable def Zd:Expr->Bool
 |.Set .. =>false
 |_=>true
noncomputable def Wl(o:Cop)(e:Expr):Bool:=match o with
 |.isc=>cNB e
 |.isnc=>cNB e
 |_=>Zd e
noncomputable def cnV:(x:Expr)->Option {k:Const//∃n p,x=.Constant k n p}
 |.Constant k n p=>some ⟨k,n,p,rfl⟩
 |_=>none
noncomputable def dC:D->Option Const
 |.non=>some .none
 |.bl b=>some (.bool b)
 |.int i=>some (.int i)
 |.str x=>some (.str x)
 |_=>none
noncomputable def fV:(x:Expr)->Option {q:Str×Pos×List Expr×Pos//x=.Call (.Name q.1 q.2.1) q.2.2.1 [] q.2.2.2}
 |.Call (.Name y p) es [] q=>some ⟨(y,p,es,q),rfl⟩
 |_=>none
theorem aO{α:Type}{o:Option α}{f:α->Bool}(h:o.any f=true):∃q,f q=true:=by
 cases o with
 |none=>exact fx9 h
 |some q=>exact⟨q,h⟩
noncomputable def zC(n:Str):(x:Expr)->Option {_u:Unit//∃p q,x=.Call (.Name n p) [] [] q}
 |.Call (.Name y p) [] [] q=>if h:n=y then some ⟨(),p,q,by rw[h]⟩else none
 |_=>none
noncomputable def nC(n:String):(x:Expr)->Option {e:Expr//∃p q,x=.Call (.Name (Ab n) p) [e] [] q}
 |.Call (.Name y p) [e] [] q=>if h:Ab n=y then some ⟨e,p,q,by rw[h]⟩else none
 |_=>none
noncomputable def mC(m:String):(x:Expr)->Option {e:Expr//∃p q,x=.Call (.Attribute e (Ab m) p) [] [] q/\(!Jek e)=true/\(p.endLine==q.line)=true}
 |.Call (.Attribute e y p) [] [] q=>if h:Ab m=y/\(!Jek e)=true/\(p.endLine==q.line)=true then some ⟨e,p,q,by rw[h.1],h.2⟩else none
 |_=>none
noncomputable def iC:(x:Expr)->Option {r:Expr×Str//∃p1 p2 p3,x=.Call (.Name "isinstance" p1) [r.1,.Name r.2 p2] [] p3}
 |.Call (.Name z p) [e,.Name y q] [] s=>if h:z="isinstance" then some ⟨(e,y),p,q,s,by rw[h]⟩else none
 |_=>none
noncomputable def hV(x:Expr):Option {e:Expr//∃p1 p2 p3 p4 ap cp,x=.Call (.Name "dict" p1) [.Call (.Name "sorted" p2) [.Call (.Attribute e "items" ap) [] [] cp] [] p3] [] p4/\(!Jek e)=true/\(ap.endLine==cp.line)=true}:=
 match nC "dict" x with
 |some ⟨y,h1⟩=>(match nC "sorted" y with
  |some ⟨z,h2⟩=>(match mC "items" z with
   |some ⟨e,h3⟩=>some ⟨e,let⟨p1,p4,e1⟩:=h1;let⟨p2,p3,e2⟩:=h2;let⟨ap,cp,e3,h⟩:=h3;⟨p1,p2,p3,p4,ap,cp,by rw[e1,e2,e3],h⟩⟩
   |none=>none)
  |none=>none)
 |none=>none
noncomputable def lV(x:Expr):Option {e:Expr//∃p1 p2 p3 p4,x=.Call (.Name "len" p1) [.Call (.Name "set" p2) [e] [] p3] [] p4}:=
 match nC "len" x with
 |some ⟨y,h1⟩=>(match nC "set" y with
  |some ⟨e,h2⟩=>some ⟨e,let⟨p1,p4,e1⟩:=h1;let⟨p2,p3,e2⟩:=h2;⟨p1,p2,p3,p4,by rw[e1,e2]⟩⟩
  |none=>none)
 |none=>none
noncomputable def dwA(b:Bool)(x:Expr)(f:Expr->Bool):Bool:=if b=true then(mC "values" x).any λe=>f e.1 else f x
noncomputable def nD:M->Bool
 |.dcm .. =>false
 |_=>true
noncomputable def itT:M->Expr->Bool
 |.enm _,.Tuple _ _ _=>true
 |.enm _,_=>false
 |.zp _ _,.Tuple _ _ _=>true
 |.zp _ _,_=>false
 |_,_=>true
mutual
noncomputable def Uy:M->Ck->Expr->Bool
 |.cst d,_,x=>(cnV x).any λk=>dC d==some k.1
 |.var i,c,.Name x _=>c.N[i]? ==some x&&c.vis x&&dbg x
 |.glb g,c,.Name x _=>Ab g==x&&c.gl x&&dbg x
 |.bin o a b,c,.BinOp e p f _=>Wag o==p&&Uy a c e&&Uy b c f
 |.neg a,c,.UnaryOp .USub e _=>Uy a c e
 |.nott a,c,.UnaryOp .Not e _=>Uy a c e
 |.bit a,c,x=>(mC "bit_length" x).any λe=>Yv e.1&&Uy a c e.1
 |.bo true as,c,.BoolOp .And es _=>Vl as c es
 |.bo false as,c,.BoolOp .Or es _=>Vl as c es
 |.cmp o a b,c,.Compare e [p] [f] _=>Wu o==p&&Uy a c e&&Uy b c f&&Wl o f
 |.cmp2 o o' a b d,c,.Compare e [p,p'] [f,g] _=>Wu o==p&&Wu o'==p'&&Uy a c e&&Uy b c f&&Uy d c g&&Wl o f&&Wl o' g
 |.ife t a b,c,.IfExp x e f _=>Uy t c x&&Uy a c e&&Uy b c f
 |.tup as,c,.Tuple es _ _=>Vl as c es
 |.lst as,c,.List es _=>Vl as c es
 |.idx a b,c,.Subscript e f _=>Uy a c e&&Uy b c f
 |.sli a lo hi,c,.Subscript e (.Slice l h none _) _=>Uy a c e&&Yx lo c l&&Yx hi c h
 |.call f as,c,x=>(fV x).any λq=>Ab f==q.1.1&&c.gl q.1.1&&dbg q.1.1&&c.F.contains f&&Vl as c q.1.2.2.1
 |.prim p as,c,.Call (.Name x _) (e::es) [] _=>Ab (Vv p)==x&&c.gl x&&c.B.contains (Vv p)&&Vl as c (e::es)
 |.isi a t,c,x=>(iC x).any λq=>Ab t==q.1.2&&c.gl "isinstance"&&c.gl q.1.2&&c.B.contains "isinstance"&&c.B.contains t&&clNames.contains t&&Uy a c q.1.1
 |.meth p o as,c,.Call (.Attribute e x ap) es [] cp=>Ab (Wp p)==x&& !Jek e&&ap.endLine==cp.line&&decide (es.length<20)&&Uy o c e&&Vl as c es&&Zc p o
 |.comp N k keep tg it cd el,c,.ListComp elt [⟨t,i,fs,asy⟩] scope _=>asy==0&&c.comp N k keep scope&&Wa k tg&&Wi tg (c.inner N scope) t&&Xb it c i&&Zu cd (c.inner N scope) fs&&Uy el (c.inner N scope) elt&&itT it t
 |.dcm b N keep tg a el,c,.ListComp elt [⟨t,i,[],asy⟩] scope _=>asy==0&&c.comp N 1 keep scope&&Wa 1 tg&&Wi tg (c.inner N scope) t&&dwA b i (λe=>Uy a c e)&&Uy el (c.inner N scope) elt
 |.dnil _,_,.Dict [] [] _=>true
 |.hld a,c,x=>(hV x).any λe=>c.gl "dict"&&c.gl "sorted"&&c.B.contains "dict"&&c.B.contains "sorted"&&Uy a c e.1
 |.lsp a,c,x=>(lV x).any λe=>c.gl "len"&&c.gl "set"&&c.B.contains "len"&&c.B.contains "set"&&Uy a c e.1
 |.fld cl f a,c,.Attribute e x _=>Ab f==x&&Yv e&&c.O.fd.contains (cl,f)&&Uy a c e
 |.mcl cl m f o as,c,.Call (.Attribute e x ap) es [] cp=>Ab m==x&&Yv e&&ap.endLine==cp.line&&decide (es.length<20)&&c.O.mt.contains (cl,m,f)&&Uy o c e&&Vl as c es
 |.new cl f,c,x=>(zC (Ab cl) x).any λ_=>c.gl (Ab cl)&&dbg (Ab cl)&&c.O.nw.contains (cl,f)
 |_,_,_=>false
noncomputable def Vl:M->Ck->List Expr->Bool
 |.nul,_,[]=>true
 |.cns a b,c,e::es=>Uy a c e&&Vl b c es
 |_,_,_=>false
noncomputable def Yx:M->Ck->Option Expr->Bool
 |.nul,_,none=>true
 |.cns a .nul,c,some e=>Uy a c e
 |_,_,_=>false
noncomputable def Zu:M->Ck->List Expr->Bool
 |.nul,_,[]=>true
 |.cns a .nul,c,[e]=>Uy a c e
 |_,_,_=>false
noncomputable def Xb:M->Ck->Expr->Bool
 |.rng a,c,x=>(nC "range" x).any λe=>c.gl "range"&&c.B.contains "range"&&Uy a c e.1
 |.cns a .nul,c,e=>Uy a c e
 |.enm a,c,x=>(nC "enumerate" x).any λe=>c.gl "enumerate"&&c.B.contains "enumerate"&&Uy a c e.1
 |.zp a b,c,.Call (.Name x _) [e,f] [] _=>Ab "zip"==x&&c.gl x&&c.B.contains "zip"&&Uy a c e&&Uy b c f
 |_,_,_=>false
noncomputable def Wi:M->Ck->Expr->Bool
 |.tvar i,c,.Name x _=>c.N[i]? ==some x&&c.own x
 |.ttup ts,c,.Tuple es _ _=>Wc ts c es
 |.tsub a b,c,.Subscript e f _=>Uy a c e&&Uy b c f
 |_,_,_=>false
noncomputable def Wc:M->Ck->List Expr->Bool
 |.nul,_,[]=>true
 |.cns a b,c,e::es=>Wi a c e&&Wc b c es
 |_,_,_=>false
noncomputable def Wh:M->Ck->Stmt->Bool
 |.asg t e,c,.Assign [tg] v _=>Wi t c tg&&Uy e c v&&(match tg,v with|.Tuple ..,.Tuple .. =>false|.Name ..,_=>nD e|_,v=> !isComp v)
 |.aug i e,c,.AugAssign (.Name x _) .Add v _=>c.N[i]? ==some x&&c.own x&&Uy e c v
 |.ifs t a b,c,.If x y z _=>Uy t c x&&V7 a c y&&V7 b c z
 |.forr t i b,c,.For tg it body [] _=>Wi t c tg&&Xb i c it&&V7 b c body&&itT i tg
 |.ret e,c,.Return (some v) _=>Uy e c v
 |.exp e,c,.Expr v _=>Uy e c v&& !isComp v
 |.rse,_,.Raise (some _) none _=>true
 |.sfd cl f o v,c,.Assign [.Attribute e x _] w _=>Ab f==x&& !isComp w&&c.O.fd.contains (cl,f)&&Uy o c e&&Uy v c w
 |_,_,_=>false
noncomputable def V7:M->Ck->List Stmt->Bool
 |.nul,_,[]=>true
 |.cns a b,c,s::ss=>Wh a c s&&V7 b c ss
 |_,_,_=>false
end
theorem Wfz:Vl (.cns a b) c (e::es)=(Uy a c e&&Vl b c es):=rfl
def aB(h:(a&&b)=true):a=true/\b=true:=(Al _ _).mp h
section
variable (K:Af) (C:Pr)
inductive tE (m:M) (U:L2.St) (H:Hp) (Q:VK):Prop
 |mk (ρ S Z d S') (_:RelS K ρ S H) (_:RelE K ρ H Z U) (_:evE C m Z S=.ok d S') (_:Fin K ρ H d S' Q):tE m U H Q
noncomputable def FinB(ρ:List Addr)(H:Hp)(S':Store)(Q:Hp->Prop):Prop:=∀ρ' H',Fut K ρ H ρ' H'->RelS K ρ' S' H'->Q H'
inductive tT (m:M) (U:L2.St) (H:Hp) (Q:Bool->Hp->Prop):Prop
 |mk (ρ S Z b S') (_:RelS K ρ S H) (_:RelE K ρ H Z U) (_:evT C m Z S=.ok b S') (_:FinB K ρ H S' (Q b)):tT m U H Q
inductive tC (m:M) (U:L2.St) (H:Hp) (Q:Bool->Hp->Prop):Prop
 |mk (ρ S Z b S') (_:RelS K ρ S H) (_:RelE K ρ H Z U) (_:evC C m Z S=.ok b S') (_:FinB K ρ H S' (Q b)):tC m U H Q
inductive tBV (w:Bool) (m:M) (U:L2.St) (H:Hp) (Q:VK):Prop
 |mk (ρ S Z d S') (_:RelS K ρ S H) (_:RelE K ρ H Z U) (_:evBV C w m Z S=.ok d S') (_:Fin K ρ H d S' Q):tBV w m U H Q
inductive tBT (w:Bool) (m:M) (U:L2.St) (H:Hp) (Q:Bool->Hp->Prop):Prop
 |mk (ρ S Z b S') (_:RelS K ρ S H) (_:RelE K ρ H Z U) (_:evBT C w m Z S=.ok b S') (_:FinB K ρ H S' (Q b)):tBT w m U H Q
inductive tA (m:M) (U:L2.St) (H:Hp) (Q:List V->Hp->Prop):Prop
 |mk (ρ S Z ds S') (_:RelS K ρ S H) (_:RelE K ρ H Z U) (_:evA C m Z S=.ok ds S') (_:∀ρ' vs H',Fut K ρ H ρ' H'->RelS K ρ' S' H'->RelDs K ρ' H' ds vs->Q vs H'):tA m U H Q
inductive tO (m:M) (U:L2.St) (H:Hp) (Q:Option Int->Hp->Prop):Prop
 |mk (ρ S Z o S') (_:RelS K ρ S H) (_:RelE K ρ H Z U) (_:evO C m Z S=.ok o S') (_:FinB K ρ H S' (Q o)):tO m U H Q
structure ItOk(ρ0:List Addr)(H0:Hp)(J:It)(g:Wk)(ds:List D):Prop where
 go:∀ρ H S i d,Fut K ρ0 H0 ρ H->RelS K ρ S H->sameAt S g ds.length=true->nth S g ds i=some d->J.go i H/\∀x H',J.yld i H x H'->Fut K ρ H ρ H'/\RelS K ρ S H'/\RelD K ρ H' d x
 stop:∀ρ H S,Fut K ρ0 H0 ρ H->RelS K ρ S H->sameAt S g ds.length=true->J.stop ds.length H
inductive tI (m:M) (U:L2.St) (H:Hp) (R:It->Hp->Prop):Prop
 |mk (ρ S Z g ds S') (_:RelS K ρ S H) (_:RelE K ρ H Z U) (_:evI C m Z S=.ok (g,ds) S') (_:∀ρ' H' J,Fut K ρ H ρ' H'->RelS K ρ' S' H'->ItOk K ρ' H' J g ds->R J H'):tI m U H R
noncomputable def FinG(ρ:List Addr)(H:Hp)(Z':En)(S':Store)(Q:L2.St->Hp->Prop):Prop:=∀ρ' U' H',Fut K ρ H ρ' H'->RelS K ρ' S' H'->RelE K ρ' H' Z' U'->Q U' H'
inductive tG (m:M) (v:V) (U:L2.St) (H:Hp) (Q:L2.St->Hp->Prop):Prop
 |mk (ρ S Z d Z' S') (_:RelS K ρ S H) (_:RelE K ρ H Z U) (_:RelD K ρ H d v) (_:evG C m d Z S=.ok Z' S') (_:FinG K ρ H Z' S' Q):tG m v U H Q
inductive tGs (m:M) (vs:List V) (U:L2.St) (H:Hp) (Q:L2.St->Hp->Prop):Prop
 |mk (ρ S Z ds Z' S') (_:RelS K ρ S H) (_:RelE K ρ H Z U) (_:RelDs K ρ H ds vs) (_:evGs C m ds Z S=.ok Z' S') (_:FinG K ρ H Z' S' Q):tGs m vs U H Q
noncomputable def FlOk(ρ:List Addr)(H:Hp)(fl:Fl)(S':Store)(D:Ends):Prop:=match fl with
 |.nx Z'=>FinG K ρ H Z' S' D.nx
 |.rt d=>Fin K ρ H d S' D.rt
inductive tS (m:M) (D:Ends) (U:L2.St) (H:Hp):Prop
 |mk (ρ S Z fl S') (_:RelS K ρ S H) (_:RelE K ρ H Z U) (_:evS C m Z S=.ok fl S') (_:FlOk K ρ H fl S' D):tS m D U H
inductive tB' (m:M) (D:Ends) (U:L2.St) (H:Hp):Prop
 |mk (ρ S Z fl S') (_:RelS K ρ S H) (_:RelE K ρ H Z U) (_:evB C m Z S=.ok fl S') (_:FlOk K ρ H fl S' D):tB' m D U H
noncomputable def spM(f:String):Sp:=λvs H Q _=>∃ρ S ds d S',RelS K ρ S H/\RelDs K ρ H ds vs/\C.call f ds S=.ok d S'/\Fin K ρ H d S' Q
end
structure Tp(P:Program)(w:World)(K:Af)(mg:Str->Option Value)(base:Heap)(A:Bl)(C:Pr)(B F:List String)(O:Ow):Prop where
 fns:∀f∈F,∃k a fd ps,U8 k A/\mg (Ab f)=some (.ref a)/\V1 P w K mg base CX0 k a fd ps (spM K C f)/\Binds K fd ps []/\Cv K (.ref a)=true
 blt:∀x∈B,mg (Ab x)=none
 gl:∀x d,C.glob x=some d->∃v u,mg (Ab x)=some u/\RelV v u/\(∀ρ H,RelD K ρ H d v)/\∀ds,d=.tup ds->∃a o,v=.ref a/\K.lookup a=some o/\o.cls=.type "tuple"/\o.dict=none
 un:A.units+64<C0
 np:npB K=true
 mts:∀c m f,(c,m,f)∈O.mt->∃k a fd ps Ca,U8 (k+1) A/\Bb K Ax (Ab c)=some (some (.ref Ca))/\L2.Cls K Ca/\L2.Meth K Ca (Ab m) a/\V1 P w K mg base CX0 k a fd ps (spM K C f)/\Binds K fd ps []
 fds:∀c f,(c,f)∈O.fd->∃Ca,Bb K Ax (Ab c)=some (some (.ref Ca))/\L2.Cls K Ca/\L2.Vn K Ca (Ab f)
 nws:∀c f,(c,f)∈O.nw->∃k a fd ps Ca,U8 (k+1) A/\Bb K Ax (Ab c)=some (some (.ref Ca))/\mg (Ab c)=some (.ref Ca)/\L2.Mk K Ca a/\V1 P w K mg base CX0 k a fd ps (spM K C f)/\Binds K fd ps []
structure Gd(X:Cx)(C:Pr)(c:Ck):Prop where
 N:X.N=c.N
 nd:X.N.Nodup
 names:X.env.scope.names=c.names
 sk:X.env.scope.kind=.function
 fn:∀x,X.fn x=c.fn
 calm:X.calm=true
 xe:X.xe=λ_ _=>False
 top:Tp X.prog X.w X.K X.mg X.base X.A C c.B c.F c.O
section
variable {X:Cx} {C:Pr} {c:Ck}
def PE.imp(h:PE X e t)(hi:∀U H Q,t' U H Q->t U H Q):PE X e t':=λpins s U H Q I q=>h pins s U H Q I (hi _ _ _ q)
def PT.imp(h:PT X e t)(hi:∀U H Q,t' U H Q->t U H Q):PT X e t':=λpins s U H Q I q=>h pins s U H Q I (hi _ _ _ q)
def PA.imp(h:PA X e t)(hi:∀U H Q,t' U H Q->t U H Q):PA X e t':=λpos pins s U H Q I q=>h pos pins s U H Q I (hi _ _ _ q)
def PI.imp(h:PI X tg e t)(hi:∀U H Q,t' U H Q->t U H Q):PI X tg e t':=λpins s U H Q I q=>h pins s U H Q I (hi _ _ _ q)
def PO.imp(h:PO X e t)(hi:∀U H Q,t' U H Q->t U H Q):PO X e t':=λpins s U H Q I q=>h pins s U H Q I (hi _ _ _ q)
def PG.imp(h:PG X e t)(hi:∀v U H Q,t' v U H Q->t v U H Q):PG X e t':=λpins s U H v u Q I r q=>h pins s U H v u Q I r (hi _ _ _ _ q)
def PGs.imp(h:PGs X e t)(hi:∀v U H Q,t' v U H Q->t v U H Q):PGs X e t':=λpins s U H v u Q I r q=>h pins s U H v u Q I r (hi _ _ _ _ q)
def PS.imp(h:PS X e t)(hi:∀D U H,t' D U H->t D U H):PS X e t':=λpins s U H D I q=>h pins s U H D I (hi _ _ _ q)
def PSs.imp(h:PSs X e t)(hi:∀D U H,t' D U H->t D U H):PSs X e t':=λpins s U H D I q=>h pins s U H D I (hi _ _ _ q)
def PTs.imp(h:PTs X e t)(hi:∀U H Q,t' U H Q->t U H Q):PTs X e t':=λpins s U H Q I q=>h pins s U H Q I (hi _ _ _ q)
def Xr(h:dbg x=true):(x==("__debug__":Str))=false:=by unfold dbg at h;simp only[Al,I9]at h;exact h.1
def Wfx(h:dbg x=true):(x==("__classdict__":Str))=false:=by unfold dbg at h;simp only[Al,I9]at h;exact h.2
def Gd.vis(g:Gd X C c)(h:c.vis x=true):Vis X.env.scope x:=by
 unfold Ck.vis at h;simp only[Hm,beq_iff_eq]at h;unfold Vis;rw[g.names];rcases h with(h|h)|h
 ·exact .inl h
 ·exact .inr (.inl h)
 ·exact .inr (.inr h)
def Gd.own(g:Gd X C c)(h:c.own x=true):L2.Loc X.env.scope x/\(X.fn x=true\/X.env.scope.names.lookup x=some .local):=by
 unfold Ck.own at h;unfold L2.Loc;rw[g.names,g.fn];split at h
 ·rename_i hf;simp only[Hm,beq_iff_eq]at h;exact⟨h,.inl hf⟩
 ·simp only[beq_iff_eq]at h;exact⟨.inl h,.inr h⟩
def Gd.glo(g:Gd X C c)(h:c.gl x=true):Gl X x:=by
 unfold Ck.gl at h;simp only[beq_iff_eq]at h;unfold Gl Env.kindOf;rw[g.names];exact h
def noStar:∀{m:M} {c:Ck} {e:Expr},Uy m c e=true->∀x p,e≠ .Starred x p:=by
 intro m c e h x p z;subst z;cases m<;>first|(exact fx9 h)|(rename_i d;cases d<;>exact fx9 h)|(rename_i w _;cases w<;>exact fx9 h)
def Jae(h:∀x p,e≠ .Starred x p):Bm (e::es) env=(false,eval e env)::Bm es env:=by
 cases e<;>first|rfl|exact absurd rfl (h _ _)
def Jcs(h:∀x p,e≠ .Starred x p):Fv (e::es) env=(false,assign e env)::Fv es env:=by
 cases e<;>first|rfl|exact absurd rfl (h _ _)
theorem Ve:∀{m:M} {c:Ck} {es:List Expr} {env:Env},Vl m c es=true->(Bm es env).any (·.1)=false:=by
 intro m
 induction m with
 |nul=>intro c es env h;cases es<;>first|rfl|exact fx9 h
 |cns a b _ ihb=>
  intro c es env h;cases es with
  |nil=>exact fx9 h
  |cons e es=>
   simp only[Wfz,Al]at h;rw[Jae (noStar h.1),Fj,ihb h.2];rfl
 |_=>intro c es env h;exact fx9 h
theorem Jax(pos:Pos)(l:List (Bool×Sem Value)):(D8 pos l).any (·.1)=l.any (·.1):=by
 unfold D8;rw[O0];rfl
def Jfm(pos:Pos)(l:List (Bool×Sem Value))(h:l.any (·.1)=false):(D8 pos l).all (λx=> !x.1)=true:=by
 unfold D8;rw[Uv];rw[Ly]at h;rw[Ei];intro x hx;have:=h x hx
 simpa using this
def Yp:∀{m:M} {c:Ck} {e:Expr},Uy m c e=true->Xm e:=by
 intro m c e h o i;cases e<;>first|rfl|(exfalso;cases m<;>first|(exact fx9 h)|(rename_i d;cases d<;>exact fx9 h)|(rename_i w _;cases w<;>exact fx9 h))
def Jam{l:List String}(h:l.contains x=true):x∈l:=by simpa using h
def marks(h:Wl o e=true)(p:CmpOp):Hr p e=false:=by
 cases e<;>first|rfl|(cases o<;>exact fx9 h)
end
end Mi
namespace Mi
open PySem L2
structure Snd(C:Pr)(m:M):Prop where
 e:∀(X:Cx) (c:Ck) (x:Expr),Gd X C c->Uy m c x=true->PE X x (tE X.K C m)
 t:∀(X:Cx) (c:Ck) (x:Expr),Gd X C c->Uy m c x=true->PT X x (tT X.K C m)
 a:∀(X:Cx) (c:Ck) (x:List Expr),Gd X C c->Vl m c x=true->PA X x (tA X.K C m)
 bv:∀(X:Cx) (c:Ck) (w:Bool) (x:List Expr) (pos:Pos),Gd X C c->Vl m c x=true->PE X (.BoolOp (if w then .And else .Or) x pos) (tBV X.K C w m)
 bt:∀(X:Cx) (c:Ck) (w:Bool) (x:List Expr) (pos:Pos),Gd X C c->Vl m c x=true->PW X (.BoolOp (if w then .And else .Or) x pos) (tBT X.K C w m)
 o:∀(X:Cx) (c:Ck) (x:Option Expr),Gd X C c->Yx m c x=true->PO X x (tO X.K C m)
 cd:∀(X:Cx) (c:Ck) (x:List Expr),Gd X C c->Zu m c x=true->PTs X x (tC X.K C m)
 i:∀(X:Cx) (c:Ck) (tg x:Expr),Gd X C c->Xb m c x=true->itT m tg=true->PI X tg x (tI X.K C m)/\∀v,C5 x X.env v=pure v
 g:∀(X:Cx) (c:Ck) (x:Expr),Gd X C c->Wi m c x=true->PG X x (tG X.K C m)
 gs:∀(X:Cx) (c:Ck) (x:List Expr),Gd X C c->Wc m c x=true->PGs X x (tGs X.K C m)
 s:∀(X:Cx) (c:Ck) (x:Stmt),Gd X C c->Wh m c x=true->PS X x (tS X.K C m)
 b:∀(X:Cx) (c:Ck) (x:List Stmt),Gd X C c->V7 m c x=true->PSs X x (tB' X.K C m)
section
variable {C:Pr} {X:Cx} {c:Ck}
def Jid(h:∀U H Q,¬t U H Q):PE X e t:=λpins s U H Q _ q=>absurd q (h _ _ _)
def Jym(h:∀U H Q,¬t U H Q):PT X e t:=λpins s U H Q _ q=>absurd q (h _ _ _)
def Jyc(h:∀Z S,evE C m Z S=.bad):∀U H Q,¬tE K C m U H Q:=by
 rintro U H Q ⟨ρ,S,Z,d,S',_,_,e,_⟩;rw[h]at e;cases e
def Jya(h:∀Z S,evT C m Z S=.bad):∀U H Q,¬tT K C m U H Q:=by
 rintro U H Q ⟨ρ,S,Z,d,S',_,_,e,_⟩;rw[h]at e;cases e
def V5(h:∀a b p,e≠ .Set a b p)(v:Value):C5 e env v=pure v:=by
 cases e<;>first|rfl|exact absurd rfl (h _ _ _)
def Y6:∀{m:M} {c:Ck} {e:Expr},Uy m c e=true->∀a b p,e≠ .Set a b p:=by
 intro m c e h x q p z;subst z;cases m<;>first|(exact fx9 h)|(rename_i d;cases d<;>exact fx9 h)|(rename_i w _;cases w<;>exact fx9 h)
def Jjz{x:Expr}(h:PE X x (tE X.K C m))(he:∀whole,isTrue x X.env whole=(do let v<-whole;Mw x.pos;holding [v] (truthy v)))
  (hv:∀Z S b S',evT C m Z S=.ok b S'->∃d,evE C m Z S=.ok d S'/\tru S' d=some b):PT X x (tT X.K C m):=by
 refine PT.imp (Jnx h he) λU H Q hq_=>?_;obtain⟨ρ,S,Z,b,S',rs,re,e,fin⟩:=hq_;obtain⟨d,e1,e2⟩:=hv Z S b S' e;exact⟨ρ,S,Z,d,S',rs,re,e1,λρ' v H' f r q=>⟨b,Jku r q e2,fin ρ' H' f r⟩⟩
def Jrq(ha:Snd C a)(hb:Snd C b):∀(X:Cx) (c:Ck) (x:Expr),Gd X C c->Uy (.bin o a b) c x=true->PE X x (tE X.K C (.bin o a b)):=by
 intro X c x g h;cases x<;>try (exact fx9 h)
 replace h:=aB h
 simp only[Al,beq_iff_eq]at h;obtain⟨⟨rfl,h1⟩,h2⟩:=h;refine PE.imp (Jyq (Jxp o) (ha.e X c _ g h1) (hb.e X c _ g h2)) λU H Q hq_=>?_;obtain⟨ρ,S,Z,d,S',rs,re,e,fin⟩:=hq_;obtain⟨x1,S1,e1,e⟩:=Res.bind_eq_ok e;obtain⟨x2,S2,e2,e⟩:=Res.bind_eq_ok e;refine⟨ρ,S,Z,x1,S1,rs,re,e1,λρ1 v1 H1 f1 r1 q1=>⟨ρ1,S1,Z,x2,S2,r1,re.fut f1,e2,λρ2 v2 H2 f2 r2 q2=>?_⟩⟩;exact⟨ρ2,S2,x1,x2,d,S',r2,q1.fut f2,q2,e,λρ3 v3 H3 f3 r3 q3=>fin ρ3 v3 H3 (f1.trans (f2.trans f3)) r3 q3⟩
def Jrc(ha:Snd C a):∀(X:Cx) (c:Ck) (x:Expr),Gd X C c->Uy (.neg a) c x=true->PE X x (tE X.K C (.neg a)):=by
 intro X c x g h;cases x<;>try (exact fx9 h)
 rename_i op e pos;cases op<;>try (exact fx9 h)
 refine PE.imp (Jyo Jun (ha.e X c _ g h)) λU H Q hq_=>?_;obtain⟨ρ,S,Z,d,S',rs,re,e,fin⟩:=hq_;obtain⟨x1,S1,e1,e⟩:=Res.bind_eq_ok e;refine⟨ρ,S,Z,x1,S1,rs,re,e1,λρ1 v1 H1 f1 r1 q1=>?_⟩;cases x1<;>simp only at e<;>try (cases e;done)
 cases e;exact⟨_,q1.int_inv,fin ρ1 _ H1 f1 r1 (RelD.int _)⟩
def Jv9:MtR X "int.bit_length" (λx xs H Q=>xs=[]/\∃i,x=.int i/\Q (.int (Bx i)) H):=by
 intro pins s U H x xs v us Q I rx r hq_;obtain⟨rfl,i,rfl,q⟩:=hq_;cases r;obtain⟨t,rfl⟩:=(show∃t',v=Ds i t' from rx)
 exact PyProof.Rows.call_int_bit_length ⟨.int _,H,I.tok _,⟨_,rfl⟩,q⟩
def Jrp(ha:Snd C a):∀(X:Cx) (c:Ck) (x:Expr),Gd X C c->Uy (.bit a) c x=true->PE X x (tE X.K C (.bit a)):=by
 intro X c x g h;obtain⟨⟨e0,ap,pos,rfl,_,h2⟩,h⟩:=aO h;dsimp only at h;obtain⟨h1,h3⟩:=aB h;have hbase:attributeBase e0 (Ab "bit_length") X.env (eval e0 X.env)=eval e0 X.env:=by
  cases e0<;>first|rfl|exact fx9 h1
 refine PE.imp (Jqd PySem.F.plainAttrs_int PySem.F.slot_int_bit_length PySem.F.type_int_bit_length Jv9 (ha.e X c _ g h3) hbase h2) λU H Q hq_=>?_;obtain⟨ρ,S,Z,d,S',rs,re,e,fin⟩:=hq_;obtain⟨x1,S1,e1,e⟩:=Res.bind_eq_ok e;refine⟨ρ,S,Z,x1,S1,rs,re,e1,λρ1 v1 H1 f1 r1 q1=>?_⟩;cases x1<;>simp only at e<;>try (cases e;done)
 cases e;cases q1.int_inv;exact⟨rfl,rfl,_,rfl,fin ρ1 _ H1 f1 r1 (RelD.int _)⟩
def Jsm(ha:PE X a ta):PE X (.UnaryOp .Not a pos) (λU H Q=>ta U H λx H1=>∃k,Yy X.K x H1 k/\Q (.bl (!k)) H1):=by
 intro pins s U H Q I h;refine Rf (thn (ha pins s U H _ I h) λv s1 ⟨x,H1,I1,r1,q1⟩=>?_);obtain⟨k,hk,q⟩:=q1;refine PyProof.Rows.not_of (thn (Jpv pins s1 U H1 x v (λb H2=>Q (.bl (!b)) H2) I1 r1 ⟨k,hk,q⟩) λb s2 ⟨H2,I2,q2⟩=>?_);exact⟨.bl (!b),H2,I2,rfl,q2⟩
def Jkz(ha:Snd C a):∀(X:Cx) (c:Ck) (x:Expr),Gd X C c->Uy (.nott a) c x=true->PE X x (tE X.K C (.nott a))/\PT X x (tT X.K C (.nott a)):=by
 intro X c x g h;cases x<;>try (exact fx9 h)
 rename_i op e pos;cases op<;>try (exact fx9 h)
 constructor
 ·refine PE.imp (Jsm (ha.e X c _ g h)) λU H Q hq_=>?_;obtain⟨ρ,S,Z,d,S',rs,re,e,fin⟩:=hq_;obtain⟨x1,S1,e1,e⟩:=Res.bind_eq_ok e;refine⟨ρ,S,Z,x1,S1,rs,re,e1,λρ1 v1 H1 f1 r1 q1=>?_⟩;split at e
  ·rename_i b hb;cases e;exact⟨b,Jku r1 q1 hb,fin ρ1 _ H1 f1 r1 (RelD.bl _)⟩
  ·cases e
 ·refine PT.imp (Jvd (ha.t X c _ g h)) λU H Q hq_=>?_;obtain⟨ρ,S,Z,d,S',rs,re,e,fin⟩:=hq_;obtain⟨x1,S1,e1,e⟩:=Res.bind_eq_ok e;cases e;exact⟨ρ,S,Z,x1,_,rs,re,e1,fin⟩
def Jla(ha:Snd C a)(hb:Snd C b):∀(X:Cx) (c:Ck) (x:Expr),Gd X C c->Uy (.cmp o a b) c x=true->PE X x (tE X.K C (.cmp o a b))/\PT X x (tT X.K C (.cmp o a b)):=by
 intro X c x g h;cases x<;>try (exact fx9 h)
 rename_i l ops cs pos;rcases ops with _|⟨p,_|⟨p2,ops⟩⟩<;>rcases cs with _|⟨f,_|⟨f2,cs⟩⟩<;>try (exact fx9 h)
 replace h:=aB h
 simp only[Al,beq_iff_eq]at h;obtain⟨⟨⟨rfl,h1⟩,h2⟩,h3⟩:=h;have key:∀{ρ S Z k S' H U} {Q:VK},RelS X.K ρ S H->RelE X.K ρ H Z U->(evE C a Z S).bind (λx S1=>(evE C b Z S1).bind λy S2=>match cop o x y S2 with|some k=>(.ok (.bl k) S2:Res D)|none=>.bad)=.ok (.bl k) S'->
   FinB X.K ρ H S' (λH'=>Q (.bl k) H')->tOp (rC X.K o) (tE X.K C a) (tE X.K C b) U H Q:=λ{ρ S Z k S' H U Q} rs re e fin=>by
  obtain⟨x1,S1,e1,e⟩:=Res.bind_eq_ok e;obtain⟨x2,S2,e2,e⟩:=Res.bind_eq_ok e;refine⟨ρ,S,Z,x1,S1,rs,re,e1,λρ1 v1 H1 f1 r1 q1=>⟨ρ1,S1,Z,x2,S2,r1,re.fut f1,e2,λρ2 v2 H2 f2 r2 q2=>?_⟩⟩;split at e
  ·rename_i k' hk;cases e;exact⟨ρ2,_,x1,x2,_,r2,q1.fut f2,q2,hk,fin ρ2 H2 (f1.trans f2) r2⟩
  ·cases e
 constructor
 ·refine PE.imp (Jsp (Jfg o g.top.un g.top.np) (ha.e X c _ g h1) (hb.e X c _ g h2) (marks h3 _)) λU H Q hq_=>?_;obtain⟨ρ,S,Z,d,S',rs,re,e,fin⟩:=hq_;have hd:∃k,d=.bl k:=by
   obtain⟨x1,S1,e1,e⟩:=Res.bind_eq_ok e;obtain⟨x2,S2,e2,e⟩:=Res.bind_eq_ok e;split at e
   ·cases e;exact⟨_,rfl⟩
   ·cases e
  obtain⟨k,rfl⟩:=hd;exact key rs re e λρ' H' f r=>fin ρ' _ H' f r (RelD.bl _)
 ·refine PT.imp (Jr7 (Jfg o g.top.un g.top.np) (ha.e X c _ g h1) (hb.e X c _ g h2) (marks h3 _)) λU H Q hq_=>?_;obtain⟨ρ,S,Z,k,S',rs,re,e,fin⟩:=hq_;have e':(evE C a Z S).bind (λx S1=>(evE C b Z S1).bind λy S2=>match cop o x y S2 with|some k=>(.ok (.bl k) S2:Res D)|none=>.bad)=.ok (.bl k) S':=by
   obtain⟨x1,S1,e1,e⟩:=Res.bind_eq_ok e;obtain⟨x2,S2,e2,e⟩:=Res.bind_eq_ok e;rw[e1,Res.bind_ok,e2,Res.bind_ok];split at e
   ·rename_i hk;cases e;first|rfl|rw[hk]
   ·cases e
  exact key rs re e' λρ' H' f r=>⟨k,rfl,fin ρ' H' f r⟩
def Ji1(ha:Snd C a)(hb:Snd C b)(hd:Snd C d):∀(X:Cx) (c:Ck) (x:Expr),Gd X C c->Uy (.cmp2 o o' a b d) c x=true->PE X x (tE X.K C (.cmp2 o o' a b d))/\PT X x (tT X.K C (.cmp2 o o' a b d)):=by
 intro X c x g h;cases x<;>try (exact fx9 h)
 rename_i l ops cs pos;rcases ops with _|⟨p,_|⟨p2,_|⟨p3,ops⟩⟩⟩<;>rcases cs with _|⟨f,_|⟨f2,_|⟨f3,cs⟩⟩⟩<;>try (exact fx9 h)
 replace h:=aB h
 simp only[Al,beq_iff_eq]at h;obtain⟨⟨⟨⟨⟨⟨rfl,rfl⟩,h1⟩,h2⟩,h3⟩,h4⟩,h5⟩:=h;have hm:lastMarks [Wu o,Wu o'] [f,f2]=false:=by
  show Hr (Wu o') f2=false;exact marks h5 _
 have key:∀{ρ S Z k S' H U} {Q:VK},RelS X.K ρ S H->RelE X.K ρ H Z U->evE C (.cmp2 o o' a b d) Z S=.ok (.bl k) S'->
   FinB X.K ρ H S' (λH'=>Q (.bl k) H')->Xd (rC X.K o) (rC X.K o') (tE X.K C a) (tE X.K C b) (tE X.K C d) U H Q:=λ{ρ S Z k S' H U Q} rs re e fin=>by
  obtain⟨x1,S1,e1,e⟩:=Res.bind_eq_ok e;obtain⟨x2,S2,e2,e⟩:=Res.bind_eq_ok e;refine⟨ρ,S,Z,x1,S1,rs,re,e1,λρ1 v1 H1 f1 r1 q1=>⟨ρ1,S1,Z,x2,S2,r1,re.fut f1,e2,λρ2 v2 H2 f2 r2 q2=>?_⟩⟩;split at e
  ·rename_i hk;obtain⟨x3,S3,e3,e⟩:=Res.bind_eq_ok e;refine⟨ρ2,S2,x1,x2,true,r2,q1.fut f2,q2,hk,true,rfl,?_⟩;rw[if_pos rfl];refine⟨ρ2,S2,Z,x3,S3,r2,re.fut (f1.trans f2),e3,λρ3 v3 H3 f3 r3 q3=>?_⟩;split at e
   ·rename_i k' hk';cases e;exact⟨ρ3,_,x2,x3,_,r3,q2.fut f3,q3,hk',fin ρ3 H3 (f1.trans (f2.trans f3)) r3⟩
   ·cases e
  ·rename_i hk;cases e;refine⟨ρ2,_,x1,x2,false,r2,q1.fut f2,q2,hk,false,rfl,?_⟩;rw[if_neg Az];exact fin ρ2 H2 (f1.trans f2) r2
  ·cases e
 constructor
 ·refine PE.imp (Jod (Jfg o g.top.un g.top.np) (Jfg o' g.top.un g.top.np) (ha.e X c _ g h1) (hb.e X c _ g h2) (hd.e X c _ g h3) hm) λU H Q hq_=>?_;obtain⟨ρ,S,Z,d',S',rs,re,e,fin⟩:=hq_;have hd:∃k,d'=.bl k:=by
   obtain⟨x1,S1,e1,e⟩:=Res.bind_eq_ok e;obtain⟨x2,S2,e2,e⟩:=Res.bind_eq_ok e;split at e
   ·obtain⟨x3,S3,e3,e⟩:=Res.bind_eq_ok e;split at e
    ·cases e;exact⟨_,rfl⟩
    ·cases e
   ·cases e;exact⟨_,rfl⟩
   ·cases e
  obtain⟨k,rfl⟩:=hd;exact key rs re e λρ' H' f r=>fin ρ' _ H' f r (RelD.bl _)
 ·refine PT.imp (Jny (Jfg o g.top.un g.top.np) (Jfg o' g.top.un g.top.np) (ha.e X c _ g h1) (hb.e X c _ g h2) (hd.e X c _ g h3) hm) λU H Q hq_=>?_;obtain⟨ρ,S,Z,k,S',rs,re,e,fin⟩:=hq_;have e':evE C (.cmp2 o o' a b d) Z S=.ok (.bl k) S':=by
   show Res.bind _ _=_;obtain⟨x1,S1,e1,e⟩:=Res.bind_eq_ok e;obtain⟨x2,S2,e2,e⟩:=Res.bind_eq_ok e;rw[e1,Res.bind_ok,e2,Res.bind_ok];split at e
   ·rename_i hk
    try rw[hk]
    obtain⟨x3,S3,e3,e⟩:=Res.bind_eq_ok e;rw[e3,Res.bind_ok];split at e
    ·rename_i hk';cases e;first|rfl|rw[hk']
    ·cases e
   ·rename_i hk;cases e;first|rfl|rw[hk]
   ·cases e
  exact key rs re e' λρ' H' f r=>⟨k,rfl,fin ρ' H' f r⟩
end
section
variable {C:Pr}
theorem Jrg(ht:Snd C t)(ha:Snd C a)(hb:Snd C b):∀(X:Cx) (c:Ck) (x:Expr),Gd X C c->Uy (.ife t a b) c x=true->PE X x (tE X.K C (.ife t a b)):=by
 intro X c x g h;cases x<;>try (exact fx9 h)
 replace h:=aB h
 simp only[Al]at h;refine PE.imp (Jn8 (ht.t X c _ g h.1.1) (ha.e X c _ g h.1.2) (hb.e X c _ g h.2)) λU H Q hq_=>?_;obtain⟨ρ,S,Z,d,S',rs,re,e,fin⟩:=hq_;obtain⟨k,S1,e1,e⟩:=Res.bind_eq_ok e;refine⟨ρ,S,Z,k,S1,rs,re,e1,λρ1 H1 f1 r1=>?_⟩;cases k with
 |true=>rw[if_pos rfl];exact⟨ρ1,S1,Z,d,S',r1,re.fut f1,e,λρ2 v2 H2 f2=>fin ρ2 v2 H2 (f1.trans f2)⟩
 |false=>rw[if_neg Az];exact⟨ρ1,S1,Z,d,S',r1,re.fut f1,e,λρ2 v2 H2 f2=>fin ρ2 v2 H2 (f1.trans f2)⟩
def Jq6(ha:Snd C as):∀(X:Cx) (c:Ck) (x:Expr),Gd X C c->Uy (.tup as) c x=true->PE X x (tE X.K C (.tup as)):=by
 intro X c x g h;cases x<;>try (exact fx9 h)
 refine PE.imp (Jvo (ha.a X c _ g h)) λU H Q hq_=>?_;obtain⟨ρ,S,Z,d,S',rs,re,e,fin⟩:=hq_;obtain⟨ds,S1,e1,e⟩:=Res.bind_eq_ok e;refine⟨ρ,S,Z,ds,S1,rs,re,e1,λρ1 vs H1 f1 r1 q1=>?_⟩;split at e
 ·rename_i hl;cases e;exact⟨by rw[<-q1.length,<-Jbb];exact hl,Fin.newT (ρ:=ρ1) (λρ2 v2 H2 f2=>fin ρ2 v2 H2 (f1.trans f2)) r1 q1⟩
 ·cases e
def Jrd(ha:Snd C as):∀(X:Cx) (c:Ck) (x:Expr),Gd X C c->Uy (.lst as) c x=true->PE X x (tE X.K C (.lst as)):=by
 intro X c x g h;cases x<;>try (exact fx9 h)
 refine PE.imp (Jvs (ha.a X c _ g h)) λU H Q hq_=>?_;obtain⟨ρ,S,Z,d,S',rs,re,e,fin⟩:=hq_;obtain⟨ds,S1,e1,e⟩:=Res.bind_eq_ok e;refine⟨ρ,S,Z,ds,S1,rs,re,e1,λρ1 vs H1 f1 r1 q1=>?_⟩;split at e
 ·rename_i hl;cases e;exact⟨by rw[<-q1.length,<-Jbb];exact hl,Fin.newL (ρ:=ρ1) (λρ2 v2 H2 f2=>fin ρ2 v2 H2 (f1.trans f2)) r1 q1⟩
 ·cases e
def Jk2(ha:Snd C a)(hb:Snd C b):∀(X:Cx) (c:Ck) (x:Expr),Gd X C c->Uy (.idx a b) c x=true->PE X x (tE X.K C (.idx a b))/\PT X x (tT X.K C (.idx a b)):=by
 intro X c x g h;cases x<;>try (exact fx9 h)
 rename_i vx sx px
 replace h:=aB h
 have pe:PE X (.Subscript vx sx px) (tE X.K C (.idx a b)):=by
  refine PE.imp (Jyr (Jwz (Fh (Ht (by decide:2<=64) _) g.top.un) g.top.np) (ha.e X c _ g h.1) (hb.e X c _ g h.2) (Yp h.2)) λU H Q hq_=>?_;obtain⟨ρ,S,Z,d,S',rs,re,e,fin⟩:=hq_;obtain⟨x1,S1,e1,e⟩:=Res.bind_eq_ok e;obtain⟨x2,S2,e2,e⟩:=Res.bind_eq_ok e;refine⟨ρ,S,Z,x1,S1,rs,re,e1,λρ1 v1 H1 f1 r1 q1=>⟨ρ1,S1,Z,x2,S2,r1,re.fut f1,e2,λρ2 v2 H2 f2 r2 q2=>?_⟩⟩;split at e
  ·rename_i d' hd;cases e;exact⟨ρ2,_,x1,x2,d,r2,q1.fut f2,q2,hd,λρ3 v3 H3 f3 r3 q3=>fin ρ3 v3 H3 (f1.trans (f2.trans f3)) r3 q3⟩
  ·cases e
 refine⟨pe,Jjz pe (λ_=>rfl) λZ S b S' e=>?_⟩;obtain⟨x1,S1,e1,e⟩:=Res.bind_eq_ok e;obtain⟨x2,S2,e2,e⟩:=Res.bind_eq_ok e;split at e
 ·rename_i d hd;split at e
  ·rename_i k hk;cases e;exact⟨d,Res.bnd e1 (Res.bnd e2 (by rw[hd])),hk⟩
  ·cases e
 ·cases e
def Jq7(ha:Snd C a)(hl:Snd C l)(hu:Snd C u):∀(X:Cx) (c:Ck) (x:Expr),Gd X C c->Uy (.sli a l u) c x=true->PE X x (tE X.K C (.sli a l u)):=by
 intro X c x g h;cases x<;>try (exact fx9 h)
 rename_i e0 sl pos;cases sl<;>try (exact fx9 h)
 rename_i lo up st p2;cases st<;>try (exact fx9 h)
 replace h:=aB h
 simp only[Al]at h;refine PE.imp (Jn5 Juw (ha.e X c _ g h.1.1) (hl.o X c _ g h.1.2) (hu.o X c _ g h.2)) λU H Q hq_=>?_;obtain⟨ρ,S,Z,d,S',rs,re,e,fin⟩:=hq_;obtain⟨x1,S1,e1,e⟩:=Res.bind_eq_ok e;obtain⟨x2,S2,e2,e⟩:=Res.bind_eq_ok e;obtain⟨x3,S3,e3,e⟩:=Res.bind_eq_ok e;refine⟨ρ,S,Z,x1,S1,rs,re,e1,λρ1 v1 H1 f1 r1 q1=>⟨ρ1,S1,Z,x2,S2,r1,re.fut f1,e2,λρ2 H2 f2 r2=>⟨ρ2,S2,Z,x3,S3,r2,re.fut (f1.trans f2),e3,λρ3 H3 f3 r3=>?_⟩⟩⟩;exact⟨ρ3,S3,x1,d,S',r3,q1.fut (f2.trans f3),e,λρ4 v4 H4 f4 r4 q4=>fin ρ4 v4 H4 (f1.trans (f2.trans (f3.trans f4))) r4 q4⟩
def Ji2(ha:Snd C as):∀(X:Cx) (c:Ck) (x:Expr),Gd X C c->Uy (.call f as) c x=true->PE X x (tE X.K C (.call f as))/\PT X x (tT X.K C (.call f as)):=by
 intro X c x g h;obtain⟨⟨⟨y,p,es,pos⟩,rfl⟩,h⟩:=aO h;dsimp only at h ⊢;simp only[Al,beq_iff_eq]at h;obtain⟨⟨⟨⟨rfl,h1⟩,h2⟩,h3⟩,h4⟩:=h;obtain⟨k,a,fd,ps,hr,hm,F,hb,hk⟩:=g.top.fns f (Jam h3);have pe:PE X (.Call (.Name (Ab f) p) es [] pos) (tE X.K C (.call f as)):=by
  have rd:∀{t:TA},(∀U H Q,tA X.K C as U H Q->t U H Q)->∀U H Q,tE X.K C (.call f as) U H Q->X0 (spM X.K C f) [] E0 t U H Q:=λht U H Q ⟨ρ,S,Z,d,S',rs,re,e,fin⟩=>by
   obtain⟨ds,S1,e1,e⟩:=Res.bind_eq_ok e;refine ht U H _ ⟨ρ,S,Z,ds,S1,rs,re,e1,λρ1 vs H1 f1 r1 q1=>?_⟩;show spM X.K C f (vs++[]) H1 Q E0;rw[Gn];exact⟨ρ1,S1,ds,d,S',r1,q1,e,λρ2 v2 H2 f2 r2 q2=>fin ρ2 v2 H2 (f1.trans f2) r2 q2⟩
  cases es with
  |nil=>
   refine PE.imp (Joe F hr (g.glo h1) hm hk hb .nil Jlr (Xr h2)) (rd λU H Q ⟨ρ,S,Z,ds,S',rs,re,e,fin⟩=>?_);cases as<;>try (exact fx9 h4)
   cases e;exact fin ρ [] H Fut.refl rs RelDs.nil
  |cons e es=>
   cases as<;>try (exact fx9 h4)
   have h4':=h4
   replace h4:=aB h4
   refine PE.imp (Jsq F hr (g.glo h1) hm hk hb .nil Jlr (ha.a X c _ g h4') (Xr h2) (Jae (noStar h4.1)) (by rw[Jax];exact Ve h4.2)) (rd λU H Q z=>z)
 refine⟨pe,Jjz pe (λ_=>rfl) λZ S b S' e=>?_⟩;obtain⟨ds,S1,e1,e⟩:=Res.bind_eq_ok e;obtain⟨d,S2,e2,e⟩:=Res.bind_eq_ok e;split at e
 ·rename_i k hk;cases e;exact⟨d,Res.bnd e1 e2,hk⟩
 ·cases e
def Ji0(ha:Snd C as):∀(X:Cx) (c:Ck) (x:Expr),Gd X C c->Uy (.prim p as) c x=true->PE X x (tE X.K C (.prim p as))/\PT X x (tT X.K C (.prim p as)):=by
 intro X c x g h;cases x<;>try (exact fx9 h)
 rename_i fn es kws pos;cases fn<;>try (exact fx9 h)
 rename_i y pp;cases kws<;>cases es<;>try (exact fx9 h)
 rename_i e0 es
 replace h:=aB h
 simp only[Al,beq_iff_eq]at h;obtain⟨⟨⟨rfl,h1⟩,h2⟩,h3⟩:=h;have hm:=g.top.blt _ (Jam h2);have hs:(∀x p,e0≠ .Starred x p)/\(Bm es X.env).any (·.1)=false:=by
  cases as<;>try (exact fx9 h3)
  replace h3:=aB h3
  exact⟨noStar h3.1,Ve h3.2⟩
 have rd:∀U H Q,tE X.K C (.prim p as) U H Q->tCB (rP X.K p) (tA X.K C as) U H Q:=λU H Q ⟨ρ,S,Z,d,S',rs,re,e,fin⟩=>by
  obtain⟨ds,S1,e1,e⟩:=Res.bind_eq_ok e;refine⟨ρ,S,Z,ds,S1,rs,re,e1,λρ1 vs H1 f1 r1 q1=>?_⟩;exact⟨ρ1,S1,ds,d,S',r1,q1,e,λρ2 v2 H2 f2 r2 q2=>fin ρ2 v2 H2 (f1.trans f2) r2 q2⟩
 have pe:PE X (.Call (.Name (Ab (Vv p)) pp) (e0::es) [] pos) (tE X.K C (.prim p as)):=by
  have hp:=Jsb (X:=X) p g.calm;have hb:=Jm4 p;unfold W0 at hp hb
  by_cases ht:X2 p=true
  ·rw[if_pos ht]at hp hb;exact PE.imp (Jlp hp (g.glo h1) hm hb (ha.a X c _ g h3) (Jg5 p) (Jff p) (Jae hs.1) (by rw[Jax];exact hs.2)) rd
  ·rw[if_neg ht]at hp hb;exact PE.imp (Ji6 hp (g.glo h1) hm hb (ha.a X c _ g h3) (Jg5 p) (Jff p) (Jae hs.1) (by rw[Jax];exact hs.2)) rd
 refine⟨pe,Jjz pe (λ_=>rfl) λZ S b S' e=>?_⟩;obtain⟨ds,S1,e1,e⟩:=Res.bind_eq_ok e;obtain⟨d,S2,e2,e⟩:=Res.bind_eq_ok e;split at e
 ·rename_i k hk;cases e;exact⟨d,Res.bnd e1 e2,hk⟩
 ·cases e
def Jty:∀t∈clNames,Df (Ab t)=some (.type t)/\Ab t≠"__name__"/\(Ab t==("__debug__":Str))=false:=by
 intro t ht;simp only[clNames,An,Bc,or_false]at ht;rcases ht with rfl|rfl|rfl|rfl<;>exact⟨by kernel_rfl,by decide+kernel,by decide+kernel⟩
def Jk1(ha:Snd C a):∀(X:Cx) (c:Ck) (x:Expr),Gd X C c->Uy (.isi a t) c x=true->PE X x (tE X.K C (.isi a t))/\PT X x (tT X.K C (.isi a t)):=by
 intro X c x g h;obtain⟨⟨⟨e0,y⟩,pp,p2,pos,rfl⟩,h⟩:=aO h;dsimp only at h ⊢;simp only[Al,beq_iff_eq]at h;obtain⟨⟨⟨⟨⟨⟨rfl,h1⟩,h2⟩,h3⟩,h4⟩,h5⟩,h6⟩:=h;have ht:t∈clNames:=by simpa using h5
 obtain⟨b1,b2,b3⟩:=Jty t ht;have py:PE X (.Name (Ab t) p2) (L2.tC (.ty t)):=Jsr (g.glo h2) (g.top.blt _ (Jam h4)) b1 rfl b2 b3;have pa:PA X [e0,.Name (Ab t) p2] (Xy (tE X.K C a) (Xy (L2.tC (.ty t)) Xw)):=Jbv (ha.e X c _ g h6) (Jbv py Je8) (Jae (noStar h6));have pe:PE X (.Call (.Name (Ab "isinstance") pp) [e0,.Name (Ab t) p2] [] pos) (tE X.K C (.isi a t)):=by
  refine PE.imp (Ji6 (Jws ht) (g.glo h1) (g.top.blt _ (Jam h3)) (by kernel_rfl) pa (by decide+kernel) (by decide+kernel) (Jae (noStar h6)) (by rw[Jax];rfl)) λU H Q hq_=>?_;obtain⟨ρ,S,Z,d,S',rs,re,e,fin⟩:=hq_;obtain⟨x1,S1,e1,e⟩:=Res.bind_eq_ok e;refine⟨ρ,S,Z,x1,S1,rs,re,e1,λρ1 v1 H1 f1 r1 q1=>?_⟩;split at e
  ·rename_i ty hy;cases e;exact⟨ρ1,_,x1,v1,ty,r1,rfl,q1,hy,fin ρ1 _ H1 f1 r1 (RelD.bl _)⟩
  ·cases e
 refine⟨pe,Jjz pe (λ_=>rfl) λZ S b S' e=>?_⟩;obtain⟨x1,S1,e1,e⟩:=Res.bind_eq_ok e;split at e
 ·rename_i ty hy;cases e;exact⟨_,Res.bnd e1 (by rw[hy]),rfl⟩
 ·cases e
def Jlq{X:Cx}{T id:String}{name:Str}{o e:Expr}{es:List Expr}{apos cpos:Pos}{to:TE}{t:TA}{r:V->List V->Hp->VK->Prop}{tp:V->Hp->Prop}
  (hT:∀pins s U H x v,Inv X pins U H s->RelV x v->tp x H->s.TypeIs v T/\∀a,v=.ref a->∃ob,s.heap.get? a=some ob/\ob.dict=none)
  (pa:Tx T)(slot:Slot T name id)(hty:Tj (.builtin id)=pure (.type "method_descriptor"))(hm:MtR X id r)(ho:PE X o to)(ha:PA X (e::es) t)
  (hbase:attributeBase o name X.env (eval o X.env)=eval o X.env)
  (hfew:((D8 cpos (Bm (e::es) X.env)).all (λx=> !x.1)&&(Jj cpos (Gf [] X.env)).all (λx=>x.1.isSome)
   &&decide ((e::es).length+([]:List Jv).length+(if([]:List Jv).isEmpty then 0 else 1)<30))=true)
  (hline:(apos.endLine==cpos.line)=true)(hs:Bm (e::es) X.env=(false,eval e X.env)::Bm es X.env)(hplain:(D8 cpos (Bm es X.env)).any (·.1)=false):
  PE X (.Call (.Attribute o name apos) (e::es) [] cpos) (λU H Q=>to U H λx H1=>tp x H1/\t U H1 λxs H2=>r x xs H2 Q):=by
 intro pins s U H Q I h;refine Qr hbase hfew hline rfl (thn (ho pins s U H _ I h) λv s1 ⟨x,H1,I1,r1,ty,q1⟩=>?_);obtain⟨h1,h2⟩:=hT pins s1 U H1 x v I1 r1 ty;refine⟨T,id,pa,slot,hty,h1,h2,?_⟩;have hA:=ha cpos pins s1 U H1 _ I1 q1;rw[hs]at hA ⊢;refine Fb (by show(false||(D8 cpos (Bm es X.env)).any (·.1))=false;rw[hplain]<;>rfl) (Pd ?_);exact thn hA λus s2 ⟨vs,H2,I2,r2,q2⟩=>hm pins s2 U H2 x vs v us Q I2 r1 r2 q2
def Jc3(h:Vl as c (e::es)=true):∃a b,as=.cns a b:=by
 cases as<;>first|exact⟨_,_,rfl⟩|exact fx9 h
def Jd1(h:Vl as c []=true):as=.nul:=by
 cases as<;>first|rfl|exact fx9 h
theorem Jnm(ho:Snd C o)(ha:Snd C as):∀(X:Cx) (c:Ck) (x:Expr),Gd X C c->Uy (.meth p o as) c x=true->PE X x (tE X.K C (.meth p o as)):=by
 intro X c x g h;cases x<;>try (exact fx9 h)
 rename_i fn es kws pos;cases fn<;>try (exact fx9 h)
 rename_i e0 y ap;cases kws<;>try (exact fx9 h)
 replace h:=aB h
 simp only[Al,beq_iff_eq,decide_eq_true_eq]at h;obtain⟨⟨⟨⟨⟨⟨rfl,h1⟩,h2⟩,h3⟩,h4⟩,h5⟩,h6⟩:=h;have hbase:∀nm,attributeBase e0 nm X.env (eval e0 X.env)=eval e0 X.env:=λnm=>by
  cases e0<;>try rfl
  rename_i f0 a0 k0 p0;cases f0<;>try rfl
  cases a0<;>try rfl
  cases k0<;>try rfl
  exact fx9 h1
 have hline:(ap.endLine==pos.line)=true:=by simpa using h2
 have few:∀{e1:Expr} {es':List Expr},es=e1::es'->Vl as c (e1::es')=true->((D8 pos (Bm (e1::es') X.env)).all (λx=> !x.1)&&(Jj pos (Gf [] X.env)).all (λx=>x.1.isSome)&&decide ((e1::es').length+([]:List Jv).length+(if([]:List Jv).isEmpty then 0 else 1)<30))=true:=λ{e1 es'} ee h5'=>by
  subst ee;rw[Jfm _ _ (Ve (env:=X.env) h5')];simp only[K9,Al,decide_eq_true_eq];exact⟨rfl,by simp only[Et,List.isEmpty_nil,if_true];lia⟩
 have rd:(p≠ .get2/\p≠ .indexT/\isDm p=false)->∀{t:TA},(∀U H Q,tA X.K C as U H Q->t U H Q)->∀U H Q,tE X.K C (.meth p o as) U H Q->(tE X.K C o U H λx H1=>tyV X.K "list" x H1/\t U H1 λxs H2=>rM X.K p x xs H2 Q):=λhp {t} ht U H Q ⟨ρ,S,Z,d,S',rs,re,e,fin⟩=>by
  obtain⟨x1,S1,e1,e⟩:=Res.bind_eq_ok e;split at e<;>try (exact absurd e Jaa)
  rename_i hrc;obtain⟨ds,S2,e2,e⟩:=Res.bind_eq_ok e;refine⟨ρ,S,Z,x1,S1,rs,re,e1,λρ1 v1 H1 f1 r1 q1=>⟨?_,ht U H1 _ ⟨ρ1,S1,Z,ds,S2,r1,re.fut f1,e2,λρ2 vs H2 f2 r2 q2=>?_⟩⟩⟩
  ·have hl:∃l,x1=.loc l:=by
    cases p<;>first|(exact absurd rfl hp.1)|(exact absurd rfl hp.2.1)|(cases x1<;>first|exact⟨_,rfl⟩|exact absurd e Jaa|(rcases ds with _|⟨y,_|⟨z,ds⟩⟩<;>exact absurd e Jaa))
   obtain⟨l,rfl⟩:=hl;obtain⟨es,he⟩:=B9.mp (show(seqAt S1 l).isSome=true by simpa [rcv,hp.2.2]using hrc);obtain⟨p,xs,rfl,hl,hx,t⟩:=r1.lst q1 (Jan he);exact .inl ⟨rfl,xs,SqL.of hx⟩
  ·exact⟨ρ2,S2,x1,ds,d,S',r2,q1.fut f2,q2,e,λρ3 v3 H3 f3 r3 q3=>fin ρ3 v3 H3 (f1.trans (f2.trans f3)) r3 q3⟩
 have run:(p≠ .get2/\p≠ .indexT/\isDm p=false)->∀(slot:Slot "list" (Ab (Wp p)) (Wq p)) (hty:Tj (.builtin (Wq p))=pure (.type "method_descriptor")),PE X (.Call (.Attribute e0 (Ab (Wp p)) ap) es [] pos) (tE X.K C (.meth p o as)):=λhp slot hty=>by
  cases es with
  |nil=>
   refine PE.imp (Jqd M9 slot hty (Jd9 p g.top.un g.top.np) (ho.e X c _ g h4) (hbase _) hline) λU H Q z=>rd hp (t:=λ_ H Q=>Q [] H) (λU H Q ⟨ρ,S,Z,ds,S',rs,re,e,fin⟩=>?_) U H Q z;obtain rfl:=Jd1 h5;cases e;exact fin ρ [] H Fut.refl rs RelDs.nil
  |cons e1 es=>
   obtain⟨a0,b0,rfl⟩:=Jc3 h5;have h5':=h5
   replace h5:=aB h5
   exact PE.imp (Jys M9 slot hty (Jd9 p g.top.un g.top.np) (ho.e X c _ g h4) (ha.a X c _ g h5') (hbase _) (few rfl h5') hline (Jae (noStar h5.1)) (by rw[Jax];exact Ve h5.2)) (rd hp λU H Q z=>z)
 have rund:isDm p=true->∀(slot:Slot "dict" (Ab (Wp p)) (Wq p)) (hty:Tj (.builtin (Wq p))=pure (.type "method_descriptor")),PE X (.Call (.Attribute e0 (Ab (Wp p)) ap) es [] pos) (tE X.K C (.meth p o as)):=λhp slot hty=>by
  cases es with
  |nil=>
   refine Jid λU H Q hq_=>?_;obtain⟨ρ,S,Z,d,S',rs,re,e,fin⟩:=hq_;obtain rfl:=Jd1 h5;obtain⟨x1,S1,e1,e⟩:=Res.bind_eq_ok e;split at e<;>try (exact absurd e Jaa)
   cases p<;>first|(cases hp;done)|(cases x1<;>exact absurd e Jaa)
  |cons e1 es=>
   obtain⟨a0,b0,rfl⟩:=Jc3 h5;have h5':=h5
   replace h5:=aB h5
   refine PE.imp (Jlq (T:="dict") (tp:=λx H=>∃a,x=.ref a/\IsD H a) (λpins s U H x v I r ⟨a,hx,q⟩=>?_) Gi slot hty (Jd9 p g.top.un g.top.np) (ho.e X c _ g h4) (ha.a X c _ g h5') (hbase _) (few rfl h5') hline (Jae (noStar h5.1)) (by rw[Jax];exact Ve h5.2)) λU H Q ⟨ρ,S,Z,d,S',rs,re,e,fin⟩=>?_
   ·subst hx;cases r;obtain⟨z1,z2,_⟩:=Jma I q;exact⟨z1,z2⟩
   ·obtain⟨x1,S1,e1,e⟩:=Res.bind_eq_ok e;split at e<;>try (exact absurd e Jaa)
    rename_i hrc;obtain⟨ds,S2,e2,e⟩:=Res.bind_eq_ok e;refine⟨ρ,S,Z,x1,S1,rs,re,e1,λρ1 v1 H1 f1 r1 q1=>⟨?_,ρ1,S1,Z,ds,S2,r1,re.fut f1,e2,λρ2 vs H2 f2 r2 q2=>?_⟩⟩
    ·cases x1<;>simp only[rcv,hp]at hrc<;>try (cases hrc;done)
     simp only[if_true,Hm]at hrc;rcases hrc with z|z
     ·obtain⟨kvs,hk⟩:=B9.mp z;obtain⟨a,ws,rfl,_,ea,_⟩:=r1.dct q1 (Jeq hk);exact⟨a,rfl,.inl ⟨ws,.inl ea⟩⟩
     ·obtain⟨kvs,hk⟩:=B9.mp z;obtain⟨a,ws,rfl,_,ea,_⟩:=r1.dtu q1 (Jbr hk);exact⟨a,rfl,.inr ⟨ws,.inl ea⟩⟩
    ·exact⟨ρ2,S2,x1,ds,d,S',r2,q1.fut f2,q2,e,λρ3 v3 H3 f3 r3 q3=>fin ρ3 v3 H3 (f1.trans (f2.trans f3)) r3 q3⟩
 cases p with
 |append=>exact run ⟨nofun,nofun,rfl⟩ Pb PySem.F.type_list_append
 |pop0=>exact run ⟨nofun,nofun,rfl⟩ Qh PySem.F.type_list_pop
 |get1=>exact rund rfl Gy N5
 |pop1=>exact rund rfl N6 PySem.F.type_dict_pop
 |get2=>
  cases es with
  |nil=>
   refine Jid λU H Q hq_=>?_;obtain⟨ρ,S,Z,d,S',rs,re,e,fin⟩:=hq_;obtain rfl:=Jd1 h5;obtain⟨x1,S1,e1,e⟩:=Res.bind_eq_ok e;split at e<;>try (exact absurd e Jaa)
   cases x1<;>exact absurd e Jaa
  |cons e1 es=>
   obtain⟨a0,b0,rfl⟩:=Jc3 h5;have h5':=h5
   replace h5:=aB h5
   refine PE.imp (Jlq (T:="dict") (tp:=λx H=>∃ρ kvs,RelD X.K ρ H (.kd kvs) x) (λpins s U H x v I r ⟨ρ,kvs,q⟩=>?_) Gi Gy N5 (Jd9 .get2 g.top.un g.top.np) (ho.e X c _ g h4) (ha.a X c _ g h5') (hbase _) (few rfl h5') hline (Jae (noStar h5.1)) (by rw[Jax];exact Ve h5.2)) λU H Q ⟨ρ,S,Z,d,S',rs,re,e,fin⟩=>?_
   ·obtain⟨a,rfl,kd⟩:=q.kd_inv;cases r;obtain⟨ob,hob,hx⟩:=kd.obj I.kIn;exact⟨⟨ob,hob,hx.1⟩,λa' e=>by cases e;exact⟨ob,hob,hx.2.1⟩⟩
   ·obtain⟨x1,S1,e1,e⟩:=Res.bind_eq_ok e;split at e<;>try (exact absurd e Jaa)
    obtain⟨ds,S2,e2,e⟩:=Res.bind_eq_ok e;have hk:∃kvs,x1=.kd kvs:=by
     cases x1<;>first|exact⟨_,rfl⟩|exact absurd e Jaa|(rcases ds with _|⟨y,_|⟨z,ds⟩⟩<;>exact absurd e Jaa)
    obtain⟨kvs,rfl⟩:=hk;refine⟨ρ,S,Z,_,S1,rs,re,e1,λρ1 v1 H1 f1 r1 q1=>⟨⟨ρ1,kvs,q1⟩,⟨ρ1,S1,Z,ds,S2,r1,re.fut f1,e2,λρ2 vs H2 f2 r2 q2=>?_⟩⟩⟩;exact⟨ρ2,S2,_,ds,d,S',r2,q1.fut f2,q2,e,λρ3 v3 H3 f3 r3 q3=>fin ρ3 v3 H3 (f1.trans (f2.trans f3)) r3 q3⟩
 |indexT=>
  cases o<;>try (exact fx9 h6)
  rename_i gx;cases e0<;>try (exact fx9 h4)
  rename_i y0 p0
  replace h4:=aB h4
  simp only[Al,beq_iff_eq]at h4;obtain⟨⟨rfl,k2⟩,k3⟩:=h4;cases eg:C.glob gx with
  |none=>
   refine Jid λU H Q hq_=>?_;obtain⟨ρ,S,Z,d,S',rs,re,e,fin⟩:=hq_;simp only[Jfu,Je7,eg]at e;cases e
  |some dg=>
   cases es with
   |nil=>
    refine Jid λU H Q hq_=>?_;obtain⟨ρ,S,Z,d,S',rs,re,e,fin⟩:=hq_;obtain rfl:=Jd1 h5;simp only[Jfu,Je7,Ju5,eg,Res.bind_ok]at e;split at e<;>try (exact absurd e Jaa)
    cases dg<;>exact absurd e Jaa
   |cons e1 es=>
    obtain⟨a0,b0,rfl⟩:=Jc3 h5;have h5':=h5
    replace h5:=aB h5
    obtain⟨v,u,hm,r,hr,ht⟩:=g.top.gl gx dg eg
    by_cases hd:∃ds,dg=.tup ds
    ·obtain⟨gs,rfl⟩:=hd;obtain⟨a,ob,rfl,hk,hc,hdd⟩:=ht gs rfl;refine PE.imp (Jlq (T:="tuple") (tp:=λx H=>x=.ref a) (λpins s U H x v I r e=>?_) PySem.F.plainAttrs_tuple M1 PySem.F.type_tuple_index (Jd9 .indexT g.top.un g.top.np) (Jln (g.glo k2) hm r (Xr k3)) (ha.a X c _ g h5') rfl (few rfl h5') hline (Jae (noStar h5.1)) (by rw[Jax];exact Ve h5.2)) λU H Q ⟨ρ,S,Z,d,S',rs,re,e,fin⟩=>?_
     ·subst e;cases r;exact⟨⟨ob,I.kIn a ob hk,hc⟩,λa' e=>by cases e;exact⟨ob,I.kIn a ob hk,hdd⟩⟩
     ·simp only[Jfu,Je7,eg,Res.bind_ok]at e;split at e<;>try (exact absurd e Jaa)
      obtain⟨ds,S2,e2,e⟩:=Res.bind_eq_ok e;refine⟨rfl,ρ,S,Z,ds,S2,rs,re,e2,λρ2 vs H2 f2 r2 q2=>?_⟩;exact⟨ρ2,S2,_,ds,d,S',r2,hr ρ2 H2,q2,e,λρ3 v3 H3 f3 r3 q3=>fin ρ3 v3 H3 (f2.trans f3) r3 q3⟩
    ·refine Jid λU H Q hq_=>?_;obtain⟨ρ,S,Z,d,S',rs,re,e,fin⟩:=hq_;simp only[Jfu,Je7,eg,Res.bind_ok]at e;split at e<;>try (exact absurd e Jaa)
     obtain⟨ds,S2,e2,e⟩:=Res.bind_eq_ok e;cases dg<;>first|(exact absurd ⟨_,rfl⟩ hd)|exact absurd e Jaa|(rcases ds with _|⟨y,_|⟨z,ds⟩⟩<;>exact absurd e Jaa)
end
section
variable {C:Pr}
def Jrn:∀(X:Cx) (c:Ck) (x:Expr),Gd X C c->Uy (.cst d) c x=true->PE X x (tE X.K C (.cst d)):=by
 intro X c x g h;obtain⟨⟨k,_,_,rfl⟩,h⟩:=aO h;cases d<;>cases eq_of_beq h
 ·refine PE.imp Jvr λU H Q hq_=>?_;obtain⟨ρ,S,Z,d,S',rs,re,e,fin⟩:=hq_;cases e;exact fin.now rs RelD.non
 ·refine PE.imp Jyt λU H Q hq_=>?_;obtain⟨ρ,S,Z,d,S',rs,re,e,fin⟩:=hq_;cases e;exact fin.now rs (RelD.bl _)
 ·refine PE.imp Jvt λU H Q hq_=>?_;obtain⟨ρ,S,Z,d,S',rs,re,e,fin⟩:=hq_;cases e;exact fin.now rs (RelD.int _)
 ·refine PE.imp Jvp λU H Q hq_=>?_;obtain⟨ρ,S,Z,d,S',rs,re,e,fin⟩:=hq_;cases e;exact fin.now rs (RelD.str _)
def Jkx:∀(X:Cx) (c:Ck) (x:Expr),Gd X C c->Uy (.var i) c x=true->PE X x (tE X.K C (.var i))/\PT X x (tT X.K C (.var i)):=by
 intro X c x g h;cases x<;>try (exact fx9 h)
 rename_i y p
 replace h:=aB h
 simp only[Al,beq_iff_eq]at h;obtain⟨⟨h1,h2⟩,h3⟩:=h;have pe:PE X (.Name y p) (tE X.K C (.var i)):=by
  refine PE.imp (Jvn (i:=i) (by rw[g.N];exact h1) (g.vis h2) (Xr h3) (Wfx h3)) λU H Q hq_=>?_;obtain⟨ρ,S,Z,d,S',rs,re,e,fin⟩:=hq_;simp only[Jp5]at e;split at e
  ·rename_i d' hd;cases e;obtain⟨v,hv,q⟩:=re.at' i _ hd;exact⟨v,hv,fin.now rs q⟩
  ·cases e
 refine⟨pe,Jjz pe (λ_=>rfl) λZ S b S' e=>?_⟩;simp only[Ju4]at e;split at e
 ·rename_i d hd;split at e
  ·rename_i b' hb;cases e;exact⟨d,by simp only[Jp5];rw[hd],hb⟩
  ·cases e
 ·cases e
theorem Jri:∀(X:Cx) (c:Ck) (x:Expr),Gd X C c->Uy (.glb n) c x=true->PE X x (tE X.K C (.glb n)):=by
 intro X c x g h;cases x<;>try (exact fx9 h)
 rename_i y p
 replace h:=aB h
 simp only[Al,beq_iff_eq]at h;obtain⟨⟨rfl,h2⟩,h3⟩:=h;cases e0:C.glob n with
 |none=>exact Jid (Jyc λZ S=>by simp only[Je7];rw[e0])
 |some d=>
  obtain⟨v,u,hm,r,hr,_⟩:=g.top.gl n d e0;refine PE.imp (Jln (g.glo h2) hm r (Xr h3)) λU H Q hq_=>?_;obtain⟨ρ,S,Z,d,S',rs,re,e,fin⟩:=hq_;simp only[Je7]at e;rw[e0]at e;cases e;exact fin.now rs (hr ρ H)
theorem Juu(ha:Snd C a)(hb:Snd C b):∀(X:Cx) (c:Ck) (w:Bool) (x:List Expr) (pos:Pos),Gd X C c->Vl (.cns a b) c x=true->PE X (.BoolOp (if w then .And else .Or) x pos) (tBV X.K C w (.cns a b)):=by
 intro X c w x pos g h;cases x with
 |nil=>exact fx9 h
 |cons e es=>
  have h0:=h
  replace h:=aB h
  cases b<;>try (exact fx9 h.2)
  ·cases es with
   |cons e1 es=>exact fx9 h.2
   |nil=>
    refine PE.imp (Jvq (ha.e X c e g h.1)) λU H Q hq_=>?_;obtain⟨ρ,S,Z,d,S',rs,re,e,fin⟩:=hq_;exact⟨ρ,S,Z,d,S',rs,re,e,fin⟩
  ·rename_i a' b';cases es with
   |nil=>exact fx9 h.2
   |cons e1 es=>
    have hbv:=hb.bv X c w (e1::es) pos g h.2;cases w with
    |true=>
     refine PE.imp (Jvv (ha.e X c e g h.1) hbv) λU H Q hq_=>?_;obtain⟨ρ,S,Z,d,S',rs,re,e,fin⟩:=hq_;obtain⟨x1,S1,e1,e⟩:=Res.bind_eq_ok e;refine⟨ρ,S,Z,x1,S1,rs,re,e1,λρ1 v1 H1 f1 r1 q1=>?_⟩;cases x1<;>simp only at e<;>try (cases e;done)
     rename_i k;refine⟨k,q1.bl_inv,?_⟩;cases k with
     |true=>
      rw[if_pos rfl]at e ⊢;exact⟨ρ1,S1,Z,d,S',r1,re.fut f1,e,λρ2 v2 H2 f2=>fin ρ2 v2 H2 (f1.trans f2)⟩
     |false=>
      rw[if_neg Az]at e ⊢;cases e;exact fin ρ1 _ H1 f1 r1 (RelD.bl _)
    |false=>
     refine PE.imp (Jyp (ha.e X c e g h.1) hbv) λU H Q hq_=>?_;obtain⟨ρ,S,Z,d,S',rs,re,e,fin⟩:=hq_;obtain⟨x1,S1,e1,e⟩:=Res.bind_eq_ok e;refine⟨ρ,S,Z,x1,S1,rs,re,e1,λρ1 v1 H1 f1 r1 q1=>?_⟩;cases x1<;>simp only at e<;>try (cases e;done)
     rename_i k;refine⟨k,q1.bl_inv,?_⟩;cases k with
     |false=>
      rw[if_pos rfl]at e;rw[if_neg Az];exact⟨ρ1,S1,Z,d,S',r1,re.fut f1,e,λρ2 v2 H2 f2=>fin ρ2 v2 H2 (f1.trans f2)⟩
     |true=>
      rw[if_neg (by decide)]at e;rw[if_pos rfl];cases e;exact fin ρ1 _ H1 f1 r1 (RelD.bl _)
theorem Juv(ha:Snd C a)(hb:Snd C b):∀(X:Cx) (c:Ck) (w:Bool) (x:List Expr) (pos:Pos),Gd X C c->Vl (.cns a b) c x=true->PW X (.BoolOp (if w then .And else .Or) x pos) (tBT X.K C w (.cns a b)):=by
 intro X c w x pos g h;cases x with
 |nil=>exact fx9 h
 |cons e es=>
  replace h:=aB h
  cases b<;>try (exact fx9 h.2)
  ·cases es with
   |cons e1 es=>exact fx9 h.2
   |nil=>
    have hi:∀U H Q,tBT X.K C w (.cns a .nul) U H Q->tT X.K C a U H Q:=λU H Q ⟨ρ,S,Z,d,S',rs,re,e,fin⟩=>by
     exact⟨ρ,S,Z,d,S',rs,re,e,fin⟩
    cases w with
    |true=>exact λwh pins s U H Q I q=>Jr1 (ha.t X c e g h.1) wh pins s U H Q I (hi _ _ _ q)
    |false=>exact λwh pins s U H Q I q=>Jvb (ha.t X c e g h.1) wh pins s U H Q I (hi _ _ _ q)
  ·rename_i a' b';cases es with
   |nil=>exact fx9 h.2
   |cons e1 es=>
    have hbv:=hb.bt X c w (e1::es) pos g h.2;cases w with
    |true=>
     refine λwh pins s U H Q I q=>Jvc (ha.t X c e g h.1) hbv wh pins s U H Q I ?_;obtain⟨ρ,S,Z,d,S',rs,re,e,fin⟩:=q;obtain⟨k,S1,e1,e⟩:=Res.bind_eq_ok e;refine⟨ρ,S,Z,k,S1,rs,re,e1,λρ1 H1 f1 r1=>?_⟩;cases k with
     |true=>
      rw[if_pos rfl]at e ⊢;exact⟨ρ1,S1,Z,d,S',r1,re.fut f1,e,λρ2 H2 f2=>fin ρ2 H2 (f1.trans f2)⟩
     |false=>
      rw[if_neg Az]at e ⊢;cases e;exact fin ρ1 H1 f1 r1
    |false=>
     refine λwh pins s U H Q I q=>Jyl (ha.t X c e g h.1) hbv wh pins s U H Q I ?_;obtain⟨ρ,S,Z,d,S',rs,re,e,fin⟩:=q;obtain⟨k,S1,e1,e⟩:=Res.bind_eq_ok e;refine⟨ρ,S,Z,k,S1,rs,re,e1,λρ1 H1 f1 r1=>?_⟩;cases k with
     |false=>
      rw[if_pos rfl]at e;rw[if_neg Az];exact⟨ρ1,S1,Z,d,S',r1,re.fut f1,e,λρ2 H2 f2=>fin ρ2 H2 (f1.trans f2)⟩
     |true=>
      rw[if_neg (by decide)]at e;rw[if_pos rfl];cases e;exact fin ρ1 H1 f1 r1
def Jpz(ha:Snd C as):∀(X:Cx) (c:Ck) (x:Expr),Gd X C c->Uy (.bo w as) c x=true->PE X x (tE X.K C (.bo w as))/\PT X x (tT X.K C (.bo w as)):=by
 intro X c x g h;have main:∀es pos,Vl as c es=true->PE X (.BoolOp (if w then .And else .Or) es pos) (tE X.K C (.bo w as))/\PT X (.BoolOp (if w then .And else .Or) es pos) (tT X.K C (.bo w as)):=λes pos h=>by
  refine⟨PE.imp (ha.bv X c w es pos g h) λU H Q ⟨ρ,S,Z,d,S',rs,re,e,fin⟩=>?_,PT.imp (ha.bt X c w es pos g h).pt λU H Q ⟨ρ,S,Z,d,S',rs,re,e,fin⟩=>?_⟩
  ·exact⟨ρ,S,Z,d,S',rs,re,e,fin⟩
  ·exact⟨ρ,S,Z,d,S',rs,re,e,fin⟩
 cases w<;>cases x<;>try (exact fx9 h)
 all_goals (rename_i op es pos;cases op<;>try (exact fx9 h))
 all_goals exact main es pos h
def Wfs(K:Af)(tl:TE):TI:=λU H R=>tl U H λx H1=>∃a,x=.ref a/\(((∃xs,SqL K H1 a xs)/\R (Itl K a) H1)\/((∃xs,SqT K H1 a xs)/\R (Itt K a) H1))
def Jvk{X:Cx}(hl:PE X l tl):PI X tg l (Wfs X.K tl):=by
 intro pins s U H R I h;refine thn (hl pins s U H _ I h) λv s1 hq_=>?_;obtain⟨x,H1,I1,r1,q1⟩:=hq_;obtain⟨a,e,q1⟩:=q1;subst e;cases r1;rcases q1 with⟨⟨xs,hq⟩,q⟩|⟨⟨xs,hq⟩,q⟩
 ·obtain⟨its,rv,p,hz⟩:=I1.list hq;refine F4 p.isList ?_;refine⟨s1.heap.objs.size,[s1.heap.objs.size],_,_,H1,rfl,I1.kept (t':=s1.toks) λb o e=>Ad _ e,Jks a _,⟨_,Aj _ rfl,rfl,rfl⟩,λb hb=>?_,q⟩;have e:b=s1.heap.objs.size:=by simpa using hb
  subst e;exact I1.fpOk (Ai _) (I1.hok.fresh (Ai _))
 ·obtain⟨its,rv,p,hz⟩:=I1.tuple hq;refine Ji (show s1.heap.IsTuple a its.toArray from p) ?_;refine⟨s1.heap.objs.size,[s1.heap.objs.size],_,_,H1,rfl,I1.kept (t':=s1.toks) λb o e=>Ad _ e,Jjs a _,⟨_,Aj _ rfl,rfl,rfl⟩,λb hb=>?_,q⟩;have e:b=s1.heap.objs.size:=by simpa using hb
  subst e;exact I1.fpOk (Ai _) (I1.hok.fresh (Ai _))
def Jox(lo:Int)(n:Nat):ItOk K ρ H (Itr lo n) none ((B7 n).map λ(i:Nat)=>D.int (lo+i))where
 go:=λρ' H' S i d f r s e=>by
  simp only[nth,Ao,Ak]at e;obtain⟨j,hj,rfl⟩:=e;obtain⟨h1,h2⟩:=Ae.mp hj;simp only[List.getElem_range]at h2;subst h2;refine⟨(by simpa using h1:i<n),λx H2 ⟨e1,e2⟩=>?_⟩;subst e1;refine⟨Fut.refl,r,?_⟩;subst e2;exact RelD.int _
 stop:=λρ' H' S f r s=>by
  show n<=_;simp
def Joy(hl:ρ[l]? =some a)(ds:List D):ItOk K ρ H (Itl K a) (some (l,.lst)) ds where
 go:=λρ' H' S i d f r s e=>by
  simp only[nth]at e;split at e
  ·rename_i es he;have ha:=f.get hl;obtain⟨xs,hx,q⟩:=r.ob l a _ ha (Jan he);obtain⟨v,hv,rv⟩:=q.get e;refine⟨⟨xs,v,SqL.of hx,hv⟩,λx H2 ⟨e1,e2⟩=>?_⟩;subst e1;refine⟨Fut.refl,r,?_⟩;have:=e2 xs (SqL.of hx);rw[hv]at this;cases this;exact rv
  ·cases e
 stop:=λρ' H' S f r s=>by
  simp only[sameAt]at s;split at s
  ·rename_i es he;obtain⟨xs,hx,q⟩:=r.ob l a _ (f.get hl) he;refine⟨xs,SqL.of hx,?_⟩;rw[<-q.length];simp only[beq_iff_eq]at s
   lia
  ·cases s
def Joz(hl:ρ[l]? =some a)(ds:List D):ItOk K ρ H (Ite true K a) (some (l,.enm)) ds where
 go:=λρ' H' S i d f r s e=>by
  simp only[nth]at e;split at e<;>try (cases e;done)
  rename_i es he;obtain⟨d0,e0,rfl⟩:=Ak.mp e;obtain⟨xs,hx,q⟩:=r.ob l a _ (f.get hl) (Jan he);obtain⟨v,hv,rv⟩:=q.get e0;refine⟨⟨xs,v,SqL.of hx,hv⟩,λx H2 ⟨p,y,hp,e1,e2,e3⟩=>?_⟩;subst e1 e2;have:=e3 xs (SqL.of hx);rw[hv]at this;cases this;exact⟨Ja1 hp,r.new hp,by simp only[RelD];exact⟨p,_,rfl,.inl Jaf,RelDs.cons (by simp only[RelD]) (RelDs.cons (rv.fut (Ja1 hp)) RelDs.nil)⟩⟩
 stop:=λρ' H' S f r s=>by
  simp only[sameAt]at s;split at s<;>try (cases s;done)
  rename_i es he;obtain⟨xs,hx,q⟩:=r.ob l a _ (f.get hl) he;exact⟨xs,SqL.of hx,by rw[<-q.length];exact eq_of_beq s⟩
theorem Jqt:∀{ds:List D} {k i:Nat} {d:D},(enD k ds)[i]? =some d->∃x,ds[i]? =some x/\d=.tup [.int (k+i:Nat),x]
 |[],k,i,d,h=>by simp[enD]at h
 |x::r,k,0,d,h=>by simp[enD]at h;exact⟨x,rfl,h.symm⟩
 |x::r,k,i+1,d,h=>by
  simp only[enD,Bu]at h;obtain⟨y,h1,h2⟩:=Jqt h;exact⟨y,by simpa using h1,by rw[h2,Nat.add_right_comm,Lb]⟩
theorem enD_len:∀(ds:List D) (k:Nat),(enD k ds).length=ds.length
 |[],_=>rfl
 |x::r,k=>by simp[enD,enD_len r]
def Jo0(hs:SqT K H a xs)(t:RelDs K ρ H ds xs):ItOk K ρ H (Ite false K a) none (enD 0 ds)where
 go:=λρ' H' S i d f r s e=>by
  obtain⟨d0,e0,rfl⟩:=Jqt (show(enD 0 ds)[i]? =some d from e);rw[Fg];obtain⟨v,hv,rv⟩:=(t.fut f).get e0;refine⟨⟨xs,v,f.tup _ _ hs,hv⟩,λx H2 ⟨p,y,hp,e1,e2,e3⟩=>?_⟩;subst e1 e2;have:=e3 xs (f.tup _ _ hs);rw[hv]at this;cases this;exact⟨Ja1 hp,r.new hp,by simp only[RelD];exact⟨p,_,rfl,.inl Jaf,RelDs.cons (by simp only[RelD]) (RelDs.cons (rv.fut (Ja1 hp)) RelDs.nil)⟩⟩
 stop:=λρ' H' S f r s=>⟨xs,f.tup _ _ hs,by rw[enD_len,t.length]⟩
def Jow(hl:ρ[l]? =some a)(hs:SqT K H b ys)(t:RelDs K ρ H ds ys):ItOk K ρ H (Izz K a b ys) (some (l,.zip)) ds where
 go:=λρ' H' S i d f r s e=>by
  simp only[nth]at e;split at e<;>try (cases e;done)
  rename_i es he;split at e<;>try (cases e;done)
  rename_i dx dy e1 e2;cases e;obtain⟨xs,hx,q⟩:=r.ob l a _ (f.get hl) (Jan he);obtain⟨v,hv,rv⟩:=q.get e1;obtain⟨w,hw,rw'⟩:=(t.fut f).get e2;refine⟨⟨xs,v,w,SqL.of hx,f.tup _ _ hs,hv,hw⟩,λx H2 ⟨p,y,z,hp,e1,e2,e3,e4⟩=>?_⟩;subst e1 e2;have:=e3 xs (SqL.of hx);rw[hv]at this;cases this;rw[hw]at e4;cases e4;exact⟨Ja1 hp,r.new hp,by simp only[RelD];exact⟨p,_,rfl,.inl Jaf,RelDs.cons (rv.fut (Ja1 hp)) (RelDs.cons (rw'.fut (Ja1 hp)) RelDs.nil)⟩⟩
 stop:=λρ' H' S f r s=>by
  simp only[sameAt]at s;split at s<;>try (cases s;done)
  rename_i es he;obtain⟨xs,hx,q⟩:=r.ob l a _ (f.get hl) he;exact⟨xs,SqL.of hx,by rw[<-q.length];exact L6 (eq_of_beq s)⟩
def Js9(hs:SqF K H a xs)(t:RelDs K ρ H ds xs):ItOk K ρ H (Itl K a) none ds where
 go:=λρ' H' S i d f r s e=>by
  have hs':=(f.fu.sqF hs).sq;obtain⟨v,hv,rv⟩:=(t.fut f).get (show ds[i]? =some d from e);refine⟨⟨xs,v,hs',hv⟩,λx H2 ⟨e1,e2⟩=>?_⟩;subst e1;refine⟨Fut.refl,r,?_⟩;have:=e2 xs hs';rw[hv]at this;cases this;exact rv
 stop:=λρ' H' S f r s=>⟨xs,(f.fu.sqF hs).sq,by rw[<-t.length];exact Ai _⟩
def Jk4(ha:Snd C a):∀(X:Cx) (c:Ck) (tg x:Expr),Gd X C c->Uy a c x=true->PI X tg x (tI X.K C (.cns a .nul)):=by
 intro X c tg x g h;refine PI.imp (Jvk (ha.e X c x g h)) λU H R hq_=>?_;obtain⟨ρ,S,Z,gg,ds,S',rs,re,e,fin⟩:=hq_;obtain⟨d,S1,e1,e⟩:=Res.bind_eq_ok e;refine⟨ρ,S,Z,d,S1,rs,re,e1,λρ1 v1 H1 f1 r1 q1=>?_⟩;split at e
 ·cases e;obtain⟨p,xs,rfl,sq,t⟩:=q1.tup_inv;refine⟨p,rfl,.inr ⟨⟨xs,sq⟩,fin ρ1 H1 _ f1 r1 ?_⟩⟩;exact{go:=(λρ' H' S i d f r s e=>by
       have hs':=f.tup _ _ sq;obtain⟨v,hv,rv⟩:=(t.fut f).get (show ds[i]? =some d from e);refine⟨⟨xs,v,hs',hv⟩,λx H2 ⟨e1,e2⟩=>?_⟩;subst e1;refine⟨Fut.refl,r,?_⟩;have:=e2 xs hs';rw[hv]at this;cases this;exact rv),stop:=λρ' H' S f r s=>⟨xs,f.tup _ _ sq,by rw[<-t.length];exact Ai _⟩}
 ·cases e;obtain⟨p,xs,rfl,sq,t⟩:=q1.kl_inv;exact⟨p,rfl,.inl ⟨⟨xs,sq.sq⟩,fin ρ1 H1 _ f1 r1 (Js9 sq t)⟩⟩
 ·split at e
  ·rename_i es he;cases e;obtain⟨p,xs,rfl,hl,hx,t⟩:=r1.lst q1 (Jan he);exact⟨p,rfl,.inl ⟨⟨xs,SqL.of hx⟩,fin ρ1 H1 _ f1 r1 (Joy hl _)⟩⟩
  ·cases e
 ·cases e
def Jk5(ha:Snd C a):∀(X:Cx) (c:Ck) (tg x:Expr),Gd X C c->Xb (.rng a) c x=true->PI X tg x (tI X.K C (.rng a)):=by
 intro X c tg x g h;obtain⟨⟨e0,pp,pos,rfl⟩,h⟩:=aO h;simp only[Al]at h;obtain⟨⟨h1,h2⟩,h3⟩:=h;refine PI.imp (Jll (g.glo h1) (g.top.blt _ (Jam h2)) (Jbv (ha.e X c _ g h3) Je8 (Jae (noStar h3))) (Jae (noStar h3))) λU H R hq_=>?_;obtain⟨ρ,S,Z,gg,ds,S',rs,re,e,fin⟩:=hq_;obtain⟨d,S1,e1,e⟩:=Res.bind_eq_ok e;refine⟨ρ,S,Z,d,S1,rs,re,e1,λρ1 v1 H1 f1 r1 q1=>?_⟩;split at e
 ·rename_i j;split at e
  ·rename_i hj;simp only[Al,decide_eq_true_eq]at hj;cases e;cases q1.int_inv;refine⟨j,rfl,hj.1,hj.2,fin ρ1 H1 _ f1 r1 ?_⟩;have:=Jox (K:=X.K) (ρ:=ρ1) (H:=H1) 0 j.toNat
   simpa only[Int.zero_add]using this
  ·cases e
 ·cases e
def Jk6(ha:Snd C a):∀(X:Cx) (c:Ck) (tg x:Expr),Gd X C c->Xb (.enm a) c x=true->itT (.enm a) tg=true->PI X tg x (tI X.K C (.enm a)):=by
 intro X c tg x g h ht;obtain⟨⟨e0,pp,pos,rfl⟩,h⟩:=aO h;cases tg<;>try (exact fx9 ht)
 simp only[Al]at h;obtain⟨⟨h1,h2⟩,h3⟩:=h;refine PI.imp (Jsi (g.glo h1) (g.top.blt _ (Jam h2)) (Jbv (ha.e X c _ g h3) Je8 (Jae (noStar h3))) (Jae (noStar h3))) λU H R hq_=>?_;obtain⟨ρ,S,Z,gg,ds,S',rs,re,e,fin⟩:=hq_;obtain⟨d,S1,e1,e⟩:=Res.bind_eq_ok e;refine⟨ρ,S,Z,d,S1,rs,re,e1,λρ1 v1 H1 f1 r1 q1=>?_⟩;split at e<;>try (cases e;done)
 ·split at e<;>try (cases e;done)
  rename_i es he;cases e;obtain⟨p,xs,rfl,hl,hx,t⟩:=r1.lst q1 (Jan he);exact⟨p,true,rfl,⟨xs,SqL.of hx⟩,fin ρ1 H1 _ f1 r1 (Joz hl _)⟩
 ·cases e;obtain⟨p,xs,rfl,sq,t⟩:=q1.tup_inv;exact⟨p,false,rfl,⟨xs,sq⟩,fin ρ1 H1 _ f1 r1 (Jo0 sq t)⟩
def Jk3(ha:Snd C a)(hb:Snd C b):∀(X:Cx) (c:Ck) (tg x:Expr),Gd X C c->Xb (.zp a b) c x=true->itT (.zp a b) tg=true->PI X tg x (tI X.K C (.zp a b)):=by
 intro X c tg x g h ht;cases x<;>try (exact fx9 h)
 rename_i fn es kws pos;cases fn<;>try (exact fx9 h)
 rename_i y pp;rcases es with _|⟨e0,_|⟨e1,_|⟨e2,es⟩⟩⟩<;>cases kws<;>try (exact fx9 h)
 cases tg<;>try (exact fx9 ht)
 replace h:=aB h
 simp only[Al,beq_iff_eq]at h;obtain⟨⟨⟨⟨rfl,h1⟩,h2⟩,h3⟩,h4⟩:=h;refine PI.imp (Jsf (g.glo h1) (g.top.blt _ (Jam h2)) (Jbv (ha.e X c _ g h3) (Jbv (hb.e X c _ g h4) Je8 (Jae (noStar h4))) (Jae (noStar h3))) ((Jae (noStar h3)).trans (by rw[Jae (noStar h4)];rfl)) (Jae (noStar h4))) λU H R hq_=>?_;obtain⟨ρ,S,Z,gg,ds,S',rs,re,e,fin⟩:=hq_;obtain⟨d,S1,q1,e⟩:=Res.bind_eq_ok e;obtain⟨d2,S2,q2,e⟩:=Res.bind_eq_ok e;refine⟨ρ,S,Z,d,S1,rs,re,q1,λρ1 v1 H1 f1 r1 w1=>⟨ρ1,S1,Z,d2,S2,r1,re.fut f1,q2,λρ2 v2 H2 f2 r2 w2=>?_⟩⟩;unfold zpD at e;split at e<;>try (cases e;done)
 split at e<;>try (cases e;done)
 rename_i es he;split at e<;>try (cases e;done)
 cases e;obtain⟨p,xs,rfl,hl,hx,t⟩:=r2.lst (w1.fut f2) (Jan he);obtain⟨q,ys,rfl,sq,t2⟩:=w2.tup_inv;exact⟨p,q,xs,ys,rfl,SqL.of hx,sq,fin ρ2 H2 _ (f1.trans f2) r2 (Jow hl sq t2)⟩
end
section
variable {C:Pr}
def W1:∀{m:M} {c:Ck} {e:Expr},Wi m c e=true->∀x p,e≠ .Starred x p:=by
 intro m c e h x p z;subst z;cases m<;>exact fx9 h
theorem Jqo:∀{m:M} {c:Ck} {es:List Expr} {env:Env},Wc m c es=true->(Fv es env).length=es.length/\(Fv es env).findIdx? (·.1)=none:=by
 intro m
 induction m with
 |nul=>intro c es env h;cases es<;>first|exact⟨rfl,rfl⟩|exact fx9 h
 |cns a b _ ihb=>
  intro c es env h;cases es with
  |nil=>exact fx9 h
  |cons e es=>
   replace h:=aB h
   rw[Jcs (W1 h.1)];obtain⟨h1,h2⟩:=ihb (env:=env) h.2;refine⟨by rw[A7,A7,h1],?_⟩;rw[List.findIdx?_cons,h2];rfl
 |_=>intro c es env h;exact fx9 h
theorem Jza:∀{m:M} {c:Ck} {es:List Expr} {ds:List D} {Z Z':En} {S S':Store},Wc m c es=true->evGs C m ds Z S=.ok Z' S'->ds.length=es.length:=by
 intro m
 induction m with
 |nul=>
  intro c es ds Z Z' S S' h e;cases es<;>try (exact fx9 h)
  cases ds<;>simp only[Jib]at e
  ·rfl
  ·cases e
 |cns a b _ ihb=>
  intro c es ds Z Z' S S' h e;cases es with
  |nil=>exact fx9 h
  |cons x es=>
   replace h:=aB h
   cases ds with
   |nil=>simp only[Jia]at e;cases e
   |cons d ds=>
    obtain⟨τ1,S1,e1,e⟩:=Res.bind_eq_ok e;rw[A7,A7,ihb h.2 e]
 |_=>intro c es ds Z Z' S S' h;exact fx9 h
def Jk7:∀(X:Cx) (c:Ck) (x:Expr),Gd X C c->Wi (.tvar i) c x=true->PG X x (tG X.K C (.tvar i)):=by
 intro X c x g h;cases x<;>try (exact fx9 h)
 rename_i y p
 replace h:=aB h
 simp only[Al,beq_iff_eq]at h;obtain⟨h1,h2⟩:=h;obtain⟨o1,o2⟩:=g.own h2;refine PG.imp (Jsk (i:=i) g.nd (by rw[g.N];exact h1) o1 o2) λv U H Q hq_=>?_;obtain⟨ρ,S,Z,d,Z',S',rs,re,rd,e,fin⟩:=hq_;simp only[Ji5]at e;split at e
 ·cases e;exact fin ρ _ H Fut.refl rs (re.set rd i)
 ·cases e
def Jk8(ha:Snd C ts):∀(X:Cx) (c:Ck) (x:Expr),Gd X C c->Wi (.ttup ts) c x=true->PG X x (tG X.K C (.ttup ts)):=by
 intro X c x g h;cases x<;>try (exact fx9 h)
 rename_i es k p;refine PG.imp (Jvl g.calm (ha.gs X c _ g h) (Jqo h).1 (Jqo h).2) λv U H Q hq_=>?_;obtain⟨ρ,S,Z,d,Z',S',rs,re,rd,e,fin⟩:=hq_;simp only[Jp4]at e;split at e
 ·rename_i ds;obtain⟨a,xs,rfl,sq,t⟩:=rd.tup_inv;exact⟨a,xs,rfl,sq,by rw[<-t.length];exact Jza h e,ρ,S,Z,ds,Z',S',rs,re,t,e,fin⟩
 ·cases e
def Jk9(ha:Snd C a)(hb:Snd C b):∀(X:Cx) (c:Ck) (x:Expr),Gd X C c->Wi (.tsub a b) c x=true->PG X x (tG X.K C (.tsub a b)):=by
 intro X c x g h;cases x<;>try (exact fx9 h)
 rename_i o i p
 replace h:=aB h
 have nsl:∀l u t p,i≠ .Slice l u t p:=by
  intro l u t p z;subst z;have h2:=h.2;cases b<;>first|(exact fx9 h2)|(rename_i d;cases d<;>exact fx9 h2)|(rename_i w _;cases w<;>exact fx9 h2)
 refine PG.imp (Jvm (ha.e X c _ g h.1) (hb.e X c _ g h.2) (Juy (Fh (Ht (by decide:2<=64) _) g.top.un) g.top.np) (by
  intro v;cases i<;>first|rfl|exact absurd rfl (nsl _ _ _ _))) λv U H Q ⟨ρ,S,Z,d,Z',S',rs,re,rd,e,fin⟩=>?_
 obtain⟨d1,S1,e1,e⟩:=Res.bind_eq_ok e;obtain⟨d2,S2,e2,e⟩:=Res.bind_eq_ok e;obtain⟨_,S3,e3,e⟩:=Res.bind_eq_ok e;cases e;refine⟨ρ,S,Z,d1,S1,rs,re,e1,λρ1 v1 H1 f1 r1 q1=>⟨ρ1,S1,Z,d2,S2,r1,re.fut f1,e2,λρ2 v2 H2 f2 r2 q2=>?_⟩⟩;refine⟨ρ2,S2,d1,d2,d,S',r2,q1.fut f2,q2,rd.fut (f1.trans f2),e3,λH3 f3 r3=>?_⟩;have f:=f1.trans (f2.trans f3);exact fin ρ2 U H3 f r3 (re.fut f)
theorem Jjx(ha:Snd C a)(hb:Snd C b):∀(X:Cx) (c:Ck) (x:List Expr),Gd X C c->Wc (.cns a b) c x=true->PGs X x (tGs X.K C (.cns a b)):=by
 intro X c x g h;cases x with
 |nil=>exact fx9 h
 |cons e es=>
  replace h:=aB h
  refine PGs.imp (Jn4 (ha.g X c _ g h.1) (hb.gs X c _ g h.2) (by rw[Jcs (W1 h.1)];rfl)) λvs U H Q hq_=>?_;obtain⟨ρ,S,Z,ds,Z',S',rs,re,rd,e,fin⟩:=hq_;cases ds with
  |nil=>simp only[Jia]at e;cases e
  |cons d ds=>
   obtain⟨τ1,S1,e1,e⟩:=Res.bind_eq_ok e;obtain⟨v,r,rfl,q,t⟩:=rd.inv_cons;refine⟨v,r,rfl,ρ,S,Z,d,τ1,S1,rs,re,q,e1,λρ1 σ1 H1 f1 r1 q1=>?_⟩;exact⟨ρ1,S1,τ1,ds,Z',S',r1,q1,t.fut f1,e,λρ2 σ2 H2 f2=>fin ρ2 σ2 H2 (f1.trans f2)⟩
theorem Jjw:∀(X:Cx) (c:Ck) (x:List Expr),Gd X C c->Wc .nul c x=true->PGs X x (tGs X.K C .nul):=by
 intro X c x g h;cases x with
 |cons e es=>exact fx9 h
 |nil=>
  refine PGs.imp Jsj λvs U H Q hq_=>?_;obtain⟨ρ,S,Z,ds,Z',S',rs,re,rd,e,fin⟩:=hq_;cases ds with
  |cons d ds=>simp only[Jib]at e;cases e
  |nil=>
   cases e;exact⟨rd.inv_nil,fin ρ U H Fut.refl rs re⟩
def Ck.compOk{c:Ck}{N:List String}(g:Gd X C c)(h:c.comp N k keep scope=true):Vk X (N.map Ab) k keep scope/\(N.map Ab).Nodup:=by
 unfold Ck.comp at h;simp only[Al,Ei,beq_iff_eq,bne_iff_ne,Hm,decide_eq_true_eq]at h;obtain⟨⟨⟨⟨⟨⟨h1,h2⟩,h3⟩,h4⟩,h5⟩,h6⟩,h7⟩:=h;refine⟨⟨h1,h2,λy hy hl=>?_,λy hy hf=>?_,by rw[Ah];exact h5,λj i hj=>?_⟩,h6⟩
 ·rcases h3 y hy with z|z
  ·exact absurd hl z
  ·exact z
 ·rw[g.names];rcases h4 y hy with(z|z)|z
  ·exact absurd hf z
  ·exact .inl z
  ·exact .inr z
 ·have hlt:=(Ae.mp hj).1;have:=h7 j (by simpa using hlt);rw[hj]at this;split at this
  ·rename_i i' x e1 e2;cases e1;simp only[Al,beq_iff_eq]at this;exact⟨x,e2,by rw[g.N];exact this.1,this.2⟩
  ·cases this
def Gd.inner{c:Ck}{N:List String}(g:Gd X C c)(h:c.comp N k keep scope=true)(s₃:Shared)(H:Hp)(ex:List Addr)(pins:List (Addr×A5)):
  Gd (U3 X (N.map Ab) scope s₃ H ex pins) C (c.inner N scope):=by
 obtain⟨ok,nd⟩:=Ck.compOk g h;refine⟨rfl,nd,?_,ok.kind,λx=>rfl,g.calm,rfl,g.top⟩;show(relabel scope X.env).names=relab scope.names c.names;unfold relabel relab;show scope.names.map _=scope.names.map _;refine Ec λp hp=>?_;obtain⟨n,q⟩:=p;have e1:(X.env.scope.kind==ScopeKind.function)=true:=by rw[g.sk];rfl
 have e2:X.env.kindOf n=c.names.lookup n:=by
  show X.env.scope.names.lookup n=_;rw[g.names]
 simp only[e1,e2,Ua]
def Yi(k:Nat)(τ0 Z:En):Prop:=Z.length=τ0.length/\∀i,k<=i->Z[i]? =τ0[i]?
theorem Jti:∀{m:M},Wa k m=true->(∀{d:D} {τ0 Z Z':En} {S S':Store},Yi k τ0 Z->evG C m d Z S=.ok Z' S'->Yi k τ0 Z'/\S'=S)/\(∀{ds:List D} {τ0 Z Z':En} {S S':Store},Yi k τ0 Z->evGs C m ds Z S=.ok Z' S'->Yi k τ0 Z'/\S'=S):=by
 intro m
 induction m with
 |tvar i=>
  intro h;have h:=of_decide_eq_true h;refine⟨λ{d τ0 Z Z' S S'} o e=>?_,λ{ds τ0 Z Z' S S'} o e=>?_⟩
  ·simp only[Ji5]at e;split at e
   ·cases e;refine⟨⟨by rw[D4];exact o.1,λj hj=>?_⟩,rfl⟩;rw[Au (by lia)];exact o.2 j hj
   ·cases e
  ·exact absurd e Jaa
 |ttup ts ih=>
  intro h;refine⟨λ{d τ0 Z Z' S S'} o e=>?_,λ{ds τ0 Z Z' S S'} o e=>?_⟩
  ·simp only[Jp4]at e;split at e
   ·exact(ih h).2 o e
   ·cases e
  ·exact absurd e Jaa
 |nul=>
  intro h;refine⟨λ{d τ0 Z Z' S S'} o e=>?_,λ{ds τ0 Z Z' S S'} o e=>?_⟩
  ·exact absurd e Jaa
  ·cases ds<;>simp only[Jib]at e
   ·cases e;exact⟨o,rfl⟩
   ·cases e
 |cns a b iha ihb=>
  intro h;have h:=(Al _ _).mp h;refine⟨λ{d τ0 Z Z' S S'} o e=>?_,λ{ds τ0 Z Z' S S'} o e=>?_⟩
  ·exact absurd e Jaa
  ·cases ds<;>simp only[Jia]at e
   ·cases e
   ·obtain⟨τ1,S1,e1,e2⟩:=Res.bind_eq_ok e;obtain⟨o1,rfl⟩:=(iha h.1).1 o e1;exact(ihb h.2).2 o1 e2
 |_=>intro h;exact fx9 h
noncomputable abbrev Vo(C:Pr)(tg cd el:M):D->En->Store->Res (Option D):=λd τ1 S2=>(evG C tg d τ1 S2).bind λτ2 S3=>(evC C cd τ2 S3).bind λb S4=>if b then(evE C el τ2 S4).bind λy S5=>.ok (some y) S5 else .ok none S4
def Jmf(h:(U2 k keep Z)[i]? =some (some d)):k<=i:=by
 unfold U2 at h
 by_cases hi:i<k
 ·rw[A0 (by simpa using hi),E6,if_pos hi]at h;cases h
 ·lia
theorem Jjm{ds:List D}{Q:List V->Hp->Prop}(hown:Wa k tg=true)(it:ItOk K ρ0 H0 J g ds)
  (rs0:RelS K ρ0 S0 H0)(re0:RelE K ρ0 H0 (U2 k keep τ0) σ0)(e0:Vj (Vo C tg cd el) g ds ds.length 0 (U2 k keep τ0) S0 []=.ok ys S')(fin:∀ρ H xs,Fut K ρ0 H0 ρ H->RelS K ρ S' H->RelDs K ρ H ys xs->Q xs H):
  Yj J (tG K C tg) (tC K C cd) (tE K C el) Q σ0 H0:=by
 refine⟨λi m xs U H=>∃ρ S acc,Fut K ρ0 H0 ρ H/\RelS K ρ S H/\RelE K ρ H (U2 k keep τ0) U/\RelDs K ρ H acc xs/\i+m=ds.length/\acc.length<=Line/\Vj (Vo C tg cd el) g ds m i (U2 k keep τ0) S acc=.ok ys S',⟨ds.length,ρ0,S0,[],Fut.refl,rs0,re0,RelDs.nil,Fg _,Cr _,e0⟩,?_⟩;rintro i m xs U H ⟨ρ,S,acc,f,rs,re,ra,hi,hl,e⟩;refine⟨by rw[<-ra.length,<-Jbb];exact hl,?_⟩;cases m with
 |zero=>
  simp only[Vj]at e;split at e
  ·rename_i hs;cases e;refine .inl ⟨?_,fin ρ H xs f rs ra⟩;have:i=ds.length:=by lia
   rw[this];exact it.stop ρ H _ f rs hs
  ·cases e
 |succ m=>
  simp only[Vj]at e;split at e
  ·rename_i hs;split at e
   ·cases e
   ·rename_i d hd;obtain⟨hgo,hy⟩:=it.go ρ H S i d f rs hs hd;refine .inr ⟨hgo,λx H' hyl=>?_⟩;obtain⟨f0,rs,rd⟩:=hy x H' hyl
    replace re:=re.fut f0
    replace ra:=ra.fut f0
    replace f:=f.trans f0
    obtain⟨o,S1,e1,e⟩:=Res.bind_eq_ok e;obtain⟨τ2,S2,eG,e1⟩:=Res.bind_eq_ok e1;obtain⟨b,S3,eC,e1⟩:=Res.bind_eq_ok e1;have own:Yi k (U2 k keep τ0) τ2:=((Jti (C:=C) hown).1 (τ0:=U2 k keep τ0) ⟨rfl,λ_ _=>rfl⟩ eG).1;have less:Weh τ2 (U2 k keep τ0):=⟨own.1.symm,λj d hj=>by rw[own.2 j (Jmf hj)];exact hj⟩
    refine⟨ρ,S,_,d,τ2,S2,rs,re,rd,eG,λρ1 σ1 H1 f1 r1 q1=>⟨ρ1,S2,τ2,b,S3,r1,q1,eC,λρ2 H2 f2 r2=>?_⟩⟩;cases b with
    |true=>
     rw[if_pos rfl]at e1 ⊢;obtain⟨y,S4,eE,e1⟩:=Res.bind_eq_ok e1;cases e1;simp only at e;split at e
     ·rename_i hlt;refine⟨ρ2,S3,τ2,y,S1,r2,q1.fut f2,eE,λρ3 v3 H3 f3 r3 q3=>⟨m,Dg m,?_⟩⟩;have f13:=f1.trans (f2.trans f3);exact⟨ρ3,S1,acc++[y],f.trans f13,r3,(q1.fut (f2.trans f3)).less less,(ra.fut f13).append (RelDs.cons q3 RelDs.nil),by lia,by rw[Bf];exact hlt,e⟩
     ·cases e
    |false=>
     rw[if_neg Az]at e1 ⊢;cases e1;simp only at e;have f12:=f1.trans f2;exact⟨m,Dg m,ρ2,S1,acc,f.trans f12,r2,(q1.fut f2).less less,ra.fut f12,by lia,hl,e⟩
  ·cases e
def Jhf{X:Cx}(hown:Wa k tg=true)(h:tE X.K C (.comp N k keep tg it cd el) U H Q):W6 k keep (tI X.K C it) (tG X.K C tg) (tC X.K C cd) (tE X.K C el) U H Q:=by
 obtain⟨ρ,S,Z,d,S',rs,re,e,fin⟩:=h;obtain⟨w,S1,e1,e⟩:=Res.bind_eq_ok e;obtain⟨ys,S2,e2,e⟩:=Res.bind_eq_ok e;cases e;obtain⟨g,ds⟩:=w;refine⟨ρ,S,Z,g,ds,S1,rs,re,e1,λρ1 H1 J f1 r1 itk=>?_⟩;refine Jjm hown itk r1 ((re.fut f1).inner k keep) e2 λρ2 H2 xs f2 r2 q2=>?_;exact Fin.newL (ρ:=ρ2) (λρ3 v3 H3 f3 r3 q3=>fin ρ3 v3 H3 (f1.trans (f2.trans f3)) r3 q3) r2 q2
def Jno(hg:Snd C tg)(hi:Snd C it)(hc:Snd C cd)(he:Snd C el):∀(X:Cx) (c:Ck) (x:Expr),Gd X C c->Uy (.comp N k keep tg it cd el) c x=true->PE X x (tE X.K C (.comp N k keep tg it cd el)):=by
 intro X c x g h;cases x<;>try (exact fx9 h)
 rename_i elt gens scope pos;rcases gens with _|⟨⟨t,i,fs,asy⟩,_|⟨g2,gens⟩⟩<;>try (exact fx9 h)
 replace h:=aB h
 simp only[Al,beq_iff_eq]at h;obtain⟨⟨⟨⟨⟨⟨⟨rfl,h1⟩,h2⟩,h3⟩,h4⟩,h5⟩,h6⟩,h7⟩:=h;obtain⟨pi,fs0⟩:=hi.i X c t i g h4 h7;refine PE.imp (Jlo (Ck.compOk g h1).1 g.calm pi (λs₃ H ex pins=>hg.g _ _ _ (g.inner h1 s₃ H ex pins) h3) (λs₃ H ex pins=>hc.cd _ _ _ (g.inner h1 s₃ H ex pins) h5) (λs₃ H ex pins=>he.e _ _ _ (g.inner h1 s₃ H ex pins) h6) fs0) λU H Q q=>Jhf h2 q
end
section
variable {C:Pr}
def Jg4(h:isComp e=false):Gk e none n env=pure false:=by
 cases e<;>first|rfl|exact fx9 h.symm
def Jdo(h:isComp e=false):Gk e (some t) n env=pure false:=by
 cases e<;>first|rfl|exact fx9 h.symm
def Jju:Gk e (some (.Name x p)) n env=pure true\/Gk e (some (.Name x p)) n env=pure false:=by
 have h:∃b,Gk e (some (.Name x p)) n env=pure b:=by
  cases e<;>exact⟨_,rfl⟩
 obtain⟨b,h⟩:=h;cases b
 ·exact .inr h
 ·exact .inl h
def Jgw(h:∀a b p,t=.Tuple a b p->∀a' b' p',e≠ .Tuple a' b' p')(hl:∀a p,t≠ .List a p):swappedStores [t] e env=pure none:=by
 cases t<;>first|rfl|exact absurd rfl (hl _ _)|skip
 rename_i a b p;cases e<;>first|rfl|exact absurd rfl (h a b p rfl _ _ _)
def Jpk{K:Af}{t e:M}{D:Ends}{U:L2.St}{H:Hp}(h:tS K C (.asg t e) D U H):X1 (tE K C e) (tG K C t) D U H:=by
 obtain⟨ρ,S,Z,fl,S',rs,re,e0,fin⟩:=h;obtain⟨d,S1,e1,e0⟩:=Res.bind_eq_ok e0;obtain⟨τ1,S2,e2,e0⟩:=Res.bind_eq_ok e0;cases e0;exact⟨ρ,S,Z,d,S1,rs,re,e1,λρ1 v1 H1 f1 r1 q1=>⟨ρ1,S1,Z,d,τ1,S',r1,re.fut f1,q1,e2,λρ2 σ2 H2 f2=>fin ρ2 σ2 H2 (f1.trans f2)⟩⟩
def Jxn(h:Uy e c (.ListComp elt gens scope pos)=true)(hn:nD e=true):∃N k keep mg mi mc me,e=.comp N k keep mg mi mc me:=by
 cases e<;>first|exact⟨_,_,_,_,_,_,_,rfl⟩|(exact fx9 hn)|(exact fx9 h)|(rename_i d;cases d<;>exact fx9 h)|(rename_i w _;cases w<;>exact fx9 h)
def Jxm:¬Uy e c (.SetComp elt gens scope pos)=true:=by
 intro h;cases e<;>first|(exact fx9 h)|(rename_i d;cases d<;>exact fx9 h)|(rename_i w _;cases w<;>exact fx9 h)
def Jxo:¬Uy e c (.DictComp k elt gens scope pos)=true:=by
 intro h;cases e<;>first|(exact fx9 h)|(rename_i d;cases d<;>exact fx9 h)|(rename_i w _;cases w<;>exact fx9 h)
def Jrs(ht:Snd C t)(he:Snd C e)(hc:∀N k keep tg it cd el,e=.comp N k keep tg it cd el->Snd C tg/\Snd C it/\Snd C cd/\Snd C el):∀(X:Cx) (c:Ck) (x:Stmt),Gd X C c->Wh (.asg t e) c x=true->PS X x (tS X.K C (.asg t e)):=by
 intro X c x g h;cases x<;>try (exact fx9 h)
 rename_i tgs v pos;rcases tgs with _|⟨tg,_|⟨t2,tgs⟩⟩<;>try (exact fx9 h)
 replace h:=aB h
 simp only[Al]at h;obtain⟨⟨h1,h2⟩,h3⟩:=h;have one:(Fv [tg] X.env).map (·.2)=[assign tg X.env]:=by rw[Jcs (W1 h1)];rfl
 have nlist:∀a p,tg≠ .List a p:=by
  intro a p z;subst z;cases t<;>exact fx9 h1
 by_cases hn:∃y p,tg=.Name y p
 ·obtain⟨y,p,rfl⟩:=hn;rcases Jju (e:=v) (x:=y) (p:=p) (n:=pos.line) (env:=X.env)with hs|hs
  ·
   cases v<;>first|(exact absurd hs (by intro z;cases z))|skip
   ·
    rename_i elt gens scope cpos;cases t<;>try (exact fx9 h1)
    rename_i i;obtain⟨N,k,keep,mg,mi,mc,me,rfl⟩:=Jxn h2 h3;obtain⟨sg,si,sc,se⟩:=hc _ _ _ _ _ _ _ rfl;rcases gens with _|⟨⟨tt,ii,fs,asy⟩,_|⟨g2,gens⟩⟩<;>try (exact fx9 h2)
    replace h2:=aB h2
    simp only[Al,beq_iff_eq]at h2;obtain⟨⟨⟨⟨⟨⟨⟨rfl,k1⟩,k2⟩,k3⟩,k4⟩,k5⟩,k6⟩,k7⟩:=h2;obtain⟨pi,fs0⟩:=si.i X c tt ii g k4 k7
    replace h1:=aB h1
    simp only[Al,beq_iff_eq]at h1;obtain⟨o1,o2⟩:=g.own h1.2;refine PS.imp (Jsa (i:=i) (wi:=tI X.K C mi) (g:=tG X.K C mg) (tc:=tC X.K C mc) (te:=tE X.K C me) g.nd (by rw[g.N];exact h1.1) o1 o2 hs (Ck.compOk g k1).1 g.calm pi (λs₃ H ex pins=>sg.g _ _ _ (g.inner k1 s₃ H ex pins) k3) (λs₃ H ex pins=>sc.cd _ _ _ (g.inner k1 s₃ H ex pins) k5) (λs₃ H ex pins=>se.e _ _ _ (g.inner k1 s₃ H ex pins) k6) fs0) λD U H q=>?_;obtain⟨ρ,S,Z,fl,S',rs,re,e0,fin⟩:=q;simp only[Jry,Ji5,Jp3]at e0;obtain⟨d,S1,e1,e0⟩:=Res.bind_eq_ok e0;obtain⟨τ1,S2,e2,e0⟩:=Res.bind_eq_ok e0;cases e0;refine Jhf (N:=N) k2 ⟨ρ,S,Z,d,S1,rs,re,e1,λρ1 v1 H1 f1 r1 q1=>?_⟩;split at e2
    ·cases e2;exact fin ρ1 _ H1 f1 r1 ((re.fut f1).set q1 i)
    ·cases e2
   ·exact absurd h2 Jxm
   ·exact absurd h2 Jxo
  ·cases t<;>try (exact fx9 h1)
   rename_i i
   replace h1:=aB h1
   simp only[Al,beq_iff_eq]at h1;obtain⟨o1,o2⟩:=g.own h1.2;refine PS.imp (Jve (i:=i) g.nd (by rw[g.N];exact h1.1) o1 (he.e X c _ g h2) hs o2) λD U H q=>?_;obtain⟨ρ,S,Z,fl,S',rs,re,e0,fin⟩:=q;simp only[Ji5,Jp3]at e0;obtain⟨d,S1,e1,e0⟩:=Res.bind_eq_ok e0;obtain⟨τ1,S2,e2,e0⟩:=Res.bind_eq_ok e0;cases e0;refine⟨ρ,S,Z,d,S1,rs,re,e1,λρ1 v1 H1 f1 r1 q1=>?_⟩;split at e2
   ·cases e2;exact fin ρ1 _ H1 f1 r1 ((re.fut f1).set q1 i)
   ·cases e2
 ·have hv:isComp v=false:=by
   cases v<;>first|rfl|(exfalso;cases tg<;>first|(exact absurd ⟨_,_,rfl⟩ hn)|(exact fx9 h3))
  refine PS.imp (Jvj (he.e X c _ g h2) (ht.g X c _ g h1) (by show Gk v (some tg) _ _=_;exact Jdo hv) (Jgw (λa b p z a' b' p' z'=>by subst z;subst z';exact Az h3) nlist) one) λD U H q=>Jpk q
def Jrr(he:Snd C e):∀(X:Cx) (c:Ck) (x:Stmt),Gd X C c->Wh (.aug i e) c x=true->PS X x (tS X.K C (.aug i e)):=by
 intro X c x g h;cases x<;>try (exact fx9 h)
 rename_i tg op v pos;cases tg<;>try (exact fx9 h)
 cases op<;>try (exact fx9 h)
 replace h:=aB h
 simp only[Al,beq_iff_eq]at h;obtain⟨⟨h1,h2⟩,h3⟩:=h;obtain⟨o1,o2⟩:=g.own h2;refine PS.imp (Jvi (i:=i) g.nd (by rw[g.N];exact h1) o1 (he.e X c _ g h3) Jwt o2) λD U H hq_=>?_;obtain⟨ρ,S,Z,fl,S',rs,re,e,fin⟩:=hq_;simp only[Jnu]at e;split at e<;>try (cases e;done)
 rename_i x hx;obtain⟨y,S1,e1,e⟩:=Res.bind_eq_ok e;split at e<;>try (cases e;done)
 cases e;obtain⟨v,hv,rv⟩:=re.at' i _ hx;refine⟨v,hv,ρ,S,Z,_,S',rs,re,e1,λρ1 v1 H1 f1 r1 q1=>⟨x,_,rv.int_inv,q1.int_inv,?_⟩⟩;exact fin ρ1 _ H1 f1 r1 ((re.fut f1).set (RelD.int _) i)
theorem Jrf(ht:Snd C t)(ha:Snd C a)(hb:Snd C b):∀(X:Cx) (c:Ck) (x:Stmt),Gd X C c->Wh (.ifs t a b) c x=true->PS X x (tS X.K C (.ifs t a b)):=by
 intro X c x g h;cases x<;>try (exact fx9 h)
 replace h:=aB h
 simp only[Al]at h;refine PS.imp (Jyn (ht.t X c _ g h.1.1) (ha.b X c _ g h.1.2) (hb.b X c _ g h.2)) λD U H hq_=>?_;obtain⟨ρ,S,Z,fl,S',rs,re,e,fin⟩:=hq_;obtain⟨k,S1,e1,e⟩:=Res.bind_eq_ok e;refine⟨ρ,S,Z,k,S1,rs,re,e1,λρ1 H1 f1 r1=>?_⟩;have fin':FlOk X.K ρ1 H1 fl S' D:=by
  cases fl with
  |nx Z'=>exact λρ2 σ2 H2 f2=>fin ρ2 σ2 H2 (f1.trans f2)
  |rt d=>exact λρ2 σ2 H2 f2=>fin ρ2 σ2 H2 (f1.trans f2)
 cases k with
 |true=>exact Wfq ⟨ρ1,S1,Z,fl,S',r1,re.fut f1,e,fin'⟩
 |false=>exact Wfr ⟨ρ1,S1,Z,fl,S',r1,re.fut f1,e,fin'⟩
theorem FlOk.fut{K:Af}{ρ ρ1:List Addr}{H H1:Hp}{fl:Fl}{S':Store}{D:Ends}(fin:FlOk K ρ H fl S' D)(f1:Fut K ρ H ρ1 H1):FlOk K ρ1 H1 fl S' D:=by
 cases fl with
 |nx Z'=>exact λρ2 σ2 H2 f2=>fin ρ2 σ2 H2 (f1.trans f2)
 |rt d=>exact λρ2 σ2 H2 f2=>fin ρ2 σ2 H2 (f1.trans f2)
theorem Jrj(ht:Snd C t)(hi:Snd C i)(hb:Snd C b):∀(X:Cx) (c:Ck) (x:Stmt),Gd X C c->Wh (.forr t i b) c x=true->PS X x (tS X.K C (.forr t i b)):=by
 intro X c x g h;cases x<;>try (exact fx9 h)
 rename_i tg iter body els pos;cases els<;>try (exact fx9 h)
 replace h:=aB h
 simp only[Al]at h;obtain⟨pi,fs0⟩:=hi.i X c tg iter g h.1.1.2 h.2;refine PS.imp (Jvg (by rw[g.xe];exact PassesOwn.never) g.calm pi (ht.g X c _ g h.1.1.1) (hb.b X c _ g h.1.2) fs0) λD U H hq_=>?_;obtain⟨ρ,S,Z,fl,S',rs,re,e,fin⟩:=hq_;obtain⟨w,S1,e1,e⟩:=Res.bind_eq_ok e;obtain⟨gg,ds⟩:=w;refine⟨ρ,S,Z,gg,ds,S1,rs,re,e1,λρ0 H0 J f0 r0 it=>?_⟩;have fin0:=fin.fut f0
 let turn:Mi.D->En->Store->Res Fl:=λd τ1 S2=>(evG C t d τ1 S2).bind λτ2 S3=>evB C b τ2 S3
 have e:forL turn gg ds ds.length 0 Z S1=.ok fl S':=e;refine⟨λi m U H=>∃ρ S Z,Fut X.K ρ0 H0 ρ H/\RelS X.K ρ S H/\RelE X.K ρ H Z U/\i+m=ds.length/\forL turn gg ds m i Z S=.ok fl S',⟨ds.length,ρ0,S1,Z,Fut.refl,r0,re.fut f0,Fg _,e⟩,?_⟩;rintro i m U H ⟨ρ,S,Z,f,rs,re,hi,e⟩;cases m with
 |zero=>
  simp only[forL]at e;split at e
  ·rename_i hs;cases e;refine .inl ⟨?_,fin0 ρ U H f rs re⟩;have:i=ds.length:=by lia
   rw[this];exact it.stop ρ H _ f rs hs
  ·cases e
 |succ m=>
  simp only[forL]at e;split at e
  ·rename_i hs;split at e
   ·cases e
   ·rename_i d hd;obtain⟨hgo,hy⟩:=it.go ρ H S i d f rs hs hd;refine .inr ⟨hgo,λU' H'=>∃ρ' S'' Z',Fut X.K ρ0 H0 ρ' H'/\RelS X.K ρ' S'' H'/\RelE X.K ρ' H' Z' U'/\forL turn gg ds m (i+1) Z' S''=.ok fl S',λU' H' ⟨ρ',S'',Z',a1,a2,a3,a4⟩=>⟨m,Dg m,ρ',S'',Z',a1,a2,a3,by lia,a4⟩,λx H' hyl=>?_⟩;obtain⟨f0,rs,rd⟩:=hy x H' hyl
    replace re:=re.fut f0
    replace f:=f.trans f0
    obtain⟨fl1,S1,e1,e⟩:=Res.bind_eq_ok e;obtain⟨τ2,S2,eG,eB⟩:=Res.bind_eq_ok e1;refine⟨ρ,S,Z,d,τ2,S2,rs,re,rd,eG,λρ1 σ1 H1 f1 r1 q1=>⟨ρ1,S2,τ2,fl1,S1,r1,q1,eB,?_⟩⟩;cases fl1 with
    |nx τ1=>exact λρ2 σ2 H2 f2 r2 q2=>⟨ρ2,S1,τ1,f.trans (f1.trans f2),r2,q2,e⟩
    |rt d=>
     simp only at e;cases e;exact λρ2 v2 H2 f2 r2 q2=>fin0 ρ2 v2 H2 (f.trans (f1.trans f2)) r2 q2
  ·cases e
def Jra(ha:Snd C a):∀(X:Cx) (c:Ck) (x:Stmt),Gd X C c->Wh (.ret a) c x=true->PS X x (tS X.K C (.ret a)):=by
 intro X c x g h;cases x<;>try (exact fx9 h)
 rename_i v pos;cases v<;>try (exact fx9 h)
 refine PS.imp (Jvf (ha.e X c _ g h)) λD U H hq_=>?_;obtain⟨ρ,S,Z,fl,S',rs,re,e,fin⟩:=hq_;obtain⟨d,S1,e1,e⟩:=Res.bind_eq_ok e;cases e;exact⟨ρ,S,Z,d,_,rs,re,e1,fin⟩
def Jrl(ha:Snd C a):∀(X:Cx) (c:Ck) (x:Stmt),Gd X C c->Wh (.exp a) c x=true->PS X x (tS X.K C (.exp a)):=by
 intro X c x g h;cases x<;>try (exact fx9 h)
 replace h:=aB h
 simp only[Al,I9]at h;refine PS.imp (Jr9 (ha.e X c _ g h.1) (Jg4 h.2)) λD U H hq_=>?_;obtain⟨ρ,S,Z,fl,S',rs,re,e,fin⟩:=hq_;obtain⟨d,S1,e1,e⟩:=Res.bind_eq_ok e;cases e;exact⟨ρ,S,Z,d,_,rs,re,e1,λρ1 v1 H1 f1 r1 q1=>fin ρ1 U H1 f1 r1 (re.fut f1)⟩
theorem Jlb:∀(X:Cx) (c:Ck) (x:List Stmt),Gd X C c->V7 .nul c x=true->PSs X x (tB' X.K C .nul):=by
 intro X c x g h;cases x with
 |cons s ss=>exact fx9 h
 |nil=>
  refine PSs.imp Jr8 λD U H hq_=>?_;obtain⟨ρ,S,Z,fl,S',rs,re,e,fin⟩:=hq_;cases e;exact fin ρ _ H Fut.refl rs re
theorem Jlc(ha:Snd C a)(hb:Snd C b):∀(X:Cx) (c:Ck) (x:List Stmt),Gd X C c->V7 (.cns a b) c x=true->PSs X x (tB' X.K C (.cns a b)):=by
 intro X c x g h;cases x with
 |nil=>exact fx9 h
 |cons s ss=>
  replace h:=aB h
  refine PSs.imp (Jnz (ha.s X c _ g h.1) (hb.b X c _ g h.2)) λD U H hq_=>?_;obtain⟨ρ,S,Z,fl,S',rs,re,e,fin⟩:=hq_;obtain⟨fl1,S1,e1,e⟩:=Res.bind_eq_ok e;refine⟨ρ,S,Z,fl1,S1,rs,re,e1,?_⟩;cases fl1 with
  |nx τ1=>exact λρ1 σ1 H1 f1 r1 q1=>⟨ρ1,S1,τ1,fl,S',r1,q1,e,fin.fut f1⟩
  |rt d=>simp only at e;cases e;exact fin
end
section
variable {C:Pr}
def Jnn:∀(X:Cx) (c:Ck) (x:Expr),Gd X C c->Uy (.dnil k) c x=true->PE X x (tE X.K C (.dnil k)):=by
 intro X c x g h;cases x<;>try (exact fx9 h)
 rename_i ks vs pos;rcases ks with _|⟨k,ks⟩<;>rcases vs with _|⟨v,vs⟩<;>try (exact fx9 h)
 rcases k with _|_|k
 ·refine PE.imp Job λU H Q ⟨ρ,S,Z,d,S',rs,re,e,fin⟩=>?_;cases e;exact fin.newO rs λp n=>⟨[],Jaf,rfl⟩
 ·refine PE.imp Jn9 λU H Q ⟨ρ,S,Z,d,S',rs,re,e,fin⟩=>?_;cases e;exact fin.newO rs λp n=>⟨[],Jaf,rfl⟩
 ·refine PE.imp Joa λU H Q ⟨ρ,S,Z,d,S',rs,re,e,fin⟩ p hp=>?_;cases e;exact fin (ρ++[p]) _ _ (Ja7 hp [p]) (rs.allocO hp ⟨[],Jaf,rfl⟩) (by simp only[RelD];exact⟨p,rfl,by rw[<-rs.len];simp⟩)
def Jjp{X:Cx}(h1:(!Jek e0)=true):∀nm,attributeBase e0 nm X.env (eval e0 X.env)=eval e0 X.env:=λnm=>by
 cases e0<;>try rfl
 rename_i f0 a0 k0 p0;cases f0<;>try rfl
 cases a0<;>try rfl
 cases k0<;>try rfl
 exact fx9 h1
def Jwr{kvs:List (Rdu.PK×D)}(ha:H a=some (.frz o (.dT ws)))(q:RelKv pK K ρ H kvs ws)
  (hB:∀(j:Nat) (k:List Key) (v:V) (c:Addr),ws[j]? =some (k,v)->bs[j]? =some c->SqT K H c (k.map kV)):ItOk K ρ H (Itw K b a o ws bs) none (kvs.map (dwI b))where
 go:=λρ' H' S i d f r s e=>by
  simp only[nth,Ao,Ak]at e;obtain⟨p,hp,rfl⟩:=e;obtain⟨v,hv,rv⟩:=q.get hp;refine⟨⟨f.frz _ _ _ ha,(Ae.mp hv).1,λj k v c h1 h2=>f.tup _ _ (hB j k v c h1 h2)⟩,λx H2 ⟨e1,k,u,hu,e2⟩=>?_⟩;subst e1;rw[hv]at hu;cases hu;refine⟨Fut.refl,r,?_⟩;cases b with
  |true=>cases(show x=v from e2);exact rv.fut f
  |false=>
   obtain⟨c,rfl,sq⟩:=e2;exact⟨c,_,rfl,sq,RelDs.cons (RelD.int _) (RelDs.cons (RelD.int _) RelDs.nil)⟩
 stop:=λρ' H' S f r s=>⟨f.frz _ _ _ ha,by rw[Ah,q.length];exact Ai _⟩
def Jpy{xs:List V}(e:H a=some o0)(n:∀xs,o0≠ .tup xs)(q:SqT K H c xs):SqT K (upd H a o) c xs:=
 q.imp_left λz=>by rw[Jac (Je1 z e λy=>n _ y.symm)];exact z
def Jrm(hn:Snd C .nul)(hg:Snd C tg)(ha:Snd C a)(he:Snd C el):∀(X:Cx) (c:Ck) (x:Expr),Gd X C c->Uy (.dcm b N keep tg a el) c x=true->PE X x (tE X.K C (.dcm b N keep tg a el)):=by
 intro X c x g h;cases x<;>try (exact fx9 h)
 rename_i elt gens scope pos;rcases gens with _|⟨⟨t,i,_|⟨f,fs⟩,asy⟩,_|⟨g2,gens⟩⟩<;>try (exact fx9 h)
 replace h:=aB h
 simp only[Al,beq_iff_eq]at h;obtain⟨⟨⟨⟨⟨rfl,h1⟩,h2⟩,h3⟩,h4⟩,h5⟩:=h;have pi:PI X t i (iDw X b (tE X.K C a))/\∀v,C5 i X.env v=pure v:=by
  cases b with
  |true=>
   obtain⟨⟨_,p,q,rfl,h8,h9⟩,h4⟩:=aO h4;exact⟨Jsg (ha.e X c _ g h4) (Jjp h8 _) h9,λ_=>rfl⟩
  |false=>exact⟨Jsh (ha.e X c _ g h4),V5 (Y6 (m:=a) h4)⟩
 refine PE.imp (Jsl (Jlo (g:=tG X.K C tg) (tc:=tC X.K C .nul) (te:=tE X.K C el) (Ck.compOk g h1).1 g.calm pi.1 (λs₃ H ex pins=>hg.g _ _ _ (g.inner h1 s₃ H ex pins) h3) (λs₃ H ex pins=>hn.cd _ _ _ (g.inner h1 s₃ H ex pins) rfl) (λs₃ H ex pins=>he.e _ _ _ (g.inner h1 s₃ H ex pins) h5) pi.2)) λU H Q hq_=>?_;obtain⟨ρ,S,Z,d,S',rs,re,e,fin⟩:=hq_;obtain⟨x,S1,e1,e8⟩:=Res.bind_eq_ok e;obtain⟨⟨l,kvs⟩,S2,e2,e7⟩:=Res.bind_eq_ok e8;obtain⟨ys,S3,e3,e9⟩:=Res.bind_eq_ok e7;clear e e8 e7;refine⟨ρ,S,Z,x,S1,rs,re,e1,λρ1 v1 H1 f1 r1 q1=>?_⟩;unfold frD at e2;split at e2<;>try (cases e2;done)
 split at e2<;>try (cases e2;done)
 rename_i l' kvs' hk;cases e2;unfold thD at e9;split at e9<;>try (cases e9;done)
 rename_i us hu;cases e9;obtain⟨p,ws,rfl,hp,ea,q⟩:=r1.dtu q1 (Jbr hk);refine⟨p,ws,rfl,ea,λnf o bs hB=>?_⟩;have f2:Fut X.K ρ1 H1 ρ1 (upd H1 p (.frz o (.dT ws))):=Jc9 (o0:=.dT ws) ea (λ_ z=>by cases z) (λ_ _ z=>by cases z);have q2:=q.fut f2;refine Jjm (cd:=.nul) h2 (Jwr Jaf q2 λj k v c h1 h2=>f2.tup _ _ (.inl (hB j k v c h1 h2))) (r1.setO (o0:=.dT ws) (ob:=.fz kvs) hp f2 ⟨ws,o,Jaf,q2⟩) ((re.fut (f1.trans f2)).inner 1 keep) e3 λρ3 H3 xs f3 r3 q3=>λp' n=>?_;have e4:=f3.frz p o _ Jaf;obtain⟨ws',o',e5,q5⟩:=r3.ob l p _ (f3.get hp) hu;rw[e4]at e5;cases e5;have e6:upd H3 p' (.lst xs) p=some (.frz o (.dT ws)):=by rw[Jac (Jak e4 n)];exact e4
 have f4:Fut X.K ρ3 H3 (ρ3++[p']) (upd H3 p' (.lst xs)):=Ja7 n [p'];have f5:=(f2.trans f3).trans f4;have w:Fu X.K (ρ3++[p']) (upd H3 p' (.lst xs)) (ρ3++[p']) (upd (upd H3 p' (.lst xs)) p (.dT ws)):=⟨⟨[],by simp⟩,λc xs z=>Jpy e6 nofun z,λc o xs z=>by rw[Jac (Je1 z e6 nofun)];exact z⟩
 have r6:=r3.alloc n q3;refine⟨p,o,.dT ws,nf,e6,fin _ _ _ (f1.trans ⟨f5.pre,λc xs z=>Jpy e6 nofun (f5.tup _ _ z),λc o u z=>by rw[Jac (Je1 z ea nofun)];exact f5.frz _ _ _ z⟩) (r6.setW (o0:=.dT ws) (f5.get hp) w ⟨ws,Jaf,(q5.fut f4).fu w⟩) ?_⟩;refine⟨p',rfl,?_⟩;rw[<-r3.len];simp
def Jrh(ha:Snd C a):∀(X:Cx) (c:Ck) (x:Expr),Gd X C c->Uy (.hld a) c x=true->PE X x (tE X.K C (.hld a)):=by
 intro X c x g h;obtain⟨⟨e,_,_,_,_,_,_,rfl,h5,h6⟩,h⟩:=aO h;simp only[Al]at h;obtain⟨⟨⟨⟨h1,h2⟩,h3⟩,h4⟩,h7⟩:=h;refine PE.imp (Jso g.calm (Fh (Ht (by decide:8<=64) _) g.top.un) (g.glo h1) (g.top.blt _ (Jam h3)) (g.glo h2) (g.top.blt _ (Jam h4)) (ha.e X c _ g h7) (Jjp h5 _) h6) λU H Q ⟨ρ,S,Z,d,S',rs,re,e,fin⟩=>?_;obtain⟨x,S1,e1,e⟩:=Res.bind_eq_ok e;refine⟨ρ,S,Z,x,S1,rs,re,e1,λρ1 v1 H1 f1 r1 q1=>?_⟩;unfold Ye at e;split at e<;>try (cases e;done)
 split at e<;>try (cases e;done)
 rename_i kvs hk;split at e<;>try (cases e;done)
 rename_i hup;cases e;obtain⟨p,ws,rfl,_,ea,q⟩:=r1.dtu q1 (Jbr hk);exact⟨p,ws,_,rfl,Jps ea q hup,Fin.newO (ρ:=ρ1) (λρ2 v2 H2 f2=>fin ρ2 v2 H2 (f1.trans f2)) r1 λp n=>⟨ws,Jaf,q.fut (Ja7 n [p])⟩⟩
def Jre(ha:Snd C a):∀(X:Cx) (c:Ck) (x:Expr),Gd X C c->Uy (.lsp a) c x=true->PE X x (tE X.K C (.lsp a)):=by
 intro X c x g h;obtain⟨⟨e,_,_,_,_,rfl⟩,h⟩:=aO h;simp only[Al]at h;obtain⟨⟨⟨⟨h1,h2⟩,h3⟩,h4⟩,h5⟩:=h;refine PE.imp (Jlm g.calm (Fh (Ht (by decide:9<=64) _) g.top.un) (g.glo h1) (g.top.blt _ (Jam h3)) (g.glo h2) (g.top.blt _ (Jam h4)) (Jbv (ha.e X c _ g h5) Je8 (Jae (noStar h5))) (Jae (noStar h5))) λU H Q ⟨ρ,S,Z,d,S',rs,re,e,fin⟩=>?_;obtain⟨x,S1,e1,e⟩:=Res.bind_eq_ok e;refine⟨ρ,S,Z,x,S1,rs,re,e1,λρ1 v1 H1 f1 r1 q1=>?_⟩;unfold X5 at e;split at e<;>try (cases e;done)
 split at e<;>try (cases e;done)
 rename_i ps hp;split at e<;>try (cases e;done)
 rename_i hl;cases e;obtain⟨es,hs,hp⟩:=Nt.mp hp;obtain⟨p,xs,rfl,_,hx,t⟩:=r1.lst q1 (Jan hs);obtain⟨bs,rfl,hb⟩:=Jgh (g:=V.ref) (R:=λ(k:Rdu.PK) b=>SqT X.K H1 b ((pK k).map kV)) (λ{d b v} r e=>by
  cases Jee e;obtain⟨a,eb,h⟩:=Jd8 g.top.np r;exact⟨a,eb,SqT.of h⟩) t hp
 exact⟨p,bs,ps,rfl,SqL.of hx,hb,hl,fin ρ1 _ H1 f1 r1 (RelD.int _)⟩
def Jmc(h:Wb S l c=some fs):S[l]? =some (.ins c fs):=by
 unfold Wb at h;split at h
 ·rename_i c' fs' e;split at h
  ·rename_i hc;cases h;rw[e,hc]
  ·cases h
 ·cases h
def RelS.ins(rs:RelS K ρ S H)(r:RelD K ρ H (.loc l) x)(h:Wb S l c=some fs):
  ∃a Ca dx ws,x=.ref a/\ρ[l]? =some a/\Bb K Ax (Ab c)=some (some (.ref Ca))/\H a=some (.ins Ca dx ws)/\Vx K ρ H fs ws:=by
 obtain⟨a,rfl,hl⟩:=r.loc_inv;obtain⟨Ca,dx,ws,n,e,q⟩:=rs.ob l a _ hl (Jmc h);exact⟨a,Ca,dx,ws,rfl,hl,n,e,q⟩
def Jet{X:Cx}(h1:Yv e0=true):∀nm,attributeBase e0 nm X.env (eval e0 X.env)=eval e0 X.env:=λnm=>by
 cases e0<;>first|rfl|exact fx9 h1
def Jrk(ha:Snd C a):∀(X:Cx) (c:Ck) (x:Expr),Gd X C c->Uy (.fld cl f a) c x=true->PE X x (tE X.K C (.fld cl f a)):=by
 intro X c x g h;cases x<;>try (exact fx9 h)
 rename_i e0 y pos
 replace h:=aB h
 simp only[Al,beq_iff_eq]at h;obtain⟨⟨⟨rfl,h1⟩,h2⟩,h3⟩:=h;obtain⟨Ca,n0,hc,hn⟩:=g.top.fds cl f (by simpa using h2);refine PE.imp (Jvu (ha.e X c _ g h3) (Jet h1 _)) λU H Q hq_=>?_;obtain⟨ρ,S,Z,d,S',rs,re,e,fin⟩:=hq_;obtain⟨x1,S1,e1,e⟩:=Res.bind_eq_ok e;refine⟨ρ,S,Z,x1,S1,rs,re,e1,λρ1 v1 H1 f1 r1 q1=>?_⟩;split at e<;>try (exact absurd e Jaa)
 rename_i d' hd;cases e;unfold Xl at hd;split at hd<;>try (cases hd;done)
 rename_i l;split at hd<;>try (cases hd;done)
 rename_i fs hi;obtain⟨b,Cb,dx,ws,rfl,hl,n,eb,q⟩:=r1.ins q1 hi;rw[n0]at n;cases n;rcases q.look f with⟨z,_⟩|⟨d2,v2,z1,z2,z3⟩
 ·rw[z]at hd;cases hd
 ·rw[z1]at hd;cases hd;exact⟨b,_,dx,ws,v2,rfl,eb,hc,hn,z2,fin ρ1 v2 H1 f1 r1 z3⟩
def Jq8(ho:Snd C o)(hv:Snd C v):∀(X:Cx) (c:Ck) (x:Stmt),Gd X C c->Wh (.sfd cl f o v) c x=true->PS X x (tS X.K C (.sfd cl f o v)):=by
 intro X c x g h;cases x<;>try (exact fx9 h)
 rename_i tgs w pos;rcases tgs with _|⟨tg,tgs⟩<;>try (exact fx9 h)
 cases tg<;>try (exact fx9 h)
 rename_i e0 y p0;rcases tgs with _|⟨t2,tgs⟩<;>try (exact fx9 h)
 replace h:=aB h
 simp only[Al,beq_iff_eq,I9]at h;obtain⟨⟨⟨⟨rfl,h1⟩,h2⟩,h3⟩,h4⟩:=h;obtain⟨Ca,n0,hc,hn⟩:=g.top.fds cl f (by simpa using h2);refine PS.imp (Jvh (ho.e X c _ g h3) (hv.e X c _ g h4) (Jdo h1)) λD U H hq_=>?_;obtain⟨ρ,S,Z,fl,S',rs,re,e,fin⟩:=hq_;obtain⟨y1,S1,e1,e⟩:=Res.bind_eq_ok e;obtain⟨x1,S2,e2,e⟩:=Res.bind_eq_ok e;refine⟨ρ,S,Z,y1,S1,rs,re,e1,λρ1 v1 H1 f1 r1 q1=>⟨ρ1,S1,Z,x1,S2,r1,re.fut f1,e2,λρ2 v2 H2 f2 r2 q2=>?_⟩⟩;split at e<;>try (exact absurd e Jaa)
 rename_i S3 hs;cases e;unfold Yn at hs;split at hs<;>try (cases hs;done)
 rename_i l;split at hs<;>try (cases hs;done)
 rename_i fs hi;split at hs<;>try (cases hs;done)
 rename_i hl;cases hs;obtain⟨b,Cb,dx,ws,rfl,hb,n,eb,q⟩:=r2.ins q2 hi;rw[n0]at n;cases n;have fm:Fut X.K ρ2 H2 ρ2 (upd H2 b (.ins Ca dx (Vm (Ab f) v1 ws))):=Jc9 (o0:=.ins Ca dx ws) eb (λ_ z=>by cases z) (λ_ _ z=>by cases z);refine⟨b,Ca,dx,ws,rfl,eb,hc,hn,by rw[<-q.length];exact hl,?_⟩;have ft:=f1.trans (f2.trans fm);exact fin ρ2 U _ ft (r2.setO (o0:=.ins Ca dx ws) hb fm ⟨Ca,dx,_,n0,Jaf,(q.put f (q1.fut f2)).fu fm.fu⟩) (re.fut ft)
theorem Jly{X:Cx}{ap pos:Pos}{es:List Expr}(hb:attributeBase e0 m X.env (eval e0 X.env)=eval e0 X.env)(hf:O3 (es.length+([]:List Jv).length) (D8 pos (Bm es X.env)) (Jj pos (Gf [] X.env))=true)
  (hl:(ap.endLine==pos.line)=true):eval (.Call (.Attribute e0 m ap) es [] pos) X.env=(do
   let ov<-eval e0 X.env
   Mw ap.atName
   let(f,first)<-holding [ov] (getMethod ov m (do return (<-importBound e0 X.env).getD true))
   callWith pos f first (D8 pos (Bm es X.env)) (Jj pos (Gf [] X.env))):=by
 show(do
  let ov<-attributeBase e0 m X.env (eval e0 X.env)
  Mw ap.atName
  methodCall e0 m ap pos X.env ov (es.length+([]:List Jv).length) (D8 pos (Bm es X.env)) (Jj pos (Gf [] X.env)))=_
 rw[hb];unfold methodCall calleeOf methodCallPos;rw[hf,hl];rfl
def Jk0(ho:Snd C o)(ha:Snd C as):∀(X:Cx) (c:Ck) (x:Expr),Gd X C c->Uy (.mcl cl m f o as) c x=true->PE X x (tE X.K C (.mcl cl m f o as))/\PT X x (tT X.K C (.mcl cl m f o as)):=by
 intro X c x g h;cases x<;>try (exact fx9 h)
 rename_i fn es kws pos;cases fn<;>try (exact fx9 h)
 rename_i e0 y ap;cases kws<;>try (exact fx9 h)
 replace h:=aB h
 simp only[Al,beq_iff_eq,decide_eq_true_eq]at h;obtain⟨⟨⟨⟨⟨⟨rfl,h1⟩,hln⟩,hfw⟩,h2⟩,h3⟩,h4⟩:=h;obtain⟨k,a,fd,ps,Ca,hr',n0,hc,hm,F,hb⟩:=g.top.mts cl m f (by simpa using h2);have hr:=hr'.mono (Ks k);have rd:∀{t:TA},(∀U H Q,tA X.K C as U H Q->t U H Q)->∀U H Q,tE X.K C (.mcl cl m f o as) U H Q->Xx Ca (Ab m) (spM X.K C f) [] E0 (tE X.K C o) t U H Q:=λ{t} ht U H Q ⟨ρ,S,Z,d,S',rs,re,e,fin⟩=>by
  obtain⟨x1,S1,e1,e⟩:=Res.bind_eq_ok e;split at e<;>try (exact absurd e Jaa)
  rename_i hrc;obtain⟨ds,S2,e2,e⟩:=Res.bind_eq_ok e;refine⟨ρ,S,Z,x1,S1,rs,re,e1,λρ1 v1 H1 f1 r1 q1=>?_⟩;unfold isRec at hrc;split at hrc<;>try (cases hrc;done)
  rename_i l;split at hrc<;>try (cases hrc;done)
  rename_i fs hi;obtain⟨b,Cb,dx,ws,rfl,hl,n,eb,q⟩:=r1.ins q1 hi;rw[n0]at n;cases n;have hno:ws.lookup (Ab m)=none:=by
   rcases q.look m with⟨_,z⟩|⟨d2,v2,z1,_,_⟩
   ·exact z
   ·rw[z1]at hrc;cases hrc
  refine⟨b,dx,ws,rfl,eb,hno,ht U H1 _ ⟨ρ1,S1,Z,ds,S2,r1,re.fut f1,e2,λρ2 vs H2 f2 r2 q2=>?_⟩⟩;show spM X.K C f (_::(vs++[])) H2 Q E0;rw[Gn];exact⟨ρ2,S2,.loc _::ds,d,S',r2,RelDs.cons (q1.fut f2) q2,e,λρ3 v3 H3 f3 r3 q3=>fin ρ3 v3 H3 (f1.trans (f2.trans f3)) r3 q3⟩
 have hform:O3 (es.length+([]:List Jv).length) (D8 pos (Bm es X.env)) (Jj pos (Gf [] X.env))=true:=by
  unfold O3;have hall:(D8 pos (Bm es X.env)).all (λx=> !x.1)=true:=Jfm _ _ (Ve (env:=X.env) h4);rw[show(D8 pos (Bm es X.env)).all (!·.1)=true from hall];simp only[K9,Al,decide_eq_true_eq];exact⟨rfl,by show es.length+0+0<30;lia⟩
 have hpl:=Jly (X:=X) (e0:=e0) (m:=Ab m) (ap:=ap) (pos:=pos) (es:=es) (Jet h1 _) hform (by simpa using hln);have pe:PE X (.Call (.Attribute e0 (Ab m) ap) es [] pos) (tE X.K C (.mcl cl m f o as)):=by
  cases es with
  |nil=>
   refine PE.imp (Jn6 (ho.e X c _ g h3) hc hm F hr hb .nil Jlr hpl) (rd λU H Q ⟨ρ,S,Z,ds,S',rs,re,e,fin⟩=>?_);cases as<;>try (exact fx9 h4)
   cases e;exact fin ρ [] H Fut.refl rs RelDs.nil
  |cons e es=>
   cases as<;>try (exact fx9 h4)
   have h4':=h4
   replace h4:=aB h4
   refine PE.imp (Jsn (ho.e X c _ g h3) hc hm F hr hb .nil Jlr (ha.a X c _ g h4') (Jae (noStar h4.1)) (by rw[Jax];exact Ve h4.2) hpl) (rd λU H Q z=>z)
 refine⟨pe,Jjz pe (λ_=>rfl) λZ S b S' e=>?_⟩;obtain⟨x1,S1,e1,e⟩:=Res.bind_eq_ok e;split at e<;>try (exact absurd e Jaa)
 rename_i hrc;obtain⟨ds,S2,e2,e⟩:=Res.bind_eq_ok e;obtain⟨d,S3,e3,e⟩:=Res.bind_eq_ok e;split at e
 ·rename_i k hk;cases e;exact⟨d,Res.bnd e1 (by rw[if_pos hrc];exact Res.bnd e2 e3),hk⟩
 ·cases e
def Jrb:∀(X:Cx) (c:Ck) (x:Expr),Gd X C c->Uy (.new cl f) c x=true->PE X x (tE X.K C (.new cl f)):=by
 intro X c x g h;obtain⟨⟨_,p,pos,rfl⟩,h0⟩:=aO h;obtain⟨h0,h3⟩:=aB h0;obtain⟨h1,h2⟩:=aB h0;obtain⟨k,a,fd,ps,Ca,hr,n0,hm,mk,F,hb⟩:=g.top.nws cl f (by simpa using h3);refine PE.imp (Jn7 mk F hr (g.glo h1) hm hb .nil Jlr (Xr h2)) λU H Q hq_=>?_;obtain⟨ρ,S,Z,d,S',rs,re,e,fin⟩:=hq_;obtain⟨r,S1,e1,e⟩:=Res.bind_eq_ok e;split at e<;>try (exact absurd e Jaa)
 cases e;intro x dx hx hdx hne;have f1:Fut X.K ρ H ρ (upd H dx (.own x)):=Ja1 hdx;have hx':(upd H dx (.own x)) x=none:=by rw[Jac (Eb hne)];exact hx
 have f2:Fut X.K ρ (upd H dx (.own x)) (ρ++[x]) (upd (upd H dx (.own x)) x (.ins Ca dx [])):=Ja7 hx' [x];have r2:RelS X.K (ρ++[x]) (S++[.ins cl []]) (upd (upd H dx (.own x)) x (.ins Ca dx [])):=(rs.new hdx).allocO hx' ⟨Ca,dx,[],n0,Jaf,rfl⟩;have hl:(ρ++[x])[S.length]? =some x:=by rw[<-rs.len];simp
 refine⟨ρ++[x],S++[.ins cl []],[.loc S.length],.non,S',r2,RelDs.cons (by simp only[RelD];exact⟨x,rfl,hl⟩) RelDs.nil,e1,λρ3 v3 H3 f3 r3 q3=>⟨q3.non_inv,?_⟩⟩;refine fin ρ3 _ H3 (f1.trans (f2.trans f3)) r3 ?_;simp only[RelD];exact⟨x,rfl,f3.get hl⟩
def Jq9:∀(X:Cx) (c:Ck) (x:Stmt),Gd X C c->Wh .rse c x=true->PS X x (tS X.K C .rse):=by
 intro X c x g h pins s U H D I hq_;obtain⟨ρ,S,Z,fl,S',rs,re,e,fin⟩:=hq_;exact absurd e Jaa
end
noncomputable def kd:M->Nat
 |.nul=>0|.cns _ _=>0
 |.rng _=>2|.enm _=>2|.zp _ _=>2
 |.tvar _=>3|.ttup _=>3|.tsub _ _=>3
 |.asg _ _=>4|.aug _ _=>4|.ifs _ _ _=>4|.forr _ _ _=>4|.ret _=>4|.exp _=>4|.rse=>4|.sfd _ _ _ _=>4
 |_=>1
def Wv(h:Uy m c x=true):kd m=1:=by
 cases m<;>first|rfl|(exact fx9 h)
def Wf(h:Vl m c x=true):kd m=0:=by
 cases m<;>first|rfl|(exact fx9 h)
def Yr(h:Yx m c x=true):kd m=0:=by
 cases m<;>first|rfl|(exact fx9 h)
def Ys(h:Zu m c x=true):kd m=0:=by
 cases m<;>first|rfl|(exact fx9 h)
def Zm(h:Xb m c x=true):kd m=0\/kd m=2:=by
 cases m<;>first|exact .inl rfl|exact .inr rfl|(exact fx9 h)|(cases x<;>exact fx9 h)
def X7(h:Wi m c x=true):kd m=3:=by
 cases m<;>first|rfl|(exact fx9 h)|(cases x<;>exact fx9 h)
def Jos(h:Wc m c x=true):kd m=0:=by
 cases m<;>first|rfl|(exact fx9 h)
def X6(h:Wh m c x=true):kd m=4:=by
 cases m<;>first|rfl|(exact fx9 h)|(cases x<;>exact fx9 h)
def Yt(h:V7 m c x=true):kd m=0:=by
 cases m<;>first|rfl|(exact fx9 h)
section
variable {C:Pr}
def Snd.ofE(hk:kd m=1)(he:∀(X:Cx) (c:Ck) (x:Expr),Gd X C c->Uy m c x=true->PE X x (tE X.K C m))(ht:∀(X:Cx) (c:Ck) (x:Expr),Gd X C c->Uy m c x=true->PT X x (tT X.K C m)):Snd C m where
 e:=he
 t:=ht
 a:=λX c x g h=>absurd ((Wf h).symm.trans hk) (by decide)
 bv:=λX c w x p g h=>absurd ((Wf h).symm.trans hk) (by decide)
 bt:=λX c w x p g h=>absurd ((Wf h).symm.trans hk) (by decide)
 o:=λX c x g h=>absurd ((Yr h).symm.trans hk) (by decide)
 cd:=λX c x g h=>absurd ((Ys h).symm.trans hk) (by decide)
 i:=λX c tg x g h _=>(Zm h).elim (λz=>absurd (z.symm.trans hk) (by decide)) (λz=>absurd (z.symm.trans hk) (by decide))
 g:=λX c x g h=>absurd ((X7 h).symm.trans hk) (by decide)
 gs:=λX c x g h=>absurd ((Jos h).symm.trans hk) (by decide)
 s:=λX c x g h=>absurd ((X6 h).symm.trans hk) (by decide)
 b:=λX c x g h=>absurd ((Yt h).symm.trans hk) (by decide)
def Snd.ofI(hk:kd m=2)(hi:∀(X:Cx) (c:Ck) (tg x:Expr),Gd X C c->Xb m c x=true->itT m tg=true->PI X tg x (tI X.K C m)/\∀v,C5 x X.env v=pure v):Snd C m where
 e:=λX c x g h=>absurd ((Wv h).symm.trans hk) (by decide)
 t:=λX c x g h=>absurd ((Wv h).symm.trans hk) (by decide)
 a:=λX c x g h=>absurd ((Wf h).symm.trans hk) (by decide)
 bv:=λX c w x p g h=>absurd ((Wf h).symm.trans hk) (by decide)
 bt:=λX c w x p g h=>absurd ((Wf h).symm.trans hk) (by decide)
 o:=λX c x g h=>absurd ((Yr h).symm.trans hk) (by decide)
 cd:=λX c x g h=>absurd ((Ys h).symm.trans hk) (by decide)
 i:=hi
 g:=λX c x g h=>absurd ((X7 h).symm.trans hk) (by decide)
 gs:=λX c x g h=>absurd ((Jos h).symm.trans hk) (by decide)
 s:=λX c x g h=>absurd ((X6 h).symm.trans hk) (by decide)
 b:=λX c x g h=>absurd ((Yt h).symm.trans hk) (by decide)
def Snd.ofG(hk:kd m=3)(hg:∀(X:Cx) (c:Ck) (x:Expr),Gd X C c->Wi m c x=true->PG X x (tG X.K C m)):Snd C m where
 e:=λX c x g h=>absurd ((Wv h).symm.trans hk) (by decide)
 t:=λX c x g h=>absurd ((Wv h).symm.trans hk) (by decide)
 a:=λX c x g h=>absurd ((Wf h).symm.trans hk) (by decide)
 bv:=λX c w x p g h=>absurd ((Wf h).symm.trans hk) (by decide)
 bt:=λX c w x p g h=>absurd ((Wf h).symm.trans hk) (by decide)
 o:=λX c x g h=>absurd ((Yr h).symm.trans hk) (by decide)
 cd:=λX c x g h=>absurd ((Ys h).symm.trans hk) (by decide)
 i:=λX c tg x g h _=>(Zm h).elim (λz=>absurd (z.symm.trans hk) (by decide)) (λz=>absurd (z.symm.trans hk) (by decide))
 g:=hg
 gs:=λX c x g h=>absurd ((Jos h).symm.trans hk) (by decide)
 s:=λX c x g h=>absurd ((X6 h).symm.trans hk) (by decide)
 b:=λX c x g h=>absurd ((Yt h).symm.trans hk) (by decide)
def Snd.ofS(hk:kd m=4)(hs:∀(X:Cx) (c:Ck) (x:Stmt),Gd X C c->Wh m c x=true->PS X x (tS X.K C m)):Snd C m where
 e:=λX c x g h=>absurd ((Wv h).symm.trans hk) (by decide)
 t:=λX c x g h=>absurd ((Wv h).symm.trans hk) (by decide)
 a:=λX c x g h=>absurd ((Wf h).symm.trans hk) (by decide)
 bv:=λX c w x p g h=>absurd ((Wf h).symm.trans hk) (by decide)
 bt:=λX c w x p g h=>absurd ((Wf h).symm.trans hk) (by decide)
 o:=λX c x g h=>absurd ((Yr h).symm.trans hk) (by decide)
 cd:=λX c x g h=>absurd ((Ys h).symm.trans hk) (by decide)
 i:=λX c tg x g h _=>(Zm h).elim (λz=>absurd (z.symm.trans hk) (by decide)) (λz=>absurd (z.symm.trans hk) (by decide))
 g:=λX c x g h=>absurd ((X7 h).symm.trans hk) (by decide)
 gs:=λX c x g h=>absurd ((Jos h).symm.trans hk) (by decide)
 s:=hs
 b:=λX c x g h=>absurd ((Yt h).symm.trans hk) (by decide)
def Jky:Snd C .nul where
 e:=λX c x g h=>absurd (Wv h) (by decide)
 t:=λX c x g h=>absurd (Wv h) (by decide)
 a:=λX c x g h=>by
  cases x with
  |cons e es=>exact fx9 h
  |nil=>
   refine PA.imp Je8 λU H Q hq_=>?_;obtain⟨ρ,S,Z,ds,S',rs,re,e,fin⟩:=hq_;cases e;exact fin ρ [] H Fut.refl rs RelDs.nil
 bv:=λX c w x p g h=>Jid λU H Q ⟨ρ,S,Z,ds,S',rs,re,e,fin⟩=>absurd e Jaa
 bt:=λX c w x p g h=>λwh pins s U H Q I ⟨ρ,S,Z,ds,S',rs,re,e,fin⟩=>absurd e Jaa
 o:=λX c x g h=>by
  cases x with
  |some e=>exact fx9 h
  |none=>
   refine PO.imp Jse λU H Q hq_=>?_;obtain⟨ρ,S,Z,ds,S',rs,re,e,fin⟩:=hq_;cases e;exact fin ρ H Fut.refl rs
 cd:=λX c x g h=>by
  cases x with
  |cons e es=>exact fx9 h
  |nil=>
   refine PTs.imp Jr6 λU H Q hq_=>?_;obtain⟨ρ,S,Z,ds,S',rs,re,e,fin⟩:=hq_;cases e;exact fin ρ H Fut.refl rs
 i:=λX c tg x g h _=>by cases h
 g:=λX c x g h=>absurd (X7 h) (by decide)
 gs:=Jjw
 s:=λX c x g h=>absurd (X6 h) (by decide)
 b:=Jlb
def Jro(ha:Snd C a)(hb:Snd C b):Snd C (.cns a b)where
 e:=λX c x g h=>absurd (show 0=1 from Wv h) (by decide)
 t:=λX c x g h=>absurd (show 0=1 from Wv h) (by decide)
 a:=λX c x g h=>by
  cases x with
  |nil=>exact fx9 h
  |cons e es=>
   replace h:=aB h
   refine PA.imp (Jbv (ha.e X c e g h.1) (hb.a X c es g h.2) (Jae (noStar h.1))) λU H Q hq_=>?_;obtain⟨ρ,S,Z,ds,S',rs,re,e,fin⟩:=hq_;obtain⟨x1,S1,e1,e⟩:=Res.bind_eq_ok e;obtain⟨xs,S2,e2,e⟩:=Res.bind_eq_ok e;cases e;refine⟨ρ,S,Z,x1,S1,rs,re,e1,λρ1 v1 H1 f1 r1 q1=>⟨ρ1,S1,Z,xs,S',r1,re.fut f1,e2,λρ2 vs H2 f2 r2 q2=>?_⟩⟩;exact fin ρ2 _ H2 (f1.trans f2) r2 (RelDs.cons (q1.fut f2) q2)
 bv:=Juu ha hb
 bt:=Juv ha hb
 o:=λX c x g h=>by
  cases x with
  |none=>cases b<;>exact fx9 h
  |some e=>
   cases b<;>try (exact fx9 h)
   refine PO.imp (Jsd (ha.e X c e g h)) λU H Q hq_=>?_;obtain⟨ρ,S,Z,o,S',rs,re,e,fin⟩:=hq_;obtain⟨x1,S1,e1,e⟩:=Res.bind_eq_ok e;refine⟨ρ,S,Z,x1,S1,rs,re,e1,λρ1 v1 H1 f1 r1 q1=>?_⟩;cases x1<;>simp only at e<;>try (cases e;done)
   cases e;exact⟨_,q1.int_inv,fin ρ1 H1 f1 r1⟩
 cd:=λX c x g h=>by
  rcases x with _|⟨e,_|⟨e2,es⟩⟩<;>cases b<;>try (exact fx9 h)
  refine PTs.imp (Jr5 (ha.t X c e g h)) λU H Q hq_=>?_;obtain⟨ρ,S,Z,o,S',rs,re,e,fin⟩:=hq_;exact⟨ρ,S,Z,o,S',rs,re,e,fin⟩
 i:=λX c tg x g h _=>by
  cases b<;>try (exact fx9 h)
  exact⟨Jk4 ha X c tg x g h,V5 (Y6 h)⟩
 g:=λX c x g h=>absurd (show 0=3 from X7 h) (by decide)
 gs:=Jjx ha hb
 s:=λX c x g h=>absurd (show 0=4 from X6 h) (by decide)
 b:=Jlc ha hb
def Jzk{C:Pr}{m:M}(h:∀N k keep tg it cd el,m=.comp N k keep tg it cd el->Snd C tg/\Snd C it/\Snd C cd/\Snd C el):∀N k keep tg it cd el,m=.comp N k keep tg it cd el->Snd C tg/\Snd C it/\Snd C cd/\Snd C el:=λN k keep tg it cd el e=>by
 have z:=h N k keep tg it cd el e;exact⟨z.1,z.2.1,z.2.2.1,z.2.2.2⟩
theorem snd(C:Pr):∀m:M,Snd C m/\∀N k keep tg it cd el,m=.comp N k keep tg it cd el->Snd C tg/\Snd C it/\Snd C cd/\Snd C el:=by
 intro m;have noT:∀{m:M},(∀Z S,evT C m Z S=.bad)->∀(X:Cx) (c:Ck) (x:Expr),Gd X C c->Uy m c x=true->PT X x (tT X.K C m):=λh X c x _ _=>Jym (Jya h)
 induction m with
 |nul=>exact⟨Jky,λ_ _ _ _ _ _ _ h=>(by cases h)⟩
 |cns a b ha hb=>exact⟨Jro ha.1 hb.1,λ_ _ _ _ _ _ _ h=>(by cases h)⟩
 |cst d=>exact⟨.ofE rfl Jrn (noT λZ S=>rfl),λ_ _ _ _ _ _ _ h=>(by cases h)⟩
 |var i=>exact⟨.ofE rfl (λX c x g h=>(Jkx X c x g h).1) λX c x g h=>(Jkx X c x g h).2,λ_ _ _ _ _ _ _ h=>(by cases h)⟩
 |glb x=>exact⟨.ofE rfl Jri (noT λZ S=>rfl),λ_ _ _ _ _ _ _ h=>(by cases h)⟩
 |bin o a b ha hb=>exact⟨.ofE rfl (Jrq ha.1 hb.1) (noT λZ S=>rfl),λ_ _ _ _ _ _ _ h=>(by cases h)⟩
 |neg a ha=>exact⟨.ofE rfl (Jrc ha.1) (noT λZ S=>rfl),λ_ _ _ _ _ _ _ h=>(by cases h)⟩
 |bit a ha=>exact⟨.ofE rfl (Jrp ha.1) (noT λZ S=>rfl),λ_ _ _ _ _ _ _ h=>(by cases h)⟩
 |nott a ha=>exact⟨.ofE rfl (λX c x g h=>(Jkz ha.1 X c x g h).1) λX c x g h=>(Jkz ha.1 X c x g h).2,λ_ _ _ _ _ _ _ h=>(by cases h)⟩
 |bo w as ha=>exact⟨.ofE rfl (λX c x g h=>(Jpz ha.1 X c x g h).1) λX c x g h=>(Jpz ha.1 X c x g h).2,λ_ _ _ _ _ _ _ h=>(by cases h)⟩
 |cmp o a b ha hb=>exact⟨.ofE rfl (λX c x g h=>(Jla ha.1 hb.1 X c x g h).1) λX c x g h=>(Jla ha.1 hb.1 X c x g h).2,λ_ _ _ _ _ _ _ h=>(by cases h)⟩
 |cmp2 o p a b d ha hb hd=>exact⟨.ofE rfl (λX c x g h=>(Ji1 ha.1 hb.1 hd.1 X c x g h).1) λX c x g h=>(Ji1 ha.1 hb.1 hd.1 X c x g h).2,λ_ _ _ _ _ _ _ h=>(by cases h)⟩
 |ife t a b ht ha hb=>exact⟨.ofE rfl (Jrg ht.1 ha.1 hb.1) (noT λZ S=>rfl),λ_ _ _ _ _ _ _ h=>(by cases h)⟩
 |tup as ha=>exact⟨.ofE rfl (Jq6 ha.1) (noT λZ S=>rfl),λ_ _ _ _ _ _ _ h=>(by cases h)⟩
 |lst as ha=>exact⟨.ofE rfl (Jrd ha.1) (noT λZ S=>rfl),λ_ _ _ _ _ _ _ h=>(by cases h)⟩
 |idx a b ha hb=>exact⟨.ofE rfl (λX c x g h=>(Jk2 ha.1 hb.1 X c x g h).1) λX c x g h=>(Jk2 ha.1 hb.1 X c x g h).2,λ_ _ _ _ _ _ _ h=>(by cases h)⟩
 |sli a l u ha hl hu=>exact⟨.ofE rfl (Jq7 ha.1 hl.1 hu.1) (noT λZ S=>rfl),λ_ _ _ _ _ _ _ h=>(by cases h)⟩
 |call f as ha=>exact⟨.ofE rfl (λX c x g h=>(Ji2 ha.1 X c x g h).1) λX c x g h=>(Ji2 ha.1 X c x g h).2,λ_ _ _ _ _ _ _ h=>(by cases h)⟩
 |prim p as ha=>exact⟨.ofE rfl (λX c x g h=>(Ji0 ha.1 X c x g h).1) λX c x g h=>(Ji0 ha.1 X c x g h).2,λ_ _ _ _ _ _ _ h=>(by cases h)⟩
 |isi a t ha=>exact⟨.ofE rfl (λX c x g h=>(Jk1 ha.1 X c x g h).1) λX c x g h=>(Jk1 ha.1 X c x g h).2,λ_ _ _ _ _ _ _ h=>(by cases h)⟩
 |meth p o as ho ha=>exact⟨.ofE rfl (Jnm ho.1 ha.1) (noT λZ S=>rfl),λ_ _ _ _ _ _ _ h=>(by cases h)⟩
 |dcm b N keep tg a el hg ha he=>exact⟨.ofE rfl (Jrm Jky hg.1 ha.1 he.1) (noT λZ S=>rfl),λ_ _ _ _ _ _ _ h=>(by cases h)⟩
 |comp N k keep tg it cd el hg hi hc he=>exact⟨.ofE rfl (Jno hg.1 hi.1 hc.1 he.1) (noT λZ S=>rfl),λ_ _ _ _ _ _ _ h=>(by cases h;exact⟨hg.1,hi.1,hc.1,he.1⟩)⟩
 |rng a ha=>exact⟨.ofI rfl λX c tg x g h _=>⟨Jk5 ha.1 X c tg x g h,V5 λa b p z=>by subst z;cases h⟩,λ_ _ _ _ _ _ _ h=>(by cases h)⟩
 |enm a ha=>exact⟨.ofI rfl λX c tg x g h ht=>⟨Jk6 ha.1 X c tg x g h ht,V5 λa b p z=>by subst z;cases h⟩,λ_ _ _ _ _ _ _ h=>(by cases h)⟩
 |zp a b ha hb=>exact⟨.ofI rfl λX c tg x g h ht=>⟨Jk3 ha.1 hb.1 X c tg x g h ht,V5 λa b p z=>by subst z;cases h⟩,λ_ _ _ _ _ _ _ h=>(by cases h)⟩
 |dnil k=>exact⟨.ofE rfl Jnn (noT λZ S=>rfl),λ_ _ _ _ _ _ _ h=>(by cases h)⟩
 |hld a ha=>exact⟨.ofE rfl (Jrh ha.1) (noT λZ S=>rfl),λ_ _ _ _ _ _ _ h=>(by cases h)⟩
 |lsp a ha=>exact⟨.ofE rfl (Jre ha.1) (noT λZ S=>rfl),λ_ _ _ _ _ _ _ h=>(by cases h)⟩
 |aug i e he=>exact⟨.ofS rfl (Jrr he.1),λ_ _ _ _ _ _ _ h=>(by cases h)⟩
 |fld c f a ha=>exact⟨.ofE rfl (Jrk ha.1) (noT λZ S=>rfl),λ_ _ _ _ _ _ _ h=>(by cases h)⟩
 |mcl c m f o as ho ha=>exact⟨.ofE rfl (λX c x g h=>(Jk0 ho.1 ha.1 X c x g h).1) λX c x g h=>(Jk0 ho.1 ha.1 X c x g h).2,λ_ _ _ _ _ _ _ h=>(by cases h)⟩
 |new c f=>exact⟨.ofE rfl Jrb (noT λZ S=>rfl),λ_ _ _ _ _ _ _ h=>(by cases h)⟩
 |rse=>exact⟨.ofS rfl Jq9,λ_ _ _ _ _ _ _ h=>(by cases h)⟩
 |sfd c f o v ho hv=>exact⟨.ofS rfl (Jq8 ho.1 hv.1),λ_ _ _ _ _ _ _ h=>(by cases h)⟩
 |tvar i=>exact⟨.ofG rfl Jk7,λ_ _ _ _ _ _ _ h=>(by cases h)⟩
 |ttup ts ha=>exact⟨.ofG rfl (Jk8 ha.1),λ_ _ _ _ _ _ _ h=>(by cases h)⟩
 |tsub a b ha hb=>exact⟨.ofG rfl (Jk9 ha.1 hb.1),λ_ _ _ _ _ _ _ h=>(by cases h)⟩
 |asg t e ht he=>exact⟨.ofS rfl (Jrs ht.1 he.1 (Jzk he.2)),λ_ _ _ _ _ _ _ h=>(by cases h)⟩
 |ifs t a b ht ha hb=>exact⟨.ofS rfl (Jrf ht.1 ha.1 hb.1),λ_ _ _ _ _ _ _ h=>(by cases h)⟩
 |forr t i b ht hi hb=>exact⟨.ofS rfl (Jrj ht.1 hi.1 hb.1),λ_ _ _ _ _ _ _ h=>(by cases h)⟩
 |ret a ha=>exact⟨.ofS rfl (Jra ha.1),λ_ _ _ _ _ _ _ h=>(by cases h)⟩
 |exp a ha=>exact⟨.ofS rfl (Jrl ha.1),λ_ _ _ _ _ _ _ h=>(by cases h)⟩
end
noncomputable def Cn(T:Tb)(G:String->Option D)(W n:Nat):Pr:=⟨callN T G W n,G,W⟩
structure FnB(K:Af)(T:Tb)(B F:List String)(O:Ow)(f:String)(a:Addr)(fd:Hx):Prop where
 ex:∃(FN:Fn) (st:Stmt) (nm ql:Str),T f=some FN/\Fun K nm ql st a fd/\Vq (FN.N.map Ab) (FN.ps.map Ab) (defScope st)/\
  V7 FN.body ⟨FN.N.map Ab,(defScope st).names,true,B,F,O⟩ (Uw st)=true/\∀us:List Value,us.length=(FN.ps.map Ab).length->Rv fd ⟨us,[]⟩=pure ((FN.ps.map Ab).zip us)
structure Txt(K:Af)(mg:Str->Option Value)(T:Tb)(G:String->Option D)(B F:List String)(O:Ow):Prop where
 fns:∀f∈F,∃a fd,FnB K T B F O f a fd/\mg (Ab f)=some (.ref a)
 np:npB K=true
 blt:∀x∈B,mg (Ab x)=none
 gl:∀x d,G x=some d->∃v u,mg (Ab x)=some u/\RelV v u/\(∀ρ H,RelD K ρ H d v)/\∀ds,d=.tup ds->∃a o,v=.ref a/\K.lookup a=some o/\o.cls=.type "tuple"/\o.dict=none
 mts:∀c m f,(c,m,f)∈O.mt->∃a fd Ca,FnB K T B F O f a fd/\Bb K Ax (Ab c)=some (some (.ref Ca))/\L2.Cls K Ca/\L2.Meth K Ca (Ab m) a
 fds:∀c f,(c,f)∈O.fd->∃Ca,Bb K Ax (Ab c)=some (some (.ref Ca))/\L2.Cls K Ca/\L2.Vn K Ca (Ab f)
 nws:∀c f,(c,f)∈O.nw->∃a fd Ca,FnB K T B F O f a fd/\Bb K Ax (Ab c)=some (some (.ref Ca))/\mg (Ab c)=some (.ref Ca)/\L2.Mk K Ca a
section
variable {P:Program} {w:World} {K:Af} {mg:Str->Option Value} {base:Heap} {T:Tb} {G:String->Option D} {B F:List String} {O:Ow}
def RelE.start{ds:List D}{N:List Str}(r:RelDs K ρ H ds vs)(hk:k=N.length-ds.length):RelE K ρ H (ds.map some++E5 k none) (L2.start N vs):=by
 unfold L2.start;rw[<-r.length,<-hk];refine⟨by simp[r.length],λi d h=>?_⟩
 by_cases hi:i<ds.length
 ·rw[A0 (by simpa using hi),Ao]at h;rw[A0 (by rw[Ah,<-r.length];exact hi),Ao];cases e:ds[i]? with
  |none=>rw[e]at h;cases h
  |some d'=>
   rw[e]at h;have h:d'=d:=by simpa using h
   subst h;obtain⟨v,hv,q⟩:=r.get e;exact⟨v,by rw[hv];rfl,q⟩
 ·rw[A1 (by simpa using hi),E6]at h;split at h<;>cases h
theorem Jzc(t:Txt K mg T G B F O)(W:Nat):∀(n:Nat) (f:String) (a:Addr) (fd:Hx),FnB K T B F O f a fd->∀FN,T f=some FN->V1 P w K mg base CX0 (2*n) a fd (FN.ps.map Ab) (spM K (Cn T G W n) f):=by
 intro n
 induction n with
 |zero=>
  intro f a fd hf FN hT;exact⟨λvs H Q E ⟨ρ,S,ds,d,S',_,_,e,_⟩=>(by simp only[Cn,callN]at e;cases e),λA outer s H args us vs Q E _ _ _ _ ⟨ρ,S,ds,d,S',_,_,e,_⟩=>(by simp only[Cn,callN]at e;cases e)⟩
 |succ n ih=>
  intro f a fd hf FN hT;obtain⟨FN',st,nm,ql,hT',FU,sc,ck,bd⟩:=hf.ex;rw[hT]at hT';cases hT';show V1 P w K mg base CX0 (2*n+1+1) a fd _ _;refine FU.ok sc (λvs H Q E ⟨ρ,S,ds,d,S',_,rd,e,_⟩=>?_) (λcdv A outer s H vs Q E hr ⟨ρ,S,ds,d,S',rs,rd,e,fin⟩=>?_)
  ·simp only[Cn,callN]at e;rw[hT]at e;simp only at e;split at e
   ·rename_i hl;rw[<-rd.length,hl,Ah]
   ·cases e
  ·refine⟨_,((snd (Cn T G W n) FN.body).1.b _ ⟨FN.N.map Ab,(defScope st).names,true,B,F,O⟩ _ ⟨rfl,sc.nd,rfl,sc.kind,λ_=>rfl,rfl,rfl,?_⟩ ck),?_⟩
   ·refine⟨λg hg=>?_,t.blt,t.gl,Fh (Ai _) hr.units,t.np,λc m g hg=>?_,t.fds,λc g hg=>?_⟩
    ·obtain⟨b,fd2,hb,hmg⟩:=t.fns g hg;obtain⟨FN2,st2,nm2,ql2,hT2,FU2,sc2,ck2,bd2⟩:=id hb.ex;exact⟨2*n,b,fd2,_,hr.mono (Ks _),hmg,ih g b fd2 hb FN2 hT2,.all bd2,FU2.kp⟩
    ·obtain⟨b,fd2,Ca,hb,h1,h2,h3⟩:=t.mts c m g hg;obtain⟨FN2,st2,nm2,ql2,hT2,FU2,sc2,ck2,bd2⟩:=id hb.ex;exact⟨2*n,b,fd2,_,Ca,hr,h1,h2,h3,ih g b fd2 hb FN2 hT2,.all bd2⟩
    ·obtain⟨b,fd2,Ca,hb,h1,h2,h3⟩:=t.nws c g hg;obtain⟨FN2,st2,nm2,ql2,hT2,FU2,sc2,ck2,bd2⟩:=id hb.ex;exact⟨2*n,b,fd2,_,Ca,hr,h1,h2,h3,ih g b fd2 hb FN2 hT2,.all bd2⟩
   ·simp only[Cn,callN]at e;rw[hT]at e;simp only at e;split at e
    ·rename_i hl;obtain⟨fl,S1,e1,e⟩:=Res.bind_eq_ok e;refine⟨ρ,S,_,fl,S1,rs,RelE.start rd (by rw[Ah]),e1,?_⟩;cases fl with
     |nx Z=>simp only at e;cases e;exact λρ1 σ1 H1 f1 r1 q1=>fin ρ1 _ H1 f1 r1 RelD.non
     |rt d=>simp only at e;cases e;exact fin
    ·cases e
def Jwc{G:String->Option D}(h:∀ns:List Int,ns.length<=63->∃S',callN T G W n "law" [.kl (ns.map D.int)] []=.ok (.bl true) S')(H:Hp)(a:Addr)(ns:List Int)(hl:ns.length<=63)(hO:Y1 H)(hS:SqL K H a (ns.map V.int))(E:XK):
  spM K (Cn T G W n) "law" [.ref a] H (λv _=>v=.bl true) E:=by
 obtain⟨S',e⟩:=h ns hl;have allI:∀(ns:List Int),RelDs K [] H (ns.map D.int) (ns.map V.int):=by
  intro ns
  induction ns with
  |nil=>exact RelDs.nil
  |cons i r ih=>exact RelDs.cons (RelD.int i) ih
 have sf:SqF K H a (ns.map V.int):=by
  rcases hS with(h|h)|h
  ·rcases hO a with z|⟨o,xs,z⟩
   ·rw[h]at z;cases z
   ·rw[h]at z;cases z
  ·exact .inl h
  ·exact .inr h
 refine⟨[],[],[.kl (ns.map D.int)],.bl true,S',⟨rfl,Ie,λl b o h=>by simp at h⟩,RelDs.cons ?_ RelDs.nil,e,λρ' v H' _ _ q=>q.bl_inv⟩;simp only[RelD];exact⟨a,_,rfl,sf,allI ns⟩
end
def walk{l:Ja}{XP:(Str->Option Value)->Heap->Prop}{YP:World->Heap->Prop}{d:T4}{K:Er->Af}{G:String->Option D}(hn:l.most=some 63)(hdf:d.params.defaults=[])
  (hY:∀(w:World) (h:Heap),YP w h->(K w.params).In h)(hr:U8 (2*n) Ln)(hd:d.name=Ab "law")(hlaw:"law"∈F)(hT:∃FN,T "law"=some FN/\FN.ps=[x])
  (X:∀(w:World) (mg:Str->Option Value) (h:Heap),(K w.params).In h->h.Ns Ax mg->Txt (K w.params) mg T G B F O)
  (run:∀ns:List Int,ns.length<=63->∃S',callN T G W n "law" [.kl (ns.map D.int)] []=.ok (.bl true) S'):
  Ma q loose XP YP l.row.toRowW d [] (λf vs=>Mz f vs):=by
 refine L2.Jq3 (n:=63) (k:=2*n) (x:=Ab x) (CX:=λ_=>CX0) (sp:=λw=>spM (K w.params) (Cn T G W n) "law") hn (by decide) hdf hr hY (λw mg fa h KX hns hmg=>?_) (λw H a ns hl hO hS=>Jwc run H a ns hl hO hS _) λ_ _ _ _ _ z=>z;have t:=X w mg h KX hns;obtain⟨a,fd,hf,hlm⟩:=t.fns "law" hlaw;obtain⟨FN,hT,hps⟩:=hT;obtain⟨FN',st,nm,ql,hT',FU,sc,ck,bd⟩:=id hf.ex;rw[hT]at hT';cases hT';rw[hd,hlm]at hmg;cases hmg;refine⟨fd,λs u=>?_,λbase kb nb=>?_⟩
 ·have:=bd [u] (by rw[hps];rfl);rw[hps]at this;exact .of_eq this
 ·have:=Jzc (P:=l.prog) (w:=w) (base:=base) t W n "law" fa fd hf FN hT;rw[hps]at this;exact this
def holds{l:Ja}{d:T4}{K:Er->Af}{as:List Addr}(ok:l.wellSaid=true)(e:∀P,as=(K P).map (·.1))
  (left:PySem.W.LeftO l.prog q loose (λs=>PySem.W.xlAt q [] s&&PySem.W.recOk [] s) (λs=>as.map s.heap.get?) (λw=>(K w.params).map λp=>some p.2) N)
  (hdef:PySem.W.defOf q l.name=some (d,[]))(hp:l.prog.theDef l.name=some (d.params,d.body,d.scope))(hk:PySem.W.kwWritten? d.params.kwonlyargs d.params.kw_defaults=some [])
  (ok2:(PySem.W.chainsOk q&&PySem.W.opensWell l.prog&&(PySem.W.frees l.row.toRowW&&l.row.within.isEmpty))=true)(hb:l.prog.bare)(hw:l.row.toRowW.promised)
  (hc:Ma q loose (Tv q []) (Sd K) l.row.toRowW d [] (λf vs=>Mz f vs)):l.Holds:=
 PySem.W.holds_law ok λsaid=>PySem.W.holds_open (r:=l.row) (XP:=Tv q []) (YP:=Sd K) left (PySem.W.InK.of e) PySem.W.InK.keeps (λs z=>PySem.W.xl_of s (Py.mp z).1) PySem.W.XL.keeps hdef hp hk
  (λs z=>PySem.W.recFacts_of (Py.mp z).2) (by cases h:l.writes<;>simp[Tw]) said ok2 hb hw hc
theorem Zj{α:Type}{P:List α->Prop}(h:∀a,P [a]):∀us:List α,us.length=1->P us
 |[a],_=>h a
theorem Zi{α:Type}{P:List α->Prop}(h:∀a b,P [a,b]):∀us:List α,us.length=2->P us
 |[a,b],_=>h a b
theorem Zh{α:Type}{P:List α->Prop}(h:∀a b c,P [a,b,c]):∀us:List α,us.length=3->P us
 |[a,b,c],_=>h a b c
theorem Zg{α:Type}{P:List α->Prop}(h:∀a b c d,P [a,b,c,d]):∀us:List α,us.length=4->P us
 |[a,b,c,d],_=>h a b c d
theorem Zf{α:Type}{P:List α->Prop}(h:∀a b c d e,P [a,b,c,d,e]):∀us:List α,us.length=5->P us
 |[a,b,c,d,e],_=>h a b c d e
theorem Ze{α:Type}{P:List α->Prop}(h:∀a b c d e f g,P [a,b,c,d,e,f,g]):∀us:List α,us.length=7->P us
 |[a,b,c,d,e,f,g],_=>h a b c d e f g
structure FE(K:Af)(x:Str)(st:Stmt):Prop where
 ex:∃(f:Addr) (oc:Value) (od:Option Addr) (kV doc pm:Value) (an:Option Addr) (cdv ct:Value) (sl:Array (Option Value)),Bb K Ax x=some (some (.ref f))/\
  K.lookup f=some ⟨oc,od,.func (D9 x x (Ux st) (Uw st) (defScope st) .none kV doc pm an cdv ct),sl⟩/\Fw K cdv x=true/\Cv K (.ref f)=true
def Jze{K:Af}{x:Str}{st:Stmt}{f:Addr}{oc:Value}{od:Option Addr}{kV doc pm:Value}{an:Option Addr}{cdv ct:Value}{sl:Array (Option Value)}(a:Bb K Ax x=some (some (.ref f)))
  (l:K.lookup f=some ⟨oc,od,.func (D9 x x (Ux st) (Uw st) (defScope st) .none kV doc pm an cdv ct),sl⟩)(c:Fw K cdv x=true)(k:Cv K (.ref f)=true):FE K x st:=⟨_,_,_,_,_,_,_,_,_,_,a,l,c,k⟩
section
variable {K:Af} {mg:Str->Option Value} {h:Heap} {T:Tb} {G:String->Option D} {B F:List String} {O:Ow}
def Jw5(KX:K.In h)(hG:h.Ns Ax mg){FN:Fn}(e:FE K (Ab f) st)(hT:T f=some FN)(sc:Vq (FN.N.map Ab) (FN.ps.map Ab) (defScope st))
  (ck:V7 FN.body ⟨FN.N.map Ab,(defScope st).names,true,B,F,O⟩ (Uw st)=true)
  (bd:∀(kV doc pm:Value) (an:Option Addr) (cdv ct:Value) (us:List Value),us.length=(FN.ps.map Ab).length->Rv (D9 (Ab f) (Ab f) (Ux st) (Uw st) (defScope st) .none kV doc pm an cdv ct) ⟨us,[]⟩=pure ((FN.ps.map Ab).zip us)):
  ∃a fd,FnB K T B F O f a fd/\mg (Ab f)=some (.ref a):=by
 obtain⟨a,oc,od,kV,doc,pm,an,cdv,ct,sl,h1,h2,h3,h4⟩:=e.ex;exact⟨a,_,⟨FN,st,_,_,hT,Jqq (st:=st) h2 h3 h4,sc,ck,bd kV doc pm an cdv ct⟩,Kh KX hG h1⟩
structure CF(K:Af)(c:Str):Prop where
 ex:∃Ca:Addr,Bb K Ax c=some (some (.ref Ca))/\L2.Cls K Ca
def Jzl(n:Bb K Ax c=some (some (.ref Ca)))(pg:G1 K Ca Str.empty=true)(hd:Ib K Ca=true)(po:K1 K Ca=true)
  (sa:Cw K (.ref Ca) "__setattr__"=some (some (.builtin "object.__setattr__"))):CF K c:=⟨Ca,n,pg,hd,po,sa⟩
structure NF(K:Af)(c f:Str):Prop where
 ex:∃Ca:Addr,Bb K Ax c=some (some (.ref Ca))/\L2.Vn K Ca f
def Jv6(n:Bb K Ax c=some (some (.ref Ca)))(a:Cw K (.ref Ca) f=some none):NF K c f:=⟨Ca,n,a⟩
structure MF(K:Af)(c m ql:Str)(st:Stmt):Prop where
 ex:∃(Ca f:Addr) (oc:Value) (od:Option Addr) (kV doc pm:Value) (an:Option Addr) (cdv ct:Value) (sl:Array (Option Value)),Bb K Ax c=some (some (.ref Ca))/\Cw K (.ref Ca) m=some (some (.ref f))/\
  K.lookup f=some ⟨oc,od,.func (D9 m ql (Ux st) (Uw st) (defScope st) .none kV doc pm an cdv ct),sl⟩/\Fw K cdv ql=true/\Cv K (.ref f)=true/\Jk K (.ref f)=true
def Jy0{c m ql:Str}{st:Stmt}{Ca f:Addr}{oc:Value}{od:Option Addr}{kV doc pm:Value}{an:Option Addr}{cdv ct:Value}{sl:Array (Option Value)}(n:Bb K Ax c=some (some (.ref Ca)))(a:Cw K (.ref Ca) m=some (some (.ref f)))
  (l:K.lookup f=some ⟨oc,od,.func (D9 m ql (Ux st) (Uw st) (defScope st) .none kV doc pm an cdv ct),sl⟩)(cd:Fw K cdv ql=true)(k:Cv K (.ref f)=true)(i:Jk K (.ref f)=true):MF K c m ql st:=
 ⟨_,_,_,_,_,_,_,_,_,_,_,n,a,l,cd,k,i⟩
structure NW(K:Af)(c:Str):Prop where
 ex:∃Ca:Addr,Bb K Ax c=some (some (.ref Ca))/\Jn K Ca=true/\Cv K (.ref Ca)=true
def Jyy(n:Bb K Ax c=some (some (.ref Ca)))(mk:Jn K Ca=true)(k:Cv K (.ref Ca)=true):NW K c:=⟨Ca,n,mk,k⟩
def Jqh{FN:Fn}(cf:CF K (Ab c))(e:MF K (Ab c) (Ab m) (Ab ql) st)(hT:T f=some FN)(sc:Vq (FN.N.map Ab) (FN.ps.map Ab) (defScope st))
  (ck:V7 FN.body ⟨FN.N.map Ab,(defScope st).names,true,B,F,O⟩ (Uw st)=true)
  (bd:∀(kV doc pm:Value) (an:Option Addr) (cdv ct:Value) (us:List Value),us.length=(FN.ps.map Ab).length->Rv (D9 (Ab m) (Ab ql) (Ux st) (Uw st) (defScope st) .none kV doc pm an cdv ct) ⟨us,[]⟩=pure ((FN.ps.map Ab).zip us)):
  ∃a fd Ca,FnB K T B F O f a fd/\Bb K Ax (Ab c)=some (some (.ref Ca))/\L2.Cls K Ca/\L2.Meth K Ca (Ab m) a:=by
 obtain⟨Cb,n1,hc⟩:=cf.ex;obtain⟨Ca,a,oc,od,kV,doc,pm,an,cdv,ct,sl,n,h1,h2,h3,h4,h5⟩:=e.ex;rw[n]at n1;cases n1;exact⟨a,_,_,⟨FN,st,_,_,hT,Jqq (st:=st) h2 h3 h4,sc,ck,bd kV doc pm an cdv ct⟩,n,hc,⟨h1,h5,h4⟩⟩
def Jqs(cf:CF K (Ab c))(e:NF K (Ab c) (Ab f)):∃Ca,Bb K Ax (Ab c)=some (some (.ref Ca))/\L2.Cls K Ca/\L2.Vn K Ca (Ab f):=by
 obtain⟨Cb,n1,hc⟩:=cf.ex;obtain⟨Ca,n,h⟩:=e.ex;rw[n]at n1;cases n1;exact⟨_,n,hc,h⟩
def Jv4(KX:K.In h)(hG:h.Ns Ax mg)(cf:CF K (Ab c))(e:NW K (Ab c))(mf:∃a fd Ca,FnB K T B F O f a fd/\Bb K Ax (Ab c)=some (some (.ref Ca))/\L2.Cls K Ca/\L2.Meth K Ca (Ab "__init__") a):
  ∃a fd Ca,FnB K T B F O f a fd/\Bb K Ax (Ab c)=some (some (.ref Ca))/\mg (Ab c)=some (.ref Ca)/\L2.Mk K Ca a:=by
 obtain⟨Cb,n1,h1,h2⟩:=e.ex;obtain⟨a,fd,Ca,fb,n,_,hm⟩:=mf;rw[n]at n1;cases n1;exact⟨a,fd,_,fb,n,Kh KX hG n,h1,hm.at_,hm.fn,h2⟩
def Jkd(KX:K.In h)(hG:h.Ns Ax mg)(e:Bb K Ax (Ab x)=some (some (.int i t))):∃v u,mg (Ab x)=some u/\RelV v u/\(∀ρ H,RelD K ρ H (.int i) v)/\∀ds,D.int i=.tup ds->∃a o,v=.ref a/\K.lookup a=some o/\o.cls=.type "tuple"/\o.dict=none:=
 ⟨.int i,_,Kh KX hG e,⟨t,rfl⟩,λ_ _=>RelD.int i,λ_ z=>by cases z⟩
def Jzb(KX:K.In h)(hG:h.Ns Ax mg)(e:Bb K Ax (Ab x)=some none):mg (Ab x)=none:=PySem.W.mg_none_of KX hG e
structure GV(K:Af)(x:Str)(d:D):Prop where
 ex:∃v u,Bb K Ax x=some (some u)/\RelV v u/\(∀ρ H,RelD K ρ H d v)/\∀ds,d=.tup ds->∃a o,v=.ref a/\K.lookup a=some o/\o.cls=.type "tuple"/\o.dict=none
def Jw4(KX:K.In h)(hG:h.Ns Ax mg)(e:GV K (Ab x) d):∃v u,mg (Ab x)=some u/\RelV v u/\(∀ρ H,RelD K ρ H d v)/\∀ds,d=.tup ds->∃a o,v=.ref a/\K.lookup a=some o/\o.cls=.type "tuple"/\o.dict=none:=by
 obtain⟨v,u,h1,h2,h3,h4⟩:=e.ex;exact⟨v,u,Kh KX hG h1,h2,h3,h4⟩
noncomputable def strsLook:List Value->List Str->Bool
 |[],[]=>true
 |.str y _::us,x::xs=>x==y&&strsLook us xs
 |_,_=>false
theorem Jfp:∀{xs:List Str},strsLook us xs=true->Vals (xs.map V.str) us:=by
 induction us with
 |nil=>
  intro xs h;cases xs with
  |nil=>exact .nil
  |cons x xs=>exact fx9 h
 |cons u us ih=>
  intro xs h;cases xs with
  |nil=>cases u<;>exact fx9 h
  |cons x xs=>
   cases u<;>try (exact fx9 h)
   replace h:=(Al _ _).mp h
   obtain rfl:=eq_of_beq h.1;exact .cons ⟨_,rfl⟩ (ih h.2)
def Jtc(xs:List Str){its:Array Value}(e:Bb K Ax x=some (some (.ref a)))(l:K.lookup a=some ⟨.type "tuple",none,.seq its n,sl⟩)
  (v:(strsLook its.toList xs&&decide (its.size<=1000))=true):GV K x (.tup (xs.map D.str)):=by
 simp only[Al,decide_eq_true_eq]at v;refine⟨.ref a,.ref a,e,rfl,λρ H=>?_,λds _=>⟨a,_,rfl,l,rfl,rfl⟩⟩;simp only[RelD];refine⟨a,xs.map V.str,rfl,.inr ⟨_,its,n,l,rfl,rfl,by rw[G4];lia,Jfp v.1⟩,?_⟩;have main:∀ys:List Str,RelDs K ρ H (ys.map D.str) (ys.map V.str):=by
  intro ys
  induction ys with
  |nil=>exact RelDs.nil
  |cons y r ih=>exact RelDs.cons (RelD.str y) ih
 exact main xs
def Jtd(e:Bb K Ax x=some (some (.ref a)))(l:Vd K a kvs):GV K x (.kd kvs):=
 ⟨.ref a,.ref a,e,rfl,λρ H=>by simp only[RelD];exact⟨a,rfl,l⟩,λds z=>by cases z⟩
end
inductive Sat {α:Type} (r:Res α) (P:α->Store->Prop):Prop
 |mk (a S) (_:r=.ok a S) (_:P a S):Sat r P
def Sat.ok{α:Type}{a:α}{S:Store}{P:α->Store->Prop}(h:P a S):Sat (.ok a S) P:=⟨a,S,rfl,h⟩
@[simp]theorem Jzz{α:Type}{a:α}{S:Store}{P:α->Store->Prop}:Sat (.ok a S) P↔P a S:=⟨λ⟨_,_,e,h⟩=>by cases e;exact h,Sat.ok⟩
def Sat.mono{α:Type}{r:Res α}{P Q:α->Store->Prop}(h:Sat r P)(hq:∀a S,P a S->Q a S):Sat r Q:=by
 obtain⟨a,S,e,h⟩:=h;exact⟨a,S,e,hq a S h⟩
section
variable {α0 α1 α2 α3 α4:Type} {r:Res α0} {f1:α0->Store->Res α1} {f2:α1->Store->Res α2} {f3:α2->Store->Res α3} {f4:α3->Store->Res α4} {Q:α0->Store->Prop}
def Sat.p1{P:α1->Store->Prop}(h:Sat r Q)(k:∀a S,Q a S->Sat (f1 a S) P):Sat (r.bind f1) P:=by
 obtain⟨a,S,rfl,h⟩:=h;exact k a S h
def Sat.p2{P:α2->Store->Prop}(h:Sat r Q)(k:∀a S,Q a S->Sat ((f1 a S).bind f2) P):Sat ((r.bind f1).bind f2) P:=by
 obtain⟨a,S,rfl,h⟩:=h;exact k a S h
def Sat.p3{P:α3->Store->Prop}(h:Sat r Q)(k:∀a S,Q a S->Sat (((f1 a S).bind f2).bind f3) P):Sat (((r.bind f1).bind f2).bind f3) P:=by
 obtain⟨a,S,rfl,h⟩:=h;exact k a S h
def Sat.p4{P:α4->Store->Prop}(h:Sat r Q)(k:∀a S,Q a S->Sat ((((f1 a S).bind f2).bind f3).bind f4) P):Sat ((((r.bind f1).bind f2).bind f3).bind f4) P:=by
 obtain⟨a,S,rfl,h⟩:=h;exact k a S h
end
@[simp]noncomputable def Xf(fl:Fl)(S:Store):Res D:=match fl with
 |.rt d=>.ok d S
 |.nx _=>.ok .non S
def Jab{G:String->Option D}{FN:Fn}{ds:List D}(hT:T f=some FN)(hl:ds.length=FN.ps.length):
  callN T G W (n+1) f ds S=(evB (Cn T G W n) FN.body (ds.map some++E5 (FN.N.length-ds.length) none) S).bind Xf:=by
 simp only[callN,hT,if_pos hl];congr 1
@[simp]theorem Jt8{G:String->Option D}:(Cn T G W n).call=callN T G W n:=rfl
@[simp]theorem Jnd{G:String->Option D}:(Cn T G W n).glob=G:=rfl
def FlP(I:En->Store->Prop)(R:D->Store->Prop)(fl:Fl)(S:Store):Prop:=match fl with
 |.nx Z=>I Z S
 |.rt d=>R d S
def noR:D->Store->Prop:=λ_ _=>False
@[simp]theorem Jz1{I:En->Store->Prop}{R:D->Store->Prop}:FlP I R (.nx Z) S↔I Z S:=Iff.rfl
@[simp]theorem Jz0{I:En->Store->Prop}{R:D->Store->Prop}:FlP I R (.rt d) S↔R d S:=Iff.rfl
inductive NxI (I:En->Store->Prop) (fl:Fl) (S:Store):Prop
 |mk (Z) (_:fl=.nx Z) (_:I Z S):NxI I fl S
theorem FlP.nx{I:En->Store->Prop}(h:FlP I noR fl S):NxI I fl S:=by
 cases fl with
 |nx Z=>exact⟨Z,rfl,h⟩
 |rt d=>exact D3 h
theorem FlP.nr{I:En->Store->Prop}{R:D->Store->Prop}(h:FlP I R fl S):(∃Z,fl=.nx Z/\I Z S)\/∃d,fl=.rt d/\R d S:=by
 cases fl with
 |nx Z=>exact .inl ⟨Z,rfl,h⟩
 |rt d=>exact .inr ⟨d,rfl,h⟩
theorem Wfw{turn:D->En->Store->Res Fl}{g:Wk}{ds:List D}{R:D->Store->Prop}(I:Nat->En->Store->Prop)(same:∀i Z S,I i Z S->sameAt S g ds.length=true)
  (ht:∀i Z S,i<ds.length->I i Z S->∃d,nth S g ds i=some d/\Sat (turn d Z S) (FlP (I (i+1)) R)):
  ∀(n i:Nat) (Z:En) (S:Store),i+n=ds.length->I i Z S->Sat (forL turn g ds n i Z S) (FlP (I ds.length) R):=by
 intro n
 induction n with
 |zero=>
  intro i Z S hi h;have:i=ds.length:=by lia
  subst this;simp only[forL,same _ Z S h,if_true];exact .ok h
 |succ n ih=>
  intro i Z S hi h;obtain⟨d,e,q⟩:=ht i Z S (by lia) h;simp only[forL,same _ Z S h,if_true,e];refine q.p1 λfl S1 q=>?_;cases fl with
  |nx τ1=>exact ih (i+1) τ1 S1 (by lia) q
  |rt d=>exact .ok q
theorem Wec{turn:D->En->Store->Res (Option D)}{g:Wk}{ds:List D}{Z:En}(I:Nat->List D->Store->Prop)(hl:ds.length<=Line)(same:∀i acc S,I i acc S->acc.length<=i/\sameAt S g ds.length=true)
  (ht:∀i acc S,i<ds.length->I i acc S->∃d,nth S g ds i=some d/\Sat (turn d Z S) λo S1=>I (i+1) (acc++o.toList) S1):
  ∀(n i:Nat) (acc:List D) (S:Store),i+n=ds.length->I i acc S->Sat (Vj turn g ds n i Z S acc) (I ds.length):=by
 intro n
 induction n with
 |zero=>
  intro i acc S hi h;have:i=ds.length:=by lia
  subst this;simp only[Vj,(same _ acc S h).2,if_true];exact .ok h
 |succ n ih=>
  intro i acc S hi h;obtain⟨d,e,q⟩:=ht i acc S (by lia) h;simp only[Vj,(same _ acc S h).2,if_true,e];refine q.p1 λo S1 q=>?_;cases o with
  |none=>exact ih (i+1) acc S1 (by lia) (by simpa using q)
  |some y=>
   have:=(same _ _ _ h).1;simp only[if_pos (show acc.length<Line by lia)];exact ih (i+1) _ S1 (by lia) q
section
variable {S:Store} {i j:Int} {a b:Bool} {x y:Str} {ds es:List D}
@[simp]theorem Jcr:bop .add (.int i) (.int j) S=.ok (.int (i+j)) S:=rfl
@[simp]theorem Jtv:bop .sub (.int i) (.int j) S=.ok (.int (i-j)) S:=rfl
def Jco(h:(small i||small j||(mid i&&mid j))=true):bop .mul (.int i) (.int j) S=.ok (.int (i*j)) S:=by
 delta bop
 dsimp only;exact if_pos h
@[simp]theorem Jho(h:small i=true):bop .mul (.int i) (.int j) S=.ok (.int (i*j)) S:=Jco (by rw[h];rfl)
@[simp]theorem Jbe(h:small j=true):bop .mul (.int i) (.int j) S=.ok (.int (i*j)) S:=Jco (by rw[h,Bool.or_true];rfl)
@[simp]theorem Jai(h:0<j):bop .mod (.int i) (.int j) S=.ok (.int (i%j)) S:=by
 delta bop
 dsimp only;exact if_pos h
def Jxq{j:Int}(h1:0<j)(h2:j<2^250):0<j/\j.natAbs<2^4096:=by
 refine⟨h1,?_⟩;have h3:j.natAbs<2^250:=by
  have:(j.natAbs:Int)<(2^250:Nat):=by
   rw[Qa (by omega)]
   exact_mod_cast h2
  exact_mod_cast this
 exact Ez h3 (Nat.pow_lt_pow_right (by decide) (by decide))
@[simp]theorem Jes(h:0<=j):bop .shr (.int i) (.int j) S=.ok (.int (i/2^j.toNat)) S:=by
 delta bop
 dsimp only;exact if_pos h
@[simp]theorem Jaw(h1:0<j)(h2:j<2^250):bop .fdiv (.int i) (.int j) S=.ok (.int (i/j)) S:=by
 delta bop
 dsimp only;exact if_pos (Jxq h1 h2)
def Jcn(h:(decide (0<=j)&&decide (j<=1000000)&&decide (i.natAbs<2^64))=true):bop .pow (.int i) (.int j) S=.ok (.int (i^j.toNat)) S:=by
 delta bop
 dsimp only;exact if_pos h
def Ja4{k:Nat}(h0:j=(k:Int))(h1:k<=1000000)(h2:i.natAbs<2^64):bop .pow (.int i) (.int j) S=.ok (.int (i^k)) S:=by
 subst h0;rw[Jcn]
 ·rfl
 ·simp only[Al,decide_eq_true_eq];exact⟨⟨by omega,by omega⟩,h2⟩
@[simp]theorem Jcq(h1:S[l]? =some (.lst ds))(h2:S[k]? =some (.lst es))(h3:ds.length+es.length<=Line):bop .add (.loc l) (.loc k) S=.ok (.loc S.length) (S++[.lst (ds++es)]):=by
 delta bop;simp only[h1,h2,if_pos h3]
def Jcp(h3:ds.length+es.length<=Line):bop .add (.tup ds) (.tup es) S=.ok (.tup (ds++es)) S:=by
 delta bop;simp only[if_pos h3]
theorem Jgb:Deep=11+1:=rfl
@[simp]theorem Jdl:cop .eq (.int i) (.int j) S=some (decide (i=j)):=by
 simp only[cop,Jgb,eqD,Vg,eqV];congr 1
@[simp]theorem Jud:cop .eq (.str x) (.str y) S=some (decide (x=y)):=by
 simp only[cop,Jgb,eqD,Vg,eqV];congr 1
@[simp]theorem Jxl:cop .eq (.bl a) (.bl b) S=some (a==b):=by
 simp only[cop,Jgb,eqD,Vg,eqV]
@[simp]theorem Jt9:cop .ne (.int i) (.int j) S=some (!decide (i=j)):=by
 have:=Jdl (i:=i) (j:=j) (S:=S);simp only[cop,X4]at this ⊢;rw[this];rfl
@[simp]theorem Jua:cop .lt (.int i) (.int j) S=some (decide (i<j)):=rfl
@[simp]theorem Jub:cop .le (.int i) (.int j) S=some (decide (i<=j)):=rfl
@[simp]theorem Juc:cop .gt (.int i) (.int j) S=some (decide (j<i)):=rfl
@[simp]theorem Jfi:cop .ge (.int i) (.int j) S=some (decide (j<=i)):=rfl
@[simp]theorem Jtr:cop .isc .non .non S=some true:=rfl
@[simp]theorem Jqz:cop .isnc .non .non S=some false:=rfl
@[simp]theorem Jtp:cop .isc (.tup ds) .non S=some false:=rfl
@[simp]theorem Jqx:cop .isnc (.tup ds) .non S=some true:=rfl
@[simp]theorem Jtq:cop .isc (.str x) .non S=some false:=rfl
@[simp]theorem Jqy:cop .isnc (.str x) .non S=some true:=rfl
@[simp]theorem Jxz:U0 .abs [.int i] S=.ok (.int (if i<0 then -i else i)) S:=rfl
@[simp]theorem Jxy:U0 .max2 [.int i,.int j] S=.ok (.int (if j>i then j else i)) S:=rfl
@[simp]theorem Jxx:U0 .min2 [.int i,.int j] S=.ok (.int (if j<i then j else i)) S:=rfl
@[simp]theorem Jqc:U0 .int1 [.int i] S=.ok (.int i) S:=rfl
@[simp]theorem Jd7:U0 .int1 [.bl b] S=.ok (.int (if b then 1 else 0)) S:=rfl
@[simp]theorem Jqb:U0 .len [.tup ds] S=.ok (.int ds.length) S:=rfl
@[simp]theorem Jsc:U0 .len [.kl ds] S=.ok (.int ds.length) S:=rfl
def Jat(h:S[l]? =some (.lst ds)):U0 .len [.loc l] S=.ok (.int ds.length) S:=by delta U0;simp only[U6,seqAt,h]
@[simp]theorem Jne:U0 .tuple1 [.tup ds] S=.ok (.tup ds) S:=rfl
@[simp]theorem Jn1:U0 .tuple1 [.kl ds] S=.ok (.tup ds) S:=rfl
def Jal(h:S[l]? =some (.lst ds)):U0 .tuple1 [.loc l] S=.ok (.tup ds) S:=by delta U0;simp only[U6,seqAt,h]
@[simp]theorem Jn2:U0 .list1 [.tup ds] S=.ok (.loc S.length) (S++[.lst ds]):=rfl
@[simp]theorem Jqa:U0 .list1 [.kl ds] S=.ok (.loc S.length) (S++[.lst ds]):=rfl
theorem Jjq{α:Type}(p:α->Bool):∀xs:List α,allB (xs.map λx=>D.bl (p x))=some (xs.all p)
 |[]=>rfl
 |x::xs=>by simp only[Aw,allB,Jjq p xs,K7,Fd]
theorem Jiy{α:Type}(p:α->Int):∀xs:List α,sumI (xs.map λx=>D.int (p x))=some (xs.map p).sum
 |[]=>rfl
 |x::xs=>by simp only[Aw,sumI,Jiy p xs,T8,Fd]
def Jg1{α:Type}(p:α->Bool)(xs:List α):U0 .all1 [.loc S.length] (S++[.lst (xs.map λx=>D.bl (p x))])=.ok (.bl (xs.all p)) (S++[.lst (xs.map λx=>D.bl (p x))]):=by
 have h:(S++[Obj.lst (xs.map λx=>D.bl (p x))])[S.length]? =some (.lst (xs.map λx=>D.bl (p x))):=by
  rw[A1 (Ai _),Ey];rfl
 delta U0;simp only[seqAt,h,Jjq]
def Jbu{α:Type}(p:α->Int)(xs:List α):U0 .sum1 [.loc S.length] (S++[.lst (xs.map λx=>D.int (p x))])=.ok (.int (xs.map p).sum) (S++[.lst (xs.map λx=>D.int (p x))]):=by
 have h:(S++[Obj.lst (xs.map λx=>D.int (p x))])[S.length]? =some (.lst (xs.map λx=>D.int (p x))):=by
  rw[A1 (Ai _),Ey];rfl
 delta U0;simp only[seqAt,h,Jiy]
@[simp]theorem Jad:(S++[o])[S.length]? =some o:=by
 rw[A1 (Ai _),Ey];rfl
def Jah{l:Nat}{o:Obj}{X:Store}(h:S[l]? =some o):(S++X)[l]? =some o:=by
 rw[A0 (Ae.mp h).1];exact h
def Jtb(h:atI ds i=some d):idxD (.tup ds) (.int i) S=some d:=by simp only[idxD,U6,h]
def Jmg(hl:S[l]? =some (.lst ds))(h:atI ds i=some d):idxD (.loc l) (.int i) S=some d:=by simp only[idxD,U6,seqAt,hl,h]
def Jw0(h:atI ds i=some d):idxD (.kl ds) (.int i) S=some d:=by simp only[idxD,U6,h]
def Jxr{α:Type}{xs:List α}{i:Int}(h0:0<=i)(h1:i<xs.length):∃x,atI xs i=some x/\x∈xs/\xs[i.toNat]? =some x:=by
 have hl:i.toNat<xs.length:=by omega
 refine⟨xs[i.toNat],?_,Hb hl,Ag hl⟩;simp only[atI,ixN,if_pos h0,if_pos h1,G5];exact Ag hl
def Jt2{α:Type}{xs:List α}(h1:k<xs.length):atI xs (k:Int)=xs[k]? :=by
 have:(k:Int)<xs.length:=by omega
 simp only[atI,ixN,if_pos (Lk k),if_pos this,G5,D5]
def Jay(h:S[l]? =some (.lst ds))(hl:ds.length<Line):U5 .append (.loc l) [d] S=.ok .non (S.set l (.lst (ds++[d]))):=by delta U5;simp only[h,if_pos hl]
def Jh9(h:S[l]? =some (.lst ds))(hk:ixN ds.length i=some k):Vu (.loc l) (.int i) d S=.ok () (S.set l (.lst (ds.set k d))):=by simp only[Vu,h,hk]
def Joo(h:n<=1000000):n<=Line:=by unfold Line;omega
def Jcd(h:n<=1000000):n<Line:=by unfold Line;omega
end
@[simp]noncomputable def X8(o:Option (Option D))(S:Store):Res D:=match o with|some (some d)=>.ok d S|_=>.bad
@[simp]noncomputable def Zp(o:Option D)(S:Store):Res D:=match o with|some d=>.ok d S|none=>.bad
@[simp]noncomputable def Xp(C:Pr)(o:Bop)(b:M)(Z:En)(x:D)(S:Store):Res D:=(evE C b Z S).bind (bop o x)
@[simp]noncomputable def Wfo(x:D)(S:Store):Res D:=match x with|.int i=>.ok (.int (Bx i)) S|_=>.bad
@[simp]noncomputable def Wfh(x:D)(S:Store):Res D:=match x with|.int i=>.ok (.int (-i)) S|_=>.bad
@[simp]noncomputable def Wff(x:D)(S:Store):Res D:=match tru S x with|some b=>.ok (.bl (!b)) S|none=>.bad
@[simp]noncomputable def Jou(o:Cop)(x y:D)(S:Store):Res D:=match cop o x y S with|some k=>.ok (.bl k) S|none=>.bad
@[simp]noncomputable def Zq(C:Pr)(o:Cop)(b:M)(Z:En)(x:D)(S:Store):Res D:=(evE C b Z S).bind (Jou o x)
@[simp]noncomputable def Jwp(C:Pr)(o p:Cop)(c:M)(Z:En)(x y:D)(S:Store):Res D:=match cop o x y S with
 |some k=>if k then(evE C c Z S).bind (Jou p y)else .ok (.bl false) S
 |none=>.bad
@[simp]noncomputable def Wd4(C:Pr)(o p:Cop)(b c:M)(Z:En)(x:D)(S:Store):Res D:=(evE C b Z S).bind (Jwp C o p c Z x)
@[simp]noncomputable def Wfl(C:Pr)(a b:M)(Z:En)(k:Bool)(S:Store):Res D:=if k then evE C a Z S else evE C b Z S
@[simp]noncomputable def Wd2(ds:List D)(S:Store):Res D:=if ds.length<=Line then .ok (.tup ds) S else .bad
@[simp]noncomputable def Wfj(ds:List D)(S:Store):Res D:=if ds.length<=Line then .ok (.loc S.length) (S++[.lst ds])else .bad
noncomputable def Jao(x y:D)(S:Store):Res D:=match idxD x y S with|some d=>.ok d S|none=>.bad
@[simp]noncomputable def Zo(C:Pr)(b:M)(Z:En)(x:D)(S:Store):Res D:=(evE C b Z S).bind (Jao x)
@[simp]noncomputable def Jy5(C:Pr)(hi:M)(Z:En)(x:D)(l:Option Int)(S:Store):Res D:=(evO C hi Z S).bind (V3 x l)
@[simp]noncomputable def Wfc(C:Pr)(lo hi:M)(Z:En)(x:D)(S:Store):Res D:=(evO C lo Z S).bind (Jy5 C hi Z x)
@[simp]noncomputable def Wfk(t:String)(x:D)(S:Store):Res D:=match tyD S x with|some y=>.ok (.bl (isiD y t)) S|none=>.bad
@[simp]noncomputable def Wd3(C:Pr)(p:Meth)(as:M)(Z:En)(x:D)(S:Store):Res D:=if rcv p S x then(evA C as Z S).bind (U5 p x)else .bad
@[simp]noncomputable def kTru(d:D)(S:Store):Res Bool:=match tru S d with|some b=>.ok b S|none=>.bad
@[simp]noncomputable def Xv(o:Option (Option D))(S:Store):Res Bool:=match o with|some (some d)=>kTru d S|_=>.bad
@[simp]noncomputable def Z0(b:Bool)(S:Store):Res Bool:=.ok (!b) S
@[simp]noncomputable def Jnh(o:Cop)(x y:D)(S:Store):Res Bool:=match cop o x y S with|some k=>.ok k S|none=>.bad
@[simp]noncomputable def Xz(C:Pr)(o:Cop)(b:M)(Z:En)(x:D)(S:Store):Res Bool:=(evE C b Z S).bind (Jnh o x)
@[simp]noncomputable def Jus(C:Pr)(o p:Cop)(c:M)(Z:En)(x y:D)(S:Store):Res Bool:=match cop o x y S with
 |some k=>if k then(evE C c Z S).bind (Jnh p y)else .ok false S
 |none=>.bad
@[simp]noncomputable def Z5(C:Pr)(o p:Cop)(b c:M)(Z:En)(x:D)(S:Store):Res Bool:=(evE C b Z S).bind (Jus C o p c Z x)
noncomputable def Jq5(x y:D)(S:Store):Res Bool:=match idxD x y S with|some d=>kTru d S|none=>.bad
@[simp]noncomputable def Wet(C:Pr)(b:M)(Z:En)(x:D)(S:Store):Res Bool:=(evE C b Z S).bind (Jq5 x)
@[simp]noncomputable def Wew(C:Pr)(f:String)(ds:List D)(S:Store):Res Bool:=(C.call f ds S).bind kTru
@[simp]noncomputable def Zy(p:Prim)(ds:List D)(S:Store):Res Bool:=(U0 p ds S).bind kTru
@[simp]noncomputable def Wer(t:String)(x:D)(S:Store):Res Bool:=match tyD S x with|some y=>.ok (isiD y t) S|none=>.bad
@[simp]noncomputable def kBV(C:Pr)(w:Bool)(r:M)(Z:En)(x:D)(S:Store):Res D:=match x with|.bl c=>if c=w then evBV C w r Z S else .ok (.bl (!w)) S|_=>.bad
@[simp]noncomputable def kBT(C:Pr)(w:Bool)(r:M)(Z:En)(c:Bool)(S:Store):Res Bool:=if c=w then evBT C w r Z S else .ok (!w) S
@[simp]noncomputable def Va(x:D)(xs:List D)(S:Store):Res (List D):=.ok (x::xs) S
@[simp]noncomputable def Vp(C:Pr)(b:M)(Z:En)(x:D)(S:Store):Res (List D):=(evA C b Z S).bind (Va x)
@[simp]noncomputable def Wfe(x:D)(S:Store):Res (Option Int):=match x with|.int i=>.ok (some i) S|_=>.bad
noncomputable def rOk(j:Int):Bool:=match j with
 |.ofNat n=>Nat.ble n (2^62-1)
 |.negSucc n=>Nat.ble n (2^62-1)
theorem Jp6(j:Int):(decide (-(2^62)<=j)&&decide (j<2^62))=rOk j:=by
 rw[Mt,Al,decide_eq_true_eq,decide_eq_true_eq];cases j with
 |ofNat n=>rw[rOk,Nat.ble_eq,Int.ofNat_eq_natCast];omega
 |negSucc n=>rw[rOk,Nat.ble_eq,Int.negSucc_eq];omega
noncomputable def Xo(x:D)(S:Store):Res (Wk×List D):=match x with
 |.int j=>if rOk j then .ok (none,(B7 j.toNat).map λ(i:Nat)=>.int i) S else .bad
 |_=>.bad
@[simp]noncomputable def Zn(x:D)(S:Store):Res (Wk×List D):=match x with
 |.tup ds=>.ok (none,ds) S
 |.kl ds=>.ok (none,ds) S
 |.loc l=>(match seqAt S l with|some ds=>.ok (some (l,.lst),ds) S|none=>.bad)
 |_=>.bad
noncomputable def Yb(x:D)(S:Store):Res (Wk×List D):=match x with
 |.loc l=>(match seqAt S l with|some ds=>.ok (some (l,.enm),ds) S|none=>.bad)
 |.tup ds=>.ok (none,enD 0 ds) S
 |_=>.bad
@[simp]theorem Jx2:Yb (.tup ds) S=.ok (none,enD 0 ds) S:=rfl
@[simp]noncomputable def kZp(C:Pr)(b:M)(Z:En)(x:D)(S:Store):Res (Wk×List D):=(evE C b Z S).bind (zpD x)
@[simp]noncomputable def Jy7(i:Nat)(Z:En)(x:Int)(y:D)(S:Store):Res Fl:=match y with|.int z=>.ok (.nx (Z.set i (some (.int (x+z))))) S|_=>.bad
@[simp]noncomputable def Wfp(C:Pr)(i:Nat)(e:M)(Z:En)(o:Option (Option D))(S:Store):Res Fl:=match o with
 |some (some (.int x))=>(evE C e Z S).bind (Jy7 i Z x)
 |_=>.bad
noncomputable def Ya(c f:String)(x:D)(S:Store):Res D:=match Xl S x c f with|some d=>.ok d S|none=>.bad
@[simp]noncomputable def Jy6(C:Pr)(f:String)(x:D)(ds:List D)(S:Store):Res D:=C.call f (x::ds) S
@[simp]noncomputable def Wfi(C:Pr)(c m f:String)(as:M)(Z:En)(x:D)(S:Store):Res D:=if isRec S x c m then(evA C as Z S).bind (Jy6 C f x)else .bad
@[simp]noncomputable def Jyb(C:Pr)(f:String)(x:D)(ds:List D)(S:Store):Res Bool:=(C.call f (x::ds) S).bind kTru
@[simp]noncomputable def Wep(C:Pr)(c m f:String)(as:M)(Z:En)(x:D)(S:Store):Res Bool:=if isRec S x c m then(evA C as Z S).bind (Jyb C f x)else .bad
@[simp]noncomputable def Wfg(l:Nat)(d:D)(S:Store):Res D:=match d with|.non=>.ok (.loc l) S|_=>.bad
noncomputable def Js5(c f:String)(Z:En)(y x:D)(S:Store):Res Fl:=match Yn S x c f y with|some S3=>.ok (.nx Z) S3|none=>.bad
@[simp]noncomputable def Wfd(C:Pr)(c f:String)(o:M)(Z:En)(y:D)(S:Store):Res Fl:=(evE C o Z S).bind (Js5 c f Z y)
@[simp]noncomputable def kEn(Z:En)(_:Unit)(S:Store):Res En:=.ok Z S
@[simp]noncomputable def Jy4(d:D)(Z:En)(o i:D)(S:Store):Res En:=(Vu o i d S).bind (kEn Z)
@[simp]noncomputable def Wfb(C:Pr)(b:M)(d:D)(Z:En)(o:D)(S:Store):Res En:=(evE C b Z S).bind (Jy4 d Z o)
@[simp]noncomputable def kNx(Z:En)(S:Store):Res Fl:=.ok (.nx Z) S
@[simp]noncomputable def Zr(C:Pr)(t:M)(Z:En)(d:D)(S:Store):Res Fl:=(evG C t d Z S).bind kNx
@[simp]noncomputable def Ww(C:Pr)(a b:M)(Z:En)(k:Bool)(S:Store):Res Fl:=if k then evB C a Z S else evB C b Z S
@[simp]noncomputable def X9(d:D)(S:Store):Res Fl:=.ok (.rt d) S
@[simp]noncomputable def Wfm(Z:En)(_:D)(S:Store):Res Fl:=.ok (.nx Z) S
@[simp]noncomputable def kB(C:Pr)(r:M)(fl:Fl)(S:Store):Res Fl:=match fl with
 |.nx τ1=>evB C r τ1 S
 |.rt d=>.ok (.rt d) S
noncomputable def Wm(C:Pr)(t b:M)(d:D)(Z:En)(S:Store):Res Fl:=(evG C t d Z S).bind (evB C b)
noncomputable def kFor(C:Pr)(t b:M)(Z:En)(w:Wk×List D)(S:Store):Res Fl:=forL (Wm C t b) w.1 w.2 w.2.length 0 Z S
@[simp]noncomputable def Jwo(ys:List D)(S:Store):Res D:=.ok (.loc S.length) (S++[.lst ys])
noncomputable def Wr(C:Pr)(k:Nat)(keep:List Nat)(tg cd el:M)(Z:En)(w:Wk×List D)(S:Store):Res D:=(Vj (Vo C tg cd el) w.1 w.2 w.2.length 0 (U2 k keep Z) S []).bind Jwo
noncomputable def Yu(C:Pr)(b:Bool)(keep:List Nat)(tg el:M)(Z:En)(x:D)(S:Store):Res D:=(frD x S).bind λw S2=>(Vj (Vo C tg .nul el) none (w.2.map (dwI b)) (w.2.map (dwI b)).length 0 (U2 1 keep Z) S2 []).bind (thD w.1)
section
variable {C:Pr} {Z:En} {S:Store} {w:Bool} {d:D} {ds:List D} {i k:Nat} {keep:List Nat} {N:List String} {x f t:String} {a b c r as lo hi e s ts t':M} {it tg cd el:M} {o p:Cop} {q:Bop} {pr:Prim} {me:Meth}
@[simp]theorem Jh7:evE C (.cst d) Z S=.ok d S:=rfl
@[simp]theorem v_var:evE C (.var i) Z S=X8 Z[i]? S:=rfl
@[simp]theorem Jui:evE C (.glb x) Z S=Zp (C.glob x) S:=rfl
@[simp]theorem Jul:evE C (.bin q a b) Z S=(evE C a Z S).bind (Xp C q b Z):=rfl
@[simp]theorem J0r:evE C (.bit a) Z S=(evE C a Z S).bind Wfo:=rfl
@[simp]theorem J0b:evE C (.neg a) Z S=(evE C a Z S).bind Wfh:=rfl
@[simp]theorem Jzu:evE C (.nott a) Z S=(evE C a Z S).bind Wff:=rfl
@[simp]theorem v_bo:evE C (.bo w as) Z S=evBV C w as Z S:=rfl
@[simp]theorem Juj:evE C (.cmp o a b) Z S=(evE C a Z S).bind (Zq C o b Z):=rfl
@[simp]theorem Jzx:evE C (.cmp2 o p a b c) Z S=(evE C a Z S).bind (Wd4 C o p b c Z):=by
 show Res.bind _ _=_;congr 1;funext x S1;simp only[Wd4];congr 1;funext y S2;simp only[Jwp];cases cop o x y S2 with
 |none=>rfl
 |some k=>cases k<;>rfl
@[simp]theorem J0f:evE C (.ife c a b) Z S=(evT C c Z S).bind (Wfl C a b Z):=rfl
@[simp]theorem Jz6:evE C (.tup as) Z S=(evA C as Z S).bind Wd2:=rfl
@[simp]theorem Jug:evE C (.lst as) Z S=(evA C as Z S).bind Wfj:=rfl
@[simp]theorem Jx3:evE C (.idx a b) Z S=(evE C a Z S).bind (Zo C b Z):=rfl
@[simp]theorem Jz7:evE C (.sli a lo hi) Z S=(evE C a Z S).bind (Wfc C lo hi Z):=rfl
@[simp]theorem Juk:evE C (.call f as) Z S=(evA C as Z S).bind (C.call f):=rfl
@[simp]theorem Jpr:evE C (.prim pr as) Z S=(evA C as Z S).bind (U0 pr):=rfl
@[simp]theorem J0e:evE C (.isi a t) Z S=(evE C a Z S).bind (Wfk t):=rfl
@[simp]theorem Jzv:evE C (.meth me a as) Z S=(evE C a Z S).bind (Wd3 C me as Z):=rfl
@[simp]theorem Jzw:evE C (.comp N k keep tg it cd el) Z S=(evI C it Z S).bind (Wr C k keep tg cd el Z):=rfl
@[simp]theorem J0m:evE C (.dcm B N keep tg a el) Z S=(evE C a Z S).bind (Yu C B keep tg el Z):=rfl
@[simp]theorem Jx7:evE C (.dnil 0) Z S=.ok (.loc S.length) (S++[.dct []]):=rfl
@[simp]theorem Jx6:evE C (.dnil 1) Z S=.ok (.loc S.length) (S++[.dtu []]):=rfl
@[simp]theorem Jx5:evE C (.dnil 2) Z S=.ok (.loc S.length) (S++[.rg []]):=rfl
@[simp]theorem J0g:evE C (.hld a) Z S=(evE C a Z S).bind Ye:=rfl
@[simp]theorem J0d:evE C (.lsp a) Z S=(evE C a Z S).bind X5:=rfl
@[simp]theorem v_zp:evI C (.zp a b) Z S=(evE C a Z S).bind (kZp C b Z):=rfl
@[simp]theorem J0s:evS C (.aug i e) Z S=Wfp C i e Z Z[i]? S:=rfl
@[simp]theorem J0k:evE C (.fld x f a) Z S=(evE C a Z S).bind (Ya x f):=rfl
@[simp]theorem J0c:evE C (.mcl x t f a as) Z S=(evE C a Z S).bind (Wfi C x t f as Z):=rfl
@[simp]theorem Juf:evE C (.new x f) Z S=(C.call f [.loc S.length] (S++[.ins x []])).bind (Wfg S.length):=rfl
@[simp]theorem J0l:evI C (.enm a) Z S=(evE C a Z S).bind Yb:=rfl
@[simp]theorem Jz8:evS C (.sfd x f a b) Z S=(evE C b Z S).bind (Wfd C x f a Z):=rfl
@[simp]theorem Jz2:evT C (.mcl x t f a as) Z S=(evE C a Z S).bind (Wep C x t f as Z):=rfl
@[simp]theorem Jzp:evT C (.nott a) Z S=(evT C a Z S).bind Z0:=rfl
@[simp]theorem w_bo:evT C (.bo w as) Z S=evBT C w as Z S:=rfl
@[simp]theorem Jz5:evT C (.cmp o a b) Z S=(evE C a Z S).bind (Xz C o b Z):=rfl
@[simp]theorem Jzq:evT C (.cmp2 o p a b c) Z S=(evE C a Z S).bind (Z5 C o p b c Z):=by
 show Res.bind _ _=_;congr 1;funext x S1;simp only[Z5];congr 1;funext y S2;simp only[Jus];cases cop o x y S2 with
 |none=>rfl
 |some k=>cases k<;>rfl
@[simp]theorem w_var:evT C (.var i) Z S=Xv Z[i]? S:=rfl
@[simp]theorem Jz4:evT C (.idx a b) Z S=(evE C a Z S).bind (Wet C b Z):=rfl
@[simp]theorem Jzr:evT C (.call f as) Z S=(evA C as Z S).bind (Wew C f):=rfl
@[simp]theorem Jzo:evT C (.prim pr as) Z S=(evA C as Z S).bind (Zy pr):=rfl
@[simp]theorem Jz3:evT C (.isi a t) Z S=(evE C a Z S).bind (Wer t):=rfl
@[simp]theorem J0o:evBV C w (.cns a .nul) Z S=evE C a Z S:=rfl
@[simp]theorem J0n:evBV C w (.cns a (.cns b r)) Z S=(evE C a Z S).bind (kBV C w (.cns b r) Z):=rfl
@[simp]theorem J0q:evBT C w (.cns a .nul) Z S=evT C a Z S:=rfl
@[simp]theorem J0p:evBT C w (.cns a (.cns b r)) Z S=(evT C a Z S).bind (kBT C w (.cns b r) Z):=rfl
@[simp]theorem v_c0:evC C .nul Z S=.ok true S:=rfl
@[simp]theorem v_c1:evC C (.cns c .nul) Z S=evT C c Z S:=rfl
@[simp]theorem Vs:evA C .nul Z S=.ok [] S:=rfl
@[simp]theorem Yl:evA C (.cns a b) Z S=(evE C a Z S).bind (Vp C b Z):=rfl
@[simp]theorem v_o0:evO C .nul Z S=.ok none S:=rfl
@[simp]theorem v_o1:evO C (.cns a .nul) Z S=(evE C a Z S).bind Wfe:=rfl
@[simp]theorem J0a:evI C (.rng a) Z S=(evE C a Z S).bind Xo:=by
 have:Xo=λx S1=>match x with|.int j=>if decide (-(2^62)<=j)&&decide (j<2^62)then .ok (none,(B7 j.toNat).map λ(i:Nat)=>D.int i) S1 else .bad|_=>.bad:=by
  funext x S1;unfold Xo;cases x<;>simp only[Jp6]
 rw[this];rfl
@[simp]theorem Jz9:evI C (.cns a .nul) Z S=(evE C a Z S).bind Zn:=rfl
@[simp]theorem Jpq:evG C (.tvar i) d Z S=if i<Z.length then .ok (Z.set i (some d)) S else .bad:=rfl
@[simp]theorem Jzs:evG C (.ttup ts) (.tup ds) Z S=evGs C ts ds Z S:=rfl
@[simp]theorem Jzt:evG C (.tsub a b) d Z S=(evE C a Z S).bind (Wfb C b d Z):=rfl
@[simp]theorem J0i:evGs C .nul [] Z S=.ok Z S:=rfl
@[simp]theorem J0h:evGs C (.cns t' ts) (d::ds) Z S=(evG C t' d Z S).bind (evGs C ts ds):=rfl
@[simp]theorem J0t:evS C (.asg t' e) Z S=(evE C e Z S).bind (Zr C t' Z):=rfl
@[simp]theorem Juh:evS C (.ifs c a b) Z S=(evT C c Z S).bind (Ww C a b Z):=rfl
@[simp]theorem Jnf:evS C (.ret e) Z S=(evE C e Z S).bind X9:=rfl
@[simp]theorem Jx4:evS C (.exp e) Z S=(evE C e Z S).bind (Wfm Z):=rfl
@[simp]theorem J0j:evS C (.forr t' it b) Z S=(evI C it Z S).bind (kFor C t' b Z):=rfl
@[simp]theorem Zx:evB C .nul Z S=.ok (.nx Z) S:=rfl
@[simp]theorem Xu:evB C (.cns s r) Z S=(evS C s Z S).bind (kB C r):=rfl
theorem Jas{t b:M}:Wm C t b d Z S=(evG C t d Z S).bind (evB C b):=rfl
@[simp]noncomputable def Wfn(y:D)(S:Store):Res (Option D):=.ok (some y) S
@[simp]noncomputable def kEl(C:Pr)(el:M)(Z:En)(b:Bool)(S:Store):Res (Option D):=if b then(evE C el Z S).bind Wfn else .ok none S
@[simp]noncomputable def kCd(C:Pr)(cd el:M)(Z:En)(S:Store):Res (Option D):=(evC C cd Z S).bind (kEl C el Z)
theorem Jaj:Vo C tg cd el d Z S=(evG C tg d Z S).bind (kCd C cd el):=rfl
def Jc6{j:Int}(h0: -(2^62)<=j)(h1:j<2^62):Xo (.int j) S=.ok (none,(B7 j.toNat).map λ(i:Nat)=>.int i) S:=by
 simp only[Xo];rw[if_pos (by rw[<-Jp6,Al,decide_eq_true_eq,decide_eq_true_eq];exact⟨h0,h1⟩)]
end
def Ext(S S':Store):Prop:=∃X,S'=S++X
def Ext.refl(S:Store):Ext S S:=⟨[],by simp⟩
def Ext.trans(a:Ext S S1)(b:Ext S1 S2):Ext S S2:=by
 obtain⟨X,rfl⟩:=a;obtain⟨Y,rfl⟩:=b;exact⟨X++Y,by rw[Lx]⟩
def Ext.new(S X:Store):Ext S (S++X):=⟨X,rfl⟩
def Ext.get{S S':Store}{l:Nat}{o:Obj}(e:Ext S S')(h:S[l]? =some o):S'[l]? =some o:=by
 obtain⟨X,rfl⟩:=e;exact Jah h
def Ext.len{S S':Store}(e:Ext S S'):S.length<=S'.length:=by
 obtain⟨X,rfl⟩:=e;simp
def Ext.set{S S':Store}(e:Ext S S')(h:S.length<=l)(o:Obj):Ext S (S'.set l o):=by
 obtain⟨X,rfl⟩:=e;exact⟨X.set (l-S.length) o,by rw[List.set_append_right _ _ h]⟩
def Ja0{S:Store}(h:S[l]? =some o):l<S.length:=(Ae.mp h).1
def Jaq{S:Store}(h:S[l]? =some o):(S.set l o')[l]? =some o':=Ci (Ja0 h)
def Jeu(S X:Store)(k:Nat):(S++X)[S.length+k]? =X[k]? :=by
 rw[A1 (Hh _ _),Nat.add_sub_cancel_left]
@[simp]theorem Jav{S:Store}:(S++(a0::X))[S.length]? =some a0:=Jeu S (a0::X) 0
@[simp]theorem Jc4{S:Store}:(S++(a0::a1::X))[S.length+1]? =some a1:=by rw[Jeu];rfl
@[simp]theorem Jd2{S:Store}:(S++(a0::a1::a2::X))[S.length+2]? =some a2:=by rw[Jeu];rfl
def Keep(ps:List Nat)(S S':Store):Prop:=S.length<=S'.length/\∀l:Nat,l<S.length->l∉ps->S'[l]? =S[l]?
section
variable {S S1 S2 B:Store} {ps:List Nat}
def Keep.refl:Keep ps S S:=⟨Ai _,λ_ _ _=>rfl⟩
def Keep.trans(a:Keep ps S S1)(b:Keep ps S1 S2):Keep ps S S2:=⟨Bw a.1 b.1,λl h n=>(b.2 l (Bh h a.1) n).trans (a.2 l h n)⟩
def Keep.get(a:Keep ps S S1)(h:S[l]? =some o)(n:l∉ps):S1[l]? =some o:=(a.2 l (Ja0 h) n).trans h
def Keep.ext(e:Ext S S1):Keep ps S S1:=⟨e.len,λl h n=>by
 rw[Ag h];exact e.get (Ag h)⟩
def Keep.new(X:Store):Keep ps S (S++X):=.ext (.new _ _)
def Keep.set(h:p∈ps):Keep ps S (S.set p o):=⟨by simp,λl hl n=>by
 rw[Au];rintro rfl;exact n h⟩
def Keep.mono(a:Keep ps S S1)(h:∀p∈ps,p∈qs):Keep qs S S1:=⟨a.1,λl hl n=>a.2 l hl λz=>n (h l z)⟩
def Keep.less(a:Keep ps S S1)(h:∀p∈ps,p∈qs\/S.length<=p):Keep qs S S1:=⟨a.1,λl hl n=>a.2 l hl λz=>(h l z).elim n (by lia)⟩
def Ext.of(k:Keep [] S S1):Ext S S1:=by
 refine⟨S1.drop S.length,Q7 λi=>?_⟩;have:=k.1
 by_cases hi:i<S.length
 ·rw[A0 hi];exact k.2 i hi (by simp)
 ·rw[A1 (by lia),List.getElem?_drop];congr 1;lia
def Ext.keep(e:Ext B S)(k:Keep ps S S1)(h:∀p∈ps,B.length<=p):Ext B S1:=.of (((Keep.ext (ps:=ps) e).trans k).less λp hp=>.inr (h p hp))
end
section
variable {C:Pr} {t b:M} {ds:List D} {S:Store} {Z:En} {g:Wk}
def W8(I:Nat->En->Store->Prop)(R:D->Store->Prop)(h0:I 0 Z S)(same:∀i Z S,I i Z S->sameAt S g ds.length=true)
  (ht:∀i Z S,i<ds.length->I i Z S->∃d,nth S g ds i=some d/\Sat (Wm C t b d Z S) (FlP (I (i+1)) R)):Sat (kFor C t b Z (g,ds) S) (FlP (I ds.length) R):=Wfw I same ht _ 0 Z S (by simp) h0
def loop(I:Nat->En->Store->Prop)(R:D->Store->Prop)(h0:I 0 Z S)(ht:∀i d Z S,ds[i]? =some d->I i Z S->Sat (Wm C t b d Z S) (FlP (I (i+1)) R)):Sat (kFor C t b Z (none,ds) S) (FlP (I ds.length) R):=
 W8 I R h0 (λ_ _ _ _=>rfl) λi Z S hi h=>⟨ds[i],Ag hi,ht i _ Z S (Ag hi) h⟩
def Jd5(h:S[l]? =some (.lst ds)):sameAt S (some (l,k)) ds.length=true:=by simp[sameAt,h]
def Y7(I:Nat->En->Store->Prop)(R:D->Store->Prop)(h0:I 0 Z S)(hst:∀i Z S,I i Z S->S[l]? =some (.lst ds))(ht:∀i d Z S,ds[i]? =some d->I i Z S->Sat (Wm C t b d Z S) (FlP (I (i+1)) R)):Sat (kFor C t b Z (some (l,.lst),ds) S) (FlP (I ds.length) R):=
 W8 I R h0 (λi Z S h=>Jd5 (hst i Z S h)) λi Z S hi h=>⟨ds[i],by simp[nth,seqAt,hst i Z S h,hi],ht i _ Z S (Ag hi) h⟩
def Wd0(I:Nat->En->Store->Prop)(R:D->Store->Prop)(h0:I 0 Z S)(hst:∀i Z S,I i Z S->S[l]? =some (.lst ds))(ht:∀i d Z S,ds[i]? =some d->I i Z S->Sat (Wm C t b (.tup [.int i,d]) Z S) (FlP (I (i+1)) R)):Sat (kFor C t b Z (some (l,.enm),ds) S) (FlP (I ds.length) R):=
 W8 I R h0 (λi Z S h=>Jd5 (hst i Z S h)) λi Z S hi h=>⟨.tup [.int i,ds[i]],by simp[nth,seqAt,hst i Z S h,hi],ht i _ Z S (Ag hi) h⟩
def comp(I:Nat->List D->Store->Prop)(hl:ds.length<=Line)(h0:I 0 [] S)(same:∀i acc S,I i acc S->acc.length<=i/\sameAt S g ds.length=true)
  (ht:∀i acc S,i<ds.length->I i acc S->∃d,nth S g ds i=some d/\Sat (Vo C tg cd el d (U2 k keep Z) S) λo S1=>I (i+1) (acc++o.toList) S1):
  Sat (Wr C k keep tg cd el Z (g,ds) S) λd S1=>∃ys S0,I ds.length ys S0/\d=.loc S0.length/\S1=S0++[.lst ys]:=
 (Wec I hl same ht _ 0 [] S (by simp) h0).p1 λys S0 h=>.ok ⟨ys,S0,h,rfl,rfl⟩
def Jjf{α:Type}{xs:List α}(h:α->D)(f:α->Option D)(hl:xs.length<=1000000)(hg:g=none\/∃l,g=some (l,.lst)/\S[l]? =some (.lst (xs.map h)))
  (ht:∀x∈xs,Vo C tg cd el (h x) (U2 k keep Z) S=.ok (f x) S):Wr C k keep tg cd el Z (g,xs.map h) S=.ok (.loc S.length) (S++[.lst (xs.filterMap f)]):=by
 obtain⟨d,S1,e,ys,S0,⟨rfl,rfl⟩,rfl,rfl⟩:=comp (C:=C) (g:=g) (S:=S) (Z:=Z) (k:=k) (keep:=keep) (tg:=tg) (cd:=cd) (el:=el) (ds:=xs.map h) (λi acc S1=>acc=(xs.take i).filterMap f/\S1=S) (by rw[Ah];exact Joo hl) ⟨by simp,rfl⟩
  (λi acc S1 ⟨h1,h2⟩=>⟨by rw[h1];exact Bw (List.length_filterMap_le _ _) (by simp;lia),by rcases hg with rfl|⟨l,rfl,hs⟩<;>first|rfl|(rw[h2];exact Jd5 hs)⟩)
  (λi acc S1 hi ⟨h1,h2⟩=>by
   have hx:i<xs.length:=by simpa using hi
   refine⟨h xs[i],?_,?_⟩
   ·rcases hg with rfl|⟨l,rfl,hs⟩
    ·simp[nth,hx]
    ·simp[nth,seqAt,h2,hs,hx]
   ·rw[h2,ht _ (Hb hx)];refine .ok ⟨?_,rfl⟩;rw[h1,D2,Ag hx,List.filterMap_append];simp only[R7,Ge,List.filterMap_nil];cases f xs[i]<;>rfl)
 rw[e,show(xs.map h).length=xs.length by simp,Ha]
def Ja6{α:Type}{xs:List α}(h:α->D)(f:α->D)(hl:xs.length<=1000000)(hg:g=none\/∃l,g=some (l,.lst)/\S[l]? =some (.lst (xs.map h)))
  (ht:∀x∈xs,Vo C tg cd el (h x) (U2 k keep Z) S=.ok (some (f x)) S):Wr C k keep tg cd el Z (g,xs.map h) S=.ok (.loc S.length) (S++[.lst (xs.map f)]):=by
 rw[Jjf h (λx=>some (f x)) hl hg ht];simp
def Js7{b:Bool}{keep:List Nat}{tg el:M}{l:Nat}{kvs:List (Rdu.PK×D)}(f:Rdu.PK×D->D)(h:S[l]? =some (.dtu kvs))(hl:kvs.length<=1000000)
  (ht:∀p∈kvs,Vo C tg .nul el (dwI b p) (U2 1 keep Z) (S.set l (.fz kvs))=.ok (some (f p)) (S.set l (.fz kvs))):Yu C b keep tg el Z (.loc l) S=.ok (.loc S.length) (S++[.lst (kvs.map f)]):=by
 have lt:=(Ae.mp h).1;obtain⟨ys,S',e1,e2⟩:=Res.bind_eq_ok (Ja6 (dwI b) f hl (.inl rfl) ht);injection e2 with _ e3;obtain⟨rfl,e4⟩:=List.append_inj' e3 rfl;cases e4;simp only[Yu,frD,dtAt,h,Res.bind_ok];have e1:Vj (Vo C tg .nul el) none (kvs.map (dwI b)) (kvs.map (dwI b)).length 0 (U2 1 keep Z) (S.set l (.fz kvs)) []=.ok (kvs.map f) (S.set l (.fz kvs)):=e1;rw[e1];simp only[Res.bind_ok,thD,Ci lt];rw[List.set_append_left _ _ (by simpa using lt),List.set_set,D4,show S.set l (.dtu kvs)=S by rw[<-(Ae.mp h).2];exact Pg lt]
end
section
variable {S:Store} {l:Nat} {ds:List D} {d:D} {i:Int}
def Jbl(e:atI ds i=some d):Jao (.tup ds) (.int i) S=.ok d S:=by simp only[Jao,Jtb e]
def Jau(h:S[l]? =some (.lst ds))(e:atI ds i=some d):Jao (.loc l) (.int i) S=.ok d S:=by simp only[Jao,Jmg h e]
def at0{α:Type}{a:α}{r:List α}{k:Nat}{x:α}(h:(a::r)[k]? =some x):atI (a::r) (k:Int)=some x:=by rw[Jt2 (Ae.mp h).1];exact h
@[simp]theorem Jbm{a:D}:Jao (.tup (a::ds)) (.int 0) S=.ok a S:=Jbl (at0 (k:=0) rfl)
@[simp]theorem Jdx{a b:D}:Jao (.tup (a::b::ds)) (.int 1) S=.ok b S:=Jbl (at0 (k:=1) rfl)
@[simp]theorem Jje{a b c:D}:Jao (.tup (a::b::c::ds)) (.int 2) S=.ok c S:=Jbl (at0 (k:=2) rfl)
@[simp]theorem Jot{a b c e:D}:Jao (.tup (a::b::c::e::ds)) (.int 3) S=.ok e S:=Jbl (at0 (k:=3) rfl)
@[simp]theorem Jx1{a b c e f:D}:Jao (.tup (a::b::c::e::f::ds)) (.int 4) S=.ok f S:=Jbl (at0 (k:=4) rfl)
@[simp]theorem Jx0{a b c e f x:D}:Jao (.tup (a::b::c::e::f::x::ds)) (.int 5) S=.ok x S:=Jbl (at0 (k:=5) rfl)
def Jzn{α:Type}{xs:List α}(h0:0<=i)(h1:i<xs.length):∃x,atI xs i=some x/\x∈xs:=let⟨x,a,b,_⟩:=Jxr h0 h1;⟨x,a,b⟩
def Jpj{α:Type}{xs:List α}{x:α}:atI (xs++[x]) (-1)=some x:=by
 have h1:¬(0:Int)<= -1:=by decide
 have h2: -(((xs++[x]).length:Nat):Int)<= -1:=by simp;lia
 simp only[atI,ixN,if_neg h1,if_pos h2,G5];have:(-1+(((xs++[x]).length:Nat):Int)).toNat=xs.length:=by simp;lia
 rw[this];simp
def Jov{α:Type}{xs:List α}{x:α}:ixN (xs++[x]).length (-1)=some xs.length:=by
 have h1:¬(0:Int)<= -1:=by decide
 have h2: -(((xs++[x]).length:Nat):Int)<= -1:=by simp;lia
 simp only[ixN,if_neg h1,if_pos h2];congr 1;simp;lia
def Jcx(h:S[l]? =some (.lst (ds++[d]))):Jao (.loc l) (.int (-1)) S=.ok d S:=Jau h Jpj
def Jnp{e:D}(h:S[l]? =some (.lst (ds++[d]))):Vu (.loc l) (.int (-1)) e S=.ok () (S.set l (.lst (ds++[e]))):=by
 rw[Jh9 h Jov];simp
def Jfx(h:S[l]? =some (.lst (ds++[d]))):U5 .pop0 (.loc l) [] S=.ok d (S.set l (.lst ds)):=by
 have:(ds++[d])[(ds++[d]).length-1]? =some d:=by simp
 delta U5;simp only[h,this,List.dropLast_concat]
def Jfo(h:S[l]? =some (.lst ds)):tru S (.loc l)=some (!ds.isEmpty):=by simp only[tru,seqAt,h]
def set_same(h:S[l]? =some o):S.set l o=S:=by
 obtain⟨h1,rfl⟩:=Ae.mp h;exact Pg h1
@[simp]theorem Jpw:tru S (.bl b)=some b:=rfl
@[simp]theorem Jqe:Ab a=Ab b↔a=b:=⟨Jie,λh=>h▸rfl⟩
@[simp]theorem Jqf:(Ab a==Ab b)=(a==b):=by
 rw[Mt];simp
def Jdu(h:S[l]? =some (.lst ds)):V3 (.loc l) lo hi S=.ok (.loc S.length) (S++[.lst (cutD ds lo hi)]):=by simp only[V3,seqAt,h]
def Jgd(h0:0<=i):cutD ds (some i) none=ds.drop i.toNat:=by
 simp only[cutD,HT.sIx];rw[if_neg (by lia)]
 by_cases h:i.toNat<=ds.length
 ·rw[show min i.toNat ds.length=i.toNat by lia];rw[Ef (by rw[Jp];lia)]
 ·rw[Jw (by lia:ds.length<=i.toNat),Jw (by lia),List.take_nil]
def Jjk(h0:0<=i):cutD ds none (some i)=ds.take i.toNat:=by
 simp only[cutD,HT.sIx];rw[if_neg (by lia)];simp only[Sz,H9]
 by_cases h:i.toNat<=ds.length
 ·rw[show min i.toNat ds.length=i.toNat by lia]
 ·rw[show min i.toNat ds.length=ds.length by lia,Ef (Ai _),Ef (by lia)]
variable {kvs:List (Int×D)} {cs:List (Rdu.PK×D)} {fs:List (String×D)} {c f m:String} {x:Int} {p:Rdu.PK}
def Ja5(h:S[l]? =some (.lst ds)):seqAt S l=some ds:=by unfold seqAt;rw[h]
def Jbh(hm:isDm me=false)(h:S[l]? =some (.lst ds)):rcv me S (.loc l)=true:=by simp[rcv,hm,Ja5 h]
def Jf2(h:S[l]? =some (.ins c fs)):Wb S l c=some fs:=by unfold Wb;rw[h];simp
def Jei(h:S[l]? =some (.ins c fs))(e:fs.lookup f=some d):Ya c f (.loc l) S=.ok d S:=by simp only[Ya,Xl,Jf2 h,e]
def Jo1(h:S[l]? =some (.ins c fs))(e:fs.lookup m=none):isRec S (.loc l) c m=true:=by simp only[isRec,Jf2 h,e,Option.isNone_none]
def Jfs(h:S[l]? =some (.ins c fs))(hl:fs.length<1000):Js5 c f Z v (.loc l) S=.ok (.nx Z) (S.set l (.ins c (putD f v fs))):=by simp only[Js5,Yn,Jf2 h,if_pos hl]
def Jtt(h:S[l]? =some (.dct kvs)):cop .inn (.int x) (.loc l) S=some (dVal kvs x).isSome:=by simp[cop,U6,seqAt,h,dIn,Wg]
def Jts(h:S[l]? =some (.dtu cs)):cop .inn (dK p) (.loc l) S=some (dVal cs p).isSome:=by simp[cop,U6,seqAt,h,dIn,Wg,kyD]
def Jpf(h:S[l]? =some (.dtu cs)):cop .nin (dK p) (.loc l) S=some (!(dVal cs p).isSome):=by simp[cop,U6,seqAt,h,dIn,Wg,kyD]
def Jf0(h:S[l]? =some (.dtu cs))(e:dVal cs p=some d):Jao (.loc l) (dK p) S=.ok d S:=by simp[Jao,idxD,U6,seqAt,h,Wg,kyD,e]
def Jnr(h:S[l]? =some (.dct kvs))(hl:kvs.length<Line):Vu (.loc l) (.int x) v S=.ok () (S.set l (.dct (dPut kvs x v))):=by simp only[Vu,h,if_pos hl]
def Js6(h:S[l]? =some (.fz cs))(e:dVal cs p=some d):Jao (.loc l) (dK p) S=.ok d S:=by simp[Jao,idxD,U6,seqAt,h,Wg,kyD,e]
def Jnq(h:S[l]? =some (.dtu cs))(hl:cs.length<Line):Vu (.loc l) (dK p) v S=.ok () (S.set l (.dtu (dPut cs p v))):=by simp only[Vu,h,kyD,if_pos hl]
def Zb(hm:isDm me=true)(h:S[l]? =some (.dtu cs)):rcv me S (.loc l)=true:=by simp[rcv,hm,dtAt,h]
def Jl0(h:S[l]? =some (.dtu cs)):U5 .get1 (.loc l) [dK p] S=.ok ((dVal cs p).getD .non) S:=by delta U5;simp[Wg,h,kyD]
def Jlz(h:S[l]? =some (.dtu cs))(e:dVal cs p=some d):U5 .pop1 (.loc l) [dK p] S=.ok d (S.set l (.dtu (dDrop cs p))):=by delta U5;simp[dtAt,h,kyD,e]
def Js4(h:S[l]? =some (.dct kvs)):U0 .len [.loc l] S=.ok (.int kvs.length) S:=by delta U0;simp[U6,seqAt,h,dctAt]
def Jon(h:S[l]? =some (.dct kvs)):U0 .list1 [.loc l] S=.ok (.loc S.length) (S++[.lst (kvs.map λp=>.int p.1)]):=by delta U0;simp[U6,seqAt,h,dctAt]
def Jga(h:S[l]? =some (.dct kvs)):U0 .dict1 [.loc l] S=.ok (.loc S.length) (S++[.dct kvs]):=by delta U0;simp[h]
def Jf9(h:S[l]? =some (.dtu cs))(ha:Xt (cs.map (·.1))=true):U0 .dict1 [.loc l] S=.ok (.loc S.length) (S++[.dtu cs]):=by delta U0;simp[h,ha]
def Jnl(h:S[l]? =some (.dtu cs))(ha:upB (cs.map (·.1))=true)(hl:cs.length<Line):U0 .sort1 [.loc l] S=.ok (.loc S.length) (S++[.lst (cs.map λp=>dK p.1)]):=by delta U0;simp[dtAt,h,ha,hl]
def Jo5(h:S[l]? =some (.dtu cs))(ha:upB (cs.map (·.1))=true)(hl:cs.length<Line):Ye (.loc l) S=.ok (.loc S.length) (S++[.dtu cs]):=by simp[Ye,dtAt,h,ha,hl]
def Jl7(h:S[l]? =some (.lst ds)):Yb (.loc l) S=.ok (some (l,.enm),ds) S:=by simp only[Yb,Ja5 h]
end
end Mi
namespace K23
open PySem L2 Mi
section
local macro_rules|`(#[])=>`(M.nul)|`(#[$a])=>`(M.cns $a M.nul)|`(#[$a,$b,*])=>`(M.cns $a #[$b,*])|`(‹$n›)=>`(M.cst (D.int $n))|`(↑$n)=>`(M.var $n)
noncomputable def Ja8:Fn:=⟨["self"],["self"],#[.sfd "Hoard" "unspent" ↑0 (.dnil 1),.sfd "Hoard" "done" ↑0 (.dnil 0)]⟩
noncomputable def Jbi:Fn:=⟨["self"],["self","other"],#[.asg (.tvar 1) (.new "Hoard" "Hoard.__init__"),.sfd "Hoard" "unspent" ↑1 (.prim .dict1 #[.fld "Hoard" "unspent" ↑0]),.sfd "Hoard" "done" ↑1 (.prim .dict1 #[.fld "Hoard" "done" ↑0]),.ret ↑1]⟩
noncomputable def Jb0:Fn:=⟨["self"],["self"],#[.ret (.hld (.fld "Hoard" "unspent" ↑0))]⟩
noncomputable def Jbp:Fn:=⟨["self"],["self"],#[.ret (.prim .sum1 #[.dcm true ["kept"] [] (.tvar 0) (.fld "Hoard" "unspent" ↑0) (.idx ↑0 (.glb "WORTH"))])]⟩
noncomputable def Jcm:Fn:=⟨["self","number"],["self","number"],#[.ret (.cmp .inn ↑1 (.fld "Hoard" "done" ↑0))]⟩
noncomputable def Ja2:Fn:=⟨["self","deed","height"],["self","deed","height","part","word"],#[.ifs (.mcl "Hoard" "did" "Hoard.did" ↑0 #[.idx ↑1 ‹0›]) #[.ret (.cst (.str "known"))] .nul,.ifs (.call "has_twice" #[.call "spent_by" #[↑1]]) #[.ret (.cst (.str "twice"))] .nul,.forr (.tvar 3) #[.idx ↑1 ‹1›] #[.asg (.tvar 4) (.mcl "Hoard" "fault_of_in" "Hoard.fault_of_in" ↑0 #[↑3,↑1,↑2]),.ifs (.cmp .isnc ↑4 (.cst .non)) #[.ret ↑4] .nul],.ifs (.bo true #[.nott (.call "is_maker" #[↑1]),.cmp .gt (.call "worth_of" #[↑1]) (.mcl "Hoard" "worth_spent" "Hoard.worth_spent" ↑0 #[↑1])]) #[.ret (.cst (.str "less"))] .nul,.ret (.cst .non)]⟩
noncomputable def Jap:Fn:=⟨["self","part","deed","height"],["self","part","deed","height","kept"],#[.asg (.tvar 4) (.meth .get1 (.fld "Hoard" "unspent" ↑0) #[.idx ↑1 ‹0›]),.ifs (.cmp .isc ↑4 (.cst .non)) #[.ret (.cst (.str "gone"))] .nul,.ifs (.cmp .lt ↑3 (.idx ↑4 (.glb "FREE"))) #[.ret (.cst (.str "green"))] .nul,.ifs (.nott (.call "opens" #[.idx ↑4 (.glb "LOCK"),.idx ↑1 ‹1›,.call "facts_of" #[↑4,↑2,↑3]])) #[.ret (.cst (.str "shut"))] .nul,.ret (.cst .non)]⟩
noncomputable def Jbq:Fn:=⟨["self","deed"],["self","deed"],#[.ret (.ife (.call "is_maker" #[↑1]) ‹0› (.bin .sub (.mcl "Hoard" "worth_spent" "Hoard.worth_spent" ↑0 #[↑1]) (.call "worth_of" #[↑1])))]⟩
noncomputable def Jaz:Fn:=⟨["self","deed"],["self","deed"],#[.ret (.prim .sum1 #[.comp ["coin","self"] 1 [0] (.tvar 0) #[.call "spent_by" #[↑1]] .nul (.idx (.idx (.fld "Hoard" "unspent" ↑1) ↑0) (.glb "WORTH"))])]⟩
noncomputable def Jdj:Fn:=⟨["self","deed","height","free"],["self","deed","height","free","word","note","coin","out"],#[.asg (.tvar 4) (.mcl "Hoard" "fault" "Hoard.fault" ↑0 #[↑1,↑2]),.ifs (.cmp .isnc ↑4 (.cst .non)) #[.rse] .nul,.asg (.tvar 5) (.tup #[↑1,.prim .tuple1 #[.comp ["coin","self"] 1 [0] (.tvar 0) #[.call "spent_by" #[↑1]] .nul (.tup #[↑0,.idx (.fld "Hoard" "unspent" ↑1) ↑0])]]),.forr (.tvar 6) #[.call "spent_by" #[↑1]] #[.exp (.meth .pop1 (.fld "Hoard" "unspent" ↑0) #[↑6])],.forr (.ttup #[.tvar 6,.tvar 7]) (.zp (.call "made_by" #[↑1]) (.idx ↑1 ‹2›)) #[.asg (.tsub (.fld "Hoard" "unspent" ↑0) ↑6) (.tup #[.idx ↑7 ‹0›,.idx ↑7 ‹1›,↑2,↑3])],.asg (.tsub (.fld "Hoard" "done" ↑0) (.idx ↑1 ‹0›)) (.cst (.bl true)),.ret ↑5]⟩
noncomputable def Jdg:Fn:=⟨["deed"],["deed"],#[.ret (.cmp .eq (.prim .len #[.idx ↑0 ‹1›]) ‹0›)]⟩
noncomputable def Jen:Fn:=⟨["deed"],["deed"],#[.ret (.comp ["place","deed"] 1 [0] (.tvar 0) (.rng (.prim .len #[.idx ↑0 ‹2›])) .nul (.tup #[.idx ↑1 ‹0›,↑0]))]⟩
noncomputable def Jda:Fn:=⟨["deed"],["deed"],#[.ret (.prim .sum1 #[.comp ["out"] 1 [] (.tvar 0) #[.idx ↑0 ‹2›] .nul (.idx ↑0 ‹0›)])]⟩
noncomputable def Jmn:Fn:=⟨["rules","height"],["rules","height","first","times"],#[.asg (.tvar 2) (.idx ↑0 ‹0›),.asg (.tvar 3) (.prim .max2 #[.bin .fdiv (.bin .sub ↑1 ‹1›) (.idx ↑0 ‹1›),‹0›]),.ret (.bin .shr ↑2 (.prim .min2 #[↑3,.bit ↑2]))]⟩
noncomputable def Jbo:Fn:=⟨["hoard","block","height","rules"],["hoard","block","height","rules","trial","fees","place","deed","word"],#[.asg (.tvar 4) (.mcl "Hoard" "copied" "Hoard.copied" ↑0 .nul),.asg (.tvar 5) ‹0›,.forr (.ttup #[.tvar 6,.tvar 7]) (.enm (.idx ↑1 ‹3›)) #[.asg (.tvar 8) (.mcl "Hoard" "fault" "Hoard.fault" ↑4 #[↑7,↑2]),.ifs (.cmp .isnc ↑8 (.cst .non)) #[.ret (.tup #[↑6,↑8])] .nul,.aug 5 (.mcl "Hoard" "fee" "Hoard.fee" ↑4 #[↑7]),.exp (.mcl "Hoard" "do" "Hoard.do" ↑4 #[↑7,↑2,.call "free_from" #[↑7,↑2,↑3]])],.ifs (.cmp .gt (.call "worth_of_makers" #[↑1]) (.bin .add (.call "gift" #[↑3,↑2]) ↑5)) #[.ret (.tup #[‹0›,.cst (.str "much")])] .nul,.ret (.cst .non)]⟩
noncomputable def Jdi:Fn:=⟨["hoard","block","height","rules"],["hoard","block","height","rules","fault"],#[.asg (.tvar 4) (.call "block_fault" #[↑0,↑1,↑2,↑3]),.ifs (.cmp .isnc ↑4 (.cst .non)) #[.rse] .nul,.ret (.comp ["deed","height","hoard","rules"] 1 [2,0,3] (.tvar 0) #[.idx ↑1 ‹3›] .nul (.mcl "Hoard" "do" "Hoard.do" ↑2 #[↑0,↑1,.call "free_from" #[↑0,↑1,↑3]]))]⟩
noncomputable def Jcl:Fn:=⟨["deed","height","rules"],["deed","height","rules"],#[.ret (.ife (.call "is_maker" #[↑0]) (.bin .add ↑1 (.idx ↑2 ‹2›)) ↑1)]⟩
noncomputable def Ja3:Fn:=⟨["block"],["block"],#[.ret (.prim .sum1 #[.comp ["deed"] 1 [] (.tvar 0) #[.idx ↑0 ‹3›] #[.call "is_maker" #[↑0]] (.call "worth_of" #[↑0])])]⟩
noncomputable def Jik:Fn:=⟨["lock","keys","facts"],["lock","keys","facts","pile","parts","row","stays_shut"],#[.asg (.tvar 3) (.lst .nul),.asg (.tvar 4) (.lst .nul),.ifs (.nott (.call "lay" #[↑3,↑1])) #[.ret (.cst (.bl false))] .nul,.forr (.tvar 5) #[↑0] #[.ifs (.cmp .inn (.idx ↑5 ‹0›) (.tup #[.cst (.str "if"),.cst (.str "else"),.cst (.str "end")])) #[.asg (.tvar 6) (.nott (.call "turn" #[.idx ↑5 ‹0›,↑4,↑3]))] #[.asg (.tvar 6) (.bo true #[.call "is_done" #[↑4],.nott (.call "do_row" #[↑5,↑3,↑2])])],.ifs ↑6 #[.ret (.cst (.bl false))] .nul],.ret (.bo true #[.cmp .gt (.prim .len #[↑3]) ‹0›,.cmp .ne (.idx ↑3 (.neg ‹1›)) ‹0›])]⟩
noncomputable def Jcz:Fn:=⟨["parts"],["parts"],#[.ret (.bo false #[.nott ↑0,.idx (.idx ↑0 (.neg ‹1›)) ‹0›])]⟩
noncomputable def Jtg:Fn:=⟨["pile","numbers"],["pile","numbers","number"],#[.forr (.tvar 2) #[↑1] #[.ifs (.bo false #[.cmp .ge (.prim .abs #[↑2]) (.bin .pow ‹10› ‹60›),.cmp .ge (.prim .len #[↑0]) (.glb "MOST_LYING")]) #[.ret (.cst (.bl false))] .nul,.exp (.meth .append ↑0 #[↑2])],.ret (.cst (.bl true))]⟩
noncomputable def Jha:Fn:=⟨["word","parts","pile"],["word","parts","pile","top"],#[.ifs (.cmp .eq ↑0 (.cst (.str "end"))) #[.exp (.meth .pop0 ↑1 .nul)] #[.ifs (.cmp .eq ↑0 (.cst (.str "else"))) #[.asg (.tsub ↑1 (.neg ‹1›)) (.tup #[.idx (.idx ↑1 (.neg ‹1›)) ‹1›,.cst (.bl false)])] #[.ifs (.nott (.call "is_done" #[↑1])) #[.exp (.meth .append ↑1 #[.tup #[.cst (.bl false),.cst (.bl false)]])] #[.ifs (.nott ↑2) #[.ret (.cst (.bl false))] #[.asg (.tvar 3) (.meth .pop0 ↑2 .nul),.exp (.meth .append ↑1 #[.tup #[.cmp .ne ↑3 ‹0›,.cmp .eq ↑3 ‹0›]])]]]],.ret (.cst (.bl true))]⟩
noncomputable def Jf5:Fn:=⟨["row","pile","facts"],["row","pile","facts","taken"],#[.ifs (.nott (.call "has_enough" #[↑0,↑1])) #[.ret (.cst (.bl false))] .nul,.asg (.tvar 3) (.call "take" #[↑1,.meth .get2 (.glb "TAKEN") #[.idx ↑0 ‹0›,‹0›]]),.ifs (.cmp .eq (.idx ↑0 ‹0›) (.cst (.str "need"))) #[.ret (.cmp .ne (.idx ↑3 ‹0›) ‹0›)] .nul,.ret (.call "lay" #[↑1,.call "laid_by" #[↑0,↑3,↑1,↑2]])]⟩
noncomputable def Jbz:Fn:=⟨["row","pile"],["row","pile"],#[.ifs (.cmp .eq (.idx ↑0 ‹0›) (.cst (.str "copy"))) #[.ret (.cmp2 .le .lt ‹0› (.idx ↑0 ‹1›) (.prim .len #[↑1]))] .nul,.ret (.cmp .le (.meth .get2 (.glb "TAKEN") #[.idx ↑0 ‹0›,‹0›]) (.prim .len #[↑1]))]⟩
noncomputable def Jmm:Fn:=⟨["pile","count"],["pile","count","taken","number"],#[.asg (.tvar 2) (.sli ↑0 #[.bin .sub (.prim .len #[↑0]) ↑1] .nul),.forr (.tvar 3) #[↑2] #[.exp (.meth .pop0 ↑0 .nul)],.ret ↑2]⟩
noncomputable def Jbc:Fn:=⟨["row","taken","pile","facts"],["row","taken","pile","facts","word"],#[.asg (.tvar 4) (.idx ↑0 ‹0›),.ifs (.cmp .eq ↑4 (.cst (.str "push"))) #[.ret (.lst #[.idx ↑0 ‹1›])] .nul,.ifs (.cmp .eq ↑4 (.cst (.str "copy"))) #[.ret (.lst #[.idx ↑2 (.bin .sub (.neg ‹1›) (.idx ↑0 ‹1›))])] .nul,.ifs (.cmp .eq ↑4 (.cst (.str "paid"))) #[.ret (.lst #[.call "paid_at" #[.idx ↑3 (.glb "PAID"),.idx ↑0 ‹1›]])] .nul,.ifs (.cmp .inn ↑4 (.glb "FACT_WORDS")) #[.ret (.lst #[.idx ↑3 (.meth .indexT (.glb "FACT_WORDS") #[↑4])])] .nul,.ifs (.cmp .eq ↑4 (.cst (.str "drop"))) #[.ret (.lst .nul)] .nul,.ifs (.cmp .eq ↑4 (.cst (.str "swap"))) #[.ret (.lst #[.idx ↑1 ‹1›,.idx ↑1 ‹0›])] .nul,.ifs (.cmp .eq ↑4 (.cst (.str "not"))) #[.ret (.lst #[.ife (.cmp .eq (.idx ↑1 ‹0›) ‹0›) ‹1› ‹0›])] .nul,.ret (.lst #[.call "outcome" #[↑4,.idx ↑1 ‹0›,.idx ↑1 ‹1›]])]⟩
noncomputable def Jbx:Fn:=⟨["paid","place"],["paid","place"],#[.ret (.ife (.cmp2 .le .lt ‹0› ↑1 (.prim .len #[↑0])) (.idx ↑0 ↑1) ‹0›)]⟩
noncomputable def Jcy:Fn:=⟨["word","a","b"],["word","a","b"],#[.ifs (.cmp .eq ↑0 (.cst (.str "add"))) #[.ret (.bin .add ↑1 ↑2)] .nul,.ifs (.cmp .eq ↑0 (.cst (.str "sub"))) #[.ret (.bin .sub ↑1 ↑2)] .nul,.ifs (.cmp .eq ↑0 (.cst (.str "mul"))) #[.ret (.bin .mul ↑1 ↑2)] .nul,.ifs (.cmp .eq ↑0 (.cst (.str "less"))) #[.ret (.ife (.cmp .lt ↑1 ↑2) ‹1› ‹0›)] .nul,.ret (.ife (.cmp .eq ↑1 ↑2) ‹1› ‹0›)]⟩
noncomputable def Jdb:Fn:=⟨["deed"],["deed"],#[.ret (.comp ["part"] 1 [] (.tvar 0) #[.idx ↑0 ‹1›] .nul (.idx ↑0 ‹0›))]⟩
noncomputable def Jck:Fn:=⟨["coins"],["coins"],#[.ret (.cmp .lt (.lsp ↑0) (.prim .len #[↑0]))]⟩
noncomputable def Jdh:Fn:=⟨["kept","deed","height"],["kept","deed","height","age","paid"],#[.asg (.tvar 3) (.prim .max2 #[.bin .sub ↑2 (.idx ↑0 (.glb "MADE")),‹0›]),.asg (.tvar 4) (.prim .tuple1 #[.comp ["out"] 1 [] (.tvar 0) #[.idx ↑1 ‹2›] .nul (.idx ↑0 ‹0›)]),.ret (.tup #[↑2,↑3,.idx ↑0 (.glb "WORTH"),.prim .len #[.idx ↑1 ‹1›],.prim .len #[.idx ↑1 ‹2›],↑4])]⟩
noncomputable def Jch:Fn:=⟨["_law_cell"],["_law_cell"],#[.ret (.bin .mod (.bin .mul (.bin .mul (.bin .add (.bin .mod ↑0 ‹2147483647›) ‹11›) ‹48271›) ‹69621›) ‹2147483629›)]⟩
noncomputable def Jby:Fn:=⟨["_law_cell","_law_k","_law_digits"],["_law_cell","_law_k","_law_digits","_law_seed"],#[.asg (.tvar 3) (.bin .mod (.bin .add (.call "_law_mixed" #[↑0]) (.bin .mul ‹69621› ↑1)) ‹2147483629›),.ifs ↑2 #[.ret (.lst #[.bin .fdiv (.bin .mod ↑0 (.bin .mul (.bin .pow ‹10› ‹60›) (.bin .pow ‹10› ‹60›))) (.bin .add ‹1› (.prim .int1 #[.cmp .eq ↑1 ‹0›])),.cst (.bl true),↑3])] .nul,.ret (.lst #[↑3,.cst (.bl false),↑3])]⟩
noncomputable def Jbj:Fn:=⟨["_law_stream_here","_law_many"],["_law_stream_here","_law_many","_law_found"],#[.ifs (.bo true #[.idx ↑0 ‹1›,.cmp .gt (.idx ↑0 ‹0›) ‹1›]) #[.asg (.tvar 2) (.bin .mod (.idx ↑0 ‹0›) ↑1),.asg (.tsub ↑0 ‹0›) (.bin .fdiv (.idx ↑0 ‹0›) ↑1),.ret ↑2] .nul,.ifs (.idx ↑0 ‹1›) #[.asg (.tsub ↑0 ‹0›) (.idx ↑0 ‹2›),.asg (.tsub ↑0 ‹1›) (.cst (.bl false))] .nul,.asg (.tsub ↑0 ‹0›) (.bin .mod (.bin .add (.bin .mul (.idx ↑0 ‹0›) ‹48271›) ‹11›) ‹2147483629›),.ret (.bin .mod (.bin .fdiv (.idx ↑0 ‹0›) ‹7›) ↑1)]⟩
noncomputable def Ja9:Fn:=⟨["_law_script"],["_law_script","_law_digits"],#[.asg (.tvar 1) (.bo true #[.cmp .gt (.prim .len #[↑0]) ‹0›,.cmp .eq (.bin .mod (.idx ↑0 ‹0›) ‹2›) ‹1›]),.ret (.comp ["_law_k","_law_cell","_law_digits"] 2 [1] (.ttup #[.tvar 0,.tvar 1]) (.enm (.sli (.bin .add ↑0 (.lst #[‹0›])) .nul #[‹60›])) .nul (.call "_law_stream" #[↑1,↑0,↑2]))]⟩
noncomputable def Vh:Fn:=⟨["_law_stream_here"],["_law_stream_here","_law_number","_law_least","_law_lock_here","_law_keys","_law_way"],#[.asg (.tvar 1) (.bin .sub (.call "_law_take" #[↑0,‹2000›]) ‹1000›),.asg (.tvar 2) (.tup #[.cst (.str "push"),.bin .mod (.prim .abs #[↑1]) ‹9›]),.asg (.tvar 3) (.lst #[.tup .nul,.tup #[.tup #[.cst (.str "push"),‹1›]],.tup #[.tup #[.cst (.str "push"),↑1],.tup #[.cst (.str "same")]],.tup #[.tup #[.cst (.str "height")],↑2,.tup #[.cst (.str "less")],.tup #[.cst (.str "not")]]]),.exp (.meth .append ↑3 #[.tup #[.tup #[.cst (.str "age")],.tup #[.cst (.str "push"),.bin .mod (.prim .abs #[↑1]) ‹4›],.tup #[.cst (.str "less")],.tup #[.cst (.str "not")]]]),.exp (.meth .append ↑3 #[.tup #[.tup #[.cst (.str "if")],.tup #[.cst (.str "push"),↑1],.tup #[.cst (.str "same")],.tup #[.cst (.str "else")],.tup #[.cst (.str "push"),‹1›],.tup #[.cst (.str "end")]]]),.exp (.meth .append ↑3 #[.tup #[.tup #[.cst (.str "worth")],↑2,.tup #[.cst (.str "less")],.tup #[.cst (.str "not")]]]),.exp (.meth .append ↑3 #[.tup #[.tup #[.cst (.str "ins")],.tup #[.cst (.str "push"),.bin .add ‹1› (.bin .mod (.prim .abs #[↑1]) ‹3›)],.tup #[.cst (.str "same")]]]),.exp (.meth .append ↑3 #[.tup #[.tup #[.cst (.str "outs")],.tup #[.cst (.str "push"),.bin .add ‹1› (.bin .mod (.prim .abs #[↑1]) ‹3›)],.tup #[.cst (.str "same")],.tup #[.cst (.str "not")]]]),.exp (.meth .append ↑3 #[.tup #[.tup #[.cst (.str "paid"),.bin .mod (.prim .abs #[↑1]) ‹2›],↑2,.tup #[.cst (.str "less")],.tup #[.cst (.str "not")]]]),.asg (.tvar 4) (.lst #[.tup #[.bin .add ‹1› (.prim .abs #[↑1])],.tup .nul,.tup #[↑1],.tup .nul,.tup .nul,.idx (.lst #[.tup #[↑1,‹1›],.tup #[‹0›]]) (.bin .mod ↑1 ‹2›)]),.asg (.tvar 5) (.call "_law_take" #[↑0,‹10›]),.ret (.tup #[.idx ↑3 ↑5,.idx (.bin .add ↑4 (.lst #[.tup .nul,.tup .nul,.tup .nul,.tup .nul])) ↑5])]⟩
noncomputable def Jdc:Fn:=⟨["_law_stream_here","_law_total","_law_ring"],["_law_stream_here","_law_total","_law_ring","_law_outs_here","_law_k","_law_lock_here","_law_keys","_law_part"],#[.asg (.tvar 3) (.lst .nul),.forr (.tvar 4) (.rng (.call "_law_take" #[↑0,‹3›])) #[.ifs (.cmp .gt ↑1 ‹1›) #[.asg (.ttup #[.tvar 5,.tvar 6]) (.call "_law_lock" #[↑0]),.asg (.tvar 7) (.bin .add ‹1› (.call "_law_take" #[↑0,.bin .sub ↑1 ‹1›])),.asg (.tvar 1) (.bin .sub ↑1 ↑7),.asg (.tsub ↑2 ↑5) ↑6,.exp (.meth .append ↑3 #[.tup #[↑7,↑5]])] .nul],.asg (.ttup #[.tvar 5,.tvar 6]) (.call "_law_lock" #[↑0]),.asg (.tsub ↑2 ↑5) ↑6,.ret (.prim .tuple1 #[.bin .add ↑3 (.lst #[.tup #[↑1,↑5]])])]⟩
noncomputable def Jf4:Fn:=⟨["_law_stream_here","_law_coins","_law_ring"],["_law_stream_here","_law_coins","_law_ring","_law_names","_law_pick","_law_name","_law_keys"],#[.asg (.tvar 3) (.prim .sort1 #[↑1]),.asg (.tvar 4) (.call "_law_take" #[↑0,‹12›]),.ifs (.bo false #[.cmp .eq ↑3 (.lst .nul),.cmp .eq ↑4 ‹0›]) #[.ret (.tup #[.tup #[.call "_law_take" #[↑0,‹90›],.call "_law_take" #[↑0,‹3›]],.tup .nul])] .nul,.asg (.tvar 5) (.idx ↑3 (.call "_law_take" #[↑0,.prim .len #[↑3]])),.asg (.tvar 6) (.idx ↑2 (.idx (.idx ↑1 ↑5) ‹1›)),.ifs (.cmp .eq ↑4 ‹1›) #[.asg (.tvar 6) (.bin .add ↑6 (.tup #[‹0›]))] .nul,.ret (.tup #[↑5,.sli ↑6 .nul #[‹10›]])]⟩
noncomputable def Jdf:Fn:=⟨["_law_stream_here","_law_number","_law_coins","_law_ring"],["_law_stream_here","_law_number","_law_coins","_law_ring","_law_ins","_law_k","_law_one","_law_total","_law_way"],#[.asg (.tvar 4) (.lst .nul),.forr (.tvar 5) (.rng (.bin .add ‹1› (.call "_law_take" #[↑0,‹3›]))) #[.asg (.tvar 6) (.call "_law_in" #[↑0,↑2,↑3]),.ifs (.bo false #[.cmp .nin (.idx ↑6 ‹0›) (.comp ["_law_other"] 1 [] (.tvar 0) #[↑4] .nul (.idx ↑0 ‹0›)),.cmp .eq (.call "_law_take" #[↑0,‹6›]) ‹0›]) #[.exp (.meth .append ↑4 #[↑6])] .nul],.asg (.tvar 7) (.prim .sum1 #[.comp ["_law_one","_law_coins"] 1 [2] (.tvar 0) #[↑4] #[.cmp .inn (.idx ↑0 ‹0›) ↑1] (.idx (.idx ↑1 (.idx ↑0 ‹0›)) ‹0›)]),.asg (.tvar 8) (.call "_law_take" #[↑0,‹8›]),.ifs (.cmp .eq ↑8 ‹0›) #[.asg (.tvar 7) (.bin .add ↑7 ‹1›)] .nul,.ifs (.bo true #[.cmp .gt ↑8 ‹4›,.cmp .gt ↑7 ‹1›]) #[.asg (.tvar 7) (.bin .add ‹1› (.call "_law_take" #[↑0,↑7]))] .nul,.ret (.tup #[↑1,.prim .tuple1 #[↑4],.call "_law_outs" #[↑0,.prim .min2 #[.bin .pow ‹10› ‹40›,.prim .max2 #[‹1›,↑7]],↑3]])]⟩
noncomputable def Jb9:Fn:=⟨["_law_coins","_law_done_here","_law_deed_here","_law_height"],["_law_coins","_law_done_here","_law_deed_here","_law_height","_law_number","_law_ins","_law_outs_here","_law_names","_law_name","_law_keys","_law_worth","_law_lock_here","_law_made","_law_free","_law_paid","_law_facts","_law_total"],#[.asg (.ttup #[.tvar 4,.tvar 5,.tvar 6]) ↑2,.ifs (.cmp .inn ↑4 ↑1) #[.ret (.cst (.str "known"))] .nul,.asg (.tvar 7) (.comp ["_law_one"] 1 [] (.tvar 0) #[↑5] .nul (.idx ↑0 ‹0›)),.ifs (.cmp .lt (.lsp ↑7) (.prim .len #[↑7])) #[.ret (.cst (.str "twice"))] .nul,.forr (.ttup #[.tvar 8,.tvar 9]) #[↑5] #[.ifs (.cmp .nin ↑8 ↑0) #[.ret (.cst (.str "gone"))] .nul,.asg (.ttup #[.tvar 10,.tvar 11,.tvar 12,.tvar 13]) (.idx ↑0 ↑8),.ifs (.cmp .lt ↑3 ↑13) #[.ret (.cst (.str "green"))] .nul,.asg (.tvar 14) (.prim .tuple1 #[.comp ["_law_out"] 1 [] (.tvar 0) #[↑6] .nul (.idx ↑0 ‹0›)]),.asg (.tvar 15) (.tup #[↑3,.prim .max2 #[‹0›,.bin .sub ↑3 ↑12],↑10,.prim .len #[↑5],.prim .len #[↑6],↑14]),.ifs (.nott (.call "opens" #[↑11,↑9,↑15])) #[.ret (.cst (.str "shut"))] .nul],.asg (.tvar 16) (.prim .sum1 #[.comp ["_law_out"] 1 [] (.tvar 0) #[↑6] .nul (.idx ↑0 ‹0›)]),.ifs (.bo true #[.cmp .ne ↑5 (.tup .nul),.cmp .gt ↑16 (.prim .sum1 #[.comp ["_law_name","_law_coins"] 1 [0] (.tvar 0) #[↑7] .nul (.idx (.idx ↑1 ↑0) ‹0›)])]) #[.ret (.cst (.str "less"))] .nul,.ret (.cst .non)]⟩
noncomputable def Jeo:Fn:=⟨["_law_coins","_law_done_here","_law_deed_here","_law_height","_law_free"],["_law_coins","_law_done_here","_law_deed_here","_law_height","_law_free","_law_fee","_law_name","_law_keys","_law_place","_law_out"],#[.asg (.tvar 5) (.bin .sub ‹0› (.prim .sum1 #[.comp ["_law_out"] 1 [] (.tvar 0) #[.idx ↑2 ‹2›] .nul (.idx ↑0 ‹0›)])),.forr (.ttup #[.tvar 6,.tvar 7]) #[.idx ↑2 ‹1›] #[.asg (.tvar 5) (.bin .add ↑5 (.idx (.meth .pop1 ↑0 #[↑6]) ‹0›))],.forr (.ttup #[.tvar 8,.tvar 9]) (.enm (.idx ↑2 ‹2›)) #[.asg (.tsub ↑0 (.tup #[.idx ↑2 ‹0›,↑8])) (.tup #[.idx ↑9 ‹0›,.idx ↑9 ‹1›,↑3,↑4])],.asg (.tsub ↑1 (.idx ↑2 ‹0›)) (.cst (.bl true)),.ret (.bin .mul ↑5 (.prim .int1 #[.cmp .ne (.idx ↑2 ‹1›) (.tup .nul)]))]⟩
noncomputable def Jde:Fn:=⟨["_law_rules_here","_law_height"],["_law_rules_here","_law_height","_law_worth","_law_k"],#[.asg (.tvar 2) (.idx ↑0 ‹0›),.forr (.tvar 3) (.rng (.prim .min2 #[‹200›,.bin .fdiv (.bin .sub ↑1 ‹1›) (.idx ↑0 ‹1›)])) #[.asg (.tvar 2) (.bin .fdiv ↑2 ‹2›)],.ret ↑2]⟩
noncomputable def Vi:Fn:=⟨["_law_coins","_law_done_here","_law_block_here","_law_height","_law_rules_here"],["_law_coins","_law_done_here","_law_block_here","_law_height","_law_rules_here","_law_fees","_law_place","_law_deed_here","_law_word_here"],#[.asg (.tvar 0) (.prim .dict1 #[↑0]),.asg (.tvar 1) (.prim .dict1 #[↑1]),.asg (.tvar 5) ‹0›,.forr (.ttup #[.tvar 6,.tvar 7]) (.enm (.idx ↑2 ‹3›)) #[.asg (.tvar 8) (.call "_law_word" #[↑0,↑1,↑7,↑3]),.ifs (.cmp .isnc ↑8 (.cst .non)) #[.ret (.tup #[.tup #[↑6,↑8],↑0,↑1,‹0›])] .nul,.asg (.tvar 5) (.bin .add ↑5 (.call "_law_put" #[↑0,↑1,↑7,↑3,.bin .add ↑3 (.bin .mul (.idx ↑4 ‹2›) (.prim .int1 #[.cmp .eq ↑6 ‹0›]))]))],.ifs (.cmp .gt (.prim .sum1 #[.comp ["_law_out"] 1 [] (.tvar 0) #[.idx (.idx (.idx ↑2 ‹3›) ‹0›) ‹2›] .nul (.idx ↑0 ‹0›)]) (.bin .add (.call "_law_gift" #[↑4,↑3]) ↑5)) #[.ret (.tup #[.tup #[‹0›,.cst (.str "much")],↑0,↑1,↑5])] .nul,.ret (.tup #[.cst .non,↑0,↑1,↑5])]⟩
noncomputable def tl:M:= #[.exp (.meth .append ↑10 #[.call "_law_deed" #[↑0,↑12,↑8,↑6]]),.ifs (.cmp .isc (.call "_law_word" #[↑8,↑9,.idx ↑10 (.neg ‹1›),↑4]) (.cst .non)) #[.exp (.call "_law_put" #[↑8,↑9,.idx ↑10 (.neg ‹1›),↑4,↑4])] .nul]
noncomputable def lpB:M:=(.cns (.asg (.tvar 12) (.bin .add (.bin .add ↑1 ‹1›) ↑11)) (.cns (.asg (.tvar 13) (.call "_law_take" #[↑0,‹16›])) (.cns (.ifs (.cmp .eq ↑13 ‹0›) #[.asg (.tvar 12) (.idx (.prim .list1 #[↑9]) (.call "_law_take" #[↑0,.prim .len #[↑9]]))] .nul) tl)))
noncomputable def rest:M:= #[.asg (.tvar 8) (.prim .dict1 #[↑2]),.asg (.tvar 9) (.prim .dict1 #[↑3]),.asg (.tvar 10) (.lst #[.tup #[↑1,.tup .nul,.call "_law_outs" #[↑0,.prim .min2 #[.bin .pow ‹10› ‹40›,↑7],↑6]]]),.exp (.call "_law_put" #[↑8,↑9,.idx ↑10 ‹0›,↑4,.bin .add ↑4 (.idx ↑5 ‹2›)]),.forr (.tvar 11) (.rng (.idx (.lst #[.call "_law_take" #[↑0,‹5›],.call "_law_take" #[↑0,‹12›]]) (.prim .int1 #[.cmp .eq (.call "_law_take" #[↑0,‹4›]) ‹3›]))) lpB,.asg (.tvar 14) (.comp ["_law_k","_law_stream_here"] 1 [0] (.tvar 0) (.rng ‹3›) .nul (.call "_law_take" #[↑1,.bin .pow ‹10› ‹30›])),.asg (.tvar 15) (.tup #[.bin .add ‹1› (.idx ↑14 ‹0›),.idx ↑14 ‹1›,.bin .add ‹1› (.idx ↑14 ‹2›),.prim .tuple1 #[↑10]]),.ifs (.cmp .eq (.call "_law_take" #[↑0,‹3›]) ‹0›) #[.asg (.tvar 16) (.idx (.call "_law_done" #[↑2,↑3,↑15,↑4,↑5]) ‹3›),.asg (.tvar 7) (.bin .add (.bin .add (.call "_law_gift" #[↑5,↑4]) ↑16) (.call "_law_take" #[↑0,‹2›])),.asg (.tvar 17) (.tup #[↑1,.tup .nul,.tup #[.tup #[.prim .min2 #[.bin .pow ‹10› ‹40›,.prim .max2 #[‹1›,↑7]],.idx (.idx (.idx (.idx ↑10 ‹0›) ‹2›) ‹0›) ‹1›]]]),.asg (.tvar 15) (.bin .add (.sli ↑15 .nul #[‹3›]) (.tup #[.bin .add (.tup #[↑17]) (.sli (.idx ↑15 ‹3›) #[‹1›] .nul)]))] .nul,.ret ↑15]
noncomputable def Jci:Fn:=⟨["_law_stream_here","_law_first","_law_held","_law_known","_law_height","_law_rules_here","_law_ring"],["_law_stream_here","_law_first","_law_held","_law_known","_law_height","_law_rules_here","_law_ring","_law_worth","_law_coins","_law_done_here","_law_deeds","_law_k","_law_number","_law_way","_law_numbers","_law_block_here","_law_fees","_law_maker"],(.cns (.asg (.tvar 7) (.prim .max2 #[‹1›,.bin .sub (.bin .add (.call "_law_gift" #[↑5,↑4]) (.call "_law_take" #[↑0,‹4›])) ‹2›])) (.cns (.ifs (.cmp .eq (.call "_law_take" #[↑0,‹3›]) ‹0›) #[.asg (.tvar 7) (.bin .add ‹1› (.call "_law_take" #[↑0,↑7]))] .nul) rest))⟩
noncomputable def Jcg:Fn:=⟨["_law_stream_here"],["_law_stream_here","_law_gift_of"],#[.asg (.tvar 1) (.idx (.lst #[‹0›,‹1›,‹7›,‹50›,‹1000›,.bin .pow ‹10› ‹40›]) (.call "_law_take" #[↑0,‹6›])),.ret (.tup #[↑1,.idx (.lst #[‹1›,‹2›,‹3›,‹1000›]) (.call "_law_take" #[↑0,‹4›]),.idx (.lst #[‹0›,‹0›,‹1›,‹2›,‹5›,‹1000›]) (.call "_law_take" #[↑0,‹6›])])]⟩
noncomputable def Jcj:Fn:=⟨["_law_script"],["_law_script","_law_streams_here","_law_rules_here","_law_height"],#[.asg (.tvar 1) (.sli (.call "_law_streams" #[↑0]) .nul #[‹17›]),.asg (.tvar 2) (.call "_law_rules" #[.idx ↑1 ‹0›]),.asg (.tvar 3) (.idx (.lst #[‹0›,‹0›,‹3›,.call "_law_take" #[.idx ↑1 ‹0›,.bin .pow ‹10› ‹20›]]) (.call "_law_take" #[.idx ↑1 ‹0›,‹4›])),.ret (.tup #[.bin .add (.sli ↑1 #[‹1›] .nul) (.lst #[.call "_law_stream" #[‹7›,‹17›,.cst (.bl false)]]),↑2,↑3])]⟩
noncomputable def Jdd:Fn:=⟨["_law_stream_here","_law_rules_here","_law_height"],["_law_stream_here","_law_rules_here","_law_height"],#[.ret (.bin .add ↑2 (.idx (.lst #[‹1›,‹1›,‹1›,.prim .max2 #[‹1›,.idx ↑1 ‹2›],.prim .max2 #[‹1›,.bin .sub (.idx ↑1 ‹2›) ‹1›],.bin .add ‹1› (.call "_law_take" #[↑0,‹2000›])]) (.call "_law_take" #[↑0,‹6›])))]⟩
noncomputable def tlL:M:= #[.ifs (.bo false #[.cmp .ne (.mcl "Hoard" "held" "Hoard.held" ↑4 .nul) ↑5,.cmp .ne (.mcl "Hoard" "total" "Hoard.total" ↑4 .nul) (.prim .sum1 #[.dcm false ["_law_name","_law_coins"] [5] (.tvar 0) ↑5 (.idx (.idx ↑1 ↑0) ‹0›)])]) #[.ret (.cst (.bl false))] .nul,.ifs (.nott (.prim .all1 #[.comp ["_law_deed_here","_law_done_here","_law_hoard"] 1 [6,4] (.tvar 0) #[.idx ↑10 ‹3›] .nul (.cmp .eq (.mcl "Hoard" "did" "Hoard.did" ↑2 #[.idx ↑0 ‹0›]) (.cmp .inn (.idx ↑0 ‹0›) ↑1))])) #[.ret (.cst (.bl false))] .nul]
noncomputable def Zl:M:=(.cns (.asg (.tvar 3) (.call "_law_next" #[↑9,↑2,↑3])) (.cns (.asg (.tvar 10) (.call "_law_block" #[↑9,.bin .add (.bin .mul ‹20› ↑8) ‹1›,↑5,↑6,↑3,↑2,↑7])) (.cns (.asg (.ttup #[.tvar 11,.tvar 12,.tvar 13,.tvar 14]) (.call "_law_done" #[↑5,↑6,↑10,↑3,↑2])) (.cns (.ifs (.cmp .isc ↑11 (.cst .non)) #[.asg (.tvar 15) (.call "do_block" #[↑4,↑10,↑3,↑2]),.asg (.tvar 5) ↑12,.asg (.tvar 6) ↑13,.ifs (.bo false #[.nott (.isi ↑15 "list"),.cmp .ne (.prim .len #[↑15]) (.prim .len #[.idx ↑10 ‹3›])]) #[.ret (.cst (.bl false))] .nul] .nul) tlL))))
noncomputable def Jth:Fn:=⟨["_law_script"],["_law_script","_law_streams_here","_law_rules_here","_law_height","_law_hoard","_law_coins","_law_done_here","_law_ring","_law_k","_law_stream_here","_law_block_here","_law_word_here","_law_after","_law_known","_law_fees","_law_notes"],#[.asg (.ttup #[.tvar 1,.tvar 2,.tvar 3]) (.call "_law_begin" #[↑0]),.asg (.tvar 4) (.new "Hoard" "Hoard.__init__"),.asg (.tvar 5) (.dnil 1),.asg (.tvar 6) (.dnil 0),.asg (.tvar 7) (.dnil 2),.forr (.ttup #[.tvar 8,.tvar 9]) (.enm ↑1) Zl,.ret (.cst (.bl true))]⟩
end
noncomputable def T:Tb:=λf=>if f="Hoard.__init__" then some Ja8 else if f="Hoard.copied" then some Jbi else if f="Hoard.held" then some Jb0 else if f="Hoard.total" then some Jbp else if f="Hoard.did" then some Jcm else if f="Hoard.fault" then some Ja2 else if f="Hoard.fault_of_in" then some Jap else if f="Hoard.fee" then some Jbq else if f="Hoard.worth_spent" then some Jaz else if f="Hoard.do" then some Jdj else if f="is_maker" then some Jdg else if f="made_by" then some Jen else if f="worth_of" then some Jda else if f="gift" then some Jmn else if f="block_fault" then some Jbo else if f="do_block" then some Jdi else if f="free_from" then some Jcl else if f="worth_of_makers" then some Ja3 else if f="opens" then some Jik else if f="is_done" then some Jcz else if f="lay" then some Jtg else if f="turn" then some Jha else if f="do_row" then some Jf5 else if f="has_enough" then some Jbz else if f="take" then some Jmm else if f="laid_by" then some Jbc else if f="paid_at" then some Jbx else if f="outcome" then some Jcy else if f="spent_by" then some Jdb else if f="has_twice" then some Jck else if f="facts_of" then some Jdh else if f="_law_mixed" then some Jch else if f="_law_stream" then some Jby else if f="_law_take" then some Jbj else if f="_law_streams" then some Ja9 else if f="_law_lock" then some Vh else if f="_law_outs" then some Jdc else if f="_law_in" then some Jf4 else if f="_law_deed" then some Jdf else if f="_law_word" then some Jb9 else if f="_law_put" then some Jeo else if f="_law_gift" then some Jde else if f="_law_done" then some Vi else if f="_law_block" then some Jci else if f="_law_rules" then some Jcg else if f="_law_begin" then some Jcj else if f="_law_next" then some Jdd else if f="law" then some Jth else none
noncomputable def G:String->Option D:=λx=>if x="MOST_LYING" then some (.int 20)else if x="TAKEN" then some (.kd [("drop",1),("swap",2),("add",2),("sub",2),("mul",2),("less",2),("same",2),("not",1),("need",1)])else if x="PAID" then some (.int 5)else if x="FACT_WORDS" then some (.tup [.str "height",.str "age",.str "worth",.str "ins",.str "outs"])else if x="MADE" then some (.int 2)else if x="WORTH" then some (.int 0)else if x="FREE" then some (.int 3)else if x="LOCK" then some (.int 1)else none
theorem Jc5:T "Hoard.__init__"=some Ja8:=rfl
theorem Jdq:T "Hoard.copied"=some Jbi:=rfl
theorem Je5:T "Hoard.held"=some Jb0:=rfl
theorem Jey:T "Hoard.total"=some Jbp:=rfl
theorem Jgp:T "Hoard.did"=some Jcm:=rfl
theorem Jez:T "Hoard.fault"=some Ja2:=rfl
theorem Jb3:T "Hoard.fault_of_in"=some Jap:=rfl
theorem Jgo:T "Hoard.fee"=some Jbq:=rfl
theorem Jb2:T "Hoard.worth_spent"=some Jaz:=rfl
theorem Jh6:T "Hoard.do"=some Jdj:=rfl
theorem Jh3:T "is_maker"=some Jdg:=rfl
theorem Jiu:T "made_by"=some Jen:=rfl
theorem Jht:T "worth_of"=some Jda:=rfl
theorem Jpp:T "gift"=some Jmn:=rfl
theorem Jex:T "block_fault"=some Jbo:=rfl
theorem Jh5:T "do_block"=some Jdi:=rfl
theorem Jgn:T "free_from"=some Jcl:=rfl
theorem Jct:T "worth_of_makers"=some Ja3:=rfl
theorem Jna:T "opens"=some Jik:=rfl
theorem Jiw:T "is_done"=some Jcz:=rfl
theorem Jt6:T "lay"=some Jtg:=rfl
theorem Jpn:T "turn"=some Jha:=rfl
theorem Jkl:T "do_row"=some Jf5:=rfl
theorem Je4:T "has_enough"=some Jbz:=rfl
theorem Jpo:T "take"=some Jmm:=rfl
theorem Jbf:T "laid_by"=some Jbc:=rfl
theorem Jit:T "paid_at"=some Jbx:=rfl
theorem Jev:T "outcome"=some Jcy:=rfl
theorem Jhu:T "spent_by"=some Jdb:=rfl
theorem Jgm:T "has_twice"=some Jck:=rfl
theorem Jh4:T "facts_of"=some Jdh:=rfl
theorem Jgj:T "_law_mixed"=some Jch:=rfl
theorem Je3:T "_law_stream"=some Jby:=rfl
theorem Jhw:T "_law_take"=some Jbj:=rfl
theorem Jew:T "_law_streams"=some Ja9:=rfl
theorem Jhz:T "_law_lock"=some Vh:=rfl
theorem Jhx:T "_law_outs"=some Jdc:=rfl
theorem Jkk:T "_law_in"=some Jf4:=rfl
theorem Jh2:T "_law_deed"=some Jdf:=rfl
theorem Jhv:T "_law_word"=some Jb9:=rfl
theorem Jiv:T "_law_put"=some Jeo:=rfl
theorem Jh0:T "_law_gift"=some Jde:=rfl
theorem Jh1:T "_law_done"=some Vi:=rfl
theorem Jgk:T "_law_block"=some Jci:=rfl
theorem Jgi:T "_law_rules"=some Jcg:=rfl
theorem Jgl:T "_law_begin"=some Jcj:=rfl
theorem Jhy:T "_law_next"=some Jdd:=rfl
theorem Jt7:T "law"=some Jth:=rfl
@[simp]theorem Jb4:G "MOST_LYING"=some (.int 20):=rfl
@[simp]theorem Jnc:G "TAKEN"=some (.kd [("drop",1),("swap",2),("add",2),("sub",2),("mul",2),("less",2),("same",2),("not",1),("need",1)]):=rfl
@[simp]theorem Jxu:G "PAID"=some (.int 5):=rfl
@[simp]theorem Jb5:G "FACT_WORDS"=some (.tup [.str "height",.str "age",.str "worth",.str "ins",.str "outs"]):=rfl
@[simp]theorem Jxv:G "MADE"=some (.int 2):=rfl
@[simp]theorem Jnb:G "WORTH"=some (.int 0):=rfl
@[simp]theorem Jq1:G "FREE"=some (.int 3):=rfl
@[simp]theorem Jxw:G "LOCK"=some (.int 1):=rfl
@[simp]theorem Jye:rcv p S (.tup ds)= !isDm p:=rfl
@[simp]theorem Jzy:rcv p S (.kd ks)= !isDm p:=rfl
inductive Wd where|less|same|not|height|age|worth|ins|outs
 deriving DecidableEq
noncomputable def Wd.nm:Wd->String
 |.less=>"less"|.same=>"same"|.not=>"not"|.height=>"height"|.age=>"age"|.worth=>"worth"|.ins=>"ins"|.outs=>"outs"
inductive Rw where|push (n:Int)|paid (k:Int)|w (x:Wd)|iff|els|fin
noncomputable def rD:Rw->D
 |.push n=>.tup [.str "push",.int n]
 |.paid k=>.tup [.str "paid",.int k]
 |.w x=>.tup [.str x.nm]
 |.iff=>.tup [.str "if"]
 |.els=>.tup [.str "else"]
 |.fin=>.tup [.str "end"]
structure Fx where
 h:Int
 a:Int
 w:Int
 i:Int
 o:Int
 paid:List Int
noncomputable def fD(f:Fx):D:=.tup [.int f.h,.int f.a,.int f.w,.int f.i,.int f.o,.tup (f.paid.map D.int)]
def big(n:Int):Prop:=1000000000000000000000000000000000000000000000000000000000000<=(if n<0 then -n else n)
noncomputable instance (n:Int):Decidable (big n):=inferInstanceAs (Decidable (_<=_))
noncomputable def layP(p:List Int):List Int->Bool×List Int
 |[]=>(true,p)
 |n::ns=>if big n\/20<=p.length then(false,p)else layP (p++[n]) ns
noncomputable abbrev pl(p:List Int):Mi.Obj:=.lst (p.map D.int)
section
variable {W:Nat}
inductive ILay (S:Store) (p:Nat) (nD:D) (pile ns:List Int) (i:Nat) (Z:En) (S':Store):Prop
 |mk (a) (_:Z=[some (.loc p),some nD,a]) (_:S'=S.set p (pl (pile++ns.take i))) (_:layP pile ns=layP (pile++ns.take i) (ns.drop i)):ILay S p nD pile ns i Z S'
def Wee(S:Store)(p:Nat)(pile ns:List Int)(d:D)(S':Store):Prop:=d=.bl (layP pile ns).1/\S'=S.set p (pl (layP pile ns).2)
def Jqk(n:Nat){S:Store}{p:Nat}{nD:D}{g:Wk}{pile ns:List Int}(hp:S[p]? =some (pl pile))(hl:pile.length+ns.length<=1000)(hk:Zn nD S=.ok (g,ns.map D.int) S)(hg:g=none\/∃q,g=some (q,.lst)/\p≠q/\S[q]? =some (pl ns)):
  Sat (callN T G W (n+1) "lay" [.loc p,nD] S) (Wee S p pile ns):=by
 rw[Jab Jt6 rfl];simp[Jtg,hk,-Zn];refine Sat.p2 (W8 (ILay S p nD pile ns) (Wee S p pile ns) ⟨none,rfl,by simp[set_same hp],by simp⟩ ?_ ?_) ?_
 ·rintro i Z S' ⟨a,rfl,rfl,_⟩;rcases hg with rfl|⟨q,rfl,hq,h⟩
  ·rfl
  ·exact Jd5 (by rw[Au hq];exact h)
 ·rintro i Z S' hi ⟨a,rfl,rfl,hlay⟩;have hi:i<ns.length:=by simpa using hi
  refine⟨.int ns[i],?_,?_⟩
  ·rcases hg with rfl|⟨q,rfl,hq,h⟩
   ·simp[nth,hi]
   ·simp[nth,seqAt,Au hq,h,hi]
  have hgt:(S.set p (pl (pile++ns.take i)))[p]? =some (pl (pile++ns.take i)):=Jaq hp;rw[Cg hi]at hlay;rw[Jas];simp only[layP]at hlay
  by_cases hb:big ns[i]
  ·rw[if_pos (.inl hb)]at hlay;have hb':(1000000000000000000000000000000000000000000000000000000000000:Int)<=(if ns[i]<0 then -ns[i]else ns[i]):=hb;simp[Jcn,hb'];exact⟨by rw[hlay],by rw[hlay]⟩
  ·have hb':¬(1000000000000000000000000000000000000000000000000000000000000:Int)<=(if ns[i]<0 then -ns[i]else ns[i]):=hb;simp[Jcn,hb',Jb4];rw[Jat hgt];have e:(pile++ns.take i).take (pile++ns.take i).length=pile++ns.take i:=Ha
   by_cases h20:20<=(pile++ns.take i).length
   ·rw[if_pos (.inr h20)]at hlay;have h20':(20:Int)<=(((pile++ns.take i).map D.int).length:Nat):=by rw[Ah];lia
    simp only[Jh7,Jui,Jnf,Zx,Xu,Zp,Jnh,Xz,Ww,X9,kB,Res.bind_ok,Jnd,Jfi,decide_eq_true h20',if_true,Jb4];simp;exact⟨by rw[hlay],by rw[hlay]⟩
   ·rw[if_neg (λz=>z.elim hb h20)]at hlay;have h20':¬(20:Int)<=(((pile++ns.take i).map D.int).length:Nat):=by rw[Ah];lia
    simp only[Jh7,Jui,Jnf,Zx,Xu,Zp,Jnh,Xz,Ww,X9,kB,Res.bind_ok,Jnd,Jfi,decide_eq_false h20',Jb4];simp[Jbh (me:=.append) rfl hgt];rw[Jay hgt (Jcd (by simp;lia))];simp;refine⟨_,rfl,?_,?_⟩
    ·congr 1;rw[D2 (l:=ns),Ag hi];simp only[pl,Es,R7,Aw,F5,Lx,Jg]
    ·rw[hlay,D2,Ag hi];simp
 ·intro fl S' h;rcases h.nr with⟨Z,rfl,a,rfl,rfl,hlay⟩|⟨d,rfl,hd⟩
  ·simp;simp[layP]at hlay;exact⟨by rw[hlay],by rw[hlay]⟩
  ·simp;exact hd
noncomputable def tk:Wd->Nat
 |.less=>2|.same=>2|.not=>1
 |_=>0
noncomputable def X3(F:Fx)(k:Int):Int:=if 0<=k/\k<F.paid.length then F.paid.getD k.toNat 0 else 0
noncomputable def W9(F:Fx)(a b:Int):Wd->Int
 |.less=>if a<b then 1 else 0|.same=>if a=b then 1 else 0
 |.not=>if a=0 then 1 else 0|.height=>F.h|.age=>F.a|.worth=>F.w|.ins=>F.i|.outs=>F.o
def paid_at(n:Nat)(F:Fx)(k:Int)(S:Store):callN T G W (n+1) "paid_at" [.tup (F.paid.map D.int),.int k] S=.ok (.int (X3 F k)) S:=by
 rw[Jab Jit rfl];unfold X3
 by_cases h0:0<=k
 ·by_cases h1:k<F.paid.length
  ·have e:atI (F.paid.map D.int) k=some (.int (F.paid.getD k.toNat 0)):=by
    have hl:k.toNat<F.paid.length:=by omega
    simp only[atI,ixN,Ah,if_pos h0,if_pos h1,G5];rw[Ao,Ag hl,Ej,Ag hl];rfl
   simp[Jbx,h0,h1];rw[Jbl e];simp;rw[Ag (by omega)];rfl
  ·simp[Jbx,h0,h1]
 ·simp[Jbx,h0]
noncomputable def tkR:Rw->Nat
 |.w x=>tk x
 |_=>0
noncomputable def word:Rw->String
 |.push _=>"push"|.paid _=>"paid"|.w x=>x.nm|.iff=>"if"|.els=>"else"|.fin=>"end"
def Jfv(r:Rw)(S:Store):Jao (rD r) (.int 0) S=.ok (.str (word r)) S:=by cases r<;>simp[rD,word]
theorem Jgt(r:Rw)(S:Store):U5 .get2 (.kd [("drop",1),("swap",2),("add",2),("sub",2),("mul",2),("less",2),("same",2),("not",1),("need",1)]) [.str (word r),.int 0] S=.ok (.int (tkR r)) S:=by
 delta U5;dsimp only
 cases r with
 |w x=>cases x<;>simp[word,Wd.nm,C9,tkR,tk]
 |_=>simp[word,C9,tkR]
theorem Jko(r:Rw):¬word r="copy"/\¬word r="need"/\¬word r="drop"/\¬word r="swap":=by
 cases r with
 |w x=>cases x<;>decide
 |_=>simp[word]
def has_enough(n:Nat){pile:List Int}(hp:S[p]? =some (pl pile))(r:Rw):callN T G W (n+1) "has_enough" [rD r,.loc p] S=.ok (.bl (decide (tkR r<=pile.length))) S:=by
 rw[Jab Je4 rfl];have hlen:=Jat hp;rw[Ah]at hlen;simp[Jbz,Jfv,(Jko r).1,Jnc,Jgt,hlen,isDm]
inductive ITake (S:Store) (p q:Nat) (c:Int) (pile:List Int) (i:Nat) (Z:En) (S':Store):Prop
 |mk (a) (_:Z=[some (.loc p),some (.int c),some (.loc q),a]) (_:S'=S.set p (pl (pile.take (pile.length-i)))):ITake S p q c pile i Z S'
def Jq4(n:Nat){S:Store}{pile:List Int}(hp:S[p]? =some (pl pile))(hc:c<=pile.length):
  callN T G W (n+1) "take" [.loc p,.int c] S=.ok (.loc S.length) ((S++[pl (pile.drop (pile.length-c))]).set p (pl (pile.take (pile.length-c)))):=by
 suffices h:Sat (callN T G W (n+1) "take" [.loc p,.int c] S) λd S'=>d=.loc S.length/\S'=(S++[pl (pile.drop (pile.length-c))]).set p (pl (pile.take (pile.length-c))) by
  obtain⟨d,S',e,rfl,rfl⟩:=h;exact e
 rw[Jab Jpo rfl];have hlen:=Jat hp;rw[Ah]at hlen;have hcut:cutD (pile.map D.int) (some ((pile.length:Int)-c)) none=(pile.drop (pile.length-c)).map D.int:=by
  rw[Jgd (by lia),N9];congr 1
  lia
 simp only[Jmm,Aw,F5,A7,Et];simp[hlen];rw[Jdu hp,hcut];have hpl:p<S.length:=Ja0 hp;have hq:(S++[pl (pile.drop (pile.length-c))])[S.length]? =some (pl (pile.drop (pile.length-c))):=Jad;have hp1:(S++[pl (pile.drop (pile.length-c))])[p]? =some (pl pile):=Jah hp;generalize S++[pl (pile.drop (pile.length-c))]=S1 at hq hp1 ⊢;simp[Ja5 hq];refine Sat.p2 (Y7 (ITake S1 p S.length c pile) noR ⟨none,rfl,by simp[set_same hp1]⟩ ?_ ?_) ?_
 ·rintro i Z S' ⟨a,rfl,rfl⟩;rw[Au (by lia)];rw[<-N9];exact hq
 ·rintro i d _ S' hd ⟨a,rfl,rfl⟩;have hi:i<c:=by
   have:=(Ae.mp hd).1;simp at this
   lia
  have hlast:pile.take (pile.length-i)=pile.take (pile.length-(i+1))++[pile[pile.length-(i+1)]]:=by
   rw[show pile.length-i=pile.length-(i+1)+1 by lia,D2,Ag (by lia)];rfl
  have hg:(S1.set p (pl (pile.take (pile.length-i))))[p]? =some (.lst ((pile.take (pile.length-(i+1))).map D.int++[D.int pile[pile.length-(i+1)]])):=by
   rw[Jaq hp1,hlast];simp only[pl,Es,Aw,F5]
  rw[Jas];simp[Jbh (me:=.pop0) rfl hg];rw[Jfx hg];simp;exact⟨_,rfl,by rw[<-Jg]⟩
 ·intro fl S' h;obtain⟨_,rfl,a,rfl,rfl⟩:=h.nx;simp;rw[show pile.length-(pile.length-(pile.length-c))=pile.length-c by lia]
noncomputable def V2(F:Fx)(t:List Int):Rw->Int
 |.push n=>n
 |.paid k=>X3 F k
 |.w x=>W9 F (t.getD 0 0) (t.getD 1 0) x
 |_=>0
noncomputable def V0:Rw->Bool
 |.iff=>false|.els=>false|.fin=>false
 |_=>true
theorem laid_by(n:Nat){S:Store}{t:List Int}(hq:S[q]? =some (pl t))(F:Fx)(r:Rw)(hr:V0 r=true)(ht:t.length=tkR r):
  callN T G W (n+2) "laid_by" [rD r,.loc q,.loc p,fD F] S=.ok (.loc S.length) (S++[pl [V2 F t r]]):=by
 rw[Jab Jbf rfl];have i0:∀a r',t=a::r'->Jao (.loc q) (.int 0) S=.ok (.int a) S:=λa r' e=>Jau hq (by rw[e];exact at0 (k:=0) rfl);have i1:∀a b r',t=a::b::r'->Jao (.loc q) (.int 1) S=.ok (.int b) S:=λa b r' e=>Jau hq (by rw[e];exact at0 (k:=1) rfl);have inn:∀x:Wd,cop .inn (.str x.nm) (.tup [.str "height",.str "age",.str "worth",.str "ins",.str "outs"]) S=some (decide (tk x=0)):=λx=>by
  cases x<;>rfl
 cases r with
 |iff=>cases hr
 |els=>cases hr
 |fin=>cases hr
 |push k=>simp[Jbc,rD,Line,V2]
 |paid k=>
  simp[Jbc,rD,fD,Jxu];rw[paid_at n F k S];simp[Line,V2]
 |w x=>
  have out:∀a b v,t=[a,b]->callN T G W (n+1) "outcome" [.str x.nm,.int a,.int b] S=.ok (.int v) S->¬tk x=0->¬x=.not->callN T G W (n+2) "laid_by" [rD (.w x),.loc q,.loc p,fD F] S=.ok (.loc S.length) (S++[pl [v]]):=λa b v e eo h0 h1=>by
   rw[Jab Jbf rfl];have h:=inn x;cases x<;>first|(exact absurd rfl h0)|(exact absurd rfl h1)|(simp only[Wd.nm]at h eo;simp[Jbc,rD,Wd.nm,Jb5,h,tk,i0 _ _ e,i1 _ _ _ e,eo,Line])
  have fact:∀k:Int,∀v,U5 .indexT (.tup [.str "height",.str "age",.str "worth",.str "ins",.str "outs"]) [.str x.nm] S=.ok (.int k) S->Jao (fD F) (.int k) S=.ok (.int v) S->tk x=0->callN T G W (n+2) "laid_by" [rD (.w x),.loc q,.loc p,fD F] S=.ok (.loc S.length) (S++[pl [v]]):=λk v e1 e2 h0=>by
   rw[Jab Jbf rfl];have h:=inn x;cases x<;>first|(cases h0;done)|(simp only[Wd.nm]at h e1;simp[Jbc,rD,Wd.nm,Jb5,h,tk,e1,e2,Line,isDm])
  have ix:U5 .indexT (.tup [.str "height",.str "age",.str "worth",.str "ins",.str "outs"]) [.str x.nm] S=.ok (.int (match x with|.age=>1|.worth=>2|.ins=>3|.outs=>4|_=>0)) S\/¬tk x=0:=by
   cases x<;>first|exact .inr (by decide)|exact .inl rfl
  rw[<-Jab Jbf rfl];rcases t with _|⟨a,_|⟨b,_|⟨c,t⟩⟩⟩
  ·cases x<;>first|(cases ht;done)|(rcases ix with ix|ix<;>first|exact fact _ _ ix (by simp[fD,V2,W9]) rfl|exact absurd rfl ix)
  ·cases x<;>try (cases ht;done)
   rw[Jab Jbf rfl];have h:=inn .not;simp only[Wd.nm]at h
   by_cases z:a=0<;>simp[Jbc,rD,Wd.nm,Jb5,h,tk,i0 a [] rfl,z,Line,V2,W9]
  ·cases x<;>try (cases ht;done)
   ·refine out a b _ rfl ?_ (by decide) (by decide);rw[Jab Jev rfl]
    by_cases h:a<b<;>simp[Jcy,Wd.nm,h,V2,W9]
   ·refine out a b _ rfl ?_ (by decide) (by decide);rw[Jab Jev rfl]
    by_cases h:a=b<;>simp[Jcy,Wd.nm,h,V2,W9]
  ·exfalso;cases x<;>simp[tkR,tk]at ht
noncomputable def Wz(F:Fx)(p:List Int)(r:Rw):Bool×List Int:=if p.length<tkR r then(false,p)else layP (p.take (p.length-tkR r)) [V2 F (p.drop (p.length-tkR r)) r]
theorem Jjd{p:List Int}(h:p.length<=20):∀{ns:List Int},(layP p ns).2.length<=20:=by
 intro ns
 induction ns generalizing p with
 |nil=>exact h
 |cons n ns ih=>
  simp only[layP];split
  ·exact h
  ·rename_i hn;refine ih ?_;rw[Bf,Dr];have:¬20<=p.length:=λz=>hn (.inr z)
   lia
def Weg(S:Store)(p:Nat)(z:Bool×List Int)(d:D)(S':Store):Prop:=d=.bl z.1/\Keep [p] S S'/\S'[p]? =some (pl z.2)
def do_row(n:Nat){S:Store}{p:Nat}{pile:List Int}(hp:S[p]? =some (pl pile))(F:Fx)(r:Rw)(hr:V0 r=true)(hl:pile.length<=20):
  Sat (callN T G W (n+3) "do_row" [rD r,.loc p,fD F] S) (Weg S p (Wz F pile r)):=by
 rw[Jab Jkl rfl];simp[Jf5];rw[has_enough (n+1) hp r]
 by_cases he:tkR r<=pile.length
 ·have hpl:p<S.length:=Ja0 hp;have e1:=Jq4 (W:=W) (n+1) hp he;have hq1:((S++[pl (pile.drop (pile.length-tkR r))]).set p (pl (pile.take (pile.length-tkR r))))[S.length]? =some (pl (pile.drop (pile.length-tkR r))):=by
   rw[Au (by lia)];exact Jad
  have hp1:((S++[pl (pile.drop (pile.length-tkR r))]).set p (pl (pile.take (pile.length-tkR r))))[p]? =some (pl (pile.take (pile.length-tkR r))):=Jaq (Jah hp);have k1:Keep [p] S ((S++[pl (pile.drop (pile.length-tkR r))]).set p (pl (pile.take (pile.length-tkR r)))):=(Keep.new _).trans (.set (by simp));generalize(S++[pl (pile.drop (pile.length-tkR r))]).set p (pl (pile.take (pile.length-tkR r)))=S1 at e1 hq1 hp1 k1;have e2:=laid_by (W:=W) n (p:=p) hq1 F r hr (by rw[Jp];lia);obtain⟨d,S2,e3,rfl,rfl⟩:=Jqk (W:=W) (n+1) (S:=S1++[pl [V2 F (pile.drop (pile.length-tkR r)) r]]) (nD:=.loc S1.length) (ns:=[V2 F (pile.drop (pile.length-tkR r)) r]) (Jah hp1) (by simp;lia) (by simp[seqAt]) (.inr ⟨_,rfl,by have:=k1.1;lia,Jad⟩);simp[he,Jfv,Jnc,Jgt,e1,(Jko r).2.1,e2,isDm];rw[e3];simp[Weg,Wz,if_neg (Q5.mpr he)];exact⟨(k1.trans (.new _)).trans (.set (by simp)),by rw[Jaq (Jah hp1)]⟩
 ·simp[he];exact⟨by simp[Wz,if_pos (show pile.length<tkR r by lia)],.refl,by rw[hp,Wz,if_pos (by lia)]⟩
abbrev Pt:=Bool×Bool
noncomputable def pD(x:Pt):D:=.tup [.bl x.1,.bl x.2]
noncomputable abbrev pts(st:List Pt):Mi.Obj:=.lst (st.reverse.map pD)
noncomputable def Vw:List Pt->Bool
 |[]=>true
 |x::_=>x.1
def Jfw(x:Pt)(st:List Pt):pts (x::st)=.lst (st.reverse.map pD++[pD x]):=by simp
theorem is_done(n:Nat)(hq:S[q]? =some (pts st)):callN T G W (n+1) "is_done" [.loc q] S=.ok (.bl (Vw st)) S:=by
 rw[Jab Jiw rfl];cases st with
 |nil=>simp[Jcz,Jfo hq,Vw]
 |cons x st=>
  rw[Jfw]at hq;simp[Jcz,Jfo hq,Vw];rw[Jcx hq];simp[pD]
noncomputable def Vt(p:List Int)(st:List Pt):Rw->Option (Bool×List Int×List Pt)
 |.fin=>match st with|[]=>none|_::s=>some (true,p,s)
 |.els=>match st with|[]=>none|x::s=>some (true,p,(x.2,false)::s)
 |.iff=>if Vw st then(if p=[]then some (false,p,st)else some (true,p.dropLast,(decide (p.getLastD 0≠0),decide (p.getLastD 0=0))::st))else some (true,p,(false,false)::st)
 |_=>none
def Wef(S:Store)(p q:Nat)(z:Bool×List Int×List Pt)(d:D)(S':Store):Prop:=d=.bl z.1/\Keep [p,q] S S'/\S'[p]? =some (pl z.2.1)/\S'[q]? =some (pts z.2.2)
def Jg3{p:List Int}(h:p≠[]):p=p.dropLast++[p.getLastD 0]:=by
 rcases List.eq_nil_or_concat p with rfl|⟨l,x,rfl⟩
 ·exact absurd rfl h
 ·simp
theorem turn(n:Nat){st:List Pt}(hp:S[p]? =some (pl pile))(hq:S[q]? =some (pts st))(hpq:p≠q)(hs:st.length<=1000)(r:Rw)(hz:Vt pile st r=some z):
  Sat (callN T G W (n+2) "turn" [.str (word r),.loc q,.loc p] S) (Wef S p q z):=by
 rw[Jab Jpn rfl];have hq0:∀o,(S.set q o)[p]? =some (pl pile):=λo=>by rw[Au hpq.symm];exact hp
 have setq:∀o,(S.set q o)[q]? =some o:=λo=>Jaq hq;cases r with
 |fin=>
  cases st with
  |nil=>cases hz
  |cons x s=>
   cases hz;rw[Jfw]at hq;simp[Jha,word,Jbh (me:=.pop0) rfl hq];rw[Jfx hq];simp;exact⟨rfl,.set (by simp),hq0 _,by rw[setq];simp⟩
 |els=>
  cases st with
  |nil=>cases hz
  |cons x s=>
   cases hz;rw[Jfw]at hq;simp[Jha,word];rw[Jcx hq];simp[pD,Line];rw[Jnp hq];simp;exact⟨rfl,.set (by simp),hq0 _,by rw[setq];simp[pD]⟩
 |iff=>
  simp[Jha,word];rw[is_done n hq];simp only[Vt]at hz;cases hd:Vw st with
  |false=>
   rw[hd]at hz;cases hz;simp[Line,Jbh (me:=.append) rfl hq];rw[Jay hq (Jcd (by simp;lia))];simp;exact⟨rfl,.set (by simp),hq0 _,by rw[setq];simp[pD]⟩
  |true=>
   rw[hd,if_pos rfl]at hz
   by_cases he:pile=[]
   ·subst he;cases hz;simp[Jfo hp];exact⟨rfl,.refl,hp,hq⟩
   ·rw[if_neg he]at hz;cases hz;have hp':S[p]? =some (.lst (pile.dropLast.map D.int++[D.int (pile.getLastD 0)])):=by
     rw[hp]
     conv=>lhs;rw[Jg3 he]
     simp
    have hq1:(S.set p (.lst (pile.dropLast.map D.int)))[q]? =some (pts st):=by rw[Au hpq];exact hq
    have e1:=Jay (d:=pD (decide (pile.getLastD 0≠0),decide (pile.getLastD 0=0))) hq1 (Jcd (by simp;lia));simp only[pD,decide_not]at e1;have e2:=Jbh (me:=.append) rfl hq1;generalize hx:pile.getLastD 0=x at*;have e3:=Jfx hp';generalize hS1:S.set p (.lst (pile.dropLast.map D.int))=S1 at*;simp[Jfo hp',Jbh (me:=.pop0) rfl hp',e3,e2,Line,e1];have l1:S1.length=S.length:=by rw[<-hS1,D4]
    refine⟨rfl,(show Keep [p,q] S S1 by rw[<-hS1];exact .set (by simp)).trans (.set (by simp)),?_,?_⟩
    ·rw[Au hpq.symm,<-hS1,Jaq hp]
    ·rw[Jaq hq1];simp[pD]
 |_=>cases hz
noncomputable def U7(F:Fx)(p:List Int)(st:List Pt)(r:Rw):Option (Bool×List Int×List Pt):=
 if V0 r then(if Vw st then some ((Wz F p r).1,(Wz F p r).2,st)else some (true,p,st))else Vt p st r
noncomputable def Web(p:List Int):Bool:= !p.isEmpty&&decide (p.getLastD 0≠0)
noncomputable def runP(F:Fx):List Rw->List Int->List Pt->Option Bool
 |[],p,_=>some (Web p)
 |r::rs,p,st=>match U7 F p st r with
  |none=>none
  |some (true,p',st')=>runP F rs p' st'
  |some (false,_,_)=>some false
noncomputable def Wo(F:Fx)(lock:List Rw)(keys:List Int):Option Bool:=if(layP [] keys).1 then runP F lock (layP [] keys).2 []else some false
def Jni{p:List Int}{st:List Pt}{z:Bool×List Int×List Pt}(h:p.length<=20)(hz:U7 F p st r=some z):z.2.1.length<=20/\z.2.2.length<=st.length+1:=by
 unfold U7 at hz;split at hz
 ·split at hz
  ·cases hz;refine⟨?_,by simp⟩;unfold Wz;split
   ·exact h
   ·exact Jjd (by simp;lia)
  ·cases hz;exact⟨h,by simp⟩
 ·cases r<;>simp only[Vt]at hz<;>try (cases hz;done)
  ·split at hz
   ·split at hz<;>cases hz<;>exact⟨by simp;lia,by simp⟩
   ·cases hz;exact⟨h,by simp⟩
  ·cases st<;>cases hz;exact⟨h,by simp⟩
  ·cases st<;>cases hz;exact⟨h,by simp;lia⟩
theorem Jww(r:Rw)(S:Store):cop .inn (.str (word r)) (.tup [.str "if",.str "else",.str "end"]) S=some (!V0 r):=by
 cases r with
 |w x=>cases x<;>rfl
 |_=>rfl
inductive IOpens (F:Fx) (lock:List Rw) (kD:D) (p q:Nat) (B:Store) (b:Bool) (i:Nat) (Z:En) (S:Store):Prop
 |mk (pile st a c) (_:Z=[some (.tup (lock.map rD)),some kD,some (fD F),some (.loc p),some (.loc q),a,c]) (_:Ext B S) (_:S[p]? =some (pl pile)) (_:S[q]? =some (pts st)) (_:pile.length<=20) (_:st.length<=i) (_:runP F (lock.drop i) pile st=some b):IOpens F lock kD p q B b i Z S
theorem Ji8(n:Nat)(F:Fx)(lock:List Rw)(keys:List Int)(S:Store)(hl:lock.length<=500)(hk:keys.length<=500){b:Bool}(hb:Wo F lock keys=some b):
  ∃S',callN T G W (n+4) "opens" [.tup (lock.map rD),.tup (keys.map D.int),fD F] S=.ok (.bl b) S'/\Ext S S':=by
 suffices h:Sat (callN T G W (n+4) "opens" [.tup (lock.map rD),.tup (keys.map D.int),fD F] S) λd S'=>d=.bl b/\Ext S S' by
  obtain⟨d,S',e,rfl,x⟩:=h;exact⟨S',e,x⟩
 rw[Jab Jna rfl];simp[Jik,Line];obtain⟨d,S1,e1,rfl,eS⟩:=Jqk (W:=W) (n+2) (S:=S++[.lst [],.lst []]) (p:=S.length) (nD:=.tup (keys.map D.int)) (g:=none) (pile:=[]) (ns:=keys) Jav (by simp;lia) rfl (.inl rfl);have x1:Ext S S1:=by rw[eS];exact(Ext.new _ _).set (Ai _) _
 have hp1:S1[S.length]? =some (pl (layP [] keys).2):=by rw[eS];exact Jaq (o:=.lst []) Jav
 have hq1:S1[S.length+1]? =some (pts []):=by
  rw[eS,Au (by lia)];exact Jc4
 clear eS;simp[e1];unfold Wo at hb;cases hk:(layP [] keys).1 with
 |false=>
  rw[hk]at hb;cases hb;simp;exact x1
 |true=>
  rw[hk,if_pos rfl]at hb;simp;refine Sat.p2 (loop (IOpens F lock (.tup (keys.map D.int)) S.length (S.length+1) S b) (λd S'=>d=.bl b/\Ext S S') ⟨_,[],none,none,rfl,x1,hp1,hq1,Jjd (by simp),by simp,hb⟩ ?_) ?_
  ·rintro i d _ S2 hd ⟨pile,st,a,c,rfl,x2,hp,hq,hok,hst,hrun⟩;rw[Ao]at hd;obtain⟨r,hr,rfl⟩:=Ak.mp hd;have hi:i<lock.length:=(Ae.mp hr).1;rw[Cg hi,(Ae.mp hr).2]at hrun;simp only[runP]at hrun;have fin:∀(z:Bool×List Int×List Pt) (S3:Store),U7 F pile st r=some z->Keep [S.length,S.length+1] S2 S3->S3[S.length]? =some (pl z.2.1)->S3[S.length+1]? =some (pts z.2.2)->
     Sat ((Ww (Cn T G W (n+3)) (.cns (.ret (.cst (.bl false))) .nul) .nul [some (.tup (lock.map rD)),some (.tup (keys.map D.int)),some (fD F),some (.loc S.length),some (.loc (S.length+1)),some (rD r),some (.bl !z.1)] (!z.1) S3).bind (kB (Cn T G W (n+3)) .nul)) (FlP (IOpens F lock (.tup (keys.map D.int)) S.length (S.length+1) S b (i+1)) λd S'=>d=.bl b/\Ext S S'):=by
    intro z S3 hz k3 hp3 hq3;have x3:Ext S S3:=x2.keep k3 (by simp);rw[hz]at hrun;obtain⟨z1,z2,z3⟩:=z;have g:=Jni hok hz;cases z1 with
    |false=>
     cases hrun;simp;exact x3
    |true=>
     simp;exact⟨z2,z3,_,_,rfl,x3,hp3,hq3,g.1,by have:=g.2;simp at this;lia,hrun⟩
   rw[Jas];simp[Jfv,Line,Jww,-Ww,-kB];cases hn:V0 r with
   |false=>
    obtain⟨z,hz⟩:∃z,Vt pile st r=some z:=by
     cases hzz:Vt pile st r with
     |some z=>exact⟨z,rfl⟩
     |none=>simp[U7,hn,hzz]at hrun
    obtain⟨_,S3,e,rfl,k3,hp3,hq3⟩:=turn (W:=W) (n+1) hp hq (by lia) (by lia) r hz;have f:=fin z S3 (by simp[U7,hn,hz]) k3 hp3 hq3;simp[Ww,Jfv,e,kB]at f ⊢;exact f
   |true=>
    have ed:=is_done (W:=W) (n+2) hq;cases hdn:Vw st with
    |false=>
     have f:=fin (true,pile,st) S2 (by simp[U7,hn,hdn]) .refl hp hq;rw[hdn]at ed;simp[Ww,ed,kB]at f ⊢;exact f
    |true=>
     obtain⟨_,S3,e,rfl,k3,hp3⟩:=do_row (W:=W) n hp F r hn hok;have f:=fin ((Wz F pile r).1,(Wz F pile r).2,st) S3 (by simp[U7,hn,hdn]) (k3.mono (by simp)) hp3 (k3.get hq (by simp));rw[hdn]at ed;simp[Ww,ed,e,kB]at f ⊢;exact f
  ·intro fl S2 h;rcases h.nr with⟨_,rfl,pile,st,a,c,rfl,x2,hp,hq,hok,hst,hrun⟩|⟨d,rfl,hd⟩
   ·simp[runP]at hrun;have hlen:=Jat hp;rw[Ah]at hlen;simp[hlen]
    by_cases he:pile=[]
    ·subst he;simp;exact⟨by rw[<-hrun];rfl,x2⟩
    ·have hpos':0<pile.length:=Kz.mpr he;have hp':S2[S.length]? =some (.lst (pile.dropLast.map D.int++[D.int (pile.getLastD 0)])):=by
      rw[hp]
      conv=>lhs;rw[Jg3 he]
      simp
     simp[hpos'];rw[Jcx hp'];simp;refine⟨?_,x2⟩;rw[<-hrun];simp[Web,he]
   ·simp;exact hd
end
abbrev PP:=Rdu.PK
structure Kp where
 w:Int
 lk:List Rw
 m:Int
 f:Int
noncomputable def kpD(k:Kp):D:=.tup [.int k.w,.tup (k.lk.map rD),.int k.m,.int k.f]
abbrev Cs:=List (PP×Kp)
noncomputable abbrev cp(c:Cs):List (PP×D):=c.map λp=>(p.1,kpD p.2)
noncomputable abbrev csO(c:Cs):Mi.Obj:=.dtu (cp c)
noncomputable abbrev dp(ns:List Int):List (Int×D):=ns.map λn=>(n,D.bl true)
noncomputable abbrev dnO(ns:List Int):Mi.Obj:=.dct (dp ns)
structure Dd where
 n:Int
 ins:List (PP×List Int)
 outs:List (Int×List Rw)
noncomputable def inD(i:PP×List Int):D:=.tup [dK i.1,.tup (i.2.map D.int)]
noncomputable def ouD(o:Int×List Rw):D:=.tup [.int o.1,.tup (o.2.map rD)]
noncomputable def ddD(d:Dd):D:=.tup [.int d.n,.tup (d.ins.map inD),.tup (d.outs.map ouD)]
noncomputable def nms(d:Dd):List PP:=d.ins.map (·.1)
noncomputable def U9(d:Dd):List Int:=d.outs.map (·.1)
noncomputable def worth(d:Dd):Int:=(U9 d).sum
noncomputable def wOf(c:Cs)(k:PP):Int:=match dVal c k with|some k=>k.w|none=>0
noncomputable def spent(c:Cs)(d:Dd):Int:=(d.ins.map λi=>wOf c i.1).sum
noncomputable def fx(k:Kp)(d:Dd)(h:Int):Fx:=⟨h,if h-k.m<0 then 0 else h-k.m,k.w,d.ins.length,d.outs.length,U9 d⟩
noncomputable def inW(c:Cs)(d:Dd)(h:Int)(i:PP×List Int):Option String:=match dVal c i.1 with
 |none=>some "gone"
 |some k=>if h<k.f then some "green" else if Wo (fx k d h) k.lk i.2=some true then none else some "shut"
noncomputable def Vf(c:Cs)(dn:List Int)(d:Dd)(h:Int):Option String:=
 if d.n∈dn then some "known" else if dst (nms d)<(nms d).length then some "twice" else match d.ins.findSome? (inW c d h)with
  |some x=>some x
  |none=>if d.ins≠[]/\spent c d<worth d then some "less" else none
@[simp]noncomputable def wD:Option String->D
 |none=>.non
 |some x=>.str x
noncomputable def dropO(c:Cs)(d:Dd):Nat->Cs
 |0=>c
 |i+1=>match d.ins[i]? with
  |some x=>dDrop (dropO c d i) x.1
  |none=>dropO c d i
noncomputable def putO(c:Cs)(d:Dd)(h f:Int):Nat->Cs
 |0=>dropO c d d.ins.length
 |i+1=>match d.outs[i]? with
  |some x=>dPut (putO c d h f i) (d.n,(i:Int)) ⟨x.1,x.2,h,f⟩
  |none=>putO c d h f i
noncomputable def Xe(c:Cs)(d:Dd)(h f:Int):Cs:=putO c d h f d.outs.length
noncomputable def Xq(c:Cs)(d:Dd):Int:=if d.ins=[]then 0 else spent c d-worth d
section
variable {κ α β:Type} [DecidableEq κ] {c:List (κ×α)} {k k':κ} {v:α}
theorem Jba{f:α->β}:dVal (c.map λp=>(p.1,f p.2)) k=(dVal c k).map f:=by
 unfold dVal;rw[Sy,Rh,Rh];rfl
def Jpe{f:α->β}:dPut (c.map λp=>(p.1,f p.2)) k (f v)=(dPut c k v).map λp=>(p.1,f p.2):=by
 unfold dPut;rw[O0];simp only[Bp];split
 ·rw[B1,B1];apply Ec;intro p _;simp only[Bp];split<;>rfl
 ·simp
theorem Jmv{f:α->β}:dDrop (c.map λp=>(p.1,f p.2)) k=(dDrop c k).map λp=>(p.1,f p.2):=by
 unfold dDrop;rw[List.filter_map];rfl
def Jc0(h:dVal c k=some v):(k,v)∈c:=by
 unfold dVal at h;obtain⟨p,hp,rfl⟩:=Ak.mp h;have h1:=List.find?_some hp;simp only[decide_eq_true_eq]at h1;subst h1;exact List.mem_of_find?_eq_some hp
def Jmu(h:k'≠k):dVal (dDrop c k) k'=dVal c k':=by
 unfold dVal dDrop;rw[List.find?_filter];congr 2;funext p
 by_cases e:p.1=k'
 ·simp[e,h]
 ·simp[e]
theorem Jin(hn:(c.map (·.1)).Nodup){p:κ×α}(hp:p∈c):dVal c p.1=some p.2:=by
 induction c with
 |nil=>cases hp
 |cons a r ih=>
  rw[Aw,Cm]at hn;unfold dVal;rw[C6];rcases An.mp hp with rfl|h
  ·simp
  ·have:a.1≠p.1:=λe=>hn.1 (e▸Bd.mpr ⟨p,h,rfl⟩);simp only[this,decide_false];exact ih hn.2 h
def Jdy(hp:p∈dPut c k v):p∈c\/p=(k,v):=by
 unfold dPut at hp;split at hp
 ·obtain⟨q,hq,rfl⟩:=Bd.mp hp;split
  ·rename_i e;exact .inr (by rw[e])
  ·exact .inl hq
 ·rcases Bt.mp hp with h|h
  ·exact .inl h
  ·exact .inr (Av.mp h)
def Jc1:(dPut c k v).map (·.1)=c.map (·.1)\/((dPut c k v).map (·.1)=c.map (·.1)++[k]/\k∉c.map (·.1)):=by
 unfold dPut;split
 ·left;rw[B1];apply Ec;intro p _;simp only[Bp];split<;>rfl
 ·rename_i h;right;refine⟨by simp,λz=>h ?_⟩;obtain⟨p,hp,e⟩:=Bd.mp z;exact Md.mpr ⟨p,hp,by simp[e]⟩
def Jkg(hn:(c.map (·.1)).Nodup):((dPut c k v).map (·.1)).Nodup:=by
 rcases Jc1 (c:=c) (k:=k) (v:=v)with e|⟨e,h⟩
 ·rw[e];exact hn
 ·rw[e,Iz];exact⟨hn,by simp,λa ha b hb=>by rw[Av.mp hb];rintro rfl;exact h ha⟩
def V6:(dDrop c k).Sublist c:=P8
end
def Jtn:(dVal (dp dn) x).isSome=decide (x∈dn):=by
 unfold dVal;rw[Ep,Sy,Ep,List.isSome_find?];rw[Mt,Md];simp
def Jto(h:x∉dn):dPut (dp dn) x (.bl true)=dp (dn++[x]):=by
 unfold dPut;rw[if_neg]
 ·simp
 ·rw[O0,Bool.not_eq_true,Ly];intro y hy;simp;rintro rfl;exact h hy
def Jjl(h:S[q]? =some (dnO dn)):cop .inn (.int x) (.loc q) S=some (decide (x∈dn)):=by rw[Jtt h,Jtn]
theorem Jqv{ks:Nat->List Int}:∀{n i:Nat},i<n->ks i∈Sbl.dd ks n
 |n+1,i,h=>by
  unfold Sbl.dd
  by_cases e:i=n
  ·subst e;split
   ·assumption
   ·exact Bn
  ·have:=Jqv (ks:=ks) (show i<n by lia);split
   ·exact this
   ·exact Ay _ this
theorem Jxf{ks:Nat->List Int}:∀{n:Nat},(Sbl.dd ks n).length=n->∀{i j:Nat},i<j->j<n->ks i≠ks j
 |n+1,h,i,j,hij,hj=>by
  have hl:=Sbl.Jhc ks n;unfold Sbl.dd at h;split at h
  ·lia
  ·rename_i hn;simp only[A7]at h
   by_cases e:j=n
   ·subst e;intro z;exact hn (z▸Jqv hij)
   ·exact Jxf (n:=n) (by lia) hij (by lia)
def Jxd{ps:List PP}(h:¬dst ps<ps.length){i j:Nat}{x y:PP}(hij:i<j)(hx:ps[i]? =some x)(hy:ps[j]? =some y):x≠y:=by
 rintro rfl;have hj:=(Ae.mp hy).1;have:=Sbl.Jhc (λi=>[(ps.getD i (0,0)).1,(ps.getD i (0,0)).2]) ps.length;refine Jxf (ks:=λi=>[(ps.getD i (0,0)).1,(ps.getD i (0,0)).2]) (by unfold dst at h;lia) hij hj ?_;simp only[Ej,hx,hy]
def Jb6{d:Dd}(hw:Vf c dn d h=none):d.n∉dn/\¬dst (nms d)<(nms d).length/\(∀i∈d.ins,∃k,dVal c i.1=some k):=by
 unfold Vf at hw;split at hw
 ·cases hw
 ·rename_i h1;split at hw
  ·cases hw
  ·rename_i h2;refine⟨h1,h2,λi hi=>?_⟩;split at hw
   ·cases hw
   ·rename_i h3;have:=Ig.mp h3 i hi;unfold inW at this;split at this
    ·cases this
    ·exact⟨_,‹_›⟩
theorem Jf7{d:Dd}(hd:¬dst (nms d)<(nms d).length):∀{i:Nat},(∀j<i,∀x,d.ins[j]? =some x->x.1≠k)->dVal (dropO c d i) k=dVal c k
 |0,_=>rfl
 |i+1,h=>by
  unfold dropO;split
  ·rename_i x hx;rw[Jmu (λe=>h i (by lia) x hx e.symm)];exact Jf7 hd λj hj=>h j (by lia)
  ·exact Jf7 hd λj hj=>h j (by lia)
def Jmp{c:Cs}{d:Dd}(hd:¬dst (nms d)<(nms d).length){i:Nat}{x:PP×List Int}(hx:d.ins[i]? =some x):dVal (dropO c d i) x.1=dVal c x.1:=by
 refine Jf7 hd λj hj y hy=>Jxd hd hj (by simp[nms,hy]) (by simp[nms,hx])
@[simp]theorem Jlf{S:Store}:seqAt (S++(.lst ds::X)) S.length=some ds:=Ja5 Jav
structure Hd(S:Store)(L u q:Nat)(c:Cs)(dn:List Int):Prop where
 l:S[L]? =some (.ins "Hoard" [("unspent",.loc u),("done",.loc q)])
 u:S[u]? =some (csO c)
 q:S[q]? =some (dnO dn)
section
variable {W n:Nat} {S S':Store} {L u q:Nat} {c:Cs} {dn:List Int} {ps:List Nat} {d:Dd} {h:Int}
def Hd.ext(a:Hd S L u q c dn)(k:Ext S S'):Hd S' L u q c dn:=⟨k.get a.l,k.get a.u,k.get a.q⟩
theorem Hd.fu(a:Hd S L u q c dn):Ya "Hoard" "unspent" (.loc L) S=.ok (.loc u) S:=Jei a.l rfl
theorem Hd.fq(a:Hd S L u q c dn):Ya "Hoard" "done" (.loc L) S=.ok (.loc q) S:=Jei a.l rfl
def Hd.rc(a:Hd S L u q c dn)(h1:(m=="unspent")=false:=by rfl)(h2:(m=="done")=false:=by rfl):isRec S (.loc L) "Hoard" m=true:=Jo1 a.l (by simp[C9,h1,h2])
def is_maker:callN T G W (n+1) "is_maker" [ddD d] S=.ok (.bl (decide (d.ins=[]))) S:=by
 rw[Jab Jh3 rfl];simp[Jdg,ddD]
def spent_by(hl:d.ins.length<=3):callN T G W (n+1) "spent_by" [ddD d] S=.ok (.loc S.length) (S++[.lst ((nms d).map dK)]):=by
 rw[Jab Jhu rfl];simp[Jdb,ddD];rw[Ja6 (xs:=d.ins) inD (λi=>dK i.1) (by lia) (.inl rfl) (λx _=>by simp[Jaj,U2,inD])];simp[nms,Bp]
def Jbk(hl:d.outs.length<=3)(ht:∀x∈d.outs,Vo C (.tvar 0) .nul el (ouD x) (U2 1 [] Z) S=.ok (some (.int x.1)) S):Wr C 1 [] (.tvar 0) .nul el Z (none,d.outs.map ouD) S=.ok (.loc S.length) (S++[pl (U9 d)]):=by
 rw[Ja6 (xs:=d.outs) ouD (λi=>.int i.1) (by lia) (.inl rfl) ht];simp[U9,Bp]
def Jdn(ns:List Int):U0 .sum1 [.loc S.length] (S++[pl ns])=.ok (.int ns.sum) (S++[pl ns]):=by
 have:=Jbu (S:=S) id ns;simp only[id,List.map_id]at this;exact this
def worth_of(hl:d.outs.length<=3):callN T G W (n+1) "worth_of" [ddD d] S=.ok (.int (worth d)) (S++[pl (U9 d)]):=by
 rw[Jab Jht rfl];simp[Jda,ddD];rw[Jbk hl (λx _=>by simp[Jaj,U2,ouD])];simp only[Res.bind_ok,Vp,Vs,Va];rw[Jdn];simp[worth]
theorem Jwi(xs:List PP):W4 kyD (xs.map dK)=some xs:=by
 induction xs with
 |nil=>rfl
 |cons a r ih=>simp only[Aw,W4,kyD,ih]
def Jqi{xs:List PP}(hS:S[l]? =some (.lst (xs.map dK)))(hl:xs.length<=3):X5 (.loc l) S=.ok (.int (dst xs)) S:=by
 simp only[X5,Ja5 hS,G5,Jwi,if_pos (show xs.length<4 by lia)]
def has_twice{xs:List PP}(hS:S[l]? =some (.lst (xs.map dK)))(hl:xs.length<=3):callN T G W (n+1) "has_twice" [.loc l] S=.ok (.bl (decide (dst xs<xs.length))) S:=by
 rw[Jab Jgm rfl];simp[Jck,Jqi hS hl,Jat hS]
def facts_of(hl:d.outs.length<=3):callN T G W (n+1) "facts_of" [kpD k,ddD d,.int h] S=.ok (fD (fx k d h)) (S++[pl (U9 d)]):=by
 rw[Jab Jh4 rfl];simp[Jdh,ddD,kpD,Jxv,Jnb];rw[Jbk hl (λx _=>by simp[Jaj,U2,ouD])];simp only[Res.bind_ok,Vp,Vs,Va];rw[Jal Jad];simp[Line,fD,fx,U9]
def Xc(lk:List Rw):Prop:=lk.length<=6/\∀F keys,∃b,Wo F lk keys=some b
structure Ok1(p:PP×Kp):Prop where
 a:0<=p.1.1/\p.1.1<345/\0<=p.1.2/\p.1.2<3
 w:p.2.w<=10^40
 lk:Xc p.2.lk
structure Gc(c:Cs):Prop where
 nd:(c.map (·.1)).Nodup
 ok:∀p∈c,Ok1 p
structure Gd(dn:List Int):Prop where
 nd:dn.Nodup
 ok:∀x∈dn,0<=x/\x<345
structure Wj(d:Dd):Prop where
 n:0<=d.n/\d.n<345
 i:d.ins.length<=3
 o:d.outs.length<=3
 k:∀i∈d.ins,i.2.length<=3
 w:∀o∈d.outs,o.1<=10^40/\Xc o.2
theorem fault_of_in(a:Hd S L u q c dn)(g:Gc c)(g2:Wj d)(hi:i∈d.ins):∃S',callN T G W (n+5) "Hoard.fault_of_in" [.loc L,inD i,ddD d,.int h] S=.ok (wD (inW c d h i)) S'/\Ext S S':=by
 rw[Jab Jb3 rfl];have e1:=Jl0 (p:=i.1) a.u;rw[show cp c=c.map λp=>(p.1,kpD p.2)from rfl,Jba]at e1;have e2:=Zb (me:=.get1) rfl a.u;simp only[inW];cases hv:dVal c i.1 with
 |none=>
  rw[hv]at e1;simp[Jap,a.fu,inD,e1,e2,wD];exact .refl _
 |some k=>
  rw[hv]at e1;simp only[Fd,Option.getD_some]at e1;dsimp only
  by_cases hh:h<k.f
  ·rw[if_pos hh];simp only[kpD]at e1;simp[Jap,a.fu,inD,e1,e2,wD,Jq1,hh];exact .refl _
  ·rw[if_neg hh];have o1:=g.ok _ (Jc0 hv);obtain⟨b,hb⟩:=o1.lk.2 (fx k d h) i.2;have e3:=facts_of (W:=W) (n:=n+3) (S:=S) (h:=h) (k:=k) g2.o;obtain⟨S2,e4,x2⟩:=Ji8 (W:=W) n (fx k d h) k.lk i.2 (S++[pl (U9 d)]) (by have:=o1.lk.1;simp at this;lia) (by have:=g2.k i hi;lia) hb;simp only[kpD]at e1 e3;simp[Jap,a.fu,inD,e1,e2,Jq1,Jxw,hh,e3];simp[e4,hb];cases b<;>simp[wD]<;>exact(Ext.new _ _).trans x2
def worth_spent(a:Hd S L u q c dn)(hl:d.ins.length<=3)(hv:∀i∈d.ins,∃k,dVal c i.1=some k):callN T G W (n+2) "Hoard.worth_spent" [.loc L,ddD d] S=.ok (.int (spent c d)) (S++[.lst ((nms d).map dK),pl ((nms d).map (wOf c))]):=by
 rw[Jab Jb2 rfl];simp[Jaz,spent_by (W:=W) (n:=n) (S:=S) hl];have a1:=a.ext (.new S [.lst ((nms d).map dK)]);rw[Ja6 (xs:=nms d) dK (λi=>.int (wOf c i)) (by simp[nms];lia) (.inr ⟨_,rfl,Jad⟩) (λx hx=>by
  obtain⟨i,hi,rfl⟩:=Bd.mp hx;obtain⟨k,hk⟩:=hv i hi;have:dVal (cp c) i.1=some (kpD k):=by rw[Jba,hk];rfl
  simp[Jaj,U2,a1.fu,Jf0 a1.u this,Jnb,wOf,hk];simp[kpD])]
 have:=Jdn (S:=S++[.lst ((nms d).map dK)]) ((nms d).map (wOf c));simp only[pl,B1,Bp]at this;simp only[Res.bind_ok,Vp,Vs,Va];rw[this];simp[spent,nms,Bp]
end
section
variable {W n:Nat} {S S':Store} {L u q:Nat} {c:Cs} {dn:List Int} {ps:List Nat} {d:Dd} {h f:Int}
def Sat.to{P:Store->Prop}(h:Sat r λd S'=>d=x/\P S'):∃S',r=.ok x S'/\P S':=by
 obtain⟨d,S',e,rfl,p⟩:=h;exact⟨S',e,p⟩
@[simp]theorem J04:Jao (ddD d) (.int 0) S=.ok (.int d.n) S:=Jbm
@[simp]theorem J03:Jao (ddD d) (.int 1) S=.ok (.tup (d.ins.map inD)) S:=Jdx
@[simp]theorem J02:Jao (ddD d) (.int 2) S=.ok (.tup (d.outs.map ouD)) S:=Jje
@[simp]theorem J01{i:PP×List Int}:Jao (inD i) (.int 0) S=.ok (dK i.1) S:=Jbm
@[simp]theorem J0y{o:Int×List Rw}:Jao (ouD o) (.int 0) S=.ok (.int o.1) S:=Jbm
@[simp]theorem J0x{o:Int×List Rw}:Jao (ouD o) (.int 1) S=.ok (.tup (o.2.map rD)) S:=Jdx
@[simp]theorem J00{k:Kp}:Jao (kpD k) (.int 0) S=.ok (.int k.w) S:=Jbm
@[simp]theorem J0z{k:Kp}:Jao (kpD k) (.int 1) S=.ok (.tup (k.lk.map rD)) S:=Jdx
theorem sub_len{α:Type}[DecidableEq α]:∀{l m:List α},l.Nodup->(∀x∈l,x∈m)->l.length<=m.length
 |[],m,_,_=>Cr _
 |x::l,m,hn,hs=>by
  rw[Cm]at hn;have hx:=hs x Bn;have:=sub_len (m:=m.erase x) hn.2 λy hy=>(Pq (by rintro rfl;exact hn.1 hy)).mpr (hs y (Ay _ hy));rw[Oa hx]at this;have:=Oy hx;simp only[A7];omega
noncomputable def nums:List Int:=(B7 345).map λ(i:Nat)=>(i:Int)
def Ji9(h:0<=x/\x<345):x∈nums:=Bd.mpr ⟨x.toNat,by simp;lia,by lia⟩
def Gd.len(g:Gd dn):dn.length<=345:=by
 have:=sub_len g.nd λx hx=>Ji9 (g.ok x hx);rwa[nums,Ah,Ex]at this
def Gc.len(g:Gc c):c.length<=1035:=by
 have:=sub_len (m:=nums.map (λi=>(i,(0:Int)))++(nums.map (λi=>(i,(1:Int)))++nums.map λi=>(i,(2:Int)))) g.nd λx hx=>by
  obtain⟨p,hp,rfl⟩:=Bd.mp hx;have z:=(g.ok p hp).a;have hm:=Ji9 ⟨z.1,z.2.1⟩;simp only[Bt,Bd];rcases(show p.1.2=0\/p.1.2=1\/p.1.2=2 by lia)with e|e|e
  ·exact .inl ⟨_,hm,by rw[<-e]⟩
  ·exact .inr (.inl ⟨_,hm,by rw[<-e]⟩)
  ·exact .inr (.inr ⟨_,hm,by rw[<-e]⟩)
 simp only[Ah,Bf,nums,Ex]at this
 lia
def Gc.apt(g:Gc c):Xt ((cp c).map (·.1))=true:=by
 simp only[Xt,cp,B1,Bp,Al,Ei,decide_eq_true_eq];refine⟨λp hp=>?_,g.nd⟩;obtain⟨x,hx,rfl⟩:=Bd.mp hp;have:=(g.ok x hx).a;exact⟨⟨⟨this.1,this.2.1⟩,this.2.2.1⟩,this.2.2.2⟩
def Gc.drop(g:Gc c)(k:PP):Gc (dDrop c k):=⟨g.nd.sublist (V6.map _),λp hp=>g.ok p (V6.subset hp)⟩
def Gc.put(g:Gc c)(hv:Ok1 (k,v)):Gc (dPut c k v):=⟨Jkg g.nd,λp hp=>(Jdy hp).elim (g.ok p) λe=>e▸hv⟩
theorem Gc.dropO(g:Gc c):∀i,Gc (dropO c d i)
 |0=>g
 |i+1=>by
  unfold K23.dropO;split
  ·exact(g.dropO i).drop _
  ·exact g.dropO i
theorem Gc.putO(g:Gc c)(g2:Wj d):∀i,Gc (putO c d h f i)
 |0=>g.dropO _
 |i+1=>by
  unfold K23.putO;split
  ·rename_i x hx;have hl:=(Ae.mp hx).1;have:=g2.o;have hw:=g2.w x (Ba hx);exact(g.putO g2 i).put ⟨⟨g2.n.1,g2.n.2,Lk _,by show(i:Int)<3;lia⟩,hw.1,hw.2⟩
  ·exact g.putO g2 i
def Gd.add(g:Gd dn)(h1:x∉dn)(h2:0<=x/\x<345):Gd (dn++[x]):=⟨by
 rw[Iz];exact⟨g.nd,by simp,λa ha b hb=>by rw[Av.mp hb];rintro rfl;exact h1 ha⟩,λy hy=>(Bt.mp hy).elim (g.ok y) λe=>Av.mp e▸h2⟩
def did(a:Hd S L u q c dn):callN T G W (n+1) "Hoard.did" [.loc L,.int x] S=.ok (.bl (decide (x∈dn))) S:=by
 rw[Jab Jgp rfl];simp[Jcm,a.fq,Jjl a.q]
inductive IFau (S:Store) (L:Nat) (c:Cs) (d:Dd) (h:Int) (i:Nat) (Z:En) (S':Store):Prop
 |mk (x y) (_:Z=[some (.loc L),some (ddD d),some (.int h),x,y]) (_:Ext S S') (_:d.ins.findSome? (inW c d h)=(d.ins.drop i).findSome? (inW c d h)):IFau S L c d h i Z S'
inductive RFau (S:Store) (c:Cs) (d:Dd) (h:Int) (r:D) (S':Store):Prop
 |mk (x) (_:d.ins.findSome? (inW c d h)=some x) (_:r=.str x) (_:Ext S S'):RFau S c d h r S'
def fault(a:Hd S L u q c dn)(g:Gc c)(g2:Wj d):∃S',callN T G W (n+6) "Hoard.fault" [.loc L,ddD d,.int h] S=.ok (wD (Vf c dn d h)) S'/\Ext S S':=by
 rw[Jab Jez rfl];have e1:=did (W:=W) (n:=n+4) (x:=d.n) a;have e2:=spent_by (W:=W) (n:=n+4) (S:=S) g2.i;have e3:=has_twice (W:=W) (n:=n+4) (S:=S++[.lst ((nms d).map dK)]) (xs:=nms d) Jad (by simp[nms];exact g2.i);unfold Vf
 by_cases h1:d.n∈dn
 ·simp[Ja2,a.rc (m:="did"),e1,h1];exact .refl _
 by_cases h2:dst (nms d)<(nms d).length
 ·simp[Ja2,a.rc (m:="did"),e1,h1,e2,e3,h2];exact .new _ _
 refine Sat.to ?_;simp[Ja2,a.rc (m:="did"),e1,h1,e2,e3,h2];refine Sat.p2 (loop (IFau S L c d h) (RFau S c d h) ⟨none,none,rfl,.new _ _,by simp⟩ ?_) ?_
 ·rintro i z _ S2 hd ⟨x,y,rfl,x2,hf⟩;rw[Ao]at hd;obtain⟨r,hr,rfl⟩:=Ak.mp hd;have hi:i<d.ins.length:=(Ae.mp hr).1;rw[Cg hi,(Ae.mp hr).2,P7]at hf;have a2:=a.ext x2;obtain⟨S3,e4,x3⟩:=fault_of_in (W:=W) (n:=n) (h:=h) a2 g g2 (Ba hr);rw[Jas];simp[a2.rc (m:="fault_of_in"),e4];cases hw:inW c d h r with
  |none=>
   rw[hw]at hf;simp;exact⟨_,_,rfl,x2.trans x3,hf⟩
  |some w=>
   rw[hw]at hf;simp;exact⟨w,hf,rfl,x2.trans x3⟩
 ·intro fl S2 hh;rcases hh.nr with⟨_,rfl,x,y,rfl,x2,hf⟩|⟨r,rfl,x,hf,rfl,x2⟩
  ·rw[Ah,Hc]at hf;have hn:=Ig.mp hf;have hv:∀i∈d.ins,∃k,dVal c i.1=some k:=λi hi=>by
    have:=hn i hi;unfold inW at this;split at this
    ·cases this
    ·exact⟨_,‹_›⟩
   rw[hf];have e5:=is_maker (W:=W) (n:=n+4) (S:=S2) (d:=d)
   by_cases hm:d.ins=[]
   ·simp[e5,hm];exact x2
   ·have e6:=worth_of (W:=W) (n:=n+4) (S:=S2) g2.o;have a3:=(a.ext x2).ext (.new S2 [pl (U9 d)]);have e7:=worth_spent (W:=W) (n:=n+3) a3 g2.i hv;simp[e5,hm,e6,a3.rc (m:="worth_spent"),e7]
    by_cases hs:spent c d<worth d
    ·simp[hs];exact x2.trans (.new _ _)
    ·simp[hs];exact x2.trans (.new _ _)
  ·simp[hf];exact x2
def fee(a:Hd S L u q c dn)(g2:Wj d)(hv:∀i∈d.ins,∃k,dVal c i.1=some k):∃S',callN T G W (n+3) "Hoard.fee" [.loc L,ddD d] S=.ok (.int (Xq c d)) S'/\Ext S S':=by
 rw[Jab Jgo rfl];have e5:=is_maker (W:=W) (n:=n+1) (S:=S) (d:=d);unfold Xq
 by_cases hm:d.ins=[]
 ·simp[Jbq,e5,hm];exact .refl _
 ·have e7:=worth_spent (W:=W) (n:=n) a g2.i hv;have e6:=worth_of (W:=W) (n:=n+1) (S:=S++[.lst ((nms d).map dK),pl ((nms d).map (wOf c))]) g2.o;simp[Jbq,e5,hm,a.rc (m:="worth_spent"),e7];simp at e6;simp[e6];exact .new _ _
def Jnt(hl:d.outs.length<=3):Xo (.int (d.outs.length:Int)) S=.ok (none,(B7 d.outs.length).map λ(i:Nat)=>.int i) S:=by
 rw[Jc6 (by lia) (by lia)];simp
def Jwb:Vo C (.tvar 0) .nul (.tup (.cns (.idx (.var 1) (.cst (.int 0))) (.cns (.var 0) .nul))) (.int x) (U2 1 [0] [some (ddD d)]) S=.ok (some (dK (d.n,(x:Int)))) S:=by
 simp[Jaj,U2];simp[Line]
def Jrx(hl:k<=1000):(B7 k).length<=1000000:=by rw[Ex];exact Bw hl (by decide)
def made_by(hl:d.outs.length<=3):callN T G W (n+1) "made_by" [ddD d] S=.ok (.loc S.length) (S++[.lst ((B7 d.outs.length).map λ(j:Nat)=>dK (d.n,(j:Int)))]):=by
 rw[Jab Jiu rfl];simp[Jen,Jnt hl];rw[Ja6 (xs:=B7 d.outs.length) (λ(i:Nat)=>D.int i) (λ(j:Nat)=>dK (d.n,(j:Int))) (Jrx (by lia)) (.inl rfl) (λx _=>Jwb)];simp only[Res.bind_ok,X9,kB,Xf]
end
local macro_rules|`(tactic|simp!)=>`(tactic|simp -implicitDefEqProofs)|`(tactic|simp![$a,*])=>`(tactic|simp -implicitDefEqProofs[$a,*])
section
variable {W n:Nat} {S S':Store} {L u q:Nat} {c:Cs} {dn:List Int} {ps:List Nat} {d:Dd} {h f:Int}
def Hd.uq(a:Hd S L u q c dn):u≠q:=by
 rintro rfl;have:=a.u.symm.trans a.q;cases this
def Hd.lu(a:Hd S L u q c dn):L≠u/\L≠q:=by
 constructor<;>rintro rfl
 ·have:=a.l.symm.trans a.u;cases this
 ·have:=a.l.symm.trans a.q;cases this
def pop_at(hu:S[u]? =some (csO c))(hv:dVal c k=some v):U5 .pop1 (.loc u) [dK k] S=.ok (kpD v) (S.set u (csO (dDrop c k))):=by
 have:=Jlz (p:=k) (d:=kpD v) hu (by rw[Jba,hv];rfl);rw[this,Jmv]
def Jp8(hu:S[u]? =some (csO c))(g:Gc c):Vu (.loc u) (dK k) (kpD v) S=.ok () (S.set u (csO (dPut c k v))):=by
 rw[Jnq hu (by rw[Ah];have:=g.len;unfold Line;lia),Jpe]
def Jp7(hq:S[q]? =some (dnO dn))(g:Gd dn)(hx:x∉dn):Vu (.loc q) (.int x) (.bl true) S=.ok () (S.set q (dnO (dn++[x]))):=by
 rw[Jnr hq (by rw[Ah];have:=g.len;unfold Line;lia),Jto hx]
def Jmq{x:PP×List Int}(hx:d.ins[i]? =some x):dropO c d (i+1)=dDrop (dropO c d i) x.1:=by simp only[dropO,hx]
def Jp9{x:Int×List Rw}(hx:d.outs[i]? =some x):putO c d h f (i+1)=dPut (putO c d h f i) (d.n,(i:Int)) ⟨x.1,x.2,h,f⟩:=by simp only[putO,hx]
inductive IPop (S:Store) (L u:Nat) (c:Cs) (d:Dd) (h f:Int) (nt:D) (i:Nat) (Z:En) (S':Store):Prop
 |mk (x) (_:Z=[some (.loc L),some (ddD d),some (.int h),some (.int f),some .non,some nt,x,none]) (_:Keep [u] S S') (_:S'[u]? =some (csO (dropO c d i))):IPop S L u c d h f nt i Z S'
inductive IPut (S:Store) (L u:Nat) (c:Cs) (d:Dd) (h f:Int) (nt:D) (i:Nat) (Z:En) (S':Store):Prop
 |mk (x y) (_:Z=[some (.loc L),some (ddD d),some (.int h),some (.int f),some .non,some nt,x,y]) (_:Keep [u] S S') (_:S'[u]? =some (csO (putO c d h f i))):IPut S L u c d h f nt i Z S'
def Jxe(a:Hd S L u q c dn)(g:Gc c)(gd:Gd dn)(g2:Wj d)(hw:Vf c dn d h=none):Sat (callN T G W (n+7) "Hoard.do" [.loc L,ddD d,.int h,.int f] S) λ_ S'=>Keep [u,q] S S'/\Hd S' L u q (Xe c d h f) (dn++[d.n]):=by
 rw[Jab Jh6 rfl];obtain⟨hn,h2,hv⟩:=Jb6 hw;obtain⟨S1,e1,x1⟩:=fault (W:=W) (n:=n) (h:=h) a g g2;rw[hw]at e1;have a1:=a.ext x1;have e2:=λS=>spent_by (W:=W) (n:=n+5) (S:=S) g2.i;simp[Jdj,a.rc (m:="fault"),e1,e2];have a2:=a1.ext (.new S1 [.lst ((nms d).map dK)]);have hlen:(nms d).length=d.ins.length:=by simp[nms]
 have i3:=g2.i;rw[Ja6 (xs:=nms d) dK (λi=>.tup [dK i,(((dVal c i).map kpD).getD .non)]) (by lia) (.inr ⟨_,rfl,Jad⟩) (λx hx=>by
  obtain⟨i,hi,rfl⟩:=Bd.mp hx;obtain⟨k,hk⟩:=hv i hi;have:dVal (cp c) i.1=some (kpD k):=by rw[Jba,hk];rfl
  simp[Jaj,U2,a2.fu,Jf0 a2.u this,hk];simp[Line])]
 simp only[Res.bind_ok,Vp,Vs,Va];rw[Jal Jad];generalize hnt:(D.tup ((nms d).map λi=>.tup [dK i,(((dVal c i).map kpD).getD .non)]))=nt1;have a3:=a2.ext (.new (S1++[.lst ((nms d).map dK)]) [.lst ((nms d).map λi=>.tup [dK i,(((dVal c i).map kpD).getD .non)])]);generalize hS3:S1++[.lst ((nms d).map dK)]++[.lst ((nms d).map λi=>.tup [dK i,(((dVal c i).map kpD).getD .non)])]=S3 at a3;have x3:Ext S S3:=by rw[<-hS3];exact(x1.trans (.new _ _)).trans (.new _ _)
 clear hS3 a2 hnt;simp only[Res.bind_ok,Vp,Vs,Va,Wd2,A7,Et,if_pos (show 0+1+1<=Line by decide),Zr,Jpq];simp[e2];have a5:=a3.ext (.new S3 [.lst ((nms d).map dK)]);have x5:=x3.trans (.new S3 [.lst ((nms d).map dK)]);have hl5:(S3++[Obj.lst ((nms d).map dK)])[S3.length]? =some (.lst ((nms d).map dK)):=Jad;have hul:u<S3.length:=Ja0 a3.u;generalize S3++[Obj.lst ((nms d).map dK)]=S5 at a5 x5 hl5;refine Sat.p2 (Y7 (IPop S5 L u c d h f (.tup [ddD d,nt1])) noR ⟨none,rfl,.refl,a5.u⟩ (λi Z S4 ⟨x,_,k4,_⟩=>k4.get hl5 (by simp;lia)) ?_) ?_
 ·rintro i z _ S4 hd ⟨x,rfl,k4,hu⟩;rw[Ao]at hd;obtain⟨k,hk,rfl⟩:=Ak.mp hd;rw[nms,Ao]at hk;obtain⟨j,hj,rfl⟩:=Ak.mp hk;obtain⟨v,hv⟩:=hv j (Ba hj);have e:=pop_at hu ((Jmp h2 hj).trans hv);have r:=Zb (me:=.pop1) rfl hu;have ff:=Jei (f:="unspent") (k4.get a5.l (by simp;exact a5.lu.1)) rfl;rw[Jas];simp[ff,e,r];exact⟨_,rfl,k4.trans (.set (by simp)),by rw[Jaq hu,Jmq hj]⟩
 ·intro fl S6 hh;obtain⟨_,rfl,x,rfl,k6,hu6⟩:=hh.nx;simp only[Ah,hlen]at hu6;have e3:=made_by (W:=W) (n:=n+5) (S:=S6) g2.o;simp! [e3];have o3:=g2.o;simp only[zpD,Jlf,Ah,Ex,if_true,Res.bind_ok];have k7:Keep [u] S5 (S6++[.lst ((B7 d.outs.length).map λ(j:Nat)=>dK (d.n,(j:Int)))]):=k6.trans (.new _);have hu7:=Jah (X:=[.lst ((B7 d.outs.length).map λ(j:Nat)=>dK (d.n,(j:Int)))]) hu6;have hl7:(S6++[Obj.lst ((B7 d.outs.length).map λ(j:Nat)=>dK (d.n,(j:Int)))])[S6.length]? =some (.lst ((B7 d.outs.length).map λ(j:Nat)=>dK (d.n,(j:Int)))):=Jad;have hu6l:=Ja0 hu6;generalize S6++[Obj.lst ((B7 d.outs.length).map λ(j:Nat)=>dK (d.n,(j:Int)))]=S7 at k7 hu7 hl7;refine Sat.p2 (W8 (IPut S7 L u c d h f (.tup [ddD d,nt1])) noR ⟨_,_,rfl,.refl,hu7⟩ (λi Z S8 ⟨x,y,_,k8,_⟩=>?_) ?_) ?_
  ·have:=k8.get hl7 (by simp;lia);simp[sameAt,this]
  ·rintro i _ S8 hi ⟨x,y,rfl,k8,hu8⟩;have hi:i<d.outs.length:=by simpa using hi
   have hl8:=k8.get hl7 (by simp;lia);refine⟨.tup [dK (d.n,(i:Int)),ouD d.outs[i]],by simp[nth,Ja5 hl8,hi],?_⟩;have ff:=Jei (f:="unspent") (k8.get (k7.get a5.l (by simp;exact a5.lu.1)) (by simp;exact a5.lu.1)) rfl;have e:=Jp8 (k:=(d.n,(i:Int))) (v:=⟨d.outs[i].1,d.outs[i].2,h,f⟩) hu8 (g.putO g2 i);simp only[kpD]at e;rw[Jas];simp[ff];rw[if_pos (by decide)];simp[ff,e];exact⟨_,_,rfl,k8.trans (.set (by simp)),by rw[Jaq hu8,Jp9 (Ag hi)]⟩
  ·intro fl S9 hh;obtain⟨_,rfl,x,y,rfl,k9,hu9⟩:=hh.nx;simp only[Ah]at hu9;have a9l:=k9.get (k7.get a5.l (by simp;exact a5.lu.1)) (by simp;exact a5.lu.1);have a9q:=k9.get (k7.get a5.q (by simp;exact a5.uq.symm)) (by simp;exact a5.uq.symm);have ff:=Jei (f:="done") a9l rfl;simp[ff,Jp7 a9q gd hn];refine⟨((Keep.ext x5).trans (k7.mono (by simp))).trans ((k9.mono (by simp)).trans (.set (by simp))),?_,?_,?_⟩
   ·rw[Au a5.lu.2.symm];exact a9l
   ·rw[Au a5.uq.symm];exact hu9
   ·exact Jaq a9q
def init:callN T G W (n+1) "Hoard.__init__" [.loc S.length] (S++[.ins "Hoard" []])=.ok .non (S++[.ins "Hoard" [("unspent",.loc (S.length+1)),("done",.loc (S.length+2))],.dtu [],.dct []]):=by
 rw[Jab Jc5 rfl];have h0:(S++[Obj.ins "Hoard" [],.dtu []])[S.length]? =some (.ins "Hoard" []):=Jav;have h1:(S++[Obj.ins "Hoard" [("unspent",.loc (S.length+1))],.dtu [],.dct []])[S.length]? =some (.ins "Hoard" [("unspent",.loc (S.length+1))]):=Jav;simp[Ja8];rw[Jfs h0 (by simp)];simp[putD];rw[Jfs h1 (by simp)];simp[putD]
def Jv7:evE (Cn T G W (n+1)) (.new "Hoard" "Hoard.__init__") Z S=.ok (.loc S.length) (S++[.ins "Hoard" [("unspent",.loc (S.length+1)),("done",.loc (S.length+2))],.dtu [],.dct []]):=by
 rw[Juf];simp[init]
def copied(a:Hd S L u q c dn)(g:Gc c):∃S' u' q',callN T G W (n+2) "Hoard.copied" [.loc L] S=.ok (.loc S.length) S'/\Ext S S'/\S.length<=u'/\S.length<=q'/\Hd S' S.length u' q' c dn:=by
 rw[Jab Jdq rfl];simp! [Jbi,Jv7,-Juf];have a1:=a.ext (.new S [.ins "Hoard" [("unspent",.loc (S.length+1)),("done",.loc (S.length+2))],.dtu [],.dct []]);have x1:=Ext.new S [.ins "Hoard" [("unspent",.loc (S.length+1)),("done",.loc (S.length+2))],.dtu [],.dct []];have h1:(S++[Obj.ins "Hoard" [("unspent",.loc (S.length+1)),("done",.loc (S.length+2))],.dtu [],.dct []])[S.length]? =some (.ins "Hoard" [("unspent",.loc (S.length+1)),("done",.loc (S.length+2))]):=Jav;generalize S++[Obj.ins "Hoard" [("unspent",.loc (S.length+1)),("done",.loc (S.length+2))],.dtu [],.dct []]=S1 at a1 x1 h1;have hl:L<S.length:=Ja0 a.l;have hs:=Ja0 h1;simp[a1.fu,Jf9 a1.u g.apt];rw[Jfs (Jah h1) (by simp)];simp[putD];have h2:((S1++[csO c]).set S.length (.ins "Hoard" [("unspent",.loc S1.length),("done",.loc (S.length+2))]))[S.length]? =some (.ins "Hoard" [("unspent",.loc S1.length),("done",.loc (S.length+2))]):=Jaq (Jah h1);have x2:=(x1.trans (.new S1 [csO c])).set (Ai _) (.ins "Hoard" [("unspent",.loc S1.length),("done",.loc (S.length+2))]);have u2:((S1++[csO c]).set S.length (.ins "Hoard" [("unspent",.loc S1.length),("done",.loc (S.length+2))]))[S1.length]? =some (csO c):=by
  rw[Au (by lia)];exact Jad
 generalize(S1++[csO c]).set S.length (.ins "Hoard" [("unspent",.loc S1.length),("done",.loc (S.length+2))])=S2 at h2 x2 u2;have a2:=a.ext x2;have hs2:=Ja0 u2;simp[a2.fq,Jga a2.q];rw[Jfs (Jah h2) (by simp)];simp[putD];refine⟨(x2.trans (.new S2 [dnO dn])).set (Ai _) _,S1.length,by lia,S2.length,by lia,Jaq (Jah h2),?_,?_⟩
 ·rw[Au (by lia)];exact Jah u2
 ·rw[Au (by lia)];exact Jad
end
structure Rl where
 a:Int
 b:Int
 c:Int
noncomputable def rlD(r:Rl):D:=.tup [.int r.a,.int r.b,.int r.c]
structure RlOk(r:Rl):Prop where
 a:0<=r.a/\r.a<=10^40
 b:1<=r.b/\r.b<=1000
noncomputable def Vb(r:Rl)(h:Int):Int:=r.a/2^(min 200 ((h-1)/r.b).toNat)
structure Bk where
 x:Int
 y:Int
 z:Int
 ds:List Dd
noncomputable def bkD(b:Bk):D:=.tup [.int b.x,.int b.y,.int b.z,.tup (b.ds.map ddD)]
structure BkOk(ds:List Dd):Prop where
 ok:∀d∈ds,Wj d
 l:ds.length<=20
 mr:∀i d,ds[i]? =some d->(d.ins=[]↔i=0)
 ne:0<ds.length
noncomputable def goP(h w:Int):Nat->Cs->List Int->Int->List Dd->Option (Nat×String)×Cs×List Int×Int
 |_,c,dn,f,[]=>(none,c,dn,f)
 |j,c,dn,f,d::ds=>match Vf c dn d h with
  |some x=>(some (j,x),c,dn,f)
  |none=>goP h w (j+1) (Xe c d h (if j=0 then h+w else h)) (dn++[d.n]) (f+Xq c d) ds
noncomputable def first(ds:List Dd):Int:=match ds with
 |[]=>0
 |d::_=>worth d
noncomputable def bfP(r:Rl)(h:Int)(c:Cs)(dn:List Int)(ds:List Dd):Option (Nat×String):=match(goP h r.c 0 c dn 0 ds).1 with
 |some x=>some x
 |none=>if Vb r h+(goP h r.c 0 c dn 0 ds).2.2.2<first ds then some (0,"much")else none
@[simp]noncomputable def bwD:Option (Nat×String)->D
 |none=>.non
 |some (j,x)=>.tup [.int j,.str x]
section
variable {W n:Nat} {S S':Store} {L u q:Nat} {c:Cs} {dn:List Int} {ps:List Nat} {d:Dd} {h f:Int} {r:Rl} {b:Bk}
@[simp]theorem J0w:Jao (rlD r) (.int 0) S=.ok (.int r.a) S:=Jbm
@[simp]theorem J0v:Jao (rlD r) (.int 1) S=.ok (.int r.b) S:=Jdx
@[simp]theorem J0u:Jao (rlD r) (.int 2) S=.ok (.int r.c) S:=Jje
@[simp]theorem J05:Jao (bkD b) (.int 3) S=.ok (.tup (b.ds.map ddD)) S:=Jot
def Jep{a:Int}{x y:Nat}(h0:0<=a)(h1:a<2^x)(h2:x<=y):a/2^y=0:=by
 refine Int.ediv_eq_zero_of_lt h0 (Ll h1 ?_)
 exact_mod_cast Nat.pow_le_pow_right (by decide:0<2) h2
def Jtz(h0:0<=a):a<2^Bx a:=by
 unfold Bx;split
 ·rename_i e;simp at e;subst e;decide
 ·have:=Nat.lt_log2_self (n:=a.natAbs);have e:((a.natAbs:Nat):Int)=a:=Qa h0;rw[<-e];simp only[Int.natAbs_natCast]
  exact_mod_cast this
def Jtf(g:RlOk r):r.a/2^(min ((h-1)/r.b).toNat (Bx r.a))=Vb r h:=by
 unfold Vb;have h1:=Jtz g.a.1;have h2:r.a<2^200:=Io g.a.2 (by decide);generalize((h-1)/r.b).toNat=t;generalize Bx r.a=B at h1
 by_cases ht:200<t
 ·rw[show min 200 t=200 by lia,Jep g.a.1 h2 (Ai _)]
  by_cases hB:B<=t
  ·rw[show min t B=B by lia];exact Jep g.a.1 h1 (Ai _)
  ·rw[show min t B=t by lia];exact Jep g.a.1 h2 (by lia)
 ·rw[show min 200 t=t by lia]
  by_cases hB:B<=t
  ·rw[show min t B=B by lia,Jep g.a.1 h1 (Ai _),Jep g.a.1 h1 hB]
  ·rw[show min t B=t by lia]
def gift(g:RlOk r)(hh:1<=h):callN T G W (n+1) "gift" [rlD r,.int h] S=.ok (.int (Vb r h)) S:=by
 rw[Jab Jpp rfl];have hb:=g.b;have h0:0<=(h-1)/r.b:=M6 (by lia) (by lia);rw[<-Jtf g];simp[Jmn,Jaw (S:=S) (i:=h-1) (j:=r.b) (by lia) (by lia)];generalize(h-1)/r.b=t at h0;rw[show(if t<0 then 0 else t)=t from if_neg (by lia)]
 by_cases hB:((Bx r.a:Nat):Int)<t
 ·rw[if_pos hB,Jes (by lia)];simp;rw[show min t.toNat (Bx r.a)=Bx r.a by lia]
 ·rw[if_neg hB,Jes h0];simp;rw[show min t.toNat (Bx r.a)=t.toNat by lia]
def free_from:callN T G W (n+2) "free_from" [ddD d,.int h,rlD r] S=.ok (.int (if d.ins=[]then h+r.c else h)) S:=by
 rw[Jab Jgn rfl];have e5:=is_maker (W:=W) (n:=n) (S:=S) (d:=d)
 by_cases hm:d.ins=[]<;>simp[Jcl,e5,hm]
def IMk(S:Store)(ds:List Dd)(i:Nat)(acc:List D)(S':Store):Prop:=Ext S S'/\acc=((ds.take i).filter λd=>decide (d.ins=[])).map λd=>D.int (worth d)
theorem Jwa{ds:List Dd}(g:BkOk ds):((ds.filter λd=>decide (d.ins=[])).map worth).sum=first ds:=by
 cases ds with
 |nil=>exact absurd g.ne (by simp)
 |cons d r=>
  have h0:=(g.mr 0 d rfl).mpr rfl;have hr:r.filter (λd=>decide (d.ins=[]))=[]:=by
   rw[Oz];intro x hx;obtain⟨i,hi,e⟩:=C2.mp hx;have:=g.mr (i+1) x (by rw[Bu,Ag hi,e]);simp;intro z;have:=this.mp z
   lia
  rw[E7,if_pos (by simp[h0]),hr];simp[first]
def worth_of_makers(g:BkOk b.ds):∃S',callN T G W (n+2) "worth_of_makers" [bkD b] S=.ok (.int (first b.ds)) S'/\Ext S S':=by
 rw[Jab Jct rfl];refine Sat.to ?_;simp[Ja3];have hl:=g.l;obtain⟨d,S1,e,ys,S0,⟨x0,rfl⟩,rfl,rfl⟩:=comp (C:=Cn T G W (n+1)) (g:=none) (S:=S) (Z:=[some (bkD b)]) (k:=1) (keep:=[]) (tg:=.tvar 0) (cd:=.cns (.call "is_maker" (.cns (.var 0) .nul)) .nul) (el:=.call "worth_of" (.cns (.var 0) .nul)) (ds:=b.ds.map ddD) (IMk S b.ds) (by rw[Ah];unfold Line;lia) ⟨.refl _,by simp⟩
  (λi acc S1 ⟨_,h1⟩=>⟨by rw[h1,Ah];exact Bw (J1 _ _) (by simp;lia),rfl⟩)
  (λi acc S1 hi ⟨x1,h1⟩=>by
   have hx:i<b.ds.length:=by simpa using hi
   refine⟨ddD b.ds[i],by simp[nth,hx],?_⟩;have e5:=is_maker (W:=W) (n:=n) (S:=S1) (d:=b.ds[i]);have e6:=worth_of (W:=W) (n:=n) (S:=S1) (g.ok _ (Hb hx)).o;rw[Jaj]
   by_cases hm:b.ds[i].ins=[]
   ·simp[U2,e5,hm,e6];refine⟨x1.trans (.new _ _),?_⟩;rw[h1,D2,Ag hx,Qn,Es];congr 1;simp[hm]
   ·simp[U2,e5,hm];refine⟨x1,?_⟩;rw[h1,D2,Ag hx,Qn,Es];simp[hm])
 rw[e];simp only[Res.bind_ok,Vp,Vs,Va];rw[Jbu,Ah,Ha,Jwa g];simp;exact x0.trans (.new _ _)
theorem Jf6:∀{xs:List D} {k i:Nat},(enD k xs)[i]? =(xs[i]?).map λx=>.tup [.int ((k+i:Nat):Int),x]
 |[],k,i=>by simp[enD]
 |x::xs,k,0=>by simp[enD]
 |x::xs,k,i+1=>by
  rw[enD,Bu,Bu,Jf6,show k+1+i=k+(i+1) by lia]
theorem enD_len:∀{xs:List D} {k:Nat},(enD k xs).length=xs.length
 |[],k=>rfl
 |x::xs,k=>by simp[enD,enD_len]
inductive IBf (S:Store) (L0:Nat) (L u q:Nat) (r:Rl) (h:Int) (b:Bk) (z:Option (Nat×String)×Cs×List Int×Int) (i:Nat) (Z:En) (S':Store):Prop
 |mk (c dn f v0 v1 v2) (_:Z=[some (.loc L0),some (bkD b),some (.int h),some (rlD r),some (.loc L),some (.int f),v0,v1,v2]) (_:Ext S S') (_:Hd S' L u q c dn) (_:Gc c) (_:Gd dn) (_:z=goP h r.c i c dn f (b.ds.drop i)):IBf S L0 L u q r h b z i Z S'
def RBf(S:Store)(z:Option (Nat×String)×Cs×List Int×Int)(d:D)(S':Store):Prop:=Ext S S'/\∃x,z.1=some x/\d=bwD (some x)
def block_fault(a:Hd S L u q c dn)(g:Gc c)(gd:Gd dn)(gr:RlOk r)(gb:BkOk b.ds)(hh:1<=h):∃S',callN T G W (n+8) "block_fault" [.loc L,bkD b,.int h,rlD r] S=.ok (bwD (bfP r h c dn b.ds)) S'/\Ext S S':=by
 rw[Jab Jex rfl];refine Sat.to ?_;obtain⟨S1,u1,q1,e1,x1,hu1,hq1,a1⟩:=copied (W:=W) (n:=n+5) a g;simp[Jbo,a.rc (m:="copied"),e1];unfold bfP;generalize hz:goP h r.c 0 c dn 0 b.ds=z;refine Sat.p2 (loop (IBf S L S.length u1 q1 r h b z) (RBf S z) ⟨c,dn,0,none,none,none,rfl,x1,a1,g,gd,by rw[<-hz];rfl⟩ ?_) ?_
 ·rintro i y _ S2 hd0 ⟨c2,dn2,f2,v0,v1,v2,rfl,x2,a2,g2,gd2,hz2⟩;rw[Jf6,Ao]at hd0;obtain⟨y',hy,rfl⟩:=Ak.mp hd0;obtain⟨d,hd,rfl⟩:=Ak.mp hy;have hi:i<b.ds.length:=(Ae.mp hd).1;have dk:=gb.ok d (Ba hd);rw[Cg hi,(Ae.mp hd).2,goP]at hz2;obtain⟨S3,e3,x3⟩:=fault (W:=W) (n:=n+1) (h:=h) a2 g2 dk;have a3:=a2.ext x3;rw[Jas];simp[a2.rc (m:="fault"),e3];cases hw:Vf c2 dn2 d h with
  |some w=>
   rw[hw]at hz2;simp;rw[if_pos (by decide)];simp;exact⟨x2.trans x3,(i,w),by rw[hz2],rfl⟩
  |none=>
   rw[hw]at hz2;obtain⟨hn,hdst,hv⟩:=Jb6 hw;obtain⟨S4,e4,x4⟩:=fee (W:=W) (n:=n+4) a3 dk hv;have a4:=a3.ext x4;have e5:=free_from (W:=W) (n:=n+5) (S:=S4) (d:=d) (h:=h) (r:=r);obtain⟨v,S5,e6,k5,a5⟩:=Jxe (W:=W) (n:=n) (f:=if d.ins=[]then h+r.c else h) a4 g2 gd2 dk hw;simp[a3.rc (m:="fee"),e4,a4.rc (m:="do"),e5,e6];refine⟨_,_,_,_,_,_,rfl,((x2.trans x3).trans x4).keep k5 (by simp;lia),a5,?_,gd2.add hn dk.n,?_⟩
   ·exact g2.putO dk _
   ·rw[hz2];dsimp only;have:=gb.mr i d hd
    by_cases h0:i=0
    ·rw[if_pos h0,if_pos (this.mpr h0)]
    ·rw[if_neg h0,if_neg (λz=>h0 (this.mp z))]
 ·intro fl S2 hf;rcases hf.nr with⟨_,rfl,c2,dn2,f2,v0,v1,v2,rfl,x2,a2,g2,gd2,hz2⟩|⟨y,rfl,x2,w,hw,rfl⟩
  ·rw[enD_len,Ah,Hc,goP]at hz2;obtain⟨S3,e3,x3⟩:=worth_of_makers (W:=W) (n:=n+5) (S:=S2) gb;have e4:=gift (W:=W) (n:=n+6) (S:=S3) gr hh;subst hz2;simp[e3,e4]
   by_cases hm:Vb r h+f2<first b.ds
   ·simp[hm];rw[if_pos (by decide)];simp;exact x2.trans x3
   ·simp[hm];exact x2.trans x3
  ·simp[hw];exact x2
inductive IDb (S:Store) (L u q:Nat) (r:Rl) (h:Int) (b:Bk) (z:Option (Nat×String)×Cs×List Int×Int) (i:Nat) (acc:List D) (S':Store):Prop
 |mk (_:acc.length=i) (_:Keep [u,q] S S') (_:∃c dn f,Hd S' L u q c dn/\Gc c/\Gd dn/\z=goP h r.c i c dn f (b.ds.drop i)):IDb S L u q r h b z i acc S'
def do_block(a:Hd S L u q c dn)(g:Gc c)(gd:Gd dn)(gr:RlOk r)(gb:BkOk b.ds)(hh:1<=h)(hf:bfP r h c dn b.ds=none):
  Sat (callN T G W (n+9) "do_block" [.loc L,bkD b,.int h,rlD r] S) λd S'=>(∃x ys,d=.loc x/\S'[x]? =some (.lst ys)/\ys.length=b.ds.length)/\Keep [u,q] S S'/\Hd S' L u q (goP h r.c 0 c dn 0 b.ds).2.1 (goP h r.c 0 c dn 0 b.ds).2.2.1/\Gc (goP h r.c 0 c dn 0 b.ds).2.1/\Gd (goP h r.c 0 c dn 0 b.ds).2.2.1:=by
 rw[Jab Jh5 rfl];obtain⟨S1,e1,x1⟩:=block_fault (W:=W) (n:=n) a g gd gr gb hh;rw[hf]at e1;simp[Jdi,e1];have a1:=a.ext x1;have hz1:(goP h r.c 0 c dn 0 b.ds).1=none:=by
  unfold bfP at hf;split at hf
  ·cases hf
  ·assumption
 generalize hz:goP h r.c 0 c dn 0 b.ds=z at hz1;have hl:=gb.l;have cc:=comp (C:=Cn T G W (n+8)) (g:=none) (S:=S1) (Z:=[some (.loc L),some (bkD b),some (.int h),some (rlD r),some (bwD none)]) (k:=1) (keep:=[2,0,3]) (tg:=.tvar 0) (cd:=.nul) (el:=(.mcl "Hoard" "do" "Hoard.do" (.var 2) (.cns (.var 0) (.cns (.var 1) (.cns (.call "free_from" (.cns (.var 0) (.cns (.var 1) (.cns (.var 3) .nul)))) .nul))))) (ds:=b.ds.map ddD) (IDb S L u q r h b z) (by rw[Ah];unfold Line;lia) ⟨by simp,.ext x1,c,dn,0,a1,g,gd,by rw[<-hz];rfl⟩
  (λi acc S1 h1=>⟨L6 h1.1,rfl⟩)
  (λi acc S2 hi ⟨hacc,k2,c2,dn2,f2,a2,g2,gd2,hz2⟩=>by
   have hx:i<b.ds.length:=by simpa using hi
   have hd:b.ds[i]? =some b.ds[i]:=Ag hx;refine⟨ddD b.ds[i],by simp[nth,hx],?_⟩;generalize b.ds[i]=d at hd;have dk:=gb.ok d (Ba hd);rw[Cg hx,(Ae.mp hd).2,goP]at hz2;have hw:Vf c2 dn2 d h=none:=by
    cases hw:Vf c2 dn2 d h with
    |none=>rfl
    |some w=>rw[hw]at hz2;rw[hz2]at hz1;cases hz1
   rw[hw]at hz2;obtain⟨hn,hdst,hv⟩:=Jb6 hw;have e5:=free_from (W:=W) (n:=n+6) (S:=S2) (d:=d) (h:=h) (r:=r);obtain⟨v,S5,e6,k5,a5⟩:=Jxe (W:=W) (n:=n+1) (f:=if d.ins=[]then h+r.c else h) a2 g2 gd2 dk hw;rw[Jaj];simp[U2,a2.rc (m:="do"),e5,e6];refine⟨by simp;exact hacc,k2.trans k5,_,_,f2+Xq c2 d,a5,g2.putO dk _,gd2.add hn dk.n,hz2.trans ?_⟩;dsimp only;have:=gb.mr i d hd
   by_cases h0:i=0
   ·rw[if_pos h0,if_pos (this.mpr h0)]
   ·rw[if_neg h0,if_neg (λz=>h0 (this.mp z))])
 obtain⟨d,S2,e,ys,S0,⟨ha,k0,c2,dn2,f2,a2,g2,gd2,hz2⟩,rfl,rfl⟩:=cc;simp only[bwD]at e;rw[e];rw[Ah,Hc,goP]at hz2;subst hz2;simp;exact⟨by simpa using ha,k0.trans (.new _),a2.ext (.new _ _),g2,gd2⟩
def held(a:Hd S L u q c dn)(g:Gc c)(hu:upB ((cp c).map (·.1))=true):callN T G W (n+1) "Hoard.held" [.loc L] S=.ok (.loc S.length) (S++[csO c]):=by
 rw[Jab Je5 rfl];simp[Jb0,a.fu,Jo5 a.u hu (by rw[Ah];have:=g.len;unfold Line;lia)]
noncomputable def hdD:D->D
 |.tup (x::_)=>x
 |_=>.non
def Jut(hx:S[l]? =some (csO c))(g:Gc c){b:Bool}{keep:List Nat}{el:M}{C:Pr}{Z:En}(ht:∀p∈cp c,Vo C (.tvar 0) .nul el (dwI b p) (U2 1 keep Z) (S.set l (.fz (cp c)))=.ok (some (hdD p.2)) (S.set l (.fz (cp c)))):
  Yu C b keep (.tvar 0) el Z (.loc l) S=.ok (.loc S.length) (S++[pl (c.map (·.2.w))]):=by
 rw[Js7 (λp=>hdD p.2) hx (by rw[Ah];have:=g.len;lia) ht];simp[pl,kpD,hdD]
def total(a:Hd S L u q c dn)(g:Gc c):callN T G W (n+1) "Hoard.total" [.loc L] S=.ok (.int (c.map (·.2.w)).sum) (S++[pl (c.map (·.2.w))]):=by
 rw[Jab Jey rfl];have e:=Jut (C:=Cn T G W n) (b:=true) (keep:=[]) (el:=.idx (.var 0) (.glb "WORTH")) (Z:=[some (.loc L)]) a.u g λp hp=>by
  obtain⟨z,_,rfl⟩:=Bd.mp hp;simp[Jaj,U2,dwI,kpD,hdD]
 simp[Jbp,a.fu,e,Jdn]
theorem Jfh{ds:List D}:cop .ne (.tup ds) (.tup []) S=some (!ds.isEmpty):=by
 cases ds<;>rfl
def Jv5(hu:S[u]? =some (csO c)):cop .nin (dK k) (.loc u) S=some (!(dVal c k).isSome):=by
 rw[Jpf hu,Jba,Ep]
def Jwx(hu:S[u]? =some (csO c)):cop .inn (dK k) (.loc u) S=some (dVal c k).isSome:=by
 rw[Jts hu,Jba,Ep]
def Jjg(hu:S[u]? =some (csO c))(hv:dVal c k=some v):Jao (.loc u) (dK k) S=.ok (kpD v) S:=Jf0 hu (by rw[Jba,hv];rfl)
inductive IWd (S:Store) (u q l:Nat) (c:Cs) (d:Dd) (h:Int) (i:Nat) (Z:En) (S':Store):Prop
 |mk (a0 a1 a2 a3 a4 a5 a6 a7 a8) (_:Z=[some (.loc u),some (.loc q),some (ddD d),some (.int h),some (.int d.n),some (.tup (d.ins.map inD)),some (.tup (d.outs.map ouD)),some (.loc l),a0,a1,a2,a3,a4,a5,a6,a7,a8]) (_:Ext S S') (_:d.ins.findSome? (inW c d h)=(d.ins.drop i).findSome? (inW c d h)):IWd S u q l c d h i Z S'
def Jkn(hu:S[u]? =some (csO c))(hq:S[q]? =some (dnO dn))(g:Gc c)(g2:Wj d):∃S',callN T G W (n+5) "_law_word" [.loc u,.loc q,ddD d,.int h] S=.ok (wD (Vf c dn d h)) S'/\Ext S S':=by
 rw[Jab Jhv rfl];have i3:=g2.i;have eg:∀Z,evG (Cn T G W (n+4)) (.ttup (.cns (.tvar 4) (.cns (.tvar 5) (.cns (.tvar 6) .nul)))) (ddD d) Z S=evGs (Cn T G W (n+4)) (.cns (.tvar 4) (.cns (.tvar 5) (.cns (.tvar 6) .nul))) [.int d.n,.tup (d.ins.map inD),.tup (d.outs.map ouD)] Z S:=λZ=>rfl;unfold Vf
 by_cases h1:d.n∈dn
 ·simp[Jb9,eg,Jjl hq,h1];exact .refl _
 refine Sat.to ?_;simp[Jb9,eg,Jjl hq,h1];rw[Ja6 (xs:=d.ins) inD (λi=>dK i.1) (by lia) (.inl rfl) (λx _=>by simp[Jaj,U2])];have hN:(S++[Obj.lst (d.ins.map λi=>dK i.1)])[S.length]? =some (.lst ((nms d).map dK)):=by rw[Jad];simp[nms,Bp]
 have x1:=Ext.new S [Obj.lst (d.ins.map λi=>dK i.1)];generalize S++[Obj.lst (d.ins.map λi=>dK i.1)]=S1 at hN x1;have hln:(nms d).length=d.ins.length:=by simp[nms]
 have e2:=Jqi hN (by lia);have e3:=Jat hN;rw[Ah]at e3;simp[e2,e3]
 by_cases h2:dst (nms d)<(nms d).length
 ·simp[h2];exact x1
 simp[h2];refine Sat.p2 (loop (IWd S1 u q S.length c d h) (RFau S c d h) ⟨_,_,_,_,_,_,_,_,_,rfl,.refl _,by simp⟩ ?_) ?_
 ·rintro i z _ S2 hd ⟨a0,a1,a2,a3,a4,a5,a6,a7,a8,rfl,x2,hf⟩;rw[Ao]at hd;obtain⟨r,hr,rfl⟩:=Ak.mp hd;have hi:i<d.ins.length:=(Ae.mp hr).1;rw[Cg hi,(Ae.mp hr).2,P7]at hf;have hu2:=(x1.trans x2).get hu;have eg:∀Z,evG (Cn T G W (n+4)) (.ttup (.cns (.tvar 8) (.cns (.tvar 9) .nul))) (inD r) Z S2=evGs (Cn T G W (n+4)) (.cns (.tvar 8) (.cns (.tvar 9) .nul)) [dK r.1,.tup (r.2.map D.int)] Z S2:=λZ=>rfl;rw[Jas];simp[eg,Jv5 hu2];cases hv:dVal c r.1 with
  |none=>
   simp -implicitDefEqProofs [inW,hv]at hf ⊢;exact⟨"gone",hf,rfl,x1.trans x2⟩
  |some k=>
   have ek:∀Z,evG (Cn T G W (n+4)) (.ttup (.cns (.tvar 10) (.cns (.tvar 11) (.cns (.tvar 12) (.cns (.tvar 13) .nul))))) (kpD k) Z S2=evGs (Cn T G W (n+4)) (.cns (.tvar 10) (.cns (.tvar 11) (.cns (.tvar 12) (.cns (.tvar 13) .nul)))) [.int k.w,.tup (k.lk.map rD),.int k.m,.int k.f] Z S2:=λZ=>rfl;simp[Jjg hu2 hv,ek];simp only[inW,hv]at hf
   by_cases hh:h<k.f
   ·rw[if_pos hh]at hf;simp[hh];exact⟨"green",hf,rfl,x1.trans x2⟩
   ·rw[if_neg hh]at hf;simp[hh];rw[Jbk g2.o (λx _=>by simp[Jaj,U2])];simp only[Res.bind_ok,Vp,Vs,Va];rw[Jal Jad];have o1:=g.ok _ (Jc0 hv);obtain⟨bb,hb⟩:=o1.lk.2 (fx k d h) r.2;obtain⟨S3,e4,x3⟩:=Ji8 (W:=W) n (fx k d h) k.lk r.2 (S2++[pl (U9 d)]) (by have:=o1.lk.1;simp at this;lia) (by have:=g2.k r (Ba hr);lia) hb;have ea:(if k.m<h then h-k.m else 0)=if h-k.m<0 then 0 else h-k.m:=by split<;>split<;>lia
    simp only[fD,fx]at e4;rw[<-ea]at e4;simp;rw[if_pos (by decide)];simp[e4];rw[hb]at hf;cases bb with
    |false=>
     simp at hf ⊢;exact⟨"shut",hf,rfl,((x1.trans x2).trans (.new _ _)).trans x3⟩
    |true=>
     simp at hf ⊢;exact⟨_,_,_,_,_,_,_,_,_,rfl,(x2.trans (.new _ _)).trans x3,hf⟩
 ·intro fl S2 hh;rcases hh.nr with⟨_,rfl,a0,a1,a2,a3,a4,a5,a6,a7,a8,rfl,x2,hf⟩|⟨r,rfl,x,hf,rfl,x2⟩
  ·rw[Ah,Hc]at hf;have hn:=Ig.mp hf;have hv:∀i∈d.ins,∃k,dVal c i.1=some k:=λi hi=>by
    have:=hn i hi;unfold inW at this;split at this
    ·cases this
    ·exact⟨_,‹_›⟩
   rw[hf];simp;rw[Jbk g2.o (λx _=>by simp[Jaj,U2])];simp only[Res.bind_ok,Vp,Vs,Va];rw[Jdn];have x3:=(x1.trans x2).trans (.new _ [pl (U9 d)]);have hN3:=Jah (X:=[pl (U9 d)]) (x2.get hN);generalize S2++[pl (U9 d)]=S3 at x3 hN3;simp[Jfh]
   by_cases hm:d.ins=[]
   ·simp[hm];exact x3
   ·simp[hm,Ja5 hN3];have hu3:=x3.get hu;rw[Ja6 (xs:=nms d) dK (λi=>.int (wOf c i)) (by lia) (.inr ⟨_,rfl,hN3⟩) (λx hx=>by
     obtain⟨i,hi,rfl⟩:=Bd.mp hx;obtain⟨k,hk⟩:=hv i hi;simp[Jaj,U2,Jjg hu3 hk,wOf,hk])]
    have:=Jdn (S:=S3) ((nms d).map (wOf c));simp only[pl,B1,Bp]at this;simp only[Res.bind_ok,Vp,Vs,Va];rw[this];have es:((nms d).map (wOf c)).sum=spent c d:=by simp[spent,nms,Bp]
    rw[es];have ew:(U9 d).sum=worth d:=rfl
    by_cases hs:spent c d<worth d
    ·simp[hs,ew];exact x3.trans (.new _ _)
    ·simp[hs,ew];exact x3.trans (.new _ _)
  ·simp[hf];exact x2
noncomputable def sofar(c:Cs)(d:Dd)(i:Nat):Int:=((d.ins.take i).map λx=>wOf c x.1).sum
inductive ILp (S:Store) (u q:Nat) (c:Cs) (d:Dd) (h f:Int) (i:Nat) (Z:En) (S':Store):Prop
 |mk (a0 a1) (_:Z=[some (.loc u),some (.loc q),some (ddD d),some (.int h),some (.int f),some (.int (-worth d+sofar c d i)),a0,a1,none,none]) (_:Keep [u] S S') (_:S'[u]? =some (csO (dropO c d i))):ILp S u q c d h f i Z S'
inductive ILq (S:Store) (u q:Nat) (c:Cs) (d:Dd) (h f:Int) (v:D) (i:Nat) (Z:En) (S':Store):Prop
 |mk (a0 a1 a2 a3) (_:Z=[some (.loc u),some (.loc q),some (ddD d),some (.int h),some (.int f),some v,a0,a1,a2,a3]) (_:Keep [u] S S') (_:S'[u]? =some (csO (putO c d h f i))):ILq S u q c d h f v i Z S'
def Jli(hu:S[u]? =some (csO c))(hq:S[q]? =some (dnO dn))(g:Gc c)(gd:Gd dn)(g2:Wj d)(hn:d.n∉dn)(h2:¬dst (nms d)<(nms d).length)(hv:∀i∈d.ins,∃k,dVal c i.1=some k):
  ∃S',callN T G W (n+1) "_law_put" [.loc u,.loc q,ddD d,.int h,.int f] S=.ok (.int (Xq c d)) S'/\Keep [u,q] S S'/\S'[u]? =some (csO (Xe c d h f))/\S'[q]? =some (dnO (dn++[d.n])):=by
 rw[Jab Jiv rfl];have huq:u≠q:=by
  rintro rfl;have:=hu.symm.trans hq;cases this
 refine Sat.to ?_;simp[Jeo];rw[Jbk g2.o (λx _=>by simp[Jaj,U2])];simp only[Res.bind_ok,Vp,Vs,Va];rw[Jdn];have x1:=Ext.new S [pl (U9 d)];generalize S++[pl (U9 d)]=S1 at x1;have hu1:=x1.get hu;have hq1:=x1.get hq;simp;refine Sat.p2 (loop (ILp S1 u q c d h f) noR ⟨none,none,by simp[sofar];rfl,.refl,hu1⟩ ?_) ?_
 ·rintro i z _ S2 hd ⟨a0,a1,rfl,k2,hu2⟩;rw[Ao]at hd;obtain⟨x,hx,rfl⟩:=Ak.mp hd;have hi:i<d.ins.length:=(Ae.mp hx).1;obtain⟨v,hv⟩:=hv x (Ba hx);have e:=pop_at hu2 ((Jmp h2 hx).trans hv);have rr:=Zb (me:=.pop1) rfl hu2;have eg:∀Z,evG (Cn T G W n) (.ttup (.cns (.tvar 6) (.cns (.tvar 7) .nul))) (inD x) Z S2=evGs (Cn T G W n) (.cns (.tvar 6) (.cns (.tvar 7) .nul)) [dK x.1,.tup (x.2.map D.int)] Z S2:=λZ=>rfl;rw[Jas];simp[eg,e,rr];have:sofar c d (i+1)=sofar c d i+v.w:=by
   unfold sofar;rw[D2,hx,Es,List.sum_append];simp[wOf,hv]
  rw[Int.add_assoc,<-this];exact⟨_,_,rfl,k2.trans (.set (by simp)),by rw[Jaq hu2,Jmq hx]⟩
 ·intro fl S6 hh;obtain⟨_,rfl,x,y,rfl,k6,hu6⟩:=hh.nx;simp only[Ah]at hu6 ⊢;have es:sofar c d d.ins.length=spent c d:=by simp[sofar,spent]
  rw[es];simp;refine Sat.p2 (loop (ILq S6 u q c d h f (.int (-worth d+spent c d))) noR ⟨_,_,_,_,rfl,.refl,hu6⟩ ?_) ?_
  ·rintro i z _ S8 hd0 ⟨a0,a1,a2,a3,rfl,k8,hu8⟩;rw[Jf6,Ao]at hd0;obtain⟨y',hy,rfl⟩:=Ak.mp hd0;obtain⟨o,ho,rfl⟩:=Ak.mp hy;have e:=Jp8 (k:=(d.n,(i:Int))) (v:=⟨o.1,o.2,h,f⟩) hu8 (g.putO g2 i);simp only[kpD]at e;rw[Jas];simp;rw[if_pos (by decide)];simp;rw[if_pos (by decide)];simp[e];exact⟨_,_,_,_,rfl,k8.trans (.set (by simp)),by rw[Jaq hu8,Jp9 ho]⟩
  ·intro fl S9 hh;obtain⟨_,rfl,a0,a1,a2,a3,rfl,k9,hu9⟩:=hh.nx;rw[enD_len,Ah]at hu9;have hq9:=k9.get (k6.get hq1 (by simp;exact huq.symm)) (by simp;exact huq.symm);simp[Jp7 hq9 gd hn,Jfh];have kk:Keep [u,q] S (S9.set q (dnO (dn++[d.n]))):=(((Keep.ext x1).trans (k6.mono (by simp))).trans (k9.mono (by simp))).trans (.set (by simp));have hu':(S9.set q (dnO (dn++[d.n])))[u]? =some (csO (Xe c d h f)):=by rw[Au huq.symm];exact hu9
   have hq':(S9.set q (dnO (dn++[d.n])))[q]? =some (dnO (dn++[d.n])):=Jaq hq9;unfold Xq
   by_cases hm:d.ins=[]
   ·rw[Jbe (by simp[hm];rfl)];simp[hm];exact⟨kk,hu',hq'⟩
   ·rw[Jbe (by simp[hm];rfl)];simp[hm];exact⟨by lia,kk,hu',hq'⟩
inductive IGf (r:Rl) (h:Int) (S:Store) (i:Nat) (Z:En) (S':Store):Prop
 |mk (a) (_:Z=[some (rlD r),some (.int h),some (.int (r.a/2^i)),a]) (_:S'=S):IGf r h S i Z S'
def Jf3(g:RlOk r)(hh:1<=h):callN T G W (n+1) "_law_gift" [rlD r,.int h] S=.ok (.int (Vb r h)) S:=by
 suffices hs:∃S',callN T G W (n+1) "_law_gift" [rlD r,.int h] S=.ok (.int (Vb r h)) S'/\S'=S by
  obtain⟨S',e,rfl⟩:=hs;exact e
 rw[Jab Jh0 rfl];refine Sat.to ?_;have hb:=g.b;have h0:0<=(h-1)/r.b:=M6 (by lia) (by lia);have e1:=Jaw (S:=S) (i:=h-1) (j:=r.b) (by lia) (by lia);unfold Vb;generalize(h-1)/r.b=t at h0 e1;simp[Jde,e1];obtain⟨k,hk,ek⟩:∃k:Nat,(if t<200 then t else 200)=(k:Int)/\k=min 200 t.toNat:=⟨min 200 t.toNat,by split<;>lia,rfl⟩
 rw[hk,Jc6 (by lia) (by lia)];simp;refine Sat.p2 (loop (IGf r h S) noR ⟨none,by simp,rfl⟩ ?_) ?_
 ·rintro i z _ S2 hd ⟨a,rfl,rfl⟩;rw[Ao]at hd;obtain⟨x,hx,rfl⟩:=Ak.mp hd;rw[Jas];have e2:=Jaw (S:=S2) (i:=r.a/2^i) (j:=2) (by decide) (by decide);simp[e2];refine⟨some (.int x),?_,rfl⟩;rw[Int.pow_succ,Int.ediv_ediv_of_nonneg (T9 (by decide))]
 ·intro fl S2 hf;obtain⟨_,rfl,a,rfl,rfl⟩:=hf.nx;simp[ek]
inductive IDn (S:Store) (L u:Nat) (r:Rl) (h:Int) (b:Bk) (z:Option (Nat×String)×Cs×List Int×Int) (i:Nat) (Z:En) (S':Store):Prop
 |mk (c dn f v0 v1 v2) (_:Z=[some (.loc L),some (.loc u),some (bkD b),some (.int h),some (rlD r),some (.int f),v0,v1,v2]) (_:Ext S S') (_:S'[L]? =some (csO c)) (_:S'[u]? =some (dnO dn)) (_:Gc c) (_:Gd dn) (_:z=goP h r.c i c dn f (b.ds.drop i)):IDn S L u r h b z i Z S'
def RDn(S:Store)(u q:Nat)(z:Option (Nat×String)×Cs×List Int×Int)(d:D)(S':Store):Prop:=Ext S S'/\∃x,z.1=some x/\d=.tup [bwD (some x),.loc u,.loc q,.int 0]
def Jmr(hu:S[u]? =some (csO c))(hq:S[q]? =some (dnO dn))(g:Gc c)(gd:Gd dn)(gr:RlOk r)(gb:BkOk b.ds)(hh:1<=h):∃f S',callN T G W (n+6) "_law_done" [.loc u,.loc q,bkD b,.int h,rlD r] S=.ok (.tup [bwD (bfP r h c dn b.ds),.loc S.length,.loc (S.length+1),.int f]) S'/\Ext S S'/\
  (bfP r h c dn b.ds=none->S'[S.length]? =some (csO (goP h r.c 0 c dn 0 b.ds).2.1)/\S'[S.length+1]? =some (dnO (goP h r.c 0 c dn 0 b.ds).2.2.1)):=by
 rw[Jab Jh1 rfl]
 suffices hs:Sat ((evB (Cn T G W (n+5)) Vi.body (Nd some [.loc u,.loc q,bkD b,.int h,rlD r]++E5 (Vi.N.length-[D.loc u,.loc q,bkD b,.int h,rlD r].length) none) S).bind Xf) λd S'=>∃f,d=.tup [bwD (bfP r h c dn b.ds),.loc S.length,.loc (S.length+1),.int f]/\Ext S S'/\(bfP r h c dn b.ds=none->S'[S.length]? =some (csO (goP h r.c 0 c dn 0 b.ds).2.1)/\S'[S.length+1]? =some (dnO (goP h r.c 0 c dn 0 b.ds).2.2.1)) by
  obtain⟨d,S',e,f,rfl,x,p⟩:=hs;exact⟨f,S',e,x,p⟩
 have hq1:=Jah (X:=[csO c]) hq;have e2:=Jga hq1;simp[Vi,Jf9 hu g.apt];simp at e2;simp[e2];unfold bfP;generalize hz:goP h r.c 0 c dn 0 b.ds=z;obtain⟨d0,rs,hds⟩:∃d0 rs,b.ds=d0::rs:=by
  cases hds:b.ds with
  |nil=>have:=gb.ne;rw[hds]at this;cases this
  |cons d0 rs=>exact⟨d0,rs,rfl⟩
 refine Sat.p2 (loop (IDn S S.length (S.length+1) r h b z) (RDn S S.length (S.length+1) z) ⟨c,dn,0,none,none,none,rfl,.new _ _,Jav,Jc4,g,gd,by rw[<-hz];rfl⟩ ?_) ?_
 ·rintro i y _ S2 hd0 ⟨c2,dn2,f2,v0,v1,v2,rfl,x2,hu2,hq2,g2,gd2,hz2⟩;rw[Jf6,Ao]at hd0;obtain⟨y',hy,rfl⟩:=Ak.mp hd0;obtain⟨d,hd,rfl⟩:=Ak.mp hy;have hi:i<b.ds.length:=(Ae.mp hd).1;have dk:=gb.ok d (Ba hd);rw[Cg hi,(Ae.mp hd).2,goP]at hz2;obtain⟨S3,e3,x3⟩:=Jkn (W:=W) (n:=n) (h:=h) hu2 hq2 g2 dk;rw[Jas];simp[e3];cases hw:Vf c2 dn2 d h with
  |some w=>
   rw[hw]at hz2;simp;rw[if_pos (by decide)];simp;rw[if_pos (by decide)];simp;exact⟨x2.trans x3,(i,w),by rw[hz2],rfl⟩
  |none=>
   rw[hw]at hz2;obtain⟨hn,hdst,hv⟩:=Jb6 hw;obtain⟨S5,e6,k5,hu5,hq5⟩:=Jli (W:=W) (n:=n+4) (h:=h) (f:=if i=0 then h+r.c else h) (x3.get hu2) (x3.get hq2) g2 gd2 dk hn hdst hv;simp;rw[Jbe (by split<;>rfl)];have ef:h+r.c*(if i=0 then 1 else 0)=if i=0 then h+r.c else h:=by split<;>simp
   simp only[Res.bind_ok,Xp,Jcr,ef,Vp,Va,Vs,Yl,Jt8];simp[e6];refine⟨_,_,_,_,_,_,rfl,(x2.trans x3).keep k5 (by simp),hu5,hq5,?_,gd2.add hn dk.n,hz2⟩;exact g2.putO dk _
 ·intro fl S2 hf;rcases hf.nr with⟨_,rfl,c2,dn2,f2,v0,v1,v2,rfl,x2,hu2,hq2,g2,gd2,hz2⟩|⟨y,rfl,x2,w,hw,rfl⟩
  ·rw[enD_len,Ah,Hc,goP]at hz2;have e0:Jao (.tup (b.ds.map ddD)) (.int 0) S2=.ok (ddD d0) S2:=by rw[hds];exact Jbm
   have d0k:=gb.ok d0 (by rw[hds];simp);have ef:first b.ds=worth d0:=by rw[hds];rfl
   simp[e0];rw[Jbk d0k.o (λx _=>by simp[Jaj,U2])];simp only[Res.bind_ok,Vp,Vs,Va];rw[Jdn,show(U9 d0).sum=worth d0 from rfl];have e4:=Jf3 (W:=W) (n:=n+4) (S:=S2++[pl (U9 d0)]) gr hh;subst hz2;simp[e4];rw[ef]
   by_cases hm:Vb r h+f2<worth d0
   ·simp[hm];rw[if_pos (by decide)];simp;rw[if_pos (by decide)];simp;exact⟨x2.trans (.new _ _),λ_=>⟨Jah hu2,Jah hq2⟩⟩
   ·simp[hm];rw[if_pos (by decide)];simp;exact⟨x2.trans (.new _ _),λ_=>⟨Jah hu2,Jah hq2⟩⟩
  ·simp[hw];exact x2
end
section
variable {α0 α1 α2 α3 α4 α5 α6:Type} {r:Res α0} {f1:α0->Store->Res α1} {f2:α1->Store->Res α2} {f3:α2->Store->Res α3} {f4:α3->Store->Res α4} {f5:α4->Store->Res α5} {f6:α5->Store->Res α6} {Q:α0->Store->Prop}
def p5{P:α5->Store->Prop}(h:Sat r Q)(k:∀a S,Q a S->Sat (((((f1 a S).bind f2).bind f3).bind f4).bind f5) P):Sat (((((r.bind f1).bind f2).bind f3).bind f4).bind f5) P:=by
 obtain⟨a,S,rfl,h⟩:=h;exact k a S h
def p6{P:α6->Store->Prop}(h:Sat r Q)(k:∀a S,Q a S->Sat ((((((f1 a S).bind f2).bind f3).bind f4).bind f5).bind f6) P):Sat ((((((r.bind f1).bind f2).bind f3).bind f4).bind f5).bind f6) P:=by
 obtain⟨a,S,rfl,h⟩:=h;exact k a S h
end
section
variable {W n:Nat} {S S':Store} {l L u q:Nat} {c:Cs} {dn:List Int} {ps:List Nat} {d:Dd} {h f m:Int} {r:Rl} {b:Bk} {ds:List D}
inductive Stm (S:Store) (l:Nat):Prop
 |mk (a e s) (_:S[l]? =some (.lst [.int a,.bl e,.int s])):Stm S l
theorem Jgu(hs:Stm S l)(h0:0<m)(h1:m<2^250):∃x S',callN T G W (n+1) "_law_take" [.loc l,.int m] S=.ok (.int x) S'/\Keep [l] S S'/\Stm S' l/\0<=x/\x<m:=by
 obtain⟨a,e,s,hl⟩:=hs;rw[Jab Jhw rfl];have i0:∀S a e s,S[l]? =some (Obj.lst [.int a,.bl e,.int s])->Jao (.loc l) (.int 0) S=.ok (.int a) S:=λS a e s h=>Jau h (at0 (k:=0) rfl);have i2:∀S a e s,S[l]? =some (Obj.lst [.int a,.bl e,.int s])->Jao (.loc l) (.int 2) S=.ok (.int s) S:=λS a e s h=>Jau h (at0 (k:=2) rfl);have t1:∀S a e s,S[l]? =some (Obj.lst [.int a,.bl e,.int s])->Jq5 (.loc l) (.int 1) S=.ok e S:=λS a e s h=>by simp only[Jq5];rw[show idxD (.loc l) (.int 1) S=some (.bl e)from Jmg h (at0 (k:=1) rfl)];rfl
 have s0:∀S a e s v,S[l]? =some (Obj.lst [.int a,.bl e,.int s])->Vu (.loc l) (.int 0) v S=.ok () (S.set l (.lst [v,.bl e,.int s])):=λS a e s v h=>Jh9 h (k:=0) rfl;have s1:∀S a e s v,S[l]? =some (Obj.lst [.int a,.bl e,.int s])->Vu (.loc l) (.int 1) v S=.ok () (S.set l (.lst [.int a,v,.int s])):=λS a e s v h=>Jh9 h (k:=1) rfl;have sg:∀o,(S.set l o)[l]? =some o:=λo=>Jaq hl;have fin:∀x,0<=x%m/\x%m<m:=λx=>⟨Ta _ (by omega),Q8 _ h0⟩
 cases e with
 |true=>
  by_cases ha:1<a
  ·simp[Jbj,t1 _ _ _ _ hl,i0 _ _ _ _ hl,ha,Jai h0,Jaw h0 h1,s0 _ _ _ _ _ hl];exact⟨a%m,_,⟨rfl,rfl⟩,.set (by simp),⟨_,_,_,sg _⟩,fin _⟩
  ·simp[Jbj,t1 _ _ _ _ hl,i0 _ _ _ _ hl,i2 _ _ _ _ hl,ha,s0 _ _ _ _ _ hl];simp[s1 _ _ _ _ _ (sg (.lst [.int s,.bl true,.int s]))];simp[i0 _ _ _ _ (sg (.lst [.int s,.bl false,.int s]))];rw[Jbe (by rfl)];simp[Jai (S:=S.set l (.lst [.int s,.bl false,.int s])) (i:=s*48271+11) (j:=2147483629) (by decide),s0 _ _ _ _ _ (sg (.lst [.int s,.bl false,.int s]))];simp[i0 _ _ _ _ (sg (.lst [.int ((s*48271+11)%2147483629),.bl false,.int s])),Jaw (show(0:Int)<7 by decide) (by decide),Jai h0];exact⟨_,_,⟨rfl,rfl⟩,.set (by simp),⟨_,_,_,sg _⟩,fin _⟩
 |false=>
  simp[Jbj,t1 _ _ _ _ hl,i0 _ _ _ _ hl];rw[Jbe (by rfl)];simp[Jai (S:=S) (i:=a*48271+11) (j:=2147483629) (by decide),s0 _ _ _ _ _ hl];simp[i0 _ _ _ _ (sg (.lst [.int ((a*48271+11)%2147483629),.bl false,.int s])),Jaw (show(0:Int)<7 by decide) (by decide),Jai h0];exact⟨_,_,⟨rfl,rfl⟩,.set (by simp),⟨_,_,_,sg _⟩,fin _⟩
inductive Tkn (W n:Nat) (S:Store) (l:Nat) (m:Int):Prop
 |mk (x:Int) (S':Store) (_:callN T G W (n+1) "_law_take" [.loc l,.int m] S=.ok (.int x) S') (_:Keep [l] S S') (_:Stm S' l) (_:0<=x/\x<m):Tkn W n S l m
def Jag(hs:Stm S l)(h0:0<m)(h1:m<2^250):Tkn W n S l m:=by
 obtain⟨x,S',a,b,c,d⟩:=Jgu (W:=W) (n:=n) hs h0 h1;exact⟨x,S',a,b,c,d⟩
noncomputable def dOk:List Rw->Nat->Bool
 |[],_=>true
 |.iff::r,k=>dOk r (k+1)
 |.els::r,k=>decide (0<k)&&dOk r k
 |.fin::r,k=>decide (0<k)&&dOk r (k-1)
 |_::r,k=>dOk r k
theorem runs:∀{lk:List Rw} {p:List Int} {st:List Pt},dOk lk st.length=true->∃e,runP F lk p st=some e
 |[],p,st,_=>⟨_,rfl⟩
 |r::rs,p,st,hd=>by
  have pl:∀z:Bool×List Int×List Pt,dOk rs z.2.2.length=true->U7 F p st r=some z->∃e,runP F (r::rs) p st=some e:=λz hz e=>by
   obtain⟨z1,z2,z3⟩:=z;simp only[runP,e];cases z1 with
   |false=>exact⟨false,rfl⟩
   |true=>exact runs hz
  cases r with
  |iff=>
   cases hs:Vw st with
   |false=>exact pl (true,p,(false,false)::st) hd (by simp[U7,V0,Vt,hs])
   |true=>
    by_cases hp:p=[]
    ·refine⟨false,?_⟩;simp[runP,U7,V0,Vt,hs,hp]
    ·exact pl (true,p.dropLast,(decide (p.getLastD 0≠0),decide (p.getLastD 0=0))::st) hd (by simp[U7,V0,Vt,hs,hp])
  |els=>
   simp only[dOk,Al,decide_eq_true_eq]at hd;cases st with
   |nil=>exact absurd hd.1 (by simp)
   |cons x s=>exact pl (true,p,(x.2,false)::s) hd.2 (by simp[U7,V0,Vt])
  |fin=>
   simp only[dOk,Al,decide_eq_true_eq]at hd;cases st with
   |nil=>exact absurd hd.1 (by simp)
   |cons x s=>exact pl (true,p,s) hd.2 (by simp[U7,V0,Vt])
  |push x=>
   cases hs:Vw st with
   |false=>exact pl (true,p,st) hd (by simp[U7,V0,hs])
   |true=>exact pl (_,_,st) hd (by simp[U7,V0,hs];exact⟨rfl,rfl⟩)
  |paid x=>
   cases hs:Vw st with
   |false=>exact pl (true,p,st) hd (by simp[U7,V0,hs])
   |true=>exact pl (_,_,st) hd (by simp[U7,V0,hs];exact⟨rfl,rfl⟩)
  |w x=>
   cases hs:Vw st with
   |false=>exact pl (true,p,st) hd (by simp[U7,V0,hs])
   |true=>exact pl (_,_,st) hd (by simp[U7,V0,hs];exact⟨rfl,rfl⟩)
def Xc.of{lk:List Rw}(h1:lk.length<=6)(h2:dOk lk 0=true):Xc lk:=⟨h1,λF keys=>by
 unfold Wo;split
 ·exact runs h2
 ·exact⟨false,rfl⟩⟩
def Jbn{i:Int}(hl:S[l]? =some (.lst ds))(h0:0<=i)(h1:i<ds.length){P:D->Prop}(hp:∀x∈ds,P x):Sat (Jao (.loc l) (.int i) S) λd S'=>P d/\S'=S:=by
 obtain⟨x,e,hx⟩:=Jzn h0 h1;rw[Jau hl e];exact .ok ⟨hp x hx,rfl⟩
def Jt3{d:D}(h:ds.length<1000):U5 .append (.loc S.length) [d] (S++[.lst ds])=.ok .non (S++[.lst (ds++[d])]):=by
 rw[Jay Jad (Jcd (by omega))];simp
def Jrz:rcv .append (S++[.lst ds]) (.loc S.length)=true:=Jbh rfl Jad
noncomputable def lkD(lk:List Rw):D:=.tup (lk.map rD)
def Jb7(hs:Stm S l)(h0:0<m)(h1:m<2^250):Sat (callN T G W (n+1) "_law_take" [.loc l,.int m] S) λd S'=>∃x,d=.int x/\Keep [l] S S'/\Stm S' l/\0<=x/\x<m:=by
 obtain⟨x,S',e,p⟩:=Jgu (W:=W) (n:=n) hs h0 h1;exact⟨_,S',e,x,rfl,p⟩
def Stm.ext(hs:Stm S l)(x:Ext S S'):Stm S' l:=by
 obtain⟨a,e,s,h⟩:=hs;exact⟨a,e,s,x.get h⟩
def Stm.lt(hs:Stm S l):l<S.length:=by
 obtain⟨a,e,s,h⟩:=hs;exact Ja0 h
def Jjc(hs:Stm S l):∃(lk:List Rw) (ks:List Int) (S':Store),callN T G W (n+2) "_law_lock" [.loc l] S=.ok (.tup [lkD lk,.tup (ks.map D.int)]) S'/\Keep [l] S S'/\Stm S' l/\Xc lk/\ks.length<=2:=by
 rw[Jab Jhz rfl]
 suffices hs:Sat ((evB (Cn T G W (n+1)) Vh.body (Nd some [.loc l]++E5 (Vh.N.length-[D.loc l].length) none) S).bind Xf) λd S'=>∃(lk:List Rw) (ks:List Int),d=.tup [lkD lk,.tup (ks.map D.int)]/\Keep [l] S S'/\Stm S' l/\Xc lk/\ks.length<=2 by
  obtain⟨d,S',e,lk,ks,rfl,p⟩:=hs;exact⟨lk,ks,S',e,p⟩
 obtain⟨x,S1,e1,k1,s1,hx⟩:=Jag (W:=W) (n:=n) (m:=2000) hs (by decide) (by decide);have hl1:l<S1.length:=by obtain⟨a,e,s,h⟩:=s1;exact Ja0 h
 simp[Vh,e1,Line,Jt3,Jrz,Jai (show(0:Int)<9 by decide),Jai (show(0:Int)<4 by decide),Jai (show(0:Int)<3 by decide),Jai (show(0:Int)<2 by decide)];have hk:∃a:List Int,a.length<=2/\atI [D.tup [.int (x-1000),.int 1],.tup [.int 0]] ((x-1000)%2)=some (.tup (a.map D.int)):=by
  rcases(show(x-1000)%2=0\/(x-1000)%2=1 by omega)with e|e
  ·exact⟨[x-1000,1],by simp,by rw[e];exact at0 (k:=0) rfl⟩
  ·exact⟨[0],by simp,by rw[e];exact at0 (k:=1) rfl⟩
 obtain⟨ka,hka,eka⟩:=hk;rw[Jau Jc4 eka];simp[Line];refine Sat.p3 (Jb7 (m:=10) (s1.ext (.new _ _)) (by decide) (by decide)) ?_;rintro _ S2 ⟨w,rfl,k2,s2,h0,h1⟩;have k12:Keep [l] S S2:=k1.trans ((Keep.new _).trans k2);have hB0:=k2.get Jav (by simp;omega);have hB2:=k2.get Jd2 (by simp;omega);clear k2;simp;refine p5 (Jbn hB0 h0 (by simp;omega) (P:=λy=>∃lk,y=lkD lk/\Xc lk) ?_) ?_
 ·intro y hy;simp only[An,Bc,or_false]at hy;rcases hy with rfl|rfl|rfl|rfl|rfl|rfl|rfl|rfl|rfl|rfl
  ·exact⟨[],rfl,.of (by decide) rfl⟩
  ·exact⟨[.push 1],rfl,.of (by simp) rfl⟩
  ·exact⟨[.push _,.w .same],rfl,.of (by simp) rfl⟩
  ·exact⟨[.w .height,.push _,.w .less,.w .not],rfl,.of (by simp) rfl⟩
  ·exact⟨[.w .age,.push _,.w .less,.w .not],rfl,.of (by simp) rfl⟩
  ·exact⟨[.iff,.push _,.w .same,.els,.push 1,.fin],rfl,.of (by simp) rfl⟩
  ·exact⟨[.w .worth,.push _,.w .less,.w .not],rfl,.of (by simp) rfl⟩
  ·exact⟨[.w .ins,.push _,.w .same],rfl,.of (by simp) rfl⟩
  ·exact⟨[.w .outs,.push _,.w .same,.w .not],rfl,.of (by simp) rfl⟩
  ·exact⟨[.paid _,.push _,.w .less,.w .not],rfl,.of (by simp) rfl⟩
 rintro _ _ ⟨⟨lk,rfl,hlk⟩,rfl⟩;simp[Line];rw[Jcq (Jah hB2) Jad (by simp[Line])];simp only[Res.bind_ok,Zo,v_var,X8,Bu,Dc];refine p6 (Jbn Jad h0 (by simp;omega) (P:=λy=>∃ks:List Int,y=.tup (ks.map D.int)/\ks.length<=2) ?_) ?_
 ·intro y hy;simp only[Bt,An,Bc,or_false]at hy;rcases hy with(rfl|rfl|rfl|rfl|rfl|rfl)|(rfl|rfl|rfl|rfl)
  ·exact⟨[_],rfl,by simp⟩
  ·exact⟨[],rfl,by simp⟩
  ·exact⟨[_],rfl,by simp⟩
  ·exact⟨[],rfl,by simp⟩
  ·exact⟨[],rfl,by simp⟩
  ·exact⟨ka,rfl,hka⟩
  ·exact⟨[],rfl,by simp⟩
  ·exact⟨[],rfl,by simp⟩
  ·exact⟨[],rfl,by simp⟩
  ·exact⟨[],rfl,by simp⟩
 rintro _ _ ⟨⟨ks,rfl,hks⟩,rfl⟩;simp[Line];exact⟨lk,ks,⟨rfl,rfl⟩,k12.trans (.new _),s2.ext (.new _ _),hlk,hks⟩
end
noncomputable def lkR(lk:List Rw):=(lkK (lkD lk)).getD []
theorem Jrv(r:Rw):∃k,rwK (rD r)=some k:=by
 cases r with
 |w x=>exact⟨_,rfl⟩
 |_=>exact⟨_,rfl⟩
theorem Jl3(lk:List Rw):lkK (lkD lk)=some (lkR lk):=by
 have:∃k,lkK (lkD lk)=some k:=by
  unfold lkD;simp only[lkK]
  induction lk with
  |nil=>exact⟨_,rfl⟩
  |cons a r ih=>
   obtain⟨k,e⟩:=Jrv a;obtain⟨ks,e2⟩:=ih;exact⟨k::ks,by simp only[Aw,W4,e,e2]⟩
 obtain⟨k,e⟩:=this;rw[lkR,e];rfl
section
variable {κ α:Type} [DecidableEq κ] {c:List (κ×α)} {k k':κ} {v:α}
def Yk:(∃v,dVal c k=some v)↔k∈c.map (·.1):=by
 constructor
 ·rintro⟨v,h⟩;exact Bd.mpr ⟨_,Jc0 h,rfl⟩
 ·intro h;obtain⟨p,hp,rfl⟩:=Bd.mp h;unfold dVal;have:(c.find? λq=>decide (q.1=p.1)).isSome:=by
   rw[List.find?_isSome];exact⟨p,hp,by simp⟩
  obtain⟨x,hx⟩:=B9.mp this;exact⟨x.2,by rw[hx];rfl⟩
def Jr4:k∈(dPut c k v).map (·.1):=by
 unfold dPut;split
 ·rename_i h;obtain⟨p,hp,e⟩:=Md.mp h;rw[B1];refine Bd.mpr ⟨p,hp,?_⟩;simp only[decide_eq_true_eq]at e;simp[e]
 ·simp
def Jr2(h:k'∈c.map (·.1)):k'∈(dPut c k v).map (·.1):=by
 rcases Jc1 (c:=c) (k:=k) (v:=v)with e|⟨e,_⟩
 ·rw[e];exact h
 ·rw[e];exact C8 _ h
def Jr3:(dPut c k v).length<=c.length+1:=by
 rcases Jc1 (c:=c) (k:=k) (v:=v)with e|⟨e,_⟩
 ·have:=congrArg I8 e;simp at this
  lia
 ·have:=congrArg I8 e;simp at this
  lia
end
abbrev Kv:=List (List (List Key)×D)
structure V8(kvs:Kv)(mx:Nat):Prop where
 l:kvs.length<=mx
 k:∀p∈kvs,∃ks:List Int,p.2=.tup (ks.map D.int)/\ks.length<=2
def Hs(kvs:Kv)(lk:List Rw):Prop:=lkR lk∈kvs.map (·.1)
def Gr(k1 k2:Kv):Prop:=∀lk,Hs k1 lk->Hs k2 lk
section
variable {W n:Nat} {S S':Store} {l L u q rl:Nat} {c:Cs} {dn:List Int} {ps:List Nat} {d:Dd} {h f m t:Int} {r:Rl} {b:Bk} {ds:List D} {kvs:Kv} {lk:List Rw} {mx:Nat} {ks:List Int}
def V8.put(g:V8 kvs mx)(hk:ks.length<=2):V8 (dPut kvs (lkR lk) (.tup (ks.map D.int))) (mx+1):=⟨by have:=Jr3 (c:=kvs) (k:=lkR lk) (v:=D.tup (ks.map D.int));have:=g.l;lia,λp hp=>(Jdy hp).elim (g.k p) λe=>⟨ks,by rw[e],hk⟩⟩
def Gr.put:Gr kvs (dPut kvs (lkR lk) v):=λ_ h=>Jr2 h
def Hs.put:Hs (dPut kvs (lkR lk) v) lk:=Jr4
def Jp1(hr:S[rl]? =some (.rg kvs))(g:V8 kvs mx)(hm:mx<=100000):Vu (.loc rl) (lkD lk) v S=.ok () (S.set rl (.rg (dPut kvs (lkR lk) v))):=by
 have:=g.l;simp only[Vu,hr,Jl3,if_pos (show kvs.length<Line by unfold Line;lia)]
def Jwy(hr:S[rl]? =some (.rg kvs))(g:V8 kvs mx)(hh:Hs kvs lk):∃ks:List Int,Jao (.loc rl) (lkD lk) S=.ok (.tup (ks.map D.int)) S/\ks.length<=2:=by
 obtain⟨v,hv⟩:=Yk.mpr hh;obtain⟨ks,e,hk⟩:=g.k _ (Jc0 hv);refine⟨ks,?_,hk⟩;simp only at e;subst e;simp[Jao,idxD,U6,seqAt,hr,Jl3,hv]
def Jor{S1:Store}(k:Keep ps S S1)(h:S.length<=p):Keep ps S (S1.set p o):=⟨by simp[k.1],λl hl n=>by rw[Au (by lia)];exact k.2 l hl n⟩
def Stm.ne_rg(hs:Stm S l)(hr:S[rl]? =some (.rg kvs)):l≠rl:=by
 rintro rfl;obtain⟨a,e,s,h⟩:=hs;have:=h.symm.trans hr;cases this
def Stm.get(hs:Stm S l){p:Nat}(k:Keep ps S S')(hp:l∉ps):Stm S' l:=by
 obtain⟨a,e,s,h⟩:=hs;exact⟨a,e,s,k.get h hp⟩
def OuOk(kvs:Kv)(o:Int×List Rw):Prop:=o.1<=10^40/\Xc o.2/\Hs kvs o.2
structure Sr(S:Store)(l rl:Nat)(kvs:Kv)(mx:Nat)(S':Store)(kvs':Kv):Prop where
 k:Keep [l,rl] S S'
 s:Stm S' l
 r:S'[rl]? =some (.rg kvs')
 g:V8 kvs' mx
 m:Gr kvs kvs'
def Sr.refl(hs:Stm S l)(hr:S[rl]? =some (.rg kvs))(g:V8 kvs mx):Sr S l rl kvs mx S kvs:=⟨.refl,hs,hr,g,λ_ h=>h⟩
def Sr.take(a:Sr S l rl kvs mx S1 kv)(k:Keep [l] S1 S2)(s:Stm S2 l):Sr S l rl kvs mx S2 kv:=⟨a.k.trans (k.mono (by simp)),s,k.get a.r (by simp;exact(a.s.ne_rg a.r).symm),a.g,a.m⟩
def Sr.ext(a:Sr S l rl kvs mx S1 kv)(x:Ext S1 S2):Sr S l rl kvs mx S2 kv:=⟨a.k.trans (.ext x),a.s.ext x,x.get a.r,a.g,a.m⟩
def Sr.put{S1:Store}(a:Sr S l rl kvs mx S1 kv)(hk:ks.length<=2):Sr S l rl kvs (mx+1) (S1.set rl (.rg (dPut kv (lkR lk) (.tup (ks.map D.int))))) (dPut kv (lkR lk) (.tup (ks.map D.int))):=⟨a.k.trans (.set (by simp)),a.s.get (p:=0) (Keep.set (ps:=[rl]) (by simp)) (by simp;exact a.s.ne_rg a.r),Jaq a.r,a.g.put hk,λlk h=>Gr.put lk (a.m lk h)⟩
def Sr.mono(a:Sr S l rl kvs mx S1 kv)(h:mx<=my):Sr S l rl kvs my S1 kv:=⟨a.k,a.s,a.r,⟨Bw a.g.l h,a.g.k⟩,a.m⟩
def Sr.trans(a:Sr S l rl kvs mx S1 k1)(b:Sr S1 l rl k1 my S2 k2):Sr S l rl kvs my S2 k2:=⟨a.k.trans b.k,b.s,b.r,b.g,λlk h=>b.m lk (a.m lk h)⟩
def Sr.new{S1:Store}(a:Sr S l rl kvs mx S1 kv)(h:S.length<=p)(hp:p≠l)(hq:p≠rl):Sr S l rl kvs mx (S1.set p o) kv:=⟨Jor a.k h,a.s.get (p:=0) (Keep.set (ps:=[p]) (by simp)) (by simp;exact hp.symm),by rw[Au hq];exact a.r,a.g,a.m⟩
inductive IOut (S:Store) (l rl o:Nat) (kvs:Kv) (mx:Nat) (i:Nat) (Z:En) (S':Store):Prop
 |mk (t:Int) (os:List (Int×List Rw)) (kv:Kv) (a4 a5 a6 a7:Option D) (_:Z=[some (.loc l),some (.int t),some (.loc rl),some (.loc o),a4,a5,a6,a7]) (_:Sr S l rl kvs (mx+i) S' kv) (_:S'[o]? =some (.lst (os.map ouD))) (_:os.length<=i) (_:(1<=t/\t<=10^40)) (_:∀x∈os,OuOk kv x):IOut S l rl o kvs mx i Z S'
def Ji7(hs:Stm S l)(hr:S[rl]? =some (.rg kvs))(gk:V8 kvs mx)(hmx:mx<=90000)(ht:1<=t/\t<=10^40):
  Sat (callN T G W (n+3) "_law_outs" [.loc l,.int t,.loc rl] S) λd S'=>∃(os:List (Int×List Rw)) (kv:Kv),d=.tup (os.map ouD)/\Sr S l rl kvs (mx+3) S' kv/\os.length<=3/\os≠[]/\∀x∈os,OuOk kv x:=by
 rw[Jab Jhx rfl];obtain⟨x,S2,e2,k2,s2,hx⟩:=Jag (W:=W) (n:=n+1) (S:=S++[.lst []]) (m:=3) (hs.ext (.new _ _)) (by decide) (by decide);have a2:Sr S l rl kvs mx S2 kvs:=((Sr.refl hs hr gk).ext (.new _ [.lst []])).take k2 s2;have hll:=hs.lt;have hrl:=Ja0 hr;have ho2:=k2.get (Jad (o:=.lst [])) (by simp;lia);simp[Jdc,e2,Line];rw[Jc6 (by lia) (by lia)];simp;have hxn:x.toNat<=2:=by lia
 refine Sat.p2 (loop (IOut S l rl S.length kvs mx) noR ⟨t,[],kvs,none,none,none,none,rfl,a2,ho2,by simp,ht,by simp⟩ ?_) ?_
 ·rintro i z _ S3 hd ⟨t3,os,kv,a4,a5,a6,a7,rfl,a3,ho,hlen,ht3,hos⟩;rw[Ao]at hd;obtain⟨j,hj,rfl⟩:=Ak.mp hd;have hi:i<x.toNat:=by simpa using(Ae.mp hj).1
  rw[Jas]
  by_cases h1:1<t3
  ·obtain⟨lk,ks,S4,e4,k4,s4,hlk,hks⟩:=Jjc (W:=W) (n:=n) a3.s;obtain⟨y,S5,e5,k5,s5,hy⟩:=Jag (W:=W) (n:=n+1) (S:=S4) (m:=t3-1) s4 (by lia) (Io (show t3-1<=10^40 by lia) (by decide));have b5:=(a3.take k4 s4).take k5 s5;have e6:=Jp1 (lk:=lk) (v:=.tup (ks.map D.int)) b5.r b5.g (by lia);have b6:=b5.put (lk:=lk) hks;have ho6:(S5.set rl (.rg (dPut kv (lkR lk) (.tup (ks.map D.int)))))[S.length]? =some (.lst (os.map ouD)):=by
    rw[Au (by lia)];exact k5.get (k4.get ho (by simp;lia)) (by simp;lia)
   have e7:=Jay (d:=ouD (1+y,lk)) ho6 (Jcd (by rw[Ah];lia));simp only[ouD]at e7;have e8:=Jbh (me:=.append) rfl ho6;simp only[lkD]at e4 e6;simp[h1,e4,e5,e6];simp[Line,e7,e8];refine⟨_,os++[(1+y,lk)],_,_,_,_,_,rfl,b6.new (Ai _) (by lia) (by lia),?_,by simp;lia,by lia,?_⟩
   ·rw[Jaq ho6];simp[ouD]
   ·intro z hz;rcases Bt.mp hz with hz|hz
    ·exact⟨(hos z hz).1,(hos z hz).2.1,Gr.put _ (hos z hz).2.2⟩
    ·rw[Av.mp hz];exact⟨by show 1+y<=10^40;lia,hlk,Hs.put⟩
  ·simp[h1];exact⟨_,os,_,_,_,_,_,rfl,a3.mono (by lia),ho,by lia,ht3,hos⟩
 ·intro fl S3 hh;obtain⟨_,rfl,t3,os,kv,a4,a5,a6,a7,rfl,a3,ho,hlen,ht3,hos⟩:=hh.nx;rw[Ah,Ex]at a3 hlen;obtain⟨lk,ks,S4,e4,k4,s4,hlk,hks⟩:=Jjc (W:=W) (n:=n) a3.s;have b5:=a3.take k4 s4;have e6:=Jp1 (lk:=lk) (v:=.tup (ks.map D.int)) b5.r b5.g (by lia);have b6:=b5.put (lk:=lk) hks;have ho6:(S4.set rl (.rg (dPut kv (lkR lk) (.tup (ks.map D.int)))))[S.length]? =some (.lst (os.map ouD)):=by
   rw[Au (by lia)];exact k4.get ho (by simp;lia)
  simp only[lkD]at e4 e6;simp[e4,e6];generalize S4.set rl (.rg (dPut kv (lkR lk) (.tup (ks.map D.int))))=S6 at b6 ho6;rw[if_pos (show 2<=Line by decide)];simp;rw[if_pos (show 1<=Line by decide)];simp;rw[Jcq (Jah ho6) Jad (by simp[Line];lia)];simp only[Res.bind_ok,Vp,Vs,Va];rw[Jal Jad];simp;refine⟨os++[(t3,lk)],by rw[Es];rfl,dPut kv (lkR lk) (.tup (ks.map D.int)),(b6.ext (.new _ _)).mono (by lia),by simp;lia,by simp,λz1 z2 hz=>?_⟩;rcases Bt.mp hz with hz|hz
  ·exact⟨(hos _ hz).1,(hos _ hz).2.1,Gr.put _ (hos _ hz).2.2⟩
  ·cases Av.mp hz;exact⟨ht3.2,hlk,Hs.put⟩
end
def p7{α0 α1 α2 α3 α4 α5 α6 α7:Type}{r:Res α0}{f1:α0->Store->Res α1}{f2:α1->Store->Res α2}{f3:α2->Store->Res α3}{f4:α3->Store->Res α4}{f5:α4->Store->Res α5}{f6:α5->Store->Res α6}{f7:α6->Store->Res α7}{Q:α0->Store->Prop}{P:α7->Store->Prop}(h:Sat r Q)(k:∀a S,Q a S->Sat (((((((f1 a S).bind f2).bind f3).bind f4).bind f5).bind f6).bind f7) P):Sat (((((((r.bind f1).bind f2).bind f3).bind f4).bind f5).bind f6).bind f7) P:=by
 obtain⟨a,S,rfl,h⟩:=h;exact k a S h
structure Mn(kvs:Kv)(c:Cs)(dn:List Int)(m:Int):Prop where
 gc:Gc c
 gd:Gd dn
 up:(c.map (·.1)).Pairwise λa b=>Rdu.ltP a b=true
 lt:∀p∈c,p.1.1<m
 has:∀p∈c,Hs kvs p.2.lk
 dlt:∀x∈dn,x<m
theorem Jpt:∀{ps:List PP},ps.Pairwise (λa b=>Rdu.ltP a b=true)->upB ps=true
 |[],_=>rfl
 |[a],_=>rfl
 |a::b::r,h=>by
  rw[Ql]at h;simp only[upB,Al];refine⟨h.1 b (by simp),?_⟩;have:=Jpt h.2
  simpa [upB]using this
section
variable {W n:Nat} {S S':Store} {l L u q rl:Nat} {c:Cs} {dn:List Int} {ps:List Nat} {d:Dd} {h f m t:Int} {r:Rl} {b:Bk} {ds:List D} {kvs:Kv} {lk:List Rw} {mx:Nat} {ks:List Int}
def Mn.upB(g:Mn kvs c dn m):upB ((cp c).map (·.1))=true:=Jpt (by simpa [cp,B1,Bp]using g.up)
def Jkh(h1:S[x]? =some (.lst ds))(h2:S[y]? =some (.lst [])):cop .eq (.loc x) (.loc y) S=some ds.isEmpty:=by
 cases ds<;>simp[cop,Jgb,eqD,seqAt,h1,h2,eqL]
def Stm.ne_cs(hs:Stm S l)(hr:S[u]? =some (csO c)):u≠l:=by
 rintro rfl;obtain⟨a,e,s,h⟩:=hs;have:=h.symm.trans hr;cases this
def Jft(hs:S[rl]? =some (.rg kvs))(hr:S[u]? =some (csO c)):u≠rl:=by
 rintro rfl;have:=hs.symm.trans hr;cases this
def Jp0{ks:List Int}(hk:ks.length<=3):V3 (.tup (ks.map D.int)) none (some 10) S=.ok (.tup (ks.map D.int)) S:=by
 have:cutD (ks.map D.int) none (some 10)=ks.map D.int:=by
  rw[Jjk (by decide),Ef (by simp;lia)]
 simp[V3,this]
def Jwv(hs:Stm S l)(hr:S[rl]? =some (.rg kvs))(gk:V8 kvs mx)(hu:S[u]? =some (csO c))(g:Mn kvs c dn m):
  Sat (callN T G W (n+2) "_law_in" [.loc l,.loc u,.loc rl] S) λd S'=>∃(nm:PP) (ks:List Int),d=inD (nm,ks)/\Keep [l] S S'/\Stm S' l/\ks.length<=3:=by
 rw[Jab Jkk rfl];have hln:=g.gc.len;have e1:=Jnl hu g.upB (by rw[Ah];unfold Line;lia);obtain⟨x,S2,e2,k2,s2,hx⟩:=Jag (W:=W) (n:=n) (S:=S++[.lst ((cp c).map λp=>dK p.1)]) (m:=12) (hs.ext (.new _ _)) (by decide) (by decide);have hll:=hs.lt;have k02:Keep [l] S S2:=(Keep.new _).trans k2;have hN:=k2.get (Jad (o:=.lst ((cp c).map λp=>dK p.1))) (by simp;lia);have hu2:=k02.get hu (by simp;exact hs.ne_cs hu);have hr2:=k02.get hr (by simp;exact(hs.ne_rg hr).symm);have e3:=Jkh (Jah hN) (Jad (S:=S2) (o:=.lst []));simp[Jf4,e1];simp only[cp,B1,Bp]at e2 e3 hN;simp[Bp,e2];simp[e3];have s3:=s2.ext (.new S2 [.lst []]);have k03:Keep [l] S (S2++[.lst []]):=k02.trans (.new _);have hN3:=Jah (X:=[.lst []]) hN;have hu3:=Jah (X:=[.lst []]) hu2;have hr3:=Jah (X:=[.lst []]) hr2;generalize S2++[Obj.lst []]=S3 at s3 k03 hN3 hu3 hr3
 by_cases hc:c=[]\/x=0
 ·have hcb:(c.isEmpty=true\/x=0):=hc.elim (λe=>.inl (by simp[e])) .inr;obtain⟨y,S4,e4,k4,s4,hy⟩:=Jag (W:=W) (n:=n) (S:=S3) (m:=90) s3 (by decide) (by decide);obtain⟨z,S5,e5,k5,s5,hz⟩:=Jag (W:=W) (n:=n) (S:=S4) (m:=3) s4 (by decide) (by decide);have fin:∃(nm:PP) (ks:List Int),D.tup [.tup [.int y,.int z],.tup []]=inD (nm,ks)/\Keep [l] S S5/\Stm S5 l/\ks.length<=3:=⟨(y,z),[],rfl,(k03.trans k4).trans k5,s5,by simp⟩
  rcases hc with rfl|rfl
  ·simp[e4,e5,Line]
   simpa using fin
  ·by_cases hc:c=[]
   ·simp[hc,e4,e5,Line]
    simpa using fin
   ·simp[hc,e4,e5,Line]
    simpa using fin
 ·have hc1:¬c=[]:=λe=>hc (.inl e);have hx0:¬x=0:=λe=>hc (.inr e);have hpos:0<c.length:=Kz.mpr hc1;have e4:=Jat hN3;rw[Ah]at e4;obtain⟨y,S5,e5,k5,s5,hy⟩:=Jag (W:=W) (n:=n) (S:=S3) (m:=c.length) s3 (by lia) (Int.lt_trans (show(c.length:Int)<2000 by lia) (by decide));have hN5:=k5.get hN3 (by simp;lia);have hu5:=k5.get hu3 (by simp;exact hs.ne_cs hu);have hr5:=k5.get hr3 (by simp;exact(hs.ne_rg hr).symm);simp[hc1,hx0,e4,e5];refine Sat.p3 (Jbn hN5 hy.1 (by simp;lia) (P:=λx=>∃p∈c,x=dK p.1) (λx hx=>by obtain⟨p,hp,rfl⟩:=Bd.mp hx;exact⟨p,hp,rfl⟩)) ?_;rintro _ S6 ⟨⟨p,hp,rfl⟩,rfl⟩;obtain⟨ks,e6,hks⟩:=Jwy hr5 gk (g.has p hp);simp only[lkD]at e6;have e7:=Jjg hu5 (Jin g.gc.nd hp);have kk:=k03.trans k5;simp[e7,e6]
  by_cases h1:x=1
  ·have e8:bop .add (.tup (ks.map D.int)) (.tup [.int 0]) S6=.ok (.tup ((ks++[0]).map D.int)) S6:=by rw[Jcp (by simp[Line];lia)];simp
   have e9:=Jp0 (S:=S6) (ks:=ks++[0]) (by simp;lia);rw[Es]at e8 e9;simp only[Aw,F5]at e8 e9;simp[h1,Line,e8,e9];exact⟨p.1.1,p.1.2,ks++[0],by simp[inD],kk,s5,by simp;lia⟩
  ·have e9:=Jp0 (S:=S6) (ks:=ks) (by lia);simp[h1,Line,e9];exact⟨p.1.1,p.1.2,ks,rfl,kk,s5,by lia⟩
theorem Jyz{ps:List PP}(hl:S[l]? =some (.lst (ps.map dK))):∃e,cop .nin (dK p) (.loc l) S=some e/\(ps=[]->e=true):=by
 have:∀ps:List PP,∃e,anyEq S Deep (dK p) (ps.map dK)=some e:=by
  intro ps
  induction ps with
  |nil=>exact⟨false,rfl⟩
  |cons a r ih=>
   obtain⟨e,he⟩:=ih;have h1:∃e1,eqD S Deep (dK a) (dK p)=some e1:=⟨_,rfl⟩
   obtain⟨e1,h1⟩:=h1;exact⟨e1||e,by simp only[Aw,anyEq,he,h1]⟩
 obtain⟨e,he⟩:=this ps;refine⟨!e,by simp[cop,U6,seqAt,hl,he],λh=>?_⟩;subst h;cases he;rfl
theorem Jpx:∀{xs:List Int},(∀x∈xs,x<=B)->xs.sum<=xs.length*B
 |[],_=>by simp
 |x::xs,h=>by
  have:=Jpx (xs:=xs) (B:=B) λy hy=>h y (Ay _ hy);have:=h x (by simp);rw[T8,A7,Int.natCast_add,Int.add_mul];omega
theorem Jg9{α β:Type}(p:α->Bool)(g:α->β):∀xs:List α,xs.filterMap (λi=>if p i then some (g i)else none)=(xs.filter p).map g
 |[]=>rfl
 |a::r=>by
  rw[Ge,E7,Jg9 p g r];cases p a<;>rfl
inductive IDe (S:Store) (l u rl o:Nat) (num:Int) (kvs:Kv) (mx:Nat) (i:Nat) (Z:En) (S':Store):Prop
 |mk (is:List (PP×List Int)) (a5 a6 a7 a8:Option D) (_:Z=[some (.loc l),some (.int num),some (.loc u),some (.loc rl),some (.loc o),a5,a6,a7,a8]) (_:Sr S l rl kvs mx S' kvs) (_:S'[o]? =some (.lst (is.map inD))) (_:is.length<=i) (_:(0<i->is≠[])) (_:∀x∈is,x.2.length<=3):IDe S l u rl o num kvs mx i Z S'
def Jpc(hs:Stm S l)(hr:S[rl]? =some (.rg kvs))(gk:V8 kvs mx)(hmx:mx<=90000)(hu:S[u]? =some (csO c))(g:Mn kvs c dn m)(hnum:0<=num/\num<345):
  Sat (callN T G W (n+4) "_law_deed" [.loc l,.int num,.loc u,.loc rl] S) λd' S'=>∃(d:Dd) (kv:Kv),d'=ddD d/\d.n=num/\Sr S l rl kvs (mx+3) S' kv/\Wj d/\d.ins≠[]/\∀o∈d.outs,OuOk kv o:=by
 rw[Jab Jh2 rfl];obtain⟨x,S2,e2,k2,s2,hx⟩:=Jag (W:=W) (n:=n+2) (S:=S++[.lst []]) (m:=3) (hs.ext (.new _ _)) (by decide) (by decide);have a2:Sr S l rl kvs mx S2 kvs:=((Sr.refl hs hr gk).ext (.new _ [.lst []])).take k2 s2;have hll:=hs.lt;have hrl:=Ja0 hr;have hul:=Ja0 hu;have ho2:=k2.get (Jad (o:=.lst [])) (by simp;lia);simp[Jdf,e2,Line];rw[Jc6 (by lia) (by lia)];simp;have hxn:(1+x).toNat<=3/\0<(1+x).toNat:=by lia
 have huk:∀{S':Store} {kv:Kv} {my:Nat},Sr S l rl kvs my S' kv->S'[u]? =some (csO c):=λa=>a.k.get hu (by simp;exact⟨hs.ne_cs hu,Jft hr hu⟩);refine Sat.p2 (loop (IDe S l u rl S.length num kvs mx) noR ⟨[],none,none,none,none,rfl,a2,ho2,by simp,by simp,by simp⟩ ?_) ?_
 ·rintro i z _ S3 hd ⟨is,a5,a6,a7,a8,rfl,a3,ho,hlen,hne,his⟩;rw[Ao]at hd;obtain⟨j,hj,rfl⟩:=Ak.mp hd;have hi:i<(1+x).toNat:=by simpa using(Ae.mp hj).1
  obtain⟨_,S4,e4,nm,ks,rfl,k4,s4,hks⟩:=Jwv (W:=W) (n:=n+1) a3.s a3.r gk (huk a3) g;have a4:=a3.take k4 s4;have ho4:=k4.get ho (by simp;lia);rw[Jas];simp[e4,Ja5 ho4];rw[Ja6 (xs:=is) inD (λi=>dK i.1) (by lia) (.inr ⟨_,rfl,ho4⟩) (λx _=>by simp[Jaj,U2])];obtain⟨e,e5,he⟩:=Jyz (p:=nm) (ps:=is.map (·.1)) (S:=S4++[.lst (is.map λi=>dK i.1)]) (l:=S4.length) (by rw[Jad];simp[Bp]);have a6:=a4.ext (.new S4 [.lst (is.map λi=>dK i.1)]);have ho6:=Jah (X:=[.lst (is.map λi=>dK i.1)]) ho4;generalize hS6:S4++[Obj.lst (is.map λi=>dK i.1)]=S6 at e5 a6 ho6;simp[e5];have app:∀{S7:Store},S7[S.length]? =some (.lst (is.map inD))->rcv .append S7 (.loc S.length)=true/\U5 .append (.loc S.length) [inD (nm,ks)] S7=.ok .non (S7.set S.length (.lst (is.map inD++[inD (nm,ks)]))):=λh=>⟨Jbh rfl h,by rw[Jay h (Jcd (by rw[Ah];lia))]⟩
  have fin:∀{S7:Store},Sr S l rl kvs mx S7 kvs->S7[S.length]? =some (.lst (is.map inD))->∀v,IDe S l u rl S.length num kvs mx (i+1) [some (.loc l),some (.int num),some (.loc u),some (.loc rl),some (.loc S.length),some (.int j),some v,a7,a8] (S7.set S.length (.lst (is.map inD++[inD (nm,ks)]))):=λa7 h v=>by
   refine⟨is++[(nm,ks)],_,_,_,_,rfl,a7.new (Ai _) (by lia) (by lia),by rw[Jaq h];simp,by simp;lia,λ_=>by simp,λz hz=>?_⟩;rcases Bt.mp hz with hz|hz
   ·exact his z hz
   ·rw[Av.mp hz];exact hks
  cases e with
  |true=>
   simp[app ho6];exact fin a6 ho6 _
  |false=>
   obtain⟨y,S7,e7,k7,s7,hy⟩:=Jag (W:=W) (n:=n+2) (S:=S6) (m:=6) a6.s (by decide) (by decide);have a7':=a6.take k7 s7;have ho7:=k7.get ho6 (by simp;lia)
   by_cases hy0:y=0
   ·simp[e7,hy0,app ho7];exact fin a7' ho7 _
   ·simp[e7,hy0];refine⟨is,_,_,_,_,rfl,a7',ho7,by lia,λ_ h=>?_,his⟩;have:=he (by simp[h]);cases this
 ·intro fl S3 hh;obtain⟨_,rfl,is,a5,a6,a7,a8,rfl,a3,ho,hlen,hne,his⟩:=hh.nx;rw[Ah,Ex]at hlen hne;have hne:=hne hxn.2;have hu3:=huk a3;simp[Ja5 ho];rw[Jjf (xs:=is) inD (λi=>if(dVal c i.1).isSome then some (.int (wOf c i.1))else none) (by lia) (.inr ⟨_,rfl,ho⟩) (λx _=>by
   cases hv:dVal c x.1 with
   |none=>simp[Jaj,U2,Jwx hu3,hv]
   |some k=>simp[Jaj,U2,Jwx hu3,hv,Jjg hu3 hv,wOf])]
  rw[Jg9 (λi:PP×List Int=>(dVal c i.1).isSome) (λi=>D.int (wOf c i.1))];simp only[Res.bind_ok,Vp,Vs,Va];rw[Jbu];have hsum:((is.filter λi=>(dVal c i.1).isSome).map λi=>wOf c i.1).sum<=3*10^40:=by
   have h1:=Jpx (B:=10^40) (xs:=(is.filter λi=>(dVal c i.1).isSome).map λi=>wOf c i.1) λx hx=>by
    obtain⟨y,hy,rfl⟩:=Bd.mp hx;obtain⟨k,hk⟩:=B9.mp (Hk.mp hy).2;simp only[wOf,hk];exact(g.gc.ok _ (Jc0 hk)).w
   have h2:=J1 (λi:PP×List Int=>(dVal c i.1).isSome) is;rw[Ah]at h1;generalize((is.filter λi=>(dVal c i.1).isSome).map λi=>wOf c i.1).sum=s at h1;generalize(is.filter λi=>(dVal c i.1).isSome).length=k at h1 h2;have:k<=3:=by lia
   lia
  have a4:=a3.ext (.new S3 [.lst ((is.filter λi=>(dVal c i.1).isSome).map λi=>D.int (wOf c i.1))]);have ho4:=Jah (X:=[.lst ((is.filter λi=>(dVal c i.1).isSome).map λi=>D.int (wOf c i.1))]) ho;generalize((is.filter λi=>(dVal c i.1).isSome).map λi=>wOf c i.1).sum=tot at hsum;generalize S3++[Obj.lst ((is.filter λi=>(dVal c i.1).isSome).map λi=>D.int (wOf c i.1))]=S4 at a4 ho4;obtain⟨w,S5,e5,k5,s5,hw⟩:=Jag (W:=W) (n:=n+2) (S:=S4) (m:=8) a4.s (by decide) (by decide);have a5:=a4.take k5 s5;have ho5:=k5.get ho4 (by simp;lia);have epow:∀S:Store,bop .pow (.int 10) (.int 40) S=.ok (.int (10^40)) S:=λS=>Ja4 (k:=40) rfl (by decide) (by decide);have fin:∀{S6:Store} {t:Int},Sr S l rl kvs mx S6 kvs->1<=t/\t<=10^40->Sat (callN T G W (n+3) "_law_outs" [.loc l,.int t,.loc rl] S6) λd' S'=>∃(d:Dd) (kv:Kv),.tup [.int num,.tup (is.map inD),d']=ddD d/\d.n=num/\Sr S l rl kvs (mx+3) S' kv/\Wj d/\d.ins≠[]/\∀o∈d.outs,OuOk kv o:=λ{S6 t} a6 ht=>by
   refine(Ji7 (W:=W) (n:=n) a6.s a6.r gk hmx ht).mono ?_;rintro _ S7 ⟨os,kv,rfl,a7,h3,h4,h5⟩;exact⟨⟨num,is,os⟩,kv,rfl,rfl,a6.trans a7,⟨hnum,by show is.length<=3;lia,h3,his,λo ho=>⟨(h5 o ho).1,(h5 o ho).2.1⟩⟩,hne,h5⟩
  simp[e5]
  by_cases hw0:w=0
  ·simp[hw0,Jal ho5,epow];refine p7 (fin a5 (by constructor<;>(repeat' split)<;>lia)) ?_;rintro d' S7 ⟨d,kv,e,h1,h2,h3,h4,h5⟩;simp[Line];exact⟨d,e,h1,kv,h2,h3,h4,λa b h=>h5 _ h⟩
  ·simp[hw0]
   by_cases hw4:4<w
   ·by_cases ht1:1<tot
    ·obtain⟨y,S6,e6,k6,s6,hy⟩:=Jag (W:=W) (n:=n+2) (S:=S5) (m:=tot) s5 (by lia) (Io hsum (by decide));have ho6:=k6.get ho5 (by simp;lia);have a6:=a5.take k6 s6;simp[hw4,ht1,e6,Jal ho6,epow];refine p7 (fin a6 (by constructor<;>(repeat' split)<;>lia)) ?_;rintro d' S7 ⟨d,kv,e,h1,h2,h3,h4,h5⟩;simp[Line];exact⟨d,e,h1,kv,h2,h3,h4,λa b h=>h5 _ h⟩
    ·simp[hw4,ht1,Jal ho5,epow];refine p7 (fin a5 (by constructor<;>(repeat' split)<;>lia)) ?_;rintro d' S7 ⟨d,kv,e,h1,h2,h3,h4,h5⟩;simp[Line];exact⟨d,e,h1,kv,h2,h3,h4,λa b h=>h5 _ h⟩
   ·simp[hw4,Jal ho5,epow];refine p7 (fin a5 (by constructor<;>(repeat' split)<;>lia)) ?_;rintro d' S7 ⟨d,kv,e,h1,h2,h3,h4,h5⟩;simp[Line];exact⟨d,e,h1,kv,h2,h3,h4,λa b h=>h5 _ h⟩
theorem Jb1:∀i,(dropO c d i).Sublist c
 |0=>List.Sublist.refl _
 |i+1=>by
  unfold dropO;split
  ·exact V6.trans (Jb1 i)
  ·exact Jb1 i
theorem Jlj(g:Mn kvs c dn m)(hm:m<=d.n)(ho:∀o∈d.outs,Hs kvs o.2):∀i,((putO c d h f i).map (·.1)).Pairwise (λa b=>Rdu.ltP a b=true)/\(∀p∈putO c d h f i,p.1.1<d.n\/(p.1.1=d.n/\p.1.2<i))/\∀p∈putO c d h f i,Hs kvs p.2.lk
 |0=>⟨g.up.sublist ((Jb1 _).map _),λp hp=>.inl (by have:=g.lt p ((Jb1 _).subset hp);lia),λp hp=>g.has p ((Jb1 _).subset hp)⟩
 |i+1=>by
  obtain⟨h1,h2,h3⟩:=Jlj g hm ho i;unfold putO;split
  ·rename_i x hx;refine⟨?_,λp hp=>?_,λp hp=>?_⟩
   ·rcases Jc1 (c:=putO c d h f i) (k:=(d.n,(i:Int))) (v:=⟨x.1,x.2,h,f⟩)with e|⟨e,_⟩
    ·rw[e];exact h1
    ·rw[e,Pp];refine⟨h1,by simp,λa ha b hb=>?_⟩;rw[Av.mp hb];obtain⟨p,hp,rfl⟩:=Bd.mp ha;exact Rdu.Vz.mpr (h2 p hp)
   ·rcases Jdy hp with hp|rfl
    ·rcases h2 p hp with z|z
     ·exact .inl z
     ·exact .inr ⟨z.1,by lia⟩
    ·exact .inr ⟨rfl,by show(i:Int)<_;lia⟩
   ·rcases Jdy hp with hp|rfl
    ·exact h3 p hp
    ·exact ho x (Ba hx)
  ·refine⟨h1,λp hp=>?_,h3⟩;rcases h2 p hp with z|z
   ·exact .inl z
   ·exact .inr ⟨z.1,by lia⟩
def Mn.put(g:Mn kvs c dn m)(g2:Wj d)(ho:∀o∈d.outs,Hs kvs o.2)(hn:d.n∉dn)(hm:m<=d.n):Mn kvs (Xe c d h f) (dn++[d.n]) (d.n+1):=by
 obtain⟨h1,h2,h3⟩:=Jlj (h:=h) (f:=f) g hm ho d.outs.length;refine⟨g.gc.putO g2 _,g.gd.add hn g2.n,h1,λp hp=>?_,h3,λx hx=>?_⟩
 ·rcases h2 p hp with z|z<;>lia
 ·rcases Bt.mp hx with z|z
  ·have:=g.dlt x z;lia
  ·rw[Av.mp z];lia
def Mn.mono(g:Mn kvs c dn m)(h:m<=m'):Mn kvs c dn m':=⟨g.gc,g.gd,g.up,λp hp=>Ll (g.lt p hp) h,g.has,λx hx=>Ll (g.dlt x hx) h⟩
def Mn.ring(g:Mn kvs c dn m)(h:Gr kvs kv):Mn kv c dn m:=⟨g.gc,g.gd,g.up,g.lt,λp hp=>h _ (g.has p hp),g.dlt⟩
def NumOk(first:Int)(dn:List Int)(ds:List Dd):Prop:=∀(i:Nat) (d:Dd),ds[i]? =some d->d.n=first+i\/d.n∈dn\/∃(j:Nat) (d':Dd),j<i/\ds[j]? =some d'/\d'.n=d.n
theorem Jqp{first w:Int}{ds:List Dd}(hb:BkOk ds)(hn:NumOk first dn ds)(ho:∀d∈ds,∀o∈d.outs,Hs kvs o.2){z:Option (Nat×String)×Cs×List Int×Int}(hz1:z.1=none):∀(k i:Nat) (c':Cs) (dn':List Int) (f':Int),i+k=ds.length->Mn kvs c' dn' (first+i)->(∀x∈dn,x∈dn')->(∀j d',j<i->ds[j]? =some d'->d'.n∈dn')->z=goP h w i c' dn' f' (ds.drop i)->Mn kvs z.2.1 z.2.2.1 (first+ds.length)
 |0,i,c',dn',f',hi,g,h1,h2,hz=>by
  rw[Jw (by lia),goP]at hz;subst hz;exact g.mono (by lia)
 |k+1,i,c',dn',f',hi,g,h1,h2,hz=>by
  have hx:i<ds.length:=by lia
  have hd:ds[i]? =some ds[i]:=Ag hx;rw[Cg hx]at hz;generalize ds[i]=d at hd hz;rw[goP]at hz;have hw:Vf c' dn' d h=none:=by
   cases hw:Vf c' dn' d h with
   |none=>rfl
   |some w=>rw[hw]at hz;rw[hz]at hz1;cases hz1
  rw[hw]at hz;have hnn:=(Jb6 hw).1;have hdn:d.n=first+i:=by
   rcases hn i d hd with e|e|⟨j,d',hj,hd',e⟩
   ·exact e
   ·exact absurd (h1 _ e) hnn
   ·exact absurd (e▸h2 j d' hj hd') hnn
  have hm:=Ba hd;have g':=g.put (h:=h) (f:=if i=0 then h+w else h) (hb.ok d hm) (ho d hm) hnn (by lia);refine Jqp hb hn ho hz1 k (i+1) _ _ _ (by lia) (g'.mono (by lia)) (λx hx=>C8 _ (h1 x hx)) (λj d' hj hd'=>?_) hz
  by_cases e:j=i
  ·subst e;rw[hd]at hd';cases hd';simp
  ·exact C8 _ (h2 j d' (by lia) hd')
def Jte(g:RlOk r):0<=Vb r h/\Vb r h<=10^40:=by
 unfold Vb;have hp:(0:Int)<=2^(min 200 ((h-1)/r.b).toNat):=T9 (by decide);exact⟨M6 g.a.1 hp,Int.le_trans (Int.ediv_le_self _ g.a.1) g.a.2⟩
def Sr.keepN(a:Sr S l rl kvs mx S1 kv)(k:Keep ps S1 S2)(hp:∀p∈ps,S.length<=p)(hl:l<S.length)(hr:rl<S.length):Sr S l rl kvs mx S2 kv:=⟨⟨Bw a.k.1 k.1,λx hx n=>(k.2 x (Bh hx a.k.1) (λz=>by have:=hp x z;lia)).trans (a.k.2 x hx n)⟩,a.s.get (p:=0) k (λz=>by have:=hp l z;lia),k.get a.r (λz=>by have:=hp rl z;lia),a.g,a.m⟩
structure Bld(S:Store)(l rl u q o:Nat)(kvs:Kv)(mx:Nat)(first:Int)(dn:List Int)(i:Nat)(S':Store)(kv:Kv)(ds:List Dd)(c:Cs)(db:List Int):Prop where
 a:Sr S l rl kvs (mx+3*i+3) S' kv
 u:S'[u]? =some (csO c)
 q:S'[q]? =some (dnO db)
 o:S'[o]? =some (.lst (ds.map ddD))
 n:ds.length=i+1
 g:Mn kv c db (first+1+i)
 b:BkOk ds
 m:NumOk first dn ds
 h:∀d∈ds,∀x∈d.outs,Hs kv x.2
 s:∀x∈db,x∈dn\/∃d'∈ds,d'.n=x
 e:db≠[]
 z:∃d0 rs,ds=d0::rs/\d0.outs≠[]/\d0.n=first
noncomputable abbrev eB(l:Nat)(first:Int)(u0 q0:Nat)(h:Int)(r:Rl)(rl:Nat)(w:Int)(u q o:Nat)(a11 a12 a13:Option D):En:=[some (.loc l),some (.int first),some (.loc u0),some (.loc q0),some (.int h),some (rlD r),some (.loc rl),some (.int w),some (.loc u),some (.loc q),some (.loc o),a11,a12,a13,none,none,none,none]
theorem Jx8{u0 q0 u q o:Nat}{first w num:Int}{i:Nat}{kv:Kv}{dds:List Dd}{db:List Int}{a11 a13:Option D}(B:Bld S l rl u q o kvs mx first dn i S' kv dds c db)
  (hl:l<S.length)(hrl:rl<S.length)(hu:S.length<=u)(hq:S.length<=q)(ho:S.length<=o)(hmx:mx+3*i+6<=90000)(hi:i<=15)(hfirst:1<=first/\first<=321)
  (hnum:num=first+1+i\/num∈db):
  Sat (evB (Cn T G W (n+6)) tl (eB l first u0 q0 h r rl w u q o a11 (some (.int num)) a13) S') λfl S2=>∃kv2 ds2 c2 db2,fl=.nx (eB l first u0 q0 h r rl w u q o a11 (some (.int num)) a13)/\Bld S l rl u q o kvs mx first dn (i+1) S2 kv2 ds2 c2 db2:=by
 have hn345:0<=num/\num<345:=by
  rcases hnum with e|e
  ·lia
  ·exact B.g.gd.ok _ e
 obtain⟨_,S3,e3,d,kv3,rfl,hdn,a3,dk,hne,hou⟩:=Jpc (W:=W) (n:=n+2) B.a.s B.a.r B.a.g (by lia) B.u B.g hn345;have A3:=B.a.trans a3;have huq:u≠q:=by
  intro e;have h1:=B.u;rw[e,B.q]at h1;cases h1
 have hoq:o≠u/\o≠q:=by
  constructor
  ·intro e;have h1:=B.o;rw[e,B.u]at h1;cases h1
  ·intro e;have h1:=B.o;rw[e,B.q]at h1;cases h1
 have kp:∀{p:Nat},S.length<=p->p∉[l,rl]:=λhp=>by simp;lia
 have hu3:=a3.k.get B.u (kp hu);have hq3:=a3.k.get B.q (kp hq);have ho3:=a3.k.get B.o (kp ho);have e4:=Jay (d:=ddD d) ho3 (Jcd (by rw[Ah,B.n];lia));have e5:=Jbh (me:=.append) rfl B.o;have ho4:(S3.set o (.lst (dds.map ddD++[ddD d])))[o]? =some (.lst (dds.map ddD++[ddD d])):=Jaq ho3;have k4:Keep [o] S3 (S3.set o (.lst (dds.map ddD++[ddD d]))):=.set (by simp);have A4:=A3.keepN k4 (by simp;exact ho) hl hrl;have hu4:=k4.get hu3 (by simp;exact hoq.1.symm);have hq4:=k4.get hq3 (by simp;exact hoq.2.symm);simp[tl,e3,e4,e5];generalize S3.set o (.lst (dds.map ddD++[ddD d]))=S4 at ho4 k4 A4 hu4 hq4;have g4:=B.g.ring a3.m;obtain⟨S5,e6,x5⟩:=Jkn (W:=W) (n:=n+1) (h:=h) hu4 hq4 g4.gc dk;have e7:∀{S:Store},S[o]? =some (.lst (dds.map ddD++[ddD d]))->Jao (.loc o) (.int (-1)) S=.ok (ddD d) S:=λh=>Jcx h;have Ho:∀x∈d.outs,Hs kv3 x.2:=λx hx=>(hou x hx).2.2;have Hall:∀d'∈dds++[d],∀x∈d'.outs,Hs kv3 x.2:=λd' hd' x hx=>by
  rcases Bt.mp hd' with z|z
  ·exact a3.m _ (B.h d' z x hx)
  ·rw[Av.mp z]at hx;exact Ho x hx
 have Bk:BkOk (dds++[d]):=⟨λd' hd'=>by
   rcases Bt.mp hd' with z|z
   ·exact B.b.ok d' z
   ·rw[Av.mp z];exact dk,by have:=B.n;simp;lia,λj d' hj=>by
   have hn:=B.n
   by_cases hjl:j<dds.length
   ·rw[A0 hjl]at hj;exact B.b.mr j d' hj
   ·have hl:=(Ae.mp hj).1;rw[Bf,Dr]at hl;have:j=dds.length:=by lia
    subst this;rw[A1 (Ai _),Ey]at hj;cases hj;exact⟨λz=>absurd z hne,λz=>by lia⟩,by simp⟩
 have Nk:NumOk first dn (dds++[d]):=λj d' hj=>by
  have hn:=B.n
  by_cases hjl:j<dds.length
  ·have hj':=hj;rw[A0 hjl]at hj';rcases B.m j d' hj' with e|e|⟨k,d2,hk,hd2,e⟩
   ·exact .inl e
   ·exact .inr (.inl e)
   ·exact .inr (.inr ⟨k,d2,hk,by rw[A0 (by lia)];exact hd2,e⟩)
  ·have hl:=(Ae.mp hj).1;rw[Bf,Dr]at hl;have hjj:j=dds.length:=by lia
   subst hjj;rw[A1 (Ai _),Ey]at hj;cases hj;rcases hnum with e|e
   ·exact .inl (by lia)
   ·rcases B.s _ e with z|⟨d2,hd2,z⟩
    ·exact .inr (.inl (by rw[hdn];exact z))
    ·obtain⟨k,hk,ek⟩:=C2.mp hd2;exact .inr (.inr ⟨k,d2,hk,by rw[A0 hk,Ag hk,ek],by rw[z,hdn]⟩)
 have Zk:∃d0 rs,dds++[d]=d0::rs/\d0.outs≠[]/\d0.n=first:=by
  obtain⟨d0,rs,e,h0⟩:=B.z;exact⟨d0,rs++[d],by rw[e];rfl,h0⟩
 have om:(dds.map ddD++[ddD d])=(dds++[d]).map ddD:=by simp
 have nk:(dds++[d]).length=i+1+1:=by simp;exact B.n
 simp[e7 ho4,e6];cases hw:Vf c db d h with
 |some x=>
  simp;exact⟨kv3,dds++[d],c,db,(A4.ext x5).mono (by lia),x5.get hu4,x5.get hq4,by rw[x5.get ho4,om],nk,g4.mono (by lia),Bk,Nk,Hall,λx hx=>(B.s x hx).elim .inl λ⟨d',h1,h2⟩=>.inr ⟨d',C8 _ h1,h2⟩,B.e,Zk⟩
 |none=>
  obtain⟨hnn,hdst,hv⟩:=Jb6 hw;obtain⟨S6,e8,k6,hu6,hq6⟩:=Jli (W:=W) (n:=n+5) (h:=h) (f:=h) (x5.get hu4) (x5.get hq4) g4.gc g4.gd dk hnn hdst hv;have hdi:d.n=first+1+i:=hnum.elim (λe=>by lia) λe=>absurd (hdn▸e) hnn
  simp[e7 (x5.get ho4),e8];refine⟨kv3,dds++[d],Xe c d h h,db++[d.n],((A4.ext x5).keepN k6 (by simp;lia) hl hrl).mono (by lia),hu6,hq6,by rw[k6.get (x5.get ho4) (by simp;exact hoq),om],nk,?_,Bk,Nk,Hall,λx hx=>?_,by simp,Zk⟩
  ·exact(g4.put dk Ho hnn (by lia)).mono (by lia)
  ·rcases Bt.mp hx with z|z
   ·exact(B.s x z).elim .inl λ⟨d',h1,h2⟩=>.inr ⟨d',C8 _ h1,h2⟩
   ·rw[Av.mp z];exact .inr ⟨d,by simp,rfl⟩
def three(h0:Z[0]? =some (some (.loc l)))(hs:Stm S l):Sat (Wr (Cn T G W (n+1)) 1 [0] (.tvar 0) .nul (.call "_law_take" (.cns (.var 1) (.cns (.bin .pow (.cst (.int 10)) (.cst (.int 30))) .nul))) Z (none,(B7 3).map λ(i:Nat)=>D.int i) S) λd S'=>∃(x y z:Int) (p:Nat),d=.loc p/\S'[p]? =some (.lst [.int x,.int y,.int z])/\Keep [l] S S'/\Stm S' l:=by
 refine(comp (λi acc S'=>∃xs:List Int,acc=xs.map D.int/\xs.length=i/\Keep [l] S S'/\Stm S' l) (by decide) ⟨[],rfl,rfl,.refl,hs⟩ (λi acc S1 ⟨xs,h1,h2,_⟩=>⟨by rw[h1,Ah];lia,rfl⟩) (λi acc S1 hi ⟨xs,h1,h2,k1,s1⟩=>?_)).mono ?_
 ·have hx:i<3:=by simpa using hi
  obtain⟨x,S2,e2,k2,s2,hx2⟩:=Jag (W:=W) (n:=n) (m:=1000000000000000000000000000000) s1 (by decide) (by decide);have ep:bop .pow (.int 10) (.int 30) S1=.ok (.int 1000000000000000000000000000000) S1:=Ja4 (k:=30) rfl (by decide) (by decide);refine⟨.int i,by simp[nth,hx],?_⟩;rw[Jaj];simp only[U2,Aw,F5,h0];simp[ep,e2];exact⟨xs++[x],by simp[h1],by simp[h2],k1.trans k2,s2⟩
 ·rintro _ _ ⟨ys,S0,⟨xs,rfl,h2,k0,s0⟩,rfl,rfl⟩;rcases xs with _|⟨x,_|⟨y,_|⟨z,_|⟨a,xs⟩⟩⟩⟩<;>simp at h2;exact⟨x,y,z,_,rfl,Jad,k0.trans (.new _),s0.ext (.new _ _)⟩
inductive PB (S:Store) (l rl:Nat) (kvs:Kv) (mx:Nat) (first:Int) (dn:List Int) (d':D) (S':Store):Prop
 |mk (b:Bk) (kv:Kv) (_:d'=bkD b) (_:Sr S l rl kvs (mx+45) S' kv) (_:BkOk b.ds) (_:NumOk first dn b.ds) (_:∀d∈b.ds,∀o∈d.outs,Hs kv o.2):PB S l rl kvs mx first dn d' S'
inductive IBk (S:Store) (l rl u0 q0 o:Nat) (kvs:Kv) (mx:Nat) (first:Int) (dn:List Int) (h:Int) (r:Rl) (w:Int) (i:Nat) (Z:En) (S':Store):Prop
 |mk (kv:Kv) (ds:List Dd) (cb:Cs) (db:List Int) (a11 a12 a13:Option D) (_:Z=eB l first u0 q0 h r rl w S.length (S.length+1) o a11 a12 a13) (_:Bld S l rl S.length (S.length+1) o kvs mx first dn i S' kv ds cb db):IBk S l rl u0 q0 o kvs mx first dn h r w i Z S'
def Wf0{first w:Int}(hs:Stm S l)(hr:S[rl]? =some (.rg kvs))(gk:V8 kvs mx)(hmx:mx+45<=90000)(hu:S[u]? =some (csO c))(hq:S[q]? =some (dnO dn))(g:Mn kvs c dn first)(hf:1<=first/\first<=321)(gr:RlOk r)(hh:1<=h)(hw:1<=w):
  Sat ((evB (Cn T G W (n+6)) rest [some (.loc l),some (.int first),some (.loc u),some (.loc q),some (.int h),some (rlD r),some (.loc rl),some (.int w),none,none,none,none,none,none,none,none,none,none] S).bind Xf) (PB S l rl kvs mx first dn):=by
 have hl:=hs.lt;have hrl:=Ja0 hr;have e2:=Jga (Jah (X:=[csO c]) hq);simp[rest,Jf9 hu g.gc.apt];simp at e2;have epow:∀S:Store,bop .pow (.int 10) (.int 40) S=.ok (.int (10000000000000000000000000000000000000000:Int)) S:=λS=>Ja4 (k:=40) rfl (by decide) (by decide);simp[e2,epow];have x1:=Ext.new S [csO c,dnO dn];obtain⟨_,S2,e3,os,kv2,rfl,a2,ho3,hne,hou⟩:=Ji7 (W:=W) (n:=n+3) (S:=S++[csO c,dnO dn]) (t:=if w<(10000000000000000000000000000000000000000:Int)then w else(10000000000000000000000000000000000000000:Int)) (hs.ext x1) (x1.get hr) gk (by lia) (by constructor<;>split<;>lia);have A2:Sr S l rl kvs (mx+3) S2 kv2:=⟨(Keep.ext x1).trans a2.k,a2.s,a2.r,a2.g,a2.m⟩
 have hu2:=a2.k.get (Jav (S:=S) (a0:=csO c) (X:=[dnO dn])) (by simp;lia);have hq2:=a2.k.get (Jc4 (S:=S) (a0:=csO c) (a1:=dnO dn) (X:=[])) (by simp;lia);have l2:S.length+2<=S2.length:=by have:=a2.k.1;simpa using this
 have dk0:Wj ⟨first,[],os⟩:=⟨⟨by show 0<=first;lia,by show first<345;lia⟩,by simp,ho3,by simp,λo ho=>⟨(hou o ho).1,(hou o ho).2.1⟩⟩
 have hn0:first∉dn:=λz=>by have:=g.dlt _ z;lia
 have x3:=Ext.new S2 [Obj.lst [ddD ⟨first,[],os⟩]];have ho0:(S2++[Obj.lst [ddD ⟨first,[],os⟩]])[S2.length]? =some (.lst [ddD ⟨first,[],os⟩]):=Jad;have i0:=Jau ho0 (at0 (k:=0) rfl);obtain⟨S3,e4,k3,hu3,hq3⟩:=Jli (W:=W) (n:=n+5) (h:=h) (f:=h+r.c) (x3.get hu2) (x3.get hq2) g.gc g.gd dk0 hn0 (by simp[nms,dst,Sbl.dd]) (by simp);have A3:=(A2.ext x3).keepN k3 (by simp) hl hrl;have ho3':=k3.get ho0 (by simp;lia);have edd:D.tup [.int first,.tup [],.tup (os.map ouD)]=ddD ⟨first,[],os⟩:=rfl;simp[e3];rw[if_pos (show 3<=Line by decide),edd];simp;rw[if_pos (show 1<=Line by decide)];simp only[Res.bind_ok,Zr,Jpq,A7,Et,List.set_cons_succ,List.set_cons_zero,if_pos (show 10<0+1+1+1+1+1+1+1+1+1+1+1+1+1+1+1+1+1+1 by decide),kNx,kB,Xu,Jx4,Juk,Yl,v_var,X8,Bu,Dc,Vp,Jx3,Zo,Jh7];rw[show Jao (.loc S2.length) (.int 0) (S2++[Obj.lst [ddD ⟨first,[],os⟩]])=.ok (ddD ⟨first,[],os⟩) (S2++[Obj.lst [ddD ⟨first,[],os⟩]])from i0];simp[e4];obtain⟨y1,S4,e5,k4,s4,hy1⟩:=Jag (W:=W) (n:=n+5) (S:=S3) (m:=5) A3.s (by decide) (by decide);obtain⟨y2,S5,e6,k5,s5,hy2⟩:=Jag (W:=W) (n:=n+5) (S:=S4) (m:=12) s4 (by decide) (by decide);obtain⟨y3,S6,e7,k6,s6,hy3⟩:=Jag (W:=W) (n:=n+5) (S:=S5++[.lst [.int y1,.int y2]]) (m:=4) (s5.ext (.new _ _)) (by decide) (by decide);have l5:S2.length<S5.length:=by have:=k5.1;have:=k4.1;have:=Ja0 ho3';lia
 obtain⟨y,hy,ey⟩:∃y:Int,(0<=y/\y<12)/\Jao (.loc S5.length) (.int (if y3=3 then 1 else 0)) S6=.ok (.int y) S6:=by
  have h6:=k6.get (Jad (S:=S5) (o:=.lst [.int y1,.int y2])) (by simp;lia);split
  ·exact⟨y2,hy2,Jau h6 (at0 (k:=1) rfl)⟩
  ·exact⟨y1,by lia,Jau h6 (at0 (k:=0) rfl)⟩
 have A6:=(((A3.take k4 s4).take k5 s5).ext (.new _ [.lst [.int y1,.int y2]])).take k6 s6;have kk:Keep [l] S3 S6:=((k4.trans k5).trans (.new _)).trans k6;simp[e5,e6,Line,e7,ey];rw[Jc6 (by lia) (by lia)];simp;have B0:Bld S l rl S.length (S.length+1) S2.length kvs mx first dn 0 S6 kv2 [⟨first,[],os⟩] (Xe c ⟨first,[],os⟩ h (h+r.c)) (dn++[first]):=by
  refine⟨A6,kk.get hu3 (by simp;lia),kk.get hq3 (by simp;lia),kk.get ho3' (by simp;lia),rfl,?_,?_,?_,?_,?_,by simp,⟨_,_,rfl,hne,rfl⟩⟩
  ·have:=(g.ring a2.m).put (h:=h) (f:=h+r.c) dk0 (λo ho=>(hou o ho).2.2) hn0 (by show first<=first;lia);exact this.mono (by show first+1<=_;lia)
  ·refine⟨by simp;exact dk0,by simp,λi d hd=>?_,by simp⟩;cases i with
   |zero=>cases hd;simp
   |succ i=>simp at hd
  ·intro i d hd;cases i with
   |zero=>cases hd;exact .inl (by simp)
   |succ i=>simp at hd
  ·intro d hd o ho;rw[Av.mp hd]at ho;exact(hou o ho).2.2
  ·intro x hx;rcases Bt.mp hx with z|z
   ·exact .inl z
   ·rw[Av.mp z];exact .inr ⟨⟨first,[],os⟩,by simp,rfl⟩
 have hyn:y.toNat<=11:=by lia
 refine Sat.p2 (loop (IBk S l rl u q S2.length kvs mx first dn h r w) noR ⟨kv2,_,_,_,none,none,none,rfl,B0⟩ ?_) ?_
 ·rintro i z _ S7 hd ⟨kv,ds,cb,db,a11,a12,a13,rfl,B⟩;rw[Ao]at hd;obtain⟨j,hj,rfl⟩:=Ak.mp hd;have hij:=Ae.mp hj;have hi:i<y.toNat:=by simpa using hij.1
  have hji:j=i:=by have:=hij.2;simp at this;lia
  subst hji;have TL:=λ{num:Int} {a13:Option D} {S8:Store} (B:Bld S l rl S.length (S.length+1) S2.length kvs mx first dn j S8 kv ds cb db) (hnum:num=first+1+j\/num∈db)=>(Jx8 (W:=W) (n:=n) (h:=h) (r:=r) (u0:=u) (q0:=q) (w:=w) (a11:=some (.int j)) (a13:=a13) B hl hrl (Ai _) (by lia) (by lia) (by lia) (by lia) hf hnum).mono (Q:=FlP (IBk S l rl u q S2.length kvs mx first dn h r w (j+1)) noR) (λfl S9 ⟨kv2,ds2,c2,db2,e,B2⟩=>by rw[e];exact⟨kv2,ds2,c2,db2,_,_,_,rfl,B2⟩);obtain⟨y4,S8,e8,k8,s8,hy4⟩:=Jag (W:=W) (n:=n+5) (S:=S7) (m:=16) B.a.s (by decide) (by decide);have kp:∀{p:Nat},S.length<=p->p∉[l]:=λhp=>by simp;lia
  have mv:∀{S9:Store},Keep [l] S7 S9->Stm S9 l->Bld S l rl S.length (S.length+1) S2.length kvs mx first dn j S9 kv ds cb db:=λk s=>⟨B.a.take k s,k.get B.u (kp (Ai _)),k.get B.q (kp (by lia)),k.get B.o (kp (by lia)),B.n,B.g,B.b,B.m,B.h,B.s,B.e,B.z⟩
  rw[Jas];unfold lpB
  by_cases h4:y4=0
  ·have q8:=k8.get B.q (kp (by lia));have e9:=Jon q8;have e10:=Js4 (Jah (X:=[.lst ((dp db).map λp=>.int p.1)]) q8);have hpos:0<db.length:=Kz.mpr B.e;have hdl:=B.g.gd.len;obtain⟨y5,S9,e11,k9,s9,hy5⟩:=Jag (W:=W) (n:=n+5) (S:=S8++[.lst ((dp db).map λp=>.int p.1)]) (m:=db.length) (s8.ext (.new _ _)) (by lia) (Int.lt_trans (show(db.length:Int)<2000 by lia) (by decide));have hL:=k9.get (Jad (S:=S8) (o:=.lst ((dp db).map λp=>.int p.1))) (by simp;have:=s8.lt;lia);have kall:Keep [l] S7 S9:=(k8.trans (.new _)).trans k9;simp only[Ah]at e10;simp only[h4]at e8;simp[e8,e9];simp only[B1,Bp]at e10 e11 hL;simp[Bp,e10,e11];refine Sat.p3 (Jbn hL hy5.1 (by simp;lia) (P:=λz=>∃v∈db,z=.int v) (λz hz=>by obtain⟨v,hv,rfl⟩:=Bd.mp hz;exact⟨v,hv,rfl⟩)) ?_;rintro _ S10 ⟨⟨v,hv,rfl⟩,rfl⟩;simp;exact TL (mv kall s9) (.inr hv)
  ·simp[e8,h4];exact TL (mv k8 s8) (.inl rfl)
 ·intro fl S7 hF;obtain⟨_,rfl,kv,ds,cb,db,a11,a12,a13,rfl,B⟩:=hF.nx;clear hF;rw[Ah,Ex]at B;have ho:=B.o;simp;rw[Jc6 (by decide) (by decide)];simp only[Res.bind_ok];refine Sat.p3 (three (W:=W) (n:=n+5) rfl B.a.s) ?_;rintro _ S8 ⟨x0,x1',x2,p,rfl,hp8,k8,s8⟩;have A8:=B.a.take k8 s8;have ho8:=k8.get ho (by simp;lia);have j0:=Jau hp8 (at0 (k:=0) rfl);have j1:=Jau hp8 (at0 (k:=1) rfl);have j2:=Jau hp8 (at0 (k:=2) rfl);simp only[Int.cast_ofNat_Int,Int.natCast_zero,Int.natCast_one]at j0 j1 j2;simp[j0,j1,j2,Jal ho8,Line];obtain⟨y6,S9,e9,k9,s9,hy6⟩:=Jag (W:=W) (n:=n+5) (S:=S8) (m:=3) s8 (by decide) (by decide);have A9:=A8.take k9 s9
  by_cases h6:y6=0
  ·obtain⟨d0,rs,hds,hd0,hd0n⟩:=B.z;obtain⟨o0,os',hos⟩:∃o0 os',d0.outs=o0::os':=by
    cases ho:d0.outs with
    |nil=>exact absurd ho hd0
    |cons a b=>exact⟨a,b,rfl⟩
   have hul:u∉[l,rl]:=by simp;exact⟨hs.ne_cs hu,Jft hr hu⟩
   have hql:q∉[l,rl]:=by
    simp;constructor
    ·rintro rfl;obtain⟨a,e,s,h⟩:=hs;have:=h.symm.trans hq;cases this
    ·rintro rfl;have:=hr.symm.trans hq;cases this
   obtain⟨fz,S10,e10,x10,_⟩:=Jmr (W:=W) (n:=n) (b:=⟨1+x0,x1',1+x2,ds⟩) (A9.k.get hu hul) (A9.k.get hq hql) g.gc g.gd gr B.b hh;simp only[bkD]at e10;have e11:=Jf3 (W:=W) (n:=n+5) (S:=S10) gr hh;obtain⟨y7,S11,e12,k11,s11,hy7⟩:=Jag (W:=W) (n:=n+5) (S:=S10) (m:=2) (s9.ext x10) (by decide) (by decide);have A11:=(A9.ext x10).take k11 s11;have ho11:=k11.get (x10.get (k9.get ho8 (by simp;lia))) (by simp;lia);rw[hds,Aw]at ho11;have i1:Jao (.loc S2.length) (.int 0) S11=.ok (ddD d0) S11:=Jau ho11 (at0 (k:=0) rfl);have i2:Jao (.tup (d0.outs.map ouD)) (.int 0) S11=.ok (ouD o0) S11:=by rw[hos,Aw];exact Jbm
   have c1:V3 (.tup [.int (1+x0),.int x1',.int (1+x2),.tup (ds.map ddD)]) none (some 3) S11=.ok (.tup [.int (1+x0),.int x1',.int (1+x2)]) S11:=by simp only[V3];rw[Jjk (by decide)];rfl
   have c2:V3 (.tup (ds.map ddD)) (some 1) none S11=.ok (.tup (rs.map ddD)) S11:=by simp only[V3];rw[Jgd (by decide),hds];rfl
   have hrs:rs.length<=19:=by have:=B.b.l;rw[hds]at this;simp at this;lia
   simp[e9,h6,e10,e11,e12,i1,i2,epow,c1,c2];generalize hv:(if(if 1<Vb r h+fz+y7 then Vb r h+fz+y7 else 1)<(10000000000000000000000000000000000000000:Int)then(if 1<Vb r h+fz+y7 then Vb r h+fz+y7 else 1)else(10000000000000000000000000000000000000000:Int))=v;have hvl:v<=10^40:=by rw[<-hv];split<;>lia
   have em:D.tup [.int first,.tup [],.tup [.tup [.int v,.tup (o0.2.map rD)]]]=ddD ⟨first,[],[(v,o0.2)]⟩:=rfl;simp[Line];rw[em];have b1:∀{S:Store},bop .add (.tup [ddD ⟨first,[],[(v,o0.2)]⟩]) (.tup (rs.map ddD)) S=.ok (.tup ((⟨first,[],[(v,o0.2)]⟩::rs:List Dd).map ddD)) S:=λ{S}=>by rw[Jcp (by simp[Line];lia)];rfl
   have b2:∀{S:Store} {z:D},bop .add (.tup [.int (1+x0),.int x1',.int (1+x2)]) (.tup [z]) S=.ok (.tup [.int (1+x0),.int x1',.int (1+x2),z]) S:=λ{S z}=>by rw[Jcp (by simp[Line])];rfl
   simp only[Aw]at b1;simp[c1,c2,b1,b2,Line];have dk0':=B.b.ok d0 (by rw[hds];simp);have ho0':o0∈d0.outs:=by rw[hos];simp
   refine⟨⟨1+x0,x1',1+x2,⟨first,[],[(v,o0.2)]⟩::rs⟩,kv,rfl,A11.mono (by lia),?_,?_,?_⟩
   ·refine⟨λd' hd'=>?_,by simp;lia,λi d' hd'=>?_,by simp⟩
    ·rcases An.mp hd' with rfl|z
     ·exact⟨⟨by show 0<=first;lia,by show first<345;lia⟩,by simp,by simp,by simp,by simp;exact⟨by lia,(dk0'.w o0 ho0').2⟩⟩
     ·exact B.b.ok d' (by rw[hds];exact Ay _ z)
    ·cases i with
     |zero=>cases hd';simp
     |succ i=>exact B.b.mr (i+1) d' (by rw[hds];exact hd')
   ·intro i d' hd';cases i with
    |zero=>cases hd';exact .inl (by simp)
    |succ i=>
     rcases B.m (i+1) d' (by rw[hds];exact hd')with e|e|⟨j,d2,hj,hd2,e⟩
     ·exact .inl e
     ·exact .inr (.inl e)
     ·cases j with
      |zero=>
       rw[hds]at hd2;cases hd2;exact .inr (.inr ⟨0,_,hj,rfl,by rw[<-e,hd0n]⟩)
      |succ j=>exact .inr (.inr ⟨j+1,d2,hj,by rw[hds]at hd2;exact hd2,e⟩)
   ·intro d' hd' o ho;rcases An.mp hd' with rfl|z
    ·rw[Av.mp ho];exact B.h d0 (by rw[hds];simp) o0 ho0'
    ·exact B.h d' (by rw[hds];exact Ay _ z) o ho
  ·simp[e9,h6];exact⟨⟨1+x0,x1',1+x2,ds⟩,kv,rfl,A9.mono (by lia),B.b,B.m,B.h⟩
def Jm6{first:Int}(hs:Stm S l)(hr:S[rl]? =some (.rg kvs))(gk:V8 kvs mx)(hmx:mx+45<=90000)(hu:S[u]? =some (csO c))(hq:S[q]? =some (dnO dn))(g:Mn kvs c dn first)(hf:1<=first/\first<=321)(gr:RlOk r)(hh:1<=h):
  Sat (callN T G W (n+7) "_law_block" [.loc l,.int first,.loc u,.loc q,.int h,rlD r,.loc rl] S) (PB S l rl kvs mx first dn):=by
 rw[Jab Jgk rfl];have e1:=Jf3 (W:=W) (n:=n+5) (S:=S) gr hh;have gl:=Jte (h:=h) gr;obtain⟨x,S1,e2,k1,s1,hx⟩:=Jag (W:=W) (n:=n+5) (S:=S) (m:=4) hs (by decide) (by decide);obtain⟨y,S2,e3,k2,s2,hy⟩:=Jag (W:=W) (n:=n+5) (S:=S1) (m:=3) s1 (by decide) (by decide);have a2:Sr S l rl kvs mx S2 kvs:=((Sr.refl hs hr gk).take k1 s1).take k2 s2;have hul:u∉[l,rl]:=by simp;exact⟨hs.ne_cs hu,Jft hr hu⟩
 have hql:q∉[l,rl]:=by
  simp;constructor
  ·rintro rfl;obtain⟨a,e,s,h⟩:=hs;have:=h.symm.trans hq;cases this
  ·rintro rfl;have:=hr.symm.trans hq;cases this
 have fin:∀{S3:Store} {w:Int},Sr S l rl kvs mx S3 kvs->1<=w->Sat ((evB (Cn T G W (n+6)) rest [some (.loc l),some (.int first),some (.loc u),some (.loc q),some (.int h),some (rlD r),some (.loc rl),some (.int w),none,none,none,none,none,none,none,none,none,none] S3).bind Xf) (PB S l rl kvs mx first dn):=λ{S3 w} a3 hw=>by
  refine(Wf0 (W:=W) (n:=n) a3.s a3.r gk hmx (a3.k.get hu hul) (a3.k.get hq hql) g hf gr hh hw).mono ?_;rintro d' S4 ⟨b,kv,e,a4,h1,h2,h3⟩;exact⟨b,kv,e,a3.trans a4,h1,h2,h3⟩
 simp! [Jci,e1,e2,e3];generalize hw:(if 1<Vb r h+x-2 then Vb r h+x-2 else 1)=w;have hw1:1<=w/\w<=2*10^40:=by rw[<-hw];constructor<;>split<;>omega
 by_cases h0:y=0
 ·obtain⟨z,S3,e4,k3,s3,hz⟩:=Jag (W:=W) (n:=n+5) (S:=S2) (m:=w) s2 (by omega) (Io hw1.2 (by decide));simp! [h0,e4];exact fin (a2.take k3 s3) (by omega)
 ·simp! [h0];exact fin a2 hw1.1
def mixed:∃v,callN T G W (n+1) "_law_mixed" [.int x] S=.ok (.int v) S:=by
 rw[Jab Jgj rfl];simp! [Jch,Jai (S:=S) (i:=x) (j:=2147483647) (by decide)];rw[Jbe (by rfl)];simp -implicitDefEqProofs only[Res.bind_ok,Xp,Jh7];rw[Jbe (by rfl)];simp -implicitDefEqProofs only[Res.bind_ok,Xp,Jh7];rw[Jai (by decide)];simp
theorem stream:∃p,callN T G W (n+2) "_law_stream" [.int x,.int k,.bl e] S=.ok (.loc S.length) (S++[p])/\Stm (S++[p]) S.length:=by
 rw[Jab Je3 rfl];obtain⟨v,ev⟩:=mixed (W:=W) (n:=n) (S:=S) (x:=x);simp! [Jby,ev];rw[Jho (by rfl)];simp! [Jai (S:=S) (i:=v+69621*k) (j:=2147483629) (by decide)];have p60:bop .pow (.int 10) (.int 60) S=.ok (.int (10^60)) S:=Ja4 (k:=60) rfl (by decide) (by decide);have m60:bop .mul (.int (10^60)) (.int (10^60)) S=.ok (.int (10^60*10^60)) S:=Jco (by decide);have d60:=Jai (S:=S) (i:=x) (j:=10^60*10^60) (by decide);cases e with
 |false=>
  simp! [Line];exact⟨_,_,_,Jad⟩
 |true=>
  have f2:∀{j:Int},j=1\/j=2->bop .fdiv (.int (x%(10^60*10^60))) (.int j) S=.ok (.int (x%(10^60*10^60)/j)) S:=λhj=>Jaw (by omega) (by omega)
  by_cases hk:k=0
  ·simp -implicitDefEqProofs only[Xu,Juh,w_var,Xv,kTru,Jpw,Res.bind_ok,Ww,if_true,Jnf,Jug,Yl,Jul,v_var,X8,Xp,Jh7,p60,m60,d60,Dc,Bu,Jpr,Vs,Vp,Va,Juj,Zq,Jou,Jdl,hk,decide_true,Jd7,Jcr,f2 (.inr rfl),show(1:Int)+1=2 from rfl];simp! [Line];exact⟨_,_,_,Jad⟩
  ·simp -implicitDefEqProofs only[Xu,Juh,w_var,Xv,kTru,Jpw,Res.bind_ok,Ww,if_true,Jnf,Jug,Yl,Jul,v_var,X8,Xp,Jh7,p60,m60,d60,Dc,Bu,Jpr,Vs,Vp,Va,Juj,Zq,Jou,Jdl,hk,decide_false,Jd7,Jcr,f2 (.inl rfl),show(1:Int)+0=1 from rfl,if_neg Az];simp! [Line];exact⟨_,_,_,Jad⟩
def p8{α0 α1 α2 α3 α4 α5 α6 α7 α8:Type}{r:Res α0}{f1:α0->Store->Res α1}{f2:α1->Store->Res α2}{f3:α2->Store->Res α3}{f4:α3->Store->Res α4}{f5:α4->Store->Res α5}{f6:α5->Store->Res α6}{f7:α6->Store->Res α7}{f8:α7->Store->Res α8}{Q:α0->Store->Prop}{P:α8->Store->Prop}(h:Sat r Q)(k:∀a S,Q a S->Sat ((((((((f1 a S).bind f2).bind f3).bind f4).bind f5).bind f6).bind f7).bind f8) P):Sat ((((((((r.bind f1).bind f2).bind f3).bind f4).bind f5).bind f6).bind f7).bind f8) P:=by
 obtain⟨a,S,rfl,h⟩:=h;exact k a S h
def Joj(hs:Stm S l)(hh:0<=h):Sat (callN T G W (n+2) "_law_next" [.loc l,rlD r,.int h] S) λd S'=>∃h',d=.int h'/\1<=h'/\Keep [l] S S'/\Stm S' l:=by
 rw[Jab Jhy rfl];obtain⟨x,S1,e1,k1,s1,hx⟩:=Jag (W:=W) (n:=n) (S:=S) (m:=2000) hs (by decide) (by decide);simp! [Jdd,e1];rw[if_pos (show 6<=Line by decide)];simp!;have hl1:=s1.lt;refine p5 (Jb7 (m:=6) (s1.ext (.new _ _)) (by decide) (by decide)) ?_;rintro _ S2 ⟨y,rfl,k2,s2,hy⟩;have hL:=k2.get Jav (by simp;omega);have kk:Keep [l] S S2:=(k1.trans (.new _)).trans k2;clear k2;refine Sat.p4 (Jbn hL hy.1 (by simp;omega) (P:=λz=>∃v,z=.int v/\1<=v) ?_) ?_
 ·intro z hz;simp only[An,Bc,or_false]at hz;rcases hz with rfl|rfl|rfl|rfl|rfl|rfl
  ·exact⟨1,rfl,by omega⟩
  ·exact⟨1,rfl,by omega⟩
  ·exact⟨1,rfl,by omega⟩
  ·exact⟨_,rfl,by split<;>omega⟩
  ·exact⟨_,rfl,by split<;>omega⟩
  ·exact⟨_,rfl,by omega⟩
 rintro _ S3 ⟨⟨v,rfl,hv⟩,rfl⟩;simp!;exact⟨by omega,kk,s2⟩
def Jlh(hs:Stm S l):Sat (callN T G W (n+2) "_law_rules" [.loc l] S) λd S'=>∃r,d=rlD r/\RlOk r/\Keep [l] S S'/\Stm S' l:=by
 rw[Jab Jgi rfl];have hl:=hs.lt;have epow:∀S:Store,bop .pow (.int 10) (.int 40) S=.ok (.int 10000000000000000000000000000000000000000) S:=λS=>Ja4 (k:=40) rfl (by decide) (by decide);simp! [Jcg,epow];rw[if_pos (show 6<=Line by decide)];simp!;refine Sat.p4 (Jb7 (m:=6) (hs.ext (.new _ _)) (by decide) (by decide)) ?_;rintro _ S2 ⟨y,rfl,k2,s2,hy⟩;have hL:=k2.get Jav (by simp;omega);have k02:Keep [l] S S2:=(Keep.new _).trans k2;clear k2;refine Sat.p3 (Jbn hL hy.1 (by simp;omega) (P:=λz=>∃v,z=.int v/\0<=v/\v<=10^40) ?_) ?_
 ·intro z hz;simp only[An,Bc,or_false]at hz;rcases hz with rfl|rfl|rfl|rfl|rfl|rfl<;>exact⟨_,rfl,by omega⟩
 rintro _ S3 ⟨⟨va,rfl,hva⟩,rfl⟩;have hl3:=s2.lt;simp!;rw[if_pos (show 4<=Line by decide)];simp!;refine p7 (Jb7 (m:=4) (s2.ext (.new _ _)) (by decide) (by decide)) ?_;rintro _ S4 ⟨y4,rfl,k4,s4,hy4⟩;have hL4:=k4.get Jav (by simp;omega);have k04:Keep [l] S S4:=(k02.trans (.new _)).trans k4;clear k4;refine p6 (Jbn hL4 hy4.1 (by simp;omega) (P:=λz=>∃v,z=.int v/\1<=v/\v<=1000) ?_) ?_
 ·intro z hz;simp only[An,Bc,or_false]at hz;rcases hz with rfl|rfl|rfl|rfl<;>exact⟨_,rfl,by omega⟩
 rintro _ S5 ⟨⟨vb,rfl,hvb⟩,rfl⟩;have hl5:=s4.lt;simp!;rw[if_pos (show 6<=Line by decide)];simp!;refine p8 (Jb7 (m:=6) (s4.ext (.new _ _)) (by decide) (by decide)) ?_;rintro _ S6 ⟨y6,rfl,k6,s6,hy6⟩;have hL6:=k6.get Jav (by simp;omega);have k06:Keep [l] S S6:=(k04.trans (.new _)).trans k6;clear k6;refine p7 (Jbn hL6 hy6.1 (by simp;omega) (P:=λz=>∃v,z=.int v) ?_) ?_
 ·intro z hz;simp only[An,Bc,or_false]at hz;rcases hz with rfl|rfl|rfl|rfl|rfl|rfl<;>exact⟨_,rfl⟩
 rintro _ S7 ⟨⟨vc,rfl⟩,rfl⟩;simp! [Line];exact⟨⟨va,vb,vc⟩,rfl,⟨hva,hvb⟩,k06,s6⟩
def Jxt{es:List D}(h:S[k]? =some (.lst es))(hl:ds.length+es.length<=Line):bop .add (.kl ds) (.loc k) S=.ok (.loc S.length) (S++[.lst (ds++es)]):=by
 show(match S[k]? with|some (.lst b)=>if ds.length+b.length<=Line then Res.ok (D.loc S.length) (S++[Obj.lst (ds++b)])else .bad|_=>.bad)=_;rw[h];exact if_pos hl
def Stm.all(hs:Stm S l')(k:Keep [l] S S')(s:Stm S' l):Stm S' l':=by
 by_cases e:l'=l
 ·rw[e];exact s
 ·exact hs.get (p:=0) k (by simp;exact e)
inductive PSt (d:D) (S':Store):Prop
 |mk (p:Nat) (ls:List Nat) (_:d=.loc p) (_:S'[p]? =some (.lst (ls.map D.loc))) (_:0<ls.length) (_:∀l∈ls,Stm S' l):PSt d S'
theorem Jh8{ns:List Int}(hn:ns.length<=63):Sat (callN T G W (n+3) "_law_streams" [.kl (ns.map D.int)] S) PSt:=by
 rw[Jab Jew rfl];have e1:bop .add (.kl (ns.map D.int)) (.loc S.length) (S++[.lst [.int 0]])=.ok (.loc (S.length+1)) (S++[.lst [.int 0],.lst ((ns++[0]).map D.int)]):=by
  rw[Jxt Jad (by simp[Line];lia)];simp
 have e2:V3 (.loc (S.length+1)) none (some 60) (S++[.lst [.int 0],.lst ((ns++[0]).map D.int)])=.ok (.loc (S.length+2)) (S++[.lst [.int 0],.lst ((ns++[0]).map D.int),.lst (((ns++[0]).take 60).map D.int)]):=by
  rw[Jdu Jc4,Jjk (by decide)];simp[Jg]
 have e3:Yb (.loc (S.length+2)) (S++[.lst [.int 0],.lst ((ns++[0]).map D.int),.lst (((ns++[0]).take 60).map D.int)])=.ok (some (S.length+2,.enm),((ns++[0]).take 60).map D.int) (S++[.lst [.int 0],.lst ((ns++[0]).map D.int),.lst (((ns++[0]).take 60).map D.int)]):=Jl7 Jd2;have hpos:0<((ns++[0]).take 60).length:=by simp;lia
 have hlen:((ns++[0]).take 60).length<=60:=by simp;lia
 generalize hxs:(ns++[0]).take 60=xs at e2 e3 hpos hlen;have hL:(S++[Obj.lst [.int 0],.lst ((ns++[0]).map D.int),.lst (xs.map D.int)])[S.length+2]? =some (.lst (xs.map D.int)):=Jd2;generalize(ns++[0]).map D.int=ys at e1 e2 e3 hL;generalize S++[Obj.lst [.int 0],.lst ys,.lst (xs.map D.int)]=Sb at e2 e3 hL;have fin:∀{e:Bool},Sat (((Wr (Cn T G W (n+2)) 2 [1] (.ttup (.cns (.tvar 0) (.cns (.tvar 1) .nul))) .nul (.call "_law_stream" (.cns (.var 1) (.cns (.var 0) (.cns (.var 2) .nul)))) [some (.kl (ns.map D.int)),some (.bl e)] (some (S.length+2,.enm),xs.map D.int) Sb).bind X9).bind (kB (Cn T G W (n+2)) .nul)|>.bind Xf) PSt:=λ{e}=>by
  refine Sat.p3 (comp (λi acc S'=>∃ls:List Nat,acc=ls.map D.loc/\ls.length=i/\Ext Sb S'/\∀l∈ls,Stm S' l) (by rw[Ah];unfold Line;lia) ⟨[],rfl,rfl,.refl _,by simp⟩ (λi acc S1 ⟨ls,h1,h2,h3,_⟩=>⟨by rw[h1,Ah];lia,Jd5 (h3.get hL)⟩) (λi acc S1 hi ⟨ls,h1,h2,x1,h4⟩=>?_)) ?_
  ·have hx:i<xs.length:=by simpa using hi
   refine⟨.tup [.int i,.int xs[i]],by simp[nth,Ja5 (x1.get hL),hx],?_⟩;obtain⟨p,e5,s5⟩:=stream (W:=W) (n:=n) (S:=S1) (x:=xs[i]) (k:=i) (e:=e);rw[Jaj];simp[U2,e5];refine⟨ls++[S1.length],by simp[h1],by simp[h2],x1.trans (.new _ _),λz hz=>?_⟩;rcases Bt.mp hz with z1|z1
   ·exact(h4 z z1).ext (.new _ _)
   ·rw[Av.mp z1];exact s5
  ·rintro _ _ ⟨ys,S0,⟨ls,rfl,h2,x0,h4⟩,rfl,rfl⟩;simp;exact⟨_,ls,rfl,Jad,by rw[Ah]at h2;lia,λz hz=>(h4 z hz).ext (.new _ _)⟩
 cases ns with
 |nil=>
  simp[Ja9];rw[if_pos (show 1<=Line by decide)];simp only[F5]at e1 fin;simp[e1,e2,e3];exact fin
 |cons x ns=>
  have i0:Jao (.kl (D.int x::ns.map D.int)) (.int 0) S=.ok (.int x) S:=by simp only[Jao];rw[show idxD (.kl (D.int x::ns.map D.int)) (.int 0) S=some (.int x)from Jw0 (at0 (k:=0) rfl)]
  simp[Ja9,i0,Jai (S:=S) (i:=x) (j:=2) (by decide)];rw[if_pos (show 1<=Line by decide)];simp only[Aw]at e1 fin;simp[e1,e2,e3];exact fin
inductive PBg (d:D) (S':Store):Prop
 |mk (p:Nat) (ls:List Nat) (r:Rl) (h:Int) (_:d=.tup [.loc p,rlD r,.int h]) (_:S'[p]? =some (.lst (ls.map D.loc))) (_:ls.length<=17) (_:(∀l∈ls,Stm S' l)) (_:RlOk r) (_:0<=h):PBg d S'
def Jm8{ns:List Int}(hn:ns.length<=63):Sat (callN T G W (n+4) "_law_begin" [.kl (ns.map D.int)] S) PBg:=by
 rw[Jab Jgl rfl];obtain⟨_,S1,e1,p,ls,rfl,hp,hl0,hst⟩:=Jh8 (W:=W) (n:=n) (S:=S) hn;have c1:V3 (.loc p) none (some 17) S1=.ok (.loc S1.length) (S1++[.lst ((ls.take 17).map D.loc)]):=by
  rw[Jdu hp,Jjk (by decide),Jg];rfl
 obtain⟨l0,ls1,hls⟩:∃l0 ls1,ls.take 17=l0::ls1:=by
  cases ls with
  |nil=>cases hl0
  |cons a b=>exact⟨a,b.take 16,rfl⟩
 have hll:ls1.length<=16:=by
  have h1:=congrArg I8 hls;rw[F6,A7]at h1
  lia
 have hst2:∀l∈l0::ls1,Stm (S1++[.lst ((l0::ls1).map D.loc)]) l:=λl hl=>(hst l (Kl (hls▸hl))).ext (.new _ _);rw[hls]at c1;have hp2:(S1++[Obj.lst ((l0::ls1).map D.loc)])[S1.length]? =some (.lst ((l0::ls1).map D.loc)):=Jad;have i0:∀{S:Store},S[S1.length]? =some (.lst ((l0::ls1).map D.loc))->Jao (.loc S1.length) (.int 0) S=.ok (.loc l0) S:=λh=>Jau h (at0 (k:=0) rfl);have hne:∀{S:Store},Stm S l0->S[S1.length]? =some (.lst ((l0::ls1).map D.loc))->S1.length≠l0:=λhs h e=>by
  obtain⟨a,b,s,h2⟩:=hs;rw[<-e,h]at h2;simp at h2
 simp[Jcj,e1,c1];simp only[Aw]at hp2 hst2 i0 hne;generalize S1++[Obj.lst (D.loc l0::ls1.map D.loc)]=S2 at hp2 hst2;obtain⟨_,S3,e3,r,rfl,hr,k3,s3⟩:=Jlh (W:=W) (n:=n+1) (hst2 l0 (by simp));have hp3:=k3.get hp2 (by simp;exact hne (hst2 l0 (by simp)) hp2);have st3:∀l∈l0::ls1,Stm S3 l:=λl hl=>(hst2 l hl).all k3 s3;have p20:∀S:Store,bop .pow (.int 10) (.int 20) S=.ok (.int 100000000000000000000) S:=λS=>Ja4 (k:=20) rfl (by decide) (by decide);obtain⟨x,S4,e4,k4,s4,hx⟩:=Jag (W:=W) (n:=n+2) (S:=S3) (m:=100000000000000000000) s3 (by decide) (by decide);have hp4:=k4.get hp3 (by simp;exact hne s3 hp3);have st4:∀l∈l0::ls1,Stm S4 l:=λl hl=>(st3 l hl).all k4 s4;simp[i0 hp2,e3,i0 hp3,p20,e4];rw[if_pos (show 4<=Line by decide)];simp[i0 (Jah hp4)];refine Sat.p4 (Jb7 (m:=4) (s4.ext (.new _ _)) (by decide) (by decide)) ?_;rintro _ S5 ⟨y,rfl,k5,s5,hy⟩;have hl04:=s4.lt;have hL:=k5.get Jav (by simp;lia);have hp5:=k5.get (Jah hp4) (by simp;exact hne s4 hp4);have st5:∀l∈l0::ls1,Stm S5 l:=λl hl=>((st4 l hl).ext (.new _ _)).all k5 s5;clear k5;refine Sat.p3 (Jbn hL hy.1 (by simp;lia) (P:=λz=>∃v,z=.int v/\0<=v) ?_) ?_
 ·intro z hz;simp only[An,Bc,or_false]at hz;rcases hz with rfl|rfl|rfl|rfl<;>exact⟨_,rfl,by lia⟩
 rintro _ S6 ⟨⟨v,rfl,hv⟩,rfl⟩;have c2:V3 (.loc S1.length) (some 1) none S6=.ok (.loc S6.length) (S6++[.lst (ls1.map D.loc)]):=by
  rw[Jdu hp5,Jgd (by decide)];rfl
 obtain⟨o,e7,s7⟩:=stream (W:=W) (n:=n+1) (S:=S6++[.lst (ls1.map D.loc)]) (x:=7) (k:=17) (e:=false);simp at e7 s7;simp[c2,e7];rw[if_pos (show 1<=Line by decide)];simp;rw[Jcq (S:=S6++[.lst (ls1.map D.loc),o,.lst [.loc (S6.length+1)]]) Jav Jd2 (by simp[Line];lia)];simp[Line];refine⟨_,ls1++[S6.length+1],r,v,rfl,?_,by simp;lia,λl hl=>?_,hr,hv⟩
 ·rw[show S6.length+3=S6.length+3 from rfl,Jeu];simp
 ·rcases Bt.mp hl with z|z
  ·exact(st5 l (Ay _ z)).ext (.new _ _)
  ·rw[Av.mp z];refine s7.ext ⟨[.lst [.loc (S6.length+1)],.lst (ls1.map D.loc++[.loc (S6.length+1)])],by simp⟩
theorem Jji{f:D->D->Option Bool}:∀{xs:List D},(∀x∈xs,f x x=some true)->eqL f xs xs=some true
 |[],_=>rfl
 |a::r,h=>by simp only[eqL,h a (by simp),Jji λx hx=>h x (Ay _ hx),Ob]
def eq_int:eqD S (k+1) (.int x) (.int x)=some true:=by simp[eqD,Vg,eqV]
def Jzf(x:Rw):eqD S (k+1+1) (rD x) (rD x)=some true:=by
 cases x<;>simp[rD,eqD,eqL,Vg,eqV]
def Jzg:eqD S Deep (kpD k) (kpD k)=some true:=by
 rw[show Deep=8+1+1+1+1 from rfl];have h1:eqL (eqD S (8+1+1)) (k.lk.map rD) (k.lk.map rD)=some true:=Jji λx hx=>by
  obtain⟨y,_,rfl⟩:=Bd.mp hx;exact Jzf (k:=8) y
 have h2:eqD S (8+1+1+1) (.tup (k.lk.map rD)) (.tup (k.lk.map rD))=some true:=by
  rw[eqD,if_pos rfl];exact h1
 unfold kpD;rw[eqD,if_pos rfl];simp only[eqL,eq_int,h2,Ob]
def Jsz(g:Gc c)(h1:S[x]? =some (csO c))(h2:S[y]? =some (csO c)):cop .ne (.loc x) (.loc y) S=some false:=by
 have:X4 S (.loc x) (.loc y)=some false:=by
  simp only[X4,dtAt,h1,h2];rw[if_pos];refine⟨trivial,?_⟩;rw[Ei];intro p hp;obtain⟨z,hz,rfl⟩:=Bd.mp hp;simp only[Jba,Jin g.nd hz,Fd,Jzg];rfl
 simp only[cop,this]
structure Lw(S:Store)(p L u q uc qc rl:Nat)(ls:List Nat)(kv:Kv)(mx:Nat)(c:Cs)(dn:List Int)(m:Int):Prop where
 p:S[p]? =some (.lst (ls.map D.loc))
 st:∀l∈ls,Stm S l
 r:S[rl]? =some (.rg kv)
 g:V8 kv mx
 mn:Mn kv c dn m
 h:Hd S L u q c dn
 u:S[uc]? =some (csO c)
 q:S[qc]? =some (dnO dn)
section
variable {p uc qc:Nat} {ls:List Nat} {kv:Kv}
def Lw.ext(w:Lw S p L u q uc qc rl ls kv mx c dn m)(x:Ext S S'):Lw S' p L u q uc qc rl ls kv mx c dn m:=⟨x.get w.p,λl hl=>(w.st l hl).ext x,x.get w.r,w.g,w.mn,w.h.ext x,x.get w.u,x.get w.q⟩
theorem Sr.get{kv':Kv}{x:Nat}{o:Mi.Obj}(a:Sr S l rl kv mx S' kv')(hs:Stm S l)(hr:S[rl]? =some (.rg kv))(hx:S[x]? =some o)(h1:∀a e s,o≠ .lst [.int a,.bl e,.int s])(h2:∀k,o≠ .rg k):S'[x]? =some o:=by
 refine a.k.get hx ?_;intro z;rcases An.mp z with rfl|z
 ·obtain⟨y,e,s,h⟩:=hs;rw[h]at hx;cases hx;exact h1 _ _ _ rfl
 ·rw[Av.mp z,hr]at hx;cases hx;exact h2 _ rfl
def Lw.sr{kv':Kv}{my:Nat}(w:Lw S p L u q uc qc rl ls kv mx c dn m)(hl:l∈ls)(a:Sr S l rl kv my S' kv'):Lw S' p L u q uc qc rl ls kv' my c dn m:=by
 have hs:=w.st l hl;refine⟨a.get hs w.r w.p ?_ nofun,λl' hl'=>?_,a.r,a.g,w.mn.ring a.m,⟨a.get hs w.r w.h.l nofun nofun,a.get hs w.r w.h.u nofun nofun,a.get hs w.r w.h.q nofun nofun⟩,a.get hs w.r w.u nofun nofun,a.get hs w.r w.q nofun nofun⟩
 ·intro a e s z;cases ls<;>simp at z
 ·by_cases e:l'=l
  ·rw[e];exact a.s
  ·refine(w.st l' hl').get (p:=0) a.k ?_;simp;exact⟨e,(w.st l' hl').ne_rg w.r⟩
end
noncomputable abbrev eL(sc:D)(p:Nat)(r:Rl)(h:Int)(L uc qc rl:Nat)(a8 a9 a10 a11 a12 a13 a14 a15:Option D):En:=[some sc,some (.loc p),some (rlD r),some (.int h),some (.loc L),some (.loc uc),some (.loc qc),some (.loc rl),a8,a9,a10,a11,a12,a13,a14,a15]
inductive ILaw (sc:D) (p L u q rl:Nat) (ls:List Nat) (r:Rl) (i:Nat) (Z:En) (S':Store):Prop
 |mk (h:Int) (uc qc:Nat) (kv:Kv) (c:Cs) (dn:List Int) (a8 a9 a10 a11 a12 a13 a14 a15:Option D) (_:Z=eL sc p r h L uc qc rl a8 a9 a10 a11 a12 a13 a14 a15) (_:0<=h) (_:Lw S' p L u q uc qc rl ls kv (45*i) c dn (20*i+1)):ILaw sc p L u q rl ls r i Z S'
def Jkv(w:Lw S p L u q uc qc rl ls kv mx c dn m)(hm:mx<=45*(i+1))(hm2:m<=20*(i+1:Nat)+1)(gb:BkOk b.ds)(hh:1<=h):
  Sat (evB (Cn T G W (n+9)) tlL (eL sc p r h L uc qc rl a8 a9 (some (bkD b)) a11 a12 a13 a14 a15) S) (FlP (ILaw sc p L u q rl ls r (i+1)) noR):=by
 have e1:=held (W:=W) (n:=n+8) w.h w.mn.gc w.mn.upB;have w1:=w.ext (.new S [csO c]);have e2:=Jsz w1.mn.gc (Jad (S:=S) (o:=csO c)) w1.u;simp[tlL,e1,w.h.rc (m:="held")];generalize S++[csO c]=S1 at e2 w1;have e3:=total (W:=W) (n:=n+8) w1.h w1.mn.gc;have w2:=w1.ext (.new S1 [pl (c.map (·.2.w))]);simp[e2,e3,w1.h.rc (m:="total")];generalize S1++[pl (c.map (·.2.w))]=S2 at w2;have e4:=Jut (C:=Cn T G W (n+9)) (b:=false) (keep:=[5]) (el:=.idx (.idx (.var 1) (.var 0)) (.cst (.int 0))) (Z:=eL sc p r h L uc qc rl a8 a9 (some (bkD b)) a11 a12 a13 a14 a15) w2.u w2.mn.gc λp hp=>by
  obtain⟨z,hz,rfl⟩:=Bd.mp hp;have e5:dVal (cp c) z.1=some (kpD z.2):=by rw[Jba,Jin w2.mn.gc.nd hz];rfl
  simp[Jaj,U2,dwI,hdD,Js6 (Ci (Ja0 w2.u)) e5,kpD]
 have w3:=w2.ext (.new S2 [pl (c.map (·.2.w))]);simp[e4,Jdn];generalize S2++[pl (c.map (·.2.w))]=S3 at w3;have hbl:=gb.l;rw[Ja6 (xs:=b.ds) ddD (λ_=>.bl true) (by lia) (.inl rfl) (λx _=>by
  have e9:=did (W:=W) (n:=n+8) (x:=x.n) w3.h;simp[Jaj,U2,w3.h.rc (m:="did"),e9,Jjl w3.q])]
 simp only[Res.bind_ok,Vp,Vs,Va,Zy];rw[Jg1 (λ_=>true)];simp;have w4:=w3.ext (.new S3 [.lst (b.ds.map λ_=>.bl true)]);exact⟨h,uc,qc,kv,c,dn,_,_,_,_,_,_,_,_,rfl,by lia,⟨w4.p,w4.st,w4.r,⟨Bw w4.g.l hm,w4.g.k⟩,w4.mn.mono hm2,w4.h,w4.u,w4.q⟩⟩
theorem Jop(hI:ILaw sc p L u q rl ls r i Z S)(hl:l∈ls)(hi:i<=16)(gr:RlOk r):
  Sat (Wm (Cn T G W (n+9)) (.ttup (.cns (.tvar 8) (.cns (.tvar 9) .nul))) Zl (.tup [.int i,.loc l]) Z S) (FlP (ILaw sc p L u q rl ls r (i+1)) noR):=by
 obtain⟨h,uc,qc,kv,c,dn,a8,a9,a10,a11,a12,a13,a14,a15,rfl,hh,w⟩:=hI;obtain⟨_,S1,e1,h1,rfl,hh1,k1,s1⟩:=Joj (W:=W) (n:=n+7) (r:=r) (w.st l hl) hh;have w1:=w.sr hl ((Sr.refl (w.st l hl) w.r w.g).take k1 s1);have em:bop .mul (.int 20) (.int i) S1=.ok (.int (20*i)) S1:=Jho rfl;obtain⟨_,S2,e2,b,kv2,rfl,a2,gb,hnum,hhs⟩:=Jm6 (W:=W) (n:=n+2) (h:=h1) (r:=r) (first:=20*(i:Int)+1) s1 w1.r w1.g (by lia) w1.u w1.q w1.mn (by lia) gr hh1;have w2:=w1.sr hl a2;obtain⟨f,S3,e3,x3,hacc⟩:=Jmr (W:=W) (n:=n+3) (h:=h1) (b:=b) w2.u w2.q w2.mn.gc w2.mn.gd gr gb hh1;have w3:=w2.ext x3;rw[Jas];simp[Zl,e1,em,e2,e3,-bwD];cases hb:bfP r h1 c dn b.ds with
 |some x=>
  obtain⟨x1,x2⟩:=x;simp;exact Jkv (W:=W) (n:=n) w3 (by lia) (by lia) gb hh1
 |none=>
  obtain⟨v,S7,e8,⟨x,ys,rfl,hx,hy⟩,k7,hd7,gc7,gd7⟩:=do_block (W:=W) (n:=n) w3.h w3.mn.gc w3.mn.gd gr gb hh1 hb;obtain⟨hu3,hq3⟩:=hacc hb;have lu:=Ja0 w2.h.u;have lq:=Ja0 w2.h.q;have kp:∀{x:Nat} {o:Mi.Obj},S3[x]? =some o->(∀z,o≠ .dtu z)->(∀z,o≠ .dct z)->S7[x]? =some o:=λ{x o} hx h1 h2=>by
   refine k7.get hx ?_;intro z;rcases An.mp z with rfl|z
   ·rw[w3.h.u]at hx;cases hx;exact h1 _ rfl
   ·rw[Av.mp z,w3.h.q]at hx;cases hx;exact h2 _ rfl
  have hz1:(goP h1 r.c 0 c dn 0 b.ds).1=none:=by
   unfold bfP at hb;split at hb
   ·cases hb
   ·assumption
  have mn7:=Jqp gb hnum hhs hz1 b.ds.length 0 c dn 0 (by lia) (by simpa using w2.mn) (λx hx=>hx) (λj d' hj=>by lia) rfl;have hbl:=gb.l;have w7:Lw S7 p L u q S2.length (S2.length+1) rl ls kv2 (45*i+45) (goP h1 r.c 0 c dn 0 b.ds).2.1 (goP h1 r.c 0 c dn 0 b.ds).2.2.1 (20*(i:Int)+1+b.ds.length):=
   ⟨kp w3.p nofun nofun,λl' hl'=>by obtain⟨a,e,s,hs⟩:=w3.st l' hl';exact⟨a,e,s,kp hs nofun nofun⟩,kp w3.r nofun nofun,w3.g,mn7,hd7,k7.get hu3 (by simp;lia),k7.get hq3 (by simp;lia)⟩
  simp[e8,tyD,hx,isiD,Jat hx,hy];exact Jkv (W:=W) (n:=n) w7 (by lia) (by lia) gb hh1
def PT(d:D)(S:Store):Prop:=d=.bl true
theorem Jwd{ns:List Int}(hn:ns.length<=63):Sat (callN T G W (n+10) "law" [.kl (ns.map D.int)] []) PT:=by
 rw[Jab Jt7 rfl];obtain⟨_,S1,e1,p,ls,r,h0,rfl,hp,hll,hst,gr,hh0⟩:=Jm8 (W:=W) (n:=n+5) (S:=[]) hn;have e2:=init (W:=W) (n:=n+8) (S:=S1);simp[Jth,e1,e2];generalize hS2:S1++[Obj.ins "Hoard" [("unspent",.loc (S1.length+1)),("done",.loc (S1.length+2))],.dtu [],.dct [],.dtu [],.dct [],.rg []]=S2;have x2:Ext S1 S2:=⟨_,hS2.symm⟩
 have g:∀(k:Nat) (o:Mi.Obj),([Obj.ins "Hoard" [("unspent",.loc (S1.length+1)),("done",.loc (S1.length+2))],.dtu [],.dct [],.dtu [],.dct [],.rg []]:List Mi.Obj)[k]? =some o->S2[S1.length+k]? =some o:=λk o e=>by rw[<-hS2,Jeu];exact e
 have w0:Lw S2 p S1.length (S1.length+1) (S1.length+2) (S1.length+3) (S1.length+4) (S1.length+5) ls [] 0 [] [] 1:=by
  refine⟨x2.get hp,λl hl=>(hst l hl).ext x2,g 5 _ rfl,⟨by simp,by simp⟩,⟨⟨by simp,by simp⟩,⟨by simp,by simp⟩,by simp,by simp,by simp,by simp⟩,⟨g 0 _ rfl,g 1 _ rfl,g 2 _ rfl⟩,g 3 _ rfl,g 4 _ rfl⟩
 clear hS2 g;have e3:=Jl7 w0.p;generalize(D.kl (ns.map D.int))=sc;simp[e3];refine Sat.p2 (Wd0 (ILaw sc p S1.length (S1.length+1) (S1.length+2) (S1.length+5) ls r) noR ⟨h0,_,_,[],[],[],_,_,_,_,_,_,_,_,rfl,hh0,w0⟩ (λi Z S h=>by obtain⟨_,_,_,_,_,_,_,_,_,_,_,_,_,_,_,_,w⟩:=h;exact w.p) ?_) ?_
 ·intro i d Z S3 hd hI;rw[Ao]at hd;obtain⟨l,hl,rfl⟩:=Ak.mp hd;have:=(Ae.mp hl).1;exact Jop (W:=W) (n:=n) hI (Ba hl) (by lia) gr
 ·intro fl S3 hF;obtain⟨Z,rfl,h,uc,qc,kv,c,dn,a8,a9,a10,a11,a12,a13,a14,a15,rfl,hh,w⟩:=hF.nx;simp;rfl
end
def run(ns:List Int)(hn:ns.length<=63):∃S',callN T G 100 30 "law" [.kl (ns.map D.int)] []=.ok (.bl true) S':=by
 obtain⟨_,S',e,rfl⟩:=Jwd (W:=100) (n:=20) hn;exact⟨S',e⟩
def Jbg{p:Prop}[Decidable p]{α:Type}{a d:α}{b:Option α}(h:(if p then some a else b)=some d):(p/\a=d)\/b=some d:=by by_cases e:p<;>simp_all
noncomputable def top(i:Nat):Stmt:=PySem.Challenge.pw_spentonce_k23_block_done.main.body.getD i (.Pass ⟨0,0,0,0⟩)
noncomputable def B:List String:=["len","range","sum","max","min","enumerate","abs","set","tuple","int","sorted","dict","list","isinstance","all","zip"]
noncomputable def FL:List (String×Nat):=[("is_maker",6),("made_by",7),("worth_of",8),("gift",10),("block_fault",11),("do_block",12),("free_from",13),("worth_of_makers",14),("opens",20),("is_done",21),("lay",22),("turn",23),("do_row",24),("has_enough",25),("take",26),("laid_by",27),("paid_at",28),("outcome",29),("spent_by",36),("has_twice",37),("facts_of",38),("_law_mixed",40),("_law_stream",41),("_law_take",42),("_law_streams",43),("_law_lock",44),("_law_outs",45),("_law_in",46),("_law_deed",47),("_law_word",48),("_law_put",49),("_law_gift",50),("_law_done",51),("_law_block",52),("_law_rules",53),("_law_begin",54),("_law_next",55),("law",56)]
noncomputable def F:List String:=FL.map (·.1)
noncomputable def O:Ow:=⟨[("Hoard","__init__","Hoard.__init__"),("Hoard","copied","Hoard.copied"),("Hoard","held","Hoard.held"),("Hoard","total","Hoard.total"),("Hoard","did","Hoard.did"),("Hoard","fault","Hoard.fault"),("Hoard","fault_of_in","Hoard.fault_of_in"),("Hoard","fee","Hoard.fee"),("Hoard","worth_spent","Hoard.worth_spent"),("Hoard","do","Hoard.do")],[("Hoard","unspent"),("Hoard","done")],[("Hoard","Hoard.__init__")]⟩
noncomputable def Wed:Stmt->List Stmt
 |.ClassDef _ _ _ b _ _ _ _ _ _ _=>b
 |_=>[]
noncomputable def Uz(i j:Nat):Stmt:=(Wed (top i)).getD j (.Pass ⟨0,0,0,0⟩)
def Fk(f:Fn)(s:Stmt):Prop:=(defScope s).kind=.function/\(defScope s).isCoroutine=false/\(defScope s).isGenerator=false/\(f.N.map Ab).Nodup/\(f.N.map Ab).take (f.ps.map Ab).length=f.ps.map Ab/\(∀x∈f.ps.map Ab,(defScope s).names.lookup x=some .local\/(defScope s).names.lookup x=some .cell)/\(∀y∈(defScope s).names,y.2≠ .free)/\V7 f.body ⟨f.N.map Ab,(defScope s).names,true,B,F,O⟩ (Uw s)=true
def Fk.sc{f:Fn}(k:Fk f s):Vq (f.N.map Ab) (f.ps.map Ab) (defScope s):=⟨k.1,k.2.1,k.2.2.1,k.2.2.2.1,k.2.2.2.2.1,k.2.2.2.2.2.1,k.2.2.2.2.2.2.1⟩
def Fk.ck{f:Fn}(k:Fk f s):V7 f.body ⟨f.N.map Ab,(defScope s).names,true,B,F,O⟩ (Uw s)=true:=k.2.2.2.2.2.2.2
abbrev Fe(K:Af)(x:String)(i:Nat):Prop:=FE K (Ab x) (top i)
abbrev Be(K:Af)(x:String):Prop:=Bb K Ax (Ab x)=some none
def txt{K:Af}{mg:Str->Option Value}{h:Heap}(KX:K.In h)(hG:h.Ns Ax mg)(np:npB K=true)(fe:∀x∈FL,Fe K x.1 x.2)(be:∀x∈B,Be K x)(cf:CF K (Ab "Hoard"))(nw:NW K (Ab "Hoard"))(n0:NF K (Ab "Hoard") (Ab "unspent"))(n1:NF K (Ab "Hoard") (Ab "done"))(m0:MF K (Ab "Hoard") (Ab "__init__") (Ab "Hoard.__init__") (Uz 35 0))(m1:MF K (Ab "Hoard") (Ab "copied") (Ab "Hoard.copied") (Uz 35 1))(m2:MF K (Ab "Hoard") (Ab "held") (Ab "Hoard.held") (Uz 35 2))(m3:MF K (Ab "Hoard") (Ab "total") (Ab "Hoard.total") (Uz 35 3))(m4:MF K (Ab "Hoard") (Ab "did") (Ab "Hoard.did") (Uz 35 4))(m5:MF K (Ab "Hoard") (Ab "fault") (Ab "Hoard.fault") (Uz 35 5))(m6:MF K (Ab "Hoard") (Ab "fault_of_in") (Ab "Hoard.fault_of_in") (Uz 35 6))(m7:MF K (Ab "Hoard") (Ab "fee") (Ab "Hoard.fee") (Uz 35 7))(m8:MF K (Ab "Hoard") (Ab "worth_spent") (Ab "Hoard.worth_spent") (Uz 35 8))(m9:MF K (Ab "Hoard") (Ab "do") (Ab "Hoard.do") (Uz 35 9))(g0:Bb K Ax (Ab "MOST_LYING")=some (some (.int 20 t0)))(g1:GV K (Ab "TAKEN") (.kd [("drop",1),("swap",2),("add",2),("sub",2),("mul",2),("less",2),("same",2),("not",1),("need",1)]))(g2:Bb K Ax (Ab "PAID")=some (some (.int 5 t2)))(g3:GV K (Ab "FACT_WORDS") (.tup [.str "height",.str "age",.str "worth",.str "ins",.str "outs"]))(g4:Bb K Ax (Ab "MADE")=some (some (.int 2 t4)))(g5:Bb K Ax (Ab "WORTH")=some (some (.int 0 t5)))(g6:Bb K Ax (Ab "FREE")=some (some (.int 3 t6)))(g7:Bb K Ax (Ab "LOCK")=some (some (.int 1 t7))):Txt K mg T G B F O where
 fns:=by
  intro x hx;obtain⟨y,hy,rfl⟩:=Bd.mp hx;have e:=fe y hy;simp only[FL,An,Bc,or_false]at hy;rcases hy with rfl|rfl|rfl|rfl|rfl|rfl|rfl|rfl|rfl|rfl|rfl|rfl|rfl|rfl|rfl|rfl|rfl|rfl|rfl|rfl|rfl|rfl|rfl|rfl|rfl|rfl|rfl|rfl|rfl|rfl|rfl|rfl|rfl|rfl|rfl|rfl|rfl|rfl<;>
   (refine Jw5 KX hG e rfl (Fk.sc ?k) (Fk.ck ?k) ?b;(case k=>exact⟨rfl,rfl,rfl,by decide+kernel⟩);(case b=>intro _ _ _ _ _ _;first|exact Zj λ_=>rfl|exact Zi λ_ _=>rfl|exact Zh λ_ _ _=>rfl|exact Zg λ_ _ _ _=>rfl|exact Zf λ_ _ _ _ _=>rfl|exact Ze λ_ _ _ _ _ _ _=>rfl))
 np:=np
 blt x hx:=Jzb KX hG (be x hx)
 gl:=by
  intro x d hd;unfold G at hd;rcases Jbg hd with⟨rfl,rfl⟩|hd
  ·exact Jkd KX hG g0
  rcases Jbg hd with⟨rfl,rfl⟩|hd
  ·exact Jw4 KX hG g1
  rcases Jbg hd with⟨rfl,rfl⟩|hd
  ·exact Jkd KX hG g2
  rcases Jbg hd with⟨rfl,rfl⟩|hd
  ·exact Jw4 KX hG g3
  rcases Jbg hd with⟨rfl,rfl⟩|hd
  ·exact Jkd KX hG g4
  rcases Jbg hd with⟨rfl,rfl⟩|hd
  ·exact Jkd KX hG g5
  rcases Jbg hd with⟨rfl,rfl⟩|hd
  ·exact Jkd KX hG g6
  rcases Jbg hd with⟨rfl,rfl⟩|hd
  ·exact Jkd KX hG g7
  cases hd
 mts:=by
  intro c m f hf;simp only[O,An,Bc,or_false,Kk]at hf;rcases hf with⟨rfl,rfl,rfl⟩|⟨rfl,rfl,rfl⟩|⟨rfl,rfl,rfl⟩|⟨rfl,rfl,rfl⟩|⟨rfl,rfl,rfl⟩|⟨rfl,rfl,rfl⟩|⟨rfl,rfl,rfl⟩|⟨rfl,rfl,rfl⟩|⟨rfl,rfl,rfl⟩|⟨rfl,rfl,rfl⟩<;>
   (refine' Jqh cf ?e rfl (Fk.sc ?k) (Fk.ck ?k) ?b;(case e=>assumption);(case k=>exact⟨rfl,rfl,rfl,by decide+kernel⟩);(case b=>intro _ _ _ _ _ _;first|exact Zj λ_=>rfl|exact Zi λ_ _=>rfl|exact Zh λ_ _ _=>rfl|exact Zg λ_ _ _ _=>rfl|exact Zf λ_ _ _ _ _=>rfl|exact Ze λ_ _ _ _ _ _ _=>rfl))
 fds:=by
  intro c f hf;simp only[O,An,Bc,or_false,Kk]at hf;rcases hf with⟨rfl,rfl⟩|⟨rfl,rfl⟩
  ·exact Jqs cf n0
  ·exact Jqs cf n1
 nws:=by
  intro c f hf;simp only[O,An,Bc,or_false,Kk]at hf;obtain⟨rfl,rfl⟩:=hf;exact Jv4 KX hG cf nw (by refine Jqh cf m0 rfl (Fk.sc ?k) (Fk.ck ?k) ?b;(case k=>exact⟨rfl,rfl,rfl,by decide+kernel⟩);(case b=>intro _ _ _ _ _ _;first|exact Zj λ_=>rfl|exact Zi λ_ _=>rfl|exact Zh λ_ _ _=>rfl|exact Zg λ_ _ _ _=>rfl|exact Zf λ_ _ _ _ _=>rfl|exact Ze λ_ _ _ _ _ _ _=>rfl))
open PySem L2 Mi PySem.W
noncomputable abbrev kE(P:Er)(x:Str)(t:Nat)(v:Value):B6:=⟨PyData.keyHash P x,.str x t,v⟩
noncomputable def q:Program:={PySem.Challenge.pw_spentonce_k23_block_done with main:={PySem.Challenge.pw_spentonce_k23_block_done.main with body:=[0,2,3,4,6,7,8,10,11,12,13,14,16,17,18,19,20,21,22,23,24,25,26,27,28,29,31,32,33,34,35,36,37,38,40,41,42,43,44,45,46,47,48,49,50,51,52,53,54,55,56].map top}}
noncomputable abbrev yT(xs:Array Value):A5:=⟨.type "tuple",none,.seq xs 0,#[]⟩
noncomputable abbrev yN:A5:=⟨.none,none,.fields #[],#[]⟩
noncomputable abbrev yC(n:Str)(a b c:Nat)(l:Int)(x y z u:Int)(r:Nat)(f:Bool)(r2:Nat)(v1 v2 v3 v4:Value)(h:Int)(k:Nat):A5:=⟨.type "code",none,.fields #[.str n a,.str n b,.str "/claim/cut.py" c,.int l 0,.int x 0,.int y 0,.int z 0,.int u 0,.ref r,.bool f,.int 181 0,.ref r2,v1,v2,v3,v4,.int h 0,.int l 0,.str "/claim/cut.py" k],#[]⟩
noncomputable abbrev yQ(n:Str)(t:Stmt):A5:=⟨.none,none,.func ⟨n,n,Ux t,.stmts (Uw t),defScope t,0,[],.none,.none,.none,.none,none,.none,.none,0⟩,#[]⟩
noncomputable abbrev yU(n:Str)(t:Stmt)(m:Str)(k c:Nat):A5:=⟨.type "function",none,.func ⟨n,n,Ux t,.stmts (Uw t),defScope t,3,[],.none,.none,.none,.str m k,none,.ref c,.none,0⟩,#[]⟩
noncomputable abbrev yF(xs:List (Int×Nat)):A5:=⟨.none,none,.fields ⟨xs.flatMap λp=>[.int p.1 0,.int 0 0,.ref p.2]⟩,#[]⟩
noncomputable abbrev yD(xs:List B6):A5:=⟨.type "dict",none,.dict ⟨xs⟩ xs.length,#[]⟩
noncomputable abbrev o11:=yT #[]
noncomputable abbrev o16:=yN
noncomputable abbrev o17:=yT #[(.str "k" 190)]
noncomputable abbrev o20:=yC "_wall" 187 188 189 1 1 0 0 3 15 true 16 .none (.ref 17) (.ref 18) (.ref 19) 191 192
noncomputable abbrev o21:=yU "_wall" (top 0) "__main__" 164 20
noncomputable abbrev o22:=yT #[(.type "ValueError")]
noncomputable abbrev o23:A5:=⟨(.type "builtin_function_or_method"),none,(.fields #[(.builtin "type.__prepare__"),(.type "type")]),#[]⟩
noncomputable abbrev o30(P:Er):A5:=⟨(.type "dict"),none,(.dict #[kE P "__module__" 203 (.str "spentonce.errors" 194),kE P "__firstlineno__" 207 (.int 5 206),kE P "__static_attributes__" 208 (.ref 29),kE P "__weakref__" 210 (.ref 32),kE P "__doc__" 211 .none] 3),#[]⟩
noncomputable abbrev o31:A5:=⟨(.type "type"),none,(.cls ⟨"CoinError",[(.type "ValueError")],[(.ref 31),(.type "ValueError"),(.type "Exception"),(.type "BaseException"),(.type "object")],30,"CoinError",true,[],[(.ref 44),(.ref 56)],false,none,false⟩),#[(some (.ref 22)),none,(some (.str "CoinError" 196)),(some (.str "CoinError" 204)),(some (.builtin "ValueError.__new__")),(some (.bool true))]⟩
noncomputable abbrev o32:A5:=⟨(.type "getset_descriptor"),none,(.fields #[(.str "__weakref__" 209),(.ref 31),(.builtin "ExceptionGroup.__weakref__"),.none]),#[]⟩
noncomputable abbrev o35:=yT #[(.ref 31)]
noncomputable abbrev o43(P:Er):A5:=⟨(.type "dict"),none,(.dict #[kE P "__module__" 221 (.str "spentonce.errors" 194),kE P "__firstlineno__" 225 (.int 7 224),kE P "__static_attributes__" 226 (.ref 42),kE P "__doc__" 227 .none] 2),#[]⟩
noncomputable abbrev o44:A5:=⟨(.type "type"),none,(.cls ⟨"NoFit",[(.ref 31)],[(.ref 44),(.ref 31),(.type "ValueError"),(.type "Exception"),(.type "BaseException"),(.type "object")],43,"NoFit",true,[],[],false,none,false⟩),#[(some (.ref 35)),none,(some (.str "NoFit" 214)),(some (.str "NoFit" 222)),(some (.builtin "ValueError.__new__")),(some (.bool true))]⟩
noncomputable abbrev o55(P:Er):A5:=⟨(.type "dict"),none,(.dict #[kE P "__module__" 237 (.str "spentonce.errors" 194),kE P "__firstlineno__" 241 (.int 9 240),kE P "__static_attributes__" 242 (.ref 54),kE P "__doc__" 243 .none] 2),#[]⟩
noncomputable abbrev o56:A5:=⟨(.type "type"),none,(.cls ⟨"BadBlock",[(.ref 31)],[(.ref 56),(.ref 31),(.type "ValueError"),(.type "Exception"),(.type "BaseException"),(.type "object")],55,"BadBlock",true,[],[],false,none,false⟩),#[(some (.ref 47)),none,(some (.str "BadBlock" 230)),(some (.str "BadBlock" 238)),(some (.builtin "ValueError.__new__")),(some (.bool true))]⟩
noncomputable abbrev o61:=yT #[(.str "deed" 251)]
noncomputable abbrev o64:=yC "is_maker" 248 249 250 12 1 0 0 3 59 true 60 .none (.ref 61) (.ref 62) (.ref 63) 252 253
noncomputable abbrev o65:=yU "is_maker" (top 6) "spentonce.deeds" 246 64
noncomputable abbrev o69:=yC "made_by" 255 256 257 14 1 0 0 3 66 true 67 .none .none .none (.ref 68) 258 259
noncomputable abbrev o70:=yU "made_by" (top 7) "spentonce.deeds" 246 69
noncomputable abbrev o74:=yC "worth_of" 261 262 263 16 1 0 0 3 71 true 72 .none .none .none (.ref 73) 264 265
noncomputable abbrev o75:=yU "worth_of" (top 8) "spentonce.deeds" 246 74
noncomputable abbrev o78:=yT #[(.str "rules" 272),(.str "height" 273),(.str "first" 274),(.str "times" 275)]
noncomputable abbrev o81:=yC "gift" 269 270 271 19 2 0 0 3 76 true 77 .none (.ref 78) (.ref 79) (.ref 80) 276 277
noncomputable abbrev o82:=yU "gift" (top 10) "spentonce.blocks" 267 81
noncomputable abbrev o85:=yT #[(.str "hoard" 282),(.str "block" 283),(.str "height" 284),(.str "rules" 285),(.str "trial" 286),(.str "fees" 287),(.str "place" 288),(.str "deed" 289),(.str "word" 290)]
noncomputable abbrev o88:=yC "block_fault" 279 280 281 23 4 0 0 3 83 true 84 .none (.ref 85) (.ref 86) (.ref 87) 291 292
noncomputable abbrev o89:=yU "block_fault" (top 11) "spentonce.blocks" 267 88
noncomputable abbrev o93:=yC "do_block" 294 295 296 35 4 0 0 3 90 true 91 .none .none .none (.ref 92) 297 298
noncomputable abbrev o94:=yU "do_block" (top 12) "spentonce.blocks" 267 93
noncomputable abbrev o97:=yT #[(.str "deed" 303),(.str "height" 304),(.str "rules" 305)]
noncomputable abbrev Wdw:=yC "free_from" 300 301 302 40 3 0 0 3 95 true 96 .none (.ref 97) (.ref 98) (.ref 99) 306 307
noncomputable abbrev Wdv:=yU "free_from" (top 13) "spentonce.blocks" 267 100
noncomputable abbrev Wdu:=yC "worth_of_makers" 309 310 311 42 1 0 0 3 102 true 103 .none .none .none (.ref 104) 312 313
noncomputable abbrev Wdt:=yU "worth_of_makers" (top 14) "spentonce.blocks" 267 105
noncomputable abbrev Wds:=yT #[(.str "height" 319),(.str "age" 320),(.str "worth" 321),(.str "ins" 322),(.str "outs" 323)]
noncomputable abbrev Wdr(P:Er):=yD [kE P "drop" 327 (.int 1 328),kE P "swap" 329 (.int 2 330),kE P "add" 331 (.int 2 332),kE P "sub" 333 (.int 2 334),kE P "mul" 335 (.int 2 336),kE P "less" 337 (.int 2 338),kE P "same" 339 (.int 2 340),kE P "not" 341 (.int 1 342),kE P "need" 343 (.int 1 344)]
noncomputable abbrev Wdq:=yT #[(.str "lock" 358),(.str "keys" 359),(.str "facts" 360),(.str "pile" 361),(.str "parts" 362),(.str "row" 363),(.str "stays_shut" 364)]
noncomputable abbrev Wdp:=yC "opens" 355 356 357 49 3 0 0 3 109 true 110 .none (.ref 111) (.ref 112) (.ref 113) 365 366
noncomputable abbrev Wdo:=yU "opens" (top 20) "spentonce.trying" 315 114
noncomputable abbrev Wdn:=yT #[(.str "parts" 371)]
noncomputable abbrev Wdm:=yC "is_done" 368 369 370 62 1 0 0 3 116 true 117 .none (.ref 118) (.ref 119) (.ref 120) 372 373
noncomputable abbrev Wdl:=yU "is_done" (top 21) "spentonce.trying" 315 121
noncomputable abbrev Wdk:=yT #[(.str "pile" 378),(.str "numbers" 379),(.str "number" 380)]
noncomputable abbrev Wdj:=yC "lay" 375 376 377 64 2 0 0 3 123 true 124 .none (.ref 125) (.ref 126) (.ref 127) 381 382
noncomputable abbrev Wdi:=yU "lay" (top 22) "spentonce.trying" 315 128
noncomputable abbrev Wdh:=yT #[(.str "word" 387),(.str "parts" 388),(.str "pile" 389),(.str "top" 390)]
noncomputable abbrev Wdg:=yC "turn" 384 385 386 70 3 0 0 3 130 true 131 .none (.ref 132) (.ref 133) (.ref 134) 391 392
noncomputable abbrev Wdf:=yU "turn" (top 23) "spentonce.trying" 315 135
noncomputable abbrev Wde:=yT #[(.str "row" 397),(.str "pile" 398),(.str "facts" 399),(.str "taken" 400)]
noncomputable abbrev Wdd:=yC "do_row" 394 395 396 83 3 0 0 3 137 true 138 .none (.ref 139) (.ref 140) (.ref 141) 401 402
noncomputable abbrev Wdc:=yU "do_row" (top 24) "spentonce.trying" 315 142
noncomputable abbrev Wdb:=yT #[(.str "row" 407),(.str "pile" 408)]
noncomputable abbrev Wda:=yC "has_enough" 404 405 406 90 2 0 0 3 144 true 145 .none (.ref 146) (.ref 147) (.ref 148) 409 410
noncomputable abbrev Wc9:=yU "has_enough" (top 25) "spentonce.trying" 315 149
noncomputable abbrev Wc8:=yT #[(.str "pile" 415),(.str "count" 416),(.str "taken" 417),(.str "number" 418)]
noncomputable abbrev Wc7:=yC "take" 412 413 414 94 2 0 0 3 151 true 152 .none (.ref 153) (.ref 154) (.ref 155) 419 420
noncomputable abbrev Wc6:=yU "take" (top 26) "spentonce.trying" 315 156
noncomputable abbrev Wc5:=yT #[(.str "row" 425),(.str "taken" 426),(.str "pile" 427),(.str "facts" 428),(.str "word" 429)]
noncomputable abbrev Wc4:=yC "laid_by" 422 423 424 99 4 0 0 3 158 true 159 .none (.ref 160) (.ref 161) (.ref 162) 430 431
noncomputable abbrev Wc3:=yU "laid_by" (top 27) "spentonce.trying" 315 163
noncomputable abbrev Wc2:=yT #[(.str "paid" 436),(.str "place" 437)]
noncomputable abbrev Wc1:=yC "paid_at" 433 434 435 116 2 0 0 3 165 true 166 .none (.ref 167) (.ref 168) (.ref 169) 438 439
noncomputable abbrev Wc0:=yU "paid_at" (top 28) "spentonce.trying" 315 170
noncomputable abbrev Wcz:=yT #[(.str "word" 444),(.str "a" 445),(.str "b" 446)]
noncomputable abbrev Wcy:=yC "outcome" 441 442 443 118 3 0 0 3 172 true 173 .none (.ref 174) (.ref 175) (.ref 176) 447 448
noncomputable abbrev Wcx:=yU "outcome" (top 29) "spentonce.trying" 315 177
noncomputable abbrev Wcw:=yT #[(.str "self" 475)]
noncomputable abbrev Wcv:A5:=⟨(.type "code"),none,(.fields #[(.str "__init__" 472),(.str "Hoard.__init__" 473),(.str "/claim/cut.py" 474),(.int 135 0),(.int 1 0),(.int 0 0),(.int 0 0),(.int 3 0),(.ref 186),(.bool true),(.int 181 0),(.ref 187),.none,(.ref 188),(.ref 189),(.ref 190),(.int 476 0),(.int 135 0),(.str "/claim/cut.py" 477)]),#[]⟩
noncomputable abbrev Wcu:A5:=⟨(.type "function"),none,(.func ⟨"__init__","Hoard.__init__",Ux (Uz 35 0),.stmts (Uw (Uz 35 0)),defScope (Uz 35 0),3,[],.none,.none,.none,(.str "spentonce.hoards" 450),none,(.ref 191),.none,0⟩),#[]⟩
noncomputable abbrev Wct:=yT #[(.str "self" 482),(.str "other" 483)]
noncomputable abbrev Wcs:A5:=⟨(.type "code"),none,(.fields #[(.str "copied" 479),(.str "Hoard.copied" 480),(.str "/claim/cut.py" 481),(.int 139 0),(.int 1 0),(.int 0 0),(.int 0 0),(.int 3 0),(.ref 193),(.bool true),(.int 181 0),(.ref 194),.none,(.ref 195),(.ref 196),(.ref 197),(.int 484 0),(.int 139 0),(.str "/claim/cut.py" 485)]),#[]⟩
noncomputable abbrev Wcr:A5:=⟨(.type "function"),none,(.func ⟨"copied","Hoard.copied",Ux (Uz 35 1),.stmts (Uw (Uz 35 1)),defScope (Uz 35 1),3,[],.none,.none,.none,(.str "spentonce.hoards" 450),none,(.ref 198),.none,0⟩),#[]⟩
noncomputable abbrev Wcq:=yT #[(.str "self" 490)]
noncomputable abbrev Wcp:A5:=⟨(.type "code"),none,(.fields #[(.str "held" 487),(.str "Hoard.held" 488),(.str "/claim/cut.py" 489),(.int 145 0),(.int 1 0),(.int 0 0),(.int 0 0),(.int 3 0),(.ref 200),(.bool true),(.int 181 0),(.ref 201),.none,(.ref 202),(.ref 203),(.ref 204),(.int 491 0),(.int 145 0),(.str "/claim/cut.py" 492)]),#[]⟩
noncomputable abbrev Wco:A5:=⟨(.type "function"),none,(.func ⟨"held","Hoard.held",Ux (Uz 35 2),.stmts (Uw (Uz 35 2)),defScope (Uz 35 2),3,[],.none,.none,.none,(.str "spentonce.hoards" 450),none,(.ref 205),.none,0⟩),#[]⟩
noncomputable abbrev Wcn:A5:=⟨(.type "code"),none,(.fields #[(.str "total" 494),(.str "Hoard.total" 495),(.str "/claim/cut.py" 496),(.int 148 0),(.int 1 0),(.int 0 0),(.int 0 0),(.int 3 0),(.ref 207),(.bool true),(.int 181 0),(.ref 208),.none,.none,.none,(.ref 209),(.int 497 0),(.int 148 0),(.str "/claim/cut.py" 498)]),#[]⟩
noncomputable abbrev Wcm:A5:=⟨(.type "function"),none,(.func ⟨"total","Hoard.total",Ux (Uz 35 3),.stmts (Uw (Uz 35 3)),defScope (Uz 35 3),3,[],.none,.none,.none,(.str "spentonce.hoards" 450),none,(.ref 210),.none,0⟩),#[]⟩
noncomputable abbrev Wcl:=yT #[(.str "self" 503),(.str "number" 504)]
noncomputable abbrev Wck:A5:=⟨(.type "code"),none,(.fields #[(.str "did" 500),(.str "Hoard.did" 501),(.str "/claim/cut.py" 502),(.int 151 0),(.int 2 0),(.int 0 0),(.int 0 0),(.int 3 0),(.ref 212),(.bool true),(.int 181 0),(.ref 213),.none,(.ref 214),(.ref 215),(.ref 216),(.int 505 0),(.int 151 0),(.str "/claim/cut.py" 506)]),#[]⟩
noncomputable abbrev Wcj:A5:=⟨(.type "function"),none,(.func ⟨"did","Hoard.did",Ux (Uz 35 4),.stmts (Uw (Uz 35 4)),defScope (Uz 35 4),3,[],.none,.none,.none,(.str "spentonce.hoards" 450),none,(.ref 217),.none,0⟩),#[]⟩
noncomputable abbrev Wci:=yT #[(.str "self" 511),(.str "deed" 512),(.str "height" 513),(.str "part" 514),(.str "word" 515)]
noncomputable abbrev Wch:A5:=⟨(.type "code"),none,(.fields #[(.str "fault" 508),(.str "Hoard.fault" 509),(.str "/claim/cut.py" 510),(.int 154 0),(.int 3 0),(.int 0 0),(.int 0 0),(.int 3 0),(.ref 219),(.bool true),(.int 181 0),(.ref 220),.none,(.ref 221),(.ref 222),(.ref 223),(.int 516 0),(.int 154 0),(.str "/claim/cut.py" 517)]),#[]⟩
noncomputable abbrev Wcg:A5:=⟨(.type "function"),none,(.func ⟨"fault","Hoard.fault",Ux (Uz 35 5),.stmts (Uw (Uz 35 5)),defScope (Uz 35 5),3,[],.none,.none,.none,(.str "spentonce.hoards" 450),none,(.ref 224),.none,0⟩),#[]⟩
noncomputable abbrev Wcf:=yT #[(.str "self" 522),(.str "part" 523),(.str "deed" 524),(.str "height" 525),(.str "kept" 526)]
noncomputable abbrev Wce:A5:=⟨(.type "code"),none,(.fields #[(.str "fault_of_in" 519),(.str "Hoard.fault_of_in" 520),(.str "/claim/cut.py" 521),(.int 167 0),(.int 4 0),(.int 0 0),(.int 0 0),(.int 3 0),(.ref 226),(.bool true),(.int 181 0),(.ref 227),.none,(.ref 228),(.ref 229),(.ref 230),(.int 527 0),(.int 167 0),(.str "/claim/cut.py" 528)]),#[]⟩
noncomputable abbrev Wcd:A5:=⟨(.type "function"),none,(.func ⟨"fault_of_in","Hoard.fault_of_in",Ux (Uz 35 6),.stmts (Uw (Uz 35 6)),defScope (Uz 35 6),3,[],.none,.none,.none,(.str "spentonce.hoards" 450),none,(.ref 231),.none,0⟩),#[]⟩
noncomputable abbrev Wcc:=yT #[(.str "self" 533),(.str "deed" 534)]
noncomputable abbrev Wcb:A5:=⟨(.type "code"),none,(.fields #[(.str "fee" 530),(.str "Hoard.fee" 531),(.str "/claim/cut.py" 532),(.int 177 0),(.int 2 0),(.int 0 0),(.int 0 0),(.int 3 0),(.ref 233),(.bool true),(.int 181 0),(.ref 234),.none,(.ref 235),(.ref 236),(.ref 237),(.int 535 0),(.int 177 0),(.str "/claim/cut.py" 536)]),#[]⟩
noncomputable abbrev Wca:A5:=⟨(.type "function"),none,(.func ⟨"fee","Hoard.fee",Ux (Uz 35 7),.stmts (Uw (Uz 35 7)),defScope (Uz 35 7),3,[],.none,.none,.none,(.str "spentonce.hoards" 450),none,(.ref 238),.none,0⟩),#[]⟩
noncomputable abbrev Wb9:A5:=⟨(.type "code"),none,(.fields #[(.str "worth_spent" 538),(.str "Hoard.worth_spent" 539),(.str "/claim/cut.py" 540),(.int 180 0),(.int 2 0),(.int 0 0),(.int 0 0),(.int 3 0),(.ref 240),(.bool true),(.int 181 0),(.ref 241),.none,.none,.none,(.ref 242),(.int 541 0),(.int 180 0),(.str "/claim/cut.py" 542)]),#[]⟩
noncomputable abbrev Wb8:A5:=⟨(.type "function"),none,(.func ⟨"worth_spent","Hoard.worth_spent",Ux (Uz 35 8),.stmts (Uw (Uz 35 8)),defScope (Uz 35 8),3,[],.none,.none,.none,(.str "spentonce.hoards" 450),none,(.ref 243),.none,0⟩),#[]⟩
noncomputable abbrev Wb7:A5:=⟨(.type "code"),none,(.fields #[(.str "do" 544),(.str "Hoard.do" 545),(.str "/claim/cut.py" 546),(.int 183 0),(.int 4 0),(.int 0 0),(.int 0 0),(.int 3 0),(.ref 245),(.bool true),(.int 181 0),(.ref 246),.none,.none,.none,(.ref 247),(.int 547 0),(.int 183 0),(.str "/claim/cut.py" 548)]),#[]⟩
noncomputable abbrev Wb6:A5:=⟨(.type "function"),none,(.func ⟨"do","Hoard.do",Ux (Uz 35 9),.stmts (Uw (Uz 35 9)),defScope (Uz 35 9),3,[],.none,.none,.none,(.str "spentonce.hoards" 450),none,(.ref 248),.none,0⟩),#[]⟩
noncomputable abbrev Wb5:=yT #[(.str "self" 553),(.str "note" 554)]
noncomputable abbrev Wb4:A5:=⟨(.type "code"),none,(.fields #[(.str "undo" 550),(.str "Hoard.undo" 551),(.str "/claim/cut.py" 552),(.int 195 0),(.int 2 0),(.int 0 0),(.int 0 0),(.int 3 0),(.ref 250),(.bool true),(.int 181 0),(.ref 251),.none,(.ref 252),(.ref 253),(.ref 254),(.int 555 0),(.int 195 0),(.str "/claim/cut.py" 556)]),#[]⟩
noncomputable abbrev Wb3:A5:=⟨(.type "function"),none,(.func ⟨"undo","Hoard.undo",Ux (Uz 35 10),.stmts (Uw (Uz 35 10)),defScope (Uz 35 10),3,[],.none,.none,.none,(.str "spentonce.hoards" 450),none,(.ref 255),.none,0⟩),#[]⟩
noncomputable abbrev Wb2:=yT #[(.str "done" 558),(.str "unspent" 559)]
noncomputable abbrev Wb1(P:Er):A5:=⟨(.type "dict"),none,(.dict #[kE P "__module__" 467 (.str "spentonce.hoards" 450),kE P "__firstlineno__" 471 (.int 133 470),kE P "__init__" 478 (.ref 192),kE P "copied" 486 (.ref 199),kE P "held" 493 (.ref 206),kE P "total" 499 (.ref 211),kE P "did" 507 (.ref 218),kE P "fault" 518 (.ref 225),kE P "fault_of_in" 529 (.ref 232),kE P "fee" 537 (.ref 239),kE P "worth_spent" 543 (.ref 244),kE P "do" 549 (.ref 249),kE P "undo" 557 (.ref 256),kE P "__static_attributes__" 560 (.ref 257),kE P "__dict__" 562 (.ref 260),kE P "__weakref__" 564 (.ref 261),kE P "__doc__" 565 .none] 4),#[]⟩
noncomputable abbrev Wb0:A5:=⟨(.type "type"),none,(.cls ⟨"Hoard",[(.type "object")],[(.ref 259),(.type "object")],258,"Hoard",true,[],[],false,none,false⟩),#[none,none,(some (.str "Hoard" 460)),(some (.str "Hoard" 468)),(some (.builtin "object.__new__")),(some (.bool true))]⟩
noncomputable abbrev Wbz:A5:=⟨(.type "getset_descriptor"),none,(.fields #[(.str "__dict__" 561),(.ref 259),(.builtin "function.__dict__"),(.builtin "function.__dict__#set")]),#[]⟩
noncomputable abbrev Wby:A5:=⟨(.type "getset_descriptor"),none,(.fields #[(.str "__weakref__" 563),(.ref 259),(.builtin "ExceptionGroup.__weakref__"),.none]),#[]⟩
noncomputable abbrev Wbx:=yC "spent_by" 568 569 570 197 1 0 0 3 264 true 265 .none .none .none (.ref 266) 571 572
noncomputable abbrev Wbw:=yU "spent_by" (top 36) "spentonce.hoards" 450 267
noncomputable abbrev Wbv:=yT #[(.str "coins" 577)]
noncomputable abbrev Wbu:=yC "has_twice" 574 575 576 199 1 0 0 3 269 true 270 .none (.ref 271) (.ref 272) (.ref 273) 578 579
noncomputable abbrev Wbt:=yU "has_twice" (top 37) "spentonce.hoards" 450 274
noncomputable abbrev Wbs:=yC "facts_of" 581 582 583 201 3 0 0 3 276 true 277 .none .none .none (.ref 278) 584 585
noncomputable abbrev Wbr:=yU "facts_of" (top 38) "spentonce.hoards" 450 279
noncomputable abbrev Wbq:=yT #[(.str "_law_cell" 592)]
noncomputable abbrev Wbp:=yC "_law_mixed" 589 590 591 206 1 0 0 3 281 true 282 .none (.ref 283) (.ref 284) (.ref 285) 593 594
noncomputable abbrev Wbo:=yU "_law_mixed" (top 40) "law_spentonce_k23_block_done" 587 286
noncomputable abbrev Wbn:=yT #[(.str "_law_cell" 599),(.str "_law_k" 600),(.str "_law_digits" 601),(.str "_law_seed" 602)]
noncomputable abbrev Wbm:=yC "_law_stream" 596 597 598 208 3 0 0 3 288 true 289 .none (.ref 290) (.ref 291) (.ref 292) 603 604
noncomputable abbrev Wbl:=yU "_law_stream" (top 41) "law_spentonce_k23_block_done" 587 293
noncomputable abbrev Wbk:=yT #[(.str "_law_stream_here" 609),(.str "_law_many" 610),(.str "_law_found" 611)]
noncomputable abbrev Wbj:=yC "_law_take" 606 607 608 213 2 0 0 3 295 true 296 .none (.ref 297) (.ref 298) (.ref 299) 612 613
noncomputable abbrev Wbi:=yU "_law_take" (top 42) "law_spentonce_k23_block_done" 587 300
noncomputable abbrev Wbh:=yC "_law_streams" 615 616 617 223 1 0 0 3 302 true 303 .none .none .none (.ref 304) 618 619
noncomputable abbrev Wbg:=yU "_law_streams" (top 43) "law_spentonce_k23_block_done" 587 305
noncomputable abbrev Wbf:=yT #[(.str "_law_stream_here" 624),(.str "_law_number" 625),(.str "_law_least" 626),(.str "_law_lock_here" 627),(.str "_law_keys" 628),(.str "_law_way" 629)]
noncomputable abbrev Wbe:=yC "_law_lock" 621 622 623 226 1 0 0 3 307 true 308 .none (.ref 309) (.ref 310) (.ref 311) 630 631
noncomputable abbrev Wbd:=yU "_law_lock" (top 44) "law_spentonce_k23_block_done" 587 312
noncomputable abbrev Wbc:=yT #[(.str "_law_stream_here" 636),(.str "_law_total" 637),(.str "_law_ring" 638),(.str "_law_outs_here" 639),(.str "_law_k" 640),(.str "_law_lock_here" 641),(.str "_law_keys" 642),(.str "_law_part" 643)]
noncomputable abbrev Wbb:=yC "_law_outs" 633 634 635 239 3 0 0 3 314 true 315 .none (.ref 316) (.ref 317) (.ref 318) 644 645
noncomputable abbrev Wba:=yU "_law_outs" (top 45) "law_spentonce_k23_block_done" 587 319
noncomputable abbrev Wa9:=yT #[(.str "_law_stream_here" 650),(.str "_law_coins" 651),(.str "_law_ring" 652),(.str "_law_names" 653),(.str "_law_pick" 654),(.str "_law_name" 655),(.str "_law_keys" 656)]
noncomputable abbrev Wa8:=yC "_law_in" 647 648 649 251 3 0 0 3 321 true 322 .none (.ref 323) (.ref 324) (.ref 325) 657 658
noncomputable abbrev Wa7:=yU "_law_in" (top 46) "law_spentonce_k23_block_done" 587 326
noncomputable abbrev Wa6:=yC "_law_deed" 660 661 662 261 4 0 0 3 328 true 329 .none .none .none (.ref 330) 663 664
noncomputable abbrev Wa5:=yU "_law_deed" (top 47) "law_spentonce_k23_block_done" 587 331
noncomputable abbrev Wa4:=yC "_law_word" 666 667 668 274 4 0 0 3 333 true 334 .none .none .none (.ref 335) 669 670
noncomputable abbrev Wa3:=yU "_law_word" (top 48) "law_spentonce_k23_block_done" 587 336
noncomputable abbrev Wa2:=yC "_law_put" 672 673 674 295 5 0 0 3 338 true 339 .none .none .none (.ref 340) 675 676
noncomputable abbrev Wa1:=yU "_law_put" (top 49) "law_spentonce_k23_block_done" 587 341
noncomputable abbrev Wa0:=yT #[(.str "_law_rules_here" 681),(.str "_law_height" 682),(.str "_law_worth" 683),(.str "_law_k" 684)]
noncomputable abbrev Waz:=yC "_law_gift" 678 679 680 303 2 0 0 3 343 true 344 .none (.ref 345) (.ref 346) (.ref 347) 685 686
noncomputable abbrev Wax:=yU "_law_gift" (top 50) "law_spentonce_k23_block_done" 587 348
noncomputable abbrev Waw:=yC "_law_done" 688 689 690 308 5 0 0 3 350 true 351 .none .none .none (.ref 352) 691 692
noncomputable abbrev Wav:=yU "_law_done" (top 51) "law_spentonce_k23_block_done" 587 353
noncomputable abbrev Wau:=yC "_law_block" 694 695 696 320 7 0 0 3 355 true 356 .none .none .none (.ref 357) 697 698
noncomputable abbrev Wat:=yU "_law_block" (top 52) "law_spentonce_k23_block_done" 587 358
noncomputable abbrev Was:=yT #[(.str "_law_stream_here" 703),(.str "_law_gift_of" 704)]
noncomputable abbrev War:=yC "_law_rules" 700 701 702 344 1 0 0 3 360 true 361 .none (.ref 362) (.ref 363) (.ref 364) 705 706
noncomputable abbrev Waq:=yU "_law_rules" (top 53) "law_spentonce_k23_block_done" 587 365
noncomputable abbrev Wap:=yT #[(.str "_law_script" 711),(.str "_law_streams_here" 712),(.str "_law_rules_here" 713),(.str "_law_height" 714)]
noncomputable abbrev Wao:=yC "_law_begin" 708 709 710 347 1 0 0 3 367 true 368 .none (.ref 369) (.ref 370) (.ref 371) 715 716
noncomputable abbrev Wan:=yU "_law_begin" (top 54) "law_spentonce_k23_block_done" 587 372
noncomputable abbrev Wam:=yT #[(.str "_law_stream_here" 721),(.str "_law_rules_here" 722),(.str "_law_height" 723)]
noncomputable abbrev Wal:=yC "_law_next" 718 719 720 352 3 0 0 3 374 true 375 .none (.ref 376) (.ref 377) (.ref 378) 724 725
noncomputable abbrev Wak:=yU "_law_next" (top 55) "law_spentonce_k23_block_done" 587 379
noncomputable abbrev Waj:=yC "law" 727 728 729 354 1 0 0 3 381 true 382 .none .none .none (.ref 383) 730 731
noncomputable abbrev Wai:=yU "law" (top 56) "law_spentonce_k23_block_done" 587 384
noncomputable def Jwe(P:Er):List A5:=[yC "<module>" 182 183 184 1 0 0 0 0 11 false 12 .none .none .none .none 185 186,⟨(.type "frame"),none,.plain,#[(some (.ref 13)),(some (.ref 3)),(some (.ref 3)),none,(some (.str "__main__" 164)),none,(some (.ref 0))]⟩]
noncomputable def hp(P:Er)(a b:A5)(l:List A5):Jr:=⟨⟨PySem.W.boot_o_0 P::PySem.W.boot_o_1 P::P4 P::a::([PySem.W.boot_o_4 P,PySem.W.boot_o_5 P,PySem.W.boot_o_6 P,PySem.W.boot_o_7 P,PySem.W.boot_o_8 P,PySem.W.boot_o_9 P,PySem.W.boot_o_10 P,o11]++b::l)⟩,(Gu P).life⟩
noncomputable def Jmk(P:Er):Jr:=hp P (PySem.W.boot_o_3 P) o16 (Jwe P)
noncomputable def Jwh(P:Er):List A5:=Jwe P++[o11,o16,o17,o11,yQ "_wall" (top 0),o20,o21,o22,o23,yD [kE P "__module__" 203 (.str "spentonce.errors" 194),kE P "__qualname__" 205 (.str "CoinError" 204),kE P "__firstlineno__" 207 (.int 5 206),kE P "__static_attributes__" 208 (.ref 29)],o11,o16,yC "CoinError" 198 199 200 5 0 0 0 0 25 false 26 .none .none .none .none 201 202,⟨(.type "frame"),none,.plain,#[(some (.ref 27)),(some (.ref 3)),(some (.ref 24)),none,(some (.str "spentonce.errors" 194)),none,(some (.ref 0))]⟩,o11,o30 P,o31,o32,⟨(.type "super"),none,(.fields #[(.ref 31),(.ref 31),(.ref 31)]),#[]⟩,⟨(.type "builtin_function_or_method"),none,(.fields #[(.builtin "object.__init_subclass__"),(.ref 31)]),#[]⟩,o35,o23,yD [kE P "__module__" 221 (.str "spentonce.errors" 194),kE P "__qualname__" 223 (.str "NoFit" 222),kE P "__firstlineno__" 225 (.int 7 224),kE P "__static_attributes__" 226 (.ref 42)],o11,o16,yC "NoFit" 216 217 218 7 0 0 0 0 38 false 39 .none .none .none .none 219 220,⟨(.type "frame"),none,.plain,#[(some (.ref 40)),(some (.ref 3)),(some (.ref 37)),none,(some (.str "spentonce.errors" 194)),none,(some (.ref 0))]⟩,o11,o43 P,o44,⟨(.type "super"),none,(.fields #[(.ref 44),(.ref 44),(.ref 44)]),#[]⟩,⟨(.type "builtin_function_or_method"),none,(.fields #[(.builtin "object.__init_subclass__"),(.ref 44)]),#[]⟩,o35,o23,yD [kE P "__module__" 237 (.str "spentonce.errors" 194),kE P "__qualname__" 239 (.str "BadBlock" 238),kE P "__firstlineno__" 241 (.int 9 240),kE P "__static_attributes__" 242 (.ref 54)],o11,o16,yC "BadBlock" 232 233 234 9 0 0 0 0 50 false 51 .none .none .none .none 235 236,⟨(.type "frame"),none,.plain,#[(some (.ref 52)),(some (.ref 3)),(some (.ref 49)),none,(some (.str "spentonce.errors" 194)),none,(some (.ref 0))]⟩,o11,o55 P,o56,⟨(.type "super"),none,(.fields #[(.ref 56),(.ref 56),(.ref 56)]),#[]⟩,⟨(.type "builtin_function_or_method"),none,(.fields #[(.builtin "object.__init_subclass__"),(.ref 56)]),#[]⟩,o11,o16,o61,o11,yQ "is_maker" (top 6),o64,o65,o11,o16,yQ "made_by" (top 7),o69,o70,o11,o16,yQ "worth_of" (top 8),o74,o75,o11,o16,o78,o11,yQ "gift" (top 10),o81,o82,o11,o16,o85,o11,yQ "block_fault" (top 11),o88,o89,o11,o16,yQ "do_block" (top 12),o93,o94,o11,o16,o97,o11,yQ "free_from" (top 13),Wdw,Wdv,o11,o16,yQ "worth_of_makers" (top 14),Wdu,Wdt,Wds]
noncomputable def Jxc(P:Er):List B6:=[kE P "__doc__" 166 .none,kE P "__package__" 167 .none,kE P "__loader__" 168 (.builtin "__main__.__loader__#opaque"),kE P "__spec__" 169 .none,kE P "__annotations__" 170 (.ref 6),kE P "__builtins__" 171 (.ref 4),kE P "__file__" 173 (.str "/claim/cut.py" 172),kE P "__cached__" 174 .none,kE P "_wall" 193 (.ref 21),kE P "CoinError" 213 (.ref 31),kE P "NoFit" 229 (.ref 44),kE P "BadBlock" 245 (.ref 56),kE P "is_maker" 254 (.ref 65),kE P "made_by" 260 (.ref 70),kE P "worth_of" 266 (.ref 75),kE P "gift" 278 (.ref 82),kE P "block_fault" 293 (.ref 89),kE P "do_block" 299 (.ref 94),kE P "free_from" 308 (.ref 101),kE P "worth_of_makers" 314 (.ref 106),kE P "MOST_LYING" 318 (.int 20 317),kE P "FACT_WORDS" 324 (.ref 107),kE P "PAID" 326 (.int 5 325)]
noncomputable def Jur:List (Int×Nat):=[(1,20),(5,27),(7,40),(9,52),(12,64),(14,69),(16,74),(19,81),(23,88),(35,93),(40,100),(42,105)]
noncomputable def Jw3(P:Er):Jr:=hp P (yD (kE P "__name__" 165 (.str "spentonce.trying" 315)::Jxc P)) (yF Jur) (Jwh P)
noncomputable def Jwg(P:Er):List A5:=Jwh P++[Wdr P,o11,o16,Wdq,o11,yQ "opens" (top 20),Wdp,Wdo,o11,o16,Wdn,o11,yQ "is_done" (top 21),Wdm,Wdl,o11,o16,Wdk,o11,yQ "lay" (top 22),Wdj,Wdi,o11,o16,Wdh,o11,yQ "turn" (top 23),Wdg,Wdf,o11,o16,Wde,o11,yQ "do_row" (top 24),Wdd,Wdc,o11,o16,Wdb,o11,yQ "has_enough" (top 25),Wda,Wc9,o11,o16,Wc8,o11,yQ "take" (top 26),Wc7,Wc6,o11,o16,Wc5,o11,yQ "laid_by" (top 27),Wc4,Wc3,o11,o16,Wc2,o11,yQ "paid_at" (top 28),Wc1,Wc0,o11,o16,Wcz,o11,yQ "outcome" (top 29),Wcy,Wcx]
noncomputable def Jxb(P:Er):List B6:=Jxc P++[kE P "TAKEN" 354 (.ref 108),kE P "opens" 367 (.ref 115),kE P "is_done" 374 (.ref 122),kE P "lay" 383 (.ref 129),kE P "turn" 393 (.ref 136),kE P "do_row" 403 (.ref 143),kE P "has_enough" 411 (.ref 150),kE P "take" 421 (.ref 157),kE P "laid_by" 432 (.ref 164),kE P "paid_at" 440 (.ref 171),kE P "outcome" 449 (.ref 178),kE P "WORTH" 453 (.int 0 452),kE P "LOCK" 455 (.int 1 454),kE P "MADE" 457 (.int 2 456),kE P "FREE" 459 (.int 3 458)]
noncomputable def Juq:List (Int×Nat):=Jur++[(49,114),(62,121),(64,128),(70,135),(83,142),(90,149),(94,156),(99,163),(116,170),(118,177)]
noncomputable def Jw2(P:Er):Jr:=hp P (yD (kE P "__name__" 165 (.str "spentonce.hoards" 450)::Jxb P)) (yF Juq) (Jwg P)
noncomputable def Jwf(P:Er):List A5:=Jwg P++[o11,o23,yD [kE P "__module__" 467 (.str "spentonce.hoards" 450),kE P "__qualname__" 469 (.str "Hoard" 468),kE P "__firstlineno__" 471 (.int 133 470),kE P "__init__" 478 (.ref 192),kE P "copied" 486 (.ref 199),kE P "held" 493 (.ref 206),kE P "total" 499 (.ref 211),kE P "did" 507 (.ref 218),kE P "fault" 518 (.ref 225),kE P "fault_of_in" 529 (.ref 232),kE P "fee" 537 (.ref 239),kE P "worth_spent" 543 (.ref 244),kE P "do" 549 (.ref 249),kE P "undo" 557 (.ref 256),kE P "__static_attributes__" 560 (.ref 257)],o11,⟨.none,none,(.fields #[(.int 135 0),(.int 4 0),(.ref 191),(.int 139 0),(.int 4 0),(.ref 198),(.int 145 0),(.int 4 0),(.ref 205),(.int 148 0),(.int 4 0),(.ref 210),(.int 151 0),(.int 4 0),(.ref 217),(.int 154 0),(.int 4 0),(.ref 224),(.int 167 0),(.int 4 0),(.ref 231),(.int 177 0),(.int 4 0),(.ref 238),(.int 180 0),(.int 4 0),(.ref 243),(.int 183 0),(.int 4 0),(.ref 248),(.int 195 0),(.int 4 0),(.ref 255)]),#[]⟩,yC "Hoard" 462 463 464 133 0 0 0 0 182 false 183 .none .none .none .none 465 466,⟨(.type "frame"),none,.plain,#[(some (.ref 184)),(some (.ref 3)),(some (.ref 181)),none,(some (.str "spentonce.hoards" 450)),none,(some (.ref 0))]⟩,o11,o16,Wcw,o11,⟨.none,none,(.func ⟨"__init__","Hoard.__init__",Ux (Uz 35 0),.stmts (Uw (Uz 35 0)),defScope (Uz 35 0),0,[],.none,.none,.none,.none,none,.none,.none,0⟩),#[]⟩,Wcv,Wcu,o11,o16,Wct,o11,⟨.none,none,(.func ⟨"copied","Hoard.copied",Ux (Uz 35 1),.stmts (Uw (Uz 35 1)),defScope (Uz 35 1),0,[],.none,.none,.none,.none,none,.none,.none,0⟩),#[]⟩,Wcs,Wcr,o11,o16,Wcq,o11,⟨.none,none,(.func ⟨"held","Hoard.held",Ux (Uz 35 2),.stmts (Uw (Uz 35 2)),defScope (Uz 35 2),0,[],.none,.none,.none,.none,none,.none,.none,0⟩),#[]⟩,Wcp,Wco,o11,o16,⟨.none,none,(.func ⟨"total","Hoard.total",Ux (Uz 35 3),.stmts (Uw (Uz 35 3)),defScope (Uz 35 3),0,[],.none,.none,.none,.none,none,.none,.none,0⟩),#[]⟩,Wcn,Wcm,o11,o16,Wcl,o11,⟨.none,none,(.func ⟨"did","Hoard.did",Ux (Uz 35 4),.stmts (Uw (Uz 35 4)),defScope (Uz 35 4),0,[],.none,.none,.none,.none,none,.none,.none,0⟩),#[]⟩,Wck,Wcj,o11,o16,Wci,o11,⟨.none,none,(.func ⟨"fault","Hoard.fault",Ux (Uz 35 5),.stmts (Uw (Uz 35 5)),defScope (Uz 35 5),0,[],.none,.none,.none,.none,none,.none,.none,0⟩),#[]⟩,Wch,Wcg,o11,o16,Wcf,o11,⟨.none,none,(.func ⟨"fault_of_in","Hoard.fault_of_in",Ux (Uz 35 6),.stmts (Uw (Uz 35 6)),defScope (Uz 35 6),0,[],.none,.none,.none,.none,none,.none,.none,0⟩),#[]⟩,Wce,Wcd,o11,o16,Wcc,o11,⟨.none,none,(.func ⟨"fee","Hoard.fee",Ux (Uz 35 7),.stmts (Uw (Uz 35 7)),defScope (Uz 35 7),0,[],.none,.none,.none,.none,none,.none,.none,0⟩),#[]⟩,Wcb,Wca,o11,o16,⟨.none,none,(.func ⟨"worth_spent","Hoard.worth_spent",Ux (Uz 35 8),.stmts (Uw (Uz 35 8)),defScope (Uz 35 8),0,[],.none,.none,.none,.none,none,.none,.none,0⟩),#[]⟩,Wb9,Wb8,o11,o16,⟨.none,none,(.func ⟨"do","Hoard.do",Ux (Uz 35 9),.stmts (Uw (Uz 35 9)),defScope (Uz 35 9),0,[],.none,.none,.none,.none,none,.none,.none,0⟩),#[]⟩,Wb7,Wb6,o11,o16,Wb5,o11,⟨.none,none,(.func ⟨"undo","Hoard.undo",Ux (Uz 35 10),.stmts (Uw (Uz 35 10)),defScope (Uz 35 10),0,[],.none,.none,.none,.none,none,.none,.none,0⟩),#[]⟩,Wb4,Wb3,Wb2,Wb1 P,Wb0,Wbz,Wby,⟨(.type "super"),none,(.fields #[(.ref 259),(.ref 259),(.ref 259)]),#[]⟩,⟨(.type "builtin_function_or_method"),none,(.fields #[(.builtin "object.__init_subclass__"),(.ref 259)]),#[]⟩,o11,o16,yQ "spent_by" (top 36),Wbx,Wbw,o11,o16,Wbv,o11,yQ "has_twice" (top 37),Wbu,Wbt,o11,o16,yQ "facts_of" (top 38),Wbs,Wbr,o11,o16,Wbq,o11,yQ "_law_mixed" (top 40),Wbp,Wbo,o11,o16,Wbn,o11,yQ "_law_stream" (top 41),Wbm,Wbl,o11,o16,Wbk,o11,yQ "_law_take" (top 42),Wbj,Wbi,o11,o16,yQ "_law_streams" (top 43),Wbh,Wbg,o11,o16,Wbf,o11,yQ "_law_lock" (top 44),Wbe,Wbd,o11,o16,Wbc,o11,yQ "_law_outs" (top 45),Wbb,Wba,o11,o16,Wa9,o11,yQ "_law_in" (top 46),Wa8,Wa7,o11,o16,yQ "_law_deed" (top 47),Wa6,Wa5,o11,o16,yQ "_law_word" (top 48),Wa4,Wa3,o11,o16,yQ "_law_put" (top 49),Wa2,Wa1,o11,o16,Wa0,o11,yQ "_law_gift" (top 50),Waz,Wax,o11,o16,yQ "_law_done" (top 51),Waw,Wav]
noncomputable def Jxa(P:Er):List B6:=Jxb P++[kE P "Hoard" 567 (.ref 259),kE P "spent_by" 573 (.ref 268),kE P "has_twice" 580 (.ref 275),kE P "facts_of" 586 (.ref 280),kE P "_law_mixed" 595 (.ref 287),kE P "_law_stream" 605 (.ref 294),kE P "_law_take" 614 (.ref 301),kE P "_law_streams" 620 (.ref 306),kE P "_law_lock" 632 (.ref 313),kE P "_law_outs" 646 (.ref 320),kE P "_law_in" 659 (.ref 327),kE P "_law_deed" 665 (.ref 332),kE P "_law_word" 671 (.ref 337),kE P "_law_put" 677 (.ref 342),kE P "_law_gift" 687 (.ref 349),kE P "_law_done" 693 (.ref 354)]
noncomputable def Jup:List (Int×Nat):=Juq++[(133,184),(197,267),(199,274),(201,279),(206,286),(208,293),(213,300),(223,305),(226,312),(239,319),(251,326),(261,331),(274,336),(295,341),(303,348),(308,353)]
noncomputable def Jw1(P:Er):Jr:=hp P (yD (kE P "__name__" 165 (.str "law_spentonce_k23_block_done" 587)::Jxa P)) (yF Jup) (Jwf P)
noncomputable def Jy2(P:Er):List A5:=Jwf P++[o11,o16,yQ "_law_block" (top 52),Wau,Wat,o11,o16,Was,o11,yQ "_law_rules" (top 53),War,Waq,o11,o16,Wap,o11,yQ "_law_begin" (top 54),Wao,Wan,o11,o16,Wam,o11,yQ "_law_next" (top 55),Wal,Wak,o11,o16,yQ "law" (top 56),Waj,Wai]
noncomputable def Jw9(P:Er):List B6:=Jxa P++[kE P "_law_block" 699 (.ref 359),kE P "_law_rules" 707 (.ref 366),kE P "_law_begin" 717 (.ref 373),kE P "_law_next" 726 (.ref 380),kE P "law" 732 (.ref 385)]
noncomputable def Jx9:List (Int×Nat):=Jup++[(320,358),(344,365),(347,372),(352,379),(354,384)]
noncomputable def Jem(P:Er):Jr:=hp P (yD (kE P "__name__" 165 (.str "law_spentonce_k23_block_done" 587)::Jw9 P)) (yF Jx9) (Jy2 P)
noncomputable def as:List Addr:=[2,3,15,17,18,20,21,22,29,30,31,32,35,42,43,44,47,54,55,56,59,61,62,64,65,66,69,70,71,74,75,76,78,79,81,82,83,85,86,88,89,90,93,94,95,97,98,100,101,102,105,106,107,108,109,111,112,114,115,116,118,119,121,122,123,125,126,128,129,130,132,133,135,136,137,139,140,142,143,144,146,147,149,150,151,153,154,156,157,158,160,161,163,164,165,167,168,170,171,172,174,175,177,178,186,188,189,191,192,193,195,196,198,199,200,202,203,205,206,207,210,211,212,214,215,217,218,219,221,222,224,225,226,228,229,231,232,233,235,236,238,239,240,243,244,245,248,249,250,252,253,255,256,257,258,259,260,261,264,267,268,269,271,272,274,275,276,279,280,281,283,284,286,287,288,290,291,293,294,295,297,298,300,301,302,305,306,307,309,310,312,313,314,316,317,319,320,321,323,324,326,327,328,331,332,333,336,337,338,341,342,343,345,346,348,349,350,353,354,355,358,359,360,362,363,365,366,367,369,370,372,373,374,376,377,379,380,381,384,385]
noncomputable def K(P:Er):Af:=
 (nat_lit 2,P4 P)::(nat_lit 3,yD (kE P "__name__" 165 (.str "law_spentonce_k23_block_done" 587)::Jw9 P))::(nat_lit 15,o11)::(nat_lit 17,o17)::(nat_lit 18,o11)::(nat_lit 20,o20)::(nat_lit 21,o21)::(nat_lit 22,o22)::(nat_lit 29,o11)::(nat_lit 30,o30 P)::(nat_lit 31,o31)::(nat_lit 32,o32)::(nat_lit 35,o35)::(nat_lit 42,o11)::(nat_lit 43,o43 P)::(nat_lit 44,o44)::(nat_lit 47,o35)::(nat_lit 54,o11)::(nat_lit 55,o55 P)::(nat_lit 56,o56)::(nat_lit 59,o11)::(nat_lit 61,o61)::(nat_lit 62,o11)::(nat_lit 64,o64)::(nat_lit 65,o65)::(nat_lit 66,o11)::(nat_lit 69,o69)::(nat_lit 70,o70)::(nat_lit 71,o11)::(nat_lit 74,o74)::(nat_lit 75,o75)::(nat_lit 76,o11)::(nat_lit 78,o78)::(nat_lit 79,o11)::(nat_lit 81,o81)::(nat_lit 82,o82)::(nat_lit 83,o11)::(nat_lit 85,o85)::(nat_lit 86,o11)::(nat_lit 88,o88)::(nat_lit 89,o89)::(nat_lit 90,o11)::(nat_lit 93,o93)::(nat_lit 94,o94)::(nat_lit 95,o11)::(nat_lit 97,o97)::(nat_lit 98,o11)::(nat_lit 100,Wdw)::(nat_lit 101,Wdv)::(nat_lit 102,o11)::(nat_lit 105,Wdu)::(nat_lit 106,Wdt)::(nat_lit 107,Wds)::(nat_lit 108,Wdr P)::(nat_lit 109,o11)::(nat_lit 111,Wdq)::(nat_lit 112,o11)::(nat_lit 114,Wdp)::(nat_lit 115,Wdo)::(nat_lit 116,o11)::(nat_lit 118,Wdn)::(nat_lit 119,o11)::(nat_lit 121,Wdm)::(nat_lit 122,Wdl)::(nat_lit 123,o11)::(nat_lit 125,Wdk)::(nat_lit 126,o11)::(nat_lit 128,Wdj)::(nat_lit 129,Wdi)::(nat_lit 130,o11)::(nat_lit 132,Wdh)::(nat_lit 133,o11)::(nat_lit 135,Wdg)::(nat_lit 136,Wdf)::(nat_lit 137,o11)::(nat_lit 139,Wde)::(nat_lit 140,o11)::(nat_lit 142,Wdd)::(nat_lit 143,Wdc)::(nat_lit 144,o11)::(nat_lit 146,Wdb)::(nat_lit 147,o11)::(nat_lit 149,Wda)::(nat_lit 150,Wc9)::(nat_lit 151,o11)::(nat_lit 153,Wc8)::(nat_lit 154,o11)::(nat_lit 156,Wc7)::(nat_lit 157,Wc6)::(nat_lit 158,o11)::(nat_lit 160,Wc5)::(nat_lit 161,o11)::(nat_lit 163,Wc4)::(nat_lit 164,Wc3)::(nat_lit 165,o11)::(nat_lit 167,Wc2)::(nat_lit 168,o11)::(nat_lit 170,Wc1)::(nat_lit 171,Wc0)::(nat_lit 172,o11)::(nat_lit 174,Wcz)::(nat_lit 175,o11)::(nat_lit 177,Wcy)::(nat_lit 178,Wcx)::(nat_lit 186,o11)::(nat_lit 188,Wcw)::(nat_lit 189,o11)::(nat_lit 191,Wcv)::(nat_lit 192,Wcu)::(nat_lit 193,o11)::(nat_lit 195,Wct)::(nat_lit 196,o11)::(nat_lit 198,Wcs)::(nat_lit 199,Wcr)::(nat_lit 200,o11)::(nat_lit 202,Wcq)::(nat_lit 203,o11)::(nat_lit 205,Wcp)::(nat_lit 206,Wco)::(nat_lit 207,o11)::(nat_lit 210,Wcn)::(nat_lit 211,Wcm)::(nat_lit 212,o11)::(nat_lit 214,Wcl)::(nat_lit 215,o11)::(nat_lit 217,Wck)::(nat_lit 218,Wcj)::(nat_lit 219,o11)::(nat_lit 221,Wci)::(nat_lit 222,o11)::(nat_lit 224,Wch)::(nat_lit 225,Wcg)::(nat_lit 226,o11)::(nat_lit 228,Wcf)::(nat_lit 229,o11)::(nat_lit 231,Wce)::(nat_lit 232,Wcd)::(nat_lit 233,o11)::(nat_lit 235,Wcc)::(nat_lit 236,o11)::(nat_lit 238,Wcb)::(nat_lit 239,Wca)::(nat_lit 240,o11)::(nat_lit 243,Wb9)::(nat_lit 244,Wb8)::(nat_lit 245,o11)::(nat_lit 248,Wb7)::(nat_lit 249,Wb6)::(nat_lit 250,o11)::(nat_lit 252,Wb5)::(nat_lit 253,o11)::(nat_lit 255,Wb4)::(nat_lit 256,Wb3)::(nat_lit 257,Wb2)::(nat_lit 258,Wb1 P)::(nat_lit 259,Wb0)::(nat_lit 260,Wbz)::(nat_lit 261,Wby)::(nat_lit 264,o11)::(nat_lit 267,Wbx)::(nat_lit 268,Wbw)::(nat_lit 269,o11)::(nat_lit 271,Wbv)::(nat_lit 272,o11)::(nat_lit 274,Wbu)::(nat_lit 275,Wbt)::(nat_lit 276,o11)::(nat_lit 279,Wbs)::(nat_lit 280,Wbr)::(nat_lit 281,o11)::(nat_lit 283,Wbq)::(nat_lit 284,o11)::(nat_lit 286,Wbp)::(nat_lit 287,Wbo)::(nat_lit 288,o11)::(nat_lit 290,Wbn)::(nat_lit 291,o11)::(nat_lit 293,Wbm)::(nat_lit 294,Wbl)::(nat_lit 295,o11)::(nat_lit 297,Wbk)::(nat_lit 298,o11)::(nat_lit 300,Wbj)::(nat_lit 301,Wbi)::(nat_lit 302,o11)::(nat_lit 305,Wbh)::(nat_lit 306,Wbg)::(nat_lit 307,o11)::(nat_lit 309,Wbf)::(nat_lit 310,o11)::(nat_lit 312,Wbe)::(nat_lit 313,Wbd)::(nat_lit 314,o11)::(nat_lit 316,Wbc)::(nat_lit 317,o11)::(nat_lit 319,Wbb)::(nat_lit 320,Wba)::(nat_lit 321,o11)::(nat_lit 323,Wa9)::(nat_lit 324,o11)::(nat_lit 326,Wa8)::(nat_lit 327,Wa7)::(nat_lit 328,o11)::(nat_lit 331,Wa6)::(nat_lit 332,Wa5)::(nat_lit 333,o11)::(nat_lit 336,Wa4)::(nat_lit 337,Wa3)::(nat_lit 338,o11)::(nat_lit 341,Wa2)::(nat_lit 342,Wa1)::(nat_lit 343,o11)::(nat_lit 345,Wa0)::(nat_lit 346,o11)::(nat_lit 348,Waz)::(nat_lit 349,Wax)::(nat_lit 350,o11)::(nat_lit 353,Waw)::(nat_lit 354,Wav)::(nat_lit 355,o11)::(nat_lit 358,Wau)::(nat_lit 359,Wat)::(nat_lit 360,o11)::(nat_lit 362,Was)::(nat_lit 363,o11)::(nat_lit 365,War)::(nat_lit 366,Waq)::(nat_lit 367,o11)::(nat_lit 369,Wap)::(nat_lit 370,o11)::(nat_lit 372,Wao)::(nat_lit 373,Wan)::(nat_lit 374,o11)::(nat_lit 376,Wam)::(nat_lit 377,o11)::(nat_lit 379,Wal)::(nat_lit 380,Wak)::(nat_lit 381,o11)::(nat_lit 384,Waj)::(nat_lit 385,Wai)::[]
noncomputable def loose:List Str:=["TAKEN"]
def asK:∀P,as=(K P).map (·.1):=λ_=>by kernel_rfl
def said:PySem.Challenge.rw_spentonce_k23_block_done.wellSaid=true:=by kernel_rfl
noncomputable abbrev bd:List Stmt:=behindTheImports PySem.Challenge.pw_spentonce_k23_block_done
noncomputable def env:Env:={scope:=PySem.Challenge.pw_spentonce_k23_block_done.main.scope,locals:=mainNs,globals:=mainNs,cells:=[],code:=(.ref 13),frame:=some 14}
noncomputable abbrev cd:Code:=.body bd env
def Jyf:∀w:World,(λos=>topGo G3 PySem.Challenge.pw_spentonce_k23_block_done w (nat_lit 11) (some (.ref 6)) (nat_lit 12) ⟨Gu w.params,⟨[]⟩,O9,Pk,os⟩ (topStub PySem.Challenge.pw_spentonce_k23_block_done))=λos=>some (⟨Jmk w.params,⟨[]⟩,⟨0,0,0,0⟩,nat_lit 187,os⟩,(⟨denote G3 cd,cd,⟨0,0,0,0⟩,[topFrame ⟨0,0,0,0⟩]⟩:Thread)):=λw=>by kernel_rfl
def Jr0:∀w:World,(λos=>Tu G3 PySem.Challenge.pw_spentonce_k23_block_done w (nat_lit 11) (some (.ref 6)) (nat_lit 1) (nat_lit 1) ⟨Jmk w.params,⟨[]⟩,⟨0,0,0,0⟩,nat_lit 187,os⟩ (blockOf bd env cd ⟨0,0,0,0⟩ [topFrame ⟨0,0,0,0⟩]))=λos=>some (.next,(⟨Jmk w.params,⟨[]⟩,⟨0,0,0,0⟩,nat_lit 187,os⟩:Shared),cd,(⟨0,0,0,0⟩:Pos)):=λw=>by kernel_rfl
noncomputable def Waa:List Stmt:=(bd.drop 0).take 19
def Jyk:∀w:World,(λos=>Tu G3 PySem.Challenge.pw_spentonce_k23_block_done w (nat_lit 11) (some (.ref 6)) (nat_lit 1) (nat_lit 945) ⟨Jmk w.params,⟨[]⟩,⟨0,0,0,0⟩,nat_lit 187,os⟩ (Rx Waa env cd ⟨0,0,0,0⟩ [topFrame ⟨0,0,0,0⟩]))=λos=>some (.next,(⟨Jw3 w.params,⟨[]⟩,⟨0,0,0,0⟩,nat_lit 327,os⟩:Shared),cd,(⟨47,0,47,4⟩:Pos)):=λw=>by kernel_rfl
noncomputable def Z9:List Stmt:=(bd.drop 19).take 16
def Jyj:∀w:World,(λos=>Tu G3 PySem.Challenge.pw_spentonce_k23_block_done w (nat_lit 11) (some (.ref 6)) (nat_lit 1) (nat_lit 507) ⟨Jw3 w.params,⟨[]⟩,⟨0,0,0,0⟩,nat_lit 327,os⟩ (Rx Z9 env cd ⟨47,0,47,4⟩ [topFrame ⟨0,0,0,0⟩]))=λos=>some (.next,(⟨Jw2 w.params,⟨[]⟩,⟨0,0,0,0⟩,nat_lit 460,os⟩:Shared),cd,(⟨132,0,132,4⟩:Pos)):=by
 intro w;rw[<-World.withFollow_self w "special-get-raises"];cases w.params.followText "special-get-raises"<;>kernel_rfl
noncomputable def Z8:List Stmt:=(bd.drop 35).take 17
def Jyi:∀w:World,(λos=>Tu G3 PySem.Challenge.pw_spentonce_k23_block_done w (nat_lit 11) (some (.ref 6)) (nat_lit 1) (nat_lit 986) ⟨Jw2 w.params,⟨[]⟩,⟨0,0,0,0⟩,nat_lit 460,os⟩ (Rx Z8 env cd ⟨132,0,132,4⟩ [topFrame ⟨0,0,0,0⟩]))=λos=>some (.next,(⟨Jw1 w.params,⟨[]⟩,⟨0,0,0,0⟩,nat_lit 694,os⟩:Shared),cd,(⟨308,0,319,56⟩:Pos)):=λw=>by kernel_rfl
noncomputable def Z7:List Stmt:=(bd.drop 52).take 5
def Jyh:∀w:World,(λos=>Tu G3 PySem.Challenge.pw_spentonce_k23_block_done w (nat_lit 11) (some (.ref 6)) (nat_lit 1) (nat_lit 147) ⟨Jw1 w.params,⟨[]⟩,⟨0,0,0,0⟩,nat_lit 694,os⟩ (Rx Z7 env cd ⟨308,0,319,56⟩ [topFrame ⟨0,0,0,0⟩]))=λos=>some (.next,(⟨Jem w.params,⟨[]⟩,⟨0,0,0,0⟩,nat_lit 733,os⟩:Shared),cd,(⟨354,0,374,15⟩:Pos)):=λw=>by kernel_rfl
def Jyg:∀w:World,(λos=>topRun G3 PySem.Challenge.pw_spentonce_k23_block_done w (nat_lit 11) (some (.ref 6)) (nat_lit 2) ⟨Jem w.params,⟨[]⟩,⟨0,0,0,0⟩,nat_lit 733,os⟩ ⟨doneF .next,cd,⟨354,0,374,15⟩,[topFrame ⟨0,0,0,0⟩]⟩)=λos=>some (⟨Jem w.params,⟨[]⟩,⟨0,0,0,0⟩,nat_lit 733,os⟩:Shared):=λw=>by kernel_rfl
def Jzm:bd=Waa++(Z9++(Z8++(Z7++[]))):=by kernel_rfl
def Ju8(w:World)(os:OsState):topRun G3 PySem.Challenge.pw_spentonce_k23_block_done w (nat_lit 11) (some (.ref 6)) (nat_lit 2587) ⟨Jmk w.params,⟨[]⟩,⟨0,0,0,0⟩,nat_lit 187,os⟩ (restOf bd env cd ⟨0,0,0,0⟩ [topFrame ⟨0,0,0,0⟩])=some ⟨Jem w.params,⟨[]⟩,⟨0,0,0,0⟩,nat_lit 733,os⟩:=by
 have h:=Qf (congrFun (Jyk w) os) (Qf (congrFun (Jyj w) os) (Qf (congrFun (Jyi w) os) (Qf (congrFun (Jyh w) os) (piece_nil (congrFun (Jyg w) os)))));rw[<-Jzm]at h;exact h
def We1(w:World)(os:OsState):topRun G3 PySem.Challenge.pw_spentonce_k23_block_done w (nat_lit 11) (some (.ref 6)) (nat_lit 2600) ⟨Gu w.params,⟨[]⟩,O9,Pk,os⟩ (topStub PySem.Challenge.pw_spentonce_k23_block_done)=some ⟨Jem w.params,⟨[]⟩,⟨0,0,0,0⟩,nat_lit 733,os⟩:=
 go_top (congrFun (Jyf w) os) (piece_block (congrFun (Jr0 w) os) (Ju8 w os))
def Wd1(w:World):(λos=>((staticsOk (importedModules PySem.Challenge.pw_spentonce_k23_block_done.main.body) (Gu w.params) (Jem w.params)&&namesBound PySem.Challenge.pw_spentonce_k23_block_done (Jem w.params)&&gensDone (⟨Jem w.params,⟨[]⟩,⟨0,0,0,0⟩,nat_lit 733,os⟩:Shared)&&laidKept (Gu w.params) (Jem w.params)),openSeen q loose (importedModules PySem.Challenge.pw_spentonce_k23_block_done.main.body) (λs:Shared=>xlAt q [] s&&recOk [] s) true (⟨Jem w.params,⟨[]⟩,⟨0,0,0,0⟩,nat_lit 733,os⟩:Shared),(λs:Shared=>as.map s.heap.get?) (⟨Jem w.params,⟨[]⟩,⟨0,0,0,0⟩,nat_lit 733,os⟩:Shared)))=λ_=>(true,openGood q loose,(λw=>(K w.params).map λp=>some p.2) w):=by kernel_rfl
def left:LeftO PySem.Challenge.pw_spentonce_k23_block_done q loose (λs:Shared=>xlAt q [] s&&recOk [] s) (λs:Shared=>as.map s.heap.get?) (λw=>(K w.params).map λp=>some p.2) 5280:=
 LeftO.of_pieces (boot_open (by kernel_rfl) (by decide) (λ_=>rfl)) (λ_=>by kernel_rfl) We1 (by decide) Wd1
noncomputable def Zt:Stmt->Pos
 |.FunctionDef _ _ _ _ _ _ _ _ _ p=>p
 |_=>⟨0,0,0,0⟩
noncomputable def dL:T4:=⟨"law",Ux (top 56),Uw (top 56),defScope (top 56),Zt (top 56)⟩
end K23
open PySem PySem.W PyProof.Rows
set_option maxRecDepth 100000 in
set_option maxHeartbeats 0 in
theorem PySem.Challenge.cw_spentonce_k23_block_done_holds : PySem.Challenge.rw_spentonce_k23_block_done.Holds := by
 refine Mi.holds (q:=K23.q) (d:=K23.dL) K23.said K23.asK K23.left (by kernel_rfl) (by kernel_rfl) (by kernel_rfl) (by decide+kernel) ⟨rfl,rfl,rfl,rfl,rfl,by decide+kernel⟩ ?hw ?hc
 (case hw=>w_witness2)
 k_fill
 refine Mi.walk (l:=PySem.Challenge.rw_spentonce_k23_block_done) (T:=K23.T) (G:=K23.G) (B:=K23.B) (F:=K23.F) (O:=K23.O) (x:="_law_script") (W:=100) (n:=30) rfl rfl (λw h Y=>Y) ⟨rfl,by decide,by decide⟩ rfl (by decide) ⟨_,rfl,rfl⟩ ?X K23.run
 case X=>
  intro w mg h KX hG;refine' K23.txt KX hG ?np ?fe ?be ?cf ?nw ?n0 ?n1 ?m0 ?m1 ?m2 ?m3 ?m4 ?m5 ?m6 ?m7 ?m8 ?m9 ?zg0 ?zg1 ?zg2 ?zg3 ?zg4 ?zg5 ?zg6 ?zg7
  (case fe=>intro x hx;simp only[K23.FL,List.mem_cons,List.not_mem_nil,or_false]at hx;rcases hx with rfl|rfl|rfl|rfl|rfl|rfl|rfl|rfl|rfl|rfl|rfl|rfl|rfl|rfl|rfl|rfl|rfl|rfl|rfl|rfl|rfl|rfl|rfl|rfl|rfl|rfl|rfl|rfl|rfl|rfl|rfl|rfl|rfl|rfl|rfl|rfl|rfl|rfl<;>(refine' Mi.Jze ?a ?l ?c ?k;(case a=>k_is);(case l=>k_is);(case c=>k_is);(case k=>k_is)))
  (case np=>kernel_rfl)
  (case be=>intro x hx;simp only[K23.B,List.mem_cons,List.not_mem_nil,or_false]at hx;rcases hx with rfl|rfl|rfl|rfl|rfl|rfl|rfl|rfl|rfl|rfl|rfl|rfl|rfl|rfl|rfl|rfl<;>(unfold K23.Be;k_is))
  (case cf=>refine' Mi.Jzl ?qn ?qp ?qh ?qo ?qs;(case qn=>k_is);(case qp=>k_is);(case qh=>k_is);(case qo=>k_is);(case qs=>k_is))
  (case nw=>refine' Mi.Jyy ?qn ?qm ?qk;(case qn=>k_is);(case qm=>k_is);(case qk=>k_is))
  (case n0=>refine' Mi.Jv6 ?qn ?qa;(case qn=>k_is);(case qa=>k_is))
  (case n1=>refine' Mi.Jv6 ?qn ?qa;(case qn=>k_is);(case qa=>k_is))
  (case m0|m1|m2|m3|m4|m5|m6|m7|m8|m9=>refine' Mi.Jy0 ?qn ?qa ?ql ?qc ?qk ?qi;(case qn=>k_is);(case qa=>k_is);(case ql=>k_is);(case qc=>k_is);(case qk=>k_is);(case qi=>k_is))
  (case zg0=>k_is)
  (case zg1=>refine' Mi.Jtd ?a ?l;(case a=>k_is);(case l=>first|rfl|k_is))
  (case zg2=>k_is)
  (case zg3=>refine' Mi.Jtc ["height","age","worth","ins","outs"] ?a ?l ?v;(case a=>k_is);(case l=>k_is);(case v=>rfl))
  (case zg4=>k_is)
  (case zg5=>k_is)
  (case zg6=>k_is)
  (case zg7=>k_is)
