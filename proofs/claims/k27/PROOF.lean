import PyProof.Rows.All
import Wide.All
import OpenK.AllK
import Wide.FinOn
import Lean
import PyProof.EqAt
import PyProof.EqKinds
import PyProof.TupleCall
import KE.KRevIter
import PyProof.EnumStmt
import PyProof.EnumFor
import PyProof.EnumMake
import PyProof.Draws
import PyProof.WalksMore
import PyProof.Rows.SeqMore
import KE.KDictList
import KE.KMinKey
import PyProof.WalkInts
import PyProof.Rows.SortShell
import PyProof.Rows.SetFrom
import PyProof.SetRoads
import PyProof.TupleKey
import PyProof.DictRoadsH
import PyProof.IsRules
import PyProof.DictWalks
import KE.KDictOf
import KE.KEqDict
import KE.KSortTup
import KE.KItemsList
import PyProof.AttrMissHeap
import PyProof.ZipIter
import PyProof.ListMulRoad
import PyProof.StrBlock2
import PyProof.NeKinds
import PyProof.ConsumeWalk
import PyProof.SumAny
import PySem.Challenge.RW_spentonce_k27_whole_sums
open PySem renaming wpAny_bind->Aa,wpAny_pure->Ab,mainGlobals->Bl,Around->Bo,wpAny_call_entry->Bq,wpAny_holding->Bt,wpAny_newObj_type->B5,wpAny_dictEntries->B6,wpAny_callSpecial?_slot->B9,starEach->Cd,DictEntry->Ce,wpAny_mono->Cu,wpAny_field->Cv,wpAny_setField_rec->Df,cLine->Dm,tupleKind_room_in1->Dw,bootBuiltins->Dy,wpAny_rule->D2,foldedSetIterable->D3,wpAny_notOrdered_dict->D5,codeAny_builtin->Ea,wpAny_isInstance->Ed,wpAny_forIn_list->Ee,compareOp->Ef,wpAny_truthy_bool->Es,wpAny_dictEpoch->Ew,wpAny_seqItems->E6,mem_of_lookup->E7,wpAny_attempt->Fv,Obj->Fy,size_of_entries->F9,NameKind->Ga,wpAny_typeNameOfWhole_itemiter->Gq,backTo->Gs,wpAny_typeNameOfWhole_valiter->G0,wpAny_typeNameOfWhole_keyiter->G1,sizeLine_eq->G2,wpAny_typeOf->G4,codeAny_mono->G5,assignEach->G6,wpAny_specialOf->Hb,binaryOp->Hc,plainId_quiet->He,wpAny_richCompare_same_room->Hj,wpAny_pyIter_list->Hk,atKey->Hl,IsPair->Hu,swapsWith->Hy,codeAny->Hz,wpAny_typeNameOf_itemiter->Ic,wpAny_typeNameOf_valiter->Ik,wpAny_typeNameOf_keyiter->Il,wpAny_Call_Name_kw->Iz,wpAny_setState_of->Jh,firstArgMember->Ji,Params->Jk,FuncData->Jl,isSubtype_tuple_tuple->Js,wpAny_eqBool_int->Ju,behindInMarks->Jy,sliceBounds->J2,Scope->Kb,wpAny_passesOwn->Kj,letOwnedTupleGo->Kk,wpAny_setField->K8,keywordEach->Lk,Model->Lm,wpAny_Call_method0_late->L5,IsZip->L9,HeapKind->Ma,wpAny_isOneOf_itemiter->Mp,getItem->Mq,evalArgs_none->Mr,wpAny_isOneOf_valiter->M0,wpAny_fieldsOf->Ni,concat_meets->Nj,ZipApart->Nl,Result->Nm,IsPart->Nn,valueAt->Nt,treeTable->Nu,keyPart->Nv,callerA->Nw,noFill_tuple_add->N5,wpAny_standAt->Od,wpAny_newList->Oe,wpAny_tupleItemsOf->Om,wpAny_pyIter_tuple->Oo,wpAny_load->Oq,wpAny_pyIter_slot->O7,standAt->O8,ofAClassStatement->O9,entry_at->Pa,call_meetsIn->Pb,call->Pc,backToKw->Pd,atKey_none_of_get->Pe,wpAny_comp_letGo->P8,wpAny_Dict_empty->P9,seq_tuple_add->Qa,eqIsQuiet->Qb,wpAny_of_eq->Ql,wpAny_letGo->Qm,wpAny_updateSeq->Qz,wpAny_loadPart'->Q0,revObj->Q1,passOn->Q2,Within->Q3,storedH->Rf,wpAny_runValue->Rr,wpAny_newTuple->Rt,methodCallForm->Ru,isSubtype_stop->Rv,isInstance->Rx,carriedByValue->Ry,call_meets->Rz,wpAny_onRaise->Sy,wpAny_handled->Sz,setSearchFrom->Ta,seqItems?->To,field->Tq,bindL->Ts,bindC->Tt,wpAny_pyNext_list_item->T7,spliced->T8,newExc->T9,wpAny_pyNext_list_end->Uo,wpAny_isOneOf_keyiter->Up,wpAny_eqIsQuiet_tuple->Uq,wpAny_updateSeq_pair->Uw,wpAny_throw->Ux,wpAny_pyIter_revIter->Uy,wpAny_loadName_local->Uz,setField->U0,seqIndex_of->U1,richCompare->U2,hashByValue->U3,bindArgs->U4,wpAny_loadName_cell->Vf,wpAny_dictFind_heap->Vg,wpAny_setItem_heap->V5,wpAny_getItem_heap->V6,wpAny_eqBool_tuple->V7,wpAny_call->V8,wpAny_Name->V9,typeIs_int->Wa,reduceHash->Wb,getattributeRaised->Wc,closureFor->We,builtinsNs->Wf,PlainAttrs->Wj,IsTupleKey->Wn,DefRec->Wq,wpAny_storeSet_of->Wx,wpAny_sequenceKey->Wy,wpAny_pyIter_enum->Wz,wpAny_assign_Name->W0,slot_list_getitem->W1,setItem->W2,searchCouldBeSeen->W3,Keyword->W8,ItemsOf->W9,BindsTo->Xd
open PySem.Str renaming ofString->Ac,ofString_eq_toList->R3
open List renaming getElem?_eq_some_iff->Ad,getElem?_eq_getElem->Ae,length_map->Ag,length_append->Al,mem_cons->An,getElem?_map->Ao,mem_singleton->Ap,append_assoc->Ar,mem_of_getElem?->As,getElem?_append_right->Au,mem_map->Av,size_toArray->Aw,getElem?_append_left->A0,getElem?_set_ne->A1,mem_cons_of_mem->A7,map_cons->Bf,not_mem_nil->Bg,length_cons->Bh,mem_append->Bn,map_map->Bp,map_append->Bv,mem_append_right->Bw,drop_eq_getElem_cons->Bx,take_of_length_le->By,range->Bz,mem_cons_self->B1,pairwise_iff_getElem->B7,pairwise_map->Cg,length_eq_zero_iff->Ci,getElem?_cons_succ->Cj,length_singleton->Cm,append_nil->Co,pairwise_append->Cq,nodup_append->Cw,mem_iff_getElem?->C0,nodup_cons->C3,take_add_one->C5,all_eq_true->Dg,length_pos_iff->Dh,getElem?_toArray->Dl,mem_append_left->Dt,getElem?_set_self->Dv,find?_cons->D4,pairwise_cons->D6,mem_iff_getElem->D8,length->D9,length_range->Ei,getD_eq_getElem?_getD->Ej,map_congr_left->Em,filter_cons->Ey,mem_of_mem_take->E3,mem_filter->E4,lookup_cons->Fh,getElem_mem->Fi,drop_length->Fj,take_append_drop->Fs,getElem?_eq_none->Ft,length_set->F1,lookup->F3,getElem?_take_of_lt->F7,filter_eq_self->Gb,filterMap_cons->Ge,take_length->Gg,replicate->Gh,length_take->Gi,getElem?_replicate->Gj,drop_eq_nil_of_le->Gp,any_cons->Gy,take_sublist->G8,ext_getElem?->G9,mem_range->Hg,extract_eq_take_drop->Hr,length_nil->H9,filter_append->Ig,nodup_nil->Iw,filter_eq_nil_iff->Iy,length_replicate->Je,length_filter_le->Jf,length_drop->Jg,mem_of_mem_drop->Jp,forIn_cons->Jt,mergeSort_perm->Jv,length_reverse->Jw,findSome?_eq_none_iff->Ki,flatten_cons->Kw,drop_sublist->Kx,nodup_range->Lc,getElem?_cons_zero->Ld,cons_append->Le,append_cancel_left->Lf,any_toArray->Lg,any_eq_true->Lh,range_succ_eq_map->Lq,map_nil->Lr,nil_append->Ly,perm_append_comm->L4,take_zero->Ml,getElem?_zipIdx->Mm,sum_append_int->My,filter_sublist->Mz,map_take->M8,zip_cons_cons->Nd,merge->Nf,mem_filterMap->Ng,getElem_range->Nh,any_eq_false->N3,zipIdx_cons->Oi,perm_middle->Oj,of_mem_zip->O5,take_take->P0,perm_ext_iff_of_nodup->P1,getElem?_take_eq_none->P2,exists_cons_of_ne_nil->P4,mem_take_iff_getElem->Qi,length_erase_of_mem->Qv,all_cons->Qw,pairwise_mergeSort->Q9,filter_cons_of_pos->Ra,filter_cons_of_neg->Rb,eraseIdx_cons_succ->Rc,set_set->Rk,merge_perm_append->Rm,map_id'->Ro,length_pos_of_mem->Rp,any_map->Rq,set_getElem_self->R6,getElem?_reverse->R7,filterMap_append->R8,eq_nil_or_concat->R9,dropLast_eq_take->Sd,reverse_reverse->Sq,mem_erase_of_ne->Ss,getElem?_of_mem->Su,findSome?_cons->Th,getElem?_drop->T5,range'_succ->Uu,append_inj'->Uv,zipIdx_nil->Vd,foldl_cons->Ve,map->Vx,forIn_nil->Vy,find?_map->Vz,drop_zero->V0,drop_take->V1,drop_drop->V2,sum_cons->Wt,map_drop->Wu,all_map->Xe
open PySem.Heap renaming get?_push_of_some->Af,get?_push_size->Ak,lt_size->Aq,size_push->C4,get?_update_self->Di,SameBut->Du,get?_update_other->Fd,get?_none_of_le->Mg,ExtBut->Sk,get?_update_ne->Tf,get?_push_ne->Uc,IsTuple->Xa
open PySem.W renaming Frag->Ah,nsIn->Cc,findIn->D7,emptyDict->Ec,keepIn->Ek,instObj->Fw,fnOf->Gk,kia_one->Ht,codeIn->I8,plainGet->Kt,OpenLaw->K3,lookIn->Lu,plainGet_of->L6,callWith_K0->L7,mg_of->Md,methodObj->M1,isFn->M2,hasDictIn->M3,takerIn->N6,makesIn->N7,WalkO->Of,cellsFrom_some->Qc,methodCall_KW->Qn,callWith_K->R0,plainOver->Sh,handedIn->Td,piece_app->Tu,kat_cons->U5,InK->Vh,XL->Wg,kat_yes->W4
open Option renaming map_eq_some_iff->Ai,isSome_iff_exists->Cz,isSome_map->F0,bind_some->Hf,map_some->Hx,bind_eq_some_iff->K6,getD_some->N2,map_map->O4,toList->Pz,isNone_some->So,getD_none->T4
open Nat renaming le_refl->Aj,ne_of_lt->A5,lt_of_lt_of_le->Bu,le_trans->B3,zero_add->C2,ne_of_gt->C9,zero_le->Dk,lt_succ_self->Eb,add_assoc->Eh,le_of_lt->E2,succ_pos->Fe,sub_self->Ff,lt_irrefl->Fg,lt_trans->F4,lt_of_le_of_lt->Gu,le_of_lt_succ->Ha,mod_lt->Ih,add_sub_cancel_left->Ij,lt_trichotomy->Jb,le_add_right->Jn,add_le_add_left->Jz,lt_or_ge->Kf,lt_succ_of_lt->K7,sub_zero->Lx,le_succ->Mu,le_of_eq->Oa,min_eq_left->Pm,not_lt->Ui,add_sub_cancel->Uj,add_right_comm->Uk,le_of_succ_le->Ut,succ_lt_succ->Vc,strongRecOn->Vw
open Bool renaming and_eq_true->Am,false_eq_true->Ba,false_ne_true->Bb,not_true->D1,or_eq_true->Ib,not_eq_true'->Ky,eq_iff_iff->Lz,and_false->Mo,true_and->Na,not_false->P7,and_true->Qx,and_self->Qy,or_eq_false_iff->Sw,and_eq_true_iff->Sx,eq_false_iff->Um
open PySem.Value renaming ref->Ax,none->C7,int->Eg,type->Fm,bool->J3,isInt_shape->Kq,isInt->Kr,str->N8,isStrOf->Vi,builtin->Vj,float->W6,bytes->W7
open PyProof.Rows renaming wpS_bind->Ay,wpS_pure->Bc,slot_tuple_getitem->C1,SortSt->C8,callWith_type1->Dc,wpS_mono->De,wpS_forRange->Dr,SortKind->Hv,callWith_builtin1->Ie,wpS_modify->Ja,gallopOf->La,wpS_get->Ln,reverseSlice'->Lv,AllBare->Mt,tail_any->M7,wpS_lift->Np,tupleItemsOf_->Oh,envOfC->Ou,entry_list_sort->Q8,slot_list_sort->Rj,listUpdate_at->Tg,Call_->T3,subscriptTail_builtinR->Ue,IntsAre->Uh,UnaryOp_->Us,seqEpoch_at->Va,entry_proto_collect'->Vb,entry_tuple_getitem->Vn,args_tuple_getitem->Wr
open And renaming intro->Az
open PySem.SetTable renaming runEnd->Bd,bits->Cp,turns->Cr,below->Dn,Probe->Dx,insertAt->Ez,advance->F6,layClean->Ka,has->K4,leap->L8,sizeAbove->Mf,fill->Oy,probeStart->Q4,tooFull->Si,grown->Tv,fits->Ua
open Array renaming getElem?_eq_getElem->Bi,length_toList->Br,getElem?_toList->Bs,mem_toList_iff->C6,toList_append->Fb,forIn_toList->Gn,mem_of_getElem?->Gz,getD_eq_getD_getElem?->G3,toList_push->Io,getElem?_eq_none->Ip,toList_extract->Jo,size_setIfInBounds->Kz,replicate->Ls,toList_inj->Ob,getElem?_setIfInBounds->Ox,ext_getElem?->Tn,getElem_mem->T6,isEmpty->V4,toList->Ww
open Option.some renaming inj->Bj,injEq->Hw
open False renaming elim->Bm
open PySem.Builtin.Int renaming intBits->B4
open Function renaming comp_def->B8
open PySem.Paired renaming length->Cf,snoc->Wm
open PySem.Builtin.Dict_items renaming ownsTuple->Ct,ownedTupleIsFree->Kn,ownedTupleFields->Ko,pairFromOwner->K5,newIterator->Lb,dictOf->Mc
open PySem.Builtin.SmallTypes renaming ownedTupleIsFree->Cy,nextOf->Dj,ownedTupleHandOut->Kh
open PySem.Builtin.Tuple renaming tupleHashOf->Dp,tupleExact->G7,tupleItemsOf->Jd,tupleIsExact->M4
open PySem.Around renaming under_plainId->Dq,under->Qu
open PySem.Heap.SameBut renaming update->Ds,refl->Qe
open PySem.F renaming slot_dict_itemiterator_next->Dz,called_set->Et,slot_dict_valueiterator_next->E1,slot_dict_keyiterator_next->Fc,plain_extend_loop->Fq,plainAttrs_dict->F8,slot_tuple_iterator_next->Hq,slot_dict_get->Iq,slot_tuple_hash->Jc,slot_tuple_eq->Kc,args_tuple_add_2->Km,entry_tuple_add->Ku,slot_tuple_add->K9,slot_list_getattribute->Li,slot_dict_pop->Lj,args_dict_itemiterator_next_1->L3,entry_dict_itemiterator_next->Mb,slot_zip_next->Mh,slot_dict_items_iter->N9,args_dict_valueiterator_next_1->Ot,slot_dict_getitem->Oz,entry_extend_loop->O0,entry_dict_valueiterator_next->O1,slot_tuple_index->Pf,slot_dict_iter->Pg,args_dict_keyiterator_next_1->Pj,slot_dict_items->Po,plain_list_iadd->Pp,plainAttrs_list->Pq,entry_dict_keyiterator_next->Pu,args_dict_pop_2->Pw,args_dict_get_2->Px,entry_dict_pop->Qf,entry_dict_get->Qg,args_tuple_iterator_next_1->Qh,type_dict_get->Qr,sub_dict_dict->Qs,entry_tuple_iterator_next->Qt,slot_dict_ne->Q6,slot_dict_eq->Q7,slot_list_append->R4,slot_dict_values->R5,slot_dict_values_iter->Sl,slot_list_pop->Tx,kt_typeCall_dict_1->Ud,args_dict_init_2->U8,entry_dict_init->Vl,args_zip_next_1->Vm,kt_called_dict->Wo,entry_zip_next->Wp,slot_tuple_lt->Xc
open PySem.Obj renaming mapSeq->El,data_mapDictKeys->Jq,data_mapFields->Kl,putSet->Qd,isFreed_of_fields->Sj,isFreed_of_dict->Tw,cls_mapFields->Ur
open List.Perm renaming append_left->Ep,append_right->Ia,trans->Sv,cons->Ti
open Int renaming toNat_natCast->Er,le_trans->F5,lt_of_le_of_lt->Gv,lt_of_lt_of_le->Ii,toNat_of_nonneg->M9,natCast_nonneg->Nr,le_refl->O6,ediv_nonneg->Pn,fdiv_eq_ediv_of_nonneg->Qk,ofNat_lt->Se,natAbs_of_nonneg->Tj,emod_lt_of_pos->Ul,emod_nonneg->V3,pow_nonneg->Wv
open PySem.SetTable.layClean renaming free->Eu
open List.Pairwise renaming sublist->E5,imp_of_mem->Jr,nil->P5
open PySem.Builtin.Dict renaming showsAll->E8,dictSlotArgs->Gx,updateFrom->Hh,entriesForEmpty->Mw,selfAndRest->Ny,addKeywords->Nz,samePairs->Og,takeOut->O2,quietEq->O3,noArgs->Pl
open Ne renaming symm->E9
open PySem.SeqAt renaming EqAt->Fo,RcNeAt->Q5,RcAt->Te
open True renaming intro->Fp
open PyProof.Rows.KTD.Dat renaming flat->Fz,At->Ws
open PySem.Shared renaming TypeIs->F2,heap->Rh
open Std.Legacy.Range renaming forIn_eq_forIn_range'->Gf,size->Jx
open PyProof.Rows.SortSt renaming mk'->Gm
open PySem.Builtin.Slice renaming slicePlaces->Gw,sliceAdjust->Jm,sliceApplied->M5
open ForInStep renaming yield->Hm
open Sum renaming inl->Hn,inr->N4
open PySem.Calls renaming callWith_builtin->Im,spliced_cons->Ke,spliced_nil->Ks,Name_function_global->Pk,call_function_entry->Py
open PyProof.Rows.F renaming plain_set_update_loop->Iu,entry_set_update_loop->Sn
open PySem.NameKind renaming free->I9,cell->Ub
open PySem.SetTable.below renaming go->Jj
open Classical renaming not_not->J1,byContradiction->Ol,choice->Sf
open Sum.inl renaming inj->Kg
open PySem.SetTable.probe renaming go->Ll
open Prod.mk renaming injEq->Mj,inj->Vv
open Std.Legacy renaming Range->Mv
open PyProof.Rows.KTD renaming tabLook->Mx,opened_int->Vo,get2_text->Vp,each_nil->Vq,each_miss->Vr,each_hit->Vs,datLooks->Vt,Each->Vu
open PySem.Builtin.List renaming listExtendWith->M6,listSameRef->Nx
open PySem.SeqAt.EqAt renaming same->Nb,str_int->Qo,of_refs->Qp,int_str->Qq
open PySem.Builtin.SmallTypes.calledThroughType renaming match_1->Nc
open List.cons renaming injEq->Nq,inj->Ov
open PyProof.V.Flat renaming int_inv->N0
open Prod renaming ext->N1
open Char renaming toNat->P6
open List.Sublist renaming refl->Qj
open PySem.Code renaming isFrame->Ri,quiet_builtin->Tz
open PySem.Walks renaming list->Tc
open PyProof.Rows.IsTup renaming new->Ug
open PySem.W.KatTups renaming cons->U6
open PySem.SetTable.Probe.mk renaming injEq->U7
open PySem.Builtin.Frozenset renaming updateFrom->U9
open PySem.Heap.IsItemsView renaming typeIs->Vk
open PySem.W.OpenLaw renaming row->Wi
open PySem.W.WShape renaming has->W5
open PySem.Heap.IsSliceOf renaming new->Xb
theorem fx9{p:Prop}(h:false=true):p:=absurd h Bb
noncomputable section
set_option autoImplicit true
set_option Elab.async false
set_option linter.all false
set_option maxRecDepth 100000
set_option maxHeartbeats 4000000
set_option bootstrap.genMatcherCode false
set_option compiler.extract_closed false
section
open Lean in
local macro_rules|`(tactic|show $t)=>`(tactic|refine $t)|`(tactic|let $d:letDecl)=>let p:=d.1[0];if p.isOfKind ``Parser.Term.letPatDecl then let q:=p[0][1];let l:=(#[q[0]]++q[2].getSepArgs).map fun x=>(⟨mkNode (if x.isIdent then ``Parser.Tactic.rcasesPat.one else ``Parser.Tactic.rcasesPat.ignore) #[x]⟩:TSyntax `rcasesPat);`(tactic|obtain⟨$[$l:rcasesPat],*⟩:=$(⟨p[4]⟩))else`(tactic|have $d:letDecl)|`(tactic|erw[$t:term])=>`(tactic|simpa using $t)|`(tactic|exists $t,*)=>`(tactic|refine⟨$t,*⟩)|`(-$x)=>if x.1.isOfKind ``Parser.Term.typeAscription||x.1.isNatLit?.isSome then Macro.throwUnsupported else`(some $x)|`(#[$t,*])=>if t.getElems.isEmpty then Macro.throwUnsupported else`(⟨$t,*⟩)|`(↥$s)=>`(($s).heap.objs.size)|`(⇑$s)=>`(($s).length)|`('l')=>`(by lia)|`('s')=>`(by simp)|`('d')=>`(by decide)|`(tactic|w_top $e)=>`(tactic|split at $e:ident<;>try (cases $e:ident;done))|`(tactic|w_plain $x $h)=>`(tactic|cases $x:ident<;>try (exact fx9 $h))|`('m')=>`(by simp;lia)|`('k')=>`(by kernel_rfl)
namespace L2
open PySem PySem.Spec PyProof.Rows
abbrev Key:=Sum Int Str
noncomputable def Y9:Key->Value->Bool
 |.inl k,v=>Kr k v
 |.inr x,v=>Vi x v
noncomputable def Wdx(w:World):Key->Int
 |.inl k=>hashInt k
 |.inr x=>hashStr w x
theorem Jar:∀{k:Key} {v:Value},Y9 k v=true->(∃i t,k=Hn i/\v=Eg i t)\/(∃x t,k=N4 x/\v=N8 x t)
 |.inl i,v,h=>by
  let(t,e):=Kq (k:=i) (v:=v) h;show .inl #[i,t,rfl,e]
 |.inr x,v,h=>by
  let(t,e):=Value.isStrOf_shape (x:=x) (v:=v) h;show .inr #[x,t,rfl,e]
def Jm2(i:Int)(t:Tok):Y9 (.inl i) (.int i t)=true:=by simp[Y9,Kr]
def Jm1(x:Str)(t:Tok):Y9 (.inr x) (.str x t)=true:=by simp[Y9,Vi]
def Jyf(a b:Int):decide ((Hn a:Key)=Hn b)=(a==b):=by
 by_cases e:a=b
 .subst e;simp
 .let h:¬(Hn a:Key)=Hn b:=λq=>e (Kg q);rw[decide_eq_false h];show(beq_eq_false_iff_ne.2 e).symm
def Jyc(a b:Str):decide ((N4 a:Key)=N4 b)=decide (a=b):=by
 by_cases e:a=b
 .subst e;simp
 .let h:¬(N4 a:Key)=N4 b:=λq=>e (Sum.inr.inj q);rw[decide_eq_false h,decide_eq_false e]
def Jye(a:Int)(b:Str):decide ((Hn a:Key)=N4 b)=false:=decide_eq_false (λq=>nomatch q)
def Jyd(a:Str)(b:Int):decide ((N4 a:Key)=Hn b)=false:=decide_eq_false (λq=>nomatch q)
def mixKind(prog:Program)(w:World):PySem.KeyKind prog w Key where
 is:=Y9
 hash:=Wdx w
 inj:=λv a b f hb=>by
  rcases Jar f with⟨i,t,rfl,rfl⟩|⟨x,t,rfl,rfl⟩
  .rcases Jar hb with⟨j,u,rfl,e⟩|⟨y,u,rfl,e⟩
   .injection e with c _;rw[c]
   .show nomatch e
  .rcases Jar hb with⟨j,u,rfl,e⟩|⟨y,u,rfl,e⟩
   .show nomatch e
   .injection e with c _;rw[c]
 byValue:=λk v h=>by
  rcases Jar h with⟨i,t,rfl,rfl⟩|⟨x,t,rfl,rfl⟩<;>rfl
 pyHash:=λd h=>by
  rcases Jar d with⟨i,t,rfl,rfl⟩|⟨x,t,rfl,rfl⟩
  .show wpAny_pyHash_int h
  .show wpAny_pyHash_str h
 eqBool:=λg d h=>by
  rcases Jar g with⟨i,t,rfl,rfl⟩|⟨x,t,rfl,rfl⟩
  .rcases Jar d with⟨j,u,rfl,rfl⟩|⟨y,u,rfl,rfl⟩
   .rw[Jyf]at h;show Ju h
   .rw[Jye]at h;show Qq i t y u _ _ _ _ h
  .rcases Jar d with⟨j,u,rfl,rfl⟩|⟨y,u,rfl,rfl⟩
   .rw[Jyd]at h;show Qo x t j u _ _ _ _ h
   .rw[Jyc]at h;show wpAny_eqBool_str h
 «strs»:=λk x t v h=>by
  rcases Jar h with⟨i,u,rfl,e⟩|⟨y,u,rfl,e⟩
  .show nomatch e
  .injection e with c _;subst c;cases v<;>rfl
def Jio(prog:Program)(w:World)(i:Int)(t:Tok):(mixKind prog w).is (.inl i) (.int i t)=true:=Jm2 i t
def Jin(prog:Program)(w:World)(x:Str)(t:Tok):(mixKind prog w).is (.inr x) (.str x t)=true:=Jm1 x t
inductive V where
 |non|bl (b:Bool)|int (i:Int)|str (x:Str)|byt (b:Array UInt8)|flt (b:UInt64)|ref (a:Addr)|ty (n:String)
 deriving DecidableEq
def RelV:V->Value->Prop
 |.non,u=>u=C7
 |.bl b,u=>u=J3 b
 |.int i,u=>∃t,u=Eg i t
 |.str x,u=>∃t,u=N8 x t
 |.byt b,u=>∃t,u=W7 b t
 |.flt b,u=>∃t,u=W6 b t
 |.ref a,u=>u=Ax a
 |.ty n,u=>u=Fm n
abbrev Vals:List V->List Value->Prop:=Paired RelV
def Vals.length{xs:List V}{us:List Value}(r:Vals xs us):⇑xs=⇑us:=Cf r
theorem Vals.get:∀{xs:List V} {us:List Value} {i:Nat} {x:V},Vals xs us->xs[i]? =-x->∃u,us[i]? =-u/\RelV x u
 |_,_,_,_,.nil,e=>by simp at e
 |_,_,0,_,.cons r _,e=>by simp at e;subst e;exists _,rfl,r
 |_,_,i+1,x,.cons _ t,e=>by
  let(u,a,b):=Vals.get (i:=i) (x:=x) t (by erw[e]);exists u,by erw[a],b
theorem Vals.set(r:RelV x u):∀{xs:List V} {us:List Value} (i:Nat),Vals xs us->Vals (xs.set i x) (us.set i u)
 |_,_,_,.nil=>.nil
 |_,_,0,.cons _ t=>.cons r t
 |_,_,i+1,.cons q t=>.cons q (Vals.set r i t)
theorem Vals.append(h:Vals xs us)(s:Vals ys a):Vals (xs++ys) (us++a):=by
 induction h with
 |nil=>show s
 |cons r t b=>show .cons r b
theorem Vals.take:∀{xs:List V} {us:List Value} (n:Nat),Vals xs us->Vals (xs.take n) (us.take n)
 |_,_,0,_=>.nil
 |_,_,_+1,.nil=>.nil
 |_,_,n+1,.cons r t=>.cons r (Vals.take n t)
theorem Vals.drop:∀{xs:List V} {us:List Value} (n:Nat),Vals xs us->Vals (xs.drop n) (us.drop n)
 |_,_,0,r=>r
 |_,_,_+1,.nil=>.nil
 |_,_,n+1,.cons _ t=>Vals.drop n t
def RelO:Option V->Option Value->Prop
 |some v,-u=>RelV v u
 |none,none=>True
 |_,_=>False
def KV{κ:Type}:List (κ×V)->List (κ×Value)->Prop:=Paired λ(p:κ×V) (q:κ×Value)=>p.1=q.1/\RelV p.2 q.2
noncomputable def kV:Key->V
 |.inl i=>.int i
 |.inr x=>.str x
inductive HO where
 |lst (xs:List V)
 |tup (xs:List V)
 |dK (kvs:List (Key×V))|dT (kvs:List (List Key×V))
 |set (S:Int->Bool) (n:Nat)
 |ins (C dx:Addr) (fs:List (Str×V))
 |own (x:Addr)
 |xd (fs:List (Str×V))
 |met (f x:Addr)
 |rng (lo hi:Int)
 |frz (o:Obj) (u:HO)
 |tbl (ps:Array Value)
 |ext (φ:Program->World->Heap->Prop)
abbrev Hp:=Addr->Option HO
noncomputable def upd(H:Hp)(a:Addr)(o:HO):Hp:=λb=>if b=a then -o else H b
def Jae:upd H a o a=-o:=by unfold upd;rw[if_pos rfl]
def Jad(h:b≠a):upd H a o b=H b:=by unfold upd;rw[if_neg h]
def Jes{H:Hp}{a b:Addr}{o u:HO}(h:H a=-o)(h':H b=-u)(d:o≠u):a≠b:=by
 intro e;subst e;rw[h]at h';show d (Bj h')
def Jam{H:Hp}{a b:Addr}{o:HO}(h:H a=-o)(h':H b=none):a≠b:=by
 intro e;subst e;rw[h]at h';cases h'
section
variable (P:Program) (w:World)
def Xg(H:Hp)(h:Heap)(a:Addr):HO->Prop
 |.lst xs=>⇑xs<=sizeLine/\∃(its:List Value) (n:Nat),Vals xs its/\h.get? a=-{cls:=.type "list",data:=.seq its.toArray n}
 |.tup xs=>⇑xs<=sizeLine/\∃its:List Value,Vals xs its/\IsTup h a its.toArray
 |.dK kvs=>⇑kvs<=sizeLine/\(a==sysModules)=false/\∃vs,KV kvs vs/\h.DictOf (mixKind P w) a vs
 |.dT kvs=>⇑kvs<=sizeLine/\(a==sysModules)=false/\∃xs:List (List Key×Addr×Value),
   Paired (λ(p:List Key×V) (q:List Key×Addr×Value)=>p.1=q.1/\H q.2.1=-(.tup (p.1.map kV))/\RelV p.2 q.2.2) kvs xs/\
   ∃o es ep,h.get? a=-o/\o.ExactDict/\o.data=.dict es ep/\es.toList=xs.map (entryOfKey (tupleKind (mixKind P w)))/\(xs.map (·.1)).Nodup
 |.set S n=>h.SetOf (intKind P w) a S n
 |.ins C d c=>H d=-(.own a)/\⇑c<=1000/\d≠a/\h.get? a=-(Fw C d)/\
   ∃b,h.Ns1 d b/\(∀f,RelO (c.lookup f) (b f))/\Q3 b (c.map (·.1))
 |.own _=>∃o,h.get? a=-o
 |.xd c=>∃b,h.Ns1 a b/\∀f,RelO (c.lookup f) (b f)
 |.rng lo j=>∃t u v,h.get? a=-{cls:=.type "range",data:=.fields (List.toArray [.int lo t,.int j u,.int 1 v])}
 |.frz o u=>h.get? a=-o/\Xg H h a u
 |.tbl ps=>h.get? a=-{cls:=.none,data:=.fields ps}
 |.met f x=>h.get? a=-(M1 (.ref f) (.ref x))
 |.ext e=>e P w h/\(∃o,h.get? a=-o)/\∀g i:Heap,e P w g->(∀o,g.get? a=-o->i.get? a=-o)->e P w i
def HOk(H:Hp)(h:Heap):Prop:=∀a o,H a=-o->Xg P w H h a o
end
section
variable {P:Program} {w:World} {H H':Hp} {h h':Heap} {a:Addr} {o:HO}
theorem Xg.lt(x:Xg P w H h a o):a<h.objs.size:=by
 cases o with
 |lst c=>let(_,_,_,_,e):=x;show Aq e
 |tup c=>let(_,_,_,p):=x;show p.lt
 |dK b=>let(_,_,_,_,o,_,_,e,_):=x;show Aq e
 |dT b=>let(_,_,_,_,o,_,_,e,_):=x;show Aq e
 |set S n=>let(o,_,_,_,e,_):=x;show Aq e
 |ins C g d=>let(_,_,_,e,_):=x;show Aq e
 |own y=>let(_,e):=x;show Aq e
 |xd d=>obtain⟨_,⟨_,_,_,e,_⟩,_⟩:=x;show Aq e
 |rng lo i=>let(_,_,_,e):=x;show Aq e
 |frz j u=>let(e,_):=x;show Aq e
 |tbl k=>show Aq (show h.get? a=-_ from x)
 |met f y=>show Aq (show h.get? a=-_ from x)
 |ext l=>obtain⟨_,⟨_,e⟩,_⟩:=x;show Aq e
theorem Paired.mapP{c d:Type}{F G:c->d->Prop}{l₁:List c}{l₂:List d}(h:Paired F l₁ l₂)(f:∀a b,F a b->G a b):Paired G l₁ l₂:=by
 induction h with
 |nil=>show .nil
 |cons r t e=>show .cons (f _ _ r) e
theorem Xg.stay(x:Xg P w H h a o)(k:∀b u,(b=a\/H b=-(.own a))->h.get? b=-u->h'.get? b=-u)
  (E:∀b,H b=-(.own a)->H' b=-(.own a))(I:∀b xs,H b=-(.tup xs)->H' b=-(.tup xs)):Xg P w H' h' a o:=by
 induction o with
 |lst xs=>let(z,l,n,r,e):=x;exists z,l,n,r,k _ _ (.inl rfl) e
 |tup xs=>let(z,l,r,g,e,c):=x;exists z,l,r,g,k _ _ (.inl rfl) e,c
 |dK m=>let(z,y,J,r,g,i,j,e,c):=x;exists z,y,J,r,g,i,j,k _ _ (.inl rfl) e,c
 |dT m=>
  let(z,y,xs,r,g,i,j,e,c):=x;exists z,y,xs,Paired.mapP r λp q z=>#[z.1,I _ _ z.2.1,z.2.2],g,i,j,k _ _ (.inl rfl) e,c
 |set S n=>let(g,i,j,t,e,c):=x;exists g,i,j,t,k _ _ (.inl rfl) e,c
 |ins C Y L=>
  obtain⟨d,z,N,e,s,⟨od,i,j,Q,c⟩,r⟩:=x;exists E _ d,z,N,k _ _ (.inl rfl) e,s,#[od,i,j,k _ _ (.inr d) Q,c],r
 |own y=>let(g,e):=x;exists g,k _ _ (.inl rfl) e
 |xd L=>obtain⟨s,⟨od,i,j,e,c⟩,r⟩:=x;exists s,#[od,i,j,k _ _ (.inl rfl) e,c],r
 |rng lo hi=>let(t,u,v,e):=x;exists t,u,v,k _ _ (.inl rfl) e
 |frz g u U=>let(e,q):=x;exists k _ _ (.inl rfl) e,U q
 |tbl A=>
  have e:h.get? a=-{cls:=.none,data:=.fields A}:=x;change h'.get? a=-{cls:=.none,data:=.fields A};show k a _ (.inl rfl) e
 |met f y=>
  have e:h.get? a=-(M1 (.ref f) (.ref y)):=x;change h'.get? a=-(M1 (.ref f) (.ref y));show k a _ (.inl rfl) e
 |ext φ=>obtain⟨p,⟨o,e⟩,st⟩:=x;exists st _ _ p λo q=>k _ _ (.inl rfl) q,#[o,k _ _ (.inl rfl) e],st
def HOk.lt(x:HOk P w H h)(e:H a=-o):a<h.objs.size:=(x a o e).lt
theorem HOk.fresh(x:HOk P w H h)(e:h.objs.size<=a):H a=none:=by
 cases q:H a with
 |none=>rfl
 |some u=>show absurd (Bu (x.lt q) e) (Fg _)
def HOk.kept(x:HOk P w H h)(k:∀b u,h.get? b=-u->h'.get? b=-u):HOk P w H h':=λa o e=>
 (x a o e).stay (λb u _ q=>k b u q) (λ_ q=>q) λ_ _ q=>q
def HOk.laid(x:HOk P w H h)(k:∀b u,h.get? b=-u->h'.get? b=-u)(hp:h.objs.size<=a)(new:Xg P w (upd H a o) h' a o):HOk P w (upd H a o) h':=λb u e=>by
 let d:=x.fresh hp
 by_cases hb:b=a
 .subst hb;rw[Jae]at e;cases e;show new
 .rw[Jad hb]at e;show(x b u e).stay (λc v _ q=>k c v q) (λc q=>by rw[Jad (Jam q d)];show q) λc f q=>by rw[Jad (Jam q d)];show q
end
def Rd(H:Hp)(a:Addr)(u:HO):Prop:=H a=-u\/∃o,H a=-(.frz o u)
def Rd.of(h:H a=-u):Rd H a u:=.inl h
def Rd.ok(r:Rd H a u)(x:HOk P w H h):Xg P w H h a u:=by
 rcases r with r|⟨o,r⟩
 .show x a u r
 .let(_,q):=x a _ r;show q
def Mut:Option HO->Prop
 |some (.lst _)=>True
 |some (.dK _)=>True
 |some (.dT _)=>True
 |some (.set _ _)=>True
 |some (.ins _ _ _)=>True
 |some (.ext _)=>True
 |_=>False
section
variable {P:Program} {w:World} {H:Hp} {h h':Heap} {x e:Addr} {o':HO}
theorem HOk.write(n:HOk P w H h)(g:Mut (H x))(l:e=x\/H e=-(.own x))(k:∀b u,b≠e->h.get? b=-u->h'.get? b=-u)(j:∃u,h'.get? e=-u)
  (new:Xg P w (upd H x o') h' x o'):HOk P w (upd H x o') h':=λb u q=>by
 let d:∀c y,H c=-(.own y)->c≠x:=λc y r z=>by subst z;rw[r]at g;show g
 let f:∀c i,H c=-(.tup i)->c≠x:=λc i r z=>by subst z;rw[r]at g;show g
 by_cases hb:b=x
 .subst hb;rw[Jae]at q;cases q;show new
 .rw[Jad hb]at q
  by_cases a:b=e
  .let m:H b=-(.own x):=by
    rcases l with z|z
    .show absurd (a.trans z) hb
    .rw[a];show z
   rw[q]at m;cases m;let(v,o):=j;exists v,by rw[a];show o
  .show(n b u q).stay (λc v hc r=>k c v ?_ r) (λc r=>by rw[Jad (d c b r)];show r) λc i r=>by rw[Jad (f c i r)];show r
   rcases hc with rfl|hc
   .show a
   .rintro rfl;rcases l with z|z
    .show d c b hc z
    .rw[hc]at z;cases z;show hb rfl
end
structure Un(fs ex:List Addr)(H H':Hp)(h h':Heap):Prop where
 keep:∀b o,h.get? b=-o->H b=none->b∉fs->b∉ex->h'.get? b=-o
 slot:∀b o,h.get? b=-o->H b=none->b∈fs->b∉ex->∃sl,h'.get? b=-{o with slots:=sl}
 free:∀b o,h.get? b=-o->H b=none->b∉ex->H' b=none
 there:∀b o,h.get? b=-o->b∉ex->∃o',h'.get? b=-o'
 tups:∀b xs,H b=-(.tup xs)->H' b=-(.tup xs)
 frzs:∀b o u,H b=-(.frz o u)->H' b=-(.frz o u)
 tbls:∀b ps,H b=-(.tbl ps)->∃more,H' b=-(.tbl (ps++more))
section
variable {fs fs' ex ex':List Addr} {H H1 H2:Hp} {h h1 h2 h':Heap} {a x e:Addr} {o:HO}
def Un.any(u:Un fs ex H H1 h h1)(q:h.get? b=-ob)(n:H b=none)(c:b∉ex):∃sl,h1.get? b=-{ob with slots:=sl}:=by
 by_cases hb:b∈fs
 .show u.slot b ob q n hb c
 .exists ob.slots,u.keep b ob q n hb c
def Un.kept(k:∀b u,h.get? b=-u->h'.get? b=-u):Un fs ex H H h h':=
 #[λb c q _ _ _=>k b c q,λb c q _ _ _=>#[c.slots,k b c q],λ_ _ _ n _=>n,λb c q _=>#[c,k b c q],λ_ _ q=>q,λ_ _ _ q=>q,λ_ ps q=>#[#[],by rw[q];simp]]
def Un.refl:Un fs ex H H h h:=Un.kept λ_ _ q=>q
def Un.laid(k:∀b u,h.get? b=-u->h'.get? b=-u)(hp:h.objs.size<=a)(c:H a=none):Un fs ex H (upd H a o) h h' where
 keep:=λb u q _ _ _=>k b u q
 slot:=λb u q _ _ _=>#[u.slots,k b u q]
 free:=λb u q n _=>by rw[Jad (A5 (Bu (Aq q) hp))];show n
 there:=λb u q _=>#[u,k b u q]
 tups:=λb xs q=>by rw[Jad (Jam q c)];show q
 frzs:=λb u xs q=>by rw[Jad (Jam q c)];show q
 tbls:=λb ps q=>#[#[],by rw[Jad (Jam q c),q];simp]
def Un.write(d:Mut (H x))(j:e=x\/H e=-(.own x))(k:∀b u,b≠e->h.get? b=-u->h'.get? b=-u)(f:∃u,h'.get? e=-u):Un fs ex H (upd H x o) h h':=by
 let i:∀b,H b=none->b≠x:=λb n z=>by subst z;rw[n]at d;show d
 let hb:∀b,H b=none->b≠e:=λb n z=>by
  subst z;rcases j with r|r
  .show i b n r
  .rw[n]at r;cases r
 let g:∀b u,H b=-u->¬Mut (-u)->b≠x:=λb u q l z=>by subst z;rw[q]at d;show l d
 exists λb u q n _ _=>k b u (hb b n) q,λb u q n _ _=>#[u.slots,k b u (hb b n) q],λb u q n _=>by rw[Jad (i b n)];show n,λb u q _=>?_,
  λb xs q=>by rw[Jad (g b _ q λz=>z)];show q,λb u xs q=>by rw[Jad (g b _ q λz=>z)];show q,λb ps q=>#[#[],by rw[Jad (g b _ q λz=>z),q];simp]
 by_cases c:b=e
 .subst c;show f
 .exists u,k b u c q
end
noncomputable def trk(h:Heap)(H:Hp):List Addr:=(Bz h.objs.size).filter λa=>(H a).isSome
def Zf(h:Heap)(H:Hp):Heap:=PySem.W.hideAll h (trk h H)
def Jne(h:Heap)(H:Hp):(Zf h H).objs.size=h.objs.size:=PySem.W.hideAll_size _ _
def Jp2{h:Heap}(e:h.get? b=-o)(n:H b=none):(Zf h H).get? b=-o:=
 PySem.W.hideAll_get _ e λa=>by
  let q:(H b).isSome=true:=(E4.1 a).2;rw[n]at q;simp at q
theorem Juo{h:Heap}(e:(Zf h H).get? b=-o):h.get? b=-o/\H b=none:=by
 let a:h.get? b=-o:=PySem.W.of_hideAll (trk h H) e;exists a,?_;cases q:H b with
 |none=>rfl
 |some x=>
  have c:b∈trk h H:=E4.2 #[Hg.2 (Aq a),by simp[q]];let z:(Zf h H).get? b=none:=PySem.W.hideAll_none (trk h H) c;rw[z]at e;cases e
structure Mod(K:Ah)(mg:Str->Option Value)(base:Heap):Prop where
 kin:K.In base
 glob:base.Ns Bl mg
 blt:∃mb,base.Ns Wf mb/\∀x:Str,x≠"__name__"->mb x=Dy x
 nolimit:base.NoLimit
structure Cx where
 prog:Program
 w:World
 K:Ah
 mg:Str->Option Value
 base:Heap
 A:Bo
 N:List Str
 s₀:Shared
 H₀:Hp
 env:Env
 outer:List Env
 stack:List Env
 ex:List Addr
 fn:Str->Bool
 calm:Bool
 pn:List (Addr×Obj)
 xe:Value->Shared->Prop
noncomputable def frs(l:List Env):List Addr:=l.filterMap (·.frame)
abbrev Cx.fs(X:Cx):List Addr:=frs X.outer
def Vis(a:Kb)(x:Str):Prop:=a.names.lookup x=-.local\/a.names.lookup x=-.cell\/a.names.lookup x=-.free
def Loc(a:Kb)(x:Str):Prop:=a.names.lookup x=-.local\/a.names.lookup x=-.cell
def Look(env:Env)(h:Heap)(m:Str->Option Value)(x:Str)(u:Value):Prop:=
 (env.kindOf x=-.local/\m x=-u)\/((env.kindOf x=-.cell\/env.kindOf x=-.free)/\∃c,env.cells.lookup x=-c/\h.IsCell c (-u))
structure Cx.Ok(X:Cx):Prop where
 mod:Mod X.K X.mg X.base
 kind:X.env.scope.kind=.function
 glob:X.env.globals=Bl
 blt:X.env.builtins=Wf
 above:X.s₀.heap.objs.size<=X.env.locals
 inj:∀x y c,X.env.cells.lookup x=-c->X.env.cells.lookup y=-c->x=y
 has:∀x,(X.env.kindOf x=-.cell\/X.env.kindOf x=-.free)->∃c,X.env.cells.lookup x=-c
 cab:∀x c,X.fn x=true->X.env.cells.lookup x=-c->X.s₀.heap.objs.size<=c
 hd:X.calm=true->X.A.handled=none
 frames:X.A.frames=-X.stack
 stk:X.stack=X.outer\/(X.stack=X.env::X.outer/\X.env.frame=-X.env.locals)
 exf:∀b∈X.ex,b≠X.env.locals/\∀x c,X.env.cells.lookup x=-c->c≠b
 bs:∀b o,X.base.get? b=-o->X.s₀.heap.get? b=-o/\X.H₀ b=none
 bsz:X.base.objs.size<=X.s₀.heap.objs.size
 noex:∀b o,X.base.get? b=-o->b∉X.ex
 exfs:∀b∈X.ex,b∉X.fs
 funs:X.s₀.heap.FunFrames X.base X.outer
 frf:∀b∈X.fs,X.H₀ b=none
structure Inv(X:Cx)(pins:List (Addr×Obj))(σ:List (Option V))(H:Hp)(s:Shared):Prop where
 ok:X.Ok
 os:s.os=X.s₀.os
 bare:Mt s.gens
 base:Un X.fs X.ex X.H₀ H X.s₀.heap s.heap
 loc:∃m,s.heap.Ns X.env.locals m/\∀(i:Nat) (x:Str) (v:V),X.N[i]? =-x->σ[i]? =-(-v)->Vis X.env.scope x->∃u,RelV v u/\Look X.env s.heap m x u
 cell:∀x c,X.env.cells.lookup x=-c->∃v,s.heap.IsCell c v
 free:H X.env.locals=none
 freeC:∀x c,X.env.cells.lookup x=-c->H c=none
 pin:∀p∈X.pn++pins,s.heap.get? p.1=some p.2/\H p.1=none/\p.1≠X.env.locals/\p.1∉X.fs/\∀v,p.2.data≠ .cell v
 hok:HOk X.prog X.w H s.heap
 len:⇑σ=X.N.length
section
variable {X:Cx} {pins:List (Addr×Obj)} {σ:List (Option V)} {H H':Hp} {s:Shared} {h':Heap}
def Cx.Ok.nofr(a:X.Ok)(e:X.base.get? b=-o):b∉X.fs:=λhb=>by
 let:=(a.funs.mem hb).1;rw[e]at this;cases this
def Inv.bs(I:Inv X pins σ H s):∀b o,X.base.get? b=-o->s.heap.get? b=-o/\H b=none:=λb o e=>
 #[I.base.keep b o (I.ok.bs b o e).1 (I.ok.bs b o e).2 (I.ok.nofr e) (I.ok.noex b o e),I.base.free b o (I.ok.bs b o e).1 (I.ok.bs b o e).2 (I.ok.noex b o e)]
def Inv.bk(I:Inv X pins σ H s):∀b o,X.base.get? b=-o->s.heap.get? b=-o:=λb o e=>(I.bs b o e).1
def Inv.mod(I:Inv X pins σ H s):Mod X.K X.mg X.base:=I.ok.mod
def Inv.kIn(I:Inv X pins σ H s):X.K.In s.heap:=I.ok.mod.kin.keeps I.bk
def Inv.lt(I:Inv X pins σ H s):X.env.locals<↥s:=let#[_,a,_]:=I.loc;a.lt
def Inv.sz(I:Inv X pins σ H s):X.s₀.heap.objs.size<=↥s:=B3 I.ok.above (E2 I.lt)
def Inv.nofs(I:Inv X pins σ H s)(h:↥s<=a):a∉X.fs:=λhb=>by
 let(_,o,b,_):=I.ok.funs.mem hb;show absurd (Bu (Aq b) (B3 I.sz h)) (Fg _)
def Inv.cne(I:Inv X pins σ H s):∀x c,X.env.cells.lookup x=-c->c≠X.env.locals:=λx c e z=>by
 let(v,o,d,hd):=I.cell x c e;obtain⟨m,⟨f,g,h,a,b,_⟩,_⟩:=I.loc;rw[z,a]at d;cases d;rw[b]at hd;cases hd
def Inv.funs(I:Inv X pins σ H s):s.heap.FunFrames X.base X.outer:=by
 let a:∀(l:List Env),(∀b∈frs l,b∈X.fs)->X.s₀.heap.FunFrames X.base l->s.heap.FunFrames X.base l:=by
  intro l
  induction l with
  |nil=>intro _ _;trivial
  |cons env r h=>
   intro g j;obtain⟨k,⟨L,o,d,n,t,hd⟩,y⟩:=j;let f:L∈X.fs:=g L (by unfold frs;rw[Ge,d];show B1);let(sl,e):=I.base.slot L o t (I.ok.frf L f) f λz=>I.ok.exfs L z f;exists k,#[L,_,d,n,e,hd],h (λb hb=>g b (by unfold frs;rw[Ge,d];show A7 _ hb)) y
 show a X.outer (λ_ hb=>hb) I.ok.funs
def Inv.stack(I:Inv X pins σ H s):s.heap.FunFrames X.base X.stack:=by
 rcases I.ok.stk with e|⟨e,a⟩
 .rw[e];show I.funs
 .rw[e];let(m,b,_):=I.loc;show .cons (by rw[I.ok.kind];decide) a b ?_ I.funs;show Mg (B3 I.ok.bsz I.ok.above)
def Inv.stkSub(I:Inv X pins σ H s):∀b∈frs X.stack,b∈X.env.locals::X.fs:=λb hb=>by
 rcases I.ok.stk with e|⟨e,a⟩
 .rw[e]at hb;show A7 _ hb
 .rw[e]at hb;unfold frs at hb;rw[Ge,a]at hb;show hb
def Inv.stkFree(I:Inv X pins σ H s):∀b∈frs X.stack,H b=none:=λb hb=>by
 rcases An.1 (I.stkSub b hb)with e|hb
 .rw[e];show I.free
 .let(_,o,a,_):=I.ok.funs.mem hb;show I.base.free b o a (I.ok.frf b hb) λz=>I.ok.exfs b z hb
def Inv.step{ch:List Addr}(I:Inv X pins σ H s)
  (f:∀b∈ch,(b∈X.ex\/X.s₀.heap.objs.size<=b)/\b≠X.env.locals/\(∀x c,X.env.cells.lookup x=-c->c≠b)/\∀p∈X.pn++pins,p.1≠b)
  (keep:∀b o,b≠X.env.locals->b∉X.fs->b∉ch->s.heap.get? b=-o->H b=none->h'.get? b=-o)
  (y:∀b o,b≠X.env.locals->b∈X.fs->b∉ch->s.heap.get? b=-o->H b=none->∃sl,h'.get? b=-{o with slots:=sl})(free:∀b o,b∉ch->s.heap.get? b=-o->H b=none->H' b=none)
  (A:∀b o,b∉ch->s.heap.get? b=-o->∃o',h'.get? b=-o')
  (E:∀b xs,H b=-(.tup xs)->H' b=-(.tup xs))(J:∀b o u,H b=-(.frz o u)->H' b=-(.frz o u))(L:∀b ps,H b=-(.tbl ps)->∃Q,H' b=-(.tbl (ps++Q)))
  (ns:∀m,s.heap.Ns X.env.locals m->h'.Ns X.env.locals m)(hok:HOk X.prog X.w H' h')(hg:Mt g'):
  Inv X pins σ H' {s with heap:=h',gens:=g',drawn:=d',toks:=t'}:=by
 let U:∀b o,X.s₀.heap.get? b=-o->b≠X.env.locals:=λb o e=>A5 (Bu (Aq e) I.ok.above);let j:∀b o,X.s₀.heap.get? b=-o->b∉X.ex->b∉ch:=λb o e a hb=>by
  rcases(f b hb).1 with z|z
  .show a z
  .show absurd (Bu (Aq e) z) (Fg _)
 let g:∀x c,X.env.cells.lookup x=-c->∀v,s.heap.IsCell c v->h'.IsCell c v:=λx c e v #[o,C,hd]=>by
  let h:c∉ch:=λz=>(f c z).2.2.1 x c e rfl
  by_cases hc:c∈X.fs
  .let(sl,q):=y c o (I.cne x c e) hc h C (I.freeC x c e);exists _,q,hd
  .exists o,keep c o (I.cne x c e) hc h C (I.freeC x c e),hd
 exists I.ok,I.os,hg,#[λb o e n hb a=>?_,λb o e n hb a=>?_,λb o e n a=>?_,λb o e a=>?_,λb xs e=>E b xs (I.base.tups b xs e),λb o xs e=>J b o xs (I.base.frzs b o xs e),λb ps e=>?_],?_,λx c e=>?_,?_,λx c e=>?_,λp hp=>?_,hok,I.len
 .show keep b o (U b o e) hb (j b o e a) (I.base.keep b o e n hb a) (I.base.free b o e n a)
 .let(sl,t):=I.base.slot b o e n hb a;let(sl',Y):=y b _ (U b o e) hb (j b o e a) t (I.base.free b o e n a);exists sl',Y
 .let(o',t):=I.base.there b o e a;show free b o' (j b o e a) t (I.base.free b o e n a)
 .let(o',t):=I.base.there b o e a;show A b o' (j b o e a) t
 .let(m1,t):=I.base.tbls b ps e;let(m2,Y):=L b _ t;exists m1++m2,by rw[Y,Array.append_assoc]
 .let(m,hn,hl):=I.loc;exists m,ns m hn,λi x v t Y e3=>?_;let(u,r,l):=hl i x v t Y e3;exists u,r,?_;rcases l with l|⟨k,c,e,z⟩
  .show .inl l
  .show .inr #[k,c,e,g x c e _ z]
 .let(v,z):=I.cell x c e;exists v,g x c e v z
 .obtain⟨m,⟨o,_,_,C,_⟩,_⟩:=I.loc;show free _ o (λz=>(f _ z).2.1 rfl) C I.free
 .let(v,o,C,hd):=I.cell x c e;show free c o (λz=>(f c z).2.2.1 x c e rfl) C (I.freeC x c e)
 .let(e,n,ne,nf,d):=I.pin p hp;let h:p.1∉ch:=λz=>(f p.1 z).2.2.2 p hp rfl;exists keep p.1 p.2 ne nf h e n,free p.1 p.2 h e n,ne,nf,d
def Inv.un(I:Inv X pins σ H s)(u:Un X.fs [] H H' s.heap h')(hok:HOk X.prog X.w H' h'):Inv X pins σ H' {s with heap:=h',toks:=t'}:=by
 obtain⟨m,⟨o,l,t,g,r⟩,_⟩:=id I.loc;let(sl,h):=u.any g I.free 's';show I.step (g':=s.gens) (d':=s.drawn) (ch:=[]) (λ_ z=>nomatch z) (λb o _ hb _ e n=>u.keep b o e n hb 's') (λb o _ hb _ e n=>u.slot b o e n hb 's') (λb o _ e n=>u.free b o e n 's') (λb o _ e=>u.there b o e 's') u.tups u.frzs u.tbls (λy j=>by
  let(A,d,f,a,k):=j;rw[g]at a;cases a;exists _,d,f,h,k) hok I.bare
def Inv.call(I:Inv X pins σ H s)(u:Un (frs X.stack) ch H H' s.heap h')(hok:HOk X.prog X.w H' h')(k:Mt g')
  (a:∀b∈ch,(b∈X.ex\/X.s₀.heap.objs.size<=b)/\b≠X.env.locals/\(∀x c,X.env.cells.lookup x=-c->c≠b)/\∀p∈X.pn++pins,p.1≠b):
  Inv X pins σ H' {s with heap:=h',gens:=g',drawn:=d',toks:=t'}:=by
 obtain⟨m,⟨o,y,A,j,r⟩,_⟩:=id I.loc;let(sl,f):=u.any j I.free λz=>(a _ z).2.1 rfl;show I.step (ch:=ch) a (λb o f hb hc e n=>u.keep b o e n (λz=>(An.1 (I.stkSub b z)).elim f hb) hc) (λb o _ _ hc e n=>u.any e n hc) (λb o hc e n=>u.free b o e n hc) (λb o hc e=>u.there b o e hc) u.tups u.frzs u.tbls (λC l=>by
  let(E,g,h,d,t):=l;rw[j]at d;cases d;exists _,g,h,f,t) hok k
def Inv.turned(I:Inv X pins σ H s)(k:∀b o,b≠it->s.heap.get? b=-o->h'.get? b=-o)(f:H it=none)(d:it≠X.env.locals)
  (g:it∈X.ex\/X.s₀.heap.objs.size<=it)(h:∀x c,X.env.cells.lookup x=-c->c≠it)(j:∀p∈X.pn++pins,p.1≠it):Inv X pins σ H {s with heap:=h',toks:=t'}:=by
 let a:∀b u,H b=-u->b≠it:=λb u e z=>by rw[z,f]at e;cases e
 show I.step (g':=s.gens) (d':=s.drawn) (ch:=[it]) (λb hb=>?_) (λb o _ _ hc e _=>k b o (λz=>hc (by simp[z])) e) (λb o _ _ hc e _=>#[o.slots,k b o (λz=>hc (by simp[z])) e]) (λ_ _ _ _ n=>n)
  (λb o hc e=>#[o,k b o (λz=>hc (by simp[z])) e]) (λ_ _ e=>e) (λ_ _ _ e=>e) (λb C e=>#[#[],by rw[e];simp]) (λm l=>?_) (λb u e=>?_) I.bare
 .let e:b=it:=by erw[hb]
  subst e;exists g,d,h,j
 .let(o,t,y,A,r):=l;exists o,t,y,k _ o (E9 d) A,r
 .show(I.hok b u e).stay (λc v hc q=>k c v ?_ q) (λ_ q=>q) λ_ _ q=>q;rcases hc with z|z
  .rw[z];show a b u e
  .show a c _ z
def Inv.tok(I:Inv X pins σ H s)(t:Nat):Inv X pins σ H {s with toks:=t}:=I.un (h':=s.heap) (t':=t) Un.refl I.hok
def Inv.kept(I:Inv X pins σ H s)(k:∀b u,s.heap.get? b=-u->h'.get? b=-u):Inv X pins σ H {s with heap:=h',toks:=t'}:=I.un (Un.kept k) (I.hok.kept k)
def Inv.laid(I:Inv X pins σ H s)(k:∀b u,s.heap.get? b=-u->h'.get? b=-u)(hp:↥s<=a)(new:Xg X.prog X.w (upd H a o) h' a o):
  Inv X pins σ (upd H a o) {s with heap:=h',toks:=t'}:=I.un (Un.laid k hp (I.hok.fresh hp)) (I.hok.laid k hp new)
def Inv.write(I:Inv X pins σ H s)(d:Mut (H x))(f:e=x\/H e=-(.own x))(k:∀b u,b≠e->s.heap.get? b=-u->h'.get? b=-u)(a:∃u,h'.get? e=-u)
  (new:Xg X.prog X.w (upd H x o) h' x o):Inv X pins σ (upd H x o) {s with heap:=h',toks:=t'}:=I.un (Un.write d f k a) (I.hok.write d f k a new)
def Inv.pins_of{a:List (Addr×Obj)}(I:Inv X pins σ H s)(h:∀p∈a,s.heap.get? p.1=some p.2/\H p.1=none/\p.1≠X.env.locals/\p.1∉X.fs/\∀v,p.2.data≠ .cell v):Inv X a σ H s:=
 #[I.ok,I.os,I.bare,I.base,I.loc,I.cell,I.free,I.freeC,λp hp=>(Bn.1 hp).elim (λz=>I.pin p (Dt _ z)) (h p),I.hok,I.len]
def Jju{N:List Str}(c:N.Nodup){i j:Nat}{x:Str}(a:N[i]? =-x)(b:N[j]? =-x):i=j:=by
 let(f,d):=Ad.1 a;let(g,e):=Ad.1 b;show(List.getElem_inj c).mp (d.trans e.symm)
def Jg2{M:Lm}{A:Bo}{E:Value->Shared->Prop}{i:Nat}{x:Str}{v:V}{u:Value}{Q:Unit->Shared->Prop}(I:Inv X pins σ H s)(hN:X.N.Nodup)(Y:X.N[i]? =-x)(t:Loc X.env.scope x)(r:RelV v u)
  (h:∀s',Inv X pins (σ.set i (-v)) H s'->(∃a,Du a s.heap s'.heap/\(a=X.env.locals\/X.env.cells.lookup x=-a))->Q () s')(hf:X.fn x=true\/X.env.scope.names.lookup x=-.local):wpAny M A (storeName X.env x u) Q E s:=by
 let(m,hn,hl):=id I.loc;let hcls:(X.env.scope.kind== .class||(X.env.scope.kind== .module&&X.env.locals !=X.env.globals))=false:=by rw[I.ok.kind];rfl
 let J:i<⇑σ:=by rw[I.len];show(Ad.1 Y).1
 let L:=I.cne;let g:∀{a:Addr} {h':Heap},(∃o,s.heap.get? a=-o/\H a=none)->Du a s.heap h'->HOk X.prog X.w H h':=λ{a h'} ha f b ob e=>by
  let(_,_,w):=ha;show(I.hok b ob e).stay (λc w' hc q=>(f.2 c ?_).trans q) (λ_ q=>q) λ_ _ q=>q;rintro rfl;rcases hc with rfl|hc
  .rw[w]at e;cases e
  .rw[w]at hc;cases hc
 rcases t with hk|hk
 .show wpAny_storeName_local hk hn (λh' hn' f=>?_) hcls;let(oL,_,_,hoL,_):=id hn;show h _ #[I.ok,I.os,I.bare,#[λb o e n hb t=>?_,λb o e n hb t=>?_,I.base.free,λb o e t=>?_,I.base.tups,I.base.frzs,I.base.tbls],#[_,hn',λj y v' l C e3=>?_],λy c e=>?_,I.free,I.freeC,λp hp=>?_,g #[oL,hoL,I.free] f,by erw[I.len]] #[_,f,.inl rfl]
  .show(f.2 b (A5 (Bu (Aq e) I.ok.above))).trans (I.base.keep b o e n hb t)
  .let(sl,l):=I.base.slot b o e n hb t;exists sl,(f.2 b (A5 (Bu (Aq e) I.ok.above))).trans l
  .let(o',l):=I.base.there b o e t;exists o',(f.2 b (A5 (Bu (Aq e) I.ok.above))).trans l
  .by_cases N:j=i
   .subst N;rw[Y]at l;cases l;rw[Dv J]at C;cases C;exists u,r,.inl #[hk,by simp]
   .rw[A1 (E9 N)]at C;let(u',r',q):=hl j y v' l C e3;exists u',r',?_;rcases q with⟨k,e⟩|⟨k,c,e,z⟩
    .show .inl #[k,?_];let:y≠x:=λe=>N (Jju hN l (e▸Y));simp[this,e]
    .show .inr #[k,c,e,z.sameBut f (L y c e)]
  .let(w',z):=I.cell y c e;exists w',z.sameBut f (L y c e)
  .let(e,n,ne,nf,d):=I.pin p hp;exists(f.2 p.1 ne).trans e,n,ne,nf,d
 .let U:X.fn x=true:=by
   rcases hf with z|z
   .show z
   .rw[z]at hk;cases hk
  let(c,hc):=I.ok.has x (.inl hk);let(w',z):=I.cell x c hc;show wpAny_storeName_cell I.ok.kind hk hc z (λh' hc' f=>?_);let(oc,hoc,hocd):=id z;show h {s with heap:=h'} #[I.ok,I.os,I.bare,#[λb o e n hb t=>?_,λb o e n hb t=>?_,I.base.free,λb o e t=>?_,I.base.tups,I.base.frzs,I.base.tbls],#[m,hn.sameBut f (E9 (L x c hc)),λj y v' l C e3=>?_],λy c' e=>?_,I.free,I.freeC,λp hp=>?_,g #[oc,hoc,I.freeC x c hc] f,by erw[I.len]] #[c,f,.inr hc]
  .show(f.2 b (A5 (Bu (Aq e) (I.ok.cab x c U hc)))).trans (I.base.keep b o e n hb t)
  .let(sl,l):=I.base.slot b o e n hb t;exists sl,(f.2 b (A5 (Bu (Aq e) (I.ok.cab x c U hc)))).trans l
  .let(o',l):=I.base.there b o e t;exists o',(f.2 b (A5 (Bu (Aq e) (I.ok.cab x c U hc)))).trans l
  .by_cases N:j=i
   .subst N;rw[Y]at l;cases l;rw[Dv J]at C;cases C;exists u,r,.inr #[.inl hk,c,hc,hc']
   .rw[A1 (E9 N)]at C;let(u',r',q):=hl j y v' l C e3;exists u',r',?_;rcases q with q|⟨k,c',e,z'⟩
    .show .inl q
    .show .inr #[k,c',e,z'.sameBut f ?_];rintro rfl;show N (Jju hN l (I.ok.inj _ _ _ e hc▸Y))
  .by_cases hcc:c'=c
   .subst hcc;exists _,hc'
   .let(w2,z2):=I.cell y c' e;exists w2,z2.sameBut f hcc
  .let(e,n,ne,nf,d):=I.pin p hp;exists(f.2 p.1 ?_).trans e,n,ne,nf,d;intro q;rw[q,hoc]at e;let q':oc=p.2:=Bj e;show d w' (by rw[<-q'];show hocd)
def Jfu{E:Value->Shared->Prop}{Q:Unit->Shared->Prop}(I:Inv X pins σ H s)(b:X.N.Nodup)(c:X.N[i]? =-x)(d:Loc X.env.scope x)(r:RelV v u)
  (h:∀a,Inv X pins (σ.set i (-v)) H a->Q () a)(e:X.fn x=true\/X.env.scope.names.lookup x=-.local):wpAny M A (storeName X.env x u) Q E s:=
 Jg2 I b c d r (λa f _=>h a f) e
def Inv.call'{a:Shared}(I:Inv X pins σ H s)(f:a.os=s.os)(u:Un (frs X.stack) ch H H' s.heap a.heap)(hok:HOk X.prog X.w H' a.heap)(g:Mt a.gens)
  (d:∀b∈ch,(b∈X.ex\/X.s₀.heap.objs.size<=b)/\b≠X.env.locals/\(∀x c,X.env.cells.lookup x=-c->c≠b)/\∀p∈X.pn++pins,p.1≠b):Inv X pins σ H' a:=by
 let(h',h,j,k,l):=a;let e:l=s.os:=f;subst e;show I.call (g':=h) (t':=k) (d':=j) u hok g d
end
abbrev XK:=Value->Option Addr->Hp->Prop
abbrev St:=List (Option V)
abbrev VK:=V->Hp->Prop
abbrev TE:=St->Hp->VK->Prop
abbrev TT:=St->Hp->(Bool->Hp->Prop)->Prop
abbrev TA:=St->Hp->(List V->Hp->Prop)->Prop
structure Ends where
 nx:St->Hp->Prop
 rt:VK
 bk:St->Hp->Prop:=λ_ _=>False
 ct:St->Hp->Prop:=λ_ _=>False
abbrev TS:=Ends->St->Hp->Prop
def EP(X:Cx)(a:List (Addr×Obj))(c:St)(Q:VK)(u:Value)(d:Shared):Prop:=∃v b,Inv X a c b d/\RelV v u/\Q v b
def TP(X:Cx)(a:List (Addr×Obj))(d:St)(Q:Bool->Hp->Prop)(b:Bool)(e:Shared):Prop:=∃c,Inv X a d c e/\Q b c
def AP(X:Cx)(a:List (Addr×Obj))(d:St)(Q:List V->Hp->Prop)(us:List Value)(e:Shared):Prop:=∃b c,Inv X a d c e/\Vals b us/\Q b c
def SP(X:Cx)(b:List (Addr×Obj))(D:Ends)(f:Flow)(d:Shared):Prop:=
 match f with
 |.next=>∃a c,Inv X b a c d/\D.nx a c
 |.brk=>∃a c,Inv X b a c d/\D.bk a c
 |.cont=>∃a c,Inv X b a c d/\D.ct a c
 |.ret u=>∃v a c,Inv X b a c d/\RelV v u/\D.rt v c
def PE(X:Cx)(e:Expr)(t:TE):Prop:=
 ∀(a:List (Addr×Obj)) (s:Shared) (b:St) (H:Hp) (Q:VK),Inv X a b H s->t b H Q->wpAny (model X.prog X.w) X.A (eval e X.env) (EP X a b Q) X.xe s
def PT(X:Cx)(e:Expr)(t:TT):Prop:=
 ∀(a:List (Addr×Obj)) (s:Shared) (b:St) (H:Hp) (Q:Bool->Hp->Prop),Inv X a b H s->t b H Q->wpAny (model X.prog X.w) X.A (isTrue e X.env (eval e X.env)) (TP X a b Q) X.xe s
def PW(X:Cx)(e:Expr)(t:TT):Prop:=
 ∀(b:Sem Value) (a:List (Addr×Obj)) (s:Shared) (c:St) (H:Hp) (Q:Bool->Hp->Prop),Inv X a c H s->t c H Q->wpAny (model X.prog X.w) X.A (isTrue e X.env b) (TP X a c Q) X.xe s
def PW.pt(h:PW X e t):PT X e t:=h _
def PA(X:Cx)(es:List Expr)(t:TA):Prop:=
 ∀(b:Pos) (a:List (Addr×Obj)) (s:Shared) (c:St) (H:Hp) (Q:List V->Hp->Prop),Inv X a c H s->t c H Q->wpAny (model X.prog X.w) X.A (T8 (Gs b (Cd es X.env))) (AP X a c Q) X.xe s
def PS(X:Cx)(st:Stmt)(t:TS):Prop:=
 ∀(a:List (Addr×Obj)) (s:Shared) (b:St) (H:Hp) (D:Ends),Inv X a b H s->t D b H->wpAny (model X.prog X.w) X.A (exec st X.env) (SP X a D) X.xe s
def PSs(X:Cx)(st:List Stmt)(t:TS):Prop:=
 ∀(a:List (Addr×Obj)) (s:Shared) (b:St) (H:Hp) (D:Ends),Inv X a b H s->t D b H->wpAny (model X.prog X.w) X.A (execs st X.env) (SP X a D) X.xe s
def thn{b:Type}{t:Sem b}{Q Q':b->Shared->Prop}{M:Lm}{A:Bo}{E:Value->Shared->Prop}{s:Shared}(h:wpAny M A t Q E s)(c:∀a s,Q a s->Q' a s):wpAny M A t Q' E s:=Cu h c λ_ _ x=>x
section
variable {X:Cx}
def Wc5(i:Nat):TE:=λa H Q=>∃v,a[i]? =-(-v)/\Q v H
def tC(v:V):TE:=λ_ H Q=>Q v H
def Jxe(f:X.N[i]? =-x)(g:Vis X.env.scope x)(hd:(x==("__debug__":Str))=false)(d:(x==("__classdict__":Str))=false):PE X (.Name x pos) (Wc5 i):=by
 intro b s j H Q I h;let(v,e,h):=h;let(m,k,n):=I.loc;let(u,r,l):=n i x v f e g;let fin:EP X b j Q u s:=#[v,H,I,r,h]
 rcases l with⟨hk,o⟩|⟨hk,c,hc,a⟩
 .show V9 (Uz I.ok.kind hk k o fin) hd
 .rcases hk with hk|hk
  .show V9 (Vf I.ok.kind hk hc a fin) hd
  .show V9 (wpAny_loadName_free I.ok.kind hk hc a fin d) hd
def Jxk{i j pos}:PE X (.Constant (.int i) j pos) (tC (.int i)):=λ_ _ _ H _ I h=>wpAny_Constant_int #[.int i,H,I.tok _,#[_,rfl],h]
def Jz7{b j pos}:PE X (.Constant (.bool b) j pos) (tC (.bl b)):=λ_ _ _ H _ I h=>Constant_bool #[.bl b,H,I,rfl,h]
def Jxi{j pos}:PE X (.Constant .none j pos) (tC .non):=λ_ _ _ H _ I h=>Constant_none #[.non,H,I,rfl,h]
def Jxg{x j pos}:PE X (.Constant (.str x) j pos) (tC (.str x)):=λ_ _ _ H _ I h=>Calls.Constant_str #[.str x,H,I.tok _,#[_,rfl],h]
def Gl(X:Cx)(x:Str):Prop:=X.env.kindOf x=-.globalImplicit
def Jf2{E:Value->Shared->Prop}{Q:Value->Shared->Prop}(I:Inv X a d H s)(b:Gl X x)(c:X.mg x=-u)(h:Q u s)
  (hd:(x==("__debug__":Str))=false):wpAny (model X.prog X.w) X.A (eval (.Name x pos) X.env) Q E s:=
 Pk I.ok.kind b (Calls.loadGlobal_global (by rw[I.ok.glob];show I.mod.glob.keeps I.bk) c h) hd
def Jbu{E:Value->Shared->Prop}{Q:Value->Shared->Prop}(I:Inv X a i H s)(b:Gl X x)(c:X.mg x=none)(d:Dy x=-u)(h:Q u s)
  (e:x≠"__name__")(hd:(x==("__debug__":Str))=false):wpAny (model X.prog X.w) X.A (eval (.Name x pos) X.env) Q E s:=by
 let(j,f,g):=I.mod.blt;show Pk I.ok.kind b (Calls.loadGlobal_builtin (by rw[I.ok.glob];show I.mod.glob.keeps I.bk) c (by rw[I.ok.blt];show f.keeps I.bk) ((g x e).trans d) h) hd
def Jme(a:Gl X x)(b:X.mg x=-u)(r:RelV v u)(hd:(x==("__debug__":Str))=false):PE X (.Name x pos) (tC v):=
 λ_ _ _ H _ I h=>Jf2 I a b #[v,H,I,r,h] hd
def Jui(a:Gl X x)(b:X.mg x=none)(c:Dy x=-u)(r:RelV v u)(d:x≠"__name__")(hd:(x==("__debug__":Str))=false):PE X (.Name x pos) (tC v):=
 λ_ _ _ H _ I h=>Jbu I a b c #[v,H,I,r,h] d hd
variable {a b:Expr} {ta tb:TE} {pos:Pos}
variable {tA tB':TT} {rest:List Expr}
def Wdg(t u:TT):TT:=λd H Q=>t d H λc H1=>if c=true then u d H1 Q else Q false H1
def tOr(t u:TT):TT:=λd H Q=>t d H λc H1=>if c=true then Q true H1 else u d H1 Q
def Wda(t:TT):TT:=λd H Q=>t d H λc H1=>Q (!c) H1
theorem Jtt(f:PT X a tA):PW X (.BoolOp .And [a] pos) tA:=by
 intro i d s g H Q I h;show isTrue_and (thn (f d s g H Q I h) λc j e=>?_);cases c with
 |true=>show isTrue_and_nil e
 |false=>show e
theorem Jw1(f:PT X a tA):PW X (.BoolOp .Or [a] pos) tA:=by
 intro i d s g H Q I h;show isTrue_or (thn (f d s g H Q I h) λc j e=>?_);cases c with
 |false=>show isTrue_or_nil e
 |true=>show e
theorem Jw2(i:PT X a tA)(hb:PW X (.BoolOp .And (b::rest) pos) tB'):PW X (.BoolOp .And (a::b::rest) pos) (Wdg tA tB'):=by
 intro j d s e H Q I h;show isTrue_and (thn (i d s e H _ I h) λc k #[H1,f,g]=>?_);cases c with
 |true=>show hb j d k e H1 Q f g
 |false=>exists H1,f,g
theorem Jz0(i:PT X a tA)(hb:PW X (.BoolOp .Or (b::rest) pos) tB'):PW X (.BoolOp .Or (a::b::rest) pos) (tOr tA tB'):=by
 intro j d s e H Q I h;show isTrue_or (thn (i d s e H _ I h) λc k #[H1,f,g]=>?_);cases c with
 |true=>exists H1,f,g
 |false=>show hb j d k e H1 Q f g
def Jw3(e:PT X a tA):PT X (.UnaryOp .Not a pos) (Wda tA):=by
 intro d s f H Q I h;show isTrue_not (e d s f H (λc H1=>Q (!c) H1) I h)
def Wb8(ta tb:TE):TE:=λd H Q=>ta d H λx H1=>∃c,x=.bl c/\if c=true then tb d H1 Q else Q (.bl false) H1
def Wc9(ta tb:TE):TE:=λd H Q=>ta d H λx H1=>∃c,x=.bl c/\if c=true then Q (.bl true) H1 else tb d H1 Q
def Jxh{op}(h:PE X a t):PE X (.BoolOp op [a] pos) t:=λc s d H Q I e=>BoolOp_one (h c s d H Q I e)
theorem Jxn(i:PE X a ta)(hb:PE X (.BoolOp .And (b::rest) pos) tb):PE X (.BoolOp .And (a::b::rest) pos) (Wb8 ta tb):=by
 intro d s f H Q I h;show BoolOp_and (thn (i d s f H _ I h) λv j #[x,H1,g,k,e]=>?_);let(c,rfl,e):=e;cases k;show Es ?_;cases c with
 |true=>show hb d j f H1 Q g e
 |false=>exists .bl false,H1,g,rfl,e
theorem Jz4(i:PE X a ta)(hb:PE X (.BoolOp .Or (b::rest) pos) tb):PE X (.BoolOp .Or (a::b::rest) pos) (Wc9 ta tb):=by
 intro d s f H Q I h;show BoolOp_or (thn (i d s f H _ I h) λv j #[x,H1,g,k,e]=>?_);let(c,rfl,e):=e;cases k;show Es ?_;cases c with
 |false=>show hb d j f H1 Q g e
 |true=>exists .bl true,H1,g,rfl,e
def tIf(t:TT)(ta tb:TE):TE:=λd H Q=>t d H λc H1=>if c=true then ta d H1 Q else tb d H1 Q
theorem Jo9{c:Expr}(hc:PT X c tA)(k:PE X a ta)(hb:PE X b tb):PE X (.IfExp c a b pos) (tIf tA ta tb):=by
 intro e s f H Q I h;show wpAny_IfExp (thn (hc e s f H _ I h) λd g #[H1,i,j]=>?_);cases d with
 |true=>show k e g f H1 Q i j
 |false=>show hb e g f H1 Q i j
end
def SqL(K:Ah)(H:Hp)(a:Addr)(xs:List V):Prop:=
 Rd H a (.lst xs)\/
  ∃(o:Obj) (b:Array Value) (n:Nat),K.lookup a=-o/\o.cls=.type "list"/\o.dict=none/\o.data=.seq b n/\b.size<=sizeLine/\Vals xs b.toList
def SqT(K:Ah)(H:Hp)(a:Addr)(xs:List V):Prop:=
 H a=-(.tup xs)\/
  ∃(o:Obj) (b:Array Value) (n:Nat),K.lookup a=-o/\o.cls=.type "tuple"/\o.data=.seq b n/\b.size<=sizeLine/\Vals xs b.toList
noncomputable def Wei:Value->Option V
 |.none=>-.non
 |.bool b=>-(.bl b)
 |.int i _=>-(.int i)
 |.str x _=>-(.str x)
 |.bytes b _=>-(.byt b)
 |.float b _=>-(.flt b)
 |.ref a=>-(.ref a)
 |.type n=>-(.ty n)
 |_=>none
theorem RelV.abs(r:RelV x u):Wei u=-x:=by
 cases x with
 |non=>cases r;rfl
 |bl _=>cases r;rfl
 |int _=>let(t,rfl):=r;rfl
 |str _=>let(t,rfl):=r;rfl
 |byt _=>let(t,rfl):=r;rfl
 |flt _=>let(t,rfl):=r;rfl
 |ref _=>cases r;rfl
 |ty _=>cases r;rfl
def RelV.inj(r:RelV x u)(q:RelV y u):x=y:=Bj (r.abs.symm.trans q.abs)
theorem Vals.inj(h:Vals xs us)(g:Vals ys us):xs=ys:=by
 induction h generalizing ys with
 |nil=>cases g;rfl
 |cons r t a=>cases g with|cons b c=>rw[r.inj b,a c]
section
variable {X:Cx} {pins:List (Addr×Obj)} {σ:St} {H:Hp} {s:Shared} {a:Addr} {xs ys:List V}
def SqL.of{K:Ah}(h:H a=-(.lst xs)):SqL K H a xs:=.inl (.inl h)
def SqT.of{K:Ah}(h:H a=-(.tup xs)):SqT K H a xs:=.inl h
inductive InvL (s:Shared) (a:Addr) (xs:List V):Prop
 |mk (its:List Value) (_:Vals xs its) (_:PlainL s.heap a its.toArray) (_:⇑xs<=sizeLine):InvL s a xs
def Inv.list(I:Inv X pins σ H s)(h:SqL X.K H a xs):InvL s a xs:=by
 rcases h with h|⟨o,b,n,d,hc,hd,f,g,r⟩
 .let(z,b,n,r,e):=h.ok I.hok;exists b,r,#[_,n,e,rfl,rfl,rfl],z
 .exists b.toList,r,#[o,n,I.kIn a o d,hc,hd,by erw[f]],?_;let e:=⇑r;simp only[Br]at e
  lia
inductive InvT (s:Shared) (a:Addr) (xs:List V):Prop
 |mk (its:List Value) (_:Vals xs its) (_:IsTup s.heap a its.toArray) (_:⇑xs<=sizeLine):InvT s a xs
def Inv.tuple(I:Inv X pins σ H s)(h:SqT X.K H a xs):InvT s a xs:=by
 rcases h with h|⟨o,b,n,d,hc,f,g,r⟩
 .let(z,b,r,p):=(Rd.of h).ok I.hok;exists b,r,p,z
 .exists b.toList,r,#[o,I.kIn a o d,hc,n,by erw[f]],?_;let e:=⇑r;simp only[Br]at e
  lia
def Inv.list_inj(I:Inv X pins σ H s)(h:SqL X.K H a xs)(h':SqL X.K H a ys):xs=ys:=by
 obtain⟨f,r,⟨o,n,e,_,_,d⟩,_⟩:=I.list h;obtain⟨b,k,⟨t,y,g,_,_,j⟩,_⟩:=I.list h';rw[e]at g;cases g;rw[d]at j;injection j with l _;let:f=b:=by erw[congrArg Ww l]
 subst this;show r.inj k
def Inv.tuple_inj(I:Inv X pins σ H s)(h:SqT X.K H a xs)(h':SqT X.K H a ys):xs=ys:=by
 obtain⟨f,r,⟨o,e,_,n,d⟩,_⟩:=I.tuple h;obtain⟨b,k,⟨t,g,_,y,j⟩,_⟩:=I.tuple h';rw[e]at g;cases g;rw[d]at j;injection j with l _;let:f=b:=by erw[congrArg Ww l]
 subst this;show r.inj k
end
noncomputable abbrev Cx.wish(X:Cx)(E:Value->Shared->Prop):Cx:={X with xe:=E}
abbrev Cx.nox(X:Cx):Cx:=X.wish λ_ _=>False
def Cx.Ok.wish{X:Cx}(a:X.Ok)(E:Value->Shared->Prop):(X.wish E).Ok:=
 #[a.mod,a.kind,a.glob,a.blt,a.above,a.inj,a.has,a.cab,a.hd,a.frames,a.stk,a.exf,a.bs,a.bsz,a.noex,a.exfs,a.funs,a.frf]
def Cx.Ok.unwish{X:Cx}{E:Value->Shared->Prop}(a:(X.wish E).Ok):X.Ok:=
 #[a.mod,a.kind,a.glob,a.blt,a.above,a.inj,a.has,a.cab,a.hd,a.frames,a.stk,a.exf,a.bs,a.bsz,a.noex,a.exfs,a.funs,a.frf]
section
variable {X:Cx} {pins:List (Addr×Obj)} {σ:St} {H:Hp} {s:Shared} {E:Value->Shared->Prop}
def Inv.wish(I:Inv X pins σ H s)(E:Value->Shared->Prop):Inv (X.wish E) pins σ H s:=#[I.ok.wish E,I.os,I.bare,I.base,I.loc,I.cell,I.free,I.freeC,I.pin,I.hok,I.len]
def Inv.unwish(I:Inv (X.wish E) pins σ H s):Inv X pins σ H s:=#[I.ok.unwish,I.os,I.bare,I.base,I.loc,I.cell,I.free,I.freeC,I.pin,I.hok,I.len]
theorem SP.unwish(h:SP (X.wish E) pins D f c):SP X pins D f c:=by
 cases f with
 |next=>let(a,b,I,q):=h;exists a,b,I.unwish,q
 |brk=>let(a,b,I,q):=h;exists a,b,I.unwish,q
 |cont=>let(a,b,I,q):=h;exists a,b,I.unwish,q
 |ret u=>let(v,a,b,I,r,q):=h;exists v,a,b,I.unwish,r,q
def PSs.nox{st:List Stmt}{t:TS}(h:PSs X.nox st t):PSs X st t:=λpins s σ H D I a=>
 Cu (h pins s σ H D (I.wish _) a) (λ_ _ q=>q.unwish) λ_ _ z=>Bm z
end
section
variable {X:Cx} {st:Stmt} {rest:List Stmt} {t u:TS} {e:Expr} {te:TE} {pos:Pos}
def Wb4:TS:=λD a H=>D.nx a H
def Wc7(t u:TS):TS:=λD a H=>t {D with nx:=u D} a H
def Jt0:PSs X [] Wb4:=λ_ _ a H _ I h=>wpAny_execs_nil #[a,H,I,h]
theorem Jo1(c:PS X st t)(d:PSs X rest u):PSs X (st::rest) (Wc7 t u):=by
 intro a s g H D I h;show wpAny_execs_cons (thn (c a s g H {D with nx:=u D} I h) λf i q=>?_);cases f with
 |next=>
  let(b,j,k,q):=q;show d a i b j D k q
 |ret v=>show q
 |brk=>show q
 |cont=>show q
def Inv.quiet(I:Inv X pins σ H s):interactive X.env=false:=by simp[interactive,I.ok.kind]
def Wb7(te:TE):TS:=λD a H=>te a H λ_ H1=>D.nx a H1
def Jt1(c:PE X e te)(hs:Hy e none pos.line X.env=pure false):PS X (.Expr e pos) (Wb7 te):=by
 intro a s b H D I h;show wpAny_Expr_any (thn (c a s b H _ I h) λv g #[x,H1,d,i,f]=>#[b,H1,d,f]) I.quiet hs
def Wc8(te:TE):TS:=λD a H=>te a H D.rt
def Jw5(c:PE X e te):PS X (.Return (-e) pos) (Wc8 te):=by
 intro a s b H D I h;show wpAny_Return_some (thn (c a s b H _ I h) λv i #[x,H1,d,f,g]=>#[x,b,H1,d,f,g])
def Wdc(c:TT)(t u:TS):TS:=λD a H=>c a H λb H1=>if b=true then t D a H1 else u D a H1
theorem Jz2{c:Expr}{a b:List Stmt}{tc:TT}(hc:PT X c tc)(l:PSs X a t)(hb:PSs X b u):PS X (.If c a b pos) (Wdc tc t u):=by
 intro f s g H D I h;show wpAny_If (thn (hc f s g H _ I h) λd i #[H1,j,k]=>?_);cases d with
 |true=>show l f i g H1 D j k
 |false=>show hb f i g H1 D j k
end
abbrev TG:=V->St->Hp->(St->Hp->Prop)->Prop
abbrev TGs:=List V->St->Hp->(St->Hp->Prop)->Prop
def PG(X:Cx)(a:Expr)(t:TG):Prop:=
 ∀(b:List (Addr×Obj)) (s:Shared) (d:St) (H:Hp) (v:V) (u:Value) (Q:St->Hp->Prop),Inv X b d H s->RelV v u->t v d H Q->
  wpAny (model X.prog X.w) X.A (assign a X.env u) (λ_ f=>∃c e,Inv X b c e f/\Q c e) X.xe s
def PGs(X:Cx)(ts:List Expr)(t:TGs):Prop:=
 ∀(a:List (Addr×Obj)) (s:Shared) (c:St) (H:Hp) (d:List V) (e:List Value) (Q:St->Hp->Prop),Inv X a c H s->Vals d e->t d c H Q->
  wpAny (model X.prog X.w) X.A (assignInOrder ((G6 ts X.env).map (·.2)) e) (λ_ g=>∃b f,Inv X a b f g/\Q b f) X.xe s
abbrev Wa4:=V->V->V->Hp->(Hp->Prop)->Prop
def Wbw(X:Cx)(t:Wa4):Prop:=
 ∀(a:List (Addr×Obj)) (s:Shared) (b:St) (H:Hp) (o i v:V) (c d u:Value) (Q:Hp->Prop),Inv X a b H s->RelV o c->RelV i d->RelV v u->t o i v H Q->
  wpAny (model X.prog X.w) X.A (W2 c d u) (λ_ f=>∃e,Inv X a b e f/\Q e) X.xe s
abbrev TIp:=V->V->Hp->VK->Prop
def PIp(X:Cx)(op:Operator)(t:TIp):Prop:=
 ∀(a:List (Addr×Obj)) (s:Shared) (b:St) (H:Hp) (x y:V) (v u:Value) (Q:VK),Inv X a b H s->RelV x v->RelV y u->t x y H Q->
  wpAny (model X.prog X.w) X.A (inplaceOp op v u) (EP X a b Q) X.xe s
section
variable {X:Cx} {pos:Pos}
def Zx(i:Nat):TG:=λv a H Q=>Q (a.set i (-v)) H
def Jua(b:X.N.Nodup)(c:X.N[i]? =-x)(d:Loc X.env.scope x)(e:X.fn x=true\/X.env.scope.names.lookup x=-.local):PG X (.Name x pos) (Zx i):=by
 intro a s g H v u Q I r h;show W0 (Jfu I b c d r (λj f=>#[_,H,f,h]) e)
def Wea:TGs:=λa b H Q=>a=[]/\Q b H
def Wcv(t:TG)(u:TGs):TGs:=λb c H Q=>∃v r,b=v::r/\t v c H λa d=>u r a d Q
def Jt9:PGs X [] Wea:=by
 intro a s b H c d Q I r h;let(e,h):=h;subst e;cases r;show assignInOrder_nil #[b,H,I,h]
theorem Jo4{e:Expr}{es:List Expr}{t:TG}{u:TGs}(c:PG X e t)(d:PGs X es u)
  (hs:(G6 (e::es) X.env).map (·.2)=assign e X.env::(G6 es X.env).map (·.2)):PGs X (e::es) (Wcv t u):=by
 intro a s f H m n Q I r h;let(v,o,g,h):=h;subst g;cases r with
 |cons r i=>
  rw[hs];show assignInOrder_cons (thn (c a s f H _ _ _ I r h) λ_ j #[b,H1,k,l]=>?_);show d a j b H1 _ _ Q k i l
def Wd8(K:Ah)(n:Nat)(t:TGs):TG:=λv c H Q=>∃a b,v=.ref a/\SqT K H a b/\⇑b=n/\t b c H Q
def Jxc(hc:X.calm=true)(h:PGs X es t)
  (j:(G6 es X.env).length=n)(d:(G6 es X.env).findIdx? (·.1)=none):PG X (.Tuple es k pos) (Wd8 X.K n t):=by
 intro c s g H v u Q I r f;let(a,l,m,p,w,f):=f;subst m;cases r;let(x,i,y,E):=I.tuple p;show assign_Tuple_tuple (I.ok.hd hc) y (by simp[j,<-w,⇑i]) d λz A=>?_;let C:Inv X c g H {s with heap:=z}:=I.kept (t':=s.toks) λb o e=>A b o (A5 (Aq e)) e;show h c _ g H l _ Q C (by erw[i]) f
def Wd9(b c:TE)(t:Wa4):TG:=λv a H Q=>b a H λo H1=>c a H1 λi H2=>t o i v H2 λd=>Q a d
def Jxd{o i:Expr}{e f:TE}{t:Wa4}(g:PE X o e)(j:PE X i f)(hs:Wbw X t)
  (k:∀v,assign (.Subscript o i pos) X.env v=(do
   let b<-holding [v] (eval o X.env)
   let c<-holding [v,b] (eval i X.env)
   O8 pos
   holding [v,b,c] (W2 b c v)
   release [v,b,c] [])):PG X (.Subscript o i pos) (Wd9 e f t):=by
 intro a s d H v u Q I r h;rw[k];show Aa (Bt (thn (g a s d H _ I h) λb l #[x,H1,m,n,p]=>?_));show Aa (Bt (thn (j a l d H1 _ m p) λc w #[y,H2,z,A,C]=>?_));show Aa (Od (Aa (Bt (thn (hs a w d H2 x y v b c u _ z n A r C) λ_ N #[E,J,L]=>?_))));show wpAny_release #[d,E,J,L]
def Waa(te:TE)(g:TG):TS:=λD a H=>te a H λx H1=>g x a H1 D.nx
def Jw9{tg e:Expr}{te:TE}{g:TG}(c:PE X e te)(d:PG X tg g)(hs:swapsWithSole [tg] e pos.line X.env=pure false)(f:swappedStores [tg] e X.env=pure none)
  (i:(G6 [tg] X.env).map (·.2)=[assign tg X.env]):PS X (.Assign [tg] e pos) (Waa te g):=by
 intro a s b H D I h;show wpAny_Assign_stores (thn (c a s b H _ I h) λv j #[x,H1,k,l,m]=>?_) hs f;rw[i];show thn (d a j b H1 x v _ k l m) λ_ n q=>q
def Jw4{i:Nat}{x:Str}{e:Expr}{te:TE}{a:Pos}(c:X.N.Nodup)(d:X.N[i]? =-x)(f:Loc X.env.scope x)(g:PE X e te)(hs:Hy e (-(.Name x a)) pos.line X.env=pure false)(j:X.fn x=true\/X.env.scope.names.lookup x=-.local):
  PS X (.Assign [.Name x a] e pos) (Waa te (Zx i)):=by
 intro b s k H D I h;show wpAny_Assign_Name (thn (g b s k H _ I h) λv p #[y,H1,l,m,n]=>?_) hs;show Jfu l c d f m (λr o=>#[_,H1,o,n]) j
def Wdf(i:Nat)(te:TE)(b:TIp):TS:=λD a H=>∃x,a[i]? =-(-x)/\te a H λy H1=>b x y H1 λz H2=>D.nx (a.set i (-z)) H2
def Jw8{i:Nat}{x:Str}{e:Expr}{te:TE}{op:Operator}{o:TIp}{d:Pos}(A:X.N.Nodup)(p:X.N[i]? =-x)(j:Loc X.env.scope x)(C:PE X e te)(E:PIp X op o)(J:X.fn x=true\/X.env.scope.names.lookup x=-.local):
  PS X (.AugAssign (.Name x d) op e pos) (Wdf i te o):=by
 intro a s t H D I h;let(v,L,h):=h;let(m,N,Q):=I.loc;let n:Vis X.env.scope x:=by rcases j with k|k;show .inl k;show .inr (.inl k)
 let(u,r,l):=Q i x v p L n;show wpAny_AugAssign_Name ?_;let go:wpAny (model X.prog X.w) X.A (eval e X.env) (λw f=>wpAny (model X.prog X.w) X.A (inplaceOp op u w) (λr g=>wpAny (model X.prog X.w) X.A (storeName X.env x r) (λ_=>SP X a D .next) X.xe g) X.xe f) X.xe s:=by
  show thn (C a s t H _ I h) λw U #[y,H1,Y,r1,q1]=>?_;show thn (E a U t H1 v y u w _ Y r r1 q1) λz s2 #[zv,H2,I2,r2,q2]=>?_;show Jfu I2 A p j r2 (λs3 I3=>#[_,H2,I3,q2]) J
 rcases l with⟨hk,hm⟩|⟨hk,c,hc,b⟩
 .show Uz I.ok.kind hk N hm go
 .rcases hk with hk|hk
  .show Vf I.ok.kind hk hc b go
  .rcases j with k|k
   .let:X.env.scope.names.lookup x=-.free:=hk;rw[k]at this;cases this
   .let:X.env.scope.names.lookup x=-.free:=hk;rw[k]at this;cases this
def ipI(f:Int->Int->Int):TIp:=λx y H Q=>∃i j,x=.int i/\y=.int j/\Q (.int (f i j)) H
def Jyk:PIp X .Add (ipI λi j=>i+j):=by
 intro a s f H x y v u Q I b c h;let(i,j,d,e,q):=h;subst d;subst e;let(t,rfl):=b;let(g,rfl):=c;show iadd_int #[.int _,H,I.tok _,#[_,rfl],q]
end
section
variable {X:Cx} {pos:Pos}
end
structure It where
 go:Nat->Hp->Prop
 yld:Nat->Hp->V->Hp->Prop
 stop:Nat->Hp->Prop
def Yq(X:Cx)(a:List (Addr×Obj))(H:Hp)(b:Addr):Prop:=
 H b=none/\b≠X.env.locals/\b∉X.fs/\(b∈X.ex\/X.s₀.heap.objs.size<=b)/\(∀x c,X.env.cells.lookup x=-c->c≠b)/\∀p∈X.pn++a,p.1≠b
def Inv.fpOk{s:Shared}(I:Inv X pins σ H s)(hb:↥s<=b)(a:H' b=none):Yq X pins H' b:=by
 exists a,C9 (Bu I.lt hb),I.nofs hb,.inr (B3 I.sz hb),λx c e z=>?_,λp hp z=>?_
 .let(v,q):=I.cell x c e;show absurd (Bu q.lt (by rw[z];show hb)) (Fg _)
 .show absurd (Bu (Aq (I.pin p hp).1) (by rw[z];show hb)) (Fg _)
structure Turn(P:Program)(w:World)(K:Ah)(tg:Expr)(J:It)(fp:List Addr)(it:Addr)(tn:Nat->Heap->Prop):Prop where
 mem:it∈fp
 obj:∀i h,tn i h->∀b∈fp,∃o,h.get? b=-o/\∀v,o.data≠ .cell v
 keep:∀i h h',tn i h->(∀b∈fp,∀o,h.get? b=-o->h'.get? b=-o)->tn i h'
 item:∀(X:Cx),X.prog=P->X.w=w->X.K=K->X.calm=true->∀(i:Nat) (pins:List (Addr×Obj)) (s:Shared) (σ:St) (H:Hp) (E:Value->Shared->Prop),Inv X pins σ H s->(∀b∈fp,Yq X pins H b)->tn i s.heap->J.go i H->
  wpAny (model P w) X.A (pyNext (.ref it)) (λr s1=>∃u,r=-u/\
   wpAny (model P w) X.A (Kk tg (.ref it) u) (λ_ s2=>∃x H',Inv X pins σ H' s2/\RelV x u/\J.yld i H x H'/\tn (i+1) s2.heap/\∀b∈fp,H' b=none) E s1) E s
 done:∀(X:Cx),X.prog=P->X.w=w->X.K=K->X.calm=true->∀(i:Nat) (pins:List (Addr×Obj)) (s:Shared) (σ:St) (H:Hp) (E:Value->Shared->Prop),Inv X pins σ H s->(∀b∈fp,Yq X pins H b)->tn i s.heap->J.stop i H->
  wpAny (model P w) X.A (pyNext (.ref it)) (λr s1=>r=none/\Inv X pins σ H s1) E s
 self:∀(A:Bo) (i:Nat) (s:Shared) (Q:Value->Shared->Prop) (E:Value->Shared->Prop),tn i s.heap->Q (.ref it) s->wpAny (model P w) A (pyIter (.ref it)) Q E s
abbrev TI:=St->Hp->(It->Hp->Prop)->Prop
def PIE(X:Cx)(a:List (Addr×Obj))(h:St)(tg:Expr)(R:It->Hp->Prop)(c:Value)(e:Shared):Prop:=
 ∃(f:Addr) (g:List Addr) (tn:Nat->Heap->Prop) (J:It) (d:Hp),c=.ref f/\Inv X a h d e/\Turn X.prog X.w X.K tg J g f tn/\tn 0 e.heap/\(∀b∈g,Yq X a d b)/\R J d
def PI(X:Cx)(tg b:Expr)(wi:TI):Prop:=
 ∀(a:List (Addr×Obj)) (s:Shared) (c:St) (H:Hp) (R:It->Hp->Prop),Inv X a c H s->wi c H R->
  wpAny (model X.prog X.w) X.A (eval b X.env) (λv d=>wpAny (model X.prog X.w) X.A (pyIter v) (PIE X a c tg R) X.xe d) X.xe s
def Jng{E:Value->Shared->Prop}{s:Shared}{o:Obj}{Q:Unit->Shared->Prop}(b:s.heap.get? it=-o)(hc:o.cls=.type n)(hd:o.data=.fields vs)
  (c:["enumerate","zip","dict_itemiterator","dict_reverseitemiterator","odict_iterator","itertools.zip_longest","itertools.pairwise"].contains n=false)(a:Q () s):wpAny M A (Kk tg (.ref it) u) Q E s:=by
 unfold Kk;cases tg<;>first
  |show Ab a
  |(cases u<;>first
    |show Ab a
    |(show Aa (Oq b ?_)
      rw[hc,hd];change wpAny M A (if(["enumerate","zip","dict_itemiterator","dict_reverseitemiterator","odict_iterator","itertools.zip_longest","itertools.pairwise"].contains n&&vs[0]? ==-(rawInt _))=true then _ else _) Q E s;rw[if_neg (by intro h;rw[c,Bool.false_and]at h;cases h)];show Ab a))
noncomputable def Itl(K:Ah)(a:Addr):It:=
 #[λi H=>∃b x,SqL K H a b/\b[i]? =-x,λi H x c=>c=H/\∀b,SqL K H a b->b[i]? =-x,λi H=>∃b,SqL K H a b/\⇑b<=i]
noncomputable def Itt(K:Ah)(a:Addr):It:=
 #[λi H=>∃b x,SqT K H a b/\b[i]? =-x,λi H x c=>c=H/\∀b,SqT K H a b->b[i]? =-x,λi H=>∃b,SqT K H a b/\⇑b<=i]
noncomputable def Itr(lo:Int)(n:Nat):It:=#[λi _=>i<n,λi H x a=>a=H/\x=.int (lo+i),λi _=>n<=i]
def Jlk{P:Program}{w:World}{K:Ah}{tg:Expr}(a it:Addr):Turn P w K tg (Itl K a) [it] it (λi h=>h.IsListIter it a i)where
 mem:=by simp
 obj:=λi h st b hb=>by
  let e:b=it:=by erw[hb]
  subst e;let(o,e,c,d):=st;exists o,e,λv z=>by rw[d]at z;cases z
 keep:=λi h j st k=>st.at λo e=>k it 's' o e
 item:=by
  intro X n r t hc i f s σ H E I l st y;subst n r t;let(xs,x,m,A):=y;let(C,J,p,hz):=I.list m;let(u,hu,ru):=J.get A;let(L,N,f2,Q,U,Y):=l it 's';show T7 st p.isList (x:=u) (by erw[hu]) λj g sb=>?_;let I1:Inv X f σ H {s with heap:=j}:=I.turned (t':=s.toks) (λb o hb e=>(sb.2 b hb).trans e) L N Q U Y;let(o,e,c,d):=id g;exists u,rfl,Jng (s:={s with heap:=j}) e c d 'd' #[x,H,I1,ru,#[rfl,λys hy=>by rw[I.list_inj hy m];show A],g,λb hb=>(l b hb).1]
 done:=by
  intro X n r t hc i f s σ H E I l st y;subst n r t;let(xs,m,A):=y;let(C,J,p,hz):=I.list m;let(L,N,f2,Q,U,Y):=l it 's';let hl:=⇑J;show Uo (I.ok.hd hc) st p.isList 'm' λj eb=>#[rfl,I.turned (t':=s.toks) (λb o hb e=>eb b o hb e) L N Q U Y]
 self:=λ_ _ _ _ _ st h=>wpAny_pyIter_listiter st h
def Jki{P:Program}{w:World}{K:Ah}{tg:Expr}(a it:Addr):Turn P w K tg (Itt K a) [it] it (λi h=>h.IsTupleIter it a i)where
 mem:=by simp
 obj:=λi h st b hb=>by
  let e:b=it:=by erw[hb]
  subst e;let(o,e,c,d):=st;exists o,e,λv z=>by rw[d]at z;cases z
 keep:=λi h l st k=>st.at λo e=>k it 's' o e
 item:=by
  intro X r t y hc i f s σ H E I m st A;subst r t y;let(xs,x,n,C):=A;let(g,J,p,hz):=I.tuple n;let(u,hu,ru):=J.get C;let(L,N,f2,Q,U,Y):=m it 's';show wpAny_pyNext_tuple_item st (show s.heap.IsTuple a g.toArray from p) (x:=u) (by erw[hu]) λl j sb=>?_;let I1:Inv X f σ H {s with heap:=l}:=I.turned (t':=s.toks) (λb o hb e=>(sb.2 b hb).trans e) L N Q U Y;let(o,e,c,d):=id j;exists u,rfl,Jng (s:={s with heap:=l}) e c d 'd' #[x,H,I1,ru,#[rfl,λys hy=>by rw[I.tuple_inj hy n];show C],j,λb hb=>(m b hb).1]
 done:=by
  intro X r t y hc i f s σ H E I m st A;subst r t y;let(xs,n,C):=A;let(g,J,p,hz):=I.tuple n;let(L,N,f2,Q,U,Y):=m it 's';let hl:=⇑J;show wpAny_pyNext_tuple_end (I.ok.hd hc) st (show s.heap.IsTuple a g.toArray from p) 'm' λl eb=>#[rfl,I.turned (t':=s.toks) (λb o hb e=>eb b o hb e) L N Q U Y]
 self:=λ_ _ _ _ _ st h=>wpAny_pyIter_tupleiter st h
def Jkj{P:Program}{w:World}{K:Ah}{tg:Expr}(it:Addr)(lo:Int)(n:Nat):Turn P w K tg (Itr lo n) [it] it (λi h=>IsRangeIter h it (lo+(i:Nat)*1) ((n:Int)-(i:Nat)) 1)where
 mem:=by simp
 obj:=λi h st b hb=>by
  let e:b=it:=by erw[hb]
  subst e;exists _,st,λv z=>by
   let C:Data.fields _=Data.cell v:=z;cases C
 keep:=λi h d st k=>k it 's' _ st
 item:=by
  intro X g j l hc i a s A H E I f st m;subst g j l;let(p,r,J,u,x,y):=f it 's';let W:=Walks.range (prog:=X.prog) (w:=X.w) (I.ok.hd hc) it lo 1 n;show W.item i s _ _ m st λv d tk L c N=>?_;let(t,rfl):=L;let Q:Inv X a A H {s with heap:=d,toks:=tk}:=I.turned (λb o hb e=>N b o (by erw[hb]) e) p r u x y;exists _,rfl,Jng (s:={s with heap:=d,toks:=tk}) (n:="range_iterator") c rfl rfl 'd' #[.int (lo+i),H,Q,#[t,?_],#[rfl,rfl],c,λb hb=>(f b hb).1];rw[Int.mul_one]
 done:=by
  intro X g j l hc i a s A H E I f st m;subst g j l;let(p,r,J,u,x,y):=f it 's';show wpAny_pyNext_range_end (I.ok.hd hc) st (by let:n<=i:=m;lia) λd U=>#[rfl,I.turned (t':=s.toks) (λb o hb e=>U b o hb e) p r u x y]
 self:=λ_ _ _ _ _ st h=>wpAny_pyIter_rangeiter st h
section
variable {X:Cx} {tg:Expr}
def Joy{c:List (Addr×Obj)}{d:St}{H:Hp}{s:Shared}{R:It->Hp->Prop}{E:Value->Shared->Prop}{lo a:Int}{t u v:Tok}{tk:Nat}(I:Inv X c d H s)(g: -(2^62:Int)<=lo)(h:lo<2^62)(i: -(2^62:Int)<=a)(j:a<2^62)
  (q:R (Itr lo (a-lo).toNat) H):wpAny (model X.prog X.w) X.A (pyIter (.ref ↥s)) (PIE X c d tg R) E {s with heap:=s.heap.push {cls:=.type "range",data:=.fields (List.toArray [.int lo t,.int a u,.int 1 v])},toks:=tk}:=by
 show wpAny_pyIter_range (IsRange.new ..) (small_one g h i j) ?_;let f:Inv X c d H {s with heap:=s.heap.push {cls:=.type "range",data:=.fields (List.toArray [.int lo t,.int a u,.int 1 v])},toks:=tk}:=I.kept λb o e=>Af _ e;exists(s.heap.push {cls:=.type "range",data:=.fields (List.toArray [.int lo t,.int a u,.int 1 v])}).objs.size,[(s.heap.push {cls:=.type "range",data:=.fields (List.toArray [.int lo t,.int a u,.int 1 v])}).objs.size],_,_,H,rfl,
  f.kept (t':=tk) λb o e=>Af _ e,Jkj _ lo (a-lo).toNat,?_,λb hb=>?_,q
 .let k:lo+((0:Nat):Int)*1=lo:=by simp
  let l:(((a-lo).toNat:Nat):Int)-((0:Nat):Int)=Builtin.Range.rangeSize lo a 1:=by rw[rangeSize_one];split<;>lia
  change IsRangeIter _ _ (lo+((0:Nat):Int)*1) ((((a-lo).toNat:Nat):Int)-((0:Nat):Int)) 1;rw[k,l];show Ak _ rfl
 .let e:b=(s.heap.push {cls:=.type "range",data:=.fields (List.toArray [.int lo t,.int a u,.int 1 v])}).objs.size:=by erw[hb]
  subst e;show f.fpOk (Aj _) (f.hok.fresh (Aj _))
def J0n(a:TA):TI:=λb H R=>a b H λc H1=>∃j:Int,c=[.int j]/\ -(2^62:Int)<=j/\j<2^62/\R (Itr 0 j.toNat) H1
theorem Jmc(d:Gl X "range")(f:X.mg "range"=none)(g:PA X [a] i)(hs:Cd [a] X.env=[(false,eval a X.env)]):PI X tg (.Call (.Name "range" p) [a] [] pos) (J0n i):=by
 intro b s k H R I h;show T3 (Jbu I d f boot_range (Dc (thn (g pos b s k H _ I h) λu v #[w,H1,l,m,c]=>?_) hs rfl) 'd' 'd');let(j,e,c,n,q):=c;subst e;cases m with
 |cons r o=>
  cases o;let(t,rfl):=r;show call_range_1 (Joy l 'l' 'l' c n (by erw[q]))
def Wdd(wi:TI)(g:TG)(f:TS):TS:=λD a H=>wi a H λJ H1=>∃W:Nat->Nat->St->Hp->Prop,(∃m,W 0 m a H1)/\∀i m a H,W i m a H->
 (J.stop i H/\D.nx a H)\/(J.go i H/\∃N:St->Hp->Prop,(∀b c,N b c->∃e,e<m/\W (i+1) e b c)/\∀x c,J.yld i H x c->g x a c λd H2=>f {D with nx:=N,ct:=N,bk:=D.nx} d H2)
noncomputable def Yy(fp:List Addr)(h:Heap):List (Addr×Obj):=fp.filterMap λb=>(h.get? b).map λo=>(b,o)
def Jb1{h:Heap}(hb:b∈fp)(e:h.get? b=-o):(b,o)∈Yy fp h:=Ng.2 #[b,hb,by rw[e];rfl]
theorem Jmm{h:Heap}{p:Addr×Obj}(hp:p∈Yy fp h):p.1∈fp/\h.get? p.1=some p.2:=by
 let(b,hb,e):=Ng.1 hp;cases q:h.get? b with
 |none=>rw[q]at e;cases e
 |some o=>
  rw[q]at e;let a:(b,o)=p:=Bj e;subst a;exists hb,q
def Inv.pinned{s:Shared}{fp:List Addr}(I:Inv X pins σ H s)(f:∀b∈fp,Yq X pins H b)(g:∀b∈fp,∃o,s.heap.get? b=-o/\∀v,o.data≠ .cell v):Inv X (pins++Yy fp s.heap) σ H s:=
 I.pins_of λp hp=>(Bn.1 hp).elim (λz=>I.pin p (Bw _ z)) λz=>by
  let(hb,e):=Jmm z;let(h,j,k,_):=f p.1 hb;let(o,a,d):=g p.1 hb;rw[e]at a;cases a;exists e,h,j,k,d
def Inv.unpinned(I:Inv X (pins++pl) σ H s):Inv X pins σ H s:=I.pins_of λp hp=>I.pin p (Bw _ (Dt _ hp))
def Jw6(hp:PassesOwn (model X.prog X.w) X.A X.env X.xe)(hc:X.calm=true)(hi:PI X tg y wi)(hg:PG X tg g)(hb:PSs X C tb)
  (hs:∀x,D3 y X.env x=pure x):PS X (.For tg y C [] pos) (Wdd wi g tb):=by
 intro a s σ H D I h;show wpAny_For (thn (hi a s σ H _ I h) λv s1 h1=>thn h1 λitv s2 h2=>?_) hs;obtain⟨it,E,tn,J,H2,e,I2,T,st2,f2,W,⟨m0,w0⟩,turn⟩:=h2;subst e;let j:∀{w:Hp},(∀b∈E,w b=none)->∀b∈E,Yq X a w b:=λhn b hb=>#[hn b hb,(f2 b hb).2]
 show codeAny_forLoop_any (λn s'=>∃i k w,Inv X a k w s'/\tn i s'.heap/\(∀b∈E,w b=none)/\W i n k w) ?_ m0 #[0,σ,H2,I2,st2,λb hb=>(f2 b hb).1,w0];rintro n s3 ⟨i,l,Y,I3,L,Q,w3⟩;rcases turn i n l Y w3 with⟨stop,qn⟩|⟨go,N,hN,step⟩
 .show Kj hp (thn (T.done X rfl rfl rfl hc i a s3 l Y X.xe I3 (j Q) L stop) λr s4 #[hr,I4]=>?_);subst hr;show wpAny_execs_nil #[l,Y,I4,qn]
 .show Kj hp (thn (T.item X rfl rfl rfl hc i a s3 l Y X.xe I3 (j Q) L go) λr s4 #[u,hr,h4]=>?_);subst hr;show Kj hp (thn h4 λ_ s5 q_=>?_);let(x,H5,I5,r5,y5,A,fr5):=q_;let I5':=I5.pinned (j fr5) (T.obj _ _ A);show Kj hp (thn (hg _ s5 l H5 x u _ I5' r5 (step x H5 y5)) λ_ s6 #[σ6,H6,I6,q6]=>?_);show Kj hp (thn (hb _ s6 σ6 H6 _ I6 q6) λf s7 z=>?_);let again:∀{c:St} {p:Hp},Inv X (a++Yy E s5.heap) c p s7->N c p->∃m,m<n/\∃i k w,Inv X a k w s7/\tn i s7.heap/\(∀b∈E,w b=none)/\W i m k w:=λ{c p} t U=>by
   let(m',hm,w7):=hN c p U;exists m',hm,i+1,c,p,t.unpinned,T.keep _ _ _ A λb hb o e=>(t.pin (b,o) (Bw _ (Bw _ (Jb1 hb e)))).1,λb hb=>?_,w7;let(o,e,d):=T.obj _ _ A b hb;show(t.pin (b,o) (Bw _ (Bw _ (Jb1 hb e)))).2.1
  cases f with
  |next=>let(c,p,t,U):=z;show again t U
  |cont=>let(c,p,t,U):=z;show again t U
  |brk=>let(c,p,t,z):=z;exists c,p,t.unpinned,z
  |ret v=>let(x7,c,p,t,r7,z):=z;exists x7,c,p,t.unpinned,r7,z
end
abbrev R2:=V->V->Hp->VK->Prop
def OpR(X:Cx)(f:Value->Value->Sem Value)(r:R2):Prop:=
 ∀(a:List (Addr×Obj)) (s:Shared) (b:St) (H:Hp) (x y:V) (v u:Value) (Q:VK),Inv X a b H s->RelV x v->RelV y u->r x y H Q->
  wpAny (model X.prog X.w) X.A (f v u) (EP X a b Q) X.xe s
def UnR(X:Cx)(f:Value->Sem Value)(r:V->Hp->VK->Prop):Prop:=
 ∀(a:List (Addr×Obj)) (s:Shared) (b:St) (H:Hp) (x:V) (v:Value) (Q:VK),Inv X a b H s->RelV x v->r x H Q->
  wpAny (model X.prog X.w) X.A (f v) (EP X a b Q) X.xe s
def Xs(X:Cx)(f:Value)(r:List V->Hp->VK->Prop):Prop:=
 ∀(a:List (Addr×Obj)) (s:Shared) (b:St) (H:Hp) (c:List V) (d:List Value) (Q:VK),Inv X a b H s->Vals c d->r c H Q->
  wpAny (model X.prog X.w) X.A (call f d) (EP X a b Q) X.xe s
def Wej(X:Cx)(r:V->Hp->(Bool->Hp->Prop)->Prop):Prop:=
 ∀(a:List (Addr×Obj)) (s:Shared) (b:St) (H:Hp) (x:V) (v:Value) (Q:Bool->Hp->Prop),Inv X a b H s->RelV x v->r x H Q->
  wpAny (model X.prog X.w) X.A (truthy v) (TP X a b Q) X.xe s
def tOp(r:R2)(b c:TE):TE:=λa H Q=>b a H λx H1=>c a H1 λy H2=>r x y H2 Q
def tUn(r:V->Hp->VK->Prop)(a:TE):TE:=λb H Q=>a b H λx H1=>r x H1 Q
def rI(C:Int->Int->Prop)(g:Int->Int->V):R2:=λx y H Q=>∃i j,x=.int i/\y=.int j/\C i j/\Q (g i j) H
def rI0(g:Int->Int->V):R2:=λx y H Q=>∃i j,x=.int i/\y=.int j/\Q (g i j) H
def rU(g:Int->V):V->Hp->VK->Prop:=λx H Q=>∃i,x=.int i/\Q (g i) H
section
variable {X:Cx} {a b c:Expr} {ta tb tc:TE} {pos:Pos}
def Wbv(k:PE X a ta)(hb:PE X b tb){R:V->V->Hp->Prop}(I:Inv X d e H s)
  (h:ta e H λx H1=>tb e H1 λy H2=>R x y H2){Q:Value->Shared->Prop}{f:Value->Value->Sem Value}
  (l:∀v u j x y H2,Inv X d e H2 j->RelV x v->RelV y u->R x y H2->wpAny (model X.prog X.w) X.A (f v u) Q X.xe j):
  wpAny (model X.prog X.w) X.A (eval a X.env) (λv g=>wpAny (model X.prog X.w) X.A (eval b X.env) (λu i=>wpAny (model X.prog X.w) X.A (f v u) Q X.xe i) X.xe g) X.xe s:=by
 show thn (k d s e H _ I h) λv m #[x,H1,n,o,p]=>?_;show thn (hb d m e H1 _ n p) λu j #[y,H2,r,t,w]=>?_;show l v u j x y H2 r o t w
def Jz5(e:OpR X (Hc op) r)(f:PE X a ta)(hb:PE X b tb):PE X (.BinOp a op b pos) (tOp r ta tb):=by
 intro d s g H Q I h;show wpAny_BinOp (Wbv f hb I h λv u i x y H2 j rx k q=>e d i g H2 x y v u Q j rx k q)
def Jz3{r:V->Hp->VK->Prop}(f:UnR X (unaryOp op) r)(g:PE X a ta):PE X (.UnaryOp op a pos) (tUn r ta):=by
 intro d s e H Q I h;show Us (thn (g d s e H _ I h) λv i #[x,H1,j,k,l]=>f d i e H1 x v Q j k l)
def opI{f:Value->Value->Sem Value}{C:Int->Int->Prop}{g:Int->Int->Int}
  (rule:∀(i j:Int) (t u:Tok) (s:Shared) (Q:Value->Shared->Prop) (E:Value->Shared->Prop),C i j->Q (.int (g i j) s.toks) {s with toks:=s.toks+1}->wpAny (model X.prog X.w) X.A (f (.int i t) (.int j u)) Q E s):
  OpR X f (rI C λi j=>.int (g i j)):=by
 intro d s l H x y v u Q I rx e h;let(i,j,rfl,rfl,hc,q):=h;let(t,rfl):=rx;let(k,rfl):=e;show rule i j t k s _ _ hc #[.int (g i j),H,I.tok _,#[_,rfl],q]
def Wce{f:Value->Value->Sem Value}{g:Int->Int->Int}
  (rule:∀(i j:Int) (t u:Tok) (s:Shared) (Q:Value->Shared->Prop) (E:Value->Shared->Prop),Q (.int (g i j) s.toks) {s with toks:=s.toks+1}->wpAny (model X.prog X.w) X.A (f (.int i t) (.int j u)) Q E s):
  OpR X f (rI0 λi j=>.int (g i j)):=by
 intro d s l H x y v u Q I rx e h;let(i,j,rfl,rfl,q):=h;let(t,rfl):=rx;let(k,rfl):=e;show rule i j t k s _ _ #[.int (g i j),H,I.tok _,#[_,rfl],q]
def Waw{f:Value->Value->Sem Value}{g:Int->Int->Bool}
  (rule:∀(i j:Int) (t u:Tok) (s:Shared) (Q:Value->Shared->Prop) (E:Value->Shared->Prop),Q (.bool (g i j)) s->wpAny (model X.prog X.w) X.A (f (.int i t) (.int j u)) Q E s):
  OpR X f (rI0 λi j=>.bl (g i j)):=by
 intro d s l H x y v u Q I rx e h;let(i,j,rfl,rfl,q):=h;let(t,rfl):=rx;let(k,rfl):=e;show rule i j t k s _ _ #[.bl (g i j),H,I,rfl,q]
def Wel(i j:Int):Prop:=0<=j/\j<=1000000/\i.natAbs<2^64
def Wa6(i j:Int):Prop:=(-(2^64:Int)<i/\i<2^64)\/(-(2^64:Int)<j/\j<2^64)
def Wa6.ok(h:Wa6 i j):IntMulOk i j:=by
 rcases h with⟨d,e⟩|⟨d,e⟩
 .show .of_left (intBits_le_64 d e)
 .show .of_right (intBits_le_64 d e)
def Jkh(k:Nat):(0:Int)<=2^k:=by
 rw[two_pow_cast];show Nr _
def Jxu:OpR X (Hc .Add) (rI0 λi j=>.int (i+j)):=Wce λ_ _ _ _ _ _ _ q=>add_int q
def Jxo:OpR X (Hc .Sub) (rI0 λi j=>.int (i-j)):=Wce λ_ _ _ _ _ _ _ q=>sub_int q
def Jxr:OpR X (Hc .Mod) (rI (λ_ j=>0<j) λi j=>.int (i%j)):=opI λi j _ _ _ _ _ hc q=>by
 let d:(0:Int)<j:=hc;show mod_int' 'l' (by rw[Int.fmod_eq_emod_of_nonneg i 'l'];show q)
def Jxq:OpR X (Hc .Pow) (rI Wel λi j=>.int (i^j.toNat)):=opI λ_ _ _ _ _ _ _ hc q=>pow_int_small hc.1 hc.2.1 hc.2.2 q
def Jxp:OpR X (Hc .RShift) (rI (λ_ j=>0<=j) λi j=>.int (i/2^j.toNat)):=opI λi j _ _ _ _ _ hc q=>
 rshift_int hc (by rw[Qk i (Jkh _)];show q)
def unI{f:Value->Sem Value}{g:Int->Int}
  (rule:∀(i:Int) (t:Tok) (s:Shared) (Q:Value->Shared->Prop) (E:Value->Shared->Prop),Q (.int (g i) s.toks) {s with toks:=s.toks+1}->wpAny (model X.prog X.w) X.A (f (.int i t)) Q E s):
  UnR X f (rU λi=>.int (g i)):=by
 intro d s e H x v Q I rx h;let(i,rfl,q):=h;let(t,rfl):=rx;show rule i t s _ _ #[.int (g i),H,I.tok _,#[_,rfl],q]
def Jwg:UnR X (unaryOp .USub) (rU λi=>.int (-(i:Int))):=unI λ_ _ _ _ _ q=>neg_int q
end
section
variable {X:Cx} {a b c:Expr} {ta tb tc:TE} {pos:Pos}
def Jr3(I:Inv X d f H s)(q:Q (.bl k) H)(e:k=g):EP X d f Q (.bool g) s:=by
 subst e;exists .bl k,H,I,rfl,q
def Jz8:OpR X (Ef .Lt) (rI0 λi j=>.bl (decide (i<j))):=Waw λ_ _ _ _ _ _ _ q=>lt_int q
def Jz9:OpR X (Ef .LtE) (rI0 λi j=>.bl (decide (i<=j))):=Waw λ_ _ _ _ _ _ _ q=>le_int q
def J0a:OpR X (Ef .Gt) (rI0 λi j=>.bl (decide (j<i))):=Waw λ_ _ _ _ _ _ _ q=>gt_int q
def J0b:OpR X (Ef .GtE) (rI0 λi j=>.bl (decide (j<=i))):=Waw λ_ _ _ _ _ _ _ q=>ge_int q
def Jxs:OpR X (Ef .Is) (λx y H Q=>y=.non/\Q (.bl (decide (x=.non))) H):=by
 intro d s f H x y v u Q I rx e h;let(rfl,q):=h;cases e;show is_none_gen (Jr3 I q ?_);cases x<;>first
  |(cases rx;rfl)
  |(let(t,rfl):=rx;rfl)
def Juk:OpR X (Ef .IsNot) (λx y H Q=>y=.non/\Q (.bl (!decide (x=.non))) H):=by
 intro d s f H x y v u Q I rx e h;let(rfl,q):=h;cases e;show isnot_none_gen (Jr3 I q ?_);cases x<;>first
  |(cases rx;rfl)
  |(let(t,rfl):=rx;rfl)
def Wds(b:Expr)(h:op≠ .In)(d:op≠ .NotIn):Jy op b=false:=by
 let e:(op==CmpOp.In)=false:=by cases op<;>first|rfl|show absurd rfl h
 let f:(op==CmpOp.NotIn)=false:=by cases op<;>first|rfl|show absurd rfl d
 cases b<;>simp[Jy,e,f]
def Jug(e:OpR X (Ef op) r)(f:PE X a ta)(hb:PE X b tb)(g:Jy op b=false):PE X (.Compare a [op] [b] pos) (tOp r ta tb):=by
 intro d s i H Q I h;show wpAny_Compare1 (Wbv f hb I h λv u j x y H2 k rx l q=>e d j i H2 x y v u Q k rx l q) g
def Wa7(t:TE):TT:=λd H Q=>t d H λx e=>∃k,x=.bl k/\Q k e
def Jtz(g:OpR X (Ef op) r)(i:PE X a ta)(hb:PE X b tb)(j:Jy op b=false):PT X (.Compare a [op] [b] pos) (Wa7 (tOp r ta tb)):=by
 intro d s f H Q I h;show wpAny_isTrue_Compare1 (thn (i d s f H _ I h) λv l #[x,H1,m,n,o]=>thn (hb d l f H1 _ m o) λu p #[y,H2,t,w,A]=>
  thn (g d p f H2 x y v u _ t n w A) λc N #[z,C,E,J,k,e,L]=>?_) j
 subst e;cases J;show Es #[C,E,L]
def Zm(r f:R2)(ta tb tc:TE):TE:=λd H Q=>ta d H λx H1=>tb d H1 λy H2=>r x y H2 λz e=>∃k,z=.bl k/\
 (if k=true then tc d e λg h=>f y g h Q else Q (.bl false) e)
theorem Jpe(p:OpR X (Ef op) r)(j:OpR X (Ef g) t)(w:PE X a ta)(hb:PE X b tb)(hc:PE X c tc)
  (A:lastMarks [op,g] [b,c]=false):PE X (.Compare a [op,g] [b,c] pos) (Zm r t ta tb tc):=by
 intro f s i H Q I h;show Compare_chain (thn (w f s i H _ I h) λv C #[x,H1,E,J,L]=>chain_link (thn (hb f C i H1 _ E L) λu N #[y,H2,U,l,Y]=>
  thn (p f N i H2 x y v u _ U J l Y) λd s3 #[z,m,n,r3,k,e,o]=>?_)) A
 subst e;cases r3;show Es ?_;cases k with
 |false=>show ite_ff #[.bl false,m,n,rfl,o]
 |true=>show ite_tt (chain_last (thn (hc f s3 i m _ n o) λw' s4 #[z',H4,I4,r4,q4]=>j f s4 i H4 y z' u w' Q I4 l r4 q4))
theorem Jo0(p:OpR X (Ef op) r)(j:OpR X (Ef g) t)(w:PE X a ta)(hb:PE X b tb)(hc:PE X c tc)
  (A:lastMarks [op,g] [b,c]=false):PT X (.Compare a [op,g] [b,c] pos) (Wa7 (Zm r t ta tb tc)):=by
 intro f s i H Q I h;show isTrue_chain (thn (w f s i H _ I h) λv C #[x,H1,E,J,L]=>test_link (thn (hb f C i H1 _ E L) λu N #[y,H2,U,l,Y]=>
  thn (p f N i H2 x y v u _ U J l Y) λd s3 #[z,m,n,r3,k,e,o]=>?_)) A
 subst e;cases r3;show Es ?_;cases k with
 |false=>
  let(k',e',q'):=o;cases e';show ite_ff #[m,n,q']
 |true=>
  show ite_tt (test_last (thn (hc f s3 i m _ n o) λw' s4 #[z',H4,I4,r4,q4]=>thn (j f s4 i H4 y z' u w' _ I4 l r4 q4) λd' s5 q_=>?_));let(z2,H5,I5,r5,k2,e2,q5):=q_;subst e2;cases r5;show Es #[H5,I5,q5]
def Wa3(K:Ah)(x:V)(H:Hp)(k:Bool):Prop:=
 match x with
 |.non=>k=false
 |.bl b=>k=b
 |.int i=>k=(i !=0)
 |.str y=>⇑y<=sizeLine/\k=((⇑y:Int) !=0)
 |.byt y=>y.size<=sizeLine/\k=((y.size:Int) !=0)
 |.ref p=>(∃d,SqL K H p d/\k= !d.isEmpty)\/(∃d,SqT K H p d/\k= !d.isEmpty)\/∃e,H p=-(.dK e)/\k= !e.isEmpty
 |_=>False
theorem Jk0{κ:Type}{kvs:List (κ×V)}{vs:List (κ×Value)}(r:KV kvs vs):(!vs.isEmpty)= !kvs.isEmpty:=by
 cases r<;>rfl
def Je3{xs:List V}{its:List Value}(r:Vals xs its):(!its.toArray.isEmpty)= !xs.isEmpty:=by
 cases r<;>simp
def Jha:(sizeLine:Nat)<2^63:=by rw[G2];decide
theorem Jq8:Wej X (λx H Q=>∃k,Wa3 X.K x H k/\Q k H):=by
 intro u s C H x v Q I rx h;let(k,e,q):=h;let E:=Jha;let J:sizeLine=16777216:=G2;cases x with
 |non=>
  cases rx;let d:k=false:=e;subst d;show truthy_none #[H,I,q]
 |bl b=>
  cases rx;let d:k=b:=e;subst d;show Es #[H,I,q]
 |int i=>
  let(t,rfl):=rx;let d:k=(i !=0):=e;subst d;show PySem.P.truthy_int #[H,I,q]
 |str y=>
  let(t,rfl):=rx;obtain⟨z,d⟩:⇑y<=sizeLine/\k=((⇑y:Int) !=0):=e;subst d;show PySem.P.truthy_str 'l' #[H,I.tok _,q]
 |byt y=>
  let(t,rfl):=rx;obtain⟨z,d⟩:y.size<=sizeLine/\k=((y.size:Int) !=0):=e;subst d;show PySem.W.truthy_bytes 'l' #[H,I.tok _,q]
 |ref p=>
  cases rx;let d:(∃j,SqL X.K H p j/\k= !j.isEmpty)\/(∃j,SqT X.K H p j/\k= !j.isEmpty)\/∃f,H p=-(.dK f)/\k= !f.isEmpty:=e;rcases d with⟨j,l,d⟩|⟨j,l,d⟩|⟨f,l,d⟩
  .subst d;let(o,r,pl,w):=I.list l;let g:=⇑r;show wpAny_truthy_list pl.isList (by simp only[Aw];lia) #[H,I.tok _,by rw[Je3 r];show q]
  .subst d;let(o,r,pl,w):=I.tuple l;let g:=⇑r;show truthy_tuple pl (by simp only[Aw];lia) #[H,I.tok _,by rw[Je3 r];show q]
  .subst d;obtain⟨w,A,n,r,m⟩:⇑f<=sizeLine/\(p==sysModules)=false/\∃n,KV f n/\s.heap.DictOf (mixKind X.prog X.w) p n:=I.hok p _ l;let g:⇑f=⇑n:=Cf r;show wpAny_truthy_dict A m 'l' #[H,I.tok _,by rw[Jk0 r];show q]
 |_=>show(show False from e).elim
def Joz(g:PE X a ta)(i:∀d,isTrue a X.env d=(do let v<-d;O8 a.pos;holding [v] (truthy v))):
  PT X a (λf H Q=>ta f H λx H'=>∃k,Wa3 X.K x H' k/\Q k H'):=by
 intro e s f H Q I h;show isTrue_plain (thn (g e s f H _ I h) λv j #[x,H1,l,m,n]=>Jq8 e j f H1 x v Q l m n) (i _)
theorem vals1(r:Vals [x] us):∃u,us=[u]/\RelV x u:=by
 cases r with
 |cons d e=>cases e;exists _,rfl,d
theorem vals2(r:Vals [x,y] us):∃u d,us=[u,d]/\RelV x u/\RelV y d:=by
 cases r with
 |cons e f=>
  cases f with
  |cons g h=>cases h;exists _,_,rfl,e,g
def Jqn:Xs X (.builtin "abs") (λxs H Q=>∃i,xs=[.int i]/\Q (.int (if i<0 then -(i:Int) else i)) H):=by
 intro d s e H xs f Q I r h;let(i,rfl,q):=h;let(u,rfl,t,rfl):=vals1 r;show call_abs_int λu tk=>#[.int (if i<0 then -(i:Int) else i),H,I.tok _,#[_,rfl],q]
def Jny(hc:X.calm=true):Xs X (.builtin "max") (λxs H Q=>∃i j,xs=[.int i,.int j]/\Q (.int (if j>i then j else i)) H):=by
 intro e s f H xs g Q I r h;let(i,j,rfl,q):=h;obtain⟨u,l,rfl,⟨t,rfl⟩,⟨m,rfl⟩⟩:=vals2 r;show max_two_ints (I.ok.hd hc) λn tk k=>#[_,H,I.kept k,?_,q]
 by_cases d:j>i
 .rw[if_pos d,if_pos d];exists _,rfl
 .rw[if_neg d,if_neg d];exists _,rfl
def Jnx(hc:X.calm=true):Xs X (.builtin "min") (λxs H Q=>∃i j,xs=[.int i,.int j]/\Q (.int (if j<i then j else i)) H):=by
 intro e s f H xs g Q I r h;let(i,j,rfl,q):=h;obtain⟨u,l,rfl,⟨t,rfl⟩,⟨m,rfl⟩⟩:=vals2 r;show min_two_ints (I.ok.hd hc) λn tk k=>#[_,H,I.kept k,?_,q]
 by_cases d:j<i
 .rw[if_pos d,if_pos d];exists _,rfl
 .rw[if_neg d,if_neg d];exists _,rfl
def Jhs:Xs X (.type "int") (λxs H Q=>(∃i,xs=[.int i]/\Q (.int i) H)\/∃k,xs=[.bl k]/\Q (.int (if k then 1 else 0)) H):=by
 intro d s f H xs g Q I r h;rcases h with⟨i,rfl,q⟩|⟨k,rfl,q⟩
 .let(u,rfl,t,rfl):=vals1 r;show call_int_int #[.int i,H,I,#[_,rfl],q]
 .let(u,rfl,e):=vals1 r;cases e;show call_int_bool #[.int (if k then 1 else 0),H,I.tok _,#[_,rfl],q]
end
structure Zq(h:Heap)(x dx C:Addr)(mA:Str->Option Value):Prop where
 obj:h.get? x=-(Fw C dx)
 ns:h.Ns1 dx mA
 ne:dx≠x
def Jmw{h:Heap}{c:Str->Option Value}(n:h.Ns1 f c):∃od,h.get? f=-od/\∀name,Lu name od=-(c name):=by
 let(o,d,m,g,hd,i,_,j):=n;exists o,g,λname=>?_;let e:=j name;unfold nsFind findBy at e;rw[<-Array.find?_toList]at e;unfold Lu;rw[hd];dsimp only;split
 .rename_i y q;rw[q]at e;show congrArg some e
 .rename_i q;rw[q]at e;let a:d.toList.any (·.refKey)=false:=by
   rw[N3];intro y k;let(z,t,b):=i y (C6.1 k);simp[DictEntry.refKey,b]
  let l:¬d.toList.any (·.refKey)=true:=by rw[a];show Bb
  rw[if_neg l];show congrArg some e
def Zq.look{mA:Str->Option Value}(I:Zq h x dx C mA):∃od,PySem.W.InstAt h x (Fw C dx) C (-od)/\∀name,Lu name od=-(mA name):=
 let#[od,a,b]:=Jmw I.ns
 #[od,#[I.obj,rfl,rfl,a],b]
section
variable {prog:Program} {w:World} {A:Bo} {E:Value->Shared->Prop} {s:Shared} {K:Ah} {x dx C f:Addr} {mA:Str->Option Value} {name:Str} {v:Value}
def get_map{Q:Value->Shared->Prop}(X:K.In s.heap)(I:Zq s.heap x dx C mA)(c:Kt K C name=true)(d:M3 K C=true)
  (e:D7 K (.ref C) name=some none)(g:mA name=-v)(a:Td v=true)(h:Q v {s with toks:=s.toks+1}):
  wpAny (model prog w) A (getAttr (.ref x) name b) Q E s:=by
 let(od,J,i):=I.look;show PySem.W.get_value X J (L6 c).1 (PySem.W.findObj_own d e rfl (by rw[i,g])) a h
def Jp6{Q:Value×List Value->Shared->Prop}(X:K.In s.heap)(I:Zq s.heap x dx C mA)(a:Kt K C name=true)
  (b:D7 K (.ref C) name=-(-(.ref f)))(c:M2 K (.ref f)=true)(d:mA name=none)(h:Q (.ref f,[.ref x]) s):
  wpAny (model prog w) A (getMethod (.ref x) name pl) Q E s:=by
 let(od,J,e):=I.look;show PySem.W.method_fn X J (L6 a).1 (L6 a).2 b (beq_iff_eq.1 c) (by change(Lu name od).map (·.isSome)=-false;rw[e,d];rfl) h
def Jto{ns:List Str}{Q:Unit->Shared->Prop}(X:K.In s.heap)(I:Zq s.heap x dx C mA)
  (hs:D7 K (.ref C) "__setattr__"=-(-(.builtin "object.__setattr__")))(hp:Sh K C=true)(k:N6 K C name=some none)(l:M3 K C=true)
  (m:Q3 mA ns)(hsz:⇑ns<=sizeLine)
  (h:∀h',Zq h' x dx C (λy=>if y=name then -v else mA y)->Du dx s.heap h'->Q () {s with heap:=h',toks:=s.toks+2}):
  wpAny (model prog w) A (setAttr (.ref x) name v) Q E s:=by
 let(od,J,t):=I.look;show PySem.W.set_plain X J hs (PySem.W.osa_open (s:={s with toks:=s.toks+1}) (r:=none) X J hp k λb=>?_);let(cd,hc,e):=PySem.W.any_some l;let n:s.heap.get? x=-#[.ref C,-dx,.plain,#[]]:=I.obj;show Aa (Ab (Aa (Aa (wpAny_loadPart n (Aa (PySem.W.Looks.here (s:={s with toks:=s.toks+1}) (PySem.W.looks_clsIn X hc) ?_))))));rw[e];show Ab (a:=-dx) (Aa (Ab (Aa ?_)));show wpAny_nsSet1 (s:={s with toks:=s.toks+1}) I.ns λh' c d=>?_;let(u,o,p,g,i,j):=c.count (PySem.Within.cons name v m);show Aa (wpAny_lookBehind g (by rw[i];show pastItsLine_dict (B3 j (by rw[Bh];lia))) ?_);show Ab (h _ #[(d.2 _ (E9 I.ne)).trans I.obj,c,I.ne] d)
def Jpl{R:Nm->Shared->Prop}(X:K.In s.heap)(c:N7 K C=true)
  (e:D7 K (.ref C) "__init__"=-(-(.ref f)))(i:PySem.W.typeIn K (.ref f)=-(.type "function"))
  (h:Hz (model prog w) (A.under (.builtin "type.__call__" #[.ref C::vs,b])) (.call (.ref f) #[.ref (↥s+1)::vs,b]) (PySem.W.InitBack (↥s+1) R)
   {s with heap:=(s.heap.push Ec).push (Fw C ↥s)}):
  Hz (model prog w) A (.call (.ref C) #[vs,b]) R s:=by
 let(j,g,d,t,os):=s;show PySem.W.make_core (PySem.W.makes_of X c) (PySem.W.looks_findIn X e) (λa=>PySem.W.bind_fn X a i) (.inl rfl) h
end
noncomputable def Xx(f:Str)(v:V):List (Str×V)->List (Str×V)
 |[]=>[(f,v)]
 |(g,x)::r=>if g=f then(g,v)::r else(g,x)::Xx f v r
theorem Jdt(f g:Str)(v:V):∀b:List (Str×V),(Xx f v b).lookup g=if g=f then -v else b.lookup g
 |[]=>by
  change F3 g [(f,v)]=_
  by_cases h:g=f
  .let hb:(g==f)=true:=beq_iff_eq.2 h;simp only[F3,hb,if_pos h]
  .let hb:(g==f)=false:=beq_eq_false_iff_ne.2 h;simp only[F3,hb,if_neg h]
 |(k,x)::r=>by
  let c:=Jdt f g v r;rw[show Xx f v ((k,x)::r)=(if k=f then(k,v)::r else(k,x)::Xx f v r)from rfl]
  by_cases a:k=f
  .rw[if_pos a]
   by_cases h:g=k
   .let hb:(g==k)=true:=beq_iff_eq.2 h;simp only[F3,hb,if_pos (h.trans a)]
   .let hb:(g==k)=false:=beq_eq_false_iff_ne.2 h;simp only[F3,hb,if_neg (λe:g=f=>h (e.trans a.symm))]
  .rw[if_neg a]
   by_cases h:g=k
   .let hb:(g==k)=true:=beq_iff_eq.2 h;simp only[F3,hb,if_neg (λe:g=f=>a (h.symm.trans e))]
   .let hb:(g==k)=false:=beq_eq_false_iff_ne.2 h;simp only[F3,hb];show c
theorem Jdx(f:Str)(v:V):∀a:List (Str×V),f∈(Xx f v a).map (·.1)/\∀g,g∈a.map (·.1)->g∈(Xx f v a).map (·.1)
 |[]=>#[by simp[Xx],λg h=>by simp at h]
 |(k,x)::r=>by
  let(c,d):=Jdx f v r;rw[show Xx f v ((k,x)::r)=(if k=f then(k,v)::r else(k,x)::Xx f v r)from rfl]
  by_cases b:k=f
  .rw[if_pos b];subst b;exists by simp,λg h=>by erw[h]
  .rw[if_neg b];exists ?_,λg h=>?_
   .rw[Bf];show A7 _ c
   .rw[Bf]at h ⊢;rcases An.1 h with e|e
    .show An.2 (.inl e)
    .show A7 _ (d g e)
theorem Jdv(f:Str)(v:V):∀a:List (Str×V),(Xx f v a).length<=⇑a+1
 |[]=>by simp[Xx]
 |(k,x)::r=>by
  let c:=Jdv f v r;rw[show Xx f v ((k,x)::r)=(if k=f then(k,v)::r else(k,x)::Xx f v r)from rfl]
  by_cases b:k=f
  .rw[if_pos b,Bh,Bh];lia
  .rw[if_neg b,Bh,Bh];lia
theorem RelO.some_of(r:RelO (-v) o):∃u,o=-u/\RelV v u:=by
 cases o with
 |none=>show(show False from r).elim
 |some u=>exists u,rfl,r
theorem RelO.none_of(r:RelO none o):o=none:=by
 cases o with
 |none=>rfl
 |some u=>show(show False from r).elim
theorem Jnf(r:RelV v u):Td u=true:=by
 cases v with
 |non=>cases(show u=C7 from r);rfl
 |bl b=>cases(show u=J3 b from r);rfl
 |int i=>let(t,e):=(show∃t,u=Eg i t from r);cases e;rfl
 |str x=>let(t,e):=(show∃t,u=N8 x t from r);cases e;rfl
 |byt b=>let(t,e):=(show∃t,u=W7 b t from r);cases e;rfl
 |flt b=>let(t,e):=(show∃t,u=W6 b t from r);cases e;rfl
 |ref a=>cases(show u=Ax a from r);rfl
 |ty n=>cases(show u=Fm n from r);rfl
section
variable {P:Program} {w:World} {H H':Hp} {h h':Heap} {a C dx:Addr} {fs fs':List (Str×V)}
def Jiw(c:HOk P w H h)(e:H a=-(.ins C dx fs)):∃b,Zq h a dx C b/\(∀f,RelO (fs.lookup f) (b f))/\Q3 b (fs.map (·.1))/\⇑fs<=1000/\H dx=-(.own a):=by
 let(d,z,g,i,b,n,r,q):=(show Xg P w H h a (.ins C dx fs)from c a _ e)
 exists b,#[i,n,g],r,q,z,d
end
structure Cls(K:Ah)(C:Addr):Prop where
 pg:Kt K C Str.empty=true
 hd:M3 K C=true
 po:Sh K C=true
 sa:D7 K (.ref C) "__setattr__"=-(-(.builtin "object.__setattr__"))
def Cls.get{K:Ah}{C:Addr}(c:Cls K C)(f:Str):Kt K C f=true:=c.pg
def Xy(K:Ah)(C:Addr)(f:Str):Prop:=D7 K (.ref C) f=some none
theorem Xy.taker{K:Ah}{C:Addr}{f:Str}(n:Xy K C f):N6 K C f=some none:=by
 unfold N6;rw[show D7 K (.ref C) f=some none from n];rfl
structure Meth(K:Ah)(C:Addr)(m:Str)(f:Addr):Prop where
 at_:D7 K (.ref C) m=-(-(.ref f))
 fn:M2 K (.ref f)=true
 kp:Ek K (.ref f)=true
section
variable {X:Cx} {pins:List (Addr×Obj)} {σ:St} {H:Hp} {s:Shared} {a C dx:Addr} {fs:List (Str×V)} {f:Str} {v:V} {A:Bo} {E:Value->Shared->Prop}
def Jk4{Q:Value->Shared->Prop}(I:Inv X pins σ H s)(e:H a=-(.ins C dx fs))(c:Cls X.K C)(n:Xy X.K C f)(l:fs.lookup f=-v)
  (h:∀u d,Inv X pins σ H d->RelV v u->Q u d):wpAny (model X.prog X.w) A (getAttr (.ref a) f b) Q E s:=by
 let(i,O,r,_,_,_):=Jiw I.hok e;let(u,j,g):=RelO.some_of (v:=v) (o:=i f) (by rw[<-l];show r f);show get_map I.kIn O (c.get f) c.hd n j (Jnf g) (h u _ (I.tok _) g)
def Je5{Q:Value×List Value->Shared->Prop}(I:Inv X pins σ H s)(e:H a=-(.ins C dx fs))(c:Cls X.K C)(k:Meth X.K C m g)(l:fs.lookup m=none)
  (h:Q (.ref g,[.ref a]) s):wpAny (model X.prog X.w) A (getMethod (.ref a) m pl) Q E s:=by
 let(b,O,r,_,_,_):=Jiw I.hok e;let d:b m=none:=RelO.none_of (by rw[<-l];show r m);show Jp6 I.kIn O (c.get m) k.at_ k.fn d h
def Jkn{Q:Unit->Shared->Prop}(I:Inv X pins σ H s)(e:H a=-(.ins C dx fs))(c:Cls X.K C)(n:Xy X.K C f)(N:⇑fs<1000)(m:RelV y u)
  (h:∀i,Inv X pins σ (upd H a (.ins C dx (Xx f y fs))) i->Q () i):wpAny (model X.prog X.w) A (setAttr (.ref a) f u) Q E s:=by
 let(j,O,r,k,_,l):=Jiw I.hok e;let p:(fs.map (·.1)).length<=sizeLine:=by rw[Ag,G2];lia
 show Jto I.kIn O c.sa c.po n.taker c.hd k p λt d w=>h _ ?_;let hd:∃o,t.get? dx=-o:=let#[o,_,_,J,_]:=d.ns;#[o,J];show I.write (x:=a) (e:=dx) (by rw[e];show Fp) (.inr l) (λb q hb z=>(w.2 b hb).trans z) hd ?_;exists by rw[Jad O.ne];show l,?_,O.ne,d.obj,_,d.ns,λg=>?_,λg L=>?_
 .let:=Jdv f y fs;lia
 .change RelO ((Xx f y fs).lookup g) (if g=f then -u else j g);rw[Jdt]
  by_cases q:g=f
  .rw[if_pos q,if_pos q];show m
  .rw[if_neg q,if_neg q];show r g
 .by_cases q:g=f
  .rw[q];show(Jdx f y fs).1
  .show(Jdx f y fs).2 g (k g λz=>L ?_);change(if g=f then -u else j g)=none;rw[if_neg q];show z
def Inv.made(I:Inv X pins σ H s):Inv X pins σ (upd (upd H ↥s (.own (↥s+1))) (↥s+1) (.ins C ↥s []))
  {s with heap:=(s.heap.push Ec).push (Fw C ↥s)}:=by
 let d:(s.heap.push Ec).get? ↥s=-Ec:=Ak s.heap rfl;let h:((s.heap.push Ec).push (Fw C ↥s)).get? (↥s+1)=-(Fw C ↥s):=by
  let:=Ak (s.heap.push Ec) (o:=Fw C ↥s) rfl;rwa[C4]at this
 let j:(s.heap.push Ec).Ns ↥s (λ_=>none):=#[Ec,#[],_,d,rfl,(λe k=>absurd k 's'),λ_=>rfl]
 let l:=I.laid (a:=↥s) (o:=.own (↥s+1)) (h':=s.heap.push Ec) (t':=s.toks) (λb u q=>Af _ q) (Aj _) #[_,d];show l.laid (a:=↥s+1) (o:=.ins C ↥s []) (t':=s.toks) (λb u q=>Af _ q) (Oa (C4 _ _)) ?_;let g:↥s≠↥s+1:=A5 (Eb _);exists by rw[Jad g,Jae],Dk _,g,h,λ_=>none,(Heap.Ns1.of_empty j).at λo q=>Af _ q,λ_=>Fp,λy n=>absurd rfl n
def Jvt{Q:Value->Shared->Prop}(hb:attributeBase e f env (eval e env)=eval e env)
  (h:wpAny (model prog w) A (eval e env) (λo b=>wpAny (model prog w) A (getAttr o f true) Q E b) E s):wpAny (model prog w) A (eval (.Attribute e f pos) env) Q E s:=
 Attribute_any_ h (by rw[arm_eval_Attribute,hb])
end
def Wde(K:Ah)(c:TE)(f:Str):TE:=λd H Q=>c d H λx H1=>∃a C e b v,x=.ref a/\H1 a=-(.ins C e b)/\Cls K C/\Xy K C f/\b.lookup f=-v/\Q v H1
def Wdh(K:Ah)(e g:TE)(f:Str):TS:=λD b H=>g b H λy H1=>e b H1 λx H2=>∃a C d c,x=.ref a/\H2 a=-(.ins C d c)/\Cls K C/\Xy K C f/\⇑c<1000/\
 D.nx b (upd H2 a (.ins C d (Xx f y c)))
section
variable {X:Cx} {o e value:Expr} {f:Str} {pos pos' tpos:Pos} {ta tv:TE}
def Jxl(d:PE X e ta)(hb:attributeBase e f X.env (eval e X.env)=eval e X.env):PE X (.Attribute e f pos) (Wde X.K ta f):=by
 intro b s g H Q I h;show Jvt hb (thn (d b s g H _ I h) λu t i=>?_);let(x,H1,j,rx,a,C,w,y,v,k,m,c,n,l,q):=i;subst k;obtain rfl:u=Ax a:=rx;show Jk4 j m c n l λz A p r=>#[v,H1,p,r,q]
def Jw7(g:PE X o ta)(i:PE X value tv)(hs:Hy value (-(.Attribute o f pos')) pos.line X.env=pure false):PS X (.Assign [.Attribute o f pos'] value pos) (Wdh X.K ta tv f):=by
 intro b s d H D I h;show plainObj_wpAny_Assign_Attribute (thn (i b s d H _ I h) λu j #[y,H1,k,m,q]=>thn (g b j d H1 _ k q) λp E r=>?_) hs;let(x,H2,t,rx,a,C,J,L,v,w,c,n,l,z):=r;subst v;obtain rfl:p=Ax a:=rx;show Jkn t w c n l m λN A=>#[d,_,A,z]
end
section
variable {X:Cx} {pins:List (Addr×Obj)} {σ:St} {H:Hp} {s:Shared} {A:Bo} {E:Value->Shared->Prop} {Q:Value->Shared->Prop} {c:Value} {b:Bool}
end
structure Xp(k:Nat)(A:Bo):Prop where
 hd:A.handled=none
 dp:A.depth+3*k+5<recursionLimit
 un:A.units+16*k+200<Dm
 gd:A.guards=-[]
def Xp.mono(r:Xp k A)(h:j<=k):Xp j A:=#[r.hd,by let:=r.dp;lia,by let:=r.un;lia,r.gd]
def Xp.deeper{A:Bo}(r:Xp (k+1) A)(env:Env):Xp k (A.deeper env):=
 #[r.hd,by let:=r.dp;change A.depth+1+3*k+5<_;lia,by let:=r.un;change A.units+3+16*k+200<_;lia,r.gd]
def Jkv{A:Bo}:(A.under (.builtin "type.__call__" #[.ref C::us,a])).depth=A.depth+1:=by
 first|rfl|simp[Qu,Code.weight,Code.isCreation,Code.isGuard,Code.isCaller,Code.frames,Ri,guardIds]
def Jku{A:Bo}:(A.under (.builtin "type.__call__" #[.ref C::us,a])).units=A.units+1:=by
 first|rfl|simp[Qu,Code.cUnits,Code.frames,Ri]
def Xp.make{A:Bo}(r:Xp (k+1) A)(C:Addr)(us:List Value)(a:List (Str×Value)):Xp k (A.under (.builtin "type.__call__" #[.ref C::us,a])):=
 #[r.hd,by let:=r.dp;rw[Jkv];omega,by let:=r.un;rw[Jku];omega,r.gd]
def Xp.depth{A:Bo}(r:Xp k A):A.depth<recursionLimit:=by let:=r.dp;lia
def Xp.units{A:Bo}(r:Xp k A):A.units+64<Dm:=by let:=r.un;lia
def Z6:TA:=λ_ H Q=>Q [] H
def Z8(b:TE)(c:TA):TA:=λa H Q=>b a H λx H1=>c a H1 λd H2=>Q (x::d) H2
section
variable {X:Cx} {e:Expr} {es:List Expr} {te:TE} {t:TA} {pos:Pos}
def Jdq:PA X [] Z6:=λ_ _ _ _ H Q I h=>Ks #[[],H,I,.nil,h]
def Jbj(c:PE X e te)(d:PA X es t)(hs:Cd (e::es) X.env=(false,eval e X.env)::Cd es X.env):PA X (e::es) (Z8 te t):=by
 intro pos a s b H Q I h;rw[hs];change wpAny _ _ (T8 ((false,eval e X.env)::Gs pos (Cd es X.env))) _ _ s;show Ke (thn (c a s b H _ I h) λu f #[x,H1,g,i,j]=>?_);show thn (d pos a f b H1 _ g j) λo p #[k,H2,l,m,n]=>#[x::k,H2,l,.cons i m,n]
def Wc6(t:TA):TE:=λb H Q=>t b H λa H1=>⇑a<=sizeLine/\∀p,H1 p=none->Q (.ref p) (upd H1 p (.tup a))
def Wdb(t:TA):TE:=λb H Q=>t b H λa H1=>⇑a<=sizeLine/\∀p,H1 p=none->Q (.ref p) (upd H1 p (.lst a))
def Jxf{f}(h:PA X es t):PE X (.Tuple es f pos) (Wc6 t):=by
 intro a s g H Q I i;show wpAny_Tuple_spliced (thn (h pos a s g H _ I i) λj c #[k,H1,d,r,z,q]=>#[by rw[<-⇑r];show z,?_]);let l:H1 ↥c=none:=d.hok.fresh (Aj _);exists .ref ↥c,upd H1 ↥c (.tup k),d.laid (t':=c.toks) (λb u e=>Af _ e) (Aj _) ?_,rfl,q _ l;exists z,j,r,#[_,Ak _ rfl,rfl,_,rfl]
def Jxj(h:PA X es t):PE X (.List es pos) (Wdb t):=by
 intro a s f H Q I g;show wpAny_List_spliced (thn (h pos a s f H _ I g) λi c #[j,H1,d,r,z,q]=>#[by rw[<-⇑r];show z,?_]);let k:H1 ↥c=none:=d.hok.fresh (Aj _);exists .ref ↥c,upd H1 ↥c (.lst j),d.laid (t':=c.toks) (λb u e=>Af _ e) (Aj _) ?_,rfl,q _ k;exists z,i,0,r,Ak _ rfl
end
abbrev Sp:=List V->Hp->VK->XK->Prop
abbrev CXT:=List Env->Hp->Shared->XK->Value->Shared->Prop
structure Zr(P:Program)(w:World)(K:Ah)(mg:Str->Option Value)(base:Heap)(A:Bo)(outer:List Env)(s:Shared)(H:Hp):Prop where
 frames:A.frames=-outer
 mod:Mod K mg base
 bs:∀b o,base.get? b=-o->s.heap.get? b=-o/\H b=none
 bsz:base.objs.size<=↥s
 funs:s.heap.FunFrames base outer
 frf:∀b∈frs outer,H b=none
 hok:HOk P w H s.heap
 bare:Mt s.gens
def CE(a:List Env)(P:Program)(w:World)(H:Hp)(s:Shared)(Q:VK)(u:Value)(b:Shared):Prop:=
 ∃v c,b.os=s.os/\Mt b.gens/\Un (frs a) [] H c s.heap b.heap/\HOk P w c b.heap/\RelV v u/\Q v c
def CR(CX:CXT)(a:List Env)(P:Program)(w:World)(H:Hp)(s:Shared)(Q:VK)(E:XK)(r:Nm)(b:Shared):Prop:=
 match r with
 |.ok (.ret u)=>CE a P w H s Q u b
 |.ok _=>False
 |.error e=>CX a H s E e b
structure Yd(P:Program)(w:World)(K:Ah)(mg:Str->Option Value)(base:Heap)(CX:CXT)(k:Nat)(f:Addr)(fd:Jl)(ps:List Str)(sp:Sp):Prop where
 len:∀vs H Q E,sp vs H Q E->⇑vs=⇑ps
 run:∀(A:Bo) (outer:List Env) (s:Shared) (H:Hp) (args:Args) (us:List Value) (vs:List V) (Q:VK) (E:XK),Xp k A->Zr P w K mg base A outer s H->Xd s fd args (ps.zip us)->Vals vs us->sp vs H Q E->
  Hz (model P w) A (.call (.ref f) args) (CR CX outer P w H s Q E) s
def Zr.make{P:Program}{w:World}{K:Ah}{mg:Str->Option Value}{base:Heap}{A:Bo}{outer:List Env}{s:Shared}{H:Hp}(e:Zr P w K mg base A outer s H)(C:Addr)(us:List Value)(a:List (Str×Value)):
  Zr P w K mg base (A.under (.builtin "type.__call__" #[.ref C::us,a])) outer s H:=#[by first|show e.frames|(simpa [Qu,Code.envs,Ri,pushEnvs]using e.frames),e.mod,e.bs,e.bsz,e.funs,e.frf,e.hok,e.bare]
section
variable {X:Cx} {pins:List (Addr×Obj)} {σ:St} {H:Hp} {s s':Shared}
def Inv.env0(I:Inv X pins σ H s):Zr X.prog X.w X.K X.mg X.base X.A X.stack s H:=
 #[I.ok.frames,I.ok.mod,I.bs,B3 I.ok.bsz I.sz,I.stack,I.stkFree,I.hok,I.bare]
def Inv.after(I:Inv X pins σ H s)(h:CE X.stack X.prog X.w H s Q u s'):EP X pins σ Q u s':=by
 let(v,e,os,bare,un,hok,r,q):=h;let(f,g,d,t,a):=s';obtain rfl:a=s.os:=os;exists v,e,I.call (h':=f) (g':=g) (d':=d) (t':=t) (ch:=[]) un hok bare (λb z=>absurd z 's'),r,q
end
def Z9(sp:Sp)(a:List V)(E:XK)(t:TA):TE:=λb H Q=>t b H λc H1=>sp (c++a) H1 Q E
def Z7(C:Addr)(m:Str)(sp:Sp)(b:List V)(E:XK)(e:TE)(t:TA):TE:=λc H Q=>e c H λx H1=>∃a f d,x=.ref a/\H1 a=-(.ins C f d)/\d.lookup m=none/\
 t c H1 λg H2=>sp (x::(g++b)) H2 Q E
def Wb5(C:Addr)(sp:Sp)(b:List V)(E:XK)(t:TA):TE:=λc H Q=>t c H λd H1=>∀x a,H1 x=none->H1 a=none->a≠x->
 sp (.ref x::(d++b)) (upd (upd H1 a (.own x)) x (.ins C a [])) (λv H2=>v=.non/\Q (.ref x) H2) E
def Binds(K:Ah)(b:Jl)(ps:List Str)(ds:List Value):Prop:=
 ∀(s:Shared) (a:List Value),K.In s.heap->(a++ds).length=⇑ps->Xd s b #[a,[]] (ps.zip (a++ds))
def Binds.all{K:Ah}{a:Jl}{ps:List Str}(h:∀us:List Value,⇑us=⇑ps->U4 a #[us,[]]=pure (ps.zip us)):Binds K a ps []:=λs us _ b=>by
 rw[Co]at b ⊢;show .of_eq (h us b)
def Yc(CX:CXT)(X:Cx)(E:XK):Prop:=∀(a:List (Addr×Obj)) (c:St) (H:Hp) (s:Shared) (e:Value) (b:Shared),Inv X a c H s->CX X.stack H s E e b->X.xe e b
section
variable {X:Cx} {CX:CXT} {k:Nat} {f C:Addr} {fd:Jl} {ps:List Str} {sp:Sp} {dvs:List V} {ds:List Value} {E:XK} {x m:Str} {p pos apos:Pos} {e o:Expr} {es:List Expr} {ta:TE} {t:TA}
theorem Jjn(F:Yd X.prog X.w X.K X.mg X.base CX k f fd ps sp)(g:Xp k X.A)(hb:Binds X.K fd ps ds)(hd:Vals dvs ds)(i:Yc CX X E)
  (I:Inv X a c H s)(r:Vals vs us)(h:sp (vs++dvs) H Q E):wpAny (model X.prog X.w) X.A (call (.ref f) us) (EP X a c Q) X.xe s:=by
 let d:Vals (vs++dvs) (us++ds):=r.append hd;let j:(us++ds).length=⇑ps:=by rw[<-⇑d];show F.len _ _ _ _ h
 show V8 (G5 (F.run X.A X.stack s H #[us,[]] (us++ds) (vs++dvs) Q E g I.env0 (hb s us I.kIn j) d h) λr l b=>?_);cases r with
 |error e=>show i a c H s e l I b
 |ok n=>
  cases n with
  |ret u=>show I.after b
  |next=>show Bm b
  |brk=>show Bm b
  |cont=>show Bm b
def Juh(F:Yd X.prog X.w X.K X.mg X.base CX k f fd ps sp)(g:Xp k X.A)(i:Gl X x)(j:X.mg x=-(.ref f))(l:Ek X.K (.ref f)=true)(hb:Binds X.K fd ps ds)(hd:Vals dvs ds)(n:Yc CX X E)
  (u:PA X (e::es) t)(b:(x==("__debug__":Str))=false)(v:Cd (e::es) X.env=(false,eval e X.env)::Cd es X.env)(c:(Gs pos (Cd es X.env)).any (·.1)=false):
  PE X (.Call (.Name x p) (e::es) [] pos) (Z9 sp dvs E t):=by
 intro a s w H Q I h;show Iz (Jf2 I i j ?_ b);show R0 (h₀:=X.base) I.ok.mod.kin l (thn (u pos a s w H _ I h) λy z #[A,H1,d,r,q]=>#[d.kIn,?_]) v c;show Jjn F g hb hd n d r q
def Jpf(F:Yd X.prog X.w X.K X.mg X.base CX k f fd ps sp)(c:Xp k X.A)(d:Gl X x)(g:X.mg x=-(.ref f))(i:Ek X.K (.ref f)=true)(hb:Binds X.K fd ps ds)(hd:Vals dvs ds)(j:Yc CX X E)
  (a:(x==("__debug__":Str))=false):PE X (.Call (.Name x p) [] [] pos) (Z9 sp dvs E Z6):=by
 intro b s l H Q I h;show Iz (Jf2 I d g ?_ a);show L7 I.kIn i (Jjn (us:=[]) F c hb hd j I .nil h)
def Jue(y:PE X o ta)(c:Cls X.K C)(i:Meth X.K C m f)(F:Yd X.prog X.w X.K X.mg X.base CX k f fd ps sp)(z:Xp k X.A)(hb:Binds X.K fd ps ds)(hd:Vals dvs ds)(A:Yc CX X E)(J:PA X (e::es) t)
  (d:Cd (e::es) X.env=(false,eval e X.env)::Cd es X.env)(g:(Gs pos (Cd es X.env)).any (·.1)=false)
  (L:eval (.Call (.Attribute o m apos) (e::es) [] pos) X.env=(do
   let j<-eval o X.env
   O8 apos.atName
   let(f,first)<-holding [j] (getMethod j m pl)
   callWith pos f first (Gs pos (Cd (e::es) X.env)) (Pd pos (Lk [] X.env)))):
  PE X (.Call (.Attribute o m apos) (e::es) [] pos) (Z7 C m sp dvs E ta t):=by
 intro b s n H Q I h;show Qn (pl:=pl) (thn (y b s n H _ I h) λu N U=>?_) L;let(x,H1,v,rx,a,dx,fs,Y,ea,l,q):=U;subst Y;obtain rfl:u=Ax a:=rx;show Je5 v ea c i l ?_;show R0 (first:=[.ref a]) (h₀:=X.base) I.ok.mod.kin i.kp (thn (J pos b N n H1 _ v q) λus s2 #[vs,H2,w,r,q2]=>#[w.kIn,?_]) d g;show Jjn (us:=.ref a::us) (vs:=.ref a::vs) F z hb hd A w (.cons rfl r) q2
def Jo7(j:PE X o ta)(c:Cls X.K C)(g:Meth X.K C m f)(F:Yd X.prog X.w X.K X.mg X.base CX k f fd ps sp)(n:Xp k X.A)(hb:Binds X.K fd ps ds)(hd:Vals dvs ds)(r:Yc CX X E)
  (v:eval (.Call (.Attribute o m apos) [] [] pos) X.env=(do
   let i<-eval o X.env
   O8 apos.atName
   let(f,first)<-holding [i] (getMethod i m pl)
   callWith pos f first (Gs pos (Cd [] X.env)) (Pd pos (Lk [] X.env)))):
  PE X (.Call (.Attribute o m apos) [] [] pos) (Z7 C m sp dvs E ta Z6):=by
 intro b s w H Q I h;show Qn (pl:=pl) (thn (j b s w H _ I h) λu J y=>?_) v;let(x,H1,d,rx,a,L,N,z,A,l,q):=y;subst z;obtain rfl:u=Ax a:=rx;show Je5 d A c g l ?_;show L7 (first:=[.ref a]) d.kIn g.kp (Jjn (us:=[.ref a]) (vs:=[.ref a]) F n hb hd r d (.cons rfl .nil) q)
structure Mk(K:Ah)(C f:Addr):Prop where
 makes:N7 K C=true
 init:D7 K (.ref C) "__init__"=-(-(.ref f))
 fn:M2 K (.ref f)=true
 kp:Ek K (.ref C)=true
theorem Jot(M:Mk X.K C f)(F:Yd X.prog X.w X.K X.mg X.base CX k f fd ps sp)(l:Xp (k+1) X.A)(hb:Binds X.K fd ps ds)(hd:Vals dvs ds)
  (n:Yc CX X E)(I:Inv X b g H s)(r:Vals vs us)
  (h:∀x c,H x=none->H c=none->c≠x->sp (.ref x::(vs++dvs)) (upd (upd H c (.own x)) x (.ins C c [])) (λv H2=>v=.non/\Q (.ref x) H2) E):
  wpAny (model X.prog X.w) X.A (call (.ref C) us) (EP X b g Q) X.xe s:=by
 let i:=h (↥s+1) ↥s (I.hok.fresh (Mu _)) (I.hok.fresh (Aj _)) (A5 (Eb _));let d:=Inv.made (C:=C) I;let j:Vals (V.ref (↥s+1)::(vs++dvs)) (Ax (↥s+1)::(us++ds)):=.cons rfl (r.append hd);let w:(Ax (↥s+1)::us++ds).length=⇑ps:=by
  let e:=⇑j;rw[F.len _ _ _ _ i]at e;show e.symm
 show V8 (Jpl (f:=f) I.kIn M.makes M.init (beq_iff_eq.1 M.fn) (G5 (F.run _ X.stack _ _ #[Ax (↥s+1)::us,[]] (Ax (↥s+1)::(us++ds)) _ _ E (l.make C us [])
  (d.env0.make C us []) (hb _ (Ax (↥s+1)::us) d.kIn w) j i) λr y a=>?_))
 cases r with
 |error e=>show n b g _ _ e y d a
 |ok z=>
  cases z with
  |ret u=>
   let(v,A,J,L,N,U):=d.after a;subst N;exists L,#[V.ref (↥s+1),A,J,rfl,U]
  |next=>show Bm a
  |brk=>show Bm a
  |cont=>show Bm a
def Jo8(M:Mk X.K C f)(F:Yd X.prog X.w X.K X.mg X.base CX k f fd ps sp)(c:Xp (k+1) X.A)(d:Gl X x)(g:X.mg x=-(.ref C))(hb:Binds X.K fd ps ds)(hd:Vals dvs ds)(i:Yc CX X E)
  (a:(x==("__debug__":Str))=false):PE X (.Call (.Name x p) [] [] pos) (Wb5 C sp dvs E Z6):=by
 intro b s j H Q I h;show Iz (Jf2 I d g ?_ a);show L7 I.kIn M.kp (Jot (us:=[]) M F c hb hd i I .nil h)
end
section
variable {X:Cx} {CX:CXT} {k:Nat} {f C:Addr} {fd:Jl} {ps ks:List Str} {sp:Sp} {E:XK} {x m:Str} {p pos apos kpos:Pos} {e o:Expr} {es:List Expr} {kws:List W8} {te ta:TE} {t tk:TA} {nm:Option Str}
variable {g:List Value->List Value->List Value} {gV:List V->List V->List V}
end
structure X4(N P:List Str)(sc:Kb):Prop where
 kind:sc.kind=.function
 co:sc.isCoroutine=false
 gen:sc.isGenerator=false
 nd:N.Nodup
 pre:N.take ⇑P=P
 par:∀x∈P,sc.names.lookup x=-.local\/sc.names.lookup x=-.cell
 nofree:∀y∈sc.names,y.2≠ .free
theorem Jhw{kindOf:Str->Option Ga}:∀{a:List (Str×Value)} {m:Str->Option Value},(∀v,(x,v)∉a)->Ts kindOf a m x=m x
 |[],_,_=>rfl
 |(n,v)::r,m,h=>by
  unfold Ts;rw[Jhw λw b=>h w (A7 _ b)];split
  .let:x≠n:=by rintro rfl;show h v B1
   simp[this]
  .rfl
theorem Jhy{kindOf:Str->Option Ga}:∀{a:List (Str×Value)} {m:Str->Option Value},(∀v,(x,v)∉a)->Tt kindOf a m x=m x
 |[],_,_=>rfl
 |(n,v)::r,m,h=>by
  unfold Tt;rw[Jhy λw b=>h w (A7 _ b)];split
  .rfl
  .let:x≠n:=by rintro rfl;show h v B1
   simp[this]
theorem Jhx{kindOf:Str->Option Ga}:∀{P:List Str} {vs:List Value} {i:Nat} {m:Str->Option Value},P.Nodup->P[i]? =-x->vs[i]? =-v->kindOf x=-.local->
  Ts kindOf (P.zip vs) m x=-v
 |[],_,_,_,_,h,_,_=>by simp at h
 |_::_,[],_,_,_,_,h,_=>by simp at h
 |p::P,w::vs,0,m,c,a,b,d=>by
  simp at a b;subst a;subst b;change Ts kindOf ((p,w)::P.zip vs) m p=_;unfold Ts;rw[Jhw λv e=>(C3.1 c).1 (O5 e).1,if_pos d];simp
 |p::P,w::vs,i+1,m,c,a,b,d=>by
  change Ts kindOf ((p,w)::P.zip vs) m x=_;unfold Ts;show Jhx (i:=i) (C3.1 c).2 (by erw[a]) (by erw[b]) d
theorem Jhz{kindOf:Str->Option Ga}:∀{P:List Str} {vs:List Value} {i:Nat} {m:Str->Option Value},P.Nodup->P[i]? =-x->vs[i]? =-v->kindOf x≠some .local->
  Tt kindOf (P.zip vs) m x=-v
 |[],_,_,_,_,h,_,_=>by simp at h
 |_::_,[],_,_,_,_,h,_=>by simp at h
 |p::P,w::vs,0,m,c,a,b,d=>by
  simp at a b;subst a;subst b;change Tt kindOf ((p,w)::P.zip vs) m p=_;unfold Tt;rw[Jhy λv e=>(C3.1 c).1 (O5 e).1,if_neg d];simp
 |p::P,w::vs,i+1,m,c,a,b,d=>by
  change Tt kindOf ((p,w)::P.zip vs) m x=_;unfold Tt;show Jhz (i:=i) (C3.1 c).2 (by erw[a]) (by erw[b]) d
noncomputable def start(N:List Str)(vs:List V):St:=vs.map some++Gh (⇑N-⇑vs) none
noncomputable def Z5(CX:CXT)(P:Program)(w:World)(K:Ah)(mg:Str->Option Value)(base:Heap)(N:List Str)(b:Str)(a:Kb)(f:Addr)(cd:Value)(A:Bo)(outer:List Env)(s:Shared)(H:Hp)(E:XK):Cx where
 prog:=P
 w:=w
 K:=K
 mg:=mg
 base:=base
 A:=A.deeper (Ou b a ↥s f cd)
 N:=N
 s₀:=s
 H₀:=H
 env:=Ou b a ↥s f cd
 outer:=outer
 stack:=Ou b a ↥s f cd::outer
 ex:=[]
 calm:=true
 fn:=λ_=>true
 pn:=[]
 xe:=λe d=>wpAny (model P w) (A.deeper (Ou b a ↥s f cd)) (leaving (Ou b a ↥s f cd) e) (λ_ c=>CX outer H s E e c) (λg c=>CX outer H s E g c) d
def Jkb{a:Kb}(h:a.names.lookup x=-.cell):∃c,(cellsFrom n a.names []).lookup x=-c:=by
 let q:=Qc a.names n [] (.inl h);show Cz.1 q
def Jm8{CX:CXT}{P:Program}{w:World}{K:Ah}{mg:Str->Option Value}{base:Heap}{N ps:List Str}{j:Str}{d:Kb}{f:Addr}{cd:Value}{A:Bo}{g:List Env}{s I:Shared}{H:Hp}{E:XK}{us:List Value}{vs:List V}
  (S:X4 N ps d)(hd:A.handled=none)(e0:Zr P w K mg base A g s H)(hl:⇑vs=⇑ps)(r:Vals vs us)
  (x:InCallC s ↥s (Ts (Ou j d ↥s f cd).kindOf (ps.zip us) λ_=>none) (cellsFrom (↥s+1) d.names []) (Tt (Ou j d ↥s f cd).kindOf (ps.zip us) λ_=>none) I):
  Inv (Z5 CX P w K mg base N j d f cd A g s H E) [] (start N vs) H I:=by
 let Q:⇑ps<=⇑N:=by let:=congrArg D9 S.pre;rw[Gi]at this;lia
 let(t,tk,rfl,J):=x.done;let m:∀b:Addr,b∉(Z5 CX P w K mg base N j d f cd A g s H E).ex:=λb z=>absurd (show b∈([]:List Addr)from z) 's';exists#[e0.mod,S.kind,rfl,rfl,Aj _,λy z c t l=>?_,λy hy=>?_,λy c _ h=>?_,λ_=>hd,Around.frames_deeper e0.frames,.inr #[rfl,rfl],λb z=>absurd z (m b),e0.bs,e0.bsz,λb _ _=>m b,λb z=>absurd z (m b),e0.funs,e0.frf],
  rfl,e0.bare,Un.kept J,#[_,x.toInCall.ns,λi y v t l h3=>?_],λy c h=>#[_,x.cell y c h],e0.hok.fresh (Aj _),λy c h=>?_,λp hp=>absurd (show p∈([]:List (Addr×Obj))from hp) 's',e0.hok.kept J,?_
 .show name_of_addr x.apart (E7 t) (E7 l)
 .let hy:d.names.lookup y=-.cell\/d.names.lookup y=-.free:=hy;rcases hy with hy|hy
  .show Jkb hy
  .show absurd rfl (S.nofree _ (E7 hy))
 .show E2 (x.above y c (E7 h))
 .let C:i<⇑vs:=by
   unfold start at l
   by_cases C:i<⇑vs
   .show C
   .rw[Au (by erw[C])]at l;rw[Gj]at l;split at l<;>cases l
  let U:vs[i]? =-v:=by
   unfold start at l;rw[A0 (by erw[C]),Ao]at l;cases e:vs[i]? with
   |none=>rw[e]at l;cases l
   |some a=>rw[e]at l;cases l;rfl
  let(u,L,Y):=r.get U;let hp:ps[i]? =-y:=by
   rw[<-S.pre,F7 'l'];show t
  let o:ps.Nodup:=by rw[<-S.pre];show S.nd.sublist (G8 _ _)
  exists u,Y,?_;rcases S.par y (As hp)with k|k
  .show .inl #[k,Jhx o hp L k]
  .let(c,e):=Jkb (n:=↥s+1) k;show .inr #[.inl k,c,e,?_];let q:=x.cell y c e;rw[Jhz o hp L (by change d.names.lookup y≠_;rw[k];decide)]at q;show q
 .show e0.hok.fresh (E2 (x.above y c (E7 h)))
 .unfold start;change _=⇑N;rw[Al,Ag,Je]
  lia
theorem J0s{CX:CXT}{P:Program}{w:World}{K:Ah}{mg:Str->Option Value}{base:Heap}{k:Nat}{f:Addr}{name d:Str}{h:Arguments}{i:List Stmt}{a:Kb}{dV kV z pm g ct oc:Value}{an od:Option Addr}
  {Y:Array (Option Value)}{N ps:List Str}{sp:Sp}(lk:K.lookup f=-#[oc,od,.func (Gk name d h i a dV kV z pm an g ct),Y])(hcd:I8 K g d=true)(S:X4 N ps a)
  (C:∀vs H Q E,sp vs H Q E->⇑vs=⇑ps)
  (l:∀(A:Bo) (c:List Env) (s:Shared) (H:Hp) (vs:List V) (Q:VK) (E:XK),Xp k (A.deeper (Ou d a ↥s f g))->sp vs H Q E->
   ∃t,PSs (Z5 CX P w K mg base N d a f g A c s H E) i t/\t {nx:=λ_ H'=>Q .non H',rt:=Q} (start N vs) H):
  Yd P w K mg base CX (k+1) f (Gk name d h i a dV kV z pm an g ct) ps sp:=by
 exists C,λA c s H args us vs Q E hr L hb r U=>?_;let hl:=C _ _ _ _ U;let KX:K.In s.heap:=L.mod.kin.keeps λb o e=>(L.bs b o e).1;let lim:s.heap.NoLimit:=L.mod.nolimit.keeps λb o e=>(L.bs b o e).1;let m:∀y∈ps.zip us,a.names.lookup y.1=-.local\/(a.names.lookup y.1=-.cell/\((cellsFrom (↥s+1) a.names []).lookup y.1).isSome=true):=λ#[n,v] hy=>by
  rcases S.par n (O5 hy).1 with q|q
  .show .inl q
  .show .inr #[q,Qc _ _ _ (.inl q)]
 show codeAny_call_function hr.depth (KX _ _ lk) rfl S.co S.gen rfl (PySem.W.codeRec_of KX hcd) (hb _ _ _ _ ?_);show wpAny_newFunctionEnv_cells S.kind m λenv he s1 x=>?_;subst he;exists lim.keeps x.toInCall.keep,codeAny_func ?_;let(t,ht,hq):=l A c s H vs Q E (hr.deeper _) U;let I:Inv (Z5 CX P w K mg base N d a f g A c s H E) [] (start N vs) H s1:=Jm8 S hr.hd L hl r x;show Cu (ht [] s1 (start N vs) H _ I hq) (λfl s' p=>?_) λe s' p=>p;let fin:∀{j:St} {H':Hp} {v:V} {u:Value},Inv (Z5 CX P w K mg base N d a f g A c s H E) [] j H' s'->RelV v u->Q v H'->CE c P w H s Q u s':=
  λ{j H' v u} J rv q=>#[v,H',J.os,J.bare,J.base,J.hok,rv,q]
 cases fl with
 |ret u=>
  let(v,j,H',J,rv,q):=p;show fin J rv q
 |next=>
  let(j,H',J,q):=p;show fin (v:=V.non) (u:=C7) J rfl q
 |brk=>
  let(_,_,_,q):=p;show Bm q
 |cont=>
  let(_,_,_,q):=p;show Bm q
section
variable {X:Cx} {x:Str} {p pos:Pos} {e:Expr} {es:List Expr} {t:TA} {id T:String} {r:List V->Hp->VK->Prop}
def tCB(r:List V->Hp->VK->Prop)(t:TA):TE:=λa H Q=>t a H λb H1=>r b H1 Q
def Jjq(hc:Xs X (.builtin id) r)(f:Gl X x)(g:X.mg x=none)(i:Dy x=-(.builtin id))(j:PA X (e::es) t)(k:x≠"__name__")(b:(x==("__debug__":Str))=false)
  (l:Cd (e::es) X.env=(false,eval e X.env)::Cd es X.env)(c:(Gs pos (Cd es X.env)).any (·.1)=false):PE X (.Call (.Name x p) (e::es) [] pos) (tCB r t):=by
 intro a s d H Q I h;show Iz (Jbu I f g i ?_ k b);show Ie (thn (j pos a s d H _ I h) λm n #[o,H1,u,v,w]=>hc a n d H1 o m Q u v w) l c
def Jmg(hc:Xs X (.type T) r)(f:Gl X x)(g:X.mg x=none)(i:Dy x=-(.type T))(j:PA X (e::es) t)(k:x≠"__name__")(b:(x==("__debug__":Str))=false)
  (l:Cd (e::es) X.env=(false,eval e X.env)::Cd es X.env)(c:(Gs pos (Cd es X.env)).any (·.1)=false):PE X (.Call (.Name x p) (e::es) [] pos) (tCB r t):=by
 intro a s d H Q I h;show Iz (Jbu I f g i ?_ k b);show Dc (thn (j pos a s d H _ I h) λm n #[o,H1,u,v,w]=>hc a n d H1 o m Q u v w) l c
end
end L2
namespace HT
open PySem PyProof.Rows
section
open PySem.SeqAt
open PySem.AutoSeq1 (wpAny_loadPart')
open PySem.MeetsSeq PySem.MeetsSeq2 PySem.MeetsSeq3
end
section
variable {prog:Program} {w:World} {A:Bo} {E:Value->Shared->Prop} {s:Shared}
def Jvp{vs a:List Value}{Q:Value->Shared->Prop}(o:IsTup s.heap t vs.toArray)(hb:IsTup s.heap b a.toArray)(k:vs≠[])
  (p:a=[]->Q (.ref t) s)(r:a≠[]->Q (.ref ↥s) {s with heap:=s.heap.push {cls:=.type "tuple",data:=.seq (vs++a).toArray}})
  (hsz:⇑vs+⇑a<=sizeLine):wpAny (model prog w) A (Hc .Add (.ref t) (.ref b)) Q E s:=by
 obtain⟨⟨cls,dd,data,sl⟩,i,hc,n,hd⟩:=id o;obtain⟨⟨l,d,data2,f⟩,c,g,m,h⟩:=id hb;simp only at hc hd g h;subst hc hd g h;let e:vs.toArray++a.toArray=(vs++a).toArray:=by simp
 by_cases j:a=[]
 .show Nj #[_,i,rfl] #[_,c,rfl] N5 Qa K9 Ku (Km _ _)
   (tuple_addW1 t b vs.toArray a.toArray n m dd d sl f (by erw[k]) (by simp[j])) #[i,c,p j]
 .show Nj #[_,i,rfl] #[_,c,rfl] N5 Qa K9 Ku (Km _ _)
   (tuple_addW2 t b vs.toArray a.toArray n m dd d sl f (by erw[k]) (by erw[j]) (by rw[Aw,Aw];show hsz)) #[i,c,?_]
  rw[e];show r j
noncomputable def sIx(n d:Nat):Option Int->Nat
 |none=>d
 |some v=>if v<0 then(v+(n:Int)).toNat else min v.toNat n
theorem Jwq(n d:Nat)(hd:d<=n)(o:Option Int):sIx n d o<=n:=by
 cases o with
 |none=>show hd
 |some v=>
  change(if v<0 then(v+(n:Int)).toNat else min v.toNat n)<=n
  by_cases a:v<0
  .rw[if_pos a];lia
  .rw[if_neg a];show Nat.min_le_right _ _
def Jnv(v:Int)(n d:Nat):(if v<0 then max (v+(n:Int)) 0 else min v (n:Int))=((sIx n d (-v):Nat):Int):=by
 change(if v<0 then max (v+(n:Int)) 0 else min v (n:Int))=(((if v<0 then(v+(n:Int)).toNat else min v.toNat n):Nat):Int)
 by_cases a:v<0
 .simp only[if_pos a];lia
 .simp only[if_neg a];lia
def Jlb(lo a:Option Int)(n:Nat):Jm lo a 1 (n:Int)=(((sIx n 0 lo:Nat):Int),((sIx n n a:Nat):Int)):=by
 let b:¬((1:Int)<0):=by lia
 unfold Jm;simp only[b,if_false];show N1 ?_ ?_
 .cases lo with
  |none=>rfl
  |some v=>show Jnv v n 0
 .cases a with
  |none=>rfl
  |some v=>show Jnv v n n
def Jkr(i j:Nat):Gw (i:Int) (j:Int) 1=j-i:=by
 unfold Gw;let a:(1:Int)>0:=by lia
 simp only[a,if_true,Int.ediv_one];split<;>lia
theorem Jey{Q:Option Int->Shared->Prop}(p:Nn v o)(h:Q o s):wpAny (model prog w) A (Builtin.Slice.slicePartIndex v) Q E s:=by
 cases p with
 |none=>show slicePart_none h
 |int i t=>show slicePart_int h
def Jbo{sl:Addr}{d e:Value}{lo a:Option Int}{n:Nat}{Q:Int×Int×Nat->Shared->Prop}(hs:s.heap.IsSliceOf sl d e .none)(pl:Nn d lo)(f:Nn e a)
  (h:Q (((sIx n 0 lo:Nat):Int),1,sIx n n a-sIx n 0 lo) s):wpAny (model prog w) A (M5 (.ref sl) (pure (n:Int))) Q E s:=by
 let(os,b,g,c):=id hs;unfold M5 Builtin.Slice.sliceFields;show Aa (Aa (Cv b c (x:=d) rfl (Aa (Cv b c (x:=e) rfl (Aa (Cv b c (x:=.none) rfl (Ab ?_)))))));show Aa (slicePart_none ?_);change wpAny _ _ (if((1:Int)==0)=true then _ else _) _ _ s;rw[if_neg 'd'];show Aa (Jey pl (Aa (Jey f (Aa (Ab ?_)))));change wpAny _ _ (match Jm lo a 1 (n:Int)with|(lo,a)=>pure (lo,(1:Int),Gw lo a 1)) _ _ s;rw[Jlb lo a n];change wpAny _ _ (pure (((sIx n 0 lo:Nat):Int),(1:Int),Gw ((sIx n 0 lo:Nat):Int) ((sIx n n a:Nat):Int) 1)) _ _ s;rw[Jkr];show Ab h
def Jo3(xs:Array Value)(i k:Nat):((Bz k).filterMap λ(m:Nat)=>xs[((i:Int)+(m:Int)*1).toNat]?).toArray=((xs.toList.drop i).take k).toArray:=by
 let e:(λ(m:Nat)=>xs[((i:Int)+(m:Int)*1).toNat]?)=λm=>xs[i+m]? :=by
  funext m;let:((i:Int)+(m:Int)*1).toNat=i+m:=by lia
  rw[this]
 rw[e];let:=pick_run xs i k;rw[List.filterMap_map]at this;let a:((λx=>xs[x]?)∘λx=>i+x)=λm=>xs[i+m]? :=rfl;rw[a]at this;rw[this]
def Jcu{t sl:Addr}{a:Array Value}{j k:Value}{lo c:Option Int}{Q:Value->Shared->Prop}(d:IsTup s.heap t a)(hs:s.heap.IsSliceOf sl j k .none)(pl:Nn j lo)(l:Nn k c)
  (n:¬(sIx a.size 0 lo=0/\sIx a.size a.size c=a.size))
  (h:Q (.ref ↥s) {s with heap:=s.heap.push {cls:=.type "tuple",data:=.seq ((a.toList.drop (sIx a.size 0 lo)).take (sIx a.size a.size c-sIx a.size 0 lo)).toArray}})
  (hsz:a.size<=sizeLine):wpAny (model prog w) A (Mq (.ref t) (.ref sl)) Q E s:=by
 let b:sizeOk (.seq ((a.toList.drop (sIx a.size 0 lo)).take (sIx a.size a.size c-sIx a.size 0 lo)).toArray):=by
  change((a.toList.drop (sIx a.size 0 lo)).take (sIx a.size a.size c-sIx a.size 0 lo)).toArray.size<=sizeLine;rw[Aw,Gi,Jg,Br];omega
 let p:sIx a.size a.size c<=a.size:=Jwq _ _ (Aj _) c;let(os,e,f,o):=id hs;let g:s.TypeIs (.ref sl) "slice":=#[os,e,f]
 unfold Mq
 try with_reducible show Bt ?_
 first|show Aa (Ab ?_)|skip
 show Aa (Wy d.typeIs 'd' ?_);show Aa (B9 (name:=Ac "__getitem__") d.typeIs C1
  (Bq C1 d.typeIs Vn ?_ (Wr _ _)))
 change wpAny _ _ (Jd (.ref t)>>=_) _ _ s;show Aa (Oh d ?_);show Aa (G4 g ?_);rw[if_pos 'd'];show Aa (Jbo hs pl l ?_);let i:¬((((sIx a.size 0 lo:Nat):Int)==0&&(1:Int)==1&&(sIx a.size a.size c-sIx a.size 0 lo)==a.size)=true):=by
  intro q;rw[Am,Am]at q;let r:((sIx a.size 0 lo:Nat):Int)=0:=eq_of_beq q.1.1;let u:sIx a.size a.size c-sIx a.size 0 lo=a.size:=eq_of_beq q.2;show n #[by omega,by omega]
 change wpAny _ _ (if(((sIx a.size 0 lo:Nat):Int)==0&&(1:Int)==1&&(sIx a.size a.size c-sIx a.size 0 lo)==a.size)=true then _ else _) _ _ s;rw[if_neg i,Jo3]
 first
  |show Aa (m:=G7 _) (B5 (Ab #[_,rfl,Ab h]) b)
  |show Aa (m:=G7 _) (B5 (Aa (Ab (Ab #[_,rfl,Ab h]))) b)
  |show Aa (Aa (m:=G7 _) (B5 (Ab (Ab #[_,rfl,Ab h])) b))
  |show Aa (Aa (m:=G7 _) (B5 (Ab #[_,rfl,Ab h]) b))
end
end HT
namespace L2
open PySem PySem.Spec PyProof.Rows
abbrev TO:=St->Hp->(Option Int->Hp->Prop)->Prop
def PO(X:Cx)(e:Option Expr)(t:TO):Prop:=
 ∀(a:List (Addr×Obj)) (s:Shared) (b:St) (H:Hp) (Q:Option Int->Hp->Prop),Inv X a b H s->t b H Q->
  wpAny (model X.prog X.w) X.A (evalPart e X.env) (λu d=>∃o c,Inv X a b c d/\Nn u o/\Q o c) X.xe s
def Was:TO:=λ_ H Q=>Q none H
def Wb3(t:TE):TO:=λa H Q=>t a H λx H1=>∃i,x=.int i/\Q (-i) H1
section
variable {X:Cx} {e:Expr} {te:TE} {lo hi:Option Expr} {tl th:TO} {pos p2:Pos}
def Jt5:PO X none Was:=by
 intro a s b H Q I h;rw[evalPart_none];show Ab #[none,H,I,.none,h]
def Jt4(h:PE X e te):PO X (-e) (Wb3 te):=by
 intro a s b H Q I c;rw[evalPart_some];show thn (h a s b H _ I c) λu j #[x,H1,d,f,g]=>?_;let(i,rfl,q):=g;let(t,rfl):=f;exists some i,H1,d,.int i t,q
def SlR(X:Cx)(r:V->Option Int->Option Int->Hp->VK->Prop):Prop:=
 ∀(a:List (Addr×Obj)) (s:Shared) (b:St) (H:Hp) (x:V) (v c d:Value) (lo hi:Option Int) (sl:Addr) (Q:VK),Inv X a b H s->RelV x v->s.heap.IsSliceOf sl c d .none->Nn c lo->Nn d hi->r x lo hi H Q->
  ∃T id,typeLookup (.type T) "__getitem__"=pure (-(.builtin id))/\s.TypeIs v T/\wpAny (model X.prog X.w) X.A (Mq v (.ref sl)) (EP X a b Q) X.xe s
def tSl(r:V->Option Int->Option Int->Hp->VK->Prop)(te:TE)(tl th:TO):TE:=λa H Q=>te a H λx H1=>tl a H1 λl H2=>th a H2 λu b=>r x l u b Q
def Jo6{r:V->Option Int->Option Int->Hp->VK->Prop}(j:SlR X r)(k:PE X e te)(m:PO X lo tl)(n:PO X hi th):PE X (.Subscript e (.Slice lo hi none p2) pos) (tSl r te tl th):=by
 intro a s d H Q I h;show Subscript_ (thn (k a s d H _ I h) λv o #[x,H1,p,t,w]=>?_);show wpAny_Slice (thn (m a o d H1 _ p w) λf y #[l,H2,z,pl,A]=>thn (n a y d H2 _ z A) λg c #[u,i,C,E,J]=>?_);rw[evalPart_none];show Ab ?_;let L:Inv X a d i {c with heap:=c.heap.push {cls:=.type "slice",data:=.fields (List.toArray [f,g,.none])}}:=C.kept (t':=c.toks) λb ob q=>Af _ q;let(T,id,N,U,Y):=j a {c with heap:=c.heap.push {cls:=.type "slice",data:=.fields (List.toArray [f,g,.none])}} d i x v f g l u ↥c Q L t (Xb ..) pl E J;change wpAny (model X.prog X.w) X.A (subscriptTail e (.Slice lo hi none p2) v (.ref ↥c)) (EP X a d Q) X.xe {c with heap:=c.heap.push {cls:=.type "slice",data:=.fields (List.toArray [f,g,.none])}};show M7 (ops:=[.ref ↥c,v]) U N Y (by with_unfolding_all rfl)
def Zl(xs:List V)(lo hi:Option Int):List V:=(xs.drop (HT.sIx ⇑xs 0 lo)).take (HT.sIx ⇑xs ⇑xs hi-HT.sIx ⇑xs 0 lo)
def Jeh(xs:List V)(lo hi:Option Int):(Zl xs lo hi).length<=⇑xs:=by
 unfold Zl;rw[Gi,Jg];omega
def Wdm(K:Ah):V->Option Int->Option Int->Hp->VK->Prop:=λx lo hi H Q=>∃a b,x=.ref a/\SqT K H a b/\
 ¬(HT.sIx ⇑b 0 lo=0/\HT.sIx ⇑b ⇑b hi=⇑b)/\∀p,H p=none->Q (.ref p) (upd H p (.tup (Zl b lo hi)))
def Jwm:SlR X (Wdm X.K):=by
 intro g s p H x v t u lo hi sl Q I rx k pl l h;let(a,d,rfl,m,n,q):=h;cases rx;let(f,r,i,j):=I.tuple m;let c:f.toArray.size=⇑d:=by rw[Aw];show r.length.symm
 exists"tuple",_,C1.lookup,i.typeIs,?_;show HT.Jcu i k pl l (by rw[c];show n) ?_ (by rw[c];show j);rw[c];exists .ref ↥s,_,I.laid (t':=s.toks) (o:=.tup (Zl d lo hi)) (λb w q=>Af _ q) (Aj _) ?_,rfl,q _ (I.hok.fresh (Aj _));exists B3 (Jeh d lo hi) j,_,(r.drop (HT.sIx ⇑d 0 lo)).take (HT.sIx ⇑d ⇑d hi-HT.sIx ⇑d 0 lo),Ug _ _
def Wcb(K:Ah):R2:=λx y H Q=>∃a b d c,x=.ref a/\y=.ref b/\SqT K H a d/\SqT K H b c/\d≠[]/\⇑d+⇑c<=sizeLine/\
 (c=[]->Q (.ref a) H)/\(c≠[]->∀p,H p=none->Q (.ref p) (upd H p (.tup (d++c))))
theorem Vals.nil_iff(r:Vals xs us):us=[]↔xs=[]:=by
 cases r with
 |nil=>simp
 |cons _ _=>simp
def Jum:OpR X (Hc .Add) (Wcb X.K):=by
 intro f s C H x y v u Q I rx j h;let(a,b,k,l,rfl,rfl,m,hb,n,g,p,r):=h;cases rx;cases j;let(t,d,A,_):=I.tuple m;let(i,c,p2,_):=I.tuple hb;show HT.Jvp A p2 (λz=>n (d.nil_iff.1 z)) (λz=>#[.ref a,H,I,rfl,p (c.nil_iff.1 z)]) (λz=>?_) (by rw[<-⇑d,<-⇑c];show g);exists .ref ↥s,_,I.laid (t':=s.toks) (o:=.tup (k++l)) (λb E q=>Af _ q) (Aj _) ?_,rfl,r (λw=>z (c.nil_iff.2 w)) _ (I.hok.fresh (Aj _));exists by rw[Al];show g,_,d.append c,Ug _ _
end
noncomputable def ixN(n:Nat)(i:Int):Option Nat:=if 0<=i then(if i<n then -i.toNat else none)else if -(n:Int)<=i then some (i+n).toNat else none
def atI{a:Type}(xs:List a)(i:Int):Option a:=(ixN ⇑xs i).bind λj=>xs[j]?
def Jm4(h:ixN n i=-j):seqIndex? i n=-j/\j<n/\ -(n:Int)<=i/\i<n:=by
 unfold ixN at h
 by_cases b:0<=i
 .rw[if_pos b]at h
  by_cases a:i<n
  .rw[if_pos a]at h;let e:i.toNat=j:=Bj h;exists by rw[U1 b a,e],by lia,by lia,a
  .rw[if_neg a]at h;cases h
 .rw[if_neg b]at h
  by_cases a: -(n:Int)<=i
  .rw[if_pos a]at h;let e:(i+n).toNat=j:=Bj h;exists by rw[seqIndex_neg 'l' a,e],by lia,a,by lia
  .rw[if_neg a]at h;cases h
theorem Jn7{a:Type}{xs:List a}{i:Int}{v:a}(h:atI xs i=-v):∃j,seqIndex? i ⇑xs=-j/\xs[j]? =-v/\j<⇑xs/\ -(⇑xs:Int)<=i/\i<⇑xs:=by
 unfold atI at h;cases e:ixN ⇑xs i with
 |none=>rw[e]at h;cases h
 |some j=>
  rw[e]at h;let(b,c,d,f):=Jm4 e;exists j,b,h,c,d,f
def Zz(b:Expr):Prop:=∀o i,subscripted b false o i=operate [o,i] (Mq o i)
def IxR(X:Cx)(r:R2):Prop:=
 ∀(c a:Expr) (b:List (Addr×Obj)) (s:Shared) (d:St) (H:Hp) (x y:V) (v u:Value) (Q:VK),Inv X b d H s->RelV x v->RelV y u->r x y H Q->
  subscripted a false v u=operate [v,u] (Mq v u)->wpAny (model X.prog X.w) X.A (subscriptTail c a v u) (EP X b d Q) X.xe s
def MtR(X:Cx)(id:String)(r:V->List V->Hp->VK->Prop):Prop:=
 ∀(a:List (Addr×Obj)) (s:Shared) (b:St) (H:Hp) (x:V) (c:List V) (v:Value) (d:List Value) (Q:VK),Inv X a b H s->RelV x v->Vals c d->r x c H Q->
  wpAny (model X.prog X.w) X.A (call (.builtin id) (v::d)) (EP X a b Q) X.xe s
section
variable {X:Cx} {a b:Expr} {ta tb:TE} {pos:Pos}
def Jz6(d:IxR X r)(e:PE X a ta)(hb:PE X b tb)(hs:Zz b):PE X (.Subscript a b pos) (tOp r ta tb):=by
 intro c s f H Q I h;show Subscript_ (Wbv e hb I h λv u g x y H2 i rx j q=>d a b c g f H2 x y v u Q i rx j q (hs _ _))
def Wdq(K:Ah):R2:=λx y H Q=>∃p c i v,x=.ref p/\y=.int i/\SqL K H p c/\atI c i=-v/\Q v H
def Wdp(K:Ah):R2:=λx y H Q=>∃p c i v,x=.ref p/\y=.int i/\SqT K H p c/\atI c i=-v/\Q v H
def Ju3:IxR X (Wdq X.K):=by
 intro e f c s m H x y v u Q I rx C h n;let(p,xs,i,z,rfl,rfl,E,J,q):=h;cases rx;let(t,rfl):=C;let(g,r,pl,hz):=I.list E;let(j,d,L,h3,N,U):=Jn7 J;let(w,o,k):=r.get L;let Y:=⇑r;let hn:=Jha;let fin:EP X c m Q w s:=#[z,H,I,k,q]
 by_cases A:0<=i
 .let l:i.toNat=j:=by
   rw[U1 A U]at d;show Bj d
  show item_listR pl.isList A 'l' (by rw[l];erw[o]) fin n
 .let l:(i+(g.toArray.size:Int)).toNat=j:=by
   rw[seqIndex_neg 'l' N]at d;rw[Aw,<-Y];show Bj d
  show Ue (x:=w) pl.isList.typeIs W1.lookup
   (wpAny_getItem_list_neg (Q:=λr s'=>r=w/\EP X c m Q r s') pl.isList 'l' (by rw[Aw]<;>lia) 'l' (by rw[l];erw[o]) #[rfl,fin]) n
def Jyh:IxR X (Wdp X.K):=by
 intro d e c s g H x y v u Q I rx k h l;let(p,N,i,z,rfl,rfl,m,n,q):=h;cases rx;let(t,rfl):=k;let(o,r,pl,U):=I.tuple m;let(j,A,C,Y,h4,h5):=Jn7 n;let(w,E,f):=r.get C;let J:=⇑r;let hn:=Jha;let fin:EP X c g Q w s:=#[z,H,I,f,q]
 show Ue (x:=w) pl.typeIs C1.lookup
  (getItem_tuple (j:=j) (Q:=λr L=>r=w/\EP X c g Q r L) pl 'l' 'l' (by rw[Aw,<-J];show A) (by erw[E]) #[rfl,fin]) l
def Jkt(its:List Value)(n j:Nat)(u:Value):El (·.setIfInBounds j u) {cls:=.type "list",data:=.seq its.toArray n}={cls:=.type "list",data:=.seq (its.set j u).toArray n}:=by
 simp[El]
inductive InvM (s:Shared) (p:Addr) (xs:List V):Prop
 |mk (its:List Value) (n:Nat) (_:Vals xs its) (_:s.heap.get? p=-{cls:=.type "list",data:=.seq its.toArray n}) (_:⇑xs<=sizeLine):InvM s p xs
def Inv.lst(I:Inv X pins σ H s)(h:H p=-(.lst xs)):InvM s p xs:=by
 let(z,d,n,r,e):=I.hok p _ h;exists d,n,r,e,z
def Inv.lstUpd{s:Shared}{ys:List V}{its its':List Value}{f:Obj->Obj}(I:Inv X pins σ H s)(h:H p=-(.lst xs))
  (g:s.heap.get? p=-{cls:=.type "list",data:=.seq its.toArray n})(d:f {cls:=.type "list",data:=.seq its.toArray n}={cls:=.type "list",data:=.seq its'.toArray n'})(r:Vals ys its')(hz:⇑ys<=sizeLine)(t:Nat):
  Inv X pins σ (upd H p (.lst ys)) {s with heap:=s.heap.update p f,toks:=t}:=by
 let e:(s.heap.update p f).get? p=-{cls:=.type "list",data:=.seq its'.toArray n'}:=by
  rw[Di f g (by rw[d]<;>rfl),d]
 show I.write (x:=p) (e:=p) (by rw[h];trivial) (.inl rfl) (λb u hb q=>(Fd _ _ (E9 hb)).trans q) #[_,e] ?_;exists hz,its',n',r,e
def Wca:V->V->V->Hp->(Hp->Prop)->Prop:=λo i v H Q=>∃p c k j,o=.ref p/\i=.int k/\H p=-(.lst c)/\ixN ⇑c k=-j/\Q (upd H p (.lst (c.set j v)))
def set_list:Wbw X Wca:=by
 intro c s z H o i v U Y u Q I A C E h;let(p,J,k,j,rfl,rfl,hp,L,q):=h;cases A;let(t,rfl):=C;let(d,n,r,f,N):=I.lst hp;let(e,h2,m,w):=Jm4 L;let g:=⇑r;let hn:=Jha;let x:Inv X c z (upd H p (.lst (J.set j v))) {s with heap:=s.heap.update p (El (·.setIfInBounds j u))}:=
  I.lstUpd hp f (Jkt d n j u) (r.set E j) (by rw[F1];show N) s.toks
 by_cases y:0<=k
 .let l:k.toNat=j:=by
   rw[U1 y w]at e;show Bj e
  show PySem.W.ki_setAt f y 'l' (by rw[Aw,<-g];show w) (by rw[l];exists _,x,q)
 .let l:(k+(d.toArray.size:Int)).toNat=j:=by
   rw[seqIndex_neg 'l' m]at e;rw[Aw,<-g];show Bj e
  show PySem.W.ki_setBack f 'l' (by rw[Aw,<-g];show m) 'l' (by rw[l];exists _,x,q)
def Jg4(lo c:Option Int)(n:Nat):(J2 lo c none n).1=((HT.sIx n 0 lo:Nat):Int)/\(J2 lo c none n).2.1=((HT.sIx n n c:Nat):Int)/\(J2 lo c none n).2.2=1:=by
 exists ?_,?_,rfl
 .cases lo with
  |none=>simp[J2,HT.sIx]
  |some i=>
   simp only[J2,HT.sIx,T4,show(1:Int)>0 by decide,if_true]
   by_cases h:i<0
   .simp only[h,if_true]<;>lia
   .simp only[h,if_false]<;>lia
 .cases c with
  |none=>simp[J2,HT.sIx]
  |some i=>
   simp only[J2,HT.sIx,T4,show(1:Int)>0 by decide,if_true]
   by_cases h:i<0
   .simp only[h,if_true]<;>lia
   .simp only[h,if_false]<;>lia
theorem Jfv(its:List Value)(lo c:Option Int):slicePick its.toArray lo c none=((its.drop (HT.sIx ⇑its 0 lo)).take (HT.sIx ⇑its ⇑its c-HT.sIx ⇑its 0 lo)).toArray:=by
 let(d,e,f):=Jg4 lo c its.toArray.size;unfold slicePick;rw[d,e,f];simp only[sliceRange_one,pick_run,Aw]<;>rfl
def Wdn(K:Ah):V->Option Int->Option Int->Hp->VK->Prop:=λx lo d H Q=>∃a c,x=.ref a/\SqL K H a c/\∀p,H p=none->Q (.ref p) (upd H p (.lst (Zl c lo d)))
def Jl0:SlR X (Wdn X.K):=by
 intro f s n H x v p t lo e sl Q I rx i pl j h;let(a,c,rfl,k,q):=h;cases rx;let(l,r,g,m):=I.list k;let d:=⇑r;exists"list",_,W1.lookup,g.isList.typeIs,?_;show wpAny_getItem_list_slice g.isList i pl j .none 's' ?_ (by rw[Aw]<;>lia);rw[Jfv,<-d];exists .ref ↥s,_,I.laid (t':=s.toks) (o:=.lst (Zl c lo e)) (λb u q=>Af _ q) (Aj _) ?_,rfl,q _ (I.hok.fresh (Aj _));exists B3 (Jeh c lo e) m,_,0,(r.drop (HT.sIx ⇑c 0 lo)).take (HT.sIx ⇑c ⇑c e-HT.sIx ⇑c 0 lo),Ak _ rfl
noncomputable def Y2:V->Bool
 |.non=>true
 |.bl _=>true
 |.int _=>true
 |.str _=>true
 |_=>false
noncomputable def eqV:V->V->Bool
 |.non,.non=>true
 |.bl a,.bl b=>a==b
 |.bl a,.int b=>(if a then 1 else 0)==b
 |.int a,.bl b=>a==(if b then 1 else 0)
 |.int a,.int b=>a==b
 |.str a,.str b=>a==b
 |_,_=>false
theorem Jyy(d:RelV y u)(rx:RelV x v)(e:Y2 y=true)(fx:Y2 x=true):Fo A s u v (eqV y x):=by
 cases y with
 |non=>
  cases d;cases x with
  |non=>cases rx;show Nb _
  |bl b=>cases rx;show SeqAt.EqAt.none_bool b
  |int b=>let(t,rfl):=rx;show SeqAt.EqAt.none_int b t
  |str b=>let(t,rfl):=rx;show SeqAt.EqAt.none_str b t
  |_=>show fx9 (show false=true from fx)
 |bl a=>
  cases d;cases x with
  |non=>cases rx;show SeqAt.EqAt.bool_none a
  |bl b=>cases rx;show SeqAt.EqAt.bool_bool a b
  |int b=>let(t,rfl):=rx;show SeqAt.EqAt.bool_int a b t
  |str b=>let(t,rfl):=rx;show SeqAt.EqAt.bool_str a b t
  |_=>show fx9 (show false=true from fx)
 |int a=>
  let(c,rfl):=d;cases x with
  |non=>cases rx;show SeqAt.EqAt.int_none a c
  |bl b=>cases rx;show SeqAt.EqAt.int_bool a c b
  |int b=>let(t,rfl):=rx;show SeqAt.EqAt.int_int a c b t
  |str b=>let(t,rfl):=rx;show Qq a c b t
  |_=>show fx9 (show false=true from fx)
 |str a=>
  let(c,rfl):=d;cases x with
  |non=>cases rx;show SeqAt.EqAt.str_none a c
  |bl b=>cases rx;show SeqAt.EqAt.str_bool a c b
  |int b=>let(t,rfl):=rx;show Qo a c b t
  |str b=>let(t,rfl):=rx;show SeqAt.EqAt.str_str a c b t
  |_=>show fx9 (show false=true from fx)
 |_=>show fx9 (show false=true from e)
def Jhr:Xs X (.builtin "len") (λxs H Q=>∃p ys,xs=[.ref p]/\(SqL X.K H p ys\/SqT X.K H p ys)/\Q (.int ⇑ys) H):=by
 intro f s i H xs j Q I r h;let(p,ys,rfl,hq,q):=h;let(u,rfl,rx):=vals1 r;cases rx;let k:=Jha;rcases hq with hq|hq
 .let(d,e,pl,g):=I.list hq;let c:=⇑e;show Calls.call_len_list pl.isList (by simp only[Aw]<;>lia) #[.int ⇑ys,H,I.tok _,#[s.toks+1,by rw[Aw,c]],q]
 .let(d,e,pl,g):=I.tuple hq;let c:=⇑e;show len_tuple pl (by simp only[Aw]<;>lia) #[.int ⇑ys,H,I.tok _,#[s.toks+1,by rw[Aw,c]],q]
def Jhq:Xs X (.type "list") (λxs H Q=>∃p ys,xs=[.ref p]/\(SqL X.K H p ys\/SqT X.K H p ys)/\∀l,H l=none->Q (.ref l) (upd H l (.lst ys))):=by
 intro i s w H xs x Q I r h;let(p,ys,rfl,hq,q):=h;let(u,rfl,rx):=vals1 r;cases rx;let fin:∀(c:List Value),Vals ys c->⇑ys<=sizeLine->∀(d:Heap) (f:Nat),(∀b v,s.heap.get? b=-v->d.get? b=-v)->
   d.get? ↥s=-{cls:=.type "list",dict:=none,data:=.seq c.toArray f,slots:= #[]}->EP X i w Q (.ref ↥s) {s with heap:=d}:=λc g j d f k e=>
  #[.ref ↥s,_,I.laid (t':=s.toks) k (Aj _) (show Xg X.prog X.w _ d _ (.lst ys)from#[j,c,f,g,e]),rfl,q _ (I.hok.fresh (Aj _))]
 rcases hq with hq|hq
 .let(c,g,pl,j):=I.list hq;let m:=⇑g;let(o,t,hc,n,hd):=pl.isList;show call_list_seq p (.inl rfl) t hc hd (λd f k e=>fin c g j d f k e) (by simp only[Aw]<;>lia)
 .let(c,g,pl,j):=I.tuple hq;let m:=⇑g;let(o,t,hc,n,hd):=pl;show call_list_seq p (.inr rfl) t hc hd (λd f k e=>fin c g j d f k e) (by simp only[Aw]<;>lia)
def Jgh:Xs X (.type "tuple") (λxs H Q=>∃p ys,xs=[.ref p]/\((SqL X.K H p ys/\∀l,H l=none->Q (.ref l) (upd H l (.tup ys)))\/(SqT X.K H p ys/\Q (.ref p) H))):=by
 intro c s j H xs w Q I r h;let(p,ys,rfl,h):=h;let(u,rfl,rx):=vals1 r;cases rx;rcases h with⟨g,q⟩|⟨g,q⟩
 .let(d,i,pl,k):=I.list g;let m:=⇑i;show call_tuple_list pl.isList (λf t=>?_) (by simp only[Aw]<;>lia);let n:Inv X c j H {s with heap:=f}:=I.kept (t':=s.toks) t;let v:Inv X c j (upd H f.objs.size (.tup ys)) {s with heap:=f.push {cls:=.type "tuple",data:=.seq d.toArray}}:=
   n.laid (t':=s.toks) (λb o e=>Af _ e) (Aj _) (show Xg X.prog X.w _ _ _ (.tup ys)from#[k,d,i,Ug _ _])
  exists .ref f.objs.size,_,v,rfl,q _ (n.hok.fresh (Aj _))
 .let(d,i,pl,k):=I.tuple g;show call_tuple_same pl #[.ref p,H,I,rfl,q]
variable {o e:Expr} {es:List Expr} {to:TE} {t:TA} {name:Str} {apos cpos:Pos} {T id:String} {r:V->List V->Hp->VK->Prop}
end
def MtM(X:Cx)(id:String)(r:V->List V->Hp->VK->Prop):Prop:=
 ∀(a:List (Addr×Obj)) (s:Shared) (b:St) (H:Hp) (x:V) (c:List V) (v:Value) (d:List Value) (Q:VK),Inv X a b H s->RelV x v->Vals c d->r x c H Q->
  wpAny (model X.prog X.w) X.A (call (.builtin id) (v::d)) (EP X a b Q) X.xe s
def Vals.one(h:Vals [x] us):∃u,us=[u]/\RelV x u:=by
 cases h with|cons r t=>cases t;exists _,rfl,r
theorem Vals.zero:∀{us:List Value},Vals [] us->us=[]
 |_,.nil=>rfl
theorem Vals.dropLast{xs:List V}{us:List Value}(h:Vals xs us):Vals xs.dropLast us.dropLast:=by
 induction h with
 |nil=>show .nil
 |cons r t a=>
  cases t with
  |nil=>show .nil
  |cons q b=>show .cons r a
theorem Jk6{c:Type}(l:List c):l.eraseIdx (⇑l-1)=l.dropLast:=by
 induction l with
 |nil=>rfl
 |cons a r d=>
  cases r with
  |nil=>rfl
  |cons b r=>
   have e:(a::b::r).length-1=((b::r).length-1)+1:=by
    let f:(a::b::r).length=⇑r+2:=rfl;let g:(b::r).length=⇑r+1:=rfl
    lia
   rw[e,Rc,d]
   all_goals rfl
section
variable {X:Cx} {pins:List (Addr×Obj)} {σ:St} {H:Hp} {s:Shared} {l b:Addr} {xs ys zs:List V}
def Inv.lset{its its':List Value}{f:Array Value->Array Value}(I:Inv X pins σ H s)(a:H l=-(.lst xs))
  (e:s.heap.get? l=-{cls:=.type "list",data:=.seq its.toArray n})(d:f its.toArray=its'.toArray)(g:Vals ys its')(hz:⇑ys<=sizeLine):
  Inv X pins σ (upd H l (.lst ys)) {s with heap:=s.heap.update l (El f),toks:=t'}:=by
 let q:=PySem.IsL.update e f;rw[d]at q;show I.write (x:=l) (e:=l) (by rw[a];show trivial) (.inl rfl) (λj u hb h=>(Fd s.heap (El f) (E9 hb)).trans h) #[_,q] ?_;exists hz,its',_,g,q
def Inv.lnew{its:List Value}(I:Inv X pins σ H s)(a:Vals ys its)(hz:⇑ys<=sizeLine):
  Inv X pins σ (upd H ↥s (.lst ys)) {s with heap:=s.heap.push {cls:=.type "list",data:=.seq its.toArray},toks:=t'}:=
 I.laid (λ_ _ q=>Af _ q) (Aj _) #[hz,its,0,a,Ak _ rfl]
def Inv.fresh(I:Inv X pins σ H s):H ↥s=none:=I.hok.fresh (Aj _)
def Inv.lstM(I:Inv X pins σ H s)(a:H l=-(.lst xs)):⇑xs<=sizeLine/\∃(its:List Value) (n:Nat),Vals xs its/\⇑xs=⇑its/\s.heap.get? l=-{cls:=.type "list",data:=.seq its.toArray n}:=by
 let(z,its,n,r,e):=I.hok l _ a;exists z,its,n,r,⇑r,e
end
section
variable {X:Cx}
def Wau:V->List V->Hp->VK->Prop:=λx b H Q=>∃l a y,x=.ref l/\b=[y]/\H l=-(.lst a)/\⇑a<sizeLine/\Q .non (upd H l (.lst (a++[y])))
def Jmo:MtM X "list.append" Wau:=by
 intro b s g H x i v j Q I rx d h;let(l,k,y,rfl,rfl,c,m,q):=h;cases rx;let(u,rfl,f):=d.one;let(z,a,n,r,o,e):=I.lstM c;show Rz R4 #[_,e,rfl] F.entry_list_append (F.args_list_append_2 _ _) (PySem.list_append l a.toArray n u (by rw[Aw];lia)) #[e,?_];exists .non,_,I.lset (its':=a++[u]) c e 's' (r.append (.cons f .nil)) ?_,rfl,q;rw[Al,Cm]
 lia
def Wdo:V->List V->Hp->VK->Prop:=λx b H Q=>∃l a y,x=.ref l/\b=[]/\H l=-(.lst a)/\a[⇑a-1]? =-y/\Q y (upd H l (.lst a.dropLast))
def Jx2:MtM X "list.pop" Wdo:=by
 intro d s o H x p v t Q I rx g h;let(l,w,y,rfl,rfl,f,i,q):=h;cases rx;let b:=g.zero;subst b;let(z,a,n,r,j,e):=I.lstM f;let(u,k,m):=r.get i;let c:a.toArray[a.toArray.size-1]? =-u:=by
  change a.toArray[⇑a-1]? =-u;rw[<-Bs,<-j];show k
 show Rz Tx #[_,e,rfl] F.entry_list_pop (F.args_list_pop_1 _) (MeetsSeq.list_pop_last l a.toArray n u c (by rw[Aw];omega)) #[e,?_];exists y,_,I.lset (its':=a.dropLast) f e ?_ r.dropLast ?_,m,q
 .change a.toArray.eraseIdxIfInBounds (a.toArray.size-1)=a.dropLast.toArray;rw[Aw,List.eraseIdxIfInBounds_toArray,Jk6]
 .rw[List.length_dropLast];omega
def Wdr:R2:=λx y H Q=>∃l b a zs,x=.ref l/\y=.ref b/\H l=-(.lst a)/\H b=-(.lst zs)/\⇑a+⇑zs<=sizeLine/\∀p,H p=none->Q (.ref p) (upd H p (.lst (a++zs)))
def Jxt:OpR X (Hc .Add) Wdr:=by
 intro d s p H x y v u Q I rx f h;let(l,b,t,zs,rfl,rfl,g,i,w,q):=h;cases rx;cases f;let(z,c,n,r,A,e):=I.lstM g;let(C,a,E,j,k,m):=I.lstM i;show PySem.P.add_list e m ?_ (by rw[Aw,Aw];lia);let o:c.toArray++a.toArray=(c++a).toArray:=by simp
 rw[o];exists .ref _,_,I.lnew (t':=s.toks) (r.append j) (by rw[Al];lia),rfl,q _ I.fresh
end
section
variable {prog:Program} {w:World} {A:Bo} {E:Value->Shared->Prop} {s:Shared}
set_option maxRecDepth 100000 in
end
section
variable {X:Cx}
end
end L2
namespace Att
open PySem PySem.W PySem.Calls PyProof.Rows
theorem Jd2:∀(ns:List Int) (vs:List Value),WellAll P h vs (ns.map WData.int)->Uh vs ns:=by
 intro ns
 induction ns with
 |nil=>
  intro vs w;rw[Lr]at w;cases w;show .nil
 |cons n ns c=>
  intro vs w;rw[Bf]at w;cases w with
  |cons a b=>
   cases a;show .cons _ _ (c _ b)
theorem Jl1{l:K3}(k:l.most=-n){h:Heap}
  (b:l.row.toRowW.claim.pre args=true)(j:WellAll P h c args):
  ∃a vs ns,c=[Ax a]/\args=[WData.list (ns.map WData.int)]/\h.get? a=-{cls:=.type "list",data:=.seq vs.toArray}/\Uh vs ns/\⇑ns<=n:=by
 let hsh:WShape.hasAll [] args [.list .int]=true:=(pre_splitW b).1;let hc:l.pre.holds [] {args:=args}=true:=(pre_splitW b).2;let(d,r,rfl,m,o):=hasAllW_cons hsh;obtain rfl:=hasAllW_nil o;let(w,rfl,p):=hasW_list m;let(ns,rfl):=items_int p;let e:⇑ns<=n:=by
  unfold OpenLaw.pre at hc;let g:(WTm.not (.lt (.lit (.int (n:Int))) (.len (.arg 0)))).holds [] {args:=[.list (ns.map .int)]}=true:=by
   let g:=(holds_andW hc).1;rw[k]at g;show g
  let i:=condW_of g (w_not (w_lt w_lit (w_len_list (w_arg rfl))));rw[Ag]at i;show Nat.le_of_not_lt λq=>?_;let s:(n:Int)<((⇑ns:Nat):Int):=by omega
  first
   |(rw[decide_eq_true s]at i;show absurd i 'd')
   |(simp at i;omega)
 cases j with
 |cons t u=>
  cases u;cases t with
  |list v f=>exists _,_,ns,rfl,rfl,v,Jd2 ns _ f,e
theorem Jmb(l:K3)(args:List WData):l.row.toRowW.claim.post args (.bool true) args=true:=
 postW_of (r:=l.row.toRowW) (X:=(true==true))
  (show W5 [] (.bool true) .bool=true by first|rfl|decide|simp[W5,WShape.arms,WShape.armsAll])
  (show(WTm.eq .res (.lit (.bool true))).value [] {args:=args,res:=-(.bool true),after:=args}=-(.bool (true==true))from w_eq_bool (w_res rfl) w_lit) rfl
def Ji7{l:K3}{XP:(Str->Option Value)->Heap->Prop}{YP:World->Heap->Prop}{d:Wq}
  (A:l.most=-n)(m:d.params.defaults=[])
  (call:∀(w:World) (c b:Shared) (mg p:Str->Option Value) (fa:Addr) (o:Obj) (s cd e:Value) (a:Addr) (vs:List Value) (ns:List Int),
   Ground q loose [] XP w c mg p b.heap->YP w b.heap->
   b.heap.get? fa=-o->o.data=.func (docDef d.name d.params d.body d.scope s cd e)->b.heap.CodeRec cd d.name->mg d.name=-(.ref fa)->
   b.heap.get? a=-{cls:=.type "list",data:=.seq vs.toArray}->Uh vs ns->⇑ns<=n->b.gens= #[]->
   Hz (model l.prog w) Nw (.call (.ref fa) #[[.ref a],[]]) (λr k=>r=.ok (.ret (.bool true))/\OldK b.heap k.heap/\k.os=b.os/\Mt k.gens) b):
  Of q loose XP YP l.row.toRowW d [] (λf vs=>Pc f vs):=by
 intro w c b mg p G Y fa o s cd e C kV E hd t x u H args y as h z I v J;obtain rfl:C=.none:=Dflts.none x m;obtain rfl:kV=.none:=Dflts.noKw x;let(a,vs,ns,rfl,rfl,i,g,j):=Jl1 A h v;show enter_call (G5 (call w c b mg p fa o s cd e a vs ns G Y E (fd_plain hd) t u i g j H) λr k L=>?_);let(rfl,N,Q,U):=L;exists .inl #[.bool true,.bool true,[],rfl,λ_=>rfl,.bool true,Jmb l _,λ_=>#[P5,λ_ hm=>(nomatch hm)]],N,Q,U
section
variable {prog:Program} {w:World} {A:Bo} {E:Value->Shared->Prop} {s:Shared} {K:Frag}
end
end Att
namespace L2
open PySem PySem.Spec PyProof.Rows
theorem Jgu:∀{vs:List Value} {ns:List Int},Uh vs ns->Vals (ns.map V.int) vs
 |_,_,.nil=>.nil
 |_,_,.cons n t h=>.cons #[t,rfl] (Jgu h)
def Wa5(H:Hp):Prop:=∀b,H b=none\/∃o a,H b=-(.frz o (.lst a))
theorem Jpr{K:Ah}{mg Q:Str->Option Value}{x:Str}{c:Shared}{vs:List Value}{ns:List Int}
  (KX:K.In c.heap)(l:c.heap.Ns Bl mg)(hb:c.heap.Ns Wf Q)(U:∀x:Str,x≠"__name__"->Q x=Dy x)(p:c.heap.NoLimit)(hg:c.gens= #[])
  (N:c.heap.get? a=-{cls:=.type "list",data:=.seq vs.toArray})(hi:Uh vs ns)(hl:⇑ns<=sizeLine)(hr:Xp k Nw)
  (F:∀base:Heap,K.In base->base.Ns Bl mg->Yd P w K mg base CX k fa fd [x] sp)(j:∀(s:Shared) (u:Value),Xd s fd #[[u],[]] [(x,u)])
  (Y:∀H:Hp,Wa5 H->SqL K H a (ns.map V.int)->sp [.ref a] H (λv _=>v=.bl true) λ_ _ _=>False)
  (hCX:∀H e f,CX [] H c (λ_ _ _=>False) e f->False):
  Hz (model P w) Nw (.call (.ref fa) #[[.ref a],[]]) (λr f=>r=.ok (.ret (.bool true))/\OldK c.heap f.heap/\f.os=c.os/\Mt f.gens) c:=by
 let rv:=Jgu hi;let t:=⇑hi;let i:∀H:Hp,Wa5 H->SqL K H a (ns.map V.int)->HOk P w H c.heap->(∀b,H b≠none->b=a)->(H a≠none->K.lookup a=none)->
   Hz (model P w) Nw (.call (.ref fa) #[[.ref a],[]]) (λr f=>r=.ok (.ret (.bool true))/\OldK c.heap f.heap/\f.os=c.os/\Mt f.gens) c:=by
  intro H hO hS y hA hK;let Jek:∀{b:Addr} {o:Obj},c.heap.get? b=-o->H b=none->(Zf c.heap H).get? b=-o:=λe n=>Jp2 e n;let noA:∀{b:Addr} {o:Obj} {A:Array Ce} {C:Nat},c.heap.get? b=-o->o.data=.dict A C->H b=none:=λ{b o A C} e d=>by
   cases q:H b with
   |none=>rfl
   |some u=>
    have e':b=a:=hA b (by rw[q];simp);subst e';rw[N]at e;cases e;let d':Data.seq vs.toArray _=Data.dict A C:=d;cases d'
  let g:∀{b:Addr} {m:Str->Option Value},c.heap.Ns b m->(Zf c.heap H).Ns b m:=λ{b m} #[o,A,C,e,d,r]=>#[o,A,C,Jek e (noA e d),d,r]
  let E:K.In (Zf c.heap H):=λb o e=>Jek (KX b o e) (by
   cases q:H b with
   |none=>rfl
   |some u=>
    have e':b=a:=hA b (by rw[q];simp);subst e';rw[hK (by rw[q];simp)]at e;cases e)
  let hM:Mod K mg (Zf c.heap H):=#[E,g l,#[Q,g hb,U],let#[mc,h1,h2]:=p;#[mc,g h1,h2]]
  let e0:Zr P w K mg (Zf c.heap H) Nw [] c H:=#[rfl,hM,λb o e=>Juo e,Oa (Jne _ _),trivial,λb hb=>absurd (show b∈([]:List Addr)from hb) 's',y,.of_eq hg]
  show G5 ((F _ E (g l)).run Nw [] c H #[[.ref a],[]] [.ref a] [.ref a] _ _ hr e0 (j c (.ref a)) (.cons rfl .nil) (Y H hO hS)) λr f h=>?_;cases r with
  |error e=>show(hCX H e f h).elim
  |ok fl=>
   cases fl with
   |next=>show Bm h
   |brk=>show Bm h
   |cont=>show Bm h
   |ret u=>
    let(v,H',os,I,un,J,r',q):=h;let q':v=.bl true:=q;subst q';obtain rfl:u=J3 true:=r';exists rfl,OldK.of_keep λb o e=>?_,os,I;cases q:H b with
    |none=>show un.keep b o e q (by intro z;show absurd (show b∈([]:List Addr)from z) 's') 's'
    |some u=>
     rcases hO b with z|⟨ob,xs,z⟩
     .rw[q]at z;cases z
     .let z2:=un.frzs b ob _ z;let(e1,_):=y b _ z;let(e2,_):=J b _ z2;rw[e]at e1;cases e1;show e2
 cases hk:K.lookup a with
 |some o=>
  have e:=KX a o hk;rw[N]at e;cases e;show i (λ_=>none) (λ_=>.inl rfl) (.inr #[_,vs.toArray,_,hk,rfl,rfl,rfl,by rw[Aw,t];show hl,by erw[rv]]) (λb u z=>by let L:(none:Option HO)=-u:=z;cases L) (λb z=>absurd rfl z) λz=>absurd rfl z
 |none=>
  show i (λb=>if b=a then -(.frz {cls:=.type "list",data:=.seq vs.toArray} (.lst (ns.map V.int)))else none) (λb=>?_) (.inl (.inr #[{cls:=.type "list",data:=.seq vs.toArray},if_pos rfl])) (λb u z=>?_) (λb z=>?_) λ_=>hk
  .by_cases hb:b=a
   .show .inr #[_,_,if_pos hb]
   .show .inl (if_neg hb)
  .by_cases hb:b=a
   .let L:=(if_pos hb).symm.trans z;cases L;subst hb;exists N,by rw[Ag];show hl,vs,_,rv,N
   .let L:=(if_neg hb).symm.trans z;cases L
  .by_cases hb:b=a
   .show hb
   .show absurd (if_neg hb) z
def Jsp{l:K3}{XP:(Str->Option Value)->Heap->Prop}{YP:World->Heap->Prop}{d:Wq}{K:Jk->Ah}{CX:World->CXT}{sp:World->Sp}
  (E:l.most=-n)(j:n<=sizeLine)(m:d.params.defaults=[])(I:Xp k Nw)
  (J:∀(w:World) (h:Heap),YP w h->(K w.params).In h)
  (F:∀(w:World) (mg:Str->Option Value) (fa:Addr) (h:Heap),(K w.params).In h->h.Ns Bl mg->mg d.name=-(.ref fa)->
   ∃p:Jl,(∀(s:Shared) (u:Value),Xd s p #[[u],[]] [(x,u)])/\
    ∀base:Heap,(K w.params).In base->base.Ns Bl mg->Yd l.prog w (K w.params) mg base (CX w) k fa p [x] (sp w))
  (r:∀(w:World) (H:Hp) (a:Addr) (ns:List Int),⇑ns<=n->Wa5 H->SqL (K w.params) H a (ns.map V.int)->sp w [.ref a] H (λv _=>v=.bl true) λ_ _ _=>False)
  (t:∀(w:World) (H:Hp) (s:Shared) (e:Value) (y:Shared),CX w [] H s (λ_ _ _=>False) e y->False):
  Of q loose XP YP l.row.toRowW d [] (λf vs=>Pc f vs):=by
 show Att.Ji7 E m λw A g mg mb fa o pm cd L a vs ns G Y ho hd N z i c b Q=>?_;let C:=J w _ Y;let(p,hb,hF):=F w mg fa _ C G.T.g z;show Jpr C G.T.g G.T.b G.T.builtins G.T.nolimit Q i c (B3 b j) I hF hb (λH U hS=>r w H a ns b U hS) λH e y=>t w H g e y
noncomputable def Xn(s:Stmt):Arguments:=match s with
 |.FunctionDef _ a _ _ _ _ _ _ _ _=>a
 |_=>{posonlyargs:=[],args:=[],vararg:=none,kwonlyargs:=[],kw_defaults:=[],kwarg:=none,defaults:=[]}
noncomputable def Xj(s:Stmt):List Stmt:=match s with
 |.FunctionDef _ _ b _ _ _ _ _ _ _=>b
 |_=>[]
noncomputable def defScope(s:Stmt):Kb:=match s with
 |.FunctionDef _ _ _ _ _ _ a _ _ _=>a
 |_=>{kind:=.function,names:=[],isGenerator:=false,isCoroutine:=false}
abbrev CX0:CXT:=λ_ _ _ _ _ _=>False
abbrev E0:XK:=λ_ _ _=>False
def Jmh:Yc CX0 X E0:=λ_ _ _ _ _ _ _ h=>h.elim
structure Fun(K:Ah)(x qual:Str)(st:Stmt)(f:Addr)(fd:Jl):Prop where
 ex:∃(oc:Value) (od:Option Addr) (kV doc pm:Value) (an:Option Addr) (cdv ct:Value) (osl:Array (Option Value)),
  fd=Gk x qual (Xn st) (Xj st) (defScope st) .none kV doc pm an cdv ct/\K.lookup f=-#[oc,od,.func fd,osl]/\I8 K cdv qual=true
 kp:Ek K (.ref f)=true
section
variable {P:Program} {w:World} {K:Ah} {mg:Str->Option Value} {base:Heap}
def Fun.ok{x qual:Str}{st:Stmt}{f:Addr}{fd:Jl}{N ps:List Str}{k:Nat}{sp:Sp}(F:Fun K x qual st f fd)(S:X4 N ps (defScope st))(c:∀vs H Q E,sp vs H Q E->⇑vs=⇑ps)
  (b:∀(cdv:Value) (A:Bo) (a:List Env) (s:Shared) (H:Hp) (vs:List V) (Q:VK) (E:XK),Xp k (A.deeper (Ou qual (defScope st) ↥s f cdv))->sp vs H Q E->
   ∃t,PSs (Z5 CX0 P w K mg base N qual (defScope st) f cdv A a s H E).nox (Xj st) t/\t {nx:=λ_ H'=>Q .non H',rt:=Q} (start N vs) H):Yd P w K mg base CX0 (k+1) f fd ps sp:=by
 let(oc,od,kV,doc,pm,an,cdv,ct,osl,rfl,lk,d):=F.ex;show J0s lk d S c λA a s H vs Q E g e=>?_;let(t,h,q):=b cdv A a s H vs Q E g e;exists t,h.nox,q
def Jr2{x a:Str}{st:Stmt}{f:Addr}{oc:Value}{od an:Option Addr}{e:Array (Option Value)}{kV d g b h:Value}(l:K.lookup f=-#[oc,od,.func (Gk x a (Xn st) (Xj st) (defScope st) .none kV d g an b h),e])
  (c:I8 K b a=true)(k:Ek K (.ref f)=true):Fun K x a st f (Gk x a (Xn st) (Xj st) (defScope st) .none kV d g an b h):=#[#[oc,od,kV,d,g,an,b,h,e,rfl,l,c],k]
end
section
variable {X:Cx}
end
def Wd5{A B:Prop}(h:B):if false=true then A else B:=by
 rw[if_neg Bb];show h
def Wd4{A B:Prop}(h:A):if true=true then A else B:=by
 rw[if_pos rfl];show h
section
variable {prog:Program} {w:World} {A:Bo} {R:Nm->Shared->Prop} {s:Shared}
theorem Jhm{E:Value->Shared->Prop}(t:∀e s,E e s->notedBy (model prog w) A env (λx Q=>R (.error x) Q) e s)(I:Nat->Shared->Prop)
  (turn:∀n s,I n s->wpAny (model prog w) A (pyNext it) (λr b=>match r with
   |none=>R (.ok .next) b
   |some v=>wpAny (model prog w) A (Kk a it v) (λ_ d=>wpAny (model prog w) A (assign a env v) (λ_ g=>
     wpAny (model prog w) A (forIn u true λc r=>if r=true then do let y<-isTrue c env (eval c env);pure (Hm y)else pure (Hm r)) (λy f=>
      if y=true then wpAny (model prog w) A (eval z env) (λx i=>
       wpAny (model prog w) A (call (.builtin "list.append") [C,x]) (λ_ j=>∃m,m<n/\I m j) E i) E f
      else∃m,m<n/\I m f) E g) E d) E b) E s)
  (n:Nat)(h:I n s):
  Hz (model prog w) A (.compLoop (.ListComp z [#[a,H,u,0]] o pos) 0 it C env) R s:=by
 show codeAny_loop rfl I (λn s U=>?_) n h;change wpAny _ A ((compTurn (.ListComp z [#[a,H,u,0]] o pos) 0 it C env).onRaise (λx=>do noteFrame x env;theTreesLotGoes x)) _ _ s;show wpAny_noted ?_;rw[compTurn_list];show Aa (Od (Aa (Cu (turn n s U) (λr b k=>?_) t)));cases r with
 |none=>show Ab k
 |some v=>
  show Aa (Cu k (λ_ d p=>?_) t);show Aa (Cu p (λ_ g J=>Aa (Cu J (λy f l=>?_) t)) t);cases y with
  |false=>show Ab #[rfl,l]
  |true=>
   show Aa (Aa (Cu l (λx i L=>Aa (Cu L (λ_ j N=>Ab (Ab #[rfl,N])) t)) t))
end
noncomputable def clOf(a:List (Str×Addr)):List (Str×Ga)->List (Str×Addr)->List (Str×Addr)
 |[],b=>b
 |(n,k)::r,b=>if k== .free then(match a.lookup n with|some c=>clOf a r ((n,c)::b)|none=>clOf a r b)else clOf a r b
theorem Jba(env:Env):∀(a:List (Str×Ga)) (b:List (Str×Addr)),(∀x∈a,x.2=.free->∃c,env.cells.lookup x.1=-c)->
  (forIn a b (λ(x:Str×Ga) (g:List (Str×Addr))=>(match x with|(name,d)=>if d== .free then(do let c<-cellOf env name;pure (Hm ((name,c)::g)))else pure (Hm g):Sem (ForInStep (List (Str×Addr))))))=pure (clOf env.cells a b)
 |[],b,_=>rfl
 |(n,k)::r,b,h=>by
  let i:∀x∈r,x.2=.free->∃c,env.cells.lookup x.1=-c:=λx j=>h x (A7 _ j);simp only[Jt]
  by_cases e:(k==I9)=true
  .let(c,hc):=h (n,k) B1 (by erw[e]);let f:env.cells.lookup n=-c:=hc;simp only[e,if_true,cellOf,f,pure_bind,clOf];show Jba env r _ i
  .simp only[e,Ba,if_false,pure_bind,clOf];show Jba env r _ i
def Jcp{a:Kb}{env:Env}(h:∀x∈a.names,x.2=.free->∃c,env.cells.lookup x.1=-c):We a env=pure (clOf env.cells a.names []):=by
 let e:=Jba env a.names [] h;unfold We;simp only[bind_pure];show Eq.trans ?_ e;congr 1
theorem Jde(a:List (Str×Addr)):∀(d:List (Str×Ga)) (b:List (Str×Addr)),(∀p∈b,a.lookup p.1=some p.2)->∀p∈clOf a d b,a.lookup p.1=some p.2
 |[],b,h,p,hp=>h p hp
 |(n,k)::r,b,h,p,hp=>by
  unfold clOf at hp;split at hp
  .split at hp
   .rename_i c hc;show Jde a r _ (λq f=>?_) p hp;rcases An.1 f with e|e
    .subst e;show hc
    .show h q e
   .show Jde a r _ h p hp
  .show Jde a r _ h p hp
theorem Jb2(a:List (Str×Addr)):∀(c:List (Str×Ga)) (b:List (Str×Addr)) (p),p∈b->p∈clOf a c b
 |[],b,p,h=>h
 |(n,k)::r,b,p,h=>by
  unfold clOf;split
  .split
   .show Jb2 a r _ p (A7 _ h)
   .show Jb2 a r _ p h
  .show Jb2 a r _ p h
theorem Jdf(a:List (Str×Addr)):∀(b:List (Str×Ga)) (d:List (Str×Addr)) (x:Str) (c:Addr),(x,I9)∈b->a.lookup x=-c->(x,c)∈clOf a b d
 |[],d,x,c,h,_=>by simp at h
 |(n,k)::r,d,x,c,h,e=>by
  unfold clOf;rcases An.1 h with q|q
  .cases q;simp only[beq_self_eq_true,if_true,e];show Jb2 a r _ _ B1
  .split
   .split
    .show Jdf a r _ x c q e
    .show Jdf a r _ x c q e
   .show Jdf a r _ x c q e
theorem Jf1{b:Type}{l:List (Str×b)}{x:Str}{c:b}(h:(x,c)∈l):∃a,l.lookup x=-a:=by
 induction l with
 |nil=>simp at h
 |cons p r f=>
  let(y,d):=p
  by_cases e:(x==y)=true
  .exists d,by simp[Fh,e]
  .let g:(x==y)=false:=by erw[e]
   rcases An.1 h with q|q
   .cases q;simp at e
   .let(a,hc):=f q;exists a,by simp[Fh,g,hc]
def Jbm{a:List (Str×Addr)}(h:(clOf a b []).lookup x=-c):a.lookup x=-c:=
 Jde a b [] (λ_ h=>by simp at h) (x,c) (E7 h)
def Jhn{a:List (Str×Addr)}(h:(x,I9)∈b)(e:a.lookup x=-c):(clOf a b []).lookup x=-c:=by
 let(d,hc):=Jf1 (Jdf a b [] x c h e);rw[hc,<-Jbm hc,e]
def Xg.upd_none(n:H b=none)(x:Xg P w H h a o):Xg P w (upd H b u) h a o:=
 x.stay (λ_ _ _ q=>q) (λc q=>by rw[Jad (Jam q n)];show q) λc d q=>by rw[Jad (Jam q n)];show q
def Inv.adopt{X:Cx}{s:Shared}(I:Inv X pins σ H s)(n:H d=none)(f:X.s₀.heap.objs.size<=d)(g:d≠X.env.locals)
  (h:∀x c,X.env.cells.lookup x=-c->c≠d)(j:∀p∈X.pn++pins,p.1≠d)(new:Xg X.prog X.w (upd H d o) s.heap d o):Inv X pins σ (upd H d o) s:=by
 let k:HOk X.prog X.w (upd H d o) s.heap:=λb u e=>by
  by_cases hb:b=d
  .subst hb;rw[Jae]at e;cases e;show new
  .rw[Jad hb]at e;show(I.hok b u e).upd_none n
 let q:=I.step (h':=s.heap) (H':=upd H d o) (g':=s.gens) (d':=s.drawn) (t':=s.toks) (ch:=[d]) (λb hb=>by
   let e:b=d:=by erw[hb]
   subst e;exists .inr f,g,h,j) (λb o _ _ _ e _=>e) (λb o _ _ _ e _=>#[o.slots,e]) (λb u hb e z=>by
   let a:b≠d:=λe=>hb (by simp[e]);rw[Jad a];show z) (λb o _ e=>#[o,e])
  (λb l e=>by rw[Jad (Jam e n)];show e) (λb u l e=>by rw[Jad (Jam e n)];show e) (λb t e=>#[#[],by rw[Jad (Jam e n),e];simp]) (λm r=>r) k I.bare
 show q
theorem Jb4(a:Kb)(env:Env)(x:Str):(relabel a env).names.lookup x=(a.names.lookup x).map λk=>if(k== .free&&env.scope.kind== .function&&env.kindOf x==-.cell)=true then .cell else k:=by
 change(a.names.map λ(n,k)=>if(k==I9&&env.scope.kind== .function&&env.kindOf n==-.cell)then(n,Ub)else(n,k)).lookup x=_;generalize a.names=l
 induction l with
 |nil=>rfl
 |cons p r c=>
  let(n,k):=p;change F3 x ((if(k==I9&&env.scope.kind== .function&&env.kindOf n==-.cell)=true then(n,Ub)else(n,k))::_)=_;cases b:x==n with
  |true=>
   have e:x=n:=by erw[b]
   subst e;simp only[Fh,beq_self_eq_true,Hx];split<;>simp
  |false=>
   simp only[Fh,b];split<;>(simp only[Fh,b];show c)
def Xi(X:Cx)(e:List Str)(a:Kb)(b:Shared)(c:Hp)(ex:List Addr)(d:List (Addr×Obj))(xe:Value->Shared->Prop:=λ_ _=>False):Cx:=
 {X with N:=e,s₀:=b,H₀:=c,env:=compEnvC a (clOf X.env.cells a.names []) ↥b X.env,outer:=X.stack,ex:=ex,fn:=λ_=>false,pn:=X.pn++d,xe:=xe}
noncomputable def Ze(k:Nat)(keep:List Nat)(a:St):St:=Gh k none++keep.map λi=>(a[i]?).join
structure Xv(X:Cx)(N':List Str)(k:Nat)(keep:List Nat)(scope:Kb):Prop where
 kind:scope.kind=.function
 cell:∀y∈scope.names,y.2≠ .cell
 names:∀y∈scope.names,y.2=.local->scope.names.lookup y.1=-.local
 free:∀y∈scope.names,y.2=.free->X.env.scope.names.lookup y.1=-.cell\/X.env.scope.names.lookup y.1=-.free
 len:N'.length=k+⇑keep
 kept:∀j i,keep[j]? =-i->∃x,N'[k+j]? =-x/\X.N[i]? =-x/\scope.names.lookup x=-.free
def Jbt{l:List (Str×Ga)}(h:l.lookup x=-k):(x,k)∈l:=E7 h
section
variable {X:Cx} {N':List Str} {k:Nat} {keep:List Nat} {scope:Kb} {pins:List (Addr×Obj)} {σ:St} {H H₃:Hp} {s s₃:Shared} {ex:List Addr} {xe:Value->Shared->Prop}
def Xv.clo(c:Xv X N' k keep scope)(a:X.Ok):∀y∈scope.names,y.2=.free->∃c,X.env.cells.lookup y.1=-c:=λy b d=>a.has y.1 (c.free y b d)
theorem Xv.inner(c:Xv X N' k keep scope)(h:(relabel scope X.env).names.lookup x=-.cell\/(relabel scope X.env).names.lookup x=-.free):scope.names.lookup x=-.free:=by
 rw[Jb4]at h;cases e:scope.names.lookup x with
 |none=>rw[e]at h;simp at h
 |some q=>
  rw[e]at h;let hc:=c.cell _ (Jbt e);simp only[Hx,Hw]at h
  by_cases a:(q==I9&&X.env.scope.kind== .function&&X.env.kindOf x==-.cell)=true
  .let:q=.free:=by
    simp only[Am]at a
    erw[a.1.1]
   rw[this]
  .rw[if_neg a]at h;rcases h with h|h
   .show absurd h hc
   .rw[h]
def Inv.enter(c:Xv X N' k keep scope)(I:Inv X pins σ H s₃){h':Heap}{m:Str->Option Value}(Q:h'.Ns ↥s₃ m)(E:∀b o,s₃.heap.get? b=-o->h'.get? b=-o)
  (l:∀b∈ex,b<↥s₃/\b≠X.env.locals/\b∉X.fs/\(b∈X.ex\/X.s₀.heap.objs.size<=b)/\∀x c,X.env.cells.lookup x=-c->c≠b):
  Inv (Xi X N' scope s₃ H ex pins xe) [] (Ze k keep σ) H {s₃ with heap:=h',toks:=t'}:=by
 let g:∀x r,(clOf X.env.cells scope.names []).lookup x=-r->X.env.cells.lookup x=-r:=λx r h=>Jbm h;let J:∀b∈ex,b∉frs X.stack:=λb hb z=>by
  let(h0,U,Y,_):=l b hb;rcases An.1 (I.stkSub b z)with e|e
  .show U e
  .show Y e
 let cltb:∀x r,X.env.cells.lookup x=-r->r<↥s₃:=λx r e=>by
  let(v,q):=I.cell x r e;show q.lt
 exists#[I.ok.mod,c.kind,I.ok.glob,I.ok.blt,Aj _,?inj,?has,?cab,I.ok.hd,I.ok.frames,.inl rfl,?exf,I.bs,B3 I.ok.bsz I.sz,?L,J,I.stack,I.stkFree],rfl,I.bare,Un.kept E,?loc,?cell,?free,?freeC,?pin,I.hok.kept E,?len
 case inj=>show λx y a U Y=>I.ok.inj x y a (g x a U) (g y a Y)
 case has=>
  intro x hx;let e:scope.names.lookup x=-.free:=c.inner hx;let(a,ha):=c.clo I.ok (x,.free) (Jbt e) rfl;exists a,Jhn (Jbt e) ha
 case cab=>show λx a hf=>absurd hf (by change¬(false=true);simp)
 case exf=>show λb hb=>#[A5 (l b hb).1,λx a e=>(l b hb).2.2.2.2 x a (g x a e)]
 case L=>
  intro b o e hb;rcases(l b hb).2.2.2.1 with z|z
  .show I.ok.noex b o e z
  .show absurd (Bu (Aq e) (B3 I.ok.bsz z)) (Fg _)
 case loc=>
  exists m,Q,λi x v e1 t e3=>?_;let e1:N'[i]? =-x:=e1;unfold Ze at t
  by_cases hi:i<k
  .rw[A0 (by erw[hi]),Gj,if_pos hi]at t;cases t
  .rw[Au (by erw[hi]),Je,Ao]at t;cases ej:keep[i-k]? with
   |none=>rw[ej]at t;cases t
   |some j=>
    rw[ej]at t;let f:(σ[j]?).join=-v:=Bj t;let f:σ[j]? =-(-v):=by
     cases q:σ[j]? with
     |none=>rw[q]at f;cases f
     |some y=>rw[q]at f;show congrArg some f
    let(x',p1,p2,p3):=c.kept _ _ ej;let ex':k+(i-k)=i:=by omega
    rw[ex',e1]at p1;cases p1;let fr:=c.free _ (Jbt p3) rfl;let(m0,hn0,hl0):=I.loc;let(u,ru,lk):=hl0 j x v p2 f (.inr fr);exists u,ru,?_;rcases lk with⟨C,_⟩|⟨_,a,ha,A⟩
    .exfalso;let C:X.env.scope.names.lookup x=-.local:=C;rcases fr with z|z
     .rw[z]at C;cases C
     .rw[z]at C;cases C
    .show .inr #[e3.elim (λz=>?_) id,a,Jhn (Jbt p3) ha,?_]
     .exfalso;let z:(relabel scope X.env).names.lookup x=-.local:=z;rw[Jb4,p3]at z;simp only[Hx,Hw]at z;split at z<;>cases z
     .let(o,ho,hd):=A;exists o,E _ _ ho,hd
 case cell=>
  intro x a h;let(v,o,ho,hd):=I.cell x a (g x a h);exists v,o,E _ _ ho,hd
 case free=>show I.hok.fresh (Aj _)
 case freeC=>show λx a h=>I.freeC x a (g x a h)
 case pin=>
  intro p hp;let hp:p∈X.pn++pins:=by simpa [Xi]using hp
  let(e,n,ne,nf,d):=I.pin p hp;exists E _ _ e,n,A5 (Aq e),λz=>?_,d;rcases An.1 (I.stkSub p.1 z)with q|q
  .show ne q
  .show nf q
 case len=>
  change(Ze k keep σ).length=N'.length;rw[c.len];unfold Ze;simp
structure Zh(X:Cx)(pins:List (Addr×Obj))(σ:St)(H:Hp)(s₃:Shared)(ex:List Addr):Prop where
 inv:Inv X pins σ H s₃
 exo:∀b∈ex,b<↥s₃/\b≠X.env.locals/\b∉X.fs/\(b∈X.ex\/X.s₀.heap.objs.size<=b)/\∀x c,X.env.cells.lookup x=-c->c≠b
 pin:∀b∈ex,∀p∈X.pn++pins,p.1≠b
def Inv.leave(I:Inv X pins σ H₃ s₃)(J:Inv (Xi X N' scope s₃ H₃ ex pins xe) e f H s)
  (a:∀b∈ex,b<↥s₃/\b≠X.env.locals/\b∉X.fs/\(b∈X.ex\/X.s₀.heap.objs.size<=b)/\∀x c,X.env.cells.lookup x=-c->c≠b)(d:∀b∈ex,∀p∈X.pn++pins,p.1≠b):
  Inv X pins σ H s:=by
 let u:Un (frs X.stack) ex H₃ H s₃.heap s.heap:=J.base;let g:s.os=s₃.os:=J.os;show I.call' g u J.hok J.bare λb hb=>#[(a b hb).2.2.2.1,(a b hb).2.1,(a b hb).2.2.2.2,d b hb]
end
def PTs(X:Cx)(b:List Expr)(t:TT):Prop:=
 ∀(a:List (Addr×Obj)) (s:Shared) (d:St) (H:Hp) (Q:Bool->Hp->Prop),Inv X a d H s->t d H Q->
  wpAny (model X.prog X.w) X.A (forIn b true λc r=>if r=true then do let e<-isTrue c X.env (eval c X.env);pure (Hm e)else pure (Hm r)) (TP X a d Q) X.xe s
def Jty:PTs X [] (λ_ H Q=>Q true H):=λa s b H Q I h=>wpAny_tests_nil #[H,I,h]
def Jtx(h:PT X c t):PTs X [c] t:=λa s b H Q I q=>wpAny_tests_one (h a s b H Q I q)
def War(J:It)(g:TG)(tc:TT)(te:TE)(Q:List V->Hp->Prop)(e:St)(H1:Hp):Prop:=
 ∃W:Nat->Nat->List V->St->Hp->Prop,(∃m,W 0 m [] e H1)/\∀i m c f H,W i m c f H->⇑c<=sizeLine/\
  ((J.stop i H/\Q c H)\/(J.go i H/\∀x h,J.yld i H x h->g x f h λa H2=>tc a H2 λb j=>
   if b=true then te a j λy k=>∃d,d<m/\W (i+1) d (c++[y]) a k else∃d,d<m/\W (i+1) d c a j))
def Own(X:Cx)(a:List (Addr×Obj))(H:Hp)(b:Addr):Prop:=
 H b=none/\X.s₀.heap.objs.size<=b/\b≠X.env.locals/\(∀x c,X.env.cells.lookup x=-c->c≠b)/\∀p∈X.pn++a,p.1≠b
def Inv.own{s:Shared}(I:Inv X pins σ H s)(hb:↥s<=b)(a:H' b=none):Own X pins H' b:=by
 let(d,e,h,j,f,g):=I.fpOk hb a;exists d,B3 I.sz hb,e,f,g
structure Wbc(P:Program)(w:World)(K:Ah)(tg:Expr)(J:It)(fp:List Addr)(it:Addr)(tn:Nat->Heap->Prop)(cm:Cx->Prop):Prop where
 obj:∀n g,tn n g->∀a∈fp,∃u,g.get? a=-u/\∀v,u.data≠ .cell v
 keep:∀n g g',tn n g->(∀a∈fp,∀u,g.get? a=-u->g'.get? a=-u)->tn n g'
 item:∀(Y:Cx),Y.prog=P->Y.w=w->Y.K=K->cm Y->∀(n:Nat) (ps:List (Addr×Obj)) (s:Shared) (σ:St) (H:Hp) (E:Value->Shared->Prop),Inv Y ps σ H s->(∀a∈fp,Yq Y ps H a)->tn n s.heap->J.go n H->
  wpAny (model P w) Y.A (pyNext (.ref it)) (λr s1=>∃u,r=-u/\wpAny (model P w) Y.A (Kk tg (.ref it) u) (λ_ s2=>∃x H',Inv Y ps σ H' s2/\RelV x u/\J.yld n H x H'/\tn (n+1) s2.heap/\∀a∈fp,H' a=none) E s1) E s
 done:∀(Y:Cx),Y.prog=P->Y.w=w->Y.K=K->cm Y->∀(n:Nat) (ps:List (Addr×Obj)) (s:Shared) (σ:St) (H:Hp) (E:Value->Shared->Prop),Inv Y ps σ H s->(∀a∈fp,Yq Y ps H a)->tn n s.heap->J.stop n H->wpAny (model P w) Y.A (pyNext (.ref it)) (λr s1=>r=none/\Inv Y ps σ H s1) E s
 self:∀(B:Bo) (n:Nat) (s:Shared) (R:Value->Shared->Prop) (E:Value->Shared->Prop),tn n s.heap->R (.ref it) s->wpAny (model P w) B (pyIter (.ref it)) R E s
def Turn.toC{P:Program}{w:World}{K:Ah}{tg:Expr}{J:It}{fp:List Addr}{it:Addr}{tn:Nat->Heap->Prop}(T:Turn P w K tg J fp it tn):Wbc P w K tg J fp it tn (λX=>X.calm=true):=#[T.obj,T.keep,T.item,T.done,T.self]
section
variable {X:Cx} {N':List Str} {k:Nat} {keep:List Nat} {scope:Kb} {pins:List (Addr×Obj)} {σ:St} {H:Hp} {s:Shared}
def Jfo{fp:List Addr}{tn:Nat->Heap->Prop}{Q:List V->Hp->Prop}{RR:Value->Addr->Nm->Shared->Prop}{E:Value->Shared->Prop}{xe:Shared->Value->Shared->Prop}
  {cm:Cx->Prop}(c:Xv X N' k keep scope)(calm:∀j ex,cm (Xi X N' scope j H ex pins (xe j)))(I:Inv X pins σ H s)(T:Wbc X.prog X.w X.K tg J fp it tn cm)(st:tn 0 s.heap)(hf:∀b∈fp,Yq X pins H b)
  (hg:∀j ex,PG (Xi X N' scope j H ex pins (xe j)) tg g)(hc:∀j ex,PTs (Xi X N' scope j H ex pins (xe j)) ifs tc)(he:∀j ex,Zh X pins σ H j ex->PE (Xi X N' scope j H ex pins (xe j)) elt te)
  (hE:∀j D e s',xe j e s'->notedBy (model X.prog X.w) X.A (compEnvC scope (clOf X.env.cells scope.names []) ↥j X.env) (λx s''=>RR D ↥j (.error x) s'') e s')
  (hW:War J g tc te Q (Ze k keep σ) H)
  (hRR:∀D C s' H' xs m,Inv X pins σ H' s'->Own X pins H' D->Own X pins H' C->D≠C->Xg X.prog X.w (upd H' D (.lst xs)) s'.heap D (.lst xs)->s'.heap.Ns C m->Q xs H'->RR (.ref D) C (.ok .next) s'):
  wpAny (model X.prog X.w) X.A (newList []) (λacc j=>wpAny (model X.prog X.w) X.A (newFunctionEnv scope X.env.globals (clOf X.env.cells scope.names []) [] X.env.qual none .none (-X.env)) (λcenv s₄=>cenv.frame=X.env.frame/\
   Hz (model X.prog X.w) X.A (.compStart (.ListComp elt [#[tg,iter,ifs,0]] scope pos) 0 (.ref it) acc {cenv with scope:=relabel scope X.env}) (RR acc cenv.locals) s₄) E j) E s:=by
 show B5 (wpAny_newFunctionEnv c.cell (by intro y hy;simp at hy) (λh₁ L N=>?_) c.kind);dsimp only at L N ⊢;generalize hH2:s.heap.push {cls:=.type "list",dict:=none,data:=.seq ([]:List Value).toArray}=H2 at L N ⊢;let I3:Inv X pins σ H {s with heap:=H2}:=I.kept (t':=s.toks) λb o e=>hH2▸Af _ e;let hC:H2.objs.size=↥s+1:=by rw[<-hH2,C4]
 let hlt:↥s<H2.objs.size:=by rw[hC];show Eb _
 let hne:↥s≠H2.objs.size:=A5 hlt;let fpo:∀b∈fp,∃o,s.heap.get? b=-o/\∀v,o.data≠ .cell v:=T.obj _ _ st;let fplt:∀b∈fp,b<↥s:=λb hb=>by
  let(o,e,_):=fpo b hb;show Aq e
 let nD:H ↥s=none:=I.hok.fresh (Aj _);let nC:H H2.objs.size=none:=I.hok.fresh 'l';let oD:Own X pins H ↥s:=I.own (Aj _) nD;let oC:Own X pins H H2.objs.size:=I.own 'l' nC;let hkp:∀b o,H2.get? b=-o->h₁.get? b=-o:=λb o e=>N.extBut b o (A5 (Aq e)) (Af _ e);let hex:∀b∈↥s::fp,b<({s with heap:=H2}:Shared).heap.objs.size/\b≠X.env.locals/\b∉X.fs/\(b∈X.ex\/X.s₀.heap.objs.size<=b)/\∀x c,X.env.cells.lookup x=-c->c≠b:=λb hb=>by
  rcases An.1 hb with e|e
  .subst e;exists hlt,oD.2.2.1,I.nofs (Aj _),.inr oD.2.1,oD.2.2.2.1
  .let(f0,f1,f2,f3,f4,f5):=hf b e;exists F4 (fplt b e) hlt,f1,f2,f3,f4
 let hpin:∀b∈↥s::fp,∀p∈X.pn++pins,p.1≠b:=λb hb p hp=>by
  rcases An.1 hb with e|e
  .subst e;show oD.2.2.2.2 p hp
  .show(hf b e).2.2.2.2.2 p hp
 let Dstk:↥s∉frs X.stack:=λz=>by
  rcases An.1 (I.stkSub _ z)with q|q
  .show oD.2.2.1 q
  .show I.nofs (Aj _) q
 generalize U:Xi X N' scope {s with heap:=H2} H (↥s::fp) pins (xe {s with heap:=H2})=Y;let A:Y.prog=X.prog:=by subst U;rfl
 let eW:Y.w=X.w:=by subst U;rfl
 let eK:Y.K=X.K:=by subst U;rfl
 let eA:Y.A=X.A:=by subst U;rfl
 let eCalm:cm Y:=by subst U;show calm _ _
 let t:Y.env=compEnvC scope (clOf X.env.cells scope.names []) H2.objs.size X.env:=by subst U;rfl
 let eXe:Y.xe=xe {s with heap:=H2}:=by subst U;rfl
 let J0:Inv Y [] (Ze k keep σ) H {s with heap:=h₁,toks:=s.toks+([]:List (Str×Value)).length}:=by
  subst U;show I3.enter (t':=s.toks+([]:List (Str×Value)).length) c L hkp hex
 let fpY:∀{H':Hp} {q:List (Addr×Obj)},(∀b∈fp,H' b=none)->(∀p∈q,p.1=↥s)->∀b∈fp,Yq Y q H' b:=λ{H' q} hn hq b hb=>by
  let(f0,f1,f2,f3,f4,f5):=hf b hb;let lt:=fplt b hb;subst U;exists hn b hb,A5 (F4 lt hlt),λz=>?_,.inl (A7 _ hb),λx a e=>f4 x a (Jbm e),λp hp=>?_
  .rcases An.1 (I.stkSub b z)with q|q
   .show f1 q
   .show f2 q
  .rcases Bn.1 (show p∈(X.pn++pins)++q from hp)with z|z
   .show f5 p z
   .rw[hq p z];show C9 lt
 obtain⟨W,⟨m0,w0⟩,turn⟩:=hW
 show let Iv:Nat->Shared->Prop:=λn s'=>∃i xs w H' l nn,Inv Y [] w H' s'/\tn i s'.heap/\(∀b∈fp,H' b=none)/\H' ↥s=none/\Vals xs l/\s'.heap.get? ↥s=-{cls:=.type "list",data:=.seq l.toArray nn}/\W i n xs w H';?_
 let hdD:∀{h':Heap},(∀b o,s.heap.get? b=-o->h'.get? b=-o)->True:=λ_=>trivial;let start:Iv m0 {s with heap:=h₁,toks:=s.toks+([]:List (Str×Value)).length}:=by
  exists 0,[],_,H,[],0,J0,T.keep _ _ _ st λb hb o e=>hkp b o (hH2▸Af _ e),λb hb=>(hf b hb).1,nD,.nil,?_,w0;show hkp _ _ (hH2▸Ak _ rfl)
 let loop:∀j:Shared,j={s with heap:=h₁,toks:=s.toks+([]:List (Str×Value)).length}->
   Hz (model X.prog X.w) X.A (.compLoop (.ListComp elt [#[tg,iter,ifs,0]] scope pos) 0 (.ref it) (.ref ↥s) (compEnvC scope (clOf X.env.cells scope.names []) H2.objs.size X.env))
    (RR (.ref ↥s) H2.objs.size) j:=by
  rintro j rfl;show Jhm (hE {s with heap:=H2} _) Iv (λn s' hI=>?_) m0 start;let(i,xs,w,H',l,nn,J',tn',fr',dn',rv,hl,w'):=hI;let(hsz,alt):=turn i n xs w H' w';rcases alt with⟨stop,q⟩|⟨go,step⟩
  .let z:=T.done Y A eW eK eCalm i [] s' w H' (xe {s with heap:=H2}) J' (fpY fr' (λ_ h=>by simp at h)) tn' stop;rw[eA]at z;let J'':Inv Y [(↥s,{cls:=.type "list",data:=.seq l.toArray nn})] w H' s':=J'.pins_of λp hp=>by
    let e:p=(↥s,{cls:=.type "list",data:=.seq l.toArray nn}):=by erw[hp]
    subst e;exists hl,dn',?_,?_,λv h=>nomatch h
    .rw[t];show hne
    .subst U;show Dstk
   let z:=T.done Y A eW eK eCalm i _ s' w H' (xe {s with heap:=H2}) J'' (fpY fr' (λp hp=>by let e:p=_:=(Ap.1 hp);rw[e])) tn' stop;rw[eA]at z;show Cu z (λr s4 #[hr,J4]=>?_) λ_ _ f=>f;subst hr;let hl4:=(J4.pin _ (Bw _ (Ap.2 rfl))).1;let J5:Inv (Xi X N' scope {s with heap:=H2} H (↥s::fp) pins (xe {s with heap:=H2})) [(↥s,{cls:=.type "list",data:=.seq l.toArray nn})] w H' s4:=by rw[U];show J4
   let I4:Inv X pins σ H' s4:=I3.leave J5 hex hpin;let(mC,hnC,_):=J4.loc;let cfree:=J4.free;rw[t]at hnC cfree;show hRR _ _ s4 H' xs mC I4 #[dn',oD.2] #[cfree,oC.2] hne #[hsz,l,nn,rv,hl4] hnC q
  .let J'':Inv Y [(↥s,{cls:=.type "list",data:=.seq l.toArray nn})] w H' s':=J'.pins_of λp hp=>by
    let e:p=(↥s,{cls:=.type "list",data:=.seq l.toArray nn}):=by erw[hp]
    subst e;exists hl,dn',?_,?_,λv h=>nomatch h
    .rw[t];show hne
    .subst U;show Dstk
   let z:=T.item Y A eW eK eCalm i _ s' w H' (xe {s with heap:=H2}) J'' (fpY fr' (λp hp=>by let e:p=_:=(Ap.1 hp);rw[e])) tn' go;rw[eA]at z;show Cu z (λr s4 #[u,hr,h4]=>?_) λ_ _ f=>f;subst hr;show Cu h4 (λ_ s5 #[x,H5,J5,r5,y5,tn5,fr5]=>?_) λ_ _ f=>f;let J5':=J5.pinned (fpY fr5 (λp hp=>by let e:p=_:=(Ap.1 hp);rw[e])) (T.obj _ _ tn5);let hg':PG Y tg g:=U▸hg _ _;let hc':PTs Y ifs tc:=U▸hc _ _;let he':PE Y elt te:=U▸he _ _ #[I3,hex,hpin];let g6:=hg' _ s5 w H5 x u _ J5' r5 (step x H5 y5);rw[eXe,eA,A,eW,t]at g6;show Cu g6 (λ_ s6 #[σ6,H6,J6,q6]=>?_) λ_ _ f=>f;let c7:=hc' _ s6 σ6 H6 _ J6 q6;rw[eXe,eA,A,eW,t]at c7;show Cu c7 (λok s7 #[H7,J7,q7]=>?_) λ_ _ f=>f;let fin:∀{s8:Shared} {σ8:St} {H8:Hp} {xs':List V} {its':List Value} {n' m':Nat},Inv Y [] σ8 H8 s8->tn (i+1) s8.heap->(∀b∈fp,H8 b=none)->H8 ↥s=none->Vals xs' its'->
     s8.heap.get? ↥s=-{cls:=.type "list",data:=.seq its'.toArray n'}->W (i+1) m' xs' σ8 H8->m'<n->∃m,m<n/\Iv m s8:=λa1 a2 a3 a4 a5 a6 a7 a8=>#[_,a8,_,_,_,_,_,_,a1,a2,a3,a4,a5,a6,a7]
   let kp:∀{s8:Shared} {σ8:St} {H8:Hp},Inv Y ([(↥s,{cls:=.type "list",data:=.seq l.toArray nn})]++Yy fp s5.heap) σ8 H8 s8->
     tn (i+1) s8.heap/\(∀b∈fp,H8 b=none)/\H8 ↥s=none/\s8.heap.get? ↥s=-{cls:=.type "list",data:=.seq l.toArray nn}:=λ{s8 σ8 H8} J8=>by
    let p1:=J8.pin _ (Bw _ (Dt _ (Ap.2 rfl)));exists T.keep _ _ _ tn5 λb hb o e=>(J8.pin (b,o) (Bw _ (Bw _ (Jb1 hb e)))).1,λb hb=>?_,p1.2.1,p1.1;let(o,e,d):=T.obj _ _ tn5 b hb;show(J8.pin (b,o) (Bw _ (Bw _ (Jb1 hb e)))).2.1
   cases ok with
   |false=>
    simp only[Ba,if_false]at q7 ⊢;let(m',hm,w7):=q7;let(k1,k2,k3,k4):=kp J7;show fin (J7.pins_of λp hp=>by simp at hp) k1 k2 k3 rv k4 w7 hm
   |true=>
    simp only[if_true]at q7 ⊢;let e8:=he' _ s7 σ6 H7 _ J7 q7;rw[eXe,eA,A,eW,t]at e8;show Cu e8 (λy s8 #[v8,H8,J8,r8,m',hm,w8]=>?_) λ_ _ f=>f;let(k1,k2,k3,k4):=kp J8;let hl8:s8.heap.PlainList ↥s l.toArray:=#[nn,k4]
    show wpAny_list_append_plain (hsz:=by let:=⇑rv;simp only[Aw];lia) hl8 λh9 hl9 hs9=>?_;let(n9,e9):=hl9;let J9:Inv Y [] σ6 H8 {s8 with heap:=h9}:=by
     let J8':Inv Y [] σ6 H8 s8:=J8.pins_of λp hp=>by simp at hp
     show J8'.turned (t':=s8.toks) (it:=↥s) (λb o hb e=>hs9.extBut b o hb e) k3 ?_ ?_ ?_ ?_
     .rw[t];show hne
     .subst U;show .inl B1
     .subst U;show λx a e=>oD.2.2.2.1 x a (Jbm e)
     .subst U;intro p hp;show oD.2.2.2.2 p (by simpa [Xi]using hp)
    show fin (n':=n9) (its':=l++[y]) J9 (T.keep _ _ _ k1 λb hb o e=>hs9.extBut b o (A5 (fplt b hb)) e) k2 k3 (rv.append (.cons r8 .nil)) ?_ w8 hm;change h9.get? _=_;rw[e9,List.push_toArray]
 exists rfl,codeAny_compStart_list (loop _ rfl) (T.self _ 0 _ _ _ (T.keep _ _ _ st λb hb o e=>hkp b o (hH2▸Af _ e)) (loop _ rfl))
end
def Zi(k:Nat)(keep:List Nat)(wi:TI)(g:TG)(tc:TT)(te:TE):TE:=λa H Q=>wi a H λJ H1=>
 War J g tc te (λc b=>∀p,b p=none->Q (.ref p) (upd b p (.lst c))) (Ze k keep a) H1
def compEnd(M:Lm)(A:Bo)(E:Value->Shared->Prop)(use:Option (Value->Sem Unit))(Q:Value->Shared->Prop)(env:Env)(b:Value)(C:Addr)(r:Nm)(a:Shared):Prop:=match r with
 |.ok f=>compPost M A E use Q b C (.ok f) a
 |.error x=>∃m,a.heap.Ns C m/\∀c,Du C a.heap c->wpAny M A (Q2 "comprehension.variables-let-go" x env:Sem Value) (λ_ _=>False) E {a with heap:=c}
section
variable {M:Lm} {A:Bo} {E:Value->Shared->Prop} {s:Shared} {env:Env}
theorem Jhk{a:Kb}{g:Comprehension}{use:Option (Value->Sem Unit)}{Q:Value->Shared->Prop}
  (h1:clausesOf e=g::gs)(h2:∀x,D3 g.iter env x=pure x)(h3:We a env=pure cl)(t:a.kind=.function)(h5:∀y∈a.names,y.2=.local->a.names.lookup y.1=-.local)
  (h:wpAny M A fi (λx I=>wpAny M A (pyIter x) (λit J=>wpAny M A na (λi L=>wpAny M A (newFunctionEnv a env.globals cl [] env.qual none .none (-env)) (λd N=>d.frame=env.frame/\
   Hz M A (.compStart e 0 it i {d with scope:=relabel a env}) (compEnd M A E use Q env i d.locals) N) E L) E J) E I) E s):wpAny M A (comprehension e a env pos na false fi use) Q E s:=by
 let n:∀{u:Value} {v:Shared},E u v->E u v:=λz=>z;unfold comprehension;rw[h3,h1];show Aa (Cu h (λx I k1=>?_) λ_ _=>n);show Aa (Od (Aa (Ql (h2 x) ?_)));show Aa (Bt (Cu k1 (λit J k2=>?_) λ_ _=>n));show wpAny_standIf (Aa (Cu k2 (λi L k3=>?_) λ_ _=>n));show Aa (Ab (Aa (Cu k3 (λd N w=>?_) λ_ _=>n)));let(fr,w):=w;dsimp only;let j:∀{l:List (Str×Ga)},(∀y∈l,y∈a.names)->∀y∈l,y.2=.local->Env.kindOf {d with scope:=relabel a env} y.1=-.local:=λ{l} hl y C yl=>lookup_relabel_local (h5 y (hl y C) yl);let c:∀{q:Str×Ga->Bool} {y},y∈(a.names.filter q).reverse->y∈a.names:=λz=>(E4.1 (List.mem_reverse.1 z)).1;show Bt (Aa (Fv (Bt (wpAny_run (G5 w λr U H=>?_)))));cases r with
 |error x=>
  let(m,o,k):=H;show Aa (Bt (P8 (cenv:={d with scope:=relabel a env}) t _ U m (j λy=>c) o λp Y _ b=>?_));let z:=Cu (k p b) (λ_ _ z=>z.elim) (λ_ _=>n) (Q':=Q);unfold Q2 at z ⊢;dsimp only;rw[fr];show z
 |ok f=>
  cases use with
  |none=>
   let(m,o,k):=H;show Aa (Bt (P8 (cenv:={d with scope:=relabel a env}) t _ U m (j λy=>c) o λp Y _ b=>Ab (k p b)))
  |some u=>
   show Aa (D2 (Aa (Bt (Cu H (λ_ s6 k=>?_) λ_ _=>n))));let(m,o,k):=k;show Aa (P8 (cenv:={d with scope:=relabel a env}) t _ s6 m (j λy C=>?_) o λp Y _ b=>Ab (k p b));show(Bn.1 C).elim (λz=>c (Jp z)) λz=>c (E3 z)
end
def Wa1(X:Cx)(a:Shared):Value->Shared->Prop:=λx b=>∃m,b.heap.Ns ↥a m/\∀c,Du ↥a b.heap c->wpAny (model X.prog X.w) X.A (Q2 "comprehension.variables-let-go" x X.env:Sem Value) (λ_ _=>False) X.xe {b with heap:=c}
abbrev Wao(X:Cx)(a:Kb)(b:Shared):Value->Shared->Prop:=notedBy (model X.prog X.w) X.A (compEnvC a (clOf X.env.cells a.names []) ↥b X.env) (Wa1 X b)
section
variable {X:Cx} {N':List Str} {k:Nat} {keep:List Nat} {scope:Kb} {elt tg iter:Expr} {ifs:List Expr} {pos:Pos} {wi:TI} {g:TG} {tc:TT} {te:TE}
def Jpd{te':St->TE}{xe:St->Shared->Value->Shared->Prop}(c:Xv X N' k keep scope)(n:X.calm=true)(E:PI X tg iter wi)
  (L:∀a H i d f,PG (Xi X N' scope a H i d (xe f a)) tg g)(hc:∀a H i d f,PTs (Xi X N' scope a H i d (xe f a)) ifs tc)(N:∀a H i d f,Zh X d f H a i->PE (Xi X N' scope a H i d (xe f a)) elt (te' f))
  (U:∀f a e j,xe f a e j->Wao X scope a e j)
  (hs:∀x,D3 iter X.env x=pure x):PE X (.ListComp elt [#[tg,iter,ifs,0]] scope pos) (λf H Q=>Zi k keep wi g tc (te' f) f H Q):=by
 intro d s f H Q I h;rw[eval_ListComp];show Jhk (use:=none) rfl hs (Jcp (c.clo I.ok)) c.kind c.names ?_;show thn (E d s f H _ I h) λv s1 Y=>thn Y λitv s2 h2=>?_;let(it,fp,tn,J,H2,e,I2,T,r,f2,hW):=h2;subst e;show Jfo c (λ_ _=>n) I2 T.toC r f2 (xe:=xe f) (λa i=>L a H2 i d f) (λa i=>hc a H2 i d f) (λa i b=>N a H2 i d f b) (λa D e j z=>U f a e j z) hW (RR:=λt C=>compEnd (model X.prog X.w) X.A X.xe none (EP X d f Q) X.env t C) ?_;intro D C j y A m I' l p u new hn q;exists m,hn,λh' w=>?_;let I3:Inv X d f (upd y D (.lst A)) j:=I'.adopt l.1 l.2.1 l.2.2.1 l.2.2.2.1 l.2.2.2.2 new;let I4:Inv X d f (upd y D (.lst A)) {j with heap:=h'}:=I3.turned (t':=j.toks) (it:=C) (λb o hb e=>w.extBut b o hb e) (by rw[Jad u.symm];show p.1) p.2.2.1 (.inr p.2.1) p.2.2.2.1 p.2.2.2.2;exists .ref D,_,I4,rfl,q D l.1
def Jo2{te':St->TE}{xe:St->Shared->Value->Shared->Prop}{p:Pos}(hN:X.N.Nodup)(E:X.N[i]? =-y)(hy:Loc X.env.scope y)(hf:X.fn y=true\/X.env.scope.names.lookup y=-.local)
  (L:Hy (.ListComp elt [#[tg,iter,ifs,0]] scope pos) (-(.Name y u)) p.line X.env=pure true)
  (c:Xv X N' k keep scope)(w:X.calm=true)(hi:PI X tg iter wi)
  (hg:∀d H l f j,PG (Xi X N' scope d H l f (xe j d)) tg g)(hc:∀d H l f j,PTs (Xi X N' scope d H l f (xe j d)) ifs tc)(he:∀d H l f j,Zh X f j H d l->PE (Xi X N' scope d H l f (xe j d)) elt (te' j))
  (hE:∀j d e n,xe j d e n->Wao X scope d e n)
  (hs:∀x,D3 iter X.env x=pure x):PS X (.Assign [.Name y u] (.ListComp elt [#[tg,iter,ifs,0]] scope pos) p) (Waa (λj H Q=>Zi k keep wi g tc (te' j) j H Q) (Zx i)):=by
 intro f s j H D0 I h;rw[exec_Assign_Name_used _ _ _ _ L];show Aa (Od (Aa ?_));change wpAny _ X.A (do let _<-comprehension (.ListComp elt [#[tg,iter,ifs,0]] scope pos) scope X.env _ (newList []) false (eval iter X.env) (-(assign (.Name y u) X.env))) _ _ s;show Aa (Cu (Jhk (use:=-(assign (.Name y u) X.env)) (Q:=λ_ n=>SP X f D0 .next n) rfl hs (Jcp (c.clo I.ok)) c.kind c.names ?_) (λ_ n hq=>Ab (Ab hq)) λ_ _ e=>e);show thn (hi f s j H _ I h) λv s1 h1=>thn h1 λitv s2 h2=>?_;let(it,fp,tn,J,H2,e,I2,T,N,f2,hW):=h2;subst e;show Jfo c (λ_ _=>w) I2 T.toC N f2 (xe:=xe j) (λd l=>hg d H2 l f j) (λd l=>hc d H2 l f j) (λd l b=>he d H2 l f j b) (λd D e n z=>hE j d e n z) hW (RR:=λU C=>compEnd (model X.prog X.w) X.A X.xe (-(assign (.Name y u) X.env)) (λ_ n=>SP X f D0 .next n) X.env U C) ?_;intro D C n H' xs m I' t r Y new hn q;let I3:Inv X f j (upd H' D (.lst xs)) n:=I'.adopt t.1 t.2.1 t.2.2.1 t.2.2.2.1 t.2.2.2.2 new;change wpAny _ X.A (assign (.Name y u) X.env (.ref D)) _ _ _;show W0 (Jg2 I3 hN E hy (v:=.ref D) rfl (λA I5 hsb=>?_) hf);let(a,sb,ha):=hsb;let hCa:C≠a:=by
  rcases ha with e|e
  .rw[e];show r.2.2.1
  .show λz=>r.2.2.2.1 y a e z.symm
 exists m,hn.sameBut sb hCa,λh' hs'=>?_;let I4:Inv X f (j.set i (-(.ref D))) (upd H' D (.lst xs)) {A with heap:=h'}:=I5.turned (t':=A.toks) (it:=C) (λb o hb e=>hs'.extBut b o hb e) (by rw[Jad Y.symm];show r.1) r.2.2.1 (.inr r.2.1) r.2.2.2.1 r.2.2.2.2;exists _,_,I4,q D t.1
def Jmf(c:Xv X N' k keep scope)(e:X.calm=true)(f:PI X tg iter wi)
  (h:∀a H d b,PG (Xi X N' scope a H d b) tg g)(hc:∀a H d b,PTs (Xi X N' scope a H d b) ifs tc)(i:∀a H d b,PE (Xi X N' scope a H d b) elt te)
  (hs:∀x,D3 iter X.env x=pure x):PE X (.ListComp elt [#[tg,iter,ifs,0]] scope pos) (Zi k keep wi g tc te):=
 Jpd (te':=λ_=>te) (xe:=λ_ _ _ _=>False) c e f (λa H d b _=>h a H d b) (λa H d b _=>hc a H d b) (λa H d b _ _=>i a H d b) (λ_ _ _ _ z=>z.elim) hs
def Jt2{e:Pos}(l:X.N.Nodup)(h:X.N[i]? =-y)(m:Loc X.env.scope y)(n:X.fn y=true\/X.env.scope.names.lookup y=-.local)
  (j:Hy (.ListComp elt [#[tg,iter,ifs,0]] scope pos) (-(.Name y o)) e.line X.env=pure true)(c:Xv X N' k keep scope)(f:X.calm=true)(p:PI X tg iter wi)
  (r:∀a H d b,PG (Xi X N' scope a H d b) tg g)(hc:∀a H d b,PTs (Xi X N' scope a H d b) ifs tc)(s:∀a H d b,PE (Xi X N' scope a H d b) elt te)
  (hs:∀x,D3 iter X.env x=pure x):PS X (.Assign [.Name y o] (.ListComp elt [#[tg,iter,ifs,0]] scope pos) e) (Waa (Zi k keep wi g tc te) (Zx i)):=
 Jo2 (te':=λ_=>te) (xe:=λ_ _ _ _=>False) l h m n j c f p (λa H d b _=>r a H d b) (λa H d b _=>hc a H d b) (λa H d b _ _=>s a H d b) (λ_ _ _ _ z=>z.elim) hs
end
end L2
namespace LR
open PySem PySem.Spec PyProof.Rows PySem.F
section
variable {prog:Program} {w:World} {A:Bo} {E:Value->Shared->Prop} {s:Shared}
def Zu(b:IsTup s.heap l a):s.TypeIs (.ref l) "tuple":=let#[o,c,hc,_]:=b;#[o,c,hc]
end
end LR
namespace L2
open PySem PySem.Spec PyProof.Rows
end L2
namespace HT
open PySem PySem.Spec PyProof.Rows
section
variable {prog:Program} {w:World} {A:Bo} {E:Value->Shared->Prop} {s:Shared}
def Jb9{t sl:Addr}{a:Array Value}{g i:Value}{lo c:Option Int}{Q:Value->Shared->Prop}(b:IsTup s.heap t a)(hs:s.heap.IsSliceOf sl g i .none)(pl:Nn g lo)(k:Nn i c)
  (j:sIx a.size 0 lo=0/\sIx a.size a.size c=a.size)(h:Q (.ref t) s):wpAny (model prog w) A (Mq (.ref t) (.ref sl)) Q E s:=by
 let(os,d,e,l):=id hs;let f:s.TypeIs (.ref sl) "slice":=#[os,d,e]
 unfold Mq
 try with_reducible show Bt ?_
 first|show Aa (Ab ?_)|skip
 show Aa (Wy b.typeIs 'd' ?_);show Aa (B9 (name:=Ac "__getitem__") b.typeIs C1
  (Bq C1 b.typeIs Vn ?_ (Wr _ _)))
 change wpAny _ _ (Jd (.ref t)>>=_) _ _ s;show Aa (Oh b ?_);show Aa (G4 f ?_);rw[if_pos 'd'];show Aa (Jbo hs pl k ?_);change wpAny _ _ (if(((sIx a.size 0 lo:Nat):Int)==0&&(1:Int)==1&&(sIx a.size a.size c-sIx a.size 0 lo)==a.size)=true then _ else _) _ _ s;rw[if_pos (by rw[j.1,j.2];simp)];show Aa (m:=M4 (.ref t)) ?_;unfold M4;show Aa (G4 b.typeIs ?_);show Ab ?_;rw[if_pos 'd'];show Aa (D2 (Ab #[_,rfl,Ab h]))
end
end HT
namespace L2
open PySem PySem.Spec PyProof.Rows
variable {X:Cx}
def Wb9(K:Ah):V->Option Int->Option Int->Hp->VK->Prop:=λx lo c H Q=>∃a b,x=.ref a/\SqT K H a b/\
 (HT.sIx ⇑b 0 lo=0/\HT.sIx ⇑b ⇑b c=⇑b)/\Q (.ref a) H
def Jtm:SlR X (Wb9 X.K):=by
 intro d s l H x v m n lo o sl Q I rx f pl g h;let(a,i,rfl,j,k,q):=h;cases rx;let(c,r,e,p):=I.tuple j;let b:c.toArray.size=⇑i:=by rw[Aw];show r.length.symm
 exists"tuple",_,C1.lookup,e.typeIs,HT.Jb9 e f pl g (by rw[b];show k) #[.ref a,H,I,rfl,q]
end L2
namespace L2
open PySem PySem.Spec PyProof.Rows
section
variable {κ:Type} [DecidableEq κ]
noncomputable def X3(kvs:List (κ×V))(k:κ):Option V:=(kvs.find? λa=>decide (a.1=k)).map (·.2)
noncomputable def putK(kvs:List (κ×V))(k:κ)(v:V):List (κ×V):=
 if(kvs.any λa=>decide (a.1=k))=true then kvs.map (λa=>if a.1=k then(a.1,v)else a)else kvs++[(k,v)]
noncomputable def X9(kvs:List (κ×V))(k:κ):List (κ×V):=kvs.filter λa=>decide (a.1≠k)
def Jc7{p:κ×V}(e:p.1=k):X3 (p::r) k=some p.2:=by simp[X3,D4,e]
def Jc8{p:κ×V}(e:¬p.1=k):X3 (p::r) k=X3 r k:=by simp[X3,D4,e]
theorem Jjf(k:κ):∀kvs:List (κ×V),(kvs.any λa=>decide (a.1=k))=(X3 kvs k).isSome
 |[]=>rfl
 |p::r=>by
  rw[Gy]
  by_cases e:p.1=k
  .simp only[Jc7 e,decide_eq_true e,Bool.true_or,Option.isSome_some]
  .rw[Jc8 e,decide_eq_false e,Bool.false_or];show Jjf k r
def Jdu(kvs:List (κ×V))(k:κ)(v:V):(putK kvs k v).length<=⇑kvs+1:=by
 unfold putK;split
 .rw[Ag];lia
 .rw[Al,Bh,H9];lia
theorem RelO.isSome_eq{o:Option V}{u:Option Value}(r:RelO o u):o.isSome=u.isSome:=by
 cases o with
 |none=>cases u with
  |none=>rfl
  |some _=>show(show False from r).elim
 |some _=>cases u with
  |none=>show(show False from r).elim
  |some _=>rfl
theorem RelO.getD{o:Option V}{u:Option Value}(r:RelO o u)(a:RelV d d'):RelV (o.getD d) (u.getD d'):=by
 cases o with
 |none=>cases u with
  |none=>show a
  |some _=>show(show False from r).elim
 |some _=>cases u with
  |none=>show(show False from r).elim
  |some _=>show r
theorem KV.val(r:KV kvs vs)(k:κ):RelO (X3 kvs k) (Nt vs k):=by
 unfold KV at r
 induction r with
 |nil=>show Fp
 |@cons p q i a h t f=>
  let(d,g):=h
  by_cases e:p.1=k
  .let c:q.1=k:=d.symm.trans e;let b:Nt (q::a) k=some q.2:=by simp[Nt,D4,c]
   rw[Jc7 e,b];show g
  .let c:¬q.1=k:=λz=>e (d.trans z);let b:Nt (q::a) k=Nt a k:=by simp[Nt,D4,c]
   rw[Jc8 e,b];show f
theorem KV.any{kvs:List (κ×V)}{vs:List (κ×Value)}(r:KV kvs vs)(k:κ):(kvs.any λa=>decide (a.1=k))=vs.any λa=>decide (a.1=k):=by
 unfold KV at r
 induction r with
 |nil=>rfl
 |cons h t b=>rw[Gy,Gy,b,h.1]
theorem KV.repl{kvs:List (κ×V)}{vs:List (κ×Value)}(r:KV kvs vs)(k:κ)(c:RelV y u):
  KV (kvs.map λa=>if a.1=k then(a.1,y)else a) (vs.map λa=>if a.1=k then(a.1,u)else a):=by
 unfold KV at r ⊢
 induction r with
 |nil=>show .nil
 |@cons p q g i h t d=>
  rw[Bf,Bf];show .cons ?_ d;let(b,f):=h
  by_cases e:p.1=k
  .rw[if_pos e,if_pos (b.symm.trans e)];exists b,c
  .rw[if_neg e,if_neg (λz=>e (b.trans z))];exists b,f
def KV.put(r:KV kvs vs)(k:κ)(a:RelV y u):KV (putK kvs k y) (stored vs k u):=by
 unfold putK stored;rw[r.any k]
 by_cases e:(vs.any λb=>decide (b.1=k))=true
 .rw[if_pos e,if_pos e];show r.repl k a
 .rw[if_neg e,if_neg e];show Wm r #[rfl,a]
theorem KV.drop(r:KV kvs vs)(k:κ):KV (X9 kvs k) (without vs k):=by
 unfold KV at r ⊢;unfold X9 without
 induction r with
 |nil=>show .nil
 |@cons p q i j h t d=>
  let(c,f):=h;rw[Ey,Ey]
  by_cases e:p.1=k
  .let a:¬decide (p.1≠k)=true:=by simp[e]
   let b:¬decide (q.1≠k)=true:=by simp[c.symm.trans e]
   rw[if_neg a,if_neg b];show d
  .let g:¬q.1=k:=λz=>e (c.trans z);let a:decide (p.1≠k)=true:=by simp[e]
   let b:decide (q.1≠k)=true:=by simp[g]
   rw[if_pos a,if_pos b];show .cons #[c,f] d
def KV.length{kvs:List (κ×V)}{vs:List (κ×Value)}(r:KV kvs vs):⇑kvs=⇑vs:=Cf r
def Jj7(kvs:List (κ×V))(k:κ):(X9 kvs k).length<=⇑kvs:=Jf _ _
end
theorem Jiv(r:RelV (kV k) u):(mixKind P w).is k u=true:=by
 cases k with
 |inl i=>let(t,e):=(show∃t,u=Eg i t from r);subst e;show Jio P w i t
 |inr x=>let(t,e):=(show∃t,u=N8 x t from r);subst e;show Jin P w x t
theorem Jd1:∀{ks:List Key} {us:List Value},Vals (ks.map kV) us->ItemsAre (mixKind P w) ks us
 |[],_,r=>by rw[Lr]at r;cases r;show .nil
 |k::ks,_,r=>by
  rw[Bf]at r;cases r with
  |cons h t=>show .cons (Jiv h) (Jd1 t)
abbrev KT(H:Hp):List (List Key×V)->List (List Key×Addr×Value)->Prop:=Paired λp q=>p.1=q.1/\H q.2.1=-(.tup (p.1.map kV))/\RelV p.2 q.2.2
theorem KT.val(r:KT H kvs xs)(k:List Key):RelO (X3 kvs k) ((Hl xs k).map (·.2)):=by
 induction r with
 |nil=>show Fp
 |@cons p q i a h t f=>
  let(d,_,g):=h
  by_cases e:p.1=k
  .let c:q.1=k:=d.symm.trans e;let b:Hl (q::a) k=some q.2:=by simp[Hl,D4,c]
   rw[Jc7 e,b];show g
  .let c:¬q.1=k:=λz=>e (d.trans z);let b:Hl (q::a) k=Hl a k:=by simp[Hl,D4,c]
   rw[Jc8 e,b];show f
theorem KT.repl{kvs:List (List Key×V)}{xs:List (List Key×Addr×Value)}(r:KT H kvs xs)(k:List Key)(d:RelV y u):
  KT H (kvs.map λb=>if b.1=k then(b.1,y)else b) (xs.map (putAt k u)):=by
 induction r with
 |nil=>show .nil
 |@cons p q i j h t f=>
  rw[Bf,Bf];show .cons ?_ f;let(a,c,g):=h;unfold putAt
  by_cases e:p.1=k
  .rw[if_pos e,if_pos (a.symm.trans e)];exists a,c,d
  .rw[if_neg e,if_neg (λz=>e (a.trans z))];exists a,c,g
def KT.put(r:KT H kvs xs)(k:List Key)(hb:H b=-(.tup (k.map kV)))(a:RelV y u):
  KT H (putK kvs k y) (Rf xs k b u):=by
 let e:(kvs.any λc=>decide (c.1=k))=(Hl xs k).isSome:=by
  rw[Jjf,(r.val k).isSome_eq,F0]
 unfold putK Rf;rw[e]
 by_cases q:(Hl xs k).isSome=true
 .rw[if_pos q,if_pos q];show r.repl k a
 .rw[if_neg q,if_neg q];show Wm r #[rfl,hb,a]
def KT.keeps(r:KT H kvs xs)(a:∀b ys,H b=-(.tup ys)->H' b=-(.tup ys)):KT H' kvs xs:=
 Paired.mapP r λ_ _ z=>#[z.1,a _ _ z.2.1,z.2.2]
section
variable {P:Program} {w:World} {H:Hp} {h:Heap} {a:Addr}
def Jwv(b:HOk P w H h)(e:Rd H a u):Xg P w H h a u:=e.ok b
def Jgd{kvs:List (Key×V)}(b:HOk P w H h)(e:Rd H a (.dK kvs)):⇑kvs<=sizeLine/\(a==sysModules)=false/\∃vs,KV kvs vs/\h.DictOf (mixKind P w) a vs:=
 show Xg P w H h a (.dK kvs)from Jwv b e
def Jy3{kvs:List (Key×V)}(b:HOk P w H h)(e:H a=-(.dK kvs)):⇑kvs<=sizeLine/\(a==sysModules)=false/\∃vs,KV kvs vs/\h.DictOf (mixKind P w) a vs:=Jgd b (.inl e)
def Jdy{ks:List Key}(c:HOk P w H h)(e:H a=-(.tup (ks.map kV))):(tupleKind (mixKind P w)).is h ks a:=by
 let(_,b,r,o,d,f,n,g):=(show Xg P w H h a (.tup (ks.map kV))from c a _ e)
 exists o,b.toArray,n,d,f,g,by erw[Jd1 r]
def Jcn{kvs:List (List Key×V)}(c:HOk P w H h)(e:Rd H a (.dT kvs)):⇑kvs<=sizeLine/\(a==sysModules)=false/\
  ∃xs,KT H kvs xs/\h.DictOfH (tupleKind (mixKind P w)) a xs:=by
 let(z,y,xs,r,o,f,g,i,j,k,n,s):=(show Xg P w H h a (.dT kvs)from Jwv c e)
 exists z,y,xs,r,o,f,g,i,j,k,n,λx hx=>?_,s;let b:∀{l:List (List Key×V)} {m:List (List Key×Addr×Value)},KT H l m->∀x∈m,(tupleKind (mixKind P w)).is h x.1 x.2.1:=by
  intro l m q
  induction q with
  |nil=>intro x hx;show nomatch hx
  |@cons p q v A d t u=>
   intro x hx;rcases An.1 hx with e|hx
   .subst e;show Jdy c (by rw[<-d.1];show d.2.1)
   .show u x hx
 show b r x hx
def Jvg{kvs:List (List Key×V)}(b:HOk P w H h)(e:H a=-(.dT kvs)):⇑kvs<=sizeLine/\(a==sysModules)=false/\
  ∃xs,KT H kvs xs/\h.DictOfH (tupleKind (mixKind P w)) a xs:=Jcn b (.inl e)
end
def Y7(H:Hp)(a:Addr)(y:V)(r:Option V):Prop:=
 (∃c k,Rd H a (.dK c)/\y=kV k/\r=X3 c k)\/∃c k b,Rd H a (.dT c)/\y=.ref b/\H b=-(.tup (k.map kV))/\r=X3 c k
def Zs(H:Hp)(a:Addr)(y v:V)(H':Hp):Prop:=
 (∃c k,H a=-(.dK c)/\y=kV k/\⇑c<sizeLine/\H'=upd H a (.dK (putK c k v)))\/
 ∃c k b,H a=-(.dT c)/\y=.ref b/\H b=-(.tup (k.map kV))/\⇑c<sizeLine/\H'=upd H a (.dT (putK c k v))
def Y7.t{k:List Key}(e:H a=-(.dT kvs))(c:H b=-(.tup (k.map kV))):Y7 H a (.ref b) (X3 kvs k):=.inr #[kvs,k,b,.inl e,rfl,c,rfl]
def Zs.k{H:Hp}{a:Addr}{kvs:List (Key×V)}{k:Key}{v:V}(e:H a=-(.dK kvs))(b:⇑kvs<sizeLine):Zs H a (kV k) v (upd H a (.dK (putK kvs k v))):=.inl #[kvs,k,e,rfl,b,rfl]
def Zs.t{kvs:List (List Key×V)}{k:List Key}(e:H a=-(.dT kvs))(c:H b=-(.tup (k.map kV)))(d:⇑kvs<sizeLine):
  Zs H a (.ref b) v (upd H a (.dT (putK kvs k v))):=.inr #[kvs,k,b,e,rfl,c,d,rfl]
section
variable {X:Cx} {pins:List (Addr×Obj)} {σ:St} {H:Hp} {s:Shared} {a:Addr} {y v:V} {u r:Value} {o:Option V} {A:Bo} {E:Value->Shared->Prop}
def Inv.big(I:Inv X pins σ H s):sysModules<↥s:=by
 let h:Bl<↥s:=(I.mod.glob.keeps I.bk).lt;show F4 'd' h
def Jnq{Q:Value->Shared->Prop}(x:A.units+1<Dm)(I:Inv X pins σ H s)(g:Y7 H a y (-v))(t:RelV y u)(h:∀f w,Inv X pins σ H w->RelV v f->Q f w):
  wpAny (model X.prog X.w) A (Mq (.ref a) u) Q E s:=by
 rcases g with⟨i,k,e,j,l⟩|⟨i,k,b,e,j,C,l⟩
 .subst j;let(z,hd,J,c,dd):=Jgd I.hok e;let(f,m,d):=RelO.some_of (v:=v) (o:=Nt J k) (by rw[l];show c.val k);show wpAny_getItem_of (Jiv t) dd.mapOf m (h f _ (I.tok _) d)
 .subst j;cases(show u=Ax b from t);let(z,hd,L,c,dd):=Jcn I.hok e;let(f,m,d):=RelO.some_of (v:=v) (o:=(Hl L k).map (·.2)) (by rw[l];show c.val k);let(p,hp,n):=Ai.1 m;show V6 (Dw x) (Jdy I.hok C) dd hp ?_;rw[n];show h f _ (I.tok _) d
def Wef{Q:Value->Shared->Prop}(m:A.units+1<Dm)(I:Inv X pins σ H s)(g:Y7 H a y o)(i:RelV y u)(h:∀j,Inv X pins σ H j->Q (.bool o.isSome) j):
  wpAny (model X.prog X.w) A (Ef .In u (.ref a)) Q E s:=by
 rcases g with⟨d,k,e,f,l⟩|⟨d,k,b,e,f,n,l⟩
 .subst f;let(z,hd,p,c,dd):=Jgd I.hok e;show wpAny_in_of (Jiv i) hd dd.mapOf ?_;rw[<-(c.val k).isSome_eq,<-l];show h _ (I.tok _)
 .subst f;cases(show u=Ax b from i);let(z,hd,t,c,dd):=Jcn I.hok e;show wpAny_in_heap (Dw m) (Jdy I.hok n) hd dd ?_;let q:=(c.val k).isSome_eq;rw[F0]at q;rw[<-q,<-l];show h _ (I.tok _)
def Jvk{Q:Value->Shared->Prop}(m:A.units+1<Dm)(I:Inv X pins σ H s)(g:Y7 H a y o)(i:RelV y u)(h:∀j,Inv X pins σ H j->Q (.bool (!o.isSome)) j):
  wpAny (model X.prog X.w) A (Ef .NotIn u (.ref a)) Q E s:=by
 rcases g with⟨d,k,e,f,l⟩|⟨d,k,b,e,f,n,l⟩
 .subst f;let(z,hd,p,c,dd):=Jgd I.hok e;show wpAny_notIn_of (Jiv i) hd dd.mapOf ?_;rw[<-(c.val k).isSome_eq,<-l];show h _ (I.tok _)
 .subst f;cases(show u=Ax b from i);let(z,hd,t,c,dd):=Jcn I.hok e;show wpAny_notIn_heap (Dw m) (Jdy I.hok n) hd dd ?_;let q:=(c.val k).isSome_eq;rw[F0]at q;rw[<-q,<-l];show h _ (I.tok _)
def Jef{h':Heap}(I:Inv X pins σ H s)(c:Mut (H a))(hs:Du a s.heap h')(d:∃q,h'.get? a=-q)(new:Xg X.prog X.w (upd H a ob) h' a ob):
  Inv X pins σ (upd H a ob) {s with heap:=h',toks:=t'}:=
 I.write (x:=a) (e:=a) c (.inl rfl) (λb q hb z=>(hs.2 b hb).trans z) d new
def Jnn{h':Heap}{kvs:List (Key×V)}(z:⇑kvs<=sizeLine)(hd:(a==sysModules)=false)(b:KV kvs vs)(dd:h'.DictOf (mixKind P w) a vs):
  Xg P w H' h' a (.dK kvs):=#[z,hd,vs,b,dd]
def Jhj{Q:Unit->Shared->Prop}(Y:A.units+1<Dm)(I:Inv X pins σ H s)(g:Zs H a y v H')(x:RelV y u)(C:RelV v r)(h:∀J,Inv X pins σ H' J->Q () J):
  wpAny (model X.prog X.w) A (W2 (.ref a) u r) Q E s:=by
 rcases g with⟨d,k,e,m,l,n⟩|⟨d,k,b,e,m,L,l,n⟩
 .subst m n;let(z,hd,vs,f,dd):=Jy3 I.hok e;let p:⇑vs<=sizeLine:=by rw[<-⇑f];show z
  let t:(putK d k v).length<=sizeLine:=by let:=Jdu d k v;lia
  show wpAny_setItem_pairs (hsz:=p) (Jiv x) dd λN i w=>h _ ?_;let he:∃q,N.get? a=-q:=let#[q,_,_,j,_]:=i;#[q,j];show Jef I (by rw[e];show Fp) w he (Jnn t hd (f.put k C) i)
 .subst m n;cases(show u=Ax b from x);let(z,hd,xs,f,dd):=Jvg I.hok e;let p:⇑xs<=sizeLine:=by rw[<-Cf f];show z
  let t:(putK d k v).length<=sizeLine:=by let:=Jdu d k v;lia
  show V5 (hsz:=p) (Dw Y) (Jdy I.hok L) dd λN i w=>h _ ?_;let(q,es,ep,j,h2,h3,h4,_,h5):=i;show Jef I (by rw[e];show Fp) w #[q,j] #[t,hd,_,(f.put k L C).keeps λc ys U=>?_,q,es,ep,j,h2,h3,h4,h5];rw[Jad (Jes U e (λz=>nomatch z))];show U
end
section
variable {X:Cx} {pins:List (Addr×Obj)} {σ:St} {H:Hp} {s:Shared} {a:Addr} {kvs:List (Key×V)} {k:Key} {u:Value} {A:Bo} {E:Value->Shared->Prop}
def J0w{Q:Value->Shared->Prop}(I:Inv X pins σ H s)(e:H a=-(.dK kvs))(g:RelV (kV k) u)(l:X3 kvs k=-v)(m:b=[]\/∃x,b=[x])
  (h:∀d n,Inv X pins σ (upd H a (.dK (X9 kvs k))) n->RelV v d->Q d n):wpAny (model X.prog X.w) A (call (.builtin "dict.pop") (.ref a::u::b)) Q E s:=by
 let(z,hd,p,c,dd):=Jy3 I.hok e;let(d,r,j):=RelO.some_of (v:=v) (o:=Nt p k) (by rw[<-l];show c.val k);let hp:(Nv u).isSome=true:=by
  cases k with
  |inl i=>let(t,q):=(show∃t,u=Eg i t from g);subst q;rfl
  |inr x=>let(t,q):=(show∃t,u=N8 x t from g);subst q;rfl
 let w:argsOk "dict.pop" #[.ref a::u::b,[]]:=by
  rcases m with q|⟨x,q⟩
  .subst q;show Pw _ _
  .subst q;show PySem.F.args_dict_pop_3 _ _ _
 show Pb Lj dd.typeIs Qf w (meets_dict_pop_there (mixKind X.prog X.w) a (Jiv g) b m hp)
  #[p,d,dd,by rw[<-⇑c];show z,r,λy f C=>h d _ ?_ j]
 let J:∃q,y.get? a=-q:=let#[q,_,_,L,_]:=f;#[q,L];show Jef I (by rw[e];show Fp) C J (Jnn (B3 (Jj7 kvs k) z) hd (c.drop k) f)
def J0y{Q:Value->Shared->Prop}(I:Inv X pins σ H s)(e:Rd H a (.dK kvs))(h:∀t c,Inv X pins σ H c->Q (.int ⇑kvs t) c):wpAny (model X.prog X.w) A (call (.builtin "len") [.ref a]) Q E s:=by
 let(z,hd,d,b,dd):=Jgd I.hok e;show call_len_dict hd dd (by rw[<-⇑b];rw[G2]at z;lia) ?_;rw[<-⇑b];show h _ _ (I.tok _)
end
def Ji0{s:Shared}(I:Inv X d f H s)(g:Y7 H a y o):s.TypeIs (.ref a) "dict":=by
 rcases g with⟨c,k,e,_,_⟩|⟨c,k,b,e,_,_,_⟩
 .let(_,_,h,_,dd):=Jgd I.hok e;show dd.typeIs
 .let(_,_,i,_,dd):=Jcn I.hok e;show dd.typeIs
section
variable {X:Cx} {o i e value:Expr} {pos pos' tpos:Pos} {td ty tv:TE}
end
def Jqf(h:Heap)(hb:sysModules<h.objs.size):Xg P w H (h.push {cls:=.type "dict",data:=.dict #[]}) h.objs.size (.dK []):=
 #[Dk _,beq_eq_false_iff_ne.2 (E9 (A5 hb)),[],.nil,Heap.DictOf.new h]
def Jqe(h:Heap)(hb:sysModules<h.objs.size):Xg P w H (h.push {cls:=.type "dict",data:=.dict #[]}) h.objs.size (.dT []):=
 #[Dk _,beq_eq_false_iff_ne.2 (E9 (A5 hb)),[],.nil,_,#[],0,Ak _ rfl,#[rfl,rfl,rfl],rfl,rfl,Iw]
def Wbe:TE:=λ_ H Q=>∀p,H p=none->Q (.ref p) (upd H p (.dK []))
def Wbd:TE:=λ_ H Q=>∀p,H p=none->Q (.ref p) (upd H p (.dT []))
section
variable {X:Cx} {pos:Pos}
def Jpc:PE X (.Dict [] [] pos) Wbe:=λb s c H Q I h=>
 P9 #[.ref ↥s,_,I.laid (a:=↥s) (o:=.dK []) (t':=s.toks) (λ_ _ q=>Af _ q) (Aj _) (Jqf s.heap I.big),rfl,h _ (I.hok.fresh (Aj _))]
def Jpa:PE X (.Dict [] [] pos) Wbd:=λb s c H Q I h=>
 P9 #[.ref ↥s,_,I.laid (a:=↥s) (o:=.dT []) (t':=s.toks) (λ_ _ q=>Af _ q) (Aj _) (Jqe s.heap I.big),rfl,h _ (I.hok.fresh (Aj _))]
end
def IsD(H:Hp)(a:Addr):Prop:=(∃b,Rd H a (.dK b))\/∃b,Rd H a (.dT b)
def Jm7{s:Shared}(I:Inv X h i H s)(d:IsD H a):
  s.TypeIs (.ref a) "dict"/\(∀b,Ax a=.ref b->∃ob,s.heap.get? b=-ob/\ob.dict=none)/\(a==sysModules)=false:=by
 rcases d with⟨c,e⟩|⟨c,e⟩
 .let(_,hd,j,_,dd):=Jgd I.hok e;exists dd.typeIs,λb q=>?_,hd;cases q;let(ob,_,_,f,g,_):=dd;exists ob,f,g.2.1
 .let(_,hd,k,_,dd):=Jcn I.hok e;exists dd.typeIs,λb q=>?_,hd;cases q;let(ob,_,_,f,g,_):=dd;exists ob,f,g.2.1
section
variable {X:Cx} {pins:List (Addr×Obj)} {σ:St} {H:Hp} {s:Shared} {a:Addr} {y d:V} {u r:Value} {o:Option V} {A:Bo} {E:Value->Shared->Prop}
theorem Jza{Q:Value->Shared->Prop}(p:A.units+1<Dm)(I:Inv X pins σ H s)(g:Y7 H a y o)(j:RelV y u)(h:∀m n,Inv X pins σ H n->RelV (o.getD .non) m->Q m n):
  wpAny (model X.prog X.w) A (call (.builtin "dict.get") [.ref a,u]) Q E s:=by
 rcases g with⟨f,k,e,i,l⟩|⟨f,k,b,e,i,t,l⟩
 .subst i;let(z,hd,w,c,dd):=Jgd I.hok e;show Pb Iq dd.typeIs Qg (Px _ _) (meets_dict_get (mixKind X.prog X.w) a (Jiv j) hd) #[_,dd.mapOf,h _ _ (I.tok _) ?_];rw[l];show(c.val k).getD rfl
 .subst i;cases(show u=Ax b from j);let(z,hd,v,c,dd):=Jcn I.hok e;show Pb Iq dd.typeIs Qg (Px _ _) (meetsH_dict_get (tupleKind (mixKind X.prog X.w)) a b hd) #[Dw p,k,v,Jdy I.hok t,dd,h _ _ (I.tok _) ?_];rw[l];show(c.val k).getD rfl
end
section
variable {X:Cx} {o e f:Expr} {apos cpos:Pos} {td ty tx:TE}
end
section
variable {X:Cx} {pins:List (Addr×Obj)} {σ:St} {H:Hp} {s:Shared} {a:Addr} {kvs:List (Key×V)} {A:Bo} {E:Value->Shared->Prop}
def Jqi{Q:Value->Shared->Prop}(I:Inv X pins σ H s)(e:Rd H a (.dK kvs))(h:∀p f,H p=none->Inv X pins σ (upd H p (.dK kvs)) f->Q (.ref p) f):wpAny (model X.prog X.w) A (call (.type "dict") [.ref a]) Q E s:=by
 let(z,hd,j,c,dd):=Jgd I.hok e;show kt_call_dict hd dd (by rw[<-⇑c];show z) λk d i=>?_;show h _ _ (I.hok.fresh (Aj _)) (I.laid (a:=↥s) (o:=.dK kvs) (t':=s.toks) (λb q g=>?_) (Aj _) (Jnn z (beq_eq_false_iff_ne.2 (E9 (A5 I.big))) c d));show(i.2 b (A5 (Aq g))).trans (Af _ g)
end
section
variable {X:Cx} {pins:List (Addr×Obj)} {σ:St} {H:Hp} {s:Shared} {a:Addr} {y:V} {u:Value} {A:Bo} {E:Value->Shared->Prop}
end
end L2
namespace LZ
open PySem PyProof.Rows
open AutoSeq1 (wpAny_loadPart')
section
variable {prog:Program} {w:World} {A:Bo} {E:Value->Shared->Prop} {s:Shared}
def nx{Q:Value->Shared->Prop}(b:s.heap.IsTupleIter j u i)(e:s.heap.IsTuple u us)(f:us[i]? =-x)
  (k:∀h',h'.IsTupleIter j u (i+1)->Du j s.heap h'->Q x {s with heap:=h'}):wpAny (model prog w) A (Dj (.ref j)) Q E s:=by
 let(o,a,c,d):=id b;let(h,g,_,n,dt):=e;unfold Dj;show Aa (B9 (name:=Ac "__next__") b.typeIs Hq (Bq Hq b.typeIs Qt ?_ (Qh _)));change wpAny _ _ (Tq (.ref j) 0>>=_) _ _ s;show Aa (Cv a d (x:=.ref u) rfl ?_);change wpAny _ _ (if(Ax u==C7)=true then _ else _) _ _ s;rw[if_neg (show¬((Ax u==C7)=true)from Bb)];change wpAny _ _ (Tq (.ref j) 1>>=_) _ _ s;show Aa (Cv a d (x:=.int i 0) rfl ?_);change wpAny _ _ (To (.ref u)>>=_) _ _ s;show Aa (E6 g dt ?_);simp only[Er,f];show Aa (K8 a d 's' (Ab #[x,rfl,Ab (k _ ?_ (Ds ..))]));exists _,Di _ a (Sj (Kl d _)),(Ur ..).trans c,by rw[Kl d];simp[rawInt]
def Jxv{Q:Value->Shared->Prop}(g:A.handled=none)(b:s.heap.IsTupleIter j u i)(h:s.heap.IsTuple u us)(l:us[i]? =none)
  (k:∀h' e,Sk j s.heap h'->(∃o,h'.get? e=-o/\o.cls=.type "StopIteration")->E (.ref e) {s with heap:=h'}):wpAny (model prog w) A (Dj (.ref j)) Q E s:=by
 let(o,f,c,d):=id b;let(r,p,_,n,dt):=h;unfold Dj;show Aa (B9 (name:=Ac "__next__") b.typeIs Hq (Bq Hq b.typeIs Qt ?_ (Qh _)));change wpAny _ _ (Tq (.ref j) 0>>=_) _ _ s;show Aa (Cv f d (x:=.ref u) rfl ?_);change wpAny _ _ (if(Ax u==C7)=true then _ else _) _ _ s;rw[if_neg (show¬((Ax u==C7)=true)from Bb)];change wpAny _ _ (Tq (.ref j) 1>>=_) _ _ s;show Aa (Cv f d (x:=.int i 0) rfl ?_);change wpAny _ _ (To (.ref u)>>=_) _ _ s;show Aa (E6 p dt ?_);simp only[Er,l];show Aa (D2 (Aa (K8 f d 's' ?_)));change wpAny _ _ (T9 (.type "StopIteration") []>>=_) _ _ _;show Aa ?_;simp only[T9,newTuple];show Aa (B5 ?_ (by size_fits));show Aa (m:=Ji _ _) (Ql (a:=C7) (by first|rfl|(simp only[Ji];rfl)) ?_);show B5 ?_ (by size_fits);simp only[raiseNew];show Aa (Sz ?_);first|rw[show A.in1.handled=none from g]|rw[g]
 show Aa (Ab (Ux ?_));show k _ _ (((Ds ..).extBut.push _).push _) #[_,Ak _ rfl,rfl]
end
def Sr(b:Bool)(h:Heap)(l:Addr)(its:Array Value):Prop:=if b=true then h.IsList l its else h.IsTuple l its
def Ir(b:Bool)(h:Heap)(it l:Addr)(i:Nat):Prop:=if b=true then h.IsListIter it l i else h.IsTupleIter it l i
def Ir.obj{h:Heap}(x:Ir b h it l i):∃o a,h.get? it=-o/\o.data=.fields a:=by
 cases b
 .let(o,e,_,d):=(show h.IsTupleIter it l i from x);exists o,_,e,d
 .let(o,e,_,d):=(show h.IsListIter it l i from x);exists o,_,e,d
def Ir.at{h h':Heap}(x:Ir b h it l i)(k:∀o,h.get? it=-o->h'.get? it=-o):Ir b h' it l i:=by
 cases b
 .show(show h.IsTupleIter it l i from x).at k
 .show(show h.IsListIter it l i from x).at k
def Sr.lt{h:Heap}(x:Sr b h l its):l<h.objs.size:=by
 cases b
 .let(o,e,_):=(show h.IsTuple l its from x);show Aq e
 .let(o,e,_):=(show h.IsList l its from x);show Aq e
def draw{A:Bo}(b:Bool)(g:A.handled=none)(it l:Addr)(c:l≠it)(a:Array Value):Draws prog w A it [it,l] a.size (λi v=>a[i]? =-v) (λi h=>Ir b h it l i/\Sr b h l a):=by
 cases b
 .show{live:=λ_ _ st=>let#[o,_,n,_]:=st.1.obj;#[o,n],frame:=λi h j st k=>#[st.1.at λo e=>k it 's' o e,(show h.IsTuple l a from st.2).at λo e=>k l 's' o e],item:=λi s Q E m st p=>nx st.1 st.2 (x:=a[i]) (by simp[m]) λj d f=>p _ j s.toks (by simp[m]) #[d,(show s.heap.IsTuple l a from st.2).extBut f.extBut c] f,done:=λs Q E st r=>Jxv g st.1 st.2 's' r}
 .show Draws.list g it l c a
def Jit(l:Addr)(a:Array Value)(n:Nat)(b:Option Addr)(sl:Array (Option Value)):
  Meets (Builtin.«enumerate.__new__» #[[.type "enumerate",.ref l],[]]) (λ_ R s=>s.heap.get? l=-{cls:=.type "tuple",dict:=b,data:=.seq a n,slots:=sl}/\
   R (.ok (.ret (.ref (s.heap.push {cls:=.type "tuple_iterator",data:=.fields (List.toArray [.ref l,.int 0 0])}).objs.size)))
    {s with heap:=(s.heap.push {cls:=.type "tuple_iterator",data:=.fields (List.toArray [.ref l,.int 0 0])}).push {cls:=.type "enumerate",data:=.fields (List.toArray [.none,.bool false,.ref ↥s,rawInt 0,.none,.none])}}):=
 .of_wp λe w A R s h=>by
  let(hp,g,d,tk,os):=s;let(c,h):=h;let f:=sub_enumerate;let i:Xa (Rh #[hp,g,d,tk,os]) l a:=#[_,c,rfl,n,rfl]
  wp_walk using Q0 c
  show wpAny_stack_any λst=>Ab ?_;generalize Nc _ _ _ _=q;cases q<;>(wp_walk using Q0 c,Oo i;exists _,rfl,h)
def Jn0{E:Value->Shared->Prop}{s:Shared}{Q:Value->Shared->Prop}(g:Sr b s.heap l a)
  (h:∀h',IsEnum h' (↥s+1) ↥s 0 .none->Ir b h' ↥s l 0->
   (∀b o,s.heap.get? b=-o->h'.get? b=-o)->Q (.ref (↥s+1)) {s with heap:=h'}):
  wpAny (model prog w) A (call (.type "enumerate") [.ref l]) Q E s:=by
 cases b
 .obtain⟨⟨c,d,dt,sl⟩,i,hc,n,hd⟩:=(show s.heap.IsTuple l a from g)
  replace hc:c=.type "tuple":=hc
  replace hd:dt=.seq a n:=hd
  subst hc hd;show callType_new F.called_enumerate 'd' (F.typeCall_enumerate_1 _) (F.newCall_enumerate_1 _) (λe=>F.args_object_init_2 e _) F.entry_enumerate_new (Jit l a n d sl) #[i,?_];let m:(s.heap.push {cls:=.type "tuple_iterator",data:=.fields (List.toArray [.ref l,.int 0 0])}).objs.size=↥s+1:=C4 ..;change _/\_;let f:=Ak (s.heap.push {cls:=.type "tuple_iterator",data:=.fields (List.toArray [.ref l,.int 0 0])}) (o:={cls:=.type "enumerate",data:=.fields (List.toArray [.none,.bool false,.ref ↥s,rawInt 0,.none,.none])}) rfl;rw[m]at f ⊢;exists#[_,f,rfl],h _ f #[_,Af _ (Ak _ rfl),rfl,rfl] λb o x=>Af _ (Af _ x)
 .show call_enumerate_list g λh' z j _ k=>h h' z j k
end LZ
namespace L2
open PySem PySem.Spec PyProof.Rows LZ
def Inv.turnedL{s:Shared}{h':Heap}{fp:List Addr}(I:Inv X pins σ H s)(k:∀b o,b∉fp->s.heap.get? b=-o->h'.get? b=-o)(d:∀b∈fp,Yq X pins H b):Inv X pins σ H {s with heap:=h',toks:=t'}:=by
 let a:∀b u,H b=-u->b∉fp:=λb u e z=>by rw[(d b z).1]at e;cases e
 show I.step (g':=s.gens) (d':=s.drawn) (ch:=fp) (λb hb=>?_) (λb o _ _ hc e _=>k b o hc e) (λb o _ _ hc e _=>#[o.slots,k b o hc e]) (λ_ _ _ _ n=>n)
  (λb o hc e=>#[o,k b o hc e]) (λ_ _ e=>e) (λ_ _ _ e=>e) (λb C e=>#[#[],by rw[e];simp]) (λm f=>?_) (λb u e=>?_) I.bare
 .let(E,g,J,h,j,l):=d b hb;exists h,g,j,l
 .let(o,t,y,A,r):=f;exists o,t,y,k _ o (λz=>(d _ z).2.1 rfl) A,r
 .show(I.hok b u e).stay (λc v hc q=>k c v ?_ q) (λ_ q=>q) λ_ _ q=>q;rcases hc with z|z
  .rw[z];show a b u e
  .show a c _ z
def SqB(b:Bool)(K:Ah)(H:Hp)(l:Addr)(xs:List V):Prop:=if b=true then SqL K H l xs else SqT K H l xs
def SqB.sr{X:Cx}{s:Shared}(I:Inv X c d H s)(h:SqB b X.K H l xs):∃its:List Value,Vals xs its/\Sr b s.heap l its.toArray:=by
 cases b
 .let(its,a,p,_):=I.tuple h;exists its,a,p
 .let(its,a,p,_):=I.list h;exists its,a,p.isList
def SqB.inj{X:Cx}(I:Inv X a c H s)(h:SqB b X.K H l xs)(h':SqB b X.K H l ys):xs=ys:=by
 cases b
 .show I.tuple_inj h h'
 .show I.list_inj h h'
def Ite(b:Bool)(K:Ah)(l:Addr):It:=
 #[λi H=>∃a x,SqB b K H l a/\a[i]? =-x,
  λi H v c=>∃p x,H p=none/\v=.ref p/\c=upd H p (.tup [.int i,x])/\∀a,SqB b K H l a->a[i]? =-x,
  λi H=>∃a,SqB b K H l a/\⇑a=i]
def Wbs(b:Bool)(e it l:Addr)(i:Nat)(h:Heap):Prop:=(∃a,IsEnum h e it i a)/\Ir b h it l i
def Jll{P:Program}{w:World}{K:Ah}{j:List Expr}{x1:Nat}{tp:Pos}{b:Bool}(e it l:Addr)(g:e≠it)(m:l≠it)(y:l≠e):
  Turn P w K (.Tuple j x1 tp) (Ite b K l) [e,it] e (Wbs b e it l)where
 mem:=by simp
 obj:=λi h st b hb=>by
  obtain⟨⟨c,f⟩,z⟩:=st;let(o1,fs,C,d1):=z.obj;simp only[An,Bg,or_false]at hb;rcases hb with rfl|rfl
  .exists _,f,λv q=>by cases q
  .exists o1,C,λv q=>by rw[d1]at q;cases q
 keep:=λi h J st k=>by
  obtain⟨⟨c,f⟩,z⟩:=st;exists#[c,k e 's' _ f],z.at λo q=>k it 's' o q
 item:=by
  intro X L N Q hc i a s U H E I Y st hg;subst L N Q;let(xs,x,t,hx):=hg;obtain⟨⟨c,f⟩,n⟩:=st;let(oi,_,hoi,_):=n.obj;let(d,rv,p):=t.sr I;let(u,hu,ru):=rv.get hx;let hlt:i<d.toArray.size:=by simpa using(Ad.1 hu).1
  show wpAny_pyNext_enum_itemD (draw (A:=X.A.in1) b (I.ok.hd hc) it l m d.toArray) f #[n,p] hlt g (by simp[g,E9 y]) λu' J tk pu z1 j1 pr sz kk=>?_;obtain rfl:u=u':=by rw[Dl,hu]at pu;show Bj pu
  exists _,rfl,wpAny_letOwnedTupleGo_enum (s:={s with heap:=J,toks:=tk+1}) z1 λh2 z2 sb=>?_;let hf0:H ↥s=none:=I.hok.fresh (Aj _);let I0:Inv X a U (upd H ↥s (.tup [.int i,x])) {s with heap:=s.heap.push {cls:=.type "tuple",data:=.seq (List.toArray [.int i tk,u])},toks:=tk+1}:=
   I.laid (t':=tk+1) (λb o e=>Af _ e) (Aj _) #[by change 2<=sizeLine;decide,[.int i tk,u],.cons #[_,rfl] (.cons ru .nil),#[_,Ak _ rfl,rfl,_,rfl]]
  let r:∀b∈[e,it],Yq X a (upd H ↥s (.tup [.int i,x])) b:=λb hb=>by
   let nb:b≠↥s:=λq=>by
    simp only[An,Bg,or_false]at hb;rcases hb with rfl|rfl
    .show absurd (Aq f) (by rw[q];show Fg _)
    .show absurd (Aq hoi) (by rw[q];show Fg _)
   let(f0,f1,f2,f3,f4,f5):=Y b hb;exists by rw[Jad nb];show f0,f1,f2,f3,f4,f5
  let I1:Inv X a U (upd H ↥s (.tup [.int i,x])) {s with heap:=h2,toks:=tk+1}:=by
   show Inv.turnedL (s:={s with heap:=s.heap.push {cls:=.type "tuple",data:=.seq (List.toArray [.int i tk,u])},toks:=tk+1}) (h':=h2) (t':=tk+1) (fp:=[e,it]) I0 (λb o hb q=>?_) r
   replace q:(s.heap.push {cls:=.type "tuple",data:=.seq (List.toArray [.int i tk,u])}).get? b=-o:=q
   simp only[An,Bg,or_false,not_or]at hb;let(b1,b2):=hb;rw[sb.2 b b1]
   by_cases hT:b=↥s
   .subst hT;rw[Ak _ rfl]at q;cases q;show pr
   .rw[Uc _ _ _ hT]at q;show kk b o b1 b2 q
  exists .ref ↥s,_,I1,rfl,#[_,x,hf0,rfl,rfl,λzs hz'=>by rw[hz'.inj I t];show hx],#[#[u,by erw[z2]],?_],λb hb=>(r b hb).1;show j1.1.at λo q=>(sb.2 it (E9 g)).trans q
 done:=by
  intro X L N Q hc i a s U H E I Y st hg;subst L N Q;let(xs,t,rfl):=hg;obtain⟨⟨c,f⟩,n⟩:=st;let(d,rv,p):=t.sr I;let C:⇑xs=d.toArray.size:=by rw[⇑rv];simp
  rw[C]at n;show wpAny_pyNext_enum_endD (draw (A:=X.A.in1) b (I.ok.hd hc) it l m d.toArray) f #[n,p] λJ kk=>#[rfl,I.turnedL (t':=s.toks) (fp:=[e,it]) (λb o hb q=>?_) Y]
  simp only[An,Bg,or_false,not_or]at hb;show kk b o hb.2 q
 self:=λ_ _ _ _ _ st h=>by
  obtain⟨⟨c,f⟩,_⟩:=st;show Wz f h
def Wcp(K:Ah)(a:TA):TI:=λc H R=>a c H λd H1=>∃l b,d=[.ref l]/\(∃e,SqB b K H1 l e)/\R (Ite b K l) H1
theorem Jn3:Dy "enumerate"=-(.type "enumerate"):=by rfl
def Jt8{X:Cx}{a:Expr}{j:TA}{p pos:Pos}{c:List Expr}{o:Nat}{r:Pos}(t:Gl X "enumerate")(v:X.mg "enumerate"=none)(w:PA X [a] j)(hs:Cd [a] X.env=[(false,eval a X.env)]):
  PI X (.Tuple c o r) (.Call (.Name "enumerate" p) [a] [] pos) (Wcp X.K j):=by
 intro d s x H R I h;show T3 (Jbu I t v Jn3 (Dc (thn (w pos d s x H _ I h) λN g #[Q,H1,i,y,z]=>?_) (by rw[hs];rfl) rfl) 'd' 'd');obtain⟨l,b,e,⟨U,A⟩,q⟩:=z;subst e;let(u,rfl,rx):=vals1 y;cases rx;let(C,Y,k):=A.sr i;show Jn0 k λE m J L=>?_;show Wz (s:={g with heap:=E}) m ?_;let n:=k.lt;exists ↥g+1,_,_,_,H1,rfl,i.kept (t':=g.toks) L,Jll _ _ l (C9 (Eb _)) (A5 n) (A5 (K7 n)),#[#[_,m],J],λb hb=>?_,q;let f:↥g<=b:=by
  simp only[An,Bg,or_false]at hb;rcases hb with rfl|rfl
  .show Mu _
  .show Aj _
 show i.fpOk f (i.hok.fresh f)
section
variable {X:Cx}
def Wcc(K:Ah):R2:=λx y H Q=>∃l b a zs,x=.ref l/\y=.ref b/\SqL K H l a/\SqL K H b zs/\⇑a+⇑zs<=sizeLine/\∀p,H p=none->Q (.ref p) (upd H p (.lst (a++zs)))
def Jun:OpR X (Hc .Add) (Wcc X.K):=by
 intro k s U H x y v u Q I rx w h;let(l,b,Y,zs,rfl,rfl,z,A,hz,q):=h;cases rx;cases w;let(c,r,C,_):=I.list z;let(a,m,E,_):=I.list A;let hl:=⇑r;let J:=⇑m;obtain⟨⟨L,dd,o,sl⟩,p,hc,n,hd⟩:=id C.isList;obtain⟨⟨t,i,data2,j⟩,d,f,N,g⟩:=id E.isList;simp only at hc hd f g;subst hc hd f g;let e:c.toArray++a.toArray=(c++a).toArray:=by simp
 show Nj #[_,p,rfl] #[_,d,rfl] noFill_list_add seq_list_add PySem.F.slot_list_add PySem.F.entry_list_add (PySem.F.args_list_add_2 _ _) (list_addW l b c.toArray a.toArray n N dd i sl j 'm') #[p,d,?_];rw[e];exists .ref _,_,I.lnew (t':=s.toks) (r.append m) (by rw[Al];lia),rfl,q _ I.fresh
end
open PySem PySem.Spec PyProof.Rows
section
variable {X:Cx}
theorem J0j(r:KV kvs vs):∀(i:Nat) (k:Key) (x:Value),vs[i]? =-(k,x)->∃v,kvs[i]? =-(k,v):=by
 unfold KV at r
 induction r with
 |nil=>intro i k x h;simp at h
 |@cons p q d e a _ b=>
  intro i k x h;cases i with
  |zero=>
   have c:q=(k,x):=by erw[h]
   subst c;exists p.2,?_;change some p=_;let:p.1=k:=a.1;rw[<-this]
  |succ i=>show b i k x (by erw[h])
theorem Jya{kvs:List (Key×V)}{vs:List (Key×Value)}(r:KV kvs vs):⇑kvs=⇑vs:=by
 unfold KV at r
 induction r with
 |nil=>rfl
 |cons _ _ a=>rw[Bh,Bh,a]
theorem Jli:∀{xs:List V} {us:List Value},⇑xs=⇑us->(∀(i:Nat) (u:Value),us[i]? =-u->∃x,xs[i]? =-x/\RelV x u)->Vals xs us
 |[],[],_,_=>.nil
 |[],u::us,h,_=>by simp at h
 |x::xs,[],h,_=>by simp at h
 |x::xs,u::us,h,g=>by
  let(y,e,r):=g 0 u rfl;let a:x=y:=by erw[e]
  subst a;show .cons r (Jli (by erw[h]) λi w q=>by erw[g (i+1) w (by erw[q])])
def Jgi(hc:X.calm=true):Xs X (.type "list") (λxs H Q=>∃p kvs,xs=[.ref p]/\H p=-(.dK kvs)/\∀l,H l=none->Q (.ref l) (upd H l (.lst (kvs.map λb=>kV b.1)))):=by
 intro d s σ H xs us Q I r h;let(p,kvs,rfl,hp,q):=h;let(u,rfl,rx):=vals1 r;cases rx;let(f,w,z,c,o,A,C,m):=(show Xg X.prog X.w H s.heap p (.dK kvs)from I.hok p _ hp)
 let g:=Jya c;show PySem.W.kdl_call (PySem.W.kdl_dict (knd:=mixKind X.prog X.w) (kvs:=z) (ep:=C) w) (I.ok.hd hc) #[o,A,m] (by rw[<-g];show f) λE tk a J L e n=>?_;let N:Vals (kvs.map λb=>kV b.1) a.toList:=by
  show Jli (by rw[Ag,g];show n.1.symm) λi u U=>?_;let(k,x,Y,hk):=n.2 i u (by rw[<-Bs];show U);let(v,ev):=J0j c i k x Y;exists kV k,by rw[Ao,ev];rfl,?_;rcases Jar hk with⟨j,t,rfl,rfl⟩|⟨y,t,rfl,rfl⟩
  .exists _,rfl
  .exists _,rfl
 exists .ref ↥s,_,I.laid (t':=tk) L (Aj _) (show Xg X.prog X.w _ E _ (.lst (kvs.map λb=>kV b.1))from#[by rw[Ag];show f,a.toList,J,N,by erw[e]]),rfl,q _ (I.hok.fresh (Aj _))
end
end L2
namespace LR
open PySem PySem.Spec PyProof.Rows PySem.F
section
variable {prog:Program} {w:World} {A:Bo} {E:Value->Shared->Prop} {s:Shared}
noncomputable def ltZ(a b c d:Int):Bool:=decide (a<c)||(decide (a=c)&&decide (b<d))
def int_lt{Q:Value->Shared->Prop}(h:Q (.bool (decide (a<b))) s):wpAny (model prog w) A (U2 .Lt (.int a t) (.int b u)) Q E s:=
 richCompare_gives (op:=.Lt) (Wa s _ t) (Wa s _ u) F.slot_int_lt F.entry_int_lt (F.args_int_lt_2 _ _) (gives_int_lt _ _ t u) (λx=>nomatch x) h
def Juj{Q:Value->Shared->Prop}(hp:IsTup s.heap p (List.toArray [.int a t,.int b u]))(f:IsTup s.heap q (List.toArray [.int c v,.int d x]))(j:A.units<Dm)
  (h:Q (.bool (ltZ a b c d)) s):wpAny (model prog w) A (U2 .Lt (.ref p) (.ref q)) Q E s:=by
 show Hj (op:=.Lt) (Zu hp) (Zu f) Xc (Bq Xc (Zu hp) F.entry_tuple_lt ?_ (F.args_tuple_lt_2 _ _)) j;change wpAny _ _ (Rx (.ref q) (.type "tuple")>>=_) _ _ s;show Aa (Ed (Zu f) Js ?_);rw[if_neg (show¬((!true)=true)from Bb)];show Aa (Oh hp ?_);show Aa (Oh f ?_);show Aa ?_;change wpAny _ _ (forIn [((Eg a t:Value),(Eg c v:Value)),(.int b u,.int d x)] _ _) _ _ s;rw[Jt];show Aa (Aa (Ju ?_))
 by_cases g:a=c
 .subst g;rw[show(a==a)=true from beq_self_eq_true a,if_neg (show¬((!true)=true)from Bb)];show Ab ?_;change wpAny _ _ (forIn [((Eg b u:Value),(Eg d x:Value))] _ _) _ _ s;rw[Jt];show Aa (Aa (Ju ?_))
  by_cases i:b=d
  .subst i;rw[show(b==b)=true from beq_self_eq_true b,if_neg (show¬((!true)=true)from Bb)];show Ab ?_;show Ab ?_;let e:Q (.bool false) s:=by simpa [ltZ]using h
   show Ab #[_,rfl,(λz=>nomatch z),e]
  .rw[show(b==d)=false from beq_eq_false_iff_ne.2 i,if_pos (show(!false)=true from rfl)];let e:Q (.bool (decide (b<d))) s:=by simpa [ltZ]using h
   show Aa (D2 ?_);show Aa (int_lt ?_);show Aa (Ab (Ab (Ab (Ab #[_,rfl,(λz=>nomatch z),e]))))
 .rw[show(a==c)=false from beq_eq_false_iff_ne.2 g,if_pos (show(!false)=true from rfl)];let e:Q (.bool (decide (a<c))) s:=by simpa [ltZ,g]using h
  show Aa (D2 ?_);show Aa (int_lt ?_);show Aa (Ab (Ab (Ab (Ab #[_,rfl,(λz=>nomatch z),e]))))
end
end LR
namespace L2
open PySem PySem.Spec PyProof.Rows
end L2
namespace Srt
open PySem PyProof.Rows
abbrev SM:=StateT C8 Sem
noncomputable def gallop':Bool->Keyed->Array Keyed->Nat->Nat->Nat->SM (Option Nat):=sortPriv%PySem.Builtin.gallop
noncomputable def mergeLo':Array Keyed->Array Keyed->SM (Array Keyed):=sortPriv%PySem.Builtin.mergeLo
noncomputable def mergeHi':Array Keyed->Array Keyed->SM (Array Keyed):=sortPriv%PySem.Builtin.mergeHi
noncomputable def Wbr(a:Nat->SM (Option Bool))(n l r:Nat):SM (Option Nat):=do
 let mut l:=l
 let mut r:=r
 for _ in[0:n] do
  if l≥r then break
  let m:=l+(r-l)/2
  let some d<-a m|return none
  if d then l:=m+1 else r:=m
 return some r
def Wcs(a:Nat->SM (Option Bool))(n h:Nat):SM (Option Nat):=do
 let mut p:=0
 let mut q:=1
 for _ in[0:n] do
  if q≥n-h then break
  let some d<-a (h+q)|return none
  if !d then break
  p:=q
  q:=2*q+1
 Wbr a n (h+p+1) (h+min q (n-h))
def Wct(a:Nat->SM (Option Bool))(n h:Nat):SM (Option Nat):=do
 let mut p:=0
 let mut q:=1
 for _ in[0:n] do
  if q≥h+1 then break
  let some d<-a (h-q)|return none
  if d then break
  p:=q
  q:=2*q+1
 Wbr a n (h+1-min q (h+1)) (h-p)
def Wcu(a:Nat->SM (Option Bool))(n h:Nat):SM (Option Nat):=do
 let some c<-a h|return none
 if c then Wcs a n h else Wct a n h
noncomputable def bey(left:Bool)(a:Keyed)(b:Array Keyed)(base i:Nat):SM (Option Bool):=do
 let x<-elem' b (base+i)
 if left then lt' x a else return (<-lt' a x).map (!·)
theorem Jk5(left:Bool)(b:Keyed)(c:Array Keyed)(base n a:Nat):gallop' left b c base n a=Wcu (bey left b c base) n a:=rfl
section
variable {M:Lm} {A:Bo} {E:Value->Shared->Prop} {s:Shared} {st:C8} {be:Nat->SM (Option Bool)} {n h c:Nat} {Q:Option Nat->C8->Prop}
def Be(M:Lm)(A:Bo)(E:Value->Shared->Prop)(s:Shared)(st:C8)(be:Nat->SM (Option Bool))(n c:Nat):Prop:=c<=n/\∀i,i<n->∀Q:Option Bool->C8->Prop,Q (-(decide (i<c))) st->wpS M A E s (be i) Q st
theorem Jje(hb:Be M A E s st be n c)(j:l<=c)(k:c<=r)(m:r<=n)(o:Q (-c) st):wpS M A E s (Wbr be n l r) Q st:=by
 show Ay (De (Dr (I:=λx d f=>f=st/\∃l r,d=(none,l,r)/\l<=c/\c<=r/\r<=n/\r-l<=n-x) (Q:=λd f=>f=st/\∃l,d=(none,l,c)) ?_ ?_ #[rfl,l,r,rfl,j,k,m,by omega]) ?_)
 .rintro x _ _ _ p ⟨rfl,l,r,rfl,a,b,d,e⟩;dsimp only
  by_cases g:l≥r
  .rw[if_pos g];show Bc #[rfl,l,by rw[show r=c by omega]]
  rw[if_neg g];show Ay (hb.2 _ (by omega) _ ?_);dsimp only
  by_cases i:l+(r-l)/2<c
  .rw[decide_eq_true i];show Bc #[rfl,_,r,rfl,i,b,d,by omega]
  .rw[decide_eq_false i];show Bc #[rfl,l,_,rfl,a,by omega,by omega,by omega]
 .rintro _ _ ⟨rfl,l,r,rfl,a,b,d,e⟩;exists rfl,l,by rw[show r=c by omega]
 .rintro _ _ ⟨rfl,l,rfl⟩;show Bc o
theorem Joa(hb:Be M A E s st be n c)(hc:h<c)(i:Q (-c) st):wpS M A E s (Wcs be n h) Q st:=by
 let j:=hb.1;show Ay (De (Dr (I:=λx d e=>e=st/\∃p q,d=(none,p,q)/\x<q/\h+p<c) (Q:=λd e=>e=st/\∃p q,d=(none,p,q)/\h+p<c/\c<=h+min q (n-h)) ?_ ?_ #[rfl,0,1,rfl,by lia,hc]) ?_)
 .rintro x _ _ _ k ⟨rfl,p,q,rfl,a,b⟩;dsimp only
  by_cases g:q≥n-h
  .rw[if_pos g];show Bc #[rfl,p,q,rfl,b,by lia]
  rw[if_neg g];show Ay (hb.2 _ 'l' _ ?_);dsimp only
  by_cases f:h+q<c
  .rw[decide_eq_true f];show Bc #[rfl,q,_,rfl,by lia,f]
  .rw[decide_eq_false f];show Bc #[rfl,p,q,rfl,b,by lia]
 .rintro _ _ ⟨rfl,p,q,rfl,a,b⟩;exists rfl,p,q,rfl,b,by lia
 .rintro _ _ ⟨rfl,p,q,rfl,a,b⟩;show Jje hb a b 'l' i
theorem Job(hb:Be M A E s st be n c)(hc:c<=h)(j:h<n)(i:Q (-c) st):wpS M A E s (Wct be n h) Q st:=by
 show Ay (De (Dr (I:=λx d e=>e=st/\∃p q,d=(none,p,q)/\x<q/\c+p<=h) (Q:=λd e=>e=st/\∃p q,d=(none,p,q)/\c+p<=h/\h+1<=c+min q (h+1)) ?_ ?_ #[rfl,0,1,rfl,by lia,hc]) ?_)
 .rintro x _ _ _ k ⟨rfl,p,q,rfl,a,b⟩;dsimp only
  by_cases g:q≥h+1
  .rw[if_pos g];show Bc #[rfl,p,q,rfl,b,by lia]
  rw[if_neg g];show Ay (hb.2 _ 'l' _ ?_);dsimp only
  by_cases f:h-q<c
  .rw[decide_eq_true f];show Bc #[rfl,p,q,rfl,b,by lia]
  .rw[decide_eq_false f];show Bc #[rfl,q,_,rfl,by lia,by lia]
 .rintro _ _ ⟨rfl,p,q,rfl,a,b⟩;exists rfl,p,q,rfl,b,by lia
 .rintro _ _ ⟨rfl,p,q,rfl,a,b⟩;show Jje hb 'l' 'l' 'l' i
theorem Joc(hb:Be M A E s st be n c)(a:h<n)(b:Q (-c) st):wpS M A E s (Wcu be n h) Q st:=by
 show Ay (hb.2 h a _ ?_);dsimp only
 by_cases hc:h<c
 .rw[decide_eq_true hc];show Joa hb hc b
 .rw[decide_eq_false hc];show Job hb 'l' a b
end
abbrev SL(rk:Keyed->Int)(l:List Keyed):Prop:=l.Pairwise λx y=>rk x<=rk y
noncomputable abbrev mg(rk:Keyed->Int)(A B:List Keyed):List Keyed:=Nf A B λx y=>decide (rk x<=rk y)
section
variable {rk:Keyed->Int} {A A' B B' L:List Keyed} {i j:Nat} {x y:Keyed}
theorem Wae(h:∀x∈A,∀y∈B,rk x<=rk y):mg rk (A++A') B=A++mg rk A' B:=by
 induction A with
 |nil=>rfl
 |cons x A b=>
  cases B with
  |nil=>simp[mg]
  |cons y B=>simpa [mg,Nf,h x 's' y 's']using b λa c=>h a (by simp[c])
theorem Wad(h:∀y∈B,∀x∈A,rk y<rk x):mg rk A (B++B')=B++mg rk A B':=by
 induction B with
 |nil=>rfl
 |cons y B b=>
  cases A with
  |nil=>simp[mg]
  |cons x A=>simpa [mg,Nf,Int.not_le.2 (h y 's' x 's')]using b λa c=>h a (by simp[c])
theorem Jx6(h:∀x∈A',∀y∈B,rk y<rk x):mg rk (A++A') B=mg rk A B++A':=by
 induction A generalizing B with
 |nil=>simpa [mg]using Wad (B:=B) (B':=[]) (A:=A') λy a x b=>h x b y a
 |cons x A d=>
  induction B with
  |nil=>simp[mg]
  |cons y B c=>
   simp only[mg,Le,Nf];split
   .show congrArg (x::·) (d h)
   .show congrArg (y::·) (c λx b y a=>h x b y (by simp[a]))
theorem Jut(h:∀y∈B',∀x∈A,rk x<=rk y):mg rk A (B++B')=mg rk A B++B':=by
 induction A generalizing B with
 |nil=>simp[mg]
 |cons x A d=>
  induction B with
  |nil=>simpa [mg]using Wae (A:=x::A) (A':=[]) (B:=B') λx a y b=>h y b x a
  |cons y B c=>
   simp only[mg,Le,Nf];split
   .show congrArg (x::·) (d (B:=y::B) λy b x a=>h y b x (by simp[a]))
   .show congrArg (y::·) c
theorem J0i(d:SL rk A)(hb:SL rk B):SL rk (mg rk A B):=by
 let:=List.pairwise_merge (le:=λx y=>decide (rk x<=rk y)) (by intro a b c;simp;lia) (by intro a b;simp;lia) A B (by erw[d]) (by erw[hb])
 erw[this]
end
section
variable {rk:Keyed->Int} {U:Keyed->Prop} {κ:Hv} {M:Lm} {A:Bo} {E:Value->Shared->Prop} {s:Shared} {st:C8} {x y:Keyed}
def Ans(M:Lm)(A:Bo)(s:Shared)(κ:Hv)(rk:Keyed->Int)(U:Keyed->Prop):Prop:=
 ∀x y,U x->U y->∀Q:Bool->Shared->Prop,Q (decide (rk x<rk y)) s->wpAny M A (keyLt' κ x.1 y.1) Q (λ_ _=>False) s
theorem Jdj{Q:Option Bool->C8->Prop}(c:Ans M A s κ rk U)(d:kindOf st=κ)(f:U x)(g:U y)(h:Q (-(decide (rk x<rk y))) st):wpS M A E s (lt' x y) Q st:=by
 rw[lt'_eq];show Ay (Ln ?_);rw[d];show Ay (Np (Fv (Cu (c x y f g (λb a=>a=s/\b=decide (rk x<rk y)) #[rfl,rfl]) (λb a hb=>?_) λ_ _ e=>e.elim)));let(rfl,rfl):=hb;exists rfl,Bc h
theorem Jaj{Q:Keyed->C8->Prop}(h:a[i]? =-x)(b:Q x st):wpS M A E s (elem' a i) Q st:=by
 rw[elem'_eq,h];show Bc b
noncomputable def bl(rk:Keyed->Int)(left:Bool)(a x:Keyed):Bool:=if left then decide (rk x<rk a)else !decide (rk a<rk x)
theorem Jjh(rk:Keyed->Int)(left:Bool)(c:Keyed)(h:SL rk L):∃d L2,L=d++L2/\(∀x∈d,bl rk left c x=true)/\∀x∈L2,bl rk left c x=false:=by
 induction L with
 |nil=>exists[],[],rfl,by simp,by simp
 |cons y L f=>
  let(g,i):=D6.1 h;cases hb:bl rk left c y with
  |true=>
   let(d,L2,e,a,b):=f i;exists y::d,L2,by rw[e];rfl,by simpa [hb]using a,b
  |false=>
   exists[],y::L,rfl,by simp,List.forall_mem_cons.2 #[hb,λx j=>?_];let:=g x j;cases left<;>simp[bl]at hb ⊢<;>lia
theorem Ja3{f:Array Keyed}{L:List Keyed}{Q:Option Nat->C8->Prop}(l:Ans M A s κ rk U)(m:kindOf st=κ)
  (t:(f.toList.drop base).take n=L)(u:⇑L=n)(hs:SL rk L)(v:∀x∈L,U x)(b:U a)(w:h<n)
  (z:∀d L2,L=d++L2->(∀x∈d,bl rk left a x=true)->(∀x∈L2,bl rk left a x=false)->Q (-⇑d) st):wpS M A E s (gallop' left a f base n h) Q st:=by
 let(d,L2,e,o,p):=Jjh rk left a hs;rw[Jk5];show Joc (c:=⇑d) #[by rw[<-u,e,Al];lia,λi C I j=>?_] w (z d L2 e o p);let k:i<⇑L:=by lia
 obtain⟨x,g⟩:∃x,L[i]? =-x:=#[_,Ae k]
 let H:f[base+i]? =-x:=by rw[<-g,<-t,F7 C,T5,Bs]
 let r:=v _ (As g);let hb:bl rk left a x=decide (i<⇑d):=by
  rw[e]at g
  by_cases c:i<⇑d
  .rw[decide_eq_true c];rw[A0 c]at g;show o _ (As g)
  .rw[decide_eq_false c];rw[Au 'l']at g;show p _ (As g)
 rw[<-hb]at j;show Ay (Jaj H ?_);cases left with
 |true=>show Jdj l m r b j
 |false=>show Ay (Jdj l m b r (Bc j))
end
section
variable {a b o:Array Keyed} {i j k:Nat} {x:Keyed}
theorem Jb3(h:i<a.size):∃x,a[i]? =-x/\x∈a.toList/\a.toList.drop i=x::a.toList.drop (i+1)/\a.toList.take (i+1)=a.toList.take i++[x]:=
 #[a[i],Bi h,by simp,by rw[<-Array.getElem_toList];show Bx (by erw[h]),by rw[List.take_succ,Bs,Bi h];rfl]
theorem Jqb:(a.extract i a.size).toList=a.toList.drop i:=by
 rw[Jo,Hr];show By 's'
theorem Jqc:(a.extract i (i+k)).toList=(a.toList.drop i).take k:=by simp[Jo,Hr]
theorem Jaq{m n:Nat}(h:¬(m==n)=true):m≠n:=λe=>h (by rw[e];show beq_self_eq_true n)
theorem dt(L:List Keyed)(i k:Nat):L.drop i=(L.drop i).take k++L.drop (i+k):=by
 rw[<-V2];show(Fs _ _).symm
theorem td(L:List Keyed)(h:p<=i):L.take i=L.take p++(L.take i).drop p:=by
 rw[show L.take p=(L.take i).take p by rw[P0,Pm h]];show(Fs _ _).symm
end
noncomputable abbrev stG(st:C8)(g:Nat):C8:=Gm (kindOf st) (arrOf st) (pendingOf st) g (failedOf st)
noncomputable abbrev Zw(g:Nat):SM Unit:=modify λst=>Gm (kindOf st) (arrOf st) (pendingOf st) g (failedOf st)
structure Me(M:Lm)(A:Bo)(s:Shared)(κ:Hv)(rk:Keyed->Int)(U:Keyed->Prop)(a b:Array Keyed):Prop where
 ans:Ans M A s κ rk U
 sa:SL rk a.toList
 sb:SL rk b.toList
 ua:∀x∈a.toList,U x
 ub:∀x∈b.toList,U x
 low:∀y,b[0]? =-y->∀x∈a.toList,rk y<rk x
 top:∀x,a[a.size-1]? =-x->∀y∈b.toList,rk y<rk x
 na:0<a.size
 nb:0<b.size
section
variable {rk:Keyed->Int} {U:Keyed->Prop} {κ:Hv} {M:Lm} {A:Bo} {E:Value->Shared->Prop} {s:Shared} {st:C8} {a b o:Array Keyed} {i j k g ca cb v:Nat} {x y:Keyed}
def Wl(rk:Keyed->Int)(a b o:Array Keyed)(i j:Nat):Prop:=o.toList++mg rk (a.toList.drop i) (b.toList.drop j)=mg rk a.toList b.toList
theorem Wl.ak(h:Wl rk a b o i j)(c:∀x∈(a.toList.drop i).take k,∀y∈b.toList.drop j,rk x<=rk y):Wl rk a b (o++a.extract i (i+k)) (i+k) j:=by
 unfold Wl at h ⊢;rw[<-h,Fb,Jqc,Ar,<-Wae c,<-dt]
theorem Wl.bk(h:Wl rk a b o i j)(c:∀y∈(b.toList.drop j).take k,∀x∈a.toList.drop i,rk y<rk x):Wl rk a b (o++b.extract j (j+k)) i (j+k):=by
 unfold Wl at h ⊢;rw[<-h,Fb,Jqc,Ar,<-Wad c,<-dt]
theorem Wl.a1(h:Wl rk a b o i j)(c:a.toList.drop i=x::a.toList.drop (i+1))(d:∀y∈b.toList.drop j,rk x<=rk y):Wl rk a b (o.push x) (i+1) j:=by
 unfold Wl at h ⊢;rw[<-h,Io,Ar,<-Wae (by erw[d]),c];rfl
theorem Wl.b1(h:Wl rk a b o i j)(c:b.toList.drop j=y::b.toList.drop (j+1))(d:∀x∈a.toList.drop i,rk y<rk x):Wl rk a b (o.push y) i (j+1):=by
 unfold Wl at h ⊢;rw[<-h,Io,Ar,<-Wad (by erw[d]),c];rfl
theorem Wl.fin(h:Wl rk a b o i j)(z:i=a.size\/j=b.size):(o++a.extract i a.size++b.extract j b.size).toList=mg rk a.toList b.toList:=by
 rw[<-h,Fb,Fb,Jqb,Jqb,Ar];rcases z with rfl|rfl
 .rw[Gp 's'];simp[mg]
 .rw[Gp (as:=b.toList) 's'];simp[mg]
theorem Wl.fil(m:Me M A s κ rk U a b)(h:Wl rk a b o i j)(l:i+1=a.size):(o++b.extract j b.size++a.extract i a.size).toList=mg rk a.toList b.toList:=by
 let(x,e,_,d,_):=Jb3 (a:=a) (i:=i) 'l';rw[Gp (as:=a.toList) (i:=i+1) 'm']at d;rw[<-h,Fb,Fb,Jqb,Jqb,Ar,d];let:=Wad (rk:=rk) (A:=[x]) (B:=b.toList.drop j) (B':=[]) λy c z f=>by
  rw[Ap.1 f];show m.top x (by rw[show a.size-1=i by lia];show e) y (Jp c)
 rw[Co]at this;rw[this];simp[mg]
theorem Jp4(h:SL rk a.toList)(e:a.toList.drop i=x::a.toList.drop (i+1)):∀y∈a.toList.drop i,rk x<=rk y:=by
 let c:SL rk (a.toList.drop i):=E5 (Kx _ _) h;rw[e]at c ⊢;intro y hy;rcases An.1 hy with rfl|hy
 .show O6 _
 .show(D6.1 c).1 y hy
end
abbrev LoS:=Option (Array Keyed)×Array Keyed×Nat×Nat×Nat×Nat×Nat
abbrev Wbx:=Option (Array Keyed)×Array Keyed×Nat×Nat×Nat×Nat
abbrev Wby:=Option (Array Keyed)×Array Keyed×Nat×Nat×Nat
noncomputable def lo1(a b:Array Keyed)(g:Nat)(o:Array Keyed)(i j c d:Nat):SM (ForInStep Wbx):=do
 let y<-elem' b j
 let x<-elem' a i
 let r<-lt' y x
 match r with
 |some w=>
  if w=true then
   let y<-elem' b j
   if(j+1==b.size)=true then pure (.done (-(o.push y++a.extract i a.size++b.extract (j+1) b.size),o.push y,i,j+1,0,d+1))
   else if d+1≥g then pure (.done (none,o.push y,i,j+1,0,d+1))else pure (.yield (none,o.push y,i,j+1,0,d+1))
  else
   let x<-elem' a i
   if(i+1+1==a.size)=true then pure (.done (-(o.push x++b.extract j b.size++a.extract (i+1) a.size),o.push x,i+1,j,c+1,0))
   else if c+1≥g then pure (.done (none,o.push x,i+1,j,c+1,0))else pure (.yield (none,o.push x,i+1,j,c+1,0))
 |_=>pure (.done (-(o++a.extract i a.size++b.extract j b.size),o,i,j,c,d))
noncomputable def loV(a b o:Array Keyed)(i j g c d:Nat):SM (ForInStep LoS):=do
 let y<-elem' a i
 if(i+1+1==a.size)=true then pure (.done (-(o.push y++b.extract j b.size++a.extract (i+1) a.size),o.push y,i+1,j,g,c,d))
 else if(decide (c<7)&&decide (d<7))=true then pure (.done (none,o.push y,i+1,j,g,c,d))else pure (.yield (none,o.push y,i+1,j,g,c,d))
def loU(a b o:Array Keyed)(i j g c d:Nat):SM (ForInStep LoS):=do
 let x<-elem' b j
 if(j+1==b.size)=true then pure (.done (-(o.push x++a.extract i a.size++b.extract (j+1) b.size),o.push x,i,j+1,g,c,d))
 else
  let y<-elem' a i
  let r<-gallop' true y b (j+1) (b.size-(j+1)) 0
  match r with
  |some k=>(if k>0 then(if(j+1+k==b.size)=true then pure (.done (-(o.push x++b.extract (j+1) (j+1+k)++a.extract i a.size++b.extract (j+1+k) b.size),o.push x++b.extract (j+1) (j+1+k),i,j+1+k,g,c,k))
     else loV a b (o.push x++b.extract (j+1) (j+1+k)) i (j+1+k) g c k)else loV a b (o.push x) i (j+1) g c k)
  |_=>pure (.done (-(o.push x++a.extract i a.size++b.extract (j+1) b.size),o.push x,i,j+1,g,c,d))
def loT(a b o:Array Keyed)(i j d c g:Nat):SM (ForInStep LoS):=do
 Zw g
 let x<-elem' b j
 let r<-gallop' false x a i (a.size-i) 0
 match r with
 |some k=>(if k>0 then
    (if(i+k+1==a.size)=true then pure (.done (-(o++a.extract i (i+k)++b.extract j b.size++a.extract (i+k) a.size),o++a.extract i (i+k),i+k,j,g,k,c))
    else if(i+k==a.size)=true then pure (.done (-(o++a.extract i (i+k)++a.extract (i+k) a.size++b.extract j b.size),o++a.extract i (i+k),i+k,j,g,k,c))
    else loU a b (o++a.extract i (i+k)) (i+k) j g k c)
   else loU a b o i j g k c)
 |_=>pure (.done (-(o++a.extract i a.size++b.extract j b.size),o,i,j,g,d,c))
def loF1(a b o:Array Keyed)(i j g:Nat):SM Wbx:=forIn [0:a.size+b.size] (none,o,i,j,0,0) λ_ c=>lo1 a b g c.2.1 c.2.2.1 c.2.2.2.1 c.2.2.2.2.1 c.2.2.2.2.2
def loF2(a b o:Array Keyed)(i j g d e:Nat):SM LoS:=forIn [0:a.size+b.size] (none,o,i,j,g,d,e) λ_ c=>
 if c.2.2.2.2.1>1 then loT a b c.2.1 c.2.2.1 c.2.2.2.1 c.2.2.2.2.2.1 c.2.2.2.2.2.2 (c.2.2.2.2.1-1)else loT a b c.2.1 c.2.2.1 c.2.2.2.1 c.2.2.2.2.2.1 c.2.2.2.2.2.2 c.2.2.2.2.1
def lo0(a b o:Array Keyed)(i j g:Nat):SM (ForInStep Wby):=do
 let c<-loF1 a b o i j g
 match c.1 with
 |some r=>pure (.done (-r,c.2.1,c.2.2.1,c.2.2.2.1,g))
 |none=>do
  rule "list.sort.gallop"
  let d<-loF2 a b c.2.1 c.2.2.1 c.2.2.2.1 (g+1) c.2.2.2.2.1 c.2.2.2.2.2
  match d.1 with
  |some r=>pure (.done (-r,d.2.1,d.2.2.1,d.2.2.2.1,d.2.2.2.2.1))
  |none=>do
   Zw (d.2.2.2.2.1+1)
   pure (.yield (none,d.2.1,d.2.2.1,d.2.2.2.1,d.2.2.2.2.1+1))
def Wdu(a b:Array Keyed):SM (Array Keyed):=do
 rule "list.sort.merge-lo"
 let y<-elem' b 0
 if(1==b.size)=true then pure ((List.toArray [y])++a.extract 0 a.size++b.extract 1 b.size)
 else if(0+1==a.size)=true then pure ((List.toArray [y])++b.extract 1 b.size++a.extract 0 a.size)
 else do
  let st<-get
  let c<-forIn [0:a.size+b.size] ((none,(List.toArray [y]),0,1,La st):Wby) λ_ c=>lo0 a b c.2.1 c.2.2.1 c.2.2.2.1 c.2.2.2.2
  match c.1 with
  |some r=>pure r
  |none=>unsupported "internal:list.sort.merge-bound"
theorem Jip(a b:Array Keyed):mergeLo' a b=Wdu a b:=by kernel_rfl
section
variable {rk:Keyed->Int} {U:Keyed->Prop} {κ:Hv} {M:Lm} {A:Bo} {E:Value->Shared->Prop} {s:Shared} {st st1:C8} {a b o:Array Keyed} {i j k g ca cb v:Nat} {x y:Keyed}
theorem sp{L c:List Keyed}(e:L.drop i=c++L2):(L.drop i).take ⇑c=c/\L.drop (i+⇑c)=L2:=by
 rw[<-V2,e];simp
inductive Lo (rk:Keyed->Int) (a b o:Array Keyed) (i j v:Nat):Prop
 |mk (w:Wl rk a b o i j) (ha:i+1<a.size) (hb:j<b.size) (hv:v<=i+j):Lo rk a b o i j v
def Pr(rk:Keyed->Int)(a b:Array Keyed)(v:Nat)(r:Option (Array Keyed))(o:Array Keyed)(i j:Nat):Prop:=match r with
 |some r=>r.toList=mg rk a.toList b.toList
 |none=>Lo rk a b o i j v
def Sg(st c:C8):Prop:=∃g,c=stG st g
def T1(rk:Keyed->Int)(a b:Array Keyed)(st:C8)(v:Nat):ForInStep Wbx->C8->Prop
 |.done c,d=>d=st/\Pr rk a b v c.1 c.2.1 c.2.2.1 c.2.2.2.1
 |.yield c,d=>d=st/\c.1=none/\Lo rk a b c.2.1 c.2.2.1 c.2.2.2.1 v
def T2(rk:Keyed->Int)(a b:Array Keyed)(st:C8)(v:Nat):ForInStep LoS->C8->Prop
 |.done c,d=>Sg st d/\Pr rk a b v c.1 c.2.1 c.2.2.1 c.2.2.2.1
 |.yield c,d=>Sg st d/\c.1=none/\Lo rk a b c.2.1 c.2.2.1 c.2.2.2.1 v
theorem Jv6(m:Me M A s κ rk U a b)(t:kindOf st=κ)(h:Lo rk a b o i j v):wpS M A E s (lo1 a b g o i j ca cb) (T1 rk a b st (v+1)) st:=by
 let(w,u,hb,I):=h;let(y,f,C,n,_):=Jb3 hb;let(x,p,H,r,_):=Jb3 (a:=a) (i:=i) 'l';show Ay (Jaj f (Ay (Jaj p (Ay (Jdj m.ans t (m.ub y C) (m.ua x H) ?_)))));dsimp only
 by_cases c:rk y<rk x
 .rw[decide_eq_true c,if_pos rfl];show Ay (Jaj f ?_);let d:=w.b1 n λz e=>Ii c (Jp4 m.sa r z e);split
  .show Bc #[rfl,d.fin (.inr (eq_of_beq ‹_›))]
  .let l:Lo rk a b (o.push y) i (j+1) (v+1):=#[d,u,by let:=Jaq ‹_›;lia,by lia]
   split
   .show Bc #[rfl,l]
   .show Bc #[rfl,rfl,l]
 .rw[decide_eq_false c,if_neg Bb];show Ay (Jaj p ?_);let d:=w.a1 r λz e=>F5 (Int.not_lt.1 c) (Jp4 m.sb n z e);split
  .show Bc #[rfl,d.fil m (eq_of_beq ‹_›)]
  .let l:Lo rk a b (o.push x) (i+1) j (v+1):=#[d,by let:=Jaq ‹_›;lia,hb,by lia]
   split
   .show Bc #[rfl,l]
   .show Bc #[rfl,rfl,l]
theorem Jq3(m:Me M A s κ rk U a b)(w:Wl rk a b o i j)(f:i+1<a.size)(hb:j<b.size)(h:v<=i+j)(le:∀x,a[i]? =-x->∀y∈b.toList.drop j,rk x<=rk y)(z:Sg st st1):wpS M A E s (loV a b o i j g ca cb) (T2 rk a b st v) st1:=by
 let(x,c,n,e,_):=Jb3 (a:=a) (i:=i) 'l';show Ay (Jaj c ?_);let d:=w.a1 e (le x c);split
 .show Bc #[z,d.fil m (eq_of_beq ‹_›)]
 .let l:Lo rk a b (o.push x) (i+1) j v:=#[d,by let:=Jaq ‹_›;lia,hb,by lia]
  split
  .show Bc #[z,l]
  .show Bc #[z,rfl,l]
theorem Jq4(m:Me M A s κ rk U a b)(C:kindOf st1=κ)(w:Wl rk a b o i j)(n:i+1<a.size)(hb:j<b.size)(hv:v<=i+j)(le:∀y,b[j]? =-y->∀x∈a.toList.drop i,rk y<rk x)(z:Sg st st1):wpS M A E s (loU a b o i j g ca cb) (T2 rk a b st v) st1:=by
 let(y,p,y2,H,_):=Jb3 hb;let(x,r,I,J,_):=Jb3 (a:=a) (i:=i) 'l';show Ay (Jaj p ?_);let h:=w.b1 H (le y p);split
 .show Bc #[z,h.fin (.inr (eq_of_beq ‹_›))]
 let hj:=Jaq ‹_›;show Ay (Jaj r (Ay (Ja3 m.ans C (L:=b.toList.drop (j+1)) (By 's') 's' (E5 (Kx _ _) m.sb) (λy c=>m.ub y (Jp c)) (m.ua x I) 'l' λd L2 e N Q=>?_)));let(Y,e2):=sp e;let q1:∀y∈d,∀x∈a.toList.drop i,rk y<rk x:=λy c t f=>Ii (by simpa [bl]using N y c) (Jp4 m.sa J t f);let l:∀t,a[i]? =-t->∀y∈b.toList.drop (j+1+⇑d),rk t<=rk y:=λt f y c=>by
  rw[r]at f;cases f;rw[e2]at c
  simpa [bl]using Q y c
 dsimp only;split
 .let u:=h.bk (k:=⇑d) (by rw[Y];show q1);split
  .show Bc #[z,u.fin (.inr (eq_of_beq ‹_›))]
  .let h4:=Jaq ‹_›;let h5:=congrArg D9 e;simp at h5;show Jq3 m u n 'l' 'l' l z
 .let:⇑d=0:=by lia
  rw[this]at l;show Jq3 m h n 'l' 'l' l z
theorem Jv5(m:Me M A s κ rk U a b)(l:kindOf st=κ)(h:Lo rk a b o i j v)(z:Sg st st1):wpS M A E s (loT a b o i j ca cb g) (T2 rk a b st v) st1:=by
 let(g',rfl):=z;let(w,u,hb,C):=h;let(y,r,H,I,_):=Jb3 hb;show Ay (Ja (Ay (Jaj r (Ay (Ja3 m.ans l (L:=a.toList.drop i) (By 's') 's' (E5 (Kx _ _) m.sa) (λy J=>m.ua y (Jp J)) (m.ub y H) 'l' λc L2 e N Q=>?_)))));let(Y,e2):=sp e;let q1:∀x∈c,∀y∈b.toList.drop j,rk x<=rk y:=λx d t f=>F5 (by simpa [bl]using N x d) (Jp4 m.sb I t f);let n:∀t,b[j]? =-t->∀x∈a.toList.drop (i+⇑c),rk t<rk x:=λt f x d=>by
  rw[r]at f;cases f;rw[e2]at d
  simpa [bl]using Q x d
 dsimp only;split
 .let p:=w.ak (k:=⇑c) (by rw[Y];show q1);let h5:=congrArg D9 e;simp at h5;split
  .show Bc #[#[_,rfl],p.fil m (eq_of_beq ‹_›)]
  .let h3:=Jaq ‹_›;split
   .show Bc #[#[_,rfl],p.fin (.inl (eq_of_beq ‹_›))]
   .let h4:=Jaq ‹_›;show Jq4 m l p 'l' hb 'l' n #[_,rfl]
 .let:⇑c=0:=by lia
  rw[this]at n;show Jq4 m l w u hb C n #[_,rfl]
theorem Jsl(m:Me M A s κ rk U a b)(n:kindOf st=κ)(h:Lo rk a b o i j v):wpS M A E s (loF1 a b o i j g) (λc f=>f=st/\Pr rk a b (v+1) c.1 c.2.1 c.2.2.1 c.2.2.2.1) st:=by
 let t:=m.na;show Dr (I:=λx c f=>f=st/\c.1=none/\Lo rk a b c.2.1 c.2.2.1 c.2.2.2.1 (v+x)) ?_ ?_ #[rfl,rfl,h]
 .rintro x c _ _ u ⟨rfl,_,l⟩;show De (Jv6 m n l) λr f q=>?_;cases r with
  |done c=>exists q.1,by let:=q.2;unfold Pr at this ⊢;split<;>simp_all;let(a,b,c,d):=this;exists a,b,c,by lia
  |yield c=>show q
 .rintro c _ ⟨rfl,e,⟨w,p,hb,z⟩⟩;exists rfl,by rw[e];exists w,p,hb,by lia
theorem Jsk(m:Me M A s κ rk U a b)(f:kindOf st=κ)(h:Lo rk a b o i j v)(z:Sg st st1):wpS M A E s (loF2 a b o i j g ca cb) (λc d=>Sg st d/\Pr rk a b v c.1 c.2.1 c.2.2.1 c.2.2.2.1) st1:=by
 show Dr (I:=λx c d=>Sg st d/\c.1=none/\Lo rk a b c.2.1 c.2.2.1 c.2.2.2.1 v) ?_ ?_ #[z,rfl,h]
 .rintro x c _ _ n ⟨z,_,l⟩;split<;>show De (Jv5 m f l z) λr d q=>by cases r<;>show q
 .rintro c _ ⟨z,e,l⟩;exists z,by rw[e];show l
def T0(rk:Keyed->Int)(a b:Array Keyed)(st:C8)(v:Nat):ForInStep Wby->C8->Prop
 |.done c,d=>Sg st d/\∃r,c.1=-r/\r.toList=mg rk a.toList b.toList
 |.yield c,d=>Sg st d/\c.1=none/\Lo rk a b c.2.1 c.2.2.1 c.2.2.2.1 v
theorem Jv7(m:Me M A s κ rk U a b)(c:kindOf st=κ)(h:Lo rk a b o i j v)(z:Sg st st1):wpS M A E s (lo0 a b o i j g) (T0 rk a b st (v+1)) st1:=by
 let(d,rfl):=z;show Ay (De (Jsl m c h) ?_);rintro⟨r,o,i,j,ca,cb⟩ _ ⟨rfl,q⟩;cases r with
 |some r=>show Bc #[#[_,rfl],r,rfl,q]
 |none=>
  show Ay (Np (D2 #[rfl,Ay (De (Jsk m c q #[_,rfl]) ?_)]));rintro⟨r,o,i,j,g,ca,cb⟩ _ ⟨⟨_,rfl⟩,q⟩;cases r with
  |some r=>show Bc #[#[_,rfl],r,rfl,q]
  |none=>show Ay (Ja (Bc #[#[_,rfl],rfl,q]))
theorem Jkd{Q:Array Keyed->C8->Prop}(m:Me M A s κ rk U a b)(n:kindOf st=κ)(f:∀r g,r.toList=mg rk a.toList b.toList->Q r (stG st g)):wpS M A E s (mergeLo' a b) Q st:=by
 rw[Jip];let(y,h,t,p,_):=Jb3 m.nb;show Ay (Np (D2 #[rfl,Ay (Jaj h ?_)]));let w:Wl rk a b (List.toArray [y]) 0 1:=(show Wl rk a b #[] 0 0 from rfl).b1 p (m.low y h);split
 .show Bc (f _ (La st) (w.fin (.inr (eq_of_beq ‹_›))))
 split
 .show Bc (f _ (La st) (w.fil m (eq_of_beq ‹_›)))
 let u:=Jaq ‹¬(1==b.size)=true›;let C:=Jaq ‹¬(0+1==a.size)=true›;let H:=m.na;let J:=m.nb;show Ay (Ln (Ay (De (Dr (I:=λx c d=>Sg st d/\c.1=none/\Lo rk a b c.2.1 c.2.2.1 c.2.2.2.1 (x+1)) (Q:=λc d=>Sg st d/\∃r,c.1=-r/\r.toList=mg rk a.toList b.toList) ?_ ?_ #[#[_,rfl],rfl,w,by lia,by lia,by lia]) ?_)))
 .rintro x c _ _ L ⟨z,_,l⟩;show De (Jv7 m n l z) λr d q=>by cases r<;>show q
 .rintro c _ ⟨z,_,⟨w,N,hb,Y⟩⟩
  lia
 .rintro c _ ⟨⟨g,rfl⟩,r,e,q⟩;rw[e];show Bc (f r g q)
end
abbrev HiS:=Option (Array Keyed)×Nat×Nat×Array Keyed×Nat×Nat×Nat
abbrev Wbz:=Option (Array Keyed)×Nat×Nat×Array Keyed×Nat×Nat
abbrev Wb0:=Option (Array Keyed)×Nat×Nat×Array Keyed×Nat
noncomputable def hi1(a b:Array Keyed)(g:Nat)(o:Array Keyed)(i j c d:Nat):SM (ForInStep Wbz):=do
 let y<-elem' b (j-1)
 let x<-elem' a (i-1)
 let r<-lt' y x
 match r with
 |some w=>
  if w=true then
   let x<-elem' a (i-1)
   if(i-1==0)=true then pure (.done (-(a.extract 0 (i-1)++b.extract 0 j++(o.push x).reverse),i-1,j,o.push x,c+1,0))
   else if c+1≥g then pure (.done (none,i-1,j,o.push x,c+1,0))else pure (.yield (none,i-1,j,o.push x,c+1,0))
  else
   let y<-elem' b (j-1)
   if(j-1==1)=true then pure (.done (-(b.extract 0 (j-1)++a.extract 0 i++(o.push y).reverse),i,j-1,o.push y,0,d+1))
   else if d+1≥g then pure (.done (none,i,j-1,o.push y,0,d+1))else pure (.yield (none,i,j-1,o.push y,0,d+1))
 |_=>pure (.done (-(a.extract 0 i++b.extract 0 j++o.reverse),i,j,o,c,d))
noncomputable def hiV(a b o:Array Keyed)(i j g c d:Nat):SM (ForInStep HiS):=do
 let y<-elem' a (i-1)
 if(i-1==0)=true then pure (.done (-(a.extract 0 (i-1)++b.extract 0 j++(o.push y).reverse),i-1,j,o.push y,g,c,d))
 else if(decide (c<7)&&decide (d<7))=true then pure (.done (none,i-1,j,o.push y,g,c,d))else pure (.yield (none,i-1,j,o.push y,g,c,d))
def hiU(a b o:Array Keyed)(i j g c d:Nat):SM (ForInStep HiS):=do
 let x<-elem' b (j-1)
 if(j-1==1)=true then pure (.done (-(b.extract 0 (j-1)++a.extract 0 i++(o.push x).reverse),i,j-1,o.push x,g,c,d))
 else
  let y<-elem' a (i-1)
  let r<-gallop' true y b 0 (j-1) (j-1-1)
  match r with
  |some p=>(if j-1-p>0 then(if(p==1)=true then pure (.done (-(b.extract 0 p++a.extract 0 i++(o.push x++(b.extract p (j-1)).reverse).reverse),i,p,o.push x++(b.extract p (j-1)).reverse,g,c,j-1-p))
     else if(p==0)=true then pure (.done (-(a.extract 0 i++b.extract 0 p++(o.push x++(b.extract p (j-1)).reverse).reverse),i,p,o.push x++(b.extract p (j-1)).reverse,g,c,j-1-p))
     else hiV a b (o.push x++(b.extract p (j-1)).reverse) i p g c (j-1-p))else hiV a b (o.push x) i (j-1) g c (j-1-p))
  |_=>pure (.done (-(a.extract 0 i++b.extract 0 (j-1)++(o.push x).reverse),i,j-1,o.push x,g,c,d))
def hiT(a b o:Array Keyed)(i j d c g:Nat):SM (ForInStep HiS):=do
 Zw g
 let x<-elem' b (j-1)
 let r<-gallop' false x a 0 i (i-1)
 match r with
 |some p=>(if i-p>0 then
    (if(p==0)=true then pure (.done (-(a.extract 0 p++b.extract 0 j++(o++(a.extract p i).reverse).reverse),p,j,o++(a.extract p i).reverse,g,i-p,c))
    else hiU a b (o++(a.extract p i).reverse) p j g (i-p) c)
   else hiU a b o i j g (i-p) c)
 |_=>pure (.done (-(a.extract 0 i++b.extract 0 j++o.reverse),i,j,o,g,d,c))
def hiF1(a b o:Array Keyed)(i j g:Nat):SM Wbz:=forIn [0:a.size+b.size] (none,i,j,o,0,0) λ_ c=>hi1 a b g c.2.2.2.1 c.2.1 c.2.2.1 c.2.2.2.2.1 c.2.2.2.2.2
def hiF2(a b o:Array Keyed)(i j g d e:Nat):SM HiS:=forIn [0:a.size+b.size] (none,i,j,o,g,d,e) λ_ c=>
 if c.2.2.2.2.1>1 then hiT a b c.2.2.2.1 c.2.1 c.2.2.1 c.2.2.2.2.2.1 c.2.2.2.2.2.2 (c.2.2.2.2.1-1)else hiT a b c.2.2.2.1 c.2.1 c.2.2.1 c.2.2.2.2.2.1 c.2.2.2.2.2.2 c.2.2.2.2.1
def hi0(a b o:Array Keyed)(i j g:Nat):SM (ForInStep Wb0):=do
 let c<-hiF1 a b o i j g
 match c.1 with
 |some r=>pure (.done (-r,c.2.1,c.2.2.1,c.2.2.2.1,g))
 |none=>do
  rule "list.sort.gallop"
  let d<-hiF2 a b c.2.2.2.1 c.2.1 c.2.2.1 (g+1) c.2.2.2.2.1 c.2.2.2.2.2
  match d.1 with
  |some r=>pure (.done (-r,d.2.1,d.2.2.1,d.2.2.2.1,d.2.2.2.2.1))
  |none=>do
   Zw (d.2.2.2.2.1+1)
   pure (.yield (none,d.2.1,d.2.2.1,d.2.2.2.1,d.2.2.2.2.1+1))
def Wdv(a b:Array Keyed):SM (Array Keyed):=do
 rule "list.sort.merge-hi"
 let x<-elem' a (a.size-1)
 if(a.size-1==0)=true then pure (a.extract 0 (a.size-1)++b.extract 0 b.size++ (List.toArray [x]).reverse)
 else if(b.size==1)=true then pure (b.extract 0 b.size++a.extract 0 (a.size-1)++ (List.toArray [x]).reverse)
 else do
  let st<-get
  let c<-forIn [0:a.size+b.size] ((none,a.size-1,b.size,(List.toArray [x]),La st):Wb0) λ_ c=>hi0 a b c.2.2.2.1 c.2.1 c.2.2.1 c.2.2.2.2
  match c.1 with
  |some r=>pure r
  |none=>unsupported "internal:list.sort.merge-bound"
theorem Jiq(a b:Array Keyed):mergeHi' a b=Wdv a b:=by kernel_rfl
section
variable {rk:Keyed->Int} {U:Keyed->Prop} {κ:Hv} {M:Lm} {A:Bo} {E:Value->Shared->Prop} {s:Shared} {st st1:C8} {a b o:Array Keyed} {i j p g ca cb v:Nat} {x y:Keyed}
def Wh(rk:Keyed->Int)(a b o:Array Keyed)(i j:Nat):Prop:=mg rk (a.toList.take i) (b.toList.take j)++o.toList.reverse=mg rk a.toList b.toList
theorem Wh.ap(h:Wh rk a b o i j)(hp:p<=i)(c:∀x∈(a.toList.take i).drop p,∀y∈b.toList.take j,rk y<rk x):Wh rk a b (o++(a.extract p i).reverse) p j:=by
 unfold Wh at h ⊢;rw[<-h,td a.toList hp,Jx6 c];simp[V1]
theorem Wh.bp(h:Wh rk a b o i j)(hp:p<=j)(c:∀y∈(b.toList.take j).drop p,∀x∈a.toList.take i,rk x<=rk y):Wh rk a b (o++(b.extract p j).reverse) i p:=by
 unfold Wh at h ⊢;rw[<-h,td b.toList hp,Jut c];simp[V1]
theorem Wh.a1(h:Wh rk a b o (i+1) j)(c:a.toList.take (i+1)=a.toList.take i++[x])(d:∀y∈b.toList.take j,rk y<rk x):Wh rk a b (o.push x) i j:=by
 unfold Wh at h ⊢;rw[<-h,c,Jx6 (by erw[d])];simp
theorem Wh.b1(h:Wh rk a b o i (j+1))(c:b.toList.take (j+1)=b.toList.take j++[y])(d:∀x∈a.toList.take i,rk x<=rk y):Wh rk a b (o.push y) i j:=by
 unfold Wh at h ⊢;rw[<-h,c,Jut (by erw[d])];simp
theorem Wh.fin(h:Wh rk a b o i j)(z:i=0\/j=0):(a.extract 0 i++b.extract 0 j++o.reverse).toList=mg rk a.toList b.toList:=by
 rw[<-h];rcases z with rfl|rfl<;>simp[mg]
theorem Wh.fib(m:Me M A s κ rk U a b)(h:Wh rk a b o i j)(c:j=1):(b.extract 0 j++a.extract 0 i++o.reverse).toList=mg rk a.toList b.toList:=by
 let(y,e,_,_,d):=Jb3 m.nb;subst c;rw[<-h,d];let:=Wad (rk:=rk) (B:=[y]) (B':=[]) (A:=a.toList.take i) λt f x k=>by
  rw[Ap.1 f];show m.low y e x (E3 k)
 simp only[Ml,Ly,Co]at this ⊢;rw[this];simp[mg,d]
theorem Jjw(h:SL rk a.toList)(e:a.toList.take (i+1)=a.toList.take i++[x]):∀y∈a.toList.take (i+1),rk y<=rk x:=by
 let c:SL rk (a.toList.take (i+1)):=E5 (G8 _ _) h;rw[e]at c ⊢;intro y hy;rcases Bn.1 hy with hy|hy
 .show(Cq.1 c).2.2 y hy x 's'
 .rw[Ap.1 hy];show O6 _
inductive Hi (rk:Keyed->Int) (a b o:Array Keyed) (i j v:Nat):Prop
 |mk (w:Wh rk a b o i j) (h0:0<i) (ha:i<=a.size) (h1:1<j) (hb:j<=b.size) (hv:i+j+v<=a.size+b.size):Hi rk a b o i j v
def Ph(rk:Keyed->Int)(a b:Array Keyed)(v:Nat)(r:Option (Array Keyed))(o:Array Keyed)(i j:Nat):Prop:=match r with
 |some r=>r.toList=mg rk a.toList b.toList
 |none=>Hi rk a b o i j v
def H1(rk:Keyed->Int)(a b:Array Keyed)(st:C8)(v:Nat):ForInStep Wbz->C8->Prop
 |.done c,d=>d=st/\Ph rk a b v c.1 c.2.2.2.1 c.2.1 c.2.2.1
 |.yield c,d=>d=st/\c.1=none/\Hi rk a b c.2.2.2.1 c.2.1 c.2.2.1 v
def H2(rk:Keyed->Int)(a b:Array Keyed)(st:C8)(v:Nat):ForInStep HiS->C8->Prop
 |.done c,d=>Sg st d/\Ph rk a b v c.1 c.2.2.2.1 c.2.1 c.2.2.1
 |.yield c,d=>Sg st d/\c.1=none/\Hi rk a b c.2.2.2.1 c.2.1 c.2.2.1 v
theorem Jv9(m:Me M A s κ rk U a b)(u:kindOf st=κ)(h:Hi rk a b o i j v):wpS M A E s (hi1 a b g o i j ca cb) (H1 rk a b st (v+1)) st:=by
 let(w,C,H,I,hb,N):=h;obtain⟨i,rfl⟩:∃n,i=n+1:=#[i-1,by lia]
 obtain⟨j,rfl⟩:∃n,j=n+1:=#[j-1,by lia]
 let(y,f,J,_,k):=Jb3 (a:=b) (i:=j) 'l';let(x,r,L,_,t):=Jb3 (a:=a) (i:=i) 'l';show Ay (Jaj f (Ay (Jaj r (Ay (Jdj m.ans u (m.ub y J) (m.ua x L) ?_)))));dsimp only
 by_cases c:rk y<rk x
 .rw[decide_eq_true c,if_pos rfl];show Ay (Jaj r ?_);let d:=w.a1 t λz e=>Gv (Jjw m.sb k z e) c;split
  .show Bc #[rfl,d.fin (.inl (eq_of_beq ‹_›))]
  .let l:Hi rk a b (o.push x) i (j+1) (v+1):=#[d,by let:=Jaq ‹_›;lia,by lia,I,hb,by lia]
   split
   .show Bc #[rfl,l]
   .show Bc #[rfl,rfl,l]
 .rw[decide_eq_false c,if_neg Bb];show Ay (Jaj f ?_);let d:=w.b1 k λz e=>F5 (Jjw m.sa t z e) (Int.not_lt.1 c);split
  .show Bc #[rfl,d.fib m (eq_of_beq ‹_›)]
  .let l:Hi rk a b (o.push y) (i+1) j (v+1):=#[d,C,H,by let:=Jaq ‹_›;lia,by lia,by lia]
   split
   .show Bc #[rfl,l]
   .show Bc #[rfl,rfl,l]
theorem Jq5(m:Me M A s κ rk U a b)(w:Wh rk a b o i j)(h:0<i)(k:i<=a.size)(e:1<j)(hb:j<=b.size)(r:i+j+v<=a.size+b.size)(le:∀x,a[i-1]? =-x->∀y∈b.toList.take j,rk y<rk x)(z:Sg st st1):wpS M A E s (hiV a b o i j g ca cb) (H2 rk a b st v) st1:=by
 obtain⟨i,rfl⟩:∃n,i=n+1:=#[i-1,by lia]
 let(x,c,t,_,f):=Jb3 (a:=a) (i:=i) 'l';show Ay (Jaj c ?_);let d:=w.a1 f (le x c);split
 .show Bc #[z,d.fin (.inl (eq_of_beq ‹_›))]
 .let l:Hi rk a b (o.push x) i j v:=#[d,by let:=Jaq ‹_›;lia,by lia,e,hb,by lia]
  split
  .show Bc #[z,l]
  .show Bc #[z,rfl,l]
theorem Jq6(m:Me M A s κ rk U a b)(I:kindOf st1=κ)(w:Wh rk a b o i j)(r:0<i)(u:i<=a.size)(h1:1<j)(hb:j<=b.size)(hv:i+j+v<=a.size+b.size)(le:∀y,b[j-1]? =-y->∀x∈a.toList.take i,rk x<=rk y)(z:Sg st st1):wpS M A E s (hiU a b o i j g ca cb) (H2 rk a b st v) st1:=by
 obtain⟨i,rfl⟩:∃n,i=n+1:=#[i-1,by lia]
 obtain⟨j,rfl⟩:∃n,j=n+1:=#[j-1,by lia]
 let(y,C,y2,_,J):=Jb3 (a:=b) (i:=j) 'l';let(x,H,N,_,Q):=Jb3 (a:=a) (i:=i) 'l';show Ay (Jaj C ?_);let f:=w.b1 J (le y C);split
 .show Bc #[z,f.fib m (eq_of_beq ‹_›)]
 let hj:=Jaq ‹_›;show Ay (Jaj H (Ay (Ja3 m.ans I (L:=b.toList.take j) rfl 'm' (E5 (G8 _ _) m.sb) (λy d=>m.ub y (E3 d)) (m.ua x N) 'l' λc L2 e Y p2=>?_)));let h5:=congrArg D9 e;simp at h5;let e1:(b.toList.take j).drop ⇑c=L2:=by rw[e];simp
 let e2:b.toList.take ⇑c=c:=by rw[<-Pm (show ⇑c<=j by lia),<-P0,e];simp
 let h:∀t,a[i+1-1]? =-t->∀y∈b.toList.take ⇑c,rk y<rk t:=λt k y d=>by
  cases H.symm.trans k;rw[e2]at d
  simpa [bl]using Y y d
 dsimp only;split
 .let l:=f.bp (p:=⇑c) 'l' (by rw[e1];show λy d t k=>F5 (Jjw m.sa Q t k) (by simpa [bl]using p2 y d));split
  .show Bc #[z,l.fib m (eq_of_beq ‹_›)]
  .let h4:=Jaq ‹_›;split
   .show Bc #[z,l.fin (.inr (eq_of_beq ‹_›))]
   .let h6:=Jaq ‹_›;show Jq5 m l r u 'l' 'l' 'l' h z
 .let:⇑c=j:=by lia
  rw[this]at h;show Jq5 m f r u 'l' 'l' 'l' h z
theorem Jv8(m:Me M A s κ rk U a b)(f:kindOf st=κ)(h:Hi rk a b o i j v)(z:Sg st st1):wpS M A E s (hiT a b o i j ca cb g) (H2 rk a b st v) st1:=by
 let(g',rfl):=z;let(w,H,I,r,hb,J):=h;obtain⟨j,rfl⟩:∃n,j=n+1:=#[j-1,by lia]
 let(y,u,N,_,Q):=Jb3 (a:=b) (i:=j) 'l';show Ay (Ja (Ay (Jaj u (Ay (Ja3 m.ans f (L:=a.toList.take i) rfl 'm' (E5 (G8 _ _) m.sa) (λy Y=>m.ua y (E3 Y)) (m.ub y N) 'l' λc L2 e p1 p2=>?_)))));let h5:=congrArg D9 e;simp at h5;let e1:(a.toList.take i).drop ⇑c=L2:=by rw[e];simp
 let e2:a.toList.take ⇑c=c:=by rw[<-Pm (show ⇑c<=i by lia),<-P0,e];simp
 let k:∀t,b[j+1-1]? =-t->∀x∈a.toList.take ⇑c,rk x<=rk t:=λt l x d=>by
  cases u.symm.trans l;rw[e2]at d
  simpa [bl]using p1 x d
 dsimp only;split
 .let C:=w.ap (p:=⇑c) 'l' (by rw[e1];show λx d t l=>Gv (Jjw m.sb Q t l) (by simpa [bl]using p2 x d));split
  .show Bc #[#[_,rfl],C.fin (.inl (eq_of_beq ‹_›))]
  .let h4:=Jaq ‹_›;show Jq6 m f C 'l' 'l' r hb 'l' k #[_,rfl]
 .let:⇑c=i:=by lia
  rw[this]at k;show Jq6 m f w H I r hb J k #[_,rfl]
theorem Jsn(m:Me M A s κ rk U a b)(n:kindOf st=κ)(h:Hi rk a b o i j v):wpS M A E s (hiF1 a b o i j g) (λc k=>k=st/\Ph rk a b (v+1) c.1 c.2.2.2.1 c.2.1 c.2.2.1) st:=by
 let C:=m.na;show Dr (I:=λx c k=>k=st/\c.1=none/\Hi rk a b c.2.2.2.1 c.2.1 c.2.2.1 (v+x)) ?_ ?_ #[rfl,rfl,h]
 .rintro x c _ _ H ⟨rfl,_,l⟩;show De (Jv9 m n l) λr k q=>?_;cases r with
  |done c=>exists q.1,by let:=q.2;unfold Ph at this ⊢;split<;>simp_all;let(a,b,c,d,e,f):=this;exists a,b,c,d,e,by lia
  |yield c=>show q
 .rintro c _ ⟨rfl,e,⟨w,t,u,z,hb,J⟩⟩;exists rfl,by rw[e];exists w,t,u,z,hb,by lia
theorem Jsm(m:Me M A s κ rk U a b)(f:kindOf st=κ)(h:Hi rk a b o i j v)(z:Sg st st1):wpS M A E s (hiF2 a b o i j g ca cb) (λc d=>Sg st d/\Ph rk a b v c.1 c.2.2.2.1 c.2.1 c.2.2.1) st1:=by
 show Dr (I:=λx c d=>Sg st d/\c.1=none/\Hi rk a b c.2.2.2.1 c.2.1 c.2.2.1 v) ?_ ?_ #[z,rfl,h]
 .rintro x c _ _ k ⟨z,_,l⟩;split<;>show De (Jv8 m f l z) λr d q=>by cases r<;>show q
 .rintro c _ ⟨z,e,l⟩;exists z,by rw[e];show l
def H0(rk:Keyed->Int)(a b:Array Keyed)(st:C8)(v:Nat):ForInStep Wb0->C8->Prop
 |.done c,d=>Sg st d/\∃r,c.1=-r/\r.toList=mg rk a.toList b.toList
 |.yield c,d=>Sg st d/\c.1=none/\Hi rk a b c.2.2.2.1 c.2.1 c.2.2.1 v
theorem Jwa(m:Me M A s κ rk U a b)(c:kindOf st=κ)(h:Hi rk a b o i j v)(z:Sg st st1):wpS M A E s (hi0 a b o i j g) (H0 rk a b st (v+1)) st1:=by
 let(d,rfl):=z;show Ay (De (Jsn m c h) ?_);rintro⟨r,i,j,o,ca,cb⟩ _ ⟨rfl,q⟩;cases r with
 |some r=>show Bc #[#[_,rfl],r,rfl,q]
 |none=>
  show Ay (Np (D2 #[rfl,Ay (De (Jsm m c q #[_,rfl]) ?_)]));rintro⟨r,i,j,o,g,ca,cb⟩ _ ⟨⟨_,rfl⟩,q⟩;cases r with
  |some r=>show Bc #[#[_,rfl],r,rfl,q]
  |none=>show Ay (Ja (Bc #[#[_,rfl],rfl,q]))
theorem Jke{Q:Array Keyed->C8->Prop}(m:Me M A s κ rk U a b)(k:kindOf st=κ)(f:∀r g,r.toList=mg rk a.toList b.toList->Q r (stG st g)):wpS M A E s (mergeHi' a b) Q st:=by
 rw[Jiq];let H:=m.na;let J:=m.nb;let(x,h,L,_,n):=Jb3 (a:=a) (i:=a.size-1) 'l';show Ay (Np (D2 #[rfl,Ay (Jaj h ?_)]));let t:Wh rk a b #[] (a.size-1+1) b.size:=by
  unfold Wh;rw[By 'm',By 's'];simp
 let w:Wh rk a b (List.toArray [x]) (a.size-1) b.size:=t.a1 n λy u=>m.top x h y (E3 u);split
 .show Bc (f _ (La st) (w.fin (.inl (eq_of_beq ‹_›))))
 split
 .show Bc (f _ (La st) (w.fib m (eq_of_beq ‹_›)))
 let C:=Jaq ‹¬(a.size-1==0)=true›;let N:=Jaq ‹¬(b.size==1)=true›;show Ay (Ln (Ay (De (Dr (I:=λx c d=>Sg st d/\c.1=none/\Hi rk a b c.2.2.2.1 c.2.1 c.2.2.1 (x+1)) (Q:=λc d=>Sg st d/\∃r,c.1=-r/\r.toList=mg rk a.toList b.toList) ?_ ?_ #[#[_,rfl],rfl,w,by lia,by lia,by lia,by lia,by lia]) ?_)))
 .rintro x c _ _ Y ⟨z,_,l⟩;show De (Jwa m k l z) λr d q=>by cases r<;>show q
 .rintro c _ ⟨z,_,⟨w,h0,ha,C,hb,hv⟩⟩
  lia
 .rintro c _ ⟨⟨g,rfl⟩,r,e,q⟩;rw[e];show Bc (f r g q)
end
noncomputable def asc(lo a z:Nat):SM (Option (Option Nat)×Nat):=forIn [a:z] (none,a) λ_ c=>do
 let r<-ltAt' (lo+c.2) (lo+c.2-1)
 match r with
 |some w=>if w=true then pure (.done (none,c.2))else pure (.yield (none,c.2+1))
 |_=>pure (.done (some none,c.2))
noncomputable def dsc(lo a z:Nat):SM (Option (Option Nat)×Nat×Nat):=forIn [a:z] (none,a,0) λ_ c=>do
 let r<-ltAt' (lo+c.2.1) (lo+c.2.1-1)
 match r with
 |some w=>
  if w=true then
   if c.2.2>0 then do
    Lv (lo+c.2.1-(c.2.2+1)) (lo+c.2.1)
    pure (.yield (none,c.2.1+1,0))
   else pure (.yield (none,c.2.1+1,0))
  else do
   let r<-ltAt' (lo+c.2.1-1) (lo+c.2.1)
   match r with
   |some w=>if w=true then pure (.done (none,c.2.1,c.2.2))else pure (.yield (none,c.2.1+1,c.2.2+1))
   |_=>pure (.done (some none,c.2.1,c.2.2))
 |_=>pure (.done (some none,c.2.1,c.2.2))
def crT(lo n z:Nat):SM (Option Nat):=do
 Lv lo (lo+n)
 let c<-asc lo n z
 match c.1 with
 |some r=>pure r
 |none=>pure (some c.2)
def crD(lo n z:Nat):SM (Option Nat):=do
 rule "list.sort.descending-run"
 let c<-dsc lo (n+1) z
 match c.1 with
 |some r=>pure r
 |none=>
  if c.2.2>0 then
   Lv (lo+c.2.1-(c.2.2+1)) (lo+c.2.1)
   crT lo c.2.1 z
  else crT lo c.2.1 z
def cr(lo z:Nat):SM (Option Nat):=do
 let c<-asc lo 1 z
 match c.1 with
 |some r=>pure r
 |none=>
  if(c.2==z)=true then pure (some c.2)
  else if c.2>1 then
   let r<-ltAt' lo (lo+c.2-1)
   match r with
   |some w=>
    if w=true then pure (some c.2)
    else
     Lv lo (lo+c.2)
     crD lo c.2 z
   |_=>pure none
  else crD lo c.2 z
theorem J00(lo z:Nat):countRun' lo z=cr lo z:=by kernel_rfl
noncomputable def bsI(lo k:Nat):SM (Option Bool×Nat×Nat):=forIn [0:k] (none,0,k) λ_ c=>
 if c.2.1≥c.2.2 then pure (.done (none,c.2.1,c.2.2))else do
  let r<-ltAt' (lo+k) (lo+(c.2.1+c.2.2)/2)
  match r with
  |some w=>if w=true then pure (.yield (none,c.2.1,(c.2.1+c.2.2)/2))else pure (.yield (none,(c.2.1+c.2.2)/2+1,c.2.2))
  |_=>pure (.done (-false,c.2.1,c.2.2))
def bsK(lo k:Nat):SM (ForInStep (Option Bool×Unit)):=do
 let c<-bsI lo k
 match c.1 with
 |some r=>pure (.done (-r,()))
 |none=>do
  moveDown' (lo+k) (lo+c.2.1)
  pure (.yield (none,()))
def bs(lo n a:Nat):SM Bool:=do
 let c<-forIn [max a 1:n] ((none,()):Option Bool×Unit) λk _=>bsK lo k
 match c.1 with
 |some r=>pure r
 |none=>pure true
theorem J01(lo n a:Nat):binarySort' lo n a=bs lo n a:=by kernel_rfl
section
variable {rk:Keyed->Int} {U:Keyed->Prop} {κ:Hv} {M:Lm} {A:Bo} {E:Value->Shared->Prop} {s:Shared} {st:C8} {L P X R:List Keyed} {x y z w:Keyed} {i j k n:Nat}
noncomputable abbrev sl(st:C8)(L:List Keyed):C8:=setArr st L.toArray
theorem Jlf{Q:Option Bool->C8->Prop}(d:Ans M A s κ rk U)(e:kindOf st=κ)(a:∀x∈L,U x)(b:L[i]? =-x)(c:L[j]? =-y)(h:Q (-(decide (rk x<rk y))) (sl st L)):wpS M A E s (ltAt' i j) Q (sl st L):=by
 rw[ltAt'_eq];show Ay (Ln (Ay (Jaj (show L.toArray[i]? =-x by erw[b]) (Ay (Jaj (show L.toArray[j]? =-y by erw[c]) (Jdj d e (a x (As b)) (a y (As c)) h))))))
theorem at1:(P++(X++[z])++R)[⇑P+(⇑X+1)-1]? =-z:=by
 rw[show ⇑P+(⇑X+1)-1=⇑P+⇑X by lia];simp
theorem at2:(P++(X++[z])++w::R)[⇑P+(⇑X+1)]? =-w:=by
 let:(P++(X++[z])).length=⇑P+(⇑X+1):=by simp
 rw[<-this];simp
theorem Jwn(h:SL rk (X++[z]))(a:rk z<=rk w):SL rk (X++[z]++[w]):=Cq.2 #[h,by simp,λx b y c=>by
 rw[Ap.1 c];rcases Bn.1 b with q|q
 .show F5 ((Cq.1 h).2.2 x q z 's') a
 .rw[Ap.1 q];show a]
theorem ends(h:0<⇑X):∃Y z,X=Y++[z]:=by
 rcases R9 X with rfl|⟨Y,z,e⟩
 .cases h
 .exists Y,z,by erw[e]
inductive Run (rk:Keyed->Int) (L P:List Keyed) (n:Nat):Prop
 |mk (X:List Keyed) (z:Keyed) (R:List Keyed) (e:L=P++(X++[z])++R) (hn:n=⇑X+1) (hs:SL rk (X++[z])) (hw:∀w R',R=w::R'->rk w<rk z)
theorem Jq7(h:Ans M A s κ rk U)(l:kindOf st=κ)(m:∀x∈L,U x)(e:L=P++(X++[z])++R)(hs:SL rk (X++[z])):
  wpS M A E s (asc ⇑P (⇑X+1) (⇑X+1+⇑R)) (λc b=>b=sl st L/\c.1=none/\⇑X+1<=c.2/\Run rk L P c.2) (sl st L):=by
 show Dr (I:=λn c b=>b=sl st L/\c=(none,n)/\∃X z R,L=P++(X++[z])++R/\n=⇑X+1/\SL rk (X++[z])) ?_ ?_ #[rfl,rfl,X,z,R,e,rfl,hs]
 .rintro n _ _ o g ⟨rfl,rfl,Y,z,T,a,rfl,f⟩;let d:=congrArg D9 (e.symm.trans a);simp at d;cases T with
  |nil=>simp at d;lia
  |cons w T=>
   show Ay (Jlf h l m (x:=w) (y:=z) (by rw[a];show at2) (by rw[a];show at1) ?_)
   by_cases c:rk w<rk z
   .rw[decide_eq_true c];show Bc #[rfl,rfl,o,Y,z,w::T,a,rfl,f,λ_ _ q=>by cases q;show c]
   .rw[decide_eq_false c];show Bc #[rfl,rfl,Y++[z],w,T,by rw[a];simp,by simp,Jwn f 'l']
 .rintro _ _ ⟨rfl,rfl,Y,z,T,a,g,f⟩;let d:=congrArg D9 (e.symm.trans a);simp at d;exists rfl,rfl,by simp,Y,z,T,a,by erw[g],f,λw p q=>by subst q;simp at d;lia
theorem Jvd(h:i<⇑P):(P++X++R)[i]? =P[i]? :=by rw[Ar,A0 h]
theorem Jp7(h:⇑P<=i)(a:i<⇑P+⇑X):(P++X++R)[i]? =X[i-⇑P]? :=by rw[Ar,Au h,A0 'l']
theorem Jnh(h:⇑P+⇑X<=i):(P++X++R)[i]? =R[i-(⇑P+⇑X)]? :=by rw[Au (by erw[h]),Al]
theorem mir:mirror (P++X++R).toArray ⇑P (⇑P+⇑X) ((⇑P+⇑X-⇑P)/2)=(P++X.reverse++R).toArray:=by
 show Tn λi=>?_;rw[getElem?_mirror_all 's',Dl,Dl,Dl]
 by_cases a:⇑P<=i/\i<⇑P+⇑X
 .rw[if_pos a,Jp7 (by omega) (by omega),Jp7 a.1 (by erw[a.2]),R7 (by omega)];congr 1;omega
 .rw[if_neg a]
  by_cases b:i<⇑P
  .rw[Jvd b,Jvd b]
  .rw[Jnh (by omega),Jnh (by simp;omega),Jw]
abbrev Ne(rk:Keyed->Int)(L:List Keyed):Prop:=L.Pairwise λx y=>rk x≠rk y
theorem Jtn(h:SL rk (z::Y))(a:rk w<=rk z):SL rk (w::z::Y):=D6.2 #[λx b=>by
 rcases An.1 b with rfl|q
 .show a
 .show F5 a ((D6.1 h).1 x q),h]
theorem Jwb(f:Ans M A s κ rk U)(g:kindOf st=κ)(h:∀x∈L,U x)(hd:Ne rk L)(e:L=P++(X++[z])++R)(hs:SL rk (X++[z]).reverse):
  wpS M A E s (dsc ⇑P (⇑X+1) (⇑X+1+⇑R)) (λc b=>b=sl st L/\∃X z R,c=(none,⇑X+1,0)/\L=P++(X++[z])++R/\SL rk (X++[z]).reverse) (sl st L):=by
 show Dr (I:=λn c b=>b=sl st L/\c=(none,n,0)/\∃X z R,L=P++(X++[z])++R/\n=⇑X+1/\SL rk (X++[z]).reverse) ?_ ?_ #[rfl,rfl,X,z,R,e,rfl,hs]
 .rintro n _ _ u l ⟨rfl,rfl,Y,z,T,a,rfl,d⟩;let m:=congrArg D9 (e.symm.trans a);simp at m;cases T with
  |nil=>simp at m;lia
  |cons w T=>
   have o:L[⇑P+(⇑Y+1)-1]? =-z:=by rw[a];show at1
   let p:L[⇑P+(⇑Y+1)]? =-w:=by rw[a];show at2
   show Ay (Jlf f g h p o ?_)
   by_cases c:rk w<rk z
   .rw[decide_eq_true c];show Bc #[rfl,rfl,Y++[z],w,T,by rw[a];simp,by simp,?_];let r:(Y++[z]++[w]).reverse=w::z::Y.reverse:=by simp
    let t:(Y++[z]).reverse=z::Y.reverse:=by simp
    rw[t]at d;rw[r];show Jtn d 'l'
   .rw[decide_eq_false c];show Ay (Jlf f g h o p ?_);let:rk z≠rk w:=by
     rw[a]at hd;show(Cq.1 hd).2.2 z 's' w 's'
    rw[decide_eq_true (show rk z<rk w by lia)];show Bc #[rfl,Y,z,w::T,rfl,a,d]
 .rintro _ _ ⟨rfl,rfl,Y,z,T,a,l,d⟩;exists rfl,Y,z,T,by rw[l],a,d
theorem Jwc{Q:Option Nat->C8->Prop}(m:Ans M A s κ rk U)(o:kindOf st=κ)(p:∀x∈P++(X++[z])++R,U x)(hs:SL rk (X++[z]).reverse)
  (r:∀a b,a≠[]->SL rk a->(a++b).Perm (X++[z]++R)->Q (-⇑a) (sl st (P++a++b))):wpS M A E s (crT ⇑P (⇑X+1) (⇑X+1+⇑R)) Q (sl st (P++(X++[z])++R)):=by
 let f:=mir (P:=P) (X:=X++[z]) (R:=R);rw[Al,Cm]at f;let(Y,y,e):=ends (X:=(X++[z]).reverse) 's';let g:=congrArg D9 e;simp at g;let h:(Y++[y]++R).Perm (X++[z]++R):=by rw[<-e];show Ia _ (List.reverse_perm _)
 show Ay (show wpS M A E s (Lv _ _) _ _ by
  rw[reverseSlice'_eq];show Ja ?_;change wpS M A E s _ _ (setArr st (mirror _ _ _ _));rw[f,e,g];show Ay (De (Jq7 m o (L:=P++(Y++[y])++R) (λx l=>p x ?_) rfl (e▸hs)) ?_)
  .rw[Ar]at l ⊢;show(Ep P h).mem_iff.1 l
  rintro⟨c,n⟩ _ ⟨rfl,rfl,_,a,t,b,d,rfl,u,_⟩;rw[d];let q:=r (a++[t]) b 's' u (by
   rw[Ar P,Ar P]at d;rw[<-Lf d];show h)
  rw[Al,Cm]at q;show Bc q)
theorem Jzo{T:List Keyed}{Q:Option Nat->C8->Prop}(m:Ans M A s κ rk U)(o:kindOf st=κ)(p:∀x∈P++T,U x)(hd:Ne rk (P++T))(N:0<⇑T)
  (v:∀e g,e≠[]->SL rk e->(e++g).Perm T->Q (-⇑e) (sl st (P++e++g))):wpS M A E s (countRun' ⇑P ⇑T) Q (sl st (P++T)):=by
 rw[J00];cases T with
 |nil=>cases N
 |cons x T=>
  have a:=Jq7 (E:=E) (st:=st) m o p (P:=P) (X:=[]) (z:=x) (R:=T) 's' 's';rw[show([]:List Keyed).length+1+⇑T=(x::T).length by simp;lia]at a;show Ay (De a ?_);rintro⟨c,n⟩ _ ⟨rfl,rfl,_,e,h,g,l,rfl,C,Y⟩;let t:x::T=e++[h]++g:=Lf (by rw[l,Ar]);let q:Q (-(⇑e+1)) (sl st (P++x::T)):=by
   let:=v (e++[h]) g 's' C (by rw[t]);rw[Al,Cm]at this;rw[l];show this
  dsimp only;split
  .show Bc q
  let H:=Jaq ‹_›;let r:=congrArg D9 t;simp at r H;split
  .cases e with
   |nil=>contradiction
   |cons y e=>
    show Ay (Jlf m o p (x:=y) (y:=h) (by rw[l];simp) (by rw[l];show at1) ?_);let h3:rk y<=rk h:=(D6.1 C).1 h 's';let I:rk y≠rk h:=by
     rw[t]at hd;show(D6.1 (Cq.1 (Cq.1 hd).2.1).1).1 h 's'
    rw[decide_eq_true (show rk y<rk h by lia)];show Bc q
  .cases e with
   |cons y e=>simp at*
   |nil=>
    cases g with
    |nil=>simp at r;show absurd r (by erw[H∘Eq.symm])
    |cons w g=>
     have d:=Jwb (E:=E) (st:=st) m o p hd (P:=P) (X:=[h]) (z:=w) (R:=g) (by rw[l];simp) (by erw[Int.le_of_lt (Y w g rfl)]);rw[show[h].length+1+⇑g=(x::T).length by simp at r ⊢;lia]at d;show Ay (Np (D2 #[rfl,Ay (De d ?_)]));rintro _ _ ⟨rfl,X,z,R,rfl,u,I⟩;let J:x::T=X++[z]++R:=Lf (by rw[u,Ar]);let f:=Jwc (E:=E) (Q:=Q) (st:=st) m o (P:=P) (X:=X) (z:=z) (R:=R) (by rw[<-u];show p) I λe g a b c=>v e g a b (by rw[J];show c);rw[<-u,show ⇑X+1+⇑R=(x::T).length by rw[J];simp;lia]at f;show f
theorem bub:bubble (P++(X++a)++y::R).toArray (⇑P+(X++a).length) (⇑P+(X++a).length-(⇑P+⇑X))=(P++(X++y::a)++R).toArray:=by
 show Tn λi=>?_;rw[getElem?_bubble 's' _ (by omega),Dl,Dl,Dl,Dl];let b:P++(X++a)++y::R=(P++X)++a++y::R:=by simp
 let d:P++(X++y::a)++R=(P++X)++y::(a++R):=by simp
 let e:(P++X).length=⇑P+⇑X:=by simp
 rw[b,d,Al,<-Eh,<-e];split
 .rename_i h;rw[Jnh (Aj _),Au (by omega),show i-(P++X).length=0 by omega];simp
 .split
  .rw[Jp7 (by omega) (by omega),Au (by omega),show i-(P++X).length=i-1-(P++X).length+1 by omega,Cj,A0 (by omega)]
  .by_cases c:i<(P++X).length
   .rw[Jvd c,A0 c]
   .obtain⟨k,rfl⟩:∃k,i=(P++X).length+⇑a+(k+1):=#[i-((P++X).length+⇑a)-1,by omega]
    rw[Jnh (by omega),Au (by omega),Ij,show(P++X).length+⇑a+(k+1)-(P++X).length=⇑a+k+1 by omega,Cj,Cj,Au (by omega),Ij]
theorem Jwd(J:Ans M A s κ rk U)(N:kindOf st=κ)(Q:∀x∈P++X++y::R,U x)(hs:SL rk X):
  wpS M A E s (bsK ⇑P ⇑X) (λc e=>c=.yield (none,())/\∃m,m.Perm (y::X)/\SL rk m/\e=sl st (P++m++R)) (sl st (P++X++y::R)):=by
 let(d,f,rfl,o,p):=Jjh rk false y hs;show Ay (De (show wpS M A E s (bsI ⇑P (d++f).length) (λc e=>e=sl st (P++(d++f)++y::R)/\c.1=none/\c.2.1=⇑d) _ from
  Dr (I:=λx c e=>e=sl st (P++(d++f)++y::R)/\∃l r,c=(none,l,r)/\l<=⇑d/\⇑d<=r/\r<=(d++f).length/\r-l+x<=(d++f).length) ?_ ?_ #[rfl,_,_,rfl,by lia,by simp,by lia,by lia]) ?_)
 .rintro x _ _ _ t ⟨rfl,l,r,rfl,u,v,C,Y⟩;dsimp only;split
  .show Bc #[rfl,rfl,by change l=_;lia]
  let hm:(l+r)/2<(d++f).length:=by lia
  obtain⟨w,g⟩:∃w,(d++f)[(l+r)/2]? =-w:=#[_,Ae hm]
  show Ay (Jlf J N Q (x:=y) (y:=w) (by rw[Jnh 'l'];simp) (by rw[Jp7 'l' 'l',Ij];show g) ?_)
  by_cases c:(l+r)/2<⇑d
  .let:¬rk y<rk w:=by
    rw[A0 c]at g
    simpa [bl]using o w (As g)
   rw[decide_eq_false this];show Bc #[rfl,_,_,rfl,by lia,v,C,by lia]
  .let:rk y<rk w:=by
    rw[Au 'l']at g
    simpa [bl]using p w (As g)
   rw[decide_eq_true this];show Bc #[rfl,_,_,rfl,u,by lia,by lia,by lia]
 .rintro _ _ ⟨rfl,l,r,rfl,u,v,C,Y⟩;exists rfl,rfl,by change l=_;lia
 .rintro⟨c,l,r⟩ _ ⟨rfl,rfl,rfl⟩;show Ay (show wpS M A E s (moveDown' _ _) _ _ by
   rw[moveDown'_eq];show Ja ?_;change wpS M A E s _ _ (setArr st (bubble _ _ _));rw[bub];show Bc #[rfl,d++y::f,Oj,?_,rfl];let h:=Cq.1 hs;show Cq.2 #[h.1,D6.2 #[λx t=>by let:=p x t;simp[bl]at this;lia,h.2.1],λa H b hb=>?_];rcases An.1 hb with rfl|hb
   .let:=o a H;simp[bl]at this;lia
   .show h.2.2 a H b hb)
theorem Jzp{T:List Keyed}{Q:Bool->C8->Prop}(r:Ans M A s κ rk U)(t:kindOf st=κ)(u:∀x∈P++X++T++R,U x)(hs:SL rk X)(v:X≠[])
  (C:∀b,b.Perm (X++T)->SL rk b->Q true (sl st (P++b++R))):wpS M A E s (binarySort' ⇑P (⇑X+⇑T) ⇑X) Q (sl st (P++X++T++R)):=by
 rw[J01];let l:max ⇑X 1=⇑X:=by let:=Dh.2 v;lia
 show Ay (De (Dr (I:=λk c g=>c=(none,())/\∃b d,⇑b=k/\(b++d).Perm (X++T)/\SL rk b/\g=sl st (P++b++d++R)) (Q:=λc g=>c=(none,())/\∃b,b.Perm (X++T)/\SL rk b/\g=sl st (P++b++R)) ?_ ?_ #[rfl,X,T,l.symm,.refl _,hs,rfl]) ?_)
 .rintro k _ _ J N ⟨rfl,b,d,rfl,f,h,rfl⟩;let m:=f.length_eq;simp at m;cases d with
  |nil=>simp at m;lia
  |cons y d=>
   rw[Ar (P++b)];show De (Jwd r t (y:=y) (R:=d++R) (λx l=>u x ?_) h) ?_
   .let:=(Ep P (Ia R f)).mem_iff (a:=x);simp only[Ar,Le]at this l ⊢;show this.1 l
   .rintro _ _ ⟨rfl,o,p,H,rfl⟩;exists rfl,o,d,?_,?_,H,by simp
    .rw[p.length_eq];rfl
    .show(p.append_right _).trans ((Oj (l₁:=b) (l₂:=d)).symm.trans f)
 .rintro _ _ ⟨rfl,b,d,e,f,h,rfl⟩;let m:=f.length_eq;simp at m;let:d=[]:=Ci.1 'l';subst this;rw[Co]at f;exists rfl,b,f,h,by simp
 .rintro _ _ ⟨rfl,b,f,h,rfl⟩;show Bc (C b f h)
end
noncomputable def maR(u:Nat)(r:Array Keyed):SM Bool:=do
 modify λs=>setArr s (r.toList.zipIdx.foldl (λa (p,j)=>a.setIfInBounds (u+j) p) (arrOf s))
 return (failedOf (<-get)).isNone
def maB(a:Array Keyed)(u m v n:Nat):SM Bool:=do
 let r<-if m<=n then mergeLo' (a.extract u v) (a.extract v (v+n))else mergeHi' (a.extract u v) (a.extract v (v+n))
 maR u r
def maA(a:Array Keyed)(u m v n:Nat):SM Bool:=do
 let r<-gallop' true (<-elem' a (u+m-1)) a v n (n-1)
 match r with
 |some n=>if(n==0)=true then pure true else maB a u m v n
 |_=>pure false
def Wdw(i:Nat):SM Bool:=do
 let t<-get
 match(pendingOf t)[i]?,(pendingOf t)[i+1]? with
 |some (u,m,p),-(v,n,_)=>do
  set (setPending t (((pendingOf t).setIfInBounds i (u,m+n,p)).eraseIdxIfInBounds (i+1)))
  let r<-gallop' false (<-elem' (arrOf t) v) (arrOf t) u m 0
  match r with
  |some k=>if(m-k==0)=true then pure true else maA (arrOf t) (u+k) (m-k) v n
  |_=>pure false
 |_,_=>unsupported "internal:list.sort.pending"
theorem Jir(i:Nat):mergeAt' i=Wdw i:=by kernel_rfl
section
variable {rk:Keyed->Int} {U:Keyed->Prop} {κ:Hv} {M:Lm} {A:Bo} {E:Value->Shared->Prop} {s:Shared} {st:C8} {P X Y R L:List Keyed} {i p p':Nat}
theorem Jso{Q:PUnit->C8->Prop}(h:Q ⟨⟩ t):wpS M A E s (set t:SM PUnit) Q st:=by
 unfold wpS;rw[StateT.run_set];show Ab #[rfl,h]
theorem wr:∀(m:List Keyed) (P X R:List Keyed) (u k:Nat),u+k=⇑P->⇑m=⇑X->((m.zipIdx k).foldl (λa (q:Keyed×Nat)=>a.setIfInBounds (u+q.2) q.1) (P++X++R).toArray)=(P++m++R).toArray
 |[],P,X,R,u,k,h,e=>by rw[Ci.1 e.symm];rfl
 |x::m,P,[],R,u,k,h,e=>by cases e
 |x::m,P,y::X,R,u,k,h,e=>by
  let:=wr m (P++[x]) X R u (k+1) 'm' (by erw[e]);rw[Oi,Ve];let b:(P++y::X++R).toArray.setIfInBounds (u+k) x=(P++[x]++X++R).toArray:=by rw[h];simp
  rw[b,this];simp
theorem Jqx(h:SL rk (X++[z])):∀x∈X++[z],rk x<=rk z:=λx a=>by
 rcases Bn.1 a with q|q
 .show(Cq.1 h).2.2 x q z 's'
 .rw[Ap.1 q];show O6 _
theorem Jqy(h:SL rk (y::Y)):∀x∈y::Y,rk y<=rk x:=λx a=>by
 rcases An.1 a with rfl|q
 .show O6 _
 .show(D6.1 h).1 x q
theorem Jrr(h:∀x∈X,∀y∈Y,rk x<=rk y):mg rk X Y=X++Y:=by
 let:=Wae (A':=[]) h;rw[Co]at this;rw[this];simp[mg]
theorem Jkf{Q:Bool->C8->Prop}(J:Ans M A s κ rk U)(hk:kindOf st=κ)(hf:failedOf st=none)(g1:(pendingOf st)[i]? =-(⇑P,⇑X,p))(g2:(pendingOf st)[i+1]? =-(⇑P+⇑X,⇑Y,p'))
  (ha:arrOf st=(P++X++Y++R).toArray)(hX:X≠[])(hY:Y≠[])(hU:∀x∈X++Y,U x)(o:SL rk X)(u:SL rk Y)
  (N:∀g,Q true (Gm κ (P++mg rk X Y++R).toArray (((pendingOf st).setIfInBounds i (⇑P,⇑X+⇑Y,p)).eraseIdxIfInBounds (i+1)) g none)):wpS M A E s (mergeAt' i) Q st:=by
 rw[Jir];show Ay (Ln ?_);rw[g1,g2,ha];dsimp only;show Ay (Jso ?_);generalize((pendingOf st).setIfInBounds i (⇑P,⇑X+⇑Y,p)).eraseIdxIfInBounds (i+1)=v at N ⊢;let s2:setPending st v=Gm κ (P++X++Y++R).toArray v (La st) none:=by
  change Gm (kindOf st) (arrOf st) _ (La st) (failedOf st)=_;rw[hk,hf,ha]
 rw[s2];let C:X++Y=mg rk X Y->∀g,Q true (Gm κ (P++X++Y++R).toArray v g none):=λe g=>by
  let:=N g;rw[<-e,<-Ar]at this;show this
 let(X0,z,H):=ends (Dh.2 hX);let(y,Y0,I):=P4 hY;let aX:∀x∈X,rk x<=rk z:=by rw[H]at o ⊢;show Jqx o
 let aY:∀x∈Y,rk y<=rk x:=by rw[I]at u ⊢;show Jqy u
 let uX:∀x∈X,U x:=λx c=>hU x (by simp[c]);let uY:∀x∈Y,U x:=λx c=>hU x (by simp[c]);let y1:(P++X++Y++R).toArray[⇑P+⇑X]? =-y:=by rw[I];simp
 let z1:(P++X++Y++R).toArray[⇑P+⇑X-1]? =-z:=by
  rw[Dl,Ar (P++X),H,Al];show at1
 show Ay (Jaj y1 (Ay (Ja3 J rfl (L:=X) 's' rfl o uX (uY y (by simp[I])) (Dh.2 hX) λd L2 e p1 p2=>?_)));let q1:∀x∈d,∀t∈Y,rk x<=rk t:=λx c t f=>F5 (by simpa [bl]using p1 x c) (aY t f);let hl:⇑X-⇑d=L2.length:=by rw[e];simp
 dsimp only;rw[hl];split
 .let:L2=[]:=Ci.1 (eq_of_beq ‹_›);show Bc (C (Jrr (by rw[e,this,Co];show q1)).symm _)
 let n2:=Jaq ‹_›;rw[show ⇑P+⇑X=⇑P+⇑d+L2.length by rw[e];simp;lia]at y1 z1 ⊢;show Ay (Jaj z1 (Ay (Ja3 J rfl (L:=Y) (by rw[Eh,<-Al,<-e];simp) rfl u uY (uX z (by simp[H])) (by let:=Dh.2 hY;lia) λh K2 j r1 r2=>?_)));dsimp only;split
 .let:h=[]:=Ci.1 (eq_of_beq ‹_›);show Bc (C (Jrr λx c t f=>F5 (aX x c) ?_).symm _);rw[j,this,Ly]at f
  simpa [bl]using r2 t f
 let n1:=Jaq ‹_›;let k:((P++X++Y++R).toArray.extract (⇑P+⇑d) (⇑P+⇑d+L2.length)).toList=L2:=by rw[Jqc,e];simp
 let n:((P++X++Y++R).toArray.extract (⇑P+⇑d+L2.length) (⇑P+⇑d+L2.length+⇑h)).toList=h:=by rw[Jqc,Eh,<-Al,<-e,j];simp
 unfold maB;generalize(P++X++Y++R).toArray.extract (⇑P+⇑d) (⇑P+⇑d+L2.length)=a at k ⊢;generalize(P++X++Y++R).toArray.extract (⇑P+⇑d+L2.length) (⇑P+⇑d+L2.length+⇑h)=b at n ⊢;let za:a.size=L2.length:=by rw[<-k];simp
 let zb:b.size=⇑h:=by rw[<-n];simp
 let m:Me M A s κ rk U a b:=by
  exists J,?_,?_,?_,?_,?_,?_,by lia,by lia
  .rw[k];rw[e]at o;show(Cq.1 o).2.1
  .rw[n];rw[j]at u;show(Cq.1 u).1
  .rw[k];show λx c=>uX x (by simp[e,c])
  .rw[n];show λx c=>uY x (by simp[j,c])
  .rw[k,<-Bs,n];intro t f x c;let:t=y:=by
    let(k0,K0,rfl):=P4 (l:=h) (λz=>n1 (by rw[z];rfl));rw[I]at j;cases f;show(Ov j).1.symm
   rw[this]
   simpa [bl]using p2 x c
  .rw[n,<-Bs,k,za];intro t f x c;let:t=z:=by
    let(K0,k0,rfl):=ends (X:=L2) 'l';rw[H,<-Ar]at e;simp at f;rw[<-f]
    simpa using((Uv e rfl).2).symm
   rw[this]
   simpa [bl]using r1 x c
 let fin:∀(r:Array Keyed) (g:Nat),r.toList=mg rk a.toList b.toList->wpS M A E s (maR (⇑P+⇑d) r) Q (stG (Gm κ (P++X++Y++R).toArray v (La st) none) g):=λr g er=>by
  show Ay (Ja (Ay (Ln (Bc ?_))));let e1:P++X++Y++R=(P++d)++(L2++h)++(K2++R):=by rw[e,j];simp
  let e2:mg rk X Y=d++(mg rk L2 h++K2):=by
   rw[e,Wae q1,j,Jut λt f x c=>F5 (aX x (by simp[e,c])) (by simpa [bl]using r2 t f)]
  let w:=wr r.toList (P++d) (L2++h) (K2++R) (⇑P+⇑d) 0 's' (by rw[er,k,n];simpa using(Rm (xs:=L2) (ys:=h) _).length_eq);let:=N g;rw[e2]at this;change Q true (Gm κ (r.toList.zipIdx.foldl _ (P++X++Y++R).toArray) v g none);rw[e1,w,er,k,n]
  erw[this]
 split
 .show Ay (Jkd m rfl fin)
 .show Ay (Jke m rfl fin)
end
noncomputable def srM(z c:Nat):SM (Option Unit×Unit):=forIn [0:z] (none,()) λ_ _=>do
 let t<-get
 match(if(pendingOf t).size>1 then(pendingOf t)[(pendingOf t).size-2]? else none)with
 |some (_,_,a)=>
  if a<=c then pure (.done (none,()))
  else
   let b<-mergeAt' ((pendingOf t).size-2)
   if(!b)=true then pure (.done (-(),()))else pure (.yield (none,()))
 |_=>pure (.done (none,()))
noncomputable def srP(lo n:Nat):SM (ForInStep (Option Unit×Nat)):=do
 modify λs=>setPending s ((pendingOf s).push (lo,n,0))
 pure (.yield (none,lo+n))
def srR(z lo n:Nat):SM (ForInStep (Option Unit×Nat)):=do
 let t<-get
 match(pendingOf t).back? with
 |some (b,a,_)=>do
  let c<-srM z (power' z (2*b+a) (2*b+a+a+n) z)
  match c.1 with
  |some r=>pure (.done (-r,lo))
  |none=>do
   modify λs=>setPending s ((pendingOf s).modify ((pendingOf s).size-1) λx=>(x.1,x.2.1,power' z (2*b+a) (2*b+a+a+n) z))
   srP lo n
 |_=>srP lo n
def srA(z a lo:Nat):SM (ForInStep (Option Unit×Nat)):=
 if lo≥z then pure (.done (none,lo))else do
  let r<-countRun' lo (z-lo)
  match r with
  |some n=>
   if n<a then
    rule "list.sort.binary-insertion"
    let b<-binarySort' lo (min (z-lo) a) n
    if(!b)=true then pure (.done (-(),lo))else srR z lo (min (z-lo) a)
   else srR z lo n
  |_=>pure (.done (-(),lo))
noncomputable def srE(_:Nat):SM (ForInStep (Option Unit×Unit)):=do
 let t<-get
 if(pendingOf t).size<=1 then pure (.done (none,()))
 else
  let b<-mergeAt' (if(if(pendingOf t).size-2>0 then(pendingOf t)[(pendingOf t).size-2-1]?.map (·.2.1)else none).any (·<((pendingOf t)[(pendingOf t).size-2+1]?.elim 0 (·.2.1)))then(pendingOf t).size-2-1 else(pendingOf t).size-2)
  if(!b)=true then pure (.done (-(),()))else pure (.yield (none,()))
def sr:SM Unit:=do
 let t<-get
 let c<-forIn [0:(arrOf t).size] ((none,0):Option Unit×Nat) λ_ c=>srA (arrOf t).size (minRun' (arrOf t).size (arrOf t).size 0) c.2
 match c.1 with
 |some r=>pure r
 |none=>do
  let d<-forIn [0:(arrOf t).size] ((none,()):Option Unit×Unit) λx _=>srE x
  match d.1 with
  |some r=>pure r
  |none=>pure ()
theorem Jzv:sortRuns'=sr:=by kernel_rfl
section
variable {rk:Keyed->Int} {U:Keyed->Prop} {κ:Hv} {M:Lm} {A:Bo} {E:Value->Shared->Prop} {s:Shared} {st:C8} {L0 T X R:List Keyed} {xs:List (List Keyed)} {l l' l2:List (Nat×Nat×Nat)} {a i n lo:Nat}
def Rn(rk:Keyed->Int):List (Nat×Nat×Nat)->List (List Keyed)->Nat->Prop
 |[],xs,_=>xs=[]
 |q::r,xs,a=>∃X ys,xs=X::ys/\q.1=a/\q.2.1=⇑X/\X≠[]/\SL rk X/\Rn rk r ys (a+⇑X)
theorem Rn.app(h:Rn rk (l++l2) xs a):∃ys zs,xs=ys++zs/\Rn rk l ys a/\Rn rk l2 zs (a+ys.flatten.length):=by
 induction l generalizing xs a with
 |nil=>exists[],xs,rfl,rfl,h
 |cons q l c=>
  let(X,ys,rfl,d,e,f,g,j):=h;let(b,zs,rfl,k,m):=c j;exists X::b,zs,rfl,#[X,b,rfl,d,e,f,g,k],by rw[Kw,Al,<-Eh];show m
theorem Rn.join{ys:List (List Keyed)}(h:Rn rk l ys a)(b:Rn rk l2 zs (a+ys.flatten.length)):Rn rk (l++l2) (ys++zs) a:=by
 induction l generalizing ys a with
 |nil=>cases h;show b
 |cons q l c=>
  let(X,d,rfl,e,f,g,j,k):=h;exists X,d++zs,rfl,e,f,g,j,c k (by rw[Kw,Al,<-Eh]at b;show b)
theorem Rn.pow(h:Rn rk l xs a)(e:l'.map (λq=>(q.1,q.2.1))=l.map λq=>(q.1,q.2.1)):Rn rk l' xs a:=by
 induction l generalizing l' xs a with
 |nil=>rw[List.map_eq_nil_iff.1 e];show h
 |cons q l b=>
  cases l' with
  |nil=>cases e
  |cons t l'=>
   let(X,c,rfl,d,f,g,j,k):=h;let(m,o):=Ov e;let(p,r):=Vv m;exists X,c,rfl,p.trans d,r.trans f,g,j,b k o
theorem Rn.len(h:Rn rk l xs a):⇑l<=xs.flatten.length:=by
 induction l generalizing xs a with
 |nil=>simp
 |cons q l b=>
  let(X,e,rfl,_,_,c,_,d):=h;let:=b d;let:=Dh.2 c;rw[Kw,Al,Bh];lia
inductive In (rk:Keyed->Int) (κ:Hv) (L0:List Keyed) (T:List Keyed) (st:C8):Prop
 |mk (xs:List (List Keyed)) (ha:arrOf st=(xs.flatten++T).toArray) (hr:Rn rk (pendingOf st).toList xs 0) (hk:kindOf st=κ) (hf:failedOf st=none) (hp:(xs.flatten++T).Perm L0)
theorem wp_at(hA:Ans M A s κ rk U)(hU:∀x∈L0,U x)(h:In rk κ L0 T st)(hi:i+1<(pendingOf st).size):wpS M A E s (mergeAt' i) (λb e=>b=true/\In rk κ L0 T e/\(pendingOf e).size+1=(pendingOf st).size) st:=by
 let(xs,o,r,hk,hf,hp):=h;obtain⟨j,x,y,l2,d,c⟩:∃j x y l2,⇑j=i/\(pendingOf st).toList=j++x::y::l2:=by
  let h1:i<(pendingOf st).toList.length:=by simp;lia
  let h2:i+1<(pendingOf st).toList.length:=by erw[hi]
  exists(pendingOf st).toList.take i,(pendingOf st).toList[i],(pendingOf st).toList[i+1],(pendingOf st).toList.drop (i+2),by simp;lia,?_;rw[<-Bx h2,<-Bx h1,Fs]
 rw[c]at r;let(f,zs,rfl,r1,X,zs,rfl,t,w,C,H,Y,zs,rfl,I,J,y3,L,N):=r.app;let(u,m,p):=x;let(v,n,p'):=y;simp only[C2]at t w I J N;subst t w I J;let e1:(f++X::Y::zs).flatten++T=f.flatten++X++Y++(zs.flatten++T):=by simp
 let Q:((((pendingOf st).setIfInBounds i (f.flatten.length,⇑X+⇑Y,p)).eraseIdxIfInBounds (i+1))).toList=j++(f.flatten.length,⇑X+⇑Y,p)::l2:=by
  rw[Array.toList_eraseIdxIfInBounds,Array.toList_setIfInBounds,c,<-d];simp[List.eraseIdx_append_of_length_le]
 let pm:(mg rk X Y).Perm (X++Y):=Rm ..;let k:(mg rk X Y).length=⇑X+⇑Y:=by rw[pm.length_eq,Al]
 rw[e1]at o hp;show Jkf hA hk hf (by rw[<-Bs,c,<-d];simp;rfl) (by rw[<-Bs,c,<-d];simp;rfl) o C y3 (λx hx=>hU x (hp.mem_iff.1 (by simp at hx ⊢;rcases hx with q|q<;>simp[q]))) H L λg=>#[rfl,#[f++mg rk X Y::zs,?_,?_,rfl,rfl,?_],?_]
 .change(_:List Keyed).toArray=_;simp
 .change Rn rk (((pendingOf st).setIfInBounds i _).eraseIdxIfInBounds (i+1)).toList _ 0;rw[Q];show r1.join #[_,zs,rfl,by simp,k.symm,λz=>C (Ci.1 (by rw[z]at k;simp at k;lia)),J0i H L,by rw[k,C2,<-Eh];show N]
 .show Sv ?_ hp;simp only[List.flatten_append,Kw,Ar];rw[<-Ar X];show Ep _ (Ia _ pm)
 .change(((pendingOf st).setIfInBounds i _).eraseIdxIfInBounds (i+1)).size+1=_;rw[<-Br,Q,<-Br (xs:=pendingOf st),c];simp;lia
theorem Jq2(h:In rk κ L0 (X++R) st)(c:X≠[])(hs:SL rk X)(j:lo+(X++R).length=L0.length):wpS M A E s (srP lo ⇑X) (λr b=>r=.yield (none,lo+⇑X)/\In rk κ L0 R b) st:=by
 let(xs,d,e,f,g,hp):=h;let:=hp.length_eq;rw[Al]at this;show Ay (Ja (Bc #[rfl,xs++[X],by rw[show arrOf (setPending st _)=arrOf st from rfl,d];simp,?_,f,g,by erw[hp]]));change Rn rk ((pendingOf st).push (lo,⇑X,0)).toList _ 0;rw[Io];show e.join #[X,[],rfl,by change lo=_;lia,rfl,c,hs,rfl]
theorem Jv3(g:Ans M A s κ rk U)(j:∀x∈L0,U x)(h:In rk κ L0 (X++R) st)(e:X≠[])(hs:SL rk X)(f:lo+(X++R).length=L0.length):wpS M A E s (srR z lo ⇑X) (λr b=>r=.yield (none,lo+⇑X)/\In rk κ L0 R b) st:=by
 show Ay (Ln ?_);split
 .show Ay (De (show wpS M A E s (srM z _) (λc b=>c=(none,())/\In rk κ L0 (X++R) b) st from Dr (I:=λ_ c b=>c=(none,())/\In rk κ L0 (X++R) b) ?_ (λ_ _ h=>h) #[rfl,h]) ?_)
  .rintro _ _ b _ _ ⟨rfl,d⟩;show Ay (Ln ?_);split
   .split
    .show Bc #[rfl,d]
    .show Ay (De (wp_at g j d ?_) ?_)
     .rename_i q _;let:(pendingOf b).size>1:=by
       by_cases c:(pendingOf b).size>1
       .show c
       .rw[if_neg c]at q;cases q
      lia
     .rintro _ _ ⟨rfl,k,_⟩;show Bc #[rfl,k]
   .show Bc #[rfl,d]
  .rintro _ b ⟨rfl,xs,m,o,p,t,hp⟩;show Ay (Ja (Jq2 #[xs,m,o.pow ?_,p,t,hp] e hs f));change(Array.modify _ _ _).toList.map _=_;rw[Array.toList_modify];show G9 λi=>?_;rw[Ao,Ao,List.getElem?_modify];split<;>simp[O4,B8]
 .show Jq2 h e hs f
theorem Jv4(m:Ans M A s κ rk U)(o:∀x∈L0,U x)(hd:Ne rk L0)(h:In rk κ L0 T st)(H:lo+⇑T=L0.length):
  wpS M A E s (srA L0.length p lo) (λr c=>∃d,In rk κ L0 d c/\((r=.done (none,L0.length)/\d=[])\/∃b,r=.yield (none,b)/\lo<b/\b+⇑d=L0.length)) st:=by
 unfold srA;split
 .let:T=[]:=Ci.1 'l';subst this;show Bc #[[],h,.inl #[by rw[show lo=L0.length by simp at H;lia],rfl]]
 let(xs,I,J,t,L,hp):=h;let u:=hp.length_eq;rw[Al]at u;let v:lo=xs.flatten.length:=by lia
 let N:L0.length-lo=⇑T:=by lia
 rw[N];let Q:st=sl st (xs.flatten++T):=by
  change st=Gm (kindOf st) _ _ _ _;rw[<-I]
 let go:∀(X R:List Keyed),X≠[]->SL rk X->(X++R).Perm T->wpS M A E s (srR L0.length lo ⇑X) (λr c=>∃d,In rk κ L0 d c/\((r=.done (none,L0.length)/\d=[])\/∃b,r=.yield (none,b)/\lo<b/\b+⇑d=L0.length)) (sl st (xs.flatten++X++R)):=λX R f j e=>by
  let:=e.length_eq;show De (Jv3 (R:=R) m o #[xs,by rw[<-Ar],J,t,L,(Ep _ e).trans hp] f j 'l') ?_;rintro _ _ ⟨rfl,h⟩;let:=Dh.2 f;rw[Al]at*;exists R,h,.inr #[_,rfl,by lia,by lia]
 rw[Q,v]at*;show Ay (Jzo m t (λx w=>o x (hp.mem_iff.1 w)) ((hp.pairwise_iff (λh=>h.symm)).mpr hd) 'l' λX R f j e=>?_);let y:=e.length_eq;let h1:=Dh.2 f;rw[Al]at y;dsimp only;split
 .obtain⟨T1,k,rfl,Y⟩:∃T1 k,R=T1++k/\⇑X+T1.length=min ⇑T p:=#[R.take (min ⇑T p-⇑X),R.drop (min ⇑T p-⇑X),(Fs _ _).symm,by rw[Gi];lia]
  rw[<-Y,<-Ar];show Ay (Np (D2 #[rfl,Ay (Jzp m t (λx w=>o x (hp.mem_iff.1 ?_)) j f λX' C s2=>?_)]))
  .show(Ep _ e).mem_iff.1 (by erw[w])
  .let:=C.length_eq;rw[Al]at this;let g:=go X' k (λz=>by rw[z]at this;simp at this;lia) s2 ((C.append_right k).trans (by rw[Ar];show e));rw[this]at g;show g
 .show go X R f j e
theorem Jsi{Q:Unit->C8->Prop}(v:Ans M A s κ rk U)(w:∀x∈L0,U x)(hd:Ne rk L0)(f:arrOf st=L0.toArray)(k:kindOf st=κ)(j:failedOf st=none)(y:pendingOf st= #[])
  (z:∀b L,arrOf b=L.toArray->failedOf b=none->L.Perm L0->SL rk L->Q () b):wpS M A E s sortRuns' Q st:=by
 rw[Jzv];show Ay (Ln ?_);rw[f,Aw];show Ay (De (Dr (I:=λx c b=>∃T lo,In rk κ L0 T b/\c=(none,lo)/\lo+⇑T=L0.length/\x<=lo) (Q:=λc b=>c=(none,L0.length)/\In rk κ L0 [] b) ?_ ?_ #[L0,0,#[[],by erw[f],by rw[y];rfl,k,j,.refl _],rfl,by lia,by lia]) ?_)
 .rintro x _ b _ C ⟨T,lo,h,rfl,m,o⟩;show De (Jv4 v w hd h m) ?_;rintro _ _ ⟨H,d,⟨rfl,rfl⟩|⟨p,rfl,Y,g⟩⟩
  .exists rfl,d
  .exists H,p,d,rfl,g,by lia
 .rintro _ b ⟨T,lo,h,rfl,m,o⟩;let:T=[]:=Ci.1 'l';subst this;exists by rw[show lo=L0.length by simp at m;lia],h
 rintro _ J ⟨rfl,h⟩;show Ay (De (Dr (I:=λx c b=>c=(none,())/\In rk κ L0 [] b/\((pendingOf b).size+x<=L0.length\/(pendingOf b).size<=1)) (Q:=λc b=>c=(none,())/\In rk κ L0 [] b/\(pendingOf b).size<=1) ?_ ?_ #[rfl,h,.inl ?_]) ?_)
 .rintro x _ b _ C ⟨rfl,d,r⟩;show Ay (Ln ?_);split
  .show Bc #[rfl,d,‹_›]
  .show Ay (De (wp_at v w d (by split<;>lia)) ?_);rintro _ _ ⟨rfl,g,t⟩;show Bc #[rfl,g,by lia]
 .rintro _ b ⟨rfl,d,r⟩;exists rfl,d,by lia
 .let(xs,f,e,k,j,hp):=h;let:=e.len;let g:=hp.length_eq;simp at this g
  lia
 .rintro _ b ⟨rfl,⟨xs,f,e,k,j,hp⟩,r⟩;show Bc (z b _ f j hp ?_);let t:(pendingOf b).toList.length<=1:=by erw[r]
  rcases u:(pendingOf b).toList with _|⟨q,_|⟨q2,l⟩⟩
  .rw[u]at e;cases e;simp
  .rw[u]at e;let(X,ys,rfl,_,_,_,N,rfl):=e
   erw[N]
  .rw[u]at t;simp at t
end
end Srt
namespace Sbl
open PySem
def Ris(P:List Nat):Prop:=P.Pairwise (·<·)
def Jg5{xs:Array Nat}(h:Ris xs.toList)(a:i<k)(b:k<xs.size):xs[i]<xs[k]:=by
 let:=B7.1 h i k (by simp;omega) (by erw[b]) a
 erw[this]
theorem Jgj{xs:Array Nat}(h:Ris xs.toList):∀(f lo k:Nat),k-lo<=f->lo<=k->k<=xs.size->(∀i (l:i<xs.size),i<lo->xs[i]<j)->(∀i (l:i<xs.size),k<=i->j<=xs[i])->
  (∀i (l:i<xs.size),i<Jj xs j f lo k->xs[i]<j)/\(∀i (l:i<xs.size),Jj xs j f lo k<=i->j<=xs[i])/\Jj xs j f lo k<=xs.size
 |0,lo,k,a,b,c,d,e=>by
  let:lo=k:=by omega
  subst this;exists d,e,c
 |f+1,lo,k,a,b,c,d,e=>by
  rw[show Jj xs j (f+1) lo k=@ite _ _ _ _ _ from rfl]
  by_cases g:lo<k
  .rw[if_pos g];let m:(lo+k)/2<xs.size:=by omega
   let n:xs.getD ((lo+k)/2) j=xs[(lo+k)/2]:=by simp[Array.getD,m]
   dsimp only;rw[n]
   by_cases g2:xs[(lo+k)/2]<j
   .rw[if_pos g2];show Jgj h f ((lo+k)/2+1) k (by omega) (by omega) c (λi o p=>?_) e;rcases Kf i ((lo+k)/2)with q|q
    .show F4 (Jg5 h q m) g2
    .let:i=(lo+k)/2:=by omega
     subst this;show g2
   .rw[if_neg g2];show Jgj h f lo ((lo+k)/2) (by omega) (by omega) (by omega) d (λi l p=>?_);rcases Kf ((lo+k)/2) i with q|q
    .show B3 (Ui.1 g2) (E2 (Jg5 h q l))
    .let:i=(lo+k)/2:=by omega
     subst this;show Ui.1 g2
  .rw[if_neg g];let:lo=k:=by omega
   subst this;exists d,e,c
def Jfq{xs:Array Nat}(j:Nat)(h:Ris xs.toList):
  (∀i (a:i<xs.size),i<Dn xs j->xs[i]<j)/\(∀i (b:i<xs.size),Dn xs j<=i->j<=xs[i])/\Dn xs j<=xs.size:=
 Jgj h _ _ _ 'l' (Dk _) (Aj _) (λi _ a=>absurd a (Nat.not_lt_zero _)) (λi b a=>by lia)
theorem slot_of{t:SetTable}(h:Ris t.place.toList)(hd:t.dummies= #[])(j:Nat):
  (j∉t.place.toList/\t.slot j=.empty)\/∃i,∃g:i<t.place.size,t.place[i]=j/\t.slot j=.live i:=by
 let(a,b,c):=Jfq j h;unfold SetTable.slot;dsimp only
 by_cases f:t.place[Dn t.place j]? =-j
 .let hb:(t.place[Dn t.place j]? ==-j)=true:=by rw[f];show beq_self_eq_true _
  rw[if_pos hb];let(k,l):=Array.getElem?_eq_some_iff.1 f;show .inr #[_,k,l,rfl]
 .show .inl #[λm=>f ?_,?_]
  .let(i,g,e):=D8.1 m;let d:i<t.place.size:=by erw[g]
   let n:t.place[i]=j:=by erw[e]
   let k:Dn t.place j<=i:=by
    rcases Kf i (Dn t.place j)with q|q
    .let:=a i d q;lia
    .show q
   let l:i<=Dn t.place j:=by
    rcases Kf (Dn t.place j) i with q|q
    .let o:=b (Dn t.place j) 'l' (Aj _);let p:=Jg5 h q d
     lia
    .show q
   let:Dn t.place j=i:=by lia
   rw[this,Bi d,n]
  .let hb:¬(t.place[Dn t.place j]? ==-j)=true:=λq=>f (eq_of_beq q);rw[if_neg hb,hd];let:K4 #[] j=false:=by unfold K4;simp
   rw[this];rfl
noncomputable def lcg(m i:Nat):Nat->Nat
 |0=>i
 |k+1=>lcg m ((i*5+1)%(m+1)) k
def Hit(t:SetTable)(occ:Nat->Prop):Nat->Dx->Nat->Prop
 |0,p,j=>p.j=j
 |n+1,p,j=>occ p.j/\Hit t occ n (t.advance p) j
theorem Hit.mono{t t':SetTable}(d:t'.mask=t.mask){occ c:Nat->Prop}(h:∀j,occ j->c j):∀{n:Nat} {p:Dx} {j:Nat},Hit t occ n p j->Hit t' c n p j
 |0,p,j,q=>q
 |n+1,p,j,#[a,b]=>#[h _ a,by
   let e:t'.advance p=t.advance p:=by unfold F6;rw[d]
   rw[e];show Hit.mono d h b]
noncomputable def Lp(m i pt:Nat):Dx:={j:=i,more:=Bd m i-i,i,perturb:=pt,dummy:=none}
noncomputable def Rn(m i pt k:Nat):Dx:={j:=i+k,more:=Bd m i-i-k,i,perturb:=pt,dummy:=none}
def Jsh{t:SetTable}(h:k<Bd t.mask i-i):t.advance (Rn t.mask i pt k)=Rn t.mask i pt (k+1):=by
 unfold F6 Rn;rw[if_pos (by change Bd t.mask i-i-k>0;lia)];simp only[U7,and_true,true_and]
 lia
theorem Jvy{t:SetTable}(h:Bd t.mask i-i<=k):t.advance (Rn t.mask i pt k)=Lp t.mask ((i*5+1+pt/32)%(t.mask+1)) (pt/32):=by
 unfold F6 Rn;rw[if_neg (by change¬Bd t.mask i-i-k>0;omega)];rfl
def Jl2(m i:Nat):Bd m i-i<=9:=by unfold Bd;split<;>lia
theorem Jix{t:SetTable}{occ:Nat->Prop}:∀(d k:Nat),k+d=Bd t.mask i-i->(∀x,k<=x->x<=Bd t.mask i-i->occ (i+x))->
  Hit t occ n (Lp t.mask ((i*5+1+pt/32)%(t.mask+1)) (pt/32)) j->Hit t occ (n+d+1) (Rn t.mask i pt k) j
 |0,k,e,c,h=>#[c k (Aj _) 'l',by rw[Jvy 'l'];show h]
 |d+1,k,e,c,h=>#[c k (Aj _) 'l',by
   rw[Jsh 'l'];show Jix d (k+1) 'l' (λx a b=>c x 'l' b) h]
theorem Jnd{t:SetTable}{occ:Nat->Prop}:∀(d k:Nat),k+d<=Bd t.mask i-i->(∀x,k<=x->x<k+d->occ (i+x))->Hit t occ d (Rn t.mask i pt k) (i+(k+d))
 |0,k,_,_=>rfl
 |d+1,k,e,c=>#[c k (Aj _) 'l',by
   rw[Jsh 'l',show k+(d+1)=k+1+d by lia];show Jnd d (k+1) 'l' λx a b=>c x 'l' 'l']
theorem least{P:Nat->Prop}:∀x,P x->∃y,y<=x/\P y/\∀z,z<y->¬P z:=λx=>by
 induction x using Vw with
 |ind x f=>
  intro h
  by_cases q:∃z,z<x/\P z
  .let(z,d,e):=q;let(y,a,b,c):=f z d e;exists y,by lia,b,c
  .exists x,Aj _,h,λz d e=>q #[z,d,e]
def Jrx{t:SetTable}{occ:Nat->Prop}(l:¬occ j)(h:Hit t occ n (Lp t.mask ((i*5+1+pt/32)%(t.mask+1)) (pt/32)) j):∃n' g,n'<=n+10/\¬occ g/\Hit t occ n' (Lp t.mask i pt) g:=by
 by_cases k:∃x,x<=Bd t.mask i-i/\¬occ (i+x)
 .obtain⟨x,e,f,d⟩:∃x,x<=Bd t.mask i-i/\¬occ (i+x)/\∀y,y<x->occ (i+y):=by
   let(x,m,o):=k;let(y,a,b,c):=least (P:=λx=>¬occ (i+x)) x o;exists y,B3 a m,b,λz p=>J1.1 (c z p)
  let:=Jl2 t.mask i;let q:=Jnd (t:=t) (occ:=occ) (i:=i) (pt:=pt) x 0 'l' λy _ s=>d y 'l';rw[C2]at q;exists x,i+x,by lia,f,q
 .let r:∀x,x<=Bd t.mask i-i->occ (i+x):=λx e=>J1.1 λq=>k #[x,e,q];let:=Jl2 t.mask i;exists _,j,by lia,l,Jix (Bd t.mask i-i) 0 'l' (λx _ e=>r x e) h
theorem Wcr{t:SetTable}{occ:Nat->Prop}(g:¬occ j):∀(k i:Nat),lcg t.mask i k=j->∃n d,n<=10*k/\¬occ d/\Hit t occ n (Lp t.mask i 0) d
 |0,i,e=>#[0,j,by lia,g,e]
 |k+1,i,e=>by
  let(n,d,a,b,c):=Wcr g k ((i*5+1)%(t.mask+1)) e;let(h,f,o,l,m):=Jrx (i:=i) (pt:=0) b c;exists h,f,by lia,l,m
theorem Wcq{t:SetTable}{occ:Nat->Prop}(f:∀i,i<=t.mask->∃n d,n<=B/\¬occ d/\Hit t occ n (Lp t.mask i 0) d):∀(k pt i:Nat),i<=t.mask->pt<32^k->∃n d,n<=B+10*k/\¬occ d/\Hit t occ n (Lp t.mask i pt) d
 |0,pt,i,g,hp=>by
  let:pt=0:=by lia
  subst this;show f i g
 |k+1,pt,i,g,hp=>by
  let(n,d,a,b,c):=Wcq f k (pt/32) ((i*5+1+pt/32)%(t.mask+1)) (Ha (Ih _ (Fe _))) (by rw[Nat.pow_succ]at hp;lia);let(h,e,m,j,l):=Jrx (i:=i) (pt:=pt) b c;exists h,e,by lia,j,l
theorem Hit.dummy{t:SetTable}{occ:Nat->Prop}(p:Dx):(t.advance p).dummy=p.dummy:=by unfold F6;split<;>rfl
theorem Jj2{t:SetTable}(v:Ris t.place.toList)(hd:t.dummies= #[]){hashAt:Nat->Int}:∀(n f:Nat) (p:Dx) (j:Nat),n<f->p.dummy=none->Hit t (·∈t.place.toList) n p j->
  (∃m g,m<=n/\Hit t (·∈t.place.toList) (n-m) g j/\g.dummy=none/\((m=n/\g.j=j/\j∉t.place.toList/\Ll t hashAt h f p=-(.empty j none))\/
   ∃i,∃s:i<t.place.size,t.place[i]=g.j/\t.slot g.j=.live i/\hashAt i=h/\Ll t hashAt h f p=-(.candidate g.j i (t.advance g))))\/
  (j∈t.place.toList/\∃i,∃s:i<t.place.size,t.place[i]=j/\hashAt i≠h)
 |n,0,p,j,w,_,_=>by lia
 |n,f+1,p,j,w,k,o=>by
  rw[Ll];rcases slot_of v hd p.j with⟨r,hs⟩|⟨i,s,l,hs⟩
  .cases n with
   |zero=>
    have e:p.j=j:=o;show .inl #[0,p,Aj _,o,k,.inl #[rfl,e,e▸r,?_]];rw[hs,k,e]
   |succ n=>show absurd o.1 r
  .rw[hs];dsimp only
   by_cases u:hashAt i=h
   .show .inl #[0,p,Dk _,by erw[o],k,.inr #[i,s,l,hs,u,?_]];rw[if_pos (by rw[u];show beq_self_eq_true h)]
   .rw[if_neg (λq=>u (eq_of_beq q))];cases n with
    |zero=>
     have e:p.j=j:=o;show .inr #[by rw[<-e,<-l];simp,i,s,by rw[l,e],u]
    |succ n=>
     rcases Jj2 v hd n f (t.advance p) j 'l' (by rw[Hit.dummy (occ:=λ_=>True)];show k) o.2 with⟨m,g,a,b,c,d⟩|d
     .show .inl #[m+1,g,by lia,by rw[show n+1-(m+1)=n-m by lia];show b,c,?_];rcases d with⟨A,x,y,z⟩|d
      .show .inl #[by lia,x,y,z]
      .show .inr d
     .show .inr d
noncomputable def orb(m:Nat):Nat->Nat->Nat->Nat
 |0,_,b=>b
 |k+1,i,b=>orb m k ((i*5+1)%(m+1)) (b|||1<<<i)
theorem Jml:∀{k i b:Nat},(orb m k i b).testBit j=true->b.testBit j=true\/∃a,a<k/\lcg m i a=j
 |0,i,b,h=>.inl h
 |k+1,i,b,h=>by
  rcases Jml (k:=k) h with h|⟨a,c,e⟩
  .rw[Nat.testBit_or,Ib]at h;rcases h with h|h
   .show .inl h
   .show .inr #[0,Fe _,?_];rw[Nat.one_shiftLeft,Nat.testBit_two_pow]at h;show of_decide_eq_true h
  .show .inr #[a+1,Vc c,e]
theorem Jf3:∀{a i b:Nat},lcg m i (a+b)=lcg m (lcg m i a) b
 |0,i,b=>by rw[C2];rfl
 |a+1,i,b=>by rw[Uk];show Jf3 (a:=a)
def Mk(m:Nat):Prop:=(orb m (m+1) 0 0==2^(m+1)-1&&lcg m 0 (m+1)==0)=true
def mk7:Mk 7:=by unfold Mk;decide+kernel
def Wdt:Mk 31:=by unfold Mk;decide+kernel
def J0h:Mk 127:=by unfold Mk;decide+kernel
def J0g:Mk 511:=by unfold Mk;decide+kernel
def Jx5:Mk 2047:=by unfold Mk;decide+kernel
def Mk.all(h:Mk m)(g:i<=m)(l:j<=m):∃k,k<m+1/\lcg m i k=j:=by
 unfold Mk at h;rw[Am,beq_iff_eq,beq_iff_eq]at h;let go:∀{x},x<=m->∃a,a<m+1/\lcg m 0 a=x:=λ{x} o=>by
  rcases Jml (m:=m) (j:=x) (k:=m+1) (i:=0) (b:=0) (by rw[h.1,Nat.testBit_two_pow_sub_one];show decide_eq_true (by omega))with q|q
  .rw[Nat.zero_testBit]at q;cases q
  .show q
 let(a,p,d):=go g;let(b,hb,e):=go l
 by_cases n:a<=b
 .exists b-a,by omega,by rw[<-d,<-Jf3,show a+(b-a)=b by omega];show e
 .exists m+1-a+b,by omega,?_;rw[<-d,<-Jf3,show a+(m+1-a+b)=m+1+b by omega,Jf3,h.2];show e
abbrev Oc(ow:Array (Option Nat))(j:Nat):Prop:=(ow.getD j (some 0)).isNone=false
def Jrh(m i:Nat):i<=Bd m i:=by unfold Bd;split<;>lia
section
variable {t:SetTable} {ow:Array (Option Nat)} {f i pt k j:Nat}
def Fre(t:SetTable)(ow:Array (Option Nat))(f i pt b:Nat):Prop:=∃n j,n<=b/\¬Oc ow j/\Hit t (Oc ow) n (Lp t.mask i pt) j/\Eu t.mask ow f i pt=-j
theorem Jj3(h:Fre t ow f ((i*5+1+pt/32)%(t.mask+1)) (pt/32) b):Fre t ow (f+1) i pt (b+10):=by
 let(n,j,r,d,g,e):=h;let s:=Jl2 t.mask i;let u:=Jrh t.mask i;unfold Fre;rw[Eu];cases h:(Bz (Bd t.mask i+1-i)).find? λk=>(ow.getD (i+k) (some 0)).isNone with
 |some x=>
  let(l,y,m,a,o):=List.find?_eq_some_iff_getElem.1 h;rw[Nh]at a;subst a;rw[Ei]at m;exists y,i+y,by lia,by rw[Oc,l];show Bool.noConfusion,?_,rfl;let q:=Jnd (t:=t) (occ:=Oc ow) (i:=i) (pt:=pt) y 0 'l' λz _ v=>by
   let:=o z 'l';rw[Nh]at this
   erw[this]
  rw[C2]at q;show q
 |none=>
  have p:∀x,x<=Bd t.mask i-i->Oc ow (i+x):=λx c=>by
   show Um.2 (List.find?_eq_none.1 h x (Hg.2 'l'))
  exists _,j,by lia,d,Jix (Bd t.mask i-i) 0 'l' (λx _ c=>p x c) g,e
def Jp9(a:¬Oc ow i):Fre t ow (f+1) i pt 10:=by
 let b:=Jrh t.mask i;unfold Fre;rw[Eu];let h:(Bz (Bd t.mask i+1-i)).find? (λk=>(ow.getD (i+k) (some 0)).isNone)=some 0:=by
  rw[show Bd t.mask i+1-i=Bd t.mask i-i+1 by lia,Lq,List.find?_cons_of_pos]
  simpa [Oc]using a
 rw[h];exists 0,i,by lia,a,rfl,rfl
theorem Wcx(a:¬Oc ow j):∀{k i f:Nat},lcg t.mask i k=j->k<f->Fre t ow f i 0 (10*k+10)
 |0,i,f+1,e,_=>by
  let e:i=j:=e;rw[e];show Jp9 a
 |k+1,i,f+1,e,b=>by
  let:=Jj3 (i:=i) (pt:=0) (Wcx a (k:=k) (i:=(i*5+1)%(t.mask+1)) (f:=f) e 'l');show this
theorem Wcw(a:∀i,i<=t.mask->Fre t ow g i 0 B):∀{k pt i:Nat},i<=t.mask->pt<32^k->Fre t ow (g+k) i pt (B+10*k)
 |0,pt,i,b,hp=>by
  let:pt=0:=by lia
  subst this;show a i b
 |k+1,pt,i,b,hp=>by
  let:=Jj3 (i:=i) (pt:=pt) (Wcw a (k:=k) (pt:=pt/32) (i:=(i*5+1+pt/32)%(t.mask+1)) (Ha (Ih _ (Fe _))) (by rw[Nat.pow_succ]at hp;lia));rw[Nat.mul_add,<-Eh];show this
def bits_lt(h:Int):Cp h<32^13:=by
 unfold Cp;let a:h%(2^64:Int)<2^64:=Ul _ 'd';let b:0<=h%(2^64:Int):=V3 _ 'd';let c:((h%(2^64:Int)).toNat:Int)<2^64:=by rw[M9 b];show a
 let d:(h%(2^64:Int)).toNat<2^64:=by exact_mod_cast c
 show Bu d 'd'
def fre(m:Mk t.mask)(o:j<=t.mask)(l:¬Oc ow j)(h:Int):∃n g,n<10*Cr t.mask/\¬Oc ow g/\Hit t (Oc ow) n (t.probeStart h) g/\Eu t.mask ow (Cr t.mask) (Cp h%(t.mask+1)) (Cp h)=-g:=by
 let p:∀i,i<=t.mask->Fre t ow (t.mask+2) i 0 (10*t.mask+10):=λi r=>by
  let(k,s,e):=m.all r o;let(n,g,a,b):=Wcx (t:=t) l e (f:=t.mask+2) 'l';exists n,g,by lia,b
 let(n,g,a,b,c,d):=Wcw p (k:=13) (i:=Cp h%(t.mask+1)) (Ha (Ih _ (Fe _))) (bits_lt h);exists n,g,by unfold Cr;lia,b,c,d
end
def Ms(m:Nat):Prop:=m=7\/m=31\/m=127\/m=511\/m=2047
def Ms.mk(h:Ms m):Mk m:=by
 rcases h with rfl|rfl|rfl|rfl|rfl
 .show mk7
 .show Wdt
 .show J0h
 .show J0g
 .show Jx5
def Ms.odd(h:Ms m):m%2=1/\m<=2047/\7<=m:=by unfold Ms at h;lia
def Jyr{t:SetTable}{occ:Nat->Prop}(g:Mk t.mask)(l:j<=t.mask)(f:¬occ j)(h:Int):∃n d,n<10*Cr t.mask/\¬occ d/\Hit t occ n (t.probeStart h) d:=by
 let m:∀i,i<=t.mask->∃n d,n<=10*t.mask/\¬occ d/\Hit t occ n (Lp t.mask i 0) d:=λi o=>by
  let(k,p,e):=g.all o l;let(n,d,a,b,c):=Wcr (t:=t) f k i e;exists n,d,by lia,b,c
 let(n,d,a,b,c):=Wcq m 13 (Cp h) (Cp h%(t.mask+1)) (Ha (Ih _ (Fe _))) (bits_lt h);exists n,d,by unfold Cr;lia,b,c
theorem Jry{t:SetTable}{occ:Nat->Prop}:∀{n:Nat} {p:Dx} {j:Nat},p.j+p.more<=t.mask->Hit t occ n p j->j<=t.mask
 |0,p,j,h,e=>by let:p.j=j:=e;lia
 |n+1,p,j,h,#[_,q]=>by
  show Jry ?_ q;unfold F6;split
  .change p.j+1+(p.more-1)<=t.mask;lia
  .change(p.i*5+1+p.perturb/32)%(t.mask+1)+(Bd t.mask ((p.i*5+1+p.perturb/32)%(t.mask+1))-(p.i*5+1+p.perturb/32)%(t.mask+1))<=t.mask;let:=Ih (p.i*5+1+p.perturb/32) (Fe t.mask);unfold Bd;split<;>lia
def Jg3(t:SetTable)(h:Int):(t.probeStart h).j+(t.probeStart h).more<=t.mask:=by
 change Cp h%(t.mask+1)+(Bd t.mask (Cp h%(t.mask+1))-Cp h%(t.mask+1))<=t.mask;let:=Ih (Cp h) (Fe t.mask);unfold Bd;split<;>lia
def pig:∀{n:Nat} {P:List Nat},⇑P<n->∃j,j<n/\j∉P:=λ{n P} h=>by
 apply Ol;intro q;let a:∀j∈Bz n,j∈P:=λj b=>J1.1 λz=>q #[j,Hg.1 b,z];let:=(Lc (n:=n)).length_le_of_subset (λ_ c=>a _ c);rw[Ei]at this
 lia
structure Lay(t:SetTable)(hs:List Int)(ps:List Nat)(ow:Array (Option Nat)):Prop where
 sz:ow.size=t.mask+1
 at_:∀j,j<=t.mask->∀i,ow[j]? =-(-i)↔ps[i]? =-j
 inb:∀j∈ps,j<=t.mask
 nd:ps.Nodup
 way:∀(i j:Nat) (h:Int),ps[i]? =-j->hs[i]? =-h->∃n,n<10*Cr t.mask/\Hit t (Oc ow) n (t.probeStart h) j
theorem Jup{ow:Array (Option Nat)}(a:j<ow.size):Oc ow j↔∃i,ow[j]? =-(-i):=by
 unfold Oc;rw[G3,Bi a,N2];cases ow[j]with
 |none=>simp
 |some i=>simp
section
variable {t:SetTable} {hs:List Int} {ps:List Nat} {ow:Array (Option Nat)}
def Lay.oc(L:Lay t hs ps ow)(a:j<=t.mask):Oc ow j↔j∈ps:=by
 rw[Jup (by rw[L.sz];lia)];constructor
 .rintro⟨i,e⟩;show As ((L.at_ j a i).mp e)
 .intro h;let(i,b):=C0.1 h;exists i,(L.at_ j a i).mpr b
def Lay.add(L:Lay t hs ps ow)(u:Mk t.mask)(v:hs[⇑ps]? =-h)(J:⇑ps<=t.mask):
  ∃j,Eu t.mask ow (Cr t.mask) (Cp h%(t.mask+1)) (Cp h)=-j/\Lay t hs (ps++[j]) (ow.setIfInBounds j (-⇑ps)):=by
 let(w,N,p):=pig (n:=t.mask+1) (P:=ps) 'l';let(n,j,y,A,k,e):=fre (t:=t) (ow:=ow) u (j:=w) 'l' (λz=>p ((L.oc 'l').mp z)) h;let l:j<=t.mask:=Jry (Jg3 t h) k;let m:j∉ps:=λz=>A ((L.oc l).mpr z);let d:∀x,Oc ow x->Oc (ow.setIfInBounds j (-⇑ps)) x:=λx o=>by
  by_cases f:x<ow.size
  .let(i,c):=(Jup f).mp o;show(Jup (by rw[Kz];show f)).mpr ?_;rw[Ox]
   by_cases e:j=x
   .rw[if_pos e,if_pos (by rw[e];show f)];exists _,rfl
   .rw[if_neg e];exists i,c
  .unfold Oc;rw[G3,Ip (by rw[Kz];lia)];rfl
 exists j,e,by rw[Kz,L.sz],λx o i=>?_,λx o=>?_,?_,λi x C c g=>?_
 .rw[Ox]
  by_cases r:j=x
  .subst r;rw[if_pos rfl,if_pos (by rw[L.sz];lia)];constructor
   .intro z;cases z;rw[Au (Aj _),Ff];rfl
   .intro z
    by_cases c:i<⇑ps
    .rw[A0 c]at z;show absurd (As z) m
    .let:=(Ad.1 z).1;rw[Al,Cm]at this;rw[show i=⇑ps by lia]
  .rw[if_neg r,L.at_ x o i]
   by_cases c:i<⇑ps
   .rw[A0 c]
   .rw[Au 'l',Ft 'l'];constructor
    .intro z;cases z
    .intro z;let:=As z;show absurd (Ap.1 this).symm r
 .rcases Bn.1 o with z|z
  .show L.inb x z
  .rw[Ap.1 z];show l
 .show Cw.2 #[L.nd,by simp,λa E b hb=>by rw[Ap.1 hb];rintro rfl;show m E]
 .by_cases s:i<⇑ps
  .rw[A0 s]at c;let(H,a,b):=L.way i x C c g;exists H,a,b.mono rfl d
  .let:=(Ad.1 c).1;rw[Al,Cm]at this;let I:i=⇑ps:=by lia
   subst I;rw[Au (Aj _),Ff]at c;cases c;rw[v]at g;cases g;exists n,y,k.mono rfl d
end
section
variable {t:SetTable} {hs:List Int}
noncomputable def Zv(m:Nat)(b:Option (Array (Option Nat)×Nat))(h:Int):Option (Array (Option Nat)×Nat):=do
 let(a,k)<-b
 let j<-Eu m a (Cr m) (Cp h%(m+1)) (Cp h)
 pure (a.setIfInBounds j (-k),k+1)
theorem Jqm:Ka m hs.toArray=(hs.foldl (Zv m) (-(Ls (m+1) none,0))).map (·.1):=by
 unfold Ka;rw[List.foldl_toArray']
 .rfl
 .rfl
theorem Jni(d:Mk t.mask)(c:⇑hs<=t.mask):∀{rest pre:List Int} {ps:List Nat} {ow:Array (Option Nat)},hs=pre++rest->⇑ps=⇑pre->Lay t hs ps ow->∃a b,rest.foldl (Zv t.mask) (-(ow,⇑ps))=-(b,⇑hs)/\⇑a=⇑hs/\Lay t hs a b
 |[],pre,ps,ow,e,el,L=>by
  rw[Co]at e;exists ps,ow,by rw[e,<-el];rfl,by rw[e,el],L
 |h::rest,pre,ps,ow,e,el,L=>by
  let f:⇑pre+(⇑rest+1)<=t.mask:=by rw[e]at c;erw[c]
  let(j,g,i):=L.add d (h:=h) (by rw[el,e,Au (Aj _),Ff];rfl) 'l';rw[Ve,show Zv t.mask (-(ow,⇑ps)) h=-(ow.setIfInBounds j (-⇑ps),(ps++[j]).length) by
   unfold Zv;simp only[Option.bind_eq_bind,Hf,g,Al,Cm];rfl]
  show Jni d c (pre:=pre++[h]) (by rw[e];simp) (by simp[el]) i
def Ju1:Lay t hs [] (Ls (t.mask+1) none)where
 sz:=Array.size_replicate
 at_:=λj a i=>by
  rw[Array.getElem?_replicate];constructor
  .intro z;split at z<;>cases z
  .intro z;cases z
 inb:=nofun
 nd:=Iw
 way:=λi j h z _=>by cases z
def Jql(a:Mk t.mask)(b:⇑hs<=t.mask):∃ps ow,Ka t.mask hs.toArray=-ow/\⇑ps=⇑hs/\Lay t hs ps ow:=by
 let(ps,ow,e,c,L):=Jni a b (rest:=hs) (pre:=[]) rfl rfl (Ju1 (t:=t) (hs:=hs));exists ps,ow,by rw[Jqm,show(-(Ls (t.mask+1) none,0):Option (Array (Option Nat)×Nat))=-(Ls (t.mask+1) none,([]:List Nat).length)from rfl,e];rfl,c,L
end
noncomputable def lvs(ow:Array (Option Nat))(m:Nat):List (Nat×Nat):=(Bz (m+1)).filterMap λj=>(ow.getD j none).map (j,·)
section
variable {t:SetTable} {hs:List Int} {ps:List Nat} {ow:Array (Option Nat)}
theorem Lay.mem(L:Lay t hs ps ow){x:Nat×Nat}:x∈lvs ow t.mask↔x.1<=t.mask/\ps[x.2]? =some x.1:=by
 unfold lvs;rw[Ng];constructor
 .rintro⟨j,a,e⟩;let a:=Hg.1 a;let(i,b,rfl):=Ai.1 e;exists by change j<=t.mask;lia,(L.at_ j 'l' i).mp ?_;rw[G3,Bi (by rw[L.sz];show a),N2]at b;rw[Bi (by rw[L.sz];show a),b]
 .rintro⟨c,d⟩;exists x.1,Hg.2 'l',?_;rw[G3,(L.at_ x.1 c x.2).mpr d];rfl
def Jmv:(lvs ow m).Pairwise λa b=>a.1<b.1:=by
 show List.Pairwise.filterMap (R:=(·<·)) _ (λa d h b hb e c=>?_) List.pairwise_lt_range;let(_,_,rfl):=Ai.1 hb;let(_,_,rfl):=Ai.1 c;show h
def Lay.perm(L:Lay t hs ps ow):((lvs ow t.mask).map (·.2)).Perm (Bz ⇑ps):=by
 show(P1 ?_ Lc).mpr λi=>?_
 .show Cg.2 (Jr (λ{a b} d hb h e=>?_) (Jmv (ow:=ow) (m:=t.mask)));let c:=(L.mem.1 d).2;let f:=(L.mem.1 hb).2;rw[e,f]at c;let:=Bj c
  lia
 .rw[Hg,Av];constructor
  .rintro⟨x,g,rfl⟩;show(Ad.1 (L.mem.1 g).2).1
  .intro h;exists(ps[i],i),L.mem.2 #[L.inb _ (Fi h),Ae h],rfl
theorem Jez{a:Type}{l:List a}:∀n,(Bz n).filterMap (l[·]?)=l.take n
 |0=>by simp
 |n+1=>by
  rw[List.range_succ,R8,Jez n,C5];congr 1
def Lay.elems{a:Type}(L:Lay t hs ps ow){l:List a}(b:⇑ps=⇑l):(((lvs ow t.mask).map (·.2)).filterMap (l[·]?)).Perm l:=by
 let:=L.perm.filterMap (l[·]?);rw[Jez,b,Gg]at this;show this
end
section
variable {prog:Program} {w:World} {A:Bo} {E:Value->Shared->Prop} {s:Shared}
abbrev IK(prog:Program)(w:World)(h:Heap)(k:List Int)(b:Addr):Prop:=Wn (intKind prog w) h k b
noncomputable abbrev kh(prog:Program)(w:World)(k:List Int):Int:=tupleKeyHash (intKind prog w) k
theorem items_int(h:ItemsAre (intKind prog w) k vs):∀v∈vs,∃i t,v=.int i t:=by
 induction h with
 |nil=>intro v hv;cases hv
 |cons a _ b=>
  intro v hv;rcases An.1 hv with rfl|hv
  .exists _,Kq a
  .show b v hv
def Jdi{Q:Bool->Shared->Prop}(e:IK prog w s.heap k b)(h:Q false s):wpAny (model prog w) A (O9 8 (.ref b)) Q E s:=by
 let f:=e.typeIs;let(o,c,n,g,_,hd,j):=e;let l:=items_int j;unfold O9;show Aa (G4 (T:="tuple") f ?_);dsimp only;rw[if_pos (show("tuple"=="tuple")=true from rfl)];show Aa (Ab ?_);rw[if_neg (show¬(!true)=true from Bb)];show Aa ?_;unfold To;show Aa (Oq g ?_);rw[hd];show Ab ?_;dsimp only;show Aa ?_;rw[<-Gn];show Ee _ (λrest r d=>r=(none,())/\d=s/\∀v∈rest,∃i t,v=Eg i t) _ ?_ ?_ _ _ #[rfl,rfl,l]
 .rintro v rest r d ⟨rfl,rfl,a⟩;let(i,t,rfl):=a v B1;show Aa ?_;unfold O9;show Ab ?_;rw[if_neg Bb];show Ab #[rfl,rfl,λu m=>a u (A7 _ m)]
 .rintro r d ⟨rfl,rfl,_⟩;show Ab h
def Jer{Q:Bool->Shared->Prop}(e:IK prog w s.heap k b)(h:Q true s):wpAny (model prog w) A (U3 8 (.ref b)) Q E s:=by
 let f:=e.typeIs;let(o,c,n,g,_,hd,j):=e;let l:=items_int j;unfold U3;show Aa (Hb f Jc.lookup ?_);dsimp only;show Aa ?_;unfold To;show Aa (Oq g ?_);rw[hd];show Ab ?_;show Aa ?_;change wpAny _ _ (forIn c _ _) _ _ s;rw[<-Gn];show Ee _ (λrest r d=>r=(none,())/\d=s/\∀v∈rest,∃i t,v=Eg i t) _ ?_ ?_ _ _ #[rfl,rfl,l]
 .rintro v rest r d ⟨rfl,rfl,a⟩;let(i,t,rfl):=a v B1;show Aa ?_;unfold U3;show Ab ?_;simp only[D1,Ba,if_false];show Ab #[rfl,rfl,λu m=>a u (A7 _ m)]
 .rintro r d ⟨rfl,rfl,_⟩;show Ab h
def Jsj{Q:Bool->Shared->Prop}(i:IK prog w s.heap k b)(h:Q false s):∀l:List Value,(∀v∈l,∃e a,v=.ref a/\IK prog w s.heap e a)->wpAny (model prog w) A (W3 (.ref b) l) Q E s:=by
 intro l j;unfold W3;show Aa ?_;show Ee _ (λrest r g=>r=(none,())/\g=s/\∀v∈rest,∃e a,v=Ax a/\IK prog w s.heap e a) _ ?_ ?_ _ _ #[rfl,rfl,j]
 .rintro v rest r g ⟨rfl,rfl,d⟩;let(e,a,rfl,f):=d v B1;let nx:∀v∈rest,∃e a,v=Ax a/\IK prog w g.heap e a:=λv m=>d v (A7 _ m);dsimp only
  by_cases c:(b==a||(Ry (.ref b)&&Ry (.ref a)))=true
  .rw[if_pos c];show Ab #[rfl,rfl,nx]
  .rw[if_neg c];show Aa (Uq i ?_);simp only[D1,Ba,if_false];show Aa (Uq f ?_);simp only[D1,Ba,if_false];show Aa (Jdi i ?_);simp only[Ba,if_false];show Aa (Jdi f ?_);simp only[Ba,if_false];show Ab #[rfl,rfl,nx]
 .rintro r g ⟨rfl,rfl,_⟩;show Ab h
structure Tb(prog:Program)(w:World)(t:SetTable)(kb:List (List Int×Addr)):Prop where
 ris:Ris t.place.toList
 dum:t.dummies= #[]
 msk:Ms t.mask
 len:t.place.size=⇑kb
 inb:∀j∈t.place.toList,j<=t.mask
 room:⇑kb*5<t.mask*3
 nd:(kb.map (·.1)).Nodup
 way:∀q∈t.place.toList.zip kb,∃n,n<10*Cr t.mask/\Hit t (·∈t.place.toList) n (t.probeStart (kh prog w q.2.1)) q.1
def entS(prog:Program)(w:World)(x:List Int×Addr):Int×Value:=(kh prog w x.1,.ref x.2)
def Tb.fits{t:SetTable}{kb:List (List Int×Addr)}(T:Tb prog w t kb){es:Array (Int×Value)}(a:es.toList=kb.map (entS prog w)):t.fits es.size=true:=by
 let b:es.size=⇑kb:=by rw[<-Br,a,Ag]
 unfold Ua Oy;rw[T.dum,b,T.len];let:=T.room;simp only[beq_self_eq_true,Na,decide_eq_true_eq];change ⇑kb+0<=t.mask
 lia
def Jg6{t:SetTable}(a:Ris t.place.toList)(b:i<t.place.size)(c:k<t.place.size)(e:t.place[i]=t.place[k]):i=k:=by
 rcases Jb i k with h|h|h
 .let:=Jg5 a h c;omega
 .show h
 .let:=Jg5 a h b;omega
def Jdm{t:SetTable}(x:Ris t.place.toList)(hd:t.dummies= #[]){F:Nat->Int}{p:Dx}(e:t.probe F h p=r)(y:n<10*Cr t.mask)(o:p.dummy=none)
  (z:Hit t (·∈t.place.toList) n p j)(C:∀i (g:i<t.place.size),t.place[i]=j->F i=h):
  (j∉t.place.toList/\r=-(.empty j none))\/
   ∃m f i,m<=n/\Hit t (·∈t.place.toList) (n-m) f j/\f.dummy=none/\∃g:i<t.place.size,t.place[i]=f.j/\t.slot f.j=.live i/\F i=h/\r=-(.candidate f.j i (t.advance f)):=by
 subst e;unfold SetTable.probe;rcases Jj2 x hd (hashAt:=F) (h:=h) n (10*Cr t.mask) p j y o z with⟨m,f,a,b,c,d⟩|⟨u,i,g,l,k⟩
 .rcases d with⟨u,l,k,v⟩|⟨i,g,u,l,k,v⟩
  .show .inl #[k,v]
  .show .inr #[m,f,i,a,b,c,g,u,l,k,v]
 .show absurd (C i g l) k
def Jkp{t:SetTable}(c:Ris t.place.toList)(hd:t.dummies= #[]){F:Nat->Int}{p:Dx}(e:∀a,t.probe F h p=-a->False)(d:n<10*Cr t.mask)(b:p.dummy=none)
  (f:Hit t (·∈t.place.toList) n p j)(g:∀i (k:i<t.place.size),t.place[i]=j->F i=h):False:=by
 rcases Jdm c hd (F:=F) rfl d b f g with⟨_,q⟩|⟨_,_,_,_,_,_,_,_,_,_,q⟩
 .show e _ q
 .show e _ q
theorem Jcf{o:Obj}{es:Array (Int×Value)}{t:SetTable}{h:List (List Int×Addr)}{Q:SetFound->Shared->Prop}(hu:A.units<Dm)(T:Tb prog w t h)
  (ho:s.heap.get? a=-o)(hd:o.data=.set es ep t)(he:es.toList=h.map (entS prog w))(hkb:∀x∈h,IK prog w s.heap x.1 x.2)(hk:IK prog w s.heap k b)
  (d:(j∉t.place.toList/\k∉h.map (·.1)/\Q (.free j false) s)\/(∃i,∃hi:i<t.place.size,t.place[i]=j/\(h[i]?).map (·.1)=-k)/\Q (.there none) s):
  ∀(n f:Nat) (c:Option Dx),n<f->n<10*Cr t.mask->(c.getD (t.probeStart (kh prog w k))).dummy=none->Hit t (·∈t.place.toList) n (c.getD (t.probeStart (kh prog w k))) j->
   wpAny (model prog w) A (Ta a (.ref b) (kh prog w k) true f c) Q E s:=by
 let C:=T.fits he;let H:∀i,es[i]? =(h[i]?).map (entS prog w):=λi=>by rw[<-Bs,he,Ao]
 intro n
 induction n using Vw with
 |ind n ih=>
  intro f c hf hn N hh;obtain⟨f,rfl⟩:∃f',f=f'+1:=#[f-1,by lia]
  change wpAny _ _ (setState a>>=_) _ _ _;show Aa (Jh ho hd C ?_);dsimp only;let hgw:¬t.gaveWay=true:=by
   unfold SetTable.gaveWay;rw[T.msk.odd.1];decide
  rw[if_neg hgw];obtain⟨p,hp⟩:∃p,c.getD (t.probeStart (kh prog w k))=p:=#[_,rfl]
  rw[hp]at N hh ⊢;let okF:∀F:Nat->Int,(∀i,F i=((es[i]?).map (·.1)).getD 0)->∀i (hi:i<t.place.size),t.place[i]=j->F i=kh prog w k:=λF hF i hi e=>by
   rcases d with⟨hj,_⟩|⟨⟨l,u,e',ek⟩,_⟩
   .show absurd (by rw[<-e];simp) hj
   .let:i=l:=Jg6 T.ris hi u (by rw[e,e']);subst this;let(x,I,rfl):=Ai.1 ek;rw[hF,H,I];rfl
  split
  case _ met U=>
   rcases Jdm T.ris T.dum U hn N hh (okF _ λ_=>rfl)with⟨hj,e⟩|⟨m,p',i,hm,z,hdm',hi,hpi,hsl,hFi,e⟩
   .cases e;dsimp only;rcases d with⟨_,_,q⟩|⟨⟨l,u,e',_⟩,_⟩
    .show Ab q
    .show absurd (by rw[<-e'];simp) hj
   .cases e;dsimp only;let hikb:i<⇑h:=by rw[<-T.len];show hi
    obtain⟨⟨k',b'⟩,I⟩:∃x,h[i]? =-x:=#[h[i],Ae hikb]
    let hk':=hkb _ (As I);let hes:es[i]? =-(kh prog w k',.ref b'):=by rw[H,I];rfl
    let seen:∀v∈((es.filter (·.1==kh prog w k)).toList.map (·.2)),∃k'' b'',v=Ax b''/\IK prog w s.heap k'' b'':=λv hv=>by
     let(e,h1,rfl):=Av.1 hv;let h2:e∈es.toList:=by
      let:e∈(es.filter (·.1==kh prog w k)):=C6.1 h1;show C6.2 (Array.mem_filter.1 this).1
     rw[he]at h2;let(x,I,rfl):=Av.1 h2;exists x.1,x.2,rfl,hkb x I
    let J:wpAny (model prog w) A (do
      let some (_,y):=es[i]? |unsupported "internal:set-entry"
      let g<-holding [y] (eqBool y (.ref b))
      let(es',_,t')<-setState a
      if true&&g then return .there none
      let some same:=t'.sameMemory t.moves t.mask|unsupported "set.changed-during-lookup:is-the-new-block-at-the-old-address"
      let Y<-match(if same then t'.slot p'.j else .empty)with
       |.live l=>match es'[l]? with
        |some (_,y')=>do pure (if<-isSame y' y then -l else none)
        |none=>pure none
       |_=>pure none
      match Y with
      |none=>rule "set.search.anew";Ta a (.ref b) (kh prog w k) true f none
      |some l=>if g then return .there (-l)else Ta a (.ref b) (kh prog w k) true f (-(t.advance p'))) Q E s:=by
     rw[hes];dsimp only;show Aa (Bt (V7 hu hk' hk ?_));show Aa (Jh ho hd C ?_);dsimp only
     by_cases hkk:k'=k
     .subst hkk;rw[decide_eq_true rfl];simp only[Qy,if_true];rcases d with⟨_,hno,_⟩|⟨_,q⟩
      .show absurd (Av.2 #[_,As I,rfl]) hno
      .show Ab q
     .rw[decide_eq_false hkk];simp only[Mo,Ba,if_false];let hsm:t.sameMemory t.moves t.mask=-true:=by unfold SetTable.sameMemory;simp
      rw[hsm];dsimp only;simp only[if_true];rw[hsl];dsimp only;rw[hes];dsimp only;show Aa (wpAny_isSame_ref_self ?_);simp only[if_true];show Aa (Ab ?_);dsimp only;cases hnm:n-m with
      |zero=>
       rw[hnm]at z;let ej:p'.j=j:=z;rcases d with⟨hj,_⟩|⟨⟨l,u,e',ek⟩,_⟩
       .show absurd (by rw[<-ej,<-hpi];simp) hj
       .let:i=l:=Jg6 T.ris hi u (by rw[hpi,ej,e']);subst this;rw[I]at ek;show absurd (Bj ek) hkk
      |succ r=>
       rw[hnm]at z;show ih r 'l' f (-(t.advance p')) 'l' 'l' (by change(t.advance p').dummy=none;rw[Hit.dummy (occ:=λ_=>True)];show hdm') z.2
    by_cases L:(!t.led)=true
    .rw[if_pos L];show Aa (Jsj hk ?_ _ seen);simp only[Ba,if_false];show J
    .rw[if_neg L];show J
  case _ U=>
   show(Jkp T.ris T.dum U hn N hh (okF _ λ_=>rfl)).elim
end
section
variable {prog:Program} {w:World} {A:Bo} {E:Value->Shared->Prop} {s:Shared}
def Je4{a:Type}(xs:Array a)(p:Nat)(x:a):(Ez xs p x).toList=xs.toList.take p++x::xs.toList.drop p:=by
 unfold Ez;let e:(xs.extract p xs.size).toList=xs.toList.drop p:=by rw[Jo,Hr];show By 's'
 rw[Fb,Io,e,Jo,Hr];simp
theorem Hit.le{t:SetTable}{occ:Nat->Prop}:∀{n:Nat} {p:Dx} {j:Nat},p.j+p.more<=t.mask->Hit t occ n p j->j<=t.mask
 |0,p,j,h,e=>by let e:p.j=j:=e;lia
 |n+1,p,j,h,#[_,q]=>by
  show Hit.le ?_ q;unfold F6;split
  .change p.j+1+(p.more-1)<=t.mask;lia
  .change(L8 t.mask p.i p.perturb).1+(Bd t.mask (L8 t.mask p.i p.perturb).1-(L8 t.mask p.i p.perturb).1)<=t.mask;let a:(L8 t.mask p.i p.perturb).1<=t.mask:=Ha (Ih _ (Fe _));unfold Bd;split<;>lia
def Joh(t:SetTable)(h:Int):(t.probeStart h).j+(t.probeStart h).more<=t.mask:=by
 change Cp h%(t.mask+1)+(Bd t.mask (Cp h%(t.mask+1))-Cp h%(t.mask+1))<=t.mask;let a:Cp h%(t.mask+1)<=t.mask:=Ha (Ih _ (Fe _));unfold Bd;split<;>lia
theorem sub_len:∀(l P:List Nat),l.Nodup->(∀j∈l,j∈P)->⇑l<=⇑P
 |[],P,_,_=>by simp
 |x::l,P,b,c=>by
  let d:=c x (.head _);let g:=sub_len l (P.erase x) (C3.1 b).2 λj f=>by
   let a:j≠x:=λe=>(C3.1 b).1 (e▸f);show(Ss a).mpr (c j (.tail _ f))
  rw[Qv d]at g;let:=Rp d;simp only[Bh]
  lia
def Jvx(n:Nat)(P:List Nat)(h:∀j,j<n->j∈P):n<=⇑P:=by
 simpa using sub_len (Bz n) P Lc λj a=>h j (Hg.1 a)
def Tb.free{t:SetTable}(T:Tb prog w t kb):∃j,j<=t.mask/\j∉t.place.toList:=by
 apply Ol;intro h;let a:∀j,j<t.mask+1->j∈t.place.toList:=λj c=>J1.1 λq=>h #[j,by lia,q];let b:=Jvx _ _ a;rw[Br,T.len]at b;let:=T.room
 lia
def Tb.put{t:SetTable}{kb:List (List Int×Addr)}(T:Tb prog w t kb)(I:k∉kb.map (·.1))(J:j∉t.place.toList)(L:n<10*Cr t.mask)(v:Hit t (·∈t.place.toList) n (t.probeStart (kh prog w k)) j):
  ∃c,c.Perm ((k,b)::kb)/\Ris (t.put j).1.place.toList/\(t.put j).1.dummies= #[]/\(t.put j).1.mask=t.mask/\(t.put j).1.place.size=⇑c/\
   (∀i∈(t.put j).1.place.toList,i<=t.mask)/\(c.map (·.1)).Nodup/\(∀q∈(t.put j).1.place.toList.zip c,∃n,n<10*Cr t.mask/\Hit (t.put j).1 (·∈(t.put j).1.place.toList) n ((t.put j).1.probeStart (kh prog w q.2.1)) q.1)/\
   ∀es:Array (Int×Value),es.toList=kb.map (entS prog w)->(Ez es (t.put j).2 (kh prog w k,.ref b)).toList=c.map (entS prog w):=by
 let(z,m,C):=Jfq j T.ris;obtain⟨p,hp⟩:∃p,Dn t.place j=p:=#[_,rfl]
 rw[hp]at z m C;let N:(t.put j).1.place=Ez t.place p j:=by rw[<-hp];rfl
 let d:(t.put j).1.place.toList=t.place.toList.take p++j::t.place.toList.drop p:=by rw[N,Je4]
 let Q:(t.put j).1.dummies= #[]:=by
  change(if K4 t.dummies j then _ else t.dummies)= #[];rw[T.dum];let:K4 #[] j=false:=by unfold K4;simp
  rw[this];rfl
 let o:(t.put j).1.mask=t.mask:=rfl;let len:t.place.toList.length=⇑kb:=by rw[Br,T.len]
 let U:p<=t.place.toList.length:=by erw[C]
 let Y:(t.place.toList.take p++j::t.place.toList.drop p).zip (kb.take p++(k,b)::kb.drop p)=(t.place.toList.zip kb).take p++(j,(k,b))::(t.place.toList.zip kb).drop p:=by
  rw[List.zip_append 'm',Nd];congr 1
  .show(List.take_zipWith ..).symm
  .congr 1;show(List.drop_zipWith ..).symm
 let a:∀{H:Type} (l:List H) (x:H),(l.take p++x::l.drop p).Perm (x::l):=λl x=>by
  show Oj.trans (Ti _ ?_);rw[Fs]
 let f:∀i,i∈t.place.toList->i∈(t.put j).1.place.toList:=λi hi=>by
  rw[d];show(a _ _).mem_iff.2 (.tail _ hi)
 exists kb.take p++(k,b)::kb.drop p,a _ _,?_,Q,o,?_,?_,?_,?_,?_
 .rw[d];show Cq.2 #[T.ris.sublist (G8 _ _),D6.2 #[λy hy=>?_,T.ris.sublist (Kx _ _)],λx hx y hy=>?_]
  .let(i,hi,rfl):=D8.1 hy;let e:p+i<t.place.size:=by simp at hi;lia
   let r:=m (p+i) e 'l';let g:(List.drop p t.place.toList)[i]=t.place[p+i]:=by simp
   rw[g];rcases Nat.lt_or_eq_of_le r with q|q
   .show q
   .show absurd (by rw[q];simp) J
  .let(i,hi,rfl):=D8.1 hx;let h:i<p/\i<t.place.size:=by simp at hi;lia
   let g:(List.take p t.place.toList)[i]=t.place[i]:=by simp
   rw[g];let h3:=z i h.2 h.1;rcases An.1 hy with rfl|hy
   .show h3
   .let(u,e,rfl):=D8.1 hy;let h4:(List.drop p t.place.toList)[u]=t.place[p+u]'(by simp at e;lia):=by simp
    rw[h4];let:=m (p+u) (by simp at e;lia) 'l'
    lia
 .rw[<-Br,d,(a _ _).length_eq,(a _ _).length_eq,Bh,Bh,len]
 .intro i hi;rw[d]at hi;rcases An.1 ((a _ _).mem_iff.1 hi)with rfl|hi
  .show v.le (Joh t _)
  .show T.inb i hi
 .let:((kb.take p++(k,b)::kb.drop p).map (·.1)).Perm (((k,b)::kb).map (·.1)):=(a _ _).map _;show this.nodup_iff.2 (C3.2 #[I,T.nd])
 .intro q hq;rw[d,Y]at hq;rcases An.1 ((a _ _).mem_iff.1 hq)with rfl|hq
  .exists n,L,v.mono (t':=(t.put j).1) o f
  .let(n',r,g):=T.way q hq;exists n',r,g.mono (t':=(t.put j).1) o f
 .intro es he;rw[show(t.put j).2=p from hp,Je4,he];simp[entS,M8,Wu]
end
open PySem PyProof.Rows
variable {prog:Program} {w:World} {A:Bo} {E:Value->Shared->Prop} {s:Shared}
def Tb.of_lay{t:SetTable}{kb:List (List Int×Addr)}{ps:List Nat}(u:Ms t.mask)(L:Lay t (kb.map λx=>kh prog w x.1) ps ow)(m:⇑ps=⇑kb)(v:⇑kb*5<t.mask*3)(d:(kb.map (·.1)).Nodup)
  (ep:t.place.toList=(lvs ow t.mask).map (·.1))(C:t.dummies= #[]):Tb prog w t (((lvs ow t.mask).map (·.2)).filterMap (kb[·]?)):=by
 let e:=L.elems (l:=kb) m;let len:(lvs ow t.mask).length=⇑kb:=by
  let:=L.perm.length_eq;rw[Ag,Ei,m]at this;show this
 let get:∀x∈lvs ow t.mask,∃y,kb[x.2]? =-y:=λx c=>by
  let:=(Ad.1 (L.mem.1 c).2).1;exists _,Ae 'l'
 let zip:∀{l:List (Nat×Nat)},(∀x∈l,∃y,kb[x.2]? =-y)->∀q∈(l.map (·.1)).zip ((l.map (·.2)).filterMap (kb[·]?)),∃x∈l,q.1=x.1/\kb[x.2]? =some q.2:=by
  intro l
  induction l with
  |nil=>intro _ q hq;simp at hq
  |cons x l f=>
   intro h q hq;let(y,o):=h x 's';rw[Bf,Bf,Ge,o]at hq;rcases An.1 hq with rfl|hq
   .exists x,by simp,rfl,o
   .let(z,g,a,b):=f (λz g=>h z (A7 _ g)) q hq;exists z,A7 _ g,a,b
 exists ?_,C,u,?_,λj r=>?_,?_,?_,λq hq=>?_
 .rw[ep];show Cg.2 Jmv
 .rw[<-Br,ep,Ag,len,e.length_eq]
 .rw[ep]at r;let(x,c,rfl):=Av.1 r;show(L.mem.1 c).1
 .rw[e.length_eq];show v
 .show(e.map _).nodup_iff.2 d
 .rw[ep]at hq;let(x,c,H,I):=zip get q hq;let(Y,J):=L.mem.1 c;let(n,N,Q):=L.way x.2 x.1 (kh prog w q.2.1) J (by rw[Ao,I];rfl);rw[H];exists n,N,?_;let k:∀{n:Nat} {p:Dx},p.j+p.more<=t.mask->Hit t (Oc ow) n p x.1->Hit t (·∈t.place.toList) n p x.1:=λ{n}=>by
   induction n with
   |zero=>show λ_ h=>h
   |succ n f=>
    rintro p hp ⟨a,b⟩;exists ?_,f ?_ b
    .change p.j∈t.place.toList;rw[ep];let(i,U):=C0.1 ((L.oc 'l').mp a);show Av.2 #[(p.j,i),L.mem.2 #[by change p.j<=t.mask;lia,U],rfl]
    .unfold F6;split
     .change p.j+1+(p.more-1)<=t.mask;lia
     .change(p.i*5+1+p.perturb/32)%(t.mask+1)+(Bd t.mask ((p.i*5+1+p.perturb/32)%(t.mask+1))-(p.i*5+1+p.perturb/32)%(t.mask+1))<=t.mask;let:=Ih (p.i*5+1+p.perturb/32) (Fe t.mask);unfold Bd;split<;>lia
  show k (Jg3 t _) Q
noncomputable def reord(es:Array (Int×Value))(b:Option (SetTable×Array Nat)):Sem (Array (Int×Value)×SetTable):=do
 let some (t,a):=b|unsupported "internal:set-table-without-room"
 let c:=a.filterMap (es[·]?)
 if c.size !=es.size then unsupported "internal:set-table-lost-an-element"
 pure (c,t)
def Jow:setRelay a b=(do
 let(es,_,t)<-setState a
 if Mf b>sizeLine then unsupported "set:memory"
 let(es,t)<-reord es (t.relaid (es.map (·.1)) b)
 storeSet a es t):=by kernel_rfl
def Jn9{o:Obj}{es:Array (Int×Value)}{t:SetTable}{d:List (List Int×Addr)}{Q:Unit->Shared->Prop}(N:s.heap.get? a=-o)(hd:o.data=.set es ep t)(hf:t.fits es.size=true)
  (y:es.toList=d.map (entS prog w))(z:(d.map (·.1)).Nodup)(C:Ms m)(U:Mf c=m+1)(hr:⇑d*5<m*3)
  (h:∀k t' r,k.Perm d->Tb prog w t' k->r.toList=k.map (entS prog w)->Q () {s with heap:=s.heap.update a (Qd r t')}):
  wpAny (model prog w) A (setRelay a c) Q E s:=by
 rw[Jow];show Aa (Jh N hd hf ?_);dsimp only;let ho2:=C.odd;let g:es.size=⇑d:=by rw[<-Br,y,Ag]
 let hh:es.map (·.1)=(d.map λx=>kh prog w x.1).toArray:=by
  apply Ob.1;rw[Array.toList_map,y,Bp];rfl
 rw[if_neg (by rw[U,G2];lia)];let(Y,p,ec,v,L):=Jql (t:={t with mask:=m}) (hs:=d.map λx=>kh prog w x.1) C.mk (by rw[Ag];change ⇑d<=m;lia);let v:⇑Y=⇑d:=by rw[v,Ag]
 obtain⟨t',H,f,I,ed⟩:∃t':SetTable,t.relaid (es.map (·.1)) c=-(t',((lvs p m).map (·.2)).toArray)/\t'.mask=m/\t'.place.toList=(lvs p m).map (·.1)/\t'.dummies= #[]:=by
  unfold SetTable.relaid SetTable.laid;rw[U,Uj,hh,show Ka m _=-p from ec];exists _,rfl,rfl,rfl,rfl
 rw[H];unfold reord;dsimp only;let u:(((lvs p m).map (·.2)).toArray.filterMap (es[·]?)).toList=(((lvs p m).map (·.2)).filterMap (d[·]?)).map (entS prog w):=by
  rw[Array.toList_filterMap,List.map_filterMap];congr 1;funext i;rw[<-Bs,y,Ao]
 let L':Lay t' (d.map λx=>kh prog w x.1) Y p:=by
  exists by rw[f];show L.sz,by rw[f];show L.at_,by rw[f];show L.inb,L.nd,λi j h a b=>?_;let(n,h1,h2):=L.way i j h a b;exists n,by rw[f];show h1,?_;let e:t'.probeStart h=Q4 {t with mask:=m} h:=by unfold Q4;rw[f]
  rw[e];show h2.mono f λ_ x=>x
 let T:=Tb.of_lay (prog:=prog) (w:=w) (t:=t') (by rw[f];show C) L' v (by rw[f];show hr) z (by rw[f];show I) ed;rw[f]at T;let J:=L'.elems (l:=d) v;rw[f]at J;let sz:(((lvs p m).map (·.2)).toArray.filterMap (es[·]?)).size=es.size:=by rw[<-Br,u,Ag,J.length_eq,g]
 show Aa ?_;rw[if_neg (by rw[sz];simp)];show Ab ?_;dsimp only;show Wx N hd ?_ (by rw[sz,g,G2];lia);show h _ _ _ J T u
end Sbl
namespace Sbl
open PySem
section
variable {prog:Program} {w:World} {A:Bo} {E:Value->Shared->Prop} {s:Shared}
inductive SetT (prog:Program) (w:World) (h:Heap) (a:Addr) (kb:List (List Int×Addr)):Prop
 |mk (o es ep t) (_:h.get? a=-o) (_:o.ExactSet) (_:o.data=.set es ep t) (_:es.toList=kb.map (entS prog w)) (_:Tb prog w t kb):SetT prog w h a kb
def stored{h:Heap}{o:Obj}(c:h.get? a=-o)(hd:o.data=.set es ep t):
  (h.update a (Qd b t')).get? a=-{o with data:=.set b (ep+1) t'}:=by
 let:=Di (Qd b t') c (by rw[putSet_of b t' hd];rfl);rw[putSet_of b t' hd]at this;show this
def Jqr:2000<=sizeLine:=by rw[G2];decide
def Jwe{d:List (List Int×Addr)}{Q:Bool->Shared->Prop}(hu:A.units<Dm)(S:SetT prog w s.heap a d)(z:∀x∈d,IK prog w s.heap x.1 x.2)(hk:IK prog w s.heap k b)(hn:⇑d<1000)
  (C:k∈d.map (·.1)->Q false s)(m:k∉d.map (·.1)->∀h' h,Du a s.heap h'->SetT prog w h' a h->h.Perm ((k,b)::d)->Q true {s with heap:=h'}):
  wpAny (model prog w) A (setAddHashed a (.ref b) (kh prog w k)) Q E s:=by
 let(o,l,ep,t,p,hx,hd,H,T):=S;let hf:=T.fits H;unfold setAddHashed;show Bt ?_;rw[show(100000:Nat)=99999+1 from rfl,setAddHashedIn];show Aa (Jh p hd hf ?_);dsimp only;let hsc:byScan (.ref b) l=false:=by unfold byScan;rfl
 rw[hsc];simp only[Ba,if_false];unfold setSearch;let hturn:10*Cr t.mask<100000:=by unfold Cr;let:=T.msk.odd;lia
 by_cases g:k∈d.map (·.1)
 .let(x,hx',ek):=Av.1 g;let(i,hi,ei):=D8.1 hx';let I:i<t.place.size:=by rw[T.len];show hi
  let hz:(t.place[i],x)∈t.place.toList.zip d:=by
   show C0.2 #[i,?_];rw[List.getElem?_zip_eq_some];exists by rw[Bs];show Bi I,by rw[Ae hi,ei]
  let(n,h1,J):=T.way _ hz;simp only[ek]at J;show Aa (Jcf (j:=t.place[i]) hu T p hd H z hk (.inr #[#[i,I,rfl,by rw[Ae hi,ei];show congrArg some ek],?_]) n 100000 none 'l' h1 rfl J);show Ab (C g)
 .let(j0,hj0,hno):=T.free;let(n,j,h1,J,h3):=Jyr (occ:=(·∈t.place.toList)) T.msk.mk hj0 hno (kh prog w k);show Aa (Jcf (j:=j) hu T p hd H z hk (.inl #[J,g,?_]) n 100000 none 'l' h1 rfl h3);dsimp only;show Aa (Jh p hd hf ?_);dsimp only;let(v,p1,r1,d1,y,l1,i1,n1,w1,L):=T.put (b:=b) g J h1 h3;let L:=L l H;let c:⇑v=⇑d+1:=by rw[p1.length_eq];rfl
  let N:l.size=⇑d:=by rw[<-Br,H,Ag]
  let U:(Ez l (t.put j).2 (kh prog w k,Ax b)).size=⇑d+1:=by rw[<-Br,L,Ag,c]
  let Y:(t.put j).1.fits (Ez l (t.put j).2 (kh prog w k,Ax b)).size=true:=by
   unfold Ua Oy;rw[d1,l1,U,c,y];let:=T.room;simp only[beq_self_eq_true,Na,decide_eq_true_eq];change ⇑d+1+0<=t.mask;let:=T.msk.odd;lia
  let r:wpAny (model prog w) A (do
    storeSet a (Ez l (t.put j).2 (kh prog w k,Ax b)) (t.put j).1
    if(!false&&(t.put j).1.tooFull)=true then do
     setRelay a (Tv (l.size+1))
     pure true
    else pure true) Q E s:=by
   show Aa (Wx p hd ?_ (by rw[U];let:=Jqr;lia));let sb:=Ds s.heap a (Qd (Ez l (t.put j).2 (kh prog w k,Ax b)) (t.put j).1);let fill:(t.put j).1.fill=⇑d+1:=by unfold Oy;rw[d1,l1,c];rfl
   by_cases u:(⇑d+1)*5<t.mask*3
   .let f:(t.put j).1.tooFull=false:=by
     unfold Si;rw[fill,y];show decide_eq_false 'l'
    rw[f];simp only[Mo,Ba,if_false];show Ab (m g _ v sb #[_,_,_,_,stored p hd,hx,rfl,L,r1,d1,by rw[y];show T.msk,l1,by rw[y];show i1,by rw[c,y];show u,n1,by rw[y];show w1] p1)
   .let f:(t.put j).1.tooFull=true:=by
     unfold Si;rw[fill,y];show decide_eq_true 'l'
    rw[f];simp only[P7,Qy,if_true];obtain⟨m',hm',hw',hr'⟩:∃m',Ms m'/\Mf (Tv (l.size+1))=m'+1/\⇑v*5<m'*3:=by
     let hr:=T.room;rw[c,N];rcases T.msk with e|e|e|e|e<;>rw[e]at hr u
     .rw[show ⇑d=4 by lia];exists 31,by simp[Ms],rfl,by decide
     .rw[show ⇑d=18 by lia];exists 127,by simp[Ms],rfl,by decide
     .rw[show ⇑d=76 by lia];exists 511,by simp[Ms],rfl,by decide
     .rw[show ⇑d=306 by lia];exists 2047,by simp[Ms],rfl,by decide
     .lia
    show Aa (Jn9 (stored p hd) rfl Y L n1 hm' hw' hr' ?_);intro h t' es' pm T' ee;show Ab (m g _ h (sb.trans (.update _ _ _)) #[_,_,_,_,stored (stored p hd) rfl,hx,rfl,ee,T'] (pm.trans p1))
  by_cases hpl:(t.put j).1.plain=true
  .rw[if_pos hpl];show Aa (Jer hk ?_);show r
  .rw[if_neg hpl];show Aa (Ab ?_);show r
end
open PySem PyProof.Rows
noncomputable def dd(ks:Nat->List Int):Nat->List (List Int)
 |0=>[]
 |n+1=>if ks n∈dd ks n then dd ks n else ks n::dd ks n
theorem Jhi(ks:Nat->List Int):∀n,(dd ks n).length<=n
 |0=>Aj _
 |n+1=>by
  unfold dd;let:=Jhi ks n;split
  .lia
  .simp only[Bh];lia
section
variable {prog:Program} {w:World} {A:Bo} {s:Shared} {R:Nm->Shared->Prop}
def IK.keep{h h':Heap}(x:IK prog w h k b)(e:∀o,h.get? b=-o->h'.get? b=-o):IK prog w h' k b:=by
 let(o,a,n,c,r):=x;exists o,a,n,e o c,r
def SetT.keep{h h':Heap}(x:SetT prog w h a kb)(e:∀o,h.get? a=-o->h'.get? a=-o):SetT prog w h' a kb:=by
 let(o,es,ep,t,b,r,c,d,f):=x;exists o,es,ep,t,e o b,r,c,d,f
structure Lo(prog:Program)(w:World)(I l S:Addr)(items:Array Value)(ks:Nat->List Int)(i:Nat)(h:Heap)(kb:List (List Int×Addr)):Prop where
 it:h.IsListIter I l i
 li:h.IsList l items
 st:SetT prog w h S kb
 el:∀j v,items[j]? =-v->∃b,v=.ref b/\b≠S/\b≠I/\IK prog w h (ks j) b
 ek:∀x∈kb,x.2≠S/\x.2≠I/\IK prog w h x.1 x.2
 pm:(kb.map (·.1)).Perm (dd ks i)
theorem loop{a:Array Value}{ks:Nat->List Int}(hh:A.in1.handled=none)(hu:A.in1.units<Dm)(h1:l≠I)(h2:S≠I)(h3:S≠l)(hb:a.size<1001):
  ∀(k i:Nat) (s:Shared) (n:List (List Int×Addr)),a.size-i=k->i<=a.size->Lo prog w I l S a ks i s.heap n->
   (∀h' tk h,(∀b o,b≠S->b≠I->s.heap.get? b=-o->h'.get? b=-o)->SetT prog w h' S h->(h.map (·.1)).Perm (dd ks a.size)->R (.ok (.ret .none)) {s with heap:=h',toks:=tk})->
   Hz (model prog w) A (.builtin "set.update.loop" #[[.ref S,.ref I],[]]) R s:=by
 let W:=Tc (prog:=prog) (w:=w) (A:=A.in1) hh I l h1 a;intro k
 induction k with
 |zero=>
  intro i s n hk hi L hR;let:i=a.size:=by lia
  subst this;show Ea Sn ?_;rw[Dq Iu _];change wpAny _ A.in1 (pyNext (.ref I)>>=_) _ _ s;show Aa (W.done s _ _ #[L.it,L.li] λh' tk hm=>?_);show Ab (hR h' tk n (λb o _ hI e=>hm b o (by erw[hI]) e) (L.st.keep λo e=>hm S o (by erw[h2]) e) L.pm)
 |succ k ih=>
  intro i s n hk hi L hR;let p:i<a.size:=by lia
  show Ea Sn ?_;rw[Dq Iu _];change wpAny _ A.in1 (pyNext (.ref I)>>=_) _ _ s;show Aa (W.item i s _ _ p #[L.it,L.li] λv h' tk hP m hm=>?_);let(b,rfl,b1,b2,b3):=L.el i v hP;let E:∀c o,c≠I->s.heap.get? c=-o->h'.get? c=-o:=λc o hc e=>hm c o (by erw[hc]) e;let J:SetT prog w h' S n:=L.st.keep λo e=>E S o h2 e;let N:∀j v,a[j]? =-v->∃b,v=.ref b/\b≠S/\b≠I/\IK prog w h' (ks j) b:=λj v hv=>by
   let(c,rfl,g,d,r):=L.el j v hv;exists c,rfl,g,d,r.keep λo e=>E c o d e
  let t:∀x∈n,x.2≠S/\x.2≠I/\IK prog w h' x.1 x.2:=λx hx=>by
   let(g,d,r):=L.ek x hx;exists g,d,r.keep λo e=>E _ o d e
  let u:IK prog w h' (ks i) b:=b3.keep λo e=>E b o b2 e;let Q:⇑n<1000:=by
   let e1:=L.pm.length_eq;let e2:=Jhi ks i;rw[Ag]at e1
   lia
  change wpAny _ A.in1 (holding [Ax b] (setAdd S (.ref b))>>=_) _ _ _;show Aa (Bt ?_);unfold setAdd;show Bt ?_;show Aa (wpAny_pyHash_tuple (s:={s with heap:=h',toks:=tk}) hu u ?_);show Jwe (s:={s with heap:=h',toks:=tk+((ks i).length+1)}) hu J (λx hx=>(t x hx).2.2) u Q (λy=>?_) (λy h2' h sb S' U=>?_)
  .show Ab #[He Iu _,ih (i+1) _ n 'l' p #[m.1,m.2,J,N,t,?_] λz C h f S' p'=>?_]
   .unfold dd;rw[if_pos (L.pm.mem_iff.1 y)];show L.pm
   .show hR z C h (λc o g d e=>f c o g d (E c o d e)) S' p'
  .let H:∀c o,c≠S->h'.get? c=-o->h2'.get? c=-o:=λc o hc e=>by rw[sb.2 c hc];show e
   show Ab #[He Iu _,ih (i+1) _ h 'l' p #[m.1.at λo e=>H I o (E9 h2) e,m.2.at λo e=>H l o (E9 h3) e,S',λj v hv=>?_,λx hx=>?_,?_] λz C Y f S'' p'=>?_]
   .let(c,rfl,g,d,r):=N j v hv;exists c,rfl,g,d,r.keep λo e=>H c o g e
   .rcases An.1 (U.mem_iff.1 hx)with rfl|hx
    .exists b1,b2,u.keep λo e=>H b o b1 e
    .let(g,d,r):=t x hx;exists g,d,r.keep λo e=>H _ o g e
   .unfold dd;rw[if_neg λq=>y (L.pm.mem_iff.2 q)];show(U.map _).trans (Ti _ L.pm)
   .show hR z C Y (λc o g d e=>f c o g d (H c o g (E c o d e))) S'' p'
variable {E:Value->Shared->Prop}
noncomputable abbrev setO(a:Bool):Obj:={cls:=.type "set",dict:=none,data:=.set #[] 0 (.fresh 0 0 a)}
def Jp8(a:Bool):Tb prog w (.fresh 0 0 a) []:=
 #[P5,rfl,.inl rfl,rfl,nofun,by change 0*5<7*3;decide,Iw,nofun]
inductive Mad (prog:Program) (w:World) (s:Shared) (ks:Nat->List Int) (n:Nat) (h':Heap):Prop
 |mk (_:(∃kb,SetT prog w h' ↥s kb/\(kb.map (·.1)).Perm (dd ks n))) (_:∀b o,b<↥s->s.heap.get? b=-o->h'.get? b=-o):Mad prog w s ks n h'
def Jnb{a:Array Value}{ks:Nat->List Int}(N:A.handled=none)(Q:A.in1.in1.in1.units<Dm)(I:s.heap.IsList l a)
  (J:∀j v,a[j]? =-v->∃b,v=.ref b/\IK prog w s.heap (ks j) b)(hb:a.size<1001){P:PySem.Fin->Shared->Prop}
  (h:∀h' tk,Mad prog w s ks a.size h'->P (.done (.ret .none)) {s with heap:=h',toks:=tk}):
  wpAny (model prog w) A.in1.in1 (Builtin.«set.__init__» #[[.ref ↥s,.ref l],[]]) P E {s with heap:=s.heap.push (setO c)}:=by
 let(ol,f,i,U,k):=id I;let(hp,g,d,Y,os):=s;let(oc,od,oda,osl):=ol;simp only at i k f I J h ⊢;subst i k;let n:l<hp.objs.size:=Aq f;let hS:(hp.push (setO c)).get? hp.objs.size=-(setO c):=Ak _ rfl;let p:=Af (setO c) f;let n1:=PySem.F.sub_list_set;let n2:=PySem.F.sub_list_frozenset;let n3:(Fm "list"==Fm "dict")=false:=by decide
 let t:(hp.push (setO c)).IsList l a:=#[_,p,rfl,U,rfl]
 unfold Builtin.«set.__init__» noKeywords U9;generalize u:pyIter=PI
 wp_walk
 subst u;show Hk t (Aa (Rr ?_));let y:(hp.push (setO c)).objs.size=hp.objs.size+1:=C4 ..;let lo:∀{b:Addr} {o:Obj},hp.get? b=-o->b≠hp.objs.size/\b≠(hp.push (setO c)).objs.size:=λe=>by
  let q:=Aq e;rw[y];exists A5 q,A5 (K7 q)
 let L:∀{b:Addr} {o:Obj} (x:Obj),hp.get? b=-o->((hp.push (setO c)).push x).get? b=-o:=λx e=>Af _ (Af _ e);show loop (ks:=ks) (by simp[N]) Q (l:=l) (by rw[y];show A5 (K7 n)) (by rw[y];show A5 (Eb _)) (C9 n) hb a.size 0 _ [] 'l' (Dk _)
  #[#[_,Ak _ rfl,rfl,rfl],t.push _,#[_,#[],0,_,Af _ hS,#[rfl,rfl,rfl],rfl,rfl,Jp8 c],λj v hv=>?_,nofun,List.Perm.refl _] λh' tk z hk S' p'=>?_
 .let(b,rfl,x):=J j v hv;let(o,C,m,H,r):=id x;exists b,rfl,(lo H).1,(lo H).2,o,C,m,L _ H,r
 .change wpAny _ _ _ _ _ _;show Ab ?_;change wpAny _ _ (ret C7) _ _ _;show Ab (h h' tk #[#[z,S',p'],λb o _ e=>hk b o (lo e).1 (lo e).2 (L _ e)])
theorem Jnw{a:Array Value}{ks:Nat->List Int}{Q:Value->Shared->Prop}(p:A.handled=none)(I:A.units+9<Dm)(t:s.heap.IsList l a)
  (u:∀j v,a[j]? =-v->∃b,v=.ref b/\IK prog w s.heap (ks j) b)(hb:a.size<1001)
  (h:∀h' tk,Mad prog w s ks a.size h'->Q (.ref ↥s) {s with heap:=h',toks:=tk}):
  wpAny (model prog w) A (call (.type "set") [.ref l]) Q E s:=by
 let(c,tl,o):=Et.mro;let J:=Et.made;let L:=Et.sub;let N:=Et.notType;let U:=Et.canCreate;let Y:=PySem.F.typeCall_set_1 (.ref l);show V8 (codeAny_of_tree ?_);change wpAny _ _ (callAny (.type "set") _) _ _ _;show Ab #[Tz _ (by decide+kernel),Ea PySem.F.entry_type_call ?_];rw[Around.under_plain (weight_type_call_type "set" [.ref l] []) rfl]
 repeat (any_goals (first|assumption|wp_step))
 show G5 (code_set_new_1 (.ref l) (E:=E) (Q₁:=λx g=>∃d,x=.ref ↥s/\g={s with heap:=s.heap.push (setO d)}) λd=>#[d,rfl,rfl]) λr g n=>?_;cases r with
 |error e=>show n
 |ok y=>
  cases y<;>try show n.elim
  let(d,rfl,rfl):=n;let z:(s.heap.push (setO d)).get? ↥s=-(setO d):=Ak _ rfl;let C:F2 {s with heap:=s.heap.push (setO d)} (.ref ↥s) "set":=#[_,z,rfl]
  let m6:=Et.init.lookup;let m7:=Et.init.bind (.ref ↥s)
  repeat (any_goals (first|assumption|wp_step))
  show G5 (codeAny_call_builtin (R:=wants (λr i=>r=.none/\∃h' tk,i={s with heap:=h',toks:=tk}/\Mad prog w s ks a.size h') E) Et.init.plain PySem.F.entry_set_init
   (check_set_init_1 C (Jnb p (by change A.units+1+1+1<Dm;lia) t u hb λh' tk m=>#[rfl,h',tk,rfl,m]))) λk i f=>?_
  cases k with
  |error e=>show f
  |ok H=>
   cases H<;>try show f.elim
   let(rfl,h',tk,rfl,m):=f
   repeat (any_goals (first|assumption|wp_step))
   show h _ _ m
end
end Sbl
namespace Rdc
open PySem
inductive Raw (h:Heap) (d:Addr) (es:Array Ce) (ep:Nat):Prop
 |mk (o) (_:h.get? d=-o) (_:o.ExactDict) (_:o.data=.dict es ep):Raw h d es ep
def Raw.keep{h h':Heap}(x:Raw h d es ep)(e:∀o,h.get? d=-o->h'.get? d=-o):Raw h' d es ep:=let#[o,a,r,b]:=x;#[o,e o a,r,b]
def Raw.typeIs{s:Shared}(x:Raw s.heap d es ep):s.TypeIs (.ref d) "dict":=let#[o,a,b,_]:=x;#[o,a,b.1]
section
variable {prog:Program} {w:World} {A:Bo} {E:Value->Shared->Prop} {s:Shared} {d it v:Addr} {es:Array Ce} {ep i:Nat}
def Jm6{Q:Value->Shared->Prop}(hd:(d==sysModules)=false)(b:Raw s.heap d es ep)
  (f:Q (.ref ↥s) {s with heap:=s.heap.push {cls:=.type "dict_keyiterator",data:=.fields (List.toArray [.ref d,.int 0 0,.int es.size 0,.int ep 0])}}):wpAny (model prog w) A (pyIter (.ref d)) Q E s:=by
 let a:=b.typeIs;let(o,c,g,e):=b;show O7 a Pg (Bq Pg a F.entry_dict_iter ?_ (F.args_dict_iter_1 _));unfold Builtin.«dict.__iter__» Builtin.Dict.dictSlotNone;show Aa (Aa (D5 a (Ab ?_)));unfold E8;show Aa (Ab ?_);rw[if_neg (by rw[hd];simp)];show Aa (Ab (Aa (B6 c e (Aa (Ew c e (Aa (B5 (Ab #[_,rfl,"dict_keyiterator",_,#[_,Ak _ rfl,rfl],Fc.lookup,f]))))))))
def Jrp{Q:Option Value->Shared->Prop}(b:Bool)(a:cond b (s.heap.IsValIter it d i es.size ep) (s.heap.IsKeyIter it d i es.size ep))(j:Raw s.heap d es ep)(k:i<es.size)
  (e:∀h',cond b (h'.IsValIter it d (i+1) es.size ep) (h'.IsKeyIter it d (i+1) es.size ep)->Du it s.heap h'->Q (-(cond b es[i].val es[i].key)) {s with heap:=h'}):wpAny (model prog w) A (pyNext (.ref it)) Q E s:=by
 obtain⟨h',c⟩:∃h',h'=s.heap.update it (Obj.mapFields (·.setIfInBounds 1 (rawInt ((i:Int)+1)))):=#[_,rfl]
 let nx:cond b (h'.IsValIter it d (i+1) es.size ep) (h'.IsKeyIter it d (i+1) es.size ep):=by
  cases b<;>show let#[o,f,hc,hd]:=a;#[_,by rw[c];show Di _ f (Sj (Kl hd _)),(Ur ..).trans hc,by rw[Kl hd];simp[rawInt]]
 replace e:=e h' nx (by rw[c];show Ds ..)
 cases b<;>dsimp only[cond]at a nx e
 all_goals
  let(o,f,hc,hd):=id a;let(q,g,l,h):=j;unfold pyNext
  first|show Aa (Fv (B9 (name:=Ac "__next__") a.typeIs E1 (Bq E1 a.typeIs O1 ?_ (Ot _))))|show Aa (Fv (B9 (name:=Ac "__next__") a.typeIs Fc (Bq Fc a.typeIs Pu ?_ (Pj _))))
  show Aa (Ab (Aa (Aa ?_)))
  first|show Aa (G0 a.typeIs (Ab ?_))|show Aa (Ik a.typeIs (Ab ?_))|show Aa (G1 a.typeIs (Ab ?_))|show Aa (Il a.typeIs (Ab ?_))
  show Aa (Ni f hd ?_)
  first|rw[if_neg (show¬Ct "dict_valueiterator"=true by decide)]|rw[if_neg (show¬Ct "dict_keyiterator"=true by decide)]
  change wpAny _ _ (if(Ax d==C7)=true then _ else _) _ _ s;rw[if_neg (show¬((Ax d==C7)=true)from Bb)];show Aa (Ab (Aa (B6 g h ?_)));rw[if_neg 's'];show Aa (Ab (Aa (Ew g h ?_)));rw[if_neg 's'];show Ab ?_;dsimp only;rw[if_neg (show¬((i:Int)<0) by omega),Er,Bi k];show Aa ?_
  first|show Aa (G0 a.typeIs (Ab ?_))|show Aa (Ik a.typeIs (Ab ?_))|show Aa (G1 a.typeIs (Ab ?_))|show Aa (Il a.typeIs (Ab ?_))
  first|show Aa (M0 a.typeIs ?_)|show Aa (Up a.typeIs ?_)
  change wpAny _ _ (U0 (.ref it) 1 (rawInt ((i:Int)+1))>>=_) _ _ s;show Aa (K8 f hd 's' ?_);rw[<-c]
  first|show Aa (Bt (Aa (M0 (s:={s with heap:=h'}) nx.typeIs (Aa (M0 (s:={s with heap:=h'}) nx.typeIs ?_)))))|show Aa (Bt (Aa (Up (s:={s with heap:=h'}) nx.typeIs ?_)))
  show Ab (Ab #[_,rfl,Ab e])
def Jyz{Q:Option Value->Shared->Prop}(b:Bool)(h:A.handled=none)(c:cond b (s.heap.IsValIter it d i es.size ep) (s.heap.IsKeyIter it d i es.size ep))(j:Raw s.heap d es ep)(k:es.size<=i)
  (l:∀h',Sk it s.heap h'->Q none {s with heap:=h'}):wpAny (model prog w) A (pyNext (.ref it)) Q E s:=by
 cases b<;>dsimp only[cond]at c
 all_goals
  let(o,e,hc,hd):=id c;let(q,f,n,g):=j;unfold pyNext
  first|show Aa (Fv (B9 (name:=Ac "__next__") c.typeIs E1 (Bq E1 c.typeIs O1 ?_ (Ot _))))|show Aa (Fv (B9 (name:=Ac "__next__") c.typeIs Fc (Bq Fc c.typeIs Pu ?_ (Pj _))))
  show Aa (Ab (Aa (Aa ?_)))
  first|show Aa (G0 c.typeIs (Ab ?_))|show Aa (Ik c.typeIs (Ab ?_))|show Aa (G1 c.typeIs (Ab ?_))|show Aa (Il c.typeIs (Ab ?_))
  show Aa (Ni e hd ?_)
  first|rw[if_neg (show¬Ct "dict_valueiterator"=true by decide)]|rw[if_neg (show¬Ct "dict_keyiterator"=true by decide)]
  change wpAny _ _ (if(Ax d==C7)=true then _ else _) _ _ s;rw[if_neg (show¬((Ax d==C7)=true)from Bb)];show Aa (Ab (Aa (B6 f g ?_)));rw[if_neg 's'];show Aa (Ab (Aa (Ew f g ?_)));rw[if_neg 's'];show Ab ?_;dsimp only;rw[if_neg (show¬((i:Int)<0) by omega),Er,Ip k];show Aa ?_
  first|show Aa (G0 c.typeIs (Ab ?_))|show Aa (Ik c.typeIs (Ab ?_))|show Aa (G1 c.typeIs (Ab ?_))|show Aa (Il c.typeIs (Ab ?_))
  change wpAny _ _ (U0 (.ref it) 0 .none>>=_) _ _ s;show Aa (K8 e hd 's' ?_);change wpAny _ _ (T9 (.type "StopIteration") []>>=_) _ _ _;simp only[T9,newTuple];show Aa (Aa (B5 ?_ (by size_fits)));show Aa (m:=Ji _ _) (Ql (a:=C7) (by first|rfl|(simp only[Ji];rfl)) ?_);show B5 ?_ (by size_fits);simp only[raiseNew];show Aa (Sz ?_);rw[show A.in1.handled=none from h];show Aa (Ab (Ux ?_));show Aa (Ed (T:="StopIteration") (b:=true) #[_,Ak _ rfl,rfl] Rv ?_);show Ab (l _ (((Ds ..).extBut.push _).push _))
def Jm5{Q:Value->Shared->Prop}(a:s.heap.IsValuesView v d)(e:Raw s.heap d es ep)
  (f:Q (.ref ↥s) {s with heap:=s.heap.push {cls:=.type "dict_valueiterator",data:=.fields (List.toArray [.ref d,.int 0 0,.int es.size 0,.int ep 0])}}):wpAny (model prog w) A (pyIter (.ref v)) Q E s:=by
 let(j,g,k,h):=id a;let(o,b,l,c):=e;show O7 a.typeIs Sl (Bq Sl a.typeIs F.entry_dict_values_iter ?_ (F.args_dict_values_iter_1 _));unfold Builtin.«dict_values.__iter__» Mc Lb;show Aa (Ab (Aa (Aa (Cv g h (x:=.ref d) rfl (Ab ?_)))));show Aa (Aa (B6 b c (Aa (Ew b c ?_))));simp only[show Ct "dict_valueiterator"=false by decide,Ba,if_false];show B5 (Ab #[_,rfl,"dict_valueiterator",_,#[_,Ak _ rfl,rfl],E1.lookup,f])
def Ji5{Q:Value->Shared->Prop}(hd:(d==sysModules)=false)(a:Raw s.heap d es ep)
  (b:Q (.ref ↥s) {s with heap:=s.heap.push {cls:=.type "dict_values",data:=.fields (List.toArray [.ref d])}}):wpAny (model prog w) A (call (.builtin "dict.values") [.ref d]) Q E s:=by
 show Bq R5 a.typeIs F.entry_dict_values ?_ (F.args_dict_values_1 _);show Aa ?_;unfold Pl;show Aa (D5 a.typeIs ?_);show Ab ?_;change wpAny _ _ (E8 d>>=_) _ _ s;unfold E8;rw[if_neg (by rw[hd];simp)];show Aa (Ab (Aa (B5 (Ab #[_,rfl,b]))))
def Jlh(n:A.handled=none)(I d:Addr)(g:d≠I)(es:Array Ce)(ep:Nat):
  Walks prog w A I [I,d] [I] es.size (λi v=>∃e,es[i]? =-e/\v=e.key) (λi h=>h.IsKeyIter I d i es.size ep/\Raw h d es ep)where
 sub:=λb hb=>by simp at hb;simp[hb]
 frame:=λ_ _ _ st l=>#[st.1.at λo e=>l I 's' o e,st.2.keep λo e=>l d 's' o e]
 item:=λi s Q E m st a=>Jrp false st.1 st.2 m λj c f=>a _ j s.toks #[es[i],Bi m,rfl] #[c,st.2.keep λo e=>by rw[f.2 d g];show e] λb o hb e=>f.extBut b o (λh=>hb (by simp[h])) e
 done:=λs Q E st a=>Jyz false n st.1 st.2 (Aj _) λj k=>a j s.toks λb o hb e=>k b o (λh=>hb (by simp[h])) e
 self:=λ_ _ _ _ st a=>wpAny_pyIter_keyiter st.1 a
open PySem.W in
def Joi(hd:(d==sysModules)=false):KdlSrc prog w "dict" d d es.size (λi v=>∃e,es[i]? =-e/\v=e.key) (λh=>Raw h d es ep)where
 type:=λs x=>x.typeIs
 there:=λh x=>let#[_,e,_,_]:=x;#[Aq e,Aq e]
 keep:=λh b x k=>x.keep λo e=>k d (.inl rfl) o e
 notList:=by decide
 notTuple:=by decide
 hint:=λA E s Q x q=>kdl_hint_dict x.typeIs q
 iter:=λA s a x=>#[_,_,λE Q q=>Jm6 hd x q,Jlh a _ d (let#[_,e,_,_]:=x;A5 (Aq e)) es ep,#[_,Ak _ rfl,rfl,rfl],x.keep λo e=>Af _ e]
end
section
variable {prog:Program} {w:World} {K:Type} [DecidableEq K] {knd:Ma prog w K} {A:Bo} {E:Value->Shared->Prop} {s:Shared} {d a:Addr} {k:K} {xs:List (K×Addr×Value)}
noncomputable def Yv(xs:List (K×Addr×Value))(k:K):List (K×Addr×Value):=xs.filter λx=>decide (x.1≠k)
def Jph{xs:List (K×Addr×Value)}(h:k∉xs.map (·.1)):Yv xs k=xs:=by
 unfold Yv;rw[Gb];intro x b;let:x.1≠k:=λe=>h (e▸Av.2 #[x,b,rfl]);simp[this]
theorem Jmk{g:Type}(f:K×Addr×Value->g):∀{xs:List (K×Addr×Value)} {j:Nat} {p:Addr×Value},(xs.map (·.1)).Nodup->xs[j]? =-(k,p)->(xs.map f).eraseIdx j=(Yv xs k).map f
 |[],j,p,_,h=>by simp at h
 |x::r,0,p,b,h=>by
  simp only[Ld,Hw]at h;subst h;rw[Bf,C3]at b;let e:Yv ((k,p)::r) k=r:=by
   let:=Jph b.1;unfold Yv at this ⊢;rw[Ey,if_neg 's'];show this
  rw[e,Bf,List.eraseIdx_cons_zero]
 |x::r,j+1,p,b,h=>by
  simp only[Cj]at h;rw[Bf,C3]at b;let c:x.1≠k:=λe=>b.1 (e▸Av.2 #[(k,p),As h,rfl]);let e:Yv (x::r) k=x::Yv r k:=by
   unfold Yv;rw[Ey,if_pos (by erw[c])]
  rw[e,Bf,Rc,Jmk f b.2 h,Bf]
def Jgz{p:Addr×Value}{Q:Option Ce->Shared->Prop}(t:knd.room A)(b:knd.is s.heap k a)(u:s.heap.DictOfH knd d xs)(hp:Hl xs k=-p)(hsz:⇑xs<=sizeLine)
  (h:∀(c:Addr) h',h'.DictOfH knd d (Yv xs k)->Du d s.heap h'->Q (-#[knd.hash k,.ref c,p.2]) {s with heap:=h',toks:=s.toks+knd.draws k}):
  wpAny (model prog w) A (O2 d (.ref a)) Q E s:=by
 let(o,v,y,f,hc,hd,i,g,m):=u;unfold O2
 try with_reducible show Bt ?_
 show Aa (knd.pyHash t b ?_);show Aa (Vg (s:={s with toks:=s.toks+knd.draws k}) t b f hd i g m ?_ ?_)
 .intro n;rw[Pe n]at hp;show nomatch hp
 .intro j q r;rw[atKey_of_get m r]at hp;cases hp;show Aa (B6 (s:={s with toks:=s.toks+knd.draws k}) f hd ?_);rw[Pa i j,r];show Aa (wpAny_updateDictKeys (hz:=by let e:=F9 i;lia) (s:={s with toks:=s.toks+knd.draws k}) f hd (Ab (h _ _ #[_,_,y+1,Di _ f (Tw (Jq hd _)),
   hc.mapDictKeys _,Jq hd _,?_,?_,?_] (Ds ..))))
  .let:=Jmk (entryOfKey knd) m r;rw[<-i]at this;obtain⟨l⟩:=v
   erw[this]
  .intro x z;show knd.keeps (g x (E4.1 z).1) f hd (Ds ..)
  .show m.sublist ((Mz).map _)
end
section
variable {prog:Program} {w:World} {K:Type} [DecidableEq K] (knd:Ma prog w K) (d a:Addr)
def Jks:MeetsIn prog w (Builtin.«dict.pop» #[[.ref d,.ref a],[]]) (λA R s=>knd.room A.in1/\∃k xs p,knd.is s.heap k a/\s.heap.DictOfH knd d xs/\Hl xs k=-p/\⇑xs<=sizeLine/\
   ∀h',h'.DictOfH knd d (Yv xs k)->Du d s.heap h'->R (.ok (.ret p.2)) {s with heap:=h',toks:=s.toks+knd.draws k}):=
 .of_wp λA R s l=>by
  let(m,k,xs,p,b,e,hp,f,h):=l;unfold Builtin.«dict.pop»;show Aa ?_;unfold Builtin.Dict.keyAndDefault;show Aa (D5 e.typeIs ?_);change wpAny _ _ (pure (d,Ax a,none)) _ _ s;show Ab ?_;let(o,n,v,t,hc,hd,u,_):=id e;let g:n.isEmpty=false:=by
   cases xs with
   |nil=>simp[Hl]at hp
   |cons x r=>have:=F9 u;simp at this;simp[V4,this]
  simp only[show(Nv (Ax a)).isSome=false from rfl,Ba,if_false];show Aa (B6 t hd (Aa (Ab ?_)));rw[g];simp only[Ba,if_false];show Aa (Jgz m b e hp f λc h' i j=>?_);simp only[So,Ba,if_false];show Aa (Qm (Ab #[p.2,rfl,h h' i j]))
end
section
variable {prog:Program} {w:World} {A:Bo} {E:Value->Shared->Prop} {s:Shared} {o:Addr} {es:Array Ce} {ep:Nat}
def Jil{Q:Bool->Shared->Prop}(a:s.TypeIs (.ref k) "tuple")(h:Q false s):wpAny (model prog w) A (O3 (.ref k)) Q E s:=by
 unfold O3;show Aa (Hb a Kc.lookup (Ab h))
def Wam{id:String}{Q:Array Ce->Shared->Prop}(c:Raw s.heap o es ep)(d:∀e∈es,∃k,e.key=.ref k/\s.TypeIs (.ref k) "tuple")(f:∀e∈es,(es.filter (·.hash==e.hash)).size<=1)(h:Q es s):
  wpAny (model prog w) A (Mw id o) Q E s:=by
 let(n,g,p,i):=c;unfold Mw;show Aa (B6 g i (Aa ?_));change wpAny _ _ (forIn es _ _) _ _ s;rw[<-Gn];show Ee _ (λrest r b=>b=s/\∀e∈rest,e∈es) _ ?_ ?_ _ _ #[rfl,λe j=>C6.1 j]
 .rintro e rest r b ⟨rfl,a⟩;let(k,l,tk):=d e (a e B1);rw[l];show Aa (Jil tk ?_);simp only[P7,if_true];rw[if_neg (by let:=f e (a e B1);omega)];show Ab #[rfl,λu m=>a u (A7 _ m)]
 .rintro r b ⟨rfl,_⟩;show Ab h
def Jn1{Q:Value->Shared->Prop}(hd:(o==sysModules)=false)(x:Raw s.heap o es ep)(y:∀e∈es,∃k,e.key=.ref k/\s.TypeIs (.ref k) "tuple")(H:∀e∈es,(es.filter (·.hash==e.hash)).size<=1)
  (hz:es.size<=sizeLine)(h:∀h' j,Raw h' ↥s es j->Du ↥s (s.heap.push {cls:=.type "dict",data:=.dict #[]}) h'->Q (.ref ↥s) {s with heap:=h'}):
  wpAny (model prog w) A (call (.type "dict") [.ref o]) Q E s:=by
 show callType_codes (Q₁:=λf b=>f=.ref ↥s/\b={s with heap:=s.heap.push {cls:=.type "dict",data:=.dict #[]}}) Wo (Ud _) Vl (kt_code_dict_new _ #[rfl,rfl]) ?_;rintro f b ⟨rfl,rfl⟩;let a:Raw (s.heap.push {cls:=.type "dict",data:=.dict #[]}) ↥s #[] 0:=#[_,Ak _ rfl,#[rfl,rfl,rfl],rfl]
 let d:Raw (s.heap.push {cls:=.type "dict",data:=.dict #[]}) o es ep:=x.keep λ_ q=>Af _ q;let z:F2 {s with heap:=s.heap.push {cls:=.type "dict",data:=.dict #[]}} (.ref ↥s) "dict":=Raw.typeIs (s:={s with heap:=s.heap.push {cls:=.type "dict",data:=.dict #[]}}) a;let tO:F2 {s with heap:=s.heap.push {cls:=.type "dict",data:=.dict #[]}} (.ref o) "dict":=Raw.typeIs (s:={s with heap:=s.heap.push {cls:=.type "dict",data:=.dict #[]}}) d;let l:¬((↥s==o)=true):=by
  let(_,I,_):=x;show λe=>absurd (Aq I) (by rw[eq_of_beq e];show Fg _)
 exists z,U8 _ _,?_;unfold Builtin.«dict.__init__»;show Aa ?_;unfold Ny;show Aa (D5 z ?_);change wpAny _ _ (pure (↥s,[Ax o])) _ _ _;show Ab ?_;change wpAny _ _ (Hh "dict.__init__" ↥s (.ref o) [] .none) _ _ _;unfold Hh;show Aa (G4 tO ?_);rw[if_neg 'd'];show Aa ?_;unfold Builtin.Dict.merge;show Aa ?_;unfold Builtin.Dict.readDirectly;show Aa (Ed tO isSubtype_dict_dict ?_);simp only[D1,Ba,if_false];show Aa (Hb tO Pg.lookup (Ab ?_));simp only[beq_self_eq_true,if_true];show Aa (Ab ?_);let(N,m,U,n):=id d;let(Y,p,J,i):=id a;unfold Builtin.Dict.mergeDict;rw[if_neg l];unfold E8;rw[if_neg (by rw[hd];simp)];show Aa (Ab (Aa (B6 m n ?_)))
 by_cases r:es= #[]
 .let t:(decide (es.size<=8)&&es.all λe=>(Nv e.key).isSome)=true:=by subst r;simp
  change wpAny _ _ (if(!(decide (es.size<=8)&&es.all λe=>(Nv e.key).isSome))=true then _ else _) _ _ _;rw[t,if_neg 's'];show Aa (Ew m n (Aa (B6 m n (Aa ?_))));subst r;simp only[Gf,Jx];show Ab (Ab ?_);change wpAny _ _ (Nz ↥s []>>=_) _ _ _;show Aa (Ab (Ab #[rfl,h _ _ a (Qe _ _)]))
 .let u:0<es.size:=Nat.pos_of_ne_zero λq=>r (Array.eq_empty_of_size_eq_zero q);let t:(decide (es.size<=8)&&es.all λe=>(Nv e.key).isSome)=false:=by
   let:(es.all λe=>(Nv e.key).isSome)=false:=by
    cases q:es.all λe=>(Nv e.key).isSome with
    |false=>rfl
    |true=>
     have C:=Array.all_eq_true.1 q 0 u;let(k,v,_):=y es[0] (T6 _);rw[v]at C;cases C
   rw[this,Mo]
  change wpAny _ _ (if(!(decide (es.size<=8)&&es.all λe=>(Nv e.key).isSome))=true then _ else _) _ _ _;rw[t,if_pos (by rfl)];show Aa (B6 p i ?_);rw[if_pos (by rfl)];show Aa (Wam d (λe q=>let#[k,v,L,g,c]:=y e q;#[k,v,L,Af _ g,c]) H ?_);change wpAny _ _ (if(!es.isEmpty)=true then _ else _) _ _ _;rw[if_pos (by simp[V4];lia)];show Aa (wpAny_updateDictKeysTo p i ?_ (by change es.size<=_;lia));show Ab ?_;change wpAny _ _ (Nz ↥s []>>=_) _ _ _;show Aa (Ab (Ab #[rfl,h _ _ #[_,Di _ p (Tw (Jq i _)),J.mapDictKeys _,Jq i _] (Ds ..)]))
end
open PySem PySem.W
section
variable {prog:Program} {w:World} {K:Type} [DecidableEq K] {knd:Ma prog w K} {A:Bo} {E:Value->Shared->Prop} {s:Shared} {a b:Addr} {xa xb:List (K×Addr×Value)}
def Wa8{Q:Bool->Shared->Prop}(U:(a==sysModules)=false)(hb:(b==sysModules)=false)(Y:knd.room A)(da:s.heap.DictOfH knd a xa)(db:s.heap.DictOfH knd b xb)(hl:⇑xa=⇑xb)
  (n:∀x∈xa,∃p,Hl xb x.1=-p/\Fo A s x.2.2 p.2 true)(h:Q true s):wpAny (model prog w) A (Og nm a b) Q E s:=by
 let(oa,m,ep,c,_,d,o,v,hna):=da;let(ob,y,ep',g,_,k,l,z,t):=db;let hla:=F9 o;let hlb:=F9 l;unfold Og E8;rw[if_neg (show¬(a==sysModules)=true by rw[U];show Bb),if_neg (show¬(b==sysModules)=true by rw[hb];show Bb)];show Aa (Ab (Aa (Ab ?_)));show Aa (B6 c d ?_);dsimp only;show Aa (B6 g k ?_);let C:m.size=y.size:=by lia
 rw[if_neg (by rw[C];simp)];show Aa (Ew c d ?_);show Aa ?_;rw[Gf];simp only[Jx,Lx,Uj,Nat.div_one];show Ee _ (λrest q H=>H=s/\q=(none,())/\∀i∈rest,i<m.size) _ ?_ ?_ _ _ #[rfl,rfl,λi I=>by erw[I]]
 .rintro x rest q H ⟨rfl,rfl,e⟩;let u:x<m.size:=e x B1;let f:x<⇑xa:=by lia
  show Aa (B6 c d ?_);rw[Bi u];let he:m[x]=entryOfKey knd xa[x]:=by
   let:=Pa o x;rw[Bi u,Ae f]at this;show Bj this
  let L:xa[x]∈xa:=Fi f;let(p,hp,hv):=n _ L;change wpAny _ _ (holding [m[x].key,m[x].val] _>>=_) _ _ _;rw[he];show Aa (Bt (Aa (Vg Y (v _ L) g k l z t ?_ ?_)))
  .intro J;rw[Pe J]at hp;show nomatch hp
  .intro j r N;rw[atKey_of_get t N]at hp;cases hp;show Aa (B6 g k ?_);rw[Pa l j,N];show Bt (hv prog w _ _ ?_);change wpAny _ _ (if(!true)=true then _ else _) _ _ _;rw[if_neg 'd'];show Aa (Ew c d ?_);rw[if_neg 's'];show Ab #[rfl,rfl,λi I=>e i (A7 _ I)]
 .rintro q H ⟨rfl,rfl,_⟩;show Ab h
def neH{Q:Value->Shared->Prop}(f:(a==sysModules)=false)(hb:(b==sysModules)=false)(g:A.units<Dm)(i:knd.room A.in1)(d:s.heap.DictOfH knd a xa)(e:s.heap.DictOfH knd b xb)(j:⇑xa=⇑xb)
  (c:∀x∈xa,∃p,Hl xb x.1=-p/\Fo A.in1 s x.2.2 p.2 true)(h:Q (.bool false) s):wpAny (model prog w) A (Ef .NotEq (.ref a) (.ref b)) Q E s:=by
 show Hj (op:=.NotEq) d.typeIs e.typeIs Q6 (Bq Q6 d.typeIs PySem.F.entry_dict_ne ?_ (PySem.F.args_dict_ne_2 _ _)) g;change wpAny _ _ (Gx "__ne__" #[[.ref a,.ref b],[]]>>=_) _ _ s;show Aa ?_;unfold Gx;show Aa (D5 d.typeIs ?_);change wpAny _ _ (pure (Ax a,Ax b)) _ _ s;show Ab ?_;show Aa (Ed (T:="dict") e.typeIs Qs ?_);simp only[D1,Ba,if_false];show Aa (Ab (Aa (Ab ?_)));show Aa (Wa8 f hb i d e j c ?_);show Ab #[_,rfl,?_,?_]
 .show λx=>nomatch x
 .erw[h]
def eqH{Q:Value->Shared->Prop}(f:(a==sysModules)=false)(hb:(b==sysModules)=false)(g:A.units<Dm)(i:knd.room A.in1)(d:s.heap.DictOfH knd a xa)(e:s.heap.DictOfH knd b xb)(j:⇑xa=⇑xb)
  (c:∀x∈xa,∃p,Hl xb x.1=-p/\Fo A.in1 s x.2.2 p.2 true)(h:Q (.bool true) s):wpAny (model prog w) A (Ef .Eq (.ref a) (.ref b)) Q E s:=by
 show Hj (op:=.Eq) d.typeIs e.typeIs Q7 (Bq Q7 d.typeIs PySem.F.entry_dict_eq ?_ (PySem.F.args_dict_eq_2 _ _)) g;change wpAny _ _ (Gx "__eq__" #[[.ref a,.ref b],[]]>>=_) _ _ s;show Aa ?_;unfold Gx;show Aa (D5 d.typeIs ?_);change wpAny _ _ (pure (Ax a,Ax b)) _ _ s;show Ab ?_;show Aa (Ed (T:="dict") e.typeIs Qs ?_);simp only[D1,Ba,if_false];show Aa (Ab (Aa (Ab ?_)));show Aa (Wa8 f hb i d e j c ?_);show Ab #[_,rfl,?_,?_]
 .show λx=>nomatch x
 .erw[h]
end
end Rdc
namespace Rdu
open PySem PyProof.Rows PySem.W Rdc
abbrev PK:=Int×Int
def ltP(a b:PK):Bool:=LR.ltZ a.1 a.2 b.1 b.2
def Wax{a b:PK}:ltP a b=true↔a.1<b.1\/(a.1=b.1/\a.2<b.2):=by simp[ltP,LR.ltZ]
section
variable {prog:Program} {w:World} {A:Bo} {E:Value->Shared->Prop} {s:Shared}
abbrev IK2(prog:Program)(w:World)(h:Heap)(k:PK)(b:Addr):Prop:=Wn (intKind prog w) h [k.1,k.2] b
theorem Jc9{k:PK}{a:Array Value}(h:ItemsAre (intKind prog w) [k.1,k.2] a.toList):∃t u,a= (List.toArray [.int k.1 t,.int k.2 u]):=by
 obtain⟨l⟩:=a;simp only at h;cases h with
 |cons c d=>
  cases d with
  |cons e b=>
   cases b;let(t,rfl):=Kq c;let(u,rfl):=Kq e;exists t,u,rfl
def Jpm{Q:Bool->Shared->Prop}(i:IK2 prog w s.heap k x)(j:IK2 prog w s.heap l y)(h:Q (ltP k l) s):wpAny (model prog w) A (keyLt' (tuples' b) (.ref x) (.ref y)) Q E s:=by
 let(ox,v,n,o,_,p,r):=i;let(z,C,m,g1,_,g2,g3):=j;let(t,u,rfl):=Jc9 r;let(H,I,rfl):=Jc9 g3;let e:∀(c:Bool) {a d:Int} {t u:Tok} {Q:Bool->Shared->Prop},Q (decide (a<d)) s->wpAny (model prog w) A (oneLt' c (.int a t) (.int d u)) Q (λ_ _=>False) s:=λc {a d t u Q} h=>by
  cases c with
  |true=>show oneLt_int h
  |false=>show kat_one _ _ (show wpAny (model prog w) A (U2 .Lt (.int a t) (.int d u)) _ _ s from LR.int_lt h)
 show kat_lt o p g1 g2 (U5 (Ju ?_))
 by_cases f:k.1=l.1
 .rw[f,beq_self_eq_true];show W4 (U5 (Ju ?_))
  by_cases g:k.2=l.2
  .rw[g,beq_self_eq_true];show W4 (kat_nil ?_);let:ltP k l=false:=by simp[ltP,LR.ltZ,f,g]
   rw[this]at h;show h
  .rw[beq_eq_false_iff_ne.2 g];show kat_no (e _ ?_);let:ltP k l=decide (k.2<l.2):=by simp[ltP,LR.ltZ,f]
   rw[this]at h;show h
 .rw[beq_eq_false_iff_ne.2 f];show kat_no (e _ ?_);let:ltP k l=decide (k.1<l.1):=by simp[ltP,LR.ltZ,f]
  rw[this]at h;show h
def IK2.keep{h h':Heap}(x:IK2 prog w h k b)(e:∀o,h.get? b=-o->h'.get? b=-o):IK2 prog w h' k b:=by
 let(o,a,n,c,r):=x;exists o,a,n,e o c,r
def Jkw{pk:Value->PK}{vs:List Value}{Q:Hv->Shared->Prop}(j:0<⇑vs)(a:∀v∈vs,∃b,v=.ref b/\IK2 prog w s.heap (pk v) b)(h:Q (tuples' true) s):wpAny (model prog w) A (keyKind' vs.toArray) Q E s:=by
 let:∀vs:List Value,(∀v∈vs,∃b,v=.ref b/\IK2 prog w s.heap (pk v) b)->∃c,KatTups s.heap vs c/\⇑c=⇑vs/\∀f∈c,∃i t,f=Eg i t:=by
  intro vs
  induction vs with
  |nil=>intro _;exists[],trivial,rfl,nofun
  |cons v vs k=>
   intro a;let(c,d,g,e):=k λv h=>a v (.tail _ h);let(b,rfl,o,l,n,g1,g2,g3,g4):=a v (.head _);let(t,u,rfl):=Jc9 g4;exists _::c,U6 g1 g2 g3 rfl d,by simp[g],λf hf=>?_;rcases An.1 hf with rfl|hf
   .exists _,_,rfl
   .show e f hf
 let(c,d,g,e):=this vs a;show kat_kind (T:=.type "int") d 'l' (λv a=>?_) 'd' (by rw[show(Fm "int" !=Fm "tuple")=true by decide];show h);let(i,t,rfl):=e v a;show .now
noncomputable def rkP(p:PK):Int:=4*p.1+p.2
def Sm(ps:List PK):Prop:=(∀p∈ps,0<=p.2/\p.2<4)/\ps.Nodup
def Jl4{k l:PK}(a:0<=k.2/\k.2<4)(b:0<=l.2/\l.2<4)(h:rkP k=rkP l):k=l:=by unfold rkP at h;show N1 (by omega) (by omega)
def Jrs{k l:PK}(a:0<=k.2/\k.2<4)(b:0<=l.2/\l.2<4):ltP k l=decide (rkP k<rkP l):=by
 show Lz.2 (Wax.trans ?_);rw[decide_eq_true_iff];unfold rkP;omega
theorem Jdn{c d:Type}{R:c->d->Prop}:∀{xs:List c} {ys:List d},⇑xs=⇑ys->(∀(i:Nat) (x:c) (y:d),xs[i]? =-x->ys[i]? =-y->R x y)->Paired R xs ys
 |[],[],_,_=>.nil
 |x::xs,y::ys,e,h=>.cons (h 0 x y rfl rfl) (Jdn (by erw[e]) λi a b p q=>h (i+1) a b p q)
theorem Jb6{g i:Type}{R:g->i->Prop}{xs c:List g}{ys:List i}(h:Paired R xs ys)(p:c.Perm xs):∃d,d.Perm ys/\Paired R c d:=by
 induction p generalizing ys with
 |nil=>exists ys,.refl _,h
 |cons x p j=>
  cases h with
  |cons a t=>
   let(zs,q,r):=j t;exists _::zs,q.cons _,.cons a r
 |swap x y l=>
  cases h with
  |cons a t=>
   cases t with
   |cons b t=>exists _,.swap _ _ _,.cons b (.cons a t)
 |trans o u e f=>
  let(zs,q,r):=f h;let(k,m,n):=e r;exists k,m.trans q,n
theorem Je0{b c d:Type}{R:b->c->Prop}{f:b->d}{g:c->d}(k:∀x y,R x y->f x=g y){xs:List b}{ys:List c}(h:Paired R xs ys):xs.map f=ys.map g:=by
 induction h with
 |nil=>rfl
 |cons a t e=>rw[Bf,Bf,k _ _ a,e]
theorem Jdo{b c:Type}{R:b->c->Prop}{xs:List b}{ys:List c}(h:Paired R xs ys):Paired (λy x=>R x y) ys xs:=by
 induction h with
 |nil=>show .nil
 |cons a t d=>show .cons a d
theorem Jbr{b a:Type}{R:b->a->Prop}{xs:List b}{ys:List a}(h:Paired R xs ys):∀{i:Nat} {y:a},ys[i]? =-y->∃x,xs[i]? =-x/\R x y:=by
 induction h with
 |nil=>intro i y e;simp at e
 |cons h _ c=>
  intro i y e;cases i with
  |zero=>cases e;exists _,rfl,h
  |succ i=>simp only[Cj]at e ⊢;show c e
theorem Jik:∀{vs:List Value},(∀v∈vs,∃b,v=.ref b)->∃bs:List Addr,vs=bs.map Ax
 |[],_=>#[[],rfl]
 |v::vs,h=>by
  let(bs,rfl):=Jik λv z=>h v (.tail _ z);let(b,rfl):=h v (.head _);exists b::bs,rfl
def Sm.ne{ps:List PK}(h:Sm ps){i j:Nat}{p q:PK}(b:i<j)(g:ps[i]? =-p)(l:ps[j]? =-q):rkP p≠rkP q:=λe=>by
 let(d,rfl):=Ad.1 g;let(f,rfl):=Ad.1 l;show B7.1 h.2 i j d f b (Jl4 (h.1 _ (Fi d)) (h.1 _ (Fi f)) e)
theorem Jjd:∀l:List Value,l.zip l=l.map λv=>(v,v)
 |[]=>rfl
 |v::l=>by rw[Nd,Jjd l];rfl
def Joj(l:List Value):((l.toArray.zip l.toArray).map (·.2))=l.toArray:=by
 apply Ob.1;simp[List.map_snd_zip]
theorem Jyu{R:Value->Value->Prop}:∀{vs:List Value},⇑vs<2->vs.Pairwise R
 |[],_=>.nil
 |[_],_=>by simp
 |_::_::_,h=>by simp at h;lia
def Jjj(rk:Value->Int){vs:List Value}{P:PySem.Fin->Shared->Prop}(p:s.heap.get? a=-(seqObj "list" vs.toArray n))(hz:⇑vs<sizeLine)
  (k:∀c:Heap,(∀b o,b≠a->s.heap.get? b=-o->c.get? b=-o)->2<=⇑vs->∀Q:Hv->Shared->Prop,Q κ {s with heap:=c}->wpAny (model prog w) A (keyKind' vs.toArray) Q E {s with heap:=c})
  (t:∀c:Heap,(∀b o,b≠a->s.heap.get? b=-o->c.get? b=-o)->∀x∈vs,∀y∈vs,∀Q:Bool->Shared->Prop,Q (decide (rk x<rk y)) {s with heap:=c}->wpAny (model prog w) A (keyLt' κ x y) Q (λ_ _=>False) {s with heap:=c})
  (hd:vs.Pairwise λx y=>rk x≠rk y)
  (h:∀i:List Value,i.Perm vs->i.Pairwise (λx y=>rk x<=rk y)->P (.done (.ret .none)) {s with heap:=sortedHeap s.heap a vs i.toArray}):wpAny (model prog w) A (Builtin.«list.sort» #[[.ref a],[]]) P E s:=by
 rw[list_sort_plain];let J:a<↥s:=Aq p;show Aa (listItems_at p rfl (Aa (Tg p rfl ?_ 'm' 's')));obtain⟨u,l⟩:∃u,(s.heap.update a (El λ_=> #[])).get? a=-(seqObj "list" #[] u):=#[_,get?_update_seq p (λ_=> #[])]
 show Aa (Va l rfl (Aa (Rt ?_ (by change ⇑vs<=_;lia))));show Aa (Oe ?_ (Dk _));show Bt ?_;obtain⟨c,r⟩:∃c,c=((s.heap.update a (El λ_=> #[])).push (seqObj "tuple" vs.toArray 0)).push (seqObj "list" #[] 0):=#[_,rfl]
 let C:∀{b:Addr} {o:Obj},b≠a->s.heap.get? b=-o->c.get? b=-o:=λ{b o} hb e=>by
  rw[r];show Af _ (Af _ ((Tf _ _ _ _ hb).trans e))
 let d:c.get? a=-(seqObj "list" #[] u):=by rw[r];show Af _ (Af _ l)
 let N:∀j:Array Value,c.update a (El λ_=>j)=sortedHeap s.heap a vs j:=λj=>by rw[r];rfl
 change wpAny (model prog w) A _ P E {s with heap:=((s.heap.update a (El λ_=> #[])).push (seqObj "tuple" vs.toArray 0)).push (seqObj "list" #[] 0)};rw[<-r];dsimp only;let hsz:vs.toArray.size=⇑vs:=by simp
 let g:∀b o,b≠a->s.heap.get? b=-o->c.get? b=-o:=λb o hb e=>C hb e
 by_cases m:vs.toArray.size<2
 .rw[if_pos m,if_pos m];show Aa (Ab ?_);rw[StateT.run_pure];show Aa (Ab ?_);dsimp only;rw[show(arrOf (Gm general' (vs.toArray.zip vs.toArray) #[] 7 none)).map (·.2)=vs.toArray from Joj vs];show Aa (Va d rfl (Aa (Tg d rfl ?_ (Dk _) (by change vs.toArray.size<=_;lia))));simp only[bne_self_eq_false,Ba,if_false];show Ab ?_;change P _ {s with heap:=c.update a (El λ_=>vs.toArray)};rw[N];show h vs (.refl _) (Jyu (by erw[m]))
 .rw[if_neg m,if_neg m];show Aa (k c g 'l' _ ?_);let e0:vs.toArray.zip vs.toArray=(vs.map λv=>(v,v)).toArray:=by apply Ob.1;simp[Jjd]
  show Aa (Cu (Srt.Jsi (rk:=λz=>rk z.1) (U:=λz=>z.1∈vs) (L0:=vs.map λv=>(v,v)) (st:=Gm κ (vs.toArray.zip vs.toArray) #[] 7 none)
   (Q:=λ_ f=>∃L:List Keyed,arrOf f=L.toArray/\failedOf f=none/\L.Perm (vs.map λv=>(v,v))/\Srt.SL (λz=>rk z.1) L) (λx y H I Q q=>t c g _ H _ I Q q) (λz hz=>by let(v,hv,rfl):=Av.1 hz;show hv) (Cg.2 hd) e0 rfl rfl rfl λf L a1 a2 a3 a4=>#[L,a1,a2,a3,a4]) ?_ λ_ _ e=>e)
  rintro⟨⟨⟩,f⟩ s' ⟨rfl,L,J,hf,Y,sl⟩;let eL:∀z∈L,z.2=z.1:=λz hz=>by
   let(v,_,rfl):=Av.1 (Y.mem_iff.1 hz);rfl
  let pv:(L.map (·.2)).Perm vs:=by
   let:=Y.map (·.2);rwa[Bp,show((λz:Keyed=>z.2)∘λv=>(v,v))=id from rfl,List.map_id]at this
  let lv:=pv.length_eq;dsimp only;rw[J,List.map_toArray];show Aa (Va d rfl (Aa (Tg d rfl ?_ (Dk _) (by change(L.map (·.2)).toArray.size<=_;rw[Aw];lia))));rw[hf];simp only[bne_self_eq_false,Ba,if_false];show Ab ?_;change P _ {s with heap:=c.update a (El λ_=>(L.map (·.2)).toArray)};rw[N];show h _ pv (Cg.2 (sl.imp_of_mem λ{x y} H I h=>by rw[eL x H,eL y I];show h))
def Jnu{Pi:Nat->Value->Prop}{f:Heap->Prop}{R:Nm->Shared->Prop}(K:KdlSrc prog w T r d n Pi f)(g:A.handled=none)(e:f s.heap)(i:n<=sizeLine)(j:S≠r)(k:S≠d)(l:s.heap.get? S=-{cls:=.type "list",data:=.seq #[] 0})
  (h:∀h' tk a c,(∀b o,b≠S->s.heap.get? b=-o->h'.get? b=-o)->h'.get? S=-{cls:=.type "list",dict:=none,data:=.seq a c,slots:= #[]}->W9 Pi a n->R (.ok (.ret (.ref S))) {s with heap:=h',toks:=tk}):
  Hz (model prog w) A (.builtin "list.__iadd__" #[[.ref S,.ref r],[]]) R s:=by
 show Ea entry_list_iadd' ?_;rw[Dq (show plainId "list.__iadd__"=true by decide+kernel) _];show kdl_extend (R:=R) K g e S j k (.ref S) 0 l h i
def Ji4{Pi:Nat->Value->Prop}{j:Heap->Prop}{Q:List Value->Shared->Prop}(K:KdlSrc prog w T r d n Pi j)(k:A.handled=none)(f:j s.heap)(l:n<=sizeLine)
  (h:∀h' tk (a:Array Value),(∀b o,s.heap.get? b=-o->h'.get? b=-o)->h'.objs.size≥↥s->W9 Pi a n->Q a.toList {s with heap:=h',toks:=tk}):wpAny (model prog w) A (collect (.ref r)) Q E s:=by
 unfold collect;show Aa (Rr (Ea Vb ?_));change wpAny _ _ (do again (.builtin "list.__iadd__" #[[<-newList [],.ref r],[]])) _ _ s;let m:(s.heap.push (seqObj "list" #[] 0)).get? ↥s=-(seqObj "list" #[] 0):=Ak _ rfl;let(p,ld):=K.there _ f;show Aa (Oe (Ab #[Tz _ (by decide+kernel),Jnu (s:={s with heap:=s.heap.push (seqObj "list" #[] 0)}) K k (K.keep _ _ f λb _ o e=>Af _ e) l (C9 p) (C9 ld) m
  λh' tk a c t g u=>?_]))
 let i:∀b o,s.heap.get? b=-o->h'.get? b=-o:=λb o e=>t b o (A5 (Aq e)) (Af _ e);change wpAny (model prog w) A (do
   let o<-load ↥s
   match o.data with
   |.seq v _=>pure v.toList
   |_=>unsupported "internal:collect") Q E {s with heap:=h',toks:=tk}
 show Aa (Oq g ?_);show Ab (h h' tk a i (E2 (Aq g)) u)
def Jei(rk:Value->Int){Pi:Nat->Value->Prop}{Q:Value->Shared->Prop}(L:∀(A':Bo) (N:Value->Shared->Prop) (Q':List Value->Shared->Prop),A'.handled=none->(∀(h':Heap) (tk:Nat) (a:Array Value),(∀b o,s.heap.get? b=-o->h'.get? b=-o)->h'.objs.size≥↥s->W9 Pi a n->Q' a.toList {s with heap:=h',toks:=tk})->wpAny (model prog w) A' (collect (.ref r)) Q' N s)(hh:A.handled=none)(hn:n<sizeLine)
  (u:∀(vs:List Value) (g:Heap) (t:Nat),⇑vs=n->(∀(i:Nat) (v:Value),vs[i]? =-v->Pi i v)->(∀b o,s.heap.get? b=-o->g.get? b=-o)->2<=n->∀(A':Bo) (N:Value->Shared->Prop) (Q:Hv->Shared->Prop),Q κ {s with heap:=g,toks:=t}->wpAny (model prog w) A' (keyKind' vs.toArray) Q N {s with heap:=g,toks:=t})
  (U:∀(g:Heap) (t:Nat),(∀b o,s.heap.get? b=-o->g.get? b=-o)->∀(i j:Nat) (x y:Value),Pi i x->Pi j y->∀(A':Bo) (Q:Bool->Shared->Prop),Q (decide (rk x<rk y)) {s with heap:=g,toks:=t}->wpAny (model prog w) A' (keyLt' κ x y) Q (λ_ _=>False) {s with heap:=g,toks:=t})
  (hd:∀(i j:Nat) (x y:Value),Pi i x->Pi j y->i<j->rk x≠rk y)
  (h:∀(h':Heap) (tk:Nat) (l:Addr) (c:Nat) (vs f:List Value),(∀b o,s.heap.get? b=-o->h'.get? b=-o)->↥s<=l->h'.get? l=-(seqObj "list" f.toArray c)->⇑vs=n->(∀(i:Nat) (v:Value),vs[i]? =-v->Pi i v)->f.Perm vs->f.Pairwise (λx y=>rk x<=rk y)->
   Q (.ref l) {s with heap:=h',toks:=tk}):
  wpAny (model prog w) A (call (.builtin "sorted") [.ref r]) Q E s:=by
 show Py kind_sorted plain_sorted entry_sorted (args_sorted1 _) ?_;unfold Builtin.«sorted»;show Aa (m:=checkCount "sorted" 1 1 _) (Ab ?_);show Aa (L _ _ _ (by simp[hh]) λh' tk a kp C it=>?_);let d:a.toList.length=n:=by rw[Br];show it.1
 let k:∀(i:Nat) (v:Value),a.toList[i]? =-v->Pi i v:=λi v e=>it.2 i v (by rw[<-Bs];show e);show Aa (Oe ?_ (by rw[d];lia));let Y:(h'.push (seqObj "list" a.toList.toArray 0)).get? h'.objs.size=-(seqObj "list" a.toList.toArray 0):=Ak _ rfl;let p:∀b o,s.heap.get? b=-o->b≠h'.objs.size/\(h'.push (seqObj "list" a.toList.toArray 0)).get? b=-o:=λb o e=>
  #[A5 (Bu (Aq e) C),Af _ (kp b o e)]
 let H:∀v∈a.toList,∃i,Pi i v:=λv hv=>by
  let(i,I):=C0.1 hv;exists i,k i v I
 show Aa (Bt (Bq Rj #[_,Y,rfl] Q8 (Jjj rk (s:={s with heap:=h'.push (seqObj "list" a.toList.toArray 0),toks:=tk}) (κ:=κ) Y (by rw[d];show hn)
  (λg J z Q q=>u _ g tk d k (λb o e=>J b o (p b o e).1 (p b o e).2) 'l' _ _ Q q) (λg J x hx y hy Q q=>?_) ?_ λf pm sl=>#[_,rfl,?_]) (args_list_sort _)))
 .let(i,I):=H x hx;let(j,hj):=H y hy;show U g tk (λb o e=>J b o (p b o e).1 (p b o e).2) i j x y I hj _ Q q
 .show B7.2 λi j I hj hij=>hd i j _ _ (k i _ (Ae I)) (k j _ (Ae hj)) hij
 let(c,hc):=sortedHeap_at (out:=f.toArray) Y;show Ab #[_,rfl,h _ _ _ c a.toList f (λb o e=>?_) C hc d k pm sl];let(J,k2):=p b o e;rw[sortedHeap_old J (Aq k2)];show k2
end
noncomputable def itO(a:Value)(f:Bool)(d:Addr)(i n ep:Nat)(b c:Value):Obj:={cls:=.type "dict_itemiterator",dict:=none,data:=.fields (List.toArray [a,.bool f,.ref d,.int i 0,.int n 0,.int ep 0,b,c]),slots:= #[]}
inductive ItSt (h:Heap) (it d:Addr) (i n ep:Nat):Prop
 |mk (own f ok ov) (_:h.get? it=-(itO own f d i n ep ok ov)) (_:(own=.none\/∃(a:Nat) (oa:Obj),own=rawInt a/\h.get? a=-oa/\a≠it)):ItSt h it d i n ep
section
variable {prog:Program} {w:World} {A:Bo} {E:Value->Shared->Prop} {s:Shared} {it d:Addr} {es:Array Ce} {ep i:Nat}
def next_item{Q:Option Value->Shared->Prop}(hst:ItSt s.heap it d i es.size ep)(hm:Raw s.heap d es ep)(hi:i<es.size)
  (hQ:∀h',ItSt h' it d (i+1) es.size ep->h'.get? ↥s=-{cls:=.type "tuple",data:=.seq (List.toArray [es[i].key,es[i].val])}->h'.objs.size=↥s+1->
   (∀b o,b≠it->s.heap.get? b=-o->h'.get? b=-o)->Q (-(.ref ↥s)) {s with heap:=h'}):wpAny (model prog w) A (pyNext (.ref it)) Q E s:=by
 let(hp,g,dr,tk,os):=s;let(own,f,ok,ov,L,hown):=hst;let(od,hod,_,hdd):=hm;let U:F2 #[hp,g,dr,tk,os] (.ref it) "dict_itemiterator":=#[_,L,rfl]
 unfold pyNext;show Aa (Fv (B9 (name:=Ac "__next__") U Dz (Bq Dz U Mb ?_ (L3 _))));show Aa (Ab (Aa (Aa ?_)))
 first|show Aa (Gq U (Ab ?_))|show Aa (Ic U (Ab ?_))
 show Aa (Ni L rfl ?_);rw[if_pos (show Ct "dict_itemiterator"=true by decide)];change wpAny _ _ (if(Ax d==C7)=true then _ else _) _ _ _;rw[if_neg (show¬((Ax d==C7)=true)from Bb)];show Aa (Ab (Aa (B6 hod hdd ?_)));rw[if_neg 's'];show Aa (Ab (Aa (Ew hod hdd ?_)));rw[if_neg 's'];show Ab ?_;dsimp only;rw[if_neg (show¬((i:Int)<0) by lia),Er,Bi hi];show Aa ?_
 first|show Aa (Gq U (Ab ?_))|show Aa (Ic U (Ab ?_))
 show Aa (Mp U ?_);change wpAny _ _ (U0 (.ref it) 3 (rawInt ((i:Int)+1))>>=_) _ _ #[hp,g,dr,tk,os];show Aa (Df L 's' λk n p=>?_)
 replace p:Du it hp k:=p
 replace n:k.get? it=-(itO own f d (i+1) es.size ep ok ov):=by
  unfold itO;rw[show((i+1:Nat):Int)=(i:Int)+1 by lia];simpa [rawInt]using n
 let H:F2 #[k,g,dr,tk,os] (.ref it) "dict_itemiterator":=#[_,n,rfl]
 show Aa (Bt (Aa (Mp H (Aa (Mp H ?_)))));change wpAny _ _ (K5 (.ref it) 6 es[i].key es[i].val) _ _ #[k,g,dr,tk,os];unfold K5;show Aa (Rt ?_);obtain⟨j,l⟩:∃j,j=k.push {cls:=.type "tuple",data:=.seq (List.toArray [es[i].key,es[i].val])}:=#[_,rfl]
 let c:j.get? it=-(itO own f d (i+1) es.size ep ok ov):=by rw[l];show Af _ n
 let u:k.objs.size=hp.objs.size:=p.1;let hil:hp.objs.size≠it:=C9 (Aq L);let I:j.get? hp.objs.size=-{cls:=.type "tuple",data:=.seq (List.toArray [es[i].key,es[i].val])}:=by rw[l,<-u];show Ak _ rfl
 let Y:j.objs.size=hp.objs.size+1:=by rw[l,C4,u]
 let r:∀b o,b≠it->hp.get? b=-o->j.get? b=-o:=λb o hb e=>by rw[l];show Af _ (p.extBut b o hb e)
 let fin:∀(h:Heap) (t:Value) (f':Bool) (ok' ov':Value),h.get? it=-(itO t f' d (i+1) es.size ep ok' ov')->Du it j h->(t=.none\/∃(a:Nat) (N:Obj),t=rawInt a/\j.get? a=-N/\a≠it)->Q (-(.ref hp.objs.size)) #[h,g,dr,tk,os]:=λh t f' ok' ov' e₃ C o₃=>
  hQ h #[t,f',ok',ov',e₃,o₃.imp id λ#[a,N,q1,q2,q3]=>#[a,N,q1,C.extBut _ _ q3 q2,q3]] (C.extBut _ _ hil I) (by change h.objs.size=hp.objs.size+1;rw[C.1,Y]) λb o hb e=>C.extBut b o hb (r b o hb e)
 change wpAny _ _ (Kn (.ref it)>>=_) _ _ #[k.push {cls:=.type "tuple",data:=.seq (List.toArray [es[i].key,es[i].val])},g,dr,tk,os];rw[<-l,u];show Aa ?_;unfold Kn;rcases hown with rfl|⟨a,N,rfl,ha,J⟩
 .show Aa (Cv c rfl (x:=.none) rfl (Ab ?_));simp only[if_true];show Aa (Cv c rfl (x:=ok) rfl (Aa (Cv c rfl (x:=ov) rfl ?_)));show Aa (Df c 's' λh m v=>?_)
  replace m:h.get? it=-(itO .none f d (i+1) es.size ep es[i].key ov):=m
  show Aa (Df m 's' λh₄ y hs₄=>?_)
  replace y:h₄.get? it=-(itO .none f d (i+1) es.size ep es[i].key es[i].val):=y
  show Aa (Df y 's' λh₅ z hs₅=>?_)
  replace z:h₅.get? it=-(itO (rawInt hp.objs.size) f d (i+1) es.size ep es[i].key es[i].val):=z
  show Aa (Df z 's' λh₆ he₆ hs₆=>?_);show Aa (Qm (Ab (Ab #[_,rfl,Ab (fin h₆ _ false _ _ he₆ (((v.trans hs₄).trans hs₅).trans hs₆) (.inr #[_,_,rfl,I,hil]))])))
 .show Aa (Cv c rfl (x:=rawInt a) rfl ?_);change wpAny _ _ (loadIfAlive ((a:Int).toNat)>>=_) _ _ _;rw[Er];show Aa (kdx_alive (r a N J ha) ?_);simp only[So,Ba,if_false];show Aa (Cv c rfl (x:=.bool f) rfl ?_);cases f with
  |true=>
   rw[if_neg (show¬((J3 true !=J3 true)=true)from Bb)];show Ab ?_;simp only[Ba,if_false];show Ab (Ab #[_,rfl,Ab (fin j _ _ _ _ c (Qe _ _) (.inr #[a,N,rfl,r a N J ha,J]))])
  |false=>
   rw[if_pos (show(J3 false !=J3 true)=true from rfl)];show Aa (Df c 's' λh m v=>?_);show Ab ?_;simp only[Ba,if_false];show Ab (Ab #[_,rfl,Ab (fin h _ true _ _ m v (.inr #[a,N,rfl,r a N J ha,J]))])
def Jqd{Q:Option Value->Shared->Prop}(k:A.handled=none)(j:ItSt s.heap it d i es.size ep)(l:Raw s.heap d es ep)(n:es.size<=i)
  (o:∀h',Sk it s.heap h'->Q none {s with heap:=h'}):wpAny (model prog w) A (pyNext (.ref it)) Q E s:=by
 let(p,f,r,t,c,_):=j;let(od,g,_,h):=l;let e:s.TypeIs (.ref it) "dict_itemiterator":=#[_,c,rfl]
 unfold pyNext;show Aa (Fv (B9 (name:=Ac "__next__") e Dz (Bq Dz e Mb ?_ (L3 _))));show Aa (Ab (Aa (Aa ?_)))
 first|show Aa (Gq e (Ab ?_))|show Aa (Ic e (Ab ?_))
 show Aa (Ni c rfl ?_);rw[if_pos (show Ct "dict_itemiterator"=true by decide)];change wpAny _ _ (if(Ax d==C7)=true then _ else _) _ _ s;rw[if_neg (show¬((Ax d==C7)=true)from Bb)];show Aa (Ab (Aa (B6 g h ?_)));rw[if_neg 's'];show Aa (Ab (Aa (Ew g h ?_)));rw[if_neg 's'];show Ab ?_;dsimp only;rw[if_neg (show¬((i:Int)<0) by lia),Er,Ip n];show Aa ?_
 first|show Aa (Gq e (Ab ?_))|show Aa (Ic e (Ab ?_))
 change wpAny _ _ (U0 (.ref it) 2 .none>>=_) _ _ s;show Aa (K8 c rfl 's' ?_);change wpAny _ _ (T9 (.type "StopIteration") []>>=_) _ _ _;simp only[T9,newTuple];show Aa (Aa (B5 ?_ (by size_fits)));show Aa (m:=Ji _ _) (Ql (a:=C7) (by first|rfl|(simp only[Ji];rfl)) ?_);show B5 ?_ (by size_fits);simp only[raiseNew];show Aa (Sz ?_);rw[show A.in1.handled=none from k];show Aa (Ab (Ux ?_));show Aa (Ed (T:="StopIteration") (b:=true) #[_,Ak _ rfl,rfl] Rv ?_);show Ab (o _ (((Ds ..).extBut.push _).push _))
end
noncomputable def Yj(e:Ce):Obj:={cls:=.type "tuple",data:=.seq (List.toArray [e.key,e.val])}
structure ItG(es:Array Ce)(lo:Addr)(h:Heap)(as:List Addr):Prop where
 above:∀a∈as,lo<a
 pairs:∀(j:Nat) (a:Addr),as[j]? =-a->∃e,es[j]? =-e/\h.get? a=-(Yj e)
section
variable {prog:Program} {w:World} {A:Bo} {E:Value->Shared->Prop} {s:Shared} {r d:Addr} {es:Array Ce} {ep:Nat} {R:Nm->Shared->Prop}
def ItSt.keep{h h':Heap}(x:ItSt h it d i n ep)(k:h'.get? it=h.get? it)(c:∀b o,h.get? b=-o->∃o',h'.get? b=-o'):ItSt h' it d i n ep:=by
 let(own,f,ok,ov,e,o):=x;exists own,f,ok,ov,k.trans e,o.imp id λ#[a,oa,g,j,l]=>?_;let(o',m):=c a oa j;exists a,o',g,m,l
theorem Jkz(hh:A.handled=none)(H:S<I)(hSd:d≠S)(hId:d≠I)(hn:es.size<=sizeLine)(J:Value){h₁:Heap}
  (hR:∀h' f c as,(∀b o,b≠S->b≠I->h₁.get? b=-o->h'.get? b=-o)->h'.get? S=-{cls:=.type "list",dict:=none,data:=.seq f c,slots:= #[]}->⇑as=es.size->ItG es I h' as->f.toList=as.map Ax->R (.ok (.ret J)) {s with heap:=h'}):
  ∀(k i:Nat) (h:Heap) (c:Nat) (f:Array Value) (as:List Addr),es.size-i=k->i<=es.size->ItSt h I d i es.size ep->Raw h d es ep->(∀b o,b≠S->b≠I->h₁.get? b=-o->h.get? b=-o)->
   h.get? S=-{cls:=.type "list",dict:=none,data:=.seq f c,slots:= #[]}->f.toList=as.map Ax->⇑as=i->ItG es I h as->I<h.objs.size->
   Hz (model prog w) A (.builtin "list.extend.loop" #[[.ref S,.ref I,J],[]]) R {s with heap:=h}:=by
 let t:S≠I:=A5 H;intro k
 induction k with
 |zero=>
  intro i h c f as hk hi u hD g hS l n v x;show Ea O0 ?_;rw[Dq Fq _];change wpAny _ A.in1 (pyNext (.ref I)>>=_) _ _ _;show Aa (Jqd (s:={s with heap:=h}) (A:=A.in1) hh u hD 'l' λh' he=>?_);show Ab (hR h' f c as (λb o h1 L e=>he b o L (g b o h1 L e)) (he S _ t hS) 'l' #[v.above,λj a p=>?_] l);let(e,e1,e2):=v.pairs j a p;exists e,e1,he a _ (C9 (v.above a (As p))) e2
 |succ k ih=>
  intro i h c f as hk hi u hD g hS l n v x;let y:i<es.size:=by lia
  let N:f.size=i:=by rw[<-Br,l,Ag,n]
  show Ea O0 ?_;rw[Dq Fq _];change wpAny _ A.in1 (pyNext (.ref I)>>=_) _ _ _;show Aa (next_item (s:={s with heap:=h}) u hD y λh' Q ht hz m=>?_);dsimp only at ht hz m ⊢;let U:=m S _ t hS;let C:∀b o,b≠S->h'.get? b=-o->(h'.update S (El (·.push (Ax h.objs.size)))).get? b=-o:=λb o hb e=>(Fd _ _ (E9 hb)).trans e;let Y:S<h.objs.size:=Aq hS;let hS2:=Di (El (·.push (Ax h.objs.size))) U rfl;change wpAny _ A.in1 (updateSeq S (·.push (Ax h.objs.size))>>=_) _ _ _;show Aa ?_;show Qz U rfl (Ab #[He Fq _,ih (i+1) _ _ (f.push (Ax h.objs.size)) (as++[h.objs.size]) 'l' y
   (Q.keep (Fd _ _ t) λb o e=>?_) (hD.keep λo e=>C d o hSd (m d o hId e))
   (λb o h1 L e=>C b o h1 (m b o L (g b o h1 L e))) hS2 (by rw[Io,l,Bv];rfl) (by rw[Al,n];rfl) #[?_,?_] ?_]) (by rw[N];lia) (by change(f.push (Ax h.objs.size)).size<=sizeLine+1;rw[Array.size_push,N];lia)
  .by_cases hb:b=S
   .subst hb;exists _,hS2
   .exists o,C b o hb e
  .intro a ha;rcases Bn.1 ha with ha|ha
   .show v.above a ha
   .rw[Ap.1 ha];show x
  .intro j b p;rcases Jb j ⇑as with h1|h1|h1
   .rw[A0 h1]at p;let(e,e1,e2):=v.pairs j b p;let hb:=v.above b (As p);exists e,e1,C b _ (C9 (F4 H hb)) (m b _ (C9 hb) e2)
   .subst h1;let hb:h.objs.size=b:=by erw[p]
    subst hb;exists es[i],by rw[n];show Bi y,C _ _ (C9 Y) ht
   .let z:(as++[h.objs.size])[j]? =none:=Ft (by rw[Al,Cm];lia);rw[z]at p;cases p
  .let e:(h'.update S (El (·.push (Ax h.objs.size)))).get? h.objs.size=_:=C _ _ (C9 Y) ht;show F4 x (Aq e)
def Jkx{Q:Value->Shared->Prop}(b:s.heap.IsItemsView r d)(g:Raw s.heap d es ep)
  (h:Q (.ref ↥s) {s with heap:=s.heap.push (itO .none false d 0 es.size ep .none .none)}):wpAny (model prog w) A (pyIter (.ref r)) Q E s:=by
 let(j,c,i,e):=id b;let(o,f,hc,a):=id g;show O7 b.typeIs N9 (Bq N9 b.typeIs PySem.F.entry_dict_items_iter ?_ (PySem.F.args_dict_items_iter_1 _));unfold Builtin.«dict_items.__iter__» Mc Lb;show Aa (Ab (Aa (Aa (Cv c e (x:=.ref d) rfl (Ab (Aa ?_))))));show Aa (B6 f a (Aa (Ew f a ?_)));simp only[show Ct "dict_itemiterator"=true by decide,if_true];show B5 (Ab #[_,rfl,"dict_itemiterator",_,#[_,Ak _ rfl,rfl],Dz.lookup,?_])
  (by simp only[sizeOk,Ko,Aw,Al,Bh,H9,G2];lia)
 simpa [rawInt,itO,Ko]using h
inductive Got (s:Shared) (es:Array Ce) (res:Nm) (s':Shared):Prop
 |mk (h' acc c as) (_:res=.ok (.ret (.ref ↥s))) (_:s'={s with heap:=h'}) (_:(∀b o,s.heap.get? b=-o->h'.get? b=-o)) (_:h'.get? ↥s=-{cls:=.type "list",dict:=none,data:=.seq acc c,slots:= #[]}) (_:⇑as=es.size) (_:ItG es ↥s h' as) (_:acc.toList=as.map Ax):Got s es res s'
def Jf7{Q:List Value->Shared->Prop}(hh:A.handled=none)(hv:s.heap.IsItemsView r d)(Y:Raw s.heap d es ep)(hn:es.size<=sizeLine)
  (h:∀(h':Heap) (as:List Addr),(∀b o,s.heap.get? b=-o->h'.get? b=-o)->↥s<=h'.objs.size->⇑as=es.size->ItG es ↥s h' as->Q (as.map Ax) {s with heap:=h'}):
  wpAny (model prog w) A (collect (.ref r)) Q E s:=by
 let hr:r<↥s:=let#[_,t,_]:=hv;Aq t;let hd:d<↥s:=let#[_,t,_,_]:=Y;Aq t;unfold collect;show Aa (Rr (Ea Vb ?_));rw[Dq PySem.F.plain_proto_collect _];change wpAny _ A.in1 (newList []>>=λl=>again (.builtin "list.__iadd__" #[[l,.ref r],[]])) _ _ s;show Aa (B5 ?_);show Ab #[He Pp _,Ea entry_list_iadd' ?_];rw[Dq Pp _];obtain⟨k,N⟩:∃k,k=s.heap.push {cls:=.type "list",data:=.seq ([]:List Value).toArray}:=#[_,rfl]
 let u:k.get? ↥s=-{cls:=.type "list",data:=.seq #[]}:=by rw[N];show Ak _ rfl
 let U:∀b o,s.heap.get? b=-o->k.get? b=-o:=λb o e=>by rw[N];show Af _ e
 let v:k.IsItemsView r d:=let#[o,t,x]:=hv;#[o,U _ _ t,x];let m:↥s<k.objs.size:=by rw[N,C4];show Eb _
 change wpAny _ A.in1 (M6 (.ref ↥s) (.ref r) (.ref ↥s)) _ _ {s with heap:=s.heap.push {cls:=.type "list",data:=.seq ([]:List Value).toArray}};rw[<-N];unfold M6;show Aa (G4 (T:="dict_items") (Vk (s:={s with heap:=k}) v) ?_);simp only[show Nx (.ref ↥s) (.ref r)=false by simp[Nx,C9 hr],show(Fm "dict_items"==Fm "list")=false by decide,show(Fm "dict_items"==Fm "tuple")=false by decide,Bool.or_false,Ba,if_false];show Aa (Jkx (s:={s with heap:=k}) v (Y.keep λo e=>U _ _ e) ?_);let i:=Af (itO .none false d 0 es.size ep .none .none) u;let z:∀(C:Heap) (n:Nat),(∀b o,b≠↥s->(k.push (itO .none false d 0 es.size ep .none .none)).get? b=-o->C.get? b=-o)->C.get? ↥s=-{cls:=.type "list",data:=.seq #[] n}->
   Hz (model prog w) A (.builtin "list.extend.loop" #[[.ref ↥s,.ref k.objs.size,.ref ↥s],[]]) (Got s es) {s with heap:=C}:=λC n k2 g2=>by
  let hI:=k2 k.objs.size _ (C9 m) (Ak _ rfl);show Jkz (S:=↥s) (I:=k.objs.size) (d:=d) (s:=s) (h₁:=s.heap) (es:=es) (ep:=ep) hh m (A5 hd) (A5 (F4 hd m)) hn _ (λh' f c as kp e l g q=>#[h',f,c,as,rfl,rfl,λb o x=>kp b o (A5 (Aq x)) (A5 (F4 (Aq x) m)) x,e,l,#[λa ha=>F4 m (g.above a ha),g.pairs],q])
   es.size 0 C n #[] [] (Lx _) (Dk _) #[.none,false,.none,.none,hI,.inl rfl] (Y.keep λo e=>k2 d o (A5 hd) (Af _ (U _ _ e))) (λb o hb _ e=>k2 b o hb (Af _ (U _ _ e))) g2 rfl rfl
   #[(λ_ ha=>nomatch ha),(λj a hj=>by simp at hj)] (Aq hI)
 show Aa (Bt (kdx_hint (let#[o,t,hc,_]:=v;#[o,Af _ t,hc]) ?_));let fin:∀(h':Heap) (f:Array Value) (c:Nat) (as:List Addr),(∀b o,s.heap.get? b=-o->h'.get? b=-o)->h'.get? ↥s=-{cls:=.type "list",dict:=none,data:=.seq f c,slots:= #[]}->⇑as=es.size->ItG es ↥s h' as->f.toList=as.map Ax->
   wpAny (model prog w) A (load ↥s>>=λo=>match o.data with|.seq xs _=>(pure xs.toList:Sem (List Value))|_=>unsupported "internal:collect") Q E {s with heap:=h'}:=λh' f c as hk H hl hG J=>by
  show Aa (Oq H (Ab ?_));change Q f.toList _;rw[J];show h h' as hk (E2 (Aq H)) hl hG
 show wpAny_ite_split (λ_=>?_) (λ_=>Ab #[He Fq _,G5 (z _ 0 (λb o _ e=>e) i) ?_])
 .show Aa (D2 (Aa ?_));change wpAny _ _ (updateSeq ↥s (·.push .none)>>=λ_=>updateSeq ↥s (·.pop)) _ _ _;show Aa (Qz i rfl ?_);let p:=Di (El (·.push C7)) i rfl;show Qz (hz:=by seq_fits) p rfl ?_;let y:=Di (El (·.pop)) p rfl;show Ab #[He Fq _,G5 (z _ _ (λb o hb e=>(Fd _ _ (E9 hb)).trans ((Fd _ _ (E9 hb)).trans e)) y) ?_];rintro q L ⟨h',f,c,as,rfl,rfl,a1,a2,a3,a4,a5⟩;show fin h' f c as a1 a2 a3 a4 a5
 .rintro q L ⟨h',f,c,as,rfl,rfl,a1,a2,a3,a4,a5⟩;show fin h' f c as a1 a2 a3 a4 a5
end
open PySem PySem.Spec PyProof.Rows PySem.F PySem.W Rdc
section
variable {prog:Program} {w:World} {A:Bo} {E:Value->Shared->Prop} {s:Shared} {r d:Addr} {es:Array Ce} {ep:Nat}
def IK2.tup{k:PK}(x:IK2 prog w h k b):∃t u,IsTup h b (List.toArray [.int k.1 t,.int k.2 u]):=by
 let(o,a,n,c,e,f,g):=x;let(t,u,rfl):=Jc9 g;exists t,u,o,c,e,n,f
def eqv{Q:Bool->Shared->Prop}(h:Q true s):wpAny (model prog w) A (eqBool v v) Q E s:=by
 unfold eqBool;show Bt ?_;rw[if_pos (beq_self_eq_true v)];show Aa (D2 (Ab h))
def Jpn{e f:Ce}{Q:Bool->Shared->Prop}(j:A.units<Dm)(m:s.heap.get? x=-(Yj f))(n:s.heap.get? y=-(Yj e))(o:f.key=.ref b)(p:e.key=.ref c)
  (hb:IK2 prog w s.heap l b)(hc:IK2 prog w s.heap k c)(v:l=k->f=e)(h:Q (ltP l k) s):wpAny (model prog w) A (keyLt' (tuples' false) (.ref x) (.ref y)) Q (λ_ _=>False) s:=by
 show kat_lt m rfl n rfl (U5 ?_)
 by_cases a:l=k
 .cases v a;subst a;show eqv (W4 (U5 (eqv (W4 (kat_nil ?_)))));let:ltP l l=false:=by simp[ltP,LR.ltZ]
  rw[this]at h;show h
 .let g:decide ([l.1,l.2]=[k.1,k.2])=false:=by
   rw[decide_eq_false_iff_not];show λz=>a (by injection z with C i;injection i with i;show N1 C i)
  let(t,u,H):=hb.tup;let(I,J,tc):=hc.tup;rw[o,p];show V7 (knd:=intKind prog w) j hb hc ?_;rw[g];show kat_no (kat_one _ _ (LR.Juj H tc j h))
theorem Wan{h:Heap}:∀{as:List Addr} {n:Nat},(∀(j:Nat) (a:Addr),as[j]? =-a->∃e,es[n+j]? =-e/\h.get? a=-(Yj e))->(∀e∈es.toList,∃b,e.key=.ref b/\∃o,h.get? b=-o/\o.cls=.type "tuple")->
  ∃c,KatTups h (as.map Ax) c/\⇑c=⇑as/\∀f∈c,∃b,f=.ref b/\∃o,h.get? b=-o/\o.cls=.type "tuple"
 |[],_,_,_=>#[[],trivial,rfl,λ_ h=>nomatch h]
 |a::as,n,hp,g=>by
  let(c,i,k,l):=Wan (as:=as) (n:=n+1) (λj b e=>by rw[show n+1+j=n+(j+1) by lia];show hp (j+1) b e) g;let(e,m,p):=hp 0 a rfl;exists e.key::c,U6 p rfl rfl rfl i,by simp[k],λf hf=>?_;rcases An.1 hf with rfl|hf
  .show g e (C6.2 (Gz m))
  .show l f hf
noncomputable def kyI(h:Heap)(v:Value):Value:=match v with
 |.ref a=>(match h.get? a with|some o=>(match o.data with|.seq b _=>b.getD 0 .none|_=>.none)|none=>.none)
 |_=>.none
theorem Jmz{h:Heap}{e:Ce}(q:h.get? a=-(Yj e)):kyI h (.ref a)=e.key:=by delta kyI;dsimp only;rw[q];rfl
def Jcx{pk:Value->PK}{Q:Value->Shared->Prop}(hh:A.handled=none)(hu:A.units+8<Dm)(H:s.heap.IsItemsView r d)(hm:Raw s.heap d es ep)(hz:es.size<sizeLine)
  (hk:∀e∈es.toList,∃b,e.key=.ref b/\IK2 prog w s.heap (pk e.key) b)(sm:Sm (es.toList.map λe=>pk e.key))
  (h:∀(h':Heap) (l:Addr) (c:Nat) (as:List Addr) (L:List Ce),(∀b o,s.heap.get? b=-o->h'.get? b=-o)->↥s<=l->h'.get? l=-(seqObj "list" (as.map Ax).toArray c)->L.Perm es.toList->L.Pairwise (λx y=>rkP (pk x.key)<=rkP (pk y.key))->
   Paired (λa e=>↥s<a/\a≠l/\h'.get? a=-(Yj e)) as L->Q (.ref l) {s with heap:=h'}):
  wpAny (model prog w) A (call (.builtin "sorted") [.ref r]) Q E s:=by
 show Py kind_sorted plain_sorted entry_sorted (args_sorted1 _) ?_;unfold Builtin.«sorted»;show Aa (m:=checkCount "sorted" 1 1 _) (Ab ?_);show Aa (Jf7 (by simp[hh]) H hm (E2 hz) λh' as kp hsz hl N=>?_);let u:(as.map Ax).length=es.size:=by rw[Ag];show hl
 show Aa (Oe ?_ (by rw[u];lia));let ho:(h'.push (seqObj "list" (as.map Ax).toArray 0)).get? h'.objs.size=-(seqObj "list" (as.map Ax).toArray 0):=Ak _ rfl;let k:∀b o,h'.get? b=-o->b≠h'.objs.size/\(h'.push (seqObj "list" (as.map Ax).toArray 0)).get? b=-o:=λb o e=>
  #[A5 (Aq e),Af _ e]
 let pr:Paired (λa e=>↥s<a/\h'.get? a=-(Yj e)) as es.toList:=Jdn (by erw[hl]) λi a e ha he=>by
  let(q,C,I):=N.pairs i a ha;rw[<-Bs,he]at C;cases C;exists N.above a (As ha),I
 let mk:∀v∈as.map Ax,∃(i:Nat) (a:Addr) (e:Ce),v=.ref a/\es[i]? =-e/\h'.get? a=-(Yj e):=λv H=>by
  let(a,ha,rfl):=Av.1 H;let(i,U):=C0.1 ha;let(e,C,I):=N.pairs i a U;exists i,a,e,rfl,C,I
 let sk:∀{e:Ce},e∈es.toList->0<=(pk e.key).2/\(pk e.key).2<4:=λ{e} he=>sm.1 _ (Av.2 #[e,he,rfl]);let inj:∀{i j:Nat} {e Y:Ce},es[i]? =-e->es[j]? =-Y->pk e.key=pk Y.key->i=j:=λ{i j e Y} U hj h=>by
  let p:∀{i:Nat} {e:Ce},es[i]? =-e->(es.toList.map λe=>pk e.key)[i]? =-(pk e.key):=λ{i e} h=>by rw[Ao,Bs,h];rfl
  rcases Jb i j with q|q|q
  .show absurd (congrArg rkP h) (sm.ne q (p U) (p hj))
  .show q
  .show absurd (congrArg rkP h.symm) (sm.ne q (p hj) (p U))
 show Aa (Bt (Bq Rj #[_,ho,rfl] Q8 (Jjj (λv=>rkP (pk (kyI h' v))) (s:={s with heap:=h'.push (seqObj "list" (as.map Ax).toArray 0)}) (κ:=tuples' false) ho (by rw[u];show hz)
  (λh1 k1 z Q q=>?kind) (λh1 k1 x hx y hy Q q=>?ans) ?dis λvs' pm sl=>#[_,rfl,?fin]) (args_list_sort _)))
 case kind=>
  have J:∀b o,h'.get? b=-o->h1.get? b=-o:=λb o e=>k1 b o (k b o e).1 (k b o e).2;let(L,f1,f2,f3):=Wan (es:=es) (h:=h1) (as:=as) (n:=0) (λj a e=>by
   let(q,C,I):=N.pairs j a e;exists q,by rw[C2];show C,J _ _ I) λe he=>by
    let(b,eb,o,_,_,g1,g2,_):=hk e he;exists b,eb,o,J _ _ (kp _ _ g1),g2
  show kat_kind (s:={s with heap:=h1}) (T:=.type "tuple") f1 (by rw[f2,hl];lia) (λv H=>?_) 'd' (by rw[show(Fm "tuple" !=Fm "tuple")=false by decide];show q);let(b,rfl,o,g1,g2):=f3 v H;show λA' Q' E' s' kk qq=>G4 #[o,kk _ _ g1,g2] qq
 case ans=>
  have J:∀b o,h'.get? b=-o->h1.get? b=-o:=λb o e=>k1 b o (k b o e).1 (k b o e).2;let(i,a,Y,rfl,g1,g2):=mk x hx;let(j,b,e,rfl,g3,g4):=mk y hy;let m1:=C6.2 (Gz g1);let m2:=C6.2 (Gz g3);let(b1,C,I):=hk Y m1;let(b2,q3,q4):=hk e m2;rw[Jmz g2,Jmz g4,<-Jrs (sk m1) (sk m2)]at q;show Jpn (s:={s with heap:=h1}) 'm' (J _ _ g2) (J _ _ g4) C q3 (I.keep λo e=>J _ _ (kp _ _ e)) (q4.keep λo e=>J _ _ (kp _ _ e)) (λz=>?_) q;cases inj g1 g3 z;show Bj (g1.symm.trans g3)
 case dis=>
  show Cg.2 (B7.2 λi j U hj hij z=>?_);let(e,g1,g2):=N.pairs i _ (Ae U);let(Y,g3,g4):=N.pairs j _ (Ae hj);rw[Jmz g2,Jmz g4]at z;show A5 hij (inj g1 g3 (Jl4 (sk (C6.2 (Gz g1))) (sk (C6.2 (Gz g3))) z))
 case fin=>
  let(t,rfl):=Jik (vs:=vs') λv H=>let#[_,a,_,e,_]:=mk v (pm.mem_iff.1 H);#[a,e];let pa:t.Perm as:=by
   let:=pm.map λv=>match v with|Ax a=>a|_=>0
   simpa [Bp,B8]using this
  let(L,pf,pr'):=Jb6 pr pa;let(c,hc):=sortedHeap_at (out:=(t.map Ax).toArray) ho;let old:∀b o,h'.get? b=-o->(sortedHeap (h'.push (seqObj "list" (as.map Ax).toArray 0)) h'.objs.size (as.map Ax) (t.map Ax).toArray).get? b=-o:=λb o e=>by
   rw[sortedHeap_old (k b o e).1 (Aq (k b o e).2)];show(k b o e).2
  show Ab #[_,rfl,h _ _ c t L (λb o e=>old b o (kp b o e)) hsz hc pf ?_ (Paired.mono (λa e q=>#[q.1,(k _ _ q.2).1,old _ _ q.2]) pr')];let em:=Je0 (f:=λa=>rkP (pk (kyI h' (.ref a)))) (g:=λe:Ce=>rkP (pk e.key)) (λa e q=>by rw[Jmz q.2]) pr';let sl':=Cg.1 sl;let:=Cg (f:=λa=>rkP (pk (kyI h' (.ref a)))) (R:=(·<=·))|>.mpr sl';rw[em]at this;show Cg.1 this
end
open PySem
def Juz:typeLookup (.type "list") "keys"=pure none:=by rw[typeLookup_type,builtinLookup_eq_fast];kernel_rfl
section
variable {prog:Program} {w:World} {A:Bo} {E:Value->Shared->Prop} {s:Shared} {a:Addr} {xs:Array Value} {k:Nat}
def Juq{Q:Option Value->Shared->Prop}(f:s.heap.get? a=-{cls:=.type "list",data:=.seq xs k})(j:A.handled=none)
  (h:∀h' tk,(∀b o,s.heap.get? b=-o->h'.get? b=-o)->Q none {s with heap:=h',toks:=tk}):wpAny (model prog w) A (getAttr? (.ref a) "keys") Q E s:=by
 let(hp,g,d,tk,os):=s;let l:∀i:Shared,i.heap.get? a=-{cls:=.type "list",data:=.seq xs k}->i.TypeIs (.ref a) "list":=λ_ e=>#[_,e,rfl]
 let m:F2 #[hp,g,d,tk,os] (.ref a) "list":=#[_,f,rfl]
 let p:=sub_AttributeError;let r:=Li.lookup;let t:=Li.bind (.ref a);let u:=am_list_getattr_none;unfold getAttr? getAttrBy? getAttrBy
 repeat (any_goals (first|assumption|((with_reducible show wpAny _ _ (call (Vj "list.__getattribute__") _ _) _ _ _);show Rz Li (l _ f) am_entry_list_getattribute (F.args_list_getattribute_2 _ _) (meets_getattribute_miss_list a xs k #[] "keys" _ Juz 'd' (by size_fits)) ?_)|wp_step))
 exists f,j,λh' n e c=>?_;let(v,x,y):=c.there;change wpAny _ _ (Wc _ _ _ _ _ _ _) _ _ _;unfold Wc
 repeat (any_goals (first|assumption|wp_step))
 show h _ _ c.keeps
end
open PySem PyProof.Rows
def Jy0:entryFor table "dict.update.loop"=-Builtin.«dict.update.loop»:=entryFor_of_tree 'k'
def Jpg:plainId "dict.update.loop"=true:=by decide+kernel
section
variable {prog:Program} {w:World} {K:Type} [DecidableEq K] {knd:Ma prog w K} {A:Bo} {E:Value->Shared->Prop} {s:Shared} {R:Nm->Shared->Prop} {xs:List (K×Addr×Value)} {as:List Addr}
noncomputable def Wa9(b:Addr)(v:Value):Obj:={cls:=.type "tuple",data:=.seq (List.toArray [.ref b,v])}
def Prs(knd:Ma prog w K)(h:Heap)(as:List Addr)(xs:List (K×Addr×Value)):Prop:=⇑as=⇑xs/\∀(j:Nat) (a:Addr) (x:K×Addr×Value),as[j]? =-a->xs[j]? =-x->h.get? a=-(Wa9 x.2.1 x.2.2)/\knd.is h x.1 x.2.1
theorem Jod(hh:A.handled=none)(hr:knd.room A.in1)(hz:⇑xs<=sizeLine)(kk:∀{h h':Heap} {k:K} {b:Addr},knd.is h k b->(∀o,h.get? b=-o->h'.get? b=-o)->knd.is h' k b)
  (m:Prs knd s.heap as xs)(hn:(xs.map (·.1)).Nodup)(hl:s.heap.IsList l (as.map Ax).toArray)(hp:s.heap.get? p=none)(hi:s.heap.get? it=none)(t:p≠it)
  (hR:∀h' tk,(∀b o,s.heap.get? b=-o->h'.get? b=-o)->h'.DictOfH knd p xs->R (.ok (.ret .none)) {s with heap:=h',toks:=tk}):
  ∀(n i:Nat) (h:Heap) (tk:Nat),⇑xs-i=n->i<=⇑xs->(∀b o,s.heap.get? b=-o->h.get? b=-o)->h.IsListIter it l i->h.DictOfH knd p (xs.take i)->
   Hz (model prog w) A (.builtin "dict.update.loop" #[[.ref p,.ref it,rawInt i,.none],[]]) R {s with heap:=h,toks:=tk}:=by
 let f:∀b o,s.heap.get? b=-o->b≠p/\b≠it:=λb o e=>#[(λq=>by rw[q,hp]at e;show nomatch e),(λq=>by rw[q,hi]at e;show nomatch e)]
 let J:∀h:Heap,(∀b o,s.heap.get? b=-o->h.get? b=-o)->h.IsList l (as.map Ax).toArray:=λh k=>let#[o,e,r]:=hl;#[o,k _ _ e,r];intro n
 induction n with
 |zero=>
  intro i h tk hk hi' a u hD;show Ea Jy0 ?_;rw[Dq Jpg _];change wpAny _ A.in1 (pyNext (.ref it)>>=_) _ _ _;show Aa (Uo (s:={s with heap:=h,toks:=tk}) (A:=A.in1) hh u (J h a) (by simp[m.1];lia) λh' he=>?_);dsimp only;show Aa (Ab (Ab (hR h' tk (λb o e=>he b o (f b o e).2 (a b o e)) ?_)));let(o,es,ep,q1,q2,q3,q4,q5,q6):=hD;let ei:xs.take i=xs:=By 'l';rw[ei]at q4 q5 q6;exists o,es,ep,he p o t q1,q2,q3,q4,λx L=>?_,q6;let(j,c):=C0.1 L;let v:j<⇑as:=by rw[m.1];show(Ad.1 c).1
  show kk (m.2 j _ x (Ae v) c).2 λo' I=>he _ _ (f _ _ I).2 (a _ _ I)
 |succ n ih=>
  intro i h tk hk hi' a u hD;let N:i<⇑xs:=by lia
  let Q:i<⇑as:=by rw[m.1];show N
  obtain⟨x,L⟩:∃x,xs[i]? =-x:=#[_,Ae N]
  let(g1,g2):=m.2 i _ x (Ae Q) L;show Ea Jy0 ?_;rw[Dq Jpg _];change wpAny _ A.in1 (pyNext (.ref it)>>=_) _ _ _;show Aa (T7 (s:={s with heap:=h,toks:=tk}) (A:=A.in1) u (J h a) (x:=.ref as[i]) (by simp[Q]) λh' U Y=>?_);let k':∀b o,s.heap.get? b=-o->h'.get? b=-o:=λb o e=>(Y.2 b (f b o e).2).trans (a b o e);let hD':h'.DictOfH knd p (xs.take i):=by
   let(o,es,ep,q1,q2,q3,q4,q5,q6):=hD;exists o,es,ep,(Y.2 p t).trans q1,q2,q3,q4,λy hy=>?_,q6;let(j,c):=C0.1 (E3 hy);let v:j<⇑as:=by rw[m.1];show(Ad.1 c).1
   show kk (m.2 j _ y (Ae v) c).2 λo' I=>k' _ _ I
  dsimp only;show Aa (Bt (Aa ?_));let hg:h'.get? as[i]=-(Wa9 x.2.1 x.2.2):=k' _ _ g1;let hti:F2 {s with heap:=h',toks:=tk} (.ref as[i]) "tuple":=#[_,hg,rfl]
  show wpAny_tryCatch ?_;unfold Builtin.Dict.pairItems;show Aa (G4 hti ?_);rw[if_pos 'd'];show Aa (E6 hg rfl (Ab ?_));change wpAny _ _ (holding [.ref x.2.1,x.2.2] (dictSet p (.ref x.2.1) x.2.2)) _ _ _;let hkx:knd.is h' x.1 x.2.1:=kk g2 λo' I=>k' _ _ I;let hnew:Hl (xs.take i) x.1=none:=by
   show Pe λj q c=>?_;let hj':xs[j]? =-(x.1,q):=by
    by_cases hji:j<i
    .rwa[F7 hji]at c
    .rw[P2 'l']at c;show nomatch c
   let:=idxH_unique hn hj' (show xs[i]? =-(x.1,x.2)from L);subst this;rw[P2 (Aj _)]at c;show nomatch c
  show Bt (wpAny_dictSet_heap (s:={s with heap:=h',toks:=tk}) hr hkx hD' (λz d g=>?_) (hsz:=by simp;lia));rw[storedH_new hnew]at d;let C:xs.take i++[(x.1,x.2.1,x.2.2)]=xs.take (i+1):=by
   rw[C5,L];rfl
  rw[C]at d;let hk'':∀b o,s.heap.get? b=-o->z.get? b=-o:=λb o e=>(g.2 b (f b o e).1).trans (k' b o e);let H:z.IsListIter it l (i+1):=let#[o,e,r]:=U;#[o,(g.2 it (E9 t)).trans e,r];show Ab #[He Jpg _,ih (i+1) z _ 'l' 'l' hk'' H d]
def Jla{Q:Value->Shared->Prop}(u:A.handled=none)(C:knd.room A.in1.in1)(hz:⇑xs<=sizeLine)(H:∀{h h':Heap} {k:K} {b:Addr},knd.is h k b->(∀o,h.get? b=-o->h'.get? b=-o)->knd.is h' k b)
  (I:Prs knd s.heap as xs)(J:(xs.map (·.1)).Nodup)(j:s.heap.get? l=-(seqObj "list" (as.map Ax).toArray c))
  (h:∀h' tk,(∀b o,s.heap.get? b=-o->h'.get? b=-o)->h'.DictOfH knd ↥s xs->Q (.ref ↥s) {s with heap:=h',toks:=tk}):wpAny (model prog w) A (call (.type "dict") [.ref l]) Q E s:=by
 show callType_codes (Q₁:=λg a=>g=.ref ↥s/\a={s with heap:=s.heap.push {cls:=.type "dict",data:=.dict #[]}}) Wo (Ud _) Vl (kt_code_dict_new _ #[rfl,rfl]) ?_;rintro g a ⟨rfl,rfl⟩;obtain⟨f,n⟩:∃f,f=s.heap.push {cls:=.type "dict",data:=.dict #[]}:=#[_,rfl]
 rw[<-n];let d:f.get? ↥s=-{cls:=.type "dict",data:=.dict #[]}:=by rw[n];show Ak _ rfl
 let r:∀b o,s.heap.get? b=-o->f.get? b=-o:=λb o e=>by rw[n];show Af _ e
 let v:F2 {s with heap:=f} (.ref ↥s) "dict":=#[_,d,rfl]
 let L:F2 {s with heap:=f} (.ref l) "list":=#[_,r _ _ j,rfl]
 exists v,U8 _ _,?_;unfold Builtin.«dict.__init__»;show Aa ?_;unfold Ny;show Aa (D5 v ?_);change wpAny _ _ (pure (↥s,[Ax l])) _ _ _;show Ab ?_;change wpAny _ _ (Hh "dict.__init__" ↥s (.ref l) [] .none) _ _ _;unfold Hh;show Aa (G4 L ?_);rw[if_pos 'd'];show Aa (Juq (s:={s with heap:=f}) (r _ _ j) (by simp[u]) λm N t=>?_);dsimp only at t ⊢;rw[if_pos (by rfl)];let i:∀b o,s.heap.get? b=-o->m.get? b=-o:=λb o e=>t b o (r b o e);show Aa (D2 (Aa (Hk (s:={s with heap:=m,toks:=N}) #[_,i _ _ j,rfl,_,rfl] ?_)));let y:=t _ _ d;let z:↥s<m.objs.size:=Aq y;show Ab #[He Jpg _,?_];show Jod (s:=s) (p:=↥s) (it:=m.objs.size) (l:=l) (as:=as) (xs:=xs) (by simp[u]) C hz H I J #[_,j,rfl,_,rfl] (Mg (Aj _)) (Mg (E2 z)) (A5 z)
  (λh' tk U dd=>#[rfl,h h' tk U dd]) ⇑xs 0 _ _ (Lx _) (Dk _) (λb o e=>Af _ (i b o e)) #[_,Ak _ rfl,rfl,rfl] ?_
 exists _,#[],0,Af _ y,#[rfl,rfl,rfl],rfl,rfl,(λx Y=>by simp at Y),by simp
end
end Rdu
namespace L2
open PySem PySem.W PySem.Spec PyProof.Rows Rdc Rdu
theorem KT.drop(r:KT H kvs xs)(k:List Key):KT H (X9 kvs k) (Yv xs k):=by
 induction r with
 |nil=>show .nil
 |@cons p q c d b t a=>
  unfold X9 Yv at a ⊢;rw[Ey,Ey,b.1]
  by_cases e:q.1=k
  .rw[if_neg (by erw[e]),if_neg (by erw[e])];show a
  .rw[if_pos (by erw[e]),if_pos (by erw[e])];show .cons b a
theorem KT.keys{kvs:List (List Key×V)}{xs:List (List Key×Addr×Value)}(r:KT H kvs xs):xs.map (·.1)=kvs.map (·.1):=by
 induction r with
 |nil=>rfl
 |cons a _ b=>rw[Bf,Bf,b,a.1]
section
variable {X:Cx} {pins:List (Addr×Obj)} {σ:St} {H:Hp} {s:Shared} {a b:Addr} {kvs:List (List Key×V)} {k:List Key} {A:Bo} {E:Value->Shared->Prop}
def Jy7{Q:Value->Shared->Prop}(Y:A.units+2<Dm)(I:Inv X pins σ H s)(e:H a=-(.dT kvs))(u:H b=-(.tup (k.map kV)))(l:X3 kvs k=-v)
  (h:∀f m,Inv X pins σ (upd H a (.dT (X9 kvs k))) m->RelV v f->Q f m):wpAny (model X.prog X.w) A (call (.builtin "dict.pop") [.ref a,.ref b]) Q E s:=by
 let(z,hd,n,d,dd):=Jvg I.hok e;let(f,w,g):=RelO.some_of (v:=v) (o:=(Hl n k).map (·.2)) (by rw[<-l];show d.val k);let(p,hp,i):=Ai.1 w;show Pb Lj dd.typeIs Qf (Pw _ _) (Jks (tupleKind (mixKind X.prog X.w)) a b)
  #[Dw 'l',k,n,p,Jdy I.hok u,dd,hp,by rw[<-Cf d];show z,λh' j x=>?_]
 rw[i];show h f _ ?_ g;let(q,y,C,r,J,L,N,_,U):=j;show Jef I (by rw[e];show Fp) x #[q,r] #[B3 (Jj7 kvs k) z,hd,_,(d.drop k).keeps λc ys t=>?_,q,y,C,r,J,L,N,U];rw[Jad (Jes t e (λz=>nomatch z))];show t
def Apart(P:Program)(w:World)(kvs:List (List Key×V)):Prop:=(kvs.map λc=>(tupleKind (mixKind P w)).hash c.1).Nodup
def Jqw{xs:List (List Key×Addr×Value)}{es:Array Ce}(h:es.toList=xs.map (entryOfKey (tupleKind (mixKind P w))))(i:(xs.map λx=>(tupleKind (mixKind P w)).hash x.1).Nodup):
  ∀e∈es,(es.filter (·.hash==e.hash)).size<=1:=by
 intro e _;let c:(es.toList.map (·.hash)).Nodup:=by rw[h,Bp];show i
 let d:∀l:List Ce,(l.map (·.hash)).Nodup->(l.filter (·.hash==e.hash)).length<=1:=by
  intro l
  induction l with
  |nil=>intro _;show Dk _
  |cons x l j=>
   intro f;rw[Bf,C3]at f;rw[Ey];split
   .rename_i m;let:l.filter (·.hash==e.hash)=[]:=by
     rw[Iy];intro y n g;show f.1 (Av.2 #[y,n,?_]);rw[eq_of_beq g,eq_of_beq m]
    rw[this];show Aj _
   .show j f.2
 let:=d es.toList c;rw[<-Br,Array.toList_filter];show this
def Jvl{Q:Value->Shared->Prop}(I:Inv X pins σ H s)(e:Rd H a (.dT kvs))(ap:Apart X.prog X.w kvs)(h:∀p t,H p=none->Inv X pins σ (upd H p (.dT kvs)) t->Q (.ref p) t):wpAny (model X.prog X.w) A (call (.type "dict") [.ref a]) Q E s:=by
 let(z,hd,i,d,o,w,ep,y,C,J,f,L,N):=Jcn I.hok e;let U:(i.map λx=>(tupleKind (mixKind X.prog X.w)).hash x.1)=kvs.map λY=>(tupleKind (mixKind X.prog X.w)).hash Y.1:=by
  let:=congrArg (Vx λk=>(tupleKind (mixKind X.prog X.w)).hash k) d.keys;rw[Bp,Bp]at this;show this
 show Jn1 hd #[o,y,C,J] (λq g=>?_) (Jqw f (by rw[U];show ap)) (by rw[F9 f,<-Cf d];show z) λh' j l hs=>?_
 .let m:q∈i.map (entryOfKey (tupleKind (mixKind X.prog X.w))):=f▸C6.2 g;let(x,n,rfl):=Av.1 m;let(r,_,_,g1,g2,_):=L x n;exists x.2.1,rfl,r,g1,g2
 .let u:=I.hok.fresh (Aj ↥s);let(r,g1,g2,g3):=l;show h _ _ u (I.laid (a:=↥s) (o:=.dT kvs) (t':=s.toks) (λc q g=>?_) (Aj _) #[z,beq_eq_false_iff_ne.2 (E9 (A5 I.big)),i,d.keeps λc ys v=>?_,r,w,j,g1,g2,g3,f,N])
  .show(hs.2 c (A5 (Aq g))).trans (Af _ g)
  .rw[Jad (Jam v u)];show v
end
noncomputable def intAt(its:Array Value)(i:Nat):Int:=match its[i]? with
 |some (Eg x _)=>x
 |_=>0
def pkH(h:Heap)(v:Value):Rdu.PK:=match v with
 |Ax b=>match h.get? b with
  |some o=>match o.data with
   |Data.seq a _=>(intAt a 0,intAt a 1)
   |_=>(0,0)
  |none=>(0,0)
 |_=>(0,0)
noncomputable abbrev pK(p:Rdu.PK):List Key:=[.inl p.1,.inl p.2]
theorem Jrw(d:HOk P w H h)(e:H b=-(.tup ((pK p).map kV))):IK2 P w h p b/\pkH h (.ref b)=p:=by
 let(_,f,r,o,a,g,n,c):=(show Xg P w H h b (.tup ((pK p).map kV))from d b _ e)
 cases r with
 |cons i r=>
  cases r with
  |cons j r=>
   cases r;let(t,rfl):=(show∃t,_=Eg p.1 t from i)
   let(u,rfl):=(show∃t,_=Eg p.2 t from j)
   exists#[o,_,n,a,g,c,.cons (by simp[intKind,Kr]) (.cons (by simp[intKind,Kr]) .nil)],?_;simp only[pkH,a,c];rfl
theorem KT.at(r:KT H kvs xs):∀{i:Nat} {x:List Key×Addr×Value},xs[i]? =-x->H x.2.1=-(.tup (x.1.map kV)):=by
 induction r with
 |nil=>intro i x a;simp at a
 |cons b _ c=>
  intro i x a;cases i with
  |zero=>simp only[Ld,Hw]at a;subst a;rw[<-b.1];show b.2.1
  |succ i=>simp only[Cj]at a;show c a
section
variable {X:Cx} {pins:List (Addr×Obj)} {σ:St} {H:Hp} {s:Shared} {a:Addr} {kvs:List (List Key×V)} {ps:List Rdu.PK} {A:Bo} {E:Value->Shared->Prop}
def Jky{Q:Value->Shared->Prop}(hd:(d==sysModules)=false)(b:Raw s.heap d es ep)
  (h:Q (.ref ↥s) {s with heap:=s.heap.push {cls:=.type "dict_items",data:=.fields (List.toArray [.ref d])}}):wpAny (model prog w) A (call (.builtin "dict.items") [.ref d]) Q E s:=by
 show Bq Po b.typeIs PySem.F.entry_dict_items ?_ (PySem.F.args_dict_items_1 _);unfold Builtin.«dict.items» Pl E8;show Aa (Aa (D5 b.typeIs ?_));change wpAny _ _ (pure d) _ _ s;show Ab ?_;change wpAny _ _ (ite ((d==sysModules)=true) _ _>>=_) _ _ s;rw[if_neg (by rw[hd];show Bb)];show Aa (Ab (Aa (B5 (Ab #[_,rfl,h]))))
def Jy8{Q:Value->Shared->Prop}(hh:A.handled=none)(hu:A.units+8<Dm)(I:Inv X pins σ H s)(e:Rd H a (.dT kvs))(ek:kvs.map (·.1)=ps.map pK)(sm:Sm ps)(hz:⇑kvs<sizeLine)
  (h:∀(p:Addr) (s':Shared) (d:List (List Key×V)) (qs:List Rdu.PK),H p=none->d.Perm kvs->d.map (·.1)=qs.map pK->qs.Pairwise (λx y=>rkP x<=rkP y)->Inv X pins σ (upd H p (.dT d)) s'->Q (.ref p) s'):
  wpAny (model X.prog X.w) A (call (.builtin "dict.items") [.ref a]) (λr s1=>wpAny (model X.prog X.w) A (call (.builtin "sorted") [r]) (λl s2=>wpAny (model X.prog X.w) A (call (.type "dict") [l]) Q E s2) E s1) E s:=by
 let(z,hd,xs,f,o,es,ep,h1,h2,h3,h4,h5,h6):=Jcn I.hok e;let esz:es.size=⇑kvs:=by rw[F9 h4,<-Cf f]
 let pl:⇑ps=⇑kvs:=by let:=congrArg D9 ek;erw[this.symm]
 let L:∀(i:Nat) (q:Ce),es[i]? =-q->∃p b v,ps[i]? =-p/\xs[i]? =-(pK p,b,v)/\q.key=.ref b/\q.val=v/\IK2 X.prog X.w s.heap p b/\pkH s.heap q.key=p:=λi q m=>by
  rw[Pa h4 i,Ai]at m;let(x,u,rfl):=m;let hk:(xs.map (·.1))[i]? =some x.1:=by rw[Ao,u];rfl
  rw[f.keys,ek,Ao,Ai]at hk;let(p,hp,t):=hk;let hH:=f.at u;rw[<-t]at hH;let(q1,C):=Jrw I.hok hH;exists p,x.2.1,x.2.2,hp,by rw[u,t],rfl,rfl,q1,C
 let eps:(es.toList.map λe=>pkH s.heap e.key)=ps:=G9 λi=>by
  rw[Ao,Bs]
  by_cases hi:i<es.size
  .let(p,_,_,p1,_,_,_,_,e1):=L i es[i] (Bi hi);rw[Bi hi,p1];show congrArg some e1
  .rw[Ip 'l',Ft 'l'];rfl
 let px:Paired (λ(q:Ce) (x:List Key×Addr×Value)=>q.key=.ref x.2.1/\q.val=x.2.2/\x.1=pK (pkH s.heap q.key)/\x∈xs) es.toList xs:=Jdn (by rw[Br,esz,Cf f]) λi q x m u=>by
  let(p,b,v,_,C,q3,q4,_,q6):=L i q (by rw[<-Bs];show m);let hm:=As u;rw[u]at C;cases C;exists q3,q4,by rw[q6],hm
 show Jky hd #[o,h1,h2,h3] ?_;obtain⟨g1,e1⟩:∃g1,g1=s.heap.push {cls:=.type "dict_items",data:=.fields (List.toArray [.ref a])}:=#[_,rfl]
 rw[<-e1];let k1:∀b o,s.heap.get? b=-o->g1.get? b=-o:=λb o e=>by rw[e1];show Af _ e
 let hv:g1.IsItemsView ↥s a:=#[_,by rw[e1];show Ak _ rfl,rfl,rfl]
 show Jcx (s:={s with heap:=g1}) (pk:=pkH s.heap) hh hu hv #[o,k1 _ _ h1,h2,h3] 'l' (λq m=>?_) (by rw[eps];show sm) λh' l c as fs kp hl gl pf sl pr=>?_
 .let(i,hi):=C0.1 m;let(p,b,v,_,_,kb,_,q1,C):=L i q (by rw[<-Bs];show hi);exists b,kb,by rw[C];show q1.keep λo e=>k1 _ _ e
 .let k2:∀b o,s.heap.get? b=-o->h'.get? b=-o:=λb o e=>kp b o (k1 b o e);let(N,U,Y):=Jb6 px pf;let(d,pk',rl):=Jb6 (Jdo f) U;let J:KT H d N:=Jdo rl;show Jla (s:={s with heap:=h'}) (knd:=tupleKind (mixKind X.prog X.w)) (xs:=N) (as:=as) hh (Dw 'm') (by rw[U.length_eq,<-Cf f];show z) (λ{g g' k b} x y=>?_) #[by rw[Cf pr,Cf Y],λj b x hb u=>?_] ((U.map _).nodup_iff.2 h6) gl λh'' tk kp' dd=>?_
  .let(o',its,n,w1,w2):=x;exists o',its,n,y o' w1,w2
  .let(q,m,q1,C,q3,q4):=Jbr Y u;let(b',hb',_,_,r3):=Jbr pr m;rw[hb]at hb';cases hb';exists ?_,?_
   .rw[r3];unfold Yj;rw[q1,C];rfl
   .let(o',its,n,w1,w2):=h5 x q4;exists o',its,n,k2 _ _ w1,w2
  .let(o',es',t,g1',g2',g3',g4',_,g6'):=dd;let hle:↥s<=h'.objs.size:=B3 (by rw[e1,C4];show Mu _) (E2 (Gu hl (Aq gl)));let hf:=I.hok.fresh hle;show h _ _ d (fs.map λe=>pkH s.heap e.key) hf pk' ?_ (Cg.2 sl) (I.laid (a:=h'.objs.size) (o:=.dT d) (t':=tk) (λc q m=>kp' _ _ (k2 _ _ m)) hle #[by rw[pk'.length_eq];show z,beq_eq_false_iff_ne.2 (E9 (A5 (Bu I.big hle))),N,J.keeps λc ys ec=>?_,o',es',t,g1',g2',g3',g4',g6'])
   .rw[<-J.keys,Bp];show(Je0 (λq x w=>w.2.2.1.symm) Y).symm
   .rw[Jad (Jam ec hf)];show ec
end
section
variable {X:Cx} {pins:List (Addr×Obj)} {σ:St} {H:Hp} {s:Shared} {a b:Addr} {ka kb kvs:List (List Key×V)} {ps:List Rdu.PK} {A:Bo} {E:Value->Shared->Prop}
theorem KT.mem(r:KT H kvs xs):∀x∈xs,∃c∈kvs,c.1=x.1/\RelV c.2 x.2.2:=by
 induction r with
 |nil=>intro x hx;show nomatch hx
 |@cons p q ps h d _ e=>
  intro x hx;rcases An.1 hx with rfl|hx
  .exists p,B1,d.1,d.2.2
  .let(c,f,g):=e x hx;exists c,A7 _ f,g
def J0x{Q:Value->Shared->Prop}(r:A.units+1<Dm)(I:Inv X pins σ H s)(t:Rd H a (.dT ka))(w:Rd H b (.dT kb))(y:⇑ka=⇑kb)
  (d:∀c∈ka,∃e,X3 kb c.1=-e/\∀u k,RelV c.2 u->RelV e k->Fo A.in1 s u k true)(h:Q (.bool false) s):wpAny (model X.prog X.w) A (Ef .NotEq (.ref a) (.ref b)) Q E s:=by
 let(_,f,xa,l,z):=Jcn I.hok t;let(_,g,C,n,J):=Jcn I.hok w;show neH f g 'l' (Dw r) z J (by rw[<-Cf l,<-Cf n];show y) (λx L=>?_) h;let(c,m,N,U):=l.mem x L;let(e,g1,g2):=d c m;let(w',Y,i):=RelO.some_of (v:=e) (o:=(Hl C c.1).map (·.2)) (by rw[<-g1];show n.val c.1);let(p,hp,j):=Ai.1 Y;exists p,by rw[<-N];show hp,by rw[j];show g2 _ _ U i
def J0z{Q:Value->Shared->Prop}(r:A.units+1<Dm)(I:Inv X pins σ H s)(t:Rd H a (.dT ka))(w:Rd H b (.dT kb))(y:⇑ka=⇑kb)
  (d:∀c∈ka,∃e,X3 kb c.1=-e/\∀u k,RelV c.2 u->RelV e k->Fo A.in1 s u k true)(h:Q (.bool true) s):wpAny (model X.prog X.w) A (Ef .Eq (.ref a) (.ref b)) Q E s:=by
 let(_,f,xa,l,z):=Jcn I.hok t;let(_,g,C,n,J):=Jcn I.hok w;show eqH f g 'l' (Dw r) z J (by rw[<-Cf l,<-Cf n];show y) (λx L=>?_) h;let(c,m,N,U):=l.mem x L;let(e,g1,g2):=d c m;let(w',Y,i):=RelO.some_of (v:=e) (o:=(Hl C c.1).map (·.2)) (by rw[<-g1];show n.val c.1);let(p,hp,j):=Ai.1 Y;exists p,by rw[<-N];show hp,by rw[j];show g2 _ _ U i
def Jcy{Pi:Nat->Value->Prop}{Q:Value->Shared->Prop}(hh:A.handled=none)(I:Inv X pins σ H s)
  (col:∀(A':Bo) (E':Value->Shared->Prop) (Q':List Value->Shared->Prop),A'.handled=none->(∀(h':Heap) (tk:Nat) (u:Array Value),(∀b o,s.heap.get? b=-o->h'.get? b=-o)->h'.objs.size≥↥s->W9 Pi u ⇑ps->Q' u.toList {s with heap:=h',toks:=tk})->wpAny (model X.prog X.w) A' (collect (.ref r)) Q' E' s)
  (at0:∀(i:Nat) (v:Value),Pi i v->∃p b,ps[i]? =-p/\v=.ref b/\H b=-(.tup ((pK p).map kV)))(sm:Sm ps)(hz:⇑ps<sizeLine)
  (h:∀(p:Addr) (bs:List Addr) (C:List Rdu.PK) (s':Shared),H p=none->C.Perm ps->C.Pairwise (λx y=>rkP x<=rkP y)->⇑bs=⇑C->(∀(i:Nat) (b:Addr) (q:Rdu.PK),bs[i]? =-b->C[i]? =-q->H b=-(.tup ((pK q).map kV)))->Inv X pins σ (upd H p (.lst (bs.map V.ref))) s'->Q (.ref p) s'):
  wpAny (model X.prog X.w) A (call (.builtin "sorted") [.ref r]) Q E s:=by
 let d:∀(i:Nat) (v:Value),Pi i v->∃p b,ps[i]? =-p/\v=.ref b/\H b=-(.tup ((pK p).map kV))/\IK2 X.prog X.w s.heap p b/\pkH s.heap v=p:=λi v m=>by
  let(p,b,hp,ev,hH):=at0 i v m;let(J,L):=Jrw I.hok hH;exists p,b,hp,ev,hH,J,by rw[ev];show L
 show Jei (λv=>rkP (pkH s.heap v)) (κ:=tuples' true) col hh hz (λN g1 t hl m U h2 A' E' Q' q=>?_) (λg1 t U i j x y hx hy A' Q' q=>?_) (λi j x y hx hy hij=>?_) λh' tk l c N vs' kp hl gl vl m pm sl=>?_
 .show Jkw (s:={s with heap:=g1,toks:=t}) (pk:=pkH s.heap) 'l' (λv k=>?_) q;let(i,n):=C0.1 k;let(p,b,_,f,_,g,e3):=d i v (m i v n);exists b,f,by rw[e3];show g.keep λo e=>U _ _ e
 .let(p,b,w,rfl,_,J,f):=d i x hx;let(p',b',p2,rfl,_,L,g):=d j y hy;rw[f,g,<-Jrs (sm.1 p (As w)) (sm.1 p' (As p2))]at q;show Jpm (s:={s with heap:=g1,toks:=t}) (J.keep λo e=>U _ _ e) (L.keep λo e=>U _ _ e) q
 .let(p,b,w,rfl,_,J,f):=d i x hx;let(p',b',p2,rfl,_,L,g):=d j y hy;rw[f,g];show sm.ne hij w p2
 .let hf:=I.hok.fresh hl;let evs:N.map (pkH s.heap)=ps:=G9 λi=>by
   rw[Ao]
   by_cases n:i<⇑N
   .let(p,b,w,_,_,_,f):=d i N[i] (m i _ (Ae n));rw[Ae n,w];show congrArg some f
   .rw[Ft 'l',Ft 'l'];rfl
  let z:∀v∈vs',∃b,v=.ref b/\H b=-(.tup ((pK (pkH s.heap v)).map kV)):=λv k=>by
   let(i,n):=C0.1 (pm.mem_iff.1 k);let(p,b,_,f,g,_,e3):=d i v (m i v n);exists b,f,by rw[e3];show g
  let(bs,rfl):=Jik λv h=>let#[b,e,_]:=z v h;#[b,e];let pq:=pm.map (pkH s.heap);rw[evs]at pq;let lq:=pq.length_eq;rw[Ag,Ag]at lq;show h l bs _ _ hf pq (Cg.2 sl) 's' (λi b q hb Y=>?_) (I.laid (a:=l) (o:=.lst (bs.map V.ref)) (t':=tk) (λc q Y=>kp _ _ Y) hl #[by simp;lia,bs.map Ax,c,?_,gl])
  .rw[Ao,Ao,hb]at Y;cases Y;let(b',eb,g):=z (.ref b) (Av.2 #[b,As hb,rfl]);cases eb;show g
  .let vr:∀l:List Addr,Vals (l.map V.ref) (l.map Ax):=λl=>by
    induction l with
    |nil=>show .nil
    |cons x l ih=>show .cons rfl ih
   show vr bs
def Jnp{Q:Value->Shared->Prop}(C:A.handled=none)(I:Inv X pins σ H s)(e:Rd H a (.dT kvs))(k:kvs.map (·.1)=ps.map pK)(J:Sm ps)(hz:⇑kvs<sizeLine)
  (h:∀(p:Addr) (bs:List Addr) (d:List Rdu.PK) (l:Shared),H p=none->d.Perm ps->d.Pairwise (λx y=>rkP x<=rkP y)->⇑bs=⇑d->(∀(i:Nat) (b:Addr) (q:Rdu.PK),bs[i]? =-b->d[i]? =-q->H b=-(.tup ((pK q).map kV)))->Inv X pins σ (upd H p (.lst (bs.map V.ref))) l->Q (.ref p) l):
  wpAny (model X.prog X.w) A (call (.builtin "sorted") [.ref a]) Q E s:=by
 let(z,hd,L,c,o,m,N,U,Y,h3,n,h5,h6):=Jcn I.hok e;let f:m.size=⇑kvs:=by rw[F9 n,<-Cf c]
 let pl:⇑ps=⇑kvs:=by let:=congrArg D9 k;erw[this.symm]
 show Jcy C I (λA' E' Q' g q=>Ji4 (Joi hd) g (show Raw s.heap a m N from#[o,U,Y,h3]) 'l' (by rw[f,<-pl];show q)) (λi v hv=>?_) J 'l' h;let(q,r,ev):=hv;rw[Pa n i,Ai]at r;let(x,t,rfl):=r;let u:(L.map (·.1))[i]? =some x.1:=by rw[Ao,t];rfl
 rw[c.keys,k,Ao,Ai]at u;let(p,hp,j):=u;let w:=c.at t;rw[<-j]at w;exists p,x.2.1,hp,ev,w
def Jmy{bs:List Addr}{Q:Value->Shared->Prop}(l:A.handled=none)(I:Inv X pins σ H s)(e:SqL X.K H a (bs.map V.ref))(hp:Paired (λk b=>H b=-(.tup ((pK k).map kV))) ps bs)(m:Sm ps)(hz:⇑ps<sizeLine)
  (h:∀(p:Addr) (bs:List Addr) (d:List Rdu.PK) (f:Shared),H p=none->d.Perm ps->d.Pairwise (λx y=>rkP x<=rkP y)->⇑bs=⇑d->(∀(i:Nat) (b:Addr) (q:Rdu.PK),bs[i]? =-b->d[i]? =-q->H b=-(.tup ((pK q).map kV)))->Inv X pins σ (upd H p (.lst (bs.map V.ref))) f->Q (.ref p) f):
  wpAny (model X.prog X.w) A (call (.builtin "sorted") [.ref a]) Q E s:=by
 let(c,g,p,_):=I.list e;let n:=⇑g;let C:=Cf hp;rw[Ag]at n;show Jcy (Pi:=λi v=>c[i]? =-v) l I (λJ L N t q=>collect_list (vs:=c) p.isList (q _ s.toks c.toArray (λb o e=>?_) ?_ #[by simp;lia,λi v e=>by erw[e]]) 'l') (λi v u=>?_) m hz h
 .rw[Tf _ _ _ _ (A5 (Aq e))];show Af _ e
 .simp
 .let(w,j,r):=Jbr g u;rw[Ao,Ai]at j;let(b,hb,rfl):=j;cases r;let(k,z,q):=Jbr hp hb;exists k,b,z,rfl,q
end
open PySem Rdu
inductive Tr where
 |nil
 |node (l:Tr) (k:Nat) (r:Tr)
noncomputable def Tr.has(j:Nat):Tr->Bool
 |.nil=>false
 |.node l k r=>if j<k then l.has j else if k<j then r.has j else true
noncomputable def Tr.ins(j:Nat):Tr->Option Tr
 |.nil=>-(.node .nil j .nil)
 |.node l k r=>if j<k then(match l.ins j with|some a=>-(.node a k r)|none=>none)else if k<j then(match r.ins j with|some b=>-(.node l k b)|none=>none)else none
theorem Tr.ins_has:∀{t t':Tr},t.ins j=-t'->t.has j=false/\∀i,t'.has i=(decide (i=j)||t.has i)
 |.nil,t',e=>by
  cases e;exists rfl,λi=>?_;unfold Tr.has Tr.has
  by_cases d:i<j
  .simp[d,A5 d]
  .by_cases c:j<i
   .simp[d,c,C9 c]
   .let:i=j:=by lia
    simp[this]
 |.node l k r,t',e=>by
  unfold Tr.ins at e
  by_cases d:j<k
  .rw[if_pos d]at e;cases q:l.ins j with
   |none=>rw[q]at e;cases e
   |some h=>
    rw[q]at e;cases e;let(a,b):=Tr.ins_has q;exists by unfold Tr.has;rw[if_pos d];show a,λi=>?_;unfold Tr.has
    by_cases c:i<k
    .rw[if_pos c,if_pos c];show b i
    .let:i≠j:=by lia
     simp[c,this]
  .rw[if_neg d]at e
   by_cases f:k<j
   .rw[if_pos f]at e;cases q:r.ins j with
    |none=>rw[q]at e;cases e
    |some m=>
     rw[q]at e;cases e;let(a,b):=Tr.ins_has q;exists by unfold Tr.has;rw[if_neg d,if_pos f];show a,λi=>?_;unfold Tr.has
     by_cases c:i<k
     .let:i≠j:=by lia
      simp[c,this]
     .rw[if_neg c,if_neg c]
      by_cases g:k<i
      .rw[if_pos g,if_pos g];show b i
      .simp[g]
   .rw[if_neg f]at e;cases e
def chk(f:Nat×Nat->Int):List (Nat×Nat)->Tr->Tr->Bool
 |[],_,_=>true
 |q::r,a,b=>match f q with
  |.ofNat 0=>false
  |.ofNat (k+1)=>(match a.ins k with|some c=>chk f r c b|none=>false)
  |.negSucc 0=>false
  |.negSucc (k+1)=>(match b.ins k with|some d=>chk f r a d|none=>false)
def Waj(a b:Tr):Int->Bool
 |.ofNat 0=>false
 |.ofNat (k+1)=>a.has k
 |.negSucc 0=>false
 |.negSucc (k+1)=>b.has k
theorem Jka{f:Nat×Nat->Int}:∀{l:List (Nat×Nat)} {a b:Tr},chk f l a b=true->(∀q∈l,Waj a b (f q)=false)/\(l.map f).Nodup
 |[],_,_,_=>#[(λ_ h=>nomatch h),Iw]
 |q::r,a,b,h=>by
  unfold chk at h;let step:∀o p,chk f r o p=true->Waj a b (f q)=false->(∀i,Waj o p i=false->i≠f q/\Waj a b i=false)->(∀s∈q::r,Waj a b (f s)=false)/\((q::r).map f).Nodup:=λo p c A w=>by
   let(x,y):=Jka c;exists λs hq=>?_,?_
   .rcases An.1 hq with rfl|hq
    .show A
    .show(w _ (x s hq)).2
   .rw[Bf,C3];exists λm=>?_,y;let(s,hq,e):=Av.1 m;show(w _ (x s hq)).1 e
  cases e:f q with
  |ofNat n=>
   cases n with
   |zero=>rw[e]at h;cases h
   |succ k=>
    rw[e]at h;cases g:a.ins k with
    |none=>simp only[g]at h;cases h
    |some o=>
     simp only[g]at h;let(u,v):=Tr.ins_has g;show step o b h (by rw[e];show u) λi d=>?_;rw[e]
     match i,d with
     |.ofNat 0,_=>exists(λz=>nomatch z),rfl
     |.ofNat (j+1),d=>
      have d:o.has j=false:=d;rw[v j,Sw]at d;exists λz=>?_,d.2;let t:j=k:=by injection z with z;lia
      simp[t]at d
     |.negSucc 0,_=>exists(λz=>nomatch z),rfl
     |.negSucc (j+1),d=>exists(λz=>nomatch z),d
  |negSucc n=>
   cases n with
   |zero=>rw[e]at h;cases h
   |succ k=>
    rw[e]at h;cases g:b.ins k with
    |none=>simp only[g]at h;cases h
    |some p=>
     simp only[g]at h;let(u,v):=Tr.ins_has g;show step a p h (by rw[e];show u) λi d=>?_;rw[e]
     match i,d with
     |.ofNat 0,_=>exists(λz=>nomatch z),rfl
     |.ofNat (j+1),d=>exists(λz=>nomatch z),d
     |.negSucc 0,_=>exists(λz=>by injection z with z;lia),rfl
     |.negSucc (j+1),d=>
      have d:p.has j=false:=d;rw[v j,Sw]at d;exists λz=>?_,d.2;let t:j=k:=by injection z with z;lia
      simp[t]at d
noncomputable def Wba(q:Nat×Nat):Int:=Wb (Dp [hashInt q.1,hashInt q.2])
noncomputable def small:Nat->List (Nat×Nat)
 |0=>[]
 |n+1=>(n,0)::(n,1)::(n,2)::small n
def Jlz:chk Wba (small 345) .nil .nil=true:=by decide+kernel
theorem Jds(hp:p<3):∀{m:Nat},n<m->(n,p)∈small m
 |m+1,h=>by
  unfold small
  by_cases e:n=m
  .subst e;let:p=0\/p=1\/p=2:=by lia
   rcases this with rfl|rfl|rfl<;>simp
  .let:=Jds (n:=n) hp (m:=m) 'l';simp[this]
def Jyl{a:Type}{f:a->Int}{l:List a}(h:(l.map f).Nodup){x y:a}(d:x∈l)(g:y∈l)(e:f x=f y):x=y:=by
 let(i,b,rfl):=D8.1 d;let(j,c,rfl):=D8.1 g;let q:=B7.1 (Cg.1 h);rcases Jb i j with k|k|k
 .show absurd e (q i j b c k)
 .subst k;rfl
 .show absurd e.symm (q j i c b k)
def Jqv{P:Program}{w:World}{kvs:List (List Key×V)}{ps:List (Nat×Nat)}(f:kvs.map (·.1)=ps.map λq=>pK ((q.1:Int),(q.2:Int)))(hs:∀q∈ps,q.1<345/\q.2<3)(g:ps.Nodup):Apart P w kvs:=by
 let e:(kvs.map λi=>(tupleKind (mixKind P w)).hash i.1)=ps.map Wba:=by
  let h:=congrArg (Vx λk=>(tupleKind (mixKind P w)).hash k) f;rw[Bp,Bp]at h;show h
 unfold Apart;rw[e];show Cg.2 (Jr (λ{x y} c d a b=>?_) g);show a (Jyl (Jka Jlz).2 (Jds (hs x c).2 (hs x c).1) (Jds (hs y d).2 (hs y d).1) b)
open PySem PySem.Spec PyProof.Rows Rdc Rdu
noncomputable def Itw(a:Addr)(o:Obj)(kvs:List (List Key×V)):It:=
 #[λi H=>H a=-(.frz o (.dT kvs))/\i<⇑kvs,λi H x b=>b=H/\∃k,kvs[i]? =-(k,x),λi H=>H a=-(.frz o (.dT kvs))/\⇑kvs<=i]
theorem Jwh{K:Ah}(a it:Addr){o:Obj}{kvs:List (List Key×V)}{es:Array Ce}(hz:es.size=⇑kvs)
  (n:∀(i:Nat) (e:Ce),es[i]? =-e->∃k v,kvs[i]? =-(k,v)/\RelV v e.val)(hc:o.ExactDict)(hd:o.data=.dict es ep):
  Turn P w K tg (Itw a o kvs) [it] it (λi h=>h.IsValIter it a i es.size ep)where
 mem:=by simp
 obj:=λi h st c hb=>by
  let e:c=it:=by erw[hb]
  subst e;show let#[o,e,c,d]:=st;#[o,e,λv z=>by rw[d]at z;cases z]
 keep:=λi h p st k=>let#[o,e,r]:=st;#[o,k it 's' o e,r]
 item:=by
  intro X t u x f i g s Y H E I m st y;subst t u x;let(A,hi):=y;let C:Raw s.heap a es ep:=#[o,(show Xg X.prog X.w H s.heap a (.frz o (.dT kvs))from I.hok a _ A).1,hc,hd]
  let j:i<es.size:=by omega
  let(k,v,hv,rv):=n i es[i] (Bi j);let(J,L,f2,N,Q,U):=m it 's';show Jrp true st C j λp l sb=>?_;let(o',e,c,d):=id l;exists _,rfl,Jng (s:={s with heap:=p}) e c d 'd' #[v,H,I.turned (t':=s.toks) (λb o hb e=>(sb.2 b hb).trans e) J L N Q U,rv,#[rfl,k,hv],l,λb hb=>(m b hb).1]
 done:=by
  intro X t u x f i g s Y H E I m st y;subst t u x;let(A,hi):=y;let C:Raw s.heap a es ep:=#[o,(show Xg X.prog X.w H s.heap a (.frz o (.dT kvs))from I.hok a _ A).1,hc,hd]
  let(J,L,f2,N,Q,U):=m it 's';show Jyz true (I.ok.hd f) st C (by omega) λp eb=>#[rfl,I.turned (t':=s.toks) (λb o hb e=>eb b o hb e) J L N Q U]
 self:=λ_ _ _ _ _ st h=>wpAny_pyIter_valiter st h
open PySem PySem.Spec PyProof.Rows
def HOk.thaw(x:HOk P w H h)(e:H a=-(.frz o u)):HOk P w (upd H a u) h:=λb v q=>by
 let g:∀c d,H c=-(.own d)->upd H a u c=-(.own d):=λc d z=>by rw[Jad (Jes z e (λk=>nomatch k))];show z
 let i:∀c f,H c=-(.tup f)->upd H a u c=-(.tup f):=λc f z=>by rw[Jad (Jes z e (λk=>nomatch k))];show z
 by_cases hb:b=a
 .subst hb;rw[Jae]at q;cases q;show(x b _ e).2.stay (λ_ _ _ q=>q) (λc z=>g c b z) i
 .rw[Jad hb]at q;show(x b v q).stay (λ_ _ _ q=>q) (λc z=>g c b z) i
def Inv.thaw{X:Cx}(I:Inv X pins σ H s)(e:H a=-(.frz o u))(n:∀o u,X.H₀ a≠some (.frz o u)):Inv X pins σ (upd H a u) s:=by
 let f:∀b,H b=none->b≠a:=λb q z=>by rw[z,e]at q;cases q
 let j:∀b v,H b=-v->(∀o u,v≠ .frz o u)->b≠a:=λb v q k z=>by rw[z,e]at q;cases q;show k _ _ rfl
 exists I.ok,I.os,I.bare,#[I.base.keep,I.base.slot,λb g q z r=>?_,I.base.there,λb t q=>?_,λb g v q=>?_,λb y q=>?_],I.loc,I.cell,?_,λx c q=>?_,λp hp=>?_,I.hok.thaw e,I.len
 .let:=I.base.free b g q z r;rw[Jad (f b this)];show this
 .let:=I.base.tups b t q;rw[Jad (j b _ this λ_ _ k=>nomatch k)];show this
 .let:=I.base.frzs b g v q;let hb:b≠a:=λz=>n g v (z▸q);rw[Jad hb];show this
 .let(d,h):=I.base.tbls b y q;exists d,by rw[Jad (j b _ h λ_ _ k=>nomatch k)];show h
 .rw[Jad (f _ I.free)];show I.free
 .rw[Jad (f _ (I.freeC x c q))];show I.freeC x c q
 .let(A,l,C):=I.pin p hp;exists A,by rw[Jad (f _ l)];show l,C
section
open Rdc Rdu
variable {X:Cx} {pins:List (Addr×Obj)} {σ:St} {H:Hp} {s:Shared} {tg:Expr} {a:Addr} {kvs:List (List Key×V)}
theorem KT.val_at(r:KT H kvs xs):∀{i:Nat} {x:List Key×Addr×Value},xs[i]? =-x->∃v,kvs[i]? =-(x.1,v)/\RelV v x.2.2:=by
 induction r with
 |nil=>intro i x b;simp at b
 |@cons p q e f c _ d=>
  intro i x b;cases i with
  |zero=>
   simp only[Ld,Hw]at b;subst b;exists p.2,by rw[<-c.1];rfl,c.2.2
  |succ i=>simp only[Cj]at b ⊢;show d b
def NF(X:Cx)(a:Addr):Prop:=∀o u,X.H₀ a≠some (.frz o u)
def iDw(X:Cx)(b:TE):TI:=λσ H R=>b σ H λx H1=>∃a kvs,x=.ref a/\H1 a=-(.dT kvs)/\(NF X a->∀o,R (Itw a o kvs) (upd H1 a (.frz o (.dT kvs))))
def Jt7{ap cp:Pos}(N:PE X l tl)(f:attributeBase l "values" X.env (eval l X.env)=eval l X.env)(j:(ap.endLine==cp.line)=true):PI X tg (.Call (.Attribute l "values" ap) [] [] cp) (iDw X tl):=λpins s σ H R I h=>by
 show L5 f j (thn (N pins s σ H _ I h) λv s Q=>?_);let(x,H,I,U,a,kvs,e,p,q):=Q;subst e;cases U;let(k,n,_):=Jm7 I (.inr #[kvs,.inl p]);exists"dict","dict.values",F8,R5,PySem.F.type_dict_values,k,n,Im rfl (Mr ?_);let(z,hd,Y,m,o,w,y,k,n,t,A,h5,h6):=Jvg I.hok p;show Ji5 hd #[o,k,n,t] ?_;obtain⟨g,C⟩:∃g,g=s.heap.push {cls:=.type "dict_values",data:=.fields (List.toArray [.ref a])}:=#[_,rfl]
 let r:∀(b:Addr) (o:Obj),s.heap.get? b=-o->g.get? b=-o:=λb o e=>C▸Af _ e;rw[<-C];show Jm5 (s:={s with heap:=g}) (d:=a) (es:=w) (ep:=y) #[_,C▸Ak _ rfl,rfl,rfl] #[o,r _ _ k,n,t] ?_;let E:Inv X pins σ (upd H a (.frz o (.dT kvs))) {s with heap:=g}:=I.write (x:=a) (e:=a) (h':=g) (t':=s.toks) (by rw[p];trivial) (.inl rfl) (λb u _ e=>r b u e) #[_,r _ _ k]
  #[r _ _ k,z,hd,Y,m.keeps λc ys J=>by rw[Jad (Jes J p (λz=>nomatch z))];show J,o,w,y,r _ _ k,n,t,A,h6]
 exists g.objs.size,[g.objs.size],_,_,_,rfl,E.kept (t':=s.toks) λb o e=>Af _ e,Jwh a _ (o:=o) (es:=w) (ep:=y) (by rw[F9 A,<-Cf m]) (λi e L=>?_) n t,#[_,Ak _ rfl,rfl,rfl],λc hb=>?_,q (λo u e=>by let:=I.base.frzs a o u e;rw[p]at this;cases this) o
 .rw[Pa A i,Ai]at L;let(x,hx,rfl):=L;let(v,hv,rv):=m.val_at hx;exists x.1,v,hv,rv
 .let e:c=g.objs.size:=by erw[hb]
  subst e;show E.fpOk (Aj _) (E.hok.fresh (Aj _))
def Jub(h:PE X e w):PE X e (λσ H Q=>w σ H λv H'=>∃a o u,NF X a/\H' a=-(.frz o u)/\Q v (upd H' a u)):=
 λpins s σ H Q I q=>thn (h pins s σ H _ I q) λv g b=>by let(x,H1,c,d,a,o,u,n,e,f):=b;exists x,_,c.thaw e n,d,f
end
theorem Jqp:Dy "reversed"=-(.type "reversed"):=by rfl
noncomputable def Itv(K:Ah)(l:Addr)(n:Nat):It:=
 #[λi H=>∃a x,SqL K H l a/\i<n/\a[n-1-i]? =-x,λi H x b=>b=H/\∀a,SqL K H l a->a[n-1-i]? =-x,λi _=>i=n]
def Joe{K:Ah}(l it:Addr)(n:Nat):Turn P w K tg (Itv K l n) [it] it (λi h=>h.IsRevIter it l ((n:Int)-1-i))where
 mem:=by simp
 obj:=λi h st b hb=>by
  let e:b=it:=by erw[hb]
  subst e;let(o,e,c,d):=st;exists o,e,λv z=>by rw[d]at z;cases z
 keep:=λi h j st k=>st.at λo e=>k it 's' o e
 item:=by
  intro X r t y hc i a s Y H E I m st g;subst r t y;let(xs,x,hq,hi,hx):=g;let(its,rv,p,hz):=I.list hq;let(u,hu,ru):=rv.get hx;let(A,C,f2,J,L,N):=m it 's';let Q:(n:Int)-1-i=((n-1-i:Nat):Int):=by omega
  rw[Q]at st;show wpAny_pyNext_rev_item st p.isList (x:=u) (by erw[hu]) λj f sb=>?_;let U:((n-1-i:Nat):Int)-1=(n:Int)-1-((i+1:Nat):Int):=by omega
  rw[U]at f;let I1:Inv X a Y H {s with heap:=j}:=I.turned (t':=s.toks) (λb o hb e=>(sb.2 b hb).trans e) A C J L N;let(o,e,c,d):=id f;exists u,rfl,Jng (s:={s with heap:=j}) e c d 'd' #[x,H,I1,ru,#[rfl,λys hy=>by rw[I.list_inj hy hq];show hx],f,λb hb=>(m b hb).1]
 done:=by
  intro X r t y hc i a s Y H E I m st g;subst r t y;let g:i=n:=g;subst g;let(A,C,f2,J,L,N):=m it 's';let Q:(i:Int)-1-i= -1:=by omega
  rw[Q]at st;show wpAny_pyNext_rev_end (I.ok.hd hc) st λj eb=>#[rfl,I.turned (t':=s.toks) (λb o hb e=>eb b o hb e) A C J L N]
 self:=λ_ _ _ _ _ st h=>Uy st h
def Wd7(K:Ah)(b:TA):TI:=λc H R=>b c H λd H1=>∃l a,d=[.ref l]/\SqL K H1 l a/\R (Itv K l ⇑a) H1
def Jxb{X:Cx}(k:Gl X "reversed")(m:X.mg "reversed"=none)(n:PA X [a] r)(hs:Cd [a] X.env=[(false,eval a X.env)]):
  PI X tg (.Call (.Name "reversed" p) [a] [] pos) (Wd7 X.K r):=by
 intro d s t H R I h;show T3 (Jbu I k m Jqp (Dc (thn (n pos d s t H _ I h) λC c #[E,H1,g,v,w]=>?_) (by rw[hs];rfl) rfl) 'd' 'd');let(l,i,e,x,q):=w;subst e;let(u,rfl,rx):=vals1 v;cases rx;let(f,y,z,_):=g.list x;let A:=⇑y;show PySem.call_reversed_list z.isList ?_;let j:Heap.IsRevIter (c.heap.push (Q1 l ((f.toArray.size:Int)-1))) ↥c l ((⇑i:Int)-1-((0:Nat):Int)):=#[_,Ak _ rfl,rfl,by simp[Q1,A]]
 show Uy (s:={c with heap:=c.heap.push (Q1 l ((f.toArray.size:Int)-1))}) j ?_;exists ↥c,[↥c],_,_,H1,rfl,g.kept (t':=c.toks) λb o e=>Af _ e,Joe l _ ⇑i,j,λb hb=>?_,q;let e:b=↥c:=by erw[hb]
 subst e;show g.fpOk (Aj _) (g.hok.fresh (Aj _))
end L2
namespace Nst
open PySem
section
variable {prog:Program} {w:World} {K:Type} [DecidableEq K] (knd:Ma prog w K)
inductive Refs (h:Heap):List K->List Value->Prop
 |nil:Refs h [] []
 |cons {k:K} {b:Addr} {ks:List K} {vs:List Value}:knd.is h k b->Refs h ks vs->Refs h (k::ks) (.ref b::vs)
inductive Is (h:Heap) (ks:List K) (a:Addr):Prop
 |mk (o items n) (_:h.get? a=-o) (_:o.cls=.type "tuple") (_:o.data=.seq items n) (_:Refs knd h ks items.toList):Is h ks a
noncomputable def drw(ks:List K):Nat:=(ks.map knd.draws).sum
variable {knd} {A:Bo} {E:Value->Shared->Prop} {s:Shared}
theorem Refs.inj(c:Refs knd h x vs)(a:Refs knd h y vs):x=y:=by
 induction c generalizing y with
 |nil=>cases a;rfl
 |cons d _ e=>cases a with|cons f g=>rw[knd.inj d f,e g]
theorem Refs.map(a:Refs knd h x vs)(f:∀k b,knd.is h k b->knd.is h' k b):Refs knd h' x vs:=by
 induction a with
 |nil=>show .nil
 |cons c _ d=>show .cons (f _ _ c) d
def Is.inj(f:Is knd h x a)(g:Is knd h y a):x=y:=by
 let(o,items,n,i,_,hd,j):=f;let(k,c,m,d,_,b,e):=g;obtain rfl:o=k:=Bj (i.symm.trans d);rw[hd]at b;injection b with l _;subst l;show j.inj e
def Is.keeps{h:Heap}{o:Obj}{es ep}(x:Is knd h ks a)(g:h.get? d=-o)(hd:o.data=.dict es ep)(hs:Du d h h'):Is knd h' ks a:=by
 let(i,items,n,e,hc,c,j):=x;let f:a≠d:=λq=>by
  subst q;obtain rfl:i=o:=Bj (e.symm.trans g);rw[hd]at c;show nomatch c
 exists i,items,n,(hs.2 a f).trans e,hc,c,j.map λk b q=>knd.keeps q g hd hs
def Is.typeIs(x:Is knd s.heap ks a):s.TypeIs (.ref a) "tuple":=let#[o,_,_,b,hc,_,_]:=x;#[o,b,hc]
noncomputable def hsh(knd:Ma prog w K)(ks:List K):Int:=Wb (Dp (ks.map knd.hash))
def J0o{Q:Int->Shared->Prop}(p:A.units<Dm)(c:knd.room A.in1)(m:Is knd s.heap ks a)(h:Q (hsh knd ks) {s with toks:=s.toks+(drw knd ks+1)}):wpAny (model prog w) A (pyHash (.ref a)) Q E s:=by
 let g:=m.typeIs;let(o,i,n,r,_,hd,t):=m;unfold pyHash
 first|unfold pyHashByItsType|skip
 first|show Aa (wpAny_cRoomFor_or (.inr p) ?_)|skip
 show Aa (Hb g Jc.lookup ?_);change wpAny _ _ (if(-(Vj "tuple.__hash__")==-C7)=true then _ else _) Q E s;rw[if_neg (by rw[beq_builtin_none];show Bb)];show Aa (Hb g Jc.lookup ?_);change wpAny _ _ (callSpecialIfBoundUnlessNone? (.ref a) "__hash__" _>>=_) Q E s;show Aa (wpAny_callSpecialIfBoundUnlessNone?_slot g Jc (Bq Jc g F.entry_tuple_hash ?_ (F.args_tuple_hash_1 _)));change wpAny _ _ (Jd (.ref a)>>=_) _ _ s;show Aa (Om r hd (Aa ?_));rw[<-Gn];show Ee _ (λrest (b:Array Int) j=>∃done left,ks=done++left/\Refs knd s.heap left rest/\b.toList=done.map knd.hash/\j={s with toks:=s.toks+drw knd done})
  _ ?_ ?_ _ _ #[[],ks,rfl,t,rfl,rfl]
 .rintro x rest b j ⟨done,left,rfl,l,hb,rfl⟩;cases l with
  |@cons k v d _ u f=>
   have e:({s with toks:=s.toks+drw knd done+knd.draws k}:Shared)={s with toks:=s.toks+drw knd (done++[k])}:=by simp[drw,Eh]
   show Aa (knd.pyHash (s:={s with toks:=s.toks+drw knd done}) c u ?_)
   first
    |show Ab #[done++[k],d,by simp,f,by simp[hb],e]
    |show Aa (Ab (Ab #[done++[k],d,by simp,f,by simp[hb],e]))
 .rintro b j ⟨done,left,rfl,l,hb,rfl⟩;cases l;rw[Co]at h;change wpAny _ _ (retInt (Dp b.toList)) _ _ _;rw[hb];show wpAny_ret_mkInt ?_;change wpAny _ _ (if(decide (-((2:Int)^63:Int)<=Dp (done.map knd.hash))&&decide (Dp (done.map knd.hash)<2^63))=true then _ else _) Q E _;unfold hsh Wb at h
  by_cases c:(decide (-((2:Int)^63:Int)<=Dp (done.map knd.hash))&&decide (Dp (done.map knd.hash)<2^63))=true
  .rw[if_pos c];rw[if_pos c]at h;show Ab (by simpa [Eh]using h)
  .rw[if_neg c];rw[if_neg c]at h;show Aa (D2 (Ab (by simpa [Eh]using h)))
def Jvf{P:Fin->Shared->Prop}(hr:knd.room A)(hx:Is knd s.heap x a)(hy:Is knd s.heap y b)(h:P (.done (.ret (.bool (decide (x=y))))) s):
  wpAny (model prog w) A (Builtin.«tuple.__eq__» #[[.ref a,.ref b],[]]) P E s:=by
 let N:=hy.typeIs;let(oa,C,na,Q,_,U,Y):=hx;let(ob,H,nb,hob,_,hdb,hib):=hy;change wpAny _ _ (Rx (.ref b) (.type "tuple")>>=_) _ _ s;show Aa (Ed N Js ?_);simp only[D1,Ba,if_false];show Aa (Om Q U (Aa (Om hob hdb (Aa ?_))));show Ee _
  (λrest r I=>r.1=none/\I=s/\∃J L d e,rest=List.zip d e/\Refs knd s.heap J d/\Refs knd s.heap L e/\decide (J=L)=decide (x=y)/\(⇑d==⇑e)=(C.size==H.size))
  _ ?_ ?_ _ _ #[rfl,rfl,x,y,C.toList,H.toList,rfl,Y,hib,rfl,by simp]
 .rintro⟨u,v⟩ rest r I ⟨i,rfl,J,L,d,e,k,j,g,c,f⟩;cases j with
  |nil=>simp at k
  |@cons k1 u' l m h1 n=>
   cases g with
   |nil=>simp at k
   |@cons k2 v' o p h2 t=>
    simp only[Nd,Nq,Mj]at k;obtain⟨⟨rfl,rfl⟩,rfl⟩:=k;show Aa (knd.eqBool hr h1 h2 ?_)
    by_cases hk:k1=k2
    .subst hk;rw[decide_eq_true rfl];simp only[D1,Ba,if_false];show Ab #[rfl,rfl,l,o,m,p,rfl,n,t,?_,by erw[f]];rw[<-c]
     by_cases hxy:l=o<;>simp[hxy]
    .rw[decide_eq_false hk];simp only[P7,if_true];let hf:decide (x=y)=false:=by rw[<-c];simp[hk]
     rw[hf]at h;show Aa (Ab (Ab (Ab h)))
 .rintro⟨r1,r2⟩ I ⟨i,rfl,J,L,d,e,k,j,g,c,f⟩;simp only at i;subst i;show Ab ?_;let z:(C.size==H.size)=decide (x=y):=by
   rw[<-c,<-f];cases j with
   |nil=>cases g<;>simp
   |cons _ _=>
    cases g with
    |nil=>simp
    |cons _ _=>simp at k
  change P (.done (.ret (.bool (C.size==H.size)))) I;rw[z];show h
def eq_{Q:Bool->Shared->Prop}(g:A.units<Dm)(i:knd.room A.in1)(d:Is knd s.heap x a)(f:Is knd s.heap y b)(h:Q (decide (x=y)) s):wpAny (model prog w) A (eqBool (.ref a) (.ref b)) Q E s:=by
 unfold eqBool
 try with_reducible show Bt ?_
 change wpAny _ _ (if(Ax a==Ax b)=true then _ else _) Q E s
 by_cases c:(Ax a==Ax b)=true
 .rw[if_pos c];let e:a=b:=by let:=eq_of_beq c;injection this
  subst e;obtain rfl:=d.inj f;show Aa (D2 (Ab (by erw[h])))
 .rw[if_neg c];show Aa (Hj (op:=.Eq) d.typeIs f.typeIs Kc
   (Bq Kc d.typeIs F.entry_tuple_eq (Jvf i d f #[_,rfl,(λe=>nomatch e),Es h]) (F.args_tuple_eq_2 _ _)) g)
def Jwz{Q:Bool->Shared->Prop}(j:∀{A:Bo} {E:Value->Shared->Prop} {s:Shared} {k:K} {b:Addr} {Q:Bool->Shared->Prop},knd.is s.heap k b->Q true s->wpAny (model prog w) A (Qb 7 (.ref b)) Q E s)
  (f:Is knd s.heap ks a)(h:Q true s):wpAny (model prog w) A (Qb 8 (.ref a)) Q E s:=by
 let g:=f.typeIs;let(o,c,n,l,_,hd,m):=f;unfold Qb;show Aa (Hb g Kc.lookup ?_);change wpAny _ _ (Rx (.ref a) (.type "tuple")>>=_) _ _ s;show Aa (Ed g Js ?_);simp only[D1,Ba,if_false];show Aa (E6 l hd (Aa ?_));change wpAny _ _ (forIn c _ _) _ _ s;rw[<-Gn];show Ee _ (λrest r d=>r.1=none/\d=s/\∃i,Refs knd s.heap i rest) _ ?_ ?_ _ _ #[rfl,rfl,ks,m]
 .rintro v rest r d ⟨e,rfl,i,p⟩;cases p with
  |cons t u=>
   show Aa (j t ?_);simp only[D1,Ba,if_false];show Ab #[rfl,rfl,_,u]
 .rintro⟨x,y⟩ d ⟨e,rfl,_⟩;simp only at e;subst e;show Ab h
end
section
variable {prog:Program} {w:World} {K:Type} [DecidableEq K] {knd:KeyKind prog w K} {A:Bo} {E:Value->Shared->Prop} {s:Shared}
def Jw0{Q:Bool->Shared->Prop}(g:Wn knd s.heap ks a)(h:Q true s):wpAny (model prog w) A (Qb 7 (.ref a)) Q E s:=by
 let i:=g.typeIs;let(o,c,n,j,_,hd,k):=g;unfold Qb;show Aa (Hb i Kc.lookup ?_);change wpAny _ _ (Rx (.ref a) (.type "tuple")>>=_) _ _ s;show Aa (Ed i Js ?_);simp only[D1,Ba,if_false];show Aa (E6 j hd (Aa ?_));change wpAny _ _ (forIn c _ _) _ _ s;rw[<-Gn];show Ee _ (λrest r d=>r.1=none/\d=s/\∀v∈rest,Ry v=true) _ ?_ ?_ _ _ #[rfl,rfl,k.byValue]
 .rintro v rest r d ⟨e,rfl,b⟩;rw[eqIsQuiet_byValue _ (b v B1)];show Aa (Ab ?_);simp only[D1,Ba,if_false];show Ab #[rfl,rfl,λu f=>b u (A7 _ f)]
 .rintro⟨l,m⟩ d ⟨e,rfl,_⟩;simp only at e;subst e;show Ab h
end
def Jiu{prog:Program}{w:World}{K:Type}[DecidableEq K](knd:KeyKind prog w K):Ma prog w (List (List K))where
 is:=Is (tupleKind knd)
 hash:=hsh (tupleKind knd)
 draws:=λe=>drw (tupleKind knd) e+1
 room:=λA=>A.units<Dm/\(tupleKind knd).room A.in1
 inj:=λb c=>b.inj c
 keeps:=λx f hd g=>x.keeps f hd g
 pyHash:=λa d h=>J0o a.1 a.2 d h
 eqBool:=λa b c h=>eq_ a.1 a.2 b c h
 quiet:=λd h=>Jwz (λq h=>Jw0 q h) d h
end Nst
namespace L2
open PySem PySem.Spec PyProof.Rows Nst
abbrev RK:=List (List Key)
def Rg(a:Addr)(xs:List (RK×Addr×Value)):HO:=.ext λP w h=>(a==sysModules)=false/\(xs.map (·.1)).Nodup/\∃o b c,h.get? a=-o/\o.ExactDict/\o.data=.dict b c/\b.toList=xs.map (entryOfKey (Jiu (mixKind P w)))
inductive Yg (K:Ah) (H:Hp) (r:RK) (a:Addr):Prop
 |mk (bs:List Addr) (_:SqT K H a (bs.map V.ref)) (_:Paired (λk b=>SqT K H b (k.map kV)) r bs):Yg K H r a
section
variable {X:Cx} {pins:List (Addr×Obj)} {σ:St} {H:Hp} {s:Shared} {a b:Addr} {r:RK} {xs:List (RK×Addr×Value)} {A:Bo} {E:Value->Shared->Prop}
def Juy(I:Inv X pins σ H s)(x:Yg X.K H r a):(Jiu (mixKind X.prog X.w)).is s.heap r a:=by
 let(bs,e,q):=x;obtain⟨c,d,⟨o,f,g,n,h⟩,_⟩:=I.tuple e;exists o,c.toArray,n,f,g,h,?_;let go:∀{r:RK} {bs:List Addr} {c:List Value},Paired (λk b=>SqT X.K H b (k.map kV)) r bs->Vals (bs.map V.ref) c->Refs (tupleKind (mixKind X.prog X.w)) s.heap r c:=by
  intro r bs c q
  induction q generalizing c with
  |nil=>intro v;cases v;show .nil
  |cons i _ j=>
   intro v;cases v with
   |cons l m=>
    cases l;obtain⟨c,p,⟨o,f,g,n,h⟩,_⟩:=I.tuple i;show .cons #[o,c.toArray,n,f,g,h,by erw[Jd1 p]] (j m)
 erw[go q d]
def Jwt(I:Inv X pins σ H s)(e:H a=-(Rg a xs))(c:∀x∈xs,Yg X.K H x.1 x.2.1):(a==sysModules)=false/\s.heap.DictOfH (Jiu (mixKind X.prog X.w)) a xs:=by
 obtain⟨⟨d,f,o,g,h,i,j,k,l⟩,_⟩:=(show Xg X.prog X.w H s.heap a (Rg a xs)from I.hok a _ e)
 exists d,o,g,h,i,j,k,l,λx m=>Juy I (c x m),f
def Jwr(c:A.units+2<Dm):(Jiu (mixKind P w)).room A.in1:=by
 let d:A.in1.units<=A.units+1:=by simp[Around.in1,Around.units]<;>omega
 exists by omega,Dw (by omega)
def Jzx(I:Inv X pins σ H s)(e:H a=-(Rg a xs)):s.TypeIs (.ref a) "dict":=by
 obtain⟨⟨f,g,o,h,i,c,d,j,k⟩,_⟩:=(show Xg X.prog X.w H s.heap a (Rg a xs)from I.hok a _ e)
 exists o,c,d.1
def Jy9{p:Addr×Value}{Q:Value->Shared->Prop}(d:A.units+2<Dm)(I:Inv X pins σ H s)(e:H a=-(Rg a xs))(f:∀x∈xs,Yg X.K H x.1 x.2.1)(g:Yg X.K H r b)(hp:Hl xs r=-p)
  (h:∀c,Inv X pins σ H c->Q p.2 c):wpAny (model X.prog X.w) A (Mq (.ref a) (.ref b)) Q E s:=by
 let(hd,dd):=Jwt I e f;let i:(Jiu (mixKind X.prog X.w)).room A.in1:=Jwr d;show V6 i (Juy I g) dd hp (h _ (I.tok _))
def Jws{h:Heap}{o:Obj}{es:Array Ce}(hd:(a==sysModules)=false)(d:(xs.map (·.1)).Nodup)(c:h.get? a=-o)(e:o.ExactDict)(f:o.data=.dict es ep)(g:es.toList=xs.map (entryOfKey (Jiu (mixKind P w)))):Xg P w H h a (Rg a xs):=
 #[#[hd,d,o,es,ep,c,e,f,g],#[o,c],λg1 g2 #[i,j,o,es,ep,l,m] k=>#[i,j,o,es,ep,k o l,m]]
def Jy6{Q:Unit->Shared->Prop}(g:A.units+2<Dm)(I:Inv X pins σ H s)(e:H a=-(Rg a xs))(i:∀x∈xs,Yg X.K H x.1 x.2.1)(j:Yg X.K H r b)(hz:⇑xs<sizeLine)
  (h:∀d,Inv X pins σ (upd H a (Rg a (Rf xs r b u))) d->Q () d):wpAny (model X.prog X.w) A (W2 (.ref a) (.ref b) u) Q E s:=by
 let(hd,dd):=Jwt I e i;let k:(Jiu (mixKind X.prog X.w)).room A.in1:=Jwr g;show V5 (hsz:=E2 hz) k (Juy I j) dd λt c l=>h _ ?_;let(q,v,w,f,m,n,o,_,p):=c;show Jef I (by rw[e];show Fp) l #[q,f] (Jws hd p f m n o)
def Jpb:PE X (.Dict [] [] pos) (λ_ H Q=>∀p,H p=none->Q (.ref p) (upd H p (Rg p []))):=λpins s σ H Q I h=>
 P9 #[.ref ↥s,_,I.laid (a:=↥s) (o:=Rg ↥s []) (t':=s.toks) (λ_ _ q=>Af _ q) (Aj _) (Jws (beq_eq_false_iff_ne.2 (E9 (A5 I.big))) Iw (Ak _ rfl) #[rfl,rfl,rfl] rfl rfl),rfl,h _ (I.hok.fresh (Aj _))]
end
end L2
namespace LZ
open PySem PyProof.Rows
section
variable {prog:Program} {w:World} {A:Bo} {E:Value->Shared->Prop} {s:Shared}
def item{Q:Value->Shared->Prop}(D:Nl z a b p q u v)(hz:L9 s.heap z a b .none)(ha:Hu s.heap a (.ref p) (.ref q))(hb:Hu s.heap b c0 I)
  (h1:s.heap.IsListIter p u m)(h2:s.heap.IsTupleIter q v n)(hu:s.heap.IsList u us)(hv:s.heap.IsTuple v vs)(hx:us[m]? =-x)(hy:vs[n]? =-y)
  (k:∀h',L9 h' z a b (rawInt ↥s)->Hu h' b x y->h'.IsListIter p u (m+1)->h'.IsTupleIter q v (n+1)->Hu h' ↥s x y->h'.objs.size=↥s+1->
   (∀c o,c≠z->c≠b->c≠p->c≠q->s.heap.get? c=-o->h'.get? c=-o)->Q (.ref ↥s) {s with heap:=h'}):
  wpAny (model prog w) A (Builtin.«zip.__next__» #[[.ref z],[]]) (λfin s'=>∃v,fin=.done (.ret v)/\Q v s') E s:=by
 change wpAny _ A (Tq (.ref z) 2>>=_) _ _ s;show Aa (Cv hz rfl (x:=.bool false) rfl (?_:wpAny _ A (Tq (.ref z) 3>>=_) _ _ s));show Aa (Cv hz rfl (x:=.ref a) rfl (Aa (E6 ha rfl (?_:wpAny _ A (Cy (.ref z)>>=_) _ _ s))));show Aa (m:=Cy (.ref z)) ?_;unfold Cy;show Aa (Cv hz rfl (x:=.none) rfl (Ab ?_));simp only[if_true];show Aa (D2 (Aa (Cv hz rfl (x:=.ref b) rfl (Aa (Df hz 's' λg1 J d=>?_)))))
 replace J:L9 g1 z a b .ellipsis:=J
 show Aa ?_;simp only[Oi,Vd,Jt,Vy];show Aa (Aa (Sy ?_));change wpAny _ _ (Dj (.ref p)>>=_) _ _ _;show Aa (wpAny_nextOf_list_item (h1.extBut d.extBut D.i1z) (hu.extBut d.extBut D.l1z) hx λg2 r2 g=>Ab ?_);let b2:Hu g2 b c0 I:=g.extBut _ _ D.TOi1 (d.extBut _ _ D.TOz hb);show Aa (E6 b2 rfl (Aa (Uw b2 λg3 L h=>?_)))
 replace L:Hu g3 b x I:=L
 show Aa (Qm (Ab ?_));show Aa (Aa (Sy ?_));change wpAny _ _ (Dj (.ref q)>>=_) _ _ _;show Aa (nx (((h2.extBut d.extBut D.i2z).extBut g.extBut D.i12.symm).extBut h.extBut D.TOi2.symm) (((hv.extBut d.extBut D.l2z).extBut g.extBut D.l2i1).extBut h.extBut D.l2TO) hy λg4 r4 i=>Ab ?_);let b4:Hu g4 b x I:=i.extBut _ _ D.TOi2 L;show Aa (E6 b4 rfl (Aa (Uw b4 λg5 r j=>?_)))
 replace r:Hu g5 b x y:=r
 show Aa (Qm (Ab (Ab (Aa (E6 r rfl (Aa (Rt ?_)))))));let sz:g5.objs.size=↥s:=by rw[j.1,i.1,h.1,g.1,d.1]
 let z5:L9 g5 z a b .ellipsis:=j.extBut _ _ D.TOz.symm (i.extBut _ _ D.i2z.symm (h.extBut _ _ D.TOz.symm (g.extBut _ _ D.i1z.symm J)));let k5:∀c o,c≠z->c≠b->c≠p->c≠q->s.heap.get? c=-o->g5.get? c=-o:=λc o f t N U e=>j.extBut _ _ t (i.extBut _ _ U (h.extBut _ _ t (g.extBut _ _ N (d.extBut _ _ f e))));let r5:g5.IsListIter p u (m+1):=((r2.extBut h.extBut D.TOi1.symm).extBut i.extBut D.i12).extBut j.extBut D.TOi1.symm;let w5:g5.IsTupleIter q v (n+1):=r4.extBut j.extBut D.TOi2.symm;let lz:z<g5.objs.size:=Aq z5;change wpAny _ _ (Kh (.ref z) (.ref g5.objs.size)>>=_) _ _ _;show Aa ?_;unfold Kh;let z6:L9 (g5.push {cls:=.type "tuple",data:=.seq (List.toArray [x,y])}) z a b .ellipsis:=Af _ z5;show Aa (Df z6 's' λg7 Y t7=>?_)
 replace Y:L9 g7 z a b (rawInt g5.objs.size):=Y
 show Df Y 's' λl C t8=>?_
 replace C:L9 l z a b (rawInt g5.objs.size):=C
 let H:∀c o,c≠z->g5.get? c=-o->l.get? c=-o:=λc o f e=>t8.extBut _ _ f (t7.extBut _ _ f (Af _ e));let n8:Hu l g5.objs.size x y:=t8.extBut _ _ (C9 lz) (t7.extBut _ _ (C9 lz) (Ak _ rfl));let s8:l.objs.size=g5.objs.size+1:=by rw[t8.1,t7.1,C4]
 rw[sz]at C n8 s8;show Ab #[_,rfl,(?_:Q (.ref g5.objs.size) _)];rw[sz];show k l C (H _ _ D.TOz r) (r5.at λo e=>H _ o D.i1z e) (w5.at λo e=>H _ o D.i2z e) n8 s8 λc o f t N U e=>H c o f (k5 c o f t N U e)
def last{Q:Fin->Shared->Prop}(t:A.handled=none)(D:Nl z a b p q u v)(hz:L9 s.heap z a b .none)(y:Hu s.heap a (.ref p) (.ref q))
  (C:s.heap.IsListIter p u m)(H:s.heap.IsList u us)(I:us[m]? =none)
  (k:∀h' e,(∀c o,c≠z->c≠b->c≠p->c≠q->s.heap.get? c=-o->h'.get? c=-o)->(∃o,h'.get? e=-o/\o.cls=.type "StopIteration")->E (.ref e) {s with heap:=h'}):
  wpAny (model prog w) A (Builtin.«zip.__next__» #[[.ref z],[]]) Q E s:=by
 change wpAny _ A (Tq (.ref z) 2>>=_) _ _ s;show Aa (Cv hz rfl (x:=.bool false) rfl (?_:wpAny _ A (Tq (.ref z) 3>>=_) _ _ s));show Aa (Cv hz rfl (x:=.ref a) rfl (Aa (E6 y rfl (?_:wpAny _ A (Cy (.ref z)>>=_) _ _ s))));show Aa (m:=Cy (.ref z)) ?_;unfold Cy;show Aa (Cv hz rfl (x:=.none) rfl (Ab ?_));simp only[if_true];show Aa (D2 (Aa (Cv hz rfl (x:=.ref b) rfl (Aa (Df hz 's' λg1 d f=>?_)))))
 replace d:L9 g1 z a b .ellipsis:=d
 show Aa ?_;simp only[Oi,Vd,Jt,Vy];show Aa (Aa (Sy ?_));change wpAny _ _ (Dj (.ref p)>>=_) _ _ _;show Aa (wpAny_nextOf_list_end t (C.extBut f.extBut D.i1z) (H.extBut f.extBut D.l1z) I λg2 e h #[J,g,i]=>?_);let j:L9 g2 z a b .ellipsis:=h _ _ D.i1z.symm d;let L:e≠z:=λr=>by subst r;rw[j]at g;cases g;simp at i
 show Df j 's' λg3 _ l=>k g3 e (λc o n _ N _ r=>l.extBut _ _ n (h _ _ N (f.extBut _ _ n r))) #[J,l.extBut _ _ L g,i]
def go{Q:Option Value->Shared->Prop}(D:Nl z a b p q u v)(hz:L9 s.heap z a b .none)(e:Hu s.heap a (.ref p) (.ref q))(hb:Hu s.heap b N U)
  (f:s.heap.IsListIter p u m)(g:s.heap.IsTupleIter q v n)(h:s.heap.IsList u us)(i:s.heap.IsTuple v vs)(j:us[m]? =-x)(l:vs[n]? =-y)
  (k:∀h',L9 h' z a b (rawInt ↥s)->Hu h' b x y->h'.IsListIter p u (m+1)->h'.IsTupleIter q v (n+1)->Hu h' ↥s x y->h'.objs.size=↥s+1->
   (∀c o,c≠z->c≠b->c≠p->c≠q->s.heap.get? c=-o->h'.get? c=-o)->Q (-(.ref ↥s)) {s with heap:=h'}):wpAny (model prog w) A (pyNext (.ref z)) Q E s:=by
 let d:s.TypeIs (.ref z) "zip":=#[_,hz,rfl]
 unfold pyNext;show Aa (Fv (B9 (name:=Ac "__next__") d Mh (Bq Mh d Wp (item D hz e hb f g h i j l λh' r t C H I J L=>Ab (k h' r t C H I J L)) (Vm _))))
def stop{Q:Option Value->Shared->Prop}(f:A.handled=none)(D:Nl z a b p q u v)(hz:L9 s.heap z a b .none)(g:Hu s.heap a (.ref p) (.ref q))
  (h:s.heap.IsListIter p u m)(i:s.heap.IsList u us)(j:us[m]? =none)
  (k:∀h',(∀c o,c≠z->c≠b->c≠p->c≠q->s.heap.get? c=-o->h'.get? c=-o)->Q none {s with heap:=h'}):wpAny (model prog w) A (pyNext (.ref z)) Q E s:=by
 let d:s.TypeIs (.ref z) "zip":=#[_,hz,rfl]
 unfold pyNext;show Aa (Fv (B9 (name:=Ac "__next__") d Mh (Bq Mh d Wp (last f D hz g h i j λh' e l #[o,n,r]=>?_) (Vm _))));show Aa (Ed (T:="StopIteration") (b:=true) #[o,n,r] Rv (Ab (k _ l)))
end
noncomputable abbrev g1(h:Heap)(u:Addr):Heap:=h.push {cls:=.type "list_iterator",data:=.fields (List.toArray [.ref u,.int 0 0])}
abbrev g2(h:Heap)(u v:Addr):Heap:=(g1 h u).push {cls:=.type "tuple_iterator",data:=.fields (List.toArray [.ref v,.int 0 0])}
abbrev g3(h:Heap)(u v:Addr):Heap:=(g2 h u v).push {cls:=.type "tuple",data:=.seq (List.toArray [.ref h.objs.size,.ref (g1 h u).objs.size])}
abbrev g4(h:Heap)(u v:Addr):Heap:=(g3 h u v).push {cls:=.type "tuple",data:=.seq (List.toArray [.none,.none])}
abbrev g5(h:Heap)(u v:Addr):Heap:=(g4 h u v).push {cls:=.type "zip",data:=.fields (List.toArray [.none,.bool false,.bool false,.ref (g2 h u v).objs.size,.ref (g3 h u v).objs.size])}
def made(u v:Addr)(us vs:Array Value):Meets (Builtin.«zip.__new__» #[[.type "zip",.ref u,.ref v],[]]) (λ_ R s=>s.heap.IsList u us/\s.heap.IsTuple v vs/\R (.ok (.ret (.ref (g4 s.heap u v).objs.size))) {s with heap:=g5 s.heap u v}):=
 .of_wp λa w A R s #[b,c,h]=>by
  let(hp,g,d,tk,os):=s;let i:=sub_zip;let e:Heap.IsList (Rh #[hp,g,d,tk,os]) u us:=b;let f:Xa (Rh #[hp.push {cls:=.type "list_iterator",data:=.fields (List.toArray [.ref u,.int 0 0])},g,d,tk,os]) v vs:=Heap.IsTuple.push c _
  wp_walk using Hk e,Oo f
  exists _,rfl,h
def new{E:Value->Shared->Prop}{s:Shared}{Q:Value->Shared->Prop}(p:s.heap.IsList u us)(t:s.heap.IsTuple v vs)
  (k:∀h',L9 h' (↥s+4) (↥s+2) (↥s+3) .none->Hu h' (↥s+2) (.ref ↥s) (.ref (↥s+1))->Hu h' (↥s+3) .none .none->
   h'.IsListIter ↥s u 0->h'.IsTupleIter (↥s+1) v 0->h'.objs.size=↥s+5->(∀c o,s.heap.get? c=-o->h'.get? c=-o)->Q (.ref (↥s+4)) {s with heap:=h'}):
  wpAny (model prog w) A (call (.type "zip") [.ref u,.ref v]) Q E s:=by
 show callType_new F.called_zip 'd' (F.typeCall_zip_2 _ _) (F.newCall_zip_2 _ _) (λb=>F.args_object_init_3 b _ _) F.entry_zip_new (made u v us vs) #[p,t,?_];let d:(g1 s.heap u).objs.size=↥s+1:=C4 ..;let f:(g2 s.heap u v).objs.size=↥s+2:=by rw[C4,d]
 let g:(g3 s.heap u v).objs.size=↥s+3:=by rw[C4,f]
 let i:(g4 s.heap u v).objs.size=↥s+4:=by rw[C4,g]
 let x:(g5 s.heap u v).objs.size=↥s+5:=by rw[C4,i]
 let a:∀{h:Heap} {c:Addr} {o y:Fy},h.get? c=-o->(h.push y).get? c=-o:=λe=>Af _ e;let j:(g5 s.heap u v).get? (g4 s.heap u v).objs.size=-_:=Ak _ rfl;let l:(g5 s.heap u v).get? (g3 s.heap u v).objs.size=-_:=a (Ak _ rfl);let m:(g5 s.heap u v).get? (g2 s.heap u v).objs.size=-_:=a (a (Ak _ rfl));let n:(g5 s.heap u v).get? (g1 s.heap u).objs.size=-_:=a (a (a (Ak _ rfl)));let z:(g5 s.heap u v).get? ↥s=-_:=a (a (a (a (Ak _ rfl))));change _/\_;rw[f,g,i]at j;rw[d,f]at m;rw[g]at l;rw[d]at n;rw[i];exists#[_,j,rfl],k _ j m l #[_,z,rfl,rfl] #[_,n,rfl,rfl] x λc o r=>a (a (a (a (a r))))
end LZ
namespace L2
open PySem PySem.Spec PyProof.Rows
def Izz(K:Ah)(u v:Addr)(ys:List V):It:=
 #[λi H=>∃a x y,SqL K H u a/\SqT K H v ys/\a[i]? =-x/\ys[i]? =-y,
  λi H w b=>∃p x y,H p=none/\w=.ref p/\b=upd H p (.tup [x,y])/\(∀a,SqL K H u a->a[i]? =-x)/\ys[i]? =-y,
  λi H=>∃a,SqL K H u a/\⇑a<=i]
def Wc4(z a b p q u v:Addr)(i:Nat)(h:Heap):Prop:=L9 h z a b .none/\Hu h a (.ref p) (.ref q)/\(∃c d,Hu h b c d)/\h.IsListIter p u i/\h.IsTupleIter q v i
def Jlj{P:Program}{w:World}{K:Ah}{A:List Expr}{x1:Nat}{tp:Pos}(z a b p q u v:Addr)(ys:List V)(ap:Nl z a b p q u v):
  Turn P w K (.Tuple A x1 tp) (Izz K u v ys) [z,a,b,p,q] z (Wc4 z a b p q u v)where
 mem:=by simp
 obj:=λi h st c hc=>by
  obtain⟨g,f,⟨_,_,hb⟩,⟨o1,U,c1,d1⟩,⟨o2,Y,c2,d2⟩⟩:=st;simp only[An,Bg,or_false]at hc;rcases hc with rfl|rfl|rfl|rfl|rfl
  .exists _,g,λv q=>by cases q
  .exists _,f,λv q=>by cases q
  .exists _,hb,λv q=>by cases q
  .exists o1,U,λv q=>by rw[d1]at q;cases q
  .exists o2,Y,λv q=>by rw[d2]at q;cases q
 keep:=λi h h' st k=>by
  obtain⟨g,f,⟨_,_,hb⟩,h1,t⟩:=st;exists k z 's' _ g,k a 's' _ f,#[_,_,k b 's' _ hb],h1.at λo e=>k p 's' o e,t.at λo e=>k q 's' o e
 item:=by
  intro X hP hw hK hc i d s σ H E I hf st hg;subst hP hw hK;let(xs,x,y,j,hq2,hx,hy):=hg;let ho:∀c∈[z,a,b,p,q],∃o,s.heap.get? c=-o:=λc hc=>by
   obtain⟨g,f,⟨_,_,hb⟩,⟨o1,U,_⟩,⟨o2,Y,_⟩⟩:=st;simp only[An,Bg,or_false]at hc;rcases hc with rfl|rfl|rfl|rfl|rfl
   .exists _,g
   .exists _,f
   .exists _,hb
   .exists _,U
   .exists _,Y
  obtain⟨g,f,⟨_,_,hb⟩,hi1,C⟩:=st;let(J,n,p1,_):=I.list j;let(its2,rv2,p2,_):=I.tuple hq2;let(l,hm1,ru):=n.get hx;let(m,hm2,rv):=rv2.get hy;show LZ.go ap g f hb hi1 C p1.isList p2 (x:=l) (y:=m) (by erw[hm1]) (by erw[hm2]) λh' z1 to1 j1 j2 pr sz Q=>?_;exists _,rfl,wpAny_letOwnedTupleGo_zip (s:={s with heap:=h'}) z1 λt z2 L=>?_;let hf0:H ↥s=none:=I.hok.fresh (Aj _);let I0:Inv X d σ (upd H ↥s (.tup [x,y])) {s with heap:=s.heap.push {cls:=.type "tuple",data:=.seq (List.toArray [l,m])},toks:=s.toks}:=
   I.laid (t':=s.toks) (λb o e=>Af _ e) (Aj _) #[by change 2<=sizeLine;decide,[l,m],.cons ru (.cons rv .nil),#[_,Ak _ rfl,rfl,_,rfl]]
  let neT:∀c∈[z,a,b,p,q],c≠↥s:=λc hc e=>by
   let(o,r):=ho c hc;show absurd (Aq r) (by rw[e];show Fg _)
  let N:∀c∈[z,a,b,p,q],Yq X d (upd H ↥s (.tup [x,y])) c:=λc hc=>by
   let(f0,f1,f2,f3,f4,f5):=hf c hc;exists by rw[Jad (neT c hc)];show f0,f1,f2,f3,f4,f5
  let I1:Inv X d σ (upd H ↥s (.tup [x,y])) {s with heap:=t,toks:=s.toks}:=by
   show Inv.turnedL (s:={s with heap:=s.heap.push {cls:=.type "tuple",data:=.seq (List.toArray [l,m])},toks:=s.toks}) (h':=t) (t':=s.toks) (fp:=[z,a,b,p,q]) I0 (λc o hc e=>?_) N
   replace e:(s.heap.push {cls:=.type "tuple",data:=.seq (List.toArray [l,m])}).get? c=-o:=e
   simp only[An,Bg,or_false,not_or]at hc;let(b1,b2,b3,b4,b5):=hc;rw[L.2 c b1]
   by_cases hT:c=↥s
   .subst hT;let:(s.heap.push {cls:=.type "tuple",data:=.seq (List.toArray [l,m])}).get? ↥s=-{cls:=.type "tuple",data:=.seq (List.toArray [l,m])}:=Ak _ rfl;rw[this]at e;cases e;show pr
   .let e':s.heap.get? c=-o:=by
     rw[Uc _ _ _ hT]at e;show e
    show Q c o b1 b3 b4 b5 e'
  exists .ref ↥s,_,I1,rfl,#[_,x,y,hf0,rfl,rfl,λzs hz'=>by rw[I.list_inj hz' j];show hx,hy],#[z2,?_,#[l,m,?_],?_,?_],λc hc=>(N c hc).1
  .change t.get? a=_;rw[L.2 a ap.TIz];show Q a _ ap.TIz ap.TITO ap.TIi1 ap.TIi2 f
  .change t.get? b=_;rw[L.2 b ap.TOz];show to1
  .show j1.at λo e=>(L.2 p ap.i1z).trans e
  .show j2.at λo e=>(L.2 q ap.i2z).trans e
 done:=by
  intro X hP hw hK hc i d s σ H E I hf st hg;subst hP hw hK;let(xs,j,hl):=hg;obtain⟨g,f,⟨_,_,hb⟩,hi1,C⟩:=st;let(J,n,p1,_):=I.list j;let l1:=⇑n;show LZ.stop (I.ok.hd hc) ap g f hi1 p1.isList 'm' λh' Q=>#[rfl,I.turnedL (t':=s.toks) (fp:=[z,a,b,p,q]) (λc o hc e=>?_) hf]
  simp only[An,Bg,or_false,not_or]at hc;show Q c o hc.1 hc.2.2.1 hc.2.2.2.1 hc.2.2.2.2 e
 self:=λ_ _ _ _ _ st h=>wpAny_pyIter_zip st.1 h
def Wco(K:Ah)(b:TA):TI:=λc H R=>b c H λd H1=>∃u v e a,d=[.ref u,.ref v]/\SqL K H1 u e/\SqT K H1 v a/\R (Izz K u v a) H1
theorem boot_zip:Dy "zip"=-(.type "zip"):=by rfl
def Jle{n a b:Nat}(c:a<n)(d:b<n):Nl (n+4) (n+2) (n+3) n (n+1) a b:=by
 constructor<;>(intro e;replace e:@Eq Nat _ _:=e;lia)
theorem Jt6{X:Cx}{a b:Expr}{w:TA}{p pos:Pos}{d:List Expr}{E:Nat}{J:Pos}(L:Gl X "zip")(N:X.mg "zip"=none)(Q:PA X [a,b] w)(hs:Cd [a,b] X.env=[(false,eval a X.env),(false,eval b X.env)])(f:Cd [b] X.env=[(false,eval b X.env)]):
  PI X (.Tuple d E J) (.Call (.Name "zip" p) [a,b] [] pos) (Wco X.K w):=by
 intro g s U H R I h;show T3 (Jbu I L N boot_zip (Dc (thn (Q pos g s U H _ I h) λus c #[vs,H1,i,Y,q1]=>?_) (by rw[hs,f]) (by rw[f];rfl)) 'd' 'd');let(u,v,xs,ys,e,k,l,q):=q1;subst e;cases Y with
 |cons r m=>
  cases m with
  |cons r' m=>
   cases m;cases r;cases r';let(x,rv1,y,_):=i.list k;let(z,rv2,A,_):=i.tuple l;let n:u<↥c:=y.lt;let t:v<↥c:=by let(o,e,_):=id A;show Aq e
   show LZ.new y.isList A λh' C ti to j1 j2 sz kk=>?_;show wpAny_pyIter_zip (s:={c with heap:=h'}) C ?_;let ap:Nl (↥c+4) (↥c+2) (↥c+3) ↥c (↥c+1) u v:=Jle n t;exists ↥c+4,_,_,_,H1,rfl,i.kept (t':=c.toks) kk,Jlj _ _ _ _ _ u v ys ap,#[C,ti,#[_,_,to],j1,j2],λb hb=>?_,q;let j:↥c<=b:=by
    simp only[An,Bg,or_false]at hb;rcases hb with rfl|rfl|rfl|rfl|rfl
    .show Jn _ _
    .show Jn _ _
    .show Jn _ _
    .show Aj _
    .show Jn _ _
   show i.fpOk j (i.hok.fresh j)
open PySem PySem.Spec PyProof.Rows Rdc Rdu
def UpD(H:Hp)(a:Addr)(kvs:List (List Key×V))(ps:List Rdu.PK):Prop:=Rd H a (.dT kvs)/\kvs.map (·.1)=ps.map pK/\Sm ps/\⇑kvs<sizeLine
section
variable {X:Cx}
def Jhp(hc:X.calm=true):Xs X (.builtin "sorted") (λxs H Q=>∃a ps,xs=[.ref a]/\((∃kvs,UpD H a kvs ps)\/∃bs,SqL X.K H a (bs.map V.ref)/\Paired (λk b=>H b=-(.tup ((pK k).map kV))) ps bs/\Sm ps/\⇑ps<sizeLine)/\∀(p:Addr) (bs:List Addr) (c:List Rdu.PK),H p=none->c.Perm ps->c.Pairwise (λx y=>rkP x<=rkP y)->⇑bs=⇑c->(∀(i:Nat) (b:Addr) (q:Rdu.PK),bs[i]? =-b->c[i]? =-q->H b=-(.tup ((pK q).map kV)))->Q (.ref p) (upd H p (.lst (bs.map V.ref)))):=by
 intro n s v H xs z Q I r h;let(a,ps,rfl,w,q):=h;let(u,rfl,o):=vals1 r;cases o;rcases w with⟨kvs,e,d,f,g⟩|⟨bs,e,d,f,g⟩
 .show Jnp (I.ok.hd hc) I e d f g λp bs c t hp j sl l hb m=>#[.ref p,_,m,rfl,q p bs c hp j sl l hb]
 .show Jmy (I.ok.hd hc) I e d f g λp bs c t hp j sl l hb m=>#[.ref p,_,m,rfl,q p bs c hp j sl l hb]
def Jfp:Xs X (.type "dict") (λxs H Q=>∃a,xs=[.ref a]/\((∃kvs,Rd H a (.dK kvs)/\∀p,H p=none->Q (.ref p) (upd H p (.dK kvs)))\/∃kvs,Rd H a (.dT kvs)/\Apart X.prog X.w kvs/\∀p,H p=none->Q (.ref p) (upd H p (.dT kvs)))):=by
 intro c s g H xs i Q I r h;let(a,rfl,q):=h;let(u,rfl,d):=vals1 r;cases d;rcases q with⟨kvs,e,q⟩|⟨kvs,e,ap,q⟩
 .show Jqi I e λp f hp b=>#[.ref p,_,b,rfl,q p hp]
 .show Jvl I e ap λp f hp b=>#[.ref p,_,b,rfl,q p hp]
def Jnz:Xs X (.builtin "len") (λxs H Q=>∃a kvs,xs=[V.ref a]/\H a=-(.dK kvs)/\Q (.int ⇑kvs) H):=by
 intro b s f H xs g Q I r h;let(a,kvs,rfl,c,q):=h;let(u,rfl,d):=vals1 r;cases d;show J0y I (.inl c) λt i e=>#[.int ⇑kvs,H,e,#[t,rfl],q]
theorem boot_dict:Dy "dict"=-(.type "dict"):=by rfl
theorem boot_sorted:Dy "sorted"=-(.builtin "sorted"):=by rfl
def Wb6(e:TE):TE:=λf H Q=>e f H λx H1=>∃a c g,x=.ref a/\UpD H1 a c g/\∀(p:Addr) (b:List (List Key×V)) (d:List Rdu.PK),H1 p=none->b.Perm c->b.map (·.1)=d.map pK->d.Pairwise (λx y=>rkP x<=rkP y)->Q (.ref p) (upd H1 p (.dT b))
def Juf{ap cp:Pos}(hc:X.calm=true)(t:X.A.units+8<Dm)(g1:Gl X "dict")(u:X.mg "dict"=none)(g2:Gl X "sorted")(w:X.mg "sorted"=none)(y:PE X o z)
  (d:attributeBase o "items" X.env (eval o X.env)=eval o X.env)(f:(ap.endLine==cp.line)=true):PE X (.Call (.Name "dict" p1) [.Call (.Name "sorted" A) [.Call (.Attribute o "items" ap) [] [] cp] [] b] [] g) (Wb6 z):=by
 intro c s n H Q I h;show T3 (Jbu I g1 u boot_dict (Dc ?_ rfl rfl) 'd' 'd');change wpAny _ _ (T8 ((false,eval (.Call (.Name "sorted" A) [.Call (.Attribute o "items" ap) [] [] cp] [] b) X.env)::Gs g (Cd [] X.env))) _ _ s;show Ke (T3 (Jbu I g2 w boot_sorted (Ie ?_ rfl rfl) 'd' 'd'));change wpAny _ _ (T8 ((false,eval (.Call (.Attribute o "items" ap) [] [] cp) X.env)::Gs b (Cd [] X.env))) _ _ s;show Ke (L5 d f (thn (y c s n H _ I h) λv s1 #[x,H1,j,C,E]=>?_));obtain⟨a,k,ps,rfl,⟨e,J,L,N⟩,q⟩:=E;cases C;let(U,Y,_):=Jm7 j (.inr #[k,e]);exists"dict","dict.items",F8,Po,PySem.F.type_dict_items,U,Y,Im rfl (Mr ?_);show thn (Jy8 (j.ok.hd hc) t j e J L N λp s' i qs hp pm m sl I'=>(#[.ref p,_,I',rfl,q p i qs hp pm m sl]:EP X c n Q (.ref p) s')) λr s2 hr=>Ks (thn hr λl s3 hl=>Ks hl)
theorem Jvr:Dy "len"=-(.builtin "len"):=by rfl
theorem Jvq:Dy "set"=-(.type "set"):=by rfl
def dst(ps:List Rdu.PK):Nat:=(Sbl.dd (λi=>[(ps.getD i (0,0)).1,(ps.getD i (0,0)).2]) ⇑ps).length
def tLs(K:Ah)(c:TA):TE:=λd H Q=>c d H λe H1=>∃p bs a,e=[.ref p]/\SqL K H1 p (bs.map V.ref)/\Paired (λk b=>SqT K H1 b ((pK k).map kV)) a bs/\⇑a<1001/\Q (.int (dst a)) H1
def Jmd{e:Expr}{J:TA}{p1 L c a:Pos}(hc:X.calm=true)(hu:X.A.units+9<Dm)(g1:Gl X "len")(m1:X.mg "len"=none)(g2:Gl X "set")(m2:X.mg "set"=none)(he:PA X [e] J)(hs:Cd [e] X.env=[(false,eval e X.env)]):
  PE X (.Call (.Name "len" p1) [.Call (.Name "set" L) [e] [] a] [] c) (tLs X.K J):=by
 intro g s σ H Q I h;show T3 (Jbu I g1 m1 Jvr (Ie ?_ rfl rfl) 'd' 'd');change wpAny _ _ (T8 ((false,eval (.Call (.Name "set" L) [e] [] a) X.env)::Gs c (Cd [] X.env))) _ _ s;show Ke (T3 (Jbu I g2 m2 Jvq (Dc (thn (he a g s σ H _ I h) λus s1 #[vs,H1,C,r1,q1]=>?_) (by rw[hs];rfl) rfl) 'd' 'd'));let(p,bs,d,e1,hq,hp,hz,q):=q1;subst e1;let(u,rfl,rx):=vals1 r1;cases rx;let(l,N,pl,_):=C.list hq;let E:=⇑N;rw[Ag,<-Cf hp]at E;let r:l.toArray.size=⇑d:=by rw[Aw,E]
 show Sbl.Jnw (ks:=λi=>[(d.getD i (0,0)).1,(d.getD i (0,0)).2]) (I.ok.hd hc) hu pl.isList (λj v A=>?_) (by rw[r];show hz) λh' tk m=>?_
 .let A:l[j]? =-v:=by erw[A]
  let U:j<⇑bs:=by rw[<-Cf hp,E];show(Ad.1 A).1
  let(u,w,ru):=N.get (show(bs.map V.ref)[j]? =-(.ref bs[j]) by rw[Ao,Ae U];rfl);rw[A]at w;cases w;cases ru;let(k,hk,sk):=Jbr hp (Ae U);exists _,rfl,?_;rw[Ej,hk];obtain⟨x,y,⟨o,g1,g2,n,g3⟩,_⟩:=C.tuple sk;exists o,x.toArray,n,g1,g2,g3,?_;cases y with
  |cons a1 y=>
   cases y with
   |cons a2 y=>
    cases y;let(t,rfl):=(show∃t,_=Eg k.1 t from a1)
    let(t2,rfl):=(show∃t,_=Eg k.2 t from a2)
    show .cons (by simp[intKind,Kr]) (.cons (by simp[intKind,Kr]) .nil)
 .rw[r]at m;obtain⟨⟨kb,⟨o,es,ep,t,ho,hx,hd,z,T⟩,pm⟩,kp⟩:=m;let Y:es.size=dst d:=by
   rw[<-Br,z,Ag,<-Ag (f:=(·.1)),pm.length_eq];rfl
  show Ks (PySem.call_len_set (s:={s1 with heap:=h',toks:=tk}) ho hx hd (T.fits z) (by rw[Y];let:dst d<=⇑d:=Sbl.Jhi _ _;lia) ?_);exists .int (dst d),H1,C.kept (t':=tk+1+1) λb o e=>kp b o (Aq e) e,#[tk+1,by rw[Y]],q
end
end L2
set_option genSizeOf false
namespace Mi
open PySem L2
inductive D where
 |non|bl (b:Bool)|int (i:Int)|str (x:Str)|tup (ds:List D)|loc (l:Nat)|kl (ds:List D)|kd (kvs:List (Str×Int))
inductive Obj where
 |lst (ds:List D)|dct (kvs:List (Int×D))|dtu (kvs:List (Rdu.PK×D))|fz (kvs:List (Rdu.PK×D))|rg (kvs:List (RK×D))|ins (c:String) (fs:List (String×D))
abbrev Store:=List Obj
abbrev En:=List (Option D)
inductive Res (α:Type)where
 |ok (a:α) (S:Store)|err (c:String) (Z:En) (S:Store)|bad
noncomputable def Res.bind{α b:Type}(r:Res α)(f:α->Store->Res b):Res b:=match r with
 |.ok a S=>f a S
 |.err c Z S=>.err c Z S
 |.bad=>.bad
@[simp]theorem Res.bind_ok{α b:Type}(a:α)(S:Store)(f:α->Store->Res b):(Res.ok a S).bind f=f a S:=rfl
@[simp]theorem Res.bind_err{α b:Type}(c:String)(Z:En)(S:Store)(f:α->Store->Res b):(Res.err c Z S:Res α).bind f=.err c Z S:=rfl
@[simp]theorem Res.bind_bad{α b:Type}(f:α->Store->Res b):(Res.bad:Res α).bind f=.bad:=rfl
def Res.bnd{α b:Type}{r:Res α}{f:α->Store->Res b}{a:α}{x:Res b}(h:r=.ok a S)(e:f a S=x):r.bind f=x:=by rw[h];show e
inductive Bnd {α β:Type} (r:Res α) (f:α->Store->Res β) (b:β) (S':Store):Prop
 |mk (a:α) (S:Store) (_:r=.ok a S) (_:f a S=.ok b S'):Bnd r f b S'
theorem Ch{α d:Type}{r:Res α}{f:α->Store->Res d}{b:d}{e:Store}(h:r.bind f=.ok b e):Bnd r f b e:=by
 cases r with
 |ok a S=>exists a,S,rfl,h
 |err c Z S=>cases h
 |bad=>cases h
noncomputable def Line:Nat:=16777216
inductive Bop where|add|sub|mul|fdiv|mod|pow|shr
inductive Cop where|eq|ne|lt|le|gt|ge|isc|isnc|inn|nin
inductive Prim where|len|abs|min2|max2|int1|list1|tuple1|all1|sum1|sort1|dict1
inductive Meth where|append|pop0|get2|indexT|get1|pop1
noncomputable def Yi:D->Option V
 |.non=>-.non
 |.bl b=>-(.bl b)
 |.int i=>-(.int i)
 |.str x=>-(.str x)
 |_=>none
noncomputable def seqAt(S:Store)(l:Nat):Option (List D):=match S[l]? with
 |some (.lst a)=>-a
 |_=>none
noncomputable def dctAt(S:Store)(l:Nat):Option (List (Int×D)):=match S[l]? with
 |some (.dct a)=>-a
 |_=>none
noncomputable def dVal{κ a:Type}[DecidableEq κ](kvs:List (κ×a))(k:κ):Option a:=(kvs.find? λp=>decide (p.1=k)).map (·.2)
noncomputable def dPut{κ a:Type}[DecidableEq κ](kvs:List (κ×a))(k:κ)(v:a):List (κ×a):=if kvs.any (λp=>decide (p.1=k))=true then kvs.map (λp=>if p.1=k then(p.1,v)else p)else kvs++[(k,v)]
noncomputable def dDrop{κ a:Type}[DecidableEq κ](kvs:List (κ×a))(k:κ):List (κ×a):=kvs.filter λp=>decide (p.1≠k)
noncomputable def kyD:D->Option Rdu.PK
 |.tup [.int a,.int b]=>-(a,b)
 |_=>none
noncomputable abbrev dK(p:Rdu.PK):D:=.tup [.int p.1,.int p.2]
noncomputable def scK:D->Option Key
 |.int i=>-(.inl i)
 |.str x=>-(.inr x)
 |_=>none
noncomputable def Yw{c d:Type}(f:c->Option d):List c->Option (List d)
 |[]=>-[]
 |a::r=>match f a,Yw f r with
  |some b,-bs=>-(b::bs)
  |_,_=>none
def rwK:D->Option (List Key)
 |.tup ds=>Yw scK ds
 |_=>none
def lkK:D->Option RK
 |.tup ds=>Yw rwK ds
 |_=>none
def Y3(S:Store)(l:Nat)(y:D):Option (Option D):=match S[l]? with
 |some (.dct a)=>(match y with|.int i=>-(dVal a i)|_=>none)
 |some (.dtu a)=>(kyD y).map (dVal a)
 |_=>none
noncomputable def dtAt(S:Store)(l:Nat):Option (List (Rdu.PK×D)):=match S[l]? with
 |some (.dtu a)=>-a
 |_=>none
noncomputable def aptB(ps:List Rdu.PK):Bool:=ps.all (λp=>decide (0<=p.1)&&decide (p.1<345)&&decide (0<=p.2)&&decide (p.2<3))&&decide ps.Nodup
def srK(ps:List Rdu.PK):List Rdu.PK:=ps.mergeSort λa b=>decide (Rdu.rkP a<=Rdu.rkP b)
def srD(kvs:List (Rdu.PK×D)):List (Rdu.PK×D):=kvs.mergeSort λa b=>decide (Rdu.rkP a.1<=Rdu.rkP b.1)
noncomputable def Yt(S:Store)(l:Nat)(c:String):Option (List (String×D)):=match S[l]? with
 |some (.ins a b)=>if a=c then -b else none
 |_=>none
noncomputable def isDm:Meth->Bool
 |.get1=>true|.pop1=>true
 |_=>false
def rcv(p:Meth)(S:Store)(x:D):Bool:=match x with|.loc l=>if isDm p=true then(dctAt S l).isSome||(dtAt S l).isSome else(seqAt S l).isSome|_=> !isDm p
noncomputable def putD(f:String)(v:D):List (String×D)->List (String×D)
 |[]=>[(f,v)]
 |p::r=>if p.1=f then(p.1,v)::r else p::putD f v r
def Zy(S:Store)(x:D)(c f:String):Option D:=match x with
 |.loc l=>match Yt S l c with|some a=>a.lookup f|none=>none
 |_=>none
def isRec(S:Store)(x:D)(c m:String):Bool:=match x with
 |.loc l=>match Yt S l c with|some a=>(a.lookup m).isNone|none=>false
 |_=>false
def Z1(S:Store)(x:D)(c f:String)(v:D):Option Store:=match x with
 |.loc l=>match Yt S l c with|some a=>if ⇑a<1000 then -(S.set l (.ins c (putD f v a)))else none|none=>none
 |_=>none
def dIn(x y:D)(S:Store):Option Bool:=match y with
 |.loc l=>(Y3 S l x).map Option.isSome
 |_=>none
noncomputable def eqL(f:D->D->Option Bool):List D->List D->Option Bool
 |[],[]=>-true
 |a::as,b::bs=>match f a b,eqL f as bs with
  |some x,-y=>-(x&&y)
  |_,_=>none
 |_,_=>-false
def eqD(S:Store):Nat->D->D->Option Bool
 |0,a,b=>match Yi a,Yi b with
  |some x,-y=>-(eqV x y)
  |_,_=>none
 |n+1,a,b=>match a,b with
  |.tup as,.tup bs=>if ⇑as=⇑bs then eqL (eqD S n) as bs else(if(eqL (eqD S n) (as.take ⇑bs) (bs.take ⇑as)).isSome then -false else none)
  |.loc l,.loc k=>match seqAt S l,seqAt S k with
   |some as,-bs=>if ⇑as=⇑bs then eqL (eqD S n) as bs else -false
   |_,_=>none
  |a,b=>match Yi a,Yi b with
   |some x,-y=>-(eqV x y)
   |_,_=>none
noncomputable def Deep:Nat:=12
def anyEq(S:Store)(n:Nat)(x:D):List D->Option Bool
 |[]=>-false
 |y::ys=>match eqD S n y x,anyEq S n x ys with
  |some a,-b=>-(a||b)
  |_,_=>none
noncomputable def small(i:Int):Bool:=decide (-(2^64:Int)<i)&&decide (i<2^64)
noncomputable def mid(i:Int):Bool:=decide (i.natAbs<2^4096)
def bop(o:Bop)(x y:D)(S:Store):Res D:=match o,x,y with
 |.add,.int i,.int j=>.ok (.int (i+j)) S
 |.add,.tup a,.tup b=>if ⇑a+⇑b<=Line then .ok (.tup (a++b)) S else .bad
 |.add,.loc l,.loc k=>match S[l]?,S[k]? with
  |some (.lst a),-(.lst b)=>if ⇑a+⇑b<=Line then .ok (.loc ⇑S) (S++[.lst (a++b)])else .bad
  |_,_=>.bad
 |.shr,.int i,.int j=>if 0<=j then .ok (.int (i/2^j.toNat)) S else .bad
 |.sub,.int i,.int j=>.ok (.int (i-j)) S
 |.mul,.int i,.int j=>if small i||small j||(mid i&&mid j)then .ok (.int (i*j)) S else .bad
 |.fdiv,.int i,.int j=>if 0<j/\j.natAbs<2^4096 then .ok (.int (i/j)) S else .bad
 |.mod,.int i,.int j=>if 0<j then .ok (.int (i%j)) S else .bad
 |.pow,.int i,.int j=>if decide (0<=j)&&decide (j<=1000000)&&decide (i.natAbs<2^64)then .ok (.int (i^j.toNat)) S else .bad
 |.add,.kl a,.loc k=>match S[k]? with
  |some (.lst b)=>if ⇑a+⇑b<=Line then .ok (.loc ⇑S) (S++[.lst (a++b)])else .bad
  |_=>.bad
 |_,_,_=>.bad
def Xm(S:Store):D->Option (List D)
 |.tup ds=>-ds
 |.loc l=>seqAt S l
 |.kl ds=>-ds
 |_=>none
def Zd(S:Store)(x y:D):Option Bool:=match x,y with
 |.loc l,.loc k=>match dtAt S l,dtAt S k with
  |some a,-b=>if ⇑a=⇑b/\(a.all λp=>match dVal b p.1 with|some d=>eqD S Deep p.2 d==-true|none=>false)=true then -false else none
  |_,_=>none
 |_,_=>none
def cop(o:Cop)(x y:D)(S:Store):Option Bool:=match o with
 |.eq=>match Zd S x y with|some b=>-(!b)|none=>eqD S Deep x y
 |.ne=>match Zd S x y with|some b=>-b|none=>(eqD S Deep x y).map (!·)
 |.lt=>match x,y with|.int i,.int j=>-(decide (i<j))|_,_=>none
 |.le=>match x,y with|.int i,.int j=>-(decide (i<=j))|_,_=>none
 |.gt=>match x,y with|.int i,.int j=>-(decide (j<i))|_,_=>none
 |.ge=>match x,y with|.int i,.int j=>-(decide (j<=i))|_,_=>none
 |.isc=>match y with|.non=>-(match x with|.non=>true|_=>false)|_=>none
 |.isnc=>match y with|.non=>-(match x with|.non=>false|_=>true)|_=>none
 |.inn=>match Xm S y with|some a=>anyEq S Deep x a|none=>dIn x y S
 |.nin=>match Xm S y with|some a=>(anyEq S Deep x a).map (!·)|none=>(dIn x y S).map (!·)
def tru(S:Store):D->Option Bool
 |.non=>-false
 |.bl b=>-b
 |.int i=>-(i !=0)
 |.tup ds=>-(!ds.isEmpty)
 |.loc l=>match seqAt S l with|some ds=>-(!ds.isEmpty)|none=>none
 |.kl ds=>-(!ds.isEmpty)
 |_=>none
def idxD(x y:D)(S:Store):Option D:=match Xm S x with
 |some b=>(match y with|.int i=>atI b i|_=>none)
 |none=>match x with
  |.loc l=>match S[l]? with
   |some (.rg a)=>(lkK y).bind (dVal a)
   |_=>(Y3 S l y).join
  |_=>none
def cutD(xs:List D)(lo a:Option Int):List D:=(xs.drop (HT.sIx ⇑xs 0 lo)).take (HT.sIx ⇑xs ⇑xs a-HT.sIx ⇑xs 0 lo)
def Yh(x:D)(lo b:Option Int)(S:Store):Res D:=match x with
 |.tup a=>.ok (.tup (cutD a lo b)) S
 |.loc l=>match seqAt S l with
  |some a=>.ok (.loc ⇑S) (S++[.lst (cutD a lo b)])
  |none=>.bad
 |.kl a=>.ok (.loc ⇑S) (S++[.lst (cutD a lo b)])
 |_=>.bad
noncomputable def tyD(S:Store):D->Option String
 |.non=>some "NoneType"
 |.bl _=>some "bool"
 |.int _=>some "int"
 |.str _=>some "str"
 |.tup _=>some "tuple"
 |.loc l=>match S[l]? with|some (.lst _)=>some "list"|_=>none
 |.kl _=>none
 |.kd _=>none
noncomputable def isiD(t c:String):Bool:=t==c||(t=="bool"&&c=="int")
noncomputable def allB:List D->Option Bool
 |[]=>-true
 |.bl b::r=>(allB r).map (b&&·)
 |_=>none
noncomputable def sumI:List D->Option Int
 |[]=>some 0
 |.int i::r=>(sumI r).map (i+·)
 |_=>none
def Wah(S:Store)(l:Nat):Option (List Rdu.PK):=match dtAt S l with
 |some a=>-(a.map (·.1))
 |none=>(seqAt S l).bind (Yw kyD)
def Xh(p:Prim)(ds:List D)(S:Store):Res D:=match p,ds with
 |.len,[x]=>match Xm S x with
  |some ds=>.ok (.int ⇑ds) S
  |none=>match x with|.loc l=>(match dctAt S l with|some a=>.ok (.int ⇑a) S|none=>.bad)|_=>.bad
 |.abs,[.int i]=>.ok (.int (if i<0 then -(i:Int) else i)) S
 |.max2,[.int i,.int j]=>.ok (.int (if j>i then j else i)) S
 |.min2,[.int i,.int j]=>.ok (.int (if j<i then j else i)) S
 |.int1,[.int i]=>.ok (.int i) S
 |.int1,[.bl b]=>.ok (.int (if b then 1 else 0)) S
 |.list1,[x]=>match Xm S x with
  |some ds=>.ok (.loc ⇑S) (S++[.lst ds])
  |none=>match x with
   |.loc l=>match dctAt S l with|some a=>.ok (.loc ⇑S) (S++[.lst (a.map λp=>.int p.1)])|none=>.bad
   |_=>.bad
 |.tuple1,[x]=>match Xm S x with
  |some ds=>.ok (.tup ds) S
  |none=>.bad
 |.all1,[.loc l]=>match seqAt S l with|some ds=>(match allB ds with|some b=>.ok (.bl b) S|none=>.bad)|none=>.bad
 |.sum1,[.loc l]=>match seqAt S l with|some ds=>(match sumI ds with|some b=>.ok (.int b) S|none=>.bad)|none=>.bad
 |.sort1,[.loc l]=>(match Wah S l with|some c=>if aptB c=true/\⇑c<Line then .ok (.loc ⇑S) (S++[.lst ((srK c).map dK)])else .bad|none=>.bad)
 |.dict1,[.loc l]=>(match S[l]? with
  |some (.dct a)=>.ok (.loc ⇑S) (S++[.dct a])
  |some (.dtu a)=>if aptB (a.map (·.1))=true then .ok (.loc ⇑S) (S++[.dtu a])else .bad
  |_=>.bad)
 |_,_=>.bad
def Wak(S:Store)(x:D)(ds:List D):Option Nat:=if ds.all (λy=>(eqD S 0 y x).isSome)then ds.findIdx? (λy=>eqD S 0 y x==-true)else none
def Xk(p:Meth)(o:D)(ds:List D)(S:Store):Res D:=match p,o,ds with
 |.append,.loc l,[y]=>match S[l]? with
  |some (.lst b)=>if ⇑b<Line then .ok .non (S.set l (.lst (b++[y])))else .bad
  |_=>.bad
 |.pop0,.loc l,[]=>match S[l]? with
  |some (.lst b)=>match b[⇑b-1]? with
   |some y=>.ok y (S.set l (.lst b.dropLast))
   |none=>.bad
  |_=>.bad
 |.indexT,.tup b,[y]=>if ⇑b<=Line then(match Wak S y b with|some j=>.ok (.int j) S|none=>.bad)else .bad
 |.get2,.kd a,[.str x,y]=>.ok (match a.lookup x with|some n=>.int n|none=>y) S
 |.get1,.loc l,[y]=>(match Y3 S l y with|some o=>.ok (o.getD .non) S|none=>.bad)
 |.pop1,.loc l,[y]=>(match S[l]? with
  |some (.dtu a)=>(match kyD y with|some k=>(match dVal a k with|some d=>.ok d (S.set l (.dtu (dDrop a k)))|none=>.bad)|none=>.bad)
  |some (.dct a)=>(match y with|.int k=>(match dVal a k with|some d=>.ok d (S.set l (.dct (dDrop a k)))|none=>.bad)|_=>.bad)
  |_=>.bad)
 |_,_,_=>.bad
set_option genInjectivity false in
set_option genCtorIdx false in
inductive M where
 |nul|cns (a b:M)
 |cst (d:D)|var (i:Nat)|glb (x:String)
 |bin (o:Bop) (a b:M)|neg (a:M)|bit (a:M)|nott (a:M)|bo (w:Bool) (as:M)
 |cmp (o:Cop) (a b:M)|cmp2 (o p:Cop) (a b c:M)|ife (c a b:M)
 |tup (as:M)|lst (as:M)|idx (a b:M)|sli (a lo hi:M)
 |call (f:String) (as:M)|prim (p:Prim) (as:M)|isi (a:M) (t:String)|meth (p:Meth) (o as:M)
 |comp (N:List String) (k:Nat) (keep:List Nat) (tg it cd el:M)
 |dcm (N:List String) (keep:List Nat) (tg a el:M)
 |rng (a:M)|enm (a:M)|zp (a b:M)|rvi (a:M)
 |dnil (k:Nat)|hld (a:M)|lsp (a:M)|fld (c f:String) (a:M)|mcl (c m f:String) (o as:M)|new (c f:String)
 |tvar (i:Nat)|ttup (ts:M)|tsub (a b:M)
 |asg (t e:M)|aug (i:Nat) (e:M)|ifs (c a b:M)|forr (t i b:M)|ret (e:M)|exp (e:M)|rse|sfd (c f:String) (o v:M)
inductive Fl where
 |nx (Z:En)|rt (d:D)
structure Pr where
 call:String->List D->Store->Res D
 glob:String->Option D
 W:Nat
def Xz(o i v:D)(S:Store):Res Unit:=match o with
 |.loc l=>match S[l]? with
  |some (.lst b)=>(match i with
   |.int k=>(match ixN ⇑b k with
    |some j=>.ok () (S.set l (.lst (b.set j v)))
    |none=>.bad)
   |_=>.bad)
  |some (.dct a)=>(match i with|.int k=>if ⇑a<Line then .ok () (S.set l (.dct (dPut a k v)))else .bad|_=>.bad)
  |some (.dtu a)=>(match kyD i with|some k=>if ⇑a<Line then .ok () (S.set l (.dtu (dPut a k v)))else .bad|none=>.bad)
  |some (.rg a)=>(match lkK i with|some k=>if ⇑a<Line then .ok () (S.set l (.rg (dPut a k v)))else .bad|none=>.bad)
  |_=>.bad
 |_=>.bad
inductive Kd where|lst|enm|zip|rev
abbrev Wk:=Option (Nat×Kd)
noncomputable def sameAt(S:Store)(g:Wk)(n:Nat):Bool:=match g with
 |none=>true
 |some (l,_)=>match S[l]? with
  |some (.lst a)=>⇑a==n
  |_=>false
def nth(S:Store)(g:Wk)(ds:List D)(i:Nat):Option D:=match g with
 |none=>ds[i]?
 |some (l,.enm)=>match seqAt S l with
  |some a=>(a[i]?).map λx=>.tup [.int i,x]
  |none=>none
 |some (l,.zip)=>match seqAt S l with
  |some a=>match a[i]?,ds[i]? with
   |some x,-y=>-(.tup [x,y])
   |_,_=>none
  |none=>none
 |some (l,.lst)=>match seqAt S l with
  |some a=>a[i]?
  |none=>none
 |some (l,.rev)=>match seqAt S l with
  |some a=>a.reverse[i]?
  |none=>none
noncomputable def enD:Nat->List D->List D
 |_,[]=>[]
 |i,x::r=>.tup [.int i,x]::enD (i+1) r
def forL(turn:D->En->Store->Res Fl)(g:Wk)(ds:List D):Nat->Nat->En->Store->Res Fl
 |0,i,Z,S=>if sameAt S g ⇑ds then .ok (.nx Z) S else .bad
 |f+1,i,Z,S=>if sameAt S g ⇑ds then(match nth S g ds i with
   |none=>.bad
   |some d=>(turn d Z S).bind λc b=>match c with
    |.nx a=>forL turn g ds f (i+1) a b
    |.rt d=>.ok (.rt d) b)else .bad
def Ya(turn:D->En->Store->Res (Option D))(g:Wk)(ds:List D):Nat->Nat->En->Store->List D->Res (List D)
 |0,i,Z,S,a=>if sameAt S g ⇑ds then .ok a S else .bad
 |f+1,i,Z,S,a=>if sameAt S g ⇑ds then(match nth S g ds i with
   |none=>.bad
   |some d=>(turn d Z S).bind λo b=>match o with
    |some y=>if ⇑a<Line then Ya turn g ds f (i+1) Z b (a++[y])else .bad
    |none=>Ya turn g ds f (i+1) Z b a)else .bad
noncomputable def Xt(k:Nat)(keep:List Nat)(Z:En):En:=Gh k none++keep.map λi=>(Z[i]?).join
def Wal(x:D)(S:Store):Res D:=match x with
 |.loc l=>(match dtAt S l with|some a=>if aptB (a.map (·.1))=true/\⇑a<Line then .ok (.loc ⇑S) (S++[.dtu (srD a)])else .bad|none=>.bad)
 |_=>.bad
def zpD(x y:D)(S:Store):Res (Wk×List D):=match x,y with
 |.loc l,.tup a=>(match seqAt S l with|some b=>if ⇑b=⇑a then .ok (-(l,.zip),a) S else .bad|none=>.bad)
 |_,_=>.bad
def rvD(x:D)(S:Store):Res (Wk×List D):=match x with
 |.loc l=>(match seqAt S l with|some a=>.ok (-(l,.rev),a.reverse) S|none=>.bad)
 |_=>.bad
def Waf(x:D)(S:Store):Res D:=match x with
 |.loc l=>(match(seqAt S l).bind (Yw kyD)with|some a=>if ⇑a<1001 then .ok (.int (dst a)) S else .bad|none=>.bad)
 |_=>.bad
def frD(x:D)(S:Store):Res (Nat×List D):=match x with
 |.loc l=>(match dtAt S l with|some a=>.ok (l,a.map (·.2)) (S.set l (.fz a))|none=>.bad)
 |_=>.bad
noncomputable def thD(l:Nat)(ys:List D)(S:Store):Res D:=match S[l]? with
 |some (.fz a)=>.ok (.loc ⇑S) ((S++[Obj.lst ys]).set l (.dtu a))
 |_=>.bad
mutual
noncomputable def evE(C:Pr):M->En->Store->Res D
 |.cst d,_,S=>.ok d S
 |.var i,Z,S=>match Z[i]? with|some (-d)=>.ok d S|_=>.bad
 |.glb x,_,S=>match C.glob x with|some d=>.ok d S|none=>.bad
 |.bin o a b,Z,S=>(evE C a Z S).bind λx e=>(evE C b Z e).bind λy g=>bop o x y g
 |.neg a,Z,S=>(evE C a Z S).bind λx e=>match x with|.int i=>.ok (.int (-(i:Int))) e|_=>.bad
 |.bit a,Z,S=>(evE C a Z S).bind λx e=>match x with|.int i=>.ok (.int (B4 i)) e|_=>.bad
 |.nott a,Z,S=>(evE C a Z S).bind λx e=>match tru e x with|some b=>.ok (.bl (!b)) e|none=>.bad
 |.bo w as,Z,S=>evBV C w as Z S
 |.cmp o a b,Z,S=>(evE C a Z S).bind λx e=>(evE C b Z e).bind λy g=>match cop o x y g with|some k=>.ok (.bl k) g|none=>.bad
 |.cmp2 o p a b c,Z,S=>(evE C a Z S).bind λx e=>(evE C b Z e).bind λy g=>match cop o x y g with
  |some true=>(evE C c Z g).bind λz n=>(match cop p y z n with|some k=>.ok (.bl k) n|none=>.bad)
  |some false=>.ok (.bl false) g
  |none=>.bad
 |.ife c a b,Z,S=>(evT C c Z S).bind λk e=>if k then evE C a Z e else evE C b Z e
 |.tup as,Z,S=>(evA C as Z S).bind λds e=>if ⇑ds<=Line then .ok (.tup ds) e else .bad
 |.lst as,Z,S=>(evA C as Z S).bind λds e=>if ⇑ds<=Line then .ok (.loc ⇑e) (e++[.lst ds])else .bad
 |.idx a b,Z,S=>(evE C a Z S).bind λx e=>(evE C b Z e).bind λy g=>match idxD x y g with|some d=>.ok d g|none=>.bad
 |.sli a lo A,Z,S=>(evE C a Z S).bind λx e=>(evO C lo Z e).bind λl g=>(evO C A Z g).bind λh n=>Yh x l h n
 |.call f as,Z,S=>(evA C as Z S).bind λds e=>C.call f ds e
 |.prim p as,Z,S=>(evA C as Z S).bind λds e=>Xh p ds e
 |.isi a t,Z,S=>(evE C a Z S).bind λx e=>match tyD e x with|some y=>.ok (.bl (isiD y t)) e|none=>.bad
 |.meth p o as,Z,S=>(evE C o Z S).bind λx e=>if rcv p e x then(evA C as Z e).bind λds g=>Xk p x ds g else .bad
 |.comp N k keep tg it cd el,Z,S=>(evI C it Z S).bind λw e=>
   (Ya (λd r g=>(evG C tg d r g).bind λj n=>(evC C cd j n).bind λb u=>if b then(evE C el j u).bind λy s=>.ok (-y) s else .ok none u) w.1 w.2 w.2.length 0 (Xt k keep Z) e []).bind
    λys v=>.ok (.loc ⇑v) (v++[.lst ys])
 |.dcm N keep tg a el,Z,S=>(evE C a Z S).bind λx e=>(frD x e).bind λw g=>
   (Ya (λd r g=>(evG C tg d r g).bind λj n=>(evE C el j n).bind λy s=>.ok (-y) s) none w.2 w.2.length 0 (Xt 1 keep Z) g []).bind (thD w.1)
 |.dnil k,_,S=>.ok (.loc ⇑S) (S++[match k with|0=>.dct []|1=>.dtu []|_=>.rg []])
 |.hld a,Z,S=>(evE C a Z S).bind λx e=>Wal x e
 |.lsp a,Z,S=>(evE C a Z S).bind λx e=>Waf x e
 |.fld c f a,Z,S=>(evE C a Z S).bind λx e=>match Zy e x c f with|some d=>.ok d e|none=>.bad
 |.mcl c m f o as,Z,S=>(evE C o Z S).bind λx e=>if isRec e x c m then(evA C as Z e).bind λds g=>C.call f (x::ds) g else .bad
 |.new c f,_,S=>(C.call f [.loc ⇑S] (S++[.ins c []])).bind λd e=>match d with|.non=>.ok (.loc ⇑S) e|_=>.bad
 |_,_,_=>.bad
noncomputable def evT(C:Pr):M->En->Store->Res Bool
 |.nott a,Z,S=>(evT C a Z S).bind λb g=>.ok (!b) g
 |.bo w as,Z,S=>evBT C w as Z S
 |.cmp o a b,Z,S=>(evE C a Z S).bind λx g=>(evE C b Z g).bind λy e=>match cop o x y e with|some k=>.ok k e|none=>.bad
 |.cmp2 o p a b c,Z,S=>(evE C a Z S).bind λx g=>(evE C b Z g).bind λy e=>match cop o x y e with
  |some true=>(evE C c Z e).bind λz h=>(match cop p y z h with|some k=>.ok k h|none=>.bad)
  |some false=>.ok false e
  |none=>.bad
 |.var i,Z,S=>match Z[i]? with|some (-d)=>(match tru S d with|some b=>.ok b S|none=>.bad)|_=>.bad
 |.idx a b,Z,S=>(evE C a Z S).bind λx g=>(evE C b Z g).bind λy e=>match idxD x y e with|some d=>(match tru e d with|some b=>.ok b e|none=>.bad)|none=>.bad
 |.call f as,Z,S=>(evA C as Z S).bind λds g=>(C.call f ds g).bind λd e=>match tru e d with|some b=>.ok b e|none=>.bad
 |.prim p as,Z,S=>(evA C as Z S).bind λds g=>(Xh p ds g).bind λd e=>match tru e d with|some b=>.ok b e|none=>.bad
 |.isi a t,Z,S=>(evE C a Z S).bind λx g=>match tyD g x with|some y=>.ok (isiD y t) g|none=>.bad
 |.mcl c m f o as,Z,S=>(evE C o Z S).bind λx g=>if isRec g x c m then(evA C as Z g).bind λds e=>(C.call f (x::ds) e).bind λd h=>match tru h d with|some b=>.ok b h|none=>.bad else .bad
 |_,_,_=>.bad
noncomputable def evBV(C:Pr)(w:Bool):M->En->Store->Res D
 |.cns a .nul,Z,S=>evE C a Z S
 |.cns a r,Z,S=>(evE C a Z S).bind λx b=>match x with|.bl c=>if c=w then evBV C w r Z b else .ok (.bl (!w)) b|_=>.bad
 |_,_,_=>.bad
noncomputable def evBT(C:Pr)(w:Bool):M->En->Store->Res Bool
 |.cns a .nul,Z,S=>evT C a Z S
 |.cns a r,Z,S=>(evT C a Z S).bind λc b=>if c=w then evBT C w r Z b else .ok (!w) b
 |_,_,_=>.bad
noncomputable def evC(C:Pr):M->En->Store->Res Bool
 |.nul,_,S=>.ok true S
 |.cns c .nul,Z,S=>evT C c Z S
 |_,_,_=>.bad
noncomputable def evA(C:Pr):M->En->Store->Res (List D)
 |.nul,_,S=>.ok [] S
 |.cns a b,Z,S=>(evE C a Z S).bind λx c=>(evA C b Z c).bind λxs d=>.ok (x::xs) d
 |_,_,_=>.bad
noncomputable def evO(C:Pr):M->En->Store->Res (Option Int)
 |.nul,_,S=>.ok none S
 |.cns a .nul,Z,S=>(evE C a Z S).bind λx b=>match x with|.int i=>.ok (-i) b|_=>.bad
 |_,_,_=>.bad
noncomputable def evI(C:Pr):M->En->Store->Res (Wk×List D)
 |.rng a,Z,S=>(evE C a Z S).bind λx c=>match x with
  |.int j=>if decide (-(2^62:Int)<=j)&&decide (j<2^62)then .ok (none,(Bz j.toNat).map λ(i:Nat)=>.int i) c else .bad
  |_=>.bad
 |.cns a .nul,Z,S=>(evE C a Z S).bind λx c=>match x with
  |.tup ds=>.ok (none,ds) c
  |.kl ds=>.ok (none,ds) c
  |.loc l=>(match seqAt c l with|some ds=>.ok (-(l,.lst),ds) c|none=>.bad)
  |_=>.bad
 |.enm a,Z,S=>(evE C a Z S).bind λx c=>match x with
  |.loc l=>(match seqAt c l with|some ds=>.ok (-(l,.enm),ds) c|none=>.bad)
  |.tup ds=>.ok (none,enD 0 ds) c
  |_=>.bad
 |.zp a b,Z,S=>(evE C a Z S).bind λx c=>(evE C b Z c).bind λy d=>zpD x y d
 |.rvi a,Z,S=>(evE C a Z S).bind rvD
 |_,_,_=>.bad
noncomputable def evG(C:Pr):M->D->En->Store->Res En
 |.tvar i,d,Z,S=>if i<⇑Z then .ok (Z.set i (-d)) S else .bad
 |.ttup ts,d,Z,S=>match d with|.tup ds=>evGs C ts ds Z S|_=>.bad
 |.tsub a b,d,Z,S=>(evE C a Z S).bind λo c=>(evE C b Z c).bind λi e=>(Xz o i d e).bind λ_ f=>.ok Z f
 |_,_,_,_=>.bad
noncomputable def evGs(C:Pr):M->List D->En->Store->Res En
 |.nul,ds,Z,S=>match ds with|[]=>.ok Z S|_=>.bad
 |.cns t ts,ds,Z,S=>match ds with|d::r=>(evG C t d Z S).bind λa b=>evGs C ts r a b|[]=>.bad
 |_,_,_,_=>.bad
noncomputable def evS(C:Pr):M->En->Store->Res Fl
 |.asg t e,Z,S=>(evE C e Z S).bind λd g=>(evG C t d Z g).bind λh j=>.ok (.nx h) j
 |.aug i e,Z,S=>(match Z[i]? with
  |some (-(.int x))=>(evE C e Z S).bind λy g=>(match y with|.int z=>.ok (.nx (Z.set i (-(.int (x+z))))) g|_=>.bad)
  |_=>.bad)
 |.ifs c a b,Z,S=>(evT C c Z S).bind λk g=>if k then evB C a Z g else evB C b Z g
 |.forr t i b,Z,S=>(evI C i Z S).bind λw g=>forL (λd h j=>(evG C t d h j).bind λl m=>evB C b l m) w.1 w.2 w.2.length 0 Z g
 |.ret e,Z,S=>(evE C e Z S).bind λd g=>.ok (.rt d) g
 |.exp e,Z,S=>(evE C e Z S).bind λ_ g=>.ok (.nx Z) g
 |.sfd c f o v,Z,S=>(evE C v Z S).bind λy g=>(evE C o Z g).bind λx j=>match Z1 j x c f y with|some m=>.ok (.nx Z) m|none=>.bad
 |_,_,_=>.bad
noncomputable def evB(C:Pr):M->En->Store->Res Fl
 |.nul,Z,S=>.ok (.nx Z) S
 |.cns s r,Z,S=>(evS C s Z S).bind λc b=>match c with
  |.nx a=>evB C r a b
  |.rt d=>.ok (.rt d) b
 |_,_,_=>.bad
end
structure Fn where
 ps:List String
 N:List Nat
 body:M
noncomputable abbrev Tb:=String->Option Fn
def callN(T:Tb)(G:String->Option D)(W:Nat):Nat->String->List D->Store->Res D
 |0,_,_,_=>.bad
 |n+1,f,ds,S=>match T f with
  |none=>.bad
  |some F=>if ⇑ds=F.ps.length then(evB #[callN T G W n,G,W] F.body (ds.map some++Gh (F.N.length-⇑ds) none) S).bind λb a=>match b with
    |.rt d=>.ok d a
    |.nx _=>.ok .non a
   else .bad
def Jac{a:Type}{d:a}{S:Store}:¬(Res.bad:Res a)=.ok d S:=nofun
theorem Jrk:evE C (.var i) (Z) (S)=(match Z[i]? with|some (-d)=>.ok d S|_=>.bad):=rfl
theorem Jl5:evE C (.glb x) (a) (S)=(match C.glob x with|some d=>.ok d S|none=>.bad):=rfl
theorem Jtr:evE C (.comp N k keep tg it cd el) (Z) (S)=((evI C it Z S).bind λw g=>
   (Ya (λd c h=>(evG C tg d c h).bind λa i=>(evC C cd a i).bind λb e=>if b then(evE C el a e).bind λy j=>.ok (-y) j else .ok none e) w.1 w.2 w.2.length 0 (Xt k keep Z) g []).bind
    λys f=>.ok (.loc ⇑f) (f++[.lst ys])):=rfl
theorem Jwu:evT C (.var i) (Z) (S)=(match Z[i]? with|some (-d)=>(match tru S d with|some b=>.ok b S|none=>.bad)|_=>.bad):=rfl
theorem Jjp:evG C (.tvar i) (d) (Z) (S)=(if i<⇑Z then .ok (Z.set i (-d)) S else .bad):=rfl
theorem Jrj:evG C (.ttup ts) (d) (Z) (S)=(match d with|.tup ds=>evGs C ts ds Z S|_=>.bad):=rfl
theorem Jij:evGs C (.nul) (ds) (Z) (S)=(match ds with|[]=>.ok Z S|_=>.bad):=rfl
theorem Jii:evGs C (.cns t ts) (ds) (Z) (S)=(match ds with|d::r=>(evG C t d Z S).bind λa b=>evGs C ts r a b|[]=>.bad):=rfl
theorem Jri:evS C (.asg t e) (Z) (S)=((evE C e Z S).bind λd b=>(evG C t d Z b).bind λa c=>.ok (.nx a) c):=rfl
theorem Jov:evS C (.aug i e) (Z) (S)=(match Z[i]? with
  |some (-(.int x))=>(evE C e Z S).bind λy a=>(match y with|.int z=>.ok (.nx (Z.set i (-(.int (x+z))))) a|_=>.bad)
  |_=>.bad):=rfl
end Mi
namespace Mi
open PySem L2
def Xr(K:Ah)(a:Addr)(kvs:List (Str×Int)):Prop:=Mx (Vt λb=>K.lookup b) (λb=>K.lookup b) a (kvs.map λp=>(p.1,Fz (.int p.2)))=true
def SqF(K:Ah)(H:Hp)(a:Addr)(xs:List V):Prop:=
 (∃o,H a=-(.frz o (.lst xs)))\/
  ∃(o:Fy) (b:Array Value) (n:Nat),K.lookup a=-o/\o.cls=.type "list"/\o.dict=none/\o.data=.seq b n/\b.size<=sizeLine/\Vals xs b.toList
def SqF.sq(h:SqF K H a xs):SqL K H a xs:=h.elim (λz=>.inl (.inr z)) .inr
mutual
def RelD(K:Ah)(ρ:List Addr)(H:Hp):D->V->Prop
 |.non,v=>v=.non
 |.bl b,v=>v=.bl b
 |.int i,v=>v=.int i
 |.str x,v=>v=.str x
 |.tup ds,v=>∃a xs,v=.ref a/\SqT K H a xs/\RelDs K ρ H ds xs
 |.loc l,v=>∃a,v=.ref a/\ρ[l]? =-a
 |.kl ds,v=>∃a xs,v=.ref a/\SqF K H a xs/\RelDs K ρ H ds xs
 |.kd kvs,v=>∃a,v=.ref a/\Xr K a kvs
def RelDs(K:Ah)(ρ:List Addr)(H:Hp):List D->List V->Prop
 |[],xs=>xs=[]
 |d::ds,xs=>∃v vs,xs=v::vs/\RelD K ρ H d v/\RelDs K ρ H ds vs
end
noncomputable def RelKv{κ a:Type}(e:κ->a)(K:Ah)(ρ:List Addr)(H:Hp):List (κ×D)->List (a×V)->Prop
 |[],b=>b=[]
 |p::r,b=>∃v us,b=(e p.1,v)::us/\RelD K ρ H p.2 v/\RelKv e K ρ H r us
noncomputable def Xl(K:Ah)(ρ:List Addr)(H:Hp):List (RK×D)->List (RK×Addr×Value)->Prop
 |[],xs=>xs=[]
 |p::r,xs=>∃a u v ys,xs=(p.1,a,u)::ys/\Yg K H p.1 a/\RelV v u/\RelD K ρ H p.2 v/\Xl K ρ H r ys
theorem Jjv:∀{a b:List Char},a.map P6=b.map P6->a=b
 |[],[],_=>rfl
 |[],y::ys,h=>by simp at h
 |x::xs,[],h=>by simp at h
 |x::xs,y::ys,h=>by
  simp only[Bf,Nq]at h;rw[Jjv h.2,Char.toNat_inj.1 h.1]
def Jmn(h:Ac a=Ac b):a=b:=by
 rw[R3,R3]at h;injection h with h;let h:a.toList.map P6=b.toList.map P6:=by erw[h]
 show String.toList_inj.1 ?_;show Jjv h
noncomputable def Yb(K:Ah)(ρ:List Addr)(H:Hp):List (String×D)->List (Str×V)->Prop
 |[],a=>a=[]
 |p::r,a=>∃v us,a=(Ac p.1,v)::us/\RelD K ρ H p.2 v/\Yb K ρ H r us
def RelO(K:Ah)(ρ:List Addr)(H:Hp)(a:Addr):Obj->Prop
 |.lst ds=>∃xs,H a=-(.lst xs)/\RelDs K ρ H ds xs
 |.dct kvs=>∃b,H a=-(.dK b)/\RelKv Hn K ρ H kvs b
 |.dtu kvs=>∃b,H a=-(.dT b)/\RelKv pK K ρ H kvs b
 |.fz kvs=>∃b o,H a=-(.frz o (.dT b))/\RelKv pK K ρ H kvs b
 |.rg kvs=>∃xs,H a=-(Rg a xs)/\Xl K ρ H kvs xs
 |.ins c d=>∃C e b,Cc K Bl (Ac c)=-(-(.ref C))/\H a=-(.ins C e b)/\Yb K ρ H d b
structure RelS(K:Ah)(ρ:List Addr)(S:Store)(H:Hp):Prop where
 len:⇑ρ=⇑S
 nd:ρ.Nodup
 ob:∀(l:Nat) (a:Addr) (o:Obj),ρ[l]? =-a->S[l]? =-o->RelO K ρ H a o
structure Fut(K:Ah)(ρ:List Addr)(H:Hp)(ρ':List Addr)(H':Hp):Prop where
 pre:∃t,ρ'=ρ++t
 tup:∀a xs,SqT K H a xs->SqT K H' a xs
 frz:∀a o u,H a=-(.frz o u)->H' a=-(.frz o u)
variable {K:Ah} {ρ ρ' ρ1:List Addr} {H H' H1:Hp} {S S':Store}
def Fut.refl:Fut K ρ H ρ H:=#[#[[],by simp],λ_ _ h=>h,λ_ _ _ h=>h]
def Fut.trans(a:Fut K ρ H ρ1 H1)(b:Fut K ρ1 H1 ρ' H'):Fut K ρ H ρ' H':=by
 let(t,rfl):=a.pre;let(u,e):=b.pre;exists#[t++u,by rw[e,Ar]],λ_ _ h=>b.tup _ _ (a.tup _ _ h),λ_ _ _ h=>b.frz _ _ _ (a.frz _ _ _ h)
structure Fu(K:Ah)(ρ:List Addr)(H:Hp)(ρ':List Addr)(H':Hp):Prop where
 pre:∃t,ρ'=ρ++t
 tup:∀a xs,SqT K H a xs->SqT K H' a xs
 frz:∀a o xs,H a=-(.frz o (.lst xs))->H' a=-(.frz o (.lst xs))
def Fut.fu(f:Fut K ρ H ρ' H'):Fu K ρ H ρ' H':=#[f.pre,f.tup,λa o _=>f.frz a o _]
def Fu.sqF(f:Fu K ρ H ρ' H')(h:SqF K H a xs):SqF K H' a xs:=h.elim (λ#[o,z]=>.inl #[o,f.frz _ _ _ z]) .inr
def Fu.get(f:Fu K ρ H ρ' H'){l:Nat}{a:Addr}(h:ρ[l]? =-a):ρ'[l]? =-a:=by
 let(t,rfl):=f.pre;rw[A0 (Ad.1 h).1];show h
def Fut.get(f:Fut K ρ H ρ' H'){l:Nat}{a:Addr}(h:ρ[l]? =-a):ρ'[l]? =-a:=f.fu.get h
mutual
theorem RelD.fu(f:Fu K ρ H ρ' H'):∀{d:D} {v:V},RelD K ρ H d v->RelD K ρ' H' d v
 |.non,v,h=>by simpa only[RelD]using h
 |.bl b,v,h=>by simpa only[RelD]using h
 |.int i,v,h=>by simpa only[RelD]using h
 |.str x,v,h=>by simpa only[RelD]using h
 |.tup ds,v,h=>by
  simp only[RelD]at h ⊢;let(a,xs,e,q,r):=h;exists a,xs,e,f.tup _ _ q,RelDs.fu f r
 |.loc l,v,h=>by
  simp only[RelD]at h ⊢;let(a,e,q):=h;exists a,e,f.get q
 |.kl ds,v,h=>by
  simp only[RelD]at h ⊢;let(a,xs,e,q,r):=h;exists a,xs,e,f.sqF q,RelDs.fu f r
 |.kd c,v,h=>by simpa only[RelD]using h
theorem RelDs.fu(f:Fu K ρ H ρ' H'):∀{ds:List D} {vs:List V},RelDs K ρ H ds vs->RelDs K ρ' H' ds vs
 |[],vs,h=>by simpa only[RelDs]using h
 |d::ds,vs,h=>by
  simp only[RelDs]at h ⊢;let(v,r,e,q,t):=h;exists v,r,e,RelD.fu f q,RelDs.fu f t
end
def RelD.fut(f:Fut K ρ H ρ' H'){d:D}{v:V}(h:RelD K ρ H d v):RelD K ρ' H' d v:=h.fu f.fu
def RelDs.fut(f:Fut K ρ H ρ' H')(h:RelDs K ρ H ds vs):RelDs K ρ' H' ds vs:=h.fu f.fu
def RelDs.cons(a:RelD K ρ H d v)(b:RelDs K ρ H ds vs):RelDs K ρ H (d::ds) (v::vs):=by
 simp only[RelDs];exists v,vs,rfl,a,b
def RelDs.nil:RelDs K ρ H [] []:=by simp only[RelDs]
inductive DsC (K:Ah) (ρ:List Addr) (H:Hp) (d:D) (ds:List D) (xs:List V):Prop
 |mk (v vs) (_:xs=v::vs) (_:RelD K ρ H d v) (_:RelDs K ρ H ds vs):DsC K ρ H d ds xs
def RelDs.inv_cons(h:RelDs K ρ H (d::ds) xs):DsC K ρ H d ds xs:=by
 let(v,a,e,q,r):=h;exists v,a,e,q,r
def RelDs.inv_nil(h:RelDs K ρ H [] xs):xs=[]:=by simpa only[RelDs]using h
theorem RelDs.length:∀{ds:List D} {vs:List V},RelDs K ρ H ds vs->⇑ds=⇑vs
 |[],vs,h=>by rw[h.inv_nil];rfl
 |d::ds,vs,h=>by
  let(v,r,rfl,_,t):=h.inv_cons;rw[Bh,Bh,⇑t]
theorem RelDs.get:∀{ds:List D} {vs:List V} {i:Nat} {d:D},RelDs K ρ H ds vs->ds[i]? =-d->∃v,vs[i]? =-v/\RelD K ρ H d v
 |[],vs,i,d,h,e=>by simp at e
 |d::ds,vs,0,x,h,e=>by
  let(v,r,rfl,q,t):=h.inv_cons;simp at e;subst e;exists v,rfl,q
 |d::ds,vs,i+1,x,h,e=>by
  let(v,r,rfl,q,t):=h.inv_cons;show RelDs.get (i:=i) t (by erw[e])
theorem RelDs.append:∀{ds es:List D} {vs a:List V},RelDs K ρ H ds vs->RelDs K ρ H es a->RelDs K ρ H (ds++es) (vs++a)
 |[],es,vs,a,h,g=>by rw[h.inv_nil];show g
 |d::ds,es,vs,a,h,g=>by
  let(v,r,rfl,q,t):=h.inv_cons;show RelDs.cons q (t.append g)
theorem RelDs.take:∀{ds:List D} {vs:List V} (n:Nat),RelDs K ρ H ds vs->RelDs K ρ H (ds.take n) (vs.take n)
 |ds,vs,0,h=>by simp[RelDs.nil]
 |[],vs,n+1,h=>by rw[h.inv_nil];simp[RelDs.nil]
 |d::ds,vs,n+1,h=>by
  let(v,r,rfl,q,t):=h.inv_cons;show RelDs.cons q (t.take n)
theorem RelDs.drop:∀{ds:List D} {vs:List V} (n:Nat),RelDs K ρ H ds vs->RelDs K ρ H (ds.drop n) (vs.drop n)
 |ds,vs,0,h=>h
 |[],vs,n+1,h=>by rw[h.inv_nil];simp[RelDs.nil]
 |d::ds,vs,n+1,h=>by
  let(v,r,rfl,q,t):=h.inv_cons;show t.drop n
theorem RelDs.set(a:RelD K ρ H d v):∀{ds:List D} {vs:List V} (i:Nat),RelDs K ρ H ds vs->RelDs K ρ H (ds.set i d) (vs.set i v)
 |[],vs,i,h=>by rw[h.inv_nil];simp[RelDs.nil]
 |x::ds,vs,0,h=>by
  let(w,r,rfl,q,t):=h.inv_cons;show RelDs.cons a t
 |x::ds,vs,i+1,h=>by
  let(w,r,rfl,q,t):=h.inv_cons;show RelDs.cons q (RelDs.set a i t)
def RelDs.dropLast{ds:List D}{vs:List V}(h:RelDs K ρ H ds vs):RelDs K ρ H ds.dropLast vs.dropLast:=by
 rw[Sd,Sd,⇑h];show h.take _
theorem Jvu(h:RelDs K ρ H ds vs)(e:atI ds i=-d):∃v,atI vs i=-v/\RelD K ρ H d v:=by
 unfold atI at e ⊢;rw[<-⇑h];cases q:ixN ⇑ds i with
 |none=>rw[q]at e;cases e
 |some j=>
  rw[q]at e;show h.get e
section
variable {κ κ':Type} {e:κ->κ'} [DecidableEq κ] [DecidableEq κ']
theorem RelKv.fu(f:Fu K ρ H ρ' H'):∀{kvs:List (κ×D)} {a:List (κ'×V)},RelKv e K ρ H kvs a->RelKv e K ρ' H' kvs a
 |[],a,h=>h
 |p::r,a,h=>by
  let(v,us,e,q,t):=h;exists v,us,e,q.fu f,RelKv.fu f t
def RelKv.fut(f:Fut K ρ H ρ' H')(h:RelKv e K ρ H kvs a):RelKv e K ρ' H' kvs a:=h.fu f.fu
theorem RelKv.get{kvs:List (κ×D)}{b:List (κ'×V)}{i:Nat}{p:κ×D}(r:RelKv e K ρ H kvs b)(h:kvs[i]? =-p):∃v,b[i]? =-(e p.1,v)/\RelD K ρ H p.2 v:=by
 induction kvs generalizing b i with
 |nil=>simp at h
 |cons a kvs c=>
  let(v,_,rfl,q,t):=r;cases i with
  |zero=>cases h;exists v,rfl,q
  |succ i=>show(c t h:)
theorem RelKv.length:∀{kvs:List (κ×D)} {a:List (κ'×V)},RelKv e K ρ H kvs a->⇑kvs=⇑a
 |[],a,h=>by cases(show a=[]from h);rfl
 |p::r,a,h=>by
  let(v,us,rfl,q,t):=h;simp[RelKv.length t]
theorem RelKv.keys:∀{kvs:List (κ×D)} {a:List (κ'×V)},RelKv e K ρ H kvs a->a.map (·.1)=(kvs.map (·.1)).map e
 |[],a,h=>by cases(show a=[]from h);rfl
 |p::r,a,h=>by
  let(v,us,rfl,q,t):=h;simp[RelKv.keys t]
variable (ei:∀a b,e a=e b->a=b) (k:κ)
include ei
theorem RelKv.val:∀{kvs:List (κ×D)} {a:List (κ'×V)},RelKv e K ρ H kvs a->(dVal kvs k=none/\X3 a (e k)=none)\/∃d v,dVal kvs k=-d/\X3 a (e k)=-v/\RelD K ρ H d v
 |[],a,h=>by cases(show a=[]from h);show .inl #[rfl,rfl]
 |p::r,a,h=>by
  let(v,us,rfl,q,t):=h
  by_cases z:p.1=k
  .show .inr #[p.2,v,?_,Jc7 (congrArg e z),q];simp[dVal,D4,z]
  .rw[Jc8 (λq=>z (ei _ _ q)),show dVal (p::r) k=dVal r k by simp[dVal,D4,z]];show RelKv.val t
def RelKv.put(q:RelD K ρ H d v)(h:RelKv e K ρ H kvs a):RelKv e K ρ H (dPut kvs k d) (putK a (e k) v):=by
 let i:∀{kvs:List (κ×D)} {a:List (κ'×V)},RelKv e K ρ H kvs a->kvs.any (λp=>decide (p.1=k))=a.any (λc=>decide (c.1=e k)):=by
  intro kvs
  induction kvs with
  |nil=>intro a h;cases(show a=[]from h);rfl
  |cons p r b=>
   intro a h;let(u,l,rfl,g,t):=h;rw[Gy,Gy,b t];congr 1;show decide_eq_decide.2 #[λz=>congrArg e z,λz=>ei _ _ z]
 let f:∀{kvs:List (κ×D)} {a:List (κ'×V)},RelKv e K ρ H kvs a->RelKv e K ρ H (kvs++[(k,d)]) (a++[(e k,v)]):=by
  intro kvs
  induction kvs with
  |nil=>intro a h;cases(show a=[]from h);exists v,[],rfl,q,rfl
  |cons p r b=>
   intro a h;let(u,l,rfl,g,t):=h;exists u,_,rfl,g,b t
 let j:∀{kvs:List (κ×D)} {a:List (κ'×V)},RelKv e K ρ H kvs a->RelKv e K ρ H (kvs.map (λp=>if p.1=k then(p.1,d)else p)) (a.map (λc=>if c.1=e k then(c.1,v)else c)):=by
  intro kvs
  induction kvs with
  |nil=>intro a h;cases(show a=[]from h);rfl
  |cons p r b=>
   intro a h;let(u,l,rfl,g,t):=h
   by_cases z:p.1=k
   .rw[Bf,Bf,if_pos z,if_pos (congrArg e z)];exists v,_,rfl,q,b t
   .rw[Bf,Bf,if_neg z,if_neg λq=>z (ei _ _ q)];exists u,_,rfl,g,b t
 unfold dPut putK;rw[i h];split
 .show j h
 .show f h
theorem RelKv.drop:∀{kvs:List (κ×D)} {a:List (κ'×V)},RelKv e K ρ H kvs a->RelKv e K ρ H (dDrop kvs k) (X9 a (e k))
 |[],a,h=>by cases(show a=[]from h);rfl
 |p::r,a,h=>by
  let(v,us,rfl,q,t):=h;let b:=RelKv.drop t;unfold dDrop X9 at b ⊢
  by_cases z:p.1=k
  .rw[Rb (by erw[z]),Rb (by erw[congrArg e z])];show b
  .rw[Ra (by erw[z]),Ra (by simpa using λq=>z (ei _ _ q))];exists v,_,rfl,q,b
end
def Jna{c d:Type}(a b:c)(h:(Hn a:c ⊕ d)=Hn b):a=b:=Kg h
def Jdr(a b:Rdu.PK)(h:pK a=pK b):a=b:=by
 injection h with d c;injection c with c _;show N1 (Kg d) (Kg c)
def Yg.fu(f:Fu K ρ H ρ' H')(x:Yg K H r a):Yg K H' r a:=by
 let(bs,c,d):=x;exists bs,f.tup _ _ c,Paired.mapP d λ_ _ q=>f.tup _ _ q
theorem Xl.fu(f:Fu K ρ H ρ' H'):∀{kvs:List (RK×D)} {xs:List (RK×Addr×Value)},Xl K ρ H kvs xs->Xl K ρ' H' kvs xs
 |[],xs,h=>h
 |p::r,xs,h=>by
  let(a,u,v,ys,e,l,b,q,t):=h;exists a,u,v,ys,e,Yg.fu f l,b,q.fu f,Xl.fu f t
def Xl.fut(f:Fut K ρ H ρ' H')(h:Xl K ρ H kvs xs):Xl K ρ' H' kvs xs:=h.fu f.fu
theorem Xl.mem:∀{kvs:List (RK×D)} {xs:List (RK×Addr×Value)},Xl K ρ H kvs xs->∀x∈xs,Yg K H x.1 x.2.1
 |[],xs,h,x,hx=>by cases(show xs=[]from h);cases hx
 |p::r,xs,h,x,hx=>by
  let(a,u,v,ys,rfl,l,b,q,t):=h;rcases An.1 hx with rfl|hx
  .show l
  .show Xl.mem t x hx
theorem Xl.length:∀{kvs:List (RK×D)} {xs:List (RK×Addr×Value)},Xl K ρ H kvs xs->⇑kvs=⇑xs
 |[],xs,h=>by cases(show xs=[]from h);rfl
 |p::r,xs,h=>by
  let(a,u,v,ys,rfl,l,b,q,t):=h;simp[Xl.length t]
theorem Xl.val(k:RK):∀{kvs:List (RK×D)} {xs:List (RK×Addr×Value)},Xl K ρ H kvs xs->dVal kvs k=-d->∃p v,Hl xs k=-p/\RelV v p.2/\RelD K ρ H d v
 |[],xs,h,e=>by cases e
 |p::r,xs,h,e=>by
  let(a,u,v,ys,rfl,l,b,q,t):=h
  by_cases z:p.1=k
  .let:dVal (p::r) k=some p.2:=by simp[dVal,D4,z]
   rw[this]at e;cases e;exists(a,u),v,by simp[Hl,z],b,q
  .rw[show dVal (p::r) k=dVal r k by simp[dVal,D4,z]]at e;let(c,f,g,i):=Xl.val k t e;exists c,f,by simpa [Hl,z]using g,i
def Xl.put(l:Yg K H k a)(m:RelV v u)(q:RelD K ρ H d v)(h:Xl K ρ H kvs xs):Xl K ρ H (dPut kvs k d) (Rf xs k a u):=by
 let e:∀{kvs:List (RK×D)} {xs:List (RK×Addr×Value)},Xl K ρ H kvs xs->kvs.any (λp=>decide (p.1=k))=(Hl xs k).isSome/\Xl K ρ H (kvs++[(k,d)]) (xs++[(k,a,u)])/\Xl K ρ H (kvs.map (λp=>if p.1=k then(p.1,d)else p)) (xs.map (putAt k u)):=by
  intro kvs
  induction kvs with
  |nil=>intro xs h;cases(show xs=[]from h);exists rfl,#[a,u,v,[],rfl,l,m,q,rfl],rfl
  |cons p r w=>
   intro xs h;let(f,n,o,x,rfl,g,b,s,t):=h;let(i,j,c):=w t;exists ?_,#[f,n,o,_,rfl,g,b,s,j],?_
   .by_cases z:p.1=k
    .simp[Hl,z]
    .rw[Gy,i];simp[Hl,z]
   .by_cases z:p.1=k
    .simp only[Bf,if_pos z,putAt];exists f,u,v,_,rfl,g,m,q,c
    .simp only[Bf,if_neg z,putAt];exists f,n,o,_,rfl,g,b,s,c
 let(i,j,c):=e h;unfold dPut Rf;rw[i];split
 .show c
 .show j
theorem Yb.fu(f:Fu K ρ H ρ' H'):∀{b:List (String×D)} {a:List (Str×V)},Yb K ρ H b a->Yb K ρ' H' b a
 |[],a,h=>h
 |p::r,a,h=>by
  let(v,us,e,q,t):=h;exists v,us,e,q.fu f,Yb.fu f t
theorem Yb.length:∀{b:List (String×D)} {a:List (Str×V)},Yb K ρ H b a->⇑b=⇑a
 |[],a,h=>by cases(show a=[]from h);rfl
 |p::r,a,h=>by
  let(v,us,rfl,q,t):=h;simp[Yb.length t]
theorem Yb.look(f:String):∀{b:List (String×D)} {a:List (Str×V)},Yb K ρ H b a->(b.lookup f=none/\a.lookup (Ac f)=none)\/∃d v,b.lookup f=-d/\a.lookup (Ac f)=-v/\RelD K ρ H d v
 |[],a,h=>by cases(show a=[]from h);show .inl #[rfl,rfl]
 |p::r,a,h=>by
  let(v,us,rfl,q,t):=h;let(g,d):=p
  by_cases e:f=g
  .subst e;show .inr #[d,v,by simp[F3],by simp[F3],q]
  .let c:(Ac f==Ac g)=false:=beq_eq_false_iff_ne.2 λz=>e (Jmn z);let i:(f==g)=false:=beq_eq_false_iff_ne.2 e;simp only[F3,c,i];show Yb.look f t
theorem Yb.put(f:String)(q:RelD K ρ H d v):∀{b:List (String×D)} {a:List (Str×V)},Yb K ρ H b a->Yb K ρ H (putD f d b) (Xx (Ac f) v a)
 |[],a,h=>by cases(show a=[]from h);exists v,[],rfl,q,rfl
 |p::r,a,h=>by
  let(u,us,rfl,c,t):=h
  by_cases e:p.1=f
  .rw[show putD f d (p::r)=(p.1,d)::r from if_pos e,show Xx (Ac f) v ((Ac p.1,u)::us)=(Ac p.1,v)::us from if_pos (congrArg _ e)];exists v,us,rfl,q,t
  .rw[show putD f d (p::r)=p::putD f d r from if_neg e,show Xx (Ac f) v ((Ac p.1,u)::us)=(Ac p.1,u)::Xx (Ac f) v us from if_neg λz=>e (Jmn z)];exists u,_,rfl,c,Yb.put f q t
theorem RelO.fu(f:Fu K ρ H ρ' H')(g:H' a=H a)(h:RelO K ρ H a o):RelO K ρ' H' a o:=by
 cases o with
 |lst k=>let(b,e,r):=h;exists b,g.trans e,r.fu f
 |dct d=>let(b,e,r):=h;exists b,g.trans e,r.fu f
 |dtu d=>let(b,e,r):=h;exists b,g.trans e,r.fu f
 |fz d=>let(b,o,e,r):=h;exists b,o,g.trans e,r.fu f
 |rg d=>let(b,e,r):=h;exists b,g.trans e,r.fu f
 |ins c l=>let(C,i,j,n,e,r):=h;exists C,i,j,n,g.trans e,r.fu f
def RelO.fut(f:Fut K ρ H ρ' H')(b:H' a=H a)(h:RelO K ρ H a o):RelO K ρ' H' a o:=h.fu f.fu b
theorem RelO.some(h:RelO K ρ H a o):H a≠none:=by
 cases o with
 |lst f=>let(d,e,r):=h;rw[e];simp
 |dct b=>let(d,e,r):=h;rw[e];simp
 |dtu b=>let(d,e,r):=h;rw[e];simp
 |fz b=>let(d,o,e,r):=h;rw[e];simp
 |rg b=>let(d,e,r):=h;rw[e];simp
 |ins c g=>let(C,i,j,n,e,r):=h;rw[e];simp
def RelS.at(r:RelS K ρ S H){l:Nat}{a:Addr}(h:ρ[l]? =-a):∃o,S[l]? =-o/\RelO K ρ H a o:=by
 let b:l<⇑S:=by rw[<-r.len];show(Ad.1 h).1
 exists S[l],Ae b,r.ob l a _ h (Ae b)
def Ja2(n:H p=none)(t:List Addr):Fut K ρ H (ρ++t) (upd H p o):=by
 show#[#[t,rfl],λa b h=>?_,λa o u h=>by rw[Jad (Jam h n)];show h];rcases h with h|h
 .show .inl (by rw[Jad (Jam h n)];show h)
 .show .inr h
def Jay(n:H p=none):Fut K ρ H ρ (upd H p o):=by
 let q:=Ja2 (K:=K) (ρ:=ρ) (o:=o) n [];rwa[Co]at q
def RelS.new(r:RelS K ρ S H)(n:H p=none):RelS K ρ S (upd H p o):=
 #[r.len,r.nd,λl a u b c=>by
  let q:=r.ob l a u b c;show q.fut (Jay n) (Jad λz=>q.some (z▸n))]
def RelS.alloc(r:RelS K ρ S H){p:Addr}{xs:List V}{ds:List D}(n:H p=none)(h:RelDs K ρ H ds xs):RelS K (ρ++[p]) (S++[.lst ds]) (upd H p (.lst xs)):=by
 let hp:p∉ρ:=λz=>by
  let(l,f):=Su z;let(o,_,q):=r.at f;show q.some n
 exists by rw[Al,Al,r.len];rfl,?_,λl a o c d=>?_
 .rw[Cw];exists r.nd,by simp,λa g b hb=>by rw[Ap.1 hb];show λe=>hp (e▸g)
 .by_cases f:l<⇑ρ
  .rw[A0 f]at c;rw[A0 (by rw[<-r.len];show f)]at d;let q:=r.ob l a o c d;show q.fut (Ja2 n [p]) (Jad λz=>q.some (z▸n))
  .let e:l=⇑ρ:=by
    let:=(Ad.1 c).1;rw[Al,Cm]at this
    lia
   subst e;rw[Au (Aj _),Ff]at c;rw[Au (by rw[r.len];show Aj _),r.len,Ff]at d;simp at c d;subst c d;exists xs,Jae,h.fut (Ja2 n [_])
def Jcg{ρ:List Addr}(c:ρ.Nodup){i j:Nat}{x:Addr}(a:ρ[i]? =-x)(b:ρ[j]? =-x):i=j:=by
 let(d,e):=Ad.1 a;let(f,g):=Ad.1 b;rcases Jb i j with h|h|h
 .show absurd (e.trans g.symm) (B7.1 c i j d f h)
 .show h
 .show absurd (g.trans e.symm) (B7.1 c j i f d h)
def Jcv(h:H p=-(.lst xs)):Fut K ρ H ρ (upd H p o):=by
 show#[#[[],by simp],λa b q=>?_,λa o u q=>by rw[Jad (Jes q h (by intro z;cases z))];show q];rcases q with q|q
 .show .inl (by rw[Jad (Jes q h (by intro z;cases z))];show q)
 .show .inr q
def RelS.set(r:RelS K ρ S H){l:Nat}{p:Addr}{xs ys:List V}{ds:List D}(d:ρ[l]? =-p)(h:H p=-(.lst xs))(hd:RelDs K ρ H ds ys):RelS K ρ (S.set l (.lst ds)) (upd H p (.lst ys)):=by
 exists by rw[F1];show r.len,r.nd,λk a o b c=>?_
 by_cases e:l=k
 .subst e;rw[d]at b;cases b;let f:l<⇑S:=by rw[<-r.len];show(Ad.1 d).1
  rw[Dv f]at c;cases c;exists ys,Jae,hd.fut (Jcv h)
 .rw[A1 e]at c;let g:a≠p:=λz=>by
   subst z;show e (Jcg r.nd d b)
  show(r.ob k a o b c).fut (Jcv h) (Jad g)
def Jca{o:HO}(h:H p=-o0)(c:∀xs,o0≠ .tup xs)(d:∀o u,o0≠ .frz o u):Fut K ρ H ρ (upd H p o):=by
 let b:∀a u,H a=-u->(∀xs,u≠ .tup xs->u≠ .tup xs)->u≠o0->a≠p:=λa u q _ z e=>by rw[e,h]at q;show z (Bj q).symm
 show#[#[[],by simp],λa f q=>?_,λa o u q=>by rw[Jad (b a _ q (λ_ z=>z) λz=>d _ _ z.symm)];show q];rcases q with q|q
 .show .inl (by rw[Jad (b a _ q (λ_ z=>z) λz=>c _ z.symm)];show q)
 .show .inr q
def RelS.allocO(r:RelS K ρ S H){p:Addr}{o:HO}{ob:Obj}(n:H p=none)(h:RelO K (ρ++[p]) (upd H p o) p ob):RelS K (ρ++[p]) (S++[ob]) (upd H p o):=by
 let hp:p∉ρ:=λz=>by
  let(l,f):=Su z;let(o,_,q):=r.at f;show q.some n
 exists by rw[Al,Al,r.len];rfl,?_,λl a u c d=>?_
 .rw[Cw];exists r.nd,by simp,λa g b hb=>by rw[Ap.1 hb];show λe=>hp (e▸g)
 .by_cases f:l<⇑ρ
  .rw[A0 f]at c;rw[A0 (by rw[<-r.len];show f)]at d;let q:=r.ob l a u c d;show q.fut (Ja2 n [p]) (Jad λz=>q.some (z▸n))
  .let e:l=⇑ρ:=by
    let:=(Ad.1 c).1;rw[Al,Cm]at this
    lia
   subst e;rw[Au (Aj _),Ff]at c;rw[Au (by rw[r.len];show Aj _),r.len,Ff]at d;simp at c d;subst c d;show h
def RelS.setW(r:RelS K ρ S H){l:Nat}{p:Addr}{o0 o:HO}{ob:Obj}(d:ρ[l]? =-p)(f:Fu K ρ H ρ (upd H p o))(new:RelO K ρ (upd H p o) p ob):RelS K ρ (S.set l ob) (upd H p o):=by
 exists by rw[F1];show r.len,r.nd,λk a u b c=>?_
 by_cases e:l=k
 .subst e;rw[d]at b;cases b;let g:l<⇑S:=by rw[<-r.len];show(Ad.1 d).1
  rw[Dv g]at c;cases c;show new
 .rw[A1 e]at c;let h:a≠p:=λz=>by
   subst z;show e (Jcg r.nd d b)
  show(r.ob k a u b c).fu f (Jad h)
def RelS.setO(r:RelS K ρ S H){l:Nat}{p:Addr}{o0 o:HO}{ob:Obj}(b:ρ[l]? =-p)(f:Fut K ρ H ρ (upd H p o))(new:RelO K ρ (upd H p o) p ob):RelS K ρ (S.set l ob) (upd H p o):=r.setW (o0:=o0) b f.fu new
structure RelE(K:Ah)(ρ:List Addr)(H:Hp)(Z:En)(σ:St):Prop where
 len:⇑Z=⇑σ
 at':∀(i:Nat) (d:D),Z[i]? =-(-d)->∃v,σ[i]? =-(-v)/\RelD K ρ H d v
def RelE.fut(f:Fut K ρ H ρ' H')(r:RelE K ρ H Z σ):RelE K ρ' H' Z σ:=
 #[r.len,λi d h=>let#[v,e,q]:=r.at' i d h;#[v,e,q.fut f]]
def RelE.set{Z:En}{σ:St}(r:RelE K ρ H Z σ)(q:RelD K ρ H d v)(i:Nat):RelE K ρ H (Z.set i (-d)) (σ.set i (-v)):=by
 exists by rw[F1,F1];show r.len,λj e h=>?_
 by_cases z:i=j
 .subst z
  by_cases a:i<⇑Z
  .rw[Dv a]at h;cases h;exists v,Dv (by rw[<-r.len];show a),q
  .rw[Ft (by rw[F1];lia)]at h;cases h
 .rw[A1 z]at h;rw[A1 z];show r.at' j e h
theorem RelE.inner(r:RelE K ρ H Z σ)(k:Nat)(keep:List Nat):RelE K ρ H (Xt k keep Z) (Ze k keep σ):=by
 unfold Xt Ze;exists by simp,λi d h=>?_
 by_cases b:i<k
 .rw[A0 (by erw[b]),Gj,if_pos b]at h;cases h
 .rw[Au (by erw[b]),Je,Ao]at h;rw[Au (by erw[b]),Je,Ao];cases c:keep[i-k]? with
  |none=>rw[c]at h;cases h
  |some j=>
   rw[c]at h;let a:(Z[j]?).join=-d:=Bj h;let a:Z[j]? =-(-d):=by
    cases q:Z[j]? with
    |none=>rw[q]at a;cases a
    |some y=>rw[q]at a;show congrArg some a
   let(v,e,q):=r.at' j d a;exists v,?_,q;change some ((σ[j]?).join)=-(-v);rw[e];rfl
noncomputable def Wc3(Z a:En):Prop:=⇑a=⇑Z/\∀(i:Nat) (d:D),a[i]? =-(-d)->Z[i]? =-(-d)
def RelE.less(r:RelE K ρ H Z σ)(l:Wc3 Z a):RelE K ρ H a σ:=#[l.1.trans r.len,λi d h=>r.at' i d (l.2 i d h)]
end Mi
namespace Mi
open PySem L2
noncomputable def Wcd:Bop->Operator
 |.add=>.Add
 |.shr=>.RShift
 |.sub=>.Sub
 |.mul=>.Mult
 |.fdiv=>.FloorDiv
 |.mod=>.Mod
 |.pow=>.Pow
noncomputable def Y4:Cop->CmpOp
 |.eq=>.Eq
 |.ne=>.NotEq
 |.lt=>.Lt
 |.le=>.LtE
 |.gt=>.Gt
 |.ge=>.GtE
 |.isc=>.Is
 |.isnc=>.IsNot
 |.inn=>.In
 |.nin=>.NotIn
def Fin(K:Ah)(ρ:List Addr)(H:Hp)(d:D)(c:Store)(Q:VK):Prop:=
 ∀(a:List Addr) (v:V) (b:Hp),Fut K ρ H a b->RelS K a c b->RelD K a b d v->Q v b
variable {K:Ah} {ρ ρ':List Addr} {H H':Hp} {S S':Store} {d:D} {Q:VK}
def Fin.now(f:Fin K ρ H d S Q)(r:RelS K ρ S H)(q:RelD K ρ H d v):Q v H:=f ρ v H Fut.refl r q
def Fin.newT(f:Fin K ρ H (.tup ds) S Q)(r:RelS K ρ S H)(q:RelDs K ρ H ds xs):∀p,H p=none->Q (.ref p) (upd H p (.tup xs)):=λp n=>
 f ρ _ _ (Jay n) (r.new n) (by simp only[RelD];exists p,xs,rfl,SqT.of Jae,q.fut (Jay n))
def Fin.newL(f:Fin K ρ H (.loc ⇑S) (S++[.lst ds]) Q)(r:RelS K ρ S H)(q:RelDs K ρ H ds xs):∀p,H p=none->Q (.ref p) (upd H p (.lst xs)):=λp n=>
 f (ρ++[p]) _ _ (Ja2 n [p]) (r.alloc n q) (by simp only[RelD];exists p,rfl,by rw[<-r.len,Au (Aj _),Ff];rfl)
def RelD.int_inv(h:RelD K ρ H (.int i) v):v=.int i:=by simpa only[RelD]using h
def RelD.bl_inv(h:RelD K ρ H (.bl i) v):v=.bl i:=by simpa only[RelD]using h
def RelD.str_inv(h:RelD K ρ H (.str i) v):v=.str i:=by simpa only[RelD]using h
def RelD.non_inv(h:RelD K ρ H .non v):v=.non:=by simpa only[RelD]using h
inductive TupI (K:Ah) (ρ:List Addr) (H:Hp) (ds:List D) (v:V):Prop
 |mk (a xs) (_:v=.ref a) (_:SqT K H a xs) (_:RelDs K ρ H ds xs):TupI K ρ H ds v
def RelD.tup_inv(h:RelD K ρ H (.tup ds) v):TupI K ρ H ds v:=by
 let(v,a,e,q,r):=h;exists v,a,e,q,r
inductive KlI (K:Ah) (ρ:List Addr) (H:Hp) (ds:List D) (v:V):Prop
 |mk (a xs) (_:v=.ref a) (_:SqF K H a xs) (_:RelDs K ρ H ds xs):KlI K ρ H ds v
def RelD.kl_inv(h:RelD K ρ H (.kl ds) v):KlI K ρ H ds v:=by
 let(v,a,e,q,r):=h;exists v,a,e,q,r
def RelD.loc_inv(h:RelD K ρ H (.loc l) v):∃a,v=.ref a/\ρ[l]? =-a:=by simpa only[RelD]using h
def RelD.int(i:Int):RelD K ρ H (.int i) (.int i):=by simp only[RelD]
def RelD.bl(i:Bool):RelD K ρ H (.bl i) (.bl i):=by simp only[RelD]
def RelD.str(i:Str):RelD K ρ H (.str i) (.str i):=by simp only[RelD]
def RelD.non:RelD K ρ H .non .non:=by simp only[RelD]
def RelD.kd_inv(h:RelD K ρ H (.kd kvs) v):∃a,v=.ref a/\Xr K a kvs:=by simpa only[RelD]using h
open PyProof.Rows in
theorem Jjo:∀{es:List Ce} {h:Heap} {a b:List (Str×Int)},KTD.Rows (Ws h) es (a.map λp=>(p.1,Fz (.int p.2)))->KTD.Rows (Ws h) es (b.map λp=>(p.1,Fz (.int p.2)))->a=b
 |[],h,a,b,c,f=>by
  cases a with
  |cons p a=>cases c
  |nil=>
   cases b with
   |cons p b=>cases f
   |nil=>rfl
 |e::es,h,a,b,c,f=>by
  cases a with
  |nil=>cases c
  |cons p a=>
   cases b with
   |nil=>cases f
   |cons q b=>
    let(x,n):=p;let(y,m):=q;cases c with
    |cons j k l=>
     cases f with
     |cons g o r=>
      rw[j]at g;cases g;let(t,s):=N0 k;let(u,i):=N0 o;rw[s]at i;cases i;rw[Jjo l r]
open PyProof.Rows in
def Xr.text{kvs:List (Str×Int)}(d:Xr K a kvs)(b:K.In h):KTD.TextTab h a (kvs.map λp=>(p.1,Fz (.int p.2))):=PySem.W.kt_text_in b d
def Xr.inj(d:Xr K a kvs)(d':Xr K a b)(g:K.In h):kvs=b:=by
 let(_,o,m,n,i,_,hd,j):=d.text g;let(_,p,k,l,c,_,e,f):=d'.text g;rw[i]at c;cases c;rw[hd]at e;cases e;show Jjo j f
def Xr.obj{h:Heap}(d:Xr K a kvs)(b:K.In h):∃o,h.get? a=-o/\o.ExactDict:=by
 let(_,o,f,g,c,e,_):=d.text b;exists o,c,e
inductive LstI (K:Ah) (ρ:List Addr) (H:Hp) (l:Nat) (v:V) (ds:List D):Prop
 |mk (a xs) (_:v=.ref a) (_:ρ[l]? =-a) (_:H a=-(.lst xs)) (_:RelDs K ρ H ds xs):LstI K ρ H l v ds
def RelS.lst(r:RelS K ρ S H)(h:RelD K ρ H (.loc l) v)(e:S[l]? =-(.lst ds)):LstI K ρ H l v ds:=by
 let(a,rfl,b):=h.loc_inv;let(c,f,q):=r.ob l a _ b e;exists a,c,rfl,b,f,q
def Jah(e:seqAt S l=-ds):S[l]? =-(.lst ds):=by
 unfold seqAt at e;split at e
 .cases e;assumption
 .cases e
def RelS.seq(r:RelS K ρ S H)(h:RelD K ρ H x v)(e:Xm S x=-ds):∃a xs,v=.ref a/\(SqL K H a xs\/SqT K H a xs)/\RelDs K ρ H ds xs:=by
 unfold Xm at e;split at e
 .cases e;let(a,xs,rfl,q,t):=h.tup_inv;exists a,xs,rfl,.inr q,t
 .let(a,xs,rfl,_,q,t):=r.lst h (Jah e);exists a,xs,rfl,.inl (SqL.of q),t
 .cases e;let(a,xs,rfl,q,t):=h.kl_inv;exists a,xs,rfl,.inl q.sq,t
 .cases e
theorem Ja7:Line=sizeLine:=by rw[G2];rfl
section
open PySem.Spec PyProof.Rows PyProof
section
open L2
variable {X:Cx}
def Jpj:OpR X (Hc .Add) (λx y H Q=>∃a b ys,x=.ref a/\y=.ref b/\SqT X.K H a []/\SqT X.K H b ys/\Q (.ref b) H):=by
 intro l s L H x y v u Q I rx r h;let(a,b,ys,rfl,rfl,t,hb,q):=h;cases rx;cases r;let(i,w,z,_):=I.tuple t;let(c,N,A,_):=I.tuple hb;let C:i=[]:=w.nil_iff.2 rfl;subst C;obtain⟨⟨E,dd,m,sl⟩,o,hc,n,hd⟩:=id z;obtain⟨⟨p,j,data2,k⟩,e,f,J,g⟩:=id A;simp only at hc hd f g;subst hc hd f g;show Nj #[_,o,rfl] #[_,e,rfl] N5 Qa K9 Ku (Km _ _) (PyProof.Rows.tuple_addW0 a b #[] c.toArray n J dd j sl k rfl) #[o,e,#[.ref b,H,I,rfl,q]]
end
end
def rB(K:Ah)(o:Bop):R2:=λx y H Q=>∃ρ S a b d S',RelS K ρ S H/\RelD K ρ H a x/\RelD K ρ H b y/\bop o a b S=.ok d S'/\Fin K ρ H d S' Q
def Jn5{i:Int}(h:i.natAbs<2^4096):B4 i<=2^20:=by
 unfold B4;split
 .show Dk _
 .let hp:i.natAbs≠0:=by
   rename_i z;intro e;show z (by simp[Int.natAbs_eq_zero.1 e])
  let:i.natAbs.log2<4096:=(Nat.log2_lt hp).mpr h;let:(2:Nat)^20=1048576:=by decide
  lia
def Juw{n:Nat}(h:n<2^4096):n.log2<9000:=by
 by_cases e:n=0
 .subst e;decide+kernel
 .let:=(Nat.log2_lt e).mpr h
  lia
section
variable {X:Cx}
def Jul:OpR X (Hc .Mult) (rI (λi j=>(small i||small j||(mid i&&mid j))=true) λi j=>.int (i*j)):=opI λi j _ _ _ _ _ hc q=>PyProof.Rows.mul_int q (by
 simp only[Ib,Am,small,mid,decide_eq_true_eq]at hc;rcases hc with(h|h)|h
 .show Wa6.ok (.inl h)
 .show Wa6.ok (.inr h)
 .show IntMulOk.of_bits (Jn5 h.1) (Jn5 h.2))
def Jpi:OpR X (Hc .FloorDiv) (rI (λ_ j=>0<j/\j.natAbs<2^4096) λi j=>.int (i/j)):=opI λi j _ _ _ _ _ hc q=>by
 show PyProof.Rows.floordiv_int (by omega) ?_ (.inl (PyProof.noPylong_of_log2 (Juw hc.2)));rw[Qk i (by omega)];show q
theorem Jzi(o:Bop):OpR X (Hc (Wcd o)) (rB X.K o):=by
 intro c s h H x y v u Q I rx i E;let(ρ,S,n,r,d,S',g,j,k,e,fin):=E;cases o with
 |add=>
  cases n<;>first|show absurd e Jac|(cases r<;>first|show absurd e Jac|(delta bop at e;dsimp only at e))
  .cases e;cases j.int_inv;cases k.int_inv;show Jxu c s h H _ _ v u Q I rx i #[_,_,rfl,rfl,fin.now g (RelD.int _)]
  .split at e
   .rename_i f;cases e;let(a,t,rfl,w,l):=j.tup_inv;let(b,z,rfl,A,m):=k.tup_inv
    by_cases C:t=[]
    .subst C;let:=⇑l;rw[H9]at this;let L:=Ci.1 this;subst L;show Jpj c s h H _ _ v u Q I rx i #[a,b,z,rfl,rfl,w,A,fin.now g ?_];simp only[RelD,Ly];exists b,z,rfl,A,m
    show Jum c s h H _ _ v u Q I rx i #[a,b,t,z,rfl,rfl,w,A,C,?_,λN=>?_,λ_=>fin.newT g (l.append m)]
    .rw[<-⇑l,<-⇑m,<-Ja7];show f
    .subst N;let:=⇑m;rw[H9]at this;let U:=Ci.1 this;subst U;show fin.now g ?_;simp only[RelD,Co];exists a,t,rfl,w,l
   .cases e
  .split at e
   .rename_i a b Y hb;split at e
    .rename_i f;cases e;let(p,t,rfl,_,w,l):=g.lst j Y;let(J,z,rfl,_,A,m):=g.lst k hb;show Jxt c s h H _ _ v u Q I rx i #[p,J,t,z,rfl,rfl,w,A,by rw[<-⇑l,<-⇑m,<-Ja7];show f,fin.newL g (l.append m)]
    .cases e
   .cases e
  .split at e
   .rename_i b hb;split at e
    .rename_i f;cases e;let(p,t,rfl,w,l):=j.kl_inv;let(J,z,rfl,_,A,m):=g.lst k hb;show Jun c s h H _ _ v u Q I rx i #[p,J,t,z,rfl,rfl,w.sq,SqL.of A,by rw[<-⇑l,<-⇑m,<-Ja7];show f,fin.newL g (l.append m)]
    .cases e
   .cases e
 |shr=>
  cases n<;>first|show absurd e Jac|(cases r<;>first|show absurd e Jac|(delta bop at e;dsimp only at e))
  split at e
  .rename_i f;cases e;cases j.int_inv;cases k.int_inv;show Jxp c s h H _ _ v u Q I rx i #[_,_,rfl,rfl,f,fin.now g (RelD.int _)]
  .cases e
 |sub=>
  cases n<;>first|show absurd e Jac|(cases r<;>first|show absurd e Jac|(delta bop at e;dsimp only at e))
  cases e;cases j.int_inv;cases k.int_inv;show Jxo c s h H _ _ v u Q I rx i #[_,_,rfl,rfl,fin.now g (RelD.int _)]
 |mul=>
  cases n<;>first|show absurd e Jac|(cases r<;>first|show absurd e Jac|(delta bop at e;dsimp only at e))
  split at e
  .rename_i f;cases e;cases j.int_inv;cases k.int_inv;show Jul c s h H _ _ v u Q I rx i #[_,_,rfl,rfl,f,fin.now g (RelD.int _)]
  .cases e
 |fdiv=>
  cases n<;>first|show absurd e Jac|(cases r<;>first|show absurd e Jac|(delta bop at e;dsimp only at e))
  split at e
  .rename_i f;cases e;cases j.int_inv;cases k.int_inv;show Jpi c s h H _ _ v u Q I rx i #[_,_,rfl,rfl,f,fin.now g (RelD.int _)]
  .cases e
 |mod=>
  cases n<;>first|show absurd e Jac|(cases r<;>first|show absurd e Jac|(delta bop at e;dsimp only at e))
  split at e
  .rename_i f;cases e;cases j.int_inv;cases k.int_inv;show Jxr c s h H _ _ v u Q I rx i #[_,_,rfl,rfl,f,fin.now g (RelD.int _)]
  .cases e
 |pow=>
  cases n<;>first|show absurd e Jac|(cases r<;>first|show absurd e Jac|(delta bop at e;dsimp only at e))
  split at e
  .rename_i f;simp only[Am,decide_eq_true_eq]at f;cases e;cases j.int_inv;cases k.int_inv;show Jxq c s h H _ _ v u Q I rx i #[_,_,rfl,rfl,#[f.1.1,f.1.2,f.2],fin.now g (RelD.int _)]
  .cases e
end
theorem in1_units(A:Bo):A.in1.units=A.units+1:=rfl
section
variable {X:Cx} {pins:List (Addr×Fy)} {σ:L2.St} {s:Shared}
theorem Jwy(e:RelV y u)(rx:RelV x v)(f:Y2 y=true)(fx:Y2 x=true):Te A s u v (eqV y x):=by
 cases y with
 |non=>
  cases e;cases x with
  |non=>cases rx;show SeqAt.RcAt.none_none
  |bl b=>cases rx;show SeqAt.RcAt.none_bool b
  |int b=>let(t,rfl):=rx;show SeqAt.RcAt.none_int b t
  |str b=>let(t,rfl):=rx;show SeqAt.RcAt.none_str b t
  |_=>show fx9 (show false=true from fx)
 |bl a=>
  cases e;cases x with
  |non=>cases rx;show SeqAt.RcAt.bool_none a
  |bl b=>cases rx;show SeqAt.RcAt.bool_bool a b
  |int b=>let(t,rfl):=rx;show SeqAt.RcAt.bool_int a b t
  |str b=>let(t,rfl):=rx;show SeqAt.RcAt.bool_str a b t
  |_=>show fx9 (show false=true from fx)
 |int a=>
  let(c,rfl):=e;cases x with
  |non=>cases rx;show SeqAt.RcAt.int_none a c
  |bl b=>cases rx;show SeqAt.RcAt.int_bool a c b
  |int b=>let(t,rfl):=rx;show SeqAt.RcAt.int_int a c b t
  |str b=>let(t,rfl):=rx;show SeqAt.RcAt.int_str a c b t
  |_=>show fx9 (show false=true from fx)
 |str a=>
  let(c,rfl):=e;cases x with
  |non=>cases rx;show SeqAt.RcAt.str_none a c
  |bl b=>cases rx;show SeqAt.RcAt.str_bool a c b
  |int b=>let(t,rfl):=rx;show SeqAt.RcAt.str_int a c b t
  |str b=>let(t,rfl):=rx;show SeqAt.RcAt.str_str a c b t
  |_=>show fx9 (show false=true from fx)
 |_=>show fx9 (show false=true from f)
def Jdb(h:RelD K ρ H x v)(e:Yi x=-w):v=w/\Y2 w=true:=by
 cases x<;>try (cases e;done)
 .cases e;exists h.non_inv,rfl
 .cases e;exists h.bl_inv,rfl
 .cases e;exists h.int_inv,rfl
 .cases e;exists h.str_inv,rfl
def Jiy{f:D->D->Option Bool}(e:eqL f (a::as) (c::bs)=-b):∃p q,f a c=-p/\eqL f as bs=-q/\(p&&q)=b:=by
 change (match f a c,eqL f as bs with|some x,-y=>-(x&&y)|_,_=>none)=_ at e
 cases g:f a c<;>cases h:eqL f as bs<;>rw[g,h]at e<;>cases e;exists _,_,rfl,rfl,rfl
theorem Jcw{f:D->D->Option Bool}:∀{as bs:List D} {b:Bool},eqL f as bs=-b->⇑as=⇑bs->∀(i:Nat) (x y:D),as[i]? =-x->bs[i]? =-y->∃c,f x y=-c
 |[],[],b,_,_,i,x,y,g,_=>by simp at g
 |[],_::_,b,_,j,i,x,y,g,_=>by simp at g
 |_::_,[],b,_,j,i,x,y,_,h=>by simp at h
 |a::as,c::bs,b,e,j,i,x,y,g,h=>by
  let(p,q,hp,k,rfl):=Jiy e;cases i with
  |zero=>simp at g h;subst g h;exists p,hp
  |succ i=>show Jcw k (by erw[j]) i x y (by erw[g]) (by erw[h])
theorem Jiz{f:D->D->Option Bool}(e:Nat->Bool):∀{as bs:List D} {b:Bool} (k:Nat),eqL f as bs=-b->⇑as=⇑bs->(∀(i:Nat) (x y:D),as[i]? =-x->bs[i]? =-y->f x y=-(e (k+i)))->b=((Bz ⇑as).map (k+·)).all e
 |[],[],b,k,h,_,_=>by cases h;rfl
 |[],_::_,b,k,h,g,_=>by simp at g
 |_::_,[],b,k,h,g,_=>by simp at g
 |a::as,c::bs,b,k,h,g,l=>by
  let(p,q,hp,m,rfl):=Jiy h;let j:=l 0 a c rfl rfl;rw[hp]at j;let j:p=e (k+0):=Bj j;let n:=Jiz e (k+1) m (by erw[g]) λi x y o r=>by
   let:=l (i+1) x y (by erw[o]) (by erw[r]);rw[show k+1+i=k+(i+1)from by lia];show this
  rw[j,n,Bh,Lq,Bf,Qw,Bp];congr 2;show Em λi _=>?_;change k+1+i=k+(i+1)
  lia
theorem Jj6(I:Inv X pins σ H s)(r:RelS X.K ρ S H):∀(n:Nat) {x y:D} {v:V} {b:Bool},RelD X.K ρ H x v->RelD X.K ρ H y v->eqD S n x y=-b->b=true:=by
 let N:∀{x y:D} {v w z:V} {b:Bool},RelD X.K ρ H x v->RelD X.K ρ H y v->Yi x=-w->Yi y=-z->some (eqV w z)=-b->b=true:=λ{x y v w z b} g f h i e=>by
  let(rfl,U):=Jdb g h;let(rfl,f2):=Jdb f i;cases e;cases v<;>first|rfl|show fx9 U|show beq_self_eq_true _
 intro n
 induction n with
 |zero=>
  intro x y v b g f e;simp only[eqD]at e;split at e
  .rename_i w z h i;show N g f h i e
  .cases e
 |succ n Y=>
  intro x y v b g f e;let j:∀{as bs:List D} {m:List V} {b:Bool},RelDs X.K ρ H as m->RelDs X.K ρ H bs m->eqL (eqD S n) as bs=-b->b=true:=by
   intro as
   induction as with
   |nil=>
    intro bs m b g f e;cases bs with
    |nil=>cases e;rfl
    |cons c bs=>
     rw[g.inv_nil]at f;let(_,_,z,_):=f.inv_cons;cases z
   |cons a as A=>
    intro bs m b g f e;let(w,ws,rfl,q1,o):=g.inv_cons;cases bs with
    |nil=>cases f.inv_nil
    |cons c bs=>
     let(w',ws',z,q2,u):=f.inv_cons;cases z;let(p,q,hp,hq,rfl):=Jiy e;rw[Y q1 q2 hp,A o u hq];rfl
  simp only[eqD]at e;split at e
  .rename_i as bs;let(a,xs,rfl,C,o):=g.tup_inv;let(a',xs',E,J,u):=f.tup_inv;cases E;cases I.tuple_inj C J;let hl:⇑as=⇑bs:=o.length.trans u.length.symm;rw[if_pos hl]at e;show j o u e
  .rename_i l k;let(a,rfl,C):=g.loc_inv;let(a',E,J):=f.loc_inv;cases E;let L:l=k:=Jcg r.nd C J;subst L;split at e
   .rename_i as bs h i;rw[h]at i;cases i;rw[if_pos rfl]at e;let(b',xs,_,_,_,t):=r.lst g (Jah h);show j t t e
   .cases e
  .split at e
   .rename_i w z h i;show N g f h i e
   .cases e
end
end Mi
namespace Mi
open PySem L2
theorem Jox(d:RelV y u)(rx:RelV x v)(e:Y2 y=true)(fx:Y2 x=true):Q5 A s u v (!eqV y x):=by
 cases y with
 |non=>
  cases d;cases x with
  |non=>cases rx;show SeqAt.RcNeAt.none_none
  |bl b=>cases rx;show SeqAt.RcNeAt.none_bool b
  |int b=>let(t,rfl):=rx;show SeqAt.RcNeAt.none_int b t
  |str b=>let(t,rfl):=rx;show SeqAt.RcNeAt.none_str b t
  |_=>show fx9 (show false=true from fx)
 |bl a=>
  cases d;cases x with
  |non=>cases rx;show SeqAt.RcNeAt.bool_none a
  |bl b=>cases rx;show SeqAt.RcNeAt.bool_bool a b
  |int b=>let(t,rfl):=rx;show SeqAt.RcNeAt.bool_int a b t
  |str b=>let(t,rfl):=rx;show SeqAt.RcNeAt.bool_str a b t
  |_=>show fx9 (show false=true from fx)
 |int a=>
  let(c,rfl):=d;cases x with
  |non=>cases rx;show SeqAt.RcNeAt.int_none a c
  |bl b=>cases rx;show SeqAt.RcNeAt.int_bool a c b
  |int b=>let(t,rfl):=rx;show SeqAt.RcNeAt.int_int a c b t
  |str b=>let(t,rfl):=rx;show SeqAt.RcNeAt.int_str a c b t
  |_=>show fx9 (show false=true from fx)
 |str a=>
  let(c,rfl):=d;cases x with
  |non=>cases rx;show SeqAt.RcNeAt.str_none a c
  |bl b=>cases rx;show SeqAt.RcNeAt.str_bool a c b
  |int b=>let(t,rfl):=rx;show SeqAt.RcNeAt.str_int a c b t
  |str b=>let(t,rfl):=rx;show SeqAt.RcNeAt.str_str a c b t
  |_=>show fx9 (show false=true from fx)
 |_=>show fx9 (show false=true from e)
section
variable {X:Cx} {pins:List (Addr×Fy)} {σ:L2.St} {s:Shared} {ρ:List Addr} {H:Hp} {S:Store}
structure Z0(A:Bo)(s:Shared)(u w:Value)(b:Bool):Prop where
 eq:Fo A s u w b
 rc:Te A s u w b
 ne:Q5 A s u w (!b)
def Jnk(g:RelD X.K ρ H x h)(i:RelD X.K ρ H y j)(a:RelV h u)(c:RelV j w)(k:Yi x=-p)(l:Yi y=-q)(e:some (eqV p q)=-b):Z0 A s u w b:=by
 let(rfl,d):=Jdb g k;let(rfl,f):=Jdb i l;cases e;exists Jyy a c d f,Jwy a c d f,Jox a c d f
def Jmj{us c:List Value}(d:RelDs X.K ρ H as xs)(f:RelDs X.K ρ H bs ys)(g:Vals xs us)(h:Vals ys c)(l:j<us.toArray.size)(m:j<c.toArray.size):
  ∃a b v z,as[j]? =-a/\bs[j]? =-b/\RelD X.K ρ H a v/\RelD X.K ρ H b z/\RelV v us.toArray[j]/\RelV z c.toArray[j]:=by
 let i:j<⇑as:=by rw[⇑d,⇑g];erw[l]
 let k:j<⇑bs:=by rw[⇑f,⇑h];erw[m]
 let(v,n,o):=d.get (Ae i);let(z,p,r):=f.get (Ae k);let(t,u,w):=g.get n;let(x,y,A):=h.get p;exists _,_,v,z,Ae i,Ae k,o,r,?_,?_
 .let:us.toArray[j]=t:=by
   let:=Ad.1 u;let(_,e):=this
   erw[e]
  rw[this];show w
 .let:c.toArray[j]=x:=by
   let:=Ad.1 y;let(_,e):=this
   erw[e]
  rw[this];show A
theorem Jfl(I:Inv X pins σ H s)(r:RelS X.K ρ S H):∀(n:Nat) {A:Bo} {x y:D} {vx vy:V} {u w:Value} {b:Bool},A.units+n<Dm->RelD X.K ρ H x vx->RelD X.K ρ H y vy->RelV vx u->RelV vy w->eqD S n x y=-b->Z0 A s u w b:=by
 intro n
 induction n with
 |zero=>
  intro A x y vx vy u w b hu L N r1 r2 e;simp only[eqD]at e;split at e
  .rename_i p q e1 e2;show Jnk L N r1 r2 e1 e2 e
  .cases e
 |succ n ih=>
  intro A x y vx vy u w b hu L N r1 r2 e;let e0:=e;let i:A.units<Dm:=by lia
  let hu1:A.in1.units+n<Dm:=by rw[in1_units];lia
  simp only[eqD]at e;split at e
  .rename_i as bs;let(a,xs,rfl,p1,t1):=L.tup_inv;let(c,ys,rfl,p2,t2):=N.tup_inv;cases r1;cases r2;let(h,v1,Q,z1):=I.tuple p1;let(m,v2,U,z2):=I.tuple p2;let Y:h.toArray.size=⇑as:=by rw[Aw,<-⇑v1,⇑t1]
   let s2:m.toArray.size=⇑bs:=by rw[Aw,<-⇑v2,⇑t2]
   show let o:Nat->Bool:=λj=>match as[j]?,bs[j]? with|some p,-q=>(eqD S n p q).getD false|_,_=>false;?_
   let he:∀(hs:∀(j:Nat) (p q:D),as[j]? =-p->bs[j]? =-q->∃c,eqD S n p q=-c) (j:Nat) (g1:j<h.toArray.size) (g2:j<m.toArray.size),Fo A.in1 s h.toArray[j] m.toArray[j] (o j):=λhs j g1 g2=>by
    let(p,q,v,z,d,f,q1,q2,q3,q4):=Jmj t1 t2 v1 v2 g1 g2;let(c,hc):=hs j p q d f;let:o j=c:=by simp only[o,d,f,hc];rfl
    rw[this];show(ih hu1 q1 q2 q3 q4 hc).eq
   let fin:∀(hs:∀(j:Nat) (p q:D),as[j]? =-p->bs[j]? =-q->∃c,eqD S n p q=-c),((Bz (min h.toArray.size m.toArray.size)).all o&&h.toArray.size==m.toArray.size)=b->Z0 A s (.ref a) (.ref c) b:=λhs hb=>by
    let E:=SeqAt.RcAt.tuples (show s.heap.IsTuple a h.toArray from Q) (show s.heap.IsTuple c m.toArray from U) i (he hs);let J:=SeqAt.RcNeAt.tuples (show s.heap.IsTuple a h.toArray from Q) (show s.heap.IsTuple c m.toArray from U) i (he hs);rw[hb]at E J;exists ?_,E,J
    by_cases t:a=c
    .subst t;let:=Jj6 I r (n+1) L N e0;subst this;show Nb _
    .show Qp t E
   split at e
   .rename_i g;show fin (λj p q d f=>Jcw e g j p q d f) ?_;rw[Y,s2,g,Nat.min_self,beq_self_eq_true,Qx];rw[Jiz o 0 e g λj p q d f=>?_]
    .rw[g];congr 1;show(Ro _).symm.trans (Em λj _=>(C2 j).symm)
    .let(c',C):=Jcw e g j p q d f;rw[C,C2];simp only[o,d,f,C];rfl
   .rename_i g;split at e
    .rename_i hsome;cases e;let(b',hb'):=Cz.1 hsome;show fin (λj p q d f=>?_) ?_
     .let l1:=(Ad.1 d).1;let l2:=(Ad.1 f).1;show Jcw hb' (by rw[Gi,Gi,Nat.min_comm]) j p q ?_ ?_
      .rw[F7 l2];show d
      .rw[F7 l1];show f
     .let:(h.toArray.size==m.toArray.size)=false:=by rw[Y,s2];erw[g]
      rw[this,Mo]
    .cases e
  .rename_i l k;split at e
   .rename_i as bs e1 e2;let(a,xs,rfl,_,p1,t1):=r.lst L (Jah e1);let(c,ys,rfl,_,p2,t2):=r.lst N (Jah e2);cases r1;cases r2;let(h,v1,Q,z1):=I.list (SqL.of p1);let(m,v2,U,z2):=I.list (SqL.of p2);let Y:h.toArray.size=⇑as:=by rw[Aw,<-⇑v1,⇑t1]
    let s2:m.toArray.size=⇑bs:=by rw[Aw,<-⇑v2,⇑t2]
    let fin:∀(E:Te A s (.ref a) (.ref c) b) (J:Q5 A s (.ref a) (.ref c) (!b)),Z0 A s (.ref a) (.ref c) b:=λE J=>by
     exists ?_,E,J
     by_cases t:a=c
     .subst t;let:=Jj6 I r (n+1) L N e0;subst this;show Nb _
     .show Qp t E
    split at e
    .rename_i g
     show let o:Nat->Bool:=λj=>match as[j]?,bs[j]? with|some p,-q=>(eqD S n p q).getD false|_,_=>false;?_
     let he:∀(j:Nat) (g1:j<h.toArray.size) (g2:j<m.toArray.size),Fo A.in1 s h.toArray[j] m.toArray[j] (o j):=λj g1 g2=>by
      let(p,q,v,z,d,f,q1,q2,q3,q4):=Jmj t1 t2 v1 v2 g1 g2;let(c,hc):=Jcw e g j p q d f;let:o j=c:=by simp only[o,d,f,hc];rfl
      rw[this];show(ih hu1 q1 q2 q3 q4 hc).eq
     let hb:(Bz h.toArray.size).all o=b:=by
      rw[Y];rw[Jiz o 0 e g λj p q d f=>?_]
      .congr 1;show(Ro _).symm.trans (Em λj _=>(C2 j).symm)
      .let(c',C):=Jcw e g j p q d f;rw[C,C2];simp only[o,d,f,C];rfl
     let E:=SeqAt.RcAt.lists Q.isList U.isList (by rw[Y,s2,g]) i he;let J:=SeqAt.RcNeAt.lists Q.isList U.isList (by rw[Y,s2,g]) i he;rw[hb]at E J;show fin E J
    .rename_i g;cases e;let hsz:(h.toArray.size !=m.toArray.size)=true:=by rw[Y,s2];erw[g]
     show fin (SeqAt.RcAt.lists_lengths Q.isList U.isList hsz i) (SeqAt.RcNeAt.lists_lengths Q.isList U.isList hsz i)
   .cases e
  .split at e
   .rename_i p q e1 e2;show Jnk L N r1 r2 e1 e2 e
   .cases e
end
section
variable {X:Cx} {ρ:List Addr} {H:Hp} {S:Store} {pins:List (Addr×Fy)} {σ:L2.St} {s:Shared}
def Jch(I:Inv X pins σ H s)(g:SqL X.K H a xs)(h:SqT X.K H a ys):False:=by
 obtain⟨i,_,⟨o,n,e,c,_⟩,_⟩:=I.list g;obtain⟨b,_,⟨j,d,f,_⟩,_⟩:=I.tuple h;rw[e]at d;cases d;rw[c]at f;injection f with z;show absurd z 'd'
def Je2(I:Inv X pins σ H s)(f:SqL X.K H a xs)(g:Xr X.K a kvs):False:=by
 obtain⟨h,_,⟨o,n,e,c,_⟩,_⟩:=I.list f;let(i,b,x):=g.obj I.kIn;rw[e]at b;cases b;let d:=x.1;rw[c]at d;injection d with z;show absurd z 'd'
def Jdz(I:Inv X pins σ H s)(f:SqT X.K H a xs)(g:Xr X.K a kvs):False:=by
 obtain⟨h,_,⟨o,e,c,_⟩,_⟩:=I.tuple f;let(i,b,x):=g.obj I.kIn;rw[e]at b;cases b;let d:=x.1;rw[c]at d;injection d with z;show absurd z 'd'
theorem Xr.look{K:Ah}(d:Xr K a kvs):∃o,K.lookup a=-o:=by
 unfold Xr Mx at d;cases h:K.lookup a with
 |none=>simp[h]at d
 |some o=>exists o,rfl
theorem Jdc(h:RelO K ρ H a o):∃o0:HO,H a=Option.some o0/\(∀xs,o0≠ .tup xs)/\∀u w,o0≠ .frz u (.tup w)/\o0≠ .frz u (.lst w):=by
 cases o with
 |lst b=>let(xs,e,_):=h;exists _,e,(λ_ z=>by cases z),(λ_ _=>#[nofun,nofun])
 |dct b=>let(xs,e,_):=h;exists _,e,(λ_ z=>by cases z),(λ_ _=>#[nofun,nofun])
 |dtu b=>let(xs,e,_):=h;exists _,e,(λ_ z=>by cases z),(λ_ _=>#[nofun,nofun])
 |fz b=>let(xs,o,e,_):=h;exists _,e,(λ_ z=>by cases z),(λ_ _=>#[nofun,nofun])
 |rg b=>let(xs,e,_):=h;exists _,e,(λ_ z=>by cases z),(λ_ _=>#[nofun,nofun])
 |ins c d=>let(C,f,g,n,e,r):=h;exists _,e,(λ_ z=>by cases z),(λ_ _=>#[nofun,nofun])
def Wcg(I:Inv X pins σ H s){xs:List V}(e:H a=-o0)(b:∀xs,o0≠ .tup xs)(d:∀u w,o0≠ .frz u (.tup w)/\o0≠ .frz u (.lst w))(q:SqT X.K H a xs):False:=by
 rcases q with q|⟨o,_,_,c,_⟩
 .rw[e]at q;show b _ (Bj q)
 .let z:=(I.bs a o (I.ok.mod.kin a o c)).2;rw[e]at z;cases z
def Wch(I:Inv X pins σ H s)(e:H a=-o0)(b:∀u w,o0≠ .frz u (.tup w)/\o0≠ .frz u (.lst w))(q:SqF X.K H a xs):False:=by
 rcases q with⟨o,q⟩|⟨o,_,_,c,_⟩
 .rw[e]at q;show(b _ _).2 (Bj q)
 .let z:=(I.bs a o (I.ok.mod.kin a o c)).2;rw[e]at z;cases z
def Wci(I:Inv X pins σ H s)(e:H a=-o0)(q:Xr X.K a kvs):False:=by
 let(o,b):=q.look;let z:=(I.bs a o (I.ok.mod.kin a o b)).2;rw[e]at z;cases z
mutual
theorem RelD.inj(I:Inv X pins σ H s)(r:RelS X.K ρ S H):∀{d d':D} {v:V},RelD X.K ρ H d v->RelD X.K ρ H d' v->d=d'
 |.non,d',v,h,h'=>by
  cases h.non_inv;cases d'<;>simp only[RelD]at h'<;>first|rfl|(cases h';done)|(let(_,_,e,_):=h';cases e)|(let(_,e,_):=h';cases e)
 |.bl b,d',v,h,h'=>by
  cases h.bl_inv;cases d'<;>simp only[RelD]at h'<;>first|(cases h';rfl)|(cases h';done)|(let(_,_,e,_):=h';cases e)|(let(_,e,_):=h';cases e)
 |.int b,d',v,h,h'=>by
  cases h.int_inv;cases d'<;>simp only[RelD]at h'<;>first|(cases h';rfl)|(cases h';done)|(let(_,_,e,_):=h';cases e)|(let(_,e,_):=h';cases e)
 |.str b,d',v,h,h'=>by
  cases h.str_inv;cases d'<;>simp only[RelD]at h'<;>first|(cases h';rfl)|(cases h';done)|(let(_,_,e,_):=h';cases e)|(let(_,e,_):=h';cases e)
 |.tup ds,d',v,h,h'=>by
  let(a,xs,rfl,q,t):=h.tup_inv;cases d' with
  |tup n=>
   let(f,g,e,c,i):=h'.tup_inv;cases e;cases I.tuple_inj q c;rw[RelDs.inj I r t i]
  |loc l=>
   let(f,e,m):=h'.loc_inv;cases e;let(o,_,p):=r.at m;let(y,j,x,u):=Jdc p;show(Wcg I j x u q).elim
  |kl n=>
   let(f,g,e,c,i):=h'.kl_inv;cases e;show(Jch I c.sq q).elim
  |kd w=>
   let(f,e,c):=h'.kd_inv;cases e;show(Jdz I q c).elim
  |_=>simp only[RelD]at h';cases h'
 |.loc l,d',v,h,h'=>by
  let(a,rfl,m):=h.loc_inv;let(o,_,p):=r.at m;let(y,j,x,u):=Jdc p;cases d' with
  |loc k=>
   let(f,e,A):=h'.loc_inv;cases e;rw[Jcg r.nd m A]
  |tup n=>
   let(f,g,e,c,i):=h'.tup_inv;cases e;show(Wcg I j x u c).elim
  |kl n=>
   let(f,g,e,c,i):=h'.kl_inv;cases e;show(Wch I j u c).elim
  |kd w=>
   let(f,e,c):=h'.kd_inv;cases e;show(Wci I j c).elim
  |_=>simp only[RelD]at h';cases h'
 |.kl ds,d',v,h,h'=>by
  let(a,xs,rfl,q,t):=h.kl_inv;cases d' with
  |kl n=>
   let(f,g,e,c,i):=h'.kl_inv;cases e;cases I.list_inj q.sq c.sq;rw[RelDs.inj I r t i]
  |loc l=>
   let(f,e,m):=h'.loc_inv;cases e;let(o,_,p):=r.at m;let(y,j,x,u):=Jdc p;show(Wch I j u q).elim
  |tup n=>
   let(f,g,e,c,i):=h'.tup_inv;cases e;show(Jch I q.sq c).elim
  |kd w=>
   let(f,e,c):=h'.kd_inv;cases e;show(Je2 I q.sq c).elim
  |_=>simp only[RelD]at h';cases h'
 |.kd w,d',v,h,h'=>by
  let(a,rfl,q):=h.kd_inv;cases d' with
  |kd z=>
   let(f,e,c):=h'.kd_inv;cases e;rw[q.inj c I.kIn]
  |tup n=>
   let(f,g,e,c,i):=h'.tup_inv;cases e;show(Jdz I c q).elim
  |loc l=>
   let(f,e,m):=h'.loc_inv;cases e;let(o,_,p):=r.at m;let(y,j,x,u):=Jdc p;show(Wci I j q).elim
  |kl n=>
   let(f,g,e,c,i):=h'.kl_inv;cases e;show(Je2 I c.sq q).elim
  |_=>simp only[RelD]at h';cases h'
theorem RelDs.inj(I:Inv X pins σ H s)(r:RelS X.K ρ S H):∀{ds a:List D} {vs:List V},RelDs X.K ρ H ds vs->RelDs X.K ρ H a vs->ds=a
 |[],a,vs,h,h'=>by
  rw[h.inv_nil]at h';cases a with
  |nil=>rfl
  |cons d es=>let(_,_,e,_):=h'.inv_cons;cases e
 |d::ds,a,vs,h,h'=>by
  let(v,g,rfl,q,t):=h.inv_cons;cases a with
  |nil=>cases h'.inv_nil
  |cons i es=>
   let(j,b,e,c,f):=h'.inv_cons;cases e;rw[RelD.inj I r q c,RelDs.inj I r t f]
end
def rC(K:Ah)(o:Cop):R2:=λx y H Q=>∃ρ S a b k,RelS K ρ S H/\RelD K ρ H a x/\RelD K ρ H b y/\cop o a b S=-k/\Q (.bl k) H
theorem Jdh(I:Inv X pins σ H s)(r:RelS X.K ρ S H){A:Bo}(f:A.units+Deep<Dm)(l:RelD X.K ρ H x m)(rx:RelV m w)
  {us:List Value}(t:RelDs X.K ρ H ds xs)(v:Vals xs us)(e:anyEq S Deep x ds=-b):∃e:Value->Bool,(∀u∈us,Fo A s u w (e u))/\us.any e=b:=by
 classical
 show let j:Value->Bool:=λu=>decide (∃d v,RelD X.K ρ H d v/\RelV v u/\eqD S Deep d x=-true);?_
 let c:∀{d:D} {v:V} {u:Value} {b:Bool},RelD X.K ρ H d v->RelV v u->eqD S Deep d x=-b->j u=b:=λ{d v u b} h a e=>by
  cases b with
  |true=>show decide_eq_true #[d,v,h,a,e]
  |false=>
   show decide_eq_false ?_;rintro⟨U,k,n,o,y⟩;cases a.inj o;rw[RelD.inj I r h n,y]at e;cases e
 exists j,?_
 induction ds generalizing xs us b with
 |nil=>
  rw[t.inv_nil]at v;cases v;simp only[anyEq]at e;cases e;exists λu f=>by simp at f,rfl
 |cons d ds C=>
  let(z,zs,rfl,q,E):=t.inv_cons;cases v with
  |cons a k=>
   rename_i u us;simp only[anyEq]at e;split at e
   .rename_i p Y g J;cases e;let(L,N):=C E k J;exists λQ i=>?_,?_
    .rcases An.1 i with rfl|hm
     .rw[c q a g];show(Jfl I r Deep f q l a rx g).eq
     .show L Q hm
    .rw[Gy,c q a g,N]
   .cases e
def RelS.dct(d:RelS K ρ S H)(r:RelD K ρ H (.loc l) v)(h:S[l]? =-(.dct kvs)):∃a b,v=.ref a/\ρ[l]? =-a/\H a=-(.dK b)/\RelKv Hn K ρ H kvs b:=by
 let(a,rfl,c):=r.loc_inv;let(b,e,q):=d.ob l a _ c h;exists a,b,rfl,c,e,q
inductive DtuI (K:Ah) (ρ:List Addr) (H:Hp) (l:Nat) (v:V) (kvs:List (Rdu.PK×D)):Prop
 |mk (a ws) (_:v=.ref a) (_:ρ[l]? =-a) (_:H a=-(.dT ws)) (_:RelKv pK K ρ H kvs ws):DtuI K ρ H l v kvs
def RelS.dtu(c:RelS K ρ S H)(r:RelD K ρ H (.loc l) v)(h:S[l]? =-(.dtu kvs)):DtuI K ρ H l v kvs:=by
 let(a,rfl,b):=r.loc_inv;let(d,e,q):=c.ob l a _ b h;exists a,d,rfl,b,e,q
def RelS.rgn(c:RelS K ρ S H)(r:RelD K ρ H (.loc l) v)(h:S[l]? =-(.rg kvs)):∃a xs,v=.ref a/\ρ[l]? =-a/\H a=-(Rg a xs)/\Xl K ρ H kvs xs:=by
 let(a,rfl,b):=r.loc_inv;let(d,e,q):=c.ob l a _ b h;exists a,d,rfl,b,e,q
def Jee(e:dctAt S l=-kvs):S[l]? =-(.dct kvs):=by
 unfold dctAt at e;split at e
 .cases e;assumption
 .cases e
def Jbd(e:dtAt S l=-kvs):S[l]? =-(.dtu kvs):=by
 unfold dtAt at e;split at e
 .cases e;assumption
 .cases e
noncomputable def npB(K:Ah):Bool:=K.all λp=>match p.2.data with
 |.seq a _=>(match a.toList with|[.int _ _,.int _ _]=>false|_=>true)
 |_=>true
def Jdw(h:kyD y=-p):y=dK p:=by
 let n:∀{q:Prop},(none:Option Rdu.PK)=-p->q:=λz=>by cases z
 cases y<;>try show n h
 rename_i a;rcases a with _|⟨x,a⟩<;>try show n h
 cases x<;>try show n h
 rcases a with _|⟨z,_|⟨u,r⟩⟩<;>first|show n h|(cases z<;>first|show n h|(cases h;rfl))
def Jdp(j:npB K=true)(h:RelD K ρ H (dK p) v):∃b,v=.ref b/\H b=-(.tup ((pK p).map kV)):=by
 let(a,A,rfl,k,l):=h.tup_inv;let(C,g,rfl,m,i):=l.inv_cons;let(E,c,rfl,w,t):=i.inv_cons;cases t.inv_nil;cases m.int_inv;cases w.int_inv;exists a,rfl,?_;rcases k with h|⟨o,d,n,x,_,hd,_,r⟩
 .show h
 .let y:(a,o)∈K:=by let(I,J,e,_):=List.lookup_eq_some_iff.1 x;rw[e];simp
  let:=Dg.1 j _ y;cases f:d.toList with
  |nil=>rw[f]at r;cases r
  |cons u L=>
   rw[f]at r;cases r with
   |cons g c=>
    cases c with
    |cons c z=>
     cases z;let(i,rfl):=g;let(N,rfl):=c;simp[hd,f]at this
def Ji2(n:npB K=true)(j:RelS K ρ S H)(k:RelD K ρ H (.loc l) x)(m:RelD K ρ H y r)(e:Y3 S l y=-o):
  ∃a o',x=.ref a/\IsD H a/\Y7 H a r o'/\((o=none/\o'=none)\/∃d v,o=-d/\o'=-v/\RelD K ρ H d v):=by
 unfold Y3 at e;split at e
 .rename_i g h;w_top e
  rename_i i;cases e;let(a,c,rfl,_,f,q):=j.dct k h;cases m.int_inv;exists a,X3 c (Hn i),rfl,.inl #[c,.inl f],.inl #[c,Hn i,.inl f,rfl,rfl],?_;show q.val Jna i
 .rename_i g h;let(p,hp,rfl):=Ai.1 e;cases Jdw hp;let(a,c,rfl,_,f,q):=j.dtu k h;let(b,rfl,t):=Jdp n m;exists a,X3 c (pK p),rfl,.inr #[c,.inl f],Y7.t f t,q.val Jdr p
 .cases e
theorem Jsb(c:npB K=true)(f:RelS K ρ S H)(i:RelD K ρ H j x)(k:RelD K ρ H l y)(e:dIn j l S=-b):∃a,y=.ref a/\∃o,Y7 H a x o/\b=o.isSome:=by
 unfold dIn at e;w_top e
 let(o,m,rfl):=Ai.1 e;let(a,n,rfl,_,g,h):=Ji2 c f k i m;exists a,rfl,n,g,?_;rcases h with⟨rfl,rfl⟩|⟨d,v,rfl,rfl,_⟩<;>rfl
theorem Jis{κ a:Type}{f:κ->a}:∀{kvs:List (κ×D)} {b:List (a×V)},RelKv f K ρ H kvs b->∀w∈b,∃p∈kvs,w.1=f p.1/\RelD K ρ H p.2 w.2
 |[],b,h,w,hw=>by cases(show b=[]from h);cases hw
 |p::r,b,h,w,hw=>by
  let(v,us,rfl,q,t):=h;rcases An.1 hw with rfl|hw
  .exists p,B1,rfl,q
  .let(c,d,e):=Jis t w hw;exists c,A7 _ d,e
def Jbs{b:Type}{a:b}:¬none=-a:=nofun
theorem Jfn(o:Cop)(hu:X.A.units+64<Dm)(np:npB X.K=true):OpR X (Ef (Y4 o)) (rC X.K o):=by
 intro pins s σ H x y v u Q I rx j hq_;let(ρ,S,L,N,k,i,c,l,e,q):=hq_;let U:X.A.units+Deep<Dm:=by change X.A.units+12<Dm;lia
 let m:X.A.in1.units+Deep<Dm:=by rw[in1_units];change X.A.units+1+12<Dm;lia
 cases o with
 |eq=>
  simp only[cop]at e;split at e
  .rename_i k' f;cases e;unfold Zd at f;w_top f
   w_top f
   rename_i ka kb n r;w_top f
   rename_i h;cases f;let(a,wa,rfl,_,ea,Y):=i.dtu c (Jbd n);let(b,wb,rfl,_,eb,qb):=i.dtu l (Jbd r);cases rx;cases j;show J0z 'l' I (.inl ea) (.inl eb) (by rw[<-⇑Y,<-⇑qb];show h.1) (λw hw=>?_) #[.bl true,H,I,rfl,q];let(p,hp,e1,q1):=Jis Y w hw;let:=Dg.1 h.2 p hp;rw[e1];rcases qb.val Jdr p.1 with⟨z,_⟩|⟨d,v,z1,z2,z3⟩
   .rw[z]at this;cases this
   .rw[z1]at this;exists v,z2,λu u' ru A=>(Jfl I i Deep m q1 z3 ru A (eq_of_beq this)).eq
  .show(Jfl I i Deep U c l rx j e).rc X.prog X.w X.xe _ #[.bl k,H,I,rfl,q]
 |ne=>
  simp only[cop]at e;split at e
  .rename_i k' f;cases e;unfold Zd at f;w_top f
   w_top f
   rename_i ka kb n r;w_top f
   rename_i h;cases f;let(a,wa,rfl,_,ea,Y):=i.dtu c (Jbd n);let(b,wb,rfl,_,eb,qb):=i.dtu l (Jbd r);cases rx;cases j;show J0x 'l' I (.inl ea) (.inl eb) (by rw[<-⇑Y,<-⇑qb];show h.1) (λw hw=>?_) #[.bl false,H,I,rfl,q];let(p,hp,e1,q1):=Jis Y w hw;let:=Dg.1 h.2 p hp;rw[e1];rcases qb.val Jdr p.1 with⟨z,_⟩|⟨d,v,z1,z2,z3⟩
   .rw[z]at this;cases this
   .rw[z1]at this;exists v,z2,λu u' ru A=>(Jfl I i Deep m q1 z3 ru A (eq_of_beq this)).eq
  .simp only[Ai]at e;let(b,e,rfl):=e;show(Jfl I i Deep U c l rx j e).ne X.prog X.w X.xe _ #[.bl (!b),H,I,rfl,q]
 |lt=>
  cases L<;>first|show absurd e Jbs|(cases N<;>first|show absurd e Jbs|skip)
  cases Bj e;cases c.int_inv;cases l.int_inv;show Jz8 pins s σ H _ _ v u Q I rx j #[_,_,rfl,rfl,q]
 |le=>
  cases L<;>first|show absurd e Jbs|(cases N<;>first|show absurd e Jbs|skip)
  cases Bj e;cases c.int_inv;cases l.int_inv;show Jz9 pins s σ H _ _ v u Q I rx j #[_,_,rfl,rfl,q]
 |gt=>
  cases L<;>first|show absurd e Jbs|(cases N<;>first|show absurd e Jbs|skip)
  cases Bj e;cases c.int_inv;cases l.int_inv;show J0a pins s σ H _ _ v u Q I rx j #[_,_,rfl,rfl,q]
 |ge=>
  cases L<;>first|show absurd e Jbs|(cases N<;>first|show absurd e Jbs|skip)
  cases Bj e;cases c.int_inv;cases l.int_inv;show J0b pins s σ H _ _ v u Q I rx j #[_,_,rfl,rfl,q]
 |isc=>
  cases N<;>simp only[cop]at e<;>try (cases e;done)
  cases l.non_inv;show Jxs pins s σ H _ _ v u Q I rx j #[rfl,?_];cases L<;>cases e<;>simp only[RelD]at c<;>first|(subst c;show q)|(let(_,_,rfl,_):=c;show q)|(let(_,rfl,_):=c;show q)
 |isnc=>
  cases N<;>simp only[cop]at e<;>try (cases e;done)
  cases l.non_inv;show Juk pins s σ H _ _ v u Q I rx j #[rfl,?_];cases L<;>cases e<;>simp only[RelD]at c<;>first|(subst c;show q)|(let(_,_,rfl,_):=c;show q)|(let(_,rfl,_):=c;show q)
 |inn=>
  simp only[cop]at e;split at e
  .rename_i ds hs;let(a,xs,rfl,sq,t):=i.seq l hs;cases j;rcases sq with sq|sq
   .let(us,C,pl,_):=I.list sq;let(E,n,r):=Jdh I i m c rx t C e;show SeqAt.in_listAt E pl.isList (λy J=>n y (by erw[J])) #[.bl k,H,I,by rw[Lg,r];rfl,q]
   .let(us,C,pl,_):=I.tuple sq;let(E,n,r):=Jdh I i m c rx t C e;show SeqAt.in_tupleAt E (show s.heap.IsTuple a us.toArray from pl) (λy J=>n y (by erw[J])) #[.bl k,H,I,by rw[Lg,r];rfl,q]
  .let(a,rfl,o,g,eo):=Jsb np i c l e;cases j;show Wef (by change X.A.units+1<Dm;lia) I g rx λs' I'=>#[.bl k,H,I',by rw[eo];rfl,q]
 |nin=>
  simp only[cop]at e;split at e
  .rename_i ds hs;simp only[Ai]at e;let(b,e,rfl):=e;let(a,xs,rfl,sq,t):=i.seq l hs;cases j;rcases sq with sq|sq
   .let(us,C,pl,_):=I.list sq;let(E,n,r):=Jdh I i m c rx t C e;show SeqAt.notIn_listAt E pl.isList (λy J=>n y (by erw[J])) #[.bl (!b),H,I,by rw[Lg,r];rfl,q]
   .let(us,C,pl,_):=I.tuple sq;let(E,n,r):=Jdh I i m c rx t C e;show SeqAt.notIn_tupleAt E (show s.heap.IsTuple a us.toArray from pl) (λy J=>n y (by erw[J])) #[.bl (!b),H,I,by rw[Lg,r];rfl,q]
  .simp only[Ai]at e;let(b,e,rfl):=e;let(a,rfl,o,g,eo):=Jsb np i c l e;cases j;show Jvk (by change X.A.units+1<Dm;lia) I g rx λs' I'=>#[.bl (!b),H,I',by rw[eo];rfl,q]
theorem Jb7{ds:List D}{xs:List V}(t:RelDs K ρ H ds xs):(!ds.isEmpty)= !xs.isEmpty:=by
 cases ds with
 |nil=>rw[t.inv_nil];rfl
 |cons d ds=>let(_,_,rfl,_):=t.inv_cons;rfl
theorem Jlm(r:RelS K ρ S H)(h:RelD K ρ H d x)(e:tru S d=-k):Wa3 K x H k:=by
 cases d with
 |non=>cases h.non_inv;cases e;rfl
 |bl b=>cases h.bl_inv;cases e;rfl
 |int i=>cases h.int_inv;cases e;rfl
 |str z=>cases e
 |tup f=>
  let(a,c,rfl,q,t):=h.tup_inv;cases e;show .inr (.inl #[c,q,Jb7 t])
 |loc l=>
  change (match seqAt S l with|some f=>-(!f.isEmpty)|none=>none)=_ at e
  cases g:seqAt S l<;>rw[g]at e<;>cases e;let(a,c,rfl,_,q,t):=r.lst h (Jah g);show .inl #[c,SqL.of q,Jb7 t]
 |kl f=>
  let(a,c,rfl,q,t):=h.kl_inv;cases e;show .inl #[c,q.sq,Jb7 t]
 |kd j=>cases e
inductive rX (K:Ah) (x:V) (y:V) (H:Hp) (Q:VK):Prop
 |mk (ρ S dx dy d) (_:RelS K ρ S H) (_:RelD K ρ H dx x) (_:RelD K ρ H dy y) (_:idxD dx dy S=-d) (_:Fin K ρ H d S Q):rX K x y H Q
def Jwp(r:RelD K ρ H d v)(e:scK d=-k):v=kV k:=by
 cases d<;>cases e
 .show r.int_inv
 .show r.str_inv
def Jsg{a c:Type}{f:a->Option c}{d:a}{b:c}{ds:List a}{bs:List c}(h:f d=-b)(e:Yw f ds=-bs):Yw f (d::ds)=-(b::bs):=by
 change (match f d,Yw f ds with|some b,-bs=>-(b::bs)|_,_=>none)=_
 rw[h,e]
theorem Jel{i j:Type}{f:D->Option i}{g:j->V}{R:i->j->Prop}(h:∀{d b v},RelD K ρ H d v->f d=-b->∃c,v=g c/\R b c):∀{ds:List D} {bs:List i} {vs:List V},RelDs K ρ H ds vs->Yw f ds=-bs->∃a:List j,vs=a.map g/\Paired R bs a
 |[],bs,vs,r,e=>by cases e;cases r.inv_nil;exists[],rfl,.nil
 |d::ds,bs,vs,r,e=>by
  let(v,us,rfl,q,t):=r.inv_cons
  change (match f d,Yw f ds with|some b,-bs=>-(b::bs)|_,_=>none)=_ at e
  cases k:f d<;>cases l:Yw f ds<;>rw[k,l]at e<;>cases e;let(c,rfl,m):=h q k;let(a,rfl,n):=Jel h t l;exists c::a,rfl,.cons m n
theorem Jmi{c:Type}{xs ys:List c}(h:Paired (λa b=>a=b) xs ys):xs=ys:=by
 induction h with
 |nil=>rfl
 |cons h _ d=>rw[h,d]
def Jrt(h:RelD K ρ H d v)(e:lkK d=-r):∃a,v=.ref a/\Yg K H r a:=by
 cases d<;>try (cases e;done)
 let(a,f,rfl,c,t):=h.tup_inv;let(bs,rfl,hb):=Jel (g:=V.ref) (R:=λk b=>SqT K H b (k.map kV)) (λ{d b v} r e=>by
  cases d<;>try (cases e;done)
  let(a,f,rfl,c,t):=r.tup_inv;let(i,rfl,hc):=Jel (g:=kV) (R:=λa b=>a=b) (λr e=>#[_,Jwp r e,rfl]) t e;cases Jmi hc;exists a,rfl,c) t e
 exists a,rfl,bs,c,hb
def Jyp(hu:X.A.units+2<Dm)(Y:npB X.K=true):IxR X (rX X.K):=by
 intro c f pins s σ H x y v u Q I rx k ⟨ρ,S,dx,dy,d,j,m,n,e,fin⟩ l;unfold idxD at e;split at e
 .rename_i ds A;w_top e
  cases n.int_inv;let(a,C,rfl,sq,t):=j.seq m A;let(w,N,i):=Jvu t e;rcases sq with sq|sq
  .show Ju3 c f pins s σ H _ _ v u Q I rx k #[a,C,_,w,rfl,rfl,sq,N,fin.now j i] l
  .show Jyh c f pins s σ H _ _ v u Q I rx k #[a,C,_,w,rfl,rfl,sq,N,fin.now j i] l
 .w_top e
  split at e
  .rename_i kvs hk;let(r,hr,e):=K6.1 e;let(a,C,rfl,_,U,q):=j.rgn m hk;let(b,rfl,lk):=Jrt n hr;cases rx;cases k;let(p,w,hp,i,E):=q.val r e;show M7 (ops:=[.ref a,.ref b]) (Jzx I U) Oz.lookup (Jy9 (by change X.A.units+2<Dm;omega) I U q.mem lk hp λs' J=>#[w,H,J,i,fin.now j E]) l
  .let(o,ho,rfl):=Option.join_eq_some_iff.1 e|>λz=>(#[_,z,rfl]:∃o,Y3 _ _ _=-o/\o=-d)
   let(a,o',rfl,_,g,h):=Ji2 Y j m n ho;rcases h with⟨z,_⟩|⟨d',w,z,rfl,E⟩
   .cases z
   .cases z;cases rx;show M7 (ops:=[.ref a,u]) (Ji0 I g) Oz.lookup (Jnq (by change X.A.units+1<Dm;omega) I g k λw' s' J L=>#[w,H,J,L,fin.now j E]) l
def rSl(K:Ah):V->Option Int->Option Int->Hp->VK->Prop:=λx lo c H Q=>∃ρ S a d b,RelS K ρ S H/\RelD K ρ H a x/\Yh a lo c S=.ok d b/\Fin K ρ H d b Q
def Ji3(t:RelDs K ρ H ds xs)(lo a:Option Int):RelDs K ρ H (cutD ds lo a) (Zl xs lo a):=by
 unfold cutD Zl;rw[⇑t];show(t.drop _).take _
def Jwl:SlR X (rSl X.K):=by
 intro pins s σ H x v g h lo c sl Q I rx i pl j m;let(ρ,S,p,d,u,f,k,e,fin):=m;cases p<;>simp only[Yh]at e<;>try (cases e;done)
 .cases e;let(a,b,rfl,q,t):=k.tup_inv
  by_cases l:HT.sIx ⇑b 0 lo=0/\HT.sIx ⇑b ⇑b c=⇑b
  .rename_i n;show Jtm pins s σ H _ v g h lo c sl Q I rx i pl j #[a,b,rfl,q,l,?_];let r:cutD n lo c=n:=by
    unfold cutD;rw[⇑t,l.1,l.2,Lx,V0,<-⇑t,Gg]
   rw[r]at fin;show fin _ _ _ Fut.refl f k
  .show Jwm pins s σ H _ v g h lo c sl Q I rx i pl j #[a,b,rfl,q,l,fin.newT f (Ji3 t lo c)]
 .split at e
  .rename_i n o;cases e;let(a,b,rfl,_,q,t):=f.lst k (Jah o);show Jl0 pins s σ H _ v g h lo c sl Q I rx i pl j #[a,b,rfl,SqL.of q,fin.newL f (Ji3 t lo c)]
  .cases e
 .cases e;let(a,b,rfl,q,t):=k.kl_inv;show Jl0 pins s σ H _ v g h lo c sl Q I rx i pl j #[a,b,rfl,q.sq,fin.newL f (Ji3 t lo c)]
def rSt(K:Ah):Wa4:=λo i v H Q=>∃ρ S b c dv d,RelS K ρ S H/\RelD K ρ H b o/\RelD K ρ H c i/\RelD K ρ H dv v/\Xz b c dv S=.ok () d/\∀a,Fut K ρ H ρ a->RelS K ρ d a->Q a
def Jwo(hu:X.A.units+2<Dm)(Y:npB X.K=true):Wbw X (rSt X.K):=by
 intro pins s σ H o i v ov iv u Q I x y A L;let(ρ,S,dO,di,dv,S',c,C,E,J,e,fin):=L;unfold Xz at e;w_top e
 rename_i l;w_top e
 .rename_i N hx;w_top e
  w_top e
  rename_i j hj;cases e;let(a,ys,rfl,g,q,t):=c.lst C hx;cases E.int_inv;show set_list pins s σ H _ _ v ov iv u Q I x y A #[a,ys,_,j,rfl,rfl,q,by rw[<-⇑t];show hj,fin _ (Jcv q) (c.set g q (RelDs.set J j t))]
 .rename_i p r;w_top e
  rename_i n;w_top e
  rename_i g;cases e;let(a,h,rfl,hp,d,q):=c.dct C r;cases E.int_inv;cases x;let f:Fut X.K ρ H ρ (upd H a (.dK (putK h (Hn n) v))):=Jca (o0:=.dK h) d (λ_ z=>by cases z) (λ_ _ z=>by cases z);show Jhj (by change X.A.units+1<Dm;lia) I (Zs.k (k:=Hn n) d (by rw[<-⇑q,<-Ja7];show g)) y A λU w=>#[_,w,fin _ f (c.setO (o0:=.dK h) hp f #[_,Jae,(q.put Jna _ J).fut f])]
 .rename_i p r;w_top e
  rename_i n m;w_top e
  rename_i g;cases e;cases Jdw m;let(a,h,rfl,hp,d,q):=c.dtu C r;let(b,rfl,eb):=Jdp Y E;cases x;let f:Fut X.K ρ H ρ (upd H a (.dT (putK h (pK n) v))):=Jca (o0:=.dT h) d (λ_ z=>by cases z) (λ_ _ z=>by cases z);show Jhj (by change X.A.units+1<Dm;lia) I (Zs.t d eb (by rw[<-⇑q,<-Ja7];show g)) y A λU w=>#[_,w,fin _ f (c.setO (o0:=.dT h) hp f #[_,Jae,(q.put Jdr _ J).fut f])]
 .rename_i p r;w_top e
  rename_i n m;w_top e
  rename_i g;cases e;let(a,N,rfl,hp,d,q):=c.rgn C r;let(b,rfl,lk):=Jrt E m;cases x;cases y;let f:Fut X.K ρ H ρ (upd H a (Rg a (Rf N n b u))):=Jca d (λ_ z=>by cases z) (λ_ _ z=>by cases z);show Jy6 (by change X.A.units+2<Dm;lia) I d q.mem lk (by rw[<-⇑q,<-Ja7];show g) λU w=>#[_,w,fin _ f (c.setO (o0:=Rg a N) hp f #[_,Jae,(q.put lk A J).fut f])]
end
end Mi
namespace Mi
open PySem L2
section
open PySem.Spec PyProof.Rows PyProof
def Jgt{M:Lm}{A:Bo}{E:Value->Shared->Prop}{s:Shared}{d:Type}{b:Nat}(f:Nat->d->Sem (ForInStep d))(I:Nat->d->Shared->Prop)(Q:d->Shared->Prop)
  (turn:∀i c s,i<b->I i c s->wpAny M A (f i c) (λr t=>match r with|.yield g=>I (i+1) g t|.done g=>Q g t) E s)(fin:∀c s,I b c s->Q c s)(c:d)(h:I 0 c s):wpAny M A (forIn ([:b]:Mv) c f) Q E s:=by
 rw[Gf];let j:([:b]:Mv).size=b:=by simp[Jx]
 change wpAny M A (forIn (List.range' 0 ([:b]:Mv).size 1) c f) Q E s;rw[j];show Ee f (λl c s=>∃i,i<=b/\l=List.range' i (b-i) 1/\I i c s) Q ?_ ?_ _ c #[0,Dk _,rfl,h]
 .rintro x rest c s ⟨i,k,a,m⟩;let o:i<b:=by
   rcases Kf i b with h'|h'
   .show h'
   .rw[show b-i=0 by lia]at a;simp at a
  obtain⟨n,p⟩:∃n,b-i=n+1:=#[b-i-1,by lia]
  rw[p,Uu]at a;let(rfl,rfl):=Ov a;show Cu (turn x c s o m) (λr u h'=>?_) λ_ _ e=>e;cases r with
  |done g=>show h'
  |yield g=>exists x+1,by lia,by congr 1;lia,h'
 .rintro c s ⟨i,k,a,m⟩;let:i=b:=by
   rcases Kf i b with h'|h'
   .obtain⟨n,p⟩:∃n,b-i=n+1:=#[b-i-1,by lia]
    rw[p,Uu]at a;simp at a
   .lia
  subst this;show fin _ _ m
def Jgw(l:Addr)(a:Array Value)(n:Nat)(dd:Option Addr)(sl:Array (Option Value))(x:Value)(e:Value->Bool)(j:Nat)(C:j<a.size)(p:e a[j]=true)(r:∀m (E:m<a.size),m<j->e a[m]=false):
  Meets (Builtin.«tuple.index» #[[.ref l,x],[]])
   (λA R s=>s.heap.get? l=-{cls:=.type "tuple",dict:=dd,data:=.seq a n,slots:=sl}/\(∀y,y∈a->Fo A.in1 s y x (e y))/\R (.ok (.ret (.int j s.toks))) {s with toks:=s.toks+1}):=
 .of_wp λf w A R s h=>by
  let(hp,g,d,tk,os):=s;let(u,v,h):=h
  wp_walk using Q0 u,Jgt _ (λi b t=>b.1=none/\t=#[hp,g,d,tk,os]/\i<=j) _
  case turn=>
   rintro i b t z ⟨hb,rfl,k⟩;let c:i<a.size:=by erw[z]
   rw[Bi c];show Aa (v _ (T6 c) f w _ _ ?_)
   by_cases o:i<j
   .rw[r i c o]
    wp_walk
    exists rfl,rfl,o
   .let:i=j:=by lia
    subst this;rw[p]
    wp_walk
    exists _,rfl,h
  case fin=>
   rintro⟨H,I⟩ t ⟨hb,rfl,k⟩;simp only[Nat.min_self]at k
   lia
  case h=>
   exists rfl,rfl,Dk _
def Jfs{A:Bo}{E:Value->Shared->Prop}{s:Shared}{b:Array Value}{e:Value->Bool}{Q:Value->Shared->Prop}(i:s.heap.IsTuple a b)(k:j<b.size)
  (c:e b[j]=true)(d:∀m (p:m<b.size),m<j->e b[m]=false)(l:∀y∈b,Fo A.in1 s y x (e y))(h:Q (.int j s.toks) {s with toks:=s.toks+1}):wpAny (model prog w) A (call (.builtin "tuple.index") [.ref a,x]) Q E s:=by
 obtain⟨⟨o,dd,f,sl⟩,g,hc,n,hd⟩:=id i;simp only at hc hd;subst hc hd;show Rz Pf #[_,g,rfl] PySem.F.entry_tuple_index (PySem.F.args_tuple_index_2 _ _) (Jgw a b n dd sl x e j k c d) #[g,l,h]
end
section
variable {X:Cx} {ρ:List Addr} {H:Hp} {S:Store}
noncomputable def tyNames:List String:=["NoneType","bool","int","str","tuple","list"]
noncomputable def clNames:List String:=["bool","int","tuple","list"]
def Je1(K:Ah):∀t∈tyNames,∀c∈clNames,PySem.W.kitOne K (.type t) (.type c)=-(isiD t c):=by
 intro t a c hc;simp only[tyNames,clNames,An,Bg,or_false]at a hc;rcases a with rfl|rfl|rfl|rfl|rfl|rfl<;>rcases hc with rfl|rfl|rfl|rfl<;>kernel_rfl
def rIs(K:Ah)(c:String):List V->Hp->VK->Prop:=λa H Q=>∃ρ S d x t,RelS K ρ S H/\a=[x,.ty c]/\RelD K ρ H d x/\tyD S d=-t/\Q (.bl (isiD t c)) H
theorem Jyj(hc:c∈clNames):Xs X (.builtin "isinstance") (rIs X.K c):=by
 intro i s A H L N Q I r j;let(ρ,S,d,x,t,C,e,g,f,q):=j;subst e;let(u,w,rfl,h,k):=vals2 r;cases(show w=Fm c from k);let fin:∀tk,EP X i A Q (.bool (isiD t c)) {s with toks:=tk}:=λtk=>#[.bl _,H,I.tok _,rfl,q]
 cases d with
 |non=>cases f;cases g.non_inv;cases h;show Ht PySem.W.kitx_none I.kIn Fp (Je1 X.K _ 'd' c hc) (λz=>nomatch z) fin
 |bl b=>cases f;cases g.bl_inv;cases h;show Ht PySem.W.kitx_bool I.kIn Fp (Je1 X.K _ 'd' c hc) (λz=>nomatch z) fin
 |int b=>cases f;cases g.int_inv;let(tk,rfl):=h;show Ht PySem.W.kitx_int I.kIn Fp (Je1 X.K _ 'd' c hc) (λz=>nomatch z) fin
 |str b=>cases f;cases g.str_inv;let(tk,rfl):=h;show Ht PySem.W.kitx_str I.kIn Fp (Je1 X.K _ 'd' c hc) (λz=>nomatch z) fin
 |tup m=>
  cases f;let(a,E,rfl,p,_):=g.tup_inv;cases h;obtain⟨_,_,⟨o,v,y,_⟩,_⟩:=I.tuple p;show Ht PySem.W.kitx_tuple I.kIn #[o,v,y] (Je1 X.K _ 'd' c hc) (λz=>nomatch z) fin
 |loc l=>
  simp only[tyD]at f;split at f
  .rename_i m J;cases f;let(a,E,rfl,_,p,_):=C.lst g J;cases h;obtain⟨_,_,⟨o,n,v,y,_⟩,_⟩:=I.list (SqL.of (K:=X.K) p);show Ht PySem.W.kitx_list I.kIn #[o,v,y] (Je1 X.K _ 'd' c hc) (λz=>nomatch z) fin
  .cases f
 |kl m=>cases f
 |kd m=>cases f
noncomputable def X8:Prim->String
 |.len=>"len"|.abs=>"abs"|.min2=>"min"|.max2=>"max"|.int1=>"int"|.list1=>"list"|.tuple1=>"tuple"|.all1=>"all"|.sum1=>"sum"|.sort1=>"sorted"|.dict1=>"dict"
noncomputable def Wab:Prim->Bool
 |.int1=>true|.list1=>true|.tuple1=>true|.dict1=>true
 |_=>false
def Zb(p:Prim):Value:=if Wab p then .type (X8 p)else .builtin (X8 p)
def Jn2(p:Prim):Dy (Ac (X8 p))=-(Zb p):=by cases p<;>kernel_rfl
def Jg9(p:Prim):Ac (X8 p)≠"__name__":=by cases p<;>decide+kernel
def Jfm(p:Prim):(Ac (X8 p)==("__debug__":Str))=false:=by cases p<;>decide+kernel
def rP(K:Ah)(p:Prim):List V->Hp->VK->Prop:=λc H Q=>∃ρ S a d b,RelS K ρ S H/\RelDs K ρ H a c/\Xh p a S=.ok d b/\Fin K ρ H d b Q
def RelDs.one(h:RelDs K ρ H [d] xs):∃v,xs=[v]/\RelD K ρ H d v:=by
 let(v,a,rfl,q,t):=h.inv_cons;cases t.inv_nil;exists v,rfl,q
def RelDs.two(h:RelDs K ρ H [d,e] xs):∃v w,xs=[v,w]/\RelD K ρ H d v/\RelD K ρ H e w:=by
 let(v,b,rfl,q,t):=h.inv_cons;let(w,rfl,a):=t.one;exists v,w,rfl,q,a
theorem allB_list:∀{ds:List D} {b:Bool},allB ds=-b->∃bs:List Bool,ds=bs.map D.bl/\b=bs.all id
 |[],b,h=>#[[],rfl,by simp only[allB]at h;cases h;rfl]
 |.bl c::r,b,h=>by
  simp only[allB,Ai]at h;let(k,h,rfl):=h;let(bs,rfl,rfl):=allB_list h;exists c::bs,rfl,by simp
 |.non::_,b,h=>by simp[allB]at h
 |.int _::_,b,h=>by simp[allB]at h
 |.str _::_,b,h=>by simp[allB]at h
 |.tup _::_,b,h=>by simp[allB]at h
 |.loc _::_,b,h=>by simp[allB]at h
 |.kl _::_,b,h=>by simp[allB]at h
 |.kd _::_,b,h=>by simp[allB]at h
theorem Jg1:∀{ds:List D} {b:Int},sumI ds=-b->∃bs:List Int,ds=bs.map D.int/\b=bs.sum
 |[],b,h=>#[[],rfl,by simp only[sumI]at h;cases h;rfl]
 |.int c::r,b,h=>by
  simp only[sumI,Ai]at h;let(k,h,rfl):=h;let(bs,rfl,rfl):=Jg1 h;exists c::bs,rfl,by simp
 |.non::_,b,h=>by simp[sumI]at h
 |.bl _::_,b,h=>by simp[sumI]at h
 |.str _::_,b,h=>by simp[sumI]at h
 |.tup _::_,b,h=>by simp[sumI]at h
 |.loc _::_,b,h=>by simp[sumI]at h
 |.kl _::_,b,h=>by simp[sumI]at h
 |.kd _::_,b,h=>by simp[sumI]at h
def Ju5{K:Ah}{bs:List Int}{xs:List V}{us:List Value}(t:RelDs K ρ H (bs.map D.int) xs)(v:Vals xs us){i:Nat}{u:Value}(h:us[i]? =-u):∃tk,u=.int (bs.getD i 0) tk:=by
 let b:i<⇑bs:=by
  let:=(Ad.1 h).1;let d:=⇑t;let g:=⇑v;rw[Ag]at d
  lia
 let(w,e,a):=t.get (show(bs.map D.int)[i]? =-(.int bs[i]) by rw[Ao,Ae b];rfl);let(j,c,f):=v.get e;rw[h]at c;cases c;cases a.int_inv;let(tk,rfl):=f;exists tk,by rw[Ej,Ae b];rfl
theorem Jqq{K:Ah}{bs:List Bool}{xs:List V}{us:List Value}(t:RelDs K ρ H (bs.map D.bl) xs)(v:Vals xs us){i:Nat}{u:Value}(h:us[i]? =-u):u=.bool (bs.getD i true):=by
 let b:i<⇑bs:=by
  let:=(Ad.1 h).1;let d:=⇑t;let g:=⇑v;rw[Ag]at d
  lia
 let(w,e,a):=t.get (show(bs.map D.bl)[i]? =-(.bl bs[i]) by rw[Ao,Ae b];rfl);let(j,c,f):=v.get e;rw[h]at c;cases c;cases a.bl_inv;cases f;rw[Ej,Ae b];rfl
theorem range_all(bs:List Bool):(Bz ⇑bs).all (λi=>bs.getD i true)=bs.all id:=by
 induction bs with
 |nil=>rfl
 |cons b r a=>
  rw[Bh,Lq,Qw,Qw,Xe,<-a];congr 1
def Jht(hc:X.calm=true):Xs X (.builtin "all") (λxs H Q=>∃ρ S l ds b,RelS X.K ρ S H/\∃x,xs=[x]/\RelD X.K ρ H (.loc l) x/\seqAt S l=-ds/\allB ds=-b/\Q (.bl b) H):=by
 intro j s L H xs N Q I r d;let(ρ,S,l,ds,b,m,x,e,n,p,hb,q):=d;subst e;let(u,rfl,w):=vals1 r;let(bs,rfl,rfl):=allB_list hb;let(a,U,rfl,_,y,t):=m.lst n (Jah p);cases w;let z:X.A.in1.handled=none:=I.ok.hd hc;let(c,k,pl,_):=I.list (SqL.of (K:=X.K) y);let f:a≠↥s:=A5 pl.lt;let g:c.toArray.size=⇑bs:=by rw[Aw,<-⇑k,<-⇑t,Ag]
 show call_all_walk (Hk pl.isList ?_);exists _,_,_,_,_,_,λi=>bs.getD i true,rfl,Tc (A:=X.A.in1) z ↥s a f c.toArray,#[#[_,Ak _ rfl,rfl,rfl],(pl.keeps λb o e=>Af _ e).isList],?_,λY tk C=>?_
 .intro i v s' Q' E' h E;let h:c.toArray[i]? =-v:=h;let J:v=.bool (bs.getD i true):=Jqq t k (by erw[h]);subst J;show Es E
 .rw[g,range_all];exists .bl _,H,I.kept (t':=tk) λb o e=>C b o ?_ (Af _ e),rfl,q;simp only[Ap];show A5 (Aq e)
def Jkq(bs:List Int):preSum (λi=>bs.getD i 0) ⇑bs=bs.sum:=by
 rw[PyProof.Rows.preSum_getD,Gg]
def Jho(hc:X.calm=true):Xs X (.builtin "sum") (λxs H Q=>∃ρ S l ds b,RelS X.K ρ S H/\∃x,xs=[x]/\RelD X.K ρ H (.loc l) x/\seqAt S l=-ds/\sumI ds=-b/\Q (.int b) H):=by
 intro g s z H xs us Q I r j;let(ρ,S,l,ds,b,C,x,e,E,J,hb,q):=j;subst e;let(u,rfl,L):=vals1 r;let(bs,rfl,rfl):=Jg1 hb;let(a,ys,rfl,_,N,t):=C.lst E (Jah J);cases L;let U:X.A.in1.handled=none:=I.ok.hd hc;let done:∀(k:Addr) (d:Shared) (h:Tok),k=↥s->∀o:Fy,Moved [k] (λa b=>b=a) {s with heap:=s.heap.push o} d->EP X g z Q (.int bs.sum h) d:=λk d h Y o f=>by
  subst Y;let(h',g',d',tk,m):=d;let e1:g'=s.gens:=f.gens;let e2:d'=s.drawn:=f.drawn;let e3:m=s.os:=f.os;subst e1 e2 e3;exists .int bs.sum,H,I.kept (t':=tk) λb o e=>f.heap b o ?_ (Af _ e),#[h,rfl],q;simp only[Ap];show A5 (Aq e)
 let(c,y,pl,_):=I.list (SqL.of (K:=X.K) N);let n:a≠↥s:=A5 pl.lt;let p:c.toArray.size=⇑bs:=by rw[Aw,<-⇑y,<-⇑t,Ag]
 show call_sum_walkAnyS (Hk pl.isList ?_);exists _,_,_,_,_,_,_,λi=>bs.getD i 0,rfl,(Tc (A:=X.A.in1) U ↥s a n c.toArray).toS,#[#[_,Ak _ rfl,rfl,rfl],(pl.keeps λb o e=>Af _ e).isList],?_,?_,λd h f=>?_
 .intro b hb;change b<(s.heap.push _).objs.size;rw[C4];simp only[An,Bg,or_false]at hb;rcases hb with rfl|rfl
  .show Eb _
  .show K7 pl.lt
 .intro i v w;let w:c.toArray[i]? =-v:=w;show Ju5 t y (by erw[w])
 .rw[p,Jkq];show done _ d h rfl _ f
def Fin.newO(f:Fin K ρ H (.loc ⇑S) (S++[ob]) Q)(r:RelS K ρ S H)(q:∀p,H p=none->RelO K (ρ++[p]) (upd H p o) p ob):∀p,H p=none->Q (.ref p) (upd H p o):=λp n=>
 f (ρ++[p]) _ _ (Ja2 n [p]) (r.allocO n (q p n)) (by simp only[RelD];exists p,rfl,by rw[<-r.len];simp)
def Jzm{kvs:List (Rdu.PK×D)}(q:RelKv pK K ρ H kvs g)(h:aptB (kvs.map (·.1))=true):Apart P w g:=by
 simp only[aptB,Am,Dg,decide_eq_true_eq]at h;let a:∀p∈kvs.map (·.1),((p.1.toNat:Int),(p.2.toNat:Int))=p:=λp hp=>by
  obtain⟨⟨⟨d,_⟩,f⟩,_⟩:=h.1 p hp;show N1 (M9 d) (M9 f)
 show Jqv (ps:=(kvs.map (·.1)).map λp=>(p.1.toNat,p.2.toNat)) ?_ (λx b=>?_) ?_
 .rw[q.keys];show Eq.trans ?_ (Bp).symm;show Em λp hp=>congrArg pK (a p hp).symm
 .let(p,hp,rfl):=Av.1 b;obtain⟨⟨⟨d,f⟩,l⟩,m⟩:=h.1 p hp;exists by lia,by lia
 .show Cg.2 (Jr (λ{x y} b i c e=>c ?_) h.2);rw[<-a x b,<-a y i];injection e with j k;rw[j,k]
def Jrc(h:aptB ps=true):Rdu.Sm ps:=by
 simp only[aptB,Am,Dg,decide_eq_true_eq]at h;exists λp hp=>by let:=h.1 p hp;lia,h.2
def Jjk{kvs:List (Rdu.PK×D)}(c:H a=-(.dT b))(q:RelKv pK K ρ H kvs b)(h:aptB (kvs.map (·.1))=true/\⇑kvs<Line):UpD H a b (kvs.map (·.1)):=by
 exists .inl c,q.keys,Jrc h.1,by rw[<-⇑q,<-Ja7];show h.2
def Jur{e:Type}{f:e->Int}{xs ys:List e}(p:xs.Perm ys)(s:xs.Pairwise λa b=>f a<=f b)(d:∀a∈ys,∀b∈ys,f a=f b->a=b):xs=ys.mergeSort λa b=>decide (f a<=f b):=by
 let h:=Q9 (le:=λa b=>decide (f a<=f b)) (by intro a b c;simp;lia) (by intro a b;simp;lia) ys;let m:=Jv ys λa b=>decide (f a<=f b);show List.Perm.eq_of_pairwise (λa b g hb i j=>d a (p.mem_iff.1 g) b (m.mem_iff.1 hb) (Int.le_antisymm i j)) s (h.imp λh=>by erw[h]) (p.trans m.symm)
theorem Jm0:∀{ps:List Rdu.PK} {bs:List Addr},⇑bs=⇑ps->(∀(i:Nat) (b:Addr) (q:Rdu.PK),bs[i]? =-b->ps[i]? =-q->H b=-(.tup ((pK q).map kV)))->RelDs K ρ H (ps.map dK) (bs.map V.ref)
 |[],[],_,_=>RelDs.nil
 |p::ps,b::bs,a,h=>by
  show RelDs.cons ?_ (Jm0 (by erw[a]) λi b q c d=>h (i+1) b q (by erw[c]) (by erw[d]));simp only[RelD];exists b,_,rfl,SqT.of (h 0 b p rfl rfl),RelDs.cons (RelD.int _) (RelDs.cons (RelD.int _) RelDs.nil)
def pr1(e:Xh p ds S=.ok d f)(a:p≠ .max2)(b:p≠ .min2)(r:RelDs K ρ H ds xs):∃x v,ds=[x]/\xs=[v]/\RelD K ρ H x v:=by
 let z:∃x,ds=[x]:=by
  clear r;cases p<;>first|show absurd rfl a|show absurd rfl b|(rcases ds with _|⟨x,_|⟨y,ds⟩⟩<;>first|exists _,rfl|show absurd e Jac|(cases x<;>show absurd e Jac))
 let(x,rfl):=z;let(v,rfl,c):=r.one;exists x,v,rfl,rfl,c
theorem Jt3(p:Prim)(hc:X.calm=true)(np:npB X.K=true):Xs X (Zb p) (rP X.K p):=by
 intro c s m H xs o Q I r hq_;let(ρ,S,ds,d,S',f,A,e,fin):=hq_;cases p with
 |len=>
  let(x,v,rfl,rfl,i):=pr1 e nofun nofun A
  delta Xh at e;dsimp only at e
  split at e
  .rename_i N C;cases e;let(a,Y,rfl,sq,t):=f.seq i C;show Jhr c s m H _ o Q I r #[a,Y,rfl,sq,?_];rw[<-⇑t];show fin.now f (RelD.int _)
  .w_top e
   w_top e
   rename_i j hd;cases e;let(a,u,rfl,_,J,q):=f.dct i (Jee hd);show Jnz c s m H _ o Q I r #[a,u,rfl,J,?_];rw[<-⇑q];show fin.now f (RelD.int _)
 |abs=>
  let(x,v,rfl,rfl,i):=pr1 e nofun nofun A;cases x<;>try (show absurd e Jac)
  cases e;cases i.int_inv;show Jqn c s m H _ o Q I r #[_,rfl,fin.now f (RelD.int _)]
 |max2=>
  rcases ds with _|⟨x,_|⟨y,_|⟨z,ds⟩⟩⟩<;>try (first|show absurd e Jac|(cases x<;>show absurd e Jac)|(cases x<;>first|show absurd e Jac|(cases y<;>show absurd e Jac)))
  cases x<;>first|show absurd e Jac|(cases y<;>try (show absurd e Jac))
  cases e;let(v,w,rfl,i,U):=A.two;cases i.int_inv;cases U.int_inv;show Jny hc c s m H _ o Q I r #[_,_,rfl,fin.now f (RelD.int _)]
 |min2=>
  rcases ds with _|⟨x,_|⟨y,_|⟨z,ds⟩⟩⟩<;>try (first|show absurd e Jac|(cases x<;>show absurd e Jac)|(cases x<;>first|show absurd e Jac|(cases y<;>show absurd e Jac)))
  cases x<;>first|show absurd e Jac|(cases y<;>try (show absurd e Jac))
  cases e;let(v,w,rfl,i,U):=A.two;cases i.int_inv;cases U.int_inv;show Jnx hc c s m H _ o Q I r #[_,_,rfl,fin.now f (RelD.int _)]
 |int1=>
  let(x,v,rfl,rfl,i):=pr1 e nofun nofun A;cases x<;>try (show absurd e Jac)
  .cases e;cases i.bl_inv;show Jhs c s m H _ o Q I r (.inr #[_,rfl,fin.now f (RelD.int _)])
  .cases e;cases i.int_inv;show Jhs c s m H _ o Q I r (.inl #[_,rfl,fin.now f (RelD.int _)])
 |list1=>
  let(x,v,rfl,rfl,i):=pr1 e nofun nofun A
  delta Xh at e;dsimp only at e
  split at e
  .rename_i N C;cases e;let(a,Y,rfl,sq,t):=f.seq i C;show Jhq c s m H _ o Q I r #[a,Y,rfl,sq,fin.newL f t]
  .split at e
   .rename_i l _;cases hd:dctAt S l with
    |none=>rw[hd]at e;cases e
    |some j=>
     rw[hd]at e;cases e;let(a,u,rfl,_,J,q):=f.dct i (Jee hd);show Jgi hc c s m H _ o Q I r #[a,u,rfl,J,fin.newL f ?_];let e1:u.map (λkv=>kV kv.1)=j.map λp=>V.int p.1:=by
      let:=congrArg (Vx kV) q.keys;rw[Bp,Bp,Bp]at this;show this
     rw[e1];let all:∀l:List (Int×D),RelDs X.K ρ H (l.map λp=>D.int p.1) (l.map λp=>V.int p.1):=λl=>by
      induction l with
      |nil=>show RelDs.nil
      |cons p l ih=>show RelDs.cons (RelD.int _) ih
     show all j
   .cases e
 |tuple1=>
  let(x,v,rfl,rfl,i):=pr1 e nofun nofun A
  delta Xh at e;dsimp only at e
  split at e
  .rename_i N C;cases e;let(a,Y,rfl,sq,t):=f.seq i C;show Jgh c s m H _ o Q I r #[a,Y,rfl,?_];rcases sq with sq|sq
   .show .inl #[sq,fin.newT f t]
   .show .inr #[sq,fin.now f (by simp only[RelD];exists a,Y,rfl,sq,t)]
  .cases e
 |all1=>
  let(x,v,rfl,rfl,i):=pr1 e nofun nofun A;cases x<;>try (show absurd e Jac)
  delta Xh at e;dsimp only at e
  w_top e
  rename_i N C;w_top e
  rename_i b hb;cases e;show Jht hc c s m H _ o Q I r #[ρ,S,_,N,b,f,v,rfl,i,C,hb,fin.now f (RelD.bl _)]
 |sum1=>
  let(x,v,rfl,rfl,i):=pr1 e nofun nofun A;cases x<;>try (show absurd e Jac)
  delta Xh at e;dsimp only at e
  w_top e
  rename_i N C;w_top e
  rename_i b hb;cases e;show Jho hc c s m H _ o Q I r #[ρ,S,_,N,b,f,v,rfl,i,C,hb,fin.now f (RelD.int _)]
 |sort1=>
  let(x,v,rfl,rfl,i):=pr1 e nofun nofun A;cases x<;>try (show absurd e Jac)
  delta Xh at e;dsimp only at e
  w_top e
  rename_i ps L;w_top e
  rename_i E;cases e;let go:∀{a},v=.ref a->((∃j,UpD H a j ps)\/∃bs,SqL X.K H a (bs.map V.ref)/\Paired (λk b=>H b=-(.tup ((pK k).map kV))) ps bs/\Rdu.Sm ps/\⇑ps<sizeLine)->Rdu.Sm ps->wpAny (model X.prog X.w) X.A (call (.builtin "sorted") o) (EP X c m Q) X.xe s:=λ{a} ev w sm=>by
   subst ev;show Jhp hc c s m H _ o Q I r #[a,ps,rfl,w,λp bs qs hp pm sl hl hb=>?_];let:=Jm0 (K:=X.K) (ρ:=ρ) hl hb;rw[Jur pm sl λa ha b hb h=>Rdu.Jl4 (sm.1 a ha) (sm.1 b hb) h]at this;show fin.newL f this p hp
  unfold Wah at L;split at L
  .rename_i j hd;cases L;rw[Ag]at E;let(a,u,rfl,_,J,q):=f.dtu i (Jbd hd);show go rfl (.inl #[u,Jjk J q E]) (Jjk J q E).2.2.1
  .let(N,C,hp):=K6.1 L;let(a,xs,rfl,_,hx,t):=f.lst i (Jah C);let(bs,rfl,hb):=Jel (g:=V.ref) (R:=λ(k:Rdu.PK) b=>H b=-(.tup ((pK k).map kV))) (λ{d b v} r e=>by
    cases Jdw e;show Jdp np r) t hp
   let sm:=Jrc E.1;show go rfl (.inr #[bs,SqL.of hx,hb,sm,E.2]) sm
 |dict1=>
  let(x,v,rfl,rfl,i):=pr1 e nofun nofun A;cases x<;>try (show absurd e Jac)
  delta Xh at e;dsimp only at e
  w_top e
  .rename_i j L;cases e;let(a,u,rfl,_,J,q):=f.dct i L;show Jfp c s m H _ o Q I r #[a,rfl,.inl #[u,.inl J,fin.newO f λp n=>#[u,Jae,q.fut (Ja2 n [p])]]]
  .rename_i j L;w_top e
   rename_i hap;cases e;let(a,u,rfl,_,J,q):=f.dtu i L;show Jfp c s m H _ o Q I r #[a,rfl,.inr #[u,.inl J,Jzm q hap,fin.newO f λp n=>#[u,Jae,q.fut (Ja2 n [p])]]]
noncomputable def Zn:Meth->String
 |.append=>"append"|.pop0=>"pop"|.get2=>"get"|.indexT=>"index"|.get1=>"get"|.pop1=>"pop"
noncomputable def Zo:Meth->String
 |.append=>"list.append"|.pop0=>"list.pop"|.get2=>"dict.get"|.indexT=>"tuple.index"|.get1=>"dict.get"|.pop1=>"dict.pop"
def rM(K:Ah)(p:Meth):V->List V->Hp->VK->Prop:=λx c H Q=>∃ρ S o a d b,RelS K ρ S H/\RelD K ρ H o x/\RelDs K ρ H a c/\Xk p o a S=.ok d b/\Fin K ρ H d b Q
def Jp1(I:Inv X C σ H s)(r:RelS X.K ρ S H)(N:RelD X.K ρ H x Q)(rx:RelV Q w){us:List Value}
  (t:RelDs X.K ρ H ds xs)(v:Vals xs us)(e:Wak S x ds=-j):∃e:Value->Bool,∃p:j<⇑us,e us[j]=true/\(∀m (i:m<⇑us),m<j->e us[m]=false)/\∀A:Bo,A.units<Dm->∀u∈us,Fo A s u w (e u):=by
 unfold Wak at e;split at e
 .rename_i a;rw[Dg]at a
  classical
  show let E:Value->Bool:=λu=>decide (∃d z,RelD X.K ρ H d z/\RelV z u/\eqD S 0 d x=-true);?_
  let k:∀{d:D} {v:V} {u:Value} {b:Bool},RelD X.K ρ H d v->RelV v u->eqD S 0 d x=-b->E u=b:=λ{d v u b} h J e=>by
   cases b with
   |true=>show decide_eq_true #[d,v,h,J,e]
   |false=>
    show decide_eq_false ?_;rintro⟨d',v',U,Y,e'⟩;cases J.inj Y;rw[RelD.inj I r h U,e']at e;cases e
  let l:∀(m:Nat) (i:m<⇑us),∃d z,ds[m]? =-d/\RelD X.K ρ H d z/\RelV z us[m]:=λm i=>by
   let L:m<⇑ds:=by rw[⇑t,⇑v];show i
   let(z,c,f):=t.get (Ae L);let(u',e2,g):=v.get c;let(_,e3):=Ad.1 e2;exists _,z,Ae L,f,by rw[e3];show g
  let(p,h1,h2):=List.findIdx?_eq_some_iff_getElem.1 e;let n:j<⇑us:=by rw[<-⇑v,<-⇑t];show p
  exists E,n,?_,λm i y=>?_,λA hA u hu=>?_
  .let(d,z,c,f,g):=l j n;rw[Ae p]at c;cases c;show k f g (by erw[h1])
  .let(d,z,c,f,g):=l m i;let o:m<⇑ds:=by lia
   let:=h2 m y;rw[Ae o]at c;cases c;let(b,hb):=Cz.1 (a _ (Fi o));rw[k f g hb];rw[hb]at this;cases b
   .rfl
   .simp at this
  .let(m,i,rfl):=List.getElem_of_mem hu;let(d,z,c,f,g):=l m i;let(b,hb):=Cz.1 (a _ (As c));rw[k f g hb];show(Jfl I r 0 (by erw[hA]) f N g rx hb).eq
 .cases e
theorem Jmt(p:Meth)(hu:X.A.units+64<Dm)(np:npB X.K=true):MtR X (Zo p) (rM X.K p):=by
 intro l s Y H x xs v us Q I rx C hq_;let(ρ,S,o,E,d,S',A,N,rd,e,fin):=hq_;cases p with
 |append=>
  cases o<;>first|show absurd e Jac|(rcases E with _|⟨y,_|⟨z,E⟩⟩<;>try (show absurd e Jac))
  all_goals (delta Xk at e;dsimp only at e)
  split at e
  .rename_i ys J;split at e
   .rename_i hl;cases e;let(a,zs,rfl,ha,q,t):=A.lst N J;let(w,rfl,c):=rd.one;show Jmo l s Y H _ _ v us Q I rx C #[a,zs,w,rfl,rfl,q,by rw[<-⇑t,<-Ja7];show hl,fin ρ _ _ (Jcv q) (A.set ha q (t.append (RelDs.cons c RelDs.nil))) RelD.non]
   .cases e
  .cases e
 |pop0=>
  cases o<;>first|show absurd e Jac|(rcases E with _|⟨y,E⟩<;>try (show absurd e Jac))
  all_goals (delta Xk at e;dsimp only at e)
  split at e
  .rename_i ys J;split at e
   .rename_i z hz;cases e;let(a,zs,rfl,ha,q,t):=A.lst N J;cases rd.inv_nil;let(w,ew,c):=t.get hz;show Jx2 l s Y H _ _ v us Q I rx C #[a,zs,w,rfl,rfl,q,by rw[<-⇑t];show ew,fin ρ _ _ (Jcv q) (A.set ha q t.dropLast) (c.fut (Jcv q))]
   .cases e
  .cases e
 |indexT=>
  cases o<;>first|show absurd e Jac|(rcases E with _|⟨y,_|⟨z,E⟩⟩<;>try (show absurd e Jac))
  all_goals (delta Xk at e;dsimp only at e)
  split at e
  .split at e
   .rename_i j hj;cases e;let(a,zs,rfl,q,t):=N.tup_inv;let(vy,rfl,c):=rd.one;let(u,rfl,ru):=vals1 C;cases rx;let(its,vv,pl,_):=I.tuple q;let(ev,hk,e1,e2,e3):=Jp1 I A c ru t vv hj;show Jfs (show s.heap.IsTuple a its.toArray from pl) (by erw[hk]) (by erw[e1]) (λm hm hlt=>by erw[e2 m (by erw[hm]) hlt]) (λy J=>e3 _ (by rw[in1_units];lia) y (by erw[J])) #[.int j,H,I.tok _,#[_,rfl],fin.now A (RelD.int _)]
   .cases e
  .cases e
 |get1=>
  cases o<;>first|show absurd e Jac|(rcases E with _|⟨y,_|⟨z,E⟩⟩<;>try (show absurd e Jac))
  (delta Xk at e;dsimp only at e)
  w_top e
  rename_i o' ho;cases e;let(vy,rfl,ry):=rd.one;let(u,rfl,ru):=vals1 C;let(a,o2,rfl,_,g,h):=Ji2 np A N ry ho;cases rx;show Jza (by change X.A.units+1<Dm;lia) I g ru λw' s' I' c=>#[_,H,I',c,?_]
  rcases h with⟨rfl,rfl⟩|⟨d,v,rfl,rfl,q⟩
  .show fin.now A RelD.non
  .show fin.now A q
 |pop1=>
  cases o<;>first|show absurd e Jac|(rcases E with _|⟨y,_|⟨z,E⟩⟩<;>try (show absurd e Jac))
  (delta Xk at e;dsimp only at e)
  let(vy,rfl,ry):=rd.one;let(u,rfl,ru):=vals1 C;w_top e
  .w_top e
   rename_i i hk _ k J;w_top e
   rename_i d0 hd;cases e;cases Jdw J;let(a,U,rfl,hp,ea,q):=A.dtu N hk;let(b,rfl,eb):=Jdp np ry;cases rx;cases ru;rcases q.val Jdr k with⟨z,_⟩|⟨d',v,z1,z2,z3⟩
   .rw[z]at hd;cases hd
   .rw[z1]at hd;cases hd;let f:Fut X.K ρ H ρ (upd H a (.dT (X9 U (pK k)))):=Jca (o0:=.dT U) ea (λ_ z=>by cases z) (λ_ _ z=>by cases z);show Jy7 (by change X.A.units+2<Dm;lia) I ea eb z2 λw' s' I' c=>#[v,_,I',c,fin ρ _ _ f (A.setO (o0:=.dT U) hp f #[_,Jae,(q.drop Jdr k).fut f]) (z3.fut f)]
  .rename_i i hk;cases y<;>try (cases e;done)
   rename_i k;dsimp only at e;w_top e
   rename_i d0 hd;cases e;let(a,U,rfl,hp,ea,q):=A.dct N hk;cases rx;cases ry.int_inv;rcases q.val (λ_ _=>Kg) k with⟨z,_⟩|⟨d',v,z1,z2,z3⟩
   .rw[z]at hd;cases hd
   .rw[z1]at hd;cases hd;let f:Fut X.K ρ H ρ (upd H a (.dK (X9 U (.inl k)))):=Jca (o0:=.dK U) ea (λ_ z=>by cases z) (λ_ _ z=>by cases z);show J0w (k:=.inl k) I ea ru z2 (.inl rfl) λw' s' I' c=>#[v,_,I',c,fin ρ _ _ f (A.setO (o0:=.dK U) hp f #[_,Jae,(q.drop (λ_ _=>Kg) k).fut f]) (z3.fut f)]
 |get2=>
  cases o<;>first|show absurd e Jac|(rcases E with _|⟨x0,_|⟨y,_|⟨z,E⟩⟩⟩<;>try (first|show absurd e Jac|(cases x0<;>show absurd e Jac)))
  cases x0<;>try (show absurd e Jac)
  cases e;rename_i i k;let(a,rfl,kd):=N.kd_inv;let(v1,v2,rfl,r1,r2):=rd.two;let(u1,u2,rfl,q1,q2):=vals2 C;cases rx;cases r1.str_inv;let(tk,rfl):=q1;let T:=kd.text I.kIn;show Vp (h₀:=s.heap) (D:=i.map λp=>(p.1,Fz (.int p.2))) #[T,λ_ _ z=>z] ?_;clear T kd;let main:∀(i:List (Str×Int)),(∀n L,i.lookup k=-n->EP X l Y Q (.int n L) {s with toks:=s.toks+1})->(i.lookup k=none->EP X l Y Q u2 {s with toks:=s.toks+1})->
    Vu s.heap k (λv=>EP X l Y Q v {s with toks:=s.toks+1}) (EP X l Y Q u2 {s with toks:=s.toks+1}) (i.map λp=>(p.1,Fz (.int p.2))):=by
   intro i
   induction i with
   |nil=>intro _ h2;show Vq (h2 rfl)
   |cons p r ih=>
    let(y,n):=p;intro h1 h2
    by_cases J:k=y
    .subst J;show Vs rfl (Vo λt=>h1 n t 's')
    .let hb:(k==y)=false:=by erw[J]
     show Vr J (ih (λn L e=>h1 n L (by simp only[Fh,hb];show e)) λe=>h2 (by simp only[Fh,hb];show e))
  show main i (λn L en=>?_) (λen=>?_)
  .rw[en]at fin;exists .int n,H,I.tok _,#[_,rfl],fin.now A (RelD.int _)
  .rw[en]at fin;exists _,H,I.tok _,q2,fin.now A r2
end
structure Ow where
 mt:List (String×String×String)
 fd:List (String×String)
 nw:List (String×String)
structure Ck where
 N:List Str
 names:List (Str×Ga)
 fn:Bool
 B:List String
 F:List String
 O:Ow
noncomputable def dbg(x:Str):Bool:= !(x==("__debug__":Str))&& !(x==("__classdict__":Str))
noncomputable def Ck.vis(c:Ck)(x:Str):Bool:=c.names.lookup x==-.local||c.names.lookup x==-.cell||c.names.lookup x==-.free
noncomputable def Ck.own(c:Ck)(x:Str):Bool:=if c.fn then c.names.lookup x==-.local||c.names.lookup x==-.cell else c.names.lookup x==-.local
noncomputable def Ck.gl(c:Ck)(x:Str):Bool:=c.names.lookup x==-.globalImplicit
noncomputable def relab(a b:List (Str×Ga)):List (Str×Ga):=a.map λ(n,k)=>if(k== .free&&b.lookup n==-.cell)then(n,.cell)else(n,k)
def Ck.inner(c:Ck)(N:List String)(a:Kb):Ck:={c with N:=N.map Ac,names:=relab a.names c.names,fn:=false}
noncomputable def Ck.comp(c:Ck)(N:List String)(k:Nat)(keep:List Nat)(scope:Kb):Bool:=
 scope.kind== .function&&scope.names.all (λy=>y.2 != .cell)&&scope.names.all (λy=>y.2 != .local||scope.names.lookup y.1==-.local)
  &&scope.names.all (λy=>y.2 != .free||c.names.lookup y.1==-.cell||c.names.lookup y.1==-.free)
  &&⇑N==k+⇑keep&&decide ((N.map Ac).Nodup)
  &&(Bz ⇑keep).all (λj=>match keep[j]?,(N.map Ac)[k+j]? with
   |some i,-x=>c.N[i]? ==-x&&scope.names.lookup x==-.free
   |_,_=>false)
noncomputable def Jb8:Expr->Bool
 |.Call (.Name ..) [] [] _=>true
 |_=>false
noncomputable def Wa0:Expr->Bool
 |.Name .. =>true
 |_=>false
noncomputable def Yn:Expr->Bool
 |.ListComp .. =>true|.SetComp .. =>true|.DictComp .. =>true
 |_=>false
noncomputable def Ys(k:Nat):M->Bool
 |.tvar i=>decide (i<k)
 |.ttup ts=>Ys k ts
 |.nul=>true
 |.cns a b=>Ys k a&&Ys k b
 |_=>false
noncomputable def Wbf:Meth->M->Bool
 |.indexT,.glb _=>true
 |.indexT,_=>false
 |_,_=>true
noncomputable def cNB:Expr->Bool
 |.Constant .none _ _=>true
 |_=>false
noncomputable def Wbg:Expr->Bool
 |.Set .. =>false
 |_=>true
def Yx(o:Cop)(e:Expr):Bool:=match o with
 |.isc=>cNB e
 |.isnc=>cNB e
 |_=>Wbg e
noncomputable def cnV:(x:Expr)->Option {k:Const//∃n p,x=.Constant k n p}
 |.Constant k n p=>-#[k,n,p,rfl]
 |_=>none
noncomputable def dC:D->Option Const
 |.non=>-.none
 |.bl b=>-(.bool b)
 |.int i=>-(.int i)
 |.str x=>-(.str x)
 |_=>none
noncomputable def fV:(x:Expr)->Option {q:Str×Pos×List Expr×Pos//x=.Call (.Name q.1 q.2.1) q.2.2.1 [] q.2.2.2}
 |.Call (.Name y p) es [] q=>-#[(y,p,es,q),rfl]
 |_=>none
theorem aO{a:Type}{o:Option a}{f:a->Bool}(h:o.any f=true):∃q,f q=true:=by
 cases o with
 |none=>show fx9 h
 |some q=>exists q,h
noncomputable def zC(n:Str):(x:Expr)->Option {_u:Unit//∃p q,x=.Call (.Name n p) [] [] q}
 |.Call (.Name y p) [] [] q=>if h:n=y then -#[(),p,q,by rw[h]]else none
 |_=>none
noncomputable def nC(n:String):(x:Expr)->Option {e:Expr//∃p q,x=.Call (.Name (Ac n) p) [e] [] q}
 |.Call (.Name y p) [e] [] q=>if h:Ac n=y then -#[e,p,q,by rw[h]]else none
 |_=>none
def mC(m:String):(x:Expr)->Option {e:Expr//∃p q,x=.Call (.Attribute e (Ac m) p) [] [] q/\(!Jb8 e)=true/\(p.endLine==q.line)=true}
 |.Call (.Attribute e y p) [] [] q=>if h:Ac m=y/\(!Jb8 e)=true/\(p.endLine==q.line)=true then -#[e,p,q,by rw[h.1],h.2]else none
 |_=>none
noncomputable def iC:(x:Expr)->Option {r:Expr×Str//∃a b c,x=.Call (.Name "isinstance" a) [r.1,.Name r.2 b] [] c}
 |.Call (.Name z p) [e,.Name y q] [] s=>if h:z="isinstance" then -#[(e,y),p,q,s,by rw[h]]else none
 |_=>none
def hV(x:Expr):Option {e:Expr//∃a b c d ap cp,x=.Call (.Name "dict" a) [.Call (.Name "sorted" b) [.Call (.Attribute e "items" ap) [] [] cp] [] c] [] d/\(!Jb8 e)=true/\(ap.endLine==cp.line)=true}:=
 match nC "dict" x with
 |some #[y,f]=>(match nC "sorted" y with
  |some #[z,g]=>(match mC "items" z with
   |some #[e,i]=>-#[e,let#[a,d,j]:=f;let#[b,c,k]:=g;let#[ap,cp,l,h]:=i;#[a,b,c,d,ap,cp,by rw[j,k,l],h]]
   |none=>none)
  |none=>none)
 |none=>none
def lV(x:Expr):Option {e:Expr//∃a b c d,x=.Call (.Name "len" a) [.Call (.Name "set" b) [e] [] c] [] d}:=
 match nC "len" x with
 |some #[y,f]=>(match nC "set" y with
  |some #[e,g]=>-#[e,let#[a,d,h]:=f;let#[b,c,i]:=g;#[a,b,c,d,by rw[h,i]]]
  |none=>none)
 |none=>none
noncomputable def nW:M->Bool
 |.dcm .. =>false
 |_=>true
def asK(m:M):Expr->Expr->Bool
 |.Tuple ..,.Tuple .. =>false|.Name ..,_=>nW m|_,v=> !Yn v
noncomputable def itT:M->Expr->Bool
 |.enm _,.Tuple _ _ _=>true
 |.enm _,_=>false
 |.zp _ _,.Tuple _ _ _=>true
 |.zp _ _,_=>false
 |_,_=>true
mutual
noncomputable def Xf:M->Ck->Expr->Bool
 |.cst d,_,x=>(cnV x).any λk=>dC d==some k.1
 |.var i,c,.Name x _=>c.N[i]? ==-x&&c.vis x&&dbg x
 |.glb g,c,.Name x _=>Ac g==x&&c.gl x&&dbg x
 |.bin o a b,c,.BinOp e p f _=>Wcd o==p&&Xf a c e&&Xf b c f
 |.neg a,c,.UnaryOp .USub e _=>Xf a c e
 |.nott a,c,.UnaryOp .Not e _=>Xf a c e
 |.bit a,c,x=>(mC "bit_length" x).any λe=>Wa0 e.1&&Xf a c e.1
 |.bo true as,c,.BoolOp .And es _=>Xu as c es
 |.bo false as,c,.BoolOp .Or es _=>Xu as c es
 |.cmp o a b,c,.Compare e [p] [f] _=>Y4 o==p&&Xf a c e&&Xf b c f&&Yx o f
 |.cmp2 o o' a b d,c,.Compare e [p,s] [f,g] _=>Y4 o==p&&Y4 o'==s&&Xf a c e&&Xf b c f&&Xf d c g&&Yx o f&&Yx o' g
 |.ife t a b,c,.IfExp x e f _=>Xf t c x&&Xf a c e&&Xf b c f
 |.tup as,c,.Tuple es _ _=>Xu as c es
 |.lst as,c,.List es _=>Xu as c es
 |.idx a b,c,.Subscript e f _=>Xf a c e&&Xf b c f
 |.sli a lo u,c,.Subscript e (.Slice l h none _) _=>Xf a c e&&Wap lo c l&&Wap u c h
 |.call f as,c,x=>(fV x).any λq=>Ac f==q.1.1&&c.gl q.1.1&&dbg q.1.1&&c.F.contains f&&Xu as c q.1.2.2.1
 |.prim p as,c,.Call (.Name x _) (e::es) [] _=>Ac (X8 p)==x&&c.gl x&&c.B.contains (X8 p)&&Xu as c (e::es)
 |.isi a t,c,x=>(iC x).any λq=>Ac t==q.1.2&&c.gl "isinstance"&&c.gl q.1.2&&c.B.contains "isinstance"&&c.B.contains t&&clNames.contains t&&Xf a c q.1.1
 |.meth p o as,c,.Call (.Attribute e x ap) es [] cp=>Ac (Zn p)==x&& !Jb8 e&&ap.endLine==cp.line&&decide (⇑es<20)&&Xf o c e&&Xu as c es&&Wbf p o
 |.comp N k keep tg it cd el,c,.ListComp n [#[t,i,v,r]] j _=>r==0&&c.comp N k keep j&&Ys k tg&&Y6 tg (c.inner N j) t&&Y5 it c i&&Wa2 cd (c.inner N j) v&&Xf el (c.inner N j) n&&itT it t
 |.dcm N keep tg a el,c,.ListComp n [#[t,i,[],r]] j _=>r==0&&c.comp N 1 keep j&&Ys 1 tg&&Y6 tg (c.inner N j) t&&((mC "values" i).any λe=>Xf a c e.1)&&Xf el (c.inner N j) n
 |.dnil _,_,.Dict [] [] _=>true
 |.hld a,c,x=>(hV x).any λe=>c.gl "dict"&&c.gl "sorted"&&c.B.contains "dict"&&c.B.contains "sorted"&&Xf a c e.1
 |.lsp a,c,x=>(lV x).any λe=>c.gl "len"&&c.gl "set"&&c.B.contains "len"&&c.B.contains "set"&&Xf a c e.1
 |.fld cl f a,c,.Attribute e x _=>Ac f==x&&Wa0 e&&c.O.fd.contains (cl,f)&&Xf a c e
 |.mcl cl m f o as,c,.Call (.Attribute e x ap) es [] cp=>Ac m==x&&Wa0 e&&ap.endLine==cp.line&&decide (⇑es<20)&&c.O.mt.contains (cl,m,f)&&Xf o c e&&Xu as c es
 |.new cl f,c,x=>(zC (Ac cl) x).any λ_=>c.gl (Ac cl)&&dbg (Ac cl)&&c.O.nw.contains (cl,f)
 |_,_,_=>false
noncomputable def Xu:M->Ck->List Expr->Bool
 |.nul,_,[]=>true
 |.cns a b,c,e::es=>Xf a c e&&Xu b c es
 |_,_,_=>false
noncomputable def Wap:M->Ck->Option Expr->Bool
 |.nul,_,none=>true
 |.cns a .nul,c,-e=>Xf a c e
 |_,_,_=>false
noncomputable def Wa2:M->Ck->List Expr->Bool
 |.nul,_,[]=>true
 |.cns a .nul,c,[e]=>Xf a c e
 |_,_,_=>false
noncomputable def Y5:M->Ck->Expr->Bool
 |.rng a,c,x=>(nC "range" x).any λe=>c.gl "range"&&c.B.contains "range"&&Xf a c e.1
 |.cns a .nul,c,e=>Xf a c e
 |.enm a,c,x=>(nC "enumerate" x).any λe=>c.gl "enumerate"&&c.B.contains "enumerate"&&Xf a c e.1
 |.zp a b,c,.Call (.Name x _) [e,f] [] _=>Ac "zip"==x&&c.gl x&&c.B.contains "zip"&&Xf a c e&&Xf b c f
 |.rvi a,c,x=>(nC "reversed" x).any λe=>c.gl "reversed"&&c.B.contains "reversed"&&Xf a c e.1
 |_,_,_=>false
noncomputable def Y6:M->Ck->Expr->Bool
 |.tvar i,c,.Name x _=>c.N[i]? ==-x&&c.own x
 |.ttup ts,c,.Tuple es _ _=>Yu ts c es
 |.tsub a b,c,.Subscript e f _=>Xf a c e&&Xf b c f
 |_,_,_=>false
noncomputable def Yu:M->Ck->List Expr->Bool
 |.nul,_,[]=>true
 |.cns a b,c,e::es=>Y6 a c e&&Yu b c es
 |_,_,_=>false
noncomputable def Wbu:M->Ck->Stmt->Bool
 |.asg t e,c,.Assign [tg] v _=>Y6 t c tg&&Xf e c v&&asK e tg v
 |.aug i e,c,.AugAssign (.Name x _) .Add v _=>c.N[i]? ==-x&&c.own x&&Xf e c v
 |.ifs t a b,c,.If x y z _=>Xf t c x&&Yp a c y&&Yp b c z
 |.forr t i b,c,.For tg it d [] _=>Y6 t c tg&&Y5 i c it&&Yp b c d&&itT i tg
 |.ret e,c,.Return (-v) _=>Xf e c v
 |.exp e,c,.Expr v _=>Xf e c v&& !Yn v
 |.rse,_,.Raise (-_) none _=>true
 |.sfd cl f o v,c,.Assign [.Attribute e x _] w _=>Ac f==x&& !Yn w&&c.O.fd.contains (cl,f)&&Xf o c e&&Xf v c w
 |_,_,_=>false
noncomputable def Yp:M->Ck->List Stmt->Bool
 |.nul,_,[]=>true
 |.cns a b,c,s::d=>Wbu a c s&&Yp b c d
 |_,_,_=>false
end
theorem Weg:Xu (.cns a b) c (e::es)=(Xf a c e&&Xu b c es):=rfl
def aB(h:(a&&b)=true):a=true/\b=true:=(Am _ _).mp h
section
variable (K:Ah) (C:Pr)
inductive tE (m:M) (σ:L2.St) (H:Hp) (Q:VK):Prop
 |mk (ρ S Z d S') (_:RelS K ρ S H) (_:RelE K ρ H Z σ) (_:evE C m Z S=.ok d S') (_:Fin K ρ H d S' Q):tE m σ H Q
noncomputable def FinB(ρ:List Addr)(H:Hp)(c:Store)(Q:Hp->Prop):Prop:=∀a b,Fut K ρ H a b->RelS K a c b->Q b
inductive tT (m:M) (σ:L2.St) (H:Hp) (Q:Bool->Hp->Prop):Prop
 |mk (ρ S Z b S') (_:RelS K ρ S H) (_:RelE K ρ H Z σ) (_:evT C m Z S=.ok b S') (_:FinB K ρ H S' (Q b)):tT m σ H Q
inductive tC (m:M) (σ:L2.St) (H:Hp) (Q:Bool->Hp->Prop):Prop
 |mk (ρ S Z b S') (_:RelS K ρ S H) (_:RelE K ρ H Z σ) (_:evC C m Z S=.ok b S') (_:FinB K ρ H S' (Q b)):tC m σ H Q
inductive tBV (w:Bool) (m:M) (σ:L2.St) (H:Hp) (Q:VK):Prop
 |mk (ρ S Z d S') (_:RelS K ρ S H) (_:RelE K ρ H Z σ) (_:evBV C w m Z S=.ok d S') (_:Fin K ρ H d S' Q):tBV w m σ H Q
inductive tBT (w:Bool) (m:M) (σ:L2.St) (H:Hp) (Q:Bool->Hp->Prop):Prop
 |mk (ρ S Z b S') (_:RelS K ρ S H) (_:RelE K ρ H Z σ) (_:evBT C w m Z S=.ok b S') (_:FinB K ρ H S' (Q b)):tBT w m σ H Q
inductive tA (m:M) (σ:L2.St) (H:Hp) (Q:List V->Hp->Prop):Prop
 |mk (ρ S Z ds S') (_:RelS K ρ S H) (_:RelE K ρ H Z σ) (_:evA C m Z S=.ok ds S') (_:∀ρ' vs H',Fut K ρ H ρ' H'->RelS K ρ' S' H'->RelDs K ρ' H' ds vs->Q vs H'):tA m σ H Q
inductive tO (m:M) (σ:L2.St) (H:Hp) (Q:Option Int->Hp->Prop):Prop
 |mk (ρ S Z o S') (_:RelS K ρ S H) (_:RelE K ρ H Z σ) (_:evO C m Z S=.ok o S') (_:FinB K ρ H S' (Q o)):tO m σ H Q
structure ItOk(ρ0:List Addr)(H0:Hp)(J:It)(g:Wk)(ds:List D):Prop where
 go:∀ρ H S i d,Fut K ρ0 H0 ρ H->RelS K ρ S H->sameAt S g ⇑ds=true->nth S g ds i=-d->J.go i H/\∀x H',J.yld i H x H'->Fut K ρ H ρ H'/\RelS K ρ S H'/\RelD K ρ H' d x
 stop:∀ρ H S,Fut K ρ0 H0 ρ H->RelS K ρ S H->sameAt S g ⇑ds=true->J.stop ⇑ds H
inductive tI (m:M) (σ:L2.St) (H:Hp) (R:It->Hp->Prop):Prop
 |mk (ρ S Z g ds S') (_:RelS K ρ S H) (_:RelE K ρ H Z σ) (_:evI C m Z S=.ok (g,ds) S') (_:∀ρ' H' J,Fut K ρ H ρ' H'->RelS K ρ' S' H'->ItOk K ρ' H' J g ds->R J H'):tI m σ H R
noncomputable def FinG(ρ:List Addr)(H:Hp)(d:En)(e:Store)(Q:L2.St->Hp->Prop):Prop:=∀a b c,Fut K ρ H a c->RelS K a e c->RelE K a c d b->Q b c
inductive tG (m:M) (v:V) (σ:L2.St) (H:Hp) (Q:L2.St->Hp->Prop):Prop
 |mk (ρ S Z d Z' S') (_:RelS K ρ S H) (_:RelE K ρ H Z σ) (_:RelD K ρ H d v) (_:evG C m d Z S=.ok Z' S') (_:FinG K ρ H Z' S' Q):tG m v σ H Q
inductive tGs (m:M) (vs:List V) (σ:L2.St) (H:Hp) (Q:L2.St->Hp->Prop):Prop
 |mk (ρ S Z ds Z' S') (_:RelS K ρ S H) (_:RelE K ρ H Z σ) (_:RelDs K ρ H ds vs) (_:evGs C m ds Z S=.ok Z' S') (_:FinG K ρ H Z' S' Q):tGs m vs σ H Q
def FlOk(ρ:List Addr)(H:Hp)(b:Fl)(a:Store)(D:Ends):Prop:=match b with
 |.nx c=>FinG K ρ H c a D.nx
 |.rt d=>Fin K ρ H d a D.rt
inductive tS (m:M) (D:Ends) (σ:L2.St) (H:Hp):Prop
 |mk (ρ S Z fl S') (_:RelS K ρ S H) (_:RelE K ρ H Z σ) (_:evS C m Z S=.ok fl S') (_:FlOk K ρ H fl S' D):tS m D σ H
inductive tB' (m:M) (D:Ends) (σ:L2.St) (H:Hp):Prop
 |mk (ρ S Z fl S') (_:RelS K ρ S H) (_:RelE K ρ H Z σ) (_:evB C m Z S=.ok fl S') (_:FlOk K ρ H fl S' D):tB' m D σ H
noncomputable def spM(f:String):Sp:=λe H Q _=>∃a S b d c,RelS K a S H/\RelDs K a H b e/\C.call f b S=.ok d c/\Fin K a H d c Q
end
structure Tp(P:Program)(w:World)(K:Ah)(mg:Str->Option Value)(base:Heap)(A:Bo)(C:Pr)(B F:List String)(O:Ow):Prop where
 fns:∀f∈F,∃k a fd ps,Xp k A/\mg (Ac f)=-(.ref a)/\Yd P w K mg base CX0 k a fd ps (spM K C f)/\Binds K fd ps []/\Ek K (.ref a)=true
 blt:∀x∈B,mg (Ac x)=none
 gl:∀x d,C.glob x=-d->∃v u,mg (Ac x)=-u/\RelV v u/\(∀ρ H,RelD K ρ H d v)/\∀ds,d=.tup ds->∃a o,v=.ref a/\K.lookup a=-o/\o.cls=.type "tuple"/\o.dict=none
 un:A.units+64<Dm
 np:npB K=true
 mts:∀c m f,(c,m,f)∈O.mt->∃k a fd ps Ca,Xp (k+1) A/\Cc K Bl (Ac c)=-(-(.ref Ca))/\L2.Cls K Ca/\L2.Meth K Ca (Ac m) a/\Yd P w K mg base CX0 k a fd ps (spM K C f)/\Binds K fd ps []
 fds:∀c f,(c,f)∈O.fd->∃Ca,Cc K Bl (Ac c)=-(-(.ref Ca))/\L2.Cls K Ca/\L2.Xy K Ca (Ac f)
 nws:∀c f,(c,f)∈O.nw->∃k a fd ps Ca,Xp (k+1) A/\Cc K Bl (Ac c)=-(-(.ref Ca))/\mg (Ac c)=-(.ref Ca)/\L2.Mk K Ca a/\Yd P w K mg base CX0 k a fd ps (spM K C f)/\Binds K fd ps []
structure Gd(X:Cx)(C:Pr)(c:Ck):Prop where
 N:X.N=c.N
 nd:X.N.Nodup
 names:X.env.scope.names=c.names
 sk:X.env.scope.kind=.function
 fn:∀x,X.fn x=c.fn
 calm:X.calm=true
 xe:X.xe=λ_ _=>False
 top:Tp X.prog X.w X.K X.mg X.base X.A C c.B c.F c.O
section
variable {X:Cx} {C:Pr} {c:Ck}
def PE.imp(h:PE X e t)(d:∀b H Q,t' b H Q->t b H Q):PE X e t':=λa s b H Q I q=>h a s b H Q I (d _ _ _ q)
def PT.imp(h:PT X e t)(d:∀b H Q,t' b H Q->t b H Q):PT X e t':=λa s b H Q I q=>h a s b H Q I (d _ _ _ q)
def PA.imp(h:PA X e t)(f:∀b H Q,t' b H Q->t b H Q):PA X e t':=λd a s b H Q I q=>h d a s b H Q I (f _ _ _ q)
def PI.imp(h:PI X tg e t)(d:∀b H Q,t' b H Q->t b H Q):PI X tg e t':=λa s b H Q I q=>h a s b H Q I (d _ _ _ q)
def PO.imp(h:PO X e t)(d:∀b H Q,t' b H Q->t b H Q):PO X e t':=λa s b H Q I q=>h a s b H Q I (d _ _ _ q)
def PG.imp(h:PG X e t)(d:∀v b H Q,t' v b H Q->t v b H Q):PG X e t':=λa s b H v u Q I r q=>h a s b H v u Q I r (d _ _ _ _ q)
def PGs.imp(h:PGs X e t)(d:∀v b H Q,t' v b H Q->t v b H Q):PGs X e t':=λa s b H v u Q I r q=>h a s b H v u Q I r (d _ _ _ _ q)
def PS.imp(h:PS X e t)(d:∀D b H,t' D b H->t D b H):PS X e t':=λa s b H D I q=>h a s b H D I (d _ _ _ q)
def PSs.imp(h:PSs X e t)(d:∀D b H,t' D b H->t D b H):PSs X e t':=λa s b H D I q=>h a s b H D I (d _ _ _ q)
def PTs.imp(h:PTs X e t)(d:∀b H Q,t' b H Q->t b H Q):PTs X e t':=λa s b H Q I q=>h a s b H Q I (d _ _ _ q)
def Z4(h:dbg x=true):(x==("__debug__":Str))=false:=by unfold dbg at h;simp only[Am,Ky]at h;show h.1
def Wee(h:dbg x=true):(x==("__classdict__":Str))=false:=by unfold dbg at h;simp only[Am,Ky]at h;show h.2
def Gd.vis(g:Gd X C c)(h:c.vis x=true):Vis X.env.scope x:=by
 unfold Ck.vis at h;simp only[Ib,beq_iff_eq]at h;unfold Vis;rw[g.names];rcases h with(h|h)|h
 .show .inl h
 .show .inr (.inl h)
 .show .inr (.inr h)
def Gd.own(g:Gd X C c)(h:c.own x=true):L2.Loc X.env.scope x/\(X.fn x=true\/X.env.scope.names.lookup x=-.local):=by
 unfold Ck.own at h;unfold L2.Loc;rw[g.names,g.fn];split at h
 .rename_i a;simp only[Ib,beq_iff_eq]at h;exists h,.inl a
 .simp only[beq_iff_eq]at h;exists .inl h,.inr h
def Gd.glo(g:Gd X C c)(h:c.gl x=true):Gl X x:=by
 unfold Ck.gl at h;simp only[beq_iff_eq]at h;unfold Gl Env.kindOf;rw[g.names];show h
def noStar:∀{m:M} {c:Ck} {e:Expr},Xf m c e=true->∀x p,e≠ .Starred x p:=by
 intro m c e h x p z;subst z;cases m<;>first|(show fx9 h)|(rename_i d;cases d<;>show fx9 h)|(rename_i w _;cases w<;>show fx9 h)
def Jag(h:∀x p,e≠ .Starred x p):Cd (e::es) env=(false,eval e env)::Cd es env:=by
 cases e<;>first|rfl|show absurd rfl (h _ _)
def Jcd(h:∀x p,e≠ .Starred x p):G6 (e::es) env=(false,assign e env)::G6 es env:=by
 cases e<;>first|rfl|show absurd rfl (h _ _)
theorem Ye:∀{m:M} {c:Ck} {es:List Expr} {env:Env},Xu m c es=true->(Cd es env).any (·.1)=false:=by
 intro m
 induction m with
 |nul=>intro c es env h;cases es<;>first|rfl|show fx9 h
 |cns a b _ d=>
  intro c es env h;cases es with
  |nil=>show fx9 h
  |cons e es=>
   simp only[Weg,Am]at h;rw[Jag (noStar h.1),Gy,d h.2];rfl
 |_=>intro c es env h;show fx9 h
theorem Ja4(pos:Pos)(l:List (Bool×Sem Value)):(Gs pos l).any (·.1)=l.any (·.1):=by
 unfold Gs;rw[Rq];rfl
def Jfr(pos:Pos)(l:List (Bool×Sem Value))(h:l.any (·.1)=false):(Gs pos l).all (λx=> !x.1)=true:=by
 unfold Gs;rw[Xe];rw[N3]at h;rw[Dg];intro x a;let:=h x a
 erw[this]
def Wav:∀{m:M} {c:Ck} {e:Expr},Xf m c e=true->Zz e:=by
 intro m c e h o i;cases e<;>first|rfl|(exfalso;cases m<;>first|(show fx9 h)|(rename_i d;cases d<;>show fx9 h)|(rename_i w _;cases w<;>show fx9 h))
def Jal{l:List String}(h:l.contains x=true):x∈l:=by erw[h]
def marks(h:Yx o e=true)(p:CmpOp):Jy p e=false:=by
 cases e<;>first|rfl|(cases o<;>show fx9 h)
def Jbw(h:Xu as c (e::es)=true):∃a b,as=.cns a b:=by
 cases as<;>first|exists _,_,rfl|show fx9 h
def Jdg(h:Xu as c []=true):as=.nul:=by
 cases as<;>first|rfl|show fx9 h
theorem Jse(h:Xu as c es=true):as=.nul\/∃a b,as=.cns a b:=by
 cases es with
 |nil=>show .inl (Jdg h)
 |cons e es=>show .inr (Jbw h)
def Jze(h:Wap (.cns a b) c x=true):∃e,x=-e/\b=.nul:=by
 cases b<;>first|show fx9 h|(cases x<;>first|exists _,rfl,rfl|show fx9 h)
def Jzh(h:Wa2 (.cns a b) c x=true):∃e,x=[e]/\b=.nul:=by
 cases b<;>first|show fx9 h|(rcases x with _|⟨e,_|⟨d,f⟩⟩<;>first|exists _,rfl,rfl|show fx9 h)
def Jzf(h:Y5 (.cns a b) c x=true):b=.nul:=by
 cases b<;>first|rfl|show fx9 h
def Jsd(h:Y6 t c (.Name y p)=true):∃i,t=.tvar i:=by
 cases t<;>first|exists _,rfl|show fx9 h
def Jzg(h:Y6 t c (.List y p)=true):False:=by
 cases t<;>show fx9 h
end
end Mi
namespace Mi
open PySem L2
abbrev SE(C:Pr)(m:M):Prop:=∀(X:Cx) (c:Ck) (x:Expr),Gd X C c->Xf m c x=true->PE X x (tE X.K C m)
abbrev ST(C:Pr)(m:M):Prop:=∀(X:Cx) (c:Ck) (x:Expr),Gd X C c->Xf m c x=true->PE X x (tE X.K C m)/\PT X x (tT X.K C m)
abbrev SG(C:Pr)(m:M):Prop:=∀(X:Cx) (c:Ck) (x:Expr),Gd X C c->Y6 m c x=true->PG X x (tG X.K C m)
abbrev SS(C:Pr)(m:M):Prop:=∀(X:Cx) (c:Ck) (x:Stmt),Gd X C c->Wbu m c x=true->PS X x (tS X.K C m)
structure Snd(C:Pr)(m:M):Prop where
 e:SE C m
 t:∀(X:Cx) (c:Ck) (x:Expr),Gd X C c->Xf m c x=true->PT X x (tT X.K C m)
 a:∀(X:Cx) (c:Ck) (x:List Expr),Gd X C c->Xu m c x=true->PA X x (tA X.K C m)
 bv:∀(X:Cx) (c:Ck) (w:Bool) (x:List Expr) (pos:Pos),Gd X C c->Xu m c x=true->PE X (.BoolOp (if w then .And else .Or) x pos) (tBV X.K C w m)
 bt:∀(X:Cx) (c:Ck) (w:Bool) (x:List Expr) (pos:Pos),Gd X C c->Xu m c x=true->PW X (.BoolOp (if w then .And else .Or) x pos) (tBT X.K C w m)
 o:∀(X:Cx) (c:Ck) (x:Option Expr),Gd X C c->Wap m c x=true->PO X x (tO X.K C m)
 cd:∀(X:Cx) (c:Ck) (x:List Expr),Gd X C c->Wa2 m c x=true->PTs X x (tC X.K C m)
 i:∀(X:Cx) (c:Ck) (tg x:Expr),Gd X C c->Y5 m c x=true->itT m tg=true->PI X tg x (tI X.K C m)/\∀v,D3 x X.env v=pure v
 g:SG C m
 gs:∀(X:Cx) (c:Ck) (x:List Expr),Gd X C c->Yu m c x=true->PGs X x (tGs X.K C m)
 s:SS C m
 b:∀(X:Cx) (c:Ck) (x:List Stmt),Gd X C c->Yp m c x=true->PSs X x (tB' X.K C m)
def SC(C:Pr):M->Prop
 |.comp _ _ _ tg it cd el=>Snd C tg/\Snd C it/\Snd C cd/\Snd C el
 |_=>True
section
variable {C:Pr} {X:Cx} {c:Ck}
def Jud(h:∀a H Q,¬t a H Q):PE X e t:=λb s a H Q _ q=>absurd q (h _ _ _)
def Jz1(h:∀a H Q,¬t a H Q):PT X e t:=λb s a H Q _ q=>absurd q (h _ _ _)
def Jzu(h:∀Z S,evE C m Z S=.bad):∀a H Q,¬tE K C m a H Q:=by
 rintro a H Q ⟨b,S,Z,d,f,_,_,e,_⟩;rw[h]at e;cases e
def Jzt(h:∀Z S,evT C m Z S=.bad):∀a H Q,¬tT K C m a H Q:=by
 rintro a H Q ⟨b,S,Z,d,f,_,_,e,_⟩;rw[h]at e;cases e
def Yk(h:∀a b p,e≠ .Set a b p)(v:Value):D3 e env v=pure v:=by
 cases e<;>first|rfl|show absurd rfl (h _ _ _)
def Wcf:∀{m:M} {c:Ck} {e:Expr},Xf m c e=true->∀a b p,e≠ .Set a b p:=by
 intro m c e h x q p z;subst z;cases m<;>first|(show fx9 h)|(rename_i d;cases d<;>show fx9 h)|(rename_i w _;cases w<;>show fx9 h)
def Jko{x:Expr}(h:PE X x (tE X.K C m))(k:∀a,isTrue x X.env a=(do let v<-a;O8 x.pos;holding [v] (truthy v)))
  (l:∀Z S b g,evT C m Z S=.ok b g->∃d,evE C m Z S=.ok d g/\tru g d=-b):PT X x (tT X.K C m):=by
 show PT.imp (Joz h k) λu H Q i=>?_;let(n,S,Z,b,g,o,re,e,fin):=i;let(d,p,s):=l Z S b g e;exists n,S,Z,d,g,o,re,p,λj v t f r q=>#[b,Jlm r q s,fin j t f r]
def Jtj(t:Snd C a)(hb:Snd C b):SE C (.bin o a b):=by
 intro X c x g h;w_plain x h
 replace h:=aB h
 simp only[Am,beq_iff_eq]at h;obtain⟨⟨rfl,u⟩,v⟩:=h;show PE.imp (Jz5 (Jzi o) (t.e X c _ g u) (hb.e X c _ g v)) λσ H Q f=>?_;let(w,S,Z,d,y,z,re,e,fin):=f;let(l,m,A,e):=Ch e;let(n,p,E,e):=Ch e;exists w,S,Z,l,m,z,re,A,λi v1 H1 r I J=>#[i,m,Z,n,p,I,re.fut r,E,λj v2 H2 s L N=>?_];exists j,p,l,n,d,y,L,J.fut s,N,e,λk U Y f3 r3 q3=>fin k U Y (r.trans (s.trans f3)) r3 q3
def Js1(j:Snd C a):SE C (.neg a):=by
 intro X c x g h;w_plain x h
 rename_i k e l;w_plain k h
 show PE.imp (Jz3 Jwg (j.e X c _ g h)) λu H Q b=>?_;let(m,S,Z,d,v,n,re,e,fin):=b;let(i,o,p,e):=Ch e;exists m,S,Z,i,o,n,re,p,λf w H1 r s t=>?_;cases i<;>simp only at e<;>try (cases e;done)
 cases e;exists _,t.int_inv,fin f _ H1 r s (RelD.int _)
def Tm(X:Cx)(T:String)(x:V)(H:Hp):Prop:=∀b s e v,Inv X b e H s->RelV x v->s.TypeIs v T/\∀a,v=.ref a->∃d,s.heap.get? a=-d/\d.dict=none
def Jqs(h:(!Jb8 o)=true):attributeBase o name env (eval o env)=eval o env:=by
 cases o<;>try rfl
 rename_i a b d e;cases a<;>try rfl
 cases b<;>try rfl
 cases d<;>try rfl
 show fx9 h
def Jro{id:String}{a b:Pos}{r:V->List V->Hp->VK->Prop}(l:Wj T)(f:Slot T name id)(i:typeOf (.builtin id)=pure (.type "method_descriptor"))(m:MtR X id r)(n:PE X o p)
  (hb:(!Jb8 o)=true)(e:(a.endLine==b.line)=true):PE X (.Call (.Attribute o name a) [] [] b) (λg H Q=>p g H λx H1=>Tm X T x H1/\r x [] H1 Q):=by
 intro d s g H Q I h;show L5 (Jqs hb) e (thn (n d s g H _ I h) λv t #[x,H1,j,k,u,w]=>?_);let(y,z):=u _ _ _ _ j k;exists T,id,l,f,i,y,z,Im rfl (Mr (m d t g H1 x [] v [] Q j k .nil w))
def Jx3:MtR X "int.bit_length" (λx xs H Q=>xs=[]/\∃i,x=.int i/\Q (.int (B4 i)) H):=by
 intro b s e H x xs v f Q I rx r a;let(rfl,i,rfl,q):=a;cases r;let(t,rfl):=(show∃d,v=Eg i d from rx)
 show PyProof.Rows.call_int_bit_length #[.int _,H,I.tok _,#[_,rfl],q]
def Jti(j:Snd C a):SE C (.bit a):=by
 intro X c x g h;obtain⟨⟨z,ap,k,rfl,l,m⟩,h⟩:=aO h;dsimp only at h;let(_,n):=aB h;show PE.imp (Jro PySem.F.plainAttrs_int PySem.F.slot_int_bit_length PySem.F.type_int_bit_length Jx3 (j.e X c _ g n) l m) λA H Q b=>?_;let(o,S,Z,d,E,p,re,e,fin):=b;let(i,r,u,e):=Ch e;exists o,S,Z,i,r,p,re,u,λf I H1 v w y=>?_;cases i<;>simp only at e<;>try (cases e;done)
 cases e;cases y.int_inv;exists λ_ s _ _ _ #[t,e]=>by subst e;show#[Wa s _ t,nofun],rfl,_,rfl,fin f _ H1 v w (RelD.int _)
def Juc(f:PE X a g):PE X (.UnaryOp .Not a pos) (λe H Q=>g e H λx H1=>∃k,Wa3 X.K x H1 k/\Q (.bl (!k)) H1):=by
 intro d s e H Q I h;show Us (thn (f d s e H _ I h) λv i #[x,H1,j,l,m]=>?_);let(k,n,q):=m;show PyProof.Rows.not_of (thn (Jq8 d i e H1 x v (λb H2=>Q (.bl (!b)) H2) j l #[k,n,q]) λb r #[H2,o,p]=>?_);exists .bl (!b),H2,o,rfl,p
def Jsz(n:Snd C a):ST C (.nott a):=by
 intro X c x g h;w_plain x h
 rename_i r e s;w_plain r h
 constructor
 .show PE.imp (Juc (n.e X c _ g h)) λt H Q f=>?_;let(i,S,Z,d,u,j,re,e,fin):=f;let(k,o,l,e):=Ch e;exists i,S,Z,k,o,j,re,l,λm y H1 v p w=>?_;split at e
  .rename_i b hb;cases e;exists b,Jlm p w hb,fin m _ H1 v p (RelD.bl _)
  .cases e
 .show PT.imp (Jw3 (n.t X c _ g h)) λt H Q f=>?_;let(i,S,Z,d,u,j,re,e,fin):=f;let(k,o,l,e):=Ch e;cases e;exists i,S,Z,k,_,j,re,l,fin
def Jth(ha:Snd C a)(hb:Snd C b):ST C (.cmp o a b):=by
 intro X c x g h;w_plain x h
 rename_i l u cs pos;rcases u with _|⟨p,_|⟨p2,u⟩⟩<;>first|show fx9 h|(rcases cs with _|⟨f,_|⟨U,cs⟩⟩<;>try (show fx9 h))
 replace h:=aB h
 simp only[Am,beq_iff_eq]at h;obtain⟨⟨⟨rfl,h1⟩,h2⟩,h3⟩:=h;let v:∀{m S Z k t H w} {Q:VK},RelS X.K m S H->RelE X.K m H Z w->(evE C a Z S).bind (λx j=>(evE C b Z j).bind λy i=>match cop o x y i with|some k=>(.ok (.bl k) i:Res D)|none=>.bad)=.ok (.bl k) t->
   FinB X.K m H t (λz=>Q (.bl k) z)->tOp (rC X.K o) (tE X.K C a) (tE X.K C b) w H Q:=λ{m S Z k t H w Q} A re e fin=>by
  let(I,j,J,e):=Ch e;let(L,i,N,e):=Ch e;exists m,S,Z,I,j,A,re,J,λY v1 H1 f1 r1 q1=>#[Y,j,Z,L,i,r1,re.fut f1,N,λE v2 H2 U r2 q2=>?_];split at e
  .rename_i k' hk;cases e;exists E,_,I,L,_,r2,q1.fut U,q2,hk,fin E H2 (f1.trans U) r2
  .cases e
 constructor
 .show PE.imp (Jug (Jfn o g.top.un g.top.np) (ha.e X c _ g h1) (hb.e X c _ g h2) (marks h3 _)) λw H Q n=>?_;let(m,S,Z,d,t,A,re,e,fin):=n;let hd:∃k,d=.bl k:=by
   let(I,j,J,e):=Ch e;let(L,i,N,e):=Ch e;split at e
   .cases e;exists _,rfl
   .cases e
  let(k,rfl):=hd;show v A re e λs z f r=>fin s _ z f r (RelD.bl _)
 .show PT.imp (Jtz (Jfn o g.top.un g.top.np) (ha.e X c _ g h1) (hb.e X c _ g h2) (marks h3 _)) λw H Q n=>?_;let(m,S,Z,k,t,A,re,e,fin):=n;let e':(evE C a Z S).bind (λx j=>(evE C b Z j).bind λy i=>match cop o x y i with|some k=>(.ok (.bl k) i:Res D)|none=>.bad)=.ok (.bl k) t:=by
   let(I,j,J,e):=Ch e;let(L,i,N,e):=Ch e;rw[J,Res.bind_ok,N,Res.bind_ok];split at e
   .rename_i hk;cases e;first|rfl|rw[hk]
   .cases e
  show v A re e' λs z f r=>#[k,rfl,fin s z f r]
def Joo(ha:Snd C a)(hb:Snd C b)(hd:Snd C d):ST C (.cmp2 o o' a b d):=by
 intro X c x g h;w_plain x h
 rename_i l y cs pos;rcases y with _|⟨p,_|⟨p2,_|⟨p3,y⟩⟩⟩<;>first|show fx9 h|(rcases cs with _|⟨f,_|⟨j,_|⟨f3,cs⟩⟩⟩<;>try (show fx9 h))
 replace h:=aB h
 simp only[Am,beq_iff_eq]at h;obtain⟨⟨⟨⟨⟨⟨rfl,rfl⟩,h1⟩,h2⟩,h3⟩,h4⟩,h5⟩:=h;let hm:lastMarks [Y4 o,Y4 o'] [f,j]=false:=by
  change Jy (Y4 o') j=false;show marks h5 _
 let z:∀{m S Z k v H A} {Q:VK},RelS X.K m S H->RelE X.K m H Z A->evE C (.cmp2 o o' a b d) Z S=.ok (.bl k) v->
   FinB X.K m H v (λE=>Q (.bl k) E)->Zm (rC X.K o) (rC X.K o') (tE X.K C a) (tE X.K C b) (tE X.K C d) A H Q:=λ{m S Z k v H A Q} I re e fin=>by
  let(J,U,Y,e):=Ch e;let(w,L,e2,e):=Ch e;exists m,S,Z,J,U,I,re,Y,λρ1 v1 H1 f1 r1 q1=>#[ρ1,U,Z,w,L,r1,re.fut f1,e2,λi v2 H2 j r2 q2=>?_];split at e
  .rename_i n;let(x3,S3,e3,e):=Ch e;exists i,L,J,w,true,r2,q1.fut j,q2,n,true,rfl,?_;rw[if_pos rfl];exists i,L,Z,x3,S3,r2,re.fut (f1.trans j),e3,λN v3 H3 f3 r3 q3=>?_;split at e
   .rename_i k' s;cases e;exists N,_,w,x3,_,r3,q2.fut f3,q3,s,fin N H3 (f1.trans (j.trans f3)) r3
   .cases e
  .rename_i n;cases e;exists i,_,J,w,false,r2,q1.fut j,q2,n,false,rfl,?_;rw[if_neg Bb];show fin i H2 (f1.trans j) r2
  .cases e
 constructor
 .show PE.imp (Jpe (Jfn o g.top.un g.top.np) (Jfn o' g.top.un g.top.np) (ha.e X c _ g h1) (hb.e X c _ g h2) (hd.e X c _ g h3) hm) λA H Q t=>?_;let(m,S,Z,d',v,I,re,e,fin):=t;let hd:∃k,d'=.bl k:=by
   let(J,U,Y,e):=Ch e;let(w,L,e2,e):=Ch e;split at e
   .let(x3,S3,e3,e):=Ch e;split at e
    .cases e;exists _,rfl
    .cases e
   .cases e;exists _,rfl
   .cases e
  let(k,rfl):=hd;show z I re e λu E f r=>fin u _ E f r (RelD.bl _)
 .show PT.imp (Jo0 (Jfn o g.top.un g.top.np) (Jfn o' g.top.un g.top.np) (ha.e X c _ g h1) (hb.e X c _ g h2) (hd.e X c _ g h3) hm) λA H Q t=>?_;let(m,S,Z,k,v,I,re,e,fin):=t;let e':evE C (.cmp2 o o' a b d) Z S=.ok (.bl k) v:=by
   change Res.bind _ _=_;let(J,U,Y,e):=Ch e;let(w,L,e2,e):=Ch e;rw[Y,Res.bind_ok,e2,Res.bind_ok];split at e
   .rename_i n
    try rw[n]
    let(x3,S3,e3,e):=Ch e;rw[e3,Res.bind_ok];split at e
    .rename_i s;cases e;first|rfl|rw[s]
    .cases e
   .rename_i n;cases e;first|rfl|rw[n]
   .cases e
  show z I re e' λu E f r=>#[k,rfl,fin u E f r]
end
section
variable {C:Pr}
theorem Js7(s:Snd C t)(u:Snd C a)(hb:Snd C b):SE C (.ife t a b):=by
 intro X c x g h;w_plain x h
 replace h:=aB h
 simp only[Am]at h;show PE.imp (Jo9 (s.t X c _ g h.1.1) (u.e X c _ g h.1.2) (hb.e X c _ g h.2)) λz H Q l=>?_;let(v,S,Z,d,p,w,re,e,fin):=l;let(k,m,y,e):=Ch e;exists v,S,Z,k,m,w,re,y,λi H1 j r=>?_;cases k with
 |true=>rw[if_pos rfl];exists i,m,Z,d,p,r,re.fut j,e,λf n H2 o=>fin f n H2 (j.trans o)
 |false=>rw[if_neg Bb];exists i,m,Z,d,p,r,re.fut j,e,λf n H2 o=>fin f n H2 (j.trans o)
def Jsu(j:Snd C as):SE C (.tup as):=by
 intro X c x g h;w_plain x h
 show PE.imp (Jxf (j.a X c _ g h)) λv H Q a=>?_;let(k,S,Z,d,w,l,re,e,fin):=a;let(m,n,o,e):=Ch e;exists k,S,Z,m,n,l,re,o,λb y H1 p r i=>?_;split at e
 .rename_i s;cases e;exists by rw[<-⇑i,<-Ja7];show s,Fin.newT (ρ:=b) (λf t H2 u=>fin f t H2 (p.trans u)) r i
 .cases e
def Js3(j:Snd C as):SE C (.lst as):=by
 intro X c x g h;w_plain x h
 show PE.imp (Jxj (j.a X c _ g h)) λv H Q a=>?_;let(k,S,Z,d,w,l,re,e,fin):=a;let(m,n,o,e):=Ch e;exists k,S,Z,m,n,l,re,o,λb y H1 p r i=>?_;split at e
 .rename_i s;cases e;exists by rw[<-⇑i,<-Ja7];show s,Fin.newL (ρ:=b) (λf t H2 u=>fin f t H2 (p.trans u)) r i
 .cases e
def Js8(w:Snd C a)(hb:Snd C b):ST C (.idx a b):=by
 intro X c x g h;w_plain x h
 rename_i y z A
 replace h:=aB h
 let s:PE X (.Subscript y z A) (tE X.K C (.idx a b)):=by
  show PE.imp (Jz6 (Jyp (Gu (Jz (by decide:2<=64) _) g.top.un) g.top.np) (w.e X c _ g h.1) (hb.e X c _ g h.2) (Wav h.2)) λσ H Q f=>?_;let(E,S,Z,d,I,J,re,e,fin):=f;let(i,j,l,e):=Ch e;let(m,t,n,e):=Ch e;exists E,S,Z,i,j,J,re,l,λo v1 H1 u L N=>#[o,j,Z,m,t,L,re.fut u,n,λp v2 H2 v U Y=>?_];split at e
  .rename_i d' hd;cases e;exists p,_,i,m,d,U,N.fut v,Y,hd,λr v3 H3 f3 r3 q3=>fin r v3 H3 (u.trans (v.trans f3)) r3 q3
  .cases e
 exists s,Jko s (λ_=>rfl) λZ S b I e=>?_;let(i,j,l,e):=Ch e;let(m,t,n,e):=Ch e;split at e
 .rename_i d hd;split at e
  .rename_i k hk;cases e;exists d,Res.bnd l (Res.bnd n (by rw[hd])),hk
  .cases e
 .cases e
def Jsv(v:Snd C a)(w:Snd C l)(y:Snd C u):SE C (.sli a l u):=by
 intro X c x g h;w_plain x h
 rename_i e0 sl z;w_plain sl h
 rename_i lo up st p2;w_plain st h
 replace h:=aB h
 simp only[Am]at h;show PE.imp (Jo6 Jwl (v.e X c _ g h.1.1) (w.o X c _ g h.1.2) (y.o X c _ g h.2)) λσ H Q b=>?_;let(A,S,Z,d,E,I,re,e,fin):=b;let(o,p,J,e):=Ch e;let(L,r,N,e):=Ch e;let(U,s,Y,e):=Ch e;exists A,S,Z,o,p,I,re,J,λf v1 H1 i r1 q1=>#[f,p,Z,L,r,r1,re.fut i,N,λj H2 k r2=>#[j,r,Z,U,s,r2,re.fut (i.trans k),Y,λm H3 t r3=>?_]];exists m,s,o,d,E,r3,q1.fut (k.trans t),e,λn v4 H4 f4 r4 q4=>fin n v4 H4 (i.trans (k.trans (t.trans f4))) r4 q4
def Jop(ha:Snd C as):ST C (.call f as):=by
 intro X c x g h;obtain⟨⟨⟨y,p,n,o⟩,rfl⟩,h⟩:=aO h;dsimp only at h ⊢;simp only[Am,beq_iff_eq]at h;obtain⟨⟨⟨⟨rfl,J⟩,L⟩,h3⟩,j⟩:=h;let(k,a,fd,ps,N,U,F,hb,l):=g.top.fns f (Jal h3);let Y:PE X (.Call (.Name (Ac f) p) n [] o) (tE X.K C (.call f as)):=by
  let rd:∀{t:TA},(∀i H Q,tA X.K C as i H Q->t i H Q)->∀i H Q,tE X.K C (.call f as) i H Q->Z9 (spM X.K C f) [] E0 t i H Q:=λht i H Q #[r,S,Z,d,s,u,re,e,fin]=>by
   let(m,v,w,e):=Ch e;show ht i H _ #[r,S,Z,m,v,u,re,w,λA vs H1 f1 r1 q1=>?_];change spM X.K C f (vs++[]) H1 Q E0;rw[Co];exists A,v,m,d,s,r1,q1,e,λE v2 H2 f2 r2 q2=>fin E v2 H2 (f1.trans f2) r2 q2
  cases n with
  |nil=>
   show PE.imp (Jpf F N (g.glo J) U l hb .nil Jmh (Z4 L)) (rd λi H Q #[r,S,Z,m,s,u,re,e,fin]=>?_);obtain rfl:=Jdg j;cases e;show fin r [] H Fut.refl u RelDs.nil
  |cons e n=>
   let(a0,b0,rfl):=Jbw j;let I:=j
   replace j:=aB j
   show PE.imp (Juh F N (g.glo J) U l hb .nil Jmh (ha.a X c _ g I) (Z4 L) (Jag (noStar j.1)) (by rw[Ja4];show Ye j.2)) (rd λi H Q z=>z)
 exists Y,Jko Y (λ_=>rfl) λZ S b s e=>?_;let(m,v,w,e):=Ch e;let(d,S2,e2,e):=Ch e;split at e
 .rename_i k l;cases e;exists d,Res.bnd w e2,l
 .cases e
def Jok(u:Snd C as):ST C (.prim p as):=by
 intro X c x g h;w_plain x h
 rename_i L f j l;w_plain L h
 rename_i y N;cases j<;>first|show fx9 h|(w_plain f h)
 rename_i v f
 replace h:=aB h
 simp only[Am,beq_iff_eq]at h;obtain⟨⟨⟨rfl,w⟩,U⟩,a⟩:=h;let z:=g.top.blt _ (Jal U);let i:(∀x p,v≠ .Starred x p)/\(Cd f X.env).any (·.1)=false:=by
  let(a0,b0,rfl):=Jbw a
  replace a:=aB a
  exists noStar a.1,Ye a.2
 let A:∀m H Q,tE X.K C (.prim p as) m H Q->tCB (rP X.K p) (tA X.K C as) m H Q:=λm H Q #[Y,S,Z,d,E,rs,re,e,fin]=>by
  let(n,o,r,e):=Ch e;exists Y,S,Z,n,o,rs,re,r,λs vs H1 f1 r1 q1=>?_;exists s,o,n,d,E,r1,q1,e,λt v2 H2 f2 r2 q2=>fin t v2 H2 (f1.trans f2) r2 q2
 let I:PE X (.Call (.Name (Ac (X8 p)) N) (v::f) [] l) (tE X.K C (.prim p as)):=by
  let hp:=Jt3 (X:=X) p g.calm g.top.np;let hb:=Jn2 p;unfold Zb at hp hb
  by_cases J:Wab p=true
  .rw[if_pos J]at hp hb;show PE.imp (Jmg hp (g.glo w) z hb (u.a X c _ g a) (Jg9 p) (Jfm p) (Jag i.1) (by rw[Ja4];show i.2)) A
  .rw[if_neg J]at hp hb;show PE.imp (Jjq hp (g.glo w) z hb (u.a X c _ g a) (Jg9 p) (Jfm p) (Jag i.1) (by rw[Ja4];show i.2)) A
 exists I,Jko I (λ_=>rfl) λZ S b E e=>?_;let(n,o,r,e):=Ch e;let(d,S2,e2,e):=Ch e;split at e
 .rename_i k hk;cases e;exists d,Res.bnd r e2,hk
 .cases e
def Jvs:∀t∈clNames,Dy (Ac t)=-(.type t)/\Ac t≠"__name__"/\(Ac t==("__debug__":Str))=false:=by
 intro t a;simp only[clNames,An,Bg,or_false]at a;rcases a with rfl|rfl|rfl|rfl<;>exists by kernel_rfl,by decide+kernel,by decide+kernel
def Js5(z:Snd C a):ST C (.isi a t):=by
 intro X c x g h;obtain⟨⟨⟨p,y⟩,A,i,j,rfl⟩,h⟩:=aO h;dsimp only at h ⊢;simp only[Am,beq_iff_eq]at h;obtain⟨⟨⟨⟨⟨⟨rfl,E⟩,I⟩,J⟩,L⟩,N⟩,k⟩:=h;let r:t∈clNames:=by erw[N]
 let(U,Y,b3):=Jvs t r;let py:PE X (.Name (Ac t) i) (L2.tC (.ty t)):=Jui (g.glo I) (g.top.blt _ (Jal L)) U rfl Y b3;let pa:PA X [p,.Name (Ac t) i] (Z8 (tE X.K C a) (Z8 (L2.tC (.ty t)) Z6)):=Jbj (z.e X c _ g k) (Jbj py Jdq rfl) (Jag (noStar k));let s:PE X (.Call (.Name (Ac "isinstance") A) [p,.Name (Ac t) i] [] j) (tE X.K C (.isi a t)):=by
  show PE.imp (Jjq (Jyj r) (g.glo E) (g.top.blt _ (Jal J)) 'k' pa (by decide+kernel) (by decide+kernel) (Jag (noStar k)) (by rw[Ja4];rfl)) λσ H Q l=>?_;let(ρ,S,Z,d,S',rs,re,e,fin):=l;let(m,u,n,e):=Ch e;exists ρ,S,Z,m,u,rs,re,n,λf v1 H1 f1 v q1=>?_;split at e
  .rename_i w o;cases e;exists f,_,m,v1,w,v,rfl,q1,o,fin f _ H1 f1 v (RelD.bl _)
  .cases e
 exists s,Jko s (λ_=>rfl) λZ S b S' e=>?_;let(m,u,n,e):=Ch e;split at e
 .rename_i w o;cases e;exists _,Res.bnd n (by rw[o]),rfl
 .cases e
def Jxm{X:Cx}{T id:String}{name:Str}{o e:Expr}{es:List Expr}{d a:Pos}{k:TE}{r:V->List V->Hp->VK->Prop}{as:M}{c:Ck}{t:TA}
  (u:Wj T)(i:Slot T name id)(j:typeOf (.builtin id)=pure (.type "method_descriptor"))(w:MtR X id r)(y:PE X o k)(z:PA X (e::es) t)
  (hb:(!Jb8 o)=true)(hc:Xu as c (e::es)=true)(hn:(e::es).length<20)(f:(d.endLine==a.line)=true):
  PE X (.Call (.Attribute o name d) (e::es) [] a) (λg H Q=>k g H λx H1=>Tm X T x H1/\t g H1 λxs H2=>r x xs H2 Q):=by
 intro b s g H Q I h;show wpAny_Call_method_late (Jqs hb) ?_ f rfl (thn (y b s g H _ I h) λv A #[x,H1,l,m,E,J]=>?_)
 .rw[Jfr _ _ (Ye (env:=X.env) hc)];simp only[Na,Am,decide_eq_true_eq];exists rfl,by simp only[H9,List.isEmpty_nil,if_true];lia
 let(L,N):=E _ _ _ _ l m;exists T,id,u,i,j,L,N,?_;let n:=z a b A g H1 _ l J;let(a0,b0,rfl):=Jbw hc;let p:=aB hc;rw[Jag (noStar p.1)]at n ⊢;show Im (by change(false||(Gs a (Cd es X.env)).any (·.1))=false;rw[Ja4,Ye p.2]<;>rfl) (Calls.evalArgs_plain ?_);show thn n λU Y #[vs,H2,I2,r2,q2]=>w b Y g H2 x vs v U Q I2 m r2 q2
def Tm.lst{X:Cx}(h:SqL X.K H a xs):Tm X "list" (.ref a) H:=λb s f v I r=>by
 cases r;let(d,_,pl,_):=I.list h;exists pl.isList.typeIs,λa e=>?_;cases e;let(o,n,e,c,hd,_):=pl;exists o,e,hd
def Tm.dct(h:IsD H a):Tm X "dict" (.ref a) H:=λb s e v I r=>by
 cases r;let(c,d,_):=Jm7 I h;exists c,d
def Jww{X:Cx}(hp:isDm p=false)(b:p≠ .get2)(c:p≠ .indexT)(r:RelS X.K ρ S H)(q:RelD X.K ρ H x v)(h:rcv p S x=true)(e:Xk p x ds i=.ok d j):Tm X "list" v H:=by
 let a:∃l,x=.loc l:=by
  clear q h;cases p<;>first|show absurd rfl b|show absurd rfl c|(cases x<;>first|exists _,rfl|show absurd e Jac)
 let(l,rfl):=a;let(k,f):=Cz.1 (show(seqAt S l).isSome=true by simpa [rcv,hp]using h);let(p,m,rfl,a,g,t):=r.lst q (Jah f);show .lst (SqL.of g)
def Jwx{X:Cx}(hp:isDm p=true)(r:RelS X.K ρ S H)(q:RelD X.K ρ H x v)(h:rcv p S x=true):Tm X "dict" v H:=by
 cases x<;>simp only[rcv,hp]at h<;>try (cases h;done)
 simp only[if_true,Ib]at h;rcases h with z|z
 .let(b,c):=Cz.1 z;let(a,d,rfl,_,e,_):=r.dct q (Jee c);show .dct (.inl #[d,.inl e])
 .let(b,c):=Cz.1 z;let(a,d,rfl,_,e,_):=r.dtu q (Jbd c);show .dct (.inr #[d,.inl e])
theorem Jol(ho:Snd C o)(ha:Snd C as):SE C (.meth p o as):=by
 intro X c x g h;w_plain x h
 rename_i fn es kws pos;w_plain fn h
 rename_i e0 y ap;w_plain kws h
 replace h:=aB h
 simp only[Am,beq_iff_eq,decide_eq_true_eq]at h;obtain⟨⟨⟨⟨⟨⟨rfl,h1⟩,h2⟩,h3⟩,N⟩,h5⟩,h6⟩:=h;let E:(ap.endLine==pos.line)=true:=by erw[h2]
 let go:∀{T:String} {to:TE} {A:D->V->Prop} (_:Wj T) (_:Slot T (Ac (Zn p)) (Zo p)) (_:typeOf (.builtin (Zo p))=pure (.type "method_descriptor")) (_:PE X e0 to)
   (_:∀j H (Q:V->Hp->Prop) b Z S x l,RelS X.K b S H->RelE X.K b H Z j->evE C o Z S=.ok x l->(∀i v H1,Fut X.K b H i H1->RelS X.K i l H1->RelD X.K i H1 x v->A x v->Q v H1)->to j H Q)
   (_:∀b S J H x v m d n,RelS X.K b S H->RelD X.K b H x v->A x v->rcv p S x=true->Xk p x m J=.ok d n->Tm X T v H),
   PE X (.Call (.Attribute e0 (Ac (Zn p)) ap) es [] pos) (tE X.K C (.meth p o as)):=λ{T to A} pa U hty hp ht hT=>by
  let rd:∀{t:TA},(∀j H Q,tA X.K C as j H Q->t j H Q)->∀j H Q,tE X.K C (.meth p o as) j H Q->to j H λx H1=>Tm X T x H1/\t j H1 λxs H2=>rM X.K p x xs H2 Q:=λhq j H Q #[b,S,Z,d,n,Y,re,e,fin]=>by
   let(x1,l,e1,e):=Ch e;split at e<;>try (show absurd e Jac)
   rename_i hrc;let(m,J,e2,e):=Ch e;show ht j H _ b Z S x1 l Y re e1 λi v1 H1 f1 r1 q1 a1=>#[hT i l J H1 x1 v1 m d n r1 q1 a1 hrc e,hq j H1 _ #[i,l,Z,m,J,r1,re.fut f1,e2,λρ2 vs H2 f2 r2 q2=>#[ρ2,J,x1,m,d,n,r2,q1.fut f2,q2,e,λρ3 v3 H3 f3 r3 q3=>fin ρ3 v3 H3 (f1.trans (f2.trans f3)) r3 q3]]]
  cases es with
  |nil=>
   show PE.imp (Jro pa U hty (Jmt p g.top.un g.top.np) hp h1 E) (rd (t:=λ_ H Q=>Q [] H) λj H Q #[b,S,Z,m,n,Y,re,e,fin]=>?_);obtain rfl:=Jdg h5;cases e;show fin b [] H Fut.refl Y RelDs.nil
  |cons e1 es=>show PE.imp (Jxm pa U hty (Jmt p g.top.un g.top.np) hp (ha.a X c _ g h5) h1 h5 h3 E) (rd λ_ _ _ z=>z)
 let L:∀j H (Q:V->Hp->Prop) b Z S x l,RelS X.K b S H->RelE X.K b H Z j->evE C o Z S=.ok x l->(∀i v H1,Fut X.K b H i H1->RelS X.K i l H1->RelD X.K i H1 x v->True->Q v H1)->tE X.K C o j H Q:=λj H Q b Z S x l Y re e k=>#[b,S,Z,x,l,Y,re,e,λi v H1 f r q=>k i v H1 f r q trivial]
 cases p with
 |append=>show go Pq R4 PySem.F.type_list_append (ho.e X c _ g N) L λb S J H x v m d n r q _=>Jww rfl nofun nofun r q
 |pop0=>show go Pq Tx PySem.F.type_list_pop (ho.e X c _ g N) L λb S J H x v m d n r q _=>Jww rfl nofun nofun r q
 |get1=>show go F8 Iq Qr (ho.e X c _ g N) L λb S J H x v m d n r q _ h _=>Jwx rfl r q h
 |pop1=>show go F8 Lj PySem.F.type_dict_pop (ho.e X c _ g N) L λb S J H x v m d n r q _ h _=>Jwx rfl r q h
 |get2=>
  show go F8 Iq Qr (ho.e X c _ g N) L λb S J H x v m d n r q _ _ e=>?_;cases x<;>first|show absurd e Jac|skip
  let(a,rfl,kd):=q.kd_inv;intro pins s j v I r;cases r;let(ob,hob,hx):=kd.obj I.kIn;exists#[ob,hob,hx.1],λa' e=>by cases e;exists ob,hob,hx.2.1
 |indexT=>
  w_plain o h6
  rename_i gx;w_plain e0 N
  rename_i y0 p0
  replace N:=aB N
  simp only[Am,beq_iff_eq]at N;obtain⟨⟨rfl,k2⟩,k3⟩:=N;let eg:∀{x Z S l},evE C (.glb gx) Z S=.ok x l->C.glob gx=-x/\l=S:=λ{x Z S l} e=>by
   rw[Jl5]at e;split at e
   .rename_i d hd;cases e;exists hd,rfl
   .cases e
  cases hg:C.glob gx with
  |none=>
   show Jud λj H Q #[b,S,Z,d,n,Y,re,e,fin]=>?_;let(x1,l,e1,e):=Ch e;rw[hg]at eg;cases(eg e1).1
  |some dg=>
   let(v,u,hm,r,hr,ht):=g.top.gl gx dg hg;show go (A:=λx w=>x=dg/\w=v) PySem.F.plainAttrs_tuple Pf PySem.F.type_tuple_index (Jme (g.glo k2) hm r (Z4 k3)) (λj H Q b Z S x l Y re e k=>?_) λb S J H x w m d n _ _ a _ e=>?_
   .let(z,rfl):=eg e;cases hg.symm.trans z;show k b v H Fut.refl Y (hr b H) #[rfl,rfl]
   .let(rfl,rfl):=a;cases x<;>first|show absurd e Jac|skip
    let(a,ob,rfl,hk,hc,hdd):=ht _ rfl;intro pins s j v I r;cases r;exists#[ob,I.kIn a ob hk,hc],λa' e=>by cases e;exists ob,I.kIn a ob hk,hdd
end
section
variable {C:Pr}
def Jtf:SE C (.cst d):=by
 intro X c x g h;obtain⟨⟨k,_,_,rfl⟩,h⟩:=aO h;cases d<;>cases eq_of_beq h
 .show PE.imp Jxi λf H Q a=>?_;let(i,S,Z,d,j,b,re,e,fin):=a;cases e;show fin.now b RelD.non
 .show PE.imp Jz7 λf H Q a=>?_;let(i,S,Z,d,j,b,re,e,fin):=a;cases e;show fin.now b (RelD.bl _)
 .show PE.imp Jxk λf H Q a=>?_;let(i,S,Z,d,j,b,re,e,fin):=a;cases e;show fin.now b (RelD.int _)
 .show PE.imp Jxg λf H Q a=>?_;let(i,S,Z,d,j,b,re,e,fin):=a;cases e;show fin.now b (RelD.str _)
def Jst:ST C (.var i):=by
 intro X c x g h;w_plain x h
 rename_i y p
 replace h:=aB h
 simp only[Am,beq_iff_eq]at h;obtain⟨⟨k,l⟩,f⟩:=h;let j:PE X (.Name y p) (tE X.K C (.var i)):=by
  show PE.imp (Jxe (i:=i) (by rw[g.N];show k) (g.vis l) (Z4 f) (Wee f)) λr H Q a=>?_;let(s,S,Z,d,m,n,re,e,fin):=a;simp only[Jrk]at e;split at e
  .rename_i t hd;cases e;let(v,o,q):=re.at' i _ hd;exists v,o,fin.now n q
  .cases e
 exists j,Jko j (λ_=>rfl) λZ S b m e=>?_;simp only[Jwu]at e;split at e
 .rename_i d hd;split at e
  .rename_i u hb;cases e;exists d,by simp only[Jrk];rw[hd],hb
  .cases e
 .cases e
theorem Jta:SE C (.glb n):=by
 intro X c x g h;w_plain x h
 rename_i y p
 replace h:=aB h
 simp only[Am,beq_iff_eq]at h;obtain⟨⟨rfl,f⟩,i⟩:=h;cases a:C.glob n with
 |none=>show Jud (Jzu λZ S=>by simp only[Jl5];rw[a])
 |some d=>
  let(v,u,j,r,k,_):=g.top.gl n d a;show PE.imp (Jme (g.glo f) j r (Z4 i)) λo H Q b=>?_;let(l,S,Z,d,s,m,re,e,fin):=b;simp only[Jl5]at e;rw[a]at e;cases e;show fin.now m (k l H)
theorem Jwi(y:Snd C a)(hb:Snd C b):∀(X:Cx) (c:Ck) (w:Bool) (x:List Expr) (pos:Pos),Gd X C c->Xu (.cns a b) c x=true->PE X (.BoolOp (if w then .And else .Or) x pos) (tBV X.K C w (.cns a b)):=by
 intro X c w x pos g h;cases x with
 |nil=>show fx9 h
 |cons e n=>
  have L:=h
  replace h:=aB h
  rcases Jse h.2 with rfl|⟨N,U,rfl⟩
  .cases n with
   |cons m n=>show fx9 h.2
   |nil=>
    show PE.imp (Jxh (y.e X c e g h.1)) λI H Q f=>?_;let(o,S,Z,d,p,r,re,e,fin):=f;exists o,S,Z,d,p,r,re,e,fin
  .cases n with
   |nil=>show fx9 h.2
   |cons m n=>
    have s:=hb.bv X c w (m::n) pos g h.2;cases w with
    |true=>
     show PE.imp (Jxn (y.e X c e g h.1) s) λI H Q f=>?_;let(o,S,Z,d,p,r,re,e,fin):=f;let(t,u,m,e):=Ch e;exists o,S,Z,t,u,r,re,m,λi J H1 j v z=>?_;cases t<;>simp only at e<;>try (cases e;done)
     rename_i k;exists k,z.bl_inv,?_;cases k with
     |true=>
      rw[if_pos rfl]at e ⊢;exists i,u,Z,d,p,v,re.fut j,e,λl A H2 E=>fin l A H2 (j.trans E)
     |false=>
      rw[if_neg Bb]at e ⊢;cases e;show fin i _ H1 j v (RelD.bl _)
    |false=>
     show PE.imp (Jz4 (y.e X c e g h.1) s) λI H Q f=>?_;let(o,S,Z,d,p,r,re,e,fin):=f;let(t,u,m,e):=Ch e;exists o,S,Z,t,u,r,re,m,λi J H1 j v z=>?_;cases t<;>simp only at e<;>try (cases e;done)
     rename_i k;exists k,z.bl_inv,?_;cases k with
     |false=>
      rw[if_pos rfl]at e;rw[if_neg Bb];exists i,u,Z,d,p,v,re.fut j,e,λl A H2 E=>fin l A H2 (j.trans E)
     |true=>
      rw[if_neg 'd']at e;rw[if_pos rfl];cases e;show fin i _ H1 j v (RelD.bl _)
theorem Jwj(A:Snd C a)(hb:Snd C b):∀(X:Cx) (c:Ck) (w:Bool) (x:List Expr) (pos:Pos),Gd X C c->Xu (.cns a b) c x=true->PW X (.BoolOp (if w then .And else .Or) x pos) (tBT X.K C w (.cns a b)):=by
 intro X c w x pos g h;cases x with
 |nil=>show fx9 h
 |cons e p=>
  replace h:=aB h
  rcases Jse h.2 with rfl|⟨L,N,rfl⟩
  .cases p with
   |cons o p=>show fx9 h.2
   |nil=>
    have J:∀i H Q,tBT X.K C w (.cns a .nul) i H Q->tT X.K C a i H Q:=λi H Q #[r,S,Z,d,t,u,re,e,fin]=>by
     exists r,S,Z,d,t,u,re,e,fin
    cases w with
    |true=>show λl f s i H Q I q=>Jtt (A.t X c e g h.1) l f s i H Q I (J _ _ _ q)
    |false=>show λl f s i H Q I q=>Jw1 (A.t X c e g h.1) l f s i H Q I (J _ _ _ q)
  .cases p with
   |nil=>show fx9 h.2
   |cons o p=>
    have v:=hb.bt X c w (o::p) pos g h.2;cases w with
    |true=>
     show λl f s i H Q I q=>Jw2 (A.t X c e g h.1) v l f s i H Q I ?_;let(r,S,Z,d,t,u,re,e,fin):=q;let(k,y,o,e):=Ch e;exists r,S,Z,k,y,u,re,o,λj H1 m z=>?_;cases k with
     |true=>
      rw[if_pos rfl]at e ⊢;exists j,y,Z,d,t,z,re.fut m,e,λn H2 E=>fin n H2 (m.trans E)
     |false=>
      rw[if_neg Bb]at e ⊢;cases e;show fin j H1 m z
    |false=>
     show λl f s i H Q I q=>Jz0 (A.t X c e g h.1) v l f s i H Q I ?_;let(r,S,Z,d,t,u,re,e,fin):=q;let(k,y,o,e):=Ch e;exists r,S,Z,k,y,u,re,o,λj H1 m z=>?_;cases k with
     |false=>
      rw[if_pos rfl]at e;rw[if_neg Bb];exists j,y,Z,d,t,z,re.fut m,e,λn H2 E=>fin n H2 (m.trans E)
     |true=>
      rw[if_neg 'd']at e;rw[if_pos rfl];cases e;show fin j H1 m z
def Jwk(l:Snd C as):ST C (.bo w as):=by
 intro X c x g h;let f:∀b a,Xu as c b=true->PE X (.BoolOp (if w then .And else .Or) b a) (tE X.K C (.bo w as))/\PT X (.BoolOp (if w then .And else .Or) b a) (tT X.K C (.bo w as)):=λb a h=>by
  exists PE.imp (l.bv X c w b a g h) λm H Q #[i,S,Z,d,j,k,re,e,fin]=>?_,PT.imp (l.bt X c w b a g h).pt λm H Q #[i,S,Z,d,j,k,re,e,fin]=>?_
  .exists i,S,Z,d,j,k,re,e,fin
  .exists i,S,Z,d,j,k,re,e,fin
 cases w<;>w_plain x h
 all_goals (rename_i n b a;w_plain n h)
 all_goals show f b a h
def Wd6(K:Ah)(tl:TE):TI:=λc H R=>tl c H λx H1=>∃a,x=.ref a/\(((∃b,SqL K H1 a b)/\R (Itl K a) H1)\/((∃b,SqT K H1 a b)/\R (Itt K a) H1))
def Jxa{X:Cx}(m:PE X l tl):PI X tg l (Wd6 X.K tl):=by
 intro f s n H R I h;show thn (m f s n H _ I h) λv c i=>?_;let(x,H1,d,r,j):=i;let(a,e,j):=j;subst e;cases r;rcases j with⟨⟨t,k⟩,q⟩|⟨⟨t,k⟩,q⟩
 .let(g,u,p,w):=d.list k;show Hk p.isList ?_;exists ↥c,[↥c],_,_,H1,rfl,d.kept (t':=c.toks) λb o e=>Af _ e,Jlk a _,#[_,Ak _ rfl,rfl,rfl],λb hb=>?_,q;let e:b=↥c:=by erw[hb]
  subst e;show d.fpOk (Aj _) (d.hok.fresh (Aj _))
 .let(g,u,p,w):=d.tuple k;show Oo (show c.heap.IsTuple a g.toArray from p) ?_;exists ↥c,[↥c],_,_,H1,rfl,d.kept (t':=c.toks) λb o e=>Af _ e,Jki a _,#[_,Ak _ rfl,rfl,rfl],λb hb=>?_,q;let e:b=↥c:=by erw[hb]
  subst e;show d.fpOk (Aj _) (d.hok.fresh (Aj _))
def Jpv(lo:Int)(n:Nat):ItOk K ρ H (Itr lo n) none ((Bz n).map λ(i:Nat)=>D.int (lo+i))where
 go:=λa c S i d f r s e=>by
  simp only[nth,Ao,Ai]at e;let(j,g,rfl):=e;let(h,b):=Ad.1 g;simp only[Nh]at b;subst b;exists(by simpa using h:i<n),λx H2 #[k,l]=>?_;subst k;exists Fut.refl,r,?_;subst l;show RelD.int _
 stop:=λa c S f r s=>by
  change n<=_;simp
def Jpx(j:ρ[l]? =-a)(ds:List D):ItOk K ρ H (Itl K a) (-(l,.lst)) ds where
 go:=λg m S i d f r s e=>by
  simp only[nth]at e;split at e
  .rename_i n h;let o:=f.get j;let(b,c,q):=r.ob l a _ o (Jah h);let(v,k,p):=q.get e;exists#[b,v,SqL.of c,k],λx H2 #[t,u]=>?_;subst t;exists Fut.refl,r,?_;let:=u b (SqL.of c);rw[k]at this;cases this;show p
  .cases e
 stop:=λg m S f r s=>by
  simp only[sameAt]at s;split at s
  .rename_i n h;let(b,c,q):=r.ob l a _ (f.get j) h;exists b,SqL.of c,?_;rw[<-⇑q];simp only[beq_iff_eq]at s;omega
  .cases s
def Jpy(j:ρ[l]? =-a)(ds:List D):ItOk K ρ H (Ite true K a) (-(l,.enm)) ds where
 go:=λg m S i d f r s e=>by
  simp only[nth]at e;w_top e
  rename_i n h;let(A,o,rfl):=Ai.1 e;let(b,c,q):=r.ob l a _ (f.get j) (Jah h);let(v,k,t):=q.get o;exists#[b,v,SqL.of c,k],λx H2 #[p,y,hp,u,w,z]=>?_;subst u w;let:=z b (SqL.of c);rw[k]at this;cases this;exists Jay hp,r.new hp,by simp only[RelD];exists p,_,rfl,.inl Jae,RelDs.cons (by simp only[RelD]) (RelDs.cons (t.fut (Jay hp)) RelDs.nil)
 stop:=λg m S f r s=>by
  simp only[sameAt]at s;w_top s
  rename_i n h;let(b,c,q):=r.ob l a _ (f.get j) h;exists b,SqL.of c,by rw[<-⇑q];show eq_of_beq s
theorem Jr7:∀{ds:List D} {k i:Nat} {d:D},(enD k ds)[i]? =-d->∃x,ds[i]? =-x/\d=.tup [.int (k+i:Nat),x]
 |[],k,i,d,h=>by simp[enD]at h
 |x::r,k,0,d,h=>by simp[enD]at h;exists x,rfl,h.symm
 |x::r,k,i+1,d,h=>by
  simp only[enD,Cj]at h;let(y,a,b):=Jr7 h;exists y,by erw[a],by rw[b,Uk,Eh]
theorem enD_len:∀(ds:List D) (k:Nat),(enD k ds).length=⇑ds
 |[],_=>rfl
 |x::r,k=>by simp[enD,enD_len r]
def Jpz(hs:SqT K H a xs)(t:RelDs K ρ H ds xs):ItOk K ρ H (Ite false K a) none (enD 0 ds)where
 go:=λb g S i d f r s e=>by
  let(n,h,rfl):=Jr7 (show(enD 0 ds)[i]? =-d from e);rw[C2];let(v,c,j):=(t.fut f).get h;exists#[xs,v,f.tup _ _ hs,c],λx H2 #[p,y,hp,k,l,m]=>?_;subst k l;let:=m xs (f.tup _ _ hs);rw[c]at this;cases this;exists Jay hp,r.new hp,by simp only[RelD];exists p,_,rfl,.inl Jae,RelDs.cons (by simp only[RelD]) (RelDs.cons (j.fut (Jay hp)) RelDs.nil)
 stop:=λb g S f r s=>#[xs,f.tup _ _ hs,by rw[enD_len,⇑t]]
def Jpu(o:ρ[l]? =-a)(hs:SqT K H b ys)(t:RelDs K ρ H ds ys):ItOk K ρ H (Izz K a b ys) (-(l,.zip)) ds where
 go:=λh I S i d f r s e=>by
  simp only[nth]at e;w_top e
  rename_i J j;w_top e
  rename_i Q U k m;cases e;let(c,g,q):=r.ob l a _ (f.get o) (Jah j);let(v,u,L):=q.get k;let(w,A,n):=(t.fut f).get m;exists#[c,v,w,SqL.of g,f.tup _ _ hs,u,A],λx H2 #[p,y,z,hp,k,m,N,E]=>?_;subst k m;let:=N c (SqL.of g);rw[u]at this;cases this;rw[A]at E;cases E;exists Jay hp,r.new hp,by simp only[RelD];exists p,_,rfl,.inl Jae,RelDs.cons (L.fut (Jay hp)) (RelDs.cons (n.fut (Jay hp)) RelDs.nil)
 stop:=λh I S f r s=>by
  simp only[sameAt]at s;w_top s
  rename_i J j;let(c,g,q):=r.ob l a _ (f.get o) j;exists c,SqL.of g,by rw[<-⇑q];show Oa (eq_of_beq s)
def Ju4(hs:SqF K H a xs)(t:RelDs K ρ H ds xs):ItOk K ρ H (Itl K a) none ds where
 go:=λc h S i d f r s e=>by
  let b:=(f.fu.sqF hs).sq;let(v,g,j):=(t.fut f).get (show ds[i]? =-d from e);exists#[xs,v,b,g],λx H2 #[k,l]=>?_;subst k;exists Fut.refl,r,?_;let:=l xs b;rw[g]at this;cases this;show j
 stop:=λc h S f r s=>#[xs,(f.fu.sqF hs).sq,by rw[<-⇑t];show Aj _]
def Jlq(A:Snd C a):∀(X:Cx) (c:Ck) (tg x:Expr),Gd X C c->Xf a c x=true->PI X tg x (tI X.K C (.cns a .nul)):=by
 intro X c tg x g h;show PI.imp (Jxa (A.e X c x g h)) λσ H R n=>?_;let(E,S,Z,gg,I,S',J,re,e,fin):=n;let(d,L,o,e):=Ch e;exists E,S,Z,d,L,J,re,o,λj v1 H1 u m w=>?_;split at e
 .cases e;let(p,b,rfl,k,t):=w.tup_inv;exists p,rfl,.inr #[#[b,k],fin j H1 _ u m ?_];show{go:=(λy N S i d f r s e=>by
       let l:=f.tup _ _ k;let(v,z,Q):=(t.fut f).get (show I[i]? =-d from e);exists#[b,v,l,z],λx H2 #[o,U]=>?_;subst o;exists Fut.refl,r,?_;let:=U b l;rw[z]at this;cases this;show Q),stop:=λy N S f r s=>#[b,f.tup _ _ k,by rw[<-⇑t];show Aj _]}
 .cases e;let(p,b,rfl,k,t):=w.kl_inv;exists p,rfl,.inl #[#[b,k.sq],fin j H1 _ u m (Ju4 k t)]
 .split at e
  .rename_i es Y;cases e;let(p,b,rfl,hl,hx,t):=m.lst w (Jah Y);exists p,rfl,.inl #[#[b,SqL.of hx],fin j H1 _ u m (Jpx hl _)]
  .cases e
 .cases e
def Jls(l:Snd C a):∀(X:Cx) (c:Ck) (tg x:Expr),Gd X C c->Y5 (.rng a) c x=true->PI X tg x (tI X.K C (.rng a)):=by
 intro X c tg x g h;obtain⟨⟨y,z,m,rfl⟩,h⟩:=aO h;simp only[Am]at h;obtain⟨⟨n,o⟩,f⟩:=h;show PI.imp (Jmc (g.glo n) (g.top.blt _ (Jal o)) (Jbj (l.e X c _ g f) Jdq (Jag (noStar f))) (Jag (noStar f))) λA H R i=>?_;let(p,S,Z,E,I,J,r,re,e,fin):=i;let(d,s,t,e):=Ch e;exists p,S,Z,d,s,r,re,t,λb L H1 u v w=>?_;split at e
 .rename_i j;split at e
  .rename_i k;simp only[Am,decide_eq_true_eq]at k;cases e;cases w.int_inv;exists j,rfl,k.1,k.2,fin b H1 _ u v ?_;let:=Jpv (K:=X.K) (ρ:=b) (H:=H1) 0 j.toNat
   simpa only[Int.zero_add]using this
  .cases e
 .cases e
def Jlt(o:Snd C a):∀(X:Cx) (c:Ck) (tg x:Expr),Gd X C c->Y5 (.enm a) c x=true->itT (.enm a) tg=true->PI X tg x (tI X.K C (.enm a)):=by
 intro X c tg x g h r;obtain⟨⟨L,N,s,rfl⟩,h⟩:=aO h;w_plain tg r
 simp only[Am]at h;obtain⟨⟨u,v⟩,f⟩:=h;show PI.imp (Jt8 (g.glo u) (g.top.blt _ (Jal v)) (Jbj (o.e X c _ g f) Jdq (Jag (noStar f))) (Jag (noStar f))) λQ H R i=>?_;let(w,S,Z,U,Y,S',y,re,e,fin):=i;let(d,z,A,e):=Ch e;exists w,S,Z,d,z,y,re,A,λb v1 H1 l j m=>?_;w_top e
 .w_top e
  rename_i es E;cases e;let(p,k,rfl,I,J,t):=j.lst m (Jah E);exists p,true,rfl,#[k,SqL.of J],fin b H1 _ l j (Jpy I _)
 .cases e;let(p,k,rfl,n,t):=m.tup_inv;exists p,false,rfl,#[k,n],fin b H1 _ l j (Jpz n t)
theorem Jpw(k:ρ[l]? =-a)(ds:List D):ItOk K ρ H (Itv K a ⇑ds) (-(l,.rev)) ds where
 go:=λb m S i d f r s e=>by
  simp only[nth]at e;simp only[sameAt]at s;split at e
  .rename_i n c;let o:=f.get k;let(g,h,q):=r.ob l a _ o (Jah c);rw[Jah c]at s;simp only[beq_iff_eq]at s;let p:i<⇑n:=by
    let:=(Ad.1 e).1
    erw[this]
   rw[R7 p,s]at e;let(v,j,t):=q.get e;exists#[g,v,SqL.of h,by omega,j],λx H2 #[u,w]=>?_;subst u;exists Fut.refl,r,?_;let:=w g (SqL.of h);rw[j]at this;cases this;show t
  .cases e
 stop:=λb m S f r s=>rfl
def Jlr(l:Snd C a):∀(X:Cx) (c:Ck) (tg x:Expr),Gd X C c->Y5 (.rvi a) c x=true->PI X tg x (tI X.K C (.rvi a)):=by
 intro X c tg x g h;obtain⟨⟨L,N,m,rfl⟩,h⟩:=aO h;simp only[Am]at h;obtain⟨⟨n,o⟩,b⟩:=h;show PI.imp (Jxb (g.glo n) (g.top.blt _ (Jal o)) (Jbj (l.e X c _ g b) Jdq (Jag (noStar b))) (Jag (noStar b))) λQ H R f=>?_;let(r,S,Z,U,Y,S',s,re,e,fin):=f;let(d,u,v,e):=Ch e;exists r,S,Z,d,u,s,re,v,λi v1 H1 w j y=>?_;unfold rvD at e;w_top e
 .split at e
  .rename_i z A;cases e;let(p,k,rfl,E,I,t):=j.lst y (Jah A);exists p,k,rfl,SqL.of I,fin i H1 _ w j ?_;let J:⇑k=z.reverse.length:=by rw[Jw,⇑t]
   rw[J];show Jpw E _
  .cases e
def Jlp(w:Snd C a)(hb:Snd C b):∀(X:Cx) (c:Ck) (tg x:Expr),Gd X C c->Y5 (.zp a b) c x=true->itT (.zp a b) tg=true->PI X tg x (tI X.K C (.zp a b)):=by
 intro X c tg x g h z;w_plain x h
 rename_i A i j E;w_plain A h
 rename_i y pp;rcases i with _|⟨e0,_|⟨e1,_|⟨e2,i⟩⟩⟩<;>w_plain j h
 w_plain tg z
 replace h:=aB h
 simp only[Am,beq_iff_eq]at h;obtain⟨⟨⟨⟨rfl,I⟩,J⟩,k⟩,f⟩:=h;show PI.imp (Jt6 (g.glo I) (g.top.blt _ (Jal J)) (Jbj (w.e X c _ g k) (Jbj (hb.e X c _ g f) Jdq (Jag (noStar f))) (Jag (noStar k))) ((Jag (noStar k)).trans (by rw[Jag (noStar f)];rfl)) (Jag (noStar f))) λσ H R l=>?_;let(L,S,Z,gg,ds,S',N,re,e,fin):=l;let(d,o,Q,e):=Ch e;let(U,Y,q2,e):=Ch e;exists L,S,Z,d,o,N,re,Q,λm v1 H1 r r1 w1=>#[m,o,Z,U,Y,r1,re.fut r,q2,λn v2 H2 s u w2=>?_];unfold zpD at e;w_top e
 w_top e
 rename_i i he;w_top e
 cases e;let(p,xs,rfl,hl,hx,t):=u.lst (w1.fut s) (Jah he);let(q,ys,rfl,v,t2):=w2.tup_inv;exists p,q,xs,ys,rfl,SqL.of hx,v,fin n H2 _ (r.trans s) u (Jpu hl v t2)
end
section
variable {C:Pr}
def Zc:∀{m:M} {c:Ck} {e:Expr},Y6 m c e=true->∀x p,e≠ .Starred x p:=by
 intro m c e h x p z;subst z;cases m<;>show fx9 h
theorem Jrz:∀{m:M} {c:Ck} {es:List Expr} {env:Env},Yu m c es=true->(G6 es env).length=⇑es/\(G6 es env).findIdx? (·.1)=none:=by
 intro m
 induction m with
 |nul=>intro c es env h;cases es<;>first|exists rfl,rfl|show fx9 h
 |cns a b _ d=>
  intro c es env h;cases es with
  |nil=>show fx9 h
  |cons e es=>
   replace h:=aB h
   rw[Jcd (Zc h.1)];let(f,g):=d (env:=env) h.2;exists by rw[Bh,Bh,f],?_;rw[List.findIdx?_cons,g];rfl
 |_=>intro c es env h;show fx9 h
theorem J0p:∀{m:M} {c:Ck} {es:List Expr} {ds:List D} {Z f:En} {S g:Store},Yu m c es=true->evGs C m ds Z S=.ok f g->⇑ds=⇑es:=by
 intro m
 induction m with
 |nul=>
  intro c es ds Z f S g h e;w_plain es h
  cases ds<;>simp only[Jij]at e
  .rfl
  .cases e
 |cns a b _ i=>
  intro c es ds Z f S g h e;cases es with
  |nil=>show fx9 h
  |cons x es=>
   replace h:=aB h
   cases ds with
   |nil=>simp only[Jii]at e;cases e
   |cons d ds=>
    let(j,k,l,e):=Ch e;rw[Bh,Bh,i h.2 e]
 |_=>intro c es ds Z f S g h;show fx9 h
def Jlu:SG C (.tvar i):=by
 intro X c x g h;w_plain x h
 rename_i y p
 replace h:=aB h
 simp only[Am,beq_iff_eq]at h;let(b,f):=h;let(j,k):=g.own f;show PG.imp (Jua (i:=i) g.nd (by rw[g.N];show b) j k) λv o H Q a=>?_;let(l,S,Z,d,r,s,m,re,n,e,fin):=a;simp only[Jjp]at e;split at e
 .cases e;show fin l _ H Fut.refl m (re.set n i)
 .cases e
def Jlv(f:Snd C ts):SG C (.ttup ts):=by
 intro X c x g h;w_plain x h
 rename_i u k p;show PG.imp (Jxc g.calm (f.gs X c _ g h) (Jrz h).1 (Jrz h).2) λv w H Q b=>?_;let(i,S,Z,d,j,l,m,re,n,e,fin):=b;simp only[Jrj]at e;split at e
 .rename_i o;let(a,r,rfl,s,t):=n.tup_inv;exists a,r,rfl,s,by rw[<-⇑t];show J0p h e,i,S,Z,o,j,l,m,re,t,e,fin
 .cases e
def Jlw(J:Snd C a)(hb:Snd C b):SG C (.tsub a b):=by
 intro X c x g h;w_plain x h
 rename_i o i p
 replace h:=aB h
 let k:∀l u t p,i≠ .Slice l u t p:=by
  intro l u t p z;subst z;let m:=h.2;cases b<;>first|(show fx9 m)|(rename_i d;cases d<;>show fx9 m)|(rename_i w _;cases w<;>show fx9 m)
 show PG.imp (Jxd (J.e X c _ g h.1) (hb.e X c _ g h.2) (Jwo (Gu (Jz (by decide:2<=64) _) g.top.un) g.top.np) (by
  intro v;cases i<;>first|rfl|show absurd rfl (k _ _ _ _))) λv L H Q #[N,S,Z,d,Z',U,Y,re,rd,e,fin]=>?_
 let(y,A,e1,e):=Ch e;let(E,I,e2,e):=Ch e;let(_,S3,e3,e):=Ch e;cases e;exists N,S,Z,y,A,Y,re,e1,λn v1 H1 r r1 q1=>#[n,A,Z,E,I,r1,re.fut r,e2,λj v2 H2 s r2 q2=>?_];exists j,I,y,E,d,U,r2,q1.fut s,q2,rd.fut (r.trans s),e3,λH3 f3 r3=>?_;let f:=r.trans (s.trans f3);show fin j L H3 f r3 (re.fut f)
theorem Jkm(p:Snd C a)(hb:Snd C b):∀(X:Cx) (c:Ck) (x:List Expr),Gd X C c->Yu (.cns a b) c x=true->PGs X x (tGs X.K C (.cns a b)):=by
 intro X c x g h;cases x with
 |nil=>show fx9 h
 |cons e N=>
  replace h:=aB h
  show PGs.imp (Jo4 (p.g X c _ g h.1) (hb.gs X c _ g h.2) (by rw[Jcd (Zc h.1)];rfl)) λU Y H Q i=>?_;let(s,S,Z,j,u,w,y,re,z,e,fin):=i;cases j with
  |nil=>simp only[Jii]at e;cases e
  |cons d j=>
   let(f,n,A,e):=Ch e;let(v,r,rfl,q,t):=z.inv_cons;exists v,r,rfl,s,S,Z,d,f,n,y,re,q,A,λk E H1 o I J=>?_;exists k,n,f,j,u,w,I,J,t.fut o,e,λl m H2 L=>fin l m H2 (o.trans L)
theorem Jkl:∀(X:Cx) (c:Ck) (x:List Expr),Gd X C c->Yu .nul c x=true->PGs X x (tGs X.K C .nul):=by
 intro X c x g h;cases x with
 |cons e l=>show fx9 h
 |nil=>
  show PGs.imp Jt9 λm f H Q a=>?_;let(i,S,Z,b,n,o,j,re,k,e,fin):=a;cases b with
  |cons d b=>simp only[Jij]at e;cases e
  |nil=>
   cases e;exists k.inv_nil,fin i f H Fut.refl j re
def Ck.compOk{c:Ck}{N:List String}(g:Gd X C c)(h:c.comp N k keep a=true):Xv X (N.map Ac) k keep a/\(N.map Ac).Nodup:=by
 unfold Ck.comp at h;simp only[Am,Dg,beq_iff_eq,bne_iff_ne,Ib,decide_eq_true_eq]at h;obtain⟨⟨⟨⟨⟨⟨f,l⟩,m⟩,n⟩,o⟩,p⟩,r⟩:=h;exists#[f,l,λy b s=>?_,λy b t=>?_,by rw[Ag];show o,λj i e=>?_],p
 .rcases m y b with z|z
  .show absurd s z
  .show z
 .rw[g.names];rcases n y b with(z|z)|z
  .show absurd t z
  .show .inl z
  .show .inr z
 .let d:=(Ad.1 e).1;let:=r j (by erw[d]);rw[e]at this;split at this
  .rename_i w x u v;cases u;simp only[Am,beq_iff_eq]at this;exists x,v,by rw[g.N];show this.1,this.2
  .cases this
def Gd.inner{c:Ck}{N:List String}(g:Gd X C c)(h:c.comp N k keep scope=true)(a:Shared)(H:Hp)(d:List Addr)(b:List (Addr×Fy)):
  Gd (Xi X (N.map Ac) scope a H d b) C (c.inner N scope):=by
 let(ok,nd):=Ck.compOk g h;exists rfl,nd,?_,ok.kind,λx=>rfl,g.calm,rfl,g.top;change(relabel scope X.env).names=relab scope.names c.names;unfold relabel relab;change scope.names.map _=scope.names.map _;show Em λp hp=>?_;let(n,q):=p;let e:(X.env.scope.kind==ScopeKind.function)=true:=by rw[g.sk];rfl
 let f:X.env.kindOf n=c.names.lookup n:=by
  change X.env.scope.names.lookup n=_;rw[g.names]
 simp only[e,f,Qx]
def Waq(k:Nat)(τ0 Z:En):Prop:=⇑Z=⇑τ0/\∀i,k<=i->Z[i]? =τ0[i]?
theorem Jve:∀{m:M},Ys k m=true->(∀{d:D} {τ0 Z c:En} {S f:Store},Waq k τ0 Z->evG C m d Z S=.ok c f->Waq k τ0 c/\f=S)/\(∀{ds:List D} {τ0 Z c:En} {S f:Store},Waq k τ0 Z->evGs C m ds Z S=.ok c f->Waq k τ0 c/\f=S):=by
 intro m
 induction m with
 |tvar i=>
  intro h;let h:=of_decide_eq_true h;exists λ{d τ0 Z c S f} o e=>?_,λ{ds τ0 Z c S f} o e=>?_
  .simp only[Jjp]at e;split at e
   .cases e;exists#[by rw[F1];show o.1,λj n=>?_],rfl;rw[A1 'l'];show o.2 j n
   .cases e
  .show absurd e Jac
 |ttup ts p=>
  intro h;exists λ{d τ0 Z c S f} o e=>?_,λ{ds τ0 Z c S f} o e=>?_
  .simp only[Jrj]at e;split at e
   .show(p h).2 o e
   .cases e
  .show absurd e Jac
 |nul=>
  intro h;exists λ{d τ0 Z c S f} o e=>?_,λ{ds τ0 Z c S f} o e=>?_
  .show absurd e Jac
  .cases ds<;>simp only[Jij]at e
   .cases e;exists o,rfl
   .cases e
 |cns a b g l=>
  intro h;let h:=(Am _ _).mp h;exists λ{d τ0 Z c S f} o e=>?_,λ{ds τ0 Z c S f} o e=>?_
  .show absurd e Jac
  .cases ds<;>simp only[Jii]at e
   .cases e
   .let(r,v,s,t):=Ch e;let(u,rfl):=(g h.1).1 o s;show(l h.2).2 u t
 |_=>intro h;show fx9 h
abbrev Xw(C:Pr)(tg cd el:M):D->En->Store->Res (Option D):=λd c f=>(evG C tg d c f).bind λa g=>(evC C cd a g).bind λb e=>if b then(evE C el a e).bind λy h=>.ok (-y) h else .ok none e
def Jnc(h:(Xt k keep Z)[i]? =-(-d)):k<=i:=by
 unfold Xt at h
 by_cases a:i<k
 .rw[A0 (by erw[a]),Gj,if_pos a]at h;cases h
 .lia
theorem Jj9{ds:List D}{Q:List V->Hp->Prop}(p:Ys k tg=true)(it:ItOk K c H0 J g ds)
  (A:RelS K c S0 H0)(E:RelE K c H0 (Xt k keep τ0) I)(e0:Ya (Xw C tg cd el) g ds ⇑ds 0 (Xt k keep τ0) S0 []=.ok ys S')(fin:∀ρ H xs,Fut K c H0 ρ H->RelS K ρ S' H->RelDs K ρ H ys xs->Q xs H):
  War J (tG K C tg) (tC K C cd) (tE K C el) Q I H0:=by
 exists λi m xs σ H=>∃ρ S a,Fut K c H0 ρ H/\RelS K ρ S H/\RelE K ρ H (Xt k keep τ0) σ/\RelDs K ρ H a xs/\i+m=⇑ds/\⇑a<=Line/\Ya (Xw C tg cd el) g ds m i (Xt k keep τ0) S a=.ok ys S',#[⇑ds,c,S0,[],Fut.refl,A,E,RelDs.nil,C2 _,Dk _,e0],?_;rintro i m xs σ H ⟨ρ,S,a,f,r,re,n,hi,hl,e⟩;exists by rw[<-⇑n,<-Ja7];show hl,?_;cases m with
 |zero=>
  change @ite _ _ _ _ _=_ at e
  split at e
  .rename_i L;cases e;show .inl #[?_,fin ρ H xs f r n];let:i=⇑ds:=by lia
   rw[this];show it.stop ρ H _ f r L
  .cases e
 |succ m=>
  change @ite _ _ _ _ _=_ at e
  split at e
  .rename_i L;split at e
   .cases e
   .rename_i d hd;let(N,hy):=it.go ρ H S i d f r L hd;show .inr #[N,λx H' U=>?_];let(Y,r,rd):=hy x H' U
    replace re:=re.fut Y
    replace n:=n.fut Y
    replace f:=f.trans Y
    let(o,S1,l,e):=Ch e;let(h,S2,eG,l):=Ch l;let(b,S3,eC,l):=Ch l;let s:Waq k (Xt k keep τ0) h:=((Jve (C:=C) p).1 (τ0:=Xt k keep τ0) #[rfl,λ_ _=>rfl] eG).1;let less:Wc3 h (Xt k keep τ0):=#[s.1.symm,λj d hj=>by rw[s.2 j (Jnc hj)];show hj]
    exists ρ,S,_,d,h,S2,r,re,rd,eG,λρ1 σ1 H1 f1 r1 z=>#[ρ1,S2,h,b,S3,r1,z,eC,λt H2 u r2=>?_];cases b with
    |true=>
     rw[if_pos rfl]at l ⊢;let(y,S4,eE,l):=Ch l;cases l;simp only at e;split at e
     .rename_i hlt;exists t,S3,h,y,S1,r2,z.fut u,eE,λρ3 v3 H3 f3 r3 q3=>#[m,Eb m,?_];let v:=f1.trans (u.trans f3);exists ρ3,S1,a++[y],f.trans v,r3,(z.fut (u.trans f3)).less less,(n.fut v).append (RelDs.cons q3 RelDs.nil),by lia,by rw[Al];show hlt,e
     .cases e
    |false=>
     rw[if_neg Bb]at l ⊢;cases l;simp only at e;let w:=f1.trans u;exists m,Eb m,t,S1,a,f.trans w,r2,(z.fut u).less less,n.fut w,by lia,hl,e
  .cases e
def Jhl{X:Cx}(a:Ys k tg=true)(h:tE X.K C (.comp N k keep tg it cd el) j H Q):Zi k keep (tI X.K C it) (tG X.K C tg) (tC X.K C cd) (tE X.K C el) j H Q:=by
 let(l,S,Z,d,L,m,re,e,fin):=h;let(w,n,o,e):=Ch e;let(U,Y,p,e):=Ch e;cases e;let(g,r):=w;exists l,S,Z,g,r,n,m,re,o,λs H1 J i t b=>?_;show Jj9 a b t ((re.fut i).inner k keep) p λc H2 xs u v x=>?_;show Fin.newL (ρ:=c) (λf y z A E I=>fin f y z (i.trans (u.trans A)) E I) v x
def Jon(m:Snd C tg)(n:Snd C it)(hc:Snd C cd)(o:Snd C el):SE C (.comp N k keep tg it cd el):=by
 intro X c x g h;w_plain x h
 rename_i p d j r;rcases d with _|⟨⟨t,i,I,s⟩,_|⟨g2,d⟩⟩<;>try (show fx9 h)
 replace h:=aB h
 simp only[Am,beq_iff_eq]at h;obtain⟨⟨⟨⟨⟨⟨⟨rfl,f⟩,u⟩,v⟩,w⟩,y⟩,z⟩,A⟩:=h;let(E,l):=n.i X c t i g w A;show PE.imp (Jmf (Ck.compOk g f).1 g.calm E (λa H e b=>m.g _ _ _ (g.inner f a H e b) v) (λa H e b=>hc.cd _ _ _ (g.inner f a H e b) y) (λa H e b=>o.e _ _ _ (g.inner f a H e b) z) l) λJ H Q q=>Jhl u q
end
section
variable {C:Pr}
def Jg8(h:Yn e=false):Hy e none n env=pure false:=by
 cases e<;>first|rfl|show fx9 h.symm
def Jcz(h:Yn e=false):Hy e (-t) n env=pure false:=by
 cases e<;>first|rfl|show fx9 h.symm
def Jkk:Hy e (-(.Name x p)) n env=pure true\/Hy e (-(.Name x p)) n env=pure false:=by
 let h:∃b,Hy e (-(.Name x p)) n env=pure b:=by
  cases e<;>exists _,rfl
 let(b,h):=h;cases b
 .show .inr h
 .show .inl h
def Jg0(h:∀a b p,t=.Tuple a b p->∀c d f,e≠ .Tuple c d f)(g:∀a p,t≠ .List a p):swappedStores [t] e env=pure none:=by
 cases t<;>first|rfl|show absurd rfl (g _ _)|skip
 rename_i a b p;cases e<;>first|rfl|show absurd rfl (h a b p rfl _ _ _)
def Jqu{K:Ah}{t e:M}{D:Ends}{i:L2.St}{H:Hp}(h:tS K C (.asg t e) D i H):Waa (tE K C e) (tG K C t) D i H:=by
 let(l,S,Z,v,m,n,re,a,fin):=h;let(d,j,o,a):=Ch a;let(b,w,p,a):=Ch a;cases a;exists l,S,Z,d,j,n,re,o,λc x H1 k r s=>#[c,j,Z,d,b,m,r,re.fut k,s,p,λf g H2 u=>fin f g H2 (k.trans u)]
def Jzc(h:Xf e c (.ListComp f b a pos)=true)(g:nW e=true):∃N k keep mg i j me,e=.comp N k keep mg i j me:=by
 cases e<;>first|exists _,_,_,_,_,_,_,rfl|(show fx9 g)|(show fx9 h)|(rename_i d;cases d<;>show fx9 h)|(rename_i w _;cases w<;>show fx9 h)
def Jzb:¬Xf e c (.SetComp f b a pos)=true:=by
 intro h;cases e<;>first|(show fx9 h)|(rename_i d;cases d<;>show fx9 h)|(rename_i w _;cases w<;>show fx9 h)
def Jzd:¬Xf e c (.DictComp k f b a pos)=true:=by
 intro h;cases e<;>first|(show fx9 h)|(rename_i d;cases d<;>show fx9 h)|(rename_i w _;cases w<;>show fx9 h)
def Jtl(ht:Snd C t)(he:Snd C e)(hc:SC C e):SS C (.asg t e):=by
 intro X c x g h;w_plain x h
 rename_i E v Q;rcases E with _|⟨A,_|⟨t2,E⟩⟩<;>try (show fx9 h)
 replace h:=aB h
 simp only[Am]at h;obtain⟨⟨l,o⟩,U⟩:=h;let Y:(G6 [A] X.env).map (·.2)=[assign A X.env]:=by rw[Jcd (Zc l)];rfl
 let s:∀a p,A≠ .List a p:=by
  intro a p z;subst z;show Jzg l
 by_cases hn:∃y p,A=.Name y p
 .let(y,p,rfl):=hn;rcases Jkk (e:=v) (x:=y) (p:=p) (n:=Q.line) (env:=X.env)with hs|hs
  ·
   cases v<;>first|(show absurd hs (by intro z;cases z))|skip
   ·
    rename_i elt r scope cpos;let(i,rfl):=Jsd l;let(N,k,keep,mg,mi,mc,me,rfl):=Jzc o U;let(sg,si,sc,se):=hc;rcases r with _|⟨⟨tt,ii,fs,asy⟩,_|⟨g2,r⟩⟩<;>try (show fx9 o)
    replace o:=aB o
    simp only[Am,beq_iff_eq]at o;obtain⟨⟨⟨⟨⟨⟨⟨rfl,L⟩,k2⟩,k3⟩,k4⟩,k5⟩,k6⟩,k7⟩:=o;let(pi,fs0):=si.i X c tt ii g k4 k7
    replace l:=aB l
    simp only[Am,beq_iff_eq]at l;let(o1,o2):=g.own l.2;show PS.imp (Jt2 (i:=i) (wi:=tI X.K C mi) (g:=tG X.K C mg) (tc:=tC X.K C mc) (te:=tE X.K C me) g.nd (by rw[g.N];show l.1) o1 o2 hs (Ck.compOk g L).1 g.calm pi (λf H I j=>sg.g _ _ _ (g.inner L f H I j) k3) (λf H I j=>sc.cd _ _ _ (g.inner L f H I j) k5) (λf H I j=>se.e _ _ _ (g.inner L f H I j) k6) fs0) λD σ H q=>?_;let(ρ,S,Z,fl,S',rs,re,m,fin):=q;simp only[Jtr,Jjp,Jri]at m;let(d,S1,e1,m):=Ch m;let(τ1,S2,u,m):=Ch m;cases m;show Jhl (N:=N) k2 #[ρ,S,Z,d,S1,rs,re,e1,λw v1 H1 J r1 q1=>?_];split at u
    .cases u;show fin w _ H1 J r1 ((re.fut J).set q1 i)
    .cases u
   .show absurd o Jzb
   .show absurd o Jzd
  .let(i,rfl):=Jsd l
   replace l:=aB l
   simp only[Am,beq_iff_eq]at l;let(o1,o2):=g.own l.2;show PS.imp (Jw4 (i:=i) g.nd (by rw[g.N];show l.1) o1 (he.e X c _ g o) hs o2) λD σ H q=>?_;let(ρ,S,Z,fl,S',rs,re,m,fin):=q;simp only[Jjp,Jri]at m;let(d,S1,e1,m):=Ch m;let(τ1,S2,u,m):=Ch m;cases m;exists ρ,S,Z,d,S1,rs,re,e1,λw v1 H1 J r1 q1=>?_;split at u
   .cases u;show fin w _ H1 J r1 ((re.fut J).set q1 i)
   .cases u
 .let hv:Yn v=false:=by
   cases v<;>first|rfl|(exfalso;cases A<;>first|(show absurd #[_,_,rfl] hn)|(show fx9 U))
  show PS.imp (Jw9 (he.e X c _ g o) (ht.g X c _ g l) (by change Hy v (-A) _ _=_;show Jcz hv) (Jg0 (λa b p z a' b' p' z'=>by subst z;subst z';show Bb U) s) Y) λD σ H q=>Jqu q
def Jtk(k:Snd C e):SS C (.aug i e):=by
 intro X c x g h;w_plain x h
 rename_i l m v n;w_plain l h
 w_plain m h
 replace h:=aB h
 simp only[Am,beq_iff_eq]at h;obtain⟨⟨o,p⟩,r⟩:=h;let(s,t):=g.own p;show PS.imp (Jw8 (i:=i) g.nd (by rw[g.N];show o) s (k.e X c _ g r) Jyk t) λD N H a=>?_;let(u,S,Z,Q,w,z,re,e,fin):=a;rw[Jov]at e;rcases f:Z[i]? with _|_|d<;>rw[f]at e<;>try (cases e;done)
 cases d<;>try (cases e;done)
 rename_i x;let(y,U,A,e):=Ch e;cases y<;>cases e;let(v,E,I):=re.at' i _ f;exists v,E,u,S,Z,_,w,z,re,A,λb Y H1 j J L=>#[x,_,I.int_inv,L.int_inv,?_];show fin b _ H1 j J ((re.fut j).set (RelD.int _) i)
theorem Js6(v:Snd C t)(w:Snd C a)(hb:Snd C b):SS C (.ifs t a b):=by
 intro X c x g h;w_plain x h
 replace h:=aB h
 simp only[Am]at h;show PS.imp (Jz2 (v.t X c _ g h.1.1) (w.b X c _ g h.1.2) (hb.b X c _ g h.2)) λD E H o=>?_;let(y,S,Z,m,p,z,re,e,fin):=o;let(k,r,A,e):=Ch e;exists y,S,Z,k,r,z,re,A,λi H1 n u=>?_;let f:FlOk X.K i H1 m p D:=by
  cases m with
  |nx I=>show λj l H2 s=>fin j l H2 (n.trans s)
  |rt d=>show λj l H2 s=>fin j l H2 (n.trans s)
 cases k with
 |true=>show Wd4 #[i,r,Z,m,p,u,re.fut n,e,f]
 |false=>show Wd5 #[i,r,Z,m,p,u,re.fut n,e,f]
theorem FlOk.fut{K:Ah}{ρ c:List Addr}{H H1:Hp}{e:Fl}{g:Store}{D:Ends}(fin:FlOk K ρ H e g D)(h:Fut K ρ H c H1):FlOk K c H1 e g D:=by
 cases e with
 |nx i=>show λa b H2 f=>fin a b H2 (h.trans f)
 |rt d=>show λa b H2 f=>fin a b H2 (h.trans f)
theorem Jtb(ht:Snd C t)(hi:Snd C i)(hb:Snd C b):SS C (.forr t i b):=by
 intro X c x g h;w_plain x h
 rename_i tg z body Y pos;w_plain Y h
 replace h:=aB h
 simp only[Am]at h;let(pi,fs0):=hi.i X c tg z g h.1.1.2 h.2;show PS.imp (Jw6 (by rw[g.xe];show PassesOwn.never) g.calm pi (ht.g X c _ g h.1.1.1) (hb.b X c _ g h.1.2) fs0) λD L H hq_=>?_;let(j,S,Z,fl,S',p,re,e,fin):=hq_;let(w,v,e1,e):=Ch e;let(N,n):=w;exists j,S,Z,N,n,v,p,re,e1,λr H0 J A r0 it=>?_;let o:=fin.fut A
 show let turn:Mi.D->En->Store->Res Fl:=λd s Q=>(evG C t d s Q).bind λk S3=>evB C b k S3;?_
 let e:forL turn N n ⇑n 0 Z v=.ok fl S':=e;exists λi m L H=>∃j S Z,Fut X.K r H0 j H/\RelS X.K j S H/\RelE X.K j H Z L/\i+m=⇑n/\forL turn N n m i Z S=.ok fl S',#[⇑n,r,v,Z,Fut.refl,r0,re.fut A,C2 _,e],?_;rintro i m L H ⟨j,S,Z,f,p,re,hi,e⟩;cases m with
 |zero=>
  change @ite _ _ _ _ _=_ at e
  split at e
  .rename_i hs;cases e;show .inl #[?_,o j L H f p re];let:i=⇑n:=by lia
   rw[this];show it.stop j H _ f p hs
  .cases e
 |succ m=>
  change @ite _ _ _ _ _=_ at e
  split at e
  .rename_i hs;split at e
   .cases e
   .rename_i d hd;let(hgo,hy):=it.go j H S i d f p hs hd;show .inr #[hgo,λE y=>∃a l U,Fut X.K r H0 a y/\RelS X.K a l y/\RelE X.K a y U E/\forL turn N n m (i+1) U l=.ok fl S',λE y #[a,l,U,a1,a2,a3,a4]=>#[m,Eb m,a,l,U,a1,a2,a3,by lia,a4],λx y hyl=>?_];let(A,p,rd):=hy x y hyl
    replace re:=re.fut A
    replace f:=f.trans A
    let(I,v,e1,e):=Ch e;let(k,Q,eG,eB):=Ch e1;exists j,S,Z,d,k,Q,p,re,rd,eG,λρ1 σ1 H1 f1 r1 q1=>#[ρ1,Q,k,I,v,r1,q1,eB,?_];cases I with
    |nx s=>show λu σ2 H2 f2 r2 q2=>#[u,v,s,f.trans (f1.trans f2),r2,q2,e]
    |rt d=>
     simp only at e;cases e;show λu v2 H2 f2 r2 q2=>o u v2 H2 (f.trans (f1.trans f2)) r2 q2
  .cases e
def Jsy(f:Snd C a):SS C (.ret a):=by
 intro X c x g h;w_plain x h
 rename_i v i;w_plain v h
 show PS.imp (Jw5 (f.e X c _ g h)) λD m H b=>?_;let(j,S,Z,n,o,k,re,e,fin):=b;let(d,p,l,e):=Ch e;cases e;exists j,S,Z,d,_,k,re,l,fin
def Jtd(j:Snd C a):SS C (.exp a):=by
 intro X c x g h;w_plain x h
 replace h:=aB h
 simp only[Am,Ky]at h;show PS.imp (Jt1 (j.e X c _ g h.1) (Jg8 h.2)) λD k H b=>?_;let(l,S,Z,p,r,m,re,e,fin):=b;let(d,s,n,e):=Ch e;cases e;exists l,S,Z,d,_,m,re,n,λf t H1 i o u=>fin f k H1 i o (re.fut i)
theorem Jlx:∀(X:Cx) (c:Ck) (x:List Stmt),Gd X C c->Yp .nul c x=true->PSs X x (tB' X.K C .nul):=by
 intro X c x g h;cases x with
 |cons s f=>show fx9 h
 |nil=>
  show PSs.imp Jt0 λD i H a=>?_;let(b,S,Z,j,k,d,re,e,fin):=a;cases e;show fin b _ H Fut.refl d re
theorem Jly(m:Snd C a)(hb:Snd C b):∀(X:Cx) (c:Ck) (x:List Stmt),Gd X C c->Yp (.cns a b) c x=true->PSs X x (tB' X.K C (.cns a b)):=by
 intro X c x g h;cases x with
 |nil=>show fx9 h
 |cons s z=>
  replace h:=aB h
  show PSs.imp (Jo1 (m.s X c _ g h.1) (hb.b X c _ g h.2)) λD A H i=>?_;let(n,S,Z,o,p,r,re,e,fin):=i;let(f,l,t,e):=Ch e;exists n,S,Z,f,l,r,re,t,?_;cases f with
  |nx j=>show λk u H1 v w y=>#[k,l,j,o,p,w,y,e,fin.fut v]
  |rt d=>simp only at e;cases e;show fin
end
section
variable {C:Pr}
def Jom:SE C (.dnil k):=by
 intro X c x g h;w_plain x h
 rename_i f i m;rcases f with _|⟨k,f⟩<;>rcases i with _|⟨v,i⟩<;>try (show fx9 h)
 rcases k with _|_|k
 .show PE.imp Jpc λj H Q #[b,S,Z,d,l,a,re,e,fin]=>?_;cases e;show fin.newO a λp n=>#[[],Jae,rfl]
 .show PE.imp Jpa λj H Q #[b,S,Z,d,l,a,re,e,fin]=>?_;cases e;show fin.newO a λp n=>#[[],Jae,rfl]
 .show PE.imp Jpb λj H Q #[b,S,Z,d,l,a,re,e,fin] p hp=>?_;cases e;show fin (b++[p]) _ _ (Ja2 hp [p]) (a.allocO hp #[[],Jae,rfl]) (by simp only[RelD];exists p,rfl,by rw[<-a.len];simp)
def Jyi{kvs:List (Rdu.PK×D)}(c:H a=-(.frz o (.dT g)))(q:RelKv pK K ρ H kvs g):ItOk K ρ H (Itw a o g) none (kvs.map (·.2))where
 go:=λb l S i d f r s e=>by
  simp only[nth,Ao,Ai]at e;let(p,hp,rfl):=e;let(v,h,m):=q.get hp;exists#[f.frz _ _ _ c,(Ad.1 h).1],λx H2 #[n,k,j]=>?_;subst n;rw[h]at j;cases j;exists Fut.refl,r,m.fut f
 stop:=λb l S f r s=>#[f.frz _ _ _ c,by rw[Ag,⇑q];show Aj _]
def Jrb{xs:List V}(e:H a=-o0)(n:∀xs,o0≠ .tup xs)(q:SqT K H c xs):SqT K (upd H a o) c xs:=
 q.imp_left λz=>by rw[Jad (Jes z e λy=>n _ y.symm)];show z
def Jte(hn:Snd C .nul)(hg:Snd C tg)(ha:Snd C a)(he:Snd C el):SE C (.dcm N keep tg a el):=by
 intro X c x g h;w_plain x h
 rename_i elt s scope pos;rcases s with _|⟨⟨t,i,_|⟨f,fs⟩,asy⟩,_|⟨g2,s⟩⟩<;>try (show fx9 h)
 replace h:=aB h
 simp only[Am,beq_iff_eq]at h;obtain⟨⟨⟨⟨⟨rfl,J⟩,h2⟩,h3⟩,h4⟩,h5⟩:=h;obtain⟨⟨_,p,q,rfl,h8,h9⟩,h4⟩:=aO h4;show PE.imp (Jub (Jmf (g:=tG X.K C tg) (tc:=tC X.K C .nul) (te:=tE X.K C el) (Ck.compOk g J).1 g.calm (Jt7 (ha.e X c _ g h4) (Jqs h8) h9) (λb H A j=>hg.g _ _ _ (g.inner J b H A j) h3) (λb H A j=>hn.cd _ _ _ (g.inner J b H A j) rfl) (λb H A j=>he.e _ _ _ (g.inner J b H A j) h5) (λ_=>rfl))) λσ H Q hq_=>?_;let(ρ,S,Z,d,S',rs,re,e,fin):=hq_;let(x,S1,e1,e8):=Ch e;obtain⟨⟨l,vs⟩,S2,y,e7⟩:=Ch e8;let(ys,S3,e3,L):=Ch e7;clear e e8 e7;exists ρ,S,Z,x,S1,rs,re,e1,λE v1 H1 f1 r1 q1=>?_;unfold frD at y;w_top y
 w_top y
 rename_i l' kvs hk;cases y;unfold thD at L;w_top L
 rename_i us hu;cases L;let(p,k,rfl,hp,ea,q):=r1.dtu q1 (Jbd hk);exists p,k,rfl,ea,λnf o=>?_;let U:Fut X.K E H1 E (upd H1 p (.frz o (.dT k))):=Jca (o0:=.dT k) ea (λ_ z=>by cases z) (λ_ _ z=>by cases z);let q2:=q.fut U;show Jj9 (cd:=.nul) h2 (Jyi Jae q2) (r1.setO (o0:=.dT k) (ob:=.fz kvs) hp U #[k,o,Jae,q2]) ((re.fut (f1.trans U)).inner 1 keep) e3 λm I v f3 r3 q3=>λr n=>?_;let e4:=f3.frz p o _ Jae;let(ws',o',e5,q5):=r3.ob l p _ (f3.get hp) hu;rw[e4]at e5;cases e5;let Y:upd I r (.lst v) p=-(.frz o (.dT k)):=by rw[Jad (Jam e4 n)];show e4
 let f4:Fut X.K m I (m++[r]) (upd I r (.lst v)):=Ja2 n [r];let f5:=(U.trans f3).trans f4;let w:Fu X.K (m++[r]) (upd I r (.lst v)) (m++[r]) (upd (upd I r (.lst v)) p (.dT k)):=#[#[[],by simp],λc v z=>Jrb Y nofun z,λc o v z=>by rw[Jad (Jes z Y nofun)];show z]
 let r6:=r3.alloc n q3;exists p,o,.dT k,nf,Y,fin _ _ _ (f1.trans #[f5.pre,λc v z=>Jrb Y nofun (f5.tup _ _ z),λc o u z=>by rw[Jad (Jes z ea nofun)];show f5.frz _ _ _ z]) (r6.setW (o0:=.dT k) (f5.get hp) w #[k,Jae,(q5.fut f4).fu w]) ?_;exists r,rfl,?_;rw[<-r3.len];simp
theorem RelKv.perm{κ d:Type}{e:κ->d}{kvs:List (κ×D)}{j f:List (d×V)}(h:RelKv e K ρ H kvs j)(p:f.Perm j):∃c,c.Perm kvs/\RelKv e K ρ H c f:=by
 induction p generalizing kvs with
 |nil=>exists kvs,.refl _,h
 |cons x p n=>
  cases kvs with
  |nil=>cases h
  |cons a kvs=>
   let(v,k,z,q,t):=h;cases z;let(o,m,r):=n t;exists a::o,m.cons _,v,_,rfl,q,r
 |swap x y l=>
  rcases kvs with _|⟨a,_|⟨b,kvs⟩⟩
  .cases h
  .let(v,k,z,q,t):=h;cases t;cases z
  .let(v,k,z,q,s,u,w,A,t):=h;subst w;cases z;exists b::a::kvs,.swap _ _ _,s,_,rfl,A,v,_,rfl,q,t
 |trans m Q g i=>
  let(U,E,I):=i h;let(J,L,N):=g I;exists J,L.trans E,N
theorem Juv{c d:Type}{l:List (c×d)}(h:(l.map (·.1)).Nodup){a b:c×d}(ha:a∈l)(hb:b∈l)(e:a.1=b.1):a=b:=by
 induction l with
 |nil=>cases ha
 |cons x l g=>
  let(f,i):=C3.1 h;rcases An.1 ha with ha|ha<;>rcases An.1 hb with hb|hb
  .rw[ha,hb]
  .show absurd (Av.2 #[b,hb,ha▸e.symm]) f
  .show absurd (Av.2 #[a,ha,hb▸e]) f
  .show g i ha hb
def Js9(k:Snd C a):SE C (.hld a):=by
 intro X c x g h;obtain⟨⟨e,_,_,_,_,_,_,rfl,z,A⟩,h⟩:=aO h;simp only[Am]at h;obtain⟨⟨⟨⟨E,I⟩,J⟩,L⟩,N⟩:=h;show PE.imp (Juf g.calm (Gu (Jz (by decide:8<=64) _) g.top.un) (g.glo E) (g.top.blt _ (Jal J)) (g.glo I) (g.top.blt _ (Jal L)) (k.e X c _ g N) (Jqs z) A) λσ H Q #[U,S,Z,d,S',Y,re,e,fin]=>?_;let(x,S1,e1,e):=Ch e;exists U,S,Z,x,S1,Y,re,e1,λl v1 H1 f1 v q1=>?_;unfold Wal at e;w_top e
 w_top e
 rename_i m hk;w_top e
 rename_i j;cases e;let(p,ws,rfl,_,w,q):=v.dtu q1 (Jbd hk);let o:=(Jjk w q j).2.2.1;exists p,ws,_,rfl,Jjk w q j,λp' r qs n pm ek sl=>?_;let(i,pk,s):=q.perm pm;let t:i.map (·.1)=qs:=List.map_inj_right Jdr|>.mp (s.keys.symm.trans ek);rw[<-t]at sl;let e2:i=srD m:=Jur (f:=λp:Rdu.PK×D=>Rdu.rkP p.1) pk (Cg (R:=λx y=>Rdu.rkP x<=Rdu.rkP y)|>.mp sl) λa k b hb h=>(Juv o.2 k hb (Rdu.Jl4 (o.1 _ (Av.2 #[a,k,rfl])) (o.1 _ (Av.2 #[b,hb,rfl])) h))
 rw[e2]at s;show Fin.newO (ρ:=l) (λu v2 H2 f2=>fin u v2 H2 (f1.trans f2)) v (λp n=>#[r,Jae,s.fut (Ja2 n [p])]) p' n
def Js4(l:Snd C a):SE C (.lsp a):=by
 intro X c x g h;obtain⟨⟨e,_,_,_,_,rfl⟩,h⟩:=aO h;simp only[Am]at h;obtain⟨⟨⟨⟨m,n⟩,o⟩,s⟩,f⟩:=h;show PE.imp (Jmd g.calm (Gu (Jz (by decide:9<=64) _) g.top.un) (g.glo m) (g.top.blt _ (Jal o)) (g.glo n) (g.top.blt _ (Jal s)) (Jbj (l.e X c _ g f) Jdq (Jag (noStar f))) (Jag (noStar f))) λY H Q #[u,S,Z,d,S',w,re,e,fin]=>?_;let(x,y,z,e):=Ch e;exists u,S,Z,x,y,w,re,z,λi v1 H1 A j E=>?_;unfold Waf at e;w_top e
 w_top e
 rename_i I hp;w_top e
 rename_i J;cases e;let(es,L,hp):=K6.1 hp;let(p,xs,rfl,_,N,t):=j.lst E (Jah L);let(bs,rfl,hb):=Jel (g:=V.ref) (R:=λ(k:Rdu.PK) b=>SqT X.K H1 b ((pK k).map kV)) (λ{d b v} r e=>by
  cases Jdw e;let(a,U,h):=Jdp g.top.np r;exists a,U,SqT.of h) t hp
 exists p,bs,I,rfl,SqL.of N,hb,J,fin i _ H1 A j (RelD.int _)
def Jm9(h:Yt S l c=-a):S[l]? =-(.ins c a):=by
 unfold Yt at h;split at h
 .rename_i d b e;split at h
  .rename_i hc;cases h;rw[e,hc]
  .cases h
 .cases h
def RelS.ins(g:RelS K ρ S H)(r:RelD K ρ H (.loc l) x)(h:Yt S l c=-i):
  ∃a Ca d b,x=.ref a/\ρ[l]? =-a/\Cc K Bl (Ac c)=-(-(.ref Ca))/\H a=-(.ins Ca d b)/\Yb K ρ H i b:=by
 let(a,rfl,f):=r.loc_inv;let(Ca,d,b,n,e,q):=g.ob l a _ f (Jm9 h);exists a,Ca,d,b,rfl,f,n,e,q
def Jek{X:Cx}(b:Wa0 e0=true):∀a,attributeBase e0 a X.env (eval e0 X.env)=eval e0 X.env:=λa=>by
 cases e0<;>first|rfl|show fx9 b
def Jtc(o:Snd C a):SE C (.fld cl f a):=by
 intro X c x g h;w_plain x h
 rename_i e0 y p
 replace h:=aB h
 simp only[Am,beq_iff_eq]at h;obtain⟨⟨⟨rfl,r⟩,s⟩,t⟩:=h;let(Ca,u,hc,v):=g.top.fds cl f (by erw[s]);show PE.imp (Jxl (o.e X c _ g t) (Jek r _)) λσ H Q i=>?_;let(w,S,Z,d,S',A,re,e,fin):=i;let(E,I,J,e):=Ch e;exists w,S,Z,E,I,A,re,J,λj v1 H1 L k N=>?_;split at e<;>try (show absurd e Jac)
 rename_i d' hd;cases e;unfold Zy at hd;w_top hd
 rename_i l;w_top hd
 rename_i fs U;let(b,Cb,Y,ws,rfl,hl,n,eb,q):=k.ins N U;rw[u]at n;cases n;rcases q.look f with⟨z,_⟩|⟨d2,m,z1,z2,z3⟩
 .rw[z]at hd;cases hd
 .rw[z1]at hd;cases hd;exists b,_,Y,ws,m,rfl,eb,hc,v,z2,fin j m H1 L k z3
def Jsw(N:Snd C o)(Q:Snd C v):SS C (.sfd cl f o v):=by
 intro X c x g h;w_plain x h
 rename_i a w U;rcases a with _|⟨Y,a⟩<;>try (show fx9 h)
 w_plain Y h
 rename_i e0 y p0;rcases a with _|⟨t2,a⟩<;>try (show fx9 h)
 replace h:=aB h
 simp only[Am,beq_iff_eq,Ky]at h;obtain⟨⟨⟨⟨rfl,h1⟩,h2⟩,h3⟩,h4⟩:=h;let(j,t,hc,hn):=g.top.fds cl f (by erw[h2]);show PS.imp (Jw7 (N.e X c _ g h3) (Q.e X c _ g h4) (Jcz h1)) λD σ H p=>?_;let(ρ,S,Z,fl,S',rs,re,e,fin):=p;let(y1,u,e1,e):=Ch e;let(x1,S2,e2,e):=Ch e;exists ρ,S,Z,y1,u,rs,re,e1,λr v1 H1 A r1 q1=>#[r,u,Z,x1,S2,r1,re.fut A,e2,λi v2 H2 E I q2=>?_];split at e<;>try (show absurd e Jac)
 rename_i S3 d;cases e;unfold Z1 at d;w_top d
 rename_i l;w_top d
 rename_i fs hi;w_top d
 rename_i hl;cases d;let(b,Cb,k,m,rfl,hb,n,J,q):=I.ins q2 hi;rw[t]at n;cases n;let s:Fut X.K i H2 i (upd H2 b (.ins j k (Xx (Ac f) v1 m))):=Jca (o0:=.ins j k m) J (λ_ z=>by cases z) (λ_ _ z=>by cases z);exists b,j,k,m,rfl,J,hc,hn,by rw[<-⇑q];show hl,?_;let L:=A.trans (E.trans s);show fin i σ _ L (I.setO (o0:=.ins j k m) hb s #[j,k,_,t,Jae,(q.put f (q1.fut E)).fu s.fu]) (re.fut L)
theorem Jmq{X:Cx}{ap pos:Pos}{es:List Expr}(hb:attributeBase e0 m X.env (eval e0 X.env)=eval e0 X.env)(b:Ru (⇑es+([]:List W8).length) (Gs pos (Cd es X.env)) (Pd pos (Lk [] X.env))=true)
  (c:(ap.endLine==pos.line)=true):eval (.Call (.Attribute e0 m ap) es [] pos) X.env=(do
   let a<-eval e0 X.env
   O8 ap.atName
   let(f,first)<-holding [a] (getMethod a m (do return (<-importBound e0 X.env).getD true))
   callWith pos f first (Gs pos (Cd es X.env)) (Pd pos (Lk [] X.env))):=by
 change(do
  let a<-attributeBase e0 m X.env (eval e0 X.env)
  O8 ap.atName
  methodCall e0 m ap pos X.env a (⇑es+([]:List W8).length) (Gs pos (Cd es X.env)) (Pd pos (Lk [] X.env)))=_
 rw[hb];unfold methodCall calleeOf methodCallPos;rw[b,c];rfl
def Js2(ho:Snd C o)(ha:Snd C as):ST C (.mcl cl m f o as):=by
 intro X c x g h;w_plain x h
 rename_i fn p E j;w_plain fn h
 rename_i e0 y ap;w_plain E h
 replace h:=aB h
 simp only[Am,beq_iff_eq,decide_eq_true_eq]at h;obtain⟨⟨⟨⟨⟨⟨rfl,h1⟩,I⟩,hfw⟩,h2⟩,h3⟩,s⟩:=h;let(k,a,fd,ps,Ca,J,n0,hc,hm,F,hb):=g.top.mts cl m f (by erw[h2]);let hr:=J.mono (Mu k);let rd:∀{t:TA},(∀r H Q,tA X.K C as r H Q->t r H Q)->∀r H Q,tE X.K C (.mcl cl m f o as) r H Q->Z7 Ca (Ac m) (spM X.K C f) [] E0 (tE X.K C o) t r H Q:=λ{t} ht r H Q #[L,S,Z,d,N,U,re,e,fin]=>by
  let(x1,Y,e1,e):=Ch e;split at e<;>try (show absurd e Jac)
  rename_i i;let(A,S2,e2,e):=Ch e;exists L,S,Z,x1,Y,U,re,e1,λρ1 v1 H1 f1 r1 q1=>?_;unfold isRec at i;w_top i
  rename_i l;w_top i
  rename_i fs hi;let(b,Cb,dx,ws,rfl,hl,n,eb,q):=r1.ins q1 hi;rw[n0]at n;cases n;let hno:ws.lookup (Ac m)=none:=by
   rcases q.look m with⟨_,z⟩|⟨d2,v2,z1,_,_⟩
   .show z
   .rw[z1]at i;cases i
  exists b,dx,ws,rfl,eb,hno,ht r H1 _ #[ρ1,Y,Z,A,S2,r1,re.fut f1,e2,λρ2 vs H2 f2 r2 q2=>?_];change spM X.K C f (_::(vs++[])) H2 Q E0;rw[Co];exists ρ2,S2,.loc _::A,d,N,r2,RelDs.cons (q1.fut f2) q2,e,λρ3 v3 H3 f3 r3 q3=>fin ρ3 v3 H3 (f1.trans (f2.trans f3)) r3 q3
 let u:Ru (⇑p+([]:List W8).length) (Gs j (Cd p X.env)) (Pd j (Lk [] X.env))=true:=by
  unfold Ru;let v:(Gs j (Cd p X.env)).all (λx=> !x.1)=true:=Jfr _ _ (Ye (env:=X.env) s);rw[show(Gs j (Cd p X.env)).all (!·.1)=true from v];simp only[Na,Am,decide_eq_true_eq];exists rfl,by change ⇑p+0+0<30;lia
 let w:=Jmq (X:=X) (e0:=e0) (m:=Ac m) (ap:=ap) (pos:=j) (es:=p) (Jek h1 _) u (by erw[I]);let pe:PE X (.Call (.Attribute e0 (Ac m) ap) p [] j) (tE X.K C (.mcl cl m f o as)):=by
  cases p with
  |nil=>
   show PE.imp (Jo7 (ho.e X c _ g h3) hc hm F hr hb .nil Jmh w) (rd λr H Q #[L,S,Z,A,N,U,re,e,fin]=>?_);obtain rfl:=Jdg s;cases e;show fin L [] H Fut.refl U RelDs.nil
  |cons e p=>
   let(a0,b0,rfl):=Jbw s;let h4':=s
   replace s:=aB s
   show PE.imp (Jue (ho.e X c _ g h3) hc hm F hr hb .nil Jmh (ha.a X c _ g h4') (Jag (noStar s.1)) (by rw[Ja4];show Ye s.2) w) (rd λr H Q z=>z)
 exists pe,Jko pe (λ_=>rfl) λZ S b N e=>?_;let(x1,Y,e1,e):=Ch e;split at e<;>try (show absurd e Jac)
 rename_i i;let(A,S2,e2,e):=Ch e;let(d,S3,e3,e):=Ch e;split at e
 .rename_i k hk;cases e;exists d,Res.bnd e1 (by rw[if_pos i];show Res.bnd e2 e3),hk
 .cases e
def Js0:SE C (.new cl f):=by
 intro X c x g h;obtain⟨⟨_,p,y,rfl⟩,m⟩:=aO h;let(m,z):=aB m;let(A,E):=aB m;let(k,a,fd,ps,n,I,J,L,N,F,hb):=g.top.nws cl f (by erw[z]);show PE.imp (Jo8 N F I (g.glo A) L hb .nil Jmh (Z4 E)) λσ H Q o=>?_;let(i,S,Z,d,U,u,re,e,fin):=o;let(r,S1,Y,e):=Ch e;split at e<;>try (show absurd e Jac)
 cases e;intro x b hx j s;let f1:Fut X.K i H i (upd H b (.own x)):=Jay j;let l:(upd H b (.own x)) x=none:=by rw[Jad (E9 s)];show hx
 let f2:Fut X.K i (upd H b (.own x)) (i++[x]) (upd (upd H b (.own x)) x (.ins n b [])):=Ja2 l [x];let r2:RelS X.K (i++[x]) (S++[.ins cl []]) (upd (upd H b (.own x)) x (.ins n b [])):=(u.new j).allocO l #[n,b,[],J,Jae,rfl];let v:(i++[x])[⇑S]? =-x:=by rw[<-u.len];simp
 exists i++[x],S++[.ins cl []],[.loc ⇑S],.non,U,r2,RelDs.cons (by simp only[RelD];exists x,rfl,v) RelDs.nil,Y,λt v3 H3 w r3 q3=>#[q3.non_inv,?_];show fin t _ H3 (f1.trans (f2.trans w)) r3 ?_;simp only[RelD];exists x,rfl,w.get v
def Jsx:SS C .rse:=by
 intro X c x g h b s d H D I a;let(f,S,Z,i,j,k,re,e,fin):=a;show absurd e Jac
end
noncomputable def kd:M->Nat
 |.nul=>0|.cns _ _=>0
 |.rng _=>2|.enm _=>2|.zp _ _=>2|.rvi _=>2
 |.tvar _=>3|.ttup _=>3|.tsub _ _=>3
 |.asg _ _=>4|.aug _ _=>4|.ifs _ _ _=>4|.forr _ _ _=>4|.ret _=>4|.exp _=>4|.rse=>4|.sfd _ _ _ _=>4
 |_=>1
def Z3(h:Xf m c x=true):kd m=1:=by
 cases m<;>first|rfl|(show fx9 h)
def Wbo(h:Xu m c x=true):kd m=0:=by
 cases m<;>first|rfl|(show fx9 h)
def Wdy(h:Wap m c x=true):kd m=0:=by
 cases m<;>first|rfl|(show fx9 h)
def Wd0(h:Wa2 m c x=true):kd m=0:=by
 cases m<;>first|rfl|(show fx9 h)
def Wdz(h:Y5 m c x=true):kd m=0\/kd m=2:=by
 cases m<;>first|show .inl rfl|show .inr rfl|(show fx9 h)|(cases x<;>show fx9 h)
def Wbn(h:Y6 m c x=true):kd m=3:=by
 cases m<;>first|rfl|(show fx9 h)|(cases x<;>show fx9 h)
def J0k(h:Yu m c x=true):kd m=0:=by
 cases m<;>first|rfl|(show fx9 h)
def Wbm(h:Wbu m c x=true):kd m=4:=by
 cases m<;>first|rfl|(show fx9 h)|(cases x<;>show fx9 h)
def Wd1(h:Yp m c x=true):kd m=0:=by
 cases m<;>first|rfl|(show fx9 h)
section
variable {C:Pr}
def Snd.of(d:kd m≠0)(f:kd m=1->SE C m/\∀(X:Cx) (c:Ck) (x:Expr),Gd X C c->Xf m c x=true->PT X x (tT X.K C m))(j:kd m=2->∀(X:Cx) (c:Ck) (tg x:Expr),Gd X C c->Y5 m c x=true->itT m tg=true->PI X tg x (tI X.K C m)/\∀v,D3 x X.env v=pure v)(k:kd m=3->SG C m)(l:kd m=4->SS C m):Snd C m where
 e X c x g h:=(f (Z3 h)).1 X c x g h
 t X c x g h:=(f (Z3 h)).2 X c x g h
 a X c x g h:=absurd (Wbo h) d
 bv X c w x p g h:=absurd (Wbo h) d
 bt X c w x p g h:=absurd (Wbo h) d
 o X c x g h:=absurd (Wdy h) d
 cd X c x g h:=absurd (Wd0 h) d
 i X c tg x g h:=(Wdz h).elim (λz=>absurd z d) λz=>j z X c tg x g h
 g X c x g h:=k (Wbn h) X c x g h
 gs X c x g h:=absurd (J0k h) d
 s X c x g h:=l (Wbm h) X c x g h
 b X c x g h:=absurd (Wd1 h) d
def nk{p:Prop}(a:kd m=i)(h:i≠j:=by decide)(z:kd m=j):p:=absurd (a.symm.trans z) h
def Snd.ofE(d:kd m=1)(f:SE C m)(h:∀(X:Cx) (c:Ck) (x:Expr),Gd X C c->Xf m c x=true->PT X x (tT X.K C m)):Snd C m:=.of (nk d) (λ_=>#[f,h]) (nk d) (nk d) (nk d)
def Snd.ofX(d:kd m=1)(h:ST C m):Snd C m:=.ofE d (λX c x g k=>(h X c x g k).1) λX c x g k=>(h X c x g k).2
def Snd.ofN(d:kd m=1)(f:∀Z S,evT C m Z S=.bad)(h:SE C m):Snd C m:=.ofE d h λX c x _ _=>Jz1 (Jzt f)
def Snd.ofI(d:kd m=2)(f:∀(X:Cx) (c:Ck) (tg x:Expr),Gd X C c->Y5 m c x=true->itT m tg=true->PI X tg x (tI X.K C m)/\∀v,D3 x X.env v=pure v):Snd C m:=.of (nk d) (nk d) (λ_=>f) (nk d) (nk d)
def Snd.ofG(d:kd m=3)(f:SG C m):Snd C m:=.of (nk d) (nk d) (nk d) (λ_=>f) (nk d)
def Snd.ofS(d:kd m=4)(hs:SS C m):Snd C m:=.of (nk d) (nk d) (nk d) (nk d) λ_=>hs
def Jlo:Snd C .nul where
 e:=λX c x g h=>absurd (Z3 h) 'd'
 t:=λX c x g h=>absurd (Z3 h) 'd'
 a:=λX c x g h=>by
  cases x with
  |cons e r=>show fx9 h
  |nil=>
   show PA.imp Jdq λk H Q d=>?_;let(f,S,Z,l,m,j,re,e,fin):=d;cases e;show fin f [] H Fut.refl j RelDs.nil
 bv:=λX c w x p g h=>Jud λk H Q #[f,S,Z,l,m,j,re,e,fin]=>absurd e Jac
 bt:=λX c w x p g h=>λu n s k H Q I #[f,S,Z,l,m,j,re,e,fin]=>absurd e Jac
 o:=λX c x g h=>by
  cases x with
  |some e=>show fx9 h
  |none=>
   show PO.imp Jt5 λk H Q d=>?_;let(f,S,Z,l,m,j,re,e,fin):=d;cases e;show fin f H Fut.refl j
 cd:=λX c x g h=>by
  cases x with
  |cons e r=>show fx9 h
  |nil=>
   show PTs.imp Jty λk H Q d=>?_;let(f,S,Z,l,m,j,re,e,fin):=d;cases e;show fin f H Fut.refl j
 i:=λX c v x g h _=>by cases h
 g:=λX c x g h=>absurd (Wbn h) 'd'
 gs:=Jkl
 s:=λX c x g h=>absurd (Wbm h) 'd'
 b:=Jlx
def Jtg(f:Snd C a)(hb:Snd C b):Snd C (.cns a b)where
 e:=λX c x g h=>absurd (show 0=1 from Z3 h) 'd'
 t:=λX c x g h=>absurd (show 0=1 from Z3 h) 'd'
 a:=λX c x g h=>by
  cases x with
  |nil=>show fx9 h
  |cons e E=>
   replace h:=aB h
   show PA.imp (Jbj (f.e X c e g h.1) (hb.a X c E g h.2) (Jag (noStar h.1))) λz H Q d=>?_;let(k,S,Z,ds,m,l,re,e,fin):=d;let(n,p,u,e):=Ch e;let(I,S2,J,e):=Ch e;cases e;exists k,S,Z,n,p,l,re,u,λj L H1 r v w=>#[j,p,Z,I,m,v,re.fut r,J,λy vs H2 A N U=>?_];show fin y _ H2 (r.trans A) N (RelDs.cons (w.fut A) U)
 bv:=Jwi f hb
 bt:=Jwj f hb
 o:=λX c x g h=>by
  let(e,rfl,rfl):=Jze h
  .show PO.imp (Jt4 (f.e X c e g h)) λz H Q d=>?_;let(k,S,Z,o,m,l,re,e,fin):=d;let(n,p,u,e):=Ch e;exists k,S,Z,n,p,l,re,u,λj L H1 r v w=>?_;cases n<;>simp only at e<;>try (cases e;done)
   cases e;exists _,w.int_inv,fin j H1 r v
 cd:=λX c x g h=>by
  let(e,rfl,rfl):=Jzh h;show PTs.imp (Jtx (f.t X c e g h)) λz H Q d=>?_;let(k,S,Z,o,m,l,re,e,fin):=d;exists k,S,Z,o,m,l,re,e,fin
 i:=λX c Y x g h _=>by
  obtain rfl:=Jzf h;exists Jlq f X c Y x g h,Yk (Wcf h)
 g:=λX c x g h=>absurd (show 0=3 from Wbn h) 'd'
 gs:=Jkm f hb
 s:=λX c x g h=>absurd (show 0=4 from Wbm h) 'd'
 b:=Jly f hb
theorem snd(C:Pr):∀m:M,Snd C m/\SC C m:=by
 intro m
 induction m with
 |nul=>exists Jlo,trivial
 |cns a b j hb=>exists Jtg j.1 hb.1,trivial
 |cst d=>exists .ofN rfl (λ_ _=>rfl) Jtf,trivial
 |var i=>exists .ofX rfl (Jst),trivial
 |glb x=>exists .ofN rfl (λ_ _=>rfl) Jta,trivial
 |bin o a b j hb=>exists .ofN rfl (λ_ _=>rfl) (Jtj j.1 hb.1),trivial
 |neg a j=>exists .ofN rfl (λ_ _=>rfl) (Js1 j.1),trivial
 |bit a j=>exists .ofN rfl (λ_ _=>rfl) (Jti j.1),trivial
 |nott a j=>exists .ofX rfl (Jsz j.1),trivial
 |bo w as j=>exists .ofX rfl (Jwk j.1),trivial
 |cmp o a b j hb=>exists .ofX rfl (Jth j.1 hb.1),trivial
 |cmp2 o p a b d j hb hd=>exists .ofX rfl (Joo j.1 hb.1 hd.1),trivial
 |ife t a b n j hb=>exists .ofN rfl (λ_ _=>rfl) (Js7 n.1 j.1 hb.1),trivial
 |tup as j=>exists .ofN rfl (λ_ _=>rfl) (Jsu j.1),trivial
 |lst as j=>exists .ofN rfl (λ_ _=>rfl) (Js3 j.1),trivial
 |idx a b j hb=>exists .ofX rfl (Js8 j.1 hb.1),trivial
 |sli a l u j I J=>exists .ofN rfl (λ_ _=>rfl) (Jsv j.1 I.1 J.1),trivial
 |call f as j=>exists .ofX rfl (Jop j.1),trivial
 |prim p as j=>exists .ofX rfl (Jok j.1),trivial
 |isi a t j=>exists .ofX rfl (Js5 j.1),trivial
 |meth p o as y j=>exists .ofN rfl (λ_ _=>rfl) (Jol y.1 j.1),trivial
 |comp N k A r U cd L E H hc s=>exists .ofN rfl (λ_ _=>rfl) (Jon E.1 H.1 hc.1 s.1),E.1,H.1,hc.1,s.1
 |rng a j=>exists .ofI rfl λX c r x g h _=>#[Jls j.1 X c r x g h,Yk λa b p z=>by subst z;cases h],trivial
 |enm a j=>exists .ofI rfl λX c r x g h n=>#[Jlt j.1 X c r x g h n,Yk λa b p z=>by subst z;cases h],trivial
 |zp a b j hb=>exists .ofI rfl λX c r x g h n=>#[Jlp j.1 hb.1 X c r x g h n,Yk λa b p z=>by subst z;cases h],trivial
 |dnil k=>exists .ofN rfl (λ_ _=>rfl) Jom,trivial
 |rvi a j=>exists .ofI rfl λX c r x g h _=>#[Jlr j.1 X c r x g h,Yk λa b p z=>by subst z;cases h],trivial
 |dcm N A r a L E j s=>exists .ofN rfl (λ_ _=>rfl) (Jte Jlo E.1 j.1 s.1),trivial
 |hld a j=>exists .ofN rfl (λ_ _=>rfl) (Js9 j.1),trivial
 |lsp a j=>exists .ofN rfl (λ_ _=>rfl) (Js4 j.1),trivial
 |aug i e s=>exists .ofS rfl (Jtk s.1),trivial
 |fld c f a j=>exists .ofN rfl (λ_ _=>rfl) (Jtc j.1),trivial
 |mcl c m f o as y j=>exists .ofX rfl (Js2 y.1 j.1),trivial
 |new c f=>exists .ofN rfl (λ_ _=>rfl) Js0,trivial
 |rse=>exists .ofS rfl Jsx,trivial
 |sfd c f o v y Q=>exists .ofS rfl (Jsw y.1 Q.1),trivial
 |tvar i=>exists .ofG rfl Jlu,trivial
 |ttup ts j=>exists .ofG rfl (Jlv j.1),trivial
 |tsub a b j hb=>exists .ofG rfl (Jlw j.1 hb.1),trivial
 |asg t e n s=>exists .ofS rfl (Jtl n.1 s.1 s.2),trivial
 |ifs t a b n j hb=>exists .ofS rfl (Js6 n.1 j.1 hb.1),trivial
 |forr t i b n H hb=>exists .ofS rfl (Jtb n.1 H.1 hb.1),trivial
 |ret a j=>exists .ofS rfl (Jsy j.1),trivial
 |exp a j=>exists .ofS rfl (Jtd j.1),trivial
end
def Cn(T:Tb)(G:String->Option D)(W n:Nat):Pr:=#[callN T G W n,G,W]
def nN(f:Fn)(s:Stmt):List Str:=f.N.map λi=>(((defScope s).names.filter λx=>x.2== .local||x.2== .cell).map (·.1)).getD i ""
structure FnB(K:Ah)(T:Tb)(B F:List String)(O:Ow)(f:String)(a:Addr)(fd:Jl):Prop where
 ex:∃(FN:Fn) (st:Stmt) (nm ql:Str),T f=-FN/\Fun K nm ql st a fd/\X4 (nN FN st) (FN.ps.map Ac) (defScope st)/\
  Yp FN.body #[nN FN st,(defScope st).names,true,B,F,O] (Xj st)=true/\∀us:List Value,⇑us=(FN.ps.map Ac).length->U4 fd #[us,[]]=pure ((FN.ps.map Ac).zip us)
structure Txt(K:Ah)(mg:Str->Option Value)(T:Tb)(G:String->Option D)(B F:List String)(O:Ow):Prop where
 fns:∀f∈F,∃a fd,FnB K T B F O f a fd/\mg (Ac f)=-(.ref a)
 np:npB K=true
 blt:∀x∈B,mg (Ac x)=none
 gl:∀x d,G x=-d->∃v u,mg (Ac x)=-u/\RelV v u/\(∀ρ H,RelD K ρ H d v)/\∀ds,d=.tup ds->∃a o,v=.ref a/\K.lookup a=-o/\o.cls=.type "tuple"/\o.dict=none
 mts:∀c m f,(c,m,f)∈O.mt->∃a fd Ca,FnB K T B F O f a fd/\Cc K Bl (Ac c)=-(-(.ref Ca))/\L2.Cls K Ca/\L2.Meth K Ca (Ac m) a
 fds:∀c f,(c,f)∈O.fd->∃Ca,Cc K Bl (Ac c)=-(-(.ref Ca))/\L2.Cls K Ca/\L2.Xy K Ca (Ac f)
 nws:∀c f,(c,f)∈O.nw->∃a fd Ca,FnB K T B F O f a fd/\Cc K Bl (Ac c)=-(-(.ref Ca))/\mg (Ac c)=-(.ref Ca)/\L2.Mk K Ca a
section
variable {P:Program} {w:World} {K:Ah} {mg:Str->Option Value} {base:Heap} {T:Tb} {G:String->Option D} {B F:List String} {O:Ow}
def RelE.start{ds:List D}{N:List Str}(r:RelDs K ρ H ds vs)(b:k=⇑N-⇑ds):RelE K ρ H (ds.map some++Gh k none) (L2.start N vs):=by
 unfold L2.start;rw[<-⇑r,<-b];exists by simp[⇑r],λi d h=>?_
 by_cases a:i<⇑ds
 .rw[A0 (by erw[a]),Ao]at h;rw[A0 (by rw[Ag,<-⇑r];show a),Ao];cases e:ds[i]? with
  |none=>rw[e]at h;cases h
  |some c=>
   rw[e]at h;let h:c=d:=by erw[h]
   subst h;let(v,f,q):=r.get e;exists v,by rw[f];rfl,q
 .rw[Au (by erw[a]),Gj]at h;split at h<;>cases h
def Jhu{b:Fn}{ds:List D}(g:T f=-b)(e:(Cn T G W (n+1)).call f ds S=.ok d h):
  ⇑ds=b.ps.length/\∃c a,evB (Cn T G W n) b.body (ds.map some++Gh (b.N.length-⇑ds) none) S=.ok c a/\(match c with|.rt d=>.ok d a|.nx _=>.ok .non a)=Res.ok d h:=by
 simp only[Cn,callN]at e;rw[g]at e;simp only at e;split at e
 .let(c,a,i,e):=Ch e;exists‹_›,c,a,i,e
 .cases e
def Jzr(t:Txt K mg T G B F O)(u:Xp (2*n+1) A)(v:∀(f:String) (a:Addr) (H:Jl),FnB K T B F O f a H->∀I,T f=-I->Yd P w K mg base CX0 (2*n) a H (I.ps.map Ac) (spM K (Cn T G W n) f)):Tp P w K mg base A (Cn T G W n) B F O:=by
 exists λg k=>?_,t.blt,t.gl,Gu (Aj _) u.units,t.np,λc m g k=>?_,t.fds,λc g k=>?_
 .let(b,d,hb,x):=t.fns g k;let(e,l,o,p,h,j,r,s,i):=id hb.ex;exists 2*n,b,d,_,u.mono (Mu _),x,v g b d hb e h,.all i,j.kp
 .let(b,d,y,hb,z,C,E):=t.mts c m g k;let(e,l,o,p,h,j,r,s,i):=id hb.ex;exists 2*n,b,d,_,y,u,z,C,E,v g b d hb e h,.all i
 .let(b,d,y,hb,z,C,E):=t.nws c g k;let(e,l,o,p,h,j,r,s,i):=id hb.ex;exists 2*n,b,d,_,y,u,z,C,E,v g b d hb e h,.all i
theorem J0r(t:Txt K mg T G B F O)(W:Nat):∀(n:Nat) (f:String) (a:Addr) (i:Jl),FnB K T B F O f a i->∀g,T f=-g->Yd P w K mg base CX0 (2*n) a i (g.ps.map Ac) (spM K (Cn T G W n) f):=by
 intro n
 induction n with
 |zero=>show λf a i p g k=>#[λl H Q E h=>by let(_,_,_,_,_,_,_,e,_):=h;show absurd e Jac,λA c s H args us l Q E _ _ _ _ h=>by let(_,_,_,_,_,_,_,e,_):=h;show absurd e Jac]
 |succ n v=>
  intro f a i p g k;let(x,st,nm,ql,j,y,m,z,bd):=p.ex;rw[k]at j;cases j;change Yd P w K mg base CX0 (2*n+1+1) a i _ _;show y.ok m (λl H Q E h=>?_) (λC A c s H l Q E I h=>?_)<;>let(J,S,ds,d,S',L,r,e,fin):=h
  .rw[<-⇑r,(Jhu k e).1,Ag]
  .exists _,((snd (Cn T G W n) g.body).1.b _ #[nN g st,(defScope st).names,true,B,F,O] _ #[rfl,m.nd,rfl,m.kind,λ_=>rfl,rfl,rfl,Jzr t I v] z),?_;let(_,u,N,U,e):=Jhu k e;exists J,S,_,u,N,L,RelE.start r (by rw[nN,Ag]),U,?_;cases u with
   |nx Z=>cases e;show λo Y H1 f1 r1 q1=>fin o _ H1 f1 r1 RelD.non
   |rt d=>cases e;show fin
def Jx8{G:String->Option D}(h:∀ns:List Int,⇑ns<=63->∃d,callN T G W n "law" [.kl (ns.map D.int)] []=.ok (.bl true) d)(H:Hp)(a:Addr)(ns:List Int)(f:⇑ns<=63)(g:Wa5 H)(j:SqL K H a (ns.map V.int))(E:XK):
  spM K (Cn T G W n) "law" [.ref a] H (λv _=>v=.bl true) E:=by
 let(d,e):=h ns f;let c:∀(ns:List Int),RelDs K [] H (ns.map D.int) (ns.map V.int):=by
  intro ns
  induction ns with
  |nil=>show RelDs.nil
  |cons i r k=>show RelDs.cons (RelD.int i) k
 let m:SqF K H a (ns.map V.int):=by
  rcases j with(h|h)|h
  .rcases g a with z|⟨o,s,z⟩
   .rw[h]at z;cases z
   .rw[h]at z;cases z
  .show .inl h
  .show .inr h
 exists[],[],[.kl (ns.map D.int)],.bl true,d,#[rfl,Iw,λl b o h=>by simp at h],RelDs.cons ?_ RelDs.nil,e,λp v t _ _ q=>q.bl_inv;simp only[RelD];exists a,_,rfl,m,c ns
end
def walk{l:K3}{XP:(Str->Option Value)->Heap->Prop}{YP:World->Heap->Prop}{d:Wq}{K:Jk->Ah}{G:String->Option D}(A:l.most=some 63)(o:d.params.defaults=[])
  (C:∀(w:World) (h:Heap),YP w h->(K w.params).In h)(E:Xp (2*n) Nw)(hd:d.name=Ac "law")(c:"law"∈F)(j:∃m,T "law"=-m/\m.ps=[x])
  (X:∀(w:World) (mg:Str->Option Value) (h:Heap),(K w.params).In h->h.Ns Bl mg->Txt (K w.params) mg T G B F O)
  (run:∀ns:List Int,⇑ns<=63->∃I,callN T G W n "law" [.kl (ns.map D.int)] []=.ok (.bl true) I):
  Of q loose XP YP l.row.toRowW d [] (λf vs=>Pc f vs):=by
 show L2.Jsp (n:=63) (k:=2*n) (x:=Ac x) (CX:=λ_=>CX0) (sp:=λw=>spM (K w.params) (Cn T G W n) "law") A 'd' o E C (λw mg fa h J p e=>?_) (λw H a ns L N Q=>Jx8 run H a ns L N Q _) λ_ _ _ _ _ z=>z;let t:=X w mg h J p;let(a,v,y,r):=t.fns "law" c;let(m,j,b):=j;let(U,st,Y,ql,g,FU,sc,ck,bd):=id y.ex;rw[j]at g;cases g;rw[hd,r]at e;cases e;exists v,λs u=>?_,λi kb nb=>?_
 .let:=bd [u] (by rw[b];rfl);rw[b]at this;show .of_eq this
 .let:=J0r (P:=l.prog) (w:=w) (base:=i) t W n "law" fa v y m j;rw[b]at this;show this
def holds{l:K3}{d:Wq}{K:Jk->Ah}{as:List Addr}(c:l.wellSaid=true)(e:∀P,as=(K P).map (·.1))
  (left:PySem.W.LeftO l.prog q loose (λs=>PySem.W.xlAt q [] s&&PySem.W.recOk [] s) (λs=>as.map s.heap.get?) (λw=>(K w.params).map λp=>some p.2) N)
  (a:PySem.W.defOf q l.name=-(d,[]))(hp:l.prog.theDef l.name=-(d.params,d.body,d.scope))(g:PySem.W.kwWritten? d.params.kwonlyargs d.params.kw_defaults=-[])
  (b:(PySem.W.chainsOk q&&PySem.W.opensWell l.prog&&(PySem.W.frees l.row.toRowW&&l.row.within.isEmpty))=true)(hb:l.prog.bare)(i:l.row.toRowW.promised)
  (hc:Of q loose (Wg q []) (Vh K) l.row.toRowW d [] (λf vs=>Pc f vs)):l.Holds:=
 PySem.W.holds_law c λsaid=>PySem.W.holds_open (r:=l.row) (XP:=Wg q []) (YP:=Vh K) left (PySem.W.InK.of e) PySem.W.InK.keeps (λs z=>PySem.W.xl_of s (Sx.1 z).1) PySem.W.XL.keeps a hp g
  (λs z=>PySem.W.recFacts_of (Sx.1 z).2) (by cases h:l.writes<;>simp[Wi]) said b hb i hc
theorem Wbl{b:Type}{P:List b->Prop}(h:∀a,P [a]):∀us:List b,⇑us=1->P us
 |[a],_=>h a
theorem Z2{b:Type}{P:List b->Prop}(h:∀a us,⇑us=n->P (a::us)):∀us:List b,⇑us=n+1->P us
 |a::us,e=>h a us (Nat.succ.inj e)
def Wbk{c:Type}{P:List c->Prop}(h:∀a b,P [a,b]):∀us:List c,⇑us=2->P us:=Z2 λa=>Wbl (h a)
def Wbj{d:Type}{P:List d->Prop}(h:∀a b c,P [a,b,c]):∀us:List d,⇑us=3->P us:=Z2 λa=>Wbk (h a)
def Wbi{e:Type}{P:List e->Prop}(h:∀a b c d,P [a,b,c,d]):∀us:List e,⇑us=4->P us:=Z2 λa=>Wbj (h a)
def Wbh{f:Type}{P:List f->Prop}(h:∀a b c d e,P [a,b,c,d,e]):∀us:List f,⇑us=5->P us:=Z2 λa=>Wbi (h a)
def Wck{i:Type}{P:List i->Prop}(h:∀a b c d e f g,P [a,b,c,d,e,f,g]):∀us:List i,⇑us=7->P us:=Z2 λa=>Z2 λb=>Wbh (h a b)
structure FE(K:Ah)(x:Str)(st:Stmt):Prop where
 ex:∃(f:Addr) (oc:Value) (od:Option Addr) (kV doc pm:Value) (an:Option Addr) (cdv ct:Value) (sl:Array (Option Value)),Cc K Bl x=-(-(.ref f))/\
  K.lookup f=-#[oc,od,.func (Gk x x (Xn st) (Xj st) (defScope st) .none kV doc pm an cdv ct),sl]/\I8 K cdv x=true/\Ek K (.ref f)=true
section
variable {K:Ah} {mg:Str->Option Value} {h:Heap} {T:Tb} {G:String->Option D} {B F:List String} {O:Ow}
def Jyt(j:K.In h)(k:h.Ns Bl mg){b:Fn}(e:FE K (Ac f) st)(l:T f=-b)(m:X4 (nN b st) (b.ps.map Ac) (defScope st))
  (n:Yp b.body #[nN b st,(defScope st).names,true,B,F,O] (Xj st)=true)
  (bd:∀(kV c g:Value) (an:Option Addr) (d i:Value) (us:List Value),⇑us=(b.ps.map Ac).length->U4 (Gk (Ac f) (Ac f) (Xn st) (Xj st) (defScope st) .none kV c g an d i) #[us,[]]=pure ((b.ps.map Ac).zip us)):
  ∃a o,FnB K T B F O f a o/\mg (Ac f)=-(.ref a):=by
 let(a,oc,od,kV,c,g,an,d,i,sl,p,r,s,t):=e.ex;exists a,_,#[b,st,_,_,l,Jr2 (st:=st) r s t,m,n,bd kV c g an d i],Md j k p
structure CF(K:Ah)(c:Str):Prop where
 ex:∃Ca:Addr,Cc K Bl c=-(-(.ref Ca))/\L2.Cls K Ca
structure NF(K:Ah)(c f:Str):Prop where
 ex:∃Ca:Addr,Cc K Bl c=-(-(.ref Ca))/\L2.Xy K Ca f
def J0e(n:Cc K Bl c=-(-(.ref Ca)))(a:D7 K (.ref Ca) f=some none):NF K c f:=#[Ca,n,a]
structure MF(K:Ah)(c m ql:Str)(st:Stmt):Prop where
 ex:∃(Ca f:Addr) (oc:Value) (od:Option Addr) (kV doc pm:Value) (an:Option Addr) (cdv ct:Value) (sl:Array (Option Value)),Cc K Bl c=-(-(.ref Ca))/\D7 K (.ref Ca) m=-(-(.ref f))/\
  K.lookup f=-#[oc,od,.func (Gk m ql (Xn st) (Xj st) (defScope st) .none kV doc pm an cdv ct),sl]/\I8 K cdv ql=true/\Ek K (.ref f)=true/\M2 K (.ref f)=true
structure NW(K:Ah)(c:Str):Prop where
 ex:∃Ca:Addr,Cc K Bl c=-(-(.ref Ca))/\N7 K Ca=true/\Ek K (.ref Ca)=true
def Jx1{b:Fn}(cf:CF K (Ac c))(e:MF K (Ac c) (Ac m) (Ac o) st)(p:T f=-b)(r:X4 (nN b st) (b.ps.map Ac) (defScope st))
  (s:Yp b.body #[nN b st,(defScope st).names,true,B,F,O] (Xj st)=true)
  (bd:∀(kV d i:Value) (an:Option Addr) (g j:Value) (us:List Value),⇑us=(b.ps.map Ac).length->U4 (Gk (Ac m) (Ac o) (Xn st) (Xj st) (defScope st) .none kV d i an g j) #[us,[]]=pure ((b.ps.map Ac).zip us)):
  ∃a t Ca,FnB K T B F O f a t/\Cc K Bl (Ac c)=-(-(.ref Ca))/\L2.Cls K Ca/\L2.Meth K Ca (Ac m) a:=by
 let(y,k,hc):=cf.ex;let(Ca,a,oc,od,kV,d,i,an,g,j,sl,n,u,v,w,l,x):=e.ex;rw[n]at k;cases k;exists a,_,_,#[b,st,_,_,p,Jr2 (st:=st) v w l,r,s,bd kV d i an g j],n,hc,#[u,x,l]
def Jyv(cf:CF K (Ac c))(e:NF K (Ac c) (Ac f)):∃Ca,Cc K Bl (Ac c)=-(-(.ref Ca))/\L2.Cls K Ca/\L2.Xy K Ca (Ac f):=by
 let(b,a,hc):=cf.ex;let(Ca,n,h):=e.ex;rw[n]at a;cases a;exists _,n,hc,h
def Jxw(i:K.In h)(j:h.Ns Bl mg)(cf:CF K (Ac c))(e:NW K (Ac c))(k:∃a b Ca,FnB K T B F O f a b/\Cc K Bl (Ac c)=-(-(.ref Ca))/\L2.Cls K Ca/\L2.Meth K Ca (Ac "__init__") a):
  ∃a b Ca,FnB K T B F O f a b/\Cc K Bl (Ac c)=-(-(.ref Ca))/\mg (Ac c)=-(.ref Ca)/\L2.Mk K Ca a:=by
 let(p,d,l,m):=e.ex;let(a,b,Ca,o,n,_,g):=k;rw[n]at d;cases d;exists a,b,_,o,n,Md i j n,l,g.at_,g.fn,m
def Jk3(b:K.In h)(c:h.Ns Bl mg)(e:Cc K Bl (Ac x)=-(-(.int i t))):∃v u,mg (Ac x)=-u/\RelV v u/\(∀ρ H,RelD K ρ H (.int i) v)/\∀ds,D.int i=.tup ds->∃a o,v=.ref a/\K.lookup a=-o/\o.cls=.type "tuple"/\o.dict=none:=
 #[.int i,_,Md b c e,#[t,rfl],λ_ _=>RelD.int i,λ_ z=>by cases z]
def J0q(a:K.In h)(b:h.Ns Bl mg)(e:Cc K Bl (Ac x)=some none):mg (Ac x)=none:=PySem.W.mg_none_of a b e
structure GV(K:Ah)(x:Str)(d:D):Prop where
 ex:∃v u,Cc K Bl x=-(-u)/\RelV v u/\(∀ρ H,RelD K ρ H d v)/\∀ds,d=.tup ds->∃a o,v=.ref a/\K.lookup a=-o/\o.cls=.type "tuple"/\o.dict=none
def Jys(b:K.In h)(c:h.Ns Bl mg)(e:GV K (Ac x) d):∃v u,mg (Ac x)=-u/\RelV v u/\(∀ρ H,RelD K ρ H d v)/\∀ds,d=.tup ds->∃a o,v=.ref a/\K.lookup a=-o/\o.cls=.type "tuple"/\o.dict=none:=by
 let(v,u,f,g,i,j):=e.ex;exists v,u,Md b c f,g,i,j
noncomputable def strsLook:List Value->List Str->Bool
 |[],[]=>true
 |.str y _::us,x::xs=>x==y&&strsLook us xs
 |_,_=>false
theorem Jft:∀{xs:List Str},strsLook us xs=true->Vals (xs.map V.str) us:=by
 induction us with
 |nil=>
  intro xs h;cases xs with
  |nil=>show .nil
  |cons x xs=>show fx9 h
 |cons u us a=>
  intro xs h;cases xs with
  |nil=>cases u<;>show fx9 h
  |cons x xs=>
   w_plain u h
   replace h:=(Am _ _).mp h
   obtain rfl:=eq_of_beq h.1;show .cons #[_,rfl] (a h.2)
def Ju8(xs:List Str){its:Array Value}(e:Cc K Bl x=-(-(.ref a)))(l:K.lookup a=-#[.type "tuple",none,.seq its n,sl])
  (v:(strsLook its.toList xs&&decide (its.size<=1000))=true):GV K x (.tup (xs.map D.str)):=by
 simp only[Am,decide_eq_true_eq]at v;exists .ref a,.ref a,e,rfl,λd H=>?_,λg _=>#[a,_,rfl,l,rfl,rfl];simp only[RelD];exists a,xs.map V.str,rfl,.inr #[_,its,n,l,rfl,rfl,by rw[G2];lia,Jft v.1],?_;let b:∀c:List Str,RelDs K d H (c.map D.str) (c.map V.str):=by
  intro c
  induction c with
  |nil=>show RelDs.nil
  |cons y r f=>show RelDs.cons (RelD.str y) f
 show b xs
def Ju9(e:Cc K Bl x=-(-(.ref a)))(l:Xr K a kvs):GV K x (.kd kvs):=
 #[.ref a,.ref a,e,rfl,λb H=>by simp only[RelD];show#[a,rfl,l],λc z=>by cases z]
end
inductive Sat {α:Type} (r:Res α) (P:α->Store->Prop):Prop
 |mk (a S) (_:r=.ok a S) (_:P a S):Sat r P
def Sat.ok{α:Type}{a:α}{S:Store}{P:α->Store->Prop}(h:P a S):Sat (.ok a S) P:=#[a,S,rfl,h]
def Sat.mono{α:Type}{r:Res α}{P Q:α->Store->Prop}(h:Sat r P)(b:∀a S,P a S->Q a S):Sat r Q:=by
 let(a,S,e,h):=h;exists a,S,e,b a S h
section
variable {α0 α1 α2 α3 α4:Type} {r:Res α0} {f1:α0->Store->Res α1} {f2:α1->Store->Res α2} {f3:α2->Store->Res α3} {f4:α3->Store->Res α4} {Q:α0->Store->Prop}
def Sat.p1{P:α1->Store->Prop}(h:Sat r Q)(k:∀a S,Q a S->Sat (f1 a S) P):Sat (r.bind f1) P:=by
 let(a,S,rfl,h):=h;show k a S h
end
@[simp]noncomputable def Wec(a:Fl)(S:Store):Res D:=match a with
 |.rt d=>.ok d S
 |.nx _=>.ok .non S
def Jqo{G:String->Option D}{a:Fn}{ds:List D}(b:T f=-a)(c:⇑ds=a.ps.length):
  callN T G W (n+1) f ds S=(evB (Cn T G W n) a.body (ds.map some++Gh (a.N.length-⇑ds) none) S).bind Wec:=by
 simp only[callN,b,if_pos c];congr 1
@[simp]theorem Jv1{G:String->Option D}:(Cn T G W n).call=callN T G W n:=rfl
def FlP(I:En->Store->Prop)(R:D->Store->Prop)(a:Fl)(S:Store):Prop:=match a with
 |.nx Z=>I Z S
 |.rt d=>R d S
def noR:D->Store->Prop:=λ_ _=>False
inductive NxI (I:En->Store->Prop) (fl:Fl) (S:Store):Prop
 |mk (Z) (_:fl=.nx Z) (_:I Z S):NxI I fl S
theorem FlP.nx{I:En->Store->Prop}(h:FlP I noR a S):NxI I a S:=by
 cases a with
 |nx Z=>exists Z,rfl,h
 |rt d=>show Bm h
theorem FlP.nr{I:En->Store->Prop}{R:D->Store->Prop}(h:FlP I R a S):(∃Z,a=.nx Z/\I Z S)\/∃d,a=.rt d/\R d S:=by
 cases a with
 |nx Z=>show .inl #[Z,rfl,h]
 |rt d=>show .inr #[d,rfl,h]
theorem Web{turn:D->En->Store->Res Fl}{g:Wk}{ds:List D}{R:D->Store->Prop}(I:Nat->En->Store->Prop)(same:∀i Z S,I i Z S->sameAt S g ⇑ds=true)
  (b:∀i Z S,i<⇑ds->I i Z S->∃d,nth S g ds i=-d/\Sat (turn d Z S) (FlP (I (i+1)) R)):
  ∀(n i:Nat) (Z:En) (S:Store),i+n=⇑ds->I i Z S->Sat (forL turn g ds n i Z S) (FlP (I ⇑ds) R):=by
 intro n
 induction n with
 |zero=>
  intro i Z S c h;let:i=⇑ds:=by lia
  subst this
  change Sat (@ite _ _ _ _ _) _
  rw[if_pos (same _ Z S h)];show .ok h
 |succ n f=>
  intro i Z S c h;let(d,e,q):=b i Z S 'l' h
  change Sat (@ite _ _ _ _ _) _
  rw[if_pos (same _ Z S h),e];show q.p1 λj k q=>?_;cases j with
  |nx a=>show f (i+1) a k 'l' q
  |rt d=>show .ok q
theorem Wcy{turn:D->En->Store->Res (Option D)}{g:Wk}{ds:List D}{Z:En}(I:Nat->List D->Store->Prop)(k:⇑ds<=Line)(same:∀i a S,I i a S->⇑a<=i/\sameAt S g ⇑ds=true)
  (f:∀i a S,i<⇑ds->I i a S->∃d,nth S g ds i=-d/\Sat (turn d Z S) λo b=>I (i+1) (a++o.toList) b):
  ∀(n i:Nat) (a:List D) (S:Store),i+n=⇑ds->I i a S->Sat (Ya turn g ds n i Z S a) (I ⇑ds):=by
 intro n
 induction n with
 |zero=>
  intro i a S j h;let:i=⇑ds:=by lia
  subst this
  change Sat (@ite _ _ _ _ _) _
  rw[if_pos (same _ a S h).2];show .ok h
 |succ n c=>
  intro i a S j h;let(d,e,q):=f i a S 'l' h
  change Sat (@ite _ _ _ _ _) _
  rw[if_pos (same _ a S h).2,e];show q.p1 λo b q=>?_;cases o with
  |none=>show c (i+1) a b 'l' (by erw[q])
  |some y=>
   have:=(same _ _ _ h).1;simp only[if_pos (show ⇑a<Line by lia)];show c (i+1) _ b 'l' q
section
variable {S:Store} {i j:Int} {a b:Bool} {x y:Str} {ds es:List D}
@[simp]theorem Jao:bop .sub (.int i) (.int j) S=.ok (.int (i-j)) S:=rfl
def Jcb(h:(small i||small j||(mid i&&mid j))=true):bop .mul (.int i) (.int j) S=.ok (.int (i*j)) S:=by
 delta bop
 dsimp only;show if_pos h
@[simp]theorem Jhv(h:small i=true):bop .mul (.int i) (.int j) S=.ok (.int (i*j)) S:=Jcb (by rw[h];rfl)
@[simp]theorem Jbh(h:small j=true):bop .mul (.int i) (.int j) S=.ok (.int (i*j)) S:=Jcb (by rw[h,Bool.or_true];rfl)
@[simp]theorem Jas(h:0<j):bop .mod (.int i) (.int j) S=.ok (.int (i%j)) S:=by
 delta bop
 dsimp only;show if_pos h
def Jzk{j:Int}(c:0<j)(d:j<2^250):0<j/\j.natAbs<2^4096:=by
 exists c,?_;let e:j.natAbs<2^250:=by
  let:(j.natAbs:Int)<(2^250:Nat):=by
   rw[Tj (by omega)]
   exact_mod_cast d
  exact_mod_cast this
 show F4 e (Nat.pow_lt_pow_right 'd' 'd')
@[simp]theorem Jej(h:0<=j):bop .shr (.int i) (.int j) S=.ok (.int (i/2^j.toNat)) S:=by
 delta bop
 dsimp only;show if_pos h
@[simp]theorem Jav(c:0<j)(d:j<2^250):bop .fdiv (.int i) (.int j) S=.ok (.int (i/j)) S:=by
 delta bop
 dsimp only;show if_pos (Jzk c d)
def Ji6(h:(decide (0<=j)&&decide (j<=1000000)&&decide (i.natAbs<2^64))=true):bop .pow (.int i) (.int j) S=.ok (.int (i^j.toNat)) S:=by
 delta bop
 dsimp only;show if_pos h
def Jau{k:Nat}(c:j=(k:Int))(e:k<=1000000)(d:i.natAbs<2^64):bop .pow (.int i) (.int j) S=.ok (.int (i^k)) S:=by
 subst c;rw[Ji6]
 .rfl
 .simp only[Am,decide_eq_true_eq];exists#[by omega,by omega],d
@[simp]theorem Jbb(c:S[l]? =-(.lst ds))(d:S[k]? =-(.lst es))(e:⇑ds+⇑es<=Line):bop .add (.loc l) (.loc k) S=.ok (.loc ⇑S) (S++[.lst (ds++es)]):=by
 delta bop;simp only[c,d,if_pos e]
def Jcc(c:⇑ds+⇑es<=Line):bop .add (.tup ds) (.tup es) S=.ok (.tup (ds++es)) S:=by
 delta bop;simp only[if_pos c]
def Jap(h:S[l]? =-(.lst ds)):Xh .len [.loc l] S=.ok (.int ⇑ds) S:=by delta Xh;simp only[Xm,seqAt,h]
def Jan(h:S[l]? =-(.lst ds)):Xh .tuple1 [.loc l] S=.ok (.tup ds) S:=by delta Xh;simp only[Xm,seqAt,h]
theorem Jjg{c:Type}(p:c->Int):∀xs:List c,sumI (xs.map λx=>D.int (p x))=some (xs.map p).sum
 |[]=>rfl
 |x::xs=>by simp only[Bf,sumI,Jjg p xs,Wt,Hx]
def Jbq{c:Type}(p:c->Int)(xs:List c):Xh .sum1 [.loc ⇑S] (S++[.lst (xs.map λx=>D.int (p x))])=.ok (.int (xs.map p).sum) (S++[.lst (xs.map λx=>D.int (p x))]):=by
 let h:(S++[Obj.lst (xs.map λx=>D.int (p x))])[⇑S]? =-(.lst (xs.map λx=>D.int (p x))):=by
  rw[Au (Aj _),Ff];rfl
 delta Xh;simp only[seqAt,h,Jjg]
@[simp]theorem Jaa:(S++[o])[⇑S]? =-o:=by
 rw[Au (Aj _),Ff];rfl
def Jab{l:Nat}{o:Obj}{X:Store}(h:S[l]? =-o):(S++X)[l]? =-o:=by
 rw[A0 (Ad.1 h).1];show h
def Ju6(h:atI ds i=-d):idxD (.tup ds) (.int i) S=-d:=by simp only[idxD,Xm,h]
def Ju7(c:S[l]? =-(.lst ds))(h:atI ds i=-d):idxD (.loc l) (.int i) S=-d:=by simp only[idxD,Xm,seqAt,c,h]
def Jyq(h:atI ds i=-d):idxD (.kl ds) (.int i) S=-d:=by simp only[idxD,Xm,h]
def Jzl{d:Type}{xs:List d}{i:Int}(e:0<=i)(f:i<⇑xs):∃x,atI xs i=-x/\x∈xs/\xs[i.toNat]? =-x:=by
 let c:i.toNat<⇑xs:=by omega
 exists xs[i.toNat],?_,Fi c,Ae c;simp only[atI,ixN,if_pos e,if_pos f,Hf];show Ae c
def Jvv{c:Type}{xs:List c}(d:k<⇑xs):atI xs (k:Int)=xs[k]? :=by
 let:(k:Int)<⇑xs:=by omega
 simp only[atI,ixN,if_pos (Nr k),if_pos this,Hf,Er]
def Jat(h:S[l]? =-(.lst ds))(c:⇑ds<Line):Xk .append (.loc l) [d] S=.ok .non (S.set l (.lst (ds++[d]))):=by delta Xk;simp only[h,if_pos c]
def Jih(h:S[l]? =-(.lst ds))(c:ixN ⇑ds i=-k):Xz (.loc l) (.int i) d S=.ok () (S.set l (.lst (ds.set k d))):=by simp only[Xz,h,c]
def Jpp(h:n<=1000000):n<=Line:=by unfold Line;omega
def Ja6(h:n<=1000000):n<Line:=by unfold Line;omega
end
@[simp]noncomputable def Wd2(o:Option (Option D))(S:Store):Res D:=match o with|some (-d)=>.ok d S|_=>.bad
@[simp]noncomputable def Wd3(o:Option D)(S:Store):Res D:=match o with|some d=>.ok d S|none=>.bad
def Jaz(x y:D)(S:Store):Res D:=match idxD x y S with|some d=>.ok d S|none=>.bad
@[simp]def kTru(d:D)(S:Store):Res Bool:=match tru S d with|some b=>.ok b S|none=>.bad
@[simp]def Wb2(o:Option (Option D))(S:Store):Res Bool:=match o with|some (-d)=>kTru d S|_=>.bad
noncomputable def rOk(j:Int):Bool:=match j with
 |.ofNat n=>Nat.ble n (2^62-1)
 |.negSucc n=>Nat.ble n (2^62-1)
theorem Jrl(j:Int):(decide (-(2^62:Int)<=j)&&decide (j<2^62))=rOk j:=by
 rw[Lz,Am,decide_eq_true_eq,decide_eq_true_eq];cases j with
 |ofNat n=>rw[rOk,Nat.ble_eq,Int.ofNat_eq_natCast];omega
 |negSucc n=>rw[rOk,Nat.ble_eq,Int.negSucc_eq];omega
def Zp(x:D)(S:Store):Res (Wk×List D):=match x with
 |.int j=>if rOk j then .ok (none,(Bz j.toNat).map λ(i:Nat)=>.int i) S else .bad
 |_=>.bad
@[simp]def Waz(x:D)(S:Store):Res (Wk×List D):=match x with
 |.tup a=>.ok (none,a) S
 |.kl a=>.ok (none,a) S
 |.loc l=>(match seqAt S l with|some a=>.ok (-(l,.lst),a) S|none=>.bad)
 |_=>.bad
def Wbp(x:D)(S:Store):Res (Wk×List D):=match x with
 |.loc l=>(match seqAt S l with|some a=>.ok (-(l,.enm),a) S|none=>.bad)
 |.tup a=>.ok (none,enD 0 a) S
 |_=>.bad
def Wbq(C:Pr)(keep:List Nat)(tg el:M)(Z:En)(x:D)(S:Store):Res D:=(frD x S).bind λw a=>(Ya (Xw C tg .nul el) none w.2 w.2.length 0 (Xt 1 keep Z) a []).bind (thD w.1)
@[simp]noncomputable def J0l(i:Nat)(Z:En)(x:Int)(y:D)(S:Store):Res Fl:=match y with|.int z=>.ok (.nx (Z.set i (-(.int (x+z))))) S|_=>.bad
@[simp]def Wcn(C:Pr)(i:Nat)(e:M)(Z:En)(o:Option (Option D))(S:Store):Res Fl:=match o with
 |some (-(.int x))=>(evE C e Z S).bind (J0l i Z x)
 |_=>.bad
def Wai(c f:String)(x:D)(S:Store):Res D:=match Zy S x c f with|some d=>.ok d S|none=>.bad
def Yr(C:Pr)(t b:M)(d:D)(Z:En)(S:Store):Res Fl:=(evG C t d Z S).bind (evB C b)
def kFor(C:Pr)(t b:M)(Z:En)(w:Wk×List D)(S:Store):Res Fl:=forL (Yr C t b) w.1 w.2 w.2.length 0 Z S
@[simp]noncomputable def Jyg(ys:List D)(S:Store):Res D:=.ok (.loc ⇑S) (S++[.lst ys])
def Za(C:Pr)(k:Nat)(keep:List Nat)(tg cd el:M)(Z:En)(w:Wk×List D)(S:Store):Res D:=(Ya (Xw C tg cd el) w.1 w.2 w.2.length 0 (Xt k keep Z) S []).bind Jyg
section
variable {C:Pr} {Z:En} {S:Store} {w:Bool} {d:D} {ds:List D} {i k:Nat} {keep:List Nat} {N:List String} {x f t:String} {a b c r as lo hi e s ts t':M} {it tg cd el:M} {o p:Cop} {q:Bop} {pr:Prim} {me:Meth}
@[simp]theorem Jzq:evI C (.rng a) Z S=(evE C a Z S).bind Zp:=by
 let:Zp=λx g=>match x with|.int j=>if decide (-(2^62:Int)<=j)&&decide (j<2^62)then .ok (none,(Bz j.toNat).map λ(i:Nat)=>D.int i) g else .bad|_=>.bad:=by
  funext x g;unfold Zp;cases x<;>simp only[Jrl]
 rw[this];rfl
@[simp]theorem Jwf:evG C (.tvar i) d Z S=if i<⇑Z then .ok (Z.set i (-d)) S else .bad:=rfl
@[simp]noncomputable def Wcm(y:D)(S:Store):Res (Option D):=.ok (-y) S
@[simp]def kEl(C:Pr)(el:M)(Z:En)(b:Bool)(S:Store):Res (Option D):=if b then(evE C el Z S).bind Wcm else .ok none S
@[simp]def kCd(C:Pr)(cd el:M)(Z:En)(S:Store):Res (Option D):=(evC C cd Z S).bind (kEl C el Z)
theorem Jof:Xw C tg cd el d Z S=(evG C tg d Z S).bind (kCd C cd el):=rfl
def Jd0{j:Int}(g: -(2^62:Int)<=j)(h:j<2^62):Zp (.int j) S=.ok (none,(Bz j.toNat).map λ(i:Nat)=>.int i) S:=by
 simp only[Zp];rw[if_pos (by rw[<-Jrl,Am,decide_eq_true_eq,decide_eq_true_eq];exists g,h)]
end
def Ext(S a:Store):Prop:=∃X,a=S++X
def Ext.refl(S:Store):Ext S S:=#[[],by simp]
def Ext.trans(a:Ext S c)(b:Ext c d):Ext S d:=by
 let(X,rfl):=a;let(Y,rfl):=b;exists X++Y,by rw[Ar]
def Ext.new(S X:Store):Ext S (S++X):=#[X,rfl]
def Ext.get{S a:Store}{l:Nat}{o:Obj}(e:Ext S a)(h:S[l]? =-o):a[l]? =-o:=by
 let(X,rfl):=e;show Jab h
def Ext.len{S a:Store}(e:Ext S a):⇑S<=⇑a:=by
 let(X,rfl):=e;simp
def Ext.set{S a:Store}(e:Ext S a)(h:⇑S<=l)(o:Obj):Ext S (a.set l o):=by
 let(X,rfl):=e;exists X.set (l-⇑S) o,by rw[List.set_append_right _ _ h]
def Jax{S:Store}(h:S[l]? =-o):l<⇑S:=(Ad.1 h).1
def Jaf{S:Store}(h:S[l]? =-o):(S.set l o')[l]? =-o':=Dv (Jax h)
def Ji8(S X:Store)(k:Nat):(S++X)[⇑S+k]? =X[k]? :=by
 rw[Au (Jn _ _),Ij]
@[simp]theorem Jgk{S:Store}:(S++(a0::X))[⇑S]? =-a0:=Ji8 S (a0::X) 0
@[simp]theorem Jkc{S:Store}:(S++(a0::a1::X))[⇑S+1]? =-a1:=by rw[Ji8];rfl
def Keep(ps:List Nat)(S a:Store):Prop:=⇑S<=⇑a/\∀l:Nat,l<⇑S->l∉ps->a[l]? =S[l]?
section
variable {S S1 S2 B:Store} {ps:List Nat}
def Keep.refl:Keep ps S S:=#[Aj _,λ_ _ _=>rfl]
def Keep.trans(a:Keep ps S S1)(b:Keep ps S1 S2):Keep ps S S2:=#[B3 a.1 b.1,λl h n=>(b.2 l (Bu h a.1) n).trans (a.2 l h n)]
def Keep.get(a:Keep ps S S1)(h:S[l]? =-o)(n:l∉ps):S1[l]? =-o:=(a.2 l (Jax h) n).trans h
def Keep.ext(e:Ext S S1):Keep ps S S1:=#[e.len,λl h n=>by
 rw[Ae h];show e.get (Ae h)]
def Keep.new(X:Store):Keep ps S (S++X):=.ext (.new _ _)
def Keep.set(h:p∈ps):Keep ps S (S.set p o):=#[by simp,λl a n=>by
 rw[A1];rintro rfl;show n h]
def Keep.mono(a:Keep ps S S1)(h:∀p∈ps,p∈b):Keep b S S1:=#[a.1,λl c n=>a.2 l c λz=>n (h l z)]
def Keep.less(a:Keep ps S S1)(h:∀p∈ps,p∈b\/⇑S<=p):Keep b S S1:=#[a.1,λl c n=>a.2 l c λz=>(h l z).elim n 'l']
def Ext.of(k:Keep [] S S1):Ext S S1:=by
 exists S1.drop ⇑S,G9 λi=>?_;let:=k.1
 by_cases a:i<⇑S
 .rw[A0 a];show k.2 i a 's'
 .rw[Au 'l',T5];congr 1;lia
def Ext.keep(e:Ext B S)(k:Keep ps S S1)(h:∀p∈ps,⇑B<=p):Ext B S1:=.of (((Keep.ext (ps:=ps) e).trans k).less λp hp=>.inr (h p hp))
end
section
variable {C:Pr} {t b:M} {ds:List D} {S:Store} {Z:En} {g:Wk}
def Y8(I:Nat->En->Store->Prop)(R:D->Store->Prop)(a:I 0 Z S)(same:∀i Z S,I i Z S->sameAt S g ⇑ds=true)
  (c:∀i Z S,i<⇑ds->I i Z S->∃d,nth S g ds i=-d/\Sat (Yr C t b d Z S) (FlP (I (i+1)) R)):Sat (kFor C t b Z (g,ds) S) (FlP (I ⇑ds) R):=Web I same c _ 0 Z S 's' a
def loop(I:Nat->En->Store->Prop)(R:D->Store->Prop)(c:I 0 Z S)(e:∀i d Z S,ds[i]? =-d->I i Z S->Sat (Yr C t b d Z S) (FlP (I (i+1)) R)):Sat (kFor C t b Z (none,ds) S) (FlP (I ⇑ds) R):=
 Y8 I R c (λ_ _ _ _=>rfl) λi Z S a h=>#[ds[i],Ae a,e i _ Z S (Ae a) h]
def Jcr(h:S[l]? =-(.lst ds)):sameAt S (-(l,k)) ⇑ds=true:=by simp[sameAt,h]
def Wag(I:Nat->En->Store->Prop)(R:D->Store->Prop)(e:I 0 Z S)(a:∀i Z S,I i Z S->S[l]? =-(.lst ds))(f:∀i d Z S,ds[i]? =-d->I i Z S->Sat (Yr C t b d Z S) (FlP (I (i+1)) R)):Sat (kFor C t b Z (-(l,.lst),ds) S) (FlP (I ⇑ds) R):=
 Y8 I R e (λi Z S h=>Jcr (a i Z S h)) λi Z S c h=>#[ds[i],by simp[nth,seqAt,a i Z S h,c],f i _ Z S (Ae c) h]
def Wcj(I:Nat->En->Store->Prop)(R:D->Store->Prop)(e:I 0 Z S)(a:∀i Z S,I i Z S->S[l]? =-(.lst ds))(f:∀i d Z S,ds[i]? =-d->I i Z S->Sat (Yr C t b (.tup [.int i,d]) Z S) (FlP (I (i+1)) R)):Sat (kFor C t b Z (-(l,.enm),ds) S) (FlP (I ⇑ds) R):=
 Y8 I R e (λi Z S h=>Jcr (a i Z S h)) λi Z S c h=>#[.tup [.int i,ds[i]],by simp[nth,seqAt,a i Z S h,c],f i _ Z S (Ae c) h]
def Wbb(I:Nat->En->Store->Prop)(R:D->Store->Prop)(e:I 0 Z S)(a:∀i Z S,I i Z S->S[l]? =-(.lst ds))(f:∀i d Z S,ds.reverse[i]? =-d->I i Z S->Sat (Yr C t b d Z S) (FlP (I (i+1)) R)):Sat (kFor C t b Z (-(l,.rev),ds.reverse) S) (FlP (I ds.reverse.length) R):=
 Y8 I R e (λi Z S h=>by rw[Jw];show Jcr (a i Z S h)) λi Z S c h=>#[ds.reverse[i],by simp only[nth,seqAt,a i Z S h,Ae c],f i _ Z S (Ae c) h]
def comp(I:Nat->List D->Store->Prop)(f:⇑ds<=Line)(j:I 0 [] S)(same:∀i a S,I i a S->⇑a<=i/\sameAt S g ⇑ds=true)
  (l:∀i a S,i<⇑ds->I i a S->∃d,nth S g ds i=-d/\Sat (Xw C tg cd el d (Xt k keep Z) S) λo e=>I (i+1) (a++o.toList) e):
  Sat (Za C k keep tg cd el Z (g,ds) S) λd e=>∃ys c,I ⇑ds ys c/\d=.loc ⇑c/\e=c++[.lst ys]:=
 (Wcy I f same l _ 0 [] S 's' j).p1 λys c h=>.ok #[ys,c,h,rfl,rfl]
def Jf6{n:Type}{xs:List n}(h:n->D)(f:n->Option D)(s:⇑xs<=1000000)(r:g=none\/∃l,g=-(l,.lst)/\S[l]? =-(.lst (xs.map h)))
  (u:∀x∈xs,Xw C tg cd el (h x) (Xt k keep Z) S=.ok (f x) S):Za C k keep tg cd el Z (g,xs.map h) S=.ok (.loc ⇑S) (S++[.lst (xs.filterMap f)]):=by
 obtain⟨d,c,e,w,y,⟨rfl,rfl⟩,rfl,rfl⟩:=comp (C:=C) (g:=g) (S:=S) (Z:=Z) (k:=k) (keep:=keep) (tg:=tg) (cd:=cd) (el:=el) (ds:=xs.map h) (λi a c=>a=(xs.take i).filterMap f/\c=S) (by rw[Ag];show Jpp s) #[by simp,rfl]
  (λi a c #[o,j]=>#[by rw[o];show B3 (List.length_filterMap_le _ _) 'm',by rcases r with rfl|⟨l,rfl,p⟩<;>first|rfl|(rw[j];show Jcr p)])
  (λi a c v #[o,j]=>by
   let m:i<⇑xs:=by erw[v]
   exists h xs[i],?_,?_
   .rcases r with rfl|⟨l,rfl,p⟩
    .simp[nth,m]
    .simp[nth,seqAt,j,p,m]
   .rw[j,u _ (Fi m)];show .ok #[?_,rfl];rw[o,C5,Ae m,R8];simp only[Pz,Ge,List.filterMap_nil];cases f xs[i]<;>rfl)
 rw[e,show(xs.map h).length=⇑xs by simp,Gg]
def Ja1{a:Type}{xs:List a}(h:a->D)(f:a->D)(c:⇑xs<=1000000)(d:g=none\/∃l,g=-(l,.lst)/\S[l]? =-(.lst (xs.map h)))
  (e:∀x∈xs,Xw C tg cd el (h x) (Xt k keep Z) S=.ok (-(f x)) S):Za C k keep tg cd el Z (g,xs.map h) S=.ok (.loc ⇑S) (S++[.lst (xs.map f)]):=by
 rw[Jf6 h (λx=>-(f x)) c d e];simp
def Ju2{keep:List Nat}{tg el:M}{l:Nat}{kvs:List (Rdu.PK×D)}(f:Rdu.PK×D->D)(h:S[l]? =-(.dtu kvs))(d:⇑kvs<=1000000)
  (e:∀p∈kvs,Xw C tg .nul el p.2 (Xt 1 keep Z) (S.set l (.fz kvs))=.ok (-(f p)) (S.set l (.fz kvs))):Wbq C keep tg el Z (.loc l) S=.ok (.loc ⇑S) (S++[.lst (kvs.map f)]):=by
 let a:=(Ad.1 h).1;let(m,n,c,i):=Ch (Ja1 (·.2) f d (.inl rfl) e);injection i with _ j;let(rfl,k):=Uv j rfl;cases k;simp only[Wbq,frD,dtAt,h,Res.bind_ok];let c:Ya (Xw C tg .nul el) none (kvs.map (·.2)) (kvs.map (·.2)).length 0 (Xt 1 keep Z) (S.set l (.fz kvs)) []=.ok (kvs.map f) (S.set l (.fz kvs)):=c;rw[c];simp only[Res.bind_ok,thD,Dv a];rw[List.set_append_left _ _ (by erw[a]),Rk,F1,show S.set l (.dtu kvs)=S by rw[<-(Ad.1 h).2];show R6 a]
def Jrg(h:S[l]? =-(.lst ds)):rvD (.loc l) S=.ok (-(l,.rev),ds.reverse) S:=by simp only[rvD,seqAt,h]
end
section
variable {S:Store} {l:Nat} {ds:List D} {d:D} {i:Int}
def Jj0(e:atI ds i=-d):Jaz (.tup ds) (.int i) S=.ok d S:=by simp only[Jaz,Ju6 e]
def Jak(h:S[l]? =-(.lst ds))(e:atI ds i=-d):Jaz (.loc l) (.int i) S=.ok d S:=by simp only[Jaz,Ju7 h e]
def at0{b:Type}{a:b}{r:List b}{k:Nat}{x:b}(h:(a::r)[k]? =-x):atI (a::r) (k:Int)=-x:=by rw[Jvv (Ad.1 h).1];show h
@[simp]theorem Jf5{a:D}:Jaz (.tup (a::ds)) (.int 0) S=.ok a S:=Jj0 (at0 (k:=0) rfl)
def J03{c:Type}{xs:List c}(e:0<=i)(f:i<⇑xs):∃x,atI xs i=-x/\x∈xs:=let#[x,a,b,_]:=Jzl e f;#[x,a,b]
def Jqt{a:Type}{xs:List a}{x:a}:atI (xs++[x]) (-1)=-x:=by
 let b:¬(0:Int)<= -1:=by decide
 let c: -(((xs++[x]).length:Nat):Int)<= -1:=by simp;lia
 simp only[atI,ixN,if_neg b,if_pos c,Hf];let:(-1+(((xs++[x]).length:Nat):Int)).toNat=⇑xs:=by simp;lia
 rw[this];simp
def Jpt{a:Type}{xs:List a}{x:a}:ixN (xs++[x]).length (-1)=-⇑xs:=by
 let b:¬(0:Int)<= -1:=by decide
 let c: -(((xs++[x]).length:Nat):Int)<= -1:=by simp;lia
 simp only[ixN,if_neg b,if_pos c];congr 1;simp;lia
def Jci(h:S[l]? =-(.lst (ds++[d]))):Jaz (.loc l) (.int (-1)) S=.ok d S:=Jak h Jqt
def Joq{e:D}(h:S[l]? =-(.lst (ds++[d]))):Xz (.loc l) (.int (-1)) e S=.ok () (S.set l (.lst (ds++[e]))):=by
 rw[Jih h Jpt];simp
def Jf0(h:S[l]? =-(.lst (ds++[d]))):Xk .pop0 (.loc l) [] S=.ok d (S.set l (.lst ds)):=by
 let:(ds++[d])[(ds++[d]).length-1]? =-d:=by simp
 delta Xk;simp only[h,this,List.dropLast_concat]
def Jif(h:S[l]? =-(.lst ds)):tru S (.loc l)=-(!ds.isEmpty):=by
 change(match seqAt S l with|some ds=>-(!ds.isEmpty)|none=>none)=_;rw[show seqAt S l=-ds by unfold seqAt;rw[h]]
def set_same(h:S[l]? =-o):S.set l o=S:=by
 let(a,rfl):=Ad.1 h;show R6 a
def Jda(h:S[l]? =-(.lst ds)):Yh (.loc l) lo a S=.ok (.loc ⇑S) (S++[.lst (cutD ds lo a)]):=by simp only[Yh,seqAt,h]
def Jgg(a:0<=i):cutD ds (-i) none=ds.drop i.toNat:=by
 simp only[cutD,HT.sIx];rw[if_neg 'l']
 by_cases h:i.toNat<=⇑ds
 .rw[show min i.toNat ⇑ds=i.toNat by lia];rw[By (by rw[Jg];lia)]
 .rw[Gp (by lia:⇑ds<=i.toNat),Gp 'l',List.take_nil]
def Jj8(a:0<=i):cutD ds none (-i)=ds.take i.toNat:=by
 simp only[cutD,HT.sIx];rw[if_neg 'l'];simp only[V0,Lx]
 by_cases h:i.toNat<=⇑ds
 .rw[show min i.toNat ⇑ds=i.toNat by lia]
 .rw[show min i.toNat ⇑ds=⇑ds by lia,By (Aj _),By 'l']
variable {kvs:List (Int×D)} {cs:List (Rdu.PK×D)} {fs:List (String×D)} {c f m:String} {x:Int} {p:Rdu.PK}
def Jbi(h:S[l]? =-(.lst ds)):seqAt S l=-ds:=by unfold seqAt;rw[h]
def Ja5(a:isDm me=false)(h:S[l]? =-(.lst ds)):rcv me S (.loc l)=true:=by simp[rcv,a,Jbi h]
def Jf9(h:S[l]? =-(.ins c fs)):Yt S l c=-fs:=by unfold Yt;rw[h];simp
def Jbv(h:S[l]? =-(.ins c fs))(e:fs.lookup f=-d):Wai c f (.loc l) S=.ok d S:=by simp only[Wai,Zy,Jf9 h,e]
def Jp0(h:S[l]? =-(.ins c fs))(e:fs.lookup m=none):isRec S (.loc l) c m=true:=by simp only[isRec,Jf9 h,e,Option.isNone_none]
def Jvo(h:S[l]? =-(.dct kvs)):cop .inn (.int x) (.loc l) S=some (dVal kvs x).isSome:=by simp[cop,Xm,seqAt,h,dIn,Y3]
theorem kyK:kyD (dK p)=-p:=rfl
def Jvn(h:S[l]? =-(.dtu cs)):cop .inn (dK p) (.loc l) S=some (dVal cs p).isSome:=by simp[cop,Xm,seqAt,h,dIn,Y3,kyK]
def Jqk(h:S[l]? =-(.dtu cs)):cop .nin (dK p) (.loc l) S=-(!(dVal cs p).isSome):=by simp[cop,Xm,seqAt,h,dIn,Y3,kyK]
def Jf4(h:S[l]? =-(.dtu cs))(e:dVal cs p=-d):Jaz (.loc l) (dK p) S=.ok d S:=by simp[Jaz,idxD,Xm,seqAt,h,Y3,kyK,e]
def Jos(h:S[l]? =-(.dct kvs))(a:⇑kvs<Line):Xz (.loc l) (.int x) v S=.ok () (S.set l (.dct (dPut kvs x v))):=by simp only[Xz,h,if_pos a]
def Jor(h:S[l]? =-(.dtu cs))(a:⇑cs<Line):Xz (.loc l) (dK p) v S=.ok () (S.set l (.dtu (dPut cs p v))):=by simp only[Xz,h,kyK,if_pos a]
def Wat(a:isDm me=true)(h:S[l]? =-(.dtu cs)):rcv me S (.loc l)=true:=by simp[rcv,a,dtAt,h]
def Jmu(h:S[l]? =-(.dtu cs)):Xk .get1 (.loc l) [dK p] S=.ok ((dVal cs p).getD .non) S:=by delta Xk;simp[Y3,h,kyK]
def Jms(h:S[l]? =-(.dtu cs))(e:dVal cs p=-d):Xk .pop1 (.loc l) [dK p] S=.ok d (S.set l (.dtu (dDrop cs p))):=by delta Xk;simp[h,kyK,e]
def Jmr(h:S[l]? =-(.dct kvs))(e:dVal kvs x=-d):Xk .pop1 (.loc l) [.int x] S=.ok d (S.set l (.dct (dDrop kvs x))):=by delta Xk;simp[h,e]
def Ju0(h:S[l]? =-(.dct kvs)):Xh .len [.loc l] S=.ok (.int ⇑kvs) S:=by delta Xh;simp[Xm,seqAt,h,dctAt]
def Jpo(h:S[l]? =-(.dct kvs)):Xh .list1 [.loc l] S=.ok (.loc ⇑S) (S++[.lst (kvs.map λp=>.int p.1)]):=by delta Xh;simp[Xm,seqAt,h,dctAt]
def Jge(h:S[l]? =-(.dct kvs)):Xh .dict1 [.loc l] S=.ok (.loc ⇑S) (S++[.dct kvs]):=by delta Xh;simp[h]
def Jdd(h:S[l]? =-(.dtu cs))(a:aptB (cs.map (·.1))=true):Xh .dict1 [.loc l] S=.ok (.loc ⇑S) (S++[.dtu cs]):=by delta Xh;simp[h,a]
def Jln{ps:List Rdu.PK}(h:Wah S l=-ps)(a:aptB ps=true)(b:⇑ps<Line):Xh .sort1 [.loc l] S=.ok (.loc ⇑S) (S++[.lst ((srK ps).map dK)]):=by delta Xh;simp[h,a,b]
def Jji(h:S[l]? =-(.dtu cs))(a:aptB (cs.map (·.1))=true)(b:⇑cs<Line):Xh .sort1 [.loc l] S=.ok (.loc ⇑S) (S++[.lst ((srK (cs.map (·.1))).map dK)]):=Jln (by simp[Wah,dtAt,h]) a (by erw[b])
def Jp3(h:S[l]? =-(.dtu cs))(a:aptB (cs.map (·.1))=true)(b:⇑cs<Line):Wal (.loc l) S=.ok (.loc ⇑S) (S++[.dtu (srD cs)]):=by simp[Wal,dtAt,h,a,b]
def Jm3(h:S[l]? =-(.lst ds)):Wbp (.loc l) S=.ok (-(l,.enm),ds) S:=by simp only[Wbp,Jbi h]
end
def Do{b:Type}(r:Res b)(Q:b->Store->Prop):Prop:=match r with
 |.ok a S=>Q a S
 |_=>False
def If(b:Bool)(A B:Prop):Prop:=match b with
 |true=>A
 |false=>B
def Op{b:Type}(o:Option b)(Q:b->Prop):Prop:=match o with
 |some a=>Q a
 |none=>False
@[irreducible]noncomputable def hd{a:Type}(x:a):a:=(Sf (#[#[x,rfl]]:Nonempty {y//y=x})).1
def Jc5{a:Type}(x:a):hd x=x:=by unfold hd;show(Sf (#[#[x,rfl]]:Nonempty {y//y=x})).2
abbrev cl(C:Pr)(f:String)(ds:List D)(S:Store):Res D:=hd C.call f ds S
def hb(o:Bop)(x y:D)(S:Store):Res D:=match o with
 |.add=>bop .add x y S
 |o=>hd (bop o x y S)
def hc(o:Cop)(x y:D)(S:Store):Option Bool:=match o with
 |.inn=>hd (cop .inn x y S)
 |.nin=>hd (cop .nin x y S)
 |o=>cop o x y S
noncomputable def short:Nat->List D->Bool
 |_,[]=>true
 |n+1,_::r=>short n r
 |0,_::_=>false
def putE:Nat->D->En->(En->Prop)->Prop
 |0,d,_::r,k=>k (-d::r)
 |i+1,d,x::r,k=>putE i d r λa=>k (x::a)
 |_,_,[],_=>False
def mkE:List D->Nat->(En->Prop)->Prop
 |d::ds,n+1,k=>mkE ds n λr=>k (-d::r)
 |[],n+1,k=>mkE [] n λr=>k (none::r)
 |[],0,k=>k []
 |_::_,0,_=>False
mutual
def wE(C:Pr):M->En->Store->(D->Store->Prop)->Prop
 |.cst d,_,S,Q=>Q d S
 |.var i,Z,S,Q=>Op ((Z[i]?).join) λd=>Q d S
 |.glb x,_,S,Q=>Op (C.glob x) λd=>Q d S
 |.bin o a b,Z,S,Q=>wE C a Z S λx e=>wE C b Z e λy g=>Do (hb o x y g) Q
 |.neg a,Z,S,Q=>wE C a Z S λx e=>match x with|.int i=>Q (.int (-(i:Int))) e|_=>False
 |.bit a,Z,S,Q=>wE C a Z S λx e=>match x with|.int i=>Q (.int (B4 i)) e|_=>False
 |.nott a,Z,S,Q=>wE C a Z S λx e=>Op (tru e x) λb=>Q (.bl (!b)) e
 |.bo w as,Z,S,Q=>wBV C w as Z S Q
 |.cmp o a b,Z,S,Q=>wE C a Z S λx e=>wE C b Z e λy g=>Op (hc o x y g) λk=>Q (.bl k) g
 |.cmp2 o p a b c,Z,S,Q=>wE C a Z S λx e=>wE C b Z e λy g=>Op (hc o x y g) λk=>If k (wE C c Z g λz j=>Op (hc p y z j) λk=>Q (.bl k) j) (Q (.bl false) g)
 |.ife c a b,Z,S,Q=>wT C c Z S λk e=>If k (wE C a Z e Q) (wE C b Z e Q)
 |.tup as,Z,S,Q=>wA C as Z S λds e=>If (short 100 ds) (Q (.tup ds) e) False
 |.lst as,Z,S,Q=>wA C as Z S λds e=>If (short 100 ds) (Q (.loc ⇑e) (e++[.lst ds])) False
 |.idx a b,Z,S,Q=>wE C a Z S λx e=>wE C b Z e λy g=>Do (Jaz x y g) Q
 |.sli a lo n,Z,S,Q=>wE C a Z S λx e=>wO C lo Z e λl g=>wO C n Z g λh j=>Do (hd (Yh x l h j)) Q
 |.call f as,Z,S,Q=>wA C as Z S λds e=>Do (cl C f ds e) Q
 |.prim p as,Z,S,Q=>wA C as Z S λds e=>Do (Xh p ds e) Q
 |.isi a t,Z,S,Q=>wE C a Z S λx e=>Op (tyD e x) λy=>Q (.bl (isiD y t)) e
 |.meth p o as,Z,S,Q=>wE C o Z S λx e=>If (rcv p e x) (wA C as Z e λds g=>Do (hd (Xk p x ds g)) Q) False
 |.comp _ k keep tg it cd el,Z,S,Q=>wI C it Z S λw e=>Do (Za C k keep tg cd el Z w e) Q
 |.dcm _ keep tg a el,Z,S,Q=>wE C a Z S λx e=>Do (Wbq C keep tg el Z x e) Q
 |.dnil 0,_,S,Q=>Q (.loc ⇑S) (S++[.dct []])
 |.dnil 1,_,S,Q=>Q (.loc ⇑S) (S++[.dtu []])
 |.dnil (_+2),_,S,Q=>Q (.loc ⇑S) (S++[.rg []])
 |.hld a,Z,S,Q=>wE C a Z S λx e=>Do (Wal x e) Q
 |.lsp a,Z,S,Q=>wE C a Z S λx e=>Do (Waf x e) Q
 |.fld c f a,Z,S,Q=>wE C a Z S λx e=>Do (Wai c f x e) Q
 |.mcl c m f o as,Z,S,Q=>wE C o Z S λx e=>If (isRec e x c m) (wA C as Z e λds g=>Do (cl C f (x::ds) g) Q) False
 |.new c f,_,S,Q=>Do (cl C f [.loc ⇑S] (S++[.ins c []])) λd e=>match d with|.non=>Q (.loc ⇑S) e|_=>False
 |_,_,_,_=>False
def wT(C:Pr):M->En->Store->(Bool->Store->Prop)->Prop
 |.nott a,Z,S,Q=>wT C a Z S λb e=>Q (!b) e
 |.bo w as,Z,S,Q=>wBT C w as Z S Q
 |.cmp o a b,Z,S,Q=>wE C a Z S λx e=>wE C b Z e λy g=>Op (hc o x y g) λk=>Q k g
 |.cmp2 o p a b c,Z,S,Q=>wE C a Z S λx e=>wE C b Z e λy g=>Op (hc o x y g) λk=>If k (wE C c Z g λz h=>Op (hc p y z h) λk=>Q k h) (Q false g)
 |.var i,Z,S,Q=>Op ((Z[i]?).join) λd=>Op (tru S d) λb=>Q b S
 |.idx a b,Z,S,Q=>wE C a Z S λx e=>wE C b Z e λy g=>Do (Jaz x y g) λd h=>Op (tru h d) λb=>Q b h
 |.call f as,Z,S,Q=>wA C as Z S λds e=>Do (cl C f ds e) λd g=>Op (tru g d) λb=>Q b g
 |.prim p as,Z,S,Q=>wA C as Z S λds e=>Do (Xh p ds e) λd g=>Op (tru g d) λb=>Q b g
 |.isi a t,Z,S,Q=>wE C a Z S λx e=>Op (tyD e x) λy=>Q (isiD y t) e
 |.mcl c m f o as,Z,S,Q=>wE C o Z S λx e=>If (isRec e x c m) (wA C as Z e λds g=>Do (cl C f (x::ds) g) λd h=>Op (tru h d) λb=>Q b h) False
 |_,_,_,_=>False
def wBV(C:Pr)(w:Bool):M->En->Store->(D->Store->Prop)->Prop
 |.cns a .nul,Z,S,Q=>wE C a Z S Q
 |.cns a (.cns b r),Z,S,Q=>wE C a Z S λx d=>match x with|.bl c=>If c (If w (wBV C w (.cns b r) Z d Q) (Q (.bl true) d)) (If w (Q (.bl false) d) (wBV C w (.cns b r) Z d Q))|_=>False
 |_,_,_,_=>False
def wBT(C:Pr)(w:Bool):M->En->Store->(Bool->Store->Prop)->Prop
 |.cns a .nul,Z,S,Q=>wT C a Z S Q
 |.cns a (.cns b r),Z,S,Q=>wT C a Z S λc d=>If c (If w (wBT C w (.cns b r) Z d Q) (Q true d)) (If w (Q false d) (wBT C w (.cns b r) Z d Q))
 |_,_,_,_=>False
def wA(C:Pr):M->En->Store->(List D->Store->Prop)->Prop
 |.nul,_,S,Q=>Q [] S
 |.cns a b,Z,S,Q=>wE C a Z S λx c=>wA C b Z c λxs d=>Q (x::xs) d
 |_,_,_,_=>False
def wO(C:Pr):M->En->Store->(Option Int->Store->Prop)->Prop
 |.nul,_,S,Q=>Q none S
 |.cns a .nul,Z,S,Q=>wE C a Z S λx b=>match x with|.int i=>Q (-i) b|_=>False
 |_,_,_,_=>False
def wI(C:Pr):M->En->Store->(Wk×List D->Store->Prop)->Prop
 |.rng a,Z,S,Q=>wE C a Z S λx c=>Do (Zp x c) Q
 |.cns a .nul,Z,S,Q=>wE C a Z S λx c=>Do (Waz x c) Q
 |.enm a,Z,S,Q=>wE C a Z S λx c=>Do (Wbp x c) Q
 |.zp a b,Z,S,Q=>wE C a Z S λx c=>wE C b Z c λy d=>Do (zpD x y d) Q
 |.rvi a,Z,S,Q=>wE C a Z S λx c=>Do (rvD x c) Q
 |_,_,_,_=>False
def wG(C:Pr):M->D->En->Store->(En->Store->Prop)->Prop
 |.tvar i,d,Z,S,Q=>putE i d Z λc=>Q c S
 |.ttup ts,d,Z,S,Q=>match d with|.tup ds=>wGs C ts ds Z S Q|_=>False
 |.tsub a b,d,Z,S,Q=>wE C a Z S λo e=>wE C b Z e λi f=>Do (Xz o i d f) λ_ g=>Q Z g
 |_,_,_,_,_=>False
def wGs(C:Pr):M->List D->En->Store->(En->Store->Prop)->Prop
 |.nul,ds,Z,S,Q=>match ds with|[]=>Q Z S|_=>False
 |.cns t ts,ds,Z,S,Q=>match ds with|d::r=>wG C t d Z S λa b=>wGs C ts r a b Q|[]=>False
 |_,_,_,_,_=>False
def wS(C:Pr):M->En->Store->(En->Store->Prop)->(D->Store->Prop)->Prop
 |.asg t e,Z,S,k,_=>wE C e Z S λd g=>wG C t d Z g k
 |.aug i e,Z,S,k,_=>Op ((Z[i]?).join) λd=>match d with
  |.int x=>wE C e Z S λy g=>(match y with|.int z=>putE i (.int (x+z)) Z λh=>k h g|_=>False)
  |_=>False
 |.ifs c a b,Z,S,k,R=>wT C c Z S λz g=>If z (wB C a Z g k R) (wB C b Z g k R)
 |.forr t i b,Z,S,k,R=>wI C i Z S λw g=>Do (kFor C t b Z w g) (FlP k R)
 |.ret e,Z,S,_,R=>wE C e Z S R
 |.exp e,Z,S,k,_=>wE C e Z S λ_ g=>k Z g
 |.sfd c f o v,Z,S,k,_=>wE C v Z S λy g=>wE C o Z g λx j=>Op (Z1 j x c f y) λl=>k Z l
 |_,_,_,_,_=>False
def wB(C:Pr):M->En->Store->(En->Store->Prop)->(D->Store->Prop)->Prop
 |.nul,Z,S,k,_=>k Z S
 |.cns s r,Z,S,k,R=>wS C s Z S (λa b=>wB C r a b k R) R
 |_,_,_,_,_=>False
end
end Mi
namespace Mi
open PySem L2
section
variable {α β:Type} {r:Res α} {f:α->Store->Res β} {P:α->Store->Prop} {Q:β->Store->Prop} {C:Pr}
theorem Do.b(h:Do r P)(k:∀a S,P a S->Do (f a S) Q):Do (r.bind f) Q:=by
 cases r with
 |ok a S=>show k a S h
 |_=>show Bm h
theorem If.b{b:Bool}{A B:Prop}{β:Type}{x y:Res β}{Q:β->Store->Prop}(h:If b A B)(f:A->Do x Q)(g:B->Do y Q):Do (if b then x else y) Q:=by
 cases b with
 |true=>show f h
 |false=>show g h
def tr_{Q:Bool->Store->Prop}:(Op (tru S d) λb=>Q b S)->Do (match tru S d with|some b=>.ok b S|none=>.bad) Q:=by cases tru S d<;>show id
theorem Jjl:∀{n:Nat} {ds:List D},short n ds=true->⇑ds<=n
 |_,[],_=>Dk _
 |n+1,_::r,h=>Nat.succ_le_succ (Jjl (ds:=r) h)
 |0,_::_,h=>fx9 h
theorem If.s{ds:List D}{A:Prop}(h:If (short 100 ds) A False):⇑ds<=Line/\A:=by
 cases e:short 100 ds with
 |true=>rw[e]at h;exists B3 (Jjl e) 'd',h
 |false=>rw[e]at h;show Bm h
def Jp5:hc=cop:=by funext o x y S;cases o<;>first|rfl|show Jc5 _
theorem Jim:∀{Z:En} {k:En->Prop},putE i d Z k->i<⇑Z/\k (Z.set i (-d)):=by
 induction i with
 |zero=>intro Z k h;cases Z with
  |nil=>show Bm h
  |cons x r=>exists Fe _,h
 |succ i a=>intro Z k h;cases Z with
  |nil=>show Bm h
  |cons x r=>exists Vc (a h).1,(a h).2
end
theorem Jmp:∀{ds:List D} {n:Nat} {k:En->Prop},mkE ds n k->k (ds.map some++Gh (n-⇑ds) none)
 |d::ds,n+1,k,h=>by rw[Bh,Nat.add_sub_add_right];show Jmp (ds:=ds) h
 |[],0,k,h=>h
 |[],n+1,k,h=>Jmp (ds:=[]) (n:=n) h
 |_::_,0,_,h=>Bm h
section
variable {C:Pr}
mutual
theorem sE:∀(m:M) {Z:En} {S:Store} {Q:D->Store->Prop},wE C m Z S Q->Do (evE C m Z S) Q:=by
 intro m Z S Q;cases m with
 |cst d=>show λh=>h
 |var i=>change Op (Z[i]?).join _->Do (Wd2 Z[i]? S) Q;rcases Z[i]? with _|_|_<;>show id
 |glb x=>change Op (C.glob x) _->Do (Wd3 (C.glob x) S) Q;cases C.glob x<;>show id
 |bin o a b=>show λh=>(sE a h).b λ_ _ h=>(sE b h).b λ_ _ h=>by cases o<;>first|show h|(unfold hb at h;dsimp only at h;rw[Jc5]at h;show h)
 |neg a=>show λh=>(sE a h).b λx _ h=>by cases x<;>show h
 |bit a=>show λh=>(sE a h).b λx _ h=>by cases x<;>show h
 |nott a=>show λh=>(sE a h).b λx S h=>by revert h;cases tru S x<;>show id
 |bo w as=>show sBV as
 |cmp o a b=>show λh=>(sE a h).b λx _ h=>(sE b h).b λy S h=>by rw[Jp5]at h;revert h;cases cop o x y S<;>show id
 |cmp2 o p a b c=>
  show λh=>(sE a h).b λx _ h=>(sE b h).b λy g h=>?_;rw[Jp5]at h;revert h;rcases cop o x y g with _|_|_
  .show id
  .show id
  .show λh=>(sE c h).b λz S h=>by revert h;cases cop p y z S<;>show id
 |ife c a b=>show λh=>(sT c h).b λ_ _ h=>If.b h (sE a) (sE b)
 |tup as=>show λh=>(sA as h).b λ_ _ h=>by rw[if_pos h.s.1];show h.s.2
 |lst as=>show λh=>(sA as h).b λ_ _ h=>by rw[if_pos h.s.1];show h.s.2
 |idx a b=>show λh=>(sE a h).b λ_ _ h=>(sE b h).b λ_ _ h=>h
 |sli a lo j=>show λh=>(sE a h).b λ_ _ h=>(sO lo h).b λ_ _ h=>(sO j h).b λ_ _ h=>by rw[Jc5]at h;show h
 |call f as=>show λh=>(sA as h).b λ_ _ h=>by rw[cl,Jc5]at h;show h
 |prim p as=>show λh=>(sA as h).b λ_ _ h=>h
 |isi a t=>show λh=>(sE a h).b λx S h=>by revert h;cases tyD S x<;>show id
 |meth p o as=>show λh=>(sE o h).b λ_ _ h=>If.b h (λh=>(sA as h).b λ_ _ h=>by rw[Jc5]at h;show h) Bm
 |comp N k e l n cd r=>show λh=>(sI n h).b λ_ _ h=>h
 |dcm N e l a r=>show λh=>(sE a h).b λ_ _ h=>h
 |dnil k=>rcases k with _|_|k<;>show λh=>h
 |hld a=>show λh=>(sE a h).b λ_ _ h=>h
 |lsp a=>show λh=>(sE a h).b λ_ _ h=>h
 |fld c f a=>show λh=>(sE a h).b λ_ _ h=>h
 |mcl c m f o as=>show λh=>(sE o h).b λ_ _ h=>If.b h (λh=>(sA as h).b λ_ _ h=>by rw[cl,Jc5]at h;show h) Bm
 |new c f=>
  change Do (cl C f _ _) _->_;rw[cl,Jc5];show λh=>Do.b h λd _ h=>by cases d<;>show h
 |_=>show Bm
theorem sT:∀(m:M) {Z:En} {S:Store} {Q:Bool->Store->Prop},wT C m Z S Q->Do (evT C m Z S) Q:=by
 intro m Z S Q;cases m with
 |nott a=>show λh=>(sT a h).b λ_ _ h=>h
 |bo w as=>show sBT as
 |cmp o a b=>show λh=>(sE a h).b λx _ h=>(sE b h).b λy S h=>by rw[Jp5]at h;revert h;cases cop o x y S<;>show id
 |cmp2 o p a b c=>
  show λh=>(sE a h).b λx _ h=>(sE b h).b λy e h=>?_;rw[Jp5]at h;revert h;rcases cop o x y e with _|_|_
  .show id
  .show id
  .show λh=>(sE c h).b λz S h=>by revert h;cases cop p y z S<;>show id
 |var i=>
  change Op (Z[i]?).join (λd=>Op (tru S d) λb=>Q b S)->Do (Wb2 Z[i]? S) Q;rcases Z[i]? with _|_|d
  .show id
  .show id
  .change Op (tru S d) _->Do (kTru d S) Q;unfold kTru;cases tru S d<;>show id
 |idx a b=>
  show λh=>(sE a h).b λx _ h=>(sE b h).b λy e h=>?_;unfold Jaz at h;revert h;cases idxD x y e with
  |none=>show id
  |some d=>show tr_
 |call f as=>show λh=>(sA as h).b λ_ _ h=>by rw[cl,Jc5]at h;show Do.b h λ_ _ h=>tr_ h
 |prim p as=>show λh=>(sA as h).b λ_ _ h=>Do.b h λ_ _ h=>tr_ h
 |isi a t=>show λh=>(sE a h).b λx S h=>by revert h;cases tyD S x<;>show id
 |mcl c m f o as=>show λh=>(sE o h).b λ_ _ h=>If.b h (λh=>(sA as h).b λ_ _ h=>by rw[cl,Jc5]at h;show Do.b h λ_ _ h=>tr_ h) Bm
 |_=>show Bm
theorem sBV:∀(m:M) {w:Bool} {Z:En} {S:Store} {Q:D->Store->Prop},wBV C w m Z S Q->Do (evBV C w m Z S) Q:=by
 intro m w Z S Q;cases m with
 |cns a r=>cases r with
  |nul=>show sE a
  |cns b r=>
   show λh=>(sE a h).b λx _ h=>?_;cases x with
   |bl c=>cases c<;>cases w<;>first|show h|show sBV (.cns b r) h
   |_=>show h
  |_=>show Bm
 |_=>show Bm
theorem sBT:∀(m:M) {w:Bool} {Z:En} {S:Store} {Q:Bool->Store->Prop},wBT C w m Z S Q->Do (evBT C w m Z S) Q:=by
 intro m w Z S Q;cases m with
 |cns a r=>cases r with
  |nul=>show sT a
  |cns b r=>show λh=>(sT a h).b λc _ h=>by cases c<;>cases w<;>first|show h|show sBT (.cns b r) h
  |_=>show Bm
 |_=>show Bm
theorem sA:∀(m:M) {Z:En} {S:Store} {Q:List D->Store->Prop},wA C m Z S Q->Do (evA C m Z S) Q:=by
 intro m Z S Q;cases m with
 |nul=>show λh=>h
 |cns a b=>show λh=>(sE a h).b λ_ _ h=>(sA b h).b λ_ _ h=>h
 |_=>show Bm
theorem sO:∀(m:M) {Z:En} {S:Store} {Q:Option Int->Store->Prop},wO C m Z S Q->Do (evO C m Z S) Q:=by
 intro m Z S Q;cases m with
 |nul=>show λh=>h
 |cns a r=>cases r with
  |nul=>show λh=>(sE a h).b λx _ h=>by cases x<;>show h
  |_=>show Bm
 |_=>show Bm
theorem sI:∀(m:M) {Z:En} {S:Store} {Q:Wk×List D->Store->Prop},wI C m Z S Q->Do (evI C m Z S) Q:=by
 intro m Z S Q;cases m with
 |rng a=>show λh=>by rw[Jzq];show(sE a h).b λ_ _ h=>h
 |cns a r=>cases r with
  |nul=>show λh=>(sE a h).b λ_ _ h=>h
  |_=>show Bm
 |enm a=>show λh=>(sE a h).b λ_ _ h=>h
 |zp a b=>show λh=>(sE a h).b λ_ _ h=>(sE b h).b λ_ _ h=>h
 |rvi a=>show λh=>(sE a h).b λ_ _ h=>h
 |_=>show Bm
theorem sG:∀(m:M) {d:D} {Z:En} {S:Store} {Q:En->Store->Prop},wG C m d Z S Q->Do (evG C m d Z S) Q:=by
 intro m d Z S Q;cases m with
 |tvar i=>show λh=>by rw[Jwf,if_pos (Jim h).1];show(Jim h).2
 |ttup ts=>cases d<;>first|show sGs ts|show Bm
 |tsub a b=>show λh=>(sE a h).b λ_ _ h=>(sE b h).b λ_ _ h=>Do.b h λ_ _ h=>h
 |_=>show Bm
theorem sGs:∀(m:M) {ds:List D} {Z:En} {S:Store} {Q:En->Store->Prop},wGs C m ds Z S Q->Do (evGs C m ds Z S) Q:=by
 intro m ds Z S Q;cases m with
 |nul=>cases ds<;>show λh=>h
 |cns t ts=>cases ds with
  |nil=>show Bm
  |cons d r=>show λh=>(sG t h).b λ_ _ h=>sGs ts h
 |_=>show Bm
theorem sS:∀(m:M) {Z:En} {S:Store} {k:En->Store->Prop} {R:D->Store->Prop},wS C m Z S k R->Do (evS C m Z S) (FlP k R):=by
 intro m Z S k R;cases m with
 |asg t e=>show λh=>(sE e h).b λ_ _ h=>(sG t h).b λ_ _ h=>h
 |aug i e=>
  change Op (Z[i]?).join _->Do (Wcn C i e Z Z[i]? S) _;unfold Wcn;rcases Z[i]? with _|_|d
  .show Bm
  .show Bm
  .cases d<;>first|show Bm|show λh=>(sE e h).b λy _ h=>by cases y<;>first|show h|show(Jim h).2
 |ifs c a b=>show λh=>(sT c h).b λ_ _ h=>If.b h (sB a) (sB b)
 |forr t i b=>show λh=>(sI i h).b λ_ _ h=>h
 |ret e=>show λh=>(sE e h).b λ_ _ h=>h
 |exp e=>show λh=>(sE e h).b λ_ _ h=>h
 |sfd c f o v=>show λh=>(sE v h).b λy _ h=>(sE o h).b λx S h=>by revert h;cases Z1 S x c f y<;>show id
 |_=>show Bm
theorem sB:∀(m:M) {Z:En} {S:Store} {k:En->Store->Prop} {R:D->Store->Prop},wB C m Z S k R->Do (evB C m Z S) (FlP k R):=by
 intro m Z S k R;cases m with
 |nul=>show λh=>h
 |cns s r=>
  show λh=>(sS s h).b λa _ h=>?_;cases a with
  |nx c=>show sB r h
  |rt d=>show h
 |_=>show Bm
end
end
noncomputable def nD(P:D->Store->Prop)(_:En)(S:Store):Prop:=P .non S
section
variable {T:Tb} {G:String->Option D} {W n:Nat} {f:String} {FN:Fn} {ds:List D} {S S':Store} {P Q:D->Store->Prop} {a:D}
theorem Do.sat{c:Type}{r:Res c}{Q:c->Store->Prop}(h:Do r Q):Sat r Q:=by
 cases r with
 |ok a S=>exists a,S,rfl,h
 |_=>show Bm h
def rn(c:T f=-FN)(d:⇑ds=FN.ps.length)(h:mkE ds FN.N.length λZ=>wB (Cn T G W n) FN.body Z S (nD P) P):Sat (callN T G W (n+1) f ds S) P:=by
 rw[Jqo c d];show((sB _ (Jmp h)).b λe S' h=>by cases e<;>show h).sat
noncomputable def Eo(v:D)(b:Store)(d:D)(S':Store):Prop:=d=v/\S'=b
def Eo.r:Eo v b v b:=#[rfl,rfl]
def re(c:T f=-FN)(d:⇑ds=FN.ps.length)(h:mkE ds FN.N.length λZ=>wB (Cn T G W n) FN.body Z S (nD (Eo v b)) (Eo v b)):callN T G W (n+1) f ds S=.ok v b:=by
 let(_,_,e,rfl,rfl):=rn c d h;show e
noncomputable def Ex(v:D)(P:Store->Prop)(d:D)(S':Store):Prop:=d=v/\P S'
def rx(b:T f=-FN)(c:⇑ds=FN.ps.length){P:Store->Prop}(h:mkE ds FN.N.length λZ=>wB (Cn T G W n) FN.body Z S (nD (Ex v P)) (Ex v P)):∃S',callN T G W (n+1) f ds S=.ok v S'/\P S':=by
 let(_,S',e,rfl,x):=rn b c h;exists S',e,x
def oc(e:callN T G W n f ds S=.ok a S')(h:Q a S'):Do (cl (Cn T G W n) f ds S) Q:=by
 rw[cl,Jc5,Jv1,e];show h
def os(e:Sat (callN T G W n f ds S) P)(h:∀a S',P a S'->Q a S'):Do (cl (Cn T G W n) f ds S) Q:=by
 let(a,S',e,k):=e;show oc e (h a S' k)
theorem ol{I k:En->Store->Prop}{R:D->Store->Prop}(e:Sat r (FlP I noR))(h:∀Z S',I Z S'->k Z S'):Do r (FlP k R):=by
 let(b,S',rfl,q):=e;cases b with
 |nx Z=>show h Z S' q
 |rt d=>show Bm q
theorem oR{I k:En->Store->Prop}{R b:D->Store->Prop}(e:Sat r (FlP I b))(g:∀d S',b d S'->R d S')(h:∀Z S',I Z S'->k Z S'):Do r (FlP k R):=by
 let(c,S',rfl,q):=e;cases c with
 |nx Z=>show h Z S' q
 |rt d=>show g d S' q
def od{b:Type}{r:Res b}{P Q:b->Store->Prop}(e:Sat r P)(h:∀a S',P a S'->Q a S'):Do r Q:=by
 let(a,S',rfl,k):=e;show h a S' k
def tn{I:En->Store->Prop}{R:D->Store->Prop}(h:wG C t d Z S λc e=>wB C b c e I R):Sat (Yr C t b d Z S) (FlP I R):=((sG t h).b λ_ _ h=>sB b h).sat
noncomputable def wC(C:Pr):M->En->Store->(Bool->Store->Prop)->Prop
 |.nul,_,S,Q=>Q true S
 |.cns c .nul,Z,S,Q=>wT C c Z S Q
 |_,_,_,_=>False
theorem sC{Q:Bool->Store->Prop}:wC C m Z S Q->Do (evC C m Z S) Q:=by
 cases m with
 |nul=>show id
 |cns c r=>cases r with
  |nul=>show sT c
  |_=>show Bm
 |_=>show Bm
theorem ts{P:Option D->Store->Prop}(h:wG C tg d Z S λc g=>wC C cd c g λb e=>If b (wE C el c e λy i=>P (-y) i) (P none e)):Sat (Xw C tg cd el d Z S) P:=by
 rw[Jof];show Do.sat (Do.b (sG tg h) λc g h=>Do.b (f:=kEl C el c) (sC h) λb e h=>?_);cases b with
 |true=>show Do.b (f:=Wcm) (sE el h) λ_ _ h=>h
 |false=>show h
def tc(h:wG C tg d Z S λc j=>wC C cd c j λb i=>If b (wE C el c i λy g=>-y=o/\g=S') (none=o/\i=S')):Xw C tg cd el d Z S=.ok o S':=by
 let(_,_,e,rfl,rfl):=ts (P:=λa g=>a=o/\g=S') h;show e
def ox{b:Type}{r:Res b}{Q:b->Store->Prop}{a:b}(e:r=.ok a S)(h:Q a S):Do r Q:=by rw[e];show h
def oh{b:Type}{r:Res b}{Q:b->Store->Prop}{a:b}(e:r=.ok a S)(h:Q a S):Do (hd r) Q:=by rw[Jc5,e];show h
def Ja0(h:S[l]? =-(.lst ds)):Waz (.loc l) S=.ok (-(l,.lst),ds) S:=by simp only[Waz,Jbi h]
def oi{Q:Bool->Prop}(e:cop o x y S=-k)(h:Q k):Op (hd (cop o x y S)) Q:=by rw[Jc5,e];show h
def Jv2{ds es:List D}(h:S[l]? =-(.lst ds))(b:⇑ds=⇑es):zpD (.loc l) (.tup es) S=.ok (-(l,.zip),es) S:=by simp only[zpD,Jbi h,if_pos b]
def Jfw{b:List (String×D)}(h:S[l]? =-(.ins c b))(d:⇑b<1000):Z1 S (.loc l) c f v=-(S.set l (.ins c (putD f v b))):=by simp only[Z1,Jf9 h,if_pos d]
def oo{b:Type}{o:Option b}{Q:b->Prop}{a:b}(e:o=-a)(h:Q a):Op o Q:=by rw[e];show h
def yes{A B:Prop}(h:b=true)(k:A):If b A B:=by rw[h];show k
def no{A B:Prop}(h:b=false)(k:B):If b A B:=by rw[h];show k
end
end Mi
namespace K27
open PySem L2 Mi
section
local macro_rules|`(#[])=>`(M.nul)|`(#[$a])=>`(M.cns $a M.nul)|`(#[$a,$b,*])=>`(M.cns $a #[$b,*])|`(($n:num))=>`(M.cst (D.int $n))|`(↑$n)=>`(M.var $n)
noncomputable def Jbp:Fn:=⟨["self"],.range 1,#[.sfd "Hoard" "unspent" ↑0 (.dnil 1),.sfd "Hoard" "done" ↑0 (.dnil 0)]⟩
noncomputable def Jb5:Fn:=⟨["self"],.range 2,#[.asg (.tvar 1) (.new "Hoard" "Hoard.__init__"),.sfd "Hoard" "unspent" ↑1 (.prim .dict1 #[.fld "Hoard" "unspent" ↑0]),.sfd "Hoard" "done" ↑1 (.prim .dict1 #[.fld "Hoard" "done" ↑0]),.ret ↑1]⟩
noncomputable def Jc4:Fn:=⟨["self"],.range 1,#[.ret (.hld (.fld "Hoard" "unspent" ↑0))]⟩
noncomputable def Jcl:Fn:=⟨["self"],.range 1,#[.ret (.prim .sum1 #[.dcm ["kept"] [] (.tvar 0) (.fld "Hoard" "unspent" ↑0) (.idx ↑0 (.glb "WORTH"))])]⟩
noncomputable def Jeb:Fn:=⟨["self","number"],.range 2,#[.ret (.cmp .inn ↑1 (.fld "Hoard" "done" ↑0))]⟩
noncomputable def Jcm:Fn:=⟨["self","deed","height"],.range 5,#[.ifs (.mcl "Hoard" "did" "Hoard.did" ↑0 #[.idx ↑1 (0)]) #[.ret (.cst (.str "known"))] .nul,.ifs (.call "has_twice" #[.call "spent_by" #[↑1]]) #[.ret (.cst (.str "twice"))] .nul,.forr (.tvar 3) #[.idx ↑1 (1)] #[.asg (.tvar 4) (.mcl "Hoard" "fault_of_in" "Hoard.fault_of_in" ↑0 #[↑3,↑1,↑2]),.ifs (.cmp .isnc ↑4 (.cst .non)) #[.ret ↑4] .nul],.ifs (.bo true #[.nott (.call "is_maker" #[↑1]),.cmp .gt (.call "worth_of" #[↑1]) (.mcl "Hoard" "worth_spent" "Hoard.worth_spent" ↑0 #[↑1])]) #[.ret (.cst (.str "less"))] .nul,.ret (.cst .non)]⟩
noncomputable def Ja9:Fn:=⟨["self","part","deed","height"],.range 5,#[.asg (.tvar 4) (.meth .get1 (.fld "Hoard" "unspent" ↑0) #[.idx ↑1 (0)]),.ifs (.cmp .isc ↑4 (.cst .non)) #[.ret (.cst (.str "gone"))] .nul,.ifs (.cmp .lt ↑3 (.idx ↑4 (.glb "FREE"))) #[.ret (.cst (.str "green"))] .nul,.ifs (.nott (.call "opens" #[.idx ↑4 (.glb "LOCK"),.idx ↑1 (1),.call "facts_of" #[↑4,↑2,↑3]])) #[.ret (.cst (.str "shut"))] .nul,.ret (.cst .non)]⟩
noncomputable def Jea:Fn:=⟨["self","deed"],.range 2,#[.ret (.ife (.call "is_maker" #[↑1]) (0) (.bin .sub (.mcl "Hoard" "worth_spent" "Hoard.worth_spent" ↑0 #[↑1]) (.call "worth_of" #[↑1])))]⟩
noncomputable def Ja8:Fn:=⟨["self","deed"],.range 2,#[.ret (.prim .sum1 #[.comp ["coin","self"] 1 [0] (.tvar 0) #[.call "spent_by" #[↑1]] .nul (.idx (.idx (.fld "Hoard" "unspent" ↑1) ↑0) (.glb "WORTH"))])]⟩
noncomputable def Jfk:Fn:=⟨["self","deed","height","free"],[0,1,2,3,4,6,5,7],#[.asg (.tvar 4) (.mcl "Hoard" "fault" "Hoard.fault" ↑0 #[↑1,↑2]),.ifs (.cmp .isnc ↑4 (.cst .non)) #[.rse] .nul,.asg (.tvar 5) (.tup #[↑1,.prim .tuple1 #[.comp ["coin","self"] 1 [0] (.tvar 0) #[.call "spent_by" #[↑1]] .nul (.tup #[↑0,.idx (.fld "Hoard" "unspent" ↑1) ↑0])]]),.forr (.tvar 6) #[.call "spent_by" #[↑1]] #[.exp (.meth .pop1 (.fld "Hoard" "unspent" ↑0) #[↑6])],.forr (.ttup #[.tvar 6,.tvar 7]) (.zp (.call "made_by" #[↑1]) (.idx ↑1 (2))) #[.asg (.tsub (.fld "Hoard" "unspent" ↑0) ↑6) (.tup #[.idx ↑7 (0),.idx ↑7 (1),↑2,↑3])],.asg (.tsub (.fld "Hoard" "done" ↑0) (.idx ↑1 (0))) (.cst (.bl true)),.ret ↑5]⟩
noncomputable def Jc3:Fn:=⟨["self","note"],.range 5,#[.asg (.tvar 2) (.idx ↑1 (0)),.forr (.tvar 3) #[.call "made_by" #[↑2]] #[.exp (.meth .pop1 (.fld "Hoard" "unspent" ↑0) #[↑3])],.forr (.ttup #[.tvar 3,.tvar 4]) #[.idx ↑1 (1)] #[.asg (.tsub (.fld "Hoard" "unspent" ↑0) ↑3) ↑4],.exp (.meth .pop1 (.fld "Hoard" "done" ↑0) #[.idx ↑2 (0)])]⟩
noncomputable def Jfh:Fn:=⟨["deed"],.range 1,#[.ret (.cmp .eq (.prim .len #[.idx ↑0 (1)]) (0))]⟩
noncomputable def Jhd:Fn:=⟨["deed"],.range 1,#[.ret (.comp ["place","deed"] 1 [0] (.tvar 0) (.rng (.prim .len #[.idx ↑0 (2)])) .nul (.tup #[.idx ↑1 (0),↑0]))]⟩
noncomputable def Je6:Fn:=⟨["deed"],.range 1,#[.ret (.prim .sum1 #[.comp ["out"] 1 [] (.tvar 0) #[.idx ↑0 (2)] .nul (.idx ↑0 (0))])]⟩
noncomputable def Jr6:Fn:=⟨["rules","height"],.range 4,#[.asg (.tvar 2) (.idx ↑0 (0)),.asg (.tvar 3) (.prim .max2 #[.bin .fdiv (.bin .sub ↑1 (1)) (.idx ↑0 (1)),(0)]),.ret (.bin .shr ↑2 (.prim .min2 #[↑3,.bit ↑2]))]⟩
noncomputable def Jck:Fn:=⟨["hoard","block","height","rules"],.range 9,#[.asg (.tvar 4) (.mcl "Hoard" "copied" "Hoard.copied" ↑0 .nul),.asg (.tvar 5) (0),.forr (.ttup #[.tvar 6,.tvar 7]) (.enm (.idx ↑1 (3))) #[.asg (.tvar 8) (.mcl "Hoard" "fault" "Hoard.fault" ↑4 #[↑7,↑2]),.ifs (.cmp .isnc ↑8 (.cst .non)) #[.ret (.tup #[↑6,↑8])] .nul,.aug 5 (.mcl "Hoard" "fee" "Hoard.fee" ↑4 #[↑7]),.exp (.mcl "Hoard" "do" "Hoard.do" ↑4 #[↑7,↑2,.call "free_from" #[↑7,↑2,↑3]])],.ifs (.cmp .gt (.call "worth_of_makers" #[↑1]) (.bin .add (.call "gift" #[↑3,↑2]) ↑5)) #[.ret (.tup #[(0),.cst (.str "much")])] .nul,.ret (.cst .non)]⟩
noncomputable def Jfj:Fn:=⟨["hoard","block","height","rules"],.range 5,#[.asg (.tvar 4) (.call "block_fault" #[↑0,↑1,↑2,↑3]),.ifs (.cmp .isnc ↑4 (.cst .non)) #[.rse] .nul,.ret (.comp ["deed","height","hoard","rules"] 1 [2,0,3] (.tvar 0) #[.idx ↑1 (3)] .nul (.mcl "Hoard" "do" "Hoard.do" ↑2 #[↑0,↑1,.call "free_from" #[↑0,↑1,↑3]]))]⟩
noncomputable def Jd9:Fn:=⟨["deed","height","rules"],.range 3,#[.ret (.ife (.call "is_maker" #[↑0]) (.bin .add ↑1 (.idx ↑2 (2))) ↑1)]⟩
noncomputable def Jbf:Fn:=⟨["block"],.range 1,#[.ret (.prim .sum1 #[.comp ["deed"] 1 [] (.tvar 0) #[.idx ↑0 (3)] #[.call "is_maker" #[↑0]] (.call "worth_of" #[↑0])])]⟩
noncomputable def Jnj:Fn:=⟨["lock","keys","facts"],.range 7,#[.asg (.tvar 3) (.lst .nul),.asg (.tvar 4) (.lst .nul),.ifs (.nott (.call "lay" #[↑3,↑1])) #[.ret (.cst (.bl false))] .nul,.forr (.tvar 5) #[↑0] #[.ifs (.cmp .inn (.idx ↑5 (0)) (.tup #[.cst (.str "if"),.cst (.str "else"),.cst (.str "end")])) #[.asg (.tvar 6) (.nott (.call "turn" #[.idx ↑5 (0),↑4,↑3]))] #[.asg (.tvar 6) (.bo true #[.call "is_done" #[↑4],.nott (.call "do_row" #[↑5,↑3,↑2])])],.ifs ↑6 #[.ret (.cst (.bl false))] .nul],.ret (.bo true #[.cmp .gt (.prim .len #[↑3]) (0),.cmp .ne (.idx ↑3 (.neg (1))) (0)])]⟩
noncomputable def Jhg:Fn:=⟨["parts"],.range 1,#[.ret (.bo false #[.nott ↑0,.idx (.idx ↑0 (.neg (1))) (0)])]⟩
noncomputable def Jyw:Fn:=⟨["pile","numbers"],.range 3,#[.forr (.tvar 2) #[↑1] #[.ifs (.bo false #[.cmp .ge (.prim .abs #[↑2]) (.bin .pow (10) (60)),.cmp .ge (.prim .len #[↑0]) (.glb "MOST_LYING")]) #[.ret (.cst (.bl false))] .nul,.exp (.meth .append ↑0 #[↑2])],.ret (.cst (.bl true))]⟩
noncomputable def Jr4:Fn:=⟨["word","parts","pile"],.range 4,#[.ifs (.cmp .eq ↑0 (.cst (.str "end"))) #[.exp (.meth .pop0 ↑1 .nul)] #[.ifs (.cmp .eq ↑0 (.cst (.str "else"))) #[.asg (.tsub ↑1 (.neg (1))) (.tup #[.idx (.idx ↑1 (.neg (1))) (1),.cst (.bl false)])] #[.ifs (.nott (.call "is_done" #[↑1])) #[.exp (.meth .append ↑1 #[.tup #[.cst (.bl false),.cst (.bl false)]])] #[.ifs (.nott ↑2) #[.ret (.cst (.bl false))] #[.asg (.tvar 3) (.meth .pop0 ↑2 .nul),.exp (.meth .append ↑1 #[.tup #[.cmp .ne ↑3 (0),.cmp .eq ↑3 (0)]])]]]],.ret (.cst (.bl true))]⟩
noncomputable def Jj5:Fn:=⟨["row","pile","facts"],.range 4,#[.ifs (.nott (.call "has_enough" #[↑0,↑1])) #[.ret (.cst (.bl false))] .nul,.asg (.tvar 3) (.call "take" #[↑1,.meth .get2 (.glb "TAKEN") #[.idx ↑0 (0),(0)]]),.ifs (.cmp .eq (.idx ↑0 (0)) (.cst (.str "need"))) #[.ret (.cmp .ne (.idx ↑3 (0)) (0))] .nul,.ret (.call "lay" #[↑1,.call "laid_by" #[↑0,↑3,↑1,↑2]])]⟩
noncomputable def Jc2:Fn:=⟨["row","pile"],.range 2,#[.ifs (.cmp .eq (.idx ↑0 (0)) (.cst (.str "copy"))) #[.ret (.cmp2 .le .lt (0) (.idx ↑0 (1)) (.prim .len #[↑1]))] .nul,.ret (.cmp .le (.meth .get2 (.glb "TAKEN") #[.idx ↑0 (0),(0)]) (.prim .len #[↑1]))]⟩
noncomputable def Jr5:Fn:=⟨["pile","count"],.range 4,#[.asg (.tvar 2) (.sli ↑0 #[.bin .sub (.prim .len #[↑0]) ↑1] .nul),.forr (.tvar 3) #[↑2] #[.exp (.meth .pop0 ↑0 .nul)],.ret ↑2]⟩
noncomputable def Jhf:Fn:=⟨["row","taken","pile","facts"],.range 5,#[.asg (.tvar 4) (.idx ↑0 (0)),.ifs (.cmp .eq ↑4 (.cst (.str "push"))) #[.ret (.lst #[.idx ↑0 (1)])] .nul,.ifs (.cmp .eq ↑4 (.cst (.str "copy"))) #[.ret (.lst #[.idx ↑2 (.bin .sub (.neg (1)) (.idx ↑0 (1)))])] .nul,.ifs (.cmp .eq ↑4 (.cst (.str "paid"))) #[.ret (.lst #[.call "paid_at" #[.idx ↑3 (.glb "PAID"),.idx ↑0 (1)]])] .nul,.ifs (.cmp .inn ↑4 (.glb "FACT_WORDS")) #[.ret (.lst #[.idx ↑3 (.meth .indexT (.glb "FACT_WORDS") #[↑4])])] .nul,.ifs (.cmp .eq ↑4 (.cst (.str "drop"))) #[.ret (.lst .nul)] .nul,.ifs (.cmp .eq ↑4 (.cst (.str "swap"))) #[.ret (.lst #[.idx ↑1 (1),.idx ↑1 (0)])] .nul,.ifs (.cmp .eq ↑4 (.cst (.str "not"))) #[.ret (.lst #[.ife (.cmp .eq (.idx ↑1 (0)) (0)) (1) (0)])] .nul,.ret (.lst #[.call "outcome" #[↑4,.idx ↑1 (0),.idx ↑1 (1)]])]⟩
noncomputable def Jhb:Fn:=⟨["paid","place"],.range 2,#[.ret (.ife (.cmp2 .le .lt (0) ↑1 (.prim .len #[↑0])) (.idx ↑0 ↑1) (0))]⟩
noncomputable def Jhc:Fn:=⟨["word","a","b"],.range 3,#[.ifs (.cmp .eq ↑0 (.cst (.str "add"))) #[.ret (.bin .add ↑1 ↑2)] .nul,.ifs (.cmp .eq ↑0 (.cst (.str "sub"))) #[.ret (.bin .sub ↑1 ↑2)] .nul,.ifs (.cmp .eq ↑0 (.cst (.str "mul"))) #[.ret (.bin .mul ↑1 ↑2)] .nul,.ifs (.cmp .eq ↑0 (.cst (.str "less"))) #[.ret (.ife (.cmp .lt ↑1 ↑2) (1) (0))] .nul,.ret (.ife (.cmp .eq ↑1 ↑2) (1) (0))]⟩
noncomputable def Je7:Fn:=⟨["deed"],.range 1,#[.ret (.comp ["part"] 1 [] (.tvar 0) #[.idx ↑0 (1)] .nul (.idx ↑0 (0)))]⟩
noncomputable def Jd8:Fn:=⟨["coins"],.range 1,#[.ret (.cmp .lt (.lsp ↑0) (.prim .len #[↑0]))]⟩
noncomputable def Jfi:Fn:=⟨["kept","deed","height"],.range 5,#[.asg (.tvar 3) (.prim .max2 #[.bin .sub ↑2 (.idx ↑0 (.glb "MADE")),(0)]),.asg (.tvar 4) (.prim .tuple1 #[.comp ["out"] 1 [] (.tvar 0) #[.idx ↑1 (2)] .nul (.idx ↑0 (0))]),.ret (.tup #[↑2,↑3,.idx ↑0 (.glb "WORTH"),.prim .len #[.idx ↑1 (1)],.prim .len #[.idx ↑1 (2)],↑4])]⟩
noncomputable def Jd5:Fn:=⟨["_law_cell"],.range 1,#[.ret (.bin .mod (.bin .mul (.bin .mul (.bin .add (.bin .mod ↑0 (2147483647)) (11)) (48271)) (69621)) (2147483629))]⟩
noncomputable def Jc1:Fn:=⟨["_law_cell","_law_k","_law_digits"],.range 4,#[.asg (.tvar 3) (.bin .mod (.bin .add (.call "_law_mixed" #[↑0]) (.bin .mul (69621) ↑1)) (2147483629)),.ifs ↑2 #[.ret (.lst #[.bin .fdiv (.bin .mod ↑0 (.bin .mul (.bin .pow (10) (60)) (.bin .pow (10) (60)))) (.bin .add (1) (.prim .int1 #[.cmp .eq ↑1 (0)])),.cst (.bl true),↑3])] .nul,.ret (.lst #[↑3,.cst (.bl false),↑3])]⟩
noncomputable def Je9:Fn:=⟨["_law_stream_here","_law_many"],.range 3,#[.ifs (.bo true #[.idx ↑0 (1),.cmp .gt (.idx ↑0 (0)) (1)]) #[.asg (.tvar 2) (.bin .mod (.idx ↑0 (0)) ↑1),.asg (.tsub ↑0 (0)) (.bin .fdiv (.idx ↑0 (0)) ↑1),.ret ↑2] .nul,.ifs (.idx ↑0 (1)) #[.asg (.tsub ↑0 (0)) (.idx ↑0 (2)),.asg (.tsub ↑0 (1)) (.cst (.bl false))] .nul,.asg (.tsub ↑0 (0)) (.bin .mod (.bin .add (.bin .mul (.idx ↑0 (0)) (48271)) (11)) (2147483629)),.ret (.bin .mod (.bin .fdiv (.idx ↑0 (0)) (7)) ↑1)]⟩
noncomputable def Jcj:Fn:=⟨["_law_script"],.range 2,#[.asg (.tvar 1) (.bo true #[.cmp .gt (.prim .len #[↑0]) (0),.cmp .eq (.bin .mod (.idx ↑0 (0)) (2)) (1)]),.ret (.comp ["_law_k","_law_cell","_law_digits"] 2 [1] (.ttup #[.tvar 0,.tvar 1]) (.enm (.sli (.bin .add ↑0 (.lst #[(0)])) .nul #[(60)])) .nul (.call "_law_stream" #[↑1,↑0,↑2]))]⟩
noncomputable def Jfc:Fn:=⟨["_law_stream_here"],.range 6,#[.asg (.tvar 1) (.bin .sub (.call "_law_take" #[↑0,(2000)]) (1000)),.asg (.tvar 2) (.tup #[.cst (.str "push"),.bin .mod (.prim .abs #[↑1]) (9)]),.asg (.tvar 3) (.lst #[.tup .nul,.tup #[.tup #[.cst (.str "push"),(1)]],.tup #[.tup #[.cst (.str "push"),↑1],.tup #[.cst (.str "same")]],.tup #[.tup #[.cst (.str "height")],↑2,.tup #[.cst (.str "less")],.tup #[.cst (.str "not")]]]),.exp (.meth .append ↑3 #[.tup #[.tup #[.cst (.str "age")],.tup #[.cst (.str "push"),.bin .mod (.prim .abs #[↑1]) (4)],.tup #[.cst (.str "less")],.tup #[.cst (.str "not")]]]),.exp (.meth .append ↑3 #[.tup #[.tup #[.cst (.str "if")],.tup #[.cst (.str "push"),↑1],.tup #[.cst (.str "same")],.tup #[.cst (.str "else")],.tup #[.cst (.str "push"),(1)],.tup #[.cst (.str "end")]]]),.exp (.meth .append ↑3 #[.tup #[.tup #[.cst (.str "worth")],↑2,.tup #[.cst (.str "less")],.tup #[.cst (.str "not")]]]),.exp (.meth .append ↑3 #[.tup #[.tup #[.cst (.str "ins")],.tup #[.cst (.str "push"),.bin .add (1) (.bin .mod (.prim .abs #[↑1]) (3))],.tup #[.cst (.str "same")]]]),.exp (.meth .append ↑3 #[.tup #[.tup #[.cst (.str "outs")],.tup #[.cst (.str "push"),.bin .add (1) (.bin .mod (.prim .abs #[↑1]) (3))],.tup #[.cst (.str "same")],.tup #[.cst (.str "not")]]]),.exp (.meth .append ↑3 #[.tup #[.tup #[.cst (.str "paid"),.bin .mod (.prim .abs #[↑1]) (2)],↑2,.tup #[.cst (.str "less")],.tup #[.cst (.str "not")]]]),.asg (.tvar 4) (.lst #[.tup #[.bin .add (1) (.prim .abs #[↑1])],.tup .nul,.tup #[↑1],.tup .nul,.tup .nul,.idx (.lst #[.tup #[↑1,(1)],.tup #[(0)]]) (.bin .mod ↑1 (2))]),.asg (.tvar 5) (.call "_law_take" #[↑0,(10)]),.ret (.tup #[.idx ↑3 ↑5,.idx (.bin .add ↑4 (.lst #[.tup .nul,.tup .nul,.tup .nul,.tup .nul])) ↑5])]⟩
noncomputable def Jfa:Fn:=⟨["_law_stream_here","_law_total","_law_ring"],.range 8,#[.asg (.tvar 3) (.lst .nul),.forr (.tvar 4) (.rng (.call "_law_take" #[↑0,(3)])) #[.ifs (.cmp .gt ↑1 (1)) #[.asg (.ttup #[.tvar 5,.tvar 6]) (.call "_law_lock" #[↑0]),.asg (.tvar 7) (.bin .add (1) (.call "_law_take" #[↑0,.bin .sub ↑1 (1)])),.asg (.tvar 1) (.bin .sub ↑1 ↑7),.asg (.tsub ↑2 ↑5) ↑6,.exp (.meth .append ↑3 #[.tup #[↑7,↑5]])] .nul],.asg (.ttup #[.tvar 5,.tvar 6]) (.call "_law_lock" #[↑0]),.asg (.tsub ↑2 ↑5) ↑6,.ret (.prim .tuple1 #[.bin .add ↑3 (.lst #[.tup #[↑1,↑5]])])]⟩
noncomputable def Jj4:Fn:=⟨["_law_stream_here","_law_coins","_law_ring"],.range 7,#[.asg (.tvar 3) (.prim .sort1 #[↑1]),.asg (.tvar 4) (.call "_law_take" #[↑0,(12)]),.ifs (.bo false #[.cmp .eq ↑3 (.lst .nul),.cmp .eq ↑4 (0)]) #[.ret (.tup #[.tup #[.call "_law_take" #[↑0,(90)],.call "_law_take" #[↑0,(3)]],.tup .nul])] .nul,.asg (.tvar 5) (.idx ↑3 (.call "_law_take" #[↑0,.prim .len #[↑3]])),.asg (.tvar 6) (.idx ↑2 (.idx (.idx ↑1 ↑5) (1))),.ifs (.cmp .eq ↑4 (1)) #[.asg (.tvar 6) (.bin .add ↑6 (.tup #[(0)]))] .nul,.ret (.tup #[↑5,.sli ↑6 .nul #[(10)]])]⟩
noncomputable def Jfg:Fn:=⟨["_law_stream_here","_law_number","_law_coins","_law_ring"],.range 9,#[.asg (.tvar 4) (.lst .nul),.forr (.tvar 5) (.rng (.bin .add (1) (.call "_law_take" #[↑0,(3)]))) #[.asg (.tvar 6) (.call "_law_in" #[↑0,↑2,↑3]),.ifs (.bo false #[.cmp .nin (.idx ↑6 (0)) (.comp ["_law_other"] 1 [] (.tvar 0) #[↑4] .nul (.idx ↑0 (0))),.cmp .eq (.call "_law_take" #[↑0,(6)]) (0)]) #[.exp (.meth .append ↑4 #[↑6])] .nul],.asg (.tvar 7) (.prim .sum1 #[.comp ["_law_one","_law_coins"] 1 [2] (.tvar 0) #[↑4] #[.cmp .inn (.idx ↑0 (0)) ↑1] (.idx (.idx ↑1 (.idx ↑0 (0))) (0))]),.asg (.tvar 8) (.call "_law_take" #[↑0,(8)]),.ifs (.cmp .eq ↑8 (0)) #[.asg (.tvar 7) (.bin .add ↑7 (1))] .nul,.ifs (.bo true #[.cmp .gt ↑8 (4),.cmp .gt ↑7 (1)]) #[.asg (.tvar 7) (.bin .add (1) (.call "_law_take" #[↑0,↑7]))] .nul,.ret (.tup #[↑1,.prim .tuple1 #[↑4],.call "_law_outs" #[↑0,.prim .min2 #[.bin .pow (10) (40),.prim .max2 #[(1),↑7]],↑3]])]⟩
noncomputable def Je8:Fn:=⟨["_law_coins","_law_done_here","_law_deed_here","_law_height"],.range 17,#[.asg (.ttup #[.tvar 4,.tvar 5,.tvar 6]) ↑2,.ifs (.cmp .inn ↑4 ↑1) #[.ret (.cst (.str "known"))] .nul,.asg (.tvar 7) (.comp ["_law_one"] 1 [] (.tvar 0) #[↑5] .nul (.idx ↑0 (0))),.ifs (.cmp .lt (.lsp ↑7) (.prim .len #[↑7])) #[.ret (.cst (.str "twice"))] .nul,.forr (.ttup #[.tvar 8,.tvar 9]) #[↑5] #[.ifs (.cmp .nin ↑8 ↑0) #[.ret (.cst (.str "gone"))] .nul,.asg (.ttup #[.tvar 10,.tvar 11,.tvar 12,.tvar 13]) (.idx ↑0 ↑8),.ifs (.cmp .lt ↑3 ↑13) #[.ret (.cst (.str "green"))] .nul,.asg (.tvar 14) (.prim .tuple1 #[.comp ["_law_out"] 1 [] (.tvar 0) #[↑6] .nul (.idx ↑0 (0))]),.asg (.tvar 15) (.tup #[↑3,.prim .max2 #[(0),.bin .sub ↑3 ↑12],↑10,.prim .len #[↑5],.prim .len #[↑6],↑14]),.ifs (.nott (.call "opens" #[↑11,↑9,↑15])) #[.ret (.cst (.str "shut"))] .nul],.asg (.tvar 16) (.prim .sum1 #[.comp ["_law_out"] 1 [] (.tvar 0) #[↑6] .nul (.idx ↑0 (0))]),.ifs (.bo true #[.cmp .ne ↑5 (.tup .nul),.cmp .gt ↑16 (.prim .sum1 #[.comp ["_law_name","_law_coins"] 1 [0] (.tvar 0) #[↑7] .nul (.idx (.idx ↑1 ↑0) (0))])]) #[.ret (.cst (.str "less"))] .nul,.ret (.cst .non)]⟩
noncomputable def Jhe:Fn:=⟨["_law_coins","_law_done_here","_law_deed_here","_law_height","_law_free"],[0,1,2,3,4,6,7,8,9,5],#[.asg (.tvar 5) (.bin .sub (0) (.prim .sum1 #[.comp ["_law_out"] 1 [] (.tvar 0) #[.idx ↑2 (2)] .nul (.idx ↑0 (0))])),.forr (.ttup #[.tvar 6,.tvar 7]) #[.idx ↑2 (1)] #[.asg (.tvar 5) (.bin .add ↑5 (.idx (.meth .pop1 ↑0 #[↑6]) (0)))],.forr (.ttup #[.tvar 8,.tvar 9]) (.enm (.idx ↑2 (2))) #[.asg (.tsub ↑0 (.tup #[.idx ↑2 (0),↑8])) (.tup #[.idx ↑9 (0),.idx ↑9 (1),↑3,↑4])],.asg (.tsub ↑1 (.idx ↑2 (0))) (.cst (.bl true)),.ret (.bin .mul ↑5 (.prim .int1 #[.cmp .ne (.idx ↑2 (1)) (.tup .nul)]))]⟩
noncomputable def Jfd:Fn:=⟨["_law_rules_here","_law_height"],.range 4,#[.asg (.tvar 2) (.idx ↑0 (0)),.forr (.tvar 3) (.rng (.prim .min2 #[(200),.bin .fdiv (.bin .sub ↑1 (1)) (.idx ↑0 (1))])) #[.asg (.tvar 2) (.bin .fdiv ↑2 (2))],.ret ↑2]⟩
noncomputable def Jff:Fn:=⟨["_law_coins","_law_done_here","_law_block_here","_law_height","_law_rules_here"],.range 9,#[.asg (.tvar 0) (.prim .dict1 #[↑0]),.asg (.tvar 1) (.prim .dict1 #[↑1]),.asg (.tvar 5) (0),.forr (.ttup #[.tvar 6,.tvar 7]) (.enm (.idx ↑2 (3))) #[.asg (.tvar 8) (.call "_law_word" #[↑0,↑1,↑7,↑3]),.ifs (.cmp .isnc ↑8 (.cst .non)) #[.ret (.tup #[.tup #[↑6,↑8],↑0,↑1,(0)])] .nul,.asg (.tvar 5) (.bin .add ↑5 (.call "_law_put" #[↑0,↑1,↑7,↑3,.bin .add ↑3 (.bin .mul (.idx ↑4 (2)) (.prim .int1 #[.cmp .eq ↑6 (0)]))]))],.ifs (.cmp .gt (.prim .sum1 #[.comp ["_law_out"] 1 [] (.tvar 0) #[.idx (.idx (.idx ↑2 (3)) (0)) (2)] .nul (.idx ↑0 (0))]) (.bin .add (.call "_law_gift" #[↑4,↑3]) ↑5)) #[.ret (.tup #[.tup #[(0),.cst (.str "much")],↑0,↑1,↑5])] .nul,.ret (.tup #[.cst .non,↑0,↑1,↑5])]⟩
noncomputable def tl:M:= #[.exp (.meth .append ↑10 #[.call "_law_deed" #[↑0,↑12,↑8,↑6]]),.ifs (.cmp .isc (.call "_law_word" #[↑8,↑9,.idx ↑10 (.neg (1)),↑4]) (.cst .non)) #[.exp (.call "_law_put" #[↑8,↑9,.idx ↑10 (.neg (1)),↑4,↑4])] .nul]
def lpB:M:=(.cns (.asg (.tvar 12) (.bin .add (.bin .add ↑1 (1)) ↑11)) (.cns (.asg (.tvar 13) (.call "_law_take" #[↑0,(16)])) (.cns (.ifs (.cmp .eq ↑13 (0)) #[.asg (.tvar 12) (.idx (.prim .list1 #[↑9]) (.call "_law_take" #[↑0,.prim .len #[↑9]]))] .nul) tl)))
def rest:M:= #[.asg (.tvar 8) (.prim .dict1 #[↑2]),.asg (.tvar 9) (.prim .dict1 #[↑3]),.asg (.tvar 10) (.lst #[.tup #[↑1,.tup .nul,.call "_law_outs" #[↑0,.prim .min2 #[.bin .pow (10) (40),↑7],↑6]]]),.exp (.call "_law_put" #[↑8,↑9,.idx ↑10 (0),↑4,.bin .add ↑4 (.idx ↑5 (2))]),.forr (.tvar 11) (.rng (.idx (.lst #[.call "_law_take" #[↑0,(5)],.call "_law_take" #[↑0,(12)]]) (.prim .int1 #[.cmp .eq (.call "_law_take" #[↑0,(4)]) (3)]))) lpB,.asg (.tvar 14) (.comp ["_law_k","_law_stream_here"] 1 [0] (.tvar 0) (.rng (3)) .nul (.call "_law_take" #[↑1,.bin .pow (10) (30)])),.asg (.tvar 15) (.tup #[.bin .add (1) (.idx ↑14 (0)),.idx ↑14 (1),.bin .add (1) (.idx ↑14 (2)),.prim .tuple1 #[↑10]]),.ifs (.cmp .eq (.call "_law_take" #[↑0,(3)]) (0)) #[.asg (.tvar 16) (.idx (.call "_law_done" #[↑2,↑3,↑15,↑4,↑5]) (3)),.asg (.tvar 7) (.bin .add (.bin .add (.call "_law_gift" #[↑5,↑4]) ↑16) (.call "_law_take" #[↑0,(2)])),.asg (.tvar 17) (.tup #[↑1,.tup .nul,.tup #[.tup #[.prim .min2 #[.bin .pow (10) (40),.prim .max2 #[(1),↑7]],.idx (.idx (.idx (.idx ↑10 (0)) (2)) (0)) (1)]]]),.asg (.tvar 15) (.bin .add (.sli ↑15 .nul #[(3)]) (.tup #[.bin .add (.tup #[↑17]) (.sli (.idx ↑15 (3)) #[(1)] .nul)]))] .nul,.ret ↑15]
def Jd6:Fn:=⟨["_law_stream_here","_law_first","_law_held","_law_known","_law_height","_law_rules_here","_law_ring"],.range 18,(.cns (.asg (.tvar 7) (.prim .max2 #[(1),.bin .sub (.bin .add (.call "_law_gift" #[↑5,↑4]) (.call "_law_take" #[↑0,(4)])) (2)])) (.cns (.ifs (.cmp .eq (.call "_law_take" #[↑0,(3)]) (0)) #[.asg (.tvar 7) (.bin .add (1) (.call "_law_take" #[↑0,↑7]))] .nul) rest))⟩
noncomputable def Jd4:Fn:=⟨["_law_stream_here"],.range 2,#[.asg (.tvar 1) (.idx (.lst #[(0),(1),(7),(50),(1000),.bin .pow (10) (40)]) (.call "_law_take" #[↑0,(6)])),.ret (.tup #[↑1,.idx (.lst #[(1),(2),(3),(1000)]) (.call "_law_take" #[↑0,(4)]),.idx (.lst #[(0),(0),(1),(2),(5),(1000)]) (.call "_law_take" #[↑0,(6)])])]⟩
noncomputable def Jd7:Fn:=⟨["_law_script"],.range 4,#[.asg (.tvar 1) (.sli (.call "_law_streams" #[↑0]) .nul #[(17)]),.asg (.tvar 2) (.call "_law_rules" #[.idx ↑1 (0)]),.asg (.tvar 3) (.idx (.lst #[(0),(0),(3),.call "_law_take" #[.idx ↑1 (0),.bin .pow (10) (20)]]) (.call "_law_take" #[.idx ↑1 (0),(4)])),.ret (.tup #[.bin .add (.sli ↑1 #[(1)] .nul) (.lst #[.call "_law_stream" #[(7),(17),.cst (.bl false)]]),↑2,↑3])]⟩
noncomputable def Jfb:Fn:=⟨["_law_stream_here","_law_rules_here","_law_height"],.range 3,#[.ret (.bin .add ↑2 (.idx (.lst #[(1),(1),(1),.prim .max2 #[(1),.idx ↑1 (2)],.prim .max2 #[(1),.bin .sub (.idx ↑1 (2)) (1)],.bin .add (1) (.call "_law_take" #[↑0,(2000)])]) (.call "_law_take" #[↑0,(6)])))]⟩
noncomputable def Jc0:Fn:=⟨["_law_hoard","_law_rows"],.range 5,#[.forr (.ttup #[.tvar 2,.tvar 3]) (.rvi ↑1) #[.forr (.tvar 4) (.rvi ↑2) #[.exp (.mcl "Hoard" "undo" "Hoard.undo" ↑0 #[↑4])],.ifs (.cmp .ne (.mcl "Hoard" "held" "Hoard.held" ↑0 .nul) ↑3) #[.ret (.cst (.bl false))] .nul],.ret (.bo true #[.cmp .eq (.mcl "Hoard" "held" "Hoard.held" ↑0 .nul) (.dnil 1),.cmp .eq (.mcl "Hoard" "total" "Hoard.total" ↑0 .nul) (0)])]⟩
noncomputable def Jfe:Fn:=⟨["_law_second","_law_block_here","_law_height","_law_rules_here"],.range 7,#[.asg (.tvar 4) (0),.forr (.ttup #[.tvar 5,.tvar 6]) (.enm (.idx ↑1 (3))) #[.asg (.tvar 4) (.bin .add ↑4 (.mcl "Hoard" "fee" "Hoard.fee" ↑0 #[↑6])),.exp (.mcl "Hoard" "do" "Hoard.do" ↑0 #[↑6,↑2,.bin .add ↑2 (.bin .mul (.idx ↑3 (2)) (.prim .int1 #[.cmp .eq ↑5 (0)]))])],.ret ↑4]⟩
noncomputable def lpM:M:= #[.asg (.tsub ↑7 (.idx ↑16 (0))) (.cst (.bl true)),.asg (.tvar 11) (.bin .add ↑11 (.call "made_by" #[↑16])),.asg (.tvar 12) (.bin .add ↑12 (.comp ["_law_one"] 1 [] (.tvar 0) #[.idx ↑16 (1)] .nul (.idx ↑0 (0))))]
noncomputable def tlL:M:= #[.asg (.tvar 6) (.mcl "Hoard" "held" "Hoard.held" ↑4 .nul),.ifs (.bo false #[.cmp .ne (.mcl "Hoard" "total" "Hoard.total" ↑4 .nul) (.idx ↑10 (0)),.cmp .gt (.idx ↑10 (0)) (.idx ↑10 (1)),.cmp .ne (.mcl "Hoard" "held" "Hoard.held" ↑5 .nul) ↑6]) #[.ret (.cst (.bl false))] .nul,.ifs (.bo false #[.cmp .ne (.lsp ↑11) (.prim .len #[↑11]),.cmp .ne (.lsp ↑12) (.prim .len #[↑12])]) #[.ret (.cst (.bl false))] .nul,.ifs (.cmp .ne (.prim .sort1 #[↑6]) (.prim .sort1 #[.comp ["_law_name","_law_spent"] 1 [12] (.tvar 0) #[↑11] #[.cmp .nin ↑0 ↑1] ↑0])) #[.ret (.cst (.bl false))] .nul]
def tlM:M:=(.cns (.exp (.meth .append ↑9 #[.tup #[.call "do_block" #[↑4,↑15,↑3,↑2],.prim .dict1 #[↑6]]])) (.cns (.asg (.tsub ↑10 (0)) (.bin .sub (.bin .add (.idx ↑10 (0)) (.call "worth_of" #[.idx (.idx ↑15 (3)) (0)])) (.call "_law_fees" #[↑5,↑15,↑3,↑2]))) (.cns (.asg (.tsub ↑10 (1)) (.bin .add (.idx ↑10 (1)) (.call "gift" #[↑2,↑3]))) (.cns (.forr (.tvar 16) #[.idx ↑15 (3)] lpM) tlL))))
def Wcl:M:= #[.asg (.tvar 3) (.call "_law_next" #[↑14,↑2,↑3]),.asg (.tvar 15) (.call "_law_block" #[↑14,.bin .add (.bin .mul (20) ↑13) (1),↑6,↑7,↑3,↑2,↑8]),.ifs (.cmp .isc (.call "block_fault" #[↑4,↑15,↑3,↑2]) (.cst .non)) tlM .nul]
def Jyx:Fn:=⟨["_law_script"],.range 17,#[.asg (.ttup #[.tvar 1,.tvar 2,.tvar 3]) (.call "_law_begin" #[↑0]),.asg (.tvar 4) (.new "Hoard" "Hoard.__init__"),.asg (.tvar 5) (.new "Hoard" "Hoard.__init__"),.asg (.tvar 6) (.dnil 1),.asg (.tvar 7) (.dnil 0),.asg (.tvar 8) (.dnil 2),.asg (.tvar 9) (.lst .nul),.asg (.tvar 10) (.lst #[(0),(0)]),.asg (.tvar 11) (.lst .nul),.asg (.tvar 12) (.lst .nul),.forr (.ttup #[.tvar 13,.tvar 14]) (.enm ↑1) Wcl,.ret (.call "_law_undone" #[↑4,↑9])]⟩
end
def T:Tb:=λf=>[("Hoard.__init__",Jbp),("Hoard.copied",Jb5),("Hoard.held",Jc4),("Hoard.total",Jcl),("Hoard.did",Jeb),("Hoard.fault",Jcm),("Hoard.fault_of_in",Ja9),("Hoard.fee",Jea),("Hoard.worth_spent",Ja8),("Hoard.do",Jfk),("Hoard.undo",Jc3),("is_maker",Jfh),("made_by",Jhd),("worth_of",Je6),("gift",Jr6),("block_fault",Jck),("do_block",Jfj),("free_from",Jd9),("worth_of_makers",Jbf),("opens",Jnj),("is_done",Jhg),("lay",Jyw),("turn",Jr4),("do_row",Jj5),("has_enough",Jc2),("take",Jr5),("laid_by",Jhf),("paid_at",Jhb),("outcome",Jhc),("spent_by",Je7),("has_twice",Jd8),("facts_of",Jfi),("_law_mixed",Jd5),("_law_stream",Jc1),("_law_take",Je9),("_law_streams",Jcj),("_law_lock",Jfc),("_law_outs",Jfa),("_law_in",Jj4),("_law_deed",Jfg),("_law_word",Je8),("_law_put",Jhe),("_law_gift",Jfd),("_law_done",Jff),("_law_block",Jd6),("_law_rules",Jd4),("_law_begin",Jd7),("_law_next",Jfb),("_law_undone",Jc0),("_law_fees",Jfe),("law",Jyx)].lookup f
noncomputable def G:String->Option D:=λx=>if x="MOST_LYING" then -(.int 20)else if x="TAKEN" then -(.kd [("drop",1),("swap",2),("add",2),("sub",2),("mul",2),("less",2),("same",2),("not",1),("need",1)])else if x="PAID" then -(.int 5)else if x="FACT_WORDS" then -(.tup [.str "height",.str "age",.str "worth",.str "ins",.str "outs"])else if x="MADE" then -(.int 2)else if x="WORTH" then -(.int 0)else if x="FREE" then -(.int 3)else if x="LOCK" then -(.int 1)else none
theorem Jcq:T "Hoard.__init__"=-Jbp:=rfl
theorem Jc6:T "Hoard.copied"=-Jb5:=rfl
theorem Jex:T "Hoard.held"=-Jc4:=rfl
theorem Jep:T "Hoard.total"=-Jcl:=rfl
theorem Jgs:T "Hoard.did"=-Jeb:=rfl
theorem Jeq:T "Hoard.fault"=-Jcm:=rfl
theorem Jby:T "Hoard.fault_of_in"=-Ja9:=rfl
theorem Jgr:T "Hoard.fee"=-Jea:=rfl
theorem Jbx:T "Hoard.worth_spent"=-Ja8:=rfl
theorem Jie:T "Hoard.do"=-Jfk:=rfl
theorem Jew:T "Hoard.undo"=-Jc3:=rfl
theorem Jib:T "is_maker"=-Jfh:=rfl
theorem Jja:T "made_by"=-Jhd:=rfl
theorem Jh0:T "worth_of"=-Je6:=rfl
theorem Jq1:T "gift"=-Jr6:=rfl
theorem Jeo:T "block_fault"=-Jck:=rfl
theorem Jid:T "do_block"=-Jfj:=rfl
theorem Jgq:T "free_from"=-Jd9:=rfl
theorem Jce:T "worth_of_makers"=-Jbf:=rfl
theorem Jn8:T "opens"=-Jnj:=rfl
theorem Jjc:T "is_done"=-Jhg:=rfl
theorem Jvz:T "lay"=-Jyw:=rfl
theorem Jqz:T "turn"=-Jr4:=rfl
theorem Jld:T "do_row"=-Jj5:=rfl
theorem Jev:T "has_enough"=-Jc2:=rfl
theorem Jq0:T "take"=-Jr5:=rfl
theorem Jbn:T "laid_by"=-Jhf:=rfl
theorem Ji9:T "paid_at"=-Jhb:=rfl
theorem Jem:T "outcome"=-Jhc:=rfl
theorem Jh1:T "spent_by"=-Je7:=rfl
theorem Jgp:T "has_twice"=-Jd8:=rfl
theorem Jic:T "facts_of"=-Jfi:=rfl
theorem Jgm:T "_law_mixed"=-Jd5:=rfl
theorem Jeu:T "_law_stream"=-Jc1:=rfl
theorem Jh3:T "_law_take"=-Je9:=rfl
theorem Jen:T "_law_streams"=-Jcj:=rfl
theorem Jh6:T "_law_lock"=-Jfc:=rfl
theorem Jh4:T "_law_outs"=-Jfa:=rfl
theorem Jlc:T "_law_in"=-Jj4:=rfl
theorem Jia:T "_law_deed"=-Jfg:=rfl
theorem Jh2:T "_law_word"=-Je8:=rfl
theorem Jjb:T "_law_put"=-Jhe:=rfl
theorem Jh7:T "_law_gift"=-Jfd:=rfl
theorem Jh9:T "_law_done"=-Jff:=rfl
theorem Jgn:T "_law_block"=-Jd6:=rfl
theorem Jgl:T "_law_rules"=-Jd4:=rfl
theorem Jgo:T "_law_begin"=-Jd7:=rfl
theorem Jh5:T "_law_next"=-Jfb:=rfl
theorem Jet:T "_law_undone"=-Jc0:=rfl
theorem Jh8:T "_law_fees"=-Jfe:=rfl
theorem Jv0:T "law"=-Jyx:=rfl
inductive Wd where|less|same|not|height|age|worth|ins|outs
noncomputable def Wd.nm:Wd->String
 |.less=>"less"|.same=>"same"|.not=>"not"|.height=>"height"|.age=>"age"|.worth=>"worth"|.ins=>"ins"|.outs=>"outs"
inductive Rw where|push (n:Int)|paid (k:Int)|w (x:Wd)|iff|els|fin
def rD:Rw->D
 |.push n=>.tup [.str "push",.int n]
 |.paid k=>.tup [.str "paid",.int k]
 |.w x=>.tup [.str x.nm]
 |.iff=>.tup [.str "if"]
 |.els=>.tup [.str "else"]
 |.fin=>.tup [.str "end"]
structure Fx where
 h:Int
 a:Int
 w:Int
 i:Int
 o:Int
 paid:List Int
noncomputable def fD(f:Fx):D:=.tup [.int f.h,.int f.a,.int f.w,.int f.i,.int f.o,.tup (f.paid.map D.int)]
def big(n:Int):Prop:=1000000000000000000000000000000000000000000000000000000000000<=(if n<0 then -(n:Int) else n)
noncomputable instance (n:Int):Decidable (big n):=inferInstanceAs (Decidable (_<=_))
noncomputable def layP(p:List Int):List Int->Bool×List Int
 |[]=>(true,p)
 |n::ns=>if big n\/20<=⇑p then(false,p)else layP (p++[n]) ns
noncomputable abbrev pl(p:List Int):Mi.Obj:=.lst (p.map D.int)
section
variable {W:Nat}
inductive ILay (S:Store) (p:Nat) (nD:D) (pile ns:List Int) (i:Nat) (Z:En) (S':Store):Prop
 |mk (a) (_:Z=[-(.loc p),-nD,a]) (_:S'=S.set p (pl (pile++ns.take i))) (_:layP pile ns=layP (pile++ns.take i) (ns.drop i)):ILay S p nD pile ns i Z S'
def Wc0(S:Store)(p:Nat)(pile ns:List Int)(d:D)(a:Store):Prop:=d=.bl (layP pile ns).1/\a=S.set p (pl (layP pile ns).2)
def Jru(n:Nat){S:Store}{p:Nat}{nD:D}{g:Wk}{pile ns:List Int}(hp:S[p]? =-(pl pile))(s:⇑pile+⇑ns<=1000)(r:Waz nD S=.ok (g,ns.map D.int) S)(m:g=none\/∃q,g=-(q,.lst)/\p≠q/\S[q]? =-(pl ns)):
  Sat (callN T G W (n+1) "lay" [.loc p,nD] S) (Wc0 S p pile ns):=by
 apply rn Jvz rfl;apply ox r;apply od (Y8 (ILay S p nD pile ns) (Wc0 S p pile ns) #[none,rfl,by simp[set_same hp],by simp] ?_ ?_)
 .intro t o h;rcases h.nr with⟨Z,rfl,a,rfl,rfl,b⟩|⟨d,rfl,hd⟩
  .simp[layP]at b;show Az (by rw[b]) (by rw[b];simp)
  .show hd
 .rintro i Z o ⟨a,rfl,rfl,_⟩;rcases m with rfl|⟨q,rfl,j,h⟩
  .rfl
  .show Jcr (by rw[A1 j];show h)
 .rintro i Z o e ⟨a,rfl,rfl,b⟩;let e:i<⇑ns:=by erw[e]
  exists .int ns[i],?_,tn ?_
  .rcases m with rfl|⟨q,rfl,j,h⟩
   .simp[nth,e]
   .simp[nth,seqAt,A1 j,h,e]
  let f:(S.set p (pl (pile++ns.take i)))[p]? =-(pl (pile++ns.take i)):=Jaf hp;rw[Bx e]at b;simp only[layP]at b;apply oh (Jau (k:=60) rfl 'd' 'd')
  by_cases hb:big ns[i]
  .rw[if_pos (.inl hb)]at b;apply yes (decide_eq_true hb);show Az (by rw[b]) (by rw[b])
  .apply no (decide_eq_false hb);apply ox (Jap f);rw[Ag]
   by_cases c:20<=(pile++ns.take i).length
   .rw[if_pos (.inr c)]at b;apply yes (decide_eq_true (Int.ofNat_le.2 c));show Az (by rw[b]) (by rw[b])
   .rw[if_neg (λz=>z.elim hb c)]at b;apply no (decide_eq_false λz=>c (Int.ofNat_le.1 z));apply yes (Ja5 (me:=.append) rfl f);apply oh (Jat f (Ja6 'm'));show ILay.mk _ rfl ?_ ?_
    .rw[Rk];congr 1;rw[C5 (l:=ns),Ae e];simp only[pl,Bv,Pz,Bf,Lr,Ar]
    .rw[b,C5,Ae e];simp
noncomputable def tk:Wd->Nat
 |.less=>2|.same=>2|.not=>1
 |_=>0
noncomputable def Wac(F:Fx)(k:Int):Int:=if 0<=k/\k<F.paid.length then F.paid.getD k.toNat 0 else 0
noncomputable def Y1(F:Fx)(a b:Int):Wd->Int
 |.less=>if a<b then 1 else 0|.same=>if a=b then 1 else 0
 |.not=>if a=0 then 1 else 0|.height=>F.h|.age=>F.a|.worth=>F.w|.ins=>F.i|.outs=>F.o
def paid_at(n:Nat)(F:Fx)(k:Int)(S:Store):callN T G W (n+1) "paid_at" [.tup (F.paid.map D.int),.int k] S=.ok (.int (Wac F k)) S:=by
 apply re Ji9 rfl;unfold Wac
 by_cases a:0<=k
 .apply yes (decide_eq_true a)
  by_cases b:k<F.paid.length
  .apply yes (decide_eq_true (by rw[Ag];show b));let c:k.toNat<F.paid.length:=by omega
   apply ox (Jj0 (d:=.int (F.paid.getD k.toNat 0)) (by
    simp only[atI,ixN,Ag,if_pos a,if_pos b,Hf];rw[Ao,Ae c,Ej,Ae c];rfl))
   rw[if_pos #[a,b]];show Eo.r
  .apply no (decide_eq_false (by rw[Ag];show b));rw[if_neg λz=>b z.2];show Eo.r
 .apply no (decide_eq_false a);rw[if_neg λz=>a z.1];show Eo.r
def tkR:Rw->Nat
 |.w x=>tk x
 |_=>0
def word:Rw->String
 |.push _=>"push"|.paid _=>"paid"|.w x=>x.nm|.iff=>"if"|.els=>"else"|.fin=>"end"
def Jct(r:Rw)(S:Store):Jaz (rD r) (.int 0) S=.ok (.str (word r)) S:=by cases r<;>simp[rD,word]
theorem Jgx(r:Rw)(S:Store):Xk .get2 (.kd [("drop",1),("swap",2),("add",2),("sub",2),("mul",2),("less",2),("same",2),("not",1),("need",1)]) [.str (word r),.int 0] S=.ok (.int (tkR r)) S:=by
 cases r with
 |w x=>cases x<;>kernel_rfl
 |_=>kernel_rfl
theorem has_enough(n:Nat){pile:List Int}(hp:S[p]? =-(pl pile))(r:Rw):callN T G W (n+1) "has_enough" [rD r,.loc p] S=.ok (.bl (decide (tkR r<=⇑pile))) S:=by
 let a:=Jap hp;rw[Ag]at a;apply re Jev rfl;apply ox (Jct r S);apply no (by cases r with|w x=>cases x<;>rfl|_=>rfl);apply ox (Jct r S);apply oh (Jgx r S);apply ox a;show Az 's' rfl
inductive ITake (S:Store) (p q:Nat) (c:Int) (pile:List Int) (i:Nat) (Z:En) (S':Store):Prop
 |mk (a) (_:Z=[-(.loc p),-(.int c),-(.loc q),a]) (_:S'=S.set p (pl (pile.take (⇑pile-i)))):ITake S p q c pile i Z S'
def Jsr(n:Nat){S:Store}{pile:List Int}(hp:S[p]? =-(pl pile))(hc:c<=⇑pile):
  callN T G W (n+1) "take" [.loc p,.int c] S=.ok (.loc ⇑S) ((S++[pl (pile.drop (⇑pile-c))]).set p (pl (pile.take (⇑pile-c)))):=by
 apply re Jq0 rfl;let b:=Jap hp;rw[Ag]at b;let g:cutD (pile.map D.int) (-((⇑pile:Int)-c)) none=(pile.drop (⇑pile-c)).map D.int:=by
  rw[Jgg 'l',Wu];congr 1
  lia
 apply ox b;apply oh Jao;apply oh (Jda hp);rw[g];let o:p<⇑S:=Jax hp;let j:(S++[pl (pile.drop (⇑pile-c))])[⇑S]? =-(pl (pile.drop (⇑pile-c))):=Jaa;let e:(S++[pl (pile.drop (⇑pile-c))])[p]? =-(pl pile):=Jab hp;generalize S++[pl (pile.drop (⇑pile-c))]=k at j e ⊢;apply ox (Ja0 j);apply od (Wag (ITake k p ⇑S c pile) noR #[none,rfl,by simp[set_same e]] ?_ ?_)
 .intro r l h;let(_,rfl,a,rfl,rfl):=h.nx;show Az rfl ?_;rw[Ag,Jg,show ⇑pile-(⇑pile-(⇑pile-c))=⇑pile-c by lia]
 .rintro i Z l ⟨a,rfl,rfl⟩;rw[A1 'l'];show j
 .rintro i d _ l hd ⟨a,rfl,rfl⟩;let s:i<c:=by
   let:=(Ad.1 hd).1;simp at this
   lia
  let f:pile.take (⇑pile-i)=pile.take (⇑pile-(i+1))++[pile[⇑pile-(i+1)]]:=by
   rw[show ⇑pile-i=⇑pile-(i+1)+1 by lia,C5,Ae 'l'];rfl
  let m:(k.set p (pl (pile.take (⇑pile-i))))[p]? =-(.lst ((pile.take (⇑pile-(i+1))).map D.int++[D.int pile[⇑pile-(i+1)]])):=by
   rw[Jaf e,f];simp only[pl,Bv,Bf,Lr]
  apply tn;apply yes (Ja5 (me:=.pop0) rfl m);apply oh (Jf0 m);show ITake.mk _ rfl (by rw[Rk])
def X5(F:Fx)(t:List Int):Rw->Int
 |.push n=>n
 |.paid k=>Wac F k
 |.w x=>Y1 F (t.getD 0 0) (t.getD 1 0) x
 |_=>0
noncomputable def Yf:Rw->Bool
 |.iff=>false|.els=>false|.fin=>false
 |_=>true
theorem laid_by(n:Nat){S:Store}{t:List Int}(l:S[q]? =-(pl t))(F:Fx)(r:Rw)(d:Yf r=true)(f:⇑t=tkR r):
  callN T G W (n+2) "laid_by" [rD r,.loc q,.loc p,fD F] S=.ok (.loc ⇑S) (S++[pl [X5 F t r]]):=by
 let g:∀{a i},t=a::i->Jaz (.loc q) (.int 0) S=.ok (.int a) S:=λe=>Jak l (by rw[e];show at0 (k:=0) rfl);let m:∀{a b i},t=a::b::i->Jaz (.loc q) (.int 1) S=.ok (.int b) S:=λe=>Jak l (by rw[e];show at0 (k:=1) rfl);cases r with
 |iff=>cases d
 |els=>cases d
 |fin=>cases d
 |push k=>kernel_rfl
 |paid k=>
  apply re Jbn rfl;apply oc (paid_at n F k S);show Eo.r
 |w x=>
  cases x with
  |less=>
   rcases t with _|⟨u,_|⟨v,_|⟨c,t⟩⟩⟩<;>try (cases f;done)
   let j:callN T G W (n+1) "outcome" [.str "less",.int u,.int v] S=.ok (.int (X5 F [u,v] (.w .less))) S:=by
    apply re Jem rfl
    by_cases h:u<v
    .apply yes (decide_eq_true h);show Az (by simp[X5,Y1,h]) rfl
    .apply no (decide_eq_false h);show Az (by simp[X5,Y1,h]) rfl
   apply re Jbn rfl;show oi (k:=false) rfl ?_;apply ox (g rfl);apply ox (m rfl);apply oc j;show Eo.r
  |same=>
   rcases t with _|⟨u,_|⟨v,_|⟨c,t⟩⟩⟩<;>try (cases f;done)
   let j:callN T G W (n+1) "outcome" [.str "same",.int u,.int v] S=.ok (.int (X5 F [u,v] (.w .same))) S:=by
    apply re Jem rfl
    by_cases h:u=v
    .apply yes (beq_iff_eq.2 h);show Az (by simp[X5,Y1,h]) rfl
    .apply no (beq_false_of_ne h);show Az (by simp[X5,Y1,h]) rfl
   apply re Jbn rfl;show oi (k:=false) rfl ?_;apply ox (g rfl);apply ox (m rfl);apply oc j;show Eo.r
  |not=>
   rcases t with _|⟨u,_|⟨v,t⟩⟩<;>try (cases f;done)
   apply re Jbn rfl;show oi (k:=false) rfl ?_;apply ox (g rfl)
   by_cases h:u=0
   .apply yes (beq_iff_eq.2 h);show Az rfl (by simp[X5,Y1,h])
   .apply no (beq_false_of_ne h);show Az rfl (by simp[X5,Y1,h])
  |_=>kernel_rfl
def Zj(F:Fx)(p:List Int)(r:Rw):Bool×List Int:=if ⇑p<tkR r then(false,p)else layP (p.take (⇑p-tkR r)) [X5 F (p.drop (⇑p-tkR r)) r]
theorem Jjz{p:List Int}(h:⇑p<=20):∀{ns:List Int},(layP p ns).2.length<=20:=by
 intro ns
 induction ns generalizing p with
 |nil=>show h
 |cons n ns a=>
  simp only[layP];split
  .show h
  .rename_i b;show a ?_;rw[Al,Cm];let:¬20<=⇑p:=λz=>b (.inr z)
   lia
def Wek(S:Store)(p:Nat)(z:Bool×List Int)(d:D)(a:Store):Prop:=d=.bl z.1/\Keep [p] S a/\a[p]? =-(pl z.2)
def do_row(n:Nat){S:Store}{p:Nat}{pile:List Int}(hp:S[p]? =-(pl pile))(F:Fx)(r:Rw)(h:Yf r=true)(l:⇑pile<=20):
  Sat (callN T G W (n+3) "do_row" [rD r,.loc p,fD F] S) (Wek S p (Zj F pile r)):=by
 apply rn Jld rfl;apply oc (has_enough (n+1) hp r)
 by_cases c:tkR r<=⇑pile
 .let i:p<⇑S:=Jax hp;let g:=Jsr (W:=W) (n+1) hp c;let b:((S++[pl (pile.drop (⇑pile-tkR r))]).set p (pl (pile.take (⇑pile-tkR r))))[⇑S]? =-(pl (pile.drop (⇑pile-tkR r))):=by
   rw[A1 'l'];show Jaa
  let a:((S++[pl (pile.drop (⇑pile-tkR r))]).set p (pl (pile.take (⇑pile-tkR r))))[p]? =-(pl (pile.take (⇑pile-tkR r))):=Jaf (Jab hp);let e:Keep [p] S ((S++[pl (pile.drop (⇑pile-tkR r))]).set p (pl (pile.take (⇑pile-tkR r)))):=(Keep.new _).trans (.set 's');generalize(S++[pl (pile.drop (⇑pile-tkR r))]).set p (pl (pile.take (⇑pile-tkR r)))=f at g b a e;let j:=laid_by (W:=W) n (p:=p) b F r h (by rw[Jg];lia);let(d,m,k,rfl,rfl):=Jru (W:=W) (n+1) (S:=f++[pl [X5 F (pile.drop (⇑pile-tkR r)) r]]) (nD:=.loc ⇑f) (ns:=[X5 F (pile.drop (⇑pile-tkR r)) r]) (Jab a) 'm' (Ja0 Jaa) (.inr #[_,rfl,by let:=e.1;lia,Jaa]);apply no (by rw[decide_eq_true c];rfl);apply ox (Jct r S);apply oh (Jgx r S);apply oc g;apply ox (Jct r f);apply no (by cases r with|w x=>cases x<;>rfl|_=>rfl);apply oc j;apply oc k;unfold Zj;rw[if_neg (Ui.2 c)];show Az rfl #[(e.trans (.new _)).trans (.set 's'),by rw[Jaf (Jab a)]]
 .apply yes (by rw[decide_eq_false c];rfl);unfold Zj;rw[if_pos 'l'];show Az rfl #[.refl,hp]
abbrev Pt:=Bool×Bool
noncomputable def pD(x:Pt):D:=.tup [.bl x.1,.bl x.2]
abbrev pts(st:List Pt):Mi.Obj:=.lst (st.reverse.map pD)
noncomputable def Yl:List Pt->Bool
 |[]=>true
 |x::_=>x.1
def Jb0(x:Pt)(st:List Pt):pts (x::st)=.lst (st.reverse.map pD++[pD x]):=by simp
theorem is_done(n:Nat){st:List Pt}(a:S[q]? =-(pts st)):callN T G W (n+1) "is_done" [.loc q] S=.ok (.bl (Yl st)) S:=by
 apply re Jjc rfl;cases st with
 |nil=>
  apply oo (Jif a);show Eo.r
 |cons x st=>
  rw[Jb0]at a;apply oo (Jif a);apply no 's';apply ox (Jci a);show Eo.r
def X6(p:List Int)(st:List Pt):Rw->Option (Bool×List Int×List Pt)
 |.fin=>match st with|[]=>none|_::s=>-(true,p,s)
 |.els=>match st with|[]=>none|x::s=>-(true,p,(x.2,false)::s)
 |.iff=>if Yl st then(if p=[]then -(false,p,st)else -(true,p.dropLast,(decide (p.getLastD 0≠0),decide (p.getLastD 0=0))::st))else -(true,p,(false,false)::st)
 |_=>none
def Wc1(S:Store)(p q:Nat)(z:Bool×List Int×List Pt)(d:D)(a:Store):Prop:=d=.bl z.1/\Keep [p,q] S a/\a[p]? =-(pl z.2.1)/\a[q]? =-(pts z.2.2)
def Jg7{p:List Int}(h:p≠[]):p=p.dropLast++[p.getLastD 0]:=by
 rcases R9 p with rfl|⟨l,x,rfl⟩
 .show absurd rfl h
 .simp
theorem turn(n:Nat){st:List Pt}(hp:S[p]? =-(pl pile))(a:S[q]? =-(pts st))(c:p≠q)(hs:⇑st<=1000)(r:Rw)(hz:X6 pile st r=-z):
  Sat (callN T G W (n+2) "turn" [.str (word r),.loc q,.loc p] S) (Wc1 S p q z):=by
 let d:∀o,(S.set q o)[p]? =-(pl pile):=λo=>by rw[A1 c.symm];show hp
 let b:∀o,(S.set q o)[q]? =-o:=λo=>Jaf a;apply rn Jqz rfl;cases r with
 |fin=>
  cases st with
  |nil=>cases hz
  |cons x s=>
   cases hz;rw[Jb0]at a;apply yes (Ja5 (me:=.pop0) rfl a);apply oh (Jf0 a);show Az rfl #[.set 's',d _,b _]
 |els=>
  cases st with
  |nil=>cases hz
  |cons x s=>
   cases hz;rw[Jb0]at a;apply ox (Jci a);apply ox (Joq a);show Az rfl #[.set 's',d _,by rw[b,Jb0];rfl]
 |iff=>
  apply oc (is_done n a);simp only[X6]at hz;cases hd:Yl st with
  |false=>
   rw[hd]at hz;cases hz;apply yes (Ja5 (me:=.append) rfl a);apply oh (Jat a (Ja6 'm'));show Az rfl #[.set 's',d _,by rw[b,Jb0];rfl]
  |true=>
   rw[hd,if_pos rfl]at hz;apply oo (Jif hp)
   by_cases g:pile=[]
   .subst g;cases hz;show Az rfl #[.refl,hp,a]
   .rw[if_neg g]at hz;cases hz;apply no (by cases pile with|nil=>show absurd rfl g|cons=>rfl);let f:S[p]? =-(.lst (pile.dropLast.map D.int++[D.int (pile.getLastD 0)])):=by
     rw[hp]
     conv=>lhs;rw[Jg7 g]
     simp
    let e:(S.set p (.lst (pile.dropLast.map D.int)))[q]? =-(pts st):=by rw[A1 c];show a
    apply yes (Ja5 (me:=.pop0) rfl f);apply oh (Jf0 f);apply yes (Ja5 (me:=.append) rfl e);apply oh (Jat e (Ja6 'm'));show Az rfl #[(Keep.set 's').trans (.set 's'),?_,?_]
    .rw[A1 c.symm,Jaf hp]
    .rw[Jaf e,Jb0];change _=-(Obj.lst (_++[.tup [.bl (decide _),.bl (decide _)]]));rw[decide_not];rfl
 |_=>cases hz
def Xo(F:Fx)(p:List Int)(st:List Pt)(r:Rw):Option (Bool×List Int×List Pt):=
 if Yf r then(if Yl st then -((Zj F p r).1,(Zj F p r).2,st)else -(true,p,st))else X6 p st r
noncomputable def Wbt(p:List Int):Bool:= !p.isEmpty&&decide (p.getLastD 0≠0)
def runP(F:Fx):List Rw->List Int->List Pt->Option Bool
 |[],p,_=>-(Wbt p)
 |r::b,p,st=>match Xo F p st r with
  |none=>none
  |some (true,c,a)=>runP F b c a
  |some (false,_,_)=>-false
def Yz(F:Fx)(b:List Rw)(a:List Int):Option Bool:=if(layP [] a).1 then runP F b (layP [] a).2 []else -false
def Jog{p:List Int}{st:List Pt}{z:Bool×List Int×List Pt}(h:⇑p<=20)(hz:Xo F p st r=-z):z.2.1.length<=20/\z.2.2.length<=⇑st+1:=by
 unfold Xo at hz;split at hz
 .split at hz
  .cases hz;show#[?_,by simp];unfold Zj;split
   .show h
   .show Jjz 'm'
  .cases hz;exists h,by simp
 .cases r<;>simp only[X6]at hz<;>try (cases hz;done)
  .split at hz
   .split at hz<;>cases hz<;>exists by simp;lia,by simp
   .cases hz;exists h,by simp
  .cases st<;>cases hz;exists h,by simp
  .cases st<;>cases hz;exists h,by simp;lia
theorem Jyn(r:Rw)(S:Store):cop .inn (.str (word r)) (.tup [.str "if",.str "else",.str "end"]) S=-(!Yf r):=by
 cases r with
 |w x=>cases x<;>rfl
 |_=>rfl
inductive IOpens (F:Fx) (lock:List Rw) (kD:D) (p q:Nat) (B:Store) (b:Bool) (i:Nat) (Z:En) (S:Store):Prop
 |mk (pile st a c) (_:Z=[-(.tup (lock.map rD)),-kD,-(fD F),-(.loc p),-(.loc q),a,c]) (_:Ext B S) (_:S[p]? =-(pl pile)) (_:S[q]? =-(pts st)) (_:⇑pile<=20) (_:⇑st<=i) (_:runP F (lock.drop i) pile st=-b):IOpens F lock kD p q B b i Z S
def ROp(S:Store)(b:Bool)(d:D)(a:Store):Prop:=d=.bl b/\Ext S a
theorem Jjs(n:Nat)(F:Fx)(l:List Rw)(j:List Int)(S:Store)(hl:⇑l<=500)(Y:⇑j<=500){b:Bool}(hb:Yz F l j=-b):
  ∃L,callN T G W (n+4) "opens" [.tup (l.map rD),.tup (j.map D.int),fD F] S=.ok (.bl b) L/\Ext S L:=by
 suffices h:Sat (callN T G W (n+4) "opens" [.tup (l.map rD),.tup (j.map D.int),fD F] S) (ROp S b) by
  let(d,L,e,rfl,x):=h;exists L,e,x
 apply rn Jn8 rfl;let(d,S1,e1,rfl,N):=Jru (W:=W) (n+2) (S:=S++[.lst []]++[.lst []]) (p:=⇑S) (nD:=.tup (j.map D.int)) (g:=none) (pile:=[]) (ns:=j) (Jab Jaa) 'm' rfl (.inl rfl);let x1:Ext S S1:=by rw[N];show((Ext.new _ _).trans (.new _ _)).set (Aj _) _
 let hp1:S1[⇑S]? =-(pl (layP [] j).2):=by rw[N];show Jaf (o:=.lst []) (Jab Jaa)
 let C:S1[(S++[Obj.lst []]).length]? =-(pts []):=by
  rw[N,A1 's'];show Jaa
 clear N;apply oc e1;unfold Yz at hb;cases Y:(layP [] j).1 with
 |false=>
  rw[Y]at hb;cases hb;show Az rfl x1
 |true=>
  rw[Y,if_pos rfl]at hb;rw[Al]at C;apply od (loop (IOpens F l (.tup (j.map D.int)) ⇑S (⇑S+1) S b) (ROp S b) #[_,[],none,none,by rw[Al];rfl,x1,hp1,C,Jjz 's',by simp,hb] ?_)
  .intro fl y h;rcases h.nr with⟨_,rfl,f,st,a,c,rfl,Q,hp,E,u,hst,k⟩|⟨d,rfl,hd⟩
   .simp[runP]at k;let t:=Jap hp;rw[Ag]at t;apply ox t
    by_cases U:f=[]
    .subst U;show Az (by rw[<-k];rfl) Q
    .let v:0<⇑f:=Dh.2 U;let hp':y[⇑S]? =-(.lst (f.dropLast.map D.int++[D.int (f.getLastD 0)])):=by
      rw[hp]
      conv=>lhs;rw[Jg7 U]
      simp
     apply yes (decide_eq_true (Se.2 v));apply ox (Jci hp');show Az ?_ Q;change D.bl (!(f.getLastD 0==0))=_;rw[<-k]
     by_cases h0:f.getLastD 0=0
     .rw[Wbt,h0];simp
     .rw[Wbt,beq_false_of_ne h0,decide_eq_true h0,List.isEmpty_eq_false_iff.2 U];rfl
   .show hd
  .rintro i d _ y hd ⟨f,st,a,c,rfl,Q,hp,E,u,hst,k⟩;rw[Ao]at hd;let(r,hr,rfl):=Ai.1 hd;let hi:i<⇑l:=(Ad.1 hr).1;rw[Bx hi,(Ad.1 hr).2]at k;simp only[runP]at k;let fin:∀{z:Bool×List Int×List Pt} {s:Store},Xo F f st r=-z->Keep [⇑S,⇑S+1] y s->s[⇑S]? =-(pl z.2.1)->s[⇑S+1]? =-(pts z.2.2)->
     If (!z.1) (ROp S b (.bl false) s) (IOpens F l (.tup (j.map D.int)) ⇑S (⇑S+1) S b (i+1) [-(.tup (l.map rD)),-(.tup (j.map D.int)),-(fD F),-(.loc ⇑S),-(.loc (⇑S+1)),-(rD r),-(.bl !z.1)] s):=by
    intro z s H A m w;let x3:Ext S s:=Q.keep A 's';rw[H]at k;let(z1,z2,z3):=z;let g:=Jog u H;cases z1 with
    |false=>
     cases k;show Az rfl x3
    |true=>show IOpens.mk z2 z3 _ _ rfl x3 m w g.1 (by let:=g.2;simp at this;lia) k
   apply tn;apply ox (Jct r y);apply oi (Jyn r y);cases I:Yf r with
   |false=>
    obtain⟨z,H⟩:∃z,X6 f st r=-z:=by
     cases hzz:X6 f st r with
     |some z=>exists z,rfl
     |none=>simp[Xo,I,hzz]at k
    let(_,s,e,rfl,A,m,w):=turn (W:=W) (n+1) hp E 'l' 'l' r H;apply ox (Jct r y);apply oc e;show fin (by simp[Xo,I,H]) A m w
   |true=>
    apply oc (is_done (n+2) E);cases J:Yl st with
    |false=>show fin (z:=(true,f,st)) (by simp[Xo,I,J]) .refl hp E
    |true=>
     let(_,s,e,rfl,A,m):=do_row (W:=W) n hp F r I u;apply oc e;show fin (z:=((Zj F f r).1,(Zj F f r).2,st)) (by simp[Xo,I,J]) (A.mono 's') m (A.get E 's')
end
abbrev PP:=Rdu.PK
structure Kp where
 w:Int
 lk:List Rw
 m:Int
 f:Int
def kpD(k:Kp):D:=.tup [.int k.w,.tup (k.lk.map rD),.int k.m,.int k.f]
abbrev Cs:=List (PP×Kp)
abbrev cp(c:Cs):List (PP×D):=c.map λp=>(p.1,kpD p.2)
abbrev csO(c:Cs):Mi.Obj:=.dtu (cp c)
noncomputable abbrev dp(ns:List Int):List (Int×D):=ns.map λn=>(n,D.bl true)
abbrev dnO(ns:List Int):Mi.Obj:=.dct (dp ns)
structure Dd where
 n:Int
 ins:List (PP×List Int)
 outs:List (Int×List Rw)
def inD(i:PP×List Int):D:=.tup [dK i.1,.tup (i.2.map D.int)]
def ouD(o:Int×List Rw):D:=.tup [.int o.1,.tup (o.2.map rD)]
def ddD(d:Dd):D:=.tup [.int d.n,.tup (d.ins.map inD),.tup (d.outs.map ouD)]
noncomputable def nms(d:Dd):List PP:=d.ins.map (·.1)
noncomputable def Xq(d:Dd):List Int:=d.outs.map (·.1)
def worth(d:Dd):Int:=(Xq d).sum
def wOf(c:Cs)(k:PP):Int:=match dVal c k with|some k=>k.w|none=>0
def spent(c:Cs)(d:Dd):Int:=(d.ins.map λi=>wOf c i.1).sum
def fx(k:Kp)(d:Dd)(h:Int):Fx:=#[h,if h-k.m<0 then 0 else h-k.m,k.w,d.ins.length,d.outs.length,Xq d]
def inW(c:Cs)(d:Dd)(h:Int)(i:PP×List Int):Option String:=match dVal c i.1 with
 |none=>some "gone"
 |some k=>if h<k.f then some "green" else if Yz (fx k d h) k.lk i.2=-true then none else some "shut"
def wordP(c:Cs)(dn:List Int)(d:Dd)(h:Int):Option String:=
 if d.n∈dn then some "known" else if dst (nms d)<(nms d).length then some "twice" else match d.ins.findSome? (inW c d h)with
  |some x=>-x
  |none=>if d.ins≠[]/\spent c d<worth d then some "less" else none
@[simp]noncomputable def wD:Option String->D
 |none=>.non
 |some x=>.str x
def dropO(c:Cs)(d:Dd):Nat->Cs
 |0=>c
 |i+1=>match d.ins[i]? with
  |some x=>dDrop (dropO c d i) x.1
  |none=>dropO c d i
def putO(c:Cs)(d:Dd)(h f:Int):Nat->Cs
 |0=>dropO c d d.ins.length
 |i+1=>match d.outs[i]? with
  |some x=>dPut (putO c d h f i) (d.n,(i:Int)) #[x.1,x.2,h,f]
  |none=>putO c d h f i
def putP(c:Cs)(d:Dd)(h f:Int):Cs:=putO c d h f d.outs.length
def Zg(c:Cs)(d:Dd):Int:=if d.ins=[]then 0 else spent c d-worth d
section
variable {κ α β:Type} [DecidableEq κ] {c:List (κ×α)} {k k':κ} {v:α}
theorem Jbe{f:α->β}:dVal (c.map λp=>(p.1,f p.2)) k=(dVal c k).map f:=by
 unfold dVal;rw[Vz,O4,O4];rfl
def Jqj{f:α->β}:dPut (c.map λp=>(p.1,f p.2)) k (f v)=(dPut c k v).map λp=>(p.1,f p.2):=by
 unfold dPut;rw[Rq];simp only[B8];split
 .rw[Bp,Bp];apply Em;intro p _;simp only[B8];split<;>rfl
 .simp
theorem Jnt{f:α->β}:dDrop (c.map λp=>(p.1,f p.2)) k=(dDrop c k).map λp=>(p.1,f p.2):=by
 unfold dDrop;rw[List.filter_map];rfl
def Jbl(h:dVal c k=-v):(k,v)∈c:=by
 unfold dVal at h;let(p,hp,rfl):=Ai.1 h;let a:=List.find?_some hp;simp only[decide_eq_true_eq]at a;subst a;show List.mem_of_find?_eq_some hp
def Jnr(h:k'≠k):dVal (dDrop c k) k'=dVal c k':=by
 unfold dVal dDrop;rw[List.find?_filter];congr 2;funext p
 by_cases e:p.1=k'
 .simp[e,h]
 .simp[e]
theorem Ji1(b:(c.map (·.1)).Nodup){p:κ×α}(hp:p∈c):dVal c p.1=some p.2:=by
 induction c with
 |nil=>cases hp
 |cons a r d=>
  rw[Bf,C3]at b;unfold dVal;rw[D4];rcases An.1 hp with rfl|h
  .simp
  .let:a.1≠p.1:=λe=>b.1 (e▸Av.2 #[p,h,rfl]);simp only[this,decide_false];show d b.2 h
def Jgf(hp:p∈dPut c k v):p∈c\/p=(k,v):=by
 unfold dPut at hp;split at hp
 .let(q,a,rfl):=Av.1 hp;split
  .rename_i e;show .inr (by rw[e])
  .show .inl a
 .rcases Bn.1 hp with h|h
  .show .inl h
  .show .inr (Ap.1 h)
def Jeg:(dPut c k v).map (·.1)=c.map (·.1)\/((dPut c k v).map (·.1)=c.map (·.1)++[k]/\k∉c.map (·.1)):=by
 unfold dPut;split
 .left;rw[Bp];apply Em;intro p _;simp only[B8];split<;>rfl
 .rename_i h;right;exists by simp,λz=>h ?_;let(p,hp,e):=Av.1 z;show Lh.2 #[p,hp,by simp[e]]
def Jk7(d:(c.map (·.1)).Nodup):((dPut c k v).map (·.1)).Nodup:=by
 rcases Jeg (c:=c) (k:=k) (v:=v)with e|⟨e,h⟩
 .rw[e];show d
 .rw[e,Cw];exists d,by simp,λa f b hb=>by rw[Ap.1 hb];rintro rfl;show h f
def Yo:(dDrop c k).Sublist c:=Mz
end
def Jns:(dVal (dp dn) x).isSome=decide (x∈dn):=by
 unfold dVal;rw[F0,Vz,F0,List.isSome_find?];rw[Lz,Lh];simp
def Jvm(h:x∉dn):dPut (dp dn) x (.bl true)=dp (dn++[x]):=by
 unfold dPut;rw[if_neg]
 .simp
 .rw[Rq,Bool.not_eq_true,N3];intro y a;simp;rintro rfl;show h a
def Jsc(h:S[q]? =-(dnO dn)):cop .inn (.int x) (.loc q) S=-(decide (x∈dn)):=by rw[Jvo h,Jns]
theorem Jsa{ks:Nat->List Int}:∀{n i:Nat},i<n->ks i∈Sbl.dd ks n
 |n+1,i,h=>by
  unfold Sbl.dd
  by_cases e:i=n
  .subst e;split
   .assumption
   .show B1
  .let:=Jsa (ks:=ks) (show i<n by lia);split
   .show this
   .show A7 _ this
theorem Jy4{ks:Nat->List Int}:∀{n:Nat},(Sbl.dd ks n).length=n->∀{i j:Nat},i<j->j<n->ks i≠ks j
 |n+1,h,i,j,a,c=>by
  let d:=Sbl.Jhi ks n;unfold Sbl.dd at h;split at h
  .lia
  .rename_i b;simp only[Bh]at h
   by_cases e:j=n
   .subst e;intro z;show b (z▸Jsa a)
   .show Jy4 (n:=n) 'l' a 'l'
def Jr8{ps:List PP}(h:¬dst ps<⇑ps){i j:Nat}{x y:PP}(a:i<j)(c:ps[i]? =-x)(b:ps[j]? =-y):x≠y:=by
 rintro rfl;let d:=(Ad.1 b).1;let:=Sbl.Jhi (λi=>[(ps.getD i (0,0)).1,(ps.getD i (0,0)).2]) ⇑ps;show Jy4 (ks:=λi=>[(ps.getD i (0,0)).1,(ps.getD i (0,0)).2]) (by unfold dst at h;lia) a d ?_;simp only[Ej,c,b]
def Jaw{d:Dd}(a:wordP c dn d h=none):d.n∉dn/\¬dst (nms d)<(nms d).length/\(∀i∈d.ins,∃k,dVal c i.1=-k):=by
 unfold wordP at a;split at a
 .cases a
 .rename_i b;split at a
  .cases a
  .rename_i e;exists b,e,λi f=>?_;split at a
   .cases a
   .rename_i g;let:=Ki.1 g i f;unfold inW at this;split at this
    .cases this
    .exists _,‹_›
theorem Jgc{d:Dd}(hd:¬dst (nms d)<(nms d).length):∀{i:Nat},(∀j<i,∀x,d.ins[j]? =-x->x.1≠k)->dVal (dropO c d i) k=dVal c k
 |0,_=>rfl
 |i+1,h=>by
  unfold dropO;split
  .rename_i x a;rw[Jnr (λe=>h i 'l' x a e.symm)];show Jgc hd λj b=>h j 'l'
  .show Jgc hd λj b=>h j 'l'
def Jnl{c:Cs}{d:Dd}(hd:¬dst (nms d)<(nms d).length){i:Nat}{x:PP×List Int}(a:d.ins[i]? =-x):dVal (dropO c d i) x.1=dVal c x.1:=by
 show Jgc hd λj b y e=>Jr8 hd b (by simp[nms,e]) (by simp[nms,a])
def Jl7{c:Cs}(h:k∉c.map (·.1)):dPut c k v=c++[(k,v)]:=by
 unfold dPut;show if_neg λz=>h ?_;let(p,hp,e):=Lh.1 z;show Av.2 #[p,hp,of_decide_eq_true e]
noncomputable def mkL(d:Dd):List PP:=(Bz d.outs.length).map λ(j:Nat)=>(d.n,(j:Int))
noncomputable def mkO(d:Dd)(h f:Int):Cs:=d.outs.zipIdx.map λo=>((d.n,(o.2:Int)),#[o.1.1,o.1.2,h,f])
def kpt(c:Cs)(k:PP):PP×Kp:=(k,(dVal c k).getD #[0,[],0,0])
noncomputable def sans(c:Cs)(ks:List PP):Cs:=c.filter λp=>decide (p.1∉ks)
def ntD(c:Cs)(d:Dd):D:=.tup [ddD d,.tup ((nms d).map λi=>.tup [dK i,kpD (kpt c i).2])]
section
variable {c cu:Cs} {dn:List Int} {d:Dd} {h f:Int} {k:PP}
def Jrf{ks:List PP}(a:ks[i]? =-k):sans c (ks.take (i+1))=dDrop (sans c (ks.take i)) k:=by
 unfold sans dDrop;rw[List.filter_filter];show List.filter_congr λp _=>?_;rw[C5,a];simp[and_comm]
theorem drop_eq:∀i,i<=d.ins.length->dropO c d i=sans c ((nms d).take i)
 |0,_=>(Gb.2 λ_ _=>by simp).symm
 |i+1,a=>by
  let e:d.ins[i]? =some d.ins[i]:=Ae a;rw[Jrf (k:=d.ins[i].1) (by rw[nms,Ao,e];rfl),<-drop_eq i (Ut a),dropO,e]
def Jfz:(mkO d h f).map (·.1)=mkL d:=by
 show G9 λi=>?_;simp only[mkO,mkL,Ao,Mm,List.getElem?_range]
 by_cases a:i<d.outs.length
 .simp[a]
 .simp[a]
def Fr(c:Cs)(dn:List Int):Prop:=∀p∈c,p.1.1∈dn
def Fr.ne(g:Fr c dn)(a:d.n∉dn)(b:k∈mkL d):k∉c.map (·.1):=λz=>by
 let(p,hp,rfl):=Av.1 z;let(j,_,e):=Av.1 b;let:=g p hp;rw[<-e]at this;show a this
def Jfx(h:k∈(sans c ks).map (·.1)):k∈c.map (·.1)/\k∉ks:=by
 let(p,hp,rfl):=Av.1 h;let(a,b):=E4.1 hp;exists Av.2 #[p,a,rfl],of_decide_eq_true b
def Jx4(a:i<d.outs.length):(mkL d)[i]? =-(d.n,(i:Int)):=by simp[mkL,a]
def Jus:(mkL d).Nodup:=by
 unfold mkL;show Cg.2 (Lc.imp λh e=>h (by injection e with _ e;show Int.ofNat_inj.1 e))
theorem Jrm(g:Fr c dn)(b:d.n∉dn):∀i,i<=d.outs.length->putO c d h f i=sans c (nms d)++(mkO d h f).take i
 |0,_=>by rw[putO,drop_eq _ (Aj _),Ml,Co,By (by simp[nms])]
 |i+1,a=>by
  let e:d.outs[i]? =some d.outs[i]:=Ae a;let n:(mkO d h f)[i]? =-((d.n,(i:Int)),#[d.outs[i].1,d.outs[i].2,h,f]):=by simp[mkO,Ao,Mm,e]
  rw[putO,e,Jrm g b i (Ut a),C5,n];dsimp only;rw[Jl7,Ar]
  .rfl
  .rw[Bv,M8,Jfz,Bn];rintro(z|z)
   .show g.ne b (As (Jx4 a)) (Jfx z).1
   .let(j,o,e):=Qi.1 z;let l:i<(mkL d).length:=by simp[mkL];show a
    let m:=Jx4 a;rw[Ae l]at m;show B7.1 (Jus (d:=d)) j i (by omega) l (by omega) (e.trans (Bj m).symm)
def Jdl(g:Fr c dn)(a:d.n∉dn):putP c d h f=sans c (nms d)++mkO d h f:=by
 rw[putP,Jrm g a _ (Aj _),By (by simp[mkO])]
def Jxx(b:¬dst (nms d)<(nms d).length):(nms d).Nodup:=B7.2 λi j e g a=>Jr8 b a (Ae e) (Ae g)
def Jx0{c:Cs}(h:(c.map (·.1)).Nodup):c.Nodup:=List.Pairwise.of_map (·.1) (λ_ _ h e=>h (by rw[e])) h
def Jyb(ks:List PP):(ks.map (kpt c)).map (·.1)=ks:=by rw[Bp];show Ro _
def Jf8(g:(c.map (·.1)).Nodup)(m:¬dst (nms d)<(nms d).length)(n:∀i∈d.ins,∃k,dVal c i.1=-k):(sans c (nms d)++(nms d).map (kpt c)).Perm c:=by
 show(P1 (Jx0 ?_) (Jx0 g)).mpr λp=>?_
 .rw[Bv,Jyb,Cw];exists g.sublist (Mz.map _),Jxx m,λa o b hb e=>(Jfx o).2 (e▸hb)
 .simp only[Bn,sans,E4,decide_eq_true_eq,Av];let j:∀x∈nms d,kpt c x∈c:=λx l=>by
   let(i,r,rfl):=Av.1 l;let(v,e):=n i r;rw[kpt,e];show Jbl e
  constructor
  .rintro(z|⟨x,l,rfl⟩)
   .show z.1
   .show j x l
  .intro hp
   by_cases e:p.1∈nms d
   .show .inr #[p.1,e,by rw[kpt,Ji1 g hp];rfl]
   .show .inl #[hp,e]
noncomputable def tot(c:Cs):Int:=(c.map (·.2.w)).sum
theorem Jo5{xs ys:List Int}(h:xs.Perm ys):xs.sum=ys.sum:=by
 induction h with
 |nil=>rfl
 |cons x _ a=>simp[a]
 |swap x y l=>simp;lia
 |trans _ _ b e=>show b.trans e
def Fr.put(g:Fr c dn)(a:d.n∉dn):Fr (putP c d h f) (dn++[d.n]):=λp hp=>by
 rw[Jdl g a]at hp;rcases Bn.1 hp with z|z
 .show Dt _ (g p (E4.1 z).1)
 .let(o,_,rfl):=Av.1 z;show Bw _ (Ap.2 rfl)
def Jsq(g:Fr c dn)(b:(c.map (·.1)).Nodup)(j:wordP c dn d h=none):tot (putP c d h' f)=tot c-spent c d+worth d:=by
 let(l,m,a):=Jaw j;let n:=Jo5 ((Jf8 b m a).map (·.2.w));let o:(((nms d).map (kpt c)).map (·.2.w)).sum=spent c d:=by
  unfold spent nms;rw[Bp,Bp];congr 1;show Em λi p=>?_;let(v,e):=a i p;simp[kpt,wOf,e]
 let r:((mkO d h' f).map (·.2.w)).sum=worth d:=by
  unfold worth Xq mkO;rw[Bp];congr 1;show G9 λi=>?_;simp only[Ao,Mm];cases d.outs[i]? <;>rfl
 unfold tot;rw[Jdl g l,Bv,My,r];rw[Bv,My,o]at n
 lia
structure Mk(md sp:List PP)(c:Cs)(dn:List Int):Prop where
 pm:md.Perm (c.map (·.1)++sp)
 nd:md.Nodup
 dn:∀k∈md,k.1∈dn
def Mk.fr(g:Mk md sp c dn):Fr c dn:=λp hp=>g.dn _ (g.pm.mem_iff.2 (Dt _ (Av.2 #[p,hp,rfl])))
def Mk.kn(g:Mk md sp c dn):(c.map (·.1)++sp).Nodup:=g.pm.nodup_iff.1 g.nd
def Mk.put(g:Mk md sp c dn)(m:wordP c dn d h=none):Mk (md++mkL d) (sp++nms d) (putP c d h' f) (dn++[d.n]):=by
 let(i,n,o):=Jaw m;let kn:=Cw.1 g.kn;exists ?_,Cw.2 #[g.nd,Jus,λa p b hb e=>?_],λk r=>?_
 .let l:=(Jf8 kn.1 n o).map (·.1);rw[Bv,Jyb]at l;rw[Jdl g.fr i,Bv,Jfz];show((g.pm.trans (l.symm.append_right sp)).append_right (mkL d)).trans ?_;generalize(sans c (nms d)).map (·.1)=a;generalize nms d=b;generalize mkL d=e;rw[Ar,Ar,Ar];show Ep a ?_;show(L4 (l₁:=b)).trans ?_;rw[Ar];show(L4 (l₁:=sp)).trans ?_;rw[Ar];show Ep e L4
 .let(j,_,s):=Av.1 hb;show i ?_;let:=g.dn a p;rwa[e,<-s]at this
 .rcases Bn.1 r with z|z
  .show Dt _ (g.dn k z)
  .let(j,_,rfl):=Av.1 z;show Bw _ (Ap.2 rfl)
def Mk.left{md:List PP}(g:Mk md sp c dn):(md.filter λk=>decide (k∉sp)).Perm (c.map (·.1)):=by
 let kn:=Cw.1 g.kn;let e:(c.map (·.1)).filter (λk=>decide (k∉sp))=c.map (·.1):=Gb.2 λa b=>decide_eq_true λz=>kn.2.2 a b a z rfl;let i:sp.filter (λk=>decide (k∉sp))=[]:=Iy.2 λa b=>by erw[b]
 let:=g.pm.filter λk=>decide (k∉sp);rwa[Ig,e,i,Co]at this
def Jgv(g:Fr c dn)(i:(c.map (·.1)).Nodup)(j:wordP c dn d h=none)(p:cu.Perm (putP c d h' f)):(sans cu (mkL d)++(nms d).map (kpt c)).Perm c:=by
 let(e,l,m):=Jaw j;show Sv (Ia _ ?_) (Jf8 i l m);let n:(sans c (nms d)).filter (λp=>decide (p.1∉mkL d))=sans c (nms d):=Gb.2 λa b=>decide_eq_true λz=>g.ne e z (Jfx (Av.2 #[a,b,rfl])).1;let o:(mkO d h' f).filter (λp=>decide (p.1∉mkL d))=[]:=Iy.2 λa b=>by
  let:a.1∈mkL d:=by rw[<-Jfz (h:=h') (f:=f)];show Av.2 #[a,b,rfl]
  erw[this]
 let:=p.filter λp=>decide (p.1∉mkL d);rwa[Jdl g e,Ig,n,o,Co]at this
end
structure Hd(S:Store)(L u q:Nat)(c:Cs)(dn:List Int):Prop where
 l:S[L]? =-(.ins "Hoard" [("unspent",.loc u),("done",.loc q)])
 u:S[u]? =-(csO c)
 q:S[q]? =-(dnO dn)
section
variable {W n:Nat} {S S':Store} {L u q:Nat} {c:Cs} {dn:List Int} {ps:List Nat} {d:Dd} {h:Int}
def Hd.keep(a:Hd S L u q c dn)(k:Keep ps S S')(b:L∉ps)(e:u∉ps)(f:q∉ps):Hd S' L u q c dn:=#[k.get a.l b,k.get a.u e,k.get a.q f]
def Hd.ext(a:Hd S L u q c dn)(k:Ext S S'):Hd S' L u q c dn:=#[k.get a.l,k.get a.u,k.get a.q]
theorem Hd.fu(a:Hd S L u q c dn):Wai "Hoard" "unspent" (.loc L) S=.ok (.loc u) S:=Jbv a.l rfl
theorem Hd.fq(a:Hd S L u q c dn):Wai "Hoard" "done" (.loc L) S=.ok (.loc q) S:=Jbv a.l rfl
def Hd.rc(a:Hd S L u q c dn)(b:(m=="unspent")=false:=by rfl)(e:(m=="done")=false:=by rfl):isRec S (.loc L) "Hoard" m=true:=Jp0 a.l (by simp[Fh,b,e])
theorem is_maker:callN T G W (n+1) "is_maker" [ddD d] S=.ok (.bl (decide (d.ins=[]))) S:=by
 apply re Jib rfl;show Az (by change D.bl (((d.ins.map inD).length:Int)==0)=_;cases h:d.ins<;>simp;lia) rfl
def spent_by(a:d.ins.length<=3):callN T G W (n+1) "spent_by" [ddD d] S=.ok (.loc ⇑S) (S++[.lst ((nms d).map dK)]):=by
 apply re Jh1 rfl;apply ox (Ja1 (xs:=d.ins) inD (λi=>dK i.1) 'l' (.inl rfl) (λx _=>by apply tc;show Az rfl rfl));show Az rfl (by rw[nms,Bp];rfl)
def Jbg(b:d.outs.length<=3)(a:∀x∈d.outs,Xw C (.tvar 0) .nul el (ouD x) (Xt 1 [] Z) S=.ok (-(.int x.1)) S):Za C 1 [] (.tvar 0) .nul el Z (none,d.outs.map ouD) S=.ok (.loc ⇑S) (S++[pl (Xq d)]):=by
 rw[Ja1 (xs:=d.outs) ouD (λi=>.int i.1) 'l' (.inl rfl) a];simp[Xq,B8]
def Jdk(ns:List Int):Xh .sum1 [.loc ⇑S] (S++[pl ns])=.ok (.int ns.sum) (S++[pl ns]):=by
 let:=Jbq (S:=S) id ns;simp only[id,List.map_id]at this;show this
def worth_of(a:d.outs.length<=3):callN T G W (n+1) "worth_of" [ddD d] S=.ok (.int (worth d)) (S++[pl (Xq d)]):=by
 apply re Jh0 rfl;apply ox (Jbg a (λx _=>by apply tc;show Az rfl rfl));apply ox (Jdk _);show Eo.r
theorem Jrv(xs:List PP):Yw kyD (xs.map dK)=-xs:=by
 induction xs with
 |nil=>rfl
 |cons a r b=>show Jsg rfl b
def Jjx{xs:List PP}(a:S[l]? =-(.lst (xs.map dK)))(b:⇑xs<=1000):Waf (.loc l) S=.ok (.int (dst xs)) S:=by
 simp only[Waf,Jbi a,Hf,Jrv,if_pos (show ⇑xs<1001 by lia)]
theorem has_twice{xs:List PP}(a:S[l]? =-(.lst (xs.map dK)))(b:⇑xs<=3):callN T G W (n+1) "has_twice" [.loc l] S=.ok (.bl (decide (dst xs<⇑xs))) S:=by
 apply re Jgp rfl;apply ox (Jjx a 'l');apply ox (Jap a);show Az (by rw[Ag];simp) rfl
theorem facts_of(a:d.outs.length<=3):callN T G W (n+1) "facts_of" [kpD k,ddD d,.int h] S=.ok (fD (fx k d h)) (S++[pl (Xq d)]):=by
 apply re Jic rfl;apply oh Jao;apply ox (Jbg a (λx _=>by apply tc;show Az rfl rfl));apply ox (Jan Jaa);show Az (by simp[fD,fx,Xq,ddD]) rfl
def LkOk(lk:List Rw):Prop:=⇑lk<=6/\∀F a,∃b,Yz F lk a=-b
structure Ok1(p:PP×Kp):Prop where
 a:0<=p.1.1/\p.1.1<345/\0<=p.1.2/\p.1.2<3
 w:p.2.w<=10^40
 lk:LkOk p.2.lk
structure Gc(c:Cs):Prop where
 nd:(c.map (·.1)).Nodup
 ok:∀p∈c,Ok1 p
structure Gd(dn:List Int):Prop where
 nd:dn.Nodup
 ok:∀x∈dn,0<=x/\x<345
structure DdOk(d:Dd):Prop where
 n:0<=d.n/\d.n<345
 i:d.ins.length<=3
 o:d.outs.length<=3
 k:∀i∈d.ins,i.2.length<=3
 w:∀o∈d.outs,o.1<=10^40/\LkOk o.2
theorem fault_of_in(a:Hd S L u q c dn)(g:Gc c)(g2:DdOk d)(l:i∈d.ins):∃S',callN T G W (n+5) "Hoard.fault_of_in" [.loc L,inD i,ddD d,.int h] S=.ok (wD (inW c d h i)) S'/\Ext S S':=by
 apply rx Jby rfl;let f:=Jmu (p:=i.1) a.u;rw[show cp c=c.map λp=>(p.1,kpD p.2)from rfl,Jbe]at f;apply ox a.fu;apply yes (Wat (me:=.get1) rfl a.u);apply oh f;simp only[inW];cases m:dVal c i.1 with
 |none=>show Az rfl (.refl _)
 |some k=>
  dsimp only
  by_cases e:h<k.f
  .rw[if_pos e];apply yes (decide_eq_true e);show Az rfl (.refl _)
  .rw[if_neg e];apply no (decide_eq_false e);let j:=g.ok _ (Jbl m);let(b,hb):=j.lk.2 (fx k d h) i.2;let(s,o,r):=Jjs (W:=W) n (fx k d h) k.lk i.2 (S++[pl (Xq d)]) (by let:=j.lk.1;simp at this;lia) (by let:=g2.k i l;lia) hb;apply oc (facts_of (k:=k) g2.o);apply oc o;rw[hb];cases b<;>show Az rfl ((Ext.new _ _).trans r)
def worth_spent(a:Hd S L u q c dn)(f:d.ins.length<=3)(g:∀i∈d.ins,∃k,dVal c i.1=-k):callN T G W (n+2) "Hoard.worth_spent" [.loc L,ddD d] S=.ok (.int (spent c d)) (S++[.lst ((nms d).map dK),pl ((nms d).map (wOf c))]):=by
 apply re Jbx rfl;apply oc (spent_by f);apply ox (Ja0 Jaa);let b:=a.ext (.new S [.lst ((nms d).map dK)]);apply ox (Ja1 (xs:=nms d) dK (λi=>.int (wOf c i)) (by simp[nms];lia) (.inr #[_,rfl,Jaa]) (λx j=>by
  let(i,l,rfl):=Av.1 j;let(k,e):=g i l;apply tc;apply ox b.fu;apply ox (Jf4 b.u (d:=kpD k) (by rw[Jbe,e];rfl));show Az (by rw[wOf,e]) rfl))
 let:=Jdk (S:=S++[.lst ((nms d).map dK)]) ((nms d).map (wOf c));simp only[pl,Bp,B8]at this;apply ox this;show Az (by simp[spent,nms,B8]) 's'
end
section
variable {W n:Nat} {S S':Store} {L u q:Nat} {c:Cs} {dn:List Int} {ps:List Nat} {d:Dd} {h f:Int}
theorem sub_len{b:Type}[DecidableEq b]:∀{l m:List b},l.Nodup->(∀x∈l,x∈m)->⇑l<=⇑m
 |[],m,_,_=>Dk _
 |x::l,m,a,hs=>by
  rw[C3]at a;let e:=hs x B1;let:=sub_len (m:=m.erase x) a.2 λy g=>(Ss (by rintro rfl;show a.1 g)).mpr (hs y (A7 _ g));rw[Qv e]at this;let:=Rp e;simp only[Bh];omega
noncomputable def nums:List Int:=(Bz 345).map λ(i:Nat)=>(i:Int)
def Jjt(h:0<=x/\x<345):x∈nums:=Av.2 #[x.toNat,by simp;lia,by lia]
def Gd.len(g:Gd dn):⇑dn<=345:=by
 let:=sub_len g.nd λx a=>Jjt (g.ok x a);rwa[nums,Ag,Ei]at this
def Gc.len(g:Gc c):⇑c<=1035:=by
 let:=sub_len (m:=nums.map (λi=>(i,(0:Int)))++(nums.map (λi=>(i,(1:Int)))++nums.map λi=>(i,(2:Int)))) g.nd λx j=>by
  let(p,hp,rfl):=Av.1 j;let z:=(g.ok p hp).a;let b:=Jjt #[z.1,z.2.1];simp only[Bn,Av];rcases(show p.1.2=0\/p.1.2=1\/p.1.2=2 by lia)with e|e|e
  .show .inl #[_,b,by rw[<-e]]
  .show .inr (.inl #[_,b,by rw[<-e]])
  .show .inr (.inr #[_,b,by rw[<-e]])
 simp only[Ag,Al,nums,Ei]at this
 lia
def Gc.apt(g:Gc c):aptB ((cp c).map (·.1))=true:=by
 simp only[aptB,cp,Bp,B8,Am,Dg,decide_eq_true_eq];exists λp hp=>?_,g.nd;let(x,b,rfl):=Av.1 hp;let:=(g.ok x b).a;exists#[#[this.1,this.2.1],this.2.2.1],this.2.2.2
def Gc.drop(g:Gc c)(k:PP):Gc (dDrop c k):=#[g.nd.sublist (Yo.map _),λp hp=>g.ok p (Yo.subset hp)]
def Gc.put(g:Gc c)(a:Ok1 (k,v)):Gc (dPut c k v):=#[Jk7 g.nd,λp hp=>(Jgf hp).elim (g.ok p) λe=>e▸a]
theorem Gc.dropO(g:Gc c):∀i,Gc (dropO c d i)
 |0=>g
 |i+1=>by
  unfold K27.dropO;split
  .show(g.dropO i).drop _
  .show g.dropO i
theorem Gc.putO(g:Gc c)(g2:DdOk d):∀i,Gc (putO c d h f i)
 |0=>g.dropO _
 |i+1=>by
  unfold K27.putO;split
  .rename_i x a;let e:=(Ad.1 a).1;let:=g2.o;let b:=g2.w x (As a);show(g.putO g2 i).put #[#[g2.n.1,g2.n.2,Nr _,by change(i:Int)<3;lia],b.1,b.2]
  .show g.putO g2 i
def Gd.add(g:Gd dn)(i:x∉dn)(j:0<=x/\x<345):Gd (dn++[x]):=#[by
 rw[Cw];show#[g.nd,by simp,λa k b hb=>by rw[Ap.1 hb];rintro rfl;show i k],λy l=>(Bn.1 l).elim (g.ok y) λe=>Ap.1 e▸j]
def did(a:Hd S L u q c dn):callN T G W (n+1) "Hoard.did" [.loc L,.int x] S=.ok (.bl (decide (x∈dn))) S:=by
 apply re Jgs rfl;apply ox a.fq;apply oi (Jsc a.q);show Eo.r
inductive IFau (S:Store) (L:Nat) (c:Cs) (d:Dd) (h:Int) (i:Nat) (Z:En) (S':Store):Prop
 |mk (x y) (_:Z=[-(.loc L),-(ddD d),-(.int h),x,y]) (_:Ext S S') (_:d.ins.findSome? (inW c d h)=(d.ins.drop i).findSome? (inW c d h)):IFau S L c d h i Z S'
inductive RFau (S:Store) (c:Cs) (d:Dd) (h:Int) (r:D) (S':Store):Prop
 |mk (x) (_:d.ins.findSome? (inW c d h)=-x) (_:r=.str x) (_:Ext S S'):RFau S c d h r S'
def fault(a:Hd S L u q c dn)(g:Gc c)(g2:DdOk d):∃S',callN T G W (n+6) "Hoard.fault" [.loc L,ddD d,.int h] S=.ok (wD (wordP c dn d h)) S'/\Ext S S':=by
 apply rx Jeq rfl;apply yes a.rc;apply oc (did (x:=d.n) a);unfold wordP
 by_cases j:d.n∈dn
 .apply yes (decide_eq_true j);rw[if_pos j];show Az rfl (.refl _)
 apply no (decide_eq_false j);rw[if_neg j];apply oc (spent_by g2.i);apply oc (has_twice (xs:=nms d) Jaa (by simp[nms];show g2.i))
 by_cases l:dst (nms d)<(nms d).length
 .apply yes (decide_eq_true l);rw[if_pos l];show Az rfl (.new _ _)
 apply no (decide_eq_false l);rw[if_neg l];apply od (loop (IFau S L c d h) (RFau S c d h) #[none,none,rfl,.new _ _,by simp] ?_)
 .intro Q t H;rcases H.nr with⟨_,rfl,x,y,rfl,e,b⟩|⟨r,rfl,x,b,rfl,e⟩
  .rw[Ag,Fj]at b;let I:=Ki.1 b;let J:∀i∈d.ins,∃k,dVal c i.1=-k:=λi p=>by
    let:=I i p;unfold inW at this;split at this
    .cases this
    .exists _,‹_›
   rw[b];apply oc is_maker
   by_cases m:d.ins=[]
   .apply no (by rw[decide_eq_true m];rfl);rw[if_neg λz=>z.1 m];show Az rfl e
   .apply yes (by rw[decide_eq_false m];rfl);let v:=(a.ext e).ext (.new t [pl (Xq d)]);apply oc (worth_of g2.o);apply yes v.rc;apply oc (worth_spent v g2.i J)
    by_cases o:spent c d<worth d
    .apply yes (decide_eq_true o);rw[if_pos #[m,o]];show Az rfl ((e.trans (.new _ _)).trans (.new _ _))
    .apply no (decide_eq_false o);rw[if_neg λz=>o z.2];show Az rfl ((e.trans (.new _ _)).trans (.new _ _))
  .show Az (by rw[b];rfl) e
 .rintro i z _ t hd ⟨x,y,rfl,e,b⟩;rw[Ao]at hd;let(r,s,rfl):=Ai.1 hd;let p:i<d.ins.length:=(Ad.1 s).1;rw[Bx p,(Ad.1 s).2,Th]at b;let A:=a.ext e;let(U,N,C):=fault_of_in (W:=W) (n:=n) (h:=h) A g g2 (As s);apply tn;apply yes A.rc;apply oc N;cases E:inW c d h r with
  |none=>
   rw[E]at b;show IFau.mk _ _ rfl (e.trans C) b
  |some w=>
   rw[E]at b;show RFau.mk w b rfl (e.trans C)
def fee(a:Hd S L u q c dn)(g2:DdOk d)(e:∀i∈d.ins,∃k,dVal c i.1=-k):∃S',callN T G W (n+3) "Hoard.fee" [.loc L,ddD d] S=.ok (.int (Zg c d)) S'/\Ext S S':=by
 apply rx Jgr rfl;apply oc is_maker;unfold Zg
 by_cases b:d.ins=[]
 .apply yes (decide_eq_true b);rw[if_pos b];show Az rfl (.refl _)
 .apply no (decide_eq_false b);rw[if_neg b];apply yes a.rc;apply oc (worth_spent a g2.i e);apply oc (worth_of g2.o);apply oh Jao;show Az rfl ((Ext.new _ _).trans (.new _ _))
def Jou(a:d.outs.length<=3):Zp (.int (d.outs.length:Int)) S=.ok (none,(Bz d.outs.length).map λ(i:Nat)=>.int i) S:=by
 rw[Jd0 'l' 'l'];simp
theorem Jx7:Xw C (.tvar 0) .nul (.tup (.cns (.idx (.var 1) (.cst (.int 0))) (.cns (.var 0) .nul))) (.int x) (Xt 1 [0] [-(ddD d)]) S=.ok (-(dK (d.n,(x:Int)))) S:=by
 apply tc;show Az rfl rfl
def Jtq(a:k<=1000):(Bz k).length<=1000000:=by rw[Ei];show B3 a 'd'
def made_by(a:d.outs.length<=3):callN T G W (n+1) "made_by" [ddD d] S=.ok (.loc ⇑S) (S++[.lst ((Bz d.outs.length).map λ(j:Nat)=>dK (d.n,(j:Int)))]):=by
 let e:=Jou (S:=S) a;rw[<-Ag (f:=ouD)]at e;apply re Jja rfl;apply ox e;rw[Ag];apply ox (Ja1 (xs:=Bz d.outs.length) (λ(i:Nat)=>D.int i) (λ(j:Nat)=>dK (d.n,(j:Int))) (Jtq 'l') (.inl rfl) (λx _=>Jx7));show Eo.r
end
section
variable {W n:Nat} {S S':Store} {L u q:Nat} {c:Cs} {dn:List Int} {ps:List Nat} {d:Dd} {h f:Int}
def Hd.uq(a:Hd S L u q c dn):u≠q:=by
 rintro rfl;let:=a.u.symm.trans a.q;cases this
def Hd.lu(a:Hd S L u q c dn):L≠u/\L≠q:=by
 constructor<;>rintro rfl
 .let:=a.l.symm.trans a.u;cases this
 .let:=a.l.symm.trans a.q;cases this
def pop_at(a:S[u]? =-(csO c))(b:dVal c k=-v):Xk .pop1 (.loc u) [dK k] S=.ok (kpD v) (S.set u (csO (dDrop c k))):=by
 let:=Jms (p:=k) (d:=kpD v) a (by rw[Jbe,b];rfl);rw[this,Jnt]
def Jl9(a:S[u]? =-(csO c))(g:Gc c):Xz (.loc u) (dK k) (kpD v) S=.ok () (S.set u (csO (dPut c k v))):=by
 rw[Jor a (by rw[Ag];let:=g.len;unfold Line;lia),Jqj]
def Jl8(a:S[q]? =-(dnO dn))(g:Gd dn)(b:x∉dn):Xz (.loc q) (.int x) (.bl true) S=.ok () (S.set q (dnO (dn++[x]))):=by
 rw[Jos a (by rw[Ag];let:=g.len;unfold Line;lia),Jvm b]
def Jnm{x:PP×List Int}(a:d.ins[i]? =-x):dropO c d (i+1)=dDrop (dropO c d i) x.1:=by simp only[dropO,a]
def Jrn{x:Int×List Rw}(a:d.outs[i]? =-x):putO c d h f (i+1)=dPut (putO c d h f i) (d.n,(i:Int)) #[x.1,x.2,h,f]:=by simp only[putO,a]
inductive IPop (S:Store) (L u:Nat) (c:Cs) (d:Dd) (h f:Int) (nt:D) (i:Nat) (Z:En) (S':Store):Prop
 |mk (x) (_:Z=[-(.loc L),-(ddD d),-(.int h),-(.int f),-.non,-nt,x,none]) (_:Keep [u] S S') (_:S'[u]? =-(csO (dropO c d i))):IPop S L u c d h f nt i Z S'
inductive IPut (S:Store) (L u:Nat) (c:Cs) (d:Dd) (h f:Int) (nt:D) (i:Nat) (Z:En) (S':Store):Prop
 |mk (x y) (_:Z=[-(.loc L),-(ddD d),-(.int h),-(.int f),-.non,-nt,x,y]) (_:Keep [u] S S') (_:S'[u]? =-(csO (putO c d h f i))):IPut S L u c d h f nt i Z S'
inductive PDo (S:Store) (L u q:Nat) (c:Cs) (dn:List Int) (d:Dd) (h f:Int) (nt:D) (S':Store):Prop
 |mk (_:Keep [u,q] S S') (_:Hd S' L u q (putP c d h f) (dn++[d.n])) (_:nt=ntD c d):PDo S L u q c dn d h f nt S'
def Jvi(a:Hd S L u q c dn)(g:Gc c)(gd:Gd dn)(g2:DdOk d)(hw:wordP c dn d h=none):Sat (callN T G W (n+7) "Hoard.do" [.loc L,ddD d,.int h,.int f] S) (PDo S L u q c dn d h f):=by
 apply rn Jie rfl;let(hn,h2,Q):=Jaw hw;let(S1,e1,x1):=fault (W:=W) (n:=n) (h:=h) a g g2;rw[hw]at e1;let a1:=a.ext x1;apply yes a.rc;apply oc e1;apply oc (spent_by g2.i);apply ox (Ja0 Jaa);let U:=a1.ext (.new S1 [.lst ((nms d).map dK)]);let r:(nms d).length=d.ins.length:=by simp[nms]
 let i3:=g2.i;apply ox (Ja1 (xs:=nms d) dK (λi=>.tup [dK i,kpD (kpt c i).2]) 'l' (.inr #[_,rfl,Jaa]) (λx hx=>by
  let(i,p,rfl):=Av.1 hx;let(k,s):=Q i p;apply tc;apply ox U.fu;apply ox (Jf4 U.u (d:=kpD k) (by rw[Jbe,s];rfl));show Az (by rw[kpt,s];rfl) rfl))
 apply ox (Jan Jaa);generalize hnt:(D.tup ((nms d).map λi=>.tup [dK i,kpD (kpt c i).2]))=t;let a3:=U.ext (.new (S1++[.lst ((nms d).map dK)]) [.lst ((nms d).map λi=>.tup [dK i,kpD (kpt c i).2])]);generalize w:S1++[.lst ((nms d).map dK)]++[.lst ((nms d).map λi=>.tup [dK i,kpD (kpt c i).2])]=l at a3;let x3:Ext S l:=by rw[<-w];show(x1.trans (.new _ _)).trans (.new _ _)
 clear w U;apply oc (spent_by g2.i);let b:=a3.ext (.new l [.lst ((nms d).map dK)]);let x5:=x3.trans (.new l [.lst ((nms d).map dK)]);let m:(l++[Obj.lst ((nms d).map dK)])[⇑l]? =-(.lst ((nms d).map dK)):=Jaa;let hul:u<⇑l:=Jax a3.u;generalize l++[Obj.lst ((nms d).map dK)]=S5 at b x5 m;apply ox (Ja0 m);apply od (Wag (IPop S5 L u c d h f (.tup [ddD d,t])) noR #[none,rfl,.refl,b.u] (λi Z S4 #[x,_,Y,_]=>Y.get m 'm') ?_)
 .intro fl S6 hh;let(_,rfl,x,rfl,k6,o):=hh.nx;simp only[Ag,r]at o;apply oc (made_by g2.o);let o3:=g2.o;let A:Keep [u] S5 (S6++[.lst ((Bz d.outs.length).map λ(j:Nat)=>dK (d.n,(j:Int)))]):=k6.trans (.new _);let C:=Jab (X:=[.lst ((Bz d.outs.length).map λ(j:Nat)=>dK (d.n,(j:Int)))]) o;let e:(S6++[Obj.lst ((Bz d.outs.length).map λ(j:Nat)=>dK (d.n,(j:Int)))])[S6.length]? =-(.lst ((Bz d.outs.length).map λ(j:Nat)=>dK (d.n,(j:Int)))):=Jaa;let hu6l:=Jax o;generalize S6++[Obj.lst ((Bz d.outs.length).map λ(j:Nat)=>dK (d.n,(j:Int)))]=S7 at A C e;apply ox (Jv2 (es:=d.outs.map ouD) e 's');apply od (Y8 (IPut S7 L u c d h f (.tup [ddD d,t])) noR #[_,_,rfl,.refl,C] (λi Z S8 #[x,y,_,E,_]=>by let:=E.get e 'm';simp[sameAt,this]) ?_)
  .intro fl S9 hh;let(_,rfl,x,y,rfl,k9,H):=hh.nx;simp only[Ag]at H;let I:=k9.get (A.get b.l (by simp;show b.lu.1)) (by simp;show b.lu.1);let J:=k9.get (A.get b.q (by simp;show b.uq.symm)) (by simp;show b.uq.symm);apply ox (Jbv I rfl);apply ox (Jl8 J gd hn);show PDo.mk (((Keep.ext x5).trans (A.mono 's')).trans ((k9.mono 's').trans (.set 's'))) #[?_,?_,?_] (by rw[<-hnt];rfl)
   .rw[A1 b.lu.2.symm];show I
   .rw[A1 b.uq.symm];show H
   .show Jaf J
  .rintro i _ S8 p ⟨x,y,rfl,E,N⟩;let p:i<d.outs.length:=by erw[p]
   let hl8:=E.get e 'm';exists .tup [dK (d.n,(i:Int)),ouD d.outs[i]],by simp[nth,Jbi hl8,p],tn ?_;apply ox (Jbv (E.get (A.get b.l (by simp;show b.lu.1)) (by simp;show b.lu.1)) rfl);apply ox (Jl9 (k:=(d.n,(i:Int))) (v:=#[d.outs[i].1,d.outs[i].2,h,f]) N (g.putO g2 i));show IPut.mk _ _ rfl (E.trans (.set 's')) (by rw[Jaf N,Jrn (Ae p)])
 .rintro i z _ S4 hd ⟨x,rfl,Y,hu⟩;rw[Ao]at hd;let(k,s,rfl):=Ai.1 hd;rw[nms,Ao]at s;let(j,hj,rfl):=Ai.1 s;let(v,Q):=Q j (As hj);apply tn;apply ox (Jbv (Y.get b.l (by simp;show b.lu.1)) rfl);apply yes (Wat (me:=.pop1) rfl hu);apply oh (pop_at hu ((Jnl h2 hj).trans Q));show IPop.mk _ rfl (Y.trans (.set 's')) (by rw[Jaf hu,Jnm hj])
def init:callN T G W (n+1) "Hoard.__init__" [.loc ⇑S] (S++[.ins "Hoard" []])=.ok .non (S++[.ins "Hoard" [("unspent",.loc (⇑S+1)),("done",.loc (⇑S+2))],.dtu [],.dct []]):=by
 let a:(S++[Obj.ins "Hoard" []]++[.dtu []])[⇑S]? =-(.ins "Hoard" []):=Jab Jaa;apply re Jcq rfl;apply oo (Jfw a 's');apply oo (Jfw (Jab (Jaf a)) (by simp[putD]));show Az rfl (by simp[putD])
def copied(a:Hd S L u q c dn)(g:Gc c):∃S' i j,callN T G W (n+2) "Hoard.copied" [.loc L] S=.ok (.loc ⇑S) S'/\Ext S S'/\⇑S<=i/\⇑S<=j/\Hd S' ⇑S i j c dn:=by
 suffices h:Sat (callN T G W (n+2) "Hoard.copied" [.loc L] S) λd S'=>d=.loc ⇑S/\∃i j,Ext S S'/\⇑S<=i/\⇑S<=j/\Hd S' ⇑S i j c dn by
  let(_,S',e,rfl,i,j,h):=h;exists S',i,j,e,h
 apply rn Jc6 rfl;apply oc init;let l:=a.ext (.new S [.ins "Hoard" [("unspent",.loc (⇑S+1)),("done",.loc (⇑S+2))],.dtu [],.dct []]);let r:=Ext.new S [.ins "Hoard" [("unspent",.loc (⇑S+1)),("done",.loc (⇑S+2))],.dtu [],.dct []];let k:(S++[Obj.ins "Hoard" [("unspent",.loc (⇑S+1)),("done",.loc (⇑S+2))],.dtu [],.dct []])[⇑S]? =-(.ins "Hoard" [("unspent",.loc (⇑S+1)),("done",.loc (⇑S+2))]):=Jgk;generalize S++[Obj.ins "Hoard" [("unspent",.loc (⇑S+1)),("done",.loc (⇑S+2))],.dtu [],.dct []]=b at l r k;let w:L<⇑S:=Jax a.l;let x:=Jax k;apply ox l.fu;apply ox (Jdd l.u g.apt);apply oo (Jfw (Jab k) 's');rw[show putD "unspent" (.loc ⇑b) [("unspent",.loc (⇑S+1)),("done",.loc (⇑S+2))]=[("unspent",.loc ⇑b),("done",.loc (⇑S+2))]from if_pos rfl];let m:((b++[csO c]).set ⇑S (.ins "Hoard" [("unspent",.loc ⇑b),("done",.loc (⇑S+2))]))[⇑S]? =-(.ins "Hoard" [("unspent",.loc ⇑b),("done",.loc (⇑S+2))]):=Jaf (Jab k);let o:=(r.trans (.new b [csO c])).set (Aj _) (.ins "Hoard" [("unspent",.loc ⇑b),("done",.loc (⇑S+2))]);let p:((b++[csO c]).set ⇑S (.ins "Hoard" [("unspent",.loc ⇑b),("done",.loc (⇑S+2))]))[⇑b]? =-(csO c):=by
  rw[A1 'l'];show Jaa
 generalize(b++[csO c]).set ⇑S (.ins "Hoard" [("unspent",.loc ⇑b),("done",.loc (⇑S+2))])=s at m o p;let t:=a.ext o;let v:=Jax p;apply ox t.fq;apply ox (Jge t.q);apply oo (Jfw (Jab m) 's');show Az rfl #[⇑b,⇑s,(o.trans (.new s [dnO dn])).set (Aj _) _,by lia,by lia,Jaf (Jab m),?_,?_]
 .rw[A1 'l'];show Jab p
 .rw[A1 'l'];show Jaa
end
structure Rl where
 a:Int
 b:Int
 c:Int
noncomputable def rlD(r:Rl):D:=.tup [.int r.a,.int r.b,.int r.c]
structure RlOk(r:Rl):Prop where
 a:0<=r.a/\r.a<=10^40
 b:1<=r.b/\r.b<=1000
noncomputable def giftP(r:Rl)(h:Int):Int:=r.a/2^(min 200 ((h-1)/r.b).toNat)
structure Bk where
 x:Int
 y:Int
 z:Int
 ds:List Dd
def bkD(b:Bk):D:=.tup [.int b.x,.int b.y,.int b.z,.tup (b.ds.map ddD)]
structure BkOk(ds:List Dd):Prop where
 ok:∀d∈ds,DdOk d
 l:⇑ds<=16
 mr:∀i d,ds[i]? =-d->(d.ins=[]↔i=0)
 ne:0<⇑ds
def goP(h w:Int):Nat->Cs->List Int->Int->List Dd->Option (Nat×String)×Cs×List Int×Int
 |_,c,dn,f,[]=>(none,c,dn,f)
 |j,c,dn,f,d::ds=>match wordP c dn d h with
  |some x=>(-(j,x),c,dn,f)
  |none=>goP h w (j+1) (putP c d h (if j=0 then h+w else h)) (dn++[d.n]) (f+Zg c d) ds
theorem Jk1:goP h w j c dn f []=(none,c,dn,f):=rfl
theorem Jk2:goP h w j c dn f (d::ds)=match wordP c dn d h with
  |some x=>(-(j,x),c,dn,f)
  |none=>goP h w (j+1) (putP c d h (if j=0 then h+w else h)) (dn++[d.n]) (f+Zg c d) ds:=rfl
def first(ds:List Dd):Int:=match ds with
 |[]=>0
 |d::_=>worth d
def bfP(r:Rl)(h:Int)(c:Cs)(dn:List Int)(ds:List Dd):Option (Nat×String):=match(goP h r.c 0 c dn 0 ds).1 with
 |some x=>-x
 |none=>if giftP r h+(goP h r.c 0 c dn 0 ds).2.2.2<first ds then -(0,"much")else none
@[simp]noncomputable def bwD:Option (Nat×String)->D
 |none=>.non
 |some (j,x)=>.tup [.int j,.str x]
section
variable {W n:Nat} {S S':Store} {L u q:Nat} {c:Cs} {dn:List Int} {ps:List Nat} {d:Dd} {h f:Int} {r:Rl} {b:Bk}
def Jed{a:Int}{x y:Nat}(e:0<=a)(g:a<2^x)(i:x<=y):a/2^y=0:=by
 show Int.ediv_eq_zero_of_lt e (Ii g ?_)
 exact_mod_cast Nat.pow_le_pow_right (by decide:0<2) i
def bits_lt(g:0<=a):a<2^B4 a:=by
 unfold B4;split
 .rename_i e;simp at e;subst e;decide
 .let:=Nat.lt_log2_self (n:=a.natAbs);let e:((a.natAbs:Nat):Int)=a:=Tj g;rw[<-e];simp only[Int.natAbs_natCast]
  exact_mod_cast this
def Jvc(g:RlOk r):r.a/2^(min ((h-1)/r.b).toNat (B4 r.a))=giftP r h:=by
 unfold giftP;let a:=bits_lt g.a.1;let e:r.a<2^200:=Gv g.a.2 'd';generalize((h-1)/r.b).toNat=t;generalize B4 r.a=B at a
 by_cases j:200<t
 .rw[show min 200 t=200 by lia,Jed g.a.1 e (Aj _)]
  by_cases i:B<=t
  .rw[show min t B=B by lia];show Jed g.a.1 a (Aj _)
  .rw[show min t B=t by lia];show Jed g.a.1 e 'l'
 .rw[show min 200 t=t by lia]
  by_cases i:B<=t
  .rw[show min t B=B by lia,Jed g.a.1 a (Aj _),Jed g.a.1 a i]
  .rw[show min t B=t by lia]
def gift(g:RlOk r)(i:1<=h):callN T G W (n+1) "gift" [rlD r,.int h] S=.ok (.int (giftP r h)) S:=by
 let hb:=g.b;let a:0<=(h-1)/r.b:=Pn 'l' 'l';apply re Jq1 rfl;rw[<-Jvc g];apply oh Jao;apply oh (Jav 'l' 'l');generalize(h-1)/r.b=t at a;let e:bop .shr (.int r.a) (.int (if((B4 r.a:Nat):Int)<(if(0:Int)>t then 0 else t)then((B4 r.a:Nat):Int)else(if(0:Int)>t then 0 else t))) S=.ok (.int (r.a/2^min t.toNat (B4 r.a))) S:=by
  rw[if_neg (show¬(0:Int)>t by lia)];split
  .rw[Jej 'l',show min t.toNat (B4 r.a)=B4 r.a by lia,Er]
  .rw[Jej a,show min t.toNat (B4 r.a)=t.toNat by lia]
 apply oh e;show Eo.r
def free_from:callN T G W (n+2) "free_from" [ddD d,.int h,rlD r] S=.ok (.int (if d.ins=[]then h+r.c else h)) S:=by
 apply re Jgq rfl;apply oc is_maker
 by_cases a:d.ins=[]
 .rw[if_pos a];apply yes (decide_eq_true a);show Eo.r
 .rw[if_neg a];apply no (decide_eq_false a);show Eo.r
def IMk(S:Store)(ds:List Dd)(i:Nat)(a:List D)(S':Store):Prop:=Ext S S'/\a=((ds.take i).filter λd=>decide (d.ins=[])).map λd=>D.int (worth d)
theorem Jrq{ds:List Dd}(g:BkOk ds):((ds.filter λd=>decide (d.ins=[])).map worth).sum=first ds:=by
 cases ds with
 |nil=>show absurd g.ne 's'
 |cons d r=>
  have a:=(g.mr 0 d rfl).mpr rfl;let j:r.filter (λd=>decide (d.ins=[]))=[]:=by
   rw[Iy];intro x k;let(i,l,e):=D8.1 k;let:=g.mr (i+1) x (by rw[Cj,Ae l,e]);simp;intro z;let:=this.1 z
   lia
  rw[Ey,if_pos (by simp[a]),j];simp[first]
def worth_of_makers(g:BkOk b.ds):∃S',callN T G W (n+2) "worth_of_makers" [bkD b] S=.ok (.int (first b.ds)) S'/\Ext S S':=by
 let w:=g.l;apply rx Jce rfl;apply od (comp (ds:=b.ds.map ddD) (IMk S b.ds) (by rw[Ag];unfold Line;lia) #[.refl _,by simp]
  (λi a p #[_,k]=>#[by rw[k,Ag];show B3 (Jf _ _) 'm',rfl])
  (λi a p s #[m,k]=>by
   let l:i<b.ds.length:=by erw[s]
   exists ddD b.ds[i],by simp[nth,l],ts ?_;apply oc is_maker;let e:∀y,((b.ds[i].ins=[]/\y=[D.int (worth b.ds[i])])\/¬b.ds[i].ins=[]/\y=[])->a++y=((b.ds.take (i+1)).filter λd=>decide (d.ins=[])).map λd=>D.int (worth d):=λy t=>by
    rw[k,C5,Ae l,Ig,Bv];congr 1;rcases t with⟨h,rfl⟩|⟨h,rfl⟩<;>simp[h]
   by_cases j:b.ds[i].ins=[]
   .apply yes (decide_eq_true j);apply oc (worth_of (g.ok _ (Fi l)).o);show Az (m.trans (.new _ _)) (e _ (.inl #[j,rfl]))
   .apply no (decide_eq_false j);show Az m (e _ (.inr #[j,rfl]))))
 rintro _ _ ⟨x,z,⟨v,rfl⟩,rfl,rfl⟩;apply ox (Jbq _ _);rw[Ag,Gg,Jrq g];show Az rfl (v.trans (.new _ _))
theorem Jec:∀{xs:List D} {k i:Nat},(enD k xs)[i]? =(xs[i]?).map λx=>.tup [.int ((k+i:Nat):Int),x]
 |[],k,i=>by simp[enD]
 |x::xs,k,0=>by simp[enD]
 |x::xs,k,i+1=>by
  rw[enD,Cj,Cj,Jec,show k+1+i=k+(i+1) by lia]
theorem enD_len:∀{xs:List D} {k:Nat},(enD k xs).length=⇑xs
 |[],k=>rfl
 |x::xs,k=>by simp[enD,enD_len]
inductive IBf (S:Store) (L0:Nat) (L u q:Nat) (r:Rl) (h:Int) (b:Bk) (z:Option (Nat×String)×Cs×List Int×Int) (i:Nat) (Z:En) (S':Store):Prop
 |mk (c dn f v0 v1 v2) (_:Z=[-(.loc L0),-(bkD b),-(.int h),-(rlD r),-(.loc L),-(.int f),v0,v1,v2]) (_:Ext S S') (_:Hd S' L u q c dn) (_:Gc c) (_:Gd dn) (_:z=goP h r.c i c dn f (b.ds.drop i)):IBf S L0 L u q r h b z i Z S'
def RBf(S:Store)(z:Option (Nat×String)×Cs×List Int×Int)(d:D)(S':Store):Prop:=Ext S S'/\∃x,z.1=-x/\d=bwD (-x)
def block_fault(a:Hd S L u q c dn)(g:Gc c)(gd:Gd dn)(gr:RlOk r)(C:BkOk b.ds)(hh:1<=h):∃S',callN T G W (n+8) "block_fault" [.loc L,bkD b,.int h,rlD r] S=.ok (bwD (bfP r h c dn b.ds)) S'/\Ext S S':=by
 let(S1,u1,q1,e1,x1,hu1,hq1,a1):=copied (W:=W) (n:=n+5) a g;apply rx Jeo rfl;apply yes a.rc;apply oc e1;unfold bfP;generalize hz:goP h r.c 0 c dn 0 b.ds=z;apply oR (loop (IBf S L ⇑S u1 q1 r h b z) (RBf S z) #[c,dn,0,none,none,none,rfl,x1,a1,g,gd,by rw[<-hz];rfl] ?_)
 .rintro _ E ⟨j,w,l,rfl⟩;show Az (by rw[l]) j
 .rintro _ E ⟨J,o,N,v0,v1,v2,rfl,j,t,g2,k,e⟩;rw[enD_len,Ag,Fj,Jk1]at e;let(S3,H,m):=worth_of_makers (W:=W) (n:=n+5) (S:=E) C;subst e;apply oc H;apply oc (gift gr hh)
  by_cases x:giftP r h+N<first b.ds
  .apply yes (decide_eq_true x);dsimp only;rw[if_pos x];show Az rfl (j.trans m)
  .apply no (decide_eq_false x);dsimp only;rw[if_neg x];show Az rfl (j.trans m)
 .rintro i y _ E p ⟨J,o,N,v0,v1,v2,rfl,j,t,g2,k,e⟩;rw[Jec,Ao]at p;let(y',hy,rfl):=Ai.1 p;let(d,hd,rfl):=Ai.1 hy;let hi:i<b.ds.length:=(Ad.1 hd).1;let s:=C.ok d (As hd);rw[Bx hi,(Ad.1 hd).2,Jk2]at e;let(S3,H,m):=fault (W:=W) (n:=n+1) (h:=h) t g2 s;let I:=t.ext m;apply tn;apply yes t.rc;apply oc H;cases l:wordP J o d h with
  |some w=>
   rw[l]at e;show Az (j.trans m) #[(i,w),by rw[e],by rw[C2];rfl]
  |none=>
   rw[l]at e;let(hn,Q,hv):=Jaw l;let(S4,e4,U):=fee (W:=W) (n:=n+4) I s hv;let Y:=I.ext U;let(v,S5,e6,k5,a5,_):=Jvi (W:=W) (n:=n) (f:=if d.ins=[]then h+r.c else h) Y g2 k s l;apply yes I.rc;apply oc e4;apply yes Y.rc;apply oc free_from;apply oc e6;show IBf.mk _ _ _ _ _ _ rfl (((j.trans m).trans U).keep k5 'm') a5 (g2.putO s _) (k.add hn s.n) ?_;rw[e];dsimp only;let:=C.mr i d hd
   by_cases A:i=0
   .rw[if_pos A,if_pos (this.2 A)]
   .rw[if_neg A,if_neg (λz=>A (this.1 z))]
inductive Nts:List D->Cs->List Int->Cs->List Int->Prop
 |nil {c:Cs} {dn:List Int}:Nts [] c dn c dn
 |cons {rs:List D} {c c1:Cs} {dn dn1:List Int} {d:Dd} {h h' f:Int} (_:Nts rs c dn c1 dn1) (_:Gc c1) (_:Gd dn1) (_:Fr c1 dn1) (_:DdOk d) (_:wordP c1 dn1 d h=none):Nts (ntD c1 d::rs) c dn (putP c1 d h' f) (dn1++[d.n])
inductive IDb (S:Store) (L u q:Nat) (r:Rl) (h:Int) (b:Bk) (z:Option (Nat×String)×Cs×List Int×Int) (c0:Cs) (dn0:List Int) (i:Nat) (acc:List D) (S':Store):Prop
 |mk (_:⇑acc=i) (_:Keep [u,q] S S') (_:∃c dn f,Hd S' L u q c dn/\Gc c/\Gd dn/\z=goP h r.c i c dn f (b.ds.drop i)/\Fr c dn/\Nts acc.reverse c0 dn0 c dn):IDb S L u q r h b z c0 dn0 i acc S'
inductive PDb (S:Store) (L u q:Nat) (z:Option (Nat×String)×Cs×List Int×Int) (c0:Cs) (dn0:List Int) (d:D) (S':Store):Prop
 |mk (_:∃x ys,d=.loc x/\⇑S<=x/\S'[x]? =-(.lst ys)/\Nts ys.reverse c0 dn0 z.2.1 z.2.2.1) (_:Keep [u,q] S S') (_:Hd S' L u q z.2.1 z.2.2.1) (_:Gc z.2.1) (_:Gd z.2.2.1):PDb S L u q z c0 dn0 d S'
def do_block(a:Hd S L u q c dn)(g:Gc c)(J:Gd dn)(fr:Fr c dn)(gr:RlOk r)(t:BkOk b.ds)(hh:1<=h)(x:bfP r h c dn b.ds=none):
  Sat (callN T G W (n+9) "do_block" [.loc L,bkD b,.int h,rlD r] S) (PDb S L u q (goP h r.c 0 c dn 0 b.ds) c dn):=by
 let(S1,N,Q):=block_fault (W:=W) (n:=n) a g J gr t hh;rw[x]at N;let a1:=a.ext Q;let k:(goP h r.c 0 c dn 0 b.ds).1=none:=by
  unfold bfP at x;split at x
  .cases x
  .assumption
 generalize hz:goP h r.c 0 c dn 0 b.ds=z at k;let hl:=t.l;apply rn Jid rfl;apply oc N;apply od (comp (ds:=b.ds.map ddD) (IDb S L u q r h b z c dn) (by rw[Ag];unfold Line;lia) #[by simp,.ext Q,c,dn,0,a1,g,J,by rw[<-hz];rfl,fr,.nil]
  (λi H S1 h1=>#[Oa h1.1,rfl])
  (λi H S2 hi q_=>by
   let(s,k2,y,l,U,A,g2,j,e,m,o):=q_;let I:i<b.ds.length:=by erw[hi]
   let hd:b.ds[i]? =some b.ds[i]:=Ae I;exists ddD b.ds[i],by simp[nth,I],ts ?_;generalize b.ds[i]=d at hd;let C:=t.ok d (As hd);rw[Bx I,(Ad.1 hd).2,Jk2]at e;let p:wordP y l d h=none:=by
    cases p:wordP y l d h with
    |none=>rfl
    |some w=>rw[p]at e;rw[e]at k;cases k
   rw[p]at e;let(Y,hdst,hv):=Jaw p;let(v,S5,e6,k5,a5,en):=Jvi (W:=W) (n:=n+1) (f:=if d.ins=[]then h+r.c else h) A g2 j C p;apply yes A.rc;apply oc free_from;apply oc e6;show IDb.mk (by simp;show s) (k2.trans k5) #[_,_,U+Zg y d,a5,g2.putO C _,j.add Y C.n,e.trans ?_,m.put Y,by rw[en,Pz,List.reverse_append];show .cons o g2 j m C p];dsimp only;let:=t.mr i d hd
   by_cases E:i=0
   .rw[if_pos E,if_pos (this.2 E)]
   .rw[if_neg E,if_neg (λz=>E (this.1 z))]))
 rintro _ _ ⟨ys,S0,⟨ha,k0,y,l,U,A,g2,j,e,m,o⟩,rfl,rfl⟩;rw[Ag,Fj,Jk1]at e;subst e;show PDb.mk #[_,_,rfl,k0.1,Jaa,o] (k0.trans (.new _)) (A.ext (.new _ _)) g2 j
def srC(c:Cs):Cs:=c.mergeSort λa b=>decide (Rdu.rkP a.1<=Rdu.rkP b.1)
def Jzw:srD (cp c)=cp (srC c):=by
 unfold srD srC cp;rw[List.map_mergeSort (s:=λ(a b:PP×D)=>decide (Rdu.rkP a.1<=Rdu.rkP b.1)) λ_ _ _ _=>rfl]
def held(a:Hd S L u q c dn)(g:Gc c):callN T G W (n+1) "Hoard.held" [.loc L] S=.ok (.loc ⇑S) (S++[csO (srC c)]):=by
 apply re Jex rfl;apply ox a.fu;let e:=Jp3 a.u g.apt (by rw[Ag];let:=g.len;unfold Line;lia);rw[Jzw]at e;apply ox e;show Eo.r
def total(a:Hd S L u q c dn)(g:Gc c):callN T G W (n+1) "Hoard.total" [.loc L] S=.ok (.int (tot c)) (S++[pl (c.map (·.2.w))]):=by
 apply re Jep rfl;apply ox a.fu;let i:=g.len;let e:=Ju2 (C:=Cn T G W n) (keep:=[]) (tg:=.tvar 0) (el:=.idx (.var 0) (.glb "WORTH")) (Z:=[-(.loc L)]) (λp=>match p.2 with|.tup (x::_)=>x|_=>.non) a.u (by rw[Ag];lia) λp hp=>by
  let(z,_,rfl):=Av.1 hp;apply tc;show Az rfl rfl
 apply ox (e.trans (show _=Res.ok (.loc ⇑S) (S++[pl (c.map (·.2.w))]) by simp[kpD,B8]));apply ox (Jdk (c.map (·.2.w)));show Eo.r
theorem Jk8{ds:List D}:cop .ne (.tup ds) (.tup []) S=-(!ds.isEmpty):=by
 cases ds<;>rfl
def Jxy(a:S[u]? =-(csO c)):cop .nin (dK k) (.loc u) S=-(!(dVal c k).isSome):=by
 rw[Jqk a,Jbe,F0]
def J0m(a:S[u]? =-(csO c)):cop .inn (dK k) (.loc u) S=some (dVal c k).isSome:=by
 rw[Jvn a,Jbe,F0]
def Jj1(a:S[u]? =-(csO c))(e:dVal c k=-v):Jaz (.loc u) (dK k) S=.ok (kpD v) S:=Jf4 a (by rw[Jbe,e];rfl)
inductive IWd (S:Store) (u q l:Nat) (c:Cs) (d:Dd) (h:Int) (i:Nat) (Z:En) (S':Store):Prop
 |mk (a0 a1 a2 a3 a4 a5 a6 a7 a8) (_:Z=[-(.loc u),-(.loc q),-(ddD d),-(.int h),-(.int d.n),-(.tup (d.ins.map inD)),-(.tup (d.outs.map ouD)),-(.loc l),a0,a1,a2,a3,a4,a5,a6,a7,a8]) (_:Ext S S') (_:d.ins.findSome? (inW c d h)=(d.ins.drop i).findSome? (inW c d h)):IWd S u q l c d h i Z S'
def Jlg(N:S[u]? =-(csO c))(hq:S[q]? =-(dnO dn))(g:Gc c)(g2:DdOk d):∃S',callN T G W (n+5) "_law_word" [.loc u,.loc q,ddD d,.int h] S=.ok (wD (wordP c dn d h)) S'/\Ext S S':=by
 let i3:=g2.i;apply rx Jh2 rfl;apply oi (Jsc hq);unfold wordP
 by_cases v:d.n∈dn
 .rw[if_pos v];apply yes (decide_eq_true v);show Az rfl (.refl _)
 rw[if_neg v];apply no (decide_eq_false v);apply ox (Ja1 (xs:=d.ins) inD (λi=>dK i.1) 'l' (.inl rfl) (λx _=>by apply tc;show Az rfl rfl));let w:(S++[Obj.lst (d.ins.map λi=>dK i.1)])[⇑S]? =-(.lst ((nms d).map dK)):=by rw[Jaa];simp[nms,B8]
 let m:=Ext.new S [Obj.lst (d.ins.map λi=>dK i.1)];generalize S++[Obj.lst (d.ins.map λi=>dK i.1)]=S1 at w m;let hln:(nms d).length=d.ins.length:=by simp[nms]
 let Q:=Jap w;rw[Ag]at Q;apply ox (Jjx w 'l');apply ox Q
 by_cases y:dst (nms d)<(nms d).length
 .rw[if_pos y];apply yes (decide_eq_true (Se.2 y));show Az rfl m
 rw[if_neg y];apply no (decide_eq_false λz=>y (Se.1 z));apply oR (loop (IWd S1 u q ⇑S c d h) (RFau S c d h) #[_,_,_,_,_,_,_,_,_,rfl,.refl _,by simp] ?_)
 .rintro _ A ⟨x,e,rfl,j⟩;show Az (by rw[e];rfl) j
 .rintro _ A ⟨a0,a1,a2,a3,a4,a5,a6,a7,a8,rfl,j,e⟩;rw[Ag,Fj]at e;let hn:=Ki.1 e;let p:∀i∈d.ins,∃k,dVal c i.1=-k:=λi s=>by
   let:=hn i s;unfold inW at this;split at this
   .cases this
   .exists _,‹_›
  rw[e];apply ox (Jbg g2.o (λx _=>by apply tc;show Az rfl rfl));apply ox (Jdk _);let l:=(m.trans j).trans (.new _ [pl (Xq d)]);let o:=Jab (X:=[pl (Xq d)]) (j.get w);generalize A++[pl (Xq d)]=U at l o
  by_cases C:d.ins=[]
  .rw[if_neg λz=>z.1 C];apply oo (a:=false) (by rw[C];rfl);show Az rfl l
  .apply oo (a:=true) (by cases h:d.ins with|nil=>show absurd h C|cons x r=>rfl);let I:=l.get N;apply ox (Ja0 o);apply ox (Ja1 (xs:=nms d) dK (λi=>.int (wOf c i)) 'l' (.inr #[_,rfl,o]) (λx hx=>by
    let(i,s,rfl):=Av.1 hx;let(k,Y):=p i s;apply tc;apply ox (Jj1 I Y);show Az (by rw[wOf,Y]) rfl))
   let:=Jdk (S:=U) ((nms d).map (wOf c));simp only[pl,Bp,B8]at this;apply ox this;let es:((nms d).map (wOf c)).sum=spent c d:=by simp[spent,nms,B8]
   rw[es]
   by_cases E:spent c d<worth d
   .rw[if_pos #[C,E]];apply yes (decide_eq_true E);show Az rfl (l.trans (.new _ _))
   .rw[if_neg λz=>E z.2];apply no (decide_eq_false E);show Az rfl (l.trans (.new _ _))
 .rintro i z _ A hd ⟨a0,a1,a2,a3,a4,a5,a6,a7,a8,rfl,j,e⟩;rw[Ao]at hd;let(r,J,rfl):=Ai.1 hd;let s:i<d.ins.length:=(Ad.1 J).1;rw[Bx s,(Ad.1 J).2,Th]at e;let t:=(m.trans j).get N;apply tn;apply oi (Jxy t);simp only[inW]at e;cases p:dVal c r.1 with
  |none=>
   rw[p]at e;show RFau.mk "gone" e rfl (m.trans j)
  |some k=>
   rw[p]at e;dsimp only at e;apply ox (Jj1 t p)
   by_cases H:h<k.f
   .rw[if_pos H]at e;apply yes (decide_eq_true H);show RFau.mk "green" e rfl (m.trans j)
   .rw[if_neg H]at e;apply no (decide_eq_false H);apply ox (Jbg g2.o (λx _=>by apply tc;show Az rfl rfl));apply ox (Jan Jaa);apply oh Jao;let o1:=g.ok _ (Jbl p);let(bb,hb):=o1.lk.2 (fx k d h) r.2;let(U,e4,l):=Jjs (W:=W) n (fx k d h) k.lk r.2 (A++[pl (Xq d)]) (by let:=o1.lk.1;simp at this;lia) (by let:=g2.k r (As J);lia) hb;let ef:fD (fx k d h)=.tup [.int h,.int (if h-k.m>0 then h-k.m else 0),.int k.w,.int ((d.ins.map inD).length:Nat),.int ((d.outs.map ouD).length:Nat),.tup ((Xq d).map D.int)]:=by
     rw[Ag,Ag,show(if h-k.m>0 then h-k.m else 0)=if h-k.m<0 then 0 else h-k.m by split<;>split<;>lia];rfl
    rw[ef]at e4;apply oc e4;rw[hb]at e;cases bb with
    |false=>show RFau.mk "shut" e rfl (((m.trans j).trans (.new _ _)).trans l)
    |true=>show IWd.mk _ _ _ _ _ _ _ _ _ rfl ((j.trans (.new _ _)).trans l) e
def sofar(c:Cs)(d:Dd)(i:Nat):Int:=((d.ins.take i).map λx=>wOf c x.1).sum
inductive ILp (S:Store) (u q:Nat) (c:Cs) (d:Dd) (h f:Int) (i:Nat) (Z:En) (S':Store):Prop
 |mk (a0 a1) (_:Z=[-(.loc u),-(.loc q),-(ddD d),-(.int h),-(.int f),-(.int (-(worth d:Int)+sofar c d i)),a0,a1,none,none]) (_:Keep [u] S S') (_:S'[u]? =-(csO (dropO c d i))):ILp S u q c d h f i Z S'
inductive ILq (S:Store) (u q:Nat) (c:Cs) (d:Dd) (h f:Int) (v:D) (i:Nat) (Z:En) (S':Store):Prop
 |mk (a0 a1 a2 a3) (_:Z=[-(.loc u),-(.loc q),-(ddD d),-(.int h),-(.int f),-v,a0,a1,a2,a3]) (_:Keep [u] S S') (_:S'[u]? =-(csO (putO c d h f i))):ILq S u q c d h f v i Z S'
def Wc2(S:Store)(u q:Nat)(c:Cs)(dn:List Int)(d:Dd)(h f:Int)(S':Store):Prop:=Keep [u,q] S S'/\S'[u]? =-(csO (putP c d h f))/\S'[q]? =-(dnO (dn++[d.n]))
def Jl6(I:S[u]? =-(csO c))(J:S[q]? =-(dnO dn))(g:Gc c)(gd:Gd dn)(g2:DdOk d)(hn:d.n∉dn)(h2:¬dst (nms d)<(nms d).length)(w:∀i∈d.ins,∃k,dVal c i.1=-k):
  ∃S',callN T G W (n+1) "_law_put" [.loc u,.loc q,ddD d,.int h,.int f] S=.ok (.int (Zg c d)) S'/\Wc2 S u q c dn d h f S':=by
 let a:u≠q:=by
  rintro rfl;let:=I.symm.trans J;cases this
 apply rx Jjb rfl;apply ox (Jbg g2.o (λx _=>by apply tc;show Az rfl rfl));apply ox (Jdk _);apply oh Jao;let A:=Ext.new S [pl (Xq d)];generalize S++[pl (Xq d)]=S1 at A;let E:=A.get I;let H:=A.get J;apply ol (loop (ILp S1 u q c d h f) noR #[none,none,by simp[sofar];rfl,.refl,E] ?_)
 .rintro _ S6 ⟨x,y,rfl,N,j⟩;simp only[Ag]at j;let es:sofar c d (d.ins.map inD).length=spent c d:=by simp[sofar,spent]
  rw[es];apply ol (loop (ILq S6 u q c d h f (.int (-(worth d:Int)+spent c d))) noR #[_,_,_,_,rfl,.refl,j] ?_)
  .rintro _ S9 ⟨Q,U,a2,a3,rfl,Y,l⟩;rw[enD_len,Ag]at l;let m:=Y.get (N.get H (by simp;show a.symm)) (by simp;show a.symm);apply ox (Jl8 m gd hn);let kk:Wc2 S u q c dn d h f (S9.set q (dnO (dn++[d.n]))):=#[(((Keep.ext A).trans (N.mono 's')).trans (Y.mono 's')).trans (.set 's'),by rw[A1 a.symm];show l,Jaf m]
   apply oo Jk8;apply oh (Jbh (by split<;>rfl));show Az ?_ kk;unfold Zg
   by_cases C:d.ins=[]
   .rw[if_pos C,C];simp
   .rw[if_neg C];simp[C];lia
  .rintro i z _ S8 p ⟨Q,U,a2,a3,rfl,k8,s⟩;rw[Jec,Ao]at p;let(y',hy,rfl):=Ai.1 p;let(o,ho,rfl):=Ai.1 hy;rw[C2];apply tn;apply ox (Jl9 (k:=(d.n,(i:Int))) (v:=#[o.1,o.2,h,f]) s (g.putO g2 i));show ILq.mk _ _ _ _ rfl (k8.trans (.set 's')) (by rw[Jaf s,Jrn ho])
 .rintro i z _ S2 hd ⟨Q,U,rfl,k2,e⟩;rw[Ao]at hd;let(x,t,rfl):=Ai.1 hd;let hi:i<d.ins.length:=(Ad.1 t).1;let(v,w):=w x (As t);let:sofar c d (i+1)=sofar c d i+v.w:=by
   unfold sofar;rw[C5,t,Bv,List.sum_append];simp[wOf,w]
  apply tn;apply yes (Wat (me:=.pop1) rfl e);apply oh (pop_at e ((Jnl h2 t).trans w));show ILp.mk _ _ (by rw[this,<-Int.add_assoc]) (k2.trans (.set 's')) (by rw[Jaf e,Jnm t])
inductive IGf (r:Rl) (h:Int) (S:Store) (i:Nat) (Z:En) (S':Store):Prop
 |mk (a) (_:Z=[-(rlD r),-(.int h),-(.int (r.a/2^i)),a]) (_:S'=S):IGf r h S i Z S'
theorem Jga(g:RlOk r)(s:1<=h):callN T G W (n+1) "_law_gift" [rlD r,.int h] S=.ok (.int (giftP r h)) S:=by
 let hb:=g.b;let m:0<=(h-1)/r.b:=Pn 'l' 'l';apply re Jh7 rfl;apply oh Jao;apply oh (Jav 'l' 'l');unfold giftP;generalize(h-1)/r.b=t at m;obtain⟨k,l,o⟩:∃k:Nat,(if t<200 then t else 200)=(k:Int)/\k=min 200 t.toNat:=#[min 200 t.toNat,by split<;>lia,rfl]
 let e:=Jd0 (S:=S) (j:=if t<200 then t else 200) (by rw[l];lia) (by rw[l];lia);apply ox e;rw[l];apply ol (loop (IGf r h S) noR #[none,by simp,rfl] ?_)
 .rintro _ p ⟨a,rfl,rfl⟩;show Az (by simp[o]) rfl
 .rintro i z _ p hd ⟨a,rfl,rfl⟩;apply tn;apply oh (Jav 'd' 'd');show IGf.mk _ (by rw[Int.pow_succ,Int.ediv_ediv_of_nonneg (Wv 'd')]) rfl
inductive IDn (S:Store) (L u:Nat) (r:Rl) (h:Int) (b:Bk) (z:Option (Nat×String)×Cs×List Int×Int) (i:Nat) (Z:En) (S':Store):Prop
 |mk (c dn f v0 v1 v2) (_:Z=[-(.loc L),-(.loc u),-(bkD b),-(.int h),-(rlD r),-(.int f),v0,v1,v2]) (_:Ext S S') (_:S'[L]? =-(csO c)) (_:S'[u]? =-(dnO dn)) (_:Gc c) (_:Gd dn) (_:z=goP h r.c i c dn f (b.ds.drop i)):IDn S L u r h b z i Z S'
def RDn(S:Store)(u q:Nat)(z:Option (Nat×String)×Cs×List Int×Int)(d:D)(S':Store):Prop:=Ext S S'/\∃x,z.1=-x/\d=.tup [bwD (-x),.loc u,.loc q,.int 0]
inductive PDn (S:Store) (w:Option (Nat×String)) (d:D) (S':Store):Prop
 |mk (f:Int) (_:d=.tup [bwD w,.loc ⇑S,.loc (⇑S+1),.int f]) (_:Ext S S'):PDn S w d S'
def Jvh(hu:S[u]? =-(csO c))(hq:S[q]? =-(dnO dn))(g:Gc c)(gd:Gd dn)(gr:RlOk r)(N:BkOk b.ds)(hh:1<=h):∃f S',callN T G W (n+6) "_law_done" [.loc u,.loc q,bkD b,.int h,rlD r] S=.ok (.tup [bwD (bfP r h c dn b.ds),.loc ⇑S,.loc (⇑S+1),.int f]) S'/\Ext S S':=by
 suffices hs:Sat (callN T G W (n+6) "_law_done" [.loc u,.loc q,bkD b,.int h,rlD r] S) (PDn S (bfP r h c dn b.ds)) by
  let(d,S',e,f,rfl,x):=hs;exists f,S',e,x
 apply rn Jh9 rfl;apply ox (Jdd hu g.apt);apply ox (Jge (Jab hq));unfold bfP;generalize hz:goP h r.c 0 c dn 0 b.ds=z;obtain⟨k,C,j⟩:∃k C,b.ds=k::C:=by
  cases j:b.ds with
  |nil=>have:=N.ne;rw[j]at this;cases this
  |cons k C=>exists k,C,rfl
 rw[Al,Ar];apply oR (loop (IDn S ⇑S (⇑S+1) r h b z) (RDn S ⇑S (⇑S+1) z) #[c,dn,0,none,none,none,rfl,.new _ _,Jgk,Jkc,g,gd,by rw[<-hz];rfl] ?_)
 .rintro _ E ⟨l,w,s,rfl⟩;rw[s];show PDn.mk _ rfl l
 .rintro _ E ⟨c2,t,f2,v0,v1,v2,rfl,l,m,o,g2,p,a⟩;rw[enD_len,Ag,Fj,Jk1]at a;let Q:=N.ok k (by rw[j];simp);let U:first b.ds=worth k:=by rw[j];rfl
  apply ox (show Jaz (.tup (b.ds.map ddD)) (.int 0) E=.ok (ddD k) E by rw[j];show Jf5);apply ox (Jbg Q.o (λx _=>by apply tc;show Az rfl rfl));apply ox (Jdk _);apply oc (Jga gr hh);subst a;rw[U];dsimp only
  by_cases H:giftP r h+f2<worth k
  .rw[if_pos H];apply yes (decide_eq_true H);show PDn.mk _ rfl (l.trans (.new _ _))
  .rw[if_neg H];apply no (decide_eq_false H);show PDn.mk _ rfl (l.trans (.new _ _))
 .rintro i y _ E v ⟨c2,t,f2,v0,v1,v2,rfl,l,m,o,g2,p,a⟩;rw[Jec,Ao]at v;let(y',hy,rfl):=Ai.1 v;let(d,hd,rfl):=Ai.1 hy;let hi:i<b.ds.length:=(Ad.1 hd).1;let I:=N.ok d (As hd);rw[Bx hi,(Ad.1 hd).2,Jk2]at a;let(S3,e3,J):=Jlg (W:=W) (n:=n) (h:=h) m o g2 I;rw[C2];apply tn;apply oc e3;cases s:wordP c2 t d h with
  |some w=>
   rw[s]at a;show Az (l.trans J) #[(i,w),by rw[a],rfl]
  |none=>
   rw[s]at a;let(hn,A,hv):=Jaw s;let(S5,e6,k5,Y,hq5):=Jl6 (W:=W) (n:=n+4) (h:=h) (f:=if i=0 then h+r.c else h) (J.get m) (J.get o) g2 p I hn A hv;let U:bop .mul (.int r.c) (.int (if((i:Int)==0)=true then 1 else 0)) S3=.ok (.int (r.c*if i=0 then 1 else 0)) S3:=by
    rw[Jbh (by split<;>rfl)];simp
   apply oh U;rw[<-show h+r.c*(if i=0 then 1 else 0)=if i=0 then h+r.c else h by split<;>simp]at e6;apply oc e6;show IDn.mk _ _ _ _ _ _ rfl ((l.trans J).keep k5 's') Y hq5 (g2.putO I _) (p.add hn I.n) a
end
section
variable {α0 α1 α2 α3 α4 α5 α6:Type} {r:Res α0} {f1:α0->Store->Res α1} {f2:α1->Store->Res α2} {f3:α2->Store->Res α3} {f4:α3->Store->Res α4} {f5:α4->Store->Res α5} {f6:α5->Store->Res α6} {Q:α0->Store->Prop}
end
section
variable {W n:Nat} {S S':Store} {l L u q:Nat} {c:Cs} {dn:List Int} {ps:List Nat} {d:Dd} {h f m:Int} {r:Rl} {b:Bk} {ds:List D}
inductive Stm (S:Store) (l:Nat):Prop
 |mk (a e s) (_:S[l]? =-(.lst [.int a,.bl e,.int s])):Stm S l
theorem Jgy(hs:Stm S l)(o:0<m)(w:m<2^250):Sat (callN T G W (n+1) "_law_take" [.loc l,.int m] S) λd S'=>∃x,d=.int x/\Keep [l] S S'/\Stm S' l/\0<=x/\x<m:=by
 let(a,e,s,g):=hs;let i:∀{S:Store} {a e s},S[l]? =-(Obj.lst [.int a,.bl e,.int s])->Jaz (.loc l) (.int 0) S=.ok (.int a) S:=λh=>Jak h (at0 (k:=0) rfl);let p:∀{S:Store} {a e s v},S[l]? =-(Obj.lst [.int a,.bl e,.int s])->Xz (.loc l) (.int 0) v S=.ok () (S.set l (.lst [v,.bl e,.int s])):=λh=>Jih h (k:=0) rfl;let fin:∀{x:Int} {e s S'},Keep [l] S S'->S'[l]? =-(.lst [.int x,.bl e,.int s])->∀y,∃x,D.int (y%m)=.int x/\Keep [l] S S'/\Stm S' l/\0<=x/\x<m:=λk h y=>#[y%m,rfl,k,#[_,_,_,h],V3 _ (by omega),Ul _ o]
 let j:∀{S':Store} {a},Keep [l] S S'->S'[l]? =-(Obj.lst [.int a,.bl false,.int s])->wB (Cn T G W n) (.cns (.asg (.tsub (.var 0) (.cst (.int 0))) (.bin .mod (.bin .add (.bin .mul (.idx (.var 0) (.cst (.int 0))) (.cst (.int 48271))) (.cst (.int 11))) (.cst (.int 2147483629)))) (.cns (.ret (.bin .mod (.bin .fdiv (.idx (.var 0) (.cst (.int 0))) (.cst (.int 7))) (.var 1))) .nul)) [-(.loc l),-(.int m),none] S' (nD λd S'=>∃x,d=.int x/\Keep [l] S S'/\Stm S' l/\0<=x/\x<m) (λd S'=>∃x,d=.int x/\Keep [l] S S'/\Stm S' l/\0<=x/\x<m):=λ{S' a} k h=>by
  apply ox (i h);apply oh (Jbh rfl);apply oh (Jas 'd');apply ox (p h);apply ox (i (Jaf h));apply oh (Jav 'd' 'd');apply oh (Jas o);show fin (k.trans (.set 's')) (Jaf h) _
 apply rn Jh3 rfl;apply ox (Jak g (at0 (k:=1) rfl));cases e with
 |true=>
  apply ox (i g)
  by_cases t:1<a
  .apply yes (decide_eq_true t);apply ox (i g);apply oh (Jas o);apply ox (i g);apply oh (Jav o w);apply ox (p g);show fin (.set 's') (Jaf g) _
  .apply no (decide_eq_false t);apply ox (Jak g (at0 (k:=1) rfl));apply ox (Jak g (at0 (k:=2) rfl));apply ox (p g);apply ox (Jih (Jaf g) (k:=1) rfl);show j ((Keep.set 's').trans (.set 's')) (Jaf (Jaf g))
 |false=>
  apply ox (Jak g (at0 (k:=1) rfl));show j .refl g
inductive Tkn (W n:Nat) (S:Store) (l:Nat) (m:Int):Prop
 |mk (x:Int) (S':Store) (_:callN T G W (n+1) "_law_take" [.loc l,.int m] S=.ok (.int x) S') (_:Keep [l] S S') (_:Stm S' l) (_:0<=x/\x<m):Tkn W n S l m
def Jai(hs:Stm S l)(g:0<m)(i:m<2^250):Tkn W n S l m:=by
 let(_,S',e,x,rfl,a,b,c):=Jgy (W:=W) (n:=n) hs g i;exists x,S',e,a,b,c
noncomputable def dOk:List Rw->Nat->Bool
 |[],_=>true
 |.iff::r,k=>dOk r (k+1)
 |.els::r,k=>decide (0<k)&&dOk r k
 |.fin::r,k=>decide (0<k)&&dOk r (k-1)
 |_::r,k=>dOk r k
theorem runs:∀{lk:List Rw} {p:List Int} {st:List Pt},dOk lk ⇑st=true->∃e,runP F lk p st=-e
 |[],p,st,_=>#[_,rfl]
 |r::g,p,st,hd=>by
  let pl:∀z:Bool×List Int×List Pt,dOk g z.2.2.length=true->Xo F p st r=-z->∃e,runP F (r::g) p st=-e:=λz i e=>by
   let(j,k,o):=z;simp only[runP,e];cases j with
   |false=>exists false,rfl
   |true=>show runs i
  cases r with
  |iff=>
   cases a:Yl st with
   |false=>show pl (true,p,(false,false)::st) hd (by simp[Xo,Yf,X6,a])
   |true=>
    by_cases hp:p=[]
    .exists false,?_;simp[runP,Xo,Yf,X6,a,hp]
    .show pl (true,p.dropLast,(decide (p.getLastD 0≠0),decide (p.getLastD 0=0))::st) hd (by simp[Xo,Yf,X6,a,hp])
  |els=>
   cases st with
   |nil=>show fx9 hd
   |cons x s=>show pl (true,p,(x.2,false)::s) hd (by simp[Xo,Yf,X6])
  |fin=>
   cases st with
   |nil=>show fx9 hd
   |cons x s=>show pl (true,p,s) hd (by simp[Xo,Yf,X6])
  |push x=>
   cases a:Yl st with
   |false=>show pl (true,p,st) hd (by simp[Xo,Yf,a])
   |true=>show pl (_,_,st) hd (by simp[Xo,Yf,a];exists rfl,rfl)
  |paid x=>
   cases a:Yl st with
   |false=>show pl (true,p,st) hd (by simp[Xo,Yf,a])
   |true=>show pl (_,_,st) hd (by simp[Xo,Yf,a];exists rfl,rfl)
  |w x=>
   cases a:Yl st with
   |false=>show pl (true,p,st) hd (by simp[Xo,Yf,a])
   |true=>show pl (_,_,st) hd (by simp[Xo,Yf,a];exists rfl,rfl)
def LkOk.of{lk:List Rw}(e:⇑lk<=6)(g:dOk lk 0=true):LkOk lk:=#[e,λF a=>by
 unfold Yz;split
 .show runs g
 .exists false,rfl]
def Jbk{i:Int}(a:S[l]? =-(.lst ds))(g:0<=i)(j:i<⇑ds){P:D->Prop}(hp:∀x∈ds,P x):Sat (Jaz (.loc l) (.int i) S) λd S'=>P d/\S'=S:=by
 let(x,e,k):=J03 g j;rw[Jak a e];show .ok #[hp x k,rfl]
def Jvw{d:D}(h:⇑ds<1000):Xk .append (.loc ⇑S) [d] (S++[.lst ds])=.ok .non (S++[.lst (ds++[d])]):=by
 rw[Jat Jaa (Ja6 (by omega))];simp
def Jcs:rcv .append (S++[.lst ds]) (.loc ⇑S)=true:=Ja5 rfl Jaa
def lkD(lk:List Rw):D:=.tup (lk.map rD)
def Jbz(hs:Stm S l)(a:0<m)(e:m<2^250):Sat (callN T G W (n+1) "_law_take" [.loc l,.int m] S) λd S'=>∃x,d=.int x/\Keep [l] S S'/\Stm S' l/\0<=x/\x<m:=Jgy hs a e
def Stm.ext(hs:Stm S l)(x:Ext S S'):Stm S' l:=by
 let(a,e,s,h):=hs;exists a,e,s,x.get h
def Stm.lt(hs:Stm S l):l<⇑S:=by
 let(a,e,s,h):=hs;show Jax h
def LkD(y:D):Prop:=∃lk,y=lkD lk/\LkOk lk
def LL(ds:List D)(k:Nat):Prop:=⇑ds=k/\∀y∈ds,LkD y
def Jux{a b:Int}:LkD (.tup [.tup [.str "paid",.int a],.tup [.str "push",.int b],.tup [.str "less"],.tup [.str "not"]]):=#[[.paid a,.push b,.w .less,.w .not],rfl,.of 's' rfl]
def ap{d:D}{k:Nat}{Q:D->Store->Prop}(h:LL ds k)(g:LkD d)(i:k<1000)(K:∀a,LL a (k+1)->Q .non (S++[.lst a])):Do (hd (Xk .append (.loc ⇑S) [d] (S++[.lst ds]))) Q:=
 oh (Jvw (by rw[h.1];show i)) (K _ #[by rw[Al,h.1];rfl,λy e=>(Bn.1 e).elim (h.2 y) λz=>by rw[Ap.1 z];show g])
inductive PLk (S:Store) (l:Nat) (d:D) (S':Store):Prop
 |mk (lk:List Rw) (ks:List Int) (_:d=.tup [lkD lk,.tup (ks.map D.int)]) (_:Keep [l] S S') (_:Stm S' l) (_:LkOk lk) (_:⇑ks<=2):PLk S l d S'
def Jjy(hs:Stm S l):∃(lk:List Rw) (ks:List Int) (S':Store),callN T G W (n+2) "_law_lock" [.loc l] S=.ok (.tup [lkD lk,.tup (ks.map D.int)]) S'/\Keep [l] S S'/\Stm S' l/\LkOk lk/\⇑ks<=2:=by
 suffices hs:Sat (callN T G W (n+2) "_law_lock" [.loc l] S) (PLk S l) by
  let(d,S',e,lk,ks,rfl,U,Y,p3,p4):=hs;exists lk,ks,S',e,U,Y,p3,p4
 let(x,s,e1,k1,J,hx):=Jai (W:=W) (n:=n) (m:=2000) hs 'd' 'd';let hl1:l<⇑s:=J.lt;let g:∀{S:Store} {i j:Int},0<j->bop .mod (.int i) (.int j) S=.ok (.int (i%j)) S:=λh=>Jas h;apply rn Jh6 rfl;apply oc e1;obtain⟨z,N⟩:∃z,x-1000=z:=#[_,rfl]
 apply oh (show bop .sub (.int x) (.int 1000) s=.ok (.int z) s by rw[<-N];rfl);clear N;apply oh (g 'd');apply yes Jcs;apply oh (g 'd');show ap (k:=4) #[rfl,λy o=>?_] #[[.w .age,.push _,.w .less,.w .not],rfl,.of 's' rfl] 'd' λds h=>?_
 .simp only[An,Bg,or_false]at o;rcases o with rfl|rfl|rfl|rfl
  .exists[],rfl,.of 'd' rfl
  .exists[.push 1],rfl,.of 's' rfl
  .exists[.push _,.w .same],rfl,.of 's' rfl
  .exists[.w .height,.push _,.w .less,.w .not],rfl,.of 's' rfl
 apply yes Jcs;show ap h #[[.iff,.push _,.w .same,.els,.push 1,.fin],rfl,.of 's' rfl] 'd' λds h=>?_;apply yes Jcs;show ap h #[[.w .worth,.push _,.w .less,.w .not],rfl,.of 's' rfl] 'd' λds h=>?_;apply yes Jcs;apply oh (g 'd');show ap h #[[.w .ins,.push _,.w .same],rfl,.of 's' rfl] 'd' λds h=>?_;apply yes Jcs;apply oh (g 'd');show ap h #[[.w .outs,.push _,.w .same,.w .not],rfl,.of 's' rfl] 'd' λds h=>?_;apply yes Jcs;apply oh (g 'd');show ap h Jux 'd' λds h=>?_;apply oh (g 'd');obtain⟨ka,t,v⟩:∃a:List Int,⇑a<=2/\atI [D.tup [.int z,.int 1],.tup [.int 0]] (z%2)=-(.tup (a.map D.int)):=by
  rcases(show z%2=0\/z%2=1 by omega)with e|e
  .exists[z,1],by simp,by rw[e];show at0 (k:=0) rfl
  .exists[0],by simp,by rw[e];show at0 (k:=1) rfl
 apply ox (Jak Jaa v);apply os (Jbz (m:=10) (J.ext (((Ext.new _ _).trans (.new _ _)).trans (.new _ _))) 'd' 'd');rintro _ S2 ⟨w,rfl,p,s2,Q,h1⟩;let A:Keep [l] S S2:=k1.trans ((((Keep.new _).trans (.new _)).trans (.new _)).trans p);let C:=p.get (Jab (Jab Jaa)) (by simp;omega);let E:=p.get Jaa (by simp;omega);clear p;apply od (Jbk C Q (by rw[h.1];show h1) h.2);rintro _ _ ⟨⟨lk,rfl,H⟩,rfl⟩;apply ox (Jbb (Jab E) Jaa (by simp[Line]));apply od (Jbk Jaa Q (by simp;omega) (P:=λy=>∃ks:List Int,y=.tup (ks.map D.int)/\⇑ks<=2) ?_)
 .rintro _ _ ⟨⟨ks,rfl,I⟩,rfl⟩;show PLk.mk lk ks rfl (A.trans ((Keep.new _).trans (.new _))) (s2.ext ((Ext.new _ _).trans (.new _ _))) H I
 .intro y o;simp only[Bn,An,Bg,or_false]at o;rcases o with(rfl|rfl|rfl|rfl|rfl|rfl)|(rfl|rfl|rfl|rfl)
  .exists[_],rfl,by simp
  .exists[],rfl,by simp
  .exists[_],rfl,by simp
  .exists[],rfl,by simp
  .exists[],rfl,by simp
  .exists ka,rfl,t
  .exists[],rfl,by simp
  .exists[],rfl,by simp
  .exists[],rfl,by simp
  .exists[],rfl,by simp
end
def lkR(lk:List Rw):=(lkK (lkD lk)).getD []
theorem Jtp(r:Rw):∃k,rwK (rD r)=-k:=by
 cases r with
 |w x=>exists _,rfl
 |_=>exists _,rfl
theorem Jmx(lk:List Rw):lkK (lkD lk)=-(lkR lk):=by
 let:∃k,lkK (lkD lk)=-k:=by
  unfold lkD;simp only[lkK]
  induction lk with
  |nil=>exists _,rfl
  |cons a r b=>
   let(k,e):=Jtp a;let(c,d):=b;exists k::c,Jsg e d
 let(k,e):=this;rw[lkR,e];rfl
section
variable {κ α:Type} [DecidableEq κ] {c:List (κ×α)} {k k':κ} {v:α}
def Zt:(∃v,dVal c k=-v)↔k∈c.map (·.1):=by
 constructor
 .rintro⟨v,h⟩;show Av.2 #[_,Jbl h,rfl]
 .intro h;let(p,hp,rfl):=Av.1 h;unfold dVal;let:(c.find? λq=>decide (q.1=p.1)).isSome:=by
   rw[List.find?_isSome];exists p,hp,by simp
  let(x,a):=Cz.1 this;exists x.2,by rw[a];rfl
def Jtw:k∈(dPut c k v).map (·.1):=by
 unfold dPut;split
 .rename_i h;let(p,hp,e):=Lh.1 h;rw[Bp];show Av.2 #[p,hp,?_];simp only[decide_eq_true_eq]at e;simp[e]
 .simp
def Jtu(h:k'∈c.map (·.1)):k'∈(dPut c k v).map (·.1):=by
 rcases Jeg (c:=c) (k:=k) (v:=v)with e|⟨e,_⟩
 .rw[e];show h
 .rw[e];show Dt _ h
def Jtv:(dPut c k v).length<=⇑c+1:=by
 rcases Jeg (c:=c) (k:=k) (v:=v)with e|⟨e,_⟩
 .let:=congrArg D9 e;simp at this
  lia
 .let:=congrArg D9 e;simp at this
  lia
end
abbrev Kv:=List (List (List Key)×D)
structure Ym(kvs:Kv)(mx:Nat):Prop where
 l:⇑kvs<=mx
 k:∀p∈kvs,∃ks:List Int,p.2=.tup (ks.map D.int)/\⇑ks<=2
def Hs(kvs:Kv)(lk:List Rw):Prop:=lkR lk∈kvs.map (·.1)
def Gr(a b:Kv):Prop:=∀lk,Hs a lk->Hs b lk
section
variable {W n:Nat} {S S':Store} {l L u q rl:Nat} {c:Cs} {dn:List Int} {ps:List Nat} {d:Dd} {h f m t:Int} {r:Rl} {b:Bk} {ds:List D} {kvs:Kv} {lk:List Rw} {mx:Nat} {ks:List Int}
def Ym.put(g:Ym kvs mx)(a:⇑ks<=2):Ym (dPut kvs (lkR lk) (.tup (ks.map D.int))) (mx+1):=#[by let:=Jtv (c:=kvs) (k:=lkR lk) (v:=D.tup (ks.map D.int));let:=g.l;lia,λp hp=>(Jgf hp).elim (g.k p) λe=>#[ks,by rw[e],a]]
def Gr.put:Gr kvs (dPut kvs (lkR lk) v):=λ_ h=>Jtu h
def Hs.put:Hs (dPut kvs (lkR lk) v) lk:=Jtw
def Jre(a:S[rl]? =-(.rg kvs))(g:Ym kvs mx)(e:mx<=100000):Xz (.loc rl) (lkD lk) v S=.ok () (S.set rl (.rg (dPut kvs (lkR lk) v))):=by
 let:=g.l;simp only[Xz,a,Jmx,if_pos (show ⇑kvs<Line by unfold Line;lia)]
def Jyo(i:S[rl]? =-(.rg kvs))(g:Ym kvs mx)(j:Hs kvs lk):∃ks:List Int,Jaz (.loc rl) (lkD lk) S=.ok (.tup (ks.map D.int)) S/\⇑ks<=2:=by
 let(v,a):=Zt.2 j;let(ks,e,k):=g.k _ (Jbl a);exists ks,?_,k;simp only at e;subst e;simp[Jaz,idxD,Xm,seqAt,i,Jmx,a]
def Jps{a:Store}(k:Keep ps S a)(h:⇑S<=p):Keep ps S (a.set p o):=#[by simp[k.1],λl e n=>by rw[A1 'l'];show k.2 l e n]
def Stm.ne_rg(hs:Stm S l)(g:S[rl]? =-(.rg kvs)):l≠rl:=by
 rintro rfl;let(a,e,s,h):=hs;let:=h.symm.trans g;cases this
def Stm.get(hs:Stm S l){p:Nat}(k:Keep ps S S')(hp:l∉ps):Stm S' l:=by
 let(a,e,s,h):=hs;exists a,e,s,k.get h hp
def OuOk(kvs:Kv)(o:Int×List Rw):Prop:=o.1<=10^40/\LkOk o.2/\Hs kvs o.2
structure Sr(S:Store)(l rl:Nat)(kvs:Kv)(mx:Nat)(S':Store)(kvs':Kv):Prop where
 k:Keep [l,rl] S S'
 s:Stm S' l
 r:S'[rl]? =-(.rg kvs')
 g:Ym kvs' mx
 m:Gr kvs kvs'
def Sr.refl(hs:Stm S l)(a:S[rl]? =-(.rg kvs))(g:Ym kvs mx):Sr S l rl kvs mx S kvs:=#[.refl,hs,a,g,λ_ h=>h]
def Sr.take(a:Sr S l rl kvs mx i j)(k:Keep [l] i e)(s:Stm e l):Sr S l rl kvs mx e j:=#[a.k.trans (k.mono 's'),s,k.get a.r (by simp;show(a.s.ne_rg a.r).symm),a.g,a.m]
def Sr.ext(a:Sr S l rl kvs mx e i)(x:Ext e j):Sr S l rl kvs mx j i:=#[a.k.trans (.ext x),a.s.ext x,x.get a.r,a.g,a.m]
def Sr.put{e:Store}(a:Sr S l rl kvs mx e i)(j:⇑ks<=2):Sr S l rl kvs (mx+1) (e.set rl (.rg (dPut i (lkR lk) (.tup (ks.map D.int))))) (dPut i (lkR lk) (.tup (ks.map D.int))):=#[a.k.trans (.set 's'),a.s.get (p:=0) (Keep.set (ps:=[rl]) 's') (by simp;show a.s.ne_rg a.r),Jaf a.r,a.g.put j,λlk h=>Gr.put lk (a.m lk h)]
def Sr.mono(a:Sr S l rl kvs mx e i)(h:mx<=j):Sr S l rl kvs j e i:=#[a.k,a.s,a.r,#[B3 a.g.l h,a.g.k],a.m]
def Sr.trans(a:Sr S l rl kvs mx e i)(b:Sr e l rl i j o p):Sr S l rl kvs j o p:=#[a.k.trans b.k,b.s,b.r,b.g,λlk h=>b.m lk (a.m lk h)]
def Sr.new{e:Store}(a:Sr S l rl kvs mx e i)(h:⇑S<=p)(hp:p≠l)(j:p≠rl):Sr S l rl kvs mx (e.set p o) i:=#[Jps a.k h,a.s.get (p:=0) (Keep.set (ps:=[p]) 's') (by simp;show hp.symm),by rw[A1 j];show a.r,a.g,a.m]
inductive IOut (S:Store) (l rl o:Nat) (kvs:Kv) (mx:Nat) (i:Nat) (Z:En) (S':Store):Prop
 |mk (t:Int) (os:List (Int×List Rw)) (kv:Kv) (a4 a5 a6 a7:Option D) (_:Z=[-(.loc l),-(.int t),-(.loc rl),-(.loc o),a4,a5,a6,a7]) (_:Sr S l rl kvs (mx+i) S' kv) (_:S'[o]? =-(.lst (os.map ouD))) (_:⇑os<=i) (_:(1<=t/\t<=10^40)) (_:∀x∈os,OuOk kv x):IOut S l rl o kvs mx i Z S'
inductive POu (S:Store) (l rl:Nat) (kvs:Kv) (mx:Nat) (d:D) (S':Store):Prop
 |mk (os:List (Int×List Rw)) (kv:Kv) (_:d=.tup (os.map ouD)) (_:Sr S l rl kvs (mx+3) S' kv) (_:⇑os<=3) (_:os≠[]) (_:∀x∈os,OuOk kv x):POu S l rl kvs mx d S'
def Jjr(hs:Stm S l)(Y:S[rl]? =-(.rg kvs))(gk:Ym kvs mx)(hmx:mx<=90000)(ht:1<=t/\t<=10^40):
  Sat (callN T G W (n+3) "_law_outs" [.loc l,.int t,.loc rl] S) (POu S l rl kvs mx):=by
 let(x,S2,e2,k2,s2,hx):=Jai (W:=W) (n:=n+1) (S:=S++[.lst []]) (m:=3) (hs.ext (.new _ _)) 'd' 'd';let a2:Sr S l rl kvs mx S2 kvs:=((Sr.refl hs Y gk).ext (.new _ [.lst []])).take k2 s2;let hll:=hs.lt;let hrl:=Jax Y;let Q:=k2.get (Jaa (o:=.lst [])) 'm';apply rn Jh4 rfl;apply oc e2;apply ox (Jd0 'l' 'l');let hxn:x.toNat<=2:=by lia
 apply ol (loop (IOut S l rl ⇑S kvs mx) noR #[t,[],kvs,none,none,none,none,rfl,a2,Q,by simp,ht,by simp] ?_)
 .rintro _ S3 ⟨A,os,C,a4,a5,a6,a7,rfl,k,H,g,p,a⟩;rw[Ag,Ei]at k g;let(lk,ks,I,U,E,J,s,v):=Jjy (W:=W) (n:=n) k.s;let w:=k.take E J;let N:=w.put (lk:=lk) v;let e:(I.set rl (.rg (dPut C (lkR lk) (.tup (ks.map D.int)))))[⇑S]? =-(.lst (os.map ouD)):=by
   rw[A1 'l'];show E.get H 'm'
  apply oc U;apply ox (Jre w.r w.g 'l');generalize I.set rl (.rg (dPut C (lkR lk) (.tup (ks.map D.int))))=S6 at N e;apply ox (Jbb (Jab e) Jaa (by simp[Line];lia));apply ox (Jan Jaa);show POu.mk (os++[(A,lk)]) (dPut C (lkR lk) (.tup (ks.map D.int))) (by rw[Bv];rfl) ((N.ext ((Ext.new _ _).trans (.new _ _))).mono 'l') 'm' 's' λz hz=>?_;rcases Bn.1 hz with hz|hz
  .exists(a _ hz).1,(a _ hz).2.1,Gr.put _ (a _ hz).2.2
  .cases Ap.1 hz;exists p.2,s,Hs.put
 .rintro i z _ S3 hd ⟨A,os,C,a4,a5,a6,a7,rfl,k,H,g,p,a⟩;rw[Ao]at hd;let(j,hj,rfl):=Ai.1 hd;let hi:i<x.toNat:=by simpa using(Ad.1 hj).1
  apply tn
  by_cases h1:1<A
  .let(lk,ks,I,U,E,J,s,v):=Jjy (W:=W) (n:=n) k.s;let(y,S5,e5,k5,s5,hy):=Jai (W:=W) (n:=n+1) (S:=I) (m:=A-1) J 'l' (Gv (show A-1<=10^40 by lia) 'd');let w:=(k.take E J).take k5 s5;let N:=w.put (lk:=lk) v;let e:(S5.set rl (.rg (dPut C (lkR lk) (.tup (ks.map D.int)))))[⇑S]? =-(.lst (os.map ouD)):=by
    rw[A1 'l'];show k5.get (E.get H 'm') 'm'
   apply yes (decide_eq_true h1);apply oc U;apply oh Jao;apply oc e5;apply oh Jao;apply ox (Jre w.r w.g 'l');apply yes (Ja5 (me:=.append) rfl e);apply oh (Jat (d:=ouD (1+y,lk)) e (Ja6 (by rw[Ag];lia)));show IOut.mk _ (os++[(1+y,lk)]) _ _ _ _ _ rfl (N.new (Aj _) 'l' 'l') ?_ 'm' 'l' ?_
   .rw[Jaf e,Bv];rfl
   .intro z hz;rcases Bn.1 hz with hz|hz
    .exists(a z hz).1,(a z hz).2.1,Gr.put _ (a z hz).2.2
    .rw[Ap.1 hz];exists by change 1+y<=10^40;lia,s,Hs.put
  .apply no (decide_eq_false h1);show IOut.mk _ os _ _ _ _ _ rfl (k.mono 'l') H 'l' p a
end
structure Mn(kvs:Kv)(c:Cs)(dn:List Int)(m:Int):Prop where
 gc:Gc c
 gd:Gd dn
 lt:∀p∈c,p.1.1<m
 has:∀p∈c,Hs kvs p.2.lk
 dlt:∀x∈dn,x<m
section
variable {W n:Nat} {S S':Store} {l L u q rl:Nat} {c:Cs} {dn:List Int} {ps:List Nat} {d:Dd} {h f m t:Int} {r:Rl} {b:Bk} {ds:List D} {kvs:Kv} {lk:List Rw} {mx:Nat} {ks:List Int}
def Jk9(a:S[x]? =-(.lst ds))(e:S[y]? =-(.lst [])):cop .eq (.loc x) (.loc y) S=-ds.isEmpty:=by
 cases ds<;>simp[cop,Zd,dtAt,show Deep=11+1 from rfl,eqD,seqAt,a,e,eqL]
def Stm.ne_cs(hs:Stm S l)(g:S[u]? =-(csO c)):u≠l:=by
 rintro rfl;let(a,e,s,h):=hs;let:=h.symm.trans g;cases this
def Jfy(hs:S[rl]? =-(.rg kvs))(a:S[u]? =-(csO c)):u≠rl:=by
 rintro rfl;let:=hs.symm.trans a;cases this
def Jrd{ks:List Int}(a:⇑ks<=3):Yh (.tup (ks.map D.int)) none (some 10) S=.ok (.tup (ks.map D.int)) S:=by
 let:cutD (ks.map D.int) none (some 10)=ks.map D.int:=by
  rw[Jj8 'd',By 'm']
 simp[Yh,this]
inductive PIn (S:Store) (l:Nat) (d:D) (S':Store):Prop
 |mk (nm:PP) (ks:List Int) (_:d=inD (nm,ks)) (_:Keep [l] S S') (_:Stm S' l) (_:⇑ks<=3):PIn S l d S'
def Jym(hs:Stm S l)(Q:S[rl]? =-(.rg kvs))(gk:Ym kvs mx)(H:S[u]? =-(csO c))(g:Mn kvs c dn m):
  Sat (callN T G W (n+2) "_law_in" [.loc l,.loc u,.loc rl] S) (PIn S l):=by
 apply rn Jlc rfl;let hln:=g.gc.len;let e1:=Jji H g.gc.apt (by rw[Ag];unfold Line;lia);obtain⟨N,eN,pN⟩:∃N,srK ((cp c).map (·.1))=N/\N.Perm (c.map (·.1)):=#[_,rfl,(Jv _ _).trans (by simp[cp,Bp,B8])]
 rw[eN]at e1;let lN:⇑N=⇑c:=by rw[pN.length_eq,Ag]
 let U:N=[]↔c=[]:=by rw[<-Ci,lN,Ci]
 let(x,I,e2,k2,s2,hx):=Jai (W:=W) (n:=n) (S:=S++[.lst (N.map dK)]) (m:=12) (hs.ext (.new _ _)) 'd' 'd';let hll:=hs.lt;let a:Keep [l] S I:=(Keep.new _).trans k2;let hN:=k2.get (Jaa (o:=.lst (N.map dK))) 'm';let Y:=a.get H (by simp;show hs.ne_cs H);let hr2:=a.get Q (by simp;show(hs.ne_rg Q).symm);let e3:=Jk9 (Jab hN) (Jaa (S:=I) (o:=.lst []));let s3:=s2.ext (.new I [.lst []]);let i:Keep [l] S (I++[.lst []]):=a.trans (.new _);let w:=Jab (X:=[.lst []]) hN;let hu3:=Jab (X:=[.lst []]) Y;let hr3:=Jab (X:=[.lst []]) hr2;apply ox e1;apply oc e2;apply oo e3;let fin:∀{y z:Int} {v:Store},Keep [l] S v->Stm v l->PIn S l (D.tup [.tup [.int y,.int z],.tup []]) v:=λ{y z v} k s=>#[(y,z),[],rfl,k,s,by simp]
 let(y,S4,A,k4,s4,hy):=Jai (W:=W) (n:=n) (m:=90) s3 'd' 'd';let(z,v,J,j,C,hz):=Jai (W:=W) (n:=n) (S:=S4) (m:=3) s4 'd' 'd'
 by_cases hc:(N.map dK).isEmpty=true
 .apply yes hc;apply oc A;apply oc J;show fin ((i.trans k4).trans j) C
 let hc1:¬c=[]:=λe=>hc (by rw[U.2 e];rfl);apply no (Um.2 hc)
 by_cases E:x=0
 .apply yes (beq_iff_eq.2 E);apply oc A;apply oc J;show fin ((i.trans k4).trans j) C
 apply no (beq_false_of_ne E);let A:=Jap w;rw[Ag,lN]at A;let hpos:0<⇑c:=Dh.2 hc1;let(y,v,J,j,C,hy):=Jai (W:=W) (n:=n) (m:=⇑c) s3 'l' (Int.lt_trans (show(⇑c:Int)<2000 by lia) 'd');let hN5:=j.get w 'm';let hu5:=j.get hu3 (by simp;show hs.ne_cs H);let hr5:=j.get hr3 (by simp;show(hs.ne_rg Q).symm);apply ox A;apply oc J;obtain⟨_,S6,e6,⟨p,hp,rfl⟩,rfl⟩:=Jbk hN5 hy.1 'm' (P:=λx=>∃p∈c,x=dK p.1) (λx hx=>by let(k,hk,rfl):=Av.1 hx;let(p,hp,rfl):=Av.1 (pN.mem_iff.1 hk);exists p,hp,rfl);let(ks,e7,hks):=Jyo hr5 gk (g.has p hp);let e8:=Jj1 hu5 (Ji1 g.gc.nd hp);let kk:=i.trans j;apply ox e6;apply ox e8;apply ox e7
 by_cases h1:x=1
 .let e9:bop .add (.tup (ks.map D.int)) (.tup [.int 0]) S6=.ok (.tup ((ks++[0]).map D.int)) S6:=by rw[Jcc (by simp[Line];lia)];simp
  apply yes (beq_iff_eq.2 h1);apply ox e9;apply oh (Jrd (S:=S6) (ks:=ks++[0]) 'm');show PIn.mk p.1 (ks++[0]) rfl kk C 'm'
 .apply no (beq_false_of_ne h1);apply oh (Jrd 'l');show PIn.mk p.1 ks rfl kk C 'l'
theorem J0c{ps:List PP}(k:S[l]? =-(.lst (ps.map dK))):∃e,cop .nin (dK p) (.loc l) S=-e/\(ps=[]->e=true):=by
 let:∀ps:List PP,∃e,anyEq S Deep (dK p) (ps.map dK)=-e:=by
  intro ps
  induction ps with
  |nil=>exists false,rfl
  |cons a r o=>
   let(e,g):=o;let i:∃j,eqD S Deep (dK a) (dK p)=-j:=#[_,rfl]
   let(j,i):=i;exists j||e,by simp only[Bf,anyEq,g,i]
 let(e,g):=this ps;exists !e,by simp[cop,Xm,seqAt,k,g],λh=>?_;subst h;cases g;rfl
theorem Jq9:∀{xs:List Int},(∀x∈xs,x<=B)->xs.sum<=⇑xs*B
 |[],_=>by simp
 |x::xs,h=>by
  let:=Jq9 (xs:=xs) (B:=B) λy a=>h y (A7 _ a);let:=h x 's';rw[Wt,Bh,Int.natCast_add,Int.add_mul];omega
theorem Jd3{e j:Type}(p:e->Bool)(g:e->j):∀xs:List e,xs.filterMap (λi=>if p i then -(g i)else none)=(xs.filter p).map g
 |[]=>rfl
 |a::r=>by
  rw[Ge,Ey,Jd3 p g r];cases p a<;>rfl
inductive IDe (S:Store) (l u rl o:Nat) (num:Int) (kvs:Kv) (mx:Nat) (i:Nat) (Z:En) (S':Store):Prop
 |mk (is:List (PP×List Int)) (a5 a6 a7 a8:Option D) (_:Z=[-(.loc l),-(.int num),-(.loc u),-(.loc rl),-(.loc o),a5,a6,a7,a8]) (_:Sr S l rl kvs mx S' kvs) (_:S'[o]? =-(.lst (is.map inD))) (_:⇑is<=i) (_:(0<i->is≠[])) (_:∀x∈is,x.2.length<=3):IDe S l u rl o num kvs mx i Z S'
inductive PDe (S:Store) (l rl:Nat) (kvs:Kv) (mx:Nat) (num:Int) (d':D) (S':Store):Prop
 |mk (d:Dd) (kv:Kv) (_:d'=ddD d) (_:d.n=num) (_:Sr S l rl kvs (mx+3) S' kv) (_:DdOk d) (_:d.ins≠[]) (_:∀o∈d.outs,OuOk kv o):PDe S l rl kvs mx num d' S'
def Jqh(hs:Stm S l)(hr:S[rl]? =-(.rg kvs))(gk:Ym kvs mx)(hmx:mx<=90000)(hu:S[u]? =-(csO c))(g:Mn kvs c dn m)(hnum:0<=num/\num<345):
  Sat (callN T G W (n+4) "_law_deed" [.loc l,.int num,.loc u,.loc rl] S) (PDe S l rl kvs mx num):=by
 apply rn Jia rfl;let(x,S2,e2,k2,s2,hx):=Jai (W:=W) (n:=n+2) (S:=S++[.lst []]) (m:=3) (hs.ext (.new _ _)) 'd' 'd';let a2:Sr S l rl kvs mx S2 kvs:=((Sr.refl hs hr gk).ext (.new _ [.lst []])).take k2 s2;let hll:=hs.lt;let hrl:=Jax hr;let ho2:=k2.get (Jaa (o:=.lst [])) 'm';apply oc e2;apply ox (Jd0 'l' 'l');let hxn:(1+x).toNat<=3/\0<(1+x).toNat:=by lia
 let huk:∀{S':Store} {kv:Kv} {my:Nat},Sr S l rl kvs my S' kv->S'[u]? =-(csO c):=λa=>a.k.get hu (by simp;exists hs.ne_cs hu,Jfy hr hu);apply od (loop (IDe S l u rl ⇑S num kvs mx) noR #[[],none,none,none,none,rfl,a2,ho2,by simp,by simp,by simp] ?_)
 .intro fl S3 hh;let(_,rfl,A,a5,J,a7,a8,rfl,a3,ho,hlen,I,Q):=hh.nx;rw[Ag,Ei]at hlen I;let I:=I hxn.2;let hu3:=huk a3;apply ox (Ja0 ho);apply ox (Jf6 (xs:=A) inD (λi=>if(dVal c i.1).isSome then -(.int (wOf c i.1))else none) 'l' (.inr #[_,rfl,ho]) (λx _=>by
   apply tc;apply oi (J0m hu3);cases hv:dVal c x.1 with
   |none=>show Az rfl rfl
   |some k=>
    apply ox (Jj1 hu3 hv);show Az (by simp[wOf,hv]) rfl))
  rw[Jd3 (λi:PP×List Int=>(dVal c i.1).isSome) (λi=>D.int (wOf c i.1))];apply ox (Jbq _ _);let hsum:((A.filter λi=>(dVal c i.1).isSome).map λi=>wOf c i.1).sum<=3*10^40:=by
   let h1:=Jq9 (B:=10^40) (xs:=(A.filter λi=>(dVal c i.1).isSome).map λi=>wOf c i.1) λx hx=>by
    let(y,hy,rfl):=Av.1 hx;let(k,hk):=Cz.1 (E4.1 hy).2;simp only[wOf,hk];show(g.gc.ok _ (Jbl hk)).w
   let h2:=Jf (λi:PP×List Int=>(dVal c i.1).isSome) A;rw[Ag]at h1;generalize((A.filter λi=>(dVal c i.1).isSome).map λi=>wOf c i.1).sum=s at h1;generalize(A.filter λi=>(dVal c i.1).isSome).length=k at h1 h2;let:k<=3:=by lia
   lia
  let a4:=a3.ext (.new S3 [.lst ((A.filter λi=>(dVal c i.1).isSome).map λi=>D.int (wOf c i.1))]);let H:=Jab (X:=[.lst ((A.filter λi=>(dVal c i.1).isSome).map λi=>D.int (wOf c i.1))]) ho;generalize((A.filter λi=>(dVal c i.1).isSome).map λi=>wOf c i.1).sum=tot at hsum;generalize S3++[Obj.lst ((A.filter λi=>(dVal c i.1).isSome).map λi=>D.int (wOf c i.1))]=S4 at a4 H;let(w,S5,e5,k5,s5,hw):=Jai (W:=W) (n:=n+2) (S:=S4) (m:=8) a4.s 'd' 'd';let a5:=a4.take k5 s5;let U:=k5.get H 'm';let E:∀S:Store,bop .pow (.int 10) (.int 40) S=.ok (.int (10^40)) S:=λS=>Jau (k:=40) rfl 'd' 'd';let fin:∀{S6:Store} {t:Int},Sr S l rl kvs mx S6 kvs->1<=t/\t<=10^40->Sat (callN T G W (n+3) "_law_outs" [.loc l,.int t,.loc rl] S6) λd' S'=>PDe S l rl kvs mx num (.tup [.int num,.tup (A.map inD),d']) S':=λ{S6 t} J ht=>by
   show(Jjr (W:=W) (n:=n) J.s J.r gk hmx ht).mono ?_;rintro _ N ⟨os,kv,rfl,a7,h3,h4,h5⟩;exists#[num,A,os],kv,rfl,rfl,J.trans a7,#[hnum,by change ⇑A<=3;lia,h3,Q,λo ho=>#[(h5 o ho).1,(h5 o ho).2.1]],I,h5
  apply oc e5
  by_cases hw0:w=0
  .apply yes (beq_iff_eq.2 hw0);apply no (decide_eq_false 'l');apply ox (Jan U);apply oh (E _);apply os (fin a5 (by constructor<;>(repeat' split)<;>lia));show λ_ _ h=>h
  .apply no (beq_false_of_ne hw0)
   by_cases hw4:4<w
   .apply yes (decide_eq_true hw4)
    by_cases ht1:1<tot
    .let(y,S6,e6,k6,s6,hy):=Jai (W:=W) (n:=n+2) (S:=S5) (m:=tot) s5 'l' (Gv hsum 'd');let C:=k6.get U 'm';apply yes (decide_eq_true ht1);apply oc e6;apply ox (Jan C);apply oh (E _);apply os (fin (a5.take k6 s6) (by constructor<;>(repeat' split)<;>lia));show λ_ _ h=>h
    .apply no (decide_eq_false ht1);apply ox (Jan U);apply oh (E _);apply os (fin a5 (by constructor<;>(repeat' split)<;>lia));show λ_ _ h=>h
   .apply no (decide_eq_false hw4);apply ox (Jan U);apply oh (E _);apply os (fin a5 (by constructor<;>(repeat' split)<;>lia));show λ_ _ h=>h
 .rintro i z _ S3 hd ⟨A,a5,J,a7,a8,rfl,a3,ho,hlen,I,Q⟩;rw[Ao]at hd;let(j,hj,rfl):=Ai.1 hd;let hi:i<(1+x).toNat:=by simpa using(Ad.1 hj).1
  let(_,S4,e4,nm,ks,rfl,k4,s4,hks):=Jym (W:=W) (n:=n+1) a3.s a3.r gk (huk a3) g;let a4:=a3.take k4 s4;let H:=k4.get ho 'm';apply tn;apply oc e4;apply ox (Ja0 H);apply ox (Ja1 (xs:=A) inD (λi=>dK i.1) 'l' (.inr #[_,rfl,H]) (λx _=>by apply tc;show Az rfl rfl));let(e,e5,he):=J0c (p:=nm) (ps:=A.map (·.1)) (S:=S4++[.lst (A.map λi=>dK i.1)]) (l:=S4.length) (by rw[Jaa];simp[B8]);let J:=a4.ext (.new S4 [.lst (A.map λi=>dK i.1)]);let C:=Jab (X:=[.lst (A.map λi=>dK i.1)]) H;apply oi e5;generalize hS6:S4++[Obj.lst (A.map λi=>dK i.1)]=S6 at e5 J C;let Y:∀{N:Store},N[⇑S]? =-(.lst (A.map inD))->rcv .append N (.loc ⇑S)=true/\Xk .append (.loc ⇑S) [inD (nm,ks)] N=.ok .non (N.set ⇑S (.lst (A.map inD++[inD (nm,ks)]))):=λh=>#[Ja5 rfl h,by rw[Jat h (Ja6 (by rw[Ag];lia))]]
  let fin:∀{N:Store},Sr S l rl kvs mx N kvs->N[⇑S]? =-(.lst (A.map inD))->∀v,IDe S l u rl ⇑S num kvs mx (i+1) [-(.loc l),-(.int num),-(.loc u),-(.loc rl),-(.loc ⇑S),-(.int j),-v,a7,a8] (N.set ⇑S (.lst (A.map inD++[inD (nm,ks)]))):=λa7 h v=>by
   exists A++[(nm,ks)],_,_,_,_,rfl,a7.new (Aj _) 'l' 'l',by rw[Jaf h];simp,by simp;lia,λ_=>by simp,λz hz=>?_;rcases Bn.1 hz with hz|hz
   .show Q z hz
   .rw[Ap.1 hz];show hks
  cases e with
  |true=>
   apply yes (Y C).1;apply oh (Y C).2;show fin J C _
  |false=>
   let(y,N,e7,k7,s7,hy):=Jai (W:=W) (n:=n+2) (S:=S6) (m:=6) J.s 'd' 'd';let a7':=J.take k7 s7;let ho7:=k7.get C 'm';apply oc e7
   by_cases hy0:y=0
   .apply yes (beq_iff_eq.2 hy0);apply yes (Y ho7).1;apply oh (Y ho7).2;show fin a7' ho7 _
   .apply no (beq_false_of_ne hy0);show IDe.mk A _ _ _ _ rfl a7' ho7 'l' (λ_ h=>?_) Q;let:=he (by simp[h]);cases this
theorem Jco:∀i,(dropO c d i).Sublist c
 |0=>Qj _
 |i+1=>by
  unfold dropO;split
  .show Yo.trans (Jco i)
  .show Jco i
theorem Jma(g:Mn kvs c dn m)(a:d.n<m)(e:∀o∈d.outs,Hs kvs o.2):∀i,(∀p∈putO c d h f i,p.1.1<m)/\∀p∈putO c d h f i,Hs kvs p.2.lk
 |0=>#[λp hp=>g.lt p ((Jco _).subset hp),λp hp=>g.has p ((Jco _).subset hp)]
 |i+1=>by
  let(j,k):=Jma g a e i;unfold putO;split
  .rename_i x s;exists λp hp=>?_,λp hp=>?_<;>rcases Jgf hp with hp|rfl
   .show j p hp
   .show a
   .show k p hp
   .show e x (As s)
  .exists j,k
def Mn.put(g:Mn kvs c dn m)(g2:DdOk d)(e:∀o∈d.outs,Hs kvs o.2)(i:d.n∉dn)(a:d.n<m):Mn kvs (putP c d h f) (dn++[d.n]) m:=by
 let(j,k):=Jma (h:=h) (f:=f) g a e d.outs.length;exists g.gc.putO g2 _,g.gd.add i g2.n,j,k,λx s=>?_;rcases Bn.1 s with z|z
 .show g.dlt x z
 .rw[Ap.1 z];show a
def Mn.mono(g:Mn kvs c dn m)(h:m<=m'):Mn kvs c dn m':=#[g.gc,g.gd,λp hp=>Ii (g.lt p hp) h,g.has,λx a=>Ii (g.dlt x a) h]
def Mn.ring(g:Mn kvs c dn m)(h:Gr kvs a):Mn a c dn m:=#[g.gc,g.gd,g.lt,λp hp=>h _ (g.has p hp),g.dlt]
def NumOk(first:Int)(ds:List Dd):Prop:=∀d∈ds,d.n<first+20
theorem Jr1{z:Option (Nat×String)×Cs×List Int×Int}(e:z.1=none):∀{ds:List Dd} {i:Nat} {j:Cs} {a:List Int} {p:Int},(∀d∈ds,DdOk d/\d.n<m/\∀o∈d.outs,Hs kvs o.2)->Mn kvs j a m->z=goP h w i j a p ds->Mn kvs z.2.1 z.2.2.1 m
 |[],i,j,a,p,_,g,hz=>by
  rw[Jk1]at hz;subst hz;show g
 |d::ds,i,j,a,p,hd,g,hz=>by
  rw[Jk2]at hz;let k:wordP j a d h=none:=by
   cases k:wordP j a d h with
   |none=>rfl
   |some w=>rw[k]at hz;rw[hz]at e;cases e
  rw[k]at hz;let(v,x,y):=hd d 's';show Jr1 e (λA s=>hd A (.tail _ s)) (g.put v y (Jaw k).1 x) hz
def Jvb(g:RlOk r):0<=giftP r h/\giftP r h<=10^40:=by
 unfold giftP;let hp:(0:Int)<=2^(min 200 ((h-1)/r.b).toNat):=Wv 'd';exists Pn g.a.1 hp,F5 (Int.ediv_le_self _ g.a.1) g.a.2
def Sr.keepN(a:Sr S l rl kvs mx i j)(k:Keep ps i o)(hp:∀p∈ps,⇑S<=p)(v:l<⇑S)(w:rl<⇑S):Sr S l rl kvs mx o j:=#[#[B3 a.k.1 k.1,λx e n=>(k.2 x (Bu e a.k.1) (λz=>by let:=hp x z;lia)).trans (a.k.2 x e n)],a.s.get (p:=0) k (λz=>by let:=hp l z;lia),k.get a.r (λz=>by let:=hp rl z;lia),a.g,a.m]
structure Bld(S:Store)(l rl u q o:Nat)(kvs:Kv)(mx:Nat)(first:Int)(dn:List Int)(i:Nat)(S':Store)(kv:Kv)(ds:List Dd)(c:Cs)(db:List Int):Prop where
 a:Sr S l rl kvs (mx+3*i+3) S' kv
 u:S'[u]? =-(csO c)
 q:S'[q]? =-(dnO db)
 o:S'[o]? =-(.lst (ds.map ddD))
 n:⇑ds=i+1
 g:Mn kv c db (first+20)
 b:BkOk ds
 m:NumOk first ds
 h:∀d∈ds,∀x∈d.outs,Hs kv x.2
 e:db≠[]
 z:∃d0 rs,ds=d0::rs/\d0.outs≠[]/\d0.n=first
abbrev eB(l:Nat)(first:Int)(u0 q0:Nat)(h:Int)(r:Rl)(rl:Nat)(w:Int)(u q o:Nat)(a11 a a13:Option D):En:=[-(.loc l),-(.int first),-(.loc u0),-(.loc q0),-(.int h),-(rlD r),-(.loc rl),-(.int w),-(.loc u),-(.loc q),-(.loc o),a11,a,a13,none,none,none,none]
theorem Jzs{u0 q0 u q o:Nat}{first w num:Int}{i:Nat}{kv:Kv}{a:List Dd}{db:List Int}{a11 a13:Option D}(B:Bld S l rl u q o kvs mx first dn i S' kv a c db)
  (hl:l<⇑S)(U:rl<⇑S)(hu:⇑S<=u)(hq:⇑S<=q)(ho:⇑S<=o)(hmx:mx+3*i+6<=90000)(hi:i<=14)(hfirst:1<=first/\first<=321)
  (E:num=first+1+i\/num∈db)
  {k:En->Store->Prop}{R:D->Store->Prop}(K:∀{S2 kv2 ds2 c2 db2},Bld S l rl u q o kvs mx first dn (i+1) S2 kv2 ds2 c2 db2->k (eB l first u0 q0 h r rl w u q o a11 (-(.int num)) a13) S2):
  wB (Cn T G W (n+6)) tl (eB l first u0 q0 h r rl w u q o a11 (-(.int num)) a13) S' k R:=by
 let J:0<=num/\num<345:=by
  rcases E with e|e
  .lia
  .show B.g.gd.ok _ e
 let(_,S3,e3,d,Y,rfl,hdn,Q,dk,hne,hou):=Jqh (W:=W) (n:=n+2) B.a.s B.a.r B.a.g 'l' B.u B.g J;let A3:=B.a.trans Q;let huq:u≠q:=by
  intro e;let H:=B.u;rw[e,B.q]at H;cases H
 let N:o≠u/\o≠q:=by
  constructor
  .intro e;let H:=B.o;rw[e,B.u]at H;cases H
  .intro e;let H:=B.o;rw[e,B.q]at H;cases H
 let kp:∀{p:Nat},⇑S<=p->p∉[l,rl]:=λhp=>by simp;lia
 let hu3:=Q.k.get B.u (kp hu);let hq3:=Q.k.get B.q (kp hq);let ho3:=Q.k.get B.o (kp ho);let e4:=Jat (d:=ddD d) ho3 (Ja6 (by rw[Ag,B.n];lia));let e5:=Ja5 (me:=.append) rfl B.o;let g:(S3.set o (.lst (a.map ddD++[ddD d])))[o]? =-(.lst (a.map ddD++[ddD d])):=Jaf ho3;let k4:Keep [o] S3 (S3.set o (.lst (a.map ddD++[ddD d]))):=.set 's';let A4:=A3.keepN k4 (by simp;show ho) hl U;let v:=k4.get hu3 (by simp;show N.1.symm);let y:=k4.get hq3 (by simp;show N.2.symm);apply yes e5;apply oc e3;apply oh e4;generalize S3.set o (.lst (a.map ddD++[ddD d]))=S4 at g k4 A4 v y;let g4:=B.g.ring Q.m;let(S5,e6,A):=Jlg (W:=W) (n:=n+1) (h:=h) v y g4.gc dk;let e7:∀{S:Store},S[o]? =-(.lst (a.map ddD++[ddD d]))->Jaz (.loc o) (.int (-1)) S=.ok (ddD d) S:=λh=>Jci h;let Ho:∀x∈d.outs,Hs Y x.2:=λx hx=>(hou x hx).2.2;let I:∀C∈a++[d],∀x∈C.outs,Hs Y x.2:=λC s x hx=>by
  rcases Bn.1 s with z|z
  .show Q.m _ (B.h C z x hx)
  .rw[Ap.1 z]at hx;show Ho x hx
 let Bk:BkOk (a++[d]):=#[λC s=>by
   rcases Bn.1 s with z|z
   .show B.b.ok C z
   .rw[Ap.1 z];show dk,by let:=B.n;simp;lia,λj C hj=>by
   let hn:=B.n
   by_cases hjl:j<⇑a
   .rw[A0 hjl]at hj;show B.b.mr j C hj
   .let hl:=(Ad.1 hj).1;rw[Al,Cm]at hl;let:j=⇑a:=by lia
    subst this;rw[Au (Aj _),Ff]at hj;cases hj;show#[λz=>absurd z hne,λz=>by lia],by simp]
 let hdm:d.n<first+20:=by
  rw[hdn];rcases E with e|e
  .lia
  .show B.g.dlt _ e
 let Nk:NumOk first (a++[d]):=λC s=>by
  rcases Bn.1 s with z|z
  .show B.m C z
  .rw[Ap.1 z];show hdm
 let Zk:∃d0 rs,a++[d]=d0::rs/\d0.outs≠[]/\d0.n=first:=by
  let(d0,rs,e,h0):=B.z;exists d0,rs++[d],by rw[e];rfl,h0
 let om:(a.map ddD++[ddD d])=(a++[d]).map ddD:=by simp
 let nk:(a++[d]).length=i+1+1:=by simp;show B.n
 apply ox (e7 g);apply oc e6;cases hw:wordP c db d h with
 |some x=>
  show K #[(A4.ext A).mono 'l',A.get v,A.get y,by rw[A.get g,om],nk,g4,Bk,Nk,I,B.e,Zk]
 |none=>
  let(hnn,hdst,hv):=Jaw hw;let(S6,e8,k6,hu6,hq6):=Jl6 (W:=W) (n:=n+5) (h:=h) (f:=h) (A.get v) (A.get y) g4.gc g4.gd dk hnn hdst hv;apply ox (e7 (A.get g));apply oc e8;show K #[((A4.ext A).keepN k6 'm' hl U).mono 'l',hu6,hq6,by rw[k6.get (A.get g) (by simp;show N),om],nk,g4.put dk Ho hnn hdm,Bk,Nk,I,by simp,Zk]
def three(v:Z[0]? =-(-(.loc l)))(hs:Stm S l):Sat (Za (Cn T G W (n+1)) 1 [0] (.tvar 0) .nul (.call "_law_take" (.cns (.var 1) (.cns (.bin .pow (.cst (.int 10)) (.cst (.int 30))) .nul))) Z (none,(Bz 3).map λ(i:Nat)=>D.int i) S) λd S'=>∃(x y z:Int) (p:Nat),d=.loc p/\S'[p]? =-(.lst [.int x,.int y,.int z])/\Keep [l] S S'/\Stm S' l:=by
 show(comp (λi g S'=>∃e:List Int,g=e.map D.int/\⇑e=i/\Keep [l] S S'/\Stm S' l) 'd' #[[],rfl,rfl,.refl,hs] (λi g o #[e,s,j,_]=>#[by rw[s,Ag];lia,rfl]) (λi g o w #[e,s,j,A,C]=>?_)).mono ?_
 .let E:i<3:=by erw[w]
  let(x,S2,H,I,J,N):=Jai (W:=W) (n:=n) (m:=1000000000000000000000000000000) C 'd' 'd';let Q:bop .pow (.int 10) (.int 30) o=.ok (.int 1000000000000000000000000000000) o:=Jau (k:=30) rfl 'd' 'd';exists .int i,by simp[nth,E],?_;rw[show Xt 1 [0] Z=[none,-(.loc l)] by simp only[Xt,Bf,Lr,v];rfl];apply ts;apply oh Q;apply oc H;exists e++[x],by simp[s],by simp[j],A.trans I,J
 .rintro _ _ ⟨ys,S0,⟨e,rfl,j,U,Y⟩,rfl,rfl⟩;rcases e with _|⟨x,_|⟨y,_|⟨z,_|⟨a,e⟩⟩⟩⟩<;>simp at j;exists x,y,z,_,rfl,Jaa,U.trans (.new _),Y.ext (.new _ _)
inductive PB (S:Store) (l rl:Nat) (kvs:Kv) (mx:Nat) (first:Int) (dn:List Int) (d':D) (S':Store):Prop
 |mk (b:Bk) (kv:Kv) (_:d'=bkD b) (_:Sr S l rl kvs (mx+45) S' kv) (_:BkOk b.ds) (_:NumOk first b.ds) (_:∀d∈b.ds,∀o∈d.outs,Hs kv o.2) (_:∃d0 rs,b.ds=d0::rs/\d0.outs≠[]/\d0.n=first):PB S l rl kvs mx first dn d' S'
inductive IBk (S:Store) (l rl u0 q0 o:Nat) (kvs:Kv) (mx:Nat) (first:Int) (dn:List Int) (h:Int) (r:Rl) (w:Int) (i:Nat) (Z:En) (S':Store):Prop
 |mk (kv:Kv) (ds:List Dd) (cb:Cs) (db:List Int) (a11 a12 a13:Option D) (_:Z=eB l first u0 q0 h r rl w ⇑S (⇑S+1) o a11 a12 a13) (_:Bld S l rl ⇑S (⇑S+1) o kvs mx first dn i S' kv ds cb db):IBk S l rl u0 q0 o kvs mx first dn h r w i Z S'
def Weh{first w:Int}{P:D->Store->Prop}(K:∀{d' S'},PB S l rl kvs mx first dn d' S'->P d' S')(hs:Stm S l)(hr:S[rl]? =-(.rg kvs))(gk:Ym kvs mx)(hmx:mx+45<=90000)(hu:S[u]? =-(csO c))(hq:S[q]? =-(dnO dn))(g:Mn kvs c dn first)(hf:1<=first/\first<=321)(gr:RlOk r)(hh:1<=h)(hw:1<=w):
  wB (Cn T G W (n+6)) rest [-(.loc l),-(.int first),-(.loc u),-(.loc q),-(.int h),-(rlD r),-(.loc rl),-(.int w),none,none,none,none,none,none,none,none,none,none] S (nD P) P:=by
 let hl:=hs.lt;let hrl:=Jax hr;apply ox (Jdd hu g.gc.apt);apply ox (Jge (Jab hq));rw[Ar,Al];let epow:∀S:Store,bop .pow (.int 10) (.int 40) S=.ok (.int (10000000000000000000000000000000000000000:Int)) S:=λS=>Jau (k:=40) rfl 'd' 'd';apply oh (epow _);let x1:=Ext.new S [csO c,dnO dn];let(_,I,e3,os,kv2,rfl,N,ho3,hne,Q):=Jjr (W:=W) (n:=n+3) (S:=S++[csO c,dnO dn]) (t:=if w<(10000000000000000000000000000000000000000:Int)then w else(10000000000000000000000000000000000000000:Int)) (hs.ext x1) (x1.get hr) gk 'l' (by constructor<;>split<;>lia);let A2:Sr S l rl kvs (mx+3) I kv2:=#[(Keep.ext x1).trans N.k,N.s,N.r,N.g,N.m]
 let hu2:=N.k.get (Jgk (S:=S) (a0:=csO c) (X:=[dnO dn])) 'm';let hq2:=N.k.get (Jkc (S:=S) (a0:=csO c) (a1:=dnO dn) (X:=[])) 'm';let l2:⇑S+2<=⇑I:=by let:=N.k.1;erw[this]
 let dk0:DdOk #[first,[],os]:=#[#[by change 0<=first;lia,by change first<345;lia],by simp,ho3,by simp,λo H=>#[(Q o H).1,(Q o H).2.1]]
 let hn0:first∉dn:=λz=>by let:=g.dlt _ z;lia
 let x3:=Ext.new I [Obj.lst [ddD #[first,[],os]]];let ho0:(I++[Obj.lst [ddD #[first,[],os]]])[⇑I]? =-(.lst [ddD #[first,[],os]]):=Jaa;let i0:=Jak ho0 (at0 (k:=0) rfl);let(S3,e4,k3,hu3,hq3):=Jl6 (W:=W) (n:=n+5) (h:=h) (f:=h+r.c) (x3.get hu2) (x3.get hq2) g.gc g.gd dk0 hn0 (by simp[nms,dst,Sbl.dd]) 's';let A3:=(A2.ext x3).keepN k3 's' hl hrl;let ho3':=k3.get ho0 'm';let edd:D.tup [.int first,.tup [],.tup (os.map ouD)]=ddD #[first,[],os]:=rfl;apply oc e3;apply ox i0;apply oc e4;let(y1,S4,e5,k4,s4,hy1):=Jai (W:=W) (n:=n+5) (S:=S3) (m:=5) A3.s 'd' 'd';let(y2,S5,e6,k5,s5,hy2):=Jai (W:=W) (n:=n+5) (S:=S4) (m:=12) s4 'd' 'd';let(y3,S6,e7,k6,s6,hy3):=Jai (W:=W) (n:=n+5) (S:=S5++[.lst [.int y1,.int y2]]) (m:=4) (s5.ext (.new _ _)) 'd' 'd';let l5:⇑I<S5.length:=by let:=k5.1;let:=k4.1;let:=Jax ho3';lia
 obtain⟨y,hy,ey⟩:∃y:Int,(0<=y/\y<12)/\Jaz (.loc S5.length) (.int (if(y3==3)=true then 1 else 0)) S6=.ok (.int y) S6:=by
  let h6:=k6.get (Jaa (S:=S5) (o:=.lst [.int y1,.int y2])) 'm';split
  .exists y2,hy2,Jak h6 (at0 (k:=1) rfl)
  .exists y1,by lia,Jak h6 (at0 (k:=0) rfl)
 let A6:=(((A3.take k4 s4).take k5 s5).ext (.new _ [.lst [.int y1,.int y2]])).take k6 s6;let kk:Keep [l] S3 S6:=((k4.trans k5).trans (.new _)).trans k6;apply oc e5;apply oc e6;apply oc e7;apply ox ey;apply ox (Jd0 'l' 'l');let B0:Bld S l rl ⇑S (⇑S+1) ⇑I kvs mx first dn 0 S6 kv2 [#[first,[],os]] (putP c #[first,[],os] h (h+r.c)) (dn++[first]):=by
  exists A6,kk.get hu3 'm',kk.get hq3 'm',kk.get ho3' 'm',rfl,?_,?_,?_,?_,by simp,#[_,_,rfl,hne,rfl]
  .show((g.ring N.m).mono 'l').put dk0 (λo H=>(Q o H).2.2) hn0 (by change first<_;lia)
  .show#[by simp;show dk0,by simp,λi d hd=>?_,by simp];cases i with
   |zero=>cases hd;simp
   |succ i=>simp at hd
  .intro d hd;rw[Ap.1 hd];change first<_;lia
  .intro d hd o H;rw[Ap.1 hd]at H;show(Q o H).2.2
 let hyn:y.toNat<=11:=by lia
 apply ol (loop (IBk S l rl u q ⇑I kvs mx first dn h r w) noR #[kv2,_,_,_,none,none,none,rfl,B0] ?_)
 rotate_left
 .rintro i z _ S7 hd ⟨kv,ds,cb,J,a11,a12,a13,rfl,B⟩;rw[Ao]at hd;let(j,hj,rfl):=Ai.1 hd;let hij:=Ad.1 hj;let hi:i<y.toNat:=by erw[hij.1]
  let hji:j=i:=by let:=hij.2;simp at this;lia
  subst hji;let TL:=λ{num:Int} {a13:Option D} {S8:Store} (B:Bld S l rl ⇑S (⇑S+1) ⇑I kvs mx first dn j S8 kv ds cb J) (hnum:num=first+1+j\/num∈J)=>Jzs (W:=W) (n:=n) (h:=h) (r:=r) (u0:=u) (q0:=q) (w:=w) (a11:=-(.int j)) (a13:=a13) (k:=IBk S l rl u q ⇑I kvs mx first dn h r w (j+1)) (R:=noR) B hl hrl (Aj _) 'l' 'l' 'l' 'l' hf hnum (λB2=>#[_,_,_,_,_,_,_,rfl,B2]);let(y4,S8,e8,k8,s8,hy4):=Jai (W:=W) (n:=n+5) (S:=S7) (m:=16) B.a.s 'd' 'd';let kp:∀{p:Nat},⇑S<=p->p∉[l]:=λhp=>by simp;lia
  let mv:∀{S9:Store},Keep [l] S7 S9->Stm S9 l->Bld S l rl ⇑S (⇑S+1) ⇑I kvs mx first dn j S9 kv ds cb J:=λk s=>#[B.a.take k s,k.get B.u (kp (Aj _)),k.get B.q (kp 'l'),k.get B.o (kp 'l'),B.n,B.g,B.b,B.m,B.h,B.e,B.z]
  apply tn;apply oc e8
  by_cases h4:y4=0
  .let q8:=k8.get B.q (kp 'l');let e9:=Jpo q8;let U:=Ju0 (Jab (X:=[.lst ((dp J).map λp=>.int p.1)]) q8);let hpos:0<⇑J:=Dh.2 B.e;let hdl:=B.g.gd.len;let(y5,S9,e11,k9,s9,hy5):=Jai (W:=W) (n:=n+5) (S:=S8++[.lst ((dp J).map λp=>.int p.1)]) (m:=⇑J) (s8.ext (.new _ _)) 'l' (Int.lt_trans (show(⇑J:Int)<2000 by lia) 'd');let hL:=k9.get (Jaa (S:=S8) (o:=.lst ((dp J).map λp=>.int p.1))) (by simp;let:=s8.lt;lia);let kall:Keep [l] S7 S9:=(k8.trans (.new _)).trans k9;simp only[Ag]at U;apply yes (beq_iff_eq.2 h4);apply ox e9;apply ox U;apply oc e11;simp only[Bp,B8]at hL;apply od (Jbk hL hy5.1 'm' (P:=λz=>∃v∈J,z=.int v) (λz hz=>by let(v,hv,rfl):=Av.1 hz;exists v,hv,rfl));rintro _ S10 ⟨⟨v,hv,rfl⟩,rfl⟩;show TL (mv kall s9) (.inr hv)
  .apply no (beq_false_of_ne h4);show TL (mv k8 s8) (.inl rfl)
 .rintro _ S7 ⟨kv,ds,cb,J,a11,a12,a13,rfl,B⟩;rw[Ag,Ei]at B;let H:=B.o;apply od (three (W:=W) (n:=n+5) rfl B.a.s);rintro _ S8 ⟨x0,E,x2,p,rfl,hp8,k8,s8⟩;let A8:=B.a.take k8 s8;let ho8:=k8.get H 'm';let j0:=Jak hp8 (at0 (k:=0) rfl);let j1:=Jak hp8 (at0 (k:=1) rfl);let j2:=Jak hp8 (at0 (k:=2) rfl);apply ox j0;apply ox j1;apply ox j2;apply ox (Jan ho8);let(y6,S9,e9,k9,s9,hy6):=Jai (W:=W) (n:=n+5) (S:=S8) (m:=3) s8 'd' 'd';let A9:=A8.take k9 s9;apply oc e9
  by_cases h6:y6=0
  .apply yes (beq_iff_eq.2 h6);let(d0,rs,A,hd0,hd0n):=B.z;obtain⟨Y,os',hos⟩:∃Y os',d0.outs=Y::os':=by
    cases H:d0.outs with
    |nil=>show absurd H hd0
    |cons a b=>exists a,b,rfl
   let hul:u∉[l,rl]:=by simp;exists hs.ne_cs hu,Jfy hr hu
   let hql:q∉[l,rl]:=by
    simp;constructor
    .rintro rfl;let(a,e,s,h):=hs;let:=h.symm.trans hq;cases this
    .rintro rfl;let:=hr.symm.trans hq;cases this
   let(fz,S10,U,x10):=Jvh (W:=W) (n:=n) (b:=#[1+x0,E,1+x2,ds]) (A9.k.get hu hul) (A9.k.get hq hql) g.gc g.gd gr B.b hh;let e11:=Jga (W:=W) (n:=n+5) (S:=S10) gr hh;let(y7,x,e12,k11,s11,hy7):=Jai (W:=W) (n:=n+5) (S:=S10) (m:=2) (s9.ext x10) 'd' 'd';let A11:=(A9.ext x10).take k11 s11;let ho11:=k11.get (x10.get (k9.get ho8 'm')) 'm';rw[A,Bf]at ho11;let i1:Jaz (.loc ⇑I) (.int 0) x=.ok (ddD d0) x:=Jak ho11 (at0 (k:=0) rfl);let i2:Jaz (.tup (d0.outs.map ouD)) (.int 0) x=.ok (ouD Y) x:=by rw[hos,Bf];show Jf5
   let c1:Yh (.tup [.int (1+x0),.int E,.int (1+x2),.tup (ds.map ddD)]) none (some 3) x=.ok (.tup [.int (1+x0),.int E,.int (1+x2)]) x:=by simp only[Yh];rw[Jj8 'd'];rfl
   let c2:Yh (.tup (ds.map ddD)) (some 1) none x=.ok (.tup (rs.map ddD)) x:=by simp only[Yh];rw[Jgg 'd',A];rfl
   let hrs:⇑rs<=15:=by let:=B.b.l;rw[A]at this;simp at this;lia
   apply oc U;apply oc e11;apply oc e12;apply oh (epow _);generalize hv:(if(if giftP r h+fz+y7>1 then giftP r h+fz+y7 else 1)<(10000000000000000000000000000000000000000:Int)then(if giftP r h+fz+y7>1 then giftP r h+fz+y7 else 1)else(10000000000000000000000000000000000000000:Int))=v;let hvl:v<=10^40:=by rw[<-hv];split<;>lia
   let b1:bop .add (.tup [ddD #[first,[],[(v,Y.2)]]]) (.tup (rs.map ddD)) x=.ok (.tup ((#[first,[],[(v,Y.2)]]::rs:List Dd).map ddD)) x:=by rw[Jcc (by simp[Line];lia)];rfl
   let b2:∀{z:D},bop .add (.tup [.int (1+x0),.int E,.int (1+x2)]) (.tup [z]) x=.ok (.tup [.int (1+x0),.int E,.int (1+x2),z]) x:=λ{z}=>by rw[Jcc (by simp[Line])];rfl
   apply ox i1;apply ox i2;apply oh c1;apply oh c2;rw[<-hv]at b1;apply ox b1;apply ox b2;let dk0':=B.b.ok d0 (by rw[A];simp);let ho0':Y∈d0.outs:=by rw[hos];simp
   show K (PB.mk #[1+x0,E,1+x2,#[first,[],[(v,Y.2)]]::rs] kv (by rw[<-hv];rfl) (A11.mono 'l') ?_ ?_ ?_ #[_,_,rfl,by simp,rfl])
   .exists λd' C=>?_,by simp;lia,λi d' C=>?_,by simp
    .rcases An.1 C with rfl|z
     .exists#[by change 0<=first;lia,by change first<345;lia],by simp,by simp,by simp,by simp;exists by lia,(dk0'.w Y ho0').2
     .show B.b.ok d' (by rw[A];show A7 _ z)
    .cases i with
     |zero=>cases C;simp
     |succ i=>show B.b.mr (i+1) d' (by rw[A];show C)
   .intro d' C;rcases An.1 C with rfl|z
    .change first<_;lia
    .show B.m d' (by rw[A];show A7 _ z)
   .intro d' C o H;rcases An.1 C with rfl|z
    .rw[Ap.1 H];show B.h d0 (by rw[A];simp) Y ho0'
    .show B.h d' (by rw[A];show A7 _ z) o H
  .apply no (beq_false_of_ne h6);show K (PB.mk #[1+x0,E,1+x2,ds] kv rfl (A9.mono 'l') B.b B.m B.h B.z)
def Jn4{first:Int}(hs:Stm S l)(o:S[rl]? =-(.rg kvs))(N:Ym kvs mx)(v:mx+45<=90000)(A:S[u]? =-(csO c))(C:S[q]? =-(dnO dn))(g:Mn kvs c dn first)(hf:1<=first/\first<=321)(E:RlOk r)(Q:1<=h):
  Sat (callN T G W (n+7) "_law_block" [.loc l,.int first,.loc u,.loc q,.int h,rlD r,.loc rl] S) (PB S l rl kvs mx first dn):=by
 let gl:=Jvb (h:=h) E;let(x,S1,e2,k1,U,hx):=Jai (W:=W) (n:=n+5) (S:=S) (m:=4) hs 'd' 'd';let(y,Y,e3,k2,s2,hy):=Jai (W:=W) (n:=n+5) (S:=S1) (m:=3) U 'd' 'd';let a2:Sr S l rl kvs mx Y kvs:=((Sr.refl hs o N).take k1 U).take k2 s2;let H:u∉[l,rl]:=by simp;exists hs.ne_cs A,Jfy o A
 let I:q∉[l,rl]:=by
  simp;constructor
  .rintro rfl;let(a,e,s,h):=hs;let:=h.symm.trans C;cases this
  .rintro rfl;let:=o.symm.trans C;cases this
 let fin:∀{k:Store} {w:Int},Sr S l rl kvs mx k kvs->1<=w->wB (Cn T G W (n+6)) rest [-(.loc l),-(.int first),-(.loc u),-(.loc q),-(.int h),-(rlD r),-(.loc rl),-(.int w),none,none,none,none,none,none,none,none,none,none] k (nD (PB S l rl kvs mx first dn)) (PB S l rl kvs mx first dn):=λ{k w} i J=>
  Weh (W:=W) (n:=n) (λ{d' S4} p=>by let(b,kv,e,a4,h1,h2,h3,h4):=p;exists b,kv,e,i.trans a4,h1,h2,h3,h4) i.s i.r N v (i.k.get A H) (i.k.get C I) g hf E Q J
 apply rn Jgn rfl;apply oc (Jga E Q);apply oc e2;apply oh Jao;apply oc e3;generalize J:(if giftP r h+x-2>1 then giftP r h+x-2 else 1)=w;let j:1<=w/\w<=2*10^40:=by rw[<-J];constructor<;>split<;>omega
 by_cases h0:y=0
 .let(z,k,e4,k3,s3,hz):=Jai (W:=W) (n:=n+5) (S:=Y) (m:=w) s2 (by omega) (Gv j.2 'd');apply yes (beq_iff_eq.2 h0);apply oc e4;show fin (a2.take k3 s3) (by omega)
 .apply no (beq_false_of_ne h0);show fin a2 j.1
theorem mixed:∃v,callN T G W (n+1) "_law_mixed" [.int x] S=.ok (.int v) S:=by
 suffices h:Sat (callN T G W (n+1) "_law_mixed" [.int x] S) λd S'=>(∃v,d=.int v)/\S'=S by
  obtain⟨_,_,e,⟨v,rfl⟩,rfl⟩:=h;exists v,e
 apply rn Jgm rfl;apply oh (Jas 'd');apply oh (Jbh (by rfl));apply oh (Jbh (by rfl));apply oh (Jas 'd');show Az #[_,rfl] rfl
def PSm(S:Store)(d:D)(S':Store):Prop:=∃p,d=.loc ⇑S/\S'=S++[p]/\Stm S' ⇑S
theorem stream:∃p,callN T G W (n+2) "_law_stream" [.int x,.int k,.bl e] S=.ok (.loc ⇑S) (S++[p])/\Stm (S++[p]) ⇑S:=by
 suffices h:Sat (callN T G W (n+2) "_law_stream" [.int x,.int k,.bl e] S) (PSm S) by
  let(_,_,e,p,rfl,rfl,s):=h;exists p,e,s
 let(v,w):=mixed (W:=W) (n:=n) (S:=S) (x:=x);let a:bop .pow (.int 10) (.int 60) S=.ok (.int (10^60)) S:=Jau (k:=60) rfl 'd' 'd';let g:bop .mul (.int (10^60)) (.int (10^60)) S=.ok (.int (10^60*10^60)) S:=Jcb 'd';let o:=Jas (S:=S) (i:=x) (j:=10^60*10^60) 'd';generalize(10:Int)^60*10^60=B at g o;generalize(10:Int)^60=A at a g;apply rn Jeu rfl;apply oc w;apply oh (Jhv (by rfl));apply oh (Jas 'd');cases e with
 |false=>exists _,rfl,rfl,_,_,_,Jaa
 |true=>
  apply oh a;apply oh a;apply oh g;apply oh o;apply oh (show bop .fdiv (.int (x%B)) (.int (1+if(k==0)=true then 1 else 0)) S=.ok (.int (x%B/(1+if(k==0)=true then 1 else 0))) S from Jav (by split<;>decide) (by split<;>decide));exists _,rfl,rfl,_,_,_,Jaa
inductive PNx (S:Store) (l:Nat) (d:D) (S':Store):Prop
 |mk (h':Int) (_:d=.int h') (_:1<=h') (_:Keep [l] S S') (_:Stm S' l):PNx S l d S'
def Jpk(hs:Stm S l)(C:0<=h):Sat (callN T G W (n+2) "_law_next" [.loc l,rlD r,.int h] S) (PNx S l):=by
 let(x,E,i,j,e,H):=Jai (W:=W) (n:=n) (S:=S) (m:=2000) hs 'd' 'd';let k:=e.lt;apply rn Jh5 rfl;apply oh Jao;apply oc i;apply os (Jbz (m:=6) (e.ext (.new _ _)) 'd' 'd');rintro _ o ⟨y,rfl,a,p,s⟩;let w:=a.get Jaa (by simp;omega);let A:Keep [l] S o:=(j.trans (.new _)).trans a;clear a;apply od (Jbk w s.1 (by simp;omega) (P:=λz=>∃v,z=.int v/\1<=v) ?_)
 .rintro _ I ⟨⟨v,rfl,J⟩,rfl⟩;show PNx.mk _ rfl (by omega) A p
 .intro z g;simp only[An,Bg,or_false]at g;rcases g with rfl|rfl|rfl|rfl|rfl|rfl
  .exists 1,rfl,by omega
  .exists 1,rfl,by omega
  .exists 1,rfl,by omega
  .exists _,rfl,by split<;>omega
  .exists _,rfl,by split<;>omega
  .exists _,rfl,by omega
inductive PRu (S:Store) (l:Nat) (d:D) (S':Store):Prop
 |mk (r:Rl) (_:d=rlD r) (_:RlOk r) (_:Keep [l] S S') (_:Stm S' l):PRu S l d S'
def Jl3(hs:Stm S l):Sat (callN T G W (n+2) "_law_rules" [.loc l] S) (PRu S l):=by
 let hl:=hs.lt;let e:∀S:Store,bop .pow (.int 10) (.int 40) S=.ok (.int 10000000000000000000000000000000000000000) S:=λS=>Jau (k:=40) rfl 'd' 'd';apply rn Jgl rfl;apply oh (e _);apply os (Jbz (m:=6) (hs.ext (.new _ _)) 'd' 'd');rintro _ N ⟨y,rfl,g,I,Q⟩;let U:=g.get Jaa (by simp;omega);let i:Keep [l] S N:=(Keep.new _).trans g;clear g;obtain⟨_,_,Y,⟨va,rfl,j⟩,rfl⟩:=Jbk U Q.1 (by simp;omega) (P:=λz=>∃v,z=.int v/\0<=v/\v<=10^40) (λz a=>by
  simp only[An,Bg,or_false]at a;rcases a with rfl|rfl|rfl|rfl|rfl|rfl<;>exists _,rfl,by omega)
 apply ox Y;let hl3:=I.lt;apply os (Jbz (m:=4) (I.ext (.new _ _)) 'd' 'd');rintro _ S4 ⟨y4,rfl,o,J,p⟩;let s:=o.get Jaa (by simp;omega);let w:Keep [l] S S4:=(i.trans (.new _)).trans o;clear o;obtain⟨_,_,eB,⟨vb,rfl,x⟩,rfl⟩:=Jbk s p.1 (by simp;omega) (P:=λz=>∃v,z=.int v/\1<=v/\v<=1000) (λz a=>by
  simp only[An,Bg,or_false]at a;rcases a with rfl|rfl|rfl|rfl<;>exists _,rfl,by omega)
 apply ox eB;let hl5:=J.lt;apply os (Jbz (m:=6) (J.ext (.new _ _)) 'd' 'd');rintro _ S6 ⟨y6,rfl,A,s6,C⟩;let E:=A.get Jaa (by simp;omega);let H:Keep [l] S S6:=(w.trans (.new _)).trans A;clear A;obtain⟨_,_,eC,⟨vc,rfl⟩,rfl⟩:=Jbk E C.1 (by simp;omega) (P:=λz=>∃v,z=.int v) (λz a=>by
  simp only[An,Bg,or_false]at a;rcases a with rfl|rfl|rfl|rfl|rfl|rfl<;>exists _,rfl)
 apply ox eC;show PRu.mk #[va,vb,vc] rfl #[j,x] H s6
def Jzn{es:List D}(h:S[k]? =-(.lst es))(a:⇑ds+⇑es<=Line):bop .add (.kl ds) (.loc k) S=.ok (.loc ⇑S) (S++[.lst (ds++es)]):=by
 change(match S[k]? with|some (.lst b)=>if ⇑ds+⇑b<=Line then Res.ok (D.loc ⇑S) (S++[Obj.lst (ds++b)])else .bad|_=>.bad)=_;rw[h];show if_pos a
def Stm.all(hs:Stm S g)(k:Keep [l] S S')(s:Stm S' l):Stm S' g:=by
 by_cases e:g=l
 .rw[e];show s
 .show hs.get (p:=0) k (by simp;show e)
inductive PSt (d:D) (S':Store):Prop
 |mk (p:Nat) (ls:List Nat) (_:d=.loc p) (_:S'[p]? =-(.lst (ls.map D.loc))) (_:0<⇑ls) (_:∀l∈ls,Stm S' l):PSt d S'
theorem Jig{ns:List Int}(hn:⇑ns<=63):Sat (callN T G W (n+3) "_law_streams" [.kl (ns.map D.int)] S) PSt:=by
 let o:0<((ns++[0]).take 60).length:=by simp;lia
 let s:((ns++[0]).take 60).length<=60:=by simp;lia
 let I:cutD (ns.map D.int++[.int 0]) none (some 60)=((ns++[0]).take 60).map D.int:=by
  rw[Jj8 'd',M8,Bv];rfl
 generalize(ns++[0]).take 60=j at o s I;let fin:∀{e:Bool},wB (Cn T G W (n+2)) (.cns (.ret (.comp ["_law_k","_law_cell","_law_digits"] 2 [1] (.ttup (.cns (.tvar 0) (.cns (.tvar 1) .nul))) (.enm (.sli (.bin .add (.var 0) (.lst (.cns (.cst (.int 0)) .nul))) .nul (.cns (.cst (.int 60)) .nul))) .nul (.call "_law_stream" (.cns (.var 1) (.cns (.var 0) (.cns (.var 2) .nul)))))) .nul) [-(.kl (ns.map D.int)),-(.bl e)] S (nD PSt) PSt:=λ{e}=>by
  apply ox (Jzn Jaa (by simp[Line];lia));apply oh (Jda Jaa);rw[I];generalize S++[Obj.lst [.int 0]]++[Obj.lst (ns.map D.int++[.int 0])]=y;let v:(y++[Obj.lst (j.map D.int)])[⇑y]? =-(.lst (j.map D.int)):=Jaa;generalize y++[Obj.lst (j.map D.int)]=N at v;apply ox (Jm3 v);apply od (comp (λi g S'=>∃a:List Nat,g=a.map D.loc/\⇑a=i/\Ext N S'/\∀l∈a,Stm S' l) (by rw[Ag];unfold Line;lia) #[[],rfl,rfl,.refl _,by simp] (λi g A #[a,C,w,Q,_]=>#[by rw[C,Ag];lia,Jcr (Q.get v)]) (λi g A U #[a,C,w,J,E]=>by
   let Y:i<⇑j:=by erw[U]
   exists .tup [.int i,.int j[i]],by simp[nth,Jbi (J.get v),Y],?_;let(p,e5,s5):=stream (W:=W) (n:=n) (S:=A) (x:=j[i]) (k:=i) (e:=e);apply ts;apply oc e5;exists a++[⇑A],by simp[C],by simp[w],J.trans (.new _ _),λz H=>?_;rcases Bn.1 H with z1|z1
   .show(E z z1).ext (.new _ _)
   .rw[Ap.1 z1];show s5))
  rintro _ _ ⟨ys,S0,⟨a,rfl,w,x0,E⟩,rfl,rfl⟩;show PSt.mk _ a rfl Jaa (by rw[Ag]at w;lia) λz H=>(E z H).ext (.new _ _)
 apply rn Jen rfl;cases ns with
 |nil=>show fin
 |cons x ns=>
  apply yes 's';apply ox (show Jaz (.kl (D.int x::ns.map D.int)) (.int 0) S=.ok (.int x) S by simp only[Jaz];rw[show idxD (.kl (D.int x::ns.map D.int)) (.int 0) S=-(.int x)from Jyq (at0 (k:=0) rfl)]);apply oh (Jas 'd');show fin
inductive PBg (d:D) (S':Store):Prop
 |mk (p:Nat) (ls:List Nat) (r:Rl) (h:Int) (_:d=.tup [.loc p,rlD r,.int h]) (_:S'[p]? =-(.lst (ls.map D.loc))) (_:⇑ls<=17) (_:(∀l∈ls,Stm S' l)) (_:RlOk r) (_:0<=h):PBg d S'
def Jn6{ns:List Int}(hn:⇑ns<=63):Sat (callN T G W (n+4) "_law_begin" [.kl (ns.map D.int)] S) PBg:=by
 let(_,w,e1,p,Y,rfl,hp,hl0,hst):=Jig (W:=W) (n:=n) (S:=S) hn;let c1:Yh (.loc p) none (some 17) w=.ok (.loc ⇑w) (w++[.lst ((Y.take 17).map D.loc)]):=by
  rw[Jda hp,Jj8 'd',M8];rfl
 obtain⟨i,g,E⟩:∃i g,Y.take 17=i::g:=by
  cases Y with
  |nil=>cases hl0
  |cons a b=>exists a,b.take 16,rfl
 let hll:⇑g<=16:=by
  let h1:=congrArg D9 E;rw[Gi,Bh]at h1
  lia
 let j:∀l∈i::g,Stm (w++[.lst ((i::g).map D.loc)]) l:=λl A=>(hst l (E3 (E▸A))).ext (.new _ _);rw[E]at c1;let C:(w++[Obj.lst ((i::g).map D.loc)])[⇑w]? =-(.lst ((i::g).map D.loc)):=Jaa;let i0:∀{S:Store},S[⇑w]? =-(.lst ((i::g).map D.loc))->Jaz (.loc ⇑w) (.int 0) S=.ok (.loc i) S:=λh=>Jak h (at0 (k:=0) rfl);let H:∀{S:Store},Stm S i->S[⇑w]? =-(.lst ((i::g).map D.loc))->⇑w≠i:=λhs h e=>by
  let(a,b,s,h2):=hs;rw[<-e,h]at h2;simp at h2
 apply rn Jgo rfl;apply oc e1;apply oh c1;generalize w++[Obj.lst ((i::g).map D.loc)]=S2 at C j;let(_,S3,e3,r,rfl,hr,k3,s3):=Jl3 (W:=W) (n:=n+1) (j i 's');let I:=k3.get C (by simp;show H (j i 's') C);let st3:∀l∈i::g,Stm S3 l:=λl A=>(j l A).all k3 s3;let p20:∀S:Store,bop .pow (.int 10) (.int 20) S=.ok (.int 100000000000000000000) S:=λS=>Jau (k:=20) rfl 'd' 'd';let(x,S4,e4,k4,Q,hx):=Jai (W:=W) (n:=n+2) (S:=S3) (m:=100000000000000000000) s3 'd' 'd';let J:=k4.get I (by simp;show H s3 I);let st4:∀l∈i::g,Stm S4 l:=λl A=>(st3 l A).all k4 Q;apply ox (i0 C);apply oc e3;apply ox (i0 I);apply oh (p20 _);apply oc e4;apply ox (i0 (Jab J));apply os (Jbz (m:=4) (Q.ext (.new _ _)) 'd' 'd');rintro _ S5 ⟨y,rfl,U,s5,hy⟩;let hl04:=Q.lt;let hL:=U.get Jaa 'm';let hp5:=U.get (Jab J) (by simp;show H Q J);let st5:∀l∈i::g,Stm S5 l:=λl A=>((st4 l A).ext (.new _ _)).all U s5;clear U;obtain⟨_,N,eV,⟨v,rfl,hv⟩,rfl⟩:=Jbk hL hy.1 'm' (P:=λz=>∃v,z=.int v/\0<=v) (λz hz=>by
  simp only[An,Bg,or_false]at hz;rcases hz with rfl|rfl|rfl|rfl<;>exists _,rfl,by lia)
 apply ox eV;let c2:Yh (.loc ⇑w) (some 1) none N=.ok (.loc ⇑N) (N++[.lst (g.map D.loc)]):=by
  rw[Jda hp5,Jgg 'd'];rfl
 let(o,e7,s7):=stream (W:=W) (n:=n+1) (S:=N++[.lst (g.map D.loc)]) (x:=7) (k:=17) (e:=false);apply oh c2;apply oc e7;apply ox (Jbb (Jab (Jab Jaa)) Jaa (by simp[Line];lia));show PBg.mk _ (g++[(N++[Obj.lst (g.map D.loc)]).length]) r v rfl (by rw[Jaa,Bv];rfl) 'm' (λl A=>?_) hr hv;rcases Bn.1 A with z|z
 .show(st5 l (A7 _ z)).ext ((((Ext.new _ _).trans (.new _ _)).trans (.new _ _)).trans (.new _ _))
 .rw[Ap.1 z];show s7.ext ((Ext.new _ _).trans (.new _ _))
end
theorem Jgb{f:D->D->Option Bool}:∀{xs:List D},(∀x∈xs,f x x=-true)->eqL f xs xs=-true
 |[],_=>rfl
 |a::r,h=>by simp only[eqL,h a 's',Jgb λx b=>h x (A7 _ b),Qy]
section
variable {W n:Nat} {S S':Store} {l L u q rl x0 y0:Nat} {c c1 c2 cu:Cs} {dn:List Int} {ps:List Nat} {d:Dd} {h h' f m t:Int} {r:Rl} {b:Bk} {ds:List D} {kvs:Kv} {lk:List Rw} {mx:Nat} {ks:List Int}
def Jhh{as:List D}(h:∀x∈as,eqD S k x x=-true):eqD S (k+1) (.tup as) (.tup as)=-true:=(if_pos rfl).trans (Jgb h)
def eq_int:eqD S (k+1) (.int x) (.int x)=-true:=congrArg some (beq_self_eq_true _)
def eq_str{k:Nat}{x:String}:eqD S (k+1) (.str x) (.str x)=-true:=congrArg some (beq_self_eq_true _)
def Wed{k:Nat}{x:String}:eqD S (k+1+1) (.tup [.str x]) (.tup [.str x])=-true:=Jhh λ_ h=>by cases Ap.1 h;show eq_str
def J0t{k:Nat}{x:String}{i:Int}:eqD S (k+1+1) (.tup [.str x,.int i]) (.tup [.str x,.int i])=-true:=Jhh λ_ h=>by
 rcases An.1 h with rfl|h
 .show eq_str
 .cases Ap.1 h;show eq_int
def J0u(x:Rw):eqD S (k+1+1) (rD x) (rD x)=-true:=by
 cases x<;>first|show J0t|show Wed
def J0v{k:Kp}:eqD S Deep (kpD k) (kpD k)=-true:=by
 let e:eqD S (8+1+1+1) (.tup (k.lk.map rD)) (.tup (k.lk.map rD))=-true:=Jhh λx a=>by
  let(y,_,rfl):=Av.1 a;show J0u (k:=8) y
 show Jhh (k:=11) λx a=>?_;simp only[An,Bg,or_false]at a;rcases a with rfl|rfl|rfl|rfl
 .show eq_int
 .show e
 .show eq_int
 .show eq_int
def Gc.sub(g:Gc c)(s:c1.Sublist c):Gc c1:=#[g.nd.sublist (s.map _),λp hp=>g.ok p (s.subset hp)]
def Gc.perm(g:Gc c)(s:c1.Perm c):Gc c1:=#[(s.map _).nodup_iff.2 g.nd,λp hp=>g.ok p (s.mem_iff.1 hp)]
def X7:(srC c).Perm c:=Jv _ _
theorem Jy1(g:Gc c2)(a:c1.Perm c2)(e:S[x]? =-(csO c1))(i:S[y]? =-(csO c2)):Zd S (.loc x) (.loc y)=-false:=by
 simp only[Zd,dtAt,e,i];show if_pos #[by rw[Ag,Ag];show a.length_eq,Dg.2 λp hp=>?_];let(z,j,rfl):=Av.1 hp;simp only[Jbe,Ji1 g.nd (a.mem_iff.1 j),Hx,J0v];rfl
def Jxz(g:Gc c2)(a:c1.Perm c2)(e:S[x]? =-(csO c1))(i:S[y]? =-(csO c2)):cop .ne (.loc x) (.loc y) S=-false:=by simp only[cop,Jy1 g a e i]
def Juu(a:Fr c dn)(e:d.n∉dn)(g:k∈mkL d):k∈(putP c d h f).map (·.1):=by
 rw[Jdl a e,Bv,Jfz];show Bw _ g
theorem Jy2{x:Int}(g:x∈dn):dVal (dp dn) x=-(.bl true):=by
 let a:=Jns (dn:=dn) (x:=x);cases e:dVal (dp dn) x with
 |none=>rw[e,decide_eq_true g]at a;cases a
 |some v=>
  let(i,_,j):=Av.1 (Jbl e);rw[(Vv j).2]
def Jvj{x:Int}(a:x∉dn):dDrop (dp (dn++[x])) x=dp dn:=by
 unfold dDrop dp;rw[Bv,Ig,Gb.2 (λz g=>?_)]
 .simp
 .let(i,j,rfl):=Av.1 g;show decide_eq_true λe=>a (e▸j)
inductive IU1 (S:Store) (L u:Nat) (nt:D) (cu:Cs) (d:Dd) (i:Nat) (Z:En) (S':Store):Prop
 |mk (v0) (_:Z=[-(.loc L),-nt,-(ddD d),v0,none]) (_:Keep [u] S S') (_:S'[u]? =-(csO (sans cu ((mkL d).take i)))):IU1 S L u nt cu d i Z S'
inductive IU2 (S:Store) (L u:Nat) (nt:D) (c0 ks:Cs) (d:Dd) (i:Nat) (Z:En) (S':Store):Prop
 |mk (v0 v1) (_:Z=[-(.loc L),-nt,-(ddD d),v0,v1]) (_:Keep [u] S S') (_:S'[u]? =-(csO (c0++ks.take i))):IU2 S L u nt c0 ks d i Z S'
inductive PUn (S:Store) (L u q:Nat) (c:Cs) (dn:List Int) (d:D) (S':Store):Prop
 |mk (_:Keep [u,q] S S') (_:Hd S' L u q c dn):PUn S L u q c dn d S'
def undo(a:Hd S L u q cu (dn++[d.n]))(gc:Gc c)(fr:Fr c dn)(dk:DdOk d)(hw:wordP c dn d h=none)(p:cu.Perm (putP c d h' f)):
  Sat (callN T G W (n+2) "Hoard.undo" [.loc L,ntD c d] S) (PUn S L u q (sans cu (mkL d)++(nms d).map (kpt c)) dn):=by
 let pm:=Jgv fr gc.nd hw p;let(hn,h2,hv):=Jaw hw;let g2:=gc.perm pm;generalize E:(nms d).map (kpt c)=ks at pm g2;let el:(Bz d.outs.length).map (λ(j:Nat)=>dK (d.n,(j:Int)))=(mkL d).map dK:=by rw[mkL,Bp];rfl
 let e0:=made_by (W:=W) (n:=n) (S:=S) dk.o;rw[el]at e0;let N:(S++[Obj.lst ((mkL d).map dK)])[⇑S]? =-(.lst ((mkL d).map dK)):=Jaa;let g:=a.ext (.new S [.lst ((mkL d).map dK)]);let x1:=Ext.new S [.lst ((mkL d).map dK)];let ul:=Jax a.u;apply rn Jew rfl;apply oc e0;generalize S++[Obj.lst ((mkL d).map dK)]=S1 at N g x1;apply ox (Ja0 N);apply ol (Wag (IU1 S1 L u (ntD c d) cu d) noR #[none,rfl,.refl,by rw[Ml];show g.u.trans (congrArg (λz=>-(csO z)) (Gb.2 λ_ _=>by simp).symm)] (λi Z S4 h=>by let(x,_,k4,_):=h;show k4.get N 'm') ?_)
 .rintro _ S2 ⟨x,rfl,w,o⟩;rw[Ag,Gg]at o;apply ol (loop (IU2 S2 L u (ntD c d) (sans cu (mkL d)) ks d) noR #[_,_,rfl,.refl,by rw[Ml,Co];show o] ?_)
  .rintro _ S3 ⟨x,y,rfl,C,s⟩;rw[Ag,By (by rw[<-E];simp)]at s;let H:=C.get (w.get g.l (by simp;show g.lu.1)) (by simp;show g.lu.1);let A:=C.get (w.get g.q (by simp;show g.uq.symm)) (by simp;show g.uq.symm);apply ox (Jbv H rfl);apply yes (by simp[rcv,isDm,dctAt,A]);apply oh (Jmr A (Jy2 (Bw _ (Ap.2 rfl))));rw[Jvj hn];show PUn.mk (((Keep.ext x1).trans (w.mono 's')).trans ((C.mono 's').trans (.set 's'))) #[?_,?_,Jaf A]
   .rw[A1 g.lu.2.symm];show H
   .rw[A1 g.uq.symm];show s
  .rintro i z _ S3 hd ⟨x,y,rfl,C,s⟩;rw[Ao]at hd;let(k,I,rfl):=Ai.1 hd;let Q:ks[i]? =-(kpt c k):=by rw[<-E,Ao,I];rfl
   let e1:ks.take (i+1)=ks.take i++[kpt c k]:=by rw[C5,Q];rfl
   let s1:(sans cu (mkL d)++ks.take (i+1)).Sublist (sans cu (mkL d)++ks):=(Qj _).append (G8 _ _);let U:=g2.sub s1;rw[e1,<-Ar]at U;let J:=Jl9 (k:=k) (v:=(kpt c k).2) s (U.sub (List.sublist_append_left _ _));rw[Jl7 (λz=>by
    let:=U.nd;rw[Bv,Cw]at this;show this.2.2 _ z _ (Ap.2 rfl) rfl)]at J
   apply tn;apply ox (Jbv (C.get (w.get g.l (by simp;show g.lu.1)) (by simp;show g.lu.1)) rfl);apply ox J;show IU2.mk _ _ rfl (C.trans (.set 's')) (by rw[Jaf s,e1,<-Ar];rfl)
 .rintro i z _ S2 hd ⟨x,rfl,w,o⟩;rw[Ao]at hd;let(k,I,rfl):=Ai.1 hd;let(v,hv):=Zt.2 (show k∈(sans cu ((mkL d).take i)).map (·.1) by
   let(p1,Y,rfl):=Av.1 ((p.map (·.1)).mem_iff.2 (Juu (h:=h') (f:=f) fr hn (As I)));show Av.2 #[p1,E4.2 #[Y,decide_eq_true λz=>?_],rfl];let(j,hj,e):=Qi.1 z;let(hi,J):=Ad.1 I;show B7.1 (Jus (d:=d)) j i 'l' hi 'l' (e.trans J.symm))
  apply tn;apply ox (Jbv (w.get g.l (by simp;show g.lu.1)) rfl);apply yes (Wat (me:=.pop1) rfl o);apply oh (pop_at o hv);show IU1.mk _ rfl (w.trans (.set 's')) (by rw[Jaf o,Jrf I])
inductive IFe (S:Store) (L u q:Nat) (r:Rl) (h:Int) (b:Bk) (z:Option (Nat×String)×Cs×List Int×Int) (i:Nat) (Z:En) (S':Store):Prop
 |mk (c dn f v0 v1) (_:Z=[-(.loc L),-(bkD b),-(.int h),-(rlD r),-(.int f),v0,v1]) (_:Keep [u,q] S S') (_:Hd S' L u q c dn) (_:Gc c) (_:Gd dn) (_:z=goP h r.c i c dn f (b.ds.drop i)):IFe S L u q r h b z i Z S'
def Jqa(a:Hd S L u q c dn)(g:Gc c)(Q:Gd dn)(U:BkOk b.ds){z:Option (Nat×String)×Cs×List Int×Int}(hz:z=goP h r.c 0 c dn 0 b.ds)(o:z.1=none):∃S',callN T G W (n+8) "_law_fees" [.loc L,bkD b,.int h,rlD r] S=.ok (.int z.2.2.2) S'/\Keep [u,q] S S'/\Hd S' L u q z.2.1 z.2.2.1:=by
 apply rx Jh8 rfl;apply ol (loop (IFe S L u q r h b z) noR #[c,dn,0,none,none,rfl,.refl,a,g,Q,hz] ?_)
 .rintro _ Y ⟨c2,j,f2,v0,v1,rfl,C,p,g2,k,e⟩;rw[enD_len,Ag,Fj,Jk1]at e;subst e;show Az rfl #[C,p]
 .rintro i y _ Y s ⟨c2,j,f2,v0,v1,rfl,C,p,g2,k,e⟩;rw[Jec,Ao]at s;let(y',hy,rfl):=Ai.1 s;let(d,hd,rfl):=Ai.1 hy;let hi:i<b.ds.length:=(Ad.1 hd).1;let A:=U.ok d (As hd);rw[Bx hi,(Ad.1 hd).2,Jk2]at e;let x:wordP c2 j d h=none:=by
   cases x:wordP c2 j d h with
   |none=>rfl
   |some w=>rw[x]at e;rw[e]at o;cases o
  rw[x]at e;let(hn,E,hv):=Jaw x;let(H,e4,I):=fee (W:=W) (n:=n+4) p A hv;let J:=p.ext I;let(v,S5,N,k5,a5,_):=Jvi (W:=W) (n:=n) (f:=if i=0 then h+r.c else h) J g2 k A x;let ef:bop .mul (.int r.c) (.int (if((i:Int)==0)=true then 1 else 0)) H=.ok (.int (r.c*if i=0 then 1 else 0)) H:=by
   rw[Jbh (by split<;>rfl)];simp
  rw[<-show h+r.c*(if i=0 then 1 else 0)=if i=0 then h+r.c else h by split<;>simp]at N;rw[C2];apply tn;apply yes p.rc;apply oc e4;apply yes J.rc;apply oh ef;apply oc N;show IFe.mk _ _ _ _ _ rfl ((C.trans (.ext I)).trans k5) a5 (g2.putO A _) (k.add hn A.n) e
inductive Rws (K:Nat) (S:Store):List D->Cs->List Int->Prop
 |nil:Rws K S [] [] []
 |cons {x y:Nat} {ns rs:List D} {c c':Cs} {dn dn':List Int} (_:Rws K S rs c dn) (_:K<=x/\K<=y) (_:S[x]? =-(.lst ns)) (_:S[y]? =-(csO (srC c))) (_:Gc c) (_:Nts ns.reverse c dn c' dn'):Rws K S (.tup [.loc x,.loc y]::rs) c' dn'
theorem Rws.keep{K:Nat}(h:Rws K S rs c dn)(k:∀x o,K<=x->S[x]? =-o->S'[x]? =-o):Rws K S' rs c dn:=by
 induction h with
 |nil=>show .nil
 |cons _ a e g i j p=>show .cons p a (k _ _ a.1 e) (k _ _ a.2 g) i j
inductive INt (S:Store) (L u q ro x y:Nat) (rs:List D) (c0:Cs) (dn0:List Int) (i:Nat) (Z:En) (S':Store):Prop
 |mk (cu c1 dn1 v0) (_:Z=[-(.loc L),-(.loc ro),-(.loc x),-(.loc y),v0]) (_:Keep [u,q] S S') (_:Hd S' L u q cu dn1) (_:cu.Perm c1) (_:Nts (rs.drop i) c0 dn0 c1 dn1):INt S L u q ro x y rs c0 dn0 i Z S'
inductive IUn (L u q ro K:Nat) (rs:List D) (i:Nat) (Z:En) (S':Store):Prop
 |mk (cu c1 dn1 v0 v1 v2) (_:Z=[-(.loc L),-(.loc ro),v0,v1,v2]) (_:Hd S' L u q cu dn1) (_:cu.Perm c1) (_:Rws K S' (rs.drop i) c1 dn1) (_:S'[ro]? =-(.lst rs.reverse)):IUn L u q ro K rs i Z S'
def PT(d:D)(S:Store):Prop:=d=.bl true
def Jkg{K:Nat}{rs:List D}(a:Hd S L u q c dn)(hr:S[H]? =-(.lst rs.reverse))(w:Rws K S rs c dn)(hk:u<K/\q<K):Sat (callN T G W (n+3) "_law_undone" [.loc L,.loc H] S) PT:=by
 apply rn Jet rfl;apply ox (Jrg hr);apply ol (Wbb (IUn L u q H K rs) noR #[c,c,dn,none,none,none,rfl,a,.refl _,w,hr] (λi Z S4 h=>by let(cu,c1,I,v0,v1,v2,_,_,_,_,h):=h;show h) ?_)
 .rintro _ A ⟨cu,c1,I,v0,v1,v2,rfl,C,p2,J,p⟩;rw[Sq,Fj]at J;cases J;cases p2.eq_nil;let g0:Gc []:=#[.nil,λ_ h=>absurd h Bg]
  let e0:srC []=[]:=X7.eq_nil;apply yes C.rc;let e1:=held (W:=W) (n:=n+1) C g0;rw[e0]at e1;apply oc e1;apply oo (a:=true) (by
   let:=Jy1 g0 (.refl []) (Jab (X:=[csO []]) (Jaa (S:=A) (o:=csO []))) (Jaa (S:=A++[csO []]) (o:=csO []));change cop .eq (.loc ⇑A) (.loc (A++[csO []]).length) (A++[csO []]++[csO []])=-true;simp only[cop,this];rfl)
  let s:=C.ext ((Ext.new A [csO []]).trans (.new _ [.dtu []]));apply yes s.rc;apply oc (total s g0);show rfl
 .rintro i z _ A hd ⟨cu,c1,I,v0,v1,v2,rfl,C,p2,J,p⟩;rw[Sq]at hd;let(hi,e):=Ad.1 hd;rw[Bx hi,e]at J;cases J with
  |@cons x y ns rs' c0 _ dn0 _ w3 N hx hy gc nt=>
  apply tn;apply ox (Jrg hx);let uro:H≠u/\H≠q:=by
   constructor<;>rintro rfl
   .let:=C.u.symm.trans p;cases this
   .let:=C.q.symm.trans p;cases this
  let big:∀{z:Nat},K<=z->z∉[u,q]:=λh=>by simp;lia
  apply ol (Wbb (INt A L u q H x y ns.reverse c0 dn0) noR #[cu,_,_,_,rfl,.refl,C,p2,nt] (λi Z S4 h=>by let(_,_,_,_,_,k,_):=h;show k.get hx (big N.1)) ?_)
  .rintro _ S3 ⟨cu3,c3,dn3,v,rfl,Q,s,E,g⟩;rw[Fj]at g;cases g;let hy3:=Q.get hy (big N.2);let gu:=gc.perm E;apply yes s.rc;apply oc (held s gu);apply oo (Jxz (gc.perm X7) (X7.trans (E.trans X7.symm)) Jaa (Jab hy3));show IUn.mk _ _ _ _ _ _ rfl (s.ext (.new _ _)) E (w3.keep λz o h e=>Jab (Q.get e (big h))) (Jab (Q.get p (by simp;show uro)))
  .rintro j z _ S3 hd3 ⟨cu3,c3,dn3,v,rfl,Q,s,E,g⟩;let(hj,e3):=Ad.1 hd3;rw[Bx hj,e3]at g;cases g with
   |cons nt4 g4 gd4 U dk4 Y=>
   let(_,S4,e4,k4,a4):=undo (W:=W) (n:=n) s g4 U dk4 Y E;apply tn;apply yes s.rc;apply oc e4;show INt.mk _ _ _ _ rfl (Q.trans k4) a4 (Jgv U g4.nd Y E) nt4
end
theorem Jno{ks:Nat->List Int}:∀{n:Nat},x∈Sbl.dd ks n->∃i<n,ks i=x
 |0,h=>by cases h
 |n+1,h=>by
  unfold Sbl.dd at h;split at h
  .let(i,a,e):=Jno h;exists i,by lia,e
  .rcases An.1 h with rfl|h
   .exists n,by lia,rfl
   .let(i,a,e):=Jno h;exists i,by lia,e
theorem Jy5{ks:Nat->List Int}:∀{n:Nat},(∀i j,i<j->j<n->ks i≠ks j)->(Sbl.dd ks n).length=n
 |0,_=>rfl
 |n+1,h=>by
  unfold Sbl.dd;rw[if_neg λz=>?_,Bh,Jy5 λi j a c=>h i j a 'l'];let(i,b,e):=Jno z;show h i n b 'l' e
def Jr9{ps:List PP}(h:ps.Nodup):dst ps=⇑ps:=Jy5 λi j a b e=>by
 let c:i<⇑ps:=by lia
 simp only[Ej,Ae c,Ae b,N2,Nq,and_true]at e;show B7.1 h i j c b a (N1 e.1 e.2)
section
variable {W n:Nat} {S S':Store} {l L u q rl x0 y0:Nat} {c c1 c2 cu:Cs} {dn:List Int} {ps:List Nat} {d:Dd} {h h' f m t:Int} {r:Rl} {b:Bk} {ds:List D} {kvs kv:Kv} {lk:List Rw} {mx:Nat} {ks:List Int} {md sd:List PP}
def ne_self:(!eqV (.int i) (.int i))=false:=congrArg (!·) (beq_self_eq_true i)
def J0d{ps:List PP}(e:S[l]? =-(.lst (ps.map dK))):cop .nin (dK p) (.loc l) S=-(decide (p∉ps)):=by
 let g:∀a:PP,eqD S Deep (dK a) (dK p)=-(decide (a=p)):=λa=>by
  change some ((a.1==p.1)&&((a.2==p.2)&&true))=_;rw[Qx];congr 1;rw[Lz];simp[Prod.ext_iff]
 let:∀ps:List PP,anyEq S Deep (dK p) (ps.map dK)=-(decide (p∈ps)):=by
  intro ps
  induction ps with
  |nil=>rfl
  |cons a r i=>
   change(match eqD S Deep (dK a) (dK p),anyEq S Deep (dK p) (r.map dK)with|some x,-y=>-(x||y)|_,_=>none)=_;rw[i,g];show congrArg some ?_;rw[<-Bool.decide_or];show decide_eq_decide.2 (by rw[An,eq_comm])
 simp[cop,Xm,seqAt,e,this]
def J0f{ps:List PP}(g:S[x]? =-(.lst (ps.map dK)))(i:S[y]? =-(.lst (ps.map dK))):cop .ne (.loc x) (.loc y) S=-false:=by
 let e:eqL (eqD S 11) (ps.map dK) (ps.map dK)=-true:=Jgb λz j=>by
  let(a,_,rfl):=Av.1 j;show Jhh (k:=10) λx hx=>by
   rcases An.1 hx with rfl|hx
   .show eq_int
   .cases Ap.1 hx;show eq_int
 let o:eqD S Deep (.loc x) (.loc y)=-true:=by
  rw[show Deep=11+1 from rfl,eqD];simp only[seqAt,g,i,if_true,e]
 let p:Zd S (.loc x) (.loc y)=none:=by simp only[Zd,dtAt,g]
 simp only[cop,p,o,Hx,D1]
def Jsf{ps:List PP}(h:aptB ps=true):ps.Nodup/\∀p∈ps,0<=p.2/\p.2<4:=by
 simp only[aptB,Am,Dg,decide_eq_true_eq]at h;exists h.2,λp hp=>by let:=h.1 p hp;lia
def Jra{xs:List PP}(p:xs.Perm ys)(h:aptB ys=true):srK xs=srK ys:=by
 let g:=Q9 (le:=λa b=>decide (Rdu.rkP a<=Rdu.rkP b)) (by intro a b c;simp;lia) (by intro a b;simp;lia) xs;show Jur ((Jv xs _).trans p) (g.imp λh=>by erw[h]) λa i b hb e=>Rdu.Jl4 ((Jsf h).2 a i) ((Jsf h).2 b hb) e
def Gc.apk(g:Gc c):aptB (c.map (·.1))=true:=by
 let:=g.apt;rwa[Bp]at this
abbrev eL(i:D)(p:Nat)(r:Rl)(h:Int)(B j ma sp:Nat)(a13 a e g:Option D):En:=[-i,-(.loc p),-(rlD r),-(.int h),-(.loc B),-(.loc (B+3)),-(.loc j),-(.loc (B+7)),-(.loc (B+8)),-(.loc (B+9)),-(.loc (B+10)),-(.loc ma),-(.loc sp),a13,a,e,g]
def Jss{B p ma sp uc:Nat}{b:Int}{sc:D}{a13 i j o:Option D}{k:En->Store->Prop}{R:D->Store->Prop}(Q:Hd S B (B+1) (B+2) c dn)(h2:Hd S (B+3) (B+4) (B+5) c dn)(g:Gc c)(su:S[B+10]? =-(.lst [.int (tot c),.int b]))(hb:tot c<=b)
  (hm:S[ma]? =-(.lst (md.map dK)))(hs:S[sp]? =-(.lst (sd.map dK)))(e:Mk md sd c dn)(hl:⇑md<=1000)(K:∀{S'},Ext S S'->S'[⇑S]? =-(csO (srC c))->k (eL sc p r h B ⇑S ma sp a13 i j o) S'):
  wB (Cn T G W (n+9)) tlL (eL sc p r h B uc ma sp a13 i j o) S k R:=by
 let kn:=Cw.1 e.kn;let sl:⇑sd<=1000:=B3 (by let:=e.pm.length_eq;rw[Al]at this;lia) hl;let U:=Ext.new S [csO (srC c)];let u1:(S++[csO (srC c)])[⇑S]? =-(csO (srC c)):=Jaa;apply yes Q.rc;apply oc (held Q g);generalize S++[csO (srC c)]=S1 at U u1;let s:=Q.ext U;apply yes s.rc;apply oc (total s g);let C:=U.trans (.new S1 [pl (c.map (·.2.w))]);let Y:=Jab (X:=[pl (c.map (·.2.w))]) u1;generalize S1++[pl (c.map (·.2.w))]=S2 at C Y;let a:=C.get su;apply ox (Jak a (at0 (k:=0) rfl));apply no ne_self;apply ox (Jak a (at0 (k:=0) rfl));apply ox (Jak a (at0 (k:=1) rfl));apply no (decide_eq_false 'l');let v:=h2.ext C;apply yes v.rc;apply oc (held v g);apply oo (Jxz (g.perm X7) (.refl _) Jaa (Jab Y));let E:=C.trans (.new S2 [csO (srC c)]);let u3:=Jab (X:=[csO (srC c)]) Y;generalize S2++[csO (srC c)]=H at E u3;let y:=E.get hm;let z:=E.get hs;apply ox (Jjx y hl);apply ox (Jap y);apply no (by rw[Ag,Jr9 e.nd];show ne_self);apply ox (Jjx z sl);apply ox (Jap z);apply no (by rw[Ag,Jr9 kn.2.1];show ne_self);let gl:=(g.perm X7).len;let ek:(cp (srC c)).map (·.1)=(srC c).map (·.1):=by rw[Bp];rfl
 let es:srK ((cp (srC c)).map (·.1))=srK (md.filter λk=>decide (k∉sd)):=by
  rw[ek];show(Jra (X7.map _) g.apk).trans (Jra e.left g.apk).symm
 let e1:=Jji u3 (g.perm X7).apt (by rw[Ag];unfold Line;lia);rw[es]at e1;apply ox e1;let I:=E.trans (.new H [.lst ((srK (md.filter λk=>decide (k∉sd))).map dK)]);let u4:=Jab (X:=[.lst ((srK (md.filter λk=>decide (k∉sd))).map dK)]) u3;let q4:(H++[.lst ((srK (md.filter λk=>decide (k∉sd))).map dK)])[⇑H]? =-(.lst ((srK (md.filter λk=>decide (k∉sd))).map dK)):=Jaa;generalize H++[.lst ((srK (md.filter λk=>decide (k∉sd))).map dK)]=J at I u4 q4;let A:=I.get hm;let hs4:=I.get hs;apply ox (Ja0 A);apply ox ((Jf6 (xs:=md) dK (λk=>if decide (k∉sd)then -(dK k)else none) 'l' (.inr #[_,rfl,A]) (λx _=>by
  apply tc;apply oi (J0d hs4)
  by_cases N:x∉sd
  .apply yes (decide_eq_true N);show Az (by rw[if_pos (decide_eq_true N)]) rfl
  .apply no (decide_eq_false N);show Az (by rw[if_neg (by erw[N])]) rfl)).trans (by rw[Jd3]))
 let x5:=I.trans (.new J [.lst ((md.filter λk=>decide (k∉sd)).map dK)]);let u5:=Jab (X:=[.lst ((md.filter λk=>decide (k∉sd)).map dK)]) u4;let q5:=Jab (X:=[.lst ((md.filter λk=>decide (k∉sd)).map dK)]) q4;let m5:(J++[.lst ((md.filter λk=>decide (k∉sd)).map dK)])[⇑J]? =-(.lst ((md.filter λk=>decide (k∉sd)).map dK)):=Jaa;generalize J++[.lst ((md.filter λk=>decide (k∉sd)).map dK)]=S5 at x5 u5 q5 m5;let ap:aptB (md.filter λk=>decide (k∉sd))=true:=by
  let:=g.apk;simp only[aptB,Am,Dg,decide_eq_true_eq]at this ⊢;exists λp hp=>this.1 p (e.left.mem_iff.1 hp),e.left.nodup_iff.2 this.2
 apply ox (Jln (by simp[Wah,dtAt,seqAt,m5,Jrv]) ap (Ja6 (B3 (Jf _ _) 'l')));apply oo (J0f (Jab q5) Jaa);show K (x5.trans (.new _ _)) (Jab u5)
theorem Jr0{M:List Dd->Cs->List Int->Int->Prop}(st:∀{pre c dn f d},M pre c dn f->wordP c dn d h=none->M (pre++[d]) (putP c d h (if ⇑pre=0 then h+w else h)) (dn++[d.n]) (f+Zg c d)){z:Option (Nat×String)×Cs×List Int×Int}(a:z.1=none):
  ∀{ds pre:List Dd} {c:Cs} {dn:List Int} {f:Int},M pre c dn f->z=goP h w ⇑pre c dn f ds->M (pre++ds) z.2.1 z.2.2.1 z.2.2.2
 |[],pre,c,dn,f,m,hz=>by
  rw[Jk1]at hz;subst hz;rwa[Co]
 |d::ds,pre,c,dn,f,m,hz=>by
  rw[Jk2]at hz;cases e:wordP c dn d h with
  |some x=>rw[e]at hz;rw[hz]at a;cases a
  |none=>
   rw[e]at hz;let:=Jr0 st a (ds:=ds) (st m e) (by rw[hz,Al];rfl);rwa[Ar]at this
def Jzj{ds:List Dd}{z:Option (Nat×String)×Cs×List Int×Int}(o:Mk md sd c dn)(p:BkOk ds)(hz:z=goP h w 0 c dn 0 ds)(s:z.1=none):Mk (md++ds.flatMap mkL) (sd++ds.flatMap nms) z.2.1 z.2.2.1/\tot z.2.1+z.2.2.2=tot c+first ds/\z.2.2.1=dn++ds.map (·.n):=by
 rw[<-Jrq p];show Jr0 (M:=λa i e f=>Mk (md++a.flatMap mkL) (sd++a.flatMap nms) i e/\tot i+f=tot c+((a.filter λd=>decide (d.ins=[])).map worth).sum/\e=dn++a.map (·.n)) (λ{a c dn f d} m j=>?_) s (pre:=[]) #[by erw[o],by simp,by simp] hz;let(g,x,v):=m;exists ?_,?_,by rw[v];simp
 .let:=g.put j (h':=h) (f:=if ⇑a=0 then h+w else h)
  erw[this]
 .rw[Jsq g.fr (Cw.1 g.kn).1 j,Ig,Bv,My];unfold Zg
  by_cases k:d.ins=[]
  .simp[k,spent]
   lia
  .simp[k]
   lia
inductive IMs (S:Store) (sc:D) (p:Nat) (r:Rl) (h:Int) (B uc:Nat) (md sd:List PP) (dn:List Int) (ds:List Dd) (a13 a14 a15:Option D) (i:Nat) (Z:En) (S':Store):Prop
 |mk (ma sp a16) (_:Z=eL sc p r h B uc ma sp a13 a14 a15 a16) (_:Keep [B+7] S S') (_:S'[B+7]? =-(dnO (dn++(ds.take i).map (·.n)))) (_:B+11<=ma/\B+11<=sp) (_:S'[ma]? =-(.lst ((md++(ds.take i).flatMap mkL).map dK))) (_:S'[sp]? =-(.lst ((sd++(ds.take i).flatMap nms).map dK)))
  (_:(md++(ds.take i).flatMap mkL).length<=⇑md+3*i) (_:(sd++(ds.take i).flatMap nms).length<=⇑sd+3*i):IMs S sc p r h B uc md sd dn ds a13 a14 a15 i Z S'
def Jqg{a:List Dd}(hq:S[B+7]? =-(dnO dn))(ho:B+11<=ma/\B+11<=sp)(hm:S[ma]? =-(.lst (md.map dK)))(hs:S[sp]? =-(.lst (sd.map dK)))(ok:∀d∈a,DdOk d)(I:Gd (dn++a.map (·.n)))(l1:⇑md<=1000)(l2:⇑sd<=1000)(l3:⇑a<=16):
  Sat (kFor (Cn T G W (n+9)) (.tvar 16) lpM (eL sc p r h B uc ma sp a13 g k J) (none,a.map ddD) S) (FlP (IMs S sc p r h B uc md sd dn a a13 g k (a.map ddD).length) noR):=by
 show loop (IMs S sc p r h B uc md sd dn a a13 g k) noR #[ma,sp,J,rfl,.refl,by erw[hq],ho,by erw[hm],by erw[hs],by simp,by simp] ?_;rintro i z _ C o ⟨ma2,sp2,v,rfl,k2,s,ho2,N,Q,b1,b2⟩;rw[Ao]at o;let(d,hd,rfl):=Ai.1 o;let hi:=(Ad.1 hd).1;let U:=ok d (As hd);let Y:a.take (i+1)=a.take i++[d]:=by rw[C5,hd];rfl
 let es:a.map (·.n)=(a.take (i+1)).map (·.n)++(a.drop (i+1)).map (·.n):=by rw[<-Bv,Fs]
 let g1:Gd (dn++(a.take i).map (·.n))/\d.n∉dn++(a.take i).map (·.n):=by
  rw[es,Y,Bv,Ar,<-Ar]at I;let nd:=Cw.1 I.nd;exists#[nd.1,λx hx=>I.ok x (Dt _ hx)],λz=>nd.2.2 _ z _ (Dt _ (Ap.2 rfl)) rfl
 let o3:=U.o;let i3:=U.i;let e1:(mkL d).length=d.outs.length:=by simp[mkL]
 let e2:(nms d).length=d.ins.length:=by simp[nms]
 apply tn;apply ox (Jl8 s g1.1 g1.2);let k3:Keep [B+7] S (C.set (B+7) (dnO (dn++(a.take i).map (·.n)++[d.n]))):=k2.trans (.set 's');let w:=Jaf (o':=dnO (dn++(a.take i).map (·.n)++[d.n])) s;let km:Keep [B+7] C (C.set (B+7) (dnO (dn++(a.take i).map (·.n)++[d.n]))):=.set 's';let e:=km.get N 'm';let y:=km.get Q 'm';generalize C.set (B+7) (dnO (dn++(a.take i).map (·.n)++[d.n]))=A at k3 w e y;let e0:=made_by (W:=W) (n:=n+8) (S:=A) U.o;rw[show(Bz d.outs.length).map (λ(j:Nat)=>dK (d.n,(j:Int)))=(mkL d).map dK by rw[mkL,Bp];rfl]at e0;apply oc e0;let ll:=Jax e;apply ox (Jbb (Jab e) Jaa (E2 (Ja6 (by rw[Ag,Ag];lia))));rw[Ar];let x4:=Ext.new A ([.lst ((mkL d).map dK)]++[.lst ((md++(a.take i).flatMap mkL).map dK++(mkL d).map dK)]);let E:(A++([.lst ((mkL d).map dK)]++[.lst ((md++(a.take i).flatMap mkL).map dK++(mkL d).map dK)]))[(A++[Obj.lst ((mkL d).map dK)]).length]? =-(.lst ((md++(a.take i).flatMap mkL).map dK++(mkL d).map dK)):=by rw[<-Ar];show Jaa
 rw[Al]at E ⊢;generalize A++([.lst ((mkL d).map dK)]++[.lst ((md++(a.take i).flatMap mkL).map dK++(mkL d).map dK)])=S4 at x4 E ⊢;apply ox ((Ja1 (xs:=d.ins) inD (λi=>dK i.1) 'l' (.inl rfl) (λx _=>by apply tc;show Az rfl rfl)).trans (show _=Res.ok (.loc S4.length) (S4++[.lst ((nms d).map dK)]) by rw[nms,Bp];rfl));apply ox (Jbb (Jab (x4.get y)) Jaa (E2 (Ja6 (by rw[Ag,Ag];lia))));let x5:=x4.trans ((Ext.new S4 [.lst ((nms d).map dK)]).trans (.new _ [.lst ((sd++(a.take i).flatMap nms).map dK++(nms d).map dK)]));let en:dn++(a.take (i+1)).map (·.n)=dn++(a.take i).map (·.n)++[d.n]:=by rw[Y,Bv,<-Ar];rfl
 let H:∀{f:Dd->List PP} {l:List PP},l++(a.take (i+1)).flatMap f=l++(a.take i).flatMap f++f d:=λ{f l}=>by rw[Y,List.flatMap_append,List.flatMap_singleton,<-Ar]
 show IMs.mk _ _ _ rfl (k3.trans (.ext x5)) (by rw[en];show x5.get w) #[by simp;lia,by let:=Jax E;simp at this ⊢;lia] ?_ ?_ (by rw[H,Al];lia) (by rw[H,Al];lia)
 .rw[H,Bv (f:=dK) (l₂:=mkL d)];show Jab (Jab E)
 .rw[H,Bv (f:=dK) (l₂:=nms d)];show Jaa
structure Lw(S:Store)(B p:Nat)(ls:List Nat)(kv:Kv)(mx:Nat)(c:Cs)(dn:List Int)(m:Int)(uc ma sp:Nat)(md sd:List PP)(b:Int)(rs:List D):Prop where
 lt:p<B/\∀l∈ls,l<B
 p:S[p]? =-(.lst (ls.map D.loc))
 st:∀l∈ls,Stm S l
 r:S[B+8]? =-(.rg kv)
 g:Ym kv mx
 mn:Mn kv c dn m
 h1:Hd S B (B+1) (B+2) c dn
 h2:Hd S (B+3) (B+4) (B+5) c dn
 o:(uc=B+6\/B+11<=uc)/\B+11<=ma/\B+11<=sp
 u:S[uc]? =-(csO (srC c))
 q:S[B+7]? =-(dnO dn)
 ro:S[B+9]? =-(.lst rs.reverse)
 su:S[B+10]? =-(.lst [.int (tot c),.int b])
 ma:S[ma]? =-(.lst (md.map dK))
 sp:S[sp]? =-(.lst (sd.map dK))
 rw:Rws (B+11) S rs c dn
 km:Mk md sd c dn
 t:tot c<=b
section
variable {B p uc ma sp:Nat} {ls:List Nat} {rs:List D} {bb:Int} {kv':Kv} {my:Nat}
def Lw.to(w:Lw S B p ls kv mx c dn m uc ma sp md sd bb rs)(f:∀{x o},x≠B+8->B<=x\/x=p->S[x]? =-o->S'[x]? =-o)(s:∀l∈ls,Stm S' l)(r:S'[B+8]? =-(.rg kv'))(g:Ym kv' my)(a:Gr kv kv'):Lw S' B p ls kv' my c dn m uc ma sp md sd bb rs:=
 #[w.lt,f (by let:=w.lt;lia) (.inr rfl) w.p,s,r,g,w.mn.ring a,#[f 'l' (.inl 'l') w.h1.l,f 'l' (.inl 'l') w.h1.u,f 'l' (.inl 'l') w.h1.q],#[f 'l' (.inl 'l') w.h2.l,f 'l' (.inl 'l') w.h2.u,f 'l' (.inl 'l') w.h2.q],w.o,
  f (by let:=w.o;lia) (.inl (by let:=w.o;lia)) w.u,f 'l' (.inl 'l') w.q,f 'l' (.inl 'l') w.ro,f 'l' (.inl 'l') w.su,f (by let:=w.o;lia) (.inl (by let:=w.o;lia)) w.ma,f (by let:=w.o;lia) (.inl (by let:=w.o;lia)) w.sp,w.rw.keep λx o h e=>f 'l' (.inl 'l') e,w.km,w.t]
theorem Lw.ext(w:Lw S B p ls kv mx c dn m uc ma sp md sd bb rs)(x:Ext S S'):Lw S' B p ls kv mx c dn m uc ma sp md sd bb rs:=w.to (λ_ _ e=>x.get e) (λl a=>(w.st l a).ext x) (x.get w.r) w.g λ_ h=>h
def Lw.sr(w:Lw S B p ls kv mx c dn m uc ma sp md sd bb rs)(j:l∈ls)(a:Sr S l (B+8) kv my S' kv'):Lw S' B p ls kv' my c dn m uc ma sp md sd bb rs:=by
 let v:=w.lt.2 l j;show w.to (λ{x o} h1 h2 e=>a.k.get e (λz=>?_)) (λk i=>?_) a.r a.g a.m
 .rcases An.1 z with rfl|z
  .rcases h2 with h2|rfl
   .lia
   .let(y,e,s,h):=w.st _ j;rw[w.p]at h;cases ls with
    |nil=>cases j
    |cons a r=>simp at h
  .show h1 (Ap.1 z)
 .by_cases e:k=l
  .rw[e];show a.s
  .show(w.st k i).get (p:=0) a.k ?_;simp;exists e,(w.st k i).ne_rg w.r
end
def Jjm{j:Nat}{i:Int}{d:D}(h:S[l]? =-(.lst ds))(e:ixN ⇑ds i=-j):Xz (.loc l) (.int i) d S=.ok () (S.set l (.lst (ds.set j d))):=by simp only[Xz,h,e]
def Mn.perm(g:Mn kv c dn m)(p:c1.Perm c):Mn kv c1 dn m:=#[g.gc.perm p,g.gd,λx a=>g.lt x (p.mem_iff.1 a),λx a=>g.has x (p.mem_iff.1 a),g.dlt]
inductive ILaw (sc:D) (p B:Nat) (ls:List Nat) (r:Rl) (i:Nat) (Z:En) (S':Store):Prop
 |mk (h:Int) (uc ma sp:Nat) (kv:Kv) (c:Cs) (dn:List Int) (md sd:List PP) (b:Int) (rs:List D) (a13 a14 a15 a16:Option D) (_:Z=eL sc p r h B uc ma sp a13 a14 a15 a16) (_:0<=h) (_:⇑md<=48*i) (_:⇑rs<=i) (_:Lw S' B p ls kv (45*i) c dn (20*i+1) uc ma sp md sd b rs):ILaw sc p B ls r i Z S'
def Jva{Y:List D}{k:En->Store->Prop}{R:D->Store->Prop}(w:Lw S B p ls kv mx c dn m uc ma sp md sd A Y)(gb:BkOk b.ds)(hds:b.ds=d0::ds')(hok:∀d∈b.ds,DdOk d/\d.n<m'/\∀o∈d.outs,Hs kv o.2)(gr:RlOk r)(hh:1<=h)(hb:bfP r h c dn b.ds=none)(hm:m<=m')(hml:⇑md<=900)(hrl:⇑Y<=17)
  (K:∀{S' uc ma sp c dn md' sd' A rs' a16},⇑md'<=⇑md+48->⇑rs'<=⇑Y+1->Lw S' B p ls kv mx c dn m' uc ma sp md' sd' A rs'->k (eL sc p r h B uc ma sp a13 a14 (-(bkD b)) a16) S'):
  wB (Cn T G W (n+9)) tlM (eL sc p r h B uc ma sp a13 a14 (-(bkD b)) a16) S k R:=by
 obtain⟨_,C,e7,⟨x,ys,rfl,hx,hxs,nt⟩,k7,a7,g7,gd7⟩:=do_block (W:=W) (n:=n) w.h1 w.mn.gc w.mn.gd w.km.fr gr gb hh hb;obtain⟨I,hz2⟩:(goP h r.c 0 c dn 0 b.ds).1=none/\first b.ds<=giftP r h+(goP h r.c 0 c dn 0 b.ds).2.2.2:=by
  unfold bfP at hb;split at hb
  .cases hb
  .split at hb
   .cases hb
   .exists‹_›,by lia
 generalize hz:goP h r.c 0 c dn 0 b.ds=z at nt a7 g7 gd7 I hz2;let(mk',tt,hdn):=Jzj w.km gb hz.symm I;let mn':=Jr1 I hok (w.mn.mono hm) hz.symm;let wo:=w.o;let wl:=w.lt;let hsd:⇑sd<=900:=by let:=w.km.pm.length_eq;rw[Al]at this;lia
 let gs:=w.mn.gc.perm (X7 (c:=c));let bl:=Jax w.su;apply yes (Ja5 (me:=.append) rfl w.ro);apply oc e7;apply ox (Jdd (k7.get w.u 'm') gs.apt);let l7:=k7.1;let ro8:=Jab (X:=[csO (srC c)]) (k7.get w.ro 's');apply oh (Jat ro8 (Ja6 (by rw[Jw];lia)));let k9:Keep [B+1,B+2,B+9] S ((C++[csO (srC c)]).set (B+9) (.lst (Y.reverse++[.tup [.loc x,.loc ⇑C]]))):=(k7.mono 's').trans ((Keep.new _).trans (.set 's'));let q9:Keep [B+9] (C++[csO (srC c)]) ((C++[csO (srC c)]).set (B+9) (.lst (Y.reverse++[.tup [.loc x,.loc ⇑C]]))):=.set 's';let x9:=q9.get (Jab (X:=[csO (srC c)]) hxs) 'm';let y9:=q9.get (Jaa (S:=C) (o:=csO (srC c))) 'm';let r9:=Jaf (o':=.lst (Y.reverse++[.tup [.loc x,.loc ⇑C]])) ro8;let a9:=(a7.ext (.new C [csO (srC c)])).keep q9 's' 's' 's';generalize(C++[csO (srC c)]).set (B+9) (.lst (Y.reverse++[.tup [.loc x,.loc ⇑C]]))=S9 at k9 x9 y9 r9 a9;generalize ⇑C=y at y9 l7 r9;let su9:=k9.get w.su 's';let dk0:=gb.ok d0 (by rw[hds];simp);let ef:first b.ds=worth d0:=by rw[hds];rfl
 apply ox (Jak su9 (at0 (k:=0) rfl));apply ox (show Jaz (.tup (b.ds.map ddD)) (.int 0) S9=.ok (ddD d0) S9 by rw[hds];show Jf5);apply oc (worth_of dk0.o);let J:=Ext.new S9 [pl (Xq d0)];generalize S9++[pl (Xq d0)]=S10 at J;let(i,e11,k11,a11):=Jqa (W:=W) (n:=n+1) ((w.h2.keep k9 's' 's' 's').ext J) w.mn.gc w.mn.gd gb hz.symm I;apply oc e11;apply oh Jao;rw[show tot c+worth d0-z.2.2.2=tot z.2.1 by lia];let k12:Keep [B+4,B+5,B+10] S9 (i.set (B+10) (.lst [.int (tot z.2.1),.int A])):=((Keep.ext J).trans (k11.mono 's')).trans (.set 's');let su11:=k11.get (J.get su9) 's';apply ox (show Xz (.loc (B+10)) (.int 0) (.int (tot z.2.1)) i=.ok () (i.set (B+10) (.lst [.int (tot z.2.1),.int A]))from Jjm (j:=0) su11 rfl);let g:=Jaf (o':=.lst [.int (tot z.2.1),.int A]) su11;let q12:Keep [B+10] i (i.set (B+10) (.lst [.int (tot z.2.1),.int A])):=.set 's';let a12:=a11.keep q12 's' 's' 's';generalize i.set (B+10) (.lst [.int (tot z.2.1),.int A])=E at k12 g a12;apply ox (Jak g (at0 (k:=1) rfl));apply oc (gift gr hh);apply ox (show Xz (.loc (B+10)) (.int 1) (.int (A+giftP r h)) E=.ok () (E.set (B+10) (.lst [.int (tot z.2.1),.int (A+giftP r h)]))from Jjm (j:=1) g rfl);let su13:=Jaf (o':=.lst [.int (tot z.2.1),.int (A+giftP r h)]) g;let q13:Keep [B+10] E (E.set (B+10) (.lst [.int (tot z.2.1),.int (A+giftP r h)])):=.set 's';let H:=k12.trans (q13.mono 's');let a13':=a12.keep q13 's' 's' 's';generalize E.set (B+10) (.lst [.int (tot z.2.1),.int (A+giftP r h)])=S13 at su13 H a13';let kk:Keep [B+1,B+2,B+4,B+5,B+9,B+10] S S13:=(k9.mono 's').trans (H.mono 's');apply ol (Jqg (W:=W) (n:=n) (kk.get w.q 's') wo.2 (kk.get w.ma 'm') (kk.get w.sp 'm') gb.ok (by rw[<-hdn];show gd7) 'l' 'l' gb.l);rintro _ S14 ⟨ma',sp',v,rfl,s,N,o14,Q,U,b1,b2⟩;let hbl:=gb.l;rw[Ag]at b1 b2 N Q U;rw[Gg]at N Q U b1 b2;rw[<-hdn]at N;let h1:=(a9.keep H 's' 's' 's').keep s 's' 's' 's';let h2:=a13'.keep s 's' 's' 's';let su14:=s.get su13 's';let kf:Keep [B+1,B+2,B+4,B+5,B+7,B+9,B+10] S S14:=(kk.mono 's').trans (s.mono 's');let big:∀{v:Nat},B+11<=v->v∉[B+1,B+2,B+4,B+5,B+7,B+9,B+10]:=λh=>by simp;lia
 let sm:∀{v:Nat},v<B->v∉[B+1,B+2,B+4,B+5,B+7,B+9,B+10]:=λh=>by simp;lia
 show Jss h1 h2 g7 su14 (by let:=w.t;lia) Q U mk' 'l' λ{S'} a u15=>?_;let ll:=kf.1;show K (rs':=.tup [.loc x,.loc y]::Y) 'l' 's' #[wl,a.get (kf.get w.p (sm wl.1)),λl hl=>((w.st l hl).get (p:=0) kf (sm (wl.2 l hl))).ext a,a.get (kf.get w.r 's'),w.g,mn',h1.ext a,h2.ext a,#[.inr 'l',o14],u15,a.get N,?_,a.get su14,a.get Q,a.get U,?_,mk',by let:=w.t;lia]
 .rw[List.reverse_cons];show a.get (s.get (H.get r9 's') 's')
 .let q15:∀{v o},B+11<=v->S9[v]? =-o->S'[v]? =-o:=λh e=>a.get (s.get (H.get e 'm') 'm');show .cons (w.rw.keep λv o h e=>a.get (kf.get e (big h))) #[by lia,by lia] (q15 'l' x9) (q15 'l' y9) w.mn.gc nt
theorem Jpq(N:ILaw Q p B H r i Z S)(v:l∈H)(hi:i<=16)(z:RlOk r):
  Sat (Yr (Cn T G W (n+9)) (.ttup (.cns (.tvar 13) (.cns (.tvar 14) .nul))) Wcl (.tup [.int i,.loc l]) Z S) (FlP (ILaw Q p B H r (i+1)) noR):=by
 let(h,U,ma,sp,kv,c,dn,md,sd,Y,rs,a13,a14,a15,a16,rfl,hh,hml,hrl,w):=N;let(_,I,e1,k,rfl,g,k1,J):=Jpk (W:=W) (n:=n+7) (r:=r) (w.st l v) hh;let j:=w.sr v ((Sr.refl (w.st l v) w.r w.g).take k1 J);let em:bop .mul (.int 20) (.int i) I=.ok (.int (20*i)) I:=Jhv rfl;let(_,S2,e2,b,o,rfl,a2,A,s,C,d0,ds,E,_,_):=Jn4 (W:=W) (n:=n+2) (h:=k) (r:=r) (first:=20*(i:Int)+1) J j.r j.g 'l' j.u j.q (j.mn.perm X7) 'l' z g;let y:=j.sr v a2;let(S3,e3,x3):=block_fault (W:=W) (n:=n+1) (h:=k) (b:=b) y.h1 y.mn.gc y.mn.gd z A g;let a:=y.ext x3;apply tn;apply oc e1;apply oh em;apply oc e2;apply oc e3;cases hb:bfP r k c dn b.ds with
 |some x=>
  show ILaw.mk k U ma sp o c dn md sd Y rs _ _ _ _ rfl 'l' 'l' 'l' #[a.lt,a.p,a.st,a.r,#[by let:=a.g.l;lia,a.g.k],a.mn.mono 'l',a.h1,a.h2,a.o,a.u,a.q,a.ro,a.su,a.ma,a.sp,a.rw,a.km,a.t]
 |none=>
  show Jva a A E (m':=20*((i+1:Nat):Int)+1) (λd hd=>#[A.ok d hd,by let:=s d hd;lia,C d hd]) z g hb 'l' 'l' 'l' λl1 l2 e=>ILaw.mk k _ _ _ o _ _ _ _ _ _ _ _ _ _ rfl 'l' 'l' 'l' #[e.lt,e.p,e.st,e.r,#[by let:=e.g.l;lia,e.g.k],e.mn,e.h1,e.h2,e.o,e.u,e.q,e.ro,e.su,e.ma,e.sp,e.rw,e.km,e.t]
theorem Jx9{ns:List Int}(C:⇑ns<=63):Sat (callN T G W (n+10) "law" [.kl (ns.map D.int)] []) PT:=by
 let(_,a,y,p,v,r,E,rfl,hp,H,s,I,x):=Jn6 (W:=W) (n:=n+5) (S:=[]) C;apply rn Jv0 rfl;generalize(D.kl (ns.map D.int))=J at y;apply oc y;apply oc (init (S:=a));apply oc (init (S:=a++_));let o:∀{S:Store} {o:Mi.Obj},S[p]? =-(.lst (v.map D.loc))->(S++[o])[p]? =-(.lst (v.map D.loc)):=Jab;apply ox (Jm3 (o (o (o (o (o (o (o (Jab (Jab hp))))))))));simp only[Ar,Al,Bh,H9,Le,Ly,C2,Nat.reduceAdd,Eh];generalize N:([Obj.ins "Hoard" [("unspent",.loc (⇑a+1)),("done",.loc (⇑a+2))],.dtu [],.dct [],.ins "Hoard" [("unspent",.loc (⇑a+4)),("done",.loc (⇑a+5))],.dtu [],.dct [],.dtu [],.dct [],.rg [],.lst [],.lst [.int 0,.int 0],.lst [],.lst []]:List Mi.Obj)=X;let g:∀(k:Nat) (o:Mi.Obj),X[k]? =-o->(a++X)[⇑a+k]? =-o:=λk o e=>by rw[Ji8];show e
 let z:=Ext.new a X;let Q:srC []=[]:=X7.eq_nil;let A:Lw (a++X) ⇑a p v [] 0 [] [] 1 (⇑a+6) (⇑a+11) (⇑a+12) [] [] 0 []:=by
  subst N;exists#[Jax hp,λl j=>(s l j).lt],z.get hp,λl j=>(s l j).ext z,g 8 _ rfl,#[by simp,by simp],#[#[by simp,by simp],#[by simp,by simp],by simp,by simp,by simp],#[g 0 _ rfl,g 1 _ rfl,g 2 _ rfl],#[g 3 _ rfl,g 4 _ rfl,g 5 _ rfl],#[.inl rfl,by lia,by lia],by rw[Q];show g 6 _ rfl,g 7 _ rfl,g 9 _ rfl,g 10 _ rfl,g 11 _ rfl,g 12 _ rfl,.nil,#[.nil,.nil,λ_ h=>absurd h Bg],by decide
 generalize a++X=S2 at A;apply ol (Wcj (ILaw J p ⇑a v r) noR #[E,_,_,_,[],[],[],[],[],0,[],_,_,_,_,rfl,x,by simp,by simp,A] (λi Z S h=>by let(_,_,_,_,_,_,_,_,_,_,_,_,_,_,_,_,_,_,_,w):=h;show w.p) ?_)
 .rintro _ U ⟨h,uc,ma,sp,kv,c,dn,md,sd,b,rs,Y,a14,a15,a16,rfl,_,_,_,w⟩;apply os (Jkg w.h1 w.ro w.rw 'l');show λ_ _ h=>h
 .intro i d Z U hd hI;rw[Ao]at hd;let(l,j,rfl):=Ai.1 hd;let:=(Ad.1 j).1;show Jpq (W:=W) (n:=n) hI (As j) 'l' I
end
def run(ns:List Int)(b:⇑ns<=63):∃a,callN T G 100 30 "law" [.kl (ns.map D.int)] []=.ok (.bl true) a:=by
 let(_,a,e,rfl):=Jx9 (W:=100) (n:=20) b;exists a,e
noncomputable def top(i:Nat):Stmt:=PySem.Challenge.pw_spentonce_k27_whole_sums.main.body.getD i (.Pass #[0,0,0,0])
noncomputable def B:List String:=["len","range","sum","max","min","enumerate","abs","set","tuple","int","sorted","dict","list","reversed","zip"]
noncomputable def FL:List (String×Nat):=[("is_maker",5),("made_by",6),("worth_of",7),("gift",9),("block_fault",10),("do_block",11),("free_from",12),("worth_of_makers",13),("opens",19),("is_done",20),("lay",21),("turn",22),("do_row",23),("has_enough",24),("take",25),("laid_by",26),("paid_at",27),("outcome",28),("spent_by",35),("has_twice",36),("facts_of",37),("_law_mixed",39),("_law_stream",40),("_law_take",41),("_law_streams",42),("_law_lock",43),("_law_outs",44),("_law_in",45),("_law_deed",46),("_law_word",47),("_law_put",48),("_law_gift",49),("_law_done",50),("_law_block",51),("_law_rules",52),("_law_begin",53),("_law_next",54),("_law_undone",55),("_law_fees",56),("law",57)]
def F:List String:=FL.map (·.1)
noncomputable def O:Ow:=#[[("Hoard","__init__","Hoard.__init__"),("Hoard","copied","Hoard.copied"),("Hoard","held","Hoard.held"),("Hoard","total","Hoard.total"),("Hoard","did","Hoard.did"),("Hoard","fault","Hoard.fault"),("Hoard","fault_of_in","Hoard.fault_of_in"),("Hoard","fee","Hoard.fee"),("Hoard","worth_spent","Hoard.worth_spent"),("Hoard","do","Hoard.do"),("Hoard","undo","Hoard.undo")],[("Hoard","unspent"),("Hoard","done")],[("Hoard","Hoard.__init__")]]
noncomputable def Wcz:Stmt->List Stmt
 |.ClassDef _ _ _ b _ _ _ _ _ _ _=>b
 |_=>[]
def Wb1(j:Nat):Stmt:=(Wcz (top 34)).getD j (.Pass #[0,0,0,0])
def Fk(f:Fn)(s:Stmt):Prop:=(defScope s).kind=.function/\(defScope s).isCoroutine=false/\(defScope s).isGenerator=false/\(nN f s).Nodup/\(nN f s).take (f.ps.map Ac).length=f.ps.map Ac/\(∀x∈f.ps.map Ac,(defScope s).names.lookup x=-.local\/(defScope s).names.lookup x=-.cell)/\(∀y∈(defScope s).names,y.2≠ .free)/\Yp f.body #[nN f s,(defScope s).names,true,B,F,O] (Xj s)=true
def Fk.sc{f:Fn}(k:Fk f s):X4 (nN f s) (f.ps.map Ac) (defScope s):=#[k.1,k.2.1,k.2.2.1,k.2.2.2.1,k.2.2.2.2.1,k.2.2.2.2.2.1,k.2.2.2.2.2.2.1]
def Fk.ck{f:Fn}(k:Fk f s):Yp f.body #[nN f s,(defScope s).names,true,B,F,O] (Xj s)=true:=k.2.2.2.2.2.2.2
open PySem L2 Mi PySem.W
def q:Program:={PySem.Challenge.pw_spentonce_k27_whole_sums with main:={PySem.Challenge.pw_spentonce_k27_whole_sums.main with body:=[1,2,3,5,6,7,9,10,11,12,13,15,16,17,18,19,20,21,22,23,24,25,26,27,28,30,31,32,33,34,35,36,37,39,40,41,42,43,44,45,46,47,48,49,50,51,52,53,54,55,56,57].map top}}
noncomputable abbrev kE(P:Jk)(x:Str)(t:Nat)(v:Value):Ce:=#[PyData.keyHash P x,.str x t,v]
noncomputable abbrev yT(xs:List Value):Fy:=#[.type "tuple",none,.seq #[xs] 0,#[]]
noncomputable abbrev yF(c:Int)(xs:List (Nat×Nat)):Fy:=#[.none,none,.fields #[xs.flatMap λp=>[.int p.1 0,.int c 0,.ref p.2]],#[]]
noncomputable abbrev yD(xs:List Ce)(n:Nat):Fy:=#[.type "dict",none,.dict #[xs] n,#[]]
noncomputable abbrev yA(c:String)(vs:List Value):Fy:=#[.type c,none,.fields #[vs],#[]]
noncomputable abbrev cut:Str:="/claim/cut.py"
abbrev yC(n q:Str)(t l x u a:Nat)(f:Bool)(y:Nat)(vs:List Value):Fy:=yA "code" ([.str n t,.str q (t+1),.str cut (t+2),.int l 0,.int x 0,.int 0 0,.int 0 0,.int u 0,.ref a,.bool f,.int 181 0,.ref (a+1),.none]++vs++[.int (t+3+y) 0,.int l 0,.str cut (t+4+y)])
structure Sm where
 m:Str
 k:Nat
 a:Nat
 t:Nat
 o:List Fy
 e:List Ce
 c:List (Nat×Nat)
def dv(s:Stmt):Option (List Str):=(localNames (Xn s) (defScope s) (.stmts (Xj s))).map (·.1)
def dW(cl:Str)(n:Str)(s:Stmt)(p:Pos)(P:Jk)(z:Sm):Sm:=
 let v:=dv s
 let y:=(v.getD []).length
 let w:=z.a+(match v with|some _=>4|none=>2)
 let f (g:Nat) (m c:Value):Data:=.func #[n,cl++n,Xn s,.stmts (Xj s),defScope s,g,[],.none,.none,.none,m,none,c,.none,0]
 {z with
  a:=w+3
  t:=z.t+6+y
  o:=z.o++yT []::yF 0 []::(match v with|some v=>[yT ((v.zipIdx (z.t+3)).map λx=>.str x.1 x.2),yT []]|none=>[])++[#[.none,none,f 0 .none .none,#[]],
   yC n (cl++n) z.t p.line (Xn s).args.length 3 z.a true y ((match v with|some _=>[.ref (z.a+2),.ref (z.a+3)]|none=>[.none,.none])++[.ref w]),#[.type "function",none,f 3 (.str z.m z.k) (.ref (w+1)),#[]]]
  e:=z.e++[kE P n (z.t+5+y) (.ref (w+2))]
  c:=z.c++[(p.line,w+1)]}
def cW(n:Str)(l:Nat)(f bs j sub:List Value)(k:String)(xs:List (Str×List Value))(r:List Stmt)(h:List Str)(P:Jk)(z:Sm):Sm:=
 let a:=z.a
 let t:=z.t
 let i:=r.foldl (λz s=>(match s with|.FunctionDef m _ _ _ _ _ _ _ _ p=>dW (n++".") m s p P z|_=>z)) {z with a:=a+7,t:=t+12,o:=[],e:=[],c:=[]}
 let b:=i.a
 let u:=i.t+⇑h+1
 let d:=u+2*⇑xs
 let g:=[.ref (b+2)]
 let M:=kE P "__module__" (t+7) (.str z.m z.k)
 let F:=kE P "__firstlineno__" (t+11) (.int l (t+10))::i.e++[kE P "__static_attributes__" (u-1) (.ref b)]
 {z with
  a:=b+5+⇑xs
  t:=d+3
  o:=z.o++yT f::yA "builtin_function_or_method" [.builtin "type.__prepare__",.type "type"]::yD (M::kE P "__qualname__" (t+9) (.str n (t+8))::F) (⇑F+2)::yT []::yF 4 i.c::yC n n (t+2) l 0 0 (a+3) false 0 [.none,.none,.none]::
   #[.type "frame",none,.plain,(List.toArray [-(.ref (a+5)),-(.ref 3),-(.ref (a+2)),none,-(.str z.m z.k),none,-(.ref 0)])]::i.o++yT ((h.zipIdx i.t).map λx=>.str x.1 x.2)::
   yD (M::F++((xs.zipIdx.map λx=>kE P x.1.1 (u+2*x.2+1) (.ref (b+3+x.2)))++[kE P "__doc__" d .none])) (2+⇑xs)::
   #[.type "type",none,.cls #[n,bs,g++j,b+1,n,true,[],sub,false,none,false],(List.toArray [match f with|[]=>none|_=>-(.ref a),none,-(.str n t),-(.str n (t+8)),-(.builtin k),-(.bool true)])]::
   (xs.zipIdx.map λx=>yA "getset_descriptor" (.str x.1.1 (u+2*x.2)::g++x.1.2))++[yA "super" (g++g++g),yA "builtin_function_or_method" (.builtin "object.__init_subclass__"::g)]
  e:=z.e++[kE P n (d+2) (.ref (b+2))]
  c:=z.c++[(l,a+5)]}
noncomputable def vw:Str×List Value:=("__weakref__",[.builtin "ExceptionGroup.__weakref__",.none])
def sW(P:Jk)(z:Sm)(s:Stmt):Sm:=match s with
 |.FunctionDef n _ _ _ _ _ _ _ _ p=>dW "" n s p P z
 |.Assign [.Name x _] (.Constant (.int i) _ _) _=>{z with e:=z.e++[kE P x (z.t+1) (.int i z.t)],t:=z.t+2}
 |.Assign _ (.Constant (.str v) _ _) _=>{z with m:=v,k:=z.t,t:=z.t+2}
 |.Assign [.Name x _] (.Tuple d _ _) _=>{z with a:=z.a+1,t:=z.t+⇑d+1,o:=z.o++[yT ((d.zipIdx z.t).map λe=>match e.1 with|.Constant (.str v) _ _=>.str v e.2|_=>.none)],e:=z.e++[kE P x (z.t+⇑d) (.ref z.a)]}
 |.Assign [.Name x _] (.Dict c f _) _=>{z with a:=z.a+1,t:=z.t+3*⇑c+1,o:=z.o++[yD (((c.zip f).zipIdx).map λe=>match e.1 with|(-(.Constant (.str v) _ _),.Constant (.int i) _ _)=>kE P v (z.t+2*e.2) (.int i (z.t+2*e.2+1))|_=>kE P "" 0 .none) ⇑c],e:=z.e++[kE P x (z.t+3*⇑c) (.ref z.a)]}
 |.ClassDef n bs _ b _ _ _ _ _ g p=>(let T:=[.type "ValueError",.type "Exception",.type "BaseException",.type "object"]
  match bs with
  |[]=>cW n p.line [] [.type "object"] [.type "object"] [] "object.__new__" [("__dict__",[.builtin "function.__dict__",.builtin "function.__dict__#set"]),vw] b g P z
  |.Name "ValueError" _::_=>cW n p.line [.type "ValueError"] [.type "ValueError"] T [.ref 37,.ref 49] "ValueError.__new__" [vw] [] [] P z
  |_=>cW n p.line [.ref 24] [.ref 24] (.ref 24::T) [] "ValueError.__new__" [] [] [] P z)
 |_=>z
def hp(P:Jk)(z:Sm):PySem.Heap:=#[#[boot_o_0 P::boot_o_1 P::boot_o_2 P::yD (kE P "__name__" 165 (.str z.m z.k)::z.e) (z.e.length+1)::boot_o_4 P::boot_o_5 P::boot_o_6 P::boot_o_7 P::boot_o_8 P::boot_o_9 P::boot_o_10 P::yT []::yF 0 z.c::yC "<module>" "<module>" 182 1 0 0 11 false 0 [.none,.none,.none]::
 #[.type "frame",none,.plain,(List.toArray [-(.ref 13),-(.ref 3),-(.ref 3),none,-(.str "__main__" 164),none,-(.ref 0)])]::z.o],(boot_heap P).life]
noncomputable abbrev bd:List Stmt:=behindTheImports PySem.Challenge.pw_spentonce_k27_whole_sums
def zs(P:Jk)(n:Nat):Sm:=(bd.take n).foldl (sW P) #["__main__",164,15,187,[],[kE P "__doc__" 166 .none,kE P "__package__" 167 .none,kE P "__loader__" 168 (.builtin "__main__.__loader__#opaque"),kE P "__spec__" 169 .none,kE P "__annotations__" 170 (.ref 6),kE P "__builtins__" 171 (.ref 4),kE P "__file__" 173 (.str cut 172),kE P "__cached__" 174 .none],[]]
def hF(P:Jk):PySem.Heap:=hp P (zs P 58)
noncomputable def as:List Addr:=[2,3,15,22,23,24,25,28,35,36,37,40,47,48,49,52,54,55,57,58,59,62,63,64,67,68,69,71,72,74,75,76,78,79,81,82,83,86,87,88,90,91,93,94,95,98,99,100,101,102,104,105,107,108,109,111,112,114,115,116,118,119,121,122,123,125,126,128,129,130,132,133,135,136,137,139,140,142,143,144,146,147,149,150,151,153,154,156,157,158,160,161,163,164,165,167,168,170,171,179,181,182,184,185,186,188,189,191,192,193,195,196,198,199,200,203,204,205,207,208,210,211,212,214,215,217,218,219,221,222,224,225,226,228,229,231,232,233,236,237,238,241,242,243,245,246,248,249,250,251,252,253,254,257,260,261,262,264,265,267,268,269,272,273,274,276,277,279,280,281,283,284,286,287,288,290,291,293,294,295,298,299,300,302,303,305,306,307,309,310,312,313,314,316,317,319,320,321,324,325,326,329,330,331,334,335,336,338,339,341,342,343,346,347,348,351,352,353,355,356,358,359,360,362,363,365,366,367,369,370,372,373,374,376,377,379,380,381,383,384,386,387,388,391,392]
def K(P:Jk):Ah:=as.map λa=>(a,(hF P).objs.getD a (yT []))
noncomputable def loose:List Str:=["TAKEN"]
def asK:∀P,as=(K P).map (·.1):=λ_=>by kernel_rfl
def said:PySem.Challenge.rw_spentonce_k27_whole_sums.wellSaid=true:=by kernel_rfl
noncomputable def env:Env:={scope:=PySem.Challenge.pw_spentonce_k27_whole_sums.main.scope,locals:=mainNs,globals:=mainNs,cells:=[],code:=.ref 13,frame:=some 14}
abbrev cd:Code:=.body bd env
abbrev sh(w:World)(i:Nat)(os:OsState):Shared:=#[hp w.params (zs w.params i),#[[]],#[0,0,0,0],(zs w.params i).t,os]
noncomputable abbrev an:Option Value:=-(.ref 6)
def Jzy(w:World):(λos=>topGo Nu PySem.Challenge.pw_spentonce_k27_whole_sums w (nat_lit 11) an (nat_lit 12) #[boot_heap w.params,#[[]],boot_drawn,boot_toks,os] (topStub PySem.Challenge.pw_spentonce_k27_whole_sums))=λos=>-(sh w 0 os,(#[denote Nu cd,cd,#[0,0,0,0],[topFrame #[0,0,0,0]]]:Thread)):=by kernel_rfl
def Jts(w:World):(λos=>segRun Nu PySem.Challenge.pw_spentonce_k27_whole_sums w (nat_lit 11) an (nat_lit 1) (nat_lit 1) (sh w 0 os) (blockOf bd env cd #[0,0,0,0] [topFrame #[0,0,0,0]]))=λos=>-(.next,sh w 0 os,cd,(#[0,0,0,0]:Pos)):=by kernel_rfl
abbrev rC(i j n:Nat)(p a:Pos)(w:World):Prop:=(λos=>segRun Nu PySem.Challenge.pw_spentonce_k27_whole_sums w (nat_lit 11) an (nat_lit 1) n (sh w i os) (piecesOf ((bd.drop i).take j) env cd p [topFrame #[0,0,0,0]]))=λos=>-(.next,sh w (i+j) os,cd,a)
def r_0(w:World):rC 0 18 (nat_lit 916) #[0,0,0,0] #[44,0,44,4] w:=by kernel_rfl
def Wdl(w:World):rC 18 16 (nat_lit 507) #[44,0,44,4] #[129,0,129,4] w:=by rw[<-World.withFollow_self w "special-get-raises"];cases w.params.followText "special-get-raises"<;>kernel_rfl
def Wdk(w:World):rC 34 17 (nat_lit 989) #[129,0,129,4] #[310,0,321,61] w:=by kernel_rfl
def Wdj(w:World):rC 51 7 (nat_lit 215) #[310,0,321,61] #[369,0,398,45] w:=by kernel_rfl
def Jzz(w:World):(λos=>topRun Nu PySem.Challenge.pw_spentonce_k27_whole_sums w (nat_lit 11) an (nat_lit 2) (sh w 58 os) #[doneF .next,cd,#[369,0,398,45],[topFrame #[0,0,0,0]]])=λos=>some (#[hF w.params,#[[]],#[0,0,0,0],nat_lit 753,os]:Shared):=by kernel_rfl
def J02:bd=(bd.drop 0).take 18++((bd.drop 18).take 16++((bd.drop 34).take 17++((bd.drop 51).take 7++[]))):=by kernel_rfl
def Wdi(w:World)(os:OsState):topRun Nu PySem.Challenge.pw_spentonce_k27_whole_sums w (nat_lit 11) an (nat_lit 2642) #[boot_heap w.params,#[[]],boot_drawn,boot_toks,os] (topStub PySem.Challenge.pw_spentonce_k27_whole_sums)=-#[hF w.params,#[[]],#[0,0,0,0],nat_lit 753,os]:=by
 show go_top (congrFun (Jzy w) os) (piece_block (N:=2629) (congrFun (Jts w) os) ?_);let h:=Tu (congrFun (r_0 w) os) (Tu (congrFun (Wdl w) os) (Tu (congrFun (Wdk w) os) (Tu (congrFun (Wdj w) os) (piece_nil (congrFun (Jzz w) os)))));rw[<-J02]at h;show h
def left:LeftO PySem.Challenge.pw_spentonce_k27_whole_sums q loose (λs:Shared=>xlAt q [] s&&recOk [] s) (λs:Shared=>as.map s.heap.get?) (λw=>(K w.params).map λp=>some p.2) 5364:=
 LeftO.of_pieces (g0:=true) (boot_open 'k' 'd' (λ_=>rfl)) (λ_=>by kernel_rfl) Wdi 'd' λw=>by kernel_rfl
def dL:Wq:=#["law",Xn (top 57),Xj (top 57),defScope (top 57),#[369,0,398,45]]
section
variable {w:World} {mg:Str->Option Value} {h:Heap}
abbrev fa(P:Jk)(i:Nat):Nat:=(zs P (i+1)).a-1
abbrev fO(n x:Str)(s:Stmt)(z:Sm)(a:Nat):Fy:=#[.type "function",none,.func (fnOf n x (Xn s) (Xj s) (defScope s) .none .none .none (.str z.m z.k) none (.ref (a-1)) .none),#[]]
def fe(P:Jk)(x:String)(i:Nat)(e:nsIn (K P) Bl (Ac x)=-(-(.ref (fa P i))))(l:(K P).lookup (fa P i)=-(fO (Ac x) (Ac x) (top i) (zs P i) (fa P i)))(c:I8 (K P) (.ref (fa P i-1)) (Ac x)=true)(k:Ek (K P) (.ref (fa P i))=true):FE (K P) (Ac x) (top i):=#[_,_,_,_,_,_,_,_,_,_,e,l,c,k]
noncomputable def ma(m:String):Nat×Nat×String:=([("__init__",185,0,"Hoard.__init__"),("copied",192,1,"Hoard.copied"),("held",199,2,"Hoard.held"),("total",204,3,"Hoard.total"),("did",211,4,"Hoard.did"),("fault",218,5,"Hoard.fault"),("fault_of_in",225,6,"Hoard.fault_of_in"),("fee",232,7,"Hoard.fee"),("worth_spent",237,8,"Hoard.worth_spent"),("do",242,9,"Hoard.do"),("undo",249,10,"Hoard.undo")].lookup m).getD (0,0,"")
def me(P:Jk)(m:String)(n:nsIn (K P) Bl "Hoard"=-(-(.ref 252)))(e:D7 (K P) (.ref 252) (Ac m)=-(-(.ref (ma m).1)))(l:(K P).lookup (ma m).1=-(fO (Ac m) (Ac (ma m).2.2) (Wb1 (ma m).2.1) (zs P 34) (ma m).1))(c:I8 (K P) (.ref ((ma m).1-1)) (Ac (ma m).2.2)=true)(k:Ek (K P) (.ref (ma m).1)=true)(f:isFn (K P) (.ref (ma m).1)=true):MF (K P) "Hoard" (Ac m) (Ac (ma m).2.2) (Wb1 (ma m).2.1):=#[_,_,_,_,_,_,_,_,_,_,_,n,e,l,c,k,f]
def cf(P:Jk):CF (K P) "Hoard":=#[252,by kernel_rfl,by kernel_rfl,by kernel_rfl,by kernel_rfl,by kernel_rfl]
def fes(P:Jk):∀y∈FL,FE (K P) (Ac y.1) (top y.2):=by
 intro y a;simp only[FL,An,Bg,or_false]at a;rcases a with rfl|rfl|rfl|rfl|rfl|rfl|rfl|rfl|rfl|rfl|rfl|rfl|rfl|rfl|rfl|rfl|rfl|rfl|rfl|rfl|rfl|rfl|rfl|rfl|rfl|rfl|rfl|rfl|rfl|rfl|rfl|rfl|rfl|rfl|rfl|rfl|rfl|rfl|rfl|rfl<;>show fe _ _ _ 'k' 'k' 'k' 'k'
def fns(d:(K w.params).In h)(f:h.Ns Bl mg):∀x∈F,∃a g,FnB (K w.params) T B F O x a g/\mg (Ac x)=-(.ref a):=by
 intro x i;let(y,c,rfl):=Av.1 i;let e:=fes w.params y c;simp only[FL,An,Bg,or_false]at c;rcases c with rfl|rfl|rfl|rfl|rfl|rfl|rfl|rfl|rfl|rfl|rfl|rfl|rfl|rfl|rfl|rfl|rfl|rfl|rfl|rfl|rfl|rfl|rfl|rfl|rfl|rfl|rfl|rfl|rfl|rfl|rfl|rfl|rfl|rfl|rfl|rfl|rfl|rfl|rfl|rfl<;>
  (show Jyt d f e rfl (Fk.sc ?k) (Fk.ck ?k) ?b;(case k=>exists rfl,rfl,rfl,by decide+kernel);(case b=>intro _ _ _ _ _ _;first|show Wbl λ_=>rfl|show Wbk λ_ _=>rfl|show Wbj λ_ _ _=>rfl|show Wbi λ_ _ _ _=>rfl|show Wbh λ_ _ _ _ _=>rfl|show Wck λ_ _ _ _ _ _ _=>rfl))
def mts:∀c m f,(c,m,f)∈O.mt->∃a e Ca,FnB (K w.params) T B F O f a e/\nsIn (K w.params) Bl (Ac c)=-(-(.ref Ca))/\L2.Cls (K w.params) Ca/\L2.Meth (K w.params) Ca (Ac m) a:=by
 intro c m f d;simp only[O,An,Bg,or_false,Mj]at d;rcases d with⟨rfl,rfl,rfl⟩|⟨rfl,rfl,rfl⟩|⟨rfl,rfl,rfl⟩|⟨rfl,rfl,rfl⟩|⟨rfl,rfl,rfl⟩|⟨rfl,rfl,rfl⟩|⟨rfl,rfl,rfl⟩|⟨rfl,rfl,rfl⟩|⟨rfl,rfl,rfl⟩|⟨rfl,rfl,rfl⟩|⟨rfl,rfl,rfl⟩<;>
  (show Jx1 (cf _) (me _ _ 'k' 'k' 'k' 'k' 'k' 'k') rfl (Fk.sc ?k) (Fk.ck ?k) ?b;(case k=>exists rfl,rfl,rfl,by decide+kernel);(case b=>intro _ _ _ _ _ _;first|show Wbl λ_=>rfl|show Wbk λ_ _=>rfl|show Wbj λ_ _ _=>rfl|show Wbi λ_ _ _ _=>rfl|show Wbh λ_ _ _ _ _=>rfl|show Wck λ_ _ _ _ _ _ _=>rfl))
def Jbc{p:Prop}[Decidable p]{c:Type}{a d:c}{b:Option c}(h:(if p then -a else b)=-d):(p/\a=d)\/b=-d:=by by_cases e:p<;>simp_all
def txt(b:(K w.params).In h)(e:h.Ns Bl mg):Txt (K w.params) mg T G B F O where
 fns:=fns b e
 np:=by kernel_rfl
 blt:=by
  intro x i;simp only[B,An,Bg,or_false]at i;rcases i with rfl|rfl|rfl|rfl|rfl|rfl|rfl|rfl|rfl|rfl|rfl|rfl|rfl|rfl|rfl<;>show J0q b e 'k'
 gl:=by
  intro x d hd;unfold G at hd;rcases Jbc hd with⟨rfl,rfl⟩|hd
  .show Jk3 b e (t:=310) 'k'
  rcases Jbc hd with⟨rfl,rfl⟩|hd
  .show Jys b e (Ju9 (a:=101) 'k' (by unfold Xr;kernel_rfl))
  rcases Jbc hd with⟨rfl,rfl⟩|hd
  .show Jk3 b e (t:=318) 'k'
  rcases Jbc hd with⟨rfl,rfl⟩|hd
  .show Jys b e (Ju8 ["height","age","worth","ins","outs"] (a:=100) (its:=#[[(.str "height" 312),(.str "age" 313),(.str "worth" 314),(.str "ins" 315),(.str "outs" 316)]]) (n:=0) (sl:= #[]) 'k' 'k' 'k')
  rcases Jbc hd with⟨rfl,rfl⟩|hd
  .show Jk3 b e (t:=449) 'k'
  rcases Jbc hd with⟨rfl,rfl⟩|hd
  .show Jk3 b e (t:=445) 'k'
  rcases Jbc hd with⟨rfl,rfl⟩|hd
  .show Jk3 b e (t:=451) 'k'
  rcases Jbc hd with⟨rfl,rfl⟩|hd
  .show Jk3 b e (t:=447) 'k'
  cases hd
 mts:=mts
 fds:=by
  intro c f g;simp only[O,An,Bg,or_false,Mj]at g;rcases g with⟨rfl,rfl⟩|⟨rfl,rfl⟩<;>show Jyv (cf _) (J0e (Ca:=252) 'k' 'k')
 nws:=by
  intro c f g;simp only[O,An,Bg,or_false,Mj]at g;let(rfl,rfl):=g;show Jxw b e (cf _) #[252,by kernel_rfl,by kernel_rfl,by kernel_rfl] (mts _ _ _ (by simp[O]))
end
end K27
end
open PySem PySem.W PyProof.Rows
set_option maxRecDepth 100000 in
set_option maxHeartbeats 0 in
theorem PySem.Challenge.cw_spentonce_k27_whole_sums_holds : PySem.Challenge.rw_spentonce_k27_whole_sums.Holds := by
 refine Mi.holds (q:=K27.q) (d:=K27.dL) K27.said K27.asK K27.left (by kernel_rfl) (by kernel_rfl) (by kernel_rfl) (by decide+kernel) ⟨rfl,rfl,rfl,rfl,rfl,by decide+kernel⟩ ?hw ?hc
 (case hw=>w_witness2)
 exact Mi.walk (l:=PySem.Challenge.rw_spentonce_k27_whole_sums) (T:=K27.T) (G:=K27.G) (B:=K27.B) (F:=K27.F) (O:=K27.O) (x:="_law_script") (W:=100) (n:=30) rfl rfl (λw h Y=>Y) ⟨rfl,by decide,by decide,rfl⟩ rfl (by decide) ⟨_,rfl,rfl⟩ (λ_ _ _ KX hG=>K27.txt KX hG) K27.run
