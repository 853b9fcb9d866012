import PyProof.Rows.All
import Wide.All
import OpenK.AllK
import Wide.FinOn
import Lean
import PyProof.EqAt
import PyProof.EqKinds
import PyProof.TupleCall
import KE.KRevIter
import PyProof.EnumStmt
import PyProof.EnumFor
import PyProof.EnumMake
import PyProof.Draws
import PyProof.WalksMore
import PyProof.Rows.SeqMore
import KE.KDictList
import KE.KMinKey
import PyProof.WalkInts
import PyProof.Rows.SortShell
import PyProof.Rows.SetFrom
import PyProof.SetRoads
import PyProof.TupleKey
import PyProof.DictRoadsH
import PyProof.IsRules
import PyProof.DictWalks
import KE.KDictOf
import KE.KEqDict
import KE.KSortTup
import KE.KItemsList
import PyProof.AttrMissHeap
import PyProof.ZipIter
import PyProof.ListMulRoad
import PyProof.StrBlock2
import PyProof.NeKinds
import PyProof.ConsumeWalk
import PyProof.SumAny
import PySem.Challenge.RW_spentonce_k25_much
open PySem renaming wpAny_bind->Aa,wpAny_pure->Ab,mainGlobals->Bg,Around->Bi,wpAny_holding->Bj,wpAny_call_entry->Bp,wpAny_callSpecial?_slot->By,wpAny_dictEntries->B3,starEach->B4,wpAny_newObj_type->B8,DictEntry->Cc,wpAny_mono->Ce,wpAny_field->Cj,wpAny_setField_rec->C0,cLine->Dc,wpAny_rule->Dn,foldedSetIterable->Dp,codeAny_builtin->Dw,bootBuiltins->Dx,tupleKind_room_in1->D1,wpAny_forIn_list->D3,wpAny_truthy_bool->D9,wpAny_isInstance->Eh,compareOp->Ei,wpAny_seqItems->Eo,mem_of_lookup->Ep,wpAny_dictEpoch->Eu,wpAny_attempt->E6,Obj->E8,wpAny_notOrdered_dict->Ff,NameKind->Fs,wpAny_typeNameOfWhole_itemiter->F9,backTo->Ga,wpAny_typeNameOfWhole_valiter->Gi,wpAny_typeNameOfWhole_keyiter->Gj,wpAny_typeOf->Gn,codeAny_mono->Gp,assignEach->Gq,wpAny_specialOf->Gw,size_of_entries->Gx,binaryOp->Gy,plainId_quiet->Gz,wpAny_pyIter_list->G3,IsPair->Hf,swapsWith->Hj,codeAny->Hk,wpAny_typeNameOf_itemiter->Hm,atKey->Hn,wpAny_typeNameOf_valiter->Hu,wpAny_typeNameOf_keyiter->Hv,wpAny_Call_Name_kw->H9,sizeLine_eq->Ig,firstArgMember->Im,Params->Ip,FuncData->Iq,isSubtype_tuple_tuple->I9,wpAny_eqBool_int->Je,behindInMarks->Jg,sliceBounds->Ji,Scope->Jk,wpAny_passesOwn->Jr,letOwnedTupleGo->Js,wpAny_richCompare_same_room->J1,wpAny_setField->Km,wpAny_pyIter_tuple->Kn,wpAny_setState_of->Kz,keywordEach->K3,Model->K5,IsZip->Lh,HeapKind->Li,wpAny_isOneOf_itemiter->Lr,getItem->Ls,wpAny_loadPart'->Lz,wpAny_isOneOf_valiter->L6,wpAny_fieldsOf->Mm,concat_meets->Mo,ZipApart->Mp,Result->Mq,IsPart->Mr,treeTable->Mx,callerA->My,noFill_tuple_add->M6,wpAny_standAt->Nc,wpAny_newList->Nd,wpAny_tupleItemsOf->Nl,wpAny_load->Nm,valueAt->N1,standAt->N2,ofAClassStatement->N3,keyPart->N4,call->N5,backToKw->N6,atKey_none_of_get->N7,wpAny_comp_letGo->Ou,wpAny_Dict_empty->Ov,seq_tuple_add->Ox,eqIsQuiet->Oy,wpAny_of_eq->O7,wpAny_letGo->O8,wpAny_updateSeq->Po,passOn->Pp,Within->Pq,storedH->P2,wpAny_runValue->Qc,wpAny_newTuple->Qd,methodCallForm->Qe,isSubtype_stop->Qf,isInstance->Qg,entry_at->Qh,carriedByValue->Qi,call_meets->Qj,evalArgs_none->Qp,wpAny_onRaise->Q0,wpAny_handled->Q1,setSearchFrom->Q2,wpAny_Call_method0_late->Rc,seqItems?->Rf,field->Rh,bindL->Rj,bindC->Rk,wpAny_pyNext_list_item->Rz,spliced->R0,newExc->R3,call_meetsIn->R4,wpAny_pyNext_list_end->Sj,wpAny_isOneOf_keyiter->Sk,wpAny_eqIsQuiet_tuple->Sl,wpAny_updateSeq_pair->Sv,wpAny_throw->Sw,wpAny_loadName_local->Sx,setField->Sy,seqIndex_of->Sz,richCompare->Ta,hashByValue->Tc,bindArgs->Td,wpAny_loadName_cell->Tt,wpAny_dictFind_heap->Tu,wpAny_setItem_heap->Up,wpAny_getItem_heap->Uq,wpAny_eqBool_tuple->Ur,wpAny_call->Us,wpAny_Name->Ut,typeIs_int->Uu,reduceHash->Uv,getattributeRaised->Uw,closureFor->Ux,builtinsNs->Uy,PlainAttrs->U1,IsTupleKey->U3,DefRec->U6,wpAny_sequenceKey->Vd,wpAny_pyIter_slot->Ve,wpAny_pyIter_enum->Vf,wpAny_assign_Name->Vg,slot_list_getitem->Vh,setItem->Vi,searchCouldBeSeen->Vj,Keyword->Vo,BindsTo->Vs
open PySem.Str renaming ofString->Ac,ofString_eq_toList->Ql
open PySem.Heap renaming get?_push_of_some->Ad,get?_push_size->Ak,lt_size->An,size_push->Cq,get?_update_self->C2,SameBut->Di,get?_update_other->Et,get?_none_of_le->Ll,ExtBut->Qs,get?_push_ne->R8,IsTuple->Vp
open List renaming getElem?_eq_some_iff->Ae,getElem?_eq_getElem->Af,length_map->Ah,mem_cons->Am,getElem?_map->Ao,length_append->Ap,size_toArray->Aq,mem_singleton->Ar,mem_of_getElem?->Au,getElem?_append_right->Aw,map_cons->Ax,getElem?_append_left->A0,getElem?_set_ne->A1,mem_cons_of_mem->A7,length_cons->Bb,append_assoc->Bc,mem_map->Bd,not_mem_nil->Bf,mem_append->Bm,getElem?_cons_succ->Bq,mem_cons_self->Br,drop_eq_getElem_cons->Bw,mem_append_right->Bx,map_map->B6,length_eq_zero_iff->B7,take_of_length_le->B9,pairwise_append->Cd,range->Cf,nodup_cons->Cp,pairwise_map->Ct,length_pos_iff->C1,mem_iff_getElem?->C4,length_singleton->C5,getElem?_toArray->C6,find?_cons->Dh,pairwise_iff_getElem->Dj,append_nil->Dq,pairwise_cons->Dr,mem_iff_getElem->Dt,lookup_cons->Du,length->Dv,take_add_one->D4,getElem?_set_self->D5,map_congr_left->D8,all_eq_true->Ed,mem_of_mem_take->Eg,getElem?_cons_zero->Ek,replicate->E2,getD_eq_getElem?_getD->E3,findSome?_eq_none_iff->E4,map_append->Fc,length_set->Fd,length_nil->Fe,mem_append_left->Fh,lookup->Fi,length_range->Fj,getElem?_take_of_lt->Fq,length_take->Fv,getElem_mem->Fw,getElem?_replicate->Fy,filter_cons->Fz,drop_eq_nil_of_le->F8,any_cons->Gg,take_append_drop->Gk,getElem?_eq_none->Gm,take_sublist->Gu,nodup_append->Gv,take_length->G4,map_nil->G5,drop_length->G6,extract_eq_take_drop->Hb,filterMap_cons->He,length_replicate->Ik,any_eq_true->Il,mem_of_mem_drop->Iz,mem_filter->Jb,forIn_cons->Jc,nodup_nil->Jp,exists_cons_of_ne_nil->Jq,flatten_cons->Ka,ext_getElem?->Kb,drop_sublist->Kc,map_take->Kl,length_drop->Kr,cons_append->Ks,append_cancel_left->Kt,any_toArray->Ku,nil_append->La,length_filter_le->Ld,mergeSort_perm->L5,zip_cons_cons->Mj,merge->Ml,map->M3,any_eq_false->M4,zipIdx_cons->Ni,perm_middle->Nj,of_mem_zip->Nz,take_take->Om,getElem?_take_eq_none->Oo,map_drop->Pk,length_erase_of_mem->Pl,all_cons->Pm,filter_cons_of_pos->Py,filter_cons_of_neg->Pz,eraseIdx_cons_succ->P0,range_succ_eq_map->P7,merge_perm_append->P8,length_pos_of_mem->P9,filter_eq_nil_iff->Qa,any_map->Qb,eq_nil_or_concat->Qn,dropLast_eq_take->Qo,mem_erase_of_ne->Qv,getElem?_of_mem->Qw,findSome?_cons->Q7,filter_sublist->Q8,mem_filterMap->Rt,getElem?_drop->Ru,filter_append->Rv,range'_succ->Su,zipIdx_nil->Ts,mem_range->Ue,forIn_nil->Ug,find?_map->Uh,drop_zero->Ui,drop_take->Uj,drop_drop->Uk,sum_cons->U9,map_id'->Vt,all_map->Vu
open PySem.W renaming Frag->Ag,nsIn->Bz,findIn->Ds,emptyDict->D2,keepIn->D6,instObj->E7,fnOf->F0,kia_one->Hc,codeIn->Ia,plainGet->J2,OpenLaw->Kg,lookIn->K7,plainGet_of->Le,callWith_K0->Lf,mg_of->Lk,methodObj->L7,isFn->L8,hasDictIn->L9,takerIn->M7,makesIn->M8,WalkO->Nf,cellsFrom_some->Oz,methodCall_KW->O9,callWith_K->Qk,plainOver->Qq,handedIn->Q4,piece_app->Rm,kat_cons->Te,InK->Tv,XL->Uz,kat_yes->Vk
open Nat renaming le_refl->Ai,ne_of_lt->Ay,lt_of_lt_of_le->Bl,le_trans->Bu,ne_of_gt->Cy,zero_le->Dg,lt_succ_self->Dy,zero_add->Ew,le_of_lt->Ex,lt_irrefl->Ey,add_assoc->Ez,lt_trans->Fm,lt_of_le_of_lt->Gb,sub_self->Ha,add_sub_cancel_left->Ht,lt_trichotomy->Ie,le_add_right->Iw,add_le_add_left->Jh,lt_or_ge->Jn,lt_succ_of_lt->Kj,le_of_lt_succ->Kk,sub_zero->K9,le_succ->Lv,succ_pos->Na,le_of_eq->Nb,min_eq_left->Oc,mod_lt->O4,not_lt->Sf,strongRecOn->Ud
open Bool renaming and_eq_true->Aj,false_eq_true->Az,false_ne_true->Ba,not_true->Dm,or_eq_true->Jd,not_eq_true'->Kf,eq_iff_iff->Lb,and_false->Lq,true_and->Mg,and_self->Pn,or_eq_false_iff->Qy,and_eq_true_iff->Qz,not_false->Um,and_true->Vb
open Option renaming map_eq_some_iff->Al,isSome_iff_exists->Ci,isSome_map->Fb,map_some->F7,bind_some->Ih,map_map->Ny,bind_eq_some_iff->O3,isNone_some->Qu,getD_none->Rr,toList->Tq
open PySem.Value renaming ref->As,none->Cv,int->Eb,type->Ej,bool->Jj,isInt_shape->Jx,isInt->Jy,str->Pa,isStrOf->Tw,builtin->Tx,float->Vm,bytes->Vn
open PyProof.Rows renaming wpS_bind->Av,wpS_pure->A5,slot_tuple_getitem->Co,SortSt->Cw,wpS_mono->Cz,wpS_forRange->De,callWith_type1->Dl,SortKind->Hg,callWith_builtin1->Hq,wpS_modify->Ic,gallopOf->Kq,wpS_get->K6,reverseSlice'->K8,AllBare->Lu,tail_any->Md,wpS_lift->Mt,tupleItemsOf_->Nh,envOfC->Np,entry_list_sort->Px,slot_list_sort->P6,listUpdate_at->Q6,subscriptTail_builtinR->Sa,IntsAre->Se,UnaryOp_->Ss,seqEpoch_at->Tj,entry_proto_collect'->Tn,Call_->To,entry_tuple_getitem->T5,args_tuple_getitem->U7
open Option.some renaming inj->Bh,injEq->Ja
open Array renaming getElem?_toList->Bn,getElem?_eq_getElem->Bo,length_toList->Bs,mem_toList_iff->Cu,toList_append->Er,forIn_toList->F6,mem_of_getElem?->Gh,toList_push->Hw,toList_extract->Iy,getElem?_eq_none->Ky,ext_getElem?->Rb,getElem_mem->Ry,toList_inj->Si,isEmpty->Uo,toList->Vc
open Function renaming comp_def->Bt
open PySem.SetTable renaming runEnd->Bv,below->C7,turns->Dz,Probe->Ec,insertAt->Ee,bits->F2,advance->Hx,has->Kh,leap->Lg,fill->Nr,fits->R5
open PySem.Builtin.Int renaming intBits->B5
open PySem.Builtin.SmallTypes renaming ownedTupleIsFree->Cg,nextOf->C3,ownedTupleHandOut->Jo
open PySem.Builtin.Dict_items renaming ownsTuple->Cm,ownedTupleIsFree->Jv,ownedTupleFields->Jw,pairFromOwner->Ki,newIterator->So,dictOf->Sq
open PySem.Paired renaming length->Cr,snoc->U2
open PySem.Builtin.Tuple renaming tupleHashOf->C8,tupleExact->Gs,tupleItemsOf->Ij,tupleIsExact->Ma
open PySem.Around renaming under_plainId->C9,under->Pj
open PySem.Heap.SameBut renaming update->Df,refl->O0
open PySem.F renaming slot_dict_itemiterator_next->Dk,called_set->Ea,slot_dict_keyiterator_next->Es,plain_extend_loop->E5,slot_dict_valueiterator_next->F4,slot_tuple_iterator_next->G9,plainAttrs_dict->Hh,slot_dict_get->Hy,slot_tuple_hash->Ii,slot_tuple_eq->Jl,args_tuple_add_2->Ju,entry_tuple_add->J3,slot_tuple_add->Ko,slot_list_getattribute->Kw,args_dict_itemiterator_next_1->Lc,entry_dict_itemiterator_next->Lj,slot_zip_next->Lm,slot_dict_items_iter->M9,args_dict_valueiterator_next_1->Nn,slot_dict_getitem->Nt,entry_extend_loop->Nu,entry_dict_valueiterator_next->Nv,slot_tuple_index->N8,slot_dict_iter->N9,args_dict_keyiterator_next_1->Oa,slot_dict_items->Oe,plain_list_iadd->Of,plainAttrs_list->Og,entry_dict_keyiterator_next->Oh,args_dict_get_2->Oi,entry_dict_get->O1,args_tuple_iterator_next_1->O2,type_dict_get->Pe,slot_dict_pop->Pf,entry_tuple_iterator_next->Pg,slot_dict_ne->Pw,slot_list_append->Qm,slot_list_pop->Rp,kt_typeCall_dict_1->R9,args_dict_init_2->Th,entry_dict_init->T3,args_zip_next_1->T4,kt_called_dict->U4,entry_zip_next->U5,slot_tuple_lt->Vr
open PySem.Obj renaming mapSeq->D7,data_mapDictKeys->I8,data_mapFields->Jt,isFreed_of_fields->Qr,isFreed_of_dict->Ro,putSet->R6,cls_mapFields->Sn
open Ne renaming symm->Ef
open List.Pairwise renaming sublist->El,imp_of_mem->Mu,nil->Oq
open Int renaming toNat_natCast->Em,le_trans->Fo,lt_of_le_of_lt->Ge,lt_of_lt_of_le->Hr,toNat_of_nonneg->Mf,natCast_nonneg->Mv,le_refl->N0,ediv_nonneg->Od,fdiv_eq_ediv_of_nonneg->O6,add_assoc->P1,natAbs_of_nonneg->Ra,emod_lt_of_pos->Sh,emod_nonneg->Ul,pow_nonneg->Va,lt_irrefl->Vv
open False renaming elim->E1
open PyProof.Rows.KTD.Dat renaming flat->E9,At->U8
open PySem.Shared renaming TypeIs->Fg,heap->P4
open True renaming intro->Fp
open Std.Legacy.Range renaming forIn_eq_forIn_range'->Ft,size->Jf
open PyProof.Rows.SortSt renaming mk'->F1
open PySem.SeqAt renaming EqAt->F3,RcNeAt->Pu,RcAt->Q5
open List.Perm renaming append_left->F5,append_right->Ke,cons->Q9
open PySem.Builtin.Slice renaming slicePlaces->Gf,sliceAdjust->Iu,sliceApplied->Mb
open PySem.Builtin.Dict renaming updateFrom->G2,showsAll->Hl,entriesForEmpty->L3,dictSlotArgs->Ms,selfAndRest->M0,addKeywords->M1,samePairs->Ng,takeOut->Nw,quietEq->Nx
open ForInStep renaming yield->G7
open Sum renaming inl->G8,inr->M5
open PyProof.Rows.F renaming plain_set_update_loop->Hz,entry_set_update_loop->Qt
open PySem.NameKind renaming free->Ib,cell->R7
open PySem.SetTable.below renaming go->Io
open PySem.Calls renaming spliced_cons->Jm,spliced_nil->Jz,callWith_builtin->Kx,Name_function_global->Ob,call_function_entry->Oj
open PySem.SetTable.probe renaming go->K4
open Prod.mk renaming injEq->Ln
open Classical renaming not_not->Lx
open Std.Legacy renaming Range->Ly
open PyProof.Rows.KTD renaming tabLook->L4,opened_int->T6,get2_text->T7,each_nil->T8,each_miss->T9,each_hit->Ua,datLooks->Ub,Each->Uc
open PySem.Builtin.List renaming listExtendWith->Mc,listSameRef->Mz
open PySem.SeqAt.EqAt renaming same->Mh,str_int->Pb,of_refs->Pc,int_str->Pd
open Sum.inl renaming inj->Mw
open PyProof.V.Flat renaming int_inv->M2
open List.cons renaming inj->Nq,injEq->Qx
open Prod renaming ext->Ol
open Char renaming toNat->Ot
open List.Sublist renaming refl->O5
open PySem.Code renaming isFrame->P5,quiet_builtin->Rq
open PySem.Walks renaming list->Q3
open Eq renaming trans->Rx
open PyProof.Rows.IsTup renaming new->Sd
open PySem.W.KatTups renaming cons->Tf
open PySem.SetTable.Probe.mk renaming injEq->Tg
open PySem.Builtin.Frozenset renaming updateFrom->Ti
open PySem.Heap.IsItemsView renaming typeIs->Tz
open PySem.W.OpenLaw renaming row->U0
open PySem.W.WShape renaming has->Vl
open PySem.Heap.IsSliceOf renaming new->Vq
theorem fx9{p:Prop}(h:false=true):p:=absurd h Ba
noncomputable section
set_option autoImplicit true
set_option Elab.async false
set_option linter.all false
set_option maxRecDepth 100000
set_option maxHeartbeats 4000000
set_option bootstrap.genMatcherCode false
set_option compiler.extract_closed false
namespace L2
open PySem PySem.Spec PyProof.Rows
abbrev Key:=Sum Int Str
noncomputable def Xy:Key->Value->Bool
 |.inl k,v=>Jy k v
 |.inr x,v=>Tw x v
noncomputable def Wdc(w:World):Key->Int
 |.inl k=>hashInt k
 |.inr x=>hashStr w x
theorem Jaw:∀{k:Key} {v:Value},Xy k v=true->(∃i t,k=G8 i/\v=Eb i t)\/(∃x t,k=M5 x/\v=Pa x t)
 |.inl i,v,h=>by
  obtain⟨t,e⟩:=Jx (k:=i) (v:=v) h;exact .inl ⟨i,t,rfl,e⟩
 |.inr x,v,h=>by
  obtain⟨t,e⟩:=Value.isStrOf_shape (x:=x) (v:=v) h;exact .inr ⟨x,t,rfl,e⟩
def Jma(i:Int)(t:Tok):Xy (.inl i) (.int i t)=true:=by simp[Xy,Jy]
def Jl9(x:Str)(t:Tok):Xy (.inr x) (.str x t)=true:=by simp[Xy,Tw]
def Jx1(a b:Int):decide ((G8 a:Key)=G8 b)=(a==b):=by
 by_cases e:a=b
 .subst e;simp
 .have h:¬(G8 a:Key)=G8 b:=λq=>e (Mw q);rw[decide_eq_false h];exact(beq_eq_false_iff_ne.mpr e).symm
def Jxy(a b:Str):decide ((M5 a:Key)=M5 b)=decide (a=b):=by
 by_cases e:a=b
 .subst e;simp
 .have h:¬(M5 a:Key)=M5 b:=λq=>e (Sum.inr.inj q);rw[decide_eq_false h,decide_eq_false e]
def Jx0(a:Int)(b:Str):decide ((G8 a:Key)=M5 b)=false:=decide_eq_false (λq=>nomatch q)
def Jxz(a:Str)(b:Int):decide ((M5 a:Key)=G8 b)=false:=decide_eq_false (λq=>nomatch q)
def mixKind(prog:Program)(w:World):PySem.KeyKind prog w Key where
 is:=Xy
 hash:=Wdc w
 inj:=λv a b g f=>by
  rcases Jaw g with⟨i,t,rfl,rfl⟩|⟨x,t,rfl,rfl⟩
  .rcases Jaw f with⟨j,u,rfl,e⟩|⟨y,u,rfl,e⟩
   .injection e with c _;rw[c]
   .exact nomatch e
  .rcases Jaw f with⟨j,u,rfl,e⟩|⟨y,u,rfl,e⟩
   .exact nomatch e
   .injection e with c _;rw[c]
 byValue:=λk v h=>by
  rcases Jaw h with⟨i,t,rfl,rfl⟩|⟨x,t,rfl,rfl⟩<;>rfl
 pyHash:=λd h=>by
  rcases Jaw d with⟨i,t,rfl,rfl⟩|⟨x,t,rfl,rfl⟩
  .exact wpAny_pyHash_int h
  .exact wpAny_pyHash_str h
 eqBool:=λl d h=>by
  rcases Jaw l with⟨i,t,rfl,rfl⟩|⟨x,t,rfl,rfl⟩
  .rcases Jaw d with⟨j,u,rfl,rfl⟩|⟨y,u,rfl,rfl⟩
   .rw[Jx1]at h;exact Je h
   .rw[Jx0]at h;exact Pd i t y u _ _ _ _ h
  .rcases Jaw d with⟨j,u,rfl,rfl⟩|⟨y,u,rfl,rfl⟩
   .rw[Jxz]at h;exact Pb x t j u _ _ _ _ h
   .rw[Jxy]at h;exact wpAny_eqBool_str h
 «strs»:=λk x t v h=>by
  rcases Jaw h with⟨i,u,rfl,e⟩|⟨y,u,rfl,e⟩
  .exact nomatch e
  .injection e with c _;subst c;cases v<;>rfl
def Jip(prog:Program)(w:World)(i:Int)(t:Tok):(mixKind prog w).is (.inl i) (.int i t)=true:=Jma i t
def Jio(prog:Program)(w:World)(x:Str)(t:Tok):(mixKind prog w).is (.inr x) (.str x t)=true:=Jl9 x t
inductive V where
 |non|bl (b:Bool)|int (i:Int)|str (x:Str)|byt (b:Array UInt8)|flt (b:UInt64)|ref (a:Addr)|ty (n:String)
 deriving DecidableEq
def RelV:V->Value->Prop
 |.non,u=>u=Cv
 |.bl b,u=>u=Jj b
 |.int i,u=>∃t,u=Eb i t
 |.str x,u=>∃t,u=Pa x t
 |.byt b,u=>∃t,u=Vn b t
 |.flt b,u=>∃t,u=Vm b t
 |.ref a,u=>u=As a
 |.ty n,u=>u=Ej n
abbrev Vals:List V->List Value->Prop:=Paired RelV
def Vals.length{xs:List V}{us:List Value}(r:Vals xs us):xs.length=us.length:=Cr r
theorem Vals.get:∀{xs:List V} {us:List Value} {i:Nat} {x:V},Vals xs us->xs[i]? =some x->∃u,us[i]? =some u/\RelV x u
 |_,_,_,_,.nil,e=>by simp at e
 |_,_,0,_,.cons r _,e=>by simp at e;subst e;exact⟨_,rfl,r⟩
 |_,_,i+1,x,.cons _ t,e=>by
  obtain⟨u,a,b⟩:=Vals.get (i:=i) (x:=x) t (by simpa using e);exact⟨u,by simpa using a,b⟩
theorem Vals.set(r:RelV x u):∀{xs:List V} {us:List Value} (i:Nat),Vals xs us->Vals (xs.set i x) (us.set i u)
 |_,_,_,.nil=>.nil
 |_,_,0,.cons _ t=>.cons r t
 |_,_,i+1,.cons q t=>.cons q (Vals.set r i t)
theorem Vals.append(h:Vals xs us)(s:Vals ys a):Vals (xs++ys) (us++a):=by
 induction h with
 |nil=>exact s
 |cons r t b=>exact .cons r b
theorem Vals.take:∀{xs:List V} {us:List Value} (n:Nat),Vals xs us->Vals (xs.take n) (us.take n)
 |_,_,0,_=>.nil
 |_,_,_+1,.nil=>.nil
 |_,_,n+1,.cons r t=>.cons r (Vals.take n t)
theorem Vals.drop:∀{xs:List V} {us:List Value} (n:Nat),Vals xs us->Vals (xs.drop n) (us.drop n)
 |_,_,0,r=>r
 |_,_,_+1,.nil=>.nil
 |_,_,n+1,.cons _ t=>Vals.drop n t
def RelO:Option V->Option Value->Prop
 |some v,some u=>RelV v u
 |none,none=>True
 |_,_=>False
def KV{κ:Type}:List (κ×V)->List (κ×Value)->Prop:=Paired λ(p:κ×V) (q:κ×Value)=>p.1=q.1/\RelV p.2 q.2
noncomputable def kV:Key->V
 |.inl i=>.int i
 |.inr x=>.str x
inductive HO where
 |lst (xs:List V)
 |tup (xs:List V)
 |dK (kvs:List (Key×V))|dT (kvs:List (List Key×V))
 |set (S:Int->Bool) (n:Nat)
 |ins (C dx:Addr) (fs:List (Str×V))
 |own (x:Addr)
 |xd (fs:List (Str×V))
 |met (f x:Addr)
 |rng (lo hi:Int)
 |frz (o:Obj) (u:HO)
 |tbl (ps:Array Value)
 |ext (φ:Program->World->Heap->Prop)
abbrev Hp:=Addr->Option HO
noncomputable def upd(H:Hp)(a:Addr)(o:HO):Hp:=λb=>if b=a then some o else H b
def Jak:upd H a o a=some o:=by unfold upd;rw[if_pos rfl]
def Jad(h:b≠a):upd H a o b=H b:=by unfold upd;rw[if_neg h]
def Joy{H:Hp}{a b:Addr}{o u:HO}(h:H a=some o)(h':H b=some u)(d:o≠u):a≠b:=by
 intro e;subst e;rw[h]at h';exact d (Bh h')
def Jan{H:Hp}{a b:Addr}{o:HO}(h:H a=some o)(h':H b=none):a≠b:=by
 intro e;subst e;rw[h]at h';cases h'
section
variable (P:Program) (w:World)
def Vz(H:Hp)(h:Heap)(a:Addr):HO->Prop
 |.lst xs=>xs.length<=sizeLine/\∃(its:List Value) (n:Nat),Vals xs its/\h.get? a=some {cls:=.type "list",data:=.seq its.toArray n}
 |.tup xs=>xs.length<=sizeLine/\∃its:List Value,Vals xs its/\IsTup h a its.toArray
 |.dK kvs=>kvs.length<=sizeLine/\(a==sysModules)=false/\∃vs,KV kvs vs/\h.DictOf (mixKind P w) a vs
 |.dT kvs=>kvs.length<=sizeLine/\(a==sysModules)=false/\∃xs:List (List Key×Addr×Value),
   Paired (λ(p:List Key×V) (q:List Key×Addr×Value)=>p.1=q.1/\H q.2.1=some (.tup (p.1.map kV))/\RelV p.2 q.2.2) kvs xs/\
   ∃o es ep,h.get? a=some o/\o.ExactDict/\o.data=.dict es ep/\es.toList=xs.map (entryOfKey (tupleKind (mixKind P w)))/\(xs.map (·.1)).Nodup
 |.set S n=>h.SetOf (intKind P w) a S n
 |.ins C d c=>H d=some (.own a)/\c.length<=1000/\d≠a/\h.get? a=some (E7 C d)/\
   ∃b,h.Ns1 d b/\(∀f,RelO (c.lookup f) (b f))/\Pq b (c.map (·.1))
 |.own _=>∃o,h.get? a=some o
 |.xd c=>∃b,h.Ns1 a b/\∀f,RelO (c.lookup f) (b f)
 |.rng lo j=>∃t u v,h.get? a=some {cls:=.type "range",data:=.fields #[.int lo t,.int j u,.int 1 v]}
 |.frz o u=>h.get? a=some o/\Vz H h a u
 |.tbl ps=>h.get? a=some {cls:=.none,data:=.fields ps}
 |.met f x=>h.get? a=some (L7 (.ref f) (.ref x))
 |.ext e=>e P w h/\(∃o,h.get? a=some o)/\∀g i:Heap,e P w g->(∀o,g.get? a=some o->i.get? a=some o)->e P w i
def HOk(H:Hp)(h:Heap):Prop:=∀a o,H a=some o->Vz P w H h a o
end
section
variable {P:Program} {w:World} {H H':Hp} {h h':Heap} {a:Addr} {o:HO}
theorem Vz.lt(x:Vz P w H h a o):a<h.objs.size:=by
 cases o with
 |lst c=>obtain⟨_,_,_,_,e⟩:=x;exact An e
 |tup c=>obtain⟨_,_,_,p⟩:=x;exact p.lt
 |dK b=>obtain⟨_,_,_,_,o,_,_,e,_⟩:=x;exact An e
 |dT b=>obtain⟨_,_,_,_,o,_,_,e,_⟩:=x;exact An e
 |set S n=>obtain⟨o,_,_,_,e,_⟩:=x;exact An e
 |ins C g d=>obtain⟨_,_,_,e,_⟩:=x;exact An e
 |own y=>obtain⟨_,e⟩:=x;exact An e
 |xd d=>obtain⟨_,⟨_,_,_,e,_⟩,_⟩:=x;exact An e
 |rng lo i=>obtain⟨_,_,_,e⟩:=x;exact An e
 |frz j u=>obtain⟨e,_⟩:=x;exact An e
 |tbl k=>exact An (show h.get? a=some _ from x)
 |met f y=>exact An (show h.get? a=some _ from x)
 |ext l=>obtain⟨_,⟨_,e⟩,_⟩:=x;exact An e
theorem Paired.mapP{c d:Type}{F G:c->d->Prop}{l₁:List c}{l₂:List d}(h:Paired F l₁ l₂)(f:∀a b,F a b->G a b):Paired G l₁ l₂:=by
 induction h with
 |nil=>exact .nil
 |cons r t e=>exact .cons (f _ _ r) e
theorem Vz.stay(x:Vz P w H h a o)(k:∀b u,(b=a\/H b=some (.own a))->h.get? b=some u->h'.get? b=some u)
  (I:∀b,H b=some (.own a)->H' b=some (.own a))(J:∀b xs,H b=some (.tup xs)->H' b=some (.tup xs)):Vz P w H' h' a o:=by
 induction o with
 |lst xs=>obtain⟨z,l,n,r,e⟩:=x;exact⟨z,l,n,r,k _ _ (.inl rfl) e⟩
 |tup xs=>obtain⟨z,l,r,g,e,c⟩:=x;exact⟨z,l,r,g,k _ _ (.inl rfl) e,c⟩
 |dK m=>obtain⟨z,y,L,r,g,i,j,e,c⟩:=x;exact⟨z,y,L,r,g,i,j,k _ _ (.inl rfl) e,c⟩
 |dT m=>
  obtain⟨z,y,xs,r,g,i,j,e,c⟩:=x;exact⟨z,y,xs,Paired.mapP r λp q z=>⟨z.1,J _ _ z.2.1,z.2.2⟩,g,i,j,k _ _ (.inl rfl) e,c⟩
 |set S n=>obtain⟨g,i,j,t,e,c⟩:=x;exact⟨g,i,j,t,k _ _ (.inl rfl) e,c⟩
 |ins C dx N=>
  obtain⟨d,z,Q,e,s,⟨A,i,j,U,c⟩,r⟩:=x;exact⟨I _ d,z,Q,k _ _ (.inl rfl) e,s,⟨A,i,j,k _ _ (.inr d) U,c⟩,r⟩
 |own y=>obtain⟨g,e⟩:=x;exact⟨g,k _ _ (.inl rfl) e⟩
 |xd N=>obtain⟨s,⟨A,i,j,e,c⟩,r⟩:=x;exact⟨s,⟨A,i,j,k _ _ (.inl rfl) e,c⟩,r⟩
 |rng lo hi=>obtain⟨t,u,v,e⟩:=x;exact⟨t,u,v,k _ _ (.inl rfl) e⟩
 |frz g u Y=>obtain⟨e,q⟩:=x;exact⟨k _ _ (.inl rfl) e,Y q⟩
 |tbl E=>
  have e:h.get? a=some {cls:=.none,data:=.fields E}:=x;show h'.get? a=some {cls:=.none,data:=.fields E};exact k a _ (.inl rfl) e
 |met f y=>
  have e:h.get? a=some (L7 (.ref f) (.ref y)):=x;show h'.get? a=some (L7 (.ref f) (.ref y));exact k a _ (.inl rfl) e
 |ext φ=>obtain⟨p,⟨o,e⟩,st⟩:=x;exact⟨st _ _ p λo q=>k _ _ (.inl rfl) q,⟨o,k _ _ (.inl rfl) e⟩,st⟩
def HOk.lt(x:HOk P w H h)(e:H a=some o):a<h.objs.size:=(x a o e).lt
theorem HOk.fresh(x:HOk P w H h)(e:h.objs.size<=a):H a=none:=by
 cases q:H a with
 |none=>rfl
 |some u=>exact absurd (Bl (x.lt q) e) (Ey _)
def HOk.kept(x:HOk P w H h)(k:∀b u,h.get? b=some u->h'.get? b=some u):HOk P w H h':=λa o e=>
 (x a o e).stay (λb u _ q=>k b u q) (λ_ q=>q) λ_ _ q=>q
def HOk.laid(x:HOk P w H h)(k:∀b u,h.get? b=some u->h'.get? b=some u)(hp:h.objs.size<=a)(new:Vz P w (upd H a o) h' a o):HOk P w (upd H a o) h':=λb u e=>by
 have d:=x.fresh hp
 by_cases f:b=a
 .subst f;rw[Jak]at e;cases e;exact new
 .rw[Jad f]at e;exact(x b u e).stay (λc v _ q=>k c v q) (λc q=>by rw[Jad (Jan q d)];exact q) λc g q=>by rw[Jad (Jan q d)];exact q
end
def Rd(H:Hp)(a:Addr)(u:HO):Prop:=H a=some u\/∃o,H a=some (.frz o u)
def Rd.of(h:H a=some u):Rd H a u:=.inl h
def Rd.ok(r:Rd H a u)(x:HOk P w H h):Vz P w H h a u:=by
 rcases r with r|⟨o,r⟩
 .exact x a u r
 .obtain⟨_,q⟩:=x a _ r;exact q
def Mut:Option HO->Prop
 |some (.lst _)=>True
 |some (.dK _)=>True
 |some (.dT _)=>True
 |some (.set _ _)=>True
 |some (.ins _ _ _)=>True
 |some (.ext _)=>True
 |_=>False
section
variable {P:Program} {w:World} {H:Hp} {h h':Heap} {x e:Addr} {o':HO}
theorem HOk.write(o:HOk P w H h)(g:Mut (H x))(m:e=x\/H e=some (.own x))(k:∀b u,b≠e->h.get? b=some u->h'.get? b=some u)(l:∃u,h'.get? e=some u)
  (new:Vz P w (upd H x o') h' x o'):HOk P w (upd H x o') h':=λb u q=>by
 have d:∀c y,H c=some (.own y)->c≠x:=λc y r z=>by subst z;rw[r]at g;exact g
 have f:∀c i,H c=some (.tup i)->c≠x:=λc i r z=>by subst z;rw[r]at g;exact g
 by_cases j:b=x
 .subst j;rw[Jak]at q;cases q;exact new
 .rw[Jad j]at q
  by_cases a:b=e
  .have n:H b=some (.own x):=by
    rcases m with z|z
    .exact absurd (a.trans z) j
    .rw[a];exact z
   rw[q]at n;cases n;obtain⟨v,p⟩:=l;exact⟨v,by rw[a];exact p⟩
  .refine(o b u q).stay (λc v hc r=>k c v ?_ r) (λc r=>by rw[Jad (d c b r)];exact r) λc i r=>by rw[Jad (f c i r)];exact r
   rcases hc with rfl|hc
   .exact a
   .rintro rfl;rcases m with z|z
    .exact d c b hc z
    .rw[hc]at z;cases z;exact j rfl
end
structure Un(fs ex:List Addr)(H H':Hp)(h h':Heap):Prop where
 keep:∀b o,h.get? b=some o->H b=none->b∉fs->b∉ex->h'.get? b=some o
 slot:∀b o,h.get? b=some o->H b=none->b∈fs->b∉ex->∃sl,h'.get? b=some {o with slots:=sl}
 free:∀b o,h.get? b=some o->H b=none->b∉ex->H' b=none
 there:∀b o,h.get? b=some o->b∉ex->∃o',h'.get? b=some o'
 tups:∀b xs,H b=some (.tup xs)->H' b=some (.tup xs)
 frzs:∀b o u,H b=some (.frz o u)->H' b=some (.frz o u)
 tbls:∀b ps,H b=some (.tbl ps)->∃more,H' b=some (.tbl (ps++more))
section
variable {fs fs' ex ex':List Addr} {H H1 H2:Hp} {h h1 h2 h':Heap} {a x e:Addr} {o:HO}
def Un.any(u:Un fs ex H H1 h h1)(q:h.get? b=some c)(n:H b=none)(d:b∉ex):∃sl,h1.get? b=some {c with slots:=sl}:=by
 by_cases f:b∈fs
 .exact u.slot b c q n f d
 .exact⟨c.slots,u.keep b c q n f d⟩
def Un.kept(k:∀b u,h.get? b=some u->h'.get? b=some u):Un fs ex H H h h':=
 ⟨λb c q _ _ _=>k b c q,λb c q _ _ _=>⟨c.slots,k b c q⟩,λ_ _ _ n _=>n,λb c q _=>⟨c,k b c q⟩,λ_ _ q=>q,λ_ _ _ q=>q,λ_ ps q=>⟨#[],by rw[q];simp⟩⟩
def Un.refl:Un fs ex H H h h:=Un.kept λ_ _ q=>q
def Un.laid(k:∀b u,h.get? b=some u->h'.get? b=some u)(hp:h.objs.size<=a)(c:H a=none):Un fs ex H (upd H a o) h h' where
 keep:=λb u q _ _ _=>k b u q
 slot:=λb u q _ _ _=>⟨u.slots,k b u q⟩
 free:=λb u q n _=>by rw[Jad (Ay (Bl (An q) hp))];exact n
 there:=λb u q _=>⟨u,k b u q⟩
 tups:=λb xs q=>by rw[Jad (Jan q c)];exact q
 frzs:=λb u xs q=>by rw[Jad (Jan q c)];exact q
 tbls:=λb ps q=>⟨#[],by rw[Jad (Jan q c),q];simp⟩
def Un.write(d:Mut (H x))(l:e=x\/H e=some (.own x))(k:∀b u,b≠e->h.get? b=some u->h'.get? b=some u)(f:∃u,h'.get? e=some u):Un fs ex H (upd H x o) h h':=by
 have i:∀b,H b=none->b≠x:=λb n z=>by subst z;rw[n]at d;exact d
 have j:∀b,H b=none->b≠e:=λb n z=>by
  subst z;rcases l with r|r
  .exact i b n r
  .rw[n]at r;cases r
 have g:∀b u,H b=some u->¬Mut (some u)->b≠x:=λb u q m z=>by subst z;rw[q]at d;exact m d
 refine⟨λb u q n _ _=>k b u (j b n) q,λb u q n _ _=>⟨u.slots,k b u (j b n) q⟩,λb u q n _=>by rw[Jad (i b n)];exact n,λb u q _=>?_,
  λb xs q=>by rw[Jad (g b _ q λz=>z)];exact q,λb u xs q=>by rw[Jad (g b _ q λz=>z)];exact q,λb ps q=>⟨#[],by rw[Jad (g b _ q λz=>z),q];simp⟩⟩
 by_cases c:b=e
 .subst c;exact f
 .exact⟨u,k b u c q⟩
end
noncomputable def trk(h:Heap)(H:Hp):List Addr:=(Cf h.objs.size).filter λa=>(H a).isSome
def X6(h:Heap)(H:Hp):Heap:=PySem.W.hideAll h (trk h H)
def Jml(h:Heap)(H:Hp):(X6 h H).objs.size=h.objs.size:=PySem.W.hideAll_size _ _
def Jpi{h:Heap}(e:h.get? b=some o)(n:H b=none):(X6 h H).get? b=some o:=
 PySem.W.hideAll_get _ e λa=>by
  have q:(H b).isSome=true:=(Jb.mp a).2;rw[n]at q;simp at q
theorem Jt2{h:Heap}(e:(X6 h H).get? b=some o):h.get? b=some o/\H b=none:=by
 have a:h.get? b=some o:=PySem.W.of_hideAll (trk h H) e;refine⟨a,?_⟩;cases q:H b with
 |none=>rfl
 |some x=>
  have c:b∈trk h H:=Jb.mpr ⟨Ue.mpr (An a),by simp[q]⟩;have z:(X6 h H).get? b=none:=PySem.W.hideAll_none (trk h H) c;rw[z]at e;cases e
structure Mod(K:Ag)(mg:Str->Option Value)(base:Heap):Prop where
 kin:K.In base
 glob:base.Ns Bg mg
 blt:∃mb,base.Ns Uy mb/\∀x:Str,x≠"__name__"->mb x=Dx x
 nolimit:base.NoLimit
structure Cx where
 prog:Program
 w:World
 K:Ag
 mg:Str->Option Value
 base:Heap
 A:Bi
 N:List Str
 s₀:Shared
 H₀:Hp
 env:Env
 outer:List Env
 stack:List Env
 ex:List Addr
 fn:Str->Bool
 calm:Bool
 pn:List (Addr×Obj)
 xe:Value->Shared->Prop
noncomputable def frs(l:List Env):List Addr:=l.filterMap (·.frame)
abbrev Cx.fs(X:Cx):List Addr:=frs X.outer
def Vis(sc:Jk)(x:Str):Prop:=sc.names.lookup x=some .local\/sc.names.lookup x=some .cell\/sc.names.lookup x=some .free
def Loc(sc:Jk)(x:Str):Prop:=sc.names.lookup x=some .local\/sc.names.lookup x=some .cell
def Look(env:Env)(h:Heap)(m:Str->Option Value)(x:Str)(u:Value):Prop:=
 (env.kindOf x=some .local/\m x=some u)\/((env.kindOf x=some .cell\/env.kindOf x=some .free)/\∃c,env.cells.lookup x=some c/\h.IsCell c (some u))
structure Cx.Ok(X:Cx):Prop where
 mod:Mod X.K X.mg X.base
 kind:X.env.scope.kind=.function
 glob:X.env.globals=Bg
 blt:X.env.builtins=Uy
 above:X.s₀.heap.objs.size<=X.env.locals
 inj:∀x y c,X.env.cells.lookup x=some c->X.env.cells.lookup y=some c->x=y
 has:∀x,(X.env.kindOf x=some .cell\/X.env.kindOf x=some .free)->∃c,X.env.cells.lookup x=some c
 cab:∀x c,X.fn x=true->X.env.cells.lookup x=some c->X.s₀.heap.objs.size<=c
 hd:X.calm=true->X.A.handled=none
 frames:X.A.frames=some X.stack
 stk:X.stack=X.outer\/(X.stack=X.env::X.outer/\X.env.frame=some X.env.locals)
 exf:∀b∈X.ex,b≠X.env.locals/\∀x c,X.env.cells.lookup x=some c->c≠b
 bs:∀b o,X.base.get? b=some o->X.s₀.heap.get? b=some o/\X.H₀ b=none
 bsz:X.base.objs.size<=X.s₀.heap.objs.size
 noex:∀b o,X.base.get? b=some o->b∉X.ex
 exfs:∀b∈X.ex,b∉X.fs
 funs:X.s₀.heap.FunFrames X.base X.outer
 frf:∀b∈X.fs,X.H₀ b=none
structure Inv(X:Cx)(pins:List (Addr×Obj))(σ:List (Option V))(H:Hp)(s:Shared):Prop where
 ok:X.Ok
 os:s.os=X.s₀.os
 bare:Lu s.gens
 base:Un X.fs X.ex X.H₀ H X.s₀.heap s.heap
 loc:∃m,s.heap.Ns X.env.locals m/\∀(i:Nat) (x:Str) (v:V),X.N[i]? =some x->σ[i]? =some (some v)->Vis X.env.scope x->∃u,RelV v u/\Look X.env s.heap m x u
 cell:∀x c,X.env.cells.lookup x=some c->∃v,s.heap.IsCell c v
 free:H X.env.locals=none
 freeC:∀x c,X.env.cells.lookup x=some c->H c=none
 pin:∀p∈X.pn++pins,s.heap.get? p.1=some p.2/\H p.1=none/\p.1≠X.env.locals/\p.1∉X.fs/\∀v,p.2.data≠ .cell v
 hok:HOk X.prog X.w H s.heap
 len:σ.length=X.N.length
section
variable {X:Cx} {pins:List (Addr×Obj)} {σ:List (Option V)} {H H':Hp} {s:Shared} {h':Heap}
def Cx.Ok.nofr(a:X.Ok)(e:X.base.get? b=some o):b∉X.fs:=λd=>by
 have:=(a.funs.mem d).1;rw[e]at this;cases this
def Inv.bs(I:Inv X pins σ H s):∀b o,X.base.get? b=some o->s.heap.get? b=some o/\H b=none:=λb o e=>
 ⟨I.base.keep b o (I.ok.bs b o e).1 (I.ok.bs b o e).2 (I.ok.nofr e) (I.ok.noex b o e),I.base.free b o (I.ok.bs b o e).1 (I.ok.bs b o e).2 (I.ok.noex b o e)⟩
def Inv.bk(I:Inv X pins σ H s):∀b o,X.base.get? b=some o->s.heap.get? b=some o:=λb o e=>(I.bs b o e).1
def Inv.mod(I:Inv X pins σ H s):Mod X.K X.mg X.base:=I.ok.mod
def Inv.kIn(I:Inv X pins σ H s):X.K.In s.heap:=I.ok.mod.kin.keeps I.bk
def Inv.lt(I:Inv X pins σ H s):X.env.locals<s.heap.objs.size:=let⟨_,a,_⟩:=I.loc;a.lt
def Inv.sz(I:Inv X pins σ H s):X.s₀.heap.objs.size<=s.heap.objs.size:=Bu I.ok.above (Ex I.lt)
def Inv.nofs(I:Inv X pins σ H s)(h:s.heap.objs.size<=a):a∉X.fs:=λb=>by
 obtain⟨_,o,d,_⟩:=I.ok.funs.mem b;exact absurd (Bl (An d) (Bu I.sz h)) (Ey _)
def Inv.cne(I:Inv X pins σ H s):∀x c,X.env.cells.lookup x=some c->c≠X.env.locals:=λx c e z=>by
 obtain⟨v,o,d,f⟩:=I.cell x c e;obtain⟨m,⟨g,h,j,a,b,_⟩,_⟩:=I.loc;rw[z,a]at d;cases d;rw[b]at f;cases f
def Inv.funs(I:Inv X pins σ H s):s.heap.FunFrames X.base X.outer:=by
 have a:∀(l:List Env),(∀b∈frs l,b∈X.fs)->X.s₀.heap.FunFrames X.base l->s.heap.FunFrames X.base l:=by
  intro l
  induction l with
  |nil=>intro _ _;trivial
  |cons env r j=>
   intro h k;obtain⟨n,⟨L,o,d,t,y,A⟩,C⟩:=k;have f:L∈X.fs:=h L (by unfold frs;rw[He,d];exact Br);obtain⟨sl,e⟩:=I.base.slot L o y (I.ok.frf L f) f λz=>I.ok.exfs L z f;exact⟨n,⟨L,_,d,t,e,A⟩,j (λb g=>h b (by unfold frs;rw[He,d];exact A7 _ g)) C⟩
 exact a X.outer (λ_ g=>g) I.ok.funs
def Inv.stack(I:Inv X pins σ H s):s.heap.FunFrames X.base X.stack:=by
 rcases I.ok.stk with e|⟨e,a⟩
 .rw[e];exact I.funs
 .rw[e];obtain⟨m,b,_⟩:=I.loc;refine .cons (by rw[I.ok.kind];decide) a b ?_ I.funs;exact Ll (Bu I.ok.bsz I.ok.above)
def Inv.stkSub(I:Inv X pins σ H s):∀b∈frs X.stack,b∈X.env.locals::X.fs:=λb a=>by
 rcases I.ok.stk with e|⟨e,d⟩
 .rw[e]at a;exact A7 _ a
 .rw[e]at a;unfold frs at a;rw[He,d]at a;exact a
def Inv.stkFree(I:Inv X pins σ H s):∀b∈frs X.stack,H b=none:=λb hb=>by
 rcases Am.mp (I.stkSub b hb)with e|hb
 .rw[e];exact I.free
 .obtain⟨_,o,a,_⟩:=I.ok.funs.mem hb;exact I.base.free b o a (I.ok.frf b hb) λz=>I.ok.exfs b z hb
def Inv.step{ch:List Addr}(I:Inv X pins σ H s)
  (f:∀b∈ch,(b∈X.ex\/X.s₀.heap.objs.size<=b)/\b≠X.env.locals/\(∀x c,X.env.cells.lookup x=some c->c≠b)/\∀p∈X.pn++pins,p.1≠b)
  (keep:∀b o,b≠X.env.locals->b∉X.fs->b∉ch->s.heap.get? b=some o->H b=none->h'.get? b=some o)
  (y:∀b o,b≠X.env.locals->b∈X.fs->b∉ch->s.heap.get? b=some o->H b=none->∃sl,h'.get? b=some {o with slots:=sl})(free:∀b o,b∉ch->s.heap.get? b=some o->H b=none->H' b=none)
  (A:∀b o,b∉ch->s.heap.get? b=some o->∃J,h'.get? b=some J)
  (L:∀b xs,H b=some (.tup xs)->H' b=some (.tup xs))(Q:∀b o u,H b=some (.frz o u)->H' b=some (.frz o u))(U:∀b ps,H b=some (.tbl ps)->∃Y,H' b=some (.tbl (ps++Y)))
  (ns:∀m,s.heap.Ns X.env.locals m->h'.Ns X.env.locals m)(hok:HOk X.prog X.w H' h')(hg:Lu g'):
  Inv X pins σ H' {s with heap:=h',gens:=g',drawn:=d',toks:=t'}:=by
 have neL:∀b o,X.s₀.heap.get? b=some o->b≠X.env.locals:=λb o e=>Ay (Bl (An e) I.ok.above);have j:∀b o,X.s₀.heap.get? b=some o->b∉X.ex->b∉ch:=λb o e a C=>by
  rcases(f b C).1 with z|z
  .exact a z
  .exact absurd (Bl (An e) z) (Ey _)
 have g:∀x c,X.env.cells.lookup x=some c->∀v,s.heap.IsCell c v->h'.IsCell c v:=λx c e v ⟨o,E,hd⟩=>by
  have h:c∉ch:=λz=>(f c z).2.2.1 x c e rfl
  by_cases hc:c∈X.fs
  .obtain⟨sl,q⟩:=y c o (I.cne x c e) hc h E (I.freeC x c e);exact⟨_,q,hd⟩
  .exact⟨o,keep c o (I.cne x c e) hc h E (I.freeC x c e),hd⟩
 refine⟨I.ok,I.os,hg,⟨λb o e n C a=>?_,λb o e n C a=>?_,λb o e n a=>?_,λb o e a=>?_,λb xs e=>L b xs (I.base.tups b xs e),λb o xs e=>Q b o xs (I.base.frzs b o xs e),λb ps e=>?_⟩,?_,λx c e=>?_,?_,λx c e=>?_,λp hp=>?_,hok,I.len⟩
 .exact keep b o (neL b o e) C (j b o e a) (I.base.keep b o e n C a) (I.base.free b o e n a)
 .obtain⟨sl,t⟩:=I.base.slot b o e n C a;obtain⟨sl',e2⟩:=y b _ (neL b o e) C (j b o e a) t (I.base.free b o e n a);exact⟨sl',e2⟩
 .obtain⟨J,t⟩:=I.base.there b o e a;exact free b J (j b o e a) t (I.base.free b o e n a)
 .obtain⟨J,t⟩:=I.base.there b o e a;exact A b J (j b o e a) t
 .obtain⟨m1,t⟩:=I.base.tbls b ps e;obtain⟨m2,e2⟩:=U b _ t;exact⟨m1++m2,by rw[e2,Array.append_assoc]⟩
 .obtain⟨m,hn,hl⟩:=I.loc;refine⟨m,ns m hn,λi x v t e2 e3=>?_⟩;obtain⟨u,r,l⟩:=hl i x v t e2 e3;refine⟨u,r,?_⟩;rcases l with l|⟨k,c,e,z⟩
  .exact .inl l
  .exact .inr ⟨k,c,e,g x c e _ z⟩
 .obtain⟨v,z⟩:=I.cell x c e;exact⟨v,g x c e v z⟩
 .obtain⟨m,⟨o,_,_,E,_⟩,_⟩:=I.loc;exact free _ o (λz=>(f _ z).2.1 rfl) E I.free
 .obtain⟨v,o,E,hd⟩:=I.cell x c e;exact free c o (λz=>(f c z).2.2.1 x c e rfl) E (I.freeC x c e)
 .obtain⟨e,n,ne,nf,d⟩:=I.pin p hp;have h:p.1∉ch:=λz=>(f p.1 z).2.2.2 p hp rfl;exact⟨keep p.1 p.2 ne nf h e n,free p.1 p.2 h e n,ne,nf,d⟩
def Inv.un(I:Inv X pins σ H s)(u:Un X.fs [] H H' s.heap h')(hok:HOk X.prog X.w H' h'):Inv X pins σ H' {s with heap:=h',toks:=t'}:=by
 obtain⟨m,⟨o,t,y,h,r⟩,_⟩:=id I.loc;obtain⟨sl,j⟩:=u.any h I.free (by simp);exact I.step (g':=s.gens) (d':=s.drawn) (ch:=[]) (λ_ z=>nomatch z) (λb o _ d _ e n=>u.keep b o e n d (by simp)) (λb o _ d _ e n=>u.slot b o e n d (by simp)) (λb o _ e n=>u.free b o e n (by simp)) (λb o _ e=>u.there b o e (by simp)) u.tups u.frzs u.tbls (λA k=>by
  obtain⟨C,f,g,a,l⟩:=k;rw[h]at a;cases a;exact⟨_,f,g,j,l⟩) hok I.bare
def Inv.call(I:Inv X pins σ H s)(u:Un (frs X.stack) ch H H' s.heap h')(hok:HOk X.prog X.w H' h')(l:Lu g')
  (d:∀b∈ch,(b∈X.ex\/X.s₀.heap.objs.size<=b)/\b≠X.env.locals/\(∀x c,X.env.cells.lookup x=some c->c≠b)/\∀p∈X.pn++pins,p.1≠b):
  Inv X pins σ H' {s with heap:=h',gens:=g',drawn:=d',toks:=t'}:=by
 obtain⟨m,⟨o,C,E,k,r⟩,_⟩:=id I.loc;obtain⟨sl,g⟩:=u.any k I.free λz=>(d _ z).2.1 rfl;exact I.step (ch:=ch) d (λb o g t a e n=>u.keep b o e n (λz=>(Am.mp (I.stkSub b z)).elim g t) a) (λb o _ _ a e n=>u.any e n a) (λb o a e n=>u.free b o e n a) (λb o a e=>u.there b o e a) u.tups u.frzs u.tbls (λJ y=>by
  obtain⟨L,h,j,f,A⟩:=y;rw[k]at f;cases f;exact⟨_,h,j,g,A⟩) hok l
def Inv.turned(I:Inv X pins σ H s)(k:∀b o,b≠it->s.heap.get? b=some o->h'.get? b=some o)(g:H it=none)(f:it≠X.env.locals)
  (h:it∈X.ex\/X.s₀.heap.objs.size<=it)(j:∀x c,X.env.cells.lookup x=some c->c≠it)(l:∀p∈X.pn++pins,p.1≠it):Inv X pins σ H {s with heap:=h',toks:=t'}:=by
 have d:∀b u,H b=some u->b≠it:=λb u e z=>by rw[z,g]at e;cases e
 refine I.step (g':=s.gens) (d':=s.drawn) (ch:=[it]) (λb t=>?_) (λb o _ _ a e _=>k b o (λz=>a (by simp[z])) e) (λb o _ _ a e _=>⟨o.slots,k b o (λz=>a (by simp[z])) e⟩) (λ_ _ _ _ n=>n)
  (λb o a e=>⟨o,k b o (λz=>a (by simp[z])) e⟩) (λ_ _ e=>e) (λ_ _ _ e=>e) (λb J e=>⟨#[],by rw[e];simp⟩) (λm y=>?_) (λb u e=>?_) I.bare
 .have e:b=it:=by simpa using t
  subst e;exact⟨h,f,j,l⟩
 .obtain⟨o,A,C,E,r⟩:=y;exact⟨o,A,C,k _ o (Ef f) E,r⟩
 .refine(I.hok b u e).stay (λc v a q=>k c v ?_ q) (λ_ q=>q) λ_ _ q=>q;rcases a with z|z
  .rw[z];exact d b u e
  .exact d c _ z
def Inv.tok(I:Inv X pins σ H s)(t:Nat):Inv X pins σ H {s with toks:=t}:=I.un (h':=s.heap) (t':=t) Un.refl I.hok
def Inv.kept(I:Inv X pins σ H s)(k:∀b u,s.heap.get? b=some u->h'.get? b=some u):Inv X pins σ H {s with heap:=h',toks:=t'}:=I.un (Un.kept k) (I.hok.kept k)
def Inv.laid(I:Inv X pins σ H s)(k:∀b u,s.heap.get? b=some u->h'.get? b=some u)(hp:s.heap.objs.size<=a)(new:Vz X.prog X.w (upd H a o) h' a o):
  Inv X pins σ (upd H a o) {s with heap:=h',toks:=t'}:=I.un (Un.laid k hp (I.hok.fresh hp)) (I.hok.laid k hp new)
def Inv.write(I:Inv X pins σ H s)(d:Mut (H x))(f:e=x\/H e=some (.own x))(k:∀b u,b≠e->s.heap.get? b=some u->h'.get? b=some u)(a:∃u,h'.get? e=some u)
  (new:Vz X.prog X.w (upd H x o) h' x o):Inv X pins σ (upd H x o) {s with heap:=h',toks:=t'}:=I.un (Un.write d f k a) (I.hok.write d f k a new)
def Inv.pins_of{a:List (Addr×Obj)}(I:Inv X pins σ H s)(h:∀p∈a,s.heap.get? p.1=some p.2/\H p.1=none/\p.1≠X.env.locals/\p.1∉X.fs/\∀v,p.2.data≠ .cell v):Inv X a σ H s:=
 ⟨I.ok,I.os,I.bare,I.base,I.loc,I.cell,I.free,I.freeC,λp hp=>(Bm.mp hp).elim (λz=>I.pin p (Fh _ z)) (h p),I.hok,I.len⟩
def Jjo{N:List Str}(c:N.Nodup){i j:Nat}{x:Str}(a:N[i]? =some x)(b:N[j]? =some x):i=j:=by
 obtain⟨f,d⟩:=Ae.mp a;obtain⟨g,e⟩:=Ae.mp b;exact(List.getElem_inj c).mp (d.trans e.symm)
def Jg6{M:K5}{A:Bi}{E:Value->Shared->Prop}{i:Nat}{x:Str}{v:V}{u:Value}{Q:Unit->Shared->Prop}(I:Inv X pins σ H s)(hN:X.N.Nodup)(hi:X.N[i]? =some x)(t:Loc X.env.scope x)(r:RelV v u)
  (h:∀s',Inv X pins (σ.set i (some v)) H s'->(∃a,Di a s.heap s'.heap/\(a=X.env.locals\/X.env.cells.lookup x=some a))->Q () s')(hf:X.fn x=true\/X.env.scope.names.lookup x=some .local):wpAny M A (storeName X.env x u) Q E s:=by
 obtain⟨m,hn,hl⟩:=id I.loc;have hcls:(X.env.scope.kind== .class||(X.env.scope.kind== .module&&X.env.locals !=X.env.globals))=false:=by rw[I.ok.kind];rfl
 have J:i<σ.length:=by rw[I.len];exact(Ae.mp hi).1
 have L:=I.cne;have g:∀{a:Addr} {h':Heap},(∃o,s.heap.get? a=some o/\H a=none)->Di a s.heap h'->HOk X.prog X.w H h':=λ{a h'} ha f b ob e=>by
  obtain⟨_,_,w⟩:=ha;refine(I.hok b ob e).stay (λc w' hc q=>(f.2 c ?_).trans q) (λ_ q=>q) λ_ _ q=>q;rintro rfl;rcases hc with rfl|hc
  .rw[w]at e;cases e
  .rw[w]at hc;cases hc
 rcases t with hk|hk
 .refine wpAny_storeName_local hk hn (λh' hn' f=>?_) hcls;obtain⟨oL,_,_,hoL,_⟩:=id hn;refine h _ ⟨I.ok,I.os,I.bare,⟨λb o e n N t=>?_,λb o e n N t=>?_,I.base.free,λb o e t=>?_,I.base.tups,I.base.frzs,I.base.tbls⟩,⟨_,hn',λj y v' l C e3=>?_⟩,λy c e=>?_,I.free,I.freeC,λp hp=>?_,g ⟨oL,hoL,I.free⟩ f,by simpa using I.len⟩ ⟨_,f,.inl rfl⟩
  .exact(f.2 b (Ay (Bl (An e) I.ok.above))).trans (I.base.keep b o e n N t)
  .obtain⟨sl,l⟩:=I.base.slot b o e n N t;exact⟨sl,(f.2 b (Ay (Bl (An e) I.ok.above))).trans l⟩
  .obtain⟨o',l⟩:=I.base.there b o e t;exact⟨o',(f.2 b (Ay (Bl (An e) I.ok.above))).trans l⟩
  .by_cases U:j=i
   .subst U;rw[hi]at l;cases l;rw[D5 J]at C;cases C;exact⟨u,r,.inl ⟨hk,by simp⟩⟩
   .rw[A1 (Ef U)]at C;obtain⟨u',r',q⟩:=hl j y v' l C e3;refine⟨u',r',?_⟩;rcases q with⟨k,e⟩|⟨k,c,e,z⟩
    .refine .inl ⟨k,?_⟩;have:y≠x:=λe=>U (Jjo hN l (e▸hi));simp[this,e]
    .exact .inr ⟨k,c,e,z.sameBut f (L y c e)⟩
  .obtain⟨w',z⟩:=I.cell y c e;exact⟨w',z.sameBut f (L y c e)⟩
  .obtain⟨e,n,ne,nf,d⟩:=I.pin p hp;exact⟨(f.2 p.1 ne).trans e,n,ne,nf,d⟩
 .have Y:X.fn x=true:=by
   rcases hf with z|z
   .exact z
   .rw[z]at hk;cases hk
  obtain⟨c,hc⟩:=I.ok.has x (.inl hk);obtain⟨w',z⟩:=I.cell x c hc;refine wpAny_storeName_cell I.ok.kind hk hc z (λh' hc' f=>?_);obtain⟨oc,hoc,hocd⟩:=id z;refine h {s with heap:=h'} ⟨I.ok,I.os,I.bare,⟨λb o e n N t=>?_,λb o e n N t=>?_,I.base.free,λb o e t=>?_,I.base.tups,I.base.frzs,I.base.tbls⟩,⟨m,hn.sameBut f (Ef (L x c hc)),λj y v' l C e3=>?_⟩,λy c' e=>?_,I.free,I.freeC,λp hp=>?_,g ⟨oc,hoc,I.freeC x c hc⟩ f,by simpa using I.len⟩ ⟨c,f,.inr hc⟩
  .exact(f.2 b (Ay (Bl (An e) (I.ok.cab x c Y hc)))).trans (I.base.keep b o e n N t)
  .obtain⟨sl,l⟩:=I.base.slot b o e n N t;exact⟨sl,(f.2 b (Ay (Bl (An e) (I.ok.cab x c Y hc)))).trans l⟩
  .obtain⟨o',l⟩:=I.base.there b o e t;exact⟨o',(f.2 b (Ay (Bl (An e) (I.ok.cab x c Y hc)))).trans l⟩
  .by_cases U:j=i
   .subst U;rw[hi]at l;cases l;rw[D5 J]at C;cases C;exact⟨u,r,.inr ⟨.inl hk,c,hc,hc'⟩⟩
   .rw[A1 (Ef U)]at C;obtain⟨u',r',q⟩:=hl j y v' l C e3;refine⟨u',r',?_⟩;rcases q with q|⟨k,c',e,z'⟩
    .exact .inl q
    .refine .inr ⟨k,c',e,z'.sameBut f ?_⟩;rintro rfl;exact U (Jjo hN l (I.ok.inj _ _ _ e hc▸hi))
  .by_cases hcc:c'=c
   .subst hcc;exact⟨_,hc'⟩
   .obtain⟨w2,z2⟩:=I.cell y c' e;exact⟨w2,z2.sameBut f hcc⟩
  .obtain⟨e,n,ne,nf,d⟩:=I.pin p hp;refine⟨(f.2 p.1 ?_).trans e,n,ne,nf,d⟩;intro q;rw[q,hoc]at e;have q':oc=p.2:=Bh e;exact d w' (by rw[<-q'];exact hocd)
def Jfz{E:Value->Shared->Prop}{Q:Unit->Shared->Prop}(I:Inv X pins σ H s)(b:X.N.Nodup)(c:X.N[i]? =some x)(d:Loc X.env.scope x)(r:RelV v u)
  (h:∀a,Inv X pins (σ.set i (some v)) H a->Q () a)(e:X.fn x=true\/X.env.scope.names.lookup x=some .local):wpAny M A (storeName X.env x u) Q E s:=
 Jg6 I b c d r (λa f _=>h a f) e
def Inv.call'{a:Shared}(I:Inv X pins σ H s)(f:a.os=s.os)(u:Un (frs X.stack) ch H H' s.heap a.heap)(hok:HOk X.prog X.w H' a.heap)(g:Lu a.gens)
  (d:∀b∈ch,(b∈X.ex\/X.s₀.heap.objs.size<=b)/\b≠X.env.locals/\(∀x c,X.env.cells.lookup x=some c->c≠b)/\∀p∈X.pn++pins,p.1≠b):Inv X pins σ H' a:=by
 obtain⟨h',h,j,k,l⟩:=a;have e:l=s.os:=f;subst e;exact I.call (g':=h) (t':=k) (d':=j) u hok g d
end
abbrev XK:=Value->Option Addr->Hp->Prop
abbrev St:=List (Option V)
abbrev VK:=V->Hp->Prop
abbrev TE:=St->Hp->VK->Prop
abbrev TT:=St->Hp->(Bool->Hp->Prop)->Prop
abbrev TA:=St->Hp->(List V->Hp->Prop)->Prop
structure Ends where
 nx:St->Hp->Prop
 rt:VK
 bk:St->Hp->Prop:=λ_ _=>False
 ct:St->Hp->Prop:=λ_ _=>False
abbrev TS:=Ends->St->Hp->Prop
def EP(X:Cx)(a:List (Addr×Obj))(c:St)(Q:VK)(u:Value)(d:Shared):Prop:=∃v b,Inv X a c b d/\RelV v u/\Q v b
def TP(X:Cx)(a:List (Addr×Obj))(d:St)(Q:Bool->Hp->Prop)(b:Bool)(e:Shared):Prop:=∃c,Inv X a d c e/\Q b c
def AP(X:Cx)(a:List (Addr×Obj))(d:St)(Q:List V->Hp->Prop)(us:List Value)(e:Shared):Prop:=∃b c,Inv X a d c e/\Vals b us/\Q b c
def SP(X:Cx)(b:List (Addr×Obj))(D:Ends)(f:Flow)(d:Shared):Prop:=
 match f with
 |.next=>∃a c,Inv X b a c d/\D.nx a c
 |.brk=>∃a c,Inv X b a c d/\D.bk a c
 |.cont=>∃a c,Inv X b a c d/\D.ct a c
 |.ret u=>∃v a c,Inv X b a c d/\RelV v u/\D.rt v c
def PE(X:Cx)(e:Expr)(t:TE):Prop:=
 ∀(a:List (Addr×Obj)) (s:Shared) (b:St) (H:Hp) (Q:VK),Inv X a b H s->t b H Q->wpAny (model X.prog X.w) X.A (eval e X.env) (EP X a b Q) X.xe s
def PT(X:Cx)(e:Expr)(t:TT):Prop:=
 ∀(a:List (Addr×Obj)) (s:Shared) (b:St) (H:Hp) (Q:Bool->Hp->Prop),Inv X a b H s->t b H Q->wpAny (model X.prog X.w) X.A (isTrue e X.env (eval e X.env)) (TP X a b Q) X.xe s
def PW(X:Cx)(e:Expr)(t:TT):Prop:=
 ∀(b:Sem Value) (a:List (Addr×Obj)) (s:Shared) (c:St) (H:Hp) (Q:Bool->Hp->Prop),Inv X a c H s->t c H Q->wpAny (model X.prog X.w) X.A (isTrue e X.env b) (TP X a c Q) X.xe s
def PW.pt(h:PW X e t):PT X e t:=h _
def PA(X:Cx)(es:List Expr)(t:TA):Prop:=
 ∀(b:Pos) (a:List (Addr×Obj)) (s:Shared) (c:St) (H:Hp) (Q:List V->Hp->Prop),Inv X a c H s->t c H Q->wpAny (model X.prog X.w) X.A (R0 (Ga b (B4 es X.env))) (AP X a c Q) X.xe s
def PS(X:Cx)(st:Stmt)(t:TS):Prop:=
 ∀(a:List (Addr×Obj)) (s:Shared) (b:St) (H:Hp) (D:Ends),Inv X a b H s->t D b H->wpAny (model X.prog X.w) X.A (exec st X.env) (SP X a D) X.xe s
def PSs(X:Cx)(st:List Stmt)(t:TS):Prop:=
 ∀(a:List (Addr×Obj)) (s:Shared) (b:St) (H:Hp) (D:Ends),Inv X a b H s->t D b H->wpAny (model X.prog X.w) X.A (execs st X.env) (SP X a D) X.xe s
def thn{b:Type}{t:Sem b}{Q Q':b->Shared->Prop}{M:K5}{A:Bi}{E:Value->Shared->Prop}{s:Shared}(h:wpAny M A t Q E s)(c:∀a s,Q a s->Q' a s):wpAny M A t Q' E s:=Ce h c λ_ _ x=>x
section
variable {X:Cx}
def Wcf(i:Nat):TE:=λa H Q=>∃v,a[i]? =some (some v)/\Q v H
def tC(v:V):TE:=λ_ H Q=>Q v H
def Jw1(j:X.N[i]? =some x)(k:Vis X.env.scope x)(d:(x==("__debug__":Str))=false)(f:(x==("__classdict__":Str))=false):PE X (.Name x pos) (Wcf i):=by
 intro b s n H Q I h;obtain⟨v,e,h⟩:=h;obtain⟨m,o,p⟩:=I.loc;obtain⟨u,r,l⟩:=p i x v j e k;have fin:EP X b n Q u s:=⟨v,H,I,r,h⟩
 rcases l with⟨hk,t⟩|⟨hk,c,g,a⟩
 .exact Ut (Sx I.ok.kind hk o t fin) d
 .rcases hk with hk|hk
  .exact Ut (Tt I.ok.kind hk g a fin) d
  .exact Ut (wpAny_loadName_free I.ok.kind hk g a fin f) d
def Jw7{i j pos}:PE X (.Constant (.int i) j pos) (tC (.int i)):=λ_ _ _ H _ I h=>wpAny_Constant_int ⟨.int i,H,I.tok _,⟨_,rfl⟩,h⟩
def Jz1{b j pos}:PE X (.Constant (.bool b) j pos) (tC (.bl b)):=λ_ _ _ H _ I h=>Constant_bool ⟨.bl b,H,I,rfl,h⟩
def Jw5{j pos}:PE X (.Constant .none j pos) (tC .non):=λ_ _ _ H _ I h=>Constant_none ⟨.non,H,I,rfl,h⟩
def Jw3{x j pos}:PE X (.Constant (.str x) j pos) (tC (.str x)):=λ_ _ _ H _ I h=>Calls.Constant_str ⟨.str x,H,I.tok _,⟨_,rfl⟩,h⟩
def Gl(X:Cx)(x:Str):Prop:=X.env.kindOf x=some .globalImplicit
def Jf8{E:Value->Shared->Prop}{Q:Value->Shared->Prop}(I:Inv X a e H s)(b:Gl X x)(c:X.mg x=some u)(h:Q u s)
  (d:(x==("__debug__":Str))=false):wpAny (model X.prog X.w) X.A (eval (.Name x pos) X.env) Q E s:=
 Ob I.ok.kind b (Calls.loadGlobal_global (by rw[I.ok.glob];exact I.mod.glob.keeps I.bk) c h) d
def Jck{E:Value->Shared->Prop}{Q:Value->Shared->Prop}(I:Inv X a j H s)(b:Gl X x)(c:X.mg x=none)(d:Dx x=some u)(h:Q u s)
  (e:x≠"__name__")(f:(x==("__debug__":Str))=false):wpAny (model X.prog X.w) X.A (eval (.Name x pos) X.env) Q E s:=by
 obtain⟨k,g,i⟩:=I.mod.blt;exact Ob I.ok.kind b (Calls.loadGlobal_builtin (by rw[I.ok.glob];exact I.mod.glob.keeps I.bk) c (by rw[I.ok.blt];exact g.keeps I.bk) ((i x e).trans d) h) f
def Jls(a:Gl X x)(b:X.mg x=some u)(r:RelV v u)(c:(x==("__debug__":Str))=false):PE X (.Name x pos) (tC v):=
 λ_ _ _ H _ I h=>Jf8 I a b ⟨v,H,I,r,h⟩ c
def Jtw(a:Gl X x)(b:X.mg x=none)(c:Dx x=some u)(r:RelV v u)(d:x≠"__name__")(e:(x==("__debug__":Str))=false):PE X (.Name x pos) (tC v):=
 λ_ _ _ H _ I h=>Jck I a b c ⟨v,H,I,r,h⟩ d e
variable {a b:Expr} {ta tb:TE} {pos:Pos}
variable {tA tB':TT} {rest:List Expr}
def Wcv(t u:TT):TT:=λd H Q=>t d H λc H1=>if c=true then u d H1 Q else Q false H1
def tOr(t u:TT):TT:=λd H Q=>t d H λc H1=>if c=true then Q true H1 else u d H1 Q
def Wcl(t:TT):TT:=λd H Q=>t d H λc H1=>Q (!c) H1
theorem Js7(f:PT X a tA):PW X (.BoolOp .And [a] pos) tA:=by
 intro i d s g H Q I h;refine isTrue_and (thn (f d s g H Q I h) λc j e=>?_);cases c with
 |true=>exact isTrue_and_nil e
 |false=>exact e
theorem Jwp(f:PT X a tA):PW X (.BoolOp .Or [a] pos) tA:=by
 intro i d s g H Q I h;refine isTrue_or (thn (f d s g H Q I h) λc j e=>?_);cases c with
 |false=>exact isTrue_or_nil e
 |true=>exact e
theorem Jwq(i:PT X a tA)(j:PW X (.BoolOp .And (b::rest) pos) tB'):PW X (.BoolOp .And (a::b::rest) pos) (Wcv tA tB'):=by
 intro k d s e H Q I h;refine isTrue_and (thn (i d s e H _ I h) λc l ⟨H1,f,g⟩=>?_);cases c with
 |true=>exact j k d l e H1 Q f g
 |false=>exact⟨H1,f,g⟩
theorem Jzu(i:PT X a tA)(j:PW X (.BoolOp .Or (b::rest) pos) tB'):PW X (.BoolOp .Or (a::b::rest) pos) (tOr tA tB'):=by
 intro k d s e H Q I h;refine isTrue_or (thn (i d s e H _ I h) λc l ⟨H1,f,g⟩=>?_);cases c with
 |true=>exact⟨H1,f,g⟩
 |false=>exact j k d l e H1 Q f g
def Jwr(e:PT X a tA):PT X (.UnaryOp .Not a pos) (Wcl tA):=by
 intro d s f H Q I h;exact isTrue_not (e d s f H (λc H1=>Q (!c) H1) I h)
def Wbf(ta tb:TE):TE:=λd H Q=>ta d H λx H1=>∃c,x=.bl c/\if c=true then tb d H1 Q else Q (.bl false) H1
def Wck(ta tb:TE):TE:=λd H Q=>ta d H λx H1=>∃c,x=.bl c/\if c=true then Q (.bl true) H1 else tb d H1 Q
def Jw4{op}(h:PE X a t):PE X (.BoolOp op [a] pos) t:=λc s d H Q I e=>BoolOp_one (h c s d H Q I e)
theorem Jxa(i:PE X a ta)(j:PE X (.BoolOp .And (b::rest) pos) tb):PE X (.BoolOp .And (a::b::rest) pos) (Wbf ta tb):=by
 intro d s f H Q I h;refine BoolOp_and (thn (i d s f H _ I h) λv k ⟨x,H1,g,l,e⟩=>?_);obtain⟨c,rfl,e⟩:=e;cases l;refine D9 ?_;cases c with
 |true=>exact j d k f H1 Q g e
 |false=>exact⟨.bl false,H1,g,rfl,e⟩
theorem Jzy(i:PE X a ta)(j:PE X (.BoolOp .Or (b::rest) pos) tb):PE X (.BoolOp .Or (a::b::rest) pos) (Wck ta tb):=by
 intro d s f H Q I h;refine BoolOp_or (thn (i d s f H _ I h) λv k ⟨x,H1,g,l,e⟩=>?_);obtain⟨c,rfl,e⟩:=e;cases l;refine D9 ?_;cases c with
 |false=>exact j d k f H1 Q g e
 |true=>exact⟨.bl true,H1,g,rfl,e⟩
def tIf(t:TT)(ta tb:TE):TE:=λd H Q=>t d H λc H1=>if c=true then ta d H1 Q else tb d H1 Q
theorem Jom{c:Expr}(k:PT X c tA)(l:PE X a ta)(m:PE X b tb):PE X (.IfExp c a b pos) (tIf tA ta tb):=by
 intro e s f H Q I h;refine wpAny_IfExp (thn (k e s f H _ I h) λd g ⟨H1,i,j⟩=>?_);cases d with
 |true=>exact l e g f H1 Q i j
 |false=>exact m e g f H1 Q i j
end
def SqL(K:Ag)(H:Hp)(a:Addr)(xs:List V):Prop:=
 Rd H a (.lst xs)\/
  ∃(o:Obj) (b:Array Value) (n:Nat),K.lookup a=some o/\o.cls=.type "list"/\o.dict=none/\o.data=.seq b n/\b.size<=sizeLine/\Vals xs b.toList
def SqT(K:Ag)(H:Hp)(a:Addr)(xs:List V):Prop:=
 H a=some (.tup xs)\/
  ∃(o:Obj) (b:Array Value) (n:Nat),K.lookup a=some o/\o.cls=.type "tuple"/\o.data=.seq b n/\b.size<=sizeLine/\Vals xs b.toList
noncomputable def Wd8:Value->Option V
 |.none=>some .non
 |.bool b=>some (.bl b)
 |.int i _=>some (.int i)
 |.str x _=>some (.str x)
 |.bytes b _=>some (.byt b)
 |.float b _=>some (.flt b)
 |.ref a=>some (.ref a)
 |.type n=>some (.ty n)
 |_=>none
theorem RelV.abs(r:RelV x u):Wd8 u=some x:=by
 cases x with
 |non=>cases r;rfl
 |bl _=>cases r;rfl
 |int _=>obtain⟨t,rfl⟩:=r;rfl
 |str _=>obtain⟨t,rfl⟩:=r;rfl
 |byt _=>obtain⟨t,rfl⟩:=r;rfl
 |flt _=>obtain⟨t,rfl⟩:=r;rfl
 |ref _=>cases r;rfl
 |ty _=>cases r;rfl
def RelV.inj(r:RelV x u)(q:RelV y u):x=y:=Bh (r.abs.symm.trans q.abs)
theorem Vals.inj(h:Vals xs us)(g:Vals ys us):xs=ys:=by
 induction h generalizing ys with
 |nil=>cases g;rfl
 |cons r t a=>cases g with|cons b c=>rw[r.inj b,a c]
section
variable {X:Cx} {pins:List (Addr×Obj)} {σ:St} {H:Hp} {s:Shared} {a:Addr} {xs ys:List V}
def SqL.of{K:Ag}(h:H a=some (.lst xs)):SqL K H a xs:=.inl (.inl h)
def SqT.of{K:Ag}(h:H a=some (.tup xs)):SqT K H a xs:=.inl h
inductive InvL (s:Shared) (a:Addr) (xs:List V):Prop
 |mk (its:List Value) (_:Vals xs its) (_:PlainL s.heap a its.toArray) (_:xs.length<=sizeLine):InvL s a xs
def Inv.list(I:Inv X pins σ H s)(h:SqL X.K H a xs):InvL s a xs:=by
 rcases h with h|⟨o,b,n,d,f,g,j,k,r⟩
 .obtain⟨z,b,n,r,e⟩:=h.ok I.hok;exact⟨b,r,⟨_,n,e,rfl,rfl,rfl⟩,z⟩
 .refine⟨b.toList,r,⟨o,n,I.kIn a o d,f,g,by simpa using j⟩,?_⟩;have e:=r.length;simp only[Bs]at e
  lia
inductive InvT (s:Shared) (a:Addr) (xs:List V):Prop
 |mk (its:List Value) (_:Vals xs its) (_:IsTup s.heap a its.toArray) (_:xs.length<=sizeLine):InvT s a xs
def Inv.tuple(I:Inv X pins σ H s)(h:SqT X.K H a xs):InvT s a xs:=by
 rcases h with h|⟨o,b,n,d,f,g,j,r⟩
 .obtain⟨z,b,r,p⟩:=(Rd.of h).ok I.hok;exact⟨b,r,p,z⟩
 .refine⟨b.toList,r,⟨o,I.kIn a o d,f,n,by simpa using g⟩,?_⟩;have e:=r.length;simp only[Bs]at e
  lia
def Inv.list_inj(I:Inv X pins σ H s)(h:SqL X.K H a xs)(h':SqL X.K H a ys):xs=ys:=by
 obtain⟨f,r,⟨o,n,e,_,_,d⟩,_⟩:=I.list h;obtain⟨b,k,⟨t,y,g,_,_,j⟩,_⟩:=I.list h';rw[e]at g;cases g;rw[d]at j;injection j with l _;have:f=b:=by simpa using congrArg Vc l
 subst this;exact r.inj k
def Inv.tuple_inj(I:Inv X pins σ H s)(h:SqT X.K H a xs)(h':SqT X.K H a ys):xs=ys:=by
 obtain⟨f,r,⟨o,e,_,n,d⟩,_⟩:=I.tuple h;obtain⟨b,k,⟨t,g,_,y,j⟩,_⟩:=I.tuple h';rw[e]at g;cases g;rw[d]at j;injection j with l _;have:f=b:=by simpa using congrArg Vc l
 subst this;exact r.inj k
end
noncomputable abbrev Cx.wish(X:Cx)(E:Value->Shared->Prop):Cx:={X with xe:=E}
abbrev Cx.nox(X:Cx):Cx:=X.wish λ_ _=>False
def Cx.Ok.wish{X:Cx}(a:X.Ok)(E:Value->Shared->Prop):(X.wish E).Ok:=
 ⟨a.mod,a.kind,a.glob,a.blt,a.above,a.inj,a.has,a.cab,a.hd,a.frames,a.stk,a.exf,a.bs,a.bsz,a.noex,a.exfs,a.funs,a.frf⟩
def Cx.Ok.unwish{X:Cx}{E:Value->Shared->Prop}(a:(X.wish E).Ok):X.Ok:=
 ⟨a.mod,a.kind,a.glob,a.blt,a.above,a.inj,a.has,a.cab,a.hd,a.frames,a.stk,a.exf,a.bs,a.bsz,a.noex,a.exfs,a.funs,a.frf⟩
section
variable {X:Cx} {pins:List (Addr×Obj)} {σ:St} {H:Hp} {s:Shared} {E:Value->Shared->Prop}
def Inv.wish(I:Inv X pins σ H s)(E:Value->Shared->Prop):Inv (X.wish E) pins σ H s:=⟨I.ok.wish E,I.os,I.bare,I.base,I.loc,I.cell,I.free,I.freeC,I.pin,I.hok,I.len⟩
def Inv.unwish(I:Inv (X.wish E) pins σ H s):Inv X pins σ H s:=⟨I.ok.unwish,I.os,I.bare,I.base,I.loc,I.cell,I.free,I.freeC,I.pin,I.hok,I.len⟩
theorem SP.unwish(h:SP (X.wish E) pins D f c):SP X pins D f c:=by
 cases f with
 |next=>obtain⟨a,b,I,q⟩:=h;exact⟨a,b,I.unwish,q⟩
 |brk=>obtain⟨a,b,I,q⟩:=h;exact⟨a,b,I.unwish,q⟩
 |cont=>obtain⟨a,b,I,q⟩:=h;exact⟨a,b,I.unwish,q⟩
 |ret u=>obtain⟨v,a,b,I,r,q⟩:=h;exact⟨v,a,b,I.unwish,r,q⟩
def PSs.nox{st:List Stmt}{t:TS}(h:PSs X.nox st t):PSs X st t:=λpins s σ H D I a=>
 Ce (h pins s σ H D (I.wish _) a) (λ_ _ q=>q.unwish) λ_ _ z=>E1 z
end
section
variable {X:Cx} {st:Stmt} {rest:List Stmt} {t u:TS} {e:Expr} {te:TE} {pos:Pos}
def Wba:TS:=λD a H=>D.nx a H
def Wch(t u:TS):TS:=λD a H=>t {D with nx:=u D} a H
def Jte:PSs X [] Wba:=λ_ _ a H _ I h=>wpAny_execs_nil ⟨a,H,I,h⟩
theorem Jod(c:PS X st t)(d:PSs X rest u):PSs X (st::rest) (Wch t u):=by
 intro a s g H D I h;refine wpAny_execs_cons (thn (c a s g H {D with nx:=u D} I h) λf i q=>?_);cases f with
 |next=>
  obtain⟨b,j,k,q⟩:=q;exact d a i b j D k q
 |ret v=>exact q
 |brk=>exact q
 |cont=>exact q
def Inv.quiet(I:Inv X pins σ H s):interactive X.env=false:=by simp[interactive,I.ok.kind]
def Wbd(te:TE):TS:=λD a H=>te a H λ_ H1=>D.nx a H1
def Jtf(c:PE X e te)(d:Hj e none pos.line X.env=pure false):PS X (.Expr e pos) (Wbd te):=by
 intro a s b H D I h;exact wpAny_Expr_any (thn (c a s b H _ I h) λv i ⟨x,H1,f,j,g⟩=>⟨b,H1,f,g⟩) I.quiet d
def Wci(te:TE):TS:=λD a H=>te a H D.rt
def Jwt(c:PE X e te):PS X (.Return (some e) pos) (Wci te):=by
 intro a s b H D I h;exact wpAny_Return_some (thn (c a s b H _ I h) λv i ⟨x,H1,d,f,g⟩=>⟨x,b,H1,d,f,g⟩)
def Wcp(c:TT)(t u:TS):TS:=λD a H=>c a H λb H1=>if b=true then t D a H1 else u D a H1
theorem Jzw{c:Expr}{a b:List Stmt}{tc:TT}(l:PT X c tc)(m:PSs X a t)(n:PSs X b u):PS X (.If c a b pos) (Wcp tc t u):=by
 intro f s g H D I h;refine wpAny_If (thn (l f s g H _ I h) λd i ⟨H1,j,k⟩=>?_);cases d with
 |true=>exact m f i g H1 D j k
 |false=>exact n f i g H1 D j k
end
abbrev TG:=V->St->Hp->(St->Hp->Prop)->Prop
abbrev TGs:=List V->St->Hp->(St->Hp->Prop)->Prop
def PG(X:Cx)(a:Expr)(t:TG):Prop:=
 ∀(b:List (Addr×Obj)) (s:Shared) (d:St) (H:Hp) (v:V) (u:Value) (Q:St->Hp->Prop),Inv X b d H s->RelV v u->t v d H Q->
  wpAny (model X.prog X.w) X.A (assign a X.env u) (λ_ f=>∃c e,Inv X b c e f/\Q c e) X.xe s
def PGs(X:Cx)(g:List Expr)(t:TGs):Prop:=
 ∀(a:List (Addr×Obj)) (s:Shared) (c:St) (H:Hp) (d:List V) (e:List Value) (Q:St->Hp->Prop),Inv X a c H s->Vals d e->t d c H Q->
  wpAny (model X.prog X.w) X.A (assignInOrder ((Gq g X.env).map (·.2)) e) (λ_ h=>∃b f,Inv X a b f h/\Q b f) X.xe s
abbrev Z4:=V->V->V->Hp->(Hp->Prop)->Prop
def Wa1(X:Cx)(t:Z4):Prop:=
 ∀(a:List (Addr×Obj)) (s:Shared) (b:St) (H:Hp) (o i v:V) (c d u:Value) (Q:Hp->Prop),Inv X a b H s->RelV o c->RelV i d->RelV v u->t o i v H Q->
  wpAny (model X.prog X.w) X.A (Vi c d u) (λ_ f=>∃e,Inv X a b e f/\Q e) X.xe s
abbrev TIp:=V->V->Hp->VK->Prop
def PIp(X:Cx)(op:Operator)(t:TIp):Prop:=
 ∀(a:List (Addr×Obj)) (s:Shared) (b:St) (H:Hp) (x y:V) (v u:Value) (Q:VK),Inv X a b H s->RelV x v->RelV y u->t x y H Q->
  wpAny (model X.prog X.w) X.A (inplaceOp op v u) (EP X a b Q) X.xe s
section
variable {X:Cx} {pos:Pos}
def Yq(i:Nat):TG:=λv a H Q=>Q (a.set i (some v)) H
def Jto(b:X.N.Nodup)(c:X.N[i]? =some x)(d:Loc X.env.scope x)(e:X.fn x=true\/X.env.scope.names.lookup x=some .local):PG X (.Name x pos) (Yq i):=by
 intro a s g H v u Q I r h;exact Vg (Jfz I b c d r (λj f=>⟨_,H,f,h⟩) e)
def Wd1:TGs:=λa b H Q=>a=[]/\Q b H
def Wb3(t:TG)(u:TGs):TGs:=λb c H Q=>∃v r,b=v::r/\t v c H λa d=>u r a d Q
def Jtn:PGs X [] Wd1:=by
 intro a s b H c d Q I r h;obtain⟨e,h⟩:=h;subst e;cases r;exact assignInOrder_nil ⟨b,H,I,h⟩
theorem Joi{e:Expr}{es:List Expr}{t:TG}{u:TGs}(c:PG X e t)(d:PGs X es u)
  (f:(Gq (e::es) X.env).map (·.2)=assign e X.env::(Gq es X.env).map (·.2)):PGs X (e::es) (Wb3 t u):=by
 intro a s g H n o Q I r h;obtain⟨v,p,i,h⟩:=h;subst i;cases r with
 |cons r j=>
  rw[f];refine assignInOrder_cons (thn (c a s g H _ _ _ I r h) λ_ k ⟨b,H1,l,m⟩=>?_);exact d a k b H1 _ _ Q l j m
def Wdz(K:Ag)(n:Nat)(t:TGs):TG:=λv c H Q=>∃a b,v=.ref a/\SqT K H a b/\b.length=n/\t b c H Q
def Jwz(j:X.calm=true)(h:PGs X es t)
  (l:(Gq es X.env).length=n)(d:(Gq es X.env).findIdx? (·.1)=none):PG X (.Tuple es k pos) (Wdz X.K n t):=by
 intro c s g H v u Q I r f;obtain⟨a,m,p,w,x,f⟩:=f;subst p;cases r;obtain⟨y,i,z,J⟩:=I.tuple w;refine assign_Tuple_tuple (I.ok.hd j) z (by simp[l,<-x,i.length]) d λA C=>?_;have E:Inv X c g H {s with heap:=A}:=I.kept (t':=s.toks) λb o e=>C b o (Ay (An e)) e;exact h c _ g H m _ Q E (by simpa using i) f
def Wd0(b c:TE)(t:Z4):TG:=λv a H Q=>b a H λo H1=>c a H1 λi H2=>t o i v H2 λd=>Q a d
def Jw0{o i:Expr}{e f:TE}{t:Z4}(g:PE X o e)(j:PE X i f)(k:Wa1 X t)
  (l:∀v,assign (.Subscript o i pos) X.env v=(do
   let b<-holding [v] (eval o X.env)
   let c<-holding [v,b] (eval i X.env)
   N2 pos
   holding [v,b,c] (Vi b c v)
   release [v,b,c] [])):PG X (.Subscript o i pos) (Wd0 e f t):=by
 intro a s d H v u Q I r h;rw[l];refine Aa (Bj (thn (g a s d H _ I h) λb m ⟨x,H1,n,p,w⟩=>?_));refine Aa (Bj (thn (j a m d H1 _ n w) λc z ⟨y,H2,A,C,E⟩=>?_));refine Aa (Nc (Aa (Bj (thn (k a z d H2 x y v b c u _ A p C r E) λ_ U ⟨J,L,N⟩=>?_))));exact wpAny_release ⟨d,J,L,N⟩
def Y8(te:TE)(g:TG):TS:=λD a H=>te a H λx H1=>g x a H1 D.nx
def Jwx{tg e:Expr}{te:TE}{g:TG}(c:PE X e te)(d:PG X tg g)(f:swapsWithSole [tg] e pos.line X.env=pure false)(i:swappedStores [tg] e X.env=pure none)
  (j:(Gq [tg] X.env).map (·.2)=[assign tg X.env]):PS X (.Assign [tg] e pos) (Y8 te g):=by
 intro a s b H D I h;refine wpAny_Assign_stores (thn (c a s b H _ I h) λv k ⟨x,H1,l,m,n⟩=>?_) f i;rw[j];exact thn (d a k b H1 x v _ l m n) λ_ o q=>q
def Jws{i:Nat}{x:Str}{e:Expr}{te:TE}{a:Pos}(c:X.N.Nodup)(d:X.N[i]? =some x)(f:Loc X.env.scope x)(g:PE X e te)(j:Hj e (some (.Name x a)) pos.line X.env=pure false)(k:X.fn x=true\/X.env.scope.names.lookup x=some .local):
  PS X (.Assign [.Name x a] e pos) (Y8 te (Yq i)):=by
 intro b s l H D I h;refine wpAny_Assign_Name (thn (g b s l H _ I h) λv r ⟨y,H1,m,n,o⟩=>?_) j;exact Jfz m c d f n (λt p=>⟨_,H1,p,o⟩) k
def Wcu(i:Nat)(te:TE)(b:TIp):TS:=λD a H=>∃x,a[i]? =some (some x)/\te a H λy H1=>b x y H1 λz H2=>D.nx (a.set i (some z)) H2
def Jww{i:Nat}{x:Str}{e:Expr}{te:TE}{op:Operator}{o:TIp}{d:Pos}(A:X.N.Nodup)(p:X.N[i]? =some x)(j:Loc X.env.scope x)(C:PE X e te)(E:PIp X op o)(J:X.fn x=true\/X.env.scope.names.lookup x=some .local):
  PS X (.AugAssign (.Name x d) op e pos) (Wcu i te o):=by
 intro a s t H D I h;obtain⟨v,L,h⟩:=h;obtain⟨m,N,Q⟩:=I.loc;have n:Vis X.env.scope x:=by rcases j with k|k;exact .inl k;exact .inr (.inl k)
 obtain⟨u,r,l⟩:=Q i x v p L n;refine wpAny_AugAssign_Name ?_;have go:wpAny (model X.prog X.w) X.A (eval e X.env) (λw f=>wpAny (model X.prog X.w) X.A (inplaceOp op u w) (λr g=>wpAny (model X.prog X.w) X.A (storeName X.env x r) (λ_=>SP X a D .next) X.xe g) X.xe f) X.xe s:=by
  refine thn (C a s t H _ I h) λw U ⟨y,H1,Y,r1,q1⟩=>?_;refine thn (E a U t H1 v y u w _ Y r r1 q1) λz s2 ⟨zv,H2,I2,r2,q2⟩=>?_;exact Jfz I2 A p j r2 (λs3 I3=>⟨_,H2,I3,q2⟩) J
 rcases l with⟨hk,hm⟩|⟨hk,c,hc,b⟩
 .exact Sx I.ok.kind hk N hm go
 .rcases hk with hk|hk
  .exact Tt I.ok.kind hk hc b go
  .rcases j with k|k
   .have:X.env.scope.names.lookup x=some .free:=hk;rw[k]at this;cases this
   .have:X.env.scope.names.lookup x=some .free:=hk;rw[k]at this;cases this
def ipI(f:Int->Int->Int):TIp:=λx y H Q=>∃i j,x=.int i/\y=.int j/\Q (.int (f i j)) H
def Jx5:PIp X .Add (ipI λi j=>i+j):=by
 intro a s f H x y v u Q I b c h;obtain⟨i,j,d,e,q⟩:=h;subst d;subst e;obtain⟨t,rfl⟩:=b;obtain⟨g,rfl⟩:=c;exact iadd_int ⟨.int _,H,I.tok _,⟨_,rfl⟩,q⟩
end
section
variable {X:Cx} {pos:Pos}
end
structure It where
 go:Nat->Hp->Prop
 yld:Nat->Hp->V->Hp->Prop
 stop:Nat->Hp->Prop
def Xf(X:Cx)(a:List (Addr×Obj))(H:Hp)(b:Addr):Prop:=
 H b=none/\b≠X.env.locals/\b∉X.fs/\(b∈X.ex\/X.s₀.heap.objs.size<=b)/\(∀x c,X.env.cells.lookup x=some c->c≠b)/\∀p∈X.pn++a,p.1≠b
def Inv.fpOk{s:Shared}(I:Inv X pins σ H s)(a:s.heap.objs.size<=b)(d:H' b=none):Xf X pins H' b:=by
 refine⟨d,Cy (Bl I.lt a),I.nofs a,.inr (Bu I.sz a),λx c e z=>?_,λp hp z=>?_⟩
 .obtain⟨v,q⟩:=I.cell x c e;exact absurd (Bl q.lt (by rw[z];exact a)) (Ey _)
 .exact absurd (Bl (An (I.pin p hp).1) (by rw[z];exact a)) (Ey _)
structure Turn(P:Program)(w:World)(K:Ag)(tg:Expr)(J:It)(fp:List Addr)(it:Addr)(tn:Nat->Heap->Prop):Prop where
 mem:it∈fp
 obj:∀i h,tn i h->∀b∈fp,∃o,h.get? b=some o/\∀v,o.data≠ .cell v
 keep:∀i h h',tn i h->(∀b∈fp,∀o,h.get? b=some o->h'.get? b=some o)->tn i h'
 item:∀(X:Cx),X.prog=P->X.w=w->X.K=K->X.calm=true->∀(i:Nat) (pins:List (Addr×Obj)) (s:Shared) (σ:St) (H:Hp) (E:Value->Shared->Prop),Inv X pins σ H s->(∀b∈fp,Xf X pins H b)->tn i s.heap->J.go i H->
  wpAny (model P w) X.A (pyNext (.ref it)) (λr s1=>∃u,r=some u/\
   wpAny (model P w) X.A (Js tg (.ref it) u) (λ_ s2=>∃x H',Inv X pins σ H' s2/\RelV x u/\J.yld i H x H'/\tn (i+1) s2.heap/\∀b∈fp,H' b=none) E s1) E s
 done:∀(X:Cx),X.prog=P->X.w=w->X.K=K->X.calm=true->∀(i:Nat) (pins:List (Addr×Obj)) (s:Shared) (σ:St) (H:Hp) (E:Value->Shared->Prop),Inv X pins σ H s->(∀b∈fp,Xf X pins H b)->tn i s.heap->J.stop i H->
  wpAny (model P w) X.A (pyNext (.ref it)) (λr s1=>r=none/\Inv X pins σ H s1) E s
 self:∀(A:Bi) (i:Nat) (s:Shared) (Q:Value->Shared->Prop) (E:Value->Shared->Prop),tn i s.heap->Q (.ref it) s->wpAny (model P w) A (pyIter (.ref it)) Q E s
abbrev TI:=St->Hp->(It->Hp->Prop)->Prop
def PIE(X:Cx)(a:List (Addr×Obj))(i:St)(tg:Expr)(R:It->Hp->Prop)(c:Value)(e:Shared):Prop:=
 ∃(f:Addr) (g:List Addr) (h:Nat->Heap->Prop) (J:It) (d:Hp),c=.ref f/\Inv X a i d e/\Turn X.prog X.w X.K tg J g f h/\h 0 e.heap/\(∀b∈g,Xf X a d b)/\R J d
def PI(X:Cx)(tg b:Expr)(wi:TI):Prop:=
 ∀(a:List (Addr×Obj)) (s:Shared) (c:St) (H:Hp) (R:It->Hp->Prop),Inv X a c H s->wi c H R->
  wpAny (model X.prog X.w) X.A (eval b X.env) (λv d=>wpAny (model X.prog X.w) X.A (pyIter v) (PIE X a c tg R) X.xe d) X.xe s
def Jui{E:Value->Shared->Prop}{s:Shared}{o:Obj}{Q:Unit->Shared->Prop}(b:s.heap.get? it=some o)(c:o.cls=.type n)(d:o.data=.fields vs)
  (e:["enumerate","zip","dict_itemiterator","dict_reverseitemiterator","odict_iterator","itertools.zip_longest","itertools.pairwise"].contains n=false)(a:Q () s):wpAny M A (Js tg (.ref it) u) Q E s:=by
 unfold Js;cases tg<;>first
  |exact Ab a
  |(cases u<;>first
    |exact Ab a
    |(refine Aa (Nm b ?_)
      rw[c,d];show wpAny M A (if(["enumerate","zip","dict_itemiterator","dict_reverseitemiterator","odict_iterator","itertools.zip_longest","itertools.pairwise"].contains n&&vs[0]? ==some (rawInt _))=true then _ else _) Q E s;rw[if_neg (by intro h;rw[e,Bool.false_and]at h;cases h)];exact Ab a))
noncomputable def Itl(K:Ag)(a:Addr):It:=
 ⟨λi H=>∃b x,SqL K H a b/\b[i]? =some x,λi H x c=>c=H/\∀b,SqL K H a b->b[i]? =some x,λi H=>∃b,SqL K H a b/\b.length<=i⟩
noncomputable def Itt(K:Ag)(a:Addr):It:=
 ⟨λi H=>∃b x,SqT K H a b/\b[i]? =some x,λi H x c=>c=H/\∀b,SqT K H a b->b[i]? =some x,λi H=>∃b,SqT K H a b/\b.length<=i⟩
noncomputable def Itr(lo:Int)(n:Nat):It:=⟨λi _=>i<n,λi H x a=>a=H/\x=.int (lo+i),λi _=>n<=i⟩
def Jk5{P:Program}{w:World}{K:Ag}{tg:Expr}(a it:Addr):Turn P w K tg (Itl K a) [it] it (λi h=>h.IsListIter it a i)where
 mem:=by simp
 obj:=λi h st b g=>by
  have e:b=it:=by simpa using g
  subst e;obtain⟨o,e,c,d⟩:=st;exact⟨o,e,λv z=>by rw[d]at z;cases z⟩
 keep:=λi h l st k=>st.at λo e=>k it (by simp) o e
 item:=by
  intro X r t y hc i f s σ H E I m st A;subst r t y;obtain⟨xs,x,n,C⟩:=A;obtain⟨J,L,p,hz⟩:=I.list n;obtain⟨u,hu,ru⟩:=L.get C;obtain⟨N,Q,f2,U,Y,f5⟩:=m it (by simp);refine Rz st p.isList (x:=u) (by simpa using hu) λl j sb=>?_;have I1:Inv X f σ H {s with heap:=l}:=I.turned (t':=s.toks) (λb o g e=>(sb.2 b g).trans e) N Q U Y f5;obtain⟨o,e,c,d⟩:=id j;exact⟨u,rfl,Jui (s:={s with heap:=l}) e c d (by decide) ⟨x,H,I1,ru,⟨rfl,λys hy=>by rw[I.list_inj hy n];exact C⟩,j,λb g=>(m b g).1⟩⟩
 done:=by
  intro X r t y hc i f s σ H E I m st A;subst r t y;obtain⟨xs,n,C⟩:=A;obtain⟨J,L,p,hz⟩:=I.list n;obtain⟨N,Q,f2,U,Y,f5⟩:=m it (by simp);have hl:=L.length;exact Sj (I.ok.hd hc) st p.isList (by simp;lia) λl eb=>⟨rfl,I.turned (t':=s.toks) (λb o g e=>eb b o g e) N Q U Y f5⟩
 self:=λ_ _ _ _ _ st h=>wpAny_pyIter_listiter st h
def Jj4{P:Program}{w:World}{K:Ag}{tg:Expr}(a it:Addr):Turn P w K tg (Itt K a) [it] it (λi h=>h.IsTupleIter it a i)where
 mem:=by simp
 obj:=λi h st b g=>by
  have e:b=it:=by simpa using g
  subst e;obtain⟨o,e,c,d⟩:=st;exact⟨o,e,λv z=>by rw[d]at z;cases z⟩
 keep:=λi h m st k=>st.at λo e=>k it (by simp) o e
 item:=by
  intro X t y A hc i f s σ H E I n st C;subst t y A;obtain⟨xs,x,r,J⟩:=C;obtain⟨j,L,p,hz⟩:=I.tuple r;obtain⟨u,hu,ru⟩:=L.get J;obtain⟨N,Q,f2,U,Y,f5⟩:=n it (by simp);refine wpAny_pyNext_tuple_item st (show s.heap.IsTuple a j.toArray from p) (x:=u) (by simpa using hu) λm l sb=>?_;have I1:Inv X f σ H {s with heap:=m}:=I.turned (t':=s.toks) (λb o g e=>(sb.2 b g).trans e) N Q U Y f5;obtain⟨o,e,c,d⟩:=id l;exact⟨u,rfl,Jui (s:={s with heap:=m}) e c d (by decide) ⟨x,H,I1,ru,⟨rfl,λys hy=>by rw[I.tuple_inj hy r];exact J⟩,l,λb g=>(n b g).1⟩⟩
 done:=by
  intro X t y A hc i f s σ H E I n st C;subst t y A;obtain⟨xs,r,J⟩:=C;obtain⟨j,L,p,hz⟩:=I.tuple r;obtain⟨N,Q,f2,U,Y,f5⟩:=n it (by simp);have hl:=L.length;exact wpAny_pyNext_tuple_end (I.ok.hd hc) st (show s.heap.IsTuple a j.toArray from p) (by simp;lia) λm eb=>⟨rfl,I.turned (t':=s.toks) (λb o g e=>eb b o g e) N Q U Y f5⟩
 self:=λ_ _ _ _ _ st h=>wpAny_pyIter_tupleiter st h
def Jj5{P:Program}{w:World}{K:Ag}{tg:Expr}(it:Addr)(lo:Int)(n:Nat):Turn P w K tg (Itr lo n) [it] it (λi h=>IsRangeIter h it (lo+(i:Nat)*1) ((n:Int)-(i:Nat)) 1)where
 mem:=by simp
 obj:=λi h st b c=>by
  have e:b=it:=by simpa using c
  subst e;exact⟨_,st,λv z=>by
   have L:Data.fields _=Data.cell v:=z;cases L⟩
 keep:=λi h f st k=>k it (by simp) _ st
 item:=by
  intro X j l m p i a s J H E I g st r;subst j l m;obtain⟨u,x,N,y,A,C⟩:=g it (by simp);have W:=Walks.range (prog:=X.prog) (w:=X.w) (I.ok.hd p) it lo 1 n;refine W.item i s _ _ r st λv f tk Q d U=>?_;obtain⟨t,rfl⟩:=Q;have Y:Inv X a J H {s with heap:=f,toks:=tk}:=I.turned (λb o c e=>U b o (by simpa using c) e) u x y A C;refine⟨_,rfl,Jui (s:={s with heap:=f,toks:=tk}) (n:="range_iterator") d rfl rfl (by decide) ⟨.int (lo+i),H,Y,⟨t,?_⟩,⟨rfl,rfl⟩,d,λb c=>(g b c).1⟩⟩;rw[Int.mul_one]
 done:=by
  intro X j l m p i a s J H E I g st r;subst j l m;obtain⟨u,x,N,y,A,C⟩:=g it (by simp);exact wpAny_pyNext_range_end (I.ok.hd p) st (by have:n<=i:=r;lia) λf eb=>⟨rfl,I.turned (t':=s.toks) (λb o c e=>eb b o c e) u x y A C⟩
 self:=λ_ _ _ _ _ st h=>wpAny_pyIter_rangeiter st h
section
variable {X:Cx} {tg:Expr}
def Joa{c:List (Addr×Obj)}{d:St}{H:Hp}{s:Shared}{R:It->Hp->Prop}{E:Value->Shared->Prop}{lo a:Int}{t u v:Tok}{tk:Nat}(I:Inv X c d H s)(g: -(2^62)<=lo)(h:lo<2^62)(i: -(2^62)<=a)(j:a<2^62)
  (q:R (Itr lo (a-lo).toNat) H):wpAny (model X.prog X.w) X.A (pyIter (.ref s.heap.objs.size)) (PIE X c d tg R) E {s with heap:=s.heap.push {cls:=.type "range",data:=.fields #[.int lo t,.int a u,.int 1 v]},toks:=tk}:=by
 refine wpAny_pyIter_range (IsRange.new ..) (small_one g h i j) ?_;have f:Inv X c d H {s with heap:=s.heap.push {cls:=.type "range",data:=.fields #[.int lo t,.int a u,.int 1 v]},toks:=tk}:=I.kept λb o e=>Ad _ e;refine⟨(s.heap.push {cls:=.type "range",data:=.fields #[.int lo t,.int a u,.int 1 v]}).objs.size,[(s.heap.push {cls:=.type "range",data:=.fields #[.int lo t,.int a u,.int 1 v]}).objs.size],_,_,H,rfl,
  f.kept (t':=tk) λb o e=>Ad _ e,Jj5 _ lo (a-lo).toNat,?_,λb k=>?_,q⟩
 .have l:lo+((0:Nat):Int)*1=lo:=by simp
  have m:(((a-lo).toNat:Nat):Int)-((0:Nat):Int)=Builtin.Range.rangeSize lo a 1:=by rw[rangeSize_one];split<;>lia
  show IsRangeIter _ _ (lo+((0:Nat):Int)*1) ((((a-lo).toNat:Nat):Int)-((0:Nat):Int)) 1;rw[l,m];exact Ak _ rfl
 .have e:b=(s.heap.push {cls:=.type "range",data:=.fields #[.int lo t,.int a u,.int 1 v]}).objs.size:=by simpa using k
  subst e;exact f.fpOk (Ai _) (f.hok.fresh (Ai _))
def J0g(a:TA):TI:=λb H R=>a b H λc H1=>∃j:Int,c=[.int j]/\ -(2^62)<=j/\j<2^62/\R (Itr 0 j.toNat) H1
theorem Jlq(d:Gl X "range")(f:X.mg "range"=none)(g:PA X [a] i)(k:B4 [a] X.env=[(false,eval a X.env)]):PI X tg (.Call (.Name "range" p) [a] [] pos) (J0g i):=by
 intro b s l H R I h;refine To (Jck I d f boot_range (Dl (thn (g pos b s l H _ I h) λv w ⟨x,H1,m,n,c⟩=>?_) k rfl) (by decide) (by decide));obtain⟨j,e,c,o,q⟩:=c;subst e;cases n with
 |cons r u=>
  cases u;obtain⟨t,rfl⟩:=r;exact call_range_1 (Joa m (by lia) (by lia) c o (by simpa using q))
def Wcr(wi:TI)(g:TG)(f:TS):TS:=λD a H=>wi a H λJ H1=>∃W:Nat->Nat->St->Hp->Prop,(∃m,W 0 m a H1)/\∀i m a H,W i m a H->
 (J.stop i H/\D.nx a H)\/(J.go i H/\∃N:St->Hp->Prop,(∀b c,N b c->∃e,e<m/\W (i+1) e b c)/\∀x c,J.yld i H x c->g x a c λd H2=>f {D with nx:=N,ct:=N,bk:=D.nx} d H2)
noncomputable def Xp(fp:List Addr)(h:Heap):List (Addr×Obj):=fp.filterMap λb=>(h.get? b).map λo=>(b,o)
def Jcd{h:Heap}(a:b∈fp)(e:h.get? b=some o):(b,o)∈Xp fp h:=Rt.mpr ⟨b,a,by rw[e];rfl⟩
theorem Jly{h:Heap}{p:Addr×Obj}(hp:p∈Xp fp h):p.1∈fp/\h.get? p.1=some p.2:=by
 obtain⟨b,a,e⟩:=Rt.mp hp;cases q:h.get? b with
 |none=>rw[q]at e;cases e
 |some o=>
  rw[q]at e;have c:(b,o)=p:=Bh e;subst c;exact⟨a,q⟩
def Inv.pinned{s:Shared}{fp:List Addr}(I:Inv X pins σ H s)(g:∀b∈fp,Xf X pins H b)(h:∀b∈fp,∃o,s.heap.get? b=some o/\∀v,o.data≠ .cell v):Inv X (pins++Xp fp s.heap) σ H s:=
 I.pins_of λp hp=>(Bm.mp hp).elim (λz=>I.pin p (Bx _ z)) λz=>by
  obtain⟨a,e⟩:=Jly z;obtain⟨j,k,l,_⟩:=g p.1 a;obtain⟨o,f,d⟩:=h p.1 a;rw[e]at f;cases f;exact⟨e,j,k,l,d⟩
def Inv.unpinned(I:Inv X (pins++pl) σ H s):Inv X pins σ H s:=I.pins_of λp hp=>I.pin p (Bx _ (Fh _ hp))
def Jwu(hp:PassesOwn (model X.prog X.w) X.A X.env X.xe)(hc:X.calm=true)(hi:PI X tg z wi)(hg:PG X tg g)(j:PSs X E tb)
  (hs:∀x,Dp z X.env x=pure x):PS X (.For tg z E [] pos) (Wcr wi g tb):=by
 intro a s σ H D I h;refine wpAny_For (thn (hi a s σ H _ I h) λv s1 h1=>thn h1 λitv s2 h2=>?_) hs;obtain⟨it,L,tn,J,H2,e,I2,T,st2,f2,W,⟨m0,w0⟩,turn⟩:=h2;subst e;have k:∀{y:Hp},(∀b∈L,y b=none)->∀b∈L,Xf X a y b:=λhn b j=>⟨hn b j,(f2 b j).2⟩
 refine codeAny_forLoop_any (λn s'=>∃i l y,Inv X a l y s'/\tn i s'.heap/\(∀b∈L,y b=none)/\W i n l y) ?_ m0 ⟨0,σ,H2,I2,st2,λb j=>(f2 b j).1,w0⟩;rintro n s3 ⟨i,p,H3,I3,Q,U,w3⟩;rcases turn i n p H3 w3 with⟨stop,qn⟩|⟨go,N,hN,step⟩
 .refine Jr hp (thn (T.done X rfl rfl rfl hc i a s3 p H3 X.xe I3 (k U) Q stop) λr s4 ⟨hr,I4⟩=>?_);subst hr;exact wpAny_execs_nil ⟨p,H3,I4,qn⟩
 .refine Jr hp (thn (T.item X rfl rfl rfl hc i a s3 p H3 X.xe I3 (k U) Q go) λr s4 ⟨u,hr,h4⟩=>?_);subst hr;refine Jr hp (thn h4 λ_ s5 q_=>?_);obtain⟨x,H5,I5,r5,y5,C,fr5⟩:=q_;have I5':=I5.pinned (k fr5) (T.obj _ _ C);refine Jr hp (thn (hg _ s5 p H5 x u _ I5' r5 (step x H5 y5)) λ_ s6 ⟨σ6,H6,I6,q6⟩=>?_);refine Jr hp (thn (j _ s6 σ6 H6 _ I6 q6) λf s7 A=>?_);have again:∀{c:St} {t:Hp},Inv X (a++Xp L s5.heap) c t s7->N c t->∃m,m<n/\∃i l y,Inv X a l y s7/\tn i s7.heap/\(∀b∈L,y b=none)/\W i m l y:=λ{c t} w Y=>by
   obtain⟨m',hm,w7⟩:=hN c t Y;refine⟨m',hm,i+1,c,t,w.unpinned,T.keep _ _ _ C λb j o e=>(w.pin (b,o) (Bx _ (Bx _ (Jcd j e)))).1,λb j=>?_,w7⟩;obtain⟨o,e,d⟩:=T.obj _ _ C b j;exact(w.pin (b,o) (Bx _ (Bx _ (Jcd j e)))).2.1
  cases f with
  |next=>obtain⟨c,t,w,Y⟩:=A;exact again w Y
  |cont=>obtain⟨c,t,w,Y⟩:=A;exact again w Y
  |brk=>obtain⟨c,t,w,A⟩:=A;exact⟨c,t,w.unpinned,A⟩
  |ret v=>obtain⟨x7,c,t,w,r7,A⟩:=A;exact⟨x7,c,t,w.unpinned,r7,A⟩
end
abbrev R2:=V->V->Hp->VK->Prop
def OpR(X:Cx)(f:Value->Value->Sem Value)(r:R2):Prop:=
 ∀(a:List (Addr×Obj)) (s:Shared) (b:St) (H:Hp) (x y:V) (v u:Value) (Q:VK),Inv X a b H s->RelV x v->RelV y u->r x y H Q->
  wpAny (model X.prog X.w) X.A (f v u) (EP X a b Q) X.xe s
def UnR(X:Cx)(f:Value->Sem Value)(r:V->Hp->VK->Prop):Prop:=
 ∀(a:List (Addr×Obj)) (s:Shared) (b:St) (H:Hp) (x:V) (v:Value) (Q:VK),Inv X a b H s->RelV x v->r x H Q->
  wpAny (model X.prog X.w) X.A (f v) (EP X a b Q) X.xe s
def We(X:Cx)(f:Value)(r:List V->Hp->VK->Prop):Prop:=
 ∀(a:List (Addr×Obj)) (s:Shared) (b:St) (H:Hp) (c:List V) (d:List Value) (Q:VK),Inv X a b H s->Vals c d->r c H Q->
  wpAny (model X.prog X.w) X.A (call f d) (EP X a b Q) X.xe s
def Wd9(X:Cx)(r:V->Hp->(Bool->Hp->Prop)->Prop):Prop:=
 ∀(a:List (Addr×Obj)) (s:Shared) (b:St) (H:Hp) (x:V) (v:Value) (Q:Bool->Hp->Prop),Inv X a b H s->RelV x v->r x H Q->
  wpAny (model X.prog X.w) X.A (truthy v) (TP X a b Q) X.xe s
def tOp(r:R2)(b c:TE):TE:=λa H Q=>b a H λx H1=>c a H1 λy H2=>r x y H2 Q
def tUn(r:V->Hp->VK->Prop)(a:TE):TE:=λb H Q=>a b H λx H1=>r x H1 Q
def rI(C:Int->Int->Prop)(g:Int->Int->V):R2:=λx y H Q=>∃i j,x=.int i/\y=.int j/\C i j/\Q (g i j) H
def rI0(g:Int->Int->V):R2:=λx y H Q=>∃i j,x=.int i/\y=.int j/\Q (g i j) H
def rU(g:Int->V):V->Hp->VK->Prop:=λx H Q=>∃i,x=.int i/\Q (g i) H
section
variable {X:Cx} {a b c:Expr} {ta tb tc:TE} {pos:Pos}
def Wa0(k:PE X a ta)(l:PE X b tb){R:V->V->Hp->Prop}(I:Inv X d e H s)
  (h:ta e H λx H1=>tb e H1 λy H2=>R x y H2){Q:Value->Shared->Prop}{f:Value->Value->Sem Value}
  (m:∀v u j x y H2,Inv X d e H2 j->RelV x v->RelV y u->R x y H2->wpAny (model X.prog X.w) X.A (f v u) Q X.xe j):
  wpAny (model X.prog X.w) X.A (eval a X.env) (λv g=>wpAny (model X.prog X.w) X.A (eval b X.env) (λu i=>wpAny (model X.prog X.w) X.A (f v u) Q X.xe i) X.xe g) X.xe s:=by
 refine thn (k d s e H _ I h) λv n ⟨x,H1,o,p,r⟩=>?_;refine thn (l d n e H1 _ o r) λu j ⟨y,H2,t,w,z⟩=>?_;exact m v u j x y H2 t p w z
def Jzz(e:OpR X (Gy op) r)(f:PE X a ta)(g:PE X b tb):PE X (.BinOp a op b pos) (tOp r ta tb):=by
 intro d s i H Q I h;exact wpAny_BinOp (Wa0 f g I h λv u j x y H2 k l m q=>e d j i H2 x y v u Q k l m q)
def Jzx{r:V->Hp->VK->Prop}(f:UnR X (unaryOp op) r)(g:PE X a ta):PE X (.UnaryOp op a pos) (tUn r ta):=by
 intro d s e H Q I h;exact Ss (thn (g d s e H _ I h) λv i ⟨x,H1,j,k,l⟩=>f d i e H1 x v Q j k l)
def opI{f:Value->Value->Sem Value}{C:Int->Int->Prop}{g:Int->Int->Int}
  (rule:∀(i j:Int) (t u:Tok) (s:Shared) (Q:Value->Shared->Prop) (E:Value->Shared->Prop),C i j->Q (.int (g i j) s.toks) {s with toks:=s.toks+1}->wpAny (model X.prog X.w) X.A (f (.int i t) (.int j u)) Q E s):
  OpR X f (rI C λi j=>.int (g i j)):=by
 intro d s n H x y v u Q I e k h;obtain⟨i,j,rfl,rfl,l,q⟩:=h;obtain⟨t,rfl⟩:=e;obtain⟨m,rfl⟩:=k;exact rule i j t m s _ _ l ⟨.int (g i j),H,I.tok _,⟨_,rfl⟩,q⟩
def Wbm{f:Value->Value->Sem Value}{g:Int->Int->Int}
  (rule:∀(i j:Int) (t u:Tok) (s:Shared) (Q:Value->Shared->Prop) (E:Value->Shared->Prop),Q (.int (g i j) s.toks) {s with toks:=s.toks+1}->wpAny (model X.prog X.w) X.A (f (.int i t) (.int j u)) Q E s):
  OpR X f (rI0 λi j=>.int (g i j)):=by
 intro d s m H x y v u Q I e k h;obtain⟨i,j,rfl,rfl,q⟩:=h;obtain⟨t,rfl⟩:=e;obtain⟨l,rfl⟩:=k;exact rule i j t l s _ _ ⟨.int (g i j),H,I.tok _,⟨_,rfl⟩,q⟩
def Zy{f:Value->Value->Sem Value}{g:Int->Int->Bool}
  (rule:∀(i j:Int) (t u:Tok) (s:Shared) (Q:Value->Shared->Prop) (E:Value->Shared->Prop),Q (.bool (g i j)) s->wpAny (model X.prog X.w) X.A (f (.int i t) (.int j u)) Q E s):
  OpR X f (rI0 λi j=>.bl (g i j)):=by
 intro d s m H x y v u Q I e k h;obtain⟨i,j,rfl,rfl,q⟩:=h;obtain⟨t,rfl⟩:=e;obtain⟨l,rfl⟩:=k;exact rule i j t l s _ _ ⟨.bl (g i j),H,I,rfl,q⟩
def Wea(i j:Int):Prop:=0<=j/\j<=1000000/\i.natAbs<2^64
def Z6(i j:Int):Prop:=(-(2^64)<i/\i<2^64)\/(-(2^64)<j/\j<2^64)
def Z6.ok(h:Z6 i j):IntMulOk i j:=by
 rcases h with⟨d,e⟩|⟨d,e⟩
 .exact .of_left (intBits_le_64 d e)
 .exact .of_right (intBits_le_64 d e)
def Jj3(k:Nat):(0:Int)<=2^k:=by
 rw[two_pow_cast];exact Mv _
def Jxh:OpR X (Gy .Add) (rI0 λi j=>.int (i+j)):=Wbm λ_ _ _ _ _ _ _ q=>add_int q
def Jxb:OpR X (Gy .Sub) (rI0 λi j=>.int (i-j)):=Wbm λ_ _ _ _ _ _ _ q=>sub_int q
def Jxe:OpR X (Gy .Mod) (rI (λ_ j=>0<j) λi j=>.int (i%j)):=opI λi j _ _ _ _ _ d q=>by
 have e:(0:Int)<j:=d;exact mod_int' (by lia) (by rw[Int.fmod_eq_emod_of_nonneg i (by lia)];exact q)
def Jxd:OpR X (Gy .Pow) (rI Wea λi j=>.int (i^j.toNat)):=opI λ_ _ _ _ _ _ _ d q=>pow_int_small d.1 d.2.1 d.2.2 q
def Jxc:OpR X (Gy .RShift) (rI (λ_ j=>0<=j) λi j=>.int (i/2^j.toNat)):=opI λi j _ _ _ _ _ d q=>
 rshift_int d (by rw[O6 i (Jj3 _)];exact q)
def unI{f:Value->Sem Value}{g:Int->Int}
  (rule:∀(i:Int) (t:Tok) (s:Shared) (Q:Value->Shared->Prop) (E:Value->Shared->Prop),Q (.int (g i) s.toks) {s with toks:=s.toks+1}->wpAny (model X.prog X.w) X.A (f (.int i t)) Q E s):
  UnR X f (rU λi=>.int (g i)):=by
 intro d s j H x v Q I e h;obtain⟨i,rfl,q⟩:=h;obtain⟨t,rfl⟩:=e;exact rule i t s _ _ ⟨.int (g i),H,I.tok _,⟨_,rfl⟩,q⟩
def Jv4:UnR X (unaryOp .USub) (rU λi=>.int (-i)):=unI λ_ _ _ _ _ q=>neg_int q
end
section
variable {X:Cx} {a b c:Expr} {ta tb tc:TE} {pos:Pos}
def Jrh(I:Inv X d f H s)(q:Q (.bl k) H)(e:k=g):EP X d f Q (.bool g) s:=by
 subst e;exact⟨.bl k,H,I,rfl,q⟩
def Jz2:OpR X (Ei .Lt) (rI0 λi j=>.bl (decide (i<j))):=Zy λ_ _ _ _ _ _ _ q=>lt_int q
def Jz3:OpR X (Ei .LtE) (rI0 λi j=>.bl (decide (i<=j))):=Zy λ_ _ _ _ _ _ _ q=>le_int q
def Jz4:OpR X (Ei .Gt) (rI0 λi j=>.bl (decide (j<i))):=Zy λ_ _ _ _ _ _ _ q=>gt_int q
def Jz5:OpR X (Ei .GtE) (rI0 λi j=>.bl (decide (j<=i))):=Zy λ_ _ _ _ _ _ _ q=>ge_int q
def Jxf:OpR X (Ei .Is) (λx y H Q=>y=.non/\Q (.bl (decide (x=.non))) H):=by
 intro d s g H x y v u Q I e f h;obtain⟨rfl,q⟩:=h;cases f;refine is_none_gen (Jrh I q ?_);cases x<;>first
  |(cases e;rfl)
  |(obtain⟨t,rfl⟩:=e;rfl)
def Jty:OpR X (Ei .IsNot) (λx y H Q=>y=.non/\Q (.bl (!decide (x=.non))) H):=by
 intro d s g H x y v u Q I e f h;obtain⟨rfl,q⟩:=h;cases f;refine isnot_none_gen (Jrh I q ?_);cases x<;>first
  |(cases e;rfl)
  |(obtain⟨t,rfl⟩:=e;rfl)
def Wc7(b:Expr)(h:op≠ .In)(d:op≠ .NotIn):Jg op b=false:=by
 have e:(op==CmpOp.In)=false:=by cases op<;>first|rfl|exact absurd rfl h
 have f:(op==CmpOp.NotIn)=false:=by cases op<;>first|rfl|exact absurd rfl d
 cases b<;>simp[Jg,e,f]
def Jtu(e:OpR X (Ei op) r)(f:PE X a ta)(g:PE X b tb)(i:Jg op b=false):PE X (.Compare a [op] [b] pos) (tOp r ta tb):=by
 intro d s j H Q I h;exact wpAny_Compare1 (Wa0 f g I h λv u k x y H2 l m n q=>e d k j H2 x y v u Q l m n q) i
def Z7(t:TE):TT:=λd H Q=>t d H λx e=>∃k,x=.bl k/\Q k e
def Jtd(g:OpR X (Ei op) r)(i:PE X a ta)(j:PE X b tb)(l:Jg op b=false):PT X (.Compare a [op] [b] pos) (Z7 (tOp r ta tb)):=by
 intro d s f H Q I h;refine wpAny_isTrue_Compare1 (thn (i d s f H _ I h) λv m ⟨x,H1,n,o,p⟩=>thn (j d m f H1 _ n p) λu t ⟨y,H2,w,A,C⟩=>
  thn (g d t f H2 x y v u _ w o A C) λc U ⟨z,E,J,L,k,e,N⟩=>?_) l
 subst e;cases L;exact D9 ⟨E,J,N⟩
def Ye(r f:R2)(ta tb tc:TE):TE:=λd H Q=>ta d H λx H1=>tb d H1 λy H2=>r x y H2 λz e=>∃k,z=.bl k/\
 (if k=true then tc d e λg h=>f y g h Q else Q (.bl false) e)
theorem Jor(p:OpR X (Ei op) r)(j:OpR X (Ei g) t)(w:PE X a ta)(A:PE X b tb)(C:PE X c tc)
  (E:lastMarks [op,g] [b,c]=false):PE X (.Compare a [op,g] [b,c] pos) (Ye r t ta tb tc):=by
 intro f s i H Q I h;refine Compare_chain (thn (w f s i H _ I h) λv J ⟨x,H1,L,N,U⟩=>chain_link (thn (A f J i H1 _ L U) λu Y ⟨y,H2,I2,l,q2⟩=>
  thn (p f Y i H2 x y v u _ I2 N l q2) λd s3 ⟨z,m,n,r3,k,e,o⟩=>?_)) E
 subst e;cases r3;refine D9 ?_;cases k with
 |false=>exact ite_ff ⟨.bl false,m,n,rfl,o⟩
 |true=>exact ite_tt (chain_last (thn (C f s3 i m _ n o) λw' s4 ⟨z',H4,I4,r4,q4⟩=>j f s4 i H4 y z' u w' Q I4 l r4 q4))
theorem Joc(p:OpR X (Ei op) r)(j:OpR X (Ei g) t)(w:PE X a ta)(A:PE X b tb)(C:PE X c tc)
  (E:lastMarks [op,g] [b,c]=false):PT X (.Compare a [op,g] [b,c] pos) (Z7 (Ye r t ta tb tc)):=by
 intro f s i H Q I h;refine isTrue_chain (thn (w f s i H _ I h) λv J ⟨x,H1,L,N,U⟩=>test_link (thn (A f J i H1 _ L U) λu Y ⟨y,H2,I2,l,q2⟩=>
  thn (p f Y i H2 x y v u _ I2 N l q2) λd s3 ⟨z,m,n,r3,k,e,o⟩=>?_)) E
 subst e;cases r3;refine D9 ?_;cases k with
 |false=>
  obtain⟨k',e',q'⟩:=o;cases e';exact ite_ff ⟨m,n,q'⟩
 |true=>
  refine ite_tt (test_last (thn (C f s3 i m _ n o) λw' s4 ⟨z',H4,I4,r4,q4⟩=>thn (j f s4 i H4 y z' u w' _ I4 l r4 q4) λd' s5 q_=>?_));obtain⟨z2,H5,I5,r5,k2,e2,q5⟩:=q_;subst e2;cases r5;exact D9 ⟨H5,I5,q5⟩
def Z3(K:Ag)(x:V)(H:Hp)(k:Bool):Prop:=
 match x with
 |.non=>k=false
 |.bl b=>k=b
 |.int i=>k=(i !=0)
 |.str y=>y.length<=sizeLine/\k=((y.length:Int) !=0)
 |.byt y=>y.size<=sizeLine/\k=((y.size:Int) !=0)
 |.ref p=>(∃d,SqL K H p d/\k= !d.isEmpty)\/(∃d,SqT K H p d/\k= !d.isEmpty)\/∃e,H p=some (.dK e)/\k= !e.isEmpty
 |_=>False
theorem Jkn{κ:Type}{kvs:List (κ×V)}{vs:List (κ×Value)}(r:KV kvs vs):(!vs.isEmpty)= !kvs.isEmpty:=by
 cases r<;>rfl
def Jfl{xs:List V}{its:List Value}(r:Vals xs its):(!its.toArray.isEmpty)= !xs.isEmpty:=by
 cases r<;>simp
def Jhd:(sizeLine:Nat)<2^63:=by rw[Ig];decide
theorem Jql:Wd9 X (λx H Q=>∃k,Z3 X.K x H k/\Q k H):=by
 intro w s E H x v Q I l h;obtain⟨k,e,q⟩:=h;have J:=Jhd;have L:sizeLine=16777216:=Ig;cases x with
 |non=>
  cases l;have d:k=false:=e;subst d;exact truthy_none ⟨H,I,q⟩
 |bl b=>
  cases l;have d:k=b:=e;subst d;exact D9 ⟨H,I,q⟩
 |int i=>
  obtain⟨t,rfl⟩:=l;have d:k=(i !=0):=e;subst d;exact PySem.P.truthy_int ⟨H,I,q⟩
 |str y=>
  obtain⟨t,rfl⟩:=l;obtain⟨A,d⟩:y.length<=sizeLine/\k=((y.length:Int) !=0):=e;subst d;exact PySem.P.truthy_str (by lia) ⟨H,I.tok _,q⟩
 |byt y=>
  obtain⟨t,rfl⟩:=l;obtain⟨A,d⟩:y.size<=sizeLine/\k=((y.size:Int) !=0):=e;subst d;exact PySem.W.truthy_bytes (by lia) ⟨H,I.tok _,q⟩
 |ref p=>
  cases l;have d:(∃j,SqL X.K H p j/\k= !j.isEmpty)\/(∃j,SqT X.K H p j/\k= !j.isEmpty)\/∃f,H p=some (.dK f)/\k= !f.isEmpty:=e;rcases d with⟨j,n,d⟩|⟨j,n,d⟩|⟨f,n,d⟩
  .subst d;obtain⟨u,r,pl,z⟩:=I.list n;have g:=r.length;exact wpAny_truthy_list pl.isList (by simp only[Aq];lia) ⟨H,I.tok _,by rw[Jfl r];exact q⟩
  .subst d;obtain⟨u,r,pl,z⟩:=I.tuple n;have g:=r.length;exact truthy_tuple pl (by simp only[Aq];lia) ⟨H,I.tok _,by rw[Jfl r];exact q⟩
  .subst d;obtain⟨z,C,o,r,m⟩:f.length<=sizeLine/\(p==sysModules)=false/\∃o,KV f o/\s.heap.DictOf (mixKind X.prog X.w) p o:=I.hok p _ n;have g:f.length=o.length:=Cr r;exact wpAny_truthy_dict C m (by lia) ⟨H,I.tok _,by rw[Jkn r];exact q⟩
 |_=>exact(show False from e).elim
def Job(g:PE X a ta)(i:∀d,isTrue a X.env d=(do let v<-d;N2 a.pos;holding [v] (truthy v))):
  PT X a (λf H Q=>ta f H λx H'=>∃k,Z3 X.K x H' k/\Q k H'):=by
 intro e s f H Q I h;exact isTrue_plain (thn (g e s f H _ I h) λv j ⟨x,H1,l,m,n⟩=>Jql e j f H1 x v Q l m n) (i _)
theorem vals1(r:Vals [x] us):∃u,us=[u]/\RelV x u:=by
 cases r with
 |cons d e=>cases e;exact⟨_,rfl,d⟩
theorem vals2(r:Vals [x,y] us):∃u d,us=[u,d]/\RelV x u/\RelV y d:=by
 cases r with
 |cons e f=>
  cases f with
  |cons g h=>cases h;exact⟨_,_,rfl,e,g⟩
def Jp0:We X (.builtin "abs") (λxs H Q=>∃i,xs=[.int i]/\Q (.int (if i<0 then -i else i)) H):=by
 intro d s e H xs f Q I r h;obtain⟨i,rfl,q⟩:=h;obtain⟨u,rfl,t,rfl⟩:=vals1 r;exact call_abs_int λu tk=>⟨.int (if i<0 then -i else i),H,I.tok _,⟨_,rfl⟩,q⟩
def Jm5(f:X.calm=true):We X (.builtin "max") (λxs H Q=>∃i j,xs=[.int i,.int j]/\Q (.int (if j>i then j else i)) H):=by
 intro e s g H xs l Q I r h;obtain⟨i,j,rfl,q⟩:=h;obtain⟨u,m,rfl,⟨t,rfl⟩,⟨n,rfl⟩⟩:=vals2 r;refine max_two_ints (I.ok.hd f) λo tk k=>⟨_,H,I.kept k,?_,q⟩
 by_cases d:j>i
 .rw[if_pos d,if_pos d];exact⟨_,rfl⟩
 .rw[if_neg d,if_neg d];exact⟨_,rfl⟩
def Jm4(f:X.calm=true):We X (.builtin "min") (λxs H Q=>∃i j,xs=[.int i,.int j]/\Q (.int (if j<i then j else i)) H):=by
 intro e s g H xs l Q I r h;obtain⟨i,j,rfl,q⟩:=h;obtain⟨u,m,rfl,⟨t,rfl⟩,⟨n,rfl⟩⟩:=vals2 r;refine min_two_ints (I.ok.hd f) λo tk k=>⟨_,H,I.kept k,?_,q⟩
 by_cases d:j<i
 .rw[if_pos d,if_pos d];exact⟨_,rfl⟩
 .rw[if_neg d,if_neg d];exact⟨_,rfl⟩
def Jht:We X (.type "int") (λxs H Q=>(∃i,xs=[.int i]/\Q (.int i) H)\/∃k,xs=[.bl k]/\Q (.int (if k then 1 else 0)) H):=by
 intro d s f H xs g Q I r h;rcases h with⟨i,rfl,q⟩|⟨k,rfl,q⟩
 .obtain⟨u,rfl,t,rfl⟩:=vals1 r;exact call_int_int ⟨.int i,H,I,⟨_,rfl⟩,q⟩
 .obtain⟨u,rfl,e⟩:=vals1 r;cases e;exact call_int_bool ⟨.int (if k then 1 else 0),H,I.tok _,⟨_,rfl⟩,q⟩
end
structure Yk(h:Heap)(x dx C:Addr)(mA:Str->Option Value):Prop where
 obj:h.get? x=some (E7 C dx)
 ns:h.Ns1 dx mA
 ne:dx≠x
def Jl5{h:Heap}{c:Str->Option Value}(n:h.Ns1 g c):∃d,h.get? g=some d/\∀name,K7 name d=some (c name):=by
 obtain⟨o,f,r,i,j,k,_,l⟩:=n;refine⟨o,i,λname=>?_⟩;have e:=l name;unfold nsFind findBy at e;rw[<-Array.find?_toList]at e;unfold K7;rw[j];dsimp only;split
 .rename_i y q;rw[q]at e;exact congrArg some e
 .rename_i q;rw[q]at e;have a:f.toList.any (·.refKey)=false:=by
   rw[M4];intro y m;obtain⟨z,t,b⟩:=k y (Cu.mp m);simp[DictEntry.refKey,b]
  have p:¬f.toList.any (·.refKey)=true:=by rw[a];exact Ba
  rw[if_neg p];exact congrArg some e
def Yk.look{mA:Str->Option Value}(I:Yk h x dx C mA):∃a,PySem.W.InstAt h x (E7 C dx) C (some a)/\∀name,K7 name a=some (mA name):=
 let⟨a,b,c⟩:=Jl5 I.ns
 ⟨a,⟨I.obj,rfl,rfl,b⟩,c⟩
section
variable {prog:Program} {w:World} {A:Bi} {E:Value->Shared->Prop} {s:Shared} {K:Ag} {x dx C f:Addr} {mA:Str->Option Value} {name:Str} {v:Value}
def get_map{Q:Value->Shared->Prop}(X:K.In s.heap)(I:Yk s.heap x dx C mA)(c:J2 K C name=true)(d:L9 K C=true)
  (e:Ds K (.ref C) name=some none)(g:mA name=some v)(a:Q4 v=true)(h:Q v {s with toks:=s.toks+1}):
  wpAny (model prog w) A (getAttr (.ref x) name b) Q E s:=by
 obtain⟨j,J,i⟩:=I.look;exact PySem.W.get_value X J (Le c).1 (PySem.W.findObj_own d e rfl (by rw[i,g])) a h
def Jpm{Q:Value×List Value->Shared->Prop}(X:K.In s.heap)(I:Yk s.heap x dx C mA)(a:J2 K C name=true)
  (b:Ds K (.ref C) name=some (some (.ref f)))(c:L8 K (.ref f)=true)(d:mA name=none)(h:Q (.ref f,[.ref x]) s):
  wpAny (model prog w) A (getMethod (.ref x) name pl) Q E s:=by
 obtain⟨e,J,g⟩:=I.look;exact PySem.W.method_fn X J (Le a).1 (Le a).2 b (beq_iff_eq.mp c) (by show(K7 name e).map (·.isSome)=some false;rw[g,d];rfl) h
def Js1{ns:List Str}{Q:Unit->Shared->Prop}(X:K.In s.heap)(I:Yk s.heap x dx C mA)
  (k:Ds K (.ref C) "__setattr__"=some (some (.builtin "object.__setattr__")))(hp:Qq K C=true)(l:M7 K C name=some none)(m:L9 K C=true)
  (n:Pq mA ns)(hsz:ns.length<=sizeLine)
  (h:∀h',Yk h' x dx C (λy=>if y=name then some v else mA y)->Di dx s.heap h'->Q () {s with heap:=h',toks:=s.toks+2}):
  wpAny (model prog w) A (setAttr (.ref x) name v) Q E s:=by
 obtain⟨z,J,H⟩:=I.look;refine PySem.W.set_plain X J k (PySem.W.osa_open (s:={s with toks:=s.toks+1}) (r:=none) X J hp l λb=>?_);obtain⟨cd,o,e⟩:=PySem.W.any_some m;have p:s.heap.get? x=some ⟨.ref C,some dx,.plain,#[]⟩:=I.obj;refine Aa (Ab (Aa (Aa (wpAny_loadPart p (Aa (PySem.W.Looks.here (s:={s with toks:=s.toks+1}) (PySem.W.looks_clsIn X o) ?_))))));rw[e];refine Ab (a:=some dx) (Aa (Ab (Aa ?_)));refine wpAny_nsSet1 (s:={s with toks:=s.toks+1}) I.ns λh' c d=>?_;obtain⟨L,t,u,g,i,j⟩:=c.count (PySem.Within.cons name v n);refine Aa (wpAny_lookBehind g (by rw[i];exact pastItsLine_dict (Bu j (by rw[Bb];lia))) ?_);exact Ab (h _ ⟨(d.2 _ (Ef I.ne)).trans I.obj,c,I.ne⟩ d)
def Joz{R:Mq->Shared->Prop}(X:K.In s.heap)(c:M8 K C=true)
  (e:Ds K (.ref C) "__init__"=some (some (.ref f)))(i:PySem.W.typeIn K (.ref f)=some (.type "function"))
  (h:Hk (model prog w) (A.under (.builtin "type.__call__" ⟨.ref C::vs,b⟩)) (.call (.ref f) ⟨.ref (s.heap.objs.size+1)::vs,b⟩) (PySem.W.InitBack (s.heap.objs.size+1) R)
   {s with heap:=(s.heap.push D2).push (E7 C s.heap.objs.size)}):
  Hk (model prog w) A (.call (.ref C) ⟨vs,b⟩) R s:=by
 obtain⟨j,g,d,t,os⟩:=s;exact PySem.W.make_core (PySem.W.makes_of X c) (PySem.W.looks_findIn X e) (λa=>PySem.W.bind_fn X a i) (.inl rfl) h
end
noncomputable def Wn(f:Str)(v:V):List (Str×V)->List (Str×V)
 |[]=>[(f,v)]
 |(g,x)::r=>if g=f then(g,v)::r else(g,x)::Wn f v r
theorem Jem(f g:Str)(v:V):∀c:List (Str×V),(Wn f v c).lookup g=if g=f then some v else c.lookup g
 |[]=>by
  show Fi g [(f,v)]=_
  by_cases h:g=f
  .have a:(g==f)=true:=beq_iff_eq.mpr h;simp only[Fi,a,if_pos h]
  .have a:(g==f)=false:=beq_eq_false_iff_ne.mpr h;simp only[Fi,a,if_neg h]
 |(k,x)::r=>by
  have d:=Jem f g v r;rw[show Wn f v ((k,x)::r)=(if k=f then(k,v)::r else(k,x)::Wn f v r)from rfl]
  by_cases b:k=f
  .rw[if_pos b]
   by_cases h:g=k
   .have a:(g==k)=true:=beq_iff_eq.mpr h;simp only[Fi,a,if_pos (h.trans b)]
   .have a:(g==k)=false:=beq_eq_false_iff_ne.mpr h;simp only[Fi,a,if_neg (λe:g=f=>h (e.trans b.symm))]
  .rw[if_neg b]
   by_cases h:g=k
   .have a:(g==k)=true:=beq_iff_eq.mpr h;simp only[Fi,a,if_neg (λe:g=f=>b (h.symm.trans e))]
   .have a:(g==k)=false:=beq_eq_false_iff_ne.mpr h;simp only[Fi,a];exact d
theorem Jep(f:Str)(v:V):∀a:List (Str×V),f∈(Wn f v a).map (·.1)/\∀g,g∈a.map (·.1)->g∈(Wn f v a).map (·.1)
 |[]=>⟨by simp[Wn],λg h=>by simp at h⟩
 |(k,x)::r=>by
  obtain⟨c,d⟩:=Jep f v r;rw[show Wn f v ((k,x)::r)=(if k=f then(k,v)::r else(k,x)::Wn f v r)from rfl]
  by_cases b:k=f
  .rw[if_pos b];subst b;exact⟨by simp,λg h=>by simpa using h⟩
  .rw[if_neg b];refine⟨?_,λg h=>?_⟩
   .rw[Ax];exact A7 _ c
   .rw[Ax]at h ⊢;rcases Am.mp h with e|e
    .exact Am.mpr (.inl e)
    .exact A7 _ (d g e)
theorem Jeo(f:Str)(v:V):∀a:List (Str×V),(Wn f v a).length<=a.length+1
 |[]=>by simp[Wn]
 |(k,x)::r=>by
  have c:=Jeo f v r;rw[show Wn f v ((k,x)::r)=(if k=f then(k,v)::r else(k,x)::Wn f v r)from rfl]
  by_cases b:k=f
  .rw[if_pos b,Bb,Bb];lia
  .rw[if_neg b,Bb,Bb];lia
theorem RelO.some_of(r:RelO (some v) o):∃u,o=some u/\RelV v u:=by
 cases o with
 |none=>exact(show False from r).elim
 |some u=>exact⟨u,rfl,r⟩
theorem RelO.none_of(r:RelO none o):o=none:=by
 cases o with
 |none=>rfl
 |some u=>exact(show False from r).elim
theorem Jmm(r:RelV v u):Q4 u=true:=by
 cases v with
 |non=>cases(show u=Cv from r);rfl
 |bl b=>cases(show u=Jj b from r);rfl
 |int i=>obtain⟨t,e⟩:=(show∃t,u=Eb i t from r);cases e;rfl
 |str x=>obtain⟨t,e⟩:=(show∃t,u=Pa x t from r);cases e;rfl
 |byt b=>obtain⟨t,e⟩:=(show∃t,u=Vn b t from r);cases e;rfl
 |flt b=>obtain⟨t,e⟩:=(show∃t,u=Vm b t from r);cases e;rfl
 |ref a=>cases(show u=As a from r);rfl
 |ty n=>cases(show u=Ej n from r);rfl
section
variable {P:Program} {w:World} {H H':Hp} {h h':Heap} {a C dx:Addr} {fs fs':List (Str×V)}
def Jiv(c:HOk P w H h)(e:H a=some (.ins C dx fs)):∃b,Yk h a dx C b/\(∀f,RelO (fs.lookup f) (b f))/\Pq b (fs.map (·.1))/\fs.length<=1000/\H dx=some (.own a):=by
 obtain⟨d,z,g,i,b,n,r,q⟩:=(show Vz P w H h a (.ins C dx fs)from c a _ e)
 exact⟨b,⟨i,n,g⟩,r,q,z,d⟩
end
structure Cls(K:Ag)(C:Addr):Prop where
 pg:J2 K C Str.empty=true
 hd:L9 K C=true
 po:Qq K C=true
 sa:Ds K (.ref C) "__setattr__"=some (some (.builtin "object.__setattr__"))
def Cls.get{K:Ag}{C:Addr}(c:Cls K C)(f:Str):J2 K C f=true:=c.pg
def Wo(K:Ag)(C:Addr)(f:Str):Prop:=Ds K (.ref C) f=some none
theorem Wo.taker{K:Ag}{C:Addr}{f:Str}(n:Wo K C f):M7 K C f=some none:=by
 unfold M7;rw[show Ds K (.ref C) f=some none from n];rfl
structure Meth(K:Ag)(C:Addr)(m:Str)(f:Addr):Prop where
 at_:Ds K (.ref C) m=some (some (.ref f))
 fn:L8 K (.ref f)=true
 kp:D6 K (.ref f)=true
section
variable {X:Cx} {pins:List (Addr×Obj)} {σ:St} {H:Hp} {s:Shared} {a C dx:Addr} {fs:List (Str×V)} {f:Str} {v:V} {A:Bi} {E:Value->Shared->Prop}
def Jkp{Q:Value->Shared->Prop}(I:Inv X pins σ H s)(e:H a=some (.ins C dx fs))(c:Cls X.K C)(n:Wo X.K C f)(l:fs.lookup f=some v)
  (h:∀u d,Inv X pins σ H d->RelV v u->Q u d):wpAny (model X.prog X.w) A (getAttr (.ref a) f b) Q E s:=by
 obtain⟨i,O,r,_,_,_⟩:=Jiv I.hok e;obtain⟨u,j,g⟩:=RelO.some_of (v:=v) (o:=i f) (by rw[<-l];exact r f);exact get_map I.kIn O (c.get f) c.hd n j (Jmm g) (h u _ (I.tok _) g)
def Jfn{Q:Value×List Value->Shared->Prop}(I:Inv X pins σ H s)(e:H a=some (.ins C dx fs))(c:Cls X.K C)(k:Meth X.K C m g)(l:fs.lookup m=none)
  (h:Q (.ref g,[.ref a]) s):wpAny (model X.prog X.w) A (getMethod (.ref a) m pl) Q E s:=by
 obtain⟨b,O,r,_,_,_⟩:=Jiv I.hok e;have d:b m=none:=RelO.none_of (by rw[<-l];exact r m);exact Jpm I.kIn O (c.get m) k.at_ k.fn d h
def Jj9{Q:Unit->Shared->Prop}(I:Inv X pins σ H s)(e:H a=some (.ins C dx fs))(c:Cls X.K C)(n:Wo X.K C f)(Y:fs.length<1000)(m:RelV y u)
  (h:∀i,Inv X pins σ (upd H a (.ins C dx (Wn f y fs))) i->Q () i):wpAny (model X.prog X.w) A (setAttr (.ref a) f u) Q E s:=by
 obtain⟨j,O,r,k,_,l⟩:=Jiv I.hok e;have p:(fs.map (·.1)).length<=sizeLine:=by rw[Ah,Ig];lia
 refine Js1 I.kIn O c.sa c.po n.taker c.hd k p λt d w=>h _ ?_;have J:∃o,t.get? dx=some o:=let⟨o,_,_,L,_⟩:=d.ns;⟨o,L⟩;refine I.write (x:=a) (e:=dx) (by rw[e];exact Fp) (.inr l) (λb q N z=>(w.2 b N).trans z) J ?_;refine⟨by rw[Jad O.ne];exact l,?_,O.ne,d.obj,_,d.ns,λg=>?_,λg U=>?_⟩
 .have:=Jeo f y fs;lia
 .show RelO ((Wn f y fs).lookup g) (if g=f then some u else j g);rw[Jem]
  by_cases q:g=f
  .rw[if_pos q,if_pos q];exact m
  .rw[if_neg q,if_neg q];exact r g
 .by_cases q:g=f
  .rw[q];exact(Jep f y fs).1
  .refine(Jep f y fs).2 g (k g λz=>U ?_);show(if g=f then some u else j g)=none;rw[if_neg q];exact z
def Inv.made(I:Inv X pins σ H s):Inv X pins σ (upd (upd H s.heap.objs.size (.own (s.heap.objs.size+1))) (s.heap.objs.size+1) (.ins C s.heap.objs.size []))
  {s with heap:=(s.heap.push D2).push (E7 C s.heap.objs.size)}:=by
 have d:(s.heap.push D2).get? s.heap.objs.size=some D2:=Ak s.heap rfl;have h:((s.heap.push D2).push (E7 C s.heap.objs.size)).get? (s.heap.objs.size+1)=some (E7 C s.heap.objs.size):=by
  have:=Ak (s.heap.push D2) (o:=E7 C s.heap.objs.size) rfl;rwa[Cq]at this
 have j:(s.heap.push D2).Ns s.heap.objs.size (λ_=>none):=⟨D2,#[],_,d,rfl,(λe k=>absurd k (by simp)),λ_=>rfl⟩
 have l:=I.laid (a:=s.heap.objs.size) (o:=.own (s.heap.objs.size+1)) (h':=s.heap.push D2) (t':=s.toks) (λb u q=>Ad _ q) (Ai _) ⟨_,d⟩;refine l.laid (a:=s.heap.objs.size+1) (o:=.ins C s.heap.objs.size []) (t':=s.toks) (λb u q=>Ad _ q) (Nb (Cq _ _)) ?_;have g:s.heap.objs.size≠s.heap.objs.size+1:=Ay (Dy _);refine⟨by rw[Jad g,Jak],Dg _,g,h,λ_=>none,(Heap.Ns1.of_empty j).at λo q=>Ad _ q,λ_=>Fp,λy n=>absurd rfl n⟩
def Ju7{Q:Value->Shared->Prop}(c:attributeBase e f env (eval e env)=eval e env)
  (h:wpAny (model prog w) A (eval e env) (λo b=>wpAny (model prog w) A (getAttr o f true) Q E b) E s):wpAny (model prog w) A (eval (.Attribute e f pos) env) Q E s:=
 Attribute_any_ h (by rw[arm_eval_Attribute,c])
end
def Wcs(K:Ag)(c:TE)(f:Str):TE:=λd H Q=>c d H λx H1=>∃a C e b v,x=.ref a/\H1 a=some (.ins C e b)/\Cls K C/\Wo K C f/\b.lookup f=some v/\Q v H1
def Wcw(K:Ag)(e g:TE)(f:Str):TS:=λD b H=>g b H λy H1=>e b H1 λx H2=>∃a C d c,x=.ref a/\H2 a=some (.ins C d c)/\Cls K C/\Wo K C f/\c.length<1000/\
 D.nx b (upd H2 a (.ins C d (Wn f y c)))
section
variable {X:Cx} {o e value:Expr} {f:Str} {pos pos' tpos:Pos} {ta tv:TE}
def Jw8(d:PE X e ta)(g:attributeBase e f X.env (eval e X.env)=eval e X.env):PE X (.Attribute e f pos) (Wcs X.K ta f):=by
 intro b s i H Q I h;refine Ju7 g (thn (d b s i H _ I h) λu y j=>?_);obtain⟨x,H1,k,m,a,C,z,A,v,p,r,c,n,l,q⟩:=j;subst p;obtain rfl:u=As a:=m;exact Jkp k r c n l λE J t w=>⟨v,H1,t,w,q⟩
def Jwv(g:PE X o ta)(i:PE X value tv)(j:Hj value (some (.Attribute o f pos')) pos.line X.env=pure false):PS X (.Assign [.Attribute o f pos'] value pos) (Wcw X.K ta tv f):=by
 intro b s d H D I h;refine plainObj_wpAny_Assign_Attribute (thn (i b s d H _ I h) λu k ⟨y,H1,m,p,q⟩=>thn (g b k d H1 _ m q) λr L t=>?_) j;obtain⟨x,H2,v,w,a,C,N,Q,z,A,c,n,l,E⟩:=t;subst z;obtain rfl:r=As a:=w;exact Jj9 v A c n l p λU J=>⟨d,_,J,E⟩
end
section
variable {X:Cx} {pins:List (Addr×Obj)} {σ:St} {H:Hp} {s:Shared} {A:Bi} {E:Value->Shared->Prop} {Q:Value->Shared->Prop} {c:Value} {b:Bool}
end
structure V9(k:Nat)(A:Bi):Prop where
 hd:A.handled=none
 dp:A.depth+3*k+5<recursionLimit
 un:A.units+16*k+200<Dc
 gd:A.guards=some []
def V9.mono(r:V9 k A)(h:j<=k):V9 j A:=⟨r.hd,by have:=r.dp;lia,by have:=r.un;lia,r.gd⟩
def V9.deeper{A:Bi}(r:V9 (k+1) A)(env:Env):V9 k (A.deeper env):=
 ⟨r.hd,by have:=r.dp;show A.depth+1+3*k+5<_;lia,by have:=r.un;show A.units+3+16*k+200<_;lia,r.gd⟩
def Jkh{A:Bi}:(A.under (.builtin "type.__call__" ⟨.ref C::us,a⟩)).depth=A.depth+1:=by
 first|rfl|simp[Pj,Code.weight,Code.isCreation,Code.isGuard,Code.isCaller,Code.frames,P5,guardIds]
def Jkg{A:Bi}:(A.under (.builtin "type.__call__" ⟨.ref C::us,a⟩)).units=A.units+1:=by
 first|rfl|simp[Pj,Code.cUnits,Code.frames,P5]
def V9.make{A:Bi}(r:V9 (k+1) A)(C:Addr)(us:List Value)(a:List (Str×Value)):V9 k (A.under (.builtin "type.__call__" ⟨.ref C::us,a⟩)):=
 ⟨r.hd,by have:=r.dp;rw[Jkh];omega,by have:=r.un;rw[Jkg];omega,r.gd⟩
def V9.depth{A:Bi}(r:V9 k A):A.depth<recursionLimit:=by have:=r.dp;lia
def V9.units{A:Bi}(r:V9 k A):A.units+64<Dc:=by have:=r.un;lia
def Y3:TA:=λ_ H Q=>Q [] H
def Y5(b:TE)(c:TA):TA:=λa H Q=>b a H λx H1=>c a H1 λd H2=>Q (x::d) H2
section
variable {X:Cx} {e:Expr} {es:List Expr} {te:TE} {t:TA} {pos:Pos}
def Jfh:PA X [] Y3:=λ_ _ _ _ H Q I h=>Jz ⟨[],H,I,.nil,h⟩
def Jby(c:PE X e te)(d:PA X es t)(f:B4 (e::es) X.env=(false,eval e X.env)::B4 es X.env):PA X (e::es) (Y5 te t):=by
 intro pos a s b H Q I h;rw[f];show wpAny _ _ (R0 ((false,eval e X.env)::Ga pos (B4 es X.env))) _ _ s;refine Jm (thn (c a s b H _ I h) λu g ⟨x,H1,i,j,k⟩=>?_);exact thn (d pos a g b H1 _ i k) λp r ⟨l,H2,m,n,o⟩=>⟨x::l,H2,m,.cons j n,o⟩
def Wcg(t:TA):TE:=λb H Q=>t b H λa H1=>a.length<=sizeLine/\∀p,H1 p=none->Q (.ref p) (upd H1 p (.tup a))
def Wcn(t:TA):TE:=λb H Q=>t b H λa H1=>a.length<=sizeLine/\∀p,H1 p=none->Q (.ref p) (upd H1 p (.lst a))
def Jw2{f}(h:PA X es t):PE X (.Tuple es f pos) (Wcg t):=by
 intro a s g H Q I i;refine wpAny_Tuple_spliced (thn (h pos a s g H _ I i) λj c ⟨k,H1,d,r,z,q⟩=>⟨by rw[<-r.length];exact z,?_⟩);have l:H1 c.heap.objs.size=none:=d.hok.fresh (Ai _);refine⟨.ref c.heap.objs.size,upd H1 c.heap.objs.size (.tup k),d.laid (t':=c.toks) (λb u e=>Ad _ e) (Ai _) ?_,rfl,q _ l⟩;exact⟨z,j,r,⟨_,Ak _ rfl,rfl,_,rfl⟩⟩
def Jw6(h:PA X es t):PE X (.List es pos) (Wcn t):=by
 intro a s f H Q I g;refine wpAny_List_spliced (thn (h pos a s f H _ I g) λi c ⟨j,H1,d,r,z,q⟩=>⟨by rw[<-r.length];exact z,?_⟩);have k:H1 c.heap.objs.size=none:=d.hok.fresh (Ai _);refine⟨.ref c.heap.objs.size,upd H1 c.heap.objs.size (.lst j),d.laid (t':=c.toks) (λb u e=>Ad _ e) (Ai _) ?_,rfl,q _ k⟩;exact⟨z,i,0,r,Ak _ rfl⟩
end
abbrev Sp:=List V->Hp->VK->XK->Prop
abbrev CXT:=List Env->Hp->Shared->XK->Value->Shared->Prop
structure Yl(P:Program)(w:World)(K:Ag)(mg:Str->Option Value)(base:Heap)(A:Bi)(outer:List Env)(s:Shared)(H:Hp):Prop where
 frames:A.frames=some outer
 mod:Mod K mg base
 bs:∀b o,base.get? b=some o->s.heap.get? b=some o/\H b=none
 bsz:base.objs.size<=s.heap.objs.size
 funs:s.heap.FunFrames base outer
 frf:∀b∈frs outer,H b=none
 hok:HOk P w H s.heap
 bare:Lu s.gens
def CE(a:List Env)(P:Program)(w:World)(H:Hp)(s:Shared)(Q:VK)(u:Value)(b:Shared):Prop:=
 ∃v c,b.os=s.os/\Lu b.gens/\Un (frs a) [] H c s.heap b.heap/\HOk P w c b.heap/\RelV v u/\Q v c
def CR(CX:CXT)(a:List Env)(P:Program)(w:World)(H:Hp)(s:Shared)(Q:VK)(E:XK)(r:Mq)(b:Shared):Prop:=
 match r with
 |.ok (.ret u)=>CE a P w H s Q u b
 |.ok _=>False
 |.error e=>CX a H s E e b
structure W1(P:Program)(w:World)(K:Ag)(mg:Str->Option Value)(base:Heap)(CX:CXT)(k:Nat)(f:Addr)(fd:Iq)(ps:List Str)(sp:Sp):Prop where
 len:∀vs H Q E,sp vs H Q E->vs.length=ps.length
 run:∀(A:Bi) (outer:List Env) (s:Shared) (H:Hp) (args:Args) (us:List Value) (vs:List V) (Q:VK) (E:XK),V9 k A->Yl P w K mg base A outer s H->Vs s fd args (ps.zip us)->Vals vs us->sp vs H Q E->
  Hk (model P w) A (.call (.ref f) args) (CR CX outer P w H s Q E) s
def Yl.make{P:Program}{w:World}{K:Ag}{mg:Str->Option Value}{base:Heap}{A:Bi}{outer:List Env}{s:Shared}{H:Hp}(e:Yl P w K mg base A outer s H)(C:Addr)(us:List Value)(a:List (Str×Value)):
  Yl P w K mg base (A.under (.builtin "type.__call__" ⟨.ref C::us,a⟩)) outer s H:=⟨by first|exact e.frames|(simpa [Pj,Code.envs,P5,pushEnvs]using e.frames),e.mod,e.bs,e.bsz,e.funs,e.frf,e.hok,e.bare⟩
section
variable {X:Cx} {pins:List (Addr×Obj)} {σ:St} {H:Hp} {s s':Shared}
def Inv.env0(I:Inv X pins σ H s):Yl X.prog X.w X.K X.mg X.base X.A X.stack s H:=
 ⟨I.ok.frames,I.ok.mod,I.bs,Bu I.ok.bsz I.sz,I.stack,I.stkFree,I.hok,I.bare⟩
def Inv.after(I:Inv X pins σ H s)(h:CE X.stack X.prog X.w H s Q u s'):EP X pins σ Q u s':=by
 obtain⟨v,e,os,bare,un,hok,r,q⟩:=h;obtain⟨f,g,d,t,a⟩:=s';obtain rfl:a=s.os:=os;exact⟨v,e,I.call (h':=f) (g':=g) (d':=d) (t':=t) (ch:=[]) un hok bare (λb z=>absurd z (by simp)),r,q⟩
end
def Y7(sp:Sp)(a:List V)(E:XK)(t:TA):TE:=λb H Q=>t b H λc H1=>sp (c++a) H1 Q E
def Y4(C:Addr)(m:Str)(sp:Sp)(b:List V)(E:XK)(e:TE)(t:TA):TE:=λc H Q=>e c H λx H1=>∃a f d,x=.ref a/\H1 a=some (.ins C f d)/\d.lookup m=none/\
 t c H1 λg H2=>sp (x::(g++b)) H2 Q E
def Wbb(C:Addr)(sp:Sp)(b:List V)(E:XK)(t:TA):TE:=λc H Q=>t c H λd H1=>∀x a,H1 x=none->H1 a=none->a≠x->
 sp (.ref x::(d++b)) (upd (upd H1 a (.own x)) x (.ins C a [])) (λv H2=>v=.non/\Q (.ref x) H2) E
def Binds(K:Ag)(b:Iq)(ps:List Str)(ds:List Value):Prop:=
 ∀(s:Shared) (a:List Value),K.In s.heap->(a++ds).length=ps.length->Vs s b ⟨a,[]⟩ (ps.zip (a++ds))
def Binds.all{K:Ag}{a:Iq}{ps:List Str}(h:∀us:List Value,us.length=ps.length->Td a ⟨us,[]⟩=pure (ps.zip us)):Binds K a ps []:=λs us _ b=>by
 rw[Dq]at b ⊢;exact .of_eq (h us b)
def W0(CX:CXT)(X:Cx)(E:XK):Prop:=∀(a:List (Addr×Obj)) (c:St) (H:Hp) (s:Shared) (e:Value) (b:Shared),Inv X a c H s->CX X.stack H s E e b->X.xe e b
section
variable {X:Cx} {CX:CXT} {k:Nat} {f C:Addr} {fd:Iq} {ps:List Str} {sp:Sp} {dvs:List V} {ds:List Value} {E:XK} {x m:Str} {p pos apos:Pos} {e o:Expr} {es:List Expr} {ta:TE} {t:TA}
theorem Jjg(F:W1 X.prog X.w X.K X.mg X.base CX k f fd ps sp)(g:V9 k X.A)(i:Binds X.K fd ps ds)(j:Vals dvs ds)(l:W0 CX X E)
  (I:Inv X a c H s)(r:Vals vs us)(h:sp (vs++dvs) H Q E):wpAny (model X.prog X.w) X.A (call (.ref f) us) (EP X a c Q) X.xe s:=by
 have d:Vals (vs++dvs) (us++ds):=r.append j;have n:(us++ds).length=ps.length:=by rw[<-d.length];exact F.len _ _ _ _ h
 refine Us (Gp (F.run X.A X.stack s H ⟨us,[]⟩ (us++ds) (vs++dvs) Q E g I.env0 (i s us I.kIn n) d h) λr v b=>?_);cases r with
 |error e=>exact l a c H s e v I b
 |ok w=>
  cases w with
  |ret u=>exact I.after b
  |next=>exact E1 b
  |brk=>exact E1 b
  |cont=>exact E1 b
def Jtv(F:W1 X.prog X.w X.K X.mg X.base CX k f fd ps sp)(g:V9 k X.A)(i:Gl X x)(j:X.mg x=some (.ref f))(l:D6 X.K (.ref f)=true)(n:Binds X.K fd ps ds)(u:Vals dvs ds)(v:W0 CX X E)
  (w:PA X (e::es) t)(b:(x==("__debug__":Str))=false)(y:B4 (e::es) X.env=(false,eval e X.env)::B4 es X.env)(c:(Ga pos (B4 es X.env)).any (·.1)=false):
  PE X (.Call (.Name x p) (e::es) [] pos) (Y7 sp dvs E t):=by
 intro a s z H Q I h;refine H9 (Jf8 I i j ?_ b);refine Qk (h₀:=X.base) I.ok.mod.kin l (thn (w pos a s z H _ I h) λA J ⟨L,H1,d,r,q⟩=>⟨d.kIn,?_⟩) y c;exact Jjg F g n u v d r q
def Jos(F:W1 X.prog X.w X.K X.mg X.base CX k f fd ps sp)(c:V9 k X.A)(d:Gl X x)(g:X.mg x=some (.ref f))(i:D6 X.K (.ref f)=true)(j:Binds X.K fd ps ds)(l:Vals dvs ds)(n:W0 CX X E)
  (a:(x==("__debug__":Str))=false):PE X (.Call (.Name x p) [] [] pos) (Y7 sp dvs E Y3):=by
 intro b s r H Q I h;refine H9 (Jf8 I d g ?_ a);exact Lf I.kIn i (Jjg (us:=[]) F c j l n I .nil h)
def Jtr(y:PE X o ta)(c:Cls X.K C)(i:Meth X.K C m f)(F:W1 X.prog X.w X.K X.mg X.base CX k f fd ps sp)(z:V9 k X.A)(A:Binds X.K fd ps ds)(J:Vals dvs ds)(L:W0 CX X E)(N:PA X (e::es) t)
  (d:B4 (e::es) X.env=(false,eval e X.env)::B4 es X.env)(g:(Ga pos (B4 es X.env)).any (·.1)=false)
  (U:eval (.Call (.Attribute o m apos) (e::es) [] pos) X.env=(do
   let j<-eval o X.env
   N2 apos.atName
   let(f,first)<-holding [j] (getMethod j m pl)
   callWith pos f first (Ga pos (B4 (e::es) X.env)) (N6 pos (K3 [] X.env)))):
  PE X (.Call (.Attribute o m apos) (e::es) [] pos) (Y4 C m sp dvs E ta t):=by
 intro b s n H Q I h;refine O9 (pl:=pl) (thn (y b s n H _ I h) λu Y q_=>?_) U;obtain⟨x,H1,v,rx,a,dx,fs,ex,ea,l,q⟩:=q_;subst ex;obtain rfl:u=As a:=rx;refine Jfn v ea c i l ?_;refine Qk (first:=[.ref a]) (h₀:=X.base) I.ok.mod.kin i.kp (thn (N pos b Y n H1 _ v q) λus s2 ⟨vs,H2,w,r,q2⟩=>⟨w.kIn,?_⟩) d g;exact Jjg (us:=.ref a::us) (vs:=.ref a::vs) F z A J L w (.cons rfl r) q2
def Jok(j:PE X o ta)(c:Cls X.K C)(g:Meth X.K C m f)(F:W1 X.prog X.w X.K X.mg X.base CX k f fd ps sp)(n:V9 k X.A)(r:Binds X.K fd ps ds)(v:Vals dvs ds)(w:W0 CX X E)
  (y:eval (.Call (.Attribute o m apos) [] [] pos) X.env=(do
   let i<-eval o X.env
   N2 apos.atName
   let(f,first)<-holding [i] (getMethod i m pl)
   callWith pos f first (Ga pos (B4 [] X.env)) (N6 pos (K3 [] X.env)))):
  PE X (.Call (.Attribute o m apos) [] [] pos) (Y4 C m sp dvs E ta Y3):=by
 intro b s z H Q I h;refine O9 (pl:=pl) (thn (j b s z H _ I h) λu U A=>?_) y;obtain⟨x,H1,d,J,a,Y,fs,L,N,l,q⟩:=A;subst L;obtain rfl:u=As a:=J;refine Jfn d N c g l ?_;exact Lf (first:=[.ref a]) d.kIn g.kp (Jjg (us:=[.ref a]) (vs:=[.ref a]) F n r v w d (.cons rfl .nil) q)
structure Mk(K:Ag)(C f:Addr):Prop where
 makes:M8 K C=true
 init:Ds K (.ref C) "__init__"=some (some (.ref f))
 fn:L8 K (.ref f)=true
 kp:D6 K (.ref C)=true
theorem Jn5(M:Mk X.K C f)(F:W1 X.prog X.w X.K X.mg X.base CX k f fd ps sp)(l:V9 (k+1) X.A)(n:Binds X.K fd ps ds)(w:Vals dvs ds)
  (y:W0 CX X E)(I:Inv X b g H s)(r:Vals vs us)
  (h:∀x c,H x=none->H c=none->c≠x->sp (.ref x::(vs++dvs)) (upd (upd H c (.own x)) x (.ins C c [])) (λv H2=>v=.non/\Q (.ref x) H2) E):
  wpAny (model X.prog X.w) X.A (call (.ref C) us) (EP X b g Q) X.xe s:=by
 have i:=h (s.heap.objs.size+1) s.heap.objs.size (I.hok.fresh (Lv _)) (I.hok.fresh (Ai _)) (Ay (Dy _));have d:=Inv.made (C:=C) I;have j:Vals (V.ref (s.heap.objs.size+1)::(vs++dvs)) (As (s.heap.objs.size+1)::(us++ds)):=.cons rfl (r.append w);have z:(As (s.heap.objs.size+1)::us++ds).length=ps.length:=by
  have e:=j.length;rw[F.len _ _ _ _ i]at e;exact e.symm
 refine Us (Joz (f:=f) I.kIn M.makes M.init (beq_iff_eq.mp M.fn) (Gp (F.run _ X.stack _ _ ⟨As (s.heap.objs.size+1)::us,[]⟩ (As (s.heap.objs.size+1)::(us++ds)) _ _ E (l.make C us [])
  (d.env0.make C us []) (n _ (As (s.heap.objs.size+1)::us) d.kIn z) j i) λr A a=>?_))
 cases r with
 |error e=>exact y b g _ _ e A d a
 |ok J=>
  cases J with
  |ret u=>
   obtain⟨v,L,N,U,Y,q3⟩:=d.after a;subst Y;exact⟨U,⟨V.ref (s.heap.objs.size+1),L,N,rfl,q3⟩⟩
  |next=>exact E1 a
  |brk=>exact E1 a
  |cont=>exact E1 a
def Jol(M:Mk X.K C f)(F:W1 X.prog X.w X.K X.mg X.base CX k f fd ps sp)(c:V9 (k+1) X.A)(d:Gl X x)(g:X.mg x=some (.ref C))(i:Binds X.K fd ps ds)(j:Vals dvs ds)(l:W0 CX X E)
  (a:(x==("__debug__":Str))=false):PE X (.Call (.Name x p) [] [] pos) (Wbb C sp dvs E Y3):=by
 intro b s n H Q I h;refine H9 (Jf8 I d g ?_ a);exact Lf I.kIn M.kp (Jn5 (us:=[]) M F c i j l I .nil h)
end
section
variable {X:Cx} {CX:CXT} {k:Nat} {f C:Addr} {fd:Iq} {ps ks:List Str} {sp:Sp} {E:XK} {x m:Str} {p pos apos kpos:Pos} {e o:Expr} {es:List Expr} {kws:List Vo} {te ta:TE} {t tk:TA} {nm:Option Str}
variable {g:List Value->List Value->List Value} {gV:List V->List V->List V}
end
structure Ws(N P:List Str)(sc:Jk):Prop where
 kind:sc.kind=.function
 co:sc.isCoroutine=false
 gen:sc.isGenerator=false
 nd:N.Nodup
 pre:N.take P.length=P
 par:∀x∈P,sc.names.lookup x=some .local\/sc.names.lookup x=some .cell
 nofree:∀y∈sc.names,y.2≠ .free
theorem Jhw{kindOf:Str->Option Fs}:∀{a:List (Str×Value)} {m:Str->Option Value},(∀v,(x,v)∉a)->Rj kindOf a m x=m x
 |[],_,_=>rfl
 |(n,v)::r,m,h=>by
  unfold Rj;rw[Jhw λw b=>h w (A7 _ b)];split
  .have:x≠n:=by rintro rfl;exact h v Br
   simp[this]
  .rfl
theorem Jhy{kindOf:Str->Option Fs}:∀{a:List (Str×Value)} {m:Str->Option Value},(∀v,(x,v)∉a)->Rk kindOf a m x=m x
 |[],_,_=>rfl
 |(n,v)::r,m,h=>by
  unfold Rk;rw[Jhy λw b=>h w (A7 _ b)];split
  .rfl
  .have:x≠n:=by rintro rfl;exact h v Br
   simp[this]
theorem Jhx{kindOf:Str->Option Fs}:∀{P:List Str} {vs:List Value} {i:Nat} {m:Str->Option Value},P.Nodup->P[i]? =some x->vs[i]? =some v->kindOf x=some .local->
  Rj kindOf (P.zip vs) m x=some v
 |[],_,_,_,_,h,_,_=>by simp at h
 |_::_,[],_,_,_,_,h,_=>by simp at h
 |p::P,w::vs,0,m,c,a,b,d=>by
  simp at a b;subst a;subst b;show Rj kindOf ((p,w)::P.zip vs) m p=_;unfold Rj;rw[Jhw λv e=>(Cp.mp c).1 (Nz e).1,if_pos d];simp
 |p::P,w::vs,i+1,m,c,a,b,d=>by
  show Rj kindOf ((p,w)::P.zip vs) m x=_;unfold Rj;exact Jhx (i:=i) (Cp.mp c).2 (by simpa using a) (by simpa using b) d
theorem Jhz{kindOf:Str->Option Fs}:∀{P:List Str} {vs:List Value} {i:Nat} {m:Str->Option Value},P.Nodup->P[i]? =some x->vs[i]? =some v->kindOf x≠some .local->
  Rk kindOf (P.zip vs) m x=some v
 |[],_,_,_,_,h,_,_=>by simp at h
 |_::_,[],_,_,_,_,h,_=>by simp at h
 |p::P,w::vs,0,m,c,a,b,d=>by
  simp at a b;subst a;subst b;show Rk kindOf ((p,w)::P.zip vs) m p=_;unfold Rk;rw[Jhy λv e=>(Cp.mp c).1 (Nz e).1,if_neg d];simp
 |p::P,w::vs,i+1,m,c,a,b,d=>by
  show Rk kindOf ((p,w)::P.zip vs) m x=_;unfold Rk;exact Jhz (i:=i) (Cp.mp c).2 (by simpa using a) (by simpa using b) d
noncomputable def start(N:List Str)(vs:List V):St:=vs.map some++E2 (N.length-vs.length) none
noncomputable def Yz(CX:CXT)(P:Program)(w:World)(K:Ag)(mg:Str->Option Value)(base:Heap)(N:List Str)(b:Str)(a:Jk)(f:Addr)(cd:Value)(A:Bi)(outer:List Env)(s:Shared)(H:Hp)(E:XK):Cx where
 prog:=P
 w:=w
 K:=K
 mg:=mg
 base:=base
 A:=A.deeper (Np b a s.heap.objs.size f cd)
 N:=N
 s₀:=s
 H₀:=H
 env:=Np b a s.heap.objs.size f cd
 outer:=outer
 stack:=Np b a s.heap.objs.size f cd::outer
 ex:=[]
 calm:=true
 fn:=λ_=>true
 pn:=[]
 xe:=λe d=>wpAny (model P w) (A.deeper (Np b a s.heap.objs.size f cd)) (leaving (Np b a s.heap.objs.size f cd) e) (λ_ c=>CX outer H s E e c) (λg c=>CX outer H s E g c) d
def Jjz{sc:Jk}(h:sc.names.lookup x=some .cell):∃c,(cellsFrom n sc.names []).lookup x=some c:=by
 have q:=Oz sc.names n [] (.inl h);exact Ci.mp q
def Jme{CX:CXT}{P:Program}{w:World}{K:Ag}{mg:Str->Option Value}{base:Heap}{N ps:List Str}{j:Str}{d:Jk}{f:Addr}{cd:Value}{A:Bi}{g:List Env}{s I:Shared}{H:Hp}{E:XK}{us:List Value}{vs:List V}
  (S:Ws N ps d)(Q:A.handled=none)(e0:Yl P w K mg base A g s H)(hl:vs.length=ps.length)(r:Vals vs us)
  (x:InCallC s s.heap.objs.size (Rj (Np j d s.heap.objs.size f cd).kindOf (ps.zip us) λ_=>none) (cellsFrom (s.heap.objs.size+1) d.names []) (Rk (Np j d s.heap.objs.size f cd).kindOf (ps.zip us) λ_=>none) I):
  Inv (Yz CX P w K mg base N j d f cd A g s H E) [] (start N vs) H I:=by
 have U:ps.length<=N.length:=by have:=congrArg Dv S.pre;rw[Fv]at this;lia
 obtain⟨t,tk,rfl,J⟩:=x.done;have m:∀b:Addr,b∉(Yz CX P w K mg base N j d f cd A g s H E).ex:=λb z=>absurd (show b∈([]:List Addr)from z) (by simp);refine⟨⟨e0.mod,S.kind,rfl,rfl,Ai _,λy z c t l=>?_,λy hy=>?_,λy c _ h=>?_,λ_=>Q,Around.frames_deeper e0.frames,.inr ⟨rfl,rfl⟩,λb z=>absurd z (m b),e0.bs,e0.bsz,λb _ _=>m b,λb z=>absurd z (m b),e0.funs,e0.frf⟩,
  rfl,e0.bare,Un.kept J,⟨_,x.toInCall.ns,λi y v t l h3=>?_⟩,λy c h=>⟨_,x.cell y c h⟩,e0.hok.fresh (Ai _),λy c h=>?_,λp hp=>absurd (show p∈([]:List (Addr×Obj))from hp) (by simp),e0.hok.kept J,?_⟩
 .exact name_of_addr x.apart (Ep t) (Ep l)
 .have hy:d.names.lookup y=some .cell\/d.names.lookup y=some .free:=hy;rcases hy with hy|hy
  .exact Jjz hy
  .exact absurd rfl (S.nofree _ (Ep hy))
 .exact Ex (x.above y c (Ep h))
 .have C:i<vs.length:=by
   unfold start at l
   by_cases C:i<vs.length
   .exact C
   .rw[Aw (by simpa using C)]at l;rw[Fy]at l;split at l<;>cases l
  have Y:vs[i]? =some v:=by
   unfold start at l;rw[A0 (by simpa using C),Ao]at l;cases e:vs[i]? with
   |none=>rw[e]at l;cases l
   |some a=>rw[e]at l;cases l;rfl
  obtain⟨u,L,rv⟩:=r.get Y;have hp:ps[i]? =some y:=by
   rw[<-S.pre,Fq (by lia)];exact t
  have o:ps.Nodup:=by rw[<-S.pre];exact S.nd.sublist (Gu _ _)
  refine⟨u,rv,?_⟩;rcases S.par y (Au hp)with k|k
  .exact .inl ⟨k,Jhx o hp L k⟩
  .obtain⟨c,e⟩:=Jjz (n:=s.heap.objs.size+1) k;refine .inr ⟨.inl k,c,e,?_⟩;have q:=x.cell y c e;rw[Jhz o hp L (by show d.names.lookup y≠_;rw[k];decide)]at q;exact q
 .exact e0.hok.fresh (Ex (x.above y c (Ep h)))
 .unfold start;show _=N.length;rw[Ap,Ah,Ik]
  lia
theorem J0l{CX:CXT}{P:Program}{w:World}{K:Ag}{mg:Str->Option Value}{base:Heap}{k:Nat}{f:Addr}{name d:Str}{h:Arguments}{i:List Stmt}{a:Jk}{dV kV z pm g ct oc:Value}{an od:Option Addr}
  {Y:Array (Option Value)}{N ps:List Str}{sp:Sp}(lk:K.lookup f=some ⟨oc,od,.func (F0 name d h i a dV kV z pm an g ct),Y⟩)(hcd:Ia K g d=true)(S:Ws N ps a)
  (C:∀vs H Q E,sp vs H Q E->vs.length=ps.length)
  (l:∀(A:Bi) (c:List Env) (s:Shared) (H:Hp) (vs:List V) (Q:VK) (E:XK),V9 k (A.deeper (Np d a s.heap.objs.size f g))->sp vs H Q E->
   ∃t,PSs (Yz CX P w K mg base N d a f g A c s H E) i t/\t {nx:=λ_ H'=>Q .non H',rt:=Q} (start N vs) H):
  W1 P w K mg base CX (k+1) f (F0 name d h i a dV kV z pm an g ct) ps sp:=by
 refine⟨C,λA c s H args us vs Q E hr L hb r U=>?_⟩;have hl:=C _ _ _ _ U;have KX:K.In s.heap:=L.mod.kin.keeps λb o e=>(L.bs b o e).1;have lim:s.heap.NoLimit:=L.mod.nolimit.keeps λb o e=>(L.bs b o e).1;have m:∀y∈ps.zip us,a.names.lookup y.1=some .local\/(a.names.lookup y.1=some .cell/\((cellsFrom (s.heap.objs.size+1) a.names []).lookup y.1).isSome=true):=λ⟨n,v⟩ hy=>by
  rcases S.par n (Nz hy).1 with q|q
  .exact .inl q
  .exact .inr ⟨q,Oz _ _ _ (.inl q)⟩
 refine codeAny_call_function hr.depth (KX _ _ lk) rfl S.co S.gen rfl (PySem.W.codeRec_of KX hcd) (hb _ _ _ _ ?_);refine wpAny_newFunctionEnv_cells S.kind m λenv he s1 x=>?_;subst he;refine⟨lim.keeps x.toInCall.keep,codeAny_func ?_⟩;obtain⟨t,ht,hq⟩:=l A c s H vs Q E (hr.deeper _) U;have I:Inv (Yz CX P w K mg base N d a f g A c s H E) [] (start N vs) H s1:=Jme S hr.hd L hl r x;refine Ce (ht [] s1 (start N vs) H _ I hq) (λfl s' p=>?_) λe s' p=>p;have fin:∀{j:St} {H':Hp} {v:V} {u:Value},Inv (Yz CX P w K mg base N d a f g A c s H E) [] j H' s'->RelV v u->Q v H'->CE c P w H s Q u s':=
  λ{j H' v u} J rv q=>⟨v,H',J.os,J.bare,J.base,J.hok,rv,q⟩
 cases fl with
 |ret u=>
  obtain⟨v,j,H',J,rv,q⟩:=p;exact fin J rv q
 |next=>
  obtain⟨j,H',J,q⟩:=p;exact fin (v:=V.non) (u:=Cv) J rfl q
 |brk=>
  obtain⟨_,_,_,q⟩:=p;exact E1 q
 |cont=>
  obtain⟨_,_,_,q⟩:=p;exact E1 q
section
variable {X:Cx} {x:Str} {p pos:Pos} {e:Expr} {es:List Expr} {t:TA} {id T:String} {r:List V->Hp->VK->Prop}
def tCB(r:List V->Hp->VK->Prop)(t:TA):TE:=λa H Q=>t a H λb H1=>r b H1 Q
def Jjk(f:We X (.builtin id) r)(g:Gl X x)(i:X.mg x=none)(j:Dx x=some (.builtin id))(k:PA X (e::es) t)(l:x≠"__name__")(b:(x==("__debug__":Str))=false)
  (m:B4 (e::es) X.env=(false,eval e X.env)::B4 es X.env)(c:(Ga pos (B4 es X.env)).any (·.1)=false):PE X (.Call (.Name x p) (e::es) [] pos) (tCB r t):=by
 intro a s d H Q I h;refine H9 (Jck I g i j ?_ l b);exact Hq (thn (k pos a s d H _ I h) λn o ⟨u,H1,v,w,y⟩=>f a o d H1 u n Q v w y) m c
def Jlt(f:We X (.type T) r)(g:Gl X x)(i:X.mg x=none)(j:Dx x=some (.type T))(k:PA X (e::es) t)(l:x≠"__name__")(b:(x==("__debug__":Str))=false)
  (m:B4 (e::es) X.env=(false,eval e X.env)::B4 es X.env)(c:(Ga pos (B4 es X.env)).any (·.1)=false):PE X (.Call (.Name x p) (e::es) [] pos) (tCB r t):=by
 intro a s d H Q I h;refine H9 (Jck I g i j ?_ l b);exact Dl (thn (k pos a s d H _ I h) λn o ⟨u,H1,v,w,y⟩=>f a o d H1 u n Q v w y) m c
end
end L2
namespace HT
open PySem PyProof.Rows
section
open PySem.SeqAt
open PySem.AutoSeq1 (wpAny_loadPart')
open PySem.MeetsSeq PySem.MeetsSeq2 PySem.MeetsSeq3
end
section
variable {prog:Program} {w:World} {A:Bi} {E:Value->Shared->Prop} {s:Shared}
def Juz{vs a:List Value}{Q:Value->Shared->Prop}(r:IsTup s.heap t vs.toArray)(u:IsTup s.heap b a.toArray)(k:vs≠[])
  (v:a=[]->Q (.ref t) s)(x:a≠[]->Q (.ref s.heap.objs.size) {s with heap:=s.heap.push {cls:=.type "tuple",data:=.seq (vs++a).toArray}})
  (hsz:vs.length+a.length<=sizeLine):wpAny (model prog w) A (Gy .Add (.ref t) (.ref b)) Q E s:=by
 obtain⟨⟨cls,dd,data,sl⟩,i,l,n,m⟩:=id r;obtain⟨⟨o,d,data2,f⟩,c,g,p,h⟩:=id u;simp only at l m g h;subst l m g h;have e:vs.toArray++a.toArray=(vs++a).toArray:=by simp
 by_cases j:a=[]
 .exact Mo ⟨_,i,rfl⟩ ⟨_,c,rfl⟩ M6 Ox Ko J3 (Ju _ _)
   (tuple_addW1 t b vs.toArray a.toArray n p dd d sl f (by simpa using k) (by simp[j])) ⟨i,c,v j⟩
 .refine Mo ⟨_,i,rfl⟩ ⟨_,c,rfl⟩ M6 Ox Ko J3 (Ju _ _)
   (tuple_addW2 t b vs.toArray a.toArray n p dd d sl f (by simpa using k) (by simpa using j) (by rw[Aq,Aq];exact hsz)) ⟨i,c,?_⟩
  rw[e];exact x j
noncomputable def sIx(n d:Nat):Option Int->Nat
 |none=>d
 |some v=>if v<0 then(v+(n:Int)).toNat else min v.toNat n
theorem Jwe(n d:Nat)(b:d<=n)(o:Option Int):sIx n d o<=n:=by
 cases o with
 |none=>exact b
 |some v=>
  show(if v<0 then(v+(n:Int)).toNat else min v.toNat n)<=n
  by_cases a:v<0
  .rw[if_pos a];lia
  .rw[if_neg a];exact Nat.min_le_right _ _
def Jm2(v:Int)(n d:Nat):(if v<0 then max (v+(n:Int)) 0 else min v (n:Int))=((sIx n d (some v):Nat):Int):=by
 show(if v<0 then max (v+(n:Int)) 0 else min v (n:Int))=(((if v<0 then(v+(n:Int)).toNat else min v.toNat n):Nat):Int)
 by_cases a:v<0
 .simp only[if_pos a];lia
 .simp only[if_neg a];lia
def Jkv(lo a:Option Int)(n:Nat):Iu lo a 1 (n:Int)=(((sIx n 0 lo:Nat):Int),((sIx n n a:Nat):Int)):=by
 have b:¬((1:Int)<0):=by lia
 unfold Iu;simp only[b,if_false];refine Ol ?_ ?_
 .cases lo with
  |none=>rfl
  |some v=>exact Jm2 v n 0
 .cases a with
  |none=>rfl
  |some v=>exact Jm2 v n n
def Jkd(i j:Nat):Gf (i:Int) (j:Int) 1=j-i:=by
 unfold Gf;have a:(1:Int)>0:=by lia
 simp only[a,if_true,Int.ediv_one];split<;>lia
theorem Jff{Q:Option Int->Shared->Prop}(p:Mr v o)(h:Q o s):wpAny (model prog w) A (Builtin.Slice.slicePartIndex v) Q E s:=by
 cases p with
 |none=>exact slicePart_none h
 |int i t=>exact slicePart_int h
def Jbw{sl:Addr}{d e:Value}{lo a:Option Int}{n:Nat}{Q:Int×Int×Nat->Shared->Prop}(f:s.heap.IsSliceOf sl d e .none)(pl:Mr d lo)(g:Mr e a)
  (h:Q (((sIx n 0 lo:Nat):Int),1,sIx n n a-sIx n 0 lo) s):wpAny (model prog w) A (Mb (.ref sl) (pure (n:Int))) Q E s:=by
 obtain⟨os,b,i,c⟩:=id f;unfold Mb Builtin.Slice.sliceFields;refine Aa (Aa (Cj b c (x:=d) rfl (Aa (Cj b c (x:=e) rfl (Aa (Cj b c (x:=.none) rfl (Ab ?_)))))));refine Aa (slicePart_none ?_);show wpAny _ _ (if((1:Int)==0)=true then _ else _) _ _ s;rw[if_neg (by decide)];refine Aa (Jff pl (Aa (Jff g (Aa (Ab ?_)))));show wpAny _ _ (match Iu lo a 1 (n:Int)with|(lo,a)=>pure (lo,(1:Int),Gf lo a 1)) _ _ s;rw[Jkv lo a n];show wpAny _ _ (pure (((sIx n 0 lo:Nat):Int),(1:Int),Gf ((sIx n 0 lo:Nat):Int) ((sIx n n a:Nat):Int) 1)) _ _ s;rw[Jkd];exact Ab h
def Joh(xs:Array Value)(i k:Nat):((Cf k).filterMap λ(m:Nat)=>xs[((i:Int)+(m:Int)*1).toNat]?).toArray=((xs.toList.drop i).take k).toArray:=by
 have e:(λ(m:Nat)=>xs[((i:Int)+(m:Int)*1).toNat]?)=λm=>xs[i+m]? :=by
  funext m;have:((i:Int)+(m:Int)*1).toNat=i+m:=by lia
  rw[this]
 rw[e];have:=pick_run xs i k;rw[List.filterMap_map]at this;have a:((λx=>xs[x]?)∘λx=>i+x)=λm=>xs[i+m]? :=rfl;rw[a]at this;rw[this]
def Jde{t sl:Addr}{a:Array Value}{j k:Value}{lo c:Option Int}{Q:Value->Shared->Prop}(d:IsTup s.heap t a)(l:s.heap.IsSliceOf sl j k .none)(pl:Mr j lo)(n:Mr k c)
  (o:¬(sIx a.size 0 lo=0/\sIx a.size a.size c=a.size))
  (h:Q (.ref s.heap.objs.size) {s with heap:=s.heap.push {cls:=.type "tuple",data:=.seq ((a.toList.drop (sIx a.size 0 lo)).take (sIx a.size a.size c-sIx a.size 0 lo)).toArray}})
  (hsz:a.size<=sizeLine):wpAny (model prog w) A (Ls (.ref t) (.ref sl)) Q E s:=by
 have b:sizeOk (.seq ((a.toList.drop (sIx a.size 0 lo)).take (sIx a.size a.size c-sIx a.size 0 lo)).toArray):=by
  show((a.toList.drop (sIx a.size 0 lo)).take (sIx a.size a.size c-sIx a.size 0 lo)).toArray.size<=sizeLine;rw[Aq,Fv,Kr,Bs];omega
 have r:sIx a.size a.size c<=a.size:=Jwe _ _ (Ai _) c;obtain⟨os,e,f,p⟩:=id l;have g:s.TypeIs (.ref sl) "slice":=⟨os,e,f⟩
 unfold Ls
 try with_reducible refine Bj ?_
 first|refine Aa (Ab ?_)|skip
 refine Aa (Vd d.typeIs (by decide) ?_);refine Aa (By (name:=Ac "__getitem__") d.typeIs Co
  (Bp Co d.typeIs T5 ?_ (U7 _ _)))
 show wpAny _ _ (Ij (.ref t)>>=_) _ _ s;refine Aa (Nh d ?_);refine Aa (Gn g ?_);rw[if_pos (by decide)];refine Aa (Jbw l pl n ?_);have i:¬((((sIx a.size 0 lo:Nat):Int)==0&&(1:Int)==1&&(sIx a.size a.size c-sIx a.size 0 lo)==a.size)=true):=by
  intro q;rw[Aj,Aj]at q;have u:((sIx a.size 0 lo:Nat):Int)=0:=eq_of_beq q.1.1;have v:sIx a.size a.size c-sIx a.size 0 lo=a.size:=eq_of_beq q.2;exact o ⟨by omega,by omega⟩
 show wpAny _ _ (if(((sIx a.size 0 lo:Nat):Int)==0&&(1:Int)==1&&(sIx a.size a.size c-sIx a.size 0 lo)==a.size)=true then _ else _) _ _ s;rw[if_neg i,Joh]
 first
  |exact Aa (m:=Gs _) (B8 (Ab ⟨_,rfl,Ab h⟩) b)
  |exact Aa (m:=Gs _) (B8 (Aa (Ab (Ab ⟨_,rfl,Ab h⟩))) b)
  |exact Aa (Aa (m:=Gs _) (B8 (Ab (Ab ⟨_,rfl,Ab h⟩)) b))
  |exact Aa (Aa (m:=Gs _) (B8 (Ab ⟨_,rfl,Ab h⟩) b))
end
end HT
namespace L2
open PySem PySem.Spec PyProof.Rows
abbrev TO:=St->Hp->(Option Int->Hp->Prop)->Prop
def PO(X:Cx)(e:Option Expr)(t:TO):Prop:=
 ∀(a:List (Addr×Obj)) (s:Shared) (b:St) (H:Hp) (Q:Option Int->Hp->Prop),Inv X a b H s->t b H Q->
  wpAny (model X.prog X.w) X.A (evalPart e X.env) (λu d=>∃o c,Inv X a b c d/\Mr u o/\Q o c) X.xe s
def Zu:TO:=λ_ H Q=>Q none H
def Wa8(t:TE):TO:=λa H Q=>t a H λx H1=>∃i,x=.int i/\Q (some i) H1
section
variable {X:Cx} {e:Expr} {te:TE} {lo hi:Option Expr} {tl th:TO} {pos p2:Pos}
def Jtk:PO X none Zu:=by
 intro a s b H Q I h;rw[evalPart_none];exact Ab ⟨none,H,I,.none,h⟩
def Jtj(h:PE X e te):PO X (some e) (Wa8 te):=by
 intro a s b H Q I c;rw[evalPart_some];refine thn (h a s b H _ I c) λu j ⟨x,H1,d,f,g⟩=>?_;obtain⟨i,rfl,q⟩:=g;obtain⟨t,rfl⟩:=f;exact⟨some i,H1,d,.int i t,q⟩
def SlR(X:Cx)(r:V->Option Int->Option Int->Hp->VK->Prop):Prop:=
 ∀(a:List (Addr×Obj)) (s:Shared) (b:St) (H:Hp) (x:V) (v c d:Value) (lo hi:Option Int) (sl:Addr) (Q:VK),Inv X a b H s->RelV x v->s.heap.IsSliceOf sl c d .none->Mr c lo->Mr d hi->r x lo hi H Q->
  ∃T id,typeLookup (.type T) "__getitem__"=pure (some (.builtin id))/\s.TypeIs v T/\wpAny (model X.prog X.w) X.A (Ls v (.ref sl)) (EP X a b Q) X.xe s
def tSl(r:V->Option Int->Option Int->Hp->VK->Prop)(te:TE)(tl th:TO):TE:=λa H Q=>te a H λx H1=>tl a H1 λl H2=>th a H2 λu b=>r x l u b Q
def Joj{r:V->Option Int->Option Int->Hp->VK->Prop}(j:SlR X r)(k:PE X e te)(m:PO X lo tl)(n:PO X hi th):PE X (.Subscript e (.Slice lo hi none p2) pos) (tSl r te tl th):=by
 intro a s d H Q I h;refine Subscript_ (thn (k a s d H _ I h) λv o ⟨x,H1,p,t,w⟩=>?_);refine wpAny_Slice (thn (m a o d H1 _ p w) λf y ⟨l,H2,z,pl,A⟩=>thn (n a y d H2 _ z A) λg c ⟨u,i,C,E,J⟩=>?_);rw[evalPart_none];refine Ab ?_;have L:Inv X a d i {c with heap:=c.heap.push {cls:=.type "slice",data:=.fields #[f,g,.none]}}:=C.kept (t':=c.toks) λb ob q=>Ad _ q;obtain⟨T,id,N,U,Y⟩:=j a {c with heap:=c.heap.push {cls:=.type "slice",data:=.fields #[f,g,.none]}} d i x v f g l u c.heap.objs.size Q L t (Vq ..) pl E J;show wpAny (model X.prog X.w) X.A (subscriptTail e (.Slice lo hi none p2) v (.ref c.heap.objs.size)) (EP X a d Q) X.xe {c with heap:=c.heap.push {cls:=.type "slice",data:=.fields #[f,g,.none]}};exact Md (ops:=[.ref c.heap.objs.size,v]) U N Y (by with_unfolding_all rfl)
def Yc(xs:List V)(lo hi:Option Int):List V:=(xs.drop (HT.sIx xs.length 0 lo)).take (HT.sIx xs.length xs.length hi-HT.sIx xs.length 0 lo)
def Je1(xs:List V)(lo hi:Option Int):(Yc xs lo hi).length<=xs.length:=by
 unfold Yc;rw[Fv,Kr];omega
def Wc1(K:Ag):V->Option Int->Option Int->Hp->VK->Prop:=λx lo hi H Q=>∃a b,x=.ref a/\SqT K H a b/\
 ¬(HT.sIx b.length 0 lo=0/\HT.sIx b.length b.length hi=b.length)/\∀p,H p=none->Q (.ref p) (upd H p (.tup (Yc b lo hi)))
def Jwa:SlR X (Wc1 X.K):=by
 intro g s t H x v u w lo hi sl Q I k l pl m h;obtain⟨a,d,rfl,n,p,q⟩:=h;cases k;obtain⟨f,r,i,j⟩:=I.tuple n;have c:f.toArray.size=d.length:=by rw[Aq];exact r.length.symm
 refine⟨"tuple",_,Co.lookup,i.typeIs,?_⟩;refine HT.Jde i l pl m (by rw[c];exact p) ?_ (by rw[c];exact j);rw[c];refine⟨.ref s.heap.objs.size,_,I.laid (t':=s.toks) (o:=.tup (Yc d lo hi)) (λb y q=>Ad _ q) (Ai _) ?_,rfl,q _ (I.hok.fresh (Ai _))⟩;exact⟨Bu (Je1 d lo hi) j,_,(r.drop (HT.sIx d.length 0 lo)).take (HT.sIx d.length d.length hi-HT.sIx d.length 0 lo),Sd _ _⟩
def Wbj(K:Ag):R2:=λx y H Q=>∃a b d c,x=.ref a/\y=.ref b/\SqT K H a d/\SqT K H b c/\d≠[]/\d.length+c.length<=sizeLine/\
 (c=[]->Q (.ref a) H)/\(c≠[]->∀p,H p=none->Q (.ref p) (upd H p (.tup (d++c))))
theorem Vals.nil_iff(r:Vals xs us):us=[]↔xs=[]:=by
 cases r with
 |nil=>simp
 |cons _ _=>simp
def Jt0:OpR X (Gy .Add) (Wbj X.K):=by
 intro f s J H x y v u Q I j k h;obtain⟨a,b,l,m,rfl,rfl,n,p,r,g,t,A⟩:=h;cases j;cases k;obtain⟨C,d,E,_⟩:=I.tuple n;obtain⟨i,c,p2,_⟩:=I.tuple p;refine HT.Juz E p2 (λz=>r (d.nil_iff.mp z)) (λz=>⟨.ref a,H,I,rfl,t (c.nil_iff.mp z)⟩) (λz=>?_) (by rw[<-d.length,<-c.length];exact g);refine⟨.ref s.heap.objs.size,_,I.laid (t':=s.toks) (o:=.tup (l++m)) (λb L q=>Ad _ q) (Ai _) ?_,rfl,A (λw=>z (c.nil_iff.mpr w)) _ (I.hok.fresh (Ai _))⟩;exact⟨by rw[Ap];exact g,_,d.append c,Sd _ _⟩
end
noncomputable def ixN(n:Nat)(i:Int):Option Nat:=if 0<=i then(if i<n then some i.toNat else none)else if -(n:Int)<=i then some (i+n).toNat else none
def atI{a:Type}(xs:List a)(i:Int):Option a:=(ixN xs.length i).bind λj=>xs[j]?
def Jmc(h:ixN n i=some j):seqIndex? i n=some j/\j<n/\ -(n:Int)<=i/\i<n:=by
 unfold ixN at h
 by_cases b:0<=i
 .rw[if_pos b]at h
  by_cases a:i<n
  .rw[if_pos a]at h;have e:i.toNat=j:=Bh h;exact⟨by rw[Sz b a,e],by lia,by lia,a⟩
  .rw[if_neg a]at h;cases h
 .rw[if_neg b]at h
  by_cases a: -(n:Int)<=i
  .rw[if_pos a]at h;have e:(i+n).toNat=j:=Bh h;exact⟨by rw[seqIndex_neg (by lia) a,e],by lia,a,by lia⟩
  .rw[if_neg a]at h;cases h
theorem Jne{a:Type}{xs:List a}{i:Int}{v:a}(h:atI xs i=some v):∃j,seqIndex? i xs.length=some j/\xs[j]? =some v/\j<xs.length/\ -(xs.length:Int)<=i/\i<xs.length:=by
 unfold atI at h;cases e:ixN xs.length i with
 |none=>rw[e]at h;cases h
 |some j=>
  rw[e]at h;obtain⟨b,c,d,f⟩:=Jmc e;exact⟨j,b,h,c,d,f⟩
def Ys(b:Expr):Prop:=∀o i,subscripted b false o i=operate [o,i] (Ls o i)
def IxR(X:Cx)(r:R2):Prop:=
 ∀(c a:Expr) (b:List (Addr×Obj)) (s:Shared) (d:St) (H:Hp) (x y:V) (v u:Value) (Q:VK),Inv X b d H s->RelV x v->RelV y u->r x y H Q->
  subscripted a false v u=operate [v,u] (Ls v u)->wpAny (model X.prog X.w) X.A (subscriptTail c a v u) (EP X b d Q) X.xe s
def MtR(X:Cx)(id:String)(r:V->List V->Hp->VK->Prop):Prop:=
 ∀(a:List (Addr×Obj)) (s:Shared) (b:St) (H:Hp) (x:V) (c:List V) (v:Value) (d:List Value) (Q:VK),Inv X a b H s->RelV x v->Vals c d->r x c H Q->
  wpAny (model X.prog X.w) X.A (call (.builtin id) (v::d)) (EP X a b Q) X.xe s
section
variable {X:Cx} {a b:Expr} {ta tb:TE} {pos:Pos}
def Jz0(d:IxR X r)(e:PE X a ta)(f:PE X b tb)(g:Ys b):PE X (.Subscript a b pos) (tOp r ta tb):=by
 intro c s i H Q I h;exact Subscript_ (Wa0 e f I h λv u j x y H2 k l m q=>d a b c j i H2 x y v u Q k l m q (g _ _))
def Wc5(K:Ag):R2:=λx y H Q=>∃p c i v,x=.ref p/\y=.int i/\SqL K H p c/\atI c i=some v/\Q v H
def Wc4(K:Ag):R2:=λx y H Q=>∃p c i v,x=.ref p/\y=.int i/\SqT K H p c/\atI c i=some v/\Q v H
def Juc:IxR X (Wc5 X.K):=by
 intro e f c s m H x y v u Q I C E h n;obtain⟨p,xs,i,z,rfl,rfl,J,L,q⟩:=h;cases C;obtain⟨t,rfl⟩:=E;obtain⟨g,r,pl,hz⟩:=I.list J;obtain⟨j,d,N,h3,U,Y⟩:=Jne L;obtain⟨w,o,k⟩:=r.get N;have hl:=r.length;have hn:=Jhd;have fin:EP X c m Q w s:=⟨z,H,I,k,q⟩
 by_cases A:0<=i
 .have l:i.toNat=j:=by
   rw[Sz A Y]at d;exact Bh d
  exact item_listR pl.isList A (by lia) (by rw[l];simpa using o) fin n
 .have l:(i+(g.toArray.size:Int)).toNat=j:=by
   rw[seqIndex_neg (by lia) U]at d;rw[Aq,<-hl];exact Bh d
  exact Sa (x:=w) pl.isList.typeIs Vh.lookup
   (wpAny_getItem_list_neg (Q:=λr s'=>r=w/\EP X c m Q r s') pl.isList (by lia) (by rw[Aq]<;>lia) (by lia) (by rw[l];simpa using o) ⟨rfl,fin⟩) n
def Jx3:IxR X (Wc4 X.K):=by
 intro d e c s g H x y v u Q I k l h m;obtain⟨p,U,i,z,rfl,rfl,n,o,q⟩:=h;cases k;obtain⟨t,rfl⟩:=l;obtain⟨A,r,pl,Y⟩:=I.tuple n;obtain⟨j,C,E,h3,h4,h5⟩:=Jne o;obtain⟨w,J,f⟩:=r.get E;have L:=r.length;have hn:=Jhd;have fin:EP X c g Q w s:=⟨z,H,I,f,q⟩
 exact Sa (x:=w) pl.typeIs Co.lookup
  (getItem_tuple (j:=j) (Q:=λr N=>r=w/\EP X c g Q r N) pl (by lia) (by lia) (by rw[Aq,<-L];exact C) (by simpa using J) ⟨rfl,fin⟩) m
def Jkf(its:List Value)(n j:Nat)(u:Value):D7 (·.setIfInBounds j u) {cls:=.type "list",data:=.seq its.toArray n}={cls:=.type "list",data:=.seq (its.set j u).toArray n}:=by
 simp[D7]
inductive InvM (s:Shared) (p:Addr) (xs:List V):Prop
 |mk (its:List Value) (n:Nat) (_:Vals xs its) (_:s.heap.get? p=some {cls:=.type "list",data:=.seq its.toArray n}) (_:xs.length<=sizeLine):InvM s p xs
def Inv.lst(I:Inv X pins σ H s)(h:H p=some (.lst xs)):InvM s p xs:=by
 obtain⟨z,d,n,r,e⟩:=I.hok p _ h;exact⟨d,n,r,e,z⟩
def Inv.lstUpd{s:Shared}{ys:List V}{its its':List Value}{f:Obj->Obj}(I:Inv X pins σ H s)(h:H p=some (.lst xs))
  (g:s.heap.get? p=some {cls:=.type "list",data:=.seq its.toArray n})(d:f {cls:=.type "list",data:=.seq its.toArray n}={cls:=.type "list",data:=.seq its'.toArray n'})(r:Vals ys its')(hz:ys.length<=sizeLine)(t:Nat):
  Inv X pins σ (upd H p (.lst ys)) {s with heap:=s.heap.update p f,toks:=t}:=by
 have e:(s.heap.update p f).get? p=some {cls:=.type "list",data:=.seq its'.toArray n'}:=by
  rw[C2 f g (by rw[d]<;>rfl),d]
 refine I.write (x:=p) (e:=p) (by rw[h];trivial) (.inl rfl) (λb u j q=>(Et _ _ (Ef j)).trans q) ⟨_,e⟩ ?_;exact⟨hz,its',n',r,e⟩
def Wbi:V->V->V->Hp->(Hp->Prop)->Prop:=λo i v H Q=>∃p c k j,o=.ref p/\i=.int k/\H p=some (.lst c)/\ixN c.length k=some j/\Q (upd H p (.lst (c.set j v)))
def set_list:Wa1 X Wbi:=by
 intro c s z H o i v U Y u Q I A C E h;obtain⟨p,J,k,j,rfl,rfl,hp,L,q⟩:=h;cases A;obtain⟨t,rfl⟩:=C;obtain⟨d,n,r,f,N⟩:=I.lst hp;obtain⟨e,h2,m,w⟩:=Jmc L;have g:=r.length;have hn:=Jhd;have x:Inv X c z (upd H p (.lst (J.set j v))) {s with heap:=s.heap.update p (D7 (·.setIfInBounds j u))}:=
  I.lstUpd hp f (Jkf d n j u) (r.set E j) (by rw[Fd];exact N) s.toks
 by_cases y:0<=k
 .have l:k.toNat=j:=by
   rw[Sz y w]at e;exact Bh e
  exact PySem.W.ki_setAt f y (by lia) (by rw[Aq,<-g];exact w) (by rw[l];exact⟨_,x,q⟩)
 .have l:(k+(d.toArray.size:Int)).toNat=j:=by
   rw[seqIndex_neg (by lia) m]at e;rw[Aq,<-g];exact Bh e
  exact PySem.W.ki_setBack f (by lia) (by rw[Aq,<-g];exact m) (by lia) (by rw[l];exact⟨_,x,q⟩)
def Jg7(lo c:Option Int)(n:Nat):(Ji lo c none n).1=((HT.sIx n 0 lo:Nat):Int)/\(Ji lo c none n).2.1=((HT.sIx n n c:Nat):Int)/\(Ji lo c none n).2.2=1:=by
 refine⟨?_,?_,rfl⟩
 .cases lo with
  |none=>simp[Ji,HT.sIx]
  |some i=>
   simp only[Ji,HT.sIx,Rr,show(1:Int)>0 by decide,if_true]
   by_cases h:i<0
   .simp only[h,if_true]<;>lia
   .simp only[h,if_false]<;>lia
 .cases c with
  |none=>simp[Ji,HT.sIx]
  |some i=>
   simp only[Ji,HT.sIx,Rr,show(1:Int)>0 by decide,if_true]
   by_cases h:i<0
   .simp only[h,if_true]<;>lia
   .simp only[h,if_false]<;>lia
theorem Jf0(its:List Value)(lo c:Option Int):slicePick its.toArray lo c none=((its.drop (HT.sIx its.length 0 lo)).take (HT.sIx its.length its.length c-HT.sIx its.length 0 lo)).toArray:=by
 obtain⟨d,e,f⟩:=Jg7 lo c its.toArray.size;unfold slicePick;rw[d,e,f];simp only[sliceRange_one,pick_run,Aq]<;>rfl
def Wc2(K:Ag):V->Option Int->Option Int->Hp->VK->Prop:=λx lo d H Q=>∃a c,x=.ref a/\SqL K H a c/\∀p,H p=none->Q (.ref p) (upd H p (.lst (Yc c lo d)))
def Jli:SlR X (Wc2 X.K):=by
 intro f s p H x v t u lo e sl Q I i j pl k h;obtain⟨a,c,rfl,l,q⟩:=h;cases i;obtain⟨m,r,g,n⟩:=I.list l;have d:=r.length;refine⟨"list",_,Vh.lookup,g.isList.typeIs,?_⟩;refine wpAny_getItem_list_slice g.isList j pl k .none (by simp) ?_ (by rw[Aq]<;>lia);rw[Jf0,<-d];refine⟨.ref s.heap.objs.size,_,I.laid (t':=s.toks) (o:=.lst (Yc c lo e)) (λb w q=>Ad _ q) (Ai _) ?_,rfl,q _ (I.hok.fresh (Ai _))⟩;exact⟨Bu (Je1 c lo e) n,_,0,(r.drop (HT.sIx c.length 0 lo)).take (HT.sIx c.length c.length e-HT.sIx c.length 0 lo),Ak _ rfl⟩
noncomputable def Xr:V->Bool
 |.non=>true
 |.bl _=>true
 |.int _=>true
 |.str _=>true
 |_=>false
noncomputable def eqV:V->V->Bool
 |.non,.non=>true
 |.bl a,.bl b=>a==b
 |.bl a,.int b=>(if a then 1 else 0)==b
 |.int a,.bl b=>a==(if b then 1 else 0)
 |.int a,.int b=>a==b
 |.str a,.str b=>a==b
 |_,_=>false
theorem Jyh(e:RelV y u)(c:RelV x v)(f:Xr y=true)(fx:Xr x=true):F3 A s u v (eqV y x):=by
 cases y with
 |non=>
  cases e;cases x with
  |non=>cases c;exact Mh _
  |bl b=>cases c;exact SeqAt.EqAt.none_bool b
  |int b=>obtain⟨t,rfl⟩:=c;exact SeqAt.EqAt.none_int b t
  |str b=>obtain⟨t,rfl⟩:=c;exact SeqAt.EqAt.none_str b t
  |_=>exact fx9 (show false=true from fx)
 |bl a=>
  cases e;cases x with
  |non=>cases c;exact SeqAt.EqAt.bool_none a
  |bl b=>cases c;exact SeqAt.EqAt.bool_bool a b
  |int b=>obtain⟨t,rfl⟩:=c;exact SeqAt.EqAt.bool_int a b t
  |str b=>obtain⟨t,rfl⟩:=c;exact SeqAt.EqAt.bool_str a b t
  |_=>exact fx9 (show false=true from fx)
 |int a=>
  obtain⟨d,rfl⟩:=e;cases x with
  |non=>cases c;exact SeqAt.EqAt.int_none a d
  |bl b=>cases c;exact SeqAt.EqAt.int_bool a d b
  |int b=>obtain⟨t,rfl⟩:=c;exact SeqAt.EqAt.int_int a d b t
  |str b=>obtain⟨t,rfl⟩:=c;exact Pd a d b t
  |_=>exact fx9 (show false=true from fx)
 |str a=>
  obtain⟨d,rfl⟩:=e;cases x with
  |non=>cases c;exact SeqAt.EqAt.str_none a d
  |bl b=>cases c;exact SeqAt.EqAt.str_bool a d b
  |int b=>obtain⟨t,rfl⟩:=c;exact Pb a d b t
  |str b=>obtain⟨t,rfl⟩:=c;exact SeqAt.EqAt.str_str a d b t
  |_=>exact fx9 (show false=true from fx)
 |_=>exact fx9 (show false=true from f)
def Jhs:We X (.builtin "len") (λxs H Q=>∃p ys,xs=[.ref p]/\(SqL X.K H p ys\/SqT X.K H p ys)/\Q (.int ys.length) H):=by
 intro f s j H xs k Q I r h;obtain⟨p,ys,rfl,hq,q⟩:=h;obtain⟨u,rfl,g⟩:=vals1 r;cases g;have l:=Jhd;rcases hq with hq|hq
 .obtain⟨d,e,pl,i⟩:=I.list hq;have c:=e.length;exact Calls.call_len_list pl.isList (by simp only[Aq]<;>lia) ⟨.int ys.length,H,I.tok _,⟨s.toks+1,by rw[Aq,c]⟩,q⟩
 .obtain⟨d,e,pl,i⟩:=I.tuple hq;have c:=e.length;exact len_tuple pl (by simp only[Aq]<;>lia) ⟨.int ys.length,H,I.tok _,⟨s.toks+1,by rw[Aq,c]⟩,q⟩
def Jhr:We X (.type "list") (λxs H Q=>∃p ys,xs=[.ref p]/\(SqL X.K H p ys\/SqT X.K H p ys)/\∀l,H l=none->Q (.ref l) (upd H l (.lst ys))):=by
 intro i s y H xs A Q I r h;obtain⟨p,ys,rfl,hq,q⟩:=h;obtain⟨u,rfl,z⟩:=vals1 r;cases z;have fin:∀(c:List Value),Vals ys c->ys.length<=sizeLine->∀(d:Heap) (f:Nat),(∀b x,s.heap.get? b=some x->d.get? b=some x)->
   d.get? s.heap.objs.size=some {cls:=.type "list",dict:=none,data:=.seq c.toArray f,slots:= #[]}->EP X i y Q (.ref s.heap.objs.size) {s with heap:=d}:=λc g j d f k e=>
  ⟨.ref s.heap.objs.size,_,I.laid (t':=s.toks) k (Ai _) (show Vz X.prog X.w _ d _ (.lst ys)from⟨j,c,f,g,e⟩),rfl,q _ (I.hok.fresh (Ai _))⟩
 rcases hq with hq|hq
 .obtain⟨c,g,pl,j⟩:=I.list hq;have m:=g.length;obtain⟨o,t,v,n,w⟩:=pl.isList;exact call_list_seq p (.inl rfl) t v w (λd f k e=>fin c g j d f k e) (by simp only[Aq]<;>lia)
 .obtain⟨c,g,pl,j⟩:=I.tuple hq;have m:=g.length;obtain⟨o,t,v,n,w⟩:=pl;exact call_list_seq p (.inr rfl) t v w (λd f k e=>fin c g j d f k e) (by simp only[Aq]<;>lia)
def Jgm:We X (.type "tuple") (λxs H Q=>∃p ys,xs=[.ref p]/\((SqL X.K H p ys/\∀l,H l=none->Q (.ref l) (upd H l (.tup ys)))\/(SqT X.K H p ys/\Q (.ref p) H))):=by
 intro c s j H xs x Q I r h;obtain⟨p,ys,rfl,h⟩:=h;obtain⟨u,rfl,t⟩:=vals1 r;cases t;rcases h with⟨g,q⟩|⟨g,q⟩
 .obtain⟨d,i,pl,k⟩:=I.list g;have m:=i.length;refine call_tuple_list pl.isList (λf v=>?_) (by simp only[Aq]<;>lia);have n:Inv X c j H {s with heap:=f}:=I.kept (t':=s.toks) v;have w:Inv X c j (upd H f.objs.size (.tup ys)) {s with heap:=f.push {cls:=.type "tuple",data:=.seq d.toArray}}:=
   n.laid (t':=s.toks) (λb o e=>Ad _ e) (Ai _) (show Vz X.prog X.w _ _ _ (.tup ys)from⟨k,d,i,Sd _ _⟩)
  exact⟨.ref f.objs.size,_,w,rfl,q _ (n.hok.fresh (Ai _))⟩
 .obtain⟨d,i,pl,k⟩:=I.tuple g;exact call_tuple_same pl ⟨.ref p,H,I,rfl,q⟩
variable {o e:Expr} {es:List Expr} {to:TE} {t:TA} {name:Str} {apos cpos:Pos} {T id:String} {r:V->List V->Hp->VK->Prop}
end
def MtM(X:Cx)(id:String)(r:V->List V->Hp->VK->Prop):Prop:=
 ∀(a:List (Addr×Obj)) (s:Shared) (b:St) (H:Hp) (x:V) (c:List V) (v:Value) (d:List Value) (Q:VK),Inv X a b H s->RelV x v->Vals c d->r x c H Q->
  wpAny (model X.prog X.w) X.A (call (.builtin id) (v::d)) (EP X a b Q) X.xe s
def Vals.one(h:Vals [x] us):∃u,us=[u]/\RelV x u:=by
 cases h with|cons r t=>cases t;exact⟨_,rfl,r⟩
theorem Vals.zero:∀{us:List Value},Vals [] us->us=[]
 |_,.nil=>rfl
theorem Vals.dropLast{xs:List V}{us:List Value}(h:Vals xs us):Vals xs.dropLast us.dropLast:=by
 induction h with
 |nil=>exact .nil
 |cons r t a=>
  cases t with
  |nil=>exact .nil
  |cons q b=>exact .cons r a
theorem Jkr{c:Type}(l:List c):l.eraseIdx (l.length-1)=l.dropLast:=by
 induction l with
 |nil=>rfl
 |cons a r d=>
  cases r with
  |nil=>rfl
  |cons b r=>
   have e:(a::b::r).length-1=((b::r).length-1)+1:=by
    have f:(a::b::r).length=r.length+2:=rfl;have g:(b::r).length=r.length+1:=rfl
    lia
   rw[e,P0,d]
   all_goals rfl
section
variable {X:Cx} {pins:List (Addr×Obj)} {σ:St} {H:Hp} {s:Shared} {l b:Addr} {xs ys zs:List V}
def Inv.lset{its its':List Value}{f:Array Value->Array Value}(I:Inv X pins σ H s)(a:H l=some (.lst xs))
  (e:s.heap.get? l=some {cls:=.type "list",data:=.seq its.toArray n})(d:f its.toArray=its'.toArray)(g:Vals ys its')(hz:ys.length<=sizeLine):
  Inv X pins σ (upd H l (.lst ys)) {s with heap:=s.heap.update l (D7 f),toks:=t'}:=by
 have q:=PySem.IsL.update e f;rw[d]at q;refine I.write (x:=l) (e:=l) (by rw[a];exact trivial) (.inl rfl) (λk u h j=>(Et s.heap (D7 f) (Ef h)).trans j) ⟨_,q⟩ ?_;exact⟨hz,its',_,g,q⟩
def Inv.lnew{its:List Value}(I:Inv X pins σ H s)(a:Vals ys its)(hz:ys.length<=sizeLine):
  Inv X pins σ (upd H s.heap.objs.size (.lst ys)) {s with heap:=s.heap.push {cls:=.type "list",data:=.seq its.toArray},toks:=t'}:=
 I.laid (λ_ _ q=>Ad _ q) (Ai _) ⟨hz,its,0,a,Ak _ rfl⟩
def Inv.fresh(I:Inv X pins σ H s):H s.heap.objs.size=none:=I.hok.fresh (Ai _)
def Inv.lstM(I:Inv X pins σ H s)(a:H l=some (.lst xs)):xs.length<=sizeLine/\∃(its:List Value) (n:Nat),Vals xs its/\xs.length=its.length/\s.heap.get? l=some {cls:=.type "list",data:=.seq its.toArray n}:=by
 obtain⟨z,its,n,r,e⟩:=I.hok l _ a;exact⟨z,its,n,r,r.length,e⟩
end
section
variable {X:Cx}
def Zw:V->List V->Hp->VK->Prop:=λx b H Q=>∃l a y,x=.ref l/\b=[y]/\H l=some (.lst a)/\a.length<sizeLine/\Q .non (upd H l (.lst (a++[y])))
def Jlz:MtM X "list.append" Zw:=by
 intro b s i H x j v k Q I d f h;obtain⟨l,m,y,rfl,rfl,c,o,q⟩:=h;cases d;obtain⟨u,rfl,g⟩:=f.one;obtain⟨z,a,n,r,p,e⟩:=I.lstM c;refine Qj Qm ⟨_,e,rfl⟩ F.entry_list_append (F.args_list_append_2 _ _) (PySem.list_append l a.toArray n u (by rw[Aq];lia)) ⟨e,?_⟩;refine⟨.non,_,I.lset (its':=a++[u]) c e (by simp) (r.append (.cons g .nil)) ?_,rfl,q⟩;rw[Ap,C5]
 lia
def Wc3:V->List V->Hp->VK->Prop:=λx b H Q=>∃l a y,x=.ref l/\b=[]/\H l=some (.lst a)/\a[a.length-1]? =some y/\Q y (upd H l (.lst a.dropLast))
def Jxo:MtM X "list.pop" Wc3:=by
 intro d s p H x t v w Q I g i h;obtain⟨l,A,y,rfl,rfl,f,j,q⟩:=h;cases g;have b:=i.zero;subst b;obtain⟨z,a,n,r,k,e⟩:=I.lstM f;obtain⟨u,m,o⟩:=r.get j;have c:a.toArray[a.toArray.size-1]? =some u:=by
  show a.toArray[a.length-1]? =some u;rw[<-Bn,<-k];exact m
 refine Qj Rp ⟨_,e,rfl⟩ F.entry_list_pop (F.args_list_pop_1 _) (MeetsSeq.list_pop_last l a.toArray n u c (by rw[Aq];omega)) ⟨e,?_⟩;refine⟨y,_,I.lset (its':=a.dropLast) f e ?_ r.dropLast ?_,o,q⟩
 .show a.toArray.eraseIdxIfInBounds (a.toArray.size-1)=a.dropLast.toArray;rw[Aq,List.eraseIdxIfInBounds_toArray,Jkr]
 .rw[List.length_dropLast];omega
def Wc6:R2:=λx y H Q=>∃l b a zs,x=.ref l/\y=.ref b/\H l=some (.lst a)/\H b=some (.lst zs)/\a.length+zs.length<=sizeLine/\∀p,H p=none->Q (.ref p) (upd H p (.lst (a++zs)))
def Jxg:OpR X (Gy .Add) Wc6:=by
 intro d s t H x y v u Q I f g h;obtain⟨l,b,w,zs,rfl,rfl,i,j,A,q⟩:=h;cases f;cases g;obtain⟨z,c,n,r,C,e⟩:=I.lstM i;obtain⟨E,a,J,k,m,o⟩:=I.lstM j;refine PySem.P.add_list e o ?_ (by rw[Aq,Aq];lia);have p:c.toArray++a.toArray=(c++a).toArray:=by simp
 rw[p];exact⟨.ref _,_,I.lnew (t':=s.toks) (r.append k) (by rw[Ap];lia),rfl,q _ I.fresh⟩
end
section
variable {prog:Program} {w:World} {A:Bi} {E:Value->Shared->Prop} {s:Shared}
set_option maxRecDepth 100000 in
end
section
variable {X:Cx}
end
end L2
namespace Att
open PySem PySem.W PySem.Calls PyProof.Rows
theorem Jeu:∀(ns:List Int) (vs:List Value),WellAll P h vs (ns.map WData.int)->Se vs ns:=by
 intro ns
 induction ns with
 |nil=>
  intro vs w;rw[G5]at w;cases w;exact .nil
 |cons n ns c=>
  intro vs w;rw[Ax]at w;cases w with
  |cons a b=>
   cases a;exact .cons _ _ (c _ b)
theorem Jlk{l:Kg}(m:l.most=some n){h:Heap}
  (b:l.row.toRowW.claim.pre args=true)(j:WellAll P h c args):
  ∃a vs ns,c=[As a]/\args=[WData.list (ns.map WData.int)]/\h.get? a=some {cls:=.type "list",data:=.seq vs.toArray}/\Se vs ns/\ns.length<=n:=by
 have hsh:WShape.hasAll [] args [.list .int]=true:=(pre_splitW b).1;have k:l.pre.holds [] {args:=args}=true:=(pre_splitW b).2;obtain⟨d,r,rfl,o,p⟩:=hasAllW_cons hsh;obtain rfl:=hasAllW_nil p;obtain⟨x,rfl,s⟩:=hasW_list o;obtain⟨ns,rfl⟩:=items_int s;have e:ns.length<=n:=by
  unfold OpenLaw.pre at k;have g:(WTm.not (.lt (.lit (.int (n:Int))) (.len (.arg 0)))).holds [] {args:=[.list (ns.map .int)]}=true:=by
   have g:=(holds_andW k).1;rw[m]at g;exact g
  have i:=condW_of g (w_not (w_lt w_lit (w_len_list (w_arg rfl))));rw[Ah]at i;refine Nat.le_of_not_lt λq=>?_;have t:(n:Int)<((ns.length:Nat):Int):=by omega
  first
   |(rw[decide_eq_true t]at i;exact absurd i (by decide))
   |(simp at i;omega)
 cases j with
 |cons u v=>
  cases v;cases u with
  |list w f=>exact⟨_,_,ns,rfl,rfl,w,Jeu ns _ f,e⟩
theorem Jlp(l:Kg)(args:List WData):l.row.toRowW.claim.post args (.bool true) args=true:=
 postW_of (r:=l.row.toRowW) (X:=(true==true))
  (show Vl [] (.bool true) .bool=true by first|rfl|decide|simp[Vl,WShape.arms,WShape.armsAll])
  (show(WTm.eq .res (.lit (.bool true))).value [] {args:=args,res:=some (.bool true),after:=args}=some (.bool (true==true))from w_eq_bool (w_res rfl) w_lit) rfl
def Ji4{l:Kg}{XP:(Str->Option Value)->Heap->Prop}{YP:World->Heap->Prop}{d:U6}
  (A:l.most=some n)(m:d.params.defaults=[])
  (call:∀(w:World) (c b:Shared) (mg p:Str->Option Value) (fa:Addr) (o:Obj) (s cd e:Value) (a:Addr) (vs:List Value) (ns:List Int),
   Ground q loose [] XP w c mg p b.heap->YP w b.heap->
   b.heap.get? fa=some o->o.data=.func (docDef d.name d.params d.body d.scope s cd e)->b.heap.CodeRec cd d.name->mg d.name=some (.ref fa)->
   b.heap.get? a=some {cls:=.type "list",data:=.seq vs.toArray}->Se vs ns->ns.length<=n->b.gens= #[]->
   Hk (model l.prog w) My (.call (.ref fa) ⟨[.ref a],[]⟩) (λr k=>r=.ok (.ret (.bool true))/\OldK b.heap k.heap/\k.os=b.os/\Lu k.gens) b):
  Nf q loose XP YP l.row.toRowW d [] (λf vs=>N5 f vs):=by
 intro w c b mg p G Y fa o s cd e C kV E H t x u I args y as h z J v L;obtain rfl:C=.none:=Dflts.none x m;obtain rfl:kV=.none:=Dflts.noKw x;obtain⟨a,vs,ns,rfl,rfl,i,g,j⟩:=Jlk A h v;refine enter_call (Gp (call w c b mg p fa o s cd e a vs ns G Y E (fd_plain H) t u i g j I) λr k N=>?_);obtain⟨rfl,Q,U,h4⟩:=N;exact⟨.inl ⟨.bool true,.bool true,[],rfl,λ_=>rfl,.bool true,Jlp l _,λ_=>⟨Oq,λ_ hm=>(nomatch hm)⟩⟩,Q,U,h4⟩
section
variable {prog:Program} {w:World} {A:Bi} {E:Value->Shared->Prop} {s:Shared} {K:Frag}
end
end Att
namespace L2
open PySem PySem.Spec PyProof.Rows
theorem Jgz:∀{vs:List Value} {ns:List Int},Se vs ns->Vals (ns.map V.int) vs
 |_,_,.nil=>.nil
 |_,_,.cons n t h=>.cons ⟨t,rfl⟩ (Jgz h)
def Z5(H:Hp):Prop:=∀b,H b=none\/∃o a,H b=some (.frz o (.lst a))
theorem Jo5{K:Ag}{mg U:Str->Option Value}{x:Str}{c:Shared}{vs:List Value}{ns:List Int}
  (KX:K.In c.heap)(p:c.heap.Ns Bg mg)(f:c.heap.Ns Uy U)(Y:∀x:Str,x≠"__name__"->U x=Dx x)(t:c.heap.NoLimit)(hg:c.gens= #[])
  (Q:c.heap.get? a=some {cls:=.type "list",data:=.seq vs.toArray})(hi:Se vs ns)(hl:ns.length<=sizeLine)(hr:V9 k My)
  (F:∀base:Heap,K.In base->base.Ns Bg mg->W1 P w K mg base CX k fa fd [x] sp)(l:∀(s:Shared) (u:Value),Vs s fd ⟨[u],[]⟩ [(x,u)])
  (hsp:∀H:Hp,Z5 H->SqL K H a (ns.map V.int)->sp [.ref a] H (λv _=>v=.bl true) λ_ _ _=>False)
  (hCX:∀H e g,CX [] H c (λ_ _ _=>False) e g->False):
  Hk (model P w) My (.call (.ref fa) ⟨[.ref a],[]⟩) (λr g=>r=.ok (.ret (.bool true))/\OldK c.heap g.heap/\g.os=c.os/\Lu g.gens) c:=by
 have rv:=Jgz hi;have y:=hi.length;have j:∀H:Hp,Z5 H->SqL K H a (ns.map V.int)->HOk P w H c.heap->(∀b,H b≠none->b=a)->(H a≠none->K.lookup a=none)->
   Hk (model P w) My (.call (.ref fa) ⟨[.ref a],[]⟩) (λr g=>r=.ok (.ret (.bool true))/\OldK c.heap g.heap/\g.os=c.os/\Lu g.gens) c:=by
  intro H hO hS A hA hK;have Je5:∀{b:Addr} {o:Obj},c.heap.get? b=some o->H b=none->(X6 c.heap H).get? b=some o:=λe n=>Jpi e n;have noA:∀{b:Addr} {o:Obj} {C:Array Cc} {E:Nat},c.heap.get? b=some o->o.data=.dict C E->H b=none:=λ{b o C E} e d=>by
   cases q:H b with
   |none=>rfl
   |some u=>
    have e':b=a:=hA b (by rw[q];simp);subst e';rw[Q]at e;cases e;have d':Data.seq vs.toArray _=Data.dict C E:=d;cases d'
  have i:∀{b:Addr} {m:Str->Option Value},c.heap.Ns b m->(X6 c.heap H).Ns b m:=λ{b m} ⟨o,C,E,e,d,r⟩=>⟨o,C,E,Je5 e (noA e d),d,r⟩
  have I:K.In (X6 c.heap H):=λb o e=>Je5 (KX b o e) (by
   cases q:H b with
   |none=>rfl
   |some u=>
    have e':b=a:=hA b (by rw[q];simp);subst e';rw[hK (by rw[q];simp)]at e;cases e)
  have hM:Mod K mg (X6 c.heap H):=⟨I,i p,⟨U,i f,Y⟩,let⟨mc,h1,h2⟩:=t;⟨mc,i h1,h2⟩⟩
  have e0:Yl P w K mg (X6 c.heap H) My [] c H:=⟨rfl,hM,λb o e=>Jt2 e,Nb (Jml _ _),trivial,λb f=>absurd (show b∈([]:List Addr)from f) (by simp),A,.of_eq hg⟩
  refine Gp ((F _ I (i p)).run My [] c H ⟨[.ref a],[]⟩ [.ref a] [.ref a] _ _ hr e0 (l c (.ref a)) (.cons rfl .nil) (hsp H hO hS)) λr g h=>?_;cases r with
  |error e=>exact(hCX H e g h).elim
  |ok fl=>
   cases fl with
   |next=>exact E1 h
   |brk=>exact E1 h
   |cont=>exact E1 h
   |ret u=>
    obtain⟨v,H',os,J,un,L,r',q⟩:=h;have q':v=.bl true:=q;subst q';obtain rfl:u=Jj true:=r';refine⟨rfl,OldK.of_keep λb o e=>?_,os,J⟩;cases q:H b with
    |none=>exact un.keep b o e q (by intro z;exact absurd (show b∈([]:List Addr)from z) (by simp)) (by simp)
    |some u=>
     rcases hO b with z|⟨ob,xs,z⟩
     .rw[q]at z;cases z
     .have z2:=un.frzs b ob _ z;obtain⟨e1,_⟩:=A b _ z;obtain⟨e2,_⟩:=L b _ z2;rw[e]at e1;cases e1;exact e2
 cases hk:K.lookup a with
 |some o=>
  have e:=KX a o hk;rw[Q]at e;cases e;refine j (λ_=>none) (λ_=>.inl rfl) (.inr ⟨_,vs.toArray,_,hk,rfl,rfl,rfl,by rw[Aq,y];exact hl,by simpa using rv⟩) (λb u z=>by have N:(none:Option HO)=some u:=z;cases N) (λb z=>absurd rfl z) λz=>absurd rfl z
 |none=>
  refine j (λb=>if b=a then some (.frz {cls:=.type "list",data:=.seq vs.toArray} (.lst (ns.map V.int)))else none) (λb=>?_) (.inl (.inr ⟨{cls:=.type "list",data:=.seq vs.toArray},if_pos rfl⟩)) (λb u z=>?_) (λb z=>?_) λ_=>hk
  .by_cases f:b=a
   .exact .inr ⟨_,_,if_pos f⟩
   .exact .inl (if_neg f)
  .by_cases f:b=a
   .have N:=(if_pos f).symm.trans z;cases N;subst f;exact⟨Q,by rw[Ah];exact hl,vs,_,rv,Q⟩
   .have N:=(if_neg f).symm.trans z;cases N
  .by_cases f:b=a
   .exact f
   .exact absurd (if_neg f) z
def Jr0{l:Kg}{XP:(Str->Option Value)->Heap->Prop}{YP:World->Heap->Prop}{d:U6}{K:Ip->Ag}{CX:World->CXT}{sp:World->Sp}
  (E:l.most=some n)(j:n<=sizeLine)(m:d.params.defaults=[])(I:V9 k My)
  (J:∀(w:World) (h:Heap),YP w h->(K w.params).In h)
  (F:∀(w:World) (mg:Str->Option Value) (fa:Addr) (h:Heap),(K w.params).In h->h.Ns Bg mg->mg d.name=some (.ref fa)->
   ∃p:Iq,(∀(s:Shared) (u:Value),Vs s p ⟨[u],[]⟩ [(x,u)])/\
    ∀base:Heap,(K w.params).In base->base.Ns Bg mg->W1 l.prog w (K w.params) mg base (CX w) k fa p [x] (sp w))
  (r:∀(w:World) (H:Hp) (a:Addr) (ns:List Int),ns.length<=n->Z5 H->SqL (K w.params) H a (ns.map V.int)->sp w [.ref a] H (λv _=>v=.bl true) λ_ _ _=>False)
  (t:∀(w:World) (H:Hp) (s:Shared) (e:Value) (y:Shared),CX w [] H s (λ_ _ _=>False) e y->False):
  Nf q loose XP YP l.row.toRowW d [] (λf vs=>N5 f vs):=by
 refine Att.Ji4 E m λw A g mg mb fa o pm cd L a vs ns G Y ho hd N z i c b Q=>?_;have C:=J w _ Y;obtain⟨p,U,hF⟩:=F w mg fa _ C G.T.g z;exact Jo5 C G.T.g G.T.b G.T.builtins G.T.nolimit Q i c (Bu b j) I hF U (λH hO hS=>r w H a ns b hO hS) λH e y=>t w H g e y
noncomputable def V7(s:Stmt):Arguments:=match s with
 |.FunctionDef _ a _ _ _ _ _ _ _ _=>a
 |_=>{posonlyargs:=[],args:=[],vararg:=none,kwonlyargs:=[],kw_defaults:=[],kwarg:=none,defaults:=[]}
noncomputable def V1(s:Stmt):List Stmt:=match s with
 |.FunctionDef _ _ b _ _ _ _ _ _ _=>b
 |_=>[]
noncomputable def defScope(s:Stmt):Jk:=match s with
 |.FunctionDef _ _ _ _ _ _ a _ _ _=>a
 |_=>{kind:=.function,names:=[],isGenerator:=false,isCoroutine:=false}
abbrev CX0:CXT:=λ_ _ _ _ _ _=>False
abbrev E0:XK:=λ_ _ _=>False
def Jlu:W0 CX0 X E0:=λ_ _ _ _ _ _ _ h=>h.elim
structure Fun(K:Ag)(x qual:Str)(st:Stmt)(f:Addr)(fd:Iq):Prop where
 ex:∃(oc:Value) (od:Option Addr) (kV doc pm:Value) (an:Option Addr) (cdv ct:Value) (osl:Array (Option Value)),
  fd=F0 x qual (V7 st) (V1 st) (defScope st) .none kV doc pm an cdv ct/\K.lookup f=some ⟨oc,od,.func fd,osl⟩/\Ia K cdv qual=true
 kp:D6 K (.ref f)=true
section
variable {P:Program} {w:World} {K:Ag} {mg:Str->Option Value} {base:Heap}
def Fun.ok{x qual:Str}{st:Stmt}{f:Addr}{fd:Iq}{N ps:List Str}{k:Nat}{sp:Sp}(F:Fun K x qual st f fd)(S:Ws N ps (defScope st))(c:∀vs H Q E,sp vs H Q E->vs.length=ps.length)
  (b:∀(cdv:Value) (A:Bi) (a:List Env) (s:Shared) (H:Hp) (vs:List V) (Q:VK) (E:XK),V9 k (A.deeper (Np qual (defScope st) s.heap.objs.size f cdv))->sp vs H Q E->
   ∃t,PSs (Yz CX0 P w K mg base N qual (defScope st) f cdv A a s H E).nox (V1 st) t/\t {nx:=λ_ H'=>Q .non H',rt:=Q} (start N vs) H):W1 P w K mg base CX0 (k+1) f fd ps sp:=by
 obtain⟨oc,od,kV,doc,pm,an,cdv,ct,osl,rfl,lk,d⟩:=F.ex;refine J0l lk d S c λA a s H vs Q E g e=>?_;obtain⟨t,h,q⟩:=b cdv A a s H vs Q E g e;exact⟨t,h.nox,q⟩
def Jrg{x a:Str}{st:Stmt}{f:Addr}{i:Value}{j an:Option Addr}{e:Array (Option Value)}{kV d g b h:Value}(l:K.lookup f=some ⟨i,j,.func (F0 x a (V7 st) (V1 st) (defScope st) .none kV d g an b h),e⟩)
  (c:Ia K b a=true)(k:D6 K (.ref f)=true):Fun K x a st f (F0 x a (V7 st) (V1 st) (defScope st) .none kV d g an b h):=⟨⟨i,j,kV,d,g,an,b,h,e,rfl,l,c⟩,k⟩
end
section
variable {X:Cx}
end
def Wdx{A B:Prop}(h:B):if false=true then A else B:=by
 rw[if_neg Ba];exact h
def Wdw{A B:Prop}(h:A):if true=true then A else B:=by
 rw[if_pos rfl];exact h
section
variable {prog:Program} {w:World} {A:Bi} {R:Mq->Shared->Prop} {s:Shared}
theorem Jhn{E:Value->Shared->Prop}(t:∀e s,E e s->notedBy (model prog w) A env (λx Q=>R (.error x) Q) e s)(I:Nat->Shared->Prop)
  (turn:∀n s,I n s->wpAny (model prog w) A (pyNext it) (λr b=>match r with
   |none=>R (.ok .next) b
   |some v=>wpAny (model prog w) A (Js a it v) (λ_ d=>wpAny (model prog w) A (assign a env v) (λ_ g=>
     wpAny (model prog w) A (forIn u true λc r=>if r=true then do let y<-isTrue c env (eval c env);pure (G7 y)else pure (G7 r)) (λy f=>
      if y=true then wpAny (model prog w) A (eval z env) (λx i=>
       wpAny (model prog w) A (call (.builtin "list.append") [C,x]) (λ_ j=>∃m,m<n/\I m j) E i) E f
      else∃m,m<n/\I m f) E g) E d) E b) E s)
  (n:Nat)(h:I n s):
  Hk (model prog w) A (.compLoop (.ListComp z [⟨a,H,u,0⟩] o pos) 0 it C env) R s:=by
 refine codeAny_loop rfl I (λn s U=>?_) n h;show wpAny _ A ((compTurn (.ListComp z [⟨a,H,u,0⟩] o pos) 0 it C env).onRaise (λx=>do noteFrame x env;theTreesLotGoes x)) _ _ s;refine wpAny_noted ?_;rw[compTurn_list];refine Aa (Nc (Aa (Ce (turn n s U) (λr b k=>?_) t)));cases r with
 |none=>exact Ab k
 |some v=>
  refine Aa (Ce k (λ_ d p=>?_) t);refine Aa (Ce p (λ_ g J=>Aa (Ce J (λy f l=>?_) t)) t);cases y with
  |false=>exact Ab ⟨rfl,l⟩
  |true=>
   exact Aa (Aa (Ce l (λx i L=>Aa (Ce L (λ_ j N=>Ab (Ab ⟨rfl,N⟩)) t)) t))
end
noncomputable def clOf(a:List (Str×Addr)):List (Str×Fs)->List (Str×Addr)->List (Str×Addr)
 |[],b=>b
 |(n,k)::r,b=>if k== .free then(match a.lookup n with|some c=>clOf a r ((n,c)::b)|none=>clOf a r b)else clOf a r b
theorem Jbf(env:Env):∀(a:List (Str×Fs)) (b:List (Str×Addr)),(∀x∈a,x.2=.free->∃c,env.cells.lookup x.1=some c)->
  (forIn a b (λ(x:Str×Fs) (g:List (Str×Addr))=>(match x with|(name,d)=>if d== .free then(do let c<-cellOf env name;pure (G7 ((name,c)::g)))else pure (G7 g):Sem (ForInStep (List (Str×Addr))))))=pure (clOf env.cells a b)
 |[],b,_=>rfl
 |(n,k)::r,b,h=>by
  have i:∀x∈r,x.2=.free->∃c,env.cells.lookup x.1=some c:=λx j=>h x (A7 _ j);simp only[Jc]
  by_cases e:(k==Ib)=true
  .obtain⟨c,l⟩:=h (n,k) Br (by simpa using e);have f:env.cells.lookup n=some c:=l;simp only[e,if_true,cellOf,f,pure_bind,clOf];exact Jbf env r _ i
  .simp only[e,Az,if_false,pure_bind,clOf];exact Jbf env r _ i
def Jda{a:Jk}{env:Env}(h:∀x∈a.names,x.2=.free->∃c,env.cells.lookup x.1=some c):Ux a env=pure (clOf env.cells a.names []):=by
 have e:=Jbf env a.names [] h;unfold Ux;simp only[bind_pure];refine Rx ?_ e;congr 1
theorem Jd9(a:List (Str×Addr)):∀(d:List (Str×Fs)) (b:List (Str×Addr)),(∀p∈b,a.lookup p.1=some p.2)->∀p∈clOf a d b,a.lookup p.1=some p.2
 |[],b,h,p,hp=>h p hp
 |(n,k)::r,b,h,p,hp=>by
  unfold clOf at hp;split at hp
  .split at hp
   .rename_i c f;refine Jd9 a r _ (λq g=>?_) p hp;rcases Am.mp g with e|e
    .subst e;exact f
    .exact h q e
   .exact Jd9 a r _ h p hp
  .exact Jd9 a r _ h p hp
theorem Jch(a:List (Str×Addr)):∀(c:List (Str×Fs)) (b:List (Str×Addr)) (p),p∈b->p∈clOf a c b
 |[],b,p,h=>h
 |(n,k)::r,b,p,h=>by
  unfold clOf;split
  .split
   .exact Jch a r _ p (A7 _ h)
   .exact Jch a r _ p h
  .exact Jch a r _ p h
theorem Jea(a:List (Str×Addr)):∀(b:List (Str×Fs)) (d:List (Str×Addr)) (x:Str) (c:Addr),(x,Ib)∈b->a.lookup x=some c->(x,c)∈clOf a b d
 |[],d,x,c,h,_=>by simp at h
 |(n,k)::r,d,x,c,h,e=>by
  unfold clOf;rcases Am.mp h with q|q
  .cases q;simp only[beq_self_eq_true,if_true,e];exact Jch a r _ _ Br
  .split
   .split
    .exact Jea a r _ x c q e
    .exact Jea a r _ x c q e
   .exact Jea a r _ x c q e
theorem Jf7{b:Type}{l:List (Str×b)}{x:Str}{c:b}(h:(x,c)∈l):∃a,l.lookup x=some a:=by
 induction l with
 |nil=>simp at h
 |cons p r f=>
  obtain⟨y,d⟩:=p
  by_cases e:(x==y)=true
  .exact⟨d,by simp[Du,e]⟩
  .have g:(x==y)=false:=by simpa using e
   rcases Am.mp h with q|q
   .cases q;simp at e
   .obtain⟨a,i⟩:=f q;exact⟨a,by simp[Du,g,i]⟩
def Jbu{a:List (Str×Addr)}(h:(clOf a b []).lookup x=some c):a.lookup x=some c:=
 Jd9 a b [] (λ_ h=>by simp at h) (x,c) (Ep h)
def Jho{a:List (Str×Addr)}(h:(x,Ib)∈b)(e:a.lookup x=some c):(clOf a b []).lookup x=some c:=by
 obtain⟨f,d⟩:=Jf7 (Jea a b [] x c h e);rw[d,<-Jbu d,e]
def Vz.upd_none(n:H b=none)(x:Vz P w H h a o):Vz P w (upd H b u) h a o:=
 x.stay (λ_ _ _ q=>q) (λc q=>by rw[Jad (Jan q n)];exact q) λc d q=>by rw[Jad (Jan q n)];exact q
def Inv.adopt{X:Cx}{s:Shared}(I:Inv X pins σ H s)(n:H d=none)(g:X.s₀.heap.objs.size<=d)(h:d≠X.env.locals)
  (j:∀x c,X.env.cells.lookup x=some c->c≠d)(k:∀p∈X.pn++pins,p.1≠d)(new:Vz X.prog X.w (upd H d o) s.heap d o):Inv X pins σ (upd H d o) s:=by
 have l:HOk X.prog X.w (upd H d o) s.heap:=λb u e=>by
  by_cases a:b=d
  .subst a;rw[Jak]at e;cases e;exact new
  .rw[Jad a]at e;exact(I.hok b u e).upd_none n
 have q:=I.step (h':=s.heap) (H':=upd H d o) (g':=s.gens) (d':=s.drawn) (t':=s.toks) (ch:=[d]) (λb a=>by
   have e:b=d:=by simpa using a
   subst e;exact⟨.inr g,h,j,k⟩) (λb o _ _ _ e _=>e) (λb o _ _ _ e _=>⟨o.slots,e⟩) (λb u a e z=>by
   have f:b≠d:=λe=>a (by simp[e]);rw[Jad f];exact z) (λb o _ e=>⟨o,e⟩)
  (λb r e=>by rw[Jad (Jan e n)];exact e) (λb u r e=>by rw[Jad (Jan e n)];exact e) (λb y e=>⟨#[],by rw[Jad (Jan e n),e];simp⟩) (λm t=>t) l I.bare
 exact q
theorem Jcj(a:Jk)(env:Env)(x:Str):(relabel a env).names.lookup x=(a.names.lookup x).map λk=>if(k== .free&&env.scope.kind== .function&&env.kindOf x==some .cell)=true then .cell else k:=by
 show(a.names.map λ(n,k)=>if(k==Ib&&env.scope.kind== .function&&env.kindOf n==some .cell)then(n,R7)else(n,k)).lookup x=_;generalize a.names=l
 induction l with
 |nil=>rfl
 |cons p r c=>
  obtain⟨n,k⟩:=p;show Fi x ((if(k==Ib&&env.scope.kind== .function&&env.kindOf n==some .cell)=true then(n,R7)else(n,k))::_)=_;cases b:x==n with
  |true=>
   have e:x=n:=by simpa using b
   subst e;simp only[Du,beq_self_eq_true,F7];split<;>simp
  |false=>
   simp only[Du,b];split<;>(simp only[Du,b];exact c)
def V0(X:Cx)(e:List Str)(a:Jk)(b:Shared)(c:Hp)(ex:List Addr)(d:List (Addr×Obj))(xe:Value->Shared->Prop:=λ_ _=>False):Cx:=
 {X with N:=e,s₀:=b,H₀:=c,env:=compEnvC a (clOf X.env.cells a.names []) b.heap.objs.size X.env,outer:=X.stack,ex:=ex,fn:=λ_=>false,pn:=X.pn++d,xe:=xe}
noncomputable def X5(k:Nat)(keep:List Nat)(a:St):St:=E2 k none++keep.map λi=>(a[i]?).join
structure Wm(X:Cx)(N':List Str)(k:Nat)(keep:List Nat)(scope:Jk):Prop where
 kind:scope.kind=.function
 cell:∀y∈scope.names,y.2≠ .cell
 names:∀y∈scope.names,y.2=.local->scope.names.lookup y.1=some .local
 free:∀y∈scope.names,y.2=.free->X.env.scope.names.lookup y.1=some .cell\/X.env.scope.names.lookup y.1=some .free
 len:N'.length=k+keep.length
 kept:∀j i,keep[j]? =some i->∃x,N'[k+j]? =some x/\X.N[i]? =some x/\scope.names.lookup x=some .free
def Jb0{l:List (Str×Fs)}(h:l.lookup x=some k):(x,k)∈l:=Ep h
section
variable {X:Cx} {N':List Str} {k:Nat} {keep:List Nat} {scope:Jk} {pins:List (Addr×Obj)} {σ:St} {H H₃:Hp} {s s₃:Shared} {ex:List Addr} {xe:Value->Shared->Prop}
def Wm.clo(c:Wm X N' k keep scope)(a:X.Ok):∀y∈scope.names,y.2=.free->∃c,X.env.cells.lookup y.1=some c:=λy b d=>a.has y.1 (c.free y b d)
theorem Wm.inner(c:Wm X N' k keep scope)(h:(relabel scope X.env).names.lookup x=some .cell\/(relabel scope X.env).names.lookup x=some .free):scope.names.lookup x=some .free:=by
 rw[Jcj]at h;cases e:scope.names.lookup x with
 |none=>rw[e]at h;simp at h
 |some q=>
  rw[e]at h;have b:=c.cell _ (Jb0 e);simp only[F7,Ja]at h
  by_cases a:(q==Ib&&X.env.scope.kind== .function&&X.env.kindOf x==some .cell)=true
  .have:q=.free:=by
    simp only[Aj]at a
    simpa using a.1.1
   rw[this]
  .rw[if_neg a]at h;rcases h with h|h
   .exact absurd h b
   .rw[h]
def Inv.enter(c:Wm X N' k keep scope)(I:Inv X pins σ H s₃){h':Heap}{m:Str->Option Value}(U:h'.Ns s₃.heap.objs.size m)(J:∀b o,s₃.heap.get? b=some o->h'.get? b=some o)
  (l:∀b∈ex,b<s₃.heap.objs.size/\b≠X.env.locals/\b∉X.fs/\(b∈X.ex\/X.s₀.heap.objs.size<=b)/\∀x c,X.env.cells.lookup x=some c->c≠b):
  Inv (V0 X N' scope s₃ H ex pins xe) [] (X5 k keep σ) H {s₃ with heap:=h',toks:=t'}:=by
 have g:∀x r,(clOf X.env.cells scope.names []).lookup x=some r->X.env.cells.lookup x=some r:=λx r h=>Jbu h;have L:∀b∈ex,b∉frs X.stack:=λb C z=>by
  obtain⟨h0,Y,h2,_⟩:=l b C;rcases Am.mp (I.stkSub b z)with e|e
  .exact Y e
  .exact h2 e
 have cltb:∀x r,X.env.cells.lookup x=some r->r<s₃.heap.objs.size:=λx r e=>by
  obtain⟨v,q⟩:=I.cell x r e;exact q.lt
 refine⟨⟨I.ok.mod,c.kind,I.ok.glob,I.ok.blt,Ai _,?inj,?has,?cab,I.ok.hd,I.ok.frames,.inl rfl,?exf,I.bs,Bu I.ok.bsz I.sz,?Q,L,I.stack,I.stkFree⟩,rfl,I.bare,Un.kept J,?loc,?cell,?free,?freeC,?pin,I.hok.kept J,?len⟩
 case inj=>exact λx y a Y h2=>I.ok.inj x y a (g x a Y) (g y a h2)
 case has=>
  intro x hx;have e:scope.names.lookup x=some .free:=c.inner hx;obtain⟨a,ha⟩:=c.clo I.ok (x,.free) (Jb0 e) rfl;exact⟨a,Jho (Jb0 e) ha⟩
 case cab=>exact λx a hf=>absurd hf (by show¬(false=true);simp)
 case exf=>exact λb C=>⟨Ay (l b C).1,λx a e=>(l b C).2.2.2.2 x a (g x a e)⟩
 case Q=>
  intro b o e C;rcases(l b C).2.2.2.1 with z|z
  .exact I.ok.noex b o e z
  .exact absurd (Bl (An e) (Bu I.ok.bsz z)) (Ey _)
 case loc=>
  refine⟨m,U,λi x v e1 t e3=>?_⟩;have e1:N'[i]? =some x:=e1;unfold X5 at t
  by_cases hi:i<k
  .rw[A0 (by simpa using hi),Fy,if_pos hi]at t;cases t
  .rw[Aw (by simpa using hi),Ik,Ao]at t;cases ej:keep[i-k]? with
   |none=>rw[ej]at t;cases t
   |some j=>
    rw[ej]at t;have f:(σ[j]?).join=some v:=Bh t;have f:σ[j]? =some (some v):=by
     cases q:σ[j]? with
     |none=>rw[q]at f;cases f
     |some y=>rw[q]at f;exact congrArg some f
    obtain⟨x',p1,p2,p3⟩:=c.kept _ _ ej;have ex':k+(i-k)=i:=by omega
    rw[ex',e1]at p1;cases p1;have fr:=c.free _ (Jb0 p3) rfl;obtain⟨m0,hn0,hl0⟩:=I.loc;obtain⟨u,ru,lk⟩:=hl0 j x v p2 f (.inr fr);refine⟨u,ru,?_⟩;rcases lk with⟨E,_⟩|⟨_,a,ha,A⟩
    .exfalso;have E:X.env.scope.names.lookup x=some .local:=E;rcases fr with z|z
     .rw[z]at E;cases E
     .rw[z]at E;cases E
    .refine .inr ⟨e3.elim (λz=>?_) id,a,Jho (Jb0 p3) ha,?_⟩
     .exfalso;have z:(relabel scope X.env).names.lookup x=some .local:=z;rw[Jcj,p3]at z;simp only[F7,Ja]at z;split at z<;>cases z
     .obtain⟨o,ho,hd⟩:=A;exact⟨o,J _ _ ho,hd⟩
 case cell=>
  intro x a h;obtain⟨v,o,ho,hd⟩:=I.cell x a (g x a h);exact⟨v,o,J _ _ ho,hd⟩
 case free=>exact I.hok.fresh (Ai _)
 case freeC=>exact λx a h=>I.freeC x a (g x a h)
 case pin=>
  intro p hp;have hp:p∈X.pn++pins:=by simpa [V0]using hp
  obtain⟨e,n,ne,nf,d⟩:=I.pin p hp;refine⟨J _ _ e,n,Ay (An e),λz=>?_,d⟩;rcases Am.mp (I.stkSub p.1 z)with q|q
  .exact ne q
  .exact nf q
 case len=>
  show(X5 k keep σ).length=N'.length;rw[c.len];unfold X5;simp
structure X9(X:Cx)(pins:List (Addr×Obj))(σ:St)(H:Hp)(s₃:Shared)(ex:List Addr):Prop where
 inv:Inv X pins σ H s₃
 exo:∀b∈ex,b<s₃.heap.objs.size/\b≠X.env.locals/\b∉X.fs/\(b∈X.ex\/X.s₀.heap.objs.size<=b)/\∀x c,X.env.cells.lookup x=some c->c≠b
 pin:∀b∈ex,∀p∈X.pn++pins,p.1≠b
def Inv.leave(I:Inv X pins σ H₃ s₃)(J:Inv (V0 X N' scope s₃ H₃ ex pins xe) f g H s)
  (a:∀b∈ex,b<s₃.heap.objs.size/\b≠X.env.locals/\b∉X.fs/\(b∈X.ex\/X.s₀.heap.objs.size<=b)/\∀x c,X.env.cells.lookup x=some c->c≠b)(d:∀b∈ex,∀p∈X.pn++pins,p.1≠b):
  Inv X pins σ H s:=by
 have u:Un (frs X.stack) ex H₃ H s₃.heap s.heap:=J.base;have h:s.os=s₃.os:=J.os;exact I.call' h u J.hok J.bare λb e=>⟨(a b e).2.2.2.1,(a b e).2.1,(a b e).2.2.2.2,d b e⟩
end
def PTs(X:Cx)(b:List Expr)(t:TT):Prop:=
 ∀(a:List (Addr×Obj)) (s:Shared) (d:St) (H:Hp) (Q:Bool->Hp->Prop),Inv X a d H s->t d H Q->
  wpAny (model X.prog X.w) X.A (forIn b true λc r=>if r=true then do let e<-isTrue c X.env (eval c X.env);pure (G7 e)else pure (G7 r)) (TP X a d Q) X.xe s
def Jtc:PTs X [] (λ_ H Q=>Q true H):=λa s b H Q I h=>wpAny_tests_nil ⟨H,I,h⟩
def Jtb(h:PT X c t):PTs X [c] t:=λa s b H Q I q=>wpAny_tests_one (h a s b H Q I q)
def Zr(J:It)(g:TG)(tc:TT)(te:TE)(Q:List V->Hp->Prop)(e:St)(H1:Hp):Prop:=
 ∃W:Nat->Nat->List V->St->Hp->Prop,(∃m,W 0 m [] e H1)/\∀i m c f H,W i m c f H->c.length<=sizeLine/\
  ((J.stop i H/\Q c H)\/(J.go i H/\∀x h,J.yld i H x h->g x f h λa H2=>tc a H2 λb j=>
   if b=true then te a j λy k=>∃d,d<m/\W (i+1) d (c++[y]) a k else∃d,d<m/\W (i+1) d c a j))
def Own(X:Cx)(a:List (Addr×Obj))(H:Hp)(b:Addr):Prop:=
 H b=none/\X.s₀.heap.objs.size<=b/\b≠X.env.locals/\(∀x c,X.env.cells.lookup x=some c->c≠b)/\∀p∈X.pn++a,p.1≠b
def Inv.own{s:Shared}(I:Inv X pins σ H s)(a:s.heap.objs.size<=b)(d:H' b=none):Own X pins H' b:=by
 obtain⟨e,f,j,k,g,h⟩:=I.fpOk a d;exact⟨e,Bu I.sz a,f,g,h⟩
structure Wab(P:Program)(w:World)(K:Ag)(tg:Expr)(J:It)(fp:List Addr)(it:Addr)(tn:Nat->Heap->Prop)(cm:Cx->Prop):Prop where
 obj:∀n g,tn n g->∀a∈fp,∃u,g.get? a=some u/\∀v,u.data≠ .cell v
 keep:∀n g g',tn n g->(∀a∈fp,∀u,g.get? a=some u->g'.get? a=some u)->tn n g'
 item:∀(Y:Cx),Y.prog=P->Y.w=w->Y.K=K->cm Y->∀(n:Nat) (ps:List (Addr×Obj)) (s:Shared) (σ:St) (H:Hp) (E:Value->Shared->Prop),Inv Y ps σ H s->(∀a∈fp,Xf Y ps H a)->tn n s.heap->J.go n H->
  wpAny (model P w) Y.A (pyNext (.ref it)) (λr s1=>∃u,r=some u/\wpAny (model P w) Y.A (Js tg (.ref it) u) (λ_ s2=>∃x H',Inv Y ps σ H' s2/\RelV x u/\J.yld n H x H'/\tn (n+1) s2.heap/\∀a∈fp,H' a=none) E s1) E s
 done:∀(Y:Cx),Y.prog=P->Y.w=w->Y.K=K->cm Y->∀(n:Nat) (ps:List (Addr×Obj)) (s:Shared) (σ:St) (H:Hp) (E:Value->Shared->Prop),Inv Y ps σ H s->(∀a∈fp,Xf Y ps H a)->tn n s.heap->J.stop n H->wpAny (model P w) Y.A (pyNext (.ref it)) (λr s1=>r=none/\Inv Y ps σ H s1) E s
 self:∀(B:Bi) (n:Nat) (s:Shared) (R:Value->Shared->Prop) (E:Value->Shared->Prop),tn n s.heap->R (.ref it) s->wpAny (model P w) B (pyIter (.ref it)) R E s
def Turn.toC{P:Program}{w:World}{K:Ag}{tg:Expr}{J:It}{fp:List Addr}{it:Addr}{tn:Nat->Heap->Prop}(T:Turn P w K tg J fp it tn):Wab P w K tg J fp it tn (λX=>X.calm=true):=⟨T.obj,T.keep,T.item,T.done,T.self⟩
section
variable {X:Cx} {N':List Str} {k:Nat} {keep:List Nat} {scope:Jk} {pins:List (Addr×Obj)} {σ:St} {H:Hp} {s:Shared}
def Jfs{fp:List Addr}{tn:Nat->Heap->Prop}{Q:List V->Hp->Prop}{RR:Value->Addr->Mq->Shared->Prop}{E:Value->Shared->Prop}{xe:Shared->Value->Shared->Prop}
  {cm:Cx->Prop}(c:Wm X N' k keep scope)(calm:∀j ex,cm (V0 X N' scope j H ex pins (xe j)))(I:Inv X pins σ H s)(T:Wab X.prog X.w X.K tg J fp it tn cm)(st:tn 0 s.heap)(hf:∀b∈fp,Xf X pins H b)
  (hg:∀j ex,PG (V0 X N' scope j H ex pins (xe j)) tg g)(hc:∀j ex,PTs (V0 X N' scope j H ex pins (xe j)) ifs tc)(he:∀j ex,X9 X pins σ H j ex->PE (V0 X N' scope j H ex pins (xe j)) elt te)
  (hE:∀j D e s',xe j e s'->notedBy (model X.prog X.w) X.A (compEnvC scope (clOf X.env.cells scope.names []) j.heap.objs.size X.env) (λx s''=>RR D j.heap.objs.size (.error x) s'') e s')
  (hW:Zr J g tc te Q (X5 k keep σ) H)
  (hRR:∀D C s' H' xs m,Inv X pins σ H' s'->Own X pins H' D->Own X pins H' C->D≠C->Vz X.prog X.w (upd H' D (.lst xs)) s'.heap D (.lst xs)->s'.heap.Ns C m->Q xs H'->RR (.ref D) C (.ok .next) s'):
  wpAny (model X.prog X.w) X.A (newList []) (λacc j=>wpAny (model X.prog X.w) X.A (newFunctionEnv scope X.env.globals (clOf X.env.cells scope.names []) [] X.env.qual none .none (some X.env)) (λcenv s₄=>cenv.frame=X.env.frame/\
   Hk (model X.prog X.w) X.A (.compStart (.ListComp elt [⟨tg,iter,ifs,0⟩] scope pos) 0 (.ref it) acc {cenv with scope:=relabel scope X.env}) (RR acc cenv.locals) s₄) E j) E s:=by
 refine B8 (wpAny_newFunctionEnv c.cell (by intro y hy;simp at hy) (λh₁ N U=>?_) c.kind);dsimp only at N U ⊢;generalize hH2:s.heap.push {cls:=.type "list",dict:=none,data:=.seq ([]:List Value).toArray}=H2 at N U ⊢;have I3:Inv X pins σ H {s with heap:=H2}:=I.kept (t':=s.toks) λb o e=>hH2▸Ad _ e;have hC:H2.objs.size=s.heap.objs.size+1:=by rw[<-hH2,Cq]
 have hlt:s.heap.objs.size<H2.objs.size:=by rw[hC];exact Dy _
 have hne:s.heap.objs.size≠H2.objs.size:=Ay hlt;have fpo:∀b∈fp,∃o,s.heap.get? b=some o/\∀v,o.data≠ .cell v:=T.obj _ _ st;have fplt:∀b∈fp,b<s.heap.objs.size:=λb t=>by
  obtain⟨o,e,_⟩:=fpo b t;exact An e
 have nD:H s.heap.objs.size=none:=I.hok.fresh (Ai _);have nC:H H2.objs.size=none:=I.hok.fresh (by lia);have oD:Own X pins H s.heap.objs.size:=I.own (Ai _) nD;have oC:Own X pins H H2.objs.size:=I.own (by lia) nC;have hkp:∀b o,H2.get? b=some o->h₁.get? b=some o:=λb o e=>U.extBut b o (Ay (An e)) (Ad _ e);have hex:∀b∈s.heap.objs.size::fp,b<({s with heap:=H2}:Shared).heap.objs.size/\b≠X.env.locals/\b∉X.fs/\(b∈X.ex\/X.s₀.heap.objs.size<=b)/\∀x c,X.env.cells.lookup x=some c->c≠b:=λb t=>by
  rcases Am.mp t with e|e
  .subst e;exact⟨hlt,oD.2.2.1,I.nofs (Ai _),.inr oD.2.1,oD.2.2.2.1⟩
  .obtain⟨f0,f1,f2,f3,f4,f5⟩:=hf b e;exact⟨Fm (fplt b e) hlt,f1,f2,f3,f4⟩
 have hpin:∀b∈s.heap.objs.size::fp,∀p∈X.pn++pins,p.1≠b:=λb t p hp=>by
  rcases Am.mp t with e|e
  .subst e;exact oD.2.2.2.2 p hp
  .exact(hf b e).2.2.2.2.2 p hp
 have Dstk:s.heap.objs.size∉frs X.stack:=λz=>by
  rcases Am.mp (I.stkSub _ z)with q|q
  .exact oD.2.2.1 q
  .exact I.nofs (Ai _) q
 generalize hY:V0 X N' scope {s with heap:=H2} H (s.heap.objs.size::fp) pins (xe {s with heap:=H2})=Y;have L:Y.prog=X.prog:=by subst hY;rfl
 have eW:Y.w=X.w:=by subst hY;rfl
 have eK:Y.K=X.K:=by subst hY;rfl
 have eA:Y.A=X.A:=by subst hY;rfl
 have eCalm:cm Y:=by subst hY;exact calm _ _
 have w:Y.env=compEnvC scope (clOf X.env.cells scope.names []) H2.objs.size X.env:=by subst hY;rfl
 have eXe:Y.xe=xe {s with heap:=H2}:=by subst hY;rfl
 have J0:Inv Y [] (X5 k keep σ) H {s with heap:=h₁,toks:=s.toks+([]:List (Str×Value)).length}:=by
  subst hY;exact I3.enter (t':=s.toks+([]:List (Str×Value)).length) c N hkp hex
 have fpY:∀{H':Hp} {q:List (Addr×Obj)},(∀b∈fp,H' b=none)->(∀p∈q,p.1=s.heap.objs.size)->∀b∈fp,Xf Y q H' b:=λ{H' q} hn hq b t=>by
  obtain⟨f0,f1,f2,f3,f4,f5⟩:=hf b t;have lt:=fplt b t;subst hY;refine⟨hn b t,Ay (Fm lt hlt),λz=>?_,.inl (A7 _ t),λx a e=>f4 x a (Jbu e),λp hp=>?_⟩
  .rcases Am.mp (I.stkSub b z)with q|q
   .exact f1 q
   .exact f2 q
  .rcases Bm.mp (show p∈(X.pn++pins)++q from hp)with z|z
   .exact f5 p z
   .rw[hq p z];exact Cy lt
 obtain⟨W,⟨m0,w0⟩,turn⟩:=hW
 let Iv:Nat->Shared->Prop:=λn s'=>∃i xs A H' l nn,Inv Y [] A H' s'/\tn i s'.heap/\(∀b∈fp,H' b=none)/\H' s.heap.objs.size=none/\Vals xs l/\s'.heap.get? s.heap.objs.size=some {cls:=.type "list",data:=.seq l.toArray nn}/\W i n xs A H'
 have hdD:∀{h':Heap},(∀b o,s.heap.get? b=some o->h'.get? b=some o)->True:=λ_=>trivial;have start:Iv m0 {s with heap:=h₁,toks:=s.toks+([]:List (Str×Value)).length}:=by
  refine⟨0,[],_,H,[],0,J0,T.keep _ _ _ st λb t o e=>hkp b o (hH2▸Ad _ e),λb t=>(hf b t).1,nD,.nil,?_,w0⟩;exact hkp _ _ (hH2▸Ak _ rfl)
 have loop:∀j:Shared,j={s with heap:=h₁,toks:=s.toks+([]:List (Str×Value)).length}->
   Hk (model X.prog X.w) X.A (.compLoop (.ListComp elt [⟨tg,iter,ifs,0⟩] scope pos) 0 (.ref it) (.ref s.heap.objs.size) (compEnvC scope (clOf X.env.cells scope.names []) H2.objs.size X.env))
    (RR (.ref s.heap.objs.size) H2.objs.size) j:=by
  rintro j rfl;refine Jhn (hE {s with heap:=H2} _) Iv (λn s' hI=>?_) m0 start;obtain⟨i,xs,A,H',l,nn,J',tn',fr',dn',rv,hl,w'⟩:=hI;obtain⟨hsz,alt⟩:=turn i n xs A H' w';rcases alt with⟨stop,q⟩|⟨go,step⟩
  .have z:=T.done Y L eW eK eCalm i [] s' A H' (xe {s with heap:=H2}) J' (fpY fr' (λ_ h=>by simp at h)) tn' stop;rw[eA]at z;have J'':Inv Y [(s.heap.objs.size,{cls:=.type "list",data:=.seq l.toArray nn})] A H' s':=J'.pins_of λp hp=>by
    have e:p=(s.heap.objs.size,{cls:=.type "list",data:=.seq l.toArray nn}):=by simpa using hp
    subst e;refine⟨hl,dn',?_,?_,λv h=>nomatch h⟩
    .rw[w];exact hne
    .subst hY;exact Dstk
   have z:=T.done Y L eW eK eCalm i _ s' A H' (xe {s with heap:=H2}) J'' (fpY fr' (λp hp=>by have e:p=_:=(Ar.mp hp);rw[e])) tn' stop;rw[eA]at z;refine Ce z (λr s4 ⟨hr,J4⟩=>?_) λ_ _ f=>f;subst hr;have hl4:=(J4.pin _ (Bx _ (Ar.mpr rfl))).1;have J5:Inv (V0 X N' scope {s with heap:=H2} H (s.heap.objs.size::fp) pins (xe {s with heap:=H2})) [(s.heap.objs.size,{cls:=.type "list",data:=.seq l.toArray nn})] A H' s4:=by rw[hY];exact J4
   have I4:Inv X pins σ H' s4:=I3.leave J5 hex hpin;obtain⟨mC,hnC,_⟩:=J4.loc;have cfree:=J4.free;rw[w]at hnC cfree;refine hRR _ _ s4 H' xs mC I4 ⟨dn',oD.2⟩ ⟨cfree,oC.2⟩ hne ⟨hsz,l,nn,rv,hl4⟩ hnC q
  .have J'':Inv Y [(s.heap.objs.size,{cls:=.type "list",data:=.seq l.toArray nn})] A H' s':=J'.pins_of λp hp=>by
    have e:p=(s.heap.objs.size,{cls:=.type "list",data:=.seq l.toArray nn}):=by simpa using hp
    subst e;refine⟨hl,dn',?_,?_,λv h=>nomatch h⟩
    .rw[w];exact hne
    .subst hY;exact Dstk
   have z:=T.item Y L eW eK eCalm i _ s' A H' (xe {s with heap:=H2}) J'' (fpY fr' (λp hp=>by have e:p=_:=(Ar.mp hp);rw[e])) tn' go;rw[eA]at z;refine Ce z (λr s4 ⟨u,hr,h4⟩=>?_) λ_ _ f=>f;subst hr;refine Ce h4 (λ_ s5 ⟨x,H5,J5,r5,y5,tn5,fr5⟩=>?_) λ_ _ f=>f;have J5':=J5.pinned (fpY fr5 (λp hp=>by have e:p=_:=(Ar.mp hp);rw[e])) (T.obj _ _ tn5);have hg':PG Y tg g:=hY▸hg _ _;have hc':PTs Y ifs tc:=hY▸hc _ _;have he':PE Y elt te:=hY▸he _ _ ⟨I3,hex,hpin⟩;have g6:=hg' _ s5 A H5 x u _ J5' r5 (step x H5 y5);rw[eXe,eA,L,eW,w]at g6;refine Ce g6 (λ_ s6 ⟨σ6,H6,J6,q6⟩=>?_) λ_ _ f=>f;have c7:=hc' _ s6 σ6 H6 _ J6 q6;rw[eXe,eA,L,eW,w]at c7;refine Ce c7 (λok s7 ⟨H7,J7,q7⟩=>?_) λ_ _ f=>f;have fin:∀{s8:Shared} {σ8:St} {H8:Hp} {xs':List V} {its':List Value} {n' m':Nat},Inv Y [] σ8 H8 s8->tn (i+1) s8.heap->(∀b∈fp,H8 b=none)->H8 s.heap.objs.size=none->Vals xs' its'->
     s8.heap.get? s.heap.objs.size=some {cls:=.type "list",data:=.seq its'.toArray n'}->W (i+1) m' xs' σ8 H8->m'<n->∃m,m<n/\Iv m s8:=λa1 a2 a3 a4 a5 a6 a7 a8=>⟨_,a8,_,_,_,_,_,_,a1,a2,a3,a4,a5,a6,a7⟩
   have kp:∀{s8:Shared} {σ8:St} {H8:Hp},Inv Y ([(s.heap.objs.size,{cls:=.type "list",data:=.seq l.toArray nn})]++Xp fp s5.heap) σ8 H8 s8->
     tn (i+1) s8.heap/\(∀b∈fp,H8 b=none)/\H8 s.heap.objs.size=none/\s8.heap.get? s.heap.objs.size=some {cls:=.type "list",data:=.seq l.toArray nn}:=λ{s8 σ8 H8} J8=>by
    have p1:=J8.pin _ (Bx _ (Fh _ (Ar.mpr rfl)));refine⟨T.keep _ _ _ tn5 λb t o e=>(J8.pin (b,o) (Bx _ (Bx _ (Jcd t e)))).1,λb t=>?_,p1.2.1,p1.1⟩;obtain⟨o,e,d⟩:=T.obj _ _ tn5 b t;exact(J8.pin (b,o) (Bx _ (Bx _ (Jcd t e)))).2.1
   cases ok with
   |false=>
    simp only[Az,if_false]at q7 ⊢;obtain⟨m',hm,w7⟩:=q7;obtain⟨k1,k2,k3,k4⟩:=kp J7;exact fin (J7.pins_of λp hp=>by simp at hp) k1 k2 k3 rv k4 w7 hm
   |true=>
    simp only[if_true]at q7 ⊢;have e8:=he' _ s7 σ6 H7 _ J7 q7;rw[eXe,eA,L,eW,w]at e8;refine Ce e8 (λy s8 ⟨v8,H8,J8,r8,m',hm,w8⟩=>?_) λ_ _ f=>f;obtain⟨k1,k2,k3,k4⟩:=kp J8;have hl8:s8.heap.PlainList s.heap.objs.size l.toArray:=⟨nn,k4⟩
    refine wpAny_list_append_plain (hsz:=by have:=rv.length;simp only[Aq];lia) hl8 λh9 hl9 hs9=>?_;obtain⟨n9,e9⟩:=hl9;have J9:Inv Y [] σ6 H8 {s8 with heap:=h9}:=by
     have J8':Inv Y [] σ6 H8 s8:=J8.pins_of λp hp=>by simp at hp
     refine J8'.turned (t':=s8.toks) (it:=s.heap.objs.size) (λb o t e=>hs9.extBut b o t e) k3 ?_ ?_ ?_ ?_
     .rw[w];exact hne
     .subst hY;exact .inl Br
     .subst hY;exact λx a e=>oD.2.2.2.1 x a (Jbu e)
     .subst hY;intro p hp;exact oD.2.2.2.2 p (by simpa [V0]using hp)
    refine fin (n':=n9) (its':=l++[y]) J9 (T.keep _ _ _ k1 λb t o e=>hs9.extBut b o (Ay (fplt b t)) e) k2 k3 (rv.append (.cons r8 .nil)) ?_ w8 hm;show h9.get? _=_;rw[e9,List.push_toArray]
 exact⟨rfl,codeAny_compStart_list (loop _ rfl) (T.self _ 0 _ _ _ (T.keep _ _ _ st λb t o e=>hkp b o (hH2▸Ad _ e)) (loop _ rfl))⟩
end
def Ya(k:Nat)(keep:List Nat)(wi:TI)(g:TG)(tc:TT)(te:TE):TE:=λa H Q=>wi a H λJ H1=>
 Zr J g tc te (λc b=>∀p,b p=none->Q (.ref p) (upd b p (.lst c))) (X5 k keep a) H1
def compEnd(M:K5)(A:Bi)(E:Value->Shared->Prop)(use:Option (Value->Sem Unit))(Q:Value->Shared->Prop)(env:Env)(b:Value)(C:Addr)(r:Mq)(a:Shared):Prop:=match r with
 |.ok f=>compPost M A E use Q b C (.ok f) a
 |.error x=>∃m,a.heap.Ns C m/\∀c,Di C a.heap c->wpAny M A (Pp "comprehension.variables-let-go" x env:Sem Value) (λ_ _=>False) E {a with heap:=c}
section
variable {M:K5} {A:Bi} {E:Value->Shared->Prop} {s:Shared} {env:Env}
theorem Jhl{sc:Jk}{g:Comprehension}{use:Option (Value->Sem Unit)}{Q:Value->Shared->Prop}
  (Y:clausesOf e=g::gs)(h2:∀x,Dp g.iter env x=pure x)(h3:Ux sc env=pure cl)(p:sc.kind=.function)(h5:∀y∈sc.names,y.2=.local->sc.names.lookup y.1=some .local)
  (h:wpAny M A fi (λx H=>wpAny M A (pyIter x) (λit I=>wpAny M A na (λd J=>wpAny M A (newFunctionEnv sc env.globals cl [] env.qual none .none (some env)) (λc L=>c.frame=env.frame/\
   Hk M A (.compStart e 0 it d {c with scope:=relabel sc env}) (compEnd M A E use Q env d c.locals) L) E J) E I) E H) E s):wpAny M A (comprehension e sc env pos na false fi use) Q E s:=by
 have k:∀{u:Value} {v:Shared},E u v->E u v:=λz=>z;unfold comprehension;rw[h3,Y];refine Aa (Ce h (λx H k1=>?_) λ_ _=>k);refine Aa (Nc (Aa (O7 (h2 x) ?_)));refine Aa (Bj (Ce k1 (λit I k2=>?_) λ_ _=>k));refine wpAny_standIf (Aa (Ce k2 (λd J k3=>?_) λ_ _=>k));refine Aa (Ab (Aa (Ce k3 (λc L t=>?_) λ_ _=>k)));obtain⟨fr,t⟩:=t;dsimp only;have i:∀{l:List (Str×Fs)},(∀y∈l,y∈sc.names)->∀y∈l,y.2=.local->Env.kindOf {c with scope:=relabel sc env} y.1=some .local:=λ{l} hl y w yl=>lookup_relabel_local (h5 y (hl y w) yl);have b:∀{q:Str×Fs->Bool} {y},y∈(sc.names.filter q).reverse->y∈sc.names:=λz=>(Jb.mp (List.mem_reverse.mp z)).1;refine Bj (Aa (E6 (Bj (wpAny_run (Gp t λr N C=>?_)))));cases r with
 |error x=>
  obtain⟨m,n,j⟩:=C;refine Aa (Bj (Ou (cenv:={c with scope:=relabel sc env}) p _ N m (i λy=>b) n λo U _ a=>?_));have z:=Ce (j o a) (λ_ _ z=>z.elim) (λ_ _=>k) (Q':=Q);unfold Pp at z ⊢;dsimp only;rw[fr];exact z
 |ok f=>
  cases use with
  |none=>
   obtain⟨m,n,j⟩:=C;exact Aa (Bj (Ou (cenv:={c with scope:=relabel sc env}) p _ N m (i λy=>b) n λo U _ a=>Ab (j o a)))
  |some u=>
   refine Aa (Dn (Aa (Bj (Ce C (λ_ s6 j=>?_) λ_ _=>k))));obtain⟨m,n,j⟩:=j;refine Aa (Ou (cenv:={c with scope:=relabel sc env}) p _ s6 m (i λy w=>?_) n λo U _ a=>Ab (j o a));exact(Bm.mp w).elim (λz=>b (Iz z)) λz=>b (Eg z)
end
def Z1(X:Cx)(a:Shared):Value->Shared->Prop:=λx b=>∃m,b.heap.Ns a.heap.objs.size m/\∀c,Di a.heap.objs.size b.heap c->wpAny (model X.prog X.w) X.A (Pp "comprehension.variables-let-go" x X.env:Sem Value) (λ_ _=>False) X.xe {b with heap:=c}
abbrev Zo(X:Cx)(a:Jk)(b:Shared):Value->Shared->Prop:=notedBy (model X.prog X.w) X.A (compEnvC a (clOf X.env.cells a.names []) b.heap.objs.size X.env) (Z1 X b)
section
variable {X:Cx} {N':List Str} {k:Nat} {keep:List Nat} {scope:Jk} {elt tg iter:Expr} {ifs:List Expr} {pos:Pos} {wi:TI} {g:TG} {tc:TT} {te:TE}
def Joq{te':St->TE}{xe:St->Shared->Value->Shared->Prop}(c:Wm X N' k keep scope)(n:X.calm=true)(E:PI X tg iter wi)
  (L:∀a H i d f,PG (V0 X N' scope a H i d (xe f a)) tg g)(N:∀a H i d f,PTs (V0 X N' scope a H i d (xe f a)) ifs tc)(U:∀a H i d f,X9 X d f H a i->PE (V0 X N' scope a H i d (xe f a)) elt (te' f))
  (Y:∀f a e j,xe f a e j->Zo X scope a e j)
  (hs:∀x,Dp iter X.env x=pure x):PE X (.ListComp elt [⟨tg,iter,ifs,0⟩] scope pos) (λf H Q=>Ya k keep wi g tc (te' f) f H Q):=by
 intro d s f H Q I h;rw[eval_ListComp];refine Jhl (use:=none) rfl hs (Jda (c.clo I.ok)) c.kind c.names ?_;refine thn (E d s f H _ I h) λv s1 h1=>thn h1 λitv s2 h2=>?_;obtain⟨it,fp,tn,J,H2,e,I2,T,r,f2,hW⟩:=h2;subst e;refine Jfs c (λ_ _=>n) I2 T.toC r f2 (xe:=xe f) (λa i=>L a H2 i d f) (λa i=>N a H2 i d f) (λa i b=>U a H2 i d f b) (λa D e j z=>Y f a e j z) hW (RR:=λt C=>compEnd (model X.prog X.w) X.A X.xe none (EP X d f Q) X.env t C) ?_;intro D C j y A m I' l p u new hn q;refine⟨m,hn,λh' w=>?_⟩;have I3:Inv X d f (upd y D (.lst A)) j:=I'.adopt l.1 l.2.1 l.2.2.1 l.2.2.2.1 l.2.2.2.2 new;have I4:Inv X d f (upd y D (.lst A)) {j with heap:=h'}:=I3.turned (t':=j.toks) (it:=C) (λb o hb e=>w.extBut b o hb e) (by rw[Jad u.symm];exact p.1) p.2.2.1 (.inr p.2.1) p.2.2.2.1 p.2.2.2.2;exact⟨.ref D,_,I4,rfl,q D l.1⟩
def Joe{te':St->TE}{xe:St->Shared->Value->Shared->Prop}{p:Pos}(hN:X.N.Nodup)(E:X.N[i]? =some y)(hy:Loc X.env.scope y)(hf:X.fn y=true\/X.env.scope.names.lookup y=some .local)
  (L:Hj (.ListComp elt [⟨tg,iter,ifs,0⟩] scope pos) (some (.Name y u)) p.line X.env=pure true)
  (c:Wm X N' k keep scope)(w:X.calm=true)(hi:PI X tg iter wi)
  (hg:∀d H l f j,PG (V0 X N' scope d H l f (xe j d)) tg g)(hc:∀d H l f j,PTs (V0 X N' scope d H l f (xe j d)) ifs tc)(he:∀d H l f j,X9 X f j H d l->PE (V0 X N' scope d H l f (xe j d)) elt (te' j))
  (hE:∀j d e n,xe j d e n->Zo X scope d e n)
  (hs:∀x,Dp iter X.env x=pure x):PS X (.Assign [.Name y u] (.ListComp elt [⟨tg,iter,ifs,0⟩] scope pos) p) (Y8 (λj H Q=>Ya k keep wi g tc (te' j) j H Q) (Yq i)):=by
 intro f s j H D0 I h;rw[exec_Assign_Name_used _ _ _ _ L];refine Aa (Nc (Aa ?_));show wpAny _ X.A (do let _<-comprehension (.ListComp elt [⟨tg,iter,ifs,0⟩] scope pos) scope X.env _ (newList []) false (eval iter X.env) (some (assign (.Name y u) X.env))) _ _ s;refine Aa (Ce (Jhl (use:=some (assign (.Name y u) X.env)) (Q:=λ_ n=>SP X f D0 .next n) rfl hs (Jda (c.clo I.ok)) c.kind c.names ?_) (λ_ n hq=>Ab (Ab hq)) λ_ _ e=>e);refine thn (hi f s j H _ I h) λv s1 h1=>thn h1 λitv s2 h2=>?_;obtain⟨it,fp,tn,J,H2,e,I2,T,N,f2,hW⟩:=h2;subst e;refine Jfs c (λ_ _=>w) I2 T.toC N f2 (xe:=xe j) (λd l=>hg d H2 l f j) (λd l=>hc d H2 l f j) (λd l b=>he d H2 l f j b) (λd D e n z=>hE j d e n z) hW (RR:=λU C=>compEnd (model X.prog X.w) X.A X.xe (some (assign (.Name y u) X.env)) (λ_ n=>SP X f D0 .next n) X.env U C) ?_;intro D C n H' xs m I' t r Y new hn q;have I3:Inv X f j (upd H' D (.lst xs)) n:=I'.adopt t.1 t.2.1 t.2.2.1 t.2.2.2.1 t.2.2.2.2 new;show wpAny _ X.A (assign (.Name y u) X.env (.ref D)) _ _ _;refine Vg (Jg6 I3 hN E hy (v:=.ref D) rfl (λA I5 hsb=>?_) hf);obtain⟨a,sb,ha⟩:=hsb;have hCa:C≠a:=by
  rcases ha with e|e
  .rw[e];exact r.2.2.1
  .exact λz=>r.2.2.2.1 y a e z.symm
 refine⟨m,hn.sameBut sb hCa,λh' hs'=>?_⟩;have I4:Inv X f (j.set i (some (.ref D))) (upd H' D (.lst xs)) {A with heap:=h'}:=I5.turned (t':=A.toks) (it:=C) (λb o hb e=>hs'.extBut b o hb e) (by rw[Jad Y.symm];exact r.1) r.2.2.1 (.inr r.2.1) r.2.2.2.1 r.2.2.2.2;exact⟨_,_,I4,q D t.1⟩
def Jtt(c:Wm X N' k keep scope)(e:X.calm=true)(f:PI X tg iter wi)
  (h:∀a H d b,PG (V0 X N' scope a H d b) tg g)(i:∀a H d b,PTs (V0 X N' scope a H d b) ifs tc)(j:∀a H d b,PE (V0 X N' scope a H d b) elt te)
  (l:∀x,Dp iter X.env x=pure x):PE X (.ListComp elt [⟨tg,iter,ifs,0⟩] scope pos) (Ya k keep wi g tc te):=
 Joq (te':=λ_=>te) (xe:=λ_ _ _ _=>False) c e f (λa H d b _=>h a H d b) (λa H d b _=>i a H d b) (λa H d b _ _=>j a H d b) (λ_ _ _ _ z=>z.elim) l
def Jtg{e:Pos}(l:X.N.Nodup)(h:X.N[i]? =some y)(m:Loc X.env.scope y)(n:X.fn y=true\/X.env.scope.names.lookup y=some .local)
  (j:Hj (.ListComp elt [⟨tg,iter,ifs,0⟩] scope pos) (some (.Name y o)) e.line X.env=pure true)(c:Wm X N' k keep scope)(f:X.calm=true)(p:PI X tg iter wi)
  (r:∀a H d b,PG (V0 X N' scope a H d b) tg g)(s:∀a H d b,PTs (V0 X N' scope a H d b) ifs tc)(t:∀a H d b,PE (V0 X N' scope a H d b) elt te)
  (u:∀x,Dp iter X.env x=pure x):PS X (.Assign [.Name y o] (.ListComp elt [⟨tg,iter,ifs,0⟩] scope pos) e) (Y8 (Ya k keep wi g tc te) (Yq i)):=
 Joe (te':=λ_=>te) (xe:=λ_ _ _ _=>False) l h m n j c f p (λa H d b _=>r a H d b) (λa H d b _=>s a H d b) (λa H d b _ _=>t a H d b) (λ_ _ _ _ z=>z.elim) u
end
end L2
namespace LR
open PySem PySem.Spec PyProof.Rows PySem.F
section
variable {prog:Program} {w:World} {A:Bi} {E:Value->Shared->Prop} {s:Shared}
def Yn(b:IsTup s.heap l a):s.TypeIs (.ref l) "tuple":=let⟨o,c,d,_⟩:=b;⟨o,c,d⟩
end
end LR
namespace L2
open PySem PySem.Spec PyProof.Rows
end L2
namespace HT
open PySem PySem.Spec PyProof.Rows
section
variable {prog:Program} {w:World} {A:Bi} {E:Value->Shared->Prop} {s:Shared}
def Jco{t sl:Addr}{a:Array Value}{g i:Value}{lo c:Option Int}{Q:Value->Shared->Prop}(b:IsTup s.heap t a)(j:s.heap.IsSliceOf sl g i .none)(pl:Mr g lo)(l:Mr i c)
  (k:sIx a.size 0 lo=0/\sIx a.size a.size c=a.size)(h:Q (.ref t) s):wpAny (model prog w) A (Ls (.ref t) (.ref sl)) Q E s:=by
 obtain⟨os,d,e,n⟩:=id j;have f:s.TypeIs (.ref sl) "slice":=⟨os,d,e⟩
 unfold Ls
 try with_reducible refine Bj ?_
 first|refine Aa (Ab ?_)|skip
 refine Aa (Vd b.typeIs (by decide) ?_);refine Aa (By (name:=Ac "__getitem__") b.typeIs Co
  (Bp Co b.typeIs T5 ?_ (U7 _ _)))
 show wpAny _ _ (Ij (.ref t)>>=_) _ _ s;refine Aa (Nh b ?_);refine Aa (Gn f ?_);rw[if_pos (by decide)];refine Aa (Jbw j pl l ?_);show wpAny _ _ (if(((sIx a.size 0 lo:Nat):Int)==0&&(1:Int)==1&&(sIx a.size a.size c-sIx a.size 0 lo)==a.size)=true then _ else _) _ _ s;rw[if_pos (by rw[k.1,k.2];simp)];refine Aa (m:=Ma (.ref t)) ?_;unfold Ma;refine Aa (Gn b.typeIs ?_);refine Ab ?_;rw[if_pos (by decide)];exact Aa (Dn (Ab ⟨_,rfl,Ab h⟩))
end
end HT
namespace L2
open PySem PySem.Spec PyProof.Rows
variable {X:Cx}
def Wbh(K:Ag):V->Option Int->Option Int->Hp->VK->Prop:=λx lo c H Q=>∃a b,x=.ref a/\SqT K H a b/\
 (HT.sIx b.length 0 lo=0/\HT.sIx b.length b.length c=b.length)/\Q (.ref a) H
def Jsz:SlR X (Wbh X.K):=by
 intro d s m H x v n o lo p sl Q I f g pl i h;obtain⟨a,j,rfl,k,l,q⟩:=h;cases f;obtain⟨c,r,e,t⟩:=I.tuple k;have b:c.toArray.size=j.length:=by rw[Aq];exact r.length.symm
 exact⟨"tuple",_,Co.lookup,e.typeIs,HT.Jco e g pl i (by rw[b];exact l) ⟨.ref a,H,I,rfl,q⟩⟩
end L2
namespace L2
open PySem PySem.Spec PyProof.Rows
section
variable {κ:Type} [DecidableEq κ]
noncomputable def Wu(kvs:List (κ×V))(k:κ):Option V:=(kvs.find? λa=>decide (a.1=k)).map (·.2)
noncomputable def putK(kvs:List (κ×V))(k:κ)(v:V):List (κ×V):=
 if(kvs.any λa=>decide (a.1=k))=true then kvs.map (λa=>if a.1=k then(a.1,v)else a)else kvs++[(k,v)]
noncomputable def Xs(kvs:List (κ×V))(k:κ):List (κ×V):=kvs.filter λa=>decide (a.1≠k)
def Jdy{p:κ×V}(e:p.1=k):Wu (p::r) k=some p.2:=by simp[Wu,Dh,e]
def Jdz{p:κ×V}(e:¬p.1=k):Wu (p::r) k=Wu r k:=by simp[Wu,Dh,e]
theorem Jjb(k:κ):∀kvs:List (κ×V),(kvs.any λa=>decide (a.1=k))=(Wu kvs k).isSome
 |[]=>rfl
 |p::r=>by
  rw[Gg]
  by_cases e:p.1=k
  .simp only[Jdy e,decide_eq_true e,Bool.true_or,Option.isSome_some]
  .rw[Jdz e,decide_eq_false e,Bool.false_or];exact Jjb k r
def Jen(kvs:List (κ×V))(k:κ)(v:V):(putK kvs k v).length<=kvs.length+1:=by
 unfold putK;split
 .rw[Ah];lia
 .rw[Ap,Bb,Fe];lia
theorem RelO.isSome_eq{o:Option V}{u:Option Value}(r:RelO o u):o.isSome=u.isSome:=by
 cases o with
 |none=>cases u with
  |none=>rfl
  |some _=>exact(show False from r).elim
 |some _=>cases u with
  |none=>exact(show False from r).elim
  |some _=>rfl
theorem RelO.getD{o:Option V}{u:Option Value}(r:RelO o u)(a:RelV d d'):RelV (o.getD d) (u.getD d'):=by
 cases o with
 |none=>cases u with
  |none=>exact a
  |some _=>exact(show False from r).elim
 |some _=>cases u with
  |none=>exact(show False from r).elim
  |some _=>exact r
theorem KV.val(r:KV kvs vs)(k:κ):RelO (Wu kvs k) (N1 vs k):=by
 unfold KV at r
 induction r with
 |nil=>exact Fp
 |@cons p q i a h t f=>
  obtain⟨d,g⟩:=h
  by_cases e:p.1=k
  .have c:q.1=k:=d.symm.trans e;have b:N1 (q::a) k=some q.2:=by simp[N1,Dh,c]
   rw[Jdy e,b];exact g
  .have c:¬q.1=k:=λz=>e (d.trans z);have b:N1 (q::a) k=N1 a k:=by simp[N1,Dh,c]
   rw[Jdz e,b];exact f
theorem KV.any{kvs:List (κ×V)}{vs:List (κ×Value)}(r:KV kvs vs)(k:κ):(kvs.any λa=>decide (a.1=k))=vs.any λa=>decide (a.1=k):=by
 unfold KV at r
 induction r with
 |nil=>rfl
 |cons h t b=>rw[Gg,Gg,b,h.1]
theorem KV.repl{kvs:List (κ×V)}{vs:List (κ×Value)}(r:KV kvs vs)(k:κ)(c:RelV y u):
  KV (kvs.map λa=>if a.1=k then(a.1,y)else a) (vs.map λa=>if a.1=k then(a.1,u)else a):=by
 unfold KV at r ⊢
 induction r with
 |nil=>exact .nil
 |@cons p q g i h t d=>
  rw[Ax,Ax];refine .cons ?_ d;obtain⟨b,f⟩:=h
  by_cases e:p.1=k
  .rw[if_pos e,if_pos (b.symm.trans e)];exact⟨b,c⟩
  .rw[if_neg e,if_neg (λz=>e (b.trans z))];exact⟨b,f⟩
def KV.put(r:KV kvs vs)(k:κ)(a:RelV y u):KV (putK kvs k y) (stored vs k u):=by
 unfold putK stored;rw[r.any k]
 by_cases e:(vs.any λb=>decide (b.1=k))=true
 .rw[if_pos e,if_pos e];exact r.repl k a
 .rw[if_neg e,if_neg e];exact U2 r ⟨rfl,a⟩
def KV.length{kvs:List (κ×V)}{vs:List (κ×Value)}(r:KV kvs vs):kvs.length=vs.length:=Cr r
def Jpt(kvs:List (κ×V))(k:κ):(Xs kvs k).length<=kvs.length:=Ld _ _
end
theorem Jkj(r:RelV (kV k) u):(mixKind P w).is k u=true:=by
 cases k with
 |inl i=>obtain⟨t,e⟩:=(show∃t,u=Eb i t from r);subst e;exact Jip P w i t
 |inr x=>obtain⟨t,e⟩:=(show∃t,u=Pa x t from r);subst e;exact Jio P w x t
theorem Jet:∀{ks:List Key} {us:List Value},Vals (ks.map kV) us->ItemsAre (mixKind P w) ks us
 |[],_,r=>by rw[G5]at r;cases r;exact .nil
 |k::ks,_,r=>by
  rw[Ax]at r;cases r with
  |cons h t=>exact .cons (Jkj h) (Jet t)
abbrev KT(H:Hp):List (List Key×V)->List (List Key×Addr×Value)->Prop:=Paired λp q=>p.1=q.1/\H q.2.1=some (.tup (p.1.map kV))/\RelV p.2 q.2.2
theorem KT.val(r:KT H kvs xs)(k:List Key):RelO (Wu kvs k) ((Hn xs k).map (·.2)):=by
 induction r with
 |nil=>exact Fp
 |@cons p q i a h t f=>
  obtain⟨d,_,g⟩:=h
  by_cases e:p.1=k
  .have c:q.1=k:=d.symm.trans e;have b:Hn (q::a) k=some q.2:=by simp[Hn,Dh,c]
   rw[Jdy e,b];exact g
  .have c:¬q.1=k:=λz=>e (d.trans z);have b:Hn (q::a) k=Hn a k:=by simp[Hn,Dh,c]
   rw[Jdz e,b];exact f
theorem KT.repl{kvs:List (List Key×V)}{xs:List (List Key×Addr×Value)}(r:KT H kvs xs)(k:List Key)(d:RelV y u):
  KT H (kvs.map λb=>if b.1=k then(b.1,y)else b) (xs.map (putAt k u)):=by
 induction r with
 |nil=>exact .nil
 |@cons p q i j h t f=>
  rw[Ax,Ax];refine .cons ?_ f;obtain⟨a,c,g⟩:=h;unfold putAt
  by_cases e:p.1=k
  .rw[if_pos e,if_pos (a.symm.trans e)];exact⟨a,c,d⟩
  .rw[if_neg e,if_neg (λz=>e (a.trans z))];exact⟨a,c,g⟩
def KT.put(r:KT H kvs xs)(k:List Key)(c:H b=some (.tup (k.map kV)))(a:RelV y u):
  KT H (putK kvs k y) (P2 xs k b u):=by
 have e:(kvs.any λd=>decide (d.1=k))=(Hn xs k).isSome:=by
  rw[Jjb,(r.val k).isSome_eq,Fb]
 unfold putK P2;rw[e]
 by_cases q:(Hn xs k).isSome=true
 .rw[if_pos q,if_pos q];exact r.repl k a
 .rw[if_neg q,if_neg q];exact U2 r ⟨rfl,c,a⟩
def KT.keeps(r:KT H kvs xs)(a:∀b ys,H b=some (.tup ys)->H' b=some (.tup ys)):KT H' kvs xs:=
 Paired.mapP r λ_ _ z=>⟨z.1,a _ _ z.2.1,z.2.2⟩
section
variable {P:Program} {w:World} {H:Hp} {h:Heap} {a:Addr}
def Jwj(b:HOk P w H h)(e:Rd H a u):Vz P w H h a u:=e.ok b
def Jgj{kvs:List (Key×V)}(b:HOk P w H h)(e:Rd H a (.dK kvs)):kvs.length<=sizeLine/\(a==sysModules)=false/\∃vs,KV kvs vs/\h.DictOf (mixKind P w) a vs:=
 show Vz P w H h a (.dK kvs)from Jwj b e
def J0p{kvs:List (Key×V)}(b:HOk P w H h)(e:H a=some (.dK kvs)):kvs.length<=sizeLine/\(a==sysModules)=false/\∃vs,KV kvs vs/\h.DictOf (mixKind P w) a vs:=Jgj b (.inl e)
def Jeq{ks:List Key}(c:HOk P w H h)(e:H a=some (.tup (ks.map kV))):(tupleKind (mixKind P w)).is h ks a:=by
 obtain⟨_,b,r,o,d,f,n,g⟩:=(show Vz P w H h a (.tup (ks.map kV))from c a _ e)
 exact⟨o,b.toArray,n,d,f,g,by simpa using Jet r⟩
def Jdw{kvs:List (List Key×V)}(c:HOk P w H h)(e:Rd H a (.dT kvs)):kvs.length<=sizeLine/\(a==sysModules)=false/\
  ∃xs,KT H kvs xs/\h.DictOfH (tupleKind (mixKind P w)) a xs:=by
 obtain⟨z,y,xs,r,o,f,g,i,j,k,n,s⟩:=(show Vz P w H h a (.dT kvs)from Jwj c e)
 refine⟨z,y,xs,r,o,f,g,i,j,k,n,λx hx=>?_,s⟩;have b:∀{l:List (List Key×V)} {m:List (List Key×Addr×Value)},KT H l m->∀x∈m,(tupleKind (mixKind P w)).is h x.1 x.2.1:=by
  intro l m q
  induction q with
  |nil=>intro x hx;exact nomatch hx
  |@cons p q v A d t u=>
   intro x hx;rcases Am.mp hx with e|hx
   .subst e;exact Jeq c (by rw[<-d.1];exact d.2.1)
   .exact u x hx
 exact b r x hx
def Jyj{kvs:List (List Key×V)}(b:HOk P w H h)(e:H a=some (.dT kvs)):kvs.length<=sizeLine/\(a==sysModules)=false/\
  ∃xs,KT H kvs xs/\h.DictOfH (tupleKind (mixKind P w)) a xs:=Jdw b (.inl e)
end
def Xx(H:Hp)(a:Addr)(y:V)(r:Option V):Prop:=
 (∃c k,Rd H a (.dK c)/\y=kV k/\r=Wu c k)\/∃c k b,Rd H a (.dT c)/\y=.ref b/\H b=some (.tup (k.map kV))/\r=Wu c k
def Ym(H:Hp)(a:Addr)(y v:V)(H':Hp):Prop:=
 (∃c k,H a=some (.dK c)/\y=kV k/\c.length<sizeLine/\H'=upd H a (.dK (putK c k v)))\/
 ∃c k b,H a=some (.dT c)/\y=.ref b/\H b=some (.tup (k.map kV))/\c.length<sizeLine/\H'=upd H a (.dT (putK c k v))
def Xx.t{k:List Key}(e:H a=some (.dT kvs))(c:H b=some (.tup (k.map kV))):Xx H a (.ref b) (Wu kvs k):=.inr ⟨kvs,k,b,.inl e,rfl,c,rfl⟩
def Ym.k{H:Hp}{a:Addr}{kvs:List (Key×V)}{k:Key}{v:V}(e:H a=some (.dK kvs))(b:kvs.length<sizeLine):Ym H a (kV k) v (upd H a (.dK (putK kvs k v))):=.inl ⟨kvs,k,e,rfl,b,rfl⟩
def Ym.t{kvs:List (List Key×V)}{k:List Key}(e:H a=some (.dT kvs))(c:H b=some (.tup (k.map kV)))(d:kvs.length<sizeLine):
  Ym H a (.ref b) v (upd H a (.dT (putK kvs k v))):=.inr ⟨kvs,k,b,e,rfl,c,d,rfl⟩
section
variable {X:Cx} {pins:List (Addr×Obj)} {σ:St} {H:Hp} {s:Shared} {a:Addr} {y v:V} {u r:Value} {o:Option V} {A:Bi} {E:Value->Shared->Prop}
def Inv.big(I:Inv X pins σ H s):sysModules<s.heap.objs.size:=by
 have h:Bg<s.heap.objs.size:=(I.mod.glob.keeps I.bk).lt;exact Fm (by decide) h
def Jmx{Q:Value->Shared->Prop}(x:A.units+1<Dc)(I:Inv X pins σ H s)(g:Xx H a y (some v))(t:RelV y u)(h:∀f w,Inv X pins σ H w->RelV v f->Q f w):
  wpAny (model X.prog X.w) A (Ls (.ref a) u) Q E s:=by
 rcases g with⟨i,k,e,j,l⟩|⟨i,k,b,e,j,C,l⟩
 .subst j;obtain⟨z,J,L,c,dd⟩:=Jgj I.hok e;obtain⟨f,m,d⟩:=RelO.some_of (v:=v) (o:=N1 L k) (by rw[l];exact c.val k);exact wpAny_getItem_of (Jkj t) dd.mapOf m (h f _ (I.tok _) d)
 .subst j;cases(show u=As b from t);obtain⟨z,J,N,c,dd⟩:=Jdw I.hok e;obtain⟨f,m,d⟩:=RelO.some_of (v:=v) (o:=(Hn N k).map (·.2)) (by rw[l];exact c.val k);obtain⟨p,hp,n⟩:=Al.mp m;refine Uq (D1 x) (Jeq I.hok C) dd hp ?_;rw[n];exact h f _ (I.tok _) d
def Wd5{Q:Value->Shared->Prop}(n:A.units+1<Dc)(I:Inv X pins σ H s)(g:Xx H a y o)(j:RelV y u)(h:∀m,Inv X pins σ H m->Q (.bool o.isSome) m):
  wpAny (model X.prog X.w) A (Ei .In u (.ref a)) Q E s:=by
 rcases g with⟨d,k,e,f,l⟩|⟨d,k,b,e,f,p,l⟩
 .subst f;obtain⟨z,i,t,c,dd⟩:=Jgj I.hok e;refine wpAny_in_of (Jkj j) i dd.mapOf ?_;rw[<-(c.val k).isSome_eq,<-l];exact h _ (I.tok _)
 .subst f;cases(show u=As b from j);obtain⟨z,i,w,c,dd⟩:=Jdw I.hok e;refine wpAny_in_heap (D1 n) (Jeq I.hok p) i dd ?_;have q:=(c.val k).isSome_eq;rw[Fb]at q;rw[<-q,<-l];exact h _ (I.tok _)
def Juq{Q:Value->Shared->Prop}(n:A.units+1<Dc)(I:Inv X pins σ H s)(g:Xx H a y o)(j:RelV y u)(h:∀m,Inv X pins σ H m->Q (.bool (!o.isSome)) m):
  wpAny (model X.prog X.w) A (Ei .NotIn u (.ref a)) Q E s:=by
 rcases g with⟨d,k,e,f,l⟩|⟨d,k,b,e,f,p,l⟩
 .subst f;obtain⟨z,i,t,c,dd⟩:=Jgj I.hok e;refine wpAny_notIn_of (Jkj j) i dd.mapOf ?_;rw[<-(c.val k).isSome_eq,<-l];exact h _ (I.tok _)
 .subst f;cases(show u=As b from j);obtain⟨z,i,w,c,dd⟩:=Jdw I.hok e;refine wpAny_notIn_heap (D1 n) (Jeq I.hok p) i dd ?_;have q:=(c.val k).isSome_eq;rw[Fb]at q;rw[<-q,<-l];exact h _ (I.tok _)
def Jgk{h':Heap}(I:Inv X pins σ H s)(d:Mut (H a))(f:Di a s.heap h')(g:∃q,h'.get? a=some q)(new:Vz X.prog X.w (upd H a c) h' a c):
  Inv X pins σ (upd H a c) {s with heap:=h',toks:=t'}:=
 I.write (x:=a) (e:=a) d (.inl rfl) (λb q h z=>(f.2 b h).trans z) g new
def Jrj{h':Heap}{kvs:List (Key×V)}(z:kvs.length<=sizeLine)(c:(a==sysModules)=false)(b:KV kvs vs)(dd:h'.DictOf (mixKind P w) a vs):
  Vz P w H' h' a (.dK kvs):=⟨z,c,vs,b,dd⟩
def Jhi{Q:Unit->Shared->Prop}(hu:A.units+1<Dc)(I:Inv X pins σ H s)(g:Ym H a y v H')(C:RelV y u)(J:RelV v r)(h:∀L,Inv X pins σ H' L->Q () L):
  wpAny (model X.prog X.w) A (Vi (.ref a) u r) Q E s:=by
 rcases g with⟨d,k,e,m,l,n⟩|⟨d,k,b,e,m,N,l,n⟩
 .subst m n;obtain⟨z,p,vs,f,dd⟩:=J0p I.hok e;have t:vs.length<=sizeLine:=by rw[<-f.length];exact z
  have w:(putK d k v).length<=sizeLine:=by have:=Jen d k v;lia
  refine wpAny_setItem_pairs (hsz:=t) (Jkj C) dd λU i x=>h _ ?_;have he:∃q,U.get? a=some q:=let⟨q,_,_,j,_⟩:=i;⟨q,j⟩;exact Jgk I (by rw[e];exact Fp) x he (Jrj w p (f.put k J) i)
 .subst m n;cases(show u=As b from C);obtain⟨z,p,xs,f,dd⟩:=Jyj I.hok e;have t:xs.length<=sizeLine:=by rw[<-Cr f];exact z
  have w:(putK d k v).length<=sizeLine:=by have:=Jen d k v;lia
  refine Up (hsz:=t) (D1 hu) (Jeq I.hok N) dd λU i x=>h _ ?_;obtain⟨q,es,ep,j,h2,h3,h4,_,h5⟩:=i;refine Jgk I (by rw[e];exact Fp) x ⟨q,j⟩ ⟨w,p,_,(f.put k N J).keeps λc ys Y=>?_,q,es,ep,j,h2,h3,h4,h5⟩;rw[Jad (Joy Y e (λz=>nomatch z))];exact Y
end
section
variable {X:Cx} {pins:List (Addr×Obj)} {σ:St} {H:Hp} {s:Shared} {a:Addr} {kvs:List (Key×V)} {k:Key} {u:Value} {A:Bi} {E:Value->Shared->Prop}
def J0r{Q:Value->Shared->Prop}(I:Inv X pins σ H s)(e:Rd H a (.dK kvs))(h:∀t c,Inv X pins σ H c->Q (.int kvs.length t) c):wpAny (model X.prog X.w) A (call (.builtin "len") [.ref a]) Q E s:=by
 obtain⟨z,d,f,b,dd⟩:=Jgj I.hok e;refine call_len_dict d dd (by rw[<-b.length];rw[Ig]at z;lia) ?_;rw[<-b.length];exact h _ _ (I.tok _)
end
def Jiz{s:Shared}(I:Inv X d f H s)(g:Xx H a y o):s.TypeIs (.ref a) "dict":=by
 rcases g with⟨c,k,e,_,_⟩|⟨c,k,b,e,_,_,_⟩
 .obtain⟨_,_,h,_,dd⟩:=Jgj I.hok e;exact dd.typeIs
 .obtain⟨_,_,i,_,dd⟩:=Jdw I.hok e;exact dd.typeIs
section
variable {X:Cx} {o i e value:Expr} {pos pos' tpos:Pos} {td ty tv:TE}
end
def Jpu(h:Heap)(a:sysModules<h.objs.size):Vz P w H (h.push {cls:=.type "dict",data:=.dict #[]}) h.objs.size (.dK []):=
 ⟨Dg _,beq_eq_false_iff_ne.mpr (Ef (Ay a)),[],.nil,Heap.DictOf.new h⟩
def Jps(h:Heap)(a:sysModules<h.objs.size):Vz P w H (h.push {cls:=.type "dict",data:=.dict #[]}) h.objs.size (.dT []):=
 ⟨Dg _,beq_eq_false_iff_ne.mpr (Ef (Ay a)),[],.nil,_,#[],0,Ak _ rfl,⟨rfl,rfl,rfl⟩,rfl,rfl,Jp⟩
def Wad:TE:=λ_ H Q=>∀p,H p=none->Q (.ref p) (upd H p (.dK []))
def Wac:TE:=λ_ H Q=>∀p,H p=none->Q (.ref p) (upd H p (.dT []))
section
variable {X:Cx} {pos:Pos}
def Jop:PE X (.Dict [] [] pos) Wad:=λb s c H Q I h=>
 Ov ⟨.ref s.heap.objs.size,_,I.laid (a:=s.heap.objs.size) (o:=.dK []) (t':=s.toks) (λ_ _ q=>Ad _ q) (Ai _) (Jpu s.heap I.big),rfl,h _ (I.hok.fresh (Ai _))⟩
def Jon:PE X (.Dict [] [] pos) Wac:=λb s c H Q I h=>
 Ov ⟨.ref s.heap.objs.size,_,I.laid (a:=s.heap.objs.size) (o:=.dT []) (t':=s.toks) (λ_ _ q=>Ad _ q) (Ai _) (Jps s.heap I.big),rfl,h _ (I.hok.fresh (Ai _))⟩
end
def IsD(H:Hp)(a:Addr):Prop:=(∃b,Rd H a (.dK b))\/∃b,Rd H a (.dT b)
def Jq9{s:Shared}(I:Inv X j k H s)(d:IsD H a):
  s.TypeIs (.ref a) "dict"/\(∀b,As a=.ref b->∃c,s.heap.get? b=some c/\c.dict=none)/\(a==sysModules)=false:=by
 rcases d with⟨f,e⟩|⟨f,e⟩
 .obtain⟨_,g,l,_,dd⟩:=Jgj I.hok e;refine⟨dd.typeIs,λb q=>?_,g⟩;cases q;obtain⟨c,_,_,h,i,_⟩:=dd;exact⟨c,h,i.2.1⟩
 .obtain⟨_,g,m,_,dd⟩:=Jdw I.hok e;refine⟨dd.typeIs,λb q=>?_,g⟩;cases q;obtain⟨c,_,_,h,i,_⟩:=dd;exact⟨c,h,i.2.1⟩
section
variable {X:Cx} {pins:List (Addr×Obj)} {σ:St} {H:Hp} {s:Shared} {a:Addr} {y d:V} {u r:Value} {o:Option V} {A:Bi} {E:Value->Shared->Prop}
theorem Jyr{Q:Value->Shared->Prop}(t:A.units+1<Dc)(I:Inv X pins σ H s)(g:Xx H a y o)(m:RelV y u)(h:∀n p,Inv X pins σ H p->RelV (o.getD .non) n->Q n p):
  wpAny (model X.prog X.w) A (call (.builtin "dict.get") [.ref a,u]) Q E s:=by
 rcases g with⟨f,k,e,i,l⟩|⟨f,k,b,e,i,v,l⟩
 .subst i;obtain⟨z,j,x,c,dd⟩:=Jgj I.hok e;refine R4 Hy dd.typeIs O1 (Oi _ _) (meets_dict_get (mixKind X.prog X.w) a (Jkj m) j) ⟨_,dd.mapOf,h _ _ (I.tok _) ?_⟩;rw[l];exact(c.val k).getD rfl
 .subst i;cases(show u=As b from m);obtain⟨z,j,w,c,dd⟩:=Jdw I.hok e;refine R4 Hy dd.typeIs O1 (Oi _ _) (meetsH_dict_get (tupleKind (mixKind X.prog X.w)) a b j) ⟨D1 t,k,w,Jeq I.hok v,dd,h _ _ (I.tok _) ?_⟩;rw[l];exact(c.val k).getD rfl
end
section
variable {X:Cx} {o e f:Expr} {apos cpos:Pos} {td ty tx:TE}
end
section
variable {X:Cx} {pins:List (Addr×Obj)} {σ:St} {H:Hp} {s:Shared} {a:Addr} {kvs:List (Key×V)} {A:Bi} {E:Value->Shared->Prop}
def Jpw{Q:Value->Shared->Prop}(I:Inv X pins σ H s)(e:Rd H a (.dK kvs))(h:∀p f,H p=none->Inv X pins σ (upd H p (.dK kvs)) f->Q (.ref p) f):wpAny (model X.prog X.w) A (call (.type "dict") [.ref a]) Q E s:=by
 obtain⟨z,i,k,c,dd⟩:=Jgj I.hok e;refine kt_call_dict i dd (by rw[<-c.length];exact z) λl d j=>?_;refine h _ _ (I.hok.fresh (Ai _)) (I.laid (a:=s.heap.objs.size) (o:=.dK kvs) (t':=s.toks) (λb q g=>?_) (Ai _) (Jrj z (beq_eq_false_iff_ne.mpr (Ef (Ay I.big))) c d));exact(j.2 b (Ay (An g))).trans (Ad _ g)
end
section
variable {X:Cx} {pins:List (Addr×Obj)} {σ:St} {H:Hp} {s:Shared} {a:Addr} {y:V} {u:Value} {A:Bi} {E:Value->Shared->Prop}
end
end L2
namespace LZ
open PySem PyProof.Rows
open AutoSeq1 (wpAny_loadPart')
section
variable {prog:Program} {w:World} {A:Bi} {E:Value->Shared->Prop} {s:Shared}
def nx{Q:Value->Shared->Prop}(b:s.heap.IsTupleIter j u i)(e:s.heap.IsTuple u us)(f:us[i]? =some x)
  (k:∀h',h'.IsTupleIter j u (i+1)->Di j s.heap h'->Q x {s with heap:=h'}):wpAny (model prog w) A (C3 (.ref j)) Q E s:=by
 obtain⟨o,a,c,d⟩:=id b;obtain⟨h,g,_,n,dt⟩:=e;unfold C3;refine Aa (By (name:=Ac "__next__") b.typeIs G9 (Bp G9 b.typeIs Pg ?_ (O2 _)));show wpAny _ _ (Rh (.ref j) 0>>=_) _ _ s;refine Aa (Cj a d (x:=.ref u) rfl ?_);show wpAny _ _ (if(As u==Cv)=true then _ else _) _ _ s;rw[if_neg (show¬((As u==Cv)=true)from Ba)];show wpAny _ _ (Rh (.ref j) 1>>=_) _ _ s;refine Aa (Cj a d (x:=.int i 0) rfl ?_);show wpAny _ _ (Rf (.ref u)>>=_) _ _ s;refine Aa (Eo g dt ?_);simp only[Em,f];refine Aa (Km a d (by simp) (Ab ⟨x,rfl,Ab (k _ ?_ (Df ..))⟩));exact⟨_,C2 _ a (Qr (Jt d _)),(Sn ..).trans c,by rw[Jt d];simp[rawInt]⟩
def Jxi{Q:Value->Shared->Prop}(g:A.handled=none)(b:s.heap.IsTupleIter j u i)(h:s.heap.IsTuple u us)(l:us[i]? =none)
  (k:∀h' e,Qs j s.heap h'->(∃o,h'.get? e=some o/\o.cls=.type "StopIteration")->E (.ref e) {s with heap:=h'}):wpAny (model prog w) A (C3 (.ref j)) Q E s:=by
 obtain⟨o,f,c,d⟩:=id b;obtain⟨r,p,_,n,dt⟩:=h;unfold C3;refine Aa (By (name:=Ac "__next__") b.typeIs G9 (Bp G9 b.typeIs Pg ?_ (O2 _)));show wpAny _ _ (Rh (.ref j) 0>>=_) _ _ s;refine Aa (Cj f d (x:=.ref u) rfl ?_);show wpAny _ _ (if(As u==Cv)=true then _ else _) _ _ s;rw[if_neg (show¬((As u==Cv)=true)from Ba)];show wpAny _ _ (Rh (.ref j) 1>>=_) _ _ s;refine Aa (Cj f d (x:=.int i 0) rfl ?_);show wpAny _ _ (Rf (.ref u)>>=_) _ _ s;refine Aa (Eo p dt ?_);simp only[Em,l];refine Aa (Dn (Aa (Km f d (by simp) ?_)));show wpAny _ _ (R3 (.type "StopIteration") []>>=_) _ _ _;refine Aa ?_;simp only[R3,newTuple];refine Aa (B8 ?_ (by size_fits));refine Aa (m:=Im _ _) (O7 (a:=Cv) (by first|rfl|(simp only[Im];rfl)) ?_);refine B8 ?_ (by size_fits);simp only[raiseNew];refine Aa (Q1 ?_);first|rw[show A.in1.handled=none from g]|rw[g]
 refine Aa (Ab (Sw ?_));exact k _ _ (((Df ..).extBut.push _).push _) ⟨_,Ak _ rfl,rfl⟩
end
def Sr(b:Bool)(h:Heap)(l:Addr)(its:Array Value):Prop:=if b=true then h.IsList l its else h.IsTuple l its
def Ir(b:Bool)(h:Heap)(it l:Addr)(i:Nat):Prop:=if b=true then h.IsListIter it l i else h.IsTupleIter it l i
def Ir.obj{h:Heap}(x:Ir b h it l i):∃o a,h.get? it=some o/\o.data=.fields a:=by
 cases b
 .obtain⟨o,e,_,d⟩:=(show h.IsTupleIter it l i from x);exact⟨o,_,e,d⟩
 .obtain⟨o,e,_,d⟩:=(show h.IsListIter it l i from x);exact⟨o,_,e,d⟩
def Ir.at{h h':Heap}(x:Ir b h it l i)(k:∀o,h.get? it=some o->h'.get? it=some o):Ir b h' it l i:=by
 cases b
 .exact(show h.IsTupleIter it l i from x).at k
 .exact(show h.IsListIter it l i from x).at k
def Sr.lt{h:Heap}(x:Sr b h l its):l<h.objs.size:=by
 cases b
 .obtain⟨o,e,_⟩:=(show h.IsTuple l its from x);exact An e
 .obtain⟨o,e,_⟩:=(show h.IsList l its from x);exact An e
def draw{A:Bi}(b:Bool)(g:A.handled=none)(it l:Addr)(c:l≠it)(a:Array Value):Draws prog w A it [it,l] a.size (λi v=>a[i]? =some v) (λi h=>Ir b h it l i/\Sr b h l a):=by
 cases b
 .exact{live:=λ_ _ st=>let⟨o,_,n,_⟩:=st.1.obj;⟨o,n⟩,frame:=λi h j st k=>⟨st.1.at λo e=>k it (by simp) o e,(show h.IsTuple l a from st.2).at λo e=>k l (by simp) o e⟩,item:=λi s Q E m st p=>nx st.1 st.2 (x:=a[i]) (by simp[m]) λj d f=>p _ j s.toks (by simp[m]) ⟨d,(show s.heap.IsTuple l a from st.2).extBut f.extBut c⟩ f,done:=λs Q E st r=>Jxi g st.1 st.2 (by simp) r}
 .exact Draws.list g it l c a
def Jit(l:Addr)(a:Array Value)(n:Nat)(e:Option Addr)(sl:Array (Option Value)):
  Meets (Builtin.«enumerate.__new__» ⟨[.type "enumerate",.ref l],[]⟩) (λ_ R s=>s.heap.get? l=some {cls:=.type "tuple",dict:=e,data:=.seq a n,slots:=sl}/\
   R (.ok (.ret (.ref (s.heap.push {cls:=.type "tuple_iterator",data:=.fields #[.ref l,.int 0 0]}).objs.size)))
    {s with heap:=(s.heap.push {cls:=.type "tuple_iterator",data:=.fields #[.ref l,.int 0 0]}).push {cls:=.type "enumerate",data:=.fields #[.none,.bool false,.ref s.heap.objs.size,rawInt 0,.none,.none]}}):=
 .of_wp λf w A R s h=>by
  obtain⟨hp,g,d,tk,os⟩:=s;obtain⟨b,h⟩:=h;have i:=sub_enumerate;have j:Vp (P4 ⟨hp,g,d,tk,os⟩) l a:=⟨_,b,rfl,n,rfl⟩
  wp_walk using Lz b
  refine wpAny_stack_any λst=>Ab ?_;split
  .rename_i c _ _ _ _ _;cases(c==Ej "enumerate")<;>(wp_walk using Lz b,Kn j;exact⟨_,rfl,h⟩)
  .wp_walk using Lz b,Kn j
   exact⟨_,rfl,h⟩
def Jm7{E:Value->Shared->Prop}{s:Shared}{Q:Value->Shared->Prop}(m:Sr b s.heap l a)
  (h:∀h',IsEnum h' (s.heap.objs.size+1) s.heap.objs.size 0 .none->Ir b h' s.heap.objs.size l 0->
   (∀b o,s.heap.get? b=some o->h'.get? b=some o)->Q (.ref (s.heap.objs.size+1)) {s with heap:=h'}):
  wpAny (model prog w) A (call (.type "enumerate") [.ref l]) Q E s:=by
 cases b
 .obtain⟨⟨c,d,dt,sl⟩,p,e,n,f⟩:=(show s.heap.IsTuple l a from m)
  replace e:c=.type "tuple":=e
  replace f:dt=.seq a n:=f
  subst e f;refine callType_new F.called_enumerate (by decide) (F.typeCall_enumerate_1 _) (F.newCall_enumerate_1 _) (λg=>F.args_object_init_2 g _) F.entry_enumerate_new (Jit l a n d sl) ⟨p,?_⟩;have r:(s.heap.push {cls:=.type "tuple_iterator",data:=.fields #[.ref l,.int 0 0]}).objs.size=s.heap.objs.size+1:=Cq ..;show _/\_;have i:=Ak (s.heap.push {cls:=.type "tuple_iterator",data:=.fields #[.ref l,.int 0 0]}) (o:={cls:=.type "enumerate",data:=.fields #[.none,.bool false,.ref s.heap.objs.size,rawInt 0,.none,.none]}) rfl;rw[r]at i ⊢;exact⟨⟨_,i,rfl⟩,h _ i ⟨_,Ad _ (Ak _ rfl),rfl,rfl⟩ λb o x=>Ad _ (Ad _ x)⟩
 .exact call_enumerate_list m λh' z j _ k=>h h' z j k
end LZ
namespace L2
open PySem PySem.Spec PyProof.Rows LZ
def Inv.turnedL{s:Shared}{h':Heap}{fp:List Addr}(I:Inv X pins σ H s)(k:∀b o,b∉fp->s.heap.get? b=some o->h'.get? b=some o)(f:∀b∈fp,Xf X pins H b):Inv X pins σ H {s with heap:=h',toks:=t'}:=by
 have d:∀b u,H b=some u->b∉fp:=λb u e z=>by rw[(f b z).1]at e;cases e
 refine I.step (g':=s.gens) (d':=s.drawn) (ch:=fp) (λb g=>?_) (λb o _ _ a e _=>k b o a e) (λb o _ _ a e _=>⟨o.slots,k b o a e⟩) (λ_ _ _ _ n=>n)
  (λb o a e=>⟨o,k b o a e⟩) (λ_ _ e=>e) (λ_ _ _ e=>e) (λb J e=>⟨#[],by rw[e];simp⟩) (λm h=>?_) (λb u e=>?_) I.bare
 .obtain⟨L,j,Q,l,t,y⟩:=f b g;exact⟨l,j,t,y⟩
 .obtain⟨o,A,C,E,r⟩:=h;exact⟨o,A,C,k _ o (λz=>(f _ z).2.1 rfl) E,r⟩
 .refine(I.hok b u e).stay (λc v a q=>k c v ?_ q) (λ_ q=>q) λ_ _ q=>q;rcases a with z|z
  .rw[z];exact d b u e
  .exact d c _ z
def SqB(b:Bool)(K:Ag)(H:Hp)(l:Addr)(xs:List V):Prop:=if b=true then SqL K H l xs else SqT K H l xs
def SqB.sr{X:Cx}{s:Shared}(I:Inv X c d H s)(h:SqB b X.K H l xs):∃its:List Value,Vals xs its/\Sr b s.heap l its.toArray:=by
 cases b
 .obtain⟨its,a,p,_⟩:=I.tuple h;exact⟨its,a,p⟩
 .obtain⟨its,a,p,_⟩:=I.list h;exact⟨its,a,p.isList⟩
def SqB.inj{X:Cx}(I:Inv X a c H s)(h:SqB b X.K H l xs)(h':SqB b X.K H l ys):xs=ys:=by
 cases b
 .exact I.tuple_inj h h'
 .exact I.list_inj h h'
def Ite(b:Bool)(K:Ag)(l:Addr):It:=
 ⟨λi H=>∃a x,SqB b K H l a/\a[i]? =some x,
  λi H v c=>∃p x,H p=none/\v=.ref p/\c=upd H p (.tup [.int i,x])/\∀a,SqB b K H l a->a[i]? =some x,
  λi H=>∃a,SqB b K H l a/\a.length=i⟩
def Wax(b:Bool)(e it l:Addr)(i:Nat)(h:Heap):Prop:=(∃a,IsEnum h e it i a)/\Ir b h it l i
def Jk6{P:Program}{w:World}{K:Ag}{m:List Expr}{x1:Nat}{tp:Pos}{b:Bool}(e it l:Addr)(j:e≠it)(n:l≠it)(z:l≠e):
  Turn P w K (.Tuple m x1 tp) (Ite b K l) [e,it] e (Wax b e it l)where
 mem:=by simp
 obj:=λi h st b a=>by
  obtain⟨⟨d,g⟩,C⟩:=st;obtain⟨o1,fs,J,d1⟩:=C.obj;simp only[Am,Bf,or_false]at a;rcases a with rfl|rfl
  .exact⟨_,g,λv q=>by cases q⟩
  .exact⟨o1,J,λv q=>by rw[d1]at q;cases q⟩
 keep:=λi h L st k=>by
  obtain⟨⟨d,g⟩,C⟩:=st;exact⟨⟨d,k e (by simp) _ g⟩,C.at λo q=>k it (by simp) o q⟩
 item:=by
  intro X N Q U Y i c s σ H E I hf st hg;subst N Q U;obtain⟨xs,x,y,hx⟩:=hg;obtain⟨⟨d,g⟩,r⟩:=st;obtain⟨oi,_,hoi,_⟩:=r.obj;obtain⟨f,rv,p⟩:=y.sr I;obtain⟨u,hu,ru⟩:=rv.get hx;have hlt:i<f.toArray.size:=by simpa using(Ae.mp hu).1
  refine wpAny_pyNext_enum_itemD (draw (A:=X.A.in1) b (I.ok.hd Y) it l n f.toArray) g ⟨r,p⟩ hlt j (by simp[j,Ef z]) λu' L tk pu z1 j1 pr sz kk=>?_;obtain rfl:u=u':=by rw[C6,hu]at pu;exact Bh pu
  refine⟨_,rfl,wpAny_letOwnedTupleGo_enum (s:={s with heap:=L,toks:=tk+1}) z1 λh2 z2 sb=>?_⟩;have hf0:H s.heap.objs.size=none:=I.hok.fresh (Ai _);have I0:Inv X c σ (upd H s.heap.objs.size (.tup [.int i,x])) {s with heap:=s.heap.push {cls:=.type "tuple",data:=.seq #[.int i tk,u]},toks:=tk+1}:=
   I.laid (t':=tk+1) (λb o e=>Ad _ e) (Ai _) ⟨by show 2<=sizeLine;decide,[.int i tk,u],.cons ⟨_,rfl⟩ (.cons ru .nil),⟨_,Ak _ rfl,rfl,_,rfl⟩⟩
  have t:∀b∈[e,it],Xf X c (upd H s.heap.objs.size (.tup [.int i,x])) b:=λb a=>by
   have nb:b≠s.heap.objs.size:=λq=>by
    simp only[Am,Bf,or_false]at a;rcases a with rfl|rfl
    .exact absurd (An g) (by rw[q];exact Ey _)
    .exact absurd (An hoi) (by rw[q];exact Ey _)
   obtain⟨f0,f1,f2,f3,f4,f5⟩:=hf b a;exact⟨by rw[Jad nb];exact f0,f1,f2,f3,f4,f5⟩
  have I1:Inv X c σ (upd H s.heap.objs.size (.tup [.int i,x])) {s with heap:=h2,toks:=tk+1}:=by
   refine Inv.turnedL (s:={s with heap:=s.heap.push {cls:=.type "tuple",data:=.seq #[.int i tk,u]},toks:=tk+1}) (h':=h2) (t':=tk+1) (fp:=[e,it]) I0 (λb o a q=>?_) t
   replace q:(s.heap.push {cls:=.type "tuple",data:=.seq #[.int i tk,u]}).get? b=some o:=q
   simp only[Am,Bf,or_false,not_or]at a;obtain⟨b1,b2⟩:=a;rw[sb.2 b b1]
   by_cases hT:b=s.heap.objs.size
   .subst hT;rw[Ak _ rfl]at q;cases q;exact pr
   .rw[R8 _ _ _ hT]at q;exact kk b o b1 b2 q
  refine⟨.ref s.heap.objs.size,_,I1,rfl,⟨_,x,hf0,rfl,rfl,λzs hz'=>by rw[hz'.inj I y];exact hx⟩,⟨⟨u,by simpa using z2⟩,?_⟩,λb a=>(t b a).1⟩;exact j1.1.at λo q=>(sb.2 it (Ef j)).trans q
 done:=by
  intro X N Q U Y i c s σ H E I hf st hg;subst N Q U;obtain⟨xs,y,rfl⟩:=hg;obtain⟨⟨d,g⟩,r⟩:=st;obtain⟨f,rv,p⟩:=y.sr I;have J:xs.length=f.toArray.size:=by rw[rv.length];simp
  rw[J]at r;refine wpAny_pyNext_enum_endD (draw (A:=X.A.in1) b (I.ok.hd Y) it l n f.toArray) g ⟨r,p⟩ λL kk=>⟨rfl,I.turnedL (t':=s.toks) (fp:=[e,it]) (λb o a q=>?_) hf⟩
  simp only[Am,Bf,or_false,not_or]at a;exact kk b o a.2 q
 self:=λ_ _ _ _ _ st h=>by
  obtain⟨⟨d,g⟩,_⟩:=st;exact Vf g h
def Wbx(K:Ag)(a:TA):TI:=λc H R=>a c H λd H1=>∃l b,d=[.ref l]/\(∃e,SqB b K H1 l e)/\R (Ite b K l) H1
theorem Jna:Dx "enumerate"=some (.type "enumerate"):=by rfl
def Jtm{X:Cx}{a:Expr}{j:TA}{p pos:Pos}{c:List Expr}{r:Nat}{t:Pos}(v:Gl X "enumerate")(w:X.mg "enumerate"=none)(x:PA X [a] j)(y:B4 [a] X.env=[(false,eval a X.env)]):
  PI X (.Tuple c r t) (.Call (.Name "enumerate" p) [a] [] pos) (Wbx X.K j):=by
 intro d s z H R I h;refine To (Jck I v w Jna (Dl (thn (x pos d s z H _ I h) λY g ⟨vs,H1,i,A,C⟩=>?_) (by rw[y];rfl) rfl) (by decide) (by decide));obtain⟨l,b,e,⟨xs,E⟩,q⟩:=C;subst e;obtain⟨u,rfl,J⟩:=vals1 A;cases J;obtain⟨L,rv,k⟩:=E.sr i;refine Jm7 k λN m Q U=>?_;refine Vf (s:={g with heap:=N}) m ?_;have n:=k.lt;refine⟨g.heap.objs.size+1,_,_,_,H1,rfl,i.kept (t':=g.toks) U,Jk6 _ _ l (Cy (Dy _)) (Ay n) (Ay (Kj n)),⟨⟨_,m⟩,Q⟩,λb o=>?_,q⟩;have f:g.heap.objs.size<=b:=by
  simp only[Am,Bf,or_false]at o;rcases o with rfl|rfl
  .exact Lv _
  .exact Ai _
 exact i.fpOk f (i.hok.fresh f)
section
variable {X:Cx}
def Wbk(K:Ag):R2:=λx y H Q=>∃l b a zs,x=.ref l/\y=.ref b/\SqL K H l a/\SqL K H b zs/\a.length+zs.length<=sizeLine/\∀p,H p=none->Q (.ref p) (upd H p (.lst (a++zs)))
def Jt1:OpR X (Gy .Add) (Wbk X.K):=by
 intro k s σ H x y v u Q I A C h;obtain⟨l,b,xs,zs,rfl,rfl,E,J,hz,q⟩:=h;cases A;cases C;obtain⟨c,r,L,_⟩:=I.list E;obtain⟨a,m,N,_⟩:=I.list J;have hl:=r.length;have U:=m.length;obtain⟨⟨Y,dd,o,sl⟩,p,t,n,w⟩:=id L.isList;obtain⟨⟨z,i,data2,j⟩,d,f,n2,g⟩:=id N.isList;simp only at t w f g;subst t w f g;have e:c.toArray++a.toArray=(c++a).toArray:=by simp
 refine Mo ⟨_,p,rfl⟩ ⟨_,d,rfl⟩ noFill_list_add seq_list_add PySem.F.slot_list_add PySem.F.entry_list_add (PySem.F.args_list_add_2 _ _) (list_addW l b c.toArray a.toArray n n2 dd i sl j (by simp;lia)) ⟨p,d,?_⟩;rw[e];exact⟨.ref _,_,I.lnew (t':=s.toks) (r.append m) (by rw[Ap];lia),rfl,q _ I.fresh⟩
end
open PySem PySem.Spec PyProof.Rows
section
variable {X:Cx}
theorem J0a(r:KV kvs vs):∀(i:Nat) (k:Key) (x:Value),vs[i]? =some (k,x)->∃v,kvs[i]? =some (k,v):=by
 unfold KV at r
 induction r with
 |nil=>intro i k x h;simp at h
 |@cons p q d e a _ b=>
  intro i k x h;cases i with
  |zero=>
   have c:q=(k,x):=by simpa using h
   subst c;refine⟨p.2,?_⟩;show some p=_;have:p.1=k:=a.1;rw[<-this]
  |succ i=>exact b i k x (by simpa using h)
theorem Jxx{kvs:List (Key×V)}{vs:List (Key×Value)}(r:KV kvs vs):kvs.length=vs.length:=by
 unfold KV at r
 induction r with
 |nil=>rfl
 |cons _ _ a=>rw[Bb,Bb,a]
theorem Jk2:∀{xs:List V} {us:List Value},xs.length=us.length->(∀(i:Nat) (u:Value),us[i]? =some u->∃x,xs[i]? =some x/\RelV x u)->Vals xs us
 |[],[],_,_=>.nil
 |[],u::us,h,_=>by simp at h
 |x::xs,[],h,_=>by simp at h
 |x::xs,u::us,h,g=>by
  obtain⟨y,e,r⟩:=g 0 u rfl;have a:x=y:=by simpa using e
  subst a;exact .cons r (Jk2 (by simpa using h) λi w q=>by simpa using g (i+1) w (by simpa using q))
def Jgn(w:X.calm=true):We X (.type "list") (λxs H Q=>∃p kvs,xs=[.ref p]/\H p=some (.dK kvs)/\∀l,H l=none->Q (.ref l) (upd H l (.lst (kvs.map λb=>kV b.1)))):=by
 intro d s σ H xs us Q I r h;obtain⟨p,kvs,rfl,hp,q⟩:=h;obtain⟨u,rfl,z⟩:=vals1 r;cases z;obtain⟨f,A,C,c,o,E,J,m⟩:=(show Vz X.prog X.w H s.heap p (.dK kvs)from I.hok p _ hp)
 have g:=Jxx c;refine PySem.W.kdl_call (PySem.W.kdl_dict (knd:=mixKind X.prog X.w) (kvs:=C) (ep:=J) A) (I.ok.hd w) ⟨o,E,m⟩ (by rw[<-g];exact f) λL tk a N U e n=>?_;have Y:Vals (kvs.map λb=>kV b.1) a.toList:=by
  refine Jk2 (by rw[Ah,g];exact n.1.symm) λi u hu=>?_;obtain⟨k,x,ek,hk⟩:=n.2 i u (by rw[<-Bn];exact hu);obtain⟨v,ev⟩:=J0a c i k x ek;refine⟨kV k,by rw[Ao,ev];rfl,?_⟩;rcases Jaw hk with⟨j,t,rfl,rfl⟩|⟨y,t,rfl,rfl⟩
  .exact⟨_,rfl⟩
  .exact⟨_,rfl⟩
 refine⟨.ref s.heap.objs.size,_,I.laid (t':=tk) U (Ai _) (show Vz X.prog X.w _ L _ (.lst (kvs.map λb=>kV b.1))from⟨by rw[Ah];exact f,a.toList,N,Y,by simpa using e⟩),rfl,q _ (I.hok.fresh (Ai _))⟩
end
end L2
namespace LR
open PySem PySem.Spec PyProof.Rows PySem.F
section
variable {prog:Program} {w:World} {A:Bi} {E:Value->Shared->Prop} {s:Shared}
noncomputable def ltZ(a b c d:Int):Bool:=decide (a<c)||(decide (a=c)&&decide (b<d))
def int_lt{Q:Value->Shared->Prop}(h:Q (.bool (decide (a<b))) s):wpAny (model prog w) A (Ta .Lt (.int a t) (.int b u)) Q E s:=
 richCompare_gives (op:=.Lt) (Uu s _ t) (Uu s _ u) F.slot_int_lt F.entry_int_lt (F.args_int_lt_2 _ _) (gives_int_lt _ _ t u) (λx=>nomatch x) h
def Jtx{Q:Value->Shared->Prop}(hp:IsTup s.heap p #[.int a t,.int b u])(f:IsTup s.heap q #[.int c v,.int d x])(j:A.units<Dc)
  (h:Q (.bool (ltZ a b c d)) s):wpAny (model prog w) A (Ta .Lt (.ref p) (.ref q)) Q E s:=by
 refine J1 (op:=.Lt) (Yn hp) (Yn f) Vr (Bp Vr (Yn hp) F.entry_tuple_lt ?_ (F.args_tuple_lt_2 _ _)) j;show wpAny _ _ (Qg (.ref q) (.type "tuple")>>=_) _ _ s;refine Aa (Eh (Yn f) I9 ?_);rw[if_neg (show¬((!true)=true)from Ba)];refine Aa (Nh hp ?_);refine Aa (Nh f ?_);refine Aa ?_;show wpAny _ _ (forIn [((Eb a t:Value),(Eb c v:Value)),(.int b u,.int d x)] _ _) _ _ s;rw[Jc];refine Aa (Aa (Je ?_))
 by_cases g:a=c
 .subst g;rw[show(a==a)=true from beq_self_eq_true a,if_neg (show¬((!true)=true)from Ba)];refine Ab ?_;show wpAny _ _ (forIn [((Eb b u:Value),(Eb d x:Value))] _ _) _ _ s;rw[Jc];refine Aa (Aa (Je ?_))
  by_cases i:b=d
  .subst i;rw[show(b==b)=true from beq_self_eq_true b,if_neg (show¬((!true)=true)from Ba)];refine Ab ?_;refine Ab ?_;have e:Q (.bool false) s:=by simpa [ltZ]using h
   exact Ab ⟨_,rfl,(λz=>nomatch z),e⟩
  .rw[show(b==d)=false from beq_eq_false_iff_ne.mpr i,if_pos (show(!false)=true from rfl)];have e:Q (.bool (decide (b<d))) s:=by simpa [ltZ]using h
   refine Aa (Dn ?_);refine Aa (int_lt ?_);exact Aa (Ab (Ab (Ab (Ab ⟨_,rfl,(λz=>nomatch z),e⟩))))
 .rw[show(a==c)=false from beq_eq_false_iff_ne.mpr g,if_pos (show(!false)=true from rfl)];have e:Q (.bool (decide (a<c))) s:=by simpa [ltZ,g]using h
  refine Aa (Dn ?_);refine Aa (int_lt ?_);exact Aa (Ab (Ab (Ab (Ab ⟨_,rfl,(λz=>nomatch z),e⟩))))
end
end LR
namespace L2
open PySem PySem.Spec PyProof.Rows
end L2
namespace Srt
open PySem PyProof.Rows
abbrev SM:=StateT Cw Sem
noncomputable def gallop':Bool->Keyed->Array Keyed->Nat->Nat->Nat->SM (Option Nat):=sortPriv%PySem.Builtin.gallop
noncomputable def mergeLo':Array Keyed->Array Keyed->SM (Array Keyed):=sortPriv%PySem.Builtin.mergeLo
noncomputable def mergeHi':Array Keyed->Array Keyed->SM (Array Keyed):=sortPriv%PySem.Builtin.mergeHi
noncomputable def Wav(a:Nat->SM (Option Bool))(n l r:Nat):SM (Option Nat):=do
 let mut l:=l
 let mut r:=r
 for _ in[0:n] do
  if l≥r then break
  let m:=l+(r-l)/2
  let some d<-a m|return none
  if d then l:=m+1 else r:=m
 return some r
def Wb0(a:Nat->SM (Option Bool))(n h:Nat):SM (Option Nat):=do
 let mut p:=0
 let mut q:=1
 for _ in[0:n] do
  if q≥n-h then break
  let some d<-a (h+q)|return none
  if !d then break
  p:=q
  q:=2*q+1
 Wav a n (h+p+1) (h+min q (n-h))
def Wb1(a:Nat->SM (Option Bool))(n h:Nat):SM (Option Nat):=do
 let mut p:=0
 let mut q:=1
 for _ in[0:n] do
  if q≥h+1 then break
  let some d<-a (h-q)|return none
  if d then break
  p:=q
  q:=2*q+1
 Wav a n (h+1-min q (h+1)) (h-p)
def Wb2(a:Nat->SM (Option Bool))(n h:Nat):SM (Option Nat):=do
 let some c<-a h|return none
 if c then Wb0 a n h else Wb1 a n h
noncomputable def bey(left:Bool)(a:Keyed)(b:Array Keyed)(base i:Nat):SM (Option Bool):=do
 let x<-elem' b (base+i)
 if left then lt' x a else return (<-lt' a x).map (!·)
theorem Jkq(left:Bool)(b:Keyed)(c:Array Keyed)(base n a:Nat):gallop' left b c base n a=Wb2 (bey left b c base) n a:=rfl
section
variable {M:K5} {A:Bi} {E:Value->Shared->Prop} {s:Shared} {st:Cw} {be:Nat->SM (Option Bool)} {n h c:Nat} {Q:Option Nat->Cw->Prop}
def Be(M:K5)(A:Bi)(E:Value->Shared->Prop)(s:Shared)(st:Cw)(be:Nat->SM (Option Bool))(n c:Nat):Prop:=c<=n/\∀i,i<n->∀Q:Option Bool->Cw->Prop,Q (some (decide (i<c))) st->wpS M A E s (be i) Q st
theorem Jja(j:Be M A E s st be n c)(k:l<=c)(m:c<=r)(o:r<=n)(p:Q (some c) st):wpS M A E s (Wav be n l r) Q st:=by
 refine Av (Cz (De (I:=λx d f=>f=st/\∃l r,d=(none,l,r)/\l<=c/\c<=r/\r<=n/\r-l<=n-x) (Q:=λd f=>f=st/\∃l,d=(none,l,c)) ?_ ?_ ⟨rfl,l,r,rfl,k,m,o,by lia⟩) ?_)
 .rintro x _ _ _ t ⟨rfl,l,r,rfl,a,b,d,e⟩;dsimp only
  by_cases g:l≥r
  .rw[if_pos g];exact A5 ⟨rfl,l,by rw[show r=c by lia]⟩
  rw[if_neg g];refine Av (j.2 _ (by lia) _ ?_);dsimp only
  by_cases i:l+(r-l)/2<c
  .rw[decide_eq_true i];exact A5 ⟨rfl,_,r,rfl,i,b,d,by lia⟩
  .rw[decide_eq_false i];exact A5 ⟨rfl,l,_,rfl,a,by lia,by lia,by lia⟩
 .rintro _ _ ⟨rfl,l,r,rfl,a,b,d,e⟩;exact⟨rfl,l,by rw[show r=c by lia]⟩
 .rintro _ _ ⟨rfl,l,rfl⟩;exact A5 p
theorem Jnk(f:Be M A E s st be n c)(j:h<c)(k:Q (some c) st):wpS M A E s (Wb0 be n h) Q st:=by
 have l:=f.1;refine Av (Cz (De (I:=λx d e=>e=st/\∃p q,d=(none,p,q)/\x<q/\h+p<c) (Q:=λd e=>e=st/\∃p q,d=(none,p,q)/\h+p<c/\c<=h+min q (n-h)) ?_ ?_ ⟨rfl,0,1,rfl,by lia,j⟩) ?_)
 .rintro x _ _ _ m ⟨rfl,p,q,rfl,a,b⟩;dsimp only
  by_cases g:q≥n-h
  .rw[if_pos g];exact A5 ⟨rfl,p,q,rfl,b,by lia⟩
  rw[if_neg g];refine Av (f.2 _ (by lia) _ ?_);dsimp only
  by_cases i:h+q<c
  .rw[decide_eq_true i];exact A5 ⟨rfl,q,_,rfl,by lia,i⟩
  .rw[decide_eq_false i];exact A5 ⟨rfl,p,q,rfl,b,by lia⟩
 .rintro _ _ ⟨rfl,p,q,rfl,a,b⟩;exact⟨rfl,p,q,rfl,b,by lia⟩
 .rintro _ _ ⟨rfl,p,q,rfl,a,b⟩;exact Jja f a b (by lia) k
theorem Jnl(f:Be M A E s st be n c)(j:c<=h)(l:h<n)(k:Q (some c) st):wpS M A E s (Wb1 be n h) Q st:=by
 refine Av (Cz (De (I:=λx d e=>e=st/\∃p q,d=(none,p,q)/\x<q/\c+p<=h) (Q:=λd e=>e=st/\∃p q,d=(none,p,q)/\c+p<=h/\h+1<=c+min q (h+1)) ?_ ?_ ⟨rfl,0,1,rfl,by lia,j⟩) ?_)
 .rintro x _ _ _ m ⟨rfl,p,q,rfl,a,b⟩;dsimp only
  by_cases g:q≥h+1
  .rw[if_pos g];exact A5 ⟨rfl,p,q,rfl,b,by lia⟩
  rw[if_neg g];refine Av (f.2 _ (by lia) _ ?_);dsimp only
  by_cases i:h-q<c
  .rw[decide_eq_true i];exact A5 ⟨rfl,p,q,rfl,b,by lia⟩
  .rw[decide_eq_false i];exact A5 ⟨rfl,q,_,rfl,by lia,by lia⟩
 .rintro _ _ ⟨rfl,p,q,rfl,a,b⟩;exact⟨rfl,p,q,rfl,b,by lia⟩
 .rintro _ _ ⟨rfl,p,q,rfl,a,b⟩;exact Jja f (by lia) (by lia) (by lia) k
theorem Jnm(a:Be M A E s st be n c)(d:h<n)(e:Q (some c) st):wpS M A E s (Wb2 be n h) Q st:=by
 refine Av (a.2 h d _ ?_);dsimp only
 by_cases b:h<c
 .rw[decide_eq_true b];exact Jnk a b e
 .rw[decide_eq_false b];exact Jnl a (by lia) d e
end
abbrev SL(rk:Keyed->Int)(l:List Keyed):Prop:=l.Pairwise λx y=>rk x<=rk y
noncomputable abbrev mg(rk:Keyed->Int)(A B:List Keyed):List Keyed:=Ml A B λx y=>decide (rk x<=rk y)
section
variable {rk:Keyed->Int} {A A' B B' L:List Keyed} {i j:Nat} {x y:Keyed}
theorem Zc(h:∀x∈A,∀y∈B,rk x<=rk y):mg rk (A++A') B=A++mg rk A' B:=by
 induction A with
 |nil=>rfl
 |cons x A b=>
  cases B with
  |nil=>simp[mg]
  |cons y B=>simpa [mg,Ml,h x (by simp) y (by simp)]using b λa c=>h a (by simp[c])
theorem Zb(h:∀y∈B,∀x∈A,rk y<rk x):mg rk A (B++B')=B++mg rk A B':=by
 induction B with
 |nil=>rfl
 |cons y B b=>
  cases A with
  |nil=>simp[mg]
  |cons x A=>simpa [mg,Ml,Int.not_le.mpr (h y (by simp) x (by simp))]using b λa c=>h a (by simp[c])
theorem Jxs(h:∀x∈A',∀y∈B,rk y<rk x):mg rk (A++A') B=mg rk A B++A':=by
 induction A generalizing B with
 |nil=>simpa [mg]using Zb (B:=B) (B':=[]) (A:=A') λy a x b=>h x b y a
 |cons x A d=>
  induction B with
  |nil=>simp[mg]
  |cons y B c=>
   simp only[mg,Ks,Ml];split
   .exact congrArg (x::·) (d h)
   .exact congrArg (y::·) (c λx b y a=>h x b y (by simp[a]))
theorem Jt5(h:∀y∈B',∀x∈A,rk x<=rk y):mg rk A (B++B')=mg rk A B++B':=by
 induction A generalizing B with
 |nil=>simp[mg]
 |cons x A d=>
  induction B with
  |nil=>simpa [mg]using Zc (A:=x::A) (A':=[]) (B:=B') λx a y b=>h y b x a
  |cons y B c=>
   simp only[mg,Ks,Ml];split
   .exact congrArg (x::·) (d (B:=y::B) λy b x a=>h y b x (by simp[a]))
   .exact congrArg (y::·) c
theorem Jz9(d:SL rk A)(e:SL rk B):SL rk (mg rk A B):=by
 have:=List.pairwise_merge (le:=λx y=>decide (rk x<=rk y)) (by intro a b c;simp;lia) (by intro a b;simp;lia) A B (by simpa using d) (by simpa using e)
 simpa using this
end
section
variable {rk:Keyed->Int} {U:Keyed->Prop} {κ:Hg} {M:K5} {A:Bi} {E:Value->Shared->Prop} {s:Shared} {st:Cw} {x y:Keyed}
def Ans(M:K5)(A:Bi)(s:Shared)(κ:Hg)(rk:Keyed->Int)(U:Keyed->Prop):Prop:=
 ∀x y,U x->U y->∀Q:Bool->Shared->Prop,Q (decide (rk x<rk y)) s->wpAny M A (keyLt' κ x.1 y.1) Q (λ_ _=>False) s
theorem Jee{Q:Option Bool->Cw->Prop}(c:Ans M A s κ rk U)(d:kindOf st=κ)(f:U x)(g:U y)(h:Q (some (decide (rk x<rk y))) st):wpS M A E s (lt' x y) Q st:=by
 rw[lt'_eq];refine Av (K6 ?_);rw[d];refine Av (Mt (E6 (Ce (c x y f g (λb a=>a=s/\b=decide (rk x<rk y)) ⟨rfl,rfl⟩) (λb a i=>?_) λ_ _ e=>e.elim)));obtain⟨rfl,rfl⟩:=i;exact⟨rfl,A5 h⟩
theorem Jai{Q:Keyed->Cw->Prop}(h:a[i]? =some x)(b:Q x st):wpS M A E s (elem' a i) Q st:=by
 rw[elem'_eq,h];exact A5 b
noncomputable def bl(rk:Keyed->Int)(left:Bool)(a x:Keyed):Bool:=if left then decide (rk x<rk a)else !decide (rk a<rk x)
theorem Jjd(rk:Keyed->Int)(left:Bool)(c:Keyed)(h:SL rk L):∃d L2,L=d++L2/\(∀x∈d,bl rk left c x=true)/\∀x∈L2,bl rk left c x=false:=by
 induction L with
 |nil=>exact⟨[],[],rfl,by simp,by simp⟩
 |cons y L g=>
  obtain⟨i,j⟩:=Dr.mp h;cases f:bl rk left c y with
  |true=>
   obtain⟨d,L2,e,a,b⟩:=g j;exact⟨y::d,L2,by rw[e];rfl,by simpa [f]using a,b⟩
  |false=>
   refine⟨[],y::L,rfl,by simp,List.forall_mem_cons.mpr ⟨f,λx k=>?_⟩⟩;have:=i x k;cases left<;>simp[bl]at f ⊢<;>lia
theorem Jbb{f:Array Keyed}{L:List Keyed}{Q:Option Nat->Cw->Prop}(l:Ans M A s κ rk U)(m:kindOf st=κ)
  (t:(f.toList.drop base).take n=L)(u:L.length=n)(v:SL rk L)(w:∀x∈L,U x)(b:U a)(z:h<n)
  (C:∀d L2,L=d++L2->(∀x∈d,bl rk left a x=true)->(∀x∈L2,bl rk left a x=false)->Q (some d.length) st):wpS M A E s (gallop' left a f base n h) Q st:=by
 obtain⟨d,L2,e,o,p⟩:=Jjd rk left a v;rw[Jkq];refine Jnm (c:=d.length) ⟨by rw[<-u,e,Ap];lia,λi H N j=>?_⟩ z (C d L2 e o p);have k:i<L.length:=by lia
 obtain⟨x,g⟩:∃x,L[i]? =some x:=⟨_,Af k⟩
 have I:f[base+i]? =some x:=by rw[<-g,<-t,Fq H,Ru,Bn]
 have r:=w _ (Au g);have J:bl rk left a x=decide (i<d.length):=by
  rw[e]at g
  by_cases c:i<d.length
  .rw[decide_eq_true c];rw[A0 c]at g;exact o _ (Au g)
  .rw[decide_eq_false c];rw[Aw (by lia)]at g;exact p _ (Au g)
 rw[<-J]at j;refine Av (Jai I ?_);cases left with
 |true=>exact Jee l m r b j
 |false=>exact Av (Jee l m b r (A5 j))
end
section
variable {a b o:Array Keyed} {i j k:Nat} {x:Keyed}
theorem Jci(h:i<a.size):∃x,a[i]? =some x/\x∈a.toList/\a.toList.drop i=x::a.toList.drop (i+1)/\a.toList.take (i+1)=a.toList.take i++[x]:=
 ⟨a[i],Bo h,by simp,by rw[<-Array.getElem_toList];exact Bw (by simpa using h),by rw[List.take_succ,Bn,Bo h];rfl⟩
theorem Jpp:(a.extract i a.size).toList=a.toList.drop i:=by
 rw[Iy,Hb];exact B9 (by simp)
theorem Jpq:(a.extract i (i+k)).toList=(a.toList.drop i).take k:=by simp[Iy,Hb]
theorem Jav{m n:Nat}(h:¬(m==n)=true):m≠n:=λe=>h (by rw[e];exact beq_self_eq_true n)
theorem dt(L:List Keyed)(i k:Nat):L.drop i=(L.drop i).take k++L.drop (i+k):=by
 rw[<-Uk];exact(Gk _ _).symm
theorem td(L:List Keyed)(h:p<=i):L.take i=L.take p++(L.take i).drop p:=by
 rw[show L.take p=(L.take i).take p by rw[Om,Oc h]];exact(Gk _ _).symm
end
noncomputable abbrev stG(st:Cw)(g:Nat):Cw:=F1 (kindOf st) (arrOf st) (pendingOf st) g (failedOf st)
noncomputable abbrev Yo(g:Nat):SM Unit:=modify λst=>F1 (kindOf st) (arrOf st) (pendingOf st) g (failedOf st)
structure Me(M:K5)(A:Bi)(s:Shared)(κ:Hg)(rk:Keyed->Int)(U:Keyed->Prop)(a b:Array Keyed):Prop where
 ans:Ans M A s κ rk U
 sa:SL rk a.toList
 sb:SL rk b.toList
 ua:∀x∈a.toList,U x
 ub:∀x∈b.toList,U x
 low:∀y,b[0]? =some y->∀x∈a.toList,rk y<rk x
 top:∀x,a[a.size-1]? =some x->∀y∈b.toList,rk y<rk x
 na:0<a.size
 nb:0<b.size
section
variable {rk:Keyed->Int} {U:Keyed->Prop} {κ:Hg} {M:K5} {A:Bi} {E:Value->Shared->Prop} {s:Shared} {st:Cw} {a b o:Array Keyed} {i j k g ca cb v:Nat} {x y:Keyed}
def Wl(rk:Keyed->Int)(a b o:Array Keyed)(i j:Nat):Prop:=o.toList++mg rk (a.toList.drop i) (b.toList.drop j)=mg rk a.toList b.toList
theorem Wl.ak(h:Wl rk a b o i j)(c:∀x∈(a.toList.drop i).take k,∀y∈b.toList.drop j,rk x<=rk y):Wl rk a b (o++a.extract i (i+k)) (i+k) j:=by
 unfold Wl at h ⊢;rw[<-h,Er,Jpq,Bc,<-Zc c,<-dt]
theorem Wl.bk(h:Wl rk a b o i j)(c:∀y∈(b.toList.drop j).take k,∀x∈a.toList.drop i,rk y<rk x):Wl rk a b (o++b.extract j (j+k)) i (j+k):=by
 unfold Wl at h ⊢;rw[<-h,Er,Jpq,Bc,<-Zb c,<-dt]
theorem Wl.a1(h:Wl rk a b o i j)(c:a.toList.drop i=x::a.toList.drop (i+1))(d:∀y∈b.toList.drop j,rk x<=rk y):Wl rk a b (o.push x) (i+1) j:=by
 unfold Wl at h ⊢;rw[<-h,Hw,Bc,<-Zc (by simpa using d),c];rfl
theorem Wl.b1(h:Wl rk a b o i j)(c:b.toList.drop j=y::b.toList.drop (j+1))(d:∀x∈a.toList.drop i,rk y<rk x):Wl rk a b (o.push y) i (j+1):=by
 unfold Wl at h ⊢;rw[<-h,Hw,Bc,<-Zb (by simpa using d),c];rfl
theorem Wl.fin(h:Wl rk a b o i j)(z:i=a.size\/j=b.size):(o++a.extract i a.size++b.extract j b.size).toList=mg rk a.toList b.toList:=by
 rw[<-h,Er,Er,Jpp,Jpp,Bc];rcases z with rfl|rfl
 .rw[F8 (by simp)];simp[mg]
 .rw[F8 (as:=b.toList) (by simp)];simp[mg]
theorem Wl.fil(m:Me M A s κ rk U a b)(h:Wl rk a b o i j)(l:i+1=a.size):(o++b.extract j b.size++a.extract i a.size).toList=mg rk a.toList b.toList:=by
 obtain⟨x,e,_,d,_⟩:=Jci (a:=a) (i:=i) (by lia);rw[F8 (as:=a.toList) (i:=i+1) (by simp;lia)]at d;rw[<-h,Er,Er,Jpp,Jpp,Bc,d];have:=Zb (rk:=rk) (A:=[x]) (B:=b.toList.drop j) (B':=[]) λy c z f=>by
  rw[Ar.mp f];exact m.top x (by rw[show a.size-1=i by lia];exact e) y (Iz c)
 rw[Dq]at this;rw[this];simp[mg]
theorem Jpk(h:SL rk a.toList)(e:a.toList.drop i=x::a.toList.drop (i+1)):∀y∈a.toList.drop i,rk x<=rk y:=by
 have c:SL rk (a.toList.drop i):=El (Kc _ _) h;rw[e]at c ⊢;intro y hy;rcases Am.mp hy with rfl|hy
 .exact N0 _
 .exact(Dr.mp c).1 y hy
end
abbrev LoS:=Option (Array Keyed)×Array Keyed×Nat×Nat×Nat×Nat×Nat
abbrev Wa2:=Option (Array Keyed)×Array Keyed×Nat×Nat×Nat×Nat
abbrev Wa3:=Option (Array Keyed)×Array Keyed×Nat×Nat×Nat
noncomputable def lo1(a b:Array Keyed)(g:Nat)(o:Array Keyed)(i j c d:Nat):SM (ForInStep Wa2):=do
 let y<-elem' b j
 let x<-elem' a i
 let r<-lt' y x
 match r with
 |some w=>
  if w=true then
   let y<-elem' b j
   if(j+1==b.size)=true then pure (.done (some (o.push y++a.extract i a.size++b.extract (j+1) b.size),o.push y,i,j+1,0,d+1))
   else if d+1≥g then pure (.done (none,o.push y,i,j+1,0,d+1))else pure (.yield (none,o.push y,i,j+1,0,d+1))
  else
   let x<-elem' a i
   if(i+1+1==a.size)=true then pure (.done (some (o.push x++b.extract j b.size++a.extract (i+1) a.size),o.push x,i+1,j,c+1,0))
   else if c+1≥g then pure (.done (none,o.push x,i+1,j,c+1,0))else pure (.yield (none,o.push x,i+1,j,c+1,0))
 |_=>pure (.done (some (o++a.extract i a.size++b.extract j b.size),o,i,j,c,d))
noncomputable def loV(a b o:Array Keyed)(i j g c d:Nat):SM (ForInStep LoS):=do
 let y<-elem' a i
 if(i+1+1==a.size)=true then pure (.done (some (o.push y++b.extract j b.size++a.extract (i+1) a.size),o.push y,i+1,j,g,c,d))
 else if(decide (c<7)&&decide (d<7))=true then pure (.done (none,o.push y,i+1,j,g,c,d))else pure (.yield (none,o.push y,i+1,j,g,c,d))
def loU(a b o:Array Keyed)(i j g c d:Nat):SM (ForInStep LoS):=do
 let x<-elem' b j
 if(j+1==b.size)=true then pure (.done (some (o.push x++a.extract i a.size++b.extract (j+1) b.size),o.push x,i,j+1,g,c,d))
 else
  let y<-elem' a i
  let r<-gallop' true y b (j+1) (b.size-(j+1)) 0
  match r with
  |some k=>(if k>0 then(if(j+1+k==b.size)=true then pure (.done (some (o.push x++b.extract (j+1) (j+1+k)++a.extract i a.size++b.extract (j+1+k) b.size),o.push x++b.extract (j+1) (j+1+k),i,j+1+k,g,c,k))
     else loV a b (o.push x++b.extract (j+1) (j+1+k)) i (j+1+k) g c k)else loV a b (o.push x) i (j+1) g c k)
  |_=>pure (.done (some (o.push x++a.extract i a.size++b.extract (j+1) b.size),o.push x,i,j+1,g,c,d))
def loT(a b o:Array Keyed)(i j d c g:Nat):SM (ForInStep LoS):=do
 Yo g
 let x<-elem' b j
 let r<-gallop' false x a i (a.size-i) 0
 match r with
 |some k=>(if k>0 then
    (if(i+k+1==a.size)=true then pure (.done (some (o++a.extract i (i+k)++b.extract j b.size++a.extract (i+k) a.size),o++a.extract i (i+k),i+k,j,g,k,c))
    else if(i+k==a.size)=true then pure (.done (some (o++a.extract i (i+k)++a.extract (i+k) a.size++b.extract j b.size),o++a.extract i (i+k),i+k,j,g,k,c))
    else loU a b (o++a.extract i (i+k)) (i+k) j g k c)
   else loU a b o i j g k c)
 |_=>pure (.done (some (o++a.extract i a.size++b.extract j b.size),o,i,j,g,d,c))
def loF1(a b o:Array Keyed)(i j g:Nat):SM Wa2:=forIn [0:a.size+b.size] (none,o,i,j,0,0) λ_ c=>lo1 a b g c.2.1 c.2.2.1 c.2.2.2.1 c.2.2.2.2.1 c.2.2.2.2.2
def loF2(a b o:Array Keyed)(i j g d e:Nat):SM LoS:=forIn [0:a.size+b.size] (none,o,i,j,g,d,e) λ_ c=>
 if c.2.2.2.2.1>1 then loT a b c.2.1 c.2.2.1 c.2.2.2.1 c.2.2.2.2.2.1 c.2.2.2.2.2.2 (c.2.2.2.2.1-1)else loT a b c.2.1 c.2.2.1 c.2.2.2.1 c.2.2.2.2.2.1 c.2.2.2.2.2.2 c.2.2.2.2.1
def lo0(a b o:Array Keyed)(i j g:Nat):SM (ForInStep Wa3):=do
 let c<-loF1 a b o i j g
 match c.1 with
 |some r=>pure (.done (some r,c.2.1,c.2.2.1,c.2.2.2.1,g))
 |none=>do
  rule "list.sort.gallop"
  let d<-loF2 a b c.2.1 c.2.2.1 c.2.2.2.1 (g+1) c.2.2.2.2.1 c.2.2.2.2.2
  match d.1 with
  |some r=>pure (.done (some r,d.2.1,d.2.2.1,d.2.2.2.1,d.2.2.2.2.1))
  |none=>do
   Yo (d.2.2.2.2.1+1)
   pure (.yield (none,d.2.1,d.2.2.1,d.2.2.2.1,d.2.2.2.2.1+1))
def Wc8(a b:Array Keyed):SM (Array Keyed):=do
 rule "list.sort.merge-lo"
 let y<-elem' b 0
 if(1==b.size)=true then pure (#[y]++a.extract 0 a.size++b.extract 1 b.size)
 else if(0+1==a.size)=true then pure (#[y]++b.extract 1 b.size++a.extract 0 a.size)
 else do
  let st<-get
  let c<-forIn [0:a.size+b.size] ((none,#[y],0,1,Kq st):Wa3) λ_ c=>lo0 a b c.2.1 c.2.2.1 c.2.2.2.1 c.2.2.2.2
  match c.1 with
  |some r=>pure r
  |none=>unsupported "internal:list.sort.merge-bound"
theorem Jiq(a b:Array Keyed):mergeLo' a b=Wc8 a b:=by kernel_rfl
section
variable {rk:Keyed->Int} {U:Keyed->Prop} {κ:Hg} {M:K5} {A:Bi} {E:Value->Shared->Prop} {s:Shared} {st st1:Cw} {a b o:Array Keyed} {i j k g ca cb v:Nat} {x y:Keyed}
theorem sp{L c:List Keyed}(e:L.drop i=c++L2):(L.drop i).take c.length=c/\L.drop (i+c.length)=L2:=by
 rw[<-Uk,e];simp
inductive Lo (rk:Keyed->Int) (a b o:Array Keyed) (i j v:Nat):Prop
 |mk (w:Wl rk a b o i j) (ha:i+1<a.size) (hb:j<b.size) (hv:v<=i+j):Lo rk a b o i j v
def Pr(rk:Keyed->Int)(a b:Array Keyed)(v:Nat)(r:Option (Array Keyed))(o:Array Keyed)(i j:Nat):Prop:=match r with
 |some r=>r.toList=mg rk a.toList b.toList
 |none=>Lo rk a b o i j v
def Sg(st c:Cw):Prop:=∃g,c=stG st g
def T1(rk:Keyed->Int)(a b:Array Keyed)(st:Cw)(v:Nat):ForInStep Wa2->Cw->Prop
 |.done c,d=>d=st/\Pr rk a b v c.1 c.2.1 c.2.2.1 c.2.2.2.1
 |.yield c,d=>d=st/\c.1=none/\Lo rk a b c.2.1 c.2.2.1 c.2.2.2.1 v
def T2(rk:Keyed->Int)(a b:Array Keyed)(st:Cw)(v:Nat):ForInStep LoS->Cw->Prop
 |.done c,d=>Sg st d/\Pr rk a b v c.1 c.2.1 c.2.2.1 c.2.2.2.1
 |.yield c,d=>Sg st d/\c.1=none/\Lo rk a b c.2.1 c.2.2.1 c.2.2.2.1 v
theorem Jvo(m:Me M A s κ rk U a b)(u:kindOf st=κ)(h:Lo rk a b o i j v):wpS M A E s (lo1 a b g o i j ca cb) (T1 rk a b st (v+1)) st:=by
 obtain⟨w,C,f,J⟩:=h;obtain⟨y,n,H,p,_⟩:=Jci f;obtain⟨x,r,I,t,_⟩:=Jci (a:=a) (i:=i) (by lia);refine Av (Jai n (Av (Jai r (Av (Jee m.ans u (m.ub y H) (m.ua x I) ?_)))));dsimp only
 by_cases c:rk y<rk x
 .rw[decide_eq_true c,if_pos rfl];refine Av (Jai n ?_);have d:=w.b1 p λz e=>Hr c (Jpk m.sa t z e);split
  .exact A5 ⟨rfl,d.fin (.inr (eq_of_beq ‹_›))⟩
  .have l:Lo rk a b (o.push y) i (j+1) (v+1):=⟨d,C,by have:=Jav ‹_›;lia,by lia⟩
   split
   .exact A5 ⟨rfl,l⟩
   .exact A5 ⟨rfl,rfl,l⟩
 .rw[decide_eq_false c,if_neg Ba];refine Av (Jai r ?_);have d:=w.a1 t λz e=>Fo (Int.not_lt.mp c) (Jpk m.sb p z e);split
  .exact A5 ⟨rfl,d.fil m (eq_of_beq ‹_›)⟩
  .have l:Lo rk a b (o.push x) (i+1) j (v+1):=⟨d,by have:=Jav ‹_›;lia,f,by lia⟩
   split
   .exact A5 ⟨rfl,l⟩
   .exact A5 ⟨rfl,rfl,l⟩
theorem Jqd(m:Me M A s κ rk U a b)(w:Wl rk a b o i j)(h:i+1<a.size)(e:j<b.size)(n:v<=i+j)(le:∀x,a[i]? =some x->∀y∈b.toList.drop j,rk x<=rk y)(z:Sg st st1):wpS M A E s (loV a b o i j g ca cb) (T2 rk a b st v) st1:=by
 obtain⟨x,c,p,f,_⟩:=Jci (a:=a) (i:=i) (by lia);refine Av (Jai c ?_);have d:=w.a1 f (le x c);split
 .exact A5 ⟨z,d.fil m (eq_of_beq ‹_›)⟩
 .have l:Lo rk a b (o.push x) (i+1) j v:=⟨d,by have:=Jav ‹_›;lia,e,by lia⟩
  split
  .exact A5 ⟨z,l⟩
  .exact A5 ⟨z,rfl,l⟩
theorem Jqe(m:Me M A s κ rk U a b)(C:kindOf st1=κ)(w:Wl rk a b o i j)(n:i+1<a.size)(H:j<b.size)(hv:v<=i+j)(le:∀y,b[j]? =some y->∀x∈a.toList.drop i,rk y<rk x)(z:Sg st st1):wpS M A E s (loU a b o i j g ca cb) (T2 rk a b st v) st1:=by
 obtain⟨y,p,y2,I,_⟩:=Jci H;obtain⟨x,r,J,N,_⟩:=Jci (a:=a) (i:=i) (by lia);refine Av (Jai p ?_);have h:=w.b1 I (le y p);split
 .exact A5 ⟨z,h.fin (.inr (eq_of_beq ‹_›))⟩
 have hj:=Jav ‹_›;refine Av (Jai r (Av (Jbb m.ans C (L:=b.toList.drop (j+1)) (B9 (by simp)) (by simp) (El (Kc _ _) m.sb) (λy c=>m.ub y (Iz c)) (m.ua x J) (by lia) λd L2 e Q Y=>?_)));obtain⟨e1,e2⟩:=sp e;have q1:∀y∈d,∀x∈a.toList.drop i,rk y<rk x:=λy c t f=>Hr (by simpa [bl]using Q y c) (Jpk m.sa N t f);have l:∀t,a[i]? =some t->∀y∈b.toList.drop (j+1+d.length),rk t<=rk y:=λt f y c=>by
  rw[r]at f;cases f;rw[e2]at c
  simpa [bl]using Y y c
 dsimp only;split
 .have u:=h.bk (k:=d.length) (by rw[e1];exact q1);split
  .exact A5 ⟨z,u.fin (.inr (eq_of_beq ‹_›))⟩
  .have h4:=Jav ‹_›;have h5:=congrArg Dv e;simp at h5;exact Jqd m u n (by lia) (by lia) l z
 .have:d.length=0:=by lia
  rw[this]at l;exact Jqd m h n (by lia) (by lia) l z
theorem Jvn(m:Me M A s κ rk U a b)(l:kindOf st=κ)(h:Lo rk a b o i j v)(z:Sg st st1):wpS M A E s (loT a b o i j ca cb g) (T2 rk a b st v) st1:=by
 obtain⟨g',rfl⟩:=z;obtain⟨w,C,n,H⟩:=h;obtain⟨y,u,I,J,_⟩:=Jci n;refine Av (Ic (Av (Jai u (Av (Jbb m.ans l (L:=a.toList.drop i) (B9 (by simp)) (by simp) (El (Kc _ _) m.sa) (λy N=>m.ua y (Iz N)) (m.ub y I) (by lia) λc L2 e Q Y=>?_)))));obtain⟨e1,e2⟩:=sp e;have q1:∀x∈c,∀y∈b.toList.drop j,rk x<=rk y:=λx d t f=>Fo (by simpa [bl]using Q x d) (Jpk m.sb J t f);have p:∀t,b[j]? =some t->∀x∈a.toList.drop (i+c.length),rk t<rk x:=λt f x d=>by
  rw[u]at f;cases f;rw[e2]at d
  simpa [bl]using Y x d
 dsimp only;split
 .have r:=w.ak (k:=c.length) (by rw[e1];exact q1);have h5:=congrArg Dv e;simp at h5;split
  .exact A5 ⟨⟨_,rfl⟩,r.fil m (eq_of_beq ‹_›)⟩
  .have h3:=Jav ‹_›;split
   .exact A5 ⟨⟨_,rfl⟩,r.fin (.inl (eq_of_beq ‹_›))⟩
   .have h4:=Jav ‹_›;exact Jqe m l r (by lia) n (by lia) p ⟨_,rfl⟩
 .have:c.length=0:=by lia
  rw[this]at p;exact Jqe m l w C n H p ⟨_,rfl⟩
theorem Jrw(m:Me M A s κ rk U a b)(n:kindOf st=κ)(h:Lo rk a b o i j v):wpS M A E s (loF1 a b o i j g) (λc f=>f=st/\Pr rk a b (v+1) c.1 c.2.1 c.2.2.1 c.2.2.2.1) st:=by
 have u:=m.na;refine De (I:=λx c f=>f=st/\c.1=none/\Lo rk a b c.2.1 c.2.2.1 c.2.2.2.1 (v+x)) ?_ ?_ ⟨rfl,rfl,h⟩
 .rintro x c _ _ z ⟨rfl,_,l⟩;refine Cz (Jvo m n l) λr f q=>?_;cases r with
  |done c=>exact⟨q.1,by have:=q.2;unfold Pr at this ⊢;split<;>simp_all;obtain⟨a,b,c,d⟩:=this;exact⟨a,b,c,by lia⟩⟩
  |yield c=>exact q
 .rintro c _ ⟨rfl,e,⟨w,p,t,C⟩⟩;exact⟨rfl,by rw[e];exact⟨w,p,t,by lia⟩⟩
theorem Jrv(m:Me M A s κ rk U a b)(f:kindOf st=κ)(h:Lo rk a b o i j v)(z:Sg st st1):wpS M A E s (loF2 a b o i j g ca cb) (λc d=>Sg st d/\Pr rk a b v c.1 c.2.1 c.2.2.1 c.2.2.2.1) st1:=by
 refine De (I:=λx c d=>Sg st d/\c.1=none/\Lo rk a b c.2.1 c.2.2.1 c.2.2.2.1 v) ?_ ?_ ⟨z,rfl,h⟩
 .rintro x c _ _ n ⟨z,_,l⟩;split<;>exact Cz (Jvn m f l z) λr d q=>by cases r<;>exact q
 .rintro c _ ⟨z,e,l⟩;exact⟨z,by rw[e];exact l⟩
def T0(rk:Keyed->Int)(a b:Array Keyed)(st:Cw)(v:Nat):ForInStep Wa3->Cw->Prop
 |.done c,d=>Sg st d/\∃r,c.1=some r/\r.toList=mg rk a.toList b.toList
 |.yield c,d=>Sg st d/\c.1=none/\Lo rk a b c.2.1 c.2.2.1 c.2.2.2.1 v
theorem Jvp(m:Me M A s κ rk U a b)(c:kindOf st=κ)(h:Lo rk a b o i j v)(z:Sg st st1):wpS M A E s (lo0 a b o i j g) (T0 rk a b st (v+1)) st1:=by
 obtain⟨d,rfl⟩:=z;refine Av (Cz (Jrw m c h) ?_);rintro⟨r,o,i,j,ca,cb⟩ _ ⟨rfl,q⟩;cases r with
 |some r=>exact A5 ⟨⟨_,rfl⟩,r,rfl,q⟩
 |none=>
  refine Av (Mt (Dn ⟨rfl,Av (Cz (Jrv m c q ⟨_,rfl⟩) ?_)⟩));rintro⟨r,o,i,j,g,ca,cb⟩ _ ⟨⟨_,rfl⟩,q⟩;cases r with
  |some r=>exact A5 ⟨⟨_,rfl⟩,r,rfl,q⟩
  |none=>exact Av (Ic (A5 ⟨⟨_,rfl⟩,rfl,q⟩))
theorem Jj0{Q:Array Keyed->Cw->Prop}(m:Me M A s κ rk U a b)(n:kindOf st=κ)(f:∀r g,r.toList=mg rk a.toList b.toList->Q r (stG st g)):wpS M A E s (mergeLo' a b) Q st:=by
 rw[Jiq];obtain⟨y,h,t,p,_⟩:=Jci m.nb;refine Av (Mt (Dn ⟨rfl,Av (Jai h ?_)⟩));have w:Wl rk a b #[y] 0 1:=(show Wl rk a b #[] 0 0 from rfl).b1 p (m.low y h);split
 .exact A5 (f _ (Kq st) (w.fin (.inr (eq_of_beq ‹_›))))
 split
 .exact A5 (f _ (Kq st) (w.fil m (eq_of_beq ‹_›)))
 have u:=Jav ‹¬(1==b.size)=true›;have C:=Jav ‹¬(0+1==a.size)=true›;have H:=m.na;have J:=m.nb;refine Av (K6 (Av (Cz (De (I:=λx c d=>Sg st d/\c.1=none/\Lo rk a b c.2.1 c.2.2.1 c.2.2.2.1 (x+1)) (Q:=λc d=>Sg st d/\∃r,c.1=some r/\r.toList=mg rk a.toList b.toList) ?_ ?_ ⟨⟨_,rfl⟩,rfl,w,by lia,by lia,by lia⟩) ?_)))
 .rintro x c _ _ L ⟨z,_,l⟩;exact Cz (Jvp m n l z) λr d q=>by cases r<;>exact q
 .rintro c _ ⟨z,_,⟨w,N,Y,hv⟩⟩
  lia
 .rintro c _ ⟨⟨g,rfl⟩,r,e,q⟩;rw[e];exact A5 (f r g q)
end
abbrev HiS:=Option (Array Keyed)×Nat×Nat×Array Keyed×Nat×Nat×Nat
abbrev Wa4:=Option (Array Keyed)×Nat×Nat×Array Keyed×Nat×Nat
abbrev Wa5:=Option (Array Keyed)×Nat×Nat×Array Keyed×Nat
noncomputable def hi1(a b:Array Keyed)(g:Nat)(o:Array Keyed)(i j c d:Nat):SM (ForInStep Wa4):=do
 let y<-elem' b (j-1)
 let x<-elem' a (i-1)
 let r<-lt' y x
 match r with
 |some w=>
  if w=true then
   let x<-elem' a (i-1)
   if(i-1==0)=true then pure (.done (some (a.extract 0 (i-1)++b.extract 0 j++(o.push x).reverse),i-1,j,o.push x,c+1,0))
   else if c+1≥g then pure (.done (none,i-1,j,o.push x,c+1,0))else pure (.yield (none,i-1,j,o.push x,c+1,0))
  else
   let y<-elem' b (j-1)
   if(j-1==1)=true then pure (.done (some (b.extract 0 (j-1)++a.extract 0 i++(o.push y).reverse),i,j-1,o.push y,0,d+1))
   else if d+1≥g then pure (.done (none,i,j-1,o.push y,0,d+1))else pure (.yield (none,i,j-1,o.push y,0,d+1))
 |_=>pure (.done (some (a.extract 0 i++b.extract 0 j++o.reverse),i,j,o,c,d))
noncomputable def hiV(a b o:Array Keyed)(i j g c d:Nat):SM (ForInStep HiS):=do
 let y<-elem' a (i-1)
 if(i-1==0)=true then pure (.done (some (a.extract 0 (i-1)++b.extract 0 j++(o.push y).reverse),i-1,j,o.push y,g,c,d))
 else if(decide (c<7)&&decide (d<7))=true then pure (.done (none,i-1,j,o.push y,g,c,d))else pure (.yield (none,i-1,j,o.push y,g,c,d))
def hiU(a b o:Array Keyed)(i j g c d:Nat):SM (ForInStep HiS):=do
 let x<-elem' b (j-1)
 if(j-1==1)=true then pure (.done (some (b.extract 0 (j-1)++a.extract 0 i++(o.push x).reverse),i,j-1,o.push x,g,c,d))
 else
  let y<-elem' a (i-1)
  let r<-gallop' true y b 0 (j-1) (j-1-1)
  match r with
  |some p=>(if j-1-p>0 then(if(p==1)=true then pure (.done (some (b.extract 0 p++a.extract 0 i++(o.push x++(b.extract p (j-1)).reverse).reverse),i,p,o.push x++(b.extract p (j-1)).reverse,g,c,j-1-p))
     else if(p==0)=true then pure (.done (some (a.extract 0 i++b.extract 0 p++(o.push x++(b.extract p (j-1)).reverse).reverse),i,p,o.push x++(b.extract p (j-1)).reverse,g,c,j-1-p))
     else hiV a b (o.push x++(b.extract p (j-1)).reverse) i p g c (j-1-p))else hiV a b (o.push x) i (j-1) g c (j-1-p))
  |_=>pure (.done (some (a.extract 0 i++b.extract 0 (j-1)++(o.push x).reverse),i,j-1,o.push x,g,c,d))
def hiT(a b o:Array Keyed)(i j d c g:Nat):SM (ForInStep HiS):=do
 Yo g
 let x<-elem' b (j-1)
 let r<-gallop' false x a 0 i (i-1)
 match r with
 |some p=>(if i-p>0 then
    (if(p==0)=true then pure (.done (some (a.extract 0 p++b.extract 0 j++(o++(a.extract p i).reverse).reverse),p,j,o++(a.extract p i).reverse,g,i-p,c))
    else hiU a b (o++(a.extract p i).reverse) p j g (i-p) c)
   else hiU a b o i j g (i-p) c)
 |_=>pure (.done (some (a.extract 0 i++b.extract 0 j++o.reverse),i,j,o,g,d,c))
def hiF1(a b o:Array Keyed)(i j g:Nat):SM Wa4:=forIn [0:a.size+b.size] (none,i,j,o,0,0) λ_ c=>hi1 a b g c.2.2.2.1 c.2.1 c.2.2.1 c.2.2.2.2.1 c.2.2.2.2.2
def hiF2(a b o:Array Keyed)(i j g d e:Nat):SM HiS:=forIn [0:a.size+b.size] (none,i,j,o,g,d,e) λ_ c=>
 if c.2.2.2.2.1>1 then hiT a b c.2.2.2.1 c.2.1 c.2.2.1 c.2.2.2.2.2.1 c.2.2.2.2.2.2 (c.2.2.2.2.1-1)else hiT a b c.2.2.2.1 c.2.1 c.2.2.1 c.2.2.2.2.2.1 c.2.2.2.2.2.2 c.2.2.2.2.1
def hi0(a b o:Array Keyed)(i j g:Nat):SM (ForInStep Wa5):=do
 let c<-hiF1 a b o i j g
 match c.1 with
 |some r=>pure (.done (some r,c.2.1,c.2.2.1,c.2.2.2.1,g))
 |none=>do
  rule "list.sort.gallop"
  let d<-hiF2 a b c.2.2.2.1 c.2.1 c.2.2.1 (g+1) c.2.2.2.2.1 c.2.2.2.2.2
  match d.1 with
  |some r=>pure (.done (some r,d.2.1,d.2.2.1,d.2.2.2.1,d.2.2.2.2.1))
  |none=>do
   Yo (d.2.2.2.2.1+1)
   pure (.yield (none,d.2.1,d.2.2.1,d.2.2.2.1,d.2.2.2.2.1+1))
def Wc9(a b:Array Keyed):SM (Array Keyed):=do
 rule "list.sort.merge-hi"
 let x<-elem' a (a.size-1)
 if(a.size-1==0)=true then pure (a.extract 0 (a.size-1)++b.extract 0 b.size++ #[x].reverse)
 else if(b.size==1)=true then pure (b.extract 0 b.size++a.extract 0 (a.size-1)++ #[x].reverse)
 else do
  let st<-get
  let c<-forIn [0:a.size+b.size] ((none,a.size-1,b.size,#[x],Kq st):Wa5) λ_ c=>hi0 a b c.2.2.2.1 c.2.1 c.2.2.1 c.2.2.2.2
  match c.1 with
  |some r=>pure r
  |none=>unsupported "internal:list.sort.merge-bound"
theorem Jir(a b:Array Keyed):mergeHi' a b=Wc9 a b:=by kernel_rfl
section
variable {rk:Keyed->Int} {U:Keyed->Prop} {κ:Hg} {M:K5} {A:Bi} {E:Value->Shared->Prop} {s:Shared} {st st1:Cw} {a b o:Array Keyed} {i j p g ca cb v:Nat} {x y:Keyed}
def Wh(rk:Keyed->Int)(a b o:Array Keyed)(i j:Nat):Prop:=mg rk (a.toList.take i) (b.toList.take j)++o.toList.reverse=mg rk a.toList b.toList
theorem Wh.ap(h:Wh rk a b o i j)(hp:p<=i)(c:∀x∈(a.toList.take i).drop p,∀y∈b.toList.take j,rk y<rk x):Wh rk a b (o++(a.extract p i).reverse) p j:=by
 unfold Wh at h ⊢;rw[<-h,td a.toList hp,Jxs c];simp[Uj]
theorem Wh.bp(h:Wh rk a b o i j)(hp:p<=j)(c:∀y∈(b.toList.take j).drop p,∀x∈a.toList.take i,rk x<=rk y):Wh rk a b (o++(b.extract p j).reverse) i p:=by
 unfold Wh at h ⊢;rw[<-h,td b.toList hp,Jt5 c];simp[Uj]
theorem Wh.a1(h:Wh rk a b o (i+1) j)(c:a.toList.take (i+1)=a.toList.take i++[x])(d:∀y∈b.toList.take j,rk y<rk x):Wh rk a b (o.push x) i j:=by
 unfold Wh at h ⊢;rw[<-h,c,Jxs (by simpa using d)];simp
theorem Wh.b1(h:Wh rk a b o i (j+1))(c:b.toList.take (j+1)=b.toList.take j++[y])(d:∀x∈a.toList.take i,rk x<=rk y):Wh rk a b (o.push y) i j:=by
 unfold Wh at h ⊢;rw[<-h,c,Jt5 (by simpa using d)];simp
theorem Wh.fin(h:Wh rk a b o i j)(z:i=0\/j=0):(a.extract 0 i++b.extract 0 j++o.reverse).toList=mg rk a.toList b.toList:=by
 rw[<-h];rcases z with rfl|rfl<;>simp[mg]
theorem Wh.fib(m:Me M A s κ rk U a b)(h:Wh rk a b o i j)(c:j=1):(b.extract 0 j++a.extract 0 i++o.reverse).toList=mg rk a.toList b.toList:=by
 obtain⟨y,e,_,_,d⟩:=Jci m.nb;subst c;rw[<-h,d];have:=Zb (rk:=rk) (B:=[y]) (B':=[]) (A:=a.toList.take i) λt f x k=>by
  rw[Ar.mp f];exact m.low y e x (Eg k)
 simp only[List.take_zero,La,Dq]at this ⊢;rw[this];simp[mg,d]
theorem Jjq(h:SL rk a.toList)(e:a.toList.take (i+1)=a.toList.take i++[x]):∀y∈a.toList.take (i+1),rk y<=rk x:=by
 have c:SL rk (a.toList.take (i+1)):=El (Gu _ _) h;rw[e]at c ⊢;intro y hy;rcases Bm.mp hy with hy|hy
 .exact(Cd.mp c).2.2 y hy x (by simp)
 .rw[Ar.mp hy];exact N0 _
inductive Hi (rk:Keyed->Int) (a b o:Array Keyed) (i j v:Nat):Prop
 |mk (w:Wh rk a b o i j) (h0:0<i) (ha:i<=a.size) (h1:1<j) (hb:j<=b.size) (hv:i+j+v<=a.size+b.size):Hi rk a b o i j v
def Ph(rk:Keyed->Int)(a b:Array Keyed)(v:Nat)(r:Option (Array Keyed))(o:Array Keyed)(i j:Nat):Prop:=match r with
 |some r=>r.toList=mg rk a.toList b.toList
 |none=>Hi rk a b o i j v
def H1(rk:Keyed->Int)(a b:Array Keyed)(st:Cw)(v:Nat):ForInStep Wa4->Cw->Prop
 |.done c,d=>d=st/\Ph rk a b v c.1 c.2.2.2.1 c.2.1 c.2.2.1
 |.yield c,d=>d=st/\c.1=none/\Hi rk a b c.2.2.2.1 c.2.1 c.2.2.1 v
def H2(rk:Keyed->Int)(a b:Array Keyed)(st:Cw)(v:Nat):ForInStep HiS->Cw->Prop
 |.done c,d=>Sg st d/\Ph rk a b v c.1 c.2.2.2.1 c.2.1 c.2.2.1
 |.yield c,d=>Sg st d/\c.1=none/\Hi rk a b c.2.2.2.1 c.2.1 c.2.2.1 v
theorem Jvr(m:Me M A s κ rk U a b)(u:kindOf st=κ)(h:Hi rk a b o i j v):wpS M A E s (hi1 a b g o i j ca cb) (H1 rk a b st (v+1)) st:=by
 obtain⟨w,C,H,I,J,Q⟩:=h;obtain⟨i,rfl⟩:∃n,i=n+1:=⟨i-1,by lia⟩
 obtain⟨j,rfl⟩:∃n,j=n+1:=⟨j-1,by lia⟩
 obtain⟨y,f,L,_,k⟩:=Jci (a:=b) (i:=j) (by lia);obtain⟨x,r,N,_,t⟩:=Jci (a:=a) (i:=i) (by lia);refine Av (Jai f (Av (Jai r (Av (Jee m.ans u (m.ub y L) (m.ua x N) ?_)))));dsimp only
 by_cases c:rk y<rk x
 .rw[decide_eq_true c,if_pos rfl];refine Av (Jai r ?_);have d:=w.a1 t λz e=>Ge (Jjq m.sb k z e) c;split
  .exact A5 ⟨rfl,d.fin (.inl (eq_of_beq ‹_›))⟩
  .have l:Hi rk a b (o.push x) i (j+1) (v+1):=⟨d,by have:=Jav ‹_›;lia,by lia,I,J,by lia⟩
   split
   .exact A5 ⟨rfl,l⟩
   .exact A5 ⟨rfl,rfl,l⟩
 .rw[decide_eq_false c,if_neg Ba];refine Av (Jai f ?_);have d:=w.b1 k λz e=>Fo (Jjq m.sa t z e) (Int.not_lt.mp c);split
  .exact A5 ⟨rfl,d.fib m (eq_of_beq ‹_›)⟩
  .have l:Hi rk a b (o.push y) (i+1) j (v+1):=⟨d,C,H,by have:=Jav ‹_›;lia,by lia,by lia⟩
   split
   .exact A5 ⟨rfl,l⟩
   .exact A5 ⟨rfl,rfl,l⟩
theorem Jqf(m:Me M A s κ rk U a b)(w:Wh rk a b o i j)(k:0<i)(r:i<=a.size)(e:1<j)(f:j<=b.size)(t:i+j+v<=a.size+b.size)(le:∀x,a[i-1]? =some x->∀y∈b.toList.take j,rk y<rk x)(z:Sg st st1):wpS M A E s (hiV a b o i j g ca cb) (H2 rk a b st v) st1:=by
 obtain⟨i,rfl⟩:∃n,i=n+1:=⟨i-1,by lia⟩
 obtain⟨x,c,u,_,h⟩:=Jci (a:=a) (i:=i) (by lia);refine Av (Jai c ?_);have d:=w.a1 h (le x c);split
 .exact A5 ⟨z,d.fin (.inl (eq_of_beq ‹_›))⟩
 .have l:Hi rk a b (o.push x) i j v:=⟨d,by have:=Jav ‹_›;lia,by lia,e,f,by lia⟩
  split
  .exact A5 ⟨z,l⟩
  .exact A5 ⟨z,rfl,l⟩
theorem Jqg(m:Me M A s κ rk U a b)(I:kindOf st1=κ)(w:Wh rk a b o i j)(r:0<i)(u:i<=a.size)(h1:1<j)(hb:j<=b.size)(hv:i+j+v<=a.size+b.size)(le:∀y,b[j-1]? =some y->∀x∈a.toList.take i,rk x<=rk y)(z:Sg st st1):wpS M A E s (hiU a b o i j g ca cb) (H2 rk a b st v) st1:=by
 obtain⟨i,rfl⟩:∃n,i=n+1:=⟨i-1,by lia⟩
 obtain⟨j,rfl⟩:∃n,j=n+1:=⟨j-1,by lia⟩
 obtain⟨y,C,y2,_,J⟩:=Jci (a:=b) (i:=j) (by lia);obtain⟨x,H,N,_,Q⟩:=Jci (a:=a) (i:=i) (by lia);refine Av (Jai C ?_);have f:=w.b1 J (le y C);split
 .exact A5 ⟨z,f.fib m (eq_of_beq ‹_›)⟩
 have hj:=Jav ‹_›;refine Av (Jai H (Av (Jbb m.ans I (L:=b.toList.take j) rfl (by simp;lia) (El (Gu _ _) m.sb) (λy d=>m.ub y (Eg d)) (m.ua x N) (by lia) λc L2 e Y p2=>?_)));have h5:=congrArg Dv e;simp at h5;have e1:(b.toList.take j).drop c.length=L2:=by rw[e];simp
 have e2:b.toList.take c.length=c:=by rw[<-Oc (show c.length<=j by lia),<-Om,e];simp
 have h:∀t,a[i+1-1]? =some t->∀y∈b.toList.take c.length,rk y<rk t:=λt k y d=>by
  cases H.symm.trans k;rw[e2]at d
  simpa [bl]using Y y d
 dsimp only;split
 .have l:=f.bp (p:=c.length) (by lia) (by rw[e1];exact λy d t k=>Fo (Jjq m.sa Q t k) (by simpa [bl]using p2 y d));split
  .exact A5 ⟨z,l.fib m (eq_of_beq ‹_›)⟩
  .have h4:=Jav ‹_›;split
   .exact A5 ⟨z,l.fin (.inr (eq_of_beq ‹_›))⟩
   .have h6:=Jav ‹_›;exact Jqf m l r u (by lia) (by lia) (by lia) h z
 .have:c.length=j:=by lia
  rw[this]at h;exact Jqf m f r u (by lia) (by lia) (by lia) h z
theorem Jvq(m:Me M A s κ rk U a b)(f:kindOf st=κ)(h:Hi rk a b o i j v)(z:Sg st st1):wpS M A E s (hiT a b o i j ca cb g) (H2 rk a b st v) st1:=by
 obtain⟨g',rfl⟩:=z;obtain⟨w,I,J,r,u,N⟩:=h;obtain⟨j,rfl⟩:∃n,j=n+1:=⟨j-1,by lia⟩
 obtain⟨y,C,Q,_,Y⟩:=Jci (a:=b) (i:=j) (by lia);refine Av (Ic (Av (Jai C (Av (Jbb m.ans f (L:=a.toList.take i) rfl (by simp;lia) (El (Gu _ _) m.sa) (λy hy=>m.ua y (Eg hy)) (m.ub y Q) (by lia) λc L2 e p1 p2=>?_)))));have h5:=congrArg Dv e;simp at h5;have e1:(a.toList.take i).drop c.length=L2:=by rw[e];simp
 have e2:a.toList.take c.length=c:=by rw[<-Oc (show c.length<=i by lia),<-Om,e];simp
 have k:∀t,b[j+1-1]? =some t->∀x∈a.toList.take c.length,rk x<=rk t:=λt l x d=>by
  cases C.symm.trans l;rw[e2]at d
  simpa [bl]using p1 x d
 dsimp only;split
 .have H:=w.ap (p:=c.length) (by lia) (by rw[e1];exact λx d t l=>Ge (Jjq m.sb Y t l) (by simpa [bl]using p2 x d));split
  .exact A5 ⟨⟨_,rfl⟩,H.fin (.inl (eq_of_beq ‹_›))⟩
  .have h4:=Jav ‹_›;exact Jqg m f H (by lia) (by lia) r u (by lia) k ⟨_,rfl⟩
 .have:c.length=i:=by lia
  rw[this]at k;exact Jqg m f w I J r u N k ⟨_,rfl⟩
theorem Jry(m:Me M A s κ rk U a b)(n:kindOf st=κ)(h:Hi rk a b o i j v):wpS M A E s (hiF1 a b o i j g) (λc k=>k=st/\Ph rk a b (v+1) c.1 c.2.2.2.1 c.2.1 c.2.2.1) st:=by
 have H:=m.na;refine De (I:=λx c k=>k=st/\c.1=none/\Hi rk a b c.2.2.2.1 c.2.1 c.2.2.1 (v+x)) ?_ ?_ ⟨rfl,rfl,h⟩
 .rintro x c _ _ J ⟨rfl,_,l⟩;refine Cz (Jvr m n l) λr k q=>?_;cases r with
  |done c=>exact⟨q.1,by have:=q.2;unfold Ph at this ⊢;split<;>simp_all;obtain⟨a,b,c,d,e,f⟩:=this;exact⟨a,b,c,d,e,by lia⟩⟩
  |yield c=>exact q
 .rintro c _ ⟨rfl,e,⟨w,t,u,z,C,L⟩⟩;exact⟨rfl,by rw[e];exact⟨w,t,u,z,C,by lia⟩⟩
theorem Jrx(m:Me M A s κ rk U a b)(f:kindOf st=κ)(h:Hi rk a b o i j v)(z:Sg st st1):wpS M A E s (hiF2 a b o i j g ca cb) (λc d=>Sg st d/\Ph rk a b v c.1 c.2.2.2.1 c.2.1 c.2.2.1) st1:=by
 refine De (I:=λx c d=>Sg st d/\c.1=none/\Hi rk a b c.2.2.2.1 c.2.1 c.2.2.1 v) ?_ ?_ ⟨z,rfl,h⟩
 .rintro x c _ _ k ⟨z,_,l⟩;split<;>exact Cz (Jvq m f l z) λr d q=>by cases r<;>exact q
 .rintro c _ ⟨z,e,l⟩;exact⟨z,by rw[e];exact l⟩
def H0(rk:Keyed->Int)(a b:Array Keyed)(st:Cw)(v:Nat):ForInStep Wa5->Cw->Prop
 |.done c,d=>Sg st d/\∃r,c.1=some r/\r.toList=mg rk a.toList b.toList
 |.yield c,d=>Sg st d/\c.1=none/\Hi rk a b c.2.2.2.1 c.2.1 c.2.2.1 v
theorem Jvs(m:Me M A s κ rk U a b)(c:kindOf st=κ)(h:Hi rk a b o i j v)(z:Sg st st1):wpS M A E s (hi0 a b o i j g) (H0 rk a b st (v+1)) st1:=by
 obtain⟨d,rfl⟩:=z;refine Av (Cz (Jry m c h) ?_);rintro⟨r,i,j,o,ca,cb⟩ _ ⟨rfl,q⟩;cases r with
 |some r=>exact A5 ⟨⟨_,rfl⟩,r,rfl,q⟩
 |none=>
  refine Av (Mt (Dn ⟨rfl,Av (Cz (Jrx m c q ⟨_,rfl⟩) ?_)⟩));rintro⟨r,i,j,o,g,ca,cb⟩ _ ⟨⟨_,rfl⟩,q⟩;cases r with
  |some r=>exact A5 ⟨⟨_,rfl⟩,r,rfl,q⟩
  |none=>exact Av (Ic (A5 ⟨⟨_,rfl⟩,rfl,q⟩))
theorem Jj1{Q:Array Keyed->Cw->Prop}(m:Me M A s κ rk U a b)(k:kindOf st=κ)(f:∀r g,r.toList=mg rk a.toList b.toList->Q r (stG st g)):wpS M A E s (mergeHi' a b) Q st:=by
 rw[Jir];have H:=m.na;have J:=m.nb;obtain⟨x,h,L,_,n⟩:=Jci (a:=a) (i:=a.size-1) (by lia);refine Av (Mt (Dn ⟨rfl,Av (Jai h ?_)⟩));have t:Wh rk a b #[] (a.size-1+1) b.size:=by
  unfold Wh;rw[B9 (by simp;lia),B9 (by simp)];simp
 have w:Wh rk a b #[x] (a.size-1) b.size:=t.a1 n λy u=>m.top x h y (Eg u);split
 .exact A5 (f _ (Kq st) (w.fin (.inl (eq_of_beq ‹_›))))
 split
 .exact A5 (f _ (Kq st) (w.fib m (eq_of_beq ‹_›)))
 have C:=Jav ‹¬(a.size-1==0)=true›;have N:=Jav ‹¬(b.size==1)=true›;refine Av (K6 (Av (Cz (De (I:=λx c d=>Sg st d/\c.1=none/\Hi rk a b c.2.2.2.1 c.2.1 c.2.2.1 (x+1)) (Q:=λc d=>Sg st d/\∃r,c.1=some r/\r.toList=mg rk a.toList b.toList) ?_ ?_ ⟨⟨_,rfl⟩,rfl,w,by lia,by lia,by lia,by lia,by lia⟩) ?_)))
 .rintro x c _ _ Y ⟨z,_,l⟩;exact Cz (Jvs m k l z) λr d q=>by cases r<;>exact q
 .rintro c _ ⟨z,_,⟨w,h0,ha,C,hb,hv⟩⟩
  lia
 .rintro c _ ⟨⟨g,rfl⟩,r,e,q⟩;rw[e];exact A5 (f r g q)
end
noncomputable def asc(lo a z:Nat):SM (Option (Option Nat)×Nat):=forIn [a:z] (none,a) λ_ c=>do
 let r<-ltAt' (lo+c.2) (lo+c.2-1)
 match r with
 |some w=>if w=true then pure (.done (none,c.2))else pure (.yield (none,c.2+1))
 |_=>pure (.done (some none,c.2))
noncomputable def dsc(lo a z:Nat):SM (Option (Option Nat)×Nat×Nat):=forIn [a:z] (none,a,0) λ_ c=>do
 let r<-ltAt' (lo+c.2.1) (lo+c.2.1-1)
 match r with
 |some w=>
  if w=true then
   if c.2.2>0 then do
    K8 (lo+c.2.1-(c.2.2+1)) (lo+c.2.1)
    pure (.yield (none,c.2.1+1,0))
   else pure (.yield (none,c.2.1+1,0))
  else do
   let r<-ltAt' (lo+c.2.1-1) (lo+c.2.1)
   match r with
   |some w=>if w=true then pure (.done (none,c.2.1,c.2.2))else pure (.yield (none,c.2.1+1,c.2.2+1))
   |_=>pure (.done (some none,c.2.1,c.2.2))
 |_=>pure (.done (some none,c.2.1,c.2.2))
def crT(lo n z:Nat):SM (Option Nat):=do
 K8 lo (lo+n)
 let c<-asc lo n z
 match c.1 with
 |some r=>pure r
 |none=>pure (some c.2)
def crD(lo n z:Nat):SM (Option Nat):=do
 rule "list.sort.descending-run"
 let c<-dsc lo (n+1) z
 match c.1 with
 |some r=>pure r
 |none=>
  if c.2.2>0 then
   K8 (lo+c.2.1-(c.2.2+1)) (lo+c.2.1)
   crT lo c.2.1 z
  else crT lo c.2.1 z
def cr(lo z:Nat):SM (Option Nat):=do
 let c<-asc lo 1 z
 match c.1 with
 |some r=>pure r
 |none=>
  if(c.2==z)=true then pure (some c.2)
  else if c.2>1 then
   let r<-ltAt' lo (lo+c.2-1)
   match r with
   |some w=>
    if w=true then pure (some c.2)
    else
     K8 lo (lo+c.2)
     crD lo c.2 z
   |_=>pure none
  else crD lo c.2 z
theorem J0s(lo z:Nat):countRun' lo z=cr lo z:=by kernel_rfl
noncomputable def bsI(lo k:Nat):SM (Option Bool×Nat×Nat):=forIn [0:k] (none,0,k) λ_ c=>
 if c.2.1≥c.2.2 then pure (.done (none,c.2.1,c.2.2))else do
  let r<-ltAt' (lo+k) (lo+(c.2.1+c.2.2)/2)
  match r with
  |some w=>if w=true then pure (.yield (none,c.2.1,(c.2.1+c.2.2)/2))else pure (.yield (none,(c.2.1+c.2.2)/2+1,c.2.2))
  |_=>pure (.done (some false,c.2.1,c.2.2))
def bsK(lo k:Nat):SM (ForInStep (Option Bool×Unit)):=do
 let c<-bsI lo k
 match c.1 with
 |some r=>pure (.done (some r,()))
 |none=>do
  moveDown' (lo+k) (lo+c.2.1)
  pure (.yield (none,()))
def bs(lo n a:Nat):SM Bool:=do
 let c<-forIn [max a 1:n] ((none,()):Option Bool×Unit) λk _=>bsK lo k
 match c.1 with
 |some r=>pure r
 |none=>pure true
theorem J0t(lo n a:Nat):binarySort' lo n a=bs lo n a:=by kernel_rfl
section
variable {rk:Keyed->Int} {U:Keyed->Prop} {κ:Hg} {M:K5} {A:Bi} {E:Value->Shared->Prop} {s:Shared} {st:Cw} {L P X R:List Keyed} {x y z w:Keyed} {i j k n:Nat}
noncomputable abbrev sl(st:Cw)(L:List Keyed):Cw:=setArr st L.toArray
theorem Jkz{Q:Option Bool->Cw->Prop}(d:Ans M A s κ rk U)(e:kindOf st=κ)(a:∀x∈L,U x)(b:L[i]? =some x)(c:L[j]? =some y)(h:Q (some (decide (rk x<rk y))) (sl st L)):wpS M A E s (ltAt' i j) Q (sl st L):=by
 rw[ltAt'_eq];exact Av (K6 (Av (Jai (show L.toArray[i]? =some x by simpa using b) (Av (Jai (show L.toArray[j]? =some y by simpa using c) (Jee d e (a x (Au b)) (a y (Au c)) h))))))
theorem at1:(P++(X++[z])++R)[P.length+(X.length+1)-1]? =some z:=by
 rw[show P.length+(X.length+1)-1=P.length+X.length by lia];simp
theorem at2:(P++(X++[z])++w::R)[P.length+(X.length+1)]? =some w:=by
 have:(P++(X++[z])).length=P.length+(X.length+1):=by simp
 rw[<-this];simp
theorem Jwb(h:SL rk (X++[z]))(a:rk z<=rk w):SL rk (X++[z]++[w]):=Cd.mpr ⟨h,by simp,λx b y c=>by
 rw[Ar.mp c];rcases Bm.mp b with q|q
 .exact Fo ((Cd.mp h).2.2 x q z (by simp)) a
 .rw[Ar.mp q];exact a⟩
theorem ends(h:0<X.length):∃Y z,X=Y++[z]:=by
 rcases Qn X with rfl|⟨Y,z,e⟩
 .cases h
 .exact⟨Y,z,by simpa using e⟩
inductive Run (rk:Keyed->Int) (L P:List Keyed) (n:Nat):Prop
 |mk (X:List Keyed) (z:Keyed) (R:List Keyed) (e:L=P++(X++[z])++R) (hn:n=X.length+1) (hs:SL rk (X++[z])) (hw:∀w R',R=w::R'->rk w<rk z)
theorem Jqh(h:Ans M A s κ rk U)(l:kindOf st=κ)(m:∀x∈L,U x)(e:L=P++(X++[z])++R)(o:SL rk (X++[z])):
  wpS M A E s (asc P.length (X.length+1) (X.length+1+R.length)) (λc b=>b=sl st L/\c.1=none/\X.length+1<=c.2/\Run rk L P c.2) (sl st L):=by
 refine De (I:=λn c b=>b=sl st L/\c=(none,n)/\∃X z R,L=P++(X++[z])++R/\n=X.length+1/\SL rk (X++[z])) ?_ ?_ ⟨rfl,rfl,X,z,R,e,rfl,o⟩
 .rintro n _ _ p g ⟨rfl,rfl,Y,z,T,a,rfl,f⟩;have d:=congrArg Dv (e.symm.trans a);simp at d;cases T with
  |nil=>simp at d;lia
  |cons w T=>
   refine Av (Jkz h l m (x:=w) (y:=z) (by rw[a];exact at2) (by rw[a];exact at1) ?_)
   by_cases c:rk w<rk z
   .rw[decide_eq_true c];exact A5 ⟨rfl,rfl,p,Y,z,w::T,a,rfl,f,λ_ _ q=>by cases q;exact c⟩
   .rw[decide_eq_false c];exact A5 ⟨rfl,rfl,Y++[z],w,T,by rw[a];simp,by simp,Jwb f (by lia)⟩
 .rintro _ _ ⟨rfl,rfl,Y,z,T,a,g,f⟩;have d:=congrArg Dv (e.symm.trans a);simp at d;exact⟨rfl,rfl,by simp,Y,z,T,a,by simpa using g,f,λw r q=>by subst q;simp at d;lia⟩
theorem Juk(h:i<P.length):(P++X++R)[i]? =P[i]? :=by rw[Bc,A0 h]
theorem Jpn(h:P.length<=i)(a:i<P.length+X.length):(P++X++R)[i]? =X[i-P.length]? :=by rw[Bc,Aw h,A0 (by lia)]
theorem Jmp(h:P.length+X.length<=i):(P++X++R)[i]? =R[i-(P.length+X.length)]? :=by rw[Aw (by simpa using h),Ap]
theorem mir:mirror (P++X++R).toArray P.length (P.length+X.length) ((P.length+X.length-P.length)/2)=(P++X.reverse++R).toArray:=by
 refine Rb λi=>?_;rw[getElem?_mirror_all (by simp),C6,C6,C6]
 by_cases a:P.length<=i/\i<P.length+X.length
 .rw[if_pos a,Jpn (by omega) (by omega),Jpn a.1 (by simpa using a.2),List.getElem?_reverse (by omega)];congr 1;omega
 .rw[if_neg a]
  by_cases b:i<P.length
  .rw[Juk b,Juk b]
  .rw[Jmp (by omega),Jmp (by simp;omega),List.length_reverse]
abbrev Ne(rk:Keyed->Int)(L:List Keyed):Prop:=L.Pairwise λx y=>rk x≠rk y
theorem Js0(h:SL rk (z::Y))(a:rk w<=rk z):SL rk (w::z::Y):=Dr.mpr ⟨λx b=>by
 rcases Am.mp b with rfl|q
 .exact a
 .exact Fo a ((Dr.mp h).1 x q),h⟩
theorem Jvt(f:Ans M A s κ rk U)(g:kindOf st=κ)(h:∀x∈L,U x)(l:Ne rk L)(e:L=P++(X++[z])++R)(t:SL rk (X++[z]).reverse):
  wpS M A E s (dsc P.length (X.length+1) (X.length+1+R.length)) (λc b=>b=sl st L/\∃X z R,c=(none,X.length+1,0)/\L=P++(X++[z])++R/\SL rk (X++[z]).reverse) (sl st L):=by
 refine De (I:=λn c b=>b=sl st L/\c=(none,n,0)/\∃X z R,L=P++(X++[z])++R/\n=X.length+1/\SL rk (X++[z]).reverse) ?_ ?_ ⟨rfl,rfl,X,z,R,e,rfl,t⟩
 .rintro n _ _ C m ⟨rfl,rfl,Y,z,T,a,rfl,d⟩;have o:=congrArg Dv (e.symm.trans a);simp at o;cases T with
  |nil=>simp at o;lia
  |cons w T=>
   have p:L[P.length+(Y.length+1)-1]? =some z:=by rw[a];exact at1
   have r:L[P.length+(Y.length+1)]? =some w:=by rw[a];exact at2
   refine Av (Jkz f g h r p ?_)
   by_cases c:rk w<rk z
   .rw[decide_eq_true c];refine A5 ⟨rfl,rfl,Y++[z],w,T,by rw[a];simp,by simp,?_⟩;have u:(Y++[z]++[w]).reverse=w::z::Y.reverse:=by simp
    have v:(Y++[z]).reverse=z::Y.reverse:=by simp
    rw[v]at d;rw[u];exact Js0 d (by lia)
   .rw[decide_eq_false c];refine Av (Jkz f g h p r ?_);have:rk z≠rk w:=by
     rw[a]at l;exact(Cd.mp l).2.2 z (by simp) w (by simp)
    rw[decide_eq_true (show rk z<rk w by lia)];exact A5 ⟨rfl,Y,z,w::T,rfl,a,d⟩
 .rintro _ _ ⟨rfl,rfl,Y,z,T,a,m,d⟩;exact⟨rfl,Y,z,T,by rw[m],a,d⟩
theorem Jvu{Q:Option Nat->Cw->Prop}(m:Ans M A s κ rk U)(o:kindOf st=κ)(p:∀x∈P++(X++[z])++R,U x)(r:SL rk (X++[z]).reverse)
  (t:∀a b,a≠[]->SL rk a->(a++b).Perm (X++[z]++R)->Q (some a.length) (sl st (P++a++b))):wpS M A E s (crT P.length (X.length+1) (X.length+1+R.length)) Q (sl st (P++(X++[z])++R)):=by
 have f:=mir (P:=P) (X:=X++[z]) (R:=R);rw[Ap,C5]at f;obtain⟨Y,y,e⟩:=ends (X:=(X++[z]).reverse) (by simp);have g:=congrArg Dv e;simp at g;have h:(Y++[y]++R).Perm (X++[z]++R):=by rw[<-e];exact Ke _ (List.reverse_perm _)
 refine Av (show wpS M A E s (K8 _ _) _ _ by
  rw[reverseSlice'_eq];refine Ic ?_;show wpS M A E s _ _ (setArr st (mirror _ _ _ _));rw[f,e,g];refine Av (Cz (Jqh m o (L:=P++(Y++[y])++R) (λx l=>p x ?_) rfl (e▸r)) ?_)
  .rw[Bc]at l ⊢;exact(F5 P h).mem_iff.mp l
  rintro⟨c,n⟩ _ ⟨rfl,rfl,_,a,u,b,d,rfl,v,_⟩;rw[d];have q:=t (a++[u]) b (by simp) v (by
   rw[Bc P,Bc P]at d;rw[<-Kt d];exact h)
  rw[Ap,C5]at q;exact A5 q)
theorem Jzd{T:List Keyed}{Q:Option Nat->Cw->Prop}(m:Ans M A s κ rk U)(o:kindOf st=κ)(p:∀x∈P++T,U x)(t:Ne rk (P++T))(Y:0<T.length)
  (C:∀e g,e≠[]->SL rk e->(e++g).Perm T->Q (some e.length) (sl st (P++e++g))):wpS M A E s (countRun' P.length T.length) Q (sl st (P++T)):=by
 rw[J0s];cases T with
 |nil=>cases Y
 |cons x T=>
  have a:=Jqh (E:=E) (st:=st) m o p (P:=P) (X:=[]) (z:=x) (R:=T) (by simp) (by simp);rw[show([]:List Keyed).length+1+T.length=(x::T).length by simp;lia]at a;refine Av (Cz a ?_);rintro⟨c,n⟩ _ ⟨rfl,rfl,_,e,h,g,l,rfl,H,hw⟩;have u:x::T=e++[h]++g:=Kt (by rw[l,Bc]);have q:Q (some (e.length+1)) (sl st (P++x::T)):=by
   have:=C (e++[h]) g (by simp) H (by rw[u]);rw[Ap,C5]at this;rw[l];exact this
  dsimp only;split
  .exact A5 q
  have I:=Jav ‹_›;have r:=congrArg Dv u;simp at r I;split
  .cases e with
   |nil=>contradiction
   |cons y e=>
    refine Av (Jkz m o p (x:=y) (y:=h) (by rw[l];simp) (by rw[l];exact at1) ?_);have h3:rk y<=rk h:=(Dr.mp H).1 h (by simp);have J:rk y≠rk h:=by
     rw[u]at t;exact(Dr.mp (Cd.mp (Cd.mp t).2.1).1).1 h (by simp)
    rw[decide_eq_true (show rk y<rk h by lia)];exact A5 q
  .cases e with
   |cons y e=>simp at*
   |nil=>
    cases g with
    |nil=>simp at r;exact absurd r (by simpa using I∘Eq.symm)
    |cons w g=>
     have d:=Jvt (E:=E) (st:=st) m o p t (P:=P) (X:=[h]) (z:=w) (R:=g) (by rw[l];simp) (by simpa using Int.le_of_lt (hw w g rfl));rw[show[h].length+1+g.length=(x::T).length by simp at r ⊢;lia]at d;refine Av (Mt (Dn ⟨rfl,Av (Cz d ?_)⟩));rintro _ _ ⟨rfl,X,z,R,rfl,v,J⟩;have N:x::T=X++[z]++R:=Kt (by rw[v,Bc]);have f:=Jvu (E:=E) (Q:=Q) (st:=st) m o (P:=P) (X:=X) (z:=z) (R:=R) (by rw[<-v];exact p) J λe g a b c=>C e g a b (by rw[N];exact c);rw[<-v,show X.length+1+R.length=(x::T).length by rw[N];simp;lia]at f;exact f
theorem bub:bubble (P++(X++a)++y::R).toArray (P.length+(X++a).length) (P.length+(X++a).length-(P.length+X.length))=(P++(X++y::a)++R).toArray:=by
 refine Rb λi=>?_;rw[getElem?_bubble (by simp) _ (by omega),C6,C6,C6,C6];have b:P++(X++a)++y::R=(P++X)++a++y::R:=by simp
 have d:P++(X++y::a)++R=(P++X)++y::(a++R):=by simp
 have e:(P++X).length=P.length+X.length:=by simp
 rw[b,d,Ap,<-Ez,<-e];split
 .rename_i h;rw[Jmp (Ai _),Aw (by omega),show i-(P++X).length=0 by omega];simp
 .split
  .rw[Jpn (by omega) (by omega),Aw (by omega),show i-(P++X).length=i-1-(P++X).length+1 by omega,Bq,A0 (by omega)]
  .by_cases c:i<(P++X).length
   .rw[Juk c,A0 c]
   .obtain⟨k,rfl⟩:∃k,i=(P++X).length+a.length+(k+1):=⟨i-((P++X).length+a.length)-1,by omega⟩
    rw[Jmp (by omega),Aw (by omega),Ht,show(P++X).length+a.length+(k+1)-(P++X).length=a.length+k+1 by omega,Bq,Bq,Aw (by omega),Ht]
theorem Jvv(N:Ans M A s κ rk U)(Q:kindOf st=κ)(Y:∀x∈P++X++y::R,U x)(o:SL rk X):
  wpS M A E s (bsK P.length X.length) (λc e=>c=.yield (none,())/\∃m,m.Perm (y::X)/\SL rk m/\e=sl st (P++m++R)) (sl st (P++X++y::R)):=by
 obtain⟨d,f,rfl,p,t⟩:=Jjd rk false y o;refine Av (Cz (show wpS M A E s (bsI P.length (d++f).length) (λc e=>e=sl st (P++(d++f)++y::R)/\c.1=none/\c.2.1=d.length) _ from
  De (I:=λx c e=>e=sl st (P++(d++f)++y::R)/\∃l r,c=(none,l,r)/\l<=d.length/\d.length<=r/\r<=(d++f).length/\r-l+x<=(d++f).length) ?_ ?_ ⟨rfl,_,_,rfl,by lia,by simp,by lia,by lia⟩) ?_)
 .rintro x _ _ _ u ⟨rfl,l,r,rfl,v,C,H,h4⟩;dsimp only;split
  .exact A5 ⟨rfl,rfl,by show l=_;lia⟩
  have hm:(l+r)/2<(d++f).length:=by lia
  obtain⟨w,g⟩:∃w,(d++f)[(l+r)/2]? =some w:=⟨_,Af hm⟩
  refine Av (Jkz N Q Y (x:=y) (y:=w) (by rw[Jmp (by lia)];simp) (by rw[Jpn (by lia) (by lia),Ht];exact g) ?_)
  by_cases c:(l+r)/2<d.length
  .have:¬rk y<rk w:=by
    rw[A0 c]at g
    simpa [bl]using p w (Au g)
   rw[decide_eq_false this];exact A5 ⟨rfl,_,_,rfl,by lia,C,H,by lia⟩
  .have:rk y<rk w:=by
    rw[Aw (by lia)]at g
    simpa [bl]using t w (Au g)
   rw[decide_eq_true this];exact A5 ⟨rfl,_,_,rfl,v,by lia,by lia,by lia⟩
 .rintro _ _ ⟨rfl,l,r,rfl,v,C,H,h4⟩;exact⟨rfl,rfl,by show l=_;lia⟩
 .rintro⟨c,l,r⟩ _ ⟨rfl,rfl,rfl⟩;refine Av (show wpS M A E s (moveDown' _ _) _ _ by
   rw[moveDown'_eq];refine Ic ?_;show wpS M A E s _ _ (setArr st (bubble _ _ _));rw[bub];refine A5 ⟨rfl,d++y::f,Nj,?_,rfl⟩;have h:=Cd.mp o;refine Cd.mpr ⟨h.1,Dr.mpr ⟨λx u=>by have:=t x u;simp[bl]at this;lia,h.2.1⟩,λa J b hb=>?_⟩;rcases Am.mp hb with rfl|hb
   .have:=p a J;simp[bl]at this;lia
   .exact h.2.2 a J b hb)
theorem Jze{T:List Keyed}{Q:Bool->Cw->Prop}(r:Ans M A s κ rk U)(t:kindOf st=κ)(u:∀x∈P++X++T++R,U x)(v:SL rk X)(C:X≠[])
  (H:∀b,b.Perm (X++T)->SL rk b->Q true (sl st (P++b++R))):wpS M A E s (binarySort' P.length (X.length+T.length) X.length) Q (sl st (P++X++T++R)):=by
 rw[J0t];have l:max X.length 1=X.length:=by have:=C1.mpr C;lia
 refine Av (Cz (De (I:=λk c g=>c=(none,())/\∃b d,b.length=k/\(b++d).Perm (X++T)/\SL rk b/\g=sl st (P++b++d++R)) (Q:=λc g=>c=(none,())/\∃b,b.Perm (X++T)/\SL rk b/\g=sl st (P++b++R)) ?_ ?_ ⟨rfl,X,T,l.symm,.refl _,v,rfl⟩) ?_)
 .rintro k _ _ N Y ⟨rfl,b,d,rfl,f,h,rfl⟩;have m:=f.length_eq;simp at m;cases d with
  |nil=>simp at m;lia
  |cons y d=>
   rw[Bc (P++b)];refine Cz (Jvv r t (y:=y) (R:=d++R) (λx l=>u x ?_) h) ?_
   .have:=(F5 P (Ke R f)).mem_iff (a:=x);simp only[Bc,Ks]at this l ⊢;exact this.mp l
   .rintro _ _ ⟨rfl,o,p,J,rfl⟩;refine⟨rfl,o,d,?_,?_,J,by simp⟩
    .rw[p.length_eq];rfl
    .exact(p.append_right _).trans ((Nj (l₁:=b) (l₂:=d)).symm.trans f)
 .rintro _ _ ⟨rfl,b,d,e,f,h,rfl⟩;have m:=f.length_eq;simp at m;have:d=[]:=B7.mp (by lia);subst this;rw[Dq]at f;exact⟨rfl,b,f,h,by simp⟩
 .rintro _ _ ⟨rfl,b,f,h,rfl⟩;exact A5 (H b f h)
end
noncomputable def maR(u:Nat)(r:Array Keyed):SM Bool:=do
 modify λs=>setArr s (r.toList.zipIdx.foldl (λa (p,j)=>a.setIfInBounds (u+j) p) (arrOf s))
 return (failedOf (<-get)).isNone
def maB(a:Array Keyed)(u m v n:Nat):SM Bool:=do
 let r<-if m<=n then mergeLo' (a.extract u v) (a.extract v (v+n))else mergeHi' (a.extract u v) (a.extract v (v+n))
 maR u r
def maA(a:Array Keyed)(u m v n:Nat):SM Bool:=do
 let r<-gallop' true (<-elem' a (u+m-1)) a v n (n-1)
 match r with
 |some n=>if(n==0)=true then pure true else maB a u m v n
 |_=>pure false
def Wda(i:Nat):SM Bool:=do
 let t<-get
 match(pendingOf t)[i]?,(pendingOf t)[i+1]? with
 |some (u,m,p),some (v,n,_)=>do
  set (setPending t (((pendingOf t).setIfInBounds i (u,m+n,p)).eraseIdxIfInBounds (i+1)))
  let r<-gallop' false (<-elem' (arrOf t) v) (arrOf t) u m 0
  match r with
  |some k=>if(m-k==0)=true then pure true else maA (arrOf t) (u+k) (m-k) v n
  |_=>pure false
 |_,_=>unsupported "internal:list.sort.pending"
theorem Jis(i:Nat):mergeAt' i=Wda i:=by kernel_rfl
section
variable {rk:Keyed->Int} {U:Keyed->Prop} {κ:Hg} {M:K5} {A:Bi} {E:Value->Shared->Prop} {s:Shared} {st:Cw} {P X Y R L:List Keyed} {i p p':Nat}
theorem Jrz{Q:PUnit->Cw->Prop}(h:Q ⟨⟩ t):wpS M A E s (set t:SM PUnit) Q st:=by
 unfold wpS;rw[StateT.run_set];exact Ab ⟨rfl,h⟩
theorem wr:∀(m:List Keyed) (P X R:List Keyed) (u k:Nat),u+k=P.length->m.length=X.length->((m.zipIdx k).foldl (λa (q:Keyed×Nat)=>a.setIfInBounds (u+q.2) q.1) (P++X++R).toArray)=(P++m++R).toArray
 |[],P,X,R,u,k,h,e=>by rw[B7.mp e.symm];rfl
 |x::m,P,[],R,u,k,h,e=>by cases e
 |x::m,P,y::X,R,u,k,h,e=>by
  have:=wr m (P++[x]) X R u (k+1) (by simp;lia) (by simpa using e);rw[Ni,List.foldl_cons];have b:(P++y::X++R).toArray.setIfInBounds (u+k) x=(P++[x]++X++R).toArray:=by rw[h];simp
  rw[b,this];simp
theorem Jp7(h:SL rk (X++[z])):∀x∈X++[z],rk x<=rk z:=λx a=>by
 rcases Bm.mp a with q|q
 .exact(Cd.mp h).2.2 x q z (by simp)
 .rw[Ar.mp q];exact N0 _
theorem Jp8(h:SL rk (y::Y)):∀x∈y::Y,rk y<=rk x:=λx a=>by
 rcases Am.mp a with rfl|q
 .exact N0 _
 .exact(Dr.mp h).1 x q
theorem Jq3(h:∀x∈X,∀y∈Y,rk x<=rk y):mg rk X Y=X++Y:=by
 have:=Zc (A':=[]) h;rw[Dq]at this;rw[this];simp[mg]
theorem Jj2{Q:Bool->Cw->Prop}(J:Ans M A s κ rk U)(hk:kindOf st=κ)(hf:failedOf st=none)(g1:(pendingOf st)[i]? =some (P.length,X.length,p))(g2:(pendingOf st)[i+1]? =some (P.length+X.length,Y.length,p'))
  (ha:arrOf st=(P++X++Y++R).toArray)(hX:X≠[])(hY:Y≠[])(hU:∀x∈X++Y,U x)(o:SL rk X)(u:SL rk Y)
  (N:∀g,Q true (F1 κ (P++mg rk X Y++R).toArray (((pendingOf st).setIfInBounds i (P.length,X.length+Y.length,p)).eraseIdxIfInBounds (i+1)) g none)):wpS M A E s (mergeAt' i) Q st:=by
 rw[Jis];refine Av (K6 ?_);rw[g1,g2,ha];dsimp only;refine Av (Jrz ?_);generalize((pendingOf st).setIfInBounds i (P.length,X.length+Y.length,p)).eraseIdxIfInBounds (i+1)=v at N ⊢;have s2:setPending st v=F1 κ (P++X++Y++R).toArray v (Kq st) none:=by
  show F1 (kindOf st) (arrOf st) _ (Kq st) (failedOf st)=_;rw[hk,hf,ha]
 rw[s2];have C:X++Y=mg rk X Y->∀g,Q true (F1 κ (P++X++Y++R).toArray v g none):=λe g=>by
  have:=N g;rw[<-e,<-Bc]at this;exact this
 obtain⟨X0,z,H⟩:=ends (C1.mpr hX);obtain⟨y,Y0,I⟩:=Jq hY;have aX:∀x∈X,rk x<=rk z:=by rw[H]at o ⊢;exact Jp7 o
 have aY:∀x∈Y,rk y<=rk x:=by rw[I]at u ⊢;exact Jp8 u
 have uX:∀x∈X,U x:=λx c=>hU x (by simp[c]);have uY:∀x∈Y,U x:=λx c=>hU x (by simp[c]);have y1:(P++X++Y++R).toArray[P.length+X.length]? =some y:=by rw[I];simp
 have z1:(P++X++Y++R).toArray[P.length+X.length-1]? =some z:=by
  rw[C6,Bc (P++X),H,Ap];exact at1
 refine Av (Jai y1 (Av (Jbb J rfl (L:=X) (by simp) rfl o uX (uY y (by simp[I])) (C1.mpr hX) λd L2 e p1 p2=>?_)));have q1:∀x∈d,∀t∈Y,rk x<=rk t:=λx c t f=>Fo (by simpa [bl]using p1 x c) (aY t f);have hl:X.length-d.length=L2.length:=by rw[e];simp
 dsimp only;rw[hl];split
 .have:L2=[]:=B7.mp (eq_of_beq ‹_›);refine A5 (C (Jq3 (by rw[e,this,Dq];exact q1)).symm _)
 have n2:=Jav ‹_›;rw[show P.length+X.length=P.length+d.length+L2.length by rw[e];simp;lia]at y1 z1 ⊢;refine Av (Jai z1 (Av (Jbb J rfl (L:=Y) (by rw[Ez,<-Ap,<-e];simp) rfl u uY (uX z (by simp[H])) (by have:=C1.mpr hY;lia) λh K2 j r1 r2=>?_)));dsimp only;split
 .have:h=[]:=B7.mp (eq_of_beq ‹_›);refine A5 (C (Jq3 λx c t f=>Fo (aX x c) ?_).symm _);rw[j,this,La]at f
  simpa [bl]using r2 t f
 have n1:=Jav ‹_›;have k:((P++X++Y++R).toArray.extract (P.length+d.length) (P.length+d.length+L2.length)).toList=L2:=by rw[Jpq,e];simp
 have n:((P++X++Y++R).toArray.extract (P.length+d.length+L2.length) (P.length+d.length+L2.length+h.length)).toList=h:=by rw[Jpq,Ez,<-Ap,<-e,j];simp
 unfold maB;generalize(P++X++Y++R).toArray.extract (P.length+d.length) (P.length+d.length+L2.length)=a at k ⊢;generalize(P++X++Y++R).toArray.extract (P.length+d.length+L2.length) (P.length+d.length+L2.length+h.length)=b at n ⊢;have za:a.size=L2.length:=by rw[<-k];simp
 have zb:b.size=h.length:=by rw[<-n];simp
 have m:Me M A s κ rk U a b:=by
  refine⟨J,?_,?_,?_,?_,?_,?_,by lia,by lia⟩
  .rw[k];rw[e]at o;exact(Cd.mp o).2.1
  .rw[n];rw[j]at u;exact(Cd.mp u).1
  .rw[k];exact λx c=>uX x (by simp[e,c])
  .rw[n];exact λx c=>uY x (by simp[j,c])
  .rw[k,<-Bn,n];intro t f x c;have:t=y:=by
    obtain⟨k0,K0,rfl⟩:=Jq (l:=h) (λz=>n1 (by rw[z];rfl));rw[I]at j;cases f;exact(Nq j).1.symm
   rw[this]
   simpa [bl]using p2 x c
  .rw[n,<-Bn,k,za];intro t f x c;have:t=z:=by
    obtain⟨K0,k0,rfl⟩:=ends (X:=L2) (by lia);rw[H,<-Bc]at e;simp at f;rw[<-f]
    simpa using((List.append_inj' e rfl).2).symm
   rw[this]
   simpa [bl]using r1 x c
 have fin:∀(r:Array Keyed) (g:Nat),r.toList=mg rk a.toList b.toList->wpS M A E s (maR (P.length+d.length) r) Q (stG (F1 κ (P++X++Y++R).toArray v (Kq st) none) g):=λr g er=>by
  refine Av (Ic (Av (K6 (A5 ?_))));have e1:P++X++Y++R=(P++d)++(L2++h)++(K2++R):=by rw[e,j];simp
  have e2:mg rk X Y=d++(mg rk L2 h++K2):=by
   rw[e,Zc q1,j,Jt5 λt f x c=>Fo (aX x (by simp[e,c])) (by simpa [bl]using r2 t f)]
  have w:=wr r.toList (P++d) (L2++h) (K2++R) (P.length+d.length) 0 (by simp) (by rw[er,k,n];simpa using(P8 (xs:=L2) (ys:=h) _).length_eq);have:=N g;rw[e2]at this;show Q true (F1 κ (r.toList.zipIdx.foldl _ (P++X++Y++R).toArray) v g none);rw[e1,w,er,k,n]
  simpa using this
 split
 .exact Av (Jj0 m rfl fin)
 .exact Av (Jj1 m rfl fin)
end
noncomputable def srM(z c:Nat):SM (Option Unit×Unit):=forIn [0:z] (none,()) λ_ _=>do
 let t<-get
 match(if(pendingOf t).size>1 then(pendingOf t)[(pendingOf t).size-2]? else none)with
 |some (_,_,a)=>
  if a<=c then pure (.done (none,()))
  else
   let b<-mergeAt' ((pendingOf t).size-2)
   if(!b)=true then pure (.done (some (),()))else pure (.yield (none,()))
 |_=>pure (.done (none,()))
noncomputable def srP(lo n:Nat):SM (ForInStep (Option Unit×Nat)):=do
 modify λs=>setPending s ((pendingOf s).push (lo,n,0))
 pure (.yield (none,lo+n))
def srR(z lo n:Nat):SM (ForInStep (Option Unit×Nat)):=do
 let t<-get
 match(pendingOf t).back? with
 |some (b,a,_)=>do
  let c<-srM z (power' z (2*b+a) (2*b+a+a+n) z)
  match c.1 with
  |some r=>pure (.done (some r,lo))
  |none=>do
   modify λs=>setPending s ((pendingOf s).modify ((pendingOf s).size-1) λx=>(x.1,x.2.1,power' z (2*b+a) (2*b+a+a+n) z))
   srP lo n
 |_=>srP lo n
def srA(z a lo:Nat):SM (ForInStep (Option Unit×Nat)):=
 if lo≥z then pure (.done (none,lo))else do
  let r<-countRun' lo (z-lo)
  match r with
  |some n=>
   if n<a then
    rule "list.sort.binary-insertion"
    let b<-binarySort' lo (min (z-lo) a) n
    if(!b)=true then pure (.done (some (),lo))else srR z lo (min (z-lo) a)
   else srR z lo n
  |_=>pure (.done (some (),lo))
noncomputable def srE(_:Nat):SM (ForInStep (Option Unit×Unit)):=do
 let t<-get
 if(pendingOf t).size<=1 then pure (.done (none,()))
 else
  let b<-mergeAt' (if(if(pendingOf t).size-2>0 then(pendingOf t)[(pendingOf t).size-2-1]?.map (·.2.1)else none).any (·<((pendingOf t)[(pendingOf t).size-2+1]?.elim 0 (·.2.1)))then(pendingOf t).size-2-1 else(pendingOf t).size-2)
  if(!b)=true then pure (.done (some (),()))else pure (.yield (none,()))
def sr:SM Unit:=do
 let t<-get
 let c<-forIn [0:(arrOf t).size] ((none,0):Option Unit×Nat) λ_ c=>srA (arrOf t).size (minRun' (arrOf t).size (arrOf t).size 0) c.2
 match c.1 with
 |some r=>pure r
 |none=>do
  let d<-forIn [0:(arrOf t).size] ((none,()):Option Unit×Unit) λx _=>srE x
  match d.1 with
  |some r=>pure r
  |none=>pure ()
theorem Jzp:sortRuns'=sr:=by kernel_rfl
section
variable {rk:Keyed->Int} {U:Keyed->Prop} {κ:Hg} {M:K5} {A:Bi} {E:Value->Shared->Prop} {s:Shared} {st:Cw} {L0 T X R:List Keyed} {xs:List (List Keyed)} {l l' l2:List (Nat×Nat×Nat)} {a i n lo:Nat}
def Rn(rk:Keyed->Int):List (Nat×Nat×Nat)->List (List Keyed)->Nat->Prop
 |[],xs,_=>xs=[]
 |q::r,xs,a=>∃X ys,xs=X::ys/\q.1=a/\q.2.1=X.length/\X≠[]/\SL rk X/\Rn rk r ys (a+X.length)
theorem Rn.app(h:Rn rk (l++l2) xs a):∃ys zs,xs=ys++zs/\Rn rk l ys a/\Rn rk l2 zs (a+ys.flatten.length):=by
 induction l generalizing xs a with
 |nil=>exact⟨[],xs,rfl,rfl,h⟩
 |cons q l c=>
  obtain⟨X,ys,rfl,d,e,f,g,j⟩:=h;obtain⟨b,zs,rfl,k,m⟩:=c j;exact⟨X::b,zs,rfl,⟨X,b,rfl,d,e,f,g,k⟩,by rw[Ka,Ap,<-Ez];exact m⟩
theorem Rn.join{ys:List (List Keyed)}(h:Rn rk l ys a)(b:Rn rk l2 zs (a+ys.flatten.length)):Rn rk (l++l2) (ys++zs) a:=by
 induction l generalizing ys a with
 |nil=>cases h;exact b
 |cons q l c=>
  obtain⟨X,d,rfl,e,f,g,j,k⟩:=h;exact⟨X,d++zs,rfl,e,f,g,j,c k (by rw[Ka,Ap,<-Ez]at b;exact b)⟩
theorem Rn.pow(h:Rn rk l xs a)(e:l'.map (λq=>(q.1,q.2.1))=l.map λq=>(q.1,q.2.1)):Rn rk l' xs a:=by
 induction l generalizing l' xs a with
 |nil=>rw[List.map_eq_nil_iff.mp e];exact h
 |cons q l b=>
  cases l' with
  |nil=>cases e
  |cons t l'=>
   obtain⟨X,c,rfl,d,f,g,j,k⟩:=h;obtain⟨m,o⟩:=Nq e;obtain⟨p,r⟩:=Prod.mk.inj m;exact⟨X,c,rfl,p.trans d,r.trans f,g,j,b k o⟩
theorem Rn.len(h:Rn rk l xs a):l.length<=xs.flatten.length:=by
 induction l generalizing xs a with
 |nil=>simp
 |cons q l b=>
  obtain⟨X,e,rfl,_,_,c,_,d⟩:=h;have:=b d;have:=C1.mpr c;rw[Ka,Ap,Bb];lia
inductive In (rk:Keyed->Int) (κ:Hg) (L0:List Keyed) (T:List Keyed) (st:Cw):Prop
 |mk (xs:List (List Keyed)) (ha:arrOf st=(xs.flatten++T).toArray) (hr:Rn rk (pendingOf st).toList xs 0) (hk:kindOf st=κ) (hf:failedOf st=none) (hp:(xs.flatten++T).Perm L0)
theorem wp_at(hA:Ans M A s κ rk U)(hU:∀x∈L0,U x)(h:In rk κ L0 T st)(hi:i+1<(pendingOf st).size):wpS M A E s (mergeAt' i) (λb e=>b=true/\In rk κ L0 T e/\(pendingOf e).size+1=(pendingOf st).size) st:=by
 obtain⟨xs,o,r,hk,hf,hp⟩:=h;obtain⟨j,x,y,l2,d,c⟩:∃j x y l2,j.length=i/\(pendingOf st).toList=j++x::y::l2:=by
  have h1:i<(pendingOf st).toList.length:=by simp;lia
  have h2:i+1<(pendingOf st).toList.length:=by simpa using hi
  refine⟨(pendingOf st).toList.take i,(pendingOf st).toList[i],(pendingOf st).toList[i+1],(pendingOf st).toList.drop (i+2),by simp;lia,?_⟩;rw[<-Bw h2,<-Bw h1,Gk]
 rw[c]at r;obtain⟨f,zs,rfl,r1,X,zs,rfl,t,w,C,H,Y,zs,rfl,I,J,y3,L,N⟩:=r.app;obtain⟨u,m,p⟩:=x;obtain⟨v,n,p'⟩:=y;simp only[Ew]at t w I J N;subst t w I J;have e1:(f++X::Y::zs).flatten++T=f.flatten++X++Y++(zs.flatten++T):=by simp
 have Q:((((pendingOf st).setIfInBounds i (f.flatten.length,X.length+Y.length,p)).eraseIdxIfInBounds (i+1))).toList=j++(f.flatten.length,X.length+Y.length,p)::l2:=by
  rw[Array.toList_eraseIdxIfInBounds,Array.toList_setIfInBounds,c,<-d];simp[List.eraseIdx_append_of_length_le]
 have pm:(mg rk X Y).Perm (X++Y):=P8 ..;have k:(mg rk X Y).length=X.length+Y.length:=by rw[pm.length_eq,Ap]
 rw[e1]at o hp;refine Jj2 hA hk hf (by rw[<-Bn,c,<-d];simp;rfl) (by rw[<-Bn,c,<-d];simp;rfl) o C y3 (λx hx=>hU x (hp.mem_iff.mp (by simp at hx ⊢;rcases hx with q|q<;>simp[q]))) H L λg=>⟨rfl,⟨f++mg rk X Y::zs,?_,?_,rfl,rfl,?_⟩,?_⟩
 .show(_:List Keyed).toArray=_;simp
 .show Rn rk (((pendingOf st).setIfInBounds i _).eraseIdxIfInBounds (i+1)).toList _ 0;rw[Q];exact r1.join ⟨_,zs,rfl,by simp,k.symm,λz=>C (B7.mp (by rw[z]at k;simp at k;lia)),Jz9 H L,by rw[k,Ew,<-Ez];exact N⟩
 .refine List.Perm.trans ?_ hp;simp only[List.flatten_append,Ka,Bc];rw[<-Bc X];exact F5 _ (Ke _ pm)
 .show(((pendingOf st).setIfInBounds i _).eraseIdxIfInBounds (i+1)).size+1=_;rw[<-Bs,Q,<-Bs (xs:=pendingOf st),c];simp;lia
theorem Jqc(h:In rk κ L0 (X++R) st)(c:X≠[])(d:SL rk X)(k:lo+(X++R).length=L0.length):wpS M A E s (srP lo X.length) (λr b=>r=.yield (none,lo+X.length)/\In rk κ L0 R b) st:=by
 obtain⟨xs,e,f,g,j,hp⟩:=h;have:=hp.length_eq;rw[Ap]at this;refine Av (Ic (A5 ⟨rfl,xs++[X],by rw[show arrOf (setPending st _)=arrOf st from rfl,e];simp,?_,g,j,by simpa using hp⟩));show Rn rk ((pendingOf st).push (lo,X.length,0)).toList _ 0;rw[Hw];exact f.join ⟨X,[],rfl,by show lo=_;lia,rfl,c,d,rfl⟩
theorem Jvl(j:Ans M A s κ rk U)(k:∀x∈L0,U x)(h:In rk κ L0 (X++R) st)(e:X≠[])(f:SL rk X)(g:lo+(X++R).length=L0.length):wpS M A E s (srR z lo X.length) (λr b=>r=.yield (none,lo+X.length)/\In rk κ L0 R b) st:=by
 refine Av (K6 ?_);split
 .refine Av (Cz (show wpS M A E s (srM z _) (λc b=>c=(none,())/\In rk κ L0 (X++R) b) st from De (I:=λ_ c b=>c=(none,())/\In rk κ L0 (X++R) b) ?_ (λ_ _ h=>h) ⟨rfl,h⟩) ?_)
  .rintro _ _ b _ _ ⟨rfl,d⟩;refine Av (K6 ?_);split
   .split
    .exact A5 ⟨rfl,d⟩
    .refine Av (Cz (wp_at j k d ?_) ?_)
     .rename_i q _;have:(pendingOf b).size>1:=by
       by_cases c:(pendingOf b).size>1
       .exact c
       .rw[if_neg c]at q;cases q
      lia
     .rintro _ _ ⟨rfl,m,_⟩;exact A5 ⟨rfl,m⟩
   .exact A5 ⟨rfl,d⟩
  .rintro _ b ⟨rfl,xs,o,p,t,u,hp⟩;refine Av (Ic (Jqc ⟨xs,o,p.pow ?_,t,u,hp⟩ e f g));show(Array.modify _ _ _).toList.map _=_;rw[Array.toList_modify];refine Kb λi=>?_;rw[Ao,Ao,List.getElem?_modify];split<;>simp[Ny,Bt]
 .exact Jqc h e f g
theorem Jvm(m:Ans M A s κ rk U)(o:∀x∈L0,U x)(H:Ne rk L0)(h:In rk κ L0 T st)(I:lo+T.length=L0.length):
  wpS M A E s (srA L0.length p lo) (λr c=>∃d,In rk κ L0 d c/\((r=.done (none,L0.length)/\d=[])\/∃b,r=.yield (none,b)/\lo<b/\b+d.length=L0.length)) st:=by
 unfold srA;split
 .have:T=[]:=B7.mp (by lia);subst this;exact A5 ⟨[],h,.inl ⟨by rw[show lo=L0.length by simp at I;lia],rfl⟩⟩
 obtain⟨xs,J,L,t,N,hp⟩:=h;have u:=hp.length_eq;rw[Ap]at u;have v:lo=xs.flatten.length:=by lia
 have Q:L0.length-lo=T.length:=by lia
 rw[Q];have Y:st=sl st (xs.flatten++T):=by
  show st=F1 (kindOf st) _ _ _ _;rw[<-J]
 have go:∀(X R:List Keyed),X≠[]->SL rk X->(X++R).Perm T->wpS M A E s (srR L0.length lo X.length) (λr c=>∃d,In rk κ L0 d c/\((r=.done (none,L0.length)/\d=[])\/∃b,r=.yield (none,b)/\lo<b/\b+d.length=L0.length)) (sl st (xs.flatten++X++R)):=λX R f j e=>by
  have:=e.length_eq;refine Cz (Jvl (R:=R) m o ⟨xs,by rw[<-Bc],L,t,N,(F5 _ e).trans hp⟩ f j (by lia)) ?_;rintro _ _ ⟨rfl,h⟩;have:=C1.mpr f;rw[Ap]at*;exact⟨R,h,.inr ⟨_,rfl,by lia,by lia⟩⟩
 rw[Y,v]at*;refine Av (Jzd m t (λx w=>o x (hp.mem_iff.mp w)) ((hp.pairwise_iff (λh=>h.symm)).mpr H) (by lia) λX R f j e=>?_);have y:=e.length_eq;have h1:=C1.mpr f;rw[Ap]at y;dsimp only;split
 .obtain⟨T1,k,rfl,hT⟩:∃T1 k,R=T1++k/\X.length+T1.length=min T.length p:=⟨R.take (min T.length p-X.length),R.drop (min T.length p-X.length),(Gk _ _).symm,by rw[Fv];lia⟩
  rw[<-hT,<-Bc];refine Av (Mt (Dn ⟨rfl,Av (Jze m t (λx w=>o x (hp.mem_iff.mp ?_)) j f λX' C s2=>?_)⟩))
  .exact(F5 _ e).mem_iff.mp (by simpa using w)
  .have:=C.length_eq;rw[Ap]at this;have g:=go X' k (λz=>by rw[z]at this;simp at this;lia) s2 ((C.append_right k).trans (by rw[Bc];exact e));rw[this]at g;exact g
 .exact go X R f j e
theorem Jrt{Q:Unit->Cw->Prop}(v:Ans M A s κ rk U)(w:∀x∈L0,U x)(y:Ne rk L0)(f:arrOf st=L0.toArray)(k:kindOf st=κ)(j:failedOf st=none)(z:pendingOf st= #[])
  (C:∀b L,arrOf b=L.toArray->failedOf b=none->L.Perm L0->SL rk L->Q () b):wpS M A E s sortRuns' Q st:=by
 rw[Jzp];refine Av (K6 ?_);rw[f,Aq];refine Av (Cz (De (I:=λx c b=>∃T lo,In rk κ L0 T b/\c=(none,lo)/\lo+T.length=L0.length/\x<=lo) (Q:=λc b=>c=(none,L0.length)/\In rk κ L0 [] b) ?_ ?_ ⟨L0,0,⟨[],by simpa using f,by rw[z];rfl,k,j,.refl _⟩,rfl,by lia,by lia⟩) ?_)
 .rintro x _ b _ H ⟨T,lo,h,rfl,m,o⟩;refine Cz (Jvm v w y h m) ?_;rintro _ _ ⟨J,d,⟨rfl,rfl⟩|⟨p,rfl,h1,g⟩⟩
  .exact⟨rfl,d⟩
  .exact⟨J,p,d,rfl,g,by lia⟩
 .rintro _ b ⟨T,lo,h,rfl,m,o⟩;have:T=[]:=B7.mp (by lia);subst this;exact⟨by rw[show lo=L0.length by simp at m;lia],h⟩
 rintro _ N ⟨rfl,h⟩;refine Av (Cz (De (I:=λx c b=>c=(none,())/\In rk κ L0 [] b/\((pendingOf b).size+x<=L0.length\/(pendingOf b).size<=1)) (Q:=λc b=>c=(none,())/\In rk κ L0 [] b/\(pendingOf b).size<=1) ?_ ?_ ⟨rfl,h,.inl ?_⟩) ?_)
 .rintro x _ b _ H ⟨rfl,d,r⟩;refine Av (K6 ?_);split
  .exact A5 ⟨rfl,d,‹_›⟩
  .refine Av (Cz (wp_at v w d (by split<;>lia)) ?_);rintro _ _ ⟨rfl,g,t⟩;exact A5 ⟨rfl,g,by lia⟩
 .rintro _ b ⟨rfl,d,r⟩;exact⟨rfl,d,by lia⟩
 .obtain⟨xs,f,e,k,j,hp⟩:=h;have:=e.len;have g:=hp.length_eq;simp at this g
  lia
 .rintro _ b ⟨rfl,⟨xs,f,e,k,j,hp⟩,r⟩;refine A5 (C b _ f j hp ?_);have t:(pendingOf b).toList.length<=1:=by simpa using r
  rcases u:(pendingOf b).toList with _|⟨q,_|⟨q2,l⟩⟩
  .rw[u]at e;cases e;simp
  .rw[u]at e;obtain⟨X,ys,rfl,_,_,_,Y,rfl⟩:=e
   simpa using Y
  .rw[u]at t;simp at t
end
end Srt
namespace Sbl
open PySem
def Ris(P:List Nat):Prop:=P.Pairwise (·<·)
def Jg8{xs:Array Nat}(h:Ris xs.toList)(a:i<k)(b:k<xs.size):xs[i]<xs[k]:=by
 have:=Dj.mp h i k (by simp;omega) (by simpa using b) a
 simpa using this
theorem Jgo{xs:Array Nat}(h:Ris xs.toList):∀(f lo k:Nat),k-lo<=f->lo<=k->k<=xs.size->(∀i (l:i<xs.size),i<lo->xs[i]<j)->(∀i (l:i<xs.size),k<=i->j<=xs[i])->
  (∀i (l:i<xs.size),i<Io xs j f lo k->xs[i]<j)/\(∀i (l:i<xs.size),Io xs j f lo k<=i->j<=xs[i])/\Io xs j f lo k<=xs.size
 |0,lo,k,a,b,c,d,e=>by
  have:lo=k:=by omega
  subst this;exact⟨d,e,c⟩
 |f+1,lo,k,a,b,c,d,e=>by
  unfold Io
  by_cases g:lo<k
  .rw[if_pos g];have m:(lo+k)/2<xs.size:=by omega
   have n:xs.getD ((lo+k)/2) j=xs[(lo+k)/2]:=by simp[Array.getD,m]
   dsimp only;rw[n]
   by_cases g2:xs[(lo+k)/2]<j
   .rw[if_pos g2];refine Jgo h f ((lo+k)/2+1) k (by omega) (by omega) c (λi o p=>?_) e;rcases Jn i ((lo+k)/2)with q|q
    .exact Fm (Jg8 h q m) g2
    .have:i=(lo+k)/2:=by omega
     subst this;exact g2
   .rw[if_neg g2];refine Jgo h f lo ((lo+k)/2) (by omega) (by omega) (by omega) d (λi l p=>?_);rcases Jn ((lo+k)/2) i with q|q
    .exact Bu (Sf.mp g2) (Ex (Jg8 h q l))
    .have:i=(lo+k)/2:=by omega
     subst this;exact Sf.mp g2
  .rw[if_neg g];have:lo=k:=by omega
   subst this;exact⟨d,e,c⟩
def Jfu{xs:Array Nat}(j:Nat)(h:Ris xs.toList):
  (∀i (a:i<xs.size),i<C7 xs j->xs[i]<j)/\(∀i (b:i<xs.size),C7 xs j<=i->j<=xs[i])/\C7 xs j<=xs.size:=
 Jgo h _ _ _ (by lia) (Dg _) (Ai _) (λi _ a=>absurd a (Nat.not_lt_zero _)) (λi b a=>by lia)
theorem slot_of{t:SetTable}(h:Ris t.place.toList)(n:t.dummies= #[])(j:Nat):
  (j∉t.place.toList/\t.slot j=.empty)\/∃i,∃k:i<t.place.size,t.place[i]=j/\t.slot j=.live i:=by
 obtain⟨a,b,c⟩:=Jfu j h;unfold SetTable.slot;dsimp only
 by_cases f:t.place[C7 t.place j]? =some j
 .have g:(t.place[C7 t.place j]? ==some j)=true:=by rw[f];exact beq_self_eq_true _
  rw[if_pos g];obtain⟨l,m⟩:=Array.getElem?_eq_some_iff.mp f;exact .inr ⟨_,l,m,rfl⟩
 .refine .inl ⟨λo=>f ?_,?_⟩
  .obtain⟨i,k,e⟩:=Dt.mp o;have d:i<t.place.size:=by simpa using k
   have p:t.place[i]=j:=by simpa using e
   have l:C7 t.place j<=i:=by
    rcases Jn i (C7 t.place j)with q|q
    .have:=a i d q;lia
    .exact q
   have m:i<=C7 t.place j:=by
    rcases Jn (C7 t.place j) i with q|q
    .have r:=b (C7 t.place j) (by lia) (Ai _);have s:=Jg8 h q d
     lia
    .exact q
   have:C7 t.place j=i:=by lia
   rw[this,Bo d,p]
  .have g:¬(t.place[C7 t.place j]? ==some j)=true:=λq=>f (eq_of_beq q);rw[if_neg g,n];have:Kh #[] j=false:=by unfold Kh;simp
   rw[this];rfl
noncomputable def lcg(m i:Nat):Nat->Nat
 |0=>i
 |k+1=>lcg m ((i*5+1)%(m+1)) k
def Wdb:∀i,i<8->∀j,j<8->∃k,k<8/\lcg 7 i k=j:=by decide+kernel
def Hit(t:SetTable)(occ:Nat->Prop):Nat->Ec->Nat->Prop
 |0,p,j=>p.j=j
 |n+1,p,j=>occ p.j/\Hit t occ n (t.advance p) j
theorem Hit.mono{t t':SetTable}(d:t'.mask=t.mask){occ c:Nat->Prop}(h:∀j,occ j->c j):∀{n:Nat} {p:Ec} {j:Nat},Hit t occ n p j->Hit t' c n p j
 |0,p,j,q=>q
 |n+1,p,j,⟨a,b⟩=>⟨h _ a,by
   have e:t'.advance p=t.advance p:=by unfold Hx;rw[d]
   rw[e];exact Hit.mono d h b⟩
noncomputable def Lp(m i pt:Nat):Ec:={j:=i,more:=Bv m i-i,i,perturb:=pt,dummy:=none}
noncomputable def Rn(m i pt k:Nat):Ec:={j:=i+k,more:=Bv m i-i-k,i,perturb:=pt,dummy:=none}
def Jrr{t:SetTable}(h:k<Bv t.mask i-i):t.advance (Rn t.mask i pt k)=Rn t.mask i pt (k+1):=by
 unfold Hx Rn;rw[if_pos (by show Bv t.mask i-i-k>0;lia)];simp only[Tg,and_true,true_and]
 lia
theorem Jvc{t:SetTable}(h:Bv t.mask i-i<=k):t.advance (Rn t.mask i pt k)=Lp t.mask ((i*5+1+pt/32)%(t.mask+1)) (pt/32):=by
 unfold Hx Rn;rw[if_neg (by show¬Bv t.mask i-i-k>0;omega)];rfl
def Jqq(m i:Nat):Bv m i-i<=9:=by unfold Bv;split<;>lia
theorem Jmk{t:SetTable}{occ:Nat->Prop}:∀(d k:Nat),k+d=Bv t.mask i-i->(∀x,k<=x->x<=Bv t.mask i-i->occ (i+x))->
  Hit t occ n (Lp t.mask ((i*5+1+pt/32)%(t.mask+1)) (pt/32)) j->Hit t occ (n+d+1) (Rn t.mask i pt k) j
 |0,k,e,c,h=>⟨c k (Ai _) (by lia),by rw[Jvc (by lia)];exact h⟩
 |d+1,k,e,c,h=>⟨c k (Ai _) (by lia),by
   rw[Jrr (by lia)];exact Jmk d (k+1) (by lia) (λx a b=>c x (by lia) b) h⟩
theorem Jrd{t:SetTable}{occ:Nat->Prop}:∀(d k:Nat),k+d<=Bv t.mask i-i->(∀x,k<=x->x<k+d->occ (i+x))->Hit t occ d (Rn t.mask i pt k) (i+(k+d))
 |0,k,_,_=>rfl
 |d+1,k,e,c=>⟨c k (Ai _) (by lia),by
   rw[Jrr (by lia),show k+(d+1)=k+1+d by lia];exact Jrd d (k+1) (by lia) λx a b=>c x (by lia) (by lia)⟩
theorem least{P:Nat->Prop}:∀x,P x->∃y,y<=x/\P y/\∀z,z<y->¬P z:=λx=>by
 induction x using Ud with
 |ind x f=>
  intro h
  by_cases q:∃z,z<x/\P z
  .obtain⟨z,d,e⟩:=q;obtain⟨y,a,b,c⟩:=f z d e;exact⟨y,by lia,b,c⟩
  .exact⟨x,Ai _,h,λz d e=>q ⟨z,d,e⟩⟩
def Jrc{t:SetTable}{occ:Nat->Prop}(l:¬occ j)(h:Hit t occ n (Lp t.mask ((i*5+1+pt/32)%(t.mask+1)) (pt/32)) j):∃n' g,n'<=n+10/\¬occ g/\Hit t occ n' (Lp t.mask i pt) g:=by
 by_cases k:∃x,x<=Bv t.mask i-i/\¬occ (i+x)
 .obtain⟨x,e,f,d⟩:∃x,x<=Bv t.mask i-i/\¬occ (i+x)/\∀y,y<x->occ (i+y):=by
   obtain⟨x,m,o⟩:=k;obtain⟨y,a,b,c⟩:=least (P:=λx=>¬occ (i+x)) x o;exact⟨y,Bu a m,b,λz p=>Lx.mp (c z p)⟩
  have:=Jqq t.mask i;have q:=Jrd (t:=t) (occ:=occ) (i:=i) (pt:=pt) x 0 (by lia) λy _ s=>d y (by lia);rw[Ew]at q;exact⟨x,i+x,by lia,f,q⟩
 .have r:∀x,x<=Bv t.mask i-i->occ (i+x):=λx e=>Lx.mp λq=>k ⟨x,e,q⟩;have:=Jqq t.mask i;exact⟨_,j,by lia,l,Jmk (Bv t.mask i-i) 0 (by lia) (λx _ e=>r x e) h⟩
theorem Wbz{t:SetTable}{occ:Nat->Prop}(g:¬occ j):∀(k i:Nat),lcg t.mask i k=j->∃n d,n<=10*k/\¬occ d/\Hit t occ n (Lp t.mask i 0) d
 |0,i,e=>⟨0,j,by lia,g,e⟩
 |k+1,i,e=>by
  obtain⟨n,d,a,b,c⟩:=Wbz g k ((i*5+1)%(t.mask+1)) e;obtain⟨h,f,o,l,m⟩:=Jrc (i:=i) (pt:=0) b c;exact⟨h,f,by lia,l,m⟩
theorem Wby{t:SetTable}{occ:Nat->Prop}(f:∀i,i<=t.mask->∃n d,n<=B/\¬occ d/\Hit t occ n (Lp t.mask i 0) d):∀(k pt i:Nat),i<=t.mask->pt<32^k->∃n d,n<=B+10*k/\¬occ d/\Hit t occ n (Lp t.mask i pt) d
 |0,pt,i,g,hp=>by
  have:pt=0:=by lia
  subst this;exact f i g
 |k+1,pt,i,g,hp=>by
  obtain⟨n,d,a,b,c⟩:=Wby f k (pt/32) ((i*5+1+pt/32)%(t.mask+1)) (Kk (O4 _ (Na _))) (by rw[Nat.pow_succ]at hp;lia);obtain⟨h,e,m,j,l⟩:=Jrc (i:=i) (pt:=pt) b c;exact⟨h,e,by lia,j,l⟩
def Jph{t:SetTable}{occ:Nat->Prop}(g:t.mask=7)(l:j<=t.mask)(f:¬occ j)(h:Int):∃n d,n<10*Dz t.mask/\¬occ d/\Hit t occ n (t.probeStart h) d:=by
 have m:F2 h<32^13:=by
  unfold F2;have o:h%(2^64:Int)<2^64:=Sh _ (by decide);have p:0<=h%(2^64:Int):=Ul _ (by decide);have r:((h%(2^64:Int)).toNat:Int)<2^64:=by rw[Mf p];exact o
  have s:(h%(2^64:Int)).toNat<2^64:=by exact_mod_cast r
  exact Bl s (by decide)
 have u:∀i,i<=t.mask->∃n d,n<=10*t.mask/\¬occ d/\Hit t occ n (Lp t.mask i 0) d:=λi v=>by
  have:∃k,k<t.mask+1/\lcg t.mask i k=j:=by
   rw[g]at v l ⊢;exact Wdb i (by lia) j (by lia)
  obtain⟨k,w,e⟩:=this;obtain⟨n,d,a,b,c⟩:=Wbz (t:=t) f k i e;exact⟨n,d,by lia,b,c⟩
 obtain⟨n,d,a,b,c⟩:=Wby u 13 (F2 h) (F2 h%(t.mask+1)) (Kk (O4 _ (Na _))) m;exact⟨n,d,by unfold Dz;lia,b,c⟩
theorem Hit.dummy{t:SetTable}{occ:Nat->Prop}(p:Ec):(t.advance p).dummy=p.dummy:=by unfold Hx;split<;>rfl
theorem Jjw{t:SetTable}(w:Ris t.place.toList)(x:t.dummies= #[]){hashAt:Nat->Int}:∀(n f:Nat) (p:Ec) (j:Nat),n<f->p.dummy=none->Hit t (·∈t.place.toList) n p j->
  (∃m g,m<=n/\Hit t (·∈t.place.toList) (n-m) g j/\g.dummy=none/\((m=n/\g.j=j/\j∉t.place.toList/\K4 t hashAt h f p=some (.empty j none))\/
   ∃i,∃s:i<t.place.size,t.place[i]=g.j/\t.slot g.j=.live i/\hashAt i=h/\K4 t hashAt h f p=some (.candidate g.j i (t.advance g))))\/
  (j∈t.place.toList/\∃i,∃s:i<t.place.size,t.place[i]=j/\hashAt i≠h)
 |n,0,p,j,y,_,_=>by lia
 |n,f+1,p,j,y,k,o=>by
  rw[K4];rcases slot_of w x p.j with⟨r,u⟩|⟨i,s,l,u⟩
  .cases n with
   |zero=>
    have e:p.j=j:=o;refine .inl ⟨0,p,Ai _,o,k,.inl ⟨rfl,e,e▸r,?_⟩⟩;rw[u,k,e]
   |succ n=>exact absurd o.1 r
  .rw[u];dsimp only
   by_cases v:hashAt i=h
   .refine .inl ⟨0,p,Dg _,by simpa using o,k,.inr ⟨i,s,l,u,v,?_⟩⟩;rw[if_pos (by rw[v];exact beq_self_eq_true h)]
   .rw[if_neg (λq=>v (eq_of_beq q))];cases n with
    |zero=>
     have e:p.j=j:=o;exact .inr ⟨by rw[<-e,<-l];simp,i,s,by rw[l,e],v⟩
    |succ n=>
     rcases Jjw w x n f (t.advance p) j (by lia) (by rw[Hit.dummy (occ:=λ_=>True)];exact k) o.2 with⟨m,g,a,b,c,d⟩|d
     .refine .inl ⟨m+1,g,by lia,by rw[show n+1-(m+1)=n-m by lia];exact b,c,?_⟩;rcases d with⟨E,z,A,C⟩|d
      .exact .inl ⟨by lia,z,A,C⟩
      .exact .inr d
     .exact .inr d
section
variable {prog:Program} {w:World} {A:Bi} {E:Value->Shared->Prop} {s:Shared}
abbrev IK(prog:Program)(w:World)(h:Heap)(k:List Int)(b:Addr):Prop:=U3 (intKind prog w) h k b
noncomputable abbrev kh(prog:Program)(w:World)(k:List Int):Int:=tupleKeyHash (intKind prog w) k
theorem items_int(h:ItemsAre (intKind prog w) k vs):∀v∈vs,∃i t,v=.int i t:=by
 induction h with
 |nil=>intro v hv;cases hv
 |cons a _ b=>
  intro v hv;rcases Am.mp hv with rfl|hv
  .exact⟨_,Jx a⟩
  .exact b v hv
def Jed{Q:Bool->Shared->Prop}(e:IK prog w s.heap k b)(h:Q false s):wpAny (model prog w) A (N3 8 (.ref b)) Q E s:=by
 have f:=e.typeIs;obtain⟨o,c,n,g,_,j,l⟩:=e;have m:=items_int l;unfold N3;refine Aa (Gn (T:="tuple") f ?_);dsimp only;simp only[beq_self_eq_true,if_true];refine Aa (Ab ?_);simp only[Dm,Az,if_false];refine Aa ?_;unfold Rf;refine Aa (Nm g ?_);rw[j];refine Ab ?_;dsimp only;refine Aa ?_;rw[<-F6];refine D3 _ (λrest r d=>r=(none,())/\d=s/\∀v∈rest,∃i t,v=Eb i t) _ ?_ ?_ _ _ ⟨rfl,rfl,m⟩
 .rintro v rest r d ⟨rfl,rfl,a⟩;obtain⟨i,t,rfl⟩:=a v Br;refine Aa ?_;unfold N3;refine Ab ?_;simp only[Az,if_false];exact Ab ⟨rfl,rfl,λu p=>a u (A7 _ p)⟩
 .rintro r d ⟨rfl,rfl,_⟩;exact Ab h
def Jfa{Q:Bool->Shared->Prop}(e:IK prog w s.heap k b)(h:Q true s):wpAny (model prog w) A (Tc 8 (.ref b)) Q E s:=by
 have f:=e.typeIs;obtain⟨o,c,n,g,_,j,l⟩:=e;have m:=items_int l;unfold Tc;refine Aa (Gw f Ii.lookup ?_);dsimp only;refine Aa ?_;unfold Rf;refine Aa (Nm g ?_);rw[j];refine Ab ?_;refine Aa ?_;show wpAny _ _ (forIn c _ _) _ _ s;rw[<-F6];refine D3 _ (λrest r d=>r=(none,())/\d=s/\∀v∈rest,∃i t,v=Eb i t) _ ?_ ?_ _ _ ⟨rfl,rfl,m⟩
 .rintro v rest r d ⟨rfl,rfl,a⟩;obtain⟨i,t,rfl⟩:=a v Br;refine Aa ?_;unfold Tc;refine Ab ?_;simp only[Dm,Az,if_false];exact Ab ⟨rfl,rfl,λu p=>a u (A7 _ p)⟩
 .rintro r d ⟨rfl,rfl,_⟩;exact Ab h
def Jru{Q:Bool->Shared->Prop}(i:IK prog w s.heap k b)(h:Q false s):∀l:List Value,(∀v∈l,∃e a,v=.ref a/\IK prog w s.heap e a)->wpAny (model prog w) A (Vj (.ref b) l) Q E s:=by
 intro l j;unfold Vj;refine Aa ?_;refine D3 _ (λrest r g=>r=(none,())/\g=s/\∀v∈rest,∃e a,v=As a/\IK prog w s.heap e a) _ ?_ ?_ _ _ ⟨rfl,rfl,j⟩
 .rintro v rest r g ⟨rfl,rfl,d⟩;obtain⟨e,a,rfl,f⟩:=d v Br;have nx:∀v∈rest,∃e a,v=As a/\IK prog w g.heap e a:=λv m=>d v (A7 _ m);dsimp only
  by_cases c:(b==a||(Qi (.ref b)&&Qi (.ref a)))=true
  .rw[if_pos c];exact Ab ⟨rfl,rfl,nx⟩
  .rw[if_neg c];refine Aa (Sl i ?_);simp only[Dm,Az,if_false];refine Aa (Sl f ?_);simp only[Dm,Az,if_false];refine Aa (Jed i ?_);simp only[Az,if_false];refine Aa (Jed f ?_);simp only[Az,if_false];exact Ab ⟨rfl,rfl,nx⟩
 .rintro r g ⟨rfl,rfl,_⟩;exact Ab h
structure Tb(prog:Program)(w:World)(t:SetTable)(kb:List (List Int×Addr)):Prop where
 ris:Ris t.place.toList
 dum:t.dummies= #[]
 msk:t.mask=7
 len:t.place.size=kb.length
 inb:∀j∈t.place.toList,j<=t.mask
 room:kb.length*5<t.mask*3
 nd:(kb.map (·.1)).Nodup
 way:∀q∈t.place.toList.zip kb,∃n,n<10*Dz t.mask/\Hit t (·∈t.place.toList) n (t.probeStart (kh prog w q.2.1)) q.1
def entS(prog:Program)(w:World)(x:List Int×Addr):Int×Value:=(kh prog w x.1,.ref x.2)
def Tb.fits{t:SetTable}{kb:List (List Int×Addr)}(T:Tb prog w t kb){es:Array (Int×Value)}(a:es.toList=kb.map (entS prog w)):t.fits es.size=true:=by
 have b:es.size=kb.length:=by rw[<-Bs,a,Ah]
 unfold R5 Nr;rw[T.dum,b,T.len];have:=T.room;simp only[beq_self_eq_true,Mg,decide_eq_true_eq];show kb.length+0<=t.mask
 lia
def Jg9{t:SetTable}(a:Ris t.place.toList)(b:i<t.place.size)(c:k<t.place.size)(e:t.place[i]=t.place[k]):i=k:=by
 rcases Ie i k with h|h|h
 .have:=Jg8 a h c;omega
 .exact h
 .have:=Jg8 a h b;omega
def Jeg{t:SetTable}(x:Ris t.place.toList)(y:t.dummies= #[]){F:Nat->Int}{p:Ec}(e:t.probe F h p=r)(z:n<10*Dz t.mask)(o:p.dummy=none)
  (C:Hit t (·∈t.place.toList) n p j)(H:∀i (g:i<t.place.size),t.place[i]=j->F i=h):
  (j∉t.place.toList/\r=some (.empty j none))\/
   ∃m f i,m<=n/\Hit t (·∈t.place.toList) (n-m) f j/\f.dummy=none/\∃g:i<t.place.size,t.place[i]=f.j/\t.slot f.j=.live i/\F i=h/\r=some (.candidate f.j i (t.advance f)):=by
 subst e;unfold SetTable.probe;rcases Jjw x y (hashAt:=F) (h:=h) n (10*Dz t.mask) p j z o C with⟨m,f,a,b,c,d⟩|⟨u,i,g,l,k⟩
 .rcases d with⟨u,l,k,v⟩|⟨i,g,u,l,k,v⟩
  .exact .inl ⟨k,v⟩
  .exact .inr ⟨m,f,i,a,b,c,g,u,l,k,v⟩
 .exact absurd (H i g l) k
def Jkb{t:SetTable}(c:Ris t.place.toList)(d:t.dummies= #[]){F:Nat->Int}{p:Ec}(e:∀a,t.probe F h p=some a->False)(f:n<10*Dz t.mask)(b:p.dummy=none)
  (g:Hit t (·∈t.place.toList) n p j)(k:∀i (l:i<t.place.size),t.place[i]=j->F i=h):False:=by
 rcases Jeg c d (F:=F) rfl f b g k with⟨_,q⟩|⟨_,_,_,_,_,_,_,_,_,_,q⟩
 .exact e _ q
 .exact e _ q
theorem Jc3{o:Obj}{es:Array (Int×Value)}{t:SetTable}{h:List (List Int×Addr)}{Q:SetFound->Shared->Prop}(hu:A.units<Dc)(T:Tb prog w t h)
  (ho:s.heap.get? a=some o)(hd:o.data=.set es ep t)(he:es.toList=h.map (entS prog w))(hkb:∀x∈h,IK prog w s.heap x.1 x.2)(hk:IK prog w s.heap k b)
  (d:(j∉t.place.toList/\k∉h.map (·.1)/\Q (.free j false) s)\/(∃i,∃hi:i<t.place.size,t.place[i]=j/\(h[i]?).map (·.1)=some k)/\Q (.there none) s):
  ∀(n f:Nat) (c:Option Ec),n<f->n<10*Dz t.mask->(c.getD (t.probeStart (kh prog w k))).dummy=none->Hit t (·∈t.place.toList) n (c.getD (t.probeStart (kh prog w k))) j->
   wpAny (model prog w) A (Q2 a (.ref b) (kh prog w k) true f c) Q E s:=by
 have C:=T.fits he;have H:∀i,es[i]? =(h[i]?).map (entS prog w):=λi=>by rw[<-Bn,he,Ao]
 intro n
 induction n using Ud with
 |ind n ih=>
  intro f c hf hn N hh;obtain⟨f,rfl⟩:∃f',f=f'+1:=⟨f-1,by lia⟩
  show wpAny _ _ (setState a>>=_) _ _ _;refine Aa (Kz ho hd C ?_);dsimp only;have hgw:¬t.gaveWay=true:=by
   unfold SetTable.gaveWay;rw[T.msk];decide
  rw[if_neg hgw];obtain⟨p,hp⟩:∃p,c.getD (t.probeStart (kh prog w k))=p:=⟨_,rfl⟩
  rw[hp]at N hh ⊢;have okF:∀F:Nat->Int,(∀i,F i=((es[i]?).map (·.1)).getD 0)->∀i (hi:i<t.place.size),t.place[i]=j->F i=kh prog w k:=λF hF i hi e=>by
   rcases d with⟨hj,_⟩|⟨⟨l,u,e',ek⟩,_⟩
   .exact absurd (by rw[<-e];simp) hj
   .have:i=l:=Jg9 T.ris hi u (by rw[e,e']);subst this;obtain⟨x,I,rfl⟩:=Al.mp ek;rw[hF,H,I];rfl
  split
  case _ met U=>
   rcases Jeg T.ris T.dum U hn N hh (okF _ λ_=>rfl)with⟨hj,e⟩|⟨m,p',i,hm,z,hdm',hi,hpi,hsl,hFi,e⟩
   .cases e;dsimp only;rcases d with⟨_,_,q⟩|⟨⟨l,u,e',_⟩,_⟩
    .exact Ab q
    .exact absurd (by rw[<-e'];simp) hj
   .cases e;dsimp only;have hikb:i<h.length:=by rw[<-T.len];exact hi
    obtain⟨⟨k',b'⟩,I⟩:∃x,h[i]? =some x:=⟨h[i],Af hikb⟩
    have hk':=hkb _ (Au I);have hes:es[i]? =some (kh prog w k',.ref b'):=by rw[H,I];rfl
    have seen:∀v∈((es.filter (·.1==kh prog w k)).toList.map (·.2)),∃k'' b'',v=As b''/\IK prog w s.heap k'' b'':=λv hv=>by
     obtain⟨e,h1,rfl⟩:=Bd.mp hv;have h2:e∈es.toList:=by
      have:e∈(es.filter (·.1==kh prog w k)):=Cu.mp h1;exact Cu.mpr (Array.mem_filter.mp this).1
     rw[he]at h2;obtain⟨x,I,rfl⟩:=Bd.mp h2;exact⟨x.1,x.2,rfl,hkb x I⟩
    have J:wpAny (model prog w) A (do
      let some (_,y):=es[i]? |unsupported "internal:set-entry"
      let g<-holding [y] (eqBool y (.ref b))
      let(es',_,t')<-setState a
      if true&&g then return .there none
      let some same:=t'.sameMemory t.moves t.mask|unsupported "set.changed-during-lookup:is-the-new-block-at-the-old-address"
      let Y<-match(if same then t'.slot p'.j else .empty)with
       |.live l=>match es'[l]? with
        |some (_,y')=>do pure (if<-isSame y' y then some l else none)
        |none=>pure none
       |_=>pure none
      match Y with
      |none=>rule "set.search.anew";Q2 a (.ref b) (kh prog w k) true f none
      |some l=>if g then return .there (some l)else Q2 a (.ref b) (kh prog w k) true f (some (t.advance p'))) Q E s:=by
     rw[hes];dsimp only;refine Aa (Bj (Ur hu hk' hk ?_));refine Aa (Kz ho hd C ?_);dsimp only
     by_cases hkk:k'=k
     .subst hkk;rw[decide_eq_true rfl];simp only[Pn,if_true];rcases d with⟨_,hno,_⟩|⟨_,q⟩
      .exact absurd (Bd.mpr ⟨_,Au I,rfl⟩) hno
      .exact Ab q
     .rw[decide_eq_false hkk];simp only[Lq,Az,if_false];have hsm:t.sameMemory t.moves t.mask=some true:=by unfold SetTable.sameMemory;simp
      rw[hsm];dsimp only;simp only[if_true];rw[hsl];dsimp only;rw[hes];dsimp only;refine Aa (wpAny_isSame_ref_self ?_);simp only[if_true];refine Aa (Ab ?_);dsimp only;cases hnm:n-m with
      |zero=>
       rw[hnm]at z;have ej:p'.j=j:=z;rcases d with⟨hj,_⟩|⟨⟨l,u,e',ek⟩,_⟩
       .exact absurd (by rw[<-ej,<-hpi];simp) hj
       .have:i=l:=Jg9 T.ris hi u (by rw[hpi,ej,e']);subst this;rw[I]at ek;exact absurd (Bh ek) hkk
      |succ r=>
       rw[hnm]at z;exact ih r (by lia) f (some (t.advance p')) (by lia) (by lia) (by show(t.advance p').dummy=none;rw[Hit.dummy (occ:=λ_=>True)];exact hdm') z.2
    by_cases L:(!t.led)=true
    .rw[if_pos L];refine Aa (Jru hk ?_ _ seen);simp only[Az,if_false];exact J
    .rw[if_neg L];exact J
  case _ U=>
   exact(Jkb T.ris T.dum U hn N hh (okF _ λ_=>rfl)).elim
end
section
variable {prog:Program} {w:World} {A:Bi} {E:Value->Shared->Prop} {s:Shared}
def Jfm{a:Type}(xs:Array a)(p:Nat)(x:a):(Ee xs p x).toList=xs.toList.take p++x::xs.toList.drop p:=by
 unfold Ee;have e:(xs.extract p xs.size).toList=xs.toList.drop p:=by rw[Iy,Hb];exact B9 (by simp)
 rw[Er,Hw,e,Iy,Hb];simp
theorem Hit.le{t:SetTable}{occ:Nat->Prop}:∀{n:Nat} {p:Ec} {j:Nat},p.j+p.more<=t.mask->Hit t occ n p j->j<=t.mask
 |0,p,j,h,e=>by have e:p.j=j:=e;lia
 |n+1,p,j,h,⟨_,q⟩=>by
  refine Hit.le ?_ q;unfold Hx;split
  .show p.j+1+(p.more-1)<=t.mask;lia
  .show(Lg t.mask p.i p.perturb).1+(Bv t.mask (Lg t.mask p.i p.perturb).1-(Lg t.mask p.i p.perturb).1)<=t.mask;have a:(Lg t.mask p.i p.perturb).1<=t.mask:=Kk (O4 _ (Na _));unfold Bv;split<;>lia
def Jns(t:SetTable)(h:Int):(t.probeStart h).j+(t.probeStart h).more<=t.mask:=by
 show F2 h%(t.mask+1)+(Bv t.mask (F2 h%(t.mask+1))-F2 h%(t.mask+1))<=t.mask;have a:F2 h%(t.mask+1)<=t.mask:=Kk (O4 _ (Na _));unfold Bv;split<;>lia
theorem sub_len:∀(l P:List Nat),l.Nodup->(∀j∈l,j∈P)->l.length<=P.length
 |[],P,_,_=>by simp
 |x::l,P,b,c=>by
  have d:=c x (.head _);have g:=sub_len l (P.erase x) (Cp.mp b).2 λj f=>by
   have a:j≠x:=λe=>(Cp.mp b).1 (e▸f);exact(Qv a).mpr (c j (.tail _ f))
  rw[Pl d]at g;have:=P9 d;simp only[Bb]
  lia
def Jvb(n:Nat)(P:List Nat)(h:∀j,j<n->j∈P):n<=P.length:=by
 simpa using sub_len (Cf n) P List.nodup_range λj a=>h j (Ue.mp a)
def Tb.free{t:SetTable}(T:Tb prog w t kb):∃j,j<=t.mask/\j∉t.place.toList:=by
 apply Classical.byContradiction;intro h;have a:∀j,j<t.mask+1->j∈t.place.toList:=λj c=>Lx.mp λq=>h ⟨j,by lia,q⟩;have b:=Jvb _ _ a;rw[Bs,T.len]at b;have:=T.room
 lia
def Tb.put{t:SetTable}{kb:List (List Int×Addr)}(T:Tb prog w t kb)(I:k∉kb.map (·.1))(J:j∉t.place.toList)(L:n<10*Dz t.mask)(v:Hit t (·∈t.place.toList) n (t.probeStart (kh prog w k)) j):
  ∃c,c.Perm ((k,b)::kb)/\Ris (t.put j).1.place.toList/\(t.put j).1.dummies= #[]/\(t.put j).1.mask=t.mask/\(t.put j).1.place.size=c.length/\
   (∀i∈(t.put j).1.place.toList,i<=t.mask)/\(c.map (·.1)).Nodup/\(∀q∈(t.put j).1.place.toList.zip c,∃n,n<10*Dz t.mask/\Hit (t.put j).1 (·∈(t.put j).1.place.toList) n ((t.put j).1.probeStart (kh prog w q.2.1)) q.1)/\
   ∀es:Array (Int×Value),es.toList=kb.map (entS prog w)->(Ee es (t.put j).2 (kh prog w k,.ref b)).toList=c.map (entS prog w):=by
 obtain⟨z,m,C⟩:=Jfu j T.ris;obtain⟨p,hp⟩:∃p,C7 t.place j=p:=⟨_,rfl⟩
 rw[hp]at z m C;have N:(t.put j).1.place=Ee t.place p j:=by rw[<-hp];rfl
 have d:(t.put j).1.place.toList=t.place.toList.take p++j::t.place.toList.drop p:=by rw[N,Jfm]
 have Q:(t.put j).1.dummies= #[]:=by
  show(if Kh t.dummies j then _ else t.dummies)= #[];rw[T.dum];have:Kh #[] j=false:=by unfold Kh;simp
  rw[this];rfl
 have o:(t.put j).1.mask=t.mask:=rfl;have len:t.place.toList.length=kb.length:=by rw[Bs,T.len]
 have U:p<=t.place.toList.length:=by simpa using C
 have Y:(t.place.toList.take p++j::t.place.toList.drop p).zip (kb.take p++(k,b)::kb.drop p)=(t.place.toList.zip kb).take p++(j,(k,b))::(t.place.toList.zip kb).drop p:=by
  rw[List.zip_append (by simp;lia),Mj];congr 1
  .exact(List.take_zipWith ..).symm
  .congr 1;exact(List.drop_zipWith ..).symm
 have a:∀{H:Type} (l:List H) (x:H),(l.take p++x::l.drop p).Perm (x::l):=λl x=>by
  refine Nj.trans (Q9 _ ?_);rw[Gk]
 have f:∀i,i∈t.place.toList->i∈(t.put j).1.place.toList:=λi hi=>by
  rw[d];exact(a _ _).mem_iff.mpr (.tail _ hi)
 refine⟨kb.take p++(k,b)::kb.drop p,a _ _,?_,Q,o,?_,?_,?_,?_,?_⟩
 .rw[d];refine Cd.mpr ⟨T.ris.sublist (Gu _ _),Dr.mpr ⟨λy hy=>?_,T.ris.sublist (Kc _ _)⟩,λx hx y hy=>?_⟩
  .obtain⟨i,hi,rfl⟩:=Dt.mp hy;have e:p+i<t.place.size:=by simp at hi;lia
   have r:=m (p+i) e (by lia);have g:(List.drop p t.place.toList)[i]=t.place[p+i]:=by simp
   rw[g];rcases Nat.lt_or_eq_of_le r with q|q
   .exact q
   .exact absurd (by rw[q];simp) J
  .obtain⟨i,hi,rfl⟩:=Dt.mp hx;have h:i<p/\i<t.place.size:=by simp at hi;lia
   have g:(List.take p t.place.toList)[i]=t.place[i]:=by simp
   rw[g];have h3:=z i h.2 h.1;rcases Am.mp hy with rfl|hy
   .exact h3
   .obtain⟨u,e,rfl⟩:=Dt.mp hy;have h4:(List.drop p t.place.toList)[u]=t.place[p+u]'(by simp at e;lia):=by simp
    rw[h4];have:=m (p+u) (by simp at e;lia) (by lia)
    lia
 .rw[<-Bs,d,(a _ _).length_eq,(a _ _).length_eq,Bb,Bb,len]
 .intro i hi;rw[d]at hi;rcases Am.mp ((a _ _).mem_iff.mp hi)with rfl|hi
  .exact v.le (Jns t _)
  .exact T.inb i hi
 .have:((kb.take p++(k,b)::kb.drop p).map (·.1)).Perm (((k,b)::kb).map (·.1)):=(a _ _).map _;exact this.nodup_iff.mpr (Cp.mpr ⟨I,T.nd⟩)
 .intro q hq;rw[d,Y]at hq;rcases Am.mp ((a _ _).mem_iff.mp hq)with rfl|hq
  .exact⟨n,L,v.mono (t':=(t.put j).1) o f⟩
  .obtain⟨n',r,g⟩:=T.way q hq;exact⟨n',r,g.mono (t':=(t.put j).1) o f⟩
 .intro es he;rw[show(t.put j).2=p from hp,Jfm,he];simp[entS,Kl,Pk]
end
section
variable {prog:Program} {w:World} {A:Bi} {E:Value->Shared->Prop} {s:Shared}
inductive SetT (prog:Program) (w:World) (h:Heap) (a:Addr) (kb:List (List Int×Addr)):Prop
 |mk (o es ep t) (_:h.get? a=some o) (_:o.ExactSet) (_:o.data=.set es ep t) (_:es.toList=kb.map (entS prog w)) (_:Tb prog w t kb):SetT prog w h a kb
def stored{h:Heap}{o:Obj}(d:h.get? a=some o)(c:o.data=.set es ep t):
  (h.update a (R6 b t')).get? a=some {o with data:=.set b (ep+1) t'}:=by
 have:=C2 (R6 b t') d (by rw[putSet_of b t' c];rfl);rw[putSet_of b t' c]at this;exact this
def Jp2:100<=sizeLine:=by rw[Ig];decide
def Jvw{d:List (List Int×Addr)}{Q:Bool->Shared->Prop}(hu:A.units<Dc)(S:SetT prog w s.heap a d)(p:∀x∈d,IK prog w s.heap x.1 x.2)(Y:IK prog w s.heap k b)(hn:d.length<3)
  (r:k∈d.map (·.1)->Q false s)(u:k∉d.map (·.1)->∀h' v,Di a s.heap h'->SetT prog w h' a v->v.Perm ((k,b)::d)->Q true {s with heap:=h'}):
  wpAny (model prog w) A (setAddHashed a (.ref b) (kh prog w k)) Q E s:=by
 obtain⟨o,f,ep,t,h,hx,l,y,T⟩:=S;have hf:=T.fits y;unfold setAddHashed;refine Bj ?_;rw[show(100000:Nat)=99999+1 from rfl,setAddHashedIn];refine Aa (Kz h l hf ?_);dsimp only;have hsc:byScan (.ref b) f=false:=by unfold byScan;rfl
 rw[hsc];simp only[Az,if_false];unfold setSearch;have hturn:10*Dz t.mask<100000:=by unfold Dz;rw[T.msk];decide
 by_cases e:k∈d.map (·.1)
 .obtain⟨x,hx',ek⟩:=Bd.mp e;obtain⟨i,hi,ei⟩:=Dt.mp hx';have z:i<t.place.size:=by rw[T.len];exact hi
  have hz:(t.place[i],x)∈t.place.toList.zip d:=by
   refine C4.mpr ⟨i,?_⟩;rw[List.getElem?_zip_eq_some];exact⟨by rw[Bn];exact Bo z,by rw[Af hi,ei]⟩
  obtain⟨n,N,C⟩:=T.way _ hz;simp only[ek]at C;refine Aa (Jc3 (j:=t.place[i]) hu T h l y p Y (.inr ⟨⟨i,z,rfl,by rw[Af hi,ei];exact congrArg some ek⟩,?_⟩) n 100000 none (by lia) N rfl C);exact Ab (r e)
 .obtain⟨j0,hj0,hno⟩:=T.free;obtain⟨n,j,N,C,h3⟩:=Jph (occ:=(·∈t.place.toList)) T.msk hj0 hno (kh prog w k);refine Aa (Jc3 (j:=j) hu T h l y p Y (.inl ⟨C,e,?_⟩) n 100000 none (by lia) N rfl h3);dsimp only;refine Aa (Kz h l hf ?_);dsimp only;obtain⟨H,p1,r1,d1,m,l1,i1,n1,w1,U⟩:=T.put (b:=b) e C N h3;have U:=U f y;have c:H.length=d.length+1:=by rw[p1.length_eq];rfl
  have hesz:f.size=d.length:=by rw[<-Bs,y,Ah]
  have I:(Ee f (t.put j).2 (kh prog w k,As b)).size=d.length+1:=by rw[<-Bs,U,Ah,c]
  have fit1:(t.put j).1.fits (Ee f (t.put j).2 (kh prog w k,As b)).size=true:=by
   unfold R5 Nr;rw[d1,l1,I,c,m];have:=T.room;simp only[beq_self_eq_true,Mg,decide_eq_true_eq];show d.length+1+0<=t.mask;rw[T.msk];lia
  have g:wpAny (model prog w) A (do
    storeSet a (Ee f (t.put j).2 (kh prog w k,As b)) (t.put j).1
    if(!false&&(t.put j).1.tooFull)=true then do
     setRelay a (SetTable.grown (f.size+1))
     pure true
    else pure true) Q E s:=by
   refine Aa (wpAny_storeSet_of h l ?_ (by rw[I];have:=Jp2;lia));have sb:=Df s.heap a (R6 (Ee f (t.put j).2 (kh prog w k,As b)) (t.put j).1);have fill:(t.put j).1.fill=d.length+1:=by unfold Nr;rw[d1,l1,c];rfl
   have J:(t.put j).1.tooFull=false:=by
    unfold SetTable.tooFull;rw[fill,m,T.msk];exact decide_eq_false (by lia)
   rw[J];simp only[Lq,Az,if_false];exact Ab (u e _ H sb ⟨_,_,_,_,stored h l,hx,rfl,U,r1,d1,by rw[m];exact T.msk,l1,by rw[m];exact i1,by rw[c,m,T.msk];lia,n1,by rw[m];exact w1⟩ p1)
  by_cases L:(t.put j).1.plain=true
  .rw[if_pos L];refine Aa (Jfa Y ?_);exact g
  .rw[if_neg L];refine Aa (Ab ?_);exact g
end
open PySem PyProof.Rows
noncomputable def dd(ks:Nat->List Int):Nat->List (List Int)
 |0=>[]
 |n+1=>if ks n∈dd ks n then dd ks n else ks n::dd ks n
theorem Jhh(ks:Nat->List Int):∀n,(dd ks n).length<=n
 |0=>Ai _
 |n+1=>by
  unfold dd;have:=Jhh ks n;split
  .lia
  .simp only[Bb];lia
section
variable {prog:Program} {w:World} {A:Bi} {s:Shared} {R:Mq->Shared->Prop}
def IK.keep{h h':Heap}(x:IK prog w h k b)(e:∀o,h.get? b=some o->h'.get? b=some o):IK prog w h' k b:=by
 obtain⟨o,a,n,c,r⟩:=x;exact⟨o,a,n,e o c,r⟩
def SetT.keep{h h':Heap}(x:SetT prog w h a kb)(e:∀o,h.get? a=some o->h'.get? a=some o):SetT prog w h' a kb:=by
 obtain⟨o,es,ep,t,b,r,c,d,f⟩:=x;exact⟨o,es,ep,t,e o b,r,c,d,f⟩
structure Lo(prog:Program)(w:World)(I l S:Addr)(items:Array Value)(ks:Nat->List Int)(i:Nat)(h:Heap)(kb:List (List Int×Addr)):Prop where
 it:h.IsListIter I l i
 li:h.IsList l items
 st:SetT prog w h S kb
 el:∀j v,items[j]? =some v->∃b,v=.ref b/\b≠S/\b≠I/\IK prog w h (ks j) b
 ek:∀x∈kb,x.2≠S/\x.2≠I/\IK prog w h x.1 x.2
 pm:(kb.map (·.1)).Perm (dd ks i)
theorem loop{a:Array Value}{ks:Nat->List Int}(hh:A.in1.handled=none)(hu:A.in1.units<Dc)(h1:l≠I)(h2:S≠I)(h3:S≠l)(hb:a.size<4):
  ∀(k i:Nat) (s:Shared) (n:List (List Int×Addr)),a.size-i=k->i<=a.size->Lo prog w I l S a ks i s.heap n->
   (∀h' tk h,(∀b o,b≠S->b≠I->s.heap.get? b=some o->h'.get? b=some o)->SetT prog w h' S h->(h.map (·.1)).Perm (dd ks a.size)->R (.ok (.ret .none)) {s with heap:=h',toks:=tk})->
   Hk (model prog w) A (.builtin "set.update.loop" ⟨[.ref S,.ref I],[]⟩) R s:=by
 have W:=Q3 (prog:=prog) (w:=w) (A:=A.in1) hh I l h1 a;intro k
 induction k with
 |zero=>
  intro i s n hk hi L hR;have:i=a.size:=by lia
  subst this;refine Dw Qt ?_;rw[C9 Hz _];show wpAny _ A.in1 (pyNext (.ref I)>>=_) _ _ s;refine Aa (W.done s _ _ ⟨L.it,L.li⟩ λh' tk hm=>?_);exact Ab (hR h' tk n (λb o _ hI e=>hm b o (by simpa using hI) e) (L.st.keep λo e=>hm S o (by simpa using h2) e) L.pm)
 |succ k ih=>
  intro i s n hk hi L hR;have p:i<a.size:=by lia
  refine Dw Qt ?_;rw[C9 Hz _];show wpAny _ A.in1 (pyNext (.ref I)>>=_) _ _ s;refine Aa (W.item i s _ _ p ⟨L.it,L.li⟩ λv h' tk hP m hm=>?_);obtain⟨b,rfl,b1,b2,b3⟩:=L.el i v hP;have E:∀c o,c≠I->s.heap.get? c=some o->h'.get? c=some o:=λc o hc e=>hm c o (by simpa using hc) e;have J:SetT prog w h' S n:=L.st.keep λo e=>E S o h2 e;have N:∀j v,a[j]? =some v->∃b,v=.ref b/\b≠S/\b≠I/\IK prog w h' (ks j) b:=λj v hv=>by
   obtain⟨c,rfl,g,d,r⟩:=L.el j v hv;exact⟨c,rfl,g,d,r.keep λo e=>E c o d e⟩
  have t:∀x∈n,x.2≠S/\x.2≠I/\IK prog w h' x.1 x.2:=λx hx=>by
   obtain⟨g,d,r⟩:=L.ek x hx;exact⟨g,d,r.keep λo e=>E _ o d e⟩
  have u:IK prog w h' (ks i) b:=b3.keep λo e=>E b o b2 e;have Q:n.length<3:=by
   have e1:=L.pm.length_eq;have e2:=Jhh ks i;rw[Ah]at e1
   lia
  show wpAny _ A.in1 (holding [As b] (setAdd S (.ref b))>>=_) _ _ _;refine Aa (Bj ?_);unfold setAdd;refine Bj ?_;refine Aa (wpAny_pyHash_tuple (s:={s with heap:=h',toks:=tk}) hu u ?_);refine Jvw (s:={s with heap:=h',toks:=tk+((ks i).length+1)}) hu J (λx hx=>(t x hx).2.2) u Q (λy=>?_) (λy h2' h sb S' U=>?_)
  .refine Ab ⟨Gz Hz _,ih (i+1) _ n (by lia) p ⟨m.1,m.2,J,N,t,?_⟩ λz C h f S' p'=>?_⟩
   .unfold dd;rw[if_pos (L.pm.mem_iff.mp y)];exact L.pm
   .exact hR z C h (λc o g d e=>f c o g d (E c o d e)) S' p'
  .have H:∀c o,c≠S->h'.get? c=some o->h2'.get? c=some o:=λc o hc e=>by rw[sb.2 c hc];exact e
   refine Ab ⟨Gz Hz _,ih (i+1) _ h (by lia) p ⟨m.1.at λo e=>H I o (Ef h2) e,m.2.at λo e=>H l o (Ef h3) e,S',λj v hv=>?_,λx hx=>?_,?_⟩ λz C Y f S'' p'=>?_⟩
   .obtain⟨c,rfl,g,d,r⟩:=N j v hv;exact⟨c,rfl,g,d,r.keep λo e=>H c o g e⟩
   .rcases Am.mp (U.mem_iff.mp hx)with rfl|hx
    .exact⟨b1,b2,u.keep λo e=>H b o b1 e⟩
    .obtain⟨g,d,r⟩:=t x hx;exact⟨g,d,r.keep λo e=>H _ o g e⟩
   .unfold dd;rw[if_neg λq=>y (L.pm.mem_iff.mpr q)];exact(U.map _).trans (Q9 _ L.pm)
   .exact hR z C Y (λc o g d e=>f c o g d (H c o g (E c o d e))) S'' p'
variable {E:Value->Shared->Prop}
noncomputable abbrev setO(a:Bool):Obj:={cls:=.type "set",dict:=none,data:=.set #[] 0 (.fresh 0 0 a)}
def Jpo(a:Bool):Tb prog w (.fresh 0 0 a) []:=
 ⟨Oq,rfl,rfl,rfl,nofun,by show 0*5<7*3;decide,Jp,nofun⟩
inductive Mad (prog:Program) (w:World) (s:Shared) (ks:Nat->List Int) (n:Nat) (h':Heap):Prop
 |mk (_:(∃kb,SetT prog w h' s.heap.objs.size kb/\(kb.map (·.1)).Perm (dd ks n))) (_:∀b o,b<s.heap.objs.size->s.heap.get? b=some o->h'.get? b=some o):Mad prog w s ks n h'
def Jmh{a:Array Value}{ks:Nat->List Int}(N:A.handled=none)(Q:A.in1.in1.in1.units<Dc)(I:s.heap.IsList l a)
  (J:∀j v,a[j]? =some v->∃b,v=.ref b/\IK prog w s.heap (ks j) b)(U:a.size<4){P:PySem.Fin->Shared->Prop}
  (h:∀h' tk,Mad prog w s ks a.size h'->P (.done (.ret .none)) {s with heap:=h',toks:=tk}):
  wpAny (model prog w) A.in1.in1 (Builtin.«set.__init__» ⟨[.ref s.heap.objs.size,.ref l],[]⟩) P E {s with heap:=s.heap.push (setO c)}:=by
 obtain⟨Y,f,i,nl,k⟩:=id I;obtain⟨hp,g,d,tk0,os⟩:=s;obtain⟨oc,od,oda,osl⟩:=Y;simp only at i k f I J h ⊢;subst i k;have n:l<hp.objs.size:=An f;have hS:(hp.push (setO c)).get? hp.objs.size=some (setO c):=Ak _ rfl;have p:=Ad (setO c) f;have n1:=PySem.F.sub_list_set;have n2:=PySem.F.sub_list_frozenset;have n3:(Ej "list"==Ej "dict")=false:=by decide
 have t:(hp.push (setO c)).IsList l a:=⟨_,p,rfl,nl,rfl⟩
 unfold Builtin.«set.__init__» noKeywords Ti;generalize u:pyIter=PI
 wp_walk
 subst u;refine G3 t (Aa (Qc ?_));have y:(hp.push (setO c)).objs.size=hp.objs.size+1:=Cq ..;have lo:∀{b:Addr} {o:Obj},hp.get? b=some o->b≠hp.objs.size/\b≠(hp.push (setO c)).objs.size:=λe=>by
  have q:=An e;rw[y];exact⟨Ay q,Ay (Kj q)⟩
 have L:∀{b:Addr} {o:Obj} (x:Obj),hp.get? b=some o->((hp.push (setO c)).push x).get? b=some o:=λx e=>Ad _ (Ad _ e);refine loop (ks:=ks) (by simp[N]) Q (l:=l) (by rw[y];exact Ay (Kj n)) (by rw[y];exact Ay (Dy _)) (Cy n) U a.size 0 _ [] (by lia) (Dg _)
  ⟨⟨_,Ak _ rfl,rfl,rfl⟩,t.push _,⟨_,#[],0,_,Ad _ hS,⟨rfl,rfl,rfl⟩,rfl,rfl,Jpo c⟩,λj v hv=>?_,nofun,List.Perm.refl _⟩ λh' tk z hk S' p'=>?_
 .obtain⟨b,rfl,x⟩:=J j v hv;obtain⟨o,C,m,H,r⟩:=id x;exact⟨b,rfl,(lo H).1,(lo H).2,o,C,m,L _ H,r⟩
 .show wpAny _ _ _ _ _ _;refine Ab ?_;show wpAny _ _ (ret Cv) _ _ _;exact Ab (h h' tk ⟨⟨z,S',p'⟩,λb o _ e=>hk b o (lo e).1 (lo e).2 (L _ e)⟩)
theorem Jm3{a:Array Value}{ks:Nat->List Int}{Q:Value->Shared->Prop}(p:A.handled=none)(J:A.units+9<Dc)(t:s.heap.IsList l a)
  (u:∀j v,a[j]? =some v->∃b,v=.ref b/\IK prog w s.heap (ks j) b)(y:a.size<4)
  (h:∀h' tk,Mad prog w s ks a.size h'->Q (.ref s.heap.objs.size) {s with heap:=h',toks:=tk}):
  wpAny (model prog w) A (call (.type "set") [.ref l]) Q E s:=by
 obtain⟨c,tl,o⟩:=Ea.mro;have L:=Ea.made;have N:=Ea.sub;have U:=Ea.notType;have Y:=Ea.canCreate;have m5:=PySem.F.typeCall_set_1 (.ref l);refine Us (codeAny_of_tree ?_);show wpAny _ _ (callAny (.type "set") _) _ _ _;refine Ab ⟨Rq _ (by decide+kernel),Dw PySem.F.entry_type_call ?_⟩;rw[Around.under_plain (weight_type_call_type "set" [.ref l] []) rfl]
 repeat (any_goals (first|assumption|wp_step))
 refine Gp (code_set_new_1 (.ref l) (E:=E) (Q₁:=λx g=>∃d,x=.ref s.heap.objs.size/\g={s with heap:=s.heap.push (setO d)}) λd=>⟨d,rfl,rfl⟩) λr g n=>?_;cases r with
 |error e=>exact n
 |ok z=>
  cases z<;>try exact n.elim
  obtain⟨d,rfl,rfl⟩:=n;have C:(s.heap.push (setO d)).get? s.heap.objs.size=some (setO d):=Ak _ rfl;have H:Fg {s with heap:=s.heap.push (setO d)} (.ref s.heap.objs.size) "set":=⟨_,C,rfl⟩
  have m6:=Ea.init.lookup;have m7:=Ea.init.bind (.ref s.heap.objs.size)
  repeat (any_goals (first|assumption|wp_step))
  refine Gp (codeAny_call_builtin (R:=wants (λr i=>r=.none/\∃h' tk,i={s with heap:=h',toks:=tk}/\Mad prog w s ks a.size h') E) Ea.init.plain PySem.F.entry_set_init
   (check_set_init_1 H (Jmh p (by show A.units+1+1+1<Dc;lia) t u y λh' tk m=>⟨rfl,h',tk,rfl,m⟩))) λk i f=>?_
  cases k with
  |error e=>exact f
  |ok I=>
   cases I<;>try exact f.elim
   obtain⟨rfl,h',tk,rfl,m⟩:=f
   repeat (any_goals (first|assumption|wp_step))
   exact h _ _ m
end
end Sbl
namespace Rdc
open PySem
inductive Raw (h:Heap) (d:Addr) (es:Array Cc) (ep:Nat):Prop
 |mk (o) (_:h.get? d=some o) (_:o.ExactDict) (_:o.data=.dict es ep):Raw h d es ep
def Raw.keep{h h':Heap}(x:Raw h d es ep)(e:∀o,h.get? d=some o->h'.get? d=some o):Raw h' d es ep:=let⟨o,a,r,b⟩:=x;⟨o,e o a,r,b⟩
def Raw.typeIs{s:Shared}(x:Raw s.heap d es ep):s.TypeIs (.ref d) "dict":=let⟨o,a,b,_⟩:=x;⟨o,a,b.1⟩
section
variable {prog:Program} {w:World} {A:Bi} {E:Value->Shared->Prop} {s:Shared} {d it v:Addr} {es:Array Cc} {ep i:Nat}
def Jmd{Q:Value->Shared->Prop}(f:(d==sysModules)=false)(b:Raw s.heap d es ep)
  (g:Q (.ref s.heap.objs.size) {s with heap:=s.heap.push {cls:=.type "dict_keyiterator",data:=.fields #[.ref d,.int 0 0,.int es.size 0,.int ep 0]}}):wpAny (model prog w) A (pyIter (.ref d)) Q E s:=by
 have a:=b.typeIs;obtain⟨o,c,h,e⟩:=b;refine Ve a N9 (Bp N9 a F.entry_dict_iter ?_ (F.args_dict_iter_1 _));unfold Builtin.«dict.__iter__» Builtin.Dict.dictSlotNone;refine Aa (Aa (Ff a (Ab ?_)));unfold Hl;refine Aa (Ab ?_);rw[if_neg (by rw[f];simp)];exact Aa (Ab (Aa (B3 c e (Aa (Eu c e (Aa (B8 (Ab ⟨_,rfl,"dict_keyiterator",_,⟨_,Ak _ rfl,rfl⟩,Es.lookup,g⟩))))))))
def Jxl{Q:Option Value->Shared->Prop}(b:Bool)(a:cond b (s.heap.IsValIter it d i es.size ep) (s.heap.IsKeyIter it d i es.size ep))(l:Raw s.heap d es ep)(m:i<es.size)
  (f:∀h',cond b (h'.IsValIter it d (i+1) es.size ep) (h'.IsKeyIter it d (i+1) es.size ep)->Di it s.heap h'->Q (some (cond b es[i].val es[i].key)) {s with heap:=h'}):wpAny (model prog w) A (pyNext (.ref it)) Q E s:=by
 obtain⟨h',c⟩:∃h',h'=s.heap.update it (Obj.mapFields (·.setIfInBounds 1 (rawInt ((i:Int)+1)))):=⟨_,rfl⟩
 have nx:cond b (h'.IsValIter it d (i+1) es.size ep) (h'.IsKeyIter it d (i+1) es.size ep):=by
  cases b<;>exact let⟨o,g,h,e⟩:=a;⟨_,by rw[c];exact C2 _ g (Qr (Jt e _)),(Sn ..).trans h,by rw[Jt e];simp[rawInt]⟩
 replace f:=f h' nx (by rw[c];exact Df ..)
 cases b<;>dsimp only[cond]at a nx f
 all_goals
  obtain⟨o,g,h,e⟩:=id a;obtain⟨q,j,n,k⟩:=l;unfold pyNext
  first|refine Aa (E6 (By (name:=Ac "__next__") a.typeIs F4 (Bp F4 a.typeIs Nv ?_ (Nn _))))|refine Aa (E6 (By (name:=Ac "__next__") a.typeIs Es (Bp Es a.typeIs Oh ?_ (Oa _))))
  refine Aa (Ab (Aa (Aa ?_)))
  first|refine Aa (Gi a.typeIs (Ab ?_))|refine Aa (Hu a.typeIs (Ab ?_))|refine Aa (Gj a.typeIs (Ab ?_))|refine Aa (Hv a.typeIs (Ab ?_))
  refine Aa (Mm g e ?_)
  first|rw[if_neg (show¬Cm "dict_valueiterator"=true by decide)]|rw[if_neg (show¬Cm "dict_keyiterator"=true by decide)]
  show wpAny _ _ (if(As d==Cv)=true then _ else _) _ _ s;rw[if_neg (show¬((As d==Cv)=true)from Ba)];refine Aa (Ab (Aa (B3 j k ?_)));rw[if_neg (by simp)];refine Aa (Ab (Aa (Eu j k ?_)));rw[if_neg (by simp)];refine Ab ?_;dsimp only;rw[if_neg (show¬((i:Int)<0) by omega),Em,Bo m];refine Aa ?_
  first|refine Aa (Gi a.typeIs (Ab ?_))|refine Aa (Hu a.typeIs (Ab ?_))|refine Aa (Gj a.typeIs (Ab ?_))|refine Aa (Hv a.typeIs (Ab ?_))
  first|refine Aa (L6 a.typeIs ?_)|refine Aa (Sk a.typeIs ?_)
  show wpAny _ _ (Sy (.ref it) 1 (rawInt ((i:Int)+1))>>=_) _ _ s;refine Aa (Km g e (by simp) ?_);rw[<-c]
  first|refine Aa (Bj (Aa (L6 (s:={s with heap:=h'}) nx.typeIs (Aa (L6 (s:={s with heap:=h'}) nx.typeIs ?_)))))|refine Aa (Bj (Aa (Sk (s:={s with heap:=h'}) nx.typeIs ?_)))
  exact Ab (Ab ⟨_,rfl,Ab f⟩)
def J0o{Q:Option Value->Shared->Prop}(b:Bool)(j:A.handled=none)(c:cond b (s.heap.IsValIter it d i es.size ep) (s.heap.IsKeyIter it d i es.size ep))(k:Raw s.heap d es ep)(l:es.size<=i)
  (n:∀h',Qs it s.heap h'->Q none {s with heap:=h'}):wpAny (model prog w) A (pyNext (.ref it)) Q E s:=by
 cases b<;>dsimp only[cond]at c
 all_goals
  obtain⟨o,e,p,f⟩:=id c;obtain⟨q,g,r,h⟩:=k;unfold pyNext
  first|refine Aa (E6 (By (name:=Ac "__next__") c.typeIs F4 (Bp F4 c.typeIs Nv ?_ (Nn _))))|refine Aa (E6 (By (name:=Ac "__next__") c.typeIs Es (Bp Es c.typeIs Oh ?_ (Oa _))))
  refine Aa (Ab (Aa (Aa ?_)))
  first|refine Aa (Gi c.typeIs (Ab ?_))|refine Aa (Hu c.typeIs (Ab ?_))|refine Aa (Gj c.typeIs (Ab ?_))|refine Aa (Hv c.typeIs (Ab ?_))
  refine Aa (Mm e f ?_)
  first|rw[if_neg (show¬Cm "dict_valueiterator"=true by decide)]|rw[if_neg (show¬Cm "dict_keyiterator"=true by decide)]
  show wpAny _ _ (if(As d==Cv)=true then _ else _) _ _ s;rw[if_neg (show¬((As d==Cv)=true)from Ba)];refine Aa (Ab (Aa (B3 g h ?_)));rw[if_neg (by simp)];refine Aa (Ab (Aa (Eu g h ?_)));rw[if_neg (by simp)];refine Ab ?_;dsimp only;rw[if_neg (show¬((i:Int)<0) by omega),Em,Ky l];refine Aa ?_
  first|refine Aa (Gi c.typeIs (Ab ?_))|refine Aa (Hu c.typeIs (Ab ?_))|refine Aa (Gj c.typeIs (Ab ?_))|refine Aa (Hv c.typeIs (Ab ?_))
  show wpAny _ _ (Sy (.ref it) 0 .none>>=_) _ _ s;refine Aa (Km e f (by simp) ?_);show wpAny _ _ (R3 (.type "StopIteration") []>>=_) _ _ _;simp only[R3,newTuple];refine Aa (Aa (B8 ?_ (by size_fits)));refine Aa (m:=Im _ _) (O7 (a:=Cv) (by first|rfl|(simp only[Im];rfl)) ?_);refine B8 ?_ (by size_fits);simp only[raiseNew];refine Aa (Q1 ?_);rw[show A.in1.handled=none from j];refine Aa (Ab (Sw ?_));refine Aa (Eh (T:="StopIteration") (b:=true) ⟨_,Ak _ rfl,rfl⟩ Qf ?_);exact Ab (n _ (((Df ..).extBut.push _).push _))
def Jk1(p:A.handled=none)(I d:Addr)(j:d≠I)(es:Array Cc)(ep:Nat):
  Walks prog w A I [I,d] [I] es.size (λi v=>∃e,es[i]? =some e/\v=e.key) (λi h=>h.IsKeyIter I d i es.size ep/\Raw h d es ep)where
 sub:=λb a=>by simp at a;simp[a]
 frame:=λ_ _ _ st m=>⟨st.1.at λo e=>m I (by simp) o e,st.2.keep λo e=>m d (by simp) o e⟩
 item:=λi s Q E n st c=>Jxl false st.1 st.2 n λk f g=>c _ k s.toks ⟨es[i],Bo n,rfl⟩ ⟨f,st.2.keep λo e=>by rw[g.2 d j];exact e⟩ λb o a e=>g.extBut b o (λh=>a (by simp[h])) e
 done:=λs Q E st c=>J0o false p st.1 st.2 (Ai _) λk l=>c k s.toks λb o a e=>l b o (λh=>a (by simp[h])) e
 self:=λ_ _ _ _ st c=>wpAny_pyIter_keyiter st.1 c
open PySem.W in
def Jnt(a:(d==sysModules)=false):KdlSrc prog w "dict" d d es.size (λi v=>∃e,es[i]? =some e/\v=e.key) (λh=>Raw h d es ep)where
 type:=λs x=>x.typeIs
 there:=λh x=>let⟨_,e,_,_⟩:=x;⟨An e,An e⟩
 keep:=λh c x k=>x.keep λo e=>k d (.inl rfl) o e
 notList:=by decide
 notTuple:=by decide
 hint:=λA E s Q x q=>kdl_hint_dict x.typeIs q
 iter:=λA s b x=>⟨_,_,λE Q q=>Jmd a x q,Jk1 b _ d (let⟨_,e,_,_⟩:=x;Ay (An e)) es ep,⟨_,Ak _ rfl,rfl,rfl⟩,x.keep λo e=>Ad _ e⟩
end
section
variable {prog:Program} {w:World} {K:Type} [DecidableEq K] {knd:Li prog w K} {A:Bi} {E:Value->Shared->Prop} {s:Shared} {d a:Addr} {k:K} {xs:List (K×Addr×Value)}
noncomputable def Xl(xs:List (K×Addr×Value))(k:K):List (K×Addr×Value):=xs.filter λx=>decide (x.1≠k)
def Jou{xs:List (K×Addr×Value)}(h:k∉xs.map (·.1)):Xl xs k=xs:=by
 unfold Xl;rw[List.filter_eq_self];intro x b;have:x.1≠k:=λe=>h (e▸Bd.mpr ⟨x,b,rfl⟩);simp[this]
theorem Jlx{g:Type}(f:K×Addr×Value->g):∀{xs:List (K×Addr×Value)} {j:Nat} {p:Addr×Value},(xs.map (·.1)).Nodup->xs[j]? =some (k,p)->(xs.map f).eraseIdx j=(Xl xs k).map f
 |[],j,p,_,h=>by simp at h
 |x::r,0,p,b,h=>by
  simp only[Ek,Ja]at h;subst h;rw[Ax,Cp]at b;have e:Xl ((k,p)::r) k=r:=by
   have:=Jou b.1;unfold Xl at this ⊢;rw[Fz,if_neg (by simp)];exact this
  rw[e,Ax,List.eraseIdx_cons_zero]
 |x::r,j+1,p,b,h=>by
  simp only[Bq]at h;rw[Ax,Cp]at b;have c:x.1≠k:=λe=>b.1 (e▸Bd.mpr ⟨(k,p),Au h,rfl⟩);have e:Xl (x::r) k=x::Xl r k:=by
   unfold Xl;rw[Fz,if_pos (by simpa using c)]
  rw[e,Ax,P0,Jlx f b.2 h,Ax]
def Jg3{p:Addr×Value}{Q:Option Cc->Shared->Prop}(u:knd.room A)(b:knd.is s.heap k a)(v:s.heap.DictOfH knd d xs)(hp:Hn xs k=some p)(hsz:xs.length<=sizeLine)
  (h:∀(c:Addr) h',h'.DictOfH knd d (Xl xs k)->Di d s.heap h'->Q (some ⟨knd.hash k,.ref c,p.2⟩) {s with heap:=h',toks:=s.toks+knd.draws k}):
  wpAny (model prog w) A (Nw d (.ref a)) Q E s:=by
 obtain⟨o,y,z,g,C,f,m,i,n⟩:=v;unfold Nw
 try with_reducible refine Bj ?_
 refine Aa (knd.pyHash u b ?_);refine Aa (Tu (s:={s with toks:=s.toks+knd.draws k}) u b g f m i n ?_ ?_)
 .intro r;rw[N7 r]at hp;exact nomatch hp
 .intro j q t;rw[atKey_of_get n t]at hp;cases hp;refine Aa (B3 (s:={s with toks:=s.toks+knd.draws k}) g f ?_);rw[Qh m j,t];refine Aa (wpAny_updateDictKeys (hz:=by have e:=Gx m;lia) (s:={s with toks:=s.toks+knd.draws k}) g f (Ab (h _ _ ⟨_,_,z+1,C2 _ g (Ro (I8 f _)),
   C.mapDictKeys _,I8 f _,?_,?_,?_⟩ (Df ..))))
  .have:=Jlx (entryOfKey knd) n t;rw[<-m]at this;obtain⟨l⟩:=y
   simpa using this
  .intro x H;exact knd.keeps (i x (Jb.mp H).1) g f (Df ..)
  .exact n.sublist ((Q8).map _)
end
section
variable {prog:Program} {w:World} {K:Type} [DecidableEq K] (knd:Li prog w K) (d a:Addr)
def Jke:MeetsIn prog w (Builtin.«dict.pop» ⟨[.ref d,.ref a],[]⟩) (λA R s=>knd.room A.in1/\∃k xs p,knd.is s.heap k a/\s.heap.DictOfH knd d xs/\Hn xs k=some p/\xs.length<=sizeLine/\
   ∀h',h'.DictOfH knd d (Xl xs k)->Di d s.heap h'->R (.ok (.ret p.2)) {s with heap:=h',toks:=s.toks+knd.draws k}):=
 .of_wp λA R s l=>by
  obtain⟨m,k,xs,p,b,e,hp,f,h⟩:=l;unfold Builtin.«dict.pop»;refine Aa ?_;unfold Builtin.Dict.keyAndDefault;refine Aa (Ff e.typeIs ?_);show wpAny _ _ (pure (d,As a,none)) _ _ s;refine Ab ?_;obtain⟨o,n,y,t,z,u,v,_⟩:=id e;have g:n.isEmpty=false:=by
   cases xs with
   |nil=>simp[Hn]at hp
   |cons x r=>have:=Gx v;simp at this;simp[Uo,this]
  simp only[show(N4 (As a)).isSome=false from rfl,Az,if_false];refine Aa (B3 t u (Aa (Ab ?_)));rw[g];simp only[Az,if_false];refine Aa (Jg3 m b e hp f λc h' i j=>?_);simp only[Qu,Az,if_false];exact Aa (O8 (Ab ⟨p.2,rfl,h h' i j⟩))
end
section
variable {prog:Program} {w:World} {A:Bi} {E:Value->Shared->Prop} {s:Shared} {o:Addr} {es:Array Cc} {ep:Nat}
def Jim{Q:Bool->Shared->Prop}(a:s.TypeIs (.ref k) "tuple")(h:Q false s):wpAny (model prog w) A (Nx (.ref k)) Q E s:=by
 unfold Nx;exact Aa (Gw a Jl.lookup (Ab h))
def Zm{id:String}{Q:Array Cc->Shared->Prop}(c:Raw s.heap o es ep)(d:∀e∈es,∃k,e.key=.ref k/\s.TypeIs (.ref k) "tuple")(f:∀e∈es,(es.filter (·.hash==e.hash)).size<=1)(h:Q es s):
  wpAny (model prog w) A (L3 id o) Q E s:=by
 obtain⟨n,g,p,i⟩:=c;unfold L3;refine Aa (B3 g i (Aa ?_));show wpAny _ _ (forIn es _ _) _ _ s;rw[<-F6];refine D3 _ (λrest r b=>b=s/\∀e∈rest,e∈es) _ ?_ ?_ _ _ ⟨rfl,λe j=>Cu.mp j⟩
 .rintro e rest r b ⟨rfl,a⟩;obtain⟨k,l,tk⟩:=d e (a e Br);rw[l];refine Aa (Jim tk ?_);simp only[Um,if_true];rw[if_neg (by have:=f e (a e Br);omega)];exact Ab ⟨rfl,λu m=>a u (A7 _ m)⟩
 .rintro r b ⟨rfl,_⟩;exact Ab h
def Jm8{Q:Value->Shared->Prop}(H:(o==sysModules)=false)(x:Raw s.heap o es ep)(y:∀e∈es,∃k,e.key=.ref k/\s.TypeIs (.ref k) "tuple")(I:∀e∈es,(es.filter (·.hash==e.hash)).size<=1)
  (hz:es.size<=sizeLine)(h:∀h' j,Raw h' s.heap.objs.size es j->Di s.heap.objs.size (s.heap.push {cls:=.type "dict",data:=.dict #[]}) h'->Q (.ref s.heap.objs.size) {s with heap:=h'}):
  wpAny (model prog w) A (call (.type "dict") [.ref o]) Q E s:=by
 refine callType_codes (Q₁:=λf b=>f=.ref s.heap.objs.size/\b={s with heap:=s.heap.push {cls:=.type "dict",data:=.dict #[]}}) U4 (R9 _) T3 (kt_code_dict_new _ ⟨rfl,rfl⟩) ?_;rintro f b ⟨rfl,rfl⟩;have a:Raw (s.heap.push {cls:=.type "dict",data:=.dict #[]}) s.heap.objs.size #[] 0:=⟨_,Ak _ rfl,⟨rfl,rfl,rfl⟩,rfl⟩
 have d:Raw (s.heap.push {cls:=.type "dict",data:=.dict #[]}) o es ep:=x.keep λ_ q=>Ad _ q;have z:Fg {s with heap:=s.heap.push {cls:=.type "dict",data:=.dict #[]}} (.ref s.heap.objs.size) "dict":=Raw.typeIs (s:={s with heap:=s.heap.push {cls:=.type "dict",data:=.dict #[]}}) a;have tO:Fg {s with heap:=s.heap.push {cls:=.type "dict",data:=.dict #[]}} (.ref o) "dict":=Raw.typeIs (s:={s with heap:=s.heap.push {cls:=.type "dict",data:=.dict #[]}}) d;have l:¬((s.heap.objs.size==o)=true):=by
  obtain⟨_,J,_⟩:=x;exact λe=>absurd (An J) (by rw[eq_of_beq e];exact Ey _)
 refine⟨z,Th _ _,?_⟩;unfold Builtin.«dict.__init__»;refine Aa ?_;unfold M0;refine Aa (Ff z ?_);show wpAny _ _ (pure (s.heap.objs.size,[As o])) _ _ _;refine Ab ?_;show wpAny _ _ (G2 "dict.__init__" s.heap.objs.size (.ref o) [] .none) _ _ _;unfold G2;refine Aa (Gn tO ?_);rw[if_neg (by decide)];refine Aa ?_;unfold Builtin.Dict.merge;refine Aa ?_;unfold Builtin.Dict.readDirectly;refine Aa (Eh tO isSubtype_dict_dict ?_);simp only[Dm,Az,if_false];refine Aa (Gw tO N9.lookup (Ab ?_));simp only[beq_self_eq_true,if_true];refine Aa (Ab ?_);obtain⟨U,m,Y,n⟩:=id d;obtain⟨nb,p,L,i⟩:=id a;unfold Builtin.Dict.mergeDict;rw[if_neg l];unfold Hl;rw[if_neg (by rw[H];simp)];refine Aa (Ab (Aa (B3 m n ?_)))
 by_cases r:es= #[]
 .have t:(decide (es.size<=8)&&es.all λe=>(N4 e.key).isSome)=true:=by subst r;simp
  show wpAny _ _ (if(!(decide (es.size<=8)&&es.all λe=>(N4 e.key).isSome))=true then _ else _) _ _ _;rw[t,if_neg (by simp)];refine Aa (Eu m n (Aa (B3 m n (Aa ?_))));subst r;simp only[Ft,Jf];refine Ab (Ab ?_);show wpAny _ _ (M1 s.heap.objs.size []>>=_) _ _ _;exact Aa (Ab (Ab ⟨rfl,h _ _ a (O0 _ _)⟩))
 .have u:0<es.size:=Nat.pos_of_ne_zero λq=>r (Array.eq_empty_of_size_eq_zero q);have t:(decide (es.size<=8)&&es.all λe=>(N4 e.key).isSome)=false:=by
   have:(es.all λe=>(N4 e.key).isSome)=false:=by
    cases q:es.all λe=>(N4 e.key).isSome with
    |false=>rfl
    |true=>
     have C:=Array.all_eq_true.mp q 0 u;obtain⟨k,v,_⟩:=y es[0] (Ry _);rw[v]at C;cases C
   rw[this,Lq]
  show wpAny _ _ (if(!(decide (es.size<=8)&&es.all λe=>(N4 e.key).isSome))=true then _ else _) _ _ _;rw[t,if_pos (by rfl)];refine Aa (B3 p i ?_);rw[if_pos (by rfl)];refine Aa (Zm d (λe q=>let⟨k,v,N,g,c⟩:=y e q;⟨k,v,N,Ad _ g,c⟩) I ?_);show wpAny _ _ (if(!es.isEmpty)=true then _ else _) _ _ _;rw[if_pos (by simp[Uo];lia)];refine Aa (wpAny_updateDictKeysTo p i ?_ (by show es.size<=_;lia));refine Ab ?_;show wpAny _ _ (M1 s.heap.objs.size []>>=_) _ _ _;exact Aa (Ab (Ab ⟨rfl,h _ _ ⟨_,C2 _ p (Ro (I8 i _)),L.mapDictKeys _,I8 i _⟩ (Df ..)⟩))
end
open PySem PySem.W
section
variable {prog:Program} {w:World} {K:Type} [DecidableEq K] {knd:Li prog w K} {A:Bi} {E:Value->Shared->Prop} {s:Shared} {a b:Addr} {xa xb:List (K×Addr×Value)}
def Wbg{Q:Bool->Shared->Prop}(U:(a==sysModules)=false)(Y:(b==sysModules)=false)(hu:knd.room A)(da:s.heap.DictOfH knd a xa)(db:s.heap.DictOfH knd b xb)(hl:xa.length=xb.length)
  (n:∀x∈xa,∃p,Hn xb x.1=some p/\F3 A s x.2.2 p.2 true)(h:Q true s):wpAny (model prog w) A (Ng nm a b) Q E s:=by
 obtain⟨oa,m,ep,c,_,d,o,v,hna⟩:=da;obtain⟨ob,y,ep',g,_,k,l,z,t⟩:=db;have hla:=Gx o;have hlb:=Gx l;unfold Ng Hl;rw[if_neg (show¬(a==sysModules)=true by rw[U];exact Ba),if_neg (show¬(b==sysModules)=true by rw[Y];exact Ba)];refine Aa (Ab (Aa (Ab ?_)));refine Aa (B3 c d ?_);dsimp only;refine Aa (B3 g k ?_);have C:m.size=y.size:=by lia
 rw[if_neg (by rw[C];simp)];refine Aa (Eu c d ?_);refine Aa ?_;rw[Ft];simp only[Jf,K9,Nat.add_sub_cancel,Nat.div_one];refine D3 _ (λrest q H=>H=s/\q=(none,())/\∀i∈rest,i<m.size) _ ?_ ?_ _ _ ⟨rfl,rfl,λi I=>by simpa using I⟩
 .rintro x rest q H ⟨rfl,rfl,e⟩;have u:x<m.size:=e x Br;have f:x<xa.length:=by lia
  refine Aa (B3 c d ?_);rw[Bo u];have he:m[x]=entryOfKey knd xa[x]:=by
   have:=Qh o x;rw[Bo u,Af f]at this;exact Bh this
  have L:xa[x]∈xa:=Fw f;obtain⟨p,hp,hv⟩:=n _ L;show wpAny _ _ (holding [m[x].key,m[x].val] _>>=_) _ _ _;rw[he];refine Aa (Bj (Aa (Tu hu (v _ L) g k l z t ?_ ?_)))
  .intro J;rw[N7 J]at hp;exact nomatch hp
  .intro j r N;rw[atKey_of_get t N]at hp;cases hp;refine Aa (B3 g k ?_);rw[Qh l j,N];refine Bj (hv prog w _ _ ?_);show wpAny _ _ (if(!true)=true then _ else _) _ _ _;rw[if_neg (by decide)];refine Aa (Eu c d ?_);rw[if_neg (by simp)];exact Ab ⟨rfl,rfl,λi I=>e i (A7 _ I)⟩
 .rintro q H ⟨rfl,rfl,_⟩;exact Ab h
def neH{Q:Value->Shared->Prop}(f:(a==sysModules)=false)(g:(b==sysModules)=false)(i:A.units<Dc)(j:knd.room A.in1)(d:s.heap.DictOfH knd a xa)(e:s.heap.DictOfH knd b xb)(k:xa.length=xb.length)
  (c:∀x∈xa,∃p,Hn xb x.1=some p/\F3 A.in1 s x.2.2 p.2 true)(h:Q (.bool false) s):wpAny (model prog w) A (Ei .NotEq (.ref a) (.ref b)) Q E s:=by
 refine J1 (op:=.NotEq) d.typeIs e.typeIs Pw (Bp Pw d.typeIs PySem.F.entry_dict_ne ?_ (PySem.F.args_dict_ne_2 _ _)) i;show wpAny _ _ (Ms "__ne__" ⟨[.ref a,.ref b],[]⟩>>=_) _ _ s;refine Aa ?_;unfold Ms;refine Aa (Ff d.typeIs ?_);show wpAny _ _ (pure (As a,As b)) _ _ s;refine Ab ?_;refine Aa (Eh (T:="dict") e.typeIs PySem.F.sub_dict_dict ?_);simp only[Dm,Az,if_false];refine Aa (Ab (Aa (Ab ?_)));refine Aa (Wbg f g j d e k c ?_);refine Ab ⟨_,rfl,?_,?_⟩
 .exact λx=>nomatch x
 .simpa using h
end
end Rdc
namespace Rdu
open PySem PyProof.Rows PySem.W Rdc
abbrev PK:=Int×Int
def ltP(a b:PK):Bool:=LR.ltZ a.1 a.2 b.1 b.2
def Zz{a b:PK}:ltP a b=true↔a.1<b.1\/(a.1=b.1/\a.2<b.2):=by simp[ltP,LR.ltZ]
section
variable {prog:Program} {w:World} {A:Bi} {E:Value->Shared->Prop} {s:Shared}
abbrev IK2(prog:Program)(w:World)(h:Heap)(k:PK)(b:Addr):Prop:=U3 (intKind prog w) h [k.1,k.2] b
theorem Jd0{k:PK}{a:Array Value}(h:ItemsAre (intKind prog w) [k.1,k.2] a.toList):∃t u,a= #[.int k.1 t,.int k.2 u]:=by
 obtain⟨l⟩:=a;simp only at h;cases h with
 |cons c d=>
  cases d with
  |cons e b=>
   cases b;obtain⟨t,rfl⟩:=Jx c;obtain⟨u,rfl⟩:=Jx e;exact⟨t,u,rfl⟩
def Jo0{Q:Bool->Shared->Prop}(i:IK2 prog w s.heap k x)(j:IK2 prog w s.heap l y)(h:Q (ltP k l) s):wpAny (model prog w) A (keyLt' (tuples' b) (.ref x) (.ref y)) Q E s:=by
 obtain⟨v,z,n,o,_,p,r⟩:=i;obtain⟨C,H,m,g1,_,g2,g3⟩:=j;obtain⟨t,u,rfl⟩:=Jd0 r;obtain⟨I,J,rfl⟩:=Jd0 g3;have e:∀(c:Bool) {a d:Int} {t u:Tok} {Q:Bool->Shared->Prop},Q (decide (a<d)) s->wpAny (model prog w) A (oneLt' c (.int a t) (.int d u)) Q (λ_ _=>False) s:=λc {a d t u Q} h=>by
  cases c with
  |true=>exact oneLt_int h
  |false=>exact kat_one _ _ (show wpAny (model prog w) A (Ta .Lt (.int a t) (.int d u)) _ _ s from LR.int_lt h)
 refine kat_lt o p g1 g2 (Te (Je ?_))
 by_cases f:k.1=l.1
 .rw[f,beq_self_eq_true];refine Vk (Te (Je ?_))
  by_cases g:k.2=l.2
  .rw[g,beq_self_eq_true];refine Vk (kat_nil ?_);have:ltP k l=false:=by simp[ltP,LR.ltZ,f,g]
   rw[this]at h;exact h
  .rw[beq_eq_false_iff_ne.mpr g];refine kat_no (e _ ?_);have:ltP k l=decide (k.2<l.2):=by simp[ltP,LR.ltZ,f]
   rw[this]at h;exact h
 .rw[beq_eq_false_iff_ne.mpr f];refine kat_no (e _ ?_);have:ltP k l=decide (k.1<l.1):=by simp[ltP,LR.ltZ,f]
  rw[this]at h;exact h
def IK2.keep{h h':Heap}(x:IK2 prog w h k b)(e:∀o,h.get? b=some o->h'.get? b=some o):IK2 prog w h' k b:=by
 obtain⟨o,a,n,c,r⟩:=x;exact⟨o,a,n,e o c,r⟩
def Jki{pk:Value->PK}{vs:List Value}{Q:Hg->Shared->Prop}(j:0<vs.length)(a:∀v∈vs,∃b,v=.ref b/\IK2 prog w s.heap (pk v) b)(h:Q (tuples' true) s):wpAny (model prog w) A (keyKind' vs.toArray) Q E s:=by
 have:∀vs:List Value,(∀v∈vs,∃b,v=.ref b/\IK2 prog w s.heap (pk v) b)->∃c,KatTups s.heap vs c/\c.length=vs.length/\∀f∈c,∃i t,f=Eb i t:=by
  intro vs
  induction vs with
  |nil=>intro _;exact⟨[],trivial,rfl,nofun⟩
  |cons v vs k=>
   intro a;obtain⟨c,d,g,e⟩:=k λv h=>a v (.tail _ h);obtain⟨b,rfl,o,l,n,g1,g2,g3,g4⟩:=a v (.head _);obtain⟨t,u,rfl⟩:=Jd0 g4;refine⟨_::c,Tf g1 g2 g3 rfl d,by simp[g],λf hf=>?_⟩;rcases Am.mp hf with rfl|hf
   .exact⟨_,_,rfl⟩
   .exact e f hf
 obtain⟨c,d,g,e⟩:=this vs a;refine kat_kind (T:=.type "int") d (by lia) (λv a=>?_) (by decide) (by rw[show(Ej "int" !=Ej "tuple")=true by decide];exact h);obtain⟨i,t,rfl⟩:=e v a;exact .now
noncomputable def rkP(p:PK):Int:=4*p.1+p.2
def Sm(ps:List PK):Prop:=(∀p∈ps,0<=p.2/\p.2<4)/\ps.Nodup
def Jn7{k l:PK}(a:0<=k.2/\k.2<4)(b:0<=l.2/\l.2<4)(h:rkP k=rkP l):k=l:=by unfold rkP at h;exact Ol (by omega) (by omega)
def Jq4{k l:PK}(a:0<=k.2/\k.2<4)(b:0<=l.2/\l.2<4):ltP k l=decide (rkP k<rkP l):=by
 refine Lb.mpr (Zz.trans ?_);rw[decide_eq_true_iff];unfold rkP;omega
theorem Jei{c d:Type}{R:c->d->Prop}:∀{xs:List c} {ys:List d},xs.length=ys.length->(∀(i:Nat) (x:c) (y:d),xs[i]? =some x->ys[i]? =some y->R x y)->Paired R xs ys
 |[],[],_,_=>.nil
 |x::xs,y::ys,e,h=>.cons (h 0 x y rfl rfl) (Jei (by simpa using e) λi a b p q=>h (i+1) a b p q)
theorem Jcl{g i:Type}{R:g->i->Prop}{xs c:List g}{ys:List i}(h:Paired R xs ys)(p:c.Perm xs):∃d,d.Perm ys/\Paired R c d:=by
 induction p generalizing ys with
 |nil=>exact⟨ys,.refl _,h⟩
 |cons x p j=>
  cases h with
  |cons a t=>
   obtain⟨zs,q,r⟩:=j t;exact⟨_::zs,q.cons _,.cons a r⟩
 |swap x y l=>
  cases h with
  |cons a t=>
   cases t with
   |cons b t=>exact⟨_,.swap _ _ _,.cons b (.cons a t)⟩
 |trans o u e f=>
  obtain⟨zs,q,r⟩:=f h;obtain⟨k,m,n⟩:=e r;exact⟨k,m.trans q,n⟩
theorem Jfg{b c d:Type}{R:b->c->Prop}{f:b->d}{g:c->d}(k:∀x y,R x y->f x=g y){xs:List b}{ys:List c}(h:Paired R xs ys):xs.map f=ys.map g:=by
 induction h with
 |nil=>rfl
 |cons a t e=>rw[Ax,Ax,k _ _ a,e]
theorem Jej{b c:Type}{R:b->c->Prop}{xs:List b}{ys:List c}(h:Paired R xs ys):Paired (λy x=>R x y) ys xs:=by
 induction h with
 |nil=>exact .nil
 |cons a t d=>exact .cons a d
theorem Jek{b a:Type}{R:b->a->Prop}{xs:List b}{ys:List a}(h:Paired R xs ys):∀{i:Nat} {y:a},ys[i]? =some y->∃x,xs[i]? =some x/\R x y:=by
 induction h with
 |nil=>intro i y e;simp at e
 |cons h _ c=>
  intro i y e;cases i with
  |zero=>cases e;exact⟨_,rfl,h⟩
  |succ i=>simp only[Bq]at e ⊢;exact c e
theorem Jil:∀{vs:List Value},(∀v∈vs,∃b,v=.ref b)->∃bs:List Addr,vs=bs.map As
 |[],_=>⟨[],rfl⟩
 |v::vs,h=>by
  obtain⟨bs,rfl⟩:=Jil λv z=>h v (.tail _ z);obtain⟨b,rfl⟩:=h v (.head _);exact⟨b::bs,rfl⟩
def Sm.ne{ps:List PK}(h:Sm ps){i j:Nat}{p q:PK}(b:i<j)(g:ps[i]? =some p)(l:ps[j]? =some q):rkP p≠rkP q:=λe=>by
 obtain⟨d,rfl⟩:=Ae.mp g;obtain⟨f,rfl⟩:=Ae.mp l;exact Dj.mp h.2 i j d f b (Jn7 (h.1 _ (Fw d)) (h.1 _ (Fw f)) e)
theorem Ji9:∀l:List Value,l.zip l=l.map λv=>(v,v)
 |[]=>rfl
 |v::l=>by rw[Mj,Ji9 l];rfl
def Jnv(l:List Value):((l.toArray.zip l.toArray).map (·.2))=l.toArray:=by
 apply Si.mp;simp[List.map_snd_zip]
theorem Jyf{R:Value->Value->Prop}:∀{vs:List Value},vs.length<2->vs.Pairwise R
 |[],_=>.nil
 |[_],_=>by simp
 |_::_::_,h=>by simp at h;lia
def Jje(rk:Value->Int){vs:List Value}{P:PySem.Fin->Shared->Prop}(p:s.heap.get? a=some (seqObj "list" vs.toArray n))(hz:vs.length<sizeLine)
  (k:∀c:Heap,(∀b o,b≠a->s.heap.get? b=some o->c.get? b=some o)->2<=vs.length->∀Q:Hg->Shared->Prop,Q κ {s with heap:=c}->wpAny (model prog w) A (keyKind' vs.toArray) Q E {s with heap:=c})
  (t:∀c:Heap,(∀b o,b≠a->s.heap.get? b=some o->c.get? b=some o)->∀x∈vs,∀y∈vs,∀Q:Bool->Shared->Prop,Q (decide (rk x<rk y)) {s with heap:=c}->wpAny (model prog w) A (keyLt' κ x y) Q (λ_ _=>False) {s with heap:=c})
  (hd:vs.Pairwise λx y=>rk x≠rk y)
  (h:∀i:List Value,i.Perm vs->i.Pairwise (λx y=>rk x<=rk y)->P (.done (.ret .none)) {s with heap:=sortedHeap s.heap a vs i.toArray}):wpAny (model prog w) A (Builtin.«list.sort» ⟨[.ref a],[]⟩) P E s:=by
 rw[list_sort_plain];have N:a<s.heap.objs.size:=An p;refine Aa (listItems_at p rfl (Aa (Q6 p rfl ?_ (by simp;lia) (by simp))));obtain⟨u,l⟩:∃u,(s.heap.update a (D7 λ_=> #[])).get? a=some (seqObj "list" #[] u):=⟨_,get?_update_seq p (λ_=> #[])⟩
 refine Aa (Tj l rfl (Aa (Qd ?_ (by show vs.length<=_;lia))));refine Aa (Nd ?_ (Dg _));refine Bj ?_;obtain⟨c,r⟩:∃c,c=((s.heap.update a (D7 λ_=> #[])).push (seqObj "tuple" vs.toArray 0)).push (seqObj "list" #[] 0):=⟨_,rfl⟩
 have C:∀{b:Addr} {o:Obj},b≠a->s.heap.get? b=some o->c.get? b=some o:=λ{b o} H e=>by
  rw[r];exact Ad _ (Ad _ ((Heap.get?_update_ne _ _ _ _ H).trans e))
 have d:c.get? a=some (seqObj "list" #[] u):=by rw[r];exact Ad _ (Ad _ l)
 have Y:∀j:Array Value,c.update a (D7 λ_=>j)=sortedHeap s.heap a vs j:=λj=>by rw[r];rfl
 show wpAny (model prog w) A _ P E {s with heap:=((s.heap.update a (D7 λ_=> #[])).push (seqObj "tuple" vs.toArray 0)).push (seqObj "list" #[] 0)};rw[<-r];dsimp only;have hsz:vs.toArray.size=vs.length:=by simp
 have g:∀b o,b≠a->s.heap.get? b=some o->c.get? b=some o:=λb o H e=>C H e
 by_cases m:vs.toArray.size<2
 .rw[if_pos m,if_pos m];refine Aa (Ab ?_);rw[StateT.run_pure];refine Aa (Ab ?_);dsimp only;rw[show(arrOf (F1 general' (vs.toArray.zip vs.toArray) #[] 7 none)).map (·.2)=vs.toArray from Jnv vs];refine Aa (Tj d rfl (Aa (Q6 d rfl ?_ (Dg _) (by show vs.toArray.size<=_;lia))));simp only[bne_self_eq_false,Az,if_false];refine Ab ?_;show P _ {s with heap:=c.update a (D7 λ_=>vs.toArray)};rw[Y];exact h vs (.refl _) (Jyf (by simpa using m))
 .rw[if_neg m,if_neg m];refine Aa (k c g (by lia) _ ?_);have e0:vs.toArray.zip vs.toArray=(vs.map λv=>(v,v)).toArray:=by apply Si.mp;simp[Ji9]
  refine Aa (Ce (Srt.Jrt (rk:=λz=>rk z.1) (U:=λz=>z.1∈vs) (L0:=vs.map λv=>(v,v)) (st:=F1 κ (vs.toArray.zip vs.toArray) #[] 7 none)
   (Q:=λ_ f=>∃L:List Keyed,arrOf f=L.toArray/\failedOf f=none/\L.Perm (vs.map λv=>(v,v))/\Srt.SL (λz=>rk z.1) L) (λx y I J Q q=>t c g _ I _ J Q q) (λz hz=>by obtain⟨v,hv,rfl⟩:=Bd.mp hz;exact hv) (Ct.mpr hd) e0 rfl rfl rfl λf L a1 a2 a3 a4=>⟨L,a1,a2,a3,a4⟩) ?_ λ_ _ e=>e)
  rintro⟨⟨⟩,f⟩ s' ⟨rfl,L,N,hf,pm,sl⟩;have eL:∀z∈L,z.2=z.1:=λz hz=>by
   obtain⟨v,_,rfl⟩:=Bd.mp (pm.mem_iff.mp hz);rfl
  have pv:(L.map (·.2)).Perm vs:=by
   have:=pm.map (·.2);rwa[B6,show((λz:Keyed=>z.2)∘λv=>(v,v))=id from rfl,List.map_id]at this
  have lv:=pv.length_eq;dsimp only;rw[N,List.map_toArray];refine Aa (Tj d rfl (Aa (Q6 d rfl ?_ (Dg _) (by show(L.map (·.2)).toArray.size<=_;rw[Aq];lia))));rw[hf];simp only[bne_self_eq_false,Az,if_false];refine Ab ?_;show P _ {s with heap:=c.update a (D7 λ_=>(L.map (·.2)).toArray)};rw[Y];exact h _ pv (Ct.mpr (sl.imp_of_mem λ{x y} I J h=>by rw[eL x I,eL y J];exact h))
def Jm1{Pi:Nat->Value->Prop}{f:Heap->Prop}{R:Mq->Shared->Prop}(K:KdlSrc prog w T r d n Pi f)(g:A.handled=none)(e:f s.heap)(i:n<=sizeLine)(j:S≠r)(k:S≠d)(l:s.heap.get? S=some {cls:=.type "list",data:=.seq #[] 0})
  (h:∀h' tk a c,(∀b o,b≠S->s.heap.get? b=some o->h'.get? b=some o)->h'.get? S=some {cls:=.type "list",dict:=none,data:=.seq a c,slots:= #[]}->ItemsOf Pi a n->R (.ok (.ret (.ref S))) {s with heap:=h',toks:=tk}):
  Hk (model prog w) A (.builtin "list.__iadd__" ⟨[.ref S,.ref r],[]⟩) R s:=by
 refine Dw entry_list_iadd' ?_;rw[C9 (show plainId "list.__iadd__"=true by decide+kernel) _];exact kdl_extend (R:=R) K g e S j k (.ref S) 0 l h i
def Ji3{Pi:Nat->Value->Prop}{j:Heap->Prop}{Q:List Value->Shared->Prop}(K:KdlSrc prog w T r d n Pi j)(k:A.handled=none)(f:j s.heap)(l:n<=sizeLine)
  (h:∀h' tk (a:Array Value),(∀b o,s.heap.get? b=some o->h'.get? b=some o)->h'.objs.size≥s.heap.objs.size->ItemsOf Pi a n->Q a.toList {s with heap:=h',toks:=tk}):wpAny (model prog w) A (collect (.ref r)) Q E s:=by
 unfold collect;refine Aa (Qc (Dw Tn ?_));show wpAny _ _ (do again (.builtin "list.__iadd__" ⟨[<-newList [],.ref r],[]⟩)) _ _ s;have m:(s.heap.push (seqObj "list" #[] 0)).get? s.heap.objs.size=some (seqObj "list" #[] 0):=Ak _ rfl;obtain⟨p,ld⟩:=K.there _ f;refine Aa (Nd (Ab ⟨Rq _ (by decide+kernel),Jm1 (s:={s with heap:=s.heap.push (seqObj "list" #[] 0)}) K k (K.keep _ _ f λb _ o e=>Ad _ e) l (Cy p) (Cy ld) m
  λh' tk a c t g u=>?_⟩))
 have i:∀b o,s.heap.get? b=some o->h'.get? b=some o:=λb o e=>t b o (Ay (An e)) (Ad _ e);show wpAny (model prog w) A (do
   let o<-load s.heap.objs.size
   match o.data with
   |.seq v _=>pure v.toList
   |_=>unsupported "internal:collect") Q E {s with heap:=h',toks:=tk}
 refine Aa (Nm g ?_);exact Ab (h h' tk a i (Ex (An g)) u)
def Je2(rk:Value->Int){Pi:Nat->Value->Prop}{OK:Heap->Prop}{Q:Value->Shared->Prop}(K:KdlSrc prog w T r d n Pi OK)(hh:A.handled=none)(N:OK s.heap)(hn:n<sizeLine)
  (C:∀(vs:List Value) (k:Heap) (t:Nat),vs.length=n->(∀(i:Nat) (v:Value),vs[i]? =some v->Pi i v)->(∀b o,s.heap.get? b=some o->k.get? b=some o)->2<=n->∀(A':Bi) (E':Value->Shared->Prop) (Q:Hg->Shared->Prop),Q κ {s with heap:=k,toks:=t}->wpAny (model prog w) A' (keyKind' vs.toArray) Q E' {s with heap:=k,toks:=t})
  (U:∀(k:Heap) (t:Nat),(∀b o,s.heap.get? b=some o->k.get? b=some o)->∀(i j:Nat) (x y:Value),Pi i x->Pi j y->∀(A':Bi) (Q:Bool->Shared->Prop),Q (decide (rk x<rk y)) {s with heap:=k,toks:=t}->wpAny (model prog w) A' (keyLt' κ x y) Q (λ_ _=>False) {s with heap:=k,toks:=t})
  (hd:∀(i j:Nat) (x y:Value),Pi i x->Pi j y->i<j->rk x≠rk y)
  (h:∀(h':Heap) (tk:Nat) (l:Addr) (c:Nat) (vs g:List Value),(∀b o,s.heap.get? b=some o->h'.get? b=some o)->s.heap.objs.size<=l->h'.get? l=some (seqObj "list" g.toArray c)->vs.length=n->(∀(i:Nat) (v:Value),vs[i]? =some v->Pi i v)->g.Perm vs->g.Pairwise (λx y=>rk x<=rk y)->
   Q (.ref l) {s with heap:=h',toks:=tk}):
  wpAny (model prog w) A (call (.builtin "sorted") [.ref r]) Q E s:=by
 refine Oj kind_sorted plain_sorted entry_sorted (args_sorted1 _) ?_;unfold Builtin.«sorted»;refine Aa (m:=checkCount "sorted" 1 1 _) (Ab ?_);refine Aa (Ji3 K (by simp[hh]) N (Ex hn) λh' tk a kp H it=>?_);have f:a.toList.length=n:=by rw[Bs];exact it.1
 have p:∀(i:Nat) (v:Value),a.toList[i]? =some v->Pi i v:=λi v e=>it.2 i v (by rw[<-Bn];exact e);refine Aa (Nd ?_ (by rw[f];lia));have Y:(h'.push (seqObj "list" a.toList.toArray 0)).get? h'.objs.size=some (seqObj "list" a.toList.toArray 0):=Ak _ rfl;have u:∀b o,s.heap.get? b=some o->b≠h'.objs.size/\(h'.push (seqObj "list" a.toList.toArray 0)).get? b=some o:=λb o e=>
  ⟨Ay (Bl (An e) H),Ad _ (kp b o e)⟩
 have I:∀v∈a.toList,∃i,Pi i v:=λv hv=>by
  obtain⟨i,J⟩:=C4.mp hv;exact⟨i,p i v J⟩
 refine Aa (Bj (Bp P6 ⟨_,Y,rfl⟩ Px (Jje rk (s:={s with heap:=h'.push (seqObj "list" a.toList.toArray 0),toks:=tk}) (κ:=κ) Y (by rw[f];exact hn)
  (λk L z Q q=>C _ k tk f p (λb o e=>L b o (u b o e).1 (u b o e).2) (by lia) _ _ Q q) (λk L x hx y hy Q q=>?_) ?_ λg pm sl=>⟨_,rfl,?_⟩) (args_list_sort _)))
 .obtain⟨i,J⟩:=I x hx;obtain⟨j,hj⟩:=I y hy;exact U k tk (λb o e=>L b o (u b o e).1 (u b o e).2) i j x y J hj _ Q q
 .exact Dj.mpr λi j J hj hij=>hd i j _ _ (p i _ (Af J)) (p j _ (Af hj)) hij
 obtain⟨c,hc⟩:=sortedHeap_at (out:=g.toArray) Y;refine Ab ⟨_,rfl,h _ _ _ c a.toList g (λb o e=>?_) H hc f p pm sl⟩;obtain⟨L,k2⟩:=u b o e;rw[sortedHeap_old L (An k2)];exact k2
end
noncomputable def itO(a:Value)(f:Bool)(d:Addr)(i n ep:Nat)(b c:Value):Obj:={cls:=.type "dict_itemiterator",dict:=none,data:=.fields #[a,.bool f,.ref d,.int i 0,.int n 0,.int ep 0,b,c],slots:= #[]}
inductive ItSt (h:Heap) (it d:Addr) (i n ep:Nat):Prop
 |mk (own f ok ov) (_:h.get? it=some (itO own f d i n ep ok ov)) (_:(own=.none\/∃(a:Nat) (oa:Obj),own=rawInt a/\h.get? a=some oa/\a≠it)):ItSt h it d i n ep
section
variable {prog:Program} {w:World} {A:Bi} {E:Value->Shared->Prop} {s:Shared} {it d:Addr} {es:Array Cc} {ep i:Nat}
def next_item{Q:Option Value->Shared->Prop}(hst:ItSt s.heap it d i es.size ep)(hm:Raw s.heap d es ep)(hi:i<es.size)
  (hQ:∀h',ItSt h' it d (i+1) es.size ep->h'.get? s.heap.objs.size=some {cls:=.type "tuple",data:=.seq #[es[i].key,es[i].val]}->h'.objs.size=s.heap.objs.size+1->
   (∀b o,b≠it->s.heap.get? b=some o->h'.get? b=some o)->Q (some (.ref s.heap.objs.size)) {s with heap:=h'}):wpAny (model prog w) A (pyNext (.ref it)) Q E s:=by
 obtain⟨hp,g,dr,tk,os⟩:=s;obtain⟨own,f,ok,ov,L,hown⟩:=hst;obtain⟨od,hod,_,hdd⟩:=hm;have U:Fg ⟨hp,g,dr,tk,os⟩ (.ref it) "dict_itemiterator":=⟨_,L,rfl⟩
 unfold pyNext;refine Aa (E6 (By (name:=Ac "__next__") U Dk (Bp Dk U Lj ?_ (Lc _))));refine Aa (Ab (Aa (Aa ?_)))
 first|refine Aa (F9 U (Ab ?_))|refine Aa (Hm U (Ab ?_))
 refine Aa (Mm L rfl ?_);rw[if_pos (show Cm "dict_itemiterator"=true by decide)];show wpAny _ _ (if(As d==Cv)=true then _ else _) _ _ _;rw[if_neg (show¬((As d==Cv)=true)from Ba)];refine Aa (Ab (Aa (B3 hod hdd ?_)));rw[if_neg (by simp)];refine Aa (Ab (Aa (Eu hod hdd ?_)));rw[if_neg (by simp)];refine Ab ?_;dsimp only;rw[if_neg (show¬((i:Int)<0) by lia),Em,Bo hi];refine Aa ?_
 first|refine Aa (F9 U (Ab ?_))|refine Aa (Hm U (Ab ?_))
 refine Aa (Lr U ?_);show wpAny _ _ (Sy (.ref it) 3 (rawInt ((i:Int)+1))>>=_) _ _ ⟨hp,g,dr,tk,os⟩;refine Aa (C0 L (by simp) λk n p=>?_)
 replace p:Di it hp k:=p
 replace n:k.get? it=some (itO own f d (i+1) es.size ep ok ov):=by
  unfold itO;rw[show((i+1:Nat):Int)=(i:Int)+1 by lia];simpa [rawInt]using n
 have H:Fg ⟨k,g,dr,tk,os⟩ (.ref it) "dict_itemiterator":=⟨_,n,rfl⟩
 refine Aa (Bj (Aa (Lr H (Aa (Lr H ?_)))));show wpAny _ _ (Ki (.ref it) 6 es[i].key es[i].val) _ _ ⟨k,g,dr,tk,os⟩;unfold Ki;refine Aa (Qd ?_);obtain⟨j,l⟩:∃j,j=k.push {cls:=.type "tuple",data:=.seq #[es[i].key,es[i].val]}:=⟨_,rfl⟩
 have c:j.get? it=some (itO own f d (i+1) es.size ep ok ov):=by rw[l];exact Ad _ n
 have u:k.objs.size=hp.objs.size:=p.1;have hil:hp.objs.size≠it:=Cy (An L);have I:j.get? hp.objs.size=some {cls:=.type "tuple",data:=.seq #[es[i].key,es[i].val]}:=by rw[l,<-u];exact Ak _ rfl
 have Y:j.objs.size=hp.objs.size+1:=by rw[l,Cq,u]
 have r:∀b o,b≠it->hp.get? b=some o->j.get? b=some o:=λb o hb e=>by rw[l];exact Ad _ (p.extBut b o hb e)
 have fin:∀(h:Heap) (t:Value) (f':Bool) (ok' ov':Value),h.get? it=some (itO t f' d (i+1) es.size ep ok' ov')->Di it j h->(t=.none\/∃(a:Nat) (N:Obj),t=rawInt a/\j.get? a=some N/\a≠it)->Q (some (.ref hp.objs.size)) ⟨h,g,dr,tk,os⟩:=λh t f' ok' ov' e₃ C o₃=>
  hQ h ⟨t,f',ok',ov',e₃,o₃.imp id λ⟨a,N,q1,q2,q3⟩=>⟨a,N,q1,C.extBut _ _ q3 q2,q3⟩⟩ (C.extBut _ _ hil I) (by show h.objs.size=hp.objs.size+1;rw[C.1,Y]) λb o hb e=>C.extBut b o hb (r b o hb e)
 show wpAny _ _ (Jv (.ref it)>>=_) _ _ ⟨k.push {cls:=.type "tuple",data:=.seq #[es[i].key,es[i].val]},g,dr,tk,os⟩;rw[<-l,u];refine Aa ?_;unfold Jv;rcases hown with rfl|⟨a,N,rfl,ha,J⟩
 .refine Aa (Cj c rfl (x:=.none) rfl (Ab ?_));simp only[if_true];refine Aa (Cj c rfl (x:=ok) rfl (Aa (Cj c rfl (x:=ov) rfl ?_)));refine Aa (C0 c (by simp) λh m v=>?_)
  replace m:h.get? it=some (itO .none f d (i+1) es.size ep es[i].key ov):=m
  refine Aa (C0 m (by simp) λh₄ y hs₄=>?_)
  replace y:h₄.get? it=some (itO .none f d (i+1) es.size ep es[i].key es[i].val):=y
  refine Aa (C0 y (by simp) λh₅ z hs₅=>?_)
  replace z:h₅.get? it=some (itO (rawInt hp.objs.size) f d (i+1) es.size ep es[i].key es[i].val):=z
  refine Aa (C0 z (by simp) λh₆ he₆ hs₆=>?_);exact Aa (O8 (Ab (Ab ⟨_,rfl,Ab (fin h₆ _ false _ _ he₆ (((v.trans hs₄).trans hs₅).trans hs₆) (.inr ⟨_,_,rfl,I,hil⟩))⟩)))
 .refine Aa (Cj c rfl (x:=rawInt a) rfl ?_);show wpAny _ _ (loadIfAlive ((a:Int).toNat)>>=_) _ _ _;rw[Em];refine Aa (kdx_alive (r a N J ha) ?_);simp only[Qu,Az,if_false];refine Aa (Cj c rfl (x:=.bool f) rfl ?_);cases f with
  |true=>
   rw[if_neg (show¬((Jj true !=Jj true)=true)from Ba)];refine Ab ?_;simp only[Az,if_false];exact Ab (Ab ⟨_,rfl,Ab (fin j _ _ _ _ c (O0 _ _) (.inr ⟨a,N,rfl,r a N J ha,J⟩))⟩)
  |false=>
   rw[if_pos (show(Jj false !=Jj true)=true from rfl)];refine Aa (C0 c (by simp) λh m v=>?_);refine Ab ?_;simp only[Az,if_false];exact Ab (Ab ⟨_,rfl,Ab (fin h _ true _ _ m v (.inr ⟨a,N,rfl,r a N J ha,J⟩))⟩)
def Jpr{Q:Option Value->Shared->Prop}(k:A.handled=none)(j:ItSt s.heap it d i es.size ep)(l:Raw s.heap d es ep)(n:es.size<=i)
  (o:∀h',Qs it s.heap h'->Q none {s with heap:=h'}):wpAny (model prog w) A (pyNext (.ref it)) Q E s:=by
 obtain⟨p,f,r,t,c,_⟩:=j;obtain⟨u,g,_,h⟩:=l;have e:s.TypeIs (.ref it) "dict_itemiterator":=⟨_,c,rfl⟩
 unfold pyNext;refine Aa (E6 (By (name:=Ac "__next__") e Dk (Bp Dk e Lj ?_ (Lc _))));refine Aa (Ab (Aa (Aa ?_)))
 first|refine Aa (F9 e (Ab ?_))|refine Aa (Hm e (Ab ?_))
 refine Aa (Mm c rfl ?_);rw[if_pos (show Cm "dict_itemiterator"=true by decide)];show wpAny _ _ (if(As d==Cv)=true then _ else _) _ _ s;rw[if_neg (show¬((As d==Cv)=true)from Ba)];refine Aa (Ab (Aa (B3 g h ?_)));rw[if_neg (by simp)];refine Aa (Ab (Aa (Eu g h ?_)));rw[if_neg (by simp)];refine Ab ?_;dsimp only;rw[if_neg (show¬((i:Int)<0) by lia),Em,Ky n];refine Aa ?_
 first|refine Aa (F9 e (Ab ?_))|refine Aa (Hm e (Ab ?_))
 show wpAny _ _ (Sy (.ref it) 2 .none>>=_) _ _ s;refine Aa (Km c rfl (by simp) ?_);show wpAny _ _ (R3 (.type "StopIteration") []>>=_) _ _ _;simp only[R3,newTuple];refine Aa (Aa (B8 ?_ (by size_fits)));refine Aa (m:=Im _ _) (O7 (a:=Cv) (by first|rfl|(simp only[Im];rfl)) ?_);refine B8 ?_ (by size_fits);simp only[raiseNew];refine Aa (Q1 ?_);rw[show A.in1.handled=none from k];refine Aa (Ab (Sw ?_));refine Aa (Eh (T:="StopIteration") (b:=true) ⟨_,Ak _ rfl,rfl⟩ Qf ?_);exact Ab (o _ (((Df ..).extBut.push _).push _))
end
noncomputable def Xa(e:Cc):Obj:={cls:=.type "tuple",data:=.seq #[e.key,e.val]}
structure ItG(es:Array Cc)(lo:Addr)(h:Heap)(as:List Addr):Prop where
 above:∀a∈as,lo<a
 pairs:∀(j:Nat) (a:Addr),as[j]? =some a->∃e,es[j]? =some e/\h.get? a=some (Xa e)
section
variable {prog:Program} {w:World} {A:Bi} {E:Value->Shared->Prop} {s:Shared} {r d:Addr} {es:Array Cc} {ep:Nat} {R:Mq->Shared->Prop}
def ItSt.keep{h h':Heap}(x:ItSt h it d i n ep)(k:h'.get? it=h.get? it)(g:∀b o,h.get? b=some o->∃c,h'.get? b=some c):ItSt h' it d i n ep:=by
 obtain⟨own,f,ok,ov,e,o⟩:=x;refine⟨own,f,ok,ov,k.trans e,o.imp id λ⟨a,oa,j,l,m⟩=>?_⟩;obtain⟨c,p⟩:=g a oa l;exact⟨a,c,j,p,m⟩
theorem Jkm(hh:A.handled=none)(J:S<I)(hSd:d≠S)(hId:d≠I)(hn:es.size<=sizeLine)(L:Value){h₁:Heap}
  (hR:∀h' f c as,(∀b o,b≠S->b≠I->h₁.get? b=some o->h'.get? b=some o)->h'.get? S=some {cls:=.type "list",dict:=none,data:=.seq f c,slots:= #[]}->as.length=es.size->ItG es I h' as->f.toList=as.map As->R (.ok (.ret L)) {s with heap:=h'}):
  ∀(k i:Nat) (h:Heap) (c:Nat) (f:Array Value) (as:List Addr),es.size-i=k->i<=es.size->ItSt h I d i es.size ep->Raw h d es ep->(∀b o,b≠S->b≠I->h₁.get? b=some o->h.get? b=some o)->
   h.get? S=some {cls:=.type "list",dict:=none,data:=.seq f c,slots:= #[]}->f.toList=as.map As->as.length=i->ItG es I h as->I<h.objs.size->
   Hk (model prog w) A (.builtin "list.extend.loop" ⟨[.ref S,.ref I,L],[]⟩) R {s with heap:=h}:=by
 have u:S≠I:=Ay J;intro k
 induction k with
 |zero=>
  intro i h c f as hk hi v hD g hS l n x y;refine Dw Nu ?_;rw[C9 E5 _];show wpAny _ A.in1 (pyNext (.ref I)>>=_) _ _ _;refine Aa (Jpr (s:={s with heap:=h}) (A:=A.in1) hh v hD (by lia) λh' he=>?_);refine Ab (hR h' f c as (λb o h1 N e=>he b o N (g b o h1 N e)) (he S _ u hS) (by lia) ⟨x.above,λj a p=>?_⟩ l);obtain⟨e,e1,e2⟩:=x.pairs j a p;exact⟨e,e1,he a _ (Cy (x.above a (Au p))) e2⟩
 |succ k ih=>
  intro i h c f as hk hi v hD g hS l n x y;have z:i<es.size:=by lia
  have Q:f.size=i:=by rw[<-Bs,l,Ah,n]
  refine Dw Nu ?_;rw[C9 E5 _];show wpAny _ A.in1 (pyNext (.ref I)>>=_) _ _ _;refine Aa (next_item (s:={s with heap:=h}) v hD z λh' U ht hz m=>?_);dsimp only at ht hz m ⊢;have Y:=m S _ u hS;have H:∀b o,b≠S->h'.get? b=some o->(h'.update S (D7 (·.push (As h.objs.size)))).get? b=some o:=λb o t e=>(Et _ _ (Ef t)).trans e;have hSl:S<h.objs.size:=An hS;have hS2:=C2 (D7 (·.push (As h.objs.size))) Y rfl;show wpAny _ A.in1 (updateSeq S (·.push (As h.objs.size))>>=_) _ _ _;refine Aa ?_;refine Po Y rfl (Ab ⟨Gz E5 _,ih (i+1) _ _ (f.push (As h.objs.size)) (as++[h.objs.size]) (by lia) z
   (U.keep (Et _ _ u) λb o e=>?_) (hD.keep λo e=>H d o hSd (m d o hId e))
   (λb o h1 N e=>H b o h1 (m b o N (g b o h1 N e))) hS2 (by rw[Hw,l,Fc];rfl) (by rw[Ap,n];rfl) ⟨?_,?_⟩ ?_⟩) (by rw[Q];lia) (by show(f.push (As h.objs.size)).size<=sizeLine+1;rw[Array.size_push,Q];lia)
  .by_cases t:b=S
   .subst t;exact⟨_,hS2⟩
   .exact⟨o,H b o t e⟩
  .intro a ha;rcases Bm.mp ha with ha|ha
   .exact x.above a ha
   .rw[Ar.mp ha];exact y
  .intro j b p;rcases Ie j as.length with h1|h1|h1
   .rw[A0 h1]at p;obtain⟨e,e1,e2⟩:=x.pairs j b p;have t:=x.above b (Au p);exact⟨e,e1,H b _ (Cy (Fm J t)) (m b _ (Cy t) e2)⟩
   .subst h1;have t:h.objs.size=b:=by simpa using p
    subst t;exact⟨es[i],by rw[n];exact Bo z,H _ _ (Cy hSl) ht⟩
   .have C:(as++[h.objs.size])[j]? =none:=Gm (by rw[Ap,C5];lia);rw[C]at p;cases p
  .have e:(h'.update S (D7 (·.push (As h.objs.size)))).get? h.objs.size=_:=H _ _ (Cy hSl) ht;exact Fm y (An e)
def Jkk{Q:Value->Shared->Prop}(b:s.heap.IsItemsView r d)(g:Raw s.heap d es ep)
  (h:Q (.ref s.heap.objs.size) {s with heap:=s.heap.push (itO .none false d 0 es.size ep .none .none)}):wpAny (model prog w) A (pyIter (.ref r)) Q E s:=by
 obtain⟨j,c,i,e⟩:=id b;obtain⟨o,f,k,a⟩:=id g;refine Ve b.typeIs M9 (Bp M9 b.typeIs PySem.F.entry_dict_items_iter ?_ (PySem.F.args_dict_items_iter_1 _));unfold Builtin.«dict_items.__iter__» Sq So;refine Aa (Ab (Aa (Aa (Cj c e (x:=.ref d) rfl (Ab (Aa ?_))))));refine Aa (B3 f a (Aa (Eu f a ?_)));simp only[show Cm "dict_itemiterator"=true by decide,if_true];refine B8 (Ab ⟨_,rfl,"dict_itemiterator",_,⟨_,Ak _ rfl,rfl⟩,Dk.lookup,?_⟩)
  (by simp only[sizeOk,Jw,Aq,Ap,Bb,Fe,Ig];lia)
 simpa [rawInt,itO,Jw]using h
inductive Got (s:Shared) (es:Array Cc) (res:Mq) (s':Shared):Prop
 |mk (h' acc c as) (_:res=.ok (.ret (.ref s.heap.objs.size))) (_:s'={s with heap:=h'}) (_:(∀b o,s.heap.get? b=some o->h'.get? b=some o)) (_:h'.get? s.heap.objs.size=some {cls:=.type "list",dict:=none,data:=.seq acc c,slots:= #[]}) (_:as.length=es.size) (_:ItG es s.heap.objs.size h' as) (_:acc.toList=as.map As):Got s es res s'
def Jgb{Q:List Value->Shared->Prop}(hh:A.handled=none)(hv:s.heap.IsItemsView r d)(hm:Raw s.heap d es ep)(hn:es.size<=sizeLine)
  (h:∀(h':Heap) (as:List Addr),(∀b o,s.heap.get? b=some o->h'.get? b=some o)->s.heap.objs.size<=h'.objs.size->as.length=es.size->ItG es s.heap.objs.size h' as->Q (as.map As) {s with heap:=h'}):
  wpAny (model prog w) A (collect (.ref r)) Q E s:=by
 have hr:r<s.heap.objs.size:=let⟨_,t,_⟩:=hv;An t;have hd:d<s.heap.objs.size:=let⟨_,t,_,_⟩:=hm;An t;unfold collect;refine Aa (Qc (Dw Tn ?_));rw[C9 PySem.F.plain_proto_collect _];show wpAny _ A.in1 (newList []>>=λl=>again (.builtin "list.__iadd__" ⟨[l,.ref r],[]⟩)) _ _ s;refine Aa (B8 ?_);refine Ab ⟨Gz Of _,Dw entry_list_iadd' ?_⟩;rw[C9 Of _];obtain⟨k,N⟩:∃k,k=s.heap.push {cls:=.type "list",data:=.seq ([]:List Value).toArray}:=⟨_,rfl⟩
 have u:k.get? s.heap.objs.size=some {cls:=.type "list",data:=.seq #[]}:=by rw[N];exact Ak _ rfl
 have U:∀b o,s.heap.get? b=some o->k.get? b=some o:=λb o e=>by rw[N];exact Ad _ e
 have v:k.IsItemsView r d:=let⟨o,t,x⟩:=hv;⟨o,U _ _ t,x⟩;have m:s.heap.objs.size<k.objs.size:=by rw[N,Cq];exact Dy _
 show wpAny _ A.in1 (Mc (.ref s.heap.objs.size) (.ref r) (.ref s.heap.objs.size)) _ _ {s with heap:=s.heap.push {cls:=.type "list",data:=.seq ([]:List Value).toArray}};rw[<-N];unfold Mc;refine Aa (Gn (T:="dict_items") (Tz (s:={s with heap:=k}) v) ?_);simp only[show Mz (.ref s.heap.objs.size) (.ref r)=false by simp[Mz,Cy hr],show(Ej "dict_items"==Ej "list")=false by decide,show(Ej "dict_items"==Ej "tuple")=false by decide,Bool.or_false,Az,if_false];refine Aa (Jkk (s:={s with heap:=k}) v (hm.keep λo e=>U _ _ e) ?_);have i:=Ad (itO .none false d 0 es.size ep .none .none) u;have z:∀(C:Heap) (n:Nat),(∀b o,b≠s.heap.objs.size->(k.push (itO .none false d 0 es.size ep .none .none)).get? b=some o->C.get? b=some o)->C.get? s.heap.objs.size=some {cls:=.type "list",data:=.seq #[] n}->
   Hk (model prog w) A (.builtin "list.extend.loop" ⟨[.ref s.heap.objs.size,.ref k.objs.size,.ref s.heap.objs.size],[]⟩) (Got s es) {s with heap:=C}:=λC n k2 g2=>by
  have hI:=k2 k.objs.size _ (Cy m) (Ak _ rfl);refine Jkm (S:=s.heap.objs.size) (I:=k.objs.size) (d:=d) (s:=s) (h₁:=s.heap) (es:=es) (ep:=ep) hh m (Ay hd) (Ay (Fm hd m)) hn _ (λh' f c as kp e l g q=>⟨h',f,c,as,rfl,rfl,λb o x=>kp b o (Ay (An x)) (Ay (Fm (An x) m)) x,e,l,⟨λa ha=>Fm m (g.above a ha),g.pairs⟩,q⟩)
   es.size 0 C n #[] [] (K9 _) (Dg _) ⟨.none,false,.none,.none,hI,.inl rfl⟩ (hm.keep λo e=>k2 d o (Ay hd) (Ad _ (U _ _ e))) (λb o Y _ e=>k2 b o Y (Ad _ (U _ _ e))) g2 rfl rfl
   ⟨(λ_ ha=>nomatch ha),(λj a hj=>by simp at hj)⟩ (An hI)
 refine Aa (Bj (kdx_hint (let⟨o,t,hc,_⟩:=v;⟨o,Ad _ t,hc⟩) ?_));have fin:∀(h':Heap) (f:Array Value) (c:Nat) (as:List Addr),(∀b o,s.heap.get? b=some o->h'.get? b=some o)->h'.get? s.heap.objs.size=some {cls:=.type "list",dict:=none,data:=.seq f c,slots:= #[]}->as.length=es.size->ItG es s.heap.objs.size h' as->f.toList=as.map As->
   wpAny (model prog w) A (load s.heap.objs.size>>=λo=>match o.data with|.seq xs _=>(pure xs.toList:Sem (List Value))|_=>unsupported "internal:collect") Q E {s with heap:=h'}:=λh' f c as hk H hl hG J=>by
  refine Aa (Nm H (Ab ?_));show Q f.toList _;rw[J];exact h h' as hk (Ex (An H)) hl hG
 refine wpAny_ite_split (λ_=>?_) (λ_=>Ab ⟨Gz E5 _,Gp (z _ 0 (λb o _ e=>e) i) ?_⟩)
 .refine Aa (Dn (Aa ?_));show wpAny _ _ (updateSeq s.heap.objs.size (·.push .none)>>=λ_=>updateSeq s.heap.objs.size (·.pop)) _ _ _;refine Aa (Po i rfl ?_);have p:=C2 (D7 (·.push Cv)) i rfl;refine Po (hz:=by seq_fits) p rfl ?_;have y:=C2 (D7 (·.pop)) p rfl;refine Ab ⟨Gz E5 _,Gp (z _ _ (λb o Y e=>(Et _ _ (Ef Y)).trans ((Et _ _ (Ef Y)).trans e)) y) ?_⟩;rintro q L ⟨h',f,c,as,rfl,rfl,a1,a2,a3,a4,a5⟩;exact fin h' f c as a1 a2 a3 a4 a5
 .rintro q L ⟨h',f,c,as,rfl,rfl,a1,a2,a3,a4,a5⟩;exact fin h' f c as a1 a2 a3 a4 a5
end
open PySem PySem.Spec PyProof.Rows PySem.F PySem.W Rdc
section
variable {prog:Program} {w:World} {A:Bi} {E:Value->Shared->Prop} {s:Shared} {r d:Addr} {es:Array Cc} {ep:Nat}
def IK2.tup{k:PK}(x:IK2 prog w h k b):∃t u,IsTup h b #[.int k.1 t,.int k.2 u]:=by
 obtain⟨o,a,n,c,e,f,g⟩:=x;obtain⟨t,u,rfl⟩:=Jd0 g;exact⟨t,u,o,c,e,n,f⟩
def eqv{Q:Bool->Shared->Prop}(h:Q true s):wpAny (model prog w) A (eqBool v v) Q E s:=by
 unfold eqBool;refine Bj ?_;rw[if_pos (beq_self_eq_true v)];exact Aa (Dn (Ab h))
def Jo1{e f:Cc}{Q:Bool->Shared->Prop}(j:A.units<Dc)(o:s.heap.get? x=some (Xa f))(p:s.heap.get? y=some (Xa e))(v:f.key=.ref b)(C:e.key=.ref c)
  (m:IK2 prog w s.heap l b)(n:IK2 prog w s.heap k c)(H:l=k->f=e)(h:Q (ltP l k) s):wpAny (model prog w) A (keyLt' (tuples' false) (.ref x) (.ref y)) Q (λ_ _=>False) s:=by
 refine kat_lt o rfl p rfl (Te ?_)
 by_cases a:l=k
 .cases H a;subst a;refine eqv (Vk (Te (eqv (Vk (kat_nil ?_)))));have:ltP l l=false:=by simp[ltP,LR.ltZ]
  rw[this]at h;exact h
 .have g:decide ([l.1,l.2]=[k.1,k.2])=false:=by
   rw[decide_eq_false_iff_not];exact λz=>a (by injection z with I i;injection i with i;exact Ol I i)
  obtain⟨t,u,J⟩:=m.tup;obtain⟨N,U,L⟩:=n.tup;rw[v,C];refine Ur (knd:=intKind prog w) j m n ?_;rw[g];exact kat_no (kat_one _ _ (LR.Jtx J L j h))
theorem Zn{h:Heap}:∀{as:List Addr} {n:Nat},(∀(j:Nat) (a:Addr),as[j]? =some a->∃e,es[n+j]? =some e/\h.get? a=some (Xa e))->(∀e∈es.toList,∃b,e.key=.ref b/\∃o,h.get? b=some o/\o.cls=.type "tuple")->
  ∃c,KatTups h (as.map As) c/\c.length=as.length/\∀f∈c,∃b,f=.ref b/\∃o,h.get? b=some o/\o.cls=.type "tuple"
 |[],_,_,_=>⟨[],trivial,rfl,λ_ h=>nomatch h⟩
 |a::as,n,hp,g=>by
  obtain⟨c,i,k,l⟩:=Zn (as:=as) (n:=n+1) (λj b e=>by rw[show n+1+j=n+(j+1) by lia];exact hp (j+1) b e) g;obtain⟨e,m,p⟩:=hp 0 a rfl;refine⟨e.key::c,Tf p rfl rfl rfl i,by simp[k],λf hf=>?_⟩;rcases Am.mp hf with rfl|hf
  .exact g e (Cu.mpr (Gh m))
  .exact l f hf
noncomputable def kyI(h:Heap)(v:Value):Value:=match v with
 |.ref a=>(match h.get? a with|some o=>(match o.data with|.seq b _=>b.getD 0 .none|_=>.none)|none=>.none)
 |_=>.none
theorem Jl7{h:Heap}{e:Cc}(q:h.get? a=some (Xa e)):kyI h (.ref a)=e.key:=by delta kyI;dsimp only;rw[q];rfl
def Jdt{pk:Value->PK}{Q:Value->Shared->Prop}(hh:A.handled=none)(hu:A.units+8<Dc)(H:s.heap.IsItemsView r d)(hm:Raw s.heap d es ep)(hz:es.size<sizeLine)
  (hk:∀e∈es.toList,∃b,e.key=.ref b/\IK2 prog w s.heap (pk e.key) b)(sm:Sm (es.toList.map λe=>pk e.key))
  (h:∀(h':Heap) (l:Addr) (c:Nat) (as:List Addr) (L:List Cc),(∀b o,s.heap.get? b=some o->h'.get? b=some o)->s.heap.objs.size<=l->h'.get? l=some (seqObj "list" (as.map As).toArray c)->L.Perm es.toList->L.Pairwise (λx y=>rkP (pk x.key)<=rkP (pk y.key))->
   Paired (λa e=>s.heap.objs.size<a/\a≠l/\h'.get? a=some (Xa e)) as L->Q (.ref l) {s with heap:=h'}):
  wpAny (model prog w) A (call (.builtin "sorted") [.ref r]) Q E s:=by
 refine Oj kind_sorted plain_sorted entry_sorted (args_sorted1 _) ?_;unfold Builtin.«sorted»;refine Aa (m:=checkCount "sorted" 1 1 _) (Ab ?_);refine Aa (Jgb (by simp[hh]) H hm (Ex hz) λh' as kp hsz hl N=>?_);have u:(as.map As).length=es.size:=by rw[Ah];exact hl
 refine Aa (Nd ?_ (by rw[u];lia));have ho:(h'.push (seqObj "list" (as.map As).toArray 0)).get? h'.objs.size=some (seqObj "list" (as.map As).toArray 0):=Ak _ rfl;have k:∀b o,h'.get? b=some o->b≠h'.objs.size/\(h'.push (seqObj "list" (as.map As).toArray 0)).get? b=some o:=λb o e=>
  ⟨Ay (An e),Ad _ e⟩
 have pr:Paired (λa e=>s.heap.objs.size<a/\h'.get? a=some (Xa e)) as es.toList:=Jei (by simpa using hl) λi a e ha he=>by
  obtain⟨q,C,I⟩:=N.pairs i a ha;rw[<-Bn,he]at C;cases C;exact⟨N.above a (Au ha),I⟩
 have mk:∀v∈as.map As,∃(i:Nat) (a:Addr) (e:Cc),v=.ref a/\es[i]? =some e/\h'.get? a=some (Xa e):=λv H=>by
  obtain⟨a,ha,rfl⟩:=Bd.mp H;obtain⟨i,U⟩:=C4.mp ha;obtain⟨e,C,I⟩:=N.pairs i a U;exact⟨i,a,e,rfl,C,I⟩
 have sk:∀{e:Cc},e∈es.toList->0<=(pk e.key).2/\(pk e.key).2<4:=λ{e} he=>sm.1 _ (Bd.mpr ⟨e,he,rfl⟩);have inj:∀{i j:Nat} {e Y:Cc},es[i]? =some e->es[j]? =some Y->pk e.key=pk Y.key->i=j:=λ{i j e Y} U hj h=>by
  have p:∀{i:Nat} {e:Cc},es[i]? =some e->(es.toList.map λe=>pk e.key)[i]? =some (pk e.key):=λ{i e} h=>by rw[Ao,Bn,h];rfl
  rcases Ie i j with q|q|q
  .exact absurd (congrArg rkP h) (sm.ne q (p U) (p hj))
  .exact q
  .exact absurd (congrArg rkP h.symm) (sm.ne q (p hj) (p U))
 refine Aa (Bj (Bp P6 ⟨_,ho,rfl⟩ Px (Jje (λv=>rkP (pk (kyI h' v))) (s:={s with heap:=h'.push (seqObj "list" (as.map As).toArray 0)}) (κ:=tuples' false) ho (by rw[u];exact hz)
  (λh1 k1 z Q q=>?kind) (λh1 k1 x hx y hy Q q=>?ans) ?dis λvs' pm sl=>⟨_,rfl,?fin⟩) (args_list_sort _)))
 case kind=>
  have J:∀b o,h'.get? b=some o->h1.get? b=some o:=λb o e=>k1 b o (k b o e).1 (k b o e).2;obtain⟨L,f1,f2,f3⟩:=Zn (es:=es) (h:=h1) (as:=as) (n:=0) (λj a e=>by
   obtain⟨q,C,I⟩:=N.pairs j a e;exact⟨q,by rw[Ew];exact C,J _ _ I⟩) λe he=>by
    obtain⟨b,eb,o,_,_,g1,g2,_⟩:=hk e he;exact⟨b,eb,o,J _ _ (kp _ _ g1),g2⟩
  refine kat_kind (s:={s with heap:=h1}) (T:=.type "tuple") f1 (by rw[f2,hl];lia) (λv H=>?_) (by decide) (by rw[show(Ej "tuple" !=Ej "tuple")=false by decide];exact q);obtain⟨b,rfl,o,g1,g2⟩:=f3 v H;exact λA' Q' E' s' kk qq=>Gn ⟨o,kk _ _ g1,g2⟩ qq
 case ans=>
  have J:∀b o,h'.get? b=some o->h1.get? b=some o:=λb o e=>k1 b o (k b o e).1 (k b o e).2;obtain⟨i,a,Y,rfl,g1,g2⟩:=mk x hx;obtain⟨j,b,e,rfl,g3,g4⟩:=mk y hy;have m1:=Cu.mpr (Gh g1);have m2:=Cu.mpr (Gh g3);obtain⟨b1,C,I⟩:=hk Y m1;obtain⟨b2,q3,q4⟩:=hk e m2;rw[Jl7 g2,Jl7 g4,<-Jq4 (sk m1) (sk m2)]at q;refine Jo1 (s:={s with heap:=h1}) (by simp;lia) (J _ _ g2) (J _ _ g4) C q3 (I.keep λo e=>J _ _ (kp _ _ e)) (q4.keep λo e=>J _ _ (kp _ _ e)) (λz=>?_) q;cases inj g1 g3 z;exact Bh (g1.symm.trans g3)
 case dis=>
  refine Ct.mpr (Dj.mpr λi j U hj hij z=>?_);obtain⟨e,g1,g2⟩:=N.pairs i _ (Af U);obtain⟨Y,g3,g4⟩:=N.pairs j _ (Af hj);rw[Jl7 g2,Jl7 g4]at z;exact Ay hij (inj g1 g3 (Jn7 (sk (Cu.mpr (Gh g1))) (sk (Cu.mpr (Gh g3))) z))
 case fin=>
  obtain⟨t,rfl⟩:=Jil (vs:=vs') λv H=>let⟨_,a,_,e,_⟩:=mk v (pm.mem_iff.mp H);⟨a,e⟩;have pa:t.Perm as:=by
   have:=pm.map λv=>match v with|As a=>a|_=>0
   simpa [B6,Bt]using this
  obtain⟨L,pf,pr'⟩:=Jcl pr pa;obtain⟨c,hc⟩:=sortedHeap_at (out:=(t.map As).toArray) ho;have old:∀b o,h'.get? b=some o->(sortedHeap (h'.push (seqObj "list" (as.map As).toArray 0)) h'.objs.size (as.map As) (t.map As).toArray).get? b=some o:=λb o e=>by
   rw[sortedHeap_old (k b o e).1 (An (k b o e).2)];exact(k b o e).2
  refine Ab ⟨_,rfl,h _ _ c t L (λb o e=>old b o (kp b o e)) hsz hc pf ?_ (Paired.mono (λa e q=>⟨q.1,(k _ _ q.2).1,old _ _ q.2⟩) pr')⟩;have em:=Jfg (f:=λa=>rkP (pk (kyI h' (.ref a)))) (g:=λe:Cc=>rkP (pk e.key)) (λa e q=>by rw[Jl7 q.2]) pr';have sl':=Ct.mp sl;have:=Ct (f:=λa=>rkP (pk (kyI h' (.ref a)))) (R:=(·<=·))|>.mpr sl';rw[em]at this;exact Ct.mp this
end
open PySem
def Jt9:typeLookup (.type "list") "keys"=pure none:=by rw[typeLookup_type,builtinLookup_eq_fast];kernel_rfl
section
variable {prog:Program} {w:World} {A:Bi} {E:Value->Shared->Prop} {s:Shared} {a:Addr} {xs:Array Value} {k:Nat}
def Jt3{Q:Option Value->Shared->Prop}(f:s.heap.get? a=some {cls:=.type "list",data:=.seq xs k})(j:A.handled=none)
  (h:∀h' tk,(∀b o,s.heap.get? b=some o->h'.get? b=some o)->Q none {s with heap:=h',toks:=tk}):wpAny (model prog w) A (getAttr? (.ref a) "keys") Q E s:=by
 obtain⟨hp,g,d,tk,os⟩:=s;have l:∀i:Shared,i.heap.get? a=some {cls:=.type "list",data:=.seq xs k}->i.TypeIs (.ref a) "list":=λ_ e=>⟨_,e,rfl⟩
 have m:Fg ⟨hp,g,d,tk,os⟩ (.ref a) "list":=⟨_,f,rfl⟩
 have p:=sub_AttributeError;have r:=Kw.lookup;have t:=Kw.bind (.ref a);have u:=am_list_getattr_none;unfold getAttr? getAttrBy? getAttrBy
 repeat (any_goals (first|assumption|((with_reducible show wpAny _ _ (call (Tx "list.__getattribute__") _ _) _ _ _);refine Qj Kw (l _ f) am_entry_list_getattribute (F.args_list_getattribute_2 _ _) (meets_getattribute_miss_list a xs k #[] "keys" _ Jt9 (by decide) (by size_fits)) ?_)|wp_step))
 refine⟨f,j,λh' n e c=>?_⟩;obtain⟨v,x,y⟩:=c.there;show wpAny _ _ (Uw _ _ _ _ _ _ _) _ _ _;unfold Uw
 repeat (any_goals (first|assumption|wp_step))
 exact h _ _ c.keeps
end
open PySem PyProof.Rows
def Jyi:entryFor table "dict.update.loop"=some Builtin.«dict.update.loop»:=entryFor_of_tree (by kernel_rfl)
def Jot:plainId "dict.update.loop"=true:=by decide+kernel
section
variable {prog:Program} {w:World} {K:Type} [DecidableEq K] {knd:Li prog w K} {A:Bi} {E:Value->Shared->Prop} {s:Shared} {R:Mq->Shared->Prop} {xs:List (K×Addr×Value)} {as:List Addr}
noncomputable def Z8(b:Addr)(v:Value):Obj:={cls:=.type "tuple",data:=.seq #[.ref b,v]}
def Prs(knd:Li prog w K)(h:Heap)(as:List Addr)(xs:List (K×Addr×Value)):Prop:=as.length=xs.length/\∀(j:Nat) (a:Addr) (x:K×Addr×Value),as[j]? =some a->xs[j]? =some x->h.get? a=some (Z8 x.2.1 x.2.2)/\knd.is h x.1 x.2.1
theorem Jnp(hh:A.handled=none)(hr:knd.room A.in1)(hz:xs.length<=sizeLine)(kk:∀{h h':Heap} {k:K} {b:Addr},knd.is h k b->(∀o,h.get? b=some o->h'.get? b=some o)->knd.is h' k b)
  (m:Prs knd s.heap as xs)(hn:(xs.map (·.1)).Nodup)(hl:s.heap.IsList l (as.map As).toArray)(hp:s.heap.get? p=none)(hi:s.heap.get? it=none)(t:p≠it)
  (hR:∀h' tk,(∀b o,s.heap.get? b=some o->h'.get? b=some o)->h'.DictOfH knd p xs->R (.ok (.ret .none)) {s with heap:=h',toks:=tk}):
  ∀(n i:Nat) (h:Heap) (tk:Nat),xs.length-i=n->i<=xs.length->(∀b o,s.heap.get? b=some o->h.get? b=some o)->h.IsListIter it l i->h.DictOfH knd p (xs.take i)->
   Hk (model prog w) A (.builtin "dict.update.loop" ⟨[.ref p,.ref it,rawInt i,.none],[]⟩) R {s with heap:=h,toks:=tk}:=by
 have f:∀b o,s.heap.get? b=some o->b≠p/\b≠it:=λb o e=>⟨(λq=>by rw[q,hp]at e;exact nomatch e),(λq=>by rw[q,hi]at e;exact nomatch e)⟩
 have J:∀h:Heap,(∀b o,s.heap.get? b=some o->h.get? b=some o)->h.IsList l (as.map As).toArray:=λh k=>let⟨o,e,r⟩:=hl;⟨o,k _ _ e,r⟩;intro n
 induction n with
 |zero=>
  intro i h tk hk hi' a u hD;refine Dw Jyi ?_;rw[C9 Jot _];show wpAny _ A.in1 (pyNext (.ref it)>>=_) _ _ _;refine Aa (Sj (s:={s with heap:=h,toks:=tk}) (A:=A.in1) hh u (J h a) (by simp[m.1];lia) λh' he=>?_);dsimp only;refine Aa (Ab (Ab (hR h' tk (λb o e=>he b o (f b o e).2 (a b o e)) ?_)));obtain⟨o,es,ep,q1,q2,q3,q4,q5,q6⟩:=hD;have ei:xs.take i=xs:=B9 (by lia);rw[ei]at q4 q5 q6;refine⟨o,es,ep,he p o t q1,q2,q3,q4,λx L=>?_,q6⟩;obtain⟨j,c⟩:=C4.mp L;have v:j<as.length:=by rw[m.1];exact(Ae.mp c).1
  exact kk (m.2 j _ x (Af v) c).2 λo' I=>he _ _ (f _ _ I).2 (a _ _ I)
 |succ n ih=>
  intro i h tk hk hi' a u hD;have N:i<xs.length:=by lia
  have Q:i<as.length:=by rw[m.1];exact N
  obtain⟨x,L⟩:∃x,xs[i]? =some x:=⟨_,Af N⟩
  obtain⟨g1,g2⟩:=m.2 i _ x (Af Q) L;refine Dw Jyi ?_;rw[C9 Jot _];show wpAny _ A.in1 (pyNext (.ref it)>>=_) _ _ _;refine Aa (Rz (s:={s with heap:=h,toks:=tk}) (A:=A.in1) u (J h a) (x:=.ref as[i]) (by simp[Q]) λh' U Y=>?_);have k':∀b o,s.heap.get? b=some o->h'.get? b=some o:=λb o e=>(Y.2 b (f b o e).2).trans (a b o e);have hD':h'.DictOfH knd p (xs.take i):=by
   obtain⟨o,es,ep,q1,q2,q3,q4,q5,q6⟩:=hD;refine⟨o,es,ep,(Y.2 p t).trans q1,q2,q3,q4,λy hy=>?_,q6⟩;obtain⟨j,c⟩:=C4.mp (Eg hy);have v:j<as.length:=by rw[m.1];exact(Ae.mp c).1
   exact kk (m.2 j _ y (Af v) c).2 λo' I=>k' _ _ I
  dsimp only;refine Aa (Bj (Aa ?_));have hg:h'.get? as[i]=some (Z8 x.2.1 x.2.2):=k' _ _ g1;have hti:Fg {s with heap:=h',toks:=tk} (.ref as[i]) "tuple":=⟨_,hg,rfl⟩
  refine wpAny_tryCatch ?_;unfold Builtin.Dict.pairItems;refine Aa (Gn hti ?_);rw[if_pos (by decide)];refine Aa (Eo hg rfl (Ab ?_));show wpAny _ _ (holding [.ref x.2.1,x.2.2] (dictSet p (.ref x.2.1) x.2.2)) _ _ _;have hkx:knd.is h' x.1 x.2.1:=kk g2 λo' I=>k' _ _ I;have hnew:Hn (xs.take i) x.1=none:=by
   refine N7 λj q c=>?_;have hj':xs[j]? =some (x.1,q):=by
    by_cases hji:j<i
    .rwa[Fq hji]at c
    .rw[Oo (by lia)]at c;exact nomatch c
   have:=idxH_unique hn hj' (show xs[i]? =some (x.1,x.2)from L);subst this;rw[Oo (Ai _)]at c;exact nomatch c
  refine Bj (wpAny_dictSet_heap (s:={s with heap:=h',toks:=tk}) hr hkx hD' (λz d g=>?_) (hsz:=by simp;lia));rw[storedH_new hnew]at d;have C:xs.take i++[(x.1,x.2.1,x.2.2)]=xs.take (i+1):=by
   rw[D4,L];rfl
  rw[C]at d;have hk'':∀b o,s.heap.get? b=some o->z.get? b=some o:=λb o e=>(g.2 b (f b o e).1).trans (k' b o e);have H:z.IsListIter it l (i+1):=let⟨o,e,r⟩:=U;⟨o,(g.2 it (Ef t)).trans e,r⟩;exact Ab ⟨Gz Jot _,ih (i+1) z _ (by lia) (by lia) hk'' H d⟩
def Jku{Q:Value->Shared->Prop}(u:A.handled=none)(C:knd.room A.in1.in1)(hz:xs.length<=sizeLine)(H:∀{h h':Heap} {k:K} {b:Addr},knd.is h k b->(∀o,h.get? b=some o->h'.get? b=some o)->knd.is h' k b)
  (I:Prs knd s.heap as xs)(J:(xs.map (·.1)).Nodup)(j:s.heap.get? l=some (seqObj "list" (as.map As).toArray c))
  (h:∀h' tk,(∀b o,s.heap.get? b=some o->h'.get? b=some o)->h'.DictOfH knd s.heap.objs.size xs->Q (.ref s.heap.objs.size) {s with heap:=h',toks:=tk}):wpAny (model prog w) A (call (.type "dict") [.ref l]) Q E s:=by
 refine callType_codes (Q₁:=λg a=>g=.ref s.heap.objs.size/\a={s with heap:=s.heap.push {cls:=.type "dict",data:=.dict #[]}}) U4 (R9 _) T3 (kt_code_dict_new _ ⟨rfl,rfl⟩) ?_;rintro g a ⟨rfl,rfl⟩;obtain⟨f,n⟩:∃f,f=s.heap.push {cls:=.type "dict",data:=.dict #[]}:=⟨_,rfl⟩
 rw[<-n];have d:f.get? s.heap.objs.size=some {cls:=.type "dict",data:=.dict #[]}:=by rw[n];exact Ak _ rfl
 have r:∀b o,s.heap.get? b=some o->f.get? b=some o:=λb o e=>by rw[n];exact Ad _ e
 have v:Fg {s with heap:=f} (.ref s.heap.objs.size) "dict":=⟨_,d,rfl⟩
 have L:Fg {s with heap:=f} (.ref l) "list":=⟨_,r _ _ j,rfl⟩
 refine⟨v,Th _ _,?_⟩;unfold Builtin.«dict.__init__»;refine Aa ?_;unfold M0;refine Aa (Ff v ?_);show wpAny _ _ (pure (s.heap.objs.size,[As l])) _ _ _;refine Ab ?_;show wpAny _ _ (G2 "dict.__init__" s.heap.objs.size (.ref l) [] .none) _ _ _;unfold G2;refine Aa (Gn L ?_);rw[if_pos (by decide)];refine Aa (Jt3 (s:={s with heap:=f}) (r _ _ j) (by simp[u]) λm N t=>?_);dsimp only at t ⊢;rw[if_pos (by rfl)];have i:∀b o,s.heap.get? b=some o->m.get? b=some o:=λb o e=>t b o (r b o e);refine Aa (Dn (Aa (G3 (s:={s with heap:=m,toks:=N}) ⟨_,i _ _ j,rfl,_,rfl⟩ ?_)));have y:=t _ _ d;have z:s.heap.objs.size<m.objs.size:=An y;refine Ab ⟨Gz Jot _,?_⟩;refine Jnp (s:=s) (p:=s.heap.objs.size) (it:=m.objs.size) (l:=l) (as:=as) (xs:=xs) (by simp[u]) C hz H I J ⟨_,j,rfl,_,rfl⟩ (Ll (Ai _)) (Ll (Ex z)) (Ay z)
  (λh' tk U dd=>⟨rfl,h h' tk U dd⟩) xs.length 0 _ _ (K9 _) (Dg _) (λb o e=>Ad _ (i b o e)) ⟨_,Ak _ rfl,rfl,rfl⟩ ?_
 exact⟨_,#[],0,Ad _ y,⟨rfl,rfl,rfl⟩,rfl,rfl,(λx Y=>by simp at Y),by simp⟩
end
end Rdu
namespace L2
open PySem PySem.W PySem.Spec PyProof.Rows Rdc Rdu
theorem KT.drop(r:KT H kvs xs)(k:List Key):KT H (Xs kvs k) (Xl xs k):=by
 induction r with
 |nil=>exact .nil
 |@cons p q c d b t a=>
  unfold Xs Xl at a ⊢;rw[Fz,Fz,b.1]
  by_cases e:q.1=k
  .rw[if_neg (by simpa using e),if_neg (by simpa using e)];exact a
  .rw[if_pos (by simpa using e),if_pos (by simpa using e)];exact .cons b a
theorem KT.keys{kvs:List (List Key×V)}{xs:List (List Key×Addr×Value)}(r:KT H kvs xs):xs.map (·.1)=kvs.map (·.1):=by
 induction r with
 |nil=>rfl
 |cons a _ b=>rw[Ax,Ax,b,a.1]
section
variable {X:Cx} {pins:List (Addr×Obj)} {σ:St} {H:Hp} {s:Shared} {a b:Addr} {kvs:List (List Key×V)} {k:List Key} {A:Bi} {E:Value->Shared->Prop}
def Jyo{Q:Value->Shared->Prop}(hu:A.units+2<Dc)(I:Inv X pins σ H s)(e:H a=some (.dT kvs))(u:H b=some (.tup (k.map kV)))(l:Wu kvs k=some v)
  (h:∀f m,Inv X pins σ (upd H a (.dT (Xs kvs k))) m->RelV v f->Q f m):wpAny (model X.prog X.w) A (call (.builtin "dict.pop") [.ref a,.ref b]) Q E s:=by
 obtain⟨z,w,n,d,dd⟩:=Jyj I.hok e;obtain⟨f,x,g⟩:=RelO.some_of (v:=v) (o:=(Hn n k).map (·.2)) (by rw[<-l];exact d.val k);obtain⟨p,hp,i⟩:=Al.mp x;refine R4 Pf dd.typeIs PySem.F.entry_dict_pop (PySem.F.args_dict_pop_2 _ _) (Jke (tupleKind (mixKind X.prog X.w)) a b)
  ⟨D1 (by lia),k,n,p,Jeq I.hok u,dd,hp,by rw[<-Cr d];exact z,λh' j y=>?_⟩
 rw[i];refine h f _ ?_ g;obtain⟨q,C,J,r,L,N,U,_,Y⟩:=j;refine Jgk I (by rw[e];exact Fp) y ⟨q,r⟩ ⟨Bu (Jpt kvs k) z,w,_,(d.drop k).keeps λc ys t=>?_,q,C,J,r,L,N,U,Y⟩;rw[Jad (Joy t e (λz=>nomatch z))];exact t
def Apart(P:Program)(w:World)(kvs:List (List Key×V)):Prop:=(kvs.map λc=>(tupleKind (mixKind P w)).hash c.1).Nodup
def Jp6{xs:List (List Key×Addr×Value)}{es:Array Cc}(h:es.toList=xs.map (entryOfKey (tupleKind (mixKind P w))))(i:(xs.map λx=>(tupleKind (mixKind P w)).hash x.1).Nodup):
  ∀e∈es,(es.filter (·.hash==e.hash)).size<=1:=by
 intro e _;have c:(es.toList.map (·.hash)).Nodup:=by rw[h,B6];exact i
 have d:∀l:List Cc,(l.map (·.hash)).Nodup->(l.filter (·.hash==e.hash)).length<=1:=by
  intro l
  induction l with
  |nil=>intro _;exact Dg _
  |cons x l j=>
   intro f;rw[Ax,Cp]at f;rw[Fz];split
   .rename_i m;have:l.filter (·.hash==e.hash)=[]:=by
     rw[Qa];intro y n g;refine f.1 (Bd.mpr ⟨y,n,?_⟩);rw[eq_of_beq g,eq_of_beq m]
    rw[this];exact Ai _
   .exact j f.2
 have:=d es.toList c;rw[<-Bs,Array.toList_filter];exact this
def Jur{Q:Value->Shared->Prop}(I:Inv X pins σ H s)(e:Rd H a (.dT kvs))(ap:Apart X.prog X.w kvs)(h:∀p t,H p=none->Inv X pins σ (upd H p (.dT kvs)) t->Q (.ref p) t):wpAny (model X.prog X.w) A (call (.type "dict") [.ref a]) Q E s:=by
 obtain⟨z,w,i,d,o,y,ep,C,J,L,f,N,U⟩:=Jdw I.hok e;have Y:(i.map λx=>(tupleKind (mixKind X.prog X.w)).hash x.1)=kvs.map λkv=>(tupleKind (mixKind X.prog X.w)).hash kv.1:=by
  have:=congrArg (M3 λk=>(tupleKind (mixKind X.prog X.w)).hash k) d.keys;rw[B6,B6]at this;exact this
 refine Jm8 w ⟨o,C,J,L⟩ (λq g=>?_) (Jp6 f (by rw[Y];exact ap)) (by rw[Gx f,<-Cr d];exact z) λh' j l hs=>?_
 .have m:q∈i.map (entryOfKey (tupleKind (mixKind X.prog X.w))):=f▸Cu.mpr g;obtain⟨x,n,rfl⟩:=Bd.mp m;obtain⟨r,_,_,g1,g2,_⟩:=N x n;exact⟨x.2.1,rfl,r,g1,g2⟩
 .have u:=I.hok.fresh (Ai s.heap.objs.size);obtain⟨r,g1,g2,g3⟩:=l;refine h _ _ u (I.laid (a:=s.heap.objs.size) (o:=.dT kvs) (t':=s.toks) (λc q g=>?_) (Ai _) ⟨z,beq_eq_false_iff_ne.mpr (Ef (Ay I.big)),i,d.keeps λc ys v=>?_,r,y,j,g1,g2,g3,f,U⟩)
  .exact(hs.2 c (Ay (An g))).trans (Ad _ g)
  .rw[Jad (Jan v u)];exact v
end
noncomputable def intAt(its:Array Value)(i:Nat):Int:=match its[i]? with
 |some (Eb x _)=>x
 |_=>0
def pkH(h:Heap)(v:Value):Rdu.PK:=match v with
 |As b=>match h.get? b with
  |some o=>match o.data with
   |Data.seq a _=>(intAt a 0,intAt a 1)
   |_=>(0,0)
  |none=>(0,0)
 |_=>(0,0)
noncomputable abbrev pK(p:Rdu.PK):List Key:=[.inl p.1,.inl p.2]
theorem Jrb(d:HOk P w H h)(e:H b=some (.tup ((pK p).map kV))):IK2 P w h p b/\pkH h (.ref b)=p:=by
 obtain⟨_,f,r,o,a,g,n,c⟩:=(show Vz P w H h b (.tup ((pK p).map kV))from d b _ e)
 cases r with
 |cons i r=>
  cases r with
  |cons j r=>
   cases r;obtain⟨t,rfl⟩:=(show∃t,_=Eb p.1 t from i)
   obtain⟨u,rfl⟩:=(show∃t,_=Eb p.2 t from j)
   refine⟨⟨o,_,n,a,g,c,.cons (by simp[intKind,Jy]) (.cons (by simp[intKind,Jy]) .nil)⟩,?_⟩;simp only[pkH,a,c];rfl
theorem KT.at(r:KT H kvs xs):∀{i:Nat} {x:List Key×Addr×Value},xs[i]? =some x->H x.2.1=some (.tup (x.1.map kV)):=by
 induction r with
 |nil=>intro i x a;simp at a
 |cons b _ c=>
  intro i x a;cases i with
  |zero=>simp only[Ek,Ja]at a;subst a;rw[<-b.1];exact b.2.1
  |succ i=>simp only[Bq]at a;exact c a
section
variable {X:Cx} {pins:List (Addr×Obj)} {σ:St} {H:Hp} {s:Shared} {a:Addr} {kvs:List (List Key×V)} {ps:List Rdu.PK} {A:Bi} {E:Value->Shared->Prop}
def Jkl{Q:Value->Shared->Prop}(c:(d==sysModules)=false)(b:Raw s.heap d es ep)
  (h:Q (.ref s.heap.objs.size) {s with heap:=s.heap.push {cls:=.type "dict_items",data:=.fields #[.ref d]}}):wpAny (model prog w) A (call (.builtin "dict.items") [.ref d]) Q E s:=by
 refine Bp Oe b.typeIs PySem.F.entry_dict_items ?_ (PySem.F.args_dict_items_1 _);unfold Builtin.«dict.items» Builtin.Dict.noArgs Hl;refine Aa (Aa (Ff b.typeIs ?_));show wpAny _ _ (pure d) _ _ s;refine Ab ?_;show wpAny _ _ (ite ((d==sysModules)=true) _ _>>=_) _ _ s;rw[if_neg (by rw[c];exact Ba)];exact Aa (Ab (Aa (B8 (Ab ⟨_,rfl,h⟩))))
def Jyp{Q:Value->Shared->Prop}(hh:A.handled=none)(hu:A.units+8<Dc)(I:Inv X pins σ H s)(e:Rd H a (.dT kvs))(ek:kvs.map (·.1)=ps.map pK)(sm:Sm ps)(hz:kvs.length<sizeLine)
  (h:∀(p:Addr) (s':Shared) (d:List (List Key×V)) (qs:List Rdu.PK),H p=none->d.Perm kvs->d.map (·.1)=qs.map pK->qs.Pairwise (λx y=>rkP x<=rkP y)->Inv X pins σ (upd H p (.dT d)) s'->Q (.ref p) s'):
  wpAny (model X.prog X.w) A (call (.builtin "dict.items") [.ref a]) (λr s1=>wpAny (model X.prog X.w) A (call (.builtin "sorted") [r]) (λl s2=>wpAny (model X.prog X.w) A (call (.type "dict") [l]) Q E s2) E s1) E s:=by
 obtain⟨z,hd,xs,f,o,es,ep,h1,h2,h3,h4,h5,h6⟩:=Jdw I.hok e;have esz:es.size=kvs.length:=by rw[Gx h4,<-Cr f]
 have pl:ps.length=kvs.length:=by have:=congrArg Dv ek;simpa using this.symm
 have L:∀(i:Nat) (q:Cc),es[i]? =some q->∃p b v,ps[i]? =some p/\xs[i]? =some (pK p,b,v)/\q.key=.ref b/\q.val=v/\IK2 X.prog X.w s.heap p b/\pkH s.heap q.key=p:=λi q m=>by
  rw[Qh h4 i,Al]at m;obtain⟨x,u,rfl⟩:=m;have hk:(xs.map (·.1))[i]? =some x.1:=by rw[Ao,u];rfl
  rw[f.keys,ek,Ao,Al]at hk;obtain⟨p,hp,t⟩:=hk;have hH:=f.at u;rw[<-t]at hH;obtain⟨q1,C⟩:=Jrb I.hok hH;exact⟨p,x.2.1,x.2.2,hp,by rw[u,t],rfl,rfl,q1,C⟩
 have eps:(es.toList.map λe=>pkH s.heap e.key)=ps:=Kb λi=>by
  rw[Ao,Bn]
  by_cases hi:i<es.size
  .obtain⟨p,_,_,p1,_,_,_,_,e1⟩:=L i es[i] (Bo hi);rw[Bo hi,p1];exact congrArg some e1
  .rw[Ky (by lia),Gm (by lia)];rfl
 have px:Paired (λ(q:Cc) (x:List Key×Addr×Value)=>q.key=.ref x.2.1/\q.val=x.2.2/\x.1=pK (pkH s.heap q.key)/\x∈xs) es.toList xs:=Jei (by rw[Bs,esz,Cr f]) λi q x m u=>by
  obtain⟨p,b,v,_,C,q3,q4,_,q6⟩:=L i q (by rw[<-Bn];exact m);have hm:=Au u;rw[u]at C;cases C;exact⟨q3,q4,by rw[q6],hm⟩
 refine Jkl hd ⟨o,h1,h2,h3⟩ ?_;obtain⟨g1,e1⟩:∃g1,g1=s.heap.push {cls:=.type "dict_items",data:=.fields #[.ref a]}:=⟨_,rfl⟩
 rw[<-e1];have k1:∀b o,s.heap.get? b=some o->g1.get? b=some o:=λb o e=>by rw[e1];exact Ad _ e
 have hv:g1.IsItemsView s.heap.objs.size a:=⟨_,by rw[e1];exact Ak _ rfl,rfl,rfl⟩
 refine Jdt (s:={s with heap:=g1}) (pk:=pkH s.heap) hh hu hv ⟨o,k1 _ _ h1,h2,h3⟩ (by lia) (λq m=>?_) (by rw[eps];exact sm) λh' l c as fs kp hl gl pf sl pr=>?_
 .obtain⟨i,hi⟩:=C4.mp m;obtain⟨p,b,v,_,_,kb,_,q1,C⟩:=L i q (by rw[<-Bn];exact hi);exact⟨b,kb,by rw[C];exact q1.keep λo e=>k1 _ _ e⟩
 .have k2:∀b o,s.heap.get? b=some o->h'.get? b=some o:=λb o e=>kp b o (k1 b o e);obtain⟨N,U,Y⟩:=Jcl px pf;obtain⟨d,pk',rl⟩:=Jcl (Jej f) U;have J:KT H d N:=Jej rl;refine Jku (s:={s with heap:=h'}) (knd:=tupleKind (mixKind X.prog X.w)) (xs:=N) (as:=as) hh (D1 (by simp;lia)) (by rw[U.length_eq,<-Cr f];exact z) (λ{g g' k b} x y=>?_) ⟨by rw[Cr pr,Cr Y],λj b x hb u=>?_⟩ ((U.map _).nodup_iff.mpr h6) gl λh'' tk kp' dd=>?_
  .obtain⟨o',its,n,w1,w2⟩:=x;exact⟨o',its,n,y o' w1,w2⟩
  .obtain⟨q,m,q1,C,q3,q4⟩:=Jek Y u;obtain⟨b',hb',_,_,r3⟩:=Jek pr m;rw[hb]at hb';cases hb';refine⟨?_,?_⟩
   .rw[r3];unfold Xa;rw[q1,C];rfl
   .obtain⟨o',its,n,w1,w2⟩:=h5 x q4;exact⟨o',its,n,k2 _ _ w1,w2⟩
  .obtain⟨o',es',t,g1',g2',g3',g4',_,g6'⟩:=dd;have hle:s.heap.objs.size<=h'.objs.size:=Bu (by rw[e1,Cq];exact Lv _) (Ex (Gb hl (An gl)));have hf:=I.hok.fresh hle;refine h _ _ d (fs.map λe=>pkH s.heap e.key) hf pk' ?_ (Ct.mpr sl) (I.laid (a:=h'.objs.size) (o:=.dT d) (t':=tk) (λc q m=>kp' _ _ (k2 _ _ m)) hle ⟨by rw[pk'.length_eq];exact z,beq_eq_false_iff_ne.mpr (Ef (Ay (Bl I.big hle))),N,J.keeps λc ys ec=>?_,o',es',t,g1',g2',g3',g4',g6'⟩)
   .rw[<-J.keys,B6];exact(Jfg (λq x w=>w.2.2.1.symm) Y).symm
   .rw[Jad (Jan ec hf)];exact ec
end
section
variable {X:Cx} {pins:List (Addr×Obj)} {σ:St} {H:Hp} {s:Shared} {a b:Addr} {ka kb kvs:List (List Key×V)} {ps:List Rdu.PK} {A:Bi} {E:Value->Shared->Prop}
theorem KT.mem(r:KT H kvs xs):∀x∈xs,∃c∈kvs,c.1=x.1/\RelV c.2 x.2.2:=by
 induction r with
 |nil=>intro x hx;exact nomatch hx
 |@cons p q ps h d _ e=>
  intro x hx;rcases Am.mp hx with rfl|hx
  .exact⟨p,Br,d.1,d.2.2⟩
  .obtain⟨c,f,g⟩:=e x hx;exact⟨c,A7 _ f,g⟩
def J0q{Q:Value->Shared->Prop}(r:A.units+1<Dc)(I:Inv X pins σ H s)(t:Rd H a (.dT ka))(w:Rd H b (.dT kb))(y:ka.length=kb.length)
  (d:∀c∈ka,∃e,Wu kb c.1=some e/\∀u k,RelV c.2 u->RelV e k->F3 A.in1 s u k true)(h:Q (.bool false) s):wpAny (model X.prog X.w) A (Ei .NotEq (.ref a) (.ref b)) Q E s:=by
 obtain⟨_,f,xa,l,z⟩:=Jdw I.hok t;obtain⟨_,g,C,n,J⟩:=Jdw I.hok w;refine neH f g (by lia) (D1 r) z J (by rw[<-Cr l,<-Cr n];exact y) (λx L=>?_) h;obtain⟨c,m,N,U⟩:=l.mem x L;obtain⟨e,g1,g2⟩:=d c m;obtain⟨w',Y,i⟩:=RelO.some_of (v:=e) (o:=(Hn C c.1).map (·.2)) (by rw[<-g1];exact n.val c.1);obtain⟨p,hp,j⟩:=Al.mp Y;exact⟨p,by rw[<-N];exact hp,by rw[j];exact g2 _ _ U i⟩
def Jmw{Q:Value->Shared->Prop}(hh:A.handled=none)(I:Inv X pins σ H s)(e:Rd H a (.dT kvs))(ek:kvs.map (·.1)=ps.map pK)(sm:Sm ps)(hz:kvs.length<sizeLine)
  (h:∀(p:Addr) (bs:List Addr) (J:List Rdu.PK) (s':Shared),H p=none->J.Perm ps->J.Pairwise (λx y=>rkP x<=rkP y)->bs.length=J.length->(∀(i:Nat) (b:Addr) (q:Rdu.PK),bs[i]? =some b->J[i]? =some q->H b=some (.tup ((pK q).map kV)))->Inv X pins σ (upd H p (.lst (bs.map V.ref))) s'->Q (.ref p) s'):
  wpAny (model X.prog X.w) A (call (.builtin "sorted") [.ref a]) Q E s:=by
 obtain⟨z,hd,xs,k,o,es,ep,h1,h2,h3,h4,h5,h6⟩:=Jdw I.hok e;have esz:es.size=kvs.length:=by rw[Gx h4,<-Cr k]
 have pl:ps.length=kvs.length:=by have:=congrArg Dv ek;simpa using this.symm
 have d:∀(i:Nat) (v:Value),(∃q,es[i]? =some q/\v=q.key)->∃p b,ps[i]? =some p/\v=.ref b/\H b=some (.tup ((pK p).map kV))/\IK2 X.prog X.w s.heap p b/\pkH s.heap v=p:=λi v ⟨q,m,ev⟩=>by
  rw[Qh h4 i,Al]at m;obtain⟨x,r,rfl⟩:=m;have hk:(xs.map (·.1))[i]? =some x.1:=by rw[Ao,r];rfl
  rw[k.keys,ek,Ao,Al]at hk;obtain⟨p,hp,ep'⟩:=hk;have hH:=k.at r;rw[<-ep']at hH;obtain⟨L,N⟩:=Jrb I.hok hH;exact⟨p,x.2.1,hp,ev,hH,L,by rw[ev];exact N⟩
 refine Je2 (λv=>rkP (pkH s.heap v)) (κ:=tuples' true) (Jnt hd) hh (show Raw s.heap a es ep from⟨o,h1,h2,h3⟩) (by lia) (λU g1 t hl Y k1 h2 A' E' Q' q=>?_) (λg1 t k1 i j x y r hy A' Q' q=>?_) (λi j x y r hy hij=>?_) λh' tk l c U vs' kp hl gl vl Y pm sl=>?_
 .refine Jki (s:={s with heap:=g1,toks:=t}) (pk:=pkH s.heap) (by lia) (λv n=>?_) q;obtain⟨i,u⟩:=C4.mp n;obtain⟨p,b,_,f,_,g,e3⟩:=d i v (Y i v u);exact⟨b,f,by rw[e3];exact g.keep λo e=>k1 _ _ e⟩
 .obtain⟨p,b,w,rfl,_,L,f⟩:=d i x r;obtain⟨p',b',p2,rfl,_,N,g⟩:=d j y hy;rw[f,g,<-Jq4 (sm.1 p (Au w)) (sm.1 p' (Au p2))]at q;exact Jo0 (s:={s with heap:=g1,toks:=t}) (L.keep λo e=>k1 _ _ e) (N.keep λo e=>k1 _ _ e) q
 .obtain⟨p,b,w,rfl,_,L,f⟩:=d i x r;obtain⟨p',b',p2,rfl,_,N,g⟩:=d j y hy;rw[f,g];exact sm.ne hij w p2
 .have hf:=I.hok.fresh hl;have evs:U.map (pkH s.heap)=ps:=Kb λi=>by
   rw[Ao]
   by_cases u:i<U.length
   .obtain⟨p,b,w,_,_,_,f⟩:=d i U[i] (Y i _ (Af u));rw[Af u,w];exact congrArg some f
   .rw[Gm (by lia),Gm (by lia)];rfl
  have C:∀v∈vs',∃b,v=.ref b/\H b=some (.tup ((pK (pkH s.heap v)).map kV)):=λv n=>by
   obtain⟨i,u⟩:=C4.mp (pm.mem_iff.mp n);obtain⟨p,b,_,f,g,_,e3⟩:=d i v (Y i v u);exact⟨b,f,by rw[e3];exact g⟩
  obtain⟨bs,rfl⟩:=Jil λv h=>let⟨b,e,_⟩:=C v h;⟨b,e⟩;have pq:=pm.map (pkH s.heap);rw[evs]at pq;have lq:=pq.length_eq;rw[Ah,Ah]at lq;refine h l bs _ _ hf pq (Ct.mpr sl) (by simp) (λi b q hb m=>?_) (I.laid (a:=l) (o:=.lst (bs.map V.ref)) (t':=tk) (λc q m=>kp _ _ m) hl ⟨by simp;lia,bs.map As,c,?_,gl⟩)
  .rw[Ao,Ao,hb]at m;cases m;obtain⟨b',eb,g⟩:=C (.ref b) (Bd.mpr ⟨b,Au hb,rfl⟩);cases eb;exact g
  .have vr:∀l:List Addr,Vals (l.map V.ref) (l.map As):=λl=>by
    induction l with
    |nil=>exact .nil
    |cons x l ih=>exact .cons rfl ih
   exact vr bs
end
open PySem Rdu
inductive Tr where
 |nil
 |node (l:Tr) (k:Nat) (r:Tr)
noncomputable def Tr.has(j:Nat):Tr->Bool
 |.nil=>false
 |.node l k r=>if j<k then l.has j else if k<j then r.has j else true
noncomputable def Tr.ins(j:Nat):Tr->Option Tr
 |.nil=>some (.node .nil j .nil)
 |.node l k r=>if j<k then(match l.ins j with|some a=>some (.node a k r)|none=>none)else if k<j then(match r.ins j with|some b=>some (.node l k b)|none=>none)else none
theorem Tr.ins_has:∀{t t':Tr},t.ins j=some t'->t.has j=false/\∀i,t'.has i=(decide (i=j)||t.has i)
 |.nil,t',e=>by
  cases e;refine⟨rfl,λi=>?_⟩;unfold Tr.has Tr.has
  by_cases d:i<j
  .simp[d,Ay d]
  .by_cases c:j<i
   .simp[d,c,Cy c]
   .have:i=j:=by lia
    simp[this]
 |.node l k r,t',e=>by
  unfold Tr.ins at e
  by_cases d:j<k
  .rw[if_pos d]at e;cases q:l.ins j with
   |none=>rw[q]at e;cases e
   |some h=>
    rw[q]at e;cases e;obtain⟨a,b⟩:=Tr.ins_has q;refine⟨by unfold Tr.has;rw[if_pos d];exact a,λi=>?_⟩;unfold Tr.has
    by_cases c:i<k
    .rw[if_pos c,if_pos c];exact b i
    .have:i≠j:=by lia
     simp[c,this]
  .rw[if_neg d]at e
   by_cases f:k<j
   .rw[if_pos f]at e;cases q:r.ins j with
    |none=>rw[q]at e;cases e
    |some m=>
     rw[q]at e;cases e;obtain⟨a,b⟩:=Tr.ins_has q;refine⟨by unfold Tr.has;rw[if_neg d,if_pos f];exact a,λi=>?_⟩;unfold Tr.has
     by_cases c:i<k
     .have:i≠j:=by lia
      simp[c,this]
     .rw[if_neg c,if_neg c]
      by_cases g:k<i
      .rw[if_pos g,if_pos g];exact b i
      .simp[g]
   .rw[if_neg f]at e;cases e
def chk(f:Nat×Nat->Int):List (Nat×Nat)->Tr->Tr->Bool
 |[],_,_=>true
 |q::r,a,b=>match f q with
  |.ofNat 0=>false
  |.ofNat (k+1)=>(match a.ins k with|some c=>chk f r c b|none=>false)
  |.negSucc 0=>false
  |.negSucc (k+1)=>(match b.ins k with|some d=>chk f r a d|none=>false)
def Zi(a b:Tr):Int->Bool
 |.ofNat 0=>false
 |.ofNat (k+1)=>a.has k
 |.negSucc 0=>false
 |.negSucc (k+1)=>b.has k
theorem Jjy{f:Nat×Nat->Int}:∀{l:List (Nat×Nat)} {a b:Tr},chk f l a b=true->(∀q∈l,Zi a b (f q)=false)/\(l.map f).Nodup
 |[],_,_,_=>⟨(λ_ h=>nomatch h),Jp⟩
 |q::r,a,b,h=>by
  unfold chk at h;have step:∀o p,chk f r o p=true->Zi a b (f q)=false->(∀i,Zi o p i=false->i≠f q/\Zi a b i=false)->(∀s∈q::r,Zi a b (f s)=false)/\((q::r).map f).Nodup:=λo p c A w=>by
   obtain⟨x,y⟩:=Jjy c;refine⟨λs hq=>?_,?_⟩
   .rcases Am.mp hq with rfl|hq
    .exact A
    .exact(w _ (x s hq)).2
   .rw[Ax,Cp];refine⟨λm=>?_,y⟩;obtain⟨s,hq,e⟩:=Bd.mp m;exact(w _ (x s hq)).1 e
  cases e:f q with
  |ofNat n=>
   cases n with
   |zero=>rw[e]at h;cases h
   |succ k=>
    rw[e]at h;cases g:a.ins k with
    |none=>simp only[g]at h;cases h
    |some o=>
     simp only[g]at h;obtain⟨u,v⟩:=Tr.ins_has g;refine step o b h (by rw[e];exact u) λi d=>?_;rw[e]
     match i,d with
     |.ofNat 0,_=>exact⟨(λz=>nomatch z),rfl⟩
     |.ofNat (j+1),d=>
      have d:o.has j=false:=d;rw[v j,Qy]at d;refine⟨λz=>?_,d.2⟩;have t:j=k:=by injection z with z;lia
      simp[t]at d
     |.negSucc 0,_=>exact⟨(λz=>nomatch z),rfl⟩
     |.negSucc (j+1),d=>exact⟨(λz=>nomatch z),d⟩
  |negSucc n=>
   cases n with
   |zero=>rw[e]at h;cases h
   |succ k=>
    rw[e]at h;cases g:b.ins k with
    |none=>simp only[g]at h;cases h
    |some p=>
     simp only[g]at h;obtain⟨u,v⟩:=Tr.ins_has g;refine step a p h (by rw[e];exact u) λi d=>?_;rw[e]
     match i,d with
     |.ofNat 0,_=>exact⟨(λz=>nomatch z),rfl⟩
     |.ofNat (j+1),d=>exact⟨(λz=>nomatch z),d⟩
     |.negSucc 0,_=>exact⟨(λz=>by injection z with z;lia),rfl⟩
     |.negSucc (j+1),d=>
      have d:p.has j=false:=d;rw[v j,Qy]at d;refine⟨λz=>?_,d.2⟩;have t:j=k:=by injection z with z;lia
      simp[t]at d
noncomputable def Z9(q:Nat×Nat):Int:=Uv (C8 [hashInt q.1,hashInt q.2])
noncomputable def small:Nat->List (Nat×Nat)
 |0=>[]
 |n+1=>(n,0)::(n,1)::(n,2)::small n
def Jlh:chk Z9 (small 345) .nil .nil=true:=by decide+kernel
theorem Jel(hp:p<3):∀{m:Nat},n<m->(n,p)∈small m
 |m+1,h=>by
  unfold small
  by_cases e:n=m
  .subst e;have:p=0\/p=1\/p=2:=by lia
   rcases this with rfl|rfl|rfl<;>simp
  .have:=Jel (n:=n) hp (m:=m) (by lia);simp[this]
def Jx6{a:Type}{f:a->Int}{l:List a}(h:(l.map f).Nodup){x y:a}(d:x∈l)(g:y∈l)(e:f x=f y):x=y:=by
 obtain⟨i,b,rfl⟩:=Dt.mp d;obtain⟨j,c,rfl⟩:=Dt.mp g;have q:=Dj.mp (Ct.mp h);rcases Ie i j with k|k|k
 .exact absurd e (q i j b c k)
 .subst k;rfl
 .exact absurd e.symm (q j i c b k)
def Jp5{P:Program}{w:World}{kvs:List (List Key×V)}{ps:List (Nat×Nat)}(g:kvs.map (·.1)=ps.map λq=>pK ((q.1:Int),(q.2:Int)))(a:∀q∈ps,q.1<345/\q.2<3)(i:ps.Nodup):Apart P w kvs:=by
 have e:(kvs.map λj=>(tupleKind (mixKind P w)).hash j.1)=ps.map Z9:=by
  have h:=congrArg (M3 λk=>(tupleKind (mixKind P w)).hash k) g;rw[B6,B6]at h;exact h
 unfold Apart;rw[e];refine Ct.mpr (Mu (λ{x y} d f b c=>?_) i);exact b (Jx6 (Jjy Jlh).2 (Jel (a x d).2 (a x d).1) (Jel (a y f).2 (a y f).1) c)
open PySem PySem.Spec PyProof.Rows Rdc Rdu
open PySem PySem.Spec PyProof.Rows
section
open Rdc Rdu
variable {X:Cx} {pins:List (Addr×Obj)} {σ:St} {H:Hp} {s:Shared} {tg:Expr} {a:Addr} {kvs:List (List Key×V)}
end
end L2
namespace Nst
open PySem
section
variable {prog:Program} {w:World} {K:Type} [DecidableEq K] (knd:Li prog w K)
inductive Refs (h:Heap):List K->List Value->Prop
 |nil:Refs h [] []
 |cons {k:K} {b:Addr} {ks:List K} {vs:List Value}:knd.is h k b->Refs h ks vs->Refs h (k::ks) (.ref b::vs)
inductive Is (h:Heap) (ks:List K) (a:Addr):Prop
 |mk (o items n) (_:h.get? a=some o) (_:o.cls=.type "tuple") (_:o.data=.seq items n) (_:Refs knd h ks items.toList):Is h ks a
noncomputable def drw(ks:List K):Nat:=(ks.map knd.draws).sum
variable {knd} {A:Bi} {E:Value->Shared->Prop} {s:Shared}
theorem Refs.inj(c:Refs knd h x vs)(a:Refs knd h y vs):x=y:=by
 induction c generalizing y with
 |nil=>cases a;rfl
 |cons d _ e=>cases a with|cons f g=>rw[knd.inj d f,e g]
theorem Refs.map(a:Refs knd h x vs)(f:∀k b,knd.is h k b->knd.is h' k b):Refs knd h' x vs:=by
 induction a with
 |nil=>exact .nil
 |cons c _ d=>exact .cons (f _ _ c) d
def Is.inj(f:Is knd h x a)(g:Is knd h y a):x=y:=by
 obtain⟨o,items,n,i,_,j,k⟩:=f;obtain⟨l,c,p,d,_,b,e⟩:=g;obtain rfl:o=l:=Bh (i.symm.trans d);rw[j]at b;injection b with m _;subst m;exact k.inj e
def Is.keeps{h:Heap}{o:Obj}{es ep}(x:Is knd h ks a)(g:h.get? d=some o)(i:o.data=.dict es ep)(j:Di d h h'):Is knd h' ks a:=by
 obtain⟨l,items,n,e,m,c,p⟩:=x;have f:a≠d:=λq=>by
  subst q;obtain rfl:l=o:=Bh (e.symm.trans g);rw[i]at c;exact nomatch c
 exact⟨l,items,n,(j.2 a f).trans e,m,c,p.map λk b q=>knd.keeps q g i j⟩
def Is.typeIs(x:Is knd s.heap ks a):s.TypeIs (.ref a) "tuple":=let⟨o,_,_,b,c,_,_⟩:=x;⟨o,b,c⟩
noncomputable def hsh(knd:Li prog w K)(ks:List K):Int:=Uv (C8 (ks.map knd.hash))
def J0h{Q:Int->Shared->Prop}(r:A.units<Dc)(c:knd.room A.in1)(p:Is knd s.heap ks a)(h:Q (hsh knd ks) {s with toks:=s.toks+(drw knd ks+1)}):wpAny (model prog w) A (pyHash (.ref a)) Q E s:=by
 have g:=p.typeIs;obtain⟨o,j,n,t,_,u,v⟩:=p;unfold pyHash
 first|unfold pyHashByItsType|skip
 first|refine Aa (wpAny_cRoomFor_or (.inr r) ?_)|skip
 refine Aa (Gw g Ii.lookup ?_);show wpAny _ _ (if(some (Tx "tuple.__hash__")==some Cv)=true then _ else _) Q E s;rw[if_neg (by rw[beq_builtin_none];exact Ba)];refine Aa (Gw g Ii.lookup ?_);show wpAny _ _ (callSpecialIfBoundUnlessNone? (.ref a) "__hash__" _>>=_) Q E s;refine Aa (wpAny_callSpecialIfBoundUnlessNone?_slot g Ii (Bp Ii g F.entry_tuple_hash ?_ (F.args_tuple_hash_1 _)));show wpAny _ _ (Ij (.ref a)>>=_) _ _ s;refine Aa (Nl t u (Aa ?_));rw[<-F6];refine D3 _ (λrest (b:Array Int) l=>∃done left,ks=done++left/\Refs knd s.heap left rest/\b.toList=done.map knd.hash/\l={s with toks:=s.toks+drw knd done})
  _ ?_ ?_ _ _ ⟨[],ks,rfl,v,rfl,rfl⟩
 .rintro x rest b l ⟨done,left,rfl,m,i,rfl⟩;cases m with
  |@cons k z d _ y f=>
   have e:({s with toks:=s.toks+drw knd done+knd.draws k}:Shared)={s with toks:=s.toks+drw knd (done++[k])}:=by simp[drw,Ez]
   refine Aa (knd.pyHash (s:={s with toks:=s.toks+drw knd done}) c y ?_)
   first
    |exact Ab ⟨done++[k],d,by simp,f,by simp[i],e⟩
    |exact Aa (Ab (Ab ⟨done++[k],d,by simp,f,by simp[i],e⟩))
 .rintro b l ⟨done,left,rfl,m,i,rfl⟩;cases m;rw[Dq]at h;show wpAny _ _ (retInt (C8 b.toList)) _ _ _;rw[i];refine wpAny_ret_mkInt ?_;show wpAny _ _ (if(decide (-(2:Int)^63<=C8 (done.map knd.hash))&&decide (C8 (done.map knd.hash)<2^63))=true then _ else _) Q E _;unfold hsh Uv at h
  by_cases c:(decide (-(2:Int)^63<=C8 (done.map knd.hash))&&decide (C8 (done.map knd.hash)<2^63))=true
  .rw[if_pos c];rw[if_pos c]at h;exact Ab (by simpa [Ez]using h)
  .rw[if_neg c];rw[if_neg c]at h;exact Aa (Dn (Ab (by simpa [Ez]using h)))
def Jup{P:Fin->Shared->Prop}(hr:knd.room A)(hx:Is knd s.heap x a)(hy:Is knd s.heap y b)(h:P (.done (.ret (.bool (decide (x=y))))) s):
  wpAny (model prog w) A (Builtin.«tuple.__eq__» ⟨[.ref a,.ref b],[]⟩) P E s:=by
 have N:=hy.typeIs;obtain⟨oa,C,na,Q,_,U,Y⟩:=hx;obtain⟨ob,H,nb,hob,_,hdb,hib⟩:=hy;show wpAny _ _ (Qg (.ref b) (.type "tuple")>>=_) _ _ s;refine Aa (Eh N I9 ?_);simp only[Dm,Az,if_false];refine Aa (Nl Q U (Aa (Nl hob hdb (Aa ?_))));refine D3 _
  (λrest r I=>r.1=none/\I=s/\∃J L d e,rest=List.zip d e/\Refs knd s.heap J d/\Refs knd s.heap L e/\decide (J=L)=decide (x=y)/\(d.length==e.length)=(C.size==H.size))
  _ ?_ ?_ _ _ ⟨rfl,rfl,x,y,C.toList,H.toList,rfl,Y,hib,rfl,by simp⟩
 .rintro⟨u,v⟩ rest r I ⟨i,rfl,J,L,d,e,k,j,g,c,f⟩;cases j with
  |nil=>simp at k
  |@cons k1 u' l m h1 n=>
   cases g with
   |nil=>simp at k
   |@cons k2 v' o p h2 t=>
    simp only[Mj,Qx,Ln]at k;obtain⟨⟨rfl,rfl⟩,rfl⟩:=k;refine Aa (knd.eqBool hr h1 h2 ?_)
    by_cases hk:k1=k2
    .subst hk;rw[decide_eq_true rfl];simp only[Dm,Az,if_false];refine Ab ⟨rfl,rfl,l,o,m,p,rfl,n,t,?_,by simpa using f⟩;rw[<-c]
     by_cases hxy:l=o<;>simp[hxy]
    .rw[decide_eq_false hk];simp only[Um,if_true];have hf:decide (x=y)=false:=by rw[<-c];simp[hk]
     rw[hf]at h;exact Aa (Ab (Ab (Ab h)))
 .rintro⟨r1,r2⟩ I ⟨i,rfl,J,L,d,e,k,j,g,c,f⟩;simp only at i;subst i;refine Ab ?_;have z:(C.size==H.size)=decide (x=y):=by
   rw[<-c,<-f];cases j with
   |nil=>cases g<;>simp
   |cons _ _=>
    cases g with
    |nil=>simp
    |cons _ _=>simp at k
  show P (.done (.ret (.bool (C.size==H.size)))) I;rw[z];exact h
def eq_{Q:Bool->Shared->Prop}(g:A.units<Dc)(i:knd.room A.in1)(d:Is knd s.heap x a)(f:Is knd s.heap y b)(h:Q (decide (x=y)) s):wpAny (model prog w) A (eqBool (.ref a) (.ref b)) Q E s:=by
 unfold eqBool
 try with_reducible refine Bj ?_
 show wpAny _ _ (if(As a==As b)=true then _ else _) Q E s
 by_cases c:(As a==As b)=true
 .rw[if_pos c];have e:a=b:=by have:=eq_of_beq c;injection this
  subst e;obtain rfl:=d.inj f;exact Aa (Dn (Ab (by simpa using h)))
 .rw[if_neg c];exact Aa (J1 (op:=.Eq) d.typeIs f.typeIs Jl
   (Bp Jl d.typeIs F.entry_tuple_eq (Jup i d f ⟨_,rfl,(λe=>nomatch e),D9 h⟩) (F.args_tuple_eq_2 _ _)) g)
def Jwn{Q:Bool->Shared->Prop}(j:∀{A:Bi} {E:Value->Shared->Prop} {s:Shared} {k:K} {b:Addr} {Q:Bool->Shared->Prop},knd.is s.heap k b->Q true s->wpAny (model prog w) A (Oy 7 (.ref b)) Q E s)
  (f:Is knd s.heap ks a)(h:Q true s):wpAny (model prog w) A (Oy 8 (.ref a)) Q E s:=by
 have g:=f.typeIs;obtain⟨o,c,n,l,_,m,p⟩:=f;unfold Oy;refine Aa (Gw g Jl.lookup ?_);show wpAny _ _ (Qg (.ref a) (.type "tuple")>>=_) _ _ s;refine Aa (Eh g I9 ?_);simp only[Dm,Az,if_false];refine Aa (Eo l m (Aa ?_));show wpAny _ _ (forIn c _ _) _ _ s;rw[<-F6];refine D3 _ (λrest r d=>r.1=none/\d=s/\∃i,Refs knd s.heap i rest) _ ?_ ?_ _ _ ⟨rfl,rfl,ks,p⟩
 .rintro v rest r d ⟨e,rfl,i,t⟩;cases t with
  |cons u x=>
   refine Aa (j u ?_);simp only[Dm,Az,if_false];exact Ab ⟨rfl,rfl,_,x⟩
 .rintro⟨y,z⟩ d ⟨e,rfl,_⟩;simp only at e;subst e;exact Ab h
end
section
variable {prog:Program} {w:World} {K:Type} [DecidableEq K] {knd:KeyKind prog w K} {A:Bi} {E:Value->Shared->Prop} {s:Shared}
def Jwo{Q:Bool->Shared->Prop}(g:U3 knd s.heap ks a)(h:Q true s):wpAny (model prog w) A (Oy 7 (.ref a)) Q E s:=by
 have i:=g.typeIs;obtain⟨o,c,n,j,_,k,l⟩:=g;unfold Oy;refine Aa (Gw i Jl.lookup ?_);show wpAny _ _ (Qg (.ref a) (.type "tuple")>>=_) _ _ s;refine Aa (Eh i I9 ?_);simp only[Dm,Az,if_false];refine Aa (Eo j k (Aa ?_));show wpAny _ _ (forIn c _ _) _ _ s;rw[<-F6];refine D3 _ (λrest r d=>r.1=none/\d=s/\∀v∈rest,Qi v=true) _ ?_ ?_ _ _ ⟨rfl,rfl,l.byValue⟩
 .rintro v rest r d ⟨e,rfl,b⟩;rw[eqIsQuiet_byValue _ (b v Br)];refine Aa (Ab ?_);simp only[Dm,Az,if_false];exact Ab ⟨rfl,rfl,λu f=>b u (A7 _ f)⟩
 .rintro⟨m,p⟩ d ⟨e,rfl,_⟩;simp only at e;subst e;exact Ab h
end
def Jiu{prog:Program}{w:World}{K:Type}[DecidableEq K](knd:KeyKind prog w K):Li prog w (List (List K))where
 is:=Is (tupleKind knd)
 hash:=hsh (tupleKind knd)
 draws:=λe=>drw (tupleKind knd) e+1
 room:=λA=>A.units<Dc/\(tupleKind knd).room A.in1
 inj:=λb c=>b.inj c
 keeps:=λx f g i=>x.keeps f g i
 pyHash:=λa d h=>J0h a.1 a.2 d h
 eqBool:=λa b c h=>eq_ a.1 a.2 b c h
 quiet:=λd h=>Jwn (λq h=>Jwo q h) d h
end Nst
namespace L2
open PySem PySem.Spec PyProof.Rows Nst
abbrev RK:=List (List Key)
def Rg(a:Addr)(xs:List (RK×Addr×Value)):HO:=.ext λP w h=>(a==sysModules)=false/\(xs.map (·.1)).Nodup/\∃o b c,h.get? a=some o/\o.ExactDict/\o.data=.dict b c/\b.toList=xs.map (entryOfKey (Jiu (mixKind P w)))
inductive W6 (K:Ag) (H:Hp) (r:RK) (a:Addr):Prop
 |mk (bs:List Addr) (_:SqT K H a (bs.map V.ref)) (_:Paired (λk b=>SqT K H b (k.map kV)) r bs):W6 K H r a
section
variable {X:Cx} {pins:List (Addr×Obj)} {σ:St} {H:Hp} {s:Shared} {a b:Addr} {r:RK} {xs:List (RK×Addr×Value)} {A:Bi} {E:Value->Shared->Prop}
def Jt8(I:Inv X pins σ H s)(x:W6 X.K H r a):(Jiu (mixKind X.prog X.w)).is s.heap r a:=by
 obtain⟨bs,e,q⟩:=x;obtain⟨c,d,⟨o,f,g,n,h⟩,_⟩:=I.tuple e;refine⟨o,c.toArray,n,f,g,h,?_⟩;have go:∀{r:RK} {bs:List Addr} {c:List Value},Paired (λk b=>SqT X.K H b (k.map kV)) r bs->Vals (bs.map V.ref) c->Refs (tupleKind (mixKind X.prog X.w)) s.heap r c:=by
  intro r bs c q
  induction q generalizing c with
  |nil=>intro v;cases v;exact .nil
  |cons i _ j=>
   intro v;cases v with
   |cons l m=>
    cases l;obtain⟨c,p,⟨o,f,g,n,h⟩,_⟩:=I.tuple i;exact .cons ⟨o,c.toArray,n,f,g,h,by simpa using Jet p⟩ (j m)
 simpa using go q d
def Jwh(I:Inv X pins σ H s)(e:H a=some (Rg a xs))(c:∀x∈xs,W6 X.K H x.1 x.2.1):(a==sysModules)=false/\s.heap.DictOfH (Jiu (mixKind X.prog X.w)) a xs:=by
 obtain⟨⟨d,f,o,g,h,i,j,k,l⟩,_⟩:=(show Vz X.prog X.w H s.heap a (Rg a xs)from I.hok a _ e)
 exact⟨d,o,g,h,i,j,k,l,λx m=>Jt8 I (c x m),f⟩
def Jwf(c:A.units+2<Dc):(Jiu (mixKind P w)).room A.in1:=by
 have d:A.in1.units<=A.units+1:=by simp[Around.in1,Around.units]<;>omega
 exact⟨by omega,D1 (by omega)⟩
def Jzq(I:Inv X pins σ H s)(e:H a=some (Rg a xs)):s.TypeIs (.ref a) "dict":=by
 obtain⟨⟨f,g,o,h,i,c,d,j,k⟩,_⟩:=(show Vz X.prog X.w H s.heap a (Rg a xs)from I.hok a _ e)
 exact⟨o,c,d.1⟩
def Jyq{p:Addr×Value}{Q:Value->Shared->Prop}(d:A.units+2<Dc)(I:Inv X pins σ H s)(e:H a=some (Rg a xs))(f:∀x∈xs,W6 X.K H x.1 x.2.1)(g:W6 X.K H r b)(hp:Hn xs r=some p)
  (h:∀c,Inv X pins σ H c->Q p.2 c):wpAny (model X.prog X.w) A (Ls (.ref a) (.ref b)) Q E s:=by
 obtain⟨j,dd⟩:=Jwh I e f;have i:(Jiu (mixKind X.prog X.w)).room A.in1:=Jwf d;exact Uq i (Jt8 I g) dd hp (h _ (I.tok _))
def Jwg{h:Heap}{o:Obj}{es:Array Cc}(d:(a==sysModules)=false)(e:(xs.map (·.1)).Nodup)(c:h.get? a=some o)(f:o.ExactDict)(g:o.data=.dict es ep)(i:es.toList=xs.map (entryOfKey (Jiu (mixKind P w)))):Vz P w H h a (Rg a xs):=
 ⟨⟨d,e,o,es,ep,c,f,g,i⟩,⟨o,c⟩,λg1 g2 ⟨j,l,o,es,ep,m,n⟩ k=>⟨j,l,o,es,ep,k o m,n⟩⟩
def Jyn{Q:Unit->Shared->Prop}(g:A.units+2<Dc)(I:Inv X pins σ H s)(e:H a=some (Rg a xs))(i:∀x∈xs,W6 X.K H x.1 x.2.1)(j:W6 X.K H r b)(hz:xs.length<sizeLine)
  (h:∀d,Inv X pins σ (upd H a (Rg a (P2 xs r b u))) d->Q () d):wpAny (model X.prog X.w) A (Vi (.ref a) (.ref b) u) Q E s:=by
 obtain⟨k,dd⟩:=Jwh I e i;have l:(Jiu (mixKind X.prog X.w)).room A.in1:=Jwf g;refine Up (hsz:=Ex hz) l (Jt8 I j) dd λv c m=>h _ ?_;obtain⟨q,w,y,f,n,o,p,_,t⟩:=c;exact Jgk I (by rw[e];exact Fp) m ⟨q,f⟩ (Jwg k t f n o p)
def Joo:PE X (.Dict [] [] pos) (λ_ H Q=>∀p,H p=none->Q (.ref p) (upd H p (Rg p []))):=λpins s σ H Q I h=>
 Ov ⟨.ref s.heap.objs.size,_,I.laid (a:=s.heap.objs.size) (o:=Rg s.heap.objs.size []) (t':=s.toks) (λ_ _ q=>Ad _ q) (Ai _) (Jwg (beq_eq_false_iff_ne.mpr (Ef (Ay I.big))) Jp (Ak _ rfl) ⟨rfl,rfl,rfl⟩ rfl rfl),rfl,h _ (I.hok.fresh (Ai _))⟩
end
end L2
namespace LZ
open PySem PyProof.Rows
section
variable {prog:Program} {w:World} {A:Bi} {E:Value->Shared->Prop} {s:Shared}
def item{Q:Value->Shared->Prop}(D:Mp z a b p q u v)(hz:Lh s.heap z a b .none)(ha:Hf s.heap a (.ref p) (.ref q))(hb:Hf s.heap b c0 I)
  (h1:s.heap.IsListIter p u m)(h2:s.heap.IsTupleIter q v n)(hu:s.heap.IsList u us)(hv:s.heap.IsTuple v vs)(hx:us[m]? =some x)(hy:vs[n]? =some y)
  (k:∀h',Lh h' z a b (rawInt s.heap.objs.size)->Hf h' b x y->h'.IsListIter p u (m+1)->h'.IsTupleIter q v (n+1)->Hf h' s.heap.objs.size x y->h'.objs.size=s.heap.objs.size+1->
   (∀c o,c≠z->c≠b->c≠p->c≠q->s.heap.get? c=some o->h'.get? c=some o)->Q (.ref s.heap.objs.size) {s with heap:=h'}):
  wpAny (model prog w) A (Builtin.«zip.__next__» ⟨[.ref z],[]⟩) (λfin s'=>∃v,fin=.done (.ret v)/\Q v s') E s:=by
 show wpAny _ A (Rh (.ref z) 2>>=_) _ _ s;refine Aa (Cj hz rfl (x:=.bool false) rfl (?_:wpAny _ A (Rh (.ref z) 3>>=_) _ _ s));refine Aa (Cj hz rfl (x:=.ref a) rfl (Aa (Eo ha rfl (?_:wpAny _ A (Cg (.ref z)>>=_) _ _ s))));refine Aa (m:=Cg (.ref z)) ?_;unfold Cg;refine Aa (Cj hz rfl (x:=.none) rfl (Ab ?_));simp only[if_true];refine Aa (Dn (Aa (Cj hz rfl (x:=.ref b) rfl (Aa (C0 hz (by simp) λg1 J d=>?_)))))
 replace J:Lh g1 z a b .ellipsis:=J
 refine Aa ?_;simp only[Ni,Ts,Jc,Ug];refine Aa (Aa (Q0 ?_));show wpAny _ _ (C3 (.ref p)>>=_) _ _ _;refine Aa (wpAny_nextOf_list_item (h1.extBut d.extBut D.i1z) (hu.extBut d.extBut D.l1z) hx λg2 r2 g=>Ab ?_);have b2:Hf g2 b c0 I:=g.extBut _ _ D.TOi1 (d.extBut _ _ D.TOz hb);refine Aa (Eo b2 rfl (Aa (Sv b2 λg3 L h=>?_)))
 replace L:Hf g3 b x I:=L
 refine Aa (O8 (Ab ?_));refine Aa (Aa (Q0 ?_));show wpAny _ _ (C3 (.ref q)>>=_) _ _ _;refine Aa (nx (((h2.extBut d.extBut D.i2z).extBut g.extBut D.i12.symm).extBut h.extBut D.TOi2.symm) (((hv.extBut d.extBut D.l2z).extBut g.extBut D.l2i1).extBut h.extBut D.l2TO) hy λg4 r4 i=>Ab ?_);have b4:Hf g4 b x I:=i.extBut _ _ D.TOi2 L;refine Aa (Eo b4 rfl (Aa (Sv b4 λg5 r j=>?_)))
 replace r:Hf g5 b x y:=r
 refine Aa (O8 (Ab (Ab (Aa (Eo r rfl (Aa (Qd ?_)))))));have sz:g5.objs.size=s.heap.objs.size:=by rw[j.1,i.1,h.1,g.1,d.1]
 have z5:Lh g5 z a b .ellipsis:=j.extBut _ _ D.TOz.symm (i.extBut _ _ D.i2z.symm (h.extBut _ _ D.TOz.symm (g.extBut _ _ D.i1z.symm J)));have k5:∀c o,c≠z->c≠b->c≠p->c≠q->s.heap.get? c=some o->g5.get? c=some o:=λc o f t N U e=>j.extBut _ _ t (i.extBut _ _ U (h.extBut _ _ t (g.extBut _ _ N (d.extBut _ _ f e))));have r5:g5.IsListIter p u (m+1):=((r2.extBut h.extBut D.TOi1.symm).extBut i.extBut D.i12).extBut j.extBut D.TOi1.symm;have w5:g5.IsTupleIter q v (n+1):=r4.extBut j.extBut D.TOi2.symm;have lz:z<g5.objs.size:=An z5;show wpAny _ _ (Jo (.ref z) (.ref g5.objs.size)>>=_) _ _ _;refine Aa ?_;unfold Jo;have z6:Lh (g5.push {cls:=.type "tuple",data:=.seq #[x,y]}) z a b .ellipsis:=Ad _ z5;refine Aa (C0 z6 (by simp) λg7 Y t7=>?_)
 replace Y:Lh g7 z a b (rawInt g5.objs.size):=Y
 refine C0 Y (by simp) λl C t8=>?_
 replace C:Lh l z a b (rawInt g5.objs.size):=C
 have H:∀c o,c≠z->g5.get? c=some o->l.get? c=some o:=λc o f e=>t8.extBut _ _ f (t7.extBut _ _ f (Ad _ e));have n8:Hf l g5.objs.size x y:=t8.extBut _ _ (Cy lz) (t7.extBut _ _ (Cy lz) (Ak _ rfl));have s8:l.objs.size=g5.objs.size+1:=by rw[t8.1,t7.1,Cq]
 rw[sz]at C n8 s8;refine Ab ⟨_,rfl,(?_:Q (.ref g5.objs.size) _)⟩;rw[sz];exact k l C (H _ _ D.TOz r) (r5.at λo e=>H _ o D.i1z e) (w5.at λo e=>H _ o D.i2z e) n8 s8 λc o f t N U e=>H c o f (k5 c o f t N U e)
def last{Q:Fin->Shared->Prop}(t:A.handled=none)(D:Mp z a b p q u v)(hz:Lh s.heap z a b .none)(y:Hf s.heap a (.ref p) (.ref q))
  (C:s.heap.IsListIter p u m)(H:s.heap.IsList u us)(I:us[m]? =none)
  (k:∀h' e,(∀c o,c≠z->c≠b->c≠p->c≠q->s.heap.get? c=some o->h'.get? c=some o)->(∃o,h'.get? e=some o/\o.cls=.type "StopIteration")->E (.ref e) {s with heap:=h'}):
  wpAny (model prog w) A (Builtin.«zip.__next__» ⟨[.ref z],[]⟩) Q E s:=by
 show wpAny _ A (Rh (.ref z) 2>>=_) _ _ s;refine Aa (Cj hz rfl (x:=.bool false) rfl (?_:wpAny _ A (Rh (.ref z) 3>>=_) _ _ s));refine Aa (Cj hz rfl (x:=.ref a) rfl (Aa (Eo y rfl (?_:wpAny _ A (Cg (.ref z)>>=_) _ _ s))));refine Aa (m:=Cg (.ref z)) ?_;unfold Cg;refine Aa (Cj hz rfl (x:=.none) rfl (Ab ?_));simp only[if_true];refine Aa (Dn (Aa (Cj hz rfl (x:=.ref b) rfl (Aa (C0 hz (by simp) λg1 d f=>?_)))))
 replace d:Lh g1 z a b .ellipsis:=d
 refine Aa ?_;simp only[Ni,Ts,Jc,Ug];refine Aa (Aa (Q0 ?_));show wpAny _ _ (C3 (.ref p)>>=_) _ _ _;refine Aa (wpAny_nextOf_list_end t (C.extBut f.extBut D.i1z) (H.extBut f.extBut D.l1z) I λg2 e h ⟨J,g,i⟩=>?_);have j:Lh g2 z a b .ellipsis:=h _ _ D.i1z.symm d;have L:e≠z:=λr=>by subst r;rw[j]at g;cases g;simp at i
 exact C0 j (by simp) λg3 _ l=>k g3 e (λc o n _ N _ r=>l.extBut _ _ n (h _ _ N (f.extBut _ _ n r))) ⟨J,l.extBut _ _ L g,i⟩
def go{Q:Option Value->Shared->Prop}(D:Mp z a b p q u v)(hz:Lh s.heap z a b .none)(e:Hf s.heap a (.ref p) (.ref q))(f:Hf s.heap b U Y)
  (g:s.heap.IsListIter p u m)(h:s.heap.IsTupleIter q v n)(i:s.heap.IsList u us)(j:s.heap.IsTuple v vs)(l:us[m]? =some x)(r:vs[n]? =some y)
  (k:∀h',Lh h' z a b (rawInt s.heap.objs.size)->Hf h' b x y->h'.IsListIter p u (m+1)->h'.IsTupleIter q v (n+1)->Hf h' s.heap.objs.size x y->h'.objs.size=s.heap.objs.size+1->
   (∀c o,c≠z->c≠b->c≠p->c≠q->s.heap.get? c=some o->h'.get? c=some o)->Q (some (.ref s.heap.objs.size)) {s with heap:=h'}):wpAny (model prog w) A (pyNext (.ref z)) Q E s:=by
 have d:s.TypeIs (.ref z) "zip":=⟨_,hz,rfl⟩
 unfold pyNext;exact Aa (E6 (By (name:=Ac "__next__") d Lm (Bp Lm d U5 (item D hz e f g h i j l r λh' t C H I J L N=>Ab (k h' t C H I J L N)) (T4 _))))
def stop{Q:Option Value->Shared->Prop}(f:A.handled=none)(D:Mp z a b p q u v)(hz:Lh s.heap z a b .none)(g:Hf s.heap a (.ref p) (.ref q))
  (h:s.heap.IsListIter p u m)(i:s.heap.IsList u us)(j:us[m]? =none)
  (k:∀h',(∀c o,c≠z->c≠b->c≠p->c≠q->s.heap.get? c=some o->h'.get? c=some o)->Q none {s with heap:=h'}):wpAny (model prog w) A (pyNext (.ref z)) Q E s:=by
 have d:s.TypeIs (.ref z) "zip":=⟨_,hz,rfl⟩
 unfold pyNext;refine Aa (E6 (By (name:=Ac "__next__") d Lm (Bp Lm d U5 (last f D hz g h i j λh' e l ⟨o,n,r⟩=>?_) (T4 _))));exact Aa (Eh (T:="StopIteration") (b:=true) ⟨o,n,r⟩ Qf (Ab (k _ l)))
end
noncomputable abbrev g1(h:Heap)(u:Addr):Heap:=h.push {cls:=.type "list_iterator",data:=.fields #[.ref u,.int 0 0]}
abbrev g2(h:Heap)(u v:Addr):Heap:=(g1 h u).push {cls:=.type "tuple_iterator",data:=.fields #[.ref v,.int 0 0]}
abbrev g3(h:Heap)(u v:Addr):Heap:=(g2 h u v).push {cls:=.type "tuple",data:=.seq #[.ref h.objs.size,.ref (g1 h u).objs.size]}
abbrev g4(h:Heap)(u v:Addr):Heap:=(g3 h u v).push {cls:=.type "tuple",data:=.seq #[.none,.none]}
abbrev g5(h:Heap)(u v:Addr):Heap:=(g4 h u v).push {cls:=.type "zip",data:=.fields #[.none,.bool false,.bool false,.ref (g2 h u v).objs.size,.ref (g3 h u v).objs.size]}
def made(u v:Addr)(us vs:Array Value):Meets (Builtin.«zip.__new__» ⟨[.type "zip",.ref u,.ref v],[]⟩) (λ_ R s=>s.heap.IsList u us/\s.heap.IsTuple v vs/\R (.ok (.ret (.ref (g4 s.heap u v).objs.size))) {s with heap:=g5 s.heap u v}):=
 .of_wp λa w A R s ⟨b,c,h⟩=>by
  obtain⟨hp,g,d,tk,os⟩:=s;have i:=sub_zip;have e:Heap.IsList (P4 ⟨hp,g,d,tk,os⟩) u us:=b;have f:Vp (P4 ⟨hp.push {cls:=.type "list_iterator",data:=.fields #[.ref u,.int 0 0]},g,d,tk,os⟩) v vs:=Heap.IsTuple.push c _
  wp_walk using G3 e,Kn f
  exact⟨_,rfl,h⟩
def new{E:Value->Shared->Prop}{s:Shared}{Q:Value->Shared->Prop}(p:s.heap.IsList u us)(t:s.heap.IsTuple v vs)
  (k:∀h',Lh h' (s.heap.objs.size+4) (s.heap.objs.size+2) (s.heap.objs.size+3) .none->Hf h' (s.heap.objs.size+2) (.ref s.heap.objs.size) (.ref (s.heap.objs.size+1))->Hf h' (s.heap.objs.size+3) .none .none->
   h'.IsListIter s.heap.objs.size u 0->h'.IsTupleIter (s.heap.objs.size+1) v 0->h'.objs.size=s.heap.objs.size+5->(∀c o,s.heap.get? c=some o->h'.get? c=some o)->Q (.ref (s.heap.objs.size+4)) {s with heap:=h'}):
  wpAny (model prog w) A (call (.type "zip") [.ref u,.ref v]) Q E s:=by
 refine callType_new F.called_zip (by decide) (F.typeCall_zip_2 _ _) (F.newCall_zip_2 _ _) (λb=>F.args_object_init_3 b _ _) F.entry_zip_new (made u v us vs) ⟨p,t,?_⟩;have d:(g1 s.heap u).objs.size=s.heap.objs.size+1:=Cq ..;have f:(g2 s.heap u v).objs.size=s.heap.objs.size+2:=by rw[Cq,d]
 have g:(g3 s.heap u v).objs.size=s.heap.objs.size+3:=by rw[Cq,f]
 have i:(g4 s.heap u v).objs.size=s.heap.objs.size+4:=by rw[Cq,g]
 have x:(g5 s.heap u v).objs.size=s.heap.objs.size+5:=by rw[Cq,i]
 have a:∀{h:Heap} {c:Addr} {o y:E8},h.get? c=some o->(h.push y).get? c=some o:=λe=>Ad _ e;have j:(g5 s.heap u v).get? (g4 s.heap u v).objs.size=some _:=Ak _ rfl;have l:(g5 s.heap u v).get? (g3 s.heap u v).objs.size=some _:=a (Ak _ rfl);have m:(g5 s.heap u v).get? (g2 s.heap u v).objs.size=some _:=a (a (Ak _ rfl));have n:(g5 s.heap u v).get? (g1 s.heap u).objs.size=some _:=a (a (a (Ak _ rfl)));have z:(g5 s.heap u v).get? s.heap.objs.size=some _:=a (a (a (a (Ak _ rfl))));show _/\_;rw[f,g,i]at j;rw[d,f]at m;rw[g]at l;rw[d]at n;rw[i];exact⟨⟨_,j,rfl⟩,k _ j m l ⟨_,z,rfl,rfl⟩ ⟨_,n,rfl,rfl⟩ x λc o r=>a (a (a (a (a r))))⟩
end LZ
namespace L2
open PySem PySem.Spec PyProof.Rows
def Izz(K:Ag)(u v:Addr)(ys:List V):It:=
 ⟨λi H=>∃a x y,SqL K H u a/\SqT K H v ys/\a[i]? =some x/\ys[i]? =some y,
  λi H w b=>∃p x y,H p=none/\w=.ref p/\b=upd H p (.tup [x,y])/\(∀a,SqL K H u a->a[i]? =some x)/\ys[i]? =some y,
  λi H=>∃a,SqL K H u a/\a.length<=i⟩
def Wcc(z a b p q u v:Addr)(i:Nat)(h:Heap):Prop:=Lh h z a b .none/\Hf h a (.ref p) (.ref q)/\(∃c d,Hf h b c d)/\h.IsListIter p u i/\h.IsTupleIter q v i
def Jk4{P:Program}{w:World}{K:Ag}{J:List Expr}{x1:Nat}{tp:Pos}(z a b p q u v:Addr)(ys:List V)(ap:Mp z a b p q u v):
  Turn P w K (.Tuple J x1 tp) (Izz K u v ys) [z,a,b,p,q] z (Wcc z a b p q u v)where
 mem:=by simp
 obj:=λi h st c d=>by
  obtain⟨j,g,⟨_,_,m⟩,⟨o1,e1,c1,d1⟩,⟨o2,e2,c2,d2⟩⟩:=st;simp only[Am,Bf,or_false]at d;rcases d with rfl|rfl|rfl|rfl|rfl
  .exact⟨_,j,λv q=>by cases q⟩
  .exact⟨_,g,λv q=>by cases q⟩
  .exact⟨_,m,λv q=>by cases q⟩
  .exact⟨o1,e1,λv q=>by rw[d1]at q;cases q⟩
  .exact⟨o2,e2,λv q=>by rw[d2]at q;cases q⟩
 keep:=λi h h' st k=>by
  obtain⟨j,g,⟨_,_,m⟩,h1,C⟩:=st;exact⟨k z (by simp) _ j,k a (by simp) _ g,⟨_,_,k b (by simp) _ m⟩,h1.at λo e=>k p (by simp) o e,C.at λo e=>k q (by simp) o e⟩
 item:=by
  intro X hP hw hK d i f s σ H E I hf st hg;subst hP hw hK;obtain⟨xs,x,y,l,hq2,hx,hy⟩:=hg;have ho:∀c∈[z,a,b,p,q],∃o,s.heap.get? c=some o:=λc d=>by
   obtain⟨j,g,⟨_,_,m⟩,⟨o1,e1,_⟩,⟨o2,e2,_⟩⟩:=st;simp only[Am,Bf,or_false]at d;rcases d with rfl|rfl|rfl|rfl|rfl
   .exact⟨_,j⟩
   .exact⟨_,g⟩
   .exact⟨_,m⟩
   .exact⟨_,e1⟩
   .exact⟨_,e2⟩
  obtain⟨j,g,⟨_,_,m⟩,hi1,L⟩:=st;obtain⟨N,A,p1,_⟩:=I.list l;obtain⟨its2,rv2,p2,_⟩:=I.tuple hq2;obtain⟨n,hm1,ru⟩:=A.get hx;obtain⟨t,hm2,rv⟩:=rv2.get hy;refine LZ.go ap j g m hi1 L p1.isList p2 (x:=n) (y:=t) (by simpa using hm1) (by simpa using hm2) λh' z1 to1 j1 j2 pr sz Y=>?_;refine⟨_,rfl,wpAny_letOwnedTupleGo_zip (s:={s with heap:=h'}) z1 λC z2 Q=>?_⟩;have hf0:H s.heap.objs.size=none:=I.hok.fresh (Ai _);have I0:Inv X f σ (upd H s.heap.objs.size (.tup [x,y])) {s with heap:=s.heap.push {cls:=.type "tuple",data:=.seq #[n,t]},toks:=s.toks}:=
   I.laid (t':=s.toks) (λb o e=>Ad _ e) (Ai _) ⟨by show 2<=sizeLine;decide,[n,t],.cons ru (.cons rv .nil),⟨_,Ak _ rfl,rfl,_,rfl⟩⟩
  have neT:∀c∈[z,a,b,p,q],c≠s.heap.objs.size:=λc d e=>by
   obtain⟨o,r⟩:=ho c d;exact absurd (An r) (by rw[e];exact Ey _)
  have U:∀c∈[z,a,b,p,q],Xf X f (upd H s.heap.objs.size (.tup [x,y])) c:=λc d=>by
   obtain⟨f0,f1,f2,f3,f4,f5⟩:=hf c d;exact⟨by rw[Jad (neT c d)];exact f0,f1,f2,f3,f4,f5⟩
  have I1:Inv X f σ (upd H s.heap.objs.size (.tup [x,y])) {s with heap:=C,toks:=s.toks}:=by
   refine Inv.turnedL (s:={s with heap:=s.heap.push {cls:=.type "tuple",data:=.seq #[n,t]},toks:=s.toks}) (h':=C) (t':=s.toks) (fp:=[z,a,b,p,q]) I0 (λc o d e=>?_) U
   replace e:(s.heap.push {cls:=.type "tuple",data:=.seq #[n,t]}).get? c=some o:=e
   simp only[Am,Bf,or_false,not_or]at d;obtain⟨b1,b2,b3,b4,b5⟩:=d;rw[Q.2 c b1]
   by_cases hT:c=s.heap.objs.size
   .subst hT;have:(s.heap.push {cls:=.type "tuple",data:=.seq #[n,t]}).get? s.heap.objs.size=some {cls:=.type "tuple",data:=.seq #[n,t]}:=Ak _ rfl;rw[this]at e;cases e;exact pr
   .have e':s.heap.get? c=some o:=by
     rw[R8 _ _ _ hT]at e;exact e
    exact Y c o b1 b3 b4 b5 e'
  refine⟨.ref s.heap.objs.size,_,I1,rfl,⟨_,x,y,hf0,rfl,rfl,λzs hz'=>by rw[I.list_inj hz' l];exact hx,hy⟩,⟨z2,?_,⟨n,t,?_⟩,?_,?_⟩,λc d=>(U c d).1⟩
  .show C.get? a=_;rw[Q.2 a ap.TIz];exact Y a _ ap.TIz ap.TITO ap.TIi1 ap.TIi2 g
  .show C.get? b=_;rw[Q.2 b ap.TOz];exact to1
  .exact j1.at λo e=>(Q.2 p ap.i1z).trans e
  .exact j2.at λo e=>(Q.2 q ap.i2z).trans e
 done:=by
  intro X hP hw hK d i f s σ H E I hf st hg;subst hP hw hK;obtain⟨xs,l,hl⟩:=hg;obtain⟨j,g,⟨_,_,m⟩,hi1,L⟩:=st;obtain⟨N,A,p1,_⟩:=I.list l;have l1:=A.length;refine LZ.stop (I.ok.hd d) ap j g hi1 p1.isList (by simp;lia) λh' Y=>⟨rfl,I.turnedL (t':=s.toks) (fp:=[z,a,b,p,q]) (λc o d e=>?_) hf⟩
  simp only[Am,Bf,or_false,not_or]at d;exact Y c o d.1 d.2.2.1 d.2.2.2.1 d.2.2.2.2 e
 self:=λ_ _ _ _ _ st h=>wpAny_pyIter_zip st.1 h
def Wbw(K:Ag)(b:TA):TI:=λc H R=>b c H λd H1=>∃u v e a,d=[.ref u,.ref v]/\SqL K H1 u e/\SqT K H1 v a/\R (Izz K u v a) H1
theorem boot_zip:Dx "zip"=some (.type "zip"):=by rfl
def Jky{n a b:Nat}(c:a<n)(d:b<n):Mp (n+4) (n+2) (n+3) n (n+1) a b:=by
 constructor<;>(intro e;replace e:@Eq Nat _ _:=e;lia)
theorem Jtl{X:Cx}{a b:Expr}{w:TA}{p pos:Pos}{d:List Expr}{J:Nat}{L:Pos}(N:Gl X "zip")(Q:X.mg "zip"=none)(U:PA X [a,b] w)(Y:B4 [a,b] X.env=[(false,eval a X.env),(false,eval b X.env)])(f:B4 [b] X.env=[(false,eval b X.env)]):
  PI X (.Tuple d J L) (.Call (.Name "zip" p) [a,b] [] pos) (Wbw X.K w):=by
 intro g s σ H R I h;refine To (Jck I N Q boot_zip (Dl (thn (U pos g s σ H _ I h) λus c ⟨vs,H1,i,r1,q1⟩=>?_) (by rw[Y,f]) (by rw[f];rfl)) (by decide) (by decide));obtain⟨u,v,xs,ys,e,k,l,q⟩:=q1;subst e;cases r1 with
 |cons r m=>
  cases m with
  |cons r' m=>
   cases m;cases r;cases r';obtain⟨x,rv1,y,_⟩:=i.list k;obtain⟨z,rv2,A,_⟩:=i.tuple l;have n:u<c.heap.objs.size:=y.lt;have t:v<c.heap.objs.size:=by obtain⟨o,e,_⟩:=id A;exact An e
   refine LZ.new y.isList A λh' C ti to j1 j2 sz kk=>?_;refine wpAny_pyIter_zip (s:={c with heap:=h'}) C ?_;have ap:Mp (c.heap.objs.size+4) (c.heap.objs.size+2) (c.heap.objs.size+3) c.heap.objs.size (c.heap.objs.size+1) u v:=Jky n t;refine⟨c.heap.objs.size+4,_,_,_,H1,rfl,i.kept (t':=c.toks) kk,Jk4 _ _ _ _ _ u v ys ap,⟨C,ti,⟨_,_,to⟩,j1,j2⟩,λb E=>?_,q⟩;have j:c.heap.objs.size<=b:=by
    simp only[Am,Bf,or_false]at E;rcases E with rfl|rfl|rfl|rfl|rfl
    .exact Iw _ _
    .exact Iw _ _
    .exact Iw _ _
    .exact Ai _
    .exact Iw _ _
   exact i.fpOk j (i.hok.fresh j)
open PySem PySem.Spec PyProof.Rows Rdc Rdu
def UpD(H:Hp)(a:Addr)(kvs:List (List Key×V))(ps:List Rdu.PK):Prop:=Rd H a (.dT kvs)/\kvs.map (·.1)=ps.map pK/\Sm ps/\kvs.length<sizeLine
section
variable {X:Cx}
def Jhq(f:X.calm=true):We X (.builtin "sorted") (λxs H Q=>∃a kvs ps,xs=[.ref a]/\UpD H a kvs ps/\∀(p:Addr) (bs:List Addr) (c:List Rdu.PK),H p=none->c.Perm ps->c.Pairwise (λx y=>rkP x<=rkP y)->bs.length=c.length->(∀(i:Nat) (b:Addr) (q:Rdu.PK),bs[i]? =some b->c[i]? =some q->H b=some (.tup ((pK q).map kV)))->Q (.ref p) (upd H p (.lst (bs.map V.ref)))):=by
 intro d s v H xs w Q I r h;obtain⟨a,kvs,ps,rfl,⟨e,g,j,k⟩,q⟩:=h;obtain⟨u,rfl,l⟩:=vals1 r;cases l;exact Jmw (I.ok.hd f) I e g j k λp bs c z hp m sl n o t=>⟨.ref p,_,t,rfl,q p bs c hp m sl n o⟩
def Jft:We X (.type "dict") (λxs H Q=>∃a,xs=[.ref a]/\((∃kvs,Rd H a (.dK kvs)/\∀p,H p=none->Q (.ref p) (upd H p (.dK kvs)))\/∃kvs,Rd H a (.dT kvs)/\Apart X.prog X.w kvs/\∀p,H p=none->Q (.ref p) (upd H p (.dT kvs)))):=by
 intro c s i H xs j Q I r h;obtain⟨a,rfl,q⟩:=h;obtain⟨u,rfl,d⟩:=vals1 r;cases d;rcases q with⟨kvs,e,q⟩|⟨kvs,e,f,q⟩
 .exact Jpw I e λp g hp b=>⟨.ref p,_,b,rfl,q p hp⟩
 .exact Jur I e f λp g hp b=>⟨.ref p,_,b,rfl,q p hp⟩
def Jm6:We X (.builtin "len") (λxs H Q=>∃a kvs,xs=[V.ref a]/\H a=some (.dK kvs)/\Q (.int kvs.length) H):=by
 intro b s f H xs g Q I r h;obtain⟨a,kvs,rfl,c,q⟩:=h;obtain⟨u,rfl,d⟩:=vals1 r;cases d;exact J0r I (.inl c) λt i e=>⟨.int kvs.length,H,e,⟨t,rfl⟩,q⟩
theorem boot_dict:Dx "dict"=some (.type "dict"):=by rfl
theorem boot_sorted:Dx "sorted"=some (.builtin "sorted"):=by rfl
def Wbc(e:TE):TE:=λf H Q=>e f H λx H1=>∃a c g,x=.ref a/\UpD H1 a c g/\∀(p:Addr) (b:List (List Key×V)) (d:List Rdu.PK),H1 p=none->b.Perm c->b.map (·.1)=d.map pK->d.Pairwise (λx y=>rkP x<=rkP y)->Q (.ref p) (upd H1 p (.dT b))
def Jts{ap cp:Pos}(t:X.calm=true)(u:X.A.units+8<Dc)(g1:Gl X "dict")(w:X.mg "dict"=none)(g2:Gl X "sorted")(y:X.mg "sorted"=none)(z:PE X o A)
  (d:attributeBase o "items" X.env (eval o X.env)=eval o X.env)(f:(ap.endLine==cp.line)=true):PE X (.Call (.Name "dict" p1) [.Call (.Name "sorted" C) [.Call (.Attribute o "items" ap) [] [] cp] [] b] [] g) (Wbc A):=by
 intro c s n H Q I h;refine To (Jck I g1 w boot_dict (Dl ?_ rfl rfl) (by decide) (by decide));show wpAny _ _ (R0 ((false,eval (.Call (.Name "sorted" C) [.Call (.Attribute o "items" ap) [] [] cp] [] b) X.env)::Ga g (B4 [] X.env))) _ _ s;refine Jm (To (Jck I g2 y boot_sorted (Hq ?_ rfl rfl) (by decide) (by decide)));show wpAny _ _ (R0 ((false,eval (.Call (.Attribute o "items" ap) [] [] cp) X.env)::Ga b (B4 [] X.env))) _ _ s;refine Jm (Rc d f (thn (z c s n H _ I h) λv s1 ⟨x,H1,j,E,J⟩=>?_));obtain⟨a,k,ps,rfl,⟨e,L,N,U⟩,q⟩:=J;cases E;obtain⟨Y,h2,_⟩:=Jq9 j (.inr ⟨k,e⟩);refine⟨"dict","dict.items",Hh,Oe,PySem.F.type_dict_items,Y,h2,Kx rfl (Qp ?_)⟩;refine thn (Jyp (j.ok.hd t) u j e L N U λp s' i qs hp pm m sl I'=>(⟨.ref p,_,I',rfl,q p i qs hp pm m sl⟩:EP X c n Q (.ref p) s')) λr s2 hr=>Jz (thn hr λl s3 hl=>Jz hl)
theorem Ju2:Dx "len"=some (.builtin "len"):=by rfl
theorem Ju1:Dx "set"=some (.type "set"):=by rfl
def dst(ps:List Rdu.PK):Nat:=(Sbl.dd (λi=>[(ps.getD i (0,0)).1,(ps.getD i (0,0)).2]) ps.length).length
def tLs(K:Ag)(c:TA):TE:=λd H Q=>c d H λe H1=>∃p bs a,e=[.ref p]/\SqL K H1 p (bs.map V.ref)/\Paired (λk b=>SqT K H1 b ((pK k).map kV)) a bs/\a.length<4/\Q (.int (dst a)) H1
def Jlr{e:Expr}{J:TA}{p1 L c a:Pos}(hc:X.calm=true)(hu:X.A.units+9<Dc)(g1:Gl X "len")(m1:X.mg "len"=none)(g2:Gl X "set")(m2:X.mg "set"=none)(he:PA X [e] J)(hs:B4 [e] X.env=[(false,eval e X.env)]):
  PE X (.Call (.Name "len" p1) [.Call (.Name "set" L) [e] [] a] [] c) (tLs X.K J):=by
 intro g s σ H Q I h;refine To (Jck I g1 m1 Ju2 (Hq ?_ rfl rfl) (by decide) (by decide));show wpAny _ _ (R0 ((false,eval (.Call (.Name "set" L) [e] [] a) X.env)::Ga c (B4 [] X.env))) _ _ s;refine Jm (To (Jck I g2 m2 Ju1 (Dl (thn (he a g s σ H _ I h) λus s1 ⟨vs,H1,C,r1,q1⟩=>?_) (by rw[hs];rfl) rfl) (by decide) (by decide)));obtain⟨p,bs,d,e1,hq,hp,hz,q⟩:=q1;subst e1;obtain⟨u,rfl,rx⟩:=vals1 r1;cases rx;obtain⟨l,N,pl,_⟩:=C.list hq;have E:=N.length;rw[Ah,<-Cr hp]at E;have r:l.toArray.size=d.length:=by rw[Aq,E]
 refine Sbl.Jm3 (ks:=λi=>[(d.getD i (0,0)).1,(d.getD i (0,0)).2]) (I.ok.hd hc) hu pl.isList (λj v A=>?_) (by rw[r];exact hz) λh' tk m=>?_
 .have A:l[j]? =some v:=by simpa using A
  have U:j<bs.length:=by rw[<-Cr hp,E];exact(Ae.mp A).1
  obtain⟨u,w,ru⟩:=N.get (show(bs.map V.ref)[j]? =some (.ref bs[j]) by rw[Ao,Af U];rfl);rw[A]at w;cases w;cases ru;obtain⟨k,hk,sk⟩:=Jek hp (Af U);refine⟨_,rfl,?_⟩;rw[E3,hk];obtain⟨x,y,⟨o,g1,g2,n,g3⟩,_⟩:=C.tuple sk;refine⟨o,x.toArray,n,g1,g2,g3,?_⟩;cases y with
  |cons a1 y=>
   cases y with
   |cons a2 y=>
    cases y;obtain⟨t,rfl⟩:=(show∃t,_=Eb k.1 t from a1)
    obtain⟨t2,rfl⟩:=(show∃t,_=Eb k.2 t from a2)
    exact .cons (by simp[intKind,Jy]) (.cons (by simp[intKind,Jy]) .nil)
 .rw[r]at m;obtain⟨⟨kb,⟨o,es,ep,t,ho,hx,hd,z,T⟩,pm⟩,kp⟩:=m;have Y:es.size=dst d:=by
   rw[<-Bs,z,Ah,<-Ah (f:=(·.1)),pm.length_eq];rfl
  refine Jz (PySem.call_len_set (s:={s1 with heap:=h',toks:=tk}) ho hx hd (T.fits z) (by rw[Y];have:dst d<=d.length:=Sbl.Jhh _ _;lia) ?_);exact⟨.int (dst d),H1,C.kept (t':=tk+1+1) λb o e=>kp b o (An e) e,⟨tk+1,by rw[Y]⟩,q⟩
end
end L2
set_option genSizeOf false
namespace Mi
open PySem L2
inductive D where
 |non|bl (b:Bool)|int (i:Int)|str (x:Str)|tup (ds:List D)|loc (l:Nat)|kl (ds:List D)|kd (kvs:List (Str×Int))
 deriving Inhabited
inductive Obj where
 |lst (ds:List D)|dct (kvs:List (Int×D))|dtu (kvs:List (Rdu.PK×D))|rg (kvs:List (RK×D))|ins (c:String) (fs:List (String×D))
 deriving Inhabited
abbrev Store:=List Obj
abbrev En:=List (Option D)
inductive Res (α:Type)where
 |ok (a:α) (S:Store)|err (c:String) (Z:En) (S:Store)|bad
noncomputable def Res.bind{α b:Type}(r:Res α)(f:α->Store->Res b):Res b:=match r with
 |.ok a S=>f a S
 |.err c Z S=>.err c Z S
 |.bad=>.bad
@[simp]theorem Res.bind_ok{α b:Type}(a:α)(S:Store)(f:α->Store->Res b):(Res.ok a S).bind f=f a S:=rfl
@[simp]theorem Res.bind_err{α b:Type}(c:String)(Z:En)(S:Store)(f:α->Store->Res b):(Res.err c Z S:Res α).bind f=.err c Z S:=rfl
@[simp]theorem Res.bind_bad{α b:Type}(f:α->Store->Res b):(Res.bad:Res α).bind f=.bad:=rfl
def Res.bnd{α b:Type}{r:Res α}{f:α->Store->Res b}{a:α}{x:Res b}(h:r=.ok a S)(e:f a S=x):r.bind f=x:=by rw[h];exact e
inductive Bnd {α β:Type} (r:Res α) (f:α->Store->Res β) (b:β) (S':Store):Prop
 |mk (a:α) (S:Store) (_:r=.ok a S) (_:f a S=.ok b S'):Bnd r f b S'
theorem Res.bind_eq_ok{α d:Type}{r:Res α}{f:α->Store->Res d}{b:d}{e:Store}(h:r.bind f=.ok b e):Bnd r f b e:=by
 cases r with
 |ok a S=>exact⟨a,S,rfl,h⟩
 |err c Z S=>cases h
 |bad=>cases h
noncomputable def Line:Nat:=16777216
inductive Bop where|add|sub|mul|fdiv|mod|pow|shr deriving DecidableEq
inductive Cop where|eq|ne|lt|le|gt|ge|isc|isnc|inn|nin deriving DecidableEq
inductive Prim where|len|abs|min2|max2|int1|list1|tuple1|all1|sum1|sort1|dict1 deriving DecidableEq
inductive Meth where|append|pop0|get2|indexT|get1|pop1 deriving DecidableEq
noncomputable def Wf:D->Option V
 |.non=>some .non
 |.bl b=>some (.bl b)
 |.int i=>some (.int i)
 |.str x=>some (.str x)
 |_=>none
noncomputable def seqAt(S:Store)(l:Nat):Option (List D):=match S[l]? with
 |some (.lst a)=>some a
 |_=>none
noncomputable def dctAt(S:Store)(l:Nat):Option (List (Int×D)):=match S[l]? with
 |some (.dct a)=>some a
 |_=>none
noncomputable def dVal{κ a:Type}[DecidableEq κ](kvs:List (κ×a))(k:κ):Option a:=(kvs.find? λp=>decide (p.1=k)).map (·.2)
noncomputable def dPut{κ a:Type}[DecidableEq κ](kvs:List (κ×a))(k:κ)(v:a):List (κ×a):=if kvs.any (λp=>decide (p.1=k))=true then kvs.map (λp=>if p.1=k then(p.1,v)else p)else kvs++[(k,v)]
noncomputable def dDrop{κ a:Type}[DecidableEq κ](kvs:List (κ×a))(k:κ):List (κ×a):=kvs.filter λp=>decide (p.1≠k)
noncomputable def kyD:D->Option Rdu.PK
 |.tup [.int a,.int b]=>some (a,b)
 |_=>none
noncomputable abbrev dK(p:Rdu.PK):D:=.tup [.int p.1,.int p.2]
noncomputable def scK:D->Option Key
 |.int i=>some (.inl i)
 |.str x=>some (.inr x)
 |_=>none
noncomputable def X8{c d:Type}(f:c->Option d):List c->Option (List d)
 |[]=>some []
 |a::r=>match f a,X8 f r with
  |some b,some bs=>some (b::bs)
  |_,_=>none
def rwK:D->Option (List Key)
 |.tup ds=>X8 scK ds
 |_=>none
def lkK:D->Option RK
 |.tup ds=>X8 rwK ds
 |_=>none
def Xt(S:Store)(l:Nat)(y:D):Option (Option D):=match S[l]? with
 |some (.dct a)=>(match y with|.int i=>some (dVal a i)|_=>none)
 |some (.dtu a)=>(kyD y).map (dVal a)
 |_=>none
noncomputable def dtAt(S:Store)(l:Nat):Option (List (Rdu.PK×D)):=match S[l]? with
 |some (.dtu a)=>some a
 |_=>none
noncomputable def aptB(ps:List Rdu.PK):Bool:=ps.all (λp=>decide (0<=p.1)&&decide (p.1<345)&&decide (0<=p.2)&&decide (p.2<3))&&decide ps.Nodup
def srK(ps:List Rdu.PK):List Rdu.PK:=ps.mergeSort λa b=>decide (Rdu.rkP a<=Rdu.rkP b)
def srD(kvs:List (Rdu.PK×D)):List (Rdu.PK×D):=kvs.mergeSort λa b=>decide (Rdu.rkP a.1<=Rdu.rkP b.1)
noncomputable def Xj(S:Store)(l:Nat)(c:String):Option (List (String×D)):=match S[l]? with
 |some (.ins a b)=>if a=c then some b else none
 |_=>none
noncomputable def isDm:Meth->Bool
 |.get1=>true|.pop1=>true
 |_=>false
def rcv(p:Meth)(S:Store)(x:D):Bool:=match x with|.loc l=>if isDm p=true then(dctAt S l).isSome||(dtAt S l).isSome else(seqAt S l).isSome|_=> !isDm p
noncomputable def putD(f:String)(v:D):List (String×D)->List (String×D)
 |[]=>[(f,v)]
 |p::r=>if p.1=f then(p.1,v)::r else p::putD f v r
def Yr(S:Store)(x:D)(c f:String):Option D:=match x with
 |.loc l=>match Xj S l c with|some a=>a.lookup f|none=>none
 |_=>none
def isRec(S:Store)(x:D)(c m:String):Bool:=match x with
 |.loc l=>match Xj S l c with|some a=>(a.lookup m).isNone|none=>false
 |_=>false
def Zv(S:Store)(x:D)(c f:String)(v:D):Option Store:=match x with
 |.loc l=>match Xj S l c with|some a=>if a.length<1000 then some (S.set l (.ins c (putD f v a)))else none|none=>none
 |_=>none
def dIn(x y:D)(S:Store):Option Bool:=match y with
 |.loc l=>(Xt S l x).map Option.isSome
 |_=>none
noncomputable def eqL(f:D->D->Option Bool):List D->List D->Option Bool
 |[],[]=>some true
 |a::as,b::bs=>match f a b,eqL f as bs with
  |some x,some y=>some (x&&y)
  |_,_=>none
 |_,_=>some false
def eqD(S:Store):Nat->D->D->Option Bool
 |0,a,b=>match Wf a,Wf b with
  |some x,some y=>some (eqV x y)
  |_,_=>none
 |n+1,a,b=>match a,b with
  |.tup as,.tup bs=>if as.length=bs.length then eqL (eqD S n) as bs else(if(eqL (eqD S n) (as.take bs.length) (bs.take as.length)).isSome then some false else none)
  |.loc l,.loc k=>match seqAt S l,seqAt S k with
   |some as,some bs=>if as.length=bs.length then eqL (eqD S n) as bs else some false
   |_,_=>none
  |a,b=>match Wf a,Wf b with
   |some x,some y=>some (eqV x y)
   |_,_=>none
noncomputable def Deep:Nat:=12
def anyEq(S:Store)(n:Nat)(x:D):List D->Option Bool
 |[]=>some false
 |y::ys=>match eqD S n y x,anyEq S n x ys with
  |some a,some b=>some (a||b)
  |_,_=>none
noncomputable def small(i:Int):Bool:=decide (-(2^64)<i)&&decide (i<2^64)
noncomputable def mid(i:Int):Bool:=decide (i.natAbs<2^4096)
def bop(o:Bop)(x y:D)(S:Store):Res D:=match o,x,y with
 |.add,.int i,.int j=>.ok (.int (i+j)) S
 |.add,.tup a,.tup b=>if a.length+b.length<=Line then .ok (.tup (a++b)) S else .bad
 |.add,.loc l,.loc k=>match S[l]?,S[k]? with
  |some (.lst a),some (.lst b)=>if a.length+b.length<=Line then .ok (.loc S.length) (S++[.lst (a++b)])else .bad
  |_,_=>.bad
 |.shr,.int i,.int j=>if 0<=j then .ok (.int (i/2^j.toNat)) S else .bad
 |.sub,.int i,.int j=>.ok (.int (i-j)) S
 |.mul,.int i,.int j=>if small i||small j||(mid i&&mid j)then .ok (.int (i*j)) S else .bad
 |.fdiv,.int i,.int j=>if 0<j/\j.natAbs<2^4096 then .ok (.int (i/j)) S else .bad
 |.mod,.int i,.int j=>if 0<j then .ok (.int (i%j)) S else .bad
 |.pow,.int i,.int j=>if decide (0<=j)&&decide (j<=1000000)&&decide (i.natAbs<2^64)then .ok (.int (i^j.toNat)) S else .bad
 |.add,.kl a,.loc k=>match S[k]? with
  |some (.lst b)=>if a.length+b.length<=Line then .ok (.loc S.length) (S++[.lst (a++b)])else .bad
  |_=>.bad
 |_,_,_=>.bad
def V6(S:Store):D->Option (List D)
 |.tup ds=>some ds
 |.loc l=>seqAt S l
 |.kl ds=>some ds
 |_=>none
def Yf(S:Store)(x y:D):Option Bool:=match x,y with
 |.loc l,.loc k=>match dtAt S l,dtAt S k with
  |some a,some b=>if a.length=b.length/\(a.all λp=>match dVal b p.1 with|some d=>eqD S Deep p.2 d==some true|none=>false)=true then some false else none
  |_,_=>none
 |_,_=>none
def cop(o:Cop)(x y:D)(S:Store):Option Bool:=match o with
 |.eq=>eqD S Deep x y
 |.ne=>match Yf S x y with|some b=>some b|none=>(eqD S Deep x y).map (!·)
 |.lt=>match x,y with|.int i,.int j=>some (decide (i<j))|_,_=>none
 |.le=>match x,y with|.int i,.int j=>some (decide (i<=j))|_,_=>none
 |.gt=>match x,y with|.int i,.int j=>some (decide (j<i))|_,_=>none
 |.ge=>match x,y with|.int i,.int j=>some (decide (j<=i))|_,_=>none
 |.isc=>match y with|.non=>some (match x with|.non=>true|_=>false)|_=>none
 |.isnc=>match y with|.non=>some (match x with|.non=>false|_=>true)|_=>none
 |.inn=>match V6 S y with|some a=>anyEq S Deep x a|none=>dIn x y S
 |.nin=>match V6 S y with|some a=>(anyEq S Deep x a).map (!·)|none=>(dIn x y S).map (!·)
def tru(S:Store):D->Option Bool
 |.non=>some false
 |.bl b=>some b
 |.int i=>some (i !=0)
 |.tup ds=>some (!ds.isEmpty)
 |.loc l=>match seqAt S l with|some ds=>some (!ds.isEmpty)|none=>none
 |.kl ds=>some (!ds.isEmpty)
 |_=>none
def idxD(x y:D)(S:Store):Option D:=match V6 S x with
 |some b=>(match y with|.int i=>atI b i|_=>none)
 |none=>match x with
  |.loc l=>match S[l]? with
   |some (.rg a)=>(lkK y).bind (dVal a)
   |_=>(Xt S l y).join
  |_=>none
def cutD(xs:List D)(lo a:Option Int):List D:=(xs.drop (HT.sIx xs.length 0 lo)).take (HT.sIx xs.length xs.length a-HT.sIx xs.length 0 lo)
def Wq(x:D)(lo b:Option Int)(S:Store):Res D:=match x with
 |.tup a=>.ok (.tup (cutD a lo b)) S
 |.loc l=>match seqAt S l with
  |some a=>.ok (.loc S.length) (S++[.lst (cutD a lo b)])
  |none=>.bad
 |.kl a=>.ok (.loc S.length) (S++[.lst (cutD a lo b)])
 |_=>.bad
noncomputable def tyD(S:Store):D->Option String
 |.non=>some "NoneType"
 |.bl _=>some "bool"
 |.int _=>some "int"
 |.str _=>some "str"
 |.tup _=>some "tuple"
 |.loc l=>match S[l]? with|some (.lst _)=>some "list"|_=>none
 |.kl _=>none
 |.kd _=>none
noncomputable def isiD(t c:String):Bool:=t==c||(t=="bool"&&c=="int")
noncomputable def allB:List D->Option Bool
 |[]=>some true
 |.bl b::r=>(allB r).map (b&&·)
 |_=>none
noncomputable def sumI:List D->Option Int
 |[]=>some 0
 |.int i::r=>(sumI r).map (i+·)
 |_=>none
def Vx(p:Prim)(ds:List D)(S:Store):Res D:=match p,ds with
 |.len,[x]=>match V6 S x with
  |some ds=>.ok (.int ds.length) S
  |none=>match x with|.loc l=>(match dctAt S l with|some a=>.ok (.int a.length) S|none=>.bad)|_=>.bad
 |.abs,[.int i]=>.ok (.int (if i<0 then -i else i)) S
 |.max2,[.int i,.int j]=>.ok (.int (if j>i then j else i)) S
 |.min2,[.int i,.int j]=>.ok (.int (if j<i then j else i)) S
 |.int1,[.int i]=>.ok (.int i) S
 |.int1,[.bl b]=>.ok (.int (if b then 1 else 0)) S
 |.list1,[x]=>match V6 S x with
  |some ds=>.ok (.loc S.length) (S++[.lst ds])
  |none=>match x with
   |.loc l=>match dctAt S l with|some a=>.ok (.loc S.length) (S++[.lst (a.map λp=>.int p.1)])|none=>.bad
   |_=>.bad
 |.tuple1,[x]=>match V6 S x with
  |some ds=>.ok (.tup ds) S
  |none=>.bad
 |.all1,[.loc l]=>match seqAt S l with|some ds=>(match allB ds with|some b=>.ok (.bl b) S|none=>.bad)|none=>.bad
 |.sum1,[.loc l]=>match seqAt S l with|some ds=>(match sumI ds with|some b=>.ok (.int b) S|none=>.bad)|none=>.bad
 |.sort1,[.loc l]=>(match dtAt S l with|some a=>if aptB (a.map (·.1))=true/\a.length<Line then .ok (.loc S.length) (S++[.lst ((srK (a.map (·.1))).map dK)])else .bad|none=>.bad)
 |.dict1,[.loc l]=>(match S[l]? with
  |some (.dct a)=>.ok (.loc S.length) (S++[.dct a])
  |some (.dtu a)=>if aptB (a.map (·.1))=true then .ok (.loc S.length) (S++[.dtu a])else .bad
  |_=>.bad)
 |_,_=>.bad
def Zj(S:Store)(x:D)(ds:List D):Option Nat:=if ds.all (λy=>(eqD S 0 y x).isSome)then ds.findIdx? (λy=>eqD S 0 y x==some true)else none
def V4(p:Meth)(o:D)(ds:List D)(S:Store):Res D:=match p,o,ds with
 |.append,.loc l,[y]=>match S[l]? with
  |some (.lst a)=>if a.length<Line then .ok .non (S.set l (.lst (a++[y])))else .bad
  |_=>.bad
 |.pop0,.loc l,[]=>match S[l]? with
  |some (.lst a)=>match a[a.length-1]? with
   |some y=>.ok y (S.set l (.lst a.dropLast))
   |none=>.bad
  |_=>.bad
 |.indexT,.tup a,[y]=>if a.length<=Line then(match Zj S y a with|some j=>.ok (.int j) S|none=>.bad)else .bad
 |.get2,.kd b,[.str x,y]=>.ok (match b.lookup x with|some n=>.int n|none=>y) S
 |.get1,.loc l,[y]=>(match Xt S l y with|some o=>.ok (o.getD .non) S|none=>.bad)
 |.pop1,.loc l,[y]=>(match dtAt S l,kyD y with
  |some b,some k=>(match dVal b k with|some d=>.ok d (S.set l (.dtu (dDrop b k)))|none=>.bad)
  |_,_=>.bad)
 |_,_,_=>.bad
set_option genInjectivity false in
set_option genCtorIdx false in
inductive M where
 |nul|cns (a b:M)
 |cst (d:D)|var (i:Nat)|glb (x:String)
 |bin (o:Bop) (a b:M)|neg (a:M)|bit (a:M)|nott (a:M)|bo (w:Bool) (as:M)
 |cmp (o:Cop) (a b:M)|cmp2 (o p:Cop) (a b c:M)|ife (c a b:M)
 |tup (as:M)|lst (as:M)|idx (a b:M)|sli (a lo hi:M)
 |call (f:String) (as:M)|prim (p:Prim) (as:M)|isi (a:M) (t:String)|meth (p:Meth) (o as:M)
 |comp (N:List String) (k:Nat) (keep:List Nat) (tg it cd el:M)
 |rng (a:M)|enm (a:M)|zp (a b:M)
 |dnil (k:Nat)|hld (a:M)|lsp (a:M)|fld (c f:String) (a:M)|mcl (c m f:String) (o as:M)|new (c f:String)
 |tvar (i:Nat)|ttup (ts:M)|tsub (a b:M)
 |asg (t e:M)|aug (i:Nat) (e:M)|ifs (c a b:M)|forr (t i b:M)|ret (e:M)|exp (e:M)|rse|sfd (c f:String) (o v:M)
inductive Fl where
 |nx (Z:En)|rt (d:D)
structure Pr where
 call:String->List D->Store->Res D
 glob:String->Option D
 W:Nat
def Ww(o i v:D)(S:Store):Res Unit:=match o with
 |.loc l=>match S[l]? with
  |some (.lst b)=>(match i with
   |.int k=>(match ixN b.length k with
    |some j=>.ok () (S.set l (.lst (b.set j v)))
    |none=>.bad)
   |_=>.bad)
  |some (.dct a)=>(match i with|.int k=>if a.length<Line then .ok () (S.set l (.dct (dPut a k v)))else .bad|_=>.bad)
  |some (.dtu a)=>(match kyD i with|some k=>if a.length<Line then .ok () (S.set l (.dtu (dPut a k v)))else .bad|none=>.bad)
  |some (.rg a)=>(match lkK i with|some k=>if a.length<Line then .ok () (S.set l (.rg (dPut a k v)))else .bad|none=>.bad)
  |_=>.bad
 |_=>.bad
inductive Kd where|lst|enm|zip
abbrev Wk:=Option (Nat×Kd)
noncomputable def sameAt(S:Store)(g:Wk)(n:Nat):Bool:=match g with
 |none=>true
 |some (l,_)=>match S[l]? with
  |some (.lst a)=>a.length==n
  |_=>false
def nth(S:Store)(g:Wk)(ds:List D)(i:Nat):Option D:=match g with
 |none=>ds[i]?
 |some (l,.enm)=>match seqAt S l with
  |some a=>(a[i]?).map λx=>.tup [.int i,x]
  |none=>none
 |some (l,.zip)=>match seqAt S l with
  |some a=>match a[i]?,ds[i]? with
   |some x,some y=>some (.tup [x,y])
   |_,_=>none
  |none=>none
 |some (l,.lst)=>match seqAt S l with
  |some a=>a[i]?
  |none=>none
noncomputable def enD:Nat->List D->List D
 |_,[]=>[]
 |i,x::r=>.tup [.int i,x]::enD (i+1) r
def forL(turn:D->En->Store->Res Fl)(g:Wk)(ds:List D):Nat->Nat->En->Store->Res Fl
 |0,i,Z,S=>if sameAt S g ds.length then .ok (.nx Z) S else .bad
 |f+1,i,Z,S=>if sameAt S g ds.length then(match nth S g ds i with
   |none=>.bad
   |some d=>(turn d Z S).bind λc b=>match c with
    |.nx a=>forL turn g ds f (i+1) a b
    |.rt d=>.ok (.rt d) b)else .bad
def Wr(turn:D->En->Store->Res (Option D))(g:Wk)(ds:List D):Nat->Nat->En->Store->List D->Res (List D)
 |0,i,Z,S,a=>if sameAt S g ds.length then .ok a S else .bad
 |f+1,i,Z,S,a=>if sameAt S g ds.length then(match nth S g ds i with
   |none=>.bad
   |some d=>(turn d Z S).bind λo b=>match o with
    |some y=>if a.length<Line then Wr turn g ds f (i+1) Z b (a++[y])else .bad
    |none=>Wr turn g ds f (i+1) Z b a)else .bad
noncomputable def V2(k:Nat)(keep:List Nat)(Z:En):En:=E2 k none++keep.map λi=>(Z[i]?).join
def Zl(x:D)(S:Store):Res D:=match x with
 |.loc l=>(match dtAt S l with|some a=>if aptB (a.map (·.1))=true/\a.length<Line then .ok (.loc S.length) (S++[.dtu (srD a)])else .bad|none=>.bad)
 |_=>.bad
def zpD(x y:D)(S:Store):Res (Wk×List D):=match x,y with
 |.loc l,.tup a=>(match seqAt S l with|some b=>if b.length=a.length then .ok (some (l,.zip),a) S else .bad|none=>.bad)
 |_,_=>.bad
def Zd(x:D)(S:Store):Res D:=match x with
 |.loc l=>(match(seqAt S l).bind (X8 kyD)with|some a=>if a.length<4 then .ok (.int (dst a)) S else .bad|none=>.bad)
 |_=>.bad
mutual
noncomputable def evE(C:Pr):M->En->Store->Res D
 |.cst d,_,S=>.ok d S
 |.var i,Z,S=>match Z[i]? with|some (some d)=>.ok d S|_=>.bad
 |.glb x,_,S=>match C.glob x with|some d=>.ok d S|none=>.bad
 |.bin o a b,Z,S=>(evE C a Z S).bind λx e=>(evE C b Z e).bind λy g=>bop o x y g
 |.neg a,Z,S=>(evE C a Z S).bind λx e=>match x with|.int i=>.ok (.int (-i)) e|_=>.bad
 |.bit a,Z,S=>(evE C a Z S).bind λx e=>match x with|.int i=>.ok (.int (B5 i)) e|_=>.bad
 |.nott a,Z,S=>(evE C a Z S).bind λx e=>match tru e x with|some b=>.ok (.bl (!b)) e|none=>.bad
 |.bo w as,Z,S=>evBV C w as Z S
 |.cmp o a b,Z,S=>(evE C a Z S).bind λx e=>(evE C b Z e).bind λy g=>match cop o x y g with|some k=>.ok (.bl k) g|none=>.bad
 |.cmp2 o p a b c,Z,S=>(evE C a Z S).bind λx e=>(evE C b Z e).bind λy g=>match cop o x y g with
  |some true=>(evE C c Z g).bind λz j=>(match cop p y z j with|some k=>.ok (.bl k) j|none=>.bad)
  |some false=>.ok (.bl false) g
  |none=>.bad
 |.ife c a b,Z,S=>(evT C c Z S).bind λk e=>if k then evE C a Z e else evE C b Z e
 |.tup as,Z,S=>(evA C as Z S).bind λds e=>if ds.length<=Line then .ok (.tup ds) e else .bad
 |.lst as,Z,S=>(evA C as Z S).bind λds e=>if ds.length<=Line then .ok (.loc e.length) (e++[.lst ds])else .bad
 |.idx a b,Z,S=>(evE C a Z S).bind λx e=>(evE C b Z e).bind λy g=>match idxD x y g with|some d=>.ok d g|none=>.bad
 |.sli a lo v,Z,S=>(evE C a Z S).bind λx e=>(evO C lo Z e).bind λl g=>(evO C v Z g).bind λh j=>Wq x l h j
 |.call f as,Z,S=>(evA C as Z S).bind λds e=>C.call f ds e
 |.prim p as,Z,S=>(evA C as Z S).bind λds e=>Vx p ds e
 |.isi a t,Z,S=>(evE C a Z S).bind λx e=>match tyD e x with|some y=>.ok (.bl (isiD y t)) e|none=>.bad
 |.meth p o as,Z,S=>(evE C o Z S).bind λx e=>if rcv p e x then(evA C as Z e).bind λds g=>V4 p x ds g else .bad
 |.comp N k keep tg it cd el,Z,S=>(evI C it Z S).bind λw e=>
   (Wr (λd r g=>(evG C tg d r g).bind λn j=>(evC C cd n j).bind λb s=>if b then(evE C el n s).bind λy A=>.ok (some y) A else .ok none s) w.1 w.2 w.2.length 0 (V2 k keep Z) e []).bind
    λys u=>.ok (.loc u.length) (u++[.lst ys])
 |.dnil k,_,S=>.ok (.loc S.length) (S++[match k with|0=>.dct []|1=>.dtu []|_=>.rg []])
 |.hld a,Z,S=>(evE C a Z S).bind λx e=>Zl x e
 |.lsp a,Z,S=>(evE C a Z S).bind λx e=>Zd x e
 |.fld c f a,Z,S=>(evE C a Z S).bind λx e=>match Yr e x c f with|some d=>.ok d e|none=>.bad
 |.mcl c m f o as,Z,S=>(evE C o Z S).bind λx e=>if isRec e x c m then(evA C as Z e).bind λds g=>C.call f (x::ds) g else .bad
 |.new c f,_,S=>(C.call f [.loc S.length] (S++[.ins c []])).bind λd e=>match d with|.non=>.ok (.loc S.length) e|_=>.bad
 |_,_,_=>.bad
noncomputable def evT(C:Pr):M->En->Store->Res Bool
 |.nott a,Z,S=>(evT C a Z S).bind λb g=>.ok (!b) g
 |.bo w as,Z,S=>evBT C w as Z S
 |.cmp o a b,Z,S=>(evE C a Z S).bind λx g=>(evE C b Z g).bind λy e=>match cop o x y e with|some k=>.ok k e|none=>.bad
 |.cmp2 o p a b c,Z,S=>(evE C a Z S).bind λx g=>(evE C b Z g).bind λy e=>match cop o x y e with
  |some true=>(evE C c Z e).bind λz h=>(match cop p y z h with|some k=>.ok k h|none=>.bad)
  |some false=>.ok false e
  |none=>.bad
 |.var i,Z,S=>match Z[i]? with|some (some d)=>(match tru S d with|some b=>.ok b S|none=>.bad)|_=>.bad
 |.idx a b,Z,S=>(evE C a Z S).bind λx g=>(evE C b Z g).bind λy e=>match idxD x y e with|some d=>(match tru e d with|some b=>.ok b e|none=>.bad)|none=>.bad
 |.call f as,Z,S=>(evA C as Z S).bind λds g=>(C.call f ds g).bind λd e=>match tru e d with|some b=>.ok b e|none=>.bad
 |.prim p as,Z,S=>(evA C as Z S).bind λds g=>(Vx p ds g).bind λd e=>match tru e d with|some b=>.ok b e|none=>.bad
 |.isi a t,Z,S=>(evE C a Z S).bind λx g=>match tyD g x with|some y=>.ok (isiD y t) g|none=>.bad
 |.mcl c m f o as,Z,S=>(evE C o Z S).bind λx g=>if isRec g x c m then(evA C as Z g).bind λds e=>(C.call f (x::ds) e).bind λd h=>match tru h d with|some b=>.ok b h|none=>.bad else .bad
 |_,_,_=>.bad
noncomputable def evBV(C:Pr)(w:Bool):M->En->Store->Res D
 |.cns a .nul,Z,S=>evE C a Z S
 |.cns a r,Z,S=>(evE C a Z S).bind λx b=>match x with|.bl c=>if c=w then evBV C w r Z b else .ok (.bl (!w)) b|_=>.bad
 |_,_,_=>.bad
noncomputable def evBT(C:Pr)(w:Bool):M->En->Store->Res Bool
 |.cns a .nul,Z,S=>evT C a Z S
 |.cns a r,Z,S=>(evT C a Z S).bind λc b=>if c=w then evBT C w r Z b else .ok (!w) b
 |_,_,_=>.bad
noncomputable def evC(C:Pr):M->En->Store->Res Bool
 |.nul,_,S=>.ok true S
 |.cns c .nul,Z,S=>evT C c Z S
 |_,_,_=>.bad
noncomputable def evA(C:Pr):M->En->Store->Res (List D)
 |.nul,_,S=>.ok [] S
 |.cns a b,Z,S=>(evE C a Z S).bind λx c=>(evA C b Z c).bind λxs d=>.ok (x::xs) d
 |_,_,_=>.bad
noncomputable def evO(C:Pr):M->En->Store->Res (Option Int)
 |.nul,_,S=>.ok none S
 |.cns a .nul,Z,S=>(evE C a Z S).bind λx b=>match x with|.int i=>.ok (some i) b|_=>.bad
 |_,_,_=>.bad
noncomputable def evI(C:Pr):M->En->Store->Res (Wk×List D)
 |.rng a,Z,S=>(evE C a Z S).bind λx c=>match x with
  |.int j=>if decide (-(2^62)<=j)&&decide (j<2^62)then .ok (none,(Cf j.toNat).map λ(i:Nat)=>.int i) c else .bad
  |_=>.bad
 |.cns a .nul,Z,S=>(evE C a Z S).bind λx c=>match x with
  |.tup ds=>.ok (none,ds) c
  |.kl ds=>.ok (none,ds) c
  |.loc l=>(match seqAt c l with|some ds=>.ok (some (l,.lst),ds) c|none=>.bad)
  |_=>.bad
 |.enm a,Z,S=>(evE C a Z S).bind λx c=>match x with
  |.loc l=>(match seqAt c l with|some ds=>.ok (some (l,.enm),ds) c|none=>.bad)
  |.tup ds=>.ok (none,enD 0 ds) c
  |_=>.bad
 |.zp a b,Z,S=>(evE C a Z S).bind λx c=>(evE C b Z c).bind λy d=>zpD x y d
 |_,_,_=>.bad
noncomputable def evG(C:Pr):M->D->En->Store->Res En
 |.tvar i,d,Z,S=>if i<Z.length then .ok (Z.set i (some d)) S else .bad
 |.ttup c,d,Z,S=>match d with|.tup ds=>evGs C c ds Z S|_=>.bad
 |.tsub a b,d,Z,S=>(evE C a Z S).bind λo e=>(evE C b Z e).bind λi f=>(Ww o i d f).bind λ_ g=>.ok Z g
 |_,_,_,_=>.bad
noncomputable def evGs(C:Pr):M->List D->En->Store->Res En
 |.nul,ds,Z,S=>match ds with|[]=>.ok Z S|_=>.bad
 |.cns t b,ds,Z,S=>match ds with|d::r=>(evG C t d Z S).bind λa c=>evGs C b r a c|[]=>.bad
 |_,_,_,_=>.bad
noncomputable def evS(C:Pr):M->En->Store->Res Fl
 |.asg t e,Z,S=>(evE C e Z S).bind λd g=>(evG C t d Z g).bind λh j=>.ok (.nx h) j
 |.aug i e,Z,S=>(match Z[i]? with
  |some (some (.int x))=>(evE C e Z S).bind λy g=>(match y with|.int z=>.ok (.nx (Z.set i (some (.int (x+z))))) g|_=>.bad)
  |_=>.bad)
 |.ifs c a b,Z,S=>(evT C c Z S).bind λk g=>if k then evB C a Z g else evB C b Z g
 |.forr t i b,Z,S=>(evI C i Z S).bind λw g=>forL (λd h j=>(evG C t d h j).bind λl m=>evB C b l m) w.1 w.2 w.2.length 0 Z g
 |.ret e,Z,S=>(evE C e Z S).bind λd g=>.ok (.rt d) g
 |.exp e,Z,S=>(evE C e Z S).bind λ_ g=>.ok (.nx Z) g
 |.sfd c f o v,Z,S=>(evE C v Z S).bind λy g=>(evE C o Z g).bind λx j=>match Zv j x c f y with|some m=>.ok (.nx Z) m|none=>.bad
 |_,_,_=>.bad
noncomputable def evB(C:Pr):M->En->Store->Res Fl
 |.nul,Z,S=>.ok (.nx Z) S
 |.cns s r,Z,S=>(evS C s Z S).bind λc b=>match c with
  |.nx a=>evB C r a b
  |.rt d=>.ok (.rt d) b
 |_,_,_=>.bad
end
structure Fn where
 ps:List String
 N:List Nat
 body:M
noncomputable abbrev Tb:=String->Option Fn
def callN(T:Tb)(G:String->Option D)(W:Nat):Nat->String->List D->Store->Res D
 |0,_,_,_=>.bad
 |n+1,f,ds,S=>match T f with
  |none=>.bad
  |some F=>if ds.length=F.ps.length then(evB ⟨callN T G W n,G,W⟩ F.body (ds.map some++E2 (F.N.length-ds.length) none) S).bind λb a=>match b with
    |.rt d=>.ok d a
    |.nx _=>.ok .non a
   else .bad
def Jab{a:Type}{d:a}{S:Store}:¬(Res.bad:Res a)=.ok d S:=nofun
theorem Jqt:evE C (.var i) (Z) (S)=(match Z[i]? with|some (some d)=>.ok d S|_=>.bad):=rfl
theorem Jlm:evE C (.glb x) (a) (S)=(match C.glob x with|some d=>.ok d S|none=>.bad):=rfl
theorem Js4:evE C (.comp N k keep tg it cd el) (Z) (S)=((evI C it Z S).bind λw g=>
   (Wr (λd c h=>(evG C tg d c h).bind λa i=>(evC C cd a i).bind λb e=>if b then(evE C el a e).bind λy j=>.ok (some y) j else .ok none e) w.1 w.2 w.2.length 0 (V2 k keep Z) g []).bind
    λys f=>.ok (.loc f.length) (f++[.lst ys])):=rfl
theorem Jwi:evT C (.var i) (Z) (S)=(match Z[i]? with|some (some d)=>(match tru S d with|some b=>.ok b S|none=>.bad)|_=>.bad):=rfl
theorem Jji:evG C (.tvar i) (d) (Z) (S)=(if i<Z.length then .ok (Z.set i (some d)) S else .bad):=rfl
theorem Jqs:evG C (.ttup a) (d) (Z) (S)=(match d with|.tup ds=>evGs C a ds Z S|_=>.bad):=rfl
theorem Jik:evGs C (.nul) (ds) (Z) (S)=(match ds with|[]=>.ok Z S|_=>.bad):=rfl
theorem Jij:evGs C (.cns t b) (ds) (Z) (S)=(match ds with|d::r=>(evG C t d Z S).bind λa c=>evGs C b r a c|[]=>.bad):=rfl
theorem Jqr:evS C (.asg t e) (Z) (S)=((evE C e Z S).bind λd b=>(evG C t d Z b).bind λa c=>.ok (.nx a) c):=rfl
theorem Jn8:evS C (.aug i e) (Z) (S)=(match Z[i]? with
  |some (some (.int x))=>(evE C e Z S).bind λy a=>(match y with|.int z=>.ok (.nx (Z.set i (some (.int (x+z))))) a|_=>.bad)
  |_=>.bad):=rfl
end Mi
namespace Mi
open PySem L2
def Wc(K:Ag)(a:Addr)(kvs:List (Str×Int)):Prop:=L4 (Ub λb=>K.lookup b) (λb=>K.lookup b) a (kvs.map λp=>(p.1,E9 (.int p.2)))=true
def SqF(K:Ag)(H:Hp)(a:Addr)(xs:List V):Prop:=
 (∃o,H a=some (.frz o (.lst xs)))\/
  ∃(o:E8) (b:Array Value) (n:Nat),K.lookup a=some o/\o.cls=.type "list"/\o.dict=none/\o.data=.seq b n/\b.size<=sizeLine/\Vals xs b.toList
def SqF.sq(h:SqF K H a xs):SqL K H a xs:=h.elim (λz=>.inl (.inr z)) .inr
mutual
def RelD(K:Ag)(ρ:List Addr)(H:Hp):D->V->Prop
 |.non,v=>v=.non
 |.bl b,v=>v=.bl b
 |.int i,v=>v=.int i
 |.str x,v=>v=.str x
 |.tup ds,v=>∃a xs,v=.ref a/\SqT K H a xs/\RelDs K ρ H ds xs
 |.loc l,v=>∃a,v=.ref a/\ρ[l]? =some a
 |.kl ds,v=>∃a xs,v=.ref a/\SqF K H a xs/\RelDs K ρ H ds xs
 |.kd kvs,v=>∃a,v=.ref a/\Wc K a kvs
def RelDs(K:Ag)(ρ:List Addr)(H:Hp):List D->List V->Prop
 |[],xs=>xs=[]
 |d::ds,xs=>∃v vs,xs=v::vs/\RelD K ρ H d v/\RelDs K ρ H ds vs
end
noncomputable def RelKv{κ a:Type}(e:κ->a)(K:Ag)(ρ:List Addr)(H:Hp):List (κ×D)->List (a×V)->Prop
 |[],b=>b=[]
 |p::r,b=>∃v us,b=(e p.1,v)::us/\RelD K ρ H p.2 v/\RelKv e K ρ H r us
noncomputable def V3(K:Ag)(ρ:List Addr)(H:Hp):List (RK×D)->List (RK×Addr×Value)->Prop
 |[],xs=>xs=[]
 |p::r,xs=>∃a u v ys,xs=(p.1,a,u)::ys/\W6 K H p.1 a/\RelV v u/\RelD K ρ H p.2 v/\V3 K ρ H r ys
theorem Jjp:∀{a b:List Char},a.map Ot=b.map Ot->a=b
 |[],[],_=>rfl
 |[],y::ys,h=>by simp at h
 |x::xs,[],h=>by simp at h
 |x::xs,y::ys,h=>by
  simp only[Ax,Qx]at h;rw[Jjp h.2,Char.toNat_inj.mp h.1]
def Jin(h:Ac a=Ac b):a=b:=by
 rw[Ql,Ql]at h;injection h with h;have h:a.toList.map Ot=b.toList.map Ot:=by simpa using h
 refine String.toList_inj.mp ?_;exact Jjp h
noncomputable def Wz(K:Ag)(ρ:List Addr)(H:Hp):List (String×D)->List (Str×V)->Prop
 |[],a=>a=[]
 |p::r,a=>∃v us,a=(Ac p.1,v)::us/\RelD K ρ H p.2 v/\Wz K ρ H r us
def RelO(K:Ag)(ρ:List Addr)(H:Hp)(a:Addr):Obj->Prop
 |.lst ds=>∃xs,H a=some (.lst xs)/\RelDs K ρ H ds xs
 |.dct kvs=>∃b,H a=some (.dK b)/\RelKv G8 K ρ H kvs b
 |.dtu kvs=>∃b,H a=some (.dT b)/\RelKv pK K ρ H kvs b
 |.rg kvs=>∃xs,H a=some (Rg a xs)/\V3 K ρ H kvs xs
 |.ins c d=>∃C e b,Bz K Bg (Ac c)=some (some (.ref C))/\H a=some (.ins C e b)/\Wz K ρ H d b
structure RelS(K:Ag)(ρ:List Addr)(S:Store)(H:Hp):Prop where
 len:ρ.length=S.length
 nd:ρ.Nodup
 ob:∀(l:Nat) (a:Addr) (o:Obj),ρ[l]? =some a->S[l]? =some o->RelO K ρ H a o
structure Fut(K:Ag)(ρ:List Addr)(H:Hp)(ρ':List Addr)(H':Hp):Prop where
 pre:∃t,ρ'=ρ++t
 tup:∀a xs,SqT K H a xs->SqT K H' a xs
 frz:∀a o u,H a=some (.frz o u)->H' a=some (.frz o u)
variable {K:Ag} {ρ ρ' ρ1:List Addr} {H H' H1:Hp} {S S':Store}
def Fut.refl:Fut K ρ H ρ H:=⟨⟨[],by simp⟩,λ_ _ h=>h,λ_ _ _ h=>h⟩
def Fut.trans(a:Fut K ρ H ρ1 H1)(b:Fut K ρ1 H1 ρ' H'):Fut K ρ H ρ' H':=by
 obtain⟨t,rfl⟩:=a.pre;obtain⟨u,e⟩:=b.pre;exact⟨⟨t++u,by rw[e,Bc]⟩,λ_ _ h=>b.tup _ _ (a.tup _ _ h),λ_ _ _ h=>b.frz _ _ _ (a.frz _ _ _ h)⟩
structure Fu(K:Ag)(ρ:List Addr)(H:Hp)(ρ':List Addr)(H':Hp):Prop where
 pre:∃t,ρ'=ρ++t
 tup:∀a xs,SqT K H a xs->SqT K H' a xs
 frz:∀a o xs,H a=some (.frz o (.lst xs))->H' a=some (.frz o (.lst xs))
def Fut.fu(f:Fut K ρ H ρ' H'):Fu K ρ H ρ' H':=⟨f.pre,f.tup,λa o _=>f.frz a o _⟩
def Fu.sqF(f:Fu K ρ H ρ' H')(h:SqF K H a xs):SqF K H' a xs:=h.elim (λ⟨o,z⟩=>.inl ⟨o,f.frz _ _ _ z⟩) .inr
def Fu.get(f:Fu K ρ H ρ' H'){l:Nat}{a:Addr}(h:ρ[l]? =some a):ρ'[l]? =some a:=by
 obtain⟨t,rfl⟩:=f.pre;rw[A0 (Ae.mp h).1];exact h
def Fut.get(f:Fut K ρ H ρ' H'){l:Nat}{a:Addr}(h:ρ[l]? =some a):ρ'[l]? =some a:=f.fu.get h
mutual
theorem RelD.fu(f:Fu K ρ H ρ' H'):∀{d:D} {v:V},RelD K ρ H d v->RelD K ρ' H' d v
 |.non,v,h=>by simpa only[RelD]using h
 |.bl b,v,h=>by simpa only[RelD]using h
 |.int i,v,h=>by simpa only[RelD]using h
 |.str x,v,h=>by simpa only[RelD]using h
 |.tup ds,v,h=>by
  simp only[RelD]at h ⊢;obtain⟨a,xs,e,q,r⟩:=h;exact⟨a,xs,e,f.tup _ _ q,RelDs.fu f r⟩
 |.loc l,v,h=>by
  simp only[RelD]at h ⊢;obtain⟨a,e,q⟩:=h;exact⟨a,e,f.get q⟩
 |.kl ds,v,h=>by
  simp only[RelD]at h ⊢;obtain⟨a,xs,e,q,r⟩:=h;exact⟨a,xs,e,f.sqF q,RelDs.fu f r⟩
 |.kd c,v,h=>by simpa only[RelD]using h
theorem RelDs.fu(f:Fu K ρ H ρ' H'):∀{ds:List D} {vs:List V},RelDs K ρ H ds vs->RelDs K ρ' H' ds vs
 |[],vs,h=>by simpa only[RelDs]using h
 |d::ds,vs,h=>by
  simp only[RelDs]at h ⊢;obtain⟨v,r,e,q,t⟩:=h;exact⟨v,r,e,RelD.fu f q,RelDs.fu f t⟩
end
def RelD.fut(f:Fut K ρ H ρ' H'){d:D}{v:V}(h:RelD K ρ H d v):RelD K ρ' H' d v:=h.fu f.fu
def RelDs.fut(f:Fut K ρ H ρ' H')(h:RelDs K ρ H ds vs):RelDs K ρ' H' ds vs:=h.fu f.fu
def RelDs.cons(a:RelD K ρ H d v)(b:RelDs K ρ H ds vs):RelDs K ρ H (d::ds) (v::vs):=by
 simp only[RelDs];exact⟨v,vs,rfl,a,b⟩
def RelDs.nil:RelDs K ρ H [] []:=by simp only[RelDs]
inductive DsC (K:Ag) (ρ:List Addr) (H:Hp) (d:D) (ds:List D) (xs:List V):Prop
 |mk (v vs) (_:xs=v::vs) (_:RelD K ρ H d v) (_:RelDs K ρ H ds vs):DsC K ρ H d ds xs
def RelDs.inv_cons(h:RelDs K ρ H (d::ds) xs):DsC K ρ H d ds xs:=by
 obtain⟨v,a,e,q,r⟩:=h;exact⟨v,a,e,q,r⟩
def RelDs.inv_nil(h:RelDs K ρ H [] xs):xs=[]:=by simpa only[RelDs]using h
theorem RelDs.length:∀{ds:List D} {vs:List V},RelDs K ρ H ds vs->ds.length=vs.length
 |[],vs,h=>by rw[h.inv_nil];rfl
 |d::ds,vs,h=>by
  obtain⟨v,r,rfl,_,t⟩:=h.inv_cons;rw[Bb,Bb,t.length]
theorem RelDs.get:∀{ds:List D} {vs:List V} {i:Nat} {d:D},RelDs K ρ H ds vs->ds[i]? =some d->∃v,vs[i]? =some v/\RelD K ρ H d v
 |[],vs,i,d,h,e=>by simp at e
 |d::ds,vs,0,x,h,e=>by
  obtain⟨v,r,rfl,q,t⟩:=h.inv_cons;simp at e;subst e;exact⟨v,rfl,q⟩
 |d::ds,vs,i+1,x,h,e=>by
  obtain⟨v,r,rfl,q,t⟩:=h.inv_cons;exact RelDs.get (i:=i) t (by simpa using e)
theorem RelDs.append:∀{ds es:List D} {vs a:List V},RelDs K ρ H ds vs->RelDs K ρ H es a->RelDs K ρ H (ds++es) (vs++a)
 |[],es,vs,a,h,g=>by rw[h.inv_nil];exact g
 |d::ds,es,vs,a,h,g=>by
  obtain⟨v,r,rfl,q,t⟩:=h.inv_cons;exact RelDs.cons q (t.append g)
theorem RelDs.take:∀{ds:List D} {vs:List V} (n:Nat),RelDs K ρ H ds vs->RelDs K ρ H (ds.take n) (vs.take n)
 |ds,vs,0,h=>by simp[RelDs.nil]
 |[],vs,n+1,h=>by rw[h.inv_nil];simp[RelDs.nil]
 |d::ds,vs,n+1,h=>by
  obtain⟨v,r,rfl,q,t⟩:=h.inv_cons;exact RelDs.cons q (t.take n)
theorem RelDs.drop:∀{ds:List D} {vs:List V} (n:Nat),RelDs K ρ H ds vs->RelDs K ρ H (ds.drop n) (vs.drop n)
 |ds,vs,0,h=>h
 |[],vs,n+1,h=>by rw[h.inv_nil];simp[RelDs.nil]
 |d::ds,vs,n+1,h=>by
  obtain⟨v,r,rfl,q,t⟩:=h.inv_cons;exact t.drop n
theorem RelDs.set(a:RelD K ρ H d v):∀{ds:List D} {vs:List V} (i:Nat),RelDs K ρ H ds vs->RelDs K ρ H (ds.set i d) (vs.set i v)
 |[],vs,i,h=>by rw[h.inv_nil];simp[RelDs.nil]
 |x::ds,vs,0,h=>by
  obtain⟨w,r,rfl,q,t⟩:=h.inv_cons;exact RelDs.cons a t
 |x::ds,vs,i+1,h=>by
  obtain⟨w,r,rfl,q,t⟩:=h.inv_cons;exact RelDs.cons q (RelDs.set a i t)
def RelDs.dropLast{ds:List D}{vs:List V}(h:RelDs K ρ H ds vs):RelDs K ρ H ds.dropLast vs.dropLast:=by
 rw[Qo,Qo,h.length];exact h.take _
theorem Ju8(h:RelDs K ρ H ds vs)(e:atI ds i=some d):∃v,atI vs i=some v/\RelD K ρ H d v:=by
 unfold atI at e ⊢;rw[<-h.length];cases q:ixN ds.length i with
 |none=>rw[q]at e;cases e
 |some j=>
  rw[q]at e;exact h.get e
section
variable {κ κ':Type} {e:κ->κ'} [DecidableEq κ] [DecidableEq κ']
theorem RelKv.fu(f:Fu K ρ H ρ' H'):∀{kvs:List (κ×D)} {a:List (κ'×V)},RelKv e K ρ H kvs a->RelKv e K ρ' H' kvs a
 |[],a,h=>h
 |p::r,a,h=>by
  obtain⟨v,us,e,q,t⟩:=h;exact⟨v,us,e,q.fu f,RelKv.fu f t⟩
def RelKv.fut(f:Fut K ρ H ρ' H')(h:RelKv e K ρ H kvs a):RelKv e K ρ' H' kvs a:=h.fu f.fu
theorem RelKv.length:∀{kvs:List (κ×D)} {a:List (κ'×V)},RelKv e K ρ H kvs a->kvs.length=a.length
 |[],a,h=>by cases(show a=[]from h);rfl
 |p::r,a,h=>by
  obtain⟨v,us,rfl,q,t⟩:=h;simp[RelKv.length t]
theorem RelKv.keys:∀{kvs:List (κ×D)} {a:List (κ'×V)},RelKv e K ρ H kvs a->a.map (·.1)=(kvs.map (·.1)).map e
 |[],a,h=>by cases(show a=[]from h);rfl
 |p::r,a,h=>by
  obtain⟨v,us,rfl,q,t⟩:=h;simp[RelKv.keys t]
variable (ei:∀a b,e a=e b->a=b) (k:κ)
include ei
theorem RelKv.val:∀{kvs:List (κ×D)} {a:List (κ'×V)},RelKv e K ρ H kvs a->(dVal kvs k=none/\Wu a (e k)=none)\/∃d v,dVal kvs k=some d/\Wu a (e k)=some v/\RelD K ρ H d v
 |[],a,h=>by cases(show a=[]from h);exact .inl ⟨rfl,rfl⟩
 |p::r,a,h=>by
  obtain⟨v,us,rfl,q,t⟩:=h
  by_cases z:p.1=k
  .refine .inr ⟨p.2,v,?_,Jdy (congrArg e z),q⟩;simp[dVal,Dh,z]
  .rw[Jdz (λq=>z (ei _ _ q)),show dVal (p::r) k=dVal r k by simp[dVal,Dh,z]];exact RelKv.val t
def RelKv.put(q:RelD K ρ H d v)(h:RelKv e K ρ H kvs a):RelKv e K ρ H (dPut kvs k d) (putK a (e k) v):=by
 have i:∀{kvs:List (κ×D)} {a:List (κ'×V)},RelKv e K ρ H kvs a->kvs.any (λp=>decide (p.1=k))=a.any (λc=>decide (c.1=e k)):=by
  intro kvs
  induction kvs with
  |nil=>intro a h;cases(show a=[]from h);rfl
  |cons p r b=>
   intro a h;obtain⟨u,l,rfl,g,t⟩:=h;rw[Gg,Gg,b t];congr 1;exact decide_eq_decide.mpr ⟨λz=>congrArg e z,λz=>ei _ _ z⟩
 have f:∀{kvs:List (κ×D)} {a:List (κ'×V)},RelKv e K ρ H kvs a->RelKv e K ρ H (kvs++[(k,d)]) (a++[(e k,v)]):=by
  intro kvs
  induction kvs with
  |nil=>intro a h;cases(show a=[]from h);exact⟨v,[],rfl,q,rfl⟩
  |cons p r b=>
   intro a h;obtain⟨u,l,rfl,g,t⟩:=h;exact⟨u,_,rfl,g,b t⟩
 have j:∀{kvs:List (κ×D)} {a:List (κ'×V)},RelKv e K ρ H kvs a->RelKv e K ρ H (kvs.map (λp=>if p.1=k then(p.1,d)else p)) (a.map (λc=>if c.1=e k then(c.1,v)else c)):=by
  intro kvs
  induction kvs with
  |nil=>intro a h;cases(show a=[]from h);rfl
  |cons p r b=>
   intro a h;obtain⟨u,l,rfl,g,t⟩:=h
   by_cases z:p.1=k
   .rw[Ax,Ax,if_pos z,if_pos (congrArg e z)];exact⟨v,_,rfl,q,b t⟩
   .rw[Ax,Ax,if_neg z,if_neg λq=>z (ei _ _ q)];exact⟨u,_,rfl,g,b t⟩
 unfold dPut putK;rw[i h];split
 .exact j h
 .exact f h
theorem RelKv.drop:∀{kvs:List (κ×D)} {a:List (κ'×V)},RelKv e K ρ H kvs a->RelKv e K ρ H (dDrop kvs k) (Xs a (e k))
 |[],a,h=>by cases(show a=[]from h);rfl
 |p::r,a,h=>by
  obtain⟨v,us,rfl,q,t⟩:=h;have b:=RelKv.drop t;unfold dDrop Xs at b ⊢
  by_cases z:p.1=k
  .rw[Pz (by simpa using z),Pz (by simpa using congrArg e z)];exact b
  .rw[Py (by simpa using z),Py (by simpa using λq=>z (ei _ _ q))];exact⟨v,_,rfl,q,b⟩
end
def Jmg{c d:Type}(a b:c)(h:(G8 a:c ⊕ d)=G8 b):a=b:=Mw h
def Jfi(a b:Rdu.PK)(h:pK a=pK b):a=b:=by
 injection h with d c;injection c with c _;exact Ol (Mw d) (Mw c)
def W6.fu(f:Fu K ρ H ρ' H')(x:W6 K H r a):W6 K H' r a:=by
 obtain⟨bs,c,d⟩:=x;exact⟨bs,f.tup _ _ c,Paired.mapP d λ_ _ q=>f.tup _ _ q⟩
theorem V3.fu(f:Fu K ρ H ρ' H'):∀{kvs:List (RK×D)} {xs:List (RK×Addr×Value)},V3 K ρ H kvs xs->V3 K ρ' H' kvs xs
 |[],xs,h=>h
 |p::r,xs,h=>by
  obtain⟨a,u,v,ys,e,l,b,q,t⟩:=h;exact⟨a,u,v,ys,e,W6.fu f l,b,q.fu f,V3.fu f t⟩
def V3.fut(f:Fut K ρ H ρ' H')(h:V3 K ρ H kvs xs):V3 K ρ' H' kvs xs:=h.fu f.fu
theorem V3.mem:∀{kvs:List (RK×D)} {xs:List (RK×Addr×Value)},V3 K ρ H kvs xs->∀x∈xs,W6 K H x.1 x.2.1
 |[],xs,h,x,hx=>by cases(show xs=[]from h);cases hx
 |p::r,xs,h,x,hx=>by
  obtain⟨a,u,v,ys,rfl,l,b,q,t⟩:=h;rcases Am.mp hx with rfl|hx
  .exact l
  .exact V3.mem t x hx
theorem V3.length:∀{kvs:List (RK×D)} {xs:List (RK×Addr×Value)},V3 K ρ H kvs xs->kvs.length=xs.length
 |[],xs,h=>by cases(show xs=[]from h);rfl
 |p::r,xs,h=>by
  obtain⟨a,u,v,ys,rfl,l,b,q,t⟩:=h;simp[V3.length t]
theorem V3.val(k:RK):∀{kvs:List (RK×D)} {xs:List (RK×Addr×Value)},V3 K ρ H kvs xs->dVal kvs k=some d->∃p v,Hn xs k=some p/\RelV v p.2/\RelD K ρ H d v
 |[],xs,h,e=>by cases e
 |p::r,xs,h,e=>by
  obtain⟨a,u,v,ys,rfl,l,b,q,t⟩:=h
  by_cases z:p.1=k
  .have:dVal (p::r) k=some p.2:=by simp[dVal,Dh,z]
   rw[this]at e;cases e;exact⟨(a,u),v,by simp[Hn,z],b,q⟩
  .rw[show dVal (p::r) k=dVal r k by simp[dVal,Dh,z]]at e;obtain⟨c,f,g,i⟩:=V3.val k t e;exact⟨c,f,by simpa [Hn,z]using g,i⟩
def V3.put(l:W6 K H k a)(m:RelV v u)(q:RelD K ρ H d v)(h:V3 K ρ H kvs xs):V3 K ρ H (dPut kvs k d) (P2 xs k a u):=by
 have e:∀{kvs:List (RK×D)} {xs:List (RK×Addr×Value)},V3 K ρ H kvs xs->kvs.any (λp=>decide (p.1=k))=(Hn xs k).isSome/\V3 K ρ H (kvs++[(k,d)]) (xs++[(k,a,u)])/\V3 K ρ H (kvs.map (λp=>if p.1=k then(p.1,d)else p)) (xs.map (putAt k u)):=by
  intro kvs
  induction kvs with
  |nil=>intro xs h;cases(show xs=[]from h);exact⟨rfl,⟨a,u,v,[],rfl,l,m,q,rfl⟩,rfl⟩
  |cons p r w=>
   intro xs h;obtain⟨f,n,o,x,rfl,g,b,s,t⟩:=h;obtain⟨i,j,c⟩:=w t;refine⟨?_,⟨f,n,o,_,rfl,g,b,s,j⟩,?_⟩
   .by_cases z:p.1=k
    .simp[Hn,z]
    .rw[Gg,i];simp[Hn,z]
   .by_cases z:p.1=k
    .simp only[Ax,if_pos z,putAt];exact⟨f,u,v,_,rfl,g,m,q,c⟩
    .simp only[Ax,if_neg z,putAt];exact⟨f,n,o,_,rfl,g,b,s,c⟩
 obtain⟨i,j,c⟩:=e h;unfold dPut P2;rw[i];split
 .exact c
 .exact j
theorem Wz.fu(f:Fu K ρ H ρ' H'):∀{b:List (String×D)} {a:List (Str×V)},Wz K ρ H b a->Wz K ρ' H' b a
 |[],a,h=>h
 |p::r,a,h=>by
  obtain⟨v,us,e,q,t⟩:=h;exact⟨v,us,e,q.fu f,Wz.fu f t⟩
theorem Wz.length:∀{b:List (String×D)} {a:List (Str×V)},Wz K ρ H b a->b.length=a.length
 |[],a,h=>by cases(show a=[]from h);rfl
 |p::r,a,h=>by
  obtain⟨v,us,rfl,q,t⟩:=h;simp[Wz.length t]
theorem Wz.look(f:String):∀{b:List (String×D)} {a:List (Str×V)},Wz K ρ H b a->(b.lookup f=none/\a.lookup (Ac f)=none)\/∃d v,b.lookup f=some d/\a.lookup (Ac f)=some v/\RelD K ρ H d v
 |[],a,h=>by cases(show a=[]from h);exact .inl ⟨rfl,rfl⟩
 |p::r,a,h=>by
  obtain⟨v,us,rfl,q,t⟩:=h;obtain⟨g,d⟩:=p
  by_cases e:f=g
  .subst e;exact .inr ⟨d,v,by simp[Fi],by simp[Fi],q⟩
  .have c:(Ac f==Ac g)=false:=beq_eq_false_iff_ne.mpr λz=>e (Jin z);have i:(f==g)=false:=beq_eq_false_iff_ne.mpr e;simp only[Fi,c,i];exact Wz.look f t
theorem Wz.put(f:String)(q:RelD K ρ H d v):∀{b:List (String×D)} {a:List (Str×V)},Wz K ρ H b a->Wz K ρ H (putD f d b) (Wn (Ac f) v a)
 |[],a,h=>by cases(show a=[]from h);exact⟨v,[],rfl,q,rfl⟩
 |p::r,a,h=>by
  obtain⟨u,us,rfl,c,t⟩:=h
  by_cases e:p.1=f
  .rw[show putD f d (p::r)=(p.1,d)::r from if_pos e,show Wn (Ac f) v ((Ac p.1,u)::us)=(Ac p.1,v)::us from if_pos (congrArg _ e)];exact⟨v,us,rfl,q,t⟩
  .rw[show putD f d (p::r)=p::putD f d r from if_neg e,show Wn (Ac f) v ((Ac p.1,u)::us)=(Ac p.1,u)::Wn (Ac f) v us from if_neg λz=>e (Jin z)];exact⟨u,_,rfl,c,Wz.put f q t⟩
theorem RelO.fu(f:Fu K ρ H ρ' H')(d:H' a=H a)(h:RelO K ρ H a o):RelO K ρ' H' a o:=by
 cases o with
 |lst k=>obtain⟨b,e,r⟩:=h;exact⟨b,d.trans e,r.fu f⟩
 |dct g=>obtain⟨b,e,r⟩:=h;exact⟨b,d.trans e,r.fu f⟩
 |dtu g=>obtain⟨b,e,r⟩:=h;exact⟨b,d.trans e,r.fu f⟩
 |rg g=>obtain⟨b,e,r⟩:=h;exact⟨b,d.trans e,r.fu f⟩
 |ins c l=>obtain⟨C,i,j,n,e,r⟩:=h;exact⟨C,i,j,n,d.trans e,r.fu f⟩
def RelO.fut(f:Fut K ρ H ρ' H')(b:H' a=H a)(h:RelO K ρ H a o):RelO K ρ' H' a o:=h.fu f.fu b
theorem RelO.some(h:RelO K ρ H a o):H a≠none:=by
 cases o with
 |lst f=>obtain⟨d,e,r⟩:=h;rw[e];simp
 |dct b=>obtain⟨d,e,r⟩:=h;rw[e];simp
 |dtu b=>obtain⟨d,e,r⟩:=h;rw[e];simp
 |rg b=>obtain⟨d,e,r⟩:=h;rw[e];simp
 |ins c g=>obtain⟨C,i,j,n,e,r⟩:=h;rw[e];simp
def RelS.at(r:RelS K ρ S H){l:Nat}{a:Addr}(h:ρ[l]? =some a):∃o,S[l]? =some o/\RelO K ρ H a o:=by
 have b:l<S.length:=by rw[<-r.len];exact(Ae.mp h).1
 exact⟨S[l],Af b,r.ob l a _ h (Af b)⟩
def Jbe(n:H p=none)(t:List Addr):Fut K ρ H (ρ++t) (upd H p o):=by
 refine⟨⟨t,rfl⟩,λa b h=>?_,λa o u h=>by rw[Jad (Jan h n)];exact h⟩;rcases h with h|h
 .exact .inl (by rw[Jad (Jan h n)];exact h)
 .exact .inr h
def Ja2(n:H p=none):Fut K ρ H ρ (upd H p o):=by
 have q:=Jbe (K:=K) (ρ:=ρ) (o:=o) n [];rwa[Dq]at q
def RelS.new(r:RelS K ρ S H)(n:H p=none):RelS K ρ S (upd H p o):=
 ⟨r.len,r.nd,λl a u b c=>by
  have q:=r.ob l a u b c;exact q.fut (Ja2 n) (Jad λz=>q.some (z▸n))⟩
def RelS.alloc(r:RelS K ρ S H){p:Addr}{xs:List V}{ds:List D}(n:H p=none)(h:RelDs K ρ H ds xs):RelS K (ρ++[p]) (S++[.lst ds]) (upd H p (.lst xs)):=by
 have hp:p∉ρ:=λz=>by
  obtain⟨l,f⟩:=Qw z;obtain⟨o,_,q⟩:=r.at f;exact q.some n
 refine⟨by rw[Ap,Ap,r.len];rfl,?_,λl a o c d=>?_⟩
 .rw[Gv];exact⟨r.nd,by simp,λa g b i=>by rw[Ar.mp i];exact λe=>hp (e▸g)⟩
 .by_cases f:l<ρ.length
  .rw[A0 f]at c;rw[A0 (by rw[<-r.len];exact f)]at d;have q:=r.ob l a o c d;exact q.fut (Jbe n [p]) (Jad λz=>q.some (z▸n))
  .have e:l=ρ.length:=by
    have:=(Ae.mp c).1;rw[Ap,C5]at this
    lia
   subst e;rw[Aw (Ai _),Ha]at c;rw[Aw (by rw[r.len];exact Ai _),r.len,Ha]at d;simp at c d;subst c d;exact⟨xs,Jak,h.fut (Jbe n [_])⟩
def Jc4{ρ:List Addr}(c:ρ.Nodup){i j:Nat}{x:Addr}(a:ρ[i]? =some x)(b:ρ[j]? =some x):i=j:=by
 obtain⟨d,e⟩:=Ae.mp a;obtain⟨f,g⟩:=Ae.mp b;rcases Ie i j with h|h|h
 .exact absurd (e.trans g.symm) (Dj.mp c i j d f h)
 .exact h
 .exact absurd (g.trans e.symm) (Dj.mp c j i f d h)
def Jdf(h:H p=some (.lst xs)):Fut K ρ H ρ (upd H p o):=by
 refine⟨⟨[],by simp⟩,λa b q=>?_,λa o u q=>by rw[Jad (Joy q h (by intro z;cases z))];exact q⟩;rcases q with q|q
 .exact .inl (by rw[Jad (Joy q h (by intro z;cases z))];exact q)
 .exact .inr q
def RelS.set(r:RelS K ρ S H){l:Nat}{p:Addr}{xs ys:List V}{ds:List D}(d:ρ[l]? =some p)(h:H p=some (.lst xs))(f:RelDs K ρ H ds ys):RelS K ρ (S.set l (.lst ds)) (upd H p (.lst ys)):=by
 refine⟨by rw[Fd];exact r.len,r.nd,λk a o b c=>?_⟩
 by_cases e:l=k
 .subst e;rw[d]at b;cases b;have g:l<S.length:=by rw[<-r.len];exact(Ae.mp d).1
  rw[D5 g]at c;cases c;exact⟨ys,Jak,f.fut (Jdf h)⟩
 .rw[A1 e]at c;have i:a≠p:=λz=>by
   subst z;exact e (Jc4 r.nd d b)
  exact(r.ob k a o b c).fut (Jdf h) (Jad i)
def Jev{o:HO}(h:H p=some o0)(c:∀xs,o0≠ .tup xs)(d:∀o u,o0≠ .frz o u):Fut K ρ H ρ (upd H p o):=by
 have b:∀a u,H a=some u->(∀xs,u≠ .tup xs->u≠ .tup xs)->u≠o0->a≠p:=λa u q _ z e=>by rw[e,h]at q;exact z (Bh q).symm
 refine⟨⟨[],by simp⟩,λa f q=>?_,λa o u q=>by rw[Jad (b a _ q (λ_ z=>z) λz=>d _ _ z.symm)];exact q⟩;rcases q with q|q
 .exact .inl (by rw[Jad (b a _ q (λ_ z=>z) λz=>c _ z.symm)];exact q)
 .exact .inr q
def RelS.allocO(r:RelS K ρ S H){p:Addr}{o:HO}{ob:Obj}(n:H p=none)(h:RelO K (ρ++[p]) (upd H p o) p ob):RelS K (ρ++[p]) (S++[ob]) (upd H p o):=by
 have hp:p∉ρ:=λz=>by
  obtain⟨l,f⟩:=Qw z;obtain⟨o,_,q⟩:=r.at f;exact q.some n
 refine⟨by rw[Ap,Ap,r.len];rfl,?_,λl a u c d=>?_⟩
 .rw[Gv];exact⟨r.nd,by simp,λa g b i=>by rw[Ar.mp i];exact λe=>hp (e▸g)⟩
 .by_cases f:l<ρ.length
  .rw[A0 f]at c;rw[A0 (by rw[<-r.len];exact f)]at d;have q:=r.ob l a u c d;exact q.fut (Jbe n [p]) (Jad λz=>q.some (z▸n))
  .have e:l=ρ.length:=by
    have:=(Ae.mp c).1;rw[Ap,C5]at this
    lia
   subst e;rw[Aw (Ai _),Ha]at c;rw[Aw (by rw[r.len];exact Ai _),r.len,Ha]at d;simp at c d;subst c d;exact h
def RelS.setW(r:RelS K ρ S H){l:Nat}{p:Addr}{o0 o:HO}{ob:Obj}(d:ρ[l]? =some p)(f:Fu K ρ H ρ (upd H p o))(new:RelO K ρ (upd H p o) p ob):RelS K ρ (S.set l ob) (upd H p o):=by
 refine⟨by rw[Fd];exact r.len,r.nd,λk a u b c=>?_⟩
 by_cases e:l=k
 .subst e;rw[d]at b;cases b;have g:l<S.length:=by rw[<-r.len];exact(Ae.mp d).1
  rw[D5 g]at c;cases c;exact new
 .rw[A1 e]at c;have h:a≠p:=λz=>by
   subst z;exact e (Jc4 r.nd d b)
  exact(r.ob k a u b c).fu f (Jad h)
def RelS.setO(r:RelS K ρ S H){l:Nat}{p:Addr}{o0 o:HO}{ob:Obj}(b:ρ[l]? =some p)(f:Fut K ρ H ρ (upd H p o))(new:RelO K ρ (upd H p o) p ob):RelS K ρ (S.set l ob) (upd H p o):=r.setW (o0:=o0) b f.fu new
structure RelE(K:Ag)(ρ:List Addr)(H:Hp)(Z:En)(σ:St):Prop where
 len:Z.length=σ.length
 at':∀(i:Nat) (d:D),Z[i]? =some (some d)->∃v,σ[i]? =some (some v)/\RelD K ρ H d v
def RelE.fut(f:Fut K ρ H ρ' H')(r:RelE K ρ H Z σ):RelE K ρ' H' Z σ:=
 ⟨r.len,λi d h=>let⟨v,e,q⟩:=r.at' i d h;⟨v,e,q.fut f⟩⟩
def RelE.set{Z:En}{σ:St}(r:RelE K ρ H Z σ)(q:RelD K ρ H d v)(i:Nat):RelE K ρ H (Z.set i (some d)) (σ.set i (some v)):=by
 refine⟨by rw[Fd,Fd];exact r.len,λj e h=>?_⟩
 by_cases z:i=j
 .subst z
  by_cases a:i<Z.length
  .rw[D5 a]at h;cases h;exact⟨v,D5 (by rw[<-r.len];exact a),q⟩
  .rw[Gm (by rw[Fd];lia)]at h;cases h
 .rw[A1 z]at h;rw[A1 z];exact r.at' j e h
theorem RelE.inner(r:RelE K ρ H Z σ)(k:Nat)(keep:List Nat):RelE K ρ H (V2 k keep Z) (X5 k keep σ):=by
 unfold V2 X5;refine⟨by simp,λi d h=>?_⟩
 by_cases b:i<k
 .rw[A0 (by simpa using b),Fy,if_pos b]at h;cases h
 .rw[Aw (by simpa using b),Ik,Ao]at h;rw[Aw (by simpa using b),Ik,Ao];cases c:keep[i-k]? with
  |none=>rw[c]at h;cases h
  |some j=>
   rw[c]at h;have a:(Z[j]?).join=some d:=Bh h;have a:Z[j]? =some (some d):=by
    cases q:Z[j]? with
    |none=>rw[q]at a;cases a
    |some y=>rw[q]at a;exact congrArg some a
   obtain⟨v,e,q⟩:=r.at' j d a;refine⟨v,?_,q⟩;show some ((σ[j]?).join)=some (some v);rw[e];rfl
noncomputable def Wcb(Z a:En):Prop:=a.length=Z.length/\∀(i:Nat) (d:D),a[i]? =some (some d)->Z[i]? =some (some d)
def RelE.less(r:RelE K ρ H Z σ)(l:Wcb Z a):RelE K ρ H a σ:=⟨l.1.trans r.len,λi d h=>r.at' i d (l.2 i d h)⟩
end Mi
namespace Mi
open PySem L2
noncomputable def Wbl:Bop->Operator
 |.add=>.Add
 |.shr=>.RShift
 |.sub=>.Sub
 |.mul=>.Mult
 |.fdiv=>.FloorDiv
 |.mod=>.Mod
 |.pow=>.Pow
noncomputable def Xu:Cop->CmpOp
 |.eq=>.Eq
 |.ne=>.NotEq
 |.lt=>.Lt
 |.le=>.LtE
 |.gt=>.Gt
 |.ge=>.GtE
 |.isc=>.Is
 |.isnc=>.IsNot
 |.inn=>.In
 |.nin=>.NotIn
def Fin(K:Ag)(ρ:List Addr)(H:Hp)(d:D)(c:Store)(Q:VK):Prop:=
 ∀(a:List Addr) (v:V) (b:Hp),Fut K ρ H a b->RelS K a c b->RelD K a b d v->Q v b
variable {K:Ag} {ρ ρ':List Addr} {H H':Hp} {S S':Store} {d:D} {Q:VK}
def Fin.now(f:Fin K ρ H d S Q)(r:RelS K ρ S H)(q:RelD K ρ H d v):Q v H:=f ρ v H Fut.refl r q
def Fin.newT(f:Fin K ρ H (.tup ds) S Q)(r:RelS K ρ S H)(q:RelDs K ρ H ds xs):∀p,H p=none->Q (.ref p) (upd H p (.tup xs)):=λp n=>
 f ρ _ _ (Ja2 n) (r.new n) (by simp only[RelD];exact⟨p,xs,rfl,SqT.of Jak,q.fut (Ja2 n)⟩)
def Fin.newL(f:Fin K ρ H (.loc S.length) (S++[.lst ds]) Q)(r:RelS K ρ S H)(q:RelDs K ρ H ds xs):∀p,H p=none->Q (.ref p) (upd H p (.lst xs)):=λp n=>
 f (ρ++[p]) _ _ (Jbe n [p]) (r.alloc n q) (by simp only[RelD];exact⟨p,rfl,by rw[<-r.len,Aw (Ai _),Ha];rfl⟩)
def RelD.int_inv(h:RelD K ρ H (.int i) v):v=.int i:=by simpa only[RelD]using h
def RelD.bl_inv(h:RelD K ρ H (.bl i) v):v=.bl i:=by simpa only[RelD]using h
def RelD.str_inv(h:RelD K ρ H (.str i) v):v=.str i:=by simpa only[RelD]using h
def RelD.non_inv(h:RelD K ρ H .non v):v=.non:=by simpa only[RelD]using h
inductive TupI (K:Ag) (ρ:List Addr) (H:Hp) (ds:List D) (v:V):Prop
 |mk (a xs) (_:v=.ref a) (_:SqT K H a xs) (_:RelDs K ρ H ds xs):TupI K ρ H ds v
def RelD.tup_inv(h:RelD K ρ H (.tup ds) v):TupI K ρ H ds v:=by
 obtain⟨v,a,e,q,r⟩:=h;exact⟨v,a,e,q,r⟩
inductive KlI (K:Ag) (ρ:List Addr) (H:Hp) (ds:List D) (v:V):Prop
 |mk (a xs) (_:v=.ref a) (_:SqF K H a xs) (_:RelDs K ρ H ds xs):KlI K ρ H ds v
def RelD.kl_inv(h:RelD K ρ H (.kl ds) v):KlI K ρ H ds v:=by
 obtain⟨v,a,e,q,r⟩:=h;exact⟨v,a,e,q,r⟩
def RelD.loc_inv(h:RelD K ρ H (.loc l) v):∃a,v=.ref a/\ρ[l]? =some a:=by simpa only[RelD]using h
def RelD.int(i:Int):RelD K ρ H (.int i) (.int i):=by simp only[RelD]
def RelD.bl(i:Bool):RelD K ρ H (.bl i) (.bl i):=by simp only[RelD]
def RelD.str(i:Str):RelD K ρ H (.str i) (.str i):=by simp only[RelD]
def RelD.non:RelD K ρ H .non .non:=by simp only[RelD]
def RelD.kd_inv(h:RelD K ρ H (.kd kvs) v):∃a,v=.ref a/\Wc K a kvs:=by simpa only[RelD]using h
open PyProof.Rows in
theorem Jjh:∀{es:List Cc} {h:Heap} {a b:List (Str×Int)},KTD.Rows (U8 h) es (a.map λp=>(p.1,E9 (.int p.2)))->KTD.Rows (U8 h) es (b.map λp=>(p.1,E9 (.int p.2)))->a=b
 |[],h,a,b,c,f=>by
  cases a with
  |cons p a=>cases c
  |nil=>
   cases b with
   |cons p b=>cases f
   |nil=>rfl
 |e::es,h,a,b,c,f=>by
  cases a with
  |nil=>cases c
  |cons p a=>
   cases b with
   |nil=>cases f
   |cons q b=>
    obtain⟨x,n⟩:=p;obtain⟨y,m⟩:=q;cases c with
    |cons j k l=>
     cases f with
     |cons g o r=>
      rw[j]at g;cases g;obtain⟨t,s⟩:=M2 k;obtain⟨u,i⟩:=M2 o;rw[s]at i;cases i;rw[Jjh l r]
open PyProof.Rows in
def Wc.text{kvs:List (Str×Int)}(d:Wc K a kvs)(b:K.In h):KTD.TextTab h a (kvs.map λp=>(p.1,E9 (.int p.2))):=PySem.W.kt_text_in b d
def Wc.inj(d:Wc K a kvs)(d':Wc K a b)(g:K.In h):kvs=b:=by
 obtain⟨_,o,n,p,i,_,j,k⟩:=d.text g;obtain⟨_,r,l,m,c,_,e,f⟩:=d'.text g;rw[i]at c;cases c;rw[j]at e;cases e;exact Jjh k f
def Wc.obj{h:Heap}(d:Wc K a kvs)(b:K.In h):∃o,h.get? a=some o/\o.ExactDict:=by
 obtain⟨_,o,f,g,c,e,_⟩:=d.text b;exact⟨o,c,e⟩
inductive LstI (K:Ag) (ρ:List Addr) (H:Hp) (l:Nat) (v:V) (ds:List D):Prop
 |mk (a xs) (_:v=.ref a) (_:ρ[l]? =some a) (_:H a=some (.lst xs)) (_:RelDs K ρ H ds xs):LstI K ρ H l v ds
def RelS.lst(r:RelS K ρ S H)(h:RelD K ρ H (.loc l) v)(e:S[l]? =some (.lst ds)):LstI K ρ H l v ds:=by
 obtain⟨a,rfl,b⟩:=h.loc_inv;obtain⟨c,f,q⟩:=r.ob l a _ b e;exact⟨a,c,rfl,b,f,q⟩
def Jao(e:seqAt S l=some ds):S[l]? =some (.lst ds):=by
 unfold seqAt at e;split at e
 .cases e;assumption
 .cases e
def RelS.seq(r:RelS K ρ S H)(h:RelD K ρ H x v)(e:V6 S x=some ds):∃a xs,v=.ref a/\(SqL K H a xs\/SqT K H a xs)/\RelDs K ρ H ds xs:=by
 unfold V6 at e;split at e
 .cases e;obtain⟨a,xs,rfl,q,t⟩:=h.tup_inv;exact⟨a,xs,rfl,.inr q,t⟩
 .obtain⟨a,xs,rfl,_,q,t⟩:=r.lst h (Jao e);exact⟨a,xs,rfl,.inl (SqL.of q),t⟩
 .cases e;obtain⟨a,xs,rfl,q,t⟩:=h.kl_inv;exact⟨a,xs,rfl,.inl q.sq,t⟩
 .cases e
theorem Jbd:Line=sizeLine:=by rw[Ig];rfl
section
open PySem.Spec PyProof.Rows PyProof
section
open L2
variable {X:Cx}
def Jow:OpR X (Gy .Add) (λx y H Q=>∃a b ys,x=.ref a/\y=.ref b/\SqT X.K H a []/\SqT X.K H b ys/\Q (.ref b) H):=by
 intro l s σ H x y v u Q I w z h;obtain⟨a,b,ys,rfl,rfl,A,C,q⟩:=h;cases w;cases z;obtain⟨i,E,J,_⟩:=I.tuple A;obtain⟨c,r2,L,_⟩:=I.tuple C;have N:i=[]:=E.nil_iff.mpr rfl;subst N;obtain⟨⟨U,dd,m,sl⟩,o,p,n,r⟩:=id J;obtain⟨⟨t,j,data2,k⟩,e,f,Y,g⟩:=id L;simp only at p r f g;subst p r f g;exact Mo ⟨_,o,rfl⟩ ⟨_,e,rfl⟩ M6 Ox Ko J3 (Ju _ _) (PyProof.Rows.tuple_addW0 a b #[] c.toArray n Y dd j sl k rfl) ⟨o,e,⟨.ref b,H,I,rfl,q⟩⟩
end
end
def rB(K:Ag)(o:Bop):R2:=λx y H Q=>∃ρ S a b d S',RelS K ρ S H/\RelD K ρ H a x/\RelD K ρ H b y/\bop o a b S=.ok d S'/\Fin K ρ H d S' Q
def Jnc{i:Int}(h:i.natAbs<2^4096):B5 i<=2^20:=by
 unfold B5;split
 .exact Dg _
 .have hp:i.natAbs≠0:=by
   rename_i z;intro e;exact z (by simp[Int.natAbs_eq_zero.mp e])
  have:i.natAbs.log2<4096:=(Nat.log2_lt hp).mpr h;have:(2:Nat)^20=1048576:=by decide
  lia
def Jt7{n:Nat}(h:n<2^4096):n.log2<9000:=by
 by_cases e:n=0
 .subst e;decide+kernel
 .have:=(Nat.log2_lt e).mpr h
  lia
section
variable {X:Cx}
def Jtz:OpR X (Gy .Mult) (rI (λi j=>(small i||small j||(mid i&&mid j))=true) λi j=>.int (i*j)):=opI λi j _ _ _ _ _ a q=>PyProof.Rows.mul_int q (by
 simp only[Jd,Aj,small,mid,decide_eq_true_eq]at a;rcases a with(h|h)|h
 .exact Z6.ok (.inl h)
 .exact Z6.ok (.inr h)
 .exact IntMulOk.of_bits (Jnc h.1) (Jnc h.2))
def Jov:OpR X (Gy .FloorDiv) (rI (λ_ j=>0<j/\j.natAbs<2^4096) λi j=>.int (i/j)):=opI λi j _ _ _ _ _ a q=>by
 refine PyProof.Rows.floordiv_int (by omega) ?_ (.inl (PyProof.noPylong_of_log2 (Jt7 a.2)));rw[O6 i (by omega)];exact q
theorem Jyz(o:Bop):OpR X (Gy (Wbl o)) (rB X.K o):=by
 intro c s h H x y v u Q I i j J;obtain⟨ρ,S,r,t,d,S',g,k,l,e,fin⟩:=J;cases o with
 |add=>
  cases r<;>first|exact absurd e Jab|(cases t<;>first|exact absurd e Jab|(delta bop at e;dsimp only at e))
  .cases e;cases k.int_inv;cases l.int_inv;exact Jxh c s h H _ _ v u Q I i j ⟨_,_,rfl,rfl,fin.now g (RelD.int _)⟩
  .split at e
   .rename_i f;cases e;obtain⟨a,w,rfl,z,m⟩:=k.tup_inv;obtain⟨b,A,rfl,C,n⟩:=l.tup_inv
    by_cases E:w=[]
    .subst E;have:=m.length;rw[Fe]at this;have U:=B7.mp this;subst U;refine Jow c s h H _ _ v u Q I i j ⟨a,b,A,rfl,rfl,z,C,fin.now g ?_⟩;simp only[RelD,La];exact⟨b,A,rfl,C,n⟩
    refine Jt0 c s h H _ _ v u Q I i j ⟨a,b,w,A,rfl,rfl,z,C,E,?_,λY=>?_,λ_=>fin.newT g (m.append n)⟩
    .rw[<-m.length,<-n.length,<-Jbd];exact f
    .subst Y;have:=n.length;rw[Fe]at this;have eb:=B7.mp this;subst eb;refine fin.now g ?_;simp only[RelD,Dq];exact⟨a,w,rfl,z,m⟩
   .cases e
  .split at e
   .rename_i a b ha L;split at e
    .rename_i f;cases e;obtain⟨p,w,rfl,_,z,m⟩:=g.lst k ha;obtain⟨N,A,rfl,_,C,n⟩:=g.lst l L;exact Jxg c s h H _ _ v u Q I i j ⟨p,N,w,A,rfl,rfl,z,C,by rw[<-m.length,<-n.length,<-Jbd];exact f,fin.newL g (m.append n)⟩
    .cases e
   .cases e
  .split at e
   .rename_i b L;split at e
    .rename_i f;cases e;obtain⟨p,w,rfl,z,m⟩:=k.kl_inv;obtain⟨N,A,rfl,_,C,n⟩:=g.lst l L;exact Jt1 c s h H _ _ v u Q I i j ⟨p,N,w,A,rfl,rfl,z.sq,SqL.of C,by rw[<-m.length,<-n.length,<-Jbd];exact f,fin.newL g (m.append n)⟩
    .cases e
   .cases e
 |shr=>
  cases r<;>first|exact absurd e Jab|(cases t<;>first|exact absurd e Jab|(delta bop at e;dsimp only at e))
  split at e
  .rename_i f;cases e;cases k.int_inv;cases l.int_inv;exact Jxc c s h H _ _ v u Q I i j ⟨_,_,rfl,rfl,f,fin.now g (RelD.int _)⟩
  .cases e
 |sub=>
  cases r<;>first|exact absurd e Jab|(cases t<;>first|exact absurd e Jab|(delta bop at e;dsimp only at e))
  cases e;cases k.int_inv;cases l.int_inv;exact Jxb c s h H _ _ v u Q I i j ⟨_,_,rfl,rfl,fin.now g (RelD.int _)⟩
 |mul=>
  cases r<;>first|exact absurd e Jab|(cases t<;>first|exact absurd e Jab|(delta bop at e;dsimp only at e))
  split at e
  .rename_i f;cases e;cases k.int_inv;cases l.int_inv;exact Jtz c s h H _ _ v u Q I i j ⟨_,_,rfl,rfl,f,fin.now g (RelD.int _)⟩
  .cases e
 |fdiv=>
  cases r<;>first|exact absurd e Jab|(cases t<;>first|exact absurd e Jab|(delta bop at e;dsimp only at e))
  split at e
  .rename_i f;cases e;cases k.int_inv;cases l.int_inv;exact Jov c s h H _ _ v u Q I i j ⟨_,_,rfl,rfl,f,fin.now g (RelD.int _)⟩
  .cases e
 |mod=>
  cases r<;>first|exact absurd e Jab|(cases t<;>first|exact absurd e Jab|(delta bop at e;dsimp only at e))
  split at e
  .rename_i f;cases e;cases k.int_inv;cases l.int_inv;exact Jxe c s h H _ _ v u Q I i j ⟨_,_,rfl,rfl,f,fin.now g (RelD.int _)⟩
  .cases e
 |pow=>
  cases r<;>first|exact absurd e Jab|(cases t<;>first|exact absurd e Jab|(delta bop at e;dsimp only at e))
  split at e
  .rename_i f;simp only[Aj,decide_eq_true_eq]at f;cases e;cases k.int_inv;cases l.int_inv;exact Jxd c s h H _ _ v u Q I i j ⟨_,_,rfl,rfl,⟨f.1.1,f.1.2,f.2⟩,fin.now g (RelD.int _)⟩
  .cases e
end
theorem in1_units(A:Bi):A.in1.units=A.units+1:=rfl
section
variable {X:Cx} {pins:List (Addr×E8)} {σ:L2.St} {s:Shared}
theorem Jwm(f:RelV y u)(c:RelV x v)(g:Xr y=true)(fx:Xr x=true):Q5 A s u v (eqV y x):=by
 cases y with
 |non=>
  cases f;cases x with
  |non=>cases c;exact SeqAt.RcAt.none_none
  |bl b=>cases c;exact SeqAt.RcAt.none_bool b
  |int b=>obtain⟨t,rfl⟩:=c;exact SeqAt.RcAt.none_int b t
  |str b=>obtain⟨t,rfl⟩:=c;exact SeqAt.RcAt.none_str b t
  |_=>exact fx9 (show false=true from fx)
 |bl a=>
  cases f;cases x with
  |non=>cases c;exact SeqAt.RcAt.bool_none a
  |bl b=>cases c;exact SeqAt.RcAt.bool_bool a b
  |int b=>obtain⟨t,rfl⟩:=c;exact SeqAt.RcAt.bool_int a b t
  |str b=>obtain⟨t,rfl⟩:=c;exact SeqAt.RcAt.bool_str a b t
  |_=>exact fx9 (show false=true from fx)
 |int a=>
  obtain⟨e,rfl⟩:=f;cases x with
  |non=>cases c;exact SeqAt.RcAt.int_none a e
  |bl b=>cases c;exact SeqAt.RcAt.int_bool a e b
  |int b=>obtain⟨t,rfl⟩:=c;exact SeqAt.RcAt.int_int a e b t
  |str b=>obtain⟨t,rfl⟩:=c;exact SeqAt.RcAt.int_str a e b t
  |_=>exact fx9 (show false=true from fx)
 |str a=>
  obtain⟨e,rfl⟩:=f;cases x with
  |non=>cases c;exact SeqAt.RcAt.str_none a e
  |bl b=>cases c;exact SeqAt.RcAt.str_bool a e b
  |int b=>obtain⟨t,rfl⟩:=c;exact SeqAt.RcAt.str_int a e b t
  |str b=>obtain⟨t,rfl⟩:=c;exact SeqAt.RcAt.str_str a e b t
  |_=>exact fx9 (show false=true from fx)
 |_=>exact fx9 (show false=true from g)
def Jd2(h:RelD K ρ H x v)(e:Wf x=some w):v=w/\Xr w=true:=by
 cases x<;>simp only[Wf]at e<;>try (cases e;done)
 .cases e;exact⟨h.non_inv,rfl⟩
 .cases e;exact⟨h.bl_inv,rfl⟩
 .cases e;exact⟨h.int_inv,rfl⟩
 .cases e;exact⟨h.str_inv,rfl⟩
theorem Jdr{f:D->D->Option Bool}:∀{as bs:List D} {b:Bool},eqL f as bs=some b->as.length=bs.length->∀(i:Nat) (x y:D),as[i]? =some x->bs[i]? =some y->∃c,f x y=some c
 |[],[],b,_,_,i,x,y,g,_=>by simp at g
 |[],_::_,b,_,j,i,x,y,g,_=>by simp at g
 |_::_,[],b,_,j,i,x,y,_,h=>by simp at h
 |a::as,c::bs,b,e,j,i,x,y,g,h=>by
  simp only[eqL]at e;split at e
  .rename_i p q hp k;cases i with
   |zero=>simp at g h;subst g h;exact⟨p,hp⟩
   |succ i=>exact Jdr k (by simpa using j) i x y (by simpa using g) (by simpa using h)
  .cases e
theorem Jiy{f:D->D->Option Bool}(e:Nat->Bool):∀{as bs:List D} {b:Bool} (k:Nat),eqL f as bs=some b->as.length=bs.length->(∀(i:Nat) (x y:D),as[i]? =some x->bs[i]? =some y->f x y=some (e (k+i)))->b=((Cf as.length).map (k+·)).all e
 |[],[],b,k,h,_,_=>by simp only[eqL]at h;cases h;rfl
 |[],_::_,b,k,h,g,_=>by simp at g
 |_::_,[],b,k,h,g,_=>by simp at g
 |a::as,c::bs,b,k,h,g,l=>by
  simp only[eqL]at h;split at h
  .rename_i p q hp m;cases h;have j:=l 0 a c rfl rfl;rw[hp]at j;have j:p=e (k+0):=Bh j;have n:=Jiy e (k+1) m (by simpa using g) λi x y o r=>by
    have:=l (i+1) x y (by simpa using o) (by simpa using r);rw[show k+1+i=k+(i+1)from by lia];exact this
   rw[j,n,Bb,P7,Ax,Pm,B6];congr 2;refine D8 λi _=>?_;show k+1+i=k+(i+1)
   lia
  .cases h
theorem Jjx(I:Inv X pins σ H s)(r:RelS X.K ρ S H):∀(n:Nat) {x y:D} {v:V} {b:Bool},RelD X.K ρ H x v->RelD X.K ρ H y v->eqD S n x y=some b->b=true:=by
 have N:∀{x y:D} {v w z:V} {b:Bool},RelD X.K ρ H x v->RelD X.K ρ H y v->Wf x=some w->Wf y=some z->some (eqV w z)=some b->b=true:=λ{x y v w z b} g f h i e=>by
  obtain⟨rfl,U⟩:=Jd2 g h;obtain⟨rfl,f2⟩:=Jd2 f i;cases e;cases v<;>first|rfl|exact fx9 U|exact beq_self_eq_true _
 intro n
 induction n with
 |zero=>
  intro x y v b g f e;simp only[eqD]at e;split at e
  .rename_i w z h i;exact N g f h i e
  .cases e
 |succ n Y=>
  intro x y v b g f e;have j:∀{as bs:List D} {m:List V} {b:Bool},RelDs X.K ρ H as m->RelDs X.K ρ H bs m->eqL (eqD S n) as bs=some b->b=true:=by
   intro as
   induction as with
   |nil=>
    intro bs m b g f e;cases bs with
    |nil=>simp only[eqL]at e;cases e;rfl
    |cons c bs=>
     rw[g.inv_nil]at f;obtain⟨_,_,z,_⟩:=f.inv_cons;cases z
   |cons a as A=>
    intro bs m b g f e;obtain⟨w,ws,rfl,q1,o⟩:=g.inv_cons;cases bs with
    |nil=>cases f.inv_nil
    |cons c bs=>
     obtain⟨w',ws',z,q2,u⟩:=f.inv_cons;cases z;simp only[eqL]at e;split at e
     .rename_i p q hp hq;cases e;rw[Y q1 q2 hp,A o u hq];rfl
     .cases e
  simp only[eqD]at e;split at e
  .rename_i as bs;obtain⟨a,xs,rfl,C,o⟩:=g.tup_inv;obtain⟨a',xs',E,J,u⟩:=f.tup_inv;cases E;cases I.tuple_inj C J;have hl:as.length=bs.length:=o.length.trans u.length.symm;rw[if_pos hl]at e;exact j o u e
  .rename_i l k;obtain⟨a,rfl,C⟩:=g.loc_inv;obtain⟨a',E,J⟩:=f.loc_inv;cases E;have L:l=k:=Jc4 r.nd C J;subst L;split at e
   .rename_i as bs h i;rw[h]at i;cases i;rw[if_pos rfl]at e;obtain⟨b',xs,_,_,_,t⟩:=r.lst g (Jao h);exact j t t e
   .cases e
  .split at e
   .rename_i w z h i;exact N g f h i e
   .cases e
end
end Mi
namespace Mi
open PySem L2
theorem Jn9(e:RelV y u)(c:RelV x v)(f:Xr y=true)(fx:Xr x=true):Pu A s u v (!eqV y x):=by
 cases y with
 |non=>
  cases e;cases x with
  |non=>cases c;exact SeqAt.RcNeAt.none_none
  |bl b=>cases c;exact SeqAt.RcNeAt.none_bool b
  |int b=>obtain⟨t,rfl⟩:=c;exact SeqAt.RcNeAt.none_int b t
  |str b=>obtain⟨t,rfl⟩:=c;exact SeqAt.RcNeAt.none_str b t
  |_=>exact fx9 (show false=true from fx)
 |bl a=>
  cases e;cases x with
  |non=>cases c;exact SeqAt.RcNeAt.bool_none a
  |bl b=>cases c;exact SeqAt.RcNeAt.bool_bool a b
  |int b=>obtain⟨t,rfl⟩:=c;exact SeqAt.RcNeAt.bool_int a b t
  |str b=>obtain⟨t,rfl⟩:=c;exact SeqAt.RcNeAt.bool_str a b t
  |_=>exact fx9 (show false=true from fx)
 |int a=>
  obtain⟨d,rfl⟩:=e;cases x with
  |non=>cases c;exact SeqAt.RcNeAt.int_none a d
  |bl b=>cases c;exact SeqAt.RcNeAt.int_bool a d b
  |int b=>obtain⟨t,rfl⟩:=c;exact SeqAt.RcNeAt.int_int a d b t
  |str b=>obtain⟨t,rfl⟩:=c;exact SeqAt.RcNeAt.int_str a d b t
  |_=>exact fx9 (show false=true from fx)
 |str a=>
  obtain⟨d,rfl⟩:=e;cases x with
  |non=>cases c;exact SeqAt.RcNeAt.str_none a d
  |bl b=>cases c;exact SeqAt.RcNeAt.str_bool a d b
  |int b=>obtain⟨t,rfl⟩:=c;exact SeqAt.RcNeAt.str_int a d b t
  |str b=>obtain⟨t,rfl⟩:=c;exact SeqAt.RcNeAt.str_str a d b t
  |_=>exact fx9 (show false=true from fx)
 |_=>exact fx9 (show false=true from f)
section
variable {X:Cx} {pins:List (Addr×E8)} {σ:L2.St} {s:Shared} {ρ:List Addr} {H:Hp} {S:Store}
structure Yt(A:Bi)(s:Shared)(u w:Value)(b:Bool):Prop where
 eq:F3 A s u w b
 rc:Q5 A s u w b
 ne:Pu A s u w (!b)
def Jms(g:RelD X.K ρ H x h)(i:RelD X.K ρ H y j)(a:RelV h u)(c:RelV j w)(k:Wf x=some p)(l:Wf y=some q)(e:some (eqV p q)=some b):Yt A s u w b:=by
 obtain⟨rfl,d⟩:=Jd2 g k;obtain⟨rfl,f⟩:=Jd2 i l;cases e;exact⟨Jyh a c d f,Jwm a c d f,Jn9 a c d f⟩
def Jlw{us c:List Value}(d:RelDs X.K ρ H as xs)(f:RelDs X.K ρ H bs ys)(g:Vals xs us)(h:Vals ys c)(l:j<us.toArray.size)(m:j<c.toArray.size):
  ∃a b v z,as[j]? =some a/\bs[j]? =some b/\RelD X.K ρ H a v/\RelD X.K ρ H b z/\RelV v us.toArray[j]/\RelV z c.toArray[j]:=by
 have i:j<as.length:=by rw[d.length,g.length];simpa using l
 have k:j<bs.length:=by rw[f.length,h.length];simpa using m
 obtain⟨v,n,o⟩:=d.get (Af i);obtain⟨z,p,r⟩:=f.get (Af k);obtain⟨t,u,w⟩:=g.get n;obtain⟨x,y,A⟩:=h.get p;refine⟨_,_,v,z,Af i,Af k,o,r,?_,?_⟩
 .have:us.toArray[j]=t:=by
   have:=Ae.mp u;obtain⟨_,e⟩:=this
   simpa using e
  rw[this];exact w
 .have:c.toArray[j]=x:=by
   have:=Ae.mp y;obtain⟨_,e⟩:=this
   simpa using e
  rw[this];exact A
theorem Jhg(I:Inv X pins σ H s)(r:RelS X.K ρ S H):∀(n:Nat) {A:Bi} {x y:D} {vx vy:V} {u w:Value} {b:Bool},A.units+n<Dc->RelD X.K ρ H x vx->RelD X.K ρ H y vy->RelV vx u->RelV vy w->eqD S n x y=some b->Yt A s u w b:=by
 intro n
 induction n with
 |zero=>
  intro A x y vx vy u w b hu L N r1 r2 e;simp only[eqD]at e;split at e
  .rename_i p q e1 e2;exact Jms L N r1 r2 e1 e2 e
  .cases e
 |succ n ih=>
  intro A x y vx vy u w b hu L N r1 r2 e;have e0:=e;have i:A.units<Dc:=by lia
  have hu1:A.in1.units+n<Dc:=by rw[in1_units];lia
  simp only[eqD]at e;split at e
  .rename_i as bs;obtain⟨a,xs,rfl,p1,t1⟩:=L.tup_inv;obtain⟨c,ys,rfl,p2,t2⟩:=N.tup_inv;cases r1;cases r2;obtain⟨h,v1,Q,z1⟩:=I.tuple p1;obtain⟨m,v2,U,z2⟩:=I.tuple p2;have Y:h.toArray.size=as.length:=by rw[Aq,<-v1.length,t1.length]
   have s2:m.toArray.size=bs.length:=by rw[Aq,<-v2.length,t2.length]
   let o:Nat->Bool:=λj=>match as[j]?,bs[j]? with|some p,some q=>(eqD S n p q).getD false|_,_=>false
   have he:∀(hs:∀(j:Nat) (p q:D),as[j]? =some p->bs[j]? =some q->∃c,eqD S n p q=some c) (j:Nat) (g1:j<h.toArray.size) (g2:j<m.toArray.size),F3 A.in1 s h.toArray[j] m.toArray[j] (o j):=λhs j g1 g2=>by
    obtain⟨p,q,v,z,d,f,q1,q2,q3,q4⟩:=Jlw t1 t2 v1 v2 g1 g2;obtain⟨c,hc⟩:=hs j p q d f;have:o j=c:=by simp only[o,d,f,hc];rfl
    rw[this];exact(ih hu1 q1 q2 q3 q4 hc).eq
   have fin:∀(hs:∀(j:Nat) (p q:D),as[j]? =some p->bs[j]? =some q->∃c,eqD S n p q=some c),((Cf (min h.toArray.size m.toArray.size)).all o&&h.toArray.size==m.toArray.size)=b->Yt A s (.ref a) (.ref c) b:=λhs hb=>by
    have E:=SeqAt.RcAt.tuples (show s.heap.IsTuple a h.toArray from Q) (show s.heap.IsTuple c m.toArray from U) i (he hs);have J:=SeqAt.RcNeAt.tuples (show s.heap.IsTuple a h.toArray from Q) (show s.heap.IsTuple c m.toArray from U) i (he hs);rw[hb]at E J;refine⟨?_,E,J⟩
    by_cases t:a=c
    .subst t;have:=Jjx I r (n+1) L N e0;subst this;exact Mh _
    .exact Pc t E
   split at e
   .rename_i g;refine fin (λj p q d f=>Jdr e g j p q d f) ?_;rw[Y,s2,g,Nat.min_self,beq_self_eq_true,Vb];rw[Jiy o 0 e g λj p q d f=>?_]
    .rw[g];congr 1;exact(Vt _).symm.trans (D8 λj _=>(Ew j).symm)
    .obtain⟨c',C⟩:=Jdr e g j p q d f;rw[C,Ew];simp only[o,d,f,C];rfl
   .rename_i g;split at e
    .rename_i hsome;cases e;obtain⟨b',hb'⟩:=Ci.mp hsome;refine fin (λj p q d f=>?_) ?_
     .have l1:=(Ae.mp d).1;have l2:=(Ae.mp f).1;refine Jdr hb' (by rw[Fv,Fv,Nat.min_comm]) j p q ?_ ?_
      .rw[Fq l2];exact d
      .rw[Fq l1];exact f
     .have:(h.toArray.size==m.toArray.size)=false:=by rw[Y,s2];simpa using g
      rw[this,Lq]
    .cases e
  .rename_i l k;split at e
   .rename_i as bs e1 e2;obtain⟨a,xs,rfl,_,p1,t1⟩:=r.lst L (Jao e1);obtain⟨c,ys,rfl,_,p2,t2⟩:=r.lst N (Jao e2);cases r1;cases r2;obtain⟨h,v1,Q,z1⟩:=I.list (SqL.of p1);obtain⟨m,v2,U,z2⟩:=I.list (SqL.of p2);have Y:h.toArray.size=as.length:=by rw[Aq,<-v1.length,t1.length]
    have s2:m.toArray.size=bs.length:=by rw[Aq,<-v2.length,t2.length]
    have fin:∀(E:Q5 A s (.ref a) (.ref c) b) (J:Pu A s (.ref a) (.ref c) (!b)),Yt A s (.ref a) (.ref c) b:=λE J=>by
     refine⟨?_,E,J⟩
     by_cases t:a=c
     .subst t;have:=Jjx I r (n+1) L N e0;subst this;exact Mh _
     .exact Pc t E
    split at e
    .rename_i g
     let o:Nat->Bool:=λj=>match as[j]?,bs[j]? with|some p,some q=>(eqD S n p q).getD false|_,_=>false
     have he:∀(j:Nat) (g1:j<h.toArray.size) (g2:j<m.toArray.size),F3 A.in1 s h.toArray[j] m.toArray[j] (o j):=λj g1 g2=>by
      obtain⟨p,q,v,z,d,f,q1,q2,q3,q4⟩:=Jlw t1 t2 v1 v2 g1 g2;obtain⟨c,hc⟩:=Jdr e g j p q d f;have:o j=c:=by simp only[o,d,f,hc];rfl
      rw[this];exact(ih hu1 q1 q2 q3 q4 hc).eq
     have hb:(Cf h.toArray.size).all o=b:=by
      rw[Y];rw[Jiy o 0 e g λj p q d f=>?_]
      .congr 1;exact(Vt _).symm.trans (D8 λj _=>(Ew j).symm)
      .obtain⟨c',C⟩:=Jdr e g j p q d f;rw[C,Ew];simp only[o,d,f,C];rfl
     have E:=SeqAt.RcAt.lists Q.isList U.isList (by rw[Y,s2,g]) i he;have J:=SeqAt.RcNeAt.lists Q.isList U.isList (by rw[Y,s2,g]) i he;rw[hb]at E J;exact fin E J
    .rename_i g;cases e;have hsz:(h.toArray.size !=m.toArray.size)=true:=by rw[Y,s2];simpa using g
     exact fin (SeqAt.RcAt.lists_lengths Q.isList U.isList hsz i) (SeqAt.RcNeAt.lists_lengths Q.isList U.isList hsz i)
   .cases e
  .split at e
   .rename_i p q e1 e2;exact Jms L N r1 r2 e1 e2 e
   .cases e
end
section
variable {X:Cx} {ρ:List Addr} {H:Hp} {S:Store} {pins:List (Addr×E8)} {σ:L2.St} {s:Shared}
def Jc5(I:Inv X pins σ H s)(g:SqL X.K H a xs)(h:SqT X.K H a ys):False:=by
 obtain⟨i,_,⟨o,n,e,c,_⟩,_⟩:=I.list g;obtain⟨b,_,⟨j,d,f,_⟩,_⟩:=I.tuple h;rw[e]at d;cases d;rw[c]at f;injection f with z;exact absurd z (by decide)
def Jfk(I:Inv X pins σ H s)(f:SqL X.K H a xs)(g:Wc X.K a kvs):False:=by
 obtain⟨h,_,⟨o,n,e,c,_⟩,_⟩:=I.list f;obtain⟨i,b,x⟩:=g.obj I.kIn;rw[e]at b;cases b;have d:=x.1;rw[c]at d;injection d with z;exact absurd z (by decide)
def Jer(I:Inv X pins σ H s)(f:SqT X.K H a xs)(g:Wc X.K a kvs):False:=by
 obtain⟨h,_,⟨o,e,c,_⟩,_⟩:=I.tuple f;obtain⟨i,b,x⟩:=g.obj I.kIn;rw[e]at b;cases b;have d:=x.1;rw[c]at d;injection d with z;exact absurd z (by decide)
theorem Wc.look{K:Ag}(d:Wc K a kvs):∃o,K.lookup a=some o:=by
 unfold Wc L4 at d;cases h:K.lookup a with
 |none=>simp[h]at d
 |some o=>exact⟨o,rfl⟩
theorem Jd3(h:RelO K ρ H a o):∃o0:HO,H a=Option.some o0/\(∀xs,o0≠ .tup xs)/\∀u w,o0≠ .frz u (.tup w)/\o0≠ .frz u (.lst w):=by
 cases o with
 |lst b=>obtain⟨xs,e,_⟩:=h;exact⟨_,e,(λ_ z=>by cases z),(λ_ _=>⟨nofun,nofun⟩)⟩
 |dct b=>obtain⟨xs,e,_⟩:=h;exact⟨_,e,(λ_ z=>by cases z),(λ_ _=>⟨nofun,nofun⟩)⟩
 |dtu b=>obtain⟨xs,e,_⟩:=h;exact⟨_,e,(λ_ z=>by cases z),(λ_ _=>⟨nofun,nofun⟩)⟩
 |rg b=>obtain⟨xs,e,_⟩:=h;exact⟨_,e,(λ_ z=>by cases z),(λ_ _=>⟨nofun,nofun⟩)⟩
 |ins c d=>obtain⟨C,f,g,n,e,r⟩:=h;exact⟨_,e,(λ_ z=>by cases z),(λ_ _=>⟨nofun,nofun⟩)⟩
def Wbo(I:Inv X pins σ H s){xs:List V}(e:H a=some o0)(b:∀xs,o0≠ .tup xs)(d:∀u w,o0≠ .frz u (.tup w)/\o0≠ .frz u (.lst w))(q:SqT X.K H a xs):False:=by
 rcases q with q|⟨o,_,_,c,_⟩
 .rw[e]at q;exact b _ (Bh q)
 .have z:=(I.bs a o (I.ok.mod.kin a o c)).2;rw[e]at z;cases z
def Wbp(I:Inv X pins σ H s)(e:H a=some o0)(b:∀u w,o0≠ .frz u (.tup w)/\o0≠ .frz u (.lst w))(q:SqF X.K H a xs):False:=by
 rcases q with⟨o,q⟩|⟨o,_,_,c,_⟩
 .rw[e]at q;exact(b _ _).2 (Bh q)
 .have z:=(I.bs a o (I.ok.mod.kin a o c)).2;rw[e]at z;cases z
def Wbq(I:Inv X pins σ H s)(e:H a=some o0)(q:Wc X.K a kvs):False:=by
 obtain⟨o,b⟩:=q.look;have z:=(I.bs a o (I.ok.mod.kin a o b)).2;rw[e]at z;cases z
mutual
theorem RelD.inj(I:Inv X pins σ H s)(r:RelS X.K ρ S H):∀{d d':D} {v:V},RelD X.K ρ H d v->RelD X.K ρ H d' v->d=d'
 |.non,d',v,h,h'=>by
  cases h.non_inv;cases d'<;>simp only[RelD]at h'<;>first|rfl|(cases h';done)|(obtain⟨_,_,e,_⟩:=h';cases e)|(obtain⟨_,e,_⟩:=h';cases e)
 |.bl b,d',v,h,h'=>by
  cases h.bl_inv;cases d'<;>simp only[RelD]at h'<;>first|(cases h';rfl)|(cases h';done)|(obtain⟨_,_,e,_⟩:=h';cases e)|(obtain⟨_,e,_⟩:=h';cases e)
 |.int b,d',v,h,h'=>by
  cases h.int_inv;cases d'<;>simp only[RelD]at h'<;>first|(cases h';rfl)|(cases h';done)|(obtain⟨_,_,e,_⟩:=h';cases e)|(obtain⟨_,e,_⟩:=h';cases e)
 |.str b,d',v,h,h'=>by
  cases h.str_inv;cases d'<;>simp only[RelD]at h'<;>first|(cases h';rfl)|(cases h';done)|(obtain⟨_,_,e,_⟩:=h';cases e)|(obtain⟨_,e,_⟩:=h';cases e)
 |.tup ds,d',v,h,h'=>by
  obtain⟨a,xs,rfl,q,t⟩:=h.tup_inv;cases d' with
  |tup n=>
   obtain⟨f,g,e,c,i⟩:=h'.tup_inv;cases e;cases I.tuple_inj q c;rw[RelDs.inj I r t i]
  |loc l=>
   obtain⟨f,e,m⟩:=h'.loc_inv;cases e;obtain⟨o,_,p⟩:=r.at m;obtain⟨y,j,x,u⟩:=Jd3 p;exact(Wbo I j x u q).elim
  |kl n=>
   obtain⟨f,g,e,c,i⟩:=h'.kl_inv;cases e;exact(Jc5 I c.sq q).elim
  |kd w=>
   obtain⟨f,e,c⟩:=h'.kd_inv;cases e;exact(Jer I q c).elim
  |_=>simp only[RelD]at h';cases h'
 |.loc l,d',v,h,h'=>by
  obtain⟨a,rfl,m⟩:=h.loc_inv;obtain⟨o,_,p⟩:=r.at m;obtain⟨y,j,x,u⟩:=Jd3 p;cases d' with
  |loc k=>
   obtain⟨f,e,A⟩:=h'.loc_inv;cases e;rw[Jc4 r.nd m A]
  |tup n=>
   obtain⟨f,g,e,c,i⟩:=h'.tup_inv;cases e;exact(Wbo I j x u c).elim
  |kl n=>
   obtain⟨f,g,e,c,i⟩:=h'.kl_inv;cases e;exact(Wbp I j u c).elim
  |kd w=>
   obtain⟨f,e,c⟩:=h'.kd_inv;cases e;exact(Wbq I j c).elim
  |_=>simp only[RelD]at h';cases h'
 |.kl ds,d',v,h,h'=>by
  obtain⟨a,xs,rfl,q,t⟩:=h.kl_inv;cases d' with
  |kl n=>
   obtain⟨f,g,e,c,i⟩:=h'.kl_inv;cases e;cases I.list_inj q.sq c.sq;rw[RelDs.inj I r t i]
  |loc l=>
   obtain⟨f,e,m⟩:=h'.loc_inv;cases e;obtain⟨o,_,p⟩:=r.at m;obtain⟨y,j,x,u⟩:=Jd3 p;exact(Wbp I j u q).elim
  |tup n=>
   obtain⟨f,g,e,c,i⟩:=h'.tup_inv;cases e;exact(Jc5 I q.sq c).elim
  |kd w=>
   obtain⟨f,e,c⟩:=h'.kd_inv;cases e;exact(Jfk I q.sq c).elim
  |_=>simp only[RelD]at h';cases h'
 |.kd w,d',v,h,h'=>by
  obtain⟨a,rfl,q⟩:=h.kd_inv;cases d' with
  |kd z=>
   obtain⟨f,e,c⟩:=h'.kd_inv;cases e;rw[q.inj c I.kIn]
  |tup n=>
   obtain⟨f,g,e,c,i⟩:=h'.tup_inv;cases e;exact(Jer I c q).elim
  |loc l=>
   obtain⟨f,e,m⟩:=h'.loc_inv;cases e;obtain⟨o,_,p⟩:=r.at m;obtain⟨y,j,x,u⟩:=Jd3 p;exact(Wbq I j q).elim
  |kl n=>
   obtain⟨f,g,e,c,i⟩:=h'.kl_inv;cases e;exact(Jfk I c.sq q).elim
  |_=>simp only[RelD]at h';cases h'
theorem RelDs.inj(I:Inv X pins σ H s)(r:RelS X.K ρ S H):∀{ds a:List D} {vs:List V},RelDs X.K ρ H ds vs->RelDs X.K ρ H a vs->ds=a
 |[],a,vs,h,h'=>by
  rw[h.inv_nil]at h';cases a with
  |nil=>rfl
  |cons d es=>obtain⟨_,_,e,_⟩:=h'.inv_cons;cases e
 |d::ds,a,vs,h,h'=>by
  obtain⟨v,g,rfl,q,t⟩:=h.inv_cons;cases a with
  |nil=>cases h'.inv_nil
  |cons i es=>
   obtain⟨j,b,e,c,f⟩:=h'.inv_cons;cases e;rw[RelD.inj I r q c,RelDs.inj I r t f]
end
def rC(K:Ag)(o:Cop):R2:=λx y H Q=>∃ρ S a b k,RelS K ρ S H/\RelD K ρ H a x/\RelD K ρ H b y/\cop o a b S=some k/\Q (.bl k) H
theorem Jec(I:Inv X pins σ H s)(r:RelS X.K ρ S H){A:Bi}(f:A.units+Deep<Dc)(l:RelD X.K ρ H x m)(n:RelV m w)
  {us:List Value}(t:RelDs X.K ρ H ds xs)(v:Vals xs us)(e:anyEq S Deep x ds=some b):∃e:Value->Bool,(∀u∈us,F3 A s u w (e u))/\us.any e=b:=by
 classical
 let j:Value->Bool:=λu=>decide (∃d v,RelD X.K ρ H d v/\RelV v u/\eqD S Deep d x=some true)
 have c:∀{d:D} {v:V} {u:Value} {b:Bool},RelD X.K ρ H d v->RelV v u->eqD S Deep d x=some b->j u=b:=λ{d v u b} h a e=>by
  cases b with
  |true=>exact decide_eq_true ⟨d,v,h,a,e⟩
  |false=>
   refine decide_eq_false ?_;rintro⟨Y,k,o,y,C⟩;cases a.inj y;rw[RelD.inj I r h o,C]at e;cases e
 refine⟨j,?_⟩
 induction ds generalizing xs us b with
 |nil=>
  rw[t.inv_nil]at v;cases v;simp only[anyEq]at e;cases e;exact⟨λu f=>by simp at f,rfl⟩
 |cons d ds E=>
  obtain⟨z,zs,rfl,q,J⟩:=t.inv_cons;cases v with
  |cons a k=>
   rename_i u us;simp only[anyEq]at e;split at e
   .rename_i p p' g L;cases e;obtain⟨N,Q⟩:=E J k L;refine⟨λU i=>?_,?_⟩
    .rcases Am.mp i with rfl|hm
     .rw[c q a g];exact(Jhg I r Deep f q l a n g).eq
     .exact N U hm
    .rw[Gg,c q a g,Q]
   .cases e
def RelS.dct(rs:RelS K ρ S H)(r:RelD K ρ H (.loc l) v)(h:S[l]? =some (.dct kvs)):∃a b,v=.ref a/\ρ[l]? =some a/\H a=some (.dK b)/\RelKv G8 K ρ H kvs b:=by
 obtain⟨a,rfl,c⟩:=r.loc_inv;obtain⟨b,e,q⟩:=rs.ob l a _ c h;exact⟨a,b,rfl,c,e,q⟩
inductive DtuI (K:Ag) (ρ:List Addr) (H:Hp) (l:Nat) (v:V) (kvs:List (Rdu.PK×D)):Prop
 |mk (a ws) (_:v=.ref a) (_:ρ[l]? =some a) (_:H a=some (.dT ws)) (_:RelKv pK K ρ H kvs ws):DtuI K ρ H l v kvs
def RelS.dtu(rs:RelS K ρ S H)(r:RelD K ρ H (.loc l) v)(h:S[l]? =some (.dtu kvs)):DtuI K ρ H l v kvs:=by
 obtain⟨a,rfl,b⟩:=r.loc_inv;obtain⟨c,e,q⟩:=rs.ob l a _ b h;exact⟨a,c,rfl,b,e,q⟩
def RelS.rgn(rs:RelS K ρ S H)(r:RelD K ρ H (.loc l) v)(h:S[l]? =some (.rg kvs)):∃a xs,v=.ref a/\ρ[l]? =some a/\H a=some (Rg a xs)/\V3 K ρ H kvs xs:=by
 obtain⟨a,rfl,b⟩:=r.loc_inv;obtain⟨c,e,q⟩:=rs.ob l a _ b h;exact⟨a,c,rfl,b,e,q⟩
def Jez(e:dctAt S l=some kvs):S[l]? =some (.dct kvs):=by
 unfold dctAt at e;split at e
 .cases e;assumption
 .cases e
def Jcg(e:dtAt S l=some kvs):S[l]? =some (.dtu kvs):=by
 unfold dtAt at e;split at e
 .cases e;assumption
 .cases e
noncomputable def npB(K:Ag):Bool:=K.all λp=>match p.2.data with
 |.seq a _=>(match a.toList with|[.int _ _,.int _ _]=>false|_=>true)
 |_=>true
def Jf9(h:kyD y=some p):y=dK p:=by
 unfold kyD at h;split at h
 .cases h;rfl
 .cases h
def Jf5(j:npB K=true)(h:RelD K ρ H (dK p) v):∃b,v=.ref b/\H b=some (.tup ((pK p).map kV)):=by
 obtain⟨a,C,rfl,k,l⟩:=h.tup_inv;obtain⟨E,g,rfl,m,i⟩:=l.inv_cons;obtain⟨I,c,rfl,w,t⟩:=i.inv_cons;cases t.inv_nil;cases m.int_inv;cases w.int_inv;refine⟨a,rfl,?_⟩;rcases k with h|⟨o,d,n,x,_,y,_,r⟩
 .exact h
 .have z:(a,o)∈K:=by obtain⟨J,L,e,_⟩:=List.lookup_eq_some_iff.mp x;rw[e];simp
  have:=Ed.mp j _ z;cases f:d.toList with
  |nil=>rw[f]at r;cases r
  |cons u N=>
   rw[f]at r;cases r with
   |cons g c=>
    cases c with
    |cons c A=>
     cases A;obtain⟨i,rfl⟩:=g;obtain⟨Q,rfl⟩:=c;simp[y,f]at this
def Ji1(n:npB K=true)(rs:RelS K ρ S H)(k:RelD K ρ H (.loc l) x)(m:RelD K ρ H y r)(e:Xt S l y=some o):
  ∃a g,x=.ref a/\IsD H a/\Xx H a r g/\((o=none/\g=none)\/∃d v,o=some d/\g=some v/\RelD K ρ H d v):=by
 unfold Xt at e;split at e
 .rename_i h j;split at e<;>try (cases e;done)
  rename_i i;cases e;obtain⟨a,c,rfl,_,f,q⟩:=rs.dct k j;cases m.int_inv;refine⟨a,Wu c (G8 i),rfl,.inl ⟨c,.inl f⟩,.inl ⟨c,G8 i,.inl f,rfl,rfl⟩,?_⟩;exact q.val Jmg i
 .rename_i h j;obtain⟨p,hp,rfl⟩:=Al.mp e;cases Jf9 hp;obtain⟨a,c,rfl,_,f,q⟩:=rs.dtu k j;obtain⟨b,rfl,t⟩:=Jf5 n m;exact⟨a,Wu c (pK p),rfl,.inr ⟨c,.inl f⟩,Xx.t f t,q.val Jfi p⟩
 .cases e
theorem Jrl(c:npB K=true)(rs:RelS K ρ S H)(f:RelD K ρ H i x)(j:RelD K ρ H k y)(e:dIn i k S=some b):∃a,y=.ref a/\∃o,Xx H a x o/\b=o.isSome:=by
 unfold dIn at e;split at e<;>try (cases e;done)
 obtain⟨o,l,rfl⟩:=Al.mp e;obtain⟨a,m,rfl,_,g,h⟩:=Ji1 c rs j f l;refine⟨a,rfl,m,g,?_⟩;rcases h with⟨rfl,rfl⟩|⟨d,v,rfl,rfl,_⟩<;>rfl
theorem Jl4{κ a:Type}{f:κ->a}:∀{kvs:List (κ×D)} {b:List (a×V)},RelKv f K ρ H kvs b->∀w∈b,∃p∈kvs,w.1=f p.1/\RelD K ρ H p.2 w.2
 |[],b,h,w,hw=>by cases(show b=[]from h);cases hw
 |p::r,b,h,w,hw=>by
  obtain⟨v,us,rfl,q,t⟩:=h;rcases Am.mp hw with rfl|hw
  .exact⟨p,Br,rfl,q⟩
  .obtain⟨c,d,e⟩:=Jl4 t w hw;exact⟨c,A7 _ d,e⟩
def Jbz{b:Type}{a:b}:¬none=some a:=nofun
theorem Jfp(o:Cop)(hu:X.A.units+64<Dc)(np:npB X.K=true):OpR X (Ei (Xu o)) (rC X.K o):=by
 intro pins s σ H x y v u Q I f h hq_;obtain⟨ρ,S,L,N,k,i,c,j,e,q⟩:=hq_;have U:X.A.units+Deep<Dc:=by show X.A.units+12<Dc;lia
 have l:X.A.in1.units+Deep<Dc:=by rw[in1_units];show X.A.units+1+12<Dc;lia
 cases o with
 |eq=>exact(Jhg I i Deep U c j f h e).rc X.prog X.w X.xe _ ⟨.bl k,H,I,rfl,q⟩
 |ne=>
  simp only[cop]at e;split at e
  .rename_i k' r;cases e;unfold Yf at r;split at r<;>try (cases r;done)
   split at r<;>try (cases r;done)
   rename_i ka kb m n;split at r<;>try (cases r;done)
   rename_i A;cases r;obtain⟨a,wa,rfl,_,ea,qa⟩:=i.dtu c (Jcg m);obtain⟨b,wb,rfl,_,eb,qb⟩:=i.dtu j (Jcg n);cases f;cases h;refine J0q (by lia) I (.inl ea) (.inl eb) (by rw[<-qa.length,<-qb.length];exact A.1) (λw hw=>?_) ⟨.bl false,H,I,rfl,q⟩;obtain⟨p,hp,e1,q1⟩:=Jl4 qa w hw;have:=Ed.mp A.2 p hp;rw[e1];rcases qb.val Jfi p.1 with⟨z,_⟩|⟨d,v,z1,z2,z3⟩
   .rw[z]at this;cases this
   .rw[z1]at this;exact⟨v,z2,λu u' ru ru'=>(Jhg I i Deep l q1 z3 ru ru' (eq_of_beq this)).eq⟩
  .simp only[Al]at e;obtain⟨b,e,rfl⟩:=e;exact(Jhg I i Deep U c j f h e).ne X.prog X.w X.xe _ ⟨.bl (!b),H,I,rfl,q⟩
 |lt=>
  cases L<;>first|exact absurd e Jbz|(cases N<;>first|exact absurd e Jbz|skip)
  cases Bh e;cases c.int_inv;cases j.int_inv;exact Jz2 pins s σ H _ _ v u Q I f h ⟨_,_,rfl,rfl,q⟩
 |le=>
  cases L<;>first|exact absurd e Jbz|(cases N<;>first|exact absurd e Jbz|skip)
  cases Bh e;cases c.int_inv;cases j.int_inv;exact Jz3 pins s σ H _ _ v u Q I f h ⟨_,_,rfl,rfl,q⟩
 |gt=>
  cases L<;>first|exact absurd e Jbz|(cases N<;>first|exact absurd e Jbz|skip)
  cases Bh e;cases c.int_inv;cases j.int_inv;exact Jz4 pins s σ H _ _ v u Q I f h ⟨_,_,rfl,rfl,q⟩
 |ge=>
  cases L<;>first|exact absurd e Jbz|(cases N<;>first|exact absurd e Jbz|skip)
  cases Bh e;cases c.int_inv;cases j.int_inv;exact Jz5 pins s σ H _ _ v u Q I f h ⟨_,_,rfl,rfl,q⟩
 |isc=>
  cases N<;>simp only[cop]at e<;>try (cases e;done)
  cases j.non_inv;refine Jxf pins s σ H _ _ v u Q I f h ⟨rfl,?_⟩;cases L<;>cases e<;>simp only[RelD]at c<;>first|(subst c;exact q)|(obtain⟨_,_,rfl,_⟩:=c;exact q)|(obtain⟨_,rfl,_⟩:=c;exact q)
 |isnc=>
  cases N<;>simp only[cop]at e<;>try (cases e;done)
  cases j.non_inv;refine Jty pins s σ H _ _ v u Q I f h ⟨rfl,?_⟩;cases L<;>cases e<;>simp only[RelD]at c<;>first|(subst c;exact q)|(obtain⟨_,_,rfl,_⟩:=c;exact q)|(obtain⟨_,rfl,_⟩:=c;exact q)
 |inn=>
  simp only[cop]at e;split at e
  .rename_i ds hs;obtain⟨a,xs,rfl,sq,t⟩:=i.seq j hs;cases h;rcases sq with sq|sq
   .obtain⟨Y,C,pl,_⟩:=I.list sq;obtain⟨E,m,n⟩:=Jec I i l c f t C e;exact SeqAt.in_listAt E pl.isList (λy J=>m y (by simpa using J)) ⟨.bl k,H,I,by rw[Ku,n];rfl,q⟩
   .obtain⟨Y,C,pl,_⟩:=I.tuple sq;obtain⟨E,m,n⟩:=Jec I i l c f t C e;exact SeqAt.in_tupleAt E (show s.heap.IsTuple a Y.toArray from pl) (λy J=>m y (by simpa using J)) ⟨.bl k,H,I,by rw[Ku,n];rfl,q⟩
  .obtain⟨a,rfl,o,g,eo⟩:=Jrl np i c j e;cases h;exact Wd5 (by show X.A.units+1<Dc;lia) I g f λs' I'=>⟨.bl k,H,I',by rw[eo];rfl,q⟩
 |nin=>
  simp only[cop]at e;split at e
  .rename_i ds hs;simp only[Al]at e;obtain⟨b,e,rfl⟩:=e;obtain⟨a,xs,rfl,sq,t⟩:=i.seq j hs;cases h;rcases sq with sq|sq
   .obtain⟨Y,C,pl,_⟩:=I.list sq;obtain⟨E,m,n⟩:=Jec I i l c f t C e;exact SeqAt.notIn_listAt E pl.isList (λy J=>m y (by simpa using J)) ⟨.bl (!b),H,I,by rw[Ku,n];rfl,q⟩
   .obtain⟨Y,C,pl,_⟩:=I.tuple sq;obtain⟨E,m,n⟩:=Jec I i l c f t C e;exact SeqAt.notIn_tupleAt E (show s.heap.IsTuple a Y.toArray from pl) (λy J=>m y (by simpa using J)) ⟨.bl (!b),H,I,by rw[Ku,n];rfl,q⟩
  .simp only[Al]at e;obtain⟨b,e,rfl⟩:=e;obtain⟨a,rfl,o,g,eo⟩:=Jrl np i c j e;cases h;exact Juq (by show X.A.units+1<Dc;lia) I g f λs' I'=>⟨.bl (!b),H,I',by rw[eo];rfl,q⟩
theorem Jcm{ds:List D}{xs:List V}(t:RelDs K ρ H ds xs):(!ds.isEmpty)= !xs.isEmpty:=by
 cases ds with
 |nil=>rw[t.inv_nil];rfl
 |cons d ds=>obtain⟨_,_,rfl,_⟩:=t.inv_cons;rfl
theorem Jk7(r:RelS K ρ S H)(h:RelD K ρ H d x)(e:tru S d=some k):Z3 K x H k:=by
 cases d with
 |non=>cases h.non_inv;cases e;rfl
 |bl b=>cases h.bl_inv;cases e;rfl
 |int i=>cases h.int_inv;cases e;rfl
 |str z=>cases e
 |tup f=>
  obtain⟨a,c,rfl,q,t⟩:=h.tup_inv;cases e;exact .inr (.inl ⟨c,q,Jcm t⟩)
 |loc l=>
  simp only[tru]at e;split at e
  .rename_i f g;cases e;obtain⟨a,c,rfl,_,q,t⟩:=r.lst h (Jao g);exact .inl ⟨c,SqL.of q,Jcm t⟩
  .cases e
 |kl f=>
  obtain⟨a,c,rfl,q,t⟩:=h.kl_inv;cases e;exact .inl ⟨c,q.sq,Jcm t⟩
 |kd j=>cases e
inductive rX (K:Ag) (x:V) (y:V) (H:Hp) (Q:VK):Prop
 |mk (ρ S dx dy d) (_:RelS K ρ S H) (_:RelD K ρ H dx x) (_:RelD K ρ H dy y) (_:idxD dx dy S=some d) (_:Fin K ρ H d S Q):rX K x y H Q
def Jwd(r:RelD K ρ H d v)(e:scK d=some k):v=kV k:=by
 cases d<;>cases e
 .exact r.int_inv
 .exact r.str_inv
theorem Jgp{i j:Type}{f:D->Option i}{g:j->V}{R:i->j->Prop}(h:∀{d b v},RelD K ρ H d v->f d=some b->∃c,v=g c/\R b c):∀{ds:List D} {bs:List i} {vs:List V},RelDs K ρ H ds vs->X8 f ds=some bs->∃a:List j,vs=a.map g/\Paired R bs a
 |[],bs,vs,r,e=>by cases e;cases r.inv_nil;exact⟨[],rfl,.nil⟩
 |d::ds,bs,vs,r,e=>by
  obtain⟨v,us,rfl,q,t⟩:=r.inv_cons;unfold X8 at e;split at e<;>try (cases e;done)
  rename_i b k l m;cases e;obtain⟨c,rfl,n⟩:=h q l;obtain⟨a,rfl,o⟩:=Jgp h t m;exact⟨c::a,rfl,.cons n o⟩
theorem Jlv{c:Type}{xs ys:List c}(h:Paired (λa b=>a=b) xs ys):xs=ys:=by
 induction h with
 |nil=>rfl
 |cons h _ d=>rw[h,d]
def Jq6(h:RelD K ρ H d v)(e:lkK d=some r):∃a,v=.ref a/\W6 K H r a:=by
 cases d<;>try (cases e;done)
 obtain⟨a,f,rfl,c,t⟩:=h.tup_inv;obtain⟨bs,rfl,i⟩:=Jgp (g:=V.ref) (R:=λk b=>SqT K H b (k.map kV)) (λ{d b v} r e=>by
  cases d<;>try (cases e;done)
  obtain⟨a,f,rfl,c,t⟩:=r.tup_inv;obtain⟨l,rfl,j⟩:=Jgp (g:=kV) (R:=λa b=>a=b) (λr e=>⟨_,Jwd r e,rfl⟩) t e;cases Jlv j;exact⟨a,rfl,c⟩) t e
 exact⟨a,rfl,bs,c,i⟩
def Jyb(hu:X.A.units+2<Dc)(np:npB X.K=true):IxR X (rX X.K):=by
 intro c f pins s σ H x y v u Q I k l ⟨ρ,S,dx,dy,d,j,n,A,e,fin⟩ m;unfold idxD at e;split at e
 .rename_i ds C;split at e<;>try (cases e;done)
  cases A.int_inv;obtain⟨a,E,rfl,sq,t⟩:=j.seq n C;obtain⟨w,U,i⟩:=Ju8 t e;rcases sq with sq|sq
  .exact Juc c f pins s σ H _ _ v u Q I k l ⟨a,E,_,w,rfl,rfl,sq,U,fin.now j i⟩ m
  .exact Jx3 c f pins s σ H _ _ v u Q I k l ⟨a,E,_,w,rfl,rfl,sq,U,fin.now j i⟩ m
 .split at e<;>try (cases e;done)
  split at e
  .rename_i kvs hk;obtain⟨r,hr,e⟩:=O3.mp e;obtain⟨a,E,rfl,_,Y,q⟩:=j.rgn n hk;obtain⟨b,rfl,lk⟩:=Jq6 A hr;cases k;cases l;obtain⟨p,w,hp,i,J⟩:=q.val r e;exact Md (ops:=[.ref a,.ref b]) (Jzq I Y) Nt.lookup (Jyq (by show X.A.units+2<Dc;omega) I Y q.mem lk hp λs' L=>⟨w,H,L,i,fin.now j J⟩) m
  .obtain⟨o,ho,rfl⟩:=Option.join_eq_some_iff.mp e|>λz=>(⟨_,z,rfl⟩:∃o,Xt _ _ _=some o/\o=some d)
   obtain⟨a,o',rfl,_,g,h⟩:=Ji1 np j n A ho;rcases h with⟨z,_⟩|⟨d',w,z,rfl,J⟩
   .cases z
   .cases z;cases k;exact Md (ops:=[.ref a,u]) (Jiz I g) Nt.lookup (Jmx (by show X.A.units+1<Dc;omega) I g l λw' s' L N=>⟨w,H,L,N,fin.now j J⟩) m
def rSl(K:Ag):V->Option Int->Option Int->Hp->VK->Prop:=λx lo c H Q=>∃ρ S a d b,RelS K ρ S H/\RelD K ρ H a x/\Wq a lo c S=.ok d b/\Fin K ρ H d b Q
def Ji2(t:RelDs K ρ H ds xs)(lo a:Option Int):RelDs K ρ H (cutD ds lo a) (Yc xs lo a):=by
 unfold cutD Yc;rw[t.length];exact(t.drop _).take _
def Jv9:SlR X (rSl X.K):=by
 intro pins s σ H x v g h lo c sl Q I i j pl k n;obtain⟨ρ,S,r,d,w,f,l,e,fin⟩:=n;cases r<;>simp only[Wq]at e<;>try (cases e;done)
 .cases e;obtain⟨a,b,rfl,q,t⟩:=l.tup_inv
  by_cases m:HT.sIx b.length 0 lo=0/\HT.sIx b.length b.length c=b.length
  .rename_i o;refine Jsz pins s σ H _ v g h lo c sl Q I i j pl k ⟨a,b,rfl,q,m,?_⟩;have u:cutD o lo c=o:=by
    unfold cutD;rw[t.length,m.1,m.2,K9,Ui,<-t.length,G4]
   rw[u]at fin;exact fin _ _ _ Fut.refl f l
  .exact Jwa pins s σ H _ v g h lo c sl Q I i j pl k ⟨a,b,rfl,q,m,fin.newT f (Ji2 t lo c)⟩
 .split at e
  .rename_i o p;cases e;obtain⟨a,b,rfl,_,q,t⟩:=f.lst l (Jao p);exact Jli pins s σ H _ v g h lo c sl Q I i j pl k ⟨a,b,rfl,SqL.of q,fin.newL f (Ji2 t lo c)⟩
  .cases e
 .cases e;obtain⟨a,b,rfl,q,t⟩:=l.kl_inv;exact Jli pins s σ H _ v g h lo c sl Q I i j pl k ⟨a,b,rfl,q.sq,fin.newL f (Ji2 t lo c)⟩
def rSt(K:Ag):Z4:=λo i v H Q=>∃ρ S b c dv d,RelS K ρ S H/\RelD K ρ H b o/\RelD K ρ H c i/\RelD K ρ H dv v/\Ww b c dv S=.ok () d/\∀a,Fut K ρ H ρ a->RelS K ρ d a->Q a
def Jwc(hu:X.A.units+2<Dc)(Y:npB X.K=true):Wa1 X (rSt X.K):=by
 intro pins s σ H o i v ov iv u Q I x y A L;obtain⟨ρ,S,dO,di,dv,S',c,C,E,J,e,fin⟩:=L;unfold Ww at e;split at e<;>try (cases e;done)
 rename_i l;split at e<;>try (cases e;done)
 .rename_i N hx;split at e<;>try (cases e;done)
  split at e<;>try (cases e;done)
  rename_i j hj;cases e;obtain⟨a,ys,rfl,g,q,t⟩:=c.lst C hx;cases E.int_inv;refine set_list pins s σ H _ _ v ov iv u Q I x y A ⟨a,ys,_,j,rfl,rfl,q,by rw[<-t.length];exact hj,fin _ (Jdf q) (c.set g q (RelDs.set J j t))⟩
 .rename_i p r;split at e<;>try (cases e;done)
  rename_i n;split at e<;>try (cases e;done)
  rename_i g;cases e;obtain⟨a,h,rfl,hp,d,q⟩:=c.dct C r;cases E.int_inv;cases x;have f:Fut X.K ρ H ρ (upd H a (.dK (putK h (G8 n) v))):=Jev (o0:=.dK h) d (λ_ z=>by cases z) (λ_ _ z=>by cases z);exact Jhi (by show X.A.units+1<Dc;lia) I (Ym.k (k:=G8 n) d (by rw[<-q.length,<-Jbd];exact g)) y A λU w=>⟨_,w,fin _ f (c.setO (o0:=.dK h) hp f ⟨_,Jak,(q.put Jmg _ J).fut f⟩)⟩
 .rename_i p r;split at e<;>try (cases e;done)
  rename_i n m;split at e<;>try (cases e;done)
  rename_i g;cases e;cases Jf9 m;obtain⟨a,h,rfl,hp,d,q⟩:=c.dtu C r;obtain⟨b,rfl,eb⟩:=Jf5 Y E;cases x;have f:Fut X.K ρ H ρ (upd H a (.dT (putK h (pK n) v))):=Jev (o0:=.dT h) d (λ_ z=>by cases z) (λ_ _ z=>by cases z);exact Jhi (by show X.A.units+1<Dc;lia) I (Ym.t d eb (by rw[<-q.length,<-Jbd];exact g)) y A λU w=>⟨_,w,fin _ f (c.setO (o0:=.dT h) hp f ⟨_,Jak,(q.put Jfi _ J).fut f⟩)⟩
 .rename_i p r;split at e<;>try (cases e;done)
  rename_i n m;split at e<;>try (cases e;done)
  rename_i g;cases e;obtain⟨a,N,rfl,hp,d,q⟩:=c.rgn C r;obtain⟨b,rfl,lk⟩:=Jq6 E m;cases x;cases y;have f:Fut X.K ρ H ρ (upd H a (Rg a (P2 N n b u))):=Jev d (λ_ z=>by cases z) (λ_ _ z=>by cases z);exact Jyn (by show X.A.units+2<Dc;lia) I d q.mem lk (by rw[<-q.length,<-Jbd];exact g) λU w=>⟨_,w,fin _ f (c.setO (o0:=Rg a N) hp f ⟨_,Jak,(q.put lk A J).fut f⟩)⟩
end
end Mi
namespace Mi
open PySem L2
section
open PySem.Spec PyProof.Rows PyProof
def Jgy{M:K5}{A:Bi}{E:Value->Shared->Prop}{s:Shared}{d:Type}{b:Nat}(f:Nat->d->Sem (ForInStep d))(I:Nat->d->Shared->Prop)(Q:d->Shared->Prop)
  (turn:∀i c s,i<b->I i c s->wpAny M A (f i c) (λr t=>match r with|.yield g=>I (i+1) g t|.done g=>Q g t) E s)(fin:∀c s,I b c s->Q c s)(c:d)(h:I 0 c s):wpAny M A (forIn ([:b]:Ly) c f) Q E s:=by
 rw[Ft];have j:([:b]:Ly).size=b:=by simp[Jf]
 show wpAny M A (forIn (List.range' 0 ([:b]:Ly).size 1) c f) Q E s;rw[j];refine D3 f (λl c s=>∃i,i<=b/\l=List.range' i (b-i) 1/\I i c s) Q ?_ ?_ _ c ⟨0,Dg _,rfl,h⟩
 .rintro x rest c s ⟨i,k,a,m⟩;have o:i<b:=by
   rcases Jn i b with h'|h'
   .exact h'
   .rw[show b-i=0 by lia]at a;simp at a
  obtain⟨n,p⟩:∃n,b-i=n+1:=⟨b-i-1,by lia⟩
  rw[p,Su]at a;obtain⟨rfl,rfl⟩:=Nq a;refine Ce (turn x c s o m) (λr u h'=>?_) λ_ _ e=>e;cases r with
  |done g=>exact h'
  |yield g=>exact⟨x+1,by lia,by congr 1;lia,h'⟩
 .rintro c s ⟨i,k,a,m⟩;have:i=b:=by
   rcases Jn i b with h'|h'
   .obtain⟨n,p⟩:∃n,b-i=n+1:=⟨b-i-1,by lia⟩
    rw[p,Su]at a;simp at a
   .lia
  subst this;exact fin _ _ m
def Jg0(l:Addr)(a:Array Value)(n:Nat)(dd:Option Addr)(sl:Array (Option Value))(x:Value)(e:Value->Bool)(j:Nat)(E:j<a.size)(p:e a[j]=true)(r:∀m (H:m<a.size),m<j->e a[m]=false):
  Meets (Builtin.«tuple.index» ⟨[.ref l,x],[]⟩)
   (λA R s=>s.heap.get? l=some {cls:=.type "tuple",dict:=dd,data:=.seq a n,slots:=sl}/\(∀y,y∈a->F3 A.in1 s y x (e y))/\R (.ok (.ret (.int j s.toks))) {s with toks:=s.toks+1}):=
 .of_wp λf w A R s h=>by
  obtain⟨hp,g,d,tk,os⟩:=s;obtain⟨u,v,h⟩:=h
  wp_walk using Lz u,Jgy _ (λi b t=>b.1=none/\t=⟨hp,g,d,tk,os⟩/\i<=j) _
  case turn=>
   rintro i b t z ⟨C,rfl,k⟩;have c:i<a.size:=by simpa using z
   rw[Bo c];refine Aa (v _ (Ry c) f w _ _ ?_)
   by_cases o:i<j
   .rw[r i c o]
    wp_walk
    exact⟨rfl,rfl,o⟩
   .have:i=j:=by lia
    subst this;rw[p]
    wp_walk
    exact⟨_,rfl,h⟩
  case fin=>
   rintro⟨I,J⟩ t ⟨C,rfl,k⟩;simp only[Nat.min_self]at k
   lia
  case h=>
   exact⟨rfl,rfl,Dg _⟩
def Jfw{A:Bi}{E:Value->Shared->Prop}{s:Shared}{b:Array Value}{e:Value->Bool}{Q:Value->Shared->Prop}(l:s.heap.IsTuple a b)(o:j<b.size)
  (c:e b[j]=true)(d:∀m (t:m<b.size),m<j->e b[m]=false)(p:∀y∈b,F3 A.in1 s y x (e y))(h:Q (.int j s.toks) {s with toks:=s.toks+1}):wpAny (model prog w) A (call (.builtin "tuple.index") [.ref a,x]) Q E s:=by
 obtain⟨⟨r,dd,f,sl⟩,g,i,n,k⟩:=id l;simp only at i k;subst i k;exact Qj N8 ⟨_,g,rfl⟩ PySem.F.entry_tuple_index (PySem.F.args_tuple_index_2 _ _) (Jg0 a b n dd sl x e j o c d) ⟨g,p,h⟩
end
section
variable {X:Cx} {ρ:List Addr} {H:Hp} {S:Store}
noncomputable def tyNames:List String:=["NoneType","bool","int","str","tuple","list"]
noncomputable def clNames:List String:=["bool","int","tuple","list"]
def Jfj(K:Ag):∀t∈tyNames,∀c∈clNames,PySem.W.kitOne K (.type t) (.type c)=some (isiD t c):=by
 intro t a c b;simp only[tyNames,clNames,Am,Bf,or_false]at a b;rcases a with rfl|rfl|rfl|rfl|rfl|rfl<;>rcases b with rfl|rfl|rfl|rfl<;>kernel_rfl
def rIs(K:Ag)(c:String):List V->Hp->VK->Prop:=λa H Q=>∃ρ S d x t,RelS K ρ S H/\a=[x,.ty c]/\RelD K ρ H d x/\tyD S d=some t/\Q (.bl (isiD t c)) H
theorem Jx4(g:c∈clNames):We X (.builtin "isinstance") (rIs X.K c):=by
 intro j s C H N U Q I r k;obtain⟨ρ,S,d,x,t,E,e,h,f,q⟩:=k;subst e;obtain⟨u,w,rfl,i,m⟩:=vals2 r;cases(show w=Ej c from m);have fin:∀tk,EP X j C Q (.bool (isiD t c)) {s with toks:=tk}:=λtk=>⟨.bl _,H,I.tok _,rfl,q⟩
 cases d with
 |non=>cases f;cases h.non_inv;cases i;exact Hc PySem.W.kitx_none I.kIn Fp (Jfj X.K _ (by decide) c g) (λz=>nomatch z) fin
 |bl b=>cases f;cases h.bl_inv;cases i;exact Hc PySem.W.kitx_bool I.kIn Fp (Jfj X.K _ (by decide) c g) (λz=>nomatch z) fin
 |int b=>cases f;cases h.int_inv;obtain⟨tk,rfl⟩:=i;exact Hc PySem.W.kitx_int I.kIn Fp (Jfj X.K _ (by decide) c g) (λz=>nomatch z) fin
 |str b=>cases f;cases h.str_inv;obtain⟨tk,rfl⟩:=i;exact Hc PySem.W.kitx_str I.kIn Fp (Jfj X.K _ (by decide) c g) (λz=>nomatch z) fin
 |tup p=>
  cases f;obtain⟨a,J,rfl,v,_⟩:=h.tup_inv;cases i;obtain⟨_,_,⟨o,y,A,_⟩,_⟩:=I.tuple v;exact Hc PySem.W.kitx_tuple I.kIn ⟨o,y,A⟩ (Jfj X.K _ (by decide) c g) (λz=>nomatch z) fin
 |loc l=>
  simp only[tyD]at f;split at f
  .rename_i p L;cases f;obtain⟨a,J,rfl,_,v,_⟩:=E.lst h L;cases i;obtain⟨_,_,⟨o,n,y,A,_⟩,_⟩:=I.list (SqL.of (K:=X.K) v);exact Hc PySem.W.kitx_list I.kIn ⟨o,y,A⟩ (Jfj X.K _ (by decide) c g) (λz=>nomatch z) fin
  .cases f
 |kl p=>cases f
 |kd p=>cases f
noncomputable def Wx:Prim->String
 |.len=>"len"|.abs=>"abs"|.min2=>"min"|.max2=>"max"|.int1=>"int"|.list1=>"list"|.tuple1=>"tuple"|.all1=>"all"|.sum1=>"sum"|.sort1=>"sorted"|.dict1=>"dict"
noncomputable def Y9:Prim->Bool
 |.int1=>true|.list1=>true|.tuple1=>true|.dict1=>true
 |_=>false
def X3(p:Prim):Value:=if Y9 p then .type (Wx p)else .builtin (Wx p)
def Jm9(p:Prim):Dx (Ac (Wx p))=some (X3 p):=by cases p<;>kernel_rfl
def Jhc(p:Prim):Ac (Wx p)≠"__name__":=by cases p<;>decide+kernel
def Jfo(p:Prim):(Ac (Wx p)==("__debug__":Str))=false:=by cases p<;>decide+kernel
def rP(K:Ag)(p:Prim):List V->Hp->VK->Prop:=λc H Q=>∃ρ S a d b,RelS K ρ S H/\RelDs K ρ H a c/\Vx p a S=.ok d b/\Fin K ρ H d b Q
def RelDs.one(h:RelDs K ρ H [d] xs):∃v,xs=[v]/\RelD K ρ H d v:=by
 obtain⟨v,a,rfl,q,t⟩:=h.inv_cons;cases t.inv_nil;exact⟨v,rfl,q⟩
def RelDs.two(h:RelDs K ρ H [d,e] xs):∃v w,xs=[v,w]/\RelD K ρ H d v/\RelD K ρ H e w:=by
 obtain⟨v,b,rfl,q,t⟩:=h.inv_cons;obtain⟨w,rfl,a⟩:=t.one;exact⟨v,w,rfl,q,a⟩
theorem allB_list:∀{ds:List D} {b:Bool},allB ds=some b->∃bs:List Bool,ds=bs.map D.bl/\b=bs.all id
 |[],b,h=>⟨[],rfl,by simp only[allB]at h;cases h;rfl⟩
 |.bl c::r,b,h=>by
  simp only[allB,Al]at h;obtain⟨k,h,rfl⟩:=h;obtain⟨bs,rfl,rfl⟩:=allB_list h;exact⟨c::bs,rfl,by simp⟩
 |.non::_,b,h=>by simp[allB]at h
 |.int _::_,b,h=>by simp[allB]at h
 |.str _::_,b,h=>by simp[allB]at h
 |.tup _::_,b,h=>by simp[allB]at h
 |.loc _::_,b,h=>by simp[allB]at h
 |.kl _::_,b,h=>by simp[allB]at h
 |.kd _::_,b,h=>by simp[allB]at h
theorem Jg5:∀{ds:List D} {b:Int},sumI ds=some b->∃bs:List Int,ds=bs.map D.int/\b=bs.sum
 |[],b,h=>⟨[],rfl,by simp only[sumI]at h;cases h;rfl⟩
 |.int c::r,b,h=>by
  simp only[sumI,Al]at h;obtain⟨k,h,rfl⟩:=h;obtain⟨bs,rfl,rfl⟩:=Jg5 h;exact⟨c::bs,rfl,by simp⟩
 |.non::_,b,h=>by simp[sumI]at h
 |.bl _::_,b,h=>by simp[sumI]at h
 |.str _::_,b,h=>by simp[sumI]at h
 |.tup _::_,b,h=>by simp[sumI]at h
 |.loc _::_,b,h=>by simp[sumI]at h
 |.kl _::_,b,h=>by simp[sumI]at h
 |.kd _::_,b,h=>by simp[sumI]at h
def Jue{K:Ag}{bs:List Int}{xs:List V}{us:List Value}(t:RelDs K ρ H (bs.map D.int) xs)(v:Vals xs us){i:Nat}{u:Value}(h:us[i]? =some u):∃tk,u=.int (bs.getD i 0) tk:=by
 have b:i<bs.length:=by
  have:=(Ae.mp h).1;have d:=t.length;have g:=v.length;rw[Ah]at d
  lia
 obtain⟨w,e,a⟩:=t.get (show(bs.map D.int)[i]? =some (.int bs[i]) by rw[Ao,Af b];rfl);obtain⟨j,c,f⟩:=v.get e;rw[h]at c;cases c;cases a.int_inv;obtain⟨tk,rfl⟩:=f;exact⟨tk,by rw[E3,Af b];rfl⟩
theorem Jp1{K:Ag}{bs:List Bool}{xs:List V}{us:List Value}(t:RelDs K ρ H (bs.map D.bl) xs)(v:Vals xs us){i:Nat}{u:Value}(h:us[i]? =some u):u=.bool (bs.getD i true):=by
 have b:i<bs.length:=by
  have:=(Ae.mp h).1;have d:=t.length;have g:=v.length;rw[Ah]at d
  lia
 obtain⟨w,e,a⟩:=t.get (show(bs.map D.bl)[i]? =some (.bl bs[i]) by rw[Ao,Af b];rfl);obtain⟨j,c,f⟩:=v.get e;rw[h]at c;cases c;cases a.bl_inv;cases f;rw[E3,Af b];rfl
theorem range_all(bs:List Bool):(Cf bs.length).all (λi=>bs.getD i true)=bs.all id:=by
 induction bs with
 |nil=>rfl
 |cons b r a=>
  rw[Bb,P7,Pm,Pm,Vu,<-a];congr 1
def Jhu(m:X.calm=true):We X (.builtin "all") (λxs H Q=>∃ρ S l ds b,RelS X.K ρ S H/\∃x,xs=[x]/\RelD X.K ρ H (.loc l) x/\seqAt S l=some ds/\allB ds=some b/\Q (.bl b) H):=by
 intro j s U H xs Y Q I r d;obtain⟨ρ,S,l,ds,b,n,x,e,p,w,y,q⟩:=d;subst e;obtain⟨u,rfl,z⟩:=vals1 r;obtain⟨bs,rfl,rfl⟩:=allB_list y;obtain⟨a,ys,rfl,_,C,t⟩:=n.lst p (Jao w);cases z;have E:X.A.in1.handled=none:=I.ok.hd m;obtain⟨c,k,pl,_⟩:=I.list (SqL.of (K:=X.K) C);have f:a≠s.heap.objs.size:=Ay pl.lt;have g:c.toArray.size=bs.length:=by rw[Aq,<-k.length,<-t.length,Ah]
 refine call_all_walk (G3 pl.isList ?_);refine⟨_,_,_,_,_,_,λi=>bs.getD i true,rfl,Q3 (A:=X.A.in1) E s.heap.objs.size a f c.toArray,⟨⟨_,Ak _ rfl,rfl,rfl⟩,(pl.keeps λb o e=>Ad _ e).isList⟩,?_,λh' tk J=>?_⟩
 .intro i v s' Q' E' h L;have h:c.toArray[i]? =some v:=h;have N:v=.bool (bs.getD i true):=Jp1 t k (by simpa using h);subst N;exact D9 L
 .rw[g,range_all];refine⟨.bl _,H,I.kept (t':=tk) λb o e=>J b o ?_ (Ad _ e),rfl,q⟩;simp only[Ar];exact Ay (An e)
def Jkc(bs:List Int):preSum (λi=>bs.getD i 0) bs.length=bs.sum:=by
 rw[PyProof.Rows.preSum_getD,G4]
def Jhp(C:X.calm=true):We X (.builtin "sum") (λxs H Q=>∃ρ S l ds b,RelS X.K ρ S H/\∃x,xs=[x]/\RelD X.K ρ H (.loc l) x/\seqAt S l=some ds/\sumI ds=some b/\Q (.int b) H):=by
 intro g s E H xs us Q I r k;obtain⟨ρ,S,l,ds,b,J,x,e,L,N,j,q⟩:=k;subst e;obtain⟨u,rfl,U⟩:=vals1 r;obtain⟨bs,rfl,rfl⟩:=Jg5 j;obtain⟨a,ys,rfl,_,Y,t⟩:=J.lst L (Jao N);cases U;have hh:X.A.in1.handled=none:=I.ok.hd C;have done:∀(m:Addr) (d:Shared) (h:Tok),m=s.heap.objs.size->∀o:E8,Moved [m] (λa b=>b=a) {s with heap:=s.heap.push o} d->EP X g E Q (.int bs.sum h) d:=λm d h e0 o f=>by
  subst e0;obtain⟨h',g',d',tk,n⟩:=d;have e1:g'=s.gens:=f.gens;have e2:d'=s.drawn:=f.drawn;have e3:n=s.os:=f.os;subst e1 e2 e3;refine⟨.int bs.sum,H,I.kept (t':=tk) λb o e=>f.heap b o ?_ (Ad _ e),⟨h,rfl⟩,q⟩;simp only[Ar];exact Ay (An e)
 obtain⟨c,z,pl,_⟩:=I.list (SqL.of (K:=X.K) Y);have p:a≠s.heap.objs.size:=Ay pl.lt;have w:c.toArray.size=bs.length:=by rw[Aq,<-z.length,<-t.length,Ah]
 refine call_sum_walkAnyS (G3 pl.isList ?_);refine⟨_,_,_,_,_,_,_,λi=>bs.getD i 0,rfl,(Q3 (A:=X.A.in1) hh s.heap.objs.size a p c.toArray).toS,⟨⟨_,Ak _ rfl,rfl,rfl⟩,(pl.keeps λb o e=>Ad _ e).isList⟩,?_,?_,λd h f=>?_⟩
 .intro b j;show b<(s.heap.push _).objs.size;rw[Cq];simp only[Am,Bf,or_false]at j;rcases j with rfl|rfl
  .exact Dy _
  .exact Kj pl.lt
 .intro i v y;have y:c.toArray[i]? =some v:=y;exact Jue t z (by simpa using y)
 .rw[w,Jkc];exact done _ d h rfl _ f
def Fin.newO(f:Fin K ρ H (.loc S.length) (S++[a]) Q)(r:RelS K ρ S H)(q:∀p,H p=none->RelO K (ρ++[p]) (upd H p o) p a):∀p,H p=none->Q (.ref p) (upd H p o):=λp n=>
 f (ρ++[p]) _ _ (Jbe n [p]) (r.allocO n (q p n)) (by simp only[RelD];exact⟨p,rfl,by rw[<-r.len];simp⟩)
def Jy2{kvs:List (Rdu.PK×D)}(q:RelKv pK K ρ H kvs g)(h:aptB (kvs.map (·.1))=true):Apart P w g:=by
 simp only[aptB,Aj,Ed,decide_eq_true_eq]at h;have a:∀p∈kvs.map (·.1),((p.1.toNat:Int),(p.2.toNat:Int))=p:=λp hp=>by
  obtain⟨⟨⟨d,_⟩,f⟩,_⟩:=h.1 p hp;exact Ol (Mf d) (Mf f)
 refine Jp5 (ps:=(kvs.map (·.1)).map λp=>(p.1.toNat,p.2.toNat)) ?_ (λx b=>?_) ?_
 .rw[q.keys];refine Rx ?_ (B6).symm;exact D8 λp hp=>congrArg pK (a p hp).symm
 .obtain⟨p,hp,rfl⟩:=Bd.mp b;obtain⟨⟨⟨d,f⟩,l⟩,m⟩:=h.1 p hp;exact⟨by lia,by lia⟩
 .refine Ct.mpr (Mu (λ{x y} b i c e=>c ?_) h.2);rw[<-a x b,<-a y i];injection e with j k;rw[j,k]
def Jjf{kvs:List (Rdu.PK×D)}(c:H a=some (.dT b))(q:RelKv pK K ρ H kvs b)(h:aptB (kvs.map (·.1))=true/\kvs.length<Line):UpD H a b (kvs.map (·.1)):=by
 obtain⟨h,d⟩:=h;simp only[aptB,Aj,Ed,decide_eq_true_eq]at h;exact⟨.inl c,q.keys,⟨λp hp=>by have:=h.1 p hp;lia,h.2⟩,by rw[<-q.length,<-Jbd];exact d⟩
def Jxq{e:Type}{f:e->Int}{xs ys:List e}(p:xs.Perm ys)(s:xs.Pairwise λa b=>f a<=f b)(d:∀a∈ys,∀b∈ys,f a=f b->a=b):xs=ys.mergeSort λa b=>decide (f a<=f b):=by
 have h:=List.pairwise_mergeSort (le:=λa b=>decide (f a<=f b)) (by intro a b c;simp;lia) (by intro a b;simp;lia) ys;have m:=L5 ys λa b=>decide (f a<=f b);exact List.Perm.eq_of_pairwise (λa b g i j k=>d a (p.mem_iff.mp g) b (m.mem_iff.mp i) (Int.le_antisymm j k)) s (h.imp λh=>by simpa using h) (p.trans m.symm)
theorem Jl8:∀{ps:List Rdu.PK} {bs:List Addr},bs.length=ps.length->(∀(i:Nat) (b:Addr) (q:Rdu.PK),bs[i]? =some b->ps[i]? =some q->H b=some (.tup ((pK q).map kV)))->RelDs K ρ H (ps.map dK) (bs.map V.ref)
 |[],[],_,_=>RelDs.nil
 |p::ps,b::bs,a,h=>by
  refine RelDs.cons ?_ (Jl8 (by simpa using a) λi b q c d=>h (i+1) b q (by simpa using c) (by simpa using d));simp only[RelD];exact⟨b,_,rfl,SqT.of (h 0 b p rfl rfl),RelDs.cons (RelD.int _) (RelDs.cons (RelD.int _) RelDs.nil)⟩
def pr1(e:Vx p ds S=.ok d f)(a:p≠ .max2)(b:p≠ .min2)(r:RelDs K ρ H ds xs):∃x v,ds=[x]/\xs=[v]/\RelD K ρ H x v:=by
 have z:∃x,ds=[x]:=by
  clear r;cases p<;>first|exact absurd rfl a|exact absurd rfl b|(rcases ds with _|⟨x,_|⟨y,ds⟩⟩<;>first|exact⟨_,rfl⟩|exact absurd e Jab|(cases x<;>exact absurd e Jab))
 obtain⟨x,rfl⟩:=z;obtain⟨v,rfl,c⟩:=r.one;exact⟨x,v,rfl,rfl,c⟩
theorem Jth(p:Prim)(J:X.calm=true):We X (X3 p) (rP X.K p):=by
 intro c s i H xs j Q I r hq_;obtain⟨ρ,S,ds,d,S',f,o,e,fin⟩:=hq_;cases p with
 |len=>
  obtain⟨x,v,rfl,rfl,g⟩:=pr1 e nofun nofun o
  delta Vx at e;dsimp only at e
  split at e
  .rename_i L A;cases e;obtain⟨a,N,rfl,sq,t⟩:=f.seq g A;refine Jhs c s i H _ j Q I r ⟨a,N,rfl,sq,?_⟩;rw[<-t.length];exact fin.now f (RelD.int _)
  .split at e<;>try (cases e;done)
   split at e<;>try (cases e;done)
   rename_i k U;cases e;obtain⟨a,m,rfl,_,u,q⟩:=f.dct g (Jez U);refine Jm6 c s i H _ j Q I r ⟨a,m,rfl,u,?_⟩;rw[<-q.length];exact fin.now f (RelD.int _)
 |abs=>
  obtain⟨x,v,rfl,rfl,g⟩:=pr1 e nofun nofun o;cases x<;>try (exact absurd e Jab)
  cases e;cases g.int_inv;exact Jp0 c s i H _ j Q I r ⟨_,rfl,fin.now f (RelD.int _)⟩
 |max2=>
  rcases ds with _|⟨x,_|⟨y,_|⟨z,ds⟩⟩⟩<;>try (first|exact absurd e Jab|(cases x<;>exact absurd e Jab)|(cases x<;>first|exact absurd e Jab|(cases y<;>exact absurd e Jab)))
  cases x<;>first|exact absurd e Jab|(cases y<;>try (exact absurd e Jab))
  cases e;obtain⟨v,w,rfl,g,C⟩:=o.two;cases g.int_inv;cases C.int_inv;exact Jm5 J c s i H _ j Q I r ⟨_,_,rfl,fin.now f (RelD.int _)⟩
 |min2=>
  rcases ds with _|⟨x,_|⟨y,_|⟨z,ds⟩⟩⟩<;>try (first|exact absurd e Jab|(cases x<;>exact absurd e Jab)|(cases x<;>first|exact absurd e Jab|(cases y<;>exact absurd e Jab)))
  cases x<;>first|exact absurd e Jab|(cases y<;>try (exact absurd e Jab))
  cases e;obtain⟨v,w,rfl,g,C⟩:=o.two;cases g.int_inv;cases C.int_inv;exact Jm4 J c s i H _ j Q I r ⟨_,_,rfl,fin.now f (RelD.int _)⟩
 |int1=>
  obtain⟨x,v,rfl,rfl,g⟩:=pr1 e nofun nofun o;cases x<;>try (exact absurd e Jab)
  .cases e;cases g.bl_inv;exact Jht c s i H _ j Q I r (.inr ⟨_,rfl,fin.now f (RelD.int _)⟩)
  .cases e;cases g.int_inv;exact Jht c s i H _ j Q I r (.inl ⟨_,rfl,fin.now f (RelD.int _)⟩)
 |list1=>
  obtain⟨x,v,rfl,rfl,g⟩:=pr1 e nofun nofun o
  delta Vx at e;dsimp only at e
  split at e
  .rename_i L A;cases e;obtain⟨a,N,rfl,sq,t⟩:=f.seq g A;exact Jhr c s i H _ j Q I r ⟨a,N,rfl,sq,fin.newL f t⟩
  .split at e
   .rename_i l _;cases U:dctAt S l with
    |none=>rw[U]at e;cases e
    |some k=>
     rw[U]at e;cases e;obtain⟨a,m,rfl,_,u,q⟩:=f.dct g (Jez U);refine Jgn J c s i H _ j Q I r ⟨a,m,rfl,u,fin.newL f ?_⟩;have e1:m.map (λkv=>kV kv.1)=k.map λp=>V.int p.1:=by
      have:=congrArg (M3 kV) q.keys;rw[B6,B6,B6]at this;exact this
     rw[e1];have all:∀l:List (Int×D),RelDs X.K ρ H (l.map λp=>D.int p.1) (l.map λp=>V.int p.1):=λl=>by
      induction l with
      |nil=>exact RelDs.nil
      |cons p l ih=>exact RelDs.cons (RelD.int _) ih
     exact all k
   .cases e
 |tuple1=>
  obtain⟨x,v,rfl,rfl,g⟩:=pr1 e nofun nofun o
  delta Vx at e;dsimp only at e
  split at e
  .rename_i L A;cases e;obtain⟨a,N,rfl,sq,t⟩:=f.seq g A;refine Jgm c s i H _ j Q I r ⟨a,N,rfl,?_⟩;rcases sq with sq|sq
   .exact .inl ⟨sq,fin.newT f t⟩
   .exact .inr ⟨sq,fin.now f (by simp only[RelD];exact⟨a,N,rfl,sq,t⟩)⟩
  .cases e
 |all1=>
  obtain⟨x,v,rfl,rfl,g⟩:=pr1 e nofun nofun o;cases x<;>try (exact absurd e Jab)
  delta Vx at e;dsimp only at e
  split at e<;>try (cases e;done)
  rename_i L A;split at e<;>try (cases e;done)
  rename_i b E;cases e;exact Jhu J c s i H _ j Q I r ⟨ρ,S,_,L,b,f,v,rfl,g,A,E,fin.now f (RelD.bl _)⟩
 |sum1=>
  obtain⟨x,v,rfl,rfl,g⟩:=pr1 e nofun nofun o;cases x<;>try (exact absurd e Jab)
  delta Vx at e;dsimp only at e
  split at e<;>try (cases e;done)
  rename_i L A;split at e<;>try (cases e;done)
  rename_i b E;cases e;exact Jhp J c s i H _ j Q I r ⟨ρ,S,_,L,b,f,v,rfl,g,A,E,fin.now f (RelD.int _)⟩
 |sort1=>
  obtain⟨x,v,rfl,rfl,g⟩:=pr1 e nofun nofun o;cases x<;>try (exact absurd e Jab)
  delta Vx at e;dsimp only at e
  split at e<;>try (cases e;done)
  rename_i k Y;split at e<;>try (cases e;done)
  rename_i hup;cases e;obtain⟨a,m,rfl,_,u,q⟩:=f.dtu g (Jcg Y);refine Jhq J c s i H _ j Q I r ⟨a,m,_,rfl,Jjf u q hup,λp bs qs hp pm sl hl E=>?_⟩;have sm:=(Jjf u q hup).2.2.1;have:=Jl8 (K:=X.K) (ρ:=ρ) hl E;rw[Jxq pm sl λa ha b E h=>Rdu.Jn7 (sm.1 a ha) (sm.1 b E) h]at this;exact fin.newL f this p hp
 |dict1=>
  obtain⟨x,v,rfl,rfl,g⟩:=pr1 e nofun nofun o;cases x<;>try (exact absurd e Jab)
  delta Vx at e;dsimp only at e
  split at e<;>try (cases e;done)
  .rename_i k Y;cases e;obtain⟨a,m,rfl,_,u,q⟩:=f.dct g Y;exact Jft c s i H _ j Q I r ⟨a,rfl,.inl ⟨m,.inl u,fin.newO f λp n=>⟨m,Jak,q.fut (Jbe n [p])⟩⟩⟩
  .rename_i k Y;split at e<;>try (cases e;done)
   rename_i hap;cases e;obtain⟨a,m,rfl,_,u,q⟩:=f.dtu g Y;exact Jft c s i H _ j Q I r ⟨a,rfl,.inr ⟨m,.inl u,Jy2 q hap,fin.newO f λp n=>⟨m,Jak,q.fut (Jbe n [p])⟩⟩⟩
noncomputable def Yg:Meth->String
 |.append=>"append"|.pop0=>"pop"|.get2=>"get"|.indexT=>"index"|.get1=>"get"|.pop1=>"pop"
noncomputable def Yh:Meth->String
 |.append=>"list.append"|.pop0=>"list.pop"|.get2=>"dict.get"|.indexT=>"tuple.index"|.get1=>"dict.get"|.pop1=>"dict.pop"
def rM(K:Ag)(p:Meth):V->List V->Hp->VK->Prop:=λx c H Q=>∃ρ S o a d b,RelS K ρ S H/\RelD K ρ H o x/\RelDs K ρ H a c/\V4 p o a S=.ok d b/\Fin K ρ H d b Q
def Jpg(I:Inv X E σ H s)(r:RelS X.K ρ S H)(Q:RelD X.K ρ H x U)(Y:RelV U w){us:List Value}
  (t:RelDs X.K ρ H ds xs)(v:Vals xs us)(e:Zj S x ds=some j):∃e:Value->Bool,∃y:j<us.length,e us[j]=true/\(∀m (i:m<us.length),m<j->e us[m]=false)/\∀A:Bi,A.units<Dc->∀u∈us,F3 A s u w (e u):=by
 unfold Zj at e;split at e
 .rename_i a;rw[Ed]at a
  classical
  let J:Value->Bool:=λu=>decide (∃d z,RelD X.K ρ H d z/\RelV z u/\eqD S 0 d x=some true)
  have k:∀{d:D} {v:V} {u:Value} {b:Bool},RelD X.K ρ H d v->RelV v u->eqD S 0 d x=some b->J u=b:=λ{d v u b} h L e=>by
   cases b with
   |true=>exact decide_eq_true ⟨d,v,h,L,e⟩
   |false=>
    refine decide_eq_false ?_;rintro⟨d',v',h',r2,e'⟩;cases L.inj r2;rw[RelD.inj I r h h',e']at e;cases e
  have l:∀(m:Nat) (i:m<us.length),∃d z,ds[m]? =some d/\RelD X.K ρ H d z/\RelV z us[m]:=λm i=>by
   have N:m<ds.length:=by rw[t.length,v.length];exact i
   obtain⟨z,c,f⟩:=t.get (Af N);obtain⟨u',e2,g⟩:=v.get c;obtain⟨_,e3⟩:=Ae.mp e2;exact⟨_,z,Af N,f,by rw[e3];exact g⟩
  obtain⟨y,h1,h2⟩:=List.findIdx?_eq_some_iff_getElem.mp e;have n:j<us.length:=by rw[<-v.length,<-t.length];exact y
  refine⟨J,n,?_,λm i C=>?_,λA hA u hu=>?_⟩
  .obtain⟨d,z,c,f,g⟩:=l j n;rw[Af y]at c;cases c;exact k f g (by simpa using h1)
  .obtain⟨d,z,c,f,g⟩:=l m i;have o:m<ds.length:=by lia
   have:=h2 m C;rw[Af o]at c;cases c;obtain⟨b,p⟩:=Ci.mp (a _ (Fw o));rw[k f g p];rw[p]at this;cases b
   .rfl
   .simp at this
  .obtain⟨m,i,rfl⟩:=List.getElem_of_mem hu;obtain⟨d,z,c,f,g⟩:=l m i;obtain⟨b,p⟩:=Ci.mp (a _ (Au c));rw[k f g p];exact(Jhg I r 0 (by simpa using hA) f Q g Y p).eq
 .cases e
theorem Jl2(p:Meth)(hu:X.A.units+64<Dc)(np:npB X.K=true):MtR X (Yh p) (rM X.K p):=by
 intro c s N H x xs v us Q I U A hq_;obtain⟨ρ,S,o,E,d,S',C,Y,rd,e,fin⟩:=hq_;cases p with
 |append=>
  cases o<;>first|exact absurd e Jab|(rcases E with _|⟨y,_|⟨z,E⟩⟩<;>try (exact absurd e Jab))
  all_goals (delta V4 at e;dsimp only at e)
  split at e
  .rename_i ys J;split at e
   .rename_i hl;cases e;obtain⟨a,zs,rfl,ha,q,t⟩:=C.lst Y J;obtain⟨w,rfl,i⟩:=rd.one;exact Jlz c s N H _ _ v us Q I U A ⟨a,zs,w,rfl,rfl,q,by rw[<-t.length,<-Jbd];exact hl,fin ρ _ _ (Jdf q) (C.set ha q (t.append (RelDs.cons i RelDs.nil))) RelD.non⟩
   .cases e
  .cases e
 |pop0=>
  cases o<;>first|exact absurd e Jab|(rcases E with _|⟨y,E⟩<;>try (exact absurd e Jab))
  all_goals (delta V4 at e;dsimp only at e)
  split at e
  .rename_i ys J;split at e
   .rename_i z hz;cases e;obtain⟨a,zs,rfl,ha,q,t⟩:=C.lst Y J;cases rd.inv_nil;obtain⟨w,ew,i⟩:=t.get hz;refine Jxo c s N H _ _ v us Q I U A ⟨a,zs,w,rfl,rfl,q,by rw[<-t.length];exact ew,fin ρ _ _ (Jdf q) (C.set ha q t.dropLast) (i.fut (Jdf q))⟩
   .cases e
  .cases e
 |indexT=>
  cases o<;>first|exact absurd e Jab|(rcases E with _|⟨y,_|⟨z,E⟩⟩<;>try (exact absurd e Jab))
  all_goals (delta V4 at e;dsimp only at e)
  split at e
  .split at e
   .rename_i j hj;cases e;obtain⟨a,zs,rfl,q,t⟩:=Y.tup_inv;obtain⟨vy,rfl,i⟩:=rd.one;obtain⟨u,rfl,ru⟩:=vals1 A;cases U;obtain⟨its,vv,pl,_⟩:=I.tuple q;obtain⟨ev,hk,e1,e2,e3⟩:=Jpg I C i ru t vv hj;exact Jfw (show s.heap.IsTuple a its.toArray from pl) (by simpa using hk) (by simpa using e1) (λm hm hlt=>by simpa using e2 m (by simpa using hm) hlt) (λy J=>e3 _ (by rw[in1_units];lia) y (by simpa using J)) ⟨.int j,H,I.tok _,⟨_,rfl⟩,fin.now C (RelD.int _)⟩
   .cases e
  .cases e
 |get1=>
  cases o<;>first|exact absurd e Jab|(rcases E with _|⟨y,_|⟨z,E⟩⟩<;>try (exact absurd e Jab))
  (delta V4 at e;dsimp only at e)
  split at e<;>try (cases e;done)
  rename_i o' ho;cases e;obtain⟨vy,rfl,ry⟩:=rd.one;obtain⟨u,rfl,ru⟩:=vals1 A;obtain⟨a,o2,rfl,_,g,h⟩:=Ji1 np C Y ry ho;cases U;refine Jyr (by show X.A.units+1<Dc;lia) I g ru λw' s' I' i=>⟨_,H,I',i,?_⟩
  rcases h with⟨rfl,rfl⟩|⟨d,v,rfl,rfl,q⟩
  .exact fin.now C RelD.non
  .exact fin.now C q
 |pop1=>
  cases o<;>first|exact absurd e Jab|(rcases E with _|⟨y,_|⟨z,E⟩⟩<;>try (exact absurd e Jab))
  (delta V4 at e;dsimp only at e)
  split at e<;>try (cases e;done)
  rename_i l k hk J;split at e<;>try (cases e;done)
  rename_i d0 hd;cases e;cases Jf9 J;obtain⟨vy,rfl,ry⟩:=rd.one;obtain⟨u,rfl,ru⟩:=vals1 A;obtain⟨a,ws,rfl,hp,ea,q⟩:=C.dtu Y (Jcg hk);obtain⟨b,rfl,eb⟩:=Jf5 np ry;cases U;cases ru;rcases q.val Jfi k with⟨z,_⟩|⟨d',v,z1,z2,z3⟩
  .rw[z]at hd;cases hd
  .rw[z1]at hd;cases hd;have f:Fut X.K ρ H ρ (upd H a (.dT (Xs ws (pK k)))):=Jev (o0:=.dT ws) ea (λ_ z=>by cases z) (λ_ _ z=>by cases z);exact Jyo (by show X.A.units+2<Dc;lia) I ea eb z2 λw' s' I' i=>⟨v,_,I',i,fin ρ _ _ f (C.setO (o0:=.dT ws) hp f ⟨_,Jak,(q.drop Jfi k).fut f⟩) (z3.fut f)⟩
 |get2=>
  cases o<;>first|exact absurd e Jab|(rcases E with _|⟨x0,_|⟨y,_|⟨z,E⟩⟩⟩<;>try (first|exact absurd e Jab|(cases x0<;>exact absurd e Jab)))
  cases x0<;>try (exact absurd e Jab)
  cases e;rename_i l k;obtain⟨a,rfl,kd⟩:=Y.kd_inv;obtain⟨v1,v2,rfl,r1,r2⟩:=rd.two;obtain⟨u1,u2,rfl,q1,q2⟩:=vals2 A;cases U;cases r1.str_inv;obtain⟨tk,rfl⟩:=q1;have T:=kd.text I.kIn;refine T7 (h₀:=s.heap) (D:=l.map λp=>(p.1,E9 (.int p.2))) ⟨T,λ_ _ z=>z⟩ ?_;clear T kd;have main:∀(l:List (Str×Int)),(∀n L,l.lookup k=some n->EP X c N Q (.int n L) {s with toks:=s.toks+1})->(l.lookup k=none->EP X c N Q u2 {s with toks:=s.toks+1})->
    Uc s.heap k (λv=>EP X c N Q v {s with toks:=s.toks+1}) (EP X c N Q u2 {s with toks:=s.toks+1}) (l.map λp=>(p.1,E9 (.int p.2))):=by
   intro l
   induction l with
   |nil=>intro _ h2;exact T8 (h2 rfl)
   |cons p r ih=>
    obtain⟨y,n⟩:=p;intro h1 h2
    by_cases J:k=y
    .subst J;exact Ua rfl (T6 λt=>h1 n t (by simp))
    .have hb:(k==y)=false:=by simpa using J
     exact T9 J (ih (λn L e=>h1 n L (by simp only[Du,hb];exact e)) λe=>h2 (by simp only[Du,hb];exact e))
  refine main l (λn L en=>?_) (λen=>?_)
  .rw[en]at fin;exact⟨.int n,H,I.tok _,⟨_,rfl⟩,fin.now C (RelD.int _)⟩
  .rw[en]at fin;exact⟨_,H,I.tok _,q2,fin.now C r2⟩
end
structure Ow where
 mt:List (String×String×String)
 fd:List (String×String)
 nw:List (String×String)
structure Ck where
 N:List Str
 names:List (Str×Fs)
 fn:Bool
 B:List String
 F:List String
 O:Ow
noncomputable def dbg(x:Str):Bool:= !(x==("__debug__":Str))&& !(x==("__classdict__":Str))
noncomputable def Ck.vis(c:Ck)(x:Str):Bool:=c.names.lookup x==some .local||c.names.lookup x==some .cell||c.names.lookup x==some .free
noncomputable def Ck.own(c:Ck)(x:Str):Bool:=if c.fn then c.names.lookup x==some .local||c.names.lookup x==some .cell else c.names.lookup x==some .local
noncomputable def Ck.gl(c:Ck)(x:Str):Bool:=c.names.lookup x==some .globalImplicit
noncomputable def relab(a b:List (Str×Fs)):List (Str×Fs):=a.map λ(n,k)=>if(k== .free&&b.lookup n==some .cell)then(n,.cell)else(n,k)
def Ck.inner(c:Ck)(N:List String)(a:Jk):Ck:={c with N:=N.map Ac,names:=relab a.names c.names,fn:=false}
noncomputable def Ck.comp(c:Ck)(N:List String)(k:Nat)(keep:List Nat)(scope:Jk):Bool:=
 scope.kind== .function&&scope.names.all (λy=>y.2 != .cell)&&scope.names.all (λy=>y.2 != .local||scope.names.lookup y.1==some .local)
  &&scope.names.all (λy=>y.2 != .free||c.names.lookup y.1==some .cell||c.names.lookup y.1==some .free)
  &&N.length==k+keep.length&&decide ((N.map Ac).Nodup)
  &&(Cf keep.length).all (λj=>match keep[j]?,(N.map Ac)[k+j]? with
   |some i,some x=>c.N[i]? ==some x&&scope.names.lookup x==some .free
   |_,_=>false)
noncomputable def Jcn:Expr->Bool
 |.Call (.Name ..) [] [] _=>true
 |_=>false
noncomputable def Z0:Expr->Bool
 |.Name .. =>true
 |_=>false
noncomputable def Xb:Expr->Bool
 |.ListComp .. =>true|.SetComp .. =>true|.DictComp .. =>true
 |_=>false
noncomputable def Xo(k:Nat):M->Bool
 |.tvar i=>decide (i<k)
 |.ttup c=>Xo k c
 |.nul=>true
 |.cns a b=>Xo k a&&Xo k b
 |_=>false
noncomputable def Waf:Meth->M->Bool
 |.indexT,.glb _=>true
 |.indexT,_=>false
 |_,_=>true
noncomputable def cNB:Expr->Bool
 |.Constant .none _ _=>true
 |_=>false
noncomputable def Wag:Expr->Bool
 |.Set .. =>false
 |_=>true
def Xn(o:Cop)(e:Expr):Bool:=match o with
 |.isc=>cNB e
 |.isnc=>cNB e
 |_=>Wag e
noncomputable def cnV:(x:Expr)->Option {k:Const//∃n p,x=.Constant k n p}
 |.Constant k n p=>some ⟨k,n,p,rfl⟩
 |_=>none
noncomputable def dC:D->Option Const
 |.non=>some .none
 |.bl b=>some (.bool b)
 |.int i=>some (.int i)
 |.str x=>some (.str x)
 |_=>none
noncomputable def fV:(x:Expr)->Option {q:Str×Pos×List Expr×Pos//x=.Call (.Name q.1 q.2.1) q.2.2.1 [] q.2.2.2}
 |.Call (.Name y p) es [] q=>some ⟨(y,p,es,q),rfl⟩
 |_=>none
theorem aO{a:Type}{o:Option a}{f:a->Bool}(h:o.any f=true):∃q,f q=true:=by
 cases o with
 |none=>exact fx9 h
 |some q=>exact⟨q,h⟩
noncomputable def zC(n:Str):(x:Expr)->Option {_u:Unit//∃p q,x=.Call (.Name n p) [] [] q}
 |.Call (.Name y p) [] [] q=>if h:n=y then some ⟨(),p,q,by rw[h]⟩else none
 |_=>none
noncomputable def nC(n:String):(x:Expr)->Option {e:Expr//∃p q,x=.Call (.Name (Ac n) p) [e] [] q}
 |.Call (.Name y p) [e] [] q=>if h:Ac n=y then some ⟨e,p,q,by rw[h]⟩else none
 |_=>none
def mC(m:String):(x:Expr)->Option {e:Expr//∃p q,x=.Call (.Attribute e (Ac m) p) [] [] q/\(!Jcn e)=true/\(p.endLine==q.line)=true}
 |.Call (.Attribute e y p) [] [] q=>if h:Ac m=y/\(!Jcn e)=true/\(p.endLine==q.line)=true then some ⟨e,p,q,by rw[h.1],h.2⟩else none
 |_=>none
noncomputable def iC:(x:Expr)->Option {r:Expr×Str//∃a b c,x=.Call (.Name "isinstance" a) [r.1,.Name r.2 b] [] c}
 |.Call (.Name z p) [e,.Name y q] [] s=>if h:z="isinstance" then some ⟨(e,y),p,q,s,by rw[h]⟩else none
 |_=>none
def hV(x:Expr):Option {e:Expr//∃a b c d ap cp,x=.Call (.Name "dict" a) [.Call (.Name "sorted" b) [.Call (.Attribute e "items" ap) [] [] cp] [] c] [] d/\(!Jcn e)=true/\(ap.endLine==cp.line)=true}:=
 match nC "dict" x with
 |some ⟨y,f⟩=>(match nC "sorted" y with
  |some ⟨z,g⟩=>(match mC "items" z with
   |some ⟨e,i⟩=>some ⟨e,let⟨a,d,j⟩:=f;let⟨b,c,k⟩:=g;let⟨ap,cp,l,h⟩:=i;⟨a,b,c,d,ap,cp,by rw[j,k,l],h⟩⟩
   |none=>none)
  |none=>none)
 |none=>none
def lV(x:Expr):Option {e:Expr//∃a b c d,x=.Call (.Name "len" a) [.Call (.Name "set" b) [e] [] c] [] d}:=
 match nC "len" x with
 |some ⟨y,f⟩=>(match nC "set" y with
  |some ⟨e,g⟩=>some ⟨e,let⟨a,d,h⟩:=f;let⟨b,c,i⟩:=g;⟨a,b,c,d,by rw[h,i]⟩⟩
  |none=>none)
 |none=>none
def asK:Expr->Expr->Bool
 |.Tuple ..,.Tuple .. =>false|.Name ..,_=>true|_,v=> !Xb v
noncomputable def itT:M->Expr->Bool
 |.enm _,.Tuple _ _ _=>true
 |.enm _,_=>false
 |.zp _ _,.Tuple _ _ _=>true
 |.zp _ _,_=>false
 |_,_=>true
mutual
noncomputable def Vy:M->Ck->Expr->Bool
 |.cst d,_,x=>(cnV x).any λk=>dC d==some k.1
 |.var i,c,.Name x _=>c.N[i]? ==some x&&c.vis x&&dbg x
 |.glb g,c,.Name x _=>Ac g==x&&c.gl x&&dbg x
 |.bin o a b,c,.BinOp e p f _=>Wbl o==p&&Vy a c e&&Vy b c f
 |.neg a,c,.UnaryOp .USub e _=>Vy a c e
 |.nott a,c,.UnaryOp .Not e _=>Vy a c e
 |.bit a,c,x=>(mC "bit_length" x).any λe=>Z0 e.1&&Vy a c e.1
 |.bo true as,c,.BoolOp .And es _=>Wj as c es
 |.bo false as,c,.BoolOp .Or es _=>Wj as c es
 |.cmp o a b,c,.Compare e [p] [f] _=>Xu o==p&&Vy a c e&&Vy b c f&&Xn o f
 |.cmp2 o u a b d,c,.Compare e [p,v] [f,g] _=>Xu o==p&&Xu u==v&&Vy a c e&&Vy b c f&&Vy d c g&&Xn o f&&Xn u g
 |.ife t a b,c,.IfExp x e f _=>Vy t c x&&Vy a c e&&Vy b c f
 |.tup as,c,.Tuple es _ _=>Wj as c es
 |.lst as,c,.List es _=>Wj as c es
 |.idx a b,c,.Subscript e f _=>Vy a c e&&Vy b c f
 |.sli a lo w,c,.Subscript e (.Slice l h none _) _=>Vy a c e&&Zp lo c l&&Zp w c h
 |.call f as,c,x=>(fV x).any λq=>Ac f==q.1.1&&c.gl q.1.1&&dbg q.1.1&&c.F.contains f&&Wj as c q.1.2.2.1
 |.prim p as,c,.Call (.Name x _) (e::es) [] _=>Ac (Wx p)==x&&c.gl x&&c.B.contains (Wx p)&&Wj as c (e::es)
 |.isi a t,c,x=>(iC x).any λq=>Ac t==q.1.2&&c.gl "isinstance"&&c.gl q.1.2&&c.B.contains "isinstance"&&c.B.contains t&&clNames.contains t&&Vy a c q.1.1
 |.meth p o as,c,.Call (.Attribute e x ap) es [] cp=>Ac (Yg p)==x&& !Jcn e&&ap.endLine==cp.line&&decide (es.length<20)&&Vy o c e&&Wj as c es&&Waf p o
 |.comp N k keep tg it cd el,c,.ListComp r [⟨t,i,y,s⟩] j _=>s==0&&c.comp N k keep j&&Xo k tg&&X7 tg (c.inner N j) t&&Xw it c i&&Z2 cd (c.inner N j) y&&Vy el (c.inner N j) r&&itT it t
 |.dnil _,_,.Dict [] [] _=>true
 |.hld a,c,x=>(hV x).any λe=>c.gl "dict"&&c.gl "sorted"&&c.B.contains "dict"&&c.B.contains "sorted"&&Vy a c e.1
 |.lsp a,c,x=>(lV x).any λe=>c.gl "len"&&c.gl "set"&&c.B.contains "len"&&c.B.contains "set"&&Vy a c e.1
 |.fld n f a,c,.Attribute e x _=>Ac f==x&&Z0 e&&c.O.fd.contains (n,f)&&Vy a c e
 |.mcl n m f o as,c,.Call (.Attribute e x ap) es [] cp=>Ac m==x&&Z0 e&&ap.endLine==cp.line&&decide (es.length<20)&&c.O.mt.contains (n,m,f)&&Vy o c e&&Wj as c es
 |.new n f,c,x=>(zC (Ac n) x).any λ_=>c.gl (Ac n)&&dbg (Ac n)&&c.O.nw.contains (n,f)
 |_,_,_=>false
noncomputable def Wj:M->Ck->List Expr->Bool
 |.nul,_,[]=>true
 |.cns a b,c,e::es=>Vy a c e&&Wj b c es
 |_,_,_=>false
noncomputable def Zp:M->Ck->Option Expr->Bool
 |.nul,_,none=>true
 |.cns a .nul,c,some e=>Vy a c e
 |_,_,_=>false
noncomputable def Z2:M->Ck->List Expr->Bool
 |.nul,_,[]=>true
 |.cns a .nul,c,[e]=>Vy a c e
 |_,_,_=>false
noncomputable def Xw:M->Ck->Expr->Bool
 |.rng a,c,x=>(nC "range" x).any λe=>c.gl "range"&&c.B.contains "range"&&Vy a c e.1
 |.cns a .nul,c,e=>Vy a c e
 |.enm a,c,x=>(nC "enumerate" x).any λe=>c.gl "enumerate"&&c.B.contains "enumerate"&&Vy a c e.1
 |.zp a b,c,.Call (.Name x _) [e,f] [] _=>Ac "zip"==x&&c.gl x&&c.B.contains "zip"&&Vy a c e&&Vy b c f
 |_,_,_=>false
noncomputable def X7:M->Ck->Expr->Bool
 |.tvar i,c,.Name x _=>c.N[i]? ==some x&&c.own x
 |.ttup d,c,.Tuple es _ _=>Xk d c es
 |.tsub a b,c,.Subscript e f _=>Vy a c e&&Vy b c f
 |_,_,_=>false
noncomputable def Xk:M->Ck->List Expr->Bool
 |.nul,_,[]=>true
 |.cns a b,c,e::es=>X7 a c e&&Xk b c es
 |_,_,_=>false
noncomputable def Waz:M->Ck->Stmt->Bool
 |.asg t e,c,.Assign [tg] v _=>X7 t c tg&&Vy e c v&&asK tg v
 |.aug i e,c,.AugAssign (.Name x _) .Add v _=>c.N[i]? ==some x&&c.own x&&Vy e c v
 |.ifs t a b,c,.If x y z _=>Vy t c x&&Xd a c y&&Xd b c z
 |.forr t i b,c,.For tg it d [] _=>X7 t c tg&&Xw i c it&&Xd b c d&&itT i tg
 |.ret e,c,.Return (some v) _=>Vy e c v
 |.exp e,c,.Expr v _=>Vy e c v&& !Xb v
 |.rse,_,.Raise (some _) none _=>true
 |.sfd g f o v,c,.Assign [.Attribute e x _] w _=>Ac f==x&& !Xb w&&c.O.fd.contains (g,f)&&Vy o c e&&Vy v c w
 |_,_,_=>false
noncomputable def Xd:M->Ck->List Stmt->Bool
 |.nul,_,[]=>true
 |.cns a b,c,s::d=>Waz a c s&&Xd b c d
 |_,_,_=>false
end
theorem Wd6:Wj (.cns a b) c (e::es)=(Vy a c e&&Wj b c es):=rfl
def aB(h:(a&&b)=true):a=true/\b=true:=(Aj _ _).mp h
section
variable (K:Ag) (C:Pr)
inductive tE (m:M) (σ:L2.St) (H:Hp) (Q:VK):Prop
 |mk (ρ S Z d S') (_:RelS K ρ S H) (_:RelE K ρ H Z σ) (_:evE C m Z S=.ok d S') (_:Fin K ρ H d S' Q):tE m σ H Q
noncomputable def FinB(ρ:List Addr)(H:Hp)(c:Store)(Q:Hp->Prop):Prop:=∀a b,Fut K ρ H a b->RelS K a c b->Q b
inductive tT (m:M) (σ:L2.St) (H:Hp) (Q:Bool->Hp->Prop):Prop
 |mk (ρ S Z b S') (_:RelS K ρ S H) (_:RelE K ρ H Z σ) (_:evT C m Z S=.ok b S') (_:FinB K ρ H S' (Q b)):tT m σ H Q
inductive tC (m:M) (σ:L2.St) (H:Hp) (Q:Bool->Hp->Prop):Prop
 |mk (ρ S Z b S') (_:RelS K ρ S H) (_:RelE K ρ H Z σ) (_:evC C m Z S=.ok b S') (_:FinB K ρ H S' (Q b)):tC m σ H Q
inductive tBV (w:Bool) (m:M) (σ:L2.St) (H:Hp) (Q:VK):Prop
 |mk (ρ S Z d S') (_:RelS K ρ S H) (_:RelE K ρ H Z σ) (_:evBV C w m Z S=.ok d S') (_:Fin K ρ H d S' Q):tBV w m σ H Q
inductive tBT (w:Bool) (m:M) (σ:L2.St) (H:Hp) (Q:Bool->Hp->Prop):Prop
 |mk (ρ S Z b S') (_:RelS K ρ S H) (_:RelE K ρ H Z σ) (_:evBT C w m Z S=.ok b S') (_:FinB K ρ H S' (Q b)):tBT w m σ H Q
inductive tA (m:M) (σ:L2.St) (H:Hp) (Q:List V->Hp->Prop):Prop
 |mk (ρ S Z ds S') (_:RelS K ρ S H) (_:RelE K ρ H Z σ) (_:evA C m Z S=.ok ds S') (_:∀ρ' vs H',Fut K ρ H ρ' H'->RelS K ρ' S' H'->RelDs K ρ' H' ds vs->Q vs H'):tA m σ H Q
inductive tO (m:M) (σ:L2.St) (H:Hp) (Q:Option Int->Hp->Prop):Prop
 |mk (ρ S Z o S') (_:RelS K ρ S H) (_:RelE K ρ H Z σ) (_:evO C m Z S=.ok o S') (_:FinB K ρ H S' (Q o)):tO m σ H Q
structure ItOk(ρ0:List Addr)(H0:Hp)(J:It)(g:Wk)(ds:List D):Prop where
 go:∀ρ H S i d,Fut K ρ0 H0 ρ H->RelS K ρ S H->sameAt S g ds.length=true->nth S g ds i=some d->J.go i H/\∀x H',J.yld i H x H'->Fut K ρ H ρ H'/\RelS K ρ S H'/\RelD K ρ H' d x
 stop:∀ρ H S,Fut K ρ0 H0 ρ H->RelS K ρ S H->sameAt S g ds.length=true->J.stop ds.length H
inductive tI (m:M) (σ:L2.St) (H:Hp) (R:It->Hp->Prop):Prop
 |mk (ρ S Z g ds S') (_:RelS K ρ S H) (_:RelE K ρ H Z σ) (_:evI C m Z S=.ok (g,ds) S') (_:∀ρ' H' J,Fut K ρ H ρ' H'->RelS K ρ' S' H'->ItOk K ρ' H' J g ds->R J H'):tI m σ H R
noncomputable def FinG(ρ:List Addr)(H:Hp)(d:En)(e:Store)(Q:L2.St->Hp->Prop):Prop:=∀a b c,Fut K ρ H a c->RelS K a e c->RelE K a c d b->Q b c
inductive tG (m:M) (v:V) (σ:L2.St) (H:Hp) (Q:L2.St->Hp->Prop):Prop
 |mk (ρ S Z d Z' S') (_:RelS K ρ S H) (_:RelE K ρ H Z σ) (_:RelD K ρ H d v) (_:evG C m d Z S=.ok Z' S') (_:FinG K ρ H Z' S' Q):tG m v σ H Q
inductive tGs (m:M) (vs:List V) (σ:L2.St) (H:Hp) (Q:L2.St->Hp->Prop):Prop
 |mk (ρ S Z ds Z' S') (_:RelS K ρ S H) (_:RelE K ρ H Z σ) (_:RelDs K ρ H ds vs) (_:evGs C m ds Z S=.ok Z' S') (_:FinG K ρ H Z' S' Q):tGs m vs σ H Q
def FlOk(ρ:List Addr)(H:Hp)(b:Fl)(a:Store)(D:Ends):Prop:=match b with
 |.nx c=>FinG K ρ H c a D.nx
 |.rt d=>Fin K ρ H d a D.rt
inductive tS (m:M) (D:Ends) (σ:L2.St) (H:Hp):Prop
 |mk (ρ S Z fl S') (_:RelS K ρ S H) (_:RelE K ρ H Z σ) (_:evS C m Z S=.ok fl S') (_:FlOk K ρ H fl S' D):tS m D σ H
inductive tB' (m:M) (D:Ends) (σ:L2.St) (H:Hp):Prop
 |mk (ρ S Z fl S') (_:RelS K ρ S H) (_:RelE K ρ H Z σ) (_:evB C m Z S=.ok fl S') (_:FlOk K ρ H fl S' D):tB' m D σ H
noncomputable def spM(f:String):Sp:=λe H Q _=>∃a S b d c,RelS K a S H/\RelDs K a H b e/\C.call f b S=.ok d c/\Fin K a H d c Q
end
structure Tp(P:Program)(w:World)(K:Ag)(mg:Str->Option Value)(base:Heap)(A:Bi)(C:Pr)(B F:List String)(O:Ow):Prop where
 fns:∀f∈F,∃k a fd ps,V9 k A/\mg (Ac f)=some (.ref a)/\W1 P w K mg base CX0 k a fd ps (spM K C f)/\Binds K fd ps []/\D6 K (.ref a)=true
 blt:∀x∈B,mg (Ac x)=none
 gl:∀x d,C.glob x=some d->∃v u,mg (Ac x)=some u/\RelV v u/\(∀ρ H,RelD K ρ H d v)/\∀ds,d=.tup ds->∃a o,v=.ref a/\K.lookup a=some o/\o.cls=.type "tuple"/\o.dict=none
 un:A.units+64<Dc
 np:npB K=true
 mts:∀c m f,(c,m,f)∈O.mt->∃k a fd ps Ca,V9 (k+1) A/\Bz K Bg (Ac c)=some (some (.ref Ca))/\L2.Cls K Ca/\L2.Meth K Ca (Ac m) a/\W1 P w K mg base CX0 k a fd ps (spM K C f)/\Binds K fd ps []
 fds:∀c f,(c,f)∈O.fd->∃Ca,Bz K Bg (Ac c)=some (some (.ref Ca))/\L2.Cls K Ca/\L2.Wo K Ca (Ac f)
 nws:∀c f,(c,f)∈O.nw->∃k a fd ps Ca,V9 (k+1) A/\Bz K Bg (Ac c)=some (some (.ref Ca))/\mg (Ac c)=some (.ref Ca)/\L2.Mk K Ca a/\W1 P w K mg base CX0 k a fd ps (spM K C f)/\Binds K fd ps []
structure Gd(X:Cx)(C:Pr)(c:Ck):Prop where
 N:X.N=c.N
 nd:X.N.Nodup
 names:X.env.scope.names=c.names
 sk:X.env.scope.kind=.function
 fn:∀x,X.fn x=c.fn
 calm:X.calm=true
 xe:X.xe=λ_ _=>False
 top:Tp X.prog X.w X.K X.mg X.base X.A C c.B c.F c.O
section
variable {X:Cx} {C:Pr} {c:Ck}
def PE.imp(h:PE X e t)(d:∀b H Q,t' b H Q->t b H Q):PE X e t':=λa s b H Q I q=>h a s b H Q I (d _ _ _ q)
def PT.imp(h:PT X e t)(d:∀b H Q,t' b H Q->t b H Q):PT X e t':=λa s b H Q I q=>h a s b H Q I (d _ _ _ q)
def PA.imp(h:PA X e t)(f:∀b H Q,t' b H Q->t b H Q):PA X e t':=λd a s b H Q I q=>h d a s b H Q I (f _ _ _ q)
def PI.imp(h:PI X tg e t)(d:∀b H Q,t' b H Q->t b H Q):PI X tg e t':=λa s b H Q I q=>h a s b H Q I (d _ _ _ q)
def PO.imp(h:PO X e t)(d:∀b H Q,t' b H Q->t b H Q):PO X e t':=λa s b H Q I q=>h a s b H Q I (d _ _ _ q)
def PG.imp(h:PG X e t)(d:∀v b H Q,t' v b H Q->t v b H Q):PG X e t':=λa s b H v u Q I r q=>h a s b H v u Q I r (d _ _ _ _ q)
def PGs.imp(h:PGs X e t)(d:∀v b H Q,t' v b H Q->t v b H Q):PGs X e t':=λa s b H v u Q I r q=>h a s b H v u Q I r (d _ _ _ _ q)
def PS.imp(h:PS X e t)(d:∀D b H,t' D b H->t D b H):PS X e t':=λa s b H D I q=>h a s b H D I (d _ _ _ q)
def PSs.imp(h:PSs X e t)(d:∀D b H,t' D b H->t D b H):PSs X e t':=λa s b H D I q=>h a s b H D I (d _ _ _ q)
def PTs.imp(h:PTs X e t)(d:∀b H Q,t' b H Q->t b H Q):PTs X e t':=λa s b H Q I q=>h a s b H Q I (d _ _ _ q)
def Yy(h:dbg x=true):(x==("__debug__":Str))=false:=by unfold dbg at h;simp only[Aj,Kf]at h;exact h.1
def Wd4(h:dbg x=true):(x==("__classdict__":Str))=false:=by unfold dbg at h;simp only[Aj,Kf]at h;exact h.2
def Gd.vis(g:Gd X C c)(h:c.vis x=true):Vis X.env.scope x:=by
 unfold Ck.vis at h;simp only[Jd,beq_iff_eq]at h;unfold Vis;rw[g.names];rcases h with(h|h)|h
 .exact .inl h
 .exact .inr (.inl h)
 .exact .inr (.inr h)
def Gd.own(g:Gd X C c)(h:c.own x=true):L2.Loc X.env.scope x/\(X.fn x=true\/X.env.scope.names.lookup x=some .local):=by
 unfold Ck.own at h;unfold L2.Loc;rw[g.names,g.fn];split at h
 .rename_i a;simp only[Jd,beq_iff_eq]at h;exact⟨h,.inl a⟩
 .simp only[beq_iff_eq]at h;exact⟨.inl h,.inr h⟩
def Gd.glo(g:Gd X C c)(h:c.gl x=true):Gl X x:=by
 unfold Ck.gl at h;simp only[beq_iff_eq]at h;unfold Gl Env.kindOf;rw[g.names];exact h
def noStar:∀{m:M} {c:Ck} {e:Expr},Vy m c e=true->∀x p,e≠ .Starred x p:=by
 intro m c e h x p z;subst z;cases m<;>first|(exact fx9 h)|(rename_i d;cases d<;>exact fx9 h)|(rename_i w _;cases w<;>exact fx9 h)
def Jae(h:∀x p,e≠ .Starred x p):B4 (e::es) env=(false,eval e env)::B4 es env:=by
 cases e<;>first|rfl|exact absurd rfl (h _ _)
def Jc0(h:∀x p,e≠ .Starred x p):Gq (e::es) env=(false,assign e env)::Gq es env:=by
 cases e<;>first|rfl|exact absurd rfl (h _ _)
theorem W2:∀{m:M} {c:Ck} {es:List Expr} {env:Env},Wj m c es=true->(B4 es env).any (·.1)=false:=by
 intro m
 induction m with
 |nul=>intro c es env h;cases es<;>first|rfl|exact fx9 h
 |cns a b _ d=>
  intro c es env h;cases es with
  |nil=>exact fx9 h
  |cons e es=>
   simp only[Wd6,Aj]at h;rw[Jae (noStar h.1),Gg,d h.2];rfl
 |_=>intro c es env h;exact fx9 h
theorem Jbc(pos:Pos)(l:List (Bool×Sem Value)):(Ga pos l).any (·.1)=l.any (·.1):=by
 unfold Ga;rw[Qb];rfl
def Jfv(pos:Pos)(l:List (Bool×Sem Value))(h:l.any (·.1)=false):(Ga pos l).all (λx=> !x.1)=true:=by
 unfold Ga;rw[Vu];rw[M4]at h;rw[Ed];intro x a;have:=h x a
 simpa using this
def Zx:∀{m:M} {c:Ck} {e:Expr},Vy m c e=true->Ys e:=by
 intro m c e h o i;cases e<;>first|rfl|(exfalso;cases m<;>first|(exact fx9 h)|(rename_i d;cases d<;>exact fx9 h)|(rename_i w _;cases w<;>exact fx9 h))
def Jal{l:List String}(h:l.contains x=true):x∈l:=by simpa using h
def marks(h:Xn o e=true)(p:CmpOp):Jg p e=false:=by
 cases e<;>first|rfl|(cases o<;>exact fx9 h)
def Jb6(h:Wj as c (e::es)=true):∃a b,as=.cns a b:=by
 cases as<;>first|exact⟨_,_,rfl⟩|exact fx9 h
def Jeb(h:Wj as c []=true):as=.nul:=by
 cases as<;>first|rfl|exact fx9 h
theorem Jrq(h:Wj as c es=true):as=.nul\/∃a b,as=.cns a b:=by
 cases es with
 |nil=>exact .inl (Jeb h)
 |cons e es=>exact .inr (Jb6 h)
def Jyv(h:Zp (.cns a b) c x=true):∃e,x=some e/\b=.nul:=by
 cases b<;>first|exact fx9 h|(cases x<;>first|exact⟨_,rfl,rfl⟩|exact fx9 h)
def Jyy(h:Z2 (.cns a b) c x=true):∃e,x=[e]/\b=.nul:=by
 cases b<;>first|exact fx9 h|(rcases x with _|⟨e,_|⟨d,f⟩⟩<;>first|exact⟨_,rfl,rfl⟩|exact fx9 h)
def Jyw(h:Xw (.cns a b) c x=true):b=.nul:=by
 cases b<;>first|rfl|exact fx9 h
def Jrp(h:X7 t c (.Name y p)=true):∃i,t=.tvar i:=by
 cases t<;>first|exact⟨_,rfl⟩|exact fx9 h
def Jyx(h:X7 t c (.List y p)=true):False:=by
 cases t<;>exact fx9 h
end
end Mi
namespace Mi
open PySem L2
abbrev SE(C:Pr)(m:M):Prop:=∀(X:Cx) (c:Ck) (x:Expr),Gd X C c->Vy m c x=true->PE X x (tE X.K C m)
abbrev ST(C:Pr)(m:M):Prop:=∀(X:Cx) (c:Ck) (x:Expr),Gd X C c->Vy m c x=true->PE X x (tE X.K C m)/\PT X x (tT X.K C m)
abbrev SG(C:Pr)(m:M):Prop:=∀(X:Cx) (c:Ck) (x:Expr),Gd X C c->X7 m c x=true->PG X x (tG X.K C m)
abbrev SS(C:Pr)(m:M):Prop:=∀(X:Cx) (c:Ck) (x:Stmt),Gd X C c->Waz m c x=true->PS X x (tS X.K C m)
structure Snd(C:Pr)(m:M):Prop where
 e:SE C m
 t:∀(X:Cx) (c:Ck) (x:Expr),Gd X C c->Vy m c x=true->PT X x (tT X.K C m)
 a:∀(X:Cx) (c:Ck) (x:List Expr),Gd X C c->Wj m c x=true->PA X x (tA X.K C m)
 bv:∀(X:Cx) (c:Ck) (w:Bool) (x:List Expr) (pos:Pos),Gd X C c->Wj m c x=true->PE X (.BoolOp (if w then .And else .Or) x pos) (tBV X.K C w m)
 bt:∀(X:Cx) (c:Ck) (w:Bool) (x:List Expr) (pos:Pos),Gd X C c->Wj m c x=true->PW X (.BoolOp (if w then .And else .Or) x pos) (tBT X.K C w m)
 o:∀(X:Cx) (c:Ck) (x:Option Expr),Gd X C c->Zp m c x=true->PO X x (tO X.K C m)
 cd:∀(X:Cx) (c:Ck) (x:List Expr),Gd X C c->Z2 m c x=true->PTs X x (tC X.K C m)
 i:∀(X:Cx) (c:Ck) (tg x:Expr),Gd X C c->Xw m c x=true->itT m tg=true->PI X tg x (tI X.K C m)/\∀v,Dp x X.env v=pure v
 g:SG C m
 gs:∀(X:Cx) (c:Ck) (x:List Expr),Gd X C c->Xk m c x=true->PGs X x (tGs X.K C m)
 s:SS C m
 b:∀(X:Cx) (c:Ck) (x:List Stmt),Gd X C c->Xd m c x=true->PSs X x (tB' X.K C m)
def SC(C:Pr):M->Prop
 |.comp _ _ _ tg it cd el=>Snd C tg/\Snd C it/\Snd C cd/\Snd C el
 |_=>True
section
variable {C:Pr} {X:Cx} {c:Ck}
def Jtq(h:∀a H Q,¬t a H Q):PE X e t:=λb s a H Q _ q=>absurd q (h _ _ _)
def Jzv(h:∀a H Q,¬t a H Q):PT X e t:=λb s a H Q _ q=>absurd q (h _ _ _)
def Jzo(h:∀Z S,evE C m Z S=.bad):∀a H Q,¬tE K C m a H Q:=by
 rintro a H Q ⟨b,S,Z,d,f,_,_,e,_⟩;rw[h]at e;cases e
def Jzm(h:∀Z S,evT C m Z S=.bad):∀a H Q,¬tT K C m a H Q:=by
 rintro a H Q ⟨b,S,Z,d,f,_,_,e,_⟩;rw[h]at e;cases e
def Xm(h:∀a b p,e≠ .Set a b p)(v:Value):Dp e env v=pure v:=by
 cases e<;>first|rfl|exact absurd rfl (h _ _ _)
def Wbn:∀{m:M} {c:Ck} {e:Expr},Vy m c e=true->∀a b p,e≠ .Set a b p:=by
 intro m c e h x q p z;subst z;cases m<;>first|(exact fx9 h)|(rename_i d;cases d<;>exact fx9 h)|(rename_i w _;cases w<;>exact fx9 h)
def Jka{x:Expr}(h:PE X x (tE X.K C m))(k:∀a,isTrue x X.env a=(do let v<-a;N2 x.pos;holding [v] (truthy v)))
  (l:∀Z S b g,evT C m Z S=.ok b g->∃d,evE C m Z S=.ok d g/\tru g d=some b):PT X x (tT X.K C m):=by
 refine PT.imp (Job h k) λw H Q i=>?_;obtain⟨n,S,Z,b,g,o,p,e,fin⟩:=i;obtain⟨d,s,t⟩:=l Z S b g e;exact⟨n,S,Z,d,g,o,p,s,λj v u f r q=>⟨b,Jk7 r q t,fin j u f r⟩⟩
def Jsw(u:Snd C a)(v:Snd C b):SE C (.bin o a b):=by
 intro X c x g h;cases x<;>try (exact fx9 h)
 replace h:=aB h
 simp only[Aj,beq_iff_eq]at h;obtain⟨⟨rfl,w⟩,y⟩:=h;refine PE.imp (Jzz (Jyz o) (u.e X c _ g w) (v.e X c _ g y)) λσ H Q f=>?_;obtain⟨z,S,Z,d,A,E,l,e,fin⟩:=f;obtain⟨m,n,I,e⟩:=Res.bind_eq_ok e;obtain⟨p,r,J,e⟩:=Res.bind_eq_ok e;refine⟨z,S,Z,m,n,E,l,I,λi v1 H1 s L N=>⟨i,n,Z,p,r,L,l.fut s,J,λj v2 H2 t U Y=>?_⟩⟩;exact⟨j,r,m,p,d,A,U,N.fut t,Y,e,λk v3 H3 f3 r3 q3=>fin k v3 H3 (s.trans (t.trans f3)) r3 q3⟩
def Jsf(j:Snd C a):SE C (.neg a):=by
 intro X c x g h;cases x<;>try (exact fx9 h)
 rename_i k e l;cases k<;>try (exact fx9 h)
 refine PE.imp (Jzx Jv4 (j.e X c _ g h)) λv H Q b=>?_;obtain⟨m,S,Z,d,w,n,o,e,fin⟩:=b;obtain⟨i,p,r,e⟩:=Res.bind_eq_ok e;refine⟨m,S,Z,i,p,n,o,r,λf y H1 s t u=>?_⟩;cases i<;>simp only at e<;>try (cases e;done)
 cases e;exact⟨_,u.int_inv,fin f _ H1 s t (RelD.int _)⟩
def Tm(X:Cx)(T:String)(x:V)(H:Hp):Prop:=∀b s e v,Inv X b e H s->RelV x v->s.TypeIs v T/\∀a,v=.ref a->∃d,s.heap.get? a=some d/\d.dict=none
def Ju6(h:(!Jcn o)=true):attributeBase o name env (eval o env)=eval o env:=by
 cases o<;>try rfl
 rename_i a b d e;cases a<;>try rfl
 cases b<;>try rfl
 cases d<;>try rfl
 exact fx9 h
def Jq0{id:String}{a b:Pos}{r:V->List V->Hp->VK->Prop}(l:U1 T)(f:Slot T name id)(i:typeOf (.builtin id)=pure (.type "method_descriptor"))(m:MtR X id r)(n:PE X o p)
  (t:(!Jcn o)=true)(e:(a.endLine==b.line)=true):PE X (.Call (.Attribute o name a) [] [] b) (λg H Q=>p g H λx H1=>Tm X T x H1/\r x [] H1 Q):=by
 intro d s g H Q I h;refine Rc (Ju6 t) e (thn (n d s g H _ I h) λv u ⟨x,H1,j,k,w,y⟩=>?_);obtain⟨z,A⟩:=w _ _ _ _ j k;exact⟨T,id,l,f,i,z,A,Kx rfl (Qp (m d u g H1 x [] v [] Q j k .nil y))⟩
def Jxp:MtR X "int.bit_length" (λx xs H Q=>xs=[]/\∃i,x=.int i/\Q (.int (B5 i)) H):=by
 intro b s f H x xs v g Q I d r a;obtain⟨rfl,i,rfl,q⟩:=a;cases r;obtain⟨t,rfl⟩:=(show∃e,v=Eb i e from d)
 exact PyProof.Rows.call_int_bit_length ⟨.int _,H,I.tok _,⟨_,rfl⟩,q⟩
def Jsv(j:Snd C a):SE C (.bit a):=by
 intro X c x g h;obtain⟨⟨A,E,k,rfl,l,m⟩,h⟩:=aO h;dsimp only at h;obtain⟨_,n⟩:=aB h;refine PE.imp (Jq0 PySem.F.plainAttrs_int PySem.F.slot_int_bit_length PySem.F.type_int_bit_length Jxp (j.e X c _ g n) l m) λI H Q b=>?_;obtain⟨o,S,Z,d,J,p,r,e,fin⟩:=b;obtain⟨i,u,v,e⟩:=Res.bind_eq_ok e;refine⟨o,S,Z,i,u,p,r,v,λf L H1 w y z=>?_⟩;cases i<;>simp only at e<;>try (cases e;done)
 cases e;cases z.int_inv;exact⟨λ_ s _ _ _ ⟨t,e⟩=>by subst e;exact⟨Uu s _ t,nofun⟩,rfl,_,rfl,fin f _ H1 w y (RelD.int _)⟩
def Jtp(f:PE X a g):PE X (.UnaryOp .Not a pos) (λe H Q=>g e H λx H1=>∃k,Z3 X.K x H1 k/\Q (.bl (!k)) H1):=by
 intro d s e H Q I h;refine Ss (thn (f d s e H _ I h) λv i ⟨x,H1,j,l,m⟩=>?_);obtain⟨k,n,q⟩:=m;refine PyProof.Rows.not_of (thn (Jql d i e H1 x v (λb H2=>Q (.bl (!b)) H2) j l ⟨k,n,q⟩) λb r ⟨H2,o,p⟩=>?_);exact⟨.bl (!b),H2,o,rfl,p⟩
def Jsd(o:Snd C a):ST C (.nott a):=by
 intro X c x g h;cases x<;>try (exact fx9 h)
 rename_i s e t;cases s<;>try (exact fx9 h)
 constructor
 .refine PE.imp (Jtp (o.e X c _ g h)) λu H Q f=>?_;obtain⟨i,S,Z,d,v,j,k,e,fin⟩:=f;obtain⟨l,p,m,e⟩:=Res.bind_eq_ok e;refine⟨i,S,Z,l,p,j,k,m,λn A H1 w r y=>?_⟩;split at e
  .rename_i b z;cases e;exact⟨b,Jk7 r y z,fin n _ H1 w r (RelD.bl _)⟩
  .cases e
 .refine PT.imp (Jwr (o.t X c _ g h)) λu H Q f=>?_;obtain⟨i,S,Z,d,v,j,k,e,fin⟩:=f;obtain⟨l,p,m,e⟩:=Res.bind_eq_ok e;cases e;exact⟨i,S,Z,l,_,j,k,m,fin⟩
def Jsu(ha:Snd C a)(hb:Snd C b):ST C (.cmp o a b):=by
 intro X c x g h;cases x<;>try (exact fx9 h)
 rename_i l v cs pos;rcases v with _|⟨p,_|⟨p2,v⟩⟩<;>first|exact fx9 h|(rcases cs with _|⟨f,_|⟨Y,cs⟩⟩<;>try (exact fx9 h))
 replace h:=aB h
 simp only[Aj,beq_iff_eq]at h;obtain⟨⟨⟨rfl,h1⟩,h2⟩,h3⟩:=h;have w:∀{m S Z k t H z} {Q:VK},RelS X.K m S H->RelE X.K m H Z z->(evE C a Z S).bind (λx j=>(evE C b Z j).bind λy i=>match cop o x y i with|some k=>(.ok (.bl k) i:Res D)|none=>.bad)=.ok (.bl k) t->
   FinB X.K m H t (λA=>Q (.bl k) A)->tOp (rC X.K o) (tE X.K C a) (tE X.K C b) z H Q:=λ{m S Z k t H z Q} E u e fin=>by
  obtain⟨J,j,L,e⟩:=Res.bind_eq_ok e;obtain⟨N,i,U,e⟩:=Res.bind_eq_ok e;refine⟨m,S,Z,J,j,E,u,L,λρ1 v1 H1 f1 r1 q1=>⟨ρ1,j,Z,N,i,r1,u.fut f1,U,λI v2 H2 Y r2 q2=>?_⟩⟩;split at e
  .rename_i k' hk;cases e;exact⟨I,_,J,N,_,r2,q1.fut Y,q2,hk,fin I H2 (f1.trans Y) r2⟩
  .cases e
 constructor
 .refine PE.imp (Jtu (Jfp o g.top.un g.top.np) (ha.e X c _ g h1) (hb.e X c _ g h2) (marks h3 _)) λz H Q n=>?_;obtain⟨m,S,Z,d,t,E,u,e,fin⟩:=n;have hd:∃k,d=.bl k:=by
   obtain⟨J,j,L,e⟩:=Res.bind_eq_ok e;obtain⟨N,i,U,e⟩:=Res.bind_eq_ok e;split at e
   .cases e;exact⟨_,rfl⟩
   .cases e
  obtain⟨k,rfl⟩:=hd;exact w E u e λs A f r=>fin s _ A f r (RelD.bl _)
 .refine PT.imp (Jtd (Jfp o g.top.un g.top.np) (ha.e X c _ g h1) (hb.e X c _ g h2) (marks h3 _)) λz H Q n=>?_;obtain⟨m,S,Z,k,t,E,u,e,fin⟩:=n;have e':(evE C a Z S).bind (λx j=>(evE C b Z j).bind λy i=>match cop o x y i with|some k=>(.ok (.bl k) i:Res D)|none=>.bad)=.ok (.bl k) t:=by
   obtain⟨J,j,L,e⟩:=Res.bind_eq_ok e;obtain⟨N,i,U,e⟩:=Res.bind_eq_ok e;rw[L,Res.bind_ok,U,Res.bind_ok];split at e
   .rename_i hk;cases e;first|rfl|rw[hk]
   .cases e
  exact w E u e' λs A f r=>⟨k,rfl,fin s A f r⟩
def Jn0(ha:Snd C a)(hb:Snd C b)(hd:Snd C d):ST C (.cmp2 o m a b d):=by
 intro X c x g h;cases x<;>try (exact fx9 h)
 rename_i l A cs pos;rcases A with _|⟨p,_|⟨p2,_|⟨p3,A⟩⟩⟩<;>first|exact fx9 h|(rcases cs with _|⟨f,_|⟨j,_|⟨f3,cs⟩⟩⟩<;>try (exact fx9 h))
 replace h:=aB h
 simp only[Aj,beq_iff_eq]at h;obtain⟨⟨⟨⟨⟨⟨rfl,rfl⟩,h1⟩,h2⟩,h3⟩,h4⟩,h5⟩:=h;have hm:lastMarks [Xu o,Xu m] [f,j]=false:=by
  show Jg (Xu m) j=false;exact marks h5 _
 have E:∀{n S Z k y H I} {Q:VK},RelS X.K n S H->RelE X.K n H Z I->evE C (.cmp2 o m a b d) Z S=.ok (.bl k) y->
   FinB X.K n H y (λJ=>Q (.bl k) J)->Ye (rC X.K o) (rC X.K m) (tE X.K C a) (tE X.K C b) (tE X.K C d) I H Q:=λ{n S Z k y H I Q} L s e fin=>by
  obtain⟨N,S1,e1,e⟩:=Res.bind_eq_ok e;obtain⟨z,U,e2,e⟩:=Res.bind_eq_ok e;refine⟨n,S,Z,N,S1,L,s,e1,λρ1 v1 H1 f1 r1 q1=>⟨ρ1,S1,Z,z,U,r1,s.fut f1,e2,λi v2 H2 j r2 q2=>?_⟩⟩;split at e
  .rename_i t;obtain⟨x3,S3,e3,e⟩:=Res.bind_eq_ok e;refine⟨i,U,N,z,true,r2,q1.fut j,q2,t,true,rfl,?_⟩;rw[if_pos rfl];refine⟨i,U,Z,x3,S3,r2,s.fut (f1.trans j),e3,λY v3 H3 f3 r3 q3=>?_⟩;split at e
   .rename_i k' u;cases e;exact⟨Y,_,z,x3,_,r3,q2.fut f3,q3,u,fin Y H3 (f1.trans (j.trans f3)) r3⟩
   .cases e
  .rename_i t;cases e;refine⟨i,_,N,z,false,r2,q1.fut j,q2,t,false,rfl,?_⟩;rw[if_neg Ba];exact fin i H2 (f1.trans j) r2
  .cases e
 constructor
 .refine PE.imp (Jor (Jfp o g.top.un g.top.np) (Jfp m g.top.un g.top.np) (ha.e X c _ g h1) (hb.e X c _ g h2) (hd.e X c _ g h3) hm) λI H Q v=>?_;obtain⟨n,S,Z,d',y,L,s,e,fin⟩:=v;have hd:∃k,d'=.bl k:=by
   obtain⟨N,S1,e1,e⟩:=Res.bind_eq_ok e;obtain⟨z,U,e2,e⟩:=Res.bind_eq_ok e;split at e
   .obtain⟨x3,S3,e3,e⟩:=Res.bind_eq_ok e;split at e
    .cases e;exact⟨_,rfl⟩
    .cases e
   .cases e;exact⟨_,rfl⟩
   .cases e
  obtain⟨k,rfl⟩:=hd;exact E L s e λw J f r=>fin w _ J f r (RelD.bl _)
 .refine PT.imp (Joc (Jfp o g.top.un g.top.np) (Jfp m g.top.un g.top.np) (ha.e X c _ g h1) (hb.e X c _ g h2) (hd.e X c _ g h3) hm) λI H Q v=>?_;obtain⟨n,S,Z,k,y,L,s,e,fin⟩:=v;have e':evE C (.cmp2 o m a b d) Z S=.ok (.bl k) y:=by
   show Res.bind _ _=_;obtain⟨N,S1,e1,e⟩:=Res.bind_eq_ok e;obtain⟨z,U,e2,e⟩:=Res.bind_eq_ok e;rw[e1,Res.bind_ok,e2,Res.bind_ok];split at e
   .rename_i t
    try rw[t]
    obtain⟨x3,S3,e3,e⟩:=Res.bind_eq_ok e;rw[e3,Res.bind_ok];split at e
    .rename_i u;cases e;first|rfl|rw[u]
    .cases e
   .rename_i t;cases e;first|rfl|rw[t]
   .cases e
  exact E L s e' λw J f r=>⟨k,rfl,fin w J f r⟩
end
section
variable {C:Pr}
theorem Jsl(u:Snd C t)(v:Snd C a)(w:Snd C b):SE C (.ife t a b):=by
 intro X c x g h;cases x<;>try (exact fx9 h)
 replace h:=aB h
 simp only[Aj]at h;refine PE.imp (Jom (u.t X c _ g h.1.1) (v.e X c _ g h.1.2) (w.e X c _ g h.2)) λE H Q l=>?_;obtain⟨y,S,Z,d,r,z,m,e,fin⟩:=l;obtain⟨k,n,A,e⟩:=Res.bind_eq_ok e;refine⟨y,S,Z,k,n,z,m,A,λi H1 j s=>?_⟩;cases k with
 |true=>rw[if_pos rfl];exact⟨i,n,Z,d,r,s,m.fut j,e,λf o H2 p=>fin f o H2 (j.trans p)⟩
 |false=>rw[if_neg Ba];exact⟨i,n,Z,d,r,s,m.fut j,e,λf o H2 p=>fin f o H2 (j.trans p)⟩
def Jr7(j:Snd C as):SE C (.tup as):=by
 intro X c x g h;cases x<;>try (exact fx9 h)
 refine PE.imp (Jw2 (j.a X c _ g h)) λw H Q a=>?_;obtain⟨k,S,Z,d,y,l,m,e,fin⟩:=a;obtain⟨n,o,p,e⟩:=Res.bind_eq_ok e;refine⟨k,S,Z,n,o,l,m,p,λb z H1 r s i=>?_⟩;split at e
 .rename_i t;cases e;exact⟨by rw[<-i.length,<-Jbd];exact t,Fin.newT (ρ:=b) (λf u H2 v=>fin f u H2 (r.trans v)) s i⟩
 .cases e
def Jsh(j:Snd C as):SE C (.lst as):=by
 intro X c x g h;cases x<;>try (exact fx9 h)
 refine PE.imp (Jw6 (j.a X c _ g h)) λw H Q a=>?_;obtain⟨k,S,Z,d,y,l,m,e,fin⟩:=a;obtain⟨n,o,p,e⟩:=Res.bind_eq_ok e;refine⟨k,S,Z,n,o,l,m,p,λb z H1 r s i=>?_⟩;split at e
 .rename_i t;cases e;exact⟨by rw[<-i.length,<-Jbd];exact t,Fin.newL (ρ:=b) (λf u H2 v=>fin f u H2 (r.trans v)) s i⟩
 .cases e
def Jsm(z:Snd C a)(A:Snd C b):ST C (.idx a b):=by
 intro X c x g h;cases x<;>try (exact fx9 h)
 rename_i E I J
 replace h:=aB h
 have t:PE X (.Subscript E I J) (tE X.K C (.idx a b)):=by
  refine PE.imp (Jz0 (Jyb (Gb (Jh (by decide:2<=64) _) g.top.un) g.top.np) (z.e X c _ g h.1) (A.e X c _ g h.2) (Zx h.2)) λσ H Q f=>?_;obtain⟨L,S,Z,d,N,U,u,e,fin⟩:=f;obtain⟨i,j,l,e⟩:=Res.bind_eq_ok e;obtain⟨m,v,n,e⟩:=Res.bind_eq_ok e;refine⟨L,S,Z,i,j,U,u,l,λo v1 H1 w Y q1=>⟨o,j,Z,m,v,Y,u.fut w,n,λp v2 H2 y r2 q2=>?_⟩⟩;split at e
  .rename_i d' r;cases e;exact⟨p,_,i,m,d,r2,q1.fut y,q2,r,λs v3 H3 f3 r3 q3=>fin s v3 H3 (w.trans (y.trans f3)) r3 q3⟩
  .cases e
 refine⟨t,Jka t (λ_=>rfl) λZ S b N e=>?_⟩;obtain⟨i,j,l,e⟩:=Res.bind_eq_ok e;obtain⟨m,v,n,e⟩:=Res.bind_eq_ok e;split at e
 .rename_i d r;split at e
  .rename_i k hk;cases e;exact⟨d,Res.bnd l (Res.bnd n (by rw[r])),hk⟩
  .cases e
 .cases e
def Jr8(w:Snd C a)(y:Snd C l)(z:Snd C u):SE C (.sli a l u):=by
 intro X c x g h;cases x<;>try (exact fx9 h)
 rename_i e0 sl A;cases sl<;>try (exact fx9 h)
 rename_i lo up st p2;cases st<;>try (exact fx9 h)
 replace h:=aB h
 simp only[Aj]at h;refine PE.imp (Joj Jv9 (w.e X c _ g h.1.1) (y.o X c _ g h.1.2) (z.o X c _ g h.2)) λσ H Q b=>?_;obtain⟨E,S,Z,d,I,J,f,e,fin⟩:=b;obtain⟨p,r,L,e⟩:=Res.bind_eq_ok e;obtain⟨N,s,U,e⟩:=Res.bind_eq_ok e;obtain⟨Y,t,e3,e⟩:=Res.bind_eq_ok e;refine⟨E,S,Z,p,r,J,f,L,λi v1 H1 j r1 q1=>⟨i,r,Z,N,s,r1,f.fut j,U,λk H2 m r2=>⟨k,s,Z,Y,t,r2,f.fut (j.trans m),e3,λn H3 v r3=>?_⟩⟩⟩;exact⟨n,t,p,d,I,r3,q1.fut (m.trans v),e,λo v4 H4 f4 r4 q4=>fin o v4 H4 (j.trans (m.trans (v.trans f4))) r4 q4⟩
def Jn1(ha:Snd C as):ST C (.call f as):=by
 intro X c x g h;obtain⟨⟨⟨y,p,n,o⟩,rfl⟩,h⟩:=aO h;dsimp only at h ⊢;simp only[Aj,beq_iff_eq]at h;obtain⟨⟨⟨⟨rfl,J⟩,L⟩,h3⟩,j⟩:=h;obtain⟨k,a,fd,ps,N,U,F,Y,l⟩:=g.top.fns f (Jal h3);have pe:PE X (.Call (.Name (Ac f) p) n [] o) (tE X.K C (.call f as)):=by
  have rd:∀{t:TA},(∀i H Q,tA X.K C as i H Q->t i H Q)->∀i H Q,tE X.K C (.call f as) i H Q->Y7 (spM X.K C f) [] E0 t i H Q:=λht i H Q ⟨r,S,Z,d,s,u,re,e,fin⟩=>by
   obtain⟨m,v,w,e⟩:=Res.bind_eq_ok e;refine ht i H _ ⟨r,S,Z,m,v,u,re,w,λA vs H1 f1 r1 q1=>?_⟩;show spM X.K C f (vs++[]) H1 Q E0;rw[Dq];exact⟨A,v,m,d,s,r1,q1,e,λE v2 H2 f2 r2 q2=>fin E v2 H2 (f1.trans f2) r2 q2⟩
  cases n with
  |nil=>
   refine PE.imp (Jos F N (g.glo J) U l Y .nil Jlu (Yy L)) (rd λi H Q ⟨r,S,Z,m,s,u,re,e,fin⟩=>?_);obtain rfl:=Jeb j;cases e;exact fin r [] H Fut.refl u RelDs.nil
  |cons e n=>
   obtain⟨a0,b0,rfl⟩:=Jb6 j;have I:=j
   replace j:=aB j
   refine PE.imp (Jtv F N (g.glo J) U l Y .nil Jlu (ha.a X c _ g I) (Yy L) (Jae (noStar j.1)) (by rw[Jbc];exact W2 j.2)) (rd λi H Q z=>z)
 refine⟨pe,Jka pe (λ_=>rfl) λZ S b s e=>?_⟩;obtain⟨m,v,w,e⟩:=Res.bind_eq_ok e;obtain⟨d,S2,e2,e⟩:=Res.bind_eq_ok e;split at e
 .rename_i k l;cases e;exact⟨d,Res.bnd w e2,l⟩
 .cases e
def Jnw(v:Snd C as):ST C (.prim p as):=by
 intro X c x g h;cases x<;>try (exact fx9 h)
 rename_i N i l m;cases N<;>try (exact fx9 h)
 rename_i y U;cases l<;>first|exact fx9 h|(cases i<;>try (exact fx9 h))
 rename_i w i
 replace h:=aB h
 simp only[Aj,beq_iff_eq]at h;obtain⟨⟨⟨rfl,z⟩,Y⟩,a⟩:=h;have A:=g.top.blt _ (Jal Y);have j:(∀x p,w≠ .Starred x p)/\(B4 i X.env).any (·.1)=false:=by
  obtain⟨a0,b0,rfl⟩:=Jb6 a
  replace a:=aB a
  exact⟨noStar a.1,W2 a.2⟩
 have E:∀n H Q,tE X.K C (.prim p as) n H Q->tCB (rP X.K p) (tA X.K C as) n H Q:=λn H Q ⟨ρ,S,Z,d,I,rs,re,e,fin⟩=>by
  obtain⟨o,r,s,e⟩:=Res.bind_eq_ok e;refine⟨ρ,S,Z,o,r,rs,re,s,λt vs H1 f1 r1 q1=>?_⟩;exact⟨t,r,o,d,I,r1,q1,e,λu v2 H2 f2 r2 q2=>fin u v2 H2 (f1.trans f2) r2 q2⟩
 have J:PE X (.Call (.Name (Ac (Wx p)) U) (w::i) [] m) (tE X.K C (.prim p as)):=by
  have hp:=Jth (X:=X) p g.calm;have f:=Jm9 p;unfold X3 at hp f
  by_cases L:Y9 p=true
  .rw[if_pos L]at hp f;exact PE.imp (Jlt hp (g.glo z) A f (v.a X c _ g a) (Jhc p) (Jfo p) (Jae j.1) (by rw[Jbc];exact j.2)) E
  .rw[if_neg L]at hp f;exact PE.imp (Jjk hp (g.glo z) A f (v.a X c _ g a) (Jhc p) (Jfo p) (Jae j.1) (by rw[Jbc];exact j.2)) E
 refine⟨J,Jka J (λ_=>rfl) λZ S b I e=>?_⟩;obtain⟨o,r,s,e⟩:=Res.bind_eq_ok e;obtain⟨d,S2,e2,e⟩:=Res.bind_eq_ok e;split at e
 .rename_i k hk;cases e;exact⟨d,Res.bnd s e2,hk⟩
 .cases e
def Ju3:∀t∈clNames,Dx (Ac t)=some (.type t)/\Ac t≠"__name__"/\(Ac t==("__debug__":Str))=false:=by
 intro t a;simp only[clNames,Am,Bf,or_false]at a;rcases a with rfl|rfl|rfl|rfl<;>exact⟨by kernel_rfl,by decide+kernel,by decide+kernel⟩
def Jsj(z:Snd C a):ST C (.isi a t):=by
 intro X c x g h;obtain⟨⟨⟨p,y⟩,A,i,j,rfl⟩,h⟩:=aO h;dsimp only at h ⊢;simp only[Aj,beq_iff_eq]at h;obtain⟨⟨⟨⟨⟨⟨rfl,E⟩,I⟩,J⟩,L⟩,N⟩,k⟩:=h;have r:t∈clNames:=by simpa using N
 obtain⟨U,Y,b3⟩:=Ju3 t r;have py:PE X (.Name (Ac t) i) (L2.tC (.ty t)):=Jtw (g.glo I) (g.top.blt _ (Jal L)) U rfl Y b3;have pa:PA X [p,.Name (Ac t) i] (Y5 (tE X.K C a) (Y5 (L2.tC (.ty t)) Y3)):=Jby (z.e X c _ g k) (Jby py Jfh rfl) (Jae (noStar k));have s:PE X (.Call (.Name (Ac "isinstance") A) [p,.Name (Ac t) i] [] j) (tE X.K C (.isi a t)):=by
  refine PE.imp (Jjk (Jx4 r) (g.glo E) (g.top.blt _ (Jal J)) (by kernel_rfl) pa (by decide+kernel) (by decide+kernel) (Jae (noStar k)) (by rw[Jbc];rfl)) λσ H Q l=>?_;obtain⟨ρ,S,Z,d,S',rs,re,e,fin⟩:=l;obtain⟨m,u,n,e⟩:=Res.bind_eq_ok e;refine⟨ρ,S,Z,m,u,rs,re,n,λf v1 H1 f1 v q1=>?_⟩;split at e
  .rename_i w o;cases e;exact⟨f,_,m,v1,w,v,rfl,q1,o,fin f _ H1 f1 v (RelD.bl _)⟩
  .cases e
 refine⟨s,Jka s (λ_=>rfl) λZ S b S' e=>?_⟩;obtain⟨m,u,n,e⟩:=Res.bind_eq_ok e;split at e
 .rename_i w o;cases e;exact⟨_,Res.bnd n (by rw[o]),rfl⟩
 .cases e
def Jw9{X:Cx}{T id:String}{name:Str}{o e:Expr}{es:List Expr}{d a:Pos}{l:TE}{r:V->List V->Hp->VK->Prop}{as:M}{c:Ck}{t:TA}
  (w:U1 T)(i:Slot T name id)(j:typeOf (.builtin id)=pure (.type "method_descriptor"))(y:MtR X id r)(z:PE X o l)(A:PA X (e::es) t)
  (E:(!Jcn o)=true)(k:Wj as c (e::es)=true)(hn:(e::es).length<20)(f:(d.endLine==a.line)=true):
  PE X (.Call (.Attribute o name d) (e::es) [] a) (λg H Q=>l g H λx H1=>Tm X T x H1/\t g H1 λxs H2=>r x xs H2 Q):=by
 intro b s g H Q I h;refine wpAny_Call_method_late (Ju6 E) ?_ f rfl (thn (z b s g H _ I h) λv J ⟨x,H1,m,n,L,N⟩=>?_)
 .rw[Jfv _ _ (W2 (env:=X.env) k)];simp only[Mg,Aj,decide_eq_true_eq];exact⟨rfl,by simp only[Fe,List.isEmpty_nil,if_true];lia⟩
 obtain⟨U,Y⟩:=L _ _ _ _ m n;refine⟨T,id,w,i,j,U,Y,?_⟩;have p:=A a b J g H1 _ m N;obtain⟨a0,b0,rfl⟩:=Jb6 k;have u:=aB k;rw[Jae (noStar u.1)]at p ⊢;refine Kx (by show(false||(Ga a (B4 es X.env)).any (·.1))=false;rw[Jbc,W2 u.2]<;>rfl) (Calls.evalArgs_plain ?_);exact thn p λus s2 ⟨vs,H2,I2,r2,q2⟩=>y b s2 g H2 x vs v us Q I2 n r2 q2
def Tm.lst{X:Cx}(h:SqL X.K H a xs):Tm X "list" (.ref a) H:=λb s g v I r=>by
 cases r;obtain⟨d,_,pl,_⟩:=I.list h;refine⟨pl.isList.typeIs,λa e=>?_⟩;cases e;obtain⟨o,n,e,c,f,_⟩:=pl;exact⟨o,e,f⟩
def Tm.dct(h:IsD H a):Tm X "dict" (.ref a) H:=λb s e v I r=>by
 cases r;obtain⟨c,d,_⟩:=Jq9 I h;exact⟨c,d⟩
def Jwk{X:Cx}(hp:isDm p=false)(b:p≠ .get2)(c:p≠ .indexT)(r:RelS X.K ρ S H)(q:RelD X.K ρ H x v)(h:rcv p S x=true)(e:V4 p x ds i=.ok d j):Tm X "list" v H:=by
 have a:∃l,x=.loc l:=by
  clear q h;cases p<;>first|exact absurd rfl b|exact absurd rfl c|(cases x<;>first|exact⟨_,rfl⟩|exact absurd e Jab)
 obtain⟨l,rfl⟩:=a;obtain⟨k,f⟩:=Ci.mp (show(seqAt S l).isSome=true by simpa [rcv,hp]using h);obtain⟨p,m,rfl,a,g,t⟩:=r.lst q (Jao f);exact .lst (SqL.of g)
def Jwl{X:Cx}(hp:isDm p=true)(r:RelS X.K ρ S H)(q:RelD X.K ρ H x v)(h:rcv p S x=true):Tm X "dict" v H:=by
 cases x<;>simp only[rcv,hp]at h<;>try (cases h;done)
 simp only[if_true,Jd]at h;rcases h with z|z
 .obtain⟨b,c⟩:=Ci.mp z;obtain⟨a,d,rfl,_,e,_⟩:=r.dct q (Jez c);exact .dct (.inl ⟨d,.inl e⟩)
 .obtain⟨b,c⟩:=Ci.mp z;obtain⟨a,d,rfl,_,e,_⟩:=r.dtu q (Jcg c);exact .dct (.inr ⟨d,.inl e⟩)
theorem Jnx(ho:Snd C o)(ha:Snd C as):SE C (.meth p o as):=by
 intro X c x g h;cases x<;>try (exact fx9 h)
 rename_i fn es kws pos;cases fn<;>try (exact fx9 h)
 rename_i e0 y ap;cases kws<;>try (exact fx9 h)
 replace h:=aB h
 simp only[Aj,beq_iff_eq,decide_eq_true_eq]at h;obtain⟨⟨⟨⟨⟨⟨rfl,h1⟩,h2⟩,h3⟩,N⟩,h5⟩,h6⟩:=h;have E:(ap.endLine==pos.line)=true:=by simpa using h2
 have go:∀{T:String} {to:TE} {A:D->V->Prop} (_:U1 T) (_:Slot T (Ac (Yg p)) (Yh p)) (_:typeOf (.builtin (Yh p))=pure (.type "method_descriptor")) (_:PE X e0 to)
   (_:∀j H (Q:V->Hp->Prop) b Z S x l,RelS X.K b S H->RelE X.K b H Z j->evE C o Z S=.ok x l->(∀i v H1,Fut X.K b H i H1->RelS X.K i l H1->RelD X.K i H1 x v->A x v->Q v H1)->to j H Q)
   (_:∀b S J H x v m d n,RelS X.K b S H->RelD X.K b H x v->A x v->rcv p S x=true->V4 p x m J=.ok d n->Tm X T v H),
   PE X (.Call (.Attribute e0 (Ac (Yg p)) ap) es [] pos) (tE X.K C (.meth p o as)):=λ{T to A} pa U hty hp ht hT=>by
  have rd:∀{t:TA},(∀j H Q,tA X.K C as j H Q->t j H Q)->∀j H Q,tE X.K C (.meth p o as) j H Q->to j H λx H1=>Tm X T x H1/\t j H1 λxs H2=>rM X.K p x xs H2 Q:=λhq j H Q ⟨b,S,Z,d,n,Y,re,e,fin⟩=>by
   obtain⟨x1,l,e1,e⟩:=Res.bind_eq_ok e;split at e<;>try (exact absurd e Jab)
   rename_i hrc;obtain⟨m,J,e2,e⟩:=Res.bind_eq_ok e;exact ht j H _ b Z S x1 l Y re e1 λi v1 H1 f1 r1 q1 a1=>⟨hT i l J H1 x1 v1 m d n r1 q1 a1 hrc e,hq j H1 _ ⟨i,l,Z,m,J,r1,re.fut f1,e2,λρ2 vs H2 f2 r2 q2=>⟨ρ2,J,x1,m,d,n,r2,q1.fut f2,q2,e,λρ3 v3 H3 f3 r3 q3=>fin ρ3 v3 H3 (f1.trans (f2.trans f3)) r3 q3⟩⟩⟩
  cases es with
  |nil=>
   refine PE.imp (Jq0 pa U hty (Jl2 p g.top.un g.top.np) hp h1 E) (rd (t:=λ_ H Q=>Q [] H) λj H Q ⟨b,S,Z,m,n,Y,re,e,fin⟩=>?_);obtain rfl:=Jeb h5;cases e;exact fin b [] H Fut.refl Y RelDs.nil
  |cons e1 es=>exact PE.imp (Jw9 pa U hty (Jl2 p g.top.un g.top.np) hp (ha.a X c _ g h5) h1 h5 h3 E) (rd λ_ _ _ z=>z)
 have L:∀j H (Q:V->Hp->Prop) b Z S x l,RelS X.K b S H->RelE X.K b H Z j->evE C o Z S=.ok x l->(∀i v H1,Fut X.K b H i H1->RelS X.K i l H1->RelD X.K i H1 x v->True->Q v H1)->tE X.K C o j H Q:=λj H Q b Z S x l Y re e k=>⟨b,S,Z,x,l,Y,re,e,λi v H1 f r q=>k i v H1 f r q trivial⟩
 cases p with
 |append=>exact go Og Qm PySem.F.type_list_append (ho.e X c _ g N) L λb S J H x v m d n r q _=>Jwk rfl nofun nofun r q
 |pop0=>exact go Og Rp PySem.F.type_list_pop (ho.e X c _ g N) L λb S J H x v m d n r q _=>Jwk rfl nofun nofun r q
 |get1=>exact go Hh Hy Pe (ho.e X c _ g N) L λb S J H x v m d n r q _ h _=>Jwl rfl r q h
 |pop1=>exact go Hh Pf PySem.F.type_dict_pop (ho.e X c _ g N) L λb S J H x v m d n r q _ h _=>Jwl rfl r q h
 |get2=>
  refine go Hh Hy Pe (ho.e X c _ g N) L λb S J H x v m d n r q _ _ e=>?_;cases x<;>first|exact absurd e Jab|skip
  obtain⟨a,rfl,kd⟩:=q.kd_inv;intro pins s j v I r;cases r;obtain⟨ob,hob,hx⟩:=kd.obj I.kIn;exact⟨⟨ob,hob,hx.1⟩,λa' e=>by cases e;exact⟨ob,hob,hx.2.1⟩⟩
 |indexT=>
  cases o<;>try (exact fx9 h6)
  rename_i gx;cases e0<;>try (exact fx9 N)
  rename_i y0 p0
  replace N:=aB N
  simp only[Aj,beq_iff_eq]at N;obtain⟨⟨rfl,k2⟩,k3⟩:=N;have eg:∀{x Z S l},evE C (.glb gx) Z S=.ok x l->C.glob gx=some x/\l=S:=λ{x Z S l} e=>by
   rw[Jlm]at e;split at e
   .rename_i d hd;cases e;exact⟨hd,rfl⟩
   .cases e
  cases hg:C.glob gx with
  |none=>
   refine Jtq λj H Q ⟨b,S,Z,d,n,Y,re,e,fin⟩=>?_;obtain⟨x1,l,e1,e⟩:=Res.bind_eq_ok e;rw[hg]at eg;cases(eg e1).1
  |some dg=>
   obtain⟨v,u,hm,r,hr,ht⟩:=g.top.gl gx dg hg;refine go (A:=λx w=>x=dg/\w=v) PySem.F.plainAttrs_tuple N8 PySem.F.type_tuple_index (Jls (g.glo k2) hm r (Yy k3)) (λj H Q b Z S x l Y re e k=>?_) λb S J H x w m d n _ _ a _ e=>?_
   .obtain⟨z,rfl⟩:=eg e;cases hg.symm.trans z;exact k b v H Fut.refl Y (hr b H) ⟨rfl,rfl⟩
   .obtain⟨rfl,rfl⟩:=a;cases x<;>first|exact absurd e Jab|skip
    obtain⟨a,ob,rfl,hk,hc,hdd⟩:=ht _ rfl;intro pins s j v I r;cases r;exact⟨⟨ob,I.kIn a ob hk,hc⟩,λa' e=>by cases e;exact⟨ob,I.kIn a ob hk,hdd⟩⟩
end
section
variable {C:Pr}
def Jss:SE C (.cst d):=by
 intro X c x g h;obtain⟨⟨k,_,_,rfl⟩,h⟩:=aO h;cases d<;>cases eq_of_beq h
 .refine PE.imp Jw5 λf H Q a=>?_;obtain⟨i,S,Z,d,j,b,l,e,fin⟩:=a;cases e;exact fin.now b RelD.non
 .refine PE.imp Jz1 λf H Q a=>?_;obtain⟨i,S,Z,d,j,b,l,e,fin⟩:=a;cases e;exact fin.now b (RelD.bl _)
 .refine PE.imp Jw7 λf H Q a=>?_;obtain⟨i,S,Z,d,j,b,l,e,fin⟩:=a;cases e;exact fin.now b (RelD.int _)
 .refine PE.imp Jw3 λf H Q a=>?_;obtain⟨i,S,Z,d,j,b,l,e,fin⟩:=a;cases e;exact fin.now b (RelD.str _)
def Jr6:ST C (.var i):=by
 intro X c x g h;cases x<;>try (exact fx9 h)
 rename_i y p
 replace h:=aB h
 simp only[Aj,beq_iff_eq]at h;obtain⟨⟨l,m⟩,j⟩:=h;have k:PE X (.Name y p) (tE X.K C (.var i)):=by
  refine PE.imp (Jw1 (i:=i) (by rw[g.N];exact l) (g.vis m) (Yy j) (Wd4 j)) λu H Q a=>?_;obtain⟨w,S,Z,d,n,o,r,e,fin⟩:=a;simp only[Jqt]at e;split at e
  .rename_i z f;cases e;obtain⟨v,s,q⟩:=r.at' i _ f;exact⟨v,s,fin.now o q⟩
  .cases e
 refine⟨k,Jka k (λ_=>rfl) λZ S b n e=>?_⟩;simp only[Jwi]at e;split at e
 .rename_i d f;split at e
  .rename_i A t;cases e;exact⟨d,by simp only[Jqt];rw[f],t⟩
  .cases e
 .cases e
theorem Jso:SE C (.glb n):=by
 intro X c x g h;cases x<;>try (exact fx9 h)
 rename_i y p
 replace h:=aB h
 simp only[Aj,beq_iff_eq]at h;obtain⟨⟨rfl,f⟩,i⟩:=h;cases a:C.glob n with
 |none=>exact Jtq (Jzo λZ S=>by simp only[Jlm];rw[a])
 |some d=>
  obtain⟨v,u,j,r,k,_⟩:=g.top.gl n d a;refine PE.imp (Jls (g.glo f) j r (Yy i)) λo H Q b=>?_;obtain⟨l,S,Z,d,s,m,t,e,fin⟩:=b;simp only[Jlm]at e;rw[a]at e;cases e;exact fin.now m (k l H)
theorem Jv6(z:Snd C a)(L:Snd C b):∀(X:Cx) (c:Ck) (w:Bool) (x:List Expr) (pos:Pos),Gd X C c->Wj (.cns a b) c x=true->PE X (.BoolOp (if w then .And else .Or) x pos) (tBV X.K C w (.cns a b)):=by
 intro X c w x pos g h;cases x with
 |nil=>exact fx9 h
 |cons e o=>
  have U:=h
  replace h:=aB h
  rcases Jrq h.2 with rfl|⟨Y,b',rfl⟩
  .cases o with
   |cons n o=>exact fx9 h.2
   |nil=>
    refine PE.imp (Jw4 (z.e X c e g h.1)) λJ H Q f=>?_;obtain⟨p,S,Z,d,r,s,j,e,fin⟩:=f;exact⟨p,S,Z,d,r,s,j,e,fin⟩
  .cases o with
   |nil=>exact fx9 h.2
   |cons n o=>
    have t:=L.bv X c w (n::o) pos g h.2;cases w with
    |true=>
     refine PE.imp (Jxa (z.e X c e g h.1) t) λJ H Q f=>?_;obtain⟨p,S,Z,d,r,s,j,e,fin⟩:=f;obtain⟨u,v,n,e⟩:=Res.bind_eq_ok e;refine⟨p,S,Z,u,v,s,j,n,λi N H1 l y A=>?_⟩;cases u<;>simp only at e<;>try (cases e;done)
     rename_i k;refine⟨k,A.bl_inv,?_⟩;cases k with
     |true=>
      rw[if_pos rfl]at e ⊢;exact⟨i,v,Z,d,r,y,j.fut l,e,λm E H2 I=>fin m E H2 (l.trans I)⟩
     |false=>
      rw[if_neg Ba]at e ⊢;cases e;exact fin i _ H1 l y (RelD.bl _)
    |false=>
     refine PE.imp (Jzy (z.e X c e g h.1) t) λJ H Q f=>?_;obtain⟨p,S,Z,d,r,s,j,e,fin⟩:=f;obtain⟨u,v,n,e⟩:=Res.bind_eq_ok e;refine⟨p,S,Z,u,v,s,j,n,λi N H1 l y A=>?_⟩;cases u<;>simp only at e<;>try (cases e;done)
     rename_i k;refine⟨k,A.bl_inv,?_⟩;cases k with
     |false=>
      rw[if_pos rfl]at e;rw[if_neg Ba];exact⟨i,v,Z,d,r,y,j.fut l,e,λm E H2 I=>fin m E H2 (l.trans I)⟩
     |true=>
      rw[if_neg (by decide)]at e;rw[if_pos rfl];cases e;exact fin i _ H1 l y (RelD.bl _)
theorem Jv7(E:Snd C a)(N:Snd C b):∀(X:Cx) (c:Ck) (w:Bool) (x:List Expr) (pos:Pos),Gd X C c->Wj (.cns a b) c x=true->PW X (.BoolOp (if w then .And else .Or) x pos) (tBT X.K C w (.cns a b)):=by
 intro X c w x pos g h;cases x with
 |nil=>exact fx9 h
 |cons e r=>
  replace h:=aB h
  rcases Jrq h.2 with rfl|⟨U,Y,rfl⟩
  .cases r with
   |cons p r=>exact fx9 h.2
   |nil=>
    have L:∀i H Q,tBT X.K C w (.cns a .nul) i H Q->tT X.K C a i H Q:=λi H Q ⟨t,S,Z,d,u,v,l,e,fin⟩=>by
     exact⟨t,S,Z,d,u,v,l,e,fin⟩
    cases w with
    |true=>exact λm f s i H Q I q=>Js7 (E.t X c e g h.1) m f s i H Q I (L _ _ _ q)
    |false=>exact λm f s i H Q I q=>Jwp (E.t X c e g h.1) m f s i H Q I (L _ _ _ q)
  .cases r with
   |nil=>exact fx9 h.2
   |cons p r=>
    have y:=N.bt X c w (p::r) pos g h.2;cases w with
    |true=>
     refine λm f s i H Q I q=>Jwq (E.t X c e g h.1) y m f s i H Q I ?_;obtain⟨t,S,Z,d,u,v,l,e,fin⟩:=q;obtain⟨k,z,p,e⟩:=Res.bind_eq_ok e;refine⟨t,S,Z,k,z,v,l,p,λj H1 n A=>?_⟩;cases k with
     |true=>
      rw[if_pos rfl]at e ⊢;exact⟨j,z,Z,d,u,A,l.fut n,e,λo H2 J=>fin o H2 (n.trans J)⟩
     |false=>
      rw[if_neg Ba]at e ⊢;cases e;exact fin j H1 n A
    |false=>
     refine λm f s i H Q I q=>Jzu (E.t X c e g h.1) y m f s i H Q I ?_;obtain⟨t,S,Z,d,u,v,l,e,fin⟩:=q;obtain⟨k,z,p,e⟩:=Res.bind_eq_ok e;refine⟨t,S,Z,k,z,v,l,p,λj H1 n A=>?_⟩;cases k with
     |false=>
      rw[if_pos rfl]at e;rw[if_neg Ba];exact⟨j,z,Z,d,u,A,l.fut n,e,λo H2 J=>fin o H2 (n.trans J)⟩
     |true=>
      rw[if_neg (by decide)]at e;rw[if_pos rfl];cases e;exact fin j H1 n A
def Jv8(m:Snd C as):ST C (.bo w as):=by
 intro X c x g h;have f:∀b a,Wj as c b=true->PE X (.BoolOp (if w then .And else .Or) b a) (tE X.K C (.bo w as))/\PT X (.BoolOp (if w then .And else .Or) b a) (tT X.K C (.bo w as)):=λb a h=>by
  refine⟨PE.imp (m.bv X c w b a g h) λn H Q ⟨i,S,Z,d,j,k,l,e,fin⟩=>?_,PT.imp (m.bt X c w b a g h).pt λn H Q ⟨i,S,Z,d,j,k,l,e,fin⟩=>?_⟩
  .exact⟨i,S,Z,d,j,k,l,e,fin⟩
  .exact⟨i,S,Z,d,j,k,l,e,fin⟩
 cases w<;>cases x<;>try (exact fx9 h)
 all_goals (rename_i o b a;cases o<;>try (exact fx9 h))
 all_goals exact f b a h
def Wdy(K:Ag)(tl:TE):TI:=λc H R=>tl c H λx H1=>∃a,x=.ref a/\(((∃b,SqL K H1 a b)/\R (Itl K a) H1)\/((∃b,SqT K H1 a b)/\R (Itt K a) H1))
def Jwy{X:Cx}(n:PE X l tl):PI X tg l (Wdy X.K tl):=by
 intro f s r H R I h;refine thn (n f s r H _ I h) λv c i=>?_;obtain⟨x,H1,d,t,j⟩:=i;obtain⟨a,e,j⟩:=j;subst e;cases t;rcases j with⟨⟨u,k⟩,q⟩|⟨⟨u,k⟩,q⟩
 .obtain⟨g,w,p,y⟩:=d.list k;refine G3 p.isList ?_;refine⟨c.heap.objs.size,[c.heap.objs.size],_,_,H1,rfl,d.kept (t':=c.toks) λb o e=>Ad _ e,Jk5 a _,⟨_,Ak _ rfl,rfl,rfl⟩,λb m=>?_,q⟩;have e:b=c.heap.objs.size:=by simpa using m
  subst e;exact d.fpOk (Ai _) (d.hok.fresh (Ai _))
 .obtain⟨g,w,p,y⟩:=d.tuple k;refine Kn (show c.heap.IsTuple a g.toArray from p) ?_;refine⟨c.heap.objs.size,[c.heap.objs.size],_,_,H1,rfl,d.kept (t':=c.toks) λb o e=>Ad _ e,Jj4 a _,⟨_,Ak _ rfl,rfl,rfl⟩,λb m=>?_,q⟩;have e:b=c.heap.objs.size:=by simpa using m
  subst e;exact d.fpOk (Ai _) (d.hok.fresh (Ai _))
def Jpb(lo:Int)(n:Nat):ItOk K ρ H (Itr lo n) none ((Cf n).map λ(i:Nat)=>D.int (lo+i))where
 go:=λa c S i d f r s e=>by
  simp only[nth,Ao,Al]at e;obtain⟨j,g,rfl⟩:=e;obtain⟨h,b⟩:=Ae.mp g;simp only[List.getElem_range]at b;subst b;refine⟨(by simpa using h:i<n),λx H2 ⟨k,l⟩=>?_⟩;subst k;refine⟨Fut.refl,r,?_⟩;subst l;exact RelD.int _
 stop:=λa c S f r s=>by
  show n<=_;simp
def Jpc(j:ρ[l]? =some a)(ds:List D):ItOk K ρ H (Itl K a) (some (l,.lst)) ds where
 go:=λg m S i d f r s e=>by
  simp only[nth]at e;split at e
  .rename_i n h;have o:=f.get j;obtain⟨b,c,q⟩:=r.ob l a _ o (Jao h);obtain⟨v,k,p⟩:=q.get e;refine⟨⟨b,v,SqL.of c,k⟩,λx H2 ⟨t,u⟩=>?_⟩;subst t;refine⟨Fut.refl,r,?_⟩;have:=u b (SqL.of c);rw[k]at this;cases this;exact p
  .cases e
 stop:=λg m S f r s=>by
  simp only[sameAt]at s;split at s
  .rename_i n h;obtain⟨b,c,q⟩:=r.ob l a _ (f.get j) h;refine⟨b,SqL.of c,?_⟩;rw[<-q.length];simp only[beq_iff_eq]at s
   lia
  .cases s
def Jpd(j:ρ[l]? =some a)(ds:List D):ItOk K ρ H (Ite true K a) (some (l,.enm)) ds where
 go:=λg m S i d f r s e=>by
  simp only[nth]at e;split at e<;>try (cases e;done)
  rename_i n h;obtain⟨A,o,rfl⟩:=Al.mp e;obtain⟨b,c,q⟩:=r.ob l a _ (f.get j) (Jao h);obtain⟨v,k,t⟩:=q.get o;refine⟨⟨b,v,SqL.of c,k⟩,λx H2 ⟨p,y,hp,u,w,z⟩=>?_⟩;subst u w;have:=z b (SqL.of c);rw[k]at this;cases this;exact⟨Ja2 hp,r.new hp,by simp only[RelD];exact⟨p,_,rfl,.inl Jak,RelDs.cons (by simp only[RelD]) (RelDs.cons (t.fut (Ja2 hp)) RelDs.nil)⟩⟩
 stop:=λg m S f r s=>by
  simp only[sameAt]at s;split at s<;>try (cases s;done)
  rename_i n h;obtain⟨b,c,q⟩:=r.ob l a _ (f.get j) h;exact⟨b,SqL.of c,by rw[<-q.length];exact eq_of_beq s⟩
theorem Jri:∀{ds:List D} {k i:Nat} {d:D},(enD k ds)[i]? =some d->∃x,ds[i]? =some x/\d=.tup [.int (k+i:Nat),x]
 |[],k,i,d,h=>by simp[enD]at h
 |x::r,k,0,d,h=>by simp[enD]at h;exact⟨x,rfl,h.symm⟩
 |x::r,k,i+1,d,h=>by
  simp only[enD,Bq]at h;obtain⟨y,a,b⟩:=Jri h;exact⟨y,by simpa using a,by rw[b,Nat.add_right_comm,Ez]⟩
theorem enD_len:∀(ds:List D) (k:Nat),(enD k ds).length=ds.length
 |[],_=>rfl
 |x::r,k=>by simp[enD,enD_len r]
def Jpe(b:SqT K H a xs)(t:RelDs K ρ H ds xs):ItOk K ρ H (Ite false K a) none (enD 0 ds)where
 go:=λc h S i d f r s e=>by
  obtain⟨o,j,rfl⟩:=Jri (show(enD 0 ds)[i]? =some d from e);rw[Ew];obtain⟨v,g,k⟩:=(t.fut f).get j;refine⟨⟨xs,v,f.tup _ _ b,g⟩,λx H2 ⟨p,y,hp,l,m,n⟩=>?_⟩;subst l m;have:=n xs (f.tup _ _ b);rw[g]at this;cases this;exact⟨Ja2 hp,r.new hp,by simp only[RelD];exact⟨p,_,rfl,.inl Jak,RelDs.cons (by simp only[RelD]) (RelDs.cons (k.fut (Ja2 hp)) RelDs.nil)⟩⟩
 stop:=λc h S f r s=>⟨xs,f.tup _ _ b,by rw[enD_len,t.length]⟩
def Jpa(o:ρ[l]? =some a)(I:SqT K H b ys)(t:RelDs K ρ H ds ys):ItOk K ρ H (Izz K a b ys) (some (l,.zip)) ds where
 go:=λh J S i d f r s e=>by
  simp only[nth]at e;split at e<;>try (cases e;done)
  rename_i L j;split at e<;>try (cases e;done)
  rename_i U Y k m;cases e;obtain⟨c,g,q⟩:=r.ob l a _ (f.get o) (Jao j);obtain⟨v,u,N⟩:=q.get k;obtain⟨w,A,n⟩:=(t.fut f).get m;refine⟨⟨c,v,w,SqL.of g,f.tup _ _ I,u,A⟩,λx H2 ⟨p,y,z,hp,k,m,Q,E⟩=>?_⟩;subst k m;have:=Q c (SqL.of g);rw[u]at this;cases this;rw[A]at E;cases E;exact⟨Ja2 hp,r.new hp,by simp only[RelD];exact⟨p,_,rfl,.inl Jak,RelDs.cons (N.fut (Ja2 hp)) (RelDs.cons (n.fut (Ja2 hp)) RelDs.nil)⟩⟩
 stop:=λh J S f r s=>by
  simp only[sameAt]at s;split at s<;>try (cases s;done)
  rename_i L j;obtain⟨c,g,q⟩:=r.ob l a _ (f.get o) j;exact⟨c,SqL.of g,by rw[<-q.length];exact Nb (eq_of_beq s)⟩
def Jud(g:SqF K H a xs)(t:RelDs K ρ H ds xs):ItOk K ρ H (Itl K a) none ds where
 go:=λc j S i d f r s e=>by
  have b:=(f.fu.sqF g).sq;obtain⟨v,h,k⟩:=(t.fut f).get (show ds[i]? =some d from e);refine⟨⟨xs,v,b,h⟩,λx H2 ⟨l,m⟩=>?_⟩;subst l;refine⟨Fut.refl,r,?_⟩;have:=m xs b;rw[h]at this;cases this;exact k
 stop:=λc j S f r s=>⟨xs,(f.fu.sqF g).sq,by rw[<-t.length];exact Ai _⟩
def Jk9(A:Snd C a):∀(X:Cx) (c:Ck) (tg x:Expr),Gd X C c->Vy a c x=true->PI X tg x (tI X.K C (.cns a .nul)):=by
 intro X c tg x g h;refine PI.imp (Jwy (A.e X c x g h)) λσ H R n=>?_;obtain⟨E,S,Z,gg,I,S',J,L,e,fin⟩:=n;obtain⟨d,N,o,e⟩:=Res.bind_eq_ok e;refine⟨E,S,Z,d,N,J,L,o,λj v1 H1 u m w=>?_⟩;split at e
 .cases e;obtain⟨p,b,rfl,k,t⟩:=w.tup_inv;refine⟨p,rfl,.inr ⟨⟨b,k⟩,fin j H1 _ u m ?_⟩⟩;exact{go:=(λy Q S i d f r s e=>by
       have l:=f.tup _ _ k;obtain⟨v,z,U⟩:=(t.fut f).get (show I[i]? =some d from e);refine⟨⟨b,v,l,z⟩,λx H2 ⟨o,Y⟩=>?_⟩;subst o;refine⟨Fut.refl,r,?_⟩;have:=Y b l;rw[z]at this;cases this;exact U),stop:=λy Q S f r s=>⟨b,f.tup _ _ k,by rw[<-t.length];exact Ai _⟩}
 .cases e;obtain⟨p,b,rfl,k,t⟩:=w.kl_inv;exact⟨p,rfl,.inl ⟨⟨b,k.sq⟩,fin j H1 _ u m (Jud k t)⟩⟩
 .split at e
  .rename_i es he;cases e;obtain⟨p,b,rfl,hl,hx,t⟩:=m.lst w (Jao he);exact⟨p,rfl,.inl ⟨⟨b,SqL.of hx⟩,fin j H1 _ u m (Jpc hl _)⟩⟩
  .cases e
 .cases e
def Jla(l:Snd C a):∀(X:Cx) (c:Ck) (tg x:Expr),Gd X C c->Xw (.rng a) c x=true->PI X tg x (tI X.K C (.rng a)):=by
 intro X c tg x g h;obtain⟨⟨z,A,m,rfl⟩,h⟩:=aO h;simp only[Aj]at h;obtain⟨⟨n,o⟩,f⟩:=h;refine PI.imp (Jlq (g.glo n) (g.top.blt _ (Jal o)) (Jby (l.e X c _ g f) Jfh (Jae (noStar f))) (Jae (noStar f))) λE H R i=>?_;obtain⟨p,S,Z,I,J,L,r,s,e,fin⟩:=i;obtain⟨d,t,u,e⟩:=Res.bind_eq_ok e;refine⟨p,S,Z,d,t,r,s,u,λb N H1 v w y=>?_⟩;split at e
 .rename_i j;split at e
  .rename_i k;simp only[Aj,decide_eq_true_eq]at k;cases e;cases y.int_inv;refine⟨j,rfl,k.1,k.2,fin b H1 _ v w ?_⟩;have:=Jpb (K:=X.K) (ρ:=b) (H:=H1) 0 j.toNat
   simpa only[Int.zero_add]using this
  .cases e
 .cases e
def Jlb(o:Snd C a):∀(X:Cx) (c:Ck) (tg x:Expr),Gd X C c->Xw (.enm a) c x=true->itT (.enm a) tg=true->PI X tg x (tI X.K C (.enm a)):=by
 intro X c tg x g h r;obtain⟨⟨N,Q,s,rfl⟩,h⟩:=aO h;cases tg<;>try (exact fx9 r)
 simp only[Aj]at h;obtain⟨⟨u,v⟩,f⟩:=h;refine PI.imp (Jtm (g.glo u) (g.top.blt _ (Jal v)) (Jby (o.e X c _ g f) Jfh (Jae (noStar f))) (Jae (noStar f))) λU H R i=>?_;obtain⟨w,S,Z,Y,ds,S',y,z,e,fin⟩:=i;obtain⟨d,A,E,e⟩:=Res.bind_eq_ok e;refine⟨w,S,Z,d,A,y,z,E,λb v1 H1 l j m=>?_⟩;split at e<;>try (cases e;done)
 .split at e<;>try (cases e;done)
  rename_i es I;cases e;obtain⟨p,k,rfl,J,L,t⟩:=j.lst m (Jao I);exact⟨p,true,rfl,⟨k,SqL.of L⟩,fin b H1 _ l j (Jpd J _)⟩
 .cases e;obtain⟨p,k,rfl,n,t⟩:=m.tup_inv;exact⟨p,false,rfl,⟨k,n⟩,fin b H1 _ l j (Jpe n t)⟩
def Jk8(z:Snd C a)(A:Snd C b):∀(X:Cx) (c:Ck) (tg x:Expr),Gd X C c->Xw (.zp a b) c x=true->itT (.zp a b) tg=true->PI X tg x (tI X.K C (.zp a b)):=by
 intro X c tg x g h E;cases x<;>try (exact fx9 h)
 rename_i I i j J;cases I<;>try (exact fx9 h)
 rename_i y pp;rcases i with _|⟨e0,_|⟨e1,_|⟨e2,i⟩⟩⟩<;>cases j<;>try (exact fx9 h)
 cases tg<;>try (exact fx9 E)
 replace h:=aB h
 simp only[Aj,beq_iff_eq]at h;obtain⟨⟨⟨⟨rfl,L⟩,N⟩,k⟩,f⟩:=h;refine PI.imp (Jtl (g.glo L) (g.top.blt _ (Jal N)) (Jby (z.e X c _ g k) (Jby (A.e X c _ g f) Jfh (Jae (noStar f))) (Jae (noStar k))) ((Jae (noStar k)).trans (by rw[Jae (noStar f)];rfl)) (Jae (noStar f))) λσ H R l=>?_;obtain⟨Q,S,Z,gg,ds,S',U,o,e,fin⟩:=l;obtain⟨d,r,Y,e⟩:=Res.bind_eq_ok e;obtain⟨d2,S2,q2,e⟩:=Res.bind_eq_ok e;refine⟨Q,S,Z,d,r,U,o,Y,λm v1 H1 s r1 w1=>⟨m,r,Z,d2,S2,r1,o.fut s,q2,λn v2 H2 u v w2=>?_⟩⟩;unfold zpD at e;split at e<;>try (cases e;done)
 split at e<;>try (cases e;done)
 rename_i i he;split at e<;>try (cases e;done)
 cases e;obtain⟨p,xs,rfl,hl,hx,t⟩:=v.lst (w1.fut u) (Jao he);obtain⟨q,ys,rfl,w,t2⟩:=w2.tup_inv;exact⟨p,q,xs,ys,rfl,SqL.of hx,w,fin n H2 _ (s.trans u) v (Jpa hl w t2)⟩
end
section
variable {C:Pr}
def X4:∀{m:M} {c:Ck} {e:Expr},X7 m c e=true->∀x p,e≠ .Starred x p:=by
 intro m c e h x p z;subst z;cases m<;>exact fx9 h
theorem Jre:∀{m:M} {c:Ck} {es:List Expr} {env:Env},Xk m c es=true->(Gq es env).length=es.length/\(Gq es env).findIdx? (·.1)=none:=by
 intro m
 induction m with
 |nul=>intro c es env h;cases es<;>first|exact⟨rfl,rfl⟩|exact fx9 h
 |cns a b _ d=>
  intro c es env h;cases es with
  |nil=>exact fx9 h
  |cons e es=>
   replace h:=aB h
   rw[Jc0 (X4 h.1)];obtain⟨f,g⟩:=d (env:=env) h.2;refine⟨by rw[Bb,Bb,f],?_⟩;rw[List.findIdx?_cons,g];rfl
 |_=>intro c es env h;exact fx9 h
theorem J0i:∀{m:M} {c:Ck} {es:List Expr} {ds:List D} {Z f:En} {S g:Store},Xk m c es=true->evGs C m ds Z S=.ok f g->ds.length=es.length:=by
 intro m
 induction m with
 |nul=>
  intro c es ds Z f S g h e;cases es<;>try (exact fx9 h)
  cases ds<;>simp only[Jik]at e
  .rfl
  .cases e
 |cns a b _ i=>
  intro c es ds Z f S g h e;cases es with
  |nil=>exact fx9 h
  |cons x es=>
   replace h:=aB h
   cases ds with
   |nil=>simp only[Jij]at e;cases e
   |cons d ds=>
    obtain⟨j,k,l,e⟩:=Res.bind_eq_ok e;rw[Bb,Bb,i h.2 e]
 |_=>intro c es ds Z f S g h;exact fx9 h
def Jlc:SG C (.tvar i):=by
 intro X c x g h;cases x<;>try (exact fx9 h)
 rename_i y p
 replace h:=aB h
 simp only[Aj,beq_iff_eq]at h;obtain⟨b,f⟩:=h;obtain⟨j,k⟩:=g.own f;refine PG.imp (Jto (i:=i) g.nd (by rw[g.N];exact b) j k) λv r H Q a=>?_;obtain⟨l,S,Z,d,s,t,m,n,o,e,fin⟩:=a;simp only[Jji]at e;split at e
 .cases e;exact fin l _ H Fut.refl m (n.set o i)
 .cases e
def Jld(f:Snd C i):SG C (.ttup i):=by
 intro X c x g h;cases x<;>try (exact fx9 h)
 rename_i y k p;refine PG.imp (Jwz g.calm (f.gs X c _ g h) (Jre h).1 (Jre h).2) λv z H Q b=>?_;obtain⟨j,S,Z,d,l,m,n,o,r,e,fin⟩:=b;simp only[Jqs]at e;split at e
 .rename_i s;obtain⟨a,u,rfl,w,t⟩:=r.tup_inv;exact⟨a,u,rfl,w,by rw[<-t.length];exact J0i h e,j,S,Z,s,l,m,n,o,t,e,fin⟩
 .cases e
def Jle(L:Snd C a)(N:Snd C b):SG C (.tsub a b):=by
 intro X c x g h;cases x<;>try (exact fx9 h)
 rename_i o i p
 replace h:=aB h
 have k:∀l u t p,i≠ .Slice l u t p:=by
  intro l u t p z;subst z;have m:=h.2;cases b<;>first|(exact fx9 m)|(rename_i d;cases d<;>exact fx9 m)|(rename_i w _;cases w<;>exact fx9 m)
 refine PG.imp (Jw0 (L.e X c _ g h.1) (N.e X c _ g h.2) (Jwc (Gb (Jh (by decide:2<=64) _) g.top.un) g.top.np) (by
  intro v;cases i<;>first|rfl|exact absurd rfl (k _ _ _ _))) λv U H Q ⟨Y,S,Z,d,Z',S',rs,n,rd,e,fin⟩=>?_
 obtain⟨A,E,e1,e⟩:=Res.bind_eq_ok e;obtain⟨I,J,e2,e⟩:=Res.bind_eq_ok e;obtain⟨_,S3,e3,e⟩:=Res.bind_eq_ok e;cases e;refine⟨Y,S,Z,A,E,rs,n,e1,λr v1 H1 s r1 q1=>⟨r,E,Z,I,J,r1,n.fut s,e2,λj v2 H2 y r2 q2=>?_⟩⟩;refine⟨j,J,A,I,d,S',r2,q1.fut y,q2,rd.fut (s.trans y),e3,λH3 f3 r3=>?_⟩;have f:=s.trans (y.trans f3);exact fin j U H3 f r3 (n.fut f)
theorem Jj8(p:Snd C a)(s:Snd C b):∀(X:Cx) (c:Ck) (x:List Expr),Gd X C c->Xk (.cns a b) c x=true->PGs X x (tGs X.K C (.cns a b)):=by
 intro X c x g h;cases x with
 |nil=>exact fx9 h
 |cons e Y=>
  replace h:=aB h
  refine PGs.imp (Joi (p.g X c _ g h.1) (s.gs X c _ g h.2) (by rw[Jc0 (X4 h.1)];rfl)) λvs σ H Q i=>?_;obtain⟨u,S,Z,j,w,y,z,A,E,e,fin⟩:=i;cases j with
  |nil=>simp only[Jij]at e;cases e
  |cons d j=>
   obtain⟨f,n,I,e⟩:=Res.bind_eq_ok e;obtain⟨v,r,rfl,q,t⟩:=E.inv_cons;refine⟨v,r,rfl,u,S,Z,d,f,n,z,A,q,I,λk J H1 o L N=>?_⟩;exact⟨k,n,f,j,w,y,L,N,t.fut o,e,λl m H2 U=>fin l m H2 (o.trans U)⟩
theorem Jj7:∀(X:Cx) (c:Ck) (x:List Expr),Gd X C c->Xk .nul c x=true->PGs X x (tGs X.K C .nul):=by
 intro X c x g h;cases x with
 |cons e m=>exact fx9 h
 |nil=>
  refine PGs.imp Jtn λn f H Q a=>?_;obtain⟨i,S,Z,b,o,p,j,k,l,e,fin⟩:=a;cases b with
  |cons d b=>simp only[Jik]at e;cases e
  |nil=>
   cases e;exact⟨l.inv_nil,fin i f H Fut.refl j k⟩
def Ck.compOk{c:Ck}{N:List String}(g:Gd X C c)(h:c.comp N k keep a=true):Wm X (N.map Ac) k keep a/\(N.map Ac).Nodup:=by
 unfold Ck.comp at h;simp only[Aj,Ed,beq_iff_eq,bne_iff_ne,Jd,decide_eq_true_eq]at h;obtain⟨⟨⟨⟨⟨⟨f,l⟩,m⟩,n⟩,o⟩,p⟩,r⟩:=h;refine⟨⟨f,l,λy b s=>?_,λy b t=>?_,by rw[Ah];exact o,λj i e=>?_⟩,p⟩
 .rcases m y b with z|z
  .exact absurd s z
  .exact z
 .rw[g.names];rcases n y b with(z|z)|z
  .exact absurd t z
  .exact .inl z
  .exact .inr z
 .have d:=(Ae.mp e).1;have:=r j (by simpa using d);rw[e]at this;split at this
  .rename_i w x u v;cases u;simp only[Aj,beq_iff_eq]at this;exact⟨x,v,by rw[g.N];exact this.1,this.2⟩
  .cases this
def Gd.inner{c:Ck}{N:List String}(g:Gd X C c)(h:c.comp N k keep scope=true)(a:Shared)(H:Hp)(d:List Addr)(b:List (Addr×E8)):
  Gd (V0 X (N.map Ac) scope a H d b) C (c.inner N scope):=by
 obtain⟨ok,nd⟩:=Ck.compOk g h;refine⟨rfl,nd,?_,ok.kind,λx=>rfl,g.calm,rfl,g.top⟩;show(relabel scope X.env).names=relab scope.names c.names;unfold relabel relab;show scope.names.map _=scope.names.map _;refine D8 λp hp=>?_;obtain⟨n,q⟩:=p;have e:(X.env.scope.kind==ScopeKind.function)=true:=by rw[g.sk];rfl
 have f:X.env.kindOf n=c.names.lookup n:=by
  show X.env.scope.names.lookup n=_;rw[g.names]
 simp only[e,f,Vb]
def Zq(k:Nat)(τ0 Z:En):Prop:=Z.length=τ0.length/\∀i,k<=i->Z[i]? =τ0[i]?
theorem Juo:∀{m:M},Xo k m=true->(∀{d:D} {τ0 Z c:En} {S f:Store},Zq k τ0 Z->evG C m d Z S=.ok c f->Zq k τ0 c/\f=S)/\(∀{ds:List D} {τ0 Z c:En} {S f:Store},Zq k τ0 Z->evGs C m ds Z S=.ok c f->Zq k τ0 c/\f=S):=by
 intro m
 induction m with
 |tvar i=>
  intro h;have h:=of_decide_eq_true h;refine⟨λ{d τ0 Z c S f} o e=>?_,λ{ds τ0 Z c S f} o e=>?_⟩
  .simp only[Jji]at e;split at e
   .cases e;refine⟨⟨by rw[Fd];exact o.1,λj n=>?_⟩,rfl⟩;rw[A1 (by lia)];exact o.2 j n
   .cases e
  .exact absurd e Jab
 |ttup v p=>
  intro h;refine⟨λ{d τ0 Z c S f} o e=>?_,λ{ds τ0 Z c S f} o e=>?_⟩
  .simp only[Jqs]at e;split at e
   .exact(p h).2 o e
   .cases e
  .exact absurd e Jab
 |nul=>
  intro h;refine⟨λ{d τ0 Z c S f} o e=>?_,λ{ds τ0 Z c S f} o e=>?_⟩
  .exact absurd e Jab
  .cases ds<;>simp only[Jik]at e
   .cases e;exact⟨o,rfl⟩
   .cases e
 |cns a b g l=>
  intro h;have h:=(Aj _ _).mp h;refine⟨λ{d τ0 Z c S f} o e=>?_,λ{ds τ0 Z c S f} o e=>?_⟩
  .exact absurd e Jab
  .cases ds<;>simp only[Jij]at e
   .cases e
   .obtain⟨r,w,s,t⟩:=Res.bind_eq_ok e;obtain⟨u,rfl⟩:=(g h.1).1 o s;exact(l h.2).2 u t
 |_=>intro h;exact fx9 h
abbrev W8(C:Pr)(tg cd el:M):D->En->Store->Res (Option D):=λd c f=>(evG C tg d c f).bind λa g=>(evC C cd a g).bind λb e=>if b then(evE C el a e).bind λy h=>.ok (some y) h else .ok none e
def Jmi(h:(V2 k keep Z)[i]? =some (some d)):k<=i:=by
 unfold V2 at h
 by_cases a:i<k
 .rw[A0 (by simpa using a),Fy,if_pos a]at h;cases h
 .lia
theorem Jpz{ds:List D}{Q:List V->Hp->Prop}(p:Xo k tg=true)(it:ItOk K c H0 J g ds)
  (A:RelS K c S0 H0)(E:RelE K c H0 (V2 k keep τ0) I)(e0:Wr (W8 C tg cd el) g ds ds.length 0 (V2 k keep τ0) S0 []=.ok ys S')(fin:∀ρ H xs,Fut K c H0 ρ H->RelS K ρ S' H->RelDs K ρ H ys xs->Q xs H):
  Zr J (tG K C tg) (tC K C cd) (tE K C el) Q I H0:=by
 refine⟨λi m xs σ H=>∃ρ S a,Fut K c H0 ρ H/\RelS K ρ S H/\RelE K ρ H (V2 k keep τ0) σ/\RelDs K ρ H a xs/\i+m=ds.length/\a.length<=Line/\Wr (W8 C tg cd el) g ds m i (V2 k keep τ0) S a=.ok ys S',⟨ds.length,c,S0,[],Fut.refl,A,E,RelDs.nil,Ew _,Dg _,e0⟩,?_⟩;rintro i m xs σ H ⟨ρ,S,a,f,r,L,n,hi,hl,e⟩;refine⟨by rw[<-n.length,<-Jbd];exact hl,?_⟩;cases m with
 |zero=>
  simp only[Wr]at e;split at e
  .rename_i N;cases e;refine .inl ⟨?_,fin ρ H xs f r n⟩;have:i=ds.length:=by lia
   rw[this];exact it.stop ρ H _ f r N
  .cases e
 |succ m=>
  simp only[Wr]at e;split at e
  .rename_i N;split at e
   .cases e
   .rename_i d hd;obtain⟨U,hy⟩:=it.go ρ H S i d f r N hd;refine .inr ⟨U,λx H' Y=>?_⟩;obtain⟨f0,r,rd⟩:=hy x H' Y
    replace L:=L.fut f0
    replace n:=n.fut f0
    replace f:=f.trans f0
    obtain⟨o,S1,l,e⟩:=Res.bind_eq_ok e;obtain⟨h,S2,eG,l⟩:=Res.bind_eq_ok l;obtain⟨b,S3,eC,l⟩:=Res.bind_eq_ok l;have s:Zq k (V2 k keep τ0) h:=((Juo (C:=C) p).1 (τ0:=V2 k keep τ0) ⟨rfl,λ_ _=>rfl⟩ eG).1;have less:Wcb h (V2 k keep τ0):=⟨s.1.symm,λj d hj=>by rw[s.2 j (Jmi hj)];exact hj⟩
    refine⟨ρ,S,_,d,h,S2,r,L,rd,eG,λρ1 σ1 H1 f1 r1 z=>⟨ρ1,S2,h,b,S3,r1,z,eC,λt H2 u r2=>?_⟩⟩;cases b with
    |true=>
     rw[if_pos rfl]at l ⊢;obtain⟨y,S4,eE,l⟩:=Res.bind_eq_ok l;cases l;simp only at e;split at e
     .rename_i hlt;refine⟨t,S3,h,y,S1,r2,z.fut u,eE,λρ3 v3 H3 f3 r3 q3=>⟨m,Dy m,?_⟩⟩;have v:=f1.trans (u.trans f3);exact⟨ρ3,S1,a++[y],f.trans v,r3,(z.fut (u.trans f3)).less less,(n.fut v).append (RelDs.cons q3 RelDs.nil),by lia,by rw[Ap];exact hlt,e⟩
     .cases e
    |false=>
     rw[if_neg Ba]at l ⊢;cases l;simp only at e;have w:=f1.trans u;exact⟨m,Dy m,t,S1,a,f.trans w,r2,(z.fut u).less less,n.fut w,by lia,hl,e⟩
  .cases e
def Jhm{X:Cx}(a:Xo k tg=true)(h:tE X.K C (.comp N k keep tg it cd el) l H Q):Ya k keep (tI X.K C it) (tG X.K C tg) (tC X.K C cd) (tE X.K C el) l H Q:=by
 obtain⟨m,S,Z,d,U,n,i,e,fin⟩:=h;obtain⟨w,o,p,e⟩:=Res.bind_eq_ok e;obtain⟨Y,S2,r,e⟩:=Res.bind_eq_ok e;cases e;obtain⟨g,s⟩:=w;refine⟨m,S,Z,g,s,o,n,i,p,λt H1 J j u b=>?_⟩;refine Jpz a b u ((i.fut j).inner k keep) r λc H2 xs v x y=>?_;exact Fin.newL (ρ:=c) (λf z A E I L=>fin f z A (j.trans (v.trans E)) I L) x y
def Jnz(m:Snd C tg)(n:Snd C it)(o:Snd C cd)(p:Snd C el):SE C (.comp N k keep tg it cd el):=by
 intro X c x g h;cases x<;>try (exact fx9 h)
 rename_i r d j s;rcases d with _|⟨⟨t,i,J,u⟩,_|⟨g2,d⟩⟩<;>try (exact fx9 h)
 replace h:=aB h
 simp only[Aj,beq_iff_eq]at h;obtain⟨⟨⟨⟨⟨⟨⟨rfl,f⟩,v⟩,w⟩,y⟩,z⟩,A⟩,E⟩:=h;obtain⟨I,l⟩:=n.i X c t i g y E;refine PE.imp (Jtt (Ck.compOk g f).1 g.calm I (λa H e b=>m.g _ _ _ (g.inner f a H e b) w) (λa H e b=>o.cd _ _ _ (g.inner f a H e b) z) (λa H e b=>p.e _ _ _ (g.inner f a H e b) A) l) λL H Q q=>Jhm v q
end
section
variable {C:Pr}
def Jhb(h:Xb e=false):Hj e none n env=pure false:=by
 cases e<;>first|rfl|exact fx9 h.symm
def Jdu(h:Xb e=false):Hj e (some t) n env=pure false:=by
 cases e<;>first|rfl|exact fx9 h.symm
def Jj6:Hj e (some (.Name x p)) n env=pure true\/Hj e (some (.Name x p)) n env=pure false:=by
 have h:∃b,Hj e (some (.Name x p)) n env=pure b:=by
  cases e<;>exact⟨_,rfl⟩
 obtain⟨b,h⟩:=h;cases b
 .exact .inr h
 .exact .inl h
def Jg4(h:∀a b p,t=.Tuple a b p->∀c d f,e≠ .Tuple c d f)(g:∀a p,t≠ .List a p):swappedStores [t] e env=pure none:=by
 cases t<;>first|rfl|exact absurd rfl (g _ _)|skip
 rename_i a b p;cases e<;>first|rfl|exact absurd rfl (h a b p rfl _ _ _)
def Jp4{K:Ag}{t e:M}{D:Ends}{i:L2.St}{H:Hp}(h:tS K C (.asg t e) D i H):Y8 (tE K C e) (tG K C t) D i H:=by
 obtain⟨m,S,Z,w,n,o,j,a,fin⟩:=h;obtain⟨d,k,p,a⟩:=Res.bind_eq_ok a;obtain⟨b,x,r,a⟩:=Res.bind_eq_ok a;cases a;exact⟨m,S,Z,d,k,o,j,p,λc y H1 l s u=>⟨c,k,Z,d,b,n,s,j.fut l,u,r,λf g H2 v=>fin f g H2 (l.trans v)⟩⟩
def Jyt(h:Vy e c (.ListComp f b a pos)=true):∃N k keep mg g i me,e=.comp N k keep mg g i me:=by
 cases e<;>first|exact⟨_,_,_,_,_,_,_,rfl⟩|(exact fx9 h)|(rename_i d;cases d<;>exact fx9 h)|(rename_i w _;cases w<;>exact fx9 h)
def Jys:¬Vy e c (.SetComp f b a pos)=true:=by
 intro h;cases e<;>first|(exact fx9 h)|(rename_i d;cases d<;>exact fx9 h)|(rename_i w _;cases w<;>exact fx9 h)
def Jyu:¬Vy e c (.DictComp k f b a pos)=true:=by
 intro h;cases e<;>first|(exact fx9 h)|(rename_i d;cases d<;>exact fx9 h)|(rename_i w _;cases w<;>exact fx9 h)
def Jsy(ht:Snd C t)(he:Snd C e)(hc:SC C e):SS C (.asg t e):=by
 intro X c x g h;cases x<;>try (exact fx9 h)
 rename_i E v U;rcases E with _|⟨A,_|⟨t2,E⟩⟩<;>try (exact fx9 h)
 replace h:=aB h
 simp only[Aj]at h;obtain⟨⟨l,o⟩,h3⟩:=h;have Y:(Gq [A] X.env).map (·.2)=[assign A X.env]:=by rw[Jc0 (X4 l)];rfl
 have s:∀a p,A≠ .List a p:=by
  intro a p z;subst z;exact Jyx l
 by_cases hn:∃y p,A=.Name y p
 .obtain⟨y,p,rfl⟩:=hn;rcases Jj6 (e:=v) (x:=y) (p:=p) (n:=U.line) (env:=X.env)with hs|hs
  ·
   cases v<;>first|(exact absurd hs (by intro z;cases z))|skip
   ·
    rename_i elt r scope cpos;obtain⟨i,rfl⟩:=Jrp l;obtain⟨N,k,keep,mg,mi,mc,me,rfl⟩:=Jyt o;obtain⟨sg,si,sc,se⟩:=hc;rcases r with _|⟨⟨tt,ii,fs,asy⟩,_|⟨g2,r⟩⟩<;>try (exact fx9 o)
    replace o:=aB o
    simp only[Aj,beq_iff_eq]at o;obtain⟨⟨⟨⟨⟨⟨⟨rfl,Q⟩,k2⟩,k3⟩,k4⟩,k5⟩,k6⟩,k7⟩:=o;obtain⟨pi,fs0⟩:=si.i X c tt ii g k4 k7
    replace l:=aB l
    simp only[Aj,beq_iff_eq]at l;obtain⟨o1,o2⟩:=g.own l.2;refine PS.imp (Jtg (i:=i) (wi:=tI X.K C mi) (g:=tG X.K C mg) (tc:=tC X.K C mc) (te:=tE X.K C me) g.nd (by rw[g.N];exact l.1) o1 o2 hs (Ck.compOk g Q).1 g.calm pi (λf H I j=>sg.g _ _ _ (g.inner Q f H I j) k3) (λf H I j=>sc.cd _ _ _ (g.inner Q f H I j) k5) (λf H I j=>se.e _ _ _ (g.inner Q f H I j) k6) fs0) λD σ H q=>?_;obtain⟨ρ,S,Z,fl,S',rs,J,m,fin⟩:=q;simp only[Js4,Jji,Jqr]at m;obtain⟨d,S1,e1,m⟩:=Res.bind_eq_ok m;obtain⟨τ1,S2,u,m⟩:=Res.bind_eq_ok m;cases m;refine Jhm (N:=N) k2 ⟨ρ,S,Z,d,S1,rs,J,e1,λw v1 H1 L r1 q1=>?_⟩;split at u
    .cases u;exact fin w _ H1 L r1 ((J.fut L).set q1 i)
    .cases u
   .exact absurd o Jys
   .exact absurd o Jyu
  .obtain⟨i,rfl⟩:=Jrp l
   replace l:=aB l
   simp only[Aj,beq_iff_eq]at l;obtain⟨o1,o2⟩:=g.own l.2;refine PS.imp (Jws (i:=i) g.nd (by rw[g.N];exact l.1) o1 (he.e X c _ g o) hs o2) λD σ H q=>?_;obtain⟨ρ,S,Z,fl,S',rs,J,m,fin⟩:=q;simp only[Jji,Jqr]at m;obtain⟨d,S1,e1,m⟩:=Res.bind_eq_ok m;obtain⟨τ1,S2,u,m⟩:=Res.bind_eq_ok m;cases m;refine⟨ρ,S,Z,d,S1,rs,J,e1,λw v1 H1 L r1 q1=>?_⟩;split at u
   .cases u;exact fin w _ H1 L r1 ((J.fut L).set q1 i)
   .cases u
 .have hv:Xb v=false:=by
   cases v<;>first|rfl|(exfalso;cases A<;>first|(exact absurd ⟨_,_,rfl⟩ hn)|(exact fx9 h3))
  refine PS.imp (Jwx (he.e X c _ g o) (ht.g X c _ g l) (by show Hj v (some A) _ _=_;exact Jdu hv) (Jg4 (λa b p z a' b' p' z'=>by subst z;subst z';exact Ba h3) s) Y) λD σ H q=>Jp4 q
def Jsx(j:Snd C e):SS C (.aug i e):=by
 intro X c x g h;cases x<;>try (exact fx9 h)
 rename_i k l v m;cases k<;>try (exact fx9 h)
 cases l<;>try (exact fx9 h)
 replace h:=aB h
 simp only[Aj,beq_iff_eq]at h;obtain⟨⟨n,o⟩,p⟩:=h;obtain⟨r,s⟩:=g.own o;refine PS.imp (Jww (i:=i) g.nd (by rw[g.N];exact n) r (j.e X c _ g p) Jx5 s) λD N H a=>?_;obtain⟨t,S,Z,Q,u,w,b,e,fin⟩:=a;simp only[Jn8]at e;split at e<;>try (cases e;done)
 rename_i x z;obtain⟨y,U,A,e⟩:=Res.bind_eq_ok e;split at e<;>try (cases e;done)
 cases e;obtain⟨v,E,I⟩:=b.at' i _ z;refine⟨v,E,t,S,Z,_,u,w,b,A,λd Y H1 f J L=>⟨x,_,I.int_inv,L.int_inv,?_⟩⟩;exact fin d _ H1 f J ((b.fut f).set (RelD.int _) i)
theorem Jsk(w:Snd C t)(y:Snd C a)(z:Snd C b):SS C (.ifs t a b):=by
 intro X c x g h;cases x<;>try (exact fx9 h)
 replace h:=aB h
 simp only[Aj]at h;refine PS.imp (Jzw (w.t X c _ g h.1.1) (y.b X c _ g h.1.2) (z.b X c _ g h.2)) λD J H o=>?_;obtain⟨A,S,Z,m,p,E,r,e,fin⟩:=o;obtain⟨k,s,I,e⟩:=Res.bind_eq_ok e;refine⟨A,S,Z,k,s,E,r,I,λi H1 n v=>?_⟩;have f:FlOk X.K i H1 m p D:=by
  cases m with
  |nx L=>exact λj l H2 u=>fin j l H2 (n.trans u)
  |rt d=>exact λj l H2 u=>fin j l H2 (n.trans u)
 cases k with
 |true=>exact Wdw ⟨i,s,Z,m,p,v,r.fut n,e,f⟩
 |false=>exact Wdx ⟨i,s,Z,m,p,v,r.fut n,e,f⟩
theorem FlOk.fut{K:Ag}{ρ c:List Addr}{H H1:Hp}{e:Fl}{g:Store}{D:Ends}(fin:FlOk K ρ H e g D)(h:Fut K ρ H c H1):FlOk K c H1 e g D:=by
 cases e with
 |nx i=>exact λa b H2 f=>fin a b H2 (h.trans f)
 |rt d=>exact λa b H2 f=>fin a b H2 (h.trans f)
theorem Jsp(ht:Snd C t)(hi:Snd C i)(hb:Snd C b):SS C (.forr t i b):=by
 intro X c x g h;cases x<;>try (exact fx9 h)
 rename_i tg A body els pos;cases els<;>try (exact fx9 h)
 replace h:=aB h
 simp only[Aj]at h;obtain⟨pi,fs0⟩:=hi.i X c tg A g h.1.1.2 h.2;refine PS.imp (Jwu (by rw[g.xe];exact PassesOwn.never) g.calm pi (ht.g X c _ g h.1.1.1) (hb.b X c _ g h.1.2) fs0) λD N H hq_=>?_;obtain⟨j,S,Z,fl,S',p,r,e,fin⟩:=hq_;obtain⟨w,y,e1,e⟩:=Res.bind_eq_ok e;obtain⟨Q,n⟩:=w;refine⟨j,S,Z,Q,n,y,p,r,e1,λs H0 J E r0 it=>?_⟩;have o:=fin.fut E
 let turn:Mi.D->En->Store->Res Fl:=λd u U=>(evG C t d u U).bind λk S3=>evB C b k S3
 have e:forL turn Q n n.length 0 Z y=.ok fl S':=e;refine⟨λi m N H=>∃j S Z,Fut X.K s H0 j H/\RelS X.K j S H/\RelE X.K j H Z N/\i+m=n.length/\forL turn Q n m i Z S=.ok fl S',⟨n.length,s,y,Z,Fut.refl,r0,r.fut E,Ew _,e⟩,?_⟩;rintro i m N H ⟨j,S,Z,f,p,r,hi,e⟩;cases m with
 |zero=>
  simp only[forL]at e;split at e
  .rename_i hs;cases e;refine .inl ⟨?_,o j N H f p r⟩;have:i=n.length:=by lia
   rw[this];exact it.stop j H _ f p hs
  .cases e
 |succ m=>
  simp only[forL]at e;split at e
  .rename_i hs;split at e
   .cases e
   .rename_i d hd;obtain⟨hgo,hy⟩:=it.go j H S i d f p hs hd;refine .inr ⟨hgo,λI z=>∃a l Y,Fut X.K s H0 a z/\RelS X.K a l z/\RelE X.K a z Y I/\forL turn Q n m (i+1) Y l=.ok fl S',λI z ⟨a,l,Y,a1,a2,a3,a4⟩=>⟨m,Dy m,a,l,Y,a1,a2,a3,by lia,a4⟩,λx z hyl=>?_⟩;obtain⟨E,p,rd⟩:=hy x z hyl
    replace r:=r.fut E
    replace f:=f.trans E
    obtain⟨L,y,e1,e⟩:=Res.bind_eq_ok e;obtain⟨k,U,eG,eB⟩:=Res.bind_eq_ok e1;refine⟨j,S,Z,d,k,U,p,r,rd,eG,λρ1 σ1 H1 f1 r1 q1=>⟨ρ1,U,k,L,y,r1,q1,eB,?_⟩⟩;cases L with
    |nx u=>exact λv σ2 H2 f2 r2 q2=>⟨v,y,u,f.trans (f1.trans f2),r2,q2,e⟩
    |rt d=>
     simp only at e;cases e;exact λv v2 H2 f2 r2 q2=>o v v2 H2 (f.trans (f1.trans f2)) r2 q2
  .cases e
def Jsb(f:Snd C a):SS C (.ret a):=by
 intro X c x g h;cases x<;>try (exact fx9 h)
 rename_i v i;cases v<;>try (exact fx9 h)
 refine PS.imp (Jwt (f.e X c _ g h)) λD n H b=>?_;obtain⟨j,S,Z,o,p,k,l,e,fin⟩:=b;obtain⟨d,r,m,e⟩:=Res.bind_eq_ok e;cases e;exact⟨j,S,Z,d,_,k,l,m,fin⟩
def Jsr(k:Snd C a):SS C (.exp a):=by
 intro X c x g h;cases x<;>try (exact fx9 h)
 replace h:=aB h
 simp only[Aj,Kf]at h;refine PS.imp (Jtf (k.e X c _ g h.1) (Jhb h.2)) λD l H b=>?_;obtain⟨m,S,Z,r,s,n,i,e,fin⟩:=b;obtain⟨d,t,o,e⟩:=Res.bind_eq_ok e;cases e;exact⟨m,S,Z,d,_,n,i,o,λf u H1 j p v=>fin f l H1 j p (i.fut j)⟩
theorem Jlf:∀(X:Cx) (c:Ck) (x:List Stmt),Gd X C c->Xd .nul c x=true->PSs X x (tB' X.K C .nul):=by
 intro X c x g h;cases x with
 |cons s i=>exact fx9 h
 |nil=>
  refine PSs.imp Jte λD j H a=>?_;obtain⟨b,S,Z,k,l,d,f,e,fin⟩:=a;cases e;exact fin b _ H Fut.refl d f
theorem Jlg(m:Snd C a)(n:Snd C b):∀(X:Cx) (c:Ck) (x:List Stmt),Gd X C c->Xd (.cns a b) c x=true->PSs X x (tB' X.K C (.cns a b)):=by
 intro X c x g h;cases x with
 |nil=>exact fx9 h
 |cons s E=>
  replace h:=aB h
  refine PSs.imp (Jod (m.s X c _ g h.1) (n.b X c _ g h.2)) λD I H i=>?_;obtain⟨o,S,Z,p,r,t,u,e,fin⟩:=i;obtain⟨f,l,v,e⟩:=Res.bind_eq_ok e;refine⟨o,S,Z,f,l,t,u,v,?_⟩;cases f with
  |nx j=>exact λk w H1 y z A=>⟨k,l,j,p,r,z,A,e,fin.fut y⟩
  |rt d=>simp only at e;cases e;exact fin
end
section
variable {C:Pr}
def Jny:SE C (.dnil k):=by
 intro X c x g h;cases x<;>try (exact fx9 h)
 rename_i f i o;rcases f with _|⟨k,f⟩<;>rcases i with _|⟨v,i⟩<;>try (exact fx9 h)
 rcases k with _|_|k
 .refine PE.imp Jop λj H Q ⟨b,S,Z,d,l,a,m,e,fin⟩=>?_;cases e;exact fin.newO a λp n=>⟨[],Jak,rfl⟩
 .refine PE.imp Jon λj H Q ⟨b,S,Z,d,l,a,m,e,fin⟩=>?_;cases e;exact fin.newO a λp n=>⟨[],Jak,rfl⟩
 .refine PE.imp Joo λj H Q ⟨b,S,Z,d,l,a,m,e,fin⟩ p hp=>?_;cases e;exact fin (b++[p]) _ _ (Jbe hp [p]) (a.allocO hp ⟨[],Jak,rfl⟩) (by simp only[RelD];exact⟨p,rfl,by rw[<-a.len];simp⟩)
theorem RelKv.perm{κ d:Type}{e:κ->d}{kvs:List (κ×D)}{j f:List (d×V)}(h:RelKv e K ρ H kvs j)(p:f.Perm j):∃c,c.Perm kvs/\RelKv e K ρ H c f:=by
 induction p generalizing kvs with
 |nil=>exact⟨kvs,.refl _,h⟩
 |cons x p n=>
  cases kvs with
  |nil=>cases h
  |cons a kvs=>
   obtain⟨v,k,z,q,t⟩:=h;cases z;obtain⟨o,m,r⟩:=n t;exact⟨a::o,m.cons _,v,_,rfl,q,r⟩
 |swap x y l=>
  rcases kvs with _|⟨a,_|⟨b,kvs⟩⟩
  .cases h
  .obtain⟨v,k,z,q,t⟩:=h;cases t;cases z
  .obtain⟨v,k,z,q,s,u,w,A,t⟩:=h;subst w;cases z;exact⟨b::a::kvs,.swap _ _ _,s,_,rfl,A,v,_,rfl,q,t⟩
 |trans m Q g i=>
  obtain⟨U,E,I⟩:=i h;obtain⟨J,L,N⟩:=g I;exact⟨J,L.trans E,N⟩
theorem Jt6{c d:Type}{l:List (c×d)}(h:(l.map (·.1)).Nodup){a b:c×d}(ha:a∈l)(hb:b∈l)(e:a.1=b.1):a=b:=by
 induction l with
 |nil=>cases ha
 |cons x l g=>
  obtain⟨f,i⟩:=Cp.mp h;rcases Am.mp ha with ha|ha<;>rcases Am.mp hb with hb|hb
  .rw[ha,hb]
  .exact absurd (Bd.mpr ⟨b,hb,ha▸e.symm⟩) f
  .exact absurd (Bd.mpr ⟨a,ha,hb▸e⟩) f
  .exact g i ha hb
def Jsn(k:Snd C a):SE C (.hld a):=by
 intro X c x g h;obtain⟨⟨e,_,_,_,_,_,_,rfl,A,E⟩,h⟩:=aO h;simp only[Aj]at h;obtain⟨⟨⟨⟨I,J⟩,L⟩,N⟩,U⟩:=h;refine PE.imp (Jts g.calm (Gb (Jh (by decide:8<=64) _) g.top.un) (g.glo I) (g.top.blt _ (Jal L)) (g.glo J) (g.top.blt _ (Jal N)) (k.e X c _ g U) (Ju6 A) E) λσ H Q ⟨Y,S,Z,d,S',rs,re,e,fin⟩=>?_;obtain⟨x,S1,e1,e⟩:=Res.bind_eq_ok e;refine⟨Y,S,Z,x,S1,rs,re,e1,λl v1 H1 f1 v q1=>?_⟩;unfold Zl at e;split at e<;>try (cases e;done)
 split at e<;>try (cases e;done)
 rename_i m hk;split at e<;>try (cases e;done)
 rename_i j;cases e;obtain⟨p,ws,rfl,_,w,q⟩:=v.dtu q1 (Jcg hk);have o:=(Jjf w q j).2.2.1;refine⟨p,ws,_,rfl,Jjf w q j,λp' r qs n pm ek sl=>?_⟩;obtain⟨i,pk,s⟩:=q.perm pm;have t:i.map (·.1)=qs:=List.map_inj_right Jfi|>.mp (s.keys.symm.trans ek);rw[<-t]at sl;have e2:i=srD m:=Jxq (f:=λp:Rdu.PK×D=>Rdu.rkP p.1) pk (Ct (R:=λx y=>Rdu.rkP x<=Rdu.rkP y)|>.mp sl) λa k b z h=>(Jt6 o.2 k z (Rdu.Jn7 (o.1 _ (Bd.mpr ⟨a,k,rfl⟩)) (o.1 _ (Bd.mpr ⟨b,z,rfl⟩)) h))
 rw[e2]at s;exact Fin.newO (ρ:=l) (λu v2 H2 f2=>fin u v2 H2 (f1.trans f2)) v (λp n=>⟨r,Jak,s.fut (Jbe n [p])⟩) p' n
def Jsi(l:Snd C a):SE C (.lsp a):=by
 intro X c x g h;obtain⟨⟨e,_,_,_,_,rfl⟩,h⟩:=aO h;simp only[Aj]at h;obtain⟨⟨⟨⟨m,n⟩,o⟩,s⟩,f⟩:=h;refine PE.imp (Jlr g.calm (Gb (Jh (by decide:9<=64) _) g.top.un) (g.glo m) (g.top.blt _ (Jal o)) (g.glo n) (g.top.blt _ (Jal s)) (Jby (l.e X c _ g f) Jfh (Jae (noStar f))) (Jae (noStar f))) λσ H Q ⟨u,S,Z,d,S',w,y,e,fin⟩=>?_;obtain⟨x,z,A,e⟩:=Res.bind_eq_ok e;refine⟨u,S,Z,x,z,w,y,A,λi v1 H1 E j I=>?_⟩;unfold Zd at e;split at e<;>try (cases e;done)
 split at e<;>try (cases e;done)
 rename_i J hp;split at e<;>try (cases e;done)
 rename_i L;cases e;obtain⟨es,N,hp⟩:=O3.mp hp;obtain⟨p,xs,rfl,_,U,t⟩:=j.lst I (Jao N);obtain⟨bs,rfl,Y⟩:=Jgp (g:=V.ref) (R:=λ(k:Rdu.PK) b=>SqT X.K H1 b ((pK k).map kV)) (λ{d b v} r e=>by
  cases Jf9 e;obtain⟨a,eb,h⟩:=Jf5 g.top.np r;exact⟨a,eb,SqT.of h⟩) t hp
 exact⟨p,bs,J,rfl,SqL.of U,Y,L,fin i _ H1 E j (RelD.int _)⟩
def Jmf(h:Xj S l c=some a):S[l]? =some (.ins c a):=by
 unfold Xj at h;split at h
 .rename_i f b e;split at h
  .rename_i d;cases h;rw[e,d]
  .cases h
 .cases h
def RelS.ins(rs:RelS K ρ S H)(r:RelD K ρ H (.loc l) x)(h:Xj S l c=some g):
  ∃a Ca d b,x=.ref a/\ρ[l]? =some a/\Bz K Bg (Ac c)=some (some (.ref Ca))/\H a=some (.ins Ca d b)/\Wz K ρ H g b:=by
 obtain⟨a,rfl,f⟩:=r.loc_inv;obtain⟨Ca,d,b,n,e,q⟩:=rs.ob l a _ f (Jmf h);exact⟨a,Ca,d,b,rfl,f,n,e,q⟩
def Je5{X:Cx}(b:Z0 e0=true):∀a,attributeBase e0 a X.env (eval e0 X.env)=eval e0 X.env:=λa=>by
 cases e0<;>first|rfl|exact fx9 b
def Jsq(p:Snd C a):SE C (.fld r f a):=by
 intro X c x g h;cases x<;>try (exact fx9 h)
 rename_i e0 y s
 replace h:=aB h
 simp only[Aj,beq_iff_eq]at h;obtain⟨⟨⟨rfl,t⟩,u⟩,v⟩:=h;obtain⟨Ca,w,A,E⟩:=g.top.fds r f (by simpa using u);refine PE.imp (Jw8 (p.e X c _ g v) (Je5 t _)) λσ H Q j=>?_;obtain⟨I,S,Z,d,S',J,L,e,fin⟩:=j;obtain⟨N,U,Y,e⟩:=Res.bind_eq_ok e;refine⟨I,S,Z,N,U,J,L,Y,λk v1 H1 f1 m q1=>?_⟩;split at e<;>try (exact absurd e Jab)
 rename_i d' i;cases e;unfold Yr at i;split at i<;>try (cases i;done)
 rename_i l;split at i<;>try (cases i;done)
 rename_i fs hi;obtain⟨b,Cb,dx,ws,rfl,hl,n,eb,q⟩:=m.ins q1 hi;rw[w]at n;cases n;rcases q.look f with⟨z,_⟩|⟨d2,o,z1,z2,z3⟩
 .rw[z]at i;cases i
 .rw[z1]at i;cases i;exact⟨b,_,dx,ws,o,rfl,eb,A,E,z2,fin k o H1 f1 m z3⟩
def Jr9(Q:Snd C o)(U:Snd C v):SS C (.sfd Y f o v):=by
 intro X c x g h;cases x<;>try (exact fx9 h)
 rename_i a w pos;rcases a with _|⟨tg,a⟩<;>try (exact fx9 h)
 cases tg<;>try (exact fx9 h)
 rename_i e0 y p0;rcases a with _|⟨t2,a⟩<;>try (exact fx9 h)
 replace h:=aB h
 simp only[Aj,beq_iff_eq,Kf]at h;obtain⟨⟨⟨⟨rfl,h1⟩,h2⟩,h3⟩,h4⟩:=h;obtain⟨j,u,hc,hn⟩:=g.top.fds Y f (by simpa using h2);refine PS.imp (Jwv (Q.e X c _ g h3) (U.e X c _ g h4) (Jdu h1)) λD σ H p=>?_;obtain⟨ρ,S,Z,fl,S',rs,r,e,fin⟩:=p;obtain⟨y1,A,e1,e⟩:=Res.bind_eq_ok e;obtain⟨x1,S2,e2,e⟩:=Res.bind_eq_ok e;refine⟨ρ,S,Z,y1,A,rs,r,e1,λs v1 H1 E r1 q1=>⟨s,A,Z,x1,S2,r1,r.fut E,e2,λi v2 H2 I J q2=>?_⟩⟩;split at e<;>try (exact absurd e Jab)
 rename_i S3 d;cases e;unfold Zv at d;split at d<;>try (cases d;done)
 rename_i l;split at d<;>try (cases d;done)
 rename_i fs hi;split at d<;>try (cases d;done)
 rename_i hl;cases d;obtain⟨b,Cb,k,m,rfl,hb,n,L,q⟩:=J.ins q2 hi;rw[u]at n;cases n;have t:Fut X.K i H2 i (upd H2 b (.ins j k (Wn (Ac f) v1 m))):=Jev (o0:=.ins j k m) L (λ_ z=>by cases z) (λ_ _ z=>by cases z);refine⟨b,j,k,m,rfl,L,hc,hn,by rw[<-q.length];exact hl,?_⟩;have N:=E.trans (I.trans t);exact fin i σ _ N (J.setO (o0:=.ins j k m) hb t ⟨j,k,_,u,Jak,(q.put f (q1.fut I)).fu t.fu⟩) (r.fut N)
theorem Jl0{X:Cx}{ap pos:Pos}{es:List Expr}(b:attributeBase e0 m X.env (eval e0 X.env)=eval e0 X.env)(c:Qe (es.length+([]:List Vo).length) (Ga pos (B4 es X.env)) (N6 pos (K3 [] X.env))=true)
  (d:(ap.endLine==pos.line)=true):eval (.Call (.Attribute e0 m ap) es [] pos) X.env=(do
   let a<-eval e0 X.env
   N2 ap.atName
   let(f,first)<-holding [a] (getMethod a m (do return (<-importBound e0 X.env).getD true))
   callWith pos f first (Ga pos (B4 es X.env)) (N6 pos (K3 [] X.env))):=by
 show(do
  let a<-attributeBase e0 m X.env (eval e0 X.env)
  N2 ap.atName
  methodCall e0 m ap pos X.env a (es.length+([]:List Vo).length) (Ga pos (B4 es X.env)) (N6 pos (K3 [] X.env)))=_
 rw[b];unfold methodCall calleeOf methodCallPos;rw[c,d];rfl
def Jsg(ho:Snd C o)(ha:Snd C as):ST C (.mcl E m f o as):=by
 intro X c x g h;cases x<;>try (exact fx9 h)
 rename_i fn p I j;cases fn<;>try (exact fx9 h)
 rename_i e0 y ap;cases I<;>try (exact fx9 h)
 replace h:=aB h
 simp only[Aj,beq_iff_eq,decide_eq_true_eq]at h;obtain⟨⟨⟨⟨⟨⟨rfl,h1⟩,J⟩,hfw⟩,h2⟩,h3⟩,s⟩:=h;obtain⟨k,a,fd,ps,Ca,L,n0,hc,hm,F,hb⟩:=g.top.mts E m f (by simpa using h2);have hr:=L.mono (Lv k);have rd:∀{t:TA},(∀r H Q,tA X.K C as r H Q->t r H Q)->∀r H Q,tE X.K C (.mcl E m f o as) r H Q->Y4 Ca (Ac m) (spM X.K C f) [] E0 (tE X.K C o) t r H Q:=λ{t} ht r H Q ⟨N,S,Z,d,U,Y,re,e,fin⟩=>by
  obtain⟨x1,S1,e1,e⟩:=Res.bind_eq_ok e;split at e<;>try (exact absurd e Jab)
  rename_i i;obtain⟨A,S2,e2,e⟩:=Res.bind_eq_ok e;refine⟨N,S,Z,x1,S1,Y,re,e1,λρ1 v1 H1 f1 r1 q1=>?_⟩;unfold isRec at i;split at i<;>try (cases i;done)
  rename_i l;split at i<;>try (cases i;done)
  rename_i fs hi;obtain⟨b,Cb,dx,ws,rfl,hl,n,eb,q⟩:=r1.ins q1 hi;rw[n0]at n;cases n;have hno:ws.lookup (Ac m)=none:=by
   rcases q.look m with⟨_,z⟩|⟨d2,v2,z1,_,_⟩
   .exact z
   .rw[z1]at i;cases i
  refine⟨b,dx,ws,rfl,eb,hno,ht r H1 _ ⟨ρ1,S1,Z,A,S2,r1,re.fut f1,e2,λρ2 vs H2 f2 r2 q2=>?_⟩⟩;show spM X.K C f (_::(vs++[])) H2 Q E0;rw[Dq];exact⟨ρ2,S2,.loc _::A,d,U,r2,RelDs.cons (q1.fut f2) q2,e,λρ3 v3 H3 f3 r3 q3=>fin ρ3 v3 H3 (f1.trans (f2.trans f3)) r3 q3⟩
 have u:Qe (p.length+([]:List Vo).length) (Ga j (B4 p X.env)) (N6 j (K3 [] X.env))=true:=by
  unfold Qe;have v:(Ga j (B4 p X.env)).all (λx=> !x.1)=true:=Jfv _ _ (W2 (env:=X.env) s);rw[show(Ga j (B4 p X.env)).all (!·.1)=true from v];simp only[Mg,Aj,decide_eq_true_eq];exact⟨rfl,by show p.length+0+0<30;lia⟩
 have w:=Jl0 (X:=X) (e0:=e0) (m:=Ac m) (ap:=ap) (pos:=j) (es:=p) (Je5 h1 _) u (by simpa using J);have pe:PE X (.Call (.Attribute e0 (Ac m) ap) p [] j) (tE X.K C (.mcl E m f o as)):=by
  cases p with
  |nil=>
   refine PE.imp (Jok (ho.e X c _ g h3) hc hm F hr hb .nil Jlu w) (rd λr H Q ⟨N,S,Z,A,U,Y,re,e,fin⟩=>?_);obtain rfl:=Jeb s;cases e;exact fin N [] H Fut.refl Y RelDs.nil
  |cons e p=>
   obtain⟨a0,b0,rfl⟩:=Jb6 s;have h4':=s
   replace s:=aB s
   refine PE.imp (Jtr (ho.e X c _ g h3) hc hm F hr hb .nil Jlu (ha.a X c _ g h4') (Jae (noStar s.1)) (by rw[Jbc];exact W2 s.2) w) (rd λr H Q z=>z)
 refine⟨pe,Jka pe (λ_=>rfl) λZ S b U e=>?_⟩;obtain⟨x1,S1,e1,e⟩:=Res.bind_eq_ok e;split at e<;>try (exact absurd e Jab)
 rename_i i;obtain⟨A,S2,e2,e⟩:=Res.bind_eq_ok e;obtain⟨d,S3,e3,e⟩:=Res.bind_eq_ok e;split at e
 .rename_i k hk;cases e;exact⟨d,Res.bnd e1 (by rw[if_pos i];exact Res.bnd e2 e3),hk⟩
 .cases e
def Jse:SE C (.new m f):=by
 intro X c x g h;obtain⟨⟨_,p,z,rfl⟩,n⟩:=aO h;obtain⟨n,A⟩:=aB n;obtain⟨E,I⟩:=aB n;obtain⟨k,a,fd,ps,o,J,L,N,U,F,Y⟩:=g.top.nws m f (by simpa using A);refine PE.imp (Jol U F J (g.glo E) N Y .nil Jlu (Yy I)) λσ H Q s=>?_;obtain⟨i,S,Z,d,S',v,re,e,fin⟩:=s;obtain⟨r,S1,e1,e⟩:=Res.bind_eq_ok e;split at e<;>try (exact absurd e Jab)
 cases e;intro x b hx j t;have f1:Fut X.K i H i (upd H b (.own x)):=Ja2 j;have l:(upd H b (.own x)) x=none:=by rw[Jad (Ef t)];exact hx
 have f2:Fut X.K i (upd H b (.own x)) (i++[x]) (upd (upd H b (.own x)) x (.ins o b [])):=Jbe l [x];have r2:RelS X.K (i++[x]) (S++[.ins m []]) (upd (upd H b (.own x)) x (.ins o b [])):=(v.new j).allocO l ⟨o,b,[],L,Jak,rfl⟩;have w:(i++[x])[S.length]? =some x:=by rw[<-v.len];simp
 refine⟨i++[x],S++[.ins m []],[.loc S.length],.non,S',r2,RelDs.cons (by simp only[RelD];exact⟨x,rfl,w⟩) RelDs.nil,e1,λu v3 H3 y r3 q3=>⟨q3.non_inv,?_⟩⟩;refine fin u _ H3 (f1.trans (f2.trans y)) r3 ?_;simp only[RelD];exact⟨x,rfl,y.get w⟩
def Jsa:SS C .rse:=by
 intro X c x g h b s d H D I a;obtain⟨f,S,Z,i,j,k,l,e,fin⟩:=a;exact absurd e Jab
end
noncomputable def kd:M->Nat
 |.nul=>0|.cns _ _=>0
 |.rng _=>2|.enm _=>2|.zp _ _=>2
 |.tvar _=>3|.ttup _=>3|.tsub _ _=>3
 |.asg _ _=>4|.aug _ _=>4|.ifs _ _ _=>4|.forr _ _ _=>4|.ret _=>4|.exp _=>4|.rse=>4|.sfd _ _ _ _=>4
 |_=>1
def Yv(h:Vy m c x=true):kd m=1:=by
 cases m<;>first|rfl|(exact fx9 h)
def Wap(h:Wj m c x=true):kd m=0:=by
 cases m<;>first|rfl|(exact fx9 h)
def Wdd(h:Zp m c x=true):kd m=0:=by
 cases m<;>first|rfl|(exact fx9 h)
def Wdf(h:Z2 m c x=true):kd m=0:=by
 cases m<;>first|rfl|(exact fx9 h)
def Wde(h:Xw m c x=true):kd m=0\/kd m=2:=by
 cases m<;>first|exact .inl rfl|exact .inr rfl|(exact fx9 h)|(cases x<;>exact fx9 h)
def Wao(h:X7 m c x=true):kd m=3:=by
 cases m<;>first|rfl|(exact fx9 h)|(cases x<;>exact fx9 h)
def J0b(h:Xk m c x=true):kd m=0:=by
 cases m<;>first|rfl|(exact fx9 h)
def Wan(h:Waz m c x=true):kd m=4:=by
 cases m<;>first|rfl|(exact fx9 h)|(cases x<;>exact fx9 h)
def Wdg(h:Xd m c x=true):kd m=0:=by
 cases m<;>first|rfl|(exact fx9 h)
section
variable {C:Pr}
def Snd.of(d:kd m≠0)(f:kd m=1->SE C m/\∀(X:Cx) (c:Ck) (x:Expr),Gd X C c->Vy m c x=true->PT X x (tT X.K C m))(j:kd m=2->∀(X:Cx) (c:Ck) (tg x:Expr),Gd X C c->Xw m c x=true->itT m tg=true->PI X tg x (tI X.K C m)/\∀v,Dp x X.env v=pure v)(k:kd m=3->SG C m)(l:kd m=4->SS C m):Snd C m where
 e X c x g h:=(f (Yv h)).1 X c x g h
 t X c x g h:=(f (Yv h)).2 X c x g h
 a X c x g h:=absurd (Wap h) d
 bv X c w x p g h:=absurd (Wap h) d
 bt X c w x p g h:=absurd (Wap h) d
 o X c x g h:=absurd (Wdd h) d
 cd X c x g h:=absurd (Wdf h) d
 i X c tg x g h:=(Wde h).elim (λz=>absurd z d) λz=>j z X c tg x g h
 g X c x g h:=k (Wao h) X c x g h
 gs X c x g h:=absurd (J0b h) d
 s X c x g h:=l (Wan h) X c x g h
 b X c x g h:=absurd (Wdg h) d
def nk{p:Prop}(a:kd m=i)(h:i≠j:=by decide)(z:kd m=j):p:=absurd (a.symm.trans z) h
def Snd.ofE(d:kd m=1)(f:SE C m)(h:∀(X:Cx) (c:Ck) (x:Expr),Gd X C c->Vy m c x=true->PT X x (tT X.K C m)):Snd C m:=.of (nk d) (λ_=>⟨f,h⟩) (nk d) (nk d) (nk d)
def Snd.ofX(d:kd m=1)(h:ST C m):Snd C m:=.ofE d (λX c x g k=>(h X c x g k).1) λX c x g k=>(h X c x g k).2
def Snd.ofN(d:kd m=1)(f:∀Z S,evT C m Z S=.bad)(h:SE C m):Snd C m:=.ofE d h λX c x _ _=>Jzv (Jzm f)
def Snd.ofI(d:kd m=2)(f:∀(X:Cx) (c:Ck) (tg x:Expr),Gd X C c->Xw m c x=true->itT m tg=true->PI X tg x (tI X.K C m)/\∀v,Dp x X.env v=pure v):Snd C m:=.of (nk d) (nk d) (λ_=>f) (nk d) (nk d)
def Snd.ofG(d:kd m=3)(f:SG C m):Snd C m:=.of (nk d) (nk d) (nk d) (λ_=>f) (nk d)
def Snd.ofS(d:kd m=4)(f:SS C m):Snd C m:=.of (nk d) (nk d) (nk d) (nk d) λ_=>f
def Jsc:Snd C .nul where
 e:=λX c x g h=>absurd (Yv h) (by decide)
 t:=λX c x g h=>absurd (Yv h) (by decide)
 a:=λX c x g h=>by
  cases x with
  |cons e u=>exact fx9 h
  |nil=>
   refine PA.imp Jfh λk H Q d=>?_;obtain⟨f,S,Z,l,m,j,n,e,fin⟩:=d;cases e;exact fin f [] H Fut.refl j RelDs.nil
 bv:=λX c w x p g h=>Jtq λk H Q ⟨f,S,Z,l,m,j,n,e,fin⟩=>absurd e Jab
 bt:=λX c w x p g h=>λv r s k H Q I ⟨f,S,Z,l,m,j,n,e,fin⟩=>absurd e Jab
 o:=λX c x g h=>by
  cases x with
  |some e=>exact fx9 h
  |none=>
   refine PO.imp Jtk λk H Q d=>?_;obtain⟨f,S,Z,l,m,j,n,e,fin⟩:=d;cases e;exact fin f H Fut.refl j
 cd:=λX c x g h=>by
  cases x with
  |cons e u=>exact fx9 h
  |nil=>
   refine PTs.imp Jtc λk H Q d=>?_;obtain⟨f,S,Z,l,m,j,n,e,fin⟩:=d;cases e;exact fin f H Fut.refl j
 i:=λX c y x g h _=>by cases h
 g:=λX c x g h=>absurd (Wao h) (by decide)
 gs:=Jj7
 s:=λX c x g h=>absurd (Wan h) (by decide)
 b:=Jlf
def Jst(f:Snd C a)(l:Snd C b):Snd C (.cns a b)where
 e:=λX c x g h=>absurd (show 0=1 from Yv h) (by decide)
 t:=λX c x g h=>absurd (show 0=1 from Yv h) (by decide)
 a:=λX c x g h=>by
  cases x with
  |nil=>exact fx9 h
  |cons e J=>
   replace h:=aB h
   refine PA.imp (Jby (f.e X c e g h.1) (l.a X c J g h.2) (Jae (noStar h.1))) λE H Q d=>?_;obtain⟨m,S,Z,ds,p,n,k,e,fin⟩:=d;obtain⟨r,u,w,e⟩:=Res.bind_eq_ok e;obtain⟨L,S2,N,e⟩:=Res.bind_eq_ok e;cases e;refine⟨m,S,Z,r,u,n,k,w,λj U H1 v y z=>⟨j,u,Z,L,p,y,k.fut v,N,λA vs H2 I Y q2=>?_⟩⟩;exact fin A _ H2 (v.trans I) Y (RelDs.cons (z.fut I) q2)
 bv:=Jv6 f l
 bt:=Jv7 f l
 o:=λX c x g h=>by
  obtain⟨e,rfl,rfl⟩:=Jyv h
  .refine PO.imp (Jtj (f.e X c e g h)) λE H Q d=>?_;obtain⟨m,S,Z,o,p,n,k,e,fin⟩:=d;obtain⟨r,u,w,e⟩:=Res.bind_eq_ok e;refine⟨m,S,Z,r,u,n,k,w,λj U H1 v y z=>?_⟩;cases r<;>simp only at e<;>try (cases e;done)
   cases e;exact⟨_,z.int_inv,fin j H1 v y⟩
 cd:=λX c x g h=>by
  obtain⟨e,rfl,rfl⟩:=Jyy h;refine PTs.imp (Jtb (f.t X c e g h)) λE H Q d=>?_;obtain⟨m,S,Z,o,p,n,k,e,fin⟩:=d;exact⟨m,S,Z,o,p,n,k,e,fin⟩
 i:=λX c tg x g h _=>by
  obtain rfl:=Jyw h;exact⟨Jk9 f X c tg x g h,Xm (Wbn h)⟩
 g:=λX c x g h=>absurd (show 0=3 from Wao h) (by decide)
 gs:=Jj8 f l
 s:=λX c x g h=>absurd (show 0=4 from Wan h) (by decide)
 b:=Jlg f l
theorem snd(C:Pr):∀m:M,Snd C m/\SC C m:=by
 intro m
 induction m with
 |nul=>exact⟨Jsc,trivial⟩
 |cns a b j n=>exact⟨Jst j.1 n.1,trivial⟩
 |cst d=>exact⟨.ofN rfl (λ_ _=>rfl) Jss,trivial⟩
 |var i=>exact⟨.ofX rfl (Jr6),trivial⟩
 |glb x=>exact⟨.ofN rfl (λ_ _=>rfl) Jso,trivial⟩
 |bin o a b j n=>exact⟨.ofN rfl (λ_ _=>rfl) (Jsw j.1 n.1),trivial⟩
 |neg a j=>exact⟨.ofN rfl (λ_ _=>rfl) (Jsf j.1),trivial⟩
 |bit a j=>exact⟨.ofN rfl (λ_ _=>rfl) (Jsv j.1),trivial⟩
 |nott a j=>exact⟨.ofX rfl (Jsd j.1),trivial⟩
 |bo w as j=>exact⟨.ofX rfl (Jv8 j.1),trivial⟩
 |cmp o a b j n=>exact⟨.ofX rfl (Jsu j.1 n.1),trivial⟩
 |cmp2 o p a b d j n L=>exact⟨.ofX rfl (Jn0 j.1 n.1 L.1),trivial⟩
 |ife t a b r j n=>exact⟨.ofN rfl (λ_ _=>rfl) (Jsl r.1 j.1 n.1),trivial⟩
 |tup as j=>exact⟨.ofN rfl (λ_ _=>rfl) (Jr7 j.1),trivial⟩
 |lst as j=>exact⟨.ofN rfl (λ_ _=>rfl) (Jsh j.1),trivial⟩
 |idx a b j n=>exact⟨.ofX rfl (Jsm j.1 n.1),trivial⟩
 |sli a l u j Q U=>exact⟨.ofN rfl (λ_ _=>rfl) (Jr8 j.1 Q.1 U.1),trivial⟩
 |call f as j=>exact⟨.ofX rfl (Jn1 j.1),trivial⟩
 |prim p as j=>exact⟨.ofX rfl (Jnw j.1),trivial⟩
 |isi a t j=>exact⟨.ofX rfl (Jsj j.1),trivial⟩
 |meth p o as A j=>exact⟨.ofN rfl (λ_ _=>rfl) (Jnx A.1 j.1),trivial⟩
 |comp N k H y it cd el I E J s=>exact⟨.ofN rfl (λ_ _=>rfl) (Jnz I.1 E.1 J.1 s.1),I.1,E.1,J.1,s.1⟩
 |rng a j=>exact⟨.ofI rfl λX c y x g h _=>⟨Jla j.1 X c y x g h,Xm λa b p z=>by subst z;cases h⟩,trivial⟩
 |enm a j=>exact⟨.ofI rfl λX c y x g h r=>⟨Jlb j.1 X c y x g h r,Xm λa b p z=>by subst z;cases h⟩,trivial⟩
 |zp a b j n=>exact⟨.ofI rfl λX c y x g h r=>⟨Jk8 j.1 n.1 X c y x g h r,Xm λa b p z=>by subst z;cases h⟩,trivial⟩
 |dnil k=>exact⟨.ofN rfl (λ_ _=>rfl) Jny,trivial⟩
 |hld a j=>exact⟨.ofN rfl (λ_ _=>rfl) (Jsn j.1),trivial⟩
 |lsp a j=>exact⟨.ofN rfl (λ_ _=>rfl) (Jsi j.1),trivial⟩
 |aug i e s=>exact⟨.ofS rfl (Jsx s.1),trivial⟩
 |fld c f a j=>exact⟨.ofN rfl (λ_ _=>rfl) (Jsq j.1),trivial⟩
 |mcl c m f o as A j=>exact⟨.ofX rfl (Jsg A.1 j.1),trivial⟩
 |new c f=>exact⟨.ofN rfl (λ_ _=>rfl) Jse,trivial⟩
 |rse=>exact⟨.ofS rfl Jsa,trivial⟩
 |sfd c f o v A Y=>exact⟨.ofS rfl (Jr9 A.1 Y.1),trivial⟩
 |tvar i=>exact⟨.ofG rfl Jlc,trivial⟩
 |ttup ts j=>exact⟨.ofG rfl (Jld j.1),trivial⟩
 |tsub a b j n=>exact⟨.ofG rfl (Jle j.1 n.1),trivial⟩
 |asg t e r s=>exact⟨.ofS rfl (Jsy r.1 s.1 s.2),trivial⟩
 |ifs t a b r j n=>exact⟨.ofS rfl (Jsk r.1 j.1 n.1),trivial⟩
 |forr t i b r E n=>exact⟨.ofS rfl (Jsp r.1 E.1 n.1),trivial⟩
 |ret a j=>exact⟨.ofS rfl (Jsb j.1),trivial⟩
 |exp a j=>exact⟨.ofS rfl (Jsr j.1),trivial⟩
end
def Cn(T:Tb)(G:String->Option D)(W n:Nat):Pr:=⟨callN T G W n,G,W⟩
def nN(f:Fn)(s:Stmt):List Str:=f.N.map λi=>(((defScope s).names.filter λx=>x.2== .local||x.2== .cell).map (·.1)).getD i ""
structure FnB(K:Ag)(T:Tb)(B F:List String)(O:Ow)(f:String)(a:Addr)(fd:Iq):Prop where
 ex:∃(FN:Fn) (st:Stmt) (nm ql:Str),T f=some FN/\Fun K nm ql st a fd/\Ws (nN FN st) (FN.ps.map Ac) (defScope st)/\
  Xd FN.body ⟨nN FN st,(defScope st).names,true,B,F,O⟩ (V1 st)=true/\∀us:List Value,us.length=(FN.ps.map Ac).length->Td fd ⟨us,[]⟩=pure ((FN.ps.map Ac).zip us)
structure Txt(K:Ag)(mg:Str->Option Value)(T:Tb)(G:String->Option D)(B F:List String)(O:Ow):Prop where
 fns:∀f∈F,∃a fd,FnB K T B F O f a fd/\mg (Ac f)=some (.ref a)
 np:npB K=true
 blt:∀x∈B,mg (Ac x)=none
 gl:∀x d,G x=some d->∃v u,mg (Ac x)=some u/\RelV v u/\(∀ρ H,RelD K ρ H d v)/\∀ds,d=.tup ds->∃a o,v=.ref a/\K.lookup a=some o/\o.cls=.type "tuple"/\o.dict=none
 mts:∀c m f,(c,m,f)∈O.mt->∃a fd Ca,FnB K T B F O f a fd/\Bz K Bg (Ac c)=some (some (.ref Ca))/\L2.Cls K Ca/\L2.Meth K Ca (Ac m) a
 fds:∀c f,(c,f)∈O.fd->∃Ca,Bz K Bg (Ac c)=some (some (.ref Ca))/\L2.Cls K Ca/\L2.Wo K Ca (Ac f)
 nws:∀c f,(c,f)∈O.nw->∃a fd Ca,FnB K T B F O f a fd/\Bz K Bg (Ac c)=some (some (.ref Ca))/\mg (Ac c)=some (.ref Ca)/\L2.Mk K Ca a
section
variable {P:Program} {w:World} {K:Ag} {mg:Str->Option Value} {base:Heap} {T:Tb} {G:String->Option D} {B F:List String} {O:Ow}
def RelE.start{ds:List D}{N:List Str}(r:RelDs K ρ H ds vs)(b:k=N.length-ds.length):RelE K ρ H (ds.map some++E2 k none) (L2.start N vs):=by
 unfold L2.start;rw[<-r.length,<-b];refine⟨by simp[r.length],λi d h=>?_⟩
 by_cases a:i<ds.length
 .rw[A0 (by simpa using a),Ao]at h;rw[A0 (by rw[Ah,<-r.length];exact a),Ao];cases e:ds[i]? with
  |none=>rw[e]at h;cases h
  |some c=>
   rw[e]at h;have h:c=d:=by simpa using h
   subst h;obtain⟨v,f,q⟩:=r.get e;exact⟨v,by rw[f];rfl,q⟩
 .rw[Aw (by simpa using a),Fy]at h;split at h<;>cases h
def Jhv{b:Fn}{ds:List D}(g:T f=some b)(e:(Cn T G W (n+1)).call f ds S=.ok d h):
  ds.length=b.ps.length/\∃c a,evB (Cn T G W n) b.body (ds.map some++E2 (b.N.length-ds.length) none) S=.ok c a/\(match c with|.rt d=>.ok d a|.nx _=>.ok .non a)=Res.ok d h:=by
 simp only[Cn,callN]at e;rw[g]at e;simp only at e;split at e
 .obtain⟨c,a,i,e⟩:=Res.bind_eq_ok e;exact⟨‹_›,c,a,i,e⟩
 .cases e
def Jzk(t:Txt K mg T G B F O)(v:V9 (2*n+1) A)(x:∀(f:String) (a:Addr) (I:Iq),FnB K T B F O f a I->∀J,T f=some J->W1 P w K mg base CX0 (2*n) a I (J.ps.map Ac) (spM K (Cn T G W n) f)):Tp P w K mg base A (Cn T G W n) B F O:=by
 refine⟨λg l=>?_,t.blt,t.gl,Gb (Ai _) v.units,t.np,λc m g l=>?_,t.fds,λc g l=>?_⟩
 .obtain⟨b,d,j,y⟩:=t.fns g l;obtain⟨e,o,p,r,h,k,s,u,i⟩:=id j.ex;exact⟨2*n,b,d,_,v.mono (Lv _),y,x g b d j e h,.all i,k.kp⟩
 .obtain⟨b,d,z,j,C,E,H⟩:=t.mts c m g l;obtain⟨e,o,p,r,h,k,s,u,i⟩:=id j.ex;exact⟨2*n,b,d,_,z,v,C,E,H,x g b d j e h,.all i⟩
 .obtain⟨b,d,z,j,C,E,H⟩:=t.nws c g l;obtain⟨e,o,p,r,h,k,s,u,i⟩:=id j.ex;exact⟨2*n,b,d,_,z,v,C,E,H,x g b d j e h,.all i⟩
theorem J0k(t:Txt K mg T G B F O)(W:Nat):∀(n:Nat) (f:String) (a:Addr) (i:Iq),FnB K T B F O f a i->∀g,T f=some g->W1 P w K mg base CX0 (2*n) a i (g.ps.map Ac) (spM K (Cn T G W n) f):=by
 intro n
 induction n with
 |zero=>exact λf a i p g k=>⟨λl H Q E h=>by obtain⟨_,_,_,_,_,_,_,e,_⟩:=h;exact absurd e Jab,λA c s H args us l Q E _ _ _ _ h=>by obtain⟨_,_,_,_,_,_,_,e,_⟩:=h;exact absurd e Jab⟩
 |succ n v=>
  intro f a i p g k;obtain⟨x,st,nm,ql,j,y,m,z,bd⟩:=p.ex;rw[k]at j;cases j;show W1 P w K mg base CX0 (2*n+1+1) a i _ _;refine y.ok m (λl H Q E h=>?_) (λC A c s H l Q E I h=>?_)<;>obtain⟨J,S,ds,d,S',L,r,e,fin⟩:=h
  .rw[<-r.length,(Jhv k e).1,Ah]
  .refine⟨_,((snd (Cn T G W n) g.body).1.b _ ⟨nN g st,(defScope st).names,true,B,F,O⟩ _ ⟨rfl,m.nd,rfl,m.kind,λ_=>rfl,rfl,rfl,Jzk t I v⟩ z),?_⟩;obtain⟨_,u,N,U,e⟩:=Jhv k e;refine⟨J,S,_,u,N,L,RelE.start r (by rw[nN,Ah]),U,?_⟩;cases u with
   |nx Z=>cases e;exact λo Y H1 f1 r1 q1=>fin o _ H1 f1 r1 RelD.non
   |rt d=>cases e;exact fin
def Jxu{G:String->Option D}(h:∀ns:List Int,ns.length<=63->∃d,callN T G W n "law" [.kl (ns.map D.int)] []=.ok (.bl true) d)(H:Hp)(a:Addr)(ns:List Int)(f:ns.length<=63)(g:Z5 H)(j:SqL K H a (ns.map V.int))(E:XK):
  spM K (Cn T G W n) "law" [.ref a] H (λv _=>v=.bl true) E:=by
 obtain⟨d,e⟩:=h ns f;have c:∀(ns:List Int),RelDs K [] H (ns.map D.int) (ns.map V.int):=by
  intro ns
  induction ns with
  |nil=>exact RelDs.nil
  |cons i r k=>exact RelDs.cons (RelD.int i) k
 have m:SqF K H a (ns.map V.int):=by
  rcases j with(h|h)|h
  .rcases g a with z|⟨o,s,z⟩
   .rw[h]at z;cases z
   .rw[h]at z;cases z
  .exact .inl h
  .exact .inr h
 refine⟨[],[],[.kl (ns.map D.int)],.bl true,d,⟨rfl,Jp,λl b o h=>by simp at h⟩,RelDs.cons ?_ RelDs.nil,e,λp v t _ _ q=>q.bl_inv⟩;simp only[RelD];exact⟨a,_,rfl,m,c ns⟩
end
def walk{l:Kg}{XP:(Str->Option Value)->Heap->Prop}{YP:World->Heap->Prop}{d:U6}{K:Ip->Ag}{G:String->Option D}(A:l.most=some 63)(o:d.params.defaults=[])
  (C:∀(w:World) (h:Heap),YP w h->(K w.params).In h)(E:V9 (2*n) My)(I:d.name=Ac "law")(c:"law"∈F)(j:∃m,T "law"=some m/\m.ps=[x])
  (X:∀(w:World) (mg:Str->Option Value) (h:Heap),(K w.params).In h->h.Ns Bg mg->Txt (K w.params) mg T G B F O)
  (run:∀ns:List Int,ns.length<=63->∃J,callN T G W n "law" [.kl (ns.map D.int)] []=.ok (.bl true) J):
  Nf q loose XP YP l.row.toRowW d [] (λf vs=>N5 f vs):=by
 refine L2.Jr0 (n:=63) (k:=2*n) (x:=Ac x) (CX:=λ_=>CX0) (sp:=λw=>spM (K w.params) (Cn T G W n) "law") A (by decide) o E C (λw mg fa h L p e=>?_) (λw H a ns N Q U=>Jxu run H a ns N Q U _) λ_ _ _ _ _ z=>z;have t:=X w mg h L p;obtain⟨a,v,y,r⟩:=t.fns "law" c;obtain⟨m,j,b⟩:=j;obtain⟨Y,st,nm,ql,g,FU,sc,ck,bd⟩:=id y.ex;rw[j]at g;cases g;rw[I,r]at e;cases e;refine⟨v,λs u=>?_,λi kb nb=>?_⟩
 .have:=bd [u] (by rw[b];rfl);rw[b]at this;exact .of_eq this
 .have:=J0k (P:=l.prog) (w:=w) (base:=i) t W n "law" fa v y m j;rw[b]at this;exact this
def holds{l:Kg}{d:U6}{K:Ip->Ag}{as:List Addr}(c:l.wellSaid=true)(e:∀P,as=(K P).map (·.1))
  (left:PySem.W.LeftO l.prog q loose (λs=>PySem.W.xlAt q [] s&&PySem.W.recOk [] s) (λs=>as.map s.heap.get?) (λw=>(K w.params).map λp=>some p.2) N)
  (a:PySem.W.defOf q l.name=some (d,[]))(hp:l.prog.theDef l.name=some (d.params,d.body,d.scope))(g:PySem.W.kwWritten? d.params.kwonlyargs d.params.kw_defaults=some [])
  (b:(PySem.W.chainsOk q&&PySem.W.opensWell l.prog&&(PySem.W.frees l.row.toRowW&&l.row.within.isEmpty))=true)(i:l.prog.bare)(j:l.row.toRowW.promised)
  (k:Nf q loose (Uz q []) (Tv K) l.row.toRowW d [] (λf vs=>N5 f vs)):l.Holds:=
 PySem.W.holds_law c λsaid=>PySem.W.holds_open (r:=l.row) (XP:=Uz q []) (YP:=Tv K) left (PySem.W.InK.of e) PySem.W.InK.keeps (λs z=>PySem.W.xl_of s (Qz.mp z).1) PySem.W.XL.keeps a hp g
  (λs z=>PySem.W.recFacts_of (Qz.mp z).2) (by cases h:l.writes<;>simp[U0]) said b i j k
theorem Wal{b:Type}{P:List b->Prop}(h:∀a,P [a]):∀us:List b,us.length=1->P us
 |[a],_=>h a
theorem Yu{b:Type}{P:List b->Prop}(h:∀a us,us.length=n->P (a::us)):∀us:List b,us.length=n+1->P us
 |a::us,e=>h a us (Nat.succ.inj e)
def Wak{c:Type}{P:List c->Prop}(h:∀a b,P [a,b]):∀us:List c,us.length=2->P us:=Yu λa=>Wal (h a)
def Waj{d:Type}{P:List d->Prop}(h:∀a b c,P [a,b,c]):∀us:List d,us.length=3->P us:=Yu λa=>Wak (h a)
def Wai{e:Type}{P:List e->Prop}(h:∀a b c d,P [a,b,c,d]):∀us:List e,us.length=4->P us:=Yu λa=>Waj (h a)
def Wah{f:Type}{P:List f->Prop}(h:∀a b c d e,P [a,b,c,d,e]):∀us:List f,us.length=5->P us:=Yu λa=>Wai (h a)
def Wbs{i:Type}{P:List i->Prop}(h:∀a b c d e f g,P [a,b,c,d,e,f,g]):∀us:List i,us.length=7->P us:=Yu λa=>Yu λb=>Wah (h a b)
structure FE(K:Ag)(x:Str)(st:Stmt):Prop where
 ex:∃(f:Addr) (oc:Value) (od:Option Addr) (kV doc pm:Value) (an:Option Addr) (cdv ct:Value) (sl:Array (Option Value)),Bz K Bg x=some (some (.ref f))/\
  K.lookup f=some ⟨oc,od,.func (F0 x x (V7 st) (V1 st) (defScope st) .none kV doc pm an cdv ct),sl⟩/\Ia K cdv x=true/\D6 K (.ref f)=true
section
variable {K:Ag} {mg:Str->Option Value} {h:Heap} {T:Tb} {G:String->Option D} {B F:List String} {O:Ow}
def Jye(j:K.In h)(k:h.Ns Bg mg){b:Fn}(e:FE K (Ac f) st)(l:T f=some b)(sc:Ws (nN b st) (b.ps.map Ac) (defScope st))
  (m:Xd b.body ⟨nN b st,(defScope st).names,true,B,F,O⟩ (V1 st)=true)
  (bd:∀(kV c g:Value) (an:Option Addr) (d i:Value) (us:List Value),us.length=(b.ps.map Ac).length->Td (F0 (Ac f) (Ac f) (V7 st) (V1 st) (defScope st) .none kV c g an d i) ⟨us,[]⟩=pure ((b.ps.map Ac).zip us)):
  ∃a n,FnB K T B F O f a n/\mg (Ac f)=some (.ref a):=by
 obtain⟨a,t,u,kV,c,g,an,d,i,sl,o,p,r,s⟩:=e.ex;exact⟨a,_,⟨b,st,_,_,l,Jrg (st:=st) p r s,sc,m,bd kV c g an d i⟩,Lk j k o⟩
structure CF(K:Ag)(c:Str):Prop where
 ex:∃Ca:Addr,Bz K Bg c=some (some (.ref Ca))/\L2.Cls K Ca
structure NF(K:Ag)(c f:Str):Prop where
 ex:∃Ca:Addr,Bz K Bg c=some (some (.ref Ca))/\L2.Wo K Ca f
def Jz7(n:Bz K Bg c=some (some (.ref Ca)))(a:Ds K (.ref Ca) f=some none):NF K c f:=⟨Ca,n,a⟩
structure MF(K:Ag)(c m ql:Str)(st:Stmt):Prop where
 ex:∃(Ca f:Addr) (oc:Value) (od:Option Addr) (kV doc pm:Value) (an:Option Addr) (cdv ct:Value) (sl:Array (Option Value)),Bz K Bg c=some (some (.ref Ca))/\Ds K (.ref Ca) m=some (some (.ref f))/\
  K.lookup f=some ⟨oc,od,.func (F0 m ql (V7 st) (V1 st) (defScope st) .none kV doc pm an cdv ct),sl⟩/\Ia K cdv ql=true/\D6 K (.ref f)=true/\L8 K (.ref f)=true
structure NW(K:Ag)(c:Str):Prop where
 ex:∃Ca:Addr,Bz K Bg c=some (some (.ref Ca))/\M8 K Ca=true/\D6 K (.ref Ca)=true
def Jxn{b:Fn}(cf:CF K (Ac c))(e:MF K (Ac c) (Ac m) (Ac o) st)(p:T f=some b)(sc:Ws (nN b st) (b.ps.map Ac) (defScope st))
  (r:Xd b.body ⟨nN b st,(defScope st).names,true,B,F,O⟩ (V1 st)=true)
  (bd:∀(kV d i:Value) (an:Option Addr) (g j:Value) (us:List Value),us.length=(b.ps.map Ac).length->Td (F0 (Ac m) (Ac o) (V7 st) (V1 st) (defScope st) .none kV d i an g j) ⟨us,[]⟩=pure ((b.ps.map Ac).zip us)):
  ∃a s Ca,FnB K T B F O f a s/\Bz K Bg (Ac c)=some (some (.ref Ca))/\L2.Cls K Ca/\L2.Meth K Ca (Ac m) a:=by
 obtain⟨y,k,t⟩:=cf.ex;obtain⟨Ca,a,z,A,kV,d,i,an,g,j,sl,n,u,v,w,l,x⟩:=e.ex;rw[n]at k;cases k;exact⟨a,_,_,⟨b,st,_,_,p,Jrg (st:=st) v w l,sc,r,bd kV d i an g j⟩,n,t,⟨u,x,l⟩⟩
def Jyg(cf:CF K (Ac c))(e:NF K (Ac c) (Ac f)):∃Ca,Bz K Bg (Ac c)=some (some (.ref Ca))/\L2.Cls K Ca/\L2.Wo K Ca (Ac f):=by
 obtain⟨d,a,b⟩:=cf.ex;obtain⟨Ca,n,h⟩:=e.ex;rw[n]at a;cases a;exact⟨_,n,b,h⟩
def Jxj(i:K.In h)(j:h.Ns Bg mg)(cf:CF K (Ac c))(e:NW K (Ac c))(k:∃a b Ca,FnB K T B F O f a b/\Bz K Bg (Ac c)=some (some (.ref Ca))/\L2.Cls K Ca/\L2.Meth K Ca (Ac "__init__") a):
  ∃a b Ca,FnB K T B F O f a b/\Bz K Bg (Ac c)=some (some (.ref Ca))/\mg (Ac c)=some (.ref Ca)/\L2.Mk K Ca a:=by
 obtain⟨p,d,l,m⟩:=e.ex;obtain⟨a,b,Ca,o,n,_,g⟩:=k;rw[n]at d;cases d;exact⟨a,b,_,o,n,Lk i j n,l,g.at_,g.fn,m⟩
def Jko(b:K.In h)(c:h.Ns Bg mg)(e:Bz K Bg (Ac x)=some (some (.int i t))):∃v u,mg (Ac x)=some u/\RelV v u/\(∀ρ H,RelD K ρ H (.int i) v)/\∀ds,D.int i=.tup ds->∃a o,v=.ref a/\K.lookup a=some o/\o.cls=.type "tuple"/\o.dict=none:=
 ⟨.int i,_,Lk b c e,⟨t,rfl⟩,λ_ _=>RelD.int i,λ_ z=>by cases z⟩
def J0j(a:K.In h)(b:h.Ns Bg mg)(e:Bz K Bg (Ac x)=some none):mg (Ac x)=none:=PySem.W.mg_none_of a b e
structure GV(K:Ag)(x:Str)(d:D):Prop where
 ex:∃v u,Bz K Bg x=some (some u)/\RelV v u/\(∀ρ H,RelD K ρ H d v)/\∀ds,d=.tup ds->∃a o,v=.ref a/\K.lookup a=some o/\o.cls=.type "tuple"/\o.dict=none
def Jyd(b:K.In h)(c:h.Ns Bg mg)(e:GV K (Ac x) d):∃v u,mg (Ac x)=some u/\RelV v u/\(∀ρ H,RelD K ρ H d v)/\∀ds,d=.tup ds->∃a o,v=.ref a/\K.lookup a=some o/\o.cls=.type "tuple"/\o.dict=none:=by
 obtain⟨v,u,f,g,i,j⟩:=e.ex;exact⟨v,u,Lk b c f,g,i,j⟩
noncomputable def strsLook:List Value->List Str->Bool
 |[],[]=>true
 |.str y _::us,x::xs=>x==y&&strsLook us xs
 |_,_=>false
theorem Jfy:∀{xs:List Str},strsLook us xs=true->Vals (xs.map V.str) us:=by
 induction us with
 |nil=>
  intro xs h;cases xs with
  |nil=>exact .nil
  |cons x xs=>exact fx9 h
 |cons u us a=>
  intro xs h;cases xs with
  |nil=>cases u<;>exact fx9 h
  |cons x xs=>
   cases u<;>try (exact fx9 h)
   replace h:=(Aj _ _).mp h
   obtain rfl:=eq_of_beq h.1;exact .cons ⟨_,rfl⟩ (a h.2)
def Jug(xs:List Str){its:Array Value}(e:Bz K Bg x=some (some (.ref a)))(l:K.lookup a=some ⟨.type "tuple",none,.seq its n,sl⟩)
  (v:(strsLook its.toList xs&&decide (its.size<=1000))=true):GV K x (.tup (xs.map D.str)):=by
 simp only[Aj,decide_eq_true_eq]at v;refine⟨.ref a,.ref a,e,rfl,λd H=>?_,λg _=>⟨a,_,rfl,l,rfl,rfl⟩⟩;simp only[RelD];refine⟨a,xs.map V.str,rfl,.inr ⟨_,its,n,l,rfl,rfl,by rw[Ig];lia,Jfy v.1⟩,?_⟩;have b:∀c:List Str,RelDs K d H (c.map D.str) (c.map V.str):=by
  intro c
  induction c with
  |nil=>exact RelDs.nil
  |cons y r f=>exact RelDs.cons (RelD.str y) f
 exact b xs
def Juh(e:Bz K Bg x=some (some (.ref a)))(l:Wc K a kvs):GV K x (.kd kvs):=
 ⟨.ref a,.ref a,e,rfl,λb H=>by simp only[RelD];exact⟨a,rfl,l⟩,λc z=>by cases z⟩
end
inductive Sat {α:Type} (r:Res α) (P:α->Store->Prop):Prop
 |mk (a S) (_:r=.ok a S) (_:P a S):Sat r P
def Sat.ok{α:Type}{a:α}{S:Store}{P:α->Store->Prop}(h:P a S):Sat (.ok a S) P:=⟨a,S,rfl,h⟩
@[simp]theorem J08{b:Type}{a:b}{S:Store}{P:b->Store->Prop}:Sat (.ok a S) P↔P a S:=⟨λ⟨_,_,e,h⟩=>by cases e;exact h,Sat.ok⟩
def Sat.mono{α:Type}{r:Res α}{P Q:α->Store->Prop}(h:Sat r P)(b:∀a S,P a S->Q a S):Sat r Q:=by
 obtain⟨a,S,e,h⟩:=h;exact⟨a,S,e,b a S h⟩
section
variable {α0 α1 α2 α3 α4:Type} {r:Res α0} {f1:α0->Store->Res α1} {f2:α1->Store->Res α2} {f3:α2->Store->Res α3} {f4:α3->Store->Res α4} {Q:α0->Store->Prop}
def Sat.p1{P:α1->Store->Prop}(h:Sat r Q)(k:∀a S,Q a S->Sat (f1 a S) P):Sat (r.bind f1) P:=by
 obtain⟨a,S,rfl,h⟩:=h;exact k a S h
def Sat.p2{P:α2->Store->Prop}(h:Sat r Q)(k:∀a S,Q a S->Sat ((f1 a S).bind f2) P):Sat ((r.bind f1).bind f2) P:=by
 obtain⟨a,S,rfl,h⟩:=h;exact k a S h
def Sat.p3{P:α3->Store->Prop}(h:Sat r Q)(k:∀a S,Q a S->Sat (((f1 a S).bind f2).bind f3) P):Sat (((r.bind f1).bind f2).bind f3) P:=by
 obtain⟨a,S,rfl,h⟩:=h;exact k a S h
def Sat.p4{P:α4->Store->Prop}(h:Sat r Q)(k:∀a S,Q a S->Sat ((((f1 a S).bind f2).bind f3).bind f4) P):Sat ((((r.bind f1).bind f2).bind f3).bind f4) P:=by
 obtain⟨a,S,rfl,h⟩:=h;exact k a S h
end
@[simp]noncomputable def Yj(a:Fl)(S:Store):Res D:=match a with
 |.rt d=>.ok d S
 |.nx _=>.ok .non S
def Jaa{G:String->Option D}{a:Fn}{ds:List D}(b:T f=some a)(c:ds.length=a.ps.length):
  callN T G W (n+1) f ds S=(evB (Cn T G W n) a.body (ds.map some++E2 (a.N.length-ds.length) none) S).bind Yj:=by
 simp only[callN,b,if_pos c];congr 1
@[simp]theorem Jvf{G:String->Option D}:(Cn T G W n).call=callN T G W n:=rfl
@[simp]theorem Jni{G:String->Option D}:(Cn T G W n).glob=G:=rfl
def FlP(I:En->Store->Prop)(R:D->Store->Prop)(a:Fl)(S:Store):Prop:=match a with
 |.nx Z=>I Z S
 |.rt d=>R d S
def noR:D->Store->Prop:=λ_ _=>False
@[simp]theorem J1a{I:En->Store->Prop}{R:D->Store->Prop}:FlP I R (.nx Z) S↔I Z S:=Iff.rfl
@[simp]theorem J09{I:En->Store->Prop}{R:D->Store->Prop}:FlP I R (.rt d) S↔R d S:=Iff.rfl
inductive NxI (I:En->Store->Prop) (fl:Fl) (S:Store):Prop
 |mk (Z) (_:fl=.nx Z) (_:I Z S):NxI I fl S
theorem FlP.nx{I:En->Store->Prop}(h:FlP I noR a S):NxI I a S:=by
 cases a with
 |nx Z=>exact⟨Z,rfl,h⟩
 |rt d=>exact E1 h
theorem FlP.nr{I:En->Store->Prop}{R:D->Store->Prop}(h:FlP I R a S):(∃Z,a=.nx Z/\I Z S)\/∃d,a=.rt d/\R d S:=by
 cases a with
 |nx Z=>exact .inl ⟨Z,rfl,h⟩
 |rt d=>exact .inr ⟨d,rfl,h⟩
theorem Wd2{turn:D->En->Store->Res Fl}{g:Wk}{ds:List D}{R:D->Store->Prop}(I:Nat->En->Store->Prop)(same:∀i Z S,I i Z S->sameAt S g ds.length=true)
  (b:∀i Z S,i<ds.length->I i Z S->∃d,nth S g ds i=some d/\Sat (turn d Z S) (FlP (I (i+1)) R)):
  ∀(n i:Nat) (Z:En) (S:Store),i+n=ds.length->I i Z S->Sat (forL turn g ds n i Z S) (FlP (I ds.length) R):=by
 intro n
 induction n with
 |zero=>
  intro i Z S c h;have:i=ds.length:=by lia
  subst this;simp only[forL,same _ Z S h,if_true];exact .ok h
 |succ n f=>
  intro i Z S c h;obtain⟨d,e,q⟩:=b i Z S (by lia) h;simp only[forL,same _ Z S h,if_true,e];refine q.p1 λj k q=>?_;cases j with
  |nx a=>exact f (i+1) a k (by lia) q
  |rt d=>exact .ok q
theorem Wb6{turn:D->En->Store->Res (Option D)}{g:Wk}{ds:List D}{Z:En}(I:Nat->List D->Store->Prop)(k:ds.length<=Line)(same:∀i a S,I i a S->a.length<=i/\sameAt S g ds.length=true)
  (f:∀i a S,i<ds.length->I i a S->∃d,nth S g ds i=some d/\Sat (turn d Z S) λo b=>I (i+1) (a++o.toList) b):
  ∀(n i:Nat) (a:List D) (S:Store),i+n=ds.length->I i a S->Sat (Wr turn g ds n i Z S a) (I ds.length):=by
 intro n
 induction n with
 |zero=>
  intro i a S j h;have:i=ds.length:=by lia
  subst this;simp only[Wr,(same _ a S h).2,if_true];exact .ok h
 |succ n c=>
  intro i a S j h;obtain⟨d,e,q⟩:=f i a S (by lia) h;simp only[Wr,(same _ a S h).2,if_true,e];refine q.p1 λo b q=>?_;cases o with
  |none=>exact c (i+1) a b (by lia) (by simpa using q)
  |some y=>
   have:=(same _ _ _ h).1;simp only[if_pos (show a.length<Line by lia)];exact c (i+1) _ b (by lia) q
section
variable {S:Store} {i j:Int} {a b:Bool} {x y:Str} {ds es:List D}
@[simp]theorem Jcz:bop .add (.int i) (.int j) S=.ok (.int (i+j)) S:=rfl
@[simp]theorem Ju0:bop .sub (.int i) (.int j) S=.ok (.int (i-j)) S:=rfl
def Jcx(h:(small i||small j||(mid i&&mid j))=true):bop .mul (.int i) (.int j) S=.ok (.int (i*j)) S:=by
 delta bop
 dsimp only;exact if_pos h
@[simp]theorem Je4(h:small i=true):bop .mul (.int i) (.int j) S=.ok (.int (i*j)) S:=Jcx (by rw[h];rfl)
@[simp]theorem Jbg(h:small j=true):bop .mul (.int i) (.int j) S=.ok (.int (i*j)) S:=Jcx (by rw[h,Bool.or_true];rfl)
@[simp]theorem Jaj(h:0<j):bop .mod (.int i) (.int j) S=.ok (.int (i%j)) S:=by
 delta bop
 dsimp only;exact if_pos h
def Jy0{j:Int}(c:0<j)(d:j<2^250):0<j/\j.natAbs<2^4096:=by
 refine⟨c,?_⟩;have e:j.natAbs<2^250:=by
  have:(j.natAbs:Int)<(2^250:Nat):=by
   rw[Ra (by omega)]
   exact_mod_cast d
  exact_mod_cast this
 exact Fm e (Nat.pow_lt_pow_right (by decide) (by decide))
@[simp]theorem Je3(h:0<=j):bop .shr (.int i) (.int j) S=.ok (.int (i/2^j.toNat)) S:=by
 delta bop
 dsimp only;exact if_pos h
@[simp]theorem Ja0(c:0<j)(d:j<2^250):bop .fdiv (.int i) (.int j) S=.ok (.int (i/j)) S:=by
 delta bop
 dsimp only;exact if_pos (Jy0 c d)
def Jcw(h:(decide (0<=j)&&decide (j<=1000000)&&decide (i.natAbs<2^64))=true):bop .pow (.int i) (.int j) S=.ok (.int (i^j.toNat)) S:=by
 delta bop
 dsimp only;exact if_pos h
def Jaz{k:Nat}(c:j=(k:Int))(e:k<=1000000)(d:i.natAbs<2^64):bop .pow (.int i) (.int j) S=.ok (.int (i^k)) S:=by
 subst c;rw[Jcw]
 .rfl
 .simp only[Aj,decide_eq_true_eq];exact⟨⟨by omega,by omega⟩,d⟩
@[simp]theorem Jcy(c:S[l]? =some (.lst ds))(d:S[k]? =some (.lst es))(e:ds.length+es.length<=Line):bop .add (.loc l) (.loc k) S=.ok (.loc S.length) (S++[.lst (ds++es)]):=by
 delta bop;simp only[c,d,if_pos e]
def Jbh(c:ds.length+es.length<=Line):bop .add (.tup ds) (.tup es) S=.ok (.tup (ds++es)) S:=by
 delta bop;simp only[if_pos c]
theorem Ji0:Deep=11+1:=rfl
@[simp]theorem Jds:cop .eq (.int i) (.int j) S=some (decide (i=j)):=by
 simp only[cop,Ji0,eqD,Wf,eqV];congr 1
@[simp]theorem Jvk:cop .eq (.str x) (.str y) S=some (decide (x=y)):=by
 simp only[cop,Ji0,eqD,Wf,eqV];congr 1
@[simp]theorem Jvg:cop .ne (.int i) (.int j) S=some (!decide (i=j)):=by
 have:=Jds (i:=i) (j:=j) (S:=S);simp only[cop,Yf]at this ⊢;rw[this];rfl
@[simp]theorem Jvh:cop .lt (.int i) (.int j) S=some (decide (i<j)):=rfl
@[simp]theorem Jvi:cop .le (.int i) (.int j) S=some (decide (i<=j)):=rfl
@[simp]theorem Jvj:cop .gt (.int i) (.int j) S=some (decide (j<i)):=rfl
@[simp]theorem Jfr:cop .ge (.int i) (.int j) S=some (decide (j<=i)):=rfl
@[simp]theorem Juw:cop .isc .non .non S=some true:=rfl
@[simp]theorem Jro:cop .isnc .non .non S=some false:=rfl
@[simp]theorem Juu:cop .isc (.tup ds) .non S=some false:=rfl
@[simp]theorem Jrm:cop .isnc (.tup ds) .non S=some true:=rfl
@[simp]theorem Juv:cop .isc (.str x) .non S=some false:=rfl
@[simp]theorem Jrn:cop .isnc (.str x) .non S=some true:=rfl
@[simp]theorem Jy9:Vx .abs [.int i] S=.ok (.int (if i<0 then -i else i)) S:=rfl
@[simp]theorem Jy8:Vx .max2 [.int i,.int j] S=.ok (.int (if j>i then j else i)) S:=rfl
@[simp]theorem Jy7:Vx .min2 [.int i,.int j] S=.ok (.int (if j<i then j else i)) S:=rfl
@[simp]theorem Jqz:Vx .int1 [.int i] S=.ok (.int i) S:=rfl
@[simp]theorem Jeh:Vx .int1 [.bl b] S=.ok (.int (if b then 1 else 0)) S:=rfl
@[simp]theorem Jqy:Vx .len [.tup ds] S=.ok (.int ds.length) S:=rfl
@[simp]theorem Jti:Vx .len [.kl ds] S=.ok (.int ds.length) S:=rfl
def Jay(h:S[l]? =some (.lst ds)):Vx .len [.loc l] S=.ok (.int ds.length) S:=by delta Vx;simp only[V6,seqAt,h]
@[simp]theorem Jnj:Vx .tuple1 [.tup ds] S=.ok (.tup ds) S:=rfl
@[simp]theorem Jof:Vx .tuple1 [.kl ds] S=.ok (.tup ds) S:=rfl
def Jah(h:S[l]? =some (.lst ds)):Vx .tuple1 [.loc l] S=.ok (.tup ds) S:=by delta Vx;simp only[V6,seqAt,h]
@[simp]theorem Jog:Vx .list1 [.tup ds] S=.ok (.loc S.length) (S++[.lst ds]):=rfl
@[simp]theorem Jqx:Vx .list1 [.kl ds] S=.ok (.loc S.length) (S++[.lst ds]):=rfl
theorem Jjc{c:Type}(p:c->Int):∀xs:List c,sumI (xs.map λx=>D.int (p x))=some (xs.map p).sum
 |[]=>rfl
 |x::xs=>by simp only[Ax,sumI,Jjc p xs,U9,F7]
def Jbx{c:Type}(p:c->Int)(xs:List c):Vx .sum1 [.loc S.length] (S++[.lst (xs.map λx=>D.int (p x))])=.ok (.int (xs.map p).sum) (S++[.lst (xs.map λx=>D.int (p x))]):=by
 have h:(S++[Obj.lst (xs.map λx=>D.int (p x))])[S.length]? =some (.lst (xs.map λx=>D.int (p x))):=by
  rw[Aw (Ai _),Ha];rfl
 delta Vx;simp only[seqAt,h,Jjc]
@[simp]theorem Jac:(S++[o])[S.length]? =some o:=by
 rw[Aw (Ai _),Ha];rfl
def Jag{l:Nat}{o:Obj}{X:Store}(h:S[l]? =some o):(S++X)[l]? =some o:=by
 rw[A0 (Ae.mp h).1];exact h
def Juf(h:atI ds i=some d):idxD (.tup ds) (.int i) S=some d:=by simp only[idxD,V6,h]
def Jmj(c:S[l]? =some (.lst ds))(h:atI ds i=some d):idxD (.loc l) (.int i) S=some d:=by simp only[idxD,V6,seqAt,c,h]
def Jyc(h:atI ds i=some d):idxD (.kl ds) (.int i) S=some d:=by simp only[idxD,V6,h]
def Jy1{d:Type}{xs:List d}{i:Int}(e:0<=i)(f:i<xs.length):∃x,atI xs i=some x/\x∈xs/\xs[i.toNat]? =some x:=by
 have c:i.toNat<xs.length:=by omega
 refine⟨xs[i.toNat],?_,Fw c,Af c⟩;simp only[atI,ixN,if_pos e,if_pos f,Ih];exact Af c
def Ju9{c:Type}{xs:List c}(d:k<xs.length):atI xs (k:Int)=xs[k]? :=by
 have:(k:Int)<xs.length:=by omega
 simp only[atI,ixN,if_pos (Mv k),if_pos this,Ih,Em]
def Jax(h:S[l]? =some (.lst ds))(c:ds.length<Line):V4 .append (.loc l) [d] S=.ok .non (S.set l (.lst (ds++[d]))):=by delta V4;simp only[h,if_pos c]
def Jii(h:S[l]? =some (.lst ds))(c:ixN ds.length i=some k):Ww (.loc l) (.int i) d S=.ok () (S.set l (.lst (ds.set k d))):=by simp only[Ww,h,c]
def Jo3(h:n<=1000000):n<=Line:=by unfold Line;omega
def Jbq(h:n<=1000000):n<Line:=by unfold Line;omega
end
@[simp]noncomputable def Ze(o:Option (Option D))(S:Store):Res D:=match o with|some (some d)=>.ok d S|_=>.bad
@[simp]noncomputable def Was(o:Option D)(S:Store):Res D:=match o with|some d=>.ok d S|none=>.bad
@[simp]def Yx(C:Pr)(o:Bop)(b:M)(Z:En)(x:D)(S:Store):Res D:=(evE C b Z S).bind (bop o x)
@[simp]noncomputable def Wdu(x:D)(S:Store):Res D:=match x with|.int i=>.ok (.int (B5 i)) S|_=>.bad
@[simp]noncomputable def Wdn(x:D)(S:Store):Res D:=match x with|.int i=>.ok (.int (-i)) S|_=>.bad
@[simp]def Wdl(x:D)(S:Store):Res D:=match tru S x with|some b=>.ok (.bl (!b)) S|none=>.bad
@[simp]def Jo8(o:Cop)(x y:D)(S:Store):Res D:=match cop o x y S with|some k=>.ok (.bl k) S|none=>.bad
@[simp]def Wat(C:Pr)(o:Cop)(b:M)(Z:En)(x:D)(S:Store):Res D:=(evE C b Z S).bind (Jo8 o x)
@[simp]def Jx2(C:Pr)(o p:Cop)(c:M)(Z:En)(x y:D)(S:Store):Res D:=match cop o x y S with
 |some k=>if k then(evE C c Z S).bind (Jo8 p y)else .ok (.bl false) S
 |none=>.bad
@[simp]def Wbv(C:Pr)(o p:Cop)(b c:M)(Z:En)(x:D)(S:Store):Res D:=(evE C b Z S).bind (Jx2 C o p c Z x)
@[simp]def Wdr(C:Pr)(a b:M)(Z:En)(k:Bool)(S:Store):Res D:=if k then evE C a Z S else evE C b Z S
@[simp]def Wbt(ds:List D)(S:Store):Res D:=if ds.length<=Line then .ok (.tup ds) S else .bad
@[simp]def Wdp(ds:List D)(S:Store):Res D:=if ds.length<=Line then .ok (.loc S.length) (S++[.lst ds])else .bad
def Jar(x y:D)(S:Store):Res D:=match idxD x y S with|some d=>.ok d S|none=>.bad
@[simp]def War(C:Pr)(b:M)(Z:En)(x:D)(S:Store):Res D:=(evE C b Z S).bind (Jar x)
@[simp]def J0d(C:Pr)(a:M)(Z:En)(x:D)(l:Option Int)(S:Store):Res D:=(evO C a Z S).bind (Wq x l)
@[simp]def Wdi(C:Pr)(lo a:M)(Z:En)(x:D)(S:Store):Res D:=(evO C lo Z S).bind (J0d C a Z x)
@[simp]def Wdq(t:String)(x:D)(S:Store):Res D:=match tyD S x with|some y=>.ok (.bl (isiD y t)) S|none=>.bad
@[simp]def Wbu(C:Pr)(p:Meth)(as:M)(Z:En)(x:D)(S:Store):Res D:=if rcv p S x then(evA C as Z S).bind (V4 p x)else .bad
@[simp]def kTru(d:D)(S:Store):Res Bool:=match tru S d with|some b=>.ok b S|none=>.bad
@[simp]def Y2(o:Option (Option D))(S:Store):Res Bool:=match o with|some (some d)=>kTru d S|_=>.bad
@[simp]noncomputable def Wa9(b:Bool)(S:Store):Res Bool:=.ok (!b) S
@[simp]def Jnq(o:Cop)(x y:D)(S:Store):Res Bool:=match cop o x y S with|some k=>.ok k S|none=>.bad
@[simp]def Y6(C:Pr)(o:Cop)(b:M)(Z:En)(x:D)(S:Store):Res Bool:=(evE C b Z S).bind (Jnq o x)
@[simp]def Jv5(C:Pr)(o p:Cop)(c:M)(Z:En)(x y:D)(S:Store):Res Bool:=match cop o x y S with
 |some k=>if k then(evE C c Z S).bind (Jnq p y)else .ok false S
 |none=>.bad
@[simp]def Wbe(C:Pr)(o p:Cop)(b c:M)(Z:En)(x:D)(S:Store):Res Bool:=(evE C b Z S).bind (Jv5 C o p c Z x)
def Jr5(x y:D)(S:Store):Res Bool:=match idxD x y S with|some d=>kTru d S|none=>.bad
@[simp]def Wcq(C:Pr)(b:M)(Z:En)(x:D)(S:Store):Res Bool:=(evE C b Z S).bind (Jr5 x)
@[simp]def Wct(C:Pr)(f:String)(ds:List D)(S:Store):Res Bool:=(C.call f ds S).bind kTru
@[simp]def Wcj(p:Prim)(ds:List D)(S:Store):Res Bool:=(Vx p ds S).bind kTru
@[simp]def Wco(t:String)(x:D)(S:Store):Res Bool:=match tyD S x with|some y=>.ok (isiD y t) S|none=>.bad
@[simp]def kBV(C:Pr)(w:Bool)(r:M)(Z:En)(x:D)(S:Store):Res D:=match x with|.bl c=>if c=w then evBV C w r Z S else .ok (.bl (!w)) S|_=>.bad
@[simp]def kBT(C:Pr)(w:Bool)(r:M)(Z:En)(c:Bool)(S:Store):Res Bool:=if c=w then evBT C w r Z S else .ok (!w) S
@[simp]noncomputable def Wb(x:D)(xs:List D)(S:Store):Res (List D):=.ok (x::xs) S
@[simp]def Wt(C:Pr)(b:M)(Z:En)(x:D)(S:Store):Res (List D):=(evA C b Z S).bind (Wb x)
@[simp]noncomputable def Wdk(x:D)(S:Store):Res (Option Int):=match x with|.int i=>.ok (some i) S|_=>.bad
noncomputable def rOk(j:Int):Bool:=match j with
 |.ofNat n=>Nat.ble n (2^62-1)
 |.negSucc n=>Nat.ble n (2^62-1)
theorem Jqu(j:Int):(decide (-(2^62)<=j)&&decide (j<2^62))=rOk j:=by
 rw[Lb,Aj,decide_eq_true_eq,decide_eq_true_eq];cases j with
 |ofNat n=>rw[rOk,Nat.ble_eq,Int.ofNat_eq_natCast];omega
 |negSucc n=>rw[rOk,Nat.ble_eq,Int.negSucc_eq];omega
def Yw(x:D)(S:Store):Res (Wk×List D):=match x with
 |.int j=>if rOk j then .ok (none,(Cf j.toNat).map λ(i:Nat)=>.int i) S else .bad
 |_=>.bad
@[simp]def Waq(x:D)(S:Store):Res (Wk×List D):=match x with
 |.tup a=>.ok (none,a) S
 |.kl a=>.ok (none,a) S
 |.loc l=>(match seqAt S l with|some a=>.ok (some (l,.lst),a) S|none=>.bad)
 |_=>.bad
def Zh(x:D)(S:Store):Res (Wk×List D):=match x with
 |.loc l=>(match seqAt S l with|some a=>.ok (some (l,.enm),a) S|none=>.bad)
 |.tup a=>.ok (none,enD 0 a) S
 |_=>.bad
@[simp]theorem Jzb:Zh (.tup ds) S=.ok (none,enD 0 ds) S:=rfl
@[simp]def kZp(C:Pr)(b:M)(Z:En)(x:D)(S:Store):Res (Wk×List D):=(evE C b Z S).bind (zpD x)
@[simp]noncomputable def J0f(i:Nat)(Z:En)(x:Int)(y:D)(S:Store):Res Fl:=match y with|.int z=>.ok (.nx (Z.set i (some (.int (x+z))))) S|_=>.bad
@[simp]def Wdv(C:Pr)(i:Nat)(e:M)(Z:En)(o:Option (Option D))(S:Store):Res Fl:=match o with
 |some (some (.int x))=>(evE C e Z S).bind (J0f i Z x)
 |_=>.bad
def Zg(c f:String)(x:D)(S:Store):Res D:=match Yr S x c f with|some d=>.ok d S|none=>.bad
@[simp]noncomputable def J0e(C:Pr)(f:String)(x:D)(ds:List D)(S:Store):Res D:=C.call f (x::ds) S
@[simp]def Wdo(C:Pr)(c m f:String)(as:M)(Z:En)(x:D)(S:Store):Res D:=if isRec S x c m then(evA C as Z S).bind (J0e C f x)else .bad
@[simp]def Jzn(C:Pr)(f:String)(x:D)(ds:List D)(S:Store):Res Bool:=(C.call f (x::ds) S).bind kTru
@[simp]def Wcm(C:Pr)(c m f:String)(as:M)(Z:En)(x:D)(S:Store):Res Bool:=if isRec S x c m then(evA C as Z S).bind (Jzn C f x)else .bad
@[simp]noncomputable def Wdm(l:Nat)(d:D)(S:Store):Res D:=match d with|.non=>.ok (.loc l) S|_=>.bad
def Jub(c f:String)(Z:En)(y x:D)(S:Store):Res Fl:=match Zv S x c f y with|some a=>.ok (.nx Z) a|none=>.bad
@[simp]def Wdj(C:Pr)(c f:String)(o:M)(Z:En)(y:D)(S:Store):Res Fl:=(evE C o Z S).bind (Jub c f Z y)
@[simp]noncomputable def kEn(Z:En)(_:Unit)(S:Store):Res En:=.ok Z S
@[simp]def J0c(d:D)(Z:En)(o i:D)(S:Store):Res En:=(Ww o i d S).bind (kEn Z)
@[simp]def Wdh(C:Pr)(b:M)(d:D)(Z:En)(o:D)(S:Store):Res En:=(evE C b Z S).bind (J0c d Z o)
@[simp]noncomputable def kNx(Z:En)(S:Store):Res Fl:=.ok (.nx Z) S
@[simp]def Wau(C:Pr)(t:M)(Z:En)(d:D)(S:Store):Res Fl:=(evG C t d Z S).bind kNx
@[simp]def Xv(C:Pr)(a b:M)(Z:En)(k:Bool)(S:Store):Res Fl:=if k then evB C a Z S else evB C b Z S
@[simp]noncomputable def Zf(d:D)(S:Store):Res Fl:=.ok (.rt d) S
@[simp]noncomputable def Wds(Z:En)(_:D)(S:Store):Res Fl:=.ok (.nx Z) S
@[simp]def kB(C:Pr)(r:M)(b:Fl)(S:Store):Res Fl:=match b with
 |.nx a=>evB C r a S
 |.rt d=>.ok (.rt d) S
def Xg(C:Pr)(t b:M)(d:D)(Z:En)(S:Store):Res Fl:=(evG C t d Z S).bind (evB C b)
def kFor(C:Pr)(t b:M)(Z:En)(w:Wk×List D)(S:Store):Res Fl:=forL (Xg C t b) w.1 w.2 w.2.length 0 Z S
@[simp]noncomputable def Jq8(ys:List D)(S:Store):Res D:=.ok (.loc S.length) (S++[.lst ys])
def Xi(C:Pr)(k:Nat)(keep:List Nat)(tg cd el:M)(Z:En)(w:Wk×List D)(S:Store):Res D:=(Wr (W8 C tg cd el) w.1 w.2 w.2.length 0 (V2 k keep Z) S []).bind Jq8
section
variable {C:Pr} {Z:En} {S:Store} {w:Bool} {d:D} {ds:List D} {i k:Nat} {keep:List Nat} {N:List String} {x f t:String} {a b c r as lo hi e s ts t':M} {it tg cd el:M} {o p:Cop} {q:Bop} {pr:Prim} {me:Meth}
@[simp]theorem Jig:evE C (.cst d) Z S=.ok d S:=rfl
@[simp]theorem v_var:evE C (.var i) Z S=Ze Z[i]? S:=rfl
@[simp]theorem Jv0:evE C (.glb x) Z S=Was (C.glob x) S:=rfl
@[simp]theorem Jv3:evE C (.bin q a b) Z S=(evE C a Z S).bind (Yx C q b Z):=rfl
@[simp]theorem J1z:evE C (.bit a) Z S=(evE C a Z S).bind Wdu:=rfl
@[simp]theorem J1k:evE C (.neg a) Z S=(evE C a Z S).bind Wdn:=rfl
@[simp]theorem J03:evE C (.nott a) Z S=(evE C a Z S).bind Wdl:=rfl
@[simp]theorem v_bo:evE C (.bo w as) Z S=evBV C w as Z S:=rfl
@[simp]theorem Jv1:evE C (.cmp o a b) Z S=(evE C a Z S).bind (Wat C o b Z):=rfl
@[simp]theorem J06:evE C (.cmp2 o p a b c) Z S=(evE C a Z S).bind (Wbv C o p b c Z):=by
 show Res.bind _ _=_;congr 1;funext x h;simp only[Wbv];congr 1;funext y g;simp only[Jx2];cases cop o x y g with
 |none=>rfl
 |some k=>cases k<;>rfl
@[simp]theorem J1o:evE C (.ife c a b) Z S=(evT C c Z S).bind (Wdr C a b Z):=rfl
@[simp]theorem J1f:evE C (.tup as) Z S=(evA C as Z S).bind Wbt:=rfl
@[simp]theorem Jvy:evE C (.lst as) Z S=(evA C as Z S).bind Wdp:=rfl
@[simp]theorem Jzf:evE C (.idx a b) Z S=(evE C a Z S).bind (War C b Z):=rfl
@[simp]theorem J1g:evE C (.sli a lo hi) Z S=(evE C a Z S).bind (Wdi C lo hi Z):=rfl
@[simp]theorem Jv2:evE C (.call f as) Z S=(evA C as Z S).bind (C.call f):=rfl
@[simp]theorem Jqj:evE C (.prim pr as) Z S=(evA C as Z S).bind (Vx pr):=rfl
@[simp]theorem J1n:evE C (.isi a t) Z S=(evE C a Z S).bind (Wdq t):=rfl
@[simp]theorem J04:evE C (.meth me a as) Z S=(evE C a Z S).bind (Wbu C me as Z):=rfl
@[simp]theorem J05:evE C (.comp N k keep tg it cd el) Z S=(evI C it Z S).bind (Xi C k keep tg cd el Z):=rfl
@[simp]theorem Jzj:evE C (.dnil 0) Z S=.ok (.loc S.length) (S++[.dct []]):=rfl
@[simp]theorem Jzi:evE C (.dnil 1) Z S=.ok (.loc S.length) (S++[.dtu []]):=rfl
@[simp]theorem Jzh:evE C (.dnil 2) Z S=.ok (.loc S.length) (S++[.rg []]):=rfl
@[simp]theorem J1p:evE C (.hld a) Z S=(evE C a Z S).bind Zl:=rfl
@[simp]theorem J1m:evE C (.lsp a) Z S=(evE C a Z S).bind Zd:=rfl
@[simp]theorem v_zp:evI C (.zp a b) Z S=(evE C a Z S).bind (kZp C b Z):=rfl
@[simp]theorem J10:evS C (.aug i e) Z S=Wdv C i e Z Z[i]? S:=rfl
@[simp]theorem J1t:evE C (.fld x f a) Z S=(evE C a Z S).bind (Zg x f):=rfl
@[simp]theorem J1l:evE C (.mcl x t f a as) Z S=(evE C a Z S).bind (Wdo C x t f as Z):=rfl
@[simp]theorem Jvx:evE C (.new x f) Z S=(C.call f [.loc S.length] (S++[.ins x []])).bind (Wdm S.length):=rfl
@[simp]theorem J1u:evI C (.enm a) Z S=(evE C a Z S).bind Zh:=rfl
@[simp]theorem J1h:evS C (.sfd x f a b) Z S=(evE C b Z S).bind (Wdj C x f a Z):=rfl
@[simp]theorem J1b:evT C (.mcl x t f a as) Z S=(evE C a Z S).bind (Wcm C x t f as Z):=rfl
@[simp]theorem J0y:evT C (.nott a) Z S=(evT C a Z S).bind Wa9:=rfl
@[simp]theorem w_bo:evT C (.bo w as) Z S=evBT C w as Z S:=rfl
@[simp]theorem J1e:evT C (.cmp o a b) Z S=(evE C a Z S).bind (Y6 C o b Z):=rfl
@[simp]theorem J0z:evT C (.cmp2 o p a b c) Z S=(evE C a Z S).bind (Wbe C o p b c Z):=by
 show Res.bind _ _=_;congr 1;funext x h;simp only[Wbe];congr 1;funext y g;simp only[Jv5];cases cop o x y g with
 |none=>rfl
 |some k=>cases k<;>rfl
@[simp]theorem w_var:evT C (.var i) Z S=Y2 Z[i]? S:=rfl
@[simp]theorem J1d:evT C (.idx a b) Z S=(evE C a Z S).bind (Wcq C b Z):=rfl
@[simp]theorem J00:evT C (.call f as) Z S=(evA C as Z S).bind (Wct C f):=rfl
@[simp]theorem J0x:evT C (.prim pr as) Z S=(evA C as Z S).bind (Wcj pr):=rfl
@[simp]theorem J1c:evT C (.isi a t) Z S=(evE C a Z S).bind (Wco t):=rfl
@[simp]theorem J1w:evBV C w (.cns a .nul) Z S=evE C a Z S:=rfl
@[simp]theorem J1v:evBV C w (.cns a (.cns b r)) Z S=(evE C a Z S).bind (kBV C w (.cns b r) Z):=rfl
@[simp]theorem J1y:evBT C w (.cns a .nul) Z S=evT C a Z S:=rfl
@[simp]theorem J1x:evBT C w (.cns a (.cns b r)) Z S=(evT C a Z S).bind (kBT C w (.cns b r) Z):=rfl
@[simp]theorem v_c0:evC C .nul Z S=.ok true S:=rfl
@[simp]theorem v_c1:evC C (.cns c .nul) Z S=evT C c Z S:=rfl
@[simp]theorem W3:evA C .nul Z S=.ok [] S:=rfl
@[simp]theorem Zt:evA C (.cns a b) Z S=(evE C a Z S).bind (Wt C b Z):=rfl
@[simp]theorem v_o0:evO C .nul Z S=.ok none S:=rfl
@[simp]theorem v_o1:evO C (.cns a .nul) Z S=(evE C a Z S).bind Wdk:=rfl
@[simp]theorem J1j:evI C (.rng a) Z S=(evE C a Z S).bind Yw:=by
 have:Yw=λx g=>match x with|.int j=>if decide (-(2^62)<=j)&&decide (j<2^62)then .ok (none,(Cf j.toNat).map λ(i:Nat)=>D.int i) g else .bad|_=>.bad:=by
  funext x g;unfold Yw;cases x<;>simp only[Jqu]
 rw[this];rfl
@[simp]theorem J1i:evI C (.cns a .nul) Z S=(evE C a Z S).bind Waq:=rfl
@[simp]theorem Jqi:evG C (.tvar i) d Z S=if i<Z.length then .ok (Z.set i (some d)) S else .bad:=rfl
@[simp]theorem J01:evG C (.ttup ts) (.tup ds) Z S=evGs C ts ds Z S:=rfl
@[simp]theorem J02:evG C (.tsub a b) d Z S=(evE C a Z S).bind (Wdh C b d Z):=rfl
@[simp]theorem J1r:evGs C .nul [] Z S=.ok Z S:=rfl
@[simp]theorem J1q:evGs C (.cns t' ts) (d::ds) Z S=(evG C t' d Z S).bind (evGs C ts ds):=rfl
@[simp]theorem J11:evS C (.asg t' e) Z S=(evE C e Z S).bind (Wau C t' Z):=rfl
@[simp]theorem Jvz:evS C (.ifs c a b) Z S=(evT C c Z S).bind (Xv C a b Z):=rfl
@[simp]theorem Jno:evS C (.ret e) Z S=(evE C e Z S).bind Zf:=rfl
@[simp]theorem Jzg:evS C (.exp e) Z S=(evE C e Z S).bind (Wds Z):=rfl
@[simp]theorem J1s:evS C (.forr t' it b) Z S=(evI C it Z S).bind (kFor C t' b Z):=rfl
@[simp]theorem Wa6:evB C .nul Z S=.ok (.nx Z) S:=rfl
@[simp]theorem Y1:evB C (.cns s r) Z S=(evS C s Z S).bind (kB C r):=rfl
theorem Jap{t b:M}:Xg C t b d Z S=(evG C t d Z S).bind (evB C b):=rfl
@[simp]noncomputable def Wdt(y:D)(S:Store):Res (Option D):=.ok (some y) S
@[simp]def kEl(C:Pr)(el:M)(Z:En)(b:Bool)(S:Store):Res (Option D):=if b then(evE C el Z S).bind Wdt else .ok none S
@[simp]def kCd(C:Pr)(cd el:M)(Z:En)(S:Store):Res (Option D):=(evC C cd Z S).bind (kEl C el Z)
theorem Jam:W8 C tg cd el d Z S=(evG C tg d Z S).bind (kCd C cd el):=rfl
def Jdd{j:Int}(g: -(2^62)<=j)(h:j<2^62):Yw (.int j) S=.ok (none,(Cf j.toNat).map λ(i:Nat)=>.int i) S:=by
 simp only[Yw];rw[if_pos (by rw[<-Jqu,Aj,decide_eq_true_eq,decide_eq_true_eq];exact⟨g,h⟩)]
end
def Ext(S a:Store):Prop:=∃X,a=S++X
def Ext.refl(S:Store):Ext S S:=⟨[],by simp⟩
def Ext.trans(a:Ext S c)(b:Ext c d):Ext S d:=by
 obtain⟨X,rfl⟩:=a;obtain⟨Y,rfl⟩:=b;exact⟨X++Y,by rw[Bc]⟩
def Ext.new(S X:Store):Ext S (S++X):=⟨X,rfl⟩
def Ext.get{S a:Store}{l:Nat}{o:Obj}(e:Ext S a)(h:S[l]? =some o):a[l]? =some o:=by
 obtain⟨X,rfl⟩:=e;exact Jag h
def Ext.len{S a:Store}(e:Ext S a):S.length<=a.length:=by
 obtain⟨X,rfl⟩:=e;simp
def Ext.set{S a:Store}(e:Ext S a)(h:S.length<=l)(o:Obj):Ext S (a.set l o):=by
 obtain⟨X,rfl⟩:=e;exact⟨X.set (l-S.length) o,by rw[List.set_append_right _ _ h]⟩
def Ja4{S:Store}(h:S[l]? =some o):l<S.length:=(Ae.mp h).1
def Jas{S:Store}(h:S[l]? =some o):(S.set l a)[l]? =some a:=D5 (Ja4 h)
def Jb7(S X:Store)(k:Nat):(S++X)[S.length+k]? =X[k]? :=by
 rw[Aw (Iw _ _),Ht]
@[simp]theorem Jau{S:Store}:(S++(a0::X))[S.length]? =some a0:=Jb7 S (a0::X) 0
@[simp]theorem Jbv{S:Store}:(S++(a0::a1::X))[S.length+1]? =some a1:=by rw[Jb7];rfl
@[simp]theorem Jdb{S:Store}:(S++(a0::a1::a::X))[S.length+2]? =some a:=by rw[Jb7];rfl
def Keep(ps:List Nat)(S a:Store):Prop:=S.length<=a.length/\∀l:Nat,l<S.length->l∉ps->a[l]? =S[l]?
section
variable {S S1 S2 B:Store} {ps:List Nat}
def Keep.refl:Keep ps S S:=⟨Ai _,λ_ _ _=>rfl⟩
def Keep.trans(a:Keep ps S S1)(b:Keep ps S1 S2):Keep ps S S2:=⟨Bu a.1 b.1,λl h n=>(b.2 l (Bl h a.1) n).trans (a.2 l h n)⟩
def Keep.get(a:Keep ps S S1)(h:S[l]? =some o)(n:l∉ps):S1[l]? =some o:=(a.2 l (Ja4 h) n).trans h
def Keep.ext(e:Ext S S1):Keep ps S S1:=⟨e.len,λl h n=>by
 rw[Af h];exact e.get (Af h)⟩
def Keep.new(X:Store):Keep ps S (S++X):=.ext (.new _ _)
def Keep.set(h:p∈ps):Keep ps S (S.set p o):=⟨by simp,λl a n=>by
 rw[A1];rintro rfl;exact n h⟩
def Keep.mono(a:Keep ps S S1)(h:∀p∈ps,p∈b):Keep b S S1:=⟨a.1,λl c n=>a.2 l c λz=>n (h l z)⟩
def Keep.less(a:Keep ps S S1)(h:∀p∈ps,p∈b\/S.length<=p):Keep b S S1:=⟨a.1,λl c n=>a.2 l c λz=>(h l z).elim n (by lia)⟩
def Ext.of(k:Keep [] S S1):Ext S S1:=by
 refine⟨S1.drop S.length,Kb λi=>?_⟩;have:=k.1
 by_cases a:i<S.length
 .rw[A0 a];exact k.2 i a (by simp)
 .rw[Aw (by lia),Ru];congr 1;lia
def Ext.keep(e:Ext B S)(k:Keep ps S S1)(h:∀p∈ps,B.length<=p):Ext B S1:=.of (((Keep.ext (ps:=ps) e).trans k).less λp hp=>.inr (h p hp))
end
section
variable {C:Pr} {t b:M} {ds:List D} {S:Store} {Z:En} {g:Wk}
def Yb(I:Nat->En->Store->Prop)(R:D->Store->Prop)(a:I 0 Z S)(same:∀i Z S,I i Z S->sameAt S g ds.length=true)
  (c:∀i Z S,i<ds.length->I i Z S->∃d,nth S g ds i=some d/\Sat (Xg C t b d Z S) (FlP (I (i+1)) R)):Sat (kFor C t b Z (g,ds) S) (FlP (I ds.length) R):=Wd2 I same c _ 0 Z S (by simp) a
def loop(I:Nat->En->Store->Prop)(R:D->Store->Prop)(c:I 0 Z S)(e:∀i d Z S,ds[i]? =some d->I i Z S->Sat (Xg C t b d Z S) (FlP (I (i+1)) R)):Sat (kFor C t b Z (none,ds) S) (FlP (I ds.length) R):=
 Yb I R c (λ_ _ _ _=>rfl) λi Z S a h=>⟨ds[i],Af a,e i _ Z S (Af a) h⟩
def Jef(h:S[l]? =some (.lst ds)):sameAt S (some (l,k)) ds.length=true:=by simp[sameAt,h]
def Waa(I:Nat->En->Store->Prop)(R:D->Store->Prop)(e:I 0 Z S)(a:∀i Z S,I i Z S->S[l]? =some (.lst ds))(f:∀i d Z S,ds[i]? =some d->I i Z S->Sat (Xg C t b d Z S) (FlP (I (i+1)) R)):Sat (kFor C t b Z (some (l,.lst),ds) S) (FlP (I ds.length) R):=
 Yb I R e (λi Z S h=>Jef (a i Z S h)) λi Z S c h=>⟨ds[i],by simp[nth,seqAt,a i Z S h,c],f i _ Z S (Af c) h⟩
def Wbr(I:Nat->En->Store->Prop)(R:D->Store->Prop)(e:I 0 Z S)(a:∀i Z S,I i Z S->S[l]? =some (.lst ds))(f:∀i d Z S,ds[i]? =some d->I i Z S->Sat (Xg C t b (.tup [.int i,d]) Z S) (FlP (I (i+1)) R)):Sat (kFor C t b Z (some (l,.enm),ds) S) (FlP (I ds.length) R):=
 Yb I R e (λi Z S h=>Jef (a i Z S h)) λi Z S c h=>⟨.tup [.int i,ds[i]],by simp[nth,seqAt,a i Z S h,c],f i _ Z S (Af c) h⟩
def comp(I:Nat->List D->Store->Prop)(f:ds.length<=Line)(j:I 0 [] S)(same:∀i a S,I i a S->a.length<=i/\sameAt S g ds.length=true)
  (l:∀i a S,i<ds.length->I i a S->∃d,nth S g ds i=some d/\Sat (W8 C tg cd el d (V2 k keep Z) S) λo e=>I (i+1) (a++o.toList) e):
  Sat (Xi C k keep tg cd el Z (g,ds) S) λd e=>∃ys c,I ds.length ys c/\d=.loc c.length/\e=c++[.lst ys]:=
 (Wb6 I f same l _ 0 [] S (by simp) j).p1 λys c h=>.ok ⟨ys,c,h,rfl,rfl⟩
def Jju{n:Type}{xs:List n}(h:n->D)(f:n->Option D)(s:xs.length<=1000000)(r:g=none\/∃l,g=some (l,.lst)/\S[l]? =some (.lst (xs.map h)))
  (u:∀x∈xs,W8 C tg cd el (h x) (V2 k keep Z) S=.ok (f x) S):Xi C k keep tg cd el Z (g,xs.map h) S=.ok (.loc S.length) (S++[.lst (xs.filterMap f)]):=by
 obtain⟨d,c,e,w,y,⟨rfl,rfl⟩,rfl,rfl⟩:=comp (C:=C) (g:=g) (S:=S) (Z:=Z) (k:=k) (keep:=keep) (tg:=tg) (cd:=cd) (el:=el) (ds:=xs.map h) (λi a c=>a=(xs.take i).filterMap f/\c=S) (by rw[Ah];exact Jo3 s) ⟨by simp,rfl⟩
  (λi a c ⟨o,j⟩=>⟨by rw[o];exact Bu (List.length_filterMap_le _ _) (by simp;lia),by rcases r with rfl|⟨l,rfl,p⟩<;>first|rfl|(rw[j];exact Jef p)⟩)
  (λi a c v ⟨o,j⟩=>by
   have m:i<xs.length:=by simpa using v
   refine⟨h xs[i],?_,?_⟩
   .rcases r with rfl|⟨l,rfl,p⟩
    .simp[nth,m]
    .simp[nth,seqAt,j,p,m]
   .rw[j,u _ (Fw m)];refine .ok ⟨?_,rfl⟩;rw[o,D4,Af m,List.filterMap_append];simp only[Tq,He,List.filterMap_nil];cases f xs[i]<;>rfl)
 rw[e,show(xs.map h).length=xs.length by simp,G4]
def Jbi{a:Type}{xs:List a}(h:a->D)(f:a->D)(c:xs.length<=1000000)(d:g=none\/∃l,g=some (l,.lst)/\S[l]? =some (.lst (xs.map h)))
  (e:∀x∈xs,W8 C tg cd el (h x) (V2 k keep Z) S=.ok (some (f x)) S):Xi C k keep tg cd el Z (g,xs.map h) S=.ok (.loc S.length) (S++[.lst (xs.map f)]):=by
 rw[Jju h (λx=>some (f x)) c d e];simp
end
section
variable {S:Store} {l:Nat} {ds:List D} {d:D} {i:Int}
def Jce(e:atI ds i=some d):Jar (.tup ds) (.int i) S=.ok d S:=by simp only[Jar,Juf e]
def Jaq(h:S[l]? =some (.lst ds))(e:atI ds i=some d):Jar (.loc l) (.int i) S=.ok d S:=by simp only[Jar,Jmj h e]
def at0{b:Type}{a:b}{r:List b}{k:Nat}{x:b}(h:(a::r)[k]? =some x):atI (a::r) (k:Int)=some x:=by rw[Ju9 (Ae.mp h).1];exact h
@[simp]theorem Ja7{a:D}:Jar (.tup (a::ds)) (.int 0) S=.ok a S:=Jce (at0 (k:=0) rfl)
@[simp]theorem Jd4{a b:D}:Jar (.tup (a::b::ds)) (.int 1) S=.ok b S:=Jce (at0 (k:=1) rfl)
@[simp]theorem Jjt{a b c:D}:Jar (.tup (a::b::c::ds)) (.int 2) S=.ok c S:=Jce (at0 (k:=2) rfl)
@[simp]theorem Jo7{a b c e:D}:Jar (.tup (a::b::c::e::ds)) (.int 3) S=.ok e S:=Jce (at0 (k:=3) rfl)
@[simp]theorem Jza{a b c e f x:D}:Jar (.tup (a::b::c::e::f::x::ds)) (.int 5) S=.ok x S:=Jce (at0 (k:=5) rfl)
def J0w{c:Type}{xs:List c}(e:0<=i)(f:i<xs.length):∃x,atI xs i=some x/\x∈xs:=let⟨x,a,b,_⟩:=Jy1 e f;⟨x,a,b⟩
def Jp3{a:Type}{xs:List a}{x:a}:atI (xs++[x]) (-1)=some x:=by
 have b:¬(0:Int)<= -1:=by decide
 have c: -(((xs++[x]).length:Nat):Int)<= -1:=by simp;lia
 simp only[atI,ixN,if_neg b,if_pos c,Ih];have:(-1+(((xs++[x]).length:Nat):Int)).toNat=xs.length:=by simp;lia
 rw[this];simp
def Jo9{a:Type}{xs:List a}{x:a}:ixN (xs++[x]).length (-1)=some xs.length:=by
 have b:¬(0:Int)<= -1:=by decide
 have c: -(((xs++[x]).length:Nat):Int)<= -1:=by simp;lia
 simp only[ixN,if_neg b,if_pos c];congr 1;simp;lia
def Jc6(h:S[l]? =some (.lst (ds++[d]))):Jar (.loc l) (.int (-1)) S=.ok d S:=Jaq h Jp3
def Jn2{e:D}(h:S[l]? =some (.lst (ds++[d]))):Ww (.loc l) (.int (-1)) e S=.ok () (S.set l (.lst (ds++[e]))):=by
 rw[Jii h Jo9];simp
def Jf6(h:S[l]? =some (.lst (ds++[d]))):V4 .pop0 (.loc l) [] S=.ok d (S.set l (.lst ds)):=by
 have:(ds++[d])[(ds++[d]).length-1]? =some d:=by simp
 delta V4;simp only[h,this,List.dropLast_concat]
def Jfx(h:S[l]? =some (.lst ds)):tru S (.loc l)=some (!ds.isEmpty):=by simp only[tru,seqAt,h]
def set_same(h:S[l]? =some o):S.set l o=S:=by
 obtain⟨a,rfl⟩:=Ae.mp h;exact List.set_getElem_self a
@[simp]theorem Jqm:tru S (.bl b)=some b:=rfl
@[simp]theorem Jq1:Ac a=Ac b↔a=b:=⟨Jin,λh=>h▸rfl⟩
@[simp]theorem Jq2:(Ac a==Ac b)=(a==b):=by
 rw[Lb];simp
def Jd1(h:S[l]? =some (.lst ds)):Wq (.loc l) lo a S=.ok (.loc S.length) (S++[.lst (cutD ds lo a)]):=by simp only[Wq,seqAt,h]
def Jd8(a:0<=i):cutD ds (some i) none=ds.drop i.toNat:=by
 simp only[cutD,HT.sIx];rw[if_neg (by lia)]
 by_cases h:i.toNat<=ds.length
 .rw[show min i.toNat ds.length=i.toNat by lia];rw[B9 (by rw[Kr];lia)]
 .rw[F8 (by lia:ds.length<=i.toNat),F8 (by lia),List.take_nil]
def Jhk(a:0<=i):cutD ds none (some i)=ds.take i.toNat:=by
 simp only[cutD,HT.sIx];rw[if_neg (by lia)];simp only[Ui,K9]
 by_cases h:i.toNat<=ds.length
 .rw[show min i.toNat ds.length=i.toNat by lia]
 .rw[show min i.toNat ds.length=ds.length by lia,B9 (Ai _),B9 (by lia)]
variable {kvs:List (Int×D)} {cs:List (Rdu.PK×D)} {fs:List (String×D)} {c f m:String} {x:Int} {p:Rdu.PK}
def Ja6(h:S[l]? =some (.lst ds)):seqAt S l=some ds:=by unfold seqAt;rw[h]
def Ja8(a:isDm me=false)(h:S[l]? =some (.lst ds)):rcv me S (.loc l)=true:=by simp[rcv,a,Ja6 h]
def Jgc(h:S[l]? =some (.ins c fs)):Xj S l c=some fs:=by unfold Xj;rw[h];simp
def Jes(h:S[l]? =some (.ins c fs))(e:fs.lookup f=some d):Zg c f (.loc l) S=.ok d S:=by simp only[Zg,Yr,Jgc h,e]
def Jpf(h:S[l]? =some (.ins c fs))(e:fs.lookup m=none):isRec S (.loc l) c m=true:=by simp only[isRec,Jgc h,e,Option.isNone_none]
def Jf1(h:S[l]? =some (.ins c fs))(a:fs.length<1000):Jub c f Z v (.loc l) S=.ok (.nx Z) (S.set l (.ins c (putD f v fs))):=by simp only[Jub,Zv,Jgc h,if_pos a]
def Juy(h:S[l]? =some (.dct kvs)):cop .inn (.int x) (.loc l) S=some (dVal kvs x).isSome:=by simp[cop,V6,seqAt,h,dIn,Xt]
def Jux(h:S[l]? =some (.dtu cs)):cop .inn (dK p) (.loc l) S=some (dVal cs p).isSome:=by simp[cop,V6,seqAt,h,dIn,Xt,kyD]
def Jpy(h:S[l]? =some (.dtu cs)):cop .nin (dK p) (.loc l) S=some (!(dVal cs p).isSome):=by simp[cop,V6,seqAt,h,dIn,Xt,kyD]
def Jga(h:S[l]? =some (.dtu cs))(e:dVal cs p=some d):Jar (.loc l) (dK p) S=.ok d S:=by simp[Jar,idxD,V6,seqAt,h,Xt,kyD,e]
def Jn4(h:S[l]? =some (.dct kvs))(a:kvs.length<Line):Ww (.loc l) (.int x) v S=.ok () (S.set l (.dct (dPut kvs x v))):=by simp only[Ww,h,if_pos a]
def Jn3(h:S[l]? =some (.dtu cs))(a:cs.length<Line):Ww (.loc l) (dK p) v S=.ok () (S.set l (.dtu (dPut cs p v))):=by simp only[Ww,h,kyD,if_pos a]
def Wae(a:isDm me=true)(h:S[l]? =some (.dtu cs)):rcv me S (.loc l)=true:=by simp[rcv,a,dtAt,h]
def Jl3(h:S[l]? =some (.dtu cs)):V4 .get1 (.loc l) [dK p] S=.ok ((dVal cs p).getD .non) S:=by delta V4;simp[Xt,h,kyD]
def Jl1(h:S[l]? =some (.dtu cs))(e:dVal cs p=some d):V4 .pop1 (.loc l) [dK p] S=.ok d (S.set l (.dtu (dDrop cs p))):=by delta V4;simp[dtAt,h,kyD,e]
def Jua(h:S[l]? =some (.dct kvs)):Vx .len [.loc l] S=.ok (.int kvs.length) S:=by delta Vx;simp[V6,seqAt,h,dctAt]
def Jo2(h:S[l]? =some (.dct kvs)):Vx .list1 [.loc l] S=.ok (.loc S.length) (S++[.lst (kvs.map λp=>.int p.1)]):=by delta Vx;simp[V6,seqAt,h,dctAt]
def Jd7(h:S[l]? =some (.dct kvs)):Vx .dict1 [.loc l] S=.ok (.loc S.length) (S++[.dct kvs]):=by delta Vx;simp[h]
def Jd6(h:S[l]? =some (.dtu cs))(a:aptB (cs.map (·.1))=true):Vx .dict1 [.loc l] S=.ok (.loc S.length) (S++[.dtu cs]):=by delta Vx;simp[h,a]
def Jnu(h:S[l]? =some (.dtu cs))(a:aptB (cs.map (·.1))=true)(b:cs.length<Line):Vx .sort1 [.loc l] S=.ok (.loc S.length) (S++[.lst ((srK (cs.map (·.1))).map dK)]):=by delta Vx;simp[dtAt,h,a,b]
def Jpj(h:S[l]? =some (.dtu cs))(a:aptB (cs.map (·.1))=true)(b:cs.length<Line):Zl (.loc l) S=.ok (.loc S.length) (S++[.dtu (srD cs)]):=by simp[Zl,dtAt,h,a,b]
def Jmb(h:S[l]? =some (.lst ds)):Zh (.loc l) S=.ok (some (l,.enm),ds) S:=by simp only[Zh,Ja6 h]
end
end Mi
namespace K25
open PySem L2 Mi
section
local macro_rules|`(#[])=>`(M.nul)|`(#[$a])=>`(M.cns $a M.nul)|`(#[$a,$b,*])=>`(M.cns $a #[$b,*])|`(‹$n›)=>`(M.cst (D.int $n))|`(↑$n)=>`(M.var $n)
noncomputable def Ja9:Fn:=⟨["self"],.range 1,#[.sfd "Hoard" "unspent" ↑0 (.dnil 1),.sfd "Hoard" "done" ↑0 (.dnil 0)]⟩
noncomputable def Jbm:Fn:=⟨["self"],.range 2,#[.asg (.tvar 1) (.new "Hoard" "Hoard.__init__"),.sfd "Hoard" "unspent" ↑1 (.prim .dict1 #[.fld "Hoard" "unspent" ↑0]),.sfd "Hoard" "done" ↑1 (.prim .dict1 #[.fld "Hoard" "done" ↑0]),.ret ↑1]⟩
noncomputable def Jb5:Fn:=⟨["self"],.range 1,#[.ret (.hld (.fld "Hoard" "unspent" ↑0))]⟩
noncomputable def Jcv:Fn:=⟨["self","number"],.range 2,#[.ret (.cmp .inn ↑1 (.fld "Hoard" "done" ↑0))]⟩
noncomputable def Ja3:Fn:=⟨["self","deed","height"],.range 5,#[.ifs (.mcl "Hoard" "did" "Hoard.did" ↑0 #[.idx ↑1 ‹0›]) #[.ret (.cst (.str "known"))] .nul,.ifs (.call "has_twice" #[.call "spent_by" #[↑1]]) #[.ret (.cst (.str "twice"))] .nul,.forr (.tvar 3) #[.idx ↑1 ‹1›] #[.asg (.tvar 4) (.mcl "Hoard" "fault_of_in" "Hoard.fault_of_in" ↑0 #[↑3,↑1,↑2]),.ifs (.cmp .isnc ↑4 (.cst .non)) #[.ret ↑4] .nul],.ifs (.bo true #[.nott (.call "is_maker" #[↑1]),.cmp .gt (.call "worth_of" #[↑1]) (.mcl "Hoard" "worth_spent" "Hoard.worth_spent" ↑0 #[↑1])]) #[.ret (.cst (.str "less"))] .nul,.ret (.cst .non)]⟩
noncomputable def Jat:Fn:=⟨["self","part","deed","height"],.range 5,#[.asg (.tvar 4) (.meth .get1 (.fld "Hoard" "unspent" ↑0) #[.idx ↑1 ‹0›]),.ifs (.cmp .isc ↑4 (.cst .non)) #[.ret (.cst (.str "gone"))] .nul,.ifs (.cmp .lt ↑3 (.idx ↑4 (.glb "FREE"))) #[.ret (.cst (.str "green"))] .nul,.ifs (.nott (.call "opens" #[.idx ↑4 (.glb "LOCK"),.idx ↑1 ‹1›,.call "facts_of" #[↑4,↑2,↑3]])) #[.ret (.cst (.str "shut"))] .nul,.ret (.cst .non)]⟩
noncomputable def Jbt:Fn:=⟨["self","deed"],.range 2,#[.ret (.ife (.call "is_maker" #[↑1]) ‹0› (.bin .sub (.mcl "Hoard" "worth_spent" "Hoard.worth_spent" ↑0 #[↑1]) (.call "worth_of" #[↑1])))]⟩
noncomputable def Ja1:Fn:=⟨["self","deed"],.range 2,#[.ret (.prim .sum1 #[.comp ["coin","self"] 1 [0] (.tvar 0) #[.call "spent_by" #[↑1]] .nul (.idx (.idx (.fld "Hoard" "unspent" ↑1) ↑0) (.glb "WORTH"))])]⟩
noncomputable def Jdq:Fn:=⟨["self","deed","height","free"],[0,1,2,3,4,6,5,7],#[.asg (.tvar 4) (.mcl "Hoard" "fault" "Hoard.fault" ↑0 #[↑1,↑2]),.ifs (.cmp .isnc ↑4 (.cst .non)) #[.rse] .nul,.asg (.tvar 5) (.tup #[↑1,.prim .tuple1 #[.comp ["coin","self"] 1 [0] (.tvar 0) #[.call "spent_by" #[↑1]] .nul (.tup #[↑0,.idx (.fld "Hoard" "unspent" ↑1) ↑0])]]),.forr (.tvar 6) #[.call "spent_by" #[↑1]] #[.exp (.meth .pop1 (.fld "Hoard" "unspent" ↑0) #[↑6])],.forr (.ttup #[.tvar 6,.tvar 7]) (.zp (.call "made_by" #[↑1]) (.idx ↑1 ‹2›)) #[.asg (.tsub (.fld "Hoard" "unspent" ↑0) ↑6) (.tup #[.idx ↑7 ‹0›,.idx ↑7 ‹1›,↑2,↑3])],.asg (.tsub (.fld "Hoard" "done" ↑0) (.idx ↑1 ‹0›)) (.cst (.bl true)),.ret ↑5]⟩
noncomputable def Jdn:Fn:=⟨["deed"],.range 1,#[.ret (.cmp .eq (.prim .len #[.idx ↑0 ‹1›]) ‹0›)]⟩
noncomputable def Jew:Fn:=⟨["deed"],.range 1,#[.ret (.comp ["place","deed"] 1 [0] (.tvar 0) (.rng (.prim .len #[.idx ↑0 ‹2›])) .nul (.tup #[.idx ↑1 ‹0›,↑0]))]⟩
noncomputable def Jdg:Fn:=⟨["deed"],.range 1,#[.ret (.prim .sum1 #[.comp ["out"] 1 [] (.tvar 0) #[.idx ↑0 ‹2›] .nul (.idx ↑0 ‹0›)])]⟩
noncomputable def Jmr:Fn:=⟨["rules","height"],.range 4,#[.asg (.tvar 2) (.idx ↑0 ‹0›),.asg (.tvar 3) (.prim .max2 #[.bin .fdiv (.bin .sub ↑1 ‹1›) (.idx ↑0 ‹1›),‹0›]),.ret (.bin .shr ↑2 (.prim .min2 #[↑3,.bit ↑2]))]⟩
noncomputable def Jbs:Fn:=⟨["hoard","block","height","rules"],.range 9,#[.asg (.tvar 4) (.mcl "Hoard" "copied" "Hoard.copied" ↑0 .nul),.asg (.tvar 5) ‹0›,.forr (.ttup #[.tvar 6,.tvar 7]) (.enm (.idx ↑1 ‹3›)) #[.asg (.tvar 8) (.mcl "Hoard" "fault" "Hoard.fault" ↑4 #[↑7,↑2]),.ifs (.cmp .isnc ↑8 (.cst .non)) #[.ret (.tup #[↑6,↑8])] .nul,.aug 5 (.mcl "Hoard" "fee" "Hoard.fee" ↑4 #[↑7]),.exp (.mcl "Hoard" "do" "Hoard.do" ↑4 #[↑7,↑2,.call "free_from" #[↑7,↑2,↑3]])],.ifs (.cmp .gt (.call "worth_of_makers" #[↑1]) (.bin .add (.call "gift" #[↑3,↑2]) ↑5)) #[.ret (.tup #[‹0›,.cst (.str "much")])] .nul,.ret (.cst .non)]⟩
noncomputable def Jdp:Fn:=⟨["hoard","block","height","rules"],.range 5,#[.asg (.tvar 4) (.call "block_fault" #[↑0,↑1,↑2,↑3]),.ifs (.cmp .isnc ↑4 (.cst .non)) #[.rse] .nul,.ret (.comp ["deed","height","hoard","rules"] 1 [2,0,3] (.tvar 0) #[.idx ↑1 ‹3›] .nul (.mcl "Hoard" "do" "Hoard.do" ↑2 #[↑0,↑1,.call "free_from" #[↑0,↑1,↑3]]))]⟩
noncomputable def Jcu:Fn:=⟨["deed","height","rules"],.range 3,#[.ret (.ife (.call "is_maker" #[↑0]) (.bin .add ↑1 (.idx ↑2 ‹2›)) ↑1)]⟩
noncomputable def Ja5:Fn:=⟨["block"],.range 1,#[.ret (.prim .sum1 #[.comp ["deed"] 1 [] (.tvar 0) #[.idx ↑0 ‹3›] #[.call "is_maker" #[↑0]] (.call "worth_of" #[↑0])])]⟩
noncomputable def Jix:Fn:=⟨["lock","keys","facts"],.range 7,#[.asg (.tvar 3) (.lst .nul),.asg (.tvar 4) (.lst .nul),.ifs (.nott (.call "lay" #[↑3,↑1])) #[.ret (.cst (.bl false))] .nul,.forr (.tvar 5) #[↑0] #[.ifs (.cmp .inn (.idx ↑5 ‹0›) (.tup #[.cst (.str "if"),.cst (.str "else"),.cst (.str "end")])) #[.asg (.tvar 6) (.nott (.call "turn" #[.idx ↑5 ‹0›,↑4,↑3]))] #[.asg (.tvar 6) (.bo true #[.call "is_done" #[↑4],.nott (.call "do_row" #[↑5,↑3,↑2])])],.ifs ↑6 #[.ret (.cst (.bl false))] .nul],.ret (.bo true #[.cmp .gt (.prim .len #[↑3]) ‹0›,.cmp .ne (.idx ↑3 (.neg ‹1›)) ‹0›])]⟩
noncomputable def Jc8:Fn:=⟨["parts"],.range 1,#[.ret (.bo false #[.nott ↑0,.idx (.idx ↑0 (.neg ‹1›)) ‹0›])]⟩
noncomputable def Jum:Fn:=⟨["pile","numbers"],.range 3,#[.forr (.tvar 2) #[↑1] #[.ifs (.bo false #[.cmp .ge (.prim .abs #[↑2]) (.bin .pow ‹10› ‹60›),.cmp .ge (.prim .len #[↑0]) (.glb "MOST_LYING")]) #[.ret (.cst (.bl false))] .nul,.exp (.meth .append ↑0 #[↑2])],.ret (.cst (.bl true))]⟩
noncomputable def Jhf:Fn:=⟨["word","parts","pile"],.range 4,#[.ifs (.cmp .eq ↑0 (.cst (.str "end"))) #[.exp (.meth .pop0 ↑1 .nul)] #[.ifs (.cmp .eq ↑0 (.cst (.str "else"))) #[.asg (.tsub ↑1 (.neg ‹1›)) (.tup #[.idx (.idx ↑1 (.neg ‹1›)) ‹1›,.cst (.bl false)])] #[.ifs (.nott (.call "is_done" #[↑1])) #[.exp (.meth .append ↑1 #[.tup #[.cst (.bl false),.cst (.bl false)]])] #[.ifs (.nott ↑2) #[.ret (.cst (.bl false))] #[.asg (.tvar 3) (.meth .pop0 ↑2 .nul),.exp (.meth .append ↑1 #[.tup #[.cmp .ne ↑3 ‹0›,.cmp .eq ↑3 ‹0›]])]]]],.ret (.cst (.bl true))]⟩
noncomputable def Jgf:Fn:=⟨["row","pile","facts"],.range 4,#[.ifs (.nott (.call "has_enough" #[↑0,↑1])) #[.ret (.cst (.bl false))] .nul,.asg (.tvar 3) (.call "take" #[↑1,.meth .get2 (.glb "TAKEN") #[.idx ↑0 ‹0›,‹0›]]),.ifs (.cmp .eq (.idx ↑0 ‹0›) (.cst (.str "need"))) #[.ret (.cmp .ne (.idx ↑3 ‹0›) ‹0›)] .nul,.ret (.call "lay" #[↑1,.call "laid_by" #[↑0,↑3,↑1,↑2]])]⟩
noncomputable def Jb4:Fn:=⟨["row","pile"],.range 2,#[.ifs (.cmp .eq (.idx ↑0 ‹0›) (.cst (.str "copy"))) #[.ret (.cmp2 .le .lt ‹0› (.idx ↑0 ‹1›) (.prim .len #[↑1]))] .nul,.ret (.cmp .le (.meth .get2 (.glb "TAKEN") #[.idx ↑0 ‹0›,‹0›]) (.prim .len #[↑1]))]⟩
noncomputable def Jmq:Fn:=⟨["pile","count"],.range 4,#[.asg (.tvar 2) (.sli ↑0 #[.bin .sub (.prim .len #[↑0]) ↑1] .nul),.forr (.tvar 3) #[↑2] #[.exp (.meth .pop0 ↑0 .nul)],.ret ↑2]⟩
noncomputable def Jb3:Fn:=⟨["row","taken","pile","facts"],.range 5,#[.asg (.tvar 4) (.idx ↑0 ‹0›),.ifs (.cmp .eq ↑4 (.cst (.str "push"))) #[.ret (.lst #[.idx ↑0 ‹1›])] .nul,.ifs (.cmp .eq ↑4 (.cst (.str "copy"))) #[.ret (.lst #[.idx ↑2 (.bin .sub (.neg ‹1›) (.idx ↑0 ‹1›))])] .nul,.ifs (.cmp .eq ↑4 (.cst (.str "paid"))) #[.ret (.lst #[.call "paid_at" #[.idx ↑3 (.glb "PAID"),.idx ↑0 ‹1›]])] .nul,.ifs (.cmp .inn ↑4 (.glb "FACT_WORDS")) #[.ret (.lst #[.idx ↑3 (.meth .indexT (.glb "FACT_WORDS") #[↑4])])] .nul,.ifs (.cmp .eq ↑4 (.cst (.str "drop"))) #[.ret (.lst .nul)] .nul,.ifs (.cmp .eq ↑4 (.cst (.str "swap"))) #[.ret (.lst #[.idx ↑1 ‹1›,.idx ↑1 ‹0›])] .nul,.ifs (.cmp .eq ↑4 (.cst (.str "not"))) #[.ret (.lst #[.ife (.cmp .eq (.idx ↑1 ‹0›) ‹0›) ‹1› ‹0›])] .nul,.ret (.lst #[.call "outcome" #[↑4,.idx ↑1 ‹0›,.idx ↑1 ‹1›]])]⟩
noncomputable def Jb1:Fn:=⟨["paid","place"],.range 2,#[.ret (.ife (.cmp2 .le .lt ‹0› ↑1 (.prim .len #[↑0])) (.idx ↑0 ↑1) ‹0›)]⟩
noncomputable def Jc7:Fn:=⟨["word","a","b"],.range 3,#[.ifs (.cmp .eq ↑0 (.cst (.str "add"))) #[.ret (.bin .add ↑1 ↑2)] .nul,.ifs (.cmp .eq ↑0 (.cst (.str "sub"))) #[.ret (.bin .sub ↑1 ↑2)] .nul,.ifs (.cmp .eq ↑0 (.cst (.str "mul"))) #[.ret (.bin .mul ↑1 ↑2)] .nul,.ifs (.cmp .eq ↑0 (.cst (.str "less"))) #[.ret (.ife (.cmp .lt ↑1 ↑2) ‹1› ‹0›)] .nul,.ret (.ife (.cmp .eq ↑1 ↑2) ‹1› ‹0›)]⟩
noncomputable def Jdh:Fn:=⟨["deed"],.range 1,#[.ret (.comp ["part"] 1 [] (.tvar 0) #[.idx ↑0 ‹1›] .nul (.idx ↑0 ‹0›))]⟩
noncomputable def Jct:Fn:=⟨["coins"],.range 1,#[.ret (.cmp .lt (.lsp ↑0) (.prim .len #[↑0]))]⟩
noncomputable def Jdo:Fn:=⟨["kept","deed","height"],.range 5,#[.asg (.tvar 3) (.prim .max2 #[.bin .sub ↑2 (.idx ↑0 (.glb "MADE")),‹0›]),.asg (.tvar 4) (.prim .tuple1 #[.comp ["out"] 1 [] (.tvar 0) #[.idx ↑1 ‹2›] .nul (.idx ↑0 ‹0›)]),.ret (.tup #[↑2,↑3,.idx ↑0 (.glb "WORTH"),.prim .len #[.idx ↑1 ‹1›],.prim .len #[.idx ↑1 ‹2›],↑4])]⟩
noncomputable def Jcq:Fn:=⟨["_law_cell"],.range 1,#[.ret (.bin .mod (.bin .mul (.bin .mul (.bin .add (.bin .mod ↑0 ‹2147483647›) ‹11›) ‹48271›) ‹69621›) ‹2147483629›)]⟩
noncomputable def Jb2:Fn:=⟨["_law_cell","_law_k","_law_digits"],.range 4,#[.asg (.tvar 3) (.bin .mod (.bin .add (.call "_law_mixed" #[↑0]) (.bin .mul ‹69621› ↑1)) ‹2147483629›),.ifs ↑2 #[.ret (.lst #[.bin .fdiv (.bin .mod ↑0 (.bin .mul (.bin .pow ‹10› ‹60›) (.bin .pow ‹10› ‹60›))) (.bin .add ‹1› (.prim .int1 #[.cmp .eq ↑1 ‹0›])),.cst (.bl true),↑3])] .nul,.ret (.lst #[↑3,.cst (.bl false),↑3])]⟩
noncomputable def Jbn:Fn:=⟨["_law_stream_here","_law_many"],.range 3,#[.ifs (.bo true #[.idx ↑0 ‹1›,.cmp .gt (.idx ↑0 ‹0›) ‹1›]) #[.asg (.tvar 2) (.bin .mod (.idx ↑0 ‹0›) ↑1),.asg (.tsub ↑0 ‹0›) (.bin .fdiv (.idx ↑0 ‹0›) ↑1),.ret ↑2] .nul,.ifs (.idx ↑0 ‹1›) #[.asg (.tsub ↑0 ‹0›) (.idx ↑0 ‹2›),.asg (.tsub ↑0 ‹1›) (.cst (.bl false))] .nul,.asg (.tsub ↑0 ‹0›) (.bin .mod (.bin .add (.bin .mul (.idx ↑0 ‹0›) ‹48271›) ‹11›) ‹2147483629›),.ret (.bin .mod (.bin .fdiv (.idx ↑0 ‹0›) ‹7›) ↑1)]⟩
noncomputable def Jba:Fn:=⟨["_law_script"],.range 2,#[.asg (.tvar 1) (.bo true #[.cmp .gt (.prim .len #[↑0]) ‹0›,.cmp .eq (.bin .mod (.idx ↑0 ‹0›) ‹2›) ‹1›]),.ret (.comp ["_law_k","_law_cell","_law_digits"] 2 [1] (.ttup #[.tvar 0,.tvar 1]) (.enm (.sli (.bin .add ↑0 (.lst #[‹0›])) .nul #[‹60›])) .nul (.call "_law_stream" #[↑1,↑0,↑2]))]⟩
noncomputable def Wg:Fn:=⟨["_law_stream_here"],.range 6,#[.asg (.tvar 1) (.bin .sub (.call "_law_take" #[↑0,‹2000›]) ‹1000›),.asg (.tvar 2) (.tup #[.cst (.str "push"),.bin .mod (.prim .abs #[↑1]) ‹9›]),.asg (.tvar 3) (.lst #[.tup .nul,.tup #[.tup #[.cst (.str "push"),‹1›]],.tup #[.tup #[.cst (.str "push"),↑1],.tup #[.cst (.str "same")]],.tup #[.tup #[.cst (.str "height")],↑2,.tup #[.cst (.str "less")],.tup #[.cst (.str "not")]]]),.exp (.meth .append ↑3 #[.tup #[.tup #[.cst (.str "age")],.tup #[.cst (.str "push"),.bin .mod (.prim .abs #[↑1]) ‹4›],.tup #[.cst (.str "less")],.tup #[.cst (.str "not")]]]),.exp (.meth .append ↑3 #[.tup #[.tup #[.cst (.str "if")],.tup #[.cst (.str "push"),↑1],.tup #[.cst (.str "same")],.tup #[.cst (.str "else")],.tup #[.cst (.str "push"),‹1›],.tup #[.cst (.str "end")]]]),.exp (.meth .append ↑3 #[.tup #[.tup #[.cst (.str "worth")],↑2,.tup #[.cst (.str "less")],.tup #[.cst (.str "not")]]]),.exp (.meth .append ↑3 #[.tup #[.tup #[.cst (.str "ins")],.tup #[.cst (.str "push"),.bin .add ‹1› (.bin .mod (.prim .abs #[↑1]) ‹3›)],.tup #[.cst (.str "same")]]]),.exp (.meth .append ↑3 #[.tup #[.tup #[.cst (.str "outs")],.tup #[.cst (.str "push"),.bin .add ‹1› (.bin .mod (.prim .abs #[↑1]) ‹3›)],.tup #[.cst (.str "same")],.tup #[.cst (.str "not")]]]),.exp (.meth .append ↑3 #[.tup #[.tup #[.cst (.str "paid"),.bin .mod (.prim .abs #[↑1]) ‹2›],↑2,.tup #[.cst (.str "less")],.tup #[.cst (.str "not")]]]),.asg (.tvar 4) (.lst #[.tup #[.bin .add ‹1› (.prim .abs #[↑1])],.tup .nul,.tup #[↑1],.tup .nul,.tup .nul,.idx (.lst #[.tup #[↑1,‹1›],.tup #[‹0›]]) (.bin .mod ↑1 ‹2›)]),.asg (.tvar 5) (.call "_law_take" #[↑0,‹10›]),.ret (.tup #[.idx ↑3 ↑5,.idx (.bin .add ↑4 (.lst #[.tup .nul,.tup .nul,.tup .nul,.tup .nul])) ↑5])]⟩
noncomputable def Jdi:Fn:=⟨["_law_stream_here","_law_total","_law_ring"],.range 8,#[.asg (.tvar 3) (.lst .nul),.forr (.tvar 4) (.rng (.call "_law_take" #[↑0,‹3›])) #[.ifs (.cmp .gt ↑1 ‹1›) #[.asg (.ttup #[.tvar 5,.tvar 6]) (.call "_law_lock" #[↑0]),.asg (.tvar 7) (.bin .add ‹1› (.call "_law_take" #[↑0,.bin .sub ↑1 ‹1›])),.asg (.tvar 1) (.bin .sub ↑1 ↑7),.asg (.tsub ↑2 ↑5) ↑6,.exp (.meth .append ↑3 #[.tup #[↑7,↑5]])] .nul],.asg (.ttup #[.tvar 5,.tvar 6]) (.call "_law_lock" #[↑0]),.asg (.tsub ↑2 ↑5) ↑6,.ret (.prim .tuple1 #[.bin .add ↑3 (.lst #[.tup #[↑1,↑5]])])]⟩
noncomputable def Jge:Fn:=⟨["_law_stream_here","_law_coins","_law_ring"],.range 7,#[.asg (.tvar 3) (.prim .sort1 #[↑1]),.asg (.tvar 4) (.call "_law_take" #[↑0,‹12›]),.ifs (.bo false #[.cmp .eq ↑3 (.lst .nul),.cmp .eq ↑4 ‹0›]) #[.ret (.tup #[.tup #[.call "_law_take" #[↑0,‹90›],.call "_law_take" #[↑0,‹3›]],.tup .nul])] .nul,.asg (.tvar 5) (.idx ↑3 (.call "_law_take" #[↑0,.prim .len #[↑3]])),.asg (.tvar 6) (.idx ↑2 (.idx (.idx ↑1 ↑5) ‹1›)),.ifs (.cmp .eq ↑4 ‹1›) #[.asg (.tvar 6) (.bin .add ↑6 (.tup #[‹0›]))] .nul,.ret (.tup #[↑5,.sli ↑6 .nul #[‹10›]])]⟩
noncomputable def Jdm:Fn:=⟨["_law_stream_here","_law_number","_law_coins","_law_ring"],.range 9,#[.asg (.tvar 4) (.lst .nul),.forr (.tvar 5) (.rng (.bin .add ‹1› (.call "_law_take" #[↑0,‹3›]))) #[.asg (.tvar 6) (.call "_law_in" #[↑0,↑2,↑3]),.ifs (.bo false #[.cmp .nin (.idx ↑6 ‹0›) (.comp ["_law_other"] 1 [] (.tvar 0) #[↑4] .nul (.idx ↑0 ‹0›)),.cmp .eq (.call "_law_take" #[↑0,‹6›]) ‹0›]) #[.exp (.meth .append ↑4 #[↑6])] .nul],.asg (.tvar 7) (.prim .sum1 #[.comp ["_law_one","_law_coins"] 1 [2] (.tvar 0) #[↑4] #[.cmp .inn (.idx ↑0 ‹0›) ↑1] (.idx (.idx ↑1 (.idx ↑0 ‹0›)) ‹0›)]),.asg (.tvar 8) (.call "_law_take" #[↑0,‹8›]),.ifs (.cmp .eq ↑8 ‹0›) #[.asg (.tvar 7) (.bin .add ↑7 ‹1›)] .nul,.ifs (.bo true #[.cmp .gt ↑8 ‹4›,.cmp .gt ↑7 ‹1›]) #[.asg (.tvar 7) (.bin .add ‹1› (.call "_law_take" #[↑0,↑7]))] .nul,.ret (.tup #[↑1,.prim .tuple1 #[↑4],.call "_law_outs" #[↑0,.prim .min2 #[.bin .pow ‹10› ‹40›,.prim .max2 #[‹1›,↑7]],↑3]])]⟩
noncomputable def Jcf:Fn:=⟨["_law_coins","_law_done_here","_law_deed_here","_law_height"],.range 17,#[.asg (.ttup #[.tvar 4,.tvar 5,.tvar 6]) ↑2,.ifs (.cmp .inn ↑4 ↑1) #[.ret (.cst (.str "known"))] .nul,.asg (.tvar 7) (.comp ["_law_one"] 1 [] (.tvar 0) #[↑5] .nul (.idx ↑0 ‹0›)),.ifs (.cmp .lt (.lsp ↑7) (.prim .len #[↑7])) #[.ret (.cst (.str "twice"))] .nul,.forr (.ttup #[.tvar 8,.tvar 9]) #[↑5] #[.ifs (.cmp .nin ↑8 ↑0) #[.ret (.cst (.str "gone"))] .nul,.asg (.ttup #[.tvar 10,.tvar 11,.tvar 12,.tvar 13]) (.idx ↑0 ↑8),.ifs (.cmp .lt ↑3 ↑13) #[.ret (.cst (.str "green"))] .nul,.asg (.tvar 14) (.prim .tuple1 #[.comp ["_law_out"] 1 [] (.tvar 0) #[↑6] .nul (.idx ↑0 ‹0›)]),.asg (.tvar 15) (.tup #[↑3,.prim .max2 #[‹0›,.bin .sub ↑3 ↑12],↑10,.prim .len #[↑5],.prim .len #[↑6],↑14]),.ifs (.nott (.call "opens" #[↑11,↑9,↑15])) #[.ret (.cst (.str "shut"))] .nul],.asg (.tvar 16) (.prim .sum1 #[.comp ["_law_out"] 1 [] (.tvar 0) #[↑6] .nul (.idx ↑0 ‹0›)]),.ifs (.bo true #[.cmp .ne ↑5 (.tup .nul),.cmp .gt ↑16 (.prim .sum1 #[.comp ["_law_name","_law_coins"] 1 [0] (.tvar 0) #[↑7] .nul (.idx (.idx ↑1 ↑0) ‹0›)])]) #[.ret (.cst (.str "less"))] .nul,.ret (.cst .non)]⟩
noncomputable def Jex:Fn:=⟨["_law_coins","_law_done_here","_law_deed_here","_law_height","_law_free"],[0,1,2,3,4,6,7,8,9,5],#[.asg (.tvar 5) (.bin .sub ‹0› (.prim .sum1 #[.comp ["_law_out"] 1 [] (.tvar 0) #[.idx ↑2 ‹2›] .nul (.idx ↑0 ‹0›)])),.forr (.ttup #[.tvar 6,.tvar 7]) #[.idx ↑2 ‹1›] #[.asg (.tvar 5) (.bin .add ↑5 (.idx (.meth .pop1 ↑0 #[↑6]) ‹0›))],.forr (.ttup #[.tvar 8,.tvar 9]) (.enm (.idx ↑2 ‹2›)) #[.asg (.tsub ↑0 (.tup #[.idx ↑2 ‹0›,↑8])) (.tup #[.idx ↑9 ‹0›,.idx ↑9 ‹1›,↑3,↑4])],.asg (.tsub ↑1 (.idx ↑2 ‹0›)) (.cst (.bl true)),.ret (.bin .mul ↑5 (.prim .int1 #[.cmp .ne (.idx ↑2 ‹1›) (.tup .nul)]))]⟩
noncomputable def Jdl:Fn:=⟨["_law_rules_here","_law_height"],.range 4,#[.asg (.tvar 2) (.idx ↑0 ‹0›),.forr (.tvar 3) (.rng (.prim .min2 #[‹200›,.bin .fdiv (.bin .sub ↑1 ‹1›) (.idx ↑0 ‹1›)])) #[.asg (.tvar 2) (.bin .fdiv ↑2 ‹2›)],.ret ↑2]⟩
noncomputable def Wi:Fn:=⟨["_law_coins","_law_done_here","_law_block_here","_law_height","_law_rules_here"],.range 9,#[.asg (.tvar 0) (.prim .dict1 #[↑0]),.asg (.tvar 1) (.prim .dict1 #[↑1]),.asg (.tvar 5) ‹0›,.forr (.ttup #[.tvar 6,.tvar 7]) (.enm (.idx ↑2 ‹3›)) #[.asg (.tvar 8) (.call "_law_word" #[↑0,↑1,↑7,↑3]),.ifs (.cmp .isnc ↑8 (.cst .non)) #[.ret (.tup #[.tup #[↑6,↑8],↑0,↑1,‹0›])] .nul,.asg (.tvar 5) (.bin .add ↑5 (.call "_law_put" #[↑0,↑1,↑7,↑3,.bin .add ↑3 (.bin .mul (.idx ↑4 ‹2›) (.prim .int1 #[.cmp .eq ↑6 ‹0›]))]))],.ifs (.cmp .gt (.prim .sum1 #[.comp ["_law_out"] 1 [] (.tvar 0) #[.idx (.idx (.idx ↑2 ‹3›) ‹0›) ‹2›] .nul (.idx ↑0 ‹0›)]) (.bin .add (.call "_law_gift" #[↑4,↑3]) ↑5)) #[.ret (.tup #[.tup #[‹0›,.cst (.str "much")],↑0,↑1,↑5])] .nul,.ret (.tup #[.cst .non,↑0,↑1,↑5])]⟩
noncomputable def tl:M:= #[.exp (.meth .append ↑10 #[.call "_law_deed" #[↑0,↑12,↑8,↑6]]),.ifs (.cmp .isc (.call "_law_word" #[↑8,↑9,.idx ↑10 (.neg ‹1›),↑4]) (.cst .non)) #[.exp (.call "_law_put" #[↑8,↑9,.idx ↑10 (.neg ‹1›),↑4,↑4])] .nul]
def lpB:M:=(.cns (.asg (.tvar 12) (.bin .add (.bin .add ↑1 ‹1›) ↑11)) (.cns (.asg (.tvar 13) (.call "_law_take" #[↑0,‹16›])) (.cns (.ifs (.cmp .eq ↑13 ‹0›) #[.asg (.tvar 12) (.idx (.prim .list1 #[↑9]) (.call "_law_take" #[↑0,.prim .len #[↑9]]))] .nul) tl)))
def rest:M:= #[.asg (.tvar 8) (.prim .dict1 #[↑2]),.asg (.tvar 9) (.prim .dict1 #[↑3]),.asg (.tvar 10) (.lst #[.tup #[↑1,.tup .nul,.call "_law_outs" #[↑0,.prim .min2 #[.bin .pow ‹10› ‹40›,↑7],↑6]]]),.exp (.call "_law_put" #[↑8,↑9,.idx ↑10 ‹0›,↑4,.bin .add ↑4 (.idx ↑5 ‹2›)]),.forr (.tvar 11) (.rng (.idx (.lst #[.call "_law_take" #[↑0,‹5›],.call "_law_take" #[↑0,‹12›]]) (.prim .int1 #[.cmp .eq (.call "_law_take" #[↑0,‹4›]) ‹3›]))) lpB,.asg (.tvar 14) (.comp ["_law_k","_law_stream_here"] 1 [0] (.tvar 0) (.rng ‹3›) .nul (.call "_law_take" #[↑1,.bin .pow ‹10› ‹30›])),.asg (.tvar 15) (.tup #[.bin .add ‹1› (.idx ↑14 ‹0›),.idx ↑14 ‹1›,.bin .add ‹1› (.idx ↑14 ‹2›),.prim .tuple1 #[↑10]]),.ifs (.cmp .eq (.call "_law_take" #[↑0,‹3›]) ‹0›) #[.asg (.tvar 16) (.idx (.call "_law_done" #[↑2,↑3,↑15,↑4,↑5]) ‹3›),.asg (.tvar 7) (.bin .add (.bin .add (.call "_law_gift" #[↑5,↑4]) ↑16) (.call "_law_take" #[↑0,‹2›])),.asg (.tvar 17) (.tup #[↑1,.tup .nul,.tup #[.tup #[.prim .min2 #[.bin .pow ‹10› ‹40›,.prim .max2 #[‹1›,↑7]],.idx (.idx (.idx (.idx ↑10 ‹0›) ‹2›) ‹0›) ‹1›]]]),.asg (.tvar 15) (.bin .add (.sli ↑15 .nul #[‹3›]) (.tup #[.bin .add (.tup #[↑17]) (.sli (.idx ↑15 ‹3›) #[‹1›] .nul)]))] .nul,.ret ↑15]
def Jcr:Fn:=⟨["_law_stream_here","_law_first","_law_held","_law_known","_law_height","_law_rules_here","_law_ring"],.range 18,(.cns (.asg (.tvar 7) (.prim .max2 #[‹1›,.bin .sub (.bin .add (.call "_law_gift" #[↑5,↑4]) (.call "_law_take" #[↑0,‹4›])) ‹2›])) (.cns (.ifs (.cmp .eq (.call "_law_take" #[↑0,‹3›]) ‹0›) #[.asg (.tvar 7) (.bin .add ‹1› (.call "_law_take" #[↑0,↑7]))] .nul) rest))⟩
noncomputable def Jcp:Fn:=⟨["_law_stream_here"],.range 2,#[.asg (.tvar 1) (.idx (.lst #[‹0›,‹1›,‹7›,‹50›,‹1000›,.bin .pow ‹10› ‹40›]) (.call "_law_take" #[↑0,‹6›])),.ret (.tup #[↑1,.idx (.lst #[‹1›,‹2›,‹3›,‹1000›]) (.call "_law_take" #[↑0,‹4›]),.idx (.lst #[‹0›,‹0›,‹1›,‹2›,‹5›,‹1000›]) (.call "_law_take" #[↑0,‹6›])])]⟩
noncomputable def Jcs:Fn:=⟨["_law_script"],.range 4,#[.asg (.tvar 1) (.sli (.call "_law_streams" #[↑0]) .nul #[‹17›]),.asg (.tvar 2) (.call "_law_rules" #[.idx ↑1 ‹0›]),.asg (.tvar 3) (.idx (.lst #[‹0›,‹0›,‹3›,.call "_law_take" #[.idx ↑1 ‹0›,.bin .pow ‹10› ‹20›]]) (.call "_law_take" #[.idx ↑1 ‹0›,‹4›])),.ret (.tup #[.bin .add (.sli ↑1 #[‹1›] .nul) (.lst #[.call "_law_stream" #[‹7›,‹17›,.cst (.bl false)]]),↑2,↑3])]⟩
noncomputable def Jdj:Fn:=⟨["_law_stream_here","_law_rules_here","_law_height"],.range 3,#[.ret (.bin .add ↑2 (.idx (.lst #[‹1›,‹1›,‹1›,.prim .max2 #[‹1›,.idx ↑1 ‹2›],.prim .max2 #[‹1›,.bin .sub (.idx ↑1 ‹2›) ‹1›],.bin .add ‹1› (.call "_law_take" #[↑0,‹2000›])]) (.call "_law_take" #[↑0,‹6›])))]⟩
noncomputable def Jdk:Fn:=⟨["_law_block_here","_law_coins","_law_done_here","_law_height"],.range 7,#[.asg (.tvar 1) (.prim .dict1 #[↑1]),.asg (.tvar 2) (.prim .dict1 #[↑2]),.asg (.tvar 4) ‹0›,.asg (.tvar 5) (.lst .nul),.forr (.tvar 6) #[.sli (.idx ↑0 ‹3›) #[‹1›] .nul] #[.ifs (.bo true #[.cmp .ne (.idx ↑6 ‹0›) (.idx (.idx (.idx ↑0 ‹3›) ‹0›) ‹0›),.cmp .isc (.call "_law_word" #[↑1,↑2,↑6,↑3]) (.cst .non)]) #[.asg (.tvar 4) (.bin .add ↑4 (.call "_law_put" #[↑1,↑2,↑6,↑3,↑3])),.exp (.meth .append ↑5 #[↑6])] .nul],.ret (.tup #[.prim .tuple1 #[↑5],↑4])]⟩
noncomputable def lpW:M:= #[.asg (.tvar 16) (.tup #[.bin .add (.bin .mul ‹20› ↑8) ‹1›,.tup .nul,.tup #[.tup #[.prim .min2 #[.bin .pow ‹10› ‹40›,.prim .max2 #[‹1›,↑15]],.idx (.idx (.idx (.idx (.idx ↑10 ‹3›) ‹0›) ‹2›) ‹0›) ‹1›]]]),.exp (.meth .append ↑14 #[.bin .add (.sli ↑10 .nul #[‹3›]) (.tup #[.bin .add (.tup #[↑16]) ↑11])])]
noncomputable def tlM:M:= #[.exp (.call "do_block" #[↑4,.idx ↑14 ‹0›,↑3,↑2]),.asg (.tvar 5) (.idx (.call "_law_done" #[↑5,↑6,.idx ↑14 ‹0›,↑3,↑2]) ‹1›),.forr (.tvar 18) #[.idx (.idx ↑14 ‹0›) ‹3›] #[.asg (.tsub ↑6 (.idx ↑18 ‹0›)) (.cst (.bl true))],.ifs (.cmp .ne (.mcl "Hoard" "held" "Hoard.held" ↑4 .nul) ↑5) #[.ret (.cst (.bl false))] .nul]
def tlL:M:= #[.asg (.tvar 17) (.comp ["_law_one","_law_hoard","_law_height","_law_rules_here"] 1 [4,3,2] (.tvar 0) #[↑14] .nul (.call "block_fault" #[↑1,↑0,↑2,↑3])),.ifs (.cmp .ne ↑17 (.lst #[.idx (.lst #[.cst .non,.tup #[‹0›,.cst (.str "much")]]) (.prim .int1 #[.cmp .eq ↑13 ‹0›]),.idx (.lst #[.tup #[‹0›,.cst (.str "much")],.cst .non]) (.prim .int1 #[.cmp .ge ↑13 (.bin .pow ‹10› ‹40›)])])) #[.ret (.cst (.bl false))] .nul,.ifs (.cmp .gt ↑13 ‹0›) tlM .nul]
def Wam:M:=(.cns (.asg (.tvar 3) (.call "_law_next" #[↑9,↑2,↑3])) (.cns (.asg (.tvar 10) (.call "_law_block" #[↑9,.bin .add (.bin .mul ‹20› ↑8) ‹1›,↑5,↑6,↑3,↑2,↑7])) (.cns (.asg (.ttup #[.tvar 11,.tvar 12]) (.call "_law_good" #[↑10,↑5,↑6,↑3])) (.cns (.asg (.tvar 13) (.bin .add (.call "_law_gift" #[↑2,↑3]) ↑12)) (.cns (.asg (.tvar 14) (.lst .nul)) (.cns (.forr (.tvar 15) #[.tup #[↑13,.bin .add ↑13 ‹1›]] lpW) tlL))))))
def Jun:Fn:=⟨["_law_script"],.range 19,#[.asg (.ttup #[.tvar 1,.tvar 2,.tvar 3]) (.call "_law_begin" #[↑0]),.asg (.tvar 4) (.new "Hoard" "Hoard.__init__"),.asg (.tvar 5) (.dnil 1),.asg (.tvar 6) (.dnil 0),.asg (.tvar 7) (.dnil 2),.forr (.ttup #[.tvar 8,.tvar 9]) (.enm ↑1) Wam,.ret (.cst (.bl true))]⟩
end
def T:Tb:=λf=>[("Hoard.__init__",Ja9),("Hoard.copied",Jbm),("Hoard.held",Jb5),("Hoard.did",Jcv),("Hoard.fault",Ja3),("Hoard.fault_of_in",Jat),("Hoard.fee",Jbt),("Hoard.worth_spent",Ja1),("Hoard.do",Jdq),("is_maker",Jdn),("made_by",Jew),("worth_of",Jdg),("gift",Jmr),("block_fault",Jbs),("do_block",Jdp),("free_from",Jcu),("worth_of_makers",Ja5),("opens",Jix),("is_done",Jc8),("lay",Jum),("turn",Jhf),("do_row",Jgf),("has_enough",Jb4),("take",Jmq),("laid_by",Jb3),("paid_at",Jb1),("outcome",Jc7),("spent_by",Jdh),("has_twice",Jct),("facts_of",Jdo),("_law_mixed",Jcq),("_law_stream",Jb2),("_law_take",Jbn),("_law_streams",Jba),("_law_lock",Wg),("_law_outs",Jdi),("_law_in",Jge),("_law_deed",Jdm),("_law_word",Jcf),("_law_put",Jex),("_law_gift",Jdl),("_law_done",Wi),("_law_block",Jcr),("_law_rules",Jcp),("_law_begin",Jcs),("_law_next",Jdj),("_law_good",Jdk),("law",Jun)].lookup f
noncomputable def G:String->Option D:=λx=>if x="MOST_LYING" then some (.int 20)else if x="TAKEN" then some (.kd [("drop",1),("swap",2),("add",2),("sub",2),("mul",2),("less",2),("same",2),("not",1),("need",1)])else if x="PAID" then some (.int 5)else if x="FACT_WORDS" then some (.tup [.str "height",.str "age",.str "worth",.str "ins",.str "outs"])else if x="MADE" then some (.int 2)else if x="WORTH" then some (.int 0)else if x="FREE" then some (.int 3)else if x="LOCK" then some (.int 1)else none
theorem Jdc:T "Hoard.__init__"=some Ja9:=rfl
theorem Jdx:T "Hoard.copied"=some Jbm:=rfl
theorem Jfd:T "Hoard.held"=some Jb5:=rfl
theorem Jgx:T "Hoard.did"=some Jcv:=rfl
theorem Je9:T "Hoard.fault"=some Ja3:=rfl
theorem Jb9:T "Hoard.fault_of_in"=some Jat:=rfl
theorem Jgw:T "Hoard.fee"=some Jbt:=rfl
theorem Jb8:T "Hoard.worth_spent"=some Ja1:=rfl
theorem Jie:T "Hoard.do"=some Jdq:=rfl
theorem Jib:T "is_maker"=some Jdn:=rfl
theorem Ji6:T "made_by"=some Jew:=rfl
theorem Jh0:T "worth_of"=some Jdg:=rfl
theorem Jqb:T "gift"=some Jmr:=rfl
theorem Je8:T "block_fault"=some Jbs:=rfl
theorem Jid:T "do_block"=some Jdp:=rfl
theorem Jgv:T "free_from"=some Jcu:=rfl
theorem Jc1:T "worth_of_makers"=some Ja5:=rfl
theorem Jnf:T "opens"=some Jix:=rfl
theorem Ji8:T "is_done"=some Jc8:=rfl
theorem Jvd:T "lay"=some Jum:=rfl
theorem Jp9:T "turn"=some Jhf:=rfl
theorem Jkx:T "do_row"=some Jgf:=rfl
theorem Jfc:T "has_enough"=some Jb4:=rfl
theorem Jqa:T "take"=some Jmq:=rfl
theorem Jc2:T "laid_by"=some Jb3:=rfl
theorem Ji5:T "paid_at"=some Jb1:=rfl
theorem Je6:T "outcome"=some Jc7:=rfl
theorem Jh1:T "spent_by"=some Jdh:=rfl
theorem Jgu:T "has_twice"=some Jct:=rfl
theorem Jic:T "facts_of"=some Jdo:=rfl
theorem Jgr:T "_law_mixed"=some Jcq:=rfl
theorem Jfb:T "_law_stream"=some Jb2:=rfl
theorem Jh3:T "_law_take"=some Jbn:=rfl
theorem Je7:T "_law_streams"=some Jba:=rfl
theorem Jh6:T "_law_lock"=some Wg:=rfl
theorem Jh4:T "_law_outs"=some Jdi:=rfl
theorem Jkw:T "_law_in"=some Jge:=rfl
theorem Jia:T "_law_deed"=some Jdm:=rfl
theorem Jh2:T "_law_word"=some Jcf:=rfl
theorem Ji7:T "_law_put"=some Jex:=rfl
theorem Jh8:T "_law_gift"=some Jdl:=rfl
theorem Jh9:T "_law_done"=some Wi:=rfl
theorem Jgs:T "_law_block"=some Jcr:=rfl
theorem Jgq:T "_law_rules"=some Jcp:=rfl
theorem Jgt:T "_law_begin"=some Jcs:=rfl
theorem Jh5:T "_law_next"=some Jdj:=rfl
theorem Jh7:T "_law_good"=some Jdk:=rfl
theorem Jve:T "law"=some Jun:=rfl
@[simp]theorem Jca:G "MOST_LYING"=some (.int 20):=rfl
@[simp]theorem Jnh:G "TAKEN"=some (.kd [("drop",1),("swap",2),("add",2),("sub",2),("mul",2),("less",2),("same",2),("not",1),("need",1)]):=rfl
@[simp]theorem Jy4:G "PAID"=some (.int 5):=rfl
@[simp]theorem Jdv:G "FACT_WORDS"=some (.tup [.str "height",.str "age",.str "worth",.str "ins",.str "outs"]):=rfl
@[simp]theorem Jy5:G "MADE"=some (.int 2):=rfl
@[simp]theorem Jng:G "WORTH"=some (.int 0):=rfl
@[simp]theorem Jrs:G "FREE"=some (.int 3):=rfl
@[simp]theorem Jy6:G "LOCK"=some (.int 1):=rfl
@[simp]theorem Jzr:rcv p S (.tup ds)= !isDm p:=rfl
@[simp]theorem J07:rcv p S (.kd ks)= !isDm p:=rfl
inductive Wd where|less|same|not|height|age|worth|ins|outs
 deriving DecidableEq
noncomputable def Wd.nm:Wd->String
 |.less=>"less"|.same=>"same"|.not=>"not"|.height=>"height"|.age=>"age"|.worth=>"worth"|.ins=>"ins"|.outs=>"outs"
inductive Rw where|push (n:Int)|paid (k:Int)|w (x:Wd)|iff|els|fin
def rD:Rw->D
 |.push n=>.tup [.str "push",.int n]
 |.paid k=>.tup [.str "paid",.int k]
 |.w x=>.tup [.str x.nm]
 |.iff=>.tup [.str "if"]
 |.els=>.tup [.str "else"]
 |.fin=>.tup [.str "end"]
structure Fx where
 h:Int
 a:Int
 w:Int
 i:Int
 o:Int
 paid:List Int
noncomputable def fD(f:Fx):D:=.tup [.int f.h,.int f.a,.int f.w,.int f.i,.int f.o,.tup (f.paid.map D.int)]
def big(n:Int):Prop:=1000000000000000000000000000000000000000000000000000000000000<=(if n<0 then -n else n)
noncomputable instance (n:Int):Decidable (big n):=inferInstanceAs (Decidable (_<=_))
noncomputable def layP(p:List Int):List Int->Bool×List Int
 |[]=>(true,p)
 |n::ns=>if big n\/20<=p.length then(false,p)else layP (p++[n]) ns
noncomputable abbrev pl(p:List Int):Mi.Obj:=.lst (p.map D.int)
section
variable {W:Nat}
inductive ILay (S:Store) (p:Nat) (nD:D) (pile ns:List Int) (i:Nat) (Z:En) (S':Store):Prop
 |mk (a) (_:Z=[some (.loc p),some nD,a]) (_:S'=S.set p (pl (pile++ns.take i))) (_:layP pile ns=layP (pile++ns.take i) (ns.drop i)):ILay S p nD pile ns i Z S'
def Wb8(S:Store)(p:Nat)(pile ns:List Int)(d:D)(a:Store):Prop:=d=.bl (layP pile ns).1/\a=S.set p (pl (layP pile ns).2)
def Jq7(n:Nat){S:Store}{p:Nat}{nD:D}{g:Wk}{pile ns:List Int}(hp:S[p]? =some (pl pile))(w:pile.length+ns.length<=1000)(u:Waq nD S=.ok (g,ns.map D.int) S)(s:g=none\/∃q,g=some (q,.lst)/\p≠q/\S[q]? =some (pl ns)):
  Sat (callN T G W (n+1) "lay" [.loc p,nD] S) (Wb8 S p pile ns):=by
 rw[Jaa Jvd rfl];simp[Jum,u,-Waq];refine Sat.p2 (Yb (ILay S p nD pile ns) (Wb8 S p pile ns) ⟨none,rfl,by simp[set_same hp],by simp⟩ ?_ ?_) ?_
 .rintro i Z t ⟨a,rfl,rfl,_⟩;rcases s with rfl|⟨q,rfl,r,h⟩
  .rfl
  .exact Jef (by rw[A1 r];exact h)
 .rintro i Z t f ⟨a,rfl,rfl,b⟩;have f:i<ns.length:=by simpa using f
  refine⟨.int ns[i],?_,?_⟩
  .rcases s with rfl|⟨q,rfl,r,h⟩
   .simp[nth,f]
   .simp[nth,seqAt,A1 r,h,f]
  have j:(S.set p (pl (pile++ns.take i)))[p]? =some (pl (pile++ns.take i)):=Jas hp;rw[Bw f]at b;rw[Jap];simp only[layP]at b
  by_cases o:big ns[i]
  .rw[if_pos (.inl o)]at b;have k:(1000000000000000000000000000000000000000000000000000000000000:Int)<=(if ns[i]<0 then -ns[i]else ns[i]):=o;simp[Jcw,k];exact⟨by rw[b],by rw[b]⟩
  .have k:¬(1000000000000000000000000000000000000000000000000000000000000:Int)<=(if ns[i]<0 then -ns[i]else ns[i]):=o;simp[Jcw,k,Jca];rw[Jay j];have e:(pile++ns.take i).take (pile++ns.take i).length=pile++ns.take i:=G4
   by_cases m:20<=(pile++ns.take i).length
   .rw[if_pos (.inr m)]at b;have c:(20:Int)<=(((pile++ns.take i).map D.int).length:Nat):=by rw[Ah];lia
    simp only[Jig,Jv0,Jno,Wa6,Y1,Was,Jnq,Y6,Xv,Zf,kB,Res.bind_ok,Jni,Jfr,decide_eq_true c,if_true,Jca];simp;exact⟨by rw[b],by rw[b]⟩
   .rw[if_neg (λz=>z.elim o m)]at b;have c:¬(20:Int)<=(((pile++ns.take i).map D.int).length:Nat):=by rw[Ah];lia
    simp only[Jig,Jv0,Jno,Wa6,Y1,Was,Jnq,Y6,Xv,Zf,kB,Res.bind_ok,Jni,Jfr,decide_eq_false c,Jca];simp[Ja8 (me:=.append) rfl j];rw[Jax j (Jbq (by simp;lia))];simp;refine⟨_,rfl,?_,?_⟩
    .congr 1;rw[D4 (l:=ns),Af f];simp only[pl,Fc,Tq,Ax,G5,Bc,Kl]
    .rw[b,D4,Af f];simp
 .intro x t h;rcases h.nr with⟨Z,rfl,a,rfl,rfl,b⟩|⟨d,rfl,v⟩
  .simp;simp[layP]at b;exact⟨by rw[b],by rw[b]⟩
  .simp;exact v
noncomputable def tk:Wd->Nat
 |.less=>2|.same=>2|.not=>1
 |_=>0
noncomputable def Za(F:Fx)(k:Int):Int:=if 0<=k/\k<F.paid.length then F.paid.getD k.toNat 0 else 0
noncomputable def Yp(F:Fx)(a b:Int):Wd->Int
 |.less=>if a<b then 1 else 0|.same=>if a=b then 1 else 0
 |.not=>if a=0 then 1 else 0|.height=>F.h|.age=>F.a|.worth=>F.w|.ins=>F.i|.outs=>F.o
def paid_at(n:Nat)(F:Fx)(k:Int)(S:Store):callN T G W (n+1) "paid_at" [.tup (F.paid.map D.int),.int k] S=.ok (.int (Za F k)) S:=by
 rw[Jaa Ji5 rfl];unfold Za
 by_cases a:0<=k
 .by_cases b:k<F.paid.length
  .have e:atI (F.paid.map D.int) k=some (.int (F.paid.getD k.toNat 0)):=by
    have c:k.toNat<F.paid.length:=by omega
    simp only[atI,ixN,Ah,if_pos a,if_pos b,Ih];rw[Ao,Af c,E3,Af c];rfl
   simp[Jb1,a,b];rw[Jce e];simp;rw[Af (by omega)];rfl
  .simp[Jb1,a,b]
 .simp[Jb1,a]
def tkR:Rw->Nat
 |.w x=>tk x
 |_=>0
def word:Rw->String
 |.push _=>"push"|.paid _=>"paid"|.w x=>x.nm|.iff=>"if"|.els=>"else"|.fin=>"end"
def Jf3(r:Rw)(S:Store):Jar (rD r) (.int 0) S=.ok (.str (word r)) S:=by cases r<;>simp[rD,word]
theorem Jg1(r:Rw)(S:Store):V4 .get2 (.kd [("drop",1),("swap",2),("add",2),("sub",2),("mul",2),("less",2),("same",2),("not",1),("need",1)]) [.str (word r),.int 0] S=.ok (.int (tkR r)) S:=by
 delta V4;dsimp only
 cases r with
 |w x=>cases x<;>simp[word,Wd.nm,Du,tkR,tk]
 |_=>simp[word,Du,tkR]
theorem Jk0(r:Rw):¬word r="copy"/\¬word r="need"/\¬word r="drop"/\¬word r="swap":=by
 cases r with
 |w x=>cases x<;>decide
 |_=>simp[word]
def has_enough(n:Nat){pile:List Int}(hp:S[p]? =some (pl pile))(r:Rw):callN T G W (n+1) "has_enough" [rD r,.loc p] S=.ok (.bl (decide (tkR r<=pile.length))) S:=by
 rw[Jaa Jfc rfl];have a:=Jay hp;rw[Ah]at a;simp[Jb4,Jf3,(Jk0 r).1,Jnh,Jg1,a,isDm]
inductive ITake (S:Store) (p q:Nat) (c:Int) (pile:List Int) (i:Nat) (Z:En) (S':Store):Prop
 |mk (a) (_:Z=[some (.loc p),some (.int c),some (.loc q),a]) (_:S'=S.set p (pl (pile.take (pile.length-i)))):ITake S p q c pile i Z S'
def Jr3(n:Nat){S:Store}{pile:List Int}(hp:S[p]? =some (pl pile))(t:c<=pile.length):
  callN T G W (n+1) "take" [.loc p,.int c] S=.ok (.loc S.length) ((S++[pl (pile.drop (pile.length-c))]).set p (pl (pile.take (pile.length-c)))):=by
 suffices h:Sat (callN T G W (n+1) "take" [.loc p,.int c] S) λd j=>d=.loc S.length/\j=(S++[pl (pile.drop (pile.length-c))]).set p (pl (pile.take (pile.length-c))) by
  obtain⟨d,j,e,rfl,rfl⟩:=h;exact e
 rw[Jaa Jqa rfl];have b:=Jay hp;rw[Ah]at b;have k:cutD (pile.map D.int) (some ((pile.length:Int)-c)) none=(pile.drop (pile.length-c)).map D.int:=by
  rw[Jd8 (by lia),Pk];congr 1
  lia
 simp only[Jmq,Ax,G5,Bb,Fe];simp[b];rw[Jd1 hp,k];have r:p<S.length:=Ja4 hp;have l:(S++[pl (pile.drop (pile.length-c))])[S.length]? =some (pl (pile.drop (pile.length-c))):=Jac;have f:(S++[pl (pile.drop (pile.length-c))])[p]? =some (pl pile):=Jag hp;generalize S++[pl (pile.drop (pile.length-c))]=m at l f ⊢;simp[Ja6 l];refine Sat.p2 (Waa (ITake m p S.length c pile) noR ⟨none,rfl,by simp[set_same f]⟩ ?_ ?_) ?_
 .rintro i Z j ⟨a,rfl,rfl⟩;rw[A1 (by lia)];rw[<-Pk];exact l
 .rintro i d _ j s ⟨a,rfl,rfl⟩;have u:i<c:=by
   have:=(Ae.mp s).1;simp at this
   lia
  have g:pile.take (pile.length-i)=pile.take (pile.length-(i+1))++[pile[pile.length-(i+1)]]:=by
   rw[show pile.length-i=pile.length-(i+1)+1 by lia,D4,Af (by lia)];rfl
  have o:(m.set p (pl (pile.take (pile.length-i))))[p]? =some (.lst ((pile.take (pile.length-(i+1))).map D.int++[D.int pile[pile.length-(i+1)]])):=by
   rw[Jas f,g];simp only[pl,Fc,Ax,G5]
  rw[Jap];simp[Ja8 (me:=.pop0) rfl o];rw[Jf6 o];simp;exact⟨_,rfl,by rw[<-Kl]⟩
 .intro v j h;obtain⟨_,rfl,a,rfl,rfl⟩:=h.nx;simp;rw[show pile.length-(pile.length-(pile.length-c))=pile.length-c by lia]
def Xh(F:Fx)(t:List Int):Rw->Int
 |.push n=>n
 |.paid k=>Za F k
 |.w x=>Yp F (t.getD 0 0) (t.getD 1 0) x
 |_=>0
noncomputable def W4:Rw->Bool
 |.iff=>false|.els=>false|.fin=>false
 |_=>true
theorem laid_by(n:Nat){S:Store}{t:List Int}(l:S[q]? =some (pl t))(F:Fx)(r:Rw)(j:W4 r=true)(i:t.length=tkR r):
  callN T G W (n+2) "laid_by" [rD r,.loc q,.loc p,fD F] S=.ok (.loc S.length) (S++[pl [Xh F t r]]):=by
 have m:∀a d,t=a::d->Jar (.loc q) (.int 0) S=.ok (.int a) S:=λa d e=>Jaq l (by rw[e];exact at0 (k:=0) rfl);have s:∀a b d,t=a::b::d->Jar (.loc q) (.int 1) S=.ok (.int b) S:=λa b d e=>Jaq l (by rw[e];exact at0 (k:=1) rfl);cases r with
 |iff=>cases j
 |els=>cases j
 |fin=>cases j
 |push k=>kernel_rfl
 |paid k=>
  rw[Jaa Jc2 rfl];simp[Jb3,rD,fD,Jy4];rw[paid_at n F k S];simp[Line,Xh]
 |w x=>
  have f:∀x:Wd,cop .inn (.str x.nm) (.tup [.str "height",.str "age",.str "worth",.str "ins",.str "outs"]) S=some (decide (tk x=0)):=λx=>by
   cases x<;>rfl
  have g:∀a b v,t=[a,b]->callN T G W (n+1) "outcome" [.str x.nm,.int a,.int b] S=.ok (.int v) S->¬tk x=0->¬x=.not->callN T G W (n+2) "laid_by" [rD (.w x),.loc q,.loc p,fD F] S=.ok (.loc S.length) (S++[pl [v]]):=λa b v e o u y=>by
   rw[Jaa Jc2 rfl];have h:=f x;cases x<;>first|(exact absurd rfl u)|(exact absurd rfl y)|(simp only[Wd.nm]at h o;simp[Jb3,rD,Wd.nm,Jdv,h,tk,m _ _ e,s _ _ _ e,o,Line])
  rcases t with _|⟨a,_|⟨b,_|⟨c,t⟩⟩⟩
  .cases x<;>first|(cases i;done)|kernel_rfl
  .cases x<;>try (cases i;done)
   rw[Jaa Jc2 rfl];have h:=f .not;simp only[Wd.nm]at h
   by_cases z:a=0<;>simp[Jb3,rD,Wd.nm,Jdv,h,tk,m a [] rfl,z,Line,Xh,Yp]
  .cases x<;>try (cases i;done)
   .refine g a b _ rfl ?_ (by decide) (by decide);rw[Jaa Je6 rfl]
    by_cases h:a<b<;>simp[Jc7,Wd.nm,h,Xh,Yp]
   .refine g a b _ rfl ?_ (by decide) (by decide);rw[Jaa Je6 rfl]
    by_cases h:a=b<;>simp[Jc7,Wd.nm,h,Xh,Yp]
  .exfalso;cases x<;>simp[tkR,tk]at i
def Xz(F:Fx)(p:List Int)(r:Rw):Bool×List Int:=if p.length<tkR r then(false,p)else layP (p.take (p.length-tkR r)) [Xh F (p.drop (p.length-tkR r)) r]
theorem Jjs{p:List Int}(h:p.length<=20):∀{ns:List Int},(layP p ns).2.length<=20:=by
 intro ns
 induction ns generalizing p with
 |nil=>exact h
 |cons n ns a=>
  simp only[layP];split
  .exact h
  .rename_i b;refine a ?_;rw[Ap,C5];have:¬20<=p.length:=λz=>b (.inr z)
   lia
def Wca(S:Store)(p:Nat)(z:Bool×List Int)(d:D)(a:Store):Prop:=d=.bl z.1/\Keep [p] S a/\a[p]? =some (pl z.2)
def do_row(n:Nat){S:Store}{p:Nat}{pile:List Int}(hp:S[p]? =some (pl pile))(F:Fx)(r:Rw)(h:W4 r=true)(l:pile.length<=20):
  Sat (callN T G W (n+3) "do_row" [rD r,.loc p,fD F] S) (Wca S p (Xz F pile r)):=by
 rw[Jaa Jkx rfl];simp[Jgf];rw[has_enough (n+1) hp r]
 by_cases c:tkR r<=pile.length
 .have i:p<S.length:=Ja4 hp;have f:=Jr3 (W:=W) (n+1) hp c;have b:((S++[pl (pile.drop (pile.length-tkR r))]).set p (pl (pile.take (pile.length-tkR r))))[S.length]? =some (pl (pile.drop (pile.length-tkR r))):=by
   rw[A1 (by lia)];exact Jac
  have a:((S++[pl (pile.drop (pile.length-tkR r))]).set p (pl (pile.take (pile.length-tkR r))))[p]? =some (pl (pile.take (pile.length-tkR r))):=Jas (Jag hp);have e:Keep [p] S ((S++[pl (pile.drop (pile.length-tkR r))]).set p (pl (pile.take (pile.length-tkR r)))):=(Keep.new _).trans (.set (by simp));generalize(S++[pl (pile.drop (pile.length-tkR r))]).set p (pl (pile.take (pile.length-tkR r)))=g at f b a e;have j:=laid_by (W:=W) n (p:=p) b F r h (by rw[Kr];lia);obtain⟨d,m,k,rfl,rfl⟩:=Jq7 (W:=W) (n+1) (S:=g++[pl [Xh F (pile.drop (pile.length-tkR r)) r]]) (nD:=.loc g.length) (ns:=[Xh F (pile.drop (pile.length-tkR r)) r]) (Jag a) (by simp;lia) (by simp[seqAt]) (.inr ⟨_,rfl,by have:=e.1;lia,Jac⟩);simp[c,Jf3,Jnh,Jg1,f,(Jk0 r).2.1,j,isDm];rw[k];simp[Wca,Xz,if_neg (Sf.mpr c)];exact⟨(e.trans (.new _)).trans (.set (by simp)),by rw[Jas (Jag a)]⟩
 .simp[c];exact⟨by simp[Xz,if_pos (show pile.length<tkR r by lia)],.refl,by rw[hp,Xz,if_pos (by lia)]⟩
abbrev Pt:=Bool×Bool
noncomputable def pD(x:Pt):D:=.tup [.bl x.1,.bl x.2]
abbrev pts(st:List Pt):Mi.Obj:=.lst (st.reverse.map pD)
noncomputable def Wy:List Pt->Bool
 |[]=>true
 |x::_=>x.1
def Jf4(x:Pt)(st:List Pt):pts (x::st)=.lst (st.reverse.map pD++[pD x]):=by simp
theorem is_done(n:Nat){st:List Pt}(a:S[q]? =some (pts st)):callN T G W (n+1) "is_done" [.loc q] S=.ok (.bl (Wy st)) S:=by
 rw[Jaa Ji8 rfl];cases st with
 |nil=>simp[Jc8,Jfx a,Wy]
 |cons x st=>
  rw[Jf4]at a;simp[Jc8,Jfx a,Wy];rw[Jc6 a];simp[pD]
def Wv(p:List Int)(st:List Pt):Rw->Option (Bool×List Int×List Pt)
 |.fin=>match st with|[]=>none|_::s=>some (true,p,s)
 |.els=>match st with|[]=>none|x::s=>some (true,p,(x.2,false)::s)
 |.iff=>if Wy st then(if p=[]then some (false,p,st)else some (true,p.dropLast,(decide (p.getLastD 0≠0),decide (p.getLastD 0=0))::st))else some (true,p,(false,false)::st)
 |_=>none
def Wb9(S:Store)(p q:Nat)(z:Bool×List Int×List Pt)(d:D)(a:Store):Prop:=d=.bl z.1/\Keep [p,q] S a/\a[p]? =some (pl z.2.1)/\a[q]? =some (pts z.2.2)
def Jha{p:List Int}(h:p≠[]):p=p.dropLast++[p.getLastD 0]:=by
 rcases Qn p with rfl|⟨l,x,rfl⟩
 .exact absurd rfl h
 .simp
theorem turn(n:Nat){st:List Pt}(hp:S[p]? =some (pl pile))(a:S[q]? =some (pts st))(c:p≠q)(u:st.length<=1000)(r:Rw)(hz:Wv pile st r=some z):
  Sat (callN T G W (n+2) "turn" [.str (word r),.loc q,.loc p] S) (Wb9 S p q z):=by
 rw[Jaa Jp9 rfl];have e:∀o,(S.set q o)[p]? =some (pl pile):=λo=>by rw[A1 c.symm];exact hp
 have b:∀o,(S.set q o)[q]? =some o:=λo=>Jas a;cases r with
 |fin=>
  cases st with
  |nil=>cases hz
  |cons x s=>
   cases hz;rw[Jf4]at a;simp[Jhf,word,Ja8 (me:=.pop0) rfl a];rw[Jf6 a];simp;exact⟨rfl,.set (by simp),e _,by rw[b];simp⟩
 |els=>
  cases st with
  |nil=>cases hz
  |cons x s=>
   cases hz;rw[Jf4]at a;simp[Jhf,word];rw[Jc6 a];simp[pD,Line];rw[Jn2 a];simp;exact⟨rfl,.set (by simp),e _,by rw[b];simp[pD]⟩
 |iff=>
  simp[Jhf,word];rw[is_done n a];simp only[Wv]at hz;cases j:Wy st with
  |false=>
   rw[j]at hz;cases hz;simp[Line,Ja8 (me:=.append) rfl a];rw[Jax a (Jbq (by simp;lia))];simp;exact⟨rfl,.set (by simp),e _,by rw[b];simp[pD]⟩
  |true=>
   rw[j,if_pos rfl]at hz
   by_cases i:pile=[]
   .subst i;cases hz;simp[Jfx hp];exact⟨rfl,.refl,hp,a⟩
   .rw[if_neg i]at hz;cases hz;have f:S[p]? =some (.lst (pile.dropLast.map D.int++[D.int (pile.getLastD 0)])):=by
     rw[hp]
     conv=>lhs;rw[Jha i]
     simp
    have g:(S.set p (.lst (pile.dropLast.map D.int)))[q]? =some (pts st):=by rw[A1 c];exact a
    have k:=Jax (d:=pD (decide (pile.getLastD 0≠0),decide (pile.getLastD 0=0))) g (Jbq (by simp;lia));simp only[pD,decide_not]at k;have m:=Ja8 (me:=.append) rfl g;generalize v:pile.getLastD 0=x at*;have t:=Jf6 f;generalize h:S.set p (.lst (pile.dropLast.map D.int))=l at*;simp[Jfx f,Ja8 (me:=.pop0) rfl f,t,m,Line,k];have w:l.length=S.length:=by rw[<-h,Fd]
    refine⟨rfl,(show Keep [p,q] S l by rw[<-h];exact .set (by simp)).trans (.set (by simp)),?_,?_⟩
    .rw[A1 c.symm,<-h,Jas hp]
    .rw[Jas g];simp[pD]
 |_=>cases hz
def V8(F:Fx)(p:List Int)(st:List Pt)(r:Rw):Option (Bool×List Int×List Pt):=
 if W4 r then(if Wy st then some ((Xz F p r).1,(Xz F p r).2,st)else some (true,p,st))else Wv p st r
noncomputable def Wb5(p:List Int):Bool:= !p.isEmpty&&decide (p.getLastD 0≠0)
def runP(F:Fx):List Rw->List Int->List Pt->Option Bool
 |[],p,_=>some (Wb5 p)
 |r::rs,p,st=>match V8 F p st r with
  |none=>none
  |some (true,b,a)=>runP F rs b a
  |some (false,_,_)=>some false
def Xq(F:Fx)(b:List Rw)(a:List Int):Option Bool:=if(layP [] a).1 then runP F b (layP [] a).2 []else some false
def Jnr{p:List Int}{st:List Pt}{z:Bool×List Int×List Pt}(h:p.length<=20)(hz:V8 F p st r=some z):z.2.1.length<=20/\z.2.2.length<=st.length+1:=by
 unfold V8 at hz;split at hz
 .split at hz
  .cases hz;refine⟨?_,by simp⟩;unfold Xz;split
   .exact h
   .exact Jjs (by simp;lia)
  .cases hz;exact⟨h,by simp⟩
 .cases r<;>simp only[Wv]at hz<;>try (cases hz;done)
  .split at hz
   .split at hz<;>cases hz<;>exact⟨by simp;lia,by simp⟩
   .cases hz;exact⟨h,by simp⟩
  .cases st<;>cases hz;exact⟨h,by simp⟩
  .cases st<;>cases hz;exact⟨h,by simp;lia⟩
theorem Jx8(r:Rw)(S:Store):cop .inn (.str (word r)) (.tup [.str "if",.str "else",.str "end"]) S=some (!W4 r):=by
 cases r with
 |w x=>cases x<;>rfl
 |_=>rfl
inductive IOpens (F:Fx) (lock:List Rw) (kD:D) (p q:Nat) (B:Store) (b:Bool) (i:Nat) (Z:En) (S:Store):Prop
 |mk (pile st a c) (_:Z=[some (.tup (lock.map rD)),some kD,some (fD F),some (.loc p),some (.loc q),a,c]) (_:Ext B S) (_:S[p]? =some (pl pile)) (_:S[q]? =some (pts st)) (_:pile.length<=20) (_:st.length<=i) (_:runP F (lock.drop i) pile st=some b):IOpens F lock kD p q B b i Z S
theorem Jjm(n:Nat)(F:Fx)(m:List Rw)(j:List Int)(S:Store)(hl:m.length<=500)(hk:j.length<=500){b:Bool}(H:Xq F m j=some b):
  ∃t,callN T G W (n+4) "opens" [.tup (m.map rD),.tup (j.map D.int),fD F] S=.ok (.bl b) t/\Ext S t:=by
 suffices h:Sat (callN T G W (n+4) "opens" [.tup (m.map rD),.tup (j.map D.int),fD F] S) λd t=>d=.bl b/\Ext S t by
  obtain⟨d,t,e,rfl,x⟩:=h;exact⟨t,e,x⟩
 rw[Jaa Jnf rfl];simp[Jix,Line];obtain⟨d,S1,e1,rfl,N⟩:=Jq7 (W:=W) (n+2) (S:=S++[.lst [],.lst []]) (p:=S.length) (nD:=.tup (j.map D.int)) (g:=none) (pile:=[]) (ns:=j) Jau (by simp;lia) rfl (.inl rfl);have x1:Ext S S1:=by rw[N];exact(Ext.new _ _).set (Ai _) _
 have hp1:S1[S.length]? =some (pl (layP [] j).2):=by rw[N];exact Jas (o:=.lst []) Jau
 have hq1:S1[S.length+1]? =some (pts []):=by
  rw[N,A1 (by lia)];exact Jbv
 clear N;simp[e1];unfold Xq at H;cases hk:(layP [] j).1 with
 |false=>
  rw[hk]at H;cases H;simp;exact x1
 |true=>
  rw[hk,if_pos rfl]at H;simp;refine Sat.p2 (loop (IOpens F m (.tup (j.map D.int)) S.length (S.length+1) S b) (λd t=>d=.bl b/\Ext S t) ⟨_,[],none,none,rfl,x1,hp1,hq1,Jjs (by simp),by simp,H⟩ ?_) ?_
  .rintro i d _ Q U ⟨k,st,a,c,rfl,Y,hp,I,y,hst,l⟩;rw[Ao]at U;obtain⟨r,hr,rfl⟩:=Al.mp U;have hi:i<m.length:=(Ae.mp hr).1;rw[Bw hi,(Ae.mp hr).2]at l;simp only[runP]at l;have fin:∀(z:Bool×List Int×List Pt) (u:Store),V8 F k st r=some z->Keep [S.length,S.length+1] Q u->u[S.length]? =some (pl z.2.1)->u[S.length+1]? =some (pts z.2.2)->
     Sat ((Xv (Cn T G W (n+3)) (.cns (.ret (.cst (.bl false))) .nul) .nul [some (.tup (m.map rD)),some (.tup (j.map D.int)),some (fD F),some (.loc S.length),some (.loc (S.length+1)),some (rD r),some (.bl !z.1)] (!z.1) u).bind (kB (Cn T G W (n+3)) .nul)) (FlP (IOpens F m (.tup (j.map D.int)) S.length (S.length+1) S b (i+1)) λd t=>d=.bl b/\Ext S t):=by
    intro z u J E s A;have x3:Ext S u:=Y.keep E (by simp);rw[J]at l;obtain⟨z1,z2,z3⟩:=z;have g:=Jnr y J;cases z1 with
    |false=>
     cases l;simp;exact x3
    |true=>
     simp;exact⟨z2,z3,_,_,rfl,x3,s,A,g.1,by have:=g.2;simp at this;lia,l⟩
   rw[Jap];simp[Jf3,Line,Jx8,-Xv,-kB];cases L:W4 r with
   |false=>
    obtain⟨z,J⟩:∃z,Wv k st r=some z:=by
     cases hzz:Wv k st r with
     |some z=>exact⟨z,rfl⟩
     |none=>simp[V8,L,hzz]at l
    obtain⟨_,u,e,rfl,E,s,A⟩:=turn (W:=W) (n+1) hp I (by lia) (by lia) r J;have f:=fin z u (by simp[V8,L,J]) E s A;simp[Xv,Jf3,e,kB]at f ⊢;exact f
   |true=>
    have ed:=is_done (W:=W) (n+2) I;cases v:Wy st with
    |false=>
     have f:=fin (true,k,st) Q (by simp[V8,L,v]) .refl hp I;rw[v]at ed;simp[Xv,ed,kB]at f ⊢;exact f
    |true=>
     obtain⟨_,u,e,rfl,E,s⟩:=do_row (W:=W) n hp F r L y;have f:=fin ((Xz F k r).1,(Xz F k r).2,st) u (by simp[V8,L,v]) (E.mono (by simp)) s (E.get I (by simp));rw[v]at ed;simp[Xv,ed,e,kB]at f ⊢;exact f
  .intro fl Q h;rcases h.nr with⟨_,rfl,k,st,a,c,rfl,Y,hp,I,y,hst,l⟩|⟨d,rfl,U⟩
   .simp[runP]at l;have w:=Jay hp;rw[Ah]at w;simp[w]
    by_cases he:k=[]
    .subst he;simp;exact⟨by rw[<-l];rfl,Y⟩
    .have C:0<k.length:=C1.mpr he;have hp':Q[S.length]? =some (.lst (k.dropLast.map D.int++[D.int (k.getLastD 0)])):=by
      rw[hp]
      conv=>lhs;rw[Jha he]
      simp
     simp[C];rw[Jc6 hp'];simp;refine⟨?_,Y⟩;rw[<-l];simp[Wb5,he]
   .simp;exact U
end
abbrev PP:=Rdu.PK
structure Kp where
 w:Int
 lk:List Rw
 m:Int
 f:Int
def kpD(k:Kp):D:=.tup [.int k.w,.tup (k.lk.map rD),.int k.m,.int k.f]
abbrev Cs:=List (PP×Kp)
abbrev cp(c:Cs):List (PP×D):=c.map λp=>(p.1,kpD p.2)
abbrev csO(c:Cs):Mi.Obj:=.dtu (cp c)
noncomputable abbrev dp(ns:List Int):List (Int×D):=ns.map λn=>(n,D.bl true)
abbrev dnO(ns:List Int):Mi.Obj:=.dct (dp ns)
structure Dd where
 n:Int
 ins:List (PP×List Int)
 outs:List (Int×List Rw)
def inD(i:PP×List Int):D:=.tup [dK i.1,.tup (i.2.map D.int)]
def ouD(o:Int×List Rw):D:=.tup [.int o.1,.tup (o.2.map rD)]
def ddD(d:Dd):D:=.tup [.int d.n,.tup (d.ins.map inD),.tup (d.outs.map ouD)]
noncomputable def nms(d:Dd):List PP:=d.ins.map (·.1)
noncomputable def Wa(d:Dd):List Int:=d.outs.map (·.1)
def worth(d:Dd):Int:=(Wa d).sum
def wOf(c:Cs)(k:PP):Int:=match dVal c k with|some k=>k.w|none=>0
def spent(c:Cs)(d:Dd):Int:=(d.ins.map λi=>wOf c i.1).sum
def fx(k:Kp)(d:Dd)(h:Int):Fx:=⟨h,if h-k.m<0 then 0 else h-k.m,k.w,d.ins.length,d.outs.length,Wa d⟩
def inW(c:Cs)(d:Dd)(h:Int)(i:PP×List Int):Option String:=match dVal c i.1 with
 |none=>some "gone"
 |some k=>if h<k.f then some "green" else if Xq (fx k d h) k.lk i.2=some true then none else some "shut"
def V5(c:Cs)(dn:List Int)(d:Dd)(h:Int):Option String:=
 if d.n∈dn then some "known" else if dst (nms d)<(nms d).length then some "twice" else match d.ins.findSome? (inW c d h)with
  |some x=>some x
  |none=>if d.ins≠[]/\spent c d<worth d then some "less" else none
@[simp]noncomputable def wD:Option String->D
 |none=>.non
 |some x=>.str x
def dropO(c:Cs)(d:Dd):Nat->Cs
 |0=>c
 |i+1=>match d.ins[i]? with
  |some x=>dDrop (dropO c d i) x.1
  |none=>dropO c d i
def putO(c:Cs)(d:Dd)(h f:Int):Nat->Cs
 |0=>dropO c d d.ins.length
 |i+1=>match d.outs[i]? with
  |some x=>dPut (putO c d h f i) (d.n,(i:Int)) ⟨x.1,x.2,h,f⟩
  |none=>putO c d h f i
def W9(c:Cs)(d:Dd)(h f:Int):Cs:=putO c d h f d.outs.length
def W5(c:Cs)(d:Dd):Int:=if d.ins=[]then 0 else spent c d-worth d
section
variable {κ α β:Type} [DecidableEq κ] {c:List (κ×α)} {k k':κ} {v:α}
theorem Jbl{f:α->β}:dVal (c.map λp=>(p.1,f p.2)) k=(dVal c k).map f:=by
 unfold dVal;rw[Uh,Ny,Ny];rfl
def Jpx{f:α->β}:dPut (c.map λp=>(p.1,f p.2)) k (f v)=(dPut c k v).map λp=>(p.1,f p.2):=by
 unfold dPut;rw[Qb];simp only[Bt];split
 .rw[B6,B6];apply D8;intro p _;simp only[Bt];split<;>rfl
 .simp
theorem Jmz{f:α->β}:dDrop (c.map λp=>(p.1,f p.2)) k=(dDrop c k).map λp=>(p.1,f p.2):=by
 unfold dDrop;rw[List.filter_map];rfl
def Jbk(h:dVal c k=some v):(k,v)∈c:=by
 unfold dVal at h;obtain⟨p,hp,rfl⟩:=Al.mp h;have a:=List.find?_some hp;simp only[decide_eq_true_eq]at a;subst a;exact List.mem_of_find?_eq_some hp
def Jhj(h:k'≠k):dVal (dDrop c k) k'=dVal c k':=by
 unfold dVal dDrop;rw[List.find?_filter];congr 2;funext p
 by_cases e:p.1=k'
 .simp[e,h]
 .simp[e]
theorem Jmy(b:(c.map (·.1)).Nodup){p:κ×α}(hp:p∈c):dVal c p.1=some p.2:=by
 induction c with
 |nil=>cases hp
 |cons a r d=>
  rw[Ax,Cp]at b;unfold dVal;rw[Dh];rcases Am.mp hp with rfl|h
  .simp
  .have:a.1≠p.1:=λe=>b.1 (e▸Bd.mpr ⟨p,h,rfl⟩);simp only[this,decide_false];exact d b.2 h
def Jgl(hp:p∈dPut c k v):p∈c\/p=(k,v):=by
 unfold dPut at hp;split at hp
 .obtain⟨q,a,rfl⟩:=Bd.mp hp;split
  .rename_i e;exact .inr (by rw[e])
  .exact .inl a
 .rcases Bm.mp hp with h|h
  .exact .inl h
  .exact .inr (Ar.mp h)
def Je0:(dPut c k v).map (·.1)=c.map (·.1)\/((dPut c k v).map (·.1)=c.map (·.1)++[k]/\k∉c.map (·.1)):=by
 unfold dPut;split
 .left;rw[B6];apply D8;intro p _;simp only[Bt];split<;>rfl
 .rename_i h;right;refine⟨by simp,λz=>h ?_⟩;obtain⟨p,hp,e⟩:=Bd.mp z;exact Il.mpr ⟨p,hp,by simp[e]⟩
def Jks(d:(c.map (·.1)).Nodup):((dPut c k v).map (·.1)).Nodup:=by
 rcases Je0 (c:=c) (k:=k) (v:=v)with e|⟨e,h⟩
 .rw[e];exact d
 .rw[e,Gv];exact⟨d,by simp,λa f b g=>by rw[Ar.mp g];rintro rfl;exact h f⟩
def Xc:(dDrop c k).Sublist c:=Q8
end
def Jus:(dVal (dp dn) x).isSome=decide (x∈dn):=by
 unfold dVal;rw[Fb,Uh,Fb,List.isSome_find?];rw[Lb,Il];simp
def Jut(h:x∉dn):dPut (dp dn) x (.bl true)=dp (dn++[x]):=by
 unfold dPut;rw[if_neg]
 .simp
 .rw[Qb,Bool.not_eq_true,M4];intro y a;simp;rintro rfl;exact h a
def Jm0(h:S[q]? =some (dnO dn)):cop .inn (.int x) (.loc q) S=some (decide (x∈dn)):=by rw[Juy h,Jus]
theorem Jrk{ks:Nat->List Int}:∀{n i:Nat},i<n->ks i∈Sbl.dd ks n
 |n+1,i,h=>by
  unfold Sbl.dd
  by_cases e:i=n
  .subst e;split
   .assumption
   .exact Br
  .have:=Jrk (ks:=ks) (show i<n by lia);split
   .exact this
   .exact A7 _ this
theorem Jym{ks:Nat->List Int}:∀{n:Nat},(Sbl.dd ks n).length=n->∀{i j:Nat},i<j->j<n->ks i≠ks j
 |n+1,h,i,j,a,c=>by
  have d:=Sbl.Jhh ks n;unfold Sbl.dd at h;split at h
  .lia
  .rename_i b;simp only[Bb]at h
   by_cases e:j=n
   .subst e;intro z;exact b (z▸Jrk a)
   .exact Jym (n:=n) (by lia) a (by lia)
def Jyk{ps:List PP}(h:¬dst ps<ps.length){i j:Nat}{x y:PP}(a:i<j)(c:ps[i]? =some x)(b:ps[j]? =some y):x≠y:=by
 rintro rfl;have d:=(Ae.mp b).1;have:=Sbl.Jhh (λi=>[(ps.getD i (0,0)).1,(ps.getD i (0,0)).2]) ps.length;refine Jym (ks:=λi=>[(ps.getD i (0,0)).1,(ps.getD i (0,0)).2]) (by unfold dst at h;lia) a d ?_;simp only[E3,c,b]
def Jbp{d:Dd}(a:V5 c dn d h=none):d.n∉dn/\¬dst (nms d)<(nms d).length/\(∀i∈d.ins,∃k,dVal c i.1=some k):=by
 unfold V5 at a;split at a
 .cases a
 .rename_i b;split at a
  .cases a
  .rename_i e;refine⟨b,e,λi f=>?_⟩;split at a
   .cases a
   .rename_i g;have:=E4.mp g i f;unfold inW at this;split at this
    .cases this
    .exact⟨_,‹_›⟩
theorem Jgi{d:Dd}(a:¬dst (nms d)<(nms d).length):∀{i:Nat},(∀j<i,∀x,d.ins[j]? =some x->x.1≠k)->dVal (dropO c d i) k=dVal c k
 |0,_=>rfl
 |i+1,h=>by
  unfold dropO;split
  .rename_i x b;rw[Jhj (λe=>h i (by lia) x b e.symm)];exact Jgi a λj f=>h j (by lia)
  .exact Jgi a λj f=>h j (by lia)
def Jmt{c:Cs}{d:Dd}(a:¬dst (nms d)<(nms d).length){i:Nat}{x:PP×List Int}(b:d.ins[i]? =some x):dVal (dropO c d i) x.1=dVal c x.1:=by
 refine Jgi a λj e y f=>Jyk a e (by simp[nms,f]) (by simp[nms,b])
@[simp]theorem Jlj{S:Store}:seqAt (S++(.lst ds::X)) S.length=some ds:=Ja6 Jau
structure Hd(S:Store)(L u q:Nat)(c:Cs)(dn:List Int):Prop where
 l:S[L]? =some (.ins "Hoard" [("unspent",.loc u),("done",.loc q)])
 u:S[u]? =some (csO c)
 q:S[q]? =some (dnO dn)
section
variable {W n:Nat} {S S':Store} {L u q:Nat} {c:Cs} {dn:List Int} {ps:List Nat} {d:Dd} {h:Int}
def Hd.ext(a:Hd S L u q c dn)(k:Ext S S'):Hd S' L u q c dn:=⟨k.get a.l,k.get a.u,k.get a.q⟩
theorem Hd.fu(a:Hd S L u q c dn):Zg "Hoard" "unspent" (.loc L) S=.ok (.loc u) S:=Jes a.l rfl
theorem Hd.fq(a:Hd S L u q c dn):Zg "Hoard" "done" (.loc L) S=.ok (.loc q) S:=Jes a.l rfl
def Hd.rc(a:Hd S L u q c dn)(b:(m=="unspent")=false:=by rfl)(e:(m=="done")=false:=by rfl):isRec S (.loc L) "Hoard" m=true:=Jpf a.l (by simp[Du,b,e])
def is_maker:callN T G W (n+1) "is_maker" [ddD d] S=.ok (.bl (decide (d.ins=[]))) S:=by
 rw[Jaa Jib rfl];simp[Jdn,ddD]
def spent_by(a:d.ins.length<=3):callN T G W (n+1) "spent_by" [ddD d] S=.ok (.loc S.length) (S++[.lst ((nms d).map dK)]):=by
 rw[Jaa Jh1 rfl];simp[Jdh,ddD];rw[Jbi (xs:=d.ins) inD (λi=>dK i.1) (by lia) (.inl rfl) (λx _=>by simp[Jam,V2,inD])];simp[nms,Bt]
def Jbo(b:d.outs.length<=3)(a:∀x∈d.outs,W8 C (.tvar 0) .nul el (ouD x) (V2 1 [] Z) S=.ok (some (.int x.1)) S):Xi C 1 [] (.tvar 0) .nul el Z (none,d.outs.map ouD) S=.ok (.loc S.length) (S++[pl (Wa d)]):=by
 rw[Jbi (xs:=d.outs) ouD (λi=>.int i.1) (by lia) (.inl rfl) a];simp[Wa,Bt]
def Jfe(ns:List Int):Vx .sum1 [.loc S.length] (S++[pl ns])=.ok (.int ns.sum) (S++[pl ns]):=by
 have:=Jbx (S:=S) id ns;simp only[id,List.map_id]at this;exact this
def worth_of(a:d.outs.length<=3):callN T G W (n+1) "worth_of" [ddD d] S=.ok (.int (worth d)) (S++[pl (Wa d)]):=by
 rw[Jaa Jh0 rfl];simp[Jdg,ddD];rw[Jbo a (λx _=>by simp[Jam,V2,ouD])];simp only[Res.bind_ok,Wt,W3,Wb];rw[Jfe];simp[worth]
theorem Jxw(xs:List PP):X8 kyD (xs.map dK)=some xs:=by
 induction xs with
 |nil=>rfl
 |cons a r b=>simp only[Ax,X8,kyD,b]
def Jq5{xs:List PP}(a:S[l]? =some (.lst (xs.map dK)))(b:xs.length<=3):Zd (.loc l) S=.ok (.int (dst xs)) S:=by
 simp only[Zd,Ja6 a,Ih,Jxw,if_pos (show xs.length<4 by lia)]
def has_twice{xs:List PP}(a:S[l]? =some (.lst (xs.map dK)))(b:xs.length<=3):callN T G W (n+1) "has_twice" [.loc l] S=.ok (.bl (decide (dst xs<xs.length))) S:=by
 rw[Jaa Jgu rfl];simp[Jct,Jq5 a b,Jay a]
def facts_of(a:d.outs.length<=3):callN T G W (n+1) "facts_of" [kpD k,ddD d,.int h] S=.ok (fD (fx k d h)) (S++[pl (Wa d)]):=by
 rw[Jaa Jic rfl];simp[Jdo,ddD,kpD,Jy5,Jng];rw[Jbo a (λx _=>by simp[Jam,V2,ouD])];simp only[Res.bind_ok,Wt,W3,Wb];rw[Jah Jac];simp[Line,fD,fx,Wa]
def Yd(lk:List Rw):Prop:=lk.length<=6/\∀F a,∃b,Xq F lk a=some b
structure Ok1(p:PP×Kp):Prop where
 a:0<=p.1.1/\p.1.1<345/\0<=p.1.2/\p.1.2<3
 w:p.2.w<=10^40
 lk:Yd p.2.lk
structure Gc(c:Cs):Prop where
 nd:(c.map (·.1)).Nodup
 ok:∀p∈c,Ok1 p
structure Gd(dn:List Int):Prop where
 nd:dn.Nodup
 ok:∀x∈dn,0<=x/\x<345
structure W7(d:Dd):Prop where
 n:0<=d.n/\d.n<345
 i:d.ins.length<=3
 o:d.outs.length<=3
 k:∀i∈d.ins,i.2.length<=3
 w:∀o∈d.outs,o.1<=10^40/\Yd o.2
theorem fault_of_in(a:Hd S L u q c dn)(g:Gc c)(g2:W7 d)(s:i∈d.ins):∃S',callN T G W (n+5) "Hoard.fault_of_in" [.loc L,inD i,ddD d,.int h] S=.ok (wD (inW c d h i)) S'/\Ext S S':=by
 rw[Jaa Jb9 rfl];have e:=Jl3 (p:=i.1) a.u;rw[show cp c=c.map λp=>(p.1,kpD p.2)from rfl,Jbl]at e;have j:=Wae (me:=.get1) rfl a.u;simp only[inW];cases l:dVal c i.1 with
 |none=>
  rw[l]at e;simp[Jat,a.fu,inD,e,j,wD];exact .refl _
 |some k=>
  rw[l]at e;simp only[F7,Option.getD_some]at e;dsimp only
  by_cases f:h<k.f
  .rw[if_pos f];simp only[kpD]at e;simp[Jat,a.fu,inD,e,j,wD,Jrs,f];exact .refl _
  .rw[if_neg f];have m:=g.ok _ (Jbk l);obtain⟨b,o⟩:=m.lk.2 (fx k d h) i.2;have r:=facts_of (W:=W) (n:=n+3) (S:=S) (h:=h) (k:=k) g2.o;obtain⟨w,t,v⟩:=Jjm (W:=W) n (fx k d h) k.lk i.2 (S++[pl (Wa d)]) (by have:=m.lk.1;simp at this;lia) (by have:=g2.k i s;lia) o;simp only[kpD]at e r;simp[Jat,a.fu,inD,e,j,Jrs,Jy6,f,r];simp[t,o];cases b<;>simp[wD]<;>exact(Ext.new _ _).trans v
def worth_spent(a:Hd S L u q c dn)(f:d.ins.length<=3)(g:∀i∈d.ins,∃k,dVal c i.1=some k):callN T G W (n+2) "Hoard.worth_spent" [.loc L,ddD d] S=.ok (.int (spent c d)) (S++[.lst ((nms d).map dK),pl ((nms d).map (wOf c))]):=by
 rw[Jaa Jb8 rfl];simp[Ja1,spent_by (W:=W) (n:=n) (S:=S) f];have b:=a.ext (.new S [.lst ((nms d).map dK)]);rw[Jbi (xs:=nms d) dK (λi=>.int (wOf c i)) (by simp[nms];lia) (.inr ⟨_,rfl,Jac⟩) (λx j=>by
  obtain⟨i,l,rfl⟩:=Bd.mp j;obtain⟨k,e⟩:=g i l;have:dVal (cp c) i.1=some (kpD k):=by rw[Jbl,e];rfl
  simp[Jam,V2,b.fu,Jga b.u this,Jng,wOf,e];simp[kpD])]
 have:=Jfe (S:=S++[.lst ((nms d).map dK)]) ((nms d).map (wOf c));simp only[pl,B6,Bt]at this;simp only[Res.bind_ok,Wt,W3,Wb];rw[this];simp[spent,nms,Bt]
end
section
variable {W n:Nat} {S S':Store} {L u q:Nat} {c:Cs} {dn:List Int} {ps:List Nat} {d:Dd} {h f:Int}
def Sat.to{P:Store->Prop}(h:Sat r λd S'=>d=x/\P S'):∃S',r=.ok x S'/\P S':=by
 obtain⟨d,S',e,rfl,p⟩:=h;exact⟨S',e,p⟩
@[simp]theorem J2c:Jar (ddD d) (.int 0) S=.ok (.int d.n) S:=Ja7
@[simp]theorem J2b:Jar (ddD d) (.int 1) S=.ok (.tup (d.ins.map inD)) S:=Jd4
@[simp]theorem J2a:Jar (ddD d) (.int 2) S=.ok (.tup (d.outs.map ouD)) S:=Jjt
@[simp]theorem J19{i:PP×List Int}:Jar (inD i) (.int 0) S=.ok (dK i.1) S:=Ja7
@[simp]theorem J16{o:Int×List Rw}:Jar (ouD o) (.int 0) S=.ok (.int o.1) S:=Ja7
@[simp]theorem J15{o:Int×List Rw}:Jar (ouD o) (.int 1) S=.ok (.tup (o.2.map rD)) S:=Jd4
@[simp]theorem J18{k:Kp}:Jar (kpD k) (.int 0) S=.ok (.int k.w) S:=Ja7
@[simp]theorem J17{k:Kp}:Jar (kpD k) (.int 1) S=.ok (.tup (k.lk.map rD)) S:=Jd4
theorem sub_len{b:Type}[DecidableEq b]:∀{l m:List b},l.Nodup->(∀x∈l,x∈m)->l.length<=m.length
 |[],m,_,_=>Dg _
 |x::l,m,a,e=>by
  rw[Cp]at a;have g:=e x Br;have:=sub_len (m:=m.erase x) a.2 λy i=>(Qv (by rintro rfl;exact a.1 i)).mpr (e y (A7 _ i));rw[Pl g]at this;have:=P9 g;simp only[Bb];omega
noncomputable def nums:List Int:=(Cf 345).map λ(i:Nat)=>(i:Int)
def Jjn(h:0<=x/\x<345):x∈nums:=Bd.mpr ⟨x.toNat,by simp;lia,by lia⟩
def Gd.len(g:Gd dn):dn.length<=345:=by
 have:=sub_len g.nd λx a=>Jjn (g.ok x a);rwa[nums,Ah,Fj]at this
def Gc.len(g:Gc c):c.length<=1035:=by
 have:=sub_len (m:=nums.map (λi=>(i,(0:Int)))++(nums.map (λi=>(i,(1:Int)))++nums.map λi=>(i,(2:Int)))) g.nd λx j=>by
  obtain⟨p,hp,rfl⟩:=Bd.mp j;have z:=(g.ok p hp).a;have b:=Jjn ⟨z.1,z.2.1⟩;simp only[Bm,Bd];rcases(show p.1.2=0\/p.1.2=1\/p.1.2=2 by lia)with e|e|e
  .exact .inl ⟨_,b,by rw[<-e]⟩
  .exact .inr (.inl ⟨_,b,by rw[<-e]⟩)
  .exact .inr (.inr ⟨_,b,by rw[<-e]⟩)
 simp only[Ah,Ap,nums,Fj]at this
 lia
def Gc.apt(g:Gc c):aptB ((cp c).map (·.1))=true:=by
 simp only[aptB,cp,B6,Bt,Aj,Ed,decide_eq_true_eq];refine⟨λp hp=>?_,g.nd⟩;obtain⟨x,b,rfl⟩:=Bd.mp hp;have:=(g.ok x b).a;exact⟨⟨⟨this.1,this.2.1⟩,this.2.2.1⟩,this.2.2.2⟩
def Gc.drop(g:Gc c)(k:PP):Gc (dDrop c k):=⟨g.nd.sublist (Xc.map _),λp hp=>g.ok p (Xc.subset hp)⟩
def Gc.put(g:Gc c)(a:Ok1 (k,v)):Gc (dPut c k v):=⟨Jks g.nd,λp hp=>(Jgl hp).elim (g.ok p) λe=>e▸a⟩
theorem Gc.dropO(g:Gc c):∀i,Gc (dropO c d i)
 |0=>g
 |i+1=>by
  unfold K25.dropO;split
  .exact(g.dropO i).drop _
  .exact g.dropO i
theorem Gc.putO(g:Gc c)(g2:W7 d):∀i,Gc (putO c d h f i)
 |0=>g.dropO _
 |i+1=>by
  unfold K25.putO;split
  .rename_i x a;have e:=(Ae.mp a).1;have:=g2.o;have b:=g2.w x (Au a);exact(g.putO g2 i).put ⟨⟨g2.n.1,g2.n.2,Mv _,by show(i:Int)<3;lia⟩,b.1,b.2⟩
  .exact g.putO g2 i
def Gd.add(g:Gd dn)(i:x∉dn)(j:0<=x/\x<345):Gd (dn++[x]):=⟨by
 rw[Gv];exact⟨g.nd,by simp,λa k b l=>by rw[Ar.mp l];rintro rfl;exact i k⟩,λy m=>(Bm.mp m).elim (g.ok y) λe=>Ar.mp e▸j⟩
def did(a:Hd S L u q c dn):callN T G W (n+1) "Hoard.did" [.loc L,.int x] S=.ok (.bl (decide (x∈dn))) S:=by
 rw[Jaa Jgx rfl];simp[Jcv,a.fq,Jm0 a.q]
inductive IFau (S:Store) (L:Nat) (c:Cs) (d:Dd) (h:Int) (i:Nat) (Z:En) (S':Store):Prop
 |mk (x y) (_:Z=[some (.loc L),some (ddD d),some (.int h),x,y]) (_:Ext S S') (_:d.ins.findSome? (inW c d h)=(d.ins.drop i).findSome? (inW c d h)):IFau S L c d h i Z S'
inductive RFau (S:Store) (c:Cs) (d:Dd) (h:Int) (r:D) (S':Store):Prop
 |mk (x) (_:d.ins.findSome? (inW c d h)=some x) (_:r=.str x) (_:Ext S S'):RFau S c d h r S'
def fault(a:Hd S L u q c dn)(g:Gc c)(g2:W7 d):∃S',callN T G W (n+6) "Hoard.fault" [.loc L,ddD d,.int h] S=.ok (wD (V5 c dn d h)) S'/\Ext S S':=by
 rw[Jaa Je9 rfl];have l:=did (W:=W) (n:=n+4) (x:=d.n) a;have t:=spent_by (W:=W) (n:=n+4) (S:=S) g2.i;have v:=has_twice (W:=W) (n:=n+4) (S:=S++[.lst ((nms d).map dK)]) (xs:=nms d) Jac (by simp[nms];exact g2.i);unfold V5
 by_cases o:d.n∈dn
 .simp[Ja3,a.rc (m:="did"),l,o];exact .refl _
 by_cases A:dst (nms d)<(nms d).length
 .simp[Ja3,a.rc (m:="did"),l,o,t,v,A];exact .new _ _
 refine Sat.to ?_;simp[Ja3,a.rc (m:="did"),l,o,t,v,A];refine Sat.p2 (loop (IFau S L c d h) (RFau S c d h) ⟨none,none,rfl,.new _ _,by simp⟩ ?_) ?_
 .rintro i z _ j C ⟨x,y,rfl,e,b⟩;rw[Ao]at C;obtain⟨r,p,rfl⟩:=Al.mp C;have s:i<d.ins.length:=(Ae.mp p).1;rw[Bw s,(Ae.mp p).2,Q7]at b;have E:=a.ext e;obtain⟨S3,Y,H⟩:=fault_of_in (W:=W) (n:=n) (h:=h) E g g2 (Au p);rw[Jap];simp[E.rc (m:="fault_of_in"),Y];cases I:inW c d h r with
  |none=>
   rw[I]at b;simp;exact⟨_,_,rfl,e.trans H,b⟩
  |some w=>
   rw[I]at b;simp;exact⟨w,b,rfl,e.trans H⟩
 .intro fl j hh;rcases hh.nr with⟨_,rfl,x,y,rfl,e,b⟩|⟨r,rfl,x,b,rfl,e⟩
  .rw[Ah,G6]at b;have hn:=E4.mp b;have hv:∀i∈d.ins,∃k,dVal c i.1=some k:=λi s=>by
    have:=hn i s;unfold inW at this;split at this
    .cases this
    .exact⟨_,‹_›⟩
   rw[b];have J:=is_maker (W:=W) (n:=n+4) (S:=j) (d:=d)
   by_cases N:d.ins=[]
   .simp[J,N];exact e
   .have e6:=worth_of (W:=W) (n:=n+4) (S:=j) g2.o;have Q:=(a.ext e).ext (.new j [pl (Wa d)]);have e7:=worth_spent (W:=W) (n:=n+3) Q g2.i hv;simp[J,N,e6,Q.rc (m:="worth_spent"),e7]
    by_cases U:spent c d<worth d
    .simp[U];exact e.trans (.new _ _)
    .simp[U];exact e.trans (.new _ _)
  .simp[b];exact e
def fee(a:Hd S L u q c dn)(g2:W7 d)(j:∀i∈d.ins,∃k,dVal c i.1=some k):∃S',callN T G W (n+3) "Hoard.fee" [.loc L,ddD d] S=.ok (.int (W5 c d)) S'/\Ext S S':=by
 rw[Jaa Jgw rfl];have b:=is_maker (W:=W) (n:=n+1) (S:=S) (d:=d);unfold W5
 by_cases e:d.ins=[]
 .simp[Jbt,b,e];exact .refl _
 .have l:=worth_spent (W:=W) (n:=n) a g2.i j;have g:=worth_of (W:=W) (n:=n+1) (S:=S++[.lst ((nms d).map dK),pl ((nms d).map (wOf c))]) g2.o;simp[Jbt,b,e,a.rc (m:="worth_spent"),l];simp at g;simp[g];exact .new _ _
def Jn6(a:d.outs.length<=3):Yw (.int (d.outs.length:Int)) S=.ok (none,(Cf d.outs.length).map λ(i:Nat)=>.int i) S:=by
 rw[Jdd (by lia) (by lia)];simp
def Jxt:W8 C (.tvar 0) .nul (.tup (.cns (.idx (.var 1) (.cst (.int 0))) (.cns (.var 0) .nul))) (.int x) (V2 1 [0] [some (ddD d)]) S=.ok (some (dK (d.n,(x:Int)))) S:=by
 simp[Jam,V2];simp[Line]
def Js3(a:k<=1000):(Cf k).length<=1000000:=by rw[Fj];exact Bu a (by decide)
def made_by(a:d.outs.length<=3):callN T G W (n+1) "made_by" [ddD d] S=.ok (.loc S.length) (S++[.lst ((Cf d.outs.length).map λ(j:Nat)=>dK (d.n,(j:Int)))]):=by
 rw[Jaa Ji6 rfl];simp[Jew,Jn6 a];rw[Jbi (xs:=Cf d.outs.length) (λ(i:Nat)=>D.int i) (λ(j:Nat)=>dK (d.n,(j:Int))) (Js3 (by lia)) (.inl rfl) (λx _=>Jxt)];simp only[Res.bind_ok,Zf,kB,Yj]
end
local macro_rules|`(tactic|simp!)=>`(tactic|simp -implicitDefEqProofs)|`(tactic|simp![$a,*])=>`(tactic|simp -implicitDefEqProofs[$a,*])
section
variable {W n:Nat} {S S':Store} {L u q:Nat} {c:Cs} {dn:List Int} {ps:List Nat} {d:Dd} {h f:Int}
def Hd.uq(a:Hd S L u q c dn):u≠q:=by
 rintro rfl;have:=a.u.symm.trans a.q;cases this
def Hd.lu(a:Hd S L u q c dn):L≠u/\L≠q:=by
 constructor<;>rintro rfl
 .have:=a.l.symm.trans a.u;cases this
 .have:=a.l.symm.trans a.q;cases this
def pop_at(a:S[u]? =some (csO c))(b:dVal c k=some v):V4 .pop1 (.loc u) [dK k] S=.ok (kpD v) (S.set u (csO (dDrop c k))):=by
 have:=Jl1 (p:=k) (d:=kpD v) a (by rw[Jbl,b];rfl);rw[this,Jmz]
def Jqv(a:S[u]? =some (csO c))(g:Gc c):Ww (.loc u) (dK k) (kpD v) S=.ok () (S.set u (csO (dPut c k v))):=by
 rw[Jn3 a (by rw[Ah];have:=g.len;unfold Line;lia),Jpx]
def Jln(a:S[q]? =some (dnO dn))(g:Gd dn)(b:x∉dn):Ww (.loc q) (.int x) (.bl true) S=.ok () (S.set q (dnO (dn++[x]))):=by
 rw[Jn4 a (by rw[Ah];have:=g.len;unfold Line;lia),Jut b]
def Jmu{x:PP×List Int}(a:d.ins[i]? =some x):dropO c d (i+1)=dDrop (dropO c d i) x.1:=by simp only[dropO,a]
def Jqw{x:Int×List Rw}(a:d.outs[i]? =some x):putO c d h f (i+1)=dPut (putO c d h f i) (d.n,(i:Int)) ⟨x.1,x.2,h,f⟩:=by simp only[putO,a]
inductive IPop (S:Store) (L u:Nat) (c:Cs) (d:Dd) (h f:Int) (nt:D) (i:Nat) (Z:En) (S':Store):Prop
 |mk (x) (_:Z=[some (.loc L),some (ddD d),some (.int h),some (.int f),some .non,some nt,x,none]) (_:Keep [u] S S') (_:S'[u]? =some (csO (dropO c d i))):IPop S L u c d h f nt i Z S'
inductive IPut (S:Store) (L u:Nat) (c:Cs) (d:Dd) (h f:Int) (nt:D) (i:Nat) (Z:En) (S':Store):Prop
 |mk (x y) (_:Z=[some (.loc L),some (ddD d),some (.int h),some (.int f),some .non,some nt,x,y]) (_:Keep [u] S S') (_:S'[u]? =some (csO (putO c d h f i))):IPut S L u c d h f nt i Z S'
def Jyl(a:Hd S L u q c dn)(g:Gc c)(gd:Gd dn)(g2:W7 d)(hw:V5 c dn d h=none):Sat (callN T G W (n+7) "Hoard.do" [.loc L,ddD d,.int h,.int f] S) λ_ S'=>Keep [u,q] S S'/\Hd S' L u q (W9 c d h f) (dn++[d.n]):=by
 rw[Jaa Jie rfl];obtain⟨hn,h2,hv⟩:=Jbp hw;obtain⟨S1,e1,x1⟩:=fault (W:=W) (n:=n) (h:=h) a g g2;rw[hw]at e1;have a1:=a.ext x1;have e2:=λS=>spent_by (W:=W) (n:=n+5) (S:=S) g2.i;simp[Jdq,a.rc (m:="fault"),e1,e2];have a2:=a1.ext (.new S1 [.lst ((nms d).map dK)]);have w:(nms d).length=d.ins.length:=by simp[nms]
 have i3:=g2.i;rw[Jbi (xs:=nms d) dK (λi=>.tup [dK i,(((dVal c i).map kpD).getD .non)]) (by lia) (.inr ⟨_,rfl,Jac⟩) (λx hx=>by
  obtain⟨i,s,rfl⟩:=Bd.mp hx;obtain⟨k,A⟩:=hv i s;have:dVal (cp c) i.1=some (kpD k):=by rw[Jbl,A];rfl
  simp[Jam,V2,a2.fu,Jga a2.u this,A];simp[Line])]
 simp only[Res.bind_ok,Wt,W3,Wb];rw[Jah Jac];generalize hnt:(D.tup ((nms d).map λi=>.tup [dK i,(((dVal c i).map kpD).getD .non)]))=C;have a3:=a2.ext (.new (S1++[.lst ((nms d).map dK)]) [.lst ((nms d).map λi=>.tup [dK i,(((dVal c i).map kpD).getD .non)])]);generalize E:S1++[.lst ((nms d).map dK)]++[.lst ((nms d).map λi=>.tup [dK i,(((dVal c i).map kpD).getD .non)])]=l at a3;have x3:Ext S l:=by rw[<-E];exact(x1.trans (.new _ _)).trans (.new _ _)
 clear E a2 hnt;simp only[Res.bind_ok,Wt,W3,Wb,Wbt,Bb,Fe,if_pos (show 0+1+1<=Line by decide),Wau,Jqi];simp[e2];have b:=a3.ext (.new l [.lst ((nms d).map dK)]);have x5:=x3.trans (.new l [.lst ((nms d).map dK)]);have H:(l++[Obj.lst ((nms d).map dK)])[l.length]? =some (.lst ((nms d).map dK)):=Jac;have hul:u<l.length:=Ja4 a3.u;generalize l++[Obj.lst ((nms d).map dK)]=S5 at b x5 H;refine Sat.p2 (Waa (IPop S5 L u c d h f (.tup [ddD d,C])) noR ⟨none,rfl,.refl,b.u⟩ (λi Z S4 ⟨x,_,k4,_⟩=>k4.get H (by simp;lia)) ?_) ?_
 .rintro i z _ S4 hd ⟨x,rfl,k4,hu⟩;rw[Ao]at hd;obtain⟨k,A,rfl⟩:=Al.mp hd;rw[nms,Ao]at A;obtain⟨j,hj,rfl⟩:=Al.mp A;obtain⟨v,hv⟩:=hv j (Au hj);have e:=pop_at hu ((Jmt h2 hj).trans hv);have r:=Wae (me:=.pop1) rfl hu;have t:=Jes (f:="unspent") (k4.get b.l (by simp;exact b.lu.1)) rfl;rw[Jap];simp[t,e,r];exact⟨_,rfl,k4.trans (.set (by simp)),by rw[Jas hu,Jmu hj]⟩
 .intro fl I hh;obtain⟨_,rfl,x,rfl,k6,o⟩:=hh.nx;simp only[Ah,w]at o;have e3:=made_by (W:=W) (n:=n+5) (S:=I) g2.o;simp! [e3];have o3:=g2.o;simp only[zpD,Jlj,Ah,Fj,if_true,Res.bind_ok];have J:Keep [u] S5 (I++[.lst ((Cf d.outs.length).map λ(j:Nat)=>dK (d.n,(j:Int)))]):=k6.trans (.new _);have N:=Jag (X:=[.lst ((Cf d.outs.length).map λ(j:Nat)=>dK (d.n,(j:Int)))]) o;have p:(I++[Obj.lst ((Cf d.outs.length).map λ(j:Nat)=>dK (d.n,(j:Int)))])[I.length]? =some (.lst ((Cf d.outs.length).map λ(j:Nat)=>dK (d.n,(j:Int)))):=Jac;have hu6l:=Ja4 o;generalize I++[Obj.lst ((Cf d.outs.length).map λ(j:Nat)=>dK (d.n,(j:Int)))]=S7 at J N p;refine Sat.p2 (Yb (IPut S7 L u c d h f (.tup [ddD d,C])) noR ⟨_,_,rfl,.refl,N⟩ (λi Z S8 ⟨x,y,_,Q,_⟩=>?_) ?_) ?_
  .have:=Q.get p (by simp;lia);simp[sameAt,this]
  .rintro i _ S8 s ⟨x,y,rfl,Q,U⟩;have s:i<d.outs.length:=by simpa using s
   have hl8:=Q.get p (by simp;lia);refine⟨.tup [dK (d.n,(i:Int)),ouD d.outs[i]],by simp[nth,Ja6 hl8,s],?_⟩;have t:=Jes (f:="unspent") (Q.get (J.get b.l (by simp;exact b.lu.1)) (by simp;exact b.lu.1)) rfl;have e:=Jqv (k:=(d.n,(i:Int))) (v:=⟨d.outs[i].1,d.outs[i].2,h,f⟩) U (g.putO g2 i);simp only[kpD]at e;rw[Jap];simp[t];rw[if_pos (by decide)];simp[t,e];exact⟨_,_,rfl,Q.trans (.set (by simp)),by rw[Jas U,Jqw (Af s)]⟩
  .intro fl S9 hh;obtain⟨_,rfl,x,y,rfl,k9,Y⟩:=hh.nx;simp only[Ah]at Y;have a9l:=k9.get (J.get b.l (by simp;exact b.lu.1)) (by simp;exact b.lu.1);have a9q:=k9.get (J.get b.q (by simp;exact b.uq.symm)) (by simp;exact b.uq.symm);have t:=Jes (f:="done") a9l rfl;simp[t,Jln a9q gd hn];refine⟨((Keep.ext x5).trans (J.mono (by simp))).trans ((k9.mono (by simp)).trans (.set (by simp))),?_,?_,?_⟩
   .rw[A1 b.lu.2.symm];exact a9l
   .rw[A1 b.uq.symm];exact Y
   .exact Jas a9q
def init:callN T G W (n+1) "Hoard.__init__" [.loc S.length] (S++[.ins "Hoard" []])=.ok .non (S++[.ins "Hoard" [("unspent",.loc (S.length+1)),("done",.loc (S.length+2))],.dtu [],.dct []]):=by
 rw[Jaa Jdc rfl];have a:(S++[Obj.ins "Hoard" [],.dtu []])[S.length]? =some (.ins "Hoard" []):=Jau;have b:(S++[Obj.ins "Hoard" [("unspent",.loc (S.length+1))],.dtu [],.dct []])[S.length]? =some (.ins "Hoard" [("unspent",.loc (S.length+1))]):=Jau;simp[Ja9];rw[Jf1 a (by simp)];simp[putD];rw[Jf1 b (by simp)];simp[putD]
def Jxm:evE (Cn T G W (n+1)) (.new "Hoard" "Hoard.__init__") Z S=.ok (.loc S.length) (S++[.ins "Hoard" [("unspent",.loc (S.length+1)),("done",.loc (S.length+2))],.dtu [],.dct []]):=by
 rw[Jvx];simp[init]
def copied(a:Hd S L u q c dn)(g:Gc c):∃S' m o,callN T G W (n+2) "Hoard.copied" [.loc L] S=.ok (.loc S.length) S'/\Ext S S'/\S.length<=m/\S.length<=o/\Hd S' S.length m o c dn:=by
 rw[Jaa Jdx rfl];simp! [Jbm,Jxm,-Jvx];have i:=a.ext (.new S [.ins "Hoard" [("unspent",.loc (S.length+1)),("done",.loc (S.length+2))],.dtu [],.dct []]);have p:=Ext.new S [.ins "Hoard" [("unspent",.loc (S.length+1)),("done",.loc (S.length+2))],.dtu [],.dct []];have e:(S++[Obj.ins "Hoard" [("unspent",.loc (S.length+1)),("done",.loc (S.length+2))],.dtu [],.dct []])[S.length]? =some (.ins "Hoard" [("unspent",.loc (S.length+1)),("done",.loc (S.length+2))]):=Jau;generalize S++[Obj.ins "Hoard" [("unspent",.loc (S.length+1)),("done",.loc (S.length+2))],.dtu [],.dct []]=b at i p e;have v:L<S.length:=Ja4 a.l;have w:=Ja4 e;simp[i.fu,Jd6 i.u g.apt];rw[Jf1 (Jag e) (by simp)];simp[putD];have j:((b++[csO c]).set S.length (.ins "Hoard" [("unspent",.loc b.length),("done",.loc (S.length+2))]))[S.length]? =some (.ins "Hoard" [("unspent",.loc b.length),("done",.loc (S.length+2))]):=Jas (Jag e);have k:=(p.trans (.new b [csO c])).set (Ai _) (.ins "Hoard" [("unspent",.loc b.length),("done",.loc (S.length+2))]);have l:((b++[csO c]).set S.length (.ins "Hoard" [("unspent",.loc b.length),("done",.loc (S.length+2))]))[b.length]? =some (csO c):=by
  rw[A1 (by lia)];exact Jac
 generalize(b++[csO c]).set S.length (.ins "Hoard" [("unspent",.loc b.length),("done",.loc (S.length+2))])=r at j k l;have s:=a.ext k;have t:=Ja4 l;simp[s.fq,Jd7 s.q];rw[Jf1 (Jag j) (by simp)];simp[putD];refine⟨(k.trans (.new r [dnO dn])).set (Ai _) _,b.length,by lia,r.length,by lia,Jas (Jag j),?_,?_⟩
 .rw[A1 (by lia)];exact Jag l
 .rw[A1 (by lia)];exact Jac
end
structure Rl where
 a:Int
 b:Int
 c:Int
noncomputable def rlD(r:Rl):D:=.tup [.int r.a,.int r.b,.int r.c]
structure RlOk(r:Rl):Prop where
 a:0<=r.a/\r.a<=10^40
 b:1<=r.b/\r.b<=1000
noncomputable def Vw(r:Rl)(h:Int):Int:=r.a/2^(min 200 ((h-1)/r.b).toNat)
structure Bk where
 x:Int
 y:Int
 z:Int
 ds:List Dd
def bkD(b:Bk):D:=.tup [.int b.x,.int b.y,.int b.z,.tup (b.ds.map ddD)]
structure BkOk(ds:List Dd):Prop where
 ok:∀d∈ds,W7 d
 l:ds.length<=20
 mr:∀i d,ds[i]? =some d->(d.ins=[]↔i=0)
 ne:0<ds.length
def goP(h w:Int):Nat->Cs->List Int->Int->List Dd->Option (Nat×String)×Cs×List Int×Int
 |_,c,dn,f,[]=>(none,c,dn,f)
 |j,c,dn,f,d::ds=>match V5 c dn d h with
  |some x=>(some (j,x),c,dn,f)
  |none=>goP h w (j+1) (W9 c d h (if j=0 then h+w else h)) (dn++[d.n]) (f+W5 c d) ds
def first(ds:List Dd):Int:=match ds with
 |[]=>0
 |d::_=>worth d
def bfP(r:Rl)(h:Int)(c:Cs)(dn:List Int)(ds:List Dd):Option (Nat×String):=match(goP h r.c 0 c dn 0 ds).1 with
 |some x=>some x
 |none=>if Vw r h+(goP h r.c 0 c dn 0 ds).2.2.2<first ds then some (0,"much")else none
@[simp]noncomputable def bwD:Option (Nat×String)->D
 |none=>.non
 |some (j,x)=>.tup [.int j,.str x]
section
variable {W n:Nat} {S S':Store} {L u q:Nat} {c:Cs} {dn:List Int} {ps:List Nat} {d:Dd} {h f:Int} {r:Rl} {b:Bk}
@[simp]theorem J14:Jar (rlD r) (.int 0) S=.ok (.int r.a) S:=Ja7
@[simp]theorem J13:Jar (rlD r) (.int 1) S=.ok (.int r.b) S:=Jd4
@[simp]theorem J12:Jar (rlD r) (.int 2) S=.ok (.int r.c) S:=Jjt
@[simp]theorem J2d:Jar (bkD b) (.int 3) S=.ok (.tup (b.ds.map ddD)) S:=Jo7
def Jey{a:Int}{x y:Nat}(e:0<=a)(g:a<2^x)(i:x<=y):a/2^y=0:=by
 refine Int.ediv_eq_zero_of_lt e (Hr g ?_)
 exact_mod_cast Nat.pow_le_pow_right (by decide:0<2) i
def Ju4(g:0<=a):a<2^B5 a:=by
 unfold B5;split
 .rename_i e;simp at e;subst e;decide
 .have:=Nat.lt_log2_self (n:=a.natAbs);have e:((a.natAbs:Nat):Int)=a:=Ra g;rw[<-e];simp only[Int.natAbs_natCast]
  exact_mod_cast this
def Juj(g:RlOk r):r.a/2^(min ((h-1)/r.b).toNat (B5 r.a))=Vw r h:=by
 unfold Vw;have a:=Ju4 g.a.1;have e:r.a<2^200:=Ge g.a.2 (by decide);generalize((h-1)/r.b).toNat=t;generalize B5 r.a=B at a
 by_cases j:200<t
 .rw[show min 200 t=200 by lia,Jey g.a.1 e (Ai _)]
  by_cases i:B<=t
  .rw[show min t B=B by lia];exact Jey g.a.1 a (Ai _)
  .rw[show min t B=t by lia];exact Jey g.a.1 e (by lia)
 .rw[show min 200 t=t by lia]
  by_cases i:B<=t
  .rw[show min t B=B by lia,Jey g.a.1 a (Ai _),Jey g.a.1 a i]
  .rw[show min t B=t by lia]
def gift(g:RlOk r)(k:1<=h):callN T G W (n+1) "gift" [rlD r,.int h] S=.ok (.int (Vw r h)) S:=by
 rw[Jaa Jqb rfl];have l:=g.b;have a:0<=(h-1)/r.b:=Od (by lia) (by lia);rw[<-Juj g];simp[Jmr,Ja0 (S:=S) (i:=h-1) (j:=r.b) (by lia) (by lia)];generalize(h-1)/r.b=t at a;rw[show(if t<0 then 0 else t)=t from if_neg (by lia)]
 by_cases e:((B5 r.a:Nat):Int)<t
 .rw[if_pos e,Je3 (by lia)];simp;rw[show min t.toNat (B5 r.a)=B5 r.a by lia]
 .rw[if_neg e,Je3 a];simp;rw[show min t.toNat (B5 r.a)=t.toNat by lia]
def free_from:callN T G W (n+2) "free_from" [ddD d,.int h,rlD r] S=.ok (.int (if d.ins=[]then h+r.c else h)) S:=by
 rw[Jaa Jgv rfl];have a:=is_maker (W:=W) (n:=n) (S:=S) (d:=d)
 by_cases e:d.ins=[]<;>simp[Jcu,a,e]
def IMk(S:Store)(ds:List Dd)(i:Nat)(a:List D)(S':Store):Prop:=Ext S S'/\a=((ds.take i).filter λd=>decide (d.ins=[])).map λd=>D.int (worth d)
theorem Jxr{ds:List Dd}(g:BkOk ds):((ds.filter λd=>decide (d.ins=[])).map worth).sum=first ds:=by
 cases ds with
 |nil=>exact absurd g.ne (by simp)
 |cons d r=>
  have a:=(g.mr 0 d rfl).mpr rfl;have j:r.filter (λd=>decide (d.ins=[]))=[]:=by
   rw[Qa];intro x k;obtain⟨i,l,e⟩:=Dt.mp k;have:=g.mr (i+1) x (by rw[Bq,Af l,e]);simp;intro z;have:=this.mp z
   lia
  rw[Fz,if_pos (by simp[a]),j];simp[first]
def worth_of_makers(g:BkOk b.ds):∃S',callN T G W (n+2) "worth_of_makers" [bkD b] S=.ok (.int (first b.ds)) S'/\Ext S S':=by
 rw[Jaa Jc1 rfl];refine Sat.to ?_;simp[Ja5];have y:=g.l;obtain⟨d,a,e,z,A,⟨v,rfl⟩,rfl,rfl⟩:=comp (C:=Cn T G W (n+1)) (g:=none) (S:=S) (Z:=[some (bkD b)]) (k:=1) (keep:=[]) (tg:=.tvar 0) (cd:=.cns (.call "is_maker" (.cns (.var 0) .nul)) .nul) (el:=.call "worth_of" (.cns (.var 0) .nul)) (ds:=b.ds.map ddD) (IMk S b.ds) (by rw[Ah];unfold Line;lia) ⟨.refl _,by simp⟩
  (λi p a ⟨_,j⟩=>⟨by rw[j,Ah];exact Bu (Ld _ _) (by simp;lia),rfl⟩)
  (λi p a w ⟨s,j⟩=>by
   have l:i<b.ds.length:=by simpa using w
   refine⟨ddD b.ds[i],by simp[nth,l],?_⟩;have t:=is_maker (W:=W) (n:=n) (S:=a) (d:=b.ds[i]);have x:=worth_of (W:=W) (n:=n) (S:=a) (g.ok _ (Fw l)).o;rw[Jam]
   by_cases m:b.ds[i].ins=[]
   .simp[V2,t,m,x];refine⟨s.trans (.new _ _),?_⟩;rw[j,D4,Af l,Rv,Fc];congr 1;simp[m]
   .simp[V2,t,m];refine⟨s,?_⟩;rw[j,D4,Af l,Rv,Fc];simp[m])
 rw[e];simp only[Res.bind_ok,Wt,W3,Wb];rw[Jbx,Ah,G4,Jxr g];simp;exact v.trans (.new _ _)
theorem Jgh:∀{xs:List D} {k i:Nat},(enD k xs)[i]? =(xs[i]?).map λx=>.tup [.int ((k+i:Nat):Int),x]
 |[],k,i=>by simp[enD]
 |x::xs,k,0=>by simp[enD]
 |x::xs,k,i+1=>by
  rw[enD,Bq,Bq,Jgh,show k+1+i=k+(i+1) by lia]
theorem enD_len:∀{xs:List D} {k:Nat},(enD k xs).length=xs.length
 |[],k=>rfl
 |x::xs,k=>by simp[enD,enD_len]
inductive IBf (S:Store) (L0:Nat) (L u q:Nat) (r:Rl) (h:Int) (b:Bk) (z:Option (Nat×String)×Cs×List Int×Int) (i:Nat) (Z:En) (S':Store):Prop
 |mk (c dn f v0 v1 v2) (_:Z=[some (.loc L0),some (bkD b),some (.int h),some (rlD r),some (.loc L),some (.int f),v0,v1,v2]) (_:Ext S S') (_:Hd S' L u q c dn) (_:Gc c) (_:Gd dn) (_:z=goP h r.c i c dn f (b.ds.drop i)):IBf S L0 L u q r h b z i Z S'
def RBf(S:Store)(z:Option (Nat×String)×Cs×List Int×Int)(d:D)(S':Store):Prop:=Ext S S'/\∃x,z.1=some x/\d=bwD (some x)
def block_fault(a:Hd S L u q c dn)(g:Gc c)(gd:Gd dn)(gr:RlOk r)(E:BkOk b.ds)(hh:1<=h):∃S',callN T G W (n+8) "block_fault" [.loc L,bkD b,.int h,rlD r] S=.ok (bwD (bfP r h c dn b.ds)) S'/\Ext S S':=by
 rw[Jaa Je8 rfl];refine Sat.to ?_;obtain⟨S1,u1,q1,e1,x1,hu1,hq1,a1⟩:=copied (W:=W) (n:=n+5) a g;simp[Jbs,a.rc (m:="copied"),e1];unfold bfP;generalize hz:goP h r.c 0 c dn 0 b.ds=z;refine Sat.p2 (loop (IBf S L S.length u1 q1 r h b z) (RBf S z) ⟨c,dn,0,none,none,none,rfl,x1,a1,g,gd,by rw[<-hz];rfl⟩ ?_) ?_
 .rintro i y _ N p ⟨Q,s,U,v0,v1,v2,rfl,j,x,g2,k,e⟩;rw[Jgh,Ao]at p;obtain⟨y',hy,rfl⟩:=Al.mp p;obtain⟨d,A,rfl⟩:=Al.mp hy;have hi:i<b.ds.length:=(Ae.mp A).1;have t:=E.ok d (Au A);rw[Bw hi,(Ae.mp A).2,goP]at e;obtain⟨Y,H,l⟩:=fault (W:=W) (n:=n+1) (h:=h) x g2 t;have I:=x.ext l;rw[Jap];simp[x.rc (m:="fault"),H];cases o:V5 Q s d h with
  |some w=>
   rw[o]at e;simp;rw[if_pos (by decide)];simp;exact⟨j.trans l,(i,w),by rw[e],rfl⟩
  |none=>
   rw[o]at e;obtain⟨hn,hdst,hv⟩:=Jbp o;obtain⟨S4,J,x4⟩:=fee (W:=W) (n:=n+4) I t hv;have a4:=I.ext x4;have e5:=free_from (W:=W) (n:=n+5) (S:=S4) (d:=d) (h:=h) (r:=r);obtain⟨v,S5,e6,k5,a5⟩:=Jyl (W:=W) (n:=n) (f:=if d.ins=[]then h+r.c else h) a4 g2 k t o;simp[I.rc (m:="fee"),J,a4.rc (m:="do"),e5,e6];refine⟨_,_,_,_,_,_,rfl,((j.trans l).trans x4).keep k5 (by simp;lia),a5,?_,k.add hn t.n,?_⟩
   .exact g2.putO t _
   .rw[e];dsimp only;have:=E.mr i d A
    by_cases C:i=0
    .rw[if_pos C,if_pos (this.mpr C)]
    .rw[if_neg C,if_neg (λz=>C (this.mp z))]
 .intro fl N hf;rcases hf.nr with⟨_,rfl,Q,s,U,v0,v1,v2,rfl,j,x,g2,k,e⟩|⟨y,rfl,j,w,o,rfl⟩
  .rw[enD_len,Ah,G6,goP]at e;obtain⟨Y,H,l⟩:=worth_of_makers (W:=W) (n:=n+5) (S:=N) E;have J:=gift (W:=W) (n:=n+6) (S:=Y) gr hh;subst e;simp[H,J]
   by_cases hm:Vw r h+U<first b.ds
   .simp[hm];rw[if_pos (by decide)];simp;exact j.trans l
   .simp[hm];exact j.trans l
  .simp[o];exact j
inductive IDb (S:Store) (L u q:Nat) (r:Rl) (h:Int) (b:Bk) (z:Option (Nat×String)×Cs×List Int×Int) (i:Nat) (acc:List D) (S':Store):Prop
 |mk (_:acc.length=i) (_:Keep [u,q] S S') (_:∃c dn f,Hd S' L u q c dn/\Gc c/\Gd dn/\z=goP h r.c i c dn f (b.ds.drop i)):IDb S L u q r h b z i acc S'
def do_block(a:Hd S L u q c dn)(g:Gc c)(Y:Gd dn)(gr:RlOk r)(y:BkOk b.ds)(hh:1<=h)(A:bfP r h c dn b.ds=none):
  Sat (callN T G W (n+9) "do_block" [.loc L,bkD b,.int h,rlD r] S) λd S'=>(∃x ys,d=.loc x/\S'[x]? =some (.lst ys)/\ys.length=b.ds.length)/\Keep [u,q] S S'/\Hd S' L u q (goP h r.c 0 c dn 0 b.ds).2.1 (goP h r.c 0 c dn 0 b.ds).2.2.1/\Gc (goP h r.c 0 c dn 0 b.ds).2.1/\Gd (goP h r.c 0 c dn 0 b.ds).2.2.1:=by
 rw[Jaa Jid rfl];obtain⟨S1,e1,x1⟩:=block_fault (W:=W) (n:=n) a g Y gr y hh;rw[A]at e1;simp[Jdp,e1];have a1:=a.ext x1;have o:(goP h r.c 0 c dn 0 b.ds).1=none:=by
  unfold bfP at A;split at A
  .cases A
  .assumption
 generalize hz:goP h r.c 0 c dn 0 b.ds=z at o;have hl:=y.l;have cc:=comp (C:=Cn T G W (n+8)) (g:=none) (S:=S1) (Z:=[some (.loc L),some (bkD b),some (.int h),some (rlD r),some (bwD none)]) (k:=1) (keep:=[2,0,3]) (tg:=.tvar 0) (cd:=.nul) (el:=(.mcl "Hoard" "do" "Hoard.do" (.var 2) (.cns (.var 0) (.cns (.var 1) (.cns (.call "free_from" (.cns (.var 0) (.cns (.var 1) (.cns (.var 3) .nul)))) .nul))))) (ds:=b.ds.map ddD) (IDb S L u q r h b z) (by rw[Ah];unfold Line;lia) ⟨by simp,.ext x1,c,dn,0,a1,g,Y,by rw[<-hz];rfl⟩
  (λi N S1 h1=>⟨Nb h1.1,rfl⟩)
  (λi N S2 hi q_=>by
   obtain⟨s,k2,E,p,f2,H,g2,l,j⟩:=q_;have Q:i<b.ds.length:=by simpa using hi
   have I:b.ds[i]? =some b.ds[i]:=Af Q;refine⟨ddD b.ds[i],by simp[nth,Q],?_⟩;generalize b.ds[i]=d at I;have U:=y.ok d (Au I);rw[Bw Q,(Ae.mp I).2,goP]at j;have t:V5 E p d h=none:=by
    cases t:V5 E p d h with
    |none=>rfl
    |some w=>rw[t]at j;rw[j]at o;cases o
   rw[t]at j;obtain⟨hn,hdst,hv⟩:=Jbp t;have e5:=free_from (W:=W) (n:=n+6) (S:=S2) (d:=d) (h:=h) (r:=r);obtain⟨v,S5,e6,k5,a5⟩:=Jyl (W:=W) (n:=n+1) (f:=if d.ins=[]then h+r.c else h) H g2 l U t;rw[Jam];simp[V2,H.rc (m:="do"),e5,e6];refine⟨by simp;exact s,k2.trans k5,_,_,f2+W5 E d,a5,g2.putO U _,l.add hn U.n,j.trans ?_⟩;dsimp only;have:=y.mr i d I
   by_cases J:i=0
   .rw[if_pos J,if_pos (this.mpr J)]
   .rw[if_neg J,if_neg (λz=>J (this.mp z))])
 obtain⟨d,S2,e,ys,S0,⟨ha,k0,E,p,f2,H,g2,l,j⟩,rfl,rfl⟩:=cc;simp only[bwD]at e;rw[e];rw[Ah,G6,goP]at j;subst j;simp;exact⟨by simpa using ha,k0.trans (.new _),H.ext (.new _ _),g2,l⟩
def held(a:Hd S L u q c dn)(g:Gc c):callN T G W (n+1) "Hoard.held" [.loc L] S=.ok (.loc S.length) (S++[.dtu (srD (cp c))]):=by
 rw[Jaa Jfd rfl];simp[Jb5,a.fu,Jpj a.u g.apt (by rw[Ah];have:=g.len;unfold Line;lia)]
theorem Jfq{ds:List D}:cop .ne (.tup ds) (.tup []) S=some (!ds.isEmpty):=by
 cases ds<;>rfl
def Jxk(a:S[u]? =some (csO c)):cop .nin (dK k) (.loc u) S=some (!(dVal c k).isSome):=by
 rw[Jpy a,Jbl,Fb]
def Jx9(a:S[u]? =some (csO c)):cop .inn (dK k) (.loc u) S=some (dVal c k).isSome:=by
 rw[Jux a,Jbl,Fb]
def Jjv(a:S[u]? =some (csO c))(e:dVal c k=some v):Jar (.loc u) (dK k) S=.ok (kpD v) S:=Jga a (by rw[Jbl,e];rfl)
inductive IWd (S:Store) (u q l:Nat) (c:Cs) (d:Dd) (h:Int) (i:Nat) (Z:En) (S':Store):Prop
 |mk (a0 a1 a2 a3 a4 a5 a6 a7 a8) (_:Z=[some (.loc u),some (.loc q),some (ddD d),some (.int h),some (.int d.n),some (.tup (d.ins.map inD)),some (.tup (d.outs.map ouD)),some (.loc l),a0,a1,a2,a3,a4,a5,a6,a7,a8]) (_:Ext S S') (_:d.ins.findSome? (inW c d h)=(d.ins.drop i).findSome? (inW c d h)):IWd S u q l c d h i Z S'
def Jif(H:S[u]? =some (csO c))(I:S[q]? =some (dnO dn))(g:Gc c)(g2:W7 d):∃S',callN T G W (n+5) "_law_word" [.loc u,.loc q,ddD d,.int h] S=.ok (wD (V5 c dn d h)) S'/\Ext S S':=by
 rw[Jaa Jh2 rfl];have i3:=g2.i;have w:∀Z,evG (Cn T G W (n+4)) (.ttup (.cns (.tvar 4) (.cns (.tvar 5) (.cns (.tvar 6) .nul)))) (ddD d) Z S=evGs (Cn T G W (n+4)) (.cns (.tvar 4) (.cns (.tvar 5) (.cns (.tvar 6) .nul))) [.int d.n,.tup (d.ins.map inD),.tup (d.outs.map ouD)] Z S:=λZ=>rfl;unfold V5
 by_cases J:d.n∈dn
 .simp[Jcf,w,Jm0 I,J];exact .refl _
 refine Sat.to ?_;simp[Jcf,w,Jm0 I,J];rw[Jbi (xs:=d.ins) inD (λi=>dK i.1) (by lia) (.inl rfl) (λx _=>by simp[Jam,V2])];have y:(S++[Obj.lst (d.ins.map λi=>dK i.1)])[S.length]? =some (.lst ((nms d).map dK)):=by rw[Jac];simp[nms,Bt]
 have l:=Ext.new S [Obj.lst (d.ins.map λi=>dK i.1)];generalize S++[Obj.lst (d.ins.map λi=>dK i.1)]=S1 at y l;have hln:(nms d).length=d.ins.length:=by simp[nms]
 have e2:=Jq5 y (by lia);have N:=Jay y;rw[Ah]at N;simp[e2,N]
 by_cases Q:dst (nms d)<(nms d).length
 .simp[Q];exact l
 simp[Q];refine Sat.p2 (loop (IWd S1 u q S.length c d h) (RFau S c d h) ⟨_,_,_,_,_,_,_,_,_,rfl,.refl _,by simp⟩ ?_) ?_
 .rintro i z _ m U ⟨a0,a1,a2,a3,a4,a5,a6,a7,a8,rfl,e,a⟩;rw[Ao]at U;obtain⟨r,A,rfl⟩:=Al.mp U;have t:i<d.ins.length:=(Ae.mp A).1;rw[Bw t,(Ae.mp A).2,Q7]at a;have v:=(l.trans e).get H;have w:∀Z,evG (Cn T G W (n+4)) (.ttup (.cns (.tvar 8) (.cns (.tvar 9) .nul))) (inD r) Z m=evGs (Cn T G W (n+4)) (.cns (.tvar 8) (.cns (.tvar 9) .nul)) [dK r.1,.tup (r.2.map D.int)] Z m:=λZ=>rfl;rw[Jap];simp[w,Jxk v];cases p:dVal c r.1 with
  |none=>
   simp -implicitDefEqProofs [inW,p]at a ⊢;exact⟨"gone",a,rfl,l.trans e⟩
  |some k=>
   have ek:∀Z,evG (Cn T G W (n+4)) (.ttup (.cns (.tvar 10) (.cns (.tvar 11) (.cns (.tvar 12) (.cns (.tvar 13) .nul))))) (kpD k) Z m=evGs (Cn T G W (n+4)) (.cns (.tvar 10) (.cns (.tvar 11) (.cns (.tvar 12) (.cns (.tvar 13) .nul)))) [.int k.w,.tup (k.lk.map rD),.int k.m,.int k.f] Z m:=λZ=>rfl;simp[Jjv v p,ek];simp only[inW,p]at a
   by_cases s:h<k.f
   .rw[if_pos s]at a;simp[s];exact⟨"green",a,rfl,l.trans e⟩
   .rw[if_neg s]at a;simp[s];rw[Jbo g2.o (λx _=>by simp[Jam,V2])];simp only[Res.bind_ok,Wt,W3,Wb];rw[Jah Jac];have Y:=g.ok _ (Jbk p);obtain⟨bb,hb⟩:=Y.lk.2 (fx k d h) r.2;obtain⟨S3,C,j⟩:=Jjm (W:=W) n (fx k d h) k.lk r.2 (m++[pl (Wa d)]) (by have:=Y.lk.1;simp at this;lia) (by have:=g2.k r (Au A);lia) hb;have ea:(if k.m<h then h-k.m else 0)=if h-k.m<0 then 0 else h-k.m:=by split<;>split<;>lia
    simp only[fD,fx]at C;rw[<-ea]at C;simp;rw[if_pos (by decide)];simp[C];rw[hb]at a;cases bb with
    |false=>
     simp at a ⊢;exact⟨"shut",a,rfl,((l.trans e).trans (.new _ _)).trans j⟩
    |true=>
     simp at a ⊢;exact⟨_,_,_,_,_,_,_,_,_,rfl,(e.trans (.new _ _)).trans j,a⟩
 .intro fl m s;rcases s.nr with⟨_,rfl,a0,a1,a2,a3,a4,a5,a6,a7,a8,rfl,e,a⟩|⟨r,rfl,x,a,rfl,e⟩
  .rw[Ah,G6]at a;have hn:=E4.mp a;have p:∀i∈d.ins,∃k,dVal c i.1=some k:=λi t=>by
    have:=hn i t;unfold inW at this;split at this
    .cases this
    .exact⟨_,‹_›⟩
   rw[a];simp;rw[Jbo g2.o (λx _=>by simp[Jam,V2])];simp only[Res.bind_ok,Wt,W3,Wb];rw[Jfe];have j:=(l.trans e).trans (.new _ [pl (Wa d)]);have o:=Jag (X:=[pl (Wa d)]) (e.get y);generalize m++[pl (Wa d)]=S3 at j o;simp[Jfq]
   by_cases hm:d.ins=[]
   .simp[hm];exact j
   .simp[hm,Ja6 o];have E:=j.get H;rw[Jbi (xs:=nms d) dK (λi=>.int (wOf c i)) (by lia) (.inr ⟨_,rfl,o⟩) (λx hx=>by
     obtain⟨i,t,rfl⟩:=Bd.mp hx;obtain⟨k,hk⟩:=p i t;simp[Jam,V2,Jjv E hk,wOf,hk])]
    have:=Jfe (S:=S3) ((nms d).map (wOf c));simp only[pl,B6,Bt]at this;simp only[Res.bind_ok,Wt,W3,Wb];rw[this];have es:((nms d).map (wOf c)).sum=spent c d:=by simp[spent,nms,Bt]
    rw[es];have ew:(Wa d).sum=worth d:=rfl
    by_cases hs:spent c d<worth d
    .simp[hs,ew];exact j.trans (.new _ _)
    .simp[hs,ew];exact j.trans (.new _ _)
  .simp[a];exact e
def sofar(c:Cs)(d:Dd)(i:Nat):Int:=((d.ins.take i).map λx=>wOf c x.1).sum
inductive ILp (S:Store) (u q:Nat) (c:Cs) (d:Dd) (h f:Int) (i:Nat) (Z:En) (S':Store):Prop
 |mk (a0 a1) (_:Z=[some (.loc u),some (.loc q),some (ddD d),some (.int h),some (.int f),some (.int (-worth d+sofar c d i)),a0,a1,none,none]) (_:Keep [u] S S') (_:S'[u]? =some (csO (dropO c d i))):ILp S u q c d h f i Z S'
inductive ILq (S:Store) (u q:Nat) (c:Cs) (d:Dd) (h f:Int) (v:D) (i:Nat) (Z:En) (S':Store):Prop
 |mk (a0 a1 a2 a3) (_:Z=[some (.loc u),some (.loc q),some (ddD d),some (.int h),some (.int f),some v,a0,a1,a2,a3]) (_:Keep [u] S S') (_:S'[u]? =some (csO (putO c d h f i))):ILq S u q c d h f v i Z S'
def Jjj(Y:S[u]? =some (csO c))(hq:S[q]? =some (dnO dn))(g:Gc c)(gd:Gd dn)(g2:W7 d)(hn:d.n∉dn)(h2:¬dst (nms d)<(nms d).length)(E:∀i∈d.ins,∃k,dVal c i.1=some k):
  ∃S',callN T G W (n+1) "_law_put" [.loc u,.loc q,ddD d,.int h,.int f] S=.ok (.int (W5 c d)) S'/\Keep [u,q] S S'/\S'[u]? =some (csO (W9 c d h f))/\S'[q]? =some (dnO (dn++[d.n])):=by
 rw[Jaa Ji7 rfl];have a:u≠q:=by
  rintro rfl;have:=Y.symm.trans hq;cases this
 refine Sat.to ?_;simp[Jex];rw[Jbo g2.o (λx _=>by simp[Jam,V2])];simp only[Res.bind_ok,Wt,W3,Wb];rw[Jfe];have H:=Ext.new S [pl (Wa d)];generalize S++[pl (Wa d)]=S1 at H;have J:=H.get Y;have N:=H.get hq;simp;refine Sat.p2 (loop (ILp S1 u q c d h f) noR ⟨none,none,by simp[sofar];rfl,.refl,J⟩ ?_) ?_
 .rintro i z _ S2 hd ⟨a0,a1,rfl,k2,j⟩;rw[Ao]at hd;obtain⟨x,l,rfl⟩:=Al.mp hd;have hi:i<d.ins.length:=(Ae.mp l).1;obtain⟨v,E⟩:=E x (Au l);have e:=pop_at j ((Jmt h2 l).trans E);have rr:=Wae (me:=.pop1) rfl j;have eg:∀Z,evG (Cn T G W n) (.ttup (.cns (.tvar 6) (.cns (.tvar 7) .nul))) (inD x) Z S2=evGs (Cn T G W n) (.cns (.tvar 6) (.cns (.tvar 7) .nul)) [dK x.1,.tup (x.2.map D.int)] Z S2:=λZ=>rfl;rw[Jap];simp[eg,e,rr];have:sofar c d (i+1)=sofar c d i+v.w:=by
   unfold sofar;rw[D4,l,Fc,List.sum_append];simp[wOf,E]
  rw[P1,<-this];exact⟨_,_,rfl,k2.trans (.set (by simp)),by rw[Jas j,Jmu l]⟩
 .intro fl S6 Q;obtain⟨_,rfl,x,y,rfl,k6,m⟩:=Q.nx;simp only[Ah]at m ⊢;have es:sofar c d d.ins.length=spent c d:=by simp[sofar,spent]
  rw[es];simp;refine Sat.p2 (loop (ILq S6 u q c d h f (.int (-worth d+spent c d))) noR ⟨_,_,_,_,rfl,.refl,m⟩ ?_) ?_
  .rintro i z _ S8 p ⟨a0,a1,a2,a3,rfl,k8,s⟩;rw[Jgh,Ao]at p;obtain⟨y',hy,rfl⟩:=Al.mp p;obtain⟨o,ho,rfl⟩:=Al.mp hy;have e:=Jqv (k:=(d.n,(i:Int))) (v:=⟨o.1,o.2,h,f⟩) s (g.putO g2 i);simp only[kpD]at e;rw[Jap];simp;rw[if_pos (by decide)];simp;rw[if_pos (by decide)];simp[e];exact⟨_,_,_,_,rfl,k8.trans (.set (by simp)),by rw[Jas s,Jqw ho]⟩
  .intro fl U Q;obtain⟨_,rfl,a0,a1,a2,a3,rfl,k9,t⟩:=Q.nx;rw[enD_len,Ah]at t;have w:=k9.get (k6.get N (by simp;exact a.symm)) (by simp;exact a.symm);simp[Jln w gd hn,Jfq];have kk:Keep [u,q] S (U.set q (dnO (dn++[d.n]))):=(((Keep.ext H).trans (k6.mono (by simp))).trans (k9.mono (by simp))).trans (.set (by simp));have A:(U.set q (dnO (dn++[d.n])))[u]? =some (csO (W9 c d h f)):=by rw[A1 a.symm];exact t
   have C:(U.set q (dnO (dn++[d.n])))[q]? =some (dnO (dn++[d.n])):=Jas w;unfold W5
   by_cases I:d.ins=[]
   .rw[Jbg (by simp[I];rfl)];simp[I];exact⟨kk,A,C⟩
   .rw[Jbg (by simp[I];rfl)];simp[I];exact⟨by lia,kk,A,C⟩
inductive IGf (r:Rl) (h:Int) (S:Store) (i:Nat) (Z:En) (S':Store):Prop
 |mk (a) (_:Z=[some (rlD r),some (.int h),some (.int (r.a/2^i)),a]) (_:S'=S):IGf r h S i Z S'
def Jd5(g:RlOk r)(C:1<=h):callN T G W (n+1) "_law_gift" [rlD r,.int h] S=.ok (.int (Vw r h)) S:=by
 suffices p:∃S',callN T G W (n+1) "_law_gift" [rlD r,.int h] S=.ok (.int (Vw r h)) S'/\S'=S by
  obtain⟨S',e,rfl⟩:=p;exact e
 rw[Jaa Jh8 rfl];refine Sat.to ?_;have E:=g.b;have s:0<=(h-1)/r.b:=Od (by lia) (by lia);have l:=Ja0 (S:=S) (i:=h-1) (j:=r.b) (by lia) (by lia);unfold Vw;generalize(h-1)/r.b=t at s l;simp[Jdl,l];obtain⟨k,v,w⟩:∃k:Nat,(if t<200 then t else 200)=(k:Int)/\k=min 200 t.toNat:=⟨min 200 t.toNat,by split<;>lia,rfl⟩
 rw[v,Jdd (by lia) (by lia)];simp;refine Sat.p2 (loop (IGf r h S) noR ⟨none,by simp,rfl⟩ ?_) ?_
 .rintro i z _ m o ⟨a,rfl,rfl⟩;rw[Ao]at o;obtain⟨x,H,rfl⟩:=Al.mp o;rw[Jap];have y:=Ja0 (S:=m) (i:=r.a/2^i) (j:=2) (by decide) (by decide);simp[y];refine⟨some (.int x),?_,rfl⟩;rw[Int.pow_succ,Int.ediv_ediv_of_nonneg (Va (by decide))]
 .intro I m A;obtain⟨_,rfl,a,rfl,rfl⟩:=A.nx;simp[w]
inductive IDn (S:Store) (L u:Nat) (r:Rl) (h:Int) (b:Bk) (z:Option (Nat×String)×Cs×List Int×Int) (i:Nat) (Z:En) (S':Store):Prop
 |mk (c dn f v0 v1 v2) (_:Z=[some (.loc L),some (.loc u),some (bkD b),some (.int h),some (rlD r),some (.int f),v0,v1,v2]) (_:Ext S S') (_:S'[L]? =some (csO c)) (_:S'[u]? =some (dnO dn)) (_:Gc c) (_:Gd dn) (_:z=goP h r.c i c dn f (b.ds.drop i)):IDn S L u r h b z i Z S'
def RDn(S:Store)(u q:Nat)(z:Option (Nat×String)×Cs×List Int×Int)(d:D)(S':Store):Prop:=Ext S S'/\∃x,z.1=some x/\d=.tup [bwD (some x),.loc u,.loc q,.int 0]
def Jmv(hu:S[u]? =some (csO c))(hq:S[q]? =some (dnO dn))(g:Gc c)(gd:Gd dn)(gr:RlOk r)(N:BkOk b.ds)(hh:1<=h):∃f S',callN T G W (n+6) "_law_done" [.loc u,.loc q,bkD b,.int h,rlD r] S=.ok (.tup [bwD (bfP r h c dn b.ds),.loc S.length,.loc (S.length+1),.int f]) S'/\Ext S S'/\
  (bfP r h c dn b.ds=none->S'[S.length]? =some (csO (goP h r.c 0 c dn 0 b.ds).2.1)/\S'[S.length+1]? =some (dnO (goP h r.c 0 c dn 0 b.ds).2.2.1)):=by
 rw[Jaa Jh9 rfl]
 suffices hs:Sat ((evB (Cn T G W (n+5)) Wi.body (M3 some [.loc u,.loc q,bkD b,.int h,rlD r]++E2 (Wi.N.length-[D.loc u,.loc q,bkD b,.int h,rlD r].length) none) S).bind Yj) λd S'=>∃f,d=.tup [bwD (bfP r h c dn b.ds),.loc S.length,.loc (S.length+1),.int f]/\Ext S S'/\(bfP r h c dn b.ds=none->S'[S.length]? =some (csO (goP h r.c 0 c dn 0 b.ds).2.1)/\S'[S.length+1]? =some (dnO (goP h r.c 0 c dn 0 b.ds).2.2.1)) by
  obtain⟨d,S',e,f,rfl,x,p⟩:=hs;exact⟨f,S',e,x,p⟩
 have Q:=Jag (X:=[csO c]) hq;have e2:=Jd7 Q;simp[Wi,Jd6 hu g.apt];simp at e2;simp[e2];unfold bfP;generalize hz:goP h r.c 0 c dn 0 b.ds=z;obtain⟨j,E,k⟩:∃j E,b.ds=j::E:=by
  cases k:b.ds with
  |nil=>have:=N.ne;rw[k]at this;cases this
  |cons j E=>exact⟨j,E,rfl⟩
 refine Sat.p2 (loop (IDn S S.length (S.length+1) r h b z) (RDn S S.length (S.length+1) z) ⟨c,dn,0,none,none,none,rfl,.new _ _,Jau,Jbv,g,gd,by rw[<-hz];rfl⟩ ?_) ?_
 .rintro i y _ H t ⟨c2,v,f2,v0,v1,v2,rfl,o,l,m,g2,s,a⟩;rw[Jgh,Ao]at t;obtain⟨y',hy,rfl⟩:=Al.mp t;obtain⟨d,U,rfl⟩:=Al.mp hy;have hi:i<b.ds.length:=(Ae.mp U).1;have I:=N.ok d (Au U);rw[Bw hi,(Ae.mp U).2,goP]at a;obtain⟨S3,e3,J⟩:=Jif (W:=W) (n:=n) (h:=h) l m g2 I;rw[Jap];simp[e3];cases A:V5 c2 v d h with
  |some w=>
   rw[A]at a;simp;rw[if_pos (by decide)];simp;rw[if_pos (by decide)];simp;exact⟨o.trans J,(i,w),by rw[a],rfl⟩
  |none=>
   rw[A]at a;obtain⟨hn,C,hv⟩:=Jbp A;obtain⟨S5,e6,k5,Y,hq5⟩:=Jjj (W:=W) (n:=n+4) (h:=h) (f:=if i=0 then h+r.c else h) (J.get l) (J.get m) g2 s I hn C hv;simp;rw[Jbg (by split<;>rfl)];have ef:h+r.c*(if i=0 then 1 else 0)=if i=0 then h+r.c else h:=by split<;>simp
   simp only[Res.bind_ok,Yx,Jcz,ef,Wt,Wb,W3,Zt,Jvf];simp[e6];refine⟨_,_,_,_,_,_,rfl,(o.trans J).keep k5 (by simp),Y,hq5,?_,s.add hn I.n,a⟩;exact g2.putO I _
 .intro fl H hf;rcases hf.nr with⟨_,rfl,c2,v,f2,v0,v1,v2,rfl,o,l,m,g2,s,a⟩|⟨y,rfl,o,w,A,rfl⟩
  .rw[enD_len,Ah,G6,goP]at a;have e0:Jar (.tup (b.ds.map ddD)) (.int 0) H=.ok (ddD j) H:=by rw[k];exact Ja7
   have d0k:=N.ok j (by rw[k];simp);have ef:first b.ds=worth j:=by rw[k];rfl
   simp[e0];rw[Jbo d0k.o (λx _=>by simp[Jam,V2])];simp only[Res.bind_ok,Wt,W3,Wb];rw[Jfe,show(Wa j).sum=worth j from rfl];have e4:=Jd5 (W:=W) (n:=n+4) (S:=H++[pl (Wa j)]) gr hh;subst a;simp[e4];rw[ef]
   by_cases hm:Vw r h+f2<worth j
   .simp[hm];rw[if_pos (by decide)];simp;rw[if_pos (by decide)];simp;exact⟨o.trans (.new _ _),λ_=>⟨Jag l,Jag m⟩⟩
   .simp[hm];rw[if_pos (by decide)];simp;exact⟨o.trans (.new _ _),λ_=>⟨Jag l,Jag m⟩⟩
  .simp[A];exact o
end
section
variable {α0 α1 α2 α3 α4 α5 α6:Type} {r:Res α0} {f1:α0->Store->Res α1} {f2:α1->Store->Res α2} {f3:α2->Store->Res α3} {f4:α3->Store->Res α4} {f5:α4->Store->Res α5} {f6:α5->Store->Res α6} {Q:α0->Store->Prop}
def p5{P:α5->Store->Prop}(h:Sat r Q)(k:∀a S,Q a S->Sat (((((f1 a S).bind f2).bind f3).bind f4).bind f5) P):Sat (((((r.bind f1).bind f2).bind f3).bind f4).bind f5) P:=by
 obtain⟨a,S,rfl,h⟩:=h;exact k a S h
def p6{P:α6->Store->Prop}(h:Sat r Q)(k:∀a S,Q a S->Sat ((((((f1 a S).bind f2).bind f3).bind f4).bind f5).bind f6) P):Sat ((((((r.bind f1).bind f2).bind f3).bind f4).bind f5).bind f6) P:=by
 obtain⟨a,S,rfl,h⟩:=h;exact k a S h
end
section
variable {W n:Nat} {S S':Store} {l L u q:Nat} {c:Cs} {dn:List Int} {ps:List Nat} {d:Dd} {h f m:Int} {r:Rl} {b:Bk} {ds:List D}
inductive Stm (S:Store) (l:Nat):Prop
 |mk (a e s) (_:S[l]? =some (.lst [.int a,.bl e,.int s])):Stm S l
theorem Jg2(C:Stm S l)(w:0<m)(E:m<2^250):∃x S',callN T G W (n+1) "_law_take" [.loc l,.int m] S=.ok (.int x) S'/\Keep [l] S S'/\Stm S' l/\0<=x/\x<m:=by
 obtain⟨a,e,s,g⟩:=C;rw[Jaa Jh3 rfl];have t:∀S a e s,S[l]? =some (Obj.lst [.int a,.bl e,.int s])->Jar (.loc l) (.int 0) S=.ok (.int a) S:=λS a e s h=>Jaq h (at0 (k:=0) rfl);have H:∀S a e s,S[l]? =some (Obj.lst [.int a,.bl e,.int s])->Jar (.loc l) (.int 2) S=.ok (.int s) S:=λS a e s h=>Jaq h (at0 (k:=2) rfl);have z:∀S a e s,S[l]? =some (Obj.lst [.int a,.bl e,.int s])->Jr5 (.loc l) (.int 1) S=.ok e S:=λS a e s h=>by simp only[Jr5];rw[show idxD (.loc l) (.int 1) S=some (.bl e)from Jmj h (at0 (k:=1) rfl)];rfl
 have y:∀S a e s v,S[l]? =some (Obj.lst [.int a,.bl e,.int s])->Ww (.loc l) (.int 0) v S=.ok () (S.set l (.lst [v,.bl e,.int s])):=λS a e s v h=>Jii h (k:=0) rfl;have I:∀S a e s v,S[l]? =some (Obj.lst [.int a,.bl e,.int s])->Ww (.loc l) (.int 1) v S=.ok () (S.set l (.lst [.int a,v,.int s])):=λS a e s v h=>Jii h (k:=1) rfl;have p:∀o,(S.set l o)[l]? =some o:=λo=>Jas g;have fin:∀x,0<=x%m/\x%m<m:=λx=>⟨Ul _ (by omega),Sh _ w⟩
 cases e with
 |true=>
  by_cases A:1<a
  .simp[Jbn,z _ _ _ _ g,t _ _ _ _ g,A,Jaj w,Ja0 w E,y _ _ _ _ _ g];exact⟨a%m,_,⟨rfl,rfl⟩,.set (by simp),⟨_,_,_,p _⟩,fin _⟩
  .simp[Jbn,z _ _ _ _ g,t _ _ _ _ g,H _ _ _ _ g,A,y _ _ _ _ _ g];simp[I _ _ _ _ _ (p (.lst [.int s,.bl true,.int s]))];simp[t _ _ _ _ (p (.lst [.int s,.bl false,.int s]))];rw[Jbg (by rfl)];simp[Jaj (S:=S.set l (.lst [.int s,.bl false,.int s])) (i:=s*48271+11) (j:=2147483629) (by decide),y _ _ _ _ _ (p (.lst [.int s,.bl false,.int s]))];simp[t _ _ _ _ (p (.lst [.int ((s*48271+11)%2147483629),.bl false,.int s])),Ja0 (show(0:Int)<7 by decide) (by decide),Jaj w];exact⟨_,_,⟨rfl,rfl⟩,.set (by simp),⟨_,_,_,p _⟩,fin _⟩
 |false=>
  simp[Jbn,z _ _ _ _ g,t _ _ _ _ g];rw[Jbg (by rfl)];simp[Jaj (S:=S) (i:=a*48271+11) (j:=2147483629) (by decide),y _ _ _ _ _ g];simp[t _ _ _ _ (p (.lst [.int ((a*48271+11)%2147483629),.bl false,.int s])),Ja0 (show(0:Int)<7 by decide) (by decide),Jaj w];exact⟨_,_,⟨rfl,rfl⟩,.set (by simp),⟨_,_,_,p _⟩,fin _⟩
inductive Tkn (W n:Nat) (S:Store) (l:Nat) (m:Int):Prop
 |mk (x:Int) (S':Store) (_:callN T G W (n+1) "_law_take" [.loc l,.int m] S=.ok (.int x) S') (_:Keep [l] S S') (_:Stm S' l) (_:0<=x/\x<m):Tkn W n S l m
def Jaf(e:Stm S l)(g:0<m)(i:m<2^250):Tkn W n S l m:=by
 obtain⟨x,S',a,b,c,d⟩:=Jg2 (W:=W) (n:=n) e g i;exact⟨x,S',a,b,c,d⟩
noncomputable def dOk:List Rw->Nat->Bool
 |[],_=>true
 |.iff::r,k=>dOk r (k+1)
 |.els::r,k=>decide (0<k)&&dOk r k
 |.fin::r,k=>decide (0<k)&&dOk r (k-1)
 |_::r,k=>dOk r k
theorem runs:∀{lk:List Rw} {p:List Int} {st:List Pt},dOk lk st.length=true->∃e,runP F lk p st=some e
 |[],p,st,_=>⟨_,rfl⟩
 |r::rs,p,st,a=>by
  have pl:∀z:Bool×List Int×List Pt,dOk rs z.2.2.length=true->V8 F p st r=some z->∃e,runP F (r::rs) p st=some e:=λz i e=>by
   obtain⟨j,k,o⟩:=z;simp only[runP,e];cases j with
   |false=>exact⟨false,rfl⟩
   |true=>exact runs i
  cases r with
  |iff=>
   cases g:Wy st with
   |false=>exact pl (true,p,(false,false)::st) a (by simp[V8,W4,Wv,g])
   |true=>
    by_cases hp:p=[]
    .refine⟨false,?_⟩;simp[runP,V8,W4,Wv,g,hp]
    .exact pl (true,p.dropLast,(decide (p.getLastD 0≠0),decide (p.getLastD 0=0))::st) a (by simp[V8,W4,Wv,g,hp])
  |els=>
   simp only[dOk,Aj,decide_eq_true_eq]at a;cases st with
   |nil=>exact absurd a.1 (by simp)
   |cons x s=>exact pl (true,p,(x.2,false)::s) a.2 (by simp[V8,W4,Wv])
  |fin=>
   simp only[dOk,Aj,decide_eq_true_eq]at a;cases st with
   |nil=>exact absurd a.1 (by simp)
   |cons x s=>exact pl (true,p,s) a.2 (by simp[V8,W4,Wv])
  |push x=>
   cases g:Wy st with
   |false=>exact pl (true,p,st) a (by simp[V8,W4,g])
   |true=>exact pl (_,_,st) a (by simp[V8,W4,g];exact⟨rfl,rfl⟩)
  |paid x=>
   cases g:Wy st with
   |false=>exact pl (true,p,st) a (by simp[V8,W4,g])
   |true=>exact pl (_,_,st) a (by simp[V8,W4,g];exact⟨rfl,rfl⟩)
  |w x=>
   cases g:Wy st with
   |false=>exact pl (true,p,st) a (by simp[V8,W4,g])
   |true=>exact pl (_,_,st) a (by simp[V8,W4,g];exact⟨rfl,rfl⟩)
def Yd.of{lk:List Rw}(e:lk.length<=6)(g:dOk lk 0=true):Yd lk:=⟨e,λF a=>by
 unfold Xq;split
 .exact runs g
 .exact⟨false,rfl⟩⟩
def Jbr{i:Int}(a:S[l]? =some (.lst ds))(g:0<=i)(j:i<ds.length){P:D->Prop}(hp:∀x∈ds,P x):Sat (Jar (.loc l) (.int i) S) λd S'=>P d/\S'=S:=by
 obtain⟨x,e,k⟩:=J0w g j;rw[Jaq a e];exact .ok ⟨hp x k,rfl⟩
def Jva{d:D}(h:ds.length<1000):V4 .append (.loc S.length) [d] (S++[.lst ds])=.ok .non (S++[.lst (ds++[d])]):=by
 rw[Jax Jac (Jbq (by omega))];simp
def Js5:rcv .append (S++[.lst ds]) (.loc S.length)=true:=Ja8 rfl Jac
def lkD(lk:List Rw):D:=.tup (lk.map rD)
def Jcc(a:Stm S l)(g:0<m)(i:m<2^250):Sat (callN T G W (n+1) "_law_take" [.loc l,.int m] S) λd S'=>∃x,d=.int x/\Keep [l] S S'/\Stm S' l/\0<=x/\x<m:=by
 obtain⟨x,S',e,p⟩:=Jg2 (W:=W) (n:=n) a g i;exact⟨_,S',e,x,rfl,p⟩
def Stm.ext(g:Stm S l)(x:Ext S S'):Stm S' l:=by
 obtain⟨a,e,s,h⟩:=g;exact⟨a,e,s,x.get h⟩
def Stm.lt(g:Stm S l):l<S.length:=by
 obtain⟨a,e,s,h⟩:=g;exact Ja4 h
def Jjr(j:Stm S l):∃(lk:List Rw) (ks:List Int) (S':Store),callN T G W (n+2) "_law_lock" [.loc l] S=.ok (.tup [lkD lk,.tup (ks.map D.int)]) S'/\Keep [l] S S'/\Stm S' l/\Yd lk/\ks.length<=2:=by
 rw[Jaa Jh6 rfl]
 suffices j:Sat ((evB (Cn T G W (n+1)) Wg.body (M3 some [.loc l]++E2 (Wg.N.length-[D.loc l].length) none) S).bind Yj) λd S'=>∃(lk:List Rw) (ks:List Int),d=.tup [lkD lk,.tup (ks.map D.int)]/\Keep [l] S S'/\Stm S' l/\Yd lk/\ks.length<=2 by
  obtain⟨d,S',e,lk,ks,rfl,p⟩:=j;exact⟨lk,ks,S',e,p⟩
 obtain⟨x,J,N,Q,H,hx⟩:=Jaf (W:=W) (n:=n) (m:=2000) j (by decide) (by decide);have U:l<J.length:=by obtain⟨a,e,s,h⟩:=H;exact Ja4 h
 simp[Wg,N,Line,Jva,Js5,Jaj (show(0:Int)<9 by decide),Jaj (show(0:Int)<4 by decide),Jaj (show(0:Int)<3 by decide),Jaj (show(0:Int)<2 by decide)];have Y:∃a:List Int,a.length<=2/\atI [D.tup [.int (x-1000),.int 1],.tup [.int 0]] ((x-1000)%2)=some (.tup (a.map D.int)):=by
  rcases(show(x-1000)%2=0\/(x-1000)%2=1 by omega)with e|e
  .exact⟨[x-1000,1],by simp,by rw[e];exact at0 (k:=0) rfl⟩
  .exact⟨[0],by simp,by rw[e];exact at0 (k:=1) rfl⟩
 obtain⟨ka,o,t⟩:=Y;rw[Jaq Jbv t];simp[Line];refine Sat.p3 (Jcc (m:=10) (H.ext (.new _ _)) (by decide) (by decide)) ?_;rintro _ S2 ⟨w,rfl,i,s2,I,h1⟩;have v:Keep [l] S S2:=Q.trans ((Keep.new _).trans i);have z:=i.get Jau (by simp;omega);have A:=i.get Jdb (by simp;omega);clear i;simp;refine p5 (Jbr z I (by simp;omega) (P:=λy=>∃lk,y=lkD lk/\Yd lk) ?_) ?_
 .intro y g;simp only[Am,Bf,or_false]at g;rcases g with rfl|rfl|rfl|rfl|rfl|rfl|rfl|rfl|rfl|rfl
  .exact⟨[],rfl,.of (by decide) rfl⟩
  .exact⟨[.push 1],rfl,.of (by simp) rfl⟩
  .exact⟨[.push _,.w .same],rfl,.of (by simp) rfl⟩
  .exact⟨[.w .height,.push _,.w .less,.w .not],rfl,.of (by simp) rfl⟩
  .exact⟨[.w .age,.push _,.w .less,.w .not],rfl,.of (by simp) rfl⟩
  .exact⟨[.iff,.push _,.w .same,.els,.push 1,.fin],rfl,.of (by simp) rfl⟩
  .exact⟨[.w .worth,.push _,.w .less,.w .not],rfl,.of (by simp) rfl⟩
  .exact⟨[.w .ins,.push _,.w .same],rfl,.of (by simp) rfl⟩
  .exact⟨[.w .outs,.push _,.w .same,.w .not],rfl,.of (by simp) rfl⟩
  .exact⟨[.paid _,.push _,.w .less,.w .not],rfl,.of (by simp) rfl⟩
 rintro _ _ ⟨⟨lk,rfl,C⟩,rfl⟩;simp[Line];rw[Jcy (Jag A) Jac (by simp[Line])];simp only[Res.bind_ok,War,v_var,Ze,Bq,Ek];refine p6 (Jbr Jac I (by simp;omega) (P:=λy=>∃ks:List Int,y=.tup (ks.map D.int)/\ks.length<=2) ?_) ?_
 .intro y g;simp only[Bm,Am,Bf,or_false]at g;rcases g with(rfl|rfl|rfl|rfl|rfl|rfl)|(rfl|rfl|rfl|rfl)
  .exact⟨[_],rfl,by simp⟩
  .exact⟨[],rfl,by simp⟩
  .exact⟨[_],rfl,by simp⟩
  .exact⟨[],rfl,by simp⟩
  .exact⟨[],rfl,by simp⟩
  .exact⟨ka,rfl,o⟩
  .exact⟨[],rfl,by simp⟩
  .exact⟨[],rfl,by simp⟩
  .exact⟨[],rfl,by simp⟩
  .exact⟨[],rfl,by simp⟩
 rintro _ _ ⟨⟨ks,rfl,E⟩,rfl⟩;simp[Line];exact⟨lk,ks,⟨rfl,rfl⟩,v.trans (.new _),s2.ext (.new _ _),C,E⟩
end
def lkR(lk:List Rw):=(lkK (lkD lk)).getD []
theorem Js2(r:Rw):∃k,rwK (rD r)=some k:=by
 cases r with
 |w x=>exact⟨_,rfl⟩
 |_=>exact⟨_,rfl⟩
theorem Jl6(lk:List Rw):lkK (lkD lk)=some (lkR lk):=by
 have:∃k,lkK (lkD lk)=some k:=by
  unfold lkD;simp only[lkK]
  induction lk with
  |nil=>exact⟨_,rfl⟩
  |cons a r b=>
   obtain⟨k,e⟩:=Js2 a;obtain⟨c,d⟩:=b;exact⟨k::c,by simp only[Ax,X8,e,d]⟩
 obtain⟨k,e⟩:=this;rw[lkR,e];rfl
section
variable {κ α:Type} [DecidableEq κ] {c:List (κ×α)} {k k':κ} {v:α}
def Zs:(∃v,dVal c k=some v)↔k∈c.map (·.1):=by
 constructor
 .rintro⟨v,h⟩;exact Bd.mpr ⟨_,Jbk h,rfl⟩
 .intro h;obtain⟨p,hp,rfl⟩:=Bd.mp h;unfold dVal;have:(c.find? λq=>decide (q.1=p.1)).isSome:=by
   rw[List.find?_isSome];exact⟨p,hp,by simp⟩
  obtain⟨x,a⟩:=Ci.mp this;exact⟨x.2,by rw[a];rfl⟩
def Jta:k∈(dPut c k v).map (·.1):=by
 unfold dPut;split
 .rename_i h;obtain⟨p,hp,e⟩:=Il.mp h;rw[B6];refine Bd.mpr ⟨p,hp,?_⟩;simp only[decide_eq_true_eq]at e;simp[e]
 .simp
def Js8(h:k'∈c.map (·.1)):k'∈(dPut c k v).map (·.1):=by
 rcases Je0 (c:=c) (k:=k) (v:=v)with e|⟨e,_⟩
 .rw[e];exact h
 .rw[e];exact Fh _ h
def Js9:(dPut c k v).length<=c.length+1:=by
 rcases Je0 (c:=c) (k:=k) (v:=v)with e|⟨e,_⟩
 .have:=congrArg Dv e;simp at this
  lia
 .have:=congrArg Dv e;simp at this
  lia
end
abbrev Kv:=List (List (List Key)×D)
structure Xe(kvs:Kv)(mx:Nat):Prop where
 l:kvs.length<=mx
 k:∀p∈kvs,∃ks:List Int,p.2=.tup (ks.map D.int)/\ks.length<=2
def Hs(kvs:Kv)(lk:List Rw):Prop:=lkR lk∈kvs.map (·.1)
def Gr(a b:Kv):Prop:=∀lk,Hs a lk->Hs b lk
section
variable {W n:Nat} {S S':Store} {l L u q rl:Nat} {c:Cs} {dn:List Int} {ps:List Nat} {d:Dd} {h f m t:Int} {r:Rl} {b:Bk} {ds:List D} {kvs:Kv} {lk:List Rw} {mx:Nat} {ks:List Int}
def Xe.put(g:Xe kvs mx)(a:ks.length<=2):Xe (dPut kvs (lkR lk) (.tup (ks.map D.int))) (mx+1):=⟨by have:=Js9 (c:=kvs) (k:=lkR lk) (v:=D.tup (ks.map D.int));have:=g.l;lia,λp hp=>(Jgl hp).elim (g.k p) λe=>⟨ks,by rw[e],a⟩⟩
def Gr.put:Gr kvs (dPut kvs (lkR lk) v):=λ_ h=>Js8 h
def Hs.put:Hs (dPut kvs (lkR lk) v) lk:=Jta
def Jqp(a:S[rl]? =some (.rg kvs))(g:Xe kvs mx)(e:mx<=100000):Ww (.loc rl) (lkD lk) v S=.ok () (S.set rl (.rg (dPut kvs (lkR lk) v))):=by
 have:=g.l;simp only[Ww,a,Jl6,if_pos (show kvs.length<Line by unfold Line;lia)]
def Jya(i:S[rl]? =some (.rg kvs))(g:Xe kvs mx)(j:Hs kvs lk):∃ks:List Int,Jar (.loc rl) (lkD lk) S=.ok (.tup (ks.map D.int)) S/\ks.length<=2:=by
 obtain⟨v,a⟩:=Zs.mpr j;obtain⟨ks,e,k⟩:=g.k _ (Jbk a);refine⟨ks,?_,k⟩;simp only at e;subst e;simp[Jar,idxD,V6,seqAt,i,Jl6,a]
def Jo6{a:Store}(k:Keep ps S a)(h:S.length<=p):Keep ps S (a.set p o):=⟨by simp[k.1],λl e n=>by rw[A1 (by lia)];exact k.2 l e n⟩
def Stm.ne_rg(g:Stm S l)(i:S[rl]? =some (.rg kvs)):l≠rl:=by
 rintro rfl;obtain⟨a,e,s,h⟩:=g;have:=h.symm.trans i;cases this
def Stm.get(g:Stm S l){p:Nat}(k:Keep ps S S')(hp:l∉ps):Stm S' l:=by
 obtain⟨a,e,s,h⟩:=g;exact⟨a,e,s,k.get h hp⟩
def OuOk(kvs:Kv)(o:Int×List Rw):Prop:=o.1<=10^40/\Yd o.2/\Hs kvs o.2
structure Sr(S:Store)(l rl:Nat)(kvs:Kv)(mx:Nat)(S':Store)(kvs':Kv):Prop where
 k:Keep [l,rl] S S'
 s:Stm S' l
 r:S'[rl]? =some (.rg kvs')
 g:Xe kvs' mx
 m:Gr kvs kvs'
def Sr.refl(a:Stm S l)(e:S[rl]? =some (.rg kvs))(g:Xe kvs mx):Sr S l rl kvs mx S kvs:=⟨.refl,a,e,g,λ_ h=>h⟩
def Sr.take(a:Sr S l rl kvs mx i j)(k:Keep [l] i e)(s:Stm e l):Sr S l rl kvs mx e j:=⟨a.k.trans (k.mono (by simp)),s,k.get a.r (by simp;exact(a.s.ne_rg a.r).symm),a.g,a.m⟩
def Sr.ext(a:Sr S l rl kvs mx e i)(x:Ext e j):Sr S l rl kvs mx j i:=⟨a.k.trans (.ext x),a.s.ext x,x.get a.r,a.g,a.m⟩
def Sr.put{e:Store}(a:Sr S l rl kvs mx e i)(j:ks.length<=2):Sr S l rl kvs (mx+1) (e.set rl (.rg (dPut i (lkR lk) (.tup (ks.map D.int))))) (dPut i (lkR lk) (.tup (ks.map D.int))):=⟨a.k.trans (.set (by simp)),a.s.get (p:=0) (Keep.set (ps:=[rl]) (by simp)) (by simp;exact a.s.ne_rg a.r),Jas a.r,a.g.put j,λlk h=>Gr.put lk (a.m lk h)⟩
def Sr.mono(a:Sr S l rl kvs mx e i)(h:mx<=j):Sr S l rl kvs j e i:=⟨a.k,a.s,a.r,⟨Bu a.g.l h,a.g.k⟩,a.m⟩
def Sr.trans(a:Sr S l rl kvs mx e i)(b:Sr e l rl i j o p):Sr S l rl kvs j o p:=⟨a.k.trans b.k,b.s,b.r,b.g,λlk h=>b.m lk (a.m lk h)⟩
def Sr.new{e:Store}(a:Sr S l rl kvs mx e i)(h:S.length<=p)(hp:p≠l)(j:p≠rl):Sr S l rl kvs mx (e.set p o) i:=⟨Jo6 a.k h,a.s.get (p:=0) (Keep.set (ps:=[p]) (by simp)) (by simp;exact hp.symm),by rw[A1 j];exact a.r,a.g,a.m⟩
inductive IOut (S:Store) (l rl o:Nat) (kvs:Kv) (mx:Nat) (i:Nat) (Z:En) (S':Store):Prop
 |mk (t:Int) (os:List (Int×List Rw)) (kv:Kv) (a4 a5 a6 a7:Option D) (_:Z=[some (.loc l),some (.int t),some (.loc rl),some (.loc o),a4,a5,a6,a7]) (_:Sr S l rl kvs (mx+i) S' kv) (_:S'[o]? =some (.lst (os.map ouD))) (_:os.length<=i) (_:(1<=t/\t<=10^40)) (_:∀x∈os,OuOk kv x):IOut S l rl o kvs mx i Z S'
def Jjl(hs:Stm S l)(hr:S[rl]? =some (.rg kvs))(gk:Xe kvs mx)(hmx:mx<=90000)(ht:1<=t/\t<=10^40):
  Sat (callN T G W (n+3) "_law_outs" [.loc l,.int t,.loc rl] S) λd S'=>∃(os:List (Int×List Rw)) (g:Kv),d=.tup (os.map ouD)/\Sr S l rl kvs (mx+3) S' g/\os.length<=3/\os≠[]/\∀x∈os,OuOk g x:=by
 rw[Jaa Jh4 rfl];obtain⟨x,S2,e2,k2,s2,hx⟩:=Jaf (W:=W) (n:=n+1) (S:=S++[.lst []]) (m:=3) (hs.ext (.new _ _)) (by decide) (by decide);have a2:Sr S l rl kvs mx S2 kvs:=((Sr.refl hs hr gk).ext (.new _ [.lst []])).take k2 s2;have hll:=hs.lt;have hrl:=Ja4 hr;have ho2:=k2.get (Jac (o:=.lst [])) (by simp;lia);simp[Jdi,e2,Line];rw[Jdd (by lia) (by lia)];simp;have hxn:x.toNat<=2:=by lia
 refine Sat.p2 (loop (IOut S l rl S.length kvs mx) noR ⟨t,[],kvs,none,none,none,none,rfl,a2,ho2,by simp,ht,by simp⟩ ?_) ?_
 .rintro i z _ S3 hd ⟨E,os,g,a4,a5,a6,a7,rfl,p,N,k,s,a⟩;rw[Ao]at hd;obtain⟨j,hj,rfl⟩:=Al.mp hd;have hi:i<x.toNat:=by simpa using(Ae.mp hj).1
  rw[Jap]
  by_cases h1:1<E
  .obtain⟨lk,ks,Q,H,I,U,w,A⟩:=Jjr (W:=W) (n:=n) p.s;obtain⟨y,S5,e5,k5,s5,hy⟩:=Jaf (W:=W) (n:=n+1) (S:=Q) (m:=E-1) U (by lia) (Ge (show E-1<=10^40 by lia) (by decide));have C:=(p.take I U).take k5 s5;have J:=Jqp (lk:=lk) (v:=.tup (ks.map D.int)) C.r C.g (by lia);have Y:=C.put (lk:=lk) A;have e:(S5.set rl (.rg (dPut g (lkR lk) (.tup (ks.map D.int)))))[S.length]? =some (.lst (os.map ouD)):=by
    rw[A1 (by lia)];exact k5.get (I.get N (by simp;lia)) (by simp;lia)
   have e7:=Jax (d:=ouD (1+y,lk)) e (Jbq (by rw[Ah];lia));simp only[ouD]at e7;have e8:=Ja8 (me:=.append) rfl e;simp only[lkD]at H J;simp[h1,H,e5,J];simp[Line,e7,e8];refine⟨_,os++[(1+y,lk)],_,_,_,_,_,rfl,Y.new (Ai _) (by lia) (by lia),?_,by simp;lia,by lia,?_⟩
   .rw[Jas e];simp[ouD]
   .intro z hz;rcases Bm.mp hz with hz|hz
    .exact⟨(a z hz).1,(a z hz).2.1,Gr.put _ (a z hz).2.2⟩
    .rw[Ar.mp hz];exact⟨by show 1+y<=10^40;lia,w,Hs.put⟩
  .simp[h1];exact⟨_,os,_,_,_,_,_,rfl,p.mono (by lia),N,by lia,s,a⟩
 .intro fl S3 hh;obtain⟨_,rfl,E,os,g,a4,a5,a6,a7,rfl,p,N,k,s,a⟩:=hh.nx;rw[Ah,Fj]at p k;obtain⟨lk,ks,Q,H,I,U,w,A⟩:=Jjr (W:=W) (n:=n) p.s;have C:=p.take I U;have J:=Jqp (lk:=lk) (v:=.tup (ks.map D.int)) C.r C.g (by lia);have Y:=C.put (lk:=lk) A;have e:(Q.set rl (.rg (dPut g (lkR lk) (.tup (ks.map D.int)))))[S.length]? =some (.lst (os.map ouD)):=by
   rw[A1 (by lia)];exact I.get N (by simp;lia)
  simp only[lkD]at H J;simp[H,J];generalize Q.set rl (.rg (dPut g (lkR lk) (.tup (ks.map D.int))))=S6 at Y e;rw[if_pos (show 2<=Line by decide)];simp;rw[if_pos (show 1<=Line by decide)];simp;rw[Jcy (Jag e) Jac (by simp[Line];lia)];simp only[Res.bind_ok,Wt,W3,Wb];rw[Jah Jac];simp;refine⟨os++[(E,lk)],by rw[Fc];rfl,dPut g (lkR lk) (.tup (ks.map D.int)),(Y.ext (.new _ _)).mono (by lia),by simp;lia,by simp,λz1 z2 hz=>?_⟩;rcases Bm.mp hz with hz|hz
  .exact⟨(a _ hz).1,(a _ hz).2.1,Gr.put _ (a _ hz).2.2⟩
  .cases Ar.mp hz;exact⟨s.2,w,Hs.put⟩
end
def p7{b c d e f g i j:Type}{r:Res b}{l:b->Store->Res c}{m:c->Store->Res d}{n:d->Store->Res e}{o:e->Store->Res f}{p:f->Store->Res g}{s:g->Store->Res i}{t:i->Store->Res j}{Q:b->Store->Prop}{P:j->Store->Prop}(h:Sat r Q)(k:∀a S,Q a S->Sat (((((((l a S).bind m).bind n).bind o).bind p).bind s).bind t) P):Sat (((((((r.bind l).bind m).bind n).bind o).bind p).bind s).bind t) P:=by
 obtain⟨a,S,rfl,h⟩:=h;exact k a S h
structure Mn(kvs:Kv)(c:Cs)(dn:List Int)(m:Int):Prop where
 gc:Gc c
 gd:Gd dn
 lt:∀p∈c,p.1.1<m
 has:∀p∈c,Hs kvs p.2.lk
 dlt:∀x∈dn,x<m
section
variable {W n:Nat} {S S':Store} {l L u q rl:Nat} {c:Cs} {dn:List Int} {ps:List Nat} {d:Dd} {h f m t:Int} {r:Rl} {b:Bk} {ds:List D} {kvs:Kv} {lk:List Rw} {mx:Nat} {ks:List Int}
def Jkt(a:S[x]? =some (.lst ds))(e:S[y]? =some (.lst [])):cop .eq (.loc x) (.loc y) S=some ds.isEmpty:=by
 cases ds<;>simp[cop,Ji0,eqD,seqAt,a,e,eqL]
def Stm.ne_cs(g:Stm S l)(i:S[u]? =some (csO c)):u≠l:=by
 rintro rfl;obtain⟨a,e,s,h⟩:=g;have:=h.symm.trans i;cases this
def Jf2(a:S[rl]? =some (.rg kvs))(e:S[u]? =some (csO c)):u≠rl:=by
 rintro rfl;have:=a.symm.trans e;cases this
def Jqo{ks:List Int}(a:ks.length<=3):Wq (.tup (ks.map D.int)) none (some 10) S=.ok (.tup (ks.map D.int)) S:=by
 have:cutD (ks.map D.int) none (some 10)=ks.map D.int:=by
  rw[Jhk (by decide),B9 (by simp;lia)]
 simp[Wq,this]
def Jx7(v:Stm S l)(hr:S[rl]? =some (.rg kvs))(gk:Xe kvs mx)(U:S[u]? =some (csO c))(g:Mn kvs c dn m):
  Sat (callN T G W (n+2) "_law_in" [.loc l,.loc u,.loc rl] S) λd S'=>∃(nm:PP) (ks:List Int),d=inD (nm,ks)/\Keep [l] S S'/\Stm S' l/\ks.length<=3:=by
 rw[Jaa Jkw rfl];have hln:=g.gc.len;have e1:=Jnu U g.gc.apt (by rw[Ah];unfold Line;lia);obtain⟨N,eN,pN⟩:∃N,srK ((cp c).map (·.1))=N/\N.Perm (c.map (·.1)):=⟨_,rfl,(L5 _ _).trans (by simp[cp,B6,Bt])⟩
 rw[eN]at e1;have lN:N.length=c.length:=by rw[pN.length_eq,Ah]
 have hNe:N=[]↔c=[]:=by rw[<-B7,lN,B7]
 obtain⟨x,C,e2,k2,s2,hx⟩:=Jaf (W:=W) (n:=n) (S:=S++[.lst (N.map dK)]) (m:=12) (v.ext (.new _ _)) (by decide) (by decide);have hll:=v.lt;have a:Keep [l] S C:=(Keep.new _).trans k2;have hN:=k2.get (Jac (o:=.lst (N.map dK))) (by simp;lia);have hu2:=a.get U (by simp;exact v.ne_cs U);have hr2:=a.get hr (by simp;exact(v.ne_rg hr).symm);have e3:=Jkt (Jag hN) (Jac (S:=C) (o:=.lst []));simp[Jge,e1];simp[e2];simp[e3,hNe];have s3:=s2.ext (.new C [.lst []]);have i:Keep [l] S (C++[.lst []]):=a.trans (.new _);have j:=Jag (X:=[.lst []]) hN;have E:=Jag (X:=[.lst []]) hu2;have H:=Jag (X:=[.lst []]) hr2;generalize C++[Obj.lst []]=S3 at s3 i j E H
 by_cases s:c=[]\/x=0
 .have hcb:(c.isEmpty=true\/x=0):=s.elim (λe=>.inl (by simp[e])) .inr;obtain⟨y,S4,w,k4,s4,hy⟩:=Jaf (W:=W) (n:=n) (S:=S3) (m:=90) s3 (by decide) (by decide);obtain⟨z,S5,I,A,Y,hz⟩:=Jaf (W:=W) (n:=n) (S:=S4) (m:=3) s4 (by decide) (by decide);have fin:∃(nm:PP) (ks:List Int),D.tup [.tup [.int y,.int z],.tup []]=inD (nm,ks)/\Keep [l] S S5/\Stm S5 l/\ks.length<=3:=⟨(y,z),[],rfl,(i.trans k4).trans A,Y,by simp⟩
  rcases s with rfl|rfl
  .simp[w,I,Line]
   simpa using fin
  .by_cases s:c=[]
   .simp[s,w,I,Line]
    simpa using fin
   .simp[s,w,I,Line]
    simpa using fin
 .have J:¬c=[]:=λe=>s (.inl e);have hx0:¬x=0:=λe=>s (.inr e);have hpos:0<c.length:=C1.mpr J;have w:=Jay j;rw[Ah,lN]at w;obtain⟨y,S5,I,A,Y,hy⟩:=Jaf (W:=W) (n:=n) (S:=S3) (m:=c.length) s3 (by lia) (Int.lt_trans (show(c.length:Int)<2000 by lia) (by decide));have hN5:=A.get j (by simp;lia);have hu5:=A.get E (by simp;exact v.ne_cs U);have hr5:=A.get H (by simp;exact(v.ne_rg hr).symm);simp[J,hx0,w,I];refine Sat.p3 (Jbr hN5 hy.1 (by simp;lia) (P:=λx=>∃p∈c,x=dK p.1) (λx hx=>by obtain⟨k,hk,rfl⟩:=Bd.mp hx;obtain⟨p,hp,rfl⟩:=Bd.mp (pN.mem_iff.mp hk);exact⟨p,hp,rfl⟩)) ?_;rintro _ S6 ⟨⟨p,hp,rfl⟩,rfl⟩;obtain⟨ks,e6,hks⟩:=Jya hr5 gk (g.has p hp);simp only[lkD]at e6;have e7:=Jjv hu5 (Jmy g.gc.nd hp);have kk:=i.trans A;simp[e7,e6]
  by_cases h1:x=1
  .have e8:bop .add (.tup (ks.map D.int)) (.tup [.int 0]) S6=.ok (.tup ((ks++[0]).map D.int)) S6:=by rw[Jbh (by simp[Line];lia)];simp
   have Q:=Jqo (S:=S6) (ks:=ks++[0]) (by simp;lia);rw[Fc]at e8 Q;simp only[Ax,G5]at e8 Q;simp[h1,Line,e8,Q];exact⟨p.1.1,p.1.2,ks++[0],by simp[inD],kk,Y,by simp;lia⟩
  .have Q:=Jqo (S:=S6) (ks:=ks) (by lia);simp[h1,Line,Q];exact⟨p.1.1,p.1.2,ks,rfl,kk,Y,by lia⟩
theorem Jz6{ps:List PP}(k:S[l]? =some (.lst (ps.map dK))):∃e,cop .nin (dK p) (.loc l) S=some e/\(ps=[]->e=true):=by
 have:∀ps:List PP,∃e,anyEq S Deep (dK p) (ps.map dK)=some e:=by
  intro ps
  induction ps with
  |nil=>exact⟨false,rfl⟩
  |cons a r o=>
   obtain⟨e,g⟩:=o;have i:∃j,eqD S Deep (dK a) (dK p)=some j:=⟨_,rfl⟩
   obtain⟨j,i⟩:=i;exact⟨j||e,by simp only[Ax,anyEq,g,i]⟩
 obtain⟨e,g⟩:=this ps;refine⟨!e,by simp[cop,V6,seqAt,k,g],λh=>?_⟩;subst h;cases g;rfl
theorem Jqn:∀{xs:List Int},(∀x∈xs,x<=B)->xs.sum<=xs.length*B
 |[],_=>by simp
 |x::xs,h=>by
  have:=Jqn (xs:=xs) (B:=B) λy a=>h y (A7 _ a);have:=h x (by simp);rw[U9,Bb,Int.natCast_add,Int.add_mul];omega
theorem Jhe{e j:Type}(p:e->Bool)(g:e->j):∀xs:List e,xs.filterMap (λi=>if p i then some (g i)else none)=(xs.filter p).map g
 |[]=>rfl
 |a::r=>by
  rw[He,Fz,Jhe p g r];cases p a<;>rfl
inductive IDe (S:Store) (l u rl o:Nat) (num:Int) (kvs:Kv) (mx:Nat) (i:Nat) (Z:En) (S':Store):Prop
 |mk (is:List (PP×List Int)) (a5 a6 a7 a8:Option D) (_:Z=[some (.loc l),some (.int num),some (.loc u),some (.loc rl),some (.loc o),a5,a6,a7,a8]) (_:Sr S l rl kvs mx S' kvs) (_:S'[o]? =some (.lst (is.map inD))) (_:is.length<=i) (_:(0<i->is≠[])) (_:∀x∈is,x.2.length<=3):IDe S l u rl o num kvs mx i Z S'
def Jpv(hs:Stm S l)(hr:S[rl]? =some (.rg kvs))(gk:Xe kvs mx)(hmx:mx<=90000)(hu:S[u]? =some (csO c))(g:Mn kvs c dn m)(hnum:0<=num/\num<345):
  Sat (callN T G W (n+4) "_law_deed" [.loc l,.int num,.loc u,.loc rl] S) λd' S'=>∃(d:Dd) (C:Kv),d'=ddD d/\d.n=num/\Sr S l rl kvs (mx+3) S' C/\W7 d/\d.ins≠[]/\∀o∈d.outs,OuOk C o:=by
 rw[Jaa Jia rfl];obtain⟨x,S2,e2,k2,s2,hx⟩:=Jaf (W:=W) (n:=n+2) (S:=S++[.lst []]) (m:=3) (hs.ext (.new _ _)) (by decide) (by decide);have a2:Sr S l rl kvs mx S2 kvs:=((Sr.refl hs hr gk).ext (.new _ [.lst []])).take k2 s2;have hll:=hs.lt;have hrl:=Ja4 hr;have hul:=Ja4 hu;have ho2:=k2.get (Jac (o:=.lst [])) (by simp;lia);simp[Jdm,e2,Line];rw[Jdd (by lia) (by lia)];simp;have hxn:(1+x).toNat<=3/\0<(1+x).toNat:=by lia
 have huk:∀{S':Store} {C:Kv} {my:Nat},Sr S l rl kvs my S' C->S'[u]? =some (csO c):=λa=>a.k.get hu (by simp;exact⟨hs.ne_cs hu,Jf2 hr hu⟩);refine Sat.p2 (loop (IDe S l u rl S.length num kvs mx) noR ⟨[],none,none,none,none,rfl,a2,ho2,by simp,by simp,by simp⟩ ?_) ?_
 .rintro i z _ S3 hd ⟨A,a5,N,a7,a8,rfl,a3,ho,hlen,Q,his⟩;rw[Ao]at hd;obtain⟨j,hj,rfl⟩:=Al.mp hd;have hi:i<(1+x).toNat:=by simpa using(Ae.mp hj).1
  obtain⟨_,S4,e4,nm,ks,rfl,k4,s4,hks⟩:=Jx7 (W:=W) (n:=n+1) a3.s a3.r gk (huk a3) g;have a4:=a3.take k4 s4;have I:=k4.get ho (by simp;lia);rw[Jap];simp[e4,Ja6 I];rw[Jbi (xs:=A) inD (λi=>dK i.1) (by lia) (.inr ⟨_,rfl,I⟩) (λx _=>by simp[Jam,V2])];obtain⟨e,e5,he⟩:=Jz6 (p:=nm) (ps:=A.map (·.1)) (S:=S4++[.lst (A.map λi=>dK i.1)]) (l:=S4.length) (by rw[Jac];simp[Bt]);have N:=a4.ext (.new S4 [.lst (A.map λi=>dK i.1)]);have J:=Jag (X:=[.lst (A.map λi=>dK i.1)]) I;generalize hS6:S4++[Obj.lst (A.map λi=>dK i.1)]=S6 at e5 N J;simp[e5];have app:∀{E:Store},E[S.length]? =some (.lst (A.map inD))->rcv .append E (.loc S.length)=true/\V4 .append (.loc S.length) [inD (nm,ks)] E=.ok .non (E.set S.length (.lst (A.map inD++[inD (nm,ks)]))):=λh=>⟨Ja8 rfl h,by rw[Jax h (Jbq (by rw[Ah];lia))]⟩
  have fin:∀{E:Store},Sr S l rl kvs mx E kvs->E[S.length]? =some (.lst (A.map inD))->∀v,IDe S l u rl S.length num kvs mx (i+1) [some (.loc l),some (.int num),some (.loc u),some (.loc rl),some (.loc S.length),some (.int j),some v,a7,a8] (E.set S.length (.lst (A.map inD++[inD (nm,ks)]))):=λa7 h v=>by
   refine⟨A++[(nm,ks)],_,_,_,_,rfl,a7.new (Ai _) (by lia) (by lia),by rw[Jas h];simp,by simp;lia,λ_=>by simp,λz hz=>?_⟩;rcases Bm.mp hz with hz|hz
   .exact his z hz
   .rw[Ar.mp hz];exact hks
  cases e with
  |true=>
   simp[app J];exact fin N J _
  |false=>
   obtain⟨y,E,e7,k7,s7,hy⟩:=Jaf (W:=W) (n:=n+2) (S:=S6) (m:=6) N.s (by decide) (by decide);have a7':=N.take k7 s7;have ho7:=k7.get J (by simp;lia)
   by_cases hy0:y=0
   .simp[e7,hy0,app ho7];exact fin a7' ho7 _
   .simp[e7,hy0];refine⟨A,_,_,_,_,rfl,a7',ho7,by lia,λ_ h=>?_,his⟩;have:=he (by simp[h]);cases this
 .intro fl S3 hh;obtain⟨_,rfl,A,a5,N,a7,a8,rfl,a3,ho,hlen,Q,his⟩:=hh.nx;rw[Ah,Fj]at hlen Q;have Q:=Q hxn.2;have hu3:=huk a3;simp[Ja6 ho];rw[Jju (xs:=A) inD (λi=>if(dVal c i.1).isSome then some (.int (wOf c i.1))else none) (by lia) (.inr ⟨_,rfl,ho⟩) (λx _=>by
   cases hv:dVal c x.1 with
   |none=>simp[Jam,V2,Jx9 hu3,hv]
   |some k=>simp[Jam,V2,Jx9 hu3,hv,Jjv hu3 hv,wOf])]
  rw[Jhe (λi:PP×List Int=>(dVal c i.1).isSome) (λi=>D.int (wOf c i.1))];simp only[Res.bind_ok,Wt,W3,Wb];rw[Jbx];have hsum:((A.filter λi=>(dVal c i.1).isSome).map λi=>wOf c i.1).sum<=3*10^40:=by
   have U:=Jqn (B:=10^40) (xs:=(A.filter λi=>(dVal c i.1).isSome).map λi=>wOf c i.1) λx hx=>by
    obtain⟨y,hy,rfl⟩:=Bd.mp hx;obtain⟨k,hk⟩:=Ci.mp (Jb.mp hy).2;simp only[wOf,hk];exact(g.gc.ok _ (Jbk hk)).w
   have h2:=Ld (λi:PP×List Int=>(dVal c i.1).isSome) A;rw[Ah]at U;generalize((A.filter λi=>(dVal c i.1).isSome).map λi=>wOf c i.1).sum=s at U;generalize(A.filter λi=>(dVal c i.1).isSome).length=k at U h2;have:k<=3:=by lia
   lia
  have a4:=a3.ext (.new S3 [.lst ((A.filter λi=>(dVal c i.1).isSome).map λi=>D.int (wOf c i.1))]);have I:=Jag (X:=[.lst ((A.filter λi=>(dVal c i.1).isSome).map λi=>D.int (wOf c i.1))]) ho;generalize((A.filter λi=>(dVal c i.1).isSome).map λi=>wOf c i.1).sum=tot at hsum;generalize S3++[Obj.lst ((A.filter λi=>(dVal c i.1).isSome).map λi=>D.int (wOf c i.1))]=S4 at a4 I;obtain⟨w,S5,e5,k5,s5,hw⟩:=Jaf (W:=W) (n:=n+2) (S:=S4) (m:=8) a4.s (by decide) (by decide);have a5:=a4.take k5 s5;have ho5:=k5.get I (by simp;lia);have H:∀S:Store,bop .pow (.int 10) (.int 40) S=.ok (.int (10^40)) S:=λS=>Jaz (k:=40) rfl (by decide) (by decide);have fin:∀{S6:Store} {t:Int},Sr S l rl kvs mx S6 kvs->1<=t/\t<=10^40->Sat (callN T G W (n+3) "_law_outs" [.loc l,.int t,.loc rl] S6) λd' S'=>∃(d:Dd) (C:Kv),.tup [.int num,.tup (A.map inD),d']=ddD d/\d.n=num/\Sr S l rl kvs (mx+3) S' C/\W7 d/\d.ins≠[]/\∀o∈d.outs,OuOk C o:=λ{S6 t} N ht=>by
   refine(Jjl (W:=W) (n:=n) N.s N.r gk hmx ht).mono ?_;rintro _ E ⟨os,C,rfl,a7,h3,h4,Y⟩;exact⟨⟨num,A,os⟩,C,rfl,rfl,N.trans a7,⟨hnum,by show A.length<=3;lia,h3,his,λo ho=>⟨(Y o ho).1,(Y o ho).2.1⟩⟩,Q,Y⟩
  simp[e5]
  by_cases hw0:w=0
  .simp[hw0,Jah ho5,H];refine p7 (fin a5 (by constructor<;>(repeat' split)<;>lia)) ?_;rintro d' E ⟨d,C,e,U,h2,h3,h4,Y⟩;simp[Line];exact⟨d,e,U,C,h2,h3,h4,λa b h=>Y _ h⟩
  .simp[hw0]
   by_cases hw4:4<w
   .by_cases ht1:1<tot
    .obtain⟨y,S6,e6,k6,s6,hy⟩:=Jaf (W:=W) (n:=n+2) (S:=S5) (m:=tot) s5 (by lia) (Ge hsum (by decide));have J:=k6.get ho5 (by simp;lia);have N:=a5.take k6 s6;simp[hw4,ht1,e6,Jah J,H];refine p7 (fin N (by constructor<;>(repeat' split)<;>lia)) ?_;rintro d' E ⟨d,C,e,U,h2,h3,h4,Y⟩;simp[Line];exact⟨d,e,U,C,h2,h3,h4,λa b h=>Y _ h⟩
    .simp[hw4,ht1,Jah ho5,H];refine p7 (fin a5 (by constructor<;>(repeat' split)<;>lia)) ?_;rintro d' E ⟨d,C,e,U,h2,h3,h4,Y⟩;simp[Line];exact⟨d,e,U,C,h2,h3,h4,λa b h=>Y _ h⟩
   .simp[hw4,Jah ho5,H];refine p7 (fin a5 (by constructor<;>(repeat' split)<;>lia)) ?_;rintro d' E ⟨d,C,e,U,h2,h3,h4,Y⟩;simp[Line];exact⟨d,e,U,C,h2,h3,h4,λa b h=>Y _ h⟩
theorem Jc9:∀i,(dropO c d i).Sublist c
 |0=>O5 _
 |i+1=>by
  unfold dropO;split
  .exact Xc.trans (Jc9 i)
  .exact Jc9 i
theorem Jlo(g:Mn kvs c dn m)(a:d.n<m)(e:∀o∈d.outs,Hs kvs o.2):∀i,(∀p∈putO c d h f i,p.1.1<m)/\∀p∈putO c d h f i,Hs kvs p.2.lk
 |0=>⟨λp hp=>g.lt p ((Jc9 _).subset hp),λp hp=>g.has p ((Jc9 _).subset hp)⟩
 |i+1=>by
  obtain⟨j,k⟩:=Jlo g a e i;unfold putO;split
  .rename_i x s;refine⟨λp hp=>?_,λp hp=>?_⟩<;>rcases Jgl hp with hp|rfl
   .exact j p hp
   .exact a
   .exact k p hp
   .exact e x (Au s)
  .exact⟨j,k⟩
def Mn.put(g:Mn kvs c dn m)(g2:W7 d)(e:∀o∈d.outs,Hs kvs o.2)(i:d.n∉dn)(a:d.n<m):Mn kvs (W9 c d h f) (dn++[d.n]) m:=by
 obtain⟨j,k⟩:=Jlo (h:=h) (f:=f) g a e d.outs.length;refine⟨g.gc.putO g2 _,g.gd.add i g2.n,j,k,λx s=>?_⟩;rcases Bm.mp s with z|z
 .exact g.dlt x z
 .rw[Ar.mp z];exact a
def Mn.mono(g:Mn kvs c dn m)(h:m<=a):Mn kvs c dn a:=⟨g.gc,g.gd,λp hp=>Hr (g.lt p hp) h,g.has,λx e=>Hr (g.dlt x e) h⟩
def Mn.ring(g:Mn kvs c dn m)(h:Gr kvs a):Mn a c dn m:=⟨g.gc,g.gd,g.lt,λp hp=>h _ (g.has p hp),g.dlt⟩
def NumOk(first:Int)(ds:List Dd):Prop:=∀d∈ds,d.n<first+20
theorem Jrf{z:Option (Nat×String)×Cs×List Int×Int}(e:z.1=none):∀{ds:List Dd} {i:Nat} {j:Cs} {a:List Int} {p:Int},(∀d∈ds,W7 d/\d.n<m/\∀o∈d.outs,Hs kvs o.2)->Mn kvs j a m->z=goP h w i j a p ds->Mn kvs z.2.1 z.2.2.1 m
 |[],i,j,a,p,_,g,hz=>by
  rw[goP]at hz;subst hz;exact g
 |d::ds,i,j,a,p,v,g,hz=>by
  rw[goP]at hz;have k:V5 j a d h=none:=by
   cases k:V5 j a d h with
   |none=>rfl
   |some w=>rw[k]at hz;rw[hz]at e;cases e
  rw[k]at hz;obtain⟨x,y,A⟩:=v d (by simp);exact Jrf e (λC s=>v C (.tail _ s)) (g.put x A (Jbp k).1 y) hz
def Jmo(g:RlOk r):0<=Vw r h/\Vw r h<=10^40:=by
 unfold Vw;have hp:(0:Int)<=2^(min 200 ((h-1)/r.b).toNat):=Va (by decide);exact⟨Od g.a.1 hp,Fo (Int.ediv_le_self _ g.a.1) g.a.2⟩
def Sr.keepN(a:Sr S l rl kvs mx i j)(k:Keep ps i o)(hp:∀p∈ps,S.length<=p)(v:l<S.length)(w:rl<S.length):Sr S l rl kvs mx o j:=⟨⟨Bu a.k.1 k.1,λx e n=>(k.2 x (Bl e a.k.1) (λz=>by have:=hp x z;lia)).trans (a.k.2 x e n)⟩,a.s.get (p:=0) k (λz=>by have:=hp l z;lia),k.get a.r (λz=>by have:=hp rl z;lia),a.g,a.m⟩
structure Bld(S:Store)(l rl u q o:Nat)(kvs:Kv)(mx:Nat)(first:Int)(dn:List Int)(i:Nat)(S':Store)(kv:Kv)(ds:List Dd)(c:Cs)(db:List Int):Prop where
 a:Sr S l rl kvs (mx+3*i+3) S' kv
 u:S'[u]? =some (csO c)
 q:S'[q]? =some (dnO db)
 o:S'[o]? =some (.lst (ds.map ddD))
 n:ds.length=i+1
 g:Mn kv c db (first+20)
 b:BkOk ds
 m:NumOk first ds
 h:∀d∈ds,∀x∈d.outs,Hs kv x.2
 e:db≠[]
 z:∃d0 rs,ds=d0::rs/\d0.outs≠[]/\d0.n=first
abbrev eB(l:Nat)(first:Int)(u0 q0:Nat)(h:Int)(r:Rl)(rl:Nat)(w:Int)(u q o:Nat)(a11 a a13:Option D):En:=[some (.loc l),some (.int first),some (.loc u0),some (.loc q0),some (.int h),some (rlD r),some (.loc rl),some (.int w),some (.loc u),some (.loc q),some (.loc o),a11,a,a13,none,none,none,none]
theorem Jzl{u0 q0 u q o:Nat}{first w num:Int}{i:Nat}{kv:Kv}{a:List Dd}{U:List Int}{a11 a13:Option D}(B:Bld S l rl u q o kvs mx first dn i S' kv a c U)
  (hl:l<S.length)(Y:rl<S.length)(hu:S.length<=u)(hq:S.length<=q)(ho:S.length<=o)(hmx:mx+3*i+6<=90000)(hi:i<=15)(hfirst:1<=first/\first<=321)
  (E:num=first+1+i\/num∈U):
  Sat (evB (Cn T G W (n+6)) tl (eB l first u0 q0 h r rl w u q o a11 (some (.int num)) a13) S') λfl S2=>∃kv2 ds2 c2 db2,fl=.nx (eB l first u0 q0 h r rl w u q o a11 (some (.int num)) a13)/\Bld S l rl u q o kvs mx first dn (i+1) S2 kv2 ds2 c2 db2:=by
 have J:0<=num/\num<345:=by
  rcases E with e|e
  .lia
  .exact B.g.gd.ok _ e
 obtain⟨_,S3,e3,d,s,rfl,hdn,Q,dk,hne,hou⟩:=Jpv (W:=W) (n:=n+2) B.a.s B.a.r B.a.g (by lia) B.u B.g J;have A3:=B.a.trans Q;have huq:u≠q:=by
  intro e;have H:=B.u;rw[e,B.q]at H;cases H
 have N:o≠u/\o≠q:=by
  constructor
  .intro e;have H:=B.o;rw[e,B.u]at H;cases H
  .intro e;have H:=B.o;rw[e,B.q]at H;cases H
 have kp:∀{p:Nat},S.length<=p->p∉[l,rl]:=λhp=>by simp;lia
 have hu3:=Q.k.get B.u (kp hu);have hq3:=Q.k.get B.q (kp hq);have ho3:=Q.k.get B.o (kp ho);have e4:=Jax (d:=ddD d) ho3 (Jbq (by rw[Ah,B.n];lia));have e5:=Ja8 (me:=.append) rfl B.o;have g:(S3.set o (.lst (a.map ddD++[ddD d])))[o]? =some (.lst (a.map ddD++[ddD d])):=Jas ho3;have k4:Keep [o] S3 (S3.set o (.lst (a.map ddD++[ddD d]))):=.set (by simp);have A4:=A3.keepN k4 (by simp;exact ho) hl Y;have v:=k4.get hu3 (by simp;exact N.1.symm);have y:=k4.get hq3 (by simp;exact N.2.symm);simp[tl,e3,e4,e5];generalize S3.set o (.lst (a.map ddD++[ddD d]))=S4 at g k4 A4 v y;have g4:=B.g.ring Q.m;obtain⟨S5,e6,A⟩:=Jif (W:=W) (n:=n+1) (h:=h) v y g4.gc dk;have e7:∀{S:Store},S[o]? =some (.lst (a.map ddD++[ddD d]))->Jar (.loc o) (.int (-1)) S=.ok (ddD d) S:=λh=>Jc6 h;have Ho:∀x∈d.outs,Hs s x.2:=λx hx=>(hou x hx).2.2;have I:∀C∈a++[d],∀x∈C.outs,Hs s x.2:=λC k x hx=>by
  rcases Bm.mp k with z|z
  .exact Q.m _ (B.h C z x hx)
  .rw[Ar.mp z]at hx;exact Ho x hx
 have Bk:BkOk (a++[d]):=⟨λC k=>by
   rcases Bm.mp k with z|z
   .exact B.b.ok C z
   .rw[Ar.mp z];exact dk,by have:=B.n;simp;lia,λj C hj=>by
   have hn:=B.n
   by_cases hjl:j<a.length
   .rw[A0 hjl]at hj;exact B.b.mr j C hj
   .have hl:=(Ae.mp hj).1;rw[Ap,C5]at hl;have:j=a.length:=by lia
    subst this;rw[Aw (Ai _),Ha]at hj;cases hj;exact⟨λz=>absurd z hne,λz=>by lia⟩,by simp⟩
 have hdm:d.n<first+20:=by
  rw[hdn];rcases E with e|e
  .lia
  .exact B.g.dlt _ e
 have Nk:NumOk first (a++[d]):=λC k=>by
  rcases Bm.mp k with z|z
  .exact B.m C z
  .rw[Ar.mp z];exact hdm
 have Zk:∃d0 rs,a++[d]=d0::rs/\d0.outs≠[]/\d0.n=first:=by
  obtain⟨d0,rs,e,h0⟩:=B.z;exact⟨d0,rs++[d],by rw[e];rfl,h0⟩
 have om:(a.map ddD++[ddD d])=(a++[d]).map ddD:=by simp
 have nk:(a++[d]).length=i+1+1:=by simp;exact B.n
 simp[e7 g,e6];cases hw:V5 c U d h with
 |some x=>
  simp;exact⟨s,a++[d],c,U,(A4.ext A).mono (by lia),A.get v,A.get y,by rw[A.get g,om],nk,g4,Bk,Nk,I,B.e,Zk⟩
 |none=>
  obtain⟨hnn,hdst,hv⟩:=Jbp hw;obtain⟨S6,e8,k6,hu6,hq6⟩:=Jjj (W:=W) (n:=n+5) (h:=h) (f:=h) (A.get v) (A.get y) g4.gc g4.gd dk hnn hdst hv;simp[e7 (A.get g),e8];refine⟨s,a++[d],W9 c d h h,U++[d.n],((A4.ext A).keepN k6 (by simp;lia) hl Y).mono (by lia),hu6,hq6,by rw[k6.get (A.get g) (by simp;exact N),om],nk,g4.put dk Ho hnn hdm,Bk,Nk,I,by simp,Zk⟩
def three(v:Z[0]? =some (some (.loc l)))(w:Stm S l):Sat (Xi (Cn T G W (n+1)) 1 [0] (.tvar 0) .nul (.call "_law_take" (.cns (.var 1) (.cns (.bin .pow (.cst (.int 10)) (.cst (.int 30))) .nul))) Z (none,(Cf 3).map λ(i:Nat)=>D.int i) S) λd S'=>∃(x y z:Int) (p:Nat),d=.loc p/\S'[p]? =some (.lst [.int x,.int y,.int z])/\Keep [l] S S'/\Stm S' l:=by
 refine(comp (λi g S'=>∃e:List Int,g=e.map D.int/\e.length=i/\Keep [l] S S'/\Stm S' l) (by decide) ⟨[],rfl,rfl,.refl,w⟩ (λi g o ⟨e,s,j,_⟩=>⟨by rw[s,Ah];lia,rfl⟩) (λi g o A ⟨e,s,j,C,E⟩=>?_)).mono ?_
 .have H:i<3:=by simpa using A
  obtain⟨x,S2,I,J,N,Q⟩:=Jaf (W:=W) (n:=n) (m:=1000000000000000000000000000000) E (by decide) (by decide);have U:bop .pow (.int 10) (.int 30) o=.ok (.int 1000000000000000000000000000000) o:=Jaz (k:=30) rfl (by decide) (by decide);refine⟨.int i,by simp[nth,H],?_⟩;rw[Jam];simp only[V2,Ax,G5,v];simp[U,I];exact⟨e++[x],by simp[s],by simp[j],C.trans J,N⟩
 .rintro _ _ ⟨ys,S0,⟨e,rfl,j,Y,s0⟩,rfl,rfl⟩;rcases e with _|⟨x,_|⟨y,_|⟨z,_|⟨a,e⟩⟩⟩⟩<;>simp at j;exact⟨x,y,z,_,rfl,Jac,Y.trans (.new _),s0.ext (.new _ _)⟩
inductive PB (S:Store) (l rl:Nat) (kvs:Kv) (mx:Nat) (first:Int) (dn:List Int) (d':D) (S':Store):Prop
 |mk (b:Bk) (kv:Kv) (_:d'=bkD b) (_:Sr S l rl kvs (mx+45) S' kv) (_:BkOk b.ds) (_:NumOk first b.ds) (_:∀d∈b.ds,∀o∈d.outs,Hs kv o.2) (_:∃d0 rs,b.ds=d0::rs/\d0.outs≠[]/\d0.n=first):PB S l rl kvs mx first dn d' S'
inductive IBk (S:Store) (l rl u0 q0 o:Nat) (kvs:Kv) (mx:Nat) (first:Int) (dn:List Int) (h:Int) (r:Rl) (w:Int) (i:Nat) (Z:En) (S':Store):Prop
 |mk (kv:Kv) (ds:List Dd) (cb:Cs) (db:List Int) (a11 a12 a13:Option D) (_:Z=eB l first u0 q0 h r rl w S.length (S.length+1) o a11 a12 a13) (_:Bld S l rl S.length (S.length+1) o kvs mx first dn i S' kv ds cb db):IBk S l rl u0 q0 o kvs mx first dn h r w i Z S'
def Wd7{first w:Int}(hs:Stm S l)(hr:S[rl]? =some (.rg kvs))(gk:Xe kvs mx)(hmx:mx+45<=90000)(hu:S[u]? =some (csO c))(hq:S[q]? =some (dnO dn))(g:Mn kvs c dn first)(hf:1<=first/\first<=321)(gr:RlOk r)(hh:1<=h)(hw:1<=w):
  Sat ((evB (Cn T G W (n+6)) rest [some (.loc l),some (.int first),some (.loc u),some (.loc q),some (.int h),some (rlD r),some (.loc rl),some (.int w),none,none,none,none,none,none,none,none,none,none] S).bind Yj) (PB S l rl kvs mx first dn):=by
 have hl:=hs.lt;have hrl:=Ja4 hr;have e2:=Jd7 (Jag (X:=[csO c]) hq);simp[rest,Jd6 hu g.gc.apt];simp at e2;have epow:∀S:Store,bop .pow (.int 10) (.int 40) S=.ok (.int (10000000000000000000000000000000000000000:Int)) S:=λS=>Jaz (k:=40) rfl (by decide) (by decide);simp[e2,epow];have x1:=Ext.new S [csO c,dnO dn];obtain⟨_,E,e3,os,N,rfl,a2,ho3,hne,hou⟩:=Jjl (W:=W) (n:=n+3) (S:=S++[csO c,dnO dn]) (t:=if w<(10000000000000000000000000000000000000000:Int)then w else(10000000000000000000000000000000000000000:Int)) (hs.ext x1) (x1.get hr) gk (by lia) (by constructor<;>split<;>lia);have A2:Sr S l rl kvs (mx+3) E N:=⟨(Keep.ext x1).trans a2.k,a2.s,a2.r,a2.g,a2.m⟩
 have hu2:=a2.k.get (Jau (S:=S) (a0:=csO c) (X:=[dnO dn])) (by simp;lia);have hq2:=a2.k.get (Jbv (S:=S) (a0:=csO c) (a1:=dnO dn) (X:=[])) (by simp;lia);have l2:S.length+2<=E.length:=by have:=a2.k.1;simpa using this
 have dk0:W7 ⟨first,[],os⟩:=⟨⟨by show 0<=first;lia,by show first<345;lia⟩,by simp,ho3,by simp,λo I=>⟨(hou o I).1,(hou o I).2.1⟩⟩
 have hn0:first∉dn:=λz=>by have:=g.dlt _ z;lia
 have x3:=Ext.new E [Obj.lst [ddD ⟨first,[],os⟩]];have ho0:(E++[Obj.lst [ddD ⟨first,[],os⟩]])[E.length]? =some (.lst [ddD ⟨first,[],os⟩]):=Jac;have i0:=Jaq ho0 (at0 (k:=0) rfl);obtain⟨S3,e4,k3,hu3,hq3⟩:=Jjj (W:=W) (n:=n+5) (h:=h) (f:=h+r.c) (x3.get hu2) (x3.get hq2) g.gc g.gd dk0 hn0 (by simp[nms,dst,Sbl.dd]) (by simp);have A3:=(A2.ext x3).keepN k3 (by simp) hl hrl;have ho3':=k3.get ho0 (by simp;lia);have edd:D.tup [.int first,.tup [],.tup (os.map ouD)]=ddD ⟨first,[],os⟩:=rfl;simp[e3];rw[if_pos (show 3<=Line by decide),edd];simp;rw[if_pos (show 1<=Line by decide)];simp only[Res.bind_ok,Wau,Jqi,Bb,Fe,List.set_cons_succ,List.set_cons_zero,if_pos (show 10<0+1+1+1+1+1+1+1+1+1+1+1+1+1+1+1+1+1+1 by decide),kNx,kB,Y1,Jzg,Jv2,Zt,v_var,Ze,Bq,Ek,Wt,Jzf,War,Jig];rw[show Jar (.loc E.length) (.int 0) (E++[Obj.lst [ddD ⟨first,[],os⟩]])=.ok (ddD ⟨first,[],os⟩) (E++[Obj.lst [ddD ⟨first,[],os⟩]])from i0];simp[e4];obtain⟨y1,S4,e5,k4,s4,hy1⟩:=Jaf (W:=W) (n:=n+5) (S:=S3) (m:=5) A3.s (by decide) (by decide);obtain⟨y2,S5,e6,k5,s5,hy2⟩:=Jaf (W:=W) (n:=n+5) (S:=S4) (m:=12) s4 (by decide) (by decide);obtain⟨y3,S6,e7,k6,s6,hy3⟩:=Jaf (W:=W) (n:=n+5) (S:=S5++[.lst [.int y1,.int y2]]) (m:=4) (s5.ext (.new _ _)) (by decide) (by decide);have l5:E.length<S5.length:=by have:=k5.1;have:=k4.1;have:=Ja4 ho3';lia
 obtain⟨y,hy,ey⟩:∃y:Int,(0<=y/\y<12)/\Jar (.loc S5.length) (.int (if y3=3 then 1 else 0)) S6=.ok (.int y) S6:=by
  have h6:=k6.get (Jac (S:=S5) (o:=.lst [.int y1,.int y2])) (by simp;lia);split
  .exact⟨y2,hy2,Jaq h6 (at0 (k:=1) rfl)⟩
  .exact⟨y1,by lia,Jaq h6 (at0 (k:=0) rfl)⟩
 have A6:=(((A3.take k4 s4).take k5 s5).ext (.new _ [.lst [.int y1,.int y2]])).take k6 s6;have kk:Keep [l] S3 S6:=((k4.trans k5).trans (.new _)).trans k6;simp[e5,e6,Line,e7,ey];rw[Jdd (by lia) (by lia)];simp;have B0:Bld S l rl S.length (S.length+1) E.length kvs mx first dn 0 S6 N [⟨first,[],os⟩] (W9 c ⟨first,[],os⟩ h (h+r.c)) (dn++[first]):=by
  refine⟨A6,kk.get hu3 (by simp;lia),kk.get hq3 (by simp;lia),kk.get ho3' (by simp;lia),rfl,?_,?_,?_,?_,by simp,⟨_,_,rfl,hne,rfl⟩⟩
  .exact((g.ring a2.m).mono (by lia)).put dk0 (λo I=>(hou o I).2.2) hn0 (by show first<_;lia)
  .refine⟨by simp;exact dk0,by simp,λi d hd=>?_,by simp⟩;cases i with
   |zero=>cases hd;simp
   |succ i=>simp at hd
  .intro d hd;rw[Ar.mp hd];show first<_;lia
  .intro d hd o I;rw[Ar.mp hd]at I;exact(hou o I).2.2
 have hyn:y.toNat<=11:=by lia
 refine Sat.p2 (loop (IBk S l rl u q E.length kvs mx first dn h r w) noR ⟨N,_,_,_,none,none,none,rfl,B0⟩ ?_) ?_
 .rintro i z _ S7 hd ⟨kv,ds,cb,U,a11,a12,a13,rfl,B⟩;rw[Ao]at hd;obtain⟨j,hj,rfl⟩:=Al.mp hd;have hij:=Ae.mp hj;have hi:i<y.toNat:=by simpa using hij.1
  have hji:j=i:=by have:=hij.2;simp at this;lia
  subst hji;have TL:=λ{num:Int} {a13:Option D} {S8:Store} (B:Bld S l rl S.length (S.length+1) E.length kvs mx first dn j S8 kv ds cb U) (hnum:num=first+1+j\/num∈U)=>(Jzl (W:=W) (n:=n) (h:=h) (r:=r) (u0:=u) (q0:=q) (w:=w) (a11:=some (.int j)) (a13:=a13) B hl hrl (Ai _) (by lia) (by lia) (by lia) (by lia) hf hnum).mono (Q:=FlP (IBk S l rl u q E.length kvs mx first dn h r w (j+1)) noR) (λfl S9 q_=>by obtain⟨N,ds2,c2,db2,e,B2⟩:=q_;rw[e];exact⟨N,ds2,c2,db2,_,_,_,rfl,B2⟩);obtain⟨y4,S8,e8,k8,s8,hy4⟩:=Jaf (W:=W) (n:=n+5) (S:=S7) (m:=16) B.a.s (by decide) (by decide);have kp:∀{p:Nat},S.length<=p->p∉[l]:=λhp=>by simp;lia
  have mv:∀{S9:Store},Keep [l] S7 S9->Stm S9 l->Bld S l rl S.length (S.length+1) E.length kvs mx first dn j S9 kv ds cb U:=λk s=>⟨B.a.take k s,k.get B.u (kp (Ai _)),k.get B.q (kp (by lia)),k.get B.o (kp (by lia)),B.n,B.g,B.b,B.m,B.h,B.e,B.z⟩
  rw[Jap];unfold lpB
  by_cases h4:y4=0
  .have q8:=k8.get B.q (kp (by lia));have e9:=Jo2 q8;have J:=Jua (Jag (X:=[.lst ((dp U).map λp=>.int p.1)]) q8);have hpos:0<U.length:=C1.mpr B.e;have hdl:=B.g.gd.len;obtain⟨y5,S9,e11,k9,s9,hy5⟩:=Jaf (W:=W) (n:=n+5) (S:=S8++[.lst ((dp U).map λp=>.int p.1)]) (m:=U.length) (s8.ext (.new _ _)) (by lia) (Int.lt_trans (show(U.length:Int)<2000 by lia) (by decide));have hL:=k9.get (Jac (S:=S8) (o:=.lst ((dp U).map λp=>.int p.1))) (by simp;have:=s8.lt;lia);have kall:Keep [l] S7 S9:=(k8.trans (.new _)).trans k9;simp only[Ah]at J;simp only[h4]at e8;simp[e8,e9];simp only[B6,Bt]at J e11 hL;simp[Bt,J,e11];refine Sat.p3 (Jbr hL hy5.1 (by simp;lia) (P:=λz=>∃v∈U,z=.int v) (λz hz=>by obtain⟨v,hv,rfl⟩:=Bd.mp hz;exact⟨v,hv,rfl⟩)) ?_;rintro _ S10 ⟨⟨v,hv,rfl⟩,rfl⟩;simp;exact TL (mv kall s9) (.inr hv)
  .simp[e8,h4];exact TL (mv k8 s8) (.inl rfl)
 .intro fl S7 hF;obtain⟨_,rfl,kv,ds,cb,U,a11,a12,a13,rfl,B⟩:=hF.nx;clear hF;rw[Ah,Fj]at B;have I:=B.o;simp;rw[Jdd (by decide) (by decide)];simp only[Res.bind_ok];refine Sat.p3 (three (W:=W) (n:=n+5) rfl B.a.s) ?_;rintro _ S8 ⟨x0,H,x2,p,rfl,hp8,k8,s8⟩;have A8:=B.a.take k8 s8;have ho8:=k8.get I (by simp;lia);have j0:=Jaq hp8 (at0 (k:=0) rfl);have j1:=Jaq hp8 (at0 (k:=1) rfl);have j2:=Jaq hp8 (at0 (k:=2) rfl);simp only[Int.cast_ofNat_Int,Int.natCast_zero,Int.natCast_one]at j0 j1 j2;simp[j0,j1,j2,Jah ho8,Line];obtain⟨y6,S9,e9,k9,s9,hy6⟩:=Jaf (W:=W) (n:=n+5) (S:=S8) (m:=3) s8 (by decide) (by decide);have A9:=A8.take k9 s9
  by_cases h6:y6=0
  .obtain⟨d0,rs,x,hd0,hd0n⟩:=B.z;obtain⟨Y,os',hos⟩:∃Y os',d0.outs=Y::os':=by
    cases I:d0.outs with
    |nil=>exact absurd I hd0
    |cons a b=>exact⟨a,b,rfl⟩
   have hul:u∉[l,rl]:=by simp;exact⟨hs.ne_cs hu,Jf2 hr hu⟩
   have hql:q∉[l,rl]:=by
    simp;constructor
    .rintro rfl;obtain⟨a,e,s,h⟩:=hs;have:=h.symm.trans hq;cases this
    .rintro rfl;have:=hr.symm.trans hq;cases this
   obtain⟨fz,S10,J,x10,_⟩:=Jmv (W:=W) (n:=n) (b:=⟨1+x0,H,1+x2,ds⟩) (A9.k.get hu hul) (A9.k.get hq hql) g.gc g.gd gr B.b hh;simp only[bkD]at J;have e11:=Jd5 (W:=W) (n:=n+5) (S:=S10) gr hh;obtain⟨y7,A,e12,k11,s11,hy7⟩:=Jaf (W:=W) (n:=n+5) (S:=S10) (m:=2) (s9.ext x10) (by decide) (by decide);have A11:=(A9.ext x10).take k11 s11;have ho11:=k11.get (x10.get (k9.get ho8 (by simp;lia))) (by simp;lia);rw[x,Ax]at ho11;have i1:Jar (.loc E.length) (.int 0) A=.ok (ddD d0) A:=Jaq ho11 (at0 (k:=0) rfl);have i2:Jar (.tup (d0.outs.map ouD)) (.int 0) A=.ok (ouD Y) A:=by rw[hos,Ax];exact Ja7
   have c1:Wq (.tup [.int (1+x0),.int H,.int (1+x2),.tup (ds.map ddD)]) none (some 3) A=.ok (.tup [.int (1+x0),.int H,.int (1+x2)]) A:=by simp only[Wq];rw[Jhk (by decide)];rfl
   have c2:Wq (.tup (ds.map ddD)) (some 1) none A=.ok (.tup (rs.map ddD)) A:=by simp only[Wq];rw[Jd8 (by decide),x];rfl
   have hrs:rs.length<=19:=by have:=B.b.l;rw[x]at this;simp at this;lia
   simp[e9,h6,J,e11,e12,i1,i2,epow,c1,c2];generalize hv:(if(if 1<Vw r h+fz+y7 then Vw r h+fz+y7 else 1)<(10000000000000000000000000000000000000000:Int)then(if 1<Vw r h+fz+y7 then Vw r h+fz+y7 else 1)else(10000000000000000000000000000000000000000:Int))=v;have hvl:v<=10^40:=by rw[<-hv];split<;>lia
   have em:D.tup [.int first,.tup [],.tup [.tup [.int v,.tup (Y.2.map rD)]]]=ddD ⟨first,[],[(v,Y.2)]⟩:=rfl;simp[Line];rw[em];have b1:∀{S:Store},bop .add (.tup [ddD ⟨first,[],[(v,Y.2)]⟩]) (.tup (rs.map ddD)) S=.ok (.tup ((⟨first,[],[(v,Y.2)]⟩::rs:List Dd).map ddD)) S:=λ{S}=>by rw[Jbh (by simp[Line];lia)];rfl
   have b2:∀{S:Store} {z:D},bop .add (.tup [.int (1+x0),.int H,.int (1+x2)]) (.tup [z]) S=.ok (.tup [.int (1+x0),.int H,.int (1+x2),z]) S:=λ{S z}=>by rw[Jbh (by simp[Line])];rfl
   simp only[Ax]at b1;simp[c1,c2,b1,b2,Line];have dk0':=B.b.ok d0 (by rw[x];simp);have ho0':Y∈d0.outs:=by rw[hos];simp
   refine⟨⟨1+x0,H,1+x2,⟨first,[],[(v,Y.2)]⟩::rs⟩,kv,rfl,A11.mono (by lia),?_,?_,?_,⟨_,_,rfl,by simp,rfl⟩⟩
   .refine⟨λd' C=>?_,by simp;lia,λi d' C=>?_,by simp⟩
    .rcases Am.mp C with rfl|z
     .exact⟨⟨by show 0<=first;lia,by show first<345;lia⟩,by simp,by simp,by simp,by simp;exact⟨by lia,(dk0'.w Y ho0').2⟩⟩
     .exact B.b.ok d' (by rw[x];exact A7 _ z)
    .cases i with
     |zero=>cases C;simp
     |succ i=>exact B.b.mr (i+1) d' (by rw[x];exact C)
   .intro d' C;rcases Am.mp C with rfl|z
    .show first<_;lia
    .exact B.m d' (by rw[x];exact A7 _ z)
   .intro d' C o I;rcases Am.mp C with rfl|z
    .rw[Ar.mp I];exact B.h d0 (by rw[x];simp) Y ho0'
    .exact B.h d' (by rw[x];exact A7 _ z) o I
  .simp[e9,h6];exact⟨⟨1+x0,H,1+x2,ds⟩,kv,rfl,A9.mono (by lia),B.b,B.m,B.h,B.z⟩
def Jnb{first:Int}(k:Stm S l)(p:S[rl]? =some (.rg kvs))(N:Xe kvs mx)(v:mx+45<=90000)(A:S[u]? =some (csO c))(C:S[q]? =some (dnO dn))(g:Mn kvs c dn first)(hf:1<=first/\first<=321)(E:RlOk r)(Q:1<=h):
  Sat (callN T G W (n+7) "_law_block" [.loc l,.int first,.loc u,.loc q,.int h,rlD r,.loc rl] S) (PB S l rl kvs mx first dn):=by
 rw[Jaa Jgs rfl];have e1:=Jd5 (W:=W) (n:=n+5) (S:=S) E Q;have gl:=Jmo (h:=h) E;obtain⟨x,S1,e2,k1,U,hx⟩:=Jaf (W:=W) (n:=n+5) (S:=S) (m:=4) k (by decide) (by decide);obtain⟨y,Y,e3,k2,s2,hy⟩:=Jaf (W:=W) (n:=n+5) (S:=S1) (m:=3) U (by decide) (by decide);have a2:Sr S l rl kvs mx Y kvs:=((Sr.refl k p N).take k1 U).take k2 s2;have H:u∉[l,rl]:=by simp;exact⟨k.ne_cs A,Jf2 p A⟩
 have I:q∉[l,rl]:=by
  simp;constructor
  .rintro rfl;obtain⟨a,e,s,h⟩:=k;have:=h.symm.trans C;cases this
  .rintro rfl;have:=p.symm.trans C;cases this
 have fin:∀{o:Store} {w:Int},Sr S l rl kvs mx o kvs->1<=w->Sat ((evB (Cn T G W (n+6)) rest [some (.loc l),some (.int first),some (.loc u),some (.loc q),some (.int h),some (rlD r),some (.loc rl),some (.int w),none,none,none,none,none,none,none,none,none,none] o).bind Yj) (PB S l rl kvs mx first dn):=λ{o w} i J=>by
  refine(Wd7 (W:=W) (n:=n) i.s i.r N v (i.k.get A H) (i.k.get C I) g hf E Q J).mono ?_;rintro d' S4 ⟨b,kv,e,a4,h1,h2,h3,h4⟩;exact⟨b,kv,e,i.trans a4,h1,h2,h3,h4⟩
 simp! [Jcr,e1,e2,e3];generalize J:(if 1<Vw r h+x-2 then Vw r h+x-2 else 1)=w;have j:1<=w/\w<=2*10^40:=by rw[<-J];constructor<;>split<;>omega
 by_cases h0:y=0
 .obtain⟨z,o,e4,k3,s3,hz⟩:=Jaf (W:=W) (n:=n+5) (S:=Y) (m:=w) s2 (by omega) (Ge j.2 (by decide));simp! [h0,e4];exact fin (a2.take k3 s3) (by omega)
 .simp! [h0];exact fin a2 j.1
def mixed:∃v,callN T G W (n+1) "_law_mixed" [.int x] S=.ok (.int v) S:=by
 rw[Jaa Jgr rfl];simp! [Jcq,Jaj (S:=S) (i:=x) (j:=2147483647) (by decide)];rw[Jbg (by rfl)];simp -implicitDefEqProofs only[Res.bind_ok,Yx,Jig];rw[Jbg (by rfl)];simp -implicitDefEqProofs only[Res.bind_ok,Yx,Jig];rw[Jaj (by decide)];simp
theorem stream:∃p,callN T G W (n+2) "_law_stream" [.int x,.int k,.bl e] S=.ok (.loc S.length) (S++[p])/\Stm (S++[p]) S.length:=by
 rw[Jaa Jfb rfl];obtain⟨v,y⟩:=mixed (W:=W) (n:=n) (S:=S) (x:=x);simp! [Jb2,y];rw[Je4 (by rfl)];simp! [Jaj (S:=S) (i:=v+69621*k) (j:=2147483629) (by decide)];have a:bop .pow (.int 10) (.int 60) S=.ok (.int (10^60)) S:=Jaz (k:=60) rfl (by decide) (by decide);have g:bop .mul (.int (10^60)) (.int (10^60)) S=.ok (.int (10^60*10^60)) S:=Jcx (by decide);have o:=Jaj (S:=S) (i:=x) (j:=10^60*10^60) (by decide);cases e with
 |false=>
  simp! [Line];exact⟨_,_,_,Jac⟩
 |true=>
  have s:∀{j:Int},j=1\/j=2->bop .fdiv (.int (x%(10^60*10^60))) (.int j) S=.ok (.int (x%(10^60*10^60)/j)) S:=λz=>Ja0 (by omega) (by omega)
  by_cases w:k=0
  .simp -implicitDefEqProofs only[Y1,Jvz,w_var,Y2,kTru,Jqm,Res.bind_ok,Xv,if_true,Jno,Jvy,Zt,Jv3,v_var,Ze,Yx,Jig,a,g,o,Ek,Bq,Jqj,W3,Wt,Wb,Jv1,Wat,Jo8,Jds,w,decide_true,Jeh,Jcz,s (.inr rfl),show(1:Int)+1=2 from rfl];simp! [Line];exact⟨_,_,_,Jac⟩
  .simp -implicitDefEqProofs only[Y1,Jvz,w_var,Y2,kTru,Jqm,Res.bind_ok,Xv,if_true,Jno,Jvy,Zt,Jv3,v_var,Ze,Yx,Jig,a,g,o,Ek,Bq,Jqj,W3,Wt,Wb,Jv1,Wat,Jo8,Jds,w,decide_false,Jeh,Jcz,s (.inl rfl),show(1:Int)+0=1 from rfl,if_neg Ba];simp! [Line];exact⟨_,_,_,Jac⟩
def p8{e g i j o p s v w:Type}{r:Res e}{x:e->Store->Res g}{y:g->Store->Res i}{z:i->Store->Res j}{A:j->Store->Res o}{C:o->Store->Res p}{E:p->Store->Res s}{H:s->Store->Res v}{I:v->Store->Res w}{Q:e->Store->Prop}{P:w->Store->Prop}(h:Sat r Q)(k:∀a S,Q a S->Sat ((((((((x a S).bind y).bind z).bind A).bind C).bind E).bind H).bind I) P):Sat ((((((((r.bind x).bind y).bind z).bind A).bind C).bind E).bind H).bind I) P:=by
 obtain⟨a,S,rfl,h⟩:=h;exact k a S h
def Jox(i:Stm S l)(E:0<=h):Sat (callN T G W (n+2) "_law_next" [.loc l,rlD r,.int h] S) λd S'=>∃h',d=.int h'/\1<=h'/\Keep [l] S S'/\Stm S' l:=by
 rw[Jaa Jh5 rfl];obtain⟨x,H,j,k,e,I⟩:=Jaf (W:=W) (n:=n) (S:=S) (m:=2000) i (by decide) (by decide);simp! [Jdj,j];rw[if_pos (show 6<=Line by decide)];simp!;have o:=e.lt;refine p5 (Jcc (m:=6) (e.ext (.new _ _)) (by decide) (by decide)) ?_;rintro _ p ⟨y,rfl,a,s,w⟩;have A:=a.get Jau (by simp;omega);have C:Keep [l] S p:=(k.trans (.new _)).trans a;clear a;refine Sat.p4 (Jbr A w.1 (by simp;omega) (P:=λz=>∃v,z=.int v/\1<=v) ?_) ?_
 .intro z g;simp only[Am,Bf,or_false]at g;rcases g with rfl|rfl|rfl|rfl|rfl|rfl
  .exact⟨1,rfl,by omega⟩
  .exact⟨1,rfl,by omega⟩
  .exact⟨1,rfl,by omega⟩
  .exact⟨_,rfl,by split<;>omega⟩
  .exact⟨_,rfl,by split<;>omega⟩
  .exact⟨_,rfl,by omega⟩
 rintro _ J ⟨⟨v,rfl,N⟩,rfl⟩;simp!;exact⟨by omega,C,s⟩
def Jll(I:Stm S l):Sat (callN T G W (n+2) "_law_rules" [.loc l] S) λd S'=>∃r,d=rlD r/\RlOk r/\Keep [l] S S'/\Stm S' l:=by
 rw[Jaa Jgq rfl];have hl:=I.lt;have e:∀S:Store,bop .pow (.int 10) (.int 40) S=.ok (.int 10000000000000000000000000000000000000000) S:=λS=>Jaz (k:=40) rfl (by decide) (by decide);simp! [Jcp,e];rw[if_pos (show 6<=Line by decide)];simp!;refine Sat.p4 (Jcc (m:=6) (I.ext (.new _ _)) (by decide) (by decide)) ?_;rintro _ Q ⟨y,rfl,g,J,U⟩;have Y:=g.get Jau (by simp;omega);have i:Keep [l] S Q:=(Keep.new _).trans g;clear g;refine Sat.p3 (Jbr Y U.1 (by simp;omega) (P:=λz=>∃v,z=.int v/\0<=v/\v<=10^40) ?_) ?_
 .intro z a;simp only[Am,Bf,or_false]at a;rcases a with rfl|rfl|rfl|rfl|rfl|rfl<;>exact⟨_,rfl,by omega⟩
 rintro _ S3 ⟨⟨va,rfl,j⟩,rfl⟩;have hl3:=J.lt;simp!;rw[if_pos (show 4<=Line by decide)];simp!;refine p7 (Jcc (m:=4) (J.ext (.new _ _)) (by decide) (by decide)) ?_;rintro _ S4 ⟨y4,rfl,o,N,p⟩;have s:=o.get Jau (by simp;omega);have w:Keep [l] S S4:=(i.trans (.new _)).trans o;clear o;refine p6 (Jbr s p.1 (by simp;omega) (P:=λz=>∃v,z=.int v/\1<=v/\v<=1000) ?_) ?_
 .intro z a;simp only[Am,Bf,or_false]at a;rcases a with rfl|rfl|rfl|rfl<;>exact⟨_,rfl,by omega⟩
 rintro _ S5 ⟨⟨vb,rfl,x⟩,rfl⟩;have hl5:=N.lt;simp!;rw[if_pos (show 6<=Line by decide)];simp!;refine p8 (Jcc (m:=6) (N.ext (.new _ _)) (by decide) (by decide)) ?_;rintro _ S6 ⟨y6,rfl,A,s6,C⟩;have E:=A.get Jau (by simp;omega);have H:Keep [l] S S6:=(w.trans (.new _)).trans A;clear A;refine p7 (Jbr E C.1 (by simp;omega) (P:=λz=>∃v,z=.int v) ?_) ?_
 .intro z a;simp only[Am,Bf,or_false]at a;rcases a with rfl|rfl|rfl|rfl|rfl|rfl<;>exact⟨_,rfl⟩
 rintro _ S7 ⟨⟨vc,rfl⟩,rfl⟩;simp! [Line];exact⟨⟨va,vb,vc⟩,rfl,⟨j,x⟩,H,s6⟩
def Jy3{es:List D}(h:S[k]? =some (.lst es))(a:ds.length+es.length<=Line):bop .add (.kl ds) (.loc k) S=.ok (.loc S.length) (S++[.lst (ds++es)]):=by
 show(match S[k]? with|some (.lst b)=>if ds.length+b.length<=Line then Res.ok (D.loc S.length) (S++[Obj.lst (ds++b)])else .bad|_=>.bad)=_;rw[h];exact if_pos a
def Stm.all(i:Stm S g)(k:Keep [l] S S')(s:Stm S' l):Stm S' g:=by
 by_cases e:g=l
 .rw[e];exact s
 .exact i.get (p:=0) k (by simp;exact e)
inductive PSt (d:D) (S':Store):Prop
 |mk (p:Nat) (ls:List Nat) (_:d=.loc p) (_:S'[p]? =some (.lst (ls.map D.loc))) (_:0<ls.length) (_:∀l∈ls,Stm S' l):PSt d S'
theorem Jih{ns:List Int}(hn:ns.length<=63):Sat (callN T G W (n+3) "_law_streams" [.kl (ns.map D.int)] S) PSt:=by
 rw[Jaa Je7 rfl];have s:bop .add (.kl (ns.map D.int)) (.loc S.length) (S++[.lst [.int 0]])=.ok (.loc (S.length+1)) (S++[.lst [.int 0],.lst ((ns++[0]).map D.int)]):=by
  rw[Jy3 Jac (by simp[Line];lia)];simp
 have v:Wq (.loc (S.length+1)) none (some 60) (S++[.lst [.int 0],.lst ((ns++[0]).map D.int)])=.ok (.loc (S.length+2)) (S++[.lst [.int 0],.lst ((ns++[0]).map D.int),.lst (((ns++[0]).take 60).map D.int)]):=by
  rw[Jd1 Jbv,Jhk (by decide)];simp[Kl]
 have w:Zh (.loc (S.length+2)) (S++[.lst [.int 0],.lst ((ns++[0]).map D.int),.lst (((ns++[0]).take 60).map D.int)])=.ok (some (S.length+2,.enm),((ns++[0]).take 60).map D.int) (S++[.lst [.int 0],.lst ((ns++[0]).map D.int),.lst (((ns++[0]).take 60).map D.int)]):=Jmb Jdb;have y:0<((ns++[0]).take 60).length:=by simp;lia
 have A:((ns++[0]).take 60).length<=60:=by simp;lia
 generalize hxs:(ns++[0]).take 60=g at v w y A;have C:(S++[Obj.lst [.int 0],.lst ((ns++[0]).map D.int),.lst (g.map D.int)])[S.length+2]? =some (.lst (g.map D.int)):=Jdb;generalize(ns++[0]).map D.int=Q at s v w C;generalize S++[Obj.lst [.int 0],.lst Q,.lst (g.map D.int)]=U at v w C;have fin:∀{e:Bool},Sat (((Xi (Cn T G W (n+2)) 2 [1] (.ttup (.cns (.tvar 0) (.cns (.tvar 1) .nul))) .nul (.call "_law_stream" (.cns (.var 1) (.cns (.var 0) (.cns (.var 2) .nul)))) [some (.kl (ns.map D.int)),some (.bl e)] (some (S.length+2,.enm),g.map D.int) U).bind Zf).bind (kB (Cn T G W (n+2)) .nul)|>.bind Yj) PSt:=λ{e}=>by
  refine Sat.p3 (comp (λi o S'=>∃a:List Nat,o=a.map D.loc/\a.length=i/\Ext U S'/\∀l∈a,Stm S' l) (by rw[Ah];unfold Line;lia) ⟨[],rfl,rfl,.refl _,by simp⟩ (λi o H ⟨a,I,E,h3,_⟩=>⟨by rw[I,Ah];lia,Jef (h3.get C)⟩) (λi o H hi ⟨a,I,E,Y,J⟩=>?_)) ?_
  .have hx:i<g.length:=by simpa using hi
   refine⟨.tup [.int i,.int g[i]],by simp[nth,Ja6 (Y.get C),hx],?_⟩;obtain⟨p,e5,s5⟩:=stream (W:=W) (n:=n) (S:=H) (x:=g[i]) (k:=i) (e:=e);rw[Jam];simp[V2,e5];refine⟨a++[H.length],by simp[I],by simp[E],Y.trans (.new _ _),λz N=>?_⟩;rcases Bm.mp N with z1|z1
   .exact(J z z1).ext (.new _ _)
   .rw[Ar.mp z1];exact s5
  .rintro _ _ ⟨Q,S0,⟨a,rfl,E,x0,J⟩,rfl,rfl⟩;simp;exact⟨_,a,rfl,Jac,by rw[Ah]at E;lia,λz N=>(J z N).ext (.new _ _)⟩
 cases ns with
 |nil=>
  simp[Jba];rw[if_pos (show 1<=Line by decide)];simp only[G5]at s fin;simp[s,v,w];exact fin
 |cons x ns=>
  have i0:Jar (.kl (D.int x::ns.map D.int)) (.int 0) S=.ok (.int x) S:=by simp only[Jar];rw[show idxD (.kl (D.int x::ns.map D.int)) (.int 0) S=some (.int x)from Jyc (at0 (k:=0) rfl)]
  simp[Jba,i0,Jaj (S:=S) (i:=x) (j:=2) (by decide)];rw[if_pos (show 1<=Line by decide)];simp only[Ax]at s fin;simp[s,v,w];exact fin
inductive PBg (d:D) (S':Store):Prop
 |mk (p:Nat) (ls:List Nat) (r:Rl) (h:Int) (_:d=.tup [.loc p,rlD r,.int h]) (_:S'[p]? =some (.lst (ls.map D.loc))) (_:ls.length<=17) (_:(∀l∈ls,Stm S' l)) (_:RlOk r) (_:0<=h):PBg d S'
def Jnd{ns:List Int}(hn:ns.length<=63):Sat (callN T G W (n+4) "_law_begin" [.kl (ns.map D.int)] S) PBg:=by
 rw[Jaa Jgt rfl];obtain⟨_,w,e1,p,ls,rfl,hp,hl0,hst⟩:=Jih (W:=W) (n:=n) (S:=S) hn;have c1:Wq (.loc p) none (some 17) w=.ok (.loc w.length) (w++[.lst ((ls.take 17).map D.loc)]):=by
  rw[Jd1 hp,Jhk (by decide),Kl];rfl
 obtain⟨i,g,I⟩:∃i g,ls.take 17=i::g:=by
  cases ls with
  |nil=>cases hl0
  |cons a b=>exact⟨a,b.take 16,rfl⟩
 have hll:g.length<=16:=by
  have h1:=congrArg Dv I;rw[Fv,Bb]at h1
  lia
 have j:∀l∈i::g,Stm (w++[.lst ((i::g).map D.loc)]) l:=λl E=>(hst l (Eg (I▸E))).ext (.new _ _);rw[I]at c1;have A:(w++[Obj.lst ((i::g).map D.loc)])[w.length]? =some (.lst ((i::g).map D.loc)):=Jac;have Q:∀{S:Store},S[w.length]? =some (.lst ((i::g).map D.loc))->Jar (.loc w.length) (.int 0) S=.ok (.loc i) S:=λh=>Jaq h (at0 (k:=0) rfl);have H:∀{S:Store},Stm S i->S[w.length]? =some (.lst ((i::g).map D.loc))->w.length≠i:=λhs h e=>by
  obtain⟨a,b,s,h2⟩:=hs;rw[<-e,h]at h2;simp at h2
 simp[Jcs,e1,c1];simp only[Ax]at A j Q H;generalize w++[Obj.lst (D.loc i::g.map D.loc)]=S2 at A j;obtain⟨_,S3,e3,r,rfl,hr,k3,s3⟩:=Jll (W:=W) (n:=n+1) (j i (by simp));have J:=k3.get A (by simp;exact H (j i (by simp)) A);have st3:∀l∈i::g,Stm S3 l:=λl E=>(j l E).all k3 s3;have p20:∀S:Store,bop .pow (.int 10) (.int 20) S=.ok (.int 100000000000000000000) S:=λS=>Jaz (k:=20) rfl (by decide) (by decide);obtain⟨x,S4,e4,k4,U,hx⟩:=Jaf (W:=W) (n:=n+2) (S:=S3) (m:=100000000000000000000) s3 (by decide) (by decide);have N:=k4.get J (by simp;exact H s3 J);have st4:∀l∈i::g,Stm S4 l:=λl E=>(st3 l E).all k4 U;simp[Q A,e3,Q J,p20,e4];rw[if_pos (show 4<=Line by decide)];simp[Q (Jag N)];refine Sat.p4 (Jcc (m:=4) (U.ext (.new _ _)) (by decide) (by decide)) ?_;rintro _ S5 ⟨y,rfl,Y,s5,hy⟩;have hl04:=U.lt;have hL:=Y.get Jau (by simp;lia);have hp5:=Y.get (Jag N) (by simp;exact H U N);have st5:∀l∈i::g,Stm S5 l:=λl E=>((st4 l E).ext (.new _ _)).all Y s5;clear Y;refine Sat.p3 (Jbr hL hy.1 (by simp;lia) (P:=λz=>∃v,z=.int v/\0<=v) ?_) ?_
 .intro z hz;simp only[Am,Bf,or_false]at hz;rcases hz with rfl|rfl|rfl|rfl<;>exact⟨_,rfl,by lia⟩
 rintro _ C ⟨⟨v,rfl,hv⟩,rfl⟩;have c2:Wq (.loc w.length) (some 1) none C=.ok (.loc C.length) (C++[.lst (g.map D.loc)]):=by
  rw[Jd1 hp5,Jd8 (by decide)];rfl
 obtain⟨o,e7,s7⟩:=stream (W:=W) (n:=n+1) (S:=C++[.lst (g.map D.loc)]) (x:=7) (k:=17) (e:=false);simp at e7 s7;simp[c2,e7];rw[if_pos (show 1<=Line by decide)];simp;rw[Jcy (S:=C++[.lst (g.map D.loc),o,.lst [.loc (C.length+1)]]) Jau Jdb (by simp[Line];lia)];simp[Line];refine⟨_,g++[C.length+1],r,v,rfl,?_,by simp;lia,λl E=>?_,hr,hv⟩
 .rw[show C.length+3=C.length+3 from rfl,Jb7];simp
 .rcases Bm.mp E with z|z
  .exact(st5 l (A7 _ z)).ext (.new _ _)
  .rw[Ar.mp z];refine s7.ext ⟨[.lst [.loc (C.length+1)],.lst (g.map D.loc++[.loc (C.length+1)])],by simp⟩
end
section
variable {c c1 c2:Cs} {dn dn1 dn2:List Int} {d:Dd} {h f m w:Int} {ds:List Dd} {k k':PP} {v:Kp}
def Ri(c1 c2:Cs):Prop:=∀k v,dVal c1 k=some v->dVal c2 k=some v
def Jgd{a b:Type}{f:a->Option b}{l:List a}(h:l.findSome? f=none):∀x∈l,f x=none:=E4.mp h
theorem Wp:V5 c dn d h=none↔d.n∉dn/\¬dst (nms d)<(nms d).length/\(∀i∈d.ins,inW c d h i=none)/\¬(d.ins≠[]/\spent c d<worth d):=by
 unfold V5
 by_cases a:d.n∈dn
 .simp[a]
 rw[if_neg a]
 by_cases b:dst (nms d)<(nms d).length
 .simp[b]
 rw[if_neg b];cases e:d.ins.findSome? (inW c d h)with
 |some x=>
  simp only[reduceCtorEq,false_iff];rintro⟨_,_,z,_⟩;rw[E4.mpr z]at e;cases e
 |none=>
  by_cases g:d.ins≠[]/\spent c d<worth d
  .simp[g]
  .simp only[if_neg g,true_iff];exact⟨a,b,Jgd e,g⟩
theorem Jra{i:PP×List Int}(a:inW c d h i=none):∃k,dVal c i.1=some k:=by
 unfold inW at a;cases e:dVal c i.1 with
 |none=>rw[e]at a;cases a
 |some k=>exact⟨k,rfl⟩
theorem Ri.spent(r:Ri c1 c2)(a:∀i∈d.ins,inW c1 d h i=none):spent c2 d=spent c1 d:=by
 unfold K25.spent;congr 1;refine D8 λi b=>?_;obtain⟨k,e⟩:=Jra (a i b);unfold wOf;rw[e,r _ _ e]
theorem Ri.word(r:Ri c1 c2)(j:V5 c1 dn1 d h=none)(l:d.n∉dn2):V5 c2 dn2 d h=none/\W5 c2 d=W5 c1 d:=by
 obtain⟨_,b,e,g⟩:=Wp.mp j;have a:=r.spent e;refine⟨Wp.mpr ⟨l,b,λi n=>?_,by rw[a];exact g⟩,by unfold W5;rw[a]⟩;have:=e i n;obtain⟨k,z⟩:=Jra this;unfold inW at this ⊢;rw[z]at this;rw[r _ _ z];exact this
theorem Jnn:dVal (dDrop c k) k'=if k'=k then none else dVal c k':=by
 split
 .rename_i e;subst e;cases z:dVal (dDrop c k') k' with
  |none=>rfl
  |some v=>
   have:=Jbk z;unfold dDrop at this;simp at this
 .exact Jhj ‹_›
def Jcb{p:PP×Kp}:dVal (p::c) k=if p.1=k then some p.2 else dVal c k:=by
 unfold dVal;rw[Dh]
 by_cases e:p.1=k<;>simp[e]
theorem Jr1:dVal (c.map λp=>if p.1=k then(p.1,v)else p) k'=if k'=k then(dVal c k).map (λ_=>v)else dVal c k':=by
 induction c with
 |nil=>split<;>rfl
 |cons p c a=>
  rw[Ax,Jcb,Jcb,Jcb,a]
  by_cases e:p.1=k<;>by_cases b:k'=k<;>by_cases g:p.1=k'<;>simp_all
theorem Jr2:dVal (c++[(k,v)]) k'=(dVal c k').or (if k=k' then some v else none):=by
 induction c with
 |nil=>rw[La,Jcb];rfl
 |cons p c a=>
  rw[Ks,Jcb,Jcb,a];split<;>rfl
theorem Jk3:dVal (dPut c k v) k'=if k'=k then some v else dVal c k':=by
 unfold dPut;split
 .rename_i h;rw[Jr1];obtain⟨p,hp,e⟩:=Il.mp h;have:∃u,dVal c k=some u:=by
   cases z:dVal c k with
   |some u=>exact⟨u,rfl⟩
   |none=>
    unfold dVal at z;rw[Option.map_eq_none_iff,List.find?_eq_none]at z;exact absurd e (z p hp)
  obtain⟨u,e⟩:=this;rw[e];rfl
 .rename_i h;rw[Jr2];have:dVal c k=none:=by
   cases z:dVal c k with
   |none=>rfl
   |some u=>exact absurd (Il.mpr ⟨_,Jbk z,by simp⟩) h
  by_cases e:k'=k
  .subst e;rw[this];simp
  .rw[if_neg e,if_neg (Ef e)];exact Option.or_none
theorem Ri.dropO(r:Ri c1 c2):∀i,Ri (K25.dropO c1 d i) (K25.dropO c2 d i)
 |0=>r
 |i+1=>by
  unfold K25.dropO;split
  .intro k v a;rw[Jnn]at a ⊢;split at a
   .cases a
   .rw[if_neg ‹_›];exact Ri.dropO r i k v a
  .exact Ri.dropO r i
theorem Ri.putO(r:Ri c1 c2):∀i,Ri (K25.putO c1 d h f i) (K25.putO c2 d h f i)
 |0=>r.dropO _
 |i+1=>by
  unfold K25.putO;split
  .intro k v a;rw[Jk3]at a ⊢;split at a
   .rw[if_pos ‹_›];exact a
   .rw[if_neg ‹_›];exact Ri.putO r i k v a
  .exact Ri.putO r i
def gdP(a h:Int):Cs->List Int->List Dd->List Dd×Int
 |_,_,[]=>([],0)
 |c,dn,d::ds=>if d.n≠a/\V5 c dn d h=none then(d::(gdP a h (W9 c d h h) (dn++[d.n]) ds).1,W5 c d+(gdP a h (W9 c d h h) (dn++[d.n]) ds).2)else gdP a h c dn ds
theorem Jiw:∀{ds:List Dd} {j:Nat} {c1 c2:Cs} {dn1 dn2:List Int} {f:Int},Ri c1 c2->(∀x∈dn2,x∈dn1\/x=a)->∃b,goP h w (j+1) c2 dn2 f (gdP a h c1 dn1 ds).1=(none,b,dn2++(gdP a h c1 dn1 ds).1.map (·.n),f+(gdP a h c1 dn1 ds).2)
 |[],j,c1,c2,dn1,dn2,f,_,_=>⟨c2,by simp[gdP,goP]⟩
 |d::ds,j,c1,c2,dn1,dn2,f,r,g=>by
  rw[gdP];split
  .rename_i q;obtain⟨o,l⟩:=q;have p:d.n∉dn2:=λz=>(g _ z).elim (Wp.mp l).1 o;obtain⟨s,t⟩:=r.word l p;obtain⟨b,e⟩:=Jiw (ds:=ds) (j:=j+1) (f:=f+W5 c1 d) (dn1:=dn1++[d.n]) (dn2:=dn2++[d.n]) (r.putO (d:=d) (h:=h) (f:=h) d.outs.length) λx i=>by
    rcases Bm.mp i with z|z
    .exact(g x z).imp (Fh _) id
    .exact .inl (Bx _ z)
   refine⟨b,?_⟩;dsimp only;rw[goP,s,t];dsimp only;rw[if_neg (Nat.succ_ne_zero j)];refine Rx e ?_;simp[W9,P1]
  .exact Jiw r g
section
variable {W n:Nat} {S S':Store} {u q:Nat} {r:Rl} {b:Bk} {d0:Dd} {rs:List Dd}
inductive IGd (S:Store) (u q o:Nat) (b:Bk) (rs:List Dd) (h a:Int) (z:List Dd×Int) (i:Nat) (Z:En) (S':Store):Prop
 |mk (c dn f acc v) (_:Z=[some (bkD b),some (.loc u),some (.loc q),some (.int h),some (.int f),some (.loc o),v]) (_:Ext S S') (_:S'[u]? =some (csO c)) (_:S'[q]? =some (dnO dn)) (_:S'[o]? =some (.lst (acc.map ddD))) (_:Gc c) (_:Gd dn) (_:acc.length<=i) (_:z=(acc++(gdP a h c dn (rs.drop i)).1,f+(gdP a h c dn (rs.drop i)).2)):IGd S u q o b rs h a z i Z S'
theorem Jpl(hu:S[u]? =some (csO c))(hq:S[q]? =some (dnO dn))(g:Gc c)(gd:Gd dn)(gb:BkOk b.ds)(J:b.ds=d0::rs):
  ∃S',callN T G W (n+6) "_law_good" [bkD b,.loc u,.loc q,.int h] S=.ok (.tup [.tup ((gdP d0.n h c dn rs).1.map ddD),.int (gdP d0.n h c dn rs).2]) S'/\Ext S S':=by
 rw[Jaa Jh7 rfl];refine Sat.to ?_;have e2:=Jd7 (Jag (X:=[csO c]) hq);simp[Jdk,Jd6 hu g.apt];simp at e2;simp[e2];have es:Wq (.tup (b.ds.map ddD)) (some 1) none (S++[csO c,dnO dn,.lst []])=.ok (.tup (rs.map ddD)) (S++[csO c,dnO dn,.lst []]):=by
  have:cutD (b.ds.map ddD) (some 1) none=rs.map ddD:=by rw[Jd8 (by decide),J];rfl
  simp[Wq,this]
 generalize hz:gdP d0.n h c dn rs=z;have Q:Wq (.tup (b.ds.map ddD)) (some 1) none (S++[csO c,Obj.dct (dp dn),Obj.lst []])=.ok (.tup (rs.map ddD)) (S++[csO c,Obj.dct (dp dn),Obj.lst []]):=es;simp[Q];refine Sat.p2 (loop (IGd S S.length (S.length+1) (S.length+2) b rs h d0.n z) noR ⟨c,dn,0,[],none,rfl,.new _ _,Jau,Jbv,Jdb,g,gd,Ai _,by rw[<-hz];simp⟩ ?_) ?_
 .rintro i y _ U A ⟨c2,dn2,L,e,v,rfl,C,j,l,o,g2,p,hl,a⟩;rw[Ao]at A;obtain⟨d,Y,rfl⟩:=Al.mp A
  replace A:=Y
  have hi:i<rs.length:=(Ae.mp A).1;have N:=gb.ok d (by rw[J];exact .tail _ (Au A));have hrl:rs.length<=20:=by have:=gb.l;rw[J]at this;simp at this;lia
  rw[Bw hi,(Ae.mp A).2,gdP]at a;obtain⟨S3,e3,s⟩:=Jif (W:=W) (n:=n) (h:=h) j l g2 N;have e0:Jar (.tup (b.ds.map ddD)) (.int 0) U=.ok (ddD d0) U:=by rw[J];exact Ja7
  rw[Jap];simp[e0,e3]
  by_cases E:d.n=d0.n
  .rw[if_neg (λz=>z.1 E)]at a;simp[E];exact⟨c2,dn2,L,e,_,rfl,C,j,l,o,g2,p,by lia,a⟩
  cases hw:V5 c2 dn2 d h with
  |some x=>
   rw[if_neg (λz=>by rw[hw]at z;cases z.2)]at a;simp[E,cop];exact⟨c2,dn2,L,e,_,rfl,C.trans s,s.get j,s.get l,s.get o,g2,p,by lia,a⟩
  |none=>
   rw[if_pos ⟨E,hw⟩]at a;obtain⟨H,I,hv⟩:=Jbp hw;obtain⟨S5,e6,k5,hu5,hq5⟩:=Jjj (W:=W) (n:=n+4) (h:=h) (f:=h) (s.get j) (s.get l) g2 p N H I hv;have t:=k5.get (s.get o) (by simp);have e7:=Jax (d:=ddD d) t (Jbq (by rw[Ah];lia));have e8:=Ja8 (me:=.append) rfl t;simp[E,cop,e6,e7,e8];have k6:Keep [S.length+2] S5 (S5.set (S.length+2) (.lst (e.map ddD++[ddD d]))):=.set (by simp);exact⟨W9 c2 d h h,dn2++[d.n],L+W5 c2 d,e++[d],_,rfl,((C.trans s).keep k5 (by simp)).keep k6 (by simp),k6.get hu5 (by simp),k6.get hq5 (by simp),by rw[Jas t];simp,g2.putO N _,p.add H N.n,by simp;lia,by rw[a];simp[P1]⟩
 .intro fl U hf;obtain⟨_,rfl,c2,dn2,L,e,v,rfl,C,j,l,o,g2,p,hl,a⟩:=hf.nx;rw[Ah,G6,gdP]at a;subst a;simp[Jah o];rw[if_pos (by decide)];simp;exact C
end
theorem Jmn(g:Mn kvs c dn a):∃b,goP h w 0 c dn 0 (⟨a,[],[(w0,lk)]⟩::(gdP a h c dn rs).1)=(none,b,dn++[a]++(gdP a h c dn rs).1.map (·.n),(gdP a h c dn rs).2):=by
 have i:a∉dn:=λz=>Vv _ (g.dlt _ z);have l:V5 c dn ⟨a,[],[(w0,lk)]⟩ h=none:=Wp.mpr ⟨i,by simp[nms,dst,Sbl.dd],by simp,by simp⟩;have r:Ri c (W9 c ⟨a,[],[(w0,lk)]⟩ h (h+w)):=λk v e=>by
  have o:W9 c ⟨a,[],[(w0,lk)]⟩ h (h+w)=dPut c (a,0) ⟨w0,lk,h,h+w⟩:=rfl;rw[o,Jk3,if_neg]
  .exact e
  .rintro rfl;exact Vv _ (g.lt _ (Jbk e))
 obtain⟨b,e⟩:=Jiw (ds:=rs) (j:=0) (h:=h) (w:=w) (f:=0) (a:=a) (dn1:=dn) (dn2:=dn++[a]) r λx p=>by
  rcases Bm.mp p with z|z
  .exact .inl z
  .exact .inr (Ar.mp z)
 refine⟨b,?_⟩;rw[goP,l];dsimp only;rw[if_pos rfl];refine Rx e ?_;simp
theorem Ju5(g:Mn kvs c dn a):bfP r h c dn (⟨a,[],[(w0,lk)]⟩::(gdP a h c dn rs).1)=if Vw r h+(gdP a h c dn rs).2<w0 then some (0,"much")else none:=by
 obtain⟨b,e⟩:=Jmn (h:=h) (w:=r.c) (w0:=w0) (lk:=lk) (rs:=rs) g;unfold bfP;rw[e];simp[first,worth,Wa]
theorem Yi:∀{ds:List Dd} {c:Cs} {dn:List Int},(gdP a h c dn ds).1.Sublist ds
 |[],_,_=>.slnil
 |d::ds,c,dn=>by
  rw[gdP];split
  .exact Yi.cons₂ _
  .exact Yi.cons _
end
section
variable {W n:Nat} {S S':Store} {l L u q rl:Nat} {c:Cs} {dn:List Int} {ps:List Nat} {d:Dd} {h f m t:Int} {r:Rl} {b:Bk} {ds:List D} {kvs:Kv} {lk:List Rw} {mx:Nat} {ks:List Int}
theorem Jgg{f:D->D->Option Bool}:∀{xs:List D},(∀x∈xs,f x x=some true)->eqL f xs xs=some true
 |[],_=>rfl
 |a::r,h=>by simp only[eqL,h a (by simp),Jgg λx e=>h x (A7 _ e),Pn]
def Waw:eqV (.int x) (.int x)=true:=beq_self_eq_true _
def Wb4:eqV (.str x) (.str x)=true:=beq_self_eq_true _
theorem Wd3:eqV .non .non=true:=rfl
def eq_int:eqD S (k+1) (.int x) (.int x)=some true:=by simp[eqD,Wf,Waw]
def J0m(x:Rw):eqD S (k+1+1) (rD x) (rD x)=some true:=by
 cases x<;>simp[rD,eqD,eqL,Wf,Waw,Wb4]
def J0n:eqD S Deep (kpD k) (kpD k)=some true:=by
 rw[show Deep=8+1+1+1+1 from rfl];have a:eqL (eqD S (8+1+1)) (k.lk.map rD) (k.lk.map rD)=some true:=Jgg λx e=>by
  obtain⟨y,_,rfl⟩:=Bd.mp e;exact J0m (k:=8) y
 have g:eqD S (8+1+1+1) (.tup (k.lk.map rD)) (.tup (k.lk.map rD))=some true:=by
  rw[eqD,if_pos rfl];exact a
 unfold kpD;rw[eqD,if_pos rfl];simp only[eqL,eq_int,g,Pn]
def Jt4(g:Gc c)(e:S[x]? =some (.dtu (srD (cp c))))(i:S[y]? =some (csO c)):cop .ne (.loc x) (.loc y) S=some false:=by
 have a:(srD (cp c)).Perm (cp c):=L5 _ _;have:Yf S (.loc x) (.loc y)=some false:=by
  simp only[Yf,dtAt,e,i];rw[if_pos];refine⟨a.length_eq,?_⟩;rw[Ed];intro p hp;obtain⟨z,j,rfl⟩:=Bd.mp (a.mem_iff.mp hp);simp only[Jbl,Jmy g.nd j,F7,J0n];rfl
 simp only[cop,this]
structure Lw(S:Store)(p L u q uc qc rl:Nat)(ls:List Nat)(kv:Kv)(mx:Nat)(c:Cs)(dn:List Int)(m:Int):Prop where
 d:uc≠u/\qc≠q
 p:S[p]? =some (.lst (ls.map D.loc))
 st:∀l∈ls,Stm S l
 r:S[rl]? =some (.rg kv)
 g:Xe kv mx
 mn:Mn kv c dn m
 h:Hd S L u q c dn
 u:S[uc]? =some (csO c)
 q:S[qc]? =some (dnO dn)
section
variable {p uc qc:Nat} {ls:List Nat} {kv:Kv}
theorem Lw.ext(w:Lw S p L u q uc qc rl ls kv mx c dn m)(x:Ext S S'):Lw S' p L u q uc qc rl ls kv mx c dn m:=⟨w.d,x.get w.p,λl a=>(w.st l a).ext x,x.get w.r,w.g,w.mn,w.h.ext x,x.get w.u,x.get w.q⟩
theorem Sr.get{j:Kv}{x:Nat}{o:Mi.Obj}(a:Sr S l rl kv mx S' j)(v:Stm S l)(w:S[rl]? =some (.rg kv))(i:S[x]? =some o)(A:∀a e s,o≠ .lst [.int a,.bl e,.int s])(C:∀k,o≠ .rg k):S'[x]? =some o:=by
 refine a.k.get i ?_;intro z;rcases Am.mp z with rfl|z
 .obtain⟨y,e,s,h⟩:=v;rw[h]at i;cases i;exact A _ _ _ rfl
 .rw[Ar.mp z,w]at i;cases i;exact C _ rfl
def Lw.sr{j:Kv}{v:Nat}(w:Lw S p L u q uc qc rl ls kv mx c dn m)(x:l∈ls)(a:Sr S l rl kv v S' j):Lw S' p L u q uc qc rl ls j v c dn m:=by
 have i:=w.st l x;refine⟨w.d,a.get i w.r w.p ?_ nofun,λo k=>?_,a.r,a.g,w.mn.ring a.m,⟨a.get i w.r w.h.l nofun nofun,a.get i w.r w.h.u nofun nofun,a.get i w.r w.h.q nofun nofun⟩,a.get i w.r w.u nofun nofun,a.get i w.r w.q nofun nofun⟩
 .intro a e s z;cases ls<;>simp at z
 .by_cases e:o=l
  .rw[e];exact a.s
  .refine(w.st o k).get (p:=0) a.k ?_;simp;exact⟨e,(w.st o k).ne_rg w.r⟩
end
abbrev eL(sc:D)(p:Nat)(r:Rl)(h:Int)(L uc qc rl:Nat)(v:Nat->Option D):En:=[some sc,some (.loc p),some (rlD r),some (.int h),some (.loc L),some (.loc uc),some (.loc qc),some (.loc rl),v 8,v 9,v 10,v 11,v 12,v 13,v 14,v 15,v 16,v 17,v 18]
inductive ILaw (sc:D) (p L u q rl:Nat) (ls:List Nat) (r:Rl) (i:Nat) (Z:En) (S':Store):Prop
 |mk (h:Int) (uc qc:Nat) (kv:Kv) (c:Cs) (dn:List Int) (v:Nat->Option D) (_:Z=eL sc p r h L uc qc rl v) (_:0<=h) (_:Lw S' p L u q uc qc rl ls kv (45*i) c dn (20*i+1)):ILaw sc p L u q rl ls r i Z S'
noncomputable def mkB(b:Bk)(a w:Int)(lk:List Rw)(gs:List Dd):Bk:=⟨b.x,b.y,b.z,⟨a,[],[(w,lk)]⟩::gs⟩
noncomputable def wv(x:Int):Int:=if(if 1<x then x else 1)<(10000000000000000000000000000000000000000:Int)then(if 1<x then x else 1)else(10000000000000000000000000000000000000000:Int)
abbrev eW(sc:D)(p:Nat)(r:Rl)(h:Int)(L uc qc rl i l:Nat)(b:Bk)(gs:List Dd)(f m:Int)(o:Nat)(a15 a16 a17 a18:Option D):En:=[some sc,some (.loc p),some (rlD r),some (.int h),some (.loc L),some (.loc uc),some (.loc qc),some (.loc rl),some (.int i),some (.loc l),some (bkD b),some (.tup (gs.map ddD)),some (.int f),some (.int m),some (.loc o),a15,a16,a17,a18]
theorem Jqk{bs:List Bk}{gs:List Dd}{e:Dd}{o0:Int×List Rw}{os:List (Int×List Rw)}(A:b.ds=e::rs)(g:e.outs=o0::os)(U:gs.length<=19)(s:S[o]? =some (.lst (bs.map bkD)))(Y:bs.length<=2):
  Xg C (.tvar 15) lpW (.int x) (eW sc p r h L uc qc rl i l b gs f m o a15 a16 a17 a18) S=.ok (.nx (eW sc p r h L uc qc rl i l b gs f m o (some (.int x)) (some (ddD ⟨20*i+1,[],[(wv x,o0.2)]⟩)) a17 a18)) (S.set o (.lst (bs.map bkD++[bkD (mkB b (20*i+1) (wv x) o0.2 gs)]))):=by
 have a:∀S:Store,bop .pow (.int 10) (.int 40) S=.ok (.int (10000000000000000000000000000000000000000:Int)) S:=λS=>Jaz (k:=40) rfl (by decide) (by decide);have E:∀{S:Store},bop .mul (.int 20) (.int i) S=.ok (.int (20*i)) S:=λ{S}=>Je4 rfl;have H:∀{S:Store},Jar (.tup (b.ds.map ddD)) (.int 0) S=.ok (ddD e) S:=by rw[A];exact Ja7
 have I:∀{S:Store},Jar (.tup (e.outs.map ouD)) (.int 0) S=.ok (ouD o0) S:=by rw[g,Ax];exact Ja7
 have v:∀{S:Store},Wq (bkD b) none (some 3) S=.ok (.tup [.int b.x,.int b.y,.int b.z]) S:=by intro S;unfold bkD;simp only[Wq];rw[Jhk (by decide)];rfl
 have w:∀{S:Store},bop .add (.tup [ddD ⟨20*i+1,[],[(wv x,o0.2)]⟩]) (.tup (gs.map ddD)) S=.ok (.tup ((⟨20*i+1,[],[(wv x,o0.2)]⟩::gs:List Dd).map ddD)) S:=λ{S}=>by rw[Jbh (by simp[Line];lia)];rfl
 have J:∀{S:Store} {y:D},bop .add (.tup [.int b.x,.int b.y,.int b.z]) (.tup [y]) S=.ok (.tup [.int b.x,.int b.y,.int b.z,y]) S:=λ{S y}=>by rw[Jbh (by simp[Line])];rfl
 have z:=Ja8 (me:=.append) rfl s;have N:=Jax (d:=bkD (mkB b (20*i+1) (wv x) o0.2 gs)) s (Jbq (by rw[Ah];lia));have j:D.tup [.int (20*i+1),.tup [],.tup [.tup [.int (wv x),.tup (o0.2.map rD)]]]=ddD ⟨20*i+1,[],[(wv x,o0.2)]⟩:=rfl;rw[Jap];simp[lpW,E,a,H,I,z,v];rw[show(if(if 1<x then x else 1)<(10000000000000000000000000000000000000000:Int)then(if 1<x then x else 1)else(10000000000000000000000000000000000000000:Int))=wv x from rfl];simp[Line];rw[j];simp only[Ax]at w;have Q:V4 .append (.loc o) [.tup [.int b.x,.int b.y,.int b.z,.tup (ddD ⟨20*i+1,[],[(wv x,o0.2)]⟩::gs.map ddD)]] S=.ok .non (S.set o (.lst (bs.map bkD++[bkD (mkB b (20*i+1) (wv x) o0.2 gs)]))):=N;simp[v,w,J,z,Q,Line]
def Jzc(x:Int):1<=wv x/\wv x<=10^40:=by
 unfold wv;constructor<;>(repeat' split)<;>omega
theorem J0u{p:Dd}{gs:List Dd}{o0:Int×List Rw}{os:List (Int×List Rw)}(g:BkOk b.ds)(j:b.ds=p::rs)(s:p.outs=o0::os)(v:gs.Sublist rs)(w:0<=a/\a<345):BkOk (mkB b a (wv x) o0.2 gs).ds:=by
 have y:=g.ok p (by rw[j];simp);have A:=Jzc x;have C:∀d∈gs,d∈b.ds:=λd e=>by rw[j];exact .tail _ (v.subset e)
 refine⟨λd e=>?_,?_,λi d e=>?_,by simp[mkB]⟩
 .rcases Am.mp e with rfl|z
  .exact⟨w,by simp,by simp,by simp,λo E=>by rw[Ar.mp E];exact⟨A.2,(y.w o0 (by rw[s];simp)).2⟩⟩
  .exact g.ok d (C d z)
 .have:=g.l;rw[j]at this;have:=v.length_le;simp[mkB]at*
  lia
 .cases i with
  |zero=>cases e;simp
  |succ i=>
   have H:d∈rs:=v.subset (Au (show gs[i]? =some d from e));obtain⟨k,I⟩:=C4.mp H;have:=g.mr (k+1) d (by rw[j];exact I);simp at this ⊢;exact this
theorem Jul{a h:Int}:∀{ds:List Dd} {c:Cs} {dn:List Int},0<=(gdP a h c dn ds).2
 |[],_,_=>by simp[gdP]
 |d::ds,c,dn=>by
  rw[gdP];split
  .rename_i q;have g:=(Wp.mp q.2).2.2.2;have i:=Jul (a:=a) (h:=h) (ds:=ds) (c:=W9 c d h h) (dn:=dn++[d.n]);have:0<=W5 c d:=by
    unfold W5;split
    .lia
    .rename_i z;have:=λe=>g ⟨z,e⟩
     lia
   show 0<=W5 c d+_
   lia
  .exact Jul
def Wce(h:0<=m):(m<wv m)=(m=0):=by
 unfold wv;apply propext;constructor<;>(repeat' split)<;>omega
def Wcd(h:0<=m):(m<wv (m+1))=¬(10000000000000000000000000000000000000000<=m):=by
 unfold wv;apply propext;constructor<;>(repeat' split)<;>omega
def Jz8(a:S[x]? =some (.lst ds))(g:S[y]? =some (.lst ds))(h:∀z∈ds,eqD S 11 z z=some true):cop .ne (.loc x) (.loc y) S=some false:=by
 have e:eqL (eqD S 11) ds ds=some true:=Jgg h;have i:eqD S Deep (.loc x) (.loc y)=some true:=by
  rw[show Deep=11+1 from rfl,eqD];simp only[seqAt,a,g,if_true,e]
 have j:Yf S (.loc x) (.loc y)=none:=by simp only[Yf,dtAt,a]
 simp only[cop,j,i,F7,Dm]
inductive IDo (S:Store) (qc:Nat) (dn ns:List Int) (e:Option D->En) (i:Nat) (Z:En) (S':Store):Prop
 |mk (v:Option D) (_:Z=e v) (_:Keep [qc] S S') (_:S'[qc]? =some (dnO (dn++ns.take i))):IDo S qc dn ns e i Z S'
theorem Jr4{p uc qc i o:Nat}{ls:List Nat}{kv:Kv}{sc:D}{B B1:Bk}{gs:List Dd}{a15 a16 a17 a18:Option D}{f m:Int}(w:Lw S p L u q uc qc rl ls kv mx c dn (20*i+1))(hm:mx<=45*(i+1))(ho:S[o]? =some (.lst [bkD B,bkD B1]))(gb:BkOk B.ds)(gr:RlOk r)(hh:1<=h)
  (hf:bfP r h c dn B.ds=none)(H:(goP h r.c 0 c dn 0 B.ds).2.2.1=dn++B.ds.map (·.n))(hn:∀d∈B.ds,W7 d/\d.n<20*i+21/\∀o∈d.outs,Hs kv o.2):
  Sat (evB (Cn T G W (n+1+9)) tlM (eW sc p r h L uc qc rl i l b gs f m o a15 a16 a17 a18) S) (FlP (ILaw sc p L u q rl ls r (i+1)) noR):=by
 have hz1:(goP h r.c 0 c dn 0 B.ds).1=none:=by
  unfold bfP at hf;split at hf
  .cases hf
  .assumption
 have mn7:=Jrf hz1 hn (w.mn.mono (by lia)) rfl;obtain⟨v,I,e1,_,k1,hd1,J,E⟩:=do_block (W:=W) (n:=n+1) w.h w.mn.gc w.mn.gd gr gb hh hf;generalize hz:goP h r.c 0 c dn 0 B.ds=z at mn7 hd1 J E H;have kp:∀{x:Nat} {o:Mi.Obj},S[x]? =some o->x≠u->x≠q->I[x]? =some o:=λ{x o} y h1 N=>k1.get y (by simp[h1,N]);have hu1:I[uc]? =some (csO c):=kp w.u w.d.1 (λe=>by have:=w.u;rw[e,w.h.q]at this;cases this);have Q:I[qc]? =some (dnO dn):=kp w.q (λe=>by have:=w.q;rw[e,w.h.u]at this;cases this) w.d.2;have ho1:I[o]? =some (.lst [bkD B,bkD B1]):=kp ho (λe=>by rw[e,w.h.u]at ho;cases ho) (λe=>by rw[e,w.h.q]at ho;cases ho);obtain⟨f',S2,e2,x2,hacc⟩:=Jmv (W:=W) (n:=n+4) (h:=h) (b:=B) hu1 Q w.mn.gc w.mn.gd gr gb hh;obtain⟨hu2,_⟩:=hacc hf;rw[hz]at hu2;rw[hf]at e2;have i0:∀{S:Store},S[o]? =some (.lst [bkD B,bkD B1])->Jar (.loc o) (.int 0) S=.ok (bkD B) S:=λh=>Jaq h rfl;simp[tlM,i0 ho,i0 ho1,i0 (x2.get ho1),e1,e2];have lq1:=Ja4 Q;have U:∀{x:Nat} {o:Mi.Obj},S[x]? =some o->(∀z,o≠ .dtu z)->(∀z,o≠ .dct z)->S2[x]? =some o/\x≠qc:=λ{x o} y h1 N=>
  ⟨x2.get (kp y (λe=>by rw[e,w.h.u]at y;cases y;exact h1 _ rfl) (λe=>by rw[e,w.h.q]at y;cases y;exact N _ rfl)),λe=>by rw[e,w.q]at y;cases y;exact N _ rfl⟩
 refine Sat.p1 (loop (IDo S2 qc dn (B.ds.map (·.n)) λv=>[some sc,some (.loc p),some (rlD r),some (.int h),some (.loc L),some (.loc I.length),some (.loc qc),some (.loc rl),some (.int i),some (.loc l),some (bkD b),some (.tup (gs.map ddD)),some (.int f),some (.int m),some (.loc o),a15,a16,a17,v]) noR ⟨_,rfl,.refl,by simpa using x2.get Q⟩ ?_) ?_
 .intro j d Z S3 hd hI;obtain⟨v,rfl,Y,A⟩:=hI;rw[Ao]at hd;obtain⟨d,C,rfl⟩:=Al.mp hd;have ht:(B.ds.map (·.n)).take (j+1)=(B.ds.map (·.n)).take j++[d.n]:=by
   rw[D4,Ao,C];rfl
  have gg:Gd (dn++(B.ds.map (·.n)).take j++[d.n]):=by
   have sb:(dn++(B.ds.map (·.n)).take (j+1)).Sublist (dn++B.ds.map (·.n)):=(O5 dn).append (Gu _ _);rw[ht,<-Bc]at sb;rw[H]at E;exact⟨E.nd.sublist sb,λx y=>E.ok x (sb.subset y)⟩
  have nn:d.n∉dn++(B.ds.map (·.n)).take j:=λz=>(Gv.mp gg.nd).2.2 _ z _ (by simp) rfl;have e5:=Jln A ⟨(Gv.mp gg.nd).1,λx y=>gg.ok x (Fh _ y)⟩ nn;rw[Jap];simp[e5];refine⟨_,rfl,Y.trans (.set (by simp)),?_⟩;rw[Jas A,ht]
 .intro fl S3 hF;obtain⟨Z,rfl,v,rfl,Y,A⟩:=hF.nx;rw[show(M3 ddD B.ds).length=(B.ds.map (·.n)).length by simp,G4,<-H]at A;have hu3:=Y.get hu2 (by simp;lia);have hd3:Hd S3 L u q z.2.1 z.2.2.1:=by
   have C:=hd1.ext x2;exact⟨Y.get C.l (by simp;exact(U w.h.l nofun nofun).2),Y.get C.u (by simp;intro e;have:=w.q;rw[<-e,w.h.u]at this;cases this),Y.get C.q (by simp;exact w.d.2.symm)⟩
  have e6:=held (W:=W) (n:=n+9) hd3 J;have ge:∀{x:Nat} {o:Mi.Obj},S[x]? =some o->(∀z,o≠ .dtu z)->(∀z,o≠ .dct z)->S3[x]? =some o:=λy h1 N=>Y.get (U y h1 N).1 (by simp;exact(U y h1 N).2);have lu:=Ja4 w.h.u;have:=k1.1;have w3:Lw S3 p L u q I.length qc rl ls kv mx z.2.1 z.2.2.1 (20*i+21):=⟨⟨by lia,w.d.2⟩,ge w.p nofun nofun,λl' hl'=>by obtain⟨a,e,s,hs⟩:=w.st l' hl';exact⟨a,e,s,ge hs nofun nofun⟩,ge w.r nofun nofun,w.g,mn7,hd3,hu3,A⟩
  have w4:=w3.ext (.new S3 [.dtu (srD (cp z.2.1))]);have ne:=Jt4 J (Jac (S:=S3) (o:=.dtu (srD (cp z.2.1)))) w4.u;simp[e6,hd3.rc (m:="held"),ne];refine⟨h,I.length,qc,kv,_,_,λk=>([some (.int i),some (.loc l),some (bkD b),some (.tup (gs.map ddD)),some (.int f),some (.int m),some (.loc o),a15,a16,a17,v]:En)[k-8]?.join,?_,by lia,{w4 with g:=⟨Bu w4.g.l hm,w4.g.k⟩,mn:=w4.mn.mono (by lia)}⟩;rfl
theorem Jo4(hI:ILaw sc p L u q rl ls r i Z S)(hl:l∈ls)(hi:i<=16)(gr:RlOk r):
  Sat (Xg (Cn T G W (n+1+9)) (.ttup (.cns (.tvar 8) (.cns (.tvar 9) .nul))) Wam (.tup [.int i,.loc l]) Z S) (FlP (ILaw sc p L u q rl ls r (i+1)) noR):=by
 obtain⟨h,uc,qc,kv,c,dn,v,rfl,hh,w⟩:=hI;obtain⟨_,S1,e1,j,rfl,J,k1,s1⟩:=Jox (W:=W) (n:=n+1+7) (r:=r) (w.st l hl) hh;have w1:=w.sr hl ((Sr.refl (w.st l hl) w.r w.g).take k1 s1);have em:∀{S:Store},bop .mul (.int 20) (.int i) S=.ok (.int (20*i)) S:=λ{S}=>Je4 rfl;obtain⟨_,S2,e2,b,kv2,rfl,a2,gb,hnum,hhs,d0,Y,hb,hne,hd0⟩:=Jnb (W:=W) (n:=n+1+2) (h:=j) (r:=r) (first:=20*(i:Int)+1) s1 w1.r w1.g (by lia) w1.u w1.q w1.mn (by lia) gr J;have w2:=w1.sr hl a2;obtain⟨E,e3,x3⟩:=Jpl (W:=W) (n:=n+1+3) (h:=j) w2.u w2.q w2.mn.gc w2.mn.gd gb hb;have w3:=w2.ext x3;have e4:=Jd5 (W:=W) (n:=n+1+8) (S:=E) gr J;obtain⟨s,os,N⟩:=Jq hne;have Q:=Yi (a:=d0.n) (h:=j) (ds:=Y) (c:=c) (dn:=dn);have hrs:Y.length<=19:=by have:=gb.l;rw[hb]at this;simp at this;lia
 have hgs:(gdP d0.n j c dn Y).1.length<=19:=Bu Q.length_le hrs;generalize hg:gdP d0.n j c dn Y=z at Q hgs e3;have t1:=Jqk (C:=Cn T G W (n+1+9)) (S:=E++[.lst []]) (sc:=sc) (p:=p) (r:=r) (h:=j) (L:=L) (uc:=uc) (qc:=qc) (rl:=rl) (i:=i) (l:=l) (b:=b) (gs:=z.1) (f:=z.2) (m:=Vw r j+z.2) (o:=E.length) (bs:=[]) (x:=Vw r j+z.2) (a15:=v 15) (a16:=v 16) (a17:=v 17) (a18:=v 18) hb N hgs (by simp) (by simp);have hs1:(E++[Obj.lst []]).set E.length (.lst (([]:List Bk).map bkD++[bkD (mkB b (20*i+1) (wv (Vw r j+z.2)) s.2 z.1)]))=E++[.lst [bkD (mkB b (20*i+1) (wv (Vw r j+z.2)) s.2 z.1)]]:=by simp
 rw[hs1]at t1;have t2:=Jqk (C:=Cn T G W (n+1+9)) (S:=E++[.lst [bkD (mkB b (20*i+1) (wv (Vw r j+z.2)) s.2 z.1)]]) (sc:=sc) (p:=p) (r:=r) (h:=j) (L:=L) (uc:=uc) (qc:=qc) (rl:=rl) (i:=i) (l:=l) (b:=b) (gs:=z.1) (f:=z.2) (m:=Vw r j+z.2) (o:=E.length) (bs:=[mkB b (20*i+1) (wv (Vw r j+z.2)) s.2 z.1]) (x:=Vw r j+z.2+1) (a15:=some (.int (Vw r j+z.2))) (a16:=some (ddD ⟨20*i+1,[],[(wv (Vw r j+z.2),s.2)]⟩)) (a17:=v 17) (a18:=v 18) hb N hgs (by simp) (by simp);have hs2:(E++[Obj.lst [bkD (mkB b (20*i+1) (wv (Vw r j+z.2)) s.2 z.1)]]).set E.length (.lst ([mkB b (20*i+1) (wv (Vw r j+z.2)) s.2 z.1].map bkD++[bkD (mkB b (20*i+1) (wv (Vw r j+z.2+1)) s.2 z.1)]))=E++[.lst [bkD (mkB b (20*i+1) (wv (Vw r j+z.2)) s.2 z.1),bkD (mkB b (20*i+1) (wv (Vw r j+z.2+1)) s.2 z.1)]]:=by simp
 rw[hs2]at t2;have mn3:=w3.mn;rw[<-hd0]at mn3;have r0:∀x,bfP r j c dn (mkB b (20*i+1) (wv x) s.2 z.1).ds=if Vw r j+z.2<wv x then some (0,"much")else none:=λx=>by
  have:=Ju5 (h:=j) (r:=r) (w0:=wv x) (lk:=s.2) (rs:=Y) mn3;rw[hg,hd0]at this;exact this
 have g0:∀x,BkOk (mkB b (20*i+1) (wv x) s.2 z.1).ds:=λx=>J0u gb hb N Q (by lia);have q0:=r0 (Vw r j+z.2);have q1:=r0 (Vw r j+z.2+1);have G0:=g0 (Vw r j+z.2);have G1:=g0 (Vw r j+z.2+1);generalize hB0:mkB b (20*i+1) (wv (Vw r j+z.2)) s.2 z.1=H at t1 t2 q0 G0;generalize hB1:mkB b (20*i+1) (wv (Vw r j+z.2+1)) s.2 z.1=U at t2 q1 G1;have w4:=w3.ext (.new E [Obj.lst [bkD H,bkD U]]);obtain⟨S4,f1,x4⟩:=block_fault (W:=W) (n:=n+2) (b:=H) w4.h w4.mn.gc w4.mn.gd gr G0 J;obtain⟨I,f2,x5⟩:=block_fault (W:=W) (n:=n+2) (b:=U) (w4.ext x4).h w4.mn.gc w4.mn.gd gr G1 J;have o3:(E++[Obj.lst [bkD H,bkD U]])[E.length]? =some (.lst [bkD H,bkD U]):=by simp
 have o4:=x4.get o3;have o5:=x5.get o4;have w5:=(w4.ext x4).ext x5;rw[Jap];simp[Wam,e1,em,e2,e3,e4];rw[if_pos (by decide)];simp[kFor,forL,sameAt,nth,t1,t2,tlL];simp[Xi,Wr,sameAt,seqAt,nth,Jam,V2,o3,o4,o5,f1,f2,-bwD];have hm0:0<=Vw r j+z.2:=by
  have y:=(Jmo (h:=j) gr).1;have h2:=Jul (a:=d0.n) (h:=j) (ds:=Y) (c:=c) (dn:=dn);rw[hg]at h2
  lia
 simp only[Wce hm0]at q0;simp only[Wcd hm0]at q1;have epow:∀S:Store,bop .pow (.int 10) (.int 40) S=.ok (.int (10000000000000000000000000000000000000000:Int)) S:=λS=>Jaz (k:=40) rfl (by decide) (by decide);have hgo:(goP j r.c 0 c dn 0 H.ds).2.2.1=dn++H.ds.map (·.n):=by
  obtain⟨c',e⟩:=Jmn (h:=j) (w:=r.c) (w0:=wv (Vw r j+z.2)) (lk:=s.2) (rs:=Y) mn3;rw[hg,hd0]at e;rw[<-hB0];show(goP j r.c 0 c dn 0 (⟨20*i+1,[],[(wv (Vw r j+z.2),s.2)]⟩::z.1)).2.2.1=_;rw[e];simp[mkB]
 have hB:∀d∈H.ds,W7 d/\d.n<20*i+21/\∀o∈d.outs,Hs kv2 o.2:=λd hd=>by
  refine⟨G0.ok d hd,?_⟩;rw[<-hB0]at hd;rcases Am.mp hd with rfl|y
  .exact⟨by simp,λo ho=>by rw[Ar.mp ho];exact hhs d0 (by rw[hb];simp) s (by rw[N];simp)⟩
  .have hy:d∈b.ds:=by rw[hb];exact .tail _ (Q.subset y)
   have:=hnum d hy;exact⟨by lia,hhs d hy⟩
 have j0:∀{A:Mi.Obj},Jar (.loc (I.length+1)) (.int (if Vw r j+z.2=0 then 1 else 0)) (I++[A,.lst [.non,.tup [.int 0,.str "much"]]])=.ok (bwD (bfP r j c dn H.ds)) (I++[A,.lst [.non,.tup [.int 0,.str "much"]]]):=λ{A}=>by
  rw[q0];split<;>exact Jaq Jbv rfl
 have j1:∀{A B:Mi.Obj},Jar (.loc (I.length+2)) (.int (if 10000000000000000000000000000000000000000<=Vw r j+z.2 then 1 else 0)) (I++[A,B,.lst [.tup [.int 0,.str "much"],.non]])=.ok (bwD (bfP r j c dn U.ds)) (I++[A,B,.lst [.tup [.int 0,.str "much"],.non]]):=λ{A B}=>by
  rw[q1]
  by_cases hc:10000000000000000000000000000000000000000<=Vw r j+z.2
  .simp only[hc,if_true,not_true,if_false];exact Jaq (by rw[Jb7];rfl) rfl
  .simp only[hc,if_false,not_false_eq_true,if_true];exact Jaq (by rw[Jb7];rfl) rfl
 have ne:∀{A B:Mi.Obj},cop .ne (.loc I.length) (.loc (I.length+3)) (I++[.lst [bwD (bfP r j c dn H.ds),bwD (bfP r j c dn U.ds)],A,B,.lst [bwD (bfP r j c dn H.ds),bwD (bfP r j c dn U.ds)]])=some false:=λ{A B}=>by
  refine Jz8 Jau (by rw[Jb7];rfl) λx hx=>?_;rw[q0,q1]at hx;simp only[Am,Bf,or_false]at hx;rcases hx with rfl|rfl<;>split<;>simp[eqD,Wf,Waw,Wb4,Wd3,seqAt,eqL]
 generalize bwD (bfP r j c dn U.ds)=X1 at j1 ne ⊢;have hf0:0<Vw r j+z.2->bfP r j c dn H.ds=none:=λh=>by rw[q0,if_neg (by lia)]
 generalize bwD (bfP r j c dn H.ds)=X0 at j0 ne ⊢;simp[Line,Jq8,epow,j0,j1,ne];generalize hX:[Obj.lst [X0,X1],.lst [.non,.tup [.int 0,.str "much"]],.lst [.tup [.int 0,.str "much"],.non],.lst [X0,X1]]=X;have w6:=w5.ext (.new I X);split
 .have hp:=by assumption
  refine Sat.p1 (Jr4 (W:=W) (n:=n) w6 (by lia) ((Ext.new I X).get o5) G0 gr J (hf0 hp) hgo hB) λfl S' hF=>?_;obtain⟨Z,rfl,hI⟩:=hF.nx;simp;exact hI
 .simp;refine⟨j,uc,qc,kv2,_,_,λk=>([some (.int i),some (.loc l),some (bkD b),some (.tup (z.1.map ddD)),some (.int z.2),some (.int (Vw r j+z.2)),some (.loc E.length),some (.int (Vw r j+z.2+1)),some (ddD ⟨20*i+1,[],[(wv (Vw r j+z.2+1),s.2)]⟩),some (.loc I.length),v 18]:En)[k-8]?.join,?_,by lia,{w6 with g:=⟨Bu w6.g.l (by lia),w6.g.k⟩,mn:=w6.mn.mono (by lia)}⟩;rfl
def PT(d:D)(S:Store):Prop:=d=.bl true
theorem Jxv{ns:List Int}(I:ns.length<=63):Sat (callN T G W (n+1+10) "law" [.kl (ns.map D.int)] []) PT:=by
 rw[Jaa Jve rfl];obtain⟨_,a,J,p,A,r,N,rfl,hp,Q,x,U,y⟩:=Jnd (W:=W) (n:=n+1+5) (S:=[]) I;have Y:=init (W:=W) (n:=n+1+8) (S:=a);simp[Jun,J,Y];generalize j:a++[Obj.ins "Hoard" [("unspent",.loc (a.length+1)),("done",.loc (a.length+2))],.dtu [],.dct [],.dtu [],.dct [],.rg []]=z;have C:Ext a z:=⟨_,j.symm⟩
 have g:∀(k:Nat) (o:Mi.Obj),([Obj.ins "Hoard" [("unspent",.loc (a.length+1)),("done",.loc (a.length+2))],.dtu [],.dct [],.dtu [],.dct [],.rg []]:List Mi.Obj)[k]? =some o->z[a.length+k]? =some o:=λk o e=>by rw[<-j,Jb7];exact e
 have E:Lw z p a.length (a.length+1) (a.length+2) (a.length+3) (a.length+4) (a.length+5) A [] 0 [] [] 1:=by
  refine⟨⟨by lia,by lia⟩,C.get hp,λl s=>(x l s).ext C,g 5 _ rfl,⟨by simp,by simp⟩,⟨⟨by simp,by simp⟩,⟨by simp,by simp⟩,by simp,by simp,by simp⟩,⟨g 0 _ rfl,g 1 _ rfl,g 2 _ rfl⟩,g 3 _ rfl,g 4 _ rfl⟩
 clear j g;have e3:=Jmb E.p;generalize(D.kl (ns.map D.int))=sc;simp[e3];refine Sat.p2 (Wbr (ILaw sc p a.length (a.length+1) (a.length+2) (a.length+5) A r) noR ⟨N,_,_,[],[],[],λ_=>none,rfl,y,E⟩ (λi Z S h=>by obtain⟨_,_,_,_,_,_,_,_,_,w⟩:=h;exact w.p) ?_) ?_
 .intro i d Z S3 H hI;rw[Ao]at H;obtain⟨l,s,rfl⟩:=Al.mp H;have:=(Ae.mp s).1;exact Jo4 (W:=W) (n:=n) hI (Au s) (by lia) U
 .intro fl S3 hF;obtain⟨Z,rfl,h,uc,qc,kv,c,dn,v,rfl,hh,w⟩:=hF.nx;simp;rfl
end
def run(ns:List Int)(b:ns.length<=63):∃a,callN T G 100 30 "law" [.kl (ns.map D.int)] []=.ok (.bl true) a:=by
 obtain⟨_,a,e,rfl⟩:=Jxv (W:=100) (n:=19) b;exact⟨a,e⟩
noncomputable def top(i:Nat):Stmt:=PySem.Challenge.pw_spentonce_k25_much.main.body.getD i (.Pass ⟨0,0,0,0⟩)
noncomputable def B:List String:=["len","range","sum","max","min","enumerate","abs","set","tuple","int","sorted","dict","list","zip"]
noncomputable def FL:List (String×Nat):=[("is_maker",6),("made_by",7),("worth_of",8),("gift",10),("block_fault",11),("do_block",12),("free_from",13),("worth_of_makers",14),("opens",20),("is_done",21),("lay",22),("turn",23),("do_row",24),("has_enough",25),("take",26),("laid_by",27),("paid_at",28),("outcome",29),("spent_by",36),("has_twice",37),("facts_of",38),("_law_mixed",40),("_law_stream",41),("_law_take",42),("_law_streams",43),("_law_lock",44),("_law_outs",45),("_law_in",46),("_law_deed",47),("_law_word",48),("_law_put",49),("_law_gift",50),("_law_done",51),("_law_block",52),("_law_rules",53),("_law_begin",54),("_law_next",55),("_law_good",56),("law",57)]
def F:List String:=FL.map (·.1)
noncomputable def O:Ow:=⟨[("Hoard","__init__","Hoard.__init__"),("Hoard","copied","Hoard.copied"),("Hoard","held","Hoard.held"),("Hoard","did","Hoard.did"),("Hoard","fault","Hoard.fault"),("Hoard","fault_of_in","Hoard.fault_of_in"),("Hoard","fee","Hoard.fee"),("Hoard","worth_spent","Hoard.worth_spent"),("Hoard","do","Hoard.do")],[("Hoard","unspent"),("Hoard","done")],[("Hoard","Hoard.__init__")]⟩
noncomputable def Wb7:Stmt->List Stmt
 |.ClassDef _ _ _ b _ _ _ _ _ _ _=>b
 |_=>[]
def Wa7(j:Nat):Stmt:=(Wb7 (top 35)).getD j (.Pass ⟨0,0,0,0⟩)
def Fk(f:Fn)(s:Stmt):Prop:=(defScope s).kind=.function/\(defScope s).isCoroutine=false/\(defScope s).isGenerator=false/\(nN f s).Nodup/\(nN f s).take (f.ps.map Ac).length=f.ps.map Ac/\(∀x∈f.ps.map Ac,(defScope s).names.lookup x=some .local\/(defScope s).names.lookup x=some .cell)/\(∀y∈(defScope s).names,y.2≠ .free)/\Xd f.body ⟨nN f s,(defScope s).names,true,B,F,O⟩ (V1 s)=true
def Fk.sc{f:Fn}(k:Fk f s):Ws (nN f s) (f.ps.map Ac) (defScope s):=⟨k.1,k.2.1,k.2.2.1,k.2.2.2.1,k.2.2.2.2.1,k.2.2.2.2.2.1,k.2.2.2.2.2.2.1⟩
def Fk.ck{f:Fn}(k:Fk f s):Xd f.body ⟨nN f s,(defScope s).names,true,B,F,O⟩ (V1 s)=true:=k.2.2.2.2.2.2.2
open PySem L2 Mi PySem.W
def q:Program:={PySem.Challenge.pw_spentonce_k25_much with main:={PySem.Challenge.pw_spentonce_k25_much.main with body:=[0,2,3,4,6,7,8,10,11,12,13,14,16,17,18,19,20,21,22,23,24,25,26,27,28,29,31,32,33,34,35,36,37,38,40,41,42,43,44,45,46,47,48,49,50,51,52,53,54,55,56,57].map top}}
noncomputable abbrev kE(P:Ip)(x:Str)(t:Nat)(v:Value):Cc:=⟨PyData.keyHash P x,.str x t,v⟩
noncomputable abbrev yT(xs:List Value):E8:=⟨.type "tuple",none,.seq ⟨xs⟩ 0,#[]⟩
noncomputable abbrev yF(c:Int)(xs:List (Nat×Nat)):E8:=⟨.none,none,.fields ⟨xs.flatMap λp=>[.int p.1 0,.int c 0,.ref p.2]⟩,#[]⟩
noncomputable abbrev yD(xs:List Cc)(n:Nat):E8:=⟨.type "dict",none,.dict ⟨xs⟩ n,#[]⟩
noncomputable abbrev yA(c:String)(vs:List Value):E8:=⟨.type c,none,.fields ⟨vs⟩,#[]⟩
noncomputable abbrev cut:Str:="/claim/cut.py"
abbrev yC(n q:Str)(t l x u a:Nat)(f:Bool)(y:Nat)(vs:List Value):E8:=yA "code" ([.str n t,.str q (t+1),.str cut (t+2),.int l 0,.int x 0,.int 0 0,.int 0 0,.int u 0,.ref a,.bool f,.int 181 0,.ref (a+1),.none]++vs++[.int (t+3+y) 0,.int l 0,.str cut (t+4+y)])
structure Sm where
 m:Str
 k:Nat
 a:Nat
 t:Nat
 o:List E8
 e:List Cc
 c:List (Nat×Nat)
def dv(s:Stmt):Option (List Str):=(localNames (V7 s) (defScope s) (.stmts (V1 s))).map (·.1)
def dW(b:Str)(n:Str)(s:Stmt)(p:Pos)(P:Ip)(z:Sm):Sm:=
 let v:=dv s
 let y:=(v.getD []).length
 let w:=z.a+(match v with|some _=>4|none=>2)
 let f (g:Nat) (m c:Value):Data:=.func ⟨n,b++n,V7 s,.stmts (V1 s),defScope s,g,[],.none,.none,.none,m,none,c,.none,0⟩
 {z with
  a:=w+3
  t:=z.t+6+y
  o:=z.o++yT []::yF 0 []::(match v with|some v=>[yT ((v.zipIdx (z.t+3)).map λx=>.str x.1 x.2),yT []]|none=>[])++[⟨.none,none,f 0 .none .none,#[]⟩,
   yC n (b++n) z.t p.line (V7 s).args.length 3 z.a true y ((match v with|some _=>[.ref (z.a+2),.ref (z.a+3)]|none=>[.none,.none])++[.ref w]),⟨.type "function",none,f 3 (.str z.m z.k) (.ref (w+1)),#[]⟩]
  e:=z.e++[kE P n (z.t+5+y) (.ref (w+2))]
  c:=z.c++[(p.line,w+1)]}
def cW(n:Str)(l:Nat)(f bs j sub:List Value)(k:String)(xs:List (Str×List Value))(r:List Stmt)(h:List Str)(P:Ip)(z:Sm):Sm:=
 let a:=z.a
 let t:=z.t
 let i:=r.foldl (λz s=>(match s with|.FunctionDef m _ _ _ _ _ _ _ _ p=>dW (n++".") m s p P z|_=>z)) {z with a:=a+7,t:=t+12,o:=[],e:=[],c:=[]}
 let b:=i.a
 let u:=i.t+h.length+1
 let d:=u+2*xs.length
 let g:=[.ref (b+2)]
 let M:=kE P "__module__" (t+7) (.str z.m z.k)
 let F:=kE P "__firstlineno__" (t+11) (.int l (t+10))::i.e++[kE P "__static_attributes__" (u-1) (.ref b)]
 {z with
  a:=b+5+xs.length
  t:=d+3
  o:=z.o++yT f::yA "builtin_function_or_method" [.builtin "type.__prepare__",.type "type"]::yD (M::kE P "__qualname__" (t+9) (.str n (t+8))::F) (F.length+2)::yT []::yF 4 i.c::yC n n (t+2) l 0 0 (a+3) false 0 [.none,.none,.none]::
   ⟨.type "frame",none,.plain,#[some (.ref (a+5)),some (.ref 3),some (.ref (a+2)),none,some (.str z.m z.k),none,some (.ref 0)]⟩::i.o++yT ((h.zipIdx i.t).map λx=>.str x.1 x.2)::
   yD (M::F++((xs.zipIdx.map λx=>kE P x.1.1 (u+2*x.2+1) (.ref (b+3+x.2)))++[kE P "__doc__" d .none])) (2+xs.length)::
   ⟨.type "type",none,.cls ⟨n,bs,g++j,b+1,n,true,[],sub,false,none,false⟩,#[match f with|[]=>none|_=>some (.ref a),none,some (.str n t),some (.str n (t+8)),some (.builtin k),some (.bool true)]⟩::
   (xs.zipIdx.map λx=>yA "getset_descriptor" (.str x.1.1 (u+2*x.2)::g++x.1.2))++[yA "super" (g++g++g),yA "builtin_function_or_method" (.builtin "object.__init_subclass__"::g)]
  e:=z.e++[kE P n (d+2) (.ref (b+2))]
  c:=z.c++[(l,a+5)]}
noncomputable def vw:Str×List Value:=("__weakref__",[.builtin "ExceptionGroup.__weakref__",.none])
def sW(P:Ip)(z:Sm)(s:Stmt):Sm:=match s with
 |.FunctionDef n _ _ _ _ _ _ _ _ p=>dW "" n s p P z
 |.Assign [.Name x _] (.Constant (.int i) _ _) _=>{z with e:=z.e++[kE P x (z.t+1) (.int i z.t)],t:=z.t+2}
 |.Assign _ (.Constant (.str v) _ _) _=>{z with m:=v,k:=z.t,t:=z.t+2}
 |.Assign [.Name x _] (.Tuple d _ _) _=>{z with a:=z.a+1,t:=z.t+d.length+1,o:=z.o++[yT ((d.zipIdx z.t).map λe=>match e.1 with|.Constant (.str v) _ _=>.str v e.2|_=>.none)],e:=z.e++[kE P x (z.t+d.length) (.ref z.a)]}
 |.Assign [.Name x _] (.Dict c f _) _=>{z with a:=z.a+1,t:=z.t+3*c.length+1,o:=z.o++[yD (((c.zip f).zipIdx).map λe=>match e.1 with|(some (.Constant (.str v) _ _),.Constant (.int i) _ _)=>kE P v (z.t+2*e.2) (.int i (z.t+2*e.2+1))|_=>kE P "" 0 .none) c.length],e:=z.e++[kE P x (z.t+3*c.length) (.ref z.a)]}
 |.ClassDef n bs _ b _ _ _ _ _ g p=>(let T:=[.type "ValueError",.type "Exception",.type "BaseException",.type "object"]
  match bs with
  |[]=>cW n p.line [] [.type "object"] [.type "object"] [] "object.__new__" [("__dict__",[.builtin "function.__dict__",.builtin "function.__dict__#set"]),vw] b g P z
  |.Name "ValueError" _::_=>cW n p.line [.type "ValueError"] [.type "ValueError"] T [.ref 44,.ref 56] "ValueError.__new__" [vw] [] [] P z
  |_=>cW n p.line [.ref 31] [.ref 31] (.ref 31::T) [] "ValueError.__new__" [] [] [] P z)
 |_=>z
def hp(P:Ip)(z:Sm):PySem.Heap:=⟨⟨boot_o_0 P::boot_o_1 P::boot_o_2 P::yD (kE P "__name__" 165 (.str z.m z.k)::z.e) (z.e.length+1)::boot_o_4 P::boot_o_5 P::boot_o_6 P::boot_o_7 P::boot_o_8 P::boot_o_9 P::boot_o_10 P::yT []::yF 0 z.c::yC "<module>" "<module>" 182 1 0 0 11 false 0 [.none,.none,.none]::
 ⟨.type "frame",none,.plain,#[some (.ref 13),some (.ref 3),some (.ref 3),none,some (.str "__main__" 164),none,some (.ref 0)]⟩::z.o⟩,(boot_heap P).life⟩
noncomputable abbrev bd:List Stmt:=behindTheImports PySem.Challenge.pw_spentonce_k25_much
def zs(P:Ip)(n:Nat):Sm:=(bd.take n).foldl (sW P) ⟨"__main__",164,15,187,[],[kE P "__doc__" 166 .none,kE P "__package__" 167 .none,kE P "__loader__" 168 (.builtin "__main__.__loader__#opaque"),kE P "__spec__" 169 .none,kE P "__annotations__" 170 (.ref 6),kE P "__builtins__" 171 (.ref 4),kE P "__file__" 173 (.str cut 172),kE P "__cached__" 174 .none],[]⟩
def hF(P:Ip):PySem.Heap:=hp P (zs P 58)
noncomputable def as:List Addr:=[2,3,15,17,18,20,21,22,29,30,31,32,35,42,43,44,47,54,55,56,59,61,62,64,65,66,69,70,71,74,75,76,78,79,81,82,83,85,86,88,89,90,93,94,95,97,98,100,101,102,105,106,107,108,109,111,112,114,115,116,118,119,121,122,123,125,126,128,129,130,132,133,135,136,137,139,140,142,143,144,146,147,149,150,151,153,154,156,157,158,160,161,163,164,165,167,168,170,171,172,174,175,177,178,186,188,189,191,192,193,195,196,198,199,200,202,203,205,206,207,209,210,212,213,214,216,217,219,220,221,223,224,226,227,228,230,231,233,234,235,237,238,240,241,242,245,246,247,250,251,252,254,255,257,258,259,260,261,262,263,266,269,270,271,273,274,276,277,278,281,282,283,285,286,288,289,290,292,293,295,296,297,299,300,302,303,304,307,308,309,311,312,314,315,316,318,319,321,322,323,325,326,328,329,330,333,334,335,338,339,340,343,344,345,347,348,350,351,352,355,356,357,360,361,362,364,365,367,368,369,371,372,374,375,376,378,379,381,382,383,385,386,388,389,390,393,394]
def K(P:Ip):Ag:=as.map λa=>(a,(hF P).objs.getD a (yT []))
noncomputable def loose:List Str:=["TAKEN"]
def asK:∀P,as=(K P).map (·.1):=λ_=>by kernel_rfl
def said:PySem.Challenge.rw_spentonce_k25_much.wellSaid=true:=by kernel_rfl
noncomputable def env:Env:={scope:=PySem.Challenge.pw_spentonce_k25_much.main.scope,locals:=mainNs,globals:=mainNs,cells:=[],code:=.ref 13,frame:=some 14}
abbrev cd:Code:=.body bd env
abbrev sh(w:World)(i:Nat)(os:OsState):Shared:=⟨hp w.params (zs w.params i),⟨[]⟩,⟨0,0,0,0⟩,(zs w.params i).t,os⟩
noncomputable abbrev an:Option Value:=some (.ref 6)
def Jzs(w:World):(λos=>topGo Mx PySem.Challenge.pw_spentonce_k25_much w (nat_lit 11) an (nat_lit 12) ⟨boot_heap w.params,⟨[]⟩,boot_drawn,boot_toks,os⟩ (topStub PySem.Challenge.pw_spentonce_k25_much))=λos=>some (sh w 0 os,(⟨denote Mx cd,cd,⟨0,0,0,0⟩,[topFrame ⟨0,0,0,0⟩]⟩:Thread)):=by kernel_rfl
def Js6(w:World):(λos=>segRun Mx PySem.Challenge.pw_spentonce_k25_much w (nat_lit 11) an (nat_lit 1) (nat_lit 1) (sh w 0 os) (blockOf bd env cd ⟨0,0,0,0⟩ [topFrame ⟨0,0,0,0⟩]))=λos=>some (.next,sh w 0 os,cd,(⟨0,0,0,0⟩:Pos)):=by kernel_rfl
abbrev rC(i j n:Nat)(p a:Pos)(w:World):Prop:=(λos=>segRun Mx PySem.Challenge.pw_spentonce_k25_much w (nat_lit 11) an (nat_lit 1) n (sh w i os) (piecesOf ((bd.drop i).take j) env cd p [topFrame ⟨0,0,0,0⟩]))=λos=>some (.next,sh w (i+j) os,cd,a)
def r_0(w:World):rC 0 19 (nat_lit 945) ⟨0,0,0,0⟩ ⟨47,0,47,4⟩ w:=by kernel_rfl
def Wc0(w:World):rC 19 16 (nat_lit 507) ⟨47,0,47,4⟩ ⟨132,0,132,4⟩ w:=by rw[<-World.withFollow_self w "special-get-raises"];cases w.params.followText "special-get-raises"<;>kernel_rfl
def Wcz(w:World):rC 35 17 (nat_lit 989) ⟨132,0,132,4⟩ ⟨308,0,319,56⟩ w:=by kernel_rfl
def Wcy(w:World):rC 52 6 (nat_lit 182) ⟨308,0,319,56⟩ ⟨364,0,389,15⟩ w:=by kernel_rfl
def Jzt(w:World):(λos=>topRun Mx PySem.Challenge.pw_spentonce_k25_much w (nat_lit 11) an (nat_lit 2) (sh w 58 os) ⟨doneF .next,cd,⟨364,0,389,15⟩,[topFrame ⟨0,0,0,0⟩]⟩)=λos=>some (⟨hF w.params,⟨[]⟩,⟨0,0,0,0⟩,nat_lit 747,os⟩:Shared):=by kernel_rfl
def J0v:bd=(bd.drop 0).take 19++((bd.drop 19).take 16++((bd.drop 35).take 17++((bd.drop 52).take 6++[]))):=by kernel_rfl
def Wcx(w:World)(os:OsState):topRun Mx PySem.Challenge.pw_spentonce_k25_much w (nat_lit 11) an (nat_lit 2638) ⟨boot_heap w.params,⟨[]⟩,boot_drawn,boot_toks,os⟩ (topStub PySem.Challenge.pw_spentonce_k25_much)=some ⟨hF w.params,⟨[]⟩,⟨0,0,0,0⟩,nat_lit 747,os⟩:=by
 refine go_top (congrFun (Jzs w) os) (piece_block (N:=2625) (congrFun (Js6 w) os) ?_);have h:=Rm (congrFun (r_0 w) os) (Rm (congrFun (Wc0 w) os) (Rm (congrFun (Wcz w) os) (Rm (congrFun (Wcy w) os) (piece_nil (congrFun (Jzt w) os)))));rw[<-J0v]at h;exact h
def left:LeftO PySem.Challenge.pw_spentonce_k25_much q loose (λs:Shared=>xlAt q [] s&&recOk [] s) (λs:Shared=>as.map s.heap.get?) (λw=>(K w.params).map λp=>some p.2) 5356:=
 LeftO.of_pieces (g0:=true) (boot_open (by kernel_rfl) (by decide) (λ_=>rfl)) (λ_=>by kernel_rfl) Wcx (by decide) λw=>by kernel_rfl
def dL:U6:=⟨"law",V7 (top 57),V1 (top 57),defScope (top 57),⟨364,0,389,15⟩⟩
section
variable {w:World} {mg:Str->Option Value} {h:Heap}
abbrev fa(P:Ip)(i:Nat):Nat:=(zs P (i+1)).a-1
abbrev fO(n x:Str)(s:Stmt)(z:Sm)(a:Nat):E8:=⟨.type "function",none,.func (fnOf n x (V7 s) (V1 s) (defScope s) .none .none .none (.str z.m z.k) none (.ref (a-1)) .none),#[]⟩
def fe(P:Ip)(x:String)(i:Nat)(e:nsIn (K P) Bg (Ac x)=some (some (.ref (fa P i))))(l:(K P).lookup (fa P i)=some (fO (Ac x) (Ac x) (top i) (zs P i) (fa P i)))(c:Ia (K P) (.ref (fa P i-1)) (Ac x)=true)(k:D6 (K P) (.ref (fa P i))=true):FE (K P) (Ac x) (top i):=⟨_,_,_,_,_,_,_,_,_,_,e,l,c,k⟩
noncomputable def ma(m:String):Nat×Nat×String:=([("__init__",192,0,"Hoard.__init__"),("copied",199,1,"Hoard.copied"),("held",206,2,"Hoard.held"),("did",220,4,"Hoard.did"),("fault",227,5,"Hoard.fault"),("fault_of_in",234,6,"Hoard.fault_of_in"),("fee",241,7,"Hoard.fee"),("worth_spent",246,8,"Hoard.worth_spent"),("do",251,9,"Hoard.do")].lookup m).getD (0,0,"")
def me(P:Ip)(m:String)(n:nsIn (K P) Bg "Hoard"=some (some (.ref 261)))(e:Ds (K P) (.ref 261) (Ac m)=some (some (.ref (ma m).1)))(l:(K P).lookup (ma m).1=some (fO (Ac m) (Ac (ma m).2.2) (Wa7 (ma m).2.1) (zs P 35) (ma m).1))(c:Ia (K P) (.ref ((ma m).1-1)) (Ac (ma m).2.2)=true)(k:D6 (K P) (.ref (ma m).1)=true)(f:isFn (K P) (.ref (ma m).1)=true):MF (K P) "Hoard" (Ac m) (Ac (ma m).2.2) (Wa7 (ma m).2.1):=⟨_,_,_,_,_,_,_,_,_,_,_,n,e,l,c,k,f⟩
def cf(P:Ip):CF (K P) "Hoard":=⟨261,by kernel_rfl,by kernel_rfl,by kernel_rfl,by kernel_rfl,by kernel_rfl⟩
def fes(P:Ip):∀y∈FL,FE (K P) (Ac y.1) (top y.2):=by
 intro y a;simp only[FL,Am,Bf,or_false]at a;rcases a with rfl|rfl|rfl|rfl|rfl|rfl|rfl|rfl|rfl|rfl|rfl|rfl|rfl|rfl|rfl|rfl|rfl|rfl|rfl|rfl|rfl|rfl|rfl|rfl|rfl|rfl|rfl|rfl|rfl|rfl|rfl|rfl|rfl|rfl|rfl|rfl|rfl|rfl|rfl<;>exact fe _ _ _ (by kernel_rfl) (by kernel_rfl) (by kernel_rfl) (by kernel_rfl)
def fns(d:(K w.params).In h)(f:h.Ns Bg mg):∀x∈F,∃a g,FnB (K w.params) T B F O x a g/\mg (Ac x)=some (.ref a):=by
 intro x i;obtain⟨y,c,rfl⟩:=Bd.mp i;have e:=fes w.params y c;simp only[FL,Am,Bf,or_false]at c;rcases c with rfl|rfl|rfl|rfl|rfl|rfl|rfl|rfl|rfl|rfl|rfl|rfl|rfl|rfl|rfl|rfl|rfl|rfl|rfl|rfl|rfl|rfl|rfl|rfl|rfl|rfl|rfl|rfl|rfl|rfl|rfl|rfl|rfl|rfl|rfl|rfl|rfl|rfl|rfl<;>
  (refine Jye d f e rfl (Fk.sc ?k) (Fk.ck ?k) ?b;(case k=>exact⟨rfl,rfl,rfl,by decide+kernel⟩);(case b=>intro _ _ _ _ _ _;first|exact Wal λ_=>rfl|exact Wak λ_ _=>rfl|exact Waj λ_ _ _=>rfl|exact Wai λ_ _ _ _=>rfl|exact Wah λ_ _ _ _ _=>rfl|exact Wbs λ_ _ _ _ _ _ _=>rfl))
def mts:∀c m f,(c,m,f)∈O.mt->∃a e Ca,FnB (K w.params) T B F O f a e/\nsIn (K w.params) Bg (Ac c)=some (some (.ref Ca))/\L2.Cls (K w.params) Ca/\L2.Meth (K w.params) Ca (Ac m) a:=by
 intro c m f d;simp only[O,Am,Bf,or_false,Ln]at d;rcases d with⟨rfl,rfl,rfl⟩|⟨rfl,rfl,rfl⟩|⟨rfl,rfl,rfl⟩|⟨rfl,rfl,rfl⟩|⟨rfl,rfl,rfl⟩|⟨rfl,rfl,rfl⟩|⟨rfl,rfl,rfl⟩|⟨rfl,rfl,rfl⟩|⟨rfl,rfl,rfl⟩<;>
  (refine Jxn (cf _) (me _ _ (by kernel_rfl) (by kernel_rfl) (by kernel_rfl) (by kernel_rfl) (by kernel_rfl) (by kernel_rfl)) rfl (Fk.sc ?k) (Fk.ck ?k) ?b;(case k=>exact⟨rfl,rfl,rfl,by decide+kernel⟩);(case b=>intro _ _ _ _ _ _;first|exact Wal λ_=>rfl|exact Wak λ_ _=>rfl|exact Waj λ_ _ _=>rfl|exact Wai λ_ _ _ _=>rfl|exact Wah λ_ _ _ _ _=>rfl|exact Wbs λ_ _ _ _ _ _ _=>rfl))
def Jbj{p:Prop}[Decidable p]{c:Type}{a d:c}{b:Option c}(h:(if p then some a else b)=some d):(p/\a=d)\/b=some d:=by by_cases e:p<;>simp_all
def txt(b:(K w.params).In h)(e:h.Ns Bg mg):Txt (K w.params) mg T G B F O where
 fns:=fns b e
 np:=by kernel_rfl
 blt:=by
  intro x i;simp only[B,Am,Bf,or_false]at i;rcases i with rfl|rfl|rfl|rfl|rfl|rfl|rfl|rfl|rfl|rfl|rfl|rfl|rfl|rfl<;>exact J0j b e (by kernel_rfl)
 gl:=by
  intro x d hd;unfold G at hd;rcases Jbj hd with⟨rfl,rfl⟩|hd
  .exact Jko b e (t:=317) (by kernel_rfl)
  rcases Jbj hd with⟨rfl,rfl⟩|hd
  .exact Jyd b e (Juh (a:=108) (by kernel_rfl) (by unfold Wc;kernel_rfl))
  rcases Jbj hd with⟨rfl,rfl⟩|hd
  .exact Jko b e (t:=325) (by kernel_rfl)
  rcases Jbj hd with⟨rfl,rfl⟩|hd
  .exact Jyd b e (Jug ["height","age","worth","ins","outs"] (a:=107) (its:=⟨[(.str "height" 319),(.str "age" 320),(.str "worth" 321),(.str "ins" 322),(.str "outs" 323)]⟩) (n:=0) (sl:= #[]) (by kernel_rfl) (by kernel_rfl) (by kernel_rfl))
  rcases Jbj hd with⟨rfl,rfl⟩|hd
  .exact Jko b e (t:=456) (by kernel_rfl)
  rcases Jbj hd with⟨rfl,rfl⟩|hd
  .exact Jko b e (t:=452) (by kernel_rfl)
  rcases Jbj hd with⟨rfl,rfl⟩|hd
  .exact Jko b e (t:=458) (by kernel_rfl)
  rcases Jbj hd with⟨rfl,rfl⟩|hd
  .exact Jko b e (t:=454) (by kernel_rfl)
  cases hd
 mts:=mts
 fds:=by
  intro c f g;simp only[O,Am,Bf,or_false,Ln]at g;rcases g with⟨rfl,rfl⟩|⟨rfl,rfl⟩<;>exact Jyg (cf _) (Jz7 (Ca:=261) (by kernel_rfl) (by kernel_rfl))
 nws:=by
  intro c f g;simp only[O,Am,Bf,or_false,Ln]at g;obtain⟨rfl,rfl⟩:=g;exact Jxj b e (cf _) ⟨261,by kernel_rfl,by kernel_rfl,by kernel_rfl⟩ (mts _ _ _ (by simp[O]))
end
end K25
open PySem PySem.W PyProof.Rows
set_option maxRecDepth 100000 in
set_option maxHeartbeats 0 in
theorem PySem.Challenge.cw_spentonce_k25_much_holds : PySem.Challenge.rw_spentonce_k25_much.Holds := by
 refine Mi.holds (q:=K25.q) (d:=K25.dL) K25.said K25.asK K25.left (by kernel_rfl) (by kernel_rfl) (by kernel_rfl) (by decide+kernel) ⟨rfl,rfl,rfl,rfl,rfl,by decide+kernel⟩ ?hw ?hc
 (case hw=>w_witness2)
 exact Mi.walk (l:=PySem.Challenge.rw_spentonce_k25_much) (T:=K25.T) (G:=K25.G) (B:=K25.B) (F:=K25.F) (O:=K25.O) (x:="_law_script") (W:=100) (n:=30) rfl rfl (λw h Y=>Y) ⟨rfl,by decide,by decide,rfl⟩ rfl (by decide) ⟨_,rfl,rfl⟩ (λ_ _ _ KX hG=>K25.txt KX hG) K25.run
