import PyProof.Rows.All
import Wide.All
import OpenK.AllK
import Wide.FinOn
import Lean
import PyProof.EqAt
import PyProof.EqKinds
import PyProof.TupleCall
import PyProof.NeKinds
import PyProof.Rows.SortShellK
import PyProof.Rows.SortStr
import KE.KSortTup
import PyProof.Rows.SetFrom
import PyProof.SetKind
import PyProof.DictKinds
import PyProof.CollectWalk
import PyProof.CollectStr
import PyProof.DictIter
import PyProof.StrLawsIn
import PyProof.DictWalks
import KE.KDictList
import KE.KSortKey
import PyProof.TupleOfSeq
import PySem.Challenge.RW_wordmelt_k40_whole_grown
set_option Elab.async false
set_option linter.all false
set_option maxRecDepth 100000
set_option maxHeartbeats 4000000
open PySem renaming wpAny_bind->Z0,wpAny_pure->Z4,strKind->ZT,FuncData->Jc,lookup_relabel_local->Jk,wpAny_newObj_type->Jq,codeAny_builtin->Ju,wpAny_holding->Jx,wpAny_mono->Y1,wpAny_call_entry->Yh,wpAny_setState_of->Yj,plainId_quiet->Yk,mem_of_lookup->Yu,PassesOwn->YC,wpAny_callSpecial?_slot->YH,wpAny_tryCatch->U5,wpAny_seqItems->U6,wpAny_setField->Us,NameKind->UG,wpAny_updateSeq->Ga,wpAny_rule->Gb,wpAny_loadPart'->Gc,wpAny_Call_Name_kw->GG,wpAny_passesOwn->GT,fits_of_scanBound->N7,wpAny_askSetting->Nt,wpAny_letGo->NL,wpAny_pyIter_tuple->M6,wpAny_typeOf->ML,wpAny_typeNameOfWhole_keyiter->Q0,wpAny_field->QN,wpAny_runValue->Wp,wpAny_truthy_bool->WO,wpAny_pyIter_list->WP,wpAny_pyIter_enum->WQ,wpAny_of_eq->Dm,wpAny_newList->Dn,wpAny_attempt->Do,wpAny_execs_nil->BD,codeAny_mono->Fb,builtinLookup_eq_fast->Fc,DictEntry->Fi,wpAny_setEntries_of->CG,Value->Z0D,wpAny_pyIter_slot->Z1E,wpAny_load->Z1F,concat_meets->Z2Y,wpAny_forIn_list->Z3u,noFill_tuple_add->Z3w,typeLookup_type->Z50,wpAny_newTuple->Z7h,wpAny_fieldsOf->Z7i,isSubtype_type->Z7l,wpAny_comprehension_free->Z7x,seq_tuple_add->Zac,call->Zah,wpAny_pyNext_enum_endD->Zas,richCompare_meets_room->ZaI,seqSlot_of->Zcs,wpAny_isOneOf_keyiter->ZcD,wpAny_eqIsQuiet_tuple->ZcE,codeAny_call_builtin->Zf3,wpAny_storeSet_of->ZhC,wpAny_setEpoch_of->ZhD,wpAny_sequenceKey->ZhE,wpAny_dictEntries->ZhF,wpAny_call->ZhG,wpAny_assign_Name->ZhH,wpAny_Name->ZhI,typeIs_str->ZhJ,typeIs_int->ZhK,slot_list_getitem->ZhN,call_meets->ZhQ,wpAny_pyHash_str->Zi5,wpAny_isInstance->Zi6,wpAny_execs_cons->Zi7,wpAny_eqBool_str->Zi8,wpAny_eqBool_int->Zi9,wpAny_Dict_empty->Zia,wpAny_specialOf->Zjb,wpAny_dictEpoch->Zjc,codeAny_of_tree->Zju,sliceRange_one->ZjO,entryFor_alias->ZjX,wpAny_standAt->Zk1,wpAny_handled->Zk2,pick_run->Zk4,intBits_le_64->Zk6,evalPart_none->Zk7
open List renaming mem_cons_self->Z1,mem_cons_of_mem->Z2,length_map->Z5,set_cons_succ->Z9,set_cons_zero->Zb,mem_cons->Zc,getElem?_eq_getElem->Zd,length_cons->Zf,getElem?_cons_zero->Zg,append_assoc->Zi,length_append->Zj,replicate->Zm,take_append_drop->Zp,size_toArray->Zr,mem_append_right->Zs,getElem?_cons_succ->Zt,mem_map->Zu,map_cons->Zw,length_take->Zx,length_drop->ZI,mem_of_getElem?->ZJ,cons_append->ZO,mem_append->ZR,mem_singleton->ZS,nil_append->ZW,map_map->J1,range->Ja,isPrefixOf_iff_prefix->Jf,getElem?_eq_some_iff->Ji,map_congr_left->Jo,getElem?_append_right->Jp,mem_append_left->Js,mem_range->Jv,getElem?_map->Jw,Pairwise->Jz,Perm->JB,getElem?_append_left->JI,drop_of_length_le->JO,mem_of_mem_drop->JQ,length_range->JS,drop_drop->JV,replicate_succ->JZ,length_replicate->Y8,lookup_cons->Yb,take_sublist->Ye,length->Yi,pairwise_cons->Yn,take_of_length_le->Yp,drop_eq_getElem_cons->Yr,perm_append_comm->Yw,drop_sublist->Yx,pairwise_append->YG,pairwise_map->YS,getElem_of_mem->YT,nodup_nil->YU,map_append->YZ,foldl_cons->U0,all_eq_true->U8,mem_of_mem_take->Uc,getElem?_replicate->Ui,all_cons->Uj,range'->Uq,mem_reverse->UD,extract_eq_take_drop->UR,flatten_cons->UX,ext_getElem?->UY,append_nil->UZ,filterMap_cons->G8,eq_nil_of_length_eq_zero->Gh,drop_append_of_le_length->Gi,getElem?_set_self->Go,prefix_append_right_inj->Gp,nodup_cons->GB,mem_filter->GC,getElem?_eq_none->GD,cons_lt_cons_iff->GE,map->GJ,getElem?_set_ne->GS,take_length->N9,filter_cons->Na,not_lt->Nn,mergeSort_perm->No,getElem?_take_of_lt->Nq,zip_cons_cons->NF,prefix_append->NG,mem_filterMap->NH,length_nil->NI,find?_cons->NJ,nodup_append->M2,mem_range'_1->M3,getElem_take->M4,getElem_drop->M5,length_filter_le->Mc,eq_nil_iff_forall_not_mem->Md,drop_eq_nil_iff->MD,of_mem_zip->MV,mem_map_of_mem->MW,length_set->MX,forIn_cons->MY,getD_eq_getElem?_getD->Qh,toArray->Qn,pairwise_iff_getElem->QH,lt_irrefl->QJ,drop_zero->QK,reverse_perm->W0,pairwise_mergeSort->Wj,any_cons->Wk,not_mem_nil->WI,length_singleton->Di,all_map->Dj,take_take->DZ,drop_take->B5,take_succ_cons->Bx,map_id->By,length_pos_iff->Bz,take_add->Fp,length_range'->Fq,take_append_of_le_length->CU,prefix_refl->CV,mem_flatMap->CW,le_antisymm->CY,getElem_mem->CZ,drop_length->Z00,any_eq_true->Z01,zip_append->Z1C,length_eraseIdx_of_lt->Z1N,getElem?_take_eq_none->Z1O,take_zero->Z3p,take_succ->Z3q,drop_left->Z3r,length_filterMap_le->Z3A,pairwise_singleton->Z4N,reverse_singleton->Z6a,pairwise_lt_range->Z6b,map_nil->Z7c,getElem?_toArray->Z7d,reverse_reverse->Z7q,toList_toArray->Za2,reverse_append->Za3,map_eq_nil_iff->Za4,map_filterMap->Zal,getElem?_drop->Zam,find?_eq_none->Zan,filterMap_map->Zao,push_toArray->Zcu,foldl_append->Zcv,flatMap_cons->Zcw,range'_succ->Zdq,map_snd_zip->Zdr,range_succ->Zff,length_zip->Zfg,head?_cons->Zfh,filter_map->Zfi,take_nil->Zht,nil_perm->Zhu,any_map->ZhU,lookup->Zj6,foldl->ZjB,cons->ZjZ
open PySem.Heap renaming get?_push_of_some->Z3,get?_push_size->Zl,lt_size->Zy,SameBut->J2,get?_update_ne->JJ,get?_update_self->Y9,get?_update_other->YO,size_push->N3,size_update->My,get?_none_of_le->ME,get?_push_ne->W1,ExtBut->Wl
open Nat renaming le_refl->Z7,ne_of_lt->ZE,le_trans->ZF,lt_of_lt_of_le->ZG,zero_le->Jh,zero_add->JA,le_of_not_lt->Y2,not_lt_zero->Ya,lt_succ_of_lt->Yg,le_succ->Ym,le_of_lt->YA,lt_irrefl->YF,lt_succ_self->Ua,add_assoc->Uk,le_antisymm->G1,ne_of_gt->G5,lt_or_ge->G6,add_zero->G7,reduceSub->GM,reduceAdd->GN,lt_trichotomy->GO,pow_succ->Nr,pos_of_ne_zero->NP,lt_of_le_of_lt->NQ,lt_trans->Ml,reduceLeDiff->MB,lt_of_not_le->MC,mul_le_mul_right->MJ,sub_self->QE,mul_le_mul->QX,add_sub_cancel_left->WH,succ_ne_self->WN,succ_mul->Dr,mod_lt->DV,sub_le->CL,sub_zero->CT,two_pow_pos->Z1K,mod_mul->Z1L,min_eq_left->Z1M,not_lt->Z4M,mul_comm->Z7n,min_self->Z7o,le_of_eq->Z7p,pow_le_pow_right->Za1,add_le_add_left->Zak,sub_lt->Zdo,mod_eq_of_lt->Zfc,min_le_right->Zfd,le_add_right->Zfe,le_add_left->Zft,succ_pos->Zj4,pow_zero->Zj5,mod_one->Zjx,min_def->Zjy,add_mod->Zjz
open Option renaming map_some->Z8,bind_some->Zn,some->ZY,getD_some->W5,bind_eq_bind->Z7b,getD_none->Zaj,pure_def->Zct,none->Zhs
open Array renaming length_toList->Zh,getElem?_eq_getElem->Zz,getElem?_toList->ZQ,toList_append->J9,getD_eq_getD_getElem?->Y7,toList_push->YQ,getElem?_eq_none->Ur,perm_iff_toList_perm->Uw,toList_reverse->US,getElem?_setIfInBounds_self_of_lt->Gz,getElem?_eq_some_iff->GK,toList_extract->GP,getElem?_setIfInBounds_ne->NY,mem_toList_iff->Mz,size_extract->Qi,forIn_toList->Qj,size_map->Qo,toList_inj->Wn,getElem?_extract->WJ,replicate->Z0J,toList_filterMap->Z4O,mem_of_getElem?->Z6d,size_append->Zaq,toList_map->ZcC,toList->ZhB,Perm->Zj9,ext->ZjD
open PyProof.Rows renaming wpS_bind->Zo,wpS_pure->ZA,wpS_forRange->Y0,slot_tuple_getitem->Y5,wpS_mono->UT,callWith_type1->G4,wpS_modify->N5,listUpdate_at->N6,SortKind->N8,get?_update_seq->M7,wpS_get->QM,size_push'->WT,listItems_at->BU,seqEpoch_at->CH,wpS_lift->Z02,lt_str->Z1A,lt_int->Z1B,pairsOf_toList->Z7j,subscriptTail_builtinR->ZaA,entry_tuple_getitem->Zfp,callWith_kw->Zfq,args_tuple_getitem->Zhp,getElem?_bubble->Zjs,entry_list_sort->Zjt,slot_list_sort->ZjN,slicePart_none->ZjP,tupleItemsOf_->Zk3,kws_cons->Zk5
open PySem.Str renaming ofString->Zq,length->MU
open Bool renaming false_eq_true->Zv,and_eq_true->ZP,false_ne_true->Jy,or_eq_true->Ys,or_eq_false_iff->MF,eq_iff_iff->MZ,not_eq_true'->W2,not_true->Wm,and_eq_false_iff->Dl,not_eq_false'->Fs,not_false->Z3t,false_and->Zfv,and_false->Zfw,or_false->Zhx,false_or->Zhy,or_true->Zi4
open PySem.W renaming keepIn->ZK,codeIn->ZL,nsIn->ZN,fnOf->ZU,mg_of->J0,mg_none_of->YY,methodObj->Fg,OpenLaw->CK,cellsFrom_some->Z3m,kdl_extend->Z7a,WalkO->Zdm
open PySem.Around renaming under_plainId->ZZ
open Option.some renaming inj->Jd,injEq->Jj
open PySem.Txt renaming startswith->Jn,mul->MA,find->MS,find3->Dq
open PySem.PassesOwn renaming never->JC
open List.Perm renaming append_left->JD,refl->Uv,append_right->G3,of_eq->Z7s,swap->Za5,cons->Za6
open PySem.Heap.SameBut renaming update->JF,refl->Dk
open PyProof.Rows.F renaming plain_set_update_loop->JK,entry_set_update_loop->YV
open PyProof.Rows.KeyOrd renaming kle_trans->JP,kle_of_klt->JR,kle_refl->Uo,klt_of_kle_of_klt->Z1Q,kle_antisymm->Z7e,klt->ZhW,kle->ZhX
open Int renaming toNat_natCast->JT,emod_lt_of_pos->UI,emod_nonneg->NR,toNat_of_nonneg->Fh,natCast_mul->Z1R
open PySem.Value renaming ref->Y6,type->Yo,none->YE,isStrOf->UC,isStrOf_shape->MR,int->WX,str->Ff,bool->Z3k,notImplemented->Z79,isInt->ZhS
open Sum renaming inr->Yl,inl->CJ
open PySem.Builtin.List renaming listExtendWith->Yv,listSameRef->MK,listTooLong->FM
open PySem.Obj renaming mapSeq->Yz,data_mapFields->U7,isFreed_of_fields->Mk,cls_mapFields->W6,putSet->Z4L,mapFields->ZhT
open List.Pairwise renaming imp_of_mem->YN,nil->U1,map->Z1P
open PySem.SetTable renaming below->U9,layClean->UQ,grown->GI,fits->QC,probe->CS,slot->Z1x,fill->Z1y,insertAt_perm->Z1H,relaid->Z9Z,laid->Zcq,has->Zdl
open ForInStep renaming yield->Ud
open PySem.F renaming slot_tuple_iterator_next->UF,plain_min_loop->Gq,plain_list_iadd->GY,called_set->NK,slot_dict_keyiterator_next->Q1,args_tuple_add_2->Ql,entry_tuple_add->QU,slot_tuple_mul->W3,slot_tuple_add->W4,args_tuple_iterator_next_1->DU,entry_tuple_iterator_next->DY,plain_proto_collect->B6,entry_proto_collect->B7,entry_list_iadd->Z0H,slot_tuple_rmul->Z1I,plainAttrs_list->Z1J,entry_min_loop->Z1T,plainAttrs_str->Z3n,type_str_find->Z3x,slot_str_find->Z3y,slot_int_rmul->Z3z,sub_list_frozenset->Zcz,slot_dict_iter->Zhv,slot_set_iter->ZhZ,plain_set_new->Zi0,sub_list_set->Zj8
open PySem.Builtin.Builtins renaming bindParams->G0
open PySem.Builtin.SmallTypes renaming nextOf->G9
open PySem.Builtin.Str renaming strSliceIndices->Gg
open PySem.Builtin.Slice renaming slicePlaces->Gr,sliceAdjust->Mm,sliceApplied->BC
open Ne renaming symm->Gx
open PySem.NameKind renaming free->Gy,cell->DW
open PySem.Builtin.Tuple renaming tupleExact->GF,tupleTooMany->M9,tupleCompareSizes->WZ,tupleItemsOf->BB
open PySem.SetTable.layClean renaming free->GH
open False renaming elim->Np
open Prod.mk renaming injEq->Mj
open Prod renaming ext->Qm,mk->Z4J
open PySem.SetTable.probe renaming go->WM
open PyProof.Rows.SortSt renaming mk'->WY
open PySem.SeqAt renaming EqAt->FK
open Sum.inr renaming inj->CI
open Or renaming inl->Z0E,inr->Zjw
open PySem.AutoSeq1 renaming sub_tuple_tuple->Z0I
open PySem.SetTable.below renaming go->Z1z
open PySem.Calls renaming Name_function_global->Z1D
open PySem.Walks renaming list->Z3j,tuple->Z7m
open PySem.Paired renaming length->Z3o,snoc->Zhr
open PyProof.Rows.IsTup renaming new->Z6c
open PySem.Builtin renaming sorted->Z7f,min->Zap
open Array.Perm renaming refl->Z7g
open List.cons renaming injEq->Z7r
open True renaming intro->Zco
open StateT renaming run_pure->Zcp
open Function renaming comp->Zcy
open PySem.Str.mk renaming injEq->Zfr
open PySem.W.WShape renaming has->ZhR
open PySem.W.WData renaming int->Zjv
open PySem.W.Looks renaming now->ZjA
open BEq renaming rfl->ZjC
open PySem.Data renaming seq->Zk8
abbrev Ps_:=Z0D->PySem.Shared->Prop
abbrev Pn_:=List (PySem.Addr×PySem.Obj)
abbrev Lu_:=List Z0D
abbrev Ls_:=List PySem.Str
abbrev Le_:=List PySem.Expr
abbrev Ai_:=Array (Int×Z0D)
abbrev Au_:=Array Z0D
abbrev Ak_:=Array PyProof.Rows.Keyed
abbrev Fg_:=PySem.W.Frag
theorem ob_ {α β:Type}{a:α}{f:α->Option β}:(some a).bind f=f a:=rfl
theorem gz_ {α:Type}{a:α}{l:List α}:(a::l)[0]?=some a:=rfl
theorem gs_ {α:Type}{a:α}{l:List α}{i:Nat}:(a::l)[i+1]?=l[i]?:=rfl
set_option bootstrap.genMatcherCode false
theorem q_(h:True:=by rfl):True:=h
theorem qa(h:True:=by decide):True:=h
theorem qb(h:True:=by first|exact .inl rfl|exact .inr rfl|assumption):True:=h
theorem qc(h:True:=by intro _;rfl):True:=h
theorem W_{p:Prop}(h:¬p->False):p:=Classical.byContradiction h
namespace L2
open PySem PySem.Spec PyProof.Rows
abbrev Key:=Sum Int Str
noncomputable def Z4a:Key->Value->Bool
 |.inl k,v=>ZhS k v
 |.inr x,v=>UC x v
noncomputable def ZjS (w:World):Key->Int
 |.inl k=>hashInt k
 |.inr x=>hashStr w x
theorem Uz:∀ {k:Key} {v:Value},Z4a k v=true->(∃ i t,k=CJ i/\v=WX i t)\/(∃ x t,k=Yl x/\v=Ff x t)
 |.inl i,v,h=>by
  obtain⟨t,e⟩:=Value.isInt_shape (k:=i) (v:=v) h
  exact .inl ⟨i,t,rfl,e⟩
 |.inr x,v,h=>by
  obtain⟨t,e⟩:=MR (x:=x) (v:=v) h
  exact .inr ⟨x,t,rfl,e⟩
theorem Z9f (i:Int)(t:Tok):Z4a (.inl i) (.int i t)=true:=by simp[Z4a,ZhS]
theorem Z9e (x:Str)(t:Tok):Z4a (.inr x) (.str x t)=true:=by simp[Z4a,UC]
theorem Zh7 (a b:Int):decide ((CJ a:Key)=CJ b)=(a == b):=by
 by_cases e:a=b
 ·subst e;simp
 ·have h:¬ (CJ a:Key)=CJ b:=fun q=>e (CJ.inj q)
  rw[decide_eq_false h]
  exact (beq_eq_false_iff_ne.mpr e).symm
theorem Zda (a b:Str):decide ((Yl a:Key)=Yl b)=decide (a=b):=by
 by_cases e:a=b
 ·subst e;simp
 ·have h:¬ (Yl a:Key)=Yl b:=fun q=>e (CI q)
  rw[decide_eq_false h,decide_eq_false e]
theorem Zh6 (a:Int)(b:Str):decide ((CJ a:Key)=Yl b)=false:=decide_eq_false (fun q=>nomatch q)
theorem Zh5 (a:Str)(b:Int):decide ((Yl a:Key)=CJ b)=false:=decide_eq_false (fun q=>nomatch q)
noncomputable def Gm (prog:Program)(w:World):PySem.KeyKind prog w Key where
 is:=Z4a
 hash:=ZjS w
 inj:=fun v a b ha hb=>by
  rcases Uz ha with ⟨i,t,rfl,rfl⟩|⟨x,t,rfl,rfl⟩
  ·rcases Uz hb with ⟨j,u,rfl,e⟩|⟨y,u,rfl,e⟩
   ·injection e with e1 _;rw[e1]
   ·exact nomatch e
  ·rcases Uz hb with ⟨j,u,rfl,e⟩|⟨y,u,rfl,e⟩
   ·exact nomatch e
   ·injection e with e1 _;rw[e1]
 byValue:=fun k v h=>by
  rcases Uz h with ⟨i,t,rfl,rfl⟩|⟨x,t,rfl,rfl⟩ <;> rfl
 pyHash:=fun hv h=>by
  rcases Uz hv with ⟨i,t,rfl,rfl⟩|⟨x,t,rfl,rfl⟩
  ·exact wpAny_pyHash_int h
  ·exact Zi5 h
 eqBool:=fun hu hv h=>by
  rcases Uz hu with ⟨i,t,rfl,rfl⟩|⟨x,t,rfl,rfl⟩
  ·rcases Uz hv with ⟨j,u,rfl,rfl⟩|⟨y,u,rfl,rfl⟩
   ·rw[Zh7] at h;exact Zi9 h
   ·rw[Zh6] at h;exact FK.int_str i t y u _ _ _ _ h
  ·rcases Uz hv with ⟨j,u,rfl,rfl⟩|⟨y,u,rfl,rfl⟩
   ·rw[Zh5] at h;exact FK.str_int x t j u _ _ _ _ h
   ·rw[Zda] at h;exact Zi8 h
 «strs»:=fun k x t v h=>by
  rcases Uz h with ⟨i,u,rfl,e⟩|⟨y,u,rfl,e⟩
  ·exact nomatch e
  ·injection e with e1 _
   subst e1
   cases v <;> rfl
theorem Z41 (prog:Program)(w:World)(i:Int)(t:Tok):(Gm prog w).is (.inl i) (.int i t)=true:=Z9f i t
theorem Z40 (prog:Program)(w:World)(x:Str)(t:Tok):(Gm prog w).is (.inr x) (.str x t)=true:=Z9e x t
inductive V where
 |non|bl (b:Bool)|int (i:Int)|str (x:Str)|byt (b:Array UInt8)|flt (b:UInt64)|ref (a:Addr)|ty (n:String)
 deriving DecidableEq
abbrev Lv_:=List V
def RelV:V->Value->Prop
 |.non,u=>u=YE
 |.bl b,u=>u=Z3k b
 |.int i,u=>∃ t,u=WX i t
 |.str x,u=>∃ t,u=Ff x t
 |.byt b,u=>∃ t,u=Value.bytes b t
 |.flt b,u=>∃ t,u=Value.float b t
 |.ref a,u=>u=Y6 a
 |.ty n,u=>u=Yo n
abbrev Uh:Lv_->List Value->Prop:=Paired RelV
theorem Uh.length {xs:Lv_}{us:Lu_}(r:Uh xs us):xs.length=us.length:=Z3o r
theorem Uh.get:∀ {xs:Lv_} {us:Lu_} {i:Nat} {x:V},Uh xs us->xs[i]?=some x->∃ u,us[i]?=some u/\RelV x u
 |_,_,_,_,.nil,e=>by simp at e
 |_,_,0,_,.cons r _,e=>by simp at e;subst e;exact⟨_,rfl,r⟩
 |_,_,i+1,x,.cons _ t,e=>by
  obtain⟨u,h1,h2⟩:=Uh.get (i:=i) (x:=x) t (by simpa using e)
  exact⟨u,by simpa using h1,h2⟩
theorem Uh.set(r:RelV x u):∀ {xs:Lv_} {us:Lu_} (i:Nat),Uh xs us->Uh (xs.set i x) (us.set i u)
 |_,_,_,.nil=>.nil
 |_,_,0,.cons _ t=>.cons r t
 |_,_,i+1,.cons q t=>.cons q (Uh.set r i t)
theorem Uh.append:∀ {xs ys:Lv_} {us ws:Lu_},Uh xs us->Uh ys ws->Uh (xs++ys) (us++ws):=by
 intro xs ys us ws h s
 induction h with
 |nil=>exact s
 |cons r t ih=>exact .cons r ih
theorem Uh.take:∀ {xs:Lv_} {us:Lu_} (n:Nat),Uh xs us->Uh (xs.take n) (us.take n)
 |_,_,0,_=>.nil
 |_,_,_+1,.nil=>.nil
 |_,_,n+1,.cons r t=>.cons r (Uh.take n t)
theorem Uh.drop:∀ {xs:Lv_} {us:Lu_} (n:Nat),Uh xs us->Uh (xs.drop n) (us.drop n)
 |_,_,0,r=>r
 |_,_,_+1,.nil=>.nil
 |_,_,n+1,.cons _ t=>Uh.drop n t
def Zhq:Option V->Option Value->Prop
 |some v,some u=>RelV v u
 |none,none=>True
 |_,_=>False
def KV {κ:Type}:List (κ×V)->List (κ×Value)->Prop:=Paired fun (p:κ×V) (q:κ×Value)=>p.1=q.1/\RelV p.2 q.2
noncomputable def kV:Key->V
 |.inl i=>.int i
 |.inr x=>.str x
inductive HO where
 |lst (xs:Lv_)
 |tup (xs:Lv_)
 |dK (kvs:List (Key×V))|dT (kvs:List (List Key×V))
 |set (S:Int->Bool) (n:Nat)
 |ins (C dx:Addr) (fs:List (Str×V))
 |own (x:Addr)
 |xd (fs:List (Str×V))
 |met (f x:Addr)
 |rng (lo hi:Int)
 |frz (o:Obj) (u:HO)
 |tbl (ps:Au_)
 |ext (φ:Heap->Prop)
abbrev Hp:=Addr->Option HO
noncomputable def upd (H:Hp)(a:Addr)(o:HO):Hp:=fun b=>if b=a then some o else H b
theorem JL:upd H a o a=some o:=by unfold upd;rw[if_pos rfl]
theorem UA(h:b≠a):upd H a o b=H b:=by unfold upd;rw[if_neg h]
theorem ZiD {H:Hp}{a b:Addr}{o u:HO}(h:H a=some o)(h':H b=some u)(d:o≠u):a≠b:=by
 intro e;subst e;rw[h] at h';exact d (Jd h')
theorem Gw {H:Hp}{a b:Addr}{o:HO}(h:H a=some o)(h':H b=none):a≠b:=by
 intro e;subst e;rw[h] at h';cases h'
section
variable (P:Program)(w:World)
def MI (H:Hp)(h:Heap)(a:Addr):HO->Prop
 |.lst xs=>xs.length<=sizeLine/\∃ (its:Lu_) (n:Nat),Uh xs its/\h.get? a=some { cls:=.type "list",data:=.seq its.toArray n }
 |.tup xs=>xs.length<=sizeLine/\∃ its:Lu_,Uh xs its/\IsTup h a its.toArray
 |.dK kvs=>kvs.length<=sizeLine/\(a == sysModules)=false/\∃ vs,KV kvs vs/\h.DictOf (Gm P w) a vs
 |.dT kvs=>kvs.length<=sizeLine/\(a == sysModules)=false/\∃ xs:List (List Key×Addr×Value),
   Paired (fun (p:List Key×V) (q:List Key×Addr×Value)=>p.1=q.1/\H q.2.1=some (.tup (p.1.map kV))/\RelV p.2 q.2.2) kvs xs /\
   ∃ o es ep,h.get? a=some o/\o.ExactDict/\o.data=.dict es ep/\es.toList=xs.map (entryOfKey (tupleKind (Gm P w)))/\(xs.map (·.1)).Nodup
 |.set S n=>h.SetOf (intKind P w) a S n
 |.ins C dx fs=>H dx=some (.own a)/\fs.length<=1000/\dx≠a/\h.get? a=some (PySem.W.instObj C dx) /\
   ∃ mA,h.Ns1 dx mA/\(∀ f,Zhq (fs.lookup f) (mA f))/\PySem.Within mA (fs.map (·.1))
 |.own _=>∃ o,h.get? a=some o
 |.xd fs=>∃ mA,h.Ns1 a mA/\∀ f,Zhq (fs.lookup f) (mA f)
 |.rng lo hi=>∃ t u v,h.get? a=some { cls:=.type "range",data:=.fields #[.int lo t,.int hi u,.int 1 v] }
 |.frz o u=>h.get? a=some o/\MI H h a u
 |.tbl ps=>h.get? a=some { cls:=.none,data:=.fields ps }
 |.met f x=>h.get? a=some (Fg (.ref f) (.ref x))
 |.ext φ=>φ h/\(∃ o,h.get? a=some o)/\∀ h1 h2:Heap,φ h1->(∀ o,h1.get? a=some o->h2.get? a=some o)->φ h2
def HOk (H:Hp)(h:Heap):Prop:=∀ a o,H a=some o->MI P w H h a o
end
section
variable {P:Program}{w:World}{H H':Hp}{h h':Heap}{a:Addr}{o:HO}
theorem MI.lt (x:MI P w H h a o):a<h.objs.size:=by
 cases o with
 |lst xs=>obtain⟨_,_,_,_,e⟩:=x;exact Zy e
 |tup xs=>obtain⟨_,_,_,p⟩:=x;exact p.lt
 |dK kvs=>obtain⟨_,_,_,_,o,_,_,e,_⟩:=x;exact Zy e
 |dT kvs=>obtain⟨_,_,_,_,o,_,_,e,_⟩:=x;exact Zy e
 |set S n=>obtain⟨o,_,_,_,e,_⟩:=x;exact Zy e
 |ins C dx fs=>obtain⟨_,_,_,e,_⟩:=x;exact Zy e
 |own y=>obtain⟨_,e⟩:=x;exact Zy e
 |xd fs=>obtain⟨_,⟨_,_,_,e,_⟩,_⟩:=x;exact Zy e
 |rng lo hi=>obtain⟨_,_,_,e⟩:=x;exact Zy e
 |frz ob u=>obtain⟨e,_⟩:=x;exact Zy e
 |tbl ps=>exact Zy (show h.get? a=some _ from x)
 |met f y=>exact Zy (show h.get? a=some _ from x)
 |ext φ=>obtain⟨_,⟨_,e⟩,_⟩:=x;exact Zy e
theorem Paired.mapP:∀ {bK:List α} {bL:List β},Paired F bK bL->(∀ a b,F a b->G a b)->Paired G bK bL:=by
 intro bK bL h f
 induction h with
 |nil=>exact .nil
 |cons r t ih=>exact .cons (f _ _ r) ih
theorem MI.stay (x:MI P w H h a o)(k:∀ b u,(b=a\/H b=some (.own a))->h.get? b=some u->h'.get? b=some u)
  (ho:∀ b,H b=some (.own a)->H' b=some (.own a)) (ht:∀ b xs,H b=some (.tup xs)->H' b=some (.tup xs)):MI P w H' h' a o:=by
 induction o with
 |lst xs=>obtain⟨z,its,n,r,e⟩:=x;exact⟨z,its,n,r,k _ _ (.inl rfl) e⟩
 |tup xs=>obtain⟨z,its,r,ob,e,c⟩:=x;exact⟨z,its,r,ob,k _ _ (.inl rfl) e,c⟩
 |dK kvs=>obtain⟨z,y,vs,r,ob,es,ep,e,c⟩:=x;exact⟨z,y,vs,r,ob,es,ep,k _ _ (.inl rfl) e,c⟩
 |dT kvs =>
  obtain⟨z,y,xs,r,ob,es,ep,e,c⟩:=x
  exact⟨z,y,xs,Paired.mapP r fun p q z=>⟨z.1,ht _ _ z.2.1,z.2.2⟩,ob,es,ep,k _ _ (.inl rfl) e,c⟩
 |set S n=>obtain⟨ob,es,ep,t,e,c⟩:=x;exact⟨ob,es,ep,t,k _ _ (.inl rfl) e,c⟩
 |ins C dx fs =>
  obtain⟨d,z,ne,e,mA,⟨od,es,ep,e2,c⟩,r⟩:=x
  exact⟨ho _ d,z,ne,k _ _ (.inl rfl) e,mA,⟨od,es,ep,k _ _ (.inr d) e2,c⟩,r⟩
 |own y=>obtain⟨ob,e⟩:=x;exact⟨ob,k _ _ (.inl rfl) e⟩
 |xd fs=>obtain⟨mA,⟨od,es,ep,e,c⟩,r⟩:=x;exact⟨mA,⟨od,es,ep,k _ _ (.inl rfl) e,c⟩,r⟩
 |rng lo hi=>obtain⟨t,u,v,e⟩:=x;exact⟨t,u,v,k _ _ (.inl rfl) e⟩
 |frz ob u ih=>obtain⟨e,q⟩:=x;exact⟨k _ _ (.inl rfl) e,ih q⟩
 |tbl ps =>
  have e:h.get? a=some { cls:=.none,data:=.fields ps }:=x
  show h'.get? a=some { cls:=.none,data:=.fields ps }
  exact k a _ (.inl rfl) e
 |met f y =>
  have e:h.get? a=some (Fg (.ref f) (.ref y)):=x
  show h'.get? a=some (Fg (.ref f) (.ref y))
  exact k a _ (.inl rfl) e
 |ext φ=>obtain⟨p,⟨o,e⟩,st⟩:=x;exact⟨st _ _ p fun o q=>k _ _ (.inl rfl) q,⟨o,k _ _ (.inl rfl) e⟩,st⟩
theorem HOk.lt (x:HOk P w H h)(e:H a=some o):a<h.objs.size:=(x a o e).lt
theorem HOk.fresh (x:HOk P w H h)(e:h.objs.size<=a):H a=none:=by
 cases q:H a with
 |none=>rfl
 |some u=>exact absurd (ZG (x.lt q) e) (YF _)
theorem HOk.kept (x:HOk P w H h)(k:∀ b u,h.get? b=some u->h'.get? b=some u):HOk P w H h':=fun a o e =>
 (x a o e).stay (fun b u _ q=>k b u q) (fun _ q=>q) fun _ _ q=>q
theorem HOk.laid (x:HOk P w H h)(k:∀ b u,h.get? b=some u->h'.get? b=some u)(hp:h.objs.size<=a)(new:MI P w (upd H a o) h' a o):HOk P w (upd H a o) h':=fun b u e=>by
 have hn:=x.fresh hp
 by_cases hb:b=a
 ·subst hb;rw[JL] at e;cases e;exact new
 ·rw[UA hb] at e
  exact (x b u e).stay (fun c v _ q=>k c v q) (fun c q=>by rw[UA (Gw q hn)];exact q) fun c xs q=>by rw[UA (Gw q hn)];exact q
end
def Rd (H:Hp)(a:Addr)(u:HO):Prop:=H a=some u\/∃ o,H a=some (.frz o u)
theorem Rd.ok(r:Rd H a u)(x:HOk P w H h):MI P w H h a u:=by
 rcases r with r|⟨o,r⟩
 ·exact x a u r
 ·obtain⟨_,q⟩:=x a _ r
  exact q
def Mut:Option HO->Prop
 |some (.lst _)=>True
 |some (.dK _)=>True
 |some (.dT _)=>True
 |some (.set _ _)=>True
 |some (.ins _ _ _)=>True
 |some (.ext _)=>True
 |_=>False
section
variable {P:Program}{w:World}{H:Hp}{h h':Heap}{x e:Addr}{o':HO}
theorem HOk.write (ok:HOk P w H h)(mu:Mut (H x))(he:e=x\/H e=some (.own x))(k:∀ b u,b≠e->h.get? b=some u->h'.get? b=some u)(heo:∃ u,h'.get? e=some u)
  (new:MI P w (upd H x o') h' x o'):HOk P w (upd H x o') h':=fun b u q=>by
 have nown:∀ c y,H c=some (.own y)->c≠x:=fun c y r z=>by subst z;rw[r] at mu;exact mu
 have ntup:∀ c xs,H c=some (.tup xs)->c≠x:=fun c xs r z=>by subst z;rw[r] at mu;exact mu
 by_cases hb:b=x
 ·subst hb;rw[JL] at q;cases q;exact new
 ·rw[UA hb] at q
  by_cases hbe:b=e
  ·have q':H b=some (.own x):=by
    rcases he with z|z
    ·exact absurd (hbe.trans z) hb
    ·rw[hbe];exact z
   rw[q] at q';cases q'
   obtain⟨v,hv⟩:=heo
   exact⟨v,by rw[hbe];exact hv⟩
  ·refine (ok b u q).stay (fun c v hc r=>k c v ?_ r) (fun c r=>by rw[UA (nown c b r)];exact r) fun c xs r=>by rw[UA (ntup c xs r)];exact r
   rcases hc with rfl|hc
   ·exact hbe
   ·rintro rfl
    rcases he with z|z
    ·exact nown c b hc z
    ·rw[hc] at z;cases z;exact hb rfl
end
structure Un (fs ex:List Addr)(H H':Hp)(h h':Heap):Prop where
 keep:∀ b o,h.get? b=some o->H b=none->b∉fs->b∉ex->h'.get? b=some o
 slot:∀ b o,h.get? b=some o->H b=none->b∈fs->b∉ex->∃ sl,h'.get? b=some { o with slots:=sl }
 free:∀ b o,h.get? b=some o->H b=none->b∉ex->H' b=none
 there:∀ b o,h.get? b=some o->b∉ex->∃ o',h'.get? b=some o'
 tups:∀ b xs,H b=some (.tup xs)->H' b=some (.tup xs)
 frzs:∀ b o u,H b=some (.frz o u)->H' b=some (.frz o u)
 tbls:∀ b ps,H b=some (.tbl ps)->∃ more,H' b=some (.tbl (ps++more))
section
variable {fs fs' ex ex':List Addr}{H H1 H2:Hp}{h h1 h2 h':Heap}{a x e:Addr}{o:HO}
theorem Un.any (u:Un fs ex H H1 h h1)(q:h.get? b=some ob)(n:H b=none)(hx:b∉ex):∃ sl,h1.get? b=some { ob with slots:=sl }:=by
 by_cases hb:b∈fs
 ·exact u.slot b ob q n hb hx
 ·exact⟨ob.slots,u.keep b ob q n hb hx⟩
theorem Un.kept (k:∀ b u,h.get? b=some u->h'.get? b=some u):Un fs ex H H h h' :=
 ⟨fun b ob q _ _ _=>k b ob q,fun b ob q _ _ _=>⟨ob.slots,k b ob q⟩,fun _ _ _ n _=>n,fun b ob q _=>⟨ob,k b ob q⟩,fun _ _ q=>q,fun _ _ _ q=>q,fun _ ps q=>⟨#[],by rw[q];simp⟩⟩
theorem Un.refl:Un fs ex H H h h:=Un.kept fun _ _ q=>q
theorem Un.laid (k:∀ b u,h.get? b=some u->h'.get? b=some u)(hp:h.objs.size<=a)(hn:H a=none):Un fs ex H (upd H a o) h h' where
 keep:=fun b u q _ _ _=>k b u q
 slot:=fun b u q _ _ _=>⟨u.slots,k b u q⟩
 free:=fun b u q n _=>by rw[UA (ZE (ZG (Zy q) hp))];exact n
 there:=fun b u q _=>⟨u,k b u q⟩
 tups:=fun b xs q=>by rw[UA (Gw q hn)];exact q
 frzs:=fun b u xs q=>by rw[UA (Gw q hn)];exact q
 tbls:=fun b ps q=>⟨#[],by rw[UA (Gw q hn),q];simp⟩
theorem Un.write (mu:Mut (H x))(he:e=x\/H e=some (.own x))(k:∀ b u,b≠e->h.get? b=some u->h'.get? b=some u)(heo:∃ u,h'.get? e=some u):Un fs ex H (upd H x o) h h':=by
 have hx:∀ b,H b=none->b≠x:=fun b n z=>by subst z;rw[n] at mu;exact mu
 have hb:∀ b,H b=none->b≠e:=fun b n z=>by
  subst z
  rcases he with r|r
  ·exact hx b n r
  ·rw[n] at r;cases r
 have hm:∀ b u,H b=some u->¬ Mut (some u)->b≠x:=fun b u q nm z=>by subst z;rw[q] at mu;exact nm mu
 refine⟨fun b u q n _ _=>k b u (hb b n) q,fun b u q n _ _=>⟨u.slots,k b u (hb b n) q⟩,fun b u q n _=>by rw[UA (hx b n)];exact n,fun b u q _=>?_,
  fun b xs q=>by rw[UA (hm b _ q fun z=>z)];exact q,fun b u xs q=>by rw[UA (hm b _ q fun z=>z)];exact q,fun b ps q=>⟨#[],by rw[UA (hm b _ q fun z=>z),q];simp⟩⟩
 by_cases hbe:b=e
 ·subst hbe;exact heo
 ·exact⟨u,k b u hbe q⟩
end
noncomputable def trk (h:Heap)(H:Hp):List Addr:=(Ja h.objs.size).filter fun a=>(H a).isSome
noncomputable def Zc0 (h:Heap)(H:Hp):Heap:=PySem.W.hideAll h (trk h H)
theorem Z9n (h:Heap)(H:Hp):(Zc0 h H).objs.size=h.objs.size:=PySem.W.hideAll_size _ _
theorem ZbZ(e:h.get? b=some o)(n:H b=none):(Zc0 h H).get? b=some o :=
 PySem.W.hideAll_get _ e fun hm=>by
  have q:(H b).isSome=true:=(GC.mp hm).2
  rw[n] at q;simp at q
theorem ZeE(e:(Zc0 h H).get? b=some o):h.get? b=some o/\H b=none:=by
 have e':h.get? b=some o:=PySem.W.of_hideAll (trk h H) e
 refine⟨e',?_⟩
 cases q:H b with
 |none=>rfl
 |some x =>
  have hm:b∈trk h H:=GC.mpr ⟨Jv.mpr (Zy e'),by simp[q]⟩
  have z:(Zc0 h H).get? b=none:=PySem.W.hideAll_none (trk h H) hm
  rw[z] at e;cases e
structure Mod (K:Fg_)(mg:Str->Option Value)(base:Heap):Prop where
 kin:K.In base
 glob:base.Ns mainGlobals mg
 blt:∃ mb,base.Ns builtinsNs mb/\∀ x:Str,x≠"__name__"->mb x=bootBuiltins x
 nolimit:base.NoLimit
structure Cx where
 prog:Program
 w:World
 K:Fg_
 mg:Str->Option Value
 base:Heap
 A:Around
 N:Ls_
 aK:Shared
 aX:Hp
 env:Env
 outer:List Env
 stack:List Env
 ex:List Addr
 fn:Str->Bool
 calm:Bool
 pn:Pn_
 xe:Ps_
noncomputable def frs (l:List Env):List Addr:=l.filterMap (·.frame)
noncomputable abbrev Cx.fs (X:Cx):List Addr:=frs X.outer
def Vis (sc:Scope)(x:Str):Prop:=sc.names.lookup x=some .local\/sc.names.lookup x=some .cell\/sc.names.lookup x=some .free
def Loc (sc:Scope)(x:Str):Prop:=sc.names.lookup x=some .local\/sc.names.lookup x=some .cell
def Look (env:Env)(h:Heap)(m:Str->Option Value)(x:Str)(u:Value):Prop :=
 (env.kindOf x=some .local/\m x=some u)\/((env.kindOf x=some .cell\/env.kindOf x=some .free)/\∃ c,env.cells.lookup x=some c/\h.IsCell c (some u))
structure Cx.Ok (X:Cx):Prop where
 mod:Mod X.K X.mg X.base
 kind:X.env.scope.kind=.function
 glob:X.env.globals=mainGlobals
 blt:X.env.builtins=builtinsNs
 above:X.aK.heap.objs.size<=X.env.locals
 inj:∀ x y c,X.env.cells.lookup x=some c->X.env.cells.lookup y=some c->x=y
 has:∀ x,(X.env.kindOf x=some .cell\/X.env.kindOf x=some .free)->∃ c,X.env.cells.lookup x=some c
 cab:∀ x c,X.fn x=true->X.env.cells.lookup x=some c->X.aK.heap.objs.size<=c
 hd:X.calm=true->X.A.handled=none
 frames:X.A.frames=some X.stack
 stk:X.stack=X.outer\/(X.stack=X.env::X.outer/\X.env.frame=some X.env.locals)
 exf:∀ b∈X.ex,b≠X.env.locals/\∀ x c,X.env.cells.lookup x=some c->c≠b
 bs:∀ b o,X.base.get? b=some o->X.aK.heap.get? b=some o/\X.aX b=none
 bsz:X.base.objs.size<=X.aK.heap.objs.size
 noex:∀ b o,X.base.get? b=some o->b∉X.ex
 exfs:∀ b∈X.ex,b∉X.fs
 funs:X.aK.heap.FunFrames X.base X.outer
 frf:∀ b∈X.fs,X.aX b=none
structure Inv (X:Cx)(pins:Pn_)(σ:List (Option V))(H:Hp)(s:Shared):Prop where
 ok:X.Ok
 os:s.os=X.aK.os
 bare:AllBare s.gens
 base:Un X.fs X.ex X.aX H X.aK.heap s.heap
 loc:∃ m,s.heap.Ns X.env.locals m/\∀ (i:Nat) (x:Str) (v:V),X.N[i]?=some x->σ[i]?=some (some v)->Vis X.env.scope x->∃ u,RelV v u/\Look X.env s.heap m x u
 cell:∀ x c,X.env.cells.lookup x=some c->∃ v,s.heap.IsCell c v
 free:H X.env.locals=none
 freeC:∀ x c,X.env.cells.lookup x=some c->H c=none
 pin:∀ p∈X.pn++pins,s.heap.get? p.1=some p.2/\H p.1=none/\p.1≠X.env.locals/\p.1∉X.fs/\∀ v,p.2.data≠.cell v
 hok:HOk X.prog X.w H s.heap
 len:σ.length=X.N.length
section
variable {X:Cx}{pins:Pn_}{σ:List (Option V)}{H H':Hp}{s:Shared}{h':Heap}
theorem Cx.Ok.nofr (ok:X.Ok)(e:X.base.get? b=some o):b∉X.fs:=fun hb=>by
 have:=(ok.funs.mem hb).1
 rw[e] at this;cases this
theorem Inv.bs (I:Inv X pins σ H s):∀ b o,X.base.get? b=some o->s.heap.get? b=some o/\H b=none:=fun b o e =>
 ⟨I.base.keep b o (I.ok.bs b o e).1 (I.ok.bs b o e).2 (I.ok.nofr e) (I.ok.noex b o e),I.base.free b o (I.ok.bs b o e).1 (I.ok.bs b o e).2 (I.ok.noex b o e)⟩
theorem Inv.bk (I:Inv X pins σ H s):∀ b o,X.base.get? b=some o->s.heap.get? b=some o:=fun b o e=>(I.bs b o e).1
theorem Inv.mod (I:Inv X pins σ H s):Mod X.K X.mg X.base:=I.ok.mod
theorem Inv.kIn (I:Inv X pins σ H s):X.K.In s.heap:=I.ok.mod.kin.keeps I.bk
theorem Inv.lt (I:Inv X pins σ H s):X.env.locals<s.heap.objs.size:=let ⟨_,hn,_⟩:=I.loc;hn.lt
theorem Inv.sz (I:Inv X pins σ H s):X.aK.heap.objs.size<=s.heap.objs.size:=ZF I.ok.above (YA I.lt)
theorem Inv.nofs (I:Inv X pins σ H s){a:Addr}(h:s.heap.objs.size<=a):a∉X.fs:=fun hb=>by
 obtain⟨_,o,ho,_⟩:=I.ok.funs.mem hb
 exact absurd (ZG (Zy ho) (ZF I.sz h)) (YF _)
theorem Inv.cne (I:Inv X pins σ H s):∀ x c,X.env.cells.lookup x=some c->c≠X.env.locals:=fun x c e z=>by
 obtain⟨v,o,ho,hd⟩:=I.cell x c e
 obtain⟨m,⟨o',es,ep,ho',hd',_⟩,_⟩:=I.loc
 rw[z,ho'] at ho;cases ho;rw[hd'] at hd;cases hd
theorem Inv.funs (I:Inv X pins σ H s):s.heap.FunFrames X.base X.outer:=by
 have all:∀ (l:List Env),(∀ b∈frs l,b∈X.fs)->X.aK.heap.FunFrames X.base l->s.heap.FunFrames X.base l:=by
  intro l
  induction l with
  |nil=>intro _ _;trivial
  |cons env r ih =>
   intro hs hl
   refine W_ fun n9=>?_;obtain⟨hk,⟨L,o,hf,hn,ho,hd⟩,hr⟩:=hl;apply n9;clear n9
   have hL:L∈X.fs:=hs L (by unfold frs;rw[G8,hf];exact Z1)
   obtain⟨sl,e⟩:=I.base.slot L o ho (I.ok.frf L hL) hL fun z=>I.ok.exfs L z hL
   exact⟨hk,⟨L,_,hf,hn,e,hd⟩,ih (fun b hb=>hs b (by unfold frs;rw[G8,hf];exact Z2 _ hb)) hr⟩
 exact all X.outer (fun _ hb=>hb) I.ok.funs
theorem Inv.stack (I:Inv X pins σ H s):s.heap.FunFrames X.base X.stack:=by
 rcases I.ok.stk with e|⟨e,hf⟩
 ·rw[e];exact I.funs
 ·rw[e]
  obtain⟨m,hn,_⟩:=I.loc
  refine .cons (by rw[I.ok.kind];decide) hf hn ?_ I.funs
  exact ME (ZF I.ok.bsz I.ok.above)
theorem Inv.stkSub (I:Inv X pins σ H s):∀ b∈frs X.stack,b∈X.env.locals::X.fs:=fun b hb=>by
 rcases I.ok.stk with e|⟨e,hf⟩
 ·rw[e] at hb;exact Z2 _ hb
 ·rw[e] at hb
  unfold frs at hb
  rw[G8,hf] at hb
  exact hb
theorem Inv.stkFree (I:Inv X pins σ H s):∀ b∈frs X.stack,H b=none:=fun b hb=>by
 rcases Zc.mp (I.stkSub b hb) with e|hb
 ·rw[e];exact I.free
 ·obtain⟨_,o,ho,_⟩:=I.ok.funs.mem hb
  exact I.base.free b o ho (I.ok.frf b hb) fun z=>I.ok.exfs b z hb
theorem Inv.step {g':Array GenState}{t':Nat}{d':Drawn}{ch:List Addr}(I:Inv X pins σ H s)
  (hch:∀ b∈ch,(b∈X.ex\/X.aK.heap.objs.size<=b)/\b≠X.env.locals/\(∀ x c,X.env.cells.lookup x=some c->c≠b)/\∀ p∈X.pn++pins,p.1≠b)
  (keep:∀ b o,b≠X.env.locals->b∉X.fs->b∉ch->s.heap.get? b=some o->H b=none->h'.get? b=some o)
  (slot:∀ b o,b≠X.env.locals->b∈X.fs->b∉ch->s.heap.get? b=some o->H b=none->∃ sl,h'.get? b=some { o with slots:=sl }) (free:∀ b o,b∉ch->s.heap.get? b=some o->H b=none->H' b=none)
  (there:∀ b o,b∉ch->s.heap.get? b=some o->∃ o',h'.get? b=some o')
  (tups:∀ b xs,H b=some (.tup xs)->H' b=some (.tup xs)) (frzs:∀ b o u,H b=some (.frz o u)->H' b=some (.frz o u)) (tbls:∀ b ps,H b=some (.tbl ps)->∃ more,H' b=some (.tbl (ps++more)))
  (ns:∀ m,s.heap.Ns X.env.locals m->h'.Ns X.env.locals m) (hok:HOk X.prog X.w H' h') (hg:AllBare g') :
  Inv X pins σ H' { s with heap:=h',gens:=g',drawn:=d',toks:=t' }:=by
 have neL:∀ b o,X.aK.heap.get? b=some o->b≠X.env.locals:=fun b o e=>ZE (ZG (Zy e) I.ok.above)
 have neC:∀ b o,X.aK.heap.get? b=some o->b∉X.ex->b∉ch:=fun b o e hx hb=>by
  rcases (hch b hb).1 with z|z
  ·exact hx z
  ·exact absurd (ZG (Zy e) z) (YF _)
 have cellK:∀ x c,X.env.cells.lookup x=some c->∀ v,s.heap.IsCell c v->h'.IsCell c v:=fun x c e v z_=>by
  refine W_ fun n9=>?_;obtain⟨o,ho,hd⟩:=z_;apply n9;clear n9
  have nch:c∉ch:=fun z=>(hch c z).2.2.1 x c e rfl
  by_cases hc:c∈X.fs
  ·obtain⟨sl,q⟩:=slot c o (I.cne x c e) hc nch ho (I.freeC x c e)
   exact⟨_,q,hd⟩
  ·exact⟨o,keep c o (I.cne x c e) hc nch ho (I.freeC x c e),hd⟩
 refine⟨I.ok,I.os,hg,⟨fun b o e n hb hx=>?_,fun b o e n hb hx=>?_,fun b o e n hx=>?_,fun b o e hx=>?_,fun b xs e=>tups b xs (I.base.tups b xs e),fun b o xs e=>frzs b o xs (I.base.frzs b o xs e),fun b ps e=>?_⟩,?_,fun x c e=>?_,?_,fun x c e=>?_,fun p hp=>?_,hok,I.len⟩
 ·exact keep b o (neL b o e) hb (neC b o e hx) (I.base.keep b o e n hb hx) (I.base.free b o e n hx)
 ·refine W_ fun n9=>?_;obtain⟨sl,e1⟩:=I.base.slot b o e n hb hx
  obtain⟨sl',e2⟩:=slot b _ (neL b o e) hb (neC b o e hx) e1 (I.base.free b o e n hx);apply n9;clear n9
  exact⟨sl',e2⟩
 ·obtain⟨o',e1⟩:=I.base.there b o e hx
  exact free b o' (neC b o e hx) e1 (I.base.free b o e n hx)
 ·obtain⟨o',e1⟩:=I.base.there b o e hx
  exact there b o' (neC b o e hx) e1
 ·refine W_ fun n9=>?_;obtain⟨m1,e1⟩:=I.base.tbls b ps e
  obtain⟨m2,e2⟩:=tbls b _ e1;apply n9;clear n9
  exact⟨m1++m2,by rw[e2,Array.append_assoc]⟩
 ·refine W_ fun n9=>?_;obtain⟨m,hn,hl⟩:=I.loc;apply n9;clear n9
  refine⟨m,ns m hn,fun i x v e1 e2 e3=>?_⟩
  refine W_ fun n9=>?_;obtain⟨u,r,l⟩:=hl i x v e1 e2 e3;apply n9;clear n9
  refine⟨u,r,?_⟩
  rcases l with l|⟨k,c,e,z⟩
  ·exact .inl l
  ·exact .inr ⟨k,c,e,cellK x c e _ z⟩
 ·obtain⟨v,z⟩:=I.cell x c e
  exact⟨v,cellK x c e v z⟩
 ·refine W_ fun n9=>?_;obtain⟨m,⟨o,_,_,ho,_⟩,_⟩:=I.loc;apply n9;clear n9
  exact free _ o (fun z=>(hch _ z).2.1 rfl) ho I.free
 ·refine W_ fun n9=>?_;obtain⟨v,o,ho,hd⟩:=I.cell x c e;apply n9;clear n9
  exact free c o (fun z=>(hch c z).2.2.1 x c e rfl) ho (I.freeC x c e)
 ·refine W_ fun n9=>?_;obtain⟨e,n,ne,nf,d⟩:=I.pin p hp;apply n9;clear n9
  have nch:p.1∉ch:=fun z=>(hch p.1 z).2.2.2 p hp rfl
  exact⟨keep p.1 p.2 ne nf nch e n,free p.1 p.2 nch e n,ne,nf,d⟩
theorem Inv.un(I:Inv X pins σ H s)(u:Un X.fs [] H H' s.heap h')(hok:HOk X.prog X.w H' h'):Inv X pins σ H' { s with heap:=h',toks:=t' }:=by
 refine W_ fun n9=>?_;obtain⟨m,⟨o,es,ep,ho,r⟩,_⟩:=id I.loc
 obtain⟨sl,hL⟩:=u.any ho I.free (by simp)
 apply n9;clear n9
 exact I.step (g':=s.gens) (d':=s.drawn) (ch:=[]) (fun _ z=>nomatch z) (fun b o _ hb _ e n=>u.keep b o e n hb (by simp)) (fun b o _ hb _ e n=>u.slot b o e n hb (by simp)) (fun b o _ e n=>u.free b o e n (by simp)) (fun b o _ e=>u.there b o e (by simp)) u.tups u.frzs u.tbls (fun m' hm=>by
  refine W_ fun n9=>?_;obtain⟨o',es',ep',ho',r'⟩:=hm;apply n9;clear n9
  rw[ho] at ho';cases ho'
  exact⟨_,es',ep',hL,r'⟩) hok I.bare
theorem Inv.call(I:Inv X pins σ H s)(u:Un (frs X.stack) ch H H' s.heap h')(hok:HOk X.prog X.w H' h')(hg:AllBare g')
  (hch:∀ b∈ch,(b∈X.ex\/X.aK.heap.objs.size<=b)/\b≠X.env.locals/\(∀ x c,X.env.cells.lookup x=some c->c≠b)/\∀ p∈X.pn++pins,p.1≠b) :
  Inv X pins σ H' { s with heap:=h',gens:=g',drawn:=d',toks:=t' }:=by
 refine W_ fun n9=>?_;obtain⟨m,⟨o,es,ep,ho,r⟩,_⟩:=id I.loc
 obtain⟨sl,hL⟩:=u.any ho I.free fun z=>(hch _ z).2.1 rfl;apply n9;clear n9
 exact I.step (ch:=ch) hch (fun b o hL hb hc e n=>u.keep b o e n (fun z=>(Zc.mp (I.stkSub b z)).elim hL hb) hc) (fun b o _ _ hc e n=>u.any e n hc) (fun b o hc e n=>u.free b o e n hc) (fun b o hc e=>u.there b o e hc) u.tups u.frzs u.tbls (fun m' hm=>by
  refine W_ fun n9=>?_;obtain⟨o',es',ep',ho',r'⟩:=hm;apply n9;clear n9
  rw[ho] at ho';cases ho'
  exact⟨_,es',ep',hL,r'⟩) hok hg
theorem Inv.turned(I:Inv X pins σ H s)(k:∀ b o,b≠it->s.heap.get? b=some o->h'.get? b=some o)(hn:H it=none)(hL:it≠X.env.locals)
  (h1:it∈X.ex\/X.aK.heap.objs.size<=it) (h2:∀ x c,X.env.cells.lookup x=some c->c≠it) (h3:∀ p∈X.pn++pins,p.1≠it):Inv X pins σ H { s with heap:=h',toks:=t' }:=by
 have nit:∀ b u,H b=some u->b≠it:=fun b u e z=>by rw[z,hn] at e;cases e
 refine I.step (g':=s.gens) (d':=s.drawn) (ch:=[it]) (fun b hb=>?_) (fun b o _ _ hc e _=>k b o (fun z=>hc (by simp[z])) e) (fun b o _ _ hc e _=>⟨o.slots,k b o (fun z=>hc (by simp[z])) e⟩) (fun _ _ _ _ n=>n)
  (fun b o hc e=>⟨o,k b o (fun z=>hc (by simp[z])) e⟩) (fun _ _ e=>e) (fun _ _ _ e=>e) (fun b ps e=>⟨#[],by rw[e];simp⟩) (fun m hm=>?_) (fun b u e=>?_) I.bare
 ·have e:b=it:=by simpa using hb
  subst e
  exact⟨h1,hL,h2,h3⟩
 ·refine W_ fun n9=>?_;obtain⟨o,es,ep,ho,r⟩:=hm;apply n9;clear n9
  exact⟨o,es,ep,k _ o (Gx hL) ho,r⟩
 ·refine (I.hok b u e).stay (fun c v hc q=>k c v ?_ q) (fun _ q=>q) fun _ _ q=>q
  rcases hc with z|z
  ·rw[z];exact nit b u e
  ·exact nit c _ z
theorem Inv.tok (I:Inv X pins σ H s)(t:Nat):Inv X pins σ H { s with toks:=t }:=I.un (h':=s.heap) (t':=t) Un.refl I.hok
theorem Inv.kept(I:Inv X pins σ H s)(k:∀ b u,s.heap.get? b=some u->h'.get? b=some u):Inv X pins σ H { s with heap:=h',toks:=t' }:=I.un (Un.kept k) (I.hok.kept k)
theorem Inv.laid {a:Addr}{o:HO}{t':Nat}(I:Inv X pins σ H s)(k:∀ b u,s.heap.get? b=some u->h'.get? b=some u)(hp:s.heap.objs.size<=a)(new:MI X.prog X.w (upd H a o) h' a o) :
  Inv X pins σ (upd H a o) { s with heap:=h',toks:=t' }:=I.un (Un.laid k hp (I.hok.fresh hp)) (I.hok.laid k hp new)
theorem Inv.write(I:Inv X pins σ H s)(mu:Mut (H x))(he:e=x\/H e=some (.own x))(k:∀ b u,b≠e->s.heap.get? b=some u->h'.get? b=some u)(heo:∃ u,h'.get? e=some u)
  (new:MI X.prog X.w (upd H x o) h' x o):Inv X pins σ (upd H x o) { s with heap:=h',toks:=t' }:=I.un (Un.write mu he k heo) (I.hok.write mu he k heo new)
theorem Inv.weak(I:Inv X pins σ H s)(hl:aF.length=σ.length)(w:∀ (i:Nat) v,aF[i]?=some (some v)->σ[i]?=some (some v)):Inv X pins aF H s :=
 ⟨I.ok,I.os,I.bare,I.base,let ⟨m,hn,hl'⟩:=I.loc;⟨m,hn,fun i x v e1 e2 e3=>hl' i x v e1 (w i v e2) e3⟩,I.cell,I.free,I.freeC,I.pin,I.hok,hl.trans I.len⟩
theorem Inv.pins_of(I:Inv X pins σ H s)(h:∀ p∈pins',s.heap.get? p.1=some p.2/\H p.1=none/\p.1≠X.env.locals/\p.1∉X.fs/\∀ v,p.2.data≠.cell v):Inv X pins' σ H s :=
 ⟨I.ok,I.os,I.bare,I.base,I.loc,I.cell,I.free,I.freeC,fun p hp=>(ZR.mp hp).elim (fun z=>I.pin p (Js _ z)) (h p),I.hok,I.len⟩
theorem Z5s {N:Ls_}(hN:N.Nodup){i j:Nat}{x:Str}(a:N[i]?=some x)(b:N[j]?=some x):i=j:=by
 obtain⟨h1,e1⟩:=Ji.mp a
 obtain⟨h2,e2⟩:=Ji.mp b
 exact (List.getElem_inj hN).mp (e1.trans e2.symm)
theorem Z1Z {M:Model}{A:Around}{E:Ps_}{i:Nat}{x:Str}{v:V}{u:Value}{Q:Unit->Shared->Prop}(I:Inv X pins σ H s)(hN:X.N.Nodup)(hi:X.N[i]?=some x)(hx:Loc X.env.scope x)(r:RelV v u)
  (h:∀ s',Inv X pins (σ.set i (some v)) H s'->(∃ a,J2 a s.heap s'.heap/\(a=X.env.locals\/X.env.cells.lookup x=some a))->Q () s') (hf:autoParam (X.fn x=true\/X.env.scope.names.lookup x=some .local) qb._auto_1):wpAny M A (storeName X.env x u) Q E s:=by
 refine W_ fun n9=>?_;obtain⟨m,hn,hl⟩:=id I.loc;apply n9;clear n9
 have hcls:(X.env.scope.kind == .class||(X.env.scope.kind == .module&&X.env.locals != X.env.globals))=false:=by rw[I.ok.kind];rfl
 have bS:i<σ.length:=by rw[I.len];exact (Ji.mp hi).1
 have cne:=I.cne
 have tracked:∀ {a:Addr} {h':Heap},(∃ o,s.heap.get? a=some o/\H a=none)->J2 a s.heap h'->HOk X.prog X.w H h':=fun {a h'} ha hs b ob e=>by
  obtain⟨_,_,hfree⟩:=ha
  refine (I.hok b ob e).stay (fun c w' hc q=>(hs.2 c ?_).trans q) (fun _ q=>q) fun _ _ q=>q
  rintro rfl
  rcases hc with rfl|hc
  ·rw[hfree] at e;cases e
  ·rw[hfree] at hc;cases hc
 rcases hx with hk|hk
 ·refine wpAny_storeName_local hk hn (fun h' hn' hs=>?_) hcls
  refine W_ fun n9=>?_;obtain⟨oL,_,_,hoL,_⟩:=id hn;apply n9;clear n9
  refine h _ ⟨I.ok,I.os,I.bare,⟨fun b o e n hb hx=>?_,fun b o e n hb hx=>?_,I.base.free,fun b o e hx=>?_,I.base.tups,I.base.frzs,I.base.tbls⟩,⟨_,hn',fun j y v' e1 e2 e3=>?_⟩,fun y c e=>?_,I.free,I.freeC,fun p hp=>?_,tracked ⟨oL,hoL,I.free⟩ hs,by simpa using I.len⟩ ⟨_,hs,.inl rfl⟩
  ·exact (hs.2 b (ZE (ZG (Zy e) I.ok.above))).trans (I.base.keep b o e n hb hx)
  ·obtain⟨sl,e1⟩:=I.base.slot b o e n hb hx
   exact⟨sl,(hs.2 b (ZE (ZG (Zy e) I.ok.above))).trans e1⟩
  ·obtain⟨o',e1⟩:=I.base.there b o e hx
   exact⟨o',(hs.2 b (ZE (ZG (Zy e) I.ok.above))).trans e1⟩
  ·by_cases hj:j=i
   ·subst hj
    rw[hi] at e1;cases e1
    rw[Go bS] at e2
    cases e2
    exact⟨u,r,.inl ⟨hk,by simp⟩⟩
   ·rw[GS (Gx hj)] at e2
    refine W_ fun n9=>?_;obtain⟨u',r',q⟩:=hl j y v' e1 e2 e3;apply n9;clear n9
    refine⟨u',r',?_⟩
    rcases q with ⟨k,e⟩|⟨k,c,e,z⟩
    ·refine .inl ⟨k,?_⟩
     have:y≠x:=fun e=>hj (Z5s hN e1 (e ▸ hi))
     simp[this,e]
    ·exact .inr ⟨k,c,e,z.sameBut hs (cne y c e)⟩
  ·obtain⟨w',z⟩:=I.cell y c e
   exact⟨w',z.sameBut hs (cne y c e)⟩
  ·refine W_ fun n9=>?_;obtain⟨e,n,ne,nf,d⟩:=I.pin p hp;apply n9;clear n9
   exact⟨(hs.2 p.1 ne).trans e,n,ne,nf,d⟩
 ·have hfn:X.fn x=true:=by
   rcases hf with z|z
   ·exact z
   ·rw[z] at hk;cases hk
  refine W_ fun n9=>?_;obtain⟨c,hc⟩:=I.ok.has x (.inl hk)
  obtain⟨w',z⟩:=I.cell x c hc;apply n9;clear n9
  refine wpAny_storeName_cell I.ok.kind hk hc z (fun h' hc' hs=>?_)
  refine W_ fun n9=>?_;obtain⟨oc,hoc,hocd⟩:=id z;apply n9;clear n9
  refine h { s with heap:=h' } ⟨I.ok,I.os,I.bare,⟨fun b o e n hb hx=>?_,fun b o e n hb hx=>?_,I.base.free,fun b o e hx=>?_,I.base.tups,I.base.frzs,I.base.tbls⟩,⟨m,hn.sameBut hs (Gx (cne x c hc)),fun j y v' e1 e2 e3=>?_⟩,fun y c' e=>?_,I.free,I.freeC,fun p hp=>?_,tracked ⟨oc,hoc,I.freeC x c hc⟩ hs,by simpa using I.len⟩ ⟨c,hs,.inr hc⟩
  ·exact (hs.2 b (ZE (ZG (Zy e) (I.ok.cab x c hfn hc)))).trans (I.base.keep b o e n hb hx)
  ·obtain⟨sl,e1⟩:=I.base.slot b o e n hb hx
   exact⟨sl,(hs.2 b (ZE (ZG (Zy e) (I.ok.cab x c hfn hc)))).trans e1⟩
  ·obtain⟨o',e1⟩:=I.base.there b o e hx
   exact⟨o',(hs.2 b (ZE (ZG (Zy e) (I.ok.cab x c hfn hc)))).trans e1⟩
  ·by_cases hj:j=i
   ·subst hj
    rw[hi] at e1;cases e1
    rw[Go bS] at e2
    cases e2
    exact⟨u,r,.inr ⟨.inl hk,c,hc,hc'⟩⟩
   ·rw[GS (Gx hj)] at e2
    refine W_ fun n9=>?_;obtain⟨u',r',q⟩:=hl j y v' e1 e2 e3;apply n9;clear n9
    refine⟨u',r',?_⟩
    rcases q with q|⟨k,c',e,z'⟩
    ·exact .inl q
    ·refine .inr ⟨k,c',e,z'.sameBut hs ?_⟩
     rintro rfl
     exact hj (Z5s hN e1 (I.ok.inj _ _ _ e hc ▸ hi))
  ·by_cases hcc:c'=c
   ·subst hcc;exact⟨_,hc'⟩
   ·obtain⟨w2,z2⟩:=I.cell y c' e
    exact⟨w2,z2.sameBut hs hcc⟩
  ·refine W_ fun n9=>?_;obtain⟨e,n,ne,nf,d⟩:=I.pin p hp;apply n9;clear n9
   refine⟨(hs.2 p.1 ?_).trans e,n,ne,nf,d⟩
   intro q
   rw[q,hoc] at e
   have q':oc=p.2:=Jd e
   exact d w' (by rw[<- q'];exact hocd)
theorem Z52 {M:Model}{A:Around}{E:Ps_}{i:Nat}{x:Str}{v:V}{u:Value}{Q:Unit->Shared->Prop}(I:Inv X pins σ H s)(hN:X.N.Nodup)(hi:X.N[i]?=some x)(hx:Loc X.env.scope x)(r:RelV v u)
  (h:∀ s',Inv X pins (σ.set i (some v)) H s'->Q () s') (hf:autoParam (X.fn x=true\/X.env.scope.names.lookup x=some .local) qb._auto_1):wpAny M A (storeName X.env x u) Q E s :=
 Z1Z I hN hi hx r (fun s' I' _=>h s' I') hf
theorem Inv.call'(I:Inv X pins σ H s)(ho:s'.os=s.os)(u:Un (frs X.stack) ch H H' s.heap s'.heap)(hok:HOk X.prog X.w H' s'.heap)(hg:AllBare s'.gens)
  (hch:∀ b∈ch,(b∈X.ex\/X.aK.heap.objs.size<=b)/\b≠X.env.locals/\(∀ x c,X.env.cells.lookup x=some c->c≠b)/\∀ p∈X.pn++pins,p.1≠b):Inv X pins σ H' s':=by
 obtain⟨h',g',d',t',o'⟩:=s'
 have e:o'=s.os:=ho
 subst e
 exact I.call (g':=g') (t':=t') (d':=d') u hok hg hch
end
abbrev XK:=Value->Option Addr->Hp->Prop
abbrev St:=List (Option V)
abbrev VK:=V->Hp->Prop
abbrev TE:=St->Hp->VK->Prop
abbrev TT:=St->Hp->(Bool->Hp->Prop)->Prop
abbrev TA:=St->Hp->(Lv_->Hp->Prop)->Prop
structure ZcA where
 nx:St->Hp->Prop
 rt:VK
 bk:St->Hp->Prop:=fun _ _=>False
 ct:St->Hp->Prop:=fun _ _=>False
abbrev TS:=ZcA->St->Hp->Prop
def EP (X:Cx)(pins:Pn_)(σ:St)(Q:VK)(u:Value)(s':Shared):Prop:=∃ v H',Inv X pins σ H' s'/\RelV v u/\Q v H'
def TP (X:Cx)(pins:Pn_)(σ:St)(Q:Bool->Hp->Prop)(b:Bool)(s':Shared):Prop:=∃ H',Inv X pins σ H' s'/\Q b H'
def AP (X:Cx)(pins:Pn_)(σ:St)(Q:Lv_->Hp->Prop)(us:Lu_)(s':Shared):Prop:=∃ vs H',Inv X pins σ H' s'/\Uh vs us/\Q vs H'
def SP (X:Cx)(pins:Pn_)(D:ZcA)(f:Flow)(s':Shared):Prop :=
 match f with
 |.next=>∃ aF H',Inv X pins aF H' s'/\D.nx aF H'
 |.brk=>∃ aF H',Inv X pins aF H' s'/\D.bk aF H'
 |.cont=>∃ aF H',Inv X pins aF H' s'/\D.ct aF H'
 |.ret u=>∃ v aF H',Inv X pins aF H' s'/\RelV v u/\D.rt v H'
def PE (X:Cx)(e:Expr)(t:TE):Prop :=
 ∀ (pins:Pn_) (s:Shared) (σ:St) (H:Hp) (Q:VK),Inv X pins σ H s->t σ H Q->wpAny (model X.prog X.w) X.A (eval e X.env) (EP X pins σ Q) X.xe s
def PT (X:Cx)(e:Expr)(t:TT):Prop :=
 ∀ (pins:Pn_) (s:Shared) (σ:St) (H:Hp) (Q:Bool->Hp->Prop),Inv X pins σ H s->t σ H Q->wpAny (model X.prog X.w) X.A (isTrue e X.env (eval e X.env)) (TP X pins σ Q) X.xe s
def PW (X:Cx)(e:Expr)(t:TT):Prop :=
 ∀ (whole:Sem Value) (pins:Pn_) (s:Shared) (σ:St) (H:Hp) (Q:Bool->Hp->Prop),Inv X pins σ H s->t σ H Q->wpAny (model X.prog X.w) X.A (isTrue e X.env whole) (TP X pins σ Q) X.xe s
theorem PW.pt(h:PW X e t):PT X e t:=h _
def PA (X:Cx)(es:Le_)(t:TA):Prop :=
 ∀ (pos:Pos) (pins:Pn_) (s:Shared) (σ:St) (H:Hp) (Q:Lv_->Hp->Prop),Inv X pins σ H s->t σ H Q->wpAny (model X.prog X.w) X.A (spliced (backTo pos (starEach es X.env))) (AP X pins σ Q) X.xe s
def PS (X:Cx)(st:Stmt)(t:TS):Prop :=
 ∀ (pins:Pn_) (s:Shared) (σ:St) (H:Hp) (D:ZcA),Inv X pins σ H s->t D σ H->wpAny (model X.prog X.w) X.A (exec st X.env) (SP X pins D) X.xe s
def PSs (X:Cx)(st:List Stmt)(t:TS):Prop :=
 ∀ (pins:Pn_) (s:Shared) (σ:St) (H:Hp) (D:ZcA),Inv X pins σ H s->t D σ H->wpAny (model X.prog X.w) X.A (execs st X.env) (SP X pins D) X.xe s
theorem thn {α:Type}{t:Sem α}{Q Q':α->Shared->Prop}{M:Model}{A:Around}{E:Ps_}{s:Shared}(h:wpAny M A t Q E s)(hQ:∀ a s,Q a s->Q' a s):wpAny M A t Q' E s:=Y1 h hQ fun _ _ x=>x
section
variable {X:Cx}
def Zab (i:Nat):TE:=fun σ H Q=>∃ v,σ[i]?=some (some v)/\Q v H
def tC (v:V):TE:=fun _ H Q=>Q v H
theorem Zge {i:Nat} {x:Str} {pos:Pos} (hN:X.N[i]?=some x) (hv:Vis X.env.scope x) (hd:autoParam ((x == ("__debug__":Str))=false) qa._auto_1) (hcd:autoParam ((x == ("__classdict__":Str))=false) qa._auto_1):PE X (.Name x pos) (Zab i):=by
 intro pins s σ H Q I h
 refine W_ fun n9=>?_;obtain⟨v,e,h⟩:=h
 obtain⟨m,hn,hl⟩:=I.loc
 obtain⟨u,r,l⟩:=hl i x v hN e hv;apply n9;clear n9
 have fin:EP X pins σ Q u s:=⟨v,H,I,r,h⟩
 rcases l with ⟨hk,hm⟩|⟨hk,c,hc,hcell⟩
 ·exact ZhI (wpAny_loadName_local I.ok.kind hk hn hm fin) hd
 ·rcases hk with hk|hk
  ·exact ZhI (wpAny_loadName_cell I.ok.kind hk hc hcell fin) hd
  ·exact ZhI (wpAny_loadName_free I.ok.kind hk hc hcell fin hcd) hd
theorem Zgi {i j pos}:PE X (.Constant (.int i) j pos) (tC (.int i)):=fun _ _ _ H _ I h=>wpAny_Constant_int ⟨.int i,H,I.tok _,⟨_,rfl⟩,h⟩
theorem Zir {b j pos}:PE X (.Constant (.bool b) j pos) (tC (.bl b)):=fun _ _ _ H _ I h=>Constant_bool ⟨.bl b,H,I,rfl,h⟩
theorem Zgg {j pos}:PE X (.Constant .none j pos) (tC .non):=fun _ _ _ H _ I h=>Constant_none ⟨.non,H,I,rfl,h⟩
theorem Zgf {x j pos}:PE X (.Constant (.str x) j pos) (tC (.str x)):=fun _ _ _ H _ I h=>Calls.Constant_str ⟨.str x,H,I.tok _,⟨_,rfl⟩,h⟩
def Gl (X:Cx)(x:Str):Prop:=X.env.kindOf x=some .globalImplicit
theorem Z49 {E:Ps_}{pins:Pn_}{s:Shared}{σ:St}{H:Hp}{x:Str}{u:Value}{pos:Pos}{Q:Ps_}(I:Inv X pins σ H s)(hg:Gl X x)(hm:X.mg x=some u)(h:Q u s)
  (hd:autoParam ((x == ("__debug__":Str))=false) qa._auto_1):wpAny (model X.prog X.w) X.A (eval (.Name x pos) X.env) Q E s :=
 Z1D I.ok.kind hg (Calls.loadGlobal_global (by rw[I.ok.glob];exact I.mod.glob.keeps I.bk) hm h) hd
theorem BW {E:Ps_}{pins:Pn_}{s:Shared}{σ:St}{H:Hp}{x:Str}{u:Value}{pos:Pos}{Q:Ps_}(I:Inv X pins σ H s)(hg:Gl X x)(hm:X.mg x=none)(hv:bootBuiltins x=some u)(h:Q u s)
  (hn:autoParam (x≠"__name__") qa._auto_1) (hd:autoParam ((x == ("__debug__":Str))=false) qa._auto_1):wpAny (model X.prog X.w) X.A (eval (.Name x pos) X.env) Q E s:=by
 refine W_ fun n9=>?_;obtain⟨mb,h1,h2⟩:=I.mod.blt;apply n9;clear n9
 exact Z1D I.ok.kind hg (Calls.loadGlobal_builtin (by rw[I.ok.glob];exact I.mod.glob.keeps I.bk) hm (by rw[I.ok.blt];exact h1.keeps I.bk) ((h2 x hn).trans hv) h) hd
variable {a b:Expr}{ta tb:TE}{pos:Pos}
def tB (t:TE):TT:=fun σ H Q=>t σ H fun x H1=>∃ c,x=.bl c/\Q c H1
theorem Zg7(h:PE X e t)(he:autoParam (∀ whole,isTrue e X.env whole=(do let v <- whole;standAt e.pos;holding [v] (truthy v))) qc._auto_1):PT X e (tB t):=by
 intro pins s σ H Q I hw
 refine isTrue_plain (thn (h pins s σ H _ I hw) fun v s1 z1_=>?_) (he _)
 refine W_ fun n9=>?_;obtain ⟨x,H1,I1,r1,q1⟩:=z1_
 obtain⟨d,rfl,q⟩:=q1;apply n9;clear n9
 cases r1
 exact WO ⟨H1,I1,q⟩
variable {tA tB':TT}{rest:Le_}
def ZjM (t u:TT):TT:=fun σ H Q=>t σ H fun c H1=>if c=true then u σ H1 Q else Q false H1
def tOr (t u:TT):TT:=fun σ H Q=>t σ H fun c H1=>if c=true then Q true H1 else u σ H1 Q
def ZjH (t:TT):TT:=fun σ H Q=>t σ H fun c H1=>Q (!c) H1
theorem ZdP (ha:PT X a tA):PW X (.BoolOp .And [a] pos) tA:=by
 intro wh pins s σ H Q I h
 refine isTrue_and (thn (ha pins s σ H Q I h) fun c s1 e=>?_)
 cases c with
 |true=>exact isTrue_and_nil e
 |false=>exact e
theorem Zg4 (ha:PT X a tA):PW X (.BoolOp .Or [a] pos) tA:=by
 intro wh pins s σ H Q I h
 refine isTrue_or (thn (ha pins s σ H Q I h) fun c s1 e=>?_)
 cases c with
 |false=>exact isTrue_or_nil e
 |true=>exact e
theorem Zg5 (ha:PT X a tA)(hb:PW X (.BoolOp .And (b::rest) pos) tB'):PW X (.BoolOp .And (a::b::rest) pos) (ZjM tA tB'):=by
 intro wh pins s σ H Q I h
 refine isTrue_and (thn (ha pins s σ H _ I h) fun c s1 z1_=>?_)
 refine W_ fun n9=>?_;obtain ⟨H1,I1,q1⟩:=z1_;apply n9;clear n9
 cases c with
 |true=>exact hb wh pins s1 σ H1 Q I1 q1
 |false=>exact⟨H1,I1,q1⟩
theorem Zim (ha:PT X a tA)(hb:PW X (.BoolOp .Or (b::rest) pos) tB'):PW X (.BoolOp .Or (a::b::rest) pos) (tOr tA tB'):=by
 intro wh pins s σ H Q I h
 refine isTrue_or (thn (ha pins s σ H _ I h) fun c s1 z1_=>?_)
 refine W_ fun n9=>?_;obtain ⟨H1,I1,q1⟩:=z1_;apply n9;clear n9
 cases c with
 |true=>exact⟨H1,I1,q1⟩
 |false=>exact hb wh pins s1 σ H1 Q I1 q1
theorem Zg8 (ha:PT X a tA):PT X (.UnaryOp .Not a pos) (ZjH tA):=by
 intro pins s σ H Q I h
 exact isTrue_not (ha pins s σ H (fun c H1=>Q (!c) H1) I h)
def tIf (t:TT)(ta tb:TE):TE:=fun σ H Q=>t σ H fun c H1=>if c=true then ta σ H1 Q else tb σ H1 Q
theorem Zb3(hc:PT X c tA)(ha:PE X a ta)(hb:PE X b tb):PE X (.IfExp c a b pos) (tIf tA ta tb):=by
 intro pins s σ H Q I h
 refine wpAny_IfExp (thn (hc pins s σ H _ I h) fun d s1 z1_=>?_)
 refine W_ fun n9=>?_;obtain ⟨H1,I1,q1⟩:=z1_;apply n9;clear n9
 cases d with
 |true=>exact ha pins s1 σ H1 Q I1 q1
 |false=>exact hb pins s1 σ H1 Q I1 q1
end
def SqL (K:Fg_)(H:Hp)(a:Addr)(xs:Lv_):Prop :=
 Rd H a (.lst xs) \/
  ∃ (o:Obj) (its:Au_) (n:Nat),K.lookup a=some o/\o.cls=.type "list"/\o.dict=none/\o.data=.seq its n/\its.size<=sizeLine/\Uh xs its.toList
def SqT (K:Fg_)(H:Hp)(a:Addr)(xs:Lv_):Prop :=
 Rd H a (.tup xs) \/
  ∃ (o:Obj) (its:Au_) (n:Nat),K.lookup a=some o/\o.cls=.type "tuple"/\o.data=.seq its n/\its.size<=sizeLine/\Uh xs its.toList
noncomputable def ZjY:Value->Option V
 |.none=>some .non
 |.bool b=>some (.bl b)
 |.int i _=>some (.int i)
 |.str x _=>some (.str x)
 |.bytes b _=>some (.byt b)
 |.float b _=>some (.flt b)
 |.ref a=>some (.ref a)
 |.type n=>some (.ty n)
 |_=>none
theorem RelV.abs(r:RelV x u):ZjY u=some x:=by
 cases x with
 |non=>cases r;rfl
 |bl _=>cases r;rfl
 |int _=>obtain⟨t,rfl⟩:=r;rfl
 |str _=>obtain⟨t,rfl⟩:=r;rfl
 |byt _=>obtain⟨t,rfl⟩:=r;rfl
 |flt _=>obtain⟨t,rfl⟩:=r;rfl
 |ref _=>cases r;rfl
 |ty _=>cases r;rfl
theorem RelV.inj(r:RelV x u)(q:RelV y u):x=y:=Jd (r.abs.symm.trans q.abs)
theorem Uh.inj:∀ {xs ys:Lv_} {us:Lu_},Uh xs us->Uh ys us->xs=ys:=by
 intro xs ys us h
 induction h generalizing ys with
 |nil=>intro h2;cases h2;rfl
 |cons r t ih=>intro h2;cases h2 with
  |cons r' t'=>rw[r.inj r',ih t']
section
variable {X:Cx}{pins:Pn_}{σ:St}{H:Hp}{s:Shared}{a:Addr}{xs ys:Lv_}
theorem SqL.of {K:Fg_}(h:H a=some (.lst xs)):SqL K H a xs:=.inl (.inl h)
theorem SqT.of {K:Fg_}(h:H a=some (.tup xs)):SqT K H a xs:=.inl (.inl h)
theorem Inv.list (I:Inv X pins σ H s)(h:SqL X.K H a xs):∃ its:Lu_,Uh xs its/\PlainL s.heap a its.toArray/\xs.length<=sizeLine:=by
 rcases h with h|⟨o,its,n,hk,hc,hd,hs,hz,r⟩
 ·obtain⟨z,its,n,r,e⟩:=h.ok I.hok
  exact⟨its,r,⟨_,n,e,rfl,rfl,rfl⟩,z⟩
 ·refine⟨its.toList,r,⟨o,n,I.kIn a o hk,hc,hd,by simpa using hs⟩,?_⟩
  have e:=r.length
  simp only[Zh] at e
  lia
theorem Inv.tuple (I:Inv X pins σ H s)(h:SqT X.K H a xs):∃ its:Lu_,Uh xs its/\IsTup s.heap a its.toArray/\xs.length<=sizeLine:=by
 rcases h with h|⟨o,its,n,hk,hc,hs,hz,r⟩
 ·obtain⟨z,its,r,p⟩:=h.ok I.hok
  exact⟨its,r,p,z⟩
 ·refine⟨its.toList,r,⟨o,I.kIn a o hk,hc,n,by simpa using hs⟩,?_⟩
  have e:=r.length
  simp only[Zh] at e
  lia
theorem Inv.list_inj (I:Inv X pins σ H s)(h:SqL X.K H a xs)(h':SqL X.K H a ys):xs=ys:=by
 refine W_ fun n9=>?_;obtain⟨its,r,⟨o,n,e,_,_,d⟩,_⟩:=I.list h
 obtain⟨its',r',⟨o',n',e',_,_,d'⟩,_⟩:=I.list h';apply n9;clear n9
 rw[e] at e';cases e'
 rw[d] at d'
 injection d' with d1 _
 have:its=its':=by simpa using congrArg ZhB d1
 subst this
 exact r.inj r'
theorem Inv.tuple_inj (I:Inv X pins σ H s)(h:SqT X.K H a xs)(h':SqT X.K H a ys):xs=ys:=by
 refine W_ fun n9=>?_;obtain⟨its,r,⟨o,e,_,n,d⟩,_⟩:=I.tuple h
 obtain⟨its',r',⟨o',e',_,n',d'⟩,_⟩:=I.tuple h';apply n9;clear n9
 rw[e] at e';cases e'
 rw[d] at d'
 injection d' with d1 _
 have:its=its':=by simpa using congrArg ZhB d1
 subst this
 exact r.inj r'
end
noncomputable abbrev Cx.wish (X:Cx)(E:Ps_):Cx:={ X with xe:=E }
noncomputable abbrev Cx.nox (X:Cx):Cx:=X.wish fun _ _=>False
theorem Cx.Ok.wish {X:Cx}(ok:X.Ok)(E:Ps_):(X.wish E).Ok :=
 ⟨ok.mod,ok.kind,ok.glob,ok.blt,ok.above,ok.inj,ok.has,ok.cab,ok.hd,ok.frames,ok.stk,ok.exf,ok.bs,ok.bsz,ok.noex,ok.exfs,ok.funs,ok.frf⟩
theorem Cx.Ok.unwish {X:Cx}{E:Ps_}(ok:(X.wish E).Ok):X.Ok :=
 ⟨ok.mod,ok.kind,ok.glob,ok.blt,ok.above,ok.inj,ok.has,ok.cab,ok.hd,ok.frames,ok.stk,ok.exf,ok.bs,ok.bsz,ok.noex,ok.exfs,ok.funs,ok.frf⟩
section
variable {X:Cx}{pins:Pn_}{σ:St}{H:Hp}{s:Shared}{E:Ps_}
theorem Inv.wish (I:Inv X pins σ H s)(E:Ps_):Inv (X.wish E) pins σ H s:=⟨I.ok.wish E,I.os,I.bare,I.base,I.loc,I.cell,I.free,I.freeC,I.pin,I.hok,I.len⟩
theorem Inv.unwish (I:Inv (X.wish E) pins σ H s):Inv X pins σ H s:=⟨I.ok.unwish,I.os,I.bare,I.base,I.loc,I.cell,I.free,I.freeC,I.pin,I.hok,I.len⟩
theorem SP.unwish(h:SP (X.wish E) pins D f s'):SP X pins D f s':=by
 cases f with
 |next=>obtain⟨aF,H',I,q⟩:=h;exact⟨aF,H',I.unwish,q⟩
 |brk=>obtain⟨aF,H',I,q⟩:=h;exact⟨aF,H',I.unwish,q⟩
 |cont=>obtain⟨aF,H',I,q⟩:=h;exact⟨aF,H',I.unwish,q⟩
 |ret u=>obtain⟨v,aF,H',I,r,q⟩:=h;exact⟨v,aF,H',I.unwish,r,q⟩
theorem PSs.nox {st:List Stmt}{t:TS}(h:PSs X.nox st t):PSs X st t:=fun pins s σ H D I hw =>
 Y1 (h pins s σ H D (I.wish _) hw) (fun _ _ q=>q.unwish) fun _ _ z=>Np z
end
section
variable {X:Cx}{st:Stmt}{rest:List Stmt}{t u:TS}{e:Expr}{te:TE}{pos:Pos}
def Zif:TS:=fun D σ H=>D.nx σ H
def ZjF (t u:TS):TS:=fun D σ H=>t { D with nx:=u D } σ H
theorem ZdV:PSs X [] Zif:=fun _ _ σ H _ I h=>BD ⟨σ,H,I,h⟩
theorem ZaS (h1:PS X st t)(h2:PSs X rest u):PSs X (st::rest) (ZjF t u):=by
 intro pins s σ H D I h
 refine Zi7 (thn (h1 pins s σ H { D with nx:=u D } I h) fun f s1 q=>?_)
 cases f with
 |next =>
  refine W_ fun n9=>?_;obtain⟨aF,H',I',q⟩:=q;apply n9;clear n9
  exact h2 pins s1 aF H' D I' q
 |ret v=>exact q
 |brk=>exact q
 |cont=>exact q
theorem ZdU (h1:PS X st t):PSs X [st] t:=by
 intro pins s σ H D I h
 refine Zi7 (thn (h1 pins s σ H D I h) fun f s1 q=>?_)
 cases f with
 |next=>exact BD q
 |ret v=>exact q
 |brk=>exact q
 |cont=>exact q
theorem Inv.quiet {pins:Pn_}{σ:St}{H:Hp}{s:Shared}(I:Inv X pins σ H s):interactive X.env=false:=by simp[interactive,I.ok.kind]
def Zig (te:TE):TS:=fun D σ H=>te σ H fun _ H1=>D.nx σ H1
theorem Z8c (he:PE X e te)(hs:autoParam (swapsWith e none pos.line X.env=pure false) q_._auto_1):PS X (.Expr e pos) (Zig te):=by
 intro pins s σ H D I h
 exact wpAny_Expr_any (thn (he pins s σ H _ I h) fun v s1 ⟨x,H1,I1,r1,q1⟩=>⟨σ,H1,I1,q1⟩) I.quiet hs
def ZjG (te:TE):TS:=fun D σ H=>te σ H D.rt
theorem Zg9 (he:PE X e te):PS X (.Return (some e) pos) (ZjG te):=by
 intro pins s σ H D I h
 exact wpAny_Return_some (thn (he pins s σ H _ I h) fun v s1 ⟨x,H1,I1,r1,q1⟩=>⟨x,σ,H1,I1,r1,q1⟩)
def ZjK (c:TT)(t u:TS):TS:=fun D σ H=>c σ H fun b H1=>if b=true then t D σ H1 else u D σ H1
theorem Zin(hc:PT X c tc)(ha:PSs X a t)(hb:PSs X b u):PS X (.If c a b pos) (ZjK tc t u):=by
 intro pins s σ H D I h
 refine wpAny_If (thn (hc pins s σ H _ I h) fun d s1 z1_=>?_)
 refine W_ fun n9=>?_;obtain ⟨H1,I1,q1⟩:=z1_;apply n9;clear n9
 cases d with
 |true=>exact ha pins s1 σ H1 D I1 q1
 |false=>exact hb pins s1 σ H1 D I1 q1
end
abbrev TG:=V->St->Hp->(St->Hp->Prop)->Prop
abbrev TGs:=Lv_->St->Hp->(St->Hp->Prop)->Prop
def PG (X:Cx)(target:Expr)(t:TG):Prop :=
 ∀ (pins:Pn_) (s:Shared) (σ:St) (H:Hp) (v:V) (u:Value) (Q:St->Hp->Prop),Inv X pins σ H s->RelV v u->t v σ H Q ->
  wpAny (model X.prog X.w) X.A (assign target X.env u) (fun _ s'=>∃ aF H',Inv X pins aF H' s'/\Q aF H') X.xe s
def PGs (X:Cx)(ts:Le_)(t:TGs):Prop :=
 ∀ (pins:Pn_) (s:Shared) (σ:St) (H:Hp) (vs:Lv_) (us:Lu_) (Q:St->Hp->Prop),Inv X pins σ H s->Uh vs us->t vs σ H Q ->
  wpAny (model X.prog X.w) X.A (assignInOrder ((assignEach ts X.env).map (·.2)) us) (fun _ s'=>∃ aF H',Inv X pins aF H' s'/\Q aF H') X.xe s
abbrev Z9Y:=V->V->V->Hp->(Hp->Prop)->Prop
def Zfs (X:Cx)(t:Z9Y):Prop :=
 ∀ (pins:Pn_) (s:Shared) (σ:St) (H:Hp) (o i v:V) (ov iv u:Value) (Q:Hp->Prop),Inv X pins σ H s->RelV o ov->RelV i iv->RelV v u->t o i v H Q ->
  wpAny (model X.prog X.w) X.A (setItem ov iv u) (fun _ s'=>∃ H',Inv X pins σ H' s'/\Q H') X.xe s
section
variable {X:Cx}{pos:Pos}
def Fl (i:Nat):TG:=fun v σ H Q=>Q (σ.set i (some v)) H
theorem MT(hN:X.N.Nodup)(hi:X.N[i]?=some x)(hx:Loc X.env.scope x)(hf:autoParam (X.fn x=true\/X.env.scope.names.lookup x=some .local) qb._auto_1):PG X (.Name x pos) (Fl i):=by
 intro pins s σ H v u Q I r h
 exact ZhH (Z52 I hN hi hx r (fun s' I'=>⟨_,H,I',h⟩) hf)
def ZiR:TGs:=fun vs σ H Q=>vs=[]/\Q σ H
def Z9s (t:TG)(u:TGs):TGs:=fun vs σ H Q=>∃ v r,vs=v::r/\t v σ H fun aF H'=>u r aF H' Q
theorem Z3N:PGs X [] ZiR:=by
 intro pins s σ H vs us Q I r h
 obtain⟨e,h⟩:=h
 subst e
 cases r
 exact assignInOrder_nil ⟨σ,H,I,h⟩
theorem WA(h1:PG X e t)(h2:PGs X es u)
  (hs:autoParam ((assignEach (e::es) X.env).map (·.2)=assign e X.env::(assignEach es X.env).map (·.2)) q_._auto_1):PGs X (e::es) (Z9s t u):=by
 intro pins s σ H vs us Q I r h
 refine W_ fun n9=>?_;obtain⟨v,vr,e1,h⟩:=h;apply n9;clear n9
 subst e1
 cases r with
 |cons r rr =>
  rw[hs]
  refine assignInOrder_cons (thn (h1 pins s σ H _ _ _ I r h) fun _ s1 z1_=>?_)
  refine W_ fun n9=>?_;obtain ⟨aW,H1,I1,q1⟩:=z1_;apply n9;clear n9
  exact h2 pins s1 aW H1 _ _ Q I1 rr q1
def ZiQ (K:Fg_)(n:Nat)(t:TGs):TG:=fun v σ H Q=>∃ a xs,v=.ref a/\SqT K H a xs/\xs.length=n/\t xs σ H Q
theorem Z8m {es:Le_}{k:Nat}{t:TGs}{n:Nat}(hc:X.calm=true)(h:PGs X es t)
  (hn:autoParam ((assignEach es X.env).length=n) q_._auto_1) (hst:autoParam ((assignEach es X.env).findIdx? (·.1)=none) q_._auto_1):PG X (.Tuple es k pos) (ZiQ X.K n t):=by
 intro pins s σ H v u Q I r hw
 refine W_ fun n9=>?_;obtain⟨a,xs,e1,hq,hl,hw⟩:=hw;apply n9;clear n9
 subst e1
 cases r
 refine W_ fun n9=>?_;obtain⟨its,rv,ht,hz⟩:=I.tuple hq;apply n9;clear n9
 refine assign_Tuple_tuple (I.ok.hd hc) ht (by simp[hn,<- hl,rv.length]) hst fun h' hx=>?_
 have I1:Inv X pins σ H { s with heap:=h' }:=I.kept (t':=s.toks) fun b o e=>hx b o (ZE (Zy e)) e
 exact h pins _ σ H xs _ Q I1 (by simpa using rv) hw
def Zfl (te:TE)(g:TG):TS:=fun D σ H=>te σ H fun x H1=>g x σ H1 D.nx
theorem Zgb(he:PE X e te)(hg:PG X tg g)(hs:autoParam (swapsWithSole [tg] e pos.line X.env=pure false) q_._auto_1)(hw:autoParam (swappedStores [tg] e X.env=pure none) q_._auto_1)
  (h1:autoParam ((assignEach [tg] X.env).map (·.2)=[assign tg X.env]) q_._auto_1):PS X (.Assign [tg] e pos) (Zfl te g):=by
 intro pins s σ H D I h
 refine wpAny_Assign_stores (thn (he pins s σ H _ I h) fun v s1 z1_=>?_) hs hw
 refine W_ fun n9=>?_;obtain ⟨x,H1,I1,r1,q1⟩:=z1_;apply n9;clear n9
 rw[h1]
 exact thn (hg pins s1 σ H1 x v _ I1 r1 q1) fun _ s2 q=>q
theorem Z5j(hN:X.N.Nodup)(hi:X.N[i]?=some x)(hx:Loc X.env.scope x)(he:PE X e te)(hs:autoParam (swapsWith e (some (.Name x pos')) pos.line X.env=pure false) q_._auto_1)(hf:autoParam (X.fn x=true\/X.env.scope.names.lookup x=some .local) qb._auto_1) :
  PS X (.Assign [.Name x pos'] e pos) (Zfl te (Fl i)):=by
 intro pins s σ H D I h
 refine wpAny_Assign_Name (thn (he pins s σ H _ I h) fun v s1 z1_=>?_) hs
 refine W_ fun n9=>?_;obtain ⟨y,H1,I1,r1,q1⟩:=z1_;apply n9;clear n9
 exact Z52 I1 hN hi hx r1 (fun s2 I2=>⟨_,H1,I2,q1⟩) hf
def ZfH (c:TT)(tb:TS):TS:=fun D σ H=>∃ W:Nat->St->Hp->Prop,(∃ m,W m σ H)/\∀ m σ H,W m σ H ->
 c σ H fun b H1=>if b=true then ∃ N:St->Hp->Prop,(∀ aF H',N aF H'->∃ m',m'<m/\W m' aF H')/\tb { D with nx:=N,ct:=N,bk:=D.nx } σ H1 else D.nx σ H1
theorem ZaT(hp:YC (model X.prog X.w) X.A X.env X.xe)(hc:PT X c tc)(hb:PSs X body tb):PS X (.While c body [] pos) (ZfH tc tb):=by
 intro pins s σ H D I h
 refine W_ fun n9=>?_;obtain⟨W,⟨m0,w0⟩,turn⟩:=h;apply n9;clear n9
 refine wpAny_While (codeAny_whileLoop (fun n s'=>∃ aF H',Inv X pins aF H' s'/\W n aF H') ?_ m0 ⟨σ,H,I,w0⟩)
 rintro n s1 ⟨aW,H1,I1,w1⟩
 refine GT hp (thn (hc pins s1 aW H1 _ I1 (turn n aW H1 w1)) fun b s2 z1_=>?_)
 refine W_ fun n9=>?_;obtain ⟨H2,I2,q2⟩:=z1_;apply n9;clear n9
 cases b with
 |true =>
  refine W_ fun n9=>?_;obtain⟨N,hN,q2⟩:=q2;apply n9;clear n9
  rw[if_pos rfl]
  refine GT hp (thn (hb pins s2 aW H2 _ I2 q2) fun f s3 q3=>?_)
  cases f with
  |next =>
   refine W_ fun n9=>?_;obtain⟨aR,H3,I3,n3⟩:=q3
   obtain⟨m',hm,w3⟩:=hN aR H3 n3;apply n9;clear n9
   exact⟨m',hm,aR,H3,I3,w3⟩
  |cont =>
   refine W_ fun n9=>?_;obtain⟨aR,H3,I3,n3⟩:=q3
   obtain⟨m',hm,w3⟩:=hN aR H3 n3;apply n9;clear n9
   exact⟨m',hm,aR,H3,I3,w3⟩
  |brk=>exact q3
  |ret v=>exact q3
 |false =>
  rw[if_neg Jy]
  exact BD ⟨aW,H2,I2,q2⟩
end
structure It where
 go:Nat->Hp->Prop
 yld:Nat->Hp->V->Hp->Prop
 stop:Nat->Hp->Prop
def Z0G (X:Cx)(pins:Pn_)(H:Hp)(b:Addr):Prop :=
 H b=none/\b≠X.env.locals/\b∉X.fs/\(b∈X.ex\/X.aK.heap.objs.size<=b)/\(∀ x c,X.env.cells.lookup x=some c->c≠b)/\∀ p∈X.pn++pins,p.1≠b
theorem Inv.fpOk {X:Cx}{pins:Pn_}{σ:St}{H H':Hp}{s:Shared}{b:Addr}(I:Inv X pins σ H s)(hb:s.heap.objs.size<=b)(hn:H' b=none):Z0G X pins H' b:=by
 refine⟨hn,G5 (ZG I.lt hb),I.nofs hb,.inr (ZF I.sz hb),fun x c e z=>?_,fun p hp z=>?_⟩
 ·obtain⟨v,q⟩:=I.cell x c e
  exact absurd (ZG q.lt (by rw[z];exact hb)) (YF _)
 ·exact absurd (ZG (Zy (I.pin p hp).1) (by rw[z];exact hb)) (YF _)
structure Zcn (P:Program)(w:World)(K:Fg_)(tg:Expr)(J:It)(fp:List Addr)(it:Addr)(tn:Nat->Heap->Prop):Prop where
 mem:it∈fp
 obj:∀ i h,tn i h->∀ b∈fp,∃ o,h.get? b=some o/\∀ v,o.data≠.cell v
 keep:∀ i h h',tn i h->(∀ b∈fp,∀ o,h.get? b=some o->h'.get? b=some o)->tn i h'
 item:∀ (X:Cx),X.prog=P->X.w=w->X.K=K->X.calm=true->∀ (i:Nat) (pins:Pn_) (s:Shared) (σ:St) (H:Hp) (E:Ps_),Inv X pins σ H s->(∀ b∈fp,Z0G X pins H b)->tn i s.heap->J.go i H ->
  wpAny (model P w) X.A (pyNext (.ref it)) (fun r s1=>∃ u,r=some u /\
   wpAny (model P w) X.A (letOwnedTupleGo tg (.ref it) u) (fun _ s2=>∃ x H',Inv X pins σ H' s2/\RelV x u/\J.yld i H x H'/\tn (i+1) s2.heap/\∀ b∈fp,H' b=none) E s1) E s
 done:∀ (X:Cx),X.prog=P->X.w=w->X.K=K->X.calm=true->∀ (i:Nat) (pins:Pn_) (s:Shared) (σ:St) (H:Hp) (E:Ps_),Inv X pins σ H s->(∀ b∈fp,Z0G X pins H b)->tn i s.heap->J.stop i H ->
  wpAny (model P w) X.A (pyNext (.ref it)) (fun r s1=>r=none/\Inv X pins σ H s1) E s
 self:∀ (A:Around) (i:Nat) (s:Shared) (Q:Ps_) (E:Ps_),tn i s.heap->Q (.ref it) s->wpAny (model P w) A (pyIter (.ref it)) Q E s
abbrev TI:=St->Hp->(It->Hp->Prop)->Prop
def PIE (X:Cx)(pins:Pn_)(σ:St)(tg:Expr)(R:It->Hp->Prop)(itv:Value)(s2:Shared):Prop :=
 ∃ (it:Addr) (fp:List Addr) (tn:Nat->Heap->Prop) (J:It) (H':Hp),itv=.ref it/\Inv X pins σ H' s2/\Zcn X.prog X.w X.K tg J fp it tn/\tn 0 s2.heap/\(∀ b∈fp,Z0G X pins H' b)/\R J H'
def PI (X:Cx)(tg iter:Expr)(wi:TI):Prop :=
 ∀ (pins:Pn_) (s:Shared) (σ:St) (H:Hp) (R:It->Hp->Prop),Inv X pins σ H s->wi σ H R ->
  wpAny (model X.prog X.w) X.A (eval iter X.env) (fun v s1=>wpAny (model X.prog X.w) X.A (pyIter v) (PIE X pins σ tg R) X.xe s1) X.xe s
theorem ZeX {M:Model}{A:Around}{E:Ps_}{s:Shared}{tg:Expr}{it:Addr}{u:Value}{o:Obj}{n:String}{vs:Au_}{Q:Unit->Shared->Prop}(ho:s.heap.get? it=some o)(hc:o.cls=.type n)(hd:o.data=.fields vs)
  (hn:["enumerate","zip","dict_itemiterator","dict_reverseitemiterator","odict_iterator","itertools.zip_longest","itertools.pairwise"].contains n=false) (hQ:Q () s):wpAny M A (letOwnedTupleGo tg (.ref it) u) Q E s:=by
 unfold letOwnedTupleGo
 cases tg <;> first
  |exact Z4 hQ
  |(cases u <;> first
    |exact Z4 hQ
    |(refine Z0 (Z1F ho ?_);rw[hc,hd];show wpAny M A (if (["enumerate","zip","dict_itemiterator","dict_reverseitemiterator","odict_iterator","itertools.zip_longest","itertools.pairwise"].contains n&&vs[0]? == some (rawInt _))=true then _ else _) Q E s;rw[if_neg (by intro h;rw[hn,Zfv] at h;cases h)];exact Z4 hQ))
noncomputable def Itl (K:Fg_)(a:Addr):It :=
 ⟨fun i H=>∃ xs x,SqL K H a xs/\xs[i]?=some x,fun i H x H'=>H'=H/\∀ xs,SqL K H a xs->xs[i]?=some x,fun i H=>∃ xs,SqL K H a xs/\xs.length<=i⟩
noncomputable def Itt (K:Fg_)(a:Addr):It :=
 ⟨fun i H=>∃ xs x,SqT K H a xs/\xs[i]?=some x,fun i H x H'=>H'=H/\∀ xs,SqT K H a xs->xs[i]?=some x,fun i H=>∃ xs,SqT K H a xs/\xs.length<=i⟩
noncomputable def Itr (lo:Int)(n:Nat):It:=⟨fun i _=>i<n,fun i H x H'=>H'=H/\x=.int (lo+i),fun i _=>n<=i⟩
theorem Z7D {P:Program}{w:World}{K:Fg_}{tg:Expr}(a it:Addr):Zcn P w K tg (Itl K a) [it] it (fun i h=>h.IsListIter it a i) where
 mem:=by simp
 obj:=fun i h st b hb=>by
  have e:b=it:=by simpa using hb
  subst e
  refine W_ fun n9=>?_;obtain⟨o,e,c,d⟩:=st;apply n9;clear n9
  exact⟨o,e,fun v z=>by rw[d] at z;cases z⟩
 keep:=fun i h h' st k=>st.at fun o e=>k it (by simp) o e
 item:=by
  intro X hP hw hK hc i pins s σ H E I hf st hg
  subst hP hw hK
  refine W_ fun n9=>?_;obtain⟨xs,x,hq,hx⟩:=hg
  obtain⟨its,rv,p,hz⟩:=I.list hq
  obtain⟨u,hu,ru⟩:=rv.get hx
  obtain⟨f0,f1,f2,f3,f4,f5⟩:=hf it (by simp)
  apply n9;clear n9
  refine wpAny_pyNext_list_item st p.isList (x:=u) (by simpa using hu) fun h' st' sb=>?_
  have I1:Inv X pins σ H { s with heap:=h' }:=I.turned (t':=s.toks) (fun b o hb e=>(sb.2 b hb).trans e) f0 f1 f3 f4 f5
  refine W_ fun n9=>?_;obtain⟨o,e,c,d⟩:=id st';apply n9;clear n9
  exact⟨u,rfl,ZeX (s:={ s with heap:=h' }) e c d (by decide) ⟨x,H,I1,ru,⟨rfl,fun ys hy=>by rw[I.list_inj hy hq];exact hx⟩,st',fun b hb=>(hf b hb).1⟩⟩
 done:=by
  intro X hP hw hK hc i pins s σ H E I hf st hg
  subst hP hw hK
  refine W_ fun n9=>?_;obtain⟨xs,hq,hx⟩:=hg
  obtain⟨its,rv,p,hz⟩:=I.list hq
  obtain⟨f0,f1,f2,f3,f4,f5⟩:=hf it (by simp)
  apply n9;clear n9
  have hl:=rv.length
  exact wpAny_pyNext_list_end (I.ok.hd hc) st p.isList (by simp;lia) fun h' eb=>⟨rfl,I.turned (t':=s.toks) (fun b o hb e=>eb b o hb e) f0 f1 f3 f4 f5⟩
 self:=fun _ _ _ _ _ st h=>wpAny_pyIter_listiter st h
theorem Z6i {P:Program}{w:World}{K:Fg_}{tg:Expr}(a it:Addr):Zcn P w K tg (Itt K a) [it] it (fun i h=>h.IsTupleIter it a i) where
 mem:=by simp
 obj:=fun i h st b hb=>by
  have e:b=it:=by simpa using hb
  subst e
  refine W_ fun n9=>?_;obtain⟨o,e,c,d⟩:=st;apply n9;clear n9
  exact⟨o,e,fun v z=>by rw[d] at z;cases z⟩
 keep:=fun i h h' st k=>st.at fun o e=>k it (by simp) o e
 item:=by
  intro X hP hw hK hc i pins s σ H E I hf st hg
  subst hP hw hK
  refine W_ fun n9=>?_;obtain⟨xs,x,hq,hx⟩:=hg
  obtain⟨its,rv,p,hz⟩:=I.tuple hq
  obtain⟨u,hu,ru⟩:=rv.get hx
  obtain⟨f0,f1,f2,f3,f4,f5⟩:=hf it (by simp)
  apply n9;clear n9
  refine wpAny_pyNext_tuple_item st (show s.heap.IsTuple a its.toArray from p) (x:=u) (by simpa using hu) fun h' st' sb=>?_
  have I1:Inv X pins σ H { s with heap:=h' }:=I.turned (t':=s.toks) (fun b o hb e=>(sb.2 b hb).trans e) f0 f1 f3 f4 f5
  refine W_ fun n9=>?_;obtain⟨o,e,c,d⟩:=id st';apply n9;clear n9
  exact⟨u,rfl,ZeX (s:={ s with heap:=h' }) e c d (by decide) ⟨x,H,I1,ru,⟨rfl,fun ys hy=>by rw[I.tuple_inj hy hq];exact hx⟩,st',fun b hb=>(hf b hb).1⟩⟩
 done:=by
  intro X hP hw hK hc i pins s σ H E I hf st hg
  subst hP hw hK
  refine W_ fun n9=>?_;obtain⟨xs,hq,hx⟩:=hg
  obtain⟨its,rv,p,hz⟩:=I.tuple hq
  obtain⟨f0,f1,f2,f3,f4,f5⟩:=hf it (by simp)
  apply n9;clear n9
  have hl:=rv.length
  exact wpAny_pyNext_tuple_end (I.ok.hd hc) st (show s.heap.IsTuple a its.toArray from p) (by simp;lia) fun h' eb=>⟨rfl,I.turned (t':=s.toks) (fun b o hb e=>eb b o hb e) f0 f1 f3 f4 f5⟩
 self:=fun _ _ _ _ _ st h=>wpAny_pyIter_tupleiter st h
theorem Z6j {P:Program}{w:World}{K:Fg_}{tg:Expr}(it:Addr)(lo:Int)(n:Nat):Zcn P w K tg (Itr lo n) [it] it (fun i h=>IsRangeIter h it (lo+(i:Nat)*1) ((n:Int)-(i:Nat)) 1) where
 mem:=by simp
 obj:=fun i h st b hb=>by
  have e:b=it:=by simpa using hb
  subst e
  exact⟨_,st,fun v z=>by
   have z':Data.fields _=Data.cell v:=z
   cases z'⟩
 keep:=fun i h h' st k=>k it (by simp) _ st
 item:=by
  intro X hP hw hK hc i pins s σ H E I hf st hg
  subst hP hw hK
  obtain⟨f0,f1,f2,f3,f4,f5⟩:=hf it (by simp)
  have W:=Walks.range (prog:=X.prog) (w:=X.w) (I.ok.hd hc) it lo 1 n
  refine W.item i s _ _ hg st fun v h' tk hv st' kk=>?_
  obtain⟨t,rfl⟩:=hv
  have I1:Inv X pins σ H { s with heap:=h',toks:=tk }:=I.turned (fun b o hb e=>kk b o (by simpa using hb) e) f0 f1 f3 f4 f5
  refine⟨_,rfl,ZeX (s:={ s with heap:=h',toks:=tk }) (n:="range_iterator") st' rfl rfl (by decide) ⟨.int (lo+i),H,I1,⟨t,?_⟩,⟨rfl,rfl⟩,st',fun b hb=>(hf b hb).1⟩⟩
  rw[Int.mul_one]
 done:=by
  intro X hP hw hK hc i pins s σ H E I hf st hg
  subst hP hw hK
  obtain⟨f0,f1,f2,f3,f4,f5⟩:=hf it (by simp)
  exact wpAny_pyNext_range_end (I.ok.hd hc) st (by have:n<=i:=hg;lia) fun h' eb=>⟨rfl,I.turned (t':=s.toks) (fun b o hb e=>eb b o hb e) f0 f1 f3 f4 f5⟩
 self:=fun _ _ _ _ _ st h=>wpAny_pyIter_rangeiter st h
section
variable {X:Cx}{tg:Expr}
def ZiN (K:Fg_)(tl:TE):TI:=fun σ H R=>tl σ H fun x H1=>∃ a,x=.ref a/\(∃ xs,SqL K H1 a xs)/\R (Itl K a) H1
def ZjT (K:Fg_)(tl:TE):TI:=fun σ H R=>tl σ H fun x H1=>∃ a,x=.ref a/\(∃ xs,SqT K H1 a xs)/\R (Itt K a) H1
theorem Z8l(hl:PE X l tl):PI X tg l (ZiN X.K tl):=by
 intro pins s σ H R I h
 refine thn (hl pins s σ H _ I h) fun v s1 z1_=>?_
 refine W_ fun n9=>?_;obtain ⟨x,H1,I1,r1,q1⟩:=z1_
 obtain⟨a,e,⟨xs,hq⟩,q⟩:=q1;apply n9;clear n9
 subst e
 cases r1
 refine W_ fun n9=>?_;obtain⟨its,rv,p,hz⟩:=I1.list hq;apply n9;clear n9
 refine WP p.isList ?_
 refine⟨s1.heap.objs.size,[s1.heap.objs.size],_,_,H1,rfl,I1.kept (t':=s1.toks) fun b o e=>Z3 _ e,Z7D a _,⟨_,Zl _ rfl,rfl,rfl⟩,fun b hb=>?_,q⟩
 have e:b=s1.heap.objs.size:=by simpa using hb
 subst e
 exact I1.fpOk (Z7 _) (I1.hok.fresh (Z7 _))
theorem ZcP(hl:PE X l tl):PI X tg l (ZjT X.K tl):=by
 intro pins s σ H R I h
 refine thn (hl pins s σ H _ I h) fun v s1 z1_=>?_
 refine W_ fun n9=>?_;obtain ⟨x,H1,I1,r1,q1⟩:=z1_
 obtain⟨a,e,⟨xs,hq⟩,q⟩:=q1;apply n9;clear n9
 subst e
 cases r1
 refine W_ fun n9=>?_;obtain⟨its,rv,p,hz⟩:=I1.tuple hq;apply n9;clear n9
 refine M6 (show s1.heap.IsTuple a its.toArray from p) ?_
 refine⟨s1.heap.objs.size,[s1.heap.objs.size],_,_,H1,rfl,I1.kept (t':=s1.toks) fun b o e=>Z3 _ e,Z6i a _,⟨_,Zl _ rfl,rfl,rfl⟩,fun b hb=>?_,q⟩
 have e:b=s1.heap.objs.size:=by simpa using hb
 subst e
 exact I1.fpOk (Z7 _) (I1.hok.fresh (Z7 _))
theorem Z5e {pins:Pn_}{σ:St}{H:Hp}{s:Shared}{R:It->Hp->Prop}{E:Ps_}{lo hi:Int}{t u v:Tok}{tk:Nat}(I:Inv X pins σ H s)(h1:-(2 ^ 62)<=lo)(h2:lo<2 ^ 62)(h3:-(2 ^ 62)<=hi)(h4:hi<2 ^ 62)
  (q:R (Itr lo (hi-lo).toNat) H):wpAny (model X.prog X.w) X.A (pyIter (.ref s.heap.objs.size)) (PIE X pins σ tg R) E { s with heap:=s.heap.push { cls:=.type "range",data:=.fields #[.int lo t,.int hi u,.int 1 v] },toks:=tk }:=by
 refine wpAny_pyIter_range (IsRange.new ..) (small_one h1 h2 h3 h4) ?_
 have I1:Inv X pins σ H { s with heap:=s.heap.push { cls:=.type "range",data:=.fields #[.int lo t,.int hi u,.int 1 v] },toks:=tk }:=I.kept fun b o e=>Z3 _ e
 refine⟨(s.heap.push { cls:=.type "range",data:=.fields #[.int lo t,.int hi u,.int 1 v] }).objs.size,[(s.heap.push { cls:=.type "range",data:=.fields #[.int lo t,.int hi u,.int 1 v] }).objs.size],_,_,H,rfl,
  I1.kept (t':=tk) fun b o e=>Z3 _ e,Z6j _ lo (hi-lo).toNat,?_,fun b hb=>?_,q⟩
 ·have e1:lo+((0:Nat):Int)*1=lo:=by simp
  have e2:(((hi-lo).toNat:Nat):Int)-((0:Nat):Int)=Builtin.Range.rangeSize lo hi 1:=by rw[rangeSize_one];split <;> lia
  show IsRangeIter _ _ (lo+((0:Nat):Int)*1) ((((hi-lo).toNat:Nat):Int)-((0:Nat):Int)) 1
  rw[e1,e2]
  exact Zl _ rfl
 ·have e:b=(s.heap.push { cls:=.type "range",data:=.fields #[.int lo t,.int hi u,.int 1 v] }).objs.size:=by simpa using hb
  subst e
  exact I1.fpOk (Z7 _) (I1.hok.fresh (Z7 _))
def ZiM (ta:TA):TI:=fun σ H R=>ta σ H fun vs H1=>∃ j:Int,vs=[.int j]/\-(2 ^ 62)<=j/\j<2 ^ 62/\R (Itr 0 j.toNat) H1
def ZiL (ta:TA):TI:=fun σ H R=>ta σ H fun vs H1=>∃ i j:Int,vs=[.int i,.int j]/\(-(2 ^ 62)<=i/\i<2 ^ 62/\-(2 ^ 62)<=j/\j<2 ^ 62)/\R (Itr i (j-i).toNat) H1
theorem Z8k (hg:Gl X "range") (hm:X.mg "range"=none) (ha:PA X [a] ta) (hs:autoParam (starEach [a] X.env=[(false,eval a X.env)]) q_._auto_1):PI X tg (.Call (.Name "range" p) [a] [] pos) (ZiM ta):=by
 intro pins s σ H R I h
 refine Call_ (BW I hg hm boot_range (G4 (thn (ha pos pins s σ H _ I h) fun us s1 z1_=>?_) hs rfl))
 refine W_ fun n9=>?_;obtain ⟨vs,H1,I1,r1,q1⟩:=z1_
 obtain⟨j,e,q1,q2,q⟩:=q1;apply n9;clear n9
 subst e
 cases r1 with
 |cons r rr =>
  cases rr
  obtain⟨t,rfl⟩:=r
  exact call_range_1 (Z5e I1 (by simp) (by simp) q1 q2 (by simpa using q))
theorem Z8j {a b:Expr} {ta:TA} {p pos:Pos} (hg:Gl X "range") (hm:X.mg "range"=none) (ha:PA X [a,b] ta) (hs:autoParam (starEach [a,b] X.env=[(false,eval a X.env),(false,eval b X.env)]) q_._auto_1) (hs2:autoParam (starEach [b] X.env=[(false,eval b X.env)]) q_._auto_1) :
  PI X tg (.Call (.Name "range" p) [a,b] [] pos) (ZiL ta):=by
 intro pins s σ H R I h
 refine Call_ (BW I hg hm boot_range (G4 (thn (ha pos pins s σ H _ I h) fun us s1 z1_=>?_) (by rw[hs,hs2]) (by rw[hs2];rfl)))
 refine W_ fun n9=>?_;obtain ⟨vs,H1,I1,r1,q1⟩:=z1_
 obtain⟨i,j,e,⟨q1,q2,q3,q4⟩,q⟩:=q1;apply n9;clear n9
 subst e
 cases r1 with
 |cons r rr =>
  cases rr with
  |cons r' rr =>
   cases rr
   refine W_ fun n9=>?_;obtain⟨t,rfl⟩:=r
   obtain⟨t',rfl⟩:=r';apply n9;clear n9
   exact call_range_2 (Z5e I1 q1 q2 q3 q4 q)
def ZjL (wi:TI)(g:TG)(tb:TS):TS:=fun D σ H=>wi σ H fun J H1=>∃ W:Nat->Nat->St->Hp->Prop,(∃ m,W 0 m σ H1)/\∀ i m σ H,W i m σ H ->
 (J.stop i H/\D.nx σ H)\/(J.go i H/\∃ N:St->Hp->Prop,(∀ aF H',N aF H'->∃ m',m'<m/\W (i+1) m' aF H')/\∀ x H',J.yld i H x H'->g x σ H' fun aL H2=>tb { D with nx:=N,ct:=N,bk:=D.nx } aL H2)
noncomputable def Z2j (fp:List Addr)(h:Heap):Pn_:=fp.filterMap fun b=>(h.get? b).map fun o=>(b,o)
theorem WD(hb:b∈fp)(e:h.get? b=some o):(b,o)∈Z2j fp h:=NH.mpr ⟨b,hb,by rw[e];rfl⟩
theorem Z8L(hp:p∈Z2j fp h):p.1∈fp/\h.get? p.1=some p.2:=by
 refine W_ fun n9=>?_;obtain⟨b,hb,e⟩:=NH.mp hp;apply n9;clear n9
 cases q:h.get? b with
 |none=>rw[q] at e;cases e
 |some o =>
  rw[q] at e
  have e':(b,o)=p:=Jd e
  subst e'
  exact⟨hb,q⟩
theorem Inv.pinned {pins:Pn_}{σ:St}{H:Hp}{s:Shared}{fp:List Addr}(I:Inv X pins σ H s)(hf:∀ b∈fp,Z0G X pins H b)(ho:∀ b∈fp,∃ o,s.heap.get? b=some o/\∀ v,o.data≠.cell v):Inv X (pins++Z2j fp s.heap) σ H s :=
 I.pins_of fun p hp=>(ZR.mp hp).elim (fun z=>I.pin p (Zs _ z)) fun z=>by
  refine W_ fun n9=>?_;obtain⟨hb,e⟩:=Z8L z
  obtain⟨f0,f1,f2,_⟩:=hf p.1 hb
  obtain⟨o,e',d⟩:=ho p.1 hb;apply n9;clear n9
  rw[e] at e';cases e'
  exact⟨e,f0,f1,f2,d⟩
theorem Inv.unpinned {pins pl:Pn_}{σ:St}{H:Hp}{s:Shared}(I:Inv X (pins++pl) σ H s):Inv X pins σ H s:=I.pins_of fun p hp=>I.pin p (Zs _ (Js _ hp))
theorem Zga(hp:YC (model X.prog X.w) X.A X.env X.xe)(hc:X.calm=true)(hi:PI X tg iter wi)(hg:PG X tg g)(hb:PSs X body tb)
  (hs:autoParam (∀ x,foldedSetIterable iter X.env x=pure x) qc._auto_1):PS X (.For tg iter body [] pos) (ZjL wi g tb):=by
 intro pins s σ H D I h
 refine wpAny_For (thn (hi pins s σ H _ I h) fun v s1 h1=>thn h1 fun itv s2 h2=>?_) hs
 refine W_ fun n9=>?_;obtain⟨it,fp,tn,J,H2,e,I2,T,st2,f2,W,⟨m0,w0⟩,turn⟩:=h2;apply n9;clear n9
 subst e
 have stat:∀ {H':Hp},(∀ b∈fp,H' b=none)->∀ b∈fp,Z0G X pins H' b:=fun hn b hb=>⟨hn b hb,(f2 b hb).2⟩
 refine codeAny_forLoop_any (fun n s'=>∃ i aF H',Inv X pins aF H' s'/\tn i s'.heap/\(∀ b∈fp,H' b=none)/\W i n aF H') ?_ m0 ⟨0,σ,H2,I2,st2,fun b hb=>(f2 b hb).1,w0⟩
 rintro n s3 ⟨i,aR,H3,I3,st3,fr3,w3⟩
 rcases turn i n aR H3 w3 with ⟨stop,qn⟩|⟨go,N,hN,step⟩
 ·refine GT hp (thn (T.done X rfl rfl rfl hc i pins s3 aR H3 X.xe I3 (stat fr3) st3 stop) fun r s4 z1_=>?_)
  obtain ⟨hr,I4⟩:=z1_
  subst hr
  exact BD ⟨aR,H3,I4,qn⟩
 ·refine GT hp (thn (T.item X rfl rfl rfl hc i pins s3 aR H3 X.xe I3 (stat fr3) st3 go) fun r s4 z1_=>?_)
  refine W_ fun n9=>?_;obtain ⟨u,hr,h4⟩:=z1_;apply n9;clear n9
  subst hr
  refine GT hp (thn h4 fun _ s5 z1_=>?_)
  refine W_ fun n9=>?_;obtain ⟨x,H5,I5,r5,y5,st5,fr5⟩:=z1_;apply n9;clear n9
  have I5':=I5.pinned (stat fr5) (T.obj _ _ st5)
  refine GT hp (thn (hg _ s5 aR H5 x u _ I5' r5 (step x H5 y5)) fun _ s6 z1_=>?_)
  refine W_ fun n9=>?_;obtain ⟨aY,H6,I6,q6⟩:=z1_;apply n9;clear n9
  refine GT hp (thn (hb _ s6 aY H6 _ I6 q6) fun f s7 q7=>?_)
  have again:∀ {aP:St} {H7:Hp},Inv X (pins++Z2j fp s5.heap) aP H7 s7->N aP H7->∃ m,m<n/\∃ i aF H',Inv X pins aF H' s7/\tn i s7.heap/\(∀ b∈fp,H' b=none)/\W i m aF H':=fun {aP H7} I7 n7=>by
   refine W_ fun n9=>?_;obtain⟨m',hm,w7⟩:=hN aP H7 n7;apply n9;clear n9
   refine⟨m',hm,i+1,aP,H7,I7.unpinned,T.keep _ _ _ st5 fun b hb o e=>(I7.pin (b,o) (Zs _ (Zs _ (WD hb e)))).1,fun b hb=>?_,w7⟩
   refine W_ fun n9=>?_;obtain⟨o,e,d⟩:=T.obj _ _ st5 b hb;apply n9;clear n9
   exact (I7.pin (b,o) (Zs _ (Zs _ (WD hb e)))).2.1
  cases f with
  |next=>obtain⟨aP,H7,I7,n7⟩:=q7;exact again I7 n7
  |cont=>obtain⟨aP,H7,I7,n7⟩:=q7;exact again I7 n7
  |brk=>obtain⟨aP,H7,I7,q7⟩:=q7;exact⟨aP,H7,I7.unpinned,q7⟩
  |ret v=>obtain⟨x7,aP,H7,I7,r7,q7⟩:=q7;exact⟨x7,aP,H7,I7.unpinned,r7,q7⟩
end
abbrev R2:=V->V->Hp->VK->Prop
def OpR (X:Cx)(f:Value->Value->Sem Value)(r:R2):Prop :=
 ∀ (pins:Pn_) (s:Shared) (σ:St) (H:Hp) (x y:V) (v u:Value) (Q:VK),Inv X pins σ H s->RelV x v->RelV y u->r x y H Q ->
  wpAny (model X.prog X.w) X.A (f v u) (EP X pins σ Q) X.xe s
def UnR (X:Cx)(f:Value->Sem Value)(r:V->Hp->VK->Prop):Prop :=
 ∀ (pins:Pn_) (s:Shared) (σ:St) (H:Hp) (x:V) (v:Value) (Q:VK),Inv X pins σ H s->RelV x v->r x H Q ->
  wpAny (model X.prog X.w) X.A (f v) (EP X pins σ Q) X.xe s
def QL (X:Cx)(f:Value)(r:Lv_->Hp->VK->Prop):Prop :=
 ∀ (pins:Pn_) (s:Shared) (σ:St) (H:Hp) (xs:Lv_) (us:Lu_) (Q:VK),Inv X pins σ H s->Uh xs us->r xs H Q ->
  wpAny (model X.prog X.w) X.A (call f us) (EP X pins σ Q) X.xe s
def tOp (r:R2)(ta tb:TE):TE:=fun σ H Q=>ta σ H fun x H1=>tb σ H1 fun y H2=>r x y H2 Q
def tUn (r:V->Hp->VK->Prop)(ta:TE):TE:=fun σ H Q=>ta σ H fun x H1=>r x H1 Q
def rI (C:Int->Int->Prop)(g:Int->Int->V):R2:=fun x y H Q=>∃ i j,x=.int i/\y=.int j/\C i j/\Q (g i j) H
def rI0 (g:Int->Int->V):R2:=fun x y H Q=>∃ i j,x=.int i/\y=.int j/\Q (g i j) H
def rU (g:Int->V):V->Hp->VK->Prop:=fun x H Q=>∃ i,x=.int i/\Q (g i) H
section
variable {X:Cx}{a b c:Expr}{ta tb tc:TE}{pos:Pos}
theorem Zj2 (ha:PE X a ta)(hb:PE X b tb){pins:Pn_}{s:Shared}{σ:St}{H:Hp}{R:V->V->Hp->Prop}(I:Inv X pins σ H s)
  (h:ta σ H fun x H1=>tb σ H1 fun y H2=>R x y H2) {Q:Ps_} {f:Value->Value->Sem Value}
  (hf:∀ v u s2 x y H2,Inv X pins σ H2 s2->RelV x v->RelV y u->R x y H2->wpAny (model X.prog X.w) X.A (f v u) Q X.xe s2) :
  wpAny (model X.prog X.w) X.A (eval a X.env) (fun v aG=>wpAny (model X.prog X.w) X.A (eval b X.env) (fun u aC=>wpAny (model X.prog X.w) X.A (f v u) Q X.xe aC) X.xe aG) X.xe s:=by
 refine thn (ha pins s σ H _ I h) fun v s1 z1_=>?_
 refine W_ fun n9=>?_;obtain ⟨x,H1,I1,r1,q1⟩:=z1_;apply n9;clear n9
 refine thn (hb pins s1 σ H1 _ I1 q1) fun u s2 z1_=>?_
 refine W_ fun n9=>?_;obtain ⟨y,H2,I2,r2,q2⟩:=z1_;apply n9;clear n9
 exact hf v u s2 x y H2 I2 r1 r2 q2
theorem Zip(ho:OpR X (binaryOp op) r)(ha:PE X a ta)(hb:PE X b tb):PE X (.BinOp a op b pos) (tOp r ta tb):=by
 intro pins s σ H Q I h
 exact wpAny_BinOp (Zj2 ha hb I h fun v u s2 x y H2 I2 rx ry q=>ho pins s2 σ H2 x y v u Q I2 rx ry q)
theorem Zio(ho:UnR X (unaryOp op) r)(ha:PE X a ta):PE X (.UnaryOp op a pos) (tUn r ta):=by
 intro pins s σ H Q I h
 exact UnaryOp_ (thn (ha pins s σ H _ I h) fun v s1 ⟨x,H1,I1,r1,q1⟩=>ho pins s1 σ H1 x v Q I1 r1 q1)
theorem opI {f:Value->Value->Sem Value}{C:Int->Int->Prop}{g:Int->Int->Int}
  (rule:∀ (i j:Int) (t u:Tok) (s:Shared) (Q:Ps_) (E:Ps_),C i j->Q (.int (g i j) s.toks) { s with toks:=s.toks+1 }->wpAny (model X.prog X.w) X.A (f (.int i t) (.int j u)) Q E s) :
  OpR X f (rI C fun i j=>.int (g i j)):=by
 intro pins s σ H x y v u Q I rx ry h
 refine W_ fun n9=>?_;obtain⟨i,j,rfl,rfl,hc,q⟩:=h
 obtain⟨t,rfl⟩:=rx
 obtain⟨t',rfl⟩:=ry;apply n9;clear n9
 exact rule i j t t' s _ _ hc ⟨.int (g i j),H,I.tok _,⟨_,rfl⟩,q⟩
theorem Zjp {f:Value->Value->Sem Value}{g:Int->Int->Int}
  (rule:∀ (i j:Int) (t u:Tok) (s:Shared) (Q:Ps_) (E:Ps_),Q (.int (g i j) s.toks) { s with toks:=s.toks+1 }->wpAny (model X.prog X.w) X.A (f (.int i t) (.int j u)) Q E s) :
  OpR X f (rI0 fun i j=>.int (g i j)):=by
 intro pins s σ H x y v u Q I rx ry h
 refine W_ fun n9=>?_;obtain⟨i,j,rfl,rfl,q⟩:=h
 obtain⟨t,rfl⟩:=rx
 obtain⟨t',rfl⟩:=ry;apply n9;clear n9
 exact rule i j t t' s _ _ ⟨.int (g i j),H,I.tok _,⟨_,rfl⟩,q⟩
theorem Ziz {f:Value->Value->Sem Value}{g:Int->Int->Bool}
  (rule:∀ (i j:Int) (t u:Tok) (s:Shared) (Q:Ps_) (E:Ps_),Q (.bool (g i j)) s->wpAny (model X.prog X.w) X.A (f (.int i t) (.int j u)) Q E s) :
  OpR X f (rI0 fun i j=>.bl (g i j)):=by
 intro pins s σ H x y v u Q I rx ry h
 refine W_ fun n9=>?_;obtain⟨i,j,rfl,rfl,q⟩:=h
 obtain⟨t,rfl⟩:=rx
 obtain⟨t',rfl⟩:=ry;apply n9;clear n9
 exact rule i j t t' s _ _ ⟨.bl (g i j),H,I,rfl,q⟩
def Zk0 (i j:Int):Prop:=0<j/\j<1073741824
def Zi3 (i j:Int):Prop:=(-(2 ^ 64)<i/\i<2 ^ 64)\/(-(2 ^ 64)<j/\j<2 ^ 64)
theorem Zi3.ok(h:Zi3 i j):IntMulOk i j:=by
 rcases h with ⟨h1,h2⟩|⟨h1,h2⟩
 ·exact .of_left (Zk6 h1 h2)
 ·exact .of_right (Zk6 h1 h2)
theorem ZgH:OpR X (binaryOp .Add) (rI0 fun i j=>.int (i+j)):=Zjp fun _ _ _ _ _ _ _ q=>add_int q
theorem ZgC:OpR X (binaryOp .Sub) (rI0 fun i j=>.int (i-j)):=Zjp fun _ _ _ _ _ _ _ q=>sub_int q
theorem ZgE:OpR X (binaryOp .Mult) (rI Zi3 fun i j=>.int (i*j)):=opI fun _ _ _ _ _ _ _ hc q=>mul_int q hc.ok
theorem Zex:OpR X (binaryOp .FloorDiv) (rI Zk0 fun i j=>.int (i / j)):=opI fun i j _ _ _ _ _ hc q=>by
 have h1:(0:Int)<j:=hc.1
 have h2:j<1073741824:=hc.2
 exact floordiv_int (by lia) (by rw[Int.fdiv_eq_ediv_of_nonneg i (by lia)];exact q) (.inl (PyProof.noPylong_small (by omega)))
theorem ZgF:OpR X (binaryOp .Mod) (rI (fun _ j=>0<j) fun i j=>.int (i%j)):=opI fun i j _ _ _ _ _ hc q=>by
 have h1:(0:Int)<j:=hc
 exact mod_int' (by lia) (by rw[Int.fmod_eq_emod_of_nonneg i (by lia)];exact q)
theorem unI {f:Value->Sem Value}{g:Int->Int}
  (rule:∀ (i:Int) (t:Tok) (s:Shared) (Q:Ps_) (E:Ps_),Q (.int (g i) s.toks) { s with toks:=s.toks+1 }->wpAny (model X.prog X.w) X.A (f (.int i t)) Q E s) :
  UnR X f (rU fun i=>.int (g i)):=by
 intro pins s σ H x v Q I rx h
 refine W_ fun n9=>?_;obtain⟨i,rfl,q⟩:=h
 obtain⟨t,rfl⟩:=rx;apply n9;clear n9
 exact rule i t s _ _ ⟨.int (g i),H,I.tok _,⟨_,rfl⟩,q⟩
theorem ZfB:UnR X (unaryOp .USub) (rU fun i=>.int (-i)):=unI fun _ _ _ _ _ q=>neg_int q
theorem Z9v {pins:Pn_}{σ:St}{H:Hp}{s:Shared}{Q:VK}{k k':Bool}(I:Inv X pins σ H s)(q:Q (.bl k) H)(e:k=k'):EP X pins σ Q (.bool k') s:=by
 subst e
 exact⟨.bl k,H,I,rfl,q⟩
theorem Ziw:OpR X (compareOp .Lt) (rI0 fun i j=>.bl (decide (i<j))):=Ziz fun _ _ _ _ _ _ _ q=>lt_int q
theorem Zix:OpR X (compareOp .Gt) (rI0 fun i j=>.bl (decide (j<i))):=Ziz fun _ _ _ _ _ _ _ q=>gt_int q
theorem Ziy:OpR X (compareOp .GtE) (rI0 fun i j=>.bl (decide (j<=i))):=Ziz fun _ _ _ _ _ _ _ q=>ge_int q
theorem Z8D:OpR X (compareOp .Lt) (fun x y H Q=>∃ i j,x=.str i/\y=.str j/\Q (.bl (decide (i.cps.toList<j.cps.toList))) H):=by
 intro pins s σ H x y v u Q I rx ry h
 refine W_ fun n9=>?_;obtain⟨i,j,rfl,rfl,q⟩:=h
 obtain⟨t,rfl⟩:=rx
 obtain⟨t',rfl⟩:=ry;apply n9;clear n9
 exact lt_str (Z9v I q rfl)
theorem ZcY:OpR X (compareOp .Is) (fun x y H Q=>y=.non/\Q (.bl (decide (x=.non))) H):=by
 intro pins s σ H x y v u Q I rx ry h
 obtain⟨rfl,q⟩:=h
 cases ry
 refine is_none_gen (Z9v I q ?_)
 cases x <;> first
  |(cases rx;rfl)
  |(obtain⟨t,rfl⟩:=rx;rfl)
theorem Zet:OpR X (compareOp .IsNot) (fun x y H Q=>y=.non/\Q (.bl (!decide (x=.non))) H):=by
 intro pins s σ H x y v u Q I rx ry h
 obtain⟨rfl,q⟩:=h
 cases ry
 refine isnot_none_gen (Z9v I q ?_)
 cases x <;> first
  |(cases rx;rfl)
  |(obtain⟨t,rfl⟩:=rx;rfl)
theorem OpR.or(h:OpR X f r)(h':OpR X f r'):OpR X f (fun x y H Q=>r x y H Q\/r' x y H Q):=by
 intro pins s σ H x y v u Q I rx ry q
 rcases q with q|q
 ·exact h pins s σ H x y v u Q I rx ry q
 ·exact h' pins s σ H x y v u Q I rx ry q
theorem WV (b:Expr)(h:autoParam (op≠.In) qa._auto_1)(h2:autoParam (op≠.NotIn) qa._auto_1):behindInMarks op b=false:=by
 have e1:(op == CmpOp.In)=false:=by cases op <;> first|rfl|exact absurd rfl h
 have e2:(op == CmpOp.NotIn)=false:=by cases op <;> first|rfl|exact absurd rfl h2
 cases b <;> simp[behindInMarks,e1,e2]
theorem Ze2(ho:OpR X (compareOp op) r)(ha:PE X a ta)(hb:PE X b tb)(hm:behindInMarks op b=false):PE X (.Compare a [op] [b] pos) (tOp r ta tb):=by
 intro pins s σ H Q I h
 exact wpAny_Compare1 (Zj2 ha hb I h fun v u s2 x y H2 I2 rx ry q=>ho pins s2 σ H2 x y v u Q I2 rx ry q) hm
def Zid (t:TE):TT:=fun σ H Q=>t σ H fun x H'=>∃ k,x=.bl k/\Q k H'
theorem ZdT(ho:OpR X (compareOp op) r)(ha:PE X a ta)(hb:PE X b tb)(hm:behindInMarks op b=false):PT X (.Compare a [op] [b] pos) (Zid (tOp r ta tb)):=by
 intro pins s σ H Q I h
 refine wpAny_isTrue_Compare1 (thn (ha pins s σ H _ I h) fun v s1 ⟨x,H1,I1,r1,q1⟩=>thn (hb pins s1 σ H1 _ I1 q1) fun u s2 ⟨y,H2,I2,r2,q2⟩ =>
  thn (ho pins s2 σ H2 x y v u _ I2 r1 r2 q2) fun c s3 ⟨z,H3,I3,r3,k,e,q3⟩=>?_) hm
 subst e
 cases r3
 exact WO ⟨H3,I3,q3⟩
theorem Z2v:(sizeLine:Nat)<2 ^ 63:=by rw[sizeLine_eq];decide
theorem Z6H:OpR X (binaryOp .Add) (fun x y H Q=>∃ i j,x=.str i/\y=.str j/\i.length+j.length<=sizeLine/\Q (.str (i++j)) H):=by
 intro pins s σ H x y v u Q I rx ry h
 refine W_ fun n9=>?_;obtain⟨i,j,rfl,rfl,hz,q⟩:=h
 obtain⟨t,rfl⟩:=rx
 obtain⟨t',rfl⟩:=ry;apply n9;clear n9
 exact add_str (fun t' tk=>⟨.str (i++j),H,I.tok _,⟨_,rfl⟩,q⟩) hz
theorem vals1 {x:V}{us:Lu_}(r:Uh [x] us):∃ u,us=[u]/\RelV x u:=by
 cases r with
 |cons r1 r2=>cases r2;exact⟨_,rfl,r1⟩
end
structure Nm (k:Nat)(A:Around):Prop where
 hd:A.handled=none
 dp:A.depth+3*k+5<recursionLimit
 un:A.units+16*k+200<cLine
theorem Nm.mono(r:Nm k A)(h:j<=k):Nm j A:=⟨r.hd,by have:=r.dp;lia,by have:=r.un;lia⟩
theorem Nm.deeper(r:Nm (k+1) A)(env:Env):Nm k (A.deeper env) :=
 ⟨r.hd,by have:=r.dp;show A.depth+1+3*k+5<_;lia,by have:=r.un;show A.units+3+16*k+200<_;lia⟩
theorem Nm.in1(r:Nm (k+1) A):Nm k A.in1 :=
 ⟨r.hd,by have:=r.dp;show A.depth+3*k+5<_;lia,by have:=r.un;show A.units+1+16*k+200<_;lia⟩
theorem Nm.depth(r:Nm k A):A.depth<recursionLimit:=by have:=r.dp;lia
theorem Nm.units(r:Nm k A):A.units+64<cLine:=by have:=r.un;lia
theorem Nm.units0(r:Nm k A):A.units<cLine:=by have:=r.un;lia
def ZjI:TA:=fun _ H Q=>Q [] H
def Zih (ta:TE)(tr:TA):TA:=fun σ H Q=>ta σ H fun x H1=>tr σ H1 fun xs H2=>Q (x::xs) H2
section
variable {X:Cx}{e:Expr}{es:Le_}{te:TE}{t:TA}{pos:Pos}
theorem Wc:PA X [] ZjI:=fun _ _ _ _ H Q I h=>Calls.spliced_nil ⟨[],H,I,.nil,h⟩
theorem M0 (ha:PE X e te)(hr:PA X es t)(hs:autoParam (starEach (e::es) X.env=(false,eval e X.env)::starEach es X.env) q_._auto_1):PA X (e::es) (Zih te t):=by
 intro pos pins s σ H Q I h
 rw[hs]
 show wpAny _ _ (spliced ((false,eval e X.env)::backTo pos (starEach es X.env))) _ _ s
 refine Calls.spliced_cons (thn (ha pins s σ H _ I h) fun u s1 z1_=>?_)
 refine W_ fun n9=>?_;obtain ⟨x,H1,I1,r1,q1⟩:=z1_;apply n9;clear n9
 exact thn (hr pos pins s1 σ H1 _ I1 q1) fun us s2 ⟨xs,H2,I2,r2,q2⟩=>⟨x::xs,H2,I2,.cons r1 r2,q2⟩
def ZjE (t:TA):TE:=fun σ H Q=>t σ H fun xs H1=>xs.length<=sizeLine/\∀ p,H1 p=none->Q (.ref p) (upd H1 p (.tup xs))
def ZjJ (t:TA):TE:=fun σ H Q=>t σ H fun xs H1=>xs.length<=sizeLine/\∀ p,H1 p=none->Q (.ref p) (upd H1 p (.lst xs))
theorem ZcQ {x1}(h:PA X es t):PE X (.Tuple es x1 pos) (ZjE t):=by
 intro pins s σ H Q I hq
 refine wpAny_Tuple_spliced (thn (h pos pins s σ H _ I hq) fun us s1 ⟨xs,H1,I1,r,z,q⟩=>⟨by rw[<- r.length];exact z,?_⟩)
 have hf:H1 s1.heap.objs.size=none:=I1.hok.fresh (Z7 _)
 refine⟨.ref s1.heap.objs.size,upd H1 s1.heap.objs.size (.tup xs),I1.laid (t':=s1.toks) (fun b u e=>Z3 _ e) (Z7 _) ?_,rfl,q _ hf⟩
 exact⟨z,us,r,⟨_,Zl _ rfl,rfl,_,rfl⟩⟩
theorem Zgh (h:PA X es t):PE X (.List es pos) (ZjJ t):=by
 intro pins s σ H Q I hq
 refine wpAny_List_spliced (thn (h pos pins s σ H _ I hq) fun us s1 ⟨xs,H1,I1,r,z,q⟩=>⟨by rw[<- r.length];exact z,?_⟩)
 have hf:H1 s1.heap.objs.size=none:=I1.hok.fresh (Z7 _)
 refine⟨.ref s1.heap.objs.size,upd H1 s1.heap.objs.size (.lst xs),I1.laid (t':=s1.toks) (fun b u e=>Z3 _ e) (Z7 _) ?_,rfl,q _ hf⟩
 exact⟨z,us,0,r,Zl _ rfl⟩
end
abbrev Sp:=Lv_->Hp->VK->XK->Prop
abbrev CXT:=List Env->Hp->Shared->XK->Value->Shared->Prop
structure Zi1 (P:Program)(w:World)(K:Fg_)(mg:Str->Option Value)(base:Heap)(A:Around)(outer:List Env)(s:Shared)(H:Hp):Prop where
 frames:A.frames=some outer
 mod:Mod K mg base
 bs:∀ b o,base.get? b=some o->s.heap.get? b=some o/\H b=none
 bsz:base.objs.size<=s.heap.objs.size
 funs:s.heap.FunFrames base outer
 frf:∀ b∈frs outer,H b=none
 hok:HOk P w H s.heap
 bare:AllBare s.gens
def CE (outer:List Env)(P:Program)(w:World)(H:Hp)(s:Shared)(Q:VK)(u:Value)(s':Shared):Prop :=
 ∃ v H',s'.os=s.os/\AllBare s'.gens/\Un (frs outer) [] H H' s.heap s'.heap/\HOk P w H' s'.heap/\RelV v u/\Q v H'
def CR (CX:CXT)(outer:List Env)(P:Program)(w:World)(H:Hp)(s:Shared)(Q:VK)(E:XK)(r:Result)(s':Shared):Prop :=
 match r with
 |.ok (.ret u)=>CE outer P w H s Q u s'
 |.ok _=>False
 |.error e=>CX outer H s E e s'
structure Me (P:Program)(w:World)(K:Fg_)(mg:Str->Option Value)(base:Heap)(CX:CXT)(k:Nat)(f:Addr)(fd:Jc)(ps:Ls_)(sp:Sp):Prop where
 len:∀ vs H Q E,sp vs H Q E->vs.length=ps.length
 run:∀ (A:Around) (outer:List Env) (s:Shared) (H:Hp) (args:Args) (us:Lu_) (vs:Lv_) (Q:VK) (E:XK),Nm k A->Zi1 P w K mg base A outer s H->BindsTo s fd args (ps.zip us)->Uh vs us->sp vs H Q E ->
  codeAny (model P w) A (.call (.ref f) args) (CR CX outer P w H s Q E) s
section
variable {X:Cx}{pins:Pn_}{σ:St}{H:Hp}{s s':Shared}
theorem Inv.env0 (I:Inv X pins σ H s):Zi1 X.prog X.w X.K X.mg X.base X.A X.stack s H :=
 ⟨I.ok.frames,I.ok.mod,I.bs,ZF I.ok.bsz I.sz,I.stack,I.stkFree,I.hok,I.bare⟩
theorem Inv.after(I:Inv X pins σ H s)(h:CE X.stack X.prog X.w H s Q u s'):EP X pins σ Q u s':=by
 refine W_ fun n9=>?_;obtain⟨v,H',os,bare,un,hok,r,q⟩:=h
 obtain⟨hh,g,d,t,os'⟩:=s';apply n9;clear n9
 obtain rfl:os'=s.os:=os
 exact⟨v,H',I.call (h':=hh) (g':=g) (d':=d) (t':=t) (ch:=[]) un hok bare (fun b z=>absurd z (by simp)),r,q⟩
end
def Zii (sp:Sp)(dvs:Lv_)(E:XK)(t:TA):TE:=fun σ H Q=>t σ H fun vs H1=>sp (vs++dvs) H1 Q E
def Binds (K:Fg_)(fd:Jc)(ps:Ls_)(ds:Lu_):Prop :=
 ∀ (s:Shared) (us:Lu_),K.In s.heap->(us++ds).length=ps.length->BindsTo s fd ⟨us,[]⟩ (ps.zip (us++ds))
theorem Binds.all {K:Fg_}{fd:Jc}{ps:Ls_}(h:∀ us:Lu_,us.length=ps.length->bindArgs fd ⟨us,[]⟩=pure (ps.zip us)):Binds K fd ps []:=fun s us _ hl=>by
 rw[UZ] at hl ⊢
 exact .of_eq (h us hl)
def Za0 (CX:CXT)(X:Cx)(E:XK):Prop:=∀ (pins:Pn_) (σ:St) (H:Hp) (s:Shared) (e:Value) (s':Shared),Inv X pins σ H s->CX X.stack H s E e s'->X.xe e s'
section
variable {X:Cx}{CX:CXT}{k:Nat}{f C:Addr}{fd:Jc}{ps:Ls_}{sp:Sp}{dvs:Lv_}{ds:Lu_}{E:XK}{x m:Str}{p pos apos:Pos}{e o:Expr}{es:Le_}{ta:TE}{t:TA}
theorem Z7U {pins:Pn_}{σ:St}{H:Hp}{s:Shared}{Q:VK}{us:Lu_}{vs:Lv_}(F:Me X.prog X.w X.K X.mg X.base CX k f fd ps sp)(hr:Nm k X.A)(hb:Binds X.K fd ps ds)(hd:Uh dvs ds)(hx:Za0 CX X E)
  (I:Inv X pins σ H s) (r:Uh vs us) (h:sp (vs++dvs) H Q E):wpAny (model X.prog X.w) X.A (call (.ref f) us) (EP X pins σ Q) X.xe s:=by
 have r2:Uh (vs++dvs) (us++ds):=r.append hd
 have hl:(us++ds).length=ps.length:=by rw[<- r2.length];exact F.len _ _ _ _ h
 refine ZhG (Fb (F.run X.A X.stack s H ⟨us,[]⟩ (us++ds) (vs++dvs) Q E hr I.env0 (hb s us I.kIn hl) r2 h) fun r s' hq=>?_)
 cases r with
 |error e=>exact hx pins σ H s e s' I hq
 |ok fl =>
  cases fl with
  |ret u=>exact I.after hq
  |next=>exact Np hq
  |brk=>exact Np hq
  |cont=>exact Np hq
theorem Ze3 (F:Me X.prog X.w X.K X.mg X.base CX k f fd ps sp)(hr:Nm k X.A)(hg:Gl X x)(hm:X.mg x=some (.ref f))(hk:ZK X.K (.ref f)=true)(hb:Binds X.K fd ps ds)(hd:Uh dvs ds)(hx:Za0 CX X E)
  (ha:PA X (e::es) t) (hdb:autoParam ((x == ("__debug__":Str))=false) qa._auto_1) (he:autoParam (starEach (e::es) X.env=(false,eval e X.env)::starEach es X.env) q_._auto_1) (hpl:autoParam ((backTo pos (starEach es X.env)).any (·.1)=false) q_._auto_1) :
  PE X (.Call (.Name x p) (e::es) [] pos) (Zii sp dvs E t):=by
 intro pins s σ H Q I h
 refine GG (Z49 I hg hm ?_ hdb)
 refine PySem.W.callWith_K (h₀:=X.base) I.ok.mod.kin hk (thn (ha pos pins s σ H _ I h) fun us s1 ⟨vs,H1,I1,r,q⟩=>⟨I1.kIn,?_⟩) he hpl
 exact Z7U F hr hb hd hx I1 r q
end
structure Yf (N P:Ls_)(sc:Scope):Prop where
 kind:sc.kind=.function
 co:sc.isCoroutine=false
 gen:sc.isGenerator=false
 nd:N.Nodup
 pre:N.take P.length=P
 par:∀ x∈P,sc.names.lookup x=some .local\/sc.names.lookup x=some .cell
 nofree:∀ y∈sc.names,y.2≠.free
theorem Z37 {kindOf:Str->Option UG}{x:Str}:∀ {binds:List (Str×Value)} {m:Str->Option Value},(∀ v,(x,v)∉binds)->bindL kindOf binds m x=m x
 |[],_,_=>rfl
 |(n,v)::r,m,h=>by
  unfold bindL
  rw[Z37 fun w hw=>h w (Z2 _ hw)]
  split
  ·have:x≠n:=by rintro rfl;exact h v Z1
   simp[this]
  ·rfl
theorem Z39 {kindOf:Str->Option UG}{x:Str}:∀ {binds:List (Str×Value)} {m:Str->Option Value},(∀ v,(x,v)∉binds)->bindC kindOf binds m x=m x
 |[],_,_=>rfl
 |(n,v)::r,m,h=>by
  unfold bindC
  rw[Z39 fun w hw=>h w (Z2 _ hw)]
  split
  ·rfl
  ·have:x≠n:=by rintro rfl;exact h v Z1
   simp[this]
theorem Z38 {kindOf:Str->Option UG}{x:Str}{v:Value}:∀ {P:Ls_} {vs:Lu_} {i:Nat} {m:Str->Option Value},P.Nodup->P[i]?=some x->vs[i]?=some v->kindOf x=some .local ->
  bindL kindOf (P.zip vs) m x=some v
 |[],_,_,_,_,h,_,_=>by simp at h
 |_::_,[],_,_,_,_,h,_=>by simp at h
 |p::P,w::vs,0,m,nd,h1,h2,hk=>by
  simp at h1 h2;subst h1;subst h2
  show bindL kindOf ((p,w)::P.zip vs) m p=_
  unfold bindL
  rw[Z37 fun v hv=>(GB.mp nd).1 (MV hv).1,if_pos hk]
  simp
 |p::P,w::vs,i+1,m,nd,h1,h2,hk=>by
  show bindL kindOf ((p,w)::P.zip vs) m x=_
  unfold bindL
  exact Z38 (i:=i) (GB.mp nd).2 (by simpa using h1) (by simpa using h2) hk
theorem Z3a {kindOf:Str->Option UG}{x:Str}{v:Value}:∀ {P:Ls_} {vs:Lu_} {i:Nat} {m:Str->Option Value},P.Nodup->P[i]?=some x->vs[i]?=some v->kindOf x≠some .local ->
  bindC kindOf (P.zip vs) m x=some v
 |[],_,_,_,_,h,_,_=>by simp at h
 |_::_,[],_,_,_,_,h,_=>by simp at h
 |p::P,w::vs,0,m,nd,h1,h2,hk=>by
  simp at h1 h2;subst h1;subst h2
  show bindC kindOf ((p,w)::P.zip vs) m p=_
  unfold bindC
  rw[Z39 fun v hv=>(GB.mp nd).1 (MV hv).1,if_neg hk]
  simp
 |p::P,w::vs,i+1,m,nd,h1,h2,hk=>by
  show bindC kindOf ((p,w)::P.zip vs) m x=_
  unfold bindC
  exact Z3a (i:=i) (GB.mp nd).2 (by simpa using h1) (by simpa using h2) hk
noncomputable def start (N:Ls_)(vs:Lv_):St:=vs.map some++Zm (N.length-vs.length) none
noncomputable def Zdg (CX:CXT)(P:Program)(w:World)(K:Fg_)(mg:Str->Option Value)(base:Heap)(N:Ls_)(qual:Str)(scope:Scope)(f:Addr)(cd:Value)(A:Around)(outer:List Env)(s:Shared)(H:Hp)(E:XK):Cx where
 prog:=P
 w:=w
 K:=K
 mg:=mg
 base:=base
 A:=A.deeper (envOfC qual scope s.heap.objs.size f cd)
 N:=N
 aK:=s
 aX:=H
 env:=envOfC qual scope s.heap.objs.size f cd
 outer:=outer
 stack:=envOfC qual scope s.heap.objs.size f cd::outer
 ex:=[]
 calm:=true
 fn:=fun _=>true
 pn:=[]
 xe:=fun e s'=>wpAny (model P w) (A.deeper (envOfC qual scope s.heap.objs.size f cd)) (leaving (envOfC qual scope s.heap.objs.size f cd) e) (fun _ s''=>CX outer H s E e s'') (fun e' s''=>CX outer H s E e' s'') s'
theorem Z60 {sc:Scope}{n:Nat}{x:Str}(h:sc.names.lookup x=some .cell):∃ c,(cellsFrom n sc.names []).lookup x=some c:=by
 have q:=Z3m sc.names n [] (.inl h)
 exact Option.isSome_iff_exists.mp q
theorem Z9m {CX:CXT}{P:Program}{w:World}{K:Fg_}{mg:Str->Option Value}{base:Heap}{N ps:Ls_}{qual:Str}{scope:Scope}{f:Addr}{cd:Value}{A:Around}{outer:List Env}{s s1:Shared}{H:Hp}{E:XK}{us:Lu_}{vs:Lv_}
  (S:Yf N ps scope) (hd:A.handled=none) (e0:Zi1 P w K mg base A outer s H) (hl:vs.length=ps.length) (r:Uh vs us)
  (x:InCallC s s.heap.objs.size (bindL (envOfC qual scope s.heap.objs.size f cd).kindOf (ps.zip us) fun _=>none) (cellsFrom (s.heap.objs.size+1) scope.names []) (bindC (envOfC qual scope s.heap.objs.size f cd).kindOf (ps.zip us) fun _=>none) s1) :
  Inv (Zdg CX P w K mg base N qual scope f cd A outer s H E) [] (start N vs) H s1:=by
 have hpl:ps.length<=N.length:=by have:=congrArg Yi S.pre;rw[Zx] at this;lia
 refine W_ fun n9=>?_;obtain⟨h1,tk,rfl,hk⟩:=x.done;apply n9;clear n9
 have noA:∀ b:Addr,b∉(Zdg CX P w K mg base N qual scope f cd A outer s H E).ex:=fun b z=>absurd (show b∈([]:List Addr) from z) (by simp)
 refine⟨⟨e0.mod,S.kind,rfl,rfl,Z7 _,fun y z c h1 h2=>?_,fun y hy=>?_,fun y c _ h=>?_,fun _=>hd,Around.frames_deeper e0.frames,.inr ⟨rfl,rfl⟩,fun b z=>absurd z (noA b),e0.bs,e0.bsz,fun b _ _=>noA b,fun b z=>absurd z (noA b),e0.funs,e0.frf⟩,
  rfl,e0.bare,Un.kept hk,⟨_,x.toInCall.ns,fun i y v h1 h2 h3=>?_⟩,fun y c h=>⟨_,x.cell y c h⟩,e0.hok.fresh (Z7 _),fun y c h=>?_,fun p hp=>absurd (show p∈([]:Pn_) from hp) (by simp),e0.hok.kept hk,?_⟩
 ·exact name_of_addr x.apart (Yu h1) (Yu h2)
 ·have hy:scope.names.lookup y=some .cell\/scope.names.lookup y=some .free:=hy
  rcases hy with hy|hy
  ·exact Z60 hy
  ·exact absurd rfl (S.nofree _ (Yu hy))
 ·exact YA (x.above y c (Yu h))
 ·have hi:i<vs.length:=by
   unfold start at h2
   by_cases hi:i<vs.length
   ·exact hi
   ·rw[Jp (by simpa using hi)] at h2
    rw[Ui] at h2
    split at h2 <;> cases h2
  have ha:vs[i]?=some v:=by
   unfold start at h2
   rw[JI (by simpa using hi),Jw] at h2
   cases e:vs[i]? with
   |none=>rw[e] at h2;cases h2
   |some a=>rw[e] at h2;cases h2;rfl
  refine W_ fun n9=>?_;obtain⟨u,hu,rv⟩:=r.get ha;apply n9;clear n9
  have hp:ps[i]?=some y:=by
   rw[<- S.pre,Nq (by lia)];exact h1
  have ndP:ps.Nodup:=by rw[<- S.pre];exact S.nd.sublist (Ye _ _)
  refine⟨u,rv,?_⟩
  rcases S.par y (ZJ hp) with k|k
  ·exact .inl ⟨k,Z38 ndP hp hu k⟩
  ·obtain⟨c,e⟩:=Z60 (n:=s.heap.objs.size+1) k
   refine .inr ⟨.inl k,c,e,?_⟩
   have q:=x.cell y c e
   rw[Z3a ndP hp hu (by show scope.names.lookup y≠_;rw[k];decide)] at q
   exact q
 ·exact e0.hok.fresh (YA (x.above y c (Yu h)))
 ·unfold start
  show _=N.length
  rw[Zj,Z5,Y8]
  lia
theorem ZiT {CX:CXT}{P:Program}{w:World}{K:Fg_}{mg:Str->Option Value}{base:Heap}{k:Nat}{f:Addr}{name qual:Str}{params:Arguments}{body:List Stmt}{scope:Scope}{dV kV doc pm cdv ct oc:Value}{an od:Option Addr}
  {osl:Array (Option Value)} {N ps:Ls_} {sp:Sp} (lk:K.lookup f=some ⟨oc,od,.func (ZU name qual params body scope dV kV doc pm an cdv ct),osl⟩) (hcd:ZL K cdv qual=true) (S:Yf N ps scope)
  (len:∀ vs H Q E,sp vs H Q E->vs.length=ps.length)
  (hbody:∀ (A:Around) (outer:List Env) (s:Shared) (H:Hp) (vs:Lv_) (Q:VK) (E:XK),Nm k (A.deeper (envOfC qual scope s.heap.objs.size f cdv))->sp vs H Q E ->
   ∃ t,PSs (Zdg CX P w K mg base N qual scope f cdv A outer s H E) body t/\t { nx:=fun _ H'=>Q .non H',rt:=Q } (start N vs) H) :
  Me P w K mg base CX (k+1) f (ZU name qual params body scope dV kV doc pm an cdv ct) ps sp:=by
 refine⟨len,fun A outer s H args us vs Q E hr e0 hb r hsp=>?_⟩
 have hl:=len _ _ _ _ hsp
 have KX:K.In s.heap:=e0.mod.kin.keeps fun b o e=>(e0.bs b o e).1
 have lim:s.heap.NoLimit:=e0.mod.nolimit.keeps fun b o e=>(e0.bs b o e).1
 have hkind:∀ y∈ps.zip us,scope.names.lookup y.1=some .local\/(scope.names.lookup y.1=some .cell/\((cellsFrom (s.heap.objs.size+1) scope.names []).lookup y.1).isSome=true):=fun z1_ hy=>by
  obtain ⟨n,v⟩:=z1_
  rcases S.par n (MV hy).1 with q|q
  ·exact .inl q
  ·exact .inr ⟨q,Z3m _ _ _ (.inl q)⟩
 refine codeAny_call_function hr.depth (KX _ _ lk) rfl S.co S.gen rfl (PySem.W.codeRec_of KX hcd) (hb _ _ _ _ ?_)
 refine wpAny_newFunctionEnv_cells S.kind hkind fun env he s1 x=>?_
 subst he
 refine⟨lim.keeps x.toInCall.keep,codeAny_func ?_⟩
 refine W_ fun n9=>?_;obtain⟨t,ht,hq⟩:=hbody A outer s H vs Q E (hr.deeper _) hsp;apply n9;clear n9
 have I:Inv (Zdg CX P w K mg base N qual scope f cdv A outer s H E) [] (start N vs) H s1:=Z9m S hr.hd e0 hl r x
 refine Y1 (ht [] s1 (start N vs) H _ I hq) (fun fl s' hs=>?_) fun e s' hs=>hs
 have fin:∀ {aF:St} {H':Hp} {v:V} {u:Value},Inv (Zdg CX P w K mg base N qual scope f cdv A outer s H E) [] aF H' s'->RelV v u->Q v H'->CE outer P w H s Q u s' :=
  fun {aF H' v u} J rv q=>⟨v,H',J.os,J.bare,J.base,J.hok,rv,q⟩
 cases fl with
 |ret u =>
  refine W_ fun n9=>?_;obtain⟨v,aF,H',J,rv,q⟩:=hs;apply n9;clear n9
  exact fin J rv q
 |next =>
  refine W_ fun n9=>?_;obtain⟨aF,H',J,q⟩:=hs;apply n9;clear n9
  exact fin (v:=V.non) (u:=YE) J rfl q
 |brk =>
  refine W_ fun n9=>?_;obtain⟨_,_,_,q⟩:=hs;apply n9;clear n9
  exact Np q
 |cont =>
  refine W_ fun n9=>?_;obtain⟨_,_,_,q⟩:=hs;apply n9;clear n9
  exact Np q
section
variable {X:Cx}{x:Str}{p pos:Pos}{e:Expr}{es:Le_}{t:TA}{id T:String}{r:Lv_->Hp->VK->Prop}
def tCB (r:Lv_->Hp->VK->Prop)(t:TA):TE:=fun σ H Q=>t σ H fun vs H1=>r vs H1 Q
theorem WB (hc:QL X (.builtin id) r) (hg:Gl X x) (hm:X.mg x=none) (hv:bootBuiltins x=some (.builtin id)) (ha:PA X (e::es) t) (hn:autoParam (x≠"__name__") qa._auto_1) (hdb:autoParam ((x == ("__debug__":Str))=false) qa._auto_1)
  (he:autoParam (starEach (e::es) X.env=(false,eval e X.env)::starEach es X.env) q_._auto_1) (hpl:autoParam ((backTo pos (starEach es X.env)).any (·.1)=false) q_._auto_1):PE X (.Call (.Name x p) (e::es) [] pos) (tCB r t):=by
 intro pins s σ H Q I h
 refine GG (BW I hg hm hv ?_ hn hdb)
 exact PyProof.Rows.callWith_builtin1 (thn (ha pos pins s σ H _ I h) fun us s1 ⟨vs,H1,I1,r1,q1⟩=>hc pins s1 σ H1 vs us Q I1 r1 q1) he hpl
theorem C5 (hc:QL X (.type T) r) (hg:Gl X x) (hm:X.mg x=none) (hv:bootBuiltins x=some (.type T)) (ha:PA X (e::es) t) (hn:autoParam (x≠"__name__") qa._auto_1) (hdb:autoParam ((x == ("__debug__":Str))=false) qa._auto_1)
  (he:autoParam (starEach (e::es) X.env=(false,eval e X.env)::starEach es X.env) q_._auto_1) (hpl:autoParam ((backTo pos (starEach es X.env)).any (·.1)=false) q_._auto_1):PE X (.Call (.Name x p) (e::es) [] pos) (tCB r t):=by
 intro pins s σ H Q I h
 refine GG (BW I hg hm hv ?_ hn hdb)
 exact G4 (thn (ha pos pins s σ H _ I h) fun us s1 ⟨vs,H1,I1,r1,q1⟩=>hc pins s1 σ H1 vs us Q I1 r1 q1) he hpl
end
end L2
namespace HT
open PySem PyProof.Rows
theorem Zc9 (A:Around)(s:Shared)(a:Int)(t:Tok)(c:Int)(u:Tok):∃ e,FK A s (.int a t) (.int c u) e/\(e=true↔a=c) :=
 ⟨(a == c),FK.int_int a t c u,by simp⟩
section
open PySem.SeqAt
open PySem.AutoSeq1 (wpAny_loadPart')
open PySem.MeetsSeq PySem.MeetsSeq2 PySem.MeetsSeq3
end
section
variable {prog:Program}{w:World}{A:Around}{E:Ps_}{s:Shared}
theorem cat_tup {t b:Addr}{vs ws:Lu_}{Q:Ps_}(ht:IsTup s.heap t vs.toArray)(hb:IsTup s.heap b ws.toArray)(hv:vs≠[])
  (h1:ws=[]->Q (.ref t) s) (h2:ws≠[]->Q (.ref s.heap.objs.size) { s with heap:=s.heap.push { cls:=.type "tuple",data:=.seq (vs++ws).toArray } })
  (hsz:vs.length+ws.length<=sizeLine):wpAny (model prog w) A (binaryOp .Add (.ref t) (.ref b)) Q E s:=by
 refine W_ fun n9=>?_;obtain⟨⟨cls,dd,data,sl⟩,ho,hc,n,hd⟩:=id ht
 obtain⟨⟨cls2,dd2,data2,sl2⟩,ho2,hc2,n2,hd2⟩:=id hb;apply n9;clear n9
 simp only at hc hd hc2 hd2
 subst hc hd hc2 hd2
 have e:vs.toArray++ws.toArray=(vs++ws).toArray:=by simp
 by_cases hw:ws=[]
 ·exact Z2Y ⟨_,ho,rfl⟩ ⟨_,ho2,rfl⟩ Z3w Zac W4 QU (Ql _ _)
   (tuple_addW1 t b vs.toArray ws.toArray n n2 dd dd2 sl sl2 (by simpa using hv) (by simp[hw])) ⟨ho,ho2,h1 hw⟩
 ·refine Z2Y ⟨_,ho,rfl⟩ ⟨_,ho2,rfl⟩ Z3w Zac W4 QU (Ql _ _)
   (tuple_addW2 t b vs.toArray ws.toArray n n2 dd dd2 sl sl2 (by simpa using hv) (by simpa using hw) (by rw[Zr,Zr];exact hsz)) ⟨ho,ho2,?_⟩
  rw[e]
  exact h2 hw
noncomputable def sIx (n d:Nat):Option Int->Nat
 |none=>d
 |some v=>if v<0 then (v+(n:Int)).toNat else min v.toNat n
theorem sIx_none (n d:Nat):sIx n d none=d:=rfl
theorem sIx_nat (n d k:Nat):sIx n d (some (k:Int))=min k n:=by
 show (if (k:Int)<0 then ((k:Int)+(n:Int)).toNat else min (k:Int).toNat n)=min k n
 rw[if_neg (by simp),JT]
theorem sIx_le (n d:Nat)(hd:d<=n)(o:Option Int):sIx n d o<=n:=by
 cases o with
 |none=>exact hd
 |some v =>
  show (if v<0 then (v+(n:Int)).toNat else min v.toNat n)<=n
  by_cases hv:v<0
  ·rw[if_pos hv];lia
  ·rw[if_neg hv];exact Zfd _ _
theorem Z9I (v:Int)(n d:Nat):(if v<0 then max (v+(n:Int)) 0 else min v (n:Int))=((sIx n d (some v):Nat):Int):=by
 show (if v<0 then max (v+(n:Int)) 0 else min v (n:Int))=(((if v<0 then (v+(n:Int)).toNat else min v.toNat n):Nat):Int)
 by_cases hv:v<0
 ·simp only[if_pos hv];simp
 ·simp only[if_neg hv];lia
theorem Z75 (lo hi:Option Int)(n:Nat):Mm lo hi 1 (n:Int)=(((sIx n 0 lo:Nat):Int),((sIx n n hi:Nat):Int)):=by
 have h1:¬ ((1:Int)<0):=by decide
 unfold Mm
 simp only[h1,if_false]
 refine Qm ?_ ?_
 ·cases lo with
  |none=>rfl
  |some v=>exact Z9I v n 0
 ·cases hi with
  |none=>rfl
  |some v=>exact Z9I v n n
theorem Z6u (i j:Nat):Gr (i:Int) (j:Int) 1=j-i:=by
 unfold Gr
 have h1:(1:Int) > 0:=by decide
 simp only[h1,if_true,Int.ediv_one]
 split <;> lia
theorem Z07(p:IsPart v o)(h:Q o s):wpAny (model prog w) A (Builtin.Slice.slicePartIndex v) Q E s:=by
 cases p with
 |none=>exact ZjP h
 |int i t=>exact slicePart_int h
theorem sliceApplied_gen {sl:Addr}{vl vu:Value}{lo hi:Option Int}{n:Nat}{Q:Int×Int×Nat->Shared->Prop}(hs:s.heap.IsSliceOf sl vl vu .none)(pl:IsPart vl lo)(pu:IsPart vu hi)
  (h:Q (((sIx n 0 lo:Nat):Int),1,sIx n n hi-sIx n 0 lo) s):wpAny (model prog w) A (BC (.ref sl) (pure (n:Int))) Q E s:=by
 refine W_ fun n9=>?_;obtain⟨os,hos,hcs,hds⟩:=id hs;apply n9;clear n9
 unfold BC Builtin.Slice.sliceFields
 refine Z0 (Z0 (QN hos hds (x:=vl) rfl (Z0 (QN hos hds (x:=vu) rfl (Z0 (QN hos hds (x:=.none) rfl (Z4 ?_)))))))
 refine Z0 (ZjP ?_)
 show wpAny _ _ (if ((1:Int) == 0)=true then _ else _) _ _ s
 rw[if_neg (by decide)]
 refine Z0 (Z07 pl (Z0 (Z07 pu (Z0 (Z4 ?_)))))
 show wpAny _ _ (match Mm lo hi 1 (n:Int) with|(lo,hi)=>pure (lo,(1:Int),Gr lo hi 1)) _ _ s
 rw[Z75 lo hi n]
 show wpAny _ _ (pure (((sIx n 0 lo:Nat):Int),(1:Int),Gr ((sIx n 0 lo:Nat):Int) ((sIx n n hi:Nat):Int) 1)) _ _ s
 rw[Z6u]
 exact Z4 h
theorem ZaV (xs:Au_)(i k:Nat):((Ja k).filterMap fun (m:Nat)=>xs[((i:Int)+(m:Int)*1).toNat]?).toArray=((xs.toList.drop i).take k).toArray:=by
 have e:(fun (m:Nat)=>xs[((i:Int)+(m:Int)*1).toNat]?)=fun m=>xs[i+m]?:=by
  funext m
  have:((i:Int)+(m:Int)*1).toNat=i+m:=by lia
  rw[this]
 rw[e]
 have:=Zk4 xs i k
 rw[Zao] at this
 have e2:((fun x=>xs[x]?)∘fun x=>i+x)=fun m=>xs[i+m]?:=rfl
 rw[e2] at this
 rw[this]
theorem getItem_tuple_cut {t sl:Addr}{items:Au_}{vl vu:Value}{lo hi:Option Int}{Q:Ps_}(ht:IsTup s.heap t items)(hs:s.heap.IsSliceOf sl vl vu .none)(pl:IsPart vl lo)(pu:IsPart vu hi)
  (hw:¬ (sIx items.size 0 lo=0/\sIx items.size items.size hi=items.size))
  (h:Q (.ref s.heap.objs.size) { s with heap:=s.heap.push { cls:=.type "tuple",data:=.seq ((items.toList.drop (sIx items.size 0 lo)).take (sIx items.size items.size hi-sIx items.size 0 lo)).toArray } })
  (hsz:items.size<=sizeLine):wpAny (model prog w) A (getItem (.ref t) (.ref sl)) Q E s:=by
 have htake:sizeOk (.seq ((items.toList.drop (sIx items.size 0 lo)).take (sIx items.size items.size hi-sIx items.size 0 lo)).toArray):=by
  show ((items.toList.drop (sIx items.size 0 lo)).take (sIx items.size items.size hi-sIx items.size 0 lo)).toArray.size<=sizeLine
  rw[Zr,Zx,ZI,Zh]
  omega
 have hj:sIx items.size items.size hi<=items.size:=sIx_le _ _ (Z7 _) hi
 refine W_ fun n9=>?_;obtain⟨os,hos,hcs,hds⟩:=id hs;apply n9;clear n9
 have hTs:s.TypeIs (.ref sl) "slice":=⟨os,hos,hcs⟩
 unfold getItem
 try with_reducible refine Jx ?_
 first|refine Z0 (Z4 ?_)|skip
 refine Z0 (ZhE ht.typeIs (by decide) ?_)
 refine Z0 (YH (name:=Zq "__getitem__") ht.typeIs Y5
  (Yh Y5 ht.typeIs Zfp ?_ (Zhp _ _)))
 show wpAny _ _ (BB (.ref t)>>=_) _ _ s
 refine Z0 (Zk3 ht ?_)
 refine Z0 (ML hTs ?_)
 rw[if_pos (by decide)]
 refine Z0 (sliceApplied_gen hs pl pu ?_)
 have hno:¬ ((((sIx items.size 0 lo:Nat):Int) == 0&&(1:Int) == 1&&(sIx items.size items.size hi-sIx items.size 0 lo) == items.size)=true):=by
  intro q
  rw[ZP,ZP] at q
  have q1:((sIx items.size 0 lo:Nat):Int)=0:=eq_of_beq q.1.1
  have q2:sIx items.size items.size hi-sIx items.size 0 lo=items.size:=eq_of_beq q.2
  exact hw ⟨by omega,by omega⟩
 show wpAny _ _ (if (((sIx items.size 0 lo:Nat):Int) == 0&&(1:Int) == 1&&(sIx items.size items.size hi-sIx items.size 0 lo) == items.size)=true then _ else _) _ _ s
 rw[if_neg hno,ZaV]
 first
  |exact Z0 (m:=GF _) (Jq (Z4 ⟨_,rfl,Z4 h⟩) htake)
  |exact Z0 (m:=GF _) (Jq (Z0 (Z4 (Z4 ⟨_,rfl,Z4 h⟩))) htake)
  |exact Z0 (Z0 (m:=GF _) (Jq (Z4 (Z4 ⟨_,rfl,Z4 h⟩)) htake))
  |exact Z0 (Z0 (m:=GF _) (Jq (Z4 ⟨_,rfl,Z4 h⟩) htake))
end
end HT
namespace L2
open PySem PySem.Spec PyProof.Rows
abbrev TO:=St->Hp->(Option Int->Hp->Prop)->Prop
def PO (X:Cx)(e:Option Expr)(t:TO):Prop :=
 ∀ (pins:Pn_) (s:Shared) (σ:St) (H:Hp) (Q:Option Int->Hp->Prop),Inv X pins σ H s->t σ H Q ->
  wpAny (model X.prog X.w) X.A (evalPart e X.env) (fun u s'=>∃ o H',Inv X pins σ H' s'/\IsPart u o/\Q o H') X.xe s
def Zdy:TO:=fun _ H Q=>Q none H
def Zie (t:TE):TO:=fun σ H Q=>t σ H fun x H1=>∃ i,x=.int i/\Q (some i) H1
section
variable {X:Cx}{e:Expr}{te:TE}{lo hi:Option Expr}{tl th:TO}{pos p2:Pos}
theorem ZdY:PO X none Zdy:=by
 intro pins s σ H Q I h
 rw[Zk7]
 exact Z4 ⟨none,H,I,.none,h⟩
theorem ZdX (h:PE X e te):PO X (some e) (Zie te):=by
 intro pins s σ H Q I hw
 rw[evalPart_some]
 refine thn (h pins s σ H _ I hw) fun u s1 z1_=>?_
 refine W_ fun n9=>?_;obtain ⟨x,H1,I1,r1,q1⟩:=z1_
 obtain⟨i,rfl,q⟩:=q1
 obtain⟨t,rfl⟩:=r1;apply n9;clear n9
 exact⟨some i,H1,I1,.int i t,q⟩
def SlR (X:Cx)(r:V->Option Int->Option Int->Hp->VK->Prop):Prop :=
 ∀ (pins:Pn_) (s:Shared) (σ:St) (H:Hp) (x:V) (v vl vu:Value) (lo hi:Option Int) (sl:Addr) (Q:VK),Inv X pins σ H s->RelV x v->s.heap.IsSliceOf sl vl vu .none->IsPart vl lo->IsPart vu hi->r x lo hi H Q ->
  ∃ T id,typeLookup (.type T) "__getitem__"=pure (some (.builtin id))/\s.TypeIs v T/\wpAny (model X.prog X.w) X.A (getItem v (.ref sl)) (EP X pins σ Q) X.xe s
theorem SlR.or(h:SlR X r)(h':SlR X r'):SlR X (fun x lo hi H Q=>r x lo hi H Q\/r' x lo hi H Q):=by
 intro pins s σ H x v vl vu lo hi sl Q I rx hs pl pu q
 rcases q with q|q
 ·exact h pins s σ H x v vl vu lo hi sl Q I rx hs pl pu q
 ·exact h' pins s σ H x v vl vu lo hi sl Q I rx hs pl pu q
def tSl (r:V->Option Int->Option Int->Hp->VK->Prop)(te:TE)(tl th:TO):TE:=fun σ H Q=>te σ H fun x H1=>tl σ H1 fun l H2=>th σ H2 fun u H3=>r x l u H3 Q
theorem Z5m(hr:SlR X r)(he:PE X e te)(hl:PO X lo tl)(hu:PO X hi th):PE X (.Subscript e (.Slice lo hi none p2) pos) (tSl r te tl th):=by
 intro pins s σ H Q I h
 refine Subscript_ (thn (he pins s σ H _ I h) fun v s1 z1_=>?_)
 refine W_ fun n9=>?_;obtain ⟨x,H1,I1,r1,q1⟩:=z1_;apply n9;clear n9
 refine wpAny_Slice (thn (hl pins s1 σ H1 _ I1 q1) fun vl s2 ⟨l,H2,I2,pl,q2⟩=>thn (hu pins s2 σ H2 _ I2 q2) fun vu s3 z1_=>?_)
 refine W_ fun n9=>?_;obtain ⟨u,H3,I3,pu,q3⟩:=z1_;apply n9;clear n9
 rw[Zk7]
 refine Z4 ?_
 have I4:Inv X pins σ H3 { s3 with heap:=s3.heap.push { cls:=.type "slice",data:=.fields #[vl,vu,.none] } }:=I3.kept (t':=s3.toks) fun b ob q=>Z3 _ q
 refine W_ fun n9=>?_;obtain⟨T,id,hT,ht,hg⟩:=hr pins { s3 with heap:=s3.heap.push { cls:=.type "slice",data:=.fields #[vl,vu,.none] } } σ H3 x v vl vu l u s3.heap.objs.size Q I4 r1 (Heap.IsSliceOf.new ..) pl pu q3;apply n9;clear n9
 show wpAny (model X.prog X.w) X.A (subscriptTail e (.Slice lo hi none p2) v (.ref s3.heap.objs.size)) (EP X pins σ Q) X.xe { s3 with heap:=s3.heap.push { cls:=.type "slice",data:=.fields #[vl,vu,.none] } }
 exact tail_any (ops:=[.ref s3.heap.objs.size,v]) ht hT hg (by with_unfolding_all rfl)
noncomputable def Zdh (xs:Lv_)(lo hi:Option Int):Lv_:=(xs.drop (HT.sIx xs.length 0 lo)).take (HT.sIx xs.length xs.length hi-HT.sIx xs.length 0 lo)
theorem Cq (xs:Lv_)(lo hi:Option Int):(Zdh xs lo hi).length<=xs.length:=by
 unfold Zdh
 rw[Zx,ZI]
 lia
def Zje (K:Fg_):V->Option Int->Option Int->Hp->VK->Prop:=fun x lo hi H Q=>∃ a xs,x=.ref a/\SqT K H a xs /\
 ¬ (HT.sIx xs.length 0 lo=0/\HT.sIx xs.length xs.length hi=xs.length)/\∀ p,H p=none->Q (.ref p) (upd H p (.tup (Zdh xs lo hi)))
theorem ZfM:SlR X (Zje X.K):=by
 intro pins s σ H x v vl vu lo hi sl Q I rx hs pl pu h
 refine W_ fun n9=>?_;obtain⟨a,xs,rfl,hx,hw,q⟩:=h;apply n9;clear n9
 cases rx
 refine W_ fun n9=>?_;obtain⟨its,r,ht,hz⟩:=I.tuple hx;apply n9;clear n9
 have hlen:its.toArray.size=xs.length:=by rw[Zr];exact r.length.symm
 refine⟨"tuple",_,Y5.lookup,ht.typeIs,?_⟩
 refine HT.getItem_tuple_cut ht hs pl pu (by rw[hlen];exact hw) ?_ (by rw[hlen];exact hz)
 rw[hlen]
 refine⟨.ref s.heap.objs.size,_,I.laid (t':=s.toks) (o:=.tup (Zdh xs lo hi)) (fun b ob q=>Z3 _ q) (Z7 _) ?_,rfl,q _ (I.hok.fresh (Z7 _))⟩
 exact⟨ZF (Cq xs lo hi) hz,_,(r.drop (HT.sIx xs.length 0 lo)).take (HT.sIx xs.length xs.length hi-HT.sIx xs.length 0 lo),Z6c _ _⟩
def Zg1 (K:Fg_):R2:=fun x y H Q=>∃ a b xs ys,x=.ref a/\y=.ref b/\SqT K H a xs/\SqT K H b ys/\xs≠[]/\xs.length+ys.length<=sizeLine /\
 (ys=[]->Q (.ref a) H)/\(ys≠[]->∀ p,H p=none->Q (.ref p) (upd H p (.tup (xs++ys))))
theorem Uh.nil_iff {xs:Lv_}{us:Lu_}(r:Uh xs us):us=[]↔xs=[]:=by
 cases r with
 |nil=>simp
 |cons _ _=>simp
theorem Zey:OpR X (binaryOp .Add) (Zg1 X.K):=by
 intro pins s σ H x y v u Q I rx ry h
 refine W_ fun n9=>?_;obtain⟨a,b,xs,ys,rfl,rfl,ha,hb,hx,hz,q1,q2⟩:=h;apply n9;clear n9
 cases rx
 cases ry
 refine W_ fun n9=>?_;obtain⟨its,r1,p1,_⟩:=I.tuple ha
 obtain⟨its2,r2,p2,_⟩:=I.tuple hb;apply n9;clear n9
 refine HT.cat_tup p1 p2 (fun z=>hx (r1.nil_iff.mp z)) (fun z=>⟨.ref a,H,I,rfl,q1 (r2.nil_iff.mp z)⟩) (fun z=>?_) (by rw[<- r1.length,<- r2.length];exact hz)
 refine⟨.ref s.heap.objs.size,_,I.laid (t':=s.toks) (o:=.tup (xs++ys)) (fun b ob q=>Z3 _ q) (Z7 _) ?_,rfl,q2 (fun w=>z (r2.nil_iff.mpr w)) _ (I.hok.fresh (Z7 _))⟩
 exact⟨by rw[Zj];exact hz,_,r1.append r2,Z6c _ _⟩
end
noncomputable def ixN (n:Nat)(i:Int):Option Nat:=if 0<=i then (if i<n then some i.toNat else none) else if -(n:Int)<=i then some (i+n).toNat else none
noncomputable def atI {α:Type}(xs:List α)(i:Int):Option α:=(ixN xs.length i).bind fun j=>xs[j]?
theorem ZeT(h:ixN n i=some j):seqIndex? i n=some j/\j<n/\-(n:Int)<=i/\i<n:=by
 unfold ixN at h
 by_cases h0:0<=i
 ·rw[if_pos h0] at h
  by_cases h1:i<n
  ·rw[if_pos h1] at h
   have e:i.toNat=j:=Jd h
   exact⟨by rw[seqIndex_of h0 h1,e],by omega,by lia,h1⟩
  ·rw[if_neg h1] at h;cases h
 ·rw[if_neg h0] at h
  by_cases h1:-(n:Int)<=i
  ·rw[if_pos h1] at h
   have e:(i+n).toNat=j:=Jd h
   exact⟨by rw[seqIndex_neg (by lia) h1,e],by lia,h1,by lia⟩
  ·rw[if_neg h1] at h;cases h
theorem Z4E {α:Type}{xs:List α}{i:Int}{v:α}(h:atI xs i=some v):∃ j,seqIndex? i xs.length=some j/\xs[j]?=some v/\j<xs.length/\-(xs.length:Int)<=i/\i<xs.length:=by
 unfold atI at h
 cases e:ixN xs.length i with
 |none=>rw[e] at h;cases h
 |some j =>
  rw[e] at h
  obtain⟨h1,h2,h3,h4⟩:=ZeT e
  exact⟨j,h1,h,h2,h3,h4⟩
def Z4K (b:Expr):Prop:=∀ o i,subscripted b false o i=operate [o,i] (getItem o i)
def IxR (X:Cx)(r:R2):Prop :=
 ∀ (value slice:Expr) (pins:Pn_) (s:Shared) (σ:St) (H:Hp) (x y:V) (v u:Value) (Q:VK),Inv X pins σ H s->RelV x v->RelV y u->r x y H Q ->
  subscripted slice false v u=operate [v,u] (getItem v u)->wpAny (model X.prog X.w) X.A (subscriptTail value slice v u) (EP X pins σ Q) X.xe s
def MtR (X:Cx)(id:String)(r:V->Lv_->Hp->VK->Prop):Prop :=
 ∀ (pins:Pn_) (s:Shared) (σ:St) (H:Hp) (x:V) (xs:Lv_) (v:Value) (us:Lu_) (Q:VK),Inv X pins σ H s->RelV x v->Uh xs us->r x xs H Q ->
  wpAny (model X.prog X.w) X.A (call (.builtin id) (v::us)) (EP X pins σ Q) X.xe s
section
variable {X:Cx}{a b:Expr}{ta tb:TE}{pos:Pos}
theorem IxR.or(h:IxR X r)(h':IxR X r'):IxR X (fun x y H Q=>r x y H Q\/r' x y H Q):=by
 intro value slice pins s σ H x y v u Q I rx ry q hs
 rcases q with q|q
 ·exact h value slice pins s σ H x y v u Q I rx ry q hs
 ·exact h' value slice pins s σ H x y v u Q I rx ry q hs
theorem Ziq(hr:IxR X r)(ha:PE X a ta)(hb:PE X b tb)(hs:Z4K b):PE X (.Subscript a b pos) (tOp r ta tb):=by
 intro pins s σ H Q I h
 exact Subscript_ (Zj2 ha hb I h fun v u s2 x y H2 I2 rx ry q=>hr a b pins s2 σ H2 x y v u Q I2 rx ry q (hs _ _))
def Zjm (K:Fg_):R2:=fun x y H Q=>∃ p xs i v,x=.ref p/\y=.int i/\SqL K H p xs/\atI xs i=some v/\Q v H
def Zjk (K:Fg_):R2:=fun x y H Q=>∃ p xs i v,x=.ref p/\y=.int i/\SqT K H p xs/\atI xs i=some v/\Q v H
def Zjl:R2:=fun x y H Q=>∃ z i c,x=.str z/\y=.int i/\z.length<=sizeLine/\atI z.cps.toList i=some c/\Q (.str ⟨#[c]⟩) H
theorem ZeS:IxR X (Zjm X.K):=by
 intro value slice pins s σ H x y v u Q I rx ry h hs
 refine W_ fun n9=>?_;obtain⟨p,xs,i,z,rfl,rfl,hq,he,q⟩:=h;apply n9;clear n9
 cases rx
 refine W_ fun n9=>?_;obtain⟨t,rfl⟩:=ry
 obtain⟨its,r,pl,hz⟩:=I.list hq
 obtain⟨j,h1,h2,h3,h4,h5⟩:=Z4E he
 obtain⟨w,ew,rw'⟩:=r.get h2;apply n9;clear n9
 have hl:=r.length
 have hn:=Z2v
 have fin:EP X pins σ Q w s:=⟨z,H,I,rw',q⟩
 by_cases h0:0<=i
 ·have hj:i.toNat=j:=by
   rw[seqIndex_of h0 h5] at h1
   exact Jd h1
  exact item_listR pl.isList h0 (by lia) (by rw[hj];simpa using ew) fin hs
 ·have hj:(i+(its.toArray.size:Int)).toNat=j:=by
   rw[seqIndex_neg (by lia) h4] at h1
   rw[Zr,<- hl]
   exact Jd h1
  exact ZaA (x:=w) pl.isList.typeIs ZhN.lookup
   (wpAny_getItem_list_neg (Q:=fun r s'=>r=w/\EP X pins σ Q r s') pl.isList (by lia) (by rw[Zr] <;> lia) (by lia) (by rw[hj];simpa using ew) ⟨rfl,fin⟩) hs
theorem Zh9:IxR X (Zjk X.K):=by
 intro value slice pins s σ H x y v u Q I rx ry h hs
 refine W_ fun n9=>?_;obtain⟨p,xs,i,z,rfl,rfl,hq,he,q⟩:=h;apply n9;clear n9
 cases rx
 refine W_ fun n9=>?_;obtain⟨t,rfl⟩:=ry
 obtain⟨its,r,pl,hz⟩:=I.tuple hq
 obtain⟨j,h1,h2,h3,h4,h5⟩:=Z4E he
 obtain⟨w,ew,rw'⟩:=r.get h2;apply n9;clear n9
 have hl:=r.length
 have hn:=Z2v
 have fin:EP X pins σ Q w s:=⟨z,H,I,rw',q⟩
 exact ZaA (x:=w) pl.typeIs slot_tuple_getitem.lookup
  (getItem_tuple (j:=j) (Q:=fun r s'=>r=w/\EP X pins σ Q r s') pl (by lia) (by lia) (by rw[Zr,<- hl];exact h1) (by simpa using ew) ⟨rfl,fin⟩) hs
theorem Zha:IxR X Zjl:=by
 intro value slice pins s σ H x y v u Q I rx ry h hs
 refine W_ fun n9=>?_;obtain⟨z,i,c,rfl,rfl,hz,he,q⟩:=h
 obtain⟨t,rfl⟩:=rx
 obtain⟨t',rfl⟩:=ry
 obtain⟨j,h1,h2,h3,h4,h5⟩:=Z4E he;apply n9;clear n9
 have hl:z.cps.toList.length=z.length:=by simp[MU]
 rw[hl] at h1 h4 h5
 have hn:=Z2v
 exact tail_any (ZhJ s z t) slot_str_getitem.lookup (getItem_str (c:=c) (by
  have e1:decide (i < -(2 ^ 63:Int))=false:=decide_eq_false (by lia)
  have e2:decide (i >= 2 ^ 63)=false:=decide_eq_false (by lia)
  rw[e1,e2,Zhx]) (by rw[h1];simpa using h2) ⟨.str ⟨#[c]⟩,H,I.tok _,⟨_,rfl⟩,q⟩) hs
def rIx (K:Fg_):R2:=fun x y H Q=>Zjm K x y H Q\/Zjk K x y H Q\/Zjl x y H Q
theorem Zhb:IxR X (rIx X.K):=ZeS.or (Zh9.or Zha)
theorem BG (lo hi:Option Int)(n:Nat):(sliceBounds lo hi none n).1=((HT.sIx n 0 lo:Nat):Int)/\(sliceBounds lo hi none n).2.1=((HT.sIx n n hi:Nat):Int)/\(sliceBounds lo hi none n).2.2=1:=by
 refine⟨?_,?_,rfl⟩
 ·cases lo with
  |none=>simp[sliceBounds,HT.sIx]
  |some i =>
   simp only[sliceBounds,HT.sIx,Zaj,show (1:Int) > 0 by decide,if_true]
   by_cases h:i<0
   ·simp only[h,if_true] <;> lia
   ·simp only[h,if_false] <;> lia
 ·cases hi with
  |none=>simp[sliceBounds,HT.sIx]
  |some i =>
   simp only[sliceBounds,HT.sIx,Zaj,show (1:Int) > 0 by decide,if_true]
   by_cases h:i<0
   ·simp only[h,if_true] <;> lia
   ·simp only[h,if_false] <;> lia
theorem Z0S (its:Lu_)(lo hi:Option Int):slicePick its.toArray lo hi none=((its.drop (HT.sIx its.length 0 lo)).take (HT.sIx its.length its.length hi-HT.sIx its.length 0 lo)).toArray:=by
 refine W_ fun n9=>?_;obtain⟨h1,h2,h3⟩:=BG lo hi its.toArray.size;apply n9;clear n9
 unfold slicePick
 rw[h1,h2,h3]
 simp only[ZjO,Zk4,Zr] <;> rfl
def Zjg (K:Fg_):V->Option Int->Option Int->Hp->VK->Prop:=fun x lo hi H Q=>∃ a xs,x=.ref a/\SqL K H a xs/\∀ p,H p=none->Q (.ref p) (upd H p (.lst (Zdh xs lo hi)))
theorem ZdC:SlR X (Zjg X.K):=by
 intro pins s σ H x v vl vu lo hi sl Q I rx hs pl pu h
 refine W_ fun n9=>?_;obtain⟨a,xs,rfl,hx,q⟩:=h;apply n9;clear n9
 cases rx
 refine W_ fun n9=>?_;obtain⟨its,r,ht,hz⟩:=I.list hx;apply n9;clear n9
 have hlen:=r.length
 refine⟨"list",_,ZhN.lookup,ht.isList.typeIs,?_⟩
 refine wpAny_getItem_list_slice ht.isList hs pl pu .none (by simp) ?_ (by rw[Zr] <;> lia)
 rw[Z0S,<- hlen]
 refine⟨.ref s.heap.objs.size,_,I.laid (t':=s.toks) (o:=.lst (Zdh xs lo hi)) (fun b ob q=>Z3 _ q) (Z7 _) ?_,rfl,q _ (I.hok.fresh (Z7 _))⟩
 exact⟨ZF (Cq xs lo hi) hz,_,0,(r.drop (HT.sIx xs.length 0 lo)).take (HT.sIx xs.length xs.length hi-HT.sIx xs.length 0 lo),Zl _ rfl⟩
theorem Z36:QL X (.builtin "len") (fun xs H Q=>∃ p ys,xs=[.ref p]/\(SqL X.K H p ys\/SqT X.K H p ys)/\Q (.int ys.length) H):=by
 intro pins s σ H xs us Q I r h
 refine W_ fun n9=>?_;obtain⟨p,ys,rfl,hq,q⟩:=h
 obtain⟨u,rfl,rx⟩:=vals1 r;apply n9;clear n9
 cases rx
 have hn:=Z2v
 rcases hq with hq|hq
 ·refine W_ fun n9=>?_;obtain⟨its,r',pl,hz⟩:=I.list hq;apply n9;clear n9
  have hlen:=r'.length
  exact Calls.call_len_list pl.isList (by simp only[Zr] <;> lia) ⟨.int ys.length,H,I.tok _,⟨s.toks+1,by rw[Zr,hlen]⟩,q⟩
 ·refine W_ fun n9=>?_;obtain⟨its,r',pl,hz⟩:=I.tuple hq;apply n9;clear n9
  have hlen:=r'.length
  exact len_tuple pl (by simp only[Zr] <;> lia) ⟨.int ys.length,H,I.tok _,⟨s.toks+1,by rw[Zr,hlen]⟩,q⟩
theorem Z35:QL X (.builtin "len") (fun xs H Q=>∃ z,xs=[.str z]/\z.length<=sizeLine/\Q (.int z.length) H):=by
 intro pins s σ H xs us Q I r h
 obtain⟨z,rfl,hz,q⟩:=h
 obtain⟨u,rfl,t,rfl⟩:=vals1 r
 have hn:=Z2v
 exact len_str (by lia) ⟨.int z.length,H,I.tok _,⟨_,rfl⟩,q⟩
theorem QL.or(h:QL X f r)(h':QL X f r'):QL X f (fun xs H Q=>r xs H Q\/r' xs H Q):=by
 intro pins s σ H xs us Q I rs q
 rcases q with q|q
 ·exact h pins s σ H xs us Q I rs q
 ·exact h' pins s σ H xs us Q I rs q
theorem Z1s:QL X (.type "tuple") (fun xs H Q=>∃ p ys,xs=[.ref p]/\((SqL X.K H p ys/\∀ l,H l=none->Q (.ref l) (upd H l (.tup ys)))\/(SqT X.K H p ys/\Q (.ref p) H))):=by
 intro pins s σ H xs us Q I r h
 refine W_ fun n9=>?_;obtain⟨p,ys,rfl,h⟩:=h
 obtain⟨u,rfl,rx⟩:=vals1 r;apply n9;clear n9
 cases rx
 rcases h with ⟨hq,q⟩|⟨hq,q⟩
 ·refine W_ fun n9=>?_;obtain⟨its,r',pl,hz⟩:=I.list hq;apply n9;clear n9
  have hlen:=r'.length
  refine call_tuple_list pl.isList (fun h' kp=>?_) (by simp only[Zr] <;> lia)
  have I1:Inv X pins σ H { s with heap:=h' }:=I.kept (t':=s.toks) kp
  have I2:Inv X pins σ (upd H h'.objs.size (.tup ys)) { s with heap:=h'.push { cls:=.type "tuple",data:=.seq its.toArray } } :=
   I1.laid (t':=s.toks) (fun b o e=>Z3 _ e) (Z7 _) (show MI X.prog X.w _ _ _ (.tup ys) from ⟨hz,its,r',Z6c _ _⟩)
  exact⟨.ref h'.objs.size,_,I2,rfl,q _ (I1.hok.fresh (Z7 _))⟩
 ·refine W_ fun n9=>?_;obtain⟨its,r',pl,hz⟩:=I.tuple hq;apply n9;clear n9
  exact call_tuple_same pl ⟨.ref p,H,I,rfl,q⟩
def tyV (K:Fg_)(T:String)(x:V)(H:Hp):Prop:=match x with
 |.str _=>T="str"
 |.int _=>T="int"
 |.ref p=>(T="list"/\∃ xs,SqL K H p xs)\/(T="tuple"/\∃ o,K.lookup p=some o/\o.cls=.type "tuple"/\o.dict=none) \/
   (T="dict"/\((∃ kvs,H p=some (.dK kvs))\/∃ kvs,H p=some (.dT kvs)))\/(T="set"/\∃ S n,H p=some (.set S n))
 |_=>False
theorem ZfC {pins:Pn_}{σ:St}{H:Hp}{s:Shared}{T:String}{x:V}{v:Value}(I:Inv X pins σ H s)(r:RelV x v)(ty:tyV X.K T x H) :
  s.TypeIs v T/\∀ a,v=.ref a->∃ ob,s.heap.get? a=some ob/\ob.dict=none:=by
 cases x with
 |str z =>
  obtain⟨t,rfl⟩:=r
  cases (show T="str" from ty)
  exact⟨ZhJ s z t,fun _ e=>nomatch e⟩
 |int i =>
  obtain⟨t,rfl⟩:=r
  cases (show T="int" from ty)
  exact⟨ZhK s i t,fun _ e=>nomatch e⟩
 |ref p =>
  cases r
  rcases ty with ⟨rfl,xs,hq⟩|⟨rfl,o,hk,hc,hd⟩|⟨rfl,hk⟩|⟨rfl,S,n,hk⟩
  ·obtain⟨its,_,pl,_⟩:=I.list hq
   refine⟨pl.isList.typeIs,fun a e=>?_⟩
   cases e
   obtain⟨o,n,e,c,hd,_⟩:=pl
   exact⟨o,e,hd⟩
  ·refine⟨⟨o,I.kIn p o hk,hc⟩,fun a e=>?_⟩
   cases e
   exact⟨o,I.kIn _ o hk,hd⟩
  ·have z:∃ o,s.heap.get? p=some o/\o.ExactDict:=by
    rcases hk with ⟨kvs,hk⟩|⟨kvs,hk⟩
    ·obtain⟨_,_,_,_,o,_,_,e,ex,_⟩:=I.hok p _ hk
     exact⟨o,e,ex⟩
    ·obtain⟨_,_,_,_,o,_,_,e,ex,_⟩:=I.hok p _ hk
     exact⟨o,e,ex⟩
   obtain⟨o,e,ex⟩:=z
   refine⟨⟨o,e,ex.1⟩,fun a e2=>?_⟩
   cases e2
   exact⟨o,e,ex.2.1⟩
  ·obtain⟨o,_,_,_,e,ex,_⟩:=I.hok p _ hk
   refine⟨⟨o,e,ex.1⟩,fun a e2=>?_⟩
   cases e2
   exact⟨o,e,ex.2.1⟩
 |_=>exact Np ty
def tBM (K:Fg_)(T:String)(r:V->Lv_->Hp->VK->Prop)(to:TE)(t:TA):TE:=fun σ H Q=>to σ H fun x H1=>tyV K T x H1/\t σ H1 fun xs H2=>r x xs H2 Q
variable {o e:Expr}{es:Le_}{to:TE}{t:TA}{name:Str}{apos cpos:Pos}{T id:String}{r:V->Lv_->Hp->VK->Prop}
theorem Zb7 (pa:PlainAttrs T) (slot:Slot T name id) (hty:typeOf (.builtin id)=pure (.type "method_descriptor")) (hm:MtR X id r) (ho:PE X o to) (ha:PA X (e::es) t)
  (hbase:autoParam (attributeBase o name X.env (eval o X.env)=eval o X.env) q_._auto_1)
  (hfew:autoParam (((backTo cpos (starEach (e::es) X.env)).all (fun x=>!x.1)&&(backToKw cpos (keywordEach [] X.env)).all (fun x=>x.1.isSome)
  &&decide ((e::es).length+([]:List Keyword).length+(if ([]:List Keyword).isEmpty then 0 else 1)<30))=true) q_._auto_1)
  (hline:autoParam ((apos.endLine == cpos.line)=true) q_._auto_1) (hs:autoParam (starEach (e::es) X.env=(false,eval e X.env)::starEach es X.env) q_._auto_1) (hplain:autoParam ((backTo cpos (starEach es X.env)).any (·.1)=false) q_._auto_1) :
  PE X (.Call (.Attribute o name apos) (e::es) [] cpos) (tBM X.K T r to t):=by
 intro pins s σ H Q I h
 refine wpAny_Call_method_late hbase hfew hline rfl (thn (ho pins s σ H _ I h) fun v s1 z1_=>?_)
 refine W_ fun n9=>?_;obtain ⟨x,H1,I1,r1,ty,q1⟩:=z1_
 obtain⟨h1,h2⟩:=ZfC I1 r1 ty;apply n9;clear n9
 refine⟨T,id,pa,slot,hty,h1,h2,?_⟩
 have hA:=ha cpos pins s1 σ H1 _ I1 q1
 rw[hs] at hA ⊢
 refine Calls.callWith_builtin (by show (false||(backTo cpos (starEach es X.env)).any (·.1))=false;rw[hplain] <;> rfl) (Calls.evalArgs_plain ?_)
 exact thn hA fun us s2 ⟨vs,H2,I2,r2,q2⟩=>hm pins s2 σ H2 x vs v us Q I2 r1 r2 q2
end
def MtM (X:Cx)(id:String)(r:V->Lv_->Hp->VK->Prop):Prop :=
 ∀ (pins:Pn_) (s:Shared) (σ:St) (H:Hp) (x:V) (xs:Lv_) (v:Value) (us:Lu_) (Q:VK),Inv X pins σ H s->RelV x v->Uh xs us->r x xs H Q ->
  wpAny (model X.prog X.w) X.A (call (.builtin id) (v::us)) (EP X pins σ Q) X.xe s
theorem Uh.one:∀ {x:V} {us:Lu_},Uh [x] us->∃ u,us=[u]/\RelV x u:=by
 intro x us h
 cases h with
 |cons r t=>cases t;exact⟨_,rfl,r⟩
theorem Uh.zero:∀ {us:Lu_},Uh [] us->us=[]
 |_,.nil=>rfl
theorem Uh.rep {xs:Lv_}{us:Lu_}(h:Uh xs us):∀ k:Nat,Uh (Zm k xs).flatten (Zm k us).flatten
 |0=>.nil
 |k+1=>by
  rw[JZ,JZ,UX,UX]
  exact Uh.append h (Uh.rep h k)
theorem foldl_rep (its:Lu_):∀ (k:Nat) (acc:Lu_),
  ZjB (fun x1 x2=>x1++x2) acc.toArray (Zm k its.toArray)=(acc++(Zm k its).flatten).toArray
 |0,acc=>by simp
 |k+1,acc=>by
  have e:acc.toArray++its.toArray=(acc++its).toArray:=by simp
  have e2:(acc++its)++(Zm k its).flatten=acc++(Zm (k+1) its).flatten:=by
   rw[JZ,UX,Zi]
  rw[<- e2,<- foldl_rep its k (acc++its),<- e,JZ,U0]
section
variable {X:Cx}{pins:Pn_}{σ:St}{H:Hp}{s:Shared}{l b:Addr}{xs ys zs:Lv_}
theorem Inv.lset {its its':Lu_}{n:Nat}{f:Array Value->Array Value}{t':Nat}(I:Inv X pins σ H s)(hH:H l=some (.lst xs))
  (e:s.heap.get? l=some { cls:=.type "list",data:=.seq its.toArray n }) (hf:f its.toArray=its'.toArray) (hv:Uh ys its') (hz:ys.length<=sizeLine) :
  Inv X pins σ (upd H l (.lst ys)) { s with heap:=s.heap.update l (Yz f),toks:=t' }:=by
 have q:=PySem.IsL.update e f
 rw[hf] at q
 refine I.write (x:=l) (e:=l) (by rw[hH];exact trivial) (.inl rfl) (fun b' u hb hu=>(YO s.heap (Yz f) (Gx hb)).trans hu) ⟨_,q⟩ ?_
 exact⟨hz,its',_,hv,q⟩
theorem Inv.lnew {its:Lu_}{t':Nat}(I:Inv X pins σ H s)(hv:Uh ys its)(hz:ys.length<=sizeLine) :
  Inv X pins σ (upd H s.heap.objs.size (.lst ys)) { s with heap:=s.heap.push { cls:=.type "list",data:=.seq its.toArray },toks:=t' } :=
 I.laid (fun _ _ q=>Z3 _ q) (Z7 _) ⟨hz,its,0,hv,Zl _ rfl⟩
theorem Inv.fresh (I:Inv X pins σ H s):H s.heap.objs.size=none:=I.hok.fresh (Z7 _)
theorem Inv.lstM (I:Inv X pins σ H s) (hH:H l=some (.lst xs)):xs.length<=sizeLine/\∃ (its:Lu_) (n:Nat),Uh xs its/\xs.length=its.length/\s.heap.get? l=some { cls:=.type "list",data:=.seq its.toArray n }:=by
 refine W_ fun n9=>?_;obtain⟨z,its,n,r,e⟩:=I.hok l _ hH;apply n9;clear n9
 exact⟨z,its,n,r,r.length,e⟩
theorem Zby(h:n<=sizeLine):FM n=false:=by
 unfold FM
 exact decide_eq_false (by lia)
end
section
variable {X:Cx}
def ZdJ:V->Lv_->Hp->VK->Prop:=fun x vs H Q=>∃ l xs y,x=.ref l/\vs=[y]/\H l=some (.lst xs)/\xs.length<sizeLine/\Q .non (upd H l (.lst (xs++[y])))
theorem Z8T:MtM X "list.append" ZdJ:=by
 intro pins s σ H x vs v us Q I rx rv h
 refine W_ fun n9=>?_;obtain⟨l,xs,y,rfl,rfl,hH,hz,q⟩:=h;apply n9;clear n9
 cases rx
 refine W_ fun n9=>?_;obtain⟨u,rfl,ru⟩:=rv.one
 obtain⟨z,its,n,r,hl,e⟩:=I.lstM hH;apply n9;clear n9
 refine ZhQ F.slot_list_append ⟨_,e,rfl⟩ F.entry_list_append (F.args_list_append_2 _ _) (PySem.list_append l its.toArray n u (by rw[Zr];lia)) ⟨e,?_⟩
 refine⟨.non,_,I.lset (its':=its++[u]) hH e (by simp) (r.append (.cons ru .nil)) ?_,rfl,q⟩
 rw[Zj,Di]
 assumption
theorem Z95 {α:Type}(xs:List α)(k:Nat):(Zm k xs).flatten.length=k*xs.length:=by
 induction k with
 |zero=>simp
 |succ k ih=>rw[JZ,UX,Zj,ih,Dr,Nat.add_comm]
end
end L2
namespace Att
open PySem PySem.W PySem.Calls PyProof.Rows
theorem Cg:∀ (ns:List Int) (vs:Lu_),WellAll P h vs (ns.map Zjv)->IntsAre vs ns:=by
 intro ns
 induction ns with
 |nil =>
  intro vs w
  rw[Z7c] at w
  cases w
  exact .nil
 |cons n ns ih =>
  intro vs w
  rw[Zw] at w
  cases w with
  |cons a b =>
   cases a
   exact .cons _ _ (ih _ b)
theorem Z7S {l:OpenLaw}{n:Nat}(hn:l.most=some n){P:Params}{h:Heap}{args:List WData}{vals:Lu_}
  (hpre:l.row.toRowW.claim.pre args=true) (hwl:WellAll P h vals args) :
  ∃ a vs ns,vals=[Y6 a]/\args=[WData.list (ns.map Zjv)]/\h.get? a=some { cls:=.type "list",data:=.seq vs.toArray }/\IntsAre vs ns/\ns.length<=n:=by
 have hsh:WShape.hasAll [] args [.list .int]=true:=(pre_splitW hpre).1
 have hc:l.pre.holds [] { args:=args }=true:=(pre_splitW hpre).2
 obtain⟨d,r,rfl,h1,h2⟩:=hasAllW_cons hsh
 obtain rfl:=hasAllW_nil h2
 obtain⟨xs,rfl,h3⟩:=hasW_list h1
 obtain⟨ns,rfl⟩:=items_int h3
 have hlen:ns.length<=n:=by
  unfold OpenLaw.pre at hc
  have h4:(WTm.not (.lt (.lit (.int (n:Int))) (.len (.arg 0)))).holds [] { args:=[.list (ns.map .int)] }=true:=by
   have h4:=(holds_andW hc).1
   rw[hn] at h4
   exact h4
  have h5:=condW_of h4 (w_not (w_lt w_lit (w_len_list (w_arg rfl))))
  rw[Z5] at h5
  refine Y2 fun q=>?_
  have q':(n:Int)<((ns.length:Nat):Int):=by omega
  first
   |(rw[decide_eq_true q'] at h5;exact absurd h5 (by decide))
   |(simp at h5;omega)
 cases hwl with
 |cons w1 w2 =>
  cases w2
  cases w1 with
  |list ho hall=>exact⟨_,_,ns,rfl,rfl,ho,Cg ns _ hall,hlen⟩
theorem Z8g (l:OpenLaw)(args:List WData):l.row.toRowW.claim.post args (.bool true) args=true :=
 postW_of (r:=l.row.toRowW) (X:=(true == true))
  (show ZhR [] (.bool true) .bool=true by first|rfl|decide|simp[ZhR,WShape.arms,WShape.armsAll])
  (show (WTm.eq .res (.lit (.bool true))).value [] { args:=args,res:=some (.bool true),after:=args }=some (.bool (true == true)) from w_eq_bool (w_res rfl) w_lit) rfl
theorem attach_call {l:OpenLaw}{n:Nat}{q:Program}{loose:Ls_}{XP:(Str->Option Value)->Heap->Prop}{YP:World->Heap->Prop}{d:DefRec}
  (hn:l.most=some n) (hdf:d.params.defaults=[])
  (call:∀ (w:World) (aK aG:Shared) (mg mb:Str->Option Value) (fa:Addr) (o:Obj) (pm cd doc:Value) (a:Addr) (vs:Lu_) (ns:List Int),
   Ground q loose [] XP w aK mg mb aG.heap->YP w aG.heap ->
   aG.heap.get? fa=some o->o.data=.func (docDef d.name d.params d.body d.scope pm cd doc)->aG.heap.CodeRec cd d.name->mg d.name=some (.ref fa) ->
   aG.heap.get? a=some { cls:=.type "list",data:=.seq vs.toArray }->IntsAre vs ns->ns.length<=n->aG.gens=#[] ->
   codeAny (model l.prog w) callerA (.call (.ref fa) ⟨[.ref a],[]⟩) (fun r s'=>r=.ok (.ret (.bool true))/\OldK aG.heap s'.heap/\s'.os=aG.os/\AllBare s'.gens) aG) :
  WalkO q loose XP YP l.row.toRowW d [] (fun f vs=>Zah f vs):=by
 intro w aK aG mg mb G Y fa o pm cd doc dV kV ho hd hcd hD hmg hg args vals as hpre hlay hrd hwl hlo
 obtain rfl:dV=.none:=Dflts.none hD hdf
 obtain rfl:kV=.none:=Dflts.noKw hD
 obtain⟨a,vs,ns,rfl,rfl,hobj,hints,hlen⟩:=Z7S hn hpre hwl
 refine enter_call (Fb (call w aK aG mg mb fa o pm cd doc a vs ns G Y ho (fd_plain hd) hcd hmg hobj hints hlen hg) fun r s' hq=>?_)
 obtain⟨rfl,h2,h3,h4⟩:=hq
 exact⟨.inl ⟨.bool true,.bool true,[],rfl,fun _=>rfl,.bool true,Z8g l _,fun _=>⟨U1,fun _ hm=>(nomatch hm)⟩⟩,h2,h3,h4⟩
end Att
namespace L2
open PySem PySem.Spec PyProof.Rows
theorem Z7A:∀ {vs:Lu_} {ns:List Int},IntsAre vs ns->Uh (ns.map V.int) vs:=by
 intro vs ns h
 induction h with
 |nil=>exact .nil
 |cons n t h ih=>exact .cons ⟨t,rfl⟩ ih
def Zj3 (H:Hp):Prop:=∀ b,H b=none\/∃ o xs,H b=some (.frz o (.lst xs))
theorem ZbT {P:Program}{w:World}{K:Fg_}{mg mb:Str->Option Value}{CX:CXT}{k:Nat}{fa a:Addr}{fd:Jc}{x:Str}{sp:Sp}{aG:Shared}{vs:Lu_}{ns:List Int}
  (KX:K.In aG.heap) (hns:aG.heap.Ns mainGlobals mg) (hb:aG.heap.Ns builtinsNs mb) (hbb:∀ x:Str,x≠"__name__"->mb x=bootBuiltins x) (hlim:aG.heap.NoLimit) (hg:aG.gens=#[])
  (ha:aG.heap.get? a=some { cls:=.type "list",data:=.seq vs.toArray }) (hi:IntsAre vs ns) (hl:ns.length<=sizeLine) (hr:Nm k callerA)
  (F:∀ base:Heap,K.In base->base.Ns mainGlobals mg->Me P w K mg base CX k fa fd [x] sp) (hbind:∀ (s:Shared) (u:Value),BindsTo s fd ⟨[u],[]⟩ [(x,u)])
  (hsp:∀ H:Hp,Zj3 H->SqL K H a (ns.map V.int)->sp [.ref a] H (fun v _=>v=.bl true) fun _ _ _=>False)
  (hCX:∀ H e s',CX [] H aG (fun _ _ _=>False) e s'->False) :
  codeAny (model P w) callerA (.call (.ref fa) ⟨[.ref a],[]⟩) (fun r s'=>r=.ok (.ret (.bool true))/\OldK aG.heap s'.heap/\s'.os=aG.os/\AllBare s'.gens) aG:=by
 have rv:=Z7A hi
 have lenV:=hi.length
 have core:∀ H:Hp,Zj3 H->SqL K H a (ns.map V.int)->HOk P w H aG.heap->(∀ b,H b≠none->b=a)->(H a≠none->K.lookup a=none) ->
   codeAny (model P w) callerA (.call (.ref fa) ⟨[.ref a],[]⟩) (fun r s'=>r=.ok (.ret (.bool true))/\OldK aG.heap s'.heap/\s'.os=aG.os/\AllBare s'.gens) aG:=by
  intro H hO hS hok hA hK
  have base_of:∀ {b:Addr} {o:Obj},aG.heap.get? b=some o->H b=none->(Zc0 aG.heap H).get? b=some o:=fun e n=>ZbZ e n
  have noA:∀ {b:Addr} {o:Obj} {es:Array Fi} {ep:Nat},aG.heap.get? b=some o->o.data=.dict es ep->H b=none:=fun {b o es ep} e d=>by
   cases q:H b with
   |none=>rfl
   |some u =>
    have e':b=a:=hA b (by rw[q];simp)
    subst e'
    rw[ha] at e;cases e
    have d':Zk8 vs.toArray _=Data.dict es ep:=d
    cases d'
  have nsK:∀ {b:Addr} {m:Str->Option Value},aG.heap.Ns b m->(Zc0 aG.heap H).Ns b m:=fun {b m} ⟨o,es,ep,e,d,r⟩=>⟨o,es,ep,base_of e (noA e d),d,r⟩
  have hKb:K.In (Zc0 aG.heap H):=fun b o e=>base_of (KX b o e) (by
   cases q:H b with
   |none=>rfl
   |some u =>
    have e':b=a:=hA b (by rw[q];simp)
    subst e'
    rw[hK (by rw[q];simp)] at e;cases e)
  have hM:Mod K mg (Zc0 aG.heap H):=⟨hKb,nsK hns,⟨mb,nsK hb,hbb⟩,let ⟨mc,h1,h2⟩:=hlim;⟨mc,nsK h1,h2⟩⟩
  have e0:Zi1 P w K mg (Zc0 aG.heap H) callerA [] aG H:=⟨rfl,hM,fun b o e=>ZeE e,Z7p (Z9n _ _),trivial,fun b hb=>absurd (show b∈([]:List Addr) from hb) (by simp),hok,.of_eq hg⟩
  refine Fb ((F _ hKb (nsK hns)).run callerA [] aG H ⟨[.ref a],[]⟩ [.ref a] [.ref a] _ _ hr e0 (hbind aG (.ref a)) (.cons rfl .nil) (hsp H hO hS)) fun r s' h=>?_
  cases r with
  |error e=>exact (hCX H e s' h).elim
  |ok fl =>
   cases fl with
   |next=>exact Np h
   |brk=>exact Np h
   |cont=>exact Np h
   |ret u =>
    refine W_ fun n9=>?_;obtain⟨v,H',os,bare,un,hok',r',q⟩:=h;apply n9;clear n9
    have q':v=.bl true:=q
    subst q'
    obtain rfl:u=Z3k true:=r'
    refine⟨rfl,OldK.of_keep fun b o e=>?_,os,bare⟩
    cases q:H b with
    |none=>exact un.keep b o e q (by intro z;exact absurd (show b∈([]:List Addr) from z) (by simp)) (by simp)
    |some u =>
     rcases hO b with z|⟨ob,xs,z⟩
     ·rw[q] at z;cases z
     ·have z2:=un.frzs b ob _ z
      refine W_ fun n9=>?_;obtain⟨e1,_⟩:=hok b _ z
      obtain⟨e2,_⟩:=hok' b _ z2;apply n9;clear n9
      rw[e] at e1;cases e1
      exact e2
 cases hk:K.lookup a with
 |some o =>
  have e:=KX a o hk
  rw[ha] at e
  cases e
  refine core (fun _=>none) (fun _=>.inl rfl) (.inr ⟨_,vs.toArray,_,hk,rfl,rfl,rfl,by rw[Zr,lenV];exact hl,by simpa using rv⟩) (fun b u z=>by have z':(none:Option HO)=some u:=z;cases z') (fun b z=>absurd rfl z) fun z=>absurd rfl z
 |none =>
  refine core (fun b=>if b=a then some (.frz { cls:=.type "list",data:=.seq vs.toArray } (.lst (ns.map V.int))) else none) (fun b=>?_) (.inl (.inr ⟨{ cls:=.type "list",data:=.seq vs.toArray },if_pos rfl⟩)) (fun b u z=>?_) (fun b z=>?_) fun _=>hk
  ·by_cases hb:b=a
   ·exact .inr ⟨_,_,if_pos hb⟩
   ·exact .inl (if_neg hb)
  ·by_cases hb:b=a
   ·have z':=(if_pos hb).symm.trans z
    cases z'
    subst hb
    exact⟨ha,by rw[Z5];exact hl,vs,_,rv,ha⟩
   ·have z':=(if_neg hb).symm.trans z
    cases z'
  ·by_cases hb:b=a
   ·exact hb
   ·exact absurd (if_neg hb) z
noncomputable abbrev KOf {K:Fg_}{h:Heap}(_:K.In h):Fg_:=K
theorem walk_of {l:CK}{n k:Nat}{q:Program}{loose:Ls_}{XP:(Str->Option Value)->Heap->Prop}{YP:World->Heap->Prop}{d:DefRec}{K:Params->Fg_}{CX:World->CXT}{sp:World->Sp}{x:Str}
  (hn:l.most=some n) (hn2:n<=sizeLine) (hdf:d.params.defaults=[]) (hr:Nm k callerA)
  (hY:∀ (w:World) (h:Heap),YP w h->(K w.params).In h)
  (F:∀ (w:World) (mg:Str->Option Value) (fa:Addr) (h:Heap),(K w.params).In h->h.Ns mainGlobals mg->mg d.name=some (.ref fa) ->
   ∃ fd:Jc,(∀ (s:Shared) (u:Value),BindsTo s fd ⟨[u],[]⟩ [(x,u)]) /\
    ∀ base:Heap,(K w.params).In base->base.Ns mainGlobals mg->Me l.prog w (K w.params) mg base (CX w) k fa fd [x] (sp w))
  (hsp:∀ (w:World) (H:Hp) (a:Addr) (ns:List Int),ns.length<=n->Zj3 H->SqL (K w.params) H a (ns.map V.int)->sp w [.ref a] H (fun v _=>v=.bl true) fun _ _ _=>False)
  (hCX:∀ (w:World) (H:Hp) (s:Shared) (e:Value) (s':Shared),CX w [] H s (fun _ _ _=>False) e s'->False) :
  Zdm q loose XP YP l.row.toRowW d [] (fun f vs=>Zah f vs):=by
 refine Att.attach_call hn hdf fun w aK aG mg mb fa o pm cd doc a vs ns G Y ho hd hcd hmg hobj hints hlen hg=>?_
 have KX:=hY w _ Y
 refine W_ fun n9=>?_;obtain⟨fd,hb,hF⟩:=F w mg fa _ KX G.T.g hmg;apply n9;clear n9
 exact ZbT KX G.T.g G.T.b G.T.builtins G.T.nolimit hg hobj hints (ZF hlen hn2) hr hF hb (fun H hO hS=>hsp w H a ns hlen hO hS) fun H e s'=>hCX w H aG e s'
noncomputable def Yd (s:Stmt):Arguments:=match s with
 |.FunctionDef _ a _ _ _ _ _ _ _ _=>a
 |_=>{ posonlyargs:=[],args:=[],vararg:=none,kwonlyargs:=[],kw_defaults:=[],kwarg:=none,defaults:=[] }
noncomputable def Y3 (s:Stmt):List Stmt:=match s with
 |.FunctionDef _ _ b _ _ _ _ _ _ _=>b
 |_=>[]
noncomputable def ZB (s:Stmt):Scope:=match s with
 |.FunctionDef _ _ _ _ _ _ sc _ _ _=>sc
 |_=>{ kind:=.function,names:=[],isGenerator:=false,isCoroutine:=false }
abbrev CX0:CXT:=fun _ _ _ _ _ _=>False
abbrev E0:XK:=fun _ _ _=>False
theorem Zen:Za0 CX0 X E0:=fun _ _ _ _ _ _ _ h=>h.elim
structure Fun (K:Fg_)(x qual:Str)(st:Stmt)(f:Addr)(fd:Jc):Prop where
 ex:∃ (oc:Value) (od:Option Addr) (kV doc pm:Value) (an:Option Addr) (cdv ct:Value) (osl:Array (Option Value)),
  fd=ZU x qual (Yd st) (Y3 st) (ZB st) .none kV doc pm an cdv ct/\K.lookup f=some ⟨oc,od,.func fd,osl⟩/\ZL K cdv qual=true
 kp:ZK K (.ref f)=true
section
variable {P:Program}{w:World}{K:Fg_}{mg:Str->Option Value}{base:Heap}
theorem Fun.ok {x qual:Str}{st:Stmt}{f:Addr}{fd:Jc}{N ps:Ls_}{k:Nat}{sp:Sp}(F:Fun K x qual st f fd)(S:Yf N ps (ZB st))(len:∀ vs H Q E,sp vs H Q E->vs.length=ps.length)
  (hbody:∀ (cdv:Value) (A:Around) (outer:List Env) (s:Shared) (H:Hp) (vs:Lv_) (Q:VK) (E:XK),Nm k (A.deeper (envOfC qual (ZB st) s.heap.objs.size f cdv))->sp vs H Q E ->
   ∃ t,PSs (Zdg CX0 P w K mg base N qual (ZB st) f cdv A outer s H E).nox (Y3 st) t/\t { nx:=fun _ H'=>Q .non H',rt:=Q } (start N vs) H):Me P w K mg base CX0 (k+1) f fd ps sp:=by
 refine W_ fun n9=>?_;obtain⟨oc,od,kV,doc,pm,an,cdv,ct,osl,rfl,lk,hcd⟩:=F.ex;apply n9;clear n9
 refine ZiT lk hcd S len fun A outer s H vs Q E hr hsp=>?_
 refine W_ fun n9=>?_;obtain⟨t,h,q⟩:=hbody cdv A outer s H vs Q E hr hsp;apply n9;clear n9
 exact⟨t,h.nox,q⟩
theorem Fun.binds {x qual:Str}{st:Stmt}{f:Addr}{fd:Jc}{ps:Ls_}(F:Fun K x qual st f fd)
  (h:∀ (kV doc pm:Value) (an:Option Addr) (cdv ct:Value) (us:Lu_),us.length=ps.length->bindArgs (ZU x qual (Yd st) (Y3 st) (ZB st) .none kV doc pm an cdv ct) ⟨us,[]⟩=pure (ps.zip us)):Binds K fd ps []:=by
 refine W_ fun n9=>?_;obtain⟨oc,od,kV,doc,pm,an,cdv,ct,osl,rfl,lk,hcd⟩:=F.ex;apply n9;clear n9
 exact .all (h kV doc pm an cdv ct)
theorem UB {x qual:Str}{st:Stmt}{f:Addr}{oc:Value}{od an:Option Addr}{osl:Array (Option Value)}{kV doc pm cdv ct:Value}(l:K.lookup f=some ⟨oc,od,.func (ZU x qual (Yd st) (Y3 st) (ZB st) .none kV doc pm an cdv ct),osl⟩)
  (c:ZL K cdv qual=true) (k:ZK K (.ref f)=true):Fun K x qual st f (ZU x qual (Yd st) (Y3 st) (ZB st) .none kV doc pm an cdv ct):=⟨⟨oc,od,kV,doc,pm,an,cdv,ct,osl,rfl,l,c⟩,k⟩
end
theorem Zhd(hr:Nm k A):A.units+1<cLine:=NQ (Zak (by decide:1<=64) _) hr.units
def Jl (H H':Hp):Prop:=∀ b o,H b=some o->H' b=some o
theorem Jl.refl (H:Hp):Jl H H:=fun _ _ h=>h
theorem Jl.trans(a:Jl H H1)(b:Jl H1 H2):Jl H H2:=fun c o h=>b c o (a c o h)
theorem Jl.free(e:Jl H H')(h:H' l=Zhs):H l=Zhs:=by
 cases q:H l with
 |none=>rfl
 |some o =>
  rw[e l o q] at h
  cases h
theorem Jl.seq {K:Fg_}{H H':Hp}{a:Addr}{xs:Lv_}(e:Jl H H')(h:SqL K H a xs):SqL K H' a xs:=by
 rcases h with (h|⟨o,h⟩)|h
 ·exact .inl (.inl (e _ _ h))
 ·exact .inl (.inr ⟨o,e _ _ h⟩)
 ·exact .inr h
section
variable {X:Cx}{pins:Pn_}{σ:St}{H:Hp}{s:Shared}
theorem Inv.track(I:Inv X pins σ H s)(hn:H a=none)(h0:X.aK.heap.objs.size<=a)(hL:a≠X.env.locals)
  (hc:∀ x c,X.env.cells.lookup x=some c->c≠a) (hp:∀ p∈X.pn++pins,p.1≠a) (new:MI X.prog X.w (upd H a o) s.heap a o):Inv X pins σ (upd H a o) s:=by
 have sm:∀ b u,H b=some u->upd H a o b=some u:=fun b u e=>by rw[UA (Gw e hn)];exact e
 have nb:∀ b,b≠a->H b=none->upd H a o b=none:=fun b hb e=>by rw[UA hb];exact e
 refine⟨I.ok,I.os,I.bare,⟨I.base.keep,I.base.slot,fun b ob e n hx=>?_,I.base.there,fun b xs e=>sm _ _ (I.base.tups b xs e),fun b ob u e=>sm _ _ (I.base.frzs b ob u e),fun b ps e=>?_⟩,I.loc,I.cell,nb _ (Gx hL) I.free,fun x c e=>nb _ (hc x c e) (I.freeC x c e),fun p h=>?_,fun b u e=>?_,I.len⟩
 ·exact nb b (ZE (ZG (Zy e) h0)) (I.base.free b ob e n hx)
 ·obtain⟨more,q⟩:=I.base.tbls b ps e
  exact⟨more,sm _ _ q⟩
 ·obtain⟨e,n,r⟩:=I.pin p h
  exact⟨e,nb _ (hp p h) n,r⟩
 ·by_cases hb:b=a
  ·subst hb;rw[JL] at e;cases e;exact new
  ·rw[UA hb] at e
   exact (I.hok b u e).stay (fun _ _ _ q=>q) (fun c q=>sm _ _ q) fun c xs q=>sm _ _ q
end
def Zic:TT:=fun _ H Q=>Q true H
def PIf (X:Cx)(ifs:Le_)(t:TT):Prop :=
 ∀ (pins:Pn_) (s:Shared) (σ:St) (H:Hp) (Q:Bool->Hp->Prop),Inv X pins σ H s->t σ H Q ->
  wpAny (model X.prog X.w) X.A (forIn ifs true fun c r=>if r=true then do let ok <- isTrue c X.env (eval c X.env);pure (Ud ok) else pure (Ud r)) (TP X pins σ Q) X.xe s
theorem Ze0:PIf X [] Zic:=fun _ _ _ H _ I h=>wpAny_tests_nil ⟨H,I,h⟩
theorem ZdZ(h:PT X c t):PIf X [c] t:=fun pins s σ H Q I q=>wpAny_tests_one (h pins s σ H Q I q)
section
variable {prog:Program}{w:World}{A:Around}{R:Result->Shared->Prop}{s:Shared}
theorem Z4v {elt target iter:Expr}{ifs:Le_}{scope:Scope}{pos:Pos}{it acc:Value}{env:Env}(I:Nat->Shared->Prop)
  (turn:∀ n s,I n s->wpAny (model prog w) A (pyNext it) (fun r aG=>match r with
   |none=>R (.ok .next) aG
   |some v=>wpAny (model prog w) A (letOwnedTupleGo target it v) (fun _ aK=>wpAny (model prog w) A (assign target env v) (fun _ aC =>
     wpAny (model prog w) A (forIn ifs true fun c r=>if r=true then do let ok <- isTrue c env (eval c env);pure (Ud ok) else pure (Ud r)) (fun ok aT =>
      if ok=true then wpAny (model prog w) A (eval elt env) (fun x bI =>
       wpAny (model prog w) A (call (.builtin "list.append") [acc,x]) (fun _ bT=>∃ m,m<n/\I m bT) (fun _ _=>False) bI) (fun _ _=>False) aT
      else ∃ m,m<n/\I m aT) (fun _ _=>False) aC) (fun _ _=>False) aK) (fun _ _=>False) aG) (fun _ _=>False) s)
  (n:Nat) (h:I n s) :
  codeAny (model prog w) A (.compLoop (.ListComp elt [⟨target,iter,ifs,0⟩] scope pos) 0 it acc env) R s:=by
 refine codeAny_loop rfl I (fun n s hI=>?_) n h
 show wpAny _ A ((compTurn (.ListComp elt [⟨target,iter,ifs,0⟩] scope pos) 0 it acc env).onRaise (fun x=>do noteFrame x env;theTreesLotGoes x)) _ _ s
 refine wpAny_noted ?_
 rw[compTurn_list]
 refine Z0 (Zk1 (Z0 (Y1 (turn n s hI) (fun r aG aS=>?_) fun _ _ f=>f.elim)))
 cases r with
 |none=>exact Z4 aS
 |some v =>
  refine Z0 (Y1 aS (fun _ aK h₀=>?_) fun _ _ f=>f.elim)
  refine Z0 (Y1 h₀ (fun _ aC bX=>Z0 (Y1 bX (fun ok aT bU=>?_) fun _ _ f=>f.elim)) fun _ _ f=>f.elim)
  cases ok with
  |false=>exact Z4 ⟨rfl,bU⟩
  |true =>
   exact Z0 (Z0 (Y1 bU (fun x bI cA=>Z0 (Y1 cA (fun _ bT cB=>Z4 (Z4 ⟨rfl,cB⟩)) fun _ _ f=>f.elim)) fun _ _ f=>f.elim))
end
noncomputable def cxC (X:Cx)(ts:Ls_)(scope:Scope)(cl:List (Str×Addr))(aC:Shared)(H1:Hp)(C:Addr)(fp:List Addr):Cx :=
 { X with N:=ts++X.N,aK:=aC,aX:=H1,env:=compEnvC scope cl C X.env,outer:=X.stack,stack:=X.stack,ex:=fp,fn:=fun _=>false,pn:=[],xe:=fun _ _=>False }
structure Yt (X:Cx)(ts:Ls_)(scope:Scope):Prop where
 kind:scope.kind=.function
 cell:∀ y∈scope.names,y.2≠.cell
 names:∀ y∈scope.names,y.2=.local->scope.names.lookup y.1=some .local
 free:∀ y∈scope.names,y.2=.free->X.env.kindOf y.1=some .cell\/X.env.kindOf y.1=some .free
 own:∀ y∈X.N,scope.names.lookup y≠some .local
structure DX (X:Cx)(scope:Scope)(cl:List (Str×Addr)):Prop where
 sub:∀ x c,cl.lookup x=some c->X.env.cells.lookup x=some c
 has:∀ x,scope.names.lookup x=some .free->∃ c,cl.lookup x=some c
theorem Z6Z(has:∀ x,(env.kindOf x=some .cell\/env.kindOf x=some .free)->∃ c,env.cells.lookup x=some c)(scope:Scope)
  (hfr:∀ y∈scope.names,y.2=.free->env.kindOf y.1=some .cell\/env.kindOf y.1=some .free) :
  ∃ cl,closureFor scope env=pure cl/\(∀ x c,cl.lookup x=some c->env.cells.lookup x=some c)/\(∀ y∈scope.names,y.2=.free->∃ c,cl.lookup y.1=some c):=by
 have main:∀ (l:List (Str×UG)) (acc:List (Str×Addr)),(∀ y∈l,y.2=.free->env.kindOf y.1=some .cell\/env.kindOf y.1=some .free)->(∀ x c,acc.lookup x=some c->env.cells.lookup x=some c) ->
   ∃ cl,(forIn l acc fun (x:Str×UG) (cs:List (Str×Addr))=>if (x.2 == Gy)=true then do let a <- cellOf env x.1;pure (Ud ((x.1,a)::cs)) else pure (Ud cs))=(pure cl:Sem (List (Str×Addr))) /\
    (∀ x c,cl.lookup x=some c->env.cells.lookup x=some c)/\(∀ x c,acc.lookup x=some c->∃ c',cl.lookup x=some c')/\(∀ y∈l,y.2=.free->∃ c,cl.lookup y.1=some c):=by
  intro l
  induction l with
  |nil=>intro acc _ h;exact⟨acc,rfl,h,fun x c e=>⟨c,e⟩,fun _ z=>nomatch z⟩
  |cons y l ih =>
   intro acc hl ha
   obtain⟨n,k⟩:=y
   by_cases hk:k=.free
   ·subst hk
    obtain⟨c,hc⟩:=has n (hl (n,.free) Z1 rfl)
    obtain⟨cl,e,h1,h2,h3⟩:=ih ((n,c)::acc) (fun y hy=>hl y (Z2 _ hy)) (fun x d e=>by
     rw[Yb] at e
     cases q:x == n with
     |true=>rw[q] at e;rw[eq_of_beq q];cases e;exact hc
     |false=>rw[q] at e;exact ha x d e)
    have hcell:cellOf env n=pure c:=by unfold cellOf;rw[hc]
    refine⟨cl,?_,h1,fun x d e=>?_,fun y hy hf=>?_⟩
    ·rw[MY]
     simp only[beq_self_eq_true,if_true,hcell,pure_bind]
     exact e
    ·cases q:x == n with
     |true=>exact h2 x c (by rw[Yb,q])
     |false=>exact h2 x d (by rw[Yb,q];exact e)
    ·rcases Zc.mp hy with rfl|hy
     ·exact h2 n c (by simp[Yb])
     ·exact h3 y hy hf
   ·obtain⟨cl,e,h1,h2,h3⟩:=ih acc (fun y hy=>hl y (Z2 _ hy)) ha
    refine⟨cl,?_,h1,h2,fun y hy hf=>?_⟩
    ·rw[MY]
     have hb:(k == Gy)=false:=by simpa using hk
     simp only[hb,Zv,if_false,pure_bind]
     exact e
    ·rcases Zc.mp hy with rfl|hy
     ·exact absurd hf hk
     ·exact h3 y hy hf
 obtain⟨cl,e,h1,_,h3⟩:=main scope.names [] hfr (fun x c e=>by simp at e)
 refine⟨cl,?_,h1,h3⟩
 unfold closureFor
 first
  |(simp only[bind_pure];exact e)
  |(rw[show (forIn scope.names [] _:Sem (List (Str×Addr)))=pure cl from e];rfl)
theorem Yq {env:Env}:∀ {names:List (Str×UG)} {x:Str} {k:UG},
  (names.map fun (n,k)=>if (k == Gy&&env.scope.kind == .function&&env.kindOf n == some .cell) then (n,DW) else (n,k)).lookup x=some k ->
  names.lookup x=some k\/(k=.cell/\names.lookup x=some .free)
 |[],_,_,h=>by simp at h
 |(n,j)::r,x,k,h=>by
  have ih:=@Yq env r x k
  have h':Zj6 x ((if (j == Gy&&env.scope.kind == .function&&env.kindOf n == some .cell)=true then (n,DW) else (n,j)) ::
   (r.map fun (n,k)=>if (k == Gy&&env.scope.kind == .function&&env.kindOf n == some .cell) then (n,DW) else (n,k)))=some k:=h
  cases hx:x == n with
  |true =>
   by_cases hc:(j == Gy&&env.scope.kind == .function&&env.kindOf n == some .cell)=true
   ·rw[if_pos hc] at h'
    simp only[Yb,hx] at h'
    cases h'
    refine .inr ⟨rfl,?_⟩
    simp only[ZP,beq_iff_eq] at hc
    simp[Yb,hx,hc.1.1]
   ·rw[if_neg hc] at h'
    simp only[Yb,hx] at h'
    cases h'
    exact .inl (by simp[Yb,hx])
  |false =>
   have e:Zj6 x (r.map fun (n,k)=>if (k == Gy&&env.scope.kind == .function&&env.kindOf n == some .cell) then (n,DW) else (n,k))=some k:=by
    by_cases hc:(j == Gy&&env.scope.kind == .function&&env.kindOf n == some .cell)=true
    ·rw[if_pos hc] at h';simp only[Yb,hx] at h';exact h'
    ·rw[if_neg hc] at h';simp only[Yb,hx] at h';exact h'
   rcases ih e with q|⟨q1,q2⟩
   ·exact .inl (by simp only[Yb,hx];exact q)
   ·exact .inr ⟨q1,by simp only[Yb,hx];exact q2⟩
section
variable {X:Cx}{pins:Pn_}{σ:St}{H1:Hp}{aC:Shared}{ts:Ls_}{scope:Scope}{cl:List (Str×Addr)}{fp:List Addr}{C:Addr}
theorem Inv.fpLt(T:Zcn X.prog X.w X.K tg J fp it tn)(st:tn i h):∀ b∈fp,b<h.objs.size:=fun b hb=>by
 obtain⟨o,e,_⟩:=T.obj i h st b hb
 exact Zy e
theorem Zhl (I2:Inv X pins σ H1 aC)(S:Yt X ts scope)(L:DX X scope cl)(hf:∀ b∈fp,Z0G X pins H1 b)(hlt:∀ b∈fp,b<aC.heap.objs.size)(hC:aC.heap.objs.size<=C) :
  (cxC X ts scope cl aC H1 C fp).Ok where
 mod:=I2.ok.mod
 kind:=S.kind
 glob:=I2.ok.glob
 blt:=I2.ok.blt
 above:=hC
 inj:=fun x y c h1 h2=>I2.ok.inj x y c (L.sub x c h1) (L.sub y c h2)
 has:=fun x hx=>by
  have hx':(relabel scope X.env).names.lookup x=some .cell\/(relabel scope X.env).names.lookup x=some .free:=hx
  have key:scope.names.lookup x=some .free:=by
   rcases hx' with q|q
   ·rcases Yq q with z|⟨_,z⟩
    ·exact absurd rfl (S.cell _ (Yu z))
    ·exact z
   ·rcases Yq q with z|⟨z,_⟩
    ·exact z
    ·cases z
  exact L.has x key
 cab:=fun x c h=>by cases h
 hd:=I2.ok.hd
 frames:=I2.ok.frames
 stk:=.inl rfl
 exf:=fun b hb=>⟨ZE (ZG (hlt b hb) hC),fun x c e=>(hf b hb).2.2.2.2.1 x c (L.sub x c e)⟩
 bs:=I2.bs
 bsz:=ZF I2.ok.bsz I2.sz
 noex:=fun b o e hb=>by
  rcases (hf b hb).2.2.2.1 with z|z
  ·exact I2.ok.noex b o e z
  ·exact absurd (ZG (Zy e) (ZF I2.ok.bsz z)) (YF _)
 exfs:=fun b hb hz=>by
  rcases Zc.mp (I2.stkSub b hz) with z|z
  ·exact (hf b hb).2.1 z
  ·exact (hf b hb).2.2.1 z
 funs:=I2.stack
 frf:=I2.stkFree
theorem Zf2(I2:Inv X pins σ H1 aC)(S:Yt X ts scope)(L:DX X scope cl)(hf:∀ b∈fp,Z0G X pins H1 b)(hlt:∀ b∈fp,b<aC.heap.objs.size)
  (hC:aC.heap.objs.size<=C) (old:∀ b o,aC.heap.get? b=some o->aS.get? b=some o) (hn:aS.Ns C m) :
  Inv (cxC X ts scope cl aC H1 C fp) [] (Zm ts.length none++σ) H1 { aC with heap:=aS,toks:=cC } where
 ok:=Zhl I2 S L hf hlt hC
 os:=rfl
 bare:=I2.bare
 base:=Un.kept old
 loc:=by
  refine⟨m,hn,fun i x v h1 h2 h3=>?_⟩
  have hi:ts.length<=i:=by
   by_cases hi:i<ts.length
   ·rw[JI (by simpa using hi),Ui,if_pos hi] at h2
    cases h2
   ·exact Y2 ‹_›
  rw[Jp (by simpa using hi),Y8] at h2
  have h1':(ts++X.N)[i]?=some x:=h1
  rw[Jp hi] at h1'
  have hxN:x∈X.N:=ZJ h1'
  have hv:(relabel scope X.env).names.lookup x=some .local\/(relabel scope X.env).names.lookup x=some .cell\/(relabel scope X.env).names.lookup x=some .free:=h3
  have key:scope.names.lookup x=some .free:=by
   rcases hv with q|q|q
   ·rcases Yq q with z|⟨z,_⟩
    ·exact absurd z (S.own x hxN)
    ·cases z
   ·rcases Yq q with z|⟨_,z⟩
    ·exact absurd rfl (S.cell _ (Yu z))
    ·exact z
   ·rcases Yq q with z|⟨z,_⟩
    ·exact z
    ·cases z
  have kk:X.env.kindOf x=some .cell\/X.env.kindOf x=some .free:=S.free _ (Yu key) rfl
  refine W_ fun n9=>?_;obtain⟨mX,_,hl⟩:=I2.loc
  obtain⟨u,r,lk⟩:=hl (i-ts.length) x v h1' h2 (kk.elim (fun z=>.inr (.inl z)) fun z=>.inr (.inr z));apply n9;clear n9
  refine⟨u,r,.inr ⟨?_,?_⟩⟩
  ·rcases hv with q|q
   ·rcases Yq q with z|⟨z,_⟩
    ·exact absurd z (S.own x hxN)
    ·cases z
   ·exact q
  ·obtain⟨c,hc⟩:=L.has x key
   refine⟨c,hc,?_⟩
   rcases lk with ⟨z,_⟩|⟨_,c',e',o,ho,hd⟩
   ·rcases kk with k|k <;> (rw[z] at k;cases k)
   ·have e2:=L.sub x c hc
    rw[e2] at e'
    cases e'
    exact⟨o,old _ _ ho,hd⟩
 cell:=fun x c e=>by
  refine W_ fun n9=>?_;obtain⟨v,o,ho,hd⟩:=I2.cell x c (L.sub x c e);apply n9;clear n9
  exact⟨v,o,old _ _ ho,hd⟩
 free:=I2.hok.fresh hC
 freeC:=fun x c e=>I2.freeC x c (L.sub x c e)
 pin:=fun p hp=>absurd (show p∈([]:Pn_) from hp) (by simp)
 hok:=I2.hok.kept old
 len:=by
  show _=(ts++X.N).length
  rw[Zj,Zj,Y8,I2.len]
theorem Z9O {pins':Pn_}{aF:St}{H':Hp}{s':Shared}{h':Heap}(I2:Inv X pins σ H1 aC)(hf:∀ b∈fp,Z0G X pins H1 b)(hC:aC.heap.objs.size<=C)
  (Ic:Inv (cxC X ts scope cl aC H1 C fp) pins' aF H' s') (hs:J2 C s'.heap h'):Inv X pins σ H' { s' with heap:=h' }:=by
 have nC:∀ b o,aC.heap.get? b=some o->b≠C:=fun b o e=>ZE (ZG (Zy e) hC)
 have u:=Ic.base
 have un:Un (frs X.stack) fp H1 H' aC.heap h' :=
  ⟨fun b o e n hb hx=>(hs.2 b (nC b o e)).trans (u.keep b o e n hb hx),fun b o e n hb hx=>by
    obtain⟨sl,q⟩:=u.slot b o e n hb hx
    exact⟨sl,(hs.2 b (nC b o e)).trans q⟩,u.free,fun b o e hx=>by
    obtain⟨o',q⟩:=u.there b o e hx
    exact⟨o',(hs.2 b (nC b o e)).trans q⟩,u.tups,u.frzs,u.tbls⟩
 have hok:HOk X.prog X.w H' h':=fun b o e=>by
  have nb:∀ c w,H' c=some w->c≠C:=fun c w q z=>by
   have:H' C=none:=Ic.free
   rw[z,this] at q;cases q
  refine (Ic.hok b o e).stay (fun c w' hc q=>(hs.2 c ?_).trans q) (fun _ q=>q) fun _ _ q=>q
  rcases hc with rfl|hc
  ·exact nb _ _ e
  ·exact nb _ _ hc
 exact I2.call' (s':={ s' with heap:=h' }) (ch:=fp) (show s'.os=aC.os from Ic.os) un hok Ic.bare fun b hb =>
  let ⟨_,f1,_,f3,f4,f5⟩:=hf b hb
  ⟨f3,f1,f4,f5⟩
end
noncomputable abbrev Z6O (its:Lu_) (k:Nat):Obj:={ cls:=.type "list",data:=.seq its.toArray k }
theorem Z0s {X:Cx}{pins:Pn_}{σ:St}{H1:Hp}{aC:Shared}{ts:Ls_}{scope:Scope}{cl:List (Str×Addr)}{fp:List Addr}{elt tg iter:Expr}{ifs:Le_}{pos:Pos}{g:TG}{tt:TT}{te:TE}{J:It}{it:Addr}
  {tn:Nat->Heap->Prop} {E:Ps_} {RR:Value->Addr->Result->Shared->Prop} {Fin:Lv_->Hp->Prop}
  (I2:Inv X pins σ H1 aC) (hc:X.calm=true) (T:Zcn X.prog X.w X.K tg J fp it tn) (st:tn 0 aC.heap) (hf:∀ b∈fp,Z0G X pins H1 b) (S:Yt X ts scope) (L:DX X scope cl)
  (hg:∀ C,PG (cxC X ts scope cl aC H1 C fp) tg g) (ht:∀ C,PIf (cxC X ts scope cl aC H1 C fp) ifs tt) (he:∀ C,PE (cxC X ts scope cl aC H1 C fp) elt te)
  (W:Nat->Nat->Lv_->Hp->Prop) (w0:∃ m,W 0 m [] H1)
  (turn:∀ i m ys H,W i m ys H->ys.length<=sizeLine/\((J.stop i H/\Fin ys H)\/(J.go i H/\∀ x H',J.yld i H x H'->g x (Zm ts.length none++σ) H' fun aL H2=>(aL.length=ts.length+σ.length/\aL.drop ts.length=σ) /\
   tt aL H2 fun c H3=>if c=true then te aL H3 fun y H4=>∃ m',m'<m/\W (i+1) m' (ys++[y]) H4 else ∃ m',m'<m/\W (i+1) m' ys H3)))
  (hRR:∀ C D s' H' ys its k aF m',aC.heap.objs.size<=D->aC.heap.objs.size<=C->D≠C->Inv (cxC X ts scope cl aC H1 C fp) [] aF H' s'->s'.heap.Ns C m'->s'.heap.get? D=some (Z6O its k)->Uh ys its->ys.length<=sizeLine->H' D=none->Fin ys H'->RR (.ref D) C (.ok .next) s') :
  wpAny (model X.prog X.w) X.A (newList []) (fun acc aT=>wpAny (model X.prog X.w) X.A (newFunctionEnv scope X.env.globals cl [] X.env.qual none .none (some X.env)) (fun cenv bI =>
   codeAny (model X.prog X.w) X.A (.compStart (.ListComp elt [⟨tg,iter,ifs,0⟩] scope pos) 0 (.ref it) acc { cenv with scope:=relabel scope X.env }) (RR acc cenv.locals) bI) E aT) E aC:=by
 refine Jq (wpAny_newFunctionEnv S.cell (by intro y hy;simp at hy) (fun aS bO bJ=>?_) S.kind)
 dsimp only at bO bJ ⊢
 generalize hH2:aC.heap.push { cls:=.type "list",dict:=none,data:=.seq ([]:Lu_).toArray }=H2 at bO bJ ⊢
 have hCs:H2.objs.size=aC.heap.objs.size+1:=by rw[<- hH2,N3]
 have hDC:aC.heap.objs.size≠H2.objs.size:=by rw[hCs];exact ZE (Ua _)
 have hC:aC.heap.objs.size<=H2.objs.size:=by rw[hCs];exact Ym _
 have below:∀ b,b<aC.heap.objs.size->b≠H2.objs.size/\b≠aC.heap.objs.size:=fun b hb=>⟨by rw[hCs];exact ZE (Yg hb),ZE hb⟩
 have old:∀ b o,aC.heap.get? b=some o->aS.get? b=some o:=fun b o e=>bJ.extBut b o (below b (Zy e)).1 (Z3 _ (hH2 ▸ Z3 _ e))
 have hacc:aS.get? aC.heap.objs.size=some (Z6O [] 0):=bJ.extBut _ _ hDC (Z3 _ (hH2 ▸ Zl _ rfl))
 have hlt:∀ b∈fp,b<aC.heap.objs.size:=Inv.fpLt T st
 have st1:tn 0 aS:=T.keep _ _ _ st fun b _ o e=>old b o e
 generalize hCC:H2.objs.size=C at *
 generalize hDD:aC.heap.objs.size=D at *
 have fpD:∀ b∈fp,b≠D:=fun b hb=>(below b (hlt b hb)).2
 have cellD:∀ x c,cl.lookup x=some c->c≠D:=fun x c e=>by
  obtain⟨v,q⟩:=I2.cell x c (L.sub x c e)
  exact (below c (hDD ▸ q.lt)).2
 have stat:∀ {pins':Pn_} {H':Hp},(∀ p∈pins',p.1∉fp)->(∀ b∈fp,H' b=none)->∀ b∈fp,Z0G (cxC X ts scope cl aC H1 C fp) pins' H' b:=fun {pins' H'} hp hn b hb=>by
  refine⟨hn b hb,(below b (hlt b hb)).1,fun hz=>?_,.inl hb,fun x c e=>(hf b hb).2.2.2.2.1 x c (L.sub x c e),fun p hpp z=>?_⟩
  ·rcases Zc.mp (I2.stkSub b hz) with z|z
   ·exact (hf b hb).2.1 z
   ·exact (hf b hb).2.2.1 z
  ·exact hp p (by simpa [cxC] using hpp) (z ▸ hb)
 obtain⟨m0,w0⟩:=w0
 have nDfs:D∉frs X.stack:=fun hz=>by
  rcases Zc.mp (I2.stkSub D hz) with z|z
  ·exact (below _ (hDD ▸ I2.lt)).2 z.symm
  ·exact I2.nofs (hDD ▸ Z7 _) z
 have loop:∀ aT:Shared,aT={ aC with heap:=aS,toks:=aC.toks+([]:List (Str×Value)).length } ->
   codeAny (model X.prog X.w) X.A (.compLoop (.ListComp elt [⟨tg,iter,ifs,0⟩] scope pos) 0 (.ref it) (.ref D) (compEnvC scope cl C X.env)) (RR (.ref D) C) aT:=by
  rintro aT rfl
  refine Z4v (fun n s'=>∃ i ys its k H',Inv (cxC X ts scope cl aC H1 C fp) [] (Zm ts.length none++σ) H' s'/\tn i s'.heap/\(∀ b∈fp,H' b=none)/\s'.heap.get? D=some (Z6O its k)/\Uh ys its/\H' D=none/\W i n ys H') ?_ m0
   ⟨0,[],[],0,H1,Zf2 I2 S L hf (fun b hb=>hDD ▸ hlt b hb) (hDD ▸ hC) old bO,st1,fun b hb=>(hf b hb).1,hacc,.nil,I2.hok.fresh (hDD ▸ Z7 _),w0⟩
  rintro n s3 ⟨i,ys,its,k,H3,I3,st3,fr3,hD3,rv3,nD3,w3⟩
  have pinD:∀ {aF:St} {H':Hp} {s':Shared},Inv (cxC X ts scope cl aC H1 C fp) [] aF H' s'->s'.heap.get? D=some (Z6O its k)->H' D=none->Inv (cxC X ts scope cl aC H1 C fp) [(D,Z6O its k)] aF H' s':=fun I e n=>I.pins_of fun p hp=>by
   have:p=(D,Z6O its k):=by simpa using hp
   subst this
   exact⟨e,n,hDC,nDfs,fun v z=>by cases z⟩
  have I3':=pinD I3 hD3 nD3
  have pfp:∀ p∈[(D,Z6O its k)],p.1∉fp:=fun p hp hz=>by
   have:p=(D,Z6O its k):=by simpa using hp
   subst this
   exact fpD D hz rfl
  obtain⟨hz,alt⟩:=turn i n ys H3 w3
  rcases alt with ⟨stop,fin⟩|⟨go,step⟩
  ·refine thn (T.done (cxC X ts scope cl aC H1 C fp) rfl rfl rfl hc i _ s3 _ H3 _ I3' (stat pfp fr3) st3 stop) fun r s4 z1_=>?_
   obtain ⟨hr,I4⟩:=z1_
   subst hr
   obtain⟨e4,n4,_⟩:=I4.pin (D,Z6O its k) (Zs _ Z1)
   obtain⟨m4,hn4,_⟩:=I4.loc
   exact hRR C D s4 H3 ys its k _ m4 (hDD ▸ Z7 _) (hDD ▸ hC) hDC (I4.pins_of fun p hp=>nomatch hp) hn4 e4 rv3 hz n4 fin
  ·refine thn (T.item (cxC X ts scope cl aC H1 C fp) rfl rfl rfl hc i _ s3 _ H3 _ I3' (stat pfp fr3) st3 go) fun r s4 z1_=>?_
   obtain ⟨u,hr,h4⟩:=z1_
   subst hr
   refine thn h4 fun _ s5 z1_=>?_
   obtain ⟨x,H5,I5,r5,y5,st5,fr5⟩:=z1_
   have I5':=I5.pinned (stat pfp fr5) (T.obj _ _ st5)
   refine thn (hg C _ s5 _ H5 x u _ I5' r5 (step x H5 y5)) fun _ s6 z1_=>?_
   obtain ⟨aY,H6,I6,⟨hl6,hd6⟩,q6⟩:=z1_
   have wk:∀ {pins':Pn_} {H':Hp} {s':Shared},Inv (cxC X ts scope cl aC H1 C fp) pins' aY H' s'->Inv (cxC X ts scope cl aC H1 C fp) pins' (Zm ts.length none++σ) H' s':=fun I=>I.weak (by rw[Zj,Y8];exact hl6.symm) fun j v e=>by
    by_cases hj:j<ts.length
    ·rw[JI (by simpa using hj),Ui,if_pos hj] at e
     cases e
    ·rw[Jp (by simpa using hj),Y8,<- hd6,Zam] at e
     rw[show ts.length+(j-ts.length)=j by omega] at e
     exact e
   have tnK:∀ {aP:St} {H7:Hp} {s7:Shared},Inv (cxC X ts scope cl aC H1 C fp) ([(D,Z6O its k)]++Z2j fp s5.heap) aP H7 s7->tn (i+1) s7.heap/\(∀ b∈fp,H7 b=none)/\s7.heap.get? D=some (Z6O its k)/\H7 D=none:=fun {aP H7 s7} I7=>by
    refine⟨T.keep _ _ _ st5 fun b hb o e=>(I7.pin (b,o) (Zs _ (Zs _ (WD hb e)))).1,fun b hb=>?_,?_⟩
    ·obtain⟨o,e,d⟩:=T.obj _ _ st5 b hb
     exact (I7.pin (b,o) (Zs _ (Zs _ (WD hb e)))).2.1
    ·obtain⟨e,n,_⟩:=I7.pin (D,Z6O its k) (Zs _ (Js _ Z1))
     exact⟨e,n⟩
   refine thn (ht C _ s6 aY H6 _ I6 q6) fun ok s7 z1_=>?_
   obtain ⟨H7,I7,q7⟩:=z1_
   cases ok with
   |false =>
    obtain⟨m',hm,w7⟩:=q7
    obtain⟨t7,f7,e7,n7⟩:=tnK I7
    exact⟨m',hm,i+1,ys,its,k,H7,(wk I7).pins_of (fun p hp=>(nomatch hp)),t7,f7,e7,rv3,n7,w7⟩
   |true =>
    refine thn (he C _ s7 aY H7 _ I7 q7) fun z s8 z1_=>?_
    obtain ⟨y,H8,I8,ry,m',hm,w8⟩:=z1_
    obtain⟨t8,f8,e8,n8⟩:=tnK I8
    have hzi:its.length<=sizeLine:=by rw[<- rv3.length];exact hz
    refine append_at e8 (fun h9 hs9 hD9=>?_) (by rw[Zr];exact hzi)
    have I9:Inv (cxC X ts scope cl aC H1 C fp) [] (Zm ts.length none++σ) H8 { s8 with heap:=h9 } :=
     ((wk I8).pins_of (pins':=[]) fun p hp=>nomatch hp).turned (t':=s8.toks) (fun b o hb e=>(hs9.2 b hb).trans e) n8 hDC (.inr (hDD ▸ Z7 _)) cellD (fun p hp=>absurd (show p∈([]:Pn_) from hp) (by simp))
    refine⟨m',hm,i+1,ys++[y],its++[z],k+1,H8,I9,T.keep _ _ _ t8 fun b hb o e=>(hs9.2 b (fpD b hb)).trans e,f8,?_,rv3.append (.cons ry .nil),n8,w8⟩
    rw[hD9]
    show some ({ cls:=.type "list",data:=.seq (its.toArray.push z) (k+1) }:Obj)=some { cls:=.type "list",data:=.seq (its++[z]).toArray (k+1) }
    rw[Zcu]
 exact codeAny_compStart_list (loop _ rfl) (T.self _ 0 _ _ _ st1 (loop _ rfl))
noncomputable def Z5F {α:Type}:List Nat->List (Option α)->List (Option α)
 |[],l=>l
 |j::r,l=>(Z5F r l).set j none
noncomputable def ZiY:List Nat->Str
 |[]=>""
 |_::_=>"."
noncomputable def ZhO:List Nat->List Str->List Str
 |[],N=>N
 |j::r,N=>(ZhO r N).set j (ZiY r)
noncomputable def Cx.hid (X:Cx)(m:List Nat):Cx:={ X with N:=ZhO m X.N }
theorem Inv.nm {X:Cx}{pins:Pn_}{σ aF:St}{H:Hp}{s:Shared}{N':Ls_}(I:Inv X pins σ H s)(hl:aF.length=N'.length)(h:∀ (i:Nat) (x:Str) (v:V),N'[i]?=some x->aF[i]?=some (some v)->X.N[i]?=some x/\σ[i]?=some (some v)) :
  Inv { X with N:=N' } pins aF H s :=
 let k:=I.ok
 ⟨⟨k.mod,k.kind,k.glob,k.blt,k.above,k.inj,k.has,k.cab,k.hd,k.frames,k.stk,k.exf,k.bs,k.bsz,k.noex,k.exfs,k.funs,k.frf⟩,I.os,I.bare,I.base,let ⟨m,hn,hl'⟩:=I.loc;⟨m,hn,fun i x v e1 e2 e3=>let ⟨f1,f2⟩:=h i x v e1 e2;hl' i x v f1 f2 e3⟩,I.cell,I.free,I.freeC,I.pin,I.hok,hl⟩
theorem Inv.hid {X:Cx}{pins:Pn_}{σ:St}{H:Hp}{s:Shared}(I:Inv X pins σ H s):∀ m:List Nat,Inv (X.hid m) pins (Z5F m σ) H s
 |[]=>I
 |j::r=>(I.hid r).nm (N':=(ZhO r X.N).set j (ZiY r)) (by show ((Z5F r σ).set j none).length=_;rw[MX,MX];exact (I.hid r).len) fun i x v e1 e2=>by
  have e1:((ZhO r X.N).set j (ZiY r))[i]?=some x:=e1
  have e2:((Z5F r σ).set j none)[i]?=some (some v):=e2
  by_cases z:j=i
  ·subst z
   by_cases q:j<(Z5F r σ).length
   ·rw[Go q] at e2;cases e2
   ·rw[GD (by rw[MX];exact Y2 ‹_›)] at e2;cases e2
  ·rw[GS z] at e1 e2
   exact⟨e1,e2⟩
def ZfI (k:Nat)(g:TG)(tt:TT)(te:TE)(σ:St)(Q:VK)(J:It)(H1:Hp):Prop:=∃ W:Nat->Nat->Lv_->Hp->Prop,(∃ m,W 0 m [] H1) /\
 ∀ i m ys H,W i m ys H->ys.length<=sizeLine/\((J.stop i H/\∀ D,H D=none->Q (.ref D) (upd H D (.lst ys)))\/(J.go i H/\∀ x H',J.yld i H x H'->g x (Zm k none++σ) H' fun aL H2=>(aL.length=k+σ.length/\aL.drop k=σ) /\
   tt aL H2 fun c H3=>if c=true then te aL H3 fun y H4=>∃ m',m'<m/\W (i+1) m' (ys++[y]) H4 else ∃ m',m'<m/\W (i+1) m' ys H3))
def Zdz (k:Nat)(wi:TI)(g:TG)(tt:TT)(te:TE):TE:=fun σ H Q=>wi σ H (ZfI k g tt te σ Q)
def Z7G (m:List Nat)(k:Nat)(wi:TI)(g:TG)(tt:TT)(te:TE):TE:=fun σ H Q=>wi σ H (ZfI k g tt te (Z5F m σ) Q)
theorem Yt.cells {X:Cx}{ts:Ls_}{scope:Scope}{env:Env}(S:Yt X ts scope)(ok:X.Ok):∃ cl,closureFor scope X.env=pure cl/\DX X scope cl:=by
 refine W_ fun n9=>?_;obtain⟨cl,e,h1,h2⟩:=Z6Z ok.has scope S.free;apply n9;clear n9
 exact⟨cl,e,h1,fun x hx=>h2 _ (Yu hx) rfl⟩
theorem Zb6(hc:X.calm=true)(S:Yt (X.hid m) ts scope)(hi:PI X tg iter wi)
  (hg:∀ cl aC H1 C fp,PG (cxC (X.hid m) ts scope cl aC H1 C fp) tg g) (ht:∀ cl aC H1 C fp,PIf (cxC (X.hid m) ts scope cl aC H1 C fp) ifs tt) (he:∀ cl aC H1 C fp,PE (cxC (X.hid m) ts scope cl aC H1 C fp) elt te)
  (hs:autoParam (∀ x,foldedSetIterable iter X.env x=pure x) qc._auto_1) :
  PE X (.ListComp elt [⟨tg,iter,ifs,0⟩] scope pos) (Z7G m ts.length wi g tt te):=by
 intro pins s σ H Q I h
 rw[eval_ListComp]
 refine W_ fun n9=>?_;obtain⟨cl,hcl,L⟩:=S.cells (env:=X.env) (I.hid m).ok;apply n9;clear n9
 refine Z7x (use:=none) rfl hs hcl S.kind S.names (Y1 (hi pins s σ H _ I h) (fun v s1 h1=>Y1 h1 (fun itv s2 h2=>?_) fun _ _ e=>e) fun _ _ e=>e)
 refine W_ fun n9=>?_;obtain⟨it,fp,tn,J,H1,rfl,I2,T,st,hf,W,w0,turn⟩:=h2;apply n9;clear n9
 refine Z0s (Fin:=fun ys H=>∀ D,H D=none->Q (.ref D) (upd H D (.lst ys))) (RR:=fun acc C=>compPost (model X.prog X.w) X.A X.xe none (EP X pins σ Q) acc C) (X:=X.hid m) (I2.hid m) hc T st hf S L (fun C=>hg cl s2 H1 C fp) (fun C=>ht cl s2 H1 C fp) (fun C=>he cl s2 H1 C fp) W w0 turn ?_
 intro C D s' H' ys its k aF m' hD hC hDC Ic hn hgD rv hz nD fin
 refine⟨m',hn,fun h' hs'=>?_⟩
 have IX:=Z9O (ts:=ts) (scope:=scope) (cl:=cl) I2 hf hC (Ic.nm (N':=ts++X.N) (aF:=Zm (ts++X.N).length none) (by rw[Y8]) fun i x v _ e=>by rw[Ui] at e;split at e <;> cases e) hs'
 have gD:h'.get? D=some (Z6O its k):=(hs'.2 D hDC).trans hgD
 refine W_ fun n9=>?_;obtain⟨f0,f1,f2,f3,f4,f5⟩:=I2.fpOk (b:=D) (H':=H') hD nD;apply n9;clear n9
 refine⟨.ref D,_,IX.track (o:=.lst ys) nD (ZF I2.sz hD) f1 f4 f5 ⟨hz,its,k,rv,gD⟩,rfl,fin D nD⟩
theorem Z8o(hc:X.calm=true)(S:Yt X ts scope)(hi:PI X tg iter wi)
  (hg:∀ cl aC H1 C fp,PG (cxC X ts scope cl aC H1 C fp) tg g) (ht:∀ cl aC H1 C fp,PIf (cxC X ts scope cl aC H1 C fp) ifs tt) (he:∀ cl aC H1 C fp,PE (cxC X ts scope cl aC H1 C fp) elt te)
  (hs:autoParam (∀ x,foldedSetIterable iter X.env x=pure x) qc._auto_1) :
  PE X (.ListComp elt [⟨tg,iter,ifs,0⟩] scope pos) (Zdz ts.length wi g tt te):=Zb6 (m:=[]) hc S hi hg ht he hs
theorem Z5k {X:Cx}{m:List Nat}{ts:Ls_}{scope:Scope}{elt tg iter:Expr}{ifs:Le_}{pos spos py:Pos}{wi:TI}{g:TG}{tt:TT}{te:TE}{i:Nat}{y:Str}(hN:X.N.Nodup)(hi':X.N[i]?=some y)(hx:Loc X.env.scope y)(hc:X.calm=true)(S:Yt (X.hid m) ts scope)(hi:PI X tg iter wi)
  (hg:∀ cl aC H1 C fp,PG (cxC (X.hid m) ts scope cl aC H1 C fp) tg g) (ht:∀ cl aC H1 C fp,PIf (cxC (X.hid m) ts scope cl aC H1 C fp) ifs tt) (he:∀ cl aC H1 C fp,PE (cxC (X.hid m) ts scope cl aC H1 C fp) elt te)
  (hsw:autoParam (swapsWith (.ListComp elt [⟨tg,iter,ifs,0⟩] scope pos) (some (.Name y py)) spos.line X.env=pure true) q_._auto_1)
  (hf':autoParam (X.fn y=true\/X.env.scope.names.lookup y=some .local) qb._auto_1)
  (hs:autoParam (∀ x,foldedSetIterable iter X.env x=pure x) qc._auto_1) :
  PS X (.Assign [.Name y py] (.ListComp elt [⟨tg,iter,ifs,0⟩] scope pos) spos) (Zfl (Z7G m ts.length wi g tt te) (Fl i)):=by
 intro pins s σ H D0 I h
 rw[exec_Assign_Name_used _ _ _ _ hsw]
 refine Z0 (Zk1 (Z0 ?_))
 show wpAny _ X.A (do let _ <- comprehension (.ListComp elt [⟨tg,iter,ifs,0⟩] scope pos) scope X.env _ (newList []) false (eval iter X.env) (some (assign (.Name y py) X.env))) _ _ s
 refine W_ fun n9=>?_;obtain⟨cl,hcl,L⟩:=S.cells (env:=X.env) (I.hid m).ok;apply n9;clear n9
 refine Z0 (Y1 (Z7x (use:=some (assign (.Name y py) X.env)) (Q:=fun _ s'=>SP X pins D0 .next s') rfl hs hcl S.kind S.names
  (Y1 (hi pins s σ H _ I h) (fun v s1 h1=>Y1 h1 (fun itv s2 h2=>?_) fun _ _ e=>e) fun _ _ e=>e)) (fun _ s' hq=>Z4 (Z4 hq)) fun _ _ e=>e)
 refine W_ fun n9=>?_;obtain⟨it,fp,tn,J,H1,rfl,I2,T,st,hf,W,w0,turn⟩:=h2;apply n9;clear n9
 refine Z0s (Fin:=fun ys H=>∀ D,H D=none->Fl i (.ref D) σ (upd H D (.lst ys)) D0.nx) (RR:=fun acc C=>compPost (model X.prog X.w) X.A X.xe (some (assign (.Name y py) X.env)) (fun _ s'=>SP X pins D0 .next s') acc C) (X:=X.hid m) (I2.hid m) hc T st hf S L (fun C=>hg cl s2 H1 C fp) (fun C=>ht cl s2 H1 C fp) (fun C=>he cl s2 H1 C fp) W w0 turn ?_
 intro C D s' H' ys its k aF m' hD hC hDC Ic hn hgD rv hz nD fin
 have IX:Inv X pins σ H' s':=Z9O (ts:=ts) (scope:=scope) (cl:=cl) I2 hf hC (Ic.nm (N':=ts++X.N) (aF:=Zm (ts++X.N).length none) (by rw[Y8]) fun i x v _ e=>by rw[Ui] at e;split at e <;> cases e) (Dk ..)
 refine W_ fun n9=>?_;obtain⟨f0,f1,f2,f3,f4,f5⟩:=I2.fpOk (b:=D) (H':=H') hD nD;apply n9;clear n9
 have IT:Inv X pins σ (upd H' D (.lst ys)) s':=IX.track (o:=.lst ys) nD (ZF I2.sz hD) f1 f4 f5 ⟨hz,its,k,rv,hgD⟩
 show wpAny _ X.A (assign (.Name y py) X.env (.ref D)) _ _ s'
 refine ZhH (Z1Z IT hN hi' hx (v:=.ref D) rfl (fun s'' I'' hh=>?_) hf')
 refine W_ fun n9=>?_;obtain⟨a,hsa,ha⟩:=hh;apply n9;clear n9
 have hCa:C≠a:=by
  rintro rfl
  rcases ha with z|z
  ·exact absurd (ZG (z ▸ I2.lt) hC) (YF _)
  ·obtain⟨v,q⟩:=I2.cell _ _ z
   exact absurd (ZG q.lt hC) (YF _)
 refine⟨m',hn.sameBut hsa hCa,fun h' hs'=>?_⟩
 have fin':=fin D nD
 refine⟨σ.set i (some (.ref D)),upd H' D (.lst ys),?_,fin'⟩
 have nC:H' C=none:=Ic.free
 have nCt:upd H' D (.lst ys) C=none:=by rw[UA (Gx hDC)];exact nC
 refine W_ fun n9=>?_;obtain⟨_,g1,g2,g3,g4,g5⟩:=I2.fpOk (b:=C) (H':=H') hC nC;apply n9;clear n9
 exact I''.turned (t':=s''.toks) (fun b o hb e=>(hs'.2 b hb).trans e) nCt g1 (.inr (ZF I2.sz hC)) g4 g5
theorem Z8e {X:Cx}{ts:Ls_}{scope:Scope}{elt tg iter:Expr}{ifs:Le_}{pos spos py:Pos}{wi:TI}{g:TG}{tt:TT}{te:TE}{i:Nat}{y:Str}(hN:X.N.Nodup)(hi':X.N[i]?=some y)(hx:Loc X.env.scope y)(hc:X.calm=true)(S:Yt X ts scope)(hi:PI X tg iter wi)
  (hg:∀ cl aC H1 C fp,PG (cxC X ts scope cl aC H1 C fp) tg g) (ht:∀ cl aC H1 C fp,PIf (cxC X ts scope cl aC H1 C fp) ifs tt) (he:∀ cl aC H1 C fp,PE (cxC X ts scope cl aC H1 C fp) elt te)
  (hsw:autoParam (swapsWith (.ListComp elt [⟨tg,iter,ifs,0⟩] scope pos) (some (.Name y py)) spos.line X.env=pure true) q_._auto_1)
  (hf':autoParam (X.fn y=true\/X.env.scope.names.lookup y=some .local) qb._auto_1)
  (hs:autoParam (∀ x,foldedSetIterable iter X.env x=pure x) qc._auto_1) :
  PS X (.Assign [.Name y py] (.ListComp elt [⟨tg,iter,ifs,0⟩] scope pos) spos) (Zfl (Zdz ts.length wi g tt te) (Fl i)):=Z5k (m:=[]) hN hi' hx hc S hi hg ht he hsw hf' hs
inductive Th where
 |non|bl (b:Bool)|int (i:Int)|str (x:Str)|tup (ts:List Th)|lst (ts:List Th)
abbrev Lt_:=List Th
mutual
inductive JG (K:Fg_) (H:Hp):V->Th->Prop where
 |non:JG K H .non .non
 |bl (b:Bool):JG K H (.bl b) (.bl b)
 |int (i:Int):JG K H (.int i) (.int i)
 |str (x:Str):JG K H (.str x) (.str x)
 |tup {a:Addr} {xs:Lv_} {ts:Lt_} (e:SqT K H a xs) (h:ZX K H xs ts):JG K H (.ref a) (.tup ts)
 |lst {a:Addr} {xs:Lv_} {ts:Lt_} (e:SqL K H a xs) (h:ZX K H xs ts):JG K H (.ref a) (.lst ts)
inductive ZX (K:Fg_) (H:Hp):Lv_->Lt_->Prop where
 |nil:ZX K H [] []
 |cons {v:V} {t:Th} {vs:Lv_} {ts:Lt_} (h:JG K H v t) (r:ZX K H vs ts):ZX K H (v::vs) (t::ts)
end
theorem Jl.seqT {K:Fg_}{H H':Hp}{a:Addr}{xs:Lv_}(e:Jl H H')(h:SqT K H a xs):SqT K H' a xs:=by
 rcases h with (h|⟨o,h⟩)|h
 ·exact .inl (.inl (e _ _ h))
 ·exact .inl (.inr ⟨o,e _ _ h⟩)
 ·exact .inr h
section
variable {K:Fg_}
mutual
theorem JG.mono(s:Jl H H'):∀ {v:V} {t:Th},JG K H v t->JG K H' v t
 |_,_,.non=>.non
 |_,_,.bl b=>.bl b
 |_,_,.int i=>.int i
 |_,_,.str x=>.str x
 |_,_,.tup e h=>.tup (s.seqT e) (ZX.mono s h)
 |_,_,.lst e h=>.lst (s.seq e) (ZX.mono s h)
theorem ZX.mono(s:Jl H H'):∀ {vs:Lv_} {ts:Lt_},ZX K H vs ts->ZX K H' vs ts
 |_,_,.nil=>.nil
 |_,_,.cons h r=>.cons (JG.mono s h) (ZX.mono s r)
end
theorem ZX.length:∀ {vs:Lv_} {ts:Lt_},ZX K H vs ts->vs.length=ts.length:=by
 intro vs ts
 induction ts generalizing vs with
 |nil=>intro h;cases h;rfl
 |cons t ts ih=>intro h;cases h with
  |cons h r=>rw[Zf,Zf,ih r]
theorem ZX.get:∀ {vs:Lv_} {ts:Lt_} {i:Nat} {t:Th},ZX K H vs ts->ts[i]?=some t->∃ v,vs[i]?=some v/\JG K H v t
 |_,_,_,_,.nil,e=>by simp at e
 |_,_,0,_,.cons h _,e=>by simp at e;subst e;exact⟨_,rfl,h⟩
 |_,_,i+1,_,.cons _ r,e=>by
  obtain⟨v,h1,h2⟩:=r.get (i:=i) (by simpa using e)
  exact⟨v,by simpa using h1,h2⟩
theorem ZX.got:∀ {vs:Lv_} {ts:Lt_} {i:Nat} {v:V},ZX K H vs ts->vs[i]?=some v->∃ t,ts[i]?=some t/\JG K H v t
 |_,_,_,_,.nil,e=>by simp at e
 |_,_,0,_,.cons h _,e=>by simp at e;subst e;exact⟨_,rfl,h⟩
 |_,_,i+1,_,.cons _ r,e=>by
  obtain⟨v,h1,h2⟩:=r.got (i:=i) (by simpa using e)
  exact⟨v,by simpa using h1,h2⟩
theorem ZX.append:∀ {vs ws:Lv_} {ts us:Lt_},ZX K H vs ts->ZX K H ws us->ZX K H (vs++ws) (ts++us):=by
 intro vs ws ts us
 induction ts generalizing vs with
 |nil=>intro h s;cases h;exact s
 |cons t ts ih=>intro h s;cases h with
  |cons h r=>exact .cons h (ih r s)
theorem ZX.take:∀ {vs:Lv_} {ts:Lt_} (n:Nat),ZX K H vs ts->ZX K H (vs.take n) (ts.take n)
 |_,_,0,_=>.nil
 |_,_,_+1,.nil=>.nil
 |_,_,n+1,.cons h r=>.cons h (r.take n)
theorem ZX.drop:∀ {vs:Lv_} {ts:Lt_} (n:Nat),ZX K H vs ts->ZX K H (vs.drop n) (ts.drop n)
 |_,_,0,r=>r
 |_,_,_+1,.nil=>.nil
 |_,_,n+1,.cons _ r=>r.drop n
theorem ZX.rep(h:ZX K H vs ts):∀ k:Nat,ZX K H (Zm k vs).flatten (Zm k ts).flatten
 |0=>.nil
 |k+1=>by rw[JZ,JZ,UX,UX];exact h.append (h.rep k)
end
theorem Jl.upd(h:H p=none):Jl H (upd H p o):=fun b u e=>by rw[UA (Gw e h)];exact e
structure Hid where
 own:List (Nat×Addr)
 far:Addr->Prop
def Hid.has (O:Hid)(b:Addr):Prop:=b∈O.own.map (·.2)\/O.far b
noncomputable def Hid.cons (i:Nat)(a:Addr)(O:Hid):Hid:={ O with own:=(i,a)::O.own }
open Classical in
noncomputable def less (H:Hp)(O:Hid):Hp:=fun b=>if O.has b then none else H b
open Classical in
noncomputable def low (H:Hp)(O:Hid):Hp:=fun b=>if b∈O.own.map (·.2) then none else H b
theorem Jt (H:Hp)(O:Hid):Jl (less H O) H:=fun b o e=>by
 unfold less at e
 split at e
 ·cases e
 ·exact e
theorem Z1b (H:Hp)(O:Hid):Jl (low H O) H:=fun b o e=>by
 unfold low at e
 split at e
 ·cases e
 ·exact e
theorem UP(h:H b=some o)(n:¬ O.has b):less H O b=some o:=by
 unfold less;rw[if_neg n];exact h
theorem MP(h:H b=some o)(n:b∉O.own.map (·.2)):low H O b=some o:=by
 unfold low;rw[if_neg n];exact h
theorem of_less(h:less H O b=some o):H b=some o/\¬ O.has b:=by
 unfold less at h
 split at h
 ·cases h
 ·exact⟨h,‹_›⟩
theorem Z5q(h:low H O b=some o):H b=some o/\b∉O.own.map (·.2):=by
 unfold low at h
 split at h
 ·cases h
 ·exact⟨h,‹_›⟩
theorem JU(s:Jl H H'):Jl (less H O) (less H' O):=fun b o e=>let ⟨h,n⟩:=of_less e;UP (s b o h) n
theorem YM(s:Jl H H'):Jl (low H O) (low H' O):=fun b o e=>let ⟨h,n⟩:=Z5q e;MP (s b o h) n
theorem Z5y(s:Jl (low H O) (low H' O'))(hf:O'.far=O.far):Jl (less H O) (less H' O'):=fun b o e=>by
 obtain⟨h,n⟩:=of_less e
 obtain⟨h',n'⟩:=Z5q (s b o (MP h fun z=>n (.inl z)))
 exact UP h' fun z=>z.elim n' fun z=>n (.inr (hf ▸ z))
theorem Mb:Jl (less H (O.cons i a)) (less H O):=fun b o e=>by
 obtain⟨h,n⟩:=of_less e
 exact UP h fun z=>n (z.elim (fun z=>.inl (Z2 _ z)) .inr)
theorem Z1d {H:Hp}{O:Hid}{i j:Nat}{a:Addr}:less H (O.cons i a)=less H (O.cons j a):=by
 have hh:∀ b,(O.cons i a).has b↔(O.cons j a).has b:=fun b=>Iff.rfl
 funext b
 unfold less
 by_cases z:(O.cons i a).has b
 ·rw[if_pos z,if_pos ((hh b).mp z)]
 ·rw[if_neg z,if_neg (fun q=>z ((hh b).mpr q))]
theorem Z5G {O:Hid}{i:Nat}{a b:Addr}(h:(O.cons i a).has b):b=a\/O.has b:=by
 rcases h with h|h
 ·rcases Zc.mp (show b∈a::O.own.map (·.2) from h) with q|q
  ·exact .inl q
  ·exact .inr (.inl q)
 ·exact .inr (.inr h)
theorem Qw(s:Jl H H')(h:H a=none):Jl (less H O) (less H' (O.cons i a)):=fun b o e=>by
 obtain⟨hb,n⟩:=of_less e
 exact UP (s b o hb) fun z=>(Z5G z).elim (Gw hb h) n
theorem Z45(s:Jl H H')(h:H a=none):Jl (low H O) (low H' (O.cons i a)):=fun b o e=>by
 obtain⟨hb,n⟩:=Z5q e
 refine MP (s b o hb) fun z=>?_
 rcases Zc.mp (show b∈a::O.own.map (·.2) from z) with q|q
 ·exact Gw hb h q
 ·exact n q
inductive Dv where
 |th (T:Th)
 |own (ts:Lt_)
 |exc (c:Str)
 |dct (fz:Bool) (kvs:List (Str×Th))
 |dcp (kvs:List (Str×Str))
noncomputable def fv:Th->V
 |.bl b=>.bl b
 |.int i=>.int i
 |.str x=>.str x
 |_=>.non
noncomputable def dkv (kvs:List (Str×Th)):List (Key×V):=kvs.map fun p=>(Yl p.1,fv p.2)
def Z3s (H:Hp)(a:Addr):Bool->List (Str×Th)->Prop
 |false,kvs=>H a=some (.dK (dkv kvs))
 |true,kvs=>∃ o,H a=some (.frz o (.dK (dkv kvs)))
noncomputable def dpk (kvs:List (Str×Str)):List (List Key×V):=kvs.map fun p=>([Yl p.1,Yl p.2],.bl true)
def Za9 (H:Hp)(a:Addr)(kvs:List (Str×Str)):Prop:=H a=some (.dT (dpk kvs))
theorem Za9.mono(h:Za9 H a kvs)(s:∀ o,H a=some o->H' a=some o):Za9 H' a kvs:=s _ h
def Bw:HO->Prop
 |.tup _=>False
 |_=>True
def ZiW (a C:Addr)(h:Heap):Prop:=∃ oe,h.get? a=some oe/\oe.cls=.ref C
abbrev Sd:=List (Option Dv)
def Zfb (K:Fg_)(H:Hp)(O:Hid)(i:Nat)(u:Option (Option V)):Dv->Prop
 |.th T=>∃ v,u=some (some v)/\JG K (less H O) v T
 |.own ts=>∃ a xs,(i,a)∈O.own/\u=some (some (.ref a))/\H a=some (.lst xs)/\¬ O.far a/\ZX K (less H O) xs ts
 |.exc c=>∃ a C,u=some (some (.ref a))/\ZN K mainGlobals c=some (some (.ref C))/\less H O a=some (.ext (ZiW a C))
 |.dct fz kvs=>∃ a,(i,a)∈O.own/\u=some (some (.ref a))/\Z3s H a fz kvs/\¬ O.far a
 |.dcp kvs=>∃ a,(i,a)∈O.own/\u=some (some (.ref a))/\Za9 H a kvs/\¬ O.far a
structure Rep (K:Fg_)(H:Hp)(O:Hid)(σ:St)(d:Sd):Prop where
 len:d.length=σ.length
 at':∀ (i:Nat) (D:Dv),d[i]?=some (some D)->Zfb K H O i σ[i]? D
 there:∀ a,O.has a->∃ o,H a=some o/\Bw o
 inj:∀ (i j:Nat) (a:Addr),(i,a)∈O.own->(j,a)∈O.own->i=j
section
variable {K:Fg_}
theorem Z3s.mono:∀ {fz:Bool},Z3s H a fz kvs->(∀ o,H a=some o->H' a=some o)->Z3s H' a fz kvs
 |false,h,s=>s _ h
 |true,⟨o,h⟩,s=>⟨o,s _ h⟩
section
variable {H:Hp}{O:Hid}{σ:St}{d:Sd}(r:Rep K H O σ d)
include r
theorem Rep.th (i:Nat)(T:Th)(e:d[i]?=some (some (.th T))):∃ v,σ[i]?=some (some v)/\JG K (less H O) v T:=r.at' i _ e
theorem Rep.own (i:Nat)(ts:Lt_)(e:d[i]?=some (some (.own ts))):∃ a xs,(i,a)∈O.own/\σ[i]?=some (some (.ref a))/\H a=some (.lst xs)/\¬ O.far a/\ZX K (less H O) xs ts:=r.at' i _ e
theorem Rep.dct (i:Nat)(fz:Bool)(kvs:List (Str×Th))(e:d[i]?=some (some (.dct fz kvs))):∃ a,(i,a)∈O.own/\σ[i]?=some (some (.ref a))/\Z3s H a fz kvs/\¬ O.far a:=r.at' i _ e
theorem Rep.dcp (i:Nat)(kvs:List (Str×Str))(e:d[i]?=some (some (.dcp kvs))):∃ a,(i,a)∈O.own/\σ[i]?=some (some (.ref a))/\Za9 H a kvs/\¬ O.far a:=r.at' i _ e
end
theorem Zfb.keep(hl:Jl (less H O) (less H' O'))(ho:∀ a,(i,a)∈O.own->(j,a)∈O'.own)(hf:O'.far=O.far)(hh:∀ a o,(i,a)∈O.own->H a=some o->H' a=some o):∀ {D:Dv},Zfb K H O i u D->Zfb K H' O' j u D
 |.th _,⟨v,h1,h2⟩=>⟨v,h1,h2.mono hl⟩
 |.own _,⟨a,xs,h1,h2,h3,h4,h5⟩=>⟨a,xs,ho a h1,h2,hh a _ h1 h3,by rw[hf];exact h4,h5.mono hl⟩
 |.exc _,⟨a,C,h1,h2,h3⟩=>⟨a,C,h1,h2,hl _ _ h3⟩
 |.dct _ _,⟨a,h1,h2,h3,h4⟩=>⟨a,ho a h1,h2,h3.mono fun o=>hh a o h1,by rw[hf];exact h4⟩
 |.dcp _,⟨a,h1,h2,h3,h4⟩=>⟨a,ho a h1,h2,h3.mono fun o=>hh a o h1,by rw[hf];exact h4⟩
theorem Rep.mono(r:Rep K H O σ d)(s:Jl H H'):Rep K H' O σ d where
 len:=r.len
 at':=fun i D e=>(r.at' i D e).keep (JU s) (fun _ h=>h) rfl fun a o _=>s a o
 there:=fun a h=>let ⟨o,e,n⟩:=r.there a h;⟨o,s _ _ e,n⟩
 inj:=r.inj
theorem Rep.notOwn(r:Rep K H O σ d)(h:H a=none):¬ O.has a:=fun z=>by
 obtain⟨o,ho,-⟩:=r.there a z
 rw[h] at ho;cases ho
theorem Rep.one(r:Rep K H O σ d)(i:Nat)(hl:Jl (less H O) (less H' O'))(ho:∀ j a,(j,a)∈O.own->(j,a)∈O'.own)(hf:O'.far=O.far)(hh:∀ j a o,i≠j->(j,a)∈O.own->H a=some o->H' a=some o)
  (hD:∀ D,y=some D->Zfb K H' O' i (some x) D) (ht:∀ a,O'.has a->∃ o,H' a=some o/\Bw o) (hi:∀ (i j:Nat) (a:Addr),(i,a)∈O'.own->(j,a)∈O'.own->i=j):Rep K H' O' (σ.set i x) (d.set i y) where
 len:=by rw[MX,MX];exact r.len
 at':=fun j D e=>by
  by_cases hj:i=j
  ·subst hj
   have hi:i<d.length:=by simpa using (Ji.mp e).1
   rw[Go hi] at e
   rw[Go (by rw[<- r.len];exact hi)]
   exact hD D (Jd e)
  ·rw[GS hj] at e
   rw[GS hj]
   exact (r.at' j D e).keep hl (ho j) hf fun a o=>hh j a o hj
 there:=ht
 inj:=hi
theorem Rep.set(r:Rep K H O σ d)(i:Nat)(b:JG K (less H O) v T):Rep K H O (σ.set i (some v)) (d.set i (some (.th T))) :=
 r.one i (Jl.refl _) (fun _ _ h=>h) rfl (fun _ _ _ _ _ h=>h) (fun D e=>by cases e;exact⟨v,rfl,b⟩) r.there r.inj
theorem Rep.fresh(r:Rep K H O σ d)(s:Jl H H')(i:Nat)(e2:H a=none)(e3:H' a=some o)(hn:Bw o)(hD:¬ O.far a->Zfb K H' (O.cons i a) i (some (some (.ref a))) D):Rep K H' (O.cons i a) (σ.set i (some (.ref a))) (d.set i (some D)):=by
 have nf:¬ O.has a:=r.notOwn e2
 refine r.one i (Qw s e2) (fun _ _ h=>Z2 _ h) rfl (fun _ a o _ _ h=>s a o h) (fun D' e=>by cases e;exact hD fun z=>nf (.inr z)) (fun p hp=>?_) fun j k p h1 h2=>?_
 ·rcases Z5G hp with rfl|hp
  ·exact⟨_,e3,hn⟩
  ·refine W_ fun n9=>?_;obtain⟨o,e,n⟩:=r.there p hp;apply n9;clear n9
   exact⟨o,s _ _ e,n⟩
 ·have h1:(j,p)∈(i,a)::O.own:=h1
  have h2:(k,p)∈(i,a)::O.own:=h2
  have no:∀ m,(m,a)∉O.own:=fun m z=>nf (.inl (Zu.mpr ⟨_,z,rfl⟩))
  rcases Zc.mp h1 with q1|q1
  ·rcases Zc.mp h2 with q2|q2
   ·cases q1;cases q2;rfl
   ·cases q1;exact absurd q2 (no _)
  ·rcases Zc.mp h2 with q2|q2
   ·cases q2;exact absurd q1 (no _)
   ·exact r.inj j k p q1 q2
theorem Rep.over(r:Rep K H O σ d)(ha:(i,a)∈O.own)(hs:σ[i]?=some (some (.ref a)))(hn:Bw u)(hD:Jl (less H O) (less (upd H a u) O)->Zfb K (upd H a u) O i (some (some (.ref a))) D) :
  Rep K (upd H a u) O σ (d.set i (some D))/\Jl (low H O) (low (upd H a u) O):=by
 have hm:a∈O.own.map (·.2):=Zu.mpr ⟨_,ha,rfl⟩
 have sub:Jl (less H O) (less (upd H a u) O):=fun p o e=>by
  obtain⟨h1,h2⟩:=of_less e
  have np:p≠a:=fun z=>h2 (.inl (by rw[z];exact hm))
  exact UP (by rw[UA np];exact h1) h2
 obtain⟨hi,e0⟩:=Ji.mp hs
 have e0:σ.set i (some (.ref a))=σ:=by rw[<- e0];exact List.set_getElem_self hi
 refine⟨?_,fun p o e=>?_⟩
 ·have h:Rep K (upd H a u) O (σ.set i (some (.ref a))) (d.set i (some D)):=by
   refine r.one i sub (fun _ _ h=>h) rfl (fun j b o hj hb e=>?_) (fun D' e=>by cases e;exact hD sub) (fun p hp=>?_) r.inj
   ·have np:b≠a:=fun z=>hj (r.inj i j a ha (by rw[<- z];exact hb))
    rw[UA np];exact e
   ·by_cases hp':p=a
    ·subst hp';exact⟨_,JL,hn⟩
    ·obtain⟨o,e,n⟩:=r.there p hp
     exact⟨o,by rw[UA hp'];exact e,n⟩
  rw[e0] at h
  exact h
 ·obtain⟨h1,h2⟩:=Z5q e
  have np:p≠a:=fun z=>h2 (by rw[z];exact hm)
  exact MP (by rw[UA np];exact h1) h2
theorem Rep.putL(r:Rep K H O σ d)(ha:(i,a)∈O.own)(hs:σ[i]?=some (some (.ref a)))(hf:¬ O.far a)
 (b:ZX K (less H O) vs us):Rep K (upd H a (.lst vs)) O σ (d.set i (some (.own us)))/\Jl (low H O) (low (upd H a (.lst vs)) O) :=
 r.over ha hs trivial fun s=>⟨a,_,ha,rfl,JL,hf,b.mono s⟩
end
def BA (K:Fg_)(H:Hp)(O:Hid)(v:V)(T:Th):Prop:=JG K (less H O) v T\/∃ a xs ts,v=.ref a/\T=.lst ts/\H a=some (.lst xs)/\¬ O.far a/\ZX K (less H O) xs ts
def Zfk (K:Fg_)(H H':Hp)(O:Hid)(v:V)(ts:Lt_):Prop:=∃ a xs,v=.ref a/\H a=none/\H' a=some (.lst xs)/\ZX K (less H' (O.cons 0 a)) xs ts
section
variable {K:Fg_}
theorem BA.mono(h:BA K H O v T)(s:Jl H H'):BA K H' O v T:=by
 rcases h with h|⟨a,xs,ts,e1,e2,e3,hf,h⟩
 ·exact .inl (h.mono (JU s))
 ·exact .inr ⟨a,xs,ts,e1,e2,s _ _ e3,hf,h.mono (JU s)⟩
theorem BA.bears(h:BA K H O v T):JG K H v T:=by
 rcases h with h|⟨a,xs,ts,rfl,rfl,e3,hf,h⟩
 ·exact h.mono (Jt H O)
 ·exact .lst (SqL.of e3) (h.mono (Jt H O))
theorem BA.int(h:BA K H O v (.int i)):v=.int i:=by
 rcases h with h|⟨_,_,_,_,e,_⟩
 ·cases h;rfl
 ·cases e
theorem BA.str(h:BA K H O v (.str i)):v=.str i:=by
 rcases h with h|⟨_,_,_,_,e,_⟩
 ·cases h;rfl
 ·cases e
theorem BA.tup {H:Hp}{O:Hid}{v:V}{ts:Lt_}(h:BA K H O v (.tup ts)):∃ a xs,v=.ref a/\SqT K (less H O) a xs/\ZX K (less H O) xs ts:=by
 rcases h with h|⟨_,_,_,_,e,_⟩
 ·cases h with|tup e h=>exact⟨_,_,rfl,e,h⟩
 ·cases e
theorem BA.lst {H:Hp}{O:Hid}{v:V}{ts:Lt_}(h:BA K H O v (.lst ts)):∃ a xs,v=.ref a/\SqL K H a xs/\ZX K (less H O) xs ts:=by
 rcases h with h|⟨a,xs,us,rfl,e,e3,hf,h⟩
 ·cases h with|lst e h=>exact⟨_,_,rfl,(Jt H O).seq e,h⟩
 ·cases e;exact⟨a,xs,rfl,SqL.of e3,h⟩
end
abbrev FD:=Sd->Option Th
abbrev FL:=Sd->Option (Lt_)
abbrev FB:=Sd->Option Bool
def Bp (K:Fg_)(f:FD):TE:=fun σ H Q=>∃ O d T,Rep K H O σ d/\f d=some T/\∀ v H',Jl H H'->JG K (less H' O) v T->Q v H'
def Z93 (K:Fg_)(f:FD):TE:=fun σ H Q=>∃ O d T,Rep K H O σ d/\f d=some T/\∀ v H',Jl H H'->BA K H' O v T->Q v H'
def ZbN (K:Fg_)(f:FL):TE:=fun σ H Q=>∃ O d T,Rep K H O σ d/\f d=some T/\∀ v H',Jl H H'->Zfk K H H' O v T->Q v H'
def liftT (K:Fg_)(f:FB):TT:=fun σ H Q=>∃ O d b,Rep K H O σ d/\f d=some b/\∀ H',Jl H H'->Q b H'
def ZiJ (K:Fg_)(f:FL):TA:=fun σ H Q=>∃ O d T,Rep K H O σ d/\f d=some T/\∀ vs H',Jl H H'->ZX K (less H' O) vs T->Q vs H'
def Z5z (K:Fg_)(f:FL):TA:=fun σ H Q=>∃ O d T,Rep K H O σ d/\f d=some T/\∀ vs H',Jl H H'->Paired (BA K H' O) vs T->Q vs H'
def PD (X:Cx)(e:Expr)(f:FD):Prop:=PE X e (Bp X.K f)
def PB (X:Cx)(e:Expr)(f:FD):Prop:=PE X e (Z93 X.K f)
def PF (X:Cx)(e:Expr)(f:FL):Prop:=PE X e (ZbN X.K f)
def PDT (X:Cx)(e:Expr)(f:FB):Prop:=PT X e (liftT X.K f)
def PDW (X:Cx)(e:Expr)(f:FB):Prop:=PW X e (liftT X.K f)
def PDA (X:Cx)(es:Le_)(f:FL):Prop:=PA X es (ZiJ X.K f)
def PBA (X:Cx)(es:Le_)(f:FL):Prop:=PA X es (Z5z X.K f)
section
variable {X:Cx}{e a b c:Expr}{f fa fb fc:FD}{pos:Pos}
theorem PE.imp(h:PE X e t)(i:∀ σ H Q,t' σ H Q->t σ H Q):PE X e t':=fun pins s σ H Q I q=>h pins s σ H Q I (i σ H Q q)
theorem PT.imp(h:PT X e t)(i:∀ σ H Q,t' σ H Q->t σ H Q):PT X e t':=fun pins s σ H Q I q=>h pins s σ H Q I (i σ H Q q)
theorem PW.imp(h:PW X e t)(i:∀ σ H Q,t' σ H Q->t σ H Q):PW X e t':=fun wh pins s σ H Q I q=>h wh pins s σ H Q I (i σ H Q q)
theorem PA.imp(h:PA X es t)(i:∀ σ H Q,t' σ H Q->t σ H Q):PA X es t':=fun ps pins s σ H Q I q=>h ps pins s σ H Q I (i σ H Q q)
theorem PD.pb (h:PD X e f):PB X e f:=PE.imp h fun σ H Q ⟨O,d,T,r,e,q⟩=>⟨O,d,T,r,e,fun v H' s b=>q v H' s (.inl b)⟩
noncomputable def GA (f:FL):FD:=fun d=>(f d).map Th.lst
theorem PF.pd {f:FL}(h:PF X e f):PD X e (GA f):=PE.imp h fun σ H Q z_=>by
 refine W_ fun n9=>?_;obtain⟨O,d,T,r,e,q⟩:=z_;apply n9;clear n9
 unfold GA at e
 cases hf:f d with
 |none=>rw[hf] at e;cases e
 |some ts =>
  rw[hf] at e
  cases e
  refine⟨O,d,ts,r,hf,fun v H' s ⟨a,xs,e1,e2,e3,b⟩=>q v H' s ?_⟩
  subst e1
  exact .lst (SqL.of (UP e3 (r.notOwn e2))) (b.mono Mb)
noncomputable def ZV (i:Nat):FD:=fun d=>match d[i]? with|some (some (.th T))=>some T|_=>none
noncomputable def Za (i:Nat):FD:=fun d=>match d[i]? with|some (some (.th T))=>some T|some (some (.own ts))=>some (.lst ts)|_=>none
noncomputable def fC (T:Th):FD:=fun _=>some T
theorem Zgq(h:PE X (.Name x pos) (Zab i)):PD X (.Name x pos) (ZV i):=PE.imp h fun σ H Q z_=>by
 obtain⟨O,d,T,r,e,q⟩:=z_
 unfold ZV at e
 split at e
 ·rename_i hd
  cases e
  obtain⟨v,h1,h2⟩:=r.th i _ hd
  exact⟨v,h1,q v H (Jl.refl H) h2⟩
 ·cases e
theorem Zgz(h:PE X (.Name x pos) (Zab i)):PB X (.Name x pos) (Za i):=PE.imp h fun σ H Q z_=>by
 refine W_ fun n9=>?_;obtain⟨O,d,T,r,e,q⟩:=z_;apply n9;clear n9
 unfold Za at e
 split at e
 ·rename_i hd
  cases e
  obtain⟨v,h1,h2⟩:=r.th i _ hd
  exact⟨v,h1,q v H (Jl.refl H) (.inl h2)⟩
 ·rename_i hd
  cases e
  refine W_ fun n9=>?_;obtain⟨a,xs,h1,h2,h3,hf,h4⟩:=r.own i _ hd;apply n9;clear n9
  exact⟨_,h2,q _ H (Jl.refl H) (.inr ⟨a,xs,_,rfl,rfl,h3,hf,h4⟩)⟩
 ·cases e
theorem Fv(h:PE X e (tC v))(b:∀ H,JG X.K H v T):PD X e (fC T):=PE.imp h fun σ H Q z_=>by
 refine W_ fun n9=>?_;obtain⟨O,d,T',r,e,q⟩:=z_;apply n9;clear n9
 cases e
 exact q v H (Jl.refl H) (b _)
theorem Z8w {i j}:PD X (.Constant (.int i) j pos) (fC (.int i)):=Fv Zgi fun _=>.int i
theorem Zgy {i j}:PD X (.Constant (.bool i) j pos) (fC (.bl i)):=Fv Zir fun _=>.bl i
theorem ZcT {j}:PD X (.Constant .none j pos) (fC .non):=Fv Zgg fun _=>.non
theorem ZcS {i j}:PD X (.Constant (.str i) j pos) (fC (.str i)):=Fv Zgf fun _=>.str i
noncomputable def f2 (g:Th->Th->Option Th)(fa fb:FD):FD:=fun d=>(fa d).bind fun x=>(fb d).bind fun y=>g x y
theorem Z9z(h:f2 g fa fb d=some T):∃ x y,fa d=some x/\fb d=some y/\g x y=some T:=by
 unfold f2 at h
 cases h1:fa d with
 |none=>rw[h1] at h;cases h
 |some x =>
  rw[h1] at h
  cases h2:fb d with
  |none=>rw[h2] at h;cases h
  |some y=>rw[h2] at h;exact⟨x,y,rfl,rfl,h⟩
def OpD (K:Fg_)(r:R2)(g:Th->Th->Option Th):Prop:=∀ (H:Hp) (O:Hid) (v u:V) (x y z:Th) (Q:VK),(∀ p,H p=none->¬ O.has p)->BA K H O v x->BA K H O u y->g x y=some z->(∀ v' H',Jl H H'->JG K (less H' O) v' z->Q v' H')->r v u H Q
theorem Ft {K:Fg_}{r:R2}{g:Th->Th->Option Th}(hr:OpD K r g):∀ σ H Q,Bp K (f2 g fa fb) σ H Q->tOp r (Z93 K fa) (Z93 K fb) σ H Q:=fun σ H Q z_=>by
 refine W_ fun n9=>?_;obtain⟨O,d,T,R,e,q⟩:=z_
 obtain⟨x,y,hx,hy,hg⟩:=Z9z e;apply n9;clear n9
 exact⟨O,d,x,R,hx,fun v1 H1 s1 b1=>⟨O,d,y,R.mono s1,hy,fun v2 H2 s2 b2=>hr H2 O v1 v2 x y T Q (fun p hp=>(R.mono (s1.trans s2)).notOwn hp) (b1.mono s2) b2 hg fun v H' s b=>q v H' ((s1.trans s2).trans s) b⟩⟩
theorem Z8v(ho:OpR X (binaryOp op) r)(hr:OpD X.K r g)(ha:PB X a fa)(hb:PB X b fb):PD X (.BinOp a op b pos) (f2 g fa fb):=PE.imp (Zip ho ha hb) (Ft hr)
theorem Z8x(ho:OpR X (compareOp op) r)(hr:OpD X.K r g)(ha:PB X a fa)(hb:PB X b fb)(hm:behindInMarks op b=false):PD X (.Compare a [op] [b] pos) (f2 g fa fb):=PE.imp (Ze2 ho ha hb hm) (Ft hr)
noncomputable def Je (f:FD):FB:=fun d=>match f d with|some (.bl b)=>some b|_=>none
theorem Z0l {f:FD}{d:Sd}{b:Bool}(h:Je f d=some b):f d=some (.bl b):=by
 unfold Je at h
 split at h
 ·rename_i e;cases h;exact e
 ·cases h
theorem Da(ho:OpR X (compareOp op) r)(hr:OpD X.K r g)(ha:PB X a fa)(hb:PB X b fb)(hm:behindInMarks op b=false):PDT X (.Compare a [op] [b] pos) (Je (f2 g fa fb)) :=
 PT.imp (ZdT ho ha hb hm) fun σ H Q ⟨O,d,k,R,e,q⟩=>Ft hr σ H _ ⟨O,d,.bl k,R,Z0l e,fun v H' s b=>by cases b;exact⟨k,rfl,q H' s⟩⟩
theorem Ze6 (h:PD X e f)(he:∀ whole,isTrue e X.env whole=(do let v <- whole;standAt e.pos;holding [v] (truthy v))):PDT X e (Je f) :=
 PT.imp (Zg7 h he) fun σ H Q ⟨O,d,k,R,e,q⟩=>⟨O,d,.bl k,R,Z0l e,fun v H' s b=>by cases b;exact⟨k,rfl,q H' s⟩⟩
noncomputable def Zde (f:FB):FB:=fun d=>(f d).map (!·)
theorem Ze7 {f:FB}(h:PDT X a f):PDT X (.UnaryOp .Not a pos) (Zde f):=PT.imp (Zg8 h) fun σ H Q z_=>by
 refine W_ fun n9=>?_;obtain⟨O,d,k,R,e,q⟩:=z_;apply n9;clear n9
 unfold Zde at e
 cases hf:f d with
 |none=>rw[hf] at e;cases e
 |some z=>rw[hf] at e;cases e;exact⟨O,d,z,R,hf,q⟩
noncomputable def Z2U (f g:FB):FB:=fun d=>(f d).bind fun b=>if b=true then g d else some false
noncomputable def Z9w (f g:FB):FB:=fun d=>(f d).bind fun b=>if b=true then some true else g d
theorem Zb8 {f:FB}(h:PDT X a f):PDW X (.BoolOp .And [a] pos) f:=ZdP h
theorem Ze4 {f:FB}(h:PDT X a f):PDW X (.BoolOp .Or [a] pos) f:=Zg4 h
theorem Ze5 {f g:FB}{rest:Le_}(ha:PDT X a f)(hb:PDW X (.BoolOp .And (b::rest) pos) g):PDW X (.BoolOp .And (a::b::rest) pos) (Z2U f g):=PW.imp (Zg5 ha hb) fun σ H Q z_=>by
 refine W_ fun n9=>?_;obtain⟨O,d,k,R,e,q⟩:=z_;apply n9;clear n9
 unfold Z2U at e
 cases hf:f d with
 |none=>rw[hf] at e;cases e
 |some z =>
  rw[hf] at e
  refine⟨O,d,z,R,hf,fun H' s=>?_⟩
  cases z with
  |true=>exact⟨O,d,k,R.mono s,e,fun H'' s'=>q H'' (s.trans s')⟩
  |false=>cases e;exact q H' s
theorem Zgj {f g:FB}{rest:Le_}(ha:PDT X a f)(hb:PDW X (.BoolOp .Or (b::rest) pos) g):PDW X (.BoolOp .Or (a::b::rest) pos) (Z9w f g):=PW.imp (Zim ha hb) fun σ H Q z_=>by
 refine W_ fun n9=>?_;obtain⟨O,d,k,R,e,q⟩:=z_;apply n9;clear n9
 unfold Z9w at e
 cases hf:f d with
 |none=>rw[hf] at e;cases e
 |some z =>
  rw[hf] at e
  refine⟨O,d,z,R,hf,fun H' s=>?_⟩
  cases z with
  |true=>cases e;exact q H' s
  |false=>exact⟨O,d,k,R.mono s,e,fun H'' s'=>q H'' (s.trans s')⟩
theorem PDW.pdt {f:FB}(h:PDW X e f):PDT X e f:=PW.pt h
noncomputable def ZjW (fa fb:FD):FD:=fun d=>(fa d).bind fun x=>match x with|.bl true=>fb d|.bl false=>some (.bl false)|_=>none
noncomputable def fOr (fa fb:FD):FD:=fun d=>(fa d).bind fun x=>match x with|.bl true=>some (.bl true)|.bl false=>fb d|_=>none
noncomputable def ZiU (fa:FD):FD:=fun d=>(fa d).bind fun x=>match x with|.bl b=>some (.bl !b)|_=>none
noncomputable def fIf {α:Type}(c:FB)(f g:Sd->Option α):Sd->Option α:=fun d=>(c d).bind fun b=>if b=true then f d else g d
theorem Ziu {c:Expr}{fc:FB}(hc:PDT X c fc)(ha:PD X a fa)(hb:PD X b fb):PD X (.IfExp c a b pos) (fIf fc fa fb):=PE.imp (Zb3 hc ha hb) fun σ H Q z_=>by
 refine W_ fun n9=>?_;obtain⟨O,d,T,R,e,q⟩:=z_;apply n9;clear n9
 unfold fIf at e
 cases hf:fc d with
 |none=>rw[hf] at e;cases e
 |some z =>
  rw[hf] at e
  refine⟨O,d,z,R,hf,fun H' s=>?_⟩
  cases z with
  |true=>exact⟨O,d,T,R.mono s,e,fun v' H'' s' b'=>q v' H'' (s.trans s') b'⟩
  |false=>exact⟨O,d,T,R.mono s,e,fun v' H'' s' b'=>q v' H'' (s.trans s') b'⟩
noncomputable def Zhf (g g':Th->Th->Option Th)(fa fb fc:FD):FD:=fun d=>(fa d).bind fun x=>(fb d).bind fun y=>(g x y).bind fun z=>match z with|.bl true=>(fc d).bind fun u=>g' y u|.bl false=>some (.bl false)|_=>none
noncomputable def J7:FL:=fun _=>some []
noncomputable def Z6 (f:FD)(g:FL):FL:=fun d=>(f d).bind fun x=>(g d).bind fun xs=>some (x::xs)
theorem Z0o(h:Z6 f g d=some ts):∃ x xs,f d=some x/\g d=some xs/\ts=x::xs:=by
 unfold Z6 at h
 cases h1:f d with
 |none=>rw[h1] at h;cases h
 |some x =>
  rw[h1] at h
  cases h2:g d with
  |none=>rw[h2] at h;cases h
  |some y=>rw[h2] at h;cases h;exact⟨x,y,rfl,rfl,rfl⟩
theorem Z8t:PDA X [] J7:=PA.imp Wc fun σ H Q z1_=>by obtain ⟨O,d,T,R,e,q⟩:=z1_;cases e;exact q [] H (Jl.refl H) .nil
theorem Z5n(ha:PD X e f)(hr:PDA X es g)(hs:autoParam (starEach (e::es) X.env=(false,eval e X.env)::starEach es X.env) q_._auto_1):PDA X (e::es) (Z6 f g):=PA.imp (M0 ha hr hs) fun σ H Q z_=>by
 refine W_ fun n9=>?_;obtain⟨O,d,T,R,e,q⟩:=z_
 obtain⟨x,xs,h1,h2,rfl⟩:=Z0o e;apply n9;clear n9
 exact⟨O,d,x,R,h1,fun v H1 s1 b1=>⟨O,d,xs,R.mono s1,h2,fun vs H2 s2 b2=>q (v::vs) H2 (s1.trans s2) (.cons (b1.mono (JU s2)) b2)⟩⟩
theorem Z3R:PBA X [] J7:=PA.imp Wc fun σ H Q z1_=>by obtain ⟨O,d,T,R,e,q⟩:=z1_;cases e;exact q [] H (Jl.refl H) .nil
theorem Fw(ha:PB X e f)(hr:PBA X es g)(hs:autoParam (starEach (e::es) X.env=(false,eval e X.env)::starEach es X.env) q_._auto_1):PBA X (e::es) (Z6 f g):=PA.imp (M0 ha hr hs) fun σ H Q z_=>by
 refine W_ fun n9=>?_;obtain⟨O,d,T,R,e,q⟩:=z_
 obtain⟨x,xs,h1,h2,rfl⟩:=Z0o e;apply n9;clear n9
 exact⟨O,d,x,R,h1,fun v H1 s1 b1=>⟨O,d,xs,R.mono s1,h2,fun vs H2 s2 b2=>q (v::vs) H2 (s1.trans s2) (.cons (b1.mono s2) b2)⟩⟩
noncomputable def Z1G (ts:Lt_):Option (Lt_):=if ts.length<=1000000 then some ts else none
theorem Z2P(h:Z1G ts=some us):us=ts/\ts.length<=sizeLine:=by
 unfold Z1G at h
 split at h
 ·cases h;exact⟨rfl,ZF ‹_› (by decide)⟩
 ·cases h
noncomputable def QY (f:FL):FD:=fun d=>((f d).bind Z1G).map Th.tup
noncomputable def Ck (f:FL):FL:=fun d=>(f d).bind Z1G
theorem ZcR{x1}(h:PDA X es g):PD X (.Tuple es x1 pos) (QY g):=PE.imp (ZcQ h) fun σ H Q z_=>by
 refine W_ fun n9=>?_;obtain⟨O,d,T,R,e,q⟩:=z_;apply n9;clear n9
 unfold QY at e
 cases hg:g d with
 |none=>rw[hg] at e;cases e
 |some ts =>
  rw[hg] at e
  cases hf:Z1G ts with
  |none=>rw[show (some ts).bind Z1G=Z1G ts from rfl,hf] at e;cases e
  |some us =>
   rw[show (some ts).bind Z1G=Z1G ts from rfl,hf] at e
   cases e
   obtain⟨rfl,hz⟩:=Z2P hf
   refine⟨O,d,_,R,hg,fun vs H' s b=>⟨by rw[b.length];exact hz,fun p hp=>q _ _ (s.trans (Jl.upd hp)) ?_⟩⟩
   exact .tup (SqT.of (UP JL ((R.mono s).notOwn hp))) (b.mono (JU (Jl.upd hp)))
theorem Z3P(h:PDA X es g):PF X (.List es pos) (Ck g):=PE.imp (Zgh h) fun σ H Q z_=>by
 refine W_ fun n9=>?_;obtain⟨O,d,T,R,e,q⟩:=z_;apply n9;clear n9
 unfold Ck at e
 cases hg:g d with
 |none=>rw[hg] at e;cases e
 |some ts =>
  rw[hg] at e
  obtain⟨rfl,hz⟩:=Z2P e
  refine⟨O,d,_,R,hg,fun vs H' s b=>⟨by rw[b.length];exact hz,fun p hp=>q _ _ (s.trans (Jl.upd hp)) ?_⟩⟩
  exact⟨p,vs,rfl,s.free hp,JL,b.mono (Qw (Jl.upd hp) hp)⟩
end
inductive Out where
 |nx (d:Sd)|rt (T:Th)|bk (d:Sd)|ct (d:Sd)|xc (c:Str)
abbrev FS:=Sd->Option Out
def Zcr (X:Cx)(x:Str)(H:Hp):Prop:=∀ (pins:Pn_) (σ:St) (s:Shared) (vs:Lu_) (h':Heap) (e C:Addr),Inv X pins σ H s->X.mg x=some (.ref C)->Heap.MadeExcOf s.heap h' e (.ref C) vs->X.xe (.ref e) { s with heap:=h' }
def ZcA.on (X:Cx)(D:ZcA)(f:Addr->Prop)(B:Hp):Out->Prop
 |.nx d=>∀ σ H O,O.far=f->Jl B (low H O)->Rep X.K H O σ d->D.nx σ H
 |.rt T=>∀ v H,Jl B H->JG X.K (less H ⟨[],f⟩) v T->D.rt v H
 |.bk d=>∀ σ H O,O.far=f->Jl B (low H O)->Rep X.K H O σ d->D.bk σ H
 |.ct d=>∀ σ H O,O.far=f->Jl B (low H O)->Rep X.K H O σ d->D.ct σ H
 |.xc c=>∀ H,Jl B H->Zcr X c H
def ZbM (X:Cx)(F:FS):TS:=fun D σ H=>∃ O d o,Rep X.K H O σ d/\F d=some o/\D.on X O.far (low H O) o
def PDS (X:Cx)(st:Stmt)(F:FS):Prop:=PS X st (ZbM X F)
def Zai (X:Cx)(sts:List Stmt)(F:FS):Prop:=PSs X sts (ZbM X F)
theorem ZcA.on.mono {X:Cx}{D:ZcA}{f:Addr->Prop}{B B':Hp}{o:Out}(h:D.on X f B o)(s:Jl B B'):D.on X f B' o:=by
 cases o with
 |nx d=>exact fun σ H O hf s' r=>h σ H O hf (s.trans s') r
 |rt T=>exact fun v H s' b=>h v H (s.trans s') b
 |bk d=>exact fun σ H O hf s' r=>h σ H O hf (s.trans s') r
 |ct d=>exact fun σ H O hf s' r=>h σ H O hf (s.trans s') r
 |xc c=>exact fun H s'=>h H (s.trans s')
theorem Z2x:Jl (less H O) (less H ⟨[],O.far⟩):=fun b o e=>by
 obtain⟨h1,h2⟩:=of_less e
 exact UP h1 fun z=>z.elim (fun q=>by simp at q) fun q=>h2 (.inr q)
theorem BA.out {K:Fg_}{H:Hp}{O:Hid}{v:V}{T:Th}(h:BA K H O v T):JG K (less H ⟨[],O.far⟩) v T:=by
 rcases h with h|⟨a,xs,ts,rfl,rfl,e3,hf,h⟩
 ·exact h.mono Z2x
 ·exact .lst (SqL.of (UP e3 fun z=>z.elim (fun q=>by simp at q) hf)) (h.mono Z2x)
section
variable {X:Cx}{e a b:Expr}{st:Stmt}{rest sts:List Stmt}{f:FD}{F G:FS}{pos:Pos}
theorem PS.imp(h:PS X st t)(i:∀ D σ H,t' D σ H->t D σ H):PS X st t':=fun pins s σ H D I q=>h pins s σ H D I (i D σ H q)
theorem PSs.imp(h:PSs X sts t)(i:∀ D σ H,t' D σ H->t D σ H):PSs X sts t':=fun pins s σ H D I q=>h pins s σ H D I (i D σ H q)
noncomputable def UE:FS:=fun d=>some (.nx d)
noncomputable def UH (F G:FS):FS:=fun d=>(F d).bind fun o=>match o with|.nx d'=>G d'|.rt T=>some (.rt T)|.bk d'=>some (.bk d')|.ct d'=>some (.ct d')|.xc c=>some (.xc c)
theorem Zbb:Zai X [] UE:=PSs.imp ZdV fun D σ H z1_=>by obtain ⟨O,d,o,R,e,q⟩:=z1_;cases e;exact q σ H O rfl (Jl.refl _) R
theorem Z8p (h1:PDS X st F)(h2:Zai X rest G):Zai X (st::rest) (UH F G):=PSs.imp (ZaS h1 h2) fun D σ H z_=>by
 refine W_ fun n9=>?_;obtain⟨O,d,o,R,e,q⟩:=z_;apply n9;clear n9
 unfold UH at e
 cases hF:F d with
 |none=>rw[hF] at e;cases e
 |some o1 =>
  rw[hF] at e
  refine⟨O,d,o1,R,hF,?_⟩
  cases o1 with
  |nx d'=>exact fun aF H' O' hf s R'=>⟨O',d',o,R',e,by rw[hf];exact q.mono s⟩
  |rt T=>cases e;exact q
  |bk d'=>cases e;exact q
  |xc c=>cases e;exact q
  |ct d'=>cases e;exact q
theorem Zba (h1:PDS X st F):Zai X [st] F:=ZdU h1
noncomputable def GR (f:FD):FS:=fun d=>(f d).map Out.rt
theorem Zea (h:PB X e f):PDS X (.Return (some e) pos) (GR f):=PS.imp (Zg9 h) fun D σ H z_=>by
 refine W_ fun n9=>?_;obtain⟨O,d,o,R,e,q⟩:=z_;apply n9;clear n9
 unfold GR at e
 cases hf:f d with
 |none=>rw[hf] at e;cases e
 |some T =>
  rw[hf] at e
  cases e
  exact⟨O,d,T,R,hf,fun v H' s b=>q v H' ((Z1b H O).trans s) b.out⟩
theorem Zgp(hc:PDT X c fc)(ha:Zai X A F)(hb:Zai X B G):PDS X (.If c A B pos) (fIf fc F G):=PS.imp (Zin hc ha hb) fun D σ H z_=>by
 refine W_ fun n9=>?_;obtain⟨O,d,o,R,e,q⟩:=z_;apply n9;clear n9
 unfold fIf at e
 cases hf:fc d with
 |none=>rw[hf] at e;cases e
 |some z =>
  rw[hf] at e
  refine⟨O,d,z,R,hf,fun H' s=>?_⟩
  cases z with
  |true=>exact⟨O,d,o,R.mono s,e,q.mono (YM s)⟩
  |false=>exact⟨O,d,o,R.mono s,e,q.mono (YM s)⟩
noncomputable def Yy (i:Nat)(f:FD):FS:=fun d=>(f d).map fun T=>.nx (d.set i (some (.th T)))
theorem ZaF:∀ D σ H,ZbM X (Yy i f) D σ H->Zfl (Bp X.K f) (Fl i) D σ H:=fun D σ H z_=>by
 refine W_ fun n9=>?_;obtain⟨O,d,o,R,e,q⟩:=z_;apply n9;clear n9
 unfold Yy at e
 cases hf:f d with
 |none=>rw[hf] at e;cases e
 |some T =>
  rw[hf] at e
  cases e
  exact⟨O,d,T,R,hf,fun v H' s b=>q _ H' O rfl (YM s) ((R.mono s).set i b)⟩
theorem Ze9(hN:X.N.Nodup)(hi:X.N[i]?=some x)(hx:Loc X.env.scope x)(he:PD X e f)(hs:swapsWith e (some (.Name x pos')) pos.line X.env=pure false)
  (hf:X.fn x=true\/X.env.scope.names.lookup x=some .local):PDS X (.Assign [.Name x pos'] e pos) (Yy i f):=PS.imp (Z5j hN hi hx he hs hf) ZaF
noncomputable def Z5N (i:Nat)(f:FL):FS:=fun d=>(f d).map fun ts=>.nx (d.set i (some (.own ts)))
theorem Rep.setOwn {K:Fg_}{H H':Hp}{O:Hid}{σ:St}{d:Sd}(r:Rep K H O σ d)(s:Jl H H')(i:Nat){v:V}{ts:Lt_}(b:Zfk K H H' O v ts) :
  ∃ a,v=.ref a/\H a=none/\Rep K H' (O.cons i a) (σ.set i (some v)) (d.set i (some (.own ts))):=by
 refine W_ fun n9=>?_;obtain⟨a,xs,rfl,e2,e3,b⟩:=b;apply n9;clear n9
 exact⟨a,rfl,e2,r.fresh s i e2 e3 trivial fun hf=>⟨a,xs,Z1,rfl,e3,hf,by rw[Z1d (j:=0)];exact b⟩⟩
theorem Zbo {i:Nat}{f:FL}:∀ D σ H,ZbM X (Z5N i f) D σ H->Zfl (ZbN X.K f) (Fl i) D σ H:=fun D σ H z_=>by
 refine W_ fun n9=>?_;obtain⟨O,d,o,R,e,q⟩:=z_;apply n9;clear n9
 unfold Z5N at e
 cases hf:f d with
 |none=>rw[hf] at e;cases e
 |some T =>
  rw[hf] at e
  cases e
  refine⟨O,d,T,R,hf,fun v H' s b=>?_⟩
  refine W_ fun n9=>?_;obtain⟨a,rfl,hn,R'⟩:=R.setOwn s i b;apply n9;clear n9
  exact q _ H' (O.cons i a) rfl (Z45 s hn) R'
theorem Zeb {i:Nat}{f:FL}{x:Str}{pos':Pos}(hN:X.N.Nodup)(hi:X.N[i]?=some x)(hx:Loc X.env.scope x)(he:PF X e f)(hs:swapsWith e (some (.Name x pos')) pos.line X.env=pure false)
  (hf:X.fn x=true\/X.env.scope.names.lookup x=some .local):PDS X (.Assign [.Name x pos'] e pos) (Z5N i f):=PS.imp (Z5j hN hi hx he hs hf) Zbo
noncomputable def Nl (i:Nat)(f:FD):FS:=fun d=>match d[i]? with
 |some (some (.own ts))=>(f d).bind fun T=>if ts.length<1000000 then some (.nx (d.set i (some (.own (ts++[T]))))) else none
 |_=>none
theorem Z6B (ho:PE X o (Zab i)) (he:PD X e f) (hbase:attributeBase o "append" X.env (eval o X.env)=eval o X.env)
  (hfew:((backTo cpos (starEach [e] X.env)).all (fun x=>!x.1)&&(backToKw cpos (keywordEach [] X.env)).all (fun x=>x.1.isSome)
  &&decide (([e]:Le_).length+([]:List Keyword).length+(if ([]:List Keyword).isEmpty then 0 else 1)<30))=true)
  (hline:(apos.endLine == cpos.line)=true) (hs:starEach [e] X.env=(false,eval e X.env)::starEach [] X.env) (hplain:(backTo cpos (starEach ([]:Le_) X.env)).any (·.1)=false)
  (hsw:swapsWith (.Call (.Attribute o "append" apos) [e] [] cpos) none pos.line X.env=pure false) :
  PDS X (.Expr (.Call (.Attribute o "append" apos) [e] [] cpos) pos) (Nl i f) :=
 PS.imp (Z8c (Zb7 Z1J PySem.F.slot_list_append PySem.F.type_list_append Z8T ho (M0 he Wc hs) hbase hfew hline hs hplain) hsw) fun D σ H z_=>by
  refine W_ fun n9=>?_;obtain⟨O,d,o,R,e,q⟩:=z_;apply n9;clear n9
  unfold Nl at e
  split at e
  ·rename_i ts hd
   cases hf:f d with
   |none=>rw[hf] at e;cases e
   |some T =>
    rw[hf] at e
    refine W_ fun n9=>?_;obtain⟨a,xs,h1,h2,h3,h4,h5⟩:=R.own i ts hd;apply n9;clear n9
    change (if ts.length<1000000 then _ else _)=_ at e
    split at e
    ·rename_i hz
     cases e
     refine⟨_,h2,.inl ⟨rfl,xs,SqL.of h3⟩,O,d,T,R,hf,fun v H' s b=>⟨a,xs,v,rfl,rfl,s _ _ h3,by rw[h5.length];exact ZG hz (by decide),?_⟩⟩
     obtain⟨R',s'⟩:=(R.mono s).putL h1 h2 h4 ((h5.mono (JU s)).append (.cons b .nil))
     exact q σ _ O rfl ((YM s).trans s') R'
    ·cases e
  ·cases e
abbrev FG:=Th->Sd->Option Sd
def ZiI (K:Fg_)(g:FG):TG:=fun v σ H Q=>∃ O d T d',Rep K H O σ d/\JG K (less H O) v T/\g T d=some d'/\∀ aF,Rep K H O aF d'->Q aF H
def PDG (X:Cx)(tg:Expr)(g:FG):Prop:=PG X tg (ZiI X.K g)
theorem PG.imp(h:PG X tg t)(i:∀ v σ H Q,t' v σ H Q->t v σ H Q):PG X tg t':=fun pins s σ H v u Q I r q=>h pins s σ H v u Q I r (i v σ H Q q)
noncomputable def De (i:Nat):FG:=fun T d=>some (d.set i (some (.th T)))
noncomputable def MG (i j:Nat):FG:=fun T d=>match T with|.tup [x,y]=>some ((d.set i (some (.th x))).set j (some (.th y)))|_=>none
theorem Zeg(hN:X.N.Nodup)(hi:X.N[i]?=some x)(hx:Loc X.env.scope x)(hf:X.fn x=true\/X.env.scope.names.lookup x=some .local):PDG X (.Name x pos) (De i) :=
 PG.imp (MT hN hi hx hf) fun v σ H Q z1_=>by obtain ⟨O,d,T,d',R,b,e,q⟩:=z1_;cases e;exact q _ (R.set i b)
theorem ZX.two {K:Fg_}{H:Hp}{xs:Lv_}{x y:Th}(h:ZX K H xs [x,y]):∃ v w,xs=[v,w]/\JG K H v x/\JG K H w y:=by
 cases h with
 |cons h1 r=>cases r with
  |cons h2 r2=>cases r2;exact⟨_,_,rfl,h1,h2⟩
theorem Zbj(hc:X.calm=true)(hN:X.N.Nodup)(hi:X.N[i]?=some x)(hj:X.N[j]?=some y)(hx:Loc X.env.scope x)(hy:Loc X.env.scope y)
  (h:PG X (.Tuple [.Name x px,.Name y py] k pos) (ZiQ X.K 2 (Z9s (Fl i) (Z9s (Fl j) ZiR)))):PDG X (.Tuple [.Name x px,.Name y py] k pos) (MG i j) :=
 PG.imp h fun v σ H Q z_=>by
  refine W_ fun n9=>?_;obtain⟨O,d,T,d',R,b,e,q⟩:=z_;apply n9;clear n9
  unfold MG at e
  split at e
  ·cases e
   cases b with
   |tup e' b' =>
    refine W_ fun n9=>?_;obtain⟨v1,v2,rfl,b1,b2⟩:=b'.two;apply n9;clear n9
    exact⟨_,_,rfl,(Jt H O).seqT e',rfl,v1,_,rfl,v2,_,rfl,rfl,q _ ((R.set i b1).set j b2)⟩
  ·cases e
structure Zcx (K:Fg_)(J:It)(B:Hp)(f:Addr->Prop)(ts:Lt_):Prop where
 go:∀ i H,Jl B H->i<ts.length->J.go i H
 stop:∀ H,Jl B H->J.stop ts.length H
 yld:∀ i H O x H',i<ts.length->O.far=f->Jl B (low H O)->(∀ p,H p=none->¬ O.has p)->J.yld i H x H'->Jl H H'/\∃ T,ts[i]?=some T/\JG K (less H' O) x T
def ZgZ (K:Fg_)(f:FL):TI:=fun σ H R=>∃ O d ts,Rep K H O σ d/\f d=some ts/\∀ J H',Jl H H'->Zcx K J (low H' O) O.far ts->R J H'
def PDI (X:Cx)(tg iter:Expr)(f:FL):Prop:=PI X tg iter (ZgZ X.K f)
theorem PI.imp(h:PI X tg iter t)(i:∀ σ H R,t' σ H R->t σ H R):PI X tg iter t':=fun pins s σ H R I q=>h pins s σ H R I (i σ H R q)
noncomputable def Qe (g:FG)(F:FS):Lt_->Sd->Option Out
 |[],d=>some (.nx d)
 |t::r,d=>(g t d).bind fun d1=>(F d1).bind fun o=>match o with|.nx d'=>Qe g F r d'|.ct d'=>Qe g F r d'|.bk d'=>some (.nx d')|.rt T=>some (.rt T)|.xc c=>some (.xc c)
noncomputable def Fm (fi:FL)(g:FG)(F:FS):FS:=fun d=>(fi d).bind fun ts=>Qe g F ts d
theorem Zec(hp:YC (model X.prog X.w) X.A X.env X.xe)(hc:X.calm=true)(hi:PDI X tg iter fi)(hg:PDG X tg g)(hb:Zai X body F)
  (hs:∀ x,foldedSetIterable iter X.env x=pure x):PDS X (.For tg iter body [] pos) (Fm fi g F):=PS.imp (Zga hp hc hi hg hb hs) fun D σ H z_=>by
 refine W_ fun n9=>?_;obtain⟨O,d,o,R,e,q⟩:=z_;apply n9;clear n9
 unfold Fm at e
 cases hfi:fi d with
 |none=>rw[hfi] at e;cases e
 |some ts =>
  rw[hfi] at e
  change Qe g F ts d=some o at e
  refine⟨O,d,ts,R,hfi,fun J H1 s1 ok=>⟨fun i m aF H'=>m=ts.length-i/\i<=ts.length/\∃ O' d',O'.far=O.far/\Rep X.K H' O' aF d'/\Jl (low H1 O) (low H' O')/\Qe g F (ts.drop i) d'=some o,⟨ts.length,rfl,Jh _,O,d,rfl,R.mono s1,Jl.refl _,e⟩,?_⟩⟩
  rintro i m aF H' ⟨rfl,hi,O',d',hf',R',s',e'⟩
  have sB:Jl (low H1 O) H':=s'.trans (Z1b H' O')
  by_cases hlt:i<ts.length
  ·rw[Yr hlt] at e'
   unfold Qe at e'
   cases hgd:g ts[i] d' with
   |none=>rw[hgd] at e';cases e'
   |some d1 =>
    rw[hgd] at e'
    change ((F d1).bind _)=_ at e'
    cases hF:F d1 with
    |none=>rw[hF] at e';cases e'
    |some o1 =>
     rw[hF] at e'
     refine .inr ⟨ok.go i H' sB hlt,fun aL H2=>∃ O2 d2,O2.far=O.far/\Rep X.K H2 O2 aL d2/\Jl (low H1 O) (low H2 O2)/\Qe g F (ts.drop (i+1)) d2=some o,fun aL H2 ⟨O2,d2,h1,h2,h3,h4⟩=>⟨ts.length-(i+1),by omega,rfl,hlt,O2,d2,h1,h2,h3,h4⟩,fun x Hx hy=>?_⟩
     refine W_ fun n9=>?_;obtain⟨sx,T,hT,bx⟩:=ok.yld i H' O' x Hx hlt hf' s' (fun p hp=>R'.notOwn hp) hy;apply n9;clear n9
     rw[Zd hlt] at hT
     cases hT
     refine⟨O',d',_,d1,R'.mono sx,bx,hgd,fun aW R1=>⟨O',d1,o1,R1,hF,?_⟩⟩
     have sx':Jl (low H1 O) (low Hx O'):=s'.trans (YM sx)
     cases o1 with
     |nx d2=>exact fun aL H2 O2 hf2 s2 R2=>⟨O2,d2,hf2.trans hf',R2,sx'.trans s2,e'⟩
     |ct d2=>exact fun aL H2 O2 hf2 s2 R2=>⟨O2,d2,hf2.trans hf',R2,sx'.trans s2,e'⟩
     |bk d2=>cases e';exact fun aL H2 O2 hf2 s2 R2=>q aL H2 O2 (hf2.trans hf') (((YM s1).trans sx').trans s2) R2
     |xc c=>cases e';exact fun H2 s2=>q H2 (((YM s1).trans sx').trans s2)
     |rt T2=>cases e';rw[hf'];exact fun v H2 s2 b2=>q v H2 (((YM s1).trans sx').trans s2) b2
  ·have e1:i=ts.length:=by lia
   subst e1
   rw[Z00] at e'
   cases e'
   exact .inl ⟨ok.stop H' sB,q aF H' O' hf' ((YM s1).trans s') R'⟩
end
noncomputable def Its (x:Str):It:=⟨fun i _=>i<x.cps.size,fun i H v H'=>H'=H/\∃ c,x.cps[i]?=some c/\v=.str ⟨#[c]⟩,fun i _=>i=x.cps.size⟩
theorem Ds(hh:A.handled=none)(I:Addr)(x:Str)(t:Tok) :
  Walks prog w A I [I] [I] x.cps.size (SignAt x) (fun i h=>h.IsStrIter I (strIterType x) x t i):=by
 cases ha:x.cps.all (·<128)
 ·have e:strIterType x="str_iterator":=by simp[strIterType,ha]
  rw[e];exact Walks.strWide hh I x t
 ·have e:strIterType x="str_ascii_iterator":=by simp[strIterType,ha]
  rw[e];exact Walks.strAscii hh I x t
theorem Z1X {prog:Program}{w:World}{A:Around}{E:Ps_}{s:Shared}{I:Addr}{x:Str}{t:Tok}{i:Nat}{Q:Ps_}(h:s.heap.IsStrIter I (strIterType x) x t i)(q:Q (.ref I) s):wpAny (model prog w) A (pyIter (.ref I)) Q E s:=by
 cases ha:x.cps.all (·<128)
 ·have e:strIterType x="str_iterator":=by simp[strIterType,ha]
  rw[e] at h;exact wpAny_pyIter_striter_wide h q
 ·have e:strIterType x="str_ascii_iterator":=by simp[strIterType,ha]
  rw[e] at h;exact wpAny_pyIter_striter_ascii h q
theorem Zav {P:Program}{w:World}{K:Fg_}{y:Str}{py:Pos}(x:Str)(t:Tok)(it:Addr):Zcn P w K (.Name y py) (Its x) [it] it (fun i h=>h.IsStrIter it (strIterType x) x t i) where
 mem:=by simp
 obj:=fun i h st b hb=>by
  have e:b=it:=by simpa using hb
  subst e
  refine W_ fun n9=>?_;obtain⟨o,e,c,d⟩:=st;apply n9;clear n9
  exact⟨o,e,fun v z=>by rw[d] at z;cases z⟩
 keep:=fun i h h' st k=>by
  refine W_ fun n9=>?_;obtain⟨o,e,r⟩:=st;apply n9;clear n9
  exact⟨o,k it (by simp) o e,r⟩
 item:=by
  intro X hP hw hK hc i pins s σ H E I hf st hg
  subst hP hw hK
  refine W_ fun n9=>?_;obtain⟨f0,f1,f2,f3,f4,f5⟩:=hf it (by simp)
  apply n9;clear n9
  refine (Ds (I.ok.hd hc) it x t).item i s _ _ hg st fun v h' tk hv st' kk=>?_
  refine W_ fun n9=>?_;obtain⟨c,u,hcc,rfl⟩:=hv;apply n9;clear n9
  have I1:Inv X pins σ H { s with heap:=h',toks:=tk }:=I.turned (fun b o hb e=>kk b o (by simpa using hb) e) f0 f1 f3 f4 f5
  exact⟨_,rfl,Z4 ⟨.str ⟨#[c]⟩,H,I1,⟨u,rfl⟩,⟨rfl,c,hcc,rfl⟩,st',fun b hb=>(hf b hb).1⟩⟩
 done:=by
  intro X hP hw hK hc i pins s σ H E I hf st hg
  subst hP hw hK
  refine W_ fun n9=>?_;obtain⟨f0,f1,f2,f3,f4,f5⟩:=hf it (by simp)
  apply n9;clear n9
  have hg':i=x.cps.size:=hg
  subst hg'
  exact (Ds (I.ok.hd hc) it x t).done s _ _ st fun h' tk kk=>⟨rfl,I.turned (fun b o hb e=>kk b o (by simpa using hb) e) f0 f1 f3 f4 f5⟩
 self:=fun _ _ _ _ _ st h=>Z1X st h
def ZjU (tl:TE):TI:=fun σ H R=>tl σ H fun v H1=>∃ x,v=.str x/\R (Its x) H1
theorem Zgc(hl:PE X l tl):PI X (.Name y py) l (ZjU tl):=by
 intro pins s σ H R I h
 refine thn (hl pins s σ H _ I h) fun v s1 z1_=>?_
 refine W_ fun n9=>?_;obtain ⟨x,H1,I1,r1,q1⟩:=z1_
 obtain⟨z,rfl,q⟩:=q1
 obtain⟨t,rfl⟩:=r1;apply n9;clear n9
 refine wpAny_pyIter_strU ?_
 refine⟨s1.heap.objs.size,[s1.heap.objs.size],_,_,H1,rfl,I1.kept (t':=s1.toks) fun b o e=>Z3 _ e,Zav z t _,⟨_,Zl _ rfl,rfl,rfl⟩,fun b hb=>?_,q⟩
 have e:b=s1.heap.objs.size:=by simpa using hb
 subst e
 exact I1.fpOk (Z7 _) (I1.hok.fresh (Z7 _))
theorem PI.or(h:PI X tg l t)(h':PI X tg l t'):PI X tg l (fun σ H R=>t σ H R\/t' σ H R):=fun pins s σ H R I q=>q.elim (h pins s σ H R I) (h' pins s σ H R I)
noncomputable def signs (x:Str):Lt_:=x.cps.toList.map fun c=>.str ⟨#[c]⟩
noncomputable def Z9i:Th->Option (Lt_)
 |.lst ts=>some ts
 |.tup ts=>some ts
 |.str x=>some (signs x)
 |_=>none
noncomputable def YR (f:FD):FL:=fun d=>(f d).bind Z9i
section
variable {X:Cx}{tg l:Expr}{f:FD}{K:Fg_}
theorem Z2A(h:SqL K (less H O) a xs)(b:ZX K (less H O) xs ts):Zcx K (Itl K a) (low H O) O.far ts where
 go:=fun i H' s hi=>by
  have hl:SqL K H' a xs:=by
   rcases h with (h|⟨o,h⟩)|h
   ·exact .inl (.inl (s _ _ (MP (of_less h).1 fun z=>(of_less h).2 (.inl z))))
   ·exact .inl (.inr ⟨o,s _ _ (MP (of_less h).1 fun z=>(of_less h).2 (.inl z))⟩)
   ·exact .inr h
  have hi':i<xs.length:=by rw[b.length];exact hi
  exact⟨xs,xs[i],hl,by simp[hi']⟩
 stop:=fun H' s=>by
  have hl:SqL K H' a xs:=by
   rcases h with (h|⟨o,h⟩)|h
   ·exact .inl (.inl (s _ _ (MP (of_less h).1 fun z=>(of_less h).2 (.inl z))))
   ·exact .inl (.inr ⟨o,s _ _ (MP (of_less h).1 fun z=>(of_less h).2 (.inl z))⟩)
   ·exact .inr h
  exact⟨xs,hl,by rw[b.length];exact Z7 _⟩
 yld:=fun i H' O' x H'' hi hf s _ y=>by
  obtain⟨e,y⟩:=y
  subst e
  have sl:Jl (less H O) (less H'' O'):=Z5y s hf
  have hx:=y xs ((Jt H'' O').seq (sl.seq h))
  obtain⟨T,h1,h2⟩:=b.got hx
  exact⟨Jl.refl _,T,h1,h2.mono sl⟩
theorem FC(h:SqT K (less H O) a xs)(b:ZX K (less H O) xs ts):Zcx K (Itt K a) (low H O) O.far ts where
 go:=fun i H' s hi=>by
  have hl:SqT K H' a xs:=by
   rcases h with (h|⟨o,h⟩)|h
   ·exact .inl (.inl (s _ _ (MP (of_less h).1 fun z=>(of_less h).2 (.inl z))))
   ·exact .inl (.inr ⟨o,s _ _ (MP (of_less h).1 fun z=>(of_less h).2 (.inl z))⟩)
   ·exact .inr h
  have hi':i<xs.length:=by rw[b.length];exact hi
  exact⟨xs,xs[i],hl,by simp[hi']⟩
 stop:=fun H' s=>by
  have hl:SqT K H' a xs:=by
   rcases h with (h|⟨o,h⟩)|h
   ·exact .inl (.inl (s _ _ (MP (of_less h).1 fun z=>(of_less h).2 (.inl z))))
   ·exact .inl (.inr ⟨o,s _ _ (MP (of_less h).1 fun z=>(of_less h).2 (.inl z))⟩)
   ·exact .inr h
  exact⟨xs,hl,by rw[b.length];exact Z7 _⟩
 yld:=fun i H' O' x H'' hi hf s _ y=>by
  obtain⟨e,y⟩:=y
  subst e
  have sl:Jl (less H O) (less H'' O'):=Z5y s hf
  have hx:=y xs ((Jt H'' O').seqT (sl.seqT h))
  obtain⟨T,h1,h2⟩:=b.got hx
  exact⟨Jl.refl _,T,h1,h2.mono sl⟩
theorem Z5C(x:Str):Zcx K (Its x) (low H O) O.far (signs x) where
 go:=fun i H' s hi=>by
  show i<x.cps.size
  simpa [signs] using hi
 stop:=fun H' s=>by
  show (signs x).length=x.cps.size
  simp[signs]
 yld:=fun i H' O' v H'' hi hf s _ y=>by
  refine W_ fun n9=>?_;obtain⟨e,c,hc,e2⟩:=y;apply n9;clear n9
  subst e e2
  refine⟨Jl.refl _,.str ⟨#[c]⟩,?_,.str _⟩
  have hc':x.cps.toList[i]?=some c:=by simpa using hc
  simp only[signs,Jw,hc',Z8]
theorem Zef(h:PD X l f):PDI X (.Name y py) l (YR f):=PI.imp ((Z8l h).or ((ZcP h).or (Zgc h))) fun σ H R z_=>by
 refine W_ fun n9=>?_;obtain⟨O,d,ts,r,e,q⟩:=z_;apply n9;clear n9
 unfold YR at e
 cases hf:f d with
 |none=>rw[hf] at e;cases e
 |some T =>
  rw[hf] at e
  change Z9i T=some ts at e
  cases T with
  |lst us=>cases e;exact .inl ⟨O,d,_,r,hf,fun v H' s b=>by cases b with|lst e' b'=>exact⟨_,rfl,⟨_,(Jt H' O).seq e'⟩,q _ H' s (Z2A e' b')⟩⟩
  |tup us=>cases e;exact .inr (.inl ⟨O,d,_,r,hf,fun v H' s b=>by cases b with|tup e' b'=>exact⟨_,rfl,⟨_,(Jt H' O).seqT e'⟩,q _ H' s (FC e' b')⟩⟩)
  |str x=>cases e;exact .inr (.inr ⟨O,d,_,r,hf,fun v H' s b=>by cases b;exact⟨x,rfl,q _ H' s (Z5C x)⟩⟩)
  |_=>cases e
noncomputable def Z1l (f:FD):FL:=fun d=>(f d).bind fun T=>match T with|.lst ts=>some ts|.tup ts=>some ts|_=>none
theorem Zee (h:PD X l f):PDI X tg l (Z1l f):=PI.imp ((Z8l h).or (ZcP h)) fun σ H R z_=>by
 refine W_ fun n9=>?_;obtain⟨O,d,ts,r,e,q⟩:=z_;apply n9;clear n9
 unfold Z1l at e
 cases hf:f d with
 |none=>rw[hf] at e;cases e
 |some T =>
  rw[hf] at e
  cases T with
  |lst us=>cases e;exact .inl ⟨O,d,_,r,hf,fun v H' s b=>by cases b with|lst e' b'=>exact⟨_,rfl,⟨_,(Jt H' O).seq e'⟩,q _ H' s (Z2A e' b')⟩⟩
  |tup us=>cases e;exact .inr ⟨O,d,_,r,hf,fun v H' s b=>by cases b with|tup e' b'=>exact⟨_,rfl,⟨_,(Jt H' O).seqT e'⟩,q _ H' s (FC e' b')⟩⟩
  |_=>cases e
noncomputable def upTo (n:Nat):Lt_:=(Ja n).map fun (k:Nat)=>Th.int ((k:Nat):Int)
theorem Z6T(n:Nat):Zcx K (Itr 0 n) (low H O) O.far (upTo n) where
 go:=fun i H' s hi=>by
  show i<n
  simpa [upTo] using hi
 stop:=fun H' s=>by
  show n<=(upTo n).length
  simp[upTo]
 yld:=fun i H' O' v H'' hi hf s _ y=>by
  obtain⟨e,e2⟩:=y
  subst e e2
  refine⟨Jl.refl _,.int (0+i),?_,.int _⟩
  have hi':i<n:=by simpa [upTo] using hi
  simp[upTo,hi']
noncomputable def YX (f:FD):FL:=fun d=>(f d).bind fun T=>match T with|.int j=>if j<=1000000/\-1000000<=j then some (upTo j.toNat) else none|_=>none
theorem Z6D (hg:Gl X "range") (hm:X.mg "range"=none) (ha:PD X a f) (hs:starEach [a] X.env=[(false,eval a X.env)]) (hs1:starEach [a] X.env=(false,eval a X.env)::starEach [] X.env):PDI X tg (.Call (.Name "range" p) [a] [] pos) (YX f) :=
 PI.imp (Z8k hg hm (M0 ha Wc hs1) hs) fun σ H R z_=>by
  refine W_ fun n9=>?_;obtain⟨O,d,ts,r,e,q⟩:=z_;apply n9;clear n9
  unfold YX at e
  cases hf:f d with
  |none=>rw[hf] at e;cases e
  |some T =>
   rw[hf] at e
   cases T with
   |int j =>
    change (if j<=1000000/\-1000000<=j then _ else _)=_ at e
    split at e
    ·rename_i hj
     cases e
     exact⟨O,d,.int j,r,hf,fun v H' s b=>by
      cases b
      exact⟨j,rfl,by lia,by lia,q _ H' s (Z6T _)⟩⟩
    ·cases e
   |_=>cases e
theorem Rep.shift(r:Rep K H O σ d)(pre:List (Option V))(pd:List (Option Dv))(hl:pd.length=pre.length)(hp:∀ (i:Nat) (D:Dv),pd[i]?=some (some D)->∃ T v,D=.th T/\pre[i]?=some (some v)/\JG K (less H O) v T) :
  Rep K H ⟨O.own.map fun p=>(pre.length+p.1,p.2),O.far⟩ (pre++σ) (pd++d)/\less H ⟨O.own.map fun p=>(pre.length+p.1,p.2),O.far⟩=less H O:=by
 have hh:∀ b,Hid.has ⟨O.own.map fun p=>(pre.length+p.1,p.2),O.far⟩ b↔O.has b:=fun b=>by
  unfold Hid.has
  simp only[J1]
  rfl
 have hle:less H ⟨O.own.map fun p=>(pre.length+p.1,p.2),O.far⟩=less H O:=by
  funext b
  unfold less
  by_cases z:O.has b
  ·rw[if_pos z,if_pos ((hh b).mpr z)]
  ·rw[if_neg z,if_neg (fun q=>z ((hh b).mp q))]
 refine⟨{ len:=by rw[Zj,Zj,hl,r.len],at':=fun i D e=>?_,there:=fun a h=>r.there a ((hh a).mp h),inj:=fun i j a h1 h2=>?_ },hle⟩
 ·by_cases hi:i<pd.length
  ·rw[JI hi] at e
   obtain⟨T,v,rfl,h1,h2⟩:=hp i D e
   exact⟨v,by rw[JI (by lia)];exact h1,by rw[hle];exact h2⟩
  ·rw[Jp (by exact Y2 ‹_›)] at e
   have e2:(pre++σ)[i]?=σ[i-pd.length]?:=by rw[Jp (by lia),hl]
   rw[e2]
   exact (r.at' _ D e).keep (O':=⟨O.own.map fun p=>(pre.length+p.1,p.2),O.far⟩) (j:=i) (by rw[hle];exact Jl.refl _) (fun a h=>Zu.mpr ⟨_,h,by simp only[Mj,and_true];lia⟩) rfl fun _ _ _ h=>h
 ·obtain⟨p,hp1,e1⟩:=Zu.mp h1
  obtain⟨q,hq1,e2⟩:=Zu.mp h2
  injection e1 with a1 a2
  injection e2 with b1 b2
  have e:p.1=q.1:=r.inj p.1 q.1 a (by rw[<- a2];exact hp1) (by rw[<- b2];exact hq1)
  lia
noncomputable def GZ:FB:=fun _=>some true
noncomputable def N0 (g:Th->Option (List (Option Dv)))(ft:FB)(fe:FD)(d:Sd):Lt_->Option (Lt_)
 |[]=>some []
 |t::r=>(g t).bind fun p=>(ft (p++d)).bind fun c=>if c=true then (fe (p++d)).bind fun y=>(N0 g ft fe d r).bind fun ys=>some (y::ys) else N0 g ft fe d r
noncomputable def g1:Th->Option (List (Option Dv)):=fun T=>some [some (.th T)]
noncomputable def g2:Th->Option (List (Option Dv)):=fun T=>match T with|.tup [x,y]=>some [some (.th x),some (.th y)]|_=>none
noncomputable def Um (g:Th->Option (List (Option Dv)))(fi:FL)(ft:FB)(fe:FD):FL:=fun d=>(fi d).bind fun ts=>if ts.length<=1000000 then N0 g ft fe d ts else none
structure ZcB (K:Fg_)(k:Nat)(g:TG)(gd:Th->Option (List (Option Dv))):Prop where
 run:∀ (H:Hp) (O:Hid) (v:V) (T:Th) (p:List (Option Dv)) (σ:St) (Q:St->Hp->Prop),JG K (less H O) v T->gd T=some p ->
  (∀ pre:List (Option V),pre.length=k->p.length=k->(∀ (i:Nat) (D:Dv),p[i]?=some (some D)->∃ T v,D=.th T/\pre[i]?=some (some v)/\JG K (less H O) v T)->Q (pre++σ) H)->g v (Zm k none++σ) H Q
theorem Z9F:ZcB K 1 (Fl 0) g1:=⟨fun H O v T p σ Q b e q=>by
 cases e
 refine q [some v] rfl rfl fun i D e=>?_
 cases i with
 |zero=>cases e;exact⟨T,v,rfl,rfl,b⟩
 |succ i=>simp at e⟩
theorem Zdj:ZcB K 2 (ZiQ K 2 (Z9s (Fl 0) (Z9s (Fl 1) ZiR))) g2:=⟨fun H O v T p σ Q b e q=>by
 unfold g2 at e
 split at e
 ·cases e
  cases b with
  |tup e' b' =>
   refine W_ fun n9=>?_;obtain⟨v1,v2,rfl,b1,b2⟩:=b'.two;apply n9;clear n9
   refine⟨_,_,rfl,(Jt H O).seqT e',rfl,v1,_,rfl,v2,_,rfl,rfl,?_⟩
   refine q [some v1,some v2] rfl rfl fun i D e=>?_
   cases i with
   |zero=>cases e;exact⟨_,v1,rfl,rfl,b1⟩
   |succ i=>cases i with
    |zero=>cases e;exact⟨_,v2,rfl,rfl,b2⟩
    |succ i=>simp at e
 ·cases e⟩
structure Zj7 (K:Fg_)(J:It)(B:Hp)(O:Hid)(ts:Lt_):Prop where
 go:∀ i H,Jl B H->i<ts.length->J.go i H
 stop:∀ H,Jl B H->J.stop ts.length H
 yld:∀ i H x H',i<ts.length->Jl B H->(∀ p,H p=none->¬ O.has p)->J.yld i H x H'->Jl H H'/\∃ T,ts[i]?=some T/\JG K (less H' O) x T
def Z92 (K:Fg_)(f:FL):TI:=fun σ H R=>∃ O d ts,Rep K H O σ d/\f d=some ts/\∀ J H',Jl H H'->Zj7 K J H' O ts->R J H'
theorem Zhc {f:FL}:∀ σ H R,Z92 K f σ H R->ZgZ K f σ H R:=fun σ H R ⟨O,d,ts,r,e,q⟩=>⟨O,d,ts,r,e,fun J H' s ok=>q J H' s
 ⟨fun i H2 s2 hi=>ok.go i H2 ((Z1b H' O).trans s2) hi,fun H2 s2=>ok.stop H2 ((Z1b H' O).trans s2),fun i H2 x H3 hi s2 hn hy=>ok.yld i H2 O x H3 hi rfl (YM s2) hn hy⟩⟩
theorem Rep.hid(r:Rep K H O σ d):∀ m:List Nat,Rep K H O (Z5F m σ) (Z5F m d)
 |[]=>r
 |j::m=>by
  show Rep K H O ((Z5F m σ).set j none) ((Z5F m d).set j none)
  exact (r.hid m).one (x:=none) (y:=none) j (Jl.refl _) (fun _ _ h=>h) rfl (fun _ _ _ _ _ h=>h) (fun _ e=>nomatch e) r.there r.inj
noncomputable def DM (m:List Nat)(g:Th->Option (List (Option Dv)))(fi:FL)(ft:FB)(fe:FD):FL:=fun d=>(fi d).bind fun ts=>if ts.length<=1000000 then N0 g ft fe (Z5F m d) ts else none
theorem Z0r(G:ZcB K k g gd):∀ σ H Q,ZbN K (DM m gd fi ft fe) σ H Q->Z7G m k (Z92 K fi) g (liftT K ft) (Bp K fe) σ H Q:=fun σ H Q z_=>by
 refine W_ fun n9=>?_;obtain⟨O,d,us,R,e,q⟩:=z_;apply n9;clear n9
 unfold DM at e
 cases hfi:fi d with
 |none=>rw[hfi] at e;cases e
 |some ts =>
  rw[hfi] at e
  change (if ts.length<=1000000 then N0 gd ft fe (Z5F m d) ts else none)=some us at e
  split at e
  ·rename_i hz
   refine⟨O,d,ts,R,hfi,?_⟩
   replace R:=R.hid m
   generalize Z5F m d=d at R e
   generalize Z5F m σ=σ at R
   refine fun J H1 s1 ok=>⟨fun i m ys H'=>m=ts.length-i/\i<=ts.length/\Jl H1 H'/\ys.length<=i/\∃ as rest,ZX K (less H' O) ys as/\N0 gd ft fe d (ts.drop i)=some rest/\as++rest=us,⟨ts.length,rfl,Jh _,Jl.refl _,Z7 _,[],us,.nil,e,rfl⟩,?_⟩
   rintro i m ys H' ⟨rfl,hi,s',hy,as,rest,b,er,eu⟩
   refine⟨ZF hy (ZF hi (ZF hz (by decide))),?_⟩
   have R':Rep K H' O σ d:=R.mono (s1.trans s')
   by_cases hlt:i<ts.length
   ·rw[Yr hlt] at er
    unfold N0 at er
    cases hg:gd ts[i] with
    |none=>rw[hg] at er;cases er
    |some p =>
     rw[hg] at er
     change ((ft (p++d)).bind _)=_ at er
     refine .inr ⟨ok.go i H' s' hlt,fun x Hx hyl=>?_⟩
     refine W_ fun n9=>?_;obtain⟨sx,T,hT,bx⟩:=ok.yld i H' x Hx hlt s' (fun p hp=>R'.notOwn hp) hyl;apply n9;clear n9
     rw[Zd hlt] at hT
     cases hT
     refine G.run Hx O x _ p σ _ bx hg fun pre hpl hpd hb=>?_
     obtain⟨RS,hle⟩:=(R'.mono sx).shift pre p (by lia) hb
     refine⟨⟨by rw[Zj,hpl],by rw[<- hpl,Z3r]⟩,?_⟩
     cases hft:ft (p++d) with
     |none=>rw[hft] at er;cases er
     |some c =>
      rw[hft] at er
      refine⟨_,_,c,RS,hft,fun H3 s3=>?_⟩
      cases c with
      |false =>
       rw[if_neg Jy] at *
       refine⟨ts.length-(i+1),by lia,rfl,hlt,(s'.trans sx).trans s3,Nat.le_succ_of_le hy,as,rest,b.mono (JU (sx.trans s3)),er,eu⟩
      |true =>
       rw[if_pos rfl] at *
       cases hfe:fe (p++d) with
       |none=>rw[show (some true).bind (fun c=>if c=true then (fe (p++d)).bind fun y=>(N0 gd ft fe d (ts.drop (i+1))).bind fun ys=>some (y::ys) else N0 gd ft fe d (ts.drop (i+1)))=(fe (p++d)).bind fun y=>(N0 gd ft fe d (ts.drop (i+1))).bind fun ys=>some (y::ys) from rfl,hfe] at er;cases er
       |some y =>
        rw[show (some true).bind (fun c=>if c=true then (fe (p++d)).bind fun y=>(N0 gd ft fe d (ts.drop (i+1))).bind fun ys=>some (y::ys) else N0 gd ft fe d (ts.drop (i+1)))=(fe (p++d)).bind fun y=>(N0 gd ft fe d (ts.drop (i+1))).bind fun ys=>some (y::ys) from rfl,hfe] at er
        cases hr:N0 gd ft fe d (ts.drop (i+1)) with
        |none=>rw[hr] at er;cases er
        |some rs =>
         rw[hr] at er
         cases er
         refine⟨_,_,y,RS.mono s3,hfe,fun v H4 s4 b4=>⟨ts.length-(i+1),by lia,rfl,hlt,((s'.trans sx).trans s3).trans s4,by rw[Zj];simp;omega,as++[y],rs,?_,hr,by rw[Zi];exact eu⟩⟩
         have b4':JG K (less H4 O) v y:=by
          have:less H4 ⟨O.own.map fun p=>(pre.length+p.1,p.2),O.far⟩=less H4 O:=((R'.mono ((sx.trans s3).trans s4)).shift pre p (by lia) fun i D e=>let ⟨T,v,h0,h1,h2⟩:=hb i D e;⟨T,v,h0,h1,h2.mono (JU (s3.trans s4))⟩).2
          rw[<- this];exact b4
         exact (b.mono (JU ((sx.trans s3).trans s4))).append (.cons b4' .nil)
   ·have e1:i=ts.length:=by lia
    subst e1
    rw[Z00] at er
    cases er
    rw[UZ] at eu
    subst eu
    refine .inl ⟨ok.stop H' s',fun D hD=>q _ _ ((s1.trans s').trans (Jl.upd hD)) ?_⟩
    exact⟨D,ys,rfl,(s1.trans s').free hD,JL,b.mono (Qw (Jl.upd hD) hD)⟩
  ·cases e
theorem DQ(G:ZcB K k g gd):∀ σ H Q,ZbN K (Um gd fi ft fe) σ H Q->Zdz k (Z92 K fi) g (liftT K ft) (Bp K fe) σ H Q:=Z0r (m:=[]) G
end
section
variable {X:Cx}
theorem PIf.imp(h:PIf X ifs t)(i:∀ σ H Q,t' σ H Q->t σ H Q):PIf X ifs t':=fun pins s σ H Q I q=>h pins s σ H Q I (i σ H Q q)
def Zdn (X:Cx)(ifs:Le_)(f:FB):Prop:=PIf X ifs (liftT X.K f)
theorem Zbh:Zdn X [] GZ:=PIf.imp Ze0 fun σ H Q z1_=>by obtain ⟨O,d,b,R,e,q⟩:=z1_;cases e;exact q H (Jl.refl H)
theorem Zbg(h:PDT X c f):Zdn X [c] f:=ZdZ h
theorem Zb2(hc:X.calm=true)(S:Yt X [x] scope)(hN:([x]++X.N).Nodup)(hx:scope.names.lookup x=some .local)(hi:PDI X (.Name x px) iter fi)
  (ht:∀ cl aC H1 C fp,Zdn (cxC X [x] scope cl aC H1 C fp) ifs ft) (he:∀ cl aC H1 C fp,PD (cxC X [x] scope cl aC H1 C fp) elt fe) (hs:∀ x,foldedSetIterable iter X.env x=pure x) :
  PF X (.ListComp elt [⟨.Name x px,iter,ifs,0⟩] scope pos) (Um g1 fi ft fe) :=
 PE.imp (Z8o (tt:=liftT X.K ft) (te:=Bp X.K fe) hc S (PI.imp hi Zhc) (fun cl aC H1 C fp=>MT (i:=0) hN rfl (Z0E (Jk hx)) (.inr (Jk hx))) ht he hs) (DQ Z9F)
theorem Z6A(hN0:X.N.Nodup)(hi':X.N[i]?=some y)(hy:Loc X.env.scope y)(hc:X.calm=true)(S:Yt X [x] scope)(hN:([x]++X.N).Nodup)(hx:scope.names.lookup x=some .local)(hi:PDI X (.Name x px) iter fi)
  (ht:∀ cl aC H1 C fp,Zdn (cxC X [x] scope cl aC H1 C fp) ifs ft) (he:∀ cl aC H1 C fp,PD (cxC X [x] scope cl aC H1 C fp) elt fe)
  (hsw:swapsWith (.ListComp elt [⟨.Name x px,iter,ifs,0⟩] scope pos) (some (.Name y py)) spos.line X.env=pure true)
  (hf':X.fn y=true\/X.env.scope.names.lookup y=some .local)
  (hs:∀ x,foldedSetIterable iter X.env x=pure x) :
  PDS X (.Assign [.Name y py] (.ListComp elt [⟨.Name x px,iter,ifs,0⟩] scope pos) spos) (Yy i (GA (Um g1 fi ft fe))) :=
 PS.imp (Z8e (tt:=liftT X.K ft) (te:=Bp X.K fe) hN0 hi' hy hc S (PI.imp hi Zhc) (fun cl aC H1 C fp=>MT (i:=0) hN rfl (Z0E (Jk hx)) (.inr (Jk hx))) ht he hsw hf' hs) fun D σ H h=>by
  refine W_ fun n9=>?_;obtain⟨O,d,o,R,e,q⟩:=h;apply n9;clear n9
  unfold Yy GA at e
  cases hf:Um g1 fi ft fe d with
  |none=>rw[hf] at e;cases e
  |some ts =>
   rw[hf] at e
   cases e
   refine DQ Z9F σ H _ ⟨O,d,ts,R,hf,fun v H' s b=>?_⟩
   refine W_ fun n9=>?_;obtain⟨a,xs,rfl,e2,e3,b⟩:=b;apply n9;clear n9
   exact q _ H' O rfl (YM s) ((R.mono s).set i (.lst (SqL.of (UP e3 (R.notOwn e2))) (b.mono Mb)))
end
def spF (K:Fg_)(φ:Lt_->Option Th):Sp:=fun vs H Q _=>∃ (Z:Addr->Prop) (Ts:Lt_) (T:Th),(∀ b,Z b->∃ o,H b=some o/\Bw o)/\ZX K (less H ⟨[],Z⟩) vs Ts/\φ Ts=some T/\∀ v H',Jl H H'->JG K (less H' ⟨[],Z⟩) v T->Q v H'
structure Callee (P:Program)(w:World)(K:Fg_)(mg:Str->Option Value)(base:Heap)(k:Nat)(x:Str)(φ:Lt_->Option Th):Prop where
 ex:∃ (f:Addr) (fd:Jc) (ps:Ls_),Me P w K mg base CX0 k f fd ps (spF K φ)/\mg x=some (.ref f)/\ZK K (.ref f)=true/\Binds K fd ps []
theorem WE:less H ⟨[],O.has⟩=less H O:=by
 have hh:∀ b,Hid.has ⟨[],O.has⟩ b↔O.has b:=fun b=>⟨fun z=>z.elim (fun q=>by simp at q) id,fun z=>.inr z⟩
 funext b
 unfold less
 by_cases z:O.has b
 ·rw[if_pos z,if_pos ((hh b).mpr z)]
 ·rw[if_neg z,if_neg (fun q=>z ((hh b).mp q))]
theorem ZbL:low H ⟨[],Z⟩=H:=by funext b;simp[low]
theorem less_none:less H ⟨[],fun _=>False⟩=H:=by funext b;simp[less,Hid.has]
section
variable {X:Cx}{x:Str}{p pos:Pos}{e:Expr}{es:Le_}{g:FL}{φ:Lt_->Option Th}{k:Nat}
noncomputable def J8 (φ:Lt_->Option Th)(g:FL):FD:=fun d=>(g d).bind φ
theorem Zem (c:Callee X.prog X.w X.K X.mg X.base k x φ) (hr:Nm k X.A) (hg:Gl X x) (ha:PDA X (e::es) g) (hdb:(x == ("__debug__":Str))=false) (he:starEach (e::es) X.env=(false,eval e X.env)::starEach es X.env) (hpl:(backTo pos (starEach es X.env)).any (·.1)=false) :
  PD X (.Call (.Name x p) (e::es) [] pos) (J8 φ g):=by
 refine W_ fun n9=>?_;obtain⟨f,fd,ps,F,hm,hk,hb⟩:=c.ex;apply n9;clear n9
 refine PE.imp (Ze3 F hr hg hm hk hb .nil Zen ha hdb he hpl) fun σ H Q z1_=>?_
 refine W_ fun n9=>?_;obtain ⟨O,d,T,R,e,q⟩:=z1_;apply n9;clear n9
 unfold J8 at e
 cases hgd:g d with
 |none=>rw[hgd] at e;cases e
 |some Ts =>
  rw[hgd] at e
  refine⟨O,d,Ts,R,hgd,fun vs H1 s1 b=>?_⟩
  show spF X.K φ (vs++[]) H1 Q E0
  rw[UZ]
  refine⟨O.has,Ts,T,fun a ha=>(R.mono s1).there a ha,by rw[WE];exact b,e,fun v H' s' b'=>q v H' (s1.trans s') ?_⟩
  rw[WE] at b'
  exact b'
end
noncomputable def Z21 (N:Ls_)(Ts:Lt_):Sd:=Ts.map (fun T=>some (.th T))++Zm (N.length-Ts.length) none
theorem Z7X {K:Fg_}{H:Hp}{O:Hid}{N:Ls_}{vs:Lv_}{Ts:Lt_}(b:ZX K (less H O) vs Ts)(ho:O.own=[])(hz:∀ a,O.far a->∃ o,H a=some o/\Bw o):Rep K H O (start N vs) (Z21 N Ts) where
 len:=by unfold start Z21;rw[Zj,Zj,Z5,Z5,Y8,Y8,b.length]
 at':=fun i D e=>by
  unfold Z21 at e
  by_cases hi:i<Ts.length
  ·rw[JI (by simpa using hi),Jw] at e
   cases hT:Ts[i]? with
   |none=>rw[hT] at e;cases e
   |some U =>
    rw[hT] at e
    cases e
    obtain⟨v,h1,h2⟩:=b.get hT
    refine⟨v,?_,h2⟩
    unfold start
    rw[JI (by rw[Z5,b.length];exact hi),Jw,h1]
    rfl
  ·rw[Jp (by simpa using hi),Ui] at e
   split at e <;> cases e
 there:=fun a h=>h.elim (fun q=>by rw[ho] at q;simp at q) (hz a)
 inj:=fun i j a h=>by rw[ho] at h;simp at h
section
variable {P:Program}{w:World}{K:Fg_}{mg:Str->Option Value}{base:Heap}
theorem Fun.okD {x qual:Str}{st:Stmt}{f:Addr}{fd:Jc}{N ps:Ls_}{k:Nat}{φ:Lt_->Option Th}{body:FS}(F:Fun K x qual st f fd)(S:Yf N ps (ZB st))
  (hb:∀ (cdv:Value) (A:Around) (outer:List Env) (s:Shared) (H:Hp) (E:XK),Nm k (A.deeper (envOfC qual (ZB st) s.heap.objs.size f cdv))->Zai (Zdg CX0 P w K mg base N qual (ZB st) f cdv A outer s H E).nox (Y3 st) body)
  (aN:∀ Ts T,φ Ts=some T->Ts.length=ps.length/\body (Z21 N Ts)=some (.rt T)):Me P w K mg base CX0 (k+1) f fd ps (spF K φ):=by
 refine F.ok S (fun vs H Q E z1_=>by obtain ⟨Z,Ts,T,_,b,e,_⟩:=z1_;rw[b.length];exact (aN Ts T e).1) fun cdv A outer s H vs Q E hr z1_=>?_
 refine W_ fun n9=>?_;obtain ⟨Z,Ts,T,hz,b,e,q⟩:=z1_;apply n9;clear n9
 refine⟨_,hb cdv A outer s H E hr,⟨[],Z⟩,Z21 N Ts,.rt T,Z7X b rfl hz,(aN Ts T e).2,fun v H' s' b'=>q v H' ?_ b'⟩
 rw[ZbL] at s'
 exact s'
theorem Fun.callee {x qual:Str}{st:Stmt}{f:Addr}{fd:Jc}{ps:Ls_}{k:Nat}{φ:Lt_->Option Th}(F:Fun K x qual st f fd)(G:Me P w K mg base CX0 k f fd ps (spF K φ))(hm:mg x=some (.ref f))(hb:Binds K fd ps []):Callee P w K mg base k x φ:=⟨f,fd,ps,G,hm,F.kp,hb⟩
end
noncomputable def Q5 (n:Nat):Bool:=decide (n<=1000000)
theorem Q4(h:Q5 n=true):n<=sizeLine:=ZF (of_decide_eq_true h) (by decide)
section
variable {X:Cx}{K:Fg_}{a b c e:Expr}{fa fb fc f:FD}{pos:Pos}
def ZcL (K:Fg_):R2:=fun x y H Q=>∃ a b ys,x=.ref a/\y=.ref b/\SqT K H a []/\SqT K H b ys/\Q (.ref b) H
theorem Zbq:OpR X (binaryOp .Add) (ZcL X.K):=by
 intro pins s σ H x y v u Q I rx ry h
 refine W_ fun n9=>?_;obtain⟨a,b,ys,rfl,rfl,ha,hb,q⟩:=h;apply n9;clear n9
 cases rx
 cases ry
 refine W_ fun n9=>?_;obtain⟨its,r1,p1,_⟩:=I.tuple ha
 obtain⟨its2,r2,p2,_⟩:=I.tuple hb;apply n9;clear n9
 cases r1
 refine W_ fun n9=>?_;obtain⟨⟨cls,dd,data,sl⟩,ho,hc,n,hd⟩:=id p1
 obtain⟨⟨cls2,dd2,data2,sl2⟩,ho2,hc2,n2,hd2⟩:=id p2;apply n9;clear n9
 simp only at hc hd hc2 hd2
 subst hc hd hc2 hd2
 exact Z2Y ⟨_,ho,rfl⟩ ⟨_,ho2,rfl⟩ Z3w Zac W4 QU (Ql _ _)
   (tuple_addW0 a b _ its2.toArray n n2 dd dd2 sl sl2 (by simp)) ⟨ho,ho2,⟨.ref b,H,I,rfl,q⟩⟩
noncomputable def ZgQ:Th->Th->Option Th
 |.int i,.int j=>some (.int (i+j))
 |.str x,.str y=>if Q5 (x.length+y.length)=true then some (.str (x++y)) else none
 |.tup xs,.tup ys=>if Q5 (xs.length+ys.length)=true then some (.tup (xs++ys)) else none
 |_,_=>none
def ZdK (K:Fg_):R2:=fun x y H Q=>rI0 (fun i j=>.int (i+j)) x y H Q\/(∃ i j,x=.str i/\y=.str j/\i.length+j.length<=sizeLine/\Q (.str (i++j)) H)\/Zg1 K x y H Q\/ZcL K x y H Q
theorem ZeA:OpR X (binaryOp .Add) (ZdK X.K):=ZgH.or (Z6H.or (Zey.or Zbq))
theorem ZeC:OpD K (ZdK K) ZgQ:=fun H O v u x y z Q hn hx hy e q=>by
 unfold ZgQ at e
 split at e
 ·cases e
  exact .inl ⟨_,_,hx.int,hy.int,q _ H (Jl.refl H) (.int _)⟩
 ·split at e
  ·cases e
   exact .inr (.inl ⟨_,_,hx.str,hy.str,Q4 ‹_›,q _ H (Jl.refl H) (.str _)⟩)
  ·cases e
 ·split at e
  ·rename_i hz
   cases e
   obtain⟨a,xs,rfl,h1,b1⟩:=hx.tup
   obtain⟨b,ys,rfl,h2,b2⟩:=hy.tup
   have z:=Q4 hz
   rw[<- b1.length,<- b2.length] at z
   by_cases hxs:xs=[]
   ·subst hxs
    cases b1
    exact .inr (.inr (.inr ⟨a,b,ys,rfl,rfl,(Jt H O).seqT h1,(Jt H O).seqT h2,q _ H (Jl.refl H) (.tup h2 b2)⟩))
   ·refine .inr (.inr (.inl ⟨a,b,xs,ys,rfl,rfl,(Jt H O).seqT h1,(Jt H O).seqT h2,hxs,z,fun hys=>?_,fun hys p hp=>?_⟩))
    ·subst hys
     cases b2
     rw[UZ] at q
     exact q _ H (Jl.refl H) (.tup h1 b1)
    ·exact q _ _ (Jl.upd hp) (.tup (SqT.of (UP JL (hn p hp))) ((b1.append b2).mono (JU (Jl.upd hp))))
  ·cases e
 ·cases e
noncomputable def Zfm:Th->Th->Option Th
 |.int i,.int j=>some (.int (i-j))
 |_,_=>none
theorem Zgr (ha:PB X a fa)(hb:PB X b fb):PD X (.BinOp a .Sub b pos) (f2 Zfm fa fb):=Z8v ZgC (fun H O v u x y z Q _ hx hy e q=>by
 unfold Zfm at e
 split at e
 ·cases e
  exact⟨_,_,hx.int,hy.int,q _ H (Jl.refl H) (.int _)⟩
 ·cases e) ha hb
noncomputable def BO:Th->Th->Option Th
 |.int i,.int j=>if decide (0<j/\j<1073741824)=true then some (.int (i / j)) else none
 |_,_=>none
noncomputable def Qk:Th->Th->Option Th
 |.int i,.int j=>if decide (0<j)=true then some (.int (i%j)) else none
 |_,_=>none
theorem Zel (ha:PB X a fa)(hb:PB X b fb):PD X (.BinOp a .FloorDiv b pos) (f2 BO fa fb):=Z8v Zex (fun H O v u x y z Q _ hx hy e q=>by
 unfold BO at e
 split at e
 ·split at e
  ·rename_i hc
   have hc:=of_decide_eq_true hc
   cases e
   exact⟨_,_,hx.int,hy.int,hc,q _ H (Jl.refl H) (.int _)⟩
  ·cases e
 ·cases e) ha hb
theorem Zgt (ha:PB X a fa)(hb:PB X b fb):PD X (.BinOp a .Mod b pos) (f2 Qk fa fb):=Z8v ZgF (fun H O v u x y z Q _ hx hy e q=>by
 unfold Qk at e
 split at e
 ·split at e
  ·rename_i hc
   have hc:=of_decide_eq_true hc
   cases e
   exact⟨_,_,hx.int,hy.int,hc,q _ H (Jl.refl H) (.int _)⟩
  ·cases e
 ·cases e) ha hb
noncomputable def ZiV (fa:FD):FD:=fun d=>(fa d).bind fun x=>match x with|.int i=>some (.int (-i))|_=>none
theorem Zgs (ha:PD X a fa):PD X (.UnaryOp .USub a pos) (ZiV fa):=PE.imp (Zio ZfB ha) fun σ H Q z_=>by
 refine W_ fun n9=>?_;obtain⟨O,d,T,R,e,q⟩:=z_;apply n9;clear n9
 unfold ZiV at e
 cases hf:fa d with
 |none=>rw[hf] at e;cases e
 |some x =>
  rw[hf] at e
  cases x with
  |int i=>cases e;exact⟨O,d,.int i,R,hf,fun v H' s b=>by cases b;exact⟨i,rfl,q _ H' s (.int _)⟩⟩
  |_=>cases e
def ZfZ:R2:=fun x y H Q=>∃ z j,x=.str z/\y=.int j/\MulOk z j/\Q (.str (MA z j)) H
theorem Zev:OpR X (binaryOp .Mult) ZfZ:=by
 intro pins s σ H x y v u Q I rx ry h
 refine W_ fun n9=>?_;obtain⟨z,j,rfl,rfl,hok,q⟩:=h
 obtain⟨t,rfl⟩:=rx
 obtain⟨t',rfl⟩:=ry;apply n9;clear n9
 exact SB.mul hok fun t' k=>⟨.str _,H,I.tok _,⟨_,rfl⟩,q⟩
theorem mulOk_of(h0:0<=j)(h1:j<=1000000)(h:x.length*j.toNat<=1000000):MulOk x j:=by
 refine⟨?_,fun h2 h3=>?_,fun h2 h3=>?_⟩
 ·rw[decide_eq_false (by lia),decide_eq_false (by lia)];rfl
 ·have h4:(x.length:Int)*j<=1000000:=by
   have:((x.length*j.toNat:Nat):Int)<=1000000:=by lia
   rw[Z1R,Fh h0] at this
   exact this
  have h5:(x.length:Int)<=(2 ^ 63-1) / j:=by
   rw[Int.le_ediv_iff_mul_le (by omega)]
   lia
  lia
 ·have:¬ x.length*j.toNat > 2 ^ 24:=by lia
  simpa [Builtin.Str.tooLong,sizeLine] using this
noncomputable def ZgP:Th->Th->Option Th
 |.int i,.int j=>if decide ((-(2 ^ 64)<i/\i<2 ^ 64)\/(-(2 ^ 64)<j/\j<2 ^ 64))=true then some (.int (i*j)) else none
 |.str x,.int j=>if decide (0<=j/\j<=1000000/\x.length*j.toNat<=1000000)=true then some (.str (MA x j)) else none
 |_,_=>none
def ZdI:R2:=fun x y H Q=>rI Zi3 (fun i j=>.int (i*j)) x y H Q\/ZfZ x y H Q
theorem Zew:OpR X (binaryOp .Mult) ZdI:=ZgE.or Zev
theorem ZeB:OpD K ZdI ZgP:=fun H O v u x y z Q _ hx hy e q=>by
 unfold ZgP at e
 split at e
 ·split at e
  ·rename_i hc
   have hc:=of_decide_eq_true hc
   cases e
   exact .inl ⟨_,_,hx.int,hy.int,hc,q _ H (Jl.refl H) (.int _)⟩
  ·cases e
 ·split at e
  ·rename_i hc
   obtain⟨h0,h1,h2⟩:=of_decide_eq_true hc
   cases e
   exact .inr ⟨_,_,hx.str,hy.int,mulOk_of h0 h1 h2,q _ H (Jl.refl H) (.str _)⟩
  ·cases e
 ·cases e
def Zaa (K:Fg_)(r:Lv_->Hp->VK->Prop)(g:Lt_->Option Th):Prop:=∀ (H:Hp) (O:Hid) (vs:Lv_) (ts:Lt_) (z:Th) (Q:VK),(∀ p,H p=none->¬ O.has p)->Paired (BA K H O) vs ts->g ts=some z->(∀ v' H',Jl H H'->JG K (less H' O) v' z->Q v' H')->r vs H Q
noncomputable def fCB (g:Lt_->Option Th)(fs:FL):FD:=fun d=>(fs d).bind g
theorem Z9J(hr:Zaa K r g):∀ σ H Q,Bp K (fCB g fs) σ H Q->tCB r (Z5z K fs) σ H Q:=fun σ H Q z_=>by
 refine W_ fun n9=>?_;obtain⟨O,d,T,R,e,q⟩:=z_;apply n9;clear n9
 unfold fCB at e
 cases hf:fs d with
 |none=>rw[hf] at e;cases e
 |some ts =>
  rw[hf] at e
  exact⟨O,d,ts,R,hf,fun vs H1 s1 b1=>hr H1 O vs ts T Q (fun p hp=>(R.mono s1).notOwn hp) b1 e fun v H' s b=>q v H' (s1.trans s) b⟩
theorem Z8z {id:String}{x:Str}{p:Pos}{es:Le_}{fs:FL}{r:Lv_->Hp->VK->Prop}{g:Lt_->Option Th}(hc:QL X (.builtin id) r)(hr:Zaa X.K r g)(hg:Gl X x)(hm:X.mg x=none)(hv:bootBuiltins x=some (.builtin id))(ha:PBA X (e::es) fs)
  (hn:autoParam (x≠"__name__") qa._auto_1) (hdb:autoParam ((x == ("__debug__":Str))=false) qa._auto_1) (he:autoParam (starEach (e::es) X.env=(false,eval e X.env)::starEach es X.env) q_._auto_1) (hpl:autoParam ((backTo pos (starEach es X.env)).any (·.1)=false) q_._auto_1) :
  PD X (.Call (.Name x p) (e::es) [] pos) (fCB g fs):=PE.imp (WB hc hg hm hv ha hn hdb he hpl) (Z9J hr)
noncomputable def NE:Lt_->Option Th
 |[.str x]=>if Q5 x.length=true then some (.int x.length) else none
 |[.lst ts]=>some (.int ts.length)
 |[.tup ts]=>some (.int ts.length)
 |_=>none
def Zg0 (K:Fg_):Lv_->Hp->VK->Prop:=fun xs H Q=>(∃ p ys,xs=[.ref p]/\(SqL K H p ys\/SqT K H p ys)/\Q (.int ys.length) H)\/∃ z,xs=[.str z]/\z.length<=sizeLine/\Q (.int z.length) H
theorem Z9M:QL X (.builtin "len") (Zg0 X.K):=Z36.or Z35
theorem NZ {α β:Type}{F:α->β->Prop}{xs:List α}{y:β}(h:Paired F xs [y]):∃ x,xs=[x]/\F x y:=by
 cases h with|cons h r=>cases r;exact⟨_,rfl,h⟩
theorem Zeo {α β:Type}{F:α->β->Prop}{xs:List α}{y z:β}(h:Paired F xs [y,z]):∃ x w,xs=[x,w]/\F x y/\F w z:=by
 cases h with|cons h r=>cases r with|cons h2 r2=>cases r2;exact⟨_,_,rfl,h,h2⟩
theorem Z9N:Zaa K (Zg0 K) NE:=fun H O vs ts z Q hn h e q=>by
 unfold NE at e
 split at e
 ·obtain⟨v,rfl,h1⟩:=NZ h
  split at e
  ·cases e
   exact .inr ⟨_,by rw[h1.str],Q4 ‹_›,q _ H (Jl.refl H) (.int _)⟩
  ·cases e
 ·obtain⟨v,rfl,h1⟩:=NZ h
  cases e
  obtain⟨a,xs,rfl,h2,b⟩:=h1.lst
  refine .inl ⟨a,xs,rfl,.inl h2,q _ H (Jl.refl H) ?_⟩
  rw[b.length];exact .int _
 ·obtain⟨v,rfl,h1⟩:=NZ h
  cases e
  obtain⟨a,xs,rfl,h2,b⟩:=h1.tup
  refine .inl ⟨a,xs,rfl,.inr ((Jt H O).seqT h2),q _ H (Jl.refl H) ?_⟩
  rw[b.length];exact .int _
 ·cases e
theorem Zgw {p:Pos} {es:Le_} {fs:FL} (hg:Gl X "len") (hm:X.mg "len"=none) (ha:PBA X (e::es) fs) (he:starEach (e::es) X.env=(false,eval e X.env)::starEach es X.env) (hpl:(backTo pos (starEach es X.env)).any (·.1)=false):PD X (.Call (.Name "len" p) (e::es) [] pos) (fCB NE fs) :=
 Z8z Z9M Z9N hg hm PySem.boot_len ha (by decide) (by decide) he hpl
end
end L2
namespace HT
open PySem PyProof.Rows
inductive KeyV:Value->L2.Key->Prop where
 |int (i:Int) (t:Tok):KeyV (.int i t) (.inl i)
 |str (x:Str) (t:Tok):KeyV (.str x t) (.inr x)
abbrev KeysAre:=Paired KeyV
noncomputable def lexK:List L2.Key->List L2.Key->Option Bool
 |[],[]=>some false
 |[],_::_=>some true
 |_::_,[]=>some false
 |.inl a::xs,.inl b::ys=>if a=b then lexK xs ys else some (decide (a<b))
 |.inr a::xs,.inr b::ys=>if a=b then lexK xs ys else some (decide (a.cps.toList<b.cps.toList))
 |_::_,_::_=>none
noncomputable def lexG (g:Bool)(a b:List L2.Key):Option Bool:=cond g (lexK b a) (lexK a b)
def OpG (op:CmpOp)(g:Bool):Prop:=op=.Lt/\g=false\/op=.Gt/\g=true
noncomputable abbrev ZfE {F:String->CmpOp->Builtin} (_:F "__lt__" .Lt=Builtin.«tuple.__lt__»):String->CmpOp->Builtin:=F
noncomputable def Zjd:String->CmpOp->Builtin:=ZfE rfl
section
variable {op:CmpOp}{g:Bool}{A:Around}{s:Shared}{prog:Program}{w:World}{E:Ps_}{Q:Ps_}{t u:Tok}{xs ys:List L2.Key}{z:Bool}
theorem ZfS {a c:Int}(o:OpG op g)(h:Q (.bool (cond g (decide (c<a)) (decide (a<c)))) s):wpAny (model prog w) A (richCompare op (.int a t) (.int c u)) Q E s:=by
 rcases o with ⟨rfl,rfl⟩|⟨rfl,rfl⟩
 ·exact (Z1B h:wpAny (model prog w) A (compareOp .Lt (.int a t) (.int c u)) Q E s)
 ·exact (PyProof.Rows.gt_int h:wpAny (model prog w) A (compareOp .Gt (.int a t) (.int c u)) Q E s)
theorem rc_str {a c:Str}(o:OpG op g)(h:Q (.bool (cond g (decide (c.cps.toList<a.cps.toList)) (decide (a.cps.toList<c.cps.toList)))) s):wpAny (model prog w) A (richCompare op (.str a t) (.str c u)) Q E s:=by
 rcases o with ⟨rfl,rfl⟩|⟨rfl,rfl⟩
 ·exact (Z1A h:wpAny (model prog w) A (compareOp .Lt (.str a t) (.str c u)) Q E s)
 ·exact (PySem.P.gt_str h:wpAny (model prog w) A (compareOp .Gt (.str a t) (.str c u)) Q E s)
theorem Z2w(h:lexG g (k::xs) (k::ys)=some z):lexG g xs ys=some z:=by
 cases g <;> cases k <;> simpa [lexG,lexK] using h
theorem ZbP(n:a≠c)(h:lexG g (.inl a::xs) (.inl c::ys)=some z):z=cond g (decide (c<a)) (decide (a<c)):=by
 cases g
 ·have h:lexK (.inl a::xs) (.inl c::ys)=some z:=h
  unfold lexK at h
  rw[if_neg n] at h
  cases h
  rfl
 ·have h:lexK (.inl c::ys) (.inl a::xs)=some z:=h
  unfold lexK at h
  rw[if_neg n.symm] at h
  cases h
  rfl
theorem ZbO(n:a≠c)(h:lexG g (.inr a::xs) (.inr c::ys)=some z):z=cond g (decide (c.cps.toList<a.cps.toList)) (decide (a.cps.toList<c.cps.toList)):=by
 cases g
 ·have h:lexK (.inr a::xs) (.inr c::ys)=some z:=h
  unfold lexK at h
  rw[if_neg n] at h
  cases h
  rfl
 ·have h:lexK (.inr c::ys) (.inr a::xs)=some z:=h
  unfold lexK at h
  rw[if_neg n.symm] at h
  cases h
  rfl
theorem ZbQ(e:xs=[]\/ys=[])(hl:xs.length+n=ys.length+m)(h:lexG g xs ys=some z):z=cond g (decide (n<m)) (decide (m<n)):=by
 cases xs with
 |nil=>cases ys with
  |nil =>
   simp only[NI] at hl
   cases g <;> (cases h;exact (decide_eq_false (by lia)).symm)
  |cons k ys =>
   simp only[NI,Zf] at hl
   cases g <;> cases k <;> cases h
   all_goals first|exact (decide_eq_true (by lia)).symm|exact (decide_eq_false (by lia)).symm
 |cons k xs=>cases ys with
  |nil =>
   simp only[NI,Zf] at hl
   cases g <;> cases k <;> cases h
   all_goals first|exact (decide_eq_true (by lia)).symm|exact (decide_eq_false (by lia)).symm
  |cons k2 ys=>rcases e with e|e <;> cases e
theorem kCx {k1 k2:L2.Key}{y x:Value}(o:OpG op g)(h1:KeyV y k1)(h2:KeyV x k2)(h:lexG g (k1::xs) (k2::ys)=some z):∃ e,SeqAt.EqAt A s y x e/\(e=true->lexG g xs ys=some z)/\(e=false->∀ Q E:Ps_,Q (.bool z) s->wpAny (model prog w) A (richCompare op y x) Q E s):=by
 cases h1 with
 |int a t=>cases h2 with
  |int c u=>exact⟨a == c,SeqAt.EqAt.int_int a t c u,fun e=>by cases eq_of_beq e;exact Z2w h,fun e Q E q=>ZfS o (by rw[ZbP (fun q=>by rw[q] at e;simp at e) h] at q;exact q)⟩
  |str c u=>cases g <;> cases h
 |str a t=>cases h2 with
  |int c u=>cases g <;> cases h
  |str c u=>exact⟨a == c,SeqAt.EqAt.str_str a t c u,fun e=>by cases eq_of_beq e;exact Z2w h,fun e Q E q=>rc_str o (by rw[ZbO (fun q=>by rw[q] at e;simp at e) h] at q;exact q)⟩
end
section
open PySem.SeqAt
open PySem.AutoSeq1 (wpAny_loadPart')
open PySem.MeetsSeq PySem.MeetsSeq2 PySem.MeetsSeq3
theorem WR(o:OpG op g')(l b:Addr)(items items2:Au_)(n n2:Nat)(dd dd2:Option Addr)(sl sl2:Array (Option Value))(ns ms:List L2.Key)(z:Bool)(hi:KeysAre items.toList ns)(hj:KeysAre items2.toList ms)(hz:lexG g' ns ms=some z) :
  Meets (Zjd nm op ⟨[.ref l,.ref b],[]⟩)
   (fun _ R s=>s.heap.get? l=some { cls:=.type "tuple",dict:=dd,data:=.seq items n,slots:=sl }/\s.heap.get? b=some { cls:=.type "tuple",dict:=dd2,data:=.seq items2 n2,slots:=sl2 } /\
    R (.ok (.ret (.bool z))) s) :=
 .of_wp fun prog w A R s h=>by
  obtain⟨hp,g,d,tk,os⟩:=s;obtain⟨hl,hb,h⟩:=h
  have f2:=Z0I
  have z1:items.size=ns.length:=by rw[<- hi.length];simp
  have z2:items2.size=ms.length:=by rw[<- hj.length];simp
  unfold Zjd ZfE
  wp_walk using Gc hl,Gc hb,Z3u _ (fun rest b s'=>b.1=none/\s'=⟨hp,g,d,tk,os⟩/\∃ (vs ws:Lu_) (ns' ms':List L2.Key),rest=vs.zip ws /\
   KeysAre vs ns'/\KeysAre ws ms'/\ns'.length+items2.size=ms'.length+items.size/\lexG g' ns' ms'=some z/\R (.ok (.ret (.bool z))) ⟨hp,g,d,tk,os⟩) _
  case turn =>
   rintro⟨y,x⟩ rest b s' ⟨hb',rfl,vs,ws,ns',ms',hz,hvi,hwi,hlen,hlx,hR⟩
   cases hvi with
   |nil=>rw[List.zip_nil_left] at hz;cases hz
   |cons k1 hvi' =>
    cases hwi with
    |nil=>rw[List.zip_nil_right] at hz;cases hz
    |cons k2 hwi' =>
     rw[NF] at hz
     injection hz with hyx hrest
     injection hyx with hy hx
     subst hy hx
     simp only[Zf] at hlen
     obtain⟨e,he,ht,hf⟩:=kCx (A:=A.in1) (s:=⟨hp,g,d,tk,os⟩) (prog:=prog) (w:=w) o k1 k2 hlx
     refine Z0 (he prog w _ _ ?_)
     cases e with
     |true =>
      wp_walk
      exact⟨rfl,rfl,_,_,_,_,hrest,hvi',hwi',by lia,ht rfl,hR⟩
     |false =>
      have hri:=hf rfl
      rcases id o with ⟨rfl,rfl⟩|⟨rfl,rfl⟩
      ·wp_walk using hri
       exact⟨_,rfl,hR⟩
      ·wp_walk using hri
       exact⟨_,rfl,hR⟩
  case fin =>
   rintro⟨b1,b2⟩ s' ⟨hb',rfl,vs,ws,ns',ms',hz,hvi,hwi,hlen,hlx,hR⟩
   simp only at hb'
   subst hb'
   have he:ns'=[]\/ms'=[]:=by
    cases hvi with
    |nil=>exact .inl rfl
    |cons k hv=>cases hwi with
     |nil=>exact .inr rfl
     |cons k2 hw=>cases hz
   rw[ZbQ he hlen hlx] at hR
   rcases id o with ⟨rfl,rfl⟩|⟨rfl,rfl⟩
   ·wp_walk
    exact⟨_,rfl,by simpa [WZ] using hR⟩
   ·wp_walk
    exact⟨_,rfl,by simpa [WZ] using hR⟩
  case h =>
   exact⟨rfl,rfl,items.toList,items2.toList,ns,ms,rfl,hi,hj,by lia,hz,h⟩
end
section
variable {prog:Program}{w:World}{A:Around}{E:Ps_}{s:Shared}{l b:Addr}{items items2:Au_}{ns ms:List L2.Key}{z:Bool}{Q:Ps_}
theorem cmp_tupKeys(o:OpG op g)(hl:IsTup s.heap l items)(hb:IsTup s.heap b items2)(hi:KeysAre items.toList ns)(hj:KeysAre items2.toList ms)(hz:lexG g ns ms=some z)
  (hu:A.units<cLine) (h:Q (.bool z) s):wpAny (model prog w) A (compareOp op (.ref l) (.ref b)) Q E s:=by
 refine W_ fun n9=>?_;obtain⟨⟨cls,dd,data,sl⟩,ho,hc,n,hd⟩:=id hl
 obtain⟨⟨cls2,dd2,data2,sl2⟩,ho2,hc2,n2,hd2⟩:=id hb;apply n9;clear n9
 simp only at hc hd hc2 hd2
 subst hc hd hc2 hd2
 have r:s.heap.get? l=_/\s.heap.get? b=_/\(Z3k z≠Z79/\Q (.bool z) s):=⟨ho,ho2,(fun x=>nomatch x),h⟩
 rcases id o with ⟨rfl,rfl⟩|⟨rfl,rfl⟩
 ·exact ZaI (op:=.Lt) ⟨_,ho,rfl⟩ ⟨_,ho2,rfl⟩ PySem.F.slot_tuple_lt PySem.F.entry_tuple_lt (PySem.F.args_tuple_lt_2 _ _) (WR (nm:="__lt__") o l b items items2 n n2 dd dd2 sl sl2 ns ms z hi hj hz) r hu
 ·exact ZaI (op:=.Gt) ⟨_,ho,rfl⟩ ⟨_,ho2,rfl⟩ PySem.F.slot_tuple_gt PySem.F.entry_tuple_gt (PySem.F.args_tuple_gt_2 _ _) (WR (nm:="__gt__") o l b items items2 n n2 dd dd2 sl sl2 ns ms z hi hj hz) r hu
theorem lt_tupKeys (hl:IsTup s.heap l items)(hb:IsTup s.heap b items2)(hi:KeysAre items.toList ns)(hj:KeysAre items2.toList ms)(hz:lexK ns ms=some z)
  (hu:A.units<cLine) (h:Q (.bool z) s):wpAny (model prog w) A (compareOp .Lt (.ref l) (.ref b)) Q E s:=cmp_tupKeys (g:=false) (.inl ⟨rfl,rfl⟩) hl hb hi hj hz hu h
end
end HT
namespace L2
open PySem PySem.Spec PyProof.Rows PySem.SeqAt
mutual
noncomputable def Yc:Th->Th->Bool
 |.non,.non=>true
 |.bl a,.bl b=>a == b
 |.int a,.int b=>a == b
 |.str a,.str b=>a == b
 |.bl a,.int b=>(if a then 1 else 0) == b
 |.int a,.bl b=>a == (if b then 1 else 0)
 |.tup xs,.tup ys=>Mt xs ys
 |.lst xs,.lst ys=>Mt xs ys
 |_,_=>false
noncomputable def Mt:Lt_->Lt_->Bool
 |[],[]=>true
 |x::xs,y::ys=>Yc x y&&Mt xs ys
 |_,_=>false
end
mutual
noncomputable def dp:Th->Nat
 |.tup ts=>dpL ts+1
 |.lst ts=>dpL ts+1
 |_=>0
noncomputable def dpL:Lt_->Nat
 |[]=>0
 |t::r=>max (dp t) (dpL r)
end
theorem Z2W:∀ {ts:Lt_} {t:Th} {i:Nat},ts[i]?=some t->dp t<=dpL ts
 |[],_,_,e=>by simp at e
 |x::r,t,0,e=>by simp at e;subst e;unfold dpL;lia
 |x::r,t,i+1,e=>by
  have:=Z2W (ts:=r) (t:=t) (i:=i) (by simpa using e)
  unfold dpL;lia
mutual
theorem Qf:∀ x:Th,Yc x x=true
 |.non=>by simp[Yc]
 |.bl a=>by simp[Yc]
 |.int a=>by simp[Yc]
 |.str a=>by simp[Yc]
 |.tup xs=>by simp only[Yc];exact Bs xs
 |.lst xs=>by simp only[Yc];exact Bs xs
theorem Bs:∀ xs:Lt_,Mt xs xs=true
 |[]=>by simp[Mt]
 |x::xs=>by simp only[Mt,Qf x,Bs xs,Bool.and_self]
end
noncomputable def eAt (xs ys:Lt_)(j:Nat):Bool:=match xs[j]?,ys[j]? with|some x,some y=>Yc x y|_,_=>true
theorem Cn:∀ xs ys:Lt_,((Ja (min xs.length ys.length)).all (eAt xs ys)&&xs.length == ys.length)=Mt xs ys
 |[],[]=>by simp[Mt]
 |[],_::_=>by simp[Mt]
 |_::_,[]=>by simp[Mt]
 |x::xs,y::ys=>by
  have ih:=Cn xs ys
  have e:min (x::xs).length (y::ys).length=min xs.length ys.length+1:=by simp only[Zf];simp
  rw[e,List.range_succ_eq_map,Uj,Dj]
  have e0:eAt (x::xs) (y::ys) 0=Yc x y:=by simp[eAt]
  have e1:(eAt (x::xs) (y::ys)∘Nat.succ)=eAt xs ys:=by funext j;simp[eAt]
  rw[e0,e1,Mt,<- ih]
  simp only[Zf,Bool.and_assoc]
  congr 2
  rw[MZ];simp
theorem Cm:∀ {xs ys:Lt_},Mt xs ys=true->xs.length=ys.length
 |[],[],_=>rfl
 |[],_::_,h=>by simp[Mt] at h
 |_::_,[],h=>by simp[Mt] at h
 |x::xs,y::ys,h=>by
  rw[Mt,ZP] at h
  simp[Cm h.2]
section
variable {X:Cx}{pins:Pn_}{σ:St}{H:Hp}{s:Shared}
theorem Inv.lt_ne (I:Inv X pins σ H s)(h:SqL X.K H a xs)(h':SqT X.K H a ys):False:=by
 obtain⟨its,r,⟨o,n,e,c,_,d⟩,_⟩:=I.list h
 obtain⟨its',r',⟨o',e',c',n',d'⟩,_⟩:=I.tuple h'
 rw[e] at e';cases e'
 rw[c] at c'
 simp at c'
theorem JG.det (I:Inv X pins σ H s):∀ (n:Nat) {v:V} {x y:Th},dp x<=n->JG X.K H v x->JG X.K H v y->x=y:=by
 intro n
 induction n with
 |zero =>
  intro v x y hn h h'
  cases h with
  |non=>cases h';rfl
  |bl b=>cases h';rfl
  |int b=>cases h';rfl
  |str b=>cases h';rfl
  |tup e h=>unfold dp at hn;exact absurd ‹_› (Ya _)
  |lst e h=>unfold dp at hn;exact absurd ‹_› (Ya _)
 |succ n ihn =>
  have key:∀ {vs:Lv_} {ts us:Lt_},dpL ts<=n->ZX X.K H vs ts->ZX X.K H vs us->ts=us:=by
   intro vs
   induction vs with
   |nil=>intro ts us _ h h';cases h;cases h';rfl
   |cons v vs ih =>
    intro ts us hd h h'
    cases h with
    |cons h r=>cases h' with
     |cons h' r' =>
      unfold dpL at hd
      rw[ihn (by lia) h h',ih (by lia) r r']
  intro v x y hn h h'
  cases h with
  |non=>cases h';rfl
  |bl b=>cases h';rfl
  |int b=>cases h';rfl
  |str b=>cases h';rfl
  |tup e h =>
   cases h' with
   |tup e2 h2 =>
    have q:=I.tuple_inj e e2
    subst q
    unfold dp at hn
    rw[key (by lia) h h2]
   |lst e2 h2=>exact (I.lt_ne e2 e).elim
  |lst e h =>
   cases h' with
   |lst e2 h2 =>
    have q:=I.list_inj e e2
    subst q
    unfold dp at hn
    rw[key (by lia) h h2]
   |tup e2 h2=>exact (I.lt_ne e e2).elim
theorem FE {its its2:Lu_}{xs ys:Lv_}{ts us:Lt_}{A:Around}(r:Uh xs its)(r2:Uh ys its2)(b:ZX X.K H xs ts)(b2:ZX X.K H ys us)
  (k:∀ (x y:Th) (v u:V) (a b:Value) (i:Nat),ts[i]?=some x->JG X.K H v x->JG X.K H u y->RelV v a->RelV u b->EqAt A s a b (Yc x y)) :
  ∀ j (h1:j<its.toArray.size) (h2:j<its2.toArray.size),EqAt A s its.toArray[j] its2.toArray[j] (eAt ts us j):=fun j h1 h2=>by
 have l1:=r.length
 have l2:=r2.length
 have l3:=b.length
 have l4:=b2.length
 simp only[Zr] at h1 h2
 obtain⟨a,ea,ra⟩:=r.get (i:=j) (x:=xs[j]'(by lia)) (Zd _)
 obtain⟨a2,ea2,ra2⟩:=r2.get (i:=j) (x:=ys[j]'(by lia)) (Zd _)
 obtain⟨t,et,bt⟩:=b.got (i:=j) (v:=xs[j]'(by lia)) (Zd _)
 obtain⟨t2,et2,bt2⟩:=b2.got (i:=j) (v:=ys[j]'(by lia)) (Zd _)
 have e1:its.toArray[j]=a:=by
  rw[Zd h1] at ea
  simpa using ea
 have e2:its2.toArray[j]=a2:=by
  rw[Zd h2] at ea2
  simpa using ea2
 have e3:eAt ts us j=Yc t t2:=by unfold eAt;rw[et,et2]
 rw[e1,e2,e3]
 exact k t t2 _ _ a a2 j et bt bt2 ra ra2
theorem GU (I:Inv X pins σ H s)(e:SqT X.K H a xs):∃ its:Lu_,Uh xs its/\s.heap.IsTuple a its.toArray:=let ⟨its,r,p,_⟩:=I.tuple e;⟨its,r,p⟩
theorem Gn (I:Inv X pins σ H s)(e:SqL X.K H a xs):∃ its:Lu_,Uh xs its/\s.heap.IsList a its.toArray:=let ⟨its,r,p,_⟩:=I.list e;⟨its,r,p.isList⟩
theorem Z5d (I:Inv X pins σ H s)(n:Nat)(ih:∀ (A:Around) (x y:Th) (v u:V) (a b:Value),dp x<n->A.units+n<cLine->JG X.K H v x->JG X.K H u y->RelV v a->RelV u b->EqAt A s a b (Yc x y)) :
  ∀ (A:Around) (x y:Th) (v u:V) (a b:Value),dp x<=n->A.units+n+1<cLine->JG X.K H v x->JG X.K H u y->RelV v a->RelV u b->RcAt A s a b (Yc x y):=by
 intro A x y v u a b hn hu bx bY ra rb
 have hu0:A.units<cLine:=by lia
 have hin:A.in1.units=A.units+1:=rfl
 cases bx with
 |non =>
  cases ra
  cases bY with
  |non=>cases rb;unfold Yc;exact RcAt.none_none
  |bl c=>cases rb;unfold Yc;exact RcAt.none_bool _
  |int c=>obtain⟨_,rfl⟩:=rb;unfold Yc;exact RcAt.none_int _ _
  |str c=>obtain⟨_,rfl⟩:=rb;unfold Yc;exact RcAt.none_str _ _
  |tup e h=>cases rb;obtain⟨_,_,p⟩:=GU I e;unfold Yc;exact RcAt.none_tuple p hu0
  |lst e h=>cases rb;obtain⟨_,_,p⟩:=Gn I e;unfold Yc;exact RcAt.none_list p hu0
 |bl d =>
  cases ra
  cases bY with
  |non=>cases rb;unfold Yc;exact RcAt.bool_none _
  |bl c=>cases rb;unfold Yc;exact RcAt.bool_bool _ _
  |int c=>obtain⟨_,rfl⟩:=rb;unfold Yc;exact RcAt.bool_int _ _ _
  |str c=>obtain⟨_,rfl⟩:=rb;unfold Yc;exact RcAt.bool_str _ _ _
  |tup e h=>cases rb;obtain⟨_,_,p⟩:=GU I e;unfold Yc;exact RcAt.bool_tuple _ p hu0
  |lst e h=>cases rb;obtain⟨_,_,p⟩:=Gn I e;unfold Yc;exact RcAt.bool_list _ p hu0
 |int d =>
  obtain⟨_,rfl⟩:=ra
  cases bY with
  |non=>cases rb;unfold Yc;exact RcAt.int_none _ _
  |bl c=>cases rb;unfold Yc;exact RcAt.int_bool _ _ _
  |int c=>obtain⟨_,rfl⟩:=rb;unfold Yc;exact RcAt.int_int _ _ _ _
  |str c=>obtain⟨_,rfl⟩:=rb;unfold Yc;exact RcAt.int_str _ _ _ _
  |tup e h=>cases rb;obtain⟨_,_,p⟩:=GU I e;unfold Yc;exact RcAt.int_tuple _ _ p hu0
  |lst e h=>cases rb;obtain⟨_,_,p⟩:=Gn I e;unfold Yc;exact RcAt.int_list _ _ p hu0
 |str d =>
  obtain⟨_,rfl⟩:=ra
  cases bY with
  |non=>cases rb;unfold Yc;exact RcAt.str_none _ _
  |bl c=>cases rb;unfold Yc;exact RcAt.str_bool _ _ _
  |int c=>obtain⟨_,rfl⟩:=rb;unfold Yc;exact RcAt.str_int _ _ _ _
  |str c=>obtain⟨_,rfl⟩:=rb;unfold Yc;exact RcAt.str_str _ _ _ _
  |tup e h=>cases rb;obtain⟨_,_,p⟩:=GU I e;unfold Yc;exact RcAt.str_tuple _ _ p hu0
  |lst e h=>cases rb;obtain⟨_,_,p⟩:=Gn I e;unfold Yc;exact RcAt.str_list _ _ p hu0
 |tup e h =>
  cases ra
  obtain⟨its,r1,p1⟩:=GU I e
  cases bY with
  |non=>cases rb;unfold Yc;exact RcAt.tuple_none p1 hu0
  |bl c=>cases rb;unfold Yc;exact RcAt.tuple_bool _ p1 hu0
  |int c=>obtain⟨_,rfl⟩:=rb;unfold Yc;exact RcAt.tuple_int _ _ p1 hu0
  |str c=>obtain⟨_,rfl⟩:=rb;unfold Yc;exact RcAt.tuple_str _ _ p1 hu0
  |lst e2 h2=>cases rb;obtain⟨its2,r2,p2⟩:=Gn I e2;unfold Yc;exact RcAt.tuple_list p1 p2 hu0
  |tup e2 h2 =>
   cases rb
   obtain⟨its2,r2,p2⟩:=GU I e2
   have q:=RcAt.tuples (A:=A) p1 p2 hu0 (FE r1 r2 h h2 fun x y v u a b i et b1 b2 ra rb=>by
    have:=Z2W et
    unfold dp at hn
    exact ih A.in1 x y v u a b (by exact NQ ‹_› ‹_›) (by rw[hin];lia) b1 b2 ra rb)
   rename_i ts _ _ us
   have z1:its.toArray.size=ts.length:=by rw[Zr,<- r1.length,h.length]
   have z2:its2.toArray.size=us.length:=by rw[Zr,<- r2.length,h2.length]
   rw[z1,z2,Cn] at q
   unfold Yc
   exact q
 |lst e h =>
  cases ra
  obtain⟨its,r1,p1⟩:=Gn I e
  cases bY with
  |non=>cases rb;unfold Yc;exact RcAt.list_none p1 hu0
  |bl c=>cases rb;unfold Yc;exact RcAt.list_bool _ p1 hu0
  |int c=>obtain⟨_,rfl⟩:=rb;unfold Yc;exact RcAt.list_int _ _ p1 hu0
  |str c=>obtain⟨_,rfl⟩:=rb;unfold Yc;exact RcAt.list_str _ _ p1 hu0
  |tup e2 h2=>cases rb;obtain⟨its2,r2,p2⟩:=GU I e2;unfold Yc;exact RcAt.list_tuple p1 p2 hu0
  |lst e2 h2 =>
   cases rb
   obtain⟨its2,r2,p2⟩:=Gn I e2
   rename_i ts _ _ us
   have z1:its.toArray.size=ts.length:=by rw[Zr,<- r1.length,h.length]
   have z2:its2.toArray.size=us.length:=by rw[Zr,<- r2.length,h2.length]
   by_cases hz:its.toArray.size=its2.toArray.size
   ·have q:=RcAt.lists (A:=A) p1 p2 hz hu0 (FE r1 r2 h h2 fun x y v u a b i et b1 b2 ra rb=>by
     have:=Z2W et
     unfold dp at hn
     exact ih A.in1 x y v u a b (by lia) (by rw[hin];lia) b1 b2 ra rb)
    have e1:Mt ts us=(Ja its.toArray.size).all (eAt ts us):=by
     rw[<- Cn,<- z1,<- z2,<- hz,Z7o];simp
    unfold Yc
    rw[e1]
    exact q
   ·have q:=RcAt.lists_lengths (A:=A) p1 p2 (by simpa using hz) hu0
    have e1:Mt ts us=false:=by
     cases w:Mt ts us with
     |false=>rfl
     |true=>exact absurd (by rw[z1,z2];exact Cm w) hz
    unfold Yc
    rw[e1]
    exact q
theorem Z1n (I:Inv X pins σ H s):∀ (n:Nat) (A:Around) (x y:Th) (v u:V) (a b:Value),dp x<n->A.units+n<cLine->JG X.K H v x->JG X.K H u y->RelV v a->RelV u b->EqAt A s a b (Yc x y)
 |0,_,_,_,_,_,_,_,hn,_,_,_,_,_=>absurd hn (Ya _)
 |n+1,A,x,y,v,u,a,b,hn,hu,bx,bY,ra,rb=>by
  have rc:RcAt A s a b (Yc x y):=Z5d I n (fun A x y v u a b h1 h2=>Z1n I n A x y v u a b h1 h2) A x y v u a b (by lia) (by omega) bx bY ra rb
  have hu0:A.units<cLine:=by lia
  cases bx with
  |non =>
   cases ra
   cases bY with
   |non=>cases rb;unfold Yc;exact EqAt.same _
   |bl c=>cases rb;unfold Yc;exact EqAt.none_bool _
   |int c=>obtain⟨_,rfl⟩:=rb;unfold Yc;exact EqAt.none_int _ _
   |str c=>obtain⟨_,rfl⟩:=rb;unfold Yc;exact EqAt.none_str _ _
   |tup e h=>cases rb;obtain⟨_,_,p⟩:=GU I e;unfold Yc;exact EqAt.none_tuple p hu0
   |lst e h=>cases rb;obtain⟨_,_,p⟩:=Gn I e;unfold Yc;exact EqAt.none_list p hu0
  |bl d =>
   cases ra
   cases bY with
   |non=>cases rb;unfold Yc;exact EqAt.bool_none _
   |bl c=>cases rb;unfold Yc;exact EqAt.bool_bool _ _
   |int c=>obtain⟨_,rfl⟩:=rb;unfold Yc;exact EqAt.bool_int _ _ _
   |str c=>obtain⟨_,rfl⟩:=rb;unfold Yc;exact EqAt.bool_str _ _ _
   |tup e h=>cases rb;obtain⟨_,_,p⟩:=GU I e;unfold Yc;exact EqAt.bool_tuple _ p hu0
   |lst e h=>cases rb;obtain⟨_,_,p⟩:=Gn I e;unfold Yc;exact EqAt.bool_list _ p hu0
  |int d =>
   obtain⟨_,rfl⟩:=ra
   cases bY with
   |non=>cases rb;unfold Yc;exact EqAt.int_none _ _
   |bl c=>cases rb;unfold Yc;exact EqAt.int_bool _ _ _
   |int c=>obtain⟨_,rfl⟩:=rb;unfold Yc;exact EqAt.int_int _ _ _ _
   |str c=>obtain⟨_,rfl⟩:=rb;unfold Yc;exact EqAt.int_str _ _ _ _
   |tup e h=>cases rb;obtain⟨_,_,p⟩:=GU I e;unfold Yc;exact EqAt.int_tuple _ _ p hu0
   |lst e h=>cases rb;obtain⟨_,_,p⟩:=Gn I e;unfold Yc;exact EqAt.int_list _ _ p hu0
  |str d =>
   obtain⟨_,rfl⟩:=ra
   cases bY with
   |non=>cases rb;unfold Yc;exact EqAt.str_none _ _
   |bl c=>cases rb;unfold Yc;exact EqAt.str_bool _ _ _
   |int c=>obtain⟨_,rfl⟩:=rb;unfold Yc;exact EqAt.str_int _ _ _ _
   |str c=>obtain⟨_,rfl⟩:=rb;unfold Yc;exact EqAt.str_str _ _ _ _
   |tup e h=>cases rb;obtain⟨_,_,p⟩:=GU I e;unfold Yc;exact EqAt.str_tuple _ _ p hu0
   |lst e h=>cases rb;obtain⟨_,_,p⟩:=Gn I e;unfold Yc;exact EqAt.str_list _ _ p hu0
  |tup e h =>
   cases ra
   obtain⟨its,r1,p1⟩:=GU I e
   cases bY with
   |non=>cases rb;unfold Yc;exact EqAt.tuple_none p1 hu0
   |bl c=>cases rb;unfold Yc;exact EqAt.tuple_bool _ p1 hu0
   |int c=>obtain⟨_,rfl⟩:=rb;unfold Yc;exact EqAt.tuple_int _ _ p1 hu0
   |str c=>obtain⟨_,rfl⟩:=rb;unfold Yc;exact EqAt.tuple_str _ _ p1 hu0
   |lst e2 h2=>cases rb;obtain⟨its2,r2,p2⟩:=Gn I e2;unfold Yc;exact EqAt.tuple_list p1 p2 hu0
   |@tup a2 _ _ e2 h2 =>
    cases rb
    rename_i a1 _ _ _ _
    by_cases hab:a1=a2
    ·subst hab
     rw[JG.det I _ (Z7 _) (.tup e h) (.tup e2 h2),Qf]
     exact EqAt.same _
    ·exact EqAt.of_refs hab rc
  |lst e h =>
   cases ra
   obtain⟨its,r1,p1⟩:=Gn I e
   cases bY with
   |non=>cases rb;unfold Yc;exact EqAt.list_none p1 hu0
   |bl c=>cases rb;unfold Yc;exact EqAt.list_bool _ p1 hu0
   |int c=>obtain⟨_,rfl⟩:=rb;unfold Yc;exact EqAt.list_int _ _ p1 hu0
   |str c=>obtain⟨_,rfl⟩:=rb;unfold Yc;exact EqAt.list_str _ _ p1 hu0
   |tup e2 h2=>cases rb;obtain⟨its2,r2,p2⟩:=GU I e2;unfold Yc;exact EqAt.list_tuple p1 p2 hu0
   |@lst a2 _ _ e2 h2 =>
    cases rb
    rename_i a1 _ _ _ _
    by_cases hab:a1=a2
    ·subst hab
     rw[JG.det I _ (Z7 _) (.lst e h) (.lst e2 h2),Qf]
     exact EqAt.same _
    ·exact EqAt.of_refs hab rc
end
section
variable {X:Cx}{K:Fg_}{a b c e:Expr}{fa fb fc f:FD}{pos:Pos}{k:Nat}
def Zjn (K:Fg_):R2:=fun v u H Q=>∃ x y,JG K H v x/\JG K H u y/\dp x<=100/\Q (.bl (Yc x y)) H
theorem ZcZ (hr:Nm k X.A):OpR X (compareOp .Eq) (Zjn X.K):=by
 intro pins s σ H v u a b Q I ra rb h
 refine W_ fun n9=>?_;obtain⟨x,y,bx,bY,hd,q⟩:=h;apply n9;clear n9
 have hu:=hr.un
 have rc:RcAt X.A s a b (Yc x y):=Z5d I 100 (fun A x y v u a b h1 h2=>Z1n I 100 A x y v u a b h1 h2) X.A x y v u a b hd (by lia) bx bY ra rb
 exact rc _ _ _ _ ⟨.bl _,H,I,rfl,q⟩
noncomputable def oEq:Th->Th->Option Th:=fun x y=>if decide (dp x<=100)=true then some (.bl (Yc x y)) else none
theorem Zd1:OpD K (Zjn K) oEq:=fun H O v u x y z Q hn hx hy e q=>by
 unfold oEq at e
 split at e
 ·rename_i hd
  cases e
  exact⟨x,y,hx.bears,hy.bears,of_decide_eq_true hd,q _ H (Jl.refl H) (.bl _)⟩
 ·cases e
theorem Ziv (hr:Nm k X.A)(ha:PB X a fa)(hb:PB X b fb):PD X (.Compare a [.Eq] [b] pos) (f2 oEq fa fb):=Z8x (ZcZ hr) Zd1 ha hb (WV _)
theorem Zgo (hr:Nm k X.A)(ha:PB X a fa)(hb:PB X b fb):PDT X (.Compare a [.Eq] [b] pos) (Je (f2 oEq fa fb)):=Da (ZcZ hr) Zd1 ha hb (WV _)
end
end L2
namespace L2
open PySem PySem.Spec PyProof.Rows PySem.SeqAt
section
variable {X:Cx}{pins:Pn_}{σ:St}{H:Hp}{s:Shared}
theorem Z6q (I:Inv X pins σ H s)(n:Nat)(ih:∀ (A:Around) (x y:Th) (v u:V) (a b:Value),dp x<n->A.units+n<cLine->JG X.K H v x->JG X.K H u y->RelV v a->RelV u b->EqAt A s a b (Yc x y)) :
  ∀ (A:Around) (x y:Th) (v u:V) (a b:Value),dp x<=n->A.units+n+1<cLine->JG X.K H v x->JG X.K H u y->RelV v a->RelV u b->RcNeAt A s a b (!Yc x y):=by
 intro A x y v u a b hn hu bx bY ra rb
 have hu0:A.units<cLine:=by lia
 have hin:A.in1.units=A.units+1:=rfl
 cases bx with
 |non =>
  cases ra
  cases bY with
  |non=>cases rb;unfold Yc;exact RcNeAt.none_none
  |bl c=>cases rb;unfold Yc;exact RcNeAt.none_bool _
  |int c=>obtain⟨_,rfl⟩:=rb;unfold Yc;exact RcNeAt.none_int _ _
  |str c=>obtain⟨_,rfl⟩:=rb;unfold Yc;exact RcNeAt.none_str _ _
  |tup e h=>cases rb;obtain⟨_,_,p⟩:=GU I e;unfold Yc;exact RcNeAt.none_tuple p hu0
  |lst e h=>cases rb;obtain⟨_,_,p⟩:=Gn I e;unfold Yc;exact RcNeAt.none_list p hu0
 |bl d =>
  cases ra
  cases bY with
  |non=>cases rb;unfold Yc;exact RcNeAt.bool_none _
  |bl c=>cases rb;unfold Yc;exact RcNeAt.bool_bool _ _
  |int c=>obtain⟨_,rfl⟩:=rb;unfold Yc;exact RcNeAt.bool_int _ _ _
  |str c=>obtain⟨_,rfl⟩:=rb;unfold Yc;exact RcNeAt.bool_str _ _ _
  |tup e h=>cases rb;obtain⟨_,_,p⟩:=GU I e;unfold Yc;exact RcNeAt.bool_tuple _ p hu0
  |lst e h=>cases rb;obtain⟨_,_,p⟩:=Gn I e;unfold Yc;exact RcNeAt.bool_list _ p hu0
 |int d =>
  obtain⟨_,rfl⟩:=ra
  cases bY with
  |non=>cases rb;unfold Yc;exact RcNeAt.int_none _ _
  |bl c=>cases rb;unfold Yc;exact RcNeAt.int_bool _ _ _
  |int c=>obtain⟨_,rfl⟩:=rb;unfold Yc;exact RcNeAt.int_int _ _ _ _
  |str c=>obtain⟨_,rfl⟩:=rb;unfold Yc;exact RcNeAt.int_str _ _ _ _
  |tup e h=>cases rb;obtain⟨_,_,p⟩:=GU I e;unfold Yc;exact RcNeAt.int_tuple _ _ p hu0
  |lst e h=>cases rb;obtain⟨_,_,p⟩:=Gn I e;unfold Yc;exact RcNeAt.int_list _ _ p hu0
 |str d =>
  obtain⟨_,rfl⟩:=ra
  cases bY with
  |non=>cases rb;unfold Yc;exact RcNeAt.str_none _ _
  |bl c=>cases rb;unfold Yc;exact RcNeAt.str_bool _ _ _
  |int c=>obtain⟨_,rfl⟩:=rb;unfold Yc;exact RcNeAt.str_int _ _ _ _
  |str c=>obtain⟨_,rfl⟩:=rb;unfold Yc;exact RcNeAt.str_str _ _ _ _
  |tup e h=>cases rb;obtain⟨_,_,p⟩:=GU I e;unfold Yc;exact RcNeAt.str_tuple _ _ p hu0
  |lst e h=>cases rb;obtain⟨_,_,p⟩:=Gn I e;unfold Yc;exact RcNeAt.str_list _ _ p hu0
 |tup e h =>
  cases ra
  obtain⟨its,r1,p1⟩:=GU I e
  cases bY with
  |non=>cases rb;unfold Yc;exact RcNeAt.tuple_none p1 hu0
  |bl c=>cases rb;unfold Yc;exact RcNeAt.tuple_bool _ p1 hu0
  |int c=>obtain⟨_,rfl⟩:=rb;unfold Yc;exact RcNeAt.tuple_int _ _ p1 hu0
  |str c=>obtain⟨_,rfl⟩:=rb;unfold Yc;exact RcNeAt.tuple_str _ _ p1 hu0
  |lst e2 h2=>cases rb;obtain⟨its2,r2,p2⟩:=Gn I e2;unfold Yc;exact RcNeAt.tuple_list p1 p2 hu0
  |tup e2 h2 =>
   cases rb
   obtain⟨its2,r2,p2⟩:=GU I e2
   have q:=RcNeAt.tuples (A:=A) p1 p2 hu0 (FE r1 r2 h h2 fun x y v u a b i et b1 b2 ra rb=>by
    have:=Z2W et
    unfold dp at hn
    exact ih A.in1 x y v u a b (by lia) (by rw[hin];lia) b1 b2 ra rb)
   rename_i ts _ _ us
   have z1:its.toArray.size=ts.length:=by rw[Zr,<- r1.length,h.length]
   have z2:its2.toArray.size=us.length:=by rw[Zr,<- r2.length,h2.length]
   rw[z1,z2,Cn] at q
   unfold Yc
   exact q
 |lst e h =>
  cases ra
  obtain⟨its,r1,p1⟩:=Gn I e
  cases bY with
  |non=>cases rb;unfold Yc;exact RcNeAt.list_none p1 hu0
  |bl c=>cases rb;unfold Yc;exact RcNeAt.list_bool _ p1 hu0
  |int c=>obtain⟨_,rfl⟩:=rb;unfold Yc;exact RcNeAt.list_int _ _ p1 hu0
  |str c=>obtain⟨_,rfl⟩:=rb;unfold Yc;exact RcNeAt.list_str _ _ p1 hu0
  |tup e2 h2=>cases rb;obtain⟨its2,r2,p2⟩:=GU I e2;unfold Yc;exact RcNeAt.list_tuple p1 p2 hu0
  |lst e2 h2 =>
   cases rb
   obtain⟨its2,r2,p2⟩:=Gn I e2
   rename_i ts _ _ us
   have z1:its.toArray.size=ts.length:=by rw[Zr,<- r1.length,h.length]
   have z2:its2.toArray.size=us.length:=by rw[Zr,<- r2.length,h2.length]
   by_cases hz:its.toArray.size=its2.toArray.size
   ·have q:=RcNeAt.lists (A:=A) p1 p2 hz hu0 (FE r1 r2 h h2 fun x y v u a b i et b1 b2 ra rb=>by
     have:=Z2W et
     unfold dp at hn
     exact ih A.in1 x y v u a b (by lia) (by rw[hin];lia) b1 b2 ra rb)
    have e1:Mt ts us=(Ja its.toArray.size).all (eAt ts us):=by
     rw[<- Cn,<- z1,<- z2,<- hz,Z7o];simp
    unfold Yc
    rw[e1]
    exact q
   ·have q:=RcNeAt.lists_lengths (A:=A) p1 p2 (by simpa using hz) hu0
    have e1:Mt ts us=false:=by
     cases w:Mt ts us with
     |false=>rfl
     |true=>exact absurd (by rw[z1,z2];exact Cm w) hz
    unfold Yc
    rw[e1]
    exact q
end
section
variable {X:Cx}{K:Fg_}{a b c e:Expr}{fa fb fc f:FD}{pos:Pos}{k:Nat}
def Zjh (K:Fg_):R2:=fun v u H Q=>∃ x y,JG K H v x/\JG K H u y/\dp x<=100/\Q (.bl (!Yc x y)) H
theorem ZgD (hr:Nm k X.A):OpR X (compareOp .NotEq) (Zjh X.K):=by
 intro pins s σ H v u a b Q I ra rb h
 refine W_ fun n9=>?_;obtain⟨x,y,bx,bY,hd,q⟩:=h;apply n9;clear n9
 have hu:=hr.un
 have rc:RcNeAt X.A s a b (!Yc x y):=Z6q I 100 (fun A x y v u a b h1 h2=>Z1n I 100 A x y v u a b h1 h2) X.A x y v u a b hd (by lia) bx bY ra rb
 exact rc _ _ _ _ ⟨.bl _,H,I,rfl,q⟩
noncomputable def oNe:Th->Th->Option Th:=fun x y=>if decide (dp x<=100)=true then some (.bl (!Yc x y)) else none
theorem ZgI:OpD K (Zjh K) oNe:=fun H O v u x y z Q hn hx hy e q=>by
 unfold oNe at e
 split at e
 ·rename_i hd
  cases e
  exact⟨x,y,hx.bears,hy.bears,of_decide_eq_true hd,q _ H (Jl.refl H) (.bl _)⟩
 ·cases e
theorem Zgk (hr:Nm k X.A)(ha:PB X a fa)(hb:PB X b fb):PDT X (.Compare a [.NotEq] [b] pos) (Je (f2 oNe fa fb)):=Da (ZgD hr) ZgI ha hb (WV _)
end
noncomputable def D3:Th->String
 |.non=>"NoneType"
 |.bl _=>"bool"
 |.int _=>"int"
 |.str _=>"str"
 |.tup _=>"tuple"
 |.lst _=>"list"
noncomputable def isB (t T:String):Bool:=t == T||(t == "bool"&&T == "int")
section
variable {X:Cx}{K:Fg_}{a b c e:Expr}{fa fb fc f:FD}{pos:Pos}{k:Nat}
noncomputable def ZjV (T:String)(f:FD):FD:=fun d=>(f d).map fun x=>.bl (isB (D3 x) T)
noncomputable def Z1u:Lt_->Option (List Bool)
 |[]=>some []
 |.bl b::r=>(Z1u r).map (b::·)
 |_=>none
noncomputable def Zjq (any:Bool):Lt_->Option Th
 |[.lst ts]=>(Z1u ts).map fun bs=>.bl (if any then bs.any id else bs.all id)
 |_=>none
noncomputable def keyOf:Th->Option Key
 |.int i=>some (.inl i)
 |.str x=>some (.inr x)
 |_=>none
noncomputable def GX:Lt_->Option (List Key)
 |[]=>some []
 |t::r=>(keyOf t).bind fun k=>(GX r).map (k::·)
theorem Qx:∀ {ts:Lt_} {ks:List Key} {vs:Lv_} {us:Lu_},GX ts=some ks->ZX K H vs ts->Uh vs us->HT.KeysAre us ks
 |[],_,_,_,e,b,r=>by cases e;cases b;cases r;exact .nil
 |t::ts,_,_,_,e,b,r=>by
  cases b with
  |cons b1 b2=>cases r with
   |cons r1 r2 =>
    unfold GX at e
    cases hk:keyOf t with
    |none=>rw[hk] at e;cases e
    |some k =>
     rw[hk] at e
     change ((GX ts).map (k::·))=_ at e
     cases hb:GX ts with
     |none=>rw[hb] at e;cases e
     |some bs =>
      rw[hb] at e
      cases e
      refine .cons ?_ (Qx hb b2 r2)
      cases b1 with
      |int i=>cases hk;obtain⟨t,rfl⟩:=r1;exact .int i t
      |str i=>cases hk;obtain⟨t,rfl⟩:=r1;exact .str i t
      |_=>cases hk
def Zji (K:Fg_):R2:=fun x y H Q=>∃ a b xs ys ts us ns ms z,x=.ref a/\y=.ref b/\SqT K H a xs/\SqT K H b ys/\ZX K H xs ts/\ZX K H ys us/\GX ts=some ns/\GX us=some ms/\HT.lexK ns ms=some z/\Q (.bl z) H
theorem ZgG (hr:Nm k X.A):OpR X (compareOp .Lt) (Zji X.K):=by
 intro pins s σ H x y v u Q I rx ry h
 refine W_ fun n9=>?_;obtain⟨a,b,xs,ys,ts,us,ns,ms,z,rfl,rfl,ha,hb,ba,bb,ka,kb,hz,q⟩:=h;apply n9;clear n9
 cases rx
 cases ry
 refine W_ fun n9=>?_;obtain⟨its,r1,p1,_⟩:=I.tuple ha
 obtain⟨its2,r2,p2,_⟩:=I.tuple hb;apply n9;clear n9
 exact HT.lt_tupKeys p1 p2 (by simpa using Qx ka ba r1) (by simpa using Qx kb bb r2) hz hr.units0 ⟨.bl z,H,I,rfl,q⟩
noncomputable def oLt:Th->Th->Option Th
 |.int i,.int j=>some (.bl (decide (i<j)))
 |.str x,.str y=>some (.bl (decide (x.cps.toList<y.cps.toList)))
 |.tup ts,.tup us=>(GX ts).bind fun ns=>(GX us).bind fun ms=>(HT.lexK ns ms).map .bl
 |_,_=>none
def Zjj (K:Fg_):R2:=fun x y H Q=>rI0 (fun i j=>.bl (decide (i<j))) x y H Q\/(∃ i j,x=.str i/\y=.str j/\Q (.bl (decide (i.cps.toList<j.cps.toList))) H)\/Zji K x y H Q
theorem ZcX (hr:Nm k X.A):OpR X (compareOp .Lt) (Zjj X.K):=Ziw.or (Z8D.or (ZgG hr))
theorem Zd0:OpD K (Zjj K) oLt:=fun H O v u x y z Q hn hx hy e q=>by
 unfold oLt at e
 split at e
 ·cases e;exact .inl ⟨_,_,hx.int,hy.int,q _ H (Jl.refl H) (.bl _)⟩
 ·cases e;exact .inr (.inl ⟨_,_,hx.str,hy.str,q _ H (Jl.refl H) (.bl _)⟩)
 ·rename_i ts us
  cases h1:GX ts with
  |none=>rw[h1] at e;cases e
  |some ns =>
   rw[h1] at e
   change ((GX us).bind fun ms=>(HT.lexK ns ms).map Th.bl)=_ at e
   cases h2:GX us with
   |none=>rw[h2] at e;cases e
   |some ms =>
    rw[h2] at e
    change ((HT.lexK ns ms).map Th.bl)=_ at e
    cases h3:HT.lexK ns ms with
    |none=>rw[h3] at e;cases e
    |some k =>
     rw[h3] at e
     cases e
     obtain⟨a,xs,rfl,g1,b1⟩:=hx.tup
     obtain⟨b,ys,rfl,g2,b2⟩:=hy.tup
     exact .inr (.inr ⟨a,b,xs,ys,ts,us,ns,ms,k,rfl,rfl,(Jt H O).seqT g1,(Jt H O).seqT g2,b1.mono (Jt H O),b2.mono (Jt H O),h1,h2,h3,q _ H (Jl.refl H) (.bl k)⟩)
 ·cases e
theorem Zis (hr:Nm k X.A)(ha:PB X a fa)(hb:PB X b fb):PD X (.Compare a [.Lt] [b] pos) (f2 oLt fa fb):=Z8x (ZcX hr) Zd0 ha hb (WV _)
theorem Zgl (hr:Nm k X.A)(ha:PB X a fa)(hb:PB X b fb):PDT X (.Compare a [.Lt] [b] pos) (Je (f2 oLt fa fb)):=Da (ZcX hr) Zd0 ha hb (WV _)
noncomputable def Z8O (p:Int->Int->Bool):Th->Th->Option Th
 |.int i,.int j=>some (.bl (p i j))
 |_,_=>none
theorem Z5o:OpD K (rI0 fun i j=>.bl (p i j)) (Z8O p):=fun H O v u x y z Q hn hx hy e q=>by
 unfold Z8O at e
 split at e
 ·cases e;exact⟨_,_,hx.int,hy.int,q _ H (Jl.refl H) (.bl _)⟩
 ·cases e
noncomputable abbrev oLe:=Z8O fun i j=>decide (i<=j)
noncomputable abbrev oGt:=Z8O fun i j=>decide (j<i)
noncomputable abbrev oGe:=Z8O fun i j=>decide (j<=i)
theorem Zgm (ha:PB X a fa)(hb:PB X b fb):PDT X (.Compare a [.Gt] [b] pos) (Je (f2 oGt fa fb)):=Da Zix Z5o ha hb (WV _)
theorem Zgn (ha:PB X a fa)(hb:PB X b fb):PDT X (.Compare a [.GtE] [b] pos) (Je (f2 oGe fa fb)):=Da Ziy Z5o ha hb (WV _)
noncomputable def ZbY:Th->Bool
 |.non=>true
 |_=>false
noncomputable def Z3Y (neg:Bool):Th->Th->Option Th
 |x,.non=>some (.bl (if neg then !ZbY x else ZbY x))
 |_,_=>none
theorem Z3c(b:JG K H v x):decide (v=.non)=ZbY x:=by cases b <;> simp[ZbY]
theorem Z8F:OpD K (fun x y H Q=>y=.non/\Q (.bl (decide (x=.non))) H) (Z3Y false):=fun H O v u x y z Q hn hx hy e q=>by
 unfold Z3Y at e
 split at e
 ·cases e
  have hb:=hy.bears
  cases hb
  refine⟨rfl,?_⟩
  rw[Z3c hx.bears]
  exact q _ H (Jl.refl H) (.bl _)
 ·cases e
theorem Zbs:OpD K (fun x y H Q=>y=.non/\Q (.bl (!decide (x=.non))) H) (Z3Y true):=fun H O v u x y z Q hn hx hy e q=>by
 unfold Z3Y at e
 split at e
 ·cases e
  have hb:=hy.bears
  cases hb
  refine⟨rfl,?_⟩
  rw[Z3c hx.bears]
  exact q _ H (Jl.refl H) (.bl _)
 ·cases e
theorem Zgx (ha:PB X a fa)(hb:PB X b fb):PD X (.Compare a [.Is] [b] pos) (f2 (Z3Y false) fa fb):=Z8x ZcY Z8F ha hb (WV _)
theorem Ze8 (ha:PB X a fa)(hb:PB X b fb):PDT X (.Compare a [.Is] [b] pos) (Je (f2 (Z3Y false) fa fb)):=Da ZcY Z8F ha hb (WV _)
theorem Zb9 (ha:PB X a fa)(hb:PB X b fb):PDT X (.Compare a [.IsNot] [b] pos) (Je (f2 (Z3Y true) fa fb)):=Da Zet Zbs ha hb (WV _)
end
noncomputable def Dp {α:Type}(xs:List α)(lo hi:Option Int):List α:=(xs.drop (HT.sIx xs.length 0 lo)).take (HT.sIx xs.length xs.length hi-HT.sIx xs.length 0 lo)
theorem Cr(xs:List α)(lo hi:Option Int):(Dp xs lo hi).length<=xs.length:=by
 unfold Dp
 rw[Zx,ZI]
 lia
theorem ZX.cut {K:Fg_}{H:Hp}{vs:Lv_}{ts:Lt_}(b:ZX K H vs ts)(lo hi:Option Int):ZX K H (Zdh vs lo hi) (Dp ts lo hi):=by
 unfold Zdh Dp
 rw[b.length]
 exact (b.drop _).take _
theorem Z2X {α:Type}{xs:List α}{lo hi:Option Int}(h:HT.sIx xs.length 0 lo=0/\HT.sIx xs.length xs.length hi=xs.length):Dp xs lo hi=xs:=by
 unfold Dp
 rw[h.1,h.2,QK,CT,N9]
section
variable {prog:Program}{w:World}{A:Around}{E:Ps_}{s:Shared}
theorem Br {t sl:Addr}{items:Au_}{vl vu:Value}{lo hi:Option Int}{Q:Ps_}(ht:IsTup s.heap t items)(hs:s.heap.IsSliceOf sl vl vu .none)(pl:IsPart vl lo)(pu:IsPart vu hi)
  (hw:HT.sIx items.size 0 lo=0/\HT.sIx items.size items.size hi=items.size) (h:Q (.ref t) s):wpAny (model prog w) A (getItem (.ref t) (.ref sl)) Q E s:=by
 refine W_ fun n9=>?_;obtain⟨os,hos,hcs,hds⟩:=id hs;apply n9;clear n9
 have hTs:s.TypeIs (.ref sl) "slice":=⟨os,hos,hcs⟩
 unfold getItem
 try with_reducible refine Jx ?_
 first|refine Z0 (Z4 ?_)|skip
 refine Z0 (ZhE ht.typeIs (by decide) ?_)
 refine Z0 (YH (name:=Zq "__getitem__") ht.typeIs Y5
  (Yh Y5 ht.typeIs Zfp ?_ (Zhp _ _)))
 show wpAny _ _ (BB (.ref t)>>=_) _ _ s
 refine Z0 (Zk3 ht ?_)
 refine Z0 (ML hTs ?_)
 rw[if_pos (by decide)]
 refine Z0 (HT.sliceApplied_gen hs pl pu ?_)
 have hyes:(((HT.sIx items.size 0 lo:Nat):Int) == 0&&(1:Int) == 1&&(HT.sIx items.size items.size hi-HT.sIx items.size 0 lo) == items.size)=true:=by
  rw[hw.1,hw.2];simp
 show wpAny _ _ (if (((HT.sIx items.size 0 lo:Nat):Int) == 0&&(1:Int) == 1&&(HT.sIx items.size items.size hi-HT.sIx items.size 0 lo) == items.size)=true then _ else _) _ _ s
 rw[if_pos hyes]
 unfold Builtin.Tuple.tupleIsExact
 refine Z0 (Z0 (ML ht.typeIs (Z4 ?_)))
 rw[if_pos (by decide)]
 exact Z0 (Gb (Z4 ⟨_,rfl,Z4 h⟩))
end
noncomputable def Z5U (x:Str)(lo hi:Option Int):Str:=⟨(Dp x.cps.toList lo hi).toArray⟩
theorem ZfL (x:Str):(⟨x.cps.toList.toArray⟩:Str)=x:=by cases x;simp
theorem Z1Y (x:Str)(lo hi:Option Int):(Gg lo hi 1 x.length).filterMap (x.cps[·]?)=Dp x.cps.toList lo hi/\(Gg lo hi 1 x.length).length=HT.sIx x.length x.length hi-HT.sIx x.length 0 lo:=by
 have e0:Gg lo hi 1 x.length=sliceRange (sliceBounds lo hi none x.length).1 (sliceBounds lo hi none x.length).2.1 1:=rfl
 refine W_ fun n9=>?_;obtain⟨h1,h2,h3⟩:=BG lo hi x.length;apply n9;clear n9
 have hl:x.cps.toList.length=x.length:=by simp[MU]
 rw[e0,h1,h2,ZjO]
 refine⟨?_,by simp⟩
 rw[Zk4]
 unfold Dp
 rw[hl]
section
variable {X:Cx}{e a b:Expr}{te tl th:TE}{pos p2:Pos}
theorem part_of(p:IsPart v o):∃ q:Option (Int×Tok),v=partValue q/\q.map (·.1)=o:=by
 cases p with
 |none=>exact⟨none,rfl,rfl⟩
 |int i t=>exact⟨some (i,t),rfl,rfl⟩
def Zjf:V->Option Int->Option Int->Hp->VK->Prop:=fun x lo hi H Q=>∃ z,x=.str z/\z.length<=sizeLine/\Q (.str (Z5U z lo hi)) H
theorem ZfN:SlR X Zjf:=by
 intro pins s σ H x v vl vu lo hi sl Q I rx hs pl pu h
 refine W_ fun n9=>?_;obtain⟨z,rfl,hz,q⟩:=h
 obtain⟨t,rfl⟩:=rx
 obtain⟨l,rfl,hl⟩:=part_of pl
 obtain⟨u,rfl,hu⟩:=part_of pu;apply n9;clear n9
 refine⟨"str",_,PySem.F.slot_str_getitem.lookup,ZhJ _ _ _,wpAny_getItem_str_slice (l:=l) (u:=u) (st:=none) hs rfl ?_⟩
 obtain⟨c1,c2⟩:=Z1Y z lo hi
 have hp:slicePicked z l u none=Gg lo hi 1 z.length:=by
  unfold slicePicked;rw[hl,hu];rfl
 have hzl:z.cps.toList.length=z.length:=by simp[MU]
 unfold sliceMade
 rw[hp,c1,c2]
 split
 ·rename_i hc
  simp only[ZP,beq_iff_eq] at hc
  have h1:=HT.sIx_le z.length z.length (Z7 _) hi
  have h0:=HT.sIx_le z.length 0 (Jh _) lo
  have e:Z5U z lo hi=z:=by
   unfold Z5U
   rw[Z2X (by rw[hzl];lia)]
  rw[e] at q
  exact⟨.str z,H,I,⟨t,rfl⟩,q⟩
 ·refine⟨?_,⟨.str (Z5U z lo hi),H,I.tok _,⟨_,rfl⟩,q⟩⟩
  have:=Cr z.cps.toList lo hi
  simp only[MU,Zr]
  simp only[MU] at hz
  simp only[Zh] at this
  exact ZF ‹_› ‹_›
def ZfV (K:Fg_):V->Option Int->Option Int->Hp->VK->Prop:=fun x lo hi H Q=>∃ a xs,x=.ref a/\SqT K H a xs/\(HT.sIx xs.length 0 lo=0/\HT.sIx xs.length xs.length hi=xs.length)/\Q (.ref a) H
theorem ZdB:SlR X (ZfV X.K):=by
 intro pins s σ H x v vl vu lo hi sl Q I rx hs pl pu h
 refine W_ fun n9=>?_;obtain⟨a,xs,rfl,hx,hw,q⟩:=h;apply n9;clear n9
 cases rx
 refine W_ fun n9=>?_;obtain⟨its,r,ht,hz⟩:=I.tuple hx;apply n9;clear n9
 have hlen:its.toArray.size=xs.length:=by rw[Zr];exact r.length.symm
 exact⟨"tuple",_,Y5.lookup,ht.typeIs,Br ht hs pl pu (by rw[hlen];exact hw) ⟨.ref a,H,I,rfl,q⟩⟩
def ZjQ (K:Fg_):V->Option Int->Option Int->Hp->VK->Prop:=fun x lo hi H Q=>Zjf x lo hi H Q\/Zje K x lo hi H Q\/ZfV K x lo hi H Q\/Zjg K x lo hi H Q
theorem ZcG:SlR X (ZjQ X.K):=ZfN.or (ZfM.or (ZdB.or ZdC))
abbrev FO:=Sd->Option (Option Int)
def ZiH (K:Fg_)(f:FO):TO:=fun σ H Q=>∃ O d o,Rep K H O σ d/\f d=some o/\∀ H',Jl H H'->Q o H'
def PDO (X:Cx)(e:Option Expr)(f:FO):Prop:=PO X e (ZiH X.K f)
theorem PO.imp {e:Option Expr}{t t':TO}(h:PO X e t)(i:∀ σ H Q,t' σ H Q->t σ H Q):PO X e t':=fun pins s σ H Q I q=>h pins s σ H Q I (i σ H Q q)
noncomputable def JY:FO:=fun _=>some none
noncomputable def Ul (f:FD):FO:=fun d=>match f d with|some (.int i)=>some (some i)|_=>none
theorem Zbf:PDO X none JY:=PO.imp ZdY fun σ H Q z1_=>by obtain ⟨O,d,o,R,e,q⟩:=z1_;cases e;exact q H (Jl.refl H)
theorem Zbe(h:PD X e f):PDO X (some e) (Ul f):=PO.imp (ZdX h) fun σ H Q z_=>by
 refine W_ fun n9=>?_;obtain⟨O,d,o,R,e,q⟩:=z_;apply n9;clear n9
 unfold Ul at e
 split at e
 ·rename_i i hf
  cases e
  exact⟨O,d,.int i,R,hf,fun v H' s b=>by cases b;exact⟨i,rfl,q H' s⟩⟩
 ·cases e
noncomputable def oSl:Th->Option Int->Option Int->Option Th
 |.str x,lo,hi=>if Q5 x.length=true then some (.str (Z5U x lo hi)) else none
 |.tup ts,lo,hi=>some (.tup (Dp ts lo hi))
 |.lst ts,lo,hi=>some (.lst (Dp ts lo hi))
 |_,_,_=>none
noncomputable def fSl (f:FD)(fl fh:FO):FD:=fun d=>(f d).bind fun x=>(fl d).bind fun lo=>(fh d).bind fun hi=>oSl x lo hi
theorem Z5M(h:fSl f fl fh d=some T):∃ x lo hi,f d=some x/\fl d=some lo/\fh d=some hi/\oSl x lo hi=some T:=by
 unfold fSl at h
 cases h1:f d with
 |none=>rw[h1] at h;cases h
 |some x =>
  rw[h1] at h
  change ((fl d).bind fun lo=>(fh d).bind fun hi=>oSl x lo hi)=_ at h
  cases h2:fl d with
  |none=>rw[h2] at h;cases h
  |some lo =>
   rw[h2] at h
   change ((fh d).bind fun hi=>oSl x lo hi)=_ at h
   cases h3:fh d with
   |none=>rw[h3] at h;cases h
   |some hi=>rw[h3] at h;exact⟨x,lo,hi,rfl,rfl,rfl,h⟩
theorem CQ {α β:Type}{xs:List α}{ys:List β}{lo hi:Option Int}(hl:xs.length=ys.length)(h:HT.sIx xs.length 0 lo=0/\HT.sIx xs.length xs.length hi=xs.length):Dp ys lo hi=ys:=Z2X (by rw[<- hl];exact h)
theorem Zbm {f:FD}{fl fh:FO}{lo hi:Option Expr}(h:PB X e f)(hl:PDO X lo fl)(hh:PDO X hi fh):PD X (.Subscript e (.Slice lo hi none p2) pos) (fSl f fl fh):=PE.imp (Z5m ZcG h hl hh) fun σ H Q z_=>by
 refine W_ fun n9=>?_;obtain⟨O,d,T,R,e,q⟩:=z_
 obtain⟨x,l,u,h1,h2,h3,e⟩:=Z5M e;apply n9;clear n9
 refine⟨O,d,x,R,h1,fun v H1 s1 bv=>⟨O,d,l,R.mono s1,h2,fun H2 s2=>⟨O,d,u,R.mono (s1.trans s2),h3,fun H3 s3=>?_⟩⟩⟩
 have s03:Jl H H3:=(s1.trans s2).trans s3
 have b3:=bv.mono (s2.trans s3)
 unfold oSl at e
 split at e
 ·split at e
  ·cases e
   exact .inl ⟨_,b3.str,Q4 ‹_›,q _ H3 s03 (.str _)⟩
  ·cases e
 ·cases e
  refine W_ fun n9=>?_;obtain⟨a,xs,rfl,hx,bx⟩:=b3.tup;apply n9;clear n9
  by_cases hw:HT.sIx xs.length 0 l=0/\HT.sIx xs.length xs.length u=xs.length
  ·refine .inr (.inr (.inl ⟨a,xs,rfl,(Jt H3 O).seqT hx,hw,q _ H3 s03 ?_⟩))
   rw[CQ bx.length hw]
   exact .tup hx bx
  ·exact .inr (.inl ⟨a,xs,rfl,(Jt H3 O).seqT hx,hw,fun p hp=>q _ _ (s03.trans (Jl.upd hp)) (.tup (SqT.of (UP JL ((R.mono s03).notOwn hp))) ((bx.cut l u).mono (JU (Jl.upd hp))))⟩)
 ·cases e
  refine W_ fun n9=>?_;obtain⟨a,xs,rfl,hx,bx⟩:=b3.lst;apply n9;clear n9
  exact .inr (.inr (.inr ⟨a,xs,rfl,hx,fun p hp=>q _ _ (s03.trans (Jl.upd hp)) (.lst (SqL.of (UP JL ((R.mono s03).notOwn hp))) ((bx.cut l u).mono (JU (Jl.upd hp))))⟩))
 ·cases e
noncomputable def Zc7 (f:FD)(fl fh:FO):FL:=fun d=>match fSl f fl fh d with|some (.lst ts)=>some ts|_=>none
theorem Zb0 {f:FD}{fl fh:FO}{lo hi:Option Expr}(h:PB X e f)(hl:PDO X lo fl)(hh:PDO X hi fh):PF X (.Subscript e (.Slice lo hi none p2) pos) (Zc7 f fl fh):=PE.imp (Z5m ZcG h hl hh) fun σ H Q z_=>by
 refine W_ fun n9=>?_;obtain⟨O,d,T,R,e,q⟩:=z_;apply n9;clear n9
 unfold Zc7 at e
 split at e
 ·rename_i ts e'
  cases e
  refine W_ fun n9=>?_;obtain⟨x,l,u,h1,h2,h3,e⟩:=Z5M e';apply n9;clear n9
  refine⟨O,d,x,R,h1,fun v H1 s1 bv=>⟨O,d,l,R.mono s1,h2,fun H2 s2=>⟨O,d,u,R.mono (s1.trans s2),h3,fun H3 s3=>?_⟩⟩⟩
  have s03:Jl H H3:=(s1.trans s2).trans s3
  have b3:=bv.mono (s2.trans s3)
  unfold oSl at e
  split at e
  ·split at e <;> cases e
  ·cases e
  ·cases e
   refine W_ fun n9=>?_;obtain⟨a,xs,rfl,hx,bx⟩:=b3.lst;apply n9;clear n9
   exact .inr (.inr (.inr ⟨a,xs,rfl,hx,fun p hp=>q _ _ (s03.trans (Jl.upd hp)) ⟨p,_,rfl,s03.free hp,JL,(bx.cut l u).mono (Qw (Jl.upd hp) hp)⟩⟩))
  ·cases e
 ·cases e
noncomputable def oIx:Th->Th->Option Th
 |.lst ts,.int i=>atI ts i
 |.tup ts,.int i=>atI ts i
 |.str x,.int i=>if Q5 x.length=true then (atI x.cps.toList i).map fun c=>.str ⟨#[c]⟩ else none
 |_,_=>none
theorem ZX.at {K:Fg_}{H:Hp}{vs:Lv_}{ts:Lt_}{i:Int}{t:Th}(b:ZX K H vs ts)(h:atI ts i=some t):∃ v,atI vs i=some v/\JG K H v t:=by
 unfold atI at h ⊢
 rw[b.length]
 cases e:ixN ts.length i with
 |none=>rw[e] at h;cases h
 |some j =>
  rw[e] at h
  exact b.get h
theorem ZgJ {K:Fg_}:OpD K (rIx K) oIx:=fun H O v u x y z Q hn hx hy e q=>by
 unfold oIx at e
 split at e
 ·obtain⟨a,xs,rfl,h1,b1⟩:=hx.lst
  obtain⟨w,h2,b2⟩:=b1.at e
  exact .inl ⟨a,xs,_,w,rfl,hy.int,h1,h2,q _ H (Jl.refl H) b2⟩
 ·obtain⟨a,xs,rfl,h1,b1⟩:=hx.tup
  obtain⟨w,h2,b2⟩:=b1.at e
  exact .inr (.inl ⟨a,xs,_,w,rfl,hy.int,(Jt H O).seqT h1,h2,q _ H (Jl.refl H) b2⟩)
 ·split at e
  ·rename_i x' i hz
   cases hc:atI x'.cps.toList i with
   |none=>rw[hc] at e;cases e
   |some c =>
    rw[hc] at e
    cases e
    exact .inr (.inr ⟨_,_,c,hx.str,hy.int,Q4 hz,hc,q _ H (Jl.refl H) (.str _)⟩)
  ·cases e
 ·cases e
theorem Zit(ha:PB X a fa)(hb:PB X b fb)(hs:Z4K b):PD X (.Subscript a b pos) (f2 oIx fa fb):=PE.imp (Ziq Zhb ha hb hs) (Ft ZgJ)
end
end L2
namespace HT
open PySem PyProof.Rows PySem.Builtin
open PySem.AutoSeq1 (wpAny_loadPart')
theorem noFill_tuple_mul:fillsNumberSlot (.type "tuple") "mul"=pure false :=
 PySem.fillsNumberSlot_seq (id:="tuple.__mul__") (r:=some (.builtin "tuple.__rmul__")) W3.lookup (by decide +kernel) Z1I.lookup (by decide +kernel)
theorem repeat_tuple:seqRepeat? (.type "tuple")=pure (some (.builtin "tuple.__mul__")):=by
 unfold seqRepeat?
 rw[Zcs (T:="tuple") (name:="__mul__") (id:="tuple.__mul__") W3.lookup (by decide +kernel),Zcs (T:="tuple") (name:="__rmul__") (id:="tuple.__rmul__") Z1I.lookup (by decide +kernel)]
 rfl
theorem int_rmul_tuple (a:Int)(t:Tok)(l:Addr)(items:Au_)(n:Nat)(dd:Option Addr)(sl:Array (Option Value)) :
  Meets (Builtin.«int.__rmul__» ⟨[.int a t,.ref l],[]⟩) (fun _ R s=>s.heap.get? l=some { cls:=.type "tuple",dict:=dd,data:=.seq items n,slots:=sl }/\R (.ok (.ret Z79)) s) :=
 .of_wp fun prog w A R s h=>by obtain⟨hp,g,d,tk,os⟩:=s;obtain⟨hl,h⟩:=h;wp_walk using Z1F hl;exact⟨_,rfl,h⟩
theorem tuple_mulW (l:Addr)(items:Au_)(n:Nat)(dd:Option Addr)(sl:Array (Option Value))(k:Int)(t:Tok)(h1:¬ (items.isEmpty=true))(h2:2<=k)(h3:k<2 ^ 63)(h4:items.size*k.toNat<=sizeLine) :
  Meets (Builtin.«tuple.__mul__» ⟨[.ref l,.int k t],[]⟩) (fun _ R s=>s.heap.get? l=some { cls:=.type "tuple",dict:=dd,data:=.seq items n,slots:=sl }/\R (.ok (.ret (Y6 s.heap.objs.size))) { s with heap:=s.heap.push { cls:=Yo "tuple",data:=Zk8 ((Zm k.toNat items).foldl (·++·) #[]) },toks:=s.toks }) :=
 .of_wp fun prog w A R s h=>by
  obtain⟨hp,g,d,tk,os⟩:=s;obtain⟨hl,h⟩:=h
  have f1:=AutoSeq1.idx_int;have f2:=Z0I
  have c1:(decide (k < -(2 ^ 63))||decide (k >= 2 ^ 63))=false:=by rw[decide_eq_false (by lia),decide_eq_false (by lia)];rfl
  have c2:(items.isEmpty||k == 1)=false:=by
   cases hi:items.isEmpty with
   |true=>exact absurd hi h1
   |false=>simp;lia
  have c3:(decide (k<=0)||items.isEmpty)=false:=by
   cases hi:items.isEmpty with
   |true=>exact absurd hi h1
   |false=>simp;lia
  have c4:¬ ((items.size:Int)*k > (2 ^ 63-1) / 8):=by
   have z:((items.size*k.toNat:Nat):Int)<=sizeLine:=by exact_mod_cast h4
   rw[Z1R,Fh (by lia)] at z
   have:(sizeLine:Int)<=(2 ^ 63-1) / 8:=by decide
   omega
  have c5:M9 ((items.size:Int)*k)=false:=by
   have z:((items.size*k.toNat:Nat):Int)<=sizeLine:=by exact_mod_cast h4
   rw[Z1R,Fh (by lia)] at z
   unfold M9
   exact decide_eq_false (by omega)
  have c1':¬ ((decide (k < -(2 ^ 63))||decide (k >= 2 ^ 63))=true):=by rw[c1];exact Jy
  have c2':¬ ((items.isEmpty||k == 1)=true):=by rw[c2];exact Jy
  have c3':¬ ((decide (k<=0)||items.isEmpty)=true):=by rw[c3];exact Jy
  have c5':¬ (M9 ((items.size:Int)*k)=true):=by rw[c5];exact Jy
  have hs:((Zm k.toNat items).foldl (·++·) #[]).size<=sizeLine:=by
   have e:∀ (m:Nat) (acc:Au_),((Zm m items).foldl (·++·) acc).size=acc.size+m*items.size:=by
    intro m
    induction m with
    |zero=>intro acc;simp
    |succ m ih=>intro acc;rw[JZ,U0,ih,Zaq,Dr];lia
   rw[e]
   simp only[Array.size_empty,JA]
   rw[Z7n];exact h4
  wp_walk using Gc hl
  rw[if_neg c1']
  wp_walk using Gc hl
  rw[if_neg c2']
  try dsimp only
  rw[if_neg c3']
  try dsimp only
  rw[if_neg c4]
  try dsimp only
  rw[if_neg c5']
  try dsimp only
  wp_walk
  exact⟨_,rfl,h⟩
end HT
namespace L2
open PySem PySem.Spec PyProof.Rows
section
variable {X:Cx}{K:Fg_}{a b c e:Expr}{fa fb fc f:FD}{pos:Pos}{k:Nat}
def Zg2 (K:Fg_):R2:=fun x y H Q=>∃ l b xs zs,x=.ref l/\y=.ref b/\SqL K H l xs/\SqL K H b zs/\xs.length+zs.length<=sizeLine/\∀ p,H p=none->Q (.ref p) (upd H p (.lst (xs++zs)))
theorem Zez:OpR X (binaryOp .Add) (Zg2 X.K):=by
 intro pins s σ H x y v u Q I rx ry h
 refine W_ fun n9=>?_;obtain⟨l,b,xs,zs,rfl,rfl,hl,hb,hz,q⟩:=h;apply n9;clear n9
 cases rx
 cases ry
 refine W_ fun n9=>?_;obtain⟨its,r,⟨o,n,ho,hc,hdd,hd⟩,_⟩:=I.list hl
 obtain⟨its2,r2,⟨o2,n2,ho2,hc2,hdd2,hd2⟩,_⟩:=I.list hb
 obtain⟨cls,dd,data,sl⟩:=o
 obtain⟨cls2,dd2,data2,sl2⟩:=o2;apply n9;clear n9
 simp only at hc hd hc2 hd2
 subst hc hd hc2 hd2
 have l1:=r.length
 have l2:=r2.length
 refine Z2Y ⟨_,ho,rfl⟩ ⟨_,ho2,rfl⟩ noFill_list_add seq_list_add PySem.F.slot_list_add PySem.F.entry_list_add (PySem.F.args_list_add_2 _ _) (list_addW l b its.toArray its2.toArray n n2 dd dd2 sl sl2 (by simp only[Zr];lia)) ⟨ho,ho2,?_⟩
 have ea:its.toArray++its2.toArray=(its++its2).toArray:=by simp
 rw[ea]
 exact⟨.ref _,_,I.lnew (t':=s.toks) (r.append r2) (by rw[Zj];omega),rfl,q _ I.fresh⟩
noncomputable def YB:Th->Th->Option Th
 |.lst xs,.lst ys=>if Q5 (xs.length+ys.length)=true then some (.lst (xs++ys)) else none
 |x,y=>ZgQ x y
def ZfX (K:Fg_):R2:=fun x y H Q=>ZdK K x y H Q\/Zg2 K x y H Q
theorem Zes:OpR X (binaryOp .Add) (ZfX X.K):=ZeA.or Zez
theorem Zbr:OpD K (ZfX K) YB:=fun H O v u x y z Q hn hx hy e q=>by
 unfold YB at e
 split at e
 ·split at e
  ·rename_i hz
   cases e
   obtain⟨a,xs,rfl,h1,b1⟩:=hx.lst
   obtain⟨b,ys,rfl,h2,b2⟩:=hy.lst
   have z:=Q4 hz
   rw[<- b1.length,<- b2.length] at z
   exact .inr ⟨a,b,xs,ys,rfl,rfl,h1,h2,z,fun p hp=>q _ _ (Jl.upd hp) (.lst (SqL.of (UP JL (hn p hp))) ((b1.append b2).mono (JU (Jl.upd hp))))⟩
  ·cases e
 ·exact .inl (ZeC H O v u x y z Q hn hx hy e q)
theorem Zei (ha:PB X a fa)(hb:PB X b fb):PD X (.BinOp a .Add b pos) (f2 YB fa fb):=Z8v Zes Zbr ha hb
def ZfY (K:Fg_):R2:=fun x y H Q=>∃ l j xs,x=.ref l/\y=.int j/\SqT K H l xs/\xs≠[]/\2<=j/\j<2 ^ 63/\xs.length*j.toNat<=sizeLine/\∀ p,H p=none->Q (.ref p) (upd H p (.tup (Zm j.toNat xs).flatten))
theorem Zeu:OpR X (binaryOp .Mult) (ZfY X.K):=by
 intro pins s σ H x y v u Q I rx ry h
 refine W_ fun n9=>?_;obtain⟨l,j,xs,rfl,rfl,hl,hne,h2,h3,hz,q⟩:=h;apply n9;clear n9
 cases rx
 refine W_ fun n9=>?_;obtain⟨t,rfl⟩:=ry
 obtain⟨its,r,⟨o,ho,hc,n,hd⟩,_⟩:=I.tuple hl
 obtain⟨cls,dd,data,sl⟩:=o;apply n9;clear n9
 simp only at hc hd
 subst hc hd
 have l1:=r.length
 have hnew:ZjB (fun x1 x2=>x1++x2) #[] (Zm j.toNat its.toArray)=(Zm j.toNat its).flatten.toArray:=by
  have:=foldl_rep its j.toNat []
  rw[ZW] at this
  exact this
 refine wpAny_binaryOp_repeat_ref (T:="tuple") (U:="int") (by decide) ⟨_,ho,rfl⟩ (fun s'=>ZhK s' j t) HT.noFill_tuple_mul PySem.F.fills_int_mul Z3z HT.repeat_tuple PySem.F.slot_int_index.lookup
  (ZhQ Z3z (ZhK s j t) PySem.F.entry_int_rmul (PySem.F.args_int_rmul_2 _ _) (HT.int_rmul_tuple j t l its.toArray n dd sl)
   ⟨ho,rfl,⟨_,ho,rfl⟩,ZhQ W3 ⟨_,ho,rfl⟩ PySem.F.entry_tuple_mul (PySem.F.args_tuple_mul_2 _ _) (HT.tuple_mulW l its.toArray n dd sl j t (by
    have:its≠[]:=fun z=>hne (r.nil_iff.mp z)
    simpa using this) h2 h3 (by rw[Zr,<- l1];exact hz)) ⟨ho,?_⟩⟩)
 rw[hnew]
 exact⟨.ref _,_,I.laid (t':=s.toks) (o:=.tup (Zm j.toNat xs).flatten) (fun b ob q=>Z3 _ q) (Z7 _) ⟨by rw[Z95,Z7n];exact hz,_,r.rep j.toNat,Z6c _ _⟩,rfl,q _ (I.hok.fresh (Z7 _))⟩
noncomputable def UN:Th->Th->Option Th
 |.tup xs,.int j=>if decide (xs.length≠0/\2<=j/\j<=1000000/\xs.length*j.toNat<=1000000)=true then some (.tup (Zm j.toNat xs).flatten) else none
 |x,y=>ZgP x y
def ZcK (K:Fg_):R2:=fun x y H Q=>ZdI x y H Q\/ZfY K x y H Q
theorem Zbp:OpR X (binaryOp .Mult) (ZcK X.K):=Zew.or Zeu
theorem Z8E:OpD K (ZcK K) UN:=fun H O v u x y z Q hn hx hy e q=>by
 unfold UN at e
 split at e
 ·split at e
  ·rename_i hc
   obtain⟨h1,h2,h3,h4⟩:=of_decide_eq_true hc
   cases e
   obtain⟨a,xs,rfl,g1,b1⟩:=hx.tup
   rw[<- b1.length] at h1 h4
   exact .inr ⟨a,_,xs,rfl,hy.int,(Jt H O).seqT g1,fun z=>h1 (by rw[z];rfl),h2,by omega,ZF h4 (by decide),fun p hp=>q _ _ (Jl.upd hp) (.tup (SqT.of (UP JL (hn p hp))) ((b1.rep _).mono (JU (Jl.upd hp))))⟩
  ·cases e
 ·exact .inl (ZeB H O v u x y z Q hn hx hy e q)
theorem Zbl (ha:PB X a fa)(hb:PB X b fb):PD X (.BinOp a .Mult b pos) (f2 UN fa fb):=Z8v Zbp Z8E ha hb
theorem Z8y {T:String}{x:Str}{p:Pos}{es:Le_}{fs:FL}{r:Lv_->Hp->VK->Prop}{g:Lt_->Option Th}(hc:QL X (.type T) r)(hr:Zaa X.K r g)(hg:Gl X x)(hm:X.mg x=none)(hv:bootBuiltins x=some (.type T))(ha:PBA X (e::es) fs)
  (hn:autoParam (x≠"__name__") qa._auto_1) (hdb:autoParam ((x == ("__debug__":Str))=false) qa._auto_1) (he:autoParam (starEach (e::es) X.env=(false,eval e X.env)::starEach es X.env) q_._auto_1) (hpl:autoParam ((backTo pos (starEach es X.env)).any (·.1)=false) q_._auto_1) :
  PD X (.Call (.Name x p) (e::es) [] pos) (fCB g fs):=PE.imp (C5 hc hg hm hv ha hn hdb he hpl) (Z9J hr)
noncomputable def Nh:Lt_->Option Th
 |[.lst ts]=>some (.tup ts)
 |[.tup ts]=>some (.tup ts)
 |_=>none
theorem Z4A:Zaa K (fun xs H Q=>∃ p ys,xs=[.ref p]/\((SqL K H p ys/\∀ l,H l=none->Q (.ref l) (upd H l (.tup ys)))\/(SqT K H p ys/\Q (.ref p) H))) Nh:=fun H O vs ts z Q hn h e q=>by
 unfold Nh at e
 split at e
 ·obtain⟨v,rfl,h1⟩:=NZ h
  cases e
  obtain⟨a,xs,rfl,h2,b⟩:=h1.lst
  exact⟨a,xs,rfl,.inl ⟨h2,fun p hp=>q _ _ (Jl.upd hp) (.tup (SqT.of (UP JL (hn p hp))) (b.mono (JU (Jl.upd hp))))⟩⟩
 ·obtain⟨v,rfl,h1⟩:=NZ h
  cases e
  obtain⟨a,xs,rfl,h2,b⟩:=h1.tup
  exact⟨a,xs,rfl,.inr ⟨(Jt H O).seqT h2,q _ H (Jl.refl H) (.tup h2 b)⟩⟩
 ·cases e
theorem Zbk {p:Pos} {es:Le_} {fs:FL} (hg:Gl X "tuple") (hm:X.mg "tuple"=none) (ha:PBA X (e::es) fs) (he:starEach (e::es) X.env=(false,eval e X.env)::starEach es X.env) (hpl:(backTo pos (starEach es X.env)).any (·.1)=false):PD X (.Call (.Name "tuple" p) (e::es) [] pos) (fCB Nh fs) :=
 Z8y Z1s Z4A hg hm (by rfl) ha (by decide) (by decide) he hpl
end
end L2
namespace HT
open PySem PyProof.Rows PySem.Builtin
open PySem.AutoSeq1 (wpAny_loadPart')
section
variable {prog:Program}{w:World}{A:Around}{E:Ps_}{s:Shared}
theorem Bl {it l:Addr}{i:Nat}{items}{x:Value}{Q:Ps_}(hit:s.heap.IsTupleIter it l i)
  (hl:s.heap.IsTuple l items) (hx:items[i]?=some x)
  (hQ:∀ h',h'.IsTupleIter it l (i+1)->J2 it s.heap h'->Q x { s with heap:=h' }) :
  wpAny (model prog w) A (G9 (.ref it)) Q E s:=by
 refine W_ fun n9=>?_;obtain⟨o,ho,hc,hd⟩:=id hit
 obtain⟨ol,hol,_,nl,hdl⟩:=hl;apply n9;clear n9
 unfold G9
 refine Z0 (YH (name:=Zq "__next__") hit.typeIs UF
  (Yh UF hit.typeIs DY ?_ (DU _)))
 show wpAny _ _ (field (.ref it) 0>>=_) _ _ s
 refine Z0 (QN ho hd (x:=.ref l) rfl ?_)
 show wpAny _ _ (if (Y6 l == YE)=true then _ else _) _ _ s
 rw[if_neg (show ¬ ((Y6 l == YE)=true) from Jy)]
 show wpAny _ _ (field (.ref it) 1>>=_) _ _ s
 refine Z0 (QN ho hd (x:=.int i 0) rfl ?_)
 show wpAny _ _ (seqItems? (.ref l)>>=_) _ _ s
 refine Z0 (U6 hol hdl ?_)
 simp only[JT,hx]
 refine Z0 (Us ho hd (by simp) (Z4 ⟨x,rfl,Z4 (hQ _ ?_ (JF ..))⟩))
 exact⟨_,Y9 _ ho (Mk (U7 hd _)),(W6 ..).trans hc,by
  rw[U7 hd];simp[rawInt]⟩
theorem Fk {it l:Addr}{i:Nat}{items}{Q:Ps_}(hh:A.handled=none)
  (hit:s.heap.IsTupleIter it l i) (hl:s.heap.IsTuple l items) (hx:items[i]?=none)
  (hE:∀ h' e,Wl it s.heap h'->(∃ o,h'.get? e=some o/\o.cls=.type "StopIteration")->E (.ref e) { s with heap:=h' }) :
  wpAny (model prog w) A (G9 (.ref it)) Q E s:=by
 refine W_ fun n9=>?_;obtain⟨o,ho,hc,hd⟩:=id hit
 obtain⟨ol,hol,_,nl,hdl⟩:=hl;apply n9;clear n9
 unfold G9
 refine Z0 (YH (name:=Zq "__next__") hit.typeIs UF
  (Yh UF hit.typeIs DY ?_ (DU _)))
 show wpAny _ _ (field (.ref it) 0>>=_) _ _ s
 refine Z0 (QN ho hd (x:=.ref l) rfl ?_)
 show wpAny _ _ (if (Y6 l == YE)=true then _ else _) _ _ s
 rw[if_neg (show ¬ ((Y6 l == YE)=true) from Jy)]
 show wpAny _ _ (field (.ref it) 1>>=_) _ _ s
 refine Z0 (QN ho hd (x:=.int i 0) rfl ?_)
 show wpAny _ _ (seqItems? (.ref l)>>=_) _ _ s
 refine Z0 (U6 hol hdl ?_)
 simp only[JT,hx]
 refine Z0 (Gb (Z0 (Us ho hd (by simp) ?_)))
 show wpAny _ _ (newExc (.type "StopIteration") []>>=_) _ _ _
 refine Z0 ?_
 simp only[newExc,newTuple]
 refine Z0 (Jq ?_ (by size_fits))
 refine Z0 (m:=firstArgMember _ _) (Dm (a:=YE) (by first|rfl|(simp only[firstArgMember];rfl)) ?_)
 refine Jq ?_ (by size_fits)
 simp only[raiseNew]
 refine Z0 (Zk2 ?_)
 first|rw[show A.in1.handled=none from hh]|rw[hh]
 refine Z0 (Z4 (wpAny_throw ?_))
 exact hE _ _ (((JF ..).extBut.push _).push _) ⟨_,Zl _ rfl,rfl⟩
theorem draws_tuple (hh:A.handled=none)(it l:Addr)(hne:l≠it)(items:Au_) :
  Draws prog w A it [it,l] items.size (fun i v=>items[i]?=some v) (fun i h=>h.IsTupleIter it l i/\h.IsTuple l items) where
 live:=fun _ _ st=>let ⟨o,ho,_⟩:=st.1;⟨o,ho⟩
 frame:=fun _ _ _ st hk=>⟨by
  refine W_ fun n9=>?_;obtain⟨⟨o,ho,r⟩,_⟩:=st;apply n9;clear n9
  exact⟨o,hk it (by simp) o ho,r⟩,by
  refine W_ fun n9=>?_;obtain⟨_,⟨o,ho,r⟩⟩:=st;apply n9;clear n9
  exact⟨o,hk l (by simp) o ho,r⟩⟩
 item:=fun i s Q E hi st hQ=>by
  refine Bl st.1 st.2 (x:=items[i]) (by simp[hi]) fun h' hit' hs'=>?_
  exact hQ _ h' s.toks (by simp[hi]) ⟨hit',st.2.extBut hs'.extBut hne⟩ hs'
 done:=fun s Q E st hE=>Fk hh st.1 st.2 (by simp) hE
theorem WK (l:Addr)(items:Au_)(n:Nat)(dct:Option Addr)(sl:Array (Option Value)) :
  Meets (Builtin.«enumerate.__new__» ⟨[.type "enumerate",.ref l],[]⟩) (fun _ R s=>s.heap.get? l=some { cls:=.type "tuple",dict:=dct,data:=.seq items n,slots:=sl } /\
   R (.ok (.ret (.ref (s.heap.push { cls:=.type "tuple_iterator",data:=.fields #[.ref l,.int 0 0] }).objs.size)))
    { s with heap:=(s.heap.push { cls:=.type "tuple_iterator",data:=.fields #[.ref l,.int 0 0] }).push { cls:=.type "enumerate",data:=.fields #[.none,.bool false,.ref s.heap.objs.size,rawInt 0,.none,.none] } }) :=
 .of_wp fun prog w A R s h=>by
  obtain⟨hp,g,d,tk,os⟩:=s;obtain⟨hl,h⟩:=h
  have hsub:=sub_enumerate
  have hL:Heap.IsTuple (Shared.heap ⟨hp,g,d,tk,os⟩) l items:=⟨_,hl,rfl,n,rfl⟩
  wp_walk using Gc hl
  refine wpAny_stack_any fun st=>Z4 ?_
  split
  ·rename_i c _ _ _ _ _
   cases (c == Yo "enumerate")
   ·wp_walk using Gc hl,M6 hL
    exact⟨_,rfl,h⟩
   ·wp_walk using Gc hl,M6 hL
    exact⟨_,rfl,h⟩
  ·wp_walk using Gc hl,M6 hL
   exact⟨_,rfl,h⟩
theorem call_enumerate_tuple {l:Addr}{items:Au_}{Q:Ps_}(hL:s.heap.IsTuple l items)
  (h:∀ h',IsEnum h' (s.heap.objs.size+1) s.heap.objs.size 0 .none->h'.IsTupleIter s.heap.objs.size l 0->h'.objs.size=s.heap.objs.size+2 ->
   (∀ b o,s.heap.get? b=some o->h'.get? b=some o)->Q (.ref (s.heap.objs.size+1)) { s with heap:=h' }) :
  wpAny (model prog w) A (call (.type "enumerate") [.ref l]) Q E s:=by
 refine W_ fun n9=>?_;obtain⟨⟨c,dct,dt,sl⟩,hl,hc,n,hd⟩:=hL;apply n9;clear n9
 replace hc:c=.type "tuple":=hc
 replace hd:dt=.seq items n:=hd
 subst hc hd
 refine callType_new PySem.F.called_enumerate (by decide) (PySem.F.typeCall_enumerate_1 _) (PySem.F.newCall_enumerate_1 _) (fun obj=>PySem.F.args_object_init_2 obj _) PySem.F.entry_enumerate_new
  (WK l items n dct sl) ⟨hl,?_⟩
 have hz:(s.heap.push { cls:=.type "tuple_iterator",data:=.fields #[.ref l,.int 0 0] }).objs.size=s.heap.objs.size+1:=N3 ..
 show _/\_
 rw[hz]
 have he:IsEnum ((s.heap.push { cls:=.type "tuple_iterator",data:=.fields #[.ref l,.int 0 0] }).push
   { cls:=.type "enumerate",data:=.fields #[.none,.bool false,.ref s.heap.objs.size,rawInt 0,.none,.none] }) (s.heap.objs.size+1) s.heap.objs.size 0 .none:=by
  have:=Zl (s.heap.push { cls:=.type "tuple_iterator",data:=.fields #[.ref l,.int 0 0] })
   (o:={ cls:=.type "enumerate",data:=.fields #[.none,.bool false,.ref s.heap.objs.size,rawInt 0,.none,.none] }) rfl
  rw[hz] at this;exact this
 refine⟨⟨_,he,rfl⟩,h _ he ⟨_,Z3 _ (Zl _ rfl),rfl,rfl⟩ (by rw[N3,hz]) fun b o x=>Z3 _ (Z3 _ x)⟩
theorem draws_str (hh:A.handled=none)(it:Addr)(x:Str)(t:Tok) :
  Draws prog w A it [it] x.cps.size (fun i v=>∃ c u,x.cps[i]?=some c/\v=.str ⟨#[c]⟩ u) (fun i h=>h.IsStrIter it (strIterType x) x t i):=by
 cases ha:x.cps.all (·<128)
 ·have e:strIterType x="str_iterator":=by simp[strIterType,ha]
  rw[e];exact Draws.strWide hh it x t
 ·have e:strIterType x="str_ascii_iterator":=by simp[strIterType,ha]
  rw[e];exact Draws.strAscii hh it x t
end
end HT
namespace L2
open PySem PySem.Spec PyProof.Rows
theorem Inv.turned2 {X:Cx}{pins:Pn_}{σ:St}{H:Hp}{s:Shared}{h':Heap}{t':Nat}{e it:Addr}(I:Inv X pins σ H s)(k:∀ b o,b≠e->b≠it->s.heap.get? b=some o->h'.get? b=some o)
  (en:H e=none) (eL:e≠X.env.locals) (e1:e∈X.ex\/X.aK.heap.objs.size<=e) (e2:∀ x c,X.env.cells.lookup x=some c->c≠e) (e3:∀ p∈X.pn++pins,p.1≠e)
  (hn:H it=none) (hL:it≠X.env.locals) (h1:it∈X.ex\/X.aK.heap.objs.size<=it) (h2:∀ x c,X.env.cells.lookup x=some c->c≠it) (h3:∀ p∈X.pn++pins,p.1≠it):Inv X pins σ H { s with heap:=h',toks:=t' }:=by
 have nit:∀ b u,H b=some u->b≠e/\b≠it:=fun b u q=>⟨(fun z=>by rw[z,en] at q;cases q),(fun z=>by rw[z,hn] at q;cases q)⟩
 refine I.step (g':=s.gens) (d':=s.drawn) (ch:=[e,it]) (fun b hb=>?_) (fun b o _ _ hc q _=>k b o (fun z=>hc (by simp[z])) (fun z=>hc (by simp[z])) q) (fun b o _ _ hc q _=>⟨o.slots,k b o (fun z=>hc (by simp[z])) (fun z=>hc (by simp[z])) q⟩) (fun _ _ _ _ n=>n)
  (fun b o hc q=>⟨o,k b o (fun z=>hc (by simp[z])) (fun z=>hc (by simp[z])) q⟩) (fun _ _ q=>q) (fun _ _ _ q=>q) (fun b ps q=>⟨#[],by rw[q];simp⟩) (fun m hm=>?_) (fun b u q=>?_) I.bare
 ·have z:b=e\/b=it:=by simpa using hb
  rcases z with rfl|rfl
  ·exact⟨e1,eL,e2,e3⟩
  ·exact⟨h1,hL,h2,h3⟩
 ·refine W_ fun n9=>?_;obtain⟨o,es,ep,ho,r⟩:=hm;apply n9;clear n9
  exact⟨o,es,ep,k _ o (Gx eL) (Gx hL) ho,r⟩
 ·refine (I.hok b u q).stay (fun c v hc z=>k c v ?_ ?_ z) (fun _ z=>z) fun _ _ z=>z
  ·rcases hc with z|z
   ·rw[z];exact (nit b u q).1
   ·exact (nit c _ z).1
  ·rcases hc with z|z
   ·rw[z];exact (nit b u q).2
   ·exact (nit c _ z).2
noncomputable def Ite (J:It):It:=⟨J.go,fun i H x H''=>∃ y H' T,J.yld i H y H'/\x=.ref T/\H' T=none/\H''=upd H' T (.tup [.int i,y]),J.stop⟩
theorem Z2V {X:Cx}{es:Le_}{k1:Nat}{tp:Pos}{e it:Addr}{i:Nat}{pins:Pn_}{s:Shared}{σ:St}{H:Hp}{E:Ps_}{fp:List Addr}{n:Nat}{P:Nat->Value->Prop}{St:Nat->Heap->Prop}{J:It}{tn:Nat->Heap->Prop}{old:Value}
  (D:Draws X.prog X.w X.A.in1 it fp n P St) (I:Inv X pins σ H s) (hf:∀ b∈[e,it],Z0G X pins H b) (he:IsEnum s.heap e it i old) (hst:St i s.heap) (hlt:i<n) (hne:e≠it) (hef:e∉fp)
  (hP:∀ x,P i x->∃ v,RelV v x/\J.yld i H v H) (hS:∀ h,St (i+1) h->tn (i+1) h) (htn:∀ h h',tn (i+1) h->(∀ b∈[it],∀ o,h.get? b=some o->h'.get? b=some o)->tn (i+1) h') :
  wpAny (model X.prog X.w) X.A (pyNext (.ref e)) (fun r s1=>∃ u,r=some u /\
   wpAny (model X.prog X.w) X.A (letOwnedTupleGo (.Tuple es k1 tp) (.ref e) u) (fun _ s2=>∃ x H',Inv X pins σ H' s2/\RelV x u/\(Ite J).yld i H x H'/\((∃ old,IsEnum s2.heap e it ((i+1:Nat):Int) old)/\tn (i+1) s2.heap)/\∀ b∈[e,it],H' b=none) E s1) E s:=by
 refine W_ fun n9=>?_;obtain⟨e0,e1,e2,e3,e4,e5⟩:=hf e (by simp)
 obtain⟨f0,f1,f2,f3,f4,f5⟩:=hf it (by simp)
 apply n9;clear n9
 refine wpAny_pyNext_enum_itemD D he hst hlt hne hef fun x h' tk hx ho hs' hT hsz hk=>?_
 refine W_ fun n9=>?_;obtain⟨v,rv,hy⟩:=hP x hx;apply n9;clear n9
 refine⟨_,rfl,?_⟩
 refine wpAny_letOwnedTupleGo_enum ho fun h2 he2 hsb=>?_
 have I1:Inv X pins σ H { s with heap:=h2,toks:=tk+1 }:=by
  have k2:∀ b o,b≠e->b≠it->s.heap.get? b=some o->h2.get? b=some o:=fun b o hb1 hb2 hb=>(hsb.2 b hb1).trans (hk b o hb1 hb2 hb)
  exact I.turned2 k2 e0 e1 e3 e4 e5 f0 f1 f3 f4 f5
 have hTn:H s.heap.objs.size=none:=I.fresh
 have hlte:e<s.heap.objs.size:=Zy he
 have hlti:it<s.heap.objs.size:=by obtain⟨o,z⟩:=D.live _ _ hst;exact Zy z
 have hT2:h2.get? s.heap.objs.size=some { cls:=.type "tuple",data:=.seq #[.int i tk,x] }:=(hsb.2 _ (G5 hlte)).trans hT
 refine W_ fun n9=>?_;obtain⟨g0,g1,g2,g3,g4,g5⟩:=I.fpOk (b:=s.heap.objs.size) (H':=H) (Z7 _) hTn;apply n9;clear n9
 refine⟨.ref s.heap.objs.size,upd H s.heap.objs.size (.tup [.int i,v]),?_,rfl,⟨v,H,s.heap.objs.size,hy,rfl,hTn,rfl⟩,⟨⟨x,by simpa using he2⟩,htn _ _ (hS _ hs') fun b hb o z=>?_⟩,fun b hb=>?_⟩
 ·refine I1.track hTn (ZF I.sz (Z7 _)) g1 g4 g5 ?_
  exact⟨by show 2<=sizeLine;decide,[.int i tk,x],.cons ⟨tk,rfl⟩ (.cons rv .nil),⟨_,hT2,rfl,_,rfl⟩⟩
 ·have:b=it:=by simpa using hb
  subst this
  exact (hsb.2 _ (Gx hne)).trans z
 ·have:b=e\/b=it:=by simpa using hb
  rcases this with rfl|rfl
  ·rw[UA (ZE hlte)];exact e0
  ·rw[UA (ZE hlti)];exact f0
theorem Z5P(he:∃ old,IsEnum h e it i old)(hb:b=e):∃ o,h.get? b=some o/\∀ v,o.data≠.cell v:=by
 subst hb
 obtain⟨old,he⟩:=he
 exact⟨_,he,fun v z=>by cases z⟩
theorem Z6l {P:Program}{w:World}{K:Fg_}{es:Le_}{k1:Nat}{tp:Pos}(x:Str)(t:Tok)(e it:Addr)(hne:e≠it):Zcn P w K (.Tuple es k1 tp) (Ite (Its x)) [e,it] e (fun i h=>(∃ old,IsEnum h e it i old)/\h.IsStrIter it (strIterType x) x t i) where
 mem:=by simp
 obj:=fun i h st b hb=>by
  have z:b=e\/b=it:=by simpa using hb
  rcases z with z|z
  ·exact Z5P st.1 z
  ·subst z
   refine W_ fun n9=>?_;obtain⟨o,e,c,d⟩:=st.2;apply n9;clear n9
   exact⟨o,e,fun v z=>by rw[d] at z;cases z⟩
 keep:=fun i h h' st k=>by
  refine W_ fun n9=>?_;obtain⟨⟨old,he⟩,o,e',r⟩:=st;apply n9;clear n9
  exact⟨⟨old,k e (by simp) _ he⟩,o,k it (by simp) o e',r⟩
 item:=by
  intro X hP hw hK hc i pins s σ H E I hf st hg
  subst hP hw hK
  refine W_ fun n9=>?_;obtain⟨⟨old,he⟩,hs⟩:=st;apply n9;clear n9
  exact Z2V (J:=Its x) (tn:=fun i h=>h.IsStrIter it (strIterType x) x t i) (HT.draws_str (A:=X.A.in1) (I.ok.hd hc) it x t) I hf he hs hg hne (by simpa using hne) (fun v z_=>by
   refine W_ fun n9=>?_;obtain⟨c,u,hcc,ev⟩:=z_;apply n9;clear n9
   subst ev;exact⟨.str ⟨#[c]⟩,⟨u,rfl⟩,rfl,c,hcc,rfl⟩) (fun h z=>z) fun h h' ⟨o,e',r⟩ k=>⟨o,k it (by simp) o e',r⟩
 done:=by
  intro X hP hw hK hc i pins s σ H E I hf st hg
  subst hP hw hK
  refine W_ fun n9=>?_;obtain⟨⟨old,he⟩,hs⟩:=st
  obtain⟨f0,f1,f2,f3,f4,f5⟩:=hf it (by simp)
  apply n9;clear n9
  have hg':i=x.cps.size:=hg
  subst hg'
  exact Zas (HT.draws_str (A:=X.A.in1) (I.ok.hd hc) it x t) he hs fun h' eb=>⟨rfl,I.turned (t':=s.toks) (fun b o hb e=>eb b o hb e) f0 f1 f3 f4 f5⟩
 self:=fun _ _ _ _ _ st h=>let ⟨⟨_,he⟩,_⟩:=st;WQ he h
noncomputable def ZhY (K:Fg_)(a:Addr):It:=⟨(Itt K a).go,(Itt K a).yld,fun i H=>∃ xs,SqT K H a xs/\xs.length=i⟩
theorem Z6k {P:Program}{w:World}{K:Fg_}{es:Le_}{k1:Nat}{tp:Pos}(a e it:Addr)(hne:e≠it)(hae:a≠e)(hai:a≠it):Zcn P w K (.Tuple es k1 tp) (Ite (ZhY K a)) [e,it] e (fun i h=>(∃ old,IsEnum h e it i old)/\h.IsTupleIter it a i) where
 mem:=by simp
 obj:=fun i h st b hb=>by
  have z:b=e\/b=it:=by simpa using hb
  rcases z with z|z
  ·exact Z5P st.1 z
  ·subst z
   refine W_ fun n9=>?_;obtain⟨o,e,c,d⟩:=st.2;apply n9;clear n9
   exact⟨o,e,fun v z=>by rw[d] at z;cases z⟩
 keep:=fun i h h' st k=>by
  refine W_ fun n9=>?_;obtain⟨⟨old,he⟩,o,e',r⟩:=st;apply n9;clear n9
  exact⟨⟨old,k e (by simp) _ he⟩,o,k it (by simp) o e',r⟩
 item:=by
  intro X hP hw hK hc i pins s σ H E I hf st hg
  subst hP hw hK
  refine W_ fun n9=>?_;obtain⟨⟨old,he⟩,hs⟩:=st
  obtain⟨xs,x,hq,hx⟩:=hg
  obtain⟨its,rv,p,hz⟩:=I.tuple hq
  obtain⟨u,hu,ru⟩:=rv.get hx;apply n9;clear n9
  have hi:i<its.toArray.size:=by
   have:=(Ji.mp hu).1
   simpa using this
  exact Z2V (J:=ZhY X.K a) (tn:=fun i h=>h.IsTupleIter it a i) (HT.draws_tuple (A:=X.A.in1) (I.ok.hd hc) it a hai its.toArray) I hf he ⟨hs,p⟩ hi hne (by simp[hne,Gx hae]) (fun v ev=>by
   have ev':v=u:=by
    have:its[i]?=some v:=by simpa using ev
    rw[hu] at this;cases this;rfl
   subst ev'
   exact⟨x,ru,rfl,fun ys hy=>by rw[I.tuple_inj hy hq];exact hx⟩) (fun h z=>z.1) fun h h' ⟨o,e',r⟩ k=>⟨o,k it (by simp) o e',r⟩
 done:=by
  intro X hP hw hK hc i pins s σ H E I hf st hg
  subst hP hw hK
  refine W_ fun n9=>?_;obtain⟨⟨old,he⟩,hs⟩:=st
  obtain⟨xs,hq,hx⟩:=hg
  obtain⟨its,rv,p,hz⟩:=I.tuple hq
  obtain⟨f0,f1,f2,f3,f4,f5⟩:=hf it (by simp)
  apply n9;clear n9
  have hl:=rv.length
  have hi:i=its.toArray.size:=by rw[Zr];lia
  rw[hi] at hs he
  exact Zas (HT.draws_tuple (A:=X.A.in1) (I.ok.hd hc) it a hai its.toArray) he ⟨hs,p⟩ fun h' eb=>⟨rfl,I.turned (t':=s.toks) (fun b o hb e=>eb b o hb e) f0 f1 f3 f4 f5⟩
 self:=fun _ _ _ _ _ st h=>let ⟨⟨_,he⟩,_⟩:=st;WQ he h
theorem Zdw {X:Cx}{pins:Pn_}{σ:St}{H:Hp}{s:Shared}(I:Inv X pins σ H s){a:Addr}{xs:Lv_}(e:SqT X.K H a xs):∃ its:Lu_,Uh xs its/\s.heap.IsTuple a its.toArray:=let ⟨its,r,p,_⟩:=I.tuple e;⟨its,r,p⟩
def ZiO (K:Fg_)(ta:TA):TI:=fun σ H R=>ta σ H fun vs H1=>(∃ x,vs=[.str x]/\R (Ite (Its x)) H1)\/(∃ a xs,vs=[.ref a]/\SqT K H1 a xs/\R (Ite (ZhY K a)) H1)
theorem Ze1 {X:Cx} {es:Le_} {k1:Nat} {tp:Pos} {a:Expr} {ta:TA} {p pos:Pos} (hg:Gl X "enumerate") (hm:X.mg "enumerate"=none) (ha:PA X [a] ta) (hs:autoParam (starEach [a] X.env=[(false,eval a X.env)]) q_._auto_1):PI X (.Tuple es k1 tp) (.Call (.Name "enumerate" p) [a] [] pos) (ZiO X.K ta):=by
 intro pins s σ H R I h
 refine Call_ (BW I hg hm boot_enumerate (G4 (thn (ha pos pins s σ H _ I h) fun us s1 z1_=>?_) hs rfl))
 refine W_ fun n9=>?_;obtain ⟨vs,H1,I1,r1,q1⟩:=z1_;apply n9;clear n9
 have fpo:∀ b∈[s1.heap.objs.size+1,s1.heap.objs.size],Z0G X pins H1 b:=fun b hb=>by
  have z:b=s1.heap.objs.size+1\/b=s1.heap.objs.size:=by simpa using hb
  have hle:s1.heap.objs.size<=b:=by rcases z with z|z <;> lia
  exact I1.fpOk hle (I1.hok.fresh hle)
 rcases q1 with ⟨x,rfl,q⟩|⟨b,xs,rfl,hx,q⟩
 ·cases r1 with
  |cons r rr =>
   cases rr
   obtain⟨t,rfl⟩:=r
   refine call_enumerate_str fun h' he hi hz kp=>?_
   refine WQ he ?_
   exact⟨_,[s1.heap.objs.size+1,s1.heap.objs.size],_,_,H1,rfl,I1.kept (t':=s1.toks) kp,Z6l x t (s1.heap.objs.size+1) s1.heap.objs.size (WN _),⟨⟨_,by simpa using he⟩,hi⟩,fpo,q⟩
 ·cases r1 with
  |cons r rr =>
   cases rr
   cases r
   refine W_ fun n9=>?_;obtain⟨its,rv,hT⟩:=Zdw I1 hx;apply n9;clear n9
   have hlt:b<s1.heap.objs.size:=by obtain⟨o,e,_⟩:=hT;exact Zy e
   refine HT.call_enumerate_tuple hT fun h' he hi hz kp=>?_
   refine WQ he ?_
   exact⟨_,[s1.heap.objs.size+1,s1.heap.objs.size],_,_,H1,rfl,I1.kept (t':=s1.toks) kp,Z6k b (s1.heap.objs.size+1) s1.heap.objs.size (WN _) (ZE (Yg hlt)) (ZE hlt),⟨⟨_,by simpa using he⟩,hi⟩,fpo,q⟩
noncomputable def numbered:Nat->Lt_->Lt_
 |_,[]=>[]
 |k,t::r=>.tup [.int k,t]::numbered (k+1) r
theorem Ug:∀ (k:Nat) (ts:Lt_),(numbered k ts).length=ts.length
 |_,[]=>rfl
 |k,t::r=>by simp[numbered,Ug (k+1) r]
theorem BQ:∀ (k:Nat) (ts:Lt_) (i:Nat) (t:Th),ts[i]?=some t->(numbered k ts)[i]?=some (.tup [.int ((k+i:Nat):Int),t])
 |_,[],i,t,e=>by simp at e
 |k,x::r,0,t,e=>by simp at e;subst e;simp[numbered]
 |k,x::r,i+1,t,e=>by
  have:=BQ (k+1) r i t (by simpa using e)
  simp only[numbered,gs_,this]
  rw[show k+1+i=k+(i+1) by lia]
section
variable {X:Cx}{K:Fg_}
theorem Z2B(h:Zcx K J B f ts):Zcx K (Ite J) B f (numbered 0 ts) where
 go:=fun i H s hi=>h.go i H s (by rw[Ug] at hi;exact hi)
 stop:=fun H s=>by rw[Ug];exact h.stop H s
 yld:=fun i H O x H' hi hf s hn y=>by
  rw[Ug] at hi
  refine W_ fun n9=>?_;obtain⟨v,H1,T,hy,rfl,hT,rfl⟩:=y
  obtain⟨s1,t,ht,b⟩:=h.yld i H O v H1 hi hf s hn hy;apply n9;clear n9
  have s2:Jl H1 (upd H1 T (.tup [.int i,v])):=Jl.upd hT
  have nT:¬ O.has T:=hn T (s1.free hT)
  refine⟨s1.trans s2,_,by simpa using BQ 0 ts i t ht,?_⟩
  exact .tup (SqT.of (UP JL nT)) (.cons (.int _) (.cons (b.mono (JU s2)) .nil))
theorem Z9h(h:SqT K (less H O) a xs)(b:ZX K (less H O) xs ts):Zcx K (ZhY K a) (low H O) O.far ts where
 go:=(FC h b).go
 stop:=fun H' s=>by
  have hl:SqT K H' a xs:=by
   rcases h with (h|⟨o,h⟩)|h
   ·exact .inl (.inl (s _ _ (MP (of_less h).1 fun z=>(of_less h).2 (.inl z))))
   ·exact .inl (.inr ⟨o,s _ _ (MP (of_less h).1 fun z=>(of_less h).2 (.inl z))⟩)
   ·exact .inr h
  exact⟨xs,hl,b.length⟩
 yld:=(FC h b).yld
noncomputable def QZ (f:FD):FL:=fun d=>(f d).bind fun T=>match T with|.str x=>some (numbered 0 (signs x))|.tup ts=>some (numbered 0 ts)|_=>none
theorem Zbi {es:Le_} {k1:Nat} {tp:Pos} {a:Expr} {f:FD} {p pos:Pos} (hg:Gl X "enumerate") (hm:X.mg "enumerate"=none) (ha:PD X a f) (hs:starEach [a] X.env=[(false,eval a X.env)]) (hs1:starEach [a] X.env=(false,eval a X.env)::starEach [] X.env):PDI X (.Tuple es k1 tp) (.Call (.Name "enumerate" p) [a] [] pos) (QZ f) :=
 PI.imp (Ze1 hg hm (M0 ha Wc hs1) hs) fun σ H R z_=>by
  refine W_ fun n9=>?_;obtain⟨O,d,ts,r,e,q⟩:=z_;apply n9;clear n9
  unfold QZ at e
  cases hf:f d with
  |none=>rw[hf] at e;cases e
  |some T =>
   rw[hf] at e
   cases T with
   |str x=>cases e;exact⟨O,d,_,r,hf,fun v H' s b=>by cases b;exact .inl ⟨x,rfl,q _ H' s (Z2B (Z5C x))⟩⟩
   |tup us=>cases e;exact⟨O,d,_,r,hf,fun v H' s b=>by cases b with|tup e' b'=>exact .inr ⟨_,_,rfl,(Jt H' O).seqT e',q _ H' s (Z2B (Z9h e' b'))⟩⟩
   |_=>cases e
end
section
variable {X:Cx}{K:Fg_}{o a b c e:Expr}{fo fa fb fc f:FD}{pos:Pos}{k:Nat}
def rM1 (g:Str->Str->Option V):V->Lv_->Hp->VK->Prop:=fun x xs H Q=>∃ z y r,x=.str z/\xs=[.str y]/\g z y=some r/\Q r H
theorem ZeH:MtR X "str.find" (rM1 fun z y=>some (.int (MS z y))):=by
 intro pins s σ H x xs v us Q I rx rs h
 refine W_ fun n9=>?_;obtain⟨z,y,r,rfl,rfl,e,q⟩:=h;apply n9;clear n9
 cases e
 refine W_ fun n9=>?_;obtain⟨t,rfl⟩:=rx
 obtain⟨u,rfl,ru⟩:=vals1 rs
 obtain⟨t2,rfl⟩:=ru;apply n9;clear n9
 exact SC.find ⟨.int _,H,I.tok _,⟨_,rfl⟩,q⟩
theorem Z8S:MtR X "str.startswith" (rM1 fun z y=>some (.bl (Jn z y))):=by
 intro pins s σ H x xs v us Q I rx rs h
 refine W_ fun n9=>?_;obtain⟨z,y,r,rfl,rfl,e,q⟩:=h;apply n9;clear n9
 cases e
 refine W_ fun n9=>?_;obtain⟨t,rfl⟩:=rx
 obtain⟨u,rfl,ru⟩:=vals1 rs
 obtain⟨t2,rfl⟩:=ru;apply n9;clear n9
 exact SC.startswith ⟨.bl _,H,I,rfl,q⟩
noncomputable def fM1 (g:Str->Str->Option Th)(fo fa:FD):FD:=f2 (fun x y=>match x,y with|.str z,.str w=>g z w|_,_=>none) fo fa
theorem ZeL (hg:∀ z w T,g z w=some T->∃ v,g' z w=some v/\∀ H,JG K H v T):∀ σ H Q,Bp K (fM1 g fo fa) σ H Q->tBM K "str" (rM1 g') (Z93 K fo) (Z5z K (Z6 fa J7)) σ H Q:=fun σ H Q z_=>by
 refine W_ fun n9=>?_;obtain⟨O,d,T,R,e,q⟩:=z_
 obtain⟨x,y,h1,h2,e⟩:=Z9z e;apply n9;clear n9
 cases x with
 |str z =>
  cases y with
  |str w =>
   refine W_ fun n9=>?_;obtain⟨v,hv,bv⟩:=hg z w T e;apply n9;clear n9
   refine⟨O,d,_,R,h1,fun v1 H1 s1 b1=>?_⟩
   rw[b1.str]
   refine⟨rfl,O,d,[.str w],R.mono s1,by unfold Z6 J7;rw[h2];rfl,fun vs H2 s2 b2=>?_⟩
   refine W_ fun n9=>?_;obtain⟨u,rfl,bu⟩:=NZ b2;apply n9;clear n9
   rw[bu.str]
   exact⟨z,w,v,rfl,rfl,hv,q v H2 (s1.trans s2) (bv _)⟩
  |_=>cases e
 |_=>cases e
theorem Zgv {name:Str} {id:String} {apos cpos:Pos} {g:Str->Str->Option Th} {g':Str->Str->Option V} (hg:∀ z w T,g z w=some T->∃ v,g' z w=some v/\∀ H,JG X.K H v T) (slot:Slot "str" name id) (hty:typeOf (.builtin id)=pure (.type "method_descriptor")) (hm:MtR X id (rM1 g')) (ho:PB X o fo) (ha:PB X e fa)
  (hbase:autoParam (attributeBase o name X.env (eval o X.env)=eval o X.env) q_._auto_1)
  (hfew:autoParam (((backTo cpos (starEach (e::[]) X.env)).all (fun x=>!x.1)&&(backToKw cpos (keywordEach [] X.env)).all (fun x=>x.1.isSome)
  &&decide ((e::[]).length+([]:List Keyword).length+(if ([]:List Keyword).isEmpty then 0 else 1)<30))=true) q_._auto_1)
  (hline:autoParam ((apos.endLine == cpos.line)=true) q_._auto_1) (hs:autoParam (starEach (e::[]) X.env=(false,eval e X.env)::starEach [] X.env) q_._auto_1) (hplain:autoParam ((backTo cpos (starEach [] X.env)).any (·.1)=false) q_._auto_1) :
  PD X (.Call (.Attribute o name apos) [e] [] cpos) (fM1 g fo fa):=PE.imp (Zb7 Z3n slot hty hm ho (Fw ha Z3R hs) hbase hfew hline hs hplain) (ZeL hg)
theorem Zek(ho:PB X o fo)(ha:PB X e fa)
  (hbase:attributeBase o "find" X.env (eval o X.env)=eval o X.env)
  (hfew:((backTo cpos (starEach (e::[]) X.env)).all (fun x=>!x.1)&&(backToKw cpos (keywordEach [] X.env)).all (fun x=>x.1.isSome)
  &&decide ((e::[]).length+([]:List Keyword).length+(if ([]:List Keyword).isEmpty then 0 else 1)<30))=true)
  (hline:(apos.endLine == cpos.line)=true) (hs:starEach (e::[]) X.env=(false,eval e X.env)::starEach [] X.env) (hplain:(backTo cpos (starEach [] X.env)).any (·.1)=false) :
  PD X (.Call (.Attribute o "find" apos) [e] [] cpos) (fM1 (fun z y=>some (.int (MS z y))) fo fa) :=
 Zgv (fun z w T e=>by cases e;exact⟨_,rfl,fun _=>.int _⟩) Z3y Z3x ZeH ho ha hbase hfew hline hs hplain
theorem Z8u(ho:PB X o fo)(ha:PB X e fa)
  (hbase:attributeBase o "startswith" X.env (eval o X.env)=eval o X.env)
  (hfew:((backTo cpos (starEach (e::[]) X.env)).all (fun x=>!x.1)&&(backToKw cpos (keywordEach [] X.env)).all (fun x=>x.1.isSome)
  &&decide ((e::[]).length+([]:List Keyword).length+(if ([]:List Keyword).isEmpty then 0 else 1)<30))=true)
  (hline:(apos.endLine == cpos.line)=true) (hs:starEach (e::[]) X.env=(false,eval e X.env)::starEach [] X.env) (hplain:(backTo cpos (starEach [] X.env)).any (·.1)=false) :
  PD X (.Call (.Attribute o "startswith" apos) [e] [] cpos) (fM1 (fun z y=>some (.bl (Jn z y))) fo fa) :=
 Zgv (fun z w T e=>by cases e;exact⟨_,rfl,fun _=>.bl _⟩) PySem.F.slot_str_startswith PySem.F.type_str_startswith Z8S ho ha hbase hfew hline hs hplain
end
noncomputable def Qq (n m:Nat)(b:FS):Lt_->Option Th:=fun Ts=>if Ts.length=n then (match b (Ts.map (fun T=>some (Dv.th T))++Zm (m-Ts.length) none) with|some (.rt T)=>some T|_=>none) else none
theorem Z7V(e:Qq n m b Ts=some T):Ts.length=n/\b (Ts.map (fun T=>some (Dv.th T))++Zm (m-Ts.length) none)=some (.rt T):=by
 unfold Qq at e
 split at e
 ·rename_i h
  refine⟨h,?_⟩
  split at e
  ·rename_i h2;cases e;exact h2
  ·cases e
 ·cases e
noncomputable def Zdi (N:Ls_)(sc scope:Scope):Bool:=scope.kind == .function&&scope.names.all (fun y=>y.2 != .cell)&&scope.names.all (fun y=>y.2 != .local||scope.names.lookup y.1 == some .local)
&&scope.names.all (fun y=>y.2 != .free||(sc.names.lookup y.1 == some .cell||sc.names.lookup y.1 == some .free))&&N.all (fun y=>scope.names.lookup y != some .local)
theorem Fo(h1:X.env.scope=sc)(h2:X.N=N)(h:Zdi N sc scope=true):Yt X ts scope:=by
 unfold Zdi at h
 simp only[ZP,U8] at h
 refine W_ fun n9=>?_;obtain⟨⟨⟨⟨a,b⟩,c⟩,d⟩,e⟩:=h;apply n9;clear n9
 refine⟨by simpa using a,fun y hy=>by simpa using b y hy,fun y hy hl=>?_,fun y hy hf=>?_,fun y hy=>?_⟩
 ·have:=c y hy
  rw[hl] at this
  simpa using this
 ·have:=d y hy
  rw[hf] at this
  have:(sc.names.lookup y.1 == some .cell||sc.names.lookup y.1 == some .free)=true:=by simpa using this
  rw[<- h1] at this
  show X.env.scope.names.lookup y.1=some .cell\/X.env.scope.names.lookup y.1=some .free
  simpa using this
 ·rw[h2] at hy
  simpa using e y hy
theorem Z0x {K:Fg_}{H:Hp}:∀ ns:List Int,ZX K H (ns.map V.int) (ns.map Th.int)
 |[]=>.nil
 |n::ns=>.cons (.int n) (Z0x ns)
theorem Zh4 {K:Fg_}{H:Hp}{a:Addr}{ns:List Int}{φ:Lt_->Option Th}{E:XK}(hS:SqL K H a (ns.map V.int))(h:φ [.lst (ns.map Th.int)]=some (.bl true)):spF K φ [.ref a] H (fun v _=>v=.bl true) E:=by
 refine⟨fun _=>False,_,_,fun _ z=>z.elim,.cons (.lst ?_ (Z0x ns)) .nil,h,fun v H' _ b=>?_⟩
 ·rw[less_none];exact hS
 ·cases b;rfl
section
variable {X:Cx}{a b c e:Expr}{fa fb fc f:FD}{pos:Pos}{k:Nat}
theorem Zeh(hc:X.calm=true)(hN:X.N.Nodup)(hi:X.N[i]?=some x)(hj:X.N[j]?=some y)(hx:Loc X.env.scope x)(hy:Loc X.env.scope y)
  (hf:X.fn x=true\/X.env.scope.names.lookup x=some .local) (hf2:X.fn y=true\/X.env.scope.names.lookup y=some .local):PDG X (.Tuple [.Name x px,.Name y py] k pos) (MG i j) :=
 Zbj hc hN hi hj hx hy (Z8m hc (WA (MT hN hi hx hf) (WA (MT hN hj hy hf2) Z3N)))
end
mutual
inductive Lit:Expr->Th->Prop where
 |int {i:Int} {j p}:Lit (.Constant (.int i) j p) (.int i)
 |neg {i:Int} {j p p2}:Lit (.UnaryOp .USub (.Constant (.int i) j p) p2) (.int (-i))
 |bl {b:Bool} {j p}:Lit (.Constant (.bool b) j p) (.bl b)
 |non {j p}:Lit (.Constant .none j p) .non
 |str {x:Str} {j p}:Lit (.Constant (.str x) j p) (.str x)
 |tup {es:Le_} {ts:Lt_} {k p} (h:Zdp es ts) (z:ts.length<=1000000):Lit (.Tuple es k p) (.tup ts)
 |lst {es:Le_} {ts:Lt_} {p} (h:Zdp es ts) (z:ts.length<=1000000):Lit (.List es p) (.lst ts)
inductive Zdp:List Expr->Lt_->Prop where
 |nil:Zdp [] []
 |cons {e:Expr} {t:Th} {es:Le_} {ts:Lt_} (h:Lit e t) (r:Zdp es ts):Zdp (e::es) (t::ts)
end
section
variable {X:Cx}{e:Expr}{f f':FD}{pos:Pos}
theorem PD.congr (h:PD X e f)(i:∀ d T,f' d=some T->f d=some T):PD X e f':=PE.imp h fun σ H Q ⟨O,d,T,R,e,q⟩=>⟨O,d,T,R,i d T e,q⟩
theorem PF.congr(h:PF X e g)(i:∀ d T,g' d=some T->g d=some T):PF X e g':=PE.imp h fun σ H Q ⟨O,d,T,R,e,q⟩=>⟨O,d,T,R,i d T e,q⟩
noncomputable def fCL (ts:Lt_):FL:=fun _=>some ts
theorem ZaB(h:Lit e T)(es:Le_)(env:Env):starEach (e::es) env=(false,eval e env)::starEach es env:=by
 cases h <;> rfl
mutual
theorem ZcU:∀ {e:Expr} {T:Th},Lit e T->PD X e (fC T)
 |_,_,.int=>Z8w
 |_,_,.neg=>PD.congr (Zgs Z8w) fun d T e=>by cases e;rfl
 |_,_,.bl=>Zgy
 |_,_,.non=>ZcT
 |_,_,.str=>ZcS
 |_,_,.tup (ts:=ts) h z=>PD.congr (ZcR (Z15 h)) fun d T e=>by
   cases e
   unfold QY fCL Z1G
   show ((if ts.length<=1000000 then some ts else none).map Th.tup)=_
   rw[if_pos z];rfl
 |_,_,.lst (ts:=ts) h z=>PD.congr (PF.pd (Z3P (Z15 h))) fun d T e=>by
   cases e
   unfold GA Ck fCL Z1G
   show ((if ts.length<=1000000 then some ts else none).map Th.lst)=_
   rw[if_pos z];rfl
theorem Z15:∀ {es:Le_} {ts:Lt_},Zdp es ts->PDA X es (fCL ts)
 |_,_,.nil=>PA.imp Z8t fun σ H Q ⟨O,d,T,R,e,q⟩=>⟨O,d,T,R,e,q⟩
 |_,_,.cons h r=>PA.imp (Z5n (ZcU h) (Z15 r) (ZaB h _ _)) fun σ H Q ⟨O,d,T,R,e,q⟩=>⟨O,d,T,R,e,q⟩
end
theorem Zgd {es:Le_}{ts:Lt_}{p:Pos}(h:Zdp es ts)(z:ts.length<=1000000):PF X (.List es p) (fCL ts):=PF.congr (Z3P (Z15 h)) fun d T e=>by
 cases e
 unfold Ck fCL Z1G
 show (if ts.length<=1000000 then some ts else none)=_
 rw[if_pos z]
end
section
variable {X:Cx}{a b c e:Expr}{fa fb fc f:FD}{F G:FS}{pos:Pos}{k:Nat}
noncomputable def Gj (c:FB)(F:FS):Nat->FS
 |0,_=>none
 |n+1,d=>(c d).bind fun b=>if b=true then (F d).bind fun o=>match o with|.nx d'=>Gj c F n d'|.ct d'=>Gj c F n d'|.bk d'=>some (.nx d')|.rt T=>some (.rt T)|.xc c=>some (.xc c) else some (.nx d)
theorem D1 {c:FB}{F:FS}:∀ (n:Nat) {d:Sd} {o:Out},Gj c F n d=some o->Gj c F (n+1) d=some o
 |0,d,o,h=>by cases h
 |n+1,d,o,h=>by
  unfold Gj at h ⊢
  cases hc:c d with
  |none=>rw[hc] at h;cases h
  |some b =>
   rw[hc] at h
   change (if b=true then _ else _)=_ at h
   change (if b=true then _ else _)=_
   cases b with
   |false=>exact h
   |true =>
    rw[if_pos rfl] at h ⊢
    cases hF:F d with
    |none=>rw[hF] at h;cases h
    |some o1 =>
     rw[hF] at h
     cases o1 with
     |nx d'=>exact D1 n h
     |ct d'=>exact D1 n h
     |bk d'=>exact h
     |rt T=>exact h
     |xc c=>exact h
theorem Z1V {c:FB}{F:FS}{n m:Nat}(hl:n<=m){d:Sd}{o:Out}(h:Gj c F n d=some o):Gj c F m d=some o:=by
 induction hl with
 |refl=>exact h
 |step _ ih=>exact D1 _ ih
open Classical in
noncomputable def DK (c:FB)(F:FS):FS:=fun d=>if h:∃ n o,Gj c F n d=some o then some h.choose_spec.choose else none
theorem Ci {c:FB}{F:FS}{n:Nat}{d:Sd}{o:Out}(h:Gj c F n d=some o):DK c F d=some o:=by
 have hx:∃ n o,Gj c F n d=some o:=⟨n,o,h⟩
 unfold DK
 rw[dif_pos hx]
 have h2:=hx.choose_spec.choose_spec
 have h3:=Z1V (Nat.le_max_left n hx.choose) h
 have h4:=Z1V (Nat.le_max_right n hx.choose) h2
 rw[h4] at h3
 exact h3
theorem Z4t {c:FB}{F:FS}{d:Sd}{o:Out}(h:DK c F d=some o):∃ n,Gj c F n d=some o:=by
 unfold DK at h
 split at h
 ·rename_i hx
  injection h with h
  exact⟨_,h ▸ hx.choose_spec.choose_spec⟩
 ·cases h
theorem Z8q {body:List Stmt}{fc:FB}(hp:YC (model X.prog X.w) X.A X.env X.xe)(hc:PDT X c fc)(hb:Zai X body F):PDS X (.While c body [] pos) (DK fc F):=PS.imp (ZaT hp hc hb) fun D σ H z_=>by
 refine W_ fun n9=>?_;obtain⟨O,d,o,R,e,q⟩:=z_
 obtain⟨n0,e0⟩:=Z4t e;apply n9;clear n9
 refine⟨fun m aF H'=>∃ O' d',O'.far=O.far/\Rep X.K H' O' aF d'/\Jl (low H O) (low H' O')/\Gj fc F m d'=some o,⟨n0,O,d,rfl,R,Jl.refl _,e0⟩,?_⟩
 rintro m aF H' ⟨O',d',hf',R',s',e'⟩
 cases m with
 |zero=>cases e'
 |succ m =>
  unfold Gj at e'
  cases hcd:fc d' with
  |none=>rw[hcd] at e';cases e'
  |some b =>
   rw[hcd] at e'
   change (if b=true then _ else _)=_ at e'
   refine⟨O',d',b,R',hcd,fun H1 s1=>?_⟩
   have s2:Jl (low H O) (low H1 O'):=s'.trans (YM s1)
   cases b with
   |false =>
    rw[if_neg Jy] at e'
    show (if false=true then _ else _)
    rw[if_neg Jy]
    cases e'
    exact q aF H1 O' hf' s2 (R'.mono s1)
   |true =>
    rw[if_pos rfl] at e'
    show (if true=true then _ else _)
    rw[if_pos rfl]
    refine⟨fun aL H2=>∃ O2 d2,O2.far=O.far/\Rep X.K H2 O2 aL d2/\Jl (low H O) (low H2 O2)/\Gj fc F m d2=some o,fun aL H2 h=>⟨m,Ua m,h⟩,?_⟩
    cases hF:F d' with
    |none=>rw[hF] at e';cases e'
    |some o1 =>
     rw[hF] at e'
     refine⟨O',d',o1,R'.mono s1,hF,?_⟩
     cases o1 with
     |nx d2=>exact fun aL H2 O2 hf2 s3 R2=>⟨O2,d2,hf2.trans hf',R2,s2.trans s3,e'⟩
     |ct d2=>exact fun aL H2 O2 hf2 s3 R2=>⟨O2,d2,hf2.trans hf',R2,s2.trans s3,e'⟩
     |bk d2=>cases e';exact fun aL H2 O2 hf2 s3 R2=>q aL H2 O2 (hf2.trans hf') (s2.trans s3) R2
     |xc c=>cases e';exact fun H2 s3=>q H2 (s2.trans s3)
     |rt T2=>cases e';rw[hf'];exact fun v H2 s3 b2=>q v H2 (s2.trans s3) b2
noncomputable def Zhg (f:FD)(g:FG):FS:=fun d=>(f d).bind fun T=>(g T d).map Out.nx
theorem Zed(he:PD X e f)(hg:PDG X tg g)(hs:swapsWithSole [tg] e pos.line X.env=pure false)(hw:swappedStores [tg] e X.env=pure none)
  (h1:(assignEach [tg] X.env).map (·.2)=[assign tg X.env]):PDS X (.Assign [tg] e pos) (Zhg f g):=PS.imp (Zgb he hg hs hw h1) fun D σ H z_=>by
 refine W_ fun n9=>?_;obtain⟨O,d,o,R,e,q⟩:=z_;apply n9;clear n9
 unfold Zhg at e
 cases hf:f d with
 |none=>rw[hf] at e;cases e
 |some T =>
  rw[hf] at e
  change (g T d).map Out.nx=_ at e
  cases hg:g T d with
  |none=>rw[hg] at e;cases e
  |some d' =>
   rw[hg] at e
   cases e
   exact⟨O,d,T,R,hf,fun v H' s b=>⟨O,d,T,d',R.mono s,b,hg,fun aF R'=>q aF H' O rfl (YM s) R'⟩⟩
theorem Zb1(hc:X.calm=true)(S:Yt X [x,y] scope)(hN:([x,y]++X.N).Nodup)(hx:scope.names.lookup x=some .local)(hy:scope.names.lookup y=some .local)(hi:PDI X (.Tuple [.Name x px,.Name y py] k1 pt) iter fi)
  (ht:∀ cl aC H1 C fp,Zdn (cxC X [x,y] scope cl aC H1 C fp) ifs ft) (he:∀ cl aC H1 C fp,PD (cxC X [x,y] scope cl aC H1 C fp) elt fe) (hs:∀ x,foldedSetIterable iter X.env x=pure x) :
  PF X (.ListComp elt [⟨.Tuple [.Name x px,.Name y py] k1 pt,iter,ifs,0⟩] scope pos) (Um g2 fi ft fe) :=
 PE.imp (Z8o (tt:=liftT X.K ft) (te:=Bp X.K fe) hc S (PI.imp hi Zhc) (fun cl aC H1 C fp=>Z8m (X:=cxC X [x,y] scope cl aC H1 C fp) hc (WA (MT (i:=0) hN rfl (Z0E (Jk hx)) (.inr (Jk hx))) (WA (MT (i:=1) hN rfl (Z0E (Jk hy)) (.inr (Jk hy))) Z3N))) ht he hs) (DQ Zdj)
theorem Z6z(hN0:X.N.Nodup)(hi':X.N[i]?=some z)(hz:Loc X.env.scope z)(hc:X.calm=true)(S:Yt X [x,y] scope)(hN:([x,y]++X.N).Nodup)(hx:scope.names.lookup x=some .local)(hy:scope.names.lookup y=some .local)(hi:PDI X (.Tuple [.Name x px,.Name y py] k1 pt) iter fi)
  (ht:∀ cl aC H1 C fp,Zdn (cxC X [x,y] scope cl aC H1 C fp) ifs ft) (he:∀ cl aC H1 C fp,PD (cxC X [x,y] scope cl aC H1 C fp) elt fe)
  (hsw:swapsWith (.ListComp elt [⟨.Tuple [.Name x px,.Name y py] k1 pt,iter,ifs,0⟩] scope pos) (some (.Name z pz)) spos.line X.env=pure true)
  (hf':X.fn z=true\/X.env.scope.names.lookup z=some .local)
  (hs:∀ x,foldedSetIterable iter X.env x=pure x) :
  PDS X (.Assign [.Name z pz] (.ListComp elt [⟨.Tuple [.Name x px,.Name y py] k1 pt,iter,ifs,0⟩] scope pos) spos) (Yy i (GA (Um g2 fi ft fe))) :=
 PS.imp (Z8e (tt:=liftT X.K ft) (te:=Bp X.K fe) hN0 hi' hz hc S (PI.imp hi Zhc) (fun cl aC H1 C fp=>Z8m (X:=cxC X [x,y] scope cl aC H1 C fp) hc (WA (MT (i:=0) hN rfl (Z0E (Jk hx)) (.inr (Jk hx))) (WA (MT (i:=1) hN rfl (Z0E (Jk hy)) (.inr (Jk hy))) Z3N))) ht he hsw hf' hs) fun D σ H h=>by
  refine W_ fun n9=>?_;obtain⟨O,d,o,R,e,q⟩:=h;apply n9;clear n9
  unfold Yy GA at e
  cases hf:Um g2 fi ft fe d with
  |none=>rw[hf] at e;cases e
  |some ts =>
   rw[hf] at e
   cases e
   refine DQ Zdj σ H _ ⟨O,d,ts,R,hf,fun v H' s b=>?_⟩
   refine W_ fun n9=>?_;obtain⟨a,xs,rfl,e2,e3,b⟩:=b;apply n9;clear n9
   exact q _ H' O rfl (YM s) ((R.mono s).set i (.lst (SqL.of (UP e3 (R.notOwn e2))) (b.mono Mb)))
end
structure Fly (P:Program)(w:World)(l:List Env)(H:Hp)(s:Shared)(C:Addr)(H1:Hp)(B:Heap)(ea t:Addr)(s':Shared):Prop where
 os:s'.os=s.os
 bare:AllBare s'.gens
 un:Un (frs l) [] H H1 s.heap s'.heap
 hok:HOk P w H1 s'.heap
 fly:Heap.FlyingW B l ea (.ref C) (.ref t) s'.heap
 cov:∀ b o,s.heap.get? b=some o->H b=none->b∉frs l->B.get? b=some o
 all:∀ b o,s.heap.get? b=some o->b∉frs l->∃ o',B.get? b=some o'
 trk:∀ b o,H1 b=some o->∃ o',B.get? b=some o'
section
variable {P:Program}{w:World}{l:List Env}{H H1:Hp}{s s':Shared}{C ea t:Addr}{B:Heap}
end
section
variable {X:Cx}{K:Fg_}{o a b c e:Expr}{fo fa fb fc f:FD}{pos:Pos}{k:Nat}
noncomputable def Mn:Lt_->Option (Ls_)
 |[]=>some []
 |.str y::r=>(Mn r).map (y::·)
 |_=>none
theorem Z0P:∀ {ts:Lt_} {ys:Ls_} {vs:Lv_} {us:Lu_},Mn ts=some ys->ZX K H vs ts->Uh vs us->StrsAre us ys
 |[],_,_,_,e,b,r=>by cases e;cases b;cases r;exact .nil
 |t::ts,_,_,_,e,b,r=>by
  cases b with
  |cons b1 b2=>cases r with
   |cons r1 r2 =>
    cases b1 with
    |str y =>
     unfold Mn at e
     cases hb:Mn ts with
     |none=>rw[hb] at e;cases e
     |some bs =>
      rw[hb] at e
      cases e
      obtain⟨t,rfl⟩:=r1
      exact .cons y t (Z0P hb b2 r2)
    |_=>cases e
end
section
variable {X:Cx}{K:Fg_}{o e:Expr}{fo fa:FD}
theorem Z0w:∀ l:Ls_,ZX K H (l.map V.str) (l.map Th.str)
 |[]=>.nil
 |y::l=>.cons (.str y) (Z0w l)
end
def leS (a b:Str):Prop:=a.cps.toList<=b.cps.toList
theorem DF(h1:leS a b)(h2:leS b c):leS a c:=List.le_trans h1 h2
theorem WF(h1:leS a b)(h2:leS b a):a=b:=by
 have h:a.cps.toList=b.cps.toList:=CY h1 h2
 cases a;cases b
 simp only[Zfr]
 exact Wn.mp h
theorem Dw:∀ {a b:Ls_},a.Perm b->a.Pairwise leS->b.Pairwise leS->a=b
 |[],b,p,_,_=>by rw[Zhu.mp p]
 |x::a,[],p,_,_=>absurd p.length_eq (by simp)
 |x::a,y::b,p,ha,hb=>by
  have hxy:x=y:=by
   have h1:x∈y::b:=p.mem_iff.mp Z1
   have h2:y∈x::a:=p.mem_iff.mpr Z1
   rcases Zc.mp h1 with h1|h1
   ·exact h1
   ·rcases Zc.mp h2 with h2|h2
    ·exact h2.symm
    ·exact WF ((Yn.mp ha).1 y h2) ((Yn.mp hb).1 x h1)
  subst hxy
  rw[Dw p.cons_inv (Yn.mp ha).2 (Yn.mp hb).2]
open Classical in
noncomputable def Ma (ss:Ls_):Ls_:=if h:∃ r:Ls_,r.Perm ss/\r.Pairwise leS then h.choose else []
theorem Fu(hp:r.Perm ss)(hs:r.Pairwise leS):Ma ss=r:=by
 have h:∃ r:Ls_,r.Perm ss/\r.Pairwise leS:=⟨r,hp,hs⟩
 unfold Ma
 rw[dif_pos h]
 exact Dw (h.choose_spec.1.trans hp.symm) h.choose_spec.2 hs
section
variable {X:Cx}{K:Fg_}{e:Expr}{es:Le_}{fs:FL}{p pos:Pos}
theorem Z1W:∀ {us:Lu_} {ys:Ls_},StrsAre us ys->Uh (ys.map V.str) us:=by
 intro us ys h
 induction h with
 |nil=>exact .nil
 |cons y t h ih=>exact .cons ⟨t,rfl⟩ ih
end
end L2
namespace Sg
open PySem PyProof.Rows
section pure
variable {O:KeyOrd}{key:Keyed->O.α}
def Up (key:Keyed->O.α)(l:List Keyed):Prop:=l.Pairwise (fun x y=>O.kle (key x) (key y))
def Below (key:Keyed->O.α)(l m:List Keyed):Prop:=∀ x∈l,∀ y∈m,O.kle (key x) (key y)
theorem Up.app(h1:Up key l)(h2:Up key m)(h3:Below key l m):Up key (l++m) :=
 YG.mpr ⟨h1,h2,h3⟩
theorem Up.sub(h:Up key m)(hs:l.Sublist m):Up key l:=Jz.sublist hs h
theorem Below.sub(h:Below key l m)(h1:∀ x∈l',x∈l)(h2:∀ x∈m',x∈m):Below key l' m' :=
 fun x hx y hy=>h x (h1 x hx) y (h2 y hy)
theorem Up.halves(h:Up key l)(k:Nat):Below key (l.take k) (l.drop k):=by
 have h':Up key (l.take k++l.drop k):=by rw[Zp];exact h
 exact (YG.mp h').2.2
theorem DS:Below key l []:=fun _ _ _ h=>absurd h (by simp)
theorem DC:Below key [] l:=fun _ h=>absurd h (by simp)
theorem Below.app(h1:Below key l n)(h2:Below key m n):Below key (l++m) n :=
 fun x hx y hy=>(ZR.mp hx).elim (fun q=>h1 x q y hy) fun q=>h2 x q y hy
theorem Below.app'(h1:Below key l m)(h2:Below key l n):Below key l (m++n) :=
 fun x hx y hy=>(ZR.mp hy).elim (fun q=>h1 x hx y q) fun q=>h2 x hx y q
structure Lo (key:Keyed->O.α)(a b out:List Keyed)(ia ib:Nat):Prop where
 perm:out.Perm (a.take ia++b.take ib)
 up:Up key out
 ba:Below key out (a.drop ia)
 bb:Below key out (b.drop ib)
variable {a b out:List Keyed}{ia ib k:Nat}
theorem Lo.chunkA (h:Lo key a b out ia ib)(ua:Up key a)(hb:Below key ((a.drop ia).take k) (b.drop ib)) :
  Lo key a b (out++(a.drop ia).take k) (ia+k) ib:=by
 refine⟨?_,?_,?_,?_⟩
 ·rw[Fp]
  refine (h.perm.append_right _).trans ?_
  rw[Zi,Zi]
  exact JD _ Yw
 ·exact h.up.app (ua.sub ((Ye ..).trans (Yx ..))) (h.ba.sub (fun _ q=>q) fun _ q=>Uc q)
 ·rw[<- JV]
  exact (h.ba.sub (fun _ q=>q) fun _ q=>JQ q).app ((ua.sub (Yx ..)).halves k)
 ·exact h.bb.app hb
theorem Lo.chunkB (h:Lo key a b out ia ib)(ub:Up key b)(ha:Below key ((b.drop ib).take k) (a.drop ia)) :
  Lo key a b (out++(b.drop ib).take k) ia (ib+k):=by
 refine⟨?_,?_,?_,?_⟩
 ·rw[Fp,<- Zi]
  exact h.perm.append_right _
 ·exact h.up.app (ub.sub ((Ye ..).trans (Yx ..))) (h.bb.sub (fun _ q=>q) fun _ q=>Uc q)
 ·exact h.ba.app ha
 ·rw[<- JV]
  exact (h.bb.sub (fun _ q=>q) fun _ q=>JQ q).app ((ub.sub (Yx ..)).halves k)
theorem Lo.finA (h:Lo key a b out ia ib)(ua:Up key a)(ub:Up key b)(hx:Below key (a.drop ia) (b.drop ib)) :
  (out++a.drop ia++b.drop ib).Perm (a++b)/\Up key (out++a.drop ia++b.drop ib):=by
 refine⟨?_,((h.up.app (ua.sub (Yx ..)) h.ba).app (ub.sub (Yx ..)) (h.bb.app hx))⟩
 refine ((h.perm.append_right _).append_right _).trans ?_
 have e:(a++b)=(a.take ia++a.drop ia)++(b.take ib++b.drop ib):=by rw[Zp,Zp]
 rw[e]
 simp only[Zi]
 refine JD _ ?_
 rw[<- Zi,<- Zi]
 exact G3 _ Yw
theorem Lo.finB (h:Lo key a b out ia ib)(ua:Up key a)(ub:Up key b)(hx:Below key (b.drop ib) (a.drop ia)) :
  (out++b.drop ib++a.drop ia).Perm (a++b)/\Up key (out++b.drop ib++a.drop ia):=by
 refine⟨?_,((h.up.app (ub.sub (Yx ..)) h.bb).app (ua.sub (Yx ..)) (h.ba.app hx))⟩
 refine ((h.perm.append_right _).append_right _).trans ?_
 have e:(a++b)=(a.take ia++a.drop ia)++(b.take ib++b.drop ib):=by rw[Zp,Zp]
 rw[e]
 simp only[Zi]
 refine JD _ ?_
 have:(b.take ib++(b.drop ib++a.drop ia)).Perm (a.drop ia++(b.take ib++b.drop ib)):=by
  rw[<- Zi]
  exact Yw
 exact this
structure Hi (key:Keyed->O.α)(a b out:List Keyed)(na nb:Nat):Prop where
 perm:out.Perm (a.drop na++b.drop nb)
 up:Up key out.reverse
 ba:Below key (a.take na) out
 bb:Below key (b.take nb) out
variable {na nb t:Nat}
theorem Wq {l:List Keyed}{m n:Nat}(h:m<=n):l.take n=l.take m++(l.take n).drop m:=by
 have e:=Zp m (l.take n)
 rw[DZ,Z1M h] at e
 exact e.symm
theorem Z06 {l:List Keyed}{m n:Nat}(h:m<=n):l.drop m=(l.take n).drop m++l.drop n:=by
 have e:l=l.take n++l.drop n:=(Zp n l).symm
 by_cases hn:n<=l.length
 ·conv=>lhs;rw[e]
  rw[Gi (by rw[Zx];lia)]
 ·rw[Yp (by lia),JO (i:=n) (by lia),UZ]
theorem Hi.chunkA (h:Hi key a b out na nb)(ua:Up key a)(ht:t<=na)(hb:Below key (b.take nb) ((a.take na).drop t)) :
  Hi key a b (out++((a.take na).drop t).reverse) t nb:=by
 refine⟨?_,?_,?_,?_⟩
 ·rw[Z06 (l:=a) ht,Zi]
  refine Yw.trans ?_
  exact ((W0 _).append_right _).trans (h.perm.append_left _)
 ·rw[Za3,Z7q]
  exact (ua.sub ((Yx ..).trans (Ye ..))).app h.up (h.ba.sub (fun _ q=>JQ q) fun _ q=>UD.mp q)
 ·refine (h.ba.sub (fun x q=>?_) fun _ q=>q).app' (Below.sub ?_ (fun _ q=>q) fun _ q=>UD.mp q)
  ·rw[Wq ht];exact Js _ q
  ·have u2:Up key (a.take t++(a.take na).drop t):=by rw[<- Wq ht];exact ua.sub (Ye ..)
   exact (YG.mp u2).2.2
 ·exact h.bb.app' (hb.sub (fun _ q=>q) fun _ q=>UD.mp q)
theorem Hi.chunkB (h:Hi key a b out na nb)(ub:Up key b)(ht:t<=nb)(ha:Below key (a.take na) ((b.take nb).drop t)) :
  Hi key a b (out++((b.take nb).drop t).reverse) na t:=by
 refine⟨?_,?_,?_,?_⟩
 ·rw[Z06 (l:=b) ht]
  refine (h.perm.append (W0 _)).trans ?_
  rw[Zi]
  exact JD _ Yw
 ·rw[Za3,Z7q]
  exact (ub.sub ((Yx ..).trans (Ye ..))).app h.up (h.bb.sub (fun _ q=>JQ q) fun _ q=>UD.mp q)
 ·exact h.ba.app' (ha.sub (fun _ q=>q) fun _ q=>UD.mp q)
 ·refine (h.bb.sub (fun x q=>?_) fun _ q=>q).app' (Below.sub ?_ (fun _ q=>q) fun _ q=>UD.mp q)
  ·rw[Wq ht];exact Js _ q
  ·have u2:Up key (b.take t++(b.take nb).drop t):=by rw[<- Wq ht];exact ub.sub (Ye ..)
   exact (YG.mp u2).2.2
theorem Hi.finA (h:Hi key a b out na nb)(ua:Up key a)(ub:Up key b)(hx:Below key (a.take na) (b.take nb)) :
  (a.take na++b.take nb++out.reverse).Perm (a++b)/\Up key (a.take na++b.take nb++out.reverse):=by
 refine⟨?_,(((ua.sub (Ye ..)).app (ub.sub (Ye ..)) hx).app h.up ((h.ba.app h.bb).sub (fun _ q=>q) fun _ q=>UD.mp q))⟩
 refine (JD _ ((W0 _).trans h.perm)).trans ?_
 have e:(a++b)=(a.take na++a.drop na)++(b.take nb++b.drop nb):=by rw[Zp,Zp]
 rw[e]
 simp only[Zi]
 refine JD _ ?_
 rw[<- Zi,<- Zi]
 exact G3 _ Yw
theorem Hi.finB (h:Hi key a b out na nb)(ua:Up key a)(ub:Up key b)(hx:Below key (b.take nb) (a.take na)) :
  (b.take nb++a.take na++out.reverse).Perm (a++b)/\Up key (b.take nb++a.take na++out.reverse):=by
 refine⟨?_,(((ub.sub (Ye ..)).app (ua.sub (Ye ..)) hx).app h.up ((h.bb.app h.ba).sub (fun _ q=>q) fun _ q=>UD.mp q))⟩
 refine (JD _ ((W0 _).trans h.perm)).trans ?_
 have e:(a++b)=(a.take na++a.drop na)++(b.take nb++b.drop nb):=by rw[Zp,Zp]
 rw[e]
 refine (G3 _ Yw).trans ?_
 simp only[Zi]
 refine JD _ ?_
 rw[<- Zi,<- Zi]
 exact G3 _ Yw
end pure
end Sg
namespace Sg
open PySem PyProof.Rows
noncomputable def nth (xs:Ak_)(i:Nat):Keyed:=(xs[i]?).getD (YE,YE)
theorem Z8P(h:i<xs.size):xs[i]?=some (nth xs i):=by
 unfold nth;rw[getElem?_pos xs i h];rfl
theorem MO(h:i<xs.size):xs.toList[i]?=some (nth xs i):=by
 rw[ZQ];exact Z8P h
theorem GQ(h:i<xs.size):nth xs i∈xs.toList:=ZJ (MO h)
noncomputable def ZeY:Bool->Keyed->Array Keyed->Nat->Nat->Nat->StateT SortSt Sem (Option Nat):=sortPriv% PySem.Builtin.gallop
noncomputable def ZbE:Array Keyed->Array Keyed->StateT SortSt Sem (Ak_):=sortPriv% PySem.Builtin.mergeLo
noncomputable def ZbF:Array Keyed->Array Keyed->StateT SortSt Sem (Ak_):=sortPriv% PySem.Builtin.mergeHi
noncomputable def Z0U:Nat->StateT SortSt Sem Unit:=sortPriv% PySem.Builtin.setMinGallop
def Z7t (prog:Program)(w:World)(s:Shared)(O:KeyOrd)(key:Keyed->O.α)(G:Keyed->Prop)(kd:N8):Prop :=
 ∀ (A:Around) (E:Ps_) (x y:Keyed) (Q:Bool->Shared->Prop),G x->G y->Q (O.blt (key x) (key y)) s->wpAny (model prog w) A (keyLt' kd x.1 y.1) Q E s
section
variable {prog:Program}{w:World}{A:Around}{E:Ps_}{s:Shared}{O:KeyOrd}{key:Keyed->O.α}{G:Keyed->Prop}{kd:N8}{st:SortSt}
theorem FN(hc:Z7t prog w s O key G kd)(hk:kindOf st=kd)(gx:G x)(gy:G y)
  (h:Q (some (O.blt (key x) (key y))) st):wpS (model prog w) A E s (lt' x y) Q st:=by
 rw[lt'_eq]
 refine Zo (QM ?_)
 rw[hk]
 refine Zo (Z02 (Do (hc _ _ x y _ gx gy ⟨rfl,?_⟩)))
 exact ZA h
theorem Y4 {xs:Ak_}{i:Nat}{Q:Keyed->SortSt->Prop}(hi:i<xs.size)(h:Q (nth xs i) st):wpS (model prog w) A E s (elem' xs i) Q st:=by
 rw[elem'_eq,Z8P hi]
 exact ZA h
theorem Z7u(hc:Z7t prog w s O key G kd)(hk:kindOf st=kd)(hi:i<(arrOf st).size)(hj:j<(arrOf st).size)
  (gx:G (nth (arrOf st) i)) (gy:G (nth (arrOf st) j)) (h:Q (some (O.blt (key (nth (arrOf st) i)) (key (nth (arrOf st) j)))) st):wpS (model prog w) A E s (ltAt' i j) Q st:=by
 rw[ltAt'_eq]
 refine Zo (QM ?_)
 exact Zo (Y4 hi (Zo (Y4 hj (FN hc hk gx gy h))))
noncomputable def bey (key:Keyed->O.α)(l:Bool)(k:Keyed)(arr:Ak_)(b i:Nat):Bool :=
 if l=true then O.blt (key (nth arr (b+i))) (key k) else !O.blt (key k) (key (nth arr (b+i)))
theorem Mf(hc:Z7t prog w s O key G kd)(hk:kindOf st=kd)
  (hG:∀ i,i<n->G (nth arr (b+i))) (gk:G k) (hz:b+n<=arr.size) (hh:h<n)
  (mono:∀ i j,i<=j->j<n->bey key l k arr b j=true->bey key l k arr b i=true)
  (hQ:∀ r,r<=n->(∀ i,i<r->bey key l k arr b i=true)->(∀ i,r<=i->i<n->bey key l k arr b i=false)->Q (some r) st) :
  wpS (model prog w) A E s (ZeY l k arr b n h) Q st:=by
 have ask:∀ i,i<n->∀ {Q':Option Bool->SortSt->Prop},Q' (some (bey key l k arr b i)) st ->
   wpS (model prog w) A E s (do
    let it <- elem' arr (b+i)
    if l=true then lt' it k else do
     let r <- lt' k it
     pure (Option.map (fun z=>!z) r)) Q' st:=by
  intro i hi Q' hq
  refine Zo (Y4 (by lia) ?_)
  unfold bey at hq
  cases l with
  |true =>
   simp only[if_true] at hq ⊢
   exact FN hc hk (hG i hi) gk hq
  |false =>
   simp only[Zv,if_false] at hq ⊢
   exact Zo (FN hc hk gk (hG i hi) (ZA hq))
 generalize hf:bey key l k arr b=f at ask mono hQ
 have monof:∀ i j,i<=j->j<n->f i=false->f j=false:=by
  intro i j hij hj hi
  cases hfj:f j with
  |false=>rfl
  |true=>rw[mono i j hij hj hfj] at hi;exact absurd hi (by simp)
 refine Zo (ask h hh ?_)
 dsimp only
 by_cases hr:f h=true
 ·rw[if_pos hr]
  refine Zo (UT (Y0 (I:=fun x c st'=>st'=st/\∃ lf o,c=(none,lf,o)/\lf<o/\x+1<=o/\lf<n-h/\f (h+lf)=true)
   (Q:=fun c st'=>st'=st/\∃ lf o,c=(none,lf,o)/\lf<o/\lf<n-h/\f (h+lf)=true/\(o<n-h->f (h+o)=false)) ?is ?fi ⟨rfl,0,1,rfl,by exact Z7 _,by exact Ua _,by lia,hr⟩) ?po)
  case is =>
   rintro x c st'-hx ⟨rfl,lf,o,rfl,h1,h2,h3,h4⟩
   dsimp only
   by_cases ho:o >= n-h
   ·rw[if_pos ho]
    exact ZA ⟨rfl,lf,o,rfl,h1,h3,h4,fun z=>by lia⟩
   ·rw[if_neg ho]
    refine Zo (ask (h+o) (by lia) ?_)
    dsimp only
    cases hfo:f (h+o) with
    |false=>exact ZA ⟨rfl,lf,o,rfl,h1,h3,h4,fun _=>hfo⟩
    |true=>exact ZA ⟨rfl,o,2*o+1,rfl,by lia,by lia,by exact MC ‹_›,hfo⟩
  case fi =>
   rintro c st' ⟨rfl,lf,o,rfl,h1,h2,h3,h4⟩
   exact⟨rfl,lf,o,rfl,h1,h3,h4,fun z=>by lia⟩
  case po =>
   rintro c st' ⟨rfl,lf,o,rfl,h1,h3,h4,h5⟩
   dsimp only
   refine Zo (UT (Y0 (I:=fun x c st''=>st''=st'/\∃ lo hi,c=(none,lo,hi)/\lo<=hi/\hi<=n/\x+hi<=n+lo/\(∀ i,i<lo->f i=true)/\(∀ i,hi<=i->i<n->f i=false))
    (Q:=fun c st''=>st''=st'/\∃ lo hi,c=(none,lo,hi)/\lo=hi/\hi<=n/\(∀ i,i<lo->f i=true)/\(∀ i,hi<=i->i<n->f i=false)) ?is2 ?fi2 ?in2) ?po2)
   case is2 =>
    rintro x c st''-hx ⟨rfl,lo,hi,rfl,g1,g2,g3,g4,g5⟩
    dsimp only
    by_cases hge:lo >= hi
    ·rw[if_pos hge]
     exact ZA ⟨rfl,lo,hi,rfl,by exact G1 ‹_› ‹_›,g2,g4,g5⟩
    ·rw[if_neg hge]
     refine Zo (ask (lo+(hi-lo) / 2) (by lia) ?_)
     dsimp only
     cases hm:f (lo+(hi-lo) / 2) with
     |true=>exact ZA ⟨rfl,lo+(hi-lo) / 2+1,hi,rfl,by lia,g2,by lia,fun i z=>mono i (lo+(hi-lo) / 2) (by lia) (by lia) hm,g5⟩
     |false=>exact ZA ⟨rfl,lo,lo+(hi-lo) / 2,rfl,by simp,by lia,by lia,g4,fun i z zn=>monof (lo+(hi-lo) / 2) i z zn hm⟩
   case fi2 =>
    rintro c st'' ⟨rfl,lo,hi,rfl,g1,g2,g3,g4,g5⟩
    exact⟨rfl,lo,hi,rfl,by lia,g2,g4,g5⟩
   case in2 =>
    refine⟨rfl,_,_,rfl,by omega,by omega,by lia,fun i z=>mono i (h+lf) (by lia) (by lia) h4,fun i z zn=>?_⟩
    by_cases ho:o<n-h
    ·exact monof (h+o) i (by lia) zn (h5 ho)
    ·lia
   case po2 =>
    rintro c st'' ⟨rfl,lo,hi,rfl,g1,g2,g4,g5⟩
    subst g1
    exact ZA (hQ lo g2 g4 g5)
 ·have hr':f h=false:=by simpa using hr
  rw[if_neg hr]
  refine Zo (UT (Y0 (I:=fun x c st'=>st'=st/\∃ lf o,c=(none,lf,o)/\lf<o/\x+1<=o/\lf<h+1/\f (h-lf)=false)
   (Q:=fun c st'=>st'=st/\∃ lf o,c=(none,lf,o)/\lf<o/\lf<h+1/\f (h-lf)=false/\(o<h+1->f (h-o)=true)) ?is ?fi ⟨rfl,0,1,rfl,by lia,by lia,by simp,hr'⟩) ?po)
  case is =>
   rintro x c st'-hx ⟨rfl,lf,o,rfl,h1,h2,h3,h4⟩
   dsimp only
   by_cases ho:o >= h+1
   ·rw[if_pos ho]
    exact ZA ⟨rfl,lf,o,rfl,h1,h3,h4,fun z=>by lia⟩
   ·rw[if_neg ho]
    refine Zo (ask (h-o) (by lia) ?_)
    dsimp only
    cases hfo:f (h-o) with
    |true=>exact ZA ⟨rfl,lf,o,rfl,h1,h3,h4,fun _=>hfo⟩
    |false=>exact ZA ⟨rfl,o,2*o+1,rfl,by lia,by lia,by exact MC ‹_›,hfo⟩
  case fi =>
   rintro c st' ⟨rfl,lf,o,rfl,h1,h2,h3,h4⟩
   exact⟨rfl,lf,o,rfl,h1,h3,h4,fun z=>by lia⟩
  case po =>
   rintro c st' ⟨rfl,lf,o,rfl,h1,h3,h4,h5⟩
   dsimp only
   refine Zo (UT (Y0 (I:=fun x c st''=>st''=st'/\∃ lo hi,c=(none,lo,hi)/\lo<=hi/\hi<=n/\x+hi<=n+lo/\(∀ i,i<lo->f i=true)/\(∀ i,hi<=i->i<n->f i=false))
    (Q:=fun c st''=>st''=st'/\∃ lo hi,c=(none,lo,hi)/\lo=hi/\hi<=n/\(∀ i,i<lo->f i=true)/\(∀ i,hi<=i->i<n->f i=false)) ?is2 ?fi2 ?in2) ?po2)
   case is2 =>
    rintro x c st''-hx ⟨rfl,lo,hi,rfl,g1,g2,g3,g4,g5⟩
    dsimp only
    by_cases hge:lo >= hi
    ·rw[if_pos hge]
     exact ZA ⟨rfl,lo,hi,rfl,by lia,g2,g4,g5⟩
    ·rw[if_neg hge]
     refine Zo (ask (lo+(hi-lo) / 2) (by lia) ?_)
     dsimp only
     cases hm:f (lo+(hi-lo) / 2) with
     |true=>exact ZA ⟨rfl,lo+(hi-lo) / 2+1,hi,rfl,by lia,g2,by lia,fun i z=>mono i (lo+(hi-lo) / 2) (by lia) (by lia) hm,g5⟩
     |false=>exact ZA ⟨rfl,lo,lo+(hi-lo) / 2,rfl,by lia,by lia,by lia,g4,fun i z zn=>monof (lo+(hi-lo) / 2) i z zn hm⟩
   case fi2 =>
    rintro c st'' ⟨rfl,lo,hi,rfl,g1,g2,g3,g4,g5⟩
    exact⟨rfl,lo,hi,rfl,by lia,g2,g4,g5⟩
   case in2 =>
    refine⟨rfl,_,_,rfl,by omega,by lia,by lia,fun i z=>?_,fun i z zn=>monof (h-lf) i (by omega) zn h4⟩
    by_cases ho:o<h+1
    ·exact mono i (h-o) (by omega) (by lia) (h5 ho)
    ·omega
   case po2 =>
    rintro c st'' ⟨rfl,lo,hi,rfl,g1,g2,g4,g5⟩
    subst g1
    exact ZA (hQ lo g2 g4 g5)
end
end Sg
namespace Sg
open PySem PyProof.Rows
noncomputable abbrev Z7R (st:SortSt)(g:Nat):SortSt:=WY (kindOf st) (arrOf st) (pendingOf st) g (failedOf st)
def Jl (st st':SortSt):Prop:=∃ g,st'=Z7R st g
theorem Jl.refl (st:SortSt):Jl st st:=⟨gallopOf st,rfl⟩
theorem Jl.gal {st st':SortSt}(h:Jl st st')(g:Nat):Jl st (Z7R st' g):=by
 obtain⟨g',rfl⟩:=h
 exact⟨g,rfl⟩
theorem Jl.kind {st st':SortSt}(h:Jl st st'):kindOf st'=kindOf st:=by
 obtain⟨g',rfl⟩:=h
 rfl
section pure
variable {O:KeyOrd}{key:Keyed->O.α}
theorem Co(h:i<xs.size):xs.toList.drop i=nth xs i::xs.toList.drop (i+1):=by
 have h':i<xs.toList.length:=by simpa using h
 rw[Yr h']
 congr 1
 have e:=MO h
 rw[Zd h'] at e
 exact Jd e
theorem BE(u:Up key xs.toList)(hij:i<=j)(hj:j<xs.size):O.kle (key (nth xs i)) (key (nth xs j)):=by
 rcases Nat.eq_or_lt_of_le hij with rfl|hlt
 ·exact Uo _
 ·have hi':i<xs.toList.length:=by simp;exact Ml ‹_› ‹_›
  have hj':j<xs.toList.length:=by simpa using hj
  have e1:=MO (xs:=xs) (i:=i) (by lia)
  have e2:=MO hj
  rw[Zd hi'] at e1
  rw[Zd hj'] at e2
  have h:=QH.mp u i j hi' hj' hlt
  rw[Jd e1,Jd e2] at h
  exact h
theorem GL(h:x∈(xs.toList.drop i).take k):∃ j,j<k/\i+j<xs.size/\x=nth xs (i+j):=by
 refine W_ fun n9=>?_;obtain⟨j,hj,e⟩:=YT h;apply n9;clear n9
 have hj':=hj
 rw[Zx,ZI,Zh] at hj'
 refine⟨j,by lia,by omega,?_⟩
 rw[<- e,M4,M5]
 have e2:=MO (xs:=xs) (i:=i+j) (by lia)
 rw[Zd (by simp;lia)] at e2
 exact Jd e2
theorem ZbG(h:x∈xs.toList.drop i):∃ j,i+j<xs.size/\x=nth xs (i+j):=by
 have h':x∈(xs.toList.drop i).take (xs.toList.drop i).length:=by rw[N9];exact h
 refine W_ fun n9=>?_;obtain⟨j,-,h2,h3⟩:=GL h';apply n9;clear n9
 exact⟨j,h2,h3⟩
theorem Z19(h:x∈(xs.toList.take n).drop t):∃ j,t<=j/\j<n/\j<xs.size/\x=nth xs j:=by
 refine W_ fun n9=>?_;obtain⟨j,hj,e⟩:=YT h;apply n9;clear n9
 have hj':=hj
 rw[ZI,Zx,Zh] at hj'
 refine⟨t+j,by simp,by omega,by omega,?_⟩
 rw[<- e,M5,M4]
 have e2:=MO (xs:=xs) (i:=t+j) (by lia)
 rw[Zd (by simp;lia)] at e2
 exact Jd e2
theorem Z2s(h:x∈xs.toList.take n):∃ j,j<n/\j<xs.size/\x=nth xs j:=by
 have h':x∈(xs.toList.take n).drop 0:=by rw[QK];exact h
 refine W_ fun n9=>?_;obtain⟨j,-,h2,h3,h4⟩:=Z19 h';apply n9;clear n9
 exact⟨j,h2,h3,h4⟩
theorem Z1w(u:Up key xs.toList)(h:∀ x∈l,i<xs.size->O.kle (key x) (key (nth xs i))):Below key l (xs.toList.drop i):=by
 intro x hx y hy
 obtain⟨j,hj,rfl⟩:=ZbG hy
 exact JP (h x hx (by lia)) (BE u (by lia) hj)
theorem Bu(u:Up key xs.toList)(hn:n<=xs.size)(h:∀ x∈l,0<n->O.kle (key (nth xs (n-1))) (key x)):Below key (xs.toList.take n) l:=by
 intro x hx y hy
 obtain⟨j,hj,hj2,rfl⟩:=Z2s hx
 exact JP (BE u (by lia) (by lia)) (h y hy (by lia))
theorem WG(h:∀ i j,i<=j->j<n->O.kle (key (nth arr (b+i))) (key (nth arr (b+j)))) :
  ∀ i j,i<=j->j<n->bey key l k arr b j=true->bey key l k arr b i=true:=by
 intro i j hij hj hb
 have hle:=h i j hij hj
 unfold bey at hb ⊢
 cases l with
 |true =>
  simp only[if_true] at hb ⊢
  exact Z1Q hle hb
 |false =>
  simp only[Zv,if_false,W2] at hb ⊢
  exact JP hle hb
theorem Mw:(bey key false k arr b i=true↔O.kle (key (nth arr (b+i))) (key k))/\(bey key false k arr b i=false↔O.klt (key k) (key (nth arr (b+i)))):=by
 unfold bey ZhX ZhW
 simp
theorem Qz:(bey key true k arr b i=true↔O.klt (key (nth arr (b+i))) (key k))/\(bey key true k arr b i=false↔O.kle (key k) (key (nth arr (b+i)))):=by
 unfold bey ZhX ZhW
 simp
def LoA (key:Keyed->O.α)(a b out:Ak_)(ia ib:Nat):Prop:=Lo key a.toList b.toList out.toList ia ib
def Z1S (key:Keyed->O.α)(a b R:Ak_):Prop:=R.toList.Perm (a.toList++b.toList)/\Up key R.toList
variable {a b out:Ak_}{ia ib k:Nat}
theorem Qy {xs:Ak_}{i k:Nat}:(xs.extract i (i+k)).toList=(xs.toList.drop i).take k:=by
 rw[GP,UR,WH]
theorem FH {xs:Ak_}{i:Nat}:(xs.extract i xs.size).toList=xs.toList.drop i:=by
 rw[GP,UR,Yp (by simp)]
theorem FF {xs:Ak_}{t n:Nat}(h:n<=xs.size):(xs.extract t n).toList=(xs.toList.take n).drop t:=by
 rw[GP,UR,B5]
theorem LoA.partA (h:LoA key a b out ia ib)(ua:Up key a.toList)(ub:Up key b.toList)(hb:∀ j,j<k->ia+j<a.size->ib<b.size->O.kle (key (nth a (ia+j))) (key (nth b ib))) :
  LoA key a b (out++a.extract ia (ia+k)) (ia+k) ib:=by
 unfold LoA
 rw[J9,Qy]
 refine Lo.chunkA h ua (Z1w ub fun x hx hi=>?_)
 obtain⟨j,hj,hj2,rfl⟩:=GL hx
 exact hb j hj hj2 hi
theorem LoA.partB (h:LoA key a b out ia ib)(ua:Up key a.toList)(ub:Up key b.toList)(hb:∀ j,j<k->ib+j<b.size->ia<a.size->O.kle (key (nth b (ib+j))) (key (nth a ia))) :
  LoA key a b (out++b.extract ib (ib+k)) ia (ib+k):=by
 unfold LoA
 rw[J9,Qy]
 refine Lo.chunkB h ub (Z1w ua fun x hx hi=>?_)
 obtain⟨j,hj,hj2,rfl⟩:=GL hx
 exact hb j hj hj2 hi
theorem LoA.pushA (h:LoA key a b out ia ib)(ua:Up key a.toList)(ub:Up key b.toList)(hi:ia<a.size)(hb:ib<b.size->O.kle (key (nth a ia)) (key (nth b ib))) :
  LoA key a b (out.push (nth a ia)) (ia+1) ib:=by
 have h':=LoA.partA (k:=1) h ua ub fun j hj _ hh=>by
  obtain rfl:j=0:=by lia
  exact hb hh
 unfold LoA at h' ⊢
 rw[J9,Qy,Co hi,Bx,Z3p] at h'
 rw[YQ]
 exact h'
theorem LoA.pushB (h:LoA key a b out ia ib)(ua:Up key a.toList)(ub:Up key b.toList)(hi:ib<b.size)(hb:ia<a.size->O.kle (key (nth b ib)) (key (nth a ia))) :
  LoA key a b (out.push (nth b ib)) ia (ib+1):=by
 have h':=LoA.partB (k:=1) h ua ub fun j hj _ hh=>by
  obtain rfl:j=0:=by lia
  exact hb hh
 unfold LoA at h' ⊢
 rw[J9,Qy,Co hi,Bx,Z3p] at h'
 rw[YQ]
 exact h'
theorem LoA.done (h:LoA key a b out ia ib)(ua:Up key a.toList)(ub:Up key b.toList)(hx:a.size<=ia\/b.size<=ib):Z1S key a b (out++a.extract ia a.size++b.extract ib b.size):=by
 unfold Z1S
 rw[J9,J9,FH,FH]
 refine Lo.finA h ua ub ?_
 rcases hx with hx|hx
 ·rw[JO (by simpa using hx)];exact DC
 ·rw[JO (l:=b.toList) (by simpa using hx)];exact DS
theorem LoA.last (h:LoA key a b out ia ib)(ua:Up key a.toList)(ub:Up key b.toList)(hl:∀ y∈b.toList,O.kle (key y) (key (nth a (a.size-1))))(hi:ia+1=a.size) :
  Z1S key a b (out++b.extract ib b.size++a.extract ia a.size):=by
 unfold Z1S
 rw[J9,J9,FH,FH]
 refine Lo.finB h ua ub (Z1w ua fun x hx _=>?_)
 have e:ia=a.size-1:=by lia
 rw[e]
 exact hl x (JQ hx)
end pure
section
variable {prog:Program}{w:World}{A:Around}{E:Ps_}{s:Shared}{O:KeyOrd}{key:Keyed->O.α}{G:Keyed->Prop}{kd:N8}{st:SortSt}
theorem Wo(h:Q () (Z7R st g)):wpS (model prog w) A E s (Z0U g) Q st:=N5 h
@[elab_as_elim] theorem ex2 {α β σ:Type} {F:α->β->σ} {B:α->β->Prop} {c:σ} {T:σ->Prop} (h:∃ a b,c=F a b/\B a b) (k:∀ a b,B a b->T (F a b)):T c:=by obtain⟨_,_,rfl,h⟩:=h;exact k _ _ h
@[elab_as_elim] theorem ex4 {α β γ δ σ:Type} {F:α->β->γ->δ->σ} {B:α->β->γ->δ->Prop} {c:σ} {T:σ->Prop} (h:∃ a b d e,c=F a b d e/\B a b d e) (k:∀ a b d e,B a b d e->T (F a b d e)):T c:=by obtain⟨_,_,_,_,rfl,h⟩:=h;exact k _ _ _ _ h
@[elab_as_elim] theorem ex5 {α β γ δ ε σ:Type} {F:α->β->γ->δ->ε->σ} {B:α->β->γ->δ->ε->Prop} {c:σ} {T:σ->Prop} (h:∃ a b d e f,c=F a b d e f/\B a b d e f) (k:∀ a b d e f,B a b d e f->T (F a b d e f)):T c:=by obtain⟨_,_,_,_,_,rfl,h⟩:=h;exact k _ _ _ _ _ h
@[elab_as_elim] theorem ex6 {α β γ δ ε ζ σ:Type} {F:α->β->γ->δ->ε->ζ->σ} {B:α->β->γ->δ->ε->ζ->Prop} {c:σ} {T:σ->Prop} (h:∃ a b d e f g,c=F a b d e f g/\B a b d e f g) (k:∀ a b d e f g,B a b d e f g->T (F a b d e f g)):T c:=by obtain⟨_,_,_,_,_,_,rfl,h⟩:=h;exact k _ _ _ _ _ _ h
theorem Z7v {β:Type}{c:Prop}[Decidable c]{p q:StateT SortSt Sem β}{F:Nat->StateT SortSt Sem β}{x y:Nat}{M:Model}{Q:β->SortSt->Prop}{st:SortSt}(hq:q=F y)(hp:p=F x)(h:∀ z,wpS M A E s (F z) Q st):wpS M A E s (if c then p else q) Q st:=by
 split
 ·rw[hp];exact h x
 ·rw[hq];exact h y
theorem Z0L {β α γ:Type}{c:Prop}[Decidable c]{p q:StateT SortSt Sem β}{F:α->γ->StateT SortSt Sem β}{x:α}{y:γ}{M:Model}{Q:β->SortSt->Prop}{st:SortSt}(hq:q=F x y)(P:α->γ->Prop)(tl:∀ u v,P u v->wpS M A E s (F u v) Q st)
  (h1:c->(∀ u v,P u v->wpS M A E s (F u v) Q st)->wpS M A E s p Q st) (h2:¬ c->P x y):wpS M A E s (if c then p else q) Q st:=by
 by_cases h:c
 ·rw[if_pos h];exact h1 h tl
 ·rw[if_neg h,hq];exact tl _ _ (h2 h)
theorem Z3C {a b:Ak_}{Q:Array Keyed->SortSt->Prop}(hc:Z7t prog w s O key G kd)(hk:kindOf st=kd)
  (ga:∀ x∈a.toList,G x) (gb:∀ x∈b.toList,G x) (ua:Up key a.toList) (ub:Up key b.toList) (ha:1<=a.size) (hb:1<=b.size)
  (hf:O.kle (key (nth b 0)) (key (nth a 0))) (hl:∀ y∈b.toList,O.kle (key y) (key (nth a (a.size-1))))
  (h:∀ R st',Z1S key a b R->Jl st st'->Q R st'):wpS (model prog w) A E s (ZbE a b) Q st:=by
 refine Zo (Z02 (Gb ⟨rfl,?_⟩))
 dsimp only
 refine Zo (Y4 ‹_› ?_)
 have L0:LoA key a b #[nth b 0] 0 1:=by
  have l:LoA key a b #[] 0 0:=by
   refine⟨?_,U1,DC,DC⟩
   simp
  exact LoA.pushB l ua ub (by lia) fun _=>hf
 by_cases h1:(1 == b.size)=true
 ·rw[if_pos h1]
  exact ZA (h _ _ (L0.done ua ub (.inr (by simp at h1;lia))) (Jl.refl _))
 rw[if_neg h1]
 by_cases h2:(0+1 == a.size)=true
 ·rw[if_pos h2]
  exact ZA (h _ _ (L0.last ua ub hl (by simp at h2;omega)) (Jl.refl _))
 rw[if_neg h2]
 simp only[beq_iff_eq] at h1 h2
 refine Zo (QM ?_)
 refine Zo (UT (Y0
  (I:=fun x c st'=>Jl st st'/\∃ out ia ib g,c=(none,out,ia,ib,g)/\LoA key a b out ia ib/\ia+1<a.size/\ib<b.size/\x<=ia+ib)
  (Q:=fun c st'=>Jl st st'/\∃ R rest,c=(some R,rest)/\Z1S key a b R) ?is ?fi ⟨Jl.refl _,_,_,_,_,rfl,L0,by lia,by lia,by exact Ym _⟩) ?po)
 case fi =>
  rintro c st' ⟨-,out,ia,ib,g,rfl,-,l1,l2,l3⟩
  exfalso
  lia
 case po =>
  rintro c st' ⟨sm,R,rest,rfl,hR⟩
  exact ZA (h R st' hR sm)
 case is =>
  intro x c st' _ hx hI
  have sm:=hI.1
  refine ex4 (c:=c) hI.2 fun out ia ib g hB=>?_
  have L:=hB.1
  have l1:=hB.2.1
  have l2:=hB.2.2.1
  have l3:=hB.2.2.2
  clear hB hI
  dsimp only
  refine Zo (UT (Y0
   (I:=fun y c st''=>st''=st'/\∃ out ia ib ac bc,c=(none,out,ia,ib,ac,bc)/\LoA key a b out ia ib/\ia+1<a.size/\ib<b.size/\x+y<=ia+ib)
   (Q:=fun c st''=>st''=st'/\((∃ R rest,c=(some R,rest)/\Z1S key a b R) \/
    ∃ out ia ib ac bc,c=(none,out,ia,ib,ac,bc)/\LoA key a b out ia ib/\ia+1<a.size/\ib<b.size/\x+1<=ia+ib)) ?is1 ?fi1 ⟨rfl,_,_,_,_,_,rfl,L,l1,l2,by omega⟩) ?po1)
  case fi1 =>
   rintro c st'' ⟨-,out,ia,ib,ac,bc,rfl,-,m1,m2,m3⟩
   exfalso
   lia
  case is1 =>
   intro y c st'' _ hy hI
   have e:=hI.1
   subst e
   refine ex5 (c:=c) hI.2 fun out ia ib ac bc hB=>?_
   have L:=hB.1
   have m1:=hB.2.1
   have m2:=hB.2.2.1
   have m3:=hB.2.2.2
   clear hB hI
   dsimp only
   refine Zo (Y4 m2 (Zo (Y4 (by exact YA ‹_›) (Zo (FN hc (sm.kind.trans hk) (gb _ (GQ m2)) (ga _ (GQ (by lia))) ?_)))))
   dsimp only
   cases hw:O.blt (key (nth b ib)) (key (nth a ia)) with
   |true =>
    simp only[if_true]
    refine Zo (Y4 m2 ?_)
    have L2:=L.pushB ua ub m2 fun _=>JR hw
    by_cases e1:(ib+1 == b.size)=true
    ·rw[if_pos e1]
     simp only[beq_iff_eq] at e1
     exact ZA ⟨rfl,.inl ⟨_,_,rfl,L2.done ua ub (.inr (by lia))⟩⟩
    ·rw[if_neg e1]
     simp only[beq_iff_eq] at e1
     split
     ·exact ZA ⟨rfl,.inr ⟨_,_,_,_,_,rfl,L2,m1,by lia,by lia⟩⟩
     ·exact ZA ⟨rfl,_,_,_,_,_,rfl,L2,m1,by lia,by lia⟩
   |false =>
    simp only[Zv,if_false]
    refine Zo (Y4 (by lia) ?_)
    have L2:=L.pushA ua ub (by lia) fun _=>hw
    by_cases e1:(ia+1+1 == a.size)=true
    ·rw[if_pos e1]
     simp only[beq_iff_eq] at e1
     exact ZA ⟨rfl,.inl ⟨_,_,rfl,L2.last ua ub hl (by omega)⟩⟩
    ·rw[if_neg e1]
     simp only[beq_iff_eq] at e1
     split
     ·exact ZA ⟨rfl,.inr ⟨_,_,_,_,_,rfl,L2,by lia,m2,by lia⟩⟩
     ·exact ZA ⟨rfl,_,_,_,_,_,rfl,L2,by lia,m2,by lia⟩
  case po1 =>
   intro c st'' hQ
   have e:=hQ.1
   subst e
   refine hQ.2.elim (fun hR=>ex2 (c:=c) hR fun R rest hR=>?_) fun hI=>ex5 (c:=c) hI fun out ia ib ac bc hB=>?_
   ·dsimp only
    exact ZA ⟨sm,R,_,rfl,hR⟩
   ·have L:=hB.1
    have m1:=hB.2.1
    have m2:=hB.2.2.1
    have m3:=hB.2.2.2
    clear hB hI hQ
    dsimp only
    refine Zo (Z02 (Gb ⟨rfl,?_⟩))
    refine Zo (UT (Y0
     (I:=fun y c st3=>Jl st st3/\∃ out ia ib g ac bc,c=(none,out,ia,ib,g,ac,bc)/\LoA key a b out ia ib/\ia+1<a.size/\ib<b.size/\x+1+y<=ia+ib)
     (Q:=fun c st3=>Jl st st3/\((∃ R rest,c=(some R,rest)/\Z1S key a b R) \/
      ∃ out ia ib g ac bc,c=(none,out,ia,ib,g,ac,bc)/\LoA key a b out ia ib/\ia+1<a.size/\ib<b.size/\x+1<=ia+ib)) ?is2 ?fi2 ⟨sm,_,_,_,_,_,_,rfl,L,m1,m2,by omega⟩) ?po2)
    case fi2 =>
     rintro c st3 ⟨-,out,ia,ib,g,ac,bc,rfl,-,m1,m2,m3⟩
     exfalso
     lia
    case po2 =>
     intro c st3 hQ
     have sm:=hQ.1
     refine hQ.2.elim (fun hR=>ex2 (c:=c) hR fun R rest hR=>?_) fun hI=>ex6 (c:=c) hI fun out ia ib g ac bc hB=>?_
     ·dsimp only
      exact ZA ⟨sm,R,_,rfl,hR⟩
     ·have L:=hB.1
      have m1:=hB.2.1
      have m2:=hB.2.2.1
      have m3:=hB.2.2.2
      clear hB hI hQ
      dsimp only
      exact Zo (Wo (ZA ⟨sm.gal _,_,_,_,_,rfl,L,m1,m2,by omega⟩))
    case is2 =>
     intro y c st3 _ hy hI
     have sm:=hI.1
     refine ex6 (c:=c) hI.2 fun out ia ib g ac bc hB=>?_
     have L:=hB.1
     have m1:=hB.2.1
     have m2:=hB.2.2.1
     have m3:=hB.2.2.2
     clear hB hI
     dsimp only
     refine Z7v (x:=g-1) (y:=g) (by rfl) (by rfl) fun g=>?_
     refine Zo (Wo ?_)
     refine Zo (Y4 m2 (Zo (Mf hc ((Jl.kind (sm.gal _)).trans hk) (fun i hi=>ga _ (GQ (by omega))) (gb _ (GQ m2)) (by omega) (by omega)
      (WG fun i j hij hj=>BE ua (by lia) (by lia)) fun k k1 k2 k3=>?_)))
     dsimp only
     have L1:=L.partA (k:=k) ua ub fun j hj _ _=>Mw.1.mp (k2 j hj)
     have hnx:ia+k<a.size->O.kle (key (nth b ib)) (key (nth a (ia+k))):=fun hh=>JR (Mw.2.mp (k3 k (Z7 _) (by lia)))
     refine Z0L (x:=out) (y:=ia) (by rfl) (fun out1 ia1=>LoA key a b out1 ia1 ib/\ia1+1<a.size/\x+1+y<=ia1+ib/\(ia1<a.size->O.kle (key (nth b ib)) (key (nth a ia1)))) ?t1 (fun hk0 tl=>?p1) fun hk0=>?n1
     case n1 =>
      have hk':k=0:=by lia
      subst hk'
      exact⟨L,m1,m3,hnx⟩
     case p1 =>
      by_cases e1:(ia+k+1 == a.size)=true
      ·rw[if_pos e1]
       simp only[beq_iff_eq] at e1
       exact ZA ⟨sm.gal _,.inl ⟨_,_,rfl,L1.last ua ub hl (by omega)⟩⟩
      rw[if_neg e1]
      by_cases e2:(ia+k == a.size)=true
      ·rw[if_pos e2]
       simp only[beq_iff_eq] at e2
       exact ZA ⟨sm.gal _,.inl ⟨_,_,rfl,L1.done ua ub (.inl (by lia))⟩⟩
      rw[if_neg e2]
      simp only[beq_iff_eq] at e1 e2
      exact tl _ _ ⟨L1,by lia,by lia,hnx⟩
     case t1 =>
      clear hnx L1 k1 k2 k3 L m3 m1
      rintro out1 ia1 ⟨L1,n1,n2,hnx⟩
      refine Zo (Y4 m2 ?_)
      have L2:=L1.pushB ua ub m2 hnx
      by_cases e3:(ib+1 == b.size)=true
      ·rw[if_pos e3]
       simp only[beq_iff_eq] at e3
       exact ZA ⟨sm.gal _,.inl ⟨_,_,rfl,L2.done ua ub (.inr (by lia))⟩⟩
      rw[if_neg e3]
      simp only[beq_iff_eq] at e3
      have n3:ib+1<b.size:=by lia
      have n5:x+1+y+1<=ia1+(ib+1):=by lia
      clear hnx L1 n2 e3
      generalize out1.push (nth b ib)=out2 at L2 ⊢
      generalize ib+1=ib2 at L2 n3 n5 ⊢
      refine Zo (Y4 (by lia) (Zo (Mf hc ((Jl.kind (sm.gal _)).trans hk) (fun i hi=>gb _ (GQ (by omega))) (ga _ (GQ (by lia))) (by omega) (by omega)
       (WG fun i j hij hj=>BE ub (by lia) (by lia)) fun q q1 q2 q3=>?_)))
      dsimp only
      have L3:=L2.partB (k:=q) ua ub fun j hj _ _=>JR (Qz.1.mp (q2 j hj))
      have hny:ib2+q<b.size->O.kle (key (nth a ia1)) (key (nth b (ib2+q))):=fun hh=>Qz.2.mp (q3 q (Z7 _) (by lia))
      refine Z0L (x:=out2) (y:=ib2) (by rfl) (fun out3 ib3=>LoA key a b out3 ia1 ib3/\ib3<b.size/\x+1+y+1<=ia1+ib3/\(ib3<b.size->O.kle (key (nth a ia1)) (key (nth b ib3)))) ?t2 (fun hq0 tl=>?p2) fun hq0=>?n2
      case n2 =>
       have hq:q=0:=by lia
       subst hq
       exact⟨L2,n3,n5,hny⟩
      case p2 =>
       by_cases e4:(ib2+q == b.size)=true
       ·rw[if_pos e4]
        simp only[beq_iff_eq] at e4
        exact ZA ⟨sm.gal _,.inl ⟨_,_,rfl,L3.done ua ub (.inr (by lia))⟩⟩
       rw[if_neg e4]
       simp only[beq_iff_eq] at e4
       exact tl _ _ ⟨L3,by lia,by lia,hny⟩
      case t2 =>
       clear hny L3 q1 q2 q3 L2 n3 n5
       rintro out3 ib3 ⟨L3,n4,n5,hny⟩
       refine Zo (Y4 (by lia) ?_)
       have L4:=L3.pushA ua ub (by lia) hny
       by_cases e5:(ia1+1+1 == a.size)=true
       ·rw[if_pos e5]
        simp only[beq_iff_eq] at e5
        exact ZA ⟨sm.gal _,.inl ⟨_,_,rfl,L4.last ua ub hl (by lia)⟩⟩
       rw[if_neg e5]
       simp only[beq_iff_eq] at e5
       split
       ·exact ZA ⟨sm.gal _,.inr ⟨_,_,_,_,_,_,rfl,L4,by lia,by omega,by lia⟩⟩
       ·exact ZA ⟨sm.gal _,_,_,_,_,_,_,rfl,L4,by lia,by lia,by lia⟩
end
end Sg
namespace Sg
open PySem PyProof.Rows
section pure
variable {O:KeyOrd}{key:Keyed->O.α}{a b out:Ak_}{na nb t:Nat}
def HiA (key:Keyed->O.α)(a b out:Ak_)(na nb:Nat):Prop:=Hi key a.toList b.toList out.toList na nb
theorem Z4Y(h0:0<n)(hn:n<=xs.size):(xs.toList.take n).drop (n-1)=[nth xs (n-1)]:=by
 rw[B5,Co (by omega),show n-(n-1)=1 by lia,Bx,Z3p]
theorem HiA.partA (h:HiA key a b out na nb)(ua:Up key a.toList)(ub:Up key b.toList)(ht:t<=na)(hn:na<=a.size)(hm:nb<=b.size)(hb:∀ j,t<=j->j<na->0<nb->O.kle (key (nth b (nb-1))) (key (nth a j))) :
  HiA key a b (out++(a.extract t na).reverse) t nb:=by
 unfold HiA
 rw[J9,US,FF hn]
 refine Hi.chunkA h ua ht (Bu ub hm fun x hx hi=>?_)
 refine W_ fun n9=>?_;obtain⟨j,h1,h2,h3,rfl⟩:=Z19 hx;apply n9;clear n9
 exact hb j h1 h2 hi
theorem HiA.partB (h:HiA key a b out na nb)(ua:Up key a.toList)(ub:Up key b.toList)(ht:t<=nb)(hn:nb<=b.size)(hm:na<=a.size)(hb:∀ j,t<=j->j<nb->0<na->O.kle (key (nth a (na-1))) (key (nth b j))) :
  HiA key a b (out++(b.extract t nb).reverse) na t:=by
 unfold HiA
 rw[J9,US,FF hn]
 refine Hi.chunkB h ub ht (Bu ua hm fun x hx hi=>?_)
 refine W_ fun n9=>?_;obtain⟨j,h1,h2,h3,rfl⟩:=Z19 hx;apply n9;clear n9
 exact hb j h1 h2 hi
theorem HiA.pushA (h:HiA key a b out na nb)(ua:Up key a.toList)(ub:Up key b.toList)(hi:0<na/\na<=a.size)(hm:nb<=b.size)(hb:0<nb->O.kle (key (nth b (nb-1))) (key (nth a (na-1)))) :
  HiA key a b (out.push (nth a (na-1))) (na-1) nb:=by
 have h':=HiA.partA (t:=na-1) h ua ub (by exact CL _ _) hi.2 hm fun j h1 h2 h3=>by
  obtain rfl:j=na-1:=by lia
  exact hb h3
 unfold HiA at h' ⊢
 rw[J9,US,FF hi.2,Z4Y hi.1 hi.2,Z6a] at h'
 rw[YQ]
 exact h'
theorem HiA.pushB (h:HiA key a b out na nb)(ua:Up key a.toList)(ub:Up key b.toList)(hi:0<nb/\nb<=b.size)(hm:na<=a.size)(hb:0<na->O.kle (key (nth a (na-1))) (key (nth b (nb-1)))) :
  HiA key a b (out.push (nth b (nb-1))) na (nb-1):=by
 have h':=HiA.partB (t:=nb-1) h ua ub (by lia) hi.2 hm fun j h1 h2 h3=>by
  obtain rfl:j=nb-1:=by lia
  exact hb h3
 unfold HiA at h' ⊢
 rw[J9,US,FF hi.2,Z4Y hi.1 hi.2,Z6a] at h'
 rw[YQ]
 exact h'
theorem DN {xs:Ak_}{n:Nat}:(xs.extract 0 n).toList=xs.toList.take n:=by
 rw[GP,UR,QK,CT]
theorem HiA.done (h:HiA key a b out na nb)(ua:Up key a.toList)(ub:Up key b.toList)(hx:na=0\/nb=0):Z1S key a b (a.extract 0 na++b.extract 0 nb++out.reverse):=by
 unfold Z1S
 rw[J9,J9,DN,DN,US]
 refine Hi.finA h ua ub ?_
 rcases hx with rfl|rfl
 ·exact DC
 ·exact DS
theorem HiA.first (h:HiA key a b out na nb)(ua:Up key a.toList)(ub:Up key b.toList)(hf:O.kle (key (nth b 0)) (key (nth a 0)))(hi:nb=1)(hb:nb<=b.size) :
  Z1S key a b (b.extract 0 nb++a.extract 0 na++out.reverse):=by
 unfold Z1S
 rw[J9,J9,DN,DN,US]
 refine Hi.finB h ua ub (Bu ub hb fun x hx _=>?_)
 obtain⟨j,h1,h2,rfl⟩:=Z2s hx
 subst hi
 exact JP hf (BE ua (Jh _) h2)
end pure
section
variable {prog:Program}{w:World}{A:Around}{E:Ps_}{s:Shared}{O:KeyOrd}{key:Keyed->O.α}{G:Keyed->Prop}{kd:N8}{st:SortSt}
theorem Z3D {a b:Ak_}{Q:Array Keyed->SortSt->Prop}(hc:Z7t prog w s O key G kd)(hk:kindOf st=kd)
  (ga:∀ x∈a.toList,G x) (gb:∀ x∈b.toList,G x) (ua:Up key a.toList) (ub:Up key b.toList) (ha:1<=a.size) (hb:1<=b.size)
  (hf:O.kle (key (nth b 0)) (key (nth a 0))) (hl:∀ y∈b.toList,O.kle (key y) (key (nth a (a.size-1))))
  (h:∀ R st',Z1S key a b R->Jl st st'->Q R st'):wpS (model prog w) A E s (ZbF a b) Q st:=by
 refine Zo (Z02 (Gb ⟨rfl,?_⟩))
 dsimp only
 refine Zo (Y4 (by exact Zdo ‹_› (by decide)) ?_)
 have L0:HiA key a b #[nth a (a.size-1)] (a.size-1) b.size:=by
  have l:HiA key a b #[] a.size b.size:=by
   refine⟨?_,U1,DS,DS⟩
   simp
  exact HiA.pushA l ua ub (by lia) (by exact Z7 _) fun _=>hl _ (GQ (by lia))
 by_cases h1:(a.size-1 == 0)=true
 ·rw[if_pos h1]
  exact ZA (h _ _ (L0.done ua ub (.inl (by simp at h1;omega))) (Jl.refl _))
 rw[if_neg h1]
 by_cases h2:(b.size == 1)=true
 ·rw[if_pos h2]
  exact ZA (h _ _ (L0.first ua ub hf (by simp at h2;omega) (by lia)) (Jl.refl _))
 rw[if_neg h2]
 simp only[beq_iff_eq] at h1 h2
 refine Zo (QM ?_)
 refine Zo (UT (Y0
  (I:=fun x c st'=>Jl st st'/\∃ na nb out g,c=(none,na,nb,out,g)/\HiA key a b out na nb/\0<na/\na<=a.size/\1<nb/\nb<=b.size/\x+na+nb<=a.size+b.size)
  (Q:=fun c st'=>Jl st st'/\∃ R rest,c=(some R,rest)/\Z1S key a b R) ?is ?fi ⟨Jl.refl _,_,_,_,_,rfl,L0,by exact NP ‹_›,by exact CL _ _,by lia,by lia,by simp⟩) ?po)
 case fi =>
  rintro c st' ⟨-,na,nb,out,g,rfl,-,l1,l2,l3,l4,l5⟩
  exfalso
  lia
 case po =>
  rintro c st' ⟨sm,R,rest,rfl,hR⟩
  exact ZA (h R st' hR sm)
 case is =>
  intro x c st' _ hx hI
  have sm:=hI.1
  refine ex4 (c:=c) hI.2 fun na nb out g hB=>?_
  have L:=hB.1
  have l1:=hB.2.1
  have l2:=hB.2.2.1
  have l3:=hB.2.2.2.1
  have l4:=hB.2.2.2.2.1
  have l5:=hB.2.2.2.2.2
  clear hB hI
  dsimp only
  refine Zo (UT (Y0
   (I:=fun y c st''=>st''=st'/\∃ na nb out ac bc,c=(none,na,nb,out,ac,bc)/\HiA key a b out na nb/\0<na/\na<=a.size/\1<nb/\nb<=b.size/\x+y+na+nb<=a.size+b.size)
   (Q:=fun c st''=>st''=st'/\((∃ R rest,c=(some R,rest)/\Z1S key a b R) \/
    ∃ na nb out ac bc,c=(none,na,nb,out,ac,bc)/\HiA key a b out na nb/\0<na/\na<=a.size/\1<nb/\nb<=b.size/\x+1+na+nb<=a.size+b.size)) ?is1 ?fi1 ⟨rfl,_,_,_,_,_,rfl,L,l1,l2,l3,l4,by omega⟩) ?po1)
  case fi1 =>
   rintro c st'' ⟨-,na,nb,out,ac,bc,rfl,-,m1,m2,m3,m4,m5⟩
   exfalso
   lia
  case is1 =>
   intro y c st'' _ hy hI
   have e:=hI.1
   subst e
   refine ex5 (c:=c) hI.2 fun na nb out ac bc hB=>?_
   have L:=hB.1
   have m1:=hB.2.1
   have m2:=hB.2.2.1
   have m3:=hB.2.2.2.1
   have m4:=hB.2.2.2.2.1
   have m5:=hB.2.2.2.2.2
   clear hB hI
   dsimp only
   refine Zo (Y4 (by omega) (Zo (Y4 (by omega) (Zo (FN hc (sm.kind.trans hk) (gb _ (GQ (by lia))) (ga _ (GQ (by lia))) ?_)))))
   dsimp only
   cases hw:O.blt (key (nth b (nb-1))) (key (nth a (na-1))) with
   |true =>
    simp only[if_true]
    refine Zo (Y4 (by lia) ?_)
    have L2:=L.pushA ua ub (by lia) m4 fun _=>JR hw
    by_cases e1:(na-1 == 0)=true
    ·rw[if_pos e1]
     simp only[beq_iff_eq] at e1
     exact ZA ⟨rfl,.inl ⟨_,_,rfl,L2.done ua ub (.inl (by omega))⟩⟩
    ·rw[if_neg e1]
     simp only[beq_iff_eq] at e1
     split
     ·exact ZA ⟨rfl,.inr ⟨_,_,_,_,_,rfl,L2,by exact NP ‹_›,by omega,by omega,by omega,by lia⟩⟩
     ·exact ZA ⟨rfl,_,_,_,_,_,rfl,L2,by lia,by lia,by lia,by lia,by lia⟩
   |false =>
    simp only[Zv,if_false]
    refine Zo (Y4 (by lia) ?_)
    have L2:=L.pushB ua ub (by lia) m2 fun _=>hw
    by_cases e1:(nb-1 == 1)=true
    ·rw[if_pos e1]
     simp only[beq_iff_eq] at e1
     exact ZA ⟨rfl,.inl ⟨_,_,rfl,L2.first ua ub hf (by omega) (by lia)⟩⟩
    ·rw[if_neg e1]
     simp only[beq_iff_eq] at e1
     split
     ·exact ZA ⟨rfl,.inr ⟨_,_,_,_,_,rfl,L2,by omega,by lia,by lia,by omega,by lia⟩⟩
     ·exact ZA ⟨rfl,_,_,_,_,_,rfl,L2,by lia,by lia,by lia,by lia,by lia⟩
  case po1 =>
   intro c st'' hQ
   have e:=hQ.1
   subst e
   refine hQ.2.elim (fun hR=>ex2 (c:=c) hR fun R rest hR=>?_) fun hI=>ex5 (c:=c) hI fun na nb out ac bc hB=>?_
   ·dsimp only
    exact ZA ⟨sm,R,_,rfl,hR⟩
   ·have L:=hB.1
    have m1:=hB.2.1
    have m2:=hB.2.2.1
    have m3:=hB.2.2.2.1
    have m4:=hB.2.2.2.2.1
    have m5:=hB.2.2.2.2.2
    clear hB hI hQ
    dsimp only
    refine Zo (Z02 (Gb ⟨rfl,?_⟩))
    refine Zo (UT (Y0
     (I:=fun y c st3=>Jl st st3/\∃ na nb out g ac bc,c=(none,na,nb,out,g,ac,bc)/\HiA key a b out na nb/\0<na/\na<=a.size/\1<nb/\nb<=b.size/\x+1+y+na+nb<=a.size+b.size)
     (Q:=fun c st3=>Jl st st3/\((∃ R rest,c=(some R,rest)/\Z1S key a b R) \/
      ∃ na nb out g ac bc,c=(none,na,nb,out,g,ac,bc)/\HiA key a b out na nb/\0<na/\na<=a.size/\1<nb/\nb<=b.size/\x+1+na+nb<=a.size+b.size)) ?is2 ?fi2 ⟨sm,_,_,_,_,_,_,rfl,L,m1,m2,m3,m4,by omega⟩) ?po2)
    case fi2 =>
     rintro c st3 ⟨-,na,nb,out,g,ac,bc,rfl,-,m1,m2,m3,m4,m5⟩
     exfalso
     lia
    case po2 =>
     intro c st3 hQ
     have sm:=hQ.1
     refine hQ.2.elim (fun hR=>ex2 (c:=c) hR fun R rest hR=>?_) fun hI=>ex6 (c:=c) hI fun na nb out g ac bc hB=>?_
     ·dsimp only
      exact ZA ⟨sm,R,_,rfl,hR⟩
     ·have L:=hB.1
      have m1:=hB.2.1
      have m2:=hB.2.2.1
      have m3:=hB.2.2.2.1
      have m4:=hB.2.2.2.2.1
      have m5:=hB.2.2.2.2.2
      clear hB hI hQ
      dsimp only
      exact Zo (Wo (ZA ⟨sm.gal _,_,_,_,_,rfl,L,m1,m2,m3,m4,by omega⟩))
    case is2 =>
     intro y c st3 _ hy hI
     have sm:=hI.1
     refine ex6 (c:=c) hI.2 fun na nb out g ac bc hB=>?_
     have L:=hB.1
     have m1:=hB.2.1
     have m2:=hB.2.2.1
     have m3:=hB.2.2.2.1
     have m4:=hB.2.2.2.2.1
     have m5:=hB.2.2.2.2.2
     clear hB hI
     dsimp only
     refine Z7v (x:=g-1) (y:=g) (by rfl) (by rfl) fun g=>?_
     refine Zo (Wo ?_)
     refine Zo (Y4 (by omega) (Zo (Mf hc ((Jl.kind (sm.gal _)).trans hk) (fun i hi=>ga _ (GQ (by lia))) (gb _ (GQ (by lia))) (by lia) (by exact Zdo ‹_› (by decide))
      (WG fun i j hij hj=>BE ua (by lia) (by lia)) fun k k1 k2 k3=>?_)))
     dsimp only
     have L1:=L.partA (t:=k) ua ub (by omega) (by lia) (by lia) fun j hj hj2 _=>by
      have z:=JR (Mw.2.mp (k3 j hj hj2))
      rwa [JA] at z
     have hnx:0<k->O.kle (key (nth a (k-1))) (key (nth b (nb-1))):=fun hh=>by
      have z:=Mw.1.mp (k2 (k-1) (by lia))
      rwa [JA] at z
     generalize hac:na-k=ac2
     refine Z0L (x:=out) (y:=na) (by rfl) (fun out1 na1=>HiA key a b out1 na1 nb/\0<na1/\na1<=a.size/\x+1+y+na1+nb<=a.size+b.size/\(0<na1->O.kle (key (nth a (na1-1))) (key (nth b (nb-1))))) ?t1 (fun hk0 tl=>?p1) fun hk0=>?n1
     case n1 =>
      have hk':k=na:=by lia
      subst hk'
      exact⟨L,m1,m2,m5,hnx⟩
     case p1 =>
      by_cases e1:(k == 0)=true
      ·rw[if_pos e1]
       simp only[beq_iff_eq] at e1
       exact ZA ⟨sm.gal _,.inl ⟨_,_,rfl,L1.done ua ub (.inl (by omega))⟩⟩
      rw[if_neg e1]
      simp only[beq_iff_eq] at e1
      exact tl _ _ ⟨L1,by exact NP ‹_›,by exact ZF ‹_› ‹_›,by lia,hnx⟩
     case t1 =>
      clear hnx L1 hac k1 k2 k3 L m5 m1 m2
      rintro out1 na1 ⟨L1,n1,n2,n3,hnx⟩
      refine Zo (Y4 (by lia) ?_)
      have L2:=L1.pushB ua ub (by omega) (by lia) hnx
      by_cases e3:(nb-1 == 1)=true
      ·rw[if_pos e3]
       simp only[beq_iff_eq] at e3
       exact ZA ⟨sm.gal _,.inl ⟨_,_,rfl,L2.first ua ub hf (by lia) (by lia)⟩⟩
      rw[if_neg e3]
      simp only[beq_iff_eq] at e3
      have n4:1<nb-1:=by omega
      have n5:nb-1<=b.size:=by omega
      have n6:x+1+y+na1+(nb-1)+1<=a.size+b.size:=by omega
      clear hnx L1 n3 e3
      generalize out1.push (nth b (nb-1))=out2 at L2 ⊢
      generalize nb-1=nb2 at L2 n4 n5 n6 ⊢
      clear m3 m4
      refine Zo (Y4 (by omega) (Zo (Mf hc ((Jl.kind (sm.gal _)).trans hk) (fun i hi=>gb _ (GQ (by lia))) (ga _ (GQ (by lia))) (by lia) (by omega)
       (WG fun i j hij hj=>BE ub (by lia) (by lia)) fun q q1 q2 q3=>?_)))
      dsimp only
      have L3:=L2.partB (t:=q) ua ub (by lia) (by lia) (by lia) fun j hj hj2 _=>by
       have z:=Qz.2.mp (q3 j hj hj2)
       rwa [JA] at z
      have hny:0<q->O.kle (key (nth b (q-1))) (key (nth a (na1-1))):=fun hh=>by
       have z:=JR (Qz.1.mp (q2 (q-1) (by lia)))
       rwa [JA] at z
      generalize hbc:nb2-q=bc2
      refine Z0L (x:=out2) (y:=nb2) (by rfl) (fun out3 nb3=>HiA key a b out3 na1 nb3/\1<nb3/\nb3<=b.size/\x+1+y+na1+nb3+1<=a.size+b.size/\(0<nb3->O.kle (key (nth b (nb3-1))) (key (nth a (na1-1))))) ?t2 (fun hq0 tl=>?p2) fun hq0=>?n2
      case n2 =>
       have hq:q=nb2:=by lia
       subst hq
       exact⟨L2,n4,n5,n6,hny⟩
      case p2 =>
       by_cases e4:(q == 1)=true
       ·rw[if_pos e4]
        simp only[beq_iff_eq] at e4
        exact ZA ⟨sm.gal _,.inl ⟨_,_,rfl,L3.first ua ub hf (by omega) (by exact ZF ‹_› ‹_›)⟩⟩
       rw[if_neg e4]
       by_cases e6:(q == 0)=true
       ·rw[if_pos e6]
        simp only[beq_iff_eq] at e6
        exact ZA ⟨sm.gal _,.inl ⟨_,_,rfl,L3.done ua ub (.inr (by lia))⟩⟩
       rw[if_neg e6]
       simp only[beq_iff_eq] at e4 e6
       exact tl _ _ ⟨L3,by lia,by lia,by lia,hny⟩
      case t2 =>
       clear hny L3 hbc q1 q2 q3 L2 n4 n5 n6
       rintro out3 nb3 ⟨L3,n4,n5,n6,hny⟩
       refine Zo (Y4 (by lia) ?_)
       have L4:=L3.pushA ua ub (by omega) (by lia) hny
       by_cases e5:(na1-1 == 0)=true
       ·rw[if_pos e5]
        simp only[beq_iff_eq] at e5
        exact ZA ⟨sm.gal _,.inl ⟨_,_,rfl,L4.done ua ub (.inl (by lia))⟩⟩
       rw[if_neg e5]
       simp only[beq_iff_eq] at e5
       split
       ·exact ZA ⟨sm.gal _,.inr ⟨_,_,_,_,_,_,rfl,L4,by lia,by omega,by lia,by lia,by lia⟩⟩
       ·exact ZA ⟨sm.gal _,_,_,_,_,_,_,rfl,L4,by lia,by lia,by lia,by lia,by lia⟩
end
end Sg
namespace Sg
open PySem PyProof.Rows
section pure
variable {O:KeyOrd}{key:Keyed->O.α}
theorem Z8b:∀ (m:List Keyed) (n c:Nat) (xs:Ak_),c+n+m.length<=xs.size->∀ i:Nat,
  ((m.zipIdx n).foldl (fun a (p:Keyed×Nat)=>a.setIfInBounds (c+p.2) p.1) xs)[i]?=if c+n<=i/\i<c+n+m.length then m[i-(c+n)]? else xs[i]?
 |[],n,c,xs,h,i=>by
  rw[if_neg (by simp)]
  rfl
 |p::m,n,c,xs,h,i=>by
  rw[Zf] at h
  rw[List.zipIdx_cons,U0,Z8b m (n+1) c _ (by rw[Array.size_setIfInBounds];lia) i]
  by_cases h1:i=c+n
  ·subst h1
   rw[if_neg (by lia),if_pos (by simp),QE]
   rw[Gz (by lia)]
   rfl
  ·by_cases h2:c+n<=i/\i<c+n+(p::m).length
   ·rw[if_pos h2]
    rw[Zf] at h2
    rw[if_pos (by lia)]
    obtain⟨j,hj⟩:∃ j,i-(c+n)=j+1:=⟨i-(c+n)-1,by lia⟩
    rw[hj,gs_]
    congr 1
    omega
   ·rw[if_neg h2]
    rw[Zf] at h2
    rw[if_neg (by lia),NY (by exact Gx ‹_›)]
theorem ZaQ {m:List Keyed}{c:Nat}{xs:Ak_}(h:c+m.length<=xs.size) :
  (m.zipIdx.foldl (fun a (p:Keyed×Nat)=>a.setIfInBounds (c+p.2) p.1) xs).toList=xs.toList.take c++m++xs.toList.drop (c+m.length):=by
 apply UY
 intro i
 rw[ZQ,Z8b m 0 c xs (by omega) i,G7]
 have hl:(xs.toList.take c).length=c:=by rw[Zx,Zh];lia
 by_cases h1:i<c
 ·rw[if_neg (by lia),Zi,JI (by lia),Nq h1,ZQ]
 ·by_cases h2:i<c+m.length
  ·rw[if_pos (by lia),Zi,Jp (by lia),hl,JI (by lia)]
  ·rw[if_neg (by lia),Jp (by rw[Zj,hl];exact Y2 ‹_›),Zj,hl,Zam,ZQ]
   congr 1
   lia
theorem Z4Z(u:Up key ((xs.toList.drop c).take n))(hij:i<=j)(hj:j<n)(hz:c+j<xs.size):O.kle (key (nth xs (c+i))) (key (nth xs (c+j))):=by
 have u':Up key (xs.extract c (c+n)).toList:=by rw[Qy];exact u
 have hs:j<(xs.extract c (c+n)).size:=by rw[Qi];omega
 have e:∀ i,i<(xs.extract c (c+n)).size->nth (xs.extract c (c+n)) i=nth xs (c+i):=by
  intro i hi
  unfold nth
  rw[WJ]
  rw[Qi] at hi
  rw[if_pos (by omega)]
 have h:=BE u' hij hs
 rw[e i (by exact NQ ‹_› ‹_›),e j hs] at h
 exact h
theorem ZhP {l:List Keyed}{c m n:Nat}:(l.drop c).take (m+n)=(l.drop c).take m++(l.drop (c+m)).take n:=by
 rw[Fp,JV]
end pure
section
variable {prog:Program}{w:World}{A:Around}{E:Ps_}{s:Shared}{O:KeyOrd}{key:Keyed->O.α}{G:Keyed->Prop}{kd:N8}{st:SortSt}
theorem Zds {σ:Type}{M:Model}{t t':σ}{Q:PUnit->σ->Prop}(h:Q ⟨⟩ t'):wpS M A E s (set t':StateT σ Sem PUnit) Q t:=by
 unfold wpS
 show wpAny M A (pure (PUnit.unit,t'):Sem (PUnit×σ)) _ E s
 exact Z4 ⟨rfl,h⟩
theorem Z3E(hc:Z7t prog w s O key G kd)(hk:kindOf st=kd)(hf:failedOf st=none)
  (hG:∀ x∈(arrOf st).toList,G x) (hp:pendingOf st=(pre++(sa,na,pw)::(sa+na,nb,pw')::post).toArray) (hi:i=pre.length) (ha:1<=na) (hb:1<=nb) (hz:sa+na+nb<=(arrOf st).size)
  (ua:Up key (((arrOf st).toList.drop sa).take na)) (ub:Up key (((arrOf st).toList.drop (sa+na)).take nb))
  (h:∀ st' M,kindOf st'=kd->failedOf st'=none->pendingOf st'=(pre++(sa,na+nb,pw)::post).toArray->(arrOf st').toList=(arrOf st).toList.take sa++M++(arrOf st).toList.drop (sa+na+nb) ->
   M.Perm (((arrOf st).toList.drop sa).take (na+nb))->Up key M->Q true st'):wpS (model prog w) A E s (mergeAt' i) Q st:=by
 subst hi
 refine Zo (QM ?_)
 have e1:(pendingOf st)[pre.length]?=some (sa,na,pw):=by rw[hp];simp
 have e2:(pendingOf st)[pre.length+1]?=some (sa+na,nb,pw'):=by
  rw[hp,Z7d,Jp (by exact Ym _)]
  simp
 rw[e1,e2]
 dsimp only
 refine Zo (Zds ?_)
 have hpend:((pendingOf st).setIfInBounds pre.length (sa,na+nb,pw)).eraseIdxIfInBounds (pre.length+1)=(pre++(sa,na+nb,pw)::post).toArray:=by
  rw[hp]
  apply Wn.mp
  simp[Array.eraseIdxIfInBounds]
  rw[List.eraseIdx_append_of_length_le (by lia)]
  simp
 have gat:∀ j,j<(arrOf st).size->G (nth (arrOf st) j):=fun j hj=>hG _ (GQ hj)
 have l0:(arrOf st).toList.length=(arrOf st).size:=Zh
 refine Zo (Y4 (xs:=arrOf st) (by lia) (Zo (Mf (arr:=arrOf st) hc hk (fun i hi=>gat _ (by lia)) (gat _ (by lia)) (by lia) ‹_›
  (WG fun i j hij hj=>Z4Z ua hij hj (by lia)) fun k k1 k2 k3=>?_)))
 dsimp only
 have hall:(arrOf st).toList=(arrOf st).toList.take sa++((arrOf st).toList.drop sa).take (na+nb)++(arrOf st).toList.drop (sa+na+nb):=by
  rw[Zi,Uk sa na nb,<- JV,Zp,Zp]
 have hA:∀ j,j<k->O.kle (key (nth (arrOf st) (sa+j))) (key (nth (arrOf st) (sa+na))):=fun j hj=>Mw.1.mp (k2 j hj)
 have hB0:∀ j,j<nb->O.kle (key (nth (arrOf st) (sa+na))) (key (nth (arrOf st) (sa+na+j))):=fun j hj=>by
  have z:=Z4Z (i:=0) ub (Jh j) hj (by lia)
  rwa [G7] at z
 obtain⟨d,rfl⟩:∃ d,na=k+d:=⟨na-k,by lia⟩
 rw[WH]
 by_cases n0:(d == 0)=true
 ·rw[if_pos n0]
  simp only[beq_iff_eq] at n0
  refine ZA (h _ (((arrOf st).toList.drop sa).take (k+d+nb)) hk hf hpend hall (Uv _) ?_)
  rw[ZhP]
  refine ua.app ub fun x hx y hy=>?_
  refine W_ fun n9=>?_;obtain⟨j,hj,hj2,rfl⟩:=GL hx
  obtain⟨j',hj',hj2',rfl⟩:=GL hy;apply n9;clear n9
  exact JP (hA j (by lia)) (hB0 j' hj')
 rw[if_neg n0]
 simp only[beq_iff_eq] at n0
 refine Zo (Y4 (xs:=arrOf st) (by omega) (Zo (Mf (arr:=arrOf st) hc hk (fun i hi=>gat _ (by lia)) (gat _ (by lia)) (by omega) (by exact Zdo ‹_› (by decide))
  (WG fun i j hij hj=>Z4Z ub hij hj (by lia)) fun q q1 q2 q3=>?_)))
 dsimp only
 refine W_ fun n9=>?_;obtain⟨d,rfl⟩:∃ c,d=c+1:=⟨d-1,by lia⟩
 obtain⟨e,rfl⟩:∃ e,nb=q+e:=⟨nb-q,by lia⟩
 apply n9;clear n9
 have elast:sa+k+(d+1)-1=sa+(k+d):=Uk sa k d
 rw[elast] at q2 q3
 have hlt:O.klt (key (nth (arrOf st) (sa+(k+(d+1))))) (key (nth (arrOf st) (sa+(k+d)))):=Mw.2.mp (k3 (k+d) (by lia) (by exact Z7 _))
 have hq:q≠0:=by
  intro e
  subst e
  have z:=Qz.2.mp (q3 0 (Z7 _) ‹_›)
  rw[G7] at z
  exact KeyOrd.not_klt_of_kle z hlt
 rw[if_neg (by simpa using hq)]
 have ex:(arrOf st).extract (sa+k) (sa+(k+(d+1)))=(arrOf st).extract (sa+k) (sa+k+((d+1))):=by congr 1;lia
 have hx:((arrOf st).extract (sa+k) (sa+(k+(d+1)))).toList=((arrOf st).toList.drop (sa+k)).take ((d+1)):=by rw[ex,Qy]
 have hy:((arrOf st).extract (sa+(k+(d+1))) (sa+(k+(d+1))+q)).toList=((arrOf st).toList.drop (sa+(k+(d+1)))).take q:=Qy
 have sx:((arrOf st).extract (sa+k) (sa+(k+(d+1)))).size=(d+1):=by rw[Qi];lia
 have sy:((arrOf st).extract (sa+(k+(d+1))) (sa+(k+(d+1))+q)).size=q:=by rw[Qi];lia
 have nx:∀ j,j<(d+1)->nth ((arrOf st).extract (sa+k) (sa+(k+(d+1)))) j=nth (arrOf st) (sa+k+j):=by
  intro j hj
  unfold nth
  rw[WJ,if_pos (by lia)]
 have ny:∀ j,j<q->nth ((arrOf st).extract (sa+(k+(d+1))) (sa+(k+(d+1))+q)) j=nth (arrOf st) (sa+(k+(d+1))+j):=by
  intro j hj
  unfold nth
  rw[WJ,if_pos (by lia)]
 have eA:((arrOf st).toList.drop sa).take (k+(d+1))=((arrOf st).toList.drop sa).take k++((arrOf st).toList.drop (sa+k)).take ((d+1)):=by
  rw[<- ZhP]
 have eB:((arrOf st).toList.drop (sa+(k+(d+1)))).take (q+e)=((arrOf st).toList.drop (sa+(k+(d+1)))).take q++((arrOf st).toList.drop (sa+(k+(d+1))+q)).take (e):=by
  rw[<- ZhP]
 rw[eA] at ua
 rw[eB] at ub
 refine W_ fun n9=>?_;obtain⟨uA1,uA2,bA⟩:=YG.mp ua
 obtain⟨uB1,uB2,bB⟩:=YG.mp ub;apply n9;clear n9
 have uX:Up key ((arrOf st).extract (sa+k) (sa+(k+(d+1)))).toList:=by rw[hx];exact uA2
 have uY:Up key ((arrOf st).extract (sa+(k+(d+1))) (sa+(k+(d+1))+q)).toList:=by rw[hy];exact uB1
 have gX:∀ z∈((arrOf st).extract (sa+k) (sa+(k+(d+1)))).toList,G z:=by
  rw[hx]
  exact fun z hz=>hG z (JQ (Uc hz))
 have gY:∀ z∈((arrOf st).extract (sa+(k+(d+1))) (sa+(k+(d+1))+q)).toList,G z:=by
  rw[hy]
  exact fun z hz=>hG z (JQ (Uc hz))
 have f0:O.kle (key (nth ((arrOf st).extract (sa+(k+(d+1))) (sa+(k+(d+1))+q)) 0)) (key (nth ((arrOf st).extract (sa+k) (sa+(k+(d+1)))) 0)):=by
  rw[ny 0 (by exact NP ‹_›),nx 0 (by lia),G7,G7]
  exact JR (Mw.2.mp (k3 k (Z7 _) (by simp)))
 have fl:∀ z∈((arrOf st).extract (sa+(k+(d+1))) (sa+(k+(d+1))+q)).toList,O.kle (key z) (key (nth ((arrOf st).extract (sa+k) (sa+(k+(d+1)))) (((arrOf st).extract (sa+k) (sa+(k+(d+1)))).size-1))):=by
  rw[hy,sx,Nat.add_sub_cancel,nx d (by exact Z7 _),Uk sa k d]
  intro z hz'
  refine W_ fun n9=>?_;obtain⟨j,hj,hj2,rfl⟩:=GL hz';apply n9;clear n9
  exact JR (Qz.1.mp (q2 j hj))
 have fin:∀ (R:Ak_) (st':SortSt),Z1S key ((arrOf st).extract (sa+k) (sa+(k+(d+1)))) ((arrOf st).extract (sa+(k+(d+1))) (sa+(k+(d+1))+q)) R ->
   Jl (WY (kindOf st) (arrOf st) (((pendingOf st).setIfInBounds pre.length (sa,k+(d+1)+(q+e),pw)).eraseIdxIfInBounds (pre.length+1)) (gallopOf st) (failedOf st)) st' ->
   Q true (WY (kindOf st') (R.toList.zipIdx.foldl (fun a (p:Keyed×Nat)=>a.setIfInBounds (sa+k+p.2) p.1) (arrOf st')) (pendingOf st') (gallopOf st') (failedOf st')):=by
  rintro R st' ⟨pR,uR⟩ ⟨g,rfl⟩
  rw[hx,hy] at pR
  have lR:R.toList.length=(d+1)+q:=by
   rw[pR.length_eq,Zj,Zx,Zx,ZI,ZI,l0]
   lia
  refine h _ (((arrOf st).toList.drop sa).take k++R.toList++((arrOf st).toList.drop (sa+(k+(d+1))+q)).take (e)) hk hf hpend ?_ ?_ ?_
  ·show (R.toList.zipIdx.foldl (fun a (p:Keyed×Nat)=>a.setIfInBounds (sa+k+p.2) p.1) (arrOf st)).toList=_
   rw[ZaQ (by rw[lR];lia),lR,Fp]
   have ed:(arrOf st).toList.drop (sa+k+((d+1)+q))=((arrOf st).toList.drop (sa+(k+(d+1))+q)).take (e)++(arrOf st).toList.drop (sa+(k+(d+1))+(q+e)):=by
    rw[show sa+k+((d+1)+q)=sa+(k+(d+1))+q by lia,show sa+(k+(d+1))+(q+e)=sa+(k+(d+1))+q+(e) by lia,<- JV (i:=e),Zp]
   rw[ed]
   simp only[Zi]
  ·rw[ZhP,eA,eB]
   simp only[Zi]
   refine JD _ ?_
   rw[<- Zi]
   exact G3 _ pR
  ·have mR:∀ z∈R.toList,z∈((arrOf st).toList.drop (sa+k)).take ((d+1))\/z∈((arrOf st).toList.drop (sa+(k+(d+1)))).take q:=fun z hz'=>ZR.mp (pR.mem_iff.mp hz')
   have b1:Below key (((arrOf st).toList.drop sa).take k) R.toList:=by
    intro x hx' y hy'
    rcases mR y hy' with m|m
    ·exact bA x hx' y m
    ·refine W_ fun n9=>?_;obtain⟨j,hj,hj2,rfl⟩:=GL hx'
     obtain⟨j',hj',hj2',rfl⟩:=GL m;apply n9;clear n9
     exact JP (hA j hj) (hB0 j' (by exact ZF ‹_› ‹_›))
   refine (Up.app (Up.app uA1 uR b1) uB2 (Below.app ?_ ?_))
   ·intro x hx' y hy'
    refine W_ fun n9=>?_;obtain⟨j,hj,hj2,rfl⟩:=GL hx'
    obtain⟨j',hj',hj2',rfl⟩:=GL hy';apply n9;clear n9
    have z:=hB0 (q+j') (by lia)
    rw[<- Uk _ q] at z
    exact JP (hA j hj) z
   ·intro x hx' y hy'
    rcases mR x hx' with m|m
    ·refine W_ fun n9=>?_;obtain⟨j,hj,hj2,rfl⟩:=GL m
     obtain⟨j',hj',hj2',rfl⟩:=GL hy';apply n9;clear n9
     have z1:=Z4Z (xs:=arrOf st) (c:=sa) (n:=k+(d+1)) (i:=k+j) (j:=k+d) (by rw[eA];exact ua) (by lia) (by lia) (by lia)
     rw[<- Uk sa k j] at z1
     have z2:=Qz.2.mp (q3 (q+j') (by lia) (by lia))
     rw[<- Uk _ q] at z2
     exact JP z1 z2
    ·exact bB x m y hy'
 have done:∀ (R:Ak_) (st':SortSt),Z1S key ((arrOf st).extract (sa+k) (sa+(k+(d+1)))) ((arrOf st).extract (sa+(k+(d+1))) (sa+(k+(d+1))+q)) R ->
   Jl (WY (kindOf st) (arrOf st) (((pendingOf st).setIfInBounds pre.length (sa,k+(d+1)+(q+e),pw)).eraseIdxIfInBounds (pre.length+1)) (gallopOf st) (failedOf st)) st'->failedOf st'=none:=by
  rintro R st'-⟨g,rfl⟩
  exact hf
 split
 ·refine Zo (Z3C (a:=(arrOf st).extract (sa+k) (sa+(k+(d+1)))) (b:=(arrOf st).extract (sa+(k+(d+1))) (sa+(k+(d+1))+q)) hc hk gX gY uX uY (by lia) (by lia) f0 fl fun R st' hR hS=>?_)
  refine Zo (N5 (Zo (QM (ZA ?_))))
  have e:=done R st' hR hS
  have f:=fin R st' hR hS
  have e3:(failedOf st').isNone=true:=by rw[e];rfl
  show Q (failedOf st').isNone _
  rw[e3]
  exact f
 ·refine Zo (Z3D (a:=(arrOf st).extract (sa+k) (sa+(k+(d+1)))) (b:=(arrOf st).extract (sa+(k+(d+1))) (sa+(k+(d+1))+q)) hc hk gX gY uX uY (by lia) (by lia) f0 fl fun R st' hR hS=>?_)
  refine Zo (N5 (Zo (QM (ZA ?_))))
  have e:=done R st' hR hS
  have f:=fin R st' hR hS
  have e3:(failedOf st').isNone=true:=by rw[e];rfl
  show Q (failedOf st').isNone _
  rw[e3]
  exact f
end
end Sg
namespace Sg
open PySem PyProof.Rows
section pure
variable {O:KeyOrd}{key:Keyed->O.α}{xs:Ak_}
def Z68 (key:Keyed->O.α)(xs:Ak_)(i j:Nat):Prop:=∀ p q,i<=p->p<=q->q<j->O.kle (key (nth xs p)) (key (nth xs q))
def Z69 (key:Keyed->O.α)(xs:Ak_)(i j:Nat):Prop:=∀ p q,i<=p->p<=q->q<j->O.kle (key (nth xs q)) (key (nth xs p))
theorem Wd(h:xs[i]?=ys[j]?):nth xs i=nth ys j:=by unfold nth;rw[h]
theorem Z0g(hs:src<xs.size)(hd:d<=src)(k:Nat) :
  nth (bubble xs src d) k=if k=src-d then nth xs src else if src-d<k/\k<=src then nth xs (k-1) else nth xs k:=by
 have e:=Zjs hs d hd k
 by_cases h1:k=src-d
 ·rw[if_pos h1] at e
  rw[if_pos h1]
  exact Wd e
 ·rw[if_neg h1] at e
  rw[if_neg h1]
  by_cases h2:src-d<k/\k<=src
  ·rw[if_pos h2] at e
   rw[if_pos h2]
   exact Wd e
  ·rw[if_neg h2] at e
   rw[if_neg h2]
   exact Wd e
theorem Bk(hj:j<=xs.size)(k:Nat):nth (mirror xs i j ((j-i) / 2)) k=if i<=k/\k<j then nth xs (i+j-1-k) else nth xs k:=by
 have e:=getElem?_mirror_all (i:=i) hj k
 by_cases h1:i<=k/\k<j
 ·rw[if_pos h1] at e
  rw[if_pos h1]
  exact Wd e
 ·rw[if_neg h1] at e
  rw[if_neg h1]
  exact Wd e
theorem M1(hj:j<=xs.size)(he:∀ k,i<=k->k<j->key (nth xs k)=key (nth xs (j-1)))(k:Nat):key (nth (mirror xs i j ((j-i) / 2)) k)=key (nth xs k):=by
 rw[Bk hj]
 split
 ·rw[he _ (by omega) (by omega),he k (by lia) (by lia)]
 ·rfl
theorem Z68.more(h:Z68 key xs i (i+j))(hj:1<=j)(hx:O.kle (key (nth xs (i+j-1))) (key (nth xs (i+j)))):Z68 key xs i (i+(j+1)):=by
 intro p q h1 h2 h3
 by_cases hq:q<i+j
 ·exact h p q h1 h2 hq
 ·have e:q=i+j:=by lia
  subst e
  by_cases hp:p=i+j
  ·rw[hp];exact Uo _
  ·exact JP (h p (i+j-1) h1 (by lia) (by lia)) hx
theorem Z69.more(h:Z69 key xs i (i+j))(hj:1<=j)(hx:O.kle (key (nth xs (i+j))) (key (nth xs (i+j-1)))):Z69 key xs i (i+(j+1)):=by
 intro p q h1 h2 h3
 by_cases hq:q<i+j
 ·exact h p q h1 h2 hq
 ·have e:q=i+j:=by lia
  subst e
  by_cases hp:p=i+j
  ·rw[hp];exact Uo _
  ·exact JP hx (h p (i+j-1) h1 (by lia) (by lia))
theorem Z69.congr(h:Z69 key xs i j)(e:∀ p,key (nth xs p)=key (nth ys p)):Z69 key ys i j:=by
 intro p q h1 h2 h3
 rw[<- e,<- e]
 exact h p q h1 h2 h3
theorem Z6P {i j lo:Nat}(h:lo<=i)(k:Nat)(hk:k<lo):(mirror xs i j ((j-i) / 2))[k]?=xs[k]?:=by
 unfold mirror
 have go:∀ (l:List Nat) (ys:Ak_),(∀ r∈l,r<(j-i) / 2)->(l.foldl (fun a r=>a.swapIfInBounds (i+r) (j-1-r)) ys)[k]?=ys[k]?:=by
  intro l
  induction l with
  |nil=>intro ys _;rfl
  |cons r l ih =>
   intro ys hl
   have hr:=hl r Z1
   rw[U0,ih _ fun r hr=>hl r (Z2 _ hr)]
   rw[Array.swapIfInBounds_def]
   split
   ·split
    ·rw[Array.getElem?_swap,if_neg (by omega),if_neg (by lia)]
    ·rfl
   ·rfl
 exact go _ xs fun r hr=>Jv.mp hr
end pure
structure Nc (aE:Ak_)(kd:N8)(P:Array (Nat×Nat×Nat))(lo:Nat)(aM:Ak_)(st:SortSt):Prop where
 perm:(arrOf st).Perm aE
 kind:kindOf st=kd
 failed:failedOf st=none
 pend:pendingOf st=P
 low:∀ i,i<lo->(arrOf st)[i]?=aM[i]?
section
variable {prog:Program}{w:World}{A:Around}{E:Ps_}{s:Shared}{O:KeyOrd}{key:Keyed->O.α}{G:Keyed->Prop}{kd:N8}{st:SortSt}
 {aE aM:Ak_} {P:Array (Nat×Nat×Nat)} {lo:Nat}
theorem Nc.size (h:Nc aE kd P lo aM st):(arrOf st).size=aE.size:=h.perm.size_eq
theorem Nc.mem (h:Nc aE kd P lo aM st)(h0:∀ x∈aE.toList,G x)(hi:i<aE.size):G (nth (arrOf st) i) :=
 h0 _ ((Uw.mp h.perm).mem_iff.mp (GQ (by rw[h.size];exact hi)))
theorem Nc.rev(h:Nc aE kd P lo aM st)(hi:lo<=i):Nc aE kd P lo aM (setArr st (mirror (arrOf st) i j ((j-i) / 2))) :=
 ⟨(mirror_perm _ _ _ _).trans h.perm,h.kind,h.failed,h.pend,fun k hk=>(Z6P hi k hk).trans (h.low k hk)⟩
theorem B9(hc:Z7t prog w s O key G kd)(h0:∀ x∈aE.toList,G x)(hB:Nc aE kd P lo aM st)(hi:i<aE.size)(hj:j<aE.size)
  (h:Q (some (O.blt (key (nth (arrOf st) i)) (key (nth (arrOf st) j)))) st):wpS (model prog w) A E s (ltAt' i j) Q st :=
 Z7u hc hB.kind (by rw[hB.size];exact hi) (by rw[hB.size];exact hj) (hB.mem h0 hi) (hB.mem h0 hj) h
theorem Z0K(h:Q () (setArr st (mirror (arrOf st) i j ((j-i) / 2)))):wpS (model prog w) A E s (reverseSlice' i j) Q st:=by
 rw[reverseSlice'_eq]
 exact N5 h
theorem Z6f(hc:Z7t prog w s O key G kd)(h0:∀ x∈aE.toList,G x)(hn:lo+n<=aE.size)(hok:ok<=n)(hB:Nc aE kd P lo aM st)(hs:Z68 key (arrOf st) lo (lo+ok))
  (h:∀ st',Nc aE kd P lo aM st'->Z68 key (arrOf st') lo (lo+n)->Q true st'):wpS (model prog w) A E s (binarySort' lo n ok) Q st:=by
 rw[binarySort'_eq]
 refine Zo (UT (Y0 (I:=fun k c st'=>c=(none,())/\Nc aE kd P lo aM st'/\Z68 key (arrOf st') lo (lo+min k n))
  (Q:=fun c st'=>c=(none,())/\Nc aE kd P lo aM st'/\Z68 key (arrOf st') lo (lo+n)) ?stp ?fi ?ini) ?po)
 case po =>
  rintro c st' ⟨rfl,B,sg⟩
  exact ZA (h st' B sg)
 case ini =>
  refine⟨rfl,hB,fun p q h1 h2 h3=>?_⟩
  by_cases z:ok=0
  ·have e:p=q:=by lia
   rw[e]
   exact Uo _
  ·exact hs p q h1 h2 (by lia)
 case fi =>
  rintro c st' ⟨hc',B,sg⟩
  refine⟨hc',B,?_⟩
  rwa [show min (max (max ok 1) n) n=n by lia] at sg
 case stp =>
  rintro k c st' k1 k2 ⟨rfl,B,sg⟩
  rw[show min k n=k by lia] at sg
  dsimp only
  refine Zo (UT (Y0 (I:=fun x c st''=>st''=st'/\∃ l r,c=(none,l,r)/\l<=r/\r<=k/\x+r<=k+l /\
    (∀ i,i<l->O.kle (key (nth (arrOf st') (lo+i))) (key (nth (arrOf st') (lo+k))))/\(∀ i,r<=i->i<k->O.kle (key (nth (arrOf st') (lo+k))) (key (nth (arrOf st') (lo+i)))))
   (Q:=fun c st''=>st''=st'/\∃ l r,c=(none,l,r)/\l<=k /\
    (∀ i,i<l->O.kle (key (nth (arrOf st') (lo+i))) (key (nth (arrOf st') (lo+k))))/\(∀ i,l<=i->i<k->O.kle (key (nth (arrOf st') (lo+k))) (key (nth (arrOf st') (lo+i))))) ?is ?ifi ?ii) ?ip)
  case ii=>exact⟨rfl,0,k,rfl,by exact Jh _,by exact Z7 _,by simp,fun i hi=>by exact absurd ‹_› (Ya _),fun i h1 h2=>by lia⟩
  case ifi =>
   rintro c st'' ⟨e,l,r,rfl,g1,g2,g3,g4,g5⟩
   have z:l=r:=by lia
   subst z
   exact⟨e,l,l,rfl,g2,g4,g5⟩
  case is =>
   rintro x c st''-hx ⟨rfl,l,r,rfl,g1,g2,g3,g4,g5⟩
   dsimp only
   by_cases hge:l >= r
   ·rw[if_pos hge]
    have z:l=r:=by lia
    subst z
    exact ZA ⟨rfl,l,l,rfl,g2,g4,g5⟩
   ·rw[if_neg hge]
    refine Zo (B9 hc h0 B (by lia) (by lia) ?_)
    cases hw:O.blt (key (nth (arrOf st'') (lo+k))) (key (nth (arrOf st'') (lo+(l+r) / 2))) with
    |true=>exact ZA ⟨rfl,l,(l+r) / 2,rfl,by lia,by lia,by lia,g4,fun i z1 z2=>JP (JR hw) (sg _ _ (by simp) (by lia) (by lia))⟩
    |false=>exact ZA ⟨rfl,(l+r) / 2+1,r,rfl,by lia,by lia,by lia,fun i z1=>JP (sg (lo+i) (lo+(l+r) / 2) (by lia) (by lia) (by lia)) hw,g5⟩
  case ip =>
   rintro c st'' ⟨rfl,l,r,rfl,g2,g4,g5⟩
   dsimp only
   refine Zo ?_
   rw[moveDown'_eq]
   have hz:lo+k<(arrOf st'').size:=by rw[B.size];lia
   refine N5 (ZA ⟨rfl,⟨(bubble_perm _ _ _).trans B.perm,B.kind,B.failed,B.pend,fun i hi=>?_⟩,?_⟩)
   ·show (bubble (arrOf st'') (lo+k) (lo+k-(lo+l)))[i]?=_
    rw[Zjs hz _ (by exact CL _ _),if_neg (by omega),if_neg (by omega)]
    exact B.low i hi
   ·rw[show min (k+1) n=k+1 by lia]
    intro p q h1 h2 h3
    show O.kle (key (nth (bubble (arrOf st'') (lo+k) (lo+k-(lo+l))) p)) (key (nth (bubble (arrOf st'') (lo+k) (lo+k-(lo+l))) q))
    rw[Z0g hz (by exact CL _ _),Z0g hz (by lia),show lo+k-(lo+k-(lo+l))=lo+l by lia]
    have a4:∀ i,lo<=i->i<lo+l->O.kle (key (nth (arrOf st'') i)) (key (nth (arrOf st'') (lo+k))):=fun i z1 z2=>by
     have z:=g4 (i-lo) (by lia)
     rwa [show lo+(i-lo)=i by lia] at z
    have a5:∀ i,lo+l<=i->i<lo+k->O.kle (key (nth (arrOf st'') (lo+k))) (key (nth (arrOf st'') i)):=fun i z1 z2=>by
     have z:=g5 (i-lo) (by lia) (by lia)
     rwa [show lo+(i-lo)=i by lia] at z
    repeat' split
    all_goals first
     |(exfalso;lia)
     |exact Uo _
     |exact a4 _ (by omega) (by lia)
     |exact a5 _ (by lia) (by lia)
     |exact sg _ _ (by lia) (by lia) (by lia)
theorem Z7w {β:Type}{c:Prop}[Decidable c]{p q:StateT SortSt Sem β}{M:Model}{Q:β->SortSt->Prop}{st:SortSt}(Z:SortSt->Prop)(tl:∀ u,Z u->wpS M A E s q Q u)(h1:c->(∀ u,Z u->wpS M A E s q Q u)->wpS M A E s p Q st)(h2:¬ c->Z st):wpS M A E s (if c then p else q) Q st:=by
 by_cases h:c
 ·rw[if_pos h];exact h1 h tl
 ·rw[if_neg h];exact tl _ (h2 h)
theorem Zdt(hc:Z7t prog w s O key G kd)(h0:∀ x∈aE.toList,G x)(hn:lo+nrem<=aE.size)(h1:1<=nrem)(hB:Nc aE kd P lo aM st)
  (h:∀ m st',Nc aE kd P lo aM st'->1<=m->m<=nrem->Z68 key (arrOf st') lo (lo+m)->Q (some m) st'):wpS (model prog w) A E s (countRun' lo nrem) Q st:=by
 rw[countRun'_eq]
 refine Zo (UT (Y0 (I:=fun x c st'=>st'=st/\c=(none,x)/\Z68 key (arrOf st) lo (lo+x))
  (Q:=fun c st'=>st'=st/\∃ n,c=(none,n)/\1<=n/\n<=nrem/\Z68 key (arrOf st) lo (lo+n)/\(n=nrem\/O.klt (key (nth (arrOf st) (lo+n))) (key (nth (arrOf st) (lo+n-1))))) ?is ?fi ?ini) ?po)
 case ini=>exact⟨rfl,rfl,fun p q h1 h2 h3=>by rw[show p=q by lia];exact Uo _⟩
 case fi =>
  rintro c st' ⟨e,rfl,sg⟩
  have e2:max 1 nrem=nrem:=by lia
  rw[e2] at sg ⊢
  exact⟨e,nrem,rfl,h1,Z7 _,sg,.inl rfl⟩
 case is =>
  rintro x c st' hx1 hx2 ⟨e,rfl,sg⟩
  subst e
  dsimp only
  refine Zo (B9 hc h0 hB (by lia) (by lia) ?_)
  cases hw:O.blt (key (nth (arrOf st') (lo+x))) (key (nth (arrOf st') (lo+x-1))) with
  |true=>exact ZA ⟨rfl,x,rfl,hx1,by exact YA ‹_›,sg,.inr hw⟩
  |false=>exact ZA ⟨rfl,rfl,sg.more (by omega) hw⟩
 case po =>
  rintro c st' ⟨e,n,rfl,n1,n2,sg,ho⟩
  subst e
  dsimp only
  by_cases hnn:(n == nrem)=true
  ·rw[if_pos hnn]
   exact ZA (h n st' hB n1 n2 sg)
  rw[if_neg hnn]
  simp only[beq_iff_eq] at hnn
  have hlt:=ho.resolve_left hnn
  have hzn:lo+n<=(arrOf st').size:=by rw[hB.size];lia
  refine Z7w (fun st1=>Nc aE kd P lo aM st1/\Z69 key (arrOf st1) lo (lo+(n+1))) ?tl (fun hgt tl=>?pp) fun hgt=>⟨hB,?nn⟩
  case nn =>
   intro p q g1 g2 g3
   by_cases hpq:p=q
   ·rw[hpq];exact Uo _
   ·have e1:p=lo+n-1:=by lia
    have e2:q=lo+n:=by lia
    rw[e1,e2]
    exact JR hlt
  case pp =>
   refine Zo (B9 hc h0 hB (by lia) (by lia) ?_)
   cases hw:O.blt (key (nth (arrOf st') lo)) (key (nth (arrOf st') (lo+n-1)))
   case true=>exact ZA (h n st' hB n1 n2 sg)
   dsimp only
   rw[if_neg (by simp)]
   refine Zo (Z0K ?_)
   have hall:∀ k,lo<=k->k<lo+n->key (nth (arrOf st') k)=key (nth (arrOf st') (lo+n-1)):=by
    intro k g1 g2
    exact Z7e (sg k (lo+n-1) g1 (by lia) (by lia)) (JP hw (sg lo k (Z7 _) g1 g2))
   have B1:=hB.rev (i:=lo) (j:=lo+n) (Z7 _)
   have N1:Z69 key (arrOf (setArr st' (mirror (arrOf st') lo (lo+n) ((lo+n-lo) / 2)))) lo (lo+(n+1)):=by
    refine Z69.congr (xs:=arrOf st') ?_ fun p=>(M1 hzn hall p).symm
    intro p q g1 g2 g3
    by_cases hq:q<lo+n
    ·rw[hall p g1 (by exact NQ ‹_› ‹_›),hall q (by exact ZF ‹_› ‹_›) hq]
     exact Uo _
    ·have e:q=lo+n:=by lia
     subst e
     by_cases hp:p=lo+n
     ·rw[hp];exact Uo _
     ·rw[hall p g1 (by lia)]
      exact JR hlt
   exact tl _ ⟨B1,N1⟩
  case tl =>
   clear hB hlt sg hzn
   rintro st1 ⟨B1,N1⟩
   refine Zo (Z02 (Gb ⟨rfl,?_⟩))
   refine Zo (UT (Y0 (I:=fun x c st'=>∃ z,c=(none,x,z)/\Nc aE kd P lo aM st'/\Z69 key (arrOf st') lo (lo+x)/\z+1<=x/\∀ i,lo+x-(z+1)<=i->i<lo+x->key (nth (arrOf st') i)=key (nth (arrOf st') (lo+x-1)))
    (Q:=fun c st'=>∃ m z,c=(none,m,z)/\Nc aE kd P lo aM st'/\Z69 key (arrOf st') lo (lo+m)/\z+1<=m/\1<=m/\m<=nrem/\∀ i,lo+m-(z+1)<=i->i<lo+m->key (nth (arrOf st') i)=key (nth (arrOf st') (lo+m-1))) ?is2 ?fi2 ?in2) ?po2)
   case in2=>exact⟨0,rfl,B1,N1,by exact Zft _ _,fun i h1 h2=>by rw[show i=lo+(n+1)-1 by lia]⟩
   case fi2 =>
    rintro c st' ⟨z,rfl,B2,N2,h2,h3⟩
    have e2:max (n+1) nrem=nrem:=by lia
    rw[e2] at N2 h2 h3 ⊢
    exact⟨nrem,z,rfl,B2,N2,h2,h1,Z7 _,h3⟩
   case is2 =>
    rintro x c st' hx1 hx2 ⟨z,rfl,B2,N2,g2,g3⟩
    dsimp only
    have hz2:lo+x<=(arrOf st').size:=by rw[B2.size];lia
    refine Zo (B9 hc h0 B2 (by lia) (by lia) ?_)
    cases hw:O.blt (key (nth (arrOf st') (lo+x))) (key (nth (arrOf st') (lo+x-1))) with
    |true =>
     dsimp only
     rw[if_pos rfl]
     by_cases hz0:z > 0
     ·rw[if_pos hz0]
      refine Zo (Z0K (ZA ⟨0,rfl,B2.rev (by lia),?_,by lia,fun i h1 h2=>by rw[show i=lo+(x+1)-1 by lia]⟩))
      refine Z69.congr (N2.more (by exact Ml ‹_› ‹_›) (JR hw)) fun p=>?_
      exact (M1 hz2 g3 p).symm
     ·rw[if_neg hz0]
      exact ZA ⟨0,rfl,B2,N2.more (by exact Ml ‹_› ‹_›) (JR hw),by lia,fun i h1 h2=>by rw[show i=lo+(x+1)-1 by lia]⟩
    |false =>
     dsimp only
     rw[if_neg (by simp)]
     refine Zo (B9 hc h0 B2 (by lia) (by lia) ?_)
     cases hv:O.blt (key (nth (arrOf st') (lo+x-1))) (key (nth (arrOf st') (lo+x))) with
     |true=>exact ZA ⟨x,z,rfl,B2,N2,g2,by lia,by lia,g3⟩
     |false =>
      have heq:key (nth (arrOf st') (lo+x))=key (nth (arrOf st') (lo+x-1)):=Z7e hv hw
      refine ZA ⟨z+1,rfl,B2,N2.more (by lia) hv,by lia,fun i h1 h2=>?_⟩
      rw[show lo+(x+1)-1=lo+x by rfl]
      by_cases hi:i=lo+x
      ·rw[hi]
      ·rw[heq]
       exact g3 i (by lia) (by lia)
   case po2 =>
    rintro c st2 ⟨m,z,rfl,B2,N2,g2,hm1,hm2,g3⟩
    dsimp only
    have hz2:lo+m<=(arrOf st2).size:=by rw[B2.size];lia
    refine Z7w (fun st4=>Nc aE kd P lo aM st4/\Z69 key (arrOf st4) lo (lo+m)) ?tl2 (fun hz0 tl=>?pp2) fun hz0=>⟨B2,N2⟩
    case pp2 =>
     refine Zo (Z0K ?_)
     exact tl _ ⟨B2.rev (i:=lo+m-(z+1)) (j:=lo+m) (by lia),Z69.congr N2 fun p=>(M1 hz2 g3 p).symm⟩
    case tl2 =>
     clear g3 hz2 B2 N2
     rintro st4 ⟨B4,N4⟩
     refine Zo (Z0K ?_)
     have hB3:=B4.rev (i:=lo) (j:=lo+m) (Z7 _)
     have hz3:lo+m<=(arrOf st4).size:=by rw[B4.size];lia
     refine Zo (UT (Y0 (I:=fun x c st'=>st'=setArr st4 (mirror (arrOf st4) lo (lo+m) ((lo+m-lo) / 2))/\c=(none,x)/\Z68 key (arrOf st') lo (lo+x))
      (Q:=fun c st'=>st'=setArr st4 (mirror (arrOf st4) lo (lo+m) ((lo+m-lo) / 2))/\∃ y,c=(none,y)/\m<=y/\y<=nrem/\Z68 key (arrOf st') lo (lo+y)) ?is3 ?fi3 ?in3) ?po3)
     case in3 =>
      refine⟨rfl,rfl,fun p q h1 h2 h3=>?_⟩
      show O.kle (key (nth (mirror (arrOf st4) lo (lo+m) ((lo+m-lo) / 2)) p)) (key (nth (mirror (arrOf st4) lo (lo+m) ((lo+m-lo) / 2)) q))
      rw[Bk hz3,Bk hz3,if_pos (by lia),if_pos (by lia)]
      exact N4 _ _ (by omega) (by omega) (by omega)
     case fi3 =>
      rintro c st' ⟨e,rfl,sg⟩
      have e2:max m nrem=nrem:=by lia
      rw[e2] at sg ⊢
      exact⟨e,nrem,rfl,hm2,Z7 _,sg⟩
     case is3 =>
      rintro x c st' hx1 hx2 ⟨e,rfl,sg⟩
      subst e
      dsimp only
      refine Zo (B9 hc h0 hB3 (by lia) (by lia) ?_)
      cases hw:O.blt (key (nth (arrOf (setArr st4 (mirror (arrOf st4) lo (lo+m) ((lo+m-lo) / 2)))) (lo+x))) (key (nth (arrOf (setArr st4 (mirror (arrOf st4) lo (lo+m) ((lo+m-lo) / 2)))) (lo+x-1))) with
      |true=>exact ZA ⟨rfl,x,rfl,hx1,by lia,sg⟩
      |false=>exact ZA ⟨rfl,rfl,sg.more (by exact ZF ‹_› ‹_›) hw⟩
     case po3 =>
      rintro c st' ⟨e,y,rfl,y1,y2,sg⟩
      subst e
      exact ZA (h y _ hB3 (by lia) y2 sg)
end
end Sg
namespace Sg
open PySem PyProof.Rows
section pure
variable {O:KeyOrd}{key:Keyed->O.α}
abbrev Run:=Nat×Nat×Nat
noncomputable def tot:List Run->Nat
 |[]=>0
 |p::P=>p.2.1+tot P
def Cov (key:Keyed->O.α):List Run->Nat->List Keyed->Prop
 |[],_,_=>True
 |p::P,f,l=>p.1=f/\1<=p.2.1/\p.2.1<=l.length/\Up key (l.take p.2.1)/\Cov key P (f+p.2.1) (l.drop p.2.1)
theorem Z0O:∀ (P Q:List Run),tot (P++Q)=tot P+tot Q
 |[],Q=>by simp[tot]
 |p::P,Q=>by simp only[ZO,tot,Z0O P Q];lia
theorem Z1r:∀ (P Q:List Run) (f:Nat) (l:List Keyed),Cov key (P++Q) f l↔Cov key P f l/\Cov key Q (f+tot P) (l.drop (tot P))
 |[],Q,f,l=>by simp[Cov,tot]
 |p::P,Q,f,l=>by
  simp only[ZO,Cov,tot,Z1r P Q,JV,Uk]
  constructor
  ·rintro⟨a,b,c,d,e,g⟩;exact⟨⟨a,b,c,d,e⟩,g⟩
  ·rintro⟨⟨a,b,c,d,e⟩,g⟩;exact⟨a,b,c,d,e,g⟩
theorem Z9E:∀ (P:List Run) (f:Nat) (l:List Keyed),Cov key P f l->tot P<=l.length/\P.length<=tot P
 |[],f,l,_=>by simp[tot]
 |p::P,f,l,h=>by
  refine W_ fun n9=>?_;obtain⟨-,h2,h3,-,h5⟩:=h;apply n9;clear n9
  have ih:=Z9E P _ _ h5
  rw[ZI] at ih
  simp only[tot,Zf]
  lia
theorem Cs:∀ (P:List Run) (f:Nat) (l l':List Keyed),Cov key P f l->tot P<=l'.length->l'.take (tot P)=l.take (tot P)->Cov key P f l'
 |[],_,_,_,_,_,_=>trivial
 |p::P,f,l,l',h,hl,e=>by
  refine W_ fun n9=>?_;obtain⟨h1,h2,h3,h4,h5⟩:=h;apply n9;clear n9
  simp only[tot] at hl e
  have e1:l'.take p.2.1=l.take p.2.1:=by
   have:=congrArg (List.take p.2.1) e
   rwa [DZ,DZ,Z1M (by simp)] at this
  refine⟨h1,h2,by lia,by rw[e1];exact h4,Cs P _ (l.drop p.2.1) _ h5 (by rw[ZI];lia) ?_⟩
  have:=congrArg (List.drop p.2.1) e
  rwa [B5,B5,WH] at this
theorem Z5V:∀ (P P':List Run) (f:Nat) (l:List Keyed),P'.map (fun p=>(p.1,p.2.1))=P.map (fun p=>(p.1,p.2.1))->Cov key P f l->Cov key P' f l
 |[],[],_,_,_,_=>trivial
 |[],_::_,_,_,e,_=>by simp at e
 |_::_,[],_,_,e,_=>by simp at e
 |p::P,p'::P',f,l,e,h=>by
  simp only[Zw,Z7r,Mj] at e
  obtain⟨⟨e1,e2⟩,e3⟩:=e
  obtain⟨h1,h2,h3,h4,h5⟩:=h
  refine⟨e1.trans h1,?_,?_,?_,?_⟩ <;> rw[e2] <;> try assumption
  exact Z5V P P' _ _ e3 h5
theorem Z51:∀ (P P':List Run),P'.map (fun p=>(p.1,p.2.1))=P.map (fun p=>(p.1,p.2.1))->tot P'=tot P
 |[],[],_=>rfl
 |[],_::_,e=>by simp at e
 |_::_,[],e=>by simp at e
 |p::P,p'::P',e=>by
  simp only[Zw,Z7r,Mj] at e
  obtain⟨⟨e1,e2⟩,e3⟩:=e
  simp only[tot,e2,Z51 P P' e3]
theorem ZaC {P:List Run}{i:Nat}(h:i+1<P.length):∃ pre x y post,P=pre++x::y::post/\pre.length=i:=by
 refine⟨P.take i,P[i],P[i+1],P.drop (i+2),?_,by rw[Zx];lia⟩
 rw[<- Yr (i:=i+1),<- Yr (i:=i),Zp]
theorem Z6h(h:Z68 key xs i (i+n)):Up key ((xs.toList.drop i).take n):=by
 refine QH.mpr fun p q hp hq hpq=>?_
 have hq':=hq
 rw[Zx,ZI,Zh] at hq'
 rw[M4,M4,M5,M5]
 have e1:=MO (xs:=xs) (i:=i+p) (by omega)
 have e2:=MO (xs:=xs) (i:=i+q) (by omega)
 rw[Zd (by simp;lia)] at e1 e2
 rw[Jd e1,Jd e2]
 exact h _ _ (by lia) (by lia) (by lia)
theorem Zaz {xs ys:Ak_}{n:Nat}(h:∀ i,i<n->xs[i]?=ys[i]?):xs.toList.take n=ys.toList.take n:=by
 apply UY
 intro i
 by_cases hi:i<n
 ·rw[Nq hi,Nq hi,ZQ,ZQ]
  exact h i hi
 ·rw[Z1O (by exact Y2 ‹_›),Z1O (by lia)]
theorem C8 {α β:Type}(g:α->β)(f:α->α)(hg:∀ x,g (f x)=g x)(l:List α)(i:Nat):(l.modify i f).map g=l.map g:=by
 apply UY
 intro j
 rw[Jw,Jw,List.getElem?_modify]
 cases l[j]? with
 |none=>rfl
 |some x =>
  simp only[Z8,Option.map_eq_map]
  split
  ·rw[hg]
  ·rfl
end pure
structure J {O:KeyOrd}(key:Keyed->O.α)(aE:Ak_)(kd:N8)(lo:Nat)(D:List Keyed)(st:SortSt):Prop where
 perm:(arrOf st).Perm aE
 kind:kindOf st=kd
 failed:failedOf st=none
 cov:Cov key (pendingOf st).toList 0 (arrOf st).toList
 tt:tot (pendingOf st).toList=lo
 rest:(arrOf st).toList.drop lo=D
section
variable {prog:Program}{w:World}{A:Around}{E:Ps_}{s:Shared}{O:KeyOrd}{key:Keyed->O.α}{G:Keyed->Prop}{kd:N8}{st:SortSt}
 {aE aM:Ak_} {P:Array (Nat×Nat×Nat)} {lo:Nat} {D:List Keyed}
theorem B8(hc:Z7t prog w s O key G kd)(h0:∀ x∈aE.toList,G x)(hJ:J key aE kd lo D st)(hi:i+1<(pendingOf st).size)
  (h:∀ st',J key aE kd lo D st'->(pendingOf st').size+1=(pendingOf st).size->Q true st'):wpS (model prog w) A E s (mergeAt' i) Q st:=by
 refine W_ fun n9=>?_;obtain⟨pre,⟨sa,na,pw⟩,⟨sb,nb,pw'⟩,post,hP,hl⟩:=ZaC (P:=(pendingOf st).toList) (i:=i) (by simpa using hi)
 have hcov:=hJ.cov
 rw[hP,Z1r] at hcov
 obtain⟨c1,e1,n1,m1,u1,e2,n2,m2,u2,c2⟩:=hcov;apply n9;clear n9
 dsimp only at e1 n1 m1 u1 e2 n2 m2 u2 c2
 have ht:=hJ.tt
 rw[hP,Z0O] at ht
 simp only[tot] at ht
 simp only[JA] at e1 e2
 rw[ZI] at m1
 rw[ZI,ZI] at m2
 simp only[Zh] at m1 m2
 subst e1 e2
 rw[JV] at u2 c2
 rw[JV] at c2
 simp only[JA] at c2
 have hsz:(arrOf st).toList.length=(arrOf st).size:=Zh
 have hpl:(pendingOf st).size=pre.length+(post.length+2):=by
  rw[<- Zh,hP,Zj,Zf,Zf]
 refine Z3E (pre:=pre) (post:=post) (pw:=pw) (pw':=pw') hc hJ.kind hJ.failed (fun x hx=>h0 x ((Uw.mp hJ.perm).mem_iff.mp hx)) (by rw[<- hP]) hl.symm n1 n2 (by lia) u1 u2 ?_
 intro st' M k1 k2 k3 k4 k5 k6
 have lM:M.length=na+nb:=by
  rw[k5.length_eq,Zx,ZI,hsz]
  lia
 have hall:(arrOf st).toList=(arrOf st).toList.take (tot pre)++((arrOf st).toList.drop (tot pre)).take (na+nb)++(arrOf st).toList.drop (tot pre+na+nb):=by
  rw[Zi,Uk (tot pre) na nb,<- JV,Zp,Zp]
 have lT:((arrOf st).toList.take (tot pre)).length=tot pre:=by rw[Zx,hsz];lia
 have d1:(arrOf st').toList.drop (tot pre)=M++(arrOf st).toList.drop (tot pre+na+nb):=by
  rw[k4,Zi,Gi (by lia),JO (by lia),ZW]
 have d2:(arrOf st').toList.drop (tot pre+na+nb)=(arrOf st).toList.drop (tot pre+na+nb):=by
  rw[Uk,<- JV (i:=na+nb),d1,Gi (by lia),JO (by lia),ZW,Uk]
 have ppm:(arrOf st').toList.Perm (arrOf st).toList:=by
  rw[k4]
  conv=>rhs;rw[hall]
  exact (JD _ k5).append_right _
 have hsz':(arrOf st').toList.length=(arrOf st).size:=by rw[ppm.length_eq,hsz]
 refine h st' ⟨(Uw.mpr ppm).trans hJ.perm,k1,k2,?_,?_,?_⟩ ?_
 ·rw[k3,Z1r]
  refine⟨Cs _ _ _ _ c1 (by lia) ?_,?_⟩
  ·rw[k4,Zi,CU (by lia),DZ,Z7o]
  ·refine⟨by simp,by show 1<=na+nb;lia,by show na+nb<=_;rw[ZI,hsz'];lia,?_,?_⟩
   ·show Up key (((arrOf st').toList.drop (tot pre)).take (na+nb))
    rw[d1,CU (by lia),Yp (by lia)]
    exact k6
   ·show Cov key post (0+tot pre+(na+nb)) (((arrOf st').toList.drop (tot pre)).drop (na+nb))
    rw[JV,show tot pre+(na+nb)=tot pre+na+nb by lia,d2,show 0+tot pre+(na+nb)=tot pre+na+nb by lia]
    rw[show tot pre+(na+nb)=tot pre+na+nb by lia] at c2
    exact c2
 ·rw[k3,Z0O]
  simp only[tot]
  lia
 ·have e:∃ r,lo=tot pre+na+nb+r:=⟨lo-(tot pre+na+nb),by lia⟩
  obtain⟨r,e⟩:=e
  rw[e,<- JV (i:=r),d2,JV,<- e]
  exact hJ.rest
 ·rw[hpl,k3]
  simp
  rfl
theorem J.push(hJ:J key aE kd lo D st)(h1:1<=n)(h2:lo+n<=(arrOf st).size)(u:Up key (D.take n)) :
  J key aE kd (lo+n) (D.drop n) (setPending st ((pendingOf st).push (lo,n,pw))):=by
 refine⟨hJ.perm,hJ.kind,hJ.failed,?_,?_,?_⟩
 ·show Cov key ((pendingOf st).push (lo,n,pw)).toList 0 (arrOf st).toList
  rw[YQ,Z1r]
  refine⟨hJ.cov,?_,h1,?_,?_,trivial⟩
  ·rw[hJ.tt];simp
  ·rw[ZI,Zh,hJ.tt];simp only;lia
  ·rw[hJ.tt,hJ.rest];exact u
 ·show tot ((pendingOf st).push (lo,n,pw)).toList=_
  rw[YQ,Z0O,hJ.tt]
  simp[tot]
 ·show (arrOf st).toList.drop (lo+n)=_
  rw[<- JV,hJ.rest]
theorem J.power(hJ:J key aE kd lo D st):J key aE kd lo D (setPending st ((pendingOf st).modify ((pendingOf st).size-1) fun x=>match x with|(a,b,_)=>(a,b,pw))):=by
 have e:((pendingOf st).modify ((pendingOf st).size-1) fun x:Run=>match x with|(a,b,_)=>(a,b,pw)).toList.map (fun p=>(p.1,p.2.1))=(pendingOf st).toList.map (fun p=>(p.1,p.2.1)):=by
  rw[Array.toList_modify]
  exact C8 _ _ (fun ⟨a,b,c⟩=>rfl) _ _
 refine⟨hJ.perm,hJ.kind,hJ.failed,Z5V _ _ _ _ e hJ.cov,(Z51 _ _ e).trans hJ.tt,hJ.rest⟩
theorem Z4Q(hc:Z7t prog w s O key G kd)(h0:∀ x∈aE.toList,G x)(hpm:(arrOf st).Perm aE)(hkd:kindOf st=kd)(hfl:failedOf st=none)(hpd:pendingOf st=#[])
  (h:∀ st',(arrOf st').Perm aE->failedOf st'=none->Up key (arrOf st').toList->Q () st'):wpS (model prog w) A E s sortRuns' Q st:=by
 rw[sortRuns'_eq]
 refine Zo (QM ?_)
 have hz:(arrOf st).size=aE.size:=hpm.size_eq
 dsimp only
 rw[hz]
 have hmr:∀ f n r,n<=f->(1<=n\/1<=r)->1<=minRun' f n r:=by
  intro f
  induction f with
  |zero=>intro n r h1 h2;show 1<=n+r;lia
  |succ f ih =>
   intro n r h1 h2
   rw[minRun'_succ]
   split
   ·lia
   ·exact ih _ _ (by lia) (.inl (by lia))
 refine Zo (UT (Y0
  (I:=fun x c st'=>∃ lo,c=(none,lo)/\x<=lo/\lo<=aE.size/\J key aE kd lo ((arrOf st').toList.drop lo) st')
  (Q:=fun c st'=>c=(none,aE.size)/\J key aE kd aE.size [] st') ?is ?fi ?ini) ?po)
 case ini =>
  refine⟨0,rfl,Z7 _,Jh _,hpm,hkd,hfl,?_,?_,rfl⟩
  ·rw[hpd];exact trivial
  ·rw[hpd];rfl
 case fi =>
  rintro c st' ⟨lo,rfl,l1,l2,hJ⟩
  have e:lo=aE.size:=by exact G1 ‹_› ‹_›
  subst e
  have hs:(arrOf st').size=aE.size:=hJ.perm.size_eq
  rw[JO (by rw[Zh];lia)] at hJ
  exact⟨rfl,hJ⟩
 case po =>
  rintro c st' ⟨rfl,hJ⟩
  dsimp only
  refine Zo (UT (Y0 (I:=fun x c st''=>c=(none,())/\J key aE kd aE.size [] st''/\(pendingOf st'').size+x<=aE.size)
   (Q:=fun c st''=>c=(none,())/\J key aE kd aE.size [] st''/\(pendingOf st'').size<=1) ?is2 ?fi2 ?in2) ?po2)
  case in2 =>
   refine⟨rfl,hJ,?_⟩
   have z:=Z9E _ _ _ hJ.cov
   rw[hJ.tt,Zh,Zh] at z
   lia
  case fi2 =>
   rintro c st'' ⟨hc',hJ',hp⟩
   exact⟨hc',hJ',by lia⟩
  case is2 =>
   rintro x c st''-hx ⟨rfl,hJ',hp⟩
   refine Zo (QM ?_)
   by_cases hle:(pendingOf st'').size<=1
   ·rw[if_pos hle]
    exact ZA ⟨rfl,hJ',hle⟩
   ·rw[if_neg hle]
    refine Zo (B8 hc h0 hJ' ?_ fun st3 hJ3 hs3=>?_)
    ·have two:∀ (b:Bool) (u:Nat),1<u->(if b=true then u-2-1 else u-2)+1<u:=by
      intro b u hu
      cases b <;> simp <;> lia
     exact two _ _ (by exact MC ‹_›)
    ·exact ZA ⟨rfl,hJ3,by lia⟩
  case po2 =>
   rintro c st'' ⟨rfl,hJ',hp⟩
   refine ZA (h st'' hJ'.perm hJ'.failed ?_)
   have hs:(arrOf st'').toList.length=aE.size:=by rw[Zh];exact hJ'.perm.size_eq
   have hcv:=hJ'.cov
   have htt:=hJ'.tt
   have hl:(pendingOf st'').toList.length<=1:=by rw[Zh];exact hp
   match hq:(pendingOf st'').toList,hl with
   |[],_ =>
    rw[hq] at htt
    simp only[tot] at htt
    have:(arrOf st'').toList=[]:=Gh (by lia)
    rw[this]
    exact U1
   |[p],_ =>
    rw[hq] at htt hcv
    simp only[tot] at htt
    have u:=hcv.2.2.2.1
    rwa [Yp (by lia)] at u
 case is =>
  rintro x c st'-hx ⟨lo,rfl,l1,l2,hJ⟩
  dsimp only
  by_cases hge:lo >= aE.size
  ·rw[if_pos hge]
   have e:lo=aE.size:=by exact G1 ‹_› ‹_›
   subst e
   have hs:(arrOf st').size=aE.size:=hJ.perm.size_eq
   rw[JO (by rw[Zh];lia)] at hJ
   exact ZA ⟨rfl,hJ⟩
  rw[if_neg hge]
  have hm1:1<=minRun' aE.size aE.size 0:=hmr _ _ _ (Z7 _) (.inl (by lia))
  have B0:Nc aE kd (pendingOf st') lo (arrOf st') st':=⟨hJ.perm,hJ.kind,hJ.failed,rfl,fun _ _=>rfl⟩
  have next:∀ (st2:SortSt) (n:Nat),Nc aE kd (pendingOf st') lo (arrOf st') st2->1<=n->lo+n<=aE.size->Z68 key (arrOf st2) lo (lo+n) ->
    J key aE kd lo ((arrOf st2).toList.drop lo) st2/\Up key (((arrOf st2).toList.drop lo).take n):=by
   intro st2 n B n1 n2 sg
   refine⟨⟨B.perm,B.kind,B.failed,?_,by rw[B.pend];exact hJ.tt,rfl⟩,Z6h sg⟩
   rw[B.pend]
   refine Cs _ _ _ _ hJ.cov ?_ ?_
   ·rw[hJ.tt,Zh,B.size];omega
   ·rw[hJ.tt];exact Zaz B.low
  refine Zo (Zdt hc h0 (by lia) (by lia) B0 fun m st2 B2 m1 m2 sg=>?_)
  dsimp only
  by_cases hlt:m<minRun' aE.size aE.size 0
  ·rw[if_pos hlt]
   refine Zo (Z02 (Gb ⟨rfl,?_⟩))
   refine Zo (Z6f hc h0 (by lia) (by omega) B2 sg fun st3 B3 sg3=>?_)
   rw[if_neg (by simp)]
   obtain⟨J3,u3⟩:=next st3 _ B3 (by lia) (by lia) sg3
   have n1:1<=min (aE.size-lo) (minRun' aE.size aE.size 0):=by lia
   have n2:lo+min (aE.size-lo) (minRun' aE.size aE.size 0)<=aE.size:=by lia
   generalize min (aE.size-lo) (minRun' aE.size aE.size 0)=n at n1 n2 u3 ⊢
   have last:∀ (st4:SortSt),J key aE kd lo ((arrOf st3).toList.drop lo) st4->∃ l4,((none:Option Unit),lo+n)=(none,l4)/\x+1<=l4/\l4<=aE.size/\J key aE kd l4 ((arrOf (setPending st4 ((pendingOf st4).push (lo,n,0)))).toList.drop l4) (setPending st4 ((pendingOf st4).push (lo,n,0))):=by
    intro st4 J4
    have z:=J4.push (pw:=0) n1 (by rw[J4.perm.size_eq];exact n2) u3
    have e:=z.rest
    refine⟨lo+n,rfl,by lia,n2,?_⟩
    rw[e]
    exact z
   refine Zo (QM ?_)
   cases hbk:(pendingOf st3).back? with
   |none=>exact Zo (N5 (ZA (last _ J3)))
   |some q =>
    obtain⟨s1,n1',o1⟩:=q
    dsimp only
    refine Zo (UT (Y0 (I:=fun _ c st4=>c=(none,())/\J key aE kd lo ((arrOf st3).toList.drop lo) st4)
     (Q:=fun c st4=>c=(none,())/\J key aE kd lo ((arrOf st3).toList.drop lo) st4) ?is5 (fun _ _ z=>z) ⟨rfl,J3⟩) ?po5)
    case po5 =>
     rintro c st4 ⟨rfl,J4⟩
     exact Zo (N5 (Zo (N5 (ZA (last _ J4.power)))))
    case is5 =>
     rintro y c st4-hy ⟨rfl,J4⟩
     refine Zo (QM ?_)
     split
     ·split
      ·exact ZA ⟨rfl,J4⟩
      ·rename_i heq _
       refine Zo (B8 hc h0 J4 ?_ fun st5 J5 _=>ZA ⟨rfl,J5⟩)
       split at heq
       ·lia
       ·exact absurd heq (by simp)
     ·exact ZA ⟨rfl,J4⟩
  ·rw[if_neg hlt]
   obtain⟨J3,u3⟩:=next st2 m B2 m1 (by lia) sg
   have n1:1<=m:=m1
   have n2:lo+m<=aE.size:=by lia
   generalize m=n at n1 n2 u3 ⊢
   generalize st2=st3 at J3 u3 ⊢
   have last:∀ (st4:SortSt),J key aE kd lo ((arrOf st3).toList.drop lo) st4->∃ l4,((none:Option Unit),lo+n)=(none,l4)/\x+1<=l4/\l4<=aE.size/\J key aE kd l4 ((arrOf (setPending st4 ((pendingOf st4).push (lo,n,0)))).toList.drop l4) (setPending st4 ((pendingOf st4).push (lo,n,0))):=by
    intro st4 J4
    have z:=J4.push (pw:=0) n1 (by rw[J4.perm.size_eq];exact n2) u3
    have e:=z.rest
    refine⟨lo+n,rfl,by lia,n2,?_⟩
    rw[e]
    exact z
   refine Zo (QM ?_)
   cases hbk:(pendingOf st3).back? with
   |none=>exact Zo (N5 (ZA (last _ J3)))
   |some q =>
    obtain⟨s1,n1',o1⟩:=q
    dsimp only
    refine Zo (UT (Y0 (I:=fun _ c st4=>c=(none,())/\J key aE kd lo ((arrOf st3).toList.drop lo) st4)
     (Q:=fun c st4=>c=(none,())/\J key aE kd lo ((arrOf st3).toList.drop lo) st4) ?is5 (fun _ _ z=>z) ⟨rfl,J3⟩) ?po5)
    case po5 =>
     rintro c st4 ⟨rfl,J4⟩
     exact Zo (N5 (Zo (N5 (ZA (last _ J4.power)))))
    case is5 =>
     rintro y c st4-hy ⟨rfl,J4⟩
     refine Zo (QM ?_)
     split
     ·split
      ·exact ZA ⟨rfl,J4⟩
      ·rename_i heq _
       refine Zo (B8 hc h0 J4 ?_ fun st5 J5 _=>ZA ⟨rfl,J5⟩)
       split at heq
       ·lia
       ·exact absurd heq (by simp)
     ·exact ZA ⟨rfl,J4⟩
end
end Sg
namespace Sg
open PySem PyProof.Rows PySem.Spec
def Ext (h h':Heap):Prop:=∀ b o,h.get? b=some o->h'.get? b=some o
theorem Ext.refl (h:Heap):Ext h h:=fun _ _ e=>e
structure Sorts (prog:Program)(w:World)(h:Heap)(vs:Lu_)(O:KeyOrd)(key:Keyed->O.α)(G:Keyed->Prop)(kd:N8):Prop where
 good:∀ v∈vs,G (v,v)
 kind:2<=vs.length->∀ (s:Shared) (A:Around) (E:Ps_) (Q:N8->Shared->Prop),Ext h s.heap->Q kd s->wpAny (model prog w) A (keyKind' vs.toArray) Q E s
 asks:∀ s:Shared,Ext h s.heap->Z7t prog w s O key G kd
section
variable {prog:Program}{w:World}{A:Around}{E:Ps_}{s:Shared}{O:KeyOrd}{key:Keyed->O.α}{G:Keyed->Prop}{kd:N8}{h:Heap}{vs:Lu_}
theorem Zjo {xs:Ak_}(hp:xs.Perm (pairsOf vs))(hu:Up key xs.toList) :
  (xs.map (·.2)).toList.Perm vs/\(xs.map (·.2)).toList.Pairwise fun a b=>O.kle (key (a,a)) (key (b,b)):=by
 have hl:xs.toList.Perm (vs.zip vs):=by rw[<- Z7j];exact Uw.mp hp
 have hm:∀ p∈xs.toList,p=(p.2,p.2):=fun p q=>Qm (mem_zip_self (hl.mem_iff.mp q)).1 rfl
 rw[ZcC]
 constructor
 ·have e:=hl.map (·.2)
  rwa [show (vs.zip vs).map (·.2)=vs from Zdr (Z7 _)] at e
 ·refine YS.mpr (YN (fun {a b} ha hb hab=>?_) hu)
  rw[<- hm a ha,<- hm b hb]
  exact hab
theorem Z1c (S:Sorts prog w h vs O key G kd) (ho:s.heap.get? a=some (seqObj "list" vs.toArray n)) (hx:h.get? a=none) (he:Ext h s.heap)
  (hsz:vs.length<=sizeLine)
  (hh:∀ out:Au_,out.toList.Perm vs->(out.toList.Pairwise fun a b=>O.kle (key (a,a)) (key (b,b)))->P (.done (.ret .none)) { s with heap:=sortedHeap s.heap a vs out }) :
  wpAny (model prog w) A (Builtin.«list.sort» ⟨[.ref a],[]⟩) P E s:=by
 rw[list_sort_plain]
 have ha:a<s.heap.objs.size:=Zy ho
 refine Z0 (BU ho rfl ?_)
 refine Z0 (N6 ho rfl ?_ (by simpa using hsz) (Jh _))
 obtain⟨e1,ho1⟩:∃ e1,(s.heap.update a (Yz fun _=>#[])).get? a=some (seqObj "list" #[] e1):=⟨_,M7 ho (fun _=>#[])⟩
 refine Z0 (CH ho1 rfl ?_)
 refine Z0 (Z7h ?_ (by simpa using hsz))
 refine Z0 (Dn ?_ (Jh _))
 refine Jx ?_
 have keep:∀ b,b≠a->b<s.heap.objs.size->(((s.heap.update a (Yz fun _=>#[])).push (seqObj "tuple" vs.toArray 0)).push (seqObj "list" #[] 0)).get? b=(s.heap.update a (Yz fun _=>#[])).get? b:=by
  intro b _ hb
  rw[W1 _ _ _ (by rw[WT,My];exact ZE (Yg hb)),W1 _ _ _ (by rw[My];exact ZE hb)]
 have ho6:(((s.heap.update a (Yz fun _=>#[])).push (seqObj "tuple" vs.toArray 0)).push (seqObj "list" #[] 0)).get? a=some (seqObj "list" #[] e1):=by
  rw[W1 _ _ _ (by rw[WT,My];exact ZE (Yg ha)),W1 _ _ _ (by rw[My];exact ZE ha)]
  exact ho1
 have hX:Ext h (((s.heap.update a (Yz fun _=>#[])).push (seqObj "tuple" vs.toArray 0)).push (seqObj "list" #[] 0)):=by
  intro b o e
  have hb:b≠a:=fun z=>by rw[z,hx] at e;cases e
  rw[keep b hb (Zy (he b o e)),JJ _ _ _ _ hb]
  exact he b o e
 show wpAny (model prog w) A _ P E { s with heap:=((s.heap.update a (Yz fun _=>#[])).push (seqObj "tuple" vs.toArray 0)).push (seqObj "list" #[] 0) }
 dsimp only
 have hlen:vs.toArray.size=vs.length:=by simp
 by_cases h2:vs.toArray.size<2
 ·rw[if_pos h2,if_pos h2]
  refine Z0 (Z4 ?_)
  rw[Zcp]
  refine Z0 (Z4 ?_)
  dsimp only
  refine Z0 (CH ho6 rfl ?_)
  refine Z0 (N6 ho6 rfl ?_ (Jh _) (by rw[Qo];show (pairsOf vs).size<=_;rw[pairsOf_size];lia))
  simp only[bne_self_eq_false,Zv,if_false]
  have u0:Up key (pairsOf vs).toList:=by
   rw[Z7j]
   clear hh ho hX keep ho6 S hsz
   rcases vs with _|⟨v,_|⟨v2,r⟩⟩
   ·exact U1
   ·exact Z4N _ _
   ·simp at h2
    lia
  have z:=Zjo (vs:=vs) (Z7g (pairsOf vs)) u0
  exact Z4 (hh _ z.1 z.2)
 ·rw[if_neg h2,if_neg h2]
  refine Z0 (S.kind (by exact Y2 ‹_›) _ _ _ _ hX ?_)
  have g0:∀ x∈(pairsOf vs).toList,G x:=by
   intro x q
   rw[Z7j] at q
   have e:=mem_zip_self q
   have e2:x=(x.1,x.1):=Qm rfl e.1.symm
   rw[e2]
   exact S.good _ e.2
  refine Z0 (Y1 (Z4Q (aE:=pairsOf vs) (key:=key) (G:=G) (kd:=kd) (st:=WY kd (vs.toArray.zip vs.toArray) #[] 7 none)
   (Q:=fun _ st'=>(arrOf st').Perm (pairsOf vs)/\failedOf st'=none/\Up key (arrOf st').toList)
   (S.asks _ hX) g0 (Z7g _) rfl rfl rfl fun st' a1 a2 a3=>⟨a1,a2,a3⟩) ?_ fun _ _ e=>e)
  rintro⟨⟨⟩,st'⟩ s' ⟨rfl,hp,hf,hs⟩
  dsimp only
  refine Z0 (CH ho6 rfl ?_)
  refine Z0 (N6 ho6 rfl ?_ (Jh _) (by refine ZF (Z7p ((Qo ..).trans (hp.size_eq.trans (pairsOf_size _)))) ?_;lia))
  rw[hf]
  simp only[bne_self_eq_false,Zv,if_false]
  have z:=Zjo hp hs
  exact Z4 (hh _ z.1 z.2)
theorem sorted_any {v:Value}{Q:Ps_}
  (hc:∀ A':Around,A'.handled=A.handled->wpAny (model prog w) A' (collect v) (fun vs s1=>vs.length<=sizeLine/\∃ (O:KeyOrd) (key:Keyed->O.α) (G:Keyed->Prop) (kd:N8),Sorts prog w s1.heap vs O key G kd /\
   ∀ (out:Lu_) (h':Heap) (e:Nat),out.Perm vs->(out.Pairwise fun a b=>O.kle (key (a,a)) (key (b,b)))->Ext s1.heap h'->h'.get? s1.heap.objs.size=some (seqObj "list" out.toArray e) ->
    Q (.ref s1.heap.objs.size) { s1 with heap:=h' }) E s) :
  wpAny (model prog w) A (call (.builtin "sorted") [v]) Q E s:=by
 refine Calls.call_function_entry kind_sorted plain_sorted entry_sorted (args_sorted1 _) ?_
 unfold Z7f
 refine Z0 (m:=checkCount "sorted" 1 1 _) (Z4 ?_)
 refine Z0 (Y1 (hc _ (by first|rfl|simp)) (fun vs s1 hq=>?_) fun _ _ e=>e)
 refine W_ fun n9=>?_;obtain⟨hsz,O,key,G,kd,S,hq⟩:=hq;apply n9;clear n9
 refine Z0 (Dn ?_ hsz)
 have hoL:(s1.heap.push (seqObj "list" vs.toArray 0)).get? s1.heap.objs.size=some (seqObj "list" vs.toArray 0):=Zl _ rfl
 have hE:Ext s1.heap (s1.heap.push (seqObj "list" vs.toArray 0)):=fun b o e=>Z3 _ e
 show wpAny _ _ _ _ _ { s1 with heap:=s1.heap.push (seqObj "list" vs.toArray 0) }
 refine Z0 (Jx (Yh ZjN ⟨_,hoL,rfl⟩ Zjt
  (Z1c (s:={ s1 with heap:=s1.heap.push (seqObj "list" vs.toArray 0) }) S hoL (ME (Z7 _)) hE hsz fun out a1 a2=>⟨_,rfl,?_⟩) (args_list_sort _)))
 obtain⟨e,he⟩:=sortedHeap_at (out:=out) hoL
 refine Z4 ⟨_,rfl,hq out.toList _ e a1 a2 (fun b o q=>?_) (by simpa using he)⟩
 have hb:b<s1.heap.objs.size:=Zy q
 rw[sortedHeap_old (ZE hb) (by rw[WT];exact Yg hb)]
 exact hE b o q
end
end Sg
namespace Sg
open PySem PyProof.Rows PySem.Spec PySem.W
structure Atom where
 O:KeyOrd
 dflt:O.α
 keyOf:Value->Option O.α
 T:Value
 notTup:(T != Yo "tuple")=true
 self:(T == T)=true
 ty:∀ (M:Model) (h:Heap) (v:Value) (k:O.α),keyOf v=some k->Looks M h (typeOf v) T
 eqs:∀ {prog:Program} {w:World} {A:Around} {E:Ps_} {s:Shared} {p q:Value} {a b:O.α} {Q:Bool->Shared->Prop},keyOf p=some a->keyOf q=some b ->
  (∀ c:Bool,(c=true↔a=b)->Q c s)->wpAny (model prog w) A (eqBool p q) Q E s
 lts:∀ {prog:Program} {w:World} {A:Around} {E:Ps_} {s:Shared} {p q:Value} {a b:O.α} {Q:Bool->Shared->Prop} (c:Bool),keyOf p=some a->keyOf q=some b ->
  Q (O.blt a b) s->wpAny (model prog w) A (oneLt' c p q) Q E s
@[reducible] noncomputable def intOrd:KeyOrd where
 α:=Int
 blt a b:=decide (a<b)
 irrefl a:=by simp
 trans a b c h1 h2:=by simp only[decide_eq_true_eq] at *;lia
 negTrans a b c h:=by simp only[decide_eq_true_eq] at *;lia
 total a b h1 h2:=by simp only[decide_eq_false_iff_not] at *;lia
noncomputable def lexOrd (P R:KeyOrd):KeyOrd where
 α:=P.α×R.α
 blt a b:=P.blt a.1 b.1||(!P.blt b.1 a.1&&R.blt a.2 b.2)
 irrefl a:=by rw[P.irrefl,R.irrefl];rfl
 trans a b c h1 h2:=by
  simp only[Ys,ZP,W2] at *
  rcases h1 with h1|⟨h1,h1'⟩ <;> rcases h2 with h2|⟨h2,h2'⟩
  ·exact .inl (P.trans _ _ _ h1 h2)
  ·exact .inl (KeyOrd.klt_of_klt_of_kle (O:=P) h1 h2)
  ·exact .inl (Z1Q (O:=P) h1 h2)
  ·exact .inr ⟨JP (O:=P) h1 h2,R.trans _ _ _ h1' h2'⟩
 negTrans a b c h:=by
  simp only[Ys,ZP,W2] at *
  rcases h with h|⟨h,h'⟩
  ·rcases P.negTrans _ b.1 _ h with z|z
   ·exact .inl (.inl z)
   ·exact .inr (.inl z)
  ·cases e1:P.blt a.1 b.1 with
   |true=>exact .inl (.inl rfl)
   |false =>
    cases e2:P.blt b.1 c.1 with
    |true=>exact .inr (.inl rfl)
    |false =>
     have e3:P.blt b.1 a.1=false:=by
      cases z:P.blt b.1 a.1 with
      |false=>rfl
      |true =>
       rcases P.negTrans _ c.1 _ z with y|y
       ·rw[e2] at y;cases y
       ·rw[h] at y;cases y
     have e4:P.blt c.1 b.1=false:=by
      cases z:P.blt c.1 b.1 with
      |false=>rfl
      |true =>
       rcases P.negTrans _ a.1 _ z with y|y
       ·rw[h] at y;cases y
       ·rw[e1] at y;cases y
     rcases R.negTrans _ b.2 _ h' with z|z
     ·exact .inl (.inr ⟨e3,z⟩)
     ·exact .inr (.inr ⟨e4,z⟩)
 total a b h1 h2:=by
  simp only[MF] at *
  have e:=P.total _ _ h1.1 h2.1
  have g1:=h1.2
  have g2:=h2.2
  rw[h2.1] at g1
  rw[h1.1] at g2
  exact Qm e (R.total _ _ (by simpa using g1) (by simpa using g2))
noncomputable def intAtom:Atom where
 O:=intOrd
 dflt:=(0:Int)
 keyOf v:=match v with|.int n _=>some n|_=>none
 T:=Yo "int"
 notTup:=rfl
 self:=rfl
 ty:=by
  intro M h v k e
  cases v <;> simp only[reduceCtorEq] at e
  exact ZjA
 eqs:=by
  intro prog w A E s p q a b Q ha hb hQ
  cases p <;> simp only[reduceCtorEq,Jj] at ha
  cases q <;> simp only[reduceCtorEq,Jj] at hb
  subst ha hb
  exact Zi9 (hQ _ (by simp))
 lts:=by
  intro prog w A E s p q a b Q c ha hb hQ
  cases p <;> simp only[reduceCtorEq,Jj] at ha
  cases q <;> simp only[reduceCtorEq,Jj] at hb
  subst ha hb
  cases c with
  |true=>exact oneLt_int hQ
  |false=>exact kat_one _ _ (Z1B hQ)
noncomputable def strAtom:Atom where
 O:=strKind.toKeyOrd
 dflt:=([]:List Nat)
 keyOf v:=match v with|.str x _=>some x.cps.toList|_=>none
 T:=Yo "str"
 notTup:=rfl
 self:=rfl
 ty:=by
  intro M h v k e
  cases v <;> simp only[reduceCtorEq] at e
  exact ZjA
 eqs:=by
  intro prog w A E s p q a b Q ha hb hQ
  cases p <;> simp only[reduceCtorEq,Jj] at ha
  cases q <;> simp only[reduceCtorEq,Jj] at hb
  subst ha hb
  rename_i x _ y _
  refine Zi8 (hQ _ ?_)
  cases x;cases y
  simp only[decide_eq_true_eq,Zfr]
  exact Wn.symm
 lts:=by
  intro prog w A E s p q a b Q c ha hb hQ
  cases p <;> simp only[reduceCtorEq,Jj] at ha
  cases q <;> simp only[reduceCtorEq,Jj] at hb
  subst ha hb
  cases c with
  |true=>exact oneLt_str hQ
  |false=>exact kat_one _ _ (Z1A (show PySem.W.BoolBack Q (Z3k _) s from hQ))
variable {prog:Program}{w:World}
theorem Z3F (Z:Atom)(h:Heap){vs:Lu_}(hv:∀ v∈vs,∃ k,Z.keyOf v=some k)(hk:∀ bE bF r,vs=bE::bF::r->keyKind' (bE::bF::r).toArray=pure oneType') :
  Sorts prog w h vs Z.O (fun p=>(Z.keyOf p.1).getD Z.dflt) (fun p=>∃ k,Z.keyOf p.1=some k) oneType':=by
 refine⟨fun v m=>hv v m,fun h2 s A E Q _ hQ=>?_,fun s _ A E x y Q gx gy hQ=>?_⟩
 ·match vs,h2,hk with
  |bE::bF::r,_,hk =>
   rw[hk bE bF r rfl]
   exact Z4 hQ
  |[v],h2,_=>exact absurd h2 (by simp)
  |[],h2,_=>exact absurd h2 (by simp)
 ·obtain⟨a,ha⟩:=gx
  obtain⟨b,hb⟩:=gy
  rw[keyLt'_oneType]
  rw[ha,hb] at hQ
  exact Z.lts true ha hb hQ
theorem sorts_strs (h:Heap){vs:Lu_}{ss:Ls_}(hS:StrsAre vs ss) :
  Sorts prog w h vs strAtom.O (fun p=>(strAtom.keyOf p.1).getD strAtom.dflt) (fun p=>∃ k,strAtom.keyOf p.1=some k) oneType' :=
 Z3F strAtom h (fun v m=>by obtain⟨x,t,rfl⟩:=hS.all v m;exact⟨_,rfl⟩) fun bE bF r e=>keyKind_strs (by rw[<- e];exact hS)
def IsPair (Y Z:Atom)(h:Heap)(v:Value)(k:Y.O.α×Z.O.α):Prop :=
 ∃ x o u r n,v=.ref x/\h.get? x=some o/\o.cls=.type "tuple"/\o.data=.seq #[u,r] n/\Y.keyOf u=some k.1/\Z.keyOf r=some k.2
open Classical in
noncomputable def pairKey (Y Z:Atom)(h:Heap)(v:Value):Y.O.α×Z.O.α:=if e:∃ k,IsPair Y Z h v k then e.choose else (Y.dflt,Z.dflt)
theorem pairKey_of(hk:IsPair Y Z h v k):pairKey Y Z h v=k:=by
 have e:∃ k,IsPair Y Z h v k:=⟨k,hk⟩
 unfold pairKey
 rw[dif_pos e]
 refine W_ fun n9=>?_;obtain⟨x,o,u,r,n,e1,e2,e3,e4,e5,e6⟩:=e.choose_spec
 obtain⟨x',o',u',r',n',f1,f2,f3,f4,f5,f6⟩:=hk;apply n9;clear n9
 have hx:x'=x:=by rw[f1] at e1;cases e1;rfl
 subst hx
 rw[f2] at e2
 cases e2
 rw[f4] at e4
 cases e4
 rw[f5] at e5
 rw[f6] at e6
 exact Qm (Jd e5).symm (Jd e6).symm
theorem Z7E(hE:Ext h h'):∀ {vs:Lu_},(∀ v∈vs,∃ k,IsPair Y Z h v k)->∃ fs,KatTups h' vs fs/\fs.length=vs.length/\∀ f∈fs,∃ k,Y.keyOf f=some k
 |[],_=>⟨[],.nil,rfl,fun _ q=>absurd q (by simp)⟩
 |v::vs,hv=>by
  refine W_ fun n9=>?_;obtain⟨fs,t,hl,hf⟩:=Z7E hE (vs:=vs) fun v m=>hv v (Z2 _ m)
  obtain⟨k,x,o,u,r,n,rfl,e2,e3,e4,e5,e6⟩:=hv v Z1;apply n9;clear n9
  refine⟨u::fs,KatTups.cons (hE _ _ e2) e3 e4 rfl t,by simp[hl],fun f m=>?_⟩
  rcases Zc.mp m with rfl|m
  ·exact⟨_,e5⟩
  ·exact hf f m
theorem sorts_pairs (Y Z:Atom)(h:Heap)(hv:∀ v∈vs,∃ k,IsPair Y Z h v k) :
  Sorts prog w h vs (lexOrd Y.O Z.O) (fun p=>pairKey Y Z h p.1) (fun p=>∃ k,IsPair Y Z h p.1 k) (tuples' true):=by
 refine⟨fun v m=>hv v m,fun h2 s A E Q hE hQ=>?_,fun s hE A E x y Q gx gy hQ=>?_⟩
 ·refine W_ fun n9=>?_;obtain⟨fs,t,hl,hf⟩:=Z7E hE hv;apply n9;clear n9
  refine kat_kind t (by lia) (T:=Y.T) (fun v m=>?_) Y.self ?_
  ·obtain⟨k,e⟩:=hf v m
   exact Y.ty _ _ v k e
  ·rw[Y.notTup]
   exact hQ
 ·refine W_ fun n9=>?_;obtain⟨⟨a,b⟩,hx⟩:=gx
  obtain⟨⟨a',b'⟩,hy⟩:=gy
  rw[pairKey_of hx,pairKey_of hy] at hQ
  obtain⟨x1,o,u,r,n,e1,e2,e3,e4,e5,e6⟩:=hx
  obtain⟨y1,o',u',r',n',f1,f2,f3,f4,f5,f6⟩:=hy;apply n9;clear n9
  dsimp only at e5 e6 f5 f6
  rw[e1,f1]
  refine kat_lt (hE _ _ e2) e4 (hE _ _ f2) f4 ?_
  show KatLex prog w A true false Q [(u,u'),(r,r')] 0 s
  refine kat_cons (Y.eqs e5 f5 fun c hc=>kat_go (fun ec=>?_) fun ec=>?_)
  ·have ea:a=a':=hc.mp ec
   subst ea
   refine kat_yes (kat_cons (Z.eqs e6 f6 fun c2 hc2=>kat_go (fun ec2=>?_) fun ec2=>?_))
   ·have eb:b=b':=hc2.mp ec2
    subst eb
    refine kat_yes (kat_nil ?_)
    have z:(lexOrd Y.O Z.O).blt (a,b) (a,b)=false:=(lexOrd Y.O Z.O).irrefl (a,b)
    rw[z] at hQ
    exact hQ
   ·refine kat_no (Y1 (Z.lts _ e6 f6 (Q:=Q) (E:=fun _ _=>False) ?_) (fun _ _ z=>z) fun _ _ z=>z)
    have z:(lexOrd Y.O Z.O).blt (a,b) (a,b')=Z.O.blt b b':=by
     show (Y.O.blt a a||(!Y.O.blt a a&&Z.O.blt b b'))=_
     rw[Y.O.irrefl];rfl
    rw[z] at hQ
    exact hQ
  ·refine kat_no (Y.lts _ e5 f5 ?_)
   have ne:a≠a':=fun z=>by rw[hc.mpr z] at ec;cases ec
   have z:(lexOrd Y.O Z.O).blt (a,b) (a',b')=Y.O.blt a a':=by
    show (Y.O.blt a a'||(!Y.O.blt a' a&&Z.O.blt b b'))=_
    cases q1:Y.O.blt a a' with
    |true=>rfl
    |false =>
     cases q2:Y.O.blt a' a with
     |true=>rfl
     |false=>exact absurd (Y.O.total _ _ q1 q2) ne
   rw[z] at hQ
   exact hQ
end Sg
namespace Sg
open PySem
structure Z9Y (prog:Program)(w:World)(h:Heap)(a:Addr)(es:Ai_)(ep:Nat)(t:SetTable):Prop where
 obj:∃ o,h.get? a=some o/\o.ExactSet/\o.data=.set es ep t
 el:ElemsOf (ZT prog w) es.toList
 few:es.size<scanBound
 fits:t.fits es.size=true
 led:t.led=!(w.params.followText "set-order")
 plain:es.size=0\/t.plain=false
structure BSet (prog:Program)(w:World)(h:Heap)(a:Addr)(es:Ai_)(ep:Nat)(t:SetTable):Prop where
 obj:∃ o,h.get? a=some o/\o.ExactSet/\o.data=.set es ep t
 few:es.size<scanBound
 fits:t.fits es.size=true
 led:t.led=!(w.params.followText "set-order")
 plain:es.size=0\/t.plain=false
theorem BSet.keep(x:BSet prog w h a es ep t)(k:∀ o,h.get? a=some o->h'.get? a=some o):BSet prog w h' a es ep t :=
 ⟨let ⟨o,e,r⟩:=x.obj;⟨o,k o e,r⟩,x.few,x.fits,x.led,x.plain⟩
theorem Z9Y.b(x:Z9Y prog w h a es ep t):BSet prog w h a es ep t:=⟨x.obj,x.few,x.fits,x.led,x.plain⟩
noncomputable def txtOf:Value->Str
 |.str x _=>x
 |_=>⟨#[]⟩
noncomputable def txts (es:Ai_):Ls_:=es.toList.map fun e=>txtOf e.2
def TSetD (prog:Program)(w:World)(h:Heap)(a:Addr)(D:Ls_):Prop:=∃ es ep t,Z9Y prog w h a es ep t/\(txts es).Perm D
theorem Z9Y.keep(x:Z9Y prog w h a es ep t)(k:∀ o,h.get? a=some o->h'.get? a=some o):Z9Y prog w h' a es ep t :=
 ⟨let ⟨o,e,r⟩:=x.obj;⟨o,k o e,r⟩,x.el,x.few,x.fits,x.led,x.plain⟩
theorem TSetD.keep(x:TSetD prog w h a D)(k:∀ o,h.get? a=some o->h'.get? a=some o):TSetD prog w h' a D :=
 let ⟨es,ep,t,y,p⟩:=x;⟨es,ep,t,y.keep k,p⟩
theorem el_txt(h:ElemsOf (ZT prog w) l):∀ e∈l,∃ u,e.2=.str (txtOf e.2) u:=by
 intro e m
 refine W_ fun n9=>?_;obtain⟨⟨k,hk,-⟩,-⟩:=h e m
 obtain⟨u,e2⟩:=MR hk;apply n9;clear n9
 rw[e2]
 exact⟨u,rfl⟩
noncomputable def DT (D:Ls_)(x:Str):Ls_:=if x∈D then D else D++[x]
noncomputable def metS (l:Ls_):Ls_:=l.foldl DT []
theorem Z76(h:D.Nodup)(x:Str):(DT D x).Nodup:=by
 unfold DT
 split
 ·exact h
 ·rename_i n
  refine M2.mpr ⟨h,by simp,fun a ha b hb=>?_⟩
  rw[ZS] at hb
  subst hb
  exact fun z=>n (z ▸ ha)
theorem ZbH:y∈DT D x↔y∈D\/y=x:=by
 unfold DT
 split
 ·rename_i hm
  exact⟨.inl,fun z=>z.elim id fun e=>e ▸ hm⟩
 ·simp
theorem Fz:∀ (l D:Ls_),D.Nodup->(l.foldl DT D).Nodup/\(∀ y,y∈l.foldl DT D↔y∈D\/y∈l)/\(l.foldl DT D).length<=D.length+l.length
 |[],D,h=>⟨h,fun y=>by simp,by simp⟩
 |x::l,D,h=>by
  have ih:=Fz l (DT D x) (Z76 h x)
  refine⟨ih.1,fun y=>?_,?_⟩
  ·rw[U0,ih.2.1,ZbH,Zc,or_assoc]
  ·have z:(DT D x).length<=D.length+1:=by unfold DT;split <;> simp
   have:=ih.2.2
   rw[U0,Zf]
   lia
theorem metS_nodup (l:Ls_):(metS l).Nodup:=(Fz l [] YU).1
theorem mem_metS:y∈metS l↔y∈l:=by
 have:=(Fz l [] YU).2.1 y
 simpa [metS] using this
theorem metS_len (l:Ls_):(metS l).length<=l.length:=by
 have:=(Fz l [] YU).2.2
 simpa [metS] using this
theorem Z8V (l:Ls_)(x:Str):metS (l++[x])=DT (metS l) x:=by
 unfold metS;rw[Zcv];rfl
theorem Z7L (t:SetTable)(n:Nat):(t.orStandIn n).led=t.led:=by
 unfold SetTable.orStandIn
 split <;> rfl
theorem ZeP (t:SetTable)(es:Ai_)(h:Int)(x:Value):(layNew t es h x).2.1.led=t.led:=by
 unfold layNew
 split
 ·rename_i slot wd _
  show ((t.put slot).1.orStandIn _).led=t.led
  rw[Z7L]
  rfl
 ·rfl
theorem Z7Y (t:SetTable)(es:Ai_)(n:Nat)(hp:t.plain=false):(relayAll t es n).2.1.led=t.led/\(relayAll t es n).2.1.plain=false:=by
 unfold relayAll
 split
 ·rename_i t' order he
  have e:t'.led=t.led/\t'.plain=t.plain:=by
   unfold Z9Z Zcq at he
   simp only[Z7b,Zct] at he
   cases ho:UQ (SetTable.sizeAbove n-1) (es.map (·.1)) with
   |none=>rw[ho] at he;cases he
   |some ow =>
    rw[ho] at he
    simp only[ob_,Jj,Mj] at he
    rw[<- he.1]
    exact⟨rfl,rfl⟩
  dsimp only
  split
  ·exact⟨e.1,e.2.trans hp⟩
  ·exact⟨rfl,rfl⟩
 ·exact⟨rfl,rfl⟩
section
variable {prog:Program}{w:World}{A:Around}{E:Ps_}{s:Shared}
theorem Z05(x:Z9Y prog w s.heap a es ep t)
  (el:ElemsOf (ZT prog w) es'.toList) (few:es'.size<scanBound) (fits:t'.fits es'.size=true) (led:t'.led=t.led) (pl:t'.plain=false)
  (h:∀ h',J2 a s.heap h'->Z9Y prog w h' a es' (ep+1) t'->Q () { s with heap:=h' }):wpAny (model prog w) A (storeSet a es' t') Q E s:=by
 refine W_ fun n9=>?_;obtain⟨o,ho,hex,hd⟩:=x.obj;apply n9;clear n9
 have z:=SetOf_store (knd:=ZT prog w) (S':=fun k=>es'.toList.any fun e=>(ZT prog w).is k e.2) ho hex hd el (fun k=>by rw[Z01]) few fits
 refine ZhC ho hd (h _ (JF s.heap a (Z4L es' t')) ⟨⟨_,z.1,hex,rfl⟩,el,few,fits,led.trans x.led,.inr pl⟩) (N7 few)
theorem Zcm(hS:TSetD prog w s.heap a D)(room:D.length+1<scanBound)
  (h:∀ h' b,J2 a s.heap h'->TSetD prog w h' a (DT D x)->Q b { s with heap:=h',toks:=s.toks+1 }):wpAny (model prog w) A (setAdd a (.str x tk)) Q E s:=by
 obtain⟨es,ep,t,T,P⟩:=hS
 unfold setAdd
 refine Jx ?_
 refine Z0 (Zi5 ?_)
 have hn:es.size=D.length:=by
  have:=P.length_eq
  unfold txts at this
  simpa using this
 have T':Z9Y prog w ({ s with toks:=s.toks+1 }:Shared).heap a es ep t:=T
 obtain⟨o,ho,hex,hd⟩:=T.obj
 have hkey:(ZT prog w).is x (.str x tk)=true:=by show UC x (.str x tk)=true;simp[UC]
 have hin:(∃ e∈es.toList,(ZT prog w).is x e.2=true)↔x∈D:=by
  rw[<- P.mem_iff]
  unfold txts
  rw[Zu]
  constructor
  ·rintro⟨e,m,q⟩
   obtain⟨u,e2⟩:=MR q
   exact⟨e,m,by rw[e2];rfl⟩
  ·rintro⟨e,m,q⟩
   obtain⟨u,e2⟩:=el_txt T.el e m
   refine⟨e,m,?_⟩
   rw[e2,q]
   show UC x (.str x u)=true
   simp[UC]
 unfold setAddHashed setAddHashedIn
 refine Jx (Z0 (Yj (s:={ s with toks:=s.toks+1 }) ho hd T.fits ?_))
 dsimp only
 rw[byScan_of rfl T.few T.el]
 simp only[↓reduceIte]
 unfold setAddByScan
 refine Z0 (Z0 (Gb (Z0 (wpAny_setScan_of (s:={ s with toks:=s.toks+1 }) hkey ho hd T.fits T.el ?_))))
 cases hr:List.findIdx? (fun e=>(ZT prog w).is x e.2) es.toList with
 |some j =>
  dsimp only
  obtain⟨hj,hpj,-⟩:=List.findIdx?_eq_some_iff_getElem.mp hr
  have hm:x∈D:=hin.mp ⟨es.toList[j],CZ hj,hpj⟩
  refine Z4 (Z4 ?_)
  refine h s.heap _ (Dk a s.heap) ⟨es,ep,t,T,?_⟩
  unfold DT
  rw[if_pos hm]
  exact P
 |none =>
  dsimp only
  have hm:x∉D:=fun z=>by
   obtain⟨e,m,q⟩:=hin.mpr z
   have:=List.findIdx?_eq_none_iff.mp hr e m
   rw[q] at this
   cases this
  have hp:=layNew_perm t es (hashStr w x) (.str x tk)
  have hf:=layNew_fits t es (hashStr w x) (.str x tk)
  have hl:=ZeP t es (hashStr w x) (.str x tk)
  have hgw:∀ (b:Bool) (aG:Shared) (Q':Unit->Shared->Prop),Q' () aG->wpAny (model prog w) A (match b with|true=>rule "set.scan.the-table-gave-way" | false=>pure ()) Q' E aG :=
   fun b aG Q' q=>by
    cases b
    ·exact Z4 q
    ·exact Gb q
  generalize hL:layNew t es (hashStr w x) (.str x tk)=L at hp hf hl ⊢
  obtain⟨es1,t1,wd,gave⟩:=L
  dsimp only at hp hf hl ⊢
  rw[YQ] at hp
  have el1:ElemsOf (ZT prog w) es1.toList:=(T.el.push hkey rfl).perm hp
  have sz1:es1.size=es.size+1:=by
   have:=hp.length_eq
   simpa using this
  have few1:es1.size<scanBound:=by lia
  have P1:(txts es1).Perm (DT D x):=by
   unfold DT txts
   rw[if_neg hm]
   refine (hp.map _).trans ?_
   rw[YZ]
   exact P.append_right _
  refine Z0 (hgw _ _ _ ?_)
  have tail:∀ (t2:SetTable),t2.fits es1.size=true->t2.led=t.led->t2.plain=false ->
    wpAny (model prog w) A (do
     storeSet a es1 t2
     if (!wd&&t2.tooFull)=true then do
       (match (relayAll t2 es1 (GI es1.size)).2.2 with|true=>rule "set.scan.the-table-gave-way" | false=>pure ())
       storeSet a (relayAll t2 es1 (GI es1.size)).1 (relayAll t2 es1 (GI es1.size)).2.1
       pure (some true)
      else pure (some true)) (fun r s'=>wpAny (model prog w) A (match r with|some added=>pure added|none=>setAddHashedIn a (.str x tk) ((ZT prog w).hash x) 99999) Q E s') E { s with toks:=s.toks+1 }:=by
   intro t2 f2 l2 p2
   refine Z0 (Z05 (s:={ s with toks:=s.toks+1 }) T' el1 few1 f2 l2 p2 fun h1 sb1 T1=>?_)
   split
   ·have rp:=relayAll_perm t2 es1 (GI es1.size)
    have rf:=relayAll_fits t2 es1 (GI es1.size)
    have rl:=Z7Y t2 es1 (GI es1.size) p2
    have sz2:(relayAll t2 es1 (GI es1.size)).1.size=es1.size:=by
     have:=rp.length_eq
     simpa using this
    refine Z0 (hgw _ _ _ ?_)
    refine Z0 (Z05 (s:={ s with heap:=h1,toks:=s.toks+1 }) T1 (el1.perm rp) (by lia) rf rl.1 rl.2 fun h2 sb2 T2=>?_)
    exact Z4 (Z4 (h h2 _ (sb1.trans sb2) ⟨_,_,_,T2,(rp.map _).trans P1⟩))
   ·exact Z4 (Z4 (h h1 _ sb1 ⟨_,_,_,T1,P1⟩))
  by_cases hpl:t1.plain=true
  ·rw[if_pos hpl]
   refine Z0 ?_
   rw[hashByValue_scannable 8 rfl]
   refine Z4 ?_
   have e:plainKind (Ff x tk)=false:=rfl
   rw[e]
   exact tail { t1 with plain:=false } (SetTable.fits_plain_off hf) hl rfl
  ·rw[if_neg hpl]
   refine Z0 (Z4 ?_)
   simp only[↓reduceIte]
   exact tail t1 hf hl (by simpa using hpl)
end
end Sg
namespace Sg
open PySem PyProof.Rows
section
variable {prog:Program}{w:World}{A:Around}{R:Result->Shared->Prop}
theorem Z6Y {I l S:Addr}{items:Au_}{ss:Ls_}(hh:A.in1.handled=none)(hlI:l≠I)(hSI:S≠I)(hSl:S≠l)(hS:StrsAre items.toList ss)(few:ss.length+1<scanBound) :
  ∀ (k i:Nat) (s:Shared),ss.length-i=k->i<=ss.length->s.heap.IsListIter I l i->s.heap.IsList l items->TSetD prog w s.heap S (metS (ss.take i)) ->
   (∀ h' tk,(∀ b o,b≠S->b≠I->s.heap.get? b=some o->h'.get? b=some o)->TSetD prog w h' S (metS ss)->R (.ok (.ret .none)) { s with heap:=h',toks:=tk }) ->
   codeAny (model prog w) A (.builtin "set.update.loop" ⟨[.ref S,.ref I],[]⟩) R s:=by
 have W:=Z3j (prog:=prog) (w:=w) (A:=A.in1) hh I l hlI items
 have hlen:items.size=ss.length:=by
  have:∀ {vs:Lu_} {us:Ls_},StrsAre vs us->vs.length=us.length:=by
   intro vs us z
   induction z with
   |nil=>rfl
   |cons _ _ _ ih=>rw[Zf,Zf,ih]
  rw[<- this hS,Zh]
 intro k
 induction k with
 |zero =>
  intro i s hk hi it hl T hR
  have e:i=ss.length:=by lia
  subst e
  rw[N9] at T
  refine Ju YV ?_
  rw[ZZ JK _]
  show wpAny _ A.in1 (pyNext (.ref I)>>=_) _ _ s
  refine Z0 (W.done s _ _ (by rw[hlen];exact⟨it,hl⟩) fun h' tk kp=>?_)
  show wpAny _ A.in1 (ret YE) _ _ _
  refine Z4 (hR h' tk (fun b o _ hb e=>kp b o (by simp[hb]) e) (T.keep fun o e=>kp S o (by simp[hSI]) e))
 |succ k ih =>
  intro i s hk hi it hl T hR
  have hlt:i<ss.length:=by lia
  refine Ju YV ?_
  rw[ZZ JK _]
  show wpAny _ A.in1 (pyNext (.ref I)>>=_) _ _ s
  refine Z0 (W.item i s _ _ (by lia) ⟨it,hl⟩ fun v h1 tk1 hv st1 kp=>?_)
  obtain⟨it1,hl1⟩:=st1
  have hvs:∃ u,v=.str ss[i] u:=by
   have hz:∀ {vs:Lu_} {us:Ls_},StrsAre vs us->∀ (i:Nat) (v:Value) (hi:i<us.length),vs[i]?=some v->∃ u,v=.str us[i] u:=by
    intro vs us z
    induction z with
    |nil=>intro i v hi;exact absurd hi (by simp)
    |cons x t _ ih =>
     intro i v hi e
     cases i with
     |zero =>
      simp only[gz_,Jj] at e
      exact⟨t,e.symm⟩
     |succ i =>
      simp only[gs_] at e
      simp only[List.getElem_cons_succ]
      exact ih i v (by simpa using hi) e
   exact hz hS i v hlt (by rw[ZQ];exact hv)
  obtain⟨u,rfl⟩:=hvs
  show wpAny _ A.in1 (holding [Ff ss[i] u] (setAdd S (.str ss[i] u))>>=_) _ _ _
  have T1:TSetD prog w h1 S (metS (ss.take i)):=T.keep fun o e=>kp S o (by simp[hSI]) e
  refine Z0 (Jx (Zcm (s:={ s with heap:=h1,toks:=tk1 }) T1 ?_ fun h2 b sb T2=>?_))
  ·have:=metS_len (ss.take i)
   rw[Zx] at this
   lia
  ·have e3:DT (metS (ss.take i)) ss[i]=metS (ss.take (i+1)):=by
    rw[<- Z8V]
    congr 1
    rw[Z3q,Zd hlt]
    rfl
   rw[e3] at T2
   have x2:∀ b o,b≠S->h1.get? b=some o->h2.get? b=some o:=fun b o hb e=>by rw[sb.2 b hb];exact e
   refine Z4 ⟨Yk JK _,ih (i+1) { s with heap:=h2,toks:=tk1+1 } (by lia) hlt
    (it1.at fun o e=>x2 I o (Gx hSI) e) (hl1.at fun o e=>x2 l o (Gx hSl) e) T2 fun h3 tk3 kp3 T3=>?_⟩
   exact hR h3 tk3 (fun b o hb hb2 e=>kp3 b o hb hb2 (x2 b o hb (kp b o (by simp[hb2]) e))) T3
end
section
variable {prog:Program}{w:World}{A:Around}{E:Ps_}{s:Shared}
theorem ZeF {a:Value}{bQ:Ps_}
  (h:bQ (.ref s.heap.objs.size) { s with heap:=s.heap.push { cls:=.type "set",dict:=none,data:=.set #[] 0 (.fresh 0 0 (!(w.params.followText "set-order"))) } }) :
  codeAny (model prog w) A (.call (.builtin "set.__new__") ⟨[.type "set",a],[]⟩) (wants bQ E) s:=by
 refine Zju ?_
 show wpAny _ A.in1 (do checkBuiltinCall "set.__new__" ⟨[.type "set",a],[]⟩;again (.builtin "set.__new__" ⟨[.type "set",a],[]⟩)) _ _ s
 refine Z0 (Dm (F.newCall_set_1 a) (Z4 ⟨Yk Zi0 _,Ju F.entry_set_new ?_⟩))
 rw[ZZ Zi0 _]
 unfold Builtin.«set.__new__» Builtin.Frozenset.newClass
 have hsub':=sub_set_self
 obtain⟨hp,g,d,tk,os⟩:=s
 dsimp only
 wp_walk
 refine Nt (Z4 ?_)
 dsimp only
 simp only[newObj]
 exact Z0 (wpAny_alloc (Z4 (Z4 h)))
noncomputable abbrev Mx (w:World):Obj:={ cls:=.type "set",dict:=none,data:=.set #[] 0 (.fresh 0 0 (!(w.params.followText "set-order"))) }
set_option maxHeartbeats 8000000 in
theorem DR {l:Addr}{T:String}{odict:Option Addr}{odata:Data}{oslots:_}{Fin:Heap->Prop}{Q:Ps_}(hol:s.heap.get? l=some { cls:=.type T,dict:=odict,data:=odata,slots:=oslots })
  (no1:isSubtype (.type T) (.type "set")=pure false) (no2:isSubtype (.type T) (.type "frozenset")=pure false) (no3:(Yo T == Yo "dict")=false)
  (loop:∀ (A':Around) (E':Ps_) (Q':Ps_),A'.handled=A.handled->A'.units<=A.units+2 ->
   (∀ (h':Heap) (tk:Nat),Fin h'->(∀ b o,s.heap.get? b=some o->h'.get? b=some o)->Q' .none { s with heap:=h',toks:=tk }) ->
   wpAny (model prog w) A' (pyIter (.ref l)) (fun it s2=>wpAny (model prog w) A' (runValue (.builtin "set.update.loop" ⟨[.ref s.heap.objs.size,it],[]⟩)) Q' E' s2) E' { s with heap:=s.heap.push (Mx w) })
  (h:∀ (h':Heap) (tk:Nat),Fin h'->(∀ b o,s.heap.get? b=some o->h'.get? b=some o)->Q (.ref s.heap.objs.size) { s with heap:=h',toks:=tk }) :
  wpAny (model prog w) A (call (.type "set") [.ref l]) Q E s:=by
 obtain⟨c,tl,hmro⟩:=NK.mro
 have made:=NK.made
 have subs:=NK.sub
 refine ZhG (Zju ?_)
 show wpAny _ _ (callAny (.type "set") _) _ _ _
 refine Z4 ⟨Code.quiet_builtin _ (by decide +kernel),Ju F.entry_type_call ?_⟩
 rw[Around.under_plain (weight_type_call_type "set" [.ref l] []) rfl]
 have noType:=NK.notType
 have creates:=NK.canCreate
 have tcall:=F.typeCall_set_1 (.ref l)
 repeat (any_goals (first|assumption|wp_step))
 refine Fb (ZeF (a:=.ref l) (E:=E) (bQ:=fun obj aG=>obj=.ref s.heap.objs.size/\aG={ s with heap:=s.heap.push (Mx w) }) ⟨rfl,rfl⟩) fun r aG hr=>?_
 cases r with
 |error e=>exact hr
 |ok fl =>
  cases fl with
  |ret obj =>
   obtain⟨rfl,rfl⟩:=hr
   have oS:(s.heap.push (Mx w)).get? s.heap.objs.size=some (Mx w):=Zl _ rfl
   have tS:Shared.TypeIs { s with heap:=s.heap.push (Mx w) } (.ref s.heap.objs.size) "set":=⟨_,oS,rfl⟩
   have look:=NK.init.lookup
   have bnd:=NK.init.bind (.ref s.heap.objs.size)
   repeat (any_goals (first|assumption|wp_step))
   refine Fb (Zf3 (R:=wants (fun r aC=>r=.none/\∃ h' tk,aC={ s with heap:=h',toks:=tk }/\Fin h' /\
     ∀ b o,s.heap.get? b=some o->h'.get? b=some o) E) NK.init.plain F.entry_set_init (check_set_init_1 tS ?_)) fun cD aC bR=>?_
   ·have hol':(s.heap.push (Mx w)).get? l=some { cls:=.type T,dict:=odict,data:=odata,slots:=oslots }:=Z3 _ hol
    unfold Builtin.«set.__init__» noKeywords Builtin.Frozenset.updateFrom
    generalize hPI:pyIter=PI
    wp_walk
    subst hPI
    refine Y1 (loop _ _ (fun r aC=>r=.none/\∃ h' tk,aC={ s with heap:=h',toks:=tk }/\Fin h'/\∀ b o,s.heap.get? b=some o->h'.get? b=some o) (by simp) ?hu fun h' tk f k=>⟨rfl,h',tk,rfl,f,k⟩) (fun it s2 hq=>Z0 (Y1 hq (fun r s3 hr3=>?fin) fun _ _ e=>e)) fun _ _ e=>e
    case hu=>exact Z7 _
    case fin =>
     refine Z4 ?_
     obtain⟨rfl,h',tk,rfl,f,k⟩:=hr3
     show wpAny _ _ (ret YE) _ _ _
     exact Z4 ⟨rfl,h',tk,rfl,f,k⟩
   ·cases cD with
    |error e=>exact bR
    |ok cE =>
     cases cE with
     |ret r =>
      obtain⟨rfl,h',tk,rfl,T,kp⟩:=bR
      repeat (any_goals (first|assumption|wp_step))
      exact h _ _ T kp
     |_=>exact bR.elim
  |_=>exact hr.elim
theorem call_set_texts {l:Addr}{items:Au_}{ss:Ls_}{Q:Ps_}(hh:A.handled=none)(hl:s.heap.IsList l items)(hS:StrsAre items.toList ss)(few:ss.length+1<scanBound)
  (h:∀ (h':Heap) (tk:Nat),TSetD prog w h' s.heap.objs.size (metS ss)->(∀ b o,s.heap.get? b=some o->h'.get? b=some o)->Q (.ref s.heap.objs.size) { s with heap:=h',toks:=tk }) :
  wpAny (model prog w) A (call (.type "set") [.ref l]) Q E s:=by
 have hl1:(s.heap.push (Mx w)).IsList l items:=hl.push _
 refine W_ fun n9=>?_;obtain⟨⟨ocls,odict,odata,oslots⟩,hol,cl,nl,dl⟩:=hl;apply n9;clear n9
 simp only at cl dl
 subst cl;subst dl
 refine DR hol Zj8 Zcz (by decide) (fun A' E' Q' hA _ hQ=>WP hl1 (Wp ?_)) h
 have ls:l<s.heap.objs.size:=Zy hol
 have zs:(s.heap.push (Mx w)).objs.size=s.heap.objs.size+1:=N3 ..
 refine Z6Y (by simp[hA,hh]) (by rw[zs];exact ZE (Yg ls)) (by rw[zs];exact ZE (Ua _)) (G5 ls) hS few (ss.length-0) 0 _ rfl (Jh _)
  ⟨_,Zl _ rfl,rfl,rfl⟩ (hl1.push _) ?t0 fun h' tk kp T=>hQ h' tk T fun b o e=>?fin
 case t0 =>
  refine⟨#[],0,_,⟨⟨_,Z3 _ (Zl _ rfl),⟨rfl,rfl,rfl⟩,rfl⟩,fun e m=>absurd m (by simp),by decide,rfl,rfl,.inl rfl⟩,?_⟩
  exact Uv _
 case fin =>
  have hb:b<s.heap.objs.size:=Zy e
  exact kp b o (ZE hb) (by rw[zs];exact ZE (Yg hb)) (Z3 _ (Z3 _ e))
end
end Sg
namespace Sg
open PySem PyProof.Rows
theorem CP:entryFor table "set.__iter__"=some Builtin.«frozenset.__iter__» :=
 ZjX (id':="frozenset.__iter__") (by kernel_rfl) (by first|rfl|decide +kernel) (by decide +kernel) (by kernel_rfl)
theorem Ue:Slot "set_iterator" "__next__" "set_iterator.__next__":=.of (owner:="set_iterator") (n:="__next__") (by rw[Z50,Fc];kernel_rfl) (by decide +kernel) (by decide +kernel) (by decide +kernel) (by first|exact .inl (by decide +kernel)|exact .inr (by decide +kernel)) (by rw[Z7l];kernel_rfl)
theorem QR:entryFor table "set_iterator.__next__"=some Builtin.«set_iterator.__next__»:=entryFor_of_tree (by kernel_rfl)
theorem Wh (a:Value):argsOk "set_iterator.__next__" ⟨[a],[]⟩:=by unfold argsOk;kernel_rfl
theorem ZdD:typeLookup (.type "set") "__len__"=pure (some (.builtin "set.__len__")):=by rw[Z50,Fc];kernel_rfl
theorem C4 {α:Type}:∀ (l:List α) (i:Nat) (h:i<l.length),(l[i]::l.eraseIdx i).Perm l
 |[],i,h=>absurd h (by simp)
 |x::l,0,h=>Uv _
 |x::l,i+1,h=>by
  have h':i<l.length:=by simpa using h
  show (l[i]::x::l.eraseIdx i).Perm (x::l)
  exact (Za5 x l[i] _).trans ((C4 l i h').cons x)
section
variable {prog:Program}{w:World}{A:Around}{E:Ps_}{s:Shared}
theorem Z1U(hn:n≠0)(h:∀ i,i<n->Q i { s with drawn:=s.drawn.bump src }):wpAny M A (choose src n) Q E s:=by
 intro Γ p cH
 show Sem.wp M Γ (.choose src n .pure) _ _ _ _
 rw[Sem.wp_choose]
 refine⟨hn,?_⟩
 exact h _ (DV _ (NP hn))
theorem W7:∀ (n:Nat) (xs:List α) (s:Shared) (Q:List α->Shared->Prop),n=xs.length->(∀ ys d,ys.Perm xs->Q ys { s with drawn:=d })->wpAny M A (drawOrder n xs) Q E s
 |0,xs,s,Q,e,h=>by
  have:xs=[]:=Gh e.symm
  subst this
  exact Z4 (h [] s.drawn (Uv _))
 |n+1,[],s,Q,e,h=>by cases e
 |n+1,x::xs,s,Q,e,h=>by
  show wpAny M A (choose .order (x::xs).length>>=_) Q E s
  refine Z0 (Z1U (by simp) fun i hi=>?_)
  rw[Zd hi]
  dsimp only
  refine Z0 (W7 n ((x::xs).eraseIdx i) _ _ ?_ fun ys d hp=>Z4 ?_)
  ·rw[Z1N hi]
   simp only[Zf] at e ⊢
   lia
  ·have hq:((x::xs)[i]::ys).Perm (x::xs):=(Za6 _ hp).trans (C4 _ i hi)
   exact h _ d hq
theorem Z8i(next:Nat->Nat):∀ (f k:Nat) (left:List α) (out:Array α),f=left.length->(pickOrder.go next f k left out).toList.Perm (out.toList++left)
 |0,k,left,out,e=>by
  have:left=[]:=Gh e.symm
  subst this
  simp[pickOrder.go]
 |f+1,k,left,out,e=>by
  unfold pickOrder.go
  have hlt:next k%left.length<left.length:=DV _ (by lia)
  rw[Zd hlt]
  dsimp only
  refine (Z8i next f (k+1) _ _ (by rw[Z1N hlt];lia)).trans ?_
  rw[YQ,Zi]
  refine JD _ ?_
  exact C4 _ _ hlt
theorem C3(next:Nat->Nat)(xs:Array α):(pickOrder next xs).toList.Perm xs.toList:=by
 have:=Z8i next xs.size 0 xs.toList #[] (by simp)
 simpa [pickOrder] using this
end
end Sg
namespace Sg
open PySem PyProof.Rows
def U4 (h:Heap)(it:Addr)(first:Value)(i n ep:Nat)(a:Addr):Prop :=
 ∃ o,h.get? it=some o/\o.cls=.type "set_iterator"/\o.data=.fields #[first,.int i 0,.ref a,.int n 0,.int ep 0]
section
variable {prog:Program}{w:World}{A:Around}{E:Ps_}{s:Shared}{it a:Addr}{first:Value}{i n ep:Nat}{es:Ai_}{t:SetTable}
theorem U4.ty (h:U4 s.heap it first i n ep a):s.TypeIs (.ref it) "set_iterator":=let ⟨o,h1,h2,_⟩:=h;⟨o,h1,h2⟩
theorem U4.keep(x:U4 h it first i n ep a)(k:∀ o,h.get? it=some o->h'.get? it=some o):U4 h' it first i n ep a:=let ⟨o,h1,r⟩:=x;⟨o,k o h1,r⟩
theorem U4.field (x:U4 h it first i n ep a) (f:Array Value->Array Value):∃ o,(h.update it (ZhT f)).get? it=some o/\o.cls=.type "set_iterator"/\o.data=.fields (f #[first,.int i 0,.ref a,.int n 0,.int ep 0]):=by
 refine W_ fun n9=>?_;obtain⟨o,ho,hc,hd⟩:=x;apply n9;clear n9
 exact⟨_,Y9 _ ho (Mk (U7 hd _)),(W6 ..).trans hc,by rw[U7 hd]⟩
theorem Z0Q {Q:Option Value->Shared->Prop}{s':Shared}(hh:A.handled=none)(hs:Wl it s.heap s'.heap)(hrest:s'={ s with heap:=s'.heap })
  (hQ:∀ h',Wl it s.heap h'->Q none { s with heap:=h' }) {P:Fin->Shared->Prop} :
  wpAny (model prog w) A.in1 (do raiseNew (α:=Fin) (<- newExc (.type "StopIteration") [])) P (fun e aC=>wpAny (model prog w) A (do if <- isInstance e (.type "StopIteration") then pure none else throw e) Q E aC) s':=by
 refine Z0 ?_
 simp only[newExc,newTuple]
 refine Z0 (Jq ?_ (by size_fits))
 refine Z0 (m:=firstArgMember _ _) (Dm (a:=YE) (by first|rfl|(simp only[firstArgMember];rfl)) ?_)
 refine Jq ?_ (by size_fits)
 simp only[raiseNew]
 refine Z0 (Zk2 ?_)
 rw[show A.in1.handled=none from hh]
 refine Z0 (Z4 (wpAny_throw ?_))
 refine Z0 (Zi6 (T:="StopIteration") (b:=true) ⟨_,Zl _ rfl,rfl⟩ isSubtype_stop ?_)
 rw[hrest]
 exact Z4 (hQ _ ((hs.push _).push _))
theorem Fy {slot:Nat}{r:Option (Value×Nat)}{Q:Option Value->Shared->Prop}(hh:A.handled=none)(hit:U4 s.heap it (.int slot 0) i n ep a)(T:BSet prog w s.heap a es ep t)(hn:es.size=n)
  (hN:∀ (A':Around) (E':Ps_) (Q':Option (Value×Nat)->Shared->Prop),Q' r s->wpAny (model prog w) A' (setNext a slot i ep) Q' E' s)
  (hS:∀ x nxt,r=some (x,nxt)->∀ h',U4 h' it (.int nxt 0) (i+1) n ep a->J2 it s.heap h'->Q (some x) { s with heap:=h' })
  (hE:r=none->∀ h',Wl it s.heap h'->Q none { s with heap:=h' }):wpAny (model prog w) A (pyNext (.ref it)) Q E s:=by
 refine W_ fun n9=>?_;obtain⟨o,ho,hc,hd⟩:=id hit
 obtain⟨oS,hoS,hex,hdS⟩:=T.obj;apply n9;clear n9
 unfold pyNext
 refine Z0 (Do (YH (name:=Zq "__next__") hit.ty Ue (Yh Ue hit.ty QR ?_ (Wh _))))
 refine Z0 (Z4 ?_)
 refine Z0 (Z7i ho hd ?_)
 show wpAny _ _ (setEntries a>>=_) _ _ s
 refine Z0 (CG hoS hdS T.fits ?_)
 rw[if_neg (by rw[hn];simp)]
 show wpAny _ _ (setNext a ((slot:Int).toNat) ((i:Int).toNat) ((ep:Int).toNat)>>=_) _ _ s
 refine Z0 (hN _ _ _ ?_)
 cases r with
 |none =>
  show wpAny _ _ (setField (.ref it) 2 .none>>=_) _ _ s
  refine Z0 (Us ho hd (by simp) ?_)
  exact Z0Q (s:=s) hh (JF ..).extBut rfl (hE rfl)
 |some p =>
  obtain⟨x,nxt⟩:=p
  show wpAny _ _ (setField (.ref it) 0 (rawInt nxt)>>=_) _ _ s
  refine Z0 (Us ho hd (by simp) ?_)
  refine W_ fun n9=>?_;obtain⟨o1,ho1,hc1,hd1⟩:=hit.field (fun vs=>vs.setIfInBounds 0 (rawInt nxt));apply n9;clear n9
  refine Z0 (Us ho1 hd1 (by simp) ?_)
  refine Z4 ⟨_,rfl,Z4 (hS x nxt rfl _ ?_ ((JF ..).trans (JF ..)))⟩
  exact⟨_,Y9 _ ho1 (Mk (U7 hd1 _)),(W6 ..).trans hc1,by rw[U7 hd1];simp[rawInt]⟩
theorem Z0h {P:Addr}{pl:List Nat}{Q:Option Value->Shared->Prop}(hh:A.handled=none)(hit:U4 s.heap it (.ref P) i n ep a)(T:BSet prog w s.heap a es ep t)(hn:es.size=n)
  {oP:Obj} {nP:Nat} (hP:s.heap.get? P=some oP) (dP:oP.data=.seq (pl.map fun (k:Nat)=>WX (k:Int) 0).toArray nP)
  (hS:∀ k e,pl[i]?=some k->es[k]?=some e->∀ h',U4 h' it (.ref P) (i+1) n ep a->J2 it s.heap h'->Q (some e.2) { s with heap:=h' })
  (hin:∀ k∈pl,k<es.size)
  (hE:pl[i]?=none->∀ h',Wl it s.heap h'->Q none { s with heap:=h' }):wpAny (model prog w) A (pyNext (.ref it)) Q E s:=by
 refine W_ fun n9=>?_;obtain⟨o,ho,hc,hd⟩:=id hit
 obtain⟨oS,hoS,hex,hdS⟩:=T.obj;apply n9;clear n9
 unfold pyNext
 refine Z0 (Do (YH (name:=Zq "__next__") hit.ty Ue (Yh Ue hit.ty QR ?_ (Wh _))))
 refine Z0 (Z4 ?_)
 refine Z0 (Z7i ho hd ?_)
 show wpAny _ _ (setEntries a>>=_) _ _ s
 refine Z0 (CG hoS hdS T.fits ?_)
 rw[if_neg (by rw[hn];simp)]
 show wpAny _ _ (seqItems? (.ref P)>>=_) _ _ s
 refine Z0 (U6 hP dP ?_)
 dsimp only
 have eg:(pl.map fun (k:Nat)=>WX (k:Int) 0).toArray[(i:Int).toNat]?=(pl[i]?).map fun (k:Nat)=>WX (k:Int) 0:=by simp
 rw[eg]
 cases hp:pl[i]? with
 |none =>
  show wpAny _ _ (setField (.ref it) 0 (rawInt 0)>>=_) _ _ s
  refine Z0 (Us ho hd (by simp) ?_)
  refine W_ fun n9=>?_;obtain⟨o1,ho1,hc1,hd1⟩:=hit.field (fun vs=>vs.setIfInBounds 0 (rawInt 0));apply n9;clear n9
  refine Z0 (Us ho1 hd1 (by simp) ?_)
  exact Z0Q (s:=s) hh ((JF ..).trans (JF ..)).extBut rfl (hE hp)
 |some k =>
  have hk:k<es.size:=hin k (ZJ hp)
  show wpAny _ _ (setNextDrawn a ((k:Int).toNat) ((ep:Int).toNat)>>=_) _ _ s
  unfold setNextDrawn
  refine Z0 (Z0 (Yj hoS hdS T.fits ?_))
  dsimp only
  rw[if_neg (by simp)]
  have ek:es[(k:Int).toNat]?=some es[k]:=by simp[hk]
  rw[ek]
  refine Z4 ?_
  refine Z0 (Us ho hd (by simp) ?_)
  refine Z4 ⟨_,rfl,Z4 (hS k es[k] hp (by simp[hk]) _ ?_ (JF ..))⟩
  refine W_ fun n9=>?_;obtain⟨o1,ho1,hc1,hd1⟩:=hit.field (fun vs=>vs.setIfInBounds 1 (rawInt ((i:Int)+1)));apply n9;clear n9
  exact⟨o1,ho1,hc1,by rw[hd1];simp[rawInt]⟩
end
end Sg
namespace Sg
open PySem PyProof.Rows
theorem W9:Slot "set_iterator" "__iter__" "set_iterator.__iter__":=.of (owner:="set_iterator") (n:="__iter__") (by rw[Z50,Fc];kernel_rfl) (by decide +kernel) (by decide +kernel) (by decide +kernel) (by first|exact .inl (by decide +kernel)|exact .inr (by decide +kernel)) (by rw[Z7l];kernel_rfl)
theorem Fn:entryFor table "set_iterator.__iter__"=some Builtin.«dict_keyiterator.__iter__» :=
 ZjX (id':="dict_keyiterator.__iter__") (by kernel_rfl) (by first|rfl|decide +kernel) (by decide +kernel) (by kernel_rfl)
theorem CC (a:Value):argsOk "set_iterator.__iter__" ⟨[a],[]⟩:=by unfold argsOk;kernel_rfl
section
variable {prog:Program}{w:World}{A:Around}{E:Ps_}{s:Shared}{it a:Addr}{first:Value}{i n ep:Nat}{es:Ai_}{t:SetTable}
theorem Ce {Q:Ps_}(hit:U4 s.heap it first i n ep a)(h:Q (.ref it) s):wpAny (model prog w) A (pyIter (.ref it)) Q E s:=by
 refine Z1E hit.ty W9 (Yh W9 hit.ty Fn ?_ (CC _))
 show wpAny _ _ (ret (.ref it)) _ _ s
 exact Z4 ⟨_,rfl,"set_iterator",_,hit.ty,Ue.lookup,h⟩
theorem BH (hb:w.params.followText "set-order"=true) (T:BSet prog w s.heap a es ep t)
  (h:Q (((pickOrder (w.params.setOrder a ep) es)[given]?).map fun e=>(e.2,slot)) s):wpAny (model prog w) A (setNext a slot given ep) Q E s:=by
 refine W_ fun n9=>?_;obtain⟨o,ho,hex,hd⟩:=T.obj;apply n9;clear n9
 unfold setNext
 refine Z0 (Yj ho hd T.fits ?_)
 dsimp only
 refine Z0 ?_
 unfold setsByText
 refine Z0 (Nt (Z4 ?_))
 have hb':(⟨(model prog w).prog,(model prog w).w.params⟩:Setting).params.followText "set-order"=true:=hb
 rw[hb',if_pos rfl,if_neg (by simp)]
 refine Z0 ?_
 unfold setWalk
 refine Z0 (Yj ho hd T.fits ?_)
 dsimp only
 refine Z0 ?_
 unfold setsByText
 refine Z0 (Nt (Z4 ?_))
 rw[hb',if_pos rfl]
 refine Z0 (Nt (Z4 ?_))
 exact Z4 h
theorem FV (hb:w.params.followText "set-order"=false) (T:BSet prog w s.heap a es ep t) (h1:es.size<=1)
  (h:Q (match es[U9 t.place slot]?,t.place[U9 t.place slot]? with|some (_,x),some j=>some (x,j+1)|_,_=>none) s):wpAny (model prog w) A (setNext a slot given ep) Q E s:=by
 refine W_ fun n9=>?_;obtain⟨o,ho,hex,hd⟩:=T.obj;apply n9;clear n9
 unfold setNext
 refine Z0 (Yj ho hd T.fits ?_)
 dsimp only
 refine Z0 ?_
 unfold setsByText
 refine Z0 (Nt (Z4 ?_))
 have hb':(⟨(model prog w).prog,(model prog w).w.params⟩:Setting).params.followText "set-order"=false:=hb
 have hl:t.led=true:=by rw[T.led,hb];rfl
 rw[hb',if_neg (by simp)]
 have hdr:(!t.plain&&decide (es.size > 1))=false:=by
  have:¬ es.size > 1:=by lia
  simp[this]
 show wpAny _ _ (if (!t.plain&&decide (es.size > 1))=true then _ else _) _ _ _
 rw[hdr,if_neg (by simp)]
 show wpAny _ _ ((if (!t.led&&!es.isEmpty)=true then unsupported "set:maker-not-led" else pure ())>>=_) _ _ _
 rw[hl,if_neg (by simp)]
 refine Z0 (Z4 ?_)
 exact Z4 h
theorem Fd (j:Nat):U9 #[j] 0=0:=by
 simp[U9,Z1z]
theorem Z3b (j:Nat):U9 #[j] (j+1)=1:=by
 simp[U9,Z1z]
theorem Z7z (hh:A.handled=none) (hb:w.params.followText "set-order"=true) (I a:Addr) (hne:a≠I) (es:Ai_) (ep:Nat) (t:SetTable) :
  Walks prog w A I [I,a] [I] es.size (fun i v=>((pickOrder (w.params.setOrder a ep) es).toList.map (·.2))[i]?=some v) (fun i h=>U4 h I (.int (0:Nat) 0) i es.size ep a/\BSet prog w h a es ep t) where
 sub:=fun b hb=>by simp at hb;simp[hb]
 frame:=fun _ _ _ st hk=>⟨st.1.keep fun o e=>hk I (by simp) o e,st.2.keep fun o e=>hk a (by simp) o e⟩
 item:=fun i s Q E hi st hQ=>by
  have hlen:(pickOrder (w.params.setOrder a ep) es).size=es.size:=by
   have:=(C3 (w.params.setOrder a ep) es).length_eq
   simpa using this
  refine Fy hh st.1 st.2 rfl (fun A' E' Q' q=>BH hb st.2 q) (fun x nxt e h' hit sb=>?_) fun e=>?_
  ·rw[Zz (by lia)] at e
   simp only[Z8,Jj,Mj] at e
   obtain⟨e1,e2⟩:=e
   subst e2
   refine hQ x h' s.toks ?_ ⟨hit,st.2.keep fun o e=>sb.extBut a o hne e⟩ fun b o hb e=>sb.extBut b o (fun z=>hb (by simp[z])) e
   rw[Jw,ZQ,Zz (by lia)]
   simp[e1]
  ·rw[Zz (by lia)] at e
   cases e
 done:=fun s Q E st hQ=>by
  have hlen:(pickOrder (w.params.setOrder a ep) es).size=es.size:=by
   have:=(C3 (w.params.setOrder a ep) es).length_eq
   simpa using this
  refine Fy hh st.1 st.2 rfl (fun A' E' Q' q=>BH hb st.2 q) (fun x nxt e h' hit sb=>?_) fun e h' he=>?_
  ·rw[Ur (by lia)] at e
   cases e
  ·exact hQ h' s.toks fun b o hb e=>he b o (fun z=>hb (by simp[z])) e
 self:=fun _ _ _ _ st hQ=>Ce st.1 hQ
theorem Zau (hh:A.handled=none) (hb:w.params.followText "set-order"=false) (I a:Addr) (hne:a≠I) (es:Ai_) (h1:es.size<=1) (ep:Nat) (t:SetTable) :
  Walks prog w A I [I,a] [I] es.size (fun i v=>(es.toList.map (·.2))[i]?=some v)
   (fun i h=>(∃ slot,U4 h I (.int (slot:Nat) 0) i es.size ep a/\((i=0/\slot=0)\/(i=1/\slot=t.place.getD 0 0+1)))/\BSet prog w h a es ep t) where
 sub:=fun b hb=>by simp at hb;simp[hb]
 frame:=fun _ _ _ st hk=>⟨let ⟨sl,x,y⟩:=st.1;⟨sl,x.keep fun o e=>hk I (by simp) o e,y⟩,st.2.keep fun o e=>hk a (by simp) o e⟩
 item:=fun i s Q E hi st hQ=>by
  refine W_ fun n9=>?_;obtain⟨⟨slot,it,hsl⟩,T⟩:=st;apply n9;clear n9
  have hi0:i=0:=by lia
  subst hi0
  have hs0:slot=0:=by lia
  subst hs0
  have hz:es.size=1:=by exact G1 ‹_› ‹_›
  have hpl:t.place.size=1:=by
   have:=T.fits
   simp only[QC,ZP,beq_iff_eq] at this
   lia
  obtain⟨j,hj⟩:∃ j,t.place=#[j]:=⟨t.place[0],by
   apply ZjD
   ·simp[hpl]
   ·intro i h1 h2
    have:i=0:=by simp at h2;exact h2
    subst this
    rfl⟩
  refine Fy hh it T rfl (fun A' E' Q' q=>FV hb T h1 q) (fun x nxt e h' hit sb=>?_) fun e=>?_
  ·rw[hj,Fd,Zz (by omega)] at e
   simp only[Zr,Zf,NI,JA,Nat.lt_add_one,Zz,List.getElem_toArray,List.getElem_cons_zero,Jj,Mj] at e
   refine hQ x h' s.toks ?_ ⟨⟨nxt,hit,.inr ⟨rfl,?_⟩⟩,T.keep fun o e=>sb.extBut a o hne e⟩ fun b o hb e=>sb.extBut b o (fun z=>hb (by simp[z])) e
   ·rw[Jw,ZQ,Zz (by lia)]
    simp[e.1]
   ·rw[hj]
    simp[<- e.2]
  ·rw[hj,Fd,Zz (by lia)] at e
   simp at e
 done:=fun s Q E st hQ=>by
  refine W_ fun n9=>?_;obtain⟨⟨slot,it,hsl⟩,T⟩:=st;apply n9;clear n9
  have hpl:t.place.size=es.size:=by
   have:=T.fits
   simp only[QC,ZP,beq_iff_eq] at this
   lia
  refine Fy hh it T rfl (fun A' E' Q' q=>FV hb T h1 q) (fun x nxt e h' hit sb=>?_) fun e h' he=>?_
  ·exfalso
   rcases hsl with ⟨z1,z2⟩|⟨z1,z2⟩
   ·have h0:es[U9 t.place slot]?=none:=Ur (by lia)
    rw[h0] at e
    cases e
   ·obtain⟨j,hj⟩:∃ j,t.place=#[j]:=⟨t.place[0],by
     apply ZjD
     ·simp[hpl,z1]
     ·intro i h1 h2
      have:i=0:=by simp at h2;exact h2
      subst this
      rfl⟩
    rw[hj] at z2 e
    simp only[Y7,Z7d,gz_,W5] at z2
    subst z2
    have h0:es[U9 #[j] (j+1)]?=none:=by
     rw[Z3b]
     exact Ur (by omega)
    rw[h0] at e
    cases e
  ·exact hQ h' s.toks fun b o hb e=>he b o (fun z=>hb (by simp[z])) e
 self:=fun _ _ _ _ st hQ=>let ⟨⟨sl,x,_⟩,_⟩:=st;Ce x hQ
theorem Z6g (hh:A.handled=none)(I a P:Addr)(hne:a≠I)(hnP:P≠I)(es:Ai_)(ep:Nat)(t:SetTable)(pl:List Nat)(hpl:pl.Perm (Ja es.size))(oP:Obj)(nP:Nat)
  (dP:oP.data=.seq (pl.map fun (k:Nat)=>WX (k:Int) 0).toArray nP) :
  Walks prog w A I [I,a,P] [I] es.size (fun i v=>(pl.filterMap fun k=>(es[k]?).map (·.2))[i]?=some v) (fun i h=>U4 h I (.ref P) i es.size ep a/\BSet prog w h a es ep t/\h.get? P=some oP) where
 sub:=fun b hb=>by simp at hb;simp[hb]
 frame:=fun _ _ _ st hk=>⟨st.1.keep fun o e=>hk I (by simp) o e,st.2.1.keep fun o e=>hk a (by simp) o e,hk P (by simp) _ st.2.2⟩
 item:=fun i s Q E hi st hQ=>by
  have hin:∀ k∈pl,k<es.size:=fun k m=>Jv.mp (hpl.mem_iff.mp m)
  have hlen:pl.length=es.size:=by rw[hpl.length_eq,JS]
  refine Z0h hh st.1 st.2.1 rfl st.2.2 dP (fun k e hk he h' hit sb=>?_) hin fun e=>?_
  ·refine hQ e.2 h' s.toks ?_ ⟨hit,st.2.1.keep fun o e=>sb.extBut a o hne e,sb.extBut P _ hnP st.2.2⟩ fun b o hb e=>sb.extBut b o (fun z=>hb (by simp[z])) e
   have hfm:(pl.filterMap fun k=>(es[k]?).map (·.2))=pl.map fun k=>((es[k]?).map (·.2)).getD YE:=by
    have go:∀ l:List Nat,(∀ k∈l,k<es.size)->(l.filterMap fun k=>(es[k]?).map (·.2))=l.map fun k=>((es[k]?).map (·.2)).getD YE:=by
     intro l
     induction l with
     |nil=>intro _;rfl
     |cons k l ih =>
      intro hl
      rw[G8,Zw,Zz (hl k Z1)]
      simp only[Z8,W5]
      rw[ih fun k m=>hl k (Z2 _ m)]
    exact go pl hin
   rw[hfm,Jw,hk]
   simp[he]
  ·rw[Zd (by lia)] at e
   cases e
 done:=fun s Q E st hQ=>by
  have hin:∀ k∈pl,k<es.size:=fun k m=>Jv.mp (hpl.mem_iff.mp m)
  have hlen:pl.length=es.size:=by rw[hpl.length_eq,JS]
  refine Z0h hh st.1 st.2.1 rfl st.2.2 dP (fun k e hk he h' hit sb=>?_) hin fun e h' he=>?_
  ·rw[GD (by lia)] at hk
   cases hk
  ·exact hQ h' s.toks fun b o hb e=>he b o (fun z=>hb (by simp[z])) e
 self:=fun _ _ _ _ st hQ=>Ce st.1 hQ
end
end Sg
namespace Sg
open PySem PyProof.Rows
section
variable {prog:Program}{w:World}{A:Around}{E:Ps_}{s:Shared}{it a:Addr}{first:Value}{i n ep:Nat}{es:Ai_}{t:SetTable}
theorem BSet.ty (T:BSet prog w s.heap a es ep t):s.TypeIs (.ref a) "set":=let ⟨o,h1,h2,_⟩:=T.obj;⟨o,h1,h2.1⟩
theorem Z4r (es:Ai_){pl:List Nat}(h:pl.Perm (Ja es.size)):(pl.filterMap fun k=>(es[k]?).map (·.2)).Perm (es.toList.map (·.2)):=by
 refine (h.filterMap _).trans (Z7s ?_)
 apply UY
 intro i
 have go:∀ n,n<=es.size->((Ja n).filterMap fun k=>(es[k]?).map (·.2))=(es.toList.take n).map (·.2):=by
  intro n
  induction n with
  |zero=>intro _;rfl
  |succ n ih =>
   intro hn
   rw[Zff,List.filterMap_append,ih (by exact YA ‹_›),Z3q,YZ]
   congr 1
   rw[ZQ,Zz ‹_›]
   simp[Zz (show n<es.size by lia)]
 rw[go es.size (Z7 _),Yp (by simp)]
theorem Z4c {Q:Ps_}(T:BSet prog w s.heap a es ep t)
  (h:∀ (s':Shared) (I:Addr) (fp:List Addr) (ord:Lu_) (St:Nat->Heap->Prop),Ext s.heap s'.heap->s'.gens=s.gens->s'.os=s.os->s'.toks=s.toks->s.heap.objs.size<=I ->
   (∀ b∈fp,b=a\/s.heap.objs.size<=b)->(∀ A':Around,A'.handled=none->Walks prog w A' I fp [I] es.size (fun i v=>ord[i]?=some v) St)->St 0 s'.heap->ord.Perm (es.toList.map (·.2))->Q (.ref I) s') :
  wpAny (model prog w) A (pyIter (.ref a)) Q E s:=by
 refine W_ fun n9=>?_;obtain⟨o,ho,hex,hd⟩:=T.obj;apply n9;clear n9
 have ha:a<s.heap.objs.size:=Zy ho
 refine Z1E T.ty ZhZ (Yh ZhZ T.ty CP ?_ (F.args_set_iter_1 _))
 unfold Builtin.«frozenset.__iter__»
 refine Z0 (m:=Builtin.Frozenset.slot0 "__iter__" _) (Dm (a:=a) rfl ?_)
 refine Z0 ?_
 unfold Builtin.Frozenset.sizeOf
 refine Z0 (CG ho hd T.fits (Z4 ?_))
 refine Z0 ?_
 unfold setDrawn
 refine Z0 (Yj ho hd T.fits ?_)
 dsimp only
 refine Z0 ?_
 unfold setsByText
 refine Z0 (Nt (Z4 (Z4 ?_)))
 show wpAny _ _ (if (!(w.params.followText "set-order")&&(!t.plain&&decide (es.size > 1)))=true then _ else _) _ _ _
 by_cases hq:(!(w.params.followText "set-order")&&(!t.plain&&decide (es.size > 1)))=true
 ·rw[if_pos hq]
  refine Z0 (W7 es.size (Ja es.size) _ _ (by simp) fun pl d hpl=>?_)
  have hz:pl.length<=sizeLine:=by
   rw[hpl.length_eq,JS]
   exact N7 T.few
  refine Z0 (Z7h ?_ (by simpa using hz))
  refine Z0 (ZhD (Z3 _ ho) hd T.fits ?_)
  refine Z0 (Jq (Z4 ⟨_,rfl,"set_iterator",_,⟨_,Zl _ rfl,rfl⟩,Ue.lookup,?_⟩))
  have zs:(s.heap.push { cls:=.type "tuple",data:=.seq (GJ (fun (i:Nat)=>rawInt i) pl).toArray }).objs.size=s.heap.objs.size+1:=N3 ..
  refine h _ _ [_,a,s.heap.objs.size] (pl.filterMap fun k=>(es[k]?).map (·.2)) _ (fun b o e=>Z3 _ (Z3 _ e)) rfl rfl rfl ?_ ?_
   (fun A' hA=>Z6g (prog:=prog) (w:=w) hA _ a s.heap.objs.size ?_ ?_ es ep t pl hpl { cls:=.type "tuple",data:=.seq (GJ (fun (i:Nat)=>rawInt i) pl).toArray } 0 rfl) ?_ (Z4r es hpl)
  ·rw[zs];exact Ym _
  ·intro b hb
   simp only[Zc,WI,or_false] at hb
   rcases hb with rfl|rfl|rfl
   ·rw[zs];exact .inr (Ym _)
   ·exact .inl rfl
   ·exact .inr (Z7 _)
  ·rw[zs];exact ZE (Yg ha)
  ·rw[zs];exact ZE (Ua _)
  ·refine⟨⟨_,Zl _ rfl,rfl,rfl⟩,T.keep fun o e=>Z3 _ (Z3 _ e),?_⟩
   exact Z3 _ (Zl _ rfl)
 ·rw[if_neg hq]
  refine Z0 (Z4 ?_)
  refine Z0 (ZhD ho hd T.fits ?_)
  refine Z0 (Jq (Z4 ⟨_,rfl,"set_iterator",_,⟨_,Zl _ rfl,rfl⟩,Ue.lookup,?_⟩))
  have i0:U4 (s.heap.push { cls:=.type "set_iterator",data:=.fields [rawInt 0,rawInt 0,Y6 a,rawInt es.size,rawInt ep].toArray }) s.heap.objs.size (.int (0:Nat) 0) 0 es.size ep a :=
   ⟨_,Zl _ rfl,rfl,rfl⟩
  have T0:BSet prog w (s.heap.push { cls:=.type "set_iterator",data:=.fields [rawInt 0,rawInt 0,Y6 a,rawInt es.size,rawInt ep].toArray }) a es ep t:=T.keep fun o e=>Z3 _ e
  have fp2:∀ b∈[s.heap.objs.size,a],b=a\/s.heap.objs.size<=b:=by
   intro b hb
   simp only[Zc,WI,or_false] at hb
   rcases hb with rfl|rfl
   ·exact .inr (Z7 _)
   ·exact .inl rfl
  cases hb:w.params.followText "set-order" with
  |true =>
   exact h _ _ [s.heap.objs.size,a] _ _ (fun b o e=>Z3 _ e) rfl rfl rfl (Z7 _) fp2 (fun A' hA=>Z7z (prog:=prog) hA hb _ a (ZE ha) es ep t) ⟨i0,T0⟩ ((C3 _ es).map _)
  |false =>
   have h1:es.size<=1:=by
    rw[hb] at hq
    simp only[Z3t,Bool.true_and,ZP,W2,decide_eq_true_eq,not_and] at hq
    rcases T.plain with z|z
    ·lia
    ·have:=hq z;exact Y2 ‹_›
   exact h _ _ [s.heap.objs.size,a] _ _ (fun b o e=>Z3 _ e) rfl rfl rfl (Z7 _) fp2 (fun A' hA=>Zau (prog:=prog) hA hb _ a (ZE ha) es h1 ep t) ⟨⟨0,i0,.inl ⟨rfl,rfl⟩⟩,T0⟩ (Uv _)
theorem Z6U {P:Nat->Value->Prop}{ord:Lu_}{acc:Au_}(h:ItemsOf (fun i v=>ord[i]?=some v) acc ord.length):acc.toList=ord:=by
 apply UY
 intro i
 by_cases hi:i<ord.length
 ·have hs:acc.size=ord.length:=h.1
  have e:=h.2 i acc[i] (by simp[hs,hi])
  rw[e,ZQ]
  simp[hs,hi]
 ·have hs:acc.size=ord.length:=h.1
  rw[GD (by simp;lia),GD (by exact Y2 ‹_›)]
theorem collect_set(hh:A.handled=none)(T:BSet prog w s.heap a es ep t)
  (hQ:∀ s' vs,Ext s.heap s'.heap->s'.gens=s.gens->s'.os=s.os->vs.Perm (es.toList.map (·.2))->Q vs s'):wpAny (model prog w) A (collect (.ref a)) Q E s:=by
 refine W_ fun n9=>?_;obtain⟨o,ho,hex,hd⟩:=T.obj;apply n9;clear n9
 have ha:a<s.heap.objs.size:=Zy ho
 have hn:es.size<=sizeLine:=N7 T.few
 unfold collect
 refine Z0 (Wp (Ju B7 ?_))
 rw[ZZ B6 _]
 show wpAny _ A.in1 (newList []>>=fun l=>again (.builtin "list.__iadd__" ⟨[l,.ref a],[]⟩)) _ _ s
 refine Z0 (Jq ?_)
 refine Z4 ⟨Yk GY _,Ju Z0H ?_⟩
 rw[ZZ GY _]
 show wpAny _ A.in1 (Yv (.ref s.heap.objs.size) (.ref a) (.ref s.heap.objs.size)) _ _ _
 unfold Yv
 have T1:BSet prog w (s.heap.push { cls:=.type "list",data:=.seq ([]:Lu_).toArray }) a es ep t:=T.keep fun o e=>Z3 _ e
 refine Z0 (ML (BSet.ty (s:={ s with heap:=s.heap.push { cls:=.type "list",data:=.seq ([]:Lu_).toArray } }) T1) ?_)
 have h1:MK (.ref s.heap.objs.size) (.ref a)=false:=by simp[MK];exact G5 ha
 have h2:(Yo "set" == Yo "list")=false:=by decide
 have h3:(Yo "set" == Yo "tuple")=false:=by decide
 simp only[h1,h2,h3,Zhx,Zv,if_false]
 refine Z0 (Z4c T1 fun s2 I fp ord St x2 g2 o2 k2 hI hfp W st0 hp=>?_)
 have zs:(s.heap.push { cls:=.type "list",data:=.seq ([]:Lu_).toArray }).objs.size=s.heap.objs.size+1:=N3 ..
 have T2:BSet prog w s2.heap a es ep t:=T1.keep fun o e=>x2 a o e
 refine Z0 (Jx ?_)
 unfold Builtin.List.listLengthHint
 refine Z0 (Zjb T2.ty ZdD ?_)
 wp_delta
 refine Z0 (Zi6 T2.ty (b:=true) (by rw[Z7l];kernel_rfl) ?_)
 show wpAny _ A.in1 (typeOf (Y6 a)>>=_) _ _ _
 refine Z0 (ML T2.ty ?_)
 refine Z4 ?_
 rw[if_pos (by decide)]
 refine Z0 (Gb ?_)
 have hS1:s2.heap.get? s.heap.objs.size=some { cls:=.type "list",data:=.seq ([]:Lu_).toArray }:=x2 _ _ (Zl _ rfl)
 refine Z0 ?_
 show wpAny _ A.in1 (updateSeq s.heap.objs.size (·.push .none)>>=fun _=>updateSeq s.heap.objs.size (·.pop)) _ _ _
 refine Z0 (Ga hS1 rfl ?_)
 have hS2:=Y9 (Yz (·.push YE)) hS1 rfl
 refine Ga hS2 rfl ?_
 have hS3:=Y9 (Yz (·.pop)) hS2 rfl
 have oth:∀ b o,b≠s.heap.objs.size->s2.heap.get? b=some o->((s2.heap.update s.heap.objs.size (Yz (·.push YE))).update s.heap.objs.size (Yz (·.pop))).get? b=some o :=
  fun b o hb e=>(YO _ _ (Gx hb)).trans ((YO _ _ (Gx hb)).trans e)
 have hSf:s.heap.objs.size∉fp:=fun m=>by
  rcases hfp _ m with z|z
  ·exact absurd ha (by rw[<- z];exact YF _)
  ·rw[zs] at z;exact absurd z (Nat.not_le.mpr (Ua _))
 have W':=W A.in1 (by simpa using hh)
 have hord:ord.length=es.size:=by rw[hp.length_eq];simp
 refine Z4 ⟨Yk F.plain_extend_loop _,codeAny_extend_loopS W'.toS hn _ hSf _ es.size 0 _ _ _ rfl (Jh _)
  (W'.frame 0 s2.heap _ st0 fun b hb o e=>oth b o (fun z=>hSf (z ▸ hb)) e) hS3 (ItemsOf.nil _) fun s' acc' c' hm hS' hacc=>?_⟩
 show wpAny _ A (load s.heap.objs.size>>=_) _ _ s'
 refine Z0 (Z1F hS' ?_)
 rw[<- hord] at hacc
 refine Z4 ?_
 show Q acc'.toList s'
 rw[Z6U (P:=fun _ _=>True) hacc]
 refine hQ s' ord (fun b o e=>?_) (hm.gens.trans g2) (hm.os.trans o2) hp
 have hb:b<s.heap.objs.size:=Zy e
 refine hm.heap b o (fun z=>?_) (oth b o (ZE hb) (x2 b o (Z3 _ e)))
 rcases Zc.mp z with z|z
 ·exact absurd hb (z ▸ YF _)
 ·rw[ZS.mp z] at hb
  rw[zs] at hI
  exact absurd hb (Z4M.mpr (ZF (Ym _) hI))
end
end Sg
namespace Sg
open PySem PySem.SetTable
noncomputable def it5:Nat->Nat->Nat
 |0,x=>x
 |n+1,x=>5*it5 n x+1
theorem Z4d (m:Nat)(x:Nat):∀ n,it5 (m+n) x=it5 n (it5 m x)
 |0=>rfl
 |n+1=>by
  show 5*it5 (m+n) x+1=5*it5 n (it5 m x)+1
  rw[Z4d m x n]
theorem Z9k (x:Nat):∀ n,it5 n x=(4*it5 n 0+1)*x+it5 n 0
 |0=>by simp[it5]
 |n+1=>by
  have:=Z9k x n
  show 5*it5 n x+1=(4*(5*it5 n 0+1)+1)*x+(5*it5 n 0+1)
  rw[this]
  grind
theorem Z9j:∀ k,∃ c,it5 (2 ^ k) 0=2 ^ k*(2*c+1)
 |0=>⟨0,rfl⟩
 |k+1=>by
  obtain⟨c,e⟩:=Z9j k
  have e2:it5 (2 ^ (k+1)) 0=2*it5 (2 ^ k) 0*(2*it5 (2 ^ k) 0+1):=by
   rw[show 2 ^ (k+1)=2 ^ k+2 ^ k by rw[Nr];lia,Z4d,Z9k]
   grind
  refine⟨2*c*it5 (2 ^ k) 0+c+it5 (2 ^ k) 0,?_⟩
  rw[e2,Nr]
  generalize it5 (2 ^ k) 0=B at e ⊢
  subst e
  grind
theorem Z2D:∀ k x y,∃ n,n<2 ^ k/\it5 n x%2 ^ k=y%2 ^ k
 |0,x,y=>⟨0,by decide,by rw[Zj5,Zjx,Zjx]⟩
 |k+1,x,y=>by
  obtain⟨n,h1,h2⟩:=Z2D k x y
  obtain⟨c,hc⟩:=Z9j k
  have hM:0<2 ^ k:=Z1K k
  rw[Nr]
  by_cases he:it5 n x%(2 ^ k*2)=y%(2 ^ k*2)
  ·exact⟨n,by lia,he⟩
  ·refine⟨n+2 ^ k,by lia,?_⟩
   rw[Z4d,Z9k]
   generalize it5 n x=z at h2 he
   generalize it5 (2 ^ k) 0=B at hc
   generalize 2 ^ k=M at *
   subst hc
   have e1:(4*(M*(2*c+1))+1)*z+M*(2*c+1)=z+M+M*2*(4*c*z+2*z+c):=by grind
   rw[e1,Nat.add_mul_mod_self_left,Z1L,Z1L,Nat.add_mod_right,Nat.add_div_right _ hM,h2]
   rw[Z1L,Z1L,h2] at he
   have a1:z / M%2<2:=DV _ (by decide)
   have a2:y / M%2<2:=DV _ (by decide)
   have a3:z / M%2≠y / M%2:=fun e=>he (by rw[e])
   have a4:(z / M+1)%2=y / M%2:=by omega
   rw[a4]
noncomputable def lp (mask:Nat)(h:Int):Nat->Nat×Nat
 |0=>(bits h%(mask+1),bits h)
 |m+1=>leap mask (lp mask h m).1 (lp mask h m).2
section
variable {mask:Nat}{h:Int}
theorem Zf6:bits h<2 ^ 64:=by
 unfold bits
 have:=UI h (show (0:Int)<2 ^ 64 by decide)
 have:=NR h (show (2 ^ 64:Int)≠0 by decide)
 lia
theorem ZgY:∀ m,(lp mask h m).1<mask+1
 |0=>DV _ (Zj4 _)
 |m+1=>DV _ (Zj4 _)
theorem Z90:∀ m,(lp mask h m).2=bits h / 32 ^ m
 |0=>by simp[lp]
 |m+1=>by
  show (lp mask h m).2 / 32=_
  rw[Z90 m,Nat.div_div_eq_div_mul,Nr]
theorem ZeN (m:Nat)(hm:13<=m):(lp mask h m).2=0:=by
 rw[Z90]
 refine Nat.div_eq_of_lt (ZG Zf6 ?_)
 have:(32:Nat) ^ 13<=32 ^ m:=Za1 (by decide) hm
 exact ZF (by decide) this
theorem Zd9:∀ n,(lp mask h (13+n)).1=it5 n (lp mask h 13).1%(mask+1)
 |0=>(Zfc (ZgY 13)).symm
 |n+1=>by
  show ((lp mask h (13+n)).1*5+1+(lp mask h (13+n)).2 / 32)%(mask+1)=_
  rw[ZeN _ (by simp),Zd9 n]
  show _=(5*it5 n (lp mask h 13).1+1)%(mask+1)
  generalize it5 n (lp mask h 13).1=z
  rw[Nat.zero_div,G7,Z7n 5 z,Zjz,Nat.mod_mul_mod,<- Zjz]
theorem Z5x(hk:mask+1=2 ^ k)(hj:j<=mask):∃ m,m<=13+mask/\(lp mask h m).1=j:=by
 refine W_ fun n9=>?_;obtain⟨n,h1,h2⟩:=Z2D k (lp mask h 13).1 j;apply n9;clear n9
 rw[<- hk] at h1 h2
 exact⟨13+n,by lia,by rw[Zd9,h2];exact Zfc (by lia)⟩
end
noncomputable def adv (mask:Nat)(p:Probe):Probe :=
 if p.more > 0 then { p with j:=p.j+1,more:=p.more-1 } else { p with j:=(leap mask p.i p.perturb).1,more:=runEnd mask (leap mask p.i p.perturb).1-(leap mask p.i p.perturb).1,i:=(leap mask p.i p.perturb).1,perturb:=(leap mask p.i p.perturb).2 }
noncomputable def blk (mask:Nat)(x:Nat×Nat):Probe:={ j:=x.1,more:=runEnd mask x.1-x.1,i:=x.1,perturb:=x.2,dummy:=none }
noncomputable def pr (mask:Nat)(h:Int):Nat->Probe
 |0=>blk mask (lp mask h 0)
 |n+1=>adv mask (pr mask h n)
section
variable {mask:Nat}{h:Int}
theorem ZfQ (i:Nat):runEnd mask i-i<=9:=by
 unfold runEnd
 split <;> simp
theorem Zh3 (i:Nat):i<=runEnd mask i:=by
 unfold runEnd
 split <;> simp
theorem Z3M:∀ (r n:Nat) (p:Probe),pr mask h n=p->p.more=r->pr mask h (n+r)={ p with j:=p.j+r,more:=0 }
 |0,n,p,e,hr=>by
  show pr mask h n=_
  rw[e]
  obtain⟨a,b,c,d,f⟩:=p
  have hr':b=0:=hr
  subst hr'
  rfl
 |r+1,n,p,e,hr=>by
  have h1:pr mask h (n+1)={ p with j:=p.j+1,more:=r }:=by
   show adv mask (pr mask h n)=_
   rw[e]
   unfold adv
   rw[if_pos (by lia),show p.more-1=r by lia]
  have:=Z3M r (n+1) _ h1 rfl
  rw[show n+(r+1)=n+1+r by lia,this]
  show ({ p with j:=p.j+1+r,more:=0 }:Probe)=_
  rw[show p.j+1+r=p.j+(r+1) by lia]
theorem Z12:∀ n,(pr mask h n).dummy=none
 |0=>rfl
 |n+1=>by
  show (adv mask (pr mask h n)).dummy=none
  unfold adv
  split
  ·exact Z12 n
  ·exact Z12 n
theorem ZcO:∀ m,∃ n,n<=10*m/\pr mask h n=blk mask (lp mask h m)
 |0=>⟨0,Z7 _,rfl⟩
 |m+1=>by
  obtain⟨n,h1,h2⟩:=ZcO m
  have h3:=Z3M (runEnd mask (lp mask h m).1-(lp mask h m).1) n _ h2 rfl
  have h4:=ZfQ (mask:=mask) (lp mask h m).1
  refine⟨n+(runEnd mask (lp mask h m).1-(lp mask h m).1)+1,by lia,?_⟩
  show adv mask (pr mask h (n+(runEnd mask (lp mask h m).1-(lp mask h m).1)))=_
  rw[h3]
  rfl
theorem ZaU(hk:mask+1=2 ^ k)(hj:j<=mask):∃ n,n<10*turns mask/\(pr mask h n).j=j:=by
 refine W_ fun n9=>?_;obtain⟨m,h1,h2⟩:=Z5x (h:=h) hk hj
 obtain⟨n,h3,h4⟩:=ZcO (mask:=mask) (h:=h) m;apply n9;clear n9
 refine⟨n,?_,by rw[h4];exact h2⟩
 unfold turns
 lia
end
end Sg
namespace Sg
open PySem PySem.SetTable
theorem FU {t:SetTable}{j i:Nat}(h:t.slot j=.live i):t.place[i]?=some j:=by
 unfold Z1x at h
 dsimp only at h
 split at h
 ·rename_i e
  cases h
  exact beq_iff_eq.mp e
 ·split at h <;> cases h
theorem BF {t:SetTable}{j:Nat}(hd:t.dummies=#[]):t.slot j≠.dummy:=by
 unfold Z1x
 dsimp only
 split
 ·intro z;cases z
 ·rw[hd]
  intro z
  rw[if_neg (by simp[Zdl])] at z
  cases z
theorem Z7N {t:SetTable}{j:Nat}(hd:t.dummies=#[])(hj:j∉t.place):t.slot j=.empty:=by
 cases hs:t.slot j with
 |empty=>rfl
 |dummy=>exact absurd hs (BF hd)
 |live i=>exact absurd (Z6d (FU hs)) hj
theorem Z8Q:∀ (n:Nat) (l:List Nat),l.length<n->∃ j,j<n/\j∉l
 |0,l,h=>absurd h (Ya _)
 |n+1,l,h=>by
  by_cases hm:n∈l
  ·have hl:(l.erase n).length<n:=by
    rw[List.length_erase_of_mem hm]
    have:=List.length_pos_of_mem hm
    lia
   obtain⟨j,h1,h2⟩:=Z8Q n (l.erase n) hl
   exact⟨j,by exact Yg ‹_›,fun z=>h2 ((List.mem_erase_of_ne (by exact ZE ‹_›)).mpr z)⟩
  ·exact⟨n,Ua _,hm⟩
theorem Z9q {t:SetTable}{k:Nat}(hk:t.mask+1=2 ^ k)(hd:t.dummies=#[])(hp:t.place.size<=t.mask)(h:Int):∃ n,n<10*turns t.mask/\t.slot (pr t.mask h n).j=.empty:=by
 obtain⟨j,h1,h2⟩:=Z8Q (t.mask+1) t.place.toList (by rw[Zh];lia)
 obtain⟨n,h3,h4⟩:=ZaU (h:=h) hk (show j<=t.mask by lia)
 exact⟨n,h3,by rw[h4];exact Z7N hd (fun z=>h2 (Mz.mpr z))⟩
theorem Z56 {α:Type}(x:α):∀ (l:List (Option α)) (j:Nat),l[j]?=some none->((l.set j (some x)).filterMap id).Perm (x::l.filterMap id)
 |[],j,h=>by simp at h
 |a::l,0,h=>by
  simp only[gz_,Jj] at h
  subst h
  exact Uv _
 |a::l,j+1,h=>by
  have ih:=Z56 x l j (by simpa using h)
  rw[Z9]
  cases a with
  |none=>exact ih
  |some y =>
   show (y::(l.set j (some x)).filterMap id).Perm (x::y::l.filterMap id)
   exact (ih.cons y).trans (Za5 x y _)
theorem Z23 {α:Type}:∀ (l:List (Option α)),(l.filterMap id).length<l.length->∃ j:Nat,l[j]?=some none
 |[],h=>by simp at h
 |none::l,h=>⟨0,rfl⟩
 |some y::l,h=>by
  obtain⟨j,e⟩:=Z23 l (by simpa using h)
  exact⟨j+1,by simpa using e⟩
noncomputable def Cc (mask:Nat)(acc:Option (Array (Option Nat)×Nat))(h:Int):Option (Array (Option Nat)×Nat):=do
 let (owner,k) <- acc
 let j <- GH mask owner (turns mask) (bits h%(mask+1)) (bits h)
 pure (owner.setIfInBounds j (some k),k+1)
theorem Z4s (ow:Array (Option Nat)):(Ja ow.size).filterMap (fun j=>ow.getD j none)=ow.toList.filterMap id:=by
 have:ow.toList=(Ja ow.size).map (fun j=>ow.getD j none):=by
  apply UY
  intro i
  rw[Jw,ZQ]
  by_cases hi:i<ow.size
  ·simp[List.getElem?_range,hi,Y7]
  ·rw[Ur (by exact Y2 ‹_›),GD (by simpa using hi)]
   rfl
 rw[this,Zao]
 rfl
end Sg
namespace Sg
open PySem PySem.SetTable
section
variable {prog:Program}{w:World}
abbrev TupK (prog:Program)(w:World)(h:Heap)(ks:Ls_)(c:Addr):Prop:=IsTupleKey (ZT prog w) h ks c
theorem TupK.keep(x:TupK prog w h ks c)(k:∀ o,h.get? c=some o->h'.get? c=some o):TupK prog w h' ks c :=
 let ⟨o,its,n,e,r⟩:=x;⟨o,its,n,k o e,r⟩
theorem TupK.ne {h:Heap}{ks:Ls_}{c a:Addr}{o:Obj}{es:Ai_}{ep:Nat}{t:SetTable}(x:TupK prog w h ks c)(ho:h.get? a=some o)(hd:o.data=.set es ep t):c≠a:=by
 rintro rfl
 obtain⟨o',its,n,e,-,e2,-⟩:=x
 rw[e] at ho
 cases ho
 rw[hd] at e2
 cases e2
inductive TupsAre (prog:Program) (w:World) (h:Heap):List Value->List (Ls_)->Prop
 |nil:TupsAre prog w h [] []
 |cons {c:Addr} {k:Str} {ks:Ls_} {vs:Lu_} {kss:List (Ls_)}:TupK prog w h (k::ks) c->TupsAre prog w h vs kss->TupsAre prog w h (.ref c::vs) ((k::ks)::kss)
theorem TupsAre.keep {h h':Heap}{vs:Lu_}{kss:List (Ls_)}(x:TupsAre prog w h vs kss)(k:∀ c ks o,TupK prog w h ks c->h.get? c=some o->h'.get? c=some o):TupsAre prog w h' vs kss:=by
 induction x with
 |nil=>exact .nil
 |cons t _ ih=>exact .cons (t.keep fun o e=>k _ _ o t e) ih
theorem TupsAre.mem {h:Heap}{vs:Lu_}{kss:List (Ls_)}(x:TupsAre prog w h vs kss):∀ v∈vs,∃ c ks,v=.ref c/\TupK prog w h ks c/\ks∈kss:=by
 induction x with
 |nil=>intro v m;cases m
 |cons t _ ih =>
  intro v m
  rcases Zc.mp m with rfl|m
  ·exact⟨_,_,rfl,t,Z1⟩
  ·refine W_ fun n9=>?_;obtain⟨c,ks,e,t',m'⟩:=ih v m;apply n9;clear n9
   exact⟨c,ks,e,t',Z2 _ m'⟩
theorem TupsAre.snoc {h:Heap}{vs:Lu_}{kss:List (Ls_)}{c:Addr}{k:Str}{ks:Ls_}(x:TupsAre prog w h vs kss)(t:TupK prog w h (k::ks) c):TupsAre prog w h (vs++[.ref c]) (kss++[k::ks]):=by
 induction x with
 |nil=>exact .cons t .nil
 |cons t' _ ih=>exact .cons t' ih
theorem TupsAre.at {h:Heap}{vs:Lu_}{kss:List (Ls_)}(x:TupsAre prog w h vs kss):∀ (i:Nat) (hi:i<kss.length),∃ c k ks,vs[i]?=some (.ref c)/\kss[i]=k::ks/\TupK prog w h (k::ks) c:=by
 induction x with
 |nil=>intro i hi;exact absurd hi (Ya _)
 |cons t _ ih =>
  intro i hi
  cases i with
  |zero=>exact⟨_,_,_,rfl,rfl,t⟩
  |succ i=>exact ih i (Nat.lt_of_succ_lt_succ hi)
theorem TupsAre.len {h:Heap}{vs:Lu_}{kss:List (Ls_)}(x:TupsAre prog w h vs kss):vs.length=kss.length:=by
 induction x with
 |nil=>rfl
 |cons _ _ ih=>rw[Zf,Zf,ih]
structure Zfs (prog:Program)(w:World)(h:Heap)(a:Addr)(es:Ai_)(ep:Nat)(t:SetTable)(vs:Lu_)(kss:List (Ls_)):Prop where
 b:BSet prog w h a es ep t
 dum:t.dummies=#[]
 stage:(t.mask=7/\es.size<=4)\/(t.mask=31/\es.size<=18)
 perm:(es.toList.map (·.2)).Perm vs
 tups:TupsAre prog w h vs kss
variable {A:Around}{E:Ps_}{s:Shared}{a:Addr}{es:Ai_}{ep:Nat}{t:SetTable}{vs:Lu_}{kss:List (Ls_)}
theorem Z5Z(hk:TupK prog w s.heap ks c)(h:Q false s):wpAny (model prog w) A (ofAClassStatement 8 (.ref c)) Q E s:=by
 have hT:=hk.typeIs
 refine W_ fun n9=>?_;obtain⟨o,items,n,ho,_,hd,hi⟩:=hk;apply n9;clear n9
 unfold ofAClassStatement
 refine Z0 (ML hT ?_)
 dsimp only
 refine Z0 ?_
 refine Z4 ?_
 simp only[Wm,Zv,if_false]
 refine Z0 (U6 ho hd ?_)
 refine Z0 ?_
 show wpAny _ _ (forIn items _ _) _ _ s
 rw[<- Qj]
 refine Z3u _ (fun rest r s'=>r.1=none/\s'=s/\∀ v∈rest,carriedByValue v=true) _ ?_ ?_ _ _ ⟨rfl,rfl,hi.byValue⟩
 ·rintro v rest r s' ⟨hr,rfl,hall⟩
  have e:ofAClassStatement 7 v=pure false:=by
   have:=hall v Z1
   cases v with
   |ref a=>simp[carriedByValue] at this
   |_=>rfl
  rw[e]
  refine Z0 (Z4 ?_)
  simp only[Zv,if_false]
  exact Z4 ⟨rfl,rfl,fun u hu'=>hall u (Z2 _ hu')⟩
 ·rintro⟨r1,r2⟩ s' ⟨hr,rfl,_⟩
  simp only at hr
  subst hr
  exact Z4 h
theorem ZdG {kx:Ls_}{x:Addr}{l:Lu_}{Q:Bool->Shared->Prop}(tx:TupK prog w s.heap kx x)(hl:∀ v∈l,∃ c ks,v=.ref c/\TupK prog w s.heap ks c)(h:Q false s) :
  wpAny (model prog w) A (searchCouldBeSeen (.ref x) l) Q E s:=by
 unfold searchCouldBeSeen
 refine Z0 ?_
 refine Z3u _ (fun rest r s'=>r.1=none/\s'=s/\∀ v∈rest,∃ c ks,v=.ref c/\TupK prog w s.heap ks c) _ ?_ ?_ _ _ ⟨rfl,rfl,hl⟩
 ·rintro v rest ⟨r1,r2⟩ s' ⟨hr,rfl,hall⟩
  refine W_ fun n9=>?_;obtain⟨c,ks,rfl,tc⟩:=hall v Z1;apply n9;clear n9
  dsimp only at hr ⊢
  subst hr
  have rst:∀ v∈rest,∃ c ks,v=.ref c/\TupK prog w s'.heap ks c:=fun v m=>hall v (Z2 _ m)
  split
  ·exact Z4 ⟨rfl,rfl,rst⟩
  ·refine Z0 (ZcE tx ?_)
   simp only[Wm,Zv,if_false]
   refine Z0 (ZcE tc ?_)
   simp only[Wm,Zv,if_false]
   refine Z0 (Z5Z tx ?_)
   simp only[Zv,if_false]
   refine Z0 (Z5Z tc ?_)
   simp only[Zv,if_false]
   exact Z4 ⟨rfl,rfl,rst⟩
 ·rintro⟨r1,r2⟩ s' ⟨hr,rfl,_⟩
  simp only at hr
  subst hr
  exact Z4 h
theorem Z96 {M:Model}{β:Type}{b:Bool}{m:Sem Bool}{p p':Sem β}{Q:β->Shared->Prop}(hm:∀ Q':Bool->Shared->Prop,Q' false s->wpAny M A m Q' E s)(h:wpAny M A p Q E s) :
  wpAny M A (if b=true then do let c <- m;if c=true then p' else p else p) Q E s:=by
 split
 ·refine Z0 (hm _ ?_)
  rw[if_neg (by simp)]
  exact h
 ·exact h
end
end Sg
namespace Sg
open PySem PySem.SetTable
section
variable {prog:Program}{w:World}{A:Around}{E:Ps_}{s:Shared}{a:Addr}{es:Ai_}{ep:Nat}{t:SetTable}{vs:Lu_}{kss:List (Ls_)}
theorem Zg6(hd:t.dummies=#[]):(t.put j).1.dummies=#[]/\(t.put j).1.place.size=t.place.size+1/\(t.put j).1.mask=t.mask/\(t.put j).1.led=t.led/\(t.put j).1.plain=t.plain:=by
 unfold SetTable.put
 refine⟨?_,?_,rfl,rfl,rfl⟩
 ·show (if has t.dummies j then _ else _)=_
  rw[hd,if_neg (by simp[Zdl])]
 ·have:=(Z1H t.place (below t.place j) j).length_eq
  simpa using this
theorem Z7K(x:BSet prog w s.heap a es ep t)(few:es'.size<scanBound)(fits:t'.fits es'.size=true)(led:t'.led=t.led)(pl:t'.plain=false)
  (h:∀ h',J2 a s.heap h'->BSet prog w h' a es' (ep+1) t'->Q () { s with heap:=h' }):wpAny (model prog w) A (storeSet a es' t') Q E s:=by
 refine W_ fun n9=>?_;obtain⟨o,ho,hex,hd⟩:=x.obj;apply n9;clear n9
 have hg:(s.heap.update a (Z4L es' t')).get? a=some { o with data:=.set es' (ep+1) t' }:=by
  have:=Y9 (Z4L es' t') ho (by rw[putSet_of es' t' hd];rfl)
  rw[putSet_of es' t' hd] at this;exact this
 exact ZhC ho hd (h _ (JF s.heap a (Z4L es' t')) ⟨⟨_,hg,hex,rfl⟩,few,fits,led.trans x.led,.inr pl⟩) (N7 few)
theorem Z6G (es:Ai_){order:Array Nat}(h:order.toList.Perm (Ja es.size)):(order.filterMap (es[·]?)).toList.Perm es.toList:=by
 rw[Z4O]
 refine (h.filterMap _).trans (Z7s ?_)
 have:=PySem.List.filterMap_getElem?_range_length es.toList
 simpa using this
theorem Z74 {k:Str}{ks:Ls_}{c:Addr}{Q:Bool->Shared->Prop}(hk:TupK prog w s.heap (k::ks) c)(h:Q false s):wpAny (model prog w) A (hashByValue 8 (.ref c)) Q E s:=by
 have hT:=hk.typeIs
 refine W_ fun n9=>?_;obtain⟨o,items,n,ho,_,hd,hi⟩:=hk;apply n9;clear n9
 unfold hashByValue
 refine Z0 (Zjb hT F.slot_tuple_hash.lookup ?_)
 dsimp only
 refine Z0 (U6 ho hd ?_)
 refine Z0 ?_
 show wpAny _ _ (forIn items _ _) _ _ s
 rw[<- Qj]
 obtain⟨its⟩:=items
 dsimp only at hi ⊢
 cases hi with
 |@cons _ v _ vs h1 h2 =>
  rw[MY]
  obtain⟨u,rfl⟩:=MR h1
  refine Z0 (Z0 (Z4 ?_))
  exact Z4 (Z4 (Z4 h))
end
end Sg
namespace Sg
open PySem PyProof.Rows
section
variable {prog:Program}{w:World}{A:Around}{R:Result->Shared->Prop}
end
end Sg
namespace Sg
open PySem PySem.SetTable
def Inc (xs:Array Nat):Prop:=xs.toList.Pairwise (·<·)
theorem Inc.lt(h:Inc xs)(hij:i<j)(hj:j<xs.size):xs[i]<xs[j]:=by
 have:=QH.mp h i j (by simp;omega) (by simpa using hj) hij
 simpa using this
theorem Z1v(h:Inc xs)(j:Nat):∀ (fuel lo hi:Nat),hi<=lo+fuel->lo<=hi->hi<=xs.size->(∀ i (hi:i<xs.size),i<lo->xs[i]<j)->(∀ i (hx:i<xs.size),hi<=i->j<=xs[i]) ->
  below.go xs j fuel lo hi<=xs.size/\(∀ i (hx:i<xs.size),i<below.go xs j fuel lo hi->xs[i]<j)/\(∀ i (hx:i<xs.size),below.go xs j fuel lo hi<=i->j<=xs[i])
 |0,lo,hi,h1,h2,h3,h4,h5=>by
  have e:lo=hi:=by exact G1 ‹_› ‹_›
  subst e
  exact⟨h3,h4,h5⟩
 |fuel+1,lo,hi,h1,h2,h3,h4,h5=>by
  unfold below.go
  by_cases hl:lo<hi
  ·rw[if_pos hl]
   dsimp only
   have hm:(lo+hi) / 2<xs.size:=by lia
   have eg:xs.getD ((lo+hi) / 2) j=xs[(lo+hi) / 2]:=by simp[Array.getD,hm]
   rw[eg]
   by_cases hc:xs[(lo+hi) / 2]<j
   ·rw[if_pos hc]
    refine Z1v h j fuel _ _ (by lia) (by lia) h3 (fun i hx hlt=>?_) h5
    rcases G6 i ((lo+hi) / 2) with q|q
    ·exact Ml (h.lt q hm) hc
    ·have:i=(lo+hi) / 2:=by lia
     subst this
     exact hc
   ·rw[if_neg hc]
    refine Z1v h j fuel _ _ (by lia) (by lia) (by exact YA ‹_›) h4 fun i hx hle=>?_
    rcases G6 ((lo+hi) / 2) i with q|q
    ·exact ZF (Y2 hc) (YA (h.lt (by omega) hx))
    ·have:i=(lo+hi) / 2:=by exact G1 ‹_› ‹_›
     subst this
     exact Y2 hc
  ·rw[if_neg hl]
   have e:lo=hi:=by lia
   subst e
   exact⟨h3,h4,h5⟩
theorem Z0v(h:Inc xs)(j:Nat):below xs j<=xs.size/\(∀ i (hx:i<xs.size),i<below xs j->xs[i]<j)/\(∀ i (hx:i<xs.size),below xs j<=i->j<=xs[i]) :=
 Z1v h j xs.size 0 xs.size (by exact Zft _ _) (Jh _) (Z7 _) (fun i _ z=>absurd z (Ya _)) fun i hx z=>absurd hx (Z4M.mpr z)
theorem Zcl(h:Inc xs)(e:xs[i]?=some j):below xs j=i:=by
 obtain⟨hi,e⟩:=GK.mp e
 obtain⟨h1,h2,h3⟩:=Z0v h j
 rcases GO (below xs j) i with q|q|q
 ·have a:=h3 (below xs j) (by exact Ml ‹_› ‹_›) (Z7 _)
  have b:=h.lt q hi
  lia
 ·exact q
 ·have a:=h2 i hi q
  lia
theorem Z7O {t:SetTable}(h:Inc t.place){i j:Nat}(e:t.place[i]?=some j):t.slot j=.live i:=by
 unfold Z1x
 dsimp only
 rw[Zcl h e,e]
 simp
theorem Z54 {t:SetTable}(h:Inc t.place){j:Nat}(m:j∈t.place.toList):∃ i,t.slot j=.live i:=by
 obtain⟨i,hi,e⟩:=YT m
 exact⟨i,Z7O h (by rw[Zh] at hi;rw[Zz hi];simpa using e)⟩
theorem Z7M {t:SetTable}{j i:Nat}(h:t.slot j=.live i):j∈t.place.toList:=by
 have:=FU h
 exact Mz.mpr (Z6d this)
theorem ZdQ {t:SetTable}(h:Inc t.place){j:Nat}(e:t.slot j=.empty):Inc (t.put j).1.place:=by
 have nm:j∉t.place.toList:=fun z=>by
  obtain⟨i,q⟩:=Z54 h z
  rw[e] at q
  cases q
 obtain⟨h1,h2,h3⟩:=Z0v h j
 show (insertAt t.place (below t.place j) j).toList.Pairwise (·<·)
 rw[toList_insertAt]
 have hh:(t.place.toList.take (below t.place j)++t.place.toList.drop (below t.place j)).Pairwise (·<·):=by rw[Zp];exact h
 obtain⟨p1,p2,p3⟩:=YG.mp hh
 refine YG.mpr ⟨p1,Yn.mpr ⟨fun x hx=>?_,p2⟩,fun x hx y hy=>?_⟩
 ·obtain⟨i,hi,e⟩:=YT hx
  rw[M5] at e
  rw[ZI,Zh] at hi
  have a:=h3 (below t.place j+i) (by lia) (by simp)
  have e:t.place[below t.place j+i]=x:=by simpa using e
  rcases G6 j x with q|q
  ·exact q
  ·exact absurd (show j∈t.place.toList by
    have:j=x:=by lia
    rw[this]
    exact JQ hx) nm
 ·rcases Zc.mp hy with rfl|hy
  ·obtain⟨i,hi,e⟩:=YT hx
   rw[M4] at e
   rw[Zx,Zh] at hi
   have a:=h2 i (by lia) (by lia)
   have e:t.place[i]=x:=by simpa using e
   lia
  ·exact p3 x hx y hy
def Led (mask:Nat)(place:List Nat)(z:Nat×(Int×Value)):Prop:=∃ m,z.1=(pr mask z.2.1 m).j/\∀ m',m'<m->(pr mask z.2.1 m').j∈place
theorem Z6e {α β:Type}:∀ (p:Nat) (a:List α) (b:List β) (x:α) (y:β),a.length=b.length->∀ z∈(a.take p++x::a.drop p).zip (b.take p++y::b.drop p),z=(x,y)\/z∈a.zip b:=by
 intro p a b x y hl z hz
 rw[Z1C (by rw[Zx,Zx,hl]),NF,ZR,Zc] at hz
 rcases hz with q|q|q
 ·right
  have:a.zip b=(a.take p).zip (b.take p)++(a.drop p).zip (b.drop p):=by rw[<- Z1C (by rw[Zx,Zx,hl]),Zp,Zp]
  rw[this]
  exact Js _ q
 ·exact .inl q
 ·right
  have:a.zip b=(a.take p).zip (b.take p)++(a.drop p).zip (b.drop p):=by rw[<- Z1C (by rw[Zx,Zx,hl]),Zp,Zp]
  rw[this]
  exact Zs _ q
theorem Z5I(hd:t.dummies=#[])(ha:Nat->Int)(h:Int):∀ (d n fuel:Nat),d<fuel->t.slot (pr t.mask h (n+d)).j=.empty ->
  ∃ m,n<=m/\m<=n+d/\(∀ m',n<=m'->m'<m->∃ i,t.slot (pr t.mask h m').j=.live i/\(ha i == h)=false) /\
   ((t.slot (pr t.mask h m).j=.empty/\WM t ha h fuel (pr t.mask h n)=some (.empty (pr t.mask h m).j none)) \/
    ∃ i,t.slot (pr t.mask h m).j=.live i/\(ha i == h)=true/\WM t ha h fuel (pr t.mask h n)=some (.candidate (pr t.mask h m).j i (pr t.mask h (m+1))))
 |d,n,0,hf,_=>absurd hf (Ya _)
 |d,n,fuel+1,hf,he=>by
  unfold WM
  cases hs:t.slot (pr t.mask h n).j with
  |empty=>exact⟨n,Z7 _,Zfe _ _,fun m' a b=>absurd b (Z4M.mpr a),.inl ⟨hs,by dsimp only;rw[Z12]⟩⟩
  |dummy=>exact absurd hs (BF hd)
  |live i =>
   dsimp only
   cases d with
   |zero=>rw[G7,hs] at he;cases he
   |succ d =>
    cases hh:(ha i == h) with
    |true =>
     rw[if_pos rfl]
     exact⟨n,Z7 _,Zfe _ _,fun m' a b=>absurd b (Z4M.mpr a),.inr ⟨i,hs,hh,rfl⟩⟩
    |false =>
     rw[if_neg (by simp)]
     obtain⟨m,h1,h2,h3,h4⟩:=Z5I hd ha h d (n+1) fuel (by lia) (by rw[show n+1+d=n+(d+1) by lia];exact he)
     refine⟨m,by exact YA ‹_›,by lia,fun m' a b=>?_,h4⟩
     rcases G6 n m' with q|q
     ·exact h3 m' q b
     ·have:m'=n:=by exact G1 ‹_› ‹_›
      subst this
      exact⟨i,hs,hh⟩
theorem C1 {t:SetTable}{ha:Nat->Int}{h:Int}{r:Option Met}{n d:Nat}{p:Probe}(e:t.probe ha h p=r)(hp:p=pr t.mask h n)(hd:t.dummies=#[])(hl:d<10*turns t.mask)(he:t.slot (pr t.mask h (n+d)).j=.empty) :
  ∃ m,n<=m/\m<=n+d/\(∀ m',n<=m'->m'<m->∃ i,t.slot (pr t.mask h m').j=.live i/\(ha i == h)=false) /\
   ((t.slot (pr t.mask h m).j=.empty/\r=some (.empty (pr t.mask h m).j none)) \/
    ∃ i,t.slot (pr t.mask h m).j=.live i/\(ha i == h)=true/\r=some (.candidate (pr t.mask h m).j i (pr t.mask h (m+1)))):=by
 subst e hp
 exact Z5I hd ha h d n _ hl he
end Sg
namespace Sg
open PySem PySem.SetTable
def Occ (ow:Array (Option Nat))(j:Nat):Prop:=∃ k,ow[j]?=some (some k)
def ZhV (mask:Nat)(hs:List Int)(ow:Array (Option Nat)):Prop:=∀ j k,ow[j]?=some (some k)->∃ h,hs[k]?=some h/\∃ m,j=(pr mask h m).j/\∀ m',m'<m->Occ ow (pr mask h m').j
theorem ZaG {mask i:Nat}(h:i<=mask):runEnd mask i<=mask:=by
 unfold runEnd
 split <;> omega
theorem Z8f {mask:Nat}{h:Int}{n m r:Nat}(e:pr mask h n=blk mask (lp mask h m))(hr:r<=runEnd mask (lp mask h m).1-(lp mask h m).1):(pr mask h (n+r)).j=(lp mask h m).1+r/\(pr mask h (n+r)).more=runEnd mask (lp mask h m).1-(lp mask h m).1-r/\(pr mask h (n+r)).i=(lp mask h m).1/\(pr mask h (n+r)).perturb=(lp mask h m).2:=by
 induction r with
 |zero=>rw[G7,e];exact⟨rfl,rfl,rfl,rfl⟩
 |succ r ih =>
  obtain⟨h1,h2,h3,h4⟩:=ih (by exact YA ‹_›)
  rw[<- Uk]
  show (adv mask (pr mask h (n+r))).j=_/\(adv mask (pr mask h (n+r))).more=_/\(adv mask (pr mask h (n+r))).i=_/\(adv mask (pr mask h (n+r))).perturb=_
  unfold adv
  rw[if_pos (by rw[h2];lia)]
  dsimp only
  exact⟨by rw[h1];rfl,by rw[h2];rfl,h3,h4⟩
theorem ZdW {mask:Nat}{h:Int}{n m:Nat}(e:pr mask h n=blk mask (lp mask h m)):pr mask h (n+(runEnd mask (lp mask h m).1-(lp mask h m).1)+1)=blk mask (lp mask h (m+1)):=by
 have h3:=Z3M (runEnd mask (lp mask h m).1-(lp mask h m).1) n _ e rfl
 show adv mask (pr mask h (n+(runEnd mask (lp mask h m).1-(lp mask h m).1)))=_
 rw[h3]
 rfl
theorem Z0j {mask:Nat}{h:Int}(ow:Array (Option Nat))(hz:ow.size=mask+1):∀ (d fuel m n:Nat),d<fuel->ow[(lp mask h (m+d)).1]?=some none->pr mask h n=blk mask (lp mask h m)->(∀ n',n'<n->Occ ow (pr mask h n').j) ->
  ∃ n2,GH mask ow fuel (lp mask h m).1 (lp mask h m).2=some (pr mask h n2).j/\ow[(pr mask h n2).j]?=some none/\∀ n',n'<n2->Occ ow (pr mask h n').j
 |d,0,m,n,hf,_,_,_=>absurd hf (Ya _)
 |d,fuel+1,m,n,hf,he,hp,ho=>by
  have hi:(lp mask h m).1<=mask:=by have:=ZgY (mask:=mask) (h:=h) m;lia
  have hr:=ZaG hi
  have hl:=Zh3 (mask:=mask) (lp mask h m).1
  have occ:∀ k,k<runEnd mask (lp mask h m).1+1-(lp mask h m).1->(ow.getD ((lp mask h m).1+k) (some 0)).isNone=false->Occ ow (pr mask h (n+k)).j:=by
   intro k hk e
   rw[(Z8f hp (by lia)).1]
   have hx:(lp mask h m).1+k<ow.size:=by omega
   rw[Y7,Zz hx,W5] at e
   cases hw:ow[(lp mask h m).1+k] with
   |none=>rw[hw] at e;cases e
   |some q=>exact⟨q,by rw[Zz hx,hw]⟩
  have upto:∀ k,k<=runEnd mask (lp mask h m).1+1-(lp mask h m).1->(∀ k',k'<k->(ow.getD ((lp mask h m).1+k') (some 0)).isNone=false)->∀ n',n'<n+k->Occ ow (pr mask h n').j:=by
   intro k hk hall n' hn'
   rcases G6 n' n with q|q
   ·exact ho n' q
   ·have:=occ (n'-n) (by lia) (hall _ (by lia))
    rwa [show n+(n'-n)=n' by lia] at this
  unfold GH
  split
  ·rename_i k hk
   have hk1:=List.find?_some hk
   have hk2:=Jv.mp (List.mem_of_find?_eq_some hk)
   have hk3:∀ k',k'<k->(ow.getD ((lp mask h m).1+k') (some 0)).isNone=false:=by
    intro k' q
    have:=(List.find?_range_eq_some.mp hk).2.2 k' q
    simpa using this
   refine⟨n+k,?_,?_,upto k (by exact YA ‹_›) hk3⟩
   ·rw[(Z8f hp (by lia)).1]
   ·rw[(Z8f hp (by lia)).1]
    have hx:(lp mask h m).1+k<ow.size:=by lia
    rw[Y7,Zz hx,W5] at hk1
    cases hw:ow[(lp mask h m).1+k] with
    |none=>rw[Zz hx,hw]
    |some q=>rw[hw] at hk1;cases hk1
  ·rename_i hk
   have hall:∀ k',k'<runEnd mask (lp mask h m).1+1-(lp mask h m).1->(ow.getD ((lp mask h m).1+k') (some 0)).isNone=false:=by
    intro k' q
    have:=Zan.mp hk k' (Jv.mpr q)
    exact Bool.eq_false_iff.mpr this
   cases d with
   |zero =>
    exfalso
    rw[G7] at he
    have:=hall 0 (by lia)
    rw[G7,Y7,he] at this
    cases this
   |succ d =>
    refine Z0j ow hz d fuel (m+1) (n+(runEnd mask (lp mask h m).1-(lp mask h m).1)+1) (by lia) (by rw[show m+1+d=m+(d+1) by lia];exact he) (ZdW hp) ?_
    have:=upto _ (Z7 _) hall
    rwa [show n+(runEnd mask (lp mask h m).1+1-(lp mask h m).1)=n+(runEnd mask (lp mask h m).1-(lp mask h m).1)+1 by lia] at this
theorem Z5A {mask k:Nat}(hk:mask+1=2 ^ k):∀ (rest done:List Int) (ow:Array (Option Nat)),ow.size=mask+1->(ow.toList.filterMap id).Perm (Ja done.length)->ZhV mask (done++rest) ow->done.length+rest.length<=mask ->
  ∃ ow',rest.foldl (Cc mask) (some (ow,done.length))=some (ow',done.length+rest.length)/\ow'.size=mask+1/\(ow'.toList.filterMap id).Perm (Ja (done.length+rest.length))/\ZhV mask (done++rest) ow'
 |[],done,ow,h1,h2,h3,h4=>⟨ow,rfl,h1,h2,h3⟩
 |h::rest,done,ow,h1,h2,h3,h4=>by
  obtain⟨j,hj⟩:=Z23 ow.toList (by rw[h2.length_eq,JS,show ow.toList.length=mask+1 from (Zh).trans h1];simp at h4;lia)
  have hj1:j<ow.size:=by
   have:=(Ji.mp hj).1
   simpa using this
  refine W_ fun n9=>?_;obtain⟨m,m1,m2⟩:=Z5x (h:=h) hk (show j<=mask by lia)
  apply n9;clear n9
  have hj2:ow[(lp mask h (0+m)).1]?=some none:=by rw[JA,m2,<- ZQ];exact hj
  obtain⟨n2,e,hj',hocc⟩:=Z0j ow h1 m (turns mask) 0 0 (by unfold turns;lia) hj2 rfl fun n' z=>absurd z (Ya _)
  have hjs:(pr mask h n2).j<ow.size:=(GK.mp hj').1
  have hs1:Cc mask (some (ow,done.length)) h=some (ow.setIfInBounds (pr mask h n2).j (some done.length),done.length+1):=by
   unfold Cc
   have e':GH mask ow (turns mask) (bits h%(mask+1)) (bits h)=some (pr mask h n2).j:=e
   simp only[Z7b,ob_,Zct]
   rw[e']
   rfl
  have hp:((ow.setIfInBounds (pr mask h n2).j (some done.length)).toList.filterMap id).Perm (Ja (done.length+1)):=by
   rw[Array.toList_setIfInBounds]
   refine (Z56 done.length ow.toList (pr mask h n2).j (by rw[ZQ];exact hj')).trans ?_
   rw[Zff]
   exact (h2.cons _).trans (List.perm_append_singleton _ _).symm
  have grow:∀ x,Occ ow x->Occ (ow.setIfInBounds (pr mask h n2).j (some done.length)) x:=fun x z_=>by
   obtain⟨q,z⟩:=z_
   by_cases ex:(pr mask h n2).j=x
   ·exact⟨done.length,by rw[<- ex,Gz hjs]⟩
   ·exact⟨q,by rw[NY ex];exact z⟩
  have hled:ZhV mask ((done++[h])++rest) (ow.setIfInBounds (pr mask h n2).j (some done.length)):=by
   rw[Zi]
   intro x q z
   by_cases ex:(pr mask h n2).j=x
   ·rw[<- ex,Gz hjs] at z
    cases z
    refine⟨h,by simp,n2,ex.symm,fun m' hm'=>grow _ (hocc m' hm')⟩
   ·rw[NY ex] at z
    refine W_ fun n9=>?_;obtain⟨hh,a1,m,a2,a3⟩:=h3 x q z;apply n9;clear n9
    exact⟨hh,a1,m,a2,fun m' hm'=>grow _ (a3 m' hm')⟩
  obtain⟨ow',z1,z2,z3,z4⟩:=Z5A hk rest (done++[h]) (ow.setIfInBounds (pr mask h n2).j (some done.length)) (by simpa using h1) (by rw[Zj];exact hp) hled (by simp at h4 ⊢;lia)
  have el:(done++[h]).length=done.length+1:=by simp
  rw[el] at z1 z3
  refine⟨ow',?_,z2,?_,?_⟩
  ·rw[U0,hs1,z1,Zf]
   congr 2
   lia
  ·rw[Zf,show done.length+(rest.length+1)=done.length+1+rest.length by lia]
   exact z3
  ·rw[Zi] at z4
   exact z4
theorem Z6Q {mask k:Nat}(hk:mask+1=2 ^ k)(hs:Array Int)(hl:hs.size<=mask):∃ ow,UQ mask hs=some ow/\ow.size=mask+1/\(ow.toList.filterMap id).Perm (Ja hs.size)/\ZhV mask hs.toList ow:=by
 obtain⟨ow,z1,z2,z3,z4⟩:=Z5A hk hs.toList [] (Z0J (mask+1) none) (by simp) (by
  have:∀ n,((Zm n (none:Option Nat)).filterMap id)=[]:=fun n=>by induction n with|zero=>rfl|succ n ih=>rw[JZ];exact ih
  rw[Array.toList_replicate,this]
  exact Uv _) (fun j q z=>by
   rw[Array.getElem?_replicate] at z
   split at z <;> cases z) (by simpa using hl)
 refine⟨ow,?_,z2,by simpa using z3,z4⟩
 unfold UQ
 rw[<- Array.foldl_toList]
 have:(hs.toList.foldl (Cc mask) (some (Z0J (mask+1) none,0))).map (·.1)=some ow:=by
  have z1:hs.toList.foldl (Cc mask) (some (Z0J (mask+1) none,0))=_:=z1
  rw[z1];rfl
 exact this
theorem Z4P {es:Ai_}:∀ (live:List (Nat×Nat)),(∀ p∈live,p.2<es.size)->∀ z∈(live.map (·.1)).zip ((live.map (·.2)).filterMap (es[·]?)),∃ p∈live,z.1=p.1/\es[p.2]?=some z.2
 |[],_,z,hz=>by cases hz
 |p::live,h,z,hz=>by
  have hp:=h p Z1
  rw[Zw,Zw,List.filterMap_cons_some (Zz hp),NF] at hz
  rcases Zc.mp hz with rfl|hz
  ·exact⟨p,Z1,rfl,Zz hp⟩
  ·obtain⟨q,a,b⟩:=Z4P live (fun q m=>h q (Z2 _ m)) z hz
   exact⟨q,Z2 _ a,b⟩
theorem Z6p {t:SetTable}{es:Ai_}{wanted k:Nat}(hk:sizeAbove wanted=2 ^ k)(hl:es.size<sizeAbove wanted) :
  ∃ t' order,t.relaid (es.map (·.1)) wanted=some (t',order)/\t'.mask=sizeAbove wanted-1/\t'.dummies=#[]/\t'.place.size=es.size/\t'.led=t.led/\t'.plain=t.plain/\order.toList.Perm (Ja es.size)/\Inc t'.place /\
   ∀ z∈t'.place.toList.zip (order.filterMap (es[·]?)).toList,Led t'.mask t'.place.toList z:=by
 have hm:sizeAbove wanted-1+1=2 ^ k:=by have:=Z1K k;lia
 obtain⟨ow,z1,z2,z3,z4⟩:=Z6Q hm (es.map (·.1)) (by rw[Qo];lia)
 rw[Qo] at z3
 have hlen:((Ja (sizeAbove wanted-1+1)).filterMap fun j=>(ow.getD j none).map (j,·)).map (·.2)=ow.toList.filterMap id:=by
  rw[Zal,<- Z4s,z2]
  congr 1
  funext j
  cases ow.getD j none <;> rfl
 have hmem:∀ p:Nat×Nat,p∈((Ja (sizeAbove wanted-1+1)).filterMap fun j=>(ow.getD j none).map (j,·))↔ow[p.1]?=some (some p.2):=by
  intro p
  rw[NH]
  constructor
  ·rintro⟨j,hj,e⟩
   rw[Jv] at hj
   cases hg:ow.getD j none with
   |none=>rw[hg] at e;cases e
   |some q =>
    rw[hg] at e
    cases e
    rw[Y7] at hg
    cases hw:ow[j]? with
    |none=>rw[hw] at hg;cases hg
    |some o=>rw[hw] at hg;exact congrArg some hg
  ·intro e
   refine⟨p.1,Jv.mpr (by rw[<- z2];exact (GK.mp e).1),?_⟩
   rw[Y7,e]
   rfl
 unfold Z9Z Zcq
 rw[z1]
 generalize hL:((Ja (sizeAbove wanted-1+1)).filterMap fun j=>(ow.getD j none).map (j,·))=live at hlen hmem
 refine⟨_,_,rfl,rfl,rfl,?_,rfl,rfl,?_,?_,?_⟩
 ·dsimp only
  rw[hL,Zr,Z5]
  have:=congrArg Yi hlen
  rw[Z5] at this
  rw[this,z3.length_eq,JS]
 ·dsimp only
  rw[hL]
  show (live.map (·.2)).Perm _
  rw[hlen]
  exact z3
 ·show (_:List Nat).Pairwise _
  dsimp only
  rw[hL,<- hL]
  have:(((Ja (sizeAbove wanted-1+1)).filterMap fun j=>(ow.getD j none).map (j,·)).map (·.1))=(Ja (sizeAbove wanted-1+1)).filter fun j=>(ow.getD j none).isSome:=by
   rw[Zal,<- List.filterMap_eq_filter]
   congr 1
   funext j
   unfold Option.guard
   cases h:ow.getD j none <;> simp[h]
  rw[this]
  exact Z6b.filter _
 ·dsimp only
  rw[hL,Z4O]
  intro z hz
  have hin:∀ p∈live,p.2<es.size:=fun p hp=>by
   have:p.2∈ow.toList.filterMap id:=by rw[<- hlen];exact MW hp
   exact Jv.mp (z3.mem_iff.mp this)
  refine W_ fun n9=>?_;obtain⟨p,hp,e1,e2⟩:=Z4P live hin z hz
  obtain⟨h,b1,m,b2,b3⟩:=z4 p.1 p.2 ((hmem p).mp hp);apply n9;clear n9
  rw[ZQ,Array.getElem?_map,e2] at b1
  cases b1
  refine⟨m,e1.trans b2,fun m' hm'=>?_⟩
  obtain⟨q,hq⟩:=b3 m' hm'
  exact Zu.mpr ⟨(_,q),(hmem _).mpr hq,rfl⟩
end Sg
namespace Sg
open PySem PySem.SetTable
section
variable {prog:Program}{w:World}
structure Z0F (prog:Program)(w:World)(h:Heap)(a:Addr)(es:Ai_)(ep:Nat)(t:SetTable)(vs:Lu_)(kss:List (Ls_)):Prop where
 b:BSet prog w h a es ep t
 dum:t.dummies=#[]
 pow:∃ k,t.mask+1=2 ^ k
 room:es.size*5<t.mask*3
 low:t.mask<9000
 inc:Inc t.place
 led:∀ z∈t.place.toList.zip es.toList,Led t.mask t.place.toList z
 perm:(es.toList.map (·.2)).Perm vs
 tups:TupsAre prog w h vs kss
 hsh:∀ e∈es.toList,∀ c ks,e.2=.ref c->TupK prog w h ks c->e.1=tupleKeyHash (ZT prog w) ks
variable {A:Around}{E:Ps_}{s:Shared}{a:Addr}{es:Ai_}{ep:Nat}{t:SetTable}{vs:Lu_}{kss:List (Ls_)}
theorem Z0F.psize(P:Z0F prog w h a es ep t vs kss):t.place.size=es.size:=by
 have:=P.b.fits
 unfold QC at this
 rw[ZP,beq_iff_eq] at this
 exact this.1
theorem Z0F.big(P:Z0F prog w h a es ep t vs kss):1<=t.mask:=by have:=P.room;lia
theorem Z0F.odd(P:Z0F prog w h a es ep t vs kss):t.gaveWay=false:=by
 unfold SetTable.gaveWay
 obtain⟨k,e⟩:=P.pow
 have hb:=P.big
 cases k with
 |zero=>rw[Zj5] at e;lia
 |succ k =>
  rw[Nr] at e
  have:t.mask%2=1:=by lia
  rw[this]
  rfl
theorem Z0F.roomy(P:Z0F prog w h a es ep t vs kss):t.place.size<=t.mask:=by
 rw[P.psize]
 have:=P.room
 lia
theorem TupsAre.has(x:TupsAre prog w h vs kss):∀ ks∈kss,∃ c,Y6 c∈vs/\TupK prog w h ks c:=by
 induction x with
 |nil=>intro v m;cases m
 |cons t _ ih =>
  intro v m
  rcases Zc.mp m with rfl|m
  ·exact⟨_,Z1,t⟩
  ·obtain⟨c,a,b⟩:=ih v m
   exact⟨c,Z2 _ a,b⟩
theorem Z08(hu:A.units<cLine)(P:Z0F prog w s.heap a es ep t vs kss)(tx:TupK prog w s.heap kx x)
  (hf:kx∉kss->∀ m,t.slot (pr t.mask (tupleKeyHash (ZT prog w) kx) m).j=.empty->(∀ m',m'<m->(pr t.mask (tupleKeyHash (ZT prog w) kx) m').j∈t.place.toList)->Q (.free (pr t.mask (tupleKeyHash (ZT prog w) kx) m).j false) s)
  (ht:kx∈kss->Q (.there none) s) :
  ∀ (fuel n d:Nat) (stand:Option Probe),stand.getD (t.probeStart (tupleKeyHash (ZT prog w) kx))=pr t.mask (tupleKeyHash (ZT prog w) kx) n->d<fuel->d<10*turns t.mask->t.slot (pr t.mask (tupleKeyHash (ZT prog w) kx) (n+d)).j=.empty ->
   (∀ m',m'<n->(pr t.mask (tupleKeyHash (ZT prog w) kx) m').j∈t.place.toList) ->
   (kx∈kss->∃ m0 i0 c0,n<=m0/\t.slot (pr t.mask (tupleKeyHash (ZT prog w) kx) m0).j=.live i0/\es[i0]?=some (tupleKeyHash (ZT prog w) kx,.ref c0)/\TupK prog w s.heap kx c0/\∀ m',m'<m0->(pr t.mask (tupleKeyHash (ZT prog w) kx) m').j∈t.place.toList) ->
   wpAny (model prog w) A (setSearchFrom a (.ref x) (tupleKeyHash (ZT prog w) kx) true fuel stand) Q E s
 |0,n,d,stand,_,hf,_,_,_,_=>absurd hf (Ya _)
 |fuel+1,n,d,stand,hs,hfu,hl,he,hn,h0=>by
  generalize hhx:tupleKeyHash (ZT prog w) kx=hx at *
  obtain⟨o,ho,hex,hd⟩:=P.b.obj
  unfold setSearchFrom
  refine Z0 (Yj ho hd P.b.fits ?_)
  dsimp only
  rw[P.odd]
  simp only[Zv,if_false]
  have memv:∀ e∈es.toList,∃ c ks,e.2=.ref c/\TupK prog w s.heap ks c/\ks∈kss:=fun e m=>P.tups.mem _ (P.perm.mem_iff.mp (MW m))
  split
  ·rename_i met heq
   obtain⟨m,h1,h2,h3,h4⟩:=C1 heq hs P.dum hl he
   have hm':∀ m',m'<m->(pr t.mask hx m').j∈t.place.toList:=fun m' q=>by
    rcases G6 m' n with z|z
    ·exact hn m' z
    ·obtain⟨i,e,-⟩:=h3 m' z q
     exact Z7M e
   rcases h4 with ⟨hemp,z⟩|⟨i,hli,hhi,z⟩
   ·cases z
    refine Z4 (hf (fun hk=>?_) m hemp hm')
    obtain⟨m0,i0,c0,g1,g2,g3,-,g5⟩:=h0 hk
    rcases GO m m0 with q|q|q
    ·obtain⟨i,e⟩:=Z54 P.inc (g5 m q)
     rw[hemp] at e;cases e
    ·rw[q,g2] at hemp;cases hemp
    ·obtain⟨i,e,hne⟩:=h3 m0 g1 q
     rw[g2] at e
     cases e
     have hne:((es[i0]?.map (·.1)).getD 0 == hx)=false:=hne
     rw[g3] at hne
     simp at hne
   ·cases z
    dsimp only
    have hi:i<es.size:=by
     have:=(GK.mp (FU hli)).1
     rw[P.psize] at this
     exact this
    have hei:es[i]?=some es[i]:=Zz hi
    obtain⟨c,ks,hc,tc,mc⟩:=memv es[i] (Array.getElem_mem_toList hi)
    refine Z96 (fun Q' q=>ZdG tx (fun v hv=>?_) q) ?_
    ·obtain⟨e,me,rfl⟩:=Zu.mp hv
     obtain⟨c,ks,e1,e2,-⟩:=memv e (Mz.mpr (Array.mem_filter.mp (Mz.mp me)).1)
     exact⟨c,ks,e1,e2⟩
    ·generalize es[i]=ent at hei hc
     obtain⟨eh,ev⟩:=ent
     dsimp only at hc
     subst hc
     rw[hei]
     dsimp only
     refine Z0 (Jx (wpAny_eqBool_tuple hu tc tx ?_))
     refine Z0 (Yj ho hd P.b.fits ?_)
     by_cases hk:ks=kx
     ·rw[decide_eq_true hk]
      simp only[Bool.and_true,if_true]
      exact Z4 (ht (hk ▸ mc))
     ·rw[decide_eq_false hk]
      simp only[Zfw,Zv,if_false]
      have sm:t.sameMemory t.moves t.mask=some true:=by unfold SetTable.sameMemory;rw[if_pos (by simp)]
      rw[sm]
      simp only[if_true]
      rw[hli]
      dsimp only
      rw[hei]
      dsimp only
      refine Z0 (wpAny_isSame_ref_self ?_)
      simp only[if_true]
      refine Z0 (Z4 ?_)
      simp only[Zv,if_false]
      subst hhx
      have hmd:m<n+d:=by
       rcases G6 m (n+d) with q|q
       ·exact q
       ·have:m=n+d:=by exact G1 ‹_› ‹_›
        rw[this,he] at hli
        cases hli
      refine Z08 hu P tx hf ht fuel (m+1) (n+d-(m+1)) _ rfl (by lia) (by lia) (by rw[show m+1+(n+d-(m+1))=n+d by lia];exact he) (fun m' q=>?_) fun hkx=>?_
      ·rcases G6 m' m with z|z
       ·exact hm' m' z
       ·have:m'=m:=by lia
        rw[this]
        exact Z7M hli
      ·obtain⟨m0,i0,c0,g1,g2,g3,g4,g5⟩:=h0 hkx
       refine⟨m0,i0,c0,?_,g2,g3,g4,g5⟩
       rcases GO m m0 with q|q|q
       ·exact q
       ·exfalso
        subst q
        rw[g2] at hli
        cases hli
        rw[g3] at hei
        cases hei
        exact hk (tc.inj g4)
       ·obtain⟨i',e,hne⟩:=h3 m0 g1 q
        rw[g2] at e
        cases e
        have hne:((es[i0]?.map (·.1)).getD 0 == tupleKeyHash (ZT prog w) kx)=false:=hne
        rw[g3] at hne
        simp at hne
  ·rename_i hno
   obtain⟨m,-,-,-,h4⟩:=C1 (r:=_) rfl hs P.dum hl he
   rcases h4 with ⟨-,z⟩|⟨i,-,-,z⟩
   ·exact absurd z (hno _)
   ·exact absurd z (hno _)
end
end Sg
namespace Sg
open PySem PySem.SetTable
theorem Z67 (n:Nat):∀ (fuel k:Nat),n<2 ^ (k+fuel)->∃ k',sizeAbove.go n fuel (2 ^ k)=2 ^ k'/\n<2 ^ k'/\(2 ^ k'=2 ^ k\/2 ^ k'<=2*n)
 |0,k,h=>⟨k,rfl,h,.inl rfl⟩
 |fuel+1,k,h=>by
  unfold sizeAbove.go
  by_cases hl:2 ^ k<=n
  ·rw[if_pos hl,<- Nr]
   obtain⟨k',h1,h2,h3⟩:=Z67 n fuel (k+1) (by rw[show k+1+fuel=k+(fuel+1) by lia];exact h)
   refine⟨k',h1,h2,.inr ?_⟩
   rcases h3 with q|q
   ·rw[q,Nr];lia
   ·exact q
  ·rw[if_neg hl]
   exact⟨k,rfl,by exact MC ‹_›,.inl rfl⟩
theorem Z9X(h:n<100000):∃ k,sizeAbove n=2 ^ k/\n<sizeAbove n/\sizeAbove n<=sizeLine/\sizeAbove n<=8+2*n:=by
 obtain⟨k,h1,h2,h3⟩:=Z67 n 64 3 (ZG h (by decide))
 have h1:sizeAbove n=2 ^ k:=h1
 have h4:sizeAbove n<=8+2*n:=by
  rw[h1]
  rcases h3 with q|q
  ·rw[q];simp
  ·lia
 have:sizeLine=16777216:=by decide
 exact⟨k,h1,by rw[h1];exact h2,by lia,h4⟩
section
variable {prog:Program}{w:World}{A:Around}{E:Ps_}{s:Shared}{a:Addr}{es:Ai_}{ep:Nat}{t:SetTable}{vs:Lu_}{kss:List (Ls_)}
theorem Z0W(x:BSet prog w s.heap a es ep t)(hk:sizeAbove n=2 ^ k)(hz:sizeAbove n<=sizeLine)(hl:es.size<sizeAbove n)(pl:t.plain=false)
  (h:∀ h' es' t',J2 a s.heap h'->es'.toList.Perm es.toList->t'.mask=sizeAbove n-1->t'.dummies=#[]->Inc t'.place->(∀ z∈t'.place.toList.zip es'.toList,Led t'.mask t'.place.toList z)->BSet prog w h' a es' (ep+1) t'->Q () { s with heap:=h' }):wpAny (model prog w) A (setRelay a n) Q E s:=by
 refine W_ fun n9=>?_;obtain⟨o,ho,hex,hd⟩:=x.obj
 obtain⟨t',order,e,m,d,ps,ld,p,hp',hinc,hled⟩:=Z6p (t:=t) (es:=es) hk hl;apply n9;clear n9
 have op:=Z6G es hp'
 have os:(order.filterMap (es[·]?)).size=es.size:=by rw[<- Zh,op.length_eq,Zh]
 unfold setRelay
 refine Z0 (Yj ho hd x.fits ?_)
 dsimp only
 rw[if_neg (by lia)]
 rw[e]
 refine Z0 ?_
 wp_delta
 dsimp only
 rw[if_neg (by rw[os];simp)]
 refine Z4 ?_
 refine Z7K x (by rw[os];exact x.few) ?_ ld (p.trans pl) fun h' sb B=>h h' _ _ sb op m d hinc hled B
 unfold QC Z1y
 rw[os,ps,d,m]
 simp
 lia
theorem Z0F.there(P:Z0F prog w h a es ep t vs kss)(hk:kx∈kss):∃ m0 i0 c0,t.slot (pr t.mask (tupleKeyHash (ZT prog w) kx) m0).j=.live i0/\es[i0]?=some (tupleKeyHash (ZT prog w) kx,.ref c0)/\TupK prog w h kx c0 /\
  ∀ m',m'<m0->(pr t.mask (tupleKeyHash (ZT prog w) kx) m').j∈t.place.toList:=by
 refine W_ fun n9=>?_;obtain⟨c,mc,tc⟩:=P.tups.has kx hk
 obtain⟨e,me,he⟩:=Zu.mp (P.perm.mem_iff.mpr mc)
 obtain⟨i,hi,ei⟩:=YT me
 rw[Zh] at hi
 have hh:=P.hsh e me c kx he tc
 have hpl:i<t.place.size:=by rw[P.psize];exact hi
 have hz:(t.place[i],e)∈t.place.toList.zip es.toList:=by
  rw[List.mem_iff_getElem]
  refine⟨i,by simp;lia,?_⟩
  rw[List.getElem_zip,ei]
  simp
 obtain⟨m,h1,h2⟩:=P.led _ hz;apply n9;clear n9
 dsimp only at h1 h2
 rw[hh] at h1 h2
 refine⟨m,i,c,?_,?_,tc,h2⟩
 ·rw[<- h1]
  exact Z7O P.inc (Zz hpl)
 ·rw[Zz hi]
  obtain⟨eh,ev⟩:=e
  dsimp only at he hh
  rw[<- hh,<- he]
  simpa using ei
theorem Zfa {k:Str}{ks:Ls_}{x:Addr}{Q:Bool->Shared->Prop}(hu:A.units<cLine)(P:Z0F prog w s.heap a es ep t vs kss)(few:es.size<1000)(tx:TupK prog w s.heap (k::ks) x)
  (h:∀ h' b es' ep' t',J2 a s.heap h'->Z0F prog w h' a es' ep' t' (if k::ks∈kss then vs else vs++[.ref x]) (if k::ks∈kss then kss else kss++[k::ks])->Q b { s with heap:=h',toks:=s.toks+((k::ks).length+1) }):wpAny (model prog w) A (setAdd a (.ref x)) Q E s:=by
 unfold setAdd
 refine Jx (Z0 (wpAny_pyHash_tuple hu tx ?_))
 have P':Z0F prog w ({ s with toks:=s.toks+((k::ks).length+1) }:Shared).heap a es ep t vs kss:=P
 have tx':TupK prog w ({ s with toks:=s.toks+((k::ks).length+1) }:Shared).heap (k::ks) x:=tx
 have h':∀ h' b es' ep' t',J2 a ({ s with toks:=s.toks+((k::ks).length+1) }:Shared).heap h'->Z0F prog w h' a es' ep' t' (if k::ks∈kss then vs else vs++[.ref x]) (if k::ks∈kss then kss else kss++[k::ks])->Q b { ({ s with toks:=s.toks+((k::ks).length+1) }:Shared) with heap:=h' }:=h
 generalize ({ s with toks:=s.toks+((k::ks).length+1) }:Shared)=s1 at P' tx' h' ⊢
 clear h tx P
 refine W_ fun n9=>?_;obtain⟨o,ho,hex,hd⟩:=P'.b.obj;apply n9;clear n9
 unfold setAddHashed setAddHashedIn
 refine Jx (Z0 (Yj ho hd P'.b.fits ?_))
 dsimp only
 rw[if_neg (by simp[byScan,Value.scannable])]
 refine Z0 ?_
 refine W_ fun n9=>?_;obtain⟨kk,hkk⟩:=P'.pow
 obtain⟨n0,n1,n2⟩:=Z9q hkk P'.dum P'.roomy (tupleKeyHash (ZT prog w) (k::ks));apply n9;clear n9
 unfold setSearch
 refine Z08 hu P' tx' (fun new m hemp hprev=>?_) (fun hold=>?_) 100000 0 n0 none rfl ?_ n1 (by rw[JA];exact n2) (fun m' z=>absurd z (Ya _)) fun hk=>?_
 ·rw[if_neg new,if_neg new] at h'
  dsimp only
  refine Z0 (Yj ho hd P'.b.fits ?_)
  dsimp only
  generalize hhx:tupleKeyHash (ZT prog w) (k::ks)=hx at hemp hprev ⊢
  generalize hj:(pr t.mask hx m).j=j at hemp ⊢
  refine W_ fun n9=>?_;obtain⟨q1,q2,q3,q4,q5⟩:=Zg6 (t:=t) (j:=j) P'.dum;apply n9;clear n9
  have q6:=ZdQ P'.inc hemp
  have q7:(t.put j).1.place.toList=t.place.toList.take (t.put j).2++j::t.place.toList.drop (t.put j).2:=toList_insertAt ..
  generalize t.put j=tp at q1 q2 q3 q4 q5 q6 q7 ⊢
  obtain⟨t1,p⟩:=tp
  dsimp only at q1 q2 q3 q4 q5 q6 q7 ⊢
  have ps:=P'.psize
  have hp:=Z1H es p (hx,Y6 x)
  have hlst:=toList_insertAt es p (hx,Y6 x)
  rw[YQ] at hp
  generalize insertAt es p (hx,Y6 x)=es1 at hp hlst ⊢
  have sz:es1.size=es.size+1:=by simpa using hp.length_eq
  have hv:(es1.toList.map (·.2)).Perm (vs++[.ref x]):=by
   refine (hp.map _).trans ?_
   rw[YZ]
   exact P'.perm.append_right _
  have memv:∀ e∈es.toList,∃ c ks,e.2=.ref c/\TupK prog w s1.heap ks c:=fun e m=>by
   refine W_ fun n9=>?_;obtain⟨c,ks,a1,a2,-⟩:=P'.tups.mem _ (P'.perm.mem_iff.mp (MW m));apply n9;clear n9
   exact⟨c,ks,a1,a2⟩
  have tv:∀ h2,J2 a s1.heap h2->TupsAre prog w h2 (vs++[.ref x]) (kss++[k::ks]):=fun h2 sb =>
   (P'.tups.snoc tx').keep fun c ks' o' tc e=>by rw[sb.2 c (tc.ne ho hd)];exact e
  have hv2:∀ h2,J2 a s1.heap h2->∀ e∈es1.toList,∀ c ks',e.2=.ref c->TupK prog w h2 ks' c->e.1=tupleKeyHash (ZT prog w) ks':=fun h2 sb e me c ks' he tc=>by
   have kp:∀ {c ks},TupK prog w s1.heap ks c->TupK prog w h2 ks c:=fun tc=>tc.keep fun o e=>by rw[sb.2 _ (tc.ne ho hd)];exact e
   rcases ZR.mp (hp.mem_iff.mp me) with q|q
   ·refine W_ fun n9=>?_;obtain⟨c',ks0,a1,a2⟩:=memv e q;apply n9;clear n9
    rw[he] at a1
    cases a1
    rw[P'.hsh e q c ks0 he a2,tc.inj (kp a2)]
   ·rw[ZS] at q
    subst q
    cases he
    rw[tc.inj (kp tx')]
    exact hhx.symm
  have led1:∀ z∈t1.place.toList.zip es1.toList,Led t.mask t1.place.toList z:=fun z hz=>by
   rw[q7,hlst] at hz
   have up:∀ y,y∈t.place.toList->y∈t1.place.toList:=fun y hy=>by
    rw[q7]
    have:y∈t.place.toList.take p++t.place.toList.drop p:=by rw[Zp];exact hy
    rcases ZR.mp this with z|z
    ·exact Js _ z
    ·exact Zs _ (Z2 _ z)
   rcases Z6e p _ _ _ _ (by simpa using ps) z hz with rfl|hz
   ·exact⟨m,hj.symm,fun m' hm'=>up _ (hprev m' hm')⟩
   ·refine W_ fun n9=>?_;obtain⟨m2,b1,b2⟩:=P'.led z hz;apply n9;clear n9
    exact⟨m2,b1,fun m' hm'=>up _ (b2 m' hm')⟩
  have tail:∀ t2:SetTable,t2.dummies=#[]->t2.place=t1.place->t2.mask=t.mask->t2.led=t.led->t2.plain=false ->
    wpAny (model prog w) A (do
     storeSet a es1 t2
     if (!false&&t2.tooFull)=true then do
       setRelay a (grown (es.size+1))
       pure true
      else pure true) Q E s1:=by
   intro t2 r1 r2 r3 r4 r5
   have rm:=P'.room
   have r2':t2.place.size=es.size+1:=by rw[r2,q2,ps]
   have f2:t2.fits es1.size=true:=by
    unfold QC Z1y
    rw[r1,r2',r3,sz]
    simp
    lia
   have full:t2.tooFull=decide ((es.size+1)*5 >= t.mask*3):=by
    unfold SetTable.tooFull Z1y
    rw[r1,r2',r3]
    rfl
   refine Z0 (Z7K P'.b (by rw[sz];unfold scanBound;lia) f2 r4 r5 fun h1 sb B=>?_)
   rw[full]
   by_cases hf:(es.size+1)*5 >= t.mask*3
   ·rw[if_pos (by simpa using hf)]
    have eg:grown (es.size+1)=(es.size+1)*4:=by unfold grown;rw[if_neg (by lia)]
    rw[eg]
    refine W_ fun n9=>?_;obtain⟨k2,p1,p2,p3,p4⟩:=Z9X (n:=(es.size+1)*4) (by lia)
    apply n9;clear n9
    refine Z0 (Z0W (k:=k2) B p1 p3 (by lia) r5 fun h2 es2 t3 sb2 pp m2 d2 i2 l2 B2=>Z4 ?_)
    have s2:es2.size=es.size+1:=by have:=pp.length_eq;simp at this;lia
    refine h' h2 _ _ _ _ (sb.trans sb2) ⟨B2,d2,⟨k2,by rw[m2];have:=Z1K k2;lia⟩,by rw[m2,s2];lia,by rw[m2];lia,i2,l2,(pp.map _).trans hv,tv h2 (sb.trans sb2),fun e me=>hv2 h2 (sb.trans sb2) e (pp.mem_iff.mp me)⟩
   ·rw[if_neg (by simpa using hf)]
    refine Z4 (h' h1 _ _ _ _ sb ⟨B,r1,by rw[r3];exact P'.pow,by rw[r3,sz];exact MC ‹_›,by rw[r3];exact P'.low,by rw[r2];exact q6,by rw[r2,r3];exact led1,hv,tv h1 sb,hv2 h1 sb⟩)
  by_cases hpl:t1.plain=true
  ·rw[if_pos hpl]
   refine Z0 (Z74 tx' ?_)
   simp only[Zv,if_false]
   exact tail _ q1 rfl q3 q4 rfl
  ·rw[if_neg hpl]
   refine Z0 (Z4 ?_)
   simp only[if_true]
   exact tail t1 q1 rfl q3 q4 (by simpa using hpl)
 ·refine Z4 ?_
  rw[if_pos hold,if_pos hold] at h'
  exact h' s1.heap _ _ _ _ (Dk a s1.heap) P'
 ·have:=P'.low
  unfold turns at n1
  lia
 ·refine W_ fun n9=>?_;obtain⟨m0,i0,c0,h1,h2,h3,h4⟩:=P'.there hk;apply n9;clear n9
  exact⟨m0,i0,c0,Jh _,h1,h2,h3,h4⟩
end
end Sg
namespace Sg
open PySem PyProof.Rows
noncomputable def Z78 {α:Type}[DecidableEq α](D:List α)(x:α):List α:=if x∈D then D else D++[x]
noncomputable def metG {α:Type}[DecidableEq α](l:List α):List α:=l.foldl Z78 []
theorem Z77 {α:Type}[DecidableEq α]{D:List α}(h:D.Nodup)(x:α):(Z78 D x).Nodup:=by
 unfold Z78
 split
 ·exact h
 ·rename_i n
  refine M2.mpr ⟨h,by simp,fun a ha b hb=>?_⟩
  rw[ZS] at hb
  subst hb
  exact fun z=>n (z ▸ ha)
theorem ZbI {α:Type}[DecidableEq α]{D:List α}{x y:α}:y∈Z78 D x↔y∈D\/y=x:=by
 unfold Z78
 split
 ·rename_i hm
  exact⟨.inl,fun z=>z.elim id fun e=>e ▸ hm⟩
 ·simp
theorem FA[DecidableEq α]:∀ (l D:List α),D.Nodup->(l.foldl Z78 D).Nodup/\(∀ y,y∈l.foldl Z78 D↔y∈D\/y∈l)/\(l.foldl Z78 D).length<=D.length+l.length
 |[],D,h=>⟨h,fun y=>by simp,by simp⟩
 |x::l,D,h=>by
  have ih:=FA l (Z78 D x) (Z77 h x)
  refine⟨ih.1,fun y=>?_,?_⟩
  ·rw[U0,ih.2.1,ZbI,Zc,or_assoc]
  ·have z:(Z78 D x).length<=D.length+1:=by unfold Z78;split <;> simp
   have:=ih.2.2
   rw[U0,Zf]
   lia
theorem metG_nodup[DecidableEq α](l:List α):(metG l).Nodup:=(FA l [] YU).1
theorem mem_metG {α:Type}[DecidableEq α]{l:List α}{y:α}:y∈metG l↔y∈l:=by
 have:=(FA l [] YU).2.1 y
 simpa [metG] using this
theorem metG_len[DecidableEq α](l:List α):(metG l).length<=l.length:=by
 have:=(FA l [] YU).2.2
 simpa [metG] using this
theorem Z8W[DecidableEq α](l:List α)(x:α):metG (l++[x])=Z78 (metG l) x:=by
 unfold metG;rw[Zcv];rfl
section
variable {prog:Program}{w:World}{A:Around}{R:Result->Shared->Prop}
def Zfj (prog:Program)(w:World)(h:Heap)(a:Addr)(its:Lu_)(kss:List (Ls_)):Prop:=∃ es ep t vs,Z0F prog w h a es ep t vs kss/\∀ v∈vs,v∈its
theorem Z0F.keep(x:Z0F prog w h a es ep t vs kss)(k:∀ b o,(b=a\/∃ ks,TupK prog w h ks b)->h.get? b=some o->h'.get? b=some o):Z0F prog w h' a es ep t vs kss :=
 ⟨x.b.keep fun o e=>k a o (.inl rfl) e,x.dum,x.pow,x.room,x.low,x.inc,x.led,x.perm,x.tups.keep fun c ks o tc e=>k c o (.inr ⟨ks,tc⟩) e,fun e me c ks he tc=>by
  refine W_ fun n9=>?_;obtain⟨c',ks0,a1,a2,-⟩:=x.tups.mem _ (x.perm.mem_iff.mp (MW me));apply n9;clear n9
  rw[he] at a1
  cases a1
  have:TupK prog w h' ks0 c:=a2.keep fun o e=>k c o (.inr ⟨ks0,a2⟩) e
  rw[x.hsh e me c ks0 he a2,tc.inj this]⟩
theorem TupK.noLIter(x:TupK prog w h ks c)(it:h.IsListIter I l i):c≠I:=by
 rintro rfl
 obtain⟨o,its,n,e,e2,-⟩:=x
 obtain⟨o',e',c2,-⟩:=it
 rw[e] at e'
 cases e'
 rw[e2] at c2
 revert c2
 decide
theorem Zc5 {I l S:Addr}{items:Au_}{kss:List (Ls_)}(hu:A.units+1<cLine)(hh:A.in1.handled=none)(hlI:l≠I)(hSI:S≠I)(hSl:S≠l)(few:kss.length<=900) :
  ∀ (k i:Nat) (s:Shared),kss.length-i=k->i<=kss.length->s.heap.IsListIter I l i->s.heap.IsList l items->TupsAre prog w s.heap items.toList kss->Zfj prog w s.heap S items.toList (metG (kss.take i)) ->
   (∀ h' tk,(∀ b o,b≠S->b≠I->s.heap.get? b=some o->h'.get? b=some o)->Zfj prog w h' S items.toList (metG kss)->R (.ok (.ret .none)) { s with heap:=h',toks:=tk }) ->
   codeAny (model prog w) A (.builtin "set.update.loop" ⟨[.ref S,.ref I],[]⟩) R s:=by
 have W:=Z3j (prog:=prog) (w:=w) (A:=A.in1) hh I l hlI items
 intro k
 induction k with
 |zero =>
  intro i s hk hi it hl tp T hR
  have e:i=kss.length:=by lia
  subst e
  have hlen:=tp.len
  rw[Zh] at hlen
  rw[N9] at T
  refine Ju YV ?_
  rw[ZZ JK _]
  show wpAny _ A.in1 (pyNext (.ref I)>>=_) _ _ s
  refine Z0 (W.done s _ _ (by rw[hlen];exact⟨it,hl⟩) fun h' tk kp=>?_)
  show wpAny _ A.in1 (ret YE) _ _ _
  refine W_ fun n9=>?_;obtain⟨es,ep,t,vs,T,hvs⟩:=T;apply n9;clear n9
  refine Z4 (hR h' tk (fun b o _ hb e=>kp b o (by simp[hb]) e) ⟨es,ep,t,vs,T.keep fun b o hb e=>kp b o ?_ e,hvs⟩)
  rcases hb with rfl|⟨ks,tb⟩
  ·simp[hSI]
  ·simp[tb.noLIter it]
 |succ k ih =>
  intro i s hk hi it hl tp T hR
  have hlt:i<kss.length:=by lia
  have hlen:=tp.len
  rw[Zh] at hlen
  refine Ju YV ?_
  rw[ZZ JK _]
  show wpAny _ A.in1 (pyNext (.ref I)>>=_) _ _ s
  refine Z0 (W.item i s _ _ (by lia) ⟨it,hl⟩ fun v h1 tk1 hv st1 kp=>?_)
  refine W_ fun n9=>?_;obtain⟨it1,hl1⟩:=st1
  have ext1:∀ b o,b≠I->s.heap.get? b=some o->h1.get? b=some o:=fun b o hb e=>kp b o (by simp[hb]) e
  have tp1:TupsAre prog w h1 items.toList kss:=tp.keep fun c ks o tc e=>ext1 c o (tc.noLIter it) e
  obtain⟨c,k0,ks0,hc,hks,tc⟩:=tp1.at i hlt;apply n9;clear n9
  have hmem:Y6 c∈items.toList:=ZJ hc
  rw[ZQ,hv] at hc
  cases hc
  show wpAny _ A.in1 (holding [Y6 c] (setAdd S (.ref c))>>=_) _ _ _
  refine W_ fun n9=>?_;obtain⟨es,ep,t,vs,T,hvs⟩:=T;apply n9;clear n9
  have T1:Z0F prog w h1 S es ep t vs (metG (kss.take i)):=T.keep fun b o hb e=>by
   rcases hb with rfl|⟨ks,tb⟩
   ·exact ext1 b o hSI e
   ·exact ext1 b o (tb.noLIter it) e
  have hsz:es.size<=i:=by
   have h3:=T1.perm.length_eq
   rw[Z5,Zh,T1.tups.len] at h3
   have h4:=metG_len (kss.take i)
   rw[Zx] at h4
   lia
  refine Z0 (Jx (Zfa (s:={ s with heap:=h1,toks:=tk1 }) hu T1 (by lia) tc fun h2 b es2 ep2 t2 sb T2=>?_))
  have e4:(if k0::ks0∈metG (kss.take i) then metG (kss.take i) else metG (kss.take i)++[k0::ks0])=metG (kss.take (i+1)):=by
   rw[Z3q,Zd hlt,hks]
   show _=metG (kss.take i++[k0::ks0])
   rw[Z8W]
   unfold Z78
   by_cases hm:k0::ks0∈metG (kss.take i)
   ·rw[if_pos hm,if_pos hm]
   ·rw[if_neg hm,if_neg hm]
  rw[e4] at T2
  refine W_ fun n9=>?_;obtain⟨oS,hoS,-,hdS⟩:=T1.b.obj;apply n9;clear n9
  have x2:∀ b o,b≠S->h1.get? b=some o->h2.get? b=some o:=fun b o hb e=>by rw[sb.2 b hb];exact e
  refine Z4 ⟨Yk JK _,ih (i+1) { s with heap:=h2,toks:=_ } (by lia) hlt
   (it1.at fun o e=>x2 I o (Gx hSI) e) (hl1.at fun o e=>x2 l o (Gx hSl) e) (tp1.keep fun c' ks o tc' e=>x2 c' o (tc'.ne hoS hdS) e) ⟨_,_,_,_,T2,fun v hv=>?_⟩ fun h3 tk3 kp3 T3=>?_⟩
  ·split at hv
   ·exact hvs v hv
   ·rcases ZR.mp hv with q|q
    ·exact hvs v q
    ·rw[ZS] at q
     rw[q]
     exact hmem
  ·exact hR h3 tk3 (fun b o hb hb2 e=>kp3 b o hb hb2 (x2 b o hb (ext1 b o hb2 e))) T3
end
section
variable {prog:Program}{w:World}{A:Around}{E:Ps_}{s:Shared}
theorem call_set_any {l:Addr}{items:Au_}{kss:List (Ls_)}{Q:Ps_}(hu:A.units+8<cLine)(hh:A.handled=none)(hl:s.heap.IsList l items)(tp:TupsAre prog w s.heap items.toList kss)(few:kss.length<=900)
  (h:∀ (h':Heap) (tk:Nat),Zfj prog w h' s.heap.objs.size items.toList (metG kss)->(∀ b o,s.heap.get? b=some o->h'.get? b=some o)->Q (.ref s.heap.objs.size) { s with heap:=h',toks:=tk }) :
  wpAny (model prog w) A (call (.type "set") [.ref l]) Q E s:=by
 have hl1:(s.heap.push (Mx w)).IsList l items:=hl.push _
 have tp1:TupsAre prog w (s.heap.push (Mx w)) items.toList kss:=tp.keep fun c ks o tc e=>Z3 _ e
 refine W_ fun n9=>?_;obtain⟨⟨ocls,odict,odata,oslots⟩,hol,cl,nl,dl⟩:=hl;apply n9;clear n9
 simp only at cl dl
 subst cl;subst dl
 refine DR hol Zj8 Zcz (by decide) (fun A' E' Q' hA hA2 hQ=>WP hl1 (Wp ?_)) h
 have ls:l<s.heap.objs.size:=Zy hol
 have zs:(s.heap.push (Mx w)).objs.size=s.heap.objs.size+1:=N3 ..
 refine Zc5 (by lia) (by simp[hA,hh]) (by rw[zs];exact ZE (Yg ls)) (by rw[zs];exact ZE (Ua _)) (G5 ls) few (kss.length-0) 0 _ rfl (Jh _)
  ⟨_,Zl _ rfl,rfl,rfl⟩ (hl1.push _) (tp1.keep fun c ks o tc e=>Z3 _ e) ?t0 fun h' tk kp T=>hQ h' tk T fun b o e=>?fin
 case t0 =>
  exact⟨#[],0,_,[],⟨⟨⟨_,Z3 _ (Zl _ rfl),⟨rfl,rfl,rfl⟩,rfl⟩,by decide,rfl,rfl,.inl rfl⟩,rfl,⟨3,rfl⟩,(by show 0<21;decide),(by show 7<9000;decide),U1,(fun z hz=>by cases hz),Uv _,.nil,(fun e me=>by cases me)⟩,fun v hv=>by cases hv⟩
 case fin =>
  have hb:b<s.heap.objs.size:=Zy e
  exact kp b o (ZE hb) (by rw[zs];exact ZE (Yg hb)) (Z3 _ (Z3 _ e))
end
end Sg
namespace Sg
open PySem PyProof.Rows
def RawD (h:Heap)(a:Addr)(es:Array Fi)(ep:Nat):Prop:=∃ o,h.get? a=some o/\o.ExactDict/\o.data=.dict es ep
theorem RawD.keep(x:RawD h a es ep)(k:∀ o,h.get? a=some o->h'.get? a=some o):RawD h' a es ep:=let ⟨o,e,r⟩:=x;⟨o,k o e,r⟩
section
variable {prog:Program}{w:World}{A:Around}{E:Ps_}{s:Shared}{d it:Addr}{es:Array Fi}{ep i:Nat}
theorem RawD.ty (x:RawD s.heap d es ep):s.TypeIs (.ref d) "dict":=let ⟨o,e,c,_⟩:=x;⟨o,e,c.1⟩
theorem ZbX {Q:Ps_}(hd:(d == sysModules)=false)(x:RawD s.heap d es ep)
  (h:Q (.ref s.heap.objs.size) { s with heap:=s.heap.push { cls:=.type "dict_keyiterator",data:=.fields #[.ref d,.int 0 0,.int es.size 0,.int ep 0] } }):wpAny (model prog w) A (pyIter (.ref d)) Q E s:=by
 have ty:=x.ty
 refine W_ fun n9=>?_;obtain⟨o,e1,e2,e3⟩:=x;apply n9;clear n9
 refine Z1E ty Zhv (Yh Zhv ty F.entry_dict_iter ?_ (F.args_dict_iter_1 _))
 unfold Builtin.«dict.__iter__» Builtin.Dict.dictSlotNone Builtin.Dict.showsAll
 refine Z0 (Z0 (wpAny_notOrdered_dict ty (Z4 ?_)))
 refine Z0 (m:=Builtin.Dict.addrOf (.ref d)) (Z4 ?_)
 dsimp only
 rw[hd,if_neg Jy]
 refine Z0 (Z4 (Z0 (ZhF e1 e3 (Z0 (Zjc e1 e3 ?_)))))
 exact Z0 (Jq (Z4 ⟨_,rfl,"dict_keyiterator",_,⟨_,Zl _ rfl,rfl⟩,Q1.lookup,h⟩))
theorem Z5t(hh:A.handled=none)(ht:s.heap.IsKeyIter it d i es.size ep)(x:RawD s.heap d es ep)
  (h1:∀ e,es[i]?=some e->∀ h',h'.IsKeyIter it d (i+1) es.size ep->J2 it s.heap h'->Q (some e.key) { s with heap:=h' })
  (h2:es[i]?=none->∀ h',Wl it s.heap h'->Q none { s with heap:=h' }):wpAny (model prog w) A (pyNext (.ref it)) Q E s:=by
 have ti:=ht.typeIs
 refine W_ fun n9=>?_;obtain⟨o,ho,hc,hd⟩:=id ht
 obtain⟨od,e1,-,e3⟩:=x;apply n9;clear n9
 have no:Builtin.Dict_items.ownsTuple "dict_keyiterator"=false:=by decide
 unfold pyNext
 refine Z0 (Do (YH (name:=Zq "__next__") ti Q1 (Yh Q1 ti F.entry_dict_keyiterator_next ?_ (F.args_dict_keyiterator_next_1 _))))
 refine Z0 (Z4 (Z0 (Z0 ?_)))
 refine Z0 (Q0 ti (Z4 (Z0 (Z7i ho hd ?_))))
 simp only[no,Zv,if_false]
 show wpAny _ _ (if (Y6 d == YE)=true then _ else _) _ _ s
 rw[if_neg (by exact Jy)]
 refine Z0 (Z4 (Z0 (ZhF e1 e3 ?_)))
 rw[if_neg (by simp)]
 refine Z0 (Z4 (Z0 (Zjc e1 e3 ?_)))
 rw[if_neg (by simp)]
 refine Z4 ?_
 have ni:¬ ((i:Int)<0):=by lia
 cases hi:es[i]? with
 |none =>
  simp only[ni,if_false,JT,hi]
  refine Z0 (Z0 (Q0 ti (Z4 ?_)))
  show wpAny _ _ (setField (.ref it) 0 .none>>=_) _ _ s
  refine Z0 (Us ho hd (by simp) ?_)
  exact Z0Q (s:=s) hh (JF ..).extBut rfl (h2 hi)
 |some e =>
  simp only[ni,if_false,JT,hi]
  refine Z0 (Z0 (Q0 ti (Z4 (Z0 (ZcD ti ?_)))))
  show wpAny _ _ (setField (.ref it) 1 (rawInt ((i:Int)+1))>>=_) _ _ s
  refine Z0 (Us ho hd (by simp) ?_)
  have ht':(s.heap.update it (ZhT (·.setIfInBounds 1 (rawInt ((i:Int)+1))))).IsKeyIter it d (i+1) es.size ep :=
   ⟨_,Y9 _ ho (Mk (U7 hd _)),(W6 ..).trans hc,by rw[U7 hd];simp[rawInt]⟩
  refine Z0 (Jx (Z0 (ZcD (s:={ s with heap:=_ }) ht'.typeIs ?_)))
  show wpAny _ _ (pure e.key) _ _ _
  exact Z4 (Z4 ⟨_,rfl,Z4 (h1 e hi _ ht' (JF ..))⟩)
end
theorem ZbV {h h':Heap}{it d:Addr}{i n ep:Nat}(x:h.IsKeyIter it d i n ep)(k:∀ o,h.get? it=some o->h'.get? it=some o):h'.IsKeyIter it d i n ep:=let ⟨o,e,r⟩:=x;⟨o,k o e,r⟩
section
variable {prog:Program}{w:World}{A:Around}
theorem Zat (hh:A.handled=none)(I d:Addr)(hne:d≠I)(es:Array Fi)(ep:Nat) :
  Walks prog w A I [I,d] [I] es.size (fun i v=>∃ e,es[i]?=some e/\e.key=v) (fun i h=>h.IsKeyIter I d i es.size ep/\RawD h d es ep) where
 sub:=fun b hb=>by simp at hb;simp[hb]
 frame:=fun _ _ _ st hk=>⟨ZbV st.1 fun o e=>hk I (by simp) o e,st.2.keep fun o e=>hk d (by simp) o e⟩
 item:=fun i s Q E hi st hQ=>Z5t hh st.1 st.2 (fun e he h' t' sb=>hQ _ h' s.toks ⟨e,he,rfl⟩ ⟨t',st.2.keep fun o q=>sb.extBut d o hne q⟩ fun b o hb q=>sb.extBut b o (fun z=>hb (by simp[z])) q)
  fun z=>absurd z (by simp[hi])
 done:=fun s Q E st hQ=>Z5t hh st.1 st.2 (fun e he=>absurd he (by simp)) fun _ h' x=>hQ h' s.toks fun b o hb q=>x b o (fun z=>hb (by simp[z])) q
 self:=fun _ _ _ _ st hQ=>wpAny_pyIter_keyiter st.1 hQ
theorem src_raw (lo:(d == sysModules)=false):PySem.W.KdlSrc prog w "dict" d d es.size (fun i v=>∃ e,es[i]?=some e/\e.key=v) (fun h=>RawD h d es ep) where
 type:=fun _ x=>x.ty
 there:=fun _ x=>let ⟨_,e,_⟩:=x;⟨Zy e,Zy e⟩
 keep:=fun _ _ x k=>x.keep fun o e=>k d (.inl rfl) o e
 notList:=by decide
 notTuple:=by decide
 hint:=fun _ _ _ _ x q=>PySem.W.kdl_hint_dict x.ty q
 iter:=fun _ _ hh x=>⟨_,_,(fun _ _ q=>ZbX lo x q),Zat hh _ d (ZE (let ⟨_,e,_⟩:=x;Zy e)) es ep,⟨⟨_,Zl _ rfl,rfl,rfl⟩,x.keep fun o e=>Z3 _ e⟩⟩
end
end Sg
namespace L2
open PySem PySem.Spec PyProof.Rows
inductive leT:Th->Th->Prop where
 |s {a b:Str} (h:leS a b):leT (.str a) (.str b)
 |ii {a b c d:Int} (h:a<c\/(a=c/\b<=d)):leT (.tup [.int a,.int b]) (.tup [.int c,.int d])
 |ss {a b c d:Str} (h:(leS a c/\a≠c)\/(a=c/\leS b d)):leT (.tup [.str a,.str b]) (.tup [.str c,.str d])
theorem ZbR(h1:leT x y)(h2:leT y x):x=y:=by
 cases h1 with
 |s h=>cases h2 with|s h'=>rw[WF h h']
 |@ii a b c d h=>cases h2 with
  |ii h' =>
   have e1:a=c:=by lia
   have e2:b=d:=by lia
   rw[e1,e2]
 |ss h=>cases h2 with
  |ss h' =>
   rcases h with ⟨q,n⟩|⟨e,q⟩
   ·rcases h' with ⟨q2,n2⟩|⟨e2,q2⟩
    ·exact absurd (WF q q2) n
    ·exact absurd e2.symm n
   ·subst e
    rcases h' with ⟨q2,n2⟩|⟨e2,q2⟩
    ·exact absurd rfl n2
    ·rw[WF q q2]
theorem WS:∀ {a b:Lt_},a.Perm b->a.Pairwise leT->b.Pairwise leT->a=b
 |[],b,p,_,_=>by rw[Zhu.mp p]
 |x::a,[],p,_,_=>absurd p.length_eq (by simp)
 |x::a,y::b,p,ha,hb=>by
  have hxy:x=y:=by
   have h1:x∈y::b:=p.mem_iff.mp Z1
   have h2:y∈x::a:=p.mem_iff.mpr Z1
   rcases Zc.mp h1 with h1|h1
   ·exact h1
   ·rcases Zc.mp h2 with h2|h2
    ·exact h2.symm
    ·exact ZbR ((Yn.mp ha).1 y h2) ((Yn.mp hb).1 x h1)
  subst hxy
  rw[WS p.cons_inv (Yn.mp ha).2 (Yn.mp hb).2]
open Classical in
noncomputable def W8 (ts:Lt_):Lt_:=if h:∃ r:Lt_,r.Perm ts/\r.Pairwise leT then h.choose else []
theorem Dx(hp:r.Perm ts)(hs:r.Pairwise leT):W8 ts=r:=by
 have h:∃ r:Lt_,r.Perm ts/\r.Pairwise leT:=⟨r,hp,hs⟩
 unfold W8
 rw[dif_pos h]
 exact WS (h.choose_spec.1.trans hp.symm) h.choose_spec.2 hs
inductive Sk where|s|ii|ss
noncomputable def isIn:Th->Bool
 |.int _=>true
 |_=>false
noncomputable def Zdd:Th->Bool
 |.str _=>true
 |_=>false
noncomputable def ZeU (f:Th->Bool):Th->Bool
 |.tup [a,b]=>f a&&f b
 |_=>false
noncomputable def okK:Sk->Th->Bool
 |.s,t=>Zdd t
 |.ii,t=>ZeU isIn t
 |.ss,t=>ZeU Zdd t
theorem Z4e(h:isIn t=true):∃ i,t=.int i:=by
 cases t <;> first|exact⟨_,rfl⟩|cases h
theorem Cf(h:Zdd t=true):∃ i,t=.str i:=by
 cases t <;> first|exact⟨_,rfl⟩|cases h
theorem Z5D(h:ZeU f t=true):∃ a b,t=.tup [a,b]/\f a=true/\f b=true:=by
 cases t with
 |tup l =>
  cases l with
  |nil=>cases h
  |cons a l=>cases l with
   |nil=>cases h
   |cons b l=>cases l with
    |nil=>exact⟨a,b,rfl,(ZP _ _ ▸ h:_/\_).1,(ZP _ _ ▸ h:_/\_).2⟩
    |cons=>cases h
 |_=>cases h
noncomputable def okT (ts:Lt_):Bool:=ts.all (okK .s)||ts.all (okK .ii)||ts.all (okK .ss)
noncomputable def nuV:Value->V
 |.none=>.non
 |.bool b=>.bl b
 |.int i _=>.int i
 |.str x _=>.str x
 |.bytes b _=>.byt b
 |.float b _=>.flt b
 |.ref a=>.ref a
 |.type n=>.ty n
 |_=>.non
theorem Zd4(r:RelV v u):nuV u=v:=by
 cases v <;> (first|(obtain⟨t,rfl⟩:=r;rfl)|(cases r;rfl))
theorem Zdu:∀ {ys:Lv_} {us:Lu_},Uh ys us->ys=us.map nuV:=by
 intro ys us h
 induction h with
 |nil=>rfl
 |cons r t ih=>rw[Zw,Zd4 r,<- ih]
theorem Z4U:∀ {ys:Lv_} {us:Lu_},Uh ys us->∀ u∈us,RelV (nuV u) u:=by
 intro ys us h
 induction h with
 |nil=>intro u h;cases h
 |cons r t ih =>
  intro u h
  rcases Zc.mp h with rfl|h
  ·rw[Zd4 r];exact r
  ·exact ih u h
theorem D2:∀ {us:Lu_},(∀ u∈us,RelV (nuV u) u)->Uh (us.map nuV) us
 |[],_=>.nil
 |u::us,h=>.cons (h u Z1) (D2 fun u m=>h u (Z2 _ m))
theorem FT {us out:Lu_}{ys:Lv_}{ts:Lt_}(r:Uh ys us)(θ:Value->Th)(aV:us.map θ=ts)(hp:out.Perm us)(hpw:out.Pairwise fun a b=>leT (θ a) (θ b)) :
  ∃ zs:List (V×Th),zs.Perm (ys.zip ts)/\Uh (zs.map (·.1)) out/\zs.map (·.2)=W8 ts:=by
 refine⟨out.map fun u=>(nuV u,θ u),?_,?_,?_⟩
 ·have e:ys.zip ts=us.map fun u=>(nuV u,θ u):=by
   rw[Zdu r,<- aV,List.zip_map']
  rw[e]
  exact hp.map _
 ·rw[J1]
  exact D2 fun u m=>Z4U r u (hp.mem_iff.mp m)
 ·rw[J1]
  refine (Dx ?_ (YS.mpr hpw)).symm
  rw[<- aV]
  exact hp.map _
theorem Cv {K:Fg_}{H:Hp}:∀ {ys:Lv_} {ts:Lt_},ZX K H ys ts->∀ z∈ys.zip ts,JG K H z.1 z.2:=by
 intro ys ts
 induction ts generalizing ys with
 |nil=>intro b z h;cases b;cases h
 |cons t ts ih=>intro b z h;cases b with
  |cons b r =>
   rw[NF] at h
   rcases Zc.mp h with rfl|h
   ·exact b
   ·exact ih r z h
theorem MQ {K:Fg_}{H:Hp}:∀ {zs:List (V×Th)},(∀ z∈zs,JG K H z.1 z.2)->ZX K H (zs.map (·.1)) (zs.map (·.2))
 |[],_=>.nil
 |z::zs,h=>.cons (h z Z1) (MQ fun z m=>h z (Z2 _ m))
theorem Zh2 {x1 x2 y1 y2:Int}(h:(decide (y1<x1)||(!decide (x1<y1)&&decide (y2<x2)))=false):leT (.tup [.int x1,.int x2]) (.tup [.int y1,.int y2]):=by
 refine .ii ?_
 simp only[MF,Dl,Fs,decide_eq_false_iff_not,decide_eq_true_eq] at h
 lia
theorem Zh0 {x1 x2 y1 y2:List Nat}(h:(decide (y1<x1)||(!decide (x1<y1)&&decide (y2<x2)))=false):leT (.tup [.str ⟨x1.toArray⟩,.str ⟨x2.toArray⟩]) (.tup [.str ⟨y1.toArray⟩,.str ⟨y2.toArray⟩]):=by
 refine .ss ?_
 simp only[MF,Dl,Fs,decide_eq_false_iff_not,decide_eq_true_eq] at h
 obtain⟨a1,a2⟩:=h
 have le1:x1<=y1:=Nn.mp a1
 by_cases q:x1<y1
 ·refine .inl ⟨le1,fun z=>?_⟩
  have z':x1=y1:=congrArg (fun s:Str=>s.cps.toList) z
  rw[z'] at q
  exact QJ _ q
 ·have e:x1=y1:=CY le1 (Nn.mp q)
  rw[e]
  exact .inr ⟨rfl,a2.elim (fun z=>absurd z q) fun z=>Nn.mp z⟩
theorem ZgN(h:okK .ii t=true):∃ i j,t=.tup [.int i,.int j]:=by
 obtain⟨a,b,rfl,ha,hb⟩:=Z5D h
 obtain⟨i,rfl⟩:=Z4e ha
 obtain⟨j,rfl⟩:=Z4e hb
 exact⟨i,j,rfl⟩
theorem Z5p(h:okK .ss t=true):∃ i j,t=.tup [.str i,.str j]:=by
 obtain⟨a,b,rfl,ha,hb⟩:=Z5D h
 obtain⟨i,rfl⟩:=Cf ha
 obtain⟨j,rfl⟩:=Cf hb
 exact⟨i,j,rfl⟩
noncomputable def ZhM (h:Heap)(u:Value):Th:=let k:=Sg.pairKey Sg.intAtom Sg.intAtom h u;.tup [.int (show Int from k.1),.int (show Int from k.2)]
noncomputable def ZhL (h:Heap)(u:Value):Th:=let k:=Sg.pairKey Sg.strAtom Sg.strAtom h u;.tup [.str ⟨Qn (show List Nat from k.1)⟩,.str ⟨Qn (show List Nat from k.2)⟩]
section
variable {X:Cx}{K:Fg_}{e:Expr}{es:Le_}{fs:FL}{p pos:Pos}{pins:Pn_}{σ:St}{H:Hp}{s:Shared}
theorem Z3S (I:Inv X pins σ H s){Y Z:Sg.Atom}{v:V}{u:Value}{x y:Th}{k:Y.O.α}{l:Z.O.α}(b:JG X.K H v (.tup [x,y]))(r:RelV v u)(hy:∀ v u,JG X.K H v x->RelV v u->Y.keyOf u=some k)(hz:∀ v u,JG X.K H v y->RelV v u->Z.keyOf u=some l){h:Heap}(hX:Sg.Ext s.heap h):Sg.IsPair Y Z h u (k,l):=by
 cases b with
 |tup e' b' =>
  refine W_ fun n9=>?_;obtain⟨v1,v2,rfl,w1,w2⟩:=b'.two;apply n9;clear n9
  cases r
  refine W_ fun n9=>?_;obtain⟨its,rv,⟨o,ho,hc,n,hd⟩,-⟩:=I.tuple e';apply n9;clear n9
  cases rv with
  |cons q1 rv=>cases rv with
   |cons q2 rv =>
    cases rv
    exact⟨_,o,_,_,n,rfl,hX _ _ ho,hc,hd,hy _ _ w1 q1,hz _ _ w2 q2⟩
theorem ZeR(b:JG K H v (.int i))(r:RelV v u):Sg.intAtom.keyOf u=some i:=by
 cases b
 obtain⟨t,rfl⟩:=r
 rfl
theorem ZeQ(b:JG K H v (.str i))(r:RelV v u):Sg.strAtom.keyOf u=some i.cps.toList:=by
 cases b
 obtain⟨t,rfl⟩:=r
 rfl
theorem Zeq (I:Inv X pins σ H s)(b:JG X.K H v (.tup [.int i,.int j]))(r:RelV v u)(hX:Sg.Ext s.heap h):Sg.IsPair Sg.intAtom Sg.intAtom h u ((i:Int),(j:Int)):=Z3S I b r (fun _ _=>ZeR) (fun _ _=>ZeR) hX
theorem Zep (I:Inv X pins σ H s)(b:JG X.K H v (.tup [.str i,.str j]))(r:RelV v u)(hX:Sg.Ext s.heap h):Sg.IsPair Sg.strAtom Sg.strAtom h u (i.cps.toList,j.cps.toList):=Z3S I b r (fun _ _=>ZeQ) (fun _ _=>ZeQ) hX
theorem Bc (I:Inv X pins σ H s){ys:Lv_}{ts:Lt_}{us:Lu_}(b:ZX X.K H ys ts)(r:Uh ys us)(hk:okT ts=true)(h:Heap)(hX:Sg.Ext s.heap h) :
  ∃ (O:KeyOrd) (key:Keyed->O.α) (G:Keyed->Prop) (kd:N8) (θ:Value->Th),Sg.Sorts X.prog X.w h us O key G kd/\us.map θ=ts /\
   ∀ a∈us,∀ c∈us,O.kle (key (a,a)) (key (c,c))->leT (θ a) (θ c):=by
 unfold okT at hk
 rw[Ys,Ys] at hk
 rcases hk with (hk|hk)|hk
 ·obtain⟨ss,hs⟩:∃ ss,Mn ts=some ss:=by
   clear b
   induction ts with
   |nil=>exact⟨[],rfl⟩
   |cons t ts ih =>
    rw[Uj,ZP] at hk
    obtain⟨ss,e⟩:=ih hk.2
    cases t with
    |str x=>exact⟨x::ss,by unfold Mn;rw[e];rfl⟩
    |_=>cases hk.1
  have hS:=Z0P hs b r
  refine⟨_,_,_,_,fun u=>.str (strOf u),Sg.sorts_strs h hS,?_,fun a ha c hc hle=>?_⟩
  ·have e1:=hS.strs
   have e2:∀ {ts:Lt_} {ss:Ls_},Mn ts=some ss->ts=ss.map Th.str:=by
    intro ts
    induction ts with
    |nil=>intro ss e;cases e;rfl
    |cons t ts ih =>
     intro ss e
     cases t with
     |str x =>
      unfold Mn at e
      cases h2:Mn ts with
      |none=>rw[h2] at e;cases e
      |some ss'=>rw[h2] at e;cases e;rw[Zw,<- ih h2]
     |_=>cases e
   rw[e2 hs,<- e1,J1]
   rfl
  ·obtain⟨x,t,rfl⟩:=hS.all a ha
   obtain⟨y,t',rfl⟩:=hS.all c hc
   exact .s (Nn.mp (of_decide_eq_false hle))
 ·have pr:∀ (ys:Lv_) (ts:Lt_) (us:Lu_),ZX X.K H ys ts->Uh ys us->ts.all (okK .ii)=true ->
    (∀ u∈us,∃ k,Sg.IsPair Sg.intAtom Sg.intAtom h u k)/\us.map (ZhM h)=ts:=by
   intro ys ts us b r hk
   induction ts generalizing ys us with
   |nil=>cases b;cases r;exact⟨fun u m=>absurd m (by simp),rfl⟩
   |cons t ts ih =>
    cases b with
    |cons b1 b2=>cases r with
     |cons r1 r2 =>
      rw[Uj,ZP] at hk
      obtain⟨i1,i2⟩:=ih _ _ b2 r2 hk.2
      obtain⟨i,j,rfl⟩:=ZgN hk.1
      have q:=Zeq I b1 r1 hX
      refine⟨fun u m=>?_,?_⟩
      ·rcases Zc.mp m with rfl|m
       ·exact⟨_,q⟩
       ·exact i1 u m
      ·rw[Zw,i2]
       unfold ZhM
       rw[Sg.pairKey_of q]
  obtain⟨h1,h2⟩:=pr _ _ _ b r hk
  refine⟨_,_,_,_,ZhM h,Sg.sorts_pairs Sg.intAtom Sg.intAtom h h1,h2,fun a ha c hc hle=>?_⟩
  have hle:(Sg.lexOrd Sg.intOrd Sg.intOrd).blt (Sg.pairKey Sg.intAtom Sg.intAtom h c) (Sg.pairKey Sg.intAtom Sg.intAtom h a)=false:=hle
  unfold ZhM
  generalize Sg.pairKey Sg.intAtom Sg.intAtom h a=x at hle
  generalize Sg.pairKey Sg.intAtom Sg.intAtom h c=y at hle
  obtain⟨x1,x2⟩:=x
  obtain⟨y1,y2⟩:=y
  exact @Zh2 x1 x2 y1 y2 hle
 ·have pr:∀ (ys:Lv_) (ts:Lt_) (us:Lu_),ZX X.K H ys ts->Uh ys us->ts.all (okK .ss)=true ->
    (∀ u∈us,∃ k,Sg.IsPair Sg.strAtom Sg.strAtom h u k)/\us.map (ZhL h)=ts:=by
   intro ys ts us b r hk
   induction ts generalizing ys us with
   |nil=>cases b;cases r;exact⟨fun u m=>absurd m (by simp),rfl⟩
   |cons t ts ih =>
    cases b with
    |cons b1 b2=>cases r with
     |cons r1 r2 =>
      rw[Uj,ZP] at hk
      obtain⟨i1,i2⟩:=ih _ _ b2 r2 hk.2
      obtain⟨i,j,rfl⟩:=Z5p hk.1
      have q:=Zep I b1 r1 hX
      refine⟨fun u m=>?_,?_⟩
      ·rcases Zc.mp m with rfl|m
       ·exact⟨_,q⟩
       ·exact i1 u m
      ·rw[Zw,i2]
       unfold ZhL
       rw[Sg.pairKey_of q]
  obtain⟨h1,h2⟩:=pr _ _ _ b r hk
  refine⟨_,_,_,_,ZhL h,Sg.sorts_pairs Sg.strAtom Sg.strAtom h h1,h2,fun a ha c hc hle=>?_⟩
  have hle:(Sg.lexOrd strKind.toKeyOrd strKind.toKeyOrd).blt (Sg.pairKey Sg.strAtom Sg.strAtom h c) (Sg.pairKey Sg.strAtom Sg.strAtom h a)=false:=hle
  unfold ZhL
  generalize Sg.pairKey Sg.strAtom Sg.strAtom h a=x at hle
  generalize Sg.pairKey Sg.strAtom Sg.strAtom h c=y at hle
  obtain⟨x1,x2⟩:=x
  obtain⟨y1,y2⟩:=y
  exact @Zh0 x1 x2 y1 y2 hle
theorem Inv.moved(I:Inv X pins σ H s)(ho:s'.os=s.os)(hg:s'.gens=s.gens)(k:Sg.Ext s.heap s'.heap):Inv X pins σ H s':=by
 obtain⟨h',g',d',t',o'⟩:=s'
 cases hg
 cases ho
 have I':=I.kept (h':=h') (t':=t') k
 exact⟨I'.ok,I'.os,I'.bare,I'.base,I'.loc,I'.cell,I'.free,I'.freeC,I'.pin,I'.hok,I'.len⟩
def ZfU (K:Fg_):Lv_->Hp->VK->Prop:=fun xs H Q=>∃ p ys ts,xs=[.ref p]/\SqL K H p ys/\ZX K H ys ts/\okT ts=true /\
 ∀ q (zs:List (V×Th)),H q=none->zs.Perm (ys.zip ts)->zs.map (·.2)=W8 ts->Q (.ref q) (upd H q (.lst (zs.map (·.1))))
theorem Z72:QL X (.builtin "sorted") (ZfU X.K):=by
 intro pins s σ H xs us Q I r h
 refine W_ fun n9=>?_;obtain⟨p,ys,ts,rfl,hs,b,hk,q⟩:=h
 obtain⟨u,rfl,ru⟩:=vals1 r;apply n9;clear n9
 cases ru
 refine W_ fun n9=>?_;obtain⟨its,r',pl,hz⟩:=I.list hs;apply n9;clear n9
 have hi:=pl.isList
 have hlen:its.length<=sizeLine:=by rw[<- r'.length];exact hz
 refine Sg.sorted_any fun A' hA=>collect_list hi ?_ hlen
 refine⟨hlen,?_⟩
 have hX:Sg.Ext s.heap ((s.heap.push (seqObj "list" #[] 0)).update s.heap.objs.size (Yz (·++its.toArray))):=fun b o e=>by
  rw[JJ _ _ _ _ (ZE (Zy e))]
  exact Z3 _ e
 refine W_ fun n9=>?_;obtain⟨O,key,G,kd,θ,S,aV,hle⟩:=Bc I b r' hk _ hX;apply n9;clear n9
 refine⟨O,key,G,kd,S,fun out h' ep a1 a2 a3 a4=>?_⟩
 refine W_ fun n9=>?_;obtain⟨zs,z1,z2,z3⟩:=FT r' θ aV a1 (YN (fun {a c} ha hc hac=>hle a (a1.mem_iff.mp ha) c (a1.mem_iff.mp hc) hac) a2);apply n9;clear n9
 have hzs:((s.heap.push (seqObj "list" #[] 0)).update s.heap.objs.size (Yz (·++its.toArray))).objs.size=s.heap.objs.size+1:=by rw[My,WT]
 dsimp only at a3 a4 ⊢
 rw[hzs] at a4 ⊢
 refine⟨.ref (s.heap.objs.size+1),upd H (s.heap.objs.size+1) (.lst (zs.map (·.1))),I.laid (t':=s.toks) (fun b u e=>a3 b u (hX b u e)) (Ym _) ?_,rfl,q _ zs (I.hok.fresh (Ym _)) z1 z3⟩
 refine⟨?_,out,ep,z2,a4⟩
 rw[z2.length,a1.length_eq]
 exact hlen
noncomputable def Z5r:Lt_->Option (Lt_)
 |[.lst ts]=>if okT ts=true then some (W8 ts) else none
 |_=>none
noncomputable def Z2T (fs:FL):FL:=fun d=>(fs d).bind Z5r
theorem ZaZ (hg:Gl X "sorted") (hm:X.mg "sorted"=none) (ha:PBA X (e::es) fs)
  (he:starEach (e::es) X.env=(false,eval e X.env)::starEach es X.env) (hpl:(backTo pos (starEach es X.env)).any (·.1)=false):PF X (.Call (.Name "sorted" p) (e::es) [] pos) (Z2T fs) :=
 PE.imp (WB Z72 hg hm (by rfl) ha (by decide) (by decide) he hpl) fun σ H Q z_=>by
  obtain⟨O,d,T,R,e,q⟩:=z_
  unfold Z2T at e
  cases hf:fs d with
  |none=>rw[hf] at e;cases e
  |some Ts =>
   rw[hf] at e
   change Z5r Ts=_ at e
   unfold Z5r at e
   split at e
   ·rename_i ts
    split at e
    ·rename_i hk
     cases e
     refine⟨O,d,_,R,hf,fun vs H1 s1 b1=>?_⟩
     obtain⟨u,rfl,bu⟩:=NZ b1
     obtain⟨a,xs,rfl,h1,b2⟩:=bu.lst
     refine⟨a,xs,ts,rfl,h1,b2.mono (Jt _ _),hk,fun q' zs hq z1 z2=>?_⟩
     refine q _ _ (s1.trans (Jl.upd hq)) ⟨q',_,rfl,s1.free hq,JL,?_⟩
     rw[<- z2]
     refine MQ fun z m=>?_
     exact (Cv b2 z (z1.mem_iff.mp m)).mono (Qw (Jl.upd hq) hq)
    ·cases e
   ·cases e
noncomputable abbrev ZdF (X:Cx)(a:Addr)(D:Ls_):HO:=.ext fun h=>Sg.TSetD X.prog X.w h a D
def Zik (X:Cx):Lv_->Hp->VK->Prop:=fun xs H Q=>∃ p ys ts ss,xs=[.ref p]/\SqL X.K H p ys/\ZX X.K H ys ts/\Mn ts=some ss/\ss.length<4000/\∀ q,H q=none->Q (.ref q) (upd H q (ZdF X q (Sg.metS ss)))
theorem Z9K (hc:X.calm=true):QL X (.type "set") (Zik X):=by
 intro pins s σ H xs us Q I r h
 refine W_ fun n9=>?_;obtain⟨p,ys,ts,ss,rfl,hs,b,e,hl,q⟩:=h
 obtain⟨u,rfl,ru⟩:=vals1 r;apply n9;clear n9
 cases ru
 refine W_ fun n9=>?_;obtain⟨its,r',hi⟩:=Gn I hs;apply n9;clear n9
 have hS:=Z0P e b r'
 refine Sg.call_set_texts (I.ok.hd hc) hi hS (ZG (Nat.succ_lt_succ hl) (by decide)) fun h' tk T kp=>?_
 refine⟨.ref s.heap.objs.size,upd H s.heap.objs.size (ZdF X s.heap.objs.size (Sg.metS ss)),I.laid (t':=tk) kp (Z7 _) ?_,rfl,q _ (I.hok.fresh (Z7 _))⟩
 refine⟨T,?_,fun h1 h2 z k=>z.keep k⟩
 refine W_ fun n9=>?_;obtain⟨es,ep,t,T',-⟩:=T
 obtain⟨o,ho,-⟩:=T'.obj;apply n9;clear n9
 exact⟨o,ho⟩
def ZaJ (X:Cx):Lv_->Hp->VK->Prop:=fun xs H Q=>∃ p D,xs=[.ref p]/\H p=some (ZdF X p D)/\∀ q,H q=none->Q (.ref q) (upd H q (.lst ((Ma D).map V.str)))
theorem Z7C(h:ElemsOf (ZT prog w) l):StrsAre (l.map (·.2)) (l.map fun e=>Sg.txtOf e.2):=by
 induction l with
 |nil=>exact .nil
 |cons e l ih =>
  obtain⟨u,eq⟩:=Sg.el_txt h e Z1
  rw[Zw,Zw]
  generalize hx:Sg.txtOf e.2=x at eq ⊢
  rw[eq]
  exact .cons x u (ih fun z m=>h z (Z2 _ m))
theorem FR {vs us:Lu_}{ss:Ls_}(h:StrsAre us ss)(hp:vs.Perm us):StrsAre vs (vs.map strOf)/\(vs.map strOf).Perm ss:=by
 refine⟨strsAre_map vs fun v m=>h.all v (hp.mem_iff.mp m),?_⟩
 rw[<- h.strs]
 exact hp.map _
theorem Z34 (hc:X.calm=true):QL X (.builtin "sorted") (ZaJ X):=by
 intro pins s σ H xs us Q I r h
 refine W_ fun n9=>?_;obtain⟨p,D,rfl,hH,q⟩:=h
 obtain⟨u,rfl,ru⟩:=vals1 r;apply n9;clear n9
 cases ru
 refine W_ fun n9=>?_;obtain⟨⟨es,ep,t,T,hD⟩,-,-⟩:=I.hok p _ hH;apply n9;clear n9
 have hes:StrsAre (es.toList.map (·.2)) (Sg.txts es):=Z7C T.el
 refine Sg.sorted_any fun A' hA=>Sg.collect_set (hA.trans (I.ok.hd hc)) T.b fun s1 vs x1 g1 o1 hp=>?_
 obtain⟨v1,v2⟩:=FR hes hp
 have hlen:vs.length<=sizeLine:=by
  rw[hp.length_eq,Z5,Zh]
  exact N7 T.few
 refine⟨hlen,_,_,_,_,Sg.sorts_strs s1.heap v1,fun out h' e a1 a2 a3 a4=>?_⟩
 obtain⟨w1,w2⟩:=FR v1 a1
 have hs:Ma D=out.map strOf:=by
  refine Fu ((w2.trans v2).trans hD) (YS.mpr (YN (fun {a c} ha hc hac=>?_) a2))
  obtain⟨x,t,rfl⟩:=w1.all a ha
  obtain⟨y,t',rfl⟩:=w1.all c hc
  exact Nn.mp (of_decide_eq_false hac)
 have I1:Inv X pins σ H s1:=I.moved o1 g1 x1
 refine⟨.ref s1.heap.objs.size,upd H s1.heap.objs.size (.lst ((Ma D).map V.str)),I1.laid (t':=s1.toks) a3 (Z7 _) ?_,rfl,q _ (I1.hok.fresh (Z7 _))⟩
 refine⟨?_,out,e,?_,a4⟩
 ·rw[Z5,hs,Z5,a1.length_eq]
  exact hlen
 ·rw[hs]
  exact Z1W w1
noncomputable def Fx:Lt_->Option (Lt_)
 |[.lst ts]=>(Mn ts).bind fun ss=>if ss.length<4000 then some ((Ma (Sg.metS ss)).map Th.str) else none
 |_=>none
noncomputable def Nj (fs:FL):FL:=fun d=>(fs d).bind Fx
theorem Z6w (hc:X.calm=true) (hg:Gl X "sorted") (hm:X.mg "sorted"=none) (hg2:Gl X "set") (hm2:X.mg "set"=none) (ha:PBA X (e::es) fs)
  (he:starEach (e::es) X.env=(false,eval e X.env)::starEach es X.env) (hpl:(backTo pos2 (starEach es X.env)).any (·.1)=false)
  (he2:starEach [.Call (.Name "set" p2) (e::es) [] pos2] X.env=(false,eval (.Call (.Name "set" p2) (e::es) [] pos2) X.env)::starEach [] X.env) (hpl2:(backTo pos (starEach ([]:Le_) X.env)).any (·.1)=false) :
  PF X (.Call (.Name "sorted" p) [.Call (.Name "set" p2) (e::es) [] pos2] [] pos) (Nj fs) :=
 PE.imp (WB (Z34 hc) hg hm (by rfl) (M0 (C5 (Z9K hc) hg2 hm2 (by rfl) ha (by decide) (by decide) he hpl) Wc he2) (by decide) (by decide) he2 hpl2) fun σ H Q z_=>by
  refine W_ fun n9=>?_;obtain⟨O,d,T,R,e,q⟩:=z_;apply n9;clear n9
  unfold Nj at e
  cases hf:fs d with
  |none=>rw[hf] at e;cases e
  |some Ts =>
   rw[hf] at e
   change Fx Ts=_ at e
   unfold Fx at e
   split at e
   ·rename_i ts
    cases hy:Mn ts with
    |none=>rw[hy] at e;cases e
    |some ss =>
     rw[hy] at e
     change (if ss.length<4000 then _ else _)=_ at e
     split at e
     ·rename_i hl
      cases e
      refine⟨O,d,_,R,hf,fun vs H1 s1 b1=>?_⟩
      refine W_ fun n9=>?_;obtain⟨u,rfl,bu⟩:=NZ b1
      obtain⟨a,xs,rfl,h1,b2⟩:=bu.lst;apply n9;clear n9
      refine⟨a,xs,ts,ss,rfl,h1,b2.mono (Jt _ _),hy,hl,fun q1 hq1=>?_⟩
      refine⟨q1,Sg.metS ss,rfl,JL,fun q2 hq2=>?_⟩
      have n2:q2≠q1:=fun z=>by rw[z,JL] at hq2;cases hq2
      have hq2':H1 q2=none:=by rw[UA n2] at hq2;exact hq2
      refine q _ _ ((s1.trans (Jl.upd hq1)).trans (Jl.upd hq2)) ⟨q2,_,rfl,s1.free hq2',JL,Z0w _⟩
     ·cases e
   ·cases e
end
noncomputable def Zfn:Th->List Str
 |.tup [.str a,.str b]=>[a,b]
 |_=>[]
theorem Bd(h:ts'.Perm ts):W8 ts'=W8 ts:=by
 by_cases hx:∃ r:Lt_,r.Perm ts/\r.Pairwise leT
 ·obtain⟨r,h1,h2⟩:=hx
  rw[Dx h1 h2,Dx (h1.trans h.symm) h2]
 ·have hy:¬ ∃ r:Lt_,r.Perm ts'/\r.Pairwise leT:=fun ⟨r,h1,h2⟩=>hx ⟨r,h1.trans h,h2⟩
  unfold W8
  rw[dif_neg hx,dif_neg hy]
section
variable {X:Cx}{K:Fg_}{e:Expr}{es:Le_}{fs:FL}{p pos:Pos}{pins:Pn_}{σ:St}{H:Hp}{s:Shared}
theorem Z0N (I:Inv X pins σ H s):∀ {ts:Lt_} {ys:Lv_} {us:Lu_},ts.all (okK .ss)=true->ZX X.K H ys ts->Uh ys us->Sg.TupsAre X.prog X.w s.heap us (ts.map Zfn)
 |[],_,_,_,b,r=>by cases b;cases r;exact .nil
 |t::ts,_,_,h,b,r=>by
  rw[Uj,ZP] at h
  cases b with
  |cons b1 b2=>cases r with
   |cons r1 r2 =>
    refine W_ fun n9=>?_;obtain⟨i,j,rfl⟩:=Z5p h.1;apply n9;clear n9
    cases b1 with
    |tup e' b' =>
     refine W_ fun n9=>?_;obtain⟨v1,v2,rfl,w1,w2⟩:=b'.two;apply n9;clear n9
     cases r1
     cases w1
     cases w2
     refine W_ fun n9=>?_;obtain⟨its,rv,⟨o,ho,hc,n,hd⟩,-⟩:=I.tuple e';apply n9;clear n9
     cases rv with
     |cons q1 rv=>cases rv with
      |cons q2 rv =>
       cases rv
       refine W_ fun n9=>?_;obtain⟨t1,rfl⟩:=q1
       obtain⟨t2,rfl⟩:=q2;apply n9;clear n9
       refine .cons ⟨o,_,n,ho,hc,hd,.cons ?_ (.cons ?_ .nil)⟩ (Z0N I h.2 b2 r2)
       ·show UC i (.str i t1)=true
        simp[UC]
       ·show UC j (.str j t2)=true
        simp[UC]
theorem Z6x {vs us:Lu_}(hp:vs.Perm us):∀ {ys:Lv_} {ts:Lt_},Uh ys us->ZX K H ys ts->∃ ys' ts',Uh ys' vs/\ZX K H ys' ts'/\ts'.Perm ts/\(ys'.zip ts').Perm (ys.zip ts):=by
 induction hp with
 |nil=>intro ys ts r b;exact⟨ys,ts,r,b,.refl _,.refl _⟩
 |cons x _ ih =>
  intro ys ts r b
  cases r with
  |cons r1 r2=>cases b with
   |cons b1 b2 =>
    refine W_ fun n9=>?_;obtain⟨ys',ts',h1,h2,h3,h4⟩:=ih r2 b2;apply n9;clear n9
    exact⟨_::ys',_::ts',.cons r1 h1,.cons b1 h2,h3.cons _,h4.cons _⟩
 |swap x y l =>
  intro ys ts r b
  cases r with
  |cons r1 r=>cases r with
   |cons r2 r=>cases b with
    |cons b1 b=>cases b with
     |cons b2 b=>exact⟨_,_,.cons r2 (.cons r1 r),.cons b2 (.cons b1 b),.swap _ _ _,.swap _ _ _⟩
 |trans _ _ ih1 ih2 =>
  intro ys ts r b
  refine W_ fun n9=>?_;obtain⟨ys1,ts1,h1,h2,h3,h4⟩:=ih2 r b
  obtain⟨ys2,ts2,g1,g2,g3,g4⟩:=ih1 h1 h2;apply n9;clear n9
  exact⟨ys2,ts2,g1,g2,g3.trans h3,g4.trans h4⟩
noncomputable abbrev ZdE (X:Cx)(a:Addr)(us:Lu_):HO:=.ext fun h=>∃ es ep t,Sg.BSet X.prog X.w h a es ep t/\(es.toList.map (·.2)).Perm us
def Z7Z (X:Cx):Lv_->Hp->VK->Prop:=fun xs H Q=>∃ p us ys ts,xs=[.ref p]/\H p=some (ZdE X p us)/\Uh ys us/\ZX X.K H ys ts/\ts.all (okK .ss)=true /\
 ∀ q (zs:List (V×Th)),H q=none->zs.Perm (ys.zip ts)->zs.map (·.2)=W8 ts->Q (.ref q) (upd H q (.lst (zs.map (·.1))))
theorem Z1t (hc:X.calm=true):QL X (.builtin "sorted") (Z7Z X):=by
 intro pins s σ H xs us Q I r h
 refine W_ fun n9=>?_;obtain⟨p,us,ys,ts,rfl,hH,r',b,hk,q⟩:=h
 obtain⟨u,rfl,ru⟩:=vals1 r;apply n9;clear n9
 cases ru
 refine W_ fun n9=>?_;obtain⟨⟨es,ep,t,T,hD⟩,-,-⟩:=I.hok p _ hH;apply n9;clear n9
 refine Sg.sorted_any fun A' hA=>Sg.collect_set (hA.trans (I.ok.hd hc)) T fun s1 vs x1 g1 o1 hp=>?_
 refine W_ fun n9=>?_;obtain⟨ys',ts',h1,h2,h3,h4⟩:=Z6x (hp.trans hD) r' b
 have hlen:vs.length<=sizeLine:=by
  rw[hp.length_eq,Z5,Zh]
  exact N7 T.few
 have hk':okT ts'=true:=by
  have:ts'.all (okK .ss)=true:=U8.mpr fun t m=>U8.mp hk t (h3.mem_iff.mp m)
  unfold okT
  rw[this,Zi4]
 obtain⟨O,key,G,kd,θ,S,aV,hle⟩:=Bc I h2 h1 hk' s1.heap x1;apply n9;clear n9
 refine⟨hlen,O,key,G,kd,S,fun out h' e a1 a2 a3 a4=>?_⟩
 refine W_ fun n9=>?_;obtain⟨zs,z1,z2,z3⟩:=FT h1 θ aV a1 (YN (fun {a c} ha hc hac=>hle a (a1.mem_iff.mp ha) c (a1.mem_iff.mp hc) hac) a2);apply n9;clear n9
 have I1:Inv X pins σ H s1:=I.moved o1 g1 x1
 refine⟨.ref s1.heap.objs.size,upd H s1.heap.objs.size (.lst (zs.map (·.1))),I1.laid (t':=s1.toks) a3 (Z7 _) ?_,rfl,q _ zs (I1.hok.fresh (Z7 _)) (z1.trans h4) (z3.trans (Bd h3))⟩
 refine⟨?_,out,e,z2,a4⟩
 rw[z2.length,a1.length_eq]
 exact hlen
end
noncomputable def unP:List Str->Th
 |[a,b]=>.tup [.str a,.str b]
 |_=>.non
section
variable {X:Cx}{K:Fg_}{e:Expr}{es:Le_}{fs:FL}{p pos:Pos}{pins:Pn_}{σ:St}{H:Hp}{s:Shared}
theorem Z2z (I:Inv X pins σ H s)(sg:Jl G H):∀ {ts:Lt_} {ys:Lv_} {us:Lu_},ts.all (okK .ss)=true->ZX X.K G ys ts->Uh ys us->∀ c,Y6 c∈us->∃ i j,Sg.TupK X.prog X.w s.heap [i,j] c/\JG X.K G (.ref c) (.tup [.str i,.str j])
 |[],_,_,_,b,r,c,h=>by cases b;cases r;cases h
 |t::ts,_,_,h,b,r,c,hc=>by
  rw[Uj,ZP] at h
  cases b with
  |cons b1 b2=>cases r with
   |cons r1 r2 =>
    rcases Zc.mp hc with q|q
    ·refine W_ fun n9=>?_;obtain⟨i,j,rfl⟩:=Z5p h.1;apply n9;clear n9
     have tr:=Z0N I (ts:=[.tup [.str i,.str j]]) (by rw[Uj,h.1];rfl) (.cons (b1.mono sg) .nil) (.cons r1 .nil)
     rw[<- q] at tr
     cases tr with
     |cons tk _ =>
      refine⟨i,j,tk,?_⟩
      cases b1 with
      |tup e' b' =>
       cases r1
       cases q
       exact .tup e' b'
    ·exact Z2z I sg h.2 b2 r2 c q
theorem Z6m (I:Inv X pins σ H s){G:Hp}(sg:Jl G H){h':Heap}{ts:Lt_}{ys:Lv_}{us:Lu_}(ha:ts.all (okK .ss)=true)(b:ZX X.K G ys ts)(r:Uh ys us)(kp:∀ b o,s.heap.get? b=some o->h'.get? b=some o){vs:Lu_}{kss:List (Ls_)}
  (T:Sg.TupsAre X.prog X.w h' vs kss) (hv:∀ v∈vs,v∈us):∃ ys',Uh ys' vs/\ZX X.K G ys' (kss.map unP):=by
 induction T with
 |nil=>exact⟨[],.nil,.nil⟩
 |@cons c k ks vs kss tk _ ih =>
  refine W_ fun n9=>?_;obtain⟨ys',h1,h2⟩:=ih fun v m=>hv v (Z2 _ m)
  obtain⟨i,j,tk2,bb⟩:=Z2z I sg ha b r c (hv _ Z1);apply n9;clear n9
  have e:=tk.inj (tk2.keep fun o e=>kp _ _ e)
  rw[e]
  exact⟨.ref c::ys',.cons rfl h1,.cons bb h2⟩
theorem Zf8 {ts:Lt_}(h:ts.all (okK .ss)=true):((Sg.metG (ts.map Zfn)).map unP).all (okK .ss)=true:=by
 rw[U8] at h ⊢
 intro x hx
 obtain⟨k,hk,rfl⟩:=Zu.mp hx
 obtain⟨t,ht,rfl⟩:=Zu.mp (Sg.mem_metG.mp hk)
 obtain⟨i,j,rfl⟩:=Z5p (h t ht)
 rfl
def ZfW (X:Cx):Lv_->Hp->VK->Prop:=fun xs H Q=>∃ p ys ts G,xs=[.ref p]/\Jl G H/\SqL X.K H p ys/\ZX X.K G ys ts/\ts.all (okK .ss)=true/\ts.length<=900/\∀ q us ys',H q=none->Uh ys' us->ZX X.K G ys' ((Sg.metG (ts.map Zfn)).map unP)->Q (.ref q) (upd H q (ZdE X q us))
theorem Z73 (hu:X.A.units+64<cLine) (hc:X.calm=true):QL X (.type "set") (ZfW X):=by
 intro pins s σ H xs us Q I r h
 refine W_ fun n9=>?_;obtain⟨p,ys,ts,G,rfl,sg,hs,b,hk,hl,q⟩:=h
 obtain⟨u,rfl,ru⟩:=vals1 r;apply n9;clear n9
 cases ru
 refine W_ fun n9=>?_;obtain⟨its,r',hi⟩:=Gn I hs;apply n9;clear n9
 refine Sg.call_set_any (NQ (Zak (by decide) _) hu) (I.ok.hd hc) hi (Z0N I hk (b.mono sg) r') (by rw[Z5];exact hl) fun h' tk T kp=>?_
 refine W_ fun n9=>?_;obtain⟨es,ep,t,vs,T,hvs⟩:=T
 obtain⟨ys',h1,h2⟩:=Z6m I sg hk b r' kp T.tups hvs;apply n9;clear n9
 refine⟨.ref s.heap.objs.size,upd H s.heap.objs.size (ZdE X s.heap.objs.size vs),I.laid (t':=tk) kp (Z7 _) ?_,rfl,q _ _ ys' (I.hok.fresh (Z7 _)) h1 h2⟩
 refine⟨⟨es,ep,t,T.b,T.perm⟩,?_,fun h1 h2 ⟨es,ep,t,B,z⟩ k=>⟨es,ep,t,B.keep k,z⟩⟩
 refine W_ fun n9=>?_;obtain⟨o,ho,-⟩:=T.b.obj;apply n9;clear n9
 exact⟨o,ho⟩
noncomputable def DB:Lt_->Option (Lt_)
 |[.lst ts]=>if ts.all (okK .ss)=true/\ts.length<=900 then some (W8 ((Sg.metG (ts.map Zfn)).map unP)) else none
 |_=>none
noncomputable def Wf (fs:FL):FL:=fun d=>(fs d).bind DB
theorem Z3O (hr:Nm k X.A) (hc:X.calm=true) (hg:Gl X "sorted") (hm:X.mg "sorted"=none) (hg2:Gl X "set") (hm2:X.mg "set"=none) (ha:PBA X (e::es) fs)
  (he:starEach (e::es) X.env=(false,eval e X.env)::starEach es X.env) (hpl:(backTo pos2 (starEach es X.env)).any (·.1)=false)
  (he2:starEach [.Call (.Name "set" p2) (e::es) [] pos2] X.env=(false,eval (.Call (.Name "set" p2) (e::es) [] pos2) X.env)::starEach [] X.env) (hpl2:(backTo pos (starEach ([]:Le_) X.env)).any (·.1)=false) :
  PF X (.Call (.Name "sorted" p) [.Call (.Name "set" p2) (e::es) [] pos2] [] pos) (Wf fs) :=
 PE.imp (WB (Z1t hc) hg hm (by rfl) (M0 (C5 (Z73 hr.units hc) hg2 hm2 (by rfl) ha (by decide) (by decide) he hpl) Wc he2) (by decide) (by decide) he2 hpl2) fun σ H Q hh=>by
  refine W_ fun n9=>?_;obtain⟨O,d,T,R,e,q⟩:=hh;apply n9;clear n9
  unfold Wf at e
  cases hf:fs d with
  |none=>rw[hf] at e;cases e
  |some Ts =>
   rw[hf] at e
   change DB Ts=_ at e
   unfold DB at e
   split at e
   ·rename_i ts
    split at e
    ·rename_i hk
     cases e
     refine⟨O,d,_,R,hf,fun vs H1 s1 b1=>?_⟩
     refine W_ fun n9=>?_;obtain⟨u,rfl,bu⟩:=NZ b1
     obtain⟨a,xs,rfl,h1,b2⟩:=bu.lst;apply n9;clear n9
     refine⟨a,xs,ts,less H1 O,rfl,Jt _ _,h1,b2,hk.1,hk.2,fun q1 us ys' hq1 r1 bb=>?_⟩
     refine⟨q1,us,ys',_,rfl,JL,r1,(bb.mono (Jt _ _)).mono (Jl.upd hq1),Zf8 hk.1,fun q2 zs hq2 z1 z2=>?_⟩
     have n2:q2≠q1:=fun z=>by rw[z,JL] at hq2;cases hq2
     have hq2':H1 q2=none:=by rw[UA n2] at hq2;exact hq2
     refine q _ _ ((s1.trans (Jl.upd hq1)).trans (Jl.upd hq2)) ⟨q2,_,rfl,s1.free hq2',JL,?_⟩
     rw[<- z2]
     refine MQ fun z m=>?_
     exact (Cv bb z (z1.mem_iff.mp m)).mono (Qw ((Jl.upd hq1).trans (Jl.upd hq2)) hq2')
    ·cases e
   ·cases e
end
section
variable {X:Cx}{K:Fg_}{o a b c e e2:Expr}{fo fa fb fc f:FD}{pos:Pos}{k:Nat}
def rM2 (g:Str->Str->Int->Option V):V->Lv_->Hp->VK->Prop:=fun x xs H Q=>∃ z y i r,x=.str z/\xs=[.str y,.int i]/\g z y i=some r/\Q r H
theorem Zfz {x y:V}{us:Lu_}(r:Uh [x,y] us):∃ u w,us=[u,w]/\RelV x u/\RelV y w:=by
 cases r with
 |cons r1 r=>cases r with
  |cons r2 r=>cases r;exact⟨_,_,rfl,r1,r2⟩
theorem ZbA:MtR X "str.find" (rM2 fun z y i=>some (.int (Dq z y i))):=by
 intro pins s σ H x xs v us Q I rx rs h
 refine W_ fun n9=>?_;obtain⟨z,y,i,r,rfl,rfl,e,q⟩:=h;apply n9;clear n9
 cases e
 refine W_ fun n9=>?_;obtain⟨t,rfl⟩:=rx
 obtain⟨u,w,rfl,ru,rw'⟩:=Zfz rs
 obtain⟨t2,rfl⟩:=ru
 obtain⟨t3,rfl⟩:=rw';apply n9;clear n9
 exact SC.find3 ⟨.int _,H,I.tok _,⟨_,rfl⟩,q⟩
noncomputable def fM2 (g:Str->Str->Int->Option Th)(fo fa fb:FD):FD:=fun d=>(fo d).bind fun x=>(fa d).bind fun y=>(fb d).bind fun i=>match x,y,i with|.str z,.str w,.int j=>g z w j|_,_,_=>none
theorem ZeK(hg:∀ z w i T,g z w i=some T->∃ v,g' z w i=some v/\∀ H,JG K H v T) :
  ∀ σ H Q,Bp K (fM2 g fo fa fb) σ H Q->tBM K "str" (rM2 g') (Z93 K fo) (Z5z K (Z6 fa (Z6 fb J7))) σ H Q:=fun σ H Q z_=>by
 refine W_ fun n9=>?_;obtain⟨O,d,T,R,e,q⟩:=z_;apply n9;clear n9
 unfold fM2 at e
 cases h1:fo d with
 |none=>rw[h1] at e;cases e
 |some x =>
  rw[h1] at e
  cases h2:fa d with
  |none=>rw[h2] at e;cases e
  |some y =>
   rw[h2] at e
   cases h3:fb d with
   |none=>rw[h3] at e;cases e
   |some i =>
    rw[h3] at e
    simp only[ob_] at e
    split at e
    ·rename_i z w j
     refine W_ fun n9=>?_;obtain⟨v,hv,bv⟩:=hg z w j T e;apply n9;clear n9
     refine⟨O,d,_,R,h1,fun v1 H1 s1 b1=>?_⟩
     rw[b1.str]
     refine⟨rfl,O,d,[.str w,.int j],R.mono s1,by unfold Z6 J7;rw[h2,h3];rfl,fun vs H2 s2 b2=>?_⟩
     refine W_ fun n9=>?_;obtain⟨u,u2,rfl,bu,bu2⟩:=Zeo b2;apply n9;clear n9
     rw[bu.str,bu2.int]
     exact⟨z,w,j,v,rfl,rfl,hv,q v H2 (s1.trans s2) (bv _)⟩
    ·cases e
theorem Zbn(ho:PB X o fo)(ha:PB X e fa)(hb:PB X e2 fb)
  (hbase:attributeBase o "find" X.env (eval o X.env)=eval o X.env)
  (hfew:((backTo cpos (starEach [e,e2] X.env)).all (fun x=>!x.1)&&(backToKw cpos (keywordEach [] X.env)).all (fun x=>x.1.isSome)&&decide ([e,e2].length+([]:List Keyword).length+(if ([]:List Keyword).isEmpty then 0 else 1)<30))=true)
  (hline:(apos.endLine == cpos.line)=true) (hs:starEach [e,e2] X.env=(false,eval e X.env)::starEach [e2] X.env) (hs2:starEach [e2] X.env=(false,eval e2 X.env)::starEach [] X.env) (hplain:(backTo cpos (starEach [e2] X.env)).any (·.1)=false) :
  PD X (.Call (.Attribute o "find" apos) [e,e2] [] cpos) (fM2 (fun z y i=>some (.int (Dq z y i))) fo fa fb) :=
 PE.imp (Zb7 Z3n Z3y Z3x ZbA ho (Fw ha (Fw hb Z3R hs2) hs) hbase hfew hline hs hplain) (ZeK fun z w i T e=>by cases e;exact⟨_,rfl,fun _=>.int _⟩)
def Zil (K:Fg_):V->Lv_->Hp->VK->Prop:=fun x vs H Q=>∃ l b xs zs,x=.ref l/\vs=[.ref b]/\H l=some (.lst xs)/\(SqL K H b zs\/SqT K H b zs)/\xs.length+zs.length<=sizeLine/\Q .non (upd H l (.lst (xs++zs)))
theorem ZeI:MtM X "list.extend" (Zil X.K):=by
 intro pins s σ H x vs v us Q I rx rv h
 refine W_ fun n9=>?_;obtain⟨l,b,xs,zs,rfl,rfl,hH,hB,hz,q⟩:=h;apply n9;clear n9
 cases rx
 refine W_ fun n9=>?_;obtain⟨u,rfl,ru⟩:=rv.one;apply n9;clear n9
 cases ru
 refine W_ fun n9=>?_;obtain⟨z,its,n,r,hl,e⟩:=I.lstM hH
 have hB':∃ (T:String) (its2:Lu_) (o:Obj) (n2:Nat),(T="list"\/T="tuple")/\Uh zs its2/\s.heap.get? b=some o/\o.cls=.type T/\o.data=.seq its2.toArray n2:=by
  rcases hB with hB|hB
  ·obtain⟨its2,r2,hi⟩:=Gn I hB
   obtain⟨o,ho,hc,n2,hd⟩:=hi
   exact⟨"list",its2,o,n2,.inl rfl,r2,ho,hc,hd⟩
  ·obtain⟨its2,r2,⟨o,ho,hc,n2,hd⟩,-⟩:=I.tuple hB
   exact⟨"tuple",its2,o,n2,.inr rfl,r2,ho,hc,hd⟩
 obtain⟨T,its2,o2,n2,hT,r2,ho2,hc2,hd2⟩:=hB';apply n9;clear n9
 have hsz:its.toArray.size+its2.toArray.size<=sizeLine:=by
  rw[Zr,Zr,<- r.length,<- r2.length]
  exact hz
 refine Yh F.slot_list_extend ⟨_,e,rfl⟩ F.entry_list_extend ?_ (F.args_list_extend_2 _ _)
 show wpAny _ _ (Yv (.ref l) (.ref b) .none) _ _ s
 unfold Yv
 refine Z0 (ML (T:=T) ⟨o2,ho2,hc2⟩ ?_)
 have hty:(MK (.ref l) (.ref b)||Yo T == Yo "list"||Yo T == Yo "tuple")=true:=by
  rcases hT with rfl|rfl
  ·have:(Yo "list" == Yo "list")=true:=by rfl
   rw[this];simp
  ·have:(Yo "tuple" == Yo "tuple")=true:=by rfl
   rw[this];simp
 rw[if_pos hty]
 refine Z0 (BU ho2 hd2 ?_)
 refine Z0 (BU e rfl ?_)
 rw[if_neg (by rw[Zby hsz,Zfw];exact Jy)]
 refine Z0 (N6 e rfl ?_ (by lia) (by show (its.toArray++its2.toArray).size<=sizeLine+1;rw[Zaq];lia))
 refine Z4 ⟨_,rfl,?_⟩
 refine⟨.non,_,I.lset (its':=its++its2) hH e (by simp) (r.append r2) ?_,rfl,q⟩
 rw[Zj]
 exact hz
noncomputable def Z24:Th->Option (Lt_)
 |.lst ts=>some ts
 |.tup ts=>some ts
 |_=>none
noncomputable def Ms (i:Nat)(f:FD):FS:=fun d=>match d[i]? with
 |some (some (.own ts))=>(f d).bind fun T=>(Z24 T).bind fun us=>if ts.length+us.length<=1000000 then some (.nx (d.set i (some (.own (ts++us))))) else none
 |_=>none
theorem Z6y (ho:PE X o (Zab i)) (he:PB X e f) (hbase:attributeBase o "extend" X.env (eval o X.env)=eval o X.env)
  (hfew:((backTo cpos (starEach [e] X.env)).all (fun x=>!x.1)&&(backToKw cpos (keywordEach [] X.env)).all (fun x=>x.1.isSome)
  &&decide (([e]:Le_).length+([]:List Keyword).length+(if ([]:List Keyword).isEmpty then 0 else 1)<30))=true)
  (hline:(apos.endLine == cpos.line)=true) (hs:starEach [e] X.env=(false,eval e X.env)::starEach [] X.env) (hplain:(backTo cpos (starEach ([]:Le_) X.env)).any (·.1)=false)
  (hsw:swapsWith (.Call (.Attribute o "extend" apos) [e] [] cpos) none pos.line X.env=pure false) :
  PDS X (.Expr (.Call (.Attribute o "extend" apos) [e] [] cpos) pos) (Ms i f) :=
 PS.imp (Z8c (Zb7 Z1J PySem.F.slot_list_extend PySem.F.type_list_extend ZeI ho (M0 he Wc hs) hbase hfew hline hs hplain) hsw) fun D σ H z_=>by
  refine W_ fun n9=>?_;obtain⟨O,d,o,R,e,q⟩:=z_;apply n9;clear n9
  unfold Ms at e
  split at e
  ·rename_i ts hd
   cases hf:f d with
   |none=>rw[hf] at e;cases e
   |some T =>
    rw[hf] at e
    cases hq:Z24 T with
    |none=>rw[show (some T).bind (fun T=>(Z24 T).bind _)=(Z24 T).bind _ from rfl,hq] at e;cases e
    |some us =>
     rw[show (some T).bind (fun T=>(Z24 T).bind _)=(Z24 T).bind _ from rfl,hq] at e
     refine W_ fun n9=>?_;obtain⟨a,xs,h1,h2,h3,h4,h5⟩:=R.own i ts hd;apply n9;clear n9
     change (if ts.length+us.length<=1000000 then _ else _)=_ at e
     split at e
     ·rename_i hz
      cases e
      refine⟨_,h2,.inl ⟨rfl,xs,SqL.of h3⟩,O,d,T,R,hf,fun v H' s b=>?_⟩
      have hb:∃ p zs,v=.ref p/\(SqL X.K H' p zs\/SqT X.K H' p zs)/\ZX X.K (less H' O) zs us:=by
       cases T with
       |lst ws =>
        cases hq
        obtain⟨p,zs,e1,e2,e3⟩:=b.lst
        exact⟨p,zs,e1,.inl e2,e3⟩
       |tup ws =>
        cases hq
        obtain⟨p,zs,e1,e2,e3⟩:=b.tup
        exact⟨p,zs,e1,.inr ((Jt _ _).seqT e2),e3⟩
       |_=>cases hq
      refine W_ fun n9=>?_;obtain⟨p,zs,rfl,hsq,hbz⟩:=hb;apply n9;clear n9
      refine⟨a,p,xs,zs,rfl,rfl,s _ _ h3,hsq,?_,?_⟩
      ·rw[h5.length,hbz.length]
       exact ZF hz (by decide)
      ·obtain⟨R',s'⟩:=(R.mono s).putL h1 h2 h4 ((h5.mono (JU s)).append hbz)
       exact q σ _ O rfl ((YM s).trans s') R'
     ·cases e
  ·cases e
end
section
variable {κ:Type}[DecidableEq κ]
noncomputable def Z7B (kvs:List (κ×V))(k:κ):Option V:=(kvs.find? fun kv=>decide (kv.1=k)).map (·.2)
noncomputable def Z3v (kvs:List (κ×V))(k:κ)(v:V):List (κ×V) :=
 if (kvs.any fun kv=>decide (kv.1=k))=true then kvs.map (fun kv=>if kv.1=k then (kv.1,v) else kv) else kvs++[(k,v)]
theorem Z4V {p:κ×V}{r:List (κ×V)}{k:κ}(e:p.1=k):Z7B (p::r) k=some p.2:=by simp[Z7B,NJ,e]
theorem Z4W {p:κ×V}{r:List (κ×V)}{k:κ}(e:¬ p.1=k):Z7B (p::r) k=Z7B r k:=by simp[Z7B,NJ,e]
theorem Z4X (k:κ):∀ kvs:List (κ×V),(kvs.any fun kv=>decide (kv.1=k))=(Z7B kvs k).isSome
 |[]=>rfl
 |p::r=>by
  rw[Wk]
  by_cases e:p.1=k
  ·simp only[Z4V e,decide_eq_true e,Bool.true_or,Option.isSome_some]
  ·rw[Z4W e,decide_eq_false e,Zhy];exact Z4X k r
theorem Cb (kvs:List (κ×V))(k:κ)(v:V):(Z3v kvs k v).length<=kvs.length+1:=by
 unfold Z3v
 split
 ·rw[Z5];exact Ym _
 ·rw[Zj,Zf,NI];exact Ua _
theorem Zhq.isSome_eq(r:Zhq o u):o.isSome=u.isSome:=by
 cases o with
 |none=>cases u with
  |none=>rfl
  |some _=>exact (show False from r).elim
 |some _=>cases u with
  |none=>exact (show False from r).elim
  |some _=>rfl
theorem KV.any(r:KV kvs vs)(k:κ):(kvs.any fun kv=>decide (kv.1=k))=vs.any fun kv=>decide (kv.1=k):=by
 unfold KV at r
 induction r with
 |nil=>rfl
 |cons h t ih=>rw[Wk,Wk,ih,h.1]
theorem KV.repl(r:KV kvs vs)(k:κ)(ry:RelV y u) :
  KV (kvs.map fun kv=>if kv.1=k then (kv.1,y) else kv) (vs.map fun kv=>if kv.1=k then (kv.1,u) else kv):=by
 unfold KV at r ⊢
 induction r with
 |nil=>exact .nil
 |@cons p q ps qs h t ih =>
  rw[Zw,Zw]
  refine .cons ?_ ih
  obtain⟨h1,h2⟩:=h
  by_cases e:p.1=k
  ·rw[if_pos e,if_pos (h1.symm.trans e)];exact⟨h1,ry⟩
  ·rw[if_neg e,if_neg (fun z=>e (h1.trans z))];exact⟨h1,h2⟩
theorem KV.put(r:KV kvs vs)(k:κ)(ry:RelV y u):KV (Z3v kvs k y) (stored vs k u):=by
 unfold Z3v stored
 rw[r.any k]
 by_cases e:(vs.any fun kv=>decide (kv.1=k))=true
 ·rw[if_pos e,if_pos e];exact r.repl k ry
 ·rw[if_neg e,if_neg e];exact Zhr r ⟨rfl,ry⟩
theorem KV.keys {kvs:List (κ×V)}{vs:List (κ×Value)}(r:KV kvs vs):kvs.map (·.1)=vs.map (·.1):=by
 unfold KV at r
 induction r with
 |nil=>rfl
 |cons h t ih=>rw[Zw,Zw,ih,h.1]
theorem KV.length {kvs:List (κ×V)}{vs:List (κ×Value)}(r:KV kvs vs):kvs.length=vs.length:=Z3o r
end
theorem Zh8(r:RelV (kV k) u):(Gm P w).is k u=true:=by
 cases k with
 |inl i=>obtain⟨t,e⟩:=(show ∃ t,u=WX i t from r);subst e;exact Z41 P w i t
 |inr x=>obtain⟨t,e⟩:=(show ∃ t,u=Ff x t from r);subst e;exact Z40 P w x t
theorem Z2C:∀ {ks:List Key} {us:Lu_},Uh (ks.map kV) us->ItemsAre (Gm P w) ks us
 |[],_,r=>by rw[Z7c] at r;cases r;exact .nil
 |k::ks,_,r=>by
  rw[Zw] at r
  cases r with
  |cons h t=>exact .cons (Zh8 h) (Z2C t)
abbrev KT (H:Hp):List (List Key×V)->List (List Key×Addr×Value)->Prop:=Paired fun p q=>p.1=q.1/\H q.2.1=some (.tup (p.1.map kV))/\RelV p.2 q.2.2
theorem KT.val(r:KT H kvs xs)(k:List Key):Zhq (Z7B kvs k) ((atKey xs k).map (·.2)):=by
 induction r with
 |nil=>exact Zco
 |@cons p q ps qs h t ih =>
  obtain⟨h1,_,h2⟩:=h
  by_cases e:p.1=k
  ·have e':q.1=k:=h1.symm.trans e
   have b:atKey (q::qs) k=some q.2:=by simp[atKey,NJ,e']
   rw[Z4V e,b];exact h2
  ·have e':¬ q.1=k:=fun z=>e (h1.trans z)
   have b:atKey (q::qs) k=atKey qs k:=by simp[atKey,NJ,e']
   rw[Z4W e,b];exact ih
theorem KT.repl(r:KT H kvs xs)(k:List Key)(ry:RelV y u) :
  KT H (kvs.map fun kv=>if kv.1=k then (kv.1,y) else kv) (xs.map (putAt k u)):=by
 induction r with
 |nil=>exact .nil
 |@cons p q ps qs h t ih =>
  rw[Zw,Zw]
  refine .cons ?_ ih
  refine W_ fun n9=>?_;obtain⟨h1,h2,h3⟩:=h;apply n9;clear n9
  unfold putAt
  by_cases e:p.1=k
  ·rw[if_pos e,if_pos (h1.symm.trans e)];exact⟨h1,h2,ry⟩
  ·rw[if_neg e,if_neg (fun z=>e (h1.trans z))];exact⟨h1,h2,h3⟩
theorem KT.put(r:KT H kvs xs)(k:List Key)(hb:H b=some (.tup (k.map kV)))(ry:RelV y u) :
  KT H (Z3v kvs k y) (storedH xs k b u):=by
 have e:(kvs.any fun kv=>decide (kv.1=k))=(atKey xs k).isSome:=by
  rw[Z4X,(r.val k).isSome_eq,Option.isSome_map]
 unfold Z3v storedH
 rw[e]
 by_cases q:(atKey xs k).isSome=true
 ·rw[if_pos q,if_pos q];exact r.repl k ry
 ·rw[if_neg q,if_neg q];exact Zhr r ⟨rfl,hb,ry⟩
theorem KT.keeps(r:KT H kvs xs)(ht:∀ b ys,H b=some (.tup ys)->H' b=some (.tup ys)):KT H' kvs xs :=
 Paired.mapP r fun _ _ z=>⟨z.1,ht _ _ z.2.1,z.2.2⟩
section
variable {P:Program}{w:World}{H:Hp}{h:Heap}{a:Addr}
theorem ZfR(ok:HOk P w H h)(e:Rd H a u):MI P w H h a u:=e.ok ok
theorem Zhj(ok:HOk P w H h)(e:Rd H a (.dK kvs)):kvs.length<=sizeLine/\(a == sysModules)=false/\∃ vs,KV kvs vs/\h.DictOf (Gm P w) a vs :=
 show MI P w H h a (.dK kvs) from ZfR ok e
theorem Zj0(ok:HOk P w H h)(e:H a=some (.dK kvs)):kvs.length<=sizeLine/\(a == sysModules)=false/\∃ vs,KV kvs vs/\h.DictOf (Gm P w) a vs:=Zhj ok (.inl e)
theorem Zdb(ok:HOk P w H h)(e:H a=some (.tup (ks.map kV))):(tupleKind (Gm P w)).is h ks a:=by
 refine W_ fun n9=>?_;obtain⟨_,its,r,o,h1,h2,n,h3⟩:=(show MI P w H h a (.tup (ks.map kV)) from ok a _ e);apply n9;clear n9
 exact⟨o,its.toArray,n,h1,h2,h3,by simpa using Z2C r⟩
theorem ZiZ(ok:HOk P w H h)(e:Rd H a (.dT kvs)):kvs.length<=sizeLine/\(a == sysModules)=false /\
  ∃ xs,KT H kvs xs/\h.DictOfH (tupleKind (Gm P w)) a xs:=by
 refine W_ fun n9=>?_;obtain⟨z,y,xs,r,o,es,ep,h1,h2,h3,h4,h5⟩:=(show MI P w H h a (.dT kvs) from ZfR ok e);apply n9;clear n9
 refine⟨z,y,xs,r,o,es,ep,h1,h2,h3,h4,fun x hx=>?_,h5⟩
 have all:∀ {l:List (List Key×V)} {m:List (List Key×Addr×Value)},KT H l m->∀ x∈m,(tupleKind (Gm P w)).is h x.1 x.2.1:=by
  intro l m q
  induction q with
  |nil=>intro x hx;exact nomatch hx
  |@cons p q ps qs hq t ih =>
   intro x hx
   rcases Zc.mp hx with e|hx
   ·subst e
    exact Zdb ok (by rw[<- hq.1];exact hq.2.1)
   ·exact ih x hx
 exact all r x hx
theorem Zhi(ok:HOk P w H h)(e:H a=some (.dT kvs)):kvs.length<=sizeLine/\(a == sysModules)=false /\
  ∃ xs,KT H kvs xs/\h.DictOfH (tupleKind (Gm P w)) a xs:=ZiZ ok (.inl e)
end
def Zi2 (H:Hp)(a:Addr)(y:V)(r:Option V):Prop :=
 (∃ kvs k,Rd H a (.dK kvs)/\y=kV k/\r=Z7B kvs k)\/∃ kvs k b,Rd H a (.dT kvs)/\y=.ref b/\H b=some (.tup (k.map kV))/\r=Z7B kvs k
def Zfu (H:Hp)(a:Addr)(y v:V)(H':Hp):Prop :=
 (∃ kvs k,H a=some (.dK kvs)/\y=kV k/\kvs.length<sizeLine/\H'=upd H a (.dK (Z3v kvs k v))) \/
 ∃ kvs k b,H a=some (.dT kvs)/\y=.ref b/\H b=some (.tup (k.map kV))/\kvs.length<sizeLine/\H'=upd H a (.dT (Z3v kvs k v))
section
variable {X:Cx}{pins:Pn_}{σ:St}{H:Hp}{s:Shared}{a:Addr}{y v:V}{u r:Value}{o:Option V}{A:Around}{E:Ps_}
theorem Inv.big (I:Inv X pins σ H s):sysModules<s.heap.objs.size:=by
 have h:mainGlobals<s.heap.objs.size:=(I.mod.glob.keeps I.bk).lt
 exact Ml (by decide) h
theorem Z9C(I:Inv X pins σ H s)(mu:Mut (H a))(hs:J2 a s.heap h')(he:∃ q,h'.get? a=some q)(new:MI X.prog X.w (upd H a ob) h' a ob) :
  Inv X pins σ (upd H a ob) { s with heap:=h',toks:=t' } :=
 I.write (x:=a) (e:=a) mu (.inl rfl) (fun b q hb z=>(hs.2 b hb).trans z) he new
theorem Zhk(z:kvs.length<=sizeLine)(hd:(a == sysModules)=false)(rel:KV kvs vs)(dd:h'.DictOf (Gm P w) a vs) :
  MI P w H' h' a (.dK kvs):=⟨z,hd,vs,rel,dd⟩
theorem Z9D(hu:A.units+1<cLine)(I:Inv X pins σ H s)(g:Zfu H a y v H')(ry:RelV y u)(rv:RelV v r)(h:∀ s',Inv X pins σ H' s'->Q () s') :
  wpAny (model X.prog X.w) A (setItem (.ref a) u r) Q E s:=by
 rcases g with ⟨kvs,k,e,ey,l,eH⟩|⟨kvs,k,b,e,ey,eb,l,eH⟩
 ·subst ey eH
  refine W_ fun n9=>?_;obtain⟨z,hd,vs,rel,dd⟩:=Zj0 I.hok e;apply n9;clear n9
  have hz:vs.length<=sizeLine:=by rw[<- rel.length];exact z
  have hl:(Z3v kvs k v).length<=sizeLine:=by have:=Cb kvs k v;exact ZF ‹_› ‹_›
  refine wpAny_setItem_pairs (hsz:=hz) (Zh8 ry) dd fun h' dd' hs=>h _ ?_
  have he:∃ q,h'.get? a=some q:=let ⟨q,_,_,hq,_⟩:=dd';⟨q,hq⟩
  exact Z9C I (by rw[e];exact Zco) hs he (Zhk hl hd (rel.put k rv) dd')
 ·subst ey eH
  cases (show u=Y6 b from ry)
  refine W_ fun n9=>?_;obtain⟨z,hd,xs,rel,dd⟩:=Zhi I.hok e;apply n9;clear n9
  have hz:xs.length<=sizeLine:=by rw[<- Z3o rel];exact z
  have hl:(Z3v kvs k v).length<=sizeLine:=by have:=Cb kvs k v;exact ZF ‹_› ‹_›
  refine wpAny_setItem_heap (hsz:=hz) (tupleKind_room_in1 hu) (Zdb I.hok eb) dd fun h' dd' hs=>h _ ?_
  refine W_ fun n9=>?_;obtain⟨q,es,ep,hq,h2,h3,h4,_,h5⟩:=dd';apply n9;clear n9
  refine Z9C I (by rw[e];exact Zco) hs ⟨q,hq⟩ ⟨hl,hd,_,(rel.put k eb rv).keeps fun c ys ec=>?_,q,es,ep,hq,h2,h3,h4,h5⟩
  rw[UA (ZiD ec e (fun z=>nomatch z))]
  exact ec
end
def Zij (td ty tv:TE):TS:=fun D σ H=>tv σ H fun v H1=>td σ H1 fun x H2=>ty σ H2 fun y H3=>∃ a H4,x=.ref a/\Zfu H3 a y v H4/\D.nx σ H4
section
variable {X:Cx}{o i e value:Expr}{pos pos' tpos:Pos}{td ty tv:TE}
theorem Z8d (hu:X.A.units+1<cLine)(ho:PE X o td)(hi:PE X i ty)(hv:PE X value tv)(hs:swapsWith value (some (.Subscript o i pos')) pos.line X.env=pure false) :
  PS X (.Assign [.Subscript o i pos'] value pos) (Zij td ty tv):=by
 intro pins s σ H D I h
 refine wpAny_Assign_Subscript (thn (hv pins s σ H _ I h) fun r s1 ⟨v,H1,I1,rv,q1⟩=>thn (ho pins s1 σ H1 _ I1 q1) fun u s2 ⟨x,H2,I2,rx,q2⟩=>thn (hi pins s2 σ H2 _ I2 q2) fun iv s3 z1_=>?_) hs
 refine W_ fun n9=>?_;obtain ⟨y,H3,I3,ry,a,H4,ex,g,q3⟩:=z1_;apply n9;clear n9
 subst ex
 obtain rfl:u=Y6 a:=rx
 exact Z9D hu I3 g ry rv fun s4 I4=>⟨σ,H4,I4,q3⟩
end
theorem Zci (h:Heap) (hb:sysModules<h.objs.size):MI P w H (h.push { cls:=.type "dict",data:=.dict #[] }) h.objs.size (.dK []) :=
 ⟨Jh _,beq_eq_false_iff_ne.mpr (Gx (ZE hb)),[],.nil,Heap.DictOf.new h⟩
theorem Zcg (h:Heap) (hb:sysModules<h.objs.size):MI P w H (h.push { cls:=.type "dict",data:=.dict #[] }) h.objs.size (.dT []) :=
 ⟨Jh _,beq_eq_false_iff_ne.mpr (Gx (ZE hb)),[],.nil,_,#[],0,Zl _ rfl,⟨rfl,rfl,rfl⟩,rfl,rfl,YU⟩
def ZfK:TE:=fun _ H Q=>∀ p,H p=none->Q (.ref p) (upd H p (.dK []))
def ZfJ:TE:=fun _ H Q=>∀ p,H p=none->Q (.ref p) (upd H p (.dT []))
section
variable {X:Cx}{pos:Pos}
theorem Zb5:PE X (.Dict [] [] pos) ZfK:=fun pins s σ H Q I h =>
 Zia ⟨.ref s.heap.objs.size,_,I.laid (a:=s.heap.objs.size) (o:=.dK []) (t':=s.toks) (fun _ _ q=>Z3 _ q) (Z7 _) (Zci s.heap I.big),rfl,h _ (I.hok.fresh (Z7 _))⟩
theorem Zb4:PE X (.Dict [] [] pos) ZfJ:=fun pins s σ H Q I h =>
 Zia ⟨.ref s.heap.objs.size,_,I.laid (a:=s.heap.objs.size) (o:=.dT []) (t':=s.toks) (fun _ _ q=>Z3 _ q) (Z7 _) (Zcg s.heap I.big),rfl,h _ (I.hok.fresh (Z7 _))⟩
end
noncomputable def Zc3:Th->Bool
 |.bl _=>true
 |.int _=>true
 |.str _=>true
 |.non=>true
 |_=>false
theorem ZiS {K:Fg_}{H:Hp}{v:V}{T:Th}(b:JG K H v T)(h:Zc3 T=true):v=fv T:=by
 cases b <;> first|rfl|cases h
noncomputable def ZaR (kvs:List (Str×Th))(x:Str)(T:Th):List (Str×Th):=if (kvs.any fun p=>decide (p.1=x))=true then kvs.map (fun p=>if p.1=x then (p.1,T) else p) else kvs++[(x,T)]
theorem Z9U (x:Str):∀ kvs:List (Str×Th),((dkv kvs).any fun kv=>decide (kv.1=(Yl x:Key)))=kvs.any fun p=>decide (p.1=x)
 |[]=>rfl
 |p::r=>by
  have ih:=Z9U x r
  unfold dkv at *
  rw[Zw,Wk,Wk,ih,Zda]
theorem ZdS (kvs:List (Str×Th))(x:Str)(T:Th):Z3v (dkv kvs) (Yl x:Key) (fv T)=dkv (ZaR kvs x T):=by
 unfold Z3v ZaR
 rw[Z9U]
 split
 ·unfold dkv
  rw[J1,J1]
  refine Jo fun p _=>?_
  simp only[Zcy]
  by_cases e:p.1=x
  ·subst e
   simp
  ·have e1:¬ (Yl p.1:Key)=Yl x:=fun z=>e (CI z)
   rw[if_neg e1,if_neg e]
 ·unfold dkv
  rw[YZ]
  rfl
theorem Z9B (kvs:List (Str×Th)):(dkv kvs).length=kvs.length:=by unfold dkv;rw[Z5]
theorem Z3s.rd:∀ {fz:Bool},Z3s H a fz kvs->Rd H a (.dK (dkv kvs))
 |false,h=>.inl h
 |true,⟨o,h⟩=>.inr ⟨o,h⟩
section
variable {X:Cx}{K:Fg_}{o a b c e value:Expr}{f fk fw:FD}{pos pos':Pos}{k i:Nat}{x:Str}
theorem Rep.setDct(r:Rep K H O σ d)(hp:H p=none)(i:Nat):Rep K (upd H p (.dK [])) (O.cons i p) (σ.set i (some (.ref p))) (d.set i (some (.dct false []))) :=
 r.fresh (Jl.upd hp) i hp JL trivial fun hf=>⟨p,Z1,rfl,JL,hf⟩
noncomputable def ZeZ (i:Nat):FS:=fun d=>some (.nx (d.set i (some (.dct false []))))
theorem Zbd (hN:X.N.Nodup)(hi:X.N[i]?=some x)(hx:Loc X.env.scope x)
  (hf:X.fn x=true\/X.env.scope.names.lookup x=some .local) (hs:swapsWith (.Dict [] [] pos') (some (.Name x px)) pos.line X.env=pure false):PDS X (.Assign [.Name x px] (.Dict [] [] pos') pos) (ZeZ i) :=
 PS.imp (Z5j hN hi hx Zb5 hs hf) fun D σ H z_=>by
  refine W_ fun n9=>?_;obtain⟨O,d,o,R,e,q⟩:=z_;apply n9;clear n9
  cases e
  exact fun p hp=>q _ _ (O.cons i p) rfl (Z45 (Jl.upd hp) hp) (R.setDct hp i)
noncomputable def Z1m (i:Nat)(fk fw:FD):FS:=fun d=>match d[i]? with
 |some (some (.dct false kvs))=>(fw d).bind fun U=>(fk d).bind fun T=>match T with|.str x=>if Zc3 U=true/\kvs.length<1000000 then some (.nx (d.set i (some (.dct false (ZaR kvs x U))))) else none|_=>none
 |_=>none
theorem Rep.putD(r:Rep K H O σ d)(hp:(i,p)∈O.own)(hs:σ[i]?=some (some (.ref p)))(hf:¬ O.far p)(hn:Bw u)(hu:Z3s (upd H p u) p fz' kvs') :
  Rep K (upd H p u) O σ (d.set i (some (.dct fz' kvs')))/\Jl (low H O) (low (upd H p u) O) :=
 r.over hp hs hn fun _=>⟨p,hp,rfl,hu,hf⟩
theorem Zbc (hr:Nm k X.A)(ho:PE X o (Zab i))(hi:PB X e fk)(hv:PD X value fw)(hs:swapsWith value (some (.Subscript o e pos')) pos.line X.env=pure false) :
  PDS X (.Assign [.Subscript o e pos'] value pos) (Z1m i fk fw):=PS.imp (Z8d (Zhd hr) ho hi hv hs) fun D σ H z_=>by
 refine W_ fun n9=>?_;obtain⟨O,d,o,R,e,q⟩:=z_;apply n9;clear n9
 unfold Z1m at e
 split at e
 ·rename_i kvs hd
  cases hw:fw d with
  |none=>rw[hw] at e;cases e
  |some U =>
   rw[hw] at e
   cases hk:fk d with
   |none=>rw[hk] at e;cases e
   |some T =>
    rw[hk] at e
    cases T with
    |str x =>
     change (if Zc3 U=true/\kvs.length<1000000 then some (Out.nx (d.set i (some (.dct false (ZaR kvs x U))))) else none)=some o at e
     split at e
     ·rename_i hc
      cases e
      refine⟨O,d,U,R,hw,fun v H1 s1 b1=>?_⟩
      have R1:=R.mono s1
      refine W_ fun n9=>?_;obtain⟨a,h1,h2,h3,h4⟩:=R1.dct i false kvs hd;apply n9;clear n9
      refine⟨_,h2,O,d,_,R1,hk,fun w H2 s2 b2=>?_⟩
      rw[b2.str]
      have R2:=R1.mono s2
      have h3':H2 a=some (.dK (dkv kvs)):=s2 _ _ h3
      refine⟨a,upd H2 a (.dK (dkv (ZaR kvs x U))),rfl,.inl ⟨_,Yl x,h3',rfl,by rw[Z9B];exact ZG hc.2 (by decide),?_⟩,?_⟩
      ·rw[ZiS b1 hc.1,ZdS]
      ·obtain⟨R3,s3⟩:=R2.putD (fz':=false) (u:=.dK (dkv (ZaR kvs x U))) (kvs':=ZaR kvs x U) h1 h2 h4 trivial JL
       exact q σ _ O rfl (((YM s1).trans (YM s2)).trans s3) R3
     ·cases e
    |_=>cases e
 ·cases e
end
theorem ZiK(h:(Gm P w).is k v=true):RelV (kV k) v:=by
 rcases Uz (show Z4a k v=true from h) with ⟨i,t,rfl,rfl⟩|⟨x,t,rfl,rfl⟩
 ·exact⟨t,rfl⟩
 ·exact⟨t,rfl⟩
noncomputable def Zd6 (b:Th):Lt_->Option Th
 |[]=>some b
 |t::r=>match oLt t b with
  |some (.bl true)=>Zd6 t r
  |some (.bl false)=>Zd6 b r
  |_=>none
section
variable {prog:Program}{w:World}{A:Around}{G:Value->Th->Prop}{h0:Heap}{l I S:Addr}{vs:Lu_}{ts:Lt_}{kw:List (Str×Value)}{R:Result->Shared->Prop}
def Lts (prog:Program)(w:World)(A:Around)(G:Value->Th->Prop)(h0:Heap):Prop:=∀ (u v:Value) (t b:Th) (c:Bool) (s:Shared) (Q:Ps_) (E:Ps_),Sg.Ext h0 s.heap->G u t->G v b->oLt t b=some (.bl c)->Q (.bool c) s->wpAny (model prog w) A (richCompare .Lt u v) Q E s
theorem Bm:(toString "min"++toString ".loop":String)="min.loop":=by decide
theorem Z2k:∀ {xs:List α} {ys:List β} {i:Nat} {y:β},Paired F xs ys->ys[i]?=some y->∃ x,xs[i]?=some x/\F x y:=by
 intro xs ys i y h
 induction h generalizing i with
 |nil=>intro e;simp at e
 |cons r t ih=>intro e;cases i with
  |zero=>cases e;exact⟨_,rfl,r⟩
  |succ i=>exact ih e
theorem ZeJ (hh:A.in1.handled=none)(C:Lts prog w A.in1 G h0)(hl:h0.IsList l vs.toArray)(nI:h0.get? I=none)(nS:h0.get? S=none)(ne:S≠I)(P:Paired G vs ts) :
  ∀ (r:Lt_) (j:Nat) (s:Shared) (vb:Value) (tb tm:Th) (c:Nat),ts.drop j=r->j<=ts.length->G vb tb->Zd6 tb r=some tm->Sg.Ext h0 s.heap->s.heap.IsListIter I l j ->
  s.heap.get? S=some { cls:=.type "list",dict:=none,data:=.seq #[vb,vb] c,slots:=#[] } ->
  (∀ v h' tk,G v tm->Sg.Ext h0 h'->R (.ok (.ret v)) { s with heap:=h',toks:=tk }) ->
  codeAny (model prog w) A (.builtin "min.loop" ⟨[.ref I,.none,.ref S],kw⟩) R s:=by
 have hne:l≠I:=fun z=>by
  obtain⟨o,ho,-⟩:=hl
  rw[z,nI] at ho
  cases ho
 have hlS:l≠S:=fun z=>by
  obtain⟨o,ho,-⟩:=hl
  rw[z,nS] at ho
  cases ho
 have hlen:vs.length=ts.length:=P.length
 have W:=Z3j (prog:=prog) (w:=w) hh I l hne vs.toArray
 have up:∀ {h h':Heap},Sg.Ext h0 h->(∀ b o,b∉[I]->h.get? b=some o->h'.get? b=some o)->Sg.Ext h0 h':=fun e k b o q=>k b o (fun z=>by
  rw[ZS] at z
  rw[z,nI] at q
  cases q) (e b o q)
 have upS:∀ {h:Heap} (f:Obj->Obj),Sg.Ext h0 h->Sg.Ext h0 (h.update S f):=fun f e b o q=>by
  refine (YO _ _ (fun z=>?_)).trans (e b o q)
  rw[<- z,nS] at q
  cases q
 have atL:∀ {h:Heap},Sg.Ext h0 h->h.IsList l vs.toArray:=fun e=>hl.at fun o q=>e _ _ q
 intro r
 induction r with
 |nil =>
  intro j s vb tb tm c hr hj gb em eh hi hS hR
  have ej:vs.toArray.size=j:=by
   have:=MD.mp hr
   simp
   lia
  cases em
  refine Ju Z1T ?_
  rw[ZZ Gq _]
  show wpAny _ A.in1 (seqItems? _>>=_) _ _ s
  refine Z0 (U6 hS rfl ?_)
  show wpAny _ A.in1 (tryCatch (pyNext _) _>>=_) _ _ s
  refine Z0 (U5 (W.done s _ _ ⟨by rw[ej];exact hi,atL eh⟩ fun h1 tk k1=>?_))
  have hS1:=k1 S _ (by simpa using ne) hS
  show wpAny _ A.in1 (updateSeq S _>>=_) _ _ _
  refine Z0 ?_
  refine Ga hS1 rfl (Z0 (NL (Z4 ?_)))
  exact hR vb _ tk gb (upS _ (up eh k1))
 |cons t r ih =>
  intro j s vb tb tm c hr hj gb em eh hi hS hR
  have hjl:j<ts.length:=by
   rcases G6 j ts.length with z|z
   ·exact z
   ·rw[MD.mpr z] at hr;cases hr
  rw[Yr hjl] at hr
  injection hr with ht hr'
  obtain⟨v0,hv0,gv0⟩:=Z2k P (Zd hjl)
  rw[ht] at gv0
  refine Ju Z1T ?_
  rw[ZZ Gq _]
  show wpAny _ A.in1 (seqItems? _>>=_) _ _ s
  refine Z0 (U6 hS rfl ?_)
  show wpAny _ A.in1 (tryCatch (pyNext _) _>>=_) _ _ s
  refine Z0 (U5 (W.item j s _ _ (by simp;lia) ⟨hi,atL eh⟩ fun v h1 tk hv st1 k1=>?_))
  have ev:v=v0:=by
   have hv':vs[j]?=some v:=by simpa using hv
   rw[hv0] at hv'
   cases hv'
   rfl
  subst ev
  have e1:=up eh k1
  have hS1:=k1 S _ (by simpa using ne) hS
  unfold Zd6 at em
  have hb:∃ b,oLt t tb=some (.bl b):=by
   revert em
   split
   ·intro;exact⟨_,by assumption⟩
   ·intro;exact⟨_,by assumption⟩
   ·intro z;cases z
  obtain⟨b,hb⟩:=hb
  rw[hb] at em
  show wpAny _ A.in1 (tryCatch (holding [v,v] (richCompare .Lt v vb>>=_)) _>>=_) _ _ _
  refine Z0 (U5 (Jx (Z0 (C v vb t tb b _ _ _ e1 gv0 gb hb ?_))))
  refine Z0 (Jx (WO ?_))
  refine Z0 (NL (Z4 ?_))
  cases b with
  |true =>
   simp only[if_true]
   refine Z0 ?_
   refine Ga hS1 rfl (Z0 (NL ?_))
   rw[Bm]
   refine Z4 ⟨Yk Gq _,ih (j+1) _ v t tm _ hr' hjl gv0 em (upS _ e1) ?_ (Y9 _ hS1 rfl) fun v' h2 tk2 g2 e2=>hR v' h2 tk2 g2 e2⟩
   exact st1.1.at fun o q=>(YO _ _ ne).trans q
  |false =>
   simp only[Zv,if_false]
   refine Z0 (NL ?_)
   rw[Bm]
   exact Z4 ⟨Yk Gq _,ih (j+1) _ vb tb tm c hr' hjl gb em e1 st1.1 hS1 fun v' h2 tk2 g2 e2=>hR v' h2 tk2 g2 e2⟩
noncomputable def Z2q (df:Th):Lt_->Option Th
 |[]=>some df
 |t::r=>Zd6 t r
theorem ZbB (hh:A.in1.handled=none)(C:Lts prog w A.in1 G h0)(hl:h0.IsList l vs.toArray)(nI:h0.get? I=none)(nS:h0.get? S=none)(ne:S≠I)(P:Paired G vs ts)(gd:G dv df)
  (em:Z2q df ts=some tm) (eh:Sg.Ext h0 s.heap) (hi:s.heap.IsListIter I l 0) (hS:s.heap.get? S=some { cls:=.type "list",dict:=none,data:=.seq #[] c,slots:=#[] })
  (hR:∀ v h' tk,G v tm->Sg.Ext h0 h'->R (.ok (.ret v)) { s with heap:=h',toks:=tk }):codeAny (model prog w) A (.builtin "min.loop" ⟨[.ref I,.none,.ref S],[(k,dv)]⟩) R s:=by
 have hne:l≠I:=fun z=>by
  obtain⟨o,ho,-⟩:=hl
  rw[z,nI] at ho
  cases ho
 have W:=Z3j (prog:=prog) (w:=w) hh I l hne vs.toArray
 have up:∀ {h h':Heap},Sg.Ext h0 h->(∀ b o,b∉[I]->h.get? b=some o->h'.get? b=some o)->Sg.Ext h0 h':=fun e k b o q=>k b o (fun z=>by
  rw[ZS] at z
  rw[z,nI] at q
  cases q) (e b o q)
 refine Ju Z1T ?_
 rw[ZZ Gq _]
 show wpAny _ A.in1 (seqItems? _>>=_) _ _ s
 refine Z0 (U6 hS rfl ?_)
 show wpAny _ A.in1 (tryCatch (pyNext _) _>>=_) _ _ s
 cases P with
 |nil =>
  cases em
  refine Z0 (U5 (W.done s _ _ ⟨hi,hl.at fun o q=>eh _ _ q⟩ fun h1 tk k1=>?_))
  show wpAny _ A.in1 (rule _>>=_) _ _ _
  refine Z0 (Gb (Z4 ?_))
  exact hR dv _ tk gd (up eh k1)
 |@cons u t us ts gu P' =>
  refine Z0 (U5 (W.item 0 s _ _ (by simp) ⟨hi,hl.at fun o q=>eh _ _ q⟩ fun v h1 tk hv st1 k1=>?_))
  have ev:v=u:=by
   have hv':(u::us)[0]?=some v:=by simpa using hv
   cases hv'
   rfl
  subst ev
  have e1:=up eh k1
  have hS1:=k1 S _ (by simpa using ne) hS
  show wpAny _ A.in1 (updateSeq S _>>=_) _ _ _
  refine Z0 ?_
  refine Ga hS1 rfl ?_
  rw[Bm]
  refine Z4 ⟨Yk Gq _,ZeJ (ts:=t::ts) hh C hl nI nS ne (.cons gu P') ts 1 _ v t tm _ rfl (by simp) gu em (fun b o q=>?_) (st1.1.at fun o q=>(YO _ _ ne).trans q) (Y9 _ hS1 rfl) fun v' h2 tk2 g2 e2=>hR v' h2 tk2 g2 e2⟩
  refine (YO _ _ (fun z=>?_)).trans (e1 b o q)
  rw[<- z,nS] at q
  cases q
theorem Z9S (a d:Value):argsOk "min" ⟨[a],[(Zq "default",d)]⟩:=by unfold argsOk;kernel_rfl
theorem Z9L {E:Ps_}{s:Shared}{dv:Value}{df tm:Th}{Q:Ps_}(hh:A.in1.handled=none)(C:Lts prog w A.in1 G s.heap)(hl:s.heap.IsList l vs.toArray)(P:Paired G vs ts)(gd:G dv df)
  (em:Z2q df ts=some tm) (hQ:∀ v h' tk,G v tm->Sg.Ext s.heap h'->Q v { s with heap:=h',toks:=tk }):wpAny (model prog w) A (call (.builtin "min") [.ref l] [(Zq "default",dv)]) Q E s:=by
 refine ZhG (Zf3 F.plain_min F.entry_min ?_)
 have main:wpAny (model prog w) A.in1 (Zap ⟨[.ref l],[(Zq "default",dv)]⟩) (fun fin s'=>match fin with
   |.done f=>(match (Except.ok f:Result) with|.ok (.ret v)=>Q v s'|.ok _=>False|.error e=>E e s')
   |.again c'=>c'.quiet=true/\codeAny (model prog w) A c' (fun r s'=>match r with|.ok (.ret v)=>Q v s'|.ok _=>False|.error e=>E e s') s') E s:=by
  show wpAny _ A.in1 (G0 "min" ["key","default"] 0 ⟨[],[(Zq "default",dv)]⟩>>=_) _ _ s
  refine Z0 (Dm (show G0 "min" ["key","default"] 0 ⟨[],[(Zq "default",dv)]⟩=pure [none,some dv] from rfl) ?_)
  refine Z0 (Z4 ?_)
  refine Z0 (WP hl ?_)
  refine Z0 (Jq ?_)
  rw[Bm]
  refine Z4 ⟨Yk Gq _,ZbB hh C hl (ME (Z7 _)) (ME ?_) ?_ P gd em (fun b o e=>Z3 _ (Z3 _ e)) ?_ (Zl _ rfl) fun v h' tk g e=>hQ v h' tk g e⟩
  ·rw[WT];exact Ym _
  ·rw[WT];exact WN _
  ·exact⟨_,Z3 _ (Zl _ rfl),rfl,rfl⟩
 simp only[checkBuiltinCall,F.kind_min]
 cases hsig:Manifest.signature? "min" with
 |none=>exact Z4 main
 |some sig =>
  have ha:=Z9S (.ref l) dv
  simp only[argsOk,hsig] at ha
  have h2:Bind.checkArgs "min" sig ⟨[.ref l],[(Zq "default",dv)]⟩=pure ():=ha
  simp only[h2]
  exact Z4 main
end
section
variable {X:Cx}{K:Fg_}{e value:Expr}{fs:FL}{fd:FD}{p pos kp:Pos}{k:Nat}
theorem Z5E {h h':Heap}{a:Addr}{its:Au_}(x:IsTup h a its)(e:Sg.Ext h h'):IsTup h' a its:=let ⟨o,ho,r⟩:=x;⟨o,e _ _ ho,r⟩
theorem ZbJ {pins:Pn_}{σ:St}{H:Hp}{s:Shared}(I:Inv X pins σ H s){A:Around}(hu:A.units<cLine):Lts X.prog X.w A (fun u t=>∃ x,RelV x u/\JG X.K H x t) s.heap:=by
 rintro u v t b c s1 Q E hE ⟨x,rx,bx⟩ ⟨y,ry,by'⟩ hlt hQ
 unfold oLt at hlt
 split at hlt
 ·cases hlt
  cases bx
  cases by'
  refine W_ fun n9=>?_;obtain⟨t1,rfl⟩:=rx
  obtain⟨t2,rfl⟩:=ry;apply n9;clear n9
  exact (lt_int hQ:wpAny (model X.prog X.w) A (compareOp .Lt _ _) Q E s1)
 ·cases hlt
  cases bx
  cases by'
  refine W_ fun n9=>?_;obtain⟨t1,rfl⟩:=rx
  obtain⟨t2,rfl⟩:=ry;apply n9;clear n9
  exact HT.rc_str (g:=false) (.inl ⟨rfl,rfl⟩) hQ
 ·rename_i ts us
  cases h1:GX ts with
  |none=>rw[h1] at hlt;cases hlt
  |some ns =>
   rw[h1] at hlt
   change ((GX us).bind fun ms=>(HT.lexK ns ms).map Th.bl)=_ at hlt
   cases h2:GX us with
   |none=>rw[h2] at hlt;cases hlt
   |some ms =>
    rw[h2] at hlt
    change ((HT.lexK ns ms).map Th.bl)=_ at hlt
    cases h3:HT.lexK ns ms with
    |none=>rw[h3] at hlt;cases hlt
    |some z =>
     rw[h3] at hlt
     cases hlt
     cases bx with
     |tup g1 b1=>cases by' with
      |tup g2 b2 =>
       cases rx
       cases ry
       refine W_ fun n9=>?_;obtain⟨its,r1,p1,_⟩:=I.tuple g1
       obtain⟨its2,r2,p2,_⟩:=I.tuple g2;apply n9;clear n9
       exact (HT.lt_tupKeys (Z5E p1 hE) (Z5E p2 hE) (by simpa using Qx h1 b1 r1) (by simpa using Qx h2 b2 r2) h3 hu hQ:wpAny (model X.prog X.w) A (compareOp .Lt _ _) Q E s1)
 ·cases hlt
theorem Z8A:∀ {xs:Lv_} {us:Lu_} {ts:Lt_},Uh xs us->ZX K H xs ts->Paired (fun u t=>∃ x,RelV x u/\JG K H x t) us ts:=by
 intro xs us ts h
 induction h generalizing ts with
 |nil=>intro b;cases b;exact .nil
 |cons r t ih=>intro b;cases b with
  |cons b bs=>exact .cons ⟨_,r,b⟩ (ih bs)
noncomputable def Z9x (fs:FL)(fd:FD):FD:=fun d=>(fs d).bind fun Ts=>(fd d).bind fun df=>match Ts with|[.lst ts]=>Z2q df ts|_=>none
theorem Zej (hr:Nm k X.A) (hc:X.calm=true) (hg:Gl X "min") (hm:X.mg "min"=none) (ha:PBA X [e] fs) (hv:PD X value fd)
  (he:backTo pos (starEach [e] X.env)=(false,eval e X.env)::backTo pos (starEach [] X.env)) (hplain:(backTo pos (starEach [e] X.env)).any (·.1)=false)
  (hall:(backToKw pos (keywordEach [⟨some (Zq "default"),value,kp⟩] X.env)).all (·.1.isSome)=true) (hkw:(backToKw pos (keywordEach [⟨some (Zq "default"),value,kp⟩] X.env)).any (·.1.isNone)=false)
  (hz:∀ v:Value,((backToKw pos (keywordEach [⟨some (Zq "default"),value,kp⟩] X.env)).filterMap (·.1)).zip [v]=[(Zq "default",v)]) :
  PD X (.Call (.Name "min" p) [e] [⟨some (Zq "default"),value,kp⟩] pos) (Z9x fs fd):=by
 intro pins s σ H Q I ⟨O,d,T,R,ef,q⟩
 unfold Z9x at ef
 cases hf:fs d with
 |none=>rw[hf] at ef;cases ef
 |some Ts =>
  rw[hf] at ef
  change ((fd d).bind _)=_ at ef
  cases hfd:fd d with
  |none=>rw[hfd] at ef;cases ef
  |some df =>
   rw[hfd] at ef
   match Ts,hf,ef with
   |[.lst ts],hf,ef =>
    change Z2q df ts=some T at ef
    refine GG (BW I hg hm (by rfl) ?_ (by decide) (by decide))
    refine Zfq ?_ he hplain hall hkw
    refine thn (ha pos pins s σ H _ I ⟨O,d,_,R,hf,fun vs H1 s1 b1=>(⟨s1,b1⟩:Jl H H1/\Paired (BA X.K H1 O) vs [.lst ts])⟩) fun us s1 z1_=>?_
    refine W_ fun n9=>?_;obtain ⟨vs,H1,I1,r1,sm,b1⟩:=z1_
    obtain⟨v1,rfl,b3⟩:=NZ b1
    obtain⟨u1,rfl,ru⟩:=vals1 r1
    obtain⟨a,xs,rfl,hq,bx⟩:=b3.lst;apply n9;clear n9
    cases ru
    refine Zk5 (thn (hv pins s1 σ H1 _ I1 ⟨O,d,df,R.mono sm,hfd,fun v H2 s2 b2=>(⟨s2,b2⟩:Jl H1 H2/\JG X.K (less H2 O) v df)⟩) fun dv s2 ⟨v2,H2,I2,r2,sm2,b2⟩=>kws_nil ?_)
    rw[hz]
    refine W_ fun n9=>?_;obtain⟨its,rv,pl,hz'⟩:=I2.list (sm2.seq hq);apply n9;clear n9
    refine Z9L (A:=X.A) (G:=fun u t=>∃ x,RelV x u/\JG X.K (less H2 O) x t) (I2.ok.hd hc) ?_ pl.isList (Z8A rv (bx.mono (JU sm2))) ⟨v2,r2,b2⟩ ef fun v h' tk ⟨x,rx,bxx⟩ hE=>?_
    ·intro u v t b c s3 Q E hE ⟨x,rx,bx⟩ ⟨y,ry,by'⟩
     exact ZbJ I2 (A:=X.A.in1) (by have:=hr.un;show X.A.units+1<cLine;lia) u v t b c s3 Q E hE ⟨x,rx,bx.mono (Jt _ _)⟩ ⟨y,ry,by'.mono (Jt _ _)⟩
    ·exact⟨x,H2,I2.kept (t':=tk) hE,rx,q x H2 (sm.trans sm2) bxx⟩
end
section
variable {X:Cx}{tg a b:Expr}{fa fb:FD}{K:Fg_}{p pos:Pos}
noncomputable def Q2 (lo:Int)(n:Nat):Lt_:=(Ja n).map fun (k:Nat)=>Th.int (lo+(k:Int))
theorem Z4b(lo:Int)(n:Nat):Zcx K (Itr lo n) (low H O) O.far (Q2 lo n) where
 go:=fun i H' s hi=>by
  show i<n
  simpa [Q2] using hi
 stop:=fun H' s=>by
  show n<=(Q2 lo n).length
  simp[Q2]
 yld:=fun i H' O' v H'' hi hf s _ y=>by
  obtain⟨e,e2⟩:=y
  subst e e2
  refine⟨Jl.refl _,.int (lo+i),?_,.int _⟩
  have hi':i<n:=by simpa [Q2] using hi
  simp[Q2,hi']
noncomputable def Df (fa fb:FD):FL:=fun d=>(fa d).bind fun A=>(fb d).bind fun B=>match A,B with
 |.int i,.int j=>if -1000000<=i/\i<=1000000/\-1000000<=j/\j<=1000000 then some (Q2 i (j-i).toNat) else none
 |_,_=>none
theorem Z6C (hg:Gl X "range") (hm:X.mg "range"=none) (ha:PD X a fa) (hb:PD X b fb) (hs:starEach [a,b] X.env=[(false,eval a X.env),(false,eval b X.env)]) (hs2:starEach [b] X.env=[(false,eval b X.env)])
  (hs1:starEach [a,b] X.env=(false,eval a X.env)::starEach [b] X.env) (hs3:starEach [b] X.env=(false,eval b X.env)::starEach [] X.env):PDI X tg (.Call (.Name "range" p) [a,b] [] pos) (Df fa fb) :=
 PI.imp (Z8j hg hm (M0 ha (M0 hb Wc hs3) hs1) hs hs2) fun σ H R z_=>by
  refine W_ fun n9=>?_;obtain⟨O,d,ts,r,e,q⟩:=z_;apply n9;clear n9
  unfold Df at e
  cases h1:fa d with
  |none=>rw[h1] at e;cases e
  |some A =>
   rw[h1] at e
   cases h2:fb d with
   |none=>rw[h2] at e;cases e
   |some B =>
    rw[h2] at e
    cases A with
    |int i=>cases B with
     |int j =>
      change (if -1000000<=i/\i<=1000000/\-1000000<=j/\j<=1000000 then some (Q2 i (j-i).toNat) else none)=some ts at e
      split at e
      ·rename_i hj
       cases e
       refine⟨O,d,.int i,r,h1,fun v H1 s1 b1=>?_⟩
       cases b1
       refine⟨O,d,.int j,r.mono s1,h2,fun v H2 s2 b2=>?_⟩
       cases b2
       exact⟨i,j,rfl,⟨by lia,by omega,by lia,by omega⟩,q _ H2 (s1.trans s2) (Z4b _ _)⟩
      ·cases e
     |_=>cases e
    |_=>cases e
end
theorem Z31 {prog:Program}{w:World}{A:Around}{E:Ps_}{s:Shared}{a:Addr}{vs:List (Key×Value)}{ep:Nat}{Q:List Value->Shared->Prop}(hh:A.handled=none)(hd:(a == sysModules)=false)(m:s.heap.DictAt (Gm prog w) a vs ep)(hn:vs.length<=sizeLine)
  (hQ:∀ h' tk (acc:Au_),Sg.Ext s.heap h'->ItemsOf (fun i v=>∃ k x,vs[i]?=some (k,x)/\(Gm prog w).is k v=true) acc vs.length->Q acc.toList { s with heap:=h',toks:=tk }):wpAny (model prog w) A (collect (.ref a)) Q E s:=by
 have ha:a<s.heap.objs.size:=m.lt_size
 unfold collect
 refine Z0 (Wp (Ju B7 ?_))
 rw[ZZ B6 _]
 show wpAny _ A.in1 (newList []>>=fun l=>again (.builtin "list.__iadd__" ⟨[l,.ref a],[]⟩)) _ _ s
 refine Z0 (Jq ?_)
 refine Z4 ⟨Yk GY _,Ju Z0H ?_⟩
 rw[ZZ GY _]
 show wpAny _ A.in1 (Yv (.ref s.heap.objs.size) (.ref a) (.ref s.heap.objs.size)) _ _ _
 refine Z7a (R:=fun r s'=>match r with
   |.ok (.ret v)=>wpAny (model prog w) A (match v with
    |Y6 a=>(do let o <- load a;match o.data with|.seq xs _=>pure xs.toList|_=>unsupported "internal:collect")
    |_=>unsupported "internal:collect") Q E s'
   |.ok _=>False
   |.error e=>E e s') (s:={ s with heap:=s.heap.push { cls:=.type "list",data:=.seq ([]:Lu_).toArray } }) (PySem.W.kdl_dict (knd:=Gm prog w) (kvs:=vs) (ep:=ep) hd) hh (m.push _) s.heap.objs.size (G5 ha) (G5 ha) _ 0 (Zl _ rfl) (fun h' tk acc c kp hS it=>?_) hn
 show wpAny _ A (load s.heap.objs.size>>=_) _ _ _
 refine Z0 (Z1F hS ?_)
 exact Z4 (hQ h' tk acc (fun b o e=>kp b o (ZE (Zy e)) (Z3 _ e)) it)
theorem Z7J:∀ {l:Lu_} {ss:Ls_},l.length=ss.length->(∀ (j:Nat) (v:Value),l[j]?=some v->∃ x t,ss[j]?=some x/\v=.str x t)->StrsAre l ss
 |[],[],_,_=>.nil
 |[],_::_,h,_=>nomatch h
 |_::_,[],h,_=>nomatch h
 |v::l,x::ss,h,f=>by
  obtain⟨y,t,h1,rfl⟩:=f 0 v rfl
  cases h1
  exact .cons x t (Z7J (by simpa using h) fun j u hj=>f (j+1) u hj)
def ZfT:Lv_->Hp->VK->Prop:=fun xs H Q=>∃ p kvs,xs=[.ref p]/\Rd H p (.dK (dkv kvs))/\∀ q,H q=none->Q (.ref q) (upd H q (.lst ((Ma (kvs.map (·.1))).map V.str)))
theorem Z71 (hc:X.calm=true):QL X (.builtin "sorted") ZfT:=by
 intro pins s σ H xs us Q I r h
 refine W_ fun n9=>?_;obtain⟨p,kvs,rfl,hH,q⟩:=h
 obtain⟨u,rfl,ru⟩:=vals1 r;apply n9;clear n9
 cases ru
 refine W_ fun n9=>?_;obtain⟨z,hd,vs,rel,dd⟩:=Zhj I.hok hH
 obtain⟨ep,da⟩:=dd.dictAt;apply n9;clear n9
 have hlen:vs.length=kvs.length:=by rw[<- rel.length,Z9B]
 refine Sg.sorted_any fun A' hA=>Z31 (hA.trans (I.ok.hd hc)) hd da (by rw[<- rel.length];exact z) fun h1 tk acc x1 it=>?_
 have v1:StrsAre acc.toList (kvs.map (·.1)):=by
  refine Z7J (by rw[Zh,it.1,Z5,hlen]) fun j v hv=>?_
  obtain⟨k,x,hk,hi⟩:=it.2 j v (by rw[<- ZQ];exact hv)
  have h2:=congrArg (fun l=>l[j]?) rel.keys
  simp only[Jw,hk,Z8] at h2
  unfold dkv at h2
  rw[Jw] at h2
  cases hq:kvs[j]? with
  |none=>rw[hq] at h2;cases h2
  |some p' =>
   rw[hq] at h2
   have h3:(Yl p'.1:Key)=k:=Jd h2
   rw[<- h3] at hi
   have rv:RelV (kV (Yl p'.1)) v:=ZiK hi
   obtain⟨t,e⟩:=(show ∃ t,v=Ff p'.1 t from rv)
   exact⟨p'.1,t,by rw[Jw,hq];rfl,e⟩
 refine⟨by rw[Zh,it.1,<- rel.length];exact z,_,_,_,_,Sg.sorts_strs h1 v1,fun out h' e a1 a2 a3 a4=>?_⟩
 obtain⟨w1,w2⟩:=FR v1 a1
 have hs:Ma (kvs.map (·.1))=out.map strOf:=by
  refine Fu w2 (YS.mpr (YN (fun {a c} ha hc hac=>?_) a2))
  obtain⟨x,t,rfl⟩:=w1.all a ha
  obtain⟨y,t',rfl⟩:=w1.all c hc
  exact Nn.mp (of_decide_eq_false hac)
 have I1:Inv X pins σ H { s with heap:=h1,toks:=tk }:=I.kept (t':=tk) x1
 refine⟨.ref h1.objs.size,upd H h1.objs.size (.lst ((Ma (kvs.map (·.1))).map V.str)),I1.laid (t':=tk) a3 (Z7 _) ?_,rfl,q _ (I1.hok.fresh (Z7 _))⟩
 refine⟨?_,out,e,?_,a4⟩
 ·rw[Z5,hs,Z5,a1.length_eq,Zh,it.1,<- rel.length]
  exact z
 ·rw[hs]
  exact Z1W w1
noncomputable def Z2S (i:Nat):FL:=fun d=>match d[i]? with|some (some (.dct _ kvs))=>some ((Ma (kvs.map (·.1))).map Th.str)|_=>none
theorem ZaY (hc:X.calm=true) (hg:Gl X "sorted") (hm:X.mg "sorted"=none) (ho:PE X o (Zab i))
  (he:starEach [o] X.env=(false,eval o X.env)::starEach [] X.env) (hpl:(backTo pos (starEach ([]:Le_) X.env)).any (·.1)=false):PF X (.Call (.Name "sorted" p) [o] [] pos) (Z2S i) :=
 PE.imp (WB (Z71 hc) hg hm (by rfl) (M0 ho Wc he) (by decide) (by decide) he hpl) fun σ H Q z_=>by
  refine W_ fun n9=>?_;obtain⟨O,d,T,R,e,q⟩:=z_;apply n9;clear n9
  unfold Z2S at e
  split at e
  ·rename_i fz kvs hd
   cases e
   refine W_ fun n9=>?_;obtain⟨a,h1,h2,h3,h4⟩:=R.dct i fz kvs hd;apply n9;clear n9
   refine⟨_,h2,a,kvs,rfl,h3.rd,fun b hb=>?_⟩
   refine q _ _ (Jl.upd hb) ⟨b,_,rfl,hb,JL,?_⟩
   have bs:∀ (l:Ls_) (H:Hp),ZX X.K H (l.map V.str) (l.map Th.str):=fun l H=>by
    induction l with
    |nil=>exact .nil
    |cons x l ih=>exact .cons (.str x) ih
   exact bs _ _
  ·cases e
end L2
namespace Sg
open PySem PyProof.Rows PySem.Spec PySem.W
section
variable {prog:Program}{w:World}{A:Around}{E:Ps_}{s:Shared}{O:KeyOrd}{key:Keyed->O.α}{G:Keyed->Prop}{kd:N8}{h:Heap}{keys vs:Lu_}
theorem Z5B {a kS:Addr} {e e1:Nat} {st:SortSt} {P:Fin->Shared->Prop} (ho:s.heap.get? a=some (seqObj "list" #[] e1)) (hk:s.heap.get? kS=some (seqObj "list" keys.toArray e)) (hne:kS≠a) (hkz:keys.length<=sizeLine)
  (hf:failedOf st=none) (hsz:(arrOf st).size<=sizeLine)
  (hP:∀ h',(∀ b o,b≠a->b≠kS->s.heap.get? b=some o->h'.get? b=some o)->(∃ n,h'.get? a=some (seqObj "list" ((arrOf st).map (·.2)) n))->P (.done (.ret .none)) { s with heap:=h' }) :
  wpAny (model prog w) A (ksk_tail a false e1 (.ref kS) st) P E s:=by
 have hs2:((arrOf st).map (·.2)).size<=sizeLine+1:=by rw[Qo];lia
 unfold ksk_tail
 refine Z0 (N6 hk rfl ?_ (by simpa using hkz) (Jh _))
 refine Z0 (NL ?_)
 have ho2:(s.heap.update kS (Yz fun _=>#[])).get? a=some (seqObj "list" #[] e1):=by
  rw[JJ _ _ _ _ hne.symm];exact ho
 refine Z0 (CH ho2 rfl ?_)
 refine Z0 (N6 ho2 rfl ?_ (Jh _) (by simpa using hs2))
 rw[hf]
 simp only[bne_self_eq_false,Zv,if_false]
 refine Z4 (hP _ (fun b o h1 h2 e=>?_) ?_)
 ·rw[JJ _ _ _ _ h1,JJ _ _ _ _ h2]
  exact e
 ·exact⟨_,M7 ho2 _⟩
theorem ZbW {xs:Ak_}{ps:List Keyed}(hp:xs.Perm ps.toArray)(hu:Up key xs.toList):(xs.toList).Perm ps/\xs.toList.Pairwise fun a b=>O.kle (key a) (key b) :=
 ⟨by simpa using Uw.mp hp,hu⟩
theorem key_end(S:Sorts prog w h keys O key G kd)(hG:∀ k v,G (k,k)->G (k,v))(hl:keys.length=vs.length)
  (ho:s.heap.get? a=some (seqObj "list" #[] e1)) (hk:s.heap.get? kS=some (seqObj "list" keys.toArray e)) (hne:kS≠a) (he:Ext h s.heap) (hz:vs.length<=sizeLine)
  (hP:∀ (out:List Keyed) h',out.Perm (keys.zip vs)->(out.Pairwise fun a b=>O.kle (key a) (key b))->(∀ b o,b≠a->b≠kS->s.heap.get? b=some o->h'.get? b=some o)->(∃ n,h'.get? a=some (seqObj "list" (out.map (·.2)).toArray n)) ->
   P (.done (.ret .none)) { s with heap:=h' }) :
  wpAny (model prog w) A (ksk_end a false vs.toArray e1 (.ref kS) keys.toArray) P E s:=by
 have hzip:keys.toArray.zip vs.toArray=(keys.zip vs).toArray:=by simp
 have hzl:(keys.zip vs).length=vs.length:=by rw[Zfg];lia
 have hlen:vs.toArray.size=vs.length:=by simp
 unfold ksk_end
 simp only[Zv,if_false]
 by_cases h2:vs.toArray.size<2
 ·rw[if_pos h2]
  refine Z0 (Z4 ?_)
  rw[if_pos h2,Zcp]
  refine Z0 (Z4 ?_)
  refine Z5B ho hk hne (by lia) rfl (by show (keys.toArray.zip vs.toArray).size<=_;rw[hzip];simp;lia) fun h' k1 k2=>?_
  refine hP (keys.zip vs) h' (Uv _) ?_ k1 ?_
  ·have:(keys.zip vs).length<2:=by lia
   rcases hq:keys.zip vs with _|⟨v,_|⟨v2,r⟩⟩
   ·exact U1
   ·exact Z4N _ _
   ·rw[hq] at this;simp at this;lia
  ·obtain⟨n,q⟩:=k2
   refine⟨n,?_⟩
   rw[q]
   show some (seqObj "list" ((keys.toArray.zip vs.toArray).map (·.2)) n)=_
   rw[hzip,List.map_toArray]
 ·rw[if_neg h2]
  refine Z0 (S.kind (by lia) _ _ _ _ he ?_)
  rw[if_neg h2]
  have g0:∀ x∈((keys.zip vs).toArray).toList,G x:=by
   intro x q
   have q:x∈keys.zip vs:=by simpa using q
   obtain⟨x1,x2⟩:=x
   exact hG _ _ (S.good _ (MV q).1)
  refine Z0 (Y1 (Z4Q (aE:=(keys.zip vs).toArray) (key:=key) (G:=G) (kd:=kd) (st:=WY kd (keys.toArray.zip vs.toArray) #[] 7 none)
   (Q:=fun _ st'=>(arrOf st').Perm (keys.zip vs).toArray/\failedOf st'=none/\Up key (arrOf st').toList)
   (S.asks _ he) g0 (by show (keys.toArray.zip vs.toArray).Perm _;rw[hzip]) rfl rfl rfl fun st' a1 a2 a3=>⟨a1,a2,a3⟩) ?_ fun _ _ e=>e)
  rintro⟨⟨⟩,st'⟩ s' ⟨rfl,hp,hf,hs⟩
  have z:=ZbW hp hs
  refine Z5B ho hk hne (by lia) hf (ZF (Z7p (hp.size_eq.trans (by simp;lia))) hz) fun h' k1 k2=>?_
  refine hP _ h' z.1 z.2 k1 ?_
  obtain⟨n,q⟩:=k2
  exact⟨n,by rw[q,<- ZcC]⟩
end
end Sg
namespace L2
open PySem PySem.Spec PyProof.Rows PySem.W
section
variable {X:Cx}{pins:Pn_}{σ:St}{H:Hp}{s:Shared}
noncomputable def Cx.within (X:Cx)(A':Around):Cx:={ X with A:=A',xe:=fun _ _=>False }
theorem Inv.within (I:Inv X pins σ H s)(h1:A'.handled=X.A.handled)(h2:A'.frames=X.A.frames):Inv (X.within A') pins σ H s :=
 let k:=I.ok
 ⟨⟨k.mod,k.kind,k.glob,k.blt,k.above,k.inj,k.has,k.cab,fun h=>h1.trans (k.hd h),h2.trans k.frames,k.stk,k.exf,k.bs,k.bsz,k.noex,k.exfs,k.funs,k.frf⟩,I.os,I.bare,I.base,I.loc,I.cell,I.free,I.freeC,I.pin,I.hok,I.len⟩
theorem Inv.without(I0:X.Ok)(I:Inv (X.within A') pins σ H s):Inv X pins σ H s :=
 ⟨I0,I.os,I.bare,I.base,I.loc,I.cell,I.free,I.freeC,I.pin,I.hok,I.len⟩
structure KeysAt (X:Cx)(pins:Pn_)(σ:St)(H:Hp)(O:Hid)(kS:Addr)(kts:Lt_)(j:Nat)(s:Shared):Prop where
 ex:∃ H' ks kv e,Inv X pins σ H' s/\Jl H H'/\Z0G X pins H' kS/\s.heap.get? kS=some (seqObj "list" (Qn ks) e)/\Uh kv ks/\ZX X.K (less H' O) kv (kts.take j)/\ks.length=j
theorem Z9b(F:Me X.prog X.w X.K X.mg X.base CX0 k f fd ps (spF X.K φ))(hb:Binds X.K fd ps [])(hr:Nm k X.A)
  (hO:∀ b,O.has b->∃ o,H b=some o/\Bw o) (rx:RelV y x) (by':JG X.K (less H O) y t) (aN:φ [t]=some kt) (hk:kts[j]?=some kt) (hj:j<=sizeLine) (K:KeysAt X pins σ H O kS kts j s) :
  wpAny (model X.prog X.w) X.A (call (.ref f) [x]) (fun k s'=>wpAny (model X.prog X.w) X.A (Builtin.List.listUpdate (.ref kS) (·.push k)) (fun _ s''=>KeysAt X pins σ H O kS kts (j+1) s'') X.xe s') X.xe s:=by
 refine W_ fun n9=>?_;obtain⟨H',ks,kv,e,I,sm,fp,hS,rv,bk,hl⟩:=K.ex
 obtain⟨f0,f1,f2,f3,f4,f5⟩:=fp;apply n9;clear n9
 have I2:Inv X (pins++[(kS,seqObj "list" (Qn ks) e)]) σ H' s:=I.pins_of fun p hp=>by
  rcases ZR.mp hp with q|q
  ·exact I.pin p (Zs _ q)
  ·rw[ZS] at q
   subst q
   exact⟨hS,f0,f1,f2,fun v z=>by cases z⟩
 refine thn (Z7U (Q:=fun v H2=>Jl H' H2/\JG X.K (less H2 O) v kt) F hr hb .nil Zen I2 (.cons rx .nil) ?_) fun u s1 ⟨v,H2,I3,rv2,s2,b2⟩=>?_
 ·show spF X.K φ [y] H' _ E0
  refine⟨O.has,[t],kt,fun b hb=>?_,?_,aN,fun v H2 s2 b2=>⟨s2,?_⟩⟩
  ·refine W_ fun n9=>?_;obtain⟨o,ho,n⟩:=hO b hb;apply n9;clear n9
   exact⟨o,sm _ _ ho,n⟩
  ·rw[WE]
   exact .cons (by'.mono (JU sm)) .nil
  ·rw[WE] at b2
   exact b2
 ·refine W_ fun n9=>?_;obtain⟨e1,n1,-⟩:=I3.pin (kS,seqObj "list" (Qn ks) e) (Zs _ (Zs _ Z1));apply n9;clear n9
  have I4:Inv X pins σ H2 s1:=I3.pins_of fun p hp=>I3.pin p (Zs _ (Js _ hp))
  refine N6 e1 rfl ?_ (by rw[Zr,hl];exact hj) (by rw[Array.size_push,Zr,hl];lia)
  have I5:=I4.turned (it:=kS) (t':=s1.toks) (h':=s1.heap.update kS (Yz (·.push u))) (fun b o hb q=>by rw[JJ _ _ _ _ hb];exact q) n1 f1 f3 f4 f5
  have hS':=M7 e1 (·.push u)
  rw[Zcu] at hS'
  refine⟨H2,ks++[u],kv++[v],_,I5,sm.trans s2,⟨n1,f1,f2,f3,f4,f5⟩,hS',rv.append (.cons rv2 .nil),?_,by simp[hl]⟩
  rw[List.take_add_one,hk]
  exact (bk.mono (JU s2)).append (.cons b2 .nil)
theorem Z9c {k:Nat}{f kS a:Addr}{fd:Jc}{ps:Ls_}{φ:Lt_->Option Th}{O:Hid}{ts kts:Lt_}{us:Lu_}{ys:Lv_}{e1:Nat}{P:PySem.Fin->Shared->Prop}{E:Ps_}
  (F:Me X.prog X.w X.K X.mg X.base CX0 k f fd ps (spF X.K φ)) (hb:Binds X.K fd ps []) (hr:Nm k X.A) (hO:∀ b,O.has b->∃ o,H b=some o/\Bw o) (hxe:∀ e s,X.xe e s->False) (rv:Uh ys us) (b:ZX X.K (less H O) ys ts) (hk:Paired (fun t kt=>φ [t]=some kt) ts kts) (hz:us.length<=sizeLine)
  (K0:KeysAt X pins σ H O kS kts 0 s)
  (hE:∀ s',KeysAt X pins σ H O kS kts us.length s'->wpAny (model X.prog X.w) X.A (Builtin.List.listItems (.ref kS)>>=fun keys=>ksk_end a false us.toArray e1 (.ref kS) keys) P E s') :
  wpAny (model X.prog X.w) X.A (ksk_rest a (.ref f) false us.toArray e1 (.ref kS)) P E s:=by
 unfold ksk_rest
 refine Z0 (Gb ?_)
 first
  |rw[List.forIn_toArray]
  |(rw[<- Qj];simp only[Za2])
  |rw[<- Qj]
 refine Z0 (ksk_fold (fun i s'=>KeysAt X pins σ H O kS kts i s') us 0 s K0 ?_ ?_)
 ·intro j x s' hx K
  rw[JA] at K ⊢
  have hj:j<us.length:=(Ji.mp hx).1
  have hy:j<ys.length:=by rw[rv.length];exact hj
  have ht:j<ts.length:=by rw[<- b.length];exact hy
  refine W_ fun n9=>?_;obtain⟨kt,hkt,cG⟩:∃ kt,kts[j]?=some kt/\φ [ts[j]]=some kt:=by
   have hkl:kts.length=ts.length:=hk.length.symm
   obtain⟨t',h1,h2⟩:=Z2k hk (i:=j) (Zd (by lia))
   rw[Zd ht] at h1
   cases h1
   exact⟨_,Zd (by lia),h2⟩
  obtain⟨y,hyy,byy⟩:=b.get (Zd ht)
  obtain⟨u,hu,ru⟩:=rv.get hyy;apply n9;clear n9
  rw[hx] at hu
  cases hu
  refine Z0 (Do (Y1 (Z9b F hb hr hO ru byy cG hkt (by lia) K) (fun v s'' q=>?_) fun e s'' q=>(hxe e s'' q).elim))
  refine Z0 (Y1 q (fun _ s3 q3=>Z4 ⟨rfl,q3⟩) fun e s3 q3=>(hxe e s3 q3).elim)
 ·intro s' K
  rw[JA] at K
  exact hE s' K
end
end L2
namespace L2
open PySem PySem.Spec PyProof.Rows PySem.W
section
variable {X:Cx}{pins:Pn_}{σ:St}{H:Hp}{s:Shared}
theorem Z8B (I:Inv X pins σ H s)(b:JG X.K H v (.tup [.int i,.str j]))(r:RelV v u)(hX:Sg.Ext s.heap h):Sg.IsPair Sg.intAtom Sg.strAtom h u ((i:Int),j.cps.toList):=Z3S I b r (fun _ _=>ZeR) (fun _ _=>ZeQ) hX
noncomputable def Zfo:Th->Bool
 |.tup [a,b]=>isIn a&&Zdd b
 |_=>false
theorem Z9l(h:Zfo t=true):∃ i x,t=.tup [.int i,.str x]:=by
 cases t with
 |tup l =>
  cases l with
  |nil=>cases h
  |cons a l=>cases l with
   |nil=>cases h
   |cons b l=>cases l with
    |nil =>
     have h:(isIn a&&Zdd b)=true:=h
     rw[ZP] at h
     obtain⟨i,rfl⟩:=Z4e h.1
     obtain⟨x,rfl⟩:=Cf h.2
     exact⟨i,x,rfl⟩
    |cons=>cases h
 |_=>cases h
inductive leK:Th->Th->Prop where
 |is {a c:Int} {b d:Str} (h:a<c\/(a=c/\leS b d)):leK (.tup [.int a,.str b]) (.tup [.int c,.str d])
theorem ZbS(h1:leK x y)(h2:leK y x):x=y:=by
 cases h1 with
 |@is a c b d h=>cases h2 with
  |is h' =>
   have e1:a=c:=by lia
   subst e1
   have q1:leS b d:=by rcases h with z|z;exact absurd z (by simp);exact z.2
   have q2:leS d b:=by rcases h' with z|z;exact absurd z (by lia);exact z.2
   rw[WF q1 q2]
theorem Z6S (I:Inv X pins σ H s):∀ {kv:Lv_} {ks:Lu_} {kts:Lt_},Uh kv ks->ZX X.K H kv kts->kts.all Zfo=true->∀ u∈ks,∃ k,Sg.IsPair Sg.intAtom Sg.strAtom s.heap u k:=by
 intro kv ks kts h
 induction h generalizing kts with
 |nil=>intro _ _ u h;cases h
 |cons r rs ih=>intro b ha u h;cases b with
  |cons b bs =>
   rw[Uj,ZP] at ha
   rcases Zc.mp h with rfl|h
   ·obtain⟨i,x,rfl⟩:=Z9l ha.1
    exact⟨_,Z8B I b r fun _ _ e=>e⟩
   ·exact ih bs ha.2 u h
end
end L2
namespace L2
open PySem PySem.Spec PyProof.Rows PySem.W
def KeyLe (φ:Lt_->Option Th)(a b:Th):Prop:=∃ x y,φ [a]=some x/\φ [b]=some y/\leK x y
structure KeyOk (φ:Lt_->Option Th)(ts:Lt_):Prop where
 st:ts.all Zdd=true
 is:∀ t∈ts,∃ k,φ [t]=some k/\Zfo k=true
 inj:∀ t∈ts,∀ u∈ts,φ [t]=φ [u]->t=u
theorem KeyOk.anti(k:KeyOk φ ts)(ha:a∈ts)(hb:b∈ts)(h1:KeyLe φ a b)(h2:KeyLe φ b a):a=b:=by
 obtain⟨x,y,e1,e2,l1⟩:=h1
 obtain⟨y',x',e3,e4,l2⟩:=h2
 rw[e2] at e3
 rw[e1] at e4
 cases e3
 cases e4
 exact k.inj a ha b hb (by rw[e1,e2,ZbS l1 l2])
open Classical in
noncomputable def Z22 (φ:Lt_->Option Th)(ts:Lt_):Option (Lt_):=if h:KeyOk φ ts/\∃ r:Lt_,r.Perm ts/\r.Pairwise (KeyLe φ) then some h.2.choose else none
theorem Z53(k:KeyOk φ ts)(hp:r.Perm ts)(hs:r.Pairwise (KeyLe φ)):Z22 φ ts=some r:=by
 have h:KeyOk φ ts/\∃ r:Lt_,r.Perm ts/\r.Pairwise (KeyLe φ):=⟨k,r,hp,hs⟩
 unfold Z22
 rw[dif_pos h,JB.eq_of_pairwise (fun a b ha hb=>k.anti (h.2.choose_spec.1.mem_iff.mp ha) (hp.mem_iff.mp hb)) h.2.choose_spec.2 hs (h.2.choose_spec.1.trans hp.symm)]
theorem ZaD(h:Z22 φ ts=some r):KeyOk φ ts:=by
 unfold Z22 at h
 split at h
 ·rename_i z;exact z.1
 ·cases h
theorem Zh1 {x1 y1:Int}{x2 y2:List Nat}(h:(decide (y1<x1)||(!decide (x1<y1)&&decide (y2<x2)))=false):leK (.tup [.int x1,.str ⟨x2.toArray⟩]) (.tup [.int y1,.str ⟨y2.toArray⟩]):=by
 refine .is ?_
 simp only[MF,Dl,Fs,decide_eq_false_iff_not,decide_eq_true_eq] at h
 obtain⟨a1,a2⟩:=h
 rcases a2 with z|z
 ·exact .inl z
 ·by_cases q:x1<y1
  ·exact .inl q
  ·exact .inr ⟨by lia,Nn.mp z⟩
noncomputable def Zib (h:Heap)(u:Value):Th:=let k:=Sg.pairKey Sg.intAtom Sg.strAtom h u;.tup [.int (show Int from k.1),.str ⟨Qn (show List Nat from k.2)⟩]
section
variable {X:Cx}{pins:Pn_}{σ:St}{H:Hp}{s:Shared}{φ:Lt_->Option Th}
theorem Z9d:∀ {ts:Lt_},(∀ t∈ts,∃ k,φ [t]=some k/\Zfo k=true)->∃ kts,Paired (fun t kt=>φ [t]=some kt) ts kts/\kts.all Zfo=true
 |[],_=>⟨[],.nil,rfl⟩
 |t::ts,h=>by
  obtain⟨kts,p,a⟩:=Z9d (ts:=ts) fun u hu=>h u (Z2 _ hu)
  obtain⟨k,e,i⟩:=h t Z1
  exact⟨k::kts,.cons e p,by rw[Uj,i,a];rfl⟩
theorem Zar (I:Inv X pins σ H s){H2:Hp}{kts ts:Lt_}(es:Paired (fun t kt=>φ [t]=some kt) ts kts):∀ {kv ys:Lv_} {ks us:Lu_},Uh kv ks->ZX X.K H kv kts->Uh ys us->ZX X.K H2 ys ts->kts.all Zfo=true->ts.all Zdd=true ->
  ∀ p∈ks.zip us,φ [.str (strOf p.2)]=some (Zib s.heap p.1):=by
 induction es with
 |nil =>
  intro kv ys ks us r1 b1 r2 b2 _ _ p h
  cases b1
  cases r1
  simp at h
 |cons e es ih =>
  intro kv ys ks us r1 b1 r2 b2 ak at' p h
  cases b1 with
  |cons b1 bs1=>cases r1 with
   |cons r1 rs1=>cases b2 with
    |cons b2 bs2=>cases r2 with
     |cons r2 rs2 =>
      rw[Uj,ZP] at ak at'
      rw[NF] at h
      rcases Zc.mp h with rfl|h
      ·obtain⟨i,x,rfl⟩:=Z9l ak.1
       obtain⟨z,rfl⟩:=Cf at'.1
       have q:=Z8B I b1 r1 (fun _ _ e=>e)
       cases b2
       obtain⟨t2,rfl⟩:=r2
       unfold Zib
       rw[Sg.pairKey_of q]
       exact e.trans (by simp)
      ·exact ih rs1 bs1 rs2 bs2 ak.2 at'.2 p h
theorem Zaw {K:Fg_}:∀ {ys:Lv_} {us:Lu_} {ts:Lt_},Uh ys us->ZX K H ys ts->ts.all Zdd=true->us.map (fun u=>Th.str (strOf u))=ts/\∀ u∈us,∃ x t,u=.str x t:=by
 intro ys us ts h
 induction h generalizing ts with
 |nil=>intro b _;cases b;exact⟨rfl,fun _ h=>nomatch h⟩
 |cons r rs ih=>intro b h;cases b with
  |cons b bs =>
   rw[Uj,ZP] at h
   obtain⟨i1,i2⟩:=ih bs h.2
   obtain⟨x,rfl⟩:=Cf h.1
   cases b
   obtain⟨t,rfl⟩:=r
   refine⟨by rw[Zw,i1];rfl,fun u m=>?_⟩
   rcases Zc.mp m with rfl|m
   ·exact⟨_,_,rfl⟩
   ·exact i2 u m
theorem Cw {K:Fg_}:∀ {us:Lu_},(∀ u∈us,∃ x t,u=.str x t)->ZX K H (us.map nuV) (us.map fun u=>Th.str (strOf u))
 |[],_=>.nil
 |u::us,h=>by
  obtain⟨x,t,rfl⟩:=h u Z1
  exact .cons (.str x) (Cw fun u m=>h u (Z2 _ m))
theorem Z70(F:Me X.prog X.w X.K X.mg X.base CX0 k f fd ps (spF X.K φ))(hb:Binds X.K fd ps [])(hr:Nm (k+2) X.A)
  (hO:∀ b,O.has b->∃ o,H b=some o/\Bw o) (I:Inv X pins σ H s) (hq:SqT X.K H a xs) (bx:ZX X.K (less H O) xs ts) (hs:Z22 φ ts=some r) (hQ:∀ v H',Jl H H'->Zfk X.K H H' O v r->Q v H') :
  wpAny (model X.prog X.w) X.A (call (.builtin "sorted") [.ref a] [(Zq "key",.ref f)]) (EP X pins σ Q) X.xe s:=by
 refine W_ fun n9=>?_;obtain⟨us,rv,⟨o,ho,hc,n,hd⟩,hz⟩:=I.tuple hq
 have hz:us.length<=sizeLine:=by rw[<- rv.length];exact hz
 have ok:=ZaD hs
 obtain⟨kts,pk,ak⟩:=Z9d ok.is;apply n9;clear n9
 refine call_function_entry_kw kind_sorted plain_sorted entry_sorted (ksk_s1 _ _) ?_
 unfold Z7f
 refine Z0 (m:=checkCount "sorted" 1 1 _) (Z4 ?_)
 refine Z0 (wpAny_collect_seq a (T:="tuple") (.inr rfl) ho hc hd (fun h1 x1=>?_) (by simpa using hz))
 rw[Za2]
 refine Z0 (Dn ?_ hz)
 have I1:Inv X pins σ H { s with heap:=h1 }:=I.kept (t':=s.toks) x1
 have fpL:=I1.fpOk (b:=h1.objs.size) (Z7 _) (I1.hok.fresh (Z7 _))
 have hoL:(h1.push (seqObj "list" us.toArray 0)).get? h1.objs.size=some (seqObj "list" us.toArray 0):=Zl _ rfl
 show wpAny _ _ _ _ _ { s with heap:=h1.push (seqObj "list" us.toArray 0) }
 refine Z0 (Jx (wpAny_call_entry_kw ZjN ⟨_,hoL,rfl⟩ Zjt ?body (ksk_l1 _ _)))
 case body =>
  show wpAny (model X.prog X.w) X.A.in1.in1 (Builtin.«list.sort» ⟨[.ref h1.objs.size],[(Zq "key",.ref f)]⟩) _ _ _
  rw[ksk_t1]
  unfold ksk_tree
  refine Z0 (BU hoL rfl ?_)
  refine Z0 (N6 hoL rfl ?_ (by simpa using hz) (Jh _))
  obtain⟨e1,ho1⟩:∃ e1,((h1.push (seqObj "list" us.toArray 0)).update h1.objs.size (Yz fun _=>#[])).get? h1.objs.size=some (seqObj "list" #[] e1):=⟨_,M7 hoL (fun _=>#[])⟩
  refine Z0 (CH ho1 rfl ?_)
  refine Z0 (Z7h ?_ (by simpa using hz))
  have x3:Sg.Ext h1 (((h1.push (seqObj "list" us.toArray 0)).update h1.objs.size (Yz fun _=>#[])).push (seqObj "tuple" us.toArray 0)):=fun b o e=>by
   refine Z3 _ ?_
   rw[JJ _ _ _ _ (ZE (Zy e))]
   exact Z3 _ e
  have ho3:=Z3 (seqObj "tuple" us.toArray 0) ho1
  generalize hh3:((h1.push (seqObj "list" us.toArray 0)).update h1.objs.size (Yz fun _=>#[])).push (seqObj "tuple" us.toArray 0)=h3 at x3 ho3
  have I3:Inv X (pins++[(h1.objs.size,seqObj "list" #[] e1)]) σ H { s with heap:=h3 }:=(I1.kept (t':=s.toks) x3).pins_of fun p hp=>by
   rcases ZR.mp hp with q|q
   ·exact (I1.kept (t':=s.toks) x3).pin p (Zs _ q)
   ·rw[ZS] at q
    subst q
    exact⟨ho3,fpL.1,fpL.2.1,fpL.2.2.1,fun v z=>by cases z⟩
  have I3':Inv (X.within X.A.in1.in1) (pins++[(h1.objs.size,seqObj "list" #[] e1)]) σ H { s with heap:=h3 }:=I3.within rfl rfl
  have fpK:=I3'.fpOk (b:=h3.objs.size) (Z7 _) (I3'.hok.fresh (Z7 _))
  have hne:h3.objs.size≠h1.objs.size:=G5 (Zy ho3)
  have I4:Inv (X.within X.A.in1.in1) (pins++[(h1.objs.size,seqObj "list" #[] e1)]) σ H { s with heap:=h3.push (seqObj "list" #[] 0) }:=I3'.kept (t':=s.toks) fun b u e=>Z3 _ e
  refine Z0 (Dn ?_ (Jh _))
  refine Jx ?_
  show wpAny _ _ _ _ _ { s with heap:=h3.push (seqObj "list" #[] 0) }
  refine Z9c (X:=X.within X.A.in1.in1) F hb hr.in1.in1 hO (fun e s h=>h) rv bx pk hz ⟨H,[],[],0,I4,fun _ _ e=>e,fpK,Zl _ rfl,.nil,.nil,rfl⟩ fun s' K=>?_
  refine W_ fun n9=>?_;obtain⟨H',ks,kv,e,I7,sm,fp7,hS7,rvk,bk,hl⟩:=K.ex
  have hkl:kts.length=us.length:=by rw[<- pk.length,<- bx.length,rv.length]
  rw[Yp (by lia)] at bk
  obtain⟨pL,nL,-⟩:=I7.pin (h1.objs.size,seqObj "list" #[] e1) (Zs _ (Zs _ Z1));apply n9;clear n9
  refine Z0 (BU hS7 rfl ?_)
  have bk2:=bk.mono (Jt H' O)
  refine Sg.key_end (Sg.sorts_pairs Sg.intAtom Sg.strAtom s'.heap (Z6S I7 rvk bk2 ak)) (fun k v h=>h) hl pL hS7 hne (Sg.Ext.refl _) hz fun out h' o1 o2 keep hL'=>⟨_,rfl,?_⟩
  refine Z4 ⟨_,rfl,?_⟩
  refine W_ fun n9=>?_;obtain⟨n',hL'⟩:=hL'
  have zk:=Zar I7 pk rvk bk2 rv bx ak ok.st
  obtain⟨tx1,tx2⟩:=Zaw rv bx ok.st;apply n9;clear n9
  have mo:∀ p∈out,p∈ks.zip us:=fun p hp=>o1.mem_iff.mp hp
  have mu:∀ u∈out.map (·.2),u∈us:=fun u hu=>by
   obtain⟨p,hp,rfl⟩:=Zu.mp hu
   exact (MV (a:=p.1) (b:=p.2) (mo p hp)).2
  have er:r=(out.map (·.2)).map fun u=>Th.str (strOf u):=by
   have pm:((out.map (·.2)).map fun u=>Th.str (strOf u)).Perm ts:=by
    have z:=(o1.map (·.2)).map fun u=>Th.str (strOf u)
    rw[Zdr (by lia),tx1] at z
    exact z
   have pw:((out.map (·.2)).map fun u=>Th.str (strOf u)).Pairwise (KeyLe φ):=by
    rw[YS,YS]
    refine o2.imp_of_mem fun {p q} hp hq' hle=>⟨_,_,zk p (mo p hp),zk q (mo q hq'),?_⟩
    have hle:(Sg.lexOrd Sg.intOrd strKind.toKeyOrd).blt (Sg.pairKey Sg.intAtom Sg.strAtom s'.heap q.1) (Sg.pairKey Sg.intAtom Sg.strAtom s'.heap p.1)=false:=hle
    unfold Zib
    generalize Sg.pairKey Sg.intAtom Sg.strAtom s'.heap p.1=x at hle
    generalize Sg.pairKey Sg.intAtom Sg.strAtom s'.heap q.1=y at hle
    obtain⟨x1,x2⟩:=x
    obtain⟨y1,y2⟩:=y
    exact @Zh1 x1 y1 x2 y2 hle
   have:=Z53 ok pm pw
   rw[hs] at this
   exact Jd this
  have lo:(out.map (·.2)).length=us.length:=by rw[Z5,o1.length_eq,Zfg];lia
  have I8:Inv X pins σ H' s':=Inv.without I.ok (I7.pins_of fun p hp=>I7.pin p (Zs _ (Js _ hp)))
  have I9:Inv X pins σ H' { s' with heap:=h' }:=I8.turned2 (t':=s'.toks) (e:=h1.objs.size) (it:=h3.objs.size) (fun b o b1 b2 q=>keep b o b1 b2 q) nL fpL.2.1 fpL.2.2.2.1 fpL.2.2.2.2.1 fpL.2.2.2.2.2
   fp7.1 fp7.2.1 fp7.2.2.2.1 fp7.2.2.2.2.1 fun p hp=>fp7.2.2.2.2.2 p (by
    rcases ZR.mp hp with q|q
    ·exact Js _ q
    ·exact Zs _ (Js _ q))
  have s0:X.aK.heap.objs.size<=h1.objs.size:=I1.sz
  refine⟨.ref h1.objs.size,upd H' h1.objs.size (.lst ((out.map (·.2)).map nuV)),I9.track nL s0 fpL.2.1 fpL.2.2.2.2.1 fpL.2.2.2.2.2 ⟨?_,_,n',D2 fun u hu=>Z4U rv u (mu u hu),hL'⟩,rfl,?_⟩
  ·rw[Z5,lo];exact hz
  ·refine hQ _ _ (sm.trans (Jl.upd nL)) ⟨_,_,rfl,fpL.1,JL,?_⟩
   rw[er]
   exact Cw fun u hu=>tx2 u (mu u hu)
end
section
variable {X:Cx}{K:Fg_}{e:Expr}{fs:FL}{p pos kp kq:Pos}{k:Nat}{x:Str}{φ:Lt_->Option Th}
noncomputable def Z0m (φ:Lt_->Option Th)(fs:FL):FL:=fun d=>(fs d).bind fun Ts=>match Ts with|[.tup ts]=>Z22 φ ts|_=>none
theorem ZaX (c:Callee X.prog X.w X.K X.mg X.base k x φ) (hr:Nm (k+2) X.A) (hx:Gl X x) (hg:Gl X "sorted") (hm:X.mg "sorted"=none) (ha:PBA X [e] fs) (hdb:(x == ("__debug__":Str))=false)
  (he:backTo pos (starEach [e] X.env)=(false,eval e X.env)::backTo pos (starEach [] X.env)) (hplain:(backTo pos (starEach [e] X.env)).any (·.1)=false)
  (hall:(backToKw pos (keywordEach [⟨some (Zq "key"),.Name x kq,kp⟩] X.env)).all (·.1.isSome)=true) (hkw:(backToKw pos (keywordEach [⟨some (Zq "key"),.Name x kq,kp⟩] X.env)).any (·.1.isNone)=false)
  (hz:∀ v:Value,((backToKw pos (keywordEach [⟨some (Zq "key"),.Name x kq,kp⟩] X.env)).filterMap (·.1)).zip [v]=[(Zq "key",v)]) :
  PF X (.Call (.Name "sorted" p) [e] [⟨some (Zq "key"),.Name x kq,kp⟩] pos) (Z0m φ fs):=by
 intro pins s σ H Q I ⟨O,d,T,R,ef,q⟩
 refine W_ fun n9=>?_;obtain⟨f,fd,ps,F,hmx,hk,hb⟩:=c.ex;apply n9;clear n9
 unfold Z0m at ef
 cases hf:fs d with
 |none=>rw[hf] at ef;cases ef
 |some Ts =>
  rw[hf] at ef
  match Ts,hf,ef with
  |[.tup ts],hf,ef =>
   change Z22 φ ts=some T at ef
   refine GG (BW I hg hm (by rfl) ?_ (by decide) (by decide))
   refine Zfq ?_ he hplain hall hkw
   refine thn (ha pos pins s σ H _ I ⟨O,d,_,R,hf,fun vs H1 s1 b1=>(⟨s1,b1⟩:Jl H H1/\Paired (BA X.K H1 O) vs [.tup ts])⟩) fun us s1 z1_=>?_
   refine W_ fun n9=>?_;obtain ⟨vs,H1,I1,r1,sm,b1⟩:=z1_
   obtain⟨v1,rfl,b3⟩:=NZ b1
   obtain⟨u1,rfl,ru⟩:=vals1 r1
   obtain⟨a,xs,rfl,hq,bx⟩:=b3.tup;apply n9;clear n9
   cases ru
   refine Zk5 (Z49 I1 hx hmx (kws_nil ?_) hdb)
   rw[hz]
   refine Z70 F hb hr (fun b hb=>(R.mono sm).there b hb) I1 ((Jt _ _).seqT hq) bx ef fun v H' s2 fr=>q v H' (sm.trans s2) ?_
   refine W_ fun n9=>?_;obtain⟨b,zs,h1,h2,h3,h4⟩:=fr;apply n9;clear n9
   refine⟨b,zs,h1,?_,h3,h4⟩
   cases hH:H b with
   |none=>rfl
   |some o=>rw[sm b o hH] at h2;cases h2
end
end L2
namespace L2
open PySem PySem.Spec PyProof.Rows PySem.W
noncomputable def cmT (g:Bool):Th->Th->Option Bool
 |.tup ts,.tup us=>(GX ts).bind fun ns=>(GX us).bind fun ms=>HT.lexG g ns ms
 |_,_=>none
noncomputable def Bt (lt:Th->Th->Option Bool)(φ:Lt_->Option Th):Th->Th->Lt_->Option Th
 |t,_,[]=>some t
 |t,kt,u::r=>(φ [u]).bind fun ku=>(lt ku kt).bind fun b=>if b=true then Bt lt φ u ku r else Bt lt φ t kt r
section
variable {X:Cx}{pins:Pn_}{σ:St}{H:Hp}{s:Shared}
theorem Zj1 {op:CmpOp}{g:Bool}(o:HT.OpG op g)(I:Inv X pins σ H s){A:Around}(hu:A.units<cLine){x y:V}{u v:Value}{t t':Th}{b:Bool}{Q:Ps_}{E:Ps_}(rx:RelV x u)(bx:JG X.K H x t)(ry:RelV y v)(by':JG X.K H y t')(h:cmT g t t'=some b)(hQ:Q (.bool b) s) :
  wpAny (model X.prog X.w) A (richCompare op u v) Q E s:=by
 unfold cmT at h
 split at h
 ·rename_i ts us
  cases h1:GX ts with
  |none=>rw[h1] at h;cases h
  |some ns =>
   rw[h1] at h
   cases h2:GX us with
   |none=>rw[h2] at h;cases h
   |some ms =>
    rw[h2] at h
    have h:HT.lexG g ns ms=some b:=h
    cases bx with
    |tup g1 b1=>cases by' with
     |tup g2 b2 =>
      cases rx
      cases ry
      refine W_ fun n9=>?_;obtain⟨its,r1,p1,_⟩:=I.tuple g1
      obtain⟨its2,r2,p2,_⟩:=I.tuple g2;apply n9;clear n9
      have q:=(HT.cmp_tupKeys o p1 p2 (by simpa using Qx h1 b1 r1) (by simpa using Qx h2 b2 r2) h hu hQ:wpAny (model X.prog X.w) A (compareOp op _ _) Q E s)
      rcases id o with ⟨rfl,rfl⟩|⟨rfl,rfl⟩ <;> exact q
 ·cases h
noncomputable abbrev ZiF {F:String->CmpOp->Builtin} (_:F "min" .Lt=Builtin.«min.loop»):String->CmpOp->Builtin:=F
noncomputable def mmL:String->CmpOp->Builtin:=ZiF rfl
noncomputable abbrev ZiP {F:String->Builtin} (_:F "min"=Zap):String->Builtin:=F
noncomputable def mmH:String->Builtin:=ZiP rfl
structure MM (nm:String)(op:CmpOp)(g:Bool):Prop where
 o:HT.OpG op g
 boot:bootBuiltins (Zq nm)=some (.builtin nm)
 nn:Zq nm≠"__name__"
 nd:(Zq nm == ("__debug__":Str))=false
 kind:builtinKind nm=none
 plain:plainId nm=true
 entry:entryFor table nm=some (mmH nm)
 args:∀ a v,argsOk nm ⟨[a],[(Zq "key",v)]⟩
 pl:plainId (toString nm++toString ".loop")=true
 el:entryFor table (toString nm++toString ".loop")=some (mmL nm op)
theorem ZgW:MM "min" .Lt false:=⟨.inl ⟨rfl,rfl⟩,by rfl,by decide,by decide,PySem.F.kind_min,PySem.F.plain_min,PySem.F.entry_min,kmk_min_key,by rw[Bm];exact PySem.F.plain_min_loop,by rw[Bm];exact PySem.F.entry_min_loop⟩
theorem Z8R:(toString "max"++toString ".loop":String)="max.loop":=by decide
theorem ZgX:MM "max" .Gt true:=⟨.inr ⟨rfl,rfl⟩,by rfl,by decide,by decide,PySem.F.kind_max,PySem.F.plain_max,PySem.F.entry_max,kmk_max_key,by rw[Z8R];exact PySem.F.plain_max_loop,by rw[Z8R];exact PySem.F.entry_max_loop⟩
structure ZhA (X:Cx)(pins:Pn_)(σ:St)(H:Hp)(O:Hid)(S J l:Addr)(t kt:Th)(j:Nat)(s:Shared):Prop where
 ex:∃ H' vb kb yb yk c,Inv X pins σ H' s/\Jl H H'/\Z0G X pins H' S/\Z0G X pins H' J/\s.heap.get? S=some (seqObj "list" #[vb,kb] c)/\s.heap.IsTupleIter J l j/\RelV yb vb/\JG X.K (less H' O) yb t/\RelV yk kb/\JG X.K (less H' O) yk kt
def Zhw (X:Cx)(pins:Pn_)(σ:St)(H:Hp)(O:Hid)(tm:Th)(v:Value)(s:Shared):Prop:=∃ H' y,Inv X pins σ H' s/\Jl H H'/\RelV y v/\JG X.K (less H' O) y tm
theorem ZgU {h:Heap}{l J:Addr}{i:Nat}{its:Au_}(a:h.IsTuple l its)(b:h.IsTupleIter J l i):l≠J:=by
 rintro rfl
 obtain⟨o,e,c,-⟩:=a
 obtain⟨o',e',c',-⟩:=b
 rw[e] at e'
 cases e'
 rw[c] at c'
 revert c'
 decide
theorem Cd {k:Nat}{f S J:Addr}{fd:Jc}{ps:Ls_}{φ:Lt_->Option Th}{O:Hid}{H':Hp}{x:Value}{y:V}{t kt:Th}{oS oJ:Obj}{Q:Ps_}(F:Me X.prog X.w X.K X.mg X.base CX0 k f fd ps (spF X.K φ))(hb:Binds X.K fd ps [])(hr:Nm k X.A)
  (hO:∀ b,O.has b->∃ o,H' b=some o/\Bw o) (rx:RelV y x) (by':JG X.K (less H' O) y t) (aN:φ [t]=some kt) (I:Inv X pins σ H' s) (fS:Z0G X pins H' S) (fJ:Z0G X pins H' J) (hS:s.heap.get? S=some oS) (hJ:s.heap.get? J=some oJ) (nS:∀ v,oS.data≠.cell v) (nJ:∀ v,oJ.data≠.cell v)
  (hQ:∀ v s' H2 z,Inv X pins σ H2 s'->Jl H' H2->Z0G X pins H2 S->Z0G X pins H2 J->s'.heap.get? S=some oS->s'.heap.get? J=some oJ->RelV z v->JG X.K (less H2 O) z kt->Q v s') :
  wpAny (model X.prog X.w) X.A (call (.ref f) [x]) Q X.xe s:=by
 have I2:Inv X (pins++[(S,oS),(J,oJ)]) σ H' s:=I.pins_of fun p hp=>by
  rcases ZR.mp hp with q|q
  ·exact I.pin p (Zs _ q)
  ·rcases Zc.mp q with q|q
   ·subst q
    exact⟨hS,fS.1,fS.2.1,fS.2.2.1,nS⟩
   ·rw[ZS] at q
    subst q
    exact⟨hJ,fJ.1,fJ.2.1,fJ.2.2.1,nJ⟩
 refine thn (Z7U (Q:=fun v H2=>Jl H' H2/\JG X.K (less H2 O) v kt) F hr hb .nil Zen I2 (.cons rx .nil) ?_) fun u s1 hh=>?_
 ·show spF X.K φ [y] H' _ E0
  refine⟨O.has,[t],kt,fun b hb=>?_,?_,aN,fun v H2 s2 b2=>⟨s2,?_⟩⟩
  ·exact hO b hb
  ·rw[WE]
   exact .cons by' .nil
  ·rw[WE] at b2
   exact b2
 ·obtain⟨v,H2,I3,rv2,s2,b2⟩:=hh
  obtain⟨e1,n1,-⟩:=I3.pin (S,oS) (Zs _ (Zs _ Z1))
  obtain⟨e2,n2,-⟩:=I3.pin (J,oJ) (Zs _ (Zs _ (Z2 _ Z1)))
  have I4:Inv X pins σ H2 s1:=I3.pins_of fun p hp=>I3.pin p (Zs _ (Js _ hp))
  exact hQ u s1 H2 v I4 s2 ⟨n1,fS.2⟩ ⟨n2,fJ.2⟩ e1 e2 rv2 b2
theorem ZbC(M:MM nm op g)(hA:X.A=A.in1)(hxe:∀ e s,X.xe e s->False)(hh:X.A.handled=none)(hu:X.A.units<cLine)
  (F:Me X.prog X.w X.K X.mg X.base CX0 k f fd ps (spF X.K φ)) (hb:Binds X.K fd ps []) (hr:Nm k X.A) (hO:∀ b,O.has b->∃ o,H b=some o/\Bw o) (hq:SqT X.K H l xs) (bx:ZX X.K (less H O) xs ts) (hSJ:S≠J) (hR:∀ v s',Zhw X pins σ H O tm v s'->R (.ok (.ret v)) s') :
  ∀ (r:Lt_) (j:Nat) (s:Shared) (t kt:Th),j<=ts.length->ts.drop j=r->Bt (cmT g) φ t kt r=some tm->ZhA X pins σ H O S J l t kt j s->codeAny (model X.prog X.w) A (.builtin (toString nm++toString ".loop") ⟨[.ref J,.ref f,.ref S],[]⟩) R s:=by
 intro r
 induction r with
 |nil =>
  intro j s t kt hjle hr' em B
  refine W_ fun n9=>?_;obtain⟨H',vb,kb,yb,yk,c,I,sm,fS,fJ,hS,hit,rb,bb,rk,bk⟩:=B.ex
  obtain⟨its,rv,tp,-⟩:=I.tuple (sm.seqT hq);apply n9;clear n9
  have tp:s.heap.IsTuple l its.toArray:=tp
  have lJ:=ZgU tp hit
  have hlen:its.length=ts.length:=by rw[<- rv.length,bx.length]
  have W:=Z7m (prog:=X.prog) (w:=X.w) hh J l lJ its.toArray
  cases em
  refine Ju M.el ?_
  rw[ZZ M.pl _,<- hA]
  show wpAny _ X.A (seqItems? _>>=_) _ _ s
  refine Z0 (U6 hS rfl ?_)
  show wpAny _ X.A (tryCatch (pyNext _) _>>=_) _ _ s
  have ej:its.toArray.size=j:=by
   have:=MD.mp hr'
   simp
   lia
  refine Z0 (U5 (W.done s _ _ ⟨by rw[ej];exact hit,tp⟩ fun h1 tk k1=>?_))
  have hS1:=k1 S _ (by simpa using hSJ) hS
  show wpAny _ X.A (updateSeq S _>>=_) _ _ _
  refine Z0 ?_
  refine Ga hS1 rfl (Z0 (NL (Z4 ?_)))
  refine hR vb _ ⟨H',yb,?_,sm,rb,bb⟩
  have I1:=I.turned (it:=J) (t':=tk) (h':=h1) (fun b o hb e=>k1 b o (by simpa using hb) e) fJ.1 fJ.2.1 fJ.2.2.2.1 fJ.2.2.2.2.1 fJ.2.2.2.2.2
  exact I1.turned (it:=S) (t':=tk) (fun b o hb q=>by rw[JJ _ _ _ _ hb];exact q) fS.1 fS.2.1 fS.2.2.2.1 fS.2.2.2.2.1 fS.2.2.2.2.2
 |cons u r ih =>
  intro j s t kt hjle hr' em B
  refine W_ fun n9=>?_;obtain⟨H',vb,kb,yb,yk,c,I,sm,fS,fJ,hS,hit,rb,bb,rk,bk⟩:=B.ex
  obtain⟨its,rv,tp,-⟩:=I.tuple (sm.seqT hq);apply n9;clear n9
  have tp:s.heap.IsTuple l its.toArray:=tp
  have lJ:=ZgU tp hit
  have hlen:its.length=ts.length:=by rw[<- rv.length,bx.length]
  have W:=Z7m (prog:=X.prog) (w:=X.w) hh J l lJ its.toArray
  have hjl:j<ts.length:=by
   rcases G6 j ts.length with z|z
   ·exact z
   ·rw[MD.mpr z] at hr';cases hr'
  rw[Yr hjl] at hr'
  injection hr' with hu' hr'
  refine W_ fun n9=>?_;obtain⟨y,hy,byy⟩:=bx.get (Zd hjl)
  obtain⟨v0,hv0,rv0⟩:=rv.get hy;apply n9;clear n9
  rw[hu'] at byy
  unfold Bt at em
  cases aN:φ [u] with
  |none=>rw[aN] at em;cases em
  |some ku =>
   rw[aN] at em
   have em:(cmT g ku kt).bind _=some tm:=em
   cases hlt:cmT g ku kt with
   |none=>rw[hlt] at em;cases em
   |some b =>
    rw[hlt] at em
    have em:(if b=true then Bt (cmT g) φ u ku r else Bt (cmT g) φ t kt r)=some tm:=em
    refine Ju M.el ?_
    rw[ZZ M.pl _,<- hA]
    show wpAny _ X.A (seqItems? _>>=_) _ _ s
    refine Z0 (U6 hS rfl ?_)
    show wpAny _ X.A (tryCatch (pyNext _) _>>=_) _ _ s
    refine Z0 (U5 (W.item j s _ _ (by simp;lia) ⟨hit,tp⟩ fun v h1 tk hv st1 k1=>?_))
    have ev:v=v0:=by
     have hv':its[j]?=some v:=by simpa using hv
     rw[hv0] at hv'
     cases hv'
     rfl
    subst ev
    have hS1:=k1 S _ (by simpa using hSJ) hS
    have I1:=I.turned (it:=J) (t':=tk) (h':=h1) (fun b o hb e=>k1 b o (by simpa using hb) e) fJ.1 fJ.2.1 fJ.2.2.2.1 fJ.2.2.2.2.1 fJ.2.2.2.2.2
    refine W_ fun n9=>?_;obtain⟨oJ,hoJ,cJ,dJ⟩:=id st1.1;apply n9;clear n9
    show wpAny _ X.A (tryCatch (holding [v] (call (.ref f) [v])) _>>=_) _ _ _
    refine Z0 (U5 (Jx (Y1 (Cd F hb hr (fun b hb=>let ⟨o,e,n⟩:=hO b hb;⟨o,sm _ _ e,n⟩) rv0 (byy.mono (JU sm)) aN I1 fS fJ hS1 hoJ (fun v z=>by cases z) (fun v z=>by rw[dJ] at z;cases z) fun kv s2 H2 zk I2 s22 fS2 fJ2 hS2 hJ2 rk2 bk2=>?_) (fun _ _ q=>q) fun e s' q=>(hxe e s' q).elim)))
    show wpAny _ X.A (tryCatch (holding [v,kv] (richCompare op kv kb>>=_)) _>>=_) _ _ _
    refine Z0 (U5 (Jx (Z0 (Zj1 M.o I2 hu rk2 (bk2.mono (Jt _ _)) rk ((bk.mono (JU s22)).mono (Jt _ _)) hlt ?_))))
    refine Z0 (Jx (WO ?_))
    refine Z0 (NL (Z4 ?_))
    cases b with
    |true =>
     simp only[if_true]
     refine Z0 ?_
     refine Ga hS2 rfl (Z0 (NL ?_))
     refine Z4 ⟨Yk M.pl _,ih (j+1) _ u ku hjl hr' em ⟨H2,v,kv,y,zk,_,?_,sm.trans s22,fS2,fJ2,M7 hS2 fun _=>#[v,kv],⟨oJ,?_,cJ,dJ⟩,rv0,byy.mono (JU (sm.trans s22)),rk2,bk2⟩⟩
     ·exact I2.turned (it:=S) (t':=s2.toks) (fun b o hb q=>by rw[JJ _ _ _ _ hb];exact q) fS2.1 fS2.2.1 fS2.2.2.2.1 fS2.2.2.2.2.1 fS2.2.2.2.2.2
     ·rw[JJ _ _ _ _ hSJ.symm];exact hJ2
    |false =>
     simp only[Zv,if_false]
     refine Z0 (NL ?_)
     exact Z4 ⟨Yk M.pl _,ih (j+1) _ t kt hjl hr' em ⟨H2,vb,kb,yb,yk,c,I2,sm.trans s22,fS2,fJ2,hS2,⟨oJ,hJ2,cJ,dJ⟩,rb,bb.mono (JU s22),rk,bk.mono (JU s22)⟩⟩
end
end L2
namespace L2
open PySem PySem.Spec PyProof.Rows PySem.W
section
variable {X:Cx}{pins:Pn_}{σ:St}{H:Hp}{s:Shared}
theorem Zck {nm:String}{op:CmpOp}{g:Bool}(M:MM nm op g){k:Nat}{f a:Addr}{fd:Jc}{ps:Ls_}{φ:Lt_->Option Th}{O:Hid}{xs:Lv_}{t kt tm:Th}{r:Lt_}{Q:VK}(F:Me X.prog X.w X.K X.mg X.base CX0 k f fd ps (spF X.K φ))(hb:Binds X.K fd ps [])(hr:Nm (k+2) X.A)(hh:X.A.handled=none)
  (hO:∀ b,O.has b->∃ o,H b=some o/\Bw o) (I:Inv X pins σ H s) (hq:SqT X.K H a xs) (bx:ZX X.K (less H O) xs (t::r)) (aN:φ [t]=some kt) (em:Bt (cmT g) φ t kt r=some tm) (hQ:∀ v H',Jl H H'->JG X.K (less H' O) v tm->Q v H') :
  wpAny (model X.prog X.w) X.A (call (.builtin nm) [.ref a] [(Zq "key",.ref f)]) (EP X pins σ Q) X.xe s:=by
 refine W_ fun n9=>?_;obtain⟨its,rv,tp,-⟩:=I.tuple hq;apply n9;clear n9
 have tp:s.heap.IsTuple a its.toArray:=tp
 have hul:X.A.in1.units<cLine:=(hr.mono (Ym _)).in1.units0
 refine kmk_tree M.kind M.plain M.entry (M.args _ _) ?_
 show wpAny _ X.A.in1 (G0 nm ["key","default"] 0 ⟨[],[(Zq "key",.ref f)]⟩>>=_) _ _ s
 refine Z0 (Dm (show G0 nm ["key","default"] 0 ⟨[],[(Zq "key",.ref f)]⟩=pure [some (.ref f),none] from rfl) ?_)
 refine Z0 (Z4 ?_)
 refine Z0 (M6 tp ?_)
 refine Z0 (Dn ?_ (Jh _))
 have hlS:(s.heap.push { cls:=.type "tuple_iterator",data:=.fields #[.ref a,.int 0 0] }).objs.size=s.heap.objs.size+1:=WT ..
 rw[hlS]
 have la:a<s.heap.objs.size:=let ⟨o,e,_⟩:=tp;Zy e
 have I1:Inv X pins σ H { s with heap:=(s.heap.push { cls:=.type "tuple_iterator",data:=.fields #[.ref a,.int 0 0] }).push (seqObj "list" #[] 0) }:=I.kept (t':=s.toks) fun b o e=>Z3 _ (Z3 _ e)
 have fJ:=I.fpOk (b:=s.heap.objs.size) (Z7 _) (I.hok.fresh (Z7 _))
 have fS:=I.fpOk (b:=s.heap.objs.size+1) (Ym _) (I.hok.fresh (Ym _))
 have gJ:((s.heap.push { cls:=.type "tuple_iterator",data:=.fields #[.ref a,.int 0 0] }).push (seqObj "list" #[] 0)).get? s.heap.objs.size=some { cls:=.type "tuple_iterator",data:=.fields #[.ref a,.int 0 0] } :=
  Z3 _ (Zl _ rfl)
 have gS:((s.heap.push { cls:=.type "tuple_iterator",data:=.fields #[.ref a,.int 0 0] }).push (seqObj "list" #[] 0)).get? (s.heap.objs.size+1)=some (seqObj "list" #[] 0):=by rw[<- hlS];exact Zl _ rfl
 have tp1:((s.heap.push { cls:=.type "tuple_iterator",data:=.fields #[.ref a,.int 0 0] }).push (seqObj "list" #[] 0)).IsTuple a its.toArray:=(tp.push _).push _
 have hSJ:s.heap.objs.size+1≠s.heap.objs.size:=WN _
 have IW:Inv (X.within X.A.in1) pins σ H { s with heap:=(s.heap.push { cls:=.type "tuple_iterator",data:=.fields #[.ref a,.int 0 0] }).push (seqObj "list" #[] 0) }:=I1.within rfl rfl
 generalize hg:(s.heap.push { cls:=.type "tuple_iterator",data:=.fields #[.ref a,.int 0 0] }).push (seqObj "list" #[] 0)=gg at I1 gJ gS tp1 IW
 have aJ:a≠s.heap.objs.size:=ZE la
 have fin:∀ v s',Zhw (X.within X.A.in1) pins σ H O tm v s'->EP X pins σ Q v s':=fun v s' ⟨H',y,I',sm,ry,by'⟩=>⟨y,H',Inv.without I.ok I',ry,hQ y H' sm by'⟩
 have W:=Z7m (prog:=X.prog) (w:=X.w) (A:=X.A.in1) hh s.heap.objs.size a aJ its.toArray
 cases rv with
 |nil=>cases bx
 |@cons y u ys us ru rv =>
  cases bx with
  |cons b1 b2 =>
   refine Z4 ⟨Yk M.pl _,Ju M.el ?_⟩
   rw[ZZ M.pl _]
   show wpAny _ X.A.in1 (seqItems? _>>=_) _ _ _
   refine Z0 (U6 gS rfl ?_)
   show wpAny _ X.A.in1 (tryCatch (pyNext _) _>>=_) _ _ _
   refine Z0 (U5 (W.item 0 _ _ _ (by simp) ⟨⟨_,gJ,rfl,rfl⟩,tp1⟩ fun v h1 tk hv st1 k1=>?_))
   have ev:v=u:=by
    have hv':(u::us)[0]?=some v:=by simpa using hv
    cases hv'
    rfl
   subst ev
   have hS1:=k1 _ _ (by simpa using hSJ) gS
   have I2:=IW.turned (it:=s.heap.objs.size) (t':=tk) (h':=h1) (fun b o hb e=>k1 b o (by simpa using hb) e) fJ.1 fJ.2.1 fJ.2.2.2.1 fJ.2.2.2.2.1 fJ.2.2.2.2.2
   refine W_ fun n9=>?_;obtain⟨oJ,hoJ,cJ,dJ⟩:=id st1.1;apply n9;clear n9
   show wpAny _ X.A.in1 (tryCatch (holding [v] (call (.ref f) [v])) _>>=_) _ _ _
   refine Z0 (U5 (Jx (Y1 (Cd (X:=X.within X.A.in1) F hb (hr.mono (Ym _)).in1 hO ru b1 aN I2 fS fJ hS1 hoJ (fun v z=>by cases z) (fun v z=>by rw[dJ] at z;cases z) fun kv s2 H2 zk I3 s22 fS2 fJ2 hS2 hJ2 rk2 bk2=>?_) (fun _ _ q=>q) fun e s' q=>q.elim)))
   show wpAny _ X.A.in1 (updateSeq _ _>>=_) _ _ _
   refine Z0 ?_
   refine Ga hS2 rfl ?_
   refine Z4 ⟨Yk M.pl _,ZbC M (X:=X.within X.A.in1) (A:=X.A) (H:=H) rfl (fun e s h=>h) hh hul F hb (hr.mono (Ym _)).in1 hO hq (.cons b1 b2) hSJ (fun v s' h=>fin v s' h) r 1 _ t kt (by simp) rfl em ⟨H2,v,kv,y,zk,_,?_,s22,fS2,fJ2,M7 hS2 fun _=>#[v,kv],⟨oJ,?_,cJ,dJ⟩,ru,b1.mono (JU s22),rk2,bk2⟩⟩
   ·exact I3.turned (it:=s.heap.objs.size+1) (t':=s2.toks) (fun b o hb q=>by rw[JJ _ _ _ _ hb];exact q) fS2.1 fS2.2.1 fS2.2.2.2.1 fS2.2.2.2.2.1 fS2.2.2.2.2.2
   ·rw[JJ _ _ _ _ hSJ.symm];exact hJ2
end
section
variable {X:Cx}{K:Fg_}{e:Expr}{fs:FL}{p pos kp kq:Pos}{k:Nat}{x:Str}{φ:Lt_->Option Th}
noncomputable def mmK (g:Bool)(φ:Lt_->Option Th):Lt_->Option Th
 |[.tup (t::r)]=>(φ [t]).bind fun kt=>Bt (cmT g) φ t kt r
 |_=>none
noncomputable def Zaf (g:Bool)(φ:Lt_->Option Th)(fs:FL):FD:=fun d=>(fs d).bind (mmK g φ)
theorem Zgu (M:MM nm op g) (c:Callee X.prog X.w X.K X.mg X.base k x φ) (hr:Nm (k+2) X.A) (hc:X.calm=true) (hx:Gl X x) (hg:Gl X (Zq nm)) (hm:X.mg (Zq nm)=none) (ha:PBA X [e] fs) (hdb:(x == ("__debug__":Str))=false)
  (he:backTo pos (starEach [e] X.env)=(false,eval e X.env)::backTo pos (starEach [] X.env)) (hplain:(backTo pos (starEach [e] X.env)).any (·.1)=false)
  (hall:(backToKw pos (keywordEach [⟨some (Zq "key"),.Name x kq,kp⟩] X.env)).all (·.1.isSome)=true) (hkw:(backToKw pos (keywordEach [⟨some (Zq "key"),.Name x kq,kp⟩] X.env)).any (·.1.isNone)=false)
  (hz:∀ v:Value,((backToKw pos (keywordEach [⟨some (Zq "key"),.Name x kq,kp⟩] X.env)).filterMap (·.1)).zip [v]=[(Zq "key",v)]) :
  PD X (.Call (.Name (Zq nm) p) [e] [⟨some (Zq "key"),.Name x kq,kp⟩] pos) (Zaf g φ fs):=by
 intro pins s σ H Q I h
 refine W_ fun n9=>?_;obtain⟨O,d,T,R,ef,q⟩:=h
 obtain⟨f,fd,ps,F,hmx,hk,hb⟩:=c.ex;apply n9;clear n9
 unfold Zaf at ef
 cases hf:fs d with
 |none=>rw[hf] at ef;cases ef
 |some Ts =>
  rw[hf] at ef
  have ef:mmK g φ Ts=some T:=ef
  unfold mmK at ef
  split at ef
  ·rename_i t r _
   cases aN:φ [t] with
   |none=>rw[aN] at ef;cases ef
   |some kt =>
    rw[aN] at ef
    have ef:Bt (cmT g) φ t kt r=some T:=ef
    refine GG (BW I hg hm M.boot ?_ M.nn M.nd)
    refine Zfq ?_ he hplain hall hkw
    refine thn (ha pos pins s σ H _ I ⟨O,d,_,R,hf,fun vs H1 s1 b1=>(⟨s1,b1⟩:Jl H H1/\Paired (BA X.K H1 O) vs [.tup (t::r)])⟩) fun us s1 hh=>?_
    refine W_ fun n9=>?_;obtain⟨vs,H1,I1,r1,sm,b1⟩:=hh
    obtain⟨v1,rfl,b3⟩:=NZ b1
    obtain⟨u1,rfl,ru⟩:=vals1 r1
    obtain⟨a,xs,rfl,hq,bx⟩:=b3.tup;apply n9;clear n9
    cases ru
    refine Zk5 (Z49 I1 hx hmx (kws_nil ?_) hdb)
    rw[hz]
    exact Zck M F hb hr (I.ok.hd hc) (fun b hb=>(R.mono sm).there b hb) I1 ((Jt _ _).seqT hq) bx aN ef fun v H' s2 bb=>q v H' (sm.trans s2) bb
  ·cases ef
end
section
variable {X:Cx}{K:Fg_}{o a b c e value:Expr}{f fk fw:FD}{pos pos':Pos}{k i:Nat}{x:Str}
theorem Rep.setDcp(r:Rep K H O σ d)(hp:H p=none)(i:Nat):Rep K (upd H p (.dT [])) (O.cons i p) (σ.set i (some (.ref p))) (d.set i (some (.dcp []))) :=
 r.fresh (Jl.upd hp) i hp JL trivial fun hf=>⟨p,Z1,rfl,JL,hf⟩
theorem Rep.putP(r:Rep K H O σ d)(hp:(i,p)∈O.own)(hs:σ[i]?=some (some (.ref p)))(hf:¬ O.far p) :
  Rep K (upd H p (.dT (dpk kvs'))) O σ (d.set i (some (.dcp kvs')))/\Jl (low H O) (low (upd H p (.dT (dpk kvs'))) O) :=
 r.over hp hs trivial fun _=>⟨p,hp,rfl,JL,hf⟩
noncomputable def Z9y (i:Nat):FS:=fun d=>some (.nx (d.set i (some (.dcp []))))
theorem Z8s (hN:X.N.Nodup)(hi:X.N[i]?=some x)(hx:Loc X.env.scope x)
  (hf:X.fn x=true\/X.env.scope.names.lookup x=some .local) (hs:swapsWith (.Dict [] [] pos') (some (.Name x px)) pos.line X.env=pure false):PDS X (.Assign [.Name x px] (.Dict [] [] pos') pos) (Z9y i) :=
 PS.imp (Z5j hN hi hx Zb4 hs hf) fun D σ H hh=>by
  refine W_ fun n9=>?_;obtain⟨O,d,o,R,e,q⟩:=hh;apply n9;clear n9
  cases e
  exact fun p hp=>q _ _ (O.cons i p) rfl (Z45 (Jl.upd hp) hp) (R.setDcp hp i)
noncomputable def Z4H (ks:List (Str×Str))(x:Str×Str):List (Str×Str):=if x∈ks then ks else ks++[x]
theorem ZdR (ks:List (Str×Str))(x y:Str):Z3v (dpk ks) [Yl x,Yl y] (.bl true)=dpk (Z4H ks (x,y)):=by
 have key:∀ p:Str×Str,([Yl p.1,Yl p.2]:List Key)=[Yl x,Yl y]↔p=(x,y):=fun p=>by
  constructor
  ·intro h
   injection h with h1 h2
   injection h2 with h3 _
   exact Qm (CI h1) (CI h3)
  ·intro h;rw[h]
 have any:((dpk ks).any fun kv=>decide (kv.1=([Yl x,Yl y]:List Key)))=true↔(x,y)∈ks:=by
  unfold dpk
  rw[ZhU,Z01]
  constructor
  ·rintro⟨p,hp,h⟩
   rw[<- (key p).mp (of_decide_eq_true h)]
   exact hp
  ·intro h
   exact⟨_,h,decide_eq_true rfl⟩
 unfold Z3v Z4H
 by_cases hm:(x,y)∈ks
 ·rw[if_pos (any.mpr hm),if_pos hm]
  unfold dpk
  rw[J1]
  refine Jo fun p _=>?_
  show (if ([Yl p.1,Yl p.2]:List Key)=[Yl x,Yl y] then _ else _)=_
  split <;> rfl
 ·rw[if_neg (fun z=>hm (any.mp z)),if_neg hm]
  unfold dpk
  rw[YZ]
  rfl
noncomputable def Z16:Lt_->Option (Str×Str)
 |[.str x,.str y]=>some (x,y)
 |_=>none
theorem Z6E(h:Z16 ts=some p):ts=[.str p.1,.str p.2]:=by
 unfold Z16 at h
 split at h
 ·cases h;rfl
 ·cases h
noncomputable def Z0n (i:Nat)(fs:FL):FS:=fun d=>match d[i]? with
 |some (some (.dcp ks))=>((fs d).bind Z16).bind fun p=>if ks.length<1000000 then some (.nx (d.set i (some (.dcp (Z4H ks p))))) else none
 |_=>none
theorem Z8r(hr:Nm k X.A)(ho:PE X o (Zab i))(hi:PDA X es fs)(hv:PD X value (fC (.bl true)))(hs:swapsWith value (some (.Subscript o (.Tuple es n1 tp) pos')) pos.line X.env=pure false) :
  PDS X (.Assign [.Subscript o (.Tuple es n1 tp) pos'] value pos) (Z0n i fs):=PS.imp (Z8d (Zhd hr) ho (ZcQ hi) hv hs) fun D σ H hh=>by
 refine W_ fun n9=>?_;obtain⟨O,d,out,R,e,q⟩:=hh;apply n9;clear n9
 unfold Z0n at e
 split at e
 ·rename_i ks hd
  cases hf:fs d with
  |none=>rw[hf] at e;cases e
  |some ts =>
   rw[hf] at e
   cases hp0:Z16 ts with
   |none=>rw[show (some ts).bind Z16=Z16 ts from rfl,hp0] at e;cases e
   |some p =>
    rw[show (some ts).bind Z16=Z16 ts from rfl,hp0] at e
    have e:(if ks.length<1000000 then some (Out.nx (d.set i (some (.dcp (Z4H ks p))))) else none)=some out:=e
    obtain rfl:=Z6E hp0
    obtain⟨x,y⟩:=p
    split at e
    ·rename_i hl
     cases e
     refine⟨O,d,.bl true,R,rfl,fun v H1 s1 b1=>?_⟩
     have R1:=R.mono s1
     refine W_ fun n9=>?_;obtain⟨a,h1,h2,h3,h4⟩:=R1.dcp i ks hd;apply n9;clear n9
     refine⟨_,h2,O,d,_,R1,hf,fun w H2 s2 b2=>?_⟩
     refine W_ fun n9=>?_;obtain⟨v1,v2,rfl,c1,c2⟩:=b2.two;apply n9;clear n9
     cases c1
     cases c2
     cases b1
     refine⟨show 2<=sizeLine by decide,fun p hp=>?_⟩
     have R2:=(R1.mono s2).mono (Jl.upd (o:=.tup [.str x,.str y]) hp)
     have ha:upd H2 p (.tup [.str x,.str y]) a=some (.dT (dpk ks)):=Jl.upd hp _ _ (s2 _ _ h3)
     refine⟨a,upd (upd H2 p (.tup [.str x,.str y])) a (.dT (dpk (Z4H ks (x,y)))),rfl,.inr ⟨_,[Yl x,Yl y],p,ha,rfl,JL,?_,?_⟩,?_⟩
     ·unfold dpk;rw[Z5];exact ZG hl (by decide)
     ·rw[ZdR]
     ·obtain⟨R3,s3⟩:=R2.putP (kvs':=Z4H ks (x,y)) h1 h2 h4
      exact q σ _ O rfl ((((YM s1).trans (YM s2)).trans (YM (Jl.upd hp))).trans s3) R3
    ·cases e
 ·cases e
noncomputable def prT (p:Str×Str):Th:=.tup [.str p.1,.str p.2]
theorem Z4w {prog:Program}{w:World}{A:Around}{E:Ps_}{s:Shared}{a:Addr}{es:Array Fi}{ep:Nat}{Q:List Value->Shared->Prop}(hh:A.handled=none)(hd:(a == sysModules)=false)(m:Sg.RawD s.heap a es ep)(hn:es.size<=sizeLine)
  (hQ:∀ h' tk,Sg.Ext s.heap h'->Q (es.toList.map (·.key)) { s with heap:=h',toks:=tk }):wpAny (model prog w) A (collect (.ref a)) Q E s:=by
 have ha:a<s.heap.objs.size:=let ⟨_,e,_⟩:=m;Zy e
 unfold collect
 refine Z0 (Wp (Ju B7 ?_))
 rw[ZZ B6 _]
 show wpAny _ A.in1 (newList []>>=fun l=>again (.builtin "list.__iadd__" ⟨[l,.ref a],[]⟩)) _ _ s
 refine Z0 (Jq ?_)
 refine Z4 ⟨Yk GY _,Ju Z0H ?_⟩
 rw[ZZ GY _]
 show wpAny _ A.in1 (Yv (.ref s.heap.objs.size) (.ref a) (.ref s.heap.objs.size)) _ _ _
 refine Z7a (R:=fun r s'=>match r with
   |.ok (.ret v)=>wpAny (model prog w) A (match v with
    |Y6 a=>(do let o <- load a;match o.data with|.seq xs _=>pure xs.toList|_=>unsupported "internal:collect")
    |_=>unsupported "internal:collect") Q E s'
   |.ok _=>False
   |.error e=>E e s') (s:={ s with heap:=s.heap.push { cls:=.type "list",data:=.seq ([]:Lu_).toArray } }) (Sg.src_raw hd) hh (m.keep fun o e=>Z3 _ e) s.heap.objs.size (G5 ha) (G5 ha) _ 0 (Zl _ rfl) (fun h' tk acc c kp hS it=>?_) hn
 show wpAny _ A (load s.heap.objs.size>>=_) _ _ _
 refine Z0 (Z1F hS ?_)
 have el:acc.toList=es.toList.map (·.key):=by
  apply UY
  intro j
  rw[Jw,ZQ,ZQ]
  by_cases hj:j<es.size
  ·have hj':j<acc.size:=by rw[it.1];exact hj
   obtain⟨e,h1,h2⟩:=it.2 j acc[j] (Zz hj')
   rw[Zz hj',h1,<- h2]
   rfl
  ·rw[Ur (by rw[it.1];exact Y2 ‹_›),Ur (by lia)]
   rfl
 refine Z4 ?_
 show Q acc.toList _
 rw[el]
 exact hQ h' tk fun b o e=>kp b o (ZE (Zy e)) (Z3 _ e)
def ZdH (X:Cx):Lv_->Hp->VK->Prop:=fun xs H Q=>∃ p ks G,xs=[.ref p]/\H p=some (.dT (dpk ks))/\(∀ b ys,H b=some (.tup ys)->G b=some (.tup ys)) /\
 ∀ q (zs:List (V×Th)),H q=none->(∀ z∈zs,JG X.K G z.1 z.2)->zs.map (·.2)=W8 (ks.map prT)->Q (.ref q) (upd H q (.lst (zs.map (·.1))))
theorem Z1f(hG:∀ b ys,H b=some (.tup ys)->G b=some (.tup ys)):∀ {ks:List (Str×Str)} {xs:List (List Key×Addr×Value)},KT H (dpk ks) xs->ZX K G (xs.map fun x=>V.ref x.2.1) (ks.map prT)
 |[],_,h=>by cases h;exact .nil
 |p::ks,_,h=>by
  unfold dpk at h
  rw[Zw] at h
  cases h with
  |cons h1 h2 =>
   refine .cons (.tup (xs:=[.str p.1,.str p.2]) (SqT.of (hG _ _ ?_)) (.cons (.str _) (.cons (.str _) .nil))) (Z1f hG h2)
   exact h1.2.1
theorem Z2b:∀ xs:List (List Key×Addr×Value),Uh (xs.map fun x=>V.ref x.2.1) (xs.map fun x=>Y6 x.2.1)
 |[]=>.nil
 |x::xs=>.cons rfl (Z2b xs)
theorem Z4z (hc:X.calm=true):QL X (.builtin "sorted") (ZdH X):=by
 intro pins s σ H xs us Q I r h
 refine W_ fun n9=>?_;obtain⟨p,ks,G,rfl,hH,hG,q⟩:=h
 obtain⟨u,rfl,ru⟩:=vals1 r;apply n9;clear n9
 cases ru
 refine W_ fun n9=>?_;obtain⟨z,hd,kx,rel,o,es,ep,h1,h2,h3,h4,-,-⟩:=Zhi I.hok hH;apply n9;clear n9
 have hlen:es.size=ks.length:=by
  have e1:=congrArg Yi h4
  rw[Z5,Zh] at e1
  have e2:=rel.length
  unfold dpk at e2
  rw[Z5] at e2
  rw[e1,<- e2]
 have hz:ks.length<=sizeLine:=by unfold dpk at z;rw[Z5] at z;exact z
 have ek:es.toList.map (·.key)=kx.map fun x=>Y6 x.2.1:=by rw[h4,J1];rfl
 refine Sg.sorted_any fun A' hA=>Z4w (hA.trans (I.ok.hd hc)) hd ⟨o,h1,h2,h3⟩ (by rw[hlen];exact hz) fun h' tk x1=>?_
 rw[ek]
 have rv:=Z2b kx
 have bH:ZX X.K H (kx.map fun x=>V.ref x.2.1) (ks.map prT):=Z1f (fun _ _ e=>e) rel
 have bG:ZX X.K G (kx.map fun x=>V.ref x.2.1) (ks.map prT):=Z1f hG rel
 have lk:(kx.map fun x=>Y6 x.2.1).length<=sizeLine:=by rw[<- rv.length,bH.length,Z5];exact hz
 have hk:okT (ks.map prT)=true:=by
  have:(ks.map prT).all (okK .ss)=true:=U8.mpr fun t m=>by
   obtain⟨p,-,rfl⟩:=Zu.mp m
   rfl
  unfold okT
  rw[this,Zi4]
 refine W_ fun n9=>?_;obtain⟨O,key,Gd,kd,θ,S,aV,hle⟩:=Bc I bH rv hk h' x1;apply n9;clear n9
 refine⟨lk,O,key,Gd,kd,S,fun out h2 e a1 a2 a3 a4=>?_⟩
 refine W_ fun n9=>?_;obtain⟨zs,z1,z2,z3⟩:=FT rv θ aV a1 (YN (fun {a c} ha hc hac=>hle a (a1.mem_iff.mp ha) c (a1.mem_iff.mp hc) hac) a2);apply n9;clear n9
 have I1:Inv X pins σ H { s with heap:=h',toks:=tk }:=I.kept (t':=tk) x1
 refine⟨.ref h'.objs.size,upd H h'.objs.size (.lst (zs.map (·.1))),I1.laid (t':=tk) a3 (Z7 _) ?_,rfl,q _ zs (I1.hok.fresh (Z7 _)) (fun z m=>Cv bG z (z1.mem_iff.mp m)) z3⟩
 refine⟨?_,out,e,z2,a4⟩
 rw[z2.length,a1.length_eq]
 exact lk
noncomputable def Cj (i:Nat):FL:=fun d=>match d[i]? with|some (some (.dcp ks))=>some (W8 (ks.map prT))|_=>none
theorem Z8n (hc:X.calm=true) (hg:Gl X "sorted") (hm:X.mg "sorted"=none) (ho:PE X o (Zab i))
  (he:starEach [o] X.env=(false,eval o X.env)::starEach [] X.env) (hpl:(backTo pos (starEach ([]:Le_) X.env)).any (·.1)=false):PF X (.Call (.Name "sorted" p) [o] [] pos) (Cj i) :=
 PE.imp (WB (Z4z hc) hg hm (by rfl) (M0 ho Wc he) (by decide) (by decide) he hpl) fun σ H Q hh=>by
  refine W_ fun n9=>?_;obtain⟨O,d,T,R,e,q⟩:=hh;apply n9;clear n9
  unfold Cj at e
  split at e
  ·rename_i ks hd
   cases e
   refine W_ fun n9=>?_;obtain⟨a,h1,h2,h3,h4⟩:=R.dcp i ks hd;apply n9;clear n9
   refine⟨_,h2,a,ks,less H O,rfl,h3,fun b ys hb=>UP hb fun z=>?_,fun b zs hb bz z2=>?_⟩
   ·refine W_ fun n9=>?_;obtain⟨o,e,n⟩:=R.there b z;apply n9;clear n9
    rw[hb] at e
    cases e
    exact n
   ·refine q _ _ (Jl.upd hb) ⟨b,_,rfl,hb,JL,?_⟩
    rw[<- z2]
    exact MQ fun z m=>(bz z m).mono (Qw (Jl.upd hb) hb)
  ·cases e
end
section
variable {X:Cx}{K:Fg_}{e:Expr}{pos:Pos}
theorem Z3Q(hN0:X.N.Nodup)(hi':X.N[i]?=some y)(hy:Loc X.env.scope y)(hc:X.calm=true)(S:Yt (X.hid m) [x] scope)(hN:([x]++(X.hid m).N).Nodup)(hx:scope.names.lookup x=some .local)(hi:PDI X (.Name x px) iter fi)
  (ht:∀ cl aC H1 C fp,Zdn (cxC (X.hid m) [x] scope cl aC H1 C fp) ifs ft) (he:∀ cl aC H1 C fp,PD (cxC (X.hid m) [x] scope cl aC H1 C fp) elt fe)
  (hsw:swapsWith (.ListComp elt [⟨.Name x px,iter,ifs,0⟩] scope pos) (some (.Name y py)) spos.line X.env=pure true)
  (hf':X.fn y=true\/X.env.scope.names.lookup y=some .local)
  (hs:∀ x,foldedSetIterable iter X.env x=pure x) :
  PDS X (.Assign [.Name y py] (.ListComp elt [⟨.Name x px,iter,ifs,0⟩] scope pos) spos) (Yy i (GA (DM m g1 fi ft fe))) :=
 PS.imp (Z5k (m:=m) (tt:=liftT X.K ft) (te:=Bp X.K fe) hN0 hi' hy hc S (PI.imp hi Zhc) (fun cl aC H1 C fp=>MT (i:=0) hN rfl (Z0E (Jk hx)) (.inr (Jk hx))) ht he hsw hf' hs) fun D σ H h=>by
  refine W_ fun n9=>?_;obtain⟨O,d,o,R,e,q⟩:=h;apply n9;clear n9
  unfold Yy GA at e
  cases hf:DM m g1 fi ft fe d with
  |none=>rw[hf] at e;cases e
  |some ts =>
   rw[hf] at e
   cases e
   refine Z0r Z9F σ H _ ⟨O,d,ts,R,hf,fun v H' s b=>?_⟩
   refine W_ fun n9=>?_;obtain⟨a,xs,rfl,e2,e3,b⟩:=b;apply n9;clear n9
   exact q _ H' O rfl (YM s) ((R.mono s).set i (.lst (SqL.of (UP e3 (R.notOwn e2))) (b.mono Mb)))
end
structure QD (X:Cx)(e:Expr)(f:FD):Prop where
 out:PD X e f
structure QB (X:Cx)(e:Expr)(f:FD):Prop where
 out:PB X e f
structure QF (X:Cx)(e:Expr)(f:FL):Prop where
 out:PF X e f
structure QT (X:Cx)(e:Expr)(f:FB):Prop where
 out:PDT X e f
structure QW (X:Cx)(e:Expr)(f:FB):Prop where
 out:PDW X e f
structure QA (X:Cx)(es:Le_)(f:FL):Prop where
 out:PDA X es f
structure QBA (X:Cx)(es:Le_)(f:FL):Prop where
 out:PBA X es f
structure QS (X:Cx)(st:Stmt)(f:FS):Prop where
 out:PDS X st f
structure QSs (X:Cx)(st:List Stmt)(f:FS):Prop where
 out:Zai X st f
structure QG (X:Cx)(e:Expr)(f:FG):Prop where
 out:PDG X e f
structure QI (X:Cx)(tg e:Expr)(f:FL):Prop where
 out:PDI X tg e f
structure QIf (X:Cx)(es:Le_)(f:FB):Prop where
 out:Zdn X es f
structure QO (X:Cx)(e:Option Expr)(f:FO):Prop where
 out:PDO X e f
structure QV (X:Cx)(e:Expr)(i:Nat):Prop where
 out:PE X e (Zab i)
section
variable {X:Cx}{e a b c:Expr}{f fa fb fc:FD}{pos:Pos}
theorem QD.pb (h:QD X e f):QB X e f:=⟨PD.pb (h:=h.out)⟩
theorem QF.pd {f:FL}(h:QF X e f):QD X e (GA f):=⟨PF.pd (h:=h.out)⟩
theorem QW.pdt {f:FB}(h:QW X e f):QT X e f:=⟨PDW.pdt (h:=h.out)⟩
theorem ZD(h:QV X (.Name x pos) i):QD X (.Name x pos) (ZV i):=⟨Zgq (h:=h.out)⟩
theorem Zk(h:QV X (.Name x pos) i):QB X (.Name x pos) (Za i):=⟨Zgz (h:=h.out)⟩
theorem ZM {i j}:QD X (.Constant (.int i) j pos) (fC (.int i)):=⟨Z8w ⟩
theorem Z5i {i j}:QD X (.Constant (.bool i) j pos) (fC (.bl i)):=⟨Zgy ⟩
theorem Bj {j}:QD X (.Constant .none j pos) (fC .non):=⟨ZcT ⟩
theorem ZdN {i j}:QD X (.Constant (.str i) j pos) (fC (.str i)):=⟨ZcS ⟩
theorem Qs (h:QD X e f)(he:autoParam (∀ whole,isTrue e X.env whole=(do let v <- whole;standAt e.pos;holding [v] (truthy v))) qc._auto_1):QT X e (Je f):=⟨Ze6 (h:=h.out) (he:=he)⟩
theorem ZaM {f:FB}(h:QT X a f):QT X (.UnaryOp .Not a pos) (Zde f):=⟨Ze7 (h:=h.out)⟩
theorem Z84 {f:FB}(h:QT X a f):QW X (.BoolOp .And [a] pos) f:=⟨Zb8 (h:=h.out)⟩
theorem Z5f {f:FB}(h:QT X a f):QW X (.BoolOp .Or [a] pos) f:=⟨Ze4 (h:=h.out)⟩
theorem ZaL {f g:FB}{rest:Le_}(ha:QT X a f)(hb:QW X (.BoolOp .And (b::rest) pos) g):QW X (.BoolOp .And (a::b::rest) pos) (Z2U f g):=⟨Ze5 (ha:=ha.out) (hb:=hb.out)⟩
theorem Z83 {f g:FB}{rest:Le_}(ha:QT X a f)(hb:QW X (.BoolOp .Or (b::rest) pos) g):QW X (.BoolOp .Or (a::b::rest) pos) (Z9w f g):=⟨Zgj (ha:=ha.out) (hb:=hb.out)⟩
theorem ZcM {c:Expr}{fc:FB}(hc:QT X c fc)(ha:QD X a fa)(hb:QD X b fb):QD X (.IfExp c a b pos) (fIf fc fa fb):=⟨Ziu (hc:=hc.out) (ha:=ha.out) (hb:=hb.out)⟩
theorem J6 :QA X [] J7:=⟨Z8t ⟩
theorem Ze(ha:QD X e f)(hr:QA X es g)(hs:autoParam (starEach (e::es) X.env=(false,eval e X.env)::starEach es X.env) q_._auto_1):QA X (e::es) (Z6 f g):=⟨Z5n (ha:=ha.out) (hr:=hr.out) (hs:=hs)⟩
theorem Jr :QBA X [] J7:=⟨Z3R ⟩
theorem Jb(ha:QB X e f)(hr:QBA X es g)(hs:autoParam (starEach (e::es) X.env=(false,eval e X.env)::starEach es X.env) q_._auto_1):QBA X (e::es) (Z6 f g):=⟨Fw (ha:=ha.out) (hr:=hr.out) (hs:=hs)⟩
theorem Qu{x1}(h:QA X es g):QD X (.Tuple es x1 pos) (QY g):=⟨ZcR (h:=h.out)⟩
theorem ZaK(h:QA X es g):QF X (.List es pos) (Ck g):=⟨Z3P (h:=h.out)⟩
end
section
variable {X:Cx}{e a b:Expr}{st:Stmt}{rest sts:List Stmt}{f:FD}{F G:FS}{pos:Pos}
theorem G2 :QSs X [] UE:=⟨Zbb ⟩
theorem ZC (h1:QS X st F)(h2:QSs X rest G):QSs X (st::rest) (UH F G):=⟨Z8p (h1:=h1.out) (h2:=h2.out)⟩
theorem ZH (h1:QS X st F):QSs X [st] F:=⟨Zba (h1:=h1.out)⟩
theorem JW (h:QB X e f):QS X (.Return (some e) pos) (GR f):=⟨Zea (h:=h.out)⟩
theorem Nb(hc:QT X c fc)(ha:QSs X A F)(hb:QSs X B G):QS X (.If c A B pos) (fIf fc F G):=⟨Zgp (hc:=hc.out) (ha:=ha.out) (hb:=hb.out)⟩
theorem JH(hN:X.N.Nodup)(hi:X.N[i]?=some x)(hx:Loc X.env.scope x)(he:QD X e f)(hs:autoParam (swapsWith e (some (.Name x pos')) pos.line X.env=pure false) q_._auto_1)(hf:autoParam (X.fn x=true\/X.env.scope.names.lookup x=some .local) qb._auto_1):QS X (.Assign [.Name x pos'] e pos) (Yy i f):=⟨Ze9 (hN:=hN) (hi:=hi) (hx:=hx) (he:=he.out) (hs:=hs) (hf:=hf)⟩
theorem Ww {i:Nat}{f:FL}{x:Str}{pos':Pos}(hN:X.N.Nodup)(hi:X.N[i]?=some x)(hx:Loc X.env.scope x)(he:QF X e f)(hs:autoParam (swapsWith e (some (.Name x pos')) pos.line X.env=pure false) q_._auto_1)(hf:autoParam (X.fn x=true\/X.env.scope.names.lookup x=some .local) qb._auto_1):QS X (.Assign [.Name x pos'] e pos) (Z5N i f):=⟨Zeb (hN:=hN) (hi:=hi) (hx:=hx) (he:=he.out) (hs:=hs) (hf:=hf)⟩
theorem D5 {i:Nat} {o:Expr} {apos cpos:Pos} (ho:QV X (o) i) (he:QD X e f) (hbase:autoParam (attributeBase o "append" X.env (eval o X.env)=eval o X.env) q_._auto_1) (hfew:autoParam (((backTo cpos (starEach [e] X.env)).all (fun x=>!x.1)&&(backToKw cpos (keywordEach [] X.env)).all (fun x=>x.1.isSome)
  &&decide (([e]:Le_).length+([]:List Keyword).length+(if ([]:List Keyword).isEmpty then 0 else 1)<30))=true) q_._auto_1) (hline:autoParam ((apos.endLine == cpos.line)=true) q_._auto_1) (hs:autoParam (starEach [e] X.env=(false,eval e X.env)::starEach [] X.env) q_._auto_1) (hplain:autoParam ((backTo cpos (starEach ([]:Le_) X.env)).any (·.1)=false) q_._auto_1) (hsw:autoParam (swapsWith (.Call (.Attribute o "append" apos) [e] [] cpos) none pos.line X.env=pure false) q_._auto_1):QS X (.Expr (.Call (.Attribute o "append" apos) [e] [] cpos) pos) (Nl i f):=⟨Z6B (ho:=ho.out) (he:=he.out) (hbase:=hbase) (hfew:=hfew) (hline:=hline) (hs:=hs) (hplain:=hplain) (hsw:=hsw)⟩
theorem MN(hN:X.N.Nodup)(hi:X.N[i]?=some x)(hx:Loc X.env.scope x)(hf:autoParam (X.fn x=true\/X.env.scope.names.lookup x=some .local) qb._auto_1):QG X (.Name x pos) (De i):=⟨Zeg (hN:=hN) (hi:=hi) (hx:=hx) (hf:=hf)⟩
theorem Gs(hp:YC (model X.prog X.w) X.A X.env X.xe)(hc:X.calm=true)(hi:QI X tg iter fi)(hg:QG X tg g)(hb:QSs X body F)(hs:autoParam (∀ x,foldedSetIterable iter X.env x=pure x) qc._auto_1):QS X (.For tg iter body [] pos) (Fm fi g F):=⟨Zec (hp:=hp) (hc:=hc) (hi:=hi.out) (hg:=hg.out) (hb:=hb.out) (hs:=hs)⟩
end
section
variable {X:Cx}{tg l:Expr}{f:FD}{K:Fg_}
theorem NN(h:QD X l f):QI X (.Name y py) l (YR f):=⟨Zef (h:=h.out)⟩
theorem Z5g (h:QD X l f):QI X tg l (Z1l f):=⟨Zee (h:=h.out)⟩
theorem NA {a:Expr} {p pos:Pos} (hg:Gl X "range") (hm:X.mg "range"=none) (ha:QD X a f) (hs:autoParam (starEach [a] X.env=[(false,eval a X.env)]) q_._auto_1) (hs1:autoParam (starEach [a] X.env=(false,eval a X.env)::starEach [] X.env) q_._auto_1):QI X tg (.Call (.Name "range" p) [a] [] pos) (YX f):=⟨Z6D (hg:=hg) (hm:=hm) (ha:=ha.out) (hs:=hs) (hs1:=hs1)⟩
end
section
variable {X:Cx}
theorem NT :QIf X [] GZ:=⟨Zbh ⟩
theorem DA(h:QT X c f):QIf X [c] f:=⟨Zbg (h:=h.out)⟩
theorem Dz(hc:X.calm=true)(S:Yt X [x] scope)(hN:([x]++X.N).Nodup)(hx:scope.names.lookup x=some .local)(hi:QI X (.Name x px) iter fi)(ht:∀ cl aC H1 C fp,QIf (cxC X [x] scope cl aC H1 C fp) ifs ft)(he:∀ cl aC H1 C fp,QD (cxC X [x] scope cl aC H1 C fp) elt fe)(hs:autoParam (∀ x,foldedSetIterable iter X.env x=pure x) qc._auto_1):QF X (.ListComp elt [⟨.Name x px,iter,ifs,0⟩] scope pos) (Um g1 fi ft fe):=⟨Zb2 (hc:=hc) (S:=S) (hN:=hN) (hx:=hx) (hi:=hi.out) (ht:=(fun x0 x1 x2 x3 x4=>(ht x0 x1 x2 x3 x4).out)) (he:=(fun x0 x1 x2 x3 x4=>(he x0 x1 x2 x3 x4).out)) (hs:=hs)⟩
theorem Qt {x y:Str}{px py pos spos:Pos}{scope:Scope}{elt iter:Expr}{ifs:Le_}{fi:FL}{ft:FB}{fe:FD}{i:Nat}(hN0:X.N.Nodup)(hi':X.N[i]?=some y)(hy:Loc X.env.scope y)(hc:X.calm=true)(S:Yt X [x] scope)(hN:([x]++X.N).Nodup)(hx:scope.names.lookup x=some .local)(hi:QI X (.Name x px) iter fi)(ht:∀ cl aC H1 C fp,QIf (cxC X [x] scope cl aC H1 C fp) ifs ft)(he:∀ cl aC H1 C fp,QD (cxC X [x] scope cl aC H1 C fp) elt fe)(hsw:autoParam (swapsWith (.ListComp elt [⟨.Name x px,iter,ifs,0⟩] scope pos) (some (.Name y py)) spos.line X.env=pure true) q_._auto_1)(hf':autoParam (X.fn y=true\/X.env.scope.names.lookup y=some .local) qb._auto_1)(hs:autoParam (∀ x,foldedSetIterable iter X.env x=pure x) qc._auto_1):QS X (.Assign [.Name y py] (.ListComp elt [⟨.Name x px,iter,ifs,0⟩] scope pos) spos) (Yy i (GA (Um g1 fi ft fe))):=⟨Z6A (hN0:=hN0) (hi':=hi') (hy:=hy) (hc:=hc) (S:=S) (hN:=hN) (hx:=hx) (hi:=hi.out) (ht:=(fun x0 x1 x2 x3 x4=>(ht x0 x1 x2 x3 x4).out)) (he:=(fun x0 x1 x2 x3 x4=>(he x0 x1 x2 x3 x4).out)) (hsw:=hsw) (hf':=hf') (hs:=hs)⟩
end
section
variable {X:Cx}{x:Str}{p pos:Pos}{e:Expr}{es:Le_}{g:FL}{φ:Lt_->Option Th}{k:Nat}
theorem Jm (c:Callee X.prog X.w X.K X.mg X.base k x φ) (hr:Nm k X.A) (hg:Gl X x) (ha:QA X (e::es) g) (hdb:autoParam ((x == ("__debug__":Str))=false) qa._auto_1) (he:autoParam (starEach (e::es) X.env=(false,eval e X.env)::starEach es X.env) q_._auto_1) (hpl:autoParam ((backTo pos (starEach es X.env)).any (·.1)=false) q_._auto_1):QD X (.Call (.Name x p) (e::es) [] pos) (J8 φ g):=⟨Zem (c:=c) (hr:=hr) (hg:=hg) (ha:=ha.out) (hdb:=hdb) (he:=he) (hpl:=hpl)⟩
end
section
variable {X:Cx}{K:Fg_}{a b c e:Expr}{fa fb fc f:FD}{pos:Pos}
theorem Ux {p:Pos} {es:Le_} {fs:FL} (hg:Gl X "len") (hm:X.mg "len"=none) (ha:QBA X (e::es) fs) (he:autoParam (starEach (e::es) X.env=(false,eval e X.env)::starEach es X.env) q_._auto_1) (hpl:autoParam ((backTo pos (starEach es X.env)).any (·.1)=false) q_._auto_1):QD X (.Call (.Name "len" p) (e::es) [] pos) (fCB NE fs):=⟨Zgw (hg:=hg) (hm:=hm) (ha:=ha.out) (he:=he) (hpl:=hpl)⟩
end
section
variable {X:Cx}{K:Fg_}{a b c e:Expr}{fa fb fc f:FD}{pos:Pos}{k:Nat}
theorem ZcN (hr:Nm k X.A)(ha:QB X a fa)(hb:QB X b fb):QD X (.Compare a [.Eq] [b] pos) (f2 oEq fa fb):=⟨Ziv (hr:=hr) (ha:=ha.out) (hb:=hb.out)⟩
theorem Z0Z (hr:Nm k X.A)(ha:QB X a fa)(hb:QB X b fb):QT X (.Compare a [.Eq] [b] pos) (Je (f2 oEq fa fb)):=⟨Zgo (hr:=hr) (ha:=ha.out) (hb:=hb.out)⟩
theorem Z0Y (hr:Nm k X.A)(ha:QB X a fa)(hb:QB X b fb):QT X (.Compare a [.NotEq] [b] pos) (Je (f2 oNe fa fb)):=⟨Zgk (hr:=hr) (ha:=ha.out) (hb:=hb.out)⟩
theorem Zg3 (hr:Nm k X.A)(ha:QB X a fa)(hb:QB X b fb):QD X (.Compare a [.Lt] [b] pos) (f2 oLt fa fb):=⟨Zis (hr:=hr) (ha:=ha.out) (hb:=hb.out)⟩
theorem ZdL (hr:Nm k X.A)(ha:QB X a fa)(hb:QB X b fb):QT X (.Compare a [.Lt] [b] pos) (Je (f2 oLt fa fb)):=⟨Zgl (hr:=hr) (ha:=ha.out) (hb:=hb.out)⟩
theorem Bh (ha:QB X a fa)(hb:QB X b fb):QT X (.Compare a [.Gt] [b] pos) (Je (f2 oGt fa fb)):=⟨Zgm (ha:=ha.out) (hb:=hb.out)⟩
theorem Z86 (ha:QB X a fa)(hb:QB X b fb):QT X (.Compare a [.GtE] [b] pos) (Je (f2 oGe fa fb)):=⟨Zgn (ha:=ha.out) (hb:=hb.out)⟩
theorem ZdO (ha:QB X a fa)(hb:QB X b fb):QD X (.Compare a [.Is] [b] pos) (f2 (Z3Y false) fa fb):=⟨Zgx (ha:=ha.out) (hb:=hb.out)⟩
theorem ZaN (ha:QB X a fa)(hb:QB X b fb):QT X (.Compare a [.Is] [b] pos) (Je (f2 (Z3Y false) fa fb)):=⟨Ze8 (ha:=ha.out) (hb:=hb.out)⟩
theorem Z85 (ha:QB X a fa)(hb:QB X b fb):QT X (.Compare a [.IsNot] [b] pos) (Je (f2 (Z3Y true) fa fb)):=⟨Zb9 (ha:=ha.out) (hb:=hb.out)⟩
end
section
variable {X:Cx}{e a b:Expr}{te tl th:TE}{pos p2:Pos}
theorem Ut :QO X none JY:=⟨Zbf ⟩
theorem U3(h:QD X e f):QO X (some e) (Ul f):=⟨Zbe (h:=h.out)⟩
theorem UL {f:FD}{fl fh:FO}{lo hi:Option Expr}(h:QB X e f)(hl:QO X lo fl)(hh:QO X hi fh):QD X (.Subscript e (.Slice lo hi none p2) pos) (fSl f fl fh):=⟨Zbm (h:=h.out) (hl:=hl.out) (hh:=hh.out)⟩
theorem Z2d {f:FD}{fl fh:FO}{lo hi:Option Expr}(h:QB X e f)(hl:QO X lo fl)(hh:QO X hi fh):QF X (.Subscript e (.Slice lo hi none p2) pos) (Zc7 f fl fh):=⟨Zb0 (h:=h.out) (hl:=hl.out) (hh:=hh.out)⟩
theorem UM(ha:QB X a fa)(hb:QB X b fb)(hs:Z4K b):QD X (.Subscript a b pos) (f2 oIx fa fb):=⟨Zit (ha:=ha.out) (hb:=hb.out) (hs:=hs)⟩
end
section
variable {X:Cx}{K:Fg_}{a b c e:Expr}{fa fb fc f:FD}{pos:Pos}{k:Nat}
theorem JX (ha:QB X a fa)(hb:QB X b fb):QD X (.BinOp a .Add b pos) (f2 YB fa fb):=⟨Zei (ha:=ha.out) (hb:=hb.out)⟩
theorem UK (ha:QB X a fa)(hb:QB X b fb):QD X (.BinOp a .Mult b pos) (f2 UN fa fb):=⟨Zbl (ha:=ha.out) (hb:=hb.out)⟩
end
section
variable {X:Cx}{K:Fg_}{a b c e:Expr}{fa fb fc f:FD}{pos:Pos}
theorem ZdM (ha:QB X a fa)(hb:QB X b fb):QD X (.BinOp a .Sub b pos) (f2 Zfm fa fb):=⟨Zgr (ha:=ha.out) (hb:=hb.out)⟩
theorem Nd (ha:QB X a fa)(hb:QB X b fb):QD X (.BinOp a .FloorDiv b pos) (f2 BO fa fb):=⟨Zel (ha:=ha.out) (hb:=hb.out)⟩
theorem UV (ha:QB X a fa)(hb:QB X b fb):QD X (.BinOp a .Mod b pos) (f2 Qk fa fb):=⟨Zgt (ha:=ha.out) (hb:=hb.out)⟩
end
section
variable {X:Cx}{K:Fg_}{a b c e:Expr}{fa fb fc f:FD}{pos:Pos}{k:Nat}
theorem NU {p:Pos} {es:Le_} {fs:FL} (hg:Gl X "tuple") (hm:X.mg "tuple"=none) (ha:QBA X (e::es) fs) (he:autoParam (starEach (e::es) X.env=(false,eval e X.env)::starEach es X.env) q_._auto_1) (hpl:autoParam ((backTo pos (starEach es X.env)).any (·.1)=false) q_._auto_1):QD X (.Call (.Name "tuple" p) (e::es) [] pos) (fCB Nh fs):=⟨Zbk (hg:=hg) (hm:=hm) (ha:=ha.out) (he:=he) (hpl:=hpl)⟩
end
section
variable {X:Cx}{K:Fg_}
theorem Qb {es:Le_} {k1:Nat} {tp:Pos} {a:Expr} {f:FD} {p pos:Pos} (hg:Gl X "enumerate") (hm:X.mg "enumerate"=none) (ha:QD X a f) (hs:autoParam (starEach [a] X.env=[(false,eval a X.env)]) q_._auto_1) (hs1:autoParam (starEach [a] X.env=(false,eval a X.env)::starEach [] X.env) q_._auto_1):QI X (.Tuple es k1 tp) (.Call (.Name "enumerate" p) [a] [] pos) (QZ f):=⟨Zbi (hg:=hg) (hm:=hm) (ha:=ha.out) (hs:=hs) (hs1:=hs1)⟩
end
section
variable {X:Cx}{K:Fg_}{o a b c e:Expr}{fo fa fb fc f:FD}{pos:Pos}{k:Nat}
theorem Z5h {apos cpos:Pos} (ho:QB X o fo) (ha:QB X e fa) (hbase:autoParam (attributeBase o "find" X.env (eval o X.env)=eval o X.env) q_._auto_1) (hfew:autoParam (((backTo cpos (starEach (e::[]) X.env)).all (fun x=>!x.1)&&(backToKw cpos (keywordEach [] X.env)).all (fun x=>x.1.isSome)
  &&decide ((e::[]).length+([]:List Keyword).length+(if ([]:List Keyword).isEmpty then 0 else 1)<30))=true) q_._auto_1) (hline:autoParam ((apos.endLine == cpos.line)=true) q_._auto_1) (hs:autoParam (starEach (e::[]) X.env=(false,eval e X.env)::starEach [] X.env) q_._auto_1) (hplain:autoParam ((backTo cpos (starEach [] X.env)).any (·.1)=false) q_._auto_1):QD X (.Call (.Attribute o "find" apos) [e] [] cpos) (fM1 (fun z y=>some (.int (MS z y))) fo fa):=⟨Zek (ho:=ho.out) (ha:=ha.out) (hbase:=hbase) (hfew:=hfew) (hline:=hline) (hs:=hs) (hplain:=hplain)⟩
theorem Wy {apos cpos:Pos} (ho:QB X o fo) (ha:QB X e fa) (hbase:autoParam (attributeBase o "startswith" X.env (eval o X.env)=eval o X.env) q_._auto_1) (hfew:autoParam (((backTo cpos (starEach (e::[]) X.env)).all (fun x=>!x.1)&&(backToKw cpos (keywordEach [] X.env)).all (fun x=>x.1.isSome)
  &&decide ((e::[]).length+([]:List Keyword).length+(if ([]:List Keyword).isEmpty then 0 else 1)<30))=true) q_._auto_1) (hline:autoParam ((apos.endLine == cpos.line)=true) q_._auto_1) (hs:autoParam (starEach (e::[]) X.env=(false,eval e X.env)::starEach [] X.env) q_._auto_1) (hplain:autoParam ((backTo cpos (starEach [] X.env)).any (·.1)=false) q_._auto_1):QD X (.Call (.Attribute o "startswith" apos) [e] [] cpos) (fM1 (fun z y=>some (.bl (Jn z y))) fo fa):=⟨Z8u (ho:=ho.out) (ha:=ha.out) (hbase:=hbase) (hfew:=hfew) (hline:=hline) (hs:=hs) (hplain:=hplain)⟩
end
section
variable {X:Cx}{a b c e:Expr}{fa fb fc f:FD}{pos:Pos}{k:Nat}
theorem Wx {i j:Nat}{x y:Str}{px py:Pos}{k:Nat}(hc:X.calm=true)(hN:X.N.Nodup)(hi:X.N[i]?=some x)(hj:X.N[j]?=some y)(hx:Loc X.env.scope x)(hy:Loc X.env.scope y)(hf:autoParam (X.fn x=true\/X.env.scope.names.lookup x=some .local) qb._auto_1)(hf2:autoParam (X.fn y=true\/X.env.scope.names.lookup y=some .local) qb._auto_1):QG X (.Tuple [.Name x px,.Name y py] k pos) (MG i j):=⟨Zeh (hc:=hc) (hN:=hN) (hi:=hi) (hj:=hj) (hx:=hx) (hy:=hy) (hf:=hf) (hf2:=hf2)⟩
end
section
variable {X:Cx}{a b c e:Expr}{fa fb fc f:FD}{F G:FS}{pos:Pos}{k:Nat}
theorem Bi {body:List Stmt}{fc:FB}(hp:YC (model X.prog X.w) X.A X.env X.xe)(hc:QT X c fc)(hb:QSs X body F):QS X (.While c body [] pos) (DK fc F):=⟨Z8q (hp:=hp) (hc:=hc.out) (hb:=hb.out)⟩
theorem ZaO(he:QD X e f)(hg:QG X tg g)(hs:autoParam (swapsWithSole [tg] e pos.line X.env=pure false) q_._auto_1)(hw:autoParam (swappedStores [tg] e X.env=pure none) q_._auto_1)(h1:autoParam ((assignEach [tg] X.env).map (·.2)=[assign tg X.env]) q_._auto_1):QS X (.Assign [tg] e pos) (Zhg f g):=⟨Zed (he:=he.out) (hg:=hg.out) (hs:=hs) (hw:=hw) (h1:=h1)⟩
theorem Z2e(hc:X.calm=true)(S:Yt X [x,y] scope)(hN:([x,y]++X.N).Nodup)(hx:scope.names.lookup x=some .local)(hy:scope.names.lookup y=some .local)(hi:QI X (.Tuple [.Name x px,.Name y py] k1 pt) iter fi)(ht:∀ cl aC H1 C fp,QIf (cxC X [x,y] scope cl aC H1 C fp) ifs ft)(he:∀ cl aC H1 C fp,QD (cxC X [x,y] scope cl aC H1 C fp) elt fe)(hs:autoParam (∀ x,foldedSetIterable iter X.env x=pure x) qc._auto_1):QF X (.ListComp elt [⟨.Tuple [.Name x px,.Name y py] k1 pt,iter,ifs,0⟩] scope pos) (Um g2 fi ft fe):=⟨Zb1 (hc:=hc) (S:=S) (hN:=hN) (hx:=hx) (hy:=hy) (hi:=hi.out) (ht:=(fun x0 x1 x2 x3 x4=>(ht x0 x1 x2 x3 x4).out)) (he:=(fun x0 x1 x2 x3 x4=>(he x0 x1 x2 x3 x4).out)) (hs:=hs)⟩
theorem Z3K {x y z:Str}{px py pt pz pos spos:Pos}{k1:Nat}{scope:Scope}{elt iter:Expr}{ifs:Le_}{fi:FL}{ft:FB}{fe:FD}{i:Nat}(hN0:X.N.Nodup)(hi':X.N[i]?=some z)(hz:Loc X.env.scope z)(hc:X.calm=true)(S:Yt X [x,y] scope)(hN:([x,y]++X.N).Nodup)(hx:scope.names.lookup x=some .local)(hy:scope.names.lookup y=some .local)(hi:QI X (.Tuple [.Name x px,.Name y py] k1 pt) iter fi)(ht:∀ cl aC H1 C fp,QIf (cxC X [x,y] scope cl aC H1 C fp) ifs ft)(he:∀ cl aC H1 C fp,QD (cxC X [x,y] scope cl aC H1 C fp) elt fe)(hsw:autoParam (swapsWith (.ListComp elt [⟨.Tuple [.Name x px,.Name y py] k1 pt,iter,ifs,0⟩] scope pos) (some (.Name z pz)) spos.line X.env=pure true) q_._auto_1)(hf':autoParam (X.fn z=true\/X.env.scope.names.lookup z=some .local) qb._auto_1)(hs:autoParam (∀ x,foldedSetIterable iter X.env x=pure x) qc._auto_1):QS X (.Assign [.Name z pz] (.ListComp elt [⟨.Tuple [.Name x px,.Name y py] k1 pt,iter,ifs,0⟩] scope pos) spos) (Yy i (GA (Um g2 fi ft fe))):=⟨Z6z (hN0:=hN0) (hi':=hi') (hz:=hz) (hc:=hc) (S:=S) (hN:=hN) (hx:=hx) (hy:=hy) (hi:=hi.out) (ht:=(fun x0 x1 x2 x3 x4=>(ht x0 x1 x2 x3 x4).out)) (he:=(fun x0 x1 x2 x3 x4=>(he x0 x1 x2 x3 x4).out)) (hsw:=hsw) (hf':=hf') (hs:=hs)⟩
end
section
variable {X:Cx}{K:Fg_}{e:Expr}{es:Le_}{fs:FL}{p pos:Pos}{pins:Pn_}{σ:St}{H:Hp}{s:Shared}
theorem Z82 (hg:Gl X "sorted") (hm:X.mg "sorted"=none) (ha:QBA X (e::es) fs) (he:autoParam (starEach (e::es) X.env=(false,eval e X.env)::starEach es X.env) q_._auto_1) (hpl:autoParam ((backTo pos (starEach es X.env)).any (·.1)=false) q_._auto_1):QF X (.Call (.Name "sorted" p) (e::es) [] pos) (Z2T fs):=⟨ZaZ (hg:=hg) (hm:=hm) (ha:=ha.out) (he:=he) (hpl:=hpl)⟩
theorem Qr {p2 pos2:Pos} (hc:X.calm=true) (hg:Gl X "sorted") (hm:X.mg "sorted"=none) (hg2:Gl X "set") (hm2:X.mg "set"=none) (ha:QBA X (e::es) fs) (he:autoParam (starEach (e::es) X.env=(false,eval e X.env)::starEach es X.env) q_._auto_1) (hpl:autoParam ((backTo pos2 (starEach es X.env)).any (·.1)=false) q_._auto_1) (he2:autoParam (starEach [.Call (.Name "set" p2) (e::es) [] pos2] X.env=(false,eval (.Call (.Name "set" p2) (e::es) [] pos2) X.env)::starEach [] X.env) q_._auto_1) (hpl2:autoParam ((backTo pos (starEach ([]:Le_) X.env)).any (·.1)=false) q_._auto_1):QF X (.Call (.Name "sorted" p) [.Call (.Name "set" p2) (e::es) [] pos2] [] pos) (Nj fs):=⟨Z6w (hc:=hc) (hg:=hg) (hm:=hm) (hg2:=hg2) (hm2:=hm2) (ha:=ha.out) (he:=he) (hpl:=hpl) (he2:=he2) (hpl2:=hpl2)⟩
end
section
variable {X:Cx}{K:Fg_}{o a b c e e2:Expr}{fo fa fb fc f:FD}{pos:Pos}{k:Nat}
theorem Z89 {apos cpos:Pos} (ho:QB X o fo) (ha:QB X e fa) (hb:QB X e2 fb) (hbase:autoParam (attributeBase o "find" X.env (eval o X.env)=eval o X.env) q_._auto_1) (hfew:autoParam (((backTo cpos (starEach [e,e2] X.env)).all (fun x=>!x.1)&&(backToKw cpos (keywordEach [] X.env)).all (fun x=>x.1.isSome)&&decide ([e,e2].length+([]:List Keyword).length+(if ([]:List Keyword).isEmpty then 0 else 1)<30))=true) q_._auto_1) (hline:autoParam ((apos.endLine == cpos.line)=true) q_._auto_1) (hs:autoParam (starEach [e,e2] X.env=(false,eval e X.env)::starEach [e2] X.env) q_._auto_1) (hs2:autoParam (starEach [e2] X.env=(false,eval e2 X.env)::starEach [] X.env) q_._auto_1) (hplain:autoParam ((backTo cpos (starEach [e2] X.env)).any (·.1)=false) q_._auto_1):QD X (.Call (.Attribute o "find" apos) [e,e2] [] cpos) (fM2 (fun z y i=>some (.int (Dq z y i))) fo fa fb):=⟨Zbn (ho:=ho.out) (ha:=ha.out) (hb:=hb.out) (hbase:=hbase) (hfew:=hfew) (hline:=hline) (hs:=hs) (hs2:=hs2) (hplain:=hplain)⟩
theorem C0 {i:Nat} {apos cpos:Pos} (ho:QV X (o) i) (he:QB X e f) (hbase:autoParam (attributeBase o "extend" X.env (eval o X.env)=eval o X.env) q_._auto_1) (hfew:autoParam (((backTo cpos (starEach [e] X.env)).all (fun x=>!x.1)&&(backToKw cpos (keywordEach [] X.env)).all (fun x=>x.1.isSome)
  &&decide (([e]:Le_).length+([]:List Keyword).length+(if ([]:List Keyword).isEmpty then 0 else 1)<30))=true) q_._auto_1) (hline:autoParam ((apos.endLine == cpos.line)=true) q_._auto_1) (hs:autoParam (starEach [e] X.env=(false,eval e X.env)::starEach [] X.env) q_._auto_1) (hplain:autoParam ((backTo cpos (starEach ([]:Le_) X.env)).any (·.1)=false) q_._auto_1) (hsw:autoParam (swapsWith (.Call (.Attribute o "extend" apos) [e] [] cpos) none pos.line X.env=pure false) q_._auto_1):QS X (.Expr (.Call (.Attribute o "extend" apos) [e] [] cpos) pos) (Ms i f):=⟨Z6y (ho:=ho.out) (he:=he.out) (hbase:=hbase) (hfew:=hfew) (hline:=hline) (hs:=hs) (hplain:=hplain) (hsw:=hsw)⟩
end
section
variable {X:Cx}{K:Fg_}{o a b c e value:Expr}{f fk fw:FD}{pos pos':Pos}{k i:Nat}{x:Str}
theorem Z87 (hN:X.N.Nodup)(hi:X.N[i]?=some x)(hx:Loc X.env.scope x)(hf:autoParam (X.fn x=true\/X.env.scope.names.lookup x=some .local) qb._auto_1){px:Pos}(hs:autoParam (swapsWith (.Dict [] [] pos') (some (.Name x px)) pos.line X.env=pure false) q_._auto_1):QS X (.Assign [.Name x px] (.Dict [] [] pos') pos) (ZeZ i):=⟨Zbd (hN:=hN) (hi:=hi) (hx:=hx) (hf:=hf) (hs:=hs)⟩
theorem Z2f (hr:Nm k X.A)(ho:QV X (o) i)(hi:QB X e fk)(hv:QD X value fw)(hs:autoParam (swapsWith value (some (.Subscript o e pos')) pos.line X.env=pure false) q_._auto_1):QS X (.Assign [.Subscript o e pos'] value pos) (Z1m i fk fw):=⟨Zbc (hr:=hr) (ho:=ho.out) (hi:=hi.out) (hv:=hv.out) (hs:=hs)⟩
end
section
variable {X:Cx}{K:Fg_}{e value:Expr}{fs:FL}{fd:FD}{p pos kp:Pos}{k:Nat}
theorem ZaP (hr:Nm k X.A) (hc:X.calm=true) (hg:Gl X "min") (hm:X.mg "min"=none) (ha:QBA X [e] fs) (hv:QD X value fd) (he:autoParam (backTo pos (starEach [e] X.env)=(false,eval e X.env)::backTo pos (starEach [] X.env)) q_._auto_1) (hplain:autoParam ((backTo pos (starEach [e] X.env)).any (·.1)=false) q_._auto_1) (hall:autoParam ((backToKw pos (keywordEach [⟨some (Zq "default"),value,kp⟩] X.env)).all (·.1.isSome)=true) q_._auto_1) (hkw:autoParam ((backToKw pos (keywordEach [⟨some (Zq "default"),value,kp⟩] X.env)).any (·.1.isNone)=false) q_._auto_1) (hz:autoParam (∀ v:Value,((backToKw pos (keywordEach [⟨some (Zq "default"),value,kp⟩] X.env)).filterMap (·.1)).zip [v]=[(Zq "default",v)]) qc._auto_1):QD X (.Call (.Name "min" p) [e] [⟨some (Zq "default"),value,kp⟩] pos) (Z9x fs fd):=⟨Zej (hr:=hr) (hc:=hc) (hg:=hg) (hm:=hm) (ha:=ha.out) (hv:=hv.out) (he:=he) (hplain:=hplain) (hall:=hall) (hkw:=hkw) (hz:=hz)⟩
end
section
variable {X:Cx}{tg a b:Expr}{fa fb:FD}{K:Fg_}{p pos:Pos}
theorem Z3L (hg:Gl X "range") (hm:X.mg "range"=none) (ha:QD X a fa) (hb:QD X b fb) (hs:autoParam (starEach [a,b] X.env=[(false,eval a X.env),(false,eval b X.env)]) q_._auto_1) (hs2:autoParam (starEach [b] X.env=[(false,eval b X.env)]) q_._auto_1) (hs1:autoParam (starEach [a,b] X.env=(false,eval a X.env)::starEach [b] X.env) q_._auto_1) (hs3:autoParam (starEach [b] X.env=(false,eval b X.env)::starEach [] X.env) q_._auto_1):QI X tg (.Call (.Name "range" p) [a,b] [] pos) (Df fa fb):=⟨Z6C (hg:=hg) (hm:=hm) (ha:=ha.out) (hb:=hb.out) (hs:=hs) (hs2:=hs2) (hs1:=hs1) (hs3:=hs3)⟩
end
section
theorem Z81 {X:Cx} {o:Expr} {i:Nat} {p pos:Pos} (hc:X.calm=true) (hg:Gl X "sorted") (hm:X.mg "sorted"=none) (ho:QV X (o) i) (he:autoParam (starEach [o] X.env=(false,eval o X.env)::starEach [] X.env) q_._auto_1) (hpl:autoParam ((backTo pos (starEach ([]:Le_) X.env)).any (·.1)=false) q_._auto_1):QF X (.Call (.Name "sorted" p) [o] [] pos) (Z2S i):=⟨ZaY (hc:=hc) (hg:=hg) (hm:=hm) (ho:=ho.out) (he:=he) (hpl:=hpl)⟩
end
section
variable {X:Cx}{K:Fg_}{e:Expr}{fs:FL}{p pos kp kq:Pos}{k:Nat}{x:Str}{φ:Lt_->Option Th}
theorem Z80 (c:Callee X.prog X.w X.K X.mg X.base k x φ) (hr:Nm (k+2) X.A) (hx:Gl X x) (hg:Gl X "sorted") (hm:X.mg "sorted"=none) (ha:QBA X [e] fs) (hdb:autoParam ((x == ("__debug__":Str))=false) qa._auto_1) (he:autoParam (backTo pos (starEach [e] X.env)=(false,eval e X.env)::backTo pos (starEach [] X.env)) q_._auto_1) (hplain:autoParam ((backTo pos (starEach [e] X.env)).any (·.1)=false) q_._auto_1) (hall:autoParam ((backToKw pos (keywordEach [⟨some (Zq "key"),.Name x kq,kp⟩] X.env)).all (·.1.isSome)=true) q_._auto_1) (hkw:autoParam ((backToKw pos (keywordEach [⟨some (Zq "key"),.Name x kq,kp⟩] X.env)).any (·.1.isNone)=false) q_._auto_1) (hz:autoParam (∀ v:Value,((backToKw pos (keywordEach [⟨some (Zq "key"),.Name x kq,kp⟩] X.env)).filterMap (·.1)).zip [v]=[(Zq "key",v)]) qc._auto_1):QF X (.Call (.Name "sorted" p) [e] [⟨some (Zq "key"),.Name x kq,kp⟩] pos) (Z0m φ fs):=⟨ZaX (c:=c) (hr:=hr) (hx:=hx) (hg:=hg) (hm:=hm) (ha:=ha.out) (hdb:=hdb) (he:=he) (hplain:=hplain) (hall:=hall) (hkw:=hkw) (hz:=hz)⟩
end
section
variable {X:Cx}{K:Fg_}{e:Expr}{es:Le_}{fs:FL}{p pos:Pos}{pins:Pn_}{σ:St}{H:Hp}{s:Shared}
theorem Z2c {k:Nat} {p2 pos2:Pos} (hr:Nm k X.A) (hc:X.calm=true) (hg:Gl X "sorted") (hm:X.mg "sorted"=none) (hg2:Gl X "set") (hm2:X.mg "set"=none) (ha:QBA X (e::es) fs) (he:autoParam (starEach (e::es) X.env=(false,eval e X.env)::starEach es X.env) q_._auto_1) (hpl:autoParam ((backTo pos2 (starEach es X.env)).any (·.1)=false) q_._auto_1) (he2:autoParam (starEach [.Call (.Name "set" p2) (e::es) [] pos2] X.env=(false,eval (.Call (.Name "set" p2) (e::es) [] pos2) X.env)::starEach [] X.env) q_._auto_1) (hpl2:autoParam ((backTo pos (starEach ([]:Le_) X.env)).any (·.1)=false) q_._auto_1):QF X (.Call (.Name "sorted" p) [.Call (.Name "set" p2) (e::es) [] pos2] [] pos) (Wf fs):=⟨Z3O (hr:=hr) (hc:=hc) (hg:=hg) (hm:=hm) (hg2:=hg2) (hm2:=hm2) (ha:=ha.out) (he:=he) (hpl:=hpl) (he2:=he2) (hpl2:=hpl2)⟩
end
section
variable {X:Cx}{K:Fg_}{e:Expr}{fs:FL}{p pos kp kq:Pos}{k:Nat}{x:Str}{φ:Lt_->Option Th}
theorem Z88 (M:MM nm op g) (c:Callee X.prog X.w X.K X.mg X.base k x φ) (hr:Nm (k+2) X.A) (hc:X.calm=true) (hx:Gl X x) (hg:Gl X (Zq nm)) (hm:X.mg (Zq nm)=none) (ha:QBA X [e] fs) (hdb:autoParam ((x == ("__debug__":Str))=false) qa._auto_1) (he:autoParam (backTo pos (starEach [e] X.env)=(false,eval e X.env)::backTo pos (starEach [] X.env)) q_._auto_1) (hplain:autoParam ((backTo pos (starEach [e] X.env)).any (·.1)=false) q_._auto_1) (hall:autoParam ((backToKw pos (keywordEach [⟨some (Zq "key"),.Name x kq,kp⟩] X.env)).all (·.1.isSome)=true) q_._auto_1) (hkw:autoParam ((backToKw pos (keywordEach [⟨some (Zq "key"),.Name x kq,kp⟩] X.env)).any (·.1.isNone)=false) q_._auto_1) (hz:autoParam (∀ v:Value,((backToKw pos (keywordEach [⟨some (Zq "key"),.Name x kq,kp⟩] X.env)).filterMap (·.1)).zip [v]=[(Zq "key",v)]) qc._auto_1):QD X (.Call (.Name (Zq nm) p) [e] [⟨some (Zq "key"),.Name x kq,kp⟩] pos) (Zaf g φ fs):=⟨Zgu (M:=M) (c:=c) (hr:=hr) (hc:=hc) (hx:=hx) (hg:=hg) (hm:=hm) (ha:=ha.out) (hdb:=hdb) (he:=he) (hplain:=hplain) (hall:=hall) (hkw:=hkw) (hz:=hz)⟩
end
section
variable {X:Cx}{K:Fg_}{o a b c e value:Expr}{f fk fw:FD}{pos pos':Pos}{k i:Nat}{x:Str}
theorem Z6t (hN:X.N.Nodup)(hi:X.N[i]?=some x)(hx:Loc X.env.scope x)(hf:autoParam (X.fn x=true\/X.env.scope.names.lookup x=some .local) qb._auto_1){px:Pos}(hs:autoParam (swapsWith (.Dict [] [] pos') (some (.Name x px)) pos.line X.env=pure false) q_._auto_1):QS X (.Assign [.Name x px] (.Dict [] [] pos') pos) (Z9y i):=⟨Z8s (hN:=hN) (hi:=hi) (hx:=hx) (hf:=hf) (hs:=hs)⟩
theorem Z6s(hr:Nm k X.A)(ho:QV X (o) i)(hi:QA X es fs)(hv:QD X value (fC (.bl true)))(hs:autoParam (swapsWith value (some (.Subscript o (.Tuple es n1 tp) pos')) pos.line X.env=pure false) q_._auto_1):QS X (.Assign [.Subscript o (.Tuple es n1 tp) pos'] value pos) (Z0n i fs):=⟨Z8r (hr:=hr) (ho:=ho.out) (hi:=hi.out) (hv:=hv.out) (hs:=hs)⟩
theorem Z6r {p:Pos} (hc:X.calm=true) (hg:Gl X "sorted") (hm:X.mg "sorted"=none) (ho:QV X (o) i) (he:autoParam (starEach [o] X.env=(false,eval o X.env)::starEach [] X.env) q_._auto_1) (hpl:autoParam ((backTo pos (starEach ([]:Le_) X.env)).any (·.1)=false) q_._auto_1):QF X (.Call (.Name "sorted" p) [o] [] pos) (Cj i):=⟨Z8n (hc:=hc) (hg:=hg) (hm:=hm) (ho:=ho.out) (he:=he) (hpl:=hpl)⟩
end
section
variable {X:Cx}{K:Fg_}{e:Expr}{pos:Pos}
theorem Z2g {m:List Nat}{x y:Str}{px py pos spos:Pos}{scope:Scope}{elt iter:Expr}{ifs:Le_}{fi:FL}{ft:FB}{fe:FD}{i:Nat}(hN0:X.N.Nodup)(hi':X.N[i]?=some y)(hy:Loc X.env.scope y)(hc:X.calm=true)(S:Yt (X.hid m) [x] scope)(hN:([x]++(X.hid m).N).Nodup)(hx:scope.names.lookup x=some .local)(hi:QI X (.Name x px) iter fi)(ht:∀ cl aC H1 C fp,QIf (cxC (X.hid m) [x] scope cl aC H1 C fp) ifs ft)(he:∀ cl aC H1 C fp,QD (cxC (X.hid m) [x] scope cl aC H1 C fp) elt fe)(hsw:autoParam (swapsWith (.ListComp elt [⟨.Name x px,iter,ifs,0⟩] scope pos) (some (.Name y py)) spos.line X.env=pure true) q_._auto_1)(hf':autoParam (X.fn y=true\/X.env.scope.names.lookup y=some .local) qb._auto_1)(hs:autoParam (∀ x,foldedSetIterable iter X.env x=pure x) qc._auto_1):QS X (.Assign [.Name y py] (.ListComp elt [⟨.Name x px,iter,ifs,0⟩] scope pos) spos) (Yy i (GA (DM m g1 fi ft fe))):=⟨Z3Q (hN0:=hN0) (hi':=hi') (hy:=hy) (hc:=hc) (S:=S) (hN:=hN) (hx:=hx) (hi:=hi.out) (ht:=(fun x0 x1 x2 x3 x4=>(ht x0 x1 x2 x3 x4).out)) (he:=(fun x0 x1 x2 x3 x4=>(he x0 x1 x2 x3 x4).out)) (hsw:=hsw) (hf':=hf') (hs:=hs)⟩
end
section
variable {X:Cx}
theorem Z10(h:Lit e T):QD X e (fC T):=⟨ZcU h⟩
theorem Z0X {es:Le_}{ts:Lt_}{p:Pos}(h:Zdp es ts)(z:ts.length<=1000000):QF X (.List es p) (fCL ts):=⟨Zgd h z⟩
theorem qv (i:Nat) {x:Str} {pos:Pos} (hN:autoParam (X.N[i]?=some x) q_._auto_1) (hv:Vis X.env.scope x:=by first|exact Z0E rfl|exact Zjw (Z0E rfl)|exact Zjw (Zjw rfl)) (hd:autoParam ((x == ("__debug__":Str))=false) qa._auto_1)
  (hcd:autoParam ((x == ("__classdict__":Str))=false) qa._auto_1):QV X (.Name x pos) i:=⟨Zge hN hv hd hcd⟩
end
section
variable {P:Program}{w:World}{K:Fg_}{mg:Str->Option Value}{base:Heap}
theorem Fun.okQ {x qual:Str}{st:Stmt}{f:Addr}{fd:Jc}{N ps:Ls_}{k:Nat}{n m:Nat}{body:FS}(F:Fun K x qual st f fd)(S:Yf N ps (ZB st))(hps:ps.length=n)(hN:N.length=m)
  (hb:∀ (cdv:Value) (A:Around) (outer:List Env) (s:Shared) (H:Hp) (E:XK),Nm k (A.deeper (envOfC qual (ZB st) s.heap.objs.size f cdv))->QSs (Zdg CX0 P w K mg base N qual (ZB st) f cdv A outer s H E).nox (Y3 st) body) :
  Me P w K mg base CX0 (k+1) f fd ps (spF K (Qq n m body)) :=
 Fun.okD F S (fun cdv A outer s H E hr=>(hb cdv A outer s H E hr).out) (fun Ts T e=>by subst hps hN;exact Z7V e)
end
end L2
namespace L2
open PySem PySem.Spec PyProof.Rows PySem.Builtin.Str PySem.StrLaws
abbrev W:=List Nat
noncomputable def sL (l:W):Str:=⟨l.toArray⟩
noncomputable def tS (l:W):Th:=.str (sL l)
theorem ZcJ (l:W):(sL l).cps.toList=l:=rfl
theorem QQ (l:W):(sL l).length=l.length:=rfl
theorem Z3I (x:Str):sL x.cps.toList=x:=by cases x;simp[sL]
theorem ZfO(h:sL a=sL b):a=b:=by
 have:=congrArg (fun s:Str=>s.cps.toList) h
 exact this
theorem ZfP (a b:W):sL a++sL b=sL (a++b):=by
 show (⟨a.toArray++b.toArray⟩:Str)=_
 simp[sL]
noncomputable def U2 (l w:W)(i:Nat):Bool:=l.isPrefixOf (w.drop i)
theorem Bb:U2 l w i=true↔l <+: w.drop i:=Jf
theorem Du {l w:W}{i:Nat}(hl:l≠[])(h:U2 l w i=true):i+l.length<=w.length:=by
 have:=(Bb.mp h).length_le
 rw[ZI] at this
 have:0<l.length:=Bz.mpr hl
 lia
theorem Z6n(h:U2 l w i=true)(hi:i<=w.length):w=w.take i++l++w.drop (i+l.length):=by
 obtain⟨t,ht⟩:=Bb.mp h
 have e:w.drop (i+l.length)=t:=by
  rw[<- JV,<- ht,Z3r]
 rw[e,Zi,ht,Zp]
theorem Z7H(h:i+l.length<=w.length):subAt (sL w) (sL l) i=U2 l w i:=by
 unfold subAt U2
 have e:((sL w).cps.extract i (i+(sL l).length))=((w.drop i).take l.length).toArray:=by
  apply Wn.mp
  show ((w.toArray).extract i (i+l.length)).toList=_
  rw[GP,UR]
  simp
 rw[e]
 show (((w.drop i).take l.length).toArray == l.toArray)=_
 have e2:(((w.drop i).take l.length).toArray == l.toArray)=((w.drop i).take l.length == l):=by
  rw[MZ]
  simp
 rw[e2,MZ,beq_iff_eq,Jf,List.prefix_iff_eq_take]
 exact eq_comm
theorem Dt (w l:W):Jn (sL w) (sL l)=l.isPrefixOf w:=by
 unfold Jn
 by_cases h:l.length<=w.length
 ·have h0:0+l.length<=w.length:=by lia
  rw[Z7H h0]
  have:decide (0+(sL l).length<=(sL w).length)=true:=decide_eq_true h0
  rw[this]
  simp[U2]
 ·have:decide (0+(sL l).length<=(sL w).length)=false:=decide_eq_false (by show ¬ (0+l.length<=w.length);lia)
  rw[this,Zfv]
  cases h2:l.isPrefixOf w with
  |false=>rfl
  |true=>exact absurd (Jf.mp h2).length_le (by omega)
noncomputable def YD (l w:W)(lo:Nat):Option Nat:=(Uq lo (w.length+1-lo)).find? (U2 l w)
theorem ZgO {w l:W}(hl:l≠[]):∀ (is:List Nat) (lo:Nat),(∀ i∈is,lo<=i) ->
  (forIn (m:=Id) is ((#[]:Array Nat),lo) (occBody (sL w) (sL l) w.length 1)).run.fst.toList=(is.find? (U2 l w)).toList:=by
 intro is
 have full:∀ (is:List Nat) (k f:Nat),(forIn (m:=Id) is ((#[k]:Array Nat),f) (occBody (sL w) (sL l) w.length 1)).run.fst.toList=[k]:=by
  intro is
  induction is with
  |nil=>intro k f;rfl
  |cons i is ih =>
   intro k f
   rw[MY]
   have e:occBody (sL w) (sL l) w.length 1 i ((#[k]:Array Nat),f)=pure (Ud (#[k],f)):=by
    unfold occBody
    simp
   rw[e]
   exact ih k f
 induction is with
 |nil=>intro lo _;rfl
 |cons i is ih =>
  intro lo hlo
  rw[MY,NJ]
  have hi:=hlo i Z1
  cases hs:U2 l w i with
  |true =>
   have hle:=Du hl hs
   have hle':i+(sL l).length<=w.length:=hle
   have e:occBody (sL w) (sL l) w.length 1 i ((#[]:Array Nat),lo)=pure (Ud (#[i],i+(sL l).length)):=by
    unfold occBody
    rw[Z7H hle,hs]
    simp[hi,hle']
   rw[e]
   exact full is i _
  |false =>
   have e:occBody (sL w) (sL l) w.length 1 i ((#[]:Array Nat),lo)=pure (Ud (#[],lo)):=by
    unfold occBody
    by_cases h:i+(sL l).length<=w.length
    ·rw[Z7H (l:=l) h,hs]
     simp
    ·simp[h]
   rw[e]
   exact ih lo fun j hj=>hlo j (Z2 _ hj)
theorem Z8M {w l:W}(hl:l≠[])(lo:Nat):occurrences (sL w) (sL l) lo (sL w).length 1=(YD l w lo).toList:=by
 rw[occ_eq]
 refine ZgO hl _ lo fun i hi=>?_
 exact (M3.mp hi).1
noncomputable def Zae:Option Nat->Int
 |some i=>(i:Int)
 |none=>-1
theorem Z9u {w l:W}(hl:l≠[]):MS (sL w) (sL l)=Zae (YD l w 0):=by
 unfold MS
 rw[Z8M hl 0]
 cases YD l w 0 <;> rfl
theorem Zc4 {w l:W}(hl:l≠[])(i:Nat):Dq (sL w) (sL l) (i:Int)=Zae (YD l w i):=by
 unfold Dq
 have hi:fromIndex (sL w).length (i:Int)=i:=by unfold fromIndex;rw[if_neg (by lia)];rfl
 rw[hi,Z8M hl i]
 cases YD l w i <;> rfl
noncomputable def allAt (l w:W)(lo:Nat):List Nat:=(Uq lo (w.length+1-lo)).filter (U2 l w)
theorem CD {l w:W}{lo p:Nat}(h:YD l w lo=some p):lo<=p/\p<=w.length/\allAt l w lo=p::allAt l w (p+1):=by
 unfold YD at h
 unfold allAt
 have aux:∀ (n lo:Nat),(Uq lo n).find? (U2 l w)=some p->lo<=p/\p<lo+n/\(Uq lo n).filter (U2 l w)=p::(Uq (p+1) (lo+n-(p+1))).filter (U2 l w):=by
  intro n
  induction n with
  |zero=>intro lo h;simp at h
  |succ n ih =>
   intro lo h
   rw[Zdq,NJ] at h
   rw[Zdq,Na]
   cases hs:U2 l w lo with
   |true =>
    rw[hs] at h
    cases h
    refine⟨Z7 _,by lia,?_⟩
    rw[if_pos rfl]
    congr 3
    lia
   |false =>
    rw[hs] at h
    refine W_ fun n9=>?_;obtain⟨a,b,c⟩:=ih (lo+1) h;apply n9;clear n9
    refine⟨by exact YA ‹_›,by lia,?_⟩
    rw[if_neg (by simp),c]
    congr 3
    lia
 refine W_ fun n9=>?_;obtain⟨a,b,c⟩:=aux _ _ h;apply n9;clear n9
 refine⟨a,by omega,?_⟩
 rw[c]
 congr 3
 lia
theorem Z0C {l w:W}{lo:Nat}(h:YD l w lo=none):allAt l w lo=[]:=by
 unfold YD at h
 unfold allAt
 rw[List.filter_eq_nil_iff]
 intro i hi
 exact Zan.mp h i hi
theorem We {l w:W}(hl:l≠[]){i:Nat}:i∈allAt l w 0↔U2 l w i=true:=by
 unfold allAt
 rw[GC,M3]
 constructor
 ·exact fun h=>h.2
 ·intro h
  have:=Du hl h
  exact⟨⟨Jh _,by lia⟩,h⟩
abbrev Ru:=W×W
noncomputable def rTh (r:Ru):Th:=.tup [tS r.1,tS r.2]
noncomputable def RT (R:List Ru):Th:=.tup (R.map rTh)
noncomputable def NO (p:Nat×Nat):Th:=.tup [.int (p.1:Int),.int (p.2:Int)]
theorem Mr {α:Type}[DecidableEq α]:∀ {a b:List α},a.Nodup->b.Nodup->(∀ x,x∈a↔x∈b)->a.Perm b
 |[],b,_,_,h=>by
  have:b=[]:=Md.mpr fun x hx=>absurd ((h x).mpr hx) (by simp)
  rw[this]
 |x::a,b,ha,hb,h=>by
  have hx:x∈b:=(h x).mp Z1
  have hna:=GB.mp ha
  refine (Za6 x (Mr hna.2 (hb.erase x) fun y=>?_)).trans (List.perm_cons_erase hx).symm
  rw[hb.mem_erase_iff]
  constructor
  ·intro hy
   exact⟨fun e=>hna.1 (e ▸ hy),(h y).mp (Z2 _ hy)⟩
  ·rintro⟨n,hy⟩
   rcases Zc.mp ((h y).mpr hy) with e|e
   ·exact absurd e n
   ·exact e
noncomputable def UJ (w:W)(p:Nat):Nat->List Ru->List (Nat×Nat)
 |_,[]=>[]
 |k,r::R=>if U2 r.1 w p=true then (p,k)::UJ w p (k+1) R else UJ w p (k+1) R
noncomputable def JE (R:List Ru)(w:W):List (Nat×Nat):=(Ja w.length).flatMap fun p=>UJ w p 0 R
theorem Db:∀ {k:Nat} {R:List Ru},x∈UJ w p k R↔x.1=p/\k<=x.2/\∃ r,R[x.2-k]?=some r/\U2 r.1 w p=true
 |k,[]=>by simp[UJ]
 |k,r::R=>by
  have key:(x.1=p/\k<=x.2/\∃ q,(r::R)[x.2-k]?=some q/\U2 q.1 w p=true)↔((x=(p,k)/\U2 r.1 w p=true)\/(x.1=p/\k+1<=x.2/\∃ q,R[x.2-(k+1)]?=some q/\U2 q.1 w p=true)):=by
   constructor
   ·rintro⟨h1,h2,q,h3,h4⟩
    by_cases e:x.2=k
    ·left
     rw[e,QE,gz_] at h3
     cases h3
     exact⟨Qm h1 e,h4⟩
    ·right
     obtain⟨j,hj⟩:∃ j,x.2-k=j+1:=⟨x.2-k-1,by lia⟩
     rw[hj,gs_] at h3
     refine⟨h1,by lia,q,?_,h4⟩
     rw[show x.2-(k+1)=j by lia]
     exact h3
   ·rintro (⟨e,h⟩|⟨h1,h2,q,h3,h4⟩)
    ·subst e
     exact⟨rfl,Z7 _,r,by simp,h⟩
    ·refine⟨h1,by exact YA ‹_›,q,?_,h4⟩
     rw[show x.2-k=(x.2-(k+1))+1 by lia,gs_]
     exact h3
  rw[key]
  unfold UJ
  split
  ·rename_i hs
   rw[Zc,Db (k:=k+1) (R:=R)]
   constructor
   ·rintro (e|e)
    ·exact .inl ⟨e,hs⟩
    ·exact .inr e
   ·rintro (⟨e,-⟩|e)
    ·exact .inl e
    ·exact .inr e
  ·rename_i hs
   rw[Db (k:=k+1) (R:=R)]
   constructor
   ·exact .inr
   ·rintro (⟨-,e⟩|e)
    ·exact absurd e hs
    ·exact e
def Z4I (R:List Ru)(w:W)(x:Nat×Nat):Prop:=∃ r,R[x.2]?=some r/\U2 r.1 w x.1=true
theorem UO {R:List Ru}{w:W}(hR:∀ r∈R,r.1≠[]){x:Nat×Nat}:x∈JE R w↔Z4I R w x:=by
 unfold JE Z4I
 rw[CW]
 constructor
 ·rintro⟨p,-,h⟩
  refine W_ fun n9=>?_;obtain⟨h1,-,r,h3,h4⟩:=Db.mp h;apply n9;clear n9
  subst h1
  exact⟨r,by simpa using h3,h4⟩
 ·rintro⟨r,h1,h2⟩
  have hl:=Du (hR r (ZJ h1)) h2
  have:0<r.1.length:=Bz.mpr (hR r (ZJ h1))
  exact⟨x.1,Jv.mpr (by lia),Db.mpr ⟨rfl,Jh _,r,by simpa using h1,h2⟩⟩
theorem Z0V (w:W)(p:Nat):∀ (k:Nat) (R:List Ru),(UJ w p k R).Pairwise fun a b=>a.1=b.1/\a.2<b.2
 |k,[]=>U1
 |k,r::R=>by
  unfold UJ
  split
  ·refine Jz.cons (fun b hb=>?_) (Z0V w p (k+1) R)
   obtain⟨h1,h2,-⟩:=Db.mp hb
   exact⟨h1.symm,h2⟩
  ·exact Z0V w p (k+1) R
def LtP (a b:Nat×Nat):Prop:=a.1<b.1\/(a.1=b.1/\a.2<b.2)
theorem D7 (R:List Ru)(w:W):(JE R w).Pairwise LtP:=by
 unfold JE
 rw[List.pairwise_flatMap]
 refine⟨fun p _=>(Z0V w p 0 R).imp fun h=>.inr h,?_⟩
 refine Jz.imp (fun {p q} hpq x hx y hy=>.inl ?_) (Z6b (n:=w.length))
 rw[(Db.mp hx).1,(Db.mp hy).1]
 exact hpq
theorem Z2i (R:List Ru)(w:W):(JE R w).Nodup:=(D7 R w).imp fun {a b} h e=>by
 subst e
 unfold LtP at h
 lia
noncomputable def Gf (w:W):Nat->List Ru->List (Nat×Nat)
 |_,[]=>[]
 |k,r::R=>(allAt r.1 w 0).map (fun p=>(p,k))++Gf w (k+1) R
theorem Z1a:∀ {k:Nat} {R:List Ru},(∀ r∈R,r.1≠[])->(x∈Gf w k R↔k<=x.2/\∃ r,R[x.2-k]?=some r/\U2 r.1 w x.1=true)
 |k,[],_=>by simp[Gf]
 |k,r::R,hR=>by
  unfold Gf
  rw[ZR,Z1a (k:=k+1) (R:=R) fun q hq=>hR q (Z2 _ hq),Zu]
  constructor
  ·rintro (⟨p,hp,e⟩|⟨h2,q,h3,h4⟩)
   ·subst e
    exact⟨Z7 _,r,by simp,(We (hR r Z1)).mp hp⟩
   ·refine⟨by lia,q,?_,h4⟩
    rw[show x.2-k=(x.2-(k+1))+1 by lia,gs_]
    exact h3
  ·rintro⟨h2,q,h3,h4⟩
   by_cases e:x.2=k
   ·left
    rw[e,QE,gz_] at h3
    cases h3
    exact⟨x.1,(We (hR r Z1)).mpr h4,Qm rfl e.symm⟩
   ·right
    obtain⟨j,hj⟩:∃ j,x.2-k=j+1:=⟨x.2-k-1,by lia⟩
    rw[hj,gs_] at h3
    refine⟨by lia,q,?_,h4⟩
    rw[show x.2-(k+1)=j by lia]
    exact h3
theorem Z4G (l w:W):(allAt l w 0).Nodup:=by
 unfold allAt
 exact Jz.filter _ List.nodup_range'
theorem Z0t:∀ {k:Nat} {R:List Ru},(∀ r∈R,r.1≠[])->(Gf w k R).Nodup
 |k,[],_=>YU
 |k,r::R,hR=>by
  unfold Gf
  have hR':∀ q∈R,q.1≠[]:=fun q hq=>hR q (Z2 _ hq)
  refine M2.mpr ⟨?_,Z0t hR',fun a ha b hb e=>?_⟩
  ·refine Z1P _ (fun a b h e=>h ?_) (Z4G r.1 w)
   exact congrArg Prod.fst e
  ·subst e
   obtain⟨p,-,rfl⟩:=Zu.mp ha
   have:=((Z1a hR').mp hb).1
   simp only at this
   exact absurd ‹_› (YF _)
theorem Z9G {R:List Ru}{w:W}(hR:∀ r∈R,r.1≠[]):(JE R w).Perm (Gf w 0 R):=by
 refine Mr (Z2i R w) (Z0t hR) fun x=>?_
 rw[UO hR,Z1a hR]
 unfold Z4I
 simp
theorem Z3G {R:List Ru}{w:W}(hR:∀ r∈R,r.1≠[]):W8 ((Gf w 0 R).map NO)=(JE R w).map NO:=by
 refine Dx ((Z9G hR).map _) (YS.mpr ((D7 R w).imp fun {a b} h=>?_))
 refine .ii ?_
 unfold LtP at h
 lia
theorem ZgM (l:List (Nat×Nat)):okT (l.map NO)=true:=by
 unfold okT
 have:(l.map NO).all (okK .ii)=true:=by
  rw[Dj,U8]
  intro x _
  rfl
 rw[this]
 simp
theorem Z3J (w:W)(p:Nat):∀ (k:Nat) (R:List Ru),(UJ w p k R).length<=R.length
 |k,[]=>Z7 _
 |k,r::R=>by
  unfold UJ
  have:=Z3J w p (k+1) R
  split <;> simp <;> omega
theorem Wz (R:List Ru)(w:W):(JE R w).length<=w.length*R.length:=by
 unfold JE
 have:∀ l:List Nat,(l.flatMap fun p=>UJ w p 0 R).length<=l.length*R.length:=by
  intro l
  induction l with
  |nil=>simp
  |cons p l ih =>
   rw[Zcw,Zj,Zf,Dr]
   have:=Z3J w p 0 R
   lia
 have h:=this (Ja w.length)
 rwa [JS] at h
noncomputable def chW (r:Ru)(w:W)(p:Nat):W:=w.take p++r.2++w.drop (p+r.1.length)
noncomputable def NS (R:List Ru)(w:W):List W:=(JE R w).filterMap fun x=>(R[x.2]?).map fun r=>chW r w x.1
def ltW (a b:W):Prop:=a.length<b.length\/(a.length=b.length/\a<b)
theorem Z44 (u:W)(h:a<b):u++a<u++b:=by
 induction u with
 |nil=>exact h
 |cons c u ih=>exact GE.mpr (.inr ⟨rfl,ih⟩)
theorem Z2u(v:W)(h:a<b)(hl:a.length=b.length):a++v<b++v:=by
 induction a generalizing b with
 |nil =>
  cases b with
  |nil=>exact absurd h (QJ _)
  |cons _ _=>simp at hl
 |cons c a ih =>
  cases b with
  |nil=>simp at hl
  |cons d b =>
   rw[ZO,ZO]
   rcases GE.mp h with q|⟨e,q⟩
   ·exact GE.mpr (.inl q)
   ·exact GE.mpr (.inr ⟨e,ih q (by simpa using hl)⟩)
theorem ZeM(u v:W)(h:ltW r l):ltW (u++r++v) (u++l++v):=by
 rcases h with h|⟨h1,h2⟩
 ·left
  simp only[Zj]
  lia
 ·right
  refine⟨by simp only[Zj];lia,?_⟩
  rw[Zi,Zi]
  exact Z44 u (Z2u v h2 h1)
theorem ZbK {R:List Ru}(hR:∀ r∈R,r.1≠[]/\ltW r.2 r.1){w:W}{x:Nat×Nat}{r:Ru}(h1:R[x.2]?=some r)(h2:U2 r.1 w x.1=true):ltW (chW r w x.1) w:=by
 have hr:=hR r (ZJ h1)
 have hl:=Du hr.1 h2
 have e:=Z6n h2 (by lia)
 have z:=ZeM (w.take x.1) (w.drop (x.1+r.1.length)) hr.2
 rw[<- e] at z
 exact z
theorem DD {R:List Ru}(hR:∀ r∈R,r.1≠[]){w y:W}:y∈NS R w↔∃ (p:Nat) (r:Ru),r∈R/\U2 r.1 w p=true/\y=chW r w p:=by
 unfold NS
 rw[NH]
 constructor
 ·rintro⟨x,hx,e⟩
  refine W_ fun n9=>?_;obtain⟨r,h1,h2⟩:=(UO hR).mp hx;apply n9;clear n9
  rw[h1] at e
  cases e
  exact⟨x.1,r,ZJ h1,h2,rfl⟩
 ·rintro⟨p,r,hr,h2,e⟩
  refine W_ fun n9=>?_;obtain⟨k,hk,e1⟩:=YT hr;apply n9;clear n9
  have h1:R[k]?=some r:=by rw[Zd hk,e1]
  refine⟨(p,k),(UO hR).mpr ⟨r,h1,h2⟩,?_⟩
  show (R[k]?).map _=_
  rw[h1,e]
  rfl
end L2
namespace L2
open PySem
inductive Rch {α:Type} (nx:α->List α):α->α->Prop where
 |refl (x:α):Rch nx x x
 |step {x y z:α} (r:Rch nx x y) (h:z∈nx y):Rch nx x z
section
variable {α:Type}[DecidableEq α]{nx:α->List α}{U:List α}
theorem Rch.mem (hU:∀ x∈U,∀ y∈nx x,y∈U)(r:Rch nx x y)(hx:x∈U):y∈U:=by
 induction r with
 |refl=>exact hx
 |step r h ih=>exact hU _ ih _ h
structure Za8 (nx:α->List α)(s:α)(v w:List α):Prop where
 nd:v.Nodup
 vr:∀ x∈v,Rch nx s x
 wr:∀ x∈w,Rch nx s x
 cl:∀ x∈v,∀ y∈nx x,y∈v\/y∈w
 st:s∈v\/s∈w
structure Zhz (nx:α->List α)(s:α)(i:Nat)(v:List α):Prop where
 nd:v.Nodup
 le:i<=v.length
 vr:∀ x∈v,Rch nx s x
 cl:∀ x∈v.take i,∀ y∈nx x,y∈v
 st:s∈v
end
end L2
namespace L2
open PySem
noncomputable def ovW (l m:W)(p:Nat):W:=l.take p++m++l.drop (p+m.length)
def ClW (R:List Ru)(u:W):Prop:=∃ (i j:Nat) (a b:Ru) (p:Nat),R[i]?=some a/\R[j]?=some b/\(i=j->1<=p)/\p<a.1.length/\u=ovW a.1 b.1 p/\a.1 <+: u
def StW (R:List Ru)(w y:W):Prop:=∃ (p:Nat) (r:Ru),r∈R/\U2 r.1 w p=true/\y=chW r w p
section
variable {R:List Ru}{nx:W->List W}
theorem Z11 {a b x:W}(h1:a <+: x)(h2:b <+: x)(h:a.length<=b.length):a <+: b:=List.prefix_of_prefix_length_le h1 h2 h
theorem ZcW {l m x:W}{p:Nat}(hp:p<=l.length)(h1:l <+: x)(h2:m <+: x.drop p):ovW l m p <+: x/\l <+: ovW l m p:=by
 obtain⟨t,rfl⟩:=h1
 have e1:(l++t).drop p=l.drop p++t:=by rw[Gi hp]
 rw[e1] at h2
 unfold ovW
 by_cases hm:p+m.length<=l.length
 ·have h3:m <+: l.drop p:=Z11 h2 (NG _ _) (by rw[ZI];lia)
  obtain⟨s,hs⟩:=h3
  have e2:l.drop (p+m.length)=s:=by rw[<- JV,<- hs,Z3r]
  have e3:l.take p++m++l.drop (p+m.length)=l:=by rw[e2,Zi,hs,Zp]
  rw[e3]
  exact⟨NG _ _,CV _⟩
 ·have e2:l.drop (p+m.length)=[]:=JO (by lia)
  rw[e2,UZ]
  constructor
  ·have:l++t=l.take p++(l.drop p++t):=by rw[<- Zi,Zp]
   rw[this]
   exact (Gp _).mpr h2
  ·have:l.drop p <+: m:=Z11 (NG _ _) h2 (by rw[ZI];lia)
   calc l=l.take p++l.drop p:=(Zp _ _).symm
    _ <+: _:=(Gp _).mpr this
end
end L2
namespace L2
open PySem
noncomputable def Z7k (l m:W)(st:Nat):List W:=((Uq st (l.length-st)).map (ovW l m)).filter fun u=>l.isPrefixOf u
theorem Z8X:u∈Z7k l m st↔∃ p,st<=p/\p<l.length/\u=ovW l m p/\l <+: u:=by
 unfold Z7k
 rw[GC,Zu]
 constructor
 ·rintro⟨⟨p,hp,e⟩,h⟩
  obtain⟨h1,h2⟩:=M3.mp hp
  exact⟨p,h1,by omega,e.symm,Jf.mp h⟩
 ·rintro⟨p,h1,h2,e,h⟩
  exact⟨⟨p,M3.mpr ⟨h1,by lia⟩,e.symm⟩,Jf.mpr h⟩
theorem Z8C (l m:W)(st:Nat):(Z7k l m st).length<=l.length:=by
 unfold Z7k
 exact ZF (Mc _ _) (by rw[Z5,Fq];exact CL _ _)
noncomputable def Dg (a:Ru)(i:Nat):Nat->List Ru->List W
 |_,[]=>[]
 |j,b::R=>Z7k a.1 b.1 (if i=j then 1 else 0)++Dg a i (j+1) R
noncomputable def Mv (R0:List Ru):Nat->List Ru->List W
 |_,[]=>[]
 |i,a::R=>Dg a i 0 R0++Mv R0 (i+1) R
theorem C7:∀ {j:Nat} {R:List Ru},u∈Dg a i j R↔∃ k b,R[k]?=some b/\u∈Z7k a.1 b.1 (if i=j+k then 1 else 0)
 |j,[]=>by simp[Dg]
 |j,b::R=>by
  unfold Dg
  rw[ZR,C7]
  constructor
  ·rintro (h|⟨k,c,h1,h2⟩)
   ·exact⟨0,b,rfl,h⟩
   ·refine⟨k+1,c,h1,?_⟩
    rw[show j+(k+1)=j+1+k by lia]
    exact h2
  ·rintro⟨k,c,h1,h2⟩
   cases k with
   |zero=>cases h1;exact .inl h2
   |succ k =>
    refine .inr ⟨k,c,h1,?_⟩
    rw[show j+1+k=j+(k+1) by lia]
    exact h2
theorem Z2t:∀ {i:Nat} {R:List Ru},u∈Mv R0 i R↔∃ k a,R[k]?=some a/\u∈Dg a (i+k) 0 R0
 |i,[]=>by simp[Mv]
 |i,b::R=>by
  unfold Mv
  rw[ZR,Z2t]
  constructor
  ·rintro (h|⟨k,c,h1,h2⟩)
   ·exact⟨0,b,rfl,h⟩
   ·refine⟨k+1,c,h1,?_⟩
    rw[show i+(k+1)=i+1+k by lia]
    exact h2
  ·rintro⟨k,c,h1,h2⟩
   cases k with
   |zero=>cases h1;exact .inl h2
   |succ k =>
    refine .inr ⟨k,c,h1,?_⟩
    rw[show i+1+k=i+(k+1) by lia]
    exact h2
theorem Z8Y:u∈Mv R 0 R↔ClW R u:=by
 rw[Z2t]
 constructor
 ·rintro⟨i,a,h1,h2⟩
  rw[C7] at h2
  obtain⟨j,b,h3,h4⟩:=h2
  obtain⟨p,q1,q2,q3,q4⟩:=Z8X.mp h4
  refine⟨i,j,a,b,p,h1,h3,fun e=>?_,q2,q3,q4⟩
  rw[if_pos (by lia)] at q1
  exact q1
 ·rintro⟨i,j,a,b,p,h1,h3,h,q2,q3,q4⟩
  refine⟨i,a,h1,C7.mpr ⟨j,b,h3,Z8X.mpr ⟨p,?_,q2,q3,q4⟩⟩⟩
  split
  ·rename_i e;exact h (by lia)
  ·exact Jh _
theorem Ct(ha:a.1.length<=n):∀ {j:Nat} {R:List Ru},(Dg a i j R).length<=R.length*n
 |_,[]=>by simp[Dg]
 |j,b::R=>by
  unfold Dg
  have h1:=Z8C a.1 b.1 (if i=j then 1 else 0)
  have h2:=Ct (i:=i) ha (j:=j+1) (R:=R)
  rw[Zj,Zf,Dr]
  lia
theorem Z32:∀ {i:Nat} {R:List Ru},(∀ a∈R,a.1.length<=n)->(Mv R0 i R).length<=R.length*(R0.length*n)
 |_,[],_=>by simp[Mv]
 |i,b::R,h=>by
  unfold Mv
  have h1:=Ct (i:=i) (h b Z1) (j:=0) (R:=R0)
  have h2:=Z32 (R0:=R0) (i:=i+1) fun a ha=>h a (Z2 _ ha)
  rw[Zj,Zf,Dr]
  lia
theorem Zf4 {R:List Ru}{u:W}{P:Nat->Prop}{n:Nat}(hP:∀ r∈R,∀ c∈r.1,P c)(hn:∀ r∈R,r.1.length<=n)(h:ClW R u):u.length+1<=2*n/\∀ c∈u,P c:=by
 refine W_ fun n9=>?_;obtain⟨i,j,a,b,p,h1,h2,-,h3,rfl,-⟩:=h;apply n9;clear n9
 have ha:=ZJ h1
 have hb:=ZJ h2
 have la:=hn a ha
 have lb:=hn b hb
 unfold ovW
 constructor
 ·simp only[Zj,Zx,ZI]
  lia
 ·intro c hc
  rcases ZR.mp hc with hc|hc
  ·rcases ZR.mp hc with hc|hc
   ·exact hP a ha c (Uc hc)
   ·exact hP b hb c hc
  ·exact hP a ha c (JQ hc)
theorem ZfD {α:Type}{l:List α}(h:l.Nodup)(h2:1<l.length):∃ a b,a∈l/\b∈l/\a≠b:=by
 match l,h,h2 with
 |a::b::r,h,_=>exact⟨a,b,by simp,by simp,fun e=>(GB.mp h).1 (by rw[e];simp)⟩
 |[_],_,h2=>exact absurd h2 (by simp)
 |[],_,h2=>exact absurd h2 (by simp)
theorem Zdv {α:Type}{l:List α}{a b:α}(ha:a∈l)(hb:b∈l)(h:a≠b):1<l.length:=by
 match l,ha,hb with
 |_::_::_,_,_=>simp
 |[x],ha,hb =>
  rw[ZS] at ha hb
  exact absurd (ha.trans hb.symm) h
 |[],ha,_=>cases ha
end L2
namespace L2
open PySem
theorem ZgB {l m:W}{p:Nat}(hp:p<=l.length):l.isPrefixOf (ovW l m p)=(m.isPrefixOf (l.drop p)||(l.drop p).isPrefixOf m):=by
 rw[MZ,Ys,Jf,Jf,Jf]
 constructor
 ·intro h
  unfold ovW at h
  rw[Zi] at h
  have h2:l.drop p <+: m++l.drop (p+m.length):=by
   have e:l=l.take p++l.drop p:=(Zp _ _).symm
   have h':l.take p++l.drop p <+: l.take p++(m++l.drop (p+m.length)):=by rw[Zp];exact h
   exact (Gp _).mp h'
  rcases Nat.le_total m.length (l.drop p).length with q|q
  ·exact .inl (Z11 (NG _ _) h2 q)
  ·exact .inr (Z11 h2 (NG _ _) q)
 ·rintro (h|h)
  ·exact (ZcW (x:=l) hp (CV _) h).2
  ·have:=ZcW (l:=l) (m:=m) (x:=l.take p++m) hp (by
    calc l=l.take p++l.drop p:=(Zp _ _).symm
     _ <+: _:=(Gp _).mpr h) (by
    rw[List.drop_append,JO (by rw[Zx];lia),ZW,Zx,Z1M hp,QE,QK]
    exact CV _)
   exact this.2
theorem Zer(hp:p<=l.length)(h:l.isPrefixOf (ovW l m p)=true):ovW l m p=if (l.drop p).length<m.length then l.take p++m else l:=by
 have h':=Jf.mp h
 have ld:(l.drop p).length=l.length-p:=ZI
 unfold ovW at h' ⊢
 by_cases q:(l.drop p).length<m.length
 ·rw[if_pos q,JO (by lia),UZ]
 ·rw[if_neg q]
  have lm:(l.take p++m++l.drop (p+m.length)).length=l.length:=by simp only[Zj,Zx,ZI];omega
  exact (h'.eq_of_length lm.symm).symm
end L2
namespace L2
open PySem
theorem DG (a b:Str):leS a b\/leS b a:=List.le_total _ _
open Classical in
theorem NM (l:Ls_):(Ma l).Perm l/\(Ma l).Pairwise leS:=by
 have h1:=No l (fun a b=>decide (leS a b))
 have h2:=Wj (le:=fun a b=>decide (leS a b)) (fun a b c h h'=>by simp only[decide_eq_true_eq] at *;exact DF h h') (fun a b=>by simp only[Ys,decide_eq_true_eq];exact DG a b) l
 have h3:=h2.imp (fun {a b} h=>of_decide_eq_true h)
 rw[Fu h1 h3]
 exact⟨h1,h3⟩
theorem Z3H(h:a.Perm b):Ma a=Ma b:=Fu ((NM b).1.trans h.symm) (NM b).2
theorem Zd7 (l:List W):l.map tS=(l.map sL).map Th.str:=by rw[J1];rfl
def Zja (w:W):Prop:=∀ c∈w,c=97\/c=98\/c=99
noncomputable def Z4R:Nat->List W
 |0=>[[]]
 |n+1=>(Z4R n).flatMap fun w=>[97::w,98::w,99::w]
theorem WC:∀ {n:Nat} {w:W},w∈Z4R n↔w.length=n/\Zja w
 |0,w=>by
  show w∈[[]]↔_
  rw[ZS]
  constructor
  ·rintro rfl
   exact⟨rfl,fun c h=>nomatch h⟩
  ·rintro⟨h,-⟩
   exact List.length_eq_zero_iff.mp h
 |n+1,w=>by
  show w∈(Z4R n).flatMap _↔_
  rw[CW]
  constructor
  ·rintro⟨v,hv,hw⟩
   obtain⟨h1,h2⟩:=WC.mp hv
   simp only[Zc,WI,or_false] at hw
   rcases hw with rfl|rfl|rfl
   ·exact⟨by rw[Zf,h1],fun c hc=>(Zc.mp hc).elim (fun z=>.inl z) (h2 c)⟩
   ·exact⟨by rw[Zf,h1],fun c hc=>(Zc.mp hc).elim (fun z=>.inr (.inl z)) (h2 c)⟩
   ·exact⟨by rw[Zf,h1],fun c hc=>(Zc.mp hc).elim (fun z=>.inr (.inr z)) (h2 c)⟩
  ·rintro⟨h1,h2⟩
   cases w with
   |nil=>cases h1
   |cons c v =>
    refine⟨v,WC.mpr ⟨by simpa using h1,fun d hd=>h2 d (Z2 _ hd)⟩,?_⟩
    rcases h2 c Z1 with rfl|rfl|rfl <;> simp
noncomputable def Z0B:List W:=(Ja 12).flatMap Z4R
theorem Ge:w∈Z0B↔w.length<=11/\Zja w:=by
 unfold Z0B
 rw[CW]
 constructor
 ·rintro⟨n,hn,hw⟩
  obtain⟨h1,h2⟩:=WC.mp hw
  have:=Jv.mp hn
  exact⟨by lia,h2⟩
 ·rintro⟨h1,h2⟩
  exact⟨w.length,Jv.mpr (by lia),WC.mpr ⟨rfl,h2⟩⟩
noncomputable def val:W->Nat
 |[]=>0
 |c::w=>(c+1)*128 ^ w.length+val w
theorem Ba:∀ {w:W},(∀ c∈w,c<=126)->val w<128 ^ w.length
 |[],_=>by decide
 |c::w,h=>by
  have ih:=Ba (w:=w) fun d hd=>h d (Z2 _ hd)
  have hc:=h c Z1
  show (c+1)*128 ^ w.length+val w<128 ^ (w.length+1)
  have:(c+1)*128 ^ w.length<=127*128 ^ w.length:=MJ _ (by lia)
  rw[Nr]
  lia
theorem ZfA:∀ {a b:W},ltW a b->(∀ c∈a,c<=126)->val a<val b:=by
 have eqlen:∀ {a b:W},a.length=b.length->a<b->(∀ c∈a,c<=126)->val a<val b:=by
  intro a
  induction a with
  |nil =>
   intro b hl h _
   cases b with
   |nil=>exact absurd h (QJ _)
   |cons=>cases hl
  |cons c a ih =>
   intro b hl h hc
   cases b with
   |nil=>cases hl
   |cons d b =>
    have hl':a.length=b.length:=by simpa using hl
    have hp:=Ba (w:=a) fun x hx=>hc x (Z2 _ hx)
    show (c+1)*128 ^ a.length+val a<(d+1)*128 ^ b.length+val b
    rw[<- hl']
    rcases GE.mp h with q|⟨rfl,q⟩
    ·have:(c+1+1)*128 ^ a.length<=(d+1)*128 ^ a.length:=MJ _ (by lia)
     rw[Nat.add_mul (c+1) 1,Nat.one_mul] at this
     lia
    ·have:=ih hl' q fun x hx=>hc x (Z2 _ hx)
     lia
 intro a b h hc
 rcases h with h|⟨h1,h2⟩
 ·cases b with
  |nil=>exact absurd h (Ya _)
  |cons d b =>
   have hp:=Ba hc
   have h':a.length<=b.length:=by rw[Zf] at h;lia
   have:128 ^ a.length<=128 ^ b.length:=Za1 (by decide) h'
   show val a<(d+1)*128 ^ b.length+val b
   have:1*128 ^ b.length<=(d+1)*128 ^ b.length:=MJ _ (by simp)
   lia
 ·exact eqlen h1 h2 hc
noncomputable def NX (R:List Ru)(w:W):Option W:=(JE R w).head?.bind fun x=>(R[x.2]?).map fun r=>chW r w x.1
theorem Z6X {R:List Ru}(hR:∀ r∈R,r.1≠[]){w y:W}(h:NX R w=some y):y∈NS R w:=by
 unfold NX at h
 unfold NS
 cases hp:JE R w with
 |nil=>rw[hp] at h;cases h
 |cons x l =>
  rw[hp] at h
  exact NH.mpr ⟨x,Z1,h⟩
theorem Z0k {R:List Ru}(hR:∀ r∈R,r.1≠[]){w:W}(h:NX R w=none):JE R w=[]:=by
 unfold NX at h
 cases hp:JE R w with
 |nil=>rfl
 |cons x l =>
  obtain⟨r,hr,-⟩:=(UO hR).mp (show x∈JE R w by rw[hp];exact Z1)
  rw[hp] at h
  change ((R[x.2]?).map fun r=>chW r w x.1)=none at h
  rw[hr] at h
  cases h
end L2
namespace L2
open PySem
noncomputable def WL (w:W):Nat->List Ru->List (Nat×Nat)
 |_,[]=>[]
 |k,r::R=>match YD r.1 w 0 with
  |some p=>(p,k)::WL w (k+1) R
  |none=>WL w (k+1) R
theorem Z5v:∀ {k:Nat} {R:List Ru},x∈WL w k R↔k<=x.2/\∃ r,R[x.2-k]?=some r/\YD r.1 w 0=some x.1
 |k,[]=>by simp[WL]
 |k,r::R=>by
  have ih:=Z5v (w:=w) (x:=x) (k:=k+1) (R:=R)
  have key:(k<=x.2/\∃ q,(r::R)[x.2-k]?=some q/\YD q.1 w 0=some x.1)↔(x.2=k/\YD r.1 w 0=some x.1)\/(k+1<=x.2/\∃ q,R[x.2-(k+1)]?=some q/\YD q.1 w 0=some x.1):=by
   constructor
   ·rintro⟨h1,q,h2,h3⟩
    by_cases e:x.2=k
    ·rw[e,QE] at h2
     cases h2
     exact .inl ⟨e,h3⟩
    ·refine .inr ⟨by lia,q,?_,h3⟩
     rw[show x.2-k=(x.2-(k+1))+1 by omega] at h2
     exact h2
   ·rintro (⟨e,h⟩|⟨h1,q,h2,h3⟩)
    ·exact⟨by lia,r,by rw[e,QE];rfl,h⟩
    ·refine⟨by lia,q,?_,h3⟩
     rw[show x.2-k=(x.2-(k+1))+1 by omega]
     exact h2
  rw[key,<- ih]
  rw[show WL w k (r::R)=(match YD r.1 w 0 with|some p=>(p,k)::WL w (k+1) R|none=>WL w (k+1) R) from rfl]
  cases hf:YD r.1 w 0 with
  |none =>
   constructor
   ·exact .inr
   ·rintro (⟨-,h⟩|h)
    ·cases h
    ·exact h
  |some p =>
   rw[Zc]
   constructor
   ·rintro (h|h)
    ·rw[h];exact .inl ⟨rfl,rfl⟩
    ·exact .inr h
   ·rintro (⟨e,h⟩|h)
    ·cases h
     exact .inl (Qm rfl e)
    ·exact .inr h
theorem BY {l w:W}(hl:l≠[]){p:Nat}(h:YD l w 0=some p):U2 l w p=true/\∀ i,U2 l w i=true->p<=i:=by
 refine W_ fun n9=>?_;obtain⟨-,-,e⟩:=CD h;apply n9;clear n9
 constructor
 ·exact (We hl).mp (by rw[e];exact Z1)
 ·intro i hi
  have hm:=(We hl).mpr hi
  rw[e] at hm
  rcases Zc.mp hm with z|z
  ·lia
  ·unfold allAt at z
   have:=(M3.mp (GC.mp z).1).1
   exact YA ‹_›
theorem Z9t {l w:W}(hl:l≠[]){i:Nat}(h:U2 l w i=true):∃ p,YD l w 0=some p:=by
 cases e:YD l w 0 with
 |some p=>exact⟨p,rfl⟩
 |none =>
  have:=(We hl).mpr h
  rw[Z0C e] at this
  cases this
noncomputable instance (a b:Nat×Nat):Decidable (LtP a b):=by unfold LtP;infer_instance
noncomputable def Zad (b:Nat×Nat):List (Nat×Nat)->Nat×Nat
 |[]=>b
 |t::r=>if LtP t b then Zad t r else Zad b r
theorem LtP.trans(h:LtP a b)(h':LtP b c):LtP a c:=by unfold LtP at *;lia
theorem LtP.irr:¬ LtP a a:=by unfold LtP;omega
theorem LtP.neg(h:¬ LtP a b)(h':¬ LtP b c):¬ LtP a c:=by unfold LtP at *;omega
theorem Z18:∀ (l:List (Nat×Nat)) (b:Nat×Nat),Zad b l∈b::l/\∀ y∈b::l,¬ LtP y (Zad b l)
 |[],b=>⟨Z1,fun y h=>by rw[ZS.mp h];exact LtP.irr⟩
 |t::r,b=>by
  unfold Zad
  by_cases h:LtP t b
  ·rw[if_pos h]
   obtain⟨h1,h2⟩:=Z18 r t
   refine⟨Z2 _ h1,fun y hy=>?_⟩
   rcases Zc.mp hy with rfl|hy
   ·intro z
    exact h2 t Z1 (h.trans z)
   ·exact h2 y hy
  ·rw[if_neg h]
   obtain⟨h1,h2⟩:=Z18 r b
   refine⟨?_,fun y hy=>?_⟩
   ·rcases Zc.mp h1 with q|q
    ·rw[q];exact Z1
    ·exact Z2 _ (Z2 _ q)
   ·rcases Zc.mp hy with rfl|hy
    ·exact h2 _ Z1
    ·rcases Zc.mp hy with rfl|hy
     ·exact LtP.neg h (h2 b Z1)
     ·exact h2 y (Z2 _ hy)
theorem ZiE (a b:Nat×Nat):oLt (NO a) (NO b)=some (.bl (decide (LtP a b))):=by
 show (HT.lexK [.inl (a.1:Int),.inl (a.2:Int)] [.inl (b.1:Int),.inl (b.2:Int)]).map Th.bl=_
 unfold HT.lexK HT.lexK HT.lexK
 have e:∀ z:Bool,(z=true↔LtP a b)->(some z).map Th.bl=some (.bl (decide (LtP a b))):=fun z hz=>by
  by_cases q:LtP a b
  ·rw[decide_eq_true q,hz.mpr q];rfl
  ·rw[decide_eq_false q]
   cases z with
   |false=>rfl
   |true=>exact absurd (hz.mp rfl) q
 by_cases h1:(a.1:Int)=(b.1:Int)
 ·rw[if_pos h1]
  by_cases h2:(a.2:Int)=(b.2:Int)
  ·rw[if_pos h2]
   exact e false (by unfold LtP;simp;lia)
  ·rw[if_neg h2]
   exact e _ (by unfold LtP;simp;lia)
 ·rw[if_neg h1]
  exact e _ (by unfold LtP;simp;lia)
theorem Z42:∀ (l:List (Nat×Nat)) (b:Nat×Nat),Zd6 (NO b) (l.map NO)=some (NO (Zad b l))
 |[],b=>rfl
 |t::r,b=>by
  rw[Zw,Zd6,ZiE]
  unfold Zad
  by_cases h:LtP t b
  ·rw[decide_eq_true h,if_pos h];exact Z42 r t
  ·rw[decide_eq_false h,if_neg h];exact Z42 r b
theorem Z9p {R:List Ru}(hR:∀ r∈R,r.1≠[])(w:W):Z2q .non ((WL w 0 R).map NO)=some (match (JE R w).head? with|some x=>NO x|none=>.non):=by
 have mc:∀ {x:Nat×Nat},x∈WL w 0 R↔∃ r,R[x.2]?=some r/\YD r.1 w 0=some x.1:=fun {x}=>by
  rw[Z5v,CT]
  exact⟨fun h=>h.2,fun h=>⟨Jh _,h⟩⟩
 have st:∀ {x:Nat×Nat},x∈WL w 0 R->x∈JE R w:=fun {x} hx=>by
  obtain⟨r,h1,h2⟩:=mc.mp hx
  exact (UO hR).mpr ⟨r,h1,(BY (hR r (ZJ h1)) h2).1⟩
 have ca:∀ {x:Nat×Nat},x∈JE R w->∃ y∈WL w 0 R,y.2=x.2/\y.1<=x.1:=fun {x} hx=>by
  refine W_ fun n9=>?_;obtain⟨r,h1,h2⟩:=(UO hR).mp hx
  have hr:=hR r (ZJ h1)
  obtain⟨p,hp⟩:=Z9t hr h2;apply n9;clear n9
  exact⟨(p,x.2),mc.mpr ⟨r,h1,hp⟩,rfl,(BY hr hp).2 _ h2⟩
 have rise:=D7 R w
 cases hc:WL w 0 R with
 |nil =>
  cases hp:JE R w with
  |nil=>rfl
  |cons x l =>
   obtain⟨y,hy,-⟩:=ca (show x∈JE R w by rw[hp];exact Z1)
   rw[hc] at hy
   cases hy
 |cons b l =>
  rw[Zw]
  show Zd6 (NO b) (l.map NO)=_
  rw[Z42]
  obtain⟨m1,m2⟩:=Z18 l b
  rw[<- hc] at m1 m2
  cases hp:JE R w with
  |nil =>
   have:=st m1
   rw[hp] at this
   cases this
  |cons x t =>
   have hx:x∈JE R w:=by rw[hp];exact Z1
   have e:Zad b l=x:=by
    have hm:=st m1
    rw[hp] at hm
    rcases Zc.mp hm with q|q
    ·exact q
    ·rw[hp] at rise
     have lt:LtP x (Zad b l):=(Yn.mp rise).1 _ q
     refine W_ fun n9=>?_;obtain⟨y,hy,y2,y1⟩:=ca hx;apply n9;clear n9
     exact absurd (show LtP y (Zad b l) by unfold LtP at *;lia) (m2 y hy)
   rw[e]
   rfl
inductive Z3B (R:List Ru):W->W->Prop where
 |stop {w:W} (h:NX R w=none):Z3B R w w
 |go {w y z:W} (h:NX R w=some y) (r:Z3B R y z):Z3B R w z
theorem Z3B.det(h:Z3B R w y)(h':Z3B R w z):y=z:=by
 induction h with
 |stop e=>cases h' with
  |stop=>rfl
  |go e'=>rw[e] at e';cases e'
 |go e _ ih=>cases h' with
  |stop e'=>rw[e] at e';cases e'
  |go e' r'=>rw[e] at e';cases e';exact ih r'
end L2
namespace K40
open PySem PySem.Spec PyProof.Rows L2
noncomputable section
noncomputable def Z3h:FS:=(UH (Yy 2 (f2 Qk (f2 UN (f2 YB (f2 YB (Za 0) (f2 UN (fC (.int 104729)) (Za 1))) (fC (.int 17))) (fC (.int 69621))) (fC (.int 2147483647))))
 (GR (f2 Qk (f2 YB (f2 YB (f2 UN (Za 2) (Za 2)) (f2 UN (fC (.int 3)) (Za 2))) (Za 1)) (fC (.int 2147483629)))))
noncomputable def JM:Lt_->Option Th:=Qq 2 3 Z3h
noncomputable def Z63:FS:=(UH (Z5N 2 (Zc7 (fC (.lst [(.tup [(.str ("ba":Str)),(.str ("ab":Str))]),(.tup [(.str ("ca":Str)),(.str ("ac":Str))]),(.tup [(.str ("cb":Str)),(.str ("bc":Str))])])) JY (Ul (f2 Zfm (f2 UN (fC (.int 2)) (fCB NE (Z6 (Za 1) J7))) (fC (.int 3))))))
 (UH (fIf (Je (f2 oEq (f2 Qk (Za 0) (fC (.int 2))) (fC (.int 1)))) (Z5N 2 (Zc7 (Za 2) JY (Ul (f2 Qk (f2 BO (Za 0) (fC (.int 2))) (fC (.int 2)))))) UE)
 (UH (Fm (QZ (ZV 1)) (MG 3 4) (UH (Yy 5 (J8 JM (Z6 (ZV 0) (Z6 (ZV 3) J7))))
 (fIf (Je (f2 oGt (f2 Qk (Za 5) (fC (.int 3))) (fC (.int 0)))) (Nl 2 (QY (Z6 (f2 UN (Za 4) (f2 YB (fC (.int 2)) (f2 Qk (f2 BO (Za 5) (fC (.int 3))) (fC (.int 2))))) (Z6 (f2 UN (Za 4) (f2 Qk (f2 BO (Za 5) (fC (.int 6))) (fC (.int 2)))) J7)))) UE)))
 (GR (Za 2)))))
noncomputable def Qd:Lt_->Option Th:=Qq 2 6 Z63
noncomputable def Z62:FS:=(UH (Yy 3 (fC (.str ("":Str))))
 (UH (Fm (YX (f2 Qk (Za 0) (f2 YB (Za 2) (fC (.int 1))))) (De 4) (Yy 3 (f2 YB (Za 3) (f2 oIx (Za 1) (f2 Qk (f2 BO (J8 JM (Z6 (ZV 0) (Z6 (ZV 4) J7))) (fC (.int 8))) (fCB NE (Z6 (Za 1) J7)))))))
 (GR (Za 3))))
noncomputable def Mi:Lt_->Option Th:=Qq 3 5 Z62
noncomputable def Z65:FS:=(GR (f2 oLt (QY (Z6 (fCB NE (Z6 (Za 0) J7)) (Z6 (ZV 0) J7))) (QY (Z6 (fCB NE (Z6 (Za 1) J7)) (Z6 (ZV 1) J7)))))
noncomputable def Ub:Lt_->Option Th:=Qq 2 2 Z65
noncomputable def Z64:FS:=(UH (Yy 2 (f2 YB (J8 Mi (Z6 (f2 YB (f2 YB (f2 UN (fC (.int 3)) (f2 BO (Za 0) (fC (.int 4)))) (fC (.int 1))) (f2 Qk (Za 0) (fC (.int 3)))) (Z6 (ZV 1) (Z6 (fC (.int 2)) J7)))) (f2 oIx (Za 1) (f2 Qk (f2 BO (Za 0) (fC (.int 12))) (fCB NE (Z6 (Za 1) J7))))))
 (UH (fIf (Je (f2 oEq (f2 Qk (f2 BO (Za 0) (fC (.int 48))) (fC (.int 6))) (fC (.int 1)))) (Yy 2 (fSl (f2 UN (Za 2) (fC (.int 4))) JY (Ul (fC (.int 4))))) UE)
 (UH (Yy 3 (J8 Mi (Z6 (J8 JM (Z6 (ZV 0) (Z6 (fC (.int 50)) J7))) (Z6 (ZV 1) (Z6 (fCB NE (Z6 (Za 2) J7)) J7)))))
 (UH (fIf (Zde (Je (J8 Ub (Z6 (ZV 3) (Z6 (ZV 2) J7))))) (Yy 3 (fSl (Za 3) (Ul (fC (.int 1))) (Ul (fCB NE (Z6 (Za 2) J7))))) UE)
 (GR (QY (Z6 (ZV 2) (Z6 (ZV 3) J7))))))))
noncomputable def Gu:Lt_->Option Th:=Qq 2 4 Z64
noncomputable def Z3e:FS:=(UH (Yy 1 (f2 oIx (fC (.tup [(.str ("ab":Str)),(.str ("abc":Str))])) (f2 Qk (f2 BO (Za 0) (fC (.int 4))) (fC (.int 2)))))
 (UH (Yy 2 (J8 Qd (Z6 (f2 BO (Za 0) (fC (.int 8))) (Z6 (ZV 1) J7))))
 (UH (fIf (Je (f2 oGt (f2 Qk (Za 0) (fC (.int 4))) (fC (.int 1)))) (Yy 2 (GA (Um g1 (YX (f2 Qk (f2 BO (Za 0) (fC (.int 8))) (fC (.int 5)))) GZ (J8 Gu (Z6 (J8 JM (Z6 (ZV 1) (Z6 (f2 YB (fC (.int 9)) (Za 0)) J7))) (Z6 (ZV 2) J7)))))) (fIf (Je (f2 oEq (f2 Qk (Za 0) (fC (.int 4))) (fC (.int 1)))) (Yy 2 (f2 YB (Za 2) (GA (Ck (Z6 (J8 Gu (Z6 (J8 JM (Z6 (ZV 0) (Z6 (fC (.int 9)) J7))) (Z6 (ZV 1) J7))) J7))))) UE))
 (UH (Yy 3 (f2 Qk (f2 BO (Za 0) (fC (.int 640))) (fC (.int 5))))
 (GR (fCB Nh (Z6 (f2 YB (fSl (Za 2) (Ul (ZV 3)) JY) (fSl (Za 2) JY (Ul (ZV 3)))) J7)))))))
noncomputable def ND:Lt_->Option Th:=Qq 1 4 Z3e
noncomputable def CA:FS:=(UH (ZeZ 1)
 (UH (Fm (YX (fCB NE (Z6 (Za 0) J7))) (De 2) (Fm (YX (fCB NE (Z6 (Za 0) J7))) (De 3) (UH (Yy 4 (f2 oIx (f2 oIx (Za 0) (Za 2)) (fC (.int 0))))
 (UH (Yy 5 (f2 oIx (f2 oIx (Za 0) (Za 3)) (fC (.int 0))))
 (Fm (YX (fCB NE (Z6 (Za 4) J7))) (De 6) (UH (Yy 7 (fSl (Za 4) (Ul (ZV 6)) JY))
 (fIf (Z2U (Z9w (Je (f2 oNe (Za 2) (Za 3))) (Je (f2 oGt (Za 6) (fC (.int 0))))) (Z9w (Je (fM1 (fun z y=>some (.bl (Jn z y))) (Za 7) (Za 5))) (Je (fM1 (fun z y=>some (.bl (Jn z y))) (Za 5) (Za 7))))) (fIf (Je (f2 oGt (fCB NE (Z6 (Za 5) J7)) (fCB NE (Z6 (Za 7) J7)))) (Z1m 1 (f2 YB (fSl (Za 4) JY (Ul (ZV 6))) (Za 5)) (fC (.bl true))) (Z1m 1 (Za 4) (fC (.bl true)))) UE)))))))
 (GR (fCB Nh (Z6 (GA (Z2S 1)) J7)))))
noncomputable def Ng:Lt_->Option Th:=Qq 1 8 CA
noncomputable def Cy:FS:=(GR (f2 YB (f2 YB (fSl (Za 1) JY (Ul (ZV 2))) (f2 oIx (Za 0) (fC (.int 1)))) (fSl (Za 1) (Ul (f2 YB (Za 2) (fCB NE (Z6 (f2 oIx (Za 0) (fC (.int 0))) J7)))) JY)))
noncomputable def YJ:Lt_->Option Th:=Qq 3 3 Cy
noncomputable def Fe:FS:=(UH (Yy 2 (GA (Um g2 (QZ (ZV 0)) GZ (QY (Z6 (fM1 (fun z y=>some (.int (MS z y))) (Za 3) (f2 oIx (Za 1) (fC (.int 0)))) (Z6 (ZV 0) J7))))))
 (UH (Yy 3 (Z9x (Z6 (GA (Um g1 (YR (ZV 2)) (Je (f2 oGe (f2 oIx (Za 0) (fC (.int 0))) (fC (.int 0)))) (ZV 0))) J7) (fC .non)))
 (GR (fIf (Je (f2 (Z3Y false) (Za 3) (fC .non))) (fC .non) (J8 YJ (Z6 (f2 oIx (Za 0) (f2 oIx (Za 3) (fC (.int 1)))) (Z6 (ZV 1) (Z6 (f2 oIx (Za 3) (fC (.int 0))) J7))))))))
noncomputable def Uy:Lt_->Option Th:=Qq 2 4 Fe
noncomputable def Zho:FS:=(UH (Yy 2 (J8 Uy (Z6 (ZV 0) (Z6 (ZV 1) J7))))
 (UH (DK (Je (f2 (Z3Y true) (Za 2) (fC .non))) (UH (Yy 1 (ZV 2))
 (Yy 2 (J8 Uy (Z6 (ZV 0) (Z6 (ZV 1) J7))))))
 (GR (Za 1))))
noncomputable def D9:Lt_->Option Th:=Qq 2 3 Zho
noncomputable def Cz:FS:=(UH (Z5N 2 (fCL []))
 (UH (Yy 3 (fM1 (fun z y=>some (.int (MS z y))) (Za 1) (Za 0)))
 (UH (DK (Je (f2 oGe (Za 3) (fC (.int 0)))) (UH (Nl 2 (ZV 3))
 (Yy 3 (fM2 (fun z y i=>some (.int (Dq z y i))) (Za 1) (Za 0) (f2 YB (Za 3) (fC (.int 1)))))))
 (GR (Za 2)))))
noncomputable def YK:Lt_->Option Th:=Qq 2 4 Cz
noncomputable def Z61:FS:=(UH (Z5N 2 (fCL []))
 (UH (Fm (QZ (ZV 0)) (MG 3 4) (Ms 2 (GA (Um g1 (YR (J8 YK (Z6 (f2 oIx (Za 4) (fC (.int 0))) (Z6 (ZV 1) J7)))) GZ (QY (Z6 (ZV 0) (Z6 (ZV 4) J7)))))))
 (GR (fCB Nh (Z6 (GA (Z2T (Z6 (Za 2) J7))) J7)))))
noncomputable def NB:Lt_->Option Th:=Qq 2 5 Z61
noncomputable def Z9P:FS:=(GR (fCB Nh (Z6 (GA (Nj (Z6 (GA (Um g2 (Z1l (J8 NB (Z6 (ZV 0) (Z6 (ZV 1) J7)))) GZ (J8 YJ (Z6 (f2 oIx (Za 2) (Za 1)) (Z6 (ZV 3) (Z6 (ZV 0) J7)))))) J7))) J7)))
noncomputable def Qc:Lt_->Option Th:=Qq 2 2 Z9P
noncomputable def Wg:FS:=(GR (fCB Nh (Z6 (GA (Nj (Z6 (GA (Um g1 (YR (J8 Qc (Z6 (ZV 0) (Z6 (ZV 1) J7)))) GZ (J8 D9 (Z6 (ZV 1) (Z6 (ZV 0) J7))))) J7))) J7)))
noncomputable def JN:Lt_->Option Th:=Qq 2 2 Wg
noncomputable def Z3d:FS:=(GR (f2 YB (f2 YB (fSl (Za 0) JY (Ul (ZV 2))) (Za 1)) (fSl (Za 0) (Ul (f2 YB (Za 2) (fCB NE (Z6 (Za 1) J7)))) JY)))
noncomputable def NC:Lt_->Option Th:=Qq 3 3 Z3d
noncomputable def Z0y:FS:=(UH (Yy 3 (GA (Um g1 (Df (ZV 2) (fCB NE (Z6 (Za 0) J7))) GZ (J8 NC (Z6 (ZV 1) (Z6 (ZV 2) (Z6 (ZV 0) J7)))))))
 (GR (GA (Um g1 (YR (ZV 3)) (Je (fM1 (fun z y=>some (.bl (Jn z y))) (Za 0) (Za 1))) (ZV 0)))))
noncomputable def GW:Lt_->Option Th:=Qq 3 4 Z0y
noncomputable def Z3i:FS:=(UH (Z5N 1 (fCL []))
 (UH (Fm (QZ (ZV 0)) (MG 2 3) (Fm (QZ (ZV 0)) (MG 4 5) (Ms 1 (J8 GW (Z6 (f2 oIx (Za 3) (fC (.int 0))) (Z6 (f2 oIx (Za 5) (fC (.int 0))) (Z6 (fIf (Je (f2 oEq (Za 2) (Za 4))) (fC (.int 1)) (fC (.int 0))) J7)))))))
 (GR (fCB Nh (Z6 (GA (Nj (Z6 (Za 1) J7))) J7)))))
noncomputable def UW:Lt_->Option Th:=Qq 1 6 Z3i
noncomputable def Zdk:FS:=(GR (QY (Z6 (fCB NE (Z6 (Za 0) J7)) (Z6 (ZV 0) J7))))
noncomputable def YI:Lt_->Option Th:=Qq 1 1 Zdk
noncomputable def Z9R:FS:=(UH (Yy 1 (GA (Um g1 (YR (J8 UW (Z6 (ZV 0) J7))) GZ (J8 JN (Z6 (ZV 1) (Z6 (ZV 0) J7))))))
 (UH (Yy 2 (GA (Um g1 (YR (ZV 1)) (Je (f2 oGt (fCB NE (Z6 (Za 0) J7)) (fC (.int 1)))) (QY (Z6 (Zaf true YI (Z6 (Za 0) J7)) (Z6 (Zaf false YI (Z6 (Za 0) J7)) J7))))))
 (GR (f2 YB (Za 0) (fCB Nh (Z6 (GA (Wf (Z6 (Za 2) J7))) J7))))))
noncomputable def Wb:Lt_->Option Th:=Qq 1 3 Z9R
noncomputable def Dh:FS:=(UH (fIf (Je (f2 oLt (Za 1) (fCB NE (Z6 (Za 0) J7)))) (GR (f2 oIx (Za 0) (Za 1))) UE)
 (GR (fC (.int 0))))
noncomputable def Gv:Lt_->Option Th:=Qq 2 2 Dh
noncomputable def Z3g:FS:=(UH (Yy 2 (f2 Qk (f2 UN (f2 YB (f2 YB (J8 Gv (Z6 (ZV 0) (Z6 (ZV 1) J7))) (f2 UN (fC (.int 7919)) (Za 1))) (fC (.int 1))) (fC (.int 48271))) (fC (.int 2147483647))))
 (GR (f2 Qk (f2 YB (f2 YB (f2 UN (Za 2) (Za 2)) (f2 UN (fC (.int 7)) (Za 2))) (Za 1)) (fC (.int 2147483629)))))
noncomputable def Mp:Lt_->Option Th:=Qq 2 3 Z3g
noncomputable def Z4D:FS:=(UH (Fm (YR (GA (Z0m YI (Z6 (J8 UW (Z6 (ZV 0) J7)) J7)))) (De 1) (fIf (Je (f2 oGt (fCB NE (Z6 (J8 JN (Z6 (ZV 0) (Z6 (ZV 1) J7))) J7)) (fC (.int 1)))) (GR (Za 1)) UE))
 (GR (fC .non)))
noncomputable def Mq:Lt_->Option Th:=Qq 1 2 Z4D
noncomputable def Z0A:FS:=(GR (f2 (Z3Y false) (J8 Mq (Z6 (ZV 0) J7)) (fC .non)))
noncomputable def NW:Lt_->Option Th:=Qq 1 1 Z0A
noncomputable def Z0z:FS:=(UH (Yy 2 (fC (.lst [])))
 (UH (Fm (YX (fCB NE (Z6 (Za 1) J7))) (De 3) (Yy 2 (f2 YB (Za 2) (GA (Um g2 (QZ (ZV 0)) (Je (fM1 (fun z y=>some (.bl (Jn z y))) (fSl (Za 3) (Ul (ZV 5)) JY) (f2 oIx (Za 1) (fC (.int 0))))) (QY (Z6 (ZV 5) (Z6 (ZV 0) J7))))))))
 (GR (Za 2))))
noncomputable def Uu:Lt_->Option Th:=Qq 2 4 Z0z
noncomputable def CB:FS:=(UH (Zhg (f2 oIx (Za 0) (Za 3)) (MG 4 5))
 (GR (f2 YB (f2 YB (fSl (Za 1) JY (Ul (ZV 2))) (Za 5)) (fSl (Za 1) (Ul (f2 YB (Za 2) (fCB NE (Z6 (Za 4) J7)))) JY))))
noncomputable def YL:Lt_->Option Th:=Qq 4 6 CB
noncomputable def Z9Q:FS:=(UH (Yy 2 (ZV 1))
 (UH (Yy 3 (J8 Uu (Z6 (ZV 0) (Z6 (ZV 2) J7))))
 (UH (DK (Je (f2 oNe (Za 3) (fC (.lst [])))) (UH (Yy 2 (J8 YL (Z6 (ZV 0) (Z6 (ZV 2) (Z6 (f2 oIx (f2 oIx (Za 3) (fC (.int 0))) (fC (.int 0))) (Z6 (f2 oIx (f2 oIx (Za 3) (fC (.int 0))) (fC (.int 1))) J7))))))
 (Yy 3 (J8 Uu (Z6 (ZV 0) (Z6 (ZV 2) J7))))))
 (GR (Za 2)))))
noncomputable def NV:Lt_->Option Th:=Qq 2 4 Z9Q
noncomputable def Z3f:FS:=(UH (Z5N 2 (fCL []))
 (UH (Fm (Z1l (J8 Uu (Z6 (ZV 0) (Z6 (ZV 1) J7)))) (MG 3 4) (Nl 2 (J8 YL (Z6 (ZV 0) (Z6 (ZV 1) (Z6 (ZV 3) (Z6 (ZV 4) J7)))))))
 (GR (GA (Nj (Z6 (Za 2) J7))))))
noncomputable def Gk:Lt_->Option Th:=Qq 2 5 Z3f
noncomputable def Zhn:FS:=(UH (Yy 1 (J8 ND (Z6 (J8 Mp (Z6 (ZV 0) (Z6 (fC (.int 0)) J7))) J7)))
 (UH (Z9y 2)
 (UH (Fm (YR (J8 Ng (Z6 (ZV 1) J7))) (De 3) (UH (Yy 4 (GA (DM [7] g1 (YR (J8 Gk (Z6 (ZV 1) (Z6 (ZV 3) J7)))) GZ (J8 NV (Z6 (ZV 2) (Z6 (ZV 0) J7))))))
 (UH (Yy 5 (f2 oIx (Za 4) (fC (.int 0))))
 (UH (Yy 6 (f2 oIx (Za 4) (fC (.int 0))))
 (UH (Fm (YR (ZV 4)) (De 7) (UH (fIf (Je (J8 Ub (Z6 (ZV 7) (Z6 (ZV 5) J7)))) (Yy 5 (ZV 7)) UE)
 (fIf (Je (J8 Ub (Z6 (ZV 6) (Z6 (ZV 7) J7)))) (Yy 6 (ZV 7)) UE)))
 (fIf (Je (f2 oNe (Za 5) (Za 6))) (Z0n 2 (Z6 (ZV 6) (Z6 (ZV 5) J7))) UE))))))
 (UH (Yy 8 (J8 Wb (Z6 (ZV 1) J7)))
 (UH (fIf (Je (f2 oNe (Za 8) (f2 YB (Za 1) (fCB Nh (Z6 (GA (Cj 2)) J7))))) (GR (fC (.bl false))) UE)
 (GR (f2 oEq (f2 oEq (Za 8) (Za 1)) (J8 NW (Z6 (ZV 1) J7)))))))))
noncomputable def D8:Lt_->Option Th:=Qq 1 9 Zhn
end
end K40
namespace L2
open PySem
theorem Q3(h:(-(2 ^ 64)<i/\i<2 ^ 64)\/(-(2 ^ 64)<j/\j<2 ^ 64)):UN (.int i) (.int j)=some (.int (i*j)):=by
 simp only[UN,ZgP,decide_eq_true h,if_true]
theorem mod_int(h:0<j):Qk (.int i) (.int j)=some (.int (i%j)):=by
 simp only[Qk,decide_eq_true h,if_true]
theorem Mu(h:0<j/\j<1073741824):BO (.int i) (.int j)=some (.int (i / j)):=by
 simp only[BO,decide_eq_true h,if_true]
theorem Nf:YB (.int i) (.int j)=some (.int (i+j)):=rfl
theorem sub_int:Zfm (.int i) (.int j)=some (.int (i-j)):=rfl
theorem Z13(h:x.length+y.length<=1000000):YB (.str x) (.str y)=some (.str (x++y)):=by
 simp only[YB,ZgQ,Q5,decide_eq_true h,if_true]
theorem Z5l {x y:Lt_}(h:x.length+y.length<=1000000):YB (.tup x) (.tup y)=some (.tup (x++y)):=by
 simp only[YB,ZgQ,Q5,decide_eq_true h,if_true]
theorem Z14 {x y:Lt_}(h:x.length+y.length<=1000000):YB (.lst x) (.lst y)=some (.lst (x++y)):=by
 simp only[YB,Q5,decide_eq_true h,if_true]
theorem len_str(h:x.length<=1000000):NE [.str x]=some (.int x.length):=by
 simp only[NE,Q5,decide_eq_true h,if_true]
theorem Z48 {x:Lt_}:NE [.lst x]=some (.int x.length):=rfl
theorem Z1e {x:Lt_}:NE [.tup x]=some (.int x.length):=rfl
theorem le_int:oLe (.int i) (.int j)=some (.bl (decide (i<=j))):=rfl
theorem gt_int:oGt (.int i) (.int j)=some (.bl (decide (j<i))):=rfl
theorem ge_int:oGe (.int i) (.int j)=some (.bl (decide (j<=i))):=rfl
theorem lt_int:oLt (.int i) (.int j)=some (.bl (decide (i<j))):=rfl
theorem eq_int:oEq (.int i) (.int j)=some (.bl (i == j)):=by simp[oEq,dp,Yc]
theorem ne_int:oNe (.int i) (.int j)=some (.bl (!(i == j))):=by simp[oNe,dp,Yc]
theorem ZiX:oEq (.bl i) (.bl j)=some (.bl (i == j)):=by simp[oEq,dp,Yc]
theorem eq_str:oEq (.str i) (.str j)=some (.bl (i == j)):=by simp[oEq,dp,Yc]
theorem Z4j:isB (D3 (Th.non)) "str"=false:=rfl
theorem Z6V (b:Bool):isB (D3 (Th.bl b)) "str"=false:=rfl
theorem Z4n (i:Int):isB (D3 (Th.int i)) "str"=false:=rfl
theorem Z4h (x:Str):isB (D3 (Th.str x)) "str"=true:=rfl
theorem Z4f (ts:Lt_):isB (D3 (Th.tup ts)) "str"=false:=rfl
theorem Z4l (ts:Lt_):isB (D3 (Th.lst ts)) "str"=false:=rfl
theorem Z1i:isB (D3 (Th.non)) "tuple"=false:=rfl
theorem Z2O (b:Bool):isB (D3 (Th.bl b)) "tuple"=false:=rfl
theorem Z1k (i:Int):isB (D3 (Th.int i)) "tuple"=false:=rfl
theorem Z1h (x:Str):isB (D3 (Th.str x)) "tuple"=false:=rfl
theorem Z1g (ts:Lt_):isB (D3 (Th.tup ts)) "tuple"=true:=rfl
theorem Z1j (ts:Lt_):isB (D3 (Th.lst ts)) "tuple"=false:=rfl
theorem Z2J:isB (D3 (Th.non)) "bool"=false:=rfl
theorem Z4q (b:Bool):isB (D3 (Th.bl b)) "bool"=true:=rfl
theorem Z2N (i:Int):isB (D3 (Th.int i)) "bool"=false:=rfl
theorem Z2H (x:Str):isB (D3 (Th.str x)) "bool"=false:=rfl
theorem Z2F (ts:Lt_):isB (D3 (Th.tup ts)) "bool"=false:=rfl
theorem Z2L (ts:Lt_):isB (D3 (Th.lst ts)) "bool"=false:=rfl
theorem Z4k:isB (D3 (Th.non)) "int"=false:=rfl
theorem Z6W (b:Bool):isB (D3 (Th.bl b)) "int"=true:=rfl
theorem Z4o (i:Int):isB (D3 (Th.int i)) "int"=true:=rfl
theorem Z4i (x:Str):isB (D3 (Th.str x)) "int"=false:=rfl
theorem Z4g (ts:Lt_):isB (D3 (Th.tup ts)) "int"=false:=rfl
theorem Z4m (ts:Lt_):isB (D3 (Th.lst ts)) "int"=false:=rfl
theorem Z2I:isB (D3 (Th.non)) "list"=false:=rfl
theorem Z4p (b:Bool):isB (D3 (Th.bl b)) "list"=false:=rfl
theorem Z2M (i:Int):isB (D3 (Th.int i)) "list"=false:=rfl
theorem Z2G (x:Str):isB (D3 (Th.str x)) "list"=false:=rfl
theorem Z2E (ts:Lt_):isB (D3 (Th.tup ts)) "list"=false:=rfl
theorem Z2K (ts:Lt_):isB (D3 (Th.lst ts)) "list"=true:=rfl
theorem Z55 (x:Str):x.cps.toList.length=x.length:=by simp[MU]
theorem Jg(h:F d=some (.nx d')):UH F G d=G d':=by unfold UH;rw[h];rfl
theorem Nk(h:fi d=some ts):Fm fi g F d=Qe g F ts d:=by unfold Fm;rw[h];rfl
theorem YW(hn:Ts.length=n)(h:b (Ts.map (fun T=>some (Dv.th T))++Zm (m-Ts.length) none)=some (.rt T)):Qq n m b Ts=some T:=by
 unfold Qq;rw[if_pos hn,h]
theorem Z2Z:∀ {ts:Lt_},(∀ t∈ts,fe (some (.th t)::d)=some (p t))->N0 g1 GZ fe d ts=some (ts.map p)
 |[],_=>rfl
 |t::r,h=>by
  have ih:=Z2Z (fe:=fe) (d:=d) (p:=p) (ts:=r) fun x hx=>h x (Z2 _ hx)
  simp only[N0,g1,GZ,ob_,ZO,ZW,if_true,h t Z1,ih,Zw]
theorem Fa:∀ {ts:Lt_},(∀ t∈ts,ft (some (.th t)::d)=some (q t))->N0 g1 ft (ZV 0) d ts=some (ts.filter q)
 |[],_=>rfl
 |t::r,h=>by
  have ih:=Fa (ft:=ft) (d:=d) (q:=q) (ts:=r) fun x hx=>h x (Z2 _ hx)
  simp only[N0,g1,ob_,ZO,ZW,h t Z1,ih,Na,ZV,gz_]
  cases q t <;> simp
theorem DL {fi:FL}{fe:FD}{d:Sd}{ts:Lt_}{p:Th->Th}(h1:fi d=some ts)(h2:ts.length<=1000000)(h3:∀ t∈ts,fe (some (.th t)::d)=some (p t)):Um g1 fi GZ fe d=some (ts.map p):=by
 simp only[Um,h1,ob_,if_pos h2,Z2Z h3]
theorem BZ {fi:FL}{ft:FB}{d:Sd}{ts:Lt_}{q:Th->Bool}(h1:fi d=some ts)(h2:ts.length<=1000000)(h3:∀ t∈ts,ft (some (.th t)::d)=some (q t)):Um g1 fi ft (ZV 0) d=some (ts.filter q):=by
 simp only[Um,h1,ob_,if_pos h2,Fa h3]
theorem Cu (p:Th->Bool):∀ ts:Lt_,Z1u (ts.map fun t=>.bl (p t))=some (ts.map p)
 |[]=>rfl
 |t::r=>by simp only[Zw,Z1u,Cu p r,Z8]
theorem Zbx (p:Th->Bool)(ts:Lt_):Zjq false [.lst (ts.map fun t=>.bl (p t))]=some (.bl (ts.all p)):=by
 simp only[Zjq,Cu,Z8,Zv,if_false,Dj]
 rfl
mutual
noncomputable def good:Th->Bool
 |.str x=>decide (x.length<=1000000)
 |.tup ts=>ZeW ts
 |.lst ts=>ZeW ts
 |_=>true
noncomputable def ZeW:Lt_->Bool
 |[]=>true
 |t::r=>good t&&ZeW r
end
end L2
namespace L2
open PySem
theorem FJ {α:Type}{xs:List α}{i:Int}(h0:0<=i)(h1:i<xs.length):atI xs i=xs[i.toNat]?:=by
 unfold atI ixN
 rw[if_pos h0,if_pos h1];rfl
theorem Z9g(h0:0<=i)(h1:i<x.length)(hx:x.length<=1000000):oIx (.str x) (.int i)=some (.str ⟨#[x.cps.toList.getD i.toNat 0]⟩):=by
 have hl:=Z55 x
 have h2:i.toNat<x.cps.toList.length:=by rw[hl];lia
 simp only[oIx,Q5,decide_eq_true hx,if_true]
 rw[FJ h0 (by rw[hl];exact h1),Zd h2]
 simp[Qh,Zd h2]
theorem Z4F (x y:Str):(x++y).cps.toList=x.cps.toList++y.cps.toList:=by
 show (x.cps++y.cps).toList=_
 simp
theorem Z9T (x y:Str):(x++y).length=x.length+y.length:=by
 rw[<- Z55,Z4F,Zj,Z55,Z55]
end L2
namespace L2
open PySem
theorem FQ(h0:0<=j)(h1:j<=1000000)(h2:x.length*j.toNat<=1000000):UN (.str x) (.int j)=some (.str (MA x j)):=by
 have h:0<=j/\j<=1000000/\x.length*j.toNat<=1000000:=⟨h0,h1,h2⟩
 simp only[UN,ZgP,decide_eq_true h,if_true]
theorem Z2a (x:Array Nat):∀ (m:Nat) (acc:Array Nat),((Zm m x).foldl (·++·) acc).toList=acc.toList++(Zm m x.toList).flatten
 |0,acc=>by simp
 |m+1,acc=>by
  rw[JZ,U0,Z2a x m,JZ,UX,J9,Zi]
theorem Z3Z(h0:0<=j):(MA x j).cps.toList=(Zm j.toNat x.cps.toList).flatten:=by
 unfold MA
 by_cases h1:j<1
 ·have:j=0:=by lia
  subst this
  rw[if_pos h1];rfl
 ·rw[if_neg h1]
  by_cases h2:(j == 1||x.length == 0)=true
  ·rw[if_pos h2]
   simp only[Ys,beq_iff_eq] at h2
   rcases h2 with h2|h2
   ·subst h2;simp
   ·have:x.cps.toList=[]:=Gh (by rw[Z55];exact h2)
    rw[this];simp
  ·rw[if_neg h2]
   rw[Z2a];simp
theorem Z5K {α:Type}(l:List α)(m:Nat):(Zm m l).flatten.length=m*l.length:=Z95 l m
theorem Zc2 {α:Type}{l:List α}{m:Nat}{c:α}(h:c∈(Zm m l).flatten):c∈l:=by
 obtain⟨a,ha,hc⟩:=List.mem_flatten.mp h
 rw[(List.mem_replicate.mp ha).2] at hc
 exact hc
theorem Z5R(xs:List α)(h:0<=j):Dp xs none (some j)=xs.take j.toNat:=by
 unfold Dp
 obtain⟨k,rfl⟩:∃ k:Nat,j=k:=⟨j.toNat,by lia⟩
 rw[HT.sIx_none,HT.sIx_nat,QK,CT,JT]
 rw[Zjy]
 split
 ·rfl
 ·rw[N9,Yp (by lia)]
theorem Z5S(xs:List α)(h:0<=i):Dp xs (some i) none=xs.drop i.toNat:=by
 unfold Dp
 obtain⟨k,rfl⟩:∃ k:Nat,i=k:=⟨i.toNat,by lia⟩
 rw[HT.sIx_none,HT.sIx_nat,JT]
 rw[Zjy]
 split
 ·rw[Yp (by simp)]
 ·rw[Z00,List.drop_eq_nil_of_le (by lia)];simp
theorem Cp {α:Type}{xs:List α}{lo hi:Option Int}{c:α}(h:c∈Dp xs lo hi):c∈xs:=JQ (Uc h)
theorem Z0T(h:x.length<=1000000):oSl (.str x) lo hi=some (.str (Z5U x lo hi)):=by
 simp only[oSl,Q5,decide_eq_true h,if_true]
theorem Z5T (x:Str)(lo hi:Option Int):(Z5U x lo hi).cps.toList=Dp x.cps.toList lo hi:=by simp[Z5U]
theorem Z1q (x:Str)(lo hi:Option Int):(Z5U x lo hi).length=(Dp x.cps.toList lo hi).length:=by rw[<- Z55,Z5T]
end L2
namespace L2
open PySem
theorem Z5J(P:Lt_->Sd->Prop)(step:∀ t r d,P (t::r) d->∃ d1 d2,g t d=some d1/\F d1=some (.nx d2)/\P r d2):∀ (ts:Lt_) (d:Sd),P ts d->∃ d',Qe g F ts d=some (.nx d')/\P [] d'
 |[],d,h=>⟨d,rfl,h⟩
 |t::r,d,h=>by
  refine W_ fun n9=>?_;obtain⟨d1,d2,e1,e2,h2⟩:=step t r d h
  obtain⟨d',e3,h3⟩:=Z5J P step r d2 h2;apply n9;clear n9
  refine⟨d',?_,h3⟩
  rw[Qe,e1,ob_,e2]
  exact e3
theorem Z5Y {fe:FD}{d:Sd}{P:Th->Prop}:∀ {ts:Lt_},(∀ t∈ts,∃ y,fe (some (.th t)::d)=some y/\P y)->∃ ys,N0 g1 GZ fe d ts=some ys/\(∀ y∈ys,P y)/\ys.length=ts.length
 |[],_=>⟨[],rfl,fun _ h=>(nomatch h),rfl⟩
 |t::r,h=>by
  obtain⟨ys,e,hp,hl⟩:=Z5Y (fe:=fe) (d:=d) (P:=P) (ts:=r) fun x hx=>h x (Z2 _ hx)
  obtain⟨y,ey,py⟩:=h t Z1
  refine⟨y::ys,?_,fun z hz=>?_,by simp[hl]⟩
  ·simp only[N0,g1,GZ,ob_,ZO,ZW,if_true,ey,e]
  ·rcases Zc.mp hz with rfl|hz
   ·exact py
   ·exact hp z hz
theorem Zc8 {fi:FL}{fe:FD}{d:Sd}{ts:Lt_}{P:Th->Prop}(h1:fi d=some ts)(h2:ts.length<=1000000)(h3:∀ t∈ts,∃ y,fe (some (.th t)::d)=some y/\P y):∃ ys,Um g1 fi GZ fe d=some ys/\(∀ y∈ys,P y)/\ys.length=ts.length:=by
 refine W_ fun n9=>?_;obtain⟨ys,e,hp,hl⟩:=Z5Y h3;apply n9;clear n9
 exact⟨ys,by simp only[Um,h1,ob_,if_pos h2,e],hp,hl⟩
theorem BP:∀ {k:Nat} {ts:Lt_} {x:Th},x∈numbered k ts->∃ (j:Nat) (t:Th),x=.tup [.int (j:Int),t]/\t∈ts
 |_,[],_,h=>(nomatch h)
 |k,t::r,x,h=>by
  rcases Zc.mp (show x∈Th.tup [.int (k:Int),t]::numbered (k+1) r from h) with rfl|h
  ·exact⟨k,t,rfl,Z1⟩
  ·refine W_ fun n9=>?_;obtain⟨j,y,e,hy⟩:=BP h;apply n9;clear n9
   exact⟨j,y,e,Z2 _ hy⟩
theorem Z7P {ts:Lt_}{lo hi:Option Int}:oSl (.lst ts) lo hi=some (.lst (Dp ts lo hi)):=rfl
end L2
namespace K40
open PySem L2
noncomputable def drawn (n k:Int):Int:=((n+104729*k+17)*69621%2147483647*((n+104729*k+17)*69621%2147483647)+3*((n+104729*k+17)*69621%2147483647)+k)%2147483629
theorem DO (n k:Int):JM [.int n,.int k]=some (.int (drawn n k)):=by
 unfold JM Z3h
 simp (disch:=lia) only [Qq,Yi,JA,GN,UH,Yy,GJ,GM,Zm,ZO,ZW,Z9,Zb,f2,Za,Zg,fC,Zt,Zn,Q3,Nf,mod_int,Z8,GR,if_true]
 rfl
noncomputable def Ni (x y:Str):Bool:=decide (x.length<y.length\/(x.length=y.length/\x.cps.toList<y.cps.toList))
theorem Z8N (x y:Str):oLt (.tup [.int x.length,.str x]) (.tup [.int y.length,.str y])=some (.bl (Ni x y)):=by
 simp only[oLt,GX,keyOf,ob_,Z8,HT.lexK]
 congr 2
 unfold Ni
 by_cases h:(x.length:Int)=y.length
 ·have h':x.length=y.length:=by lia
  rw[if_pos h]
  by_cases e:x=y
  ·subst e
   rw[if_pos rfl]
   have:¬ (x.length<x.length\/(x.length=x.length/\x.cps.toList<x.cps.toList)):=by
    intro z
    rcases z with z|z
    ·exact absurd ‹_› (YF _)
    ·exact QJ _ z.2
   simp[decide_eq_false this]
  ·rw[if_neg e]
   simp only[Z8,Jj,Th.bl.injEq,decide_eq_decide]
   constructor
   ·intro z;exact .inr ⟨h',z⟩
   ·rintro (z|z)
    ·lia
    ·exact z.2
 ·rw[if_neg h]
  simp only[Z8,Jj,Th.bl.injEq,decide_eq_decide]
  constructor
  ·intro z;exact .inl (by lia)
  ·rintro (z|z) <;> lia
theorem Z47 (x y:Str)(hx:x.length<=1000000)(hy:y.length<=1000000):Ub [.str x,.str y]=some (.bl (Ni x y)):=by
 unfold Ub Z65
 simp (disch:=lia) only [Qq,Yi,JA,GN,GR,f2,QY,Z6,fCB,Za,GJ,GM,Zm,ZO,ZW,Zg,J7,Zn,len_str,ZV,Z1G,MB,if_true,Z8,Zt]
 rw[Z8N];rfl
theorem Z7Q (x:Str):(signs x).length=x.length:=by simp[signs,MU]
theorem Zf5 (ns:List Int)(k:Int)(hk:0<=k):∃ c,Gv [.lst (ns.map Th.int),.int k]=some (.int c):=by
 by_cases h:k<ns.length
 ·have h2:k.toNat<(ns.map Th.int).length:=by rw[Z5];lia
  refine⟨ns[k.toNat]'(by lia),?_⟩
  have e:oIx (.lst (ns.map Th.int)) (.int k)=some (.int (ns[k.toNat]'(by lia))):=by
   simp only[oIx]
   rw[FJ hk (by rw[Z5];exact h),Zd h2,List.getElem_map]
  unfold Gv Dh
  simp (disch:=lia) only [Qq,Yi,JA,GN,UH,fIf,Je,f2,Za,GJ,GM,Zm,ZO,ZW,Zt,Zg,fCB,Z6,J7,Zn,Z48,lt_int,GR,UE,fC,Z8,if_true]
  simp only[Z5,decide_eq_true h,if_true,e]
  rfl
 ·refine⟨0,?_⟩
  unfold Gv Dh
  simp (disch:=lia) only [Qq,Yi,JA,GN,UH,fIf,Je,f2,Za,GJ,GM,Zm,ZO,ZW,Zt,Zg,fCB,Z6,J7,Zn,Z48,lt_int,GR,UE,fC,Z8,if_true]
  simp only[Z5,decide_eq_false h,if_false,Zv]
  rfl
noncomputable def ZjR (c k:Int):Int:=((c+7919*k+1)*48271%2147483647*((c+7919*k+1)*48271%2147483647)+7*((c+7919*k+1)*48271%2147483647)+k)%2147483629
theorem ZbD (ns:List Int)(k:Int)(hk:0<=k):∃ r,0<=r/\r<2147483629/\Mp [.lst (ns.map Th.int),.int k]=some (.int r):=by
 obtain⟨c,hc⟩:=Zf5 ns k hk
 refine⟨ZjR c k,NR _ (by decide),UI _ (by decide),?_⟩
 unfold Mp Z3g
 simp (disch:=lia) only [Qq,Yi,JA,GN,UH,Yy,GJ,GM,Zm,ZO,ZW,Z9,Zb,f2,J8,Z6,ZV,Zg,Zt,J7,Zn,fC,Za,Q3,GR,if_true]
 simp only[hc]
 simp (disch:=lia) only [Zn,Nf,Q3,mod_int,Z8,Zt,Zg]
 rfl
noncomputable def Z6v (n:Int)(le:Str)(k:Nat):Nat:=le.cps.toList.getD (drawn n k / 8%(le.length:Int)).toNat 0
noncomputable def FP (n:Int)(le:Str)(m:Nat):Str:=⟨((Ja m).map (Z6v n le)).toArray⟩
theorem ZcF(h1:0<le.length)(h2:le.length<=1000):∀ (ks:List Nat) (acc:Str) (x:Option Dv),acc.length+ks.length<=100000 ->
  ∃ y,Qe (De 4) (Yy 3 (f2 YB (Za 3) (f2 oIx (Za 1) (f2 Qk (f2 BO (J8 JM (Z6 (ZV 0) (Z6 (ZV 4) J7))) (fC (.int 8))) (fCB NE (Z6 (Za 1) J7)))))) (ks.map fun (k:Nat)=>Th.int (k:Int))
   [some (Dv.th (.int n)),some (Dv.th (.str le)),some (Dv.th (.int most)),some (Dv.th (.str acc)),x]=some (.nx [some (Dv.th (.int n)),some (Dv.th (.str le)),some (Dv.th (.int most)),some (Dv.th (.str ⟨(acc.cps.toList++ks.map (Z6v n le)).toArray⟩)),y])
 |[],acc,x,_=>⟨x,by simp[Qe,ZfL]⟩
 |k::ks,acc,x,hz=>by
  have e1:=DO n k
  have hm:0<=drawn n k / 8%(le.length:Int)/\drawn n k / 8%(le.length:Int)<le.length:=⟨NR _ (by lia),UI _ (by lia)⟩
  have e2:=Z9g hm.1 hm.2 (by lia)
  have hl1:(⟨#[Z6v n le k]⟩:Str).length=1:=rfl
  simp only[Zf] at hz
  have e3:=Z13 (x:=acc) (y:=⟨#[Z6v n le k]⟩) (by rw[hl1];lia)
  have hl2:(acc++(⟨#[Z6v n le k]⟩:Str)).length=acc.length+1:=by rw[Z9T,hl1]
  obtain⟨y,hy⟩:=ZcF (n:=n) (most:=most) h1 h2 ks (acc++⟨#[Z6v n le k]⟩) (some (Dv.th (.int k))) (by rw[hl2];lia)
  refine⟨y,?_⟩
  rw[Zw,Qe]
  simp only[De,Zb,Z9,ob_]
  have hs:Yy 3 (f2 YB (Za 3) (f2 oIx (Za 1) (f2 Qk (f2 BO (J8 JM (Z6 (ZV 0) (Z6 (ZV 4) J7))) (fC (.int 8))) (fCB NE (Z6 (Za 1) J7))))) [some (Dv.th (.int n)),some (Dv.th (.str le)),some (Dv.th (.int most)),some (Dv.th (.str acc)),some (Dv.th (.int k))]
   =some (.nx [some (Dv.th (.int n)),some (Dv.th (.str le)),some (Dv.th (.int most)),some (Dv.th (.str (acc++⟨#[Z6v n le k]⟩))),some (Dv.th (.int k))]):=by
   simp (disch:=lia) only [Yy,Z9,Zb,f2,Za,Zt,Zg,J8,Z6,ZV,J7,Zn,fC,fCB,len_str]
   simp only[e1]
   simp (disch:=lia) only [Zn,Mu,mod_int]
   simp only[e2]
   simp (disch:=lia) only [Zn]
   rw[show le.cps.toList.getD (drawn n ↑k / 8%↑le.length).toNat 0=Z6v n le k from rfl,e3]
   rfl
  rw[hs]
  simp only[ob_]
  rw[hy,Z4F]
  simp
theorem Z0M (n:Nat):L2.upTo n=(Ja n).map fun (k:Nat)=>Th.int (k:Int):=rfl
theorem Z7y(h1:0<le.length)(h2:le.length<=1000)(h3:0<=most)(h4:most<=1000):Mi [.int n,.str le,.int most]=some (.str (FP n le (n%(most+1)).toNat)):=by
 unfold Mi Z62
 have hm:0<=n%(most+1)/\n%(most+1)<most+1:=⟨NR _ (by lia),UI _ (by lia)⟩
 obtain⟨y,hy⟩:=ZcF (n:=n) (most:=most) h1 h2 (Ja (n%(most+1)).toNat) "" none (by rw[JS];show 0+_<=_;lia)
 refine YW rfl ?_
 refine (Jg (d':=[some (Dv.th (.int n)),some (Dv.th (.str le)),some (Dv.th (.int most)),some (Dv.th (.str "")),none]) rfl).trans ?_
 have hr:YX (f2 Qk (Za 0) (f2 YB (Za 2) (fC (.int 1)))) [some (Dv.th (.int n)),some (Dv.th (.str le)),some (Dv.th (.int most)),some (Dv.th (.str "")),none]=some (L2.upTo (n%(most+1)).toNat):=by
  unfold YX
  simp (disch:=lia) only [f2,Za,Zg,Zt,fC,Zn,Nf,mod_int]
  rw[if_pos (by lia)]
 refine (Jg ((Nk hr).trans hy)).trans ?_
 rfl
def Zfx (l:List Nat):Prop:=∀ c∈l,c=97\/c=98\/c=99
def Abc (x:Str):Prop:=Zfx x.cps.toList
structure CF (l r:Str):Prop where
 la:Abc l
 ra:Abc r
 l1:1<=l.length
 l6:l.length<=6
 less:Ni r l=true
theorem CF.rl(h:CF l r):r.length<=l.length:=by
 have:=of_decide_eq_true h.less
 lia
inductive Za7:Str->Prop where
 |ab:Za7 "ab"
 |abc:Za7 "abc"
theorem Za7.abcS(h:Za7 le):Abc le:=by
 cases h <;> (intro c hc;revert c;decide +kernel)
theorem Za7.len(h:Za7 le):2<=le.length/\le.length<=3:=by
 cases h <;> decide +kernel
theorem ZaW(h:Za7 le)(n:Int)(k:Nat):Z6v n le k=97\/Z6v n le k=98\/Z6v n le k=99:=by
 have hl:=h.len
 have hm:0<=drawn n k / 8%(le.length:Int)/\drawn n k / 8%(le.length:Int)<le.length:=⟨NR _ (by lia),UI _ (by lia)⟩
 have h2:(drawn n k / 8%(le.length:Int)).toNat<le.cps.toList.length:=by rw[Z55];lia
 unfold Z6v
 rw[Qh,Zd h2]
 exact h.abcS _ (CZ h2)
theorem Z03 (n:Int)(le:Str)(m:Nat):(FP n le m).length=m:=by simp[FP,MU]
theorem Z04(h:Za7 le)(n:Int)(m:Nat):Abc (FP n le m):=by
 intro c hc
 have:c∈(Ja m).map (Z6v n le):=by simpa [FP] using hc
 obtain⟨k,_,rfl⟩:=Zu.mp this
 exact ZaW h n k
theorem Zfx.app(h:Zfx a)(h':Zfx b):Zfx (a++b):=fun c hc=>(ZR.mp hc).elim (h c) (h' c)
theorem Abc.app(h:Abc a)(h':Abc b):Abc (a++b):=by unfold Abc;rw[Z4F];exact Zfx.app h h'
theorem Abc.cut(h:Abc a)(lo hi:Option Int):Abc (Z5U a lo hi):=fun c hc=>h c (by rw[Z5T] at hc;exact Cp hc)
theorem Abc.mul(h:Abc a)(h0:0<=j):Abc (MA a j):=fun c hc=>h c (by rw[Z3Z h0] at hc;exact Zc2 hc)
theorem Z3U(h:c=97\/c=98\/c=99):Abc ⟨#[c]⟩:=fun d hd=>by
 have:d=c:=by simpa using hd
 subst this;exact h
theorem Qv(h:x.length<y.length):Ni x y=true:=decide_eq_true (.inl h)
theorem Z7W(L:Za7 le)(n:Int):∃ l r,Gu [.int n,.str le]=some (.tup [.str l,.str r])/\CF l r:=by
 have hl:=L.len
 have w1:=Z7y (n:=3*(n / 4)+1+n%3) (most:=2) (le:=le) (by lia) (by lia) (by decide) (by decide)
 generalize hx:FP (3*(n / 4)+1+n%3) le ((3*(n / 4)+1+n%3)%(2+1)).toNat=x at w1
 have xa:Abc x:=by rw[<- hx];exact Z04 L _ _
 have xl:x.length<=2:=by rw[<- hx,Z03];lia
 have hm:0<=n / 12%(le.length:Int)/\n / 12%(le.length:Int)<le.length:=⟨NR _ (by lia),UI _ (by lia)⟩
 have i1:=Z9g hm.1 hm.2 (by lia)
 have ca:le.cps.toList.getD (n / 12%(le.length:Int)).toNat 0=97\/le.cps.toList.getD (n / 12%(le.length:Int)).toNat 0=98\/le.cps.toList.getD (n / 12%(le.length:Int)).toNat 0=99:=by
  have h2:(n / 12%(le.length:Int)).toNat<le.cps.toList.length:=by rw[Z55];lia
  rw[Qh,Zd h2]
  exact L.abcS _ (CZ h2)
 generalize le.cps.toList.getD (n / 12%(le.length:Int)).toNat 0=c at i1 ca
 have hc1:(⟨#[c]⟩:Str).length=1:=rfl
 have p1:=Z13 (x:=x) (y:=⟨#[c]⟩) (by rw[hc1];lia)
 have ya:Abc (x++⟨#[c]⟩):=xa.app (Z3U ca)
 have yl:(x++(⟨#[c]⟩:Str)).length=x.length+1:=by rw[Z9T,hc1]
 generalize x++(⟨#[c]⟩:Str)=y at p1 ya yl
 have left:∃ l,fIf (Je (f2 oEq (f2 Qk (f2 BO (Za 0) (fC (.int 48))) (fC (.int 6))) (fC (.int 1)))) (Yy 2 (fSl (f2 UN (Za 2) (fC (.int 4))) JY (Ul (fC (.int 4))))) UE
   [some (Dv.th (.int n)),some (Dv.th (.str le)),some (Dv.th (.str y)),none]=some (.nx [some (Dv.th (.int n)),some (Dv.th (.str le)),some (Dv.th (.str l)),none])/\Abc l/\1<=l.length/\l.length<=6:=by
  by_cases h:n / 48%6=1
  ·have t1:=FQ (x:=y) (j:=4) (by decide) (by decide) (by show y.length*4<=_;lia)
   have ml:(MA y 4).length=4*y.length:=by
    rw[<- Z55,Z3Z (by decide),Z5K,Z55];rfl
   have s1:=Z0T (x:=MA y 4) (lo:=none) (hi:=some 4) (by lia)
   refine⟨Z5U (MA y 4) none (some 4),?_,(ya.mul (by decide)).cut _ _,?_,?_⟩
   ·simp (disch:=lia) only [fIf,Je,f2,Za,Zg,fC,Zn,Mu,mod_int,eq_int,Yy,Z9,Zb,fSl,Zt,JY,Ul,UE]
    simp only[h,ZjC,if_true,t1,ob_,s1]
    rfl
   ·rw[Z1q,Z5R _ (by simp),Zx,Z55,ml];lia
   ·rw[Z1q,Z5R _ (by lia),Zx];lia
  ·refine⟨y,?_,ya,by lia,by lia⟩
   simp (disch:=lia) only [fIf,Je,f2,Za,Zg,fC,Zn,Mu,mod_int,eq_int,Yy,Z9,Zb,fSl,Zt,JY,Ul,UE]
   have:(n / 48%6 == 1)=false:=by simpa using h
   simp only[this,Zv,if_false]
 refine W_ fun n9=>?_;obtain⟨l,hleft,la,l1,l6⟩:=left;apply n9;clear n9
 have d1:=DO n 50
 have w2:=Z7y (n:=drawn n 50) (most:=l.length) (le:=le) (by lia) (by lia) (by simp) (by lia)
 generalize hz:FP (drawn n 50) le (drawn n 50%((l.length:Int)+1)).toNat=z at w2
 have za:Abc z:=by rw[<- hz];exact Z04 L _ _
 have zl:z.length<=l.length:=by
  rw[<- hz,Z03]
  have:=UI (drawn n 50) (b:=(l.length:Int)+1) (by simp)
  lia
 have ls:=Z47 z l (by lia) (by lia)
 have right:∃ r,fIf (Zde (Je (J8 Ub (Z6 (ZV 3) (Z6 (ZV 2) J7))))) (Yy 3 (fSl (Za 3) (Ul (fC (.int 1))) (Ul (fCB NE (Z6 (Za 2) J7))))) UE
   [some (Dv.th (.int n)),some (Dv.th (.str le)),some (Dv.th (.str l)),some (Dv.th (.str z))]=some (.nx [some (Dv.th (.int n)),some (Dv.th (.str le)),some (Dv.th (.str l)),some (Dv.th (.str r))])/\Abc r/\Ni r l=true:=by
  cases hs:Ni z l with
  |true =>
   rw[hs] at ls
   refine⟨z,?_,za,hs⟩
   simp (disch:=lia) only [fIf,Zde,Je,J8,Z6,ZV,Zt,Zg,J7,Zn,Yy,Z9,Zb,fSl,Za,Ul,fC,fCB,len_str,UE]
   simp only[ls]
   simp (disch:=lia) only [Z8,Wm,Zn,Zv,if_false]
  |false =>
   rw[hs] at ls
   have s1:=Z0T (x:=z) (lo:=some 1) (hi:=some (l.length:Int)) (by lia)
   refine⟨Z5U z (some 1) (some (l.length:Int)),?_,za.cut _ _,?_⟩
   ·simp (disch:=lia) only [fIf,Zde,Je,J8,Z6,ZV,Zt,Zg,J7,Zn,Yy,Z9,Zb,fSl,Za,Ul,fC,fCB,len_str,UE]
    simp only[ls]
    simp (disch:=lia) only [Z8,Z3t,Zn,if_true]
    simp only[s1]
    rfl
   ·refine Qv ?_
    rw[Z1q]
    have e1:HT.sIx z.cps.toList.length 0 (some 1)=min 1 z.length:=by rw[Z55];exact HT.sIx_nat _ _ 1
    have e2:(Dp z.cps.toList (some 1) (some (l.length:Int))).length<=z.length-min 1 z.length:=by
     unfold Dp
     rw[Zx,ZI,e1,Z55]
     exact Zfd _ _
    have:0<z.length\/z.length=0:=by lia
    rcases this with h|h
    ·have:min 1 z.length=1:=by lia
     lia
    ·exfalso
     have:Ni z l=true:=Qv (by lia)
     rw[this] at hs;cases hs
 refine W_ fun n9=>?_;obtain⟨r,hright,ra,hless⟩:=right;apply n9;clear n9
 refine⟨l,r,?_,la,ra,l1,l6,hless⟩
 unfold Gu Z64
 refine YW rfl ?_
 refine (Jg (d':=[some (Dv.th (.int n)),some (Dv.th (.str le)),some (Dv.th (.str y)),none]) ?_).trans ?_
 ·simp (disch:=lia) only [Yy,GJ,Yi,JA,GN,GM,Zm,ZO,ZW,Z9,Zb,f2,J8,Z6,fC,Za,Zg,Zn,Mu,Q3,Nf,mod_int,ZV,Zt,J7,fCB,len_str]
  simp only[w1]
  simp (disch:=lia) only [Zn]
  simp only[i1]
  simp (disch:=lia) only [Zn]
  simp only[p1]
  rfl
 refine (Jg hleft).trans ?_
 refine (Jg (d':=[some (Dv.th (.int n)),some (Dv.th (.str le)),some (Dv.th (.str l)),some (Dv.th (.str z))]) ?_).trans ?_
 ·simp (disch:=lia) only [Yy,Z9,Zb,J8,Z6,ZV,Zg,fC,J7,Zn,Zt,fCB,Za,len_str]
  simp only[d1]
  simp (disch:=lia) only [Zn]
  simp only[w2]
  rfl
 refine (Jg hright).trans ?_
 rfl
def Wi (t:Th):Prop:=∃ l r,t=.tup [.str l,.str r]/\CF l r
noncomputable def Zay:Lt_:=[(.tup [(.str ("ba":Str)),(.str ("ab":Str))]),(.tup [(.str ("ca":Str)),(.str ("ac":Str))]),(.tup [(.str ("cb":Str)),(.str ("bc":Str))])]
theorem Bv(h:(x.cps.toList.all fun c=>c == 97||c == 98||c == 99)=true):Abc x:=fun c hc=>by
 have:=U8.mp h c hc
 simp only[Ys,beq_iff_eq] at this
 lia
theorem Zax:∀ t∈Zay,Wi t:=fun t ht=>by
 simp only[Zay,Zc,WI,or_false] at ht
 rcases ht with rfl|rfl|rfl
 ·exact⟨_,_,rfl,Bv (by decide +kernel),Bv (by decide +kernel),by decide +kernel,by decide +kernel,by decide +kernel⟩
 ·exact⟨_,_,rfl,Bv (by decide +kernel),Bv (by decide +kernel),by decide +kernel,by decide +kernel,by decide +kernel⟩
 ·exact⟨_,_,rfl,Bv (by decide +kernel),Bv (by decide +kernel),by decide +kernel,by decide +kernel,by decide +kernel⟩
theorem Z46(hc:c=97\/c=98\/c=99)(hi:2<=i)(hi3:i<=3)(hj:0<=j)(hj1:j<=1):CF (MA ⟨#[c]⟩ i) (MA ⟨#[c]⟩ j):=by
 have ll:∀ k:Int,0<=k->(MA (⟨#[c]⟩:Str) k).length=k.toNat:=fun k hk=>by
  rw[<- Z55,Z3Z hk,Z5K];simp
 refine⟨(Z3U hc).mul (by lia),(Z3U hc).mul hj,?_,?_,Qv ?_⟩
 ·rw[ll i (by lia)];lia
 ·rw[ll i (by lia)];lia
 ·rw[ll i (by lia),ll j hj];lia
theorem Z7F {n:Int}{le:Str}{ts:Lt_}{x3 x4 x5:Option Dv}{k:Nat}{c:Nat}(hc:c=97\/c=98\/c=99)(hts:∀ t∈ts,Wi t)(hl:ts.length<=100) :
  ∃ d1 ts' y5,MG 3 4 (.tup [.int (k:Int),.str ⟨#[c]⟩]) [some (Dv.th (.int n)),some (Dv.th (.str le)),some (Dv.own ts),x3,x4,x5]=some d1 /\
   (UH (Yy 5 (J8 JM (Z6 (ZV 0) (Z6 (ZV 3) J7))))
 (fIf (Je (f2 oGt (f2 Qk (Za 5) (fC (.int 3))) (fC (.int 0)))) (Nl 2 (QY (Z6 (f2 UN (Za 4) (f2 YB (fC (.int 2)) (f2 Qk (f2 BO (Za 5) (fC (.int 3))) (fC (.int 2))))) (Z6 (f2 UN (Za 4) (f2 Qk (f2 BO (Za 5) (fC (.int 6))) (fC (.int 2)))) J7)))) UE)) d1
   =some (.nx [some (Dv.th (.int n)),some (Dv.th (.str le)),some (Dv.own ts'),some (Dv.th (.int (k:Int))),some (Dv.th (.str ⟨#[c]⟩)),y5])/\(∀ t∈ts',Wi t)/\ts'.length<=ts.length+1:=by
 have e1:=DO n k
 have hc1:(⟨#[c]⟩:Str).length=1:=rfl
 refine⟨[some (Dv.th (.int n)),some (Dv.th (.str le)),some (Dv.own ts),some (Dv.th (.int (k:Int))),some (Dv.th (.str ⟨#[c]⟩)),x5],?_⟩
 have h0:Yy 5 (J8 JM (Z6 (ZV 0) (Z6 (ZV 3) J7))) [some (Dv.th (.int n)),some (Dv.th (.str le)),some (Dv.own ts),some (Dv.th (.int (k:Int))),some (Dv.th (.str ⟨#[c]⟩)),x5]=some (.nx [some (Dv.th (.int n)),some (Dv.th (.str le)),some (Dv.own ts),some (Dv.th (.int (k:Int))),some (Dv.th (.str ⟨#[c]⟩)),some (Dv.th (.int (drawn n k)))]):=by
  simp (disch:=lia) only [Yy,Z9,Zb,J8,Z6,ZV,Zg,Zt,J7,Zn]
  simp only[e1]
  rfl
 by_cases h:0<drawn n k%3
 ·have t1:=FQ (x:=(⟨#[c]⟩:Str)) (j:=2+drawn n k / 3%2) (by lia) (by lia) (by rw[hc1];lia)
  have t2:=FQ (x:=(⟨#[c]⟩:Str)) (j:=drawn n k / 6%2) (by lia) (by lia) (by rw[hc1];lia)
  refine⟨ts++[.tup [.str (MA ⟨#[c]⟩ (2+drawn n k / 3%2)),.str (MA ⟨#[c]⟩ (drawn n k / 6%2))]],some (Dv.th (.int (drawn n k))),rfl,(Jg h0).trans ?_,fun t ht=>?_,by simp⟩
  rotate_left
  ·rcases ZR.mp ht with z|z
   ·exact hts t z
   ·have:=ZS.mp z
    subst this
    exact⟨_,_,rfl,Z46 hc (by lia) (by lia) (by lia) (by lia)⟩
  ·simp (disch:=lia) only [fIf,Je,f2,Za,Zt,Zg,fC,Zn,mod_int,gt_int,UE]
   simp only[decide_eq_true h,if_true,Nl,gz_,gs_]
   simp (disch:=lia) only [QY,Z6,f2,Za,Zt,Zg,fC,Zn,Mu,mod_int,Nf,J7,Z9,Zb]
   simp only[t1,t2,ob_]
   simp (disch:=lia) only [Z1G,Yi,JA,GN,MB,if_true,Z8,Zn]
   rw[if_pos (by lia)]
 ·refine⟨ts,some (Dv.th (.int (drawn n k))),rfl,(Jg h0).trans ?_,hts,by exact Ym _⟩
  simp (disch:=lia) only [fIf,Je,f2,Za,Zt,Zg,fC,Zn,mod_int,gt_int,UE]
  simp only[decide_eq_false h,if_false,Zv]
theorem Zdx(L:Za7 le)(n:Int):∃ ts,Qd [.int n,.str le]=some (.lst ts)/\(∀ t∈ts,Wi t)/\ts.length<=6:=by
 have hl:=L.len
 have first:∃ ts,Z5N 2 (Zc7 (fC (.lst Zay)) JY (Ul (f2 Zfm (f2 UN (fC (.int 2)) (fCB NE (Z6 (Za 1) J7))) (fC (.int 3))))) [some (Dv.th (.int n)),some (Dv.th (.str le)),none,none,none,none]
  =some (.nx [some (Dv.th (.int n)),some (Dv.th (.str le)),some (Dv.own ts),none,none,none])/\(∀ t∈ts,Wi t)/\ts.length<=3:=by
  refine⟨Dp Zay none (some (2*(le.length:Int)-3)),?_,fun t ht=>Zax t (Cp ht),Cr _ _ _⟩
  unfold Z5N Zc7
  simp (disch:=lia) only [Z9,Zb,fSl,fC,JY,Ul,f2,fCB,Z6,Za,Zt,Zg,J7,Zn,len_str,Q3,sub_int]
  simp only[Z7P]
  rfl
 refine W_ fun n9=>?_;obtain⟨ts1,f1,p1,l1⟩:=first
 have second:∃ ts,fIf (Je (f2 oEq (f2 Qk (Za 0) (fC (.int 2))) (fC (.int 1)))) (Z5N 2 (Zc7 (Za 2) JY (Ul (f2 Qk (f2 BO (Za 0) (fC (.int 2))) (fC (.int 2)))))) UE [some (Dv.th (.int n)),some (Dv.th (.str le)),some (Dv.own ts1),none,none,none]
  =some (.nx [some (Dv.th (.int n)),some (Dv.th (.str le)),some (Dv.own ts),none,none,none])/\(∀ t∈ts,Wi t)/\ts.length<=3:=by
  by_cases h:n%2=1
  ·refine⟨Dp ts1 none (some (n / 2%2)),?_,fun t ht=>p1 t (Cp ht),ZF (Cr _ _ _) l1⟩
   simp (disch:=lia) only [fIf,Je,f2,Za,Zg,fC,Zn,mod_int,eq_int,UE]
   simp only[h,ZjC,if_true,Z5N,Zc7]
   simp (disch:=lia) only [Z9,Zb,fSl,Za,Zt,Zg,JY,Ul,f2,fC,Zn,Mu,mod_int]
   simp only[Z7P]
   rfl
  ·refine⟨ts1,?_,p1,l1⟩
   simp (disch:=lia) only [fIf,Je,f2,Za,Zg,fC,Zn,mod_int,eq_int,UE]
   have:(n%2 == 1)=false:=by simpa using h
   simp only[this,Zv,if_false]
 obtain⟨ts2,f2',p2,l2⟩:=second;apply n9;clear n9
 have third:=Z5J (g:=MG 3 4) (F:=(UH (Yy 5 (J8 JM (Z6 (ZV 0) (Z6 (ZV 3) J7))))
 (fIf (Je (f2 oGt (f2 Qk (Za 5) (fC (.int 3))) (fC (.int 0)))) (Nl 2 (QY (Z6 (f2 UN (Za 4) (f2 YB (fC (.int 2)) (f2 Qk (f2 BO (Za 5) (fC (.int 3))) (fC (.int 2))))) (Z6 (f2 UN (Za 4) (f2 Qk (f2 BO (Za 5) (fC (.int 6))) (fC (.int 2)))) J7)))) UE)))
  (fun rest d=>∃ ts x3 x4 x5,d=[some (Dv.th (.int n)),some (Dv.th (.str le)),some (Dv.own ts),x3,x4,x5]/\(∀ t∈ts,Wi t)/\ts.length+rest.length<=6/\∀ t∈rest,∃ (k c:Nat),t=.tup [.int (k:Int),.str ⟨#[c]⟩]/\(c=97\/c=98\/c=99))
  (fun t r d z_=>by
   refine W_ fun n9=>?_;obtain⟨ts,x3,x4,x5,hd,hp,hz,hr⟩:=z_
   subst hd
   obtain⟨k,c,rfl,hc⟩:=hr t Z1
   simp only[Zf] at hz
   obtain⟨d1,ts',y5,g1,g2,g3,g4⟩:=Z7F (n:=n) (le:=le) (x3:=x3) (x4:=x4) (x5:=x5) (k:=k) hc hp (by lia)
   apply n9;clear n9
   exact⟨d1,_,g1,g2,ts',_,_,_,rfl,g3,by lia,fun t ht=>hr t (Z2 _ ht)⟩)
  (numbered 0 (signs le)) [some (Dv.th (.int n)),some (Dv.th (.str le)),some (Dv.own ts2),none,none,none]
  ⟨ts2,none,none,none,rfl,p2,by rw[Ug,Z7Q];lia,fun t ht=>by
   refine W_ fun n9=>?_;obtain⟨j,y,rfl,hy⟩:=BP ht;apply n9;clear n9
   unfold signs at hy
   refine W_ fun n9=>?_;obtain⟨c,hc,rfl⟩:=Zu.mp hy;apply n9;clear n9
   exact⟨j,c,rfl,L.abcS c hc⟩⟩
 refine W_ fun n9=>?_;obtain⟨d',e3,ts3,x3,x4,x5,rfl,p3,l3,_⟩:=third;apply n9;clear n9
 refine⟨ts3,?_,p3,by simpa using l3⟩
 unfold Qd Z63
 refine YW rfl ?_
 refine (Jg f1).trans ((Jg f2').trans ((Jg ((Nk rfl).trans e3)).trans rfl))
theorem ZeO (i:Int) (h0:0<=i) (h1:i<2):∃ le,oIx (.tup [(.str ("ab":Str)),(.str ("abc":Str))]) (.int i)=some (.str le)/\Za7 le:=by
 have:i=0\/i=1:=by lia
 rcases this with rfl|rfl
 ·exact⟨_,rfl,.ab⟩
 ·exact⟨_,rfl,.abc⟩
theorem ZaH (n:Int):∃ ts,ND [.int n]=some (.tup ts)/\(∀ t∈ts,Wi t)/\ts.length<=7:=by
 refine W_ fun n9=>?_;obtain⟨le,hle,L⟩:=ZeO (n / 4%2) (by lia) (by lia)
 obtain⟨ts1,e1,p1,l1⟩:=Zdx L (n / 8)
 have third:∃ ts,(fIf (Je (f2 oGt (f2 Qk (Za 0) (fC (.int 4))) (fC (.int 1)))) (Yy 2 (GA (Um g1 (YX (f2 Qk (f2 BO (Za 0) (fC (.int 8))) (fC (.int 5)))) GZ (J8 Gu (Z6 (J8 JM (Z6 (ZV 1) (Z6 (f2 YB (fC (.int 9)) (Za 0)) J7))) (Z6 (ZV 2) J7)))))) (fIf (Je (f2 oEq (f2 Qk (Za 0) (fC (.int 4))) (fC (.int 1)))) (Yy 2 (f2 YB (Za 2) (GA (Ck (Z6 (J8 Gu (Z6 (J8 JM (Z6 (ZV 0) (Z6 (fC (.int 9)) J7))) (Z6 (ZV 1) J7))) J7))))) UE))
   [some (Dv.th (.int n)),some (Dv.th (.str le)),some (Dv.th (.lst ts1)),none]=some (.nx [some (Dv.th (.int n)),some (Dv.th (.str le)),some (Dv.th (.lst ts)),none])/\(∀ t∈ts,Wi t)/\ts.length<=7:=by
  by_cases h:1<n%4
  ·obtain⟨ys,ey,py,ly⟩:=Zc8 (fi:=YX (f2 Qk (f2 BO (Za 0) (fC (.int 8))) (fC (.int 5)))) (fe:=J8 Gu (Z6 (J8 JM (Z6 (ZV 1) (Z6 (f2 YB (fC (.int 9)) (Za 0)) J7))) (Z6 (ZV 2) J7))) (d:=[some (Dv.th (.int n)),some (Dv.th (.str le)),some (Dv.th (.lst ts1)),none]) (ts:=L2.upTo (n / 8%5).toNat) (P:=Wi)
    (by unfold YX;simp (disch:=lia) only [f2,Za,Zg,fC,Zn,Mu,mod_int];rw[if_pos (by lia)]) (by simp[L2.upTo];lia) (fun t ht=>by
     obtain⟨k,_,rfl⟩:=Zu.mp (show t∈(Ja (n / 8%5).toNat).map fun (k:Nat)=>Th.int ((k:Nat):Int) from ht)
     have d1:=DO n (9+k)
     obtain⟨l,r,e,ok⟩:=Z7W L (drawn n (9+k))
     refine⟨.tup [.str l,.str r],?_,l,r,rfl,ok⟩
     simp (disch:=lia) only [J8,Z6,ZV,Zt,Zg,f2,fC,Za,Zn,Nf,J7]
     simp only[d1]
     simp (disch:=lia) only [Zn]
     simp only[e])
   refine⟨ys,?_,py,by rw[ly];simp[L2.upTo];lia⟩
   simp (disch:=lia) only [fIf,Je,f2,Za,Zg,fC,Zn,mod_int,gt_int,Yy,Z9,Zb,GA,eq_int,Zt,Ck,Z6,J8,ZV,J7,UE]
   simp only[decide_eq_true h,if_true,ey]
   rfl
  ·by_cases h1:n%4=1
   ·have d1:=DO n 9
    obtain⟨l,r,e,ok⟩:=Z7W L (drawn n 9)
    have p:=Z14 (x:=ts1) (y:=[.tup [.str l,.str r]]) (by simp;lia)
    refine⟨ts1++[.tup [.str l,.str r]],?_,fun t ht=>?_,by simp;omega⟩
    ·simp (disch:=lia) only [fIf,Je,f2,Za,Zg,fC,Zn,mod_int,gt_int,Yy,Z9,Zb,GA,eq_int,Zt,Ck,Z6,J8,ZV,J7,UE]
     simp only[decide_eq_false h,if_false,Zv,h1,ZjC,if_true]
     try simp (disch:=lia) only [Qq,UH,Yy,GR,fIf,UE,f2,Za,ZV,fC,fCL,Z6,J7,J8,fCB,Je,Zde,Z2U,Z9w,ZjW,fOr,ZiU,ZiV,ZjV,Z4j,Z6V,Z4n,Z4h,Z4f,Z4l,Z1i,Z2O,Z1k,Z1h,Z1g,Z1j,Z2J,Z4q,Z2N,Z2H,Z2F,Z2L,Z4k,Z6W,Z4o,Z4i,Z4g,Z4m,Z2I,Z4p,Z2M,Z2G,Z2E,Z2K,QY,GA,Ck,Z1G,Ul,JY,fSl,GJ,Yi,Zm,ZO,ZW,gz_,gs_,JA,MB,ob_,Z8,Option.bind_none,Option.map_none,Zb,Z9,Nf,sub_int,Q3,mod_int,Mu,Z48,Z1e,len_str,Zbx,le_int,gt_int,ge_int,lt_int,eq_int,ne_int,ZiX,eq_str,Wm,Z3t,Zhf,if_true,if_false,Zv,reduceIte,GN,GM,MB,Zf,NI]
     simp only[d1]
     simp (disch:=lia) only [Zn]
     simp only[e]
     simp (disch:=lia) only [Zn,Z1G,Yi,JA,MB,if_true,Z8]
     simp only[p]
     rfl
    ·rcases ZR.mp ht with z|z
     ·exact p1 t z
     ·have:=ZS.mp z
      subst this
      exact⟨l,r,rfl,ok⟩
   ·refine⟨ts1,?_,p1,by lia⟩
    simp (disch:=lia) only [fIf,Je,f2,Za,Zg,fC,Zn,mod_int,gt_int,Yy,Z9,Zb,GA,eq_int,Zt,Ck,Z6,J8,ZV,J7,UE]
    have:(n%4 == 1)=false:=by simpa using h1
    simp only[decide_eq_false h,if_false,Zv,this]
 obtain⟨ts,e3,p3,l3⟩:=third;apply n9;clear n9
 have lA:=Cr ts (some (n / 640%5)) none
 have lB:=Cr ts none (some (n / 640%5))
 have hcut:(Dp ts (some (n / 640%5)) none++Dp ts none (some (n / 640%5))).length<=7:=by
  rw[Z5S _ (by lia),Z5R _ (by lia),Zj,ZI,Zx];omega
 refine⟨Dp ts (some (n / 640%5)) none++Dp ts none (some (n / 640%5)),?_,fun t ht=>(ZR.mp ht).elim (fun z=>p3 t (Cp z)) fun z=>p3 t (Cp z),hcut⟩
 have p:=Z14 (x:=Dp ts (some (n / 640%5)) none) (y:=Dp ts none (some (n / 640%5))) (by lia)
 unfold ND Z3e
 refine YW rfl ?_
 refine (Jg (d':=[some (Dv.th (.int n)),some (Dv.th (.str le)),none,none]) ?_).trans ?_
 ·simp (disch:=lia) only [Yy,GJ,Yi,JA,GM,Zm,ZO,ZW,Z9,Zb,f2,fC,Za,Zg,Zn,Mu,mod_int]
  simp only[hle]
  rfl
 refine (Jg (d':=[some (Dv.th (.int n)),some (Dv.th (.str le)),some (Dv.th (.lst ts1)),none]) ?_).trans ?_
 ·simp (disch:=lia) only [Yy,Z9,Zb,J8,Z6,f2,Za,Zg,fC,Zn,Mu,ZV,Zt,J7]
  simp only[e1]
  rfl
 refine (Jg e3).trans ?_
 refine (Jg (d':=[some (Dv.th (.int n)),some (Dv.th (.str le)),some (Dv.th (.lst ts)),some (Dv.th (.int (n / 640%5)))]) ?_).trans ?_
 ·simp (disch:=lia) only [Yy,Z9,Zb,f2,Za,Zg,fC,Zn,Mu,mod_int,Z8]
 simp (disch:=lia) only [GR,fCB,Z6,f2,fSl,Za,Zt,Zg,Ul,ZV,JY,Zn,J7]
 simp only[Z7P,ob_,p]
 rfl
theorem Zc6(h1:a d=some x)(h2:b d=some y):QY (Z6 a (Z6 b J7)) d=some (.tup [x,y]):=by
 unfold QY Z6 J7 Z1G
 rw[h1,h2]
 rfl
theorem DP (w:W)(p:Nat)(hw:w.length<=100000):oSl (tS w) (some (p:Int)) none=some (tS (w.drop p)):=by
 unfold tS
 rw[Z0T (by rw[QQ];lia)]
 congr 2
 unfold Z5U
 rw[ZcJ,Z5S _ (by simp)]
 rfl
theorem FI (w:W)(p:Nat)(hw:w.length<=100000):oSl (tS w) none (some (p:Int))=some (tS (w.take p)):=by
 unfold tS
 rw[Z0T (by rw[QQ];lia)]
 congr 2
 unfold Z5U
 rw[ZcJ,Z5R _ (by lia)]
 rfl
theorem FZ {R:List Ru}{k:Nat}{r:Ru}(h:R[k]?=some r):oIx (RT R) (.int (k:Int))=some (rTh r):=by
 have hk:k<R.length:=(Ji.mp h).1
 show atI (R.map rTh) (k:Int)=_
 rw[FJ (by lia) (by rw[Z5];lia),JT,Jw,h]
 rfl
theorem C2 {l w:W}(hl:l≠[])(hw:w.length<=1000):∀ (n lo:Nat) (acc:Lt_),w.length+1-lo<n->acc.length+(w.length+1-lo)<=2000 ->
  Gj (Je (f2 oGe (Za 3) (fC (.int 0)))) (UH (Nl 2 (ZV 3)) (Yy 3 (fM2 (fun z y i=>some (.int (Dq z y i))) (Za 1) (Za 0) (f2 YB (Za 3) (fC (.int 1)))))) n
   [some (Dv.th (tS l)),some (Dv.th (tS w)),some (Dv.own acc),some (Dv.th (.int (Zae (YD l w lo))))] =
   some (.nx [some (Dv.th (tS l)),some (Dv.th (tS w)),some (Dv.own (acc++(allAt l w lo).map fun (i:Nat)=>Th.int (i:Int))),some (Dv.th (.int (-1)))])
 |0,lo,acc,h,_=>absurd h (by simp)
 |n+1,lo,acc,h,hz=>by
  unfold Gj
  cases hf:YD l w lo with
  |none =>
   rw[Z0C hf]
   simp only[Zae,Je,f2,Za,fC,gs_,gz_,ob_,ge_int,Z7c,UZ]
   rfl
  |some p =>
   refine W_ fun n9=>?_;obtain⟨h1,h2,h3⟩:=CD hf;apply n9;clear n9
   have e0:decide ((0:Int)<=(p:Int))=true:=decide_eq_true (by lia)
   have e1:acc.length<1000000:=by lia
   have f3:=Zc4 (w:=w) hl (p+1)
   have ih:=C2 hl hw n (p+1) (acc++[Th.int (p:Int)]) (by lia) (by rw[Zj,Di];lia)
   simp only[Zae,Je,f2,Za,fC,gs_,gz_,ob_,ge_int,e0,if_true,UH,Nl,ZV,e1,Zb,Z9,Yy,fM2,tS,Nf,Z8]
   rw[show ((p:Int)+1)=((p+1:Nat):Int) by rfl,f3]
   simp only[tS] at ih
   rw[ih,h3,Zw,Zi]
   rfl
theorem Z2h {l w:W}(hl:l≠[])(hw:w.length<=1000):YK [tS l,tS w]=some (.lst ((allAt l w 0).map fun (i:Nat)=>Th.int (i:Int))):=by
 unfold YK Cz
 refine YW rfl ?_
 refine (Jg (d':=[some (Dv.th (tS l)),some (Dv.th (tS w)),some (Dv.own []),none]) rfl).trans ?_
 refine (Jg (d':=[some (Dv.th (tS l)),some (Dv.th (tS w)),some (Dv.own []),some (Dv.th (.int (Zae (YD l w 0))))]) ?_).trans ?_
 ·have f0:=Z9u (w:=w) hl
  simp only[Yy,fM1,f2,Za,GJ,Yi,Zm,ZO,ZW,gs_,gz_,ob_,Z8,tS,f0,Zb,Z9]
 refine (Jg (Ci (C2 hl hw (w.length+5) 0 [] (by simp) (by simp;lia)))).trans ?_
 rfl
theorem Zhm {w:W}{k:Nat}{d:Sd}(hd:d[3]?=some (some (Dv.th (.int (k:Int))))):∀ (is:List Nat),N0 g1 GZ (QY (Z6 (ZV 0) (Z6 (ZV 4) J7))) d (is.map fun (i:Nat)=>Th.int (i:Int))=some ((is.map fun p=>(p,k)).map NO)
 |[]=>rfl
 |i::is=>by
  have ih:=Zhm (w:=w) hd is
  have e:QY (Z6 (ZV 0) (Z6 (ZV 4) J7)) (some (Dv.th (.int (i:Int)))::d)=some (NO (i,k)):=by
   refine Zc6 rfl ?_
   unfold ZV
   rw[gs_,hd]
  simp only[Zw,N0,g1,GZ,ob_,ZO,ZW,if_true,e]
  rw[ih]
  rfl
theorem Z9V (l w:W):(allAt l w 0).length<=w.length+1:=by
 unfold allAt
 have:=Mc (U2 l w) (Uq 0 (w.length+1-0))
 rw[Fq] at this
 omega
theorem Z30(hw:w.length<=1000):∀ (R:List Ru) (k:Nat) (acc:Lt_) (x3 x4:Option Dv),(∀ r∈R,r.1≠[])->acc.length+R.length*1001<=900000 ->
  ∃ y3 y4,Qe (MG 3 4) (Ms 2 (GA (Um g1 (YR (J8 YK (Z6 (f2 oIx (Za 4) (fC (.int 0))) (Z6 (ZV 1) J7)))) GZ (QY (Z6 (ZV 0) (Z6 (ZV 4) J7)))))) (numbered k (R.map rTh))
   [some (Dv.th (RT R0)),some (Dv.th (tS w)),some (Dv.own acc),x3,x4]=some (.nx [some (Dv.th (RT R0)),some (Dv.th (tS w)),some (Dv.own (acc++(Gf w k R).map NO)),y3,y4])
 |[],k,acc,x3,x4,_,_=>⟨x3,x4,by simp[L2.numbered,Qe,Gf]⟩
 |r::R,k,acc,x3,x4,hR,hz=>by
  have hl:=hR r Z1
  have pe:=Z2h hl hw
  have al:=Z9V r.1 w
  have e1:Um g1 (YR (J8 YK (Z6 (f2 oIx (Za 4) (fC (.int 0))) (Z6 (ZV 1) J7)))) GZ (QY (Z6 (ZV 0) (Z6 (ZV 4) J7)))
    [some (Dv.th (RT R0)),some (Dv.th (tS w)),some (Dv.own acc),some (Dv.th (.int (k:Int))),some (Dv.th (rTh r))]=some (((allAt r.1 w 0).map fun p=>(p,k)).map NO):=by
   have ei:YR (J8 YK (Z6 (f2 oIx (Za 4) (fC (.int 0))) (Z6 (ZV 1) J7))) [some (Dv.th (RT R0)),some (Dv.th (tS w)),some (Dv.own acc),some (Dv.th (.int (k:Int))),some (Dv.th (rTh r))]
    =some ((allAt r.1 w 0).map fun (i:Nat)=>Th.int (i:Int)):=by
    have e0:oIx (rTh r) (.int 0)=some (tS r.1):=rfl
    simp only[YR,J8,Z6,J7,f2,Za,ZV,fC,gs_,gz_,ob_,e0,pe]
    rfl
   unfold Um
   rw[ei,ob_,if_pos (by rw[Z5];lia)]
   exact Zhm (w:=w) rfl _
  have hz1:acc.length+(((allAt r.1 w 0).map fun p=>(p,k)).map NO).length<=1000000:=by
   rw[Z5,Z5]
   rw[Zf] at hz
   lia
  obtain⟨y3,y4,ih⟩:=Z30 (R0:=R0) hw R (k+1) (acc++((allAt r.1 w 0).map fun p=>(p,k)).map NO) (some (Dv.th (.int (k:Int)))) (some (Dv.th (rTh r))) (fun q hq=>hR q (Z2 _ hq)) (by
   rw[Zj,Z5,Z5]
   rw[Zf] at hz
   lia)
  refine⟨y3,y4,?_⟩
  rw[Zw]
  unfold L2.numbered Qe
  have g:MG 3 4 (.tup [.int (k:Int),rTh r]) [some (Dv.th (RT R0)),some (Dv.th (tS w)),some (Dv.own acc),x3,x4]=some [some (Dv.th (RT R0)),some (Dv.th (tS w)),some (Dv.own acc),some (Dv.th (.int (k:Int))),some (Dv.th (rTh r))]:=rfl
  rw[g,ob_]
  have x:Ms 2 (GA (Um g1 (YR (J8 YK (Z6 (f2 oIx (Za 4) (fC (.int 0))) (Z6 (ZV 1) J7)))) GZ (QY (Z6 (ZV 0) (Z6 (ZV 4) J7)))))
    [some (Dv.th (RT R0)),some (Dv.th (tS w)),some (Dv.own acc),some (Dv.th (.int (k:Int))),some (Dv.th (rTh r))] =
    some (.nx [some (Dv.th (RT R0)),some (Dv.th (tS w)),some (Dv.own (acc++((allAt r.1 w 0).map fun p=>(p,k)).map NO)),some (Dv.th (.int (k:Int))),some (Dv.th (rTh r))]):=by
   simp only[Ms,GA,e1,gs_,gz_,Z8,ob_,Z24,if_pos hz1,Zb,Z9]
  rw[x]
  simp only[ob_]
  rw[ih]
  have hc:Gf w k (r::R)=(allAt r.1 w 0).map (fun p=>(p,k))++Gf w (k+1) R:=rfl
  rw[hc,YZ,Zi]
theorem Z8h {R:List Ru}{w:W}(hR:∀ r∈R,r.1≠[])(hn:R.length<=100)(hw:w.length<=1000):NB [RT R,tS w]=some (.tup ((JE R w).map NO)):=by
 obtain⟨y3,y4,lp⟩:=Z30 (R0:=R) hw R 0 [] none none hR (by simp;lia)
 unfold NB Z61
 refine YW rfl ?_
 refine (Jg (d':=[some (Dv.th (RT R)),some (Dv.th (tS w)),some (Dv.own []),none,none]) rfl).trans ?_
 have hf:Fm (QZ (ZV 0)) (MG 3 4) (Ms 2 (GA (Um g1 (YR (J8 YK (Z6 (f2 oIx (Za 4) (fC (.int 0))) (Z6 (ZV 1) J7)))) GZ (QY (Z6 (ZV 0) (Z6 (ZV 4) J7))))))
   [some (Dv.th (RT R)),some (Dv.th (tS w)),some (Dv.own []),none,none]=some (.nx [some (Dv.th (RT R)),some (Dv.th (tS w)),some (Dv.own ((Gf w 0 R).map NO)),y3,y4]):=by
  rw[Nk (ts:=numbered 0 (R.map rTh)) rfl]
  exact lp
 refine (Jg hf).trans ?_
 have hs:=Z3G (w:=w) hR
 have ho:=ZgM (Gf w 0 R)
 simp only[GR,fCB,Z6,J7,GA,Z2T,Z5r,Za,gs_,gz_,ob_,Z8,ho,if_true,hs,Nh]
theorem Zjr {R0:List Ru}{w:W}{p:Nat}(hw:w.length<=1000){x2:Option Dv}:∀ (R:List Ru) (k:Nat),
  N0 g2 (Je (fM1 (fun z y=>some (.bl (Jn z y))) (fSl (Za 3) (Ul (ZV 5)) JY) (f2 oIx (Za 1) (fC (.int 0))))) (QY (Z6 (ZV 5) (Z6 (ZV 0) J7)))
   [some (Dv.th (RT R0)),some (Dv.th (tS w)),x2,some (Dv.th (.int (p:Int)))] (numbered k (R.map rTh))=some ((UJ w p k R).map NO)
 |[],k=>rfl
 |r::R,k=>by
  have ih:=Zjr (R0:=R0) (p:=p) hw (x2:=x2) R (k+1)
  rw[Zw]
  unfold L2.numbered N0
  have g:g2 (.tup [.int (k:Int),rTh r])=some [some (Dv.th (.int (k:Int))),some (Dv.th (rTh r))]:=rfl
  rw[g]
  simp only[ob_,ZO,ZW]
  have e1:Je (fM1 (fun z y=>some (.bl (Jn z y))) (fSl (Za 3) (Ul (ZV 5)) JY) (f2 oIx (Za 1) (fC (.int 0)))) [some (Dv.th (.int (k:Int))),some (Dv.th (rTh r)),some (Dv.th (RT R0)),some (Dv.th (tS w)),x2,some (Dv.th (.int (p:Int)))]=some (U2 r.1 w p):=by
   have e0:oIx (rTh r) (.int 0)=some (tS r.1):=rfl
   have e2:=DP w p (by lia)
   have e3:=Dt (w.drop p) r.1
   simp only[Je,fM1,f2,fSl,Ul,JY,Za,ZV,fC,gs_,gz_,ob_,e0,e2]
   simp only[tS,e3]
   rfl
  have e4:QY (Z6 (ZV 5) (Z6 (ZV 0) J7)) [some (Dv.th (.int (k:Int))),some (Dv.th (rTh r)),some (Dv.th (RT R0)),some (Dv.th (tS w)),x2,some (Dv.th (.int (p:Int)))]=some (NO (p,k)):=Zc6 rfl rfl
  have hc:UJ w p k (r::R)=if U2 r.1 w p=true then (p,k)::UJ w p (k+1) R else UJ w p (k+1) R:=rfl
  rw[e1,ob_,e4,hc]
  cases hs:U2 r.1 w p with
  |true=>rw[ih];rfl
  |false=>rw[if_neg (by simp),if_neg (by simp)];exact ih
theorem BS(hn:R.length<=100)(hw:w.length<=1000):∀ (ps:List Nat) (acc:Lt_) (x3:Option Dv),acc.length+ps.length*100<=900000 ->
  ∃ y3,Qe (De 3) (Yy 2 (f2 YB (Za 2) (GA (Um g2 (QZ (ZV 0)) (Je (fM1 (fun z y=>some (.bl (Jn z y))) (fSl (Za 3) (Ul (ZV 5)) JY) (f2 oIx (Za 1) (fC (.int 0))))) (QY (Z6 (ZV 5) (Z6 (ZV 0) J7))))))) (ps.map fun (k:Nat)=>Th.int (k:Int))
   [some (Dv.th (RT R)),some (Dv.th (tS w)),some (Dv.th (.lst acc)),x3]=some (.nx [some (Dv.th (RT R)),some (Dv.th (tS w)),some (Dv.th (.lst (acc++(ps.flatMap fun p=>UJ w p 0 R).map NO))),y3])
 |[],acc,x3,_=>⟨x3,by simp[Qe]⟩
 |p::ps,acc,x3,hz=>by
  have hr:=Z3J w p 0 R
  rw[Zf] at hz
  obtain⟨y3,ih⟩:=BS hn hw ps (acc++(UJ w p 0 R).map NO) (some (Dv.th (.int (p:Int)))) (by rw[Zj,Z5];lia)
  refine⟨y3,?_⟩
  rw[Zw]
  unfold Qe
  have g:De 3 (.int (p:Int)) [some (Dv.th (RT R)),some (Dv.th (tS w)),some (Dv.th (.lst acc)),x3]=some [some (Dv.th (RT R)),some (Dv.th (tS w)),some (Dv.th (.lst acc)),some (Dv.th (.int (p:Int)))]:=rfl
  rw[g,ob_]
  have row:=Zjr (R0:=R) (p:=p) hw (x2:=some (Dv.th (.lst acc))) R 0
  have c:Um g2 (QZ (ZV 0)) (Je (fM1 (fun z y=>some (.bl (Jn z y))) (fSl (Za 3) (Ul (ZV 5)) JY) (f2 oIx (Za 1) (fC (.int 0))))) (QY (Z6 (ZV 5) (Z6 (ZV 0) J7)))
    [some (Dv.th (RT R)),some (Dv.th (tS w)),some (Dv.th (.lst acc)),some (Dv.th (.int (p:Int)))]=some ((UJ w p 0 R).map NO):=by
   unfold Um
   have ee:QZ (ZV 0) [some (Dv.th (RT R)),some (Dv.th (tS w)),some (Dv.th (.lst acc)),some (Dv.th (.int (p:Int)))]=some (numbered 0 (R.map rTh)):=rfl
   rw[ee,ob_,if_pos (by rw[Ug,Z5];lia)]
   exact row
  have pl:=Z14 (x:=acc) (y:=(UJ w p 0 R).map NO) (by rw[Z5];lia)
  have st:Yy 2 (f2 YB (Za 2) (GA (Um g2 (QZ (ZV 0)) (Je (fM1 (fun z y=>some (.bl (Jn z y))) (fSl (Za 3) (Ul (ZV 5)) JY) (f2 oIx (Za 1) (fC (.int 0))))) (QY (Z6 (ZV 5) (Z6 (ZV 0) J7))))))
    [some (Dv.th (RT R)),some (Dv.th (tS w)),some (Dv.th (.lst acc)),some (Dv.th (.int (p:Int)))]=some (.nx [some (Dv.th (RT R)),some (Dv.th (tS w)),some (Dv.th (.lst (acc++(UJ w p 0 R).map NO))),some (Dv.th (.int (p:Int)))]):=by
   simp only[Yy,f2,Za,GA,c,gs_,gz_,ob_,Z8,pl,Zb,Z9]
  rw[st]
  simp only[ob_]
  rw[ih,Zcw,YZ,Zi]
theorem Dd(hn:R.length<=100)(hw:w.length<=1000):Uu [RT R,tS w]=some (.lst ((JE R w).map NO)):=by
 obtain⟨y3,lp⟩:=BS hn hw (Ja w.length) [] none (by simp;lia)
 unfold Uu Z0z
 refine YW rfl ?_
 refine (Jg (d':=[some (Dv.th (RT R)),some (Dv.th (tS w)),some (Dv.th (.lst [])),none]) rfl).trans ?_
 have hf:Fm (YX (fCB NE (Z6 (Za 1) J7))) (De 3) (Yy 2 (f2 YB (Za 2) (GA (Um g2 (QZ (ZV 0)) (Je (fM1 (fun z y=>some (.bl (Jn z y))) (fSl (Za 3) (Ul (ZV 5)) JY) (f2 oIx (Za 1) (fC (.int 0))))) (QY (Z6 (ZV 5) (Z6 (ZV 0) J7)))))))
   [some (Dv.th (RT R)),some (Dv.th (tS w)),some (Dv.th (.lst [])),none]=some (.nx [some (Dv.th (RT R)),some (Dv.th (tS w)),some (Dv.th (.lst ((JE R w).map NO))),y3]):=by
  have hl:=len_str (x:=sL w) (by rw[QQ];lia)
  have e:YX (fCB NE (Z6 (Za 1) J7)) [some (Dv.th (RT R)),some (Dv.th (tS w)),some (Dv.th (.lst [])),none]=some (L2.upTo w.length):=by
   simp only[YX,fCB,Z6,J7,Za,gs_,gz_,ob_,tS,hl]
   rw[if_pos (by rw[QQ];lia),QQ,JT]
  rw[Nk e,Z0M]
  have lp':=lp
  rw[ZW] at lp'
  exact lp'
 refine (Jg hf).trans ?_
 rfl
theorem D6(h:a.length+b.length<=1000000):YB (tS a) (tS b)=some (tS (a++b)):=by
 unfold tS
 rw[Z13 (by rw[QQ,QQ];exact h),ZfP]
theorem BV(h:a.length<=1000000):NE [tS a]=some (.int (a.length:Int)):=by
 unfold tS
 rw[len_str (by rw[QQ];exact h)]
 rfl
theorem BN {r:Ru}{w:W}{p:Nat}(hw:w.length<=10000)(h1:r.1.length<=10000)(h2:r.2.length<=10000):YJ [rTh r,tS w,.int (p:Int)]=some (tS (chW r w p)):=by
 unfold YJ Cy
 refine YW rfl ?_
 have e0:oIx (rTh r) (.int 0)=some (tS r.1):=rfl
 have e1:oIx (rTh r) (.int 1)=some (tS r.2):=rfl
 have s1:=FI w p (by lia)
 have s2:=DP w (p+r.1.length) (by lia)
 have l1:=BV (a:=r.1) (by lia)
 have p1:=D6 (a:=w.take p) (b:=r.2) (by rw[Zx];lia)
 have p2:=D6 (a:=w.take p++r.2) (b:=w.drop (p+r.1.length)) (by rw[Zj,Zx,ZI];omega)
 simp only[GR,f2,fSl,Ul,JY,Za,ZV,fC,fCB,Z6,J7,GJ,Yi,Zm,ZO,ZW,gs_,gz_,ob_,Z8,e0,e1,s1,l1,Nf,p1]
 rw[show ((p:Int)+(r.1.length:Int))=((p+r.1.length:Nat):Int) by rfl,s2]
 simp only[ob_,p2,Z8]
 rfl
theorem BX {R:List Ru}{r:Ru}{w:W}{p k:Nat}(hr:R[k]?=some r)(hw:w.length<=10000)(h1:r.1.length<=10000)(h2:r.2.length<=10000):YL [RT R,tS w,.int (p:Int),.int (k:Int)]=some (tS (chW r w p)):=by
 unfold YL CB
 refine YW rfl ?_
 have e0:=FZ hr
 refine (Jg (d':=[some (Dv.th (RT R)),some (Dv.th (tS w)),some (Dv.th (.int (p:Int))),some (Dv.th (.int (k:Int))),some (Dv.th (tS r.1)),some (Dv.th (tS r.2))]) ?_).trans ?_
 ·simp only[Zhg,f2,Za,GJ,Yi,Zm,ZO,ZW,gs_,gz_,ob_,e0]
  rfl
 have s1:=FI w p (by lia)
 have s2:=DP w (p+r.1.length) (by lia)
 have l1:=BV (a:=r.1) (by lia)
 have p1:=D6 (a:=w.take p) (b:=r.2) (by rw[Zx];lia)
 have p2:=D6 (a:=w.take p++r.2) (b:=w.drop (p+r.1.length)) (by rw[Zj,Zx,ZI];lia)
 simp only[GR,f2,fSl,Ul,JY,Za,ZV,fC,fCB,Z6,J7,gs_,gz_,ob_,Z8,s1,l1,Nf,p1]
 rw[show ((p:Int)+(r.1.length:Int))=((p+r.1.length:Nat):Int) by lia,s2]
 simp only[ob_,p2,Z8]
 rfl
noncomputable def chs (R:List Ru)(w:W)(xs:List (Nat×Nat)):List W:=xs.filterMap fun x=>(R[x.2]?).map fun r=>chW r w x.1
theorem Z7I:∀ l:List W,Mn (l.map tS)=some (l.map sL)
 |[]=>rfl
 |a::l=>by
  show (Mn (l.map tS)).map (sL a::·)=_
  rw[Z7I l]
  rfl
noncomputable def C6 (R:List Ru)(w:W):Ls_:=Ma (Sg.metS ((NS R w).map sL))
structure Z3l (R:List Ru):Prop where
 few:R.length<=100
 ok:∀ r∈R,r.1≠[]/\r.1.length<=1000/\r.2.length<=1000
theorem Z3l.ne(h:Z3l R):∀ r∈R,r.1≠[]:=fun r hr=>(h.ok r hr).1
theorem Z20(hS:Z3l R)(hw:w.length<=30):(NS R w).length<=3000:=by
 unfold NS
 have h1:=Z3A (fun x:Nat×Nat=>(R[x.2]?).map fun r=>chW r w x.1) (JE R w)
 have h2:=Wz R w
 have h3:w.length*R.length<=30*100:=QX hw hS.few
 lia
theorem Ca(hS:Z3l R)(hw:w.length<=1000):∀ (xs:List (Nat×Nat)) (acc:Lt_) (x3 x4:Option Dv),(∀ x∈xs,∃ r,R[x.2]?=some r)->acc.length+xs.length<=900000 ->
  ∃ y3 y4,Qe (MG 3 4) (Nl 2 (J8 YL (Z6 (ZV 0) (Z6 (ZV 1) (Z6 (ZV 3) (Z6 (ZV 4) J7)))))) (xs.map NO) [some (Dv.th (RT R)),some (Dv.th (tS w)),some (Dv.own acc),x3,x4] =
   some (.nx [some (Dv.th (RT R)),some (Dv.th (tS w)),some (Dv.own (acc++(chs R w xs).map tS)),y3,y4])
 |[],acc,x3,x4,_,_=>⟨x3,x4,by simp[Qe,chs]⟩
 |x::xs,acc,x3,x4,hx,hz=>by
  obtain⟨r,hr⟩:=hx x Z1
  have hk:=hS.ok r (ZJ hr)
  have ce:=BX (p:=x.1) (w:=w) hr (by lia) (by lia) (by lia)
  rw[Zf] at hz
  obtain⟨y3,y4,ih⟩:=Ca hS hw xs (acc++[tS (chW r w x.1)]) (some (Dv.th (.int (x.1:Int)))) (some (Dv.th (.int (x.2:Int)))) (fun y hy=>hx y (Z2 _ hy)) (by rw[Zj,Di];lia)
  refine⟨y3,y4,?_⟩
  rw[Zw]
  unfold Qe
  have g:MG 3 4 (NO x) [some (Dv.th (RT R)),some (Dv.th (tS w)),some (Dv.own acc),x3,x4]=some [some (Dv.th (RT R)),some (Dv.th (tS w)),some (Dv.own acc),some (Dv.th (.int (x.1:Int))),some (Dv.th (.int (x.2:Int)))]:=rfl
  rw[g,ob_]
  have st:Nl 2 (J8 YL (Z6 (ZV 0) (Z6 (ZV 1) (Z6 (ZV 3) (Z6 (ZV 4) J7))))) [some (Dv.th (RT R)),some (Dv.th (tS w)),some (Dv.own acc),some (Dv.th (.int (x.1:Int))),some (Dv.th (.int (x.2:Int)))] =
    some (.nx [some (Dv.th (RT R)),some (Dv.th (tS w)),some (Dv.own (acc++[tS (chW r w x.1)])),some (Dv.th (.int (x.1:Int))),some (Dv.th (.int (x.2:Int)))]):=by
   have hl:acc.length<1000000:=by lia
   simp only[Nl,J8,Z6,J7,ZV,gs_,gz_,ob_,ce,if_pos hl,Zb,Z9]
  rw[st]
  simp only[ob_]
  have hc:chs R w (x::xs)=chW r w x.1::chs R w xs:=by
   unfold chs
   rw[G8,hr]
   rfl
  rw[ih,hc,Zw,Zi]
  rfl
theorem Wr {l:List W}(h:l.length<4000):Fx [.lst (l.map tS)]=some ((Ma (Sg.metS (l.map sL))).map Th.str):=by
 show (Mn (l.map tS)).bind _=_
 rw[Z7I,ob_,if_pos (by rw[Z5];exact h)]
theorem Z6R(hS:Z3l R)(hw:w.length<=30):Gk [RT R,tS w]=some (.lst ((C6 R w).map Th.str)):=by
 have hp:∀ x∈JE R w,∃ r,R[x.2]?=some r:=fun x hx=>let ⟨r,h,_⟩:=(UO hS.ne).mp hx;⟨r,h⟩
 have h2:=Wz R w
 have h3:w.length*R.length<=30*100:=QX hw hS.few
 obtain⟨y3,y4,lp⟩:=Ca (w:=w) hS (by lia) (JE R w) [] none none hp (by simp;lia)
 have pe:=Dd (R:=R) (w:=w) hS.few (by lia)
 unfold Gk Z3f
 refine YW rfl ?_
 refine (Jg (d':=[some (Dv.th (RT R)),some (Dv.th (tS w)),some (Dv.own []),none,none]) rfl).trans ?_
 refine (Jg (d':=[some (Dv.th (RT R)),some (Dv.th (tS w)),some (Dv.own ((NS R w).map tS)),y3,y4]) ?_).trans ?_
 ·rw[Nk (ts:=(JE R w).map NO) (by simp only[Z1l,J8,Z6,J7,ZV,gs_,gz_,ob_,pe])]
  exact lp
 ·have se:=Wr (l:=NS R w) (by have:=Z20 hS hw;lia)
  simp only[GR,GA,Nj,Z6,J7,Za,gs_,gz_,ob_,Z8,se]
  rfl
theorem Z5W(hS:Z3l R)(hw:w.length<=1000):∀ (xs:List (Nat×Nat)),(∀ x∈xs,∃ r,R[x.2]?=some r) ->
  N0 g2 GZ (J8 YJ (Z6 (f2 oIx (Za 2) (Za 1)) (Z6 (ZV 3) (Z6 (ZV 0) J7)))) [some (Dv.th (RT R)),some (Dv.th (tS w))] (xs.map NO)=some ((chs R w xs).map tS)
 |[],_=>rfl
 |x::xs,hx=>by
  obtain⟨r,hr⟩:=hx x Z1
  have hk:=hS.ok r (ZJ hr)
  have ce:=BN (r:=r) (p:=x.1) (w:=w) (by lia) (by lia) (by lia)
  have ih:=Z5W hS hw xs fun y hy=>hx y (Z2 _ hy)
  have e0:=FZ hr
  rw[Zw]
  unfold N0
  have g:g2 (NO x)=some [some (Dv.th (.int (x.1:Int))),some (Dv.th (.int (x.2:Int)))]:=rfl
  rw[g]
  have fe:J8 YJ (Z6 (f2 oIx (Za 2) (Za 1)) (Z6 (ZV 3) (Z6 (ZV 0) J7))) [some (Dv.th (.int (x.1:Int))),some (Dv.th (.int (x.2:Int))),some (Dv.th (RT R)),some (Dv.th (tS w))]=some (tS (chW r w x.1)):=by
   simp only[J8,Z6,J7,f2,ZV,Za,gs_,gz_,ob_,e0,ce]
  simp only[ob_,ZO,ZW,GZ,if_true,fe,ih]
  have hc:chs R w (x::xs)=chW r w x.1::chs R w xs:=by
   unfold chs
   rw[G8,hr]
   rfl
  rw[hc,Zw]
theorem Zbz(hS:Z3l R)(hw:w.length<=30):Qc [RT R,tS w]=some (.tup ((C6 R w).map Th.str)):=by
 have hp:∀ x∈JE R w,∃ r,R[x.2]?=some r:=fun x hx=>let ⟨r,h,_⟩:=(UO hS.ne).mp hx;⟨r,h⟩
 have h2:=Wz R w
 have h3:w.length*R.length<=30*100:=QX hw hS.few
 have pe:=Z8h (R:=R) (w:=w) hS.ne hS.few (by lia)
 have cp:=Z5W (w:=w) hS (by lia) (JE R w) hp
 have se:=Wr (l:=NS R w) (by have:=Z20 hS hw;lia)
 unfold Qc Z9P
 refine YW rfl ?_
 have c:Um g2 (Z1l (J8 NB (Z6 (ZV 0) (Z6 (ZV 1) J7)))) GZ (J8 YJ (Z6 (f2 oIx (Za 2) (Za 1)) (Z6 (ZV 3) (Z6 (ZV 0) J7)))) [some (Dv.th (RT R)),some (Dv.th (tS w))]=some ((NS R w).map tS):=by
  unfold Um
  have e:Z1l (J8 NB (Z6 (ZV 0) (Z6 (ZV 1) J7))) [some (Dv.th (RT R)),some (Dv.th (tS w))]=some ((JE R w).map NO):=by
   simp only[Z1l,J8,Z6,J7,ZV,gs_,gz_,ob_,pe]
  rw[e,ob_,if_pos (by rw[Z5];lia)]
  exact cp
 show GR _ [some (Dv.th (RT R)),some (Dv.th (tS w))]=_
 simp only[GR,fCB,Z6,J7,GA,Nj,c,ob_,Z8,se,Nh]
 rfl
theorem DE (a b:W):Ni (sL a) (sL b)=true↔ltW a b:=by
 unfold Ni
 rw[decide_eq_true_eq]
 exact Iff.rfl
structure RR (R:List Ru):Prop where
 few:R.length<=8
 ok:∀ r∈R,CF (sL r.1) (sL r.2)
theorem RR.small(h:RR R):Z3l R:=⟨ZF h.few (by decide),fun r hr=>by
 have z:=h.ok r hr
 have l1:1<=r.1.length:=z.l1
 have l6:r.1.length<=6:=z.l6
 have rl:r.2.length<=r.1.length:=z.rl
 exact⟨Bz.mp ‹_›,by lia,by lia⟩⟩
theorem RR.lt(h:RR R):∀ r∈R,r.1≠[]/\ltW r.2 r.1:=fun r hr=>⟨h.small.ne r hr,(DE _ _).mp (h.ok r hr).less⟩
theorem RR.ne(h:RR R):∀ r∈R,r.1≠[]:=h.small.ne
theorem Z5b:∀ {ts:Lt_},(∀ t∈ts,Wi t)->∃ R:List Ru,ts=R.map rTh/\∀ r∈R,CF (sL r.1) (sL r.2)
 |[],_=>⟨[],rfl,fun _ h=>absurd h (by simp)⟩
 |t::ts,h=>by
  obtain⟨R,e,hR⟩:=Z5b fun u hu=>h u (Z2 _ hu)
  obtain⟨l,r,rfl,ok⟩:=h t Z1
  refine⟨(l.cps.toList,r.cps.toList)::R,?_,fun q hq=>?_⟩
  ·rw[Zw,<- e]
   unfold rTh tS
   rw[Z3I,Z3I]
  ·rcases Zc.mp hq with rfl|hq
   ·rw[Z3I,Z3I];exact ok
   ·exact hR q hq
noncomputable def nxW (R:List Ru)(w:W):List W:=(C6 R w).map fun s=>s.cps.toList
theorem ZiB (R:List Ru)(w:W):(nxW R w).map sL=C6 R w:=by
 unfold nxW
 rw[J1]
 exact (Jo fun s _=>Z3I s).trans (By _)
theorem Zd2 (R:List Ru)(w:W):(C6 R w).map Th.str=(nxW R w).map tS:=by rw[Zd7,ZiB]
theorem Z0i:y∈nxW R w↔y∈NS R w:=by
 have h:∀ s:Str,s∈C6 R w↔s∈(NS R w).map sL:=fun s=>((NM _).1.mem_iff).trans Sg.mem_metS
 unfold nxW
 rw[Zu]
 constructor
 ·rintro⟨s,hs,rfl⟩
  obtain⟨v,hv,rfl⟩:=Zu.mp ((h s).mp hs)
  exact hv
 ·intro hy
  exact⟨sL y,(h _).mpr (Zu.mpr ⟨y,hy,rfl⟩),rfl⟩
theorem Zd3(hR:RR R)(hw:w.length<=11):(nxW R w).length<=88:=by
 unfold nxW
 rw[Z5]
 have h1:(C6 R w).length=(Sg.metS ((NS R w).map sL)).length:=(NM _).1.length_eq
 have h2:=Sg.metS_len ((NS R w).map sL)
 rw[Z5] at h2
 have h3:(NS R w).length<=(JE R w).length:=Z3A _ _
 have h4:=Wz R w
 have h5:w.length*R.length<=11*8:=QX hw hR.few
 lia
theorem ZgT(hR:RR R)(h:y∈nxW R w):ltW y w:=by
 obtain⟨p,r,hr,hs,rfl⟩:=(DD hR.ne).mp (Z0i.mp h)
 obtain⟨k,hk,e1⟩:=YT hr
 exact ZbK (x:=(p,k)) hR.lt (by rw[Zd hk,e1]) hs
theorem WU(hR:RR R):∀ x∈Z0B,∀ y∈nxW R x,y∈Z0B:=fun x hx y hy=>by
 obtain⟨h1,h2⟩:=Ge.mp hx
 refine Ge.mpr ⟨?_,?_⟩
 ·rcases ZgT hR hy with z|z
  ·lia
  ·lia
 ·obtain⟨p,r,hr,hs,rfl⟩:=(DD hR.ne).mp (Z0i.mp hy)
  have ra:Zja r.2:=(hR.ok r hr).ra
  intro c hc
  unfold chW at hc
  rcases ZR.mp hc with hc|hc
  ·rcases ZR.mp hc with hc|hc
   ·exact h2 c (Uc hc)
   ·exact ra c hc
  ·exact h2 c (JQ hc)
theorem ZgS(hR:RR R):nxW R w=[]↔JE R w=[]:=by
 constructor
 ·intro h
  cases hp:JE R w with
  |nil=>rfl
  |cons x l =>
   obtain⟨r,hr,hs⟩:=(UO hR.ne).mp (show x∈JE R w by rw[hp];exact Z1)
   have:chW r w x.1∈nxW R w:=Z0i.mpr ((DD hR.ne).mpr ⟨x.1,r,ZJ hr,hs,rfl⟩)
   rw[h] at this
   cases this
 ·intro h
  refine Md.mpr fun y hy=>?_
  have:=Z0i.mp hy
  unfold NS at this
  rw[h] at this
  cases this
theorem ZgR(hR:RR R)(hw:w∈Z0B)(h:y∈nxW R w):val y<val w:=by
 refine ZfA (ZgT hR h) fun c hc=>?_
 rcases (Ge.mp (WU hR w hw y h)).2 c hc with rfl|rfl|rfl <;> decide
theorem Z4S(h:c d=some false):Gj c F 1 d=some (.nx d):=by
 unfold Gj;rw[h];rfl
theorem Z4T(h:c d=some true)(hF:F d=some (.nx d'))(hn:Gj c F n d'=some o):Gj c F (n+1) d=some o:=by
 unfold Gj;rw[h,ob_,if_pos rfl,hF];exact hn
noncomputable def DJ (w:W):Nat->List Ru->Lt_
 |_,[]=>[]
 |k,r::R=>.tup [.int (Zae (YD r.1 w 0)),.int (k:Int)]::DJ w (k+1) R
theorem Z2R (w:W):∀ (k:Nat) (R:List Ru),(DJ w k R).length=R.length
 |_,[]=>rfl
 |k,r::R=>by
  show (DJ w (k+1) R).length+1=_
  rw[Z2R w (k+1) R]
  rfl
theorem Z5L:∀ (R:List Ru) (k:Nat),(∀ r∈R,r.1≠[]) ->
  N0 g2 GZ (QY (Z6 (fM1 (fun z y=>some (.int (MS z y))) (Za 3) (f2 oIx (Za 1) (fC (.int 0)))) (Z6 (ZV 0) J7))) [some (Dv.th (RT R0)),some (Dv.th (tS w)),x2,x3] (numbered k (R.map rTh))=some (DJ w k R)
 |[],k,_=>rfl
 |r::R,k,h=>by
  have ih:=Z5L (R0:=R0) (w:=w) (x2:=x2) (x3:=x3) R (k+1) fun q hq=>h q (Z2 _ hq)
  rw[Zw]
  unfold L2.numbered N0
  have g:g2 (.tup [.int (k:Int),rTh r])=some [some (Dv.th (.int (k:Int))),some (Dv.th (rTh r))]:=rfl
  rw[g]
  simp only[ob_,ZO,ZW]
  have e1:fM1 (fun z y=>some (.int (MS z y))) (Za 3) (f2 oIx (Za 1) (fC (.int 0))) [some (Dv.th (.int (k:Int))),some (Dv.th (rTh r)),some (Dv.th (RT R0)),some (Dv.th (tS w)),x2,x3]=some (.int (Zae (YD r.1 w 0))):=by
   have e0:oIx (rTh r) (.int 0)=some (tS r.1):=rfl
   have e3:=Z9u (w:=w) (h r Z1)
   simp only[fM1,f2,Za,fC,gs_,gz_,ob_,e0]
   simp only[tS,e3]
  have e4:=Zc6 (a:=fM1 (fun z y=>some (.int (MS z y))) (Za 3) (f2 oIx (Za 1) (fC (.int 0)))) (b:=ZV 0) (d:=[some (Dv.th (.int (k:Int))),some (Dv.th (rTh r)),some (Dv.th (RT R0)),some (Dv.th (tS w)),x2,x3]) (y:=.int (k:Int)) e1 rfl
  rw[e4,ih]
  rfl
theorem Ch (w:W):∀ (k:Nat) (R:List Ru),(DJ w k R).filter (fun t=>match t with|.tup [.int i,_]=>decide (0<=i)|_=>false)=(WL w k R).map NO
 |_,[]=>rfl
 |k,r::R=>by
  have ih:=Ch w (k+1) R
  rw[show DJ w k (r::R)=.tup [.int (Zae (YD r.1 w 0)),.int (k:Int)]::DJ w (k+1) R from rfl,Na,ih]
  rw[show WL w k (r::R)=(match YD r.1 w 0 with|some p=>(p,k)::WL w (k+1) R|none=>WL w (k+1) R) from rfl]
  cases hf:YD r.1 w 0 with
  |none=>rfl
  |some p =>
   have:decide ((0:Int)<=Zae (some p))=true:=decide_eq_true (by show (0:Int)<=(p:Int);lia)
   simp only[this,if_true]
   rfl
theorem Z2Q:∀ {k:Nat} {R:List Ru},t∈DJ w k R->∃ (i:Int) (j:Nat),t=.tup [.int i,.int (j:Int)]
 |_,[],h=>nomatch h
 |k,r::R,h=>by
  rcases Zc.mp (show t∈_::DJ w (k+1) R from h) with rfl|h
  ·exact⟨_,_,rfl⟩
  ·exact Z2Q h
noncomputable def foT:Option W->Th
 |some y=>tS y
 |none=>.non
theorem DH(hR:RR R)(hw:w.length<=30):Uy [RT R,tS w]=some (foT (NX R w)):=by
 have hS:=hR.small
 have few:=hR.few
 unfold Uy Fe
 refine YW rfl ?_
 refine (Jg (d':=[some (.th (RT R)),some (.th (tS w)),some (.th (.lst (DJ w 0 R))),none]) ?_).trans ?_
 ·have c:Um g2 (QZ (ZV 0)) GZ (QY (Z6 (fM1 (fun z y=>some (.int (MS z y))) (Za 3) (f2 oIx (Za 1) (fC (.int 0)))) (Z6 (ZV 0) J7))) [some (Dv.th (RT R)),some (Dv.th (tS w)),none,none]=some (DJ w 0 R):=by
   unfold Um
   have ee:QZ (ZV 0) [some (Dv.th (RT R)),some (Dv.th (tS w)),none,none]=some (numbered 0 (R.map rTh)):=rfl
   rw[ee,ob_,if_pos (by rw[Ug,Z5];lia)]
   exact Z5L R 0 hR.ne
  show Yy 2 _ [some (Dv.th (RT R)),some (Dv.th (tS w)),none,none]=_
  simp only[Yy,GA,c,Z8,Zb,Z9]
 refine (Jg (d':=[some (.th (RT R)),some (.th (tS w)),some (.th (.lst (DJ w 0 R))),some (.th (match (JE R w).head? with|some x=>NO x|none=>.non))]) ?_).trans ?_
 ·have c:=BZ (fi:=YR (ZV 2)) (ft:=Je (f2 oGe (f2 oIx (Za 0) (fC (.int 0))) (fC (.int 0)))) (q:=fun t=>match t with|.tup [.int i,_]=>decide (0<=i)|_=>false) (ts:=DJ w 0 R)
   (d:=[some (.th (RT R)),some (.th (tS w)),some (.th (.lst (DJ w 0 R))),none]) rfl (by rw[Z2R];lia) fun t ht=>by
    obtain⟨i,j,rfl⟩:=Z2Q ht
    have e0:oIx (.tup [.int i,.int (j:Int)]) (.int 0)=some (.int i):=rfl
    simp only[Je,f2,Za,fC,gz_,ob_,e0,ge_int]
  rw[Ch] at c
  have hc:=Z9p hR.ne w
  simp only[Yy,Z9x,Z6,J7,GA,c,fC,ob_,Z8,hc,Zb,Z9] <;> rfl
 cases hp:JE R w with
 |nil =>
  have:NX R w=none:=by unfold NX;rw[hp];rfl
  rw[this]
  rfl
 |cons x l =>
  obtain⟨r,hr,hs⟩:=(UO hR.ne).mp (show x∈JE R w by rw[hp];exact Z1)
  have:NX R w=some (chW r w x.1):=by
   unfold NX
   rw[hp]
   show (R[x.2]?).map _=_
   rw[hr]
   rfl
  rw[this]
  have ok:=hS.ok r (ZJ hr)
  have pe:=BN (r:=r) (w:=w) (p:=x.1) (by lia) (by lia) (by lia)
  have ra:=FZ hr
  have i1:oIx (NO x) (.int 1)=some (.int (x.2:Int)):=rfl
  have i0:oIx (NO x) (.int 0)=some (.int (x.1:Int)):=rfl
  have nn:Z3Y false (NO x) .non=some (.bl false):=rfl
  simp only[Zfh,GR,fIf,Je,f2,Za,ZV,fC,J8,Z6,J7,gs_,gz_,ob_,Z8,nn,Zv,if_false,i1,i0,ra,pe]
  rfl
theorem DI(hR:RR R)(h:NX R w=some y):y∈nxW R w:=Z0i.mpr (Z6X hR.ne h)
theorem Z1p(hR:RR R):∀ (n:Nat) (w:W),w∈Z0B->val w=n->∃ y,Z3B R w y:=by
 intro n
 induction n using Nat.strongRecOn with
 |ind n ih =>
  intro w hw e
  cases h:NX R w with
  |none=>exact⟨w,.stop h⟩
  |some y =>
   have hy:=DI hR h
   obtain⟨z,r⟩:=ih (val y) (by rw[<- e];exact ZgR hR hw hy) y (WU hR w hw y hy) rfl
   exact⟨z,.go h r⟩
theorem Z3B.reach(hR:RR R)(d:Z3B R w y):Rch (nxW R) s w->Rch (nxW R) s y/\nxW R y=[]:=by
 induction d with
 |stop h=>exact fun r=>⟨r,(ZgS hR).mpr (Z0k hR.ne h)⟩
 |go h _ ih=>exact fun r=>ih (.step r (DI hR h))
noncomputable abbrev bD:FS:=UH (Yy 1 (ZV 2)) (Yy 2 (J8 Uy (Z6 (ZV 0) (Z6 (ZV 1) J7))))
theorem Zce(hR:RR R)(d:Z3B R w y):w∈Z0B ->
  ∃ n,Gj (Je (f2 (Z3Y true) (Za 2) (fC .non))) bD n [some (.th (RT R)),some (.th (tS w)),some (.th (foT (NX R w)))]=some (.nx [some (.th (RT R)),some (.th (tS y)),some (.th .non)]):=by
 induction d with
 |stop h =>
  intro _
  rw[h]
  exact⟨1,Z4S rfl⟩
 |@go w y z h _ ih =>
  intro hw
  have hy:=WU hR w hw y (DI hR h)
  obtain⟨n,e⟩:=ih hy
  rw[h]
  have fe:=DH (w:=y) hR (by have:=(Ge.mp hy).1;lia)
  refine⟨n+1,Z4T rfl ?_ e⟩
  refine (Jg (d':=[some (.th (RT R)),some (.th (tS y)),some (.th (tS y))]) rfl).trans ?_
  simp only[Yy,J8,Z6,J7,ZV,gs_,gz_,ob_,Z8,fe,Zb,Z9]
theorem Zhh(hR:RR R)(hw:w∈Z0B)(d:Z3B R w y):D9 [RT R,tS w]=some (tS y):=by
 obtain⟨n,e⟩:=Zce hR d hw
 have fe:=DH (w:=w) hR (by have:=(Ge.mp hw).1;lia)
 unfold D9 Zho
 refine YW rfl ?_
 refine (Jg (d':=[some (.th (RT R)),some (.th (tS w)),some (.th (foT (NX R w)))]) ?_).trans ?_
 ·show Yy 2 _ [some (.th (RT R)),some (.th (tS w)),none]=_
  simp only[Yy,J8,Z6,J7,ZV,gs_,gz_,ob_,Z8,fe,Zb,Z9]
 refine (Jg (Ci e)).trans ?_
 rfl
theorem Z6F {l m:W}{p:Nat}(hl:l.length<=10000)(hm:m.length<=10000):NC [tS l,tS m,.int (p:Int)]=some (tS (ovW l m p)):=by
 unfold NC Z3d
 refine YW rfl ?_
 have s1:=FI l p (by lia)
 have s2:=DP l (p+m.length) (by lia)
 have l1:=BV (a:=m) (by lia)
 have p1:=D6 (a:=l.take p) (b:=m) (by rw[Zx];lia)
 have p2:=D6 (a:=l.take p++m) (b:=l.drop (p+m.length)) (by rw[Zj,Zx,ZI];omega)
 simp only[GR,f2,fSl,Ul,JY,Za,ZV,fC,fCB,Z6,J7,GJ,Yi,Zm,ZO,ZW,gs_,gz_,ob_,Z8,s1,l1,Nf,p1]
 rw[show ((p:Int)+(m.length:Int))=((p+m.length:Nat):Int) by rfl,s2]
 simp only[ob_,p2,Z8]
 rfl
theorem Z3T {l m:W}{st:Nat}(hl:l.length<=10000)(hm:m.length<=10000)(hs:st<=1):GW [tS l,tS m,.int (st:Int)]=some (.lst ((Z7k l m st).map tS)):=by
 unfold GW Z0y
 refine YW rfl ?_
 have e1:Df (ZV 2) (fCB NE (Z6 (Za 0) J7)) [some (Dv.th (tS l)),some (Dv.th (tS m)),some (Dv.th (.int (st:Int))),none]=some (Q2 (st:Int) (l.length-st)):=by
  have l1:=BV (a:=l) (by lia)
  have hb:-1000000<=(st:Int)/\(st:Int)<=1000000/\-1000000<=(l.length:Int)/\(l.length:Int)<=1000000:=by lia
  simp only[Df,fCB,Z6,J7,ZV,Za,gs_,gz_,ob_,l1,if_pos hb]
  rw[show ((l.length:Int)-(st:Int)).toNat=l.length-st by simp]
 have eu:Q2 (st:Int) (l.length-st)=(Uq st (l.length-st)).map fun (i:Nat)=>Th.int (i:Int):=by
  unfold Q2
  rw[List.range'_eq_map_range,J1]
  refine Jo fun k _=>?_
  show Th.int ((st:Int)+(k:Int))=Th.int ((st+k:Nat):Int)
  rw[Int.natCast_add]
 refine (Jg (d':=[some (Dv.th (tS l)),some (Dv.th (tS m)),some (Dv.th (.int (st:Int))),some (Dv.th (.lst (((Uq st (l.length-st)).map (ovW l m)).map tS)))]) ?_).trans ?_
 ·have c:=DL (fi:=Df (ZV 2) (fCB NE (Z6 (Za 0) J7))) (fe:=J8 NC (Z6 (ZV 1) (Z6 (ZV 2) (Z6 (ZV 0) J7)))) (p:=fun t=>match t with|.int i=>tS (ovW l m i.toNat)|_=>.non) e1
   (by unfold Q2;rw[Z5,JS];lia) fun t ht=>by
    rw[eu] at ht
    obtain⟨i,-,rfl⟩:=Zu.mp ht
    have oe:=Z6F (p:=i) hl hm
    simp only[J8,Z6,J7,ZV,gs_,gz_,ob_,oe,JT]
  have e2:(Q2 (st:Int) (l.length-st)).map (fun t=>match t with|.int i=>tS (ovW l m i.toNat)|_=>.non)=((Uq st (l.length-st)).map (ovW l m)).map tS:=by
   rw[eu,J1,J1]
   exact Jo fun i _=>rfl
  rw[e2] at c
  show Yy 3 _ [some (Dv.th (tS l)),some (Dv.th (tS m)),some (Dv.th (.int (st:Int))),none]=_
  simp only[Yy,GA,c,Z8,Zb,Z9]
 ·have c:=BZ (fi:=YR (ZV 3)) (ft:=Je (fM1 (fun z y=>some (.bl (Jn z y))) (Za 0) (Za 1))) (q:=fun t=>match t with|.str x=>l.isPrefixOf x.cps.toList|_=>false)
   (ts:=((Uq st (l.length-st)).map (ovW l m)).map tS) (d:=[some (Dv.th (tS l)),some (Dv.th (tS m)),some (Dv.th (.int (st:Int))),some (Dv.th (.lst (((Uq st (l.length-st)).map (ovW l m)).map tS)))])
   rfl (by rw[Z5,Z5,Fq];lia) fun t ht=>by
    obtain⟨u,-,rfl⟩:=Zu.mp ht
    have e:=Dt u l
    simp only[Je,fM1,f2,Za,tS,gs_,gz_,ob_,e]
    rfl
  have e2:(((Uq st (l.length-st)).map (ovW l m)).map tS).filter (fun t=>match t with|.str x=>l.isPrefixOf x.cps.toList|_=>false)=(Z7k l m st).map tS:=by
   rw[Zfi]
   rfl
  rw[e2] at c
  simp only[GR,GA,c,Z8]
noncomputable abbrev bC:FS:=Ms 1 (J8 GW (Z6 (f2 oIx (Za 3) (fC (.int 0))) (Z6 (f2 oIx (Za 5) (fC (.int 0))) (Z6 (fIf (Je (f2 oEq (Za 2) (Za 4))) (fC (.int 1)) (fC (.int 0))) J7))))
theorem Z5c {t0:Option Dv}{a:Ru}{i:Nat}(ha:a.1.length<=100):∀ (R:List Ru) (j:Nat) (acc:Lt_) (x4 x5:Option Dv),(∀ r∈R,r.1.length<=100)->acc.length+R.length*100<=900000 ->
  ∃ y4 y5,Qe (MG 4 5) bC (numbered j (R.map rTh)) [t0,some (Dv.own acc),some (Dv.th (.int (i:Int))),some (Dv.th (rTh a)),x4,x5] =
   some (.nx [t0,some (Dv.own (acc++(Dg a i j R).map tS)),some (Dv.th (.int (i:Int))),some (Dv.th (rTh a)),y4,y5])
 |[],j,acc,x4,x5,_,_=>⟨x4,x5,by simp[L2.numbered,Qe,Dg]⟩
 |b::R,j,acc,x4,x5,hR,hz=>by
  have hb:=hR b Z1
  rw[Zf] at hz
  have oe:=Z3T (l:=a.1) (m:=b.1) (st:=if i=j then 1 else 0) (by lia) (by lia) (by split <;> simp)
  have ol:=Z8C a.1 b.1 (if i=j then 1 else 0)
  obtain⟨y4,y5,ih⟩:=Z5c (t0:=t0) (i:=i) ha R (j+1) (acc++(Z7k a.1 b.1 (if i=j then 1 else 0)).map tS) (some (Dv.th (.int (j:Int)))) (some (Dv.th (rTh b))) (fun q hq=>hR q (Z2 _ hq)) (by
   rw[Zj,Z5];lia)
  refine⟨y4,y5,?_⟩
  rw[Zw]
  unfold L2.numbered Qe
  have g:MG 4 5 (.tup [.int (j:Int),rTh b]) [t0,some (Dv.own acc),some (Dv.th (.int (i:Int))),some (Dv.th (rTh a)),x4,x5]=some [t0,some (Dv.own acc),some (Dv.th (.int (i:Int))),some (Dv.th (rTh a)),some (Dv.th (.int (j:Int))),some (Dv.th (rTh b))]:=rfl
  rw[g,ob_]
  have x:bC [t0,some (Dv.own acc),some (Dv.th (.int (i:Int))),some (Dv.th (rTh a)),some (Dv.th (.int (j:Int))),some (Dv.th (rTh b))] =
    some (.nx [t0,some (Dv.own (acc++(Z7k a.1 b.1 (if i=j then 1 else 0)).map tS)),some (Dv.th (.int (i:Int))),some (Dv.th (rTh a)),some (Dv.th (.int (j:Int))),some (Dv.th (rTh b))]):=by
   have e0:oIx (rTh a) (.int 0)=some (tS a.1):=rfl
   have e1:oIx (rTh b) (.int 0)=some (tS b.1):=rfl
   have e2:(fIf (Je (f2 oEq (Za 2) (Za 4))) (fC (.int 1)) (fC (.int 0)):FD) [t0,some (Dv.own acc),some (Dv.th (.int (i:Int))),some (Dv.th (rTh a)),some (Dv.th (.int (j:Int))),some (Dv.th (rTh b))]=some (.int ((if i=j then 1 else 0:Nat):Int)):=by
    simp only[fIf,Je,f2,Za,fC,gs_,gz_,ob_,eq_int]
    by_cases h:i=j
    ·subst h;simp
    ·have:((i:Int) == (j:Int))=false:=beq_eq_false_iff_ne.mpr fun z=>h (by lia)
     rw[this,if_neg h];rfl
   have hz1:acc.length+((Z7k a.1 b.1 (if i=j then 1 else 0)).map tS).length<=1000000:=by rw[Z5];lia
   simp only[bC,Ms,J8,Z6,J7,e2]
   simp only[f2,Za,fC,gs_,gz_,ob_,e0,e1,oe,Z24,if_pos hz1,Zb,Z9]
  rw[x]
  simp only[ob_]
  rw[ih]
  have hc:Dg a i j (b::R)=Z7k a.1 b.1 (if i=j then 1 else 0)++Dg a i (j+1) R:=rfl
  rw[hc,YZ,Zi]
theorem Z66(h0:∀ r∈R0,r.1.length<=100)(h8:R0.length<=8):∀ (R:List Ru) (i:Nat) (acc:Lt_) (x2 x3 x4 x5:Option Dv),(∀ r∈R,r.1.length<=100)->acc.length+R.length*800<=800000 ->
  ∃ y2 y3 y4 y5,Qe (MG 2 3) (Fm (QZ (ZV 0)) (MG 4 5) bC) (numbered i (R.map rTh)) [some (Dv.th (RT R0)),some (Dv.own acc),x2,x3,x4,x5] =
   some (.nx [some (Dv.th (RT R0)),some (Dv.own (acc++(Mv R0 i R).map tS)),y2,y3,y4,y5])
 |[],i,acc,x2,x3,x4,x5,_,_=>⟨x2,x3,x4,x5,by simp[L2.numbered,Qe,Mv]⟩
 |a::R,i,acc,x2,x3,x4,x5,hR,hz=>by
  have ha:=hR a Z1
  rw[Zf] at hz
  have rl:=Ct (i:=i) ha (j:=0) (R:=R0)
  obtain⟨z4,z5,lp⟩:=Z5c (t0:=some (Dv.th (RT R0))) (i:=i) ha R0 0 acc x4 x5 h0 (by lia)
  obtain⟨y2,y3,y4,y5,ih⟩:=Z66 h0 h8 R (i+1) (acc++(Dg a i 0 R0).map tS) (some (Dv.th (.int (i:Int)))) (some (Dv.th (rTh a))) z4 z5 (fun q hq=>hR q (Z2 _ hq)) (by
   rw[Zj,Z5];lia)
  refine⟨y2,y3,y4,y5,?_⟩
  rw[Zw]
  unfold L2.numbered Qe
  have g:MG 2 3 (.tup [.int (i:Int),rTh a]) [some (Dv.th (RT R0)),some (Dv.own acc),x2,x3,x4,x5]=some [some (Dv.th (RT R0)),some (Dv.own acc),some (Dv.th (.int (i:Int))),some (Dv.th (rTh a)),x4,x5]:=rfl
  rw[g,ob_,Nk (ts:=numbered 0 (R0.map rTh)) rfl,lp]
  simp only[ob_]
  rw[ih]
  have hc:Mv R0 i (a::R)=Dg a i 0 R0++Mv R0 (i+1) R:=rfl
  rw[hc,YZ,Zi]
noncomputable def WW (R:List Ru):List W:=(Ma (Sg.metS ((Mv R 0 R).map sL))).map fun s=>s.cps.toList
theorem Z9H (R:List Ru):(Ma (Sg.metS ((Mv R 0 R).map sL))).map Th.str=(WW R).map tS:=by
 have e:((Ma (Sg.metS ((Mv R 0 R).map sL))).map fun s=>s.cps.toList).map sL=Ma (Sg.metS ((Mv R 0 R).map sL)):=by
  rw[J1]
  exact (Jo fun s _=>Z3I s).trans (By _)
 rw[Zd7]
 unfold WW
 rw[e]
theorem Dc:u∈WW R↔ClW R u:=by
 have h:∀ s:Str,s∈Ma (Sg.metS ((Mv R 0 R).map sL))↔s∈(Mv R 0 R).map sL:=fun s=>((NM _).1.mem_iff).trans Sg.mem_metS
 rw[<- Z8Y]
 unfold WW
 rw[Zu]
 constructor
 ·rintro⟨s,hs,rfl⟩
  obtain⟨v,hv,rfl⟩:=Zu.mp ((h s).mp hs)
  exact hv
 ·intro hy
  exact⟨sL u,(h _).mpr (Zu.mpr ⟨u,hy,rfl⟩),rfl⟩
theorem RR.l6(hR:RR R):∀ r∈R,r.1.length<=6:=fun r hr=>(hR.ok r hr).l6
theorem Z4y(hR:RR R)(h:ClW R u):u∈Z0B:=by
 obtain⟨h1,h2⟩:=Zf4 (P:=fun c=>c=97\/c=98\/c=99) (n:=6) (fun r hr=>(hR.ok r hr).la) hR.l6 h
 exact Ge.mpr ⟨by lia,h2⟩
theorem Z33(hR:RR R):(Mv R 0 R).length<=384:=by
 have h1:=Z32 (R0:=R) (i:=0) hR.l6
 have h2:=hR.few
 have h3:R.length*(R.length*6)<=8*(8*6):=QX h2 (MJ _ h2)
 exact ZF ‹_› ‹_›
theorem Z0u(hR:RR R):UW [RT R]=some (.tup ((WW R).map tS)):=by
 have few:=hR.few
 have hl:∀ r∈R,r.1.length<=100:=fun r hr=>ZF (hR.l6 r hr) (by decide)
 obtain⟨y2,y3,y4,y5,lp⟩:=Z66 hl few R 0 [] none none none none hl (by simp;lia)
 unfold UW Z3i
 refine YW rfl ?_
 refine (Jg (d':=[some (Dv.th (RT R)),some (Dv.own []),none,none,none,none]) rfl).trans ?_
 refine (Jg (d':=[some (Dv.th (RT R)),some (Dv.own ((Mv R 0 R).map tS)),y2,y3,y4,y5]) ?_).trans ?_
 ·rw[Nk (ts:=numbered 0 (R.map rTh)) rfl]
  exact lp
 ·have se:=Wr (l:=Mv R 0 R) (by have:=Z33 hR;lia)
  simp only[GR,fCB,Z6,J7,GA,Nj,Za,gs_,gz_,ob_,Z8,se,Nh,Z9H]
open Classical in
noncomputable def MH (R:List Ru)(w:W):W:=if h:∃ y,Z3B R w y then h.choose else w
theorem Z4u(d:Z3B R w y):MH R w=y:=by
 have h:∃ y,Z3B R w y:=⟨y,d⟩
 unfold MH
 rw[dif_pos h]
 exact h.choose_spec.det d
theorem Zf1(hR:RR R)(hw:w∈Z0B):D9 [RT R,tS w]=some (tS (MH R w)):=by
 obtain⟨y,d⟩:=Z1p hR _ w hw rfl
 rw[Z4u d]
 exact Zhh hR hw d
theorem Z0p(hR:RR R)(hw:w∈Z0B):Rch (nxW R) w (MH R w)/\nxW R (MH R w)=[]:=by
 obtain⟨y,d⟩:=Z1p hR _ w hw rfl
 rw[Z4u d]
 exact Z3B.reach hR d (.refl w)
noncomputable def CO (R:List Ru)(w:W):Ls_:=Ma (Sg.metS (((nxW R w).map (MH R)).map sL))
theorem Zca:1<(CO R w).length↔∃ y z,y∈nxW R w/\z∈nxW R w/\MH R y≠MH R z:=by
 have hm:∀ s:Str,s∈CO R w↔s∈((nxW R w).map (MH R)).map sL:=fun s=>((NM _).1.mem_iff).trans Sg.mem_metS
 have hn:(CO R w).Nodup:=(NM _).1.nodup_iff.mpr (Sg.metS_nodup _)
 constructor
 ·intro h
  refine W_ fun n9=>?_;obtain⟨a,b,ha,hb,hne⟩:=ZfD hn h
  rw[hm,J1,Zu] at ha hb
  obtain⟨y,hy,rfl⟩:=ha
  obtain⟨z,hz,rfl⟩:=hb;apply n9;clear n9
  exact⟨y,z,hy,hz,fun e=>hne (congrArg sL e)⟩
 ·rintro⟨y,z,hy,hz,hne⟩
  refine Zdv (a:=sL (MH R y)) (b:=sL (MH R z)) ?_ ?_ fun e=>hne (ZfO e)
  ·rw[hm,J1,Zu];exact⟨y,hy,rfl⟩
  ·rw[hm,J1,Zu];exact⟨z,hz,rfl⟩
theorem Zdf(hR:RR R)(hw:w∈Z0B):JN [RT R,tS w]=some (.tup ((CO R w).map Th.str)):=by
 have w6:=(Ge.mp hw).1
 have nl:=Zd3 hR w6
 have ne:=Zbz (R:=R) (w:=w) hR.small (by lia)
 rw[Zd2] at ne
 unfold JN Wg
 refine YW rfl ?_
 have c:=DL (fi:=YR (J8 Qc (Z6 (ZV 0) (Z6 (ZV 1) J7)))) (fe:=J8 D9 (Z6 (ZV 1) (Z6 (ZV 0) J7))) (p:=fun t=>match t with|.str x=>tS (MH R x.cps.toList)|_=>.non)
  (d:=[some (Dv.th (RT R)),some (Dv.th (tS w))]) (ts:=(nxW R w).map tS) (by simp only[YR,J8,Z6,J7,ZV,gs_,gz_,ob_,ne];rfl) (by rw[Z5];lia) fun t ht=>by
   obtain⟨y,hy,rfl⟩:=Zu.mp ht
   have ee:=Zf1 hR (WU hR w hw y hy)
   simp only[J8,Z6,J7,ZV,gs_,gz_,ob_,ee]
   rfl
 have e2:((nxW R w).map tS).map (fun t=>match t with|.str x=>tS (MH R x.cps.toList)|_=>.non)=((nxW R w).map (MH R)).map tS:=by
  rw[J1,J1]
  exact Jo fun i _=>rfl
 rw[e2] at c
 have se:=Wr (l:=(nxW R w).map (MH R)) (by rw[Z5];lia)
 show GR _ [some (Dv.th (RT R)),some (Dv.th (tS w))]=_
 simp only[GR,fCB,Z6,J7,GA,Nj,c,ob_,Z8,se,Nh]
 rfl
theorem Bg(h:w.length<=1000000):YI [tS w]=some (.tup [.int (w.length:Int),tS w]):=by
 unfold YI Zdk
 refine YW rfl ?_
 have l1:=BV h
 have:=Zc6 (a:=fCB NE (Z6 (Za 0) J7)) (b:=ZV 0) (d:=[some (Dv.th (tS w))]) (x:=.int (w.length:Int)) (y:=tS w) (by simp only[fCB,Z6,J7,Za,gz_,ob_,l1]) rfl
 show GR _ [some (Dv.th (tS w))]=_
 simp only[GR,this,Z8]
def leR (a b:W):Prop:=a.length<b.length\/(a.length=b.length/\leS (sL a) (sL b))
theorem Z98 (a b:W):leR a b\/leR b a:=by
 unfold leR
 rcases DG (sL a) (sL b) with h|h
 ·rcases GO a.length b.length with q|q|q
  ·exact .inl (.inl q)
  ·exact .inl (.inr ⟨q,h⟩)
  ·exact .inr (.inl q)
 ·rcases GO a.length b.length with q|q|q
  ·exact .inl (.inl q)
  ·exact .inr (.inr ⟨q.symm,h⟩)
  ·exact .inr (.inl q)
theorem Z97(h:leR a b)(h':leR b c):leR a c:=by
 unfold leR at *
 rcases h with h|⟨h,q⟩
 ·rcases h' with h'|⟨h',q'⟩
  ·exact .inl (by exact Ml ‹_› ‹_›)
  ·exact .inl (by lia)
 ·rcases h' with h'|⟨h',q'⟩
  ·exact .inl (by lia)
  ·exact .inr ⟨by lia,DF q q'⟩
open Classical in
theorem ZaE(hl:∀ w∈l,w.length<=1000000):∃ r:List W,r.Perm l/\Z22 YI (l.map tS)=some (r.map tS):=by
 refine⟨l.mergeSort fun a b=>decide (leR a b),No _ _,?_⟩
 have hp:=No l (fun a b=>decide (leR a b))
 have h2:=Wj (le:=fun a b=>decide (leR a b)) (fun a b c h h'=>by simp only[decide_eq_true_eq] at *;exact Z97 h h') (fun a b=>by simp only[Ys,decide_eq_true_eq];exact Z98 a b) l
 refine Z53 ⟨?_,fun t ht=>?_,fun t ht u hu e=>?_⟩ (hp.map _) (YS.mpr (h2.imp_of_mem fun {a b} ha hb h=>?_))
 ·rw[Dj,U8]
  intro x _
  rfl
 ·obtain⟨w,hw,rfl⟩:=Zu.mp ht
  exact⟨_,Bg (hl w hw),rfl⟩
 ·obtain⟨w,hw,rfl⟩:=Zu.mp ht
  obtain⟨v,hv,rfl⟩:=Zu.mp hu
  rw[Bg (hl w hw),Bg (hl v hv)] at e
  injection e with e
  injection e with e
  injection e with _ e
  injection e with e _
 ·refine⟨_,_,Bg (hl a (hp.mem_iff.mp ha)),Bg (hl b (hp.mem_iff.mp hb)),.is ?_⟩
  rcases of_decide_eq_true h with q|⟨q,z⟩
  ·exact .inl (by lia)
  ·exact .inr ⟨by lia,z⟩
theorem Z0q(hR:RR R):∀ (r:List W) (x1:Option Dv),(∀ u∈r,u∈Z0B) ->
  (∃ u∈r,1<(CO R u).length/\Qe (De 1) (fIf (Je (f2 oGt (fCB NE (Z6 (J8 JN (Z6 (ZV 0) (Z6 (ZV 1) J7))) J7)) (fC (.int 1)))) (GR (Za 1)) UE) (r.map tS) [some (Dv.th (RT R)),x1]=some (.rt (tS u)))
 \/((∀ u∈r,¬ 1<(CO R u).length)/\∃ y1,Qe (De 1) (fIf (Je (f2 oGt (fCB NE (Z6 (J8 JN (Z6 (ZV 0) (Z6 (ZV 1) J7))) J7)) (fC (.int 1)))) (GR (Za 1)) UE) (r.map tS) [some (Dv.th (RT R)),x1]=some (.nx [some (Dv.th (RT R)),y1]))
 |[],x1,_=>.inr ⟨(fun u h=>nomatch h),x1,rfl⟩
 |u::r,x1,hr=>by
  have ee:=Zdf hR (hr u Z1)
  have ih:=Z0q hR r (some (Dv.th (tS u))) fun v hv=>hr v (Z2 _ hv)
  have g:De 1 (tS u) [some (Dv.th (RT R)),x1]=some [some (Dv.th (RT R)),some (Dv.th (tS u))]:=rfl
  have l1:NE [.tup ((CO R u).map Th.str)]=some (.int ((CO R u).length:Int)):=by rw[Z1e,Z5]
  have x:(fIf (Je (f2 oGt (fCB NE (Z6 (J8 JN (Z6 (ZV 0) (Z6 (ZV 1) J7))) J7)) (fC (.int 1)))) (GR (Za 1)) UE:FS) [some (Dv.th (RT R)),some (Dv.th (tS u))] =
    if 1<(CO R u).length then some (.rt (tS u)) else some (.nx [some (Dv.th (RT R)),some (Dv.th (tS u))]):=by
   simp only[fIf,Je,f2,fCB,J8,Z6,J7,ZV,Za,fC,gs_,gz_,ob_,ee,l1,gt_int]
   by_cases h:1<(CO R u).length
   ·have:((1:Int)<((CO R u).length:Int)):=by lia
    rw[decide_eq_true this,if_pos h,if_pos rfl]
    rfl
   ·have:¬ ((1:Int)<((CO R u).length:Int)):=by lia
    rw[decide_eq_false this,if_neg h,if_neg (by simp)]
    rfl
  rw[Zw]
  unfold Qe
  rw[g,ob_,x]
  by_cases h:1<(CO R u).length
  ·rw[if_pos h]
   exact .inl ⟨u,Z1,h,rfl⟩
  ·rw[if_neg h]
   rcases ih with ⟨v,hv,h1,h2⟩|⟨h1,y1,h2⟩
   ·exact .inl ⟨v,Z2 _ hv,h1,h2⟩
   ·refine .inr ⟨fun v hv=>?_,y1,h2⟩
    rcases Zc.mp hv with rfl|hv
    ·exact h
    ·exact h1 v hv
theorem Zch(hR:RR R):∃ o:Option W,Mq [RT R]=some (foT o)/\(∀ u,o=some u->ClW R u/\1<(CO R u).length)/\(o=none->∀ u,ClW R u->¬ 1<(CO R u).length):=by
 have ce:=Z0u hR
 have ca:∀ u∈WW R,u∈Z0B:=fun u hu=>Z4y hR (Dc.mp hu)
 obtain⟨r,rp,sk⟩:=ZaE (l:=WW R) fun u hu=>by
  have:=(Ge.mp (ca u hu)).1
  lia
 have it:YR (GA (Z0m YI (Z6 (J8 UW (Z6 (ZV 0) J7)) J7))) [some (Dv.th (RT R)),none]=some (r.map tS):=by
  simp only[YR,GA,Z0m,Z6,J7,J8,ZV,gz_,ob_,ce,sk,Z8]
  rfl
 rcases Z0q hR r none fun u hu=>ca u (rp.mem_iff.mp hu) with ⟨u,hu,h1,h2⟩|⟨h1,y1,h2⟩
 ·refine⟨some u,?_,fun v e=>?_,fun e=>by cases e⟩
  ·unfold Mq Z4D
   refine YW rfl ?_
   show UH _ _ [some (Dv.th (RT R)),none]=_
   unfold UH
   rw[Nk it,h2]
   rfl
  ·cases e
   exact⟨Dc.mp (rp.mem_iff.mp hu),h1⟩
 ·refine⟨none,?_,(fun v e=>by cases e),fun _ u hu=>h1 u (rp.mem_iff.mpr (Dc.mpr hu))⟩
  unfold Mq Z4D
  refine YW rfl ?_
  refine (Jg (d':=[some (Dv.th (RT R)),y1]) ?_).trans rfl
  show Fm _ _ _ [some (Dv.th (RT R)),none]=_
  rw[Nk it,h2]
theorem ZdA(h:Mq [RT R]=some (foT o)):NW [RT R]=some (.bl o.isNone):=by
 unfold NW Z0A
 refine YW rfl ?_
 show GR _ [some (Dv.th (RT R))]=_
 simp only[GR,f2,J8,Z6,J7,ZV,fC,gz_,ob_,h]
 cases o <;> rfl
theorem ZiA(hR:RR R):∀ w y,y∈nxW R w↔StW R w y:=fun w y=>Z0i.trans (DD hR.ne)
noncomputable def kvB (ks:Ls_):List (Str×Th):=ks.map fun s=>(s,Th.bl true)
noncomputable def DT (ks:Ls_)(x:Str):Ls_:=if x∈ks then ks else ks++[x]
theorem Zf7 (ks:Ls_)(x:Str):((kvB ks).any fun p=>decide (p.1=x))=decide (x∈ks):=by
 unfold kvB
 rw[ZhU,MZ,Z01,decide_eq_true_eq]
 constructor
 ·rintro⟨y,hy,e⟩
  have e:y=x:=of_decide_eq_true e
  rw[<- e];exact hy
 ·intro h
  exact⟨x,h,decide_eq_true rfl⟩
theorem Z8a (ks:Ls_)(x:Str):ZaR (kvB ks) x (.bl true)=kvB (DT ks x):=by
 unfold ZaR DT
 rw[Zf7]
 by_cases h:x∈ks
 ·rw[decide_eq_true h,if_pos rfl,if_pos h]
  unfold kvB
  rw[J1]
  refine Jo fun s _=>?_
  simp only[Zcy]
  split <;> rfl
 ·rw[decide_eq_false h,if_neg (by simp),if_neg h]
  unfold kvB
  rw[YZ]
  rfl
theorem Z43:s∈DT ks x↔s∈ks\/s=x:=by
 unfold DT
 split
 ·rename_i h
  exact⟨.inl,fun z=>z.elim id fun e=>by rw[e];exact h⟩
 ·simp
theorem Z9W(h:ks.Nodup):(DT ks x).Nodup:=by
 unfold DT
 split
 ·exact h
 ·rename_i hx
  exact M2.mpr ⟨h,by simp,fun a ha b hb e=>by rw[ZS] at hb;subst hb;subst e;exact hx ha⟩
theorem Zf9 (ks:Ls_)(x:Str):(DT ks x).length<=ks.length+1:=by
 unfold DT
 split
 ·exact Ym _
 ·simp
noncomputable def opW (l m:W)(k n p:Nat):Bool:=(decide (k≠n)||decide (0<p))&&l.isPrefixOf (ovW l m p)
noncomputable abbrev bP:FS:=UH (Yy 7 (fSl (Za 4) (Ul (ZV 6)) JY))
 (fIf (Z2U (Z9w (Je (f2 oNe (Za 2) (Za 3))) (Je (f2 oGt (Za 6) (fC (.int 0))))) (Z9w (Je (fM1 (fun z y=>some (.bl (Jn z y))) (Za 7) (Za 5))) (Je (fM1 (fun z y=>some (.bl (Jn z y))) (Za 5) (Za 7))))) (fIf (Je (f2 oGt (fCB NE (Z6 (Za 5) J7)) (fCB NE (Z6 (Za 7) J7)))) (Z1m 1 (f2 YB (fSl (Za 4) JY (Ul (ZV 6))) (Za 5)) (fC (.bl true))) (Z1m 1 (Za 4) (fC (.bl true)))) UE)
theorem ZgA {t0 x7:Option Dv}{ks:Ls_}{l m:W}{k n p:Nat}(hp:p<l.length)(hl:l.length<=1000)(hm:m.length<=1000)(hk:ks.length<1000000) :
  bP [t0,some (.dct false (kvB ks)),some (.th (.int (k:Int))),some (.th (.int (n:Int))),some (.th (tS l)),some (.th (tS m)),some (.th (.int (p:Int))),x7] =
   some (.nx [t0,some (.dct false (kvB (if opW l m k n p=true then DT ks (sL (ovW l m p)) else ks))),some (.th (.int (k:Int))),some (.th (.int (n:Int))),some (.th (tS l)),some (.th (tS m)),some (.th (.int (p:Int))),some (.th (tS (l.drop p)))]):=by
 have s1:=DP l p (by lia)
 have s2:=FI l p (by lia)
 refine (Jg (d':=[t0,some (.dct false (kvB ks)),some (.th (.int (k:Int))),some (.th (.int (n:Int))),some (.th (tS l)),some (.th (tS m)),some (.th (.int (p:Int))),some (.th (tS (l.drop p)))]) ?_).trans ?_
 ·simp only[Yy,fSl,Ul,JY,ZV,Za,gs_,gz_,ob_,Z8,s1,Zb,Z9]
 have c:Z2U (Z9w (Je (f2 oNe (Za 2) (Za 3))) (Je (f2 oGt (Za 6) (fC (.int 0))))) (Z9w (Je (fM1 (fun z y=>some (.bl (Jn z y))) (Za 7) (Za 5))) (Je (fM1 (fun z y=>some (.bl (Jn z y))) (Za 5) (Za 7))))
   [t0,some (.dct false (kvB ks)),some (.th (.int (k:Int))),some (.th (.int (n:Int))),some (.th (tS l)),some (.th (tS m)),some (.th (.int (p:Int))),some (.th (tS (l.drop p)))]=some (opW l m k n p):=by
  have e1:=Dt (l.drop p) m
  have e2:=Dt m (l.drop p)
  have e3:(!((k:Int) == (n:Int)))=decide (k≠n):=by
   by_cases h:k=n
   ·subst h;simp
   ·have:((k:Int) == (n:Int))=false:=beq_eq_false_iff_ne.mpr fun z=>h (by lia)
    rw[this,decide_eq_true h];rfl
  have e4:decide ((0:Int)<(p:Int))=decide (0<p):=by
   by_cases h:0<p
   ·rw[decide_eq_true h,decide_eq_true (by lia)]
   ·rw[decide_eq_false h,decide_eq_false (by lia)]
  unfold opW
  rw[ZgB (by exact YA ‹_›)]
  simp only[Z2U,Z9w,Je,fM1,f2,Za,fC,tS,gs_,gz_,ob_,ne_int,gt_int,e1,e2,e3,e4]
  cases decide (k≠n) <;> cases decide (0<p) <;> cases m.isPrefixOf (l.drop p) <;> cases (l.drop p).isPrefixOf m <;> rfl
 unfold fIf
 rw[c,ob_]
 by_cases ho:opW l m k n p=true
 ·rw[if_pos ho,if_pos ho]
  have hpre:l.isPrefixOf (ovW l m p)=true:=by
   unfold opW at ho
   exact (ZP _ _ ▸ ho:_/\_).2
  have ow:=Zer (by lia) hpre
  have l1:=BV (a:=m) (by lia)
  have l2:=BV (a:=l.drop p) (by rw[ZI];lia)
  have fl:Zc3 (.bl true)=true/\(kvB ks).length<1000000:=⟨rfl,by unfold kvB;rw[Z5];exact hk⟩
  simp only[Je,f2,fCB,Z6,J7,Za,gs_,gz_,ob_,l1,l2,gt_int]
  by_cases q:(l.drop p).length<m.length
  ·rw[if_pos q] at ow
   have p1:=D6 (a:=l.take p) (b:=m) (by rw[Zx];lia)
   rw[decide_eq_true (by lia),if_pos rfl,ow]
   simp only[Z1m,f2,fSl,Ul,JY,ZV,Za,fC,gs_,gz_,ob_,s2,p1]
   simp only[tS,if_pos fl,Z8a,Zb,Z9]
  ·rw[if_neg q] at ow
   rw[decide_eq_false (by lia),if_neg (by simp),ow]
   simp only[Z1m,Za,fC,tS,gs_,gz_,ob_,if_pos fl,Z8a,Zb,Z9]
 ·rw[if_neg ho,if_neg ho]
  rfl
theorem ZcV {t0:Option Dv}{l m:W}{k n:Nat}(hl:l.length<=1000)(hm:m.length<=1000):∀ (ps:List Nat) (ks:Ls_) (x6 x7:Option Dv),(∀ p∈ps,p<l.length)->ks.length+ps.length<=900000->ks.Nodup ->
  ∃ (ks':Ls_) (y:Option Dv×Option Dv),Qe (De 6) bP (ps.map fun (i:Nat)=>Th.int (i:Int)) [t0,some (.dct false (kvB ks)),some (.th (.int (k:Int))),some (.th (.int (n:Int))),some (.th (tS l)),some (.th (tS m)),x6,x7] =
   some (.nx [t0,some (.dct false (kvB ks')),some (.th (.int (k:Int))),some (.th (.int (n:Int))),some (.th (tS l)),some (.th (tS m)),y.1,y.2])/\ks'.Nodup/\ks'.length<=ks.length+ps.length/\∀ s,s∈ks'↔s∈ks\/∃ p∈ps,opW l m k n p=true/\s=sL (ovW l m p)
 |[],ks,x6,x7,_,_,nd=>⟨ks,(x6,x7),rfl,nd,by simp,fun s=>by simp⟩
 |p::ps,ks,x6,x7,hp,hz,nd=>by
  rw[Zf] at hz
  have st:=ZgA (t0:=t0) (x7:=x7) (ks:=ks) (k:=k) (n:=n) (hp p Z1) hl hm (by lia)
  have al:=Zf9 ks (sL (ovW l m p))
  have nl:(if opW l m k n p=true then DT ks (sL (ovW l m p)) else ks).length<=ks.length+1:=by split <;> lia
  obtain⟨ks',y,ih,i1,i2,i3⟩:=ZcV (t0:=t0) (k:=k) (n:=n) hl hm ps (if opW l m k n p=true then DT ks (sL (ovW l m p)) else ks) (some (.th (.int (p:Int)))) (some (.th (tS (l.drop p)))) (fun q hq=>hp q (Z2 _ hq)) (by lia) (by split;exact Z9W nd;exact nd)
  refine⟨ks',y,?_,i1,by rw[Zf];lia,fun s=>?_⟩
  ·rw[Zw]
   unfold Qe
   have g:De 6 (.int (p:Int)) [t0,some (.dct false (kvB ks)),some (.th (.int (k:Int))),some (.th (.int (n:Int))),some (.th (tS l)),some (.th (tS m)),x6,x7]=some [t0,some (.dct false (kvB ks)),some (.th (.int (k:Int))),some (.th (.int (n:Int))),some (.th (tS l)),some (.th (tS m)),some (.th (.int (p:Int))),x7]:=rfl
   rw[g,ob_,st]
   exact ih
  ·rw[i3]
   constructor
   ·rintro (h|⟨q,hq,h⟩)
    ·split at h
     ·rename_i ho
      rcases Z43.mp h with h|h
      ·exact .inl h
      ·exact .inr ⟨p,Z1,ho,h⟩
     ·exact .inl h
    ·exact .inr ⟨q,Z2 _ hq,h⟩
   ·rintro (h|⟨q,hq,ho,h⟩)
    ·left
     split
     ·exact Z43.mpr (.inl h)
     ·exact h
    ·rcases Zc.mp hq with rfl|hq
     ·left
      rw[if_pos ho]
      exact Z43.mpr (.inr h)
     ·exact .inr ⟨q,hq,ho,h⟩
noncomputable abbrev bN:FS:=UH (Yy 4 (f2 oIx (f2 oIx (Za 0) (Za 2)) (fC (.int 0)))) (UH (Yy 5 (f2 oIx (f2 oIx (Za 0) (Za 3)) (fC (.int 0)))) (Fm (YX (fCB NE (Z6 (Za 4) J7))) (De 6) bP))
theorem Zd5 {R:List Ru}(hR:∀ r∈R,r.1.length<=100){a:Ru}{k:Nat}(hk:R[k]?=some a):∀ (is:List Nat) (ks:Ls_) (x3 x4 x5 x6 x7:Option Dv),(∀ i∈is,i<R.length)->ks.length+is.length*100<=800000->ks.Nodup ->
  ∃ (ks':Ls_) (y:Option Dv×Option Dv×Option Dv×Option Dv×Option Dv),Qe (De 3) bN (is.map fun (i:Nat)=>Th.int (i:Int)) [some (.th (RT R)),some (.dct false (kvB ks)),some (.th (.int (k:Int))),x3,x4,x5,x6,x7] =
   some (.nx [some (.th (RT R)),some (.dct false (kvB ks')),some (.th (.int (k:Int))),y.1,y.2.1,y.2.2.1,y.2.2.2.1,y.2.2.2.2])/\ks'.Nodup/\ks'.length<=ks.length+is.length*100/\∀ s,s∈ks'↔s∈ks\/∃ n∈is,∃ b,R[n]?=some b/\∃ p,p<a.1.length/\opW a.1 b.1 k n p=true/\s=sL (ovW a.1 b.1 p)
 |[],ks,x3,x4,x5,x6,x7,_,_,nd=>⟨ks,(x3,x4,x5,x6,x7),rfl,nd,by simp,fun s=>by simp⟩
 |n::is,ks,x3,x4,x5,x6,x7,hi,hz,nd=>by
  rw[Zf] at hz
  have hn:=hi n Z1
  obtain⟨b,hb⟩:∃ b,R[n]?=some b:=⟨_,Zd hn⟩
  have la:=hR a (ZJ hk)
  have lb:=hR b (ZJ hb)
  obtain⟨k1,z,lp,j1,j2,j3⟩:=ZcV (t0:=some (.th (RT R))) (l:=a.1) (m:=b.1) (k:=k) (n:=n) (by lia) (by lia) (Ja a.1.length) ks x6 x7 (fun p hp=>Jv.mp hp) (by rw[JS];lia) nd
  rw[JS] at j2
  obtain⟨ks',y,ih,i1,i2,i3⟩:=Zd5 hR hk is k1 (some (.th (.int (n:Int)))) (some (.th (tS a.1))) (some (.th (tS b.1))) z.1 z.2 (fun q hq=>hi q (Z2 _ hq)) (by lia) j1
  refine⟨ks',y,?_,i1,by rw[Zf];lia,fun s=>?_⟩
  ·rw[Zw]
   unfold Qe
   have g:De 3 (.int (n:Int)) [some (.th (RT R)),some (.dct false (kvB ks)),some (.th (.int (k:Int))),x3,x4,x5,x6,x7]=some [some (.th (RT R)),some (.dct false (kvB ks)),some (.th (.int (k:Int))),some (.th (.int (n:Int))),x4,x5,x6,x7]:=rfl
   have ra:=FZ hk
   have rb:=FZ hb
   have a0:oIx (rTh a) (.int 0)=some (tS a.1):=rfl
   have b0:oIx (rTh b) (.int 0)=some (tS b.1):=rfl
   have st:bN [some (.th (RT R)),some (.dct false (kvB ks)),some (.th (.int (k:Int))),some (.th (.int (n:Int))),x4,x5,x6,x7]=some (.nx [some (.th (RT R)),some (.dct false (kvB k1)),some (.th (.int (k:Int))),some (.th (.int (n:Int))),some (.th (tS a.1)),some (.th (tS b.1)),z.1,z.2]):=by
    refine (Jg (d':=[some (.th (RT R)),some (.dct false (kvB ks)),some (.th (.int (k:Int))),some (.th (.int (n:Int))),some (.th (tS a.1)),x5,x6,x7]) ?_).trans ?_
    ·simp only[Yy,f2,Za,fC,gs_,gz_,ob_,Z8,ra,a0,Zb,Z9]
    refine (Jg (d':=[some (.th (RT R)),some (.dct false (kvB ks)),some (.th (.int (k:Int))),some (.th (.int (n:Int))),some (.th (tS a.1)),some (.th (tS b.1)),x6,x7]) ?_).trans ?_
    ·simp only[Yy,f2,Za,fC,gs_,gz_,ob_,Z8,rb,b0,Zb,Z9]
    have l1:=BV (a:=a.1) (by lia)
    have e:YX (fCB NE (Z6 (Za 4) J7)) [some (.th (RT R)),some (.dct false (kvB ks)),some (.th (.int (k:Int))),some (.th (.int (n:Int))),some (.th (tS a.1)),some (.th (tS b.1)),x6,x7]=some (L2.upTo a.1.length):=by
     simp only[YX,fCB,Z6,J7,Za,gs_,gz_,ob_,l1]
     rw[if_pos (by lia),JT]
    rw[Nk e,Z0M]
    exact lp
   rw[g,ob_,st]
   exact ih
  ·rw[i3,j3]
   constructor
   ·rintro ((h|⟨p,hp,h⟩)|⟨q,hq,h⟩)
    ·exact .inl h
    ·exact .inr ⟨n,Z1,b,hb,p,Jv.mp hp,h⟩
    ·exact .inr ⟨q,Z2 _ hq,h⟩
   ·rintro (h|⟨q,hq,b',hb',p,hp,h⟩)
    ·exact .inl (.inl h)
    ·rcases Zc.mp hq with rfl|hq
     ·rw[hb] at hb'
      cases hb'
      exact .inl (.inr ⟨p,Jv.mpr hp,h⟩)
     ·exact .inr ⟨q,hq,b',hb',p,hp,h⟩
theorem Zdc(hR:∀ r∈R,r.1.length<=100)(h8:R.length<=8):∀ (is:List Nat) (ks:Ls_) (x2 x3 x4 x5 x6 x7:Option Dv),(∀ i∈is,i<R.length)->ks.length+is.length*800<=700000->ks.Nodup ->
  ∃ (ks':Ls_) (y:Option Dv×Option Dv×Option Dv×Option Dv×Option Dv×Option Dv),Qe (De 2) (Fm (YX (fCB NE (Z6 (Za 0) J7))) (De 3) bN) (is.map fun (i:Nat)=>Th.int (i:Int)) [some (.th (RT R)),some (.dct false (kvB ks)),x2,x3,x4,x5,x6,x7] =
   some (.nx [some (.th (RT R)),some (.dct false (kvB ks')),y.1,y.2.1,y.2.2.1,y.2.2.2.1,y.2.2.2.2.1,y.2.2.2.2.2])/\ks'.Nodup/\ks'.length<=ks.length+is.length*800/\∀ s,s∈ks'↔s∈ks\/∃ k∈is,∃ a,R[k]?=some a/\∃ n b,R[n]?=some b/\∃ p,p<a.1.length/\opW a.1 b.1 k n p=true/\s=sL (ovW a.1 b.1 p)
 |[],ks,x2,x3,x4,x5,x6,x7,_,_,nd=>⟨ks,(x2,x3,x4,x5,x6,x7),rfl,nd,by simp,fun s=>by simp⟩
 |k::is,ks,x2,x3,x4,x5,x6,x7,hi,hz,nd=>by
  rw[Zf] at hz
  have hk:=hi k Z1
  obtain⟨a,ha⟩:∃ a,R[k]?=some a:=⟨_,Zd hk⟩
  obtain⟨k1,z,lp,j1,j2,j3⟩:=Zd5 hR ha (Ja R.length) ks x3 x4 x5 x6 x7 (fun p hp=>Jv.mp hp) (by rw[JS];lia) nd
  rw[JS] at j2
  obtain⟨ks',y,ih,i1,i2,i3⟩:=Zdc hR h8 is k1 (some (.th (.int (k:Int)))) z.1 z.2.1 z.2.2.1 z.2.2.2.1 z.2.2.2.2 (fun q hq=>hi q (Z2 _ hq)) (by lia) j1
  refine⟨ks',y,?_,i1,by rw[Zf];lia,fun s=>?_⟩
  ·rw[Zw]
   unfold Qe
   have g:De 2 (.int (k:Int)) [some (.th (RT R)),some (.dct false (kvB ks)),x2,x3,x4,x5,x6,x7]=some [some (.th (RT R)),some (.dct false (kvB ks)),some (.th (.int (k:Int))),x3,x4,x5,x6,x7]:=rfl
   have e:YX (fCB NE (Z6 (Za 0) J7)) [some (.th (RT R)),some (.dct false (kvB ks)),some (.th (.int (k:Int))),x3,x4,x5,x6,x7]=some (L2.upTo R.length):=by
    have l1:NE [RT R]=some (.int (R.length:Int)):=by unfold RT;rw[Z1e,Z5]
    simp only[YX,fCB,Z6,J7,Za,gz_,ob_,l1]
    rw[if_pos (by omega),JT]
   rw[g,ob_,Nk e,Z0M,lp]
   exact ih
  ·rw[i3,j3]
   constructor
   ·rintro ((h|⟨n,-,b,hb,h⟩)|⟨q,hq,h⟩)
    ·exact .inl h
    ·exact .inr ⟨k,Z1,a,ha,n,b,hb,h⟩
    ·exact .inr ⟨q,Z2 _ hq,h⟩
   ·rintro (h|⟨q,hq,a',ha',n,b,hb,h⟩)
    ·exact .inl (.inl h)
    ·rcases Zc.mp hq with rfl|hq
     ·rw[ha] at ha'
      cases ha'
      exact .inl (.inr ⟨n,Jv.mpr (Ji.mp hb).1,b,hb,h⟩)
     ·exact .inr ⟨q,hq,a',ha',n,b,hb,h⟩
theorem Z2y(hR:RR R):Ng [RT R]=some (.tup ((WW R).map tS)):=by
 have few:=hR.few
 have hl:∀ r∈R,r.1.length<=100:=fun r hr=>ZF (hR.l6 r hr) (by decide)
 obtain⟨ks,y,lp,j1,j2,j3⟩:=Zdc hl few (Ja R.length) [] none none none none none none (fun p hp=>Jv.mp hp) (by rw[JS];simp;lia) YU
 have hm:∀ s,s∈ks↔s∈Sg.metS ((Mv R 0 R).map sL):=fun s=>by
  rw[j3,Sg.mem_metS,Zu]
  constructor
  ·rintro (h|⟨k,-,a,ha,n,b,hb,p,hp,ho,rfl⟩)
   ·cases h
   ·unfold opW at ho
    rw[ZP] at ho
    refine⟨_,Z8Y.mpr ⟨k,n,a,b,p,ha,hb,fun e=>?_,hp,rfl,Jf.mp ho.2⟩,rfl⟩
    have:=ho.1
    rw[decide_eq_false (by simpa using e),Zhy,decide_eq_true_eq] at this
    exact this
  ·rintro⟨u,hu,rfl⟩
   refine W_ fun n9=>?_;obtain⟨k,n,a,b,p,ha,hb,h,hp,rfl,hpre⟩:=Z8Y.mp hu;apply n9;clear n9
   refine .inr ⟨k,Jv.mpr (Ji.mp ha).1,a,ha,n,b,hb,p,hp,?_,rfl⟩
   unfold opW
   rw[ZP]
   refine⟨?_,Jf.mpr hpre⟩
   by_cases e:k=n
   ·rw[Ys];exact .inr (decide_eq_true (h e))
   ·rw[Ys];exact .inl (decide_eq_true e)
 have hs:Ma ks=Ma (Sg.metS ((Mv R 0 R).map sL)):=Z3H (Mr j1 (Sg.metS_nodup _) hm)
 unfold Ng CA
 refine YW rfl ?_
 refine (Jg (d':=[some (.th (RT R)),some (.dct false (kvB [])),none,none,none,none,none,none]) rfl).trans ?_
 refine (Jg (d':=[some (.th (RT R)),some (.dct false (kvB ks)),y.1,y.2.1,y.2.2.1,y.2.2.2.1,y.2.2.2.2.1,y.2.2.2.2.2]) ?_).trans ?_
 ·have e:YX (fCB NE (Z6 (Za 0) J7)) [some (.th (RT R)),some (.dct false (kvB [])),none,none,none,none,none,none]=some (L2.upTo R.length):=by
   have l1:NE [RT R]=some (.int (R.length:Int)):=by unfold RT;rw[Z1e,Z5]
   simp only[YX,fCB,Z6,J7,Za,gz_,ob_,l1]
   rw[if_pos (by lia),JT]
  rw[Nk e,Z0M]
  exact lp
 ·have kb:(kvB ks).map (·.1)=ks:=by
   unfold kvB
   rw[J1]
   exact By _
  simp only[GR,fCB,Z6,J7,GA,Z2S,gs_,gz_,ob_,Z8,kb,hs,Nh,Z9H]
theorem ZgV (l:List (Nat×Nat)):oNe (.lst (l.map NO)) (.lst [])=some (.bl (!l.isEmpty)):=by
 cases l with
 |nil=>rfl
 |cons x l =>
  unfold oNe
  have hd:∀ l:List (Nat×Nat),dpL (l.map NO)<=1:=fun l=>by
   induction l with
   |nil=>exact Jh _
   |cons y l ih =>
    rw[Zw,dpL]
    have:dp (NO y)=1:=rfl
    lia
  have h1:dp (.lst ((x::l).map NO))<=100:=by
   show dpL ((x::l).map NO)+1<=100
   have:=hd (x::l)
   lia
  rw[if_pos (decide_eq_true h1)]
  rfl
theorem ix0 (t:Th)(ts:Lt_):oIx (.lst (t::ts)) (.int 0)=some t:=by
 simp only[oIx]
 rw[FJ (by decide) (by rw[Zf];simp)]
 rfl
noncomputable abbrev bZ:FS:=UH (Yy 2 (J8 YL (Z6 (ZV 0) (Z6 (ZV 2) (Z6 (f2 oIx (f2 oIx (Za 3) (fC (.int 0))) (fC (.int 0))) (Z6 (f2 oIx (f2 oIx (Za 3) (fC (.int 0))) (fC (.int 1))) J7)))))) (Yy 3 (J8 Uu (Z6 (ZV 0) (Z6 (ZV 2) J7))))
theorem Z94(hR:RR R)(d:Z3B R w y):w∈Z0B ->
  ∃ n,Gj (Je (f2 oNe (Za 3) (fC (.lst [])))) bZ n [some (.th (RT R)),t1,some (.th (tS w)),some (.th (.lst ((JE R w).map NO)))]=some (.nx [some (.th (RT R)),t1,some (.th (tS y)),some (.th (.lst []))]):=by
 induction d with
 |@stop w h =>
  intro _
  have e:JE R w=[]:=Z0k hR.ne h
  rw[e]
  exact⟨1,Z4S rfl⟩
 |@go w y z h _ ih =>
  intro hw
  have hy:=WU hR w hw y (DI hR h)
  obtain⟨n,e⟩:=ih hy
  have w11:=(Ge.mp hw).1
  have y11:=(Ge.mp hy).1
  have pe:=Dd (R:=R) (w:=y) hR.small.few (by lia)
  cases hp:JE R w with
  |nil =>
   unfold NX at h
   rw[hp] at h
   cases h
  |cons x l =>
   obtain⟨r,hr,-⟩:=(UO hR.ne).mp (show x∈JE R w by rw[hp];exact Z1)
   have hy2:y=chW r w x.1:=by
    unfold NX at h
    rw[hp] at h
    simp only[Zfh,ob_,hr,Z8,Jj] at h
    exact h.symm
   have ok:=hR.ok r (ZJ hr)
   have ce:=BX (r:=r) (p:=x.1) (w:=w) hr (by lia) (by have:r.1.length<=6:=ok.l6;lia) (by have:=hR.small.ok r (ZJ hr);lia)
   rw[<- hy2] at ce
   have i0:oIx (.lst ((x::l).map NO)) (.int 0)=some (NO x):=ix0 _ _
   have j0:oIx (NO x) (.int 0)=some (.int (x.1:Int)):=rfl
   have j1:oIx (NO x) (.int 1)=some (.int (x.2:Int)):=rfl
   refine⟨n+1,Z4T ?_ ?_ e⟩
   ·have q:=ZgV (x::l)
    simp only[Je,f2,Za,fC,gs_,gz_,ob_,q]
    rfl
   ·refine (Jg (d':=[some (.th (RT R)),t1,some (.th (tS y)),some (.th (.lst ((x::l).map NO)))]) ?_).trans ?_
    ·simp only[Yy,J8,Z6,J7,ZV,Za,f2,fC,gs_,gz_,ob_,Z8,i0,j0,j1,ce,Zb,Z9]
    ·simp only[Yy,J8,Z6,J7,ZV,gs_,gz_,ob_,Z8,pe,Zb,Z9]
theorem ZbU(hR:RR R)(hw:w∈Z0B):NV [RT R,tS w]=some (tS (MH R w)):=by
 obtain⟨y,d⟩:=Z1p hR _ w hw rfl
 rw[Z4u d]
 obtain⟨n,e⟩:=Z94 hR (t1:=some (.th (tS w))) d hw
 have pe:=Dd (R:=R) (w:=w) hR.small.few (by have:=(Ge.mp hw).1;lia)
 unfold NV Z9Q
 refine YW rfl ?_
 refine (Jg (d':=[some (.th (RT R)),some (.th (tS w)),some (.th (tS w)),none]) rfl).trans ?_
 refine (Jg (d':=[some (.th (RT R)),some (.th (tS w)),some (.th (tS w)),some (.th (.lst ((JE R w).map NO)))]) ?_).trans ?_
 ·simp only[Yy,J8,Z6,J7,ZV,gs_,gz_,ob_,Z8,pe,Zb,Z9]
 refine (Jg (Ci e)).trans ?_
 rfl
theorem Zd8 (x y:Str):cmT false (.tup [.int x.length,.str x]) (.tup [.int y.length,.str y])=some (Ni x y):=by
 have h:=Z8N x y
 have e:(cmT false (.tup [.int x.length,.str x]) (.tup [.int y.length,.str y])).map Th.bl=oLt (.tup [.int x.length,.str x]) (.tup [.int y.length,.str y]):=by
  rfl
 rw[h] at e
 cases hl:cmT false (.tup [.int x.length,.str x]) (.tup [.int y.length,.str y]) with
 |none=>rw[hl] at e;cases e
 |some b =>
  rw[hl] at e
  cases e
  rfl
theorem Zhe (x y:Str):cmT true (.tup [.int x.length,.str x]) (.tup [.int y.length,.str y])=some (Ni y x):=by
 rw[<- Zd8 y x]
 rfl
noncomputable def loW (m:W):List W->W
 |[]=>m
 |x::l=>if Ni (sL x) (sL m)=true then loW x l else loW m l
noncomputable def hiW (m:W):List W->W
 |[]=>m
 |x::l=>if Ni (sL m) (sL x)=true then hiW x l else hiW m l
theorem rk (w:W)(h:w.length<=1000000):YI [tS w]=some (.tup [.int ((sL w).length:Int),.str (sL w)]):=Bg h
theorem Z4B:∀ (l:List W) (m:W),(∀ w∈m::l,w.length<=1000000)->Bt (cmT false) YI (tS m) (.tup [.int ((sL m).length:Int),.str (sL m)]) (l.map tS)=some (tS (loW m l))
 |[],m,_=>rfl
 |x::l,m,h=>by
  have hx:=h x (Z2 _ Z1)
  rw[Zw]
  unfold Bt loW
  rw[rk x hx,ob_,Zd8,ob_]
  cases hl:Ni (sL x) (sL m) with
  |true =>
   rw[if_pos rfl,if_pos rfl]
   exact Z4B l x fun w hw=>h w (Z2 _ hw)
  |false =>
   rw[if_neg (by simp),if_neg (by simp)]
   exact Z4B l m fun w hw=>h w (by
    rcases Zc.mp hw with q|q
    ·rw[q];exact Z1
    ·exact Z2 _ (Z2 _ q))
theorem Z4C:∀ (l:List W) (m:W),(∀ w∈m::l,w.length<=1000000)->Bt (cmT true) YI (tS m) (.tup [.int ((sL m).length:Int),.str (sL m)]) (l.map tS)=some (tS (hiW m l))
 |[],m,_=>rfl
 |x::l,m,h=>by
  have hx:=h x (Z2 _ Z1)
  rw[Zw]
  unfold Bt hiW
  rw[rk x hx,ob_,Zhe,ob_]
  cases hl:Ni (sL m) (sL x) with
  |true =>
   rw[if_pos rfl,if_pos rfl]
   exact Z4C l x fun w hw=>h w (Z2 _ hw)
  |false =>
   rw[if_neg (by simp),if_neg (by simp)]
   exact Z4C l m fun w hw=>h w (by
    rcases Zc.mp hw with q|q
    ·rw[q];exact Z1
    ·exact Z2 _ (Z2 _ q))
theorem C9(h:ltW a b)(h':ltW b c):ltW a c:=by
 unfold ltW at *
 rcases h with h|⟨h,q⟩
 ·rcases h' with h'|⟨h',q'⟩
  ·exact .inl (by lia)
  ·exact .inl (by lia)
 ·rcases h' with h'|⟨h',q'⟩
  ·exact .inl (by lia)
  ·exact .inr ⟨by lia,List.lt_trans q q'⟩
theorem Z5w (a b:W):ltW a b\/a=b\/ltW b a:=by
 unfold ltW
 rcases GO a.length b.length with h|h|h
 ·exact .inl (.inl h)
 ·by_cases e:a=b
  ·exact .inr (.inl e)
  ·by_cases q:a<b
   ·exact .inl (.inr ⟨h,q⟩)
   ·refine .inr (.inr (.inr ⟨h.symm,?_⟩))
    by_cases q2:b<a
    ·exact q2
    ·exact absurd (CY (Nn.mp q2) (Nn.mp q)) e
 ·exact .inr (.inr (.inl h))
theorem Z8Z (a:W):¬ ltW a a:=by
 unfold ltW
 rintro (h|⟨-,h⟩)
 ·exact YF _ h
 ·exact QJ _ h
theorem BR(h:¬ ltW a b)(h':¬ ltW b c):¬ ltW a c:=fun z=>by
 rcases Z5w b c with q|q|q
 ·exact h' q
 ·rw[q] at h;exact h z
 ·exact h (C9 z q)
theorem Bo:∀ (l:List W) (m:W),loW m l∈m::l/\∀ x∈m::l,¬ ltW x (loW m l)
 |[],m=>⟨Z1,fun x hx=>by
  rw[ZS] at hx
  rw[hx];exact Z8Z _⟩
 |x::l,m=>by
  unfold loW
  by_cases hl:Ni (sL x) (sL m)=true
  ·rw[if_pos hl]
   obtain⟨h1,h2⟩:=Bo l x
   refine⟨Z2 _ h1,fun y hy=>?_⟩
   rcases Zc.mp hy with q|q
   ·rw[q]
    exact fun z=>h2 x Z1 (C9 ((DE x m).mp hl) z)
   ·exact h2 y q
  ·rw[if_neg hl]
   obtain⟨h1,h2⟩:=Bo l m
   refine⟨?_,fun y hy=>?_⟩
   ·rcases Zc.mp h1 with q|q
    ·rw[q];exact Z1
    ·exact Z2 _ (Z2 _ q)
   ·rcases Zc.mp hy with q|q
    ·rw[q];exact h2 m Z1
    ·rcases Zc.mp q with q|q
     ·rw[q]
      exact BR (fun z=>hl ((DE x m).mpr z)) (h2 m Z1)
     ·exact h2 y (Z2 _ q)
theorem Bq:∀ (l:List W) (m:W),hiW m l∈m::l/\∀ x∈m::l,¬ ltW (hiW m l) x
 |[],m=>⟨Z1,fun x hx=>by
  rw[ZS] at hx
  rw[hx];exact Z8Z _⟩
 |x::l,m=>by
  unfold hiW
  by_cases hl:Ni (sL m) (sL x)=true
  ·rw[if_pos hl]
   obtain⟨h1,h2⟩:=Bq l x
   refine⟨Z2 _ h1,fun y hy=>?_⟩
   rcases Zc.mp hy with q|q
   ·rw[q]
    exact fun z=>h2 x Z1 (C9 z ((DE m x).mp hl))
   ·exact h2 y q
  ·rw[if_neg hl]
   obtain⟨h1,h2⟩:=Bq l m
   refine⟨?_,fun y hy=>?_⟩
   ·rcases Zc.mp h1 with q|q
    ·rw[q];exact Z1
    ·exact Z2 _ (Z2 _ q)
   ·rcases Zc.mp hy with q|q
    ·rw[q];exact h2 m Z1
    ·rcases Zc.mp q with q|q
     ·rw[q]
      exact BR (h2 m Z1) (fun z=>hl ((DE m x).mpr z))
     ·exact h2 y (Z2 _ q)
theorem Z91(h:∀ x,x∈a::l↔x∈b::m):loW a l=loW b m:=by
 obtain⟨h1,h2⟩:=Bo l a
 obtain⟨g1,g2⟩:=Bo m b
 rcases Z5w (loW a l) (loW b m) with q|q|q
 ·exact absurd q (g2 _ ((h _).mp h1))
 ·exact q
 ·exact absurd q (h2 _ ((h _).mpr g1))
theorem Z9o(h:∀ x,x∈a::l↔x∈b::m):hiW a l=hiW b m:=by
 obtain⟨h1,h2⟩:=Bq l a
 obtain⟨g1,g2⟩:=Bq m b
 rcases Z5w (hiW a l) (hiW b m) with q|q|q
 ·exact absurd q (h2 _ ((h _).mpr g1))
 ·exact q
 ·exact absurd q (g2 _ ((h _).mp h1))
theorem ZiG:loW a l=hiW a l↔∀ x∈a::l,∀ y∈a::l,x=y:=by
 obtain⟨h1,h2⟩:=Bo l a
 obtain⟨g1,g2⟩:=Bq l a
 constructor
 ·intro e
  have key:∀ x∈a::l,x=loW a l:=fun x hx=>by
   rcases Z5w x (loW a l) with q|q|q
   ·exact absurd q (h2 x hx)
   ·exact q
   ·rw[e] at q;exact absurd q (g2 x hx)
  exact fun x hx y hy=>(key x hx).trans (key y hy).symm
 ·exact fun h=>h _ h1 _ g1
theorem Z5X:∀ {ts:Lt_},(∀ t∈ts,ft (some (.th t)::d)=some (q t))->(∀ t∈ts,q t=true->fe (some (.th t)::d)=some (p t))->N0 g1 ft fe d ts=some ((ts.filter q).map p)
 |[],_,_=>rfl
 |t::r,h,h'=>by
  have ih:=Z5X (ft:=ft) (fe:=fe) (d:=d) (q:=q) (p:=p) (ts:=r) (fun x hx=>h x (Z2 _ hx)) fun x hx=>h' x (Z2 _ hx)
  have e1:=h t Z1
  have e2:=h' t Z1
  simp only[N0,g1,ob_,ZO,ZW,e1,ih,Na]
  cases hq:q t with
  |false=>simp
  |true =>
   rw[if_pos rfl,e2 hq]
   simp
def leQ (p q:Str×Str):Prop:=(leS p.1 q.1/\p.1≠q.1)\/(p.1=q.1/\leS p.2 q.2)
theorem Z9a (p q:Str×Str):leQ p q\/leQ q p:=by
 unfold leQ
 by_cases e:p.1=q.1
 ·rcases DG p.2 q.2 with h|h
  ·exact .inl (.inr ⟨e,h⟩)
  ·exact .inr (.inr ⟨e.symm,h⟩)
 ·rcases DG p.1 q.1 with h|h
  ·exact .inl (.inl ⟨h,e⟩)
  ·exact .inr (.inl ⟨h,fun z=>e z.symm⟩)
theorem Z99(h:leQ a b)(h':leQ b c):leQ a c:=by
 unfold leQ at *
 rcases h with ⟨h,n⟩|⟨e,h⟩
 ·rcases h' with ⟨h',n'⟩|⟨e',h'⟩
  ·exact .inl ⟨DF h h',fun z=>n (WF h (by rw[z];exact h'))⟩
  ·exact .inl ⟨by rw[<- e'];exact h,by rw[<- e'];exact n⟩
 ·rcases h' with ⟨h',n'⟩|⟨e',h'⟩
  ·exact .inl ⟨by rw[e];exact h',by rw[e];exact n'⟩
  ·exact .inr ⟨e.trans e',DF h h'⟩
open Classical in
theorem Z0R (l:List (Str×Str)):∃ r:List (Str×Str),r.Perm l/\W8 (l.map prT)=r.map prT:=by
 refine⟨l.mergeSort fun a b=>decide (leQ a b),No _ _,?_⟩
 have hp:=No l (fun a b=>decide (leQ a b))
 have h2:=Wj (le:=fun a b=>decide (leQ a b)) (fun a b c h h'=>by simp only[decide_eq_true_eq] at *;exact Z99 h h') (fun a b=>by simp only[Ys,decide_eq_true_eq];exact Z9a a b) l
 exact Dx (hp.map _) (YS.mpr (h2.imp fun {a b} h=>.ss (show leQ a b from of_decide_eq_true (p:=leQ a b) (inst:=Classical.propDecidable _) h)))
noncomputable def M8 (R:List Ru)(u:W):List W:=(CO R u).map fun s=>s.cps.toList
theorem Zcb (R:List Ru)(u:W):(CO R u).map Th.str=(M8 R u).map tS:=by
 unfold M8
 rw[J1]
 refine Jo fun s _=>?_
 show Th.str s=tS s.cps.toList
 unfold tS
 rw[Z3I]
theorem Z5u:x∈M8 R u↔∃ y∈nxW R u,MH R y=x:=by
 unfold M8 CO
 rw[Zu]
 constructor
 ·rintro⟨s,hs,rfl⟩
  rw[(NM _).1.mem_iff,Sg.mem_metS,Zu] at hs
  obtain⟨z,hz,rfl⟩:=hs
  obtain⟨y,hy,rfl⟩:=Zu.mp hz
  exact⟨y,hy,rfl⟩
 ·rintro⟨y,hy,rfl⟩
  refine⟨sL (MH R y),?_,rfl⟩
  rw[(NM _).1.mem_iff,Sg.mem_metS,Zu]
  exact⟨_,Zu.mpr ⟨y,hy,rfl⟩,rfl⟩
theorem Zcc (R:List Ru)(u:W):(M8 R u).length=(CO R u).length:=by unfold M8;rw[Z5]
noncomputable def CM:List W->Str×Str
 |[]=>(sL [],sL [])
 |a::l=>(sL (hiW a l),sL (loW a l))
noncomputable def Bn (R:List Ru)(u:W):Bool:=decide (1<(CO R u).length)
noncomputable def Qg (R:List Ru):List (Str×Str):=((WW R).filter (Bn R)).map fun u=>CM (M8 R u)
theorem Z4x(hR:RR R):(WW R).length<=384:=by
 unfold WW
 rw[Z5,(NM _).1.length_eq]
 refine ZF (Sg.metS_len _) ?_
 rw[Z5]
 exact Z33 hR
theorem Zcd(hR:RR R)(hu:u∈Z0B):∀ x∈M8 R u,x∈Z0B:=fun x hx=>by
 obtain⟨y,hy,rfl⟩:=Z5u.mp hx
 have ya:=WU hR u hu y hy
 exact (Z0p hR ya).1.mem (WU hR) ya
theorem ZfG(hl:∀ w∈l,w∈Z0B)(hn:l≠[]):mmK true YI [.tup (l.map tS)]=some (.str (CM l).1)/\mmK false YI [.tup (l.map tS)]=some (.str (CM l).2):=by
 cases l with
 |nil=>exact absurd rfl hn
 |cons a l =>
  have hw:∀ w∈a::l,w.length<=1000000:=fun w m=>by have:=(Ge.mp (hl w m)).1;lia
  have ra:=rk a (hw a Z1)
  constructor
  ·show (YI [tS a]).bind _=_
   rw[ra,ob_]
   exact Z4C l a hw
  ·show (YI [tS a]).bind _=_
   rw[ra,ob_]
   exact Z4B l a hw
noncomputable def grS (R:List Ru):Lt_:=W8 ((Sg.metG (Qg R)).map prT)
theorem Z2r:((Sg.metG (l.map fun p=>[p.1,p.2])).map unP).Perm ((Sg.metG l).map prT):=by
 have inj:∀ p q:Str×Str,([p.1,p.2]:Ls_)=[q.1,q.2]->p=q:=fun p q h=>by
  injection h with h1 h2
  injection h2 with h3 _
  exact Qm h1 h3
 have e:(Sg.metG l).map prT=((Sg.metG l).map fun p=>[p.1,p.2]).map unP:=by rw[J1];rfl
 rw[e]
 refine (Mr (Sg.metG_nodup _) (Z1P _ (fun a b hne z=>hne (inj a b z)) (Sg.metG_nodup l)) fun x=>?_).map _
 rw[Sg.mem_metG,Zu,Zu]
 constructor
 ·rintro⟨p,hp,rfl⟩;exact⟨p,Sg.mem_metG.mpr hp,rfl⟩
 ·rintro⟨p,hp,rfl⟩;exact⟨p,Sg.mem_metG.mp hp,rfl⟩
theorem Z9r(hR:RR R):(grS R).length<=384:=by
 obtain⟨r,hp,e⟩:=Z0R (Sg.metG (Qg R))
 unfold grS
 rw[e,Z5,hp.length_eq]
 refine ZF (Sg.metG_len _) ?_
 unfold Qg
 rw[Z5]
 exact ZF (Mc _ _) (Z4x hR)
theorem Zc1(hR:RR R):Wb [RT R]=some (.tup (R.map rTh++grS R)):=by
 have ce:=Z0u hR
 have cl:=Z4x hR
 have ca:∀ u∈WW R,u∈Z0B:=fun u hu=>Z4y hR (Dc.mp hu)
 unfold Wb Z9R
 refine YW rfl ?_
 refine (Jg (d':=[some (.th (RT R)),some (.th (.lst ((WW R).map fun u=>.tup ((M8 R u).map tS)))),none]) ?_).trans ?_
 ·have c:=DL (fi:=YR (J8 UW (Z6 (ZV 0) J7))) (fe:=J8 JN (Z6 (ZV 1) (Z6 (ZV 0) J7))) (p:=fun t=>match t with|.str x=>.tup ((M8 R x.cps.toList).map tS)|_=>.non)
   (d:=[some (Dv.th (RT R)),none,none]) (ts:=(WW R).map tS) (by simp only[YR,J8,Z6,J7,ZV,gz_,ob_,ce];rfl) (by rw[Z5];lia) fun t ht=>by
    obtain⟨u,hu,rfl⟩:=Zu.mp ht
    have ee:=Zdf hR (ca u hu)
    rw[Zcb] at ee
    simp only[J8,Z6,J7,ZV,gs_,gz_,ob_,ee]
    rfl
  have e2:((WW R).map tS).map (fun t=>match t with|.str x=>Th.tup ((M8 R x.cps.toList).map tS)|_=>Th.non)=(WW R).map fun u=>Th.tup ((M8 R u).map tS):=by
   rw[J1]
   exact Jo fun i _=>rfl
  rw[e2] at c
  show Yy 1 _ [some (.th (RT R)),none,none]=_
  simp only[Yy,GA,c,Z8,Zb,Z9]
 refine (Jg (d':=[some (.th (RT R)),some (.th (.lst ((WW R).map fun u=>.tup ((M8 R u).map tS)))),some (.th (.lst ((Qg R).map prT)))]) ?_).trans ?_
 ·have c:=Z5X (ft:=Je (f2 oGt (fCB NE (Z6 (Za 0) J7)) (fC (.int 1)))) (fe:=QY (Z6 (Zaf true YI (Z6 (Za 0) J7)) (Z6 (Zaf false YI (Z6 (Za 0) J7)) J7)))
   (d:=[some (.th (RT R)),some (.th (.lst ((WW R).map fun u=>.tup ((M8 R u).map tS)))),none]) (ts:=(WW R).map fun u=>.tup ((M8 R u).map tS))
   (q:=fun t=>match t with|.tup ts=>decide (1<ts.length)|_=>false) (p:=fun t=>match t with|.tup ts=>prT (CM (ts.map fun t=>match t with|.str x=>x.cps.toList|_=>[]))|_=>.non) (fun t ht=>by
    obtain⟨u,hu,rfl⟩:=Zu.mp ht
    have l1:NE [.tup ((M8 R u).map tS)]=some (.int (((M8 R u).map tS).length:Int)):=rfl
    have g:oGt (.int (((M8 R u).map tS).length:Int)) (.int 1)=some (.bl (decide (1<((M8 R u).map tS).length))):=by
     show some (Th.bl (decide ((1:Int)<(((M8 R u).map tS).length:Int))))=_
     congr 2
     exact decide_eq_decide.mpr (by omega)
    simp only[Je,f2,fCB,Z6,J7,Za,fC,gz_,ob_,l1,g]) (fun t ht hq=>by
    obtain⟨u,hu,rfl⟩:=Zu.mp ht
    have hq:1<((M8 R u).map tS).length:=of_decide_eq_true hq
    have hn:M8 R u≠[]:=fun z=>by rw[z] at hq;exact absurd hq (by decide)
    obtain⟨m1,m2⟩:=ZfG (Zcd hR (ca u hu)) hn
    have em:((M8 R u).map tS).map (fun t=>match t with|.str x=>x.cps.toList|_=>[])=M8 R u:=by
     rw[J1]
     conv=>rhs;rw[<- By (M8 R u)]
     exact Jo fun i _=>rfl
    have fl:Z1G [.str (CM (M8 R u)).1,.str (CM (M8 R u)).2]=some [.str (CM (M8 R u)).1,.str (CM (M8 R u)).2]:=rfl
    simp only[QY,Z6,J7,Zaf,Za,gz_,ob_,Z8,m1,m2,fl,em]
    rfl)
  have e2:(((WW R).map fun u=>Th.tup ((M8 R u).map tS)).filter (fun t=>match t with|.tup ts=>decide (1<ts.length)|_=>false)).map (fun t=>match t with|.tup ts=>prT (CM (ts.map fun t=>match t with|.str x=>x.cps.toList|_=>[]))|_=>.non)=(Qg R).map prT:=by
   unfold Qg
   rw[Zfi,J1,J1]
   have ef:(WW R).filter ((fun t:Th=>match t with|.tup ts=>decide (1<ts.length)|_=>false)∘fun u=>Th.tup ((M8 R u).map tS))=(WW R).filter (Bn R):=by
    refine List.filter_congr fun u _=>?_
    show decide (1<((M8 R u).map tS).length)=Bn R u
    unfold Bn
    rw[Z5,Zcc]
   rw[ef]
   refine Jo fun u _=>?_
   show prT (CM (((M8 R u).map tS).map _))=prT (CM (M8 R u))
   congr 2
   rw[J1]
   conv=>rhs;rw[<- By (M8 R u)]
   exact Jo fun i _=>rfl
  rw[e2] at c
  have cc:Um g1 (YR (ZV 1)) (Je (f2 oGt (fCB NE (Z6 (Za 0) J7)) (fC (.int 1)))) (QY (Z6 (Zaf true YI (Z6 (Za 0) J7)) (Z6 (Zaf false YI (Z6 (Za 0) J7)) J7))) [some (.th (RT R)),some (.th (.lst ((WW R).map fun u=>.tup ((M8 R u).map tS)))),none]=some ((Qg R).map prT):=by
   unfold Um
   have ei:YR (ZV 1) [some (.th (RT R)),some (.th (.lst ((WW R).map fun u=>.tup ((M8 R u).map tS)))),none]=some ((WW R).map fun u=>.tup ((M8 R u).map tS)):=rfl
   rw[ei,ob_,if_pos (by rw[Z5];lia),c]
  simp only[Yy,GA,cc,Z8,Zb,Z9]
 ·have dl:(Qg R).length<=384:=by
   unfold Qg
   rw[Z5]
   exact ZF (Mc _ _) cl
  have al:((Qg R).map prT).all (okK .ss)=true:=by
   rw[Dj,U8]
   intro x _
   rfl
  have ek:((Qg R).map prT).map Zfn=(Qg R).map fun p=>[p.1,p.2]:=by rw[J1];rfl
  have so:DB [.lst ((Qg R).map prT)]=some (grS R):=by
   show (if ((Qg R).map prT).all (okK .ss)=true/\((Qg R).map prT).length<=900 then some (W8 ((Sg.metG (((Qg R).map prT).map Zfn)).map unP)) else none)=_
   rw[if_pos ⟨al,by rw[Z5];lia⟩,ek,Bd Z2r]
   rfl
  have gl:=Z9r hR
  have tu:Nh [.lst (grS R)]=some (.tup (grS R)):=rfl
  have pl:YB (RT R) (.tup (grS R))=some (.tup (R.map rTh++grS R)):=Z5l (by rw[Z5];have:=hR.few;lia)
  simp only[GR,f2,fCB,Z6,J7,Za,GA,Wf,gs_,gz_,ob_,Z8,so,tu,pl]
theorem ZiC (a b:W):oNe (tS a) (tS b)=some (.bl (decide (a≠b))):=by
 unfold oNe
 rw[if_pos (by rfl)]
 congr 2
 show (!(sL a == sL b))=_
 by_cases h:a=b
 ·subst h;simp
 ·have:sL a≠sL b:=fun z=>h (by have:=congrArg (fun s:Str=>s.cps.toList) z;simpa [sL] using this)
  rw[decide_eq_true h]
  simpa using this
noncomputable abbrev bM:FS:=UH (fIf (Je (J8 Ub (Z6 (ZV 7) (Z6 (ZV 5) J7)))) (Yy 5 (ZV 7)) UE)
 (fIf (Je (J8 Ub (Z6 (ZV 6) (Z6 (ZV 7) J7)))) (Yy 6 (ZV 7)) UE)
theorem Z8U:∀ (l:List W) (lo hi:W) (x7:Option Dv),(∀ w∈l,w.length<=1000000)->lo.length<=1000000->hi.length<=1000000 ->
  ∃ y7,Qe (De 7) bM (l.map tS) [t0,t1,t2,t3,t4,some (.th (tS lo)),some (.th (tS hi)),x7,t8]=some (.nx [t0,t1,t2,t3,t4,some (.th (tS (loW lo l))),some (.th (tS (hiW hi l))),y7,t8])
 |[],lo,hi,x7,_,_,_=>⟨x7,rfl⟩
 |x::l,lo,hi,x7,h,h1,h2=>by
  have hx:=h x Z1
  have hl:∀ w∈l,w.length<=1000000:=fun w hw=>h w (Z2 _ hw)
  have a1:Ub [tS x,tS lo]=some (.bl (Ni (sL x) (sL lo))):=Z47 (sL x) (sL lo) (by rw[QQ];exact hx) (by rw[QQ];exact h1)
  have a2:Ub [tS hi,tS x]=some (.bl (Ni (sL hi) (sL x))):=Z47 (sL hi) (sL x) (by rw[QQ];exact h2) (by rw[QQ];exact hx)
  have g:De 7 (tS x) [t0,t1,t2,t3,t4,some (.th (tS lo)),some (.th (tS hi)),x7,t8]=some [t0,t1,t2,t3,t4,some (.th (tS lo)),some (.th (tS hi)),some (.th (tS x)),t8]:=rfl
  have st:bM [t0,t1,t2,t3,t4,some (.th (tS lo)),some (.th (tS hi)),some (.th (tS x)),t8]=some (.nx [t0,t1,t2,t3,t4,some (.th (tS (if Ni (sL x) (sL lo)=true then x else lo))),some (.th (tS (if Ni (sL hi) (sL x)=true then x else hi))),some (.th (tS x)),t8]):=by
   refine (Jg (d':=[t0,t1,t2,t3,t4,some (.th (tS (if Ni (sL x) (sL lo)=true then x else lo))),some (.th (tS hi)),some (.th (tS x)),t8]) ?_).trans ?_
   ·simp only[fIf,Je,J8,Z6,J7,ZV,gs_,gz_,ob_,a1]
    cases Ni (sL x) (sL lo) <;> rfl
   ·simp only[fIf,Je,J8,Z6,J7,ZV,gs_,gz_,ob_,a2]
    cases Ni (sL hi) (sL x) <;> rfl
  obtain⟨y7,ih⟩:=Z8U (t0:=t0) (t1:=t1) (t2:=t2) (t3:=t3) (t4:=t4) (t8:=t8) l (if Ni (sL x) (sL lo)=true then x else lo) (if Ni (sL hi) (sL x)=true then x else hi) (some (.th (tS x))) hl (by split <;> assumption) (by split <;> assumption)
  refine⟨y7,?_⟩
  rw[Zw]
  unfold Qe
  rw[g,ob_,st]
  refine Eq.trans ih ?_
  have q1:loW lo (x::l)=loW (if Ni (sL x) (sL lo)=true then x else lo) l:=by
   conv=>lhs;unfold loW
   split <;> rfl
  have q2:hiW hi (x::l)=hiW (if Ni (sL hi) (sL x)=true then x else hi) l:=by
   conv=>lhs;unfold hiW
   split <;> rfl
  rw[q1,q2]
theorem Zcj(hR:RR R)(h:ClW R u):nxW R u≠[]:=by
 refine W_ fun n9=>?_;obtain⟨i,j,a,b,p,ha,hb,-,hp,hu,hpre⟩:=h;apply n9;clear n9
 have st:U2 a.1 u 0=true:=Bb.mpr hpre
 intro z
 have:chW a u 0∈nxW R u:=(ZiA hR _ _).mpr ⟨0,a,ZJ ha,st,rfl⟩
 rw[z] at this;cases this
theorem ZfF(e:(nxW R u).map (MH R)=a::l):CM (M8 R u)=(sL (hiW a l),sL (loW a l))/\(Bn R u=true↔loW a l≠hiW a l):=by
 have mem:∀ x,x∈M8 R u↔x∈a::l:=fun x=>by rw[Z5u,<- e,Zu]
 constructor
 ·cases he:M8 R u with
  |nil =>
   have:=(mem a).mpr Z1
   rw[he] at this;cases this
  |cons b m =>
   have mm:∀ x,x∈b::m↔x∈a::l:=fun x=>by rw[<- he];exact mem x
   show (sL (hiW b m),sL (loW b m))=_
   rw[Z91 mm,Z9o mm]
 ·unfold Bn
  rw[decide_eq_true_eq,Zca]
  constructor
  ·rintro⟨y,z,hy,hz,hne⟩ q
   refine hne (ZiG.mp q _ ?_ _ ?_) <;> rw[<- e]
   ·exact Zu.mpr ⟨y,hy,rfl⟩
   ·exact Zu.mpr ⟨z,hz,rfl⟩
  ·intro h
   refine W_ fun n9=>?_;obtain⟨h1,-⟩:=Bo l a
   obtain⟨h2,-⟩:=Bq l a
   rw[<- e] at h1 h2
   obtain⟨y,hy,e1⟩:=Zu.mp h1
   obtain⟨z,hz,e2⟩:=Zu.mp h2;apply n9;clear n9
   exact⟨y,z,hy,hz,by rw[e1,e2];exact h⟩
noncomputable def Zag (R:List Ru):List W->List (Str×Str)->List (Str×Str)
 |[],ks=>ks
 |u::us,ks=>Zag R us (if Bn R u=true then Z4H ks (CM (M8 R u)) else ks)
noncomputable abbrev bW:FS:=(UH (Yy 4 (GA (DM [7] g1 (YR (J8 Gk (Z6 (ZV 1) (Z6 (ZV 3) J7)))) GZ (J8 NV (Z6 (ZV 2) (Z6 (ZV 0) J7))))))
 (UH (Yy 5 (f2 oIx (Za 4) (fC (.int 0))))
 (UH (Yy 6 (f2 oIx (Za 4) (fC (.int 0))))
 (UH (Fm (YR (ZV 4)) (De 7) bM)
 (fIf (Je (f2 oNe (Za 5) (Za 6))) (Z0n 2 (Z6 (ZV 6) (Z6 (ZV 5) J7))) UE)))))
theorem Zfy(hR:RR R)(hu:ClW R u)(hk:ks.length<1000000) :
  ∃ y4 y5 y6 y7,bW [t0,some (.th (RT R)),some (.dcp ks),some (.th (tS u)),x4,x5,x6,x7,t8] =
   some (.nx [t0,some (.th (RT R)),some (.dcp (if Bn R u=true then Z4H ks (CM (M8 R u)) else ks)),some (.th (tS u)),y4,y5,y6,y7,t8]):=by
 have ua:=Z4y hR hu
 have u11:=(Ge.mp ua).1
 have nl:=Zd3 hR u11
 have ne:=Z6R (R:=R) (w:=u) hR.small (by lia)
 rw[Zd2] at ne
 have nn:=Zcj hR hu
 cases e:(nxW R u).map (MH R) with
 |nil=>exact absurd (Za4.mp e) nn
 |cons a l =>
  have ls:∀ w∈a::l,w.length<=1000000:=fun w hw=>by
   rw[<- e] at hw
   obtain⟨y,hy,rfl⟩:=Zu.mp hw
   have ya:=WU hR u ua y hy
   have:=(Ge.mp ((Z0p hR ya).1.mem (WU hR) ya)).1
   lia
  obtain⟨te,tm⟩:=ZfF e
  have a6:=ls a Z1
  obtain⟨y7,ml⟩:=Z8U (t0:=t0) (t1:=some (.th (RT R))) (t2:=some (.dcp ks)) (t3:=some (.th (tS u))) (t4:=some (.th (.lst ((a::l).map tS)))) (t8:=t8) (a::l) a a x7 ls a6 a6
  have dd:∀ x,x∈a::a::l↔x∈a::l:=fun x=>by
   constructor
   ·intro h
    rcases Zc.mp h with q|q
    ·rw[q];exact Z1
    ·exact q
   ·exact Z2 _
  rw[Z91 dd,Z9o dd] at ml
  refine⟨some (.th (.lst ((a::l).map tS))),some (.th (tS (loW a l))),some (.th (tS (hiW a l))),y7,?_⟩
  refine (Jg (d':=[t0,some (.th (RT R)),some (.dcp ks),some (.th (tS u)),some (.th (.lst ((a::l).map tS))),x5,x6,x7,t8]) ?_).trans ?_
  ·have c:DM [7] g1 (YR (J8 Gk (Z6 (ZV 1) (Z6 (ZV 3) J7)))) GZ (J8 NV (Z6 (ZV 2) (Z6 (ZV 0) J7))) [t0,some (.th (RT R)),some (.dcp ks),some (.th (tS u)),x4,x5,x6,x7,t8]=some ((a::l).map tS):=by
    have c:=DL (fi:=fun _=>some ((nxW R u).map tS)) (fe:=J8 NV (Z6 (ZV 2) (Z6 (ZV 0) J7))) (p:=fun t=>match t with|.str x=>tS (MH R x.cps.toList)|_=>.non)
     (d:=[t0,some (Dv.th (RT R)),some (.dcp ks),some (.th (tS u)),x4,x5,x6,none,t8]) (ts:=(nxW R u).map tS) rfl (by rw[Z5];lia) fun t ht=>by
      obtain⟨y,hy,rfl⟩:=Zu.mp ht
      have ee:=ZbU hR (WU hR u ua y hy)
      simp only[J8,Z6,J7,ZV,gs_,gz_,ob_,ee]
      rfl
    have e2:((nxW R u).map tS).map (fun t=>match t with|.str x=>tS (MH R x.cps.toList)|_=>Th.non)=(a::l).map tS:=by
     rw[<- e,J1,J1]
     exact Jo fun i _=>rfl
    rw[e2] at c
    unfold Um at c
    unfold DM
    have ei:YR (J8 Gk (Z6 (ZV 1) (Z6 (ZV 3) J7))) [t0,some (.th (RT R)),some (.dcp ks),some (.th (tS u)),x4,x5,x6,x7,t8]=some ((nxW R u).map tS):=by
     simp only[YR,J8,Z6,J7,ZV,gs_,gz_,ob_,ne]
     rfl
    rw[ei]
    exact c
   simp only[Yy,GA,c,Z8,Zb,Z9]
  have i0:oIx (.lst ((a::l).map tS)) (.int 0)=some (tS a):=ix0 _ _
  refine (Jg (d':=[t0,some (.th (RT R)),some (.dcp ks),some (.th (tS u)),some (.th (.lst ((a::l).map tS))),some (.th (tS a)),x6,x7,t8]) ?_).trans ?_
  ·simp only[Yy,f2,Za,fC,gs_,gz_,ob_,Z8,i0,Zb,Z9]
  refine (Jg (d':=[t0,some (.th (RT R)),some (.dcp ks),some (.th (tS u)),some (.th (.lst ((a::l).map tS))),some (.th (tS a)),some (.th (tS a)),x7,t8]) ?_).trans ?_
  ·simp only[Yy,f2,Za,fC,gs_,gz_,ob_,Z8,i0,Zb,Z9]
  refine (Jg (d':=[t0,some (.th (RT R)),some (.dcp ks),some (.th (tS u)),some (.th (.lst ((a::l).map tS))),some (.th (tS (loW a l))),some (.th (tS (hiW a l))),y7,t8]) ?_).trans ?_
  ·rw[Nk (ts:=(a::l).map tS) rfl]
   exact ml
  ·have n1:=ZiC (loW a l) (hiW a l)
   simp only[fIf,Je,f2,Za,gs_,gz_,ob_,n1]
   by_cases q:Bn R u=true
   ·rw[decide_eq_true (tm.mp q),if_pos rfl,if_pos q,te]
    have po:((Z6 (ZV 6) (Z6 (ZV 5) J7)) [t0,some (.th (RT R)),some (.dcp ks),some (.th (tS u)),some (.th (.lst ((a::l).map tS))),some (.th (tS (loW a l))),some (.th (tS (hiW a l))),y7,t8]).bind Z16=some (sL (hiW a l),sL (loW a l)):=rfl
    simp only[Z0n,gs_,gz_,po,ob_,if_pos hk,Zb,Z9]
   ·rw[decide_eq_false (fun z=>q (tm.mpr z)),if_neg q,if_neg (by simp)]
    rfl
theorem Z5Q(hR:RR R):∀ (us:List W) (ks:List (Str×Str)) (x3 x4 x5 x6 x7:Option Dv),(∀ u∈us,ClW R u)->ks.length+us.length<=900000 ->
  ∃ y3 y4 y5 y6 y7,Qe (De 3) bW (us.map tS) [t0,some (.th (RT R)),some (.dcp ks),x3,x4,x5,x6,x7,t8]=some (.nx [t0,some (.th (RT R)),some (.dcp (Zag R us ks)),y3,y4,y5,y6,y7,t8])
 |[],ks,x3,x4,x5,x6,x7,_,_=>⟨x3,x4,x5,x6,x7,rfl⟩
 |u::us,ks,x3,x4,x5,x6,x7,h,hk=>by
  rw[Zf] at hk
  obtain⟨y4,y5,y6,y7,st⟩:=Zfy hR (t0:=t0) (t8:=t8) (x4:=x4) (x5:=x5) (x6:=x6) (x7:=x7) (h u Z1) (ks:=ks) (by lia)
  have g:De 3 (tS u) [t0,some (.th (RT R)),some (.dcp ks),x3,x4,x5,x6,x7,t8]=some [t0,some (.th (RT R)),some (.dcp ks),some (.th (tS u)),x4,x5,x6,x7,t8]:=rfl
  have kl:(if Bn R u=true then Z4H ks (CM (M8 R u)) else ks).length<=ks.length+1:=by
   split
   ·unfold Z4H
    split
    ·exact Ym _
    ·rw[Zj];exact Z7 _
   ·lia
  obtain⟨z3,z4,z5,z6,z7,ih⟩:=Z5Q hR (t0:=t0) (t8:=t8) us (if Bn R u=true then Z4H ks (CM (M8 R u)) else ks) (some (.th (tS u))) y4 y5 y6 y7 (fun v hv=>h v (Z2 _ hv)) (by lia)
  refine⟨z3,z4,z5,z6,z7,?_⟩
  rw[Zw]
  unfold Qe
  rw[g,ob_,st]
  exact ih
theorem Z1o:∀ (us:List W) (ks:List (Str×Str)),ks.Nodup->(Zag R us ks).Nodup/\∀ x,x∈Zag R us ks↔x∈ks\/x∈(us.filter (Bn R)).map fun u=>CM (M8 R u)
 |[],ks,h=>⟨h,fun x=>by simp[Zag]⟩
 |u::us,ks,h=>by
  unfold Zag
  by_cases q:Bn R u=true
  ·rw[if_pos q,Na,if_pos q]
   have nd:(Z4H ks (CM (M8 R u))).Nodup:=by
    unfold Z4H
    split
    ·exact h
    ·next hn=>exact M2.mpr ⟨h,GB.mpr ⟨(fun z=>by cases z),YU⟩,fun a ha b hb z=>by
      rw[ZS] at hb
      rw[z,hb] at ha
      exact hn ha⟩
   obtain⟨d1,d2⟩:=Z1o us _ nd
   refine⟨d1,fun x=>(d2 x).trans ?_⟩
   have ma:x∈Z4H ks (CM (M8 R u))↔x∈ks\/x=CM (M8 R u):=by
    unfold Z4H
    split
    ·next hm=>exact⟨.inl,fun z=>z.elim id fun z=>by rw[z];exact hm⟩
    ·rw[ZR,ZS]
   rw[ma,Zw,Zc,or_assoc]
  ·rw[if_neg q,Na,if_neg q]
   exact Z1o us ks h
theorem Zcf:W8 ((Zag R (WW R) []).map prT)=grS R:=by
 obtain⟨d1,d2⟩:=Z1o (R:=R) (WW R) [] YU
 unfold grS
 refine Bd ((Mr d1 (Sg.metG_nodup _) fun x=>?_).map _)
 rw[d2,Sg.mem_metG]
 unfold Qg
 simp
theorem Z9A:∀ {l:Lt_},(∀ t∈l,dp t<=1)->dpL l<=1
 |[],_=>Jh _
 |x::l,h=>by
  rw[dpL]
  have:=Z9A (l:=l) fun t ht=>h t (Z2 _ ht)
  have:=h x Z1
  lia
theorem ZeG(h:dp T<=100):oNe T T=some (.bl false):=by
 unfold oNe
 rw[decide_eq_true h,if_pos rfl,Qf]
 rfl
theorem Zf0(h:dp T<=100):oEq T T=some (.bl true):=by
 unfold oEq
 rw[Qf,if_pos (decide_eq_true h)]
theorem Z5O:∀ (l m:Lt_),Mt (l++m) l=m.isEmpty
 |[],[]=>rfl
 |[],_::_=>rfl
 |x::l,m=>by
  rw[ZO,Mt,Qf,Z5O l m]
  rfl
theorem ZeV:∀ t∈grS R,dp t<=1:=fun t ht=>by
 obtain⟨r,hp,e⟩:=Z0R (Sg.metG (Qg R))
 unfold grS at ht
 rw[e] at ht
 obtain⟨p,-,rfl⟩:=Zu.mp ht
 exact Z7 1
theorem Z5H:(grS R).isEmpty=true↔∀ u,ClW R u->¬ 1<(CO R u).length:=by
 refine W_ fun n9=>?_;obtain⟨r,hp,e⟩:=Z0R (Sg.metG (Qg R));apply n9;clear n9
 rw[List.isEmpty_iff,grS,e,Za4]
 constructor
 ·intro z u hu h
  rw[z] at hp
  have:CM (M8 R u)∈Sg.metG (Qg R):=Sg.mem_metG.mpr (Zu.mpr ⟨u,GC.mpr ⟨Dc.mpr hu,decide_eq_true h⟩,rfl⟩)
  rw[<- hp.mem_iff] at this
  cases this
 ·intro h
  rw[Md]
  intro p hp'
  rw[hp.mem_iff,Sg.mem_metG] at hp'
  refine W_ fun n9=>?_;obtain⟨u,hu,-⟩:=Zu.mp hp'
  obtain⟨h1,h2⟩:=GC.mp hu;apply n9;clear n9
  exact h u (Dc.mp h1) (of_decide_eq_true h2)
theorem holds:∀ ns:List Int,ns.length<=63->D8 [.lst (ns.map Th.int)]=some (.bl true):=by
 intro ns _
 refine W_ fun n9=>?_;obtain⟨n0,-,-,m0⟩:=ZbD ns 0 (by decide)
 obtain⟨ts,e0,p0,l0⟩:=ZaH n0
 obtain⟨R,rfl,ok⟩:=Z5b p0
 rw[Z5] at l0
 have hR:RR R:=⟨by lia,ok⟩
 have e0:ND [.int n0]=some (RT R):=e0
 obtain⟨o,de,d1,d2⟩:=Zch hR;apply n9;clear n9
 have se:=ZdA de
 have ge:=Zc1 hR
 have gl:=Z9r hR
 have few:=hR.few
 have ce:=Z2y hR
 obtain⟨y3,y4,y5,y6,y7,dl⟩:=Z5Q hR (t0:=some (Dv.th (.lst (ns.map Th.int)))) (t8:=none) (WW R) [] none none none none none (fun u hu=>Dc.mp hu) (by have:=Z4x hR;show 0+_<=_;lia)
 have dq:dp (.tup (R.map rTh++grS R))<=100:=by
  show dpL (R.map rTh++grS R)+1<=100
  have:=Z9A (l:=R.map rTh++grS R) fun t ht=>by
   rcases ZR.mp ht with h|h
   ·refine W_ fun n9=>?_;obtain⟨r,-,rfl⟩:=Zu.mp h;apply n9;clear n9
    exact Z7 1
   ·exact ZeV t h
  lia
 unfold D8 Zhn
 refine YW rfl ?_
 refine (Jg (d':=[some (Dv.th (.lst (ns.map Th.int))),some (Dv.th (RT R)),none,none,none,none,none,none,none]) ?_).trans ?_
 ·simp only[Yy,J8,Z6,J7,ZV,fC,GJ,Yi,Zm,ZO,ZW,gs_,gz_,ob_,Z8,m0,e0,Zb,Z9]
 refine (Jg (d':=[some (Dv.th (.lst (ns.map Th.int))),some (Dv.th (RT R)),some (Dv.dcp []),none,none,none,none,none,none]) rfl).trans ?_
 refine (Jg (d':=[some (Dv.th (.lst (ns.map Th.int))),some (Dv.th (RT R)),some (Dv.dcp (Zag R (WW R) [])),y3,y4,y5,y6,y7,none]) ?_).trans ?_
 ·rw[Nk (ts:=(WW R).map tS) (by simp only[YR,J8,Z6,J7,ZV,gs_,gz_,ob_,ce];rfl)]
  exact dl
 refine (Jg (d':=[some (Dv.th (.lst (ns.map Th.int))),some (Dv.th (RT R)),some (Dv.dcp (Zag R (WW R) [])),y3,y4,y5,y6,y7,some (Dv.th (.tup (R.map rTh++grS R)))]) ?_).trans ?_
 ·simp only[Yy,J8,Z6,J7,ZV,gs_,gz_,ob_,Z8,ge,Zb,Z9]
 refine (Jg (d':=[some (Dv.th (.lst (ns.map Th.int))),some (Dv.th (RT R)),some (Dv.dcp (Zag R (WW R) [])),y3,y4,y5,y6,y7,some (Dv.th (.tup (R.map rTh++grS R)))]) ?_).trans ?_
 ·have tu:Nh [.lst (grS R)]=some (.tup (grS R)):=rfl
  have pl:YB (RT R) (.tup (grS R))=some (.tup (R.map rTh++grS R)):=Z5l (by rw[Z5];lia)
  have q1:=ZeG dq
  simp only[fIf,Je,f2,Za,fCB,Z6,J7,GA,Cj,gs_,gz_,ob_,Z8,Zcf,tu,pl,q1,Zv,if_false,UE]
 ·have q1:oEq (.tup (R.map rTh++grS R)) (RT R)=some (.bl (grS R).isEmpty):=by
   unfold oEq
   have:Yc (.tup (R.map rTh++grS R)) (RT R)=(grS R).isEmpty:=Z5O _ _
   rw[this,if_pos (decide_eq_true dq)]
  have q2:(grS R).isEmpty=o.isNone:=by
   cases o with
   |none=>exact Z5H.mpr (d2 rfl)
   |some u =>
    obtain⟨cu,mu⟩:=d1 u rfl
    cases hg:(grS R).isEmpty with
    |false=>rfl
    |true=>exact absurd mu (Z5H.mp hg u cu)
  have q3:oEq (.bl o.isNone) (.bl o.isNone)=some (.bl true):=Zf0 (by show (0:Nat)<=100;simp)
  rw[q2] at q1
  simp only[GR,f2,Za,J8,Z6,J7,ZV,gs_,gz_,ob_,Z8,q1,se,q3]
end K40
namespace K40
open PySem PySem.Spec PyProof.Rows L2
noncomputable def top (i:Nat):Stmt:=PySem.Challenge.pw_wordmelt_k40_whole_grown.main.body.getD i (.Pass ⟨0,0,0,0⟩)
structure Mg (mg:Str->Option Value):Prop where
 m_enumerate:mg "enumerate"=none
 m_len:mg "len"=none
 m_max:mg "max"=none
 m_min:mg "min"=none
 m_range:mg "range"=none
 m_set:mg "set"=none
 m_sorted:mg "sorted"=none
 m_tuple:mg "tuple"=none
set_option bootstrap.genMatcherCode true
local macro_rules|`(tactic| walk_at "l")=>`(tactic| first|exact Z0E rfl|exact Zjw rfl)
set_option bootstrap.genMatcherCode false
section
variable {P:Program}{w:World}{K:Fg_}{mg:Str->Option Value}{base:Heap}
noncomputable abbrev Q9:Stmt:=top 21
theorem Z0d:Yf ["_law_number","_law_k","_law_drawn_here"] ["_law_number","_law_k"] (ZB Q9):=⟨rfl,rfl,rfl,by decide +kernel,rfl,by decide +kernel,by decide +kernel⟩
theorem Z6M (m:Mg mg) (F:Fun K "_law_drawn" "_law_drawn" Q9 f fd):Me P w K mg base CX0 1 f fd ["_law_number","_law_k"] (spF K JM):=by
 have nd:=Z0d.nd
 exact Fun.okQ F Z0d rfl rfl fun cdv A outer s H E hr=>(ZC (JH (i:=2) nd (by rfl) (by walk_at "l") (UV (QD.pb (UK (QD.pb (JX (QD.pb (JX (Zk (qv 0)) (QD.pb (UK (QD.pb ZM) (Zk (qv 1)))))) (QD.pb ZM))) (QD.pb ZM))) (QD.pb ZM))) (ZH (JW (QD.pb (UV (QD.pb (JX (QD.pb (JX (QD.pb (UK (Zk (qv 2)) (Zk (qv 2)))) (QD.pb (UK (QD.pb ZM) (Zk (qv 2)))))) (Zk (qv 1)))) (QD.pb ZM))))))
noncomputable abbrev Wt:Stmt:=top 25
theorem Z27:Yf ["_law_number","_law_letters","_law_found","_law_k","_law_letter","_law_drawn_here"] ["_law_number","_law_letters"] (ZB Wt):=⟨rfl,rfl,rfl,by decide +kernel,rfl,by decide +kernel,by decide +kernel⟩
theorem Z8I (m:Mg mg) (F:Fun K "_law_tame" "_law_tame" Wt f fd) (c_l_drawn:Callee P w K mg base 1 "_law_drawn" JM):Me P w K mg base CX0 2 f fd ["_law_number","_law_letters"] (spF K Qd):=by
 have nd:=Z27.nd
 exact Fun.okQ F Z27 rfl rfl fun cdv A outer s H E hr=>(ZC (Ww (i:=2) nd (by rfl) (by walk_at "l") (Z2d (QD.pb (Z10 (.lst (.cons (.tup (.cons .str (.cons .str .nil)) (by decide)) (.cons (.tup (.cons .str (.cons .str .nil)) (by decide)) (.cons (.tup (.cons .str (.cons .str .nil)) (by decide)) .nil))) (by decide)))) Ut (U3 (ZdM (QD.pb (UK (QD.pb ZM) (QD.pb (Ux (by rfl) m.m_len (Jb (Zk (qv 1)) Jr))))) (QD.pb ZM))))) (ZC (Nb (Z0Z hr (QD.pb (UV (Zk (qv 0)) (QD.pb ZM))) (QD.pb ZM)) (ZH (Ww (i:=2) nd (by rfl) (by walk_at "l") (Z2d (Zk (qv 2)) Ut (U3 (UV (QD.pb (Nd (Zk (qv 0)) (QD.pb ZM))) (QD.pb ZM)))))) G2) (ZC (Gs JC (by rfl) (Qb (by rfl) m.m_enumerate (ZD (qv 1))) (Wx (i:=3) (j:=4) (by rfl) nd (by rfl) (by rfl) (by walk_at "l") (by walk_at "l")) (ZC (JH (i:=5) nd (by rfl) (by walk_at "l") (Jm c_l_drawn (hr.mono (by decide)) (by rfl) (Ze (ZD (qv 0)) (Ze (ZD (qv 3)) J6)))) (ZH (Nb (Bh (QD.pb (UV (Zk (qv 5)) (QD.pb ZM))) (QD.pb ZM)) (ZH (D5 (i:=2) (qv 2) (Qu (Ze (UK (Zk (qv 4)) (QD.pb (JX (QD.pb ZM) (QD.pb (UV (QD.pb (Nd (Zk (qv 5)) (QD.pb ZM))) (QD.pb ZM)))))) (Ze (UK (Zk (qv 4)) (QD.pb (UV (QD.pb (Nd (Zk (qv 5)) (QD.pb ZM))) (QD.pb ZM)))) J6))))) G2)))) (ZH (JW (Zk (qv 2)))))))
noncomputable abbrev Ws:Stmt:=top 22
theorem Z26:Yf ["_law_number","_law_letters","_law_most","_law_found","_law_k"] ["_law_number","_law_letters","_law_most"] (ZB Ws):=⟨rfl,rfl,rfl,by decide +kernel,rfl,by decide +kernel,by decide +kernel⟩
theorem Z8H (m:Mg mg) (F:Fun K "_law_word" "_law_word" Ws f fd) (c_l_drawn:Callee P w K mg base 1 "_law_drawn" JM):Me P w K mg base CX0 2 f fd ["_law_number","_law_letters","_law_most"] (spF K Mi):=by
 have nd:=Z26.nd
 exact Fun.okQ F Z26 rfl rfl fun cdv A outer s H E hr=>(ZC (JH (i:=3) nd (by rfl) (by walk_at "l") ZdN) (ZC (Gs JC (by rfl) (NA (by rfl) m.m_range (UV (Zk (qv 0)) (QD.pb (JX (Zk (qv 2)) (QD.pb ZM))))) (MN (i:=4) nd (by rfl) (by walk_at "l")) (ZH (JH (i:=3) nd (by rfl) (by walk_at "l") (JX (Zk (qv 3)) (QD.pb (UM (Zk (qv 1)) (QD.pb (UV (QD.pb (Nd (QD.pb (Jm c_l_drawn (hr.mono (by decide)) (by rfl) (Ze (ZD (qv 0)) (Ze (ZD (qv 4)) J6)))) (QD.pb ZM))) (QD.pb (Ux (by rfl) m.m_len (Jb (Zk (qv 1)) Jr))))) (fun _ _=>rfl))))))) (ZH (JW (Zk (qv 3))))))
noncomputable abbrev Wv:Stmt:=top 23
theorem Z29:Yf ["_law_one","_law_other"] ["_law_one","_law_other"] (ZB Wv):=⟨rfl,rfl,rfl,by decide +kernel,rfl,by decide +kernel,by decide +kernel⟩
theorem Z8K (m:Mg mg) (F:Fun K "_law_less" "_law_less" Wv f fd):Me P w K mg base CX0 1 f fd ["_law_one","_law_other"] (spF K Ub):=by
 have nd:=Z29.nd
 exact Fun.okQ F Z29 rfl rfl fun cdv A outer s H E hr=>(ZH (JW (QD.pb (Zg3 hr (QD.pb (Qu (Ze (Ux (by rfl) m.m_len (Jb (Zk (qv 0)) Jr)) (Ze (ZD (qv 0)) J6)))) (QD.pb (Qu (Ze (Ux (by rfl) m.m_len (Jb (Zk (qv 1)) Jr)) (Ze (ZD (qv 1)) J6))))))))
noncomputable abbrev Wu:Stmt:=top 24
theorem Z28:Yf ["_law_number","_law_letters","_law_left","_law_right"] ["_law_number","_law_letters"] (ZB Wu):=⟨rfl,rfl,rfl,by decide +kernel,rfl,by decide +kernel,by decide +kernel⟩
theorem Z8J (m:Mg mg) (F:Fun K "_law_rule" "_law_rule" Wu f fd) (c_l_word:Callee P w K mg base 2 "_law_word" Mi) (c_l_drawn:Callee P w K mg base 1 "_law_drawn" JM) (c_l_less:Callee P w K mg base 1 "_law_less" Ub):Me P w K mg base CX0 3 f fd ["_law_number","_law_letters"] (spF K Gu):=by
 have nd:=Z28.nd
 exact Fun.okQ F Z28 rfl rfl fun cdv A outer s H E hr=>(ZC (JH (i:=2) nd (by rfl) (by walk_at "l") (JX (QD.pb (Jm c_l_word (hr.mono (by decide)) (by rfl) (Ze (JX (QD.pb (JX (QD.pb (UK (QD.pb ZM) (QD.pb (Nd (Zk (qv 0)) (QD.pb ZM))))) (QD.pb ZM))) (QD.pb (UV (Zk (qv 0)) (QD.pb ZM)))) (Ze (ZD (qv 1)) (Ze ZM J6))))) (QD.pb (UM (Zk (qv 1)) (QD.pb (UV (QD.pb (Nd (Zk (qv 0)) (QD.pb ZM))) (QD.pb (Ux (by rfl) m.m_len (Jb (Zk (qv 1)) Jr))))) (fun _ _=>rfl))))) (ZC (Nb (Z0Z hr (QD.pb (UV (QD.pb (Nd (Zk (qv 0)) (QD.pb ZM))) (QD.pb ZM))) (QD.pb ZM)) (ZH (JH (i:=2) nd (by rfl) (by walk_at "l") (UL (QD.pb (UK (Zk (qv 2)) (QD.pb ZM))) Ut (U3 ZM)))) G2) (ZC (JH (i:=3) nd (by rfl) (by walk_at "l") (Jm c_l_word (hr.mono (by decide)) (by rfl) (Ze (Jm c_l_drawn (hr.mono (by decide)) (by rfl) (Ze (ZD (qv 0)) (Ze ZM J6))) (Ze (ZD (qv 1)) (Ze (Ux (by rfl) m.m_len (Jb (Zk (qv 2)) Jr)) J6))))) (ZC (Nb (ZaM (Qs (Jm c_l_less (hr.mono (by decide)) (by rfl) (Ze (ZD (qv 3)) (Ze (ZD (qv 2)) J6))))) (ZH (JH (i:=3) nd (by rfl) (by walk_at "l") (UL (Zk (qv 3)) (U3 ZM) (U3 (Ux (by rfl) m.m_len (Jb (Zk (qv 2)) Jr)))))) G2) (ZH (JW (QD.pb (Qu (Ze (ZD (qv 2)) (Ze (ZD (qv 3)) J6))))))))))
noncomputable abbrev Mo:Stmt:=top 26
theorem Z0a:Yf ["_law_number","_law_letters","_law_found","_law_by"] ["_law_number"] (ZB Mo):=⟨rfl,rfl,rfl,by decide +kernel,rfl,by decide +kernel,by decide +kernel⟩
theorem Z6J (m:Mg mg) (F:Fun K "_law_rules" "_law_rules" Mo f fd) (c_l_tame:Callee P w K mg base 2 "_law_tame" Qd) (c_l_rule:Callee P w K mg base 3 "_law_rule" Gu) (c_l_drawn:Callee P w K mg base 1 "_law_drawn" JM):Me P w K mg base CX0 4 f fd ["_law_number"] (spF K ND):=by
 have nd:=Z0a.nd
 exact Fun.okQ F Z0a rfl rfl fun cdv A outer s H E hr=>(ZC (JH (i:=1) nd (by rfl) (by walk_at "l") (UM (QD.pb (Z10 (.tup (.cons .str (.cons .str .nil)) (by decide)))) (QD.pb (UV (QD.pb (Nd (Zk (qv 0)) (QD.pb ZM))) (QD.pb ZM))) (fun _ _=>rfl))) (ZC (JH (i:=2) nd (by rfl) (by walk_at "l") (Jm c_l_tame (hr.mono (by decide)) (by rfl) (Ze (Nd (Zk (qv 0)) (QD.pb ZM)) (Ze (ZD (qv 1)) J6)))) (ZC (Nb (Bh (QD.pb (UV (Zk (qv 0)) (QD.pb ZM))) (QD.pb ZM)) (ZH (Qt (i:=2) nd (by rfl) (by walk_at "l") (by rfl) (Fo (N:=["_law_number","_law_letters","_law_found","_law_by"]) (sc:=ZB Mo) (by rfl) (by rfl) (by decide +kernel)) (show (["_law_k","_law_number","_law_letters","_law_found","_law_by"]:Ls_).Nodup by decide +kernel) (by rfl) (NA (by rfl) m.m_range (UV (QD.pb (Nd (Zk (qv 0)) (QD.pb ZM))) (QD.pb ZM))) (fun _ _ _ _ _=>NT) (fun _ _ _ _ _=>(Jm c_l_rule (hr.mono (by decide)) (by rfl) (Ze (Jm c_l_drawn (hr.mono (by decide)) (by rfl) (Ze (ZD (qv 1)) (Ze (JX (QD.pb ZM) (Zk (qv 0))) J6))) (Ze (ZD (qv 2)) J6)))))) (ZH (Nb (Z0Z hr (QD.pb (UV (Zk (qv 0)) (QD.pb ZM))) (QD.pb ZM)) (ZH (JH (i:=2) nd (by rfl) (by walk_at "l") (JX (Zk (qv 2)) (QD.pb (QF.pd (ZaK (Ze (Jm c_l_rule (hr.mono (by decide)) (by rfl) (Ze (Jm c_l_drawn (hr.mono (by decide)) (by rfl) (Ze (ZD (qv 0)) (Ze ZM J6))) (Ze (ZD (qv 1)) J6))) J6))))))) G2))) (ZC (JH (i:=3) nd (by rfl) (by walk_at "l") (UV (QD.pb (Nd (Zk (qv 0)) (QD.pb ZM))) (QD.pb ZM))) (ZH (JW (QD.pb (NU (by rfl) m.m_tuple (Jb (QD.pb (JX (QD.pb (UL (Zk (qv 2)) (U3 (ZD (qv 3))) Ut)) (QD.pb (UL (Zk (qv 2)) Ut (U3 (ZD (qv 3))))))) Jr)))))))))
noncomputable abbrev Nx:Stmt:=top 30
theorem BK:Yf ["_law_rules_here","_law_found","_law_k","_law_n","_law_one","_law_other","_law_place","_law_rest"] ["_law_rules_here"] (ZB Nx):=⟨rfl,rfl,rfl,by decide +kernel,rfl,by decide +kernel,by decide +kernel⟩
theorem Z2n (m:Mg mg) (F:Fun K "_law_clashes" "_law_clashes" Nx f fd):Me P w K mg base CX0 1 f fd ["_law_rules_here"] (spF K Ng):=by
 have nd:=BK.nd
 exact Fun.okQ F BK rfl rfl fun cdv A outer s H E hr=>(ZC (Z87 (i:=1) nd (by rfl) (by walk_at "l")) (ZC (Gs JC (by rfl) (NA (by rfl) m.m_range (Ux (by rfl) m.m_len (Jb (Zk (qv 0)) Jr))) (MN (i:=2) nd (by rfl) (by walk_at "l")) (ZH (Gs JC (by rfl) (NA (by rfl) m.m_range (Ux (by rfl) m.m_len (Jb (Zk (qv 0)) Jr))) (MN (i:=3) nd (by rfl) (by walk_at "l")) (ZC (JH (i:=4) nd (by rfl) (by walk_at "l") (UM (QD.pb (UM (Zk (qv 0)) (Zk (qv 2)) (fun _ _=>rfl))) (QD.pb ZM) (fun _ _=>rfl))) (ZC (JH (i:=5) nd (by rfl) (by walk_at "l") (UM (QD.pb (UM (Zk (qv 0)) (Zk (qv 3)) (fun _ _=>rfl))) (QD.pb ZM) (fun _ _=>rfl))) (ZH (Gs JC (by rfl) (NA (by rfl) m.m_range (Ux (by rfl) m.m_len (Jb (Zk (qv 4)) Jr))) (MN (i:=6) nd (by rfl) (by walk_at "l")) (ZC (JH (i:=7) nd (by rfl) (by walk_at "l") (UL (Zk (qv 4)) (U3 (ZD (qv 6))) Ut)) (ZH (Nb (QW.pdt (ZaL (QW.pdt (Z83 (Z0Y hr (Zk (qv 2)) (Zk (qv 3))) (Z5f (Bh (Zk (qv 6)) (QD.pb ZM))))) (Z84 (QW.pdt (Z83 (Qs (Wy (Zk (qv 7)) (Zk (qv 5)))) (Z5f (Qs (Wy (Zk (qv 5)) (Zk (qv 7)))))))))) (ZH (Nb (Bh (QD.pb (Ux (by rfl) m.m_len (Jb (Zk (qv 5)) Jr))) (QD.pb (Ux (by rfl) m.m_len (Jb (Zk (qv 7)) Jr)))) (ZH (Z2f hr (qv 1) (QD.pb (JX (QD.pb (UL (Zk (qv 4)) Ut (U3 (ZD (qv 6))))) (Zk (qv 5)))) Z5i)) (ZH (Z2f hr (qv 1) (Zk (qv 4)) Z5i)))) G2)))))))))) (ZH (JW (QD.pb (NU (by rfl) m.m_tuple (Jb (QD.pb (QF.pd (Z81 (by rfl) (by rfl) m.m_sorted (qv 1)))) Jr)))))))
noncomputable abbrev Nu:Stmt:=top 3
theorem BI:Yf ["rule","word","place"] ["rule","word","place"] (ZB Nu):=⟨rfl,rfl,rfl,by decide +kernel,rfl,by decide +kernel,by decide +kernel⟩
theorem Z2l (m:Mg mg) (F:Fun K "put_right" "put_right" Nu f fd):Me P w K mg base CX0 1 f fd ["rule","word","place"] (spF K YJ):=by
 have nd:=BI.nd
 exact Fun.okQ F BI rfl rfl fun cdv A outer s H E hr=>(ZH (JW (QD.pb (JX (QD.pb (JX (QD.pb (UL (Zk (qv 1)) Ut (U3 (ZD (qv 2))))) (QD.pb (UM (Zk (qv 0)) (QD.pb ZM) (fun _ _=>rfl))))) (QD.pb (UL (Zk (qv 1)) (U3 (JX (Zk (qv 2)) (QD.pb (Ux (by rfl) m.m_len (Jb (QD.pb (UM (Zk (qv 0)) (QD.pb ZM) (fun _ _=>rfl))) Jr))))) Ut))))))
noncomputable abbrev UU:Stmt:=top 6
theorem Dy:Yf ["rules","word","found","first"] ["rules","word"] (ZB UU):=⟨rfl,rfl,rfl,by decide +kernel,rfl,by decide +kernel,by decide +kernel⟩
theorem Z17 (m:Mg mg) (F:Fun K "first_next" "first_next" UU f fd) (c_put_right:Callee P w K mg base 1 "put_right" YJ):Me P w K mg base CX0 2 f fd ["rules","word"] (spF K Uy):=by
 have nd:=Dy.nd
 exact Fun.okQ F Dy rfl rfl fun cdv A outer s H E hr=>(ZC (Z3K (i:=2) nd (by rfl) (by walk_at "l") (by rfl) (Fo (N:=["rules","word","found","first"]) (sc:=ZB UU) (by rfl) (by rfl) (by decide +kernel)) (show (["k","rule","rules","word","found","first"]:Ls_).Nodup by decide +kernel) (by rfl) (by rfl) (Qb (by rfl) m.m_enumerate (ZD (qv 0))) (fun _ _ _ _ _=>NT) (fun _ _ _ _ _=>(Qu (Ze (Z5h (Zk (qv 3)) (QD.pb (UM (Zk (qv 1)) (QD.pb ZM) (fun _ _=>rfl)))) (Ze (ZD (qv 0)) J6))))) (ZC (JH (i:=3) nd (by rfl) (by walk_at "l") (ZaP hr (by rfl) (by rfl) m.m_min (Jb (QD.pb (QF.pd (Dz (by rfl) (Fo (N:=["rules","word","found","first"]) (sc:=ZB UU) (by rfl) (by rfl) (by decide +kernel)) (show (["pair","rules","word","found","first"]:Ls_).Nodup by decide +kernel) (by rfl) (NN (ZD (qv 2))) (fun _ _ _ _ _=>DA (Z86 (QD.pb (UM (Zk (qv 0)) (QD.pb ZM) (fun _ _=>rfl))) (QD.pb ZM))) (fun _ _ _ _ _=>(ZD (qv 0)))))) Jr) Bj)) (ZH (JW (QD.pb (ZcM (ZaN (Zk (qv 3)) (QD.pb Bj)) Bj (Jm c_put_right (hr.mono (by decide)) (by rfl) (Ze (UM (Zk (qv 0)) (QD.pb (UM (Zk (qv 3)) (QD.pb ZM) (fun _ _=>rfl))) (fun _ _=>rfl)) (Ze (ZD (qv 1)) (Ze (UM (Zk (qv 3)) (QD.pb ZM) (fun _ _=>rfl)) J6))))))))))
noncomputable abbrev Z6o:Stmt:=top 5
theorem ZcI:Yf ["rules","word","behind"] ["rules","word"] (ZB Z6o):=⟨rfl,rfl,rfl,by decide +kernel,rfl,by decide +kernel,by decide +kernel⟩
theorem ZgL (m:Mg mg) (F:Fun K "end" "end" Z6o f fd) (c_first_next:Callee P w K mg base 2 "first_next" Uy):Me P w K mg base CX0 3 f fd ["rules","word"] (spF K D9):=by
 have nd:=ZcI.nd
 exact Fun.okQ F ZcI rfl rfl fun cdv A outer s H E hr=>(ZC (JH (i:=2) nd (by rfl) (by walk_at "l") (Jm c_first_next (hr.mono (by decide)) (by rfl) (Ze (ZD (qv 0)) (Ze (ZD (qv 1)) J6)))) (ZC (Bi JC (Z85 (Zk (qv 2)) (QD.pb Bj)) (ZC (JH (i:=1) nd (by rfl) (by walk_at "l") (ZD (qv 2))) (ZH (JH (i:=2) nd (by rfl) (by walk_at "l") (Jm c_first_next (hr.mono (by decide)) (by rfl) (Ze (ZD (qv 0)) (Ze (ZD (qv 1)) J6))))))) (ZH (JW (Zk (qv 1))))))
noncomputable abbrev Nv:Stmt:=top 2
theorem BJ:Yf ["left","word","found","place"] ["left","word"] (ZB Nv):=⟨rfl,rfl,rfl,by decide +kernel,rfl,by decide +kernel,by decide +kernel⟩
theorem Z2m (m:Mg mg) (F:Fun K "places_of" "places_of" Nv f fd):Me P w K mg base CX0 1 f fd ["left","word"] (spF K YK):=by
 have nd:=BJ.nd
 exact Fun.okQ F BJ rfl rfl fun cdv A outer s H E hr=>(ZC (Ww (i:=2) nd (by rfl) (by walk_at "l") (Z0X .nil (by decide))) (ZC (JH (i:=3) nd (by rfl) (by walk_at "l") (Z5h (Zk (qv 1)) (Zk (qv 0)))) (ZC (Bi JC (Z86 (Zk (qv 3)) (QD.pb ZM)) (ZC (D5 (i:=2) (qv 2) (ZD (qv 3))) (ZH (JH (i:=3) nd (by rfl) (by walk_at "l") (Z89 (Zk (qv 1)) (Zk (qv 0)) (QD.pb (JX (Zk (qv 3)) (QD.pb ZM)))))))) (ZH (JW (Zk (qv 2)))))))
noncomputable abbrev Qp:Stmt:=top 1
theorem Z25:Yf ["rules","word","found","k","rule"] ["rules","word"] (ZB Qp):=⟨rfl,rfl,rfl,by decide +kernel,rfl,by decide +kernel,by decide +kernel⟩
theorem Z8G (m:Mg mg) (F:Fun K "places" "places" Qp f fd) (c_places_of:Callee P w K mg base 1 "places_of" YK):Me P w K mg base CX0 2 f fd ["rules","word"] (spF K NB):=by
 have nd:=Z25.nd
 exact Fun.okQ F Z25 rfl rfl fun cdv A outer s H E hr=>(ZC (Ww (i:=2) nd (by rfl) (by walk_at "l") (Z0X .nil (by decide))) (ZC (Gs JC (by rfl) (Qb (by rfl) m.m_enumerate (ZD (qv 0))) (Wx (i:=3) (j:=4) (by rfl) nd (by rfl) (by rfl) (by walk_at "l") (by walk_at "l")) (ZH (C0 (i:=2) (qv 2) (QD.pb (QF.pd (Dz (by rfl) (Fo (N:=["rules","word","found","k","rule"]) (sc:=ZB Qp) (by rfl) (by rfl) (by decide +kernel)) (show (["place","rules","word","found","k","rule"]:Ls_).Nodup by decide +kernel) (by rfl) (NN (Jm c_places_of (hr.mono (by decide)) (by rfl) (Ze (UM (Zk (qv 4)) (QD.pb ZM) (fun _ _=>rfl)) (Ze (ZD (qv 1)) J6)))) (fun _ _ _ _ _=>NT) (fun _ _ _ _ _=>(Qu (Ze (ZD (qv 0)) (Ze (ZD (qv 4)) J6)))))))))) (ZH (JW (QD.pb (NU (by rfl) m.m_tuple (Jb (QD.pb (QF.pd (Z82 (by rfl) m.m_sorted (Jb (Zk (qv 2)) Jr)))) Jr)))))))
noncomputable abbrev D4:Stmt:=top 4
theorem Z57:Yf ["rules","word"] ["rules","word"] (ZB D4):=⟨rfl,rfl,rfl,by decide +kernel,rfl,by decide +kernel,by decide +kernel⟩
theorem Zbt (m:Mg mg) (F:Fun K "nexts" "nexts" D4 f fd) (c_put_right:Callee P w K mg base 1 "put_right" YJ) (c_places:Callee P w K mg base 2 "places" NB):Me P w K mg base CX0 3 f fd ["rules","word"] (spF K Qc):=by
 have nd:=Z57.nd
 exact Fun.okQ F Z57 rfl rfl fun cdv A outer s H E hr=>(ZH (JW (QD.pb (NU (by rfl) m.m_tuple (Jb (QD.pb (QF.pd (Qr (by rfl) (by rfl) m.m_sorted (by rfl) m.m_set (Jb (QD.pb (QF.pd (Z2e (by rfl) (Fo (N:=["rules","word"]) (sc:=ZB D4) (by rfl) (by rfl) (by decide +kernel)) (show (["place","k","rules","word"]:Ls_).Nodup by decide +kernel) (by rfl) (by rfl) (Z5g (Jm c_places (hr.mono (by decide)) (by rfl) (Ze (ZD (qv 0)) (Ze (ZD (qv 1)) J6)))) (fun _ _ _ _ _=>NT) (fun _ _ _ _ _=>(Jm c_put_right (hr.mono (by decide)) (by rfl) (Ze (UM (Zk (qv 2)) (Zk (qv 1)) (fun _ _=>rfl)) (Ze (ZD (qv 3)) (Ze (ZD (qv 0)) J6)))))))) Jr)))) Jr)))))
noncomputable abbrev Uf:Stmt:=top 15
theorem QP:Yf ["rules","word"] ["rules","word"] (ZB Uf):=⟨rfl,rfl,rfl,by decide +kernel,rfl,by decide +kernel,by decide +kernel⟩
theorem Fj (m:Mg mg) (F:Fun K "ends_of_nexts" "ends_of_nexts" Uf f fd) (c_end:Callee P w K mg base 3 "end" D9) (c_nexts:Callee P w K mg base 3 "nexts" Qc):Me P w K mg base CX0 4 f fd ["rules","word"] (spF K JN):=by
 have nd:=QP.nd
 exact Fun.okQ F QP rfl rfl fun cdv A outer s H E hr=>(ZH (JW (QD.pb (NU (by rfl) m.m_tuple (Jb (QD.pb (QF.pd (Qr (by rfl) (by rfl) m.m_sorted (by rfl) m.m_set (Jb (QD.pb (QF.pd (Dz (by rfl) (Fo (N:=["rules","word"]) (sc:=ZB Uf) (by rfl) (by rfl) (by decide +kernel)) (show (["behind","rules","word"]:Ls_).Nodup by decide +kernel) (by rfl) (NN (Jm c_nexts (hr.mono (by decide)) (by rfl) (Ze (ZD (qv 0)) (Ze (ZD (qv 1)) J6)))) (fun _ _ _ _ _=>NT) (fun _ _ _ _ _=>(Jm c_end (hr.mono (by decide)) (by rfl) (Ze (ZD (qv 1)) (Ze (ZD (qv 0)) J6))))))) Jr)))) Jr)))))
noncomputable abbrev Q6:Stmt:=top 12
theorem Z09:Yf ["left","other","place"] ["left","other","place"] (ZB Q6):=⟨rfl,rfl,rfl,by decide +kernel,rfl,by decide +kernel,by decide +kernel⟩
theorem Z6I (m:Mg mg) (F:Fun K "overlay" "overlay" Q6 f fd):Me P w K mg base CX0 1 f fd ["left","other","place"] (spF K NC):=by
 have nd:=Z09.nd
 exact Fun.okQ F Z09 rfl rfl fun cdv A outer s H E hr=>(ZH (JW (QD.pb (JX (QD.pb (JX (QD.pb (UL (Zk (qv 0)) Ut (U3 (ZD (qv 2))))) (Zk (qv 1)))) (QD.pb (UL (Zk (qv 0)) (U3 (JX (Zk (qv 2)) (QD.pb (Ux (by rfl) m.m_len (Jb (Zk (qv 1)) Jr))))) Ut))))))
noncomputable abbrev GV:Stmt:=top 11
theorem FW:Yf ["left","other","start","words"] ["left","other","start"] (ZB GV):=⟨rfl,rfl,rfl,by decide +kernel,rfl,by decide +kernel,by decide +kernel⟩
theorem Z3V (m:Mg mg) (F:Fun K "overlays" "overlays" GV f fd) (c_overlay:Callee P w K mg base 1 "overlay" NC):Me P w K mg base CX0 2 f fd ["left","other","start"] (spF K GW):=by
 have nd:=FW.nd
 exact Fun.okQ F FW rfl rfl fun cdv A outer s H E hr=>(ZC (Qt (i:=3) nd (by rfl) (by walk_at "l") (by rfl) (Fo (N:=["left","other","start","words"]) (sc:=ZB GV) (by rfl) (by rfl) (by decide +kernel)) (show (["place","left","other","start","words"]:Ls_).Nodup by decide +kernel) (by rfl) (Z3L (by rfl) m.m_range (ZD (qv 2)) (Ux (by rfl) m.m_len (Jb (Zk (qv 0)) Jr))) (fun _ _ _ _ _=>NT) (fun _ _ _ _ _=>(Jm c_overlay (hr.mono (by decide)) (by rfl) (Ze (ZD (qv 1)) (Ze (ZD (qv 2)) (Ze (ZD (qv 0)) J6)))))) (ZH (JW (QD.pb (QF.pd (Dz (by rfl) (Fo (N:=["left","other","start","words"]) (sc:=ZB GV) (by rfl) (by rfl) (by decide +kernel)) (show (["word","left","other","start","words"]:Ls_).Nodup by decide +kernel) (by rfl) (NN (ZD (qv 3))) (fun _ _ _ _ _=>DA (Qs (Wy (Zk (qv 0)) (Zk (qv 1))))) (fun _ _ _ _ _=>(ZD (qv 0)))))))))
noncomputable abbrev Qa:Stmt:=top 10
theorem Z0e:Yf ["rules","found","i","rule","j","other"] ["rules"] (ZB Qa):=⟨rfl,rfl,rfl,by decide +kernel,rfl,by decide +kernel,by decide +kernel⟩
theorem Z6N (m:Mg mg) (F:Fun K "clashes" "clashes" Qa f fd) (c_overlays:Callee P w K mg base 2 "overlays" GW):Me P w K mg base CX0 3 f fd ["rules"] (spF K UW):=by
 have nd:=Z0e.nd
 exact Fun.okQ F Z0e rfl rfl fun cdv A outer s H E hr=>(ZC (Ww (i:=1) nd (by rfl) (by walk_at "l") (Z0X .nil (by decide))) (ZC (Gs JC (by rfl) (Qb (by rfl) m.m_enumerate (ZD (qv 0))) (Wx (i:=2) (j:=3) (by rfl) nd (by rfl) (by rfl) (by walk_at "l") (by walk_at "l")) (ZH (Gs JC (by rfl) (Qb (by rfl) m.m_enumerate (ZD (qv 0))) (Wx (i:=4) (j:=5) (by rfl) nd (by rfl) (by rfl) (by walk_at "l") (by walk_at "l")) (ZH (C0 (i:=1) (qv 1) (QD.pb (Jm c_overlays (hr.mono (by decide)) (by rfl) (Ze (UM (Zk (qv 3)) (QD.pb ZM) (fun _ _=>rfl)) (Ze (UM (Zk (qv 5)) (QD.pb ZM) (fun _ _=>rfl)) (Ze (ZcM (Z0Z hr (Zk (qv 2)) (Zk (qv 4))) ZM ZM) J6)))))))))) (ZH (JW (QD.pb (NU (by rfl) m.m_tuple (Jb (QD.pb (QF.pd (Qr (by rfl) (by rfl) m.m_sorted (by rfl) m.m_set (Jb (Zk (qv 1)) Jr)))) Jr)))))))
noncomputable abbrev Z0f:Stmt:=top 8
theorem Z7T:Yf ["word"] ["word"] (ZB Z0f):=⟨rfl,rfl,rfl,by decide +kernel,rfl,by decide +kernel,by decide +kernel⟩
theorem ZeD (m:Mg mg) (F:Fun K "rank" "rank" Z0f f fd):Me P w K mg base CX0 1 f fd ["word"] (spF K YI):=by
 have nd:=Z7T.nd
 exact Fun.okQ F Z7T rfl rfl fun cdv A outer s H E hr=>(ZH (JW (QD.pb (Qu (Ze (Ux (by rfl) m.m_len (Jb (Zk (qv 0)) Jr)) (Ze (ZD (qv 0)) J6))))))
noncomputable abbrev Wa:Stmt:=top 17
theorem Z59:Yf ["rules","found","added"] ["rules"] (ZB Wa):=⟨rfl,rfl,rfl,by decide +kernel,rfl,by decide +kernel,by decide +kernel⟩
theorem Zbv (m:Mg mg) (F:Fun K "grown" "grown" Wa f fd) (c_ends_of_nexts:Callee P w K mg base 4 "ends_of_nexts" JN) (c_clashes:Callee P w K mg base 3 "clashes" UW) (c_rank:Callee P w K mg base 1 "rank" YI):Me P w K mg base CX0 5 f fd ["rules"] (spF K Wb):=by
 have nd:=Z59.nd
 exact Fun.okQ F Z59 rfl rfl fun cdv A outer s H E hr=>(ZC (Qt (i:=1) nd (by rfl) (by walk_at "l") (by rfl) (Fo (N:=["rules","found","added"]) (sc:=ZB Wa) (by rfl) (by rfl) (by decide +kernel)) (show (["word","rules","found","added"]:Ls_).Nodup by decide +kernel) (by rfl) (NN (Jm c_clashes (hr.mono (by decide)) (by rfl) (Ze (ZD (qv 0)) J6))) (fun _ _ _ _ _=>NT) (fun _ _ _ _ _=>(Jm c_ends_of_nexts (hr.mono (by decide)) (by rfl) (Ze (ZD (qv 1)) (Ze (ZD (qv 0)) J6))))) (ZC (Qt (i:=2) nd (by rfl) (by walk_at "l") (by rfl) (Fo (N:=["rules","found","added"]) (sc:=ZB Wa) (by rfl) (by rfl) (by decide +kernel)) (show (["words","rules","found","added"]:Ls_).Nodup by decide +kernel) (by rfl) (NN (ZD (qv 1))) (fun _ _ _ _ _=>DA (Bh (QD.pb (Ux (by rfl) m.m_len (Jb (Zk (qv 0)) Jr))) (QD.pb ZM))) (fun _ _ _ _ _=>(Qu (Ze (Z88 ZgX c_rank (hr.mono (by decide)) (by rfl) (by rfl) (by rfl) m.m_max (Jb (Zk (qv 0)) Jr)) (Ze (Z88 ZgW c_rank (hr.mono (by decide)) (by rfl) (by rfl) (by rfl) m.m_min (Jb (Zk (qv 0)) Jr)) J6))))) (ZH (JW (QD.pb (JX (Zk (qv 0)) (QD.pb (NU (by rfl) m.m_tuple (Jb (QD.pb (QF.pd (Z2c hr (by rfl) (by rfl) m.m_sorted (by rfl) m.m_set (Jb (Zk (qv 2)) Jr)))) Jr)))))))))
noncomputable abbrev Nz:Stmt:=top 19
theorem BM:Yf ["_law_script","_law_k"] ["_law_script","_law_k"] (ZB Nz):=⟨rfl,rfl,rfl,by decide +kernel,rfl,by decide +kernel,by decide +kernel⟩
theorem Z2p (m:Mg mg) (F:Fun K "_law_cell_at" "_law_cell_at" Nz f fd):Me P w K mg base CX0 1 f fd ["_law_script","_law_k"] (spF K Gv):=by
 have nd:=BM.nd
 exact Fun.okQ F BM rfl rfl fun cdv A outer s H E hr=>(ZC (Nb (ZdL hr (Zk (qv 1)) (QD.pb (Ux (by rfl) m.m_len (Jb (Zk (qv 0)) Jr)))) (ZH (JW (QD.pb (UM (Zk (qv 0)) (Zk (qv 1)) (fun _ _=>rfl))))) G2) (ZH (JW (QD.pb ZM))))
noncomputable abbrev Q8:Stmt:=top 20
theorem Z0c:Yf ["_law_script","_law_k","_law_drawn_here"] ["_law_script","_law_k"] (ZB Q8):=⟨rfl,rfl,rfl,by decide +kernel,rfl,by decide +kernel,by decide +kernel⟩
theorem Z6L (m:Mg mg) (F:Fun K "_law_mixed" "_law_mixed" Q8 f fd) (c_l_cell_at:Callee P w K mg base 1 "_law_cell_at" Gv):Me P w K mg base CX0 2 f fd ["_law_script","_law_k"] (spF K Mp):=by
 have nd:=Z0c.nd
 exact Fun.okQ F Z0c rfl rfl fun cdv A outer s H E hr=>(ZC (JH (i:=2) nd (by rfl) (by walk_at "l") (UV (QD.pb (UK (QD.pb (JX (QD.pb (JX (QD.pb (Jm c_l_cell_at (hr.mono (by decide)) (by rfl) (Ze (ZD (qv 0)) (Ze (ZD (qv 1)) J6)))) (QD.pb (UK (QD.pb ZM) (Zk (qv 1)))))) (QD.pb ZM))) (QD.pb ZM))) (QD.pb ZM))) (ZH (JW (QD.pb (UV (QD.pb (JX (QD.pb (JX (QD.pb (UK (Zk (qv 2)) (Zk (qv 2)))) (QD.pb (UK (QD.pb ZM) (Zk (qv 2)))))) (Zk (qv 1)))) (QD.pb ZM))))))
noncomputable abbrev Bf:Stmt:=top 13
theorem Z5a:Yf ["rules","word"] ["rules"] (ZB Bf):=⟨rfl,rfl,rfl,by decide +kernel,rfl,by decide +kernel,by decide +kernel⟩
theorem Zbw (m:Mg mg) (F:Fun K "doubt" "doubt" Bf f fd) (c_clashes:Callee P w K mg base 3 "clashes" UW) (c_rank:Callee P w K mg base 1 "rank" YI) (c_ends_of_nexts:Callee P w K mg base 4 "ends_of_nexts" JN):Me P w K mg base CX0 5 f fd ["rules"] (spF K Mq):=by
 have nd:=Z5a.nd
 exact Fun.okQ F Z5a rfl rfl fun cdv A outer s H E hr=>(ZC (Gs JC (by rfl) (NN (QF.pd (Z80 c_rank (hr.mono (by decide)) (by rfl) (by rfl) m.m_sorted (Jb (QD.pb (Jm c_clashes (hr.mono (by decide)) (by rfl) (Ze (ZD (qv 0)) J6))) Jr)))) (MN (i:=1) nd (by rfl) (by walk_at "l")) (ZH (Nb (Bh (QD.pb (Ux (by rfl) m.m_len (Jb (QD.pb (Jm c_ends_of_nexts (hr.mono (by decide)) (by rfl) (Ze (ZD (qv 0)) (Ze (ZD (qv 1)) J6)))) Jr))) (QD.pb ZM)) (ZH (JW (Zk (qv 1)))) G2))) (ZH (JW (QD.pb Bj))))
noncomputable abbrev Mh:Stmt:=top 14
theorem FY:Yf ["rules"] ["rules"] (ZB Mh):=⟨rfl,rfl,rfl,by decide +kernel,rfl,by decide +kernel,by decide +kernel⟩
theorem Z3X (m:Mg mg) (F:Fun K "are_sure" "are_sure" Mh f fd) (c_doubt:Callee P w K mg base 5 "doubt" Mq):Me P w K mg base CX0 6 f fd ["rules"] (spF K NW):=by
 have nd:=FY.nd
 exact Fun.okQ F FY rfl rfl fun cdv A outer s H E hr=>(ZH (JW (QD.pb (ZdO (QD.pb (Jm c_doubt (hr.mono (by decide)) (by rfl) (Ze (ZD (qv 0)) J6))) (QD.pb Bj)))))
noncomputable abbrev Nw:Stmt:=top 27
theorem FX:Yf ["_law_rules_here","_law_word_here","_law_found","_law_place"] ["_law_rules_here","_law_word_here"] (ZB Nw):=⟨rfl,rfl,rfl,by decide +kernel,rfl,by decide +kernel,by decide +kernel⟩
theorem Z3W (m:Mg mg) (F:Fun K "_law_places" "_law_places" Nw f fd):Me P w K mg base CX0 1 f fd ["_law_rules_here","_law_word_here"] (spF K Uu):=by
 have nd:=FX.nd
 exact Fun.okQ F FX rfl rfl fun cdv A outer s H E hr=>(ZC (JH (i:=2) nd (by rfl) (by walk_at "l") (Z10 (.lst .nil (by decide)))) (ZC (Gs JC (by rfl) (NA (by rfl) m.m_range (Ux (by rfl) m.m_len (Jb (Zk (qv 1)) Jr))) (MN (i:=3) nd (by rfl) (by walk_at "l")) (ZH (JH (i:=2) nd (by rfl) (by walk_at "l") (JX (Zk (qv 2)) (QD.pb (QF.pd (Z2e (by rfl) (Fo (N:=["_law_rules_here","_law_word_here","_law_found","_law_place"]) (sc:=ZB Nw) (by rfl) (by rfl) (by decide +kernel)) (show (["_law_k","_law_rule_here","_law_rules_here","_law_word_here","_law_found","_law_place"]:Ls_).Nodup by decide +kernel) (by rfl) (by rfl) (Qb (by rfl) m.m_enumerate (ZD (qv 0))) (fun _ _ _ _ _=>DA (Qs (Wy (QD.pb (UL (Zk (qv 3)) (U3 (ZD (qv 5))) Ut)) (QD.pb (UM (Zk (qv 1)) (QD.pb ZM) (fun _ _=>rfl)))))) (fun _ _ _ _ _=>(Qu (Ze (ZD (qv 5)) (Ze (ZD (qv 0)) J6))))))))))) (ZH (JW (Zk (qv 2))))))
noncomputable abbrev Ny:Stmt:=top 28
theorem BL:Yf ["_law_rules_here","_law_word_here","_law_place","_law_k","_law_left","_law_right"] ["_law_rules_here","_law_word_here","_law_place","_law_k"] (ZB Ny):=⟨rfl,rfl,rfl,by decide +kernel,rfl,by decide +kernel,by decide +kernel⟩
theorem Z2o (m:Mg mg) (F:Fun K "_law_changed" "_law_changed" Ny f fd):Me P w K mg base CX0 1 f fd ["_law_rules_here","_law_word_here","_law_place","_law_k"] (spF K YL):=by
 have nd:=BL.nd
 exact Fun.okQ F BL rfl rfl fun cdv A outer s H E hr=>(ZC (ZaO (UM (Zk (qv 0)) (Zk (qv 3)) (fun _ _=>rfl)) (Wx (i:=4) (j:=5) (by rfl) nd (by rfl) (by rfl) (by walk_at "l") (by walk_at "l"))) (ZH (JW (QD.pb (JX (QD.pb (JX (QD.pb (UL (Zk (qv 1)) Ut (U3 (ZD (qv 2))))) (Zk (qv 5)))) (QD.pb (UL (Zk (qv 1)) (U3 (JX (Zk (qv 2)) (QD.pb (Ux (by rfl) m.m_len (Jb (Zk (qv 4)) Jr))))) Ut)))))))
noncomputable abbrev Be:Stmt:=top 31
theorem Z58:Yf ["_law_rules_here","_law_word_here","_law_here","_law_some"] ["_law_rules_here","_law_word_here"] (ZB Be):=⟨rfl,rfl,rfl,by decide +kernel,rfl,by decide +kernel,by decide +kernel⟩
theorem Zbu (m:Mg mg) (F:Fun K "_law_end" "_law_end" Be f fd) (c_l_places:Callee P w K mg base 1 "_law_places" Uu) (c_l_changed:Callee P w K mg base 1 "_law_changed" YL):Me P w K mg base CX0 2 f fd ["_law_rules_here","_law_word_here"] (spF K NV):=by
 have nd:=Z58.nd
 exact Fun.okQ F Z58 rfl rfl fun cdv A outer s H E hr=>(ZC (JH (i:=2) nd (by rfl) (by walk_at "l") (ZD (qv 1))) (ZC (JH (i:=3) nd (by rfl) (by walk_at "l") (Jm c_l_places (hr.mono (by decide)) (by rfl) (Ze (ZD (qv 0)) (Ze (ZD (qv 2)) J6)))) (ZC (Bi JC (Z0Y hr (Zk (qv 3)) (QD.pb (Z10 (.lst .nil (by decide))))) (ZC (JH (i:=2) nd (by rfl) (by walk_at "l") (Jm c_l_changed (hr.mono (by decide)) (by rfl) (Ze (ZD (qv 0)) (Ze (ZD (qv 2)) (Ze (UM (QD.pb (UM (Zk (qv 3)) (QD.pb ZM) (fun _ _=>rfl))) (QD.pb ZM) (fun _ _=>rfl)) (Ze (UM (QD.pb (UM (Zk (qv 3)) (QD.pb ZM) (fun _ _=>rfl))) (QD.pb ZM) (fun _ _=>rfl)) J6)))))) (ZH (JH (i:=3) nd (by rfl) (by walk_at "l") (Jm c_l_places (hr.mono (by decide)) (by rfl) (Ze (ZD (qv 0)) (Ze (ZD (qv 2)) J6))))))) (ZH (JW (Zk (qv 2)))))))
noncomputable abbrev Q7:Stmt:=top 29
theorem Z0b:Yf ["_law_rules_here","_law_word_here","_law_found","_law_place","_law_k"] ["_law_rules_here","_law_word_here"] (ZB Q7):=⟨rfl,rfl,rfl,by decide +kernel,rfl,by decide +kernel,by decide +kernel⟩
theorem Z6K (m:Mg mg) (F:Fun K "_law_nexts" "_law_nexts" Q7 f fd) (c_l_places:Callee P w K mg base 1 "_law_places" Uu) (c_l_changed:Callee P w K mg base 1 "_law_changed" YL):Me P w K mg base CX0 2 f fd ["_law_rules_here","_law_word_here"] (spF K Gk):=by
 have nd:=Z0b.nd
 exact Fun.okQ F Z0b rfl rfl fun cdv A outer s H E hr=>(ZC (Ww (i:=2) nd (by rfl) (by walk_at "l") (Z0X .nil (by decide))) (ZC (Gs JC (by rfl) (Z5g (Jm c_l_places (hr.mono (by decide)) (by rfl) (Ze (ZD (qv 0)) (Ze (ZD (qv 1)) J6)))) (Wx (i:=3) (j:=4) (by rfl) nd (by rfl) (by rfl) (by walk_at "l") (by walk_at "l")) (ZH (D5 (i:=2) (qv 2) (Jm c_l_changed (hr.mono (by decide)) (by rfl) (Ze (ZD (qv 0)) (Ze (ZD (qv 1)) (Ze (ZD (qv 3)) (Ze (ZD (qv 4)) J6)))))))) (ZH (JW (QD.pb (QF.pd (Qr (by rfl) (by rfl) m.m_sorted (by rfl) m.m_set (Jb (Zk (qv 2)) Jr))))))))
noncomputable abbrev CN:Stmt:=top 32
theorem ZcH:Yf ["_law_script","_law_rules_here","_law_due","_law_word_here","_law_some","_law_low","_law_high","_law_other","_law_found"] ["_law_script"] (ZB CN):=⟨rfl,rfl,rfl,by decide +kernel,rfl,by decide +kernel,by decide +kernel⟩
theorem ZgK (m:Mg mg) (F:Fun K "law" "law" CN f fd) (c_l_rules:Callee P w K mg base 4 "_law_rules" ND) (c_l_clashes:Callee P w K mg base 1 "_law_clashes" Ng) (c_grown:Callee P w K mg base 5 "grown" Wb) (c_l_mixed:Callee P w K mg base 2 "_law_mixed" Mp) (c_are_sure:Callee P w K mg base 6 "are_sure" NW) (c_l_end:Callee P w K mg base 2 "_law_end" NV) (c_l_less:Callee P w K mg base 1 "_law_less" Ub) (c_l_nexts:Callee P w K mg base 2 "_law_nexts" Gk):Me P w K mg base CX0 7 f fd ["_law_script"] (spF K D8):=by
 have nd:=ZcH.nd
 exact Fun.okQ F ZcH rfl rfl fun cdv A outer s H E hr=>(ZC (JH (i:=1) nd (by rfl) (by walk_at "l") (Jm c_l_rules (hr.mono (by decide)) (by rfl) (Ze (Jm c_l_mixed (hr.mono (by decide)) (by rfl) (Ze (ZD (qv 0)) (Ze ZM J6))) J6))) (ZC (Z6t (i:=2) nd (by rfl) (by walk_at "l")) (ZC (Gs JC (by rfl) (NN (Jm c_l_clashes (hr.mono (by decide)) (by rfl) (Ze (ZD (qv 1)) J6))) (MN (i:=3) nd (by rfl) (by walk_at "l")) (ZC (Z2g (m:=[7]) (i:=4) nd (by rfl) (by walk_at "l") (by rfl) (Fo (N:=["_law_script","_law_rules_here","_law_due","_law_word_here","_law_some","_law_low","_law_high","","_law_found"]) (sc:=ZB CN) (by rfl) (by rfl) (by decide +kernel)) (show (["_law_other","_law_script","_law_rules_here","_law_due","_law_word_here","_law_some","_law_low","_law_high","","_law_found"]:Ls_).Nodup by decide +kernel) (by rfl) (NN (Jm c_l_nexts (hr.mono (by decide)) (by rfl) (Ze (ZD (qv 1)) (Ze (ZD (qv 3)) J6)))) (fun _ _ _ _ _=>NT) (fun _ _ _ _ _=>(Jm c_l_end (hr.mono (by decide)) (by rfl) (Ze (ZD (qv 2)) (Ze (ZD (qv 0)) J6))))) (ZC (JH (i:=5) nd (by rfl) (by walk_at "l") (UM (Zk (qv 4)) (QD.pb ZM) (fun _ _=>rfl))) (ZC (JH (i:=6) nd (by rfl) (by walk_at "l") (UM (Zk (qv 4)) (QD.pb ZM) (fun _ _=>rfl))) (ZC (Gs JC (by rfl) (NN (ZD (qv 4))) (MN (i:=7) nd (by rfl) (by walk_at "l")) (ZC (Nb (Qs (Jm c_l_less (hr.mono (by decide)) (by rfl) (Ze (ZD (qv 7)) (Ze (ZD (qv 5)) J6)))) (ZH (JH (i:=5) nd (by rfl) (by walk_at "l") (ZD (qv 7)))) G2) (ZH (Nb (Qs (Jm c_l_less (hr.mono (by decide)) (by rfl) (Ze (ZD (qv 6)) (Ze (ZD (qv 7)) J6)))) (ZH (JH (i:=6) nd (by rfl) (by walk_at "l") (ZD (qv 7)))) G2)))) (ZH (Nb (Z0Y hr (Zk (qv 5)) (Zk (qv 6))) (ZH (Z6s hr (qv 2) (Ze (ZD (qv 6)) (Ze (ZD (qv 5)) J6)) Z5i)) G2))))))) (ZC (JH (i:=8) nd (by rfl) (by walk_at "l") (Jm c_grown (hr.mono (by decide)) (by rfl) (Ze (ZD (qv 1)) J6))) (ZC (Nb (Z0Y hr (Zk (qv 8)) (QD.pb (JX (Zk (qv 1)) (QD.pb (NU (by rfl) m.m_tuple (Jb (QD.pb (QF.pd (Z6r (by rfl) (by rfl) m.m_sorted (qv 2)))) Jr)))))) (ZH (JW (QD.pb Z5i))) G2) (ZH (JW (QD.pb (ZcN hr (QD.pb (ZcN hr (Zk (qv 8)) (Zk (qv 1)))) (QD.pb (Jm c_are_sure (hr.mono (by decide)) (by rfl) (Ze (ZD (qv 1)) J6))))))))))))
end
theorem us0 {P:List Value->Prop}(h:P [])(us:Lu_)(e:us.length=0):P us:=by
 cases us
 ·exact h
 ·cases e
theorem usS {n:Nat}{P:List Value->Prop}(h:∀ x us,us.length=n->P (x::us))(us:Lu_)(e:us.length=n+1):P us:=by
 cases us
 ·cases e
 ·exact h _ _ (Nat.succ.inj e)
theorem us1 {P:List Value->Prop}(h:∀ x0,P [x0]):∀ us:Lu_,us.length=1->P us:=usS fun x0=>us0 (P:=fun l=>P (x0::l)) (h x0)
theorem us2 {P:List Value->Prop}(h:∀ x0 x1,P [x0,x1]):∀ us:Lu_,us.length=2->P us:=usS fun x0=>us1 (P:=fun l=>P (x0::l)) (h x0)
theorem us3 {P:List Value->Prop}(h:∀ x0 x1 x2,P [x0,x1,x2]):∀ us:Lu_,us.length=3->P us:=usS fun x0=>us2 (P:=fun l=>P (x0::l)) (h x0)
theorem us4 {P:List Value->Prop}(h:∀ x0 x1 x2 x3,P [x0,x1,x2,x3]):∀ us:Lu_,us.length=4->P us:=usS fun x0=>us3 (P:=fun l=>P (x0::l)) (h x0)
theorem all_mk {l:CK} {w:World} {K:Fg_} {h:Heap} {mg:Str->Option Value} {fa f0 f1 f2 f3 f4 f5 f6 f7 f8 f9 f10 f11 f12 f13 f14 f15 f16 f17 f18 f19 f20 f21 f22 f23 f24 f25 f26 f27:Addr} (X:K.In h) (G:h.Ns mainGlobals mg) (hfa:mg "law"=some (.ref fa))
  {od0 an0 od1 an1 od2 an2 od3 an3 od4 an4 od5 an5 od6 an6 od7 an7 od8 an8 od9 an9 od10 an10 od11 an11 od12 an12 od13 an13 od14 an14 od15 an15 od16 an16 od17 an17 od18 an18 od19 an19 od20 an20 od21 an21 od22 an22 od23 an23 od24 an24 od25 an25 od26 an26 od27 an27:Option Addr} {sl0 sl1 sl2 sl3 sl4 sl5 sl6 sl7 sl8 sl9 sl10 sl11 sl12 sl13 sl14 sl15 sl16 sl17 sl18 sl19 sl20 sl21 sl22 sl23 sl24 sl25 sl26 sl27:Array (Option Value)} {oc0 kV0 dc0 pm0 cd0 ct0 oc1 kV1 dc1 pm1 cd1 ct1 oc2 kV2 dc2 pm2 cd2 ct2 oc3 kV3 dc3 pm3 cd3 ct3 oc4 kV4 dc4 pm4 cd4 ct4 oc5 kV5 dc5 pm5 cd5 ct5 oc6 kV6 dc6 pm6 cd6 ct6 oc7 kV7 dc7 pm7 cd7 ct7 oc8 kV8 dc8 pm8 cd8 ct8 oc9 kV9 dc9 pm9 cd9 ct9 oc10 kV10 dc10 pm10 cd10 ct10 oc11 kV11 dc11 pm11 cd11 ct11 oc12 kV12 dc12 pm12 cd12 ct12 oc13 kV13 dc13 pm13 cd13 ct13 oc14 kV14 dc14 pm14 cd14 ct14 oc15 kV15 dc15 pm15 cd15 ct15 oc16 kV16 dc16 pm16 cd16 ct16 oc17 kV17 dc17 pm17 cd17 ct17 oc18 kV18 dc18 pm18 cd18 ct18 oc19 kV19 dc19 pm19 cd19 ct19 oc20 kV20 dc20 pm20 cd20 ct20 oc21 kV21 dc21 pm21 cd21 ct21 oc22 kV22 dc22 pm22 cd22 ct22 oc23 kV23 dc23 pm23 cd23 ct23 oc24 kV24 dc24 pm24 cd24 ct24 oc25 kV25 dc25 pm25 cd25 ct25 oc26 kV26 dc26 pm26 cd26 ct26 oc27 kV27 dc27 pm27 cd27 ct27:Value}
  (a0:ZN K mainGlobals "_law_drawn"=some (some (.ref f0))) (l0:K.lookup f0=some ⟨oc0,od0,.func (ZU "_law_drawn" "_law_drawn" (Yd Q9) (Y3 Q9) (ZB Q9) .none kV0 dc0 pm0 an0 cd0 ct0),sl0⟩) (q0:ZL K cd0 "_law_drawn"=true) (k0:ZK K (.ref f0)=true)
  (a1:ZN K mainGlobals "_law_tame"=some (some (.ref f1))) (l1:K.lookup f1=some ⟨oc1,od1,.func (ZU "_law_tame" "_law_tame" (Yd Wt) (Y3 Wt) (ZB Wt) .none kV1 dc1 pm1 an1 cd1 ct1),sl1⟩) (q1:ZL K cd1 "_law_tame"=true) (k1:ZK K (.ref f1)=true)
  (a2:ZN K mainGlobals "_law_word"=some (some (.ref f2))) (l2:K.lookup f2=some ⟨oc2,od2,.func (ZU "_law_word" "_law_word" (Yd Ws) (Y3 Ws) (ZB Ws) .none kV2 dc2 pm2 an2 cd2 ct2),sl2⟩) (q2:ZL K cd2 "_law_word"=true) (k2:ZK K (.ref f2)=true)
  (a3:ZN K mainGlobals "_law_less"=some (some (.ref f3))) (l3:K.lookup f3=some ⟨oc3,od3,.func (ZU "_law_less" "_law_less" (Yd Wv) (Y3 Wv) (ZB Wv) .none kV3 dc3 pm3 an3 cd3 ct3),sl3⟩) (q3:ZL K cd3 "_law_less"=true) (k3:ZK K (.ref f3)=true)
  (a4:ZN K mainGlobals "_law_rule"=some (some (.ref f4))) (l4:K.lookup f4=some ⟨oc4,od4,.func (ZU "_law_rule" "_law_rule" (Yd Wu) (Y3 Wu) (ZB Wu) .none kV4 dc4 pm4 an4 cd4 ct4),sl4⟩) (q4:ZL K cd4 "_law_rule"=true) (k4:ZK K (.ref f4)=true)
  (a5:ZN K mainGlobals "_law_rules"=some (some (.ref f5))) (l5:K.lookup f5=some ⟨oc5,od5,.func (ZU "_law_rules" "_law_rules" (Yd Mo) (Y3 Mo) (ZB Mo) .none kV5 dc5 pm5 an5 cd5 ct5),sl5⟩) (q5:ZL K cd5 "_law_rules"=true) (k5:ZK K (.ref f5)=true)
  (a6:ZN K mainGlobals "_law_clashes"=some (some (.ref f6))) (l6:K.lookup f6=some ⟨oc6,od6,.func (ZU "_law_clashes" "_law_clashes" (Yd Nx) (Y3 Nx) (ZB Nx) .none kV6 dc6 pm6 an6 cd6 ct6),sl6⟩) (q6:ZL K cd6 "_law_clashes"=true) (k6:ZK K (.ref f6)=true)
  (a7:ZN K mainGlobals "put_right"=some (some (.ref f7))) (l7:K.lookup f7=some ⟨oc7,od7,.func (ZU "put_right" "put_right" (Yd Nu) (Y3 Nu) (ZB Nu) .none kV7 dc7 pm7 an7 cd7 ct7),sl7⟩) (q7:ZL K cd7 "put_right"=true) (k7:ZK K (.ref f7)=true)
  (a8:ZN K mainGlobals "first_next"=some (some (.ref f8))) (l8:K.lookup f8=some ⟨oc8,od8,.func (ZU "first_next" "first_next" (Yd UU) (Y3 UU) (ZB UU) .none kV8 dc8 pm8 an8 cd8 ct8),sl8⟩) (q8:ZL K cd8 "first_next"=true) (k8:ZK K (.ref f8)=true)
  (a9:ZN K mainGlobals "end"=some (some (.ref f9))) (l9:K.lookup f9=some ⟨oc9,od9,.func (ZU "end" "end" (Yd Z6o) (Y3 Z6o) (ZB Z6o) .none kV9 dc9 pm9 an9 cd9 ct9),sl9⟩) (q9:ZL K cd9 "end"=true) (k9:ZK K (.ref f9)=true)
  (a10:ZN K mainGlobals "places_of"=some (some (.ref f10))) (l10:K.lookup f10=some ⟨oc10,od10,.func (ZU "places_of" "places_of" (Yd Nv) (Y3 Nv) (ZB Nv) .none kV10 dc10 pm10 an10 cd10 ct10),sl10⟩) (q10:ZL K cd10 "places_of"=true) (k10:ZK K (.ref f10)=true)
  (a11:ZN K mainGlobals "places"=some (some (.ref f11))) (l11:K.lookup f11=some ⟨oc11,od11,.func (ZU "places" "places" (Yd Qp) (Y3 Qp) (ZB Qp) .none kV11 dc11 pm11 an11 cd11 ct11),sl11⟩) (q11:ZL K cd11 "places"=true) (k11:ZK K (.ref f11)=true)
  (a12:ZN K mainGlobals "nexts"=some (some (.ref f12))) (l12:K.lookup f12=some ⟨oc12,od12,.func (ZU "nexts" "nexts" (Yd D4) (Y3 D4) (ZB D4) .none kV12 dc12 pm12 an12 cd12 ct12),sl12⟩) (q12:ZL K cd12 "nexts"=true) (k12:ZK K (.ref f12)=true)
  (a13:ZN K mainGlobals "ends_of_nexts"=some (some (.ref f13))) (l13:K.lookup f13=some ⟨oc13,od13,.func (ZU "ends_of_nexts" "ends_of_nexts" (Yd Uf) (Y3 Uf) (ZB Uf) .none kV13 dc13 pm13 an13 cd13 ct13),sl13⟩) (q13:ZL K cd13 "ends_of_nexts"=true) (k13:ZK K (.ref f13)=true)
  (a14:ZN K mainGlobals "overlay"=some (some (.ref f14))) (l14:K.lookup f14=some ⟨oc14,od14,.func (ZU "overlay" "overlay" (Yd Q6) (Y3 Q6) (ZB Q6) .none kV14 dc14 pm14 an14 cd14 ct14),sl14⟩) (q14:ZL K cd14 "overlay"=true) (k14:ZK K (.ref f14)=true)
  (a15:ZN K mainGlobals "overlays"=some (some (.ref f15))) (l15:K.lookup f15=some ⟨oc15,od15,.func (ZU "overlays" "overlays" (Yd GV) (Y3 GV) (ZB GV) .none kV15 dc15 pm15 an15 cd15 ct15),sl15⟩) (q15:ZL K cd15 "overlays"=true) (k15:ZK K (.ref f15)=true)
  (a16:ZN K mainGlobals "clashes"=some (some (.ref f16))) (l16:K.lookup f16=some ⟨oc16,od16,.func (ZU "clashes" "clashes" (Yd Qa) (Y3 Qa) (ZB Qa) .none kV16 dc16 pm16 an16 cd16 ct16),sl16⟩) (q16:ZL K cd16 "clashes"=true) (k16:ZK K (.ref f16)=true)
  (a17:ZN K mainGlobals "rank"=some (some (.ref f17))) (l17:K.lookup f17=some ⟨oc17,od17,.func (ZU "rank" "rank" (Yd Z0f) (Y3 Z0f) (ZB Z0f) .none kV17 dc17 pm17 an17 cd17 ct17),sl17⟩) (q17:ZL K cd17 "rank"=true) (k17:ZK K (.ref f17)=true)
  (a18:ZN K mainGlobals "grown"=some (some (.ref f18))) (l18:K.lookup f18=some ⟨oc18,od18,.func (ZU "grown" "grown" (Yd Wa) (Y3 Wa) (ZB Wa) .none kV18 dc18 pm18 an18 cd18 ct18),sl18⟩) (q18:ZL K cd18 "grown"=true) (k18:ZK K (.ref f18)=true)
  (a19:ZN K mainGlobals "_law_cell_at"=some (some (.ref f19))) (l19:K.lookup f19=some ⟨oc19,od19,.func (ZU "_law_cell_at" "_law_cell_at" (Yd Nz) (Y3 Nz) (ZB Nz) .none kV19 dc19 pm19 an19 cd19 ct19),sl19⟩) (q19:ZL K cd19 "_law_cell_at"=true) (k19:ZK K (.ref f19)=true)
  (a20:ZN K mainGlobals "_law_mixed"=some (some (.ref f20))) (l20:K.lookup f20=some ⟨oc20,od20,.func (ZU "_law_mixed" "_law_mixed" (Yd Q8) (Y3 Q8) (ZB Q8) .none kV20 dc20 pm20 an20 cd20 ct20),sl20⟩) (q20:ZL K cd20 "_law_mixed"=true) (k20:ZK K (.ref f20)=true)
  (a21:ZN K mainGlobals "doubt"=some (some (.ref f21))) (l21:K.lookup f21=some ⟨oc21,od21,.func (ZU "doubt" "doubt" (Yd Bf) (Y3 Bf) (ZB Bf) .none kV21 dc21 pm21 an21 cd21 ct21),sl21⟩) (q21:ZL K cd21 "doubt"=true) (k21:ZK K (.ref f21)=true)
  (a22:ZN K mainGlobals "are_sure"=some (some (.ref f22))) (l22:K.lookup f22=some ⟨oc22,od22,.func (ZU "are_sure" "are_sure" (Yd Mh) (Y3 Mh) (ZB Mh) .none kV22 dc22 pm22 an22 cd22 ct22),sl22⟩) (q22:ZL K cd22 "are_sure"=true) (k22:ZK K (.ref f22)=true)
  (a23:ZN K mainGlobals "_law_places"=some (some (.ref f23))) (l23:K.lookup f23=some ⟨oc23,od23,.func (ZU "_law_places" "_law_places" (Yd Nw) (Y3 Nw) (ZB Nw) .none kV23 dc23 pm23 an23 cd23 ct23),sl23⟩) (q23:ZL K cd23 "_law_places"=true) (k23:ZK K (.ref f23)=true)
  (a24:ZN K mainGlobals "_law_changed"=some (some (.ref f24))) (l24:K.lookup f24=some ⟨oc24,od24,.func (ZU "_law_changed" "_law_changed" (Yd Ny) (Y3 Ny) (ZB Ny) .none kV24 dc24 pm24 an24 cd24 ct24),sl24⟩) (q24:ZL K cd24 "_law_changed"=true) (k24:ZK K (.ref f24)=true)
  (a25:ZN K mainGlobals "_law_end"=some (some (.ref f25))) (l25:K.lookup f25=some ⟨oc25,od25,.func (ZU "_law_end" "_law_end" (Yd Be) (Y3 Be) (ZB Be) .none kV25 dc25 pm25 an25 cd25 ct25),sl25⟩) (q25:ZL K cd25 "_law_end"=true) (k25:ZK K (.ref f25)=true)
  (a26:ZN K mainGlobals "_law_nexts"=some (some (.ref f26))) (l26:K.lookup f26=some ⟨oc26,od26,.func (ZU "_law_nexts" "_law_nexts" (Yd Q7) (Y3 Q7) (ZB Q7) .none kV26 dc26 pm26 an26 cd26 ct26),sl26⟩) (q26:ZL K cd26 "_law_nexts"=true) (k26:ZK K (.ref f26)=true)
  (a27:ZN K mainGlobals "law"=some (some (.ref f27))) (l27:K.lookup f27=some ⟨oc27,od27,.func (ZU "law" "law" (Yd CN) (Y3 CN) (ZB CN) .none kV27 dc27 pm27 an27 cd27 ct27),sl27⟩) (q27:ZL K cd27 "law"=true) (k27:ZK K (.ref f27)=true)
  (z_enumerate:ZN K mainGlobals "enumerate"=some none)
  (z_len:ZN K mainGlobals "len"=some none)
  (z_max:ZN K mainGlobals "max"=some none)
  (z_min:ZN K mainGlobals "min"=some none)
  (z_range:ZN K mainGlobals "range"=some none)
  (z_set:ZN K mainGlobals "set"=some none)
  (z_sorted:ZN K mainGlobals "sorted"=some none)
  (z_tuple:ZN K mainGlobals "tuple"=some none)
 :∃ fd:Jc,(∀ (s:Shared) (v:Value),BindsTo s fd ⟨[v],[]⟩ [("_law_script",v)])/\∀ base:Heap,K.In base->base.Ns mainGlobals mg->Me l.prog w K mg base CX0 7 fa fd ["_law_script"] (spF K D8):=by
 have e:=hfa.symm.trans (J0 X G a27)
 cases e
 have m:Mg mg:=⟨YY X G z_enumerate,YY X G z_len,YY X G z_max,YY X G z_min,YY X G z_range,YY X G z_set,YY X G z_sorted,YY X G z_tuple⟩
 have F0:=UB (st:=Q9) l0 q0 k0
 have b0:=F0.binds (ps:=["_law_number","_law_k"]) fun _ _ _ _ _ _=>us2 fun _ _=>rfl
 have F1:=UB (st:=Wt) l1 q1 k1
 have b1:=F1.binds (ps:=["_law_number","_law_letters"]) fun _ _ _ _ _ _=>us2 fun _ _=>rfl
 have F2:=UB (st:=Ws) l2 q2 k2
 have b2:=F2.binds (ps:=["_law_number","_law_letters","_law_most"]) fun _ _ _ _ _ _=>us3 fun _ _ _=>rfl
 have F3:=UB (st:=Wv) l3 q3 k3
 have b3:=F3.binds (ps:=["_law_one","_law_other"]) fun _ _ _ _ _ _=>us2 fun _ _=>rfl
 have F4:=UB (st:=Wu) l4 q4 k4
 have b4:=F4.binds (ps:=["_law_number","_law_letters"]) fun _ _ _ _ _ _=>us2 fun _ _=>rfl
 have F5:=UB (st:=Mo) l5 q5 k5
 have b5:=F5.binds (ps:=["_law_number"]) fun _ _ _ _ _ _=>us1 fun _=>rfl
 have F6:=UB (st:=Nx) l6 q6 k6
 have b6:=F6.binds (ps:=["_law_rules_here"]) fun _ _ _ _ _ _=>us1 fun _=>rfl
 have F7:=UB (st:=Nu) l7 q7 k7
 have b7:=F7.binds (ps:=["rule","word","place"]) fun _ _ _ _ _ _=>us3 fun _ _ _=>rfl
 have F8:=UB (st:=UU) l8 q8 k8
 have b8:=F8.binds (ps:=["rules","word"]) fun _ _ _ _ _ _=>us2 fun _ _=>rfl
 have F9:=UB (st:=Z6o) l9 q9 k9
 have b9:=F9.binds (ps:=["rules","word"]) fun _ _ _ _ _ _=>us2 fun _ _=>rfl
 have F10:=UB (st:=Nv) l10 q10 k10
 have b10:=F10.binds (ps:=["left","word"]) fun _ _ _ _ _ _=>us2 fun _ _=>rfl
 have F11:=UB (st:=Qp) l11 q11 k11
 have b11:=F11.binds (ps:=["rules","word"]) fun _ _ _ _ _ _=>us2 fun _ _=>rfl
 have F12:=UB (st:=D4) l12 q12 k12
 have b12:=F12.binds (ps:=["rules","word"]) fun _ _ _ _ _ _=>us2 fun _ _=>rfl
 have F13:=UB (st:=Uf) l13 q13 k13
 have b13:=F13.binds (ps:=["rules","word"]) fun _ _ _ _ _ _=>us2 fun _ _=>rfl
 have F14:=UB (st:=Q6) l14 q14 k14
 have b14:=F14.binds (ps:=["left","other","place"]) fun _ _ _ _ _ _=>us3 fun _ _ _=>rfl
 have F15:=UB (st:=GV) l15 q15 k15
 have b15:=F15.binds (ps:=["left","other","start"]) fun _ _ _ _ _ _=>us3 fun _ _ _=>rfl
 have F16:=UB (st:=Qa) l16 q16 k16
 have b16:=F16.binds (ps:=["rules"]) fun _ _ _ _ _ _=>us1 fun _=>rfl
 have F17:=UB (st:=Z0f) l17 q17 k17
 have b17:=F17.binds (ps:=["word"]) fun _ _ _ _ _ _=>us1 fun _=>rfl
 have F18:=UB (st:=Wa) l18 q18 k18
 have b18:=F18.binds (ps:=["rules"]) fun _ _ _ _ _ _=>us1 fun _=>rfl
 have F19:=UB (st:=Nz) l19 q19 k19
 have b19:=F19.binds (ps:=["_law_script","_law_k"]) fun _ _ _ _ _ _=>us2 fun _ _=>rfl
 have F20:=UB (st:=Q8) l20 q20 k20
 have b20:=F20.binds (ps:=["_law_script","_law_k"]) fun _ _ _ _ _ _=>us2 fun _ _=>rfl
 have F21:=UB (st:=Bf) l21 q21 k21
 have b21:=F21.binds (ps:=["rules"]) fun _ _ _ _ _ _=>us1 fun _=>rfl
 have F22:=UB (st:=Mh) l22 q22 k22
 have b22:=F22.binds (ps:=["rules"]) fun _ _ _ _ _ _=>us1 fun _=>rfl
 have F23:=UB (st:=Nw) l23 q23 k23
 have b23:=F23.binds (ps:=["_law_rules_here","_law_word_here"]) fun _ _ _ _ _ _=>us2 fun _ _=>rfl
 have F24:=UB (st:=Ny) l24 q24 k24
 have b24:=F24.binds (ps:=["_law_rules_here","_law_word_here","_law_place","_law_k"]) fun _ _ _ _ _ _=>us4 fun _ _ _ _=>rfl
 have F25:=UB (st:=Be) l25 q25 k25
 have b25:=F25.binds (ps:=["_law_rules_here","_law_word_here"]) fun _ _ _ _ _ _=>us2 fun _ _=>rfl
 have F26:=UB (st:=Q7) l26 q26 k26
 have b26:=F26.binds (ps:=["_law_rules_here","_law_word_here"]) fun _ _ _ _ _ _=>us2 fun _ _=>rfl
 have F27:=UB (st:=CN) l27 q27 k27
 refine⟨ZU "law" "law" (Yd CN) (Y3 CN) (ZB CN) .none kV27 dc27 pm27 an27 cd27 ct27,fun s v=>.of_eq rfl,fun base _ _=>?_⟩
 have c0:=F0.callee (Z6M (P:=l.prog) (w:=w) (base:=base) m F0) (J0 X G a0) b0
 have c1:=F1.callee (Z8I (P:=l.prog) (w:=w) (base:=base) m F1 c0) (J0 X G a1) b1
 have c2:=F2.callee (Z8H (P:=l.prog) (w:=w) (base:=base) m F2 c0) (J0 X G a2) b2
 have c3:=F3.callee (Z8K (P:=l.prog) (w:=w) (base:=base) m F3) (J0 X G a3) b3
 have c4:=F4.callee (Z8J (P:=l.prog) (w:=w) (base:=base) m F4 c2 c0 c3) (J0 X G a4) b4
 have c5:=F5.callee (Z6J (P:=l.prog) (w:=w) (base:=base) m F5 c1 c4 c0) (J0 X G a5) b5
 have c6:=F6.callee (Z2n (P:=l.prog) (w:=w) (base:=base) m F6) (J0 X G a6) b6
 have c7:=F7.callee (Z2l (P:=l.prog) (w:=w) (base:=base) m F7) (J0 X G a7) b7
 have c8:=F8.callee (Z17 (P:=l.prog) (w:=w) (base:=base) m F8 c7) (J0 X G a8) b8
 have c9:=F9.callee (ZgL (P:=l.prog) (w:=w) (base:=base) m F9 c8) (J0 X G a9) b9
 have c10:=F10.callee (Z2m (P:=l.prog) (w:=w) (base:=base) m F10) (J0 X G a10) b10
 have c11:=F11.callee (Z8G (P:=l.prog) (w:=w) (base:=base) m F11 c10) (J0 X G a11) b11
 have c12:=F12.callee (Zbt (P:=l.prog) (w:=w) (base:=base) m F12 c7 c11) (J0 X G a12) b12
 have c13:=F13.callee (Fj (P:=l.prog) (w:=w) (base:=base) m F13 c9 c12) (J0 X G a13) b13
 have c14:=F14.callee (Z6I (P:=l.prog) (w:=w) (base:=base) m F14) (J0 X G a14) b14
 have c15:=F15.callee (Z3V (P:=l.prog) (w:=w) (base:=base) m F15 c14) (J0 X G a15) b15
 have c16:=F16.callee (Z6N (P:=l.prog) (w:=w) (base:=base) m F16 c15) (J0 X G a16) b16
 have c17:=F17.callee (ZeD (P:=l.prog) (w:=w) (base:=base) m F17) (J0 X G a17) b17
 have c18:=F18.callee (Zbv (P:=l.prog) (w:=w) (base:=base) m F18 c13 c16 c17) (J0 X G a18) b18
 have c19:=F19.callee (Z2p (P:=l.prog) (w:=w) (base:=base) m F19) (J0 X G a19) b19
 have c20:=F20.callee (Z6L (P:=l.prog) (w:=w) (base:=base) m F20 c19) (J0 X G a20) b20
 have c21:=F21.callee (Zbw (P:=l.prog) (w:=w) (base:=base) m F21 c16 c17 c13) (J0 X G a21) b21
 have c22:=F22.callee (Z3X (P:=l.prog) (w:=w) (base:=base) m F22 c21) (J0 X G a22) b22
 have c23:=F23.callee (Z3W (P:=l.prog) (w:=w) (base:=base) m F23) (J0 X G a23) b23
 have c24:=F24.callee (Z2o (P:=l.prog) (w:=w) (base:=base) m F24) (J0 X G a24) b24
 have c25:=F25.callee (Zbu (P:=l.prog) (w:=w) (base:=base) m F25 c23 c24) (J0 X G a25) b25
 have c26:=F26.callee (Z6K (P:=l.prog) (w:=w) (base:=base) m F26 c23 c24) (J0 X G a26) b26
 exact ZgK m F27 c5 c6 c18 c20 c22 c25 c3 c26
theorem walk {l:CK}{q:Program}{loose:Ls_}{XP:(Str->Option Value)->Heap->Prop}{YP:World->Heap->Prop}{d:DefRec}{K:Params->Fg_}(hn:l.most=some 63)(hdf:d.params.defaults=[])
  (holds:∀ ns:List Int,ns.length<=63->D8 [.lst (ns.map Th.int)]=some (.bl true))
  (hY:∀ (w:World) (h:Heap),YP w h->(K w.params).In h)
  (F:∀ (w:World) (mg:Str->Option Value) (fa:Addr) (h:Heap),(K w.params).In h->h.Ns mainGlobals mg->mg d.name=some (.ref fa) ->
   ∃ fd:Jc,(∀ (s:Shared) (u:Value),BindsTo s fd ⟨[u],[]⟩ [("_law_script",u)])/\∀ base:Heap,(K w.params).In base->base.Ns mainGlobals mg->Me l.prog w (K w.params) mg base CX0 7 fa fd ["_law_script"] (spF (K w.params) D8)) :
  Zdm q loose XP YP l.row.toRowW d [] (fun f vs=>Zah f vs) :=
 L2.walk_of (n:=63) (k:=7) (x:="_law_script") (CX:=fun _=>CX0) (sp:=fun w=>spF (K w.params) D8) hn (by decide) hdf ⟨rfl,by decide,by decide⟩ hY F
  (fun w H a ns hl _ hS=>Zh4 hS (holds ns hl)) fun _ _ _ _ _ z=>z
end K40
open PySem PySem.W PyProof.Rows
set_option maxRecDepth 100000 in
set_option maxHeartbeats 0 in
theorem PySem.Challenge.cw_wordmelt_k40_whole_grown_holds : PySem.Challenge.rw_wordmelt_k40_whole_grown.Holds := by
 w_on;o_law;k_head;(case hw=>w_witness2)
 k_fill
 refine K40.walk (l:=PySem.Challenge.rw_wordmelt_k40_whole_grown) rfl rfl K40.holds (fun w h Y=>PySem.W.kIn_of Y) ?F
 case F =>
  intro w mg fa h KX G hmg
  refine' K40.all_mk KX G hmg ?a0 ?l0 ?q0 ?k0 ?a1 ?l1 ?q1 ?k1 ?a2 ?l2 ?q2 ?k2 ?a3 ?l3 ?q3 ?k3 ?a4 ?l4 ?q4 ?k4 ?a5 ?l5 ?q5 ?k5 ?a6 ?l6 ?q6 ?k6 ?a7 ?l7 ?q7 ?k7 ?a8 ?l8 ?q8 ?k8 ?a9 ?l9 ?q9 ?k9 ?a10 ?l10 ?q10 ?k10 ?a11 ?l11 ?q11 ?k11 ?a12 ?l12 ?q12 ?k12 ?a13 ?l13 ?q13 ?k13 ?a14 ?l14 ?q14 ?k14 ?a15 ?l15 ?q15 ?k15 ?a16 ?l16 ?q16 ?k16 ?a17 ?l17 ?q17 ?k17 ?a18 ?l18 ?q18 ?k18 ?a19 ?l19 ?q19 ?k19 ?a20 ?l20 ?q20 ?k20 ?a21 ?l21 ?q21 ?k21 ?a22 ?l22 ?q22 ?k22 ?a23 ?l23 ?q23 ?k23 ?a24 ?l24 ?q24 ?k24 ?a25 ?l25 ?q25 ?k25 ?a26 ?l26 ?q26 ?k26 ?a27 ?l27 ?q27 ?k27 ?z_enumerate ?z_len ?z_max ?z_min ?z_range ?z_set ?z_sorted ?z_tuple
  (case a0|l0|q0|k0|a1|l1|q1|k1|a2|l2|q2|k2|a3|l3|q3|k3|a4|l4|q4|k4|a5|l5|q5|k5|a6|l6|q6|k6|a7|l7|q7|k7|a8|l8|q8|k8|a9|l9|q9|k9|a10|l10|q10|k10|a11|l11|q11|k11|a12|l12|q12|k12|a13|l13|q13|k13|a14|l14|q14|k14|a15|l15|q15|k15|a16|l16|q16|k16|a17|l17|q17|k17|a18|l18|q18|k18|a19|l19|q19|k19|a20|l20|q20|k20|a21|l21|q21|k21|a22|l22|q22|k22|a23|l23|q23|k23|a24|l24|q24|k24|a25|l25|q25|k25|a26|l26|q26|k26|a27|l27|q27|k27|z_enumerate|z_len|z_max|z_min|z_range|z_set|z_sorted|z_tuple=>k_is)
