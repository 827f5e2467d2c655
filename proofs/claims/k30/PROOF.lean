import PyProof.Rows.All
import Wide.All
import OpenK.AllK
import Wide.FinOn
import Lean
import PyProof.EqAt
import PyProof.EqKinds
import PyProof.TupleCall
import PyProof.NeKinds
import PyProof.Rows.SortShellK
import PyProof.Rows.SortStr
import KE.KSortTup
import PyProof.Rows.SetFrom
import PyProof.SetKind
import PyProof.DictKinds
import PyProof.CollectWalk
import PyProof.CollectStr
import PyProof.DictIter
import PyProof.StrLawsIn
import PyProof.DictWalks
import KE.KDictList
import KE.KSortKey
import PyProof.TupleOfSeq
import PySem.Challenge.RW_wordmelt_k30_whole_roads
set_option Elab.async false
set_option linter.all false
set_option maxRecDepth 100000
set_option maxHeartbeats 4000000
noncomputable abbrev Fg_:=PySem.W.Frag
theorem ob_ {α β:Type}{a:α}{f:α→Option β}:(some a).bind f=f a:=rfl
theorem gz_ {α:Type}{a:α}{l:List α}:(a::l)[0]?=some a:=rfl
theorem gs_ {α:Type}{a:α}{l:List α}{i:Nat}:(a::l)[i+1]?=l[i]?:=rfl
open PySem renaming wpAny_bind→Z0,wpAny_pure→Za,FuncData→Z06,SetTable→Z0k,lookup_relabel_local→Z0w,wpAny_newObj_type→Z0J,mem_of_lookup→Z1j,wpAny_mono→Z1k,PassesOwn→Z1l,wpAny_call_entry→Z1r,wpAny_holding→Z1E,wpAny_callSpecial?_slot→Z1F,wpAny_seqItems→Z1W,strKind→Z22,codeAny_builtin→Z2n,NameKind→Z2r,wpAny_rule→Z2A,wpAny_Call_Name_kw→Z2D,wpAny_loadPart'→Z30,wpAny_field→Z3a,plainId_quiet→Z3b,wpAny_setField→Z3p,wpAny_pyIter_tuple→Z3x,wpAny_passesOwn→Z3I,builtinLookup_eq_fast→Z3N,wpAny_setState_of→Z3T,wpAny_askSetting→Z49,wpAny_updateSeq→Z4I,wpAny_setField_rec→Z4J,wpAny_truthy_bool→Z56,wpAny_letGo→Z57,wpAny_typeOf→Z5g,typeLookup_type→Z6f,wpAny_tryCatch→Z6T,wpAny_pyIter_enum→Z7k,fits_of_scanBound→Z7n,wpAny_attempt→Z7I,wpAny_isInstance→Z7Q,wpAny_execs_nil→Z8K,codeAny_mono→Z95,wpAny_newTuple→Z9G,isSubtype_type→Za3,wpAny_setEntries_of→Zaz,wpAny_of_eq→ZaA,wpAny_newList→ZaV,wpAny_pyIter_list→Zco,concat_meets→ZdO,noFill_tuple_add→Zeh,wpAny_specialOf→ZfC,wpAny_comprehension_free→ZhP,call_meets→ZjD,seq_tuple_add→ZjY,call→Zk4,wpAny_pyNext_enum_endD→Zki,seqSlot_of→Zm0,wpAny_updateSeq_pair→Zn5,codeAny_extend_loopS→ZoE,codeAny_call_builtin→ZoF,wpAny_setEpoch_of→ZqO,wpAny_sequenceKey→ZqP,wpAny_pyIter_slot→ZqQ,wpAny_load→ZqR,wpAny_call→ZqS,wpAny_assign_Name→ZqT,wpAny_Name→ZqU,typeIs_str→ZqW,typeIs_int→ZqX,slot_list_getitem→Zr0,wpAny_pyIter_zip→Zrh,wpAny_pyHash_str→Zri,wpAny_execs_cons→Zrj,wpAny_eqBool_str→Zrk,wpAny_eqBool_int→Zrl,codeAny_of_tree→Zsr,wpAny_runValue→Zsz,wpAny_fieldsOf→ZsA,sliceRange_one→ZsM,isSubtype_stop→ZsU,entryFor_alias→ZsZ,wpAny_standAt→Zt4,wpAny_onRaise→Zt5,wpAny_handled→Zt6,pick_run→Zt8,intBits_le_64→Zt9,evalPart_none→Zta,ZipApart→Ztb,GenState→Ztc
open PySem.Heap renaming get?_push_of_some→Z1,get?_push_size→Zm,lt_size→Zw,SameBut→Z0K,get?_update_other→Z1c,get?_update_self→Z1q,size_push→Z1P,get?_update_ne→Z2h,size_update→Z55,get?_none_of_le→Z5b,get?_push_ne→Z6u,ExtBut→Z8G,IsTuple→ZaK,FlyingW→Zra
open Option renaming map_some→Z2,bind_some→Zk,some→Z09,getD_some→Zk6,getD_none→Zk7,none→ZqK
open List renaming mem_cons_self→Z4,set_cons_zero→Z5,set_cons_succ→Z6,append_assoc→Z7,mem_cons_of_mem→Z9,getElem?_eq_getElem→Zc,length_append→Zd,length_map→Ze,getElem?_cons_zero→Zh,mem_cons→Zi,replicate→Zj,size_toArray→Zl,getElem?_set_ne→Zn,length_cons→Zp,getElem?_cons_succ→Zs,getElem?_eq_some_iff→Zv,nil_append→Zz,length_take→ZA,take_append_drop→ZB,getElem?_append_right→ZC,getElem?_set_self→ZG,mem_append_right→ZH,map_cons→ZJ,length_drop→ZM,cons_append→ZO,mem_append→ZQ,mem_map→ZT,getElem?_append_left→Z00,mem_of_getElem?→Z01,drop_of_length_le→Z03,mem_append_left→Z08,mem_singleton→Z0c,getElem?_map→Z0q,take_of_length_le→Z0s,drop_drop→Z0y,mem_of_mem_drop→Z0C,range→Z0L,Pairwise→Z0N,drop_append_of_le_length→Z0R,Perm→Z0S,replicate_succ→Z0Z,mem_filter→Z10,lookup_cons→Z11,take_sublist→Z14,getElem?_replicate→Z15,length→Z18,map_append→Z1e,length_set→Z1f,take_append_of_le_length→Z1i,perm_append_comm→Z1m,map_map→Z1n,length_replicate→Z1o,drop_sublist→Z1p,pairwise_cons→Z1y,append_nil→Z1z,mem_of_mem_take→Z1A,isPrefixOf_iff_prefix→Z1H,pairwise_map→Z1M,drop_eq_getElem_cons→Z1O,not_mem_nil→Z1X,mem_reverse→Z1Y,length_range→Z2c,range'→Z2g,drop_append→Z2o,extract_eq_take_drop→Z2y,pairwise_append→Z2I,nodup_cons→Z2N,flatten_cons→Z2O,map_congr_left→Z2W,map→Z2X,getElem_of_mem→Z2Y,filterMap_cons→Z2Z,take_length→Z35,eq_nil_of_length_eq_zero→Z36,mem_range→Z37,drop_left→Z38,prefix_append→Z3c,dropLast_concat_getLast→Z3d,length_filter_le→Z3q,getElem?_eq_none→Z3r,foldl_cons→Z3s,cons_lt_cons_iff→Z3t,all_cons→Z3A,take_zero→Z3P,getElem?_eq_none_iff→Z3Q,drop_zero→Z3R,getElem?_take_of_lt→Z44,reverse_cons→Z4F,mem_range'_1→Z4G,ext_getElem?→Z4H,length_singleton→Z4N,filter_cons→Z53,all_eq_true→Z54,of_mem_zip→Z5s,length_pos_iff→Z5t,length_nil→Z5u,forIn_cons→Z5v,getD_eq_getElem?_getD→Z5Q,zip_cons_cons→Z5V,toArray→Z5W,mem_filterMap→Z5X,map_nil→Z5Y,reverse_perm→Z6r,getElem_take→Z6s,getElem_drop→Z6t,not_lt→Z6Q,drop_length→Z7b,dropLast_eq_take→Z7F,take_take→Z8i,nodup_nil→Z8j,lt_irrefl→Z8k,drop_take→Z8l,take_succ_cons→Z8D,mergeSort_perm→Z8E,length_reverse→Z8F,take_add→Z9k,length_range'→Z9l,take_add_one→Zau,nodup_append→Zav,eq_nil_iff_forall_not_mem→ZaH,dropLast_append_of_ne_nil→ZaI,all_map→ZaJ,take_append→ZaR,mem_flatMap→ZaS,getElem_mem→ZaT,prefix_append_right_inj→Zby,filter_map→Zcj,length_eraseIdx_of_lt→Zcr,getElem?_take_eq_none→Zcs,pairwise_iff_getElem→Zef,length_filterMap_le→Zeo,pairwise_singleton→Zft,pairwise_mergeSort→Zfu,length_eq_zero_iff→Zfv,getLast?_cons_cons→Zfw,any_cons→Zfx,reverse_singleton→ZgE,length_pos_of_mem→ZgF,getLast?_reverse→Zhx,getElem?_toArray→Zhy,reverse_reverse→ZhI,drop_eq_nil_iff→ZhJ,toList_toArray→ZjQ,reverse_append→ZjR,length_flatMap→ZjS,getElem?_drop→Zk8,filter_append→Zk9,push_toArray→Zm3,flatMap_cons→Zm4,zipIdx_cons→ZmV,range'_succ→ZmW,prefix_refl→ZmX,map_snd_zip→ZmY,map_reverse→ZmZ,le_antisymm→Zn0,any_toArray→Zn1,length_zip→ZoP,head?_cons→ZoQ,find?_cons→ZoR,filter_nil→ZoS,take_succ→ZoZ,nil_perm→ZqL,map_id→Zs5,lookup→Zs6,foldl→Zsx,cons→Zt2
open Nat renaming le_refl→Zg,le_trans→ZR,ne_of_lt→ZW,lt_of_lt_of_le→ZX,zero_add→Z0p,zero_le→Z0r,add_sub_cancel_left→Z0x,le_of_not_lt→Z1D,lt_irrefl→Z1Q,add_assoc→Z1R,lt_succ_of_lt→Z2e,le_succ→Z2z,ne_of_gt→Z2V,le_of_lt→Z3v,reduceSub→Z3D,reduceAdd→Z3E,lt_succ_self→Z3Z,sub_self→Z47,pos_of_ne_zero→Z4t,reduceLeDiff→Z59,mul_le_mul_right→Z5e,not_lt_zero→Z5y,le_antisymm→Z5z,lt_of_le_of_lt→Z6c,mul_le_mul→Z6o,lt_of_not_le→Z7i,succ_mul→Z7M,sub_zero→Z7N,strongRecOn→Z7O,add_zero→Z7P,sub_le→ZaG,lt_trans→ZaQ,succ_ne_self→Zbx,min_eq_left→Zcq,min_self→ZhG,le_of_eq→ZhH,sub_lt→ZmS,lt_trichotomy→ZmT,min_le_right→ZoO,le_add_left→ZoY,pow_succ→Zs2,mul_comm→Zs3,lt_or_ge→Zs4,min_def→Zsv,mod_lt→Zt1
open PyProof.Rows renaming wpS_bind→Zo,wpS_pure→Zx,wpS_forRange→Z0P,callWith_type1→Z0T,slot_tuple_getitem→Z0X,wpS_mono→Z2C,wpS_modify→Z3S,listUpdate_at→Z3U,SortKind→Z3V,wpS_get→Z6e,listItems_at→Z90,get?_update_seq→Z92,size_push'→Z9e,seqEpoch_at→ZaB,wpS_lift→ZaU,lt_str→Zcg,lt_int→Zch,pairsOf_toList→ZhD,subscriptTail_builtinR→Zkr,entry_tuple_getitem→ZoW,args_tuple_getitem→ZqJ,getElem?_bubble→Zsp,entry_list_sort→Zsq,slot_list_sort→ZsL,slicePart_none→ZsN,tupleItemsOf_→Zt7
open Bool renaming false_eq_true→Zu,and_eq_true→Z0a,false_ne_true→Z0H,or_eq_true→Z2P,or_eq_false_iff→Z5c,not_true→Z5f,not_false→Z6d,not_eq_true'→Z6v,and_eq_false_iff→Z7H,not_eq_false'→Z9m,eq_iff_iff→Zcm,false_and→Zp2,or_false→ZqM
open PySem.W renaming nsIn→ZE,keepIn→ZF,codeIn→ZI,fnOf→ZL,mg_of→ZY,mg_none_of→Z0F,kia_one→Z42,methodObj→Z9b,OpenLaw→ZaE,kitOne→Zbw,cellsFrom_some→Zec,kitCls→Zm1,subIn→ZmQ,WalkO→ZmR
open Array renaming length_toList→ZN,toList_append→Z07,getElem?_eq_getElem→Z0b,getElem?_toList→Z0m,toList_push→Z2b,perm_iff_toList_perm→Z2k,toList_reverse→Z2B,toList_extract→Z3F,size_extract→Z5T,toList_inj→Z6R,getElem?_extract→Z7c,getElem?_eq_none→Z7d,size_map→Zcy,forIn_toList→ZjX,size_append→Zkc,toList_map→Zm9,ext→Zn2,toList→ZqN,Perm→Zs8
open PySem.Str renaming ofString→ZV,length→Z5r
open Option.some renaming inj→Z0e,injEq→Z0t
open PySem.PassesOwn renaming never→Z0o
open List.Perm renaming append_left→Z0u,append_right→Z2U,refl→Z4q,cons→ZjT
open PySem.Txt renaming startswith→Z0z,mul→Z58,find→Z5n,find3→Z7J
open PyProof.Rows.KeyOrd renaming kle_trans→Z0B,kle_of_klt→Z0D,kle_refl→Z2d,klt_of_kle_of_klt→Zct,kle_antisymm→Zhz,klt→Zr7,kle→Zr8
open PySem.Obj renaming mapSeq→Z0G,data_mapFields→Z3m,isFreed_of_fields→Z7L,cls_mapFields→ZaF
open PySem.Builtin.List renaming listExtendWith→Z0U,listSameRef→Z2m,listItems→Z5S,listLengthHint→Z8J,listTooLong→Z9E,listUpdate→Zaw
open PySem.Value renaming type→Z12,none→Z1U,ref→Z48,isStrOf→Z6x,isStrOf_shape→Z8g,int→Z99,bool→Zea,str→ZgB,notImplemented→Zhv
open Int renaming toNat_natCast→Z16,emod_lt_of_pos→Z2t,emod_nonneg→Z3w,toNat_of_nonneg→Z9d,natCast_mul→Zcu,natCast_add→Zcv
open PySem.Heap.SameBut renaming update→Z19,refl→Zeg
open PySem.Builtin.SmallTypes renaming nextOf→Z1v,ownedTupleHandOut→Z5A,ownedTupleIsFree→Z5R
open PySem.Around renaming under_plainId→Z1w
open PySem.SetTable renaming below→Z21,grown→Z3z,fits→ZlY
open ForInStep renaming yield→Z23
open List.Pairwise renaming nil→Z2j,imp_of_mem→Z5a,filter→Z6p
open PySem.F renaming slot_tuple_iterator_next→Z2p,plain_min_loop→Z3e,called_set→Z4r,args_tuple_add_2→Z5U,plainAttrs_list→Z6l,entry_tuple_add→Z6m,slot_tuple_mul→Z6y,slot_tuple_add→Z6z,args_tuple_iterator_next_1→Z8d,entry_tuple_iterator_next→Z8h,slot_tuple_rmul→Zcp,entry_min_loop→Zcx,plainAttrs_str→Zed,type_str_find→Zek,slot_zip_next→Zel,slot_str_find→Zem,slot_int_rmul→Zen,plain_list_iadd→Zp1,slot_set_iter→Zrb,plain_set_new→Zrc
open Ne renaming symm→Z2q
open PySem.Builtin.Str renaming strSliceIndices→Z34,occurrences→ZaL
open PyProof.Rows.F renaming plain_set_update_loop→Z39,entry_set_update_loop→Z6n
open PySem.Builtin.Slice renaming slicePlaces→Z3f,sliceAdjust→Z4S,sliceApplied→Z8I
open PySem.NameKind renaming free→Z3n,cell→Z8e
open PySem.Builtin.Tuple renaming tupleExact→Z3u,tupleTooMany→Z4L,tupleItemsOf→Z8H
open False renaming elim→Z40
open Prod.mk renaming injEq→Z43
open PyProof.Rows.SortSt renaming mk'→Z7o
open PySem.Builtin.Builtins renaming bindParams→Z7G
open Prod renaming ext→Z7K,mk→Zci
open Sum renaming inr→Z9a,inl→ZaD
open PySem.SeqAt renaming EqAt→Z9D
open PySem.AutoSeq1 renaming sub_tuple_tuple→Zbz
open PySem.SetTable.below renaming go→Zcf
open PySem.Calls renaming Name_function_global→Zck,callWith_builtin→Zfz,spliced_cons→ZjW,spliced_nil→Zkb
open Or renaming inl→Zee,inr→Zsu
open True renaming intro→Zej
open PyProof.Rows.IsTup renaming new→ZgG
open PySem.Shared renaming heap→Zhw,TypeIs→ZoL
open PySem.Builtin renaming sorted→ZhB
open Array.Perm renaming refl→ZhC
open List.cons renaming injEq→ZhK
open PySem.Walks renaming list→Zk2
open StateT renaming run_pure→ZlX
open PySem.Paired renaming length→ZoM
open PySem.Str.mk renaming injEq→ZoX
open PySem.ItemsOf renaming nil→Zp0
open PySem.W.WShape renaming has→Zr5
open PySem.W.WData renaming int→Zss
open PySem.W.Looks renaming now→Zsw
open BEq renaming rfl→Zsy
open PySem.Data renaming seq→Ztd
set_option bootstrap.genMatcherCode false
namespace L2
open PySem PySem.Spec PyProof.Rows
noncomputable abbrev Key:=Sum Int Str
noncomputable def Zqv:Key→Value→Bool
 |.inl k,v=>Value.isInt k v
 |.inr x,v=>Z6x x v
noncomputable def ZsT (w:World):Key→Int
 |.inl k=>hashInt k
 |.inr x=>hashStr w x
theorem Z2M:∀ {k:Key} {v:Value},Zqv k v=true→(∃ i t,k=ZaD i∧v=Z99 i t)∨(∃ x t,k=Z9a x∧v=ZgB x t)
 |.inl i,v,h=>by
  obtain⟨t,e⟩:=Value.isInt_shape (k:=i) (v:=v) h
  exact .inl ⟨i,t,rfl,e⟩
 |.inr x,v,h=>by
  obtain⟨t,e⟩:=Z8g (x:=x) (v:=v) h
  exact .inr ⟨x,t,rfl,e⟩
theorem Zqu (a b:Int):decide ((ZaD a:Key)=ZaD b)=(a == b):=by
 by_cases e:a=b
 ·subst e;simp
 ·have h:¬ (ZaD a:Key)=ZaD b:=fun q=>e (ZaD.inj q)
  rw[decide_eq_false h]
  exact (beq_eq_false_iff_ne.mpr e).symm
theorem Zqr (a b:Str):decide ((Z9a a:Key)=Z9a b)=decide (a=b):=by
 by_cases e:a=b
 ·subst e;simp
 ·have h:¬ (Z9a a:Key)=Z9a b:=fun q=>e (Z9a.inj q)
  rw[decide_eq_false h,decide_eq_false e]
theorem Zqt (a:Int)(b:Str):decide ((ZaD a:Key)=Z9a b)=false:=decide_eq_false (fun q=>nomatch q)
theorem Zqs (a:Str)(b:Int):decide ((Z9a a:Key)=ZaD b)=false:=decide_eq_false (fun q=>nomatch q)
noncomputable def Zj3 (prog:Program)(w:World):PySem.KeyKind prog w Key where
 is:=Zqv
 hash:=ZsT w
 inj:=fun v a b ha hb=>by
  rcases Z2M ha with ⟨i,t,rfl,rfl⟩|⟨x,t,rfl,rfl⟩
  ·rcases Z2M hb with ⟨j,u,rfl,e⟩|⟨y,u,rfl,e⟩
   ·injection e with e1 _;rw[e1]
   ·exact nomatch e
  ·rcases Z2M hb with ⟨j,u,rfl,e⟩|⟨y,u,rfl,e⟩
   ·exact nomatch e
   ·injection e with e1 _;rw[e1]
 byValue:=fun k v h=>by
  rcases Z2M h with ⟨i,t,rfl,rfl⟩|⟨x,t,rfl,rfl⟩ <;> rfl
 pyHash:=fun hv h=>by
  rcases Z2M hv with ⟨i,t,rfl,rfl⟩|⟨x,t,rfl,rfl⟩
  ·exact wpAny_pyHash_int h
  ·exact Zri h
 eqBool:=fun hu hv h=>by
  rcases Z2M hu with ⟨i,t,rfl,rfl⟩|⟨x,t,rfl,rfl⟩
  ·rcases Z2M hv with ⟨j,u,rfl,rfl⟩|⟨y,u,rfl,rfl⟩
   ·rw[Zqu] at h;exact Zrl h
   ·rw[Zqt] at h;exact Z9D.int_str i t y u _ _ _ _ h
  ·rcases Z2M hv with ⟨j,u,rfl,rfl⟩|⟨y,u,rfl,rfl⟩
   ·rw[Zqs] at h;exact Z9D.str_int x t j u _ _ _ _ h
   ·rw[Zqr] at h;exact Zrk h
 «strs»:=fun k x t v h=>by
  rcases Z2M h with ⟨i,u,rfl,e⟩|⟨y,u,rfl,e⟩
  ·exact nomatch e
  ·injection e with e1 _
   subst e1
   cases v <;> rfl
inductive V where
 |non|bl (b:Bool)|int (i:Int)|str (x:Str)|byt (b:Array UInt8)|flt (b:UInt64)|ref (a:Addr)|ty (n:String)
 deriving DecidableEq
noncomputable def RelV:V→Value→Prop
 |.non,u=>u=Z1U
 |.bl b,u=>u=Zea b
 |.int i,u=>∃ t,u=Z99 i t
 |.str x,u=>∃ t,u=ZgB x t
 |.byt b,u=>∃ t,u=Value.bytes b t
 |.flt b,u=>∃ t,u=Value.float b t
 |.ref a,u=>u=Z48 a
 |.ty n,u=>u=Z12 n
noncomputable abbrev Z20:List V→List Value→Prop:=Paired RelV
theorem Z20.length {xs:List V}{us:List Value}(r:Z20 xs us):xs.length=us.length:=ZoM r
theorem Z20.get:∀ {xs:List V} {us:List Value} {i:Nat} {x:V},Z20 xs us→xs[i]?=some x→∃ u,us[i]?=some u∧RelV x u
 |_,_,_,_,.nil,e=>by simp at e
 |_,_,0,_,.cons r _,e=>by simp at e;subst e;exact⟨_,rfl,r⟩
 |_,_,i+1,x,.cons _ t,e=>by
  obtain⟨u,h1,h2⟩:=Z20.get (i:=i) (x:=x) t (by simpa using e)
  exact⟨u,by simpa using h1,h2⟩
theorem Z20.set {x:V}{u:Value}(r:RelV x u):∀ {xs:List V} {us:List Value} (i:Nat),Z20 xs us→Z20 (xs.set i x) (us.set i u)
 |_,_,_,.nil=>.nil
 |_,_,0,.cons _ t=>.cons r t
 |_,_,i+1,.cons q t=>.cons q (Z20.set r i t)
theorem Z20.append:∀ {xs ys:List V} {us ws:List Value},Z20 xs us→Z20 ys ws→Z20 (xs++ys) (us++ws)
 |_,_,_,_,.nil,s=>s
 |_,_,_,_,.cons r t,s=>.cons r (Z20.append t s)
theorem Z20.take:∀ {xs:List V} {us:List Value} (n:Nat),Z20 xs us→Z20 (xs.take n) (us.take n)
 |_,_,0,_=>.nil
 |_,_,_+1,.nil=>.nil
 |_,_,n+1,.cons r t=>.cons r (Z20.take n t)
theorem Z20.drop:∀ {xs:List V} {us:List Value} (n:Nat),Z20 xs us→Z20 (xs.drop n) (us.drop n)
 |_,_,0,r=>r
 |_,_,_+1,.nil=>.nil
 |_,_,n+1,.cons _ t=>Z20.drop n t
theorem Z20.none_of:∀ {xs:List V} {us:List Value} {i:Nat},Z20 xs us→xs[i]?=none→us[i]?=none:=fun {xs us i} r e=>by
 have h1:=r.length
 have h2:xs.length≤i:=Z3Q.mp e
 exact Z3Q.mpr (by lia)
noncomputable def Zst:Option V→Option Value→Prop
 |some v,some u=>RelV v u
 |none,none=>True
 |_,_=>False
noncomputable def KV {κ:Type}:List (κ×V)→List (κ×Value)→Prop:=Paired fun (p:κ×V) (q:κ×Value)=>p.1=q.1∧RelV p.2 q.2
noncomputable def kV:Key→V
 |.inl i=>.int i
 |.inr x=>.str x
inductive HO where
 |lst (xs:List V)
 |tup (xs:List V)
 |dK (kvs:List (Key×V))|dT (kvs:List (List Key×V))
 |set (S:Int→Bool) (n:Nat)
 |ins (C dx:Addr) (fs:List (Str×V))
 |own (x:Addr)
 |xd (fs:List (Str×V))
 |met (f x:Addr)
 |rng (lo hi:Int)
 |frz (o:Obj) (u:HO)
 |tbl (ps:Array Value)
 |ext (φ:Heap→Prop)
noncomputable abbrev Hp:=Addr→Option HO
noncomputable def upd (H:Hp)(a:Addr)(o:HO):Hp:=fun b=>if b=a then some o else H b
theorem Z1b {H:Hp}{a:Addr}{o:HO}:upd H a o a=some o:=by unfold upd;rw[if_pos rfl]
theorem Z1S {H:Hp}{a b:Addr}{o:HO}(h:b≠a):upd H a o b=H b:=by unfold upd;rw[if_neg h]
theorem Z3l {H:Hp}{a b:Addr}{o:HO}(h:H a=some o)(h':H b=none):a≠b:=by
 intro e;subst e;rw[h] at h';cases h'
section
variable (P:Program)(w:World)
noncomputable def Z7E (H:Hp)(h:Heap)(a:Addr):HO→Prop
 |.lst xs=>xs.length≤sizeLine∧∃ (its:List Value) (n:Nat),Z20 xs its∧h.get? a=some { cls:=.type "list",data:=.seq its.toArray n }
 |.tup xs=>xs.length≤sizeLine∧∃ its:List Value,Z20 xs its∧IsTup h a its.toArray
 |.dK kvs=>kvs.length≤sizeLine∧(a == sysModules)=false∧∃ vs,KV kvs vs∧h.DictOf (Zj3 P w) a vs
 |.dT kvs=>kvs.length≤sizeLine∧(a == sysModules)=false∧∃ xs:List (List Key×Addr×Value),
   Paired (fun (p:List Key×V) (q:List Key×Addr×Value)=>p.1=q.1∧H q.2.1=some (.tup (p.1.map kV))∧RelV p.2 q.2.2) kvs xs ∧
   ∃ o es ep,h.get? a=some o∧o.ExactDict∧o.data=.dict es ep∧es.toList=xs.map (entryOfKey (tupleKind (Zj3 P w)))∧(xs.map (·.1)).Nodup
 |.set S n=>h.SetOf (intKind P w) a S n
 |.ins C dx fs=>H dx=some (.own a)∧fs.length≤1000∧dx≠a∧h.get? a=some (PySem.W.instObj C dx) ∧
   ∃ mA,h.Ns1 dx mA∧(∀ f,Zst (fs.lookup f) (mA f))∧PySem.Within mA (fs.map (·.1))
 |.own _=>∃ o,h.get? a=some o
 |.xd fs=>∃ mA,h.Ns1 a mA∧∀ f,Zst (fs.lookup f) (mA f)
 |.rng lo hi=>∃ t u v,h.get? a=some { cls:=.type "range",data:=.fields #[.int lo t,.int hi u,.int 1 v] }
 |.frz o u=>h.get? a=some o∧Z7E H h a u
 |.tbl ps=>h.get? a=some { cls:=.none,data:=.fields ps }
 |.met f x=>h.get? a=some (Z9b (.ref f) (.ref x))
 |.ext φ=>φ h∧(∃ o,h.get? a=some o)∧∀ h1 h2:Heap,φ h1→(∀ o,h1.get? a=some o→h2.get? a=some o)→φ h2
noncomputable def HOk (H:Hp)(h:Heap):Prop:=∀ a o,H a=some o→Z7E P w H h a o
end
section
variable {P:Program}{w:World}{H H':Hp}{h h':Heap}{a:Addr}{o:HO}
theorem Z7E.lt (x:Z7E P w H h a o):a<h.objs.size:=by
 cases o with
 |lst xs=>obtain⟨_,_,_,_,e⟩:=x;exact Zw e
 |tup xs=>obtain⟨_,_,_,p⟩:=x;exact p.lt
 |dK kvs=>obtain⟨_,_,_,_,o,_,_,e,_⟩:=x;exact Zw e
 |dT kvs=>obtain⟨_,_,_,_,o,_,_,e,_⟩:=x;exact Zw e
 |set S n=>obtain⟨o,_,_,_,e,_⟩:=x;exact Zw e
 |ins C dx fs=>obtain⟨_,_,_,e,_⟩:=x;exact Zw e
 |own y=>obtain⟨_,e⟩:=x;exact Zw e
 |xd fs=>obtain⟨_,⟨_,_,_,e,_⟩,_⟩:=x;exact Zw e
 |rng lo hi=>obtain⟨_,_,_,e⟩:=x;exact Zw e
 |frz ob u=>obtain⟨e,_⟩:=x;exact Zw e
 |tbl ps=>exact Zw (show h.get? a=some _ from x)
 |met f y=>exact Zw (show h.get? a=some _ from x)
 |ext φ=>obtain⟨_,⟨_,e⟩,_⟩:=x;exact Zw e
theorem Paired.mapP {α β:Type}{F G:α→β→Prop}:∀ {l₁:List α} {l₂:List β},Paired F l₁ l₂→(∀ a b,F a b→G a b)→Paired G l₁ l₂
 |_,_,.nil,_=>.nil
 |_,_,.cons r t,f=>.cons (f _ _ r) (Paired.mapP t f)
theorem Z7E.stay (x:Z7E P w H h a o)(k:∀ b u,(b=a∨H b=some (.own a))→h.get? b=some u→h'.get? b=some u)
  (ho:∀ b,H b=some (.own a)→H' b=some (.own a)) (ht:∀ b xs,H b=some (.tup xs)→H' b=some (.tup xs)):Z7E P w H' h' a o:=by
 induction o with
 |lst xs=>obtain⟨z,its,n,r,e⟩:=x;exact⟨z,its,n,r,k _ _ (.inl rfl) e⟩
 |tup xs=>obtain⟨z,its,r,ob,e,c⟩:=x;exact⟨z,its,r,ob,k _ _ (.inl rfl) e,c⟩
 |dK kvs=>obtain⟨z,y,vs,r,ob,es,ep,e,c⟩:=x;exact⟨z,y,vs,r,ob,es,ep,k _ _ (.inl rfl) e,c⟩
 |dT kvs =>
  obtain⟨z,y,xs,r,ob,es,ep,e,c⟩:=x
  exact⟨z,y,xs,Paired.mapP r fun p q z=>⟨z.1,ht _ _ z.2.1,z.2.2⟩,ob,es,ep,k _ _ (.inl rfl) e,c⟩
 |set S n=>obtain⟨ob,es,ep,t,e,c⟩:=x;exact⟨ob,es,ep,t,k _ _ (.inl rfl) e,c⟩
 |ins C dx fs =>
  obtain⟨d,z,ne,e,mA,⟨od,es,ep,e2,c⟩,r⟩:=x
  exact⟨ho _ d,z,ne,k _ _ (.inl rfl) e,mA,⟨od,es,ep,k _ _ (.inr d) e2,c⟩,r⟩
 |own y=>obtain⟨ob,e⟩:=x;exact⟨ob,k _ _ (.inl rfl) e⟩
 |xd fs=>obtain⟨mA,⟨od,es,ep,e,c⟩,r⟩:=x;exact⟨mA,⟨od,es,ep,k _ _ (.inl rfl) e,c⟩,r⟩
 |rng lo hi=>obtain⟨t,u,v,e⟩:=x;exact⟨t,u,v,k _ _ (.inl rfl) e⟩
 |frz ob u ih=>obtain⟨e,q⟩:=x;exact⟨k _ _ (.inl rfl) e,ih q⟩
 |tbl ps =>
  have e:h.get? a=some { cls:=.none,data:=.fields ps }:=x
  show h'.get? a=some { cls:=.none,data:=.fields ps }
  exact k a _ (.inl rfl) e
 |met f y =>
  have e:h.get? a=some (Z9b (.ref f) (.ref y)):=x
  show h'.get? a=some (Z9b (.ref f) (.ref y))
  exact k a _ (.inl rfl) e
 |ext φ=>obtain⟨p,⟨o,e⟩,st⟩:=x;exact⟨st _ _ p fun o q=>k _ _ (.inl rfl) q,⟨o,k _ _ (.inl rfl) e⟩,st⟩
theorem HOk.lt (x:HOk P w H h)(e:H a=some o):a<h.objs.size:=(x a o e).lt
theorem HOk.fresh (x:HOk P w H h)(e:h.objs.size≤a):H a=none:=by
 cases q:H a with
 |none=>rfl
 |some u=>exact absurd (ZX (x.lt q) e) (Z1Q _)
theorem HOk.kept (x:HOk P w H h)(k:∀ b u,h.get? b=some u→h'.get? b=some u):HOk P w H h':=fun a o e =>
 (x a o e).stay (fun b u _ q=>k b u q) (fun _ q=>q) fun _ _ q=>q
theorem HOk.laid (x:HOk P w H h)(k:∀ b u,h.get? b=some u→h'.get? b=some u)(hp:h.objs.size≤a)(new:Z7E P w (upd H a o) h' a o):HOk P w (upd H a o) h':=fun b u e=>by
 have hn:=x.fresh hp
 by_cases hb:b=a
 ·subst hb;rw[Z1b] at e;cases e;exact new
 ·rw[Z1S hb] at e
  exact (x b u e).stay (fun c v _ q=>k c v q) (fun c q=>by rw[Z1S (Z3l q hn)];exact q) fun c xs q=>by rw[Z1S (Z3l q hn)];exact q
end
noncomputable def Rd (H:Hp)(a:Addr)(u:HO):Prop:=H a=some u∨∃ o,H a=some (.frz o u)
theorem Rd.ok {P:Program}{w:World}{H:Hp}{h:Heap}{a:Addr}{u:HO}(r:Rd H a u)(x:HOk P w H h):Z7E P w H h a u:=by
 rcases r with r|⟨o,r⟩
 ·exact x a u r
 ·obtain⟨_,q⟩:=x a _ r
  exact q
noncomputable def Mut:Option HO→Prop
 |some (.lst _)=>True
 |some (.dK _)=>True
 |some (.dT _)=>True
 |some (.set _ _)=>True
 |some (.ins _ _ _)=>True
 |some (.ext _)=>True
 |_=>False
section
variable {P:Program}{w:World}{H:Hp}{h h':Heap}{x e:Addr}{o':HO}
theorem HOk.write (ok:HOk P w H h)(mu:Mut (H x))(he:e=x∨H e=some (.own x))(k:∀ b u,b≠e→h.get? b=some u→h'.get? b=some u)(heo:∃ u,h'.get? e=some u)
  (new:Z7E P w (upd H x o') h' x o'):HOk P w (upd H x o') h':=fun b u q=>by
 have nown:∀ c y,H c=some (.own y)→c≠x:=fun c y r z=>by subst z;rw[r] at mu;exact mu
 have ntup:∀ c xs,H c=some (.tup xs)→c≠x:=fun c xs r z=>by subst z;rw[r] at mu;exact mu
 by_cases hb:b=x
 ·subst hb;rw[Z1b] at q;cases q;exact new
 ·rw[Z1S hb] at q
  by_cases hbe:b=e
  ·have q':H b=some (.own x):=by
    rcases he with z|z
    ·exact absurd (hbe.trans z) hb
    ·rw[hbe];exact z
   rw[q] at q';cases q'
   obtain⟨v,hv⟩:=heo
   exact⟨v,by rw[hbe];exact hv⟩
  ·refine (ok b u q).stay (fun c v hc r=>k c v ?_ r) (fun c r=>by rw[Z1S (nown c b r)];exact r) fun c xs r=>by rw[Z1S (ntup c xs r)];exact r
   rcases hc with rfl|hc
   ·exact hbe
   ·rintro rfl
    rcases he with z|z
    ·exact nown c b hc z
    ·rw[hc] at z;cases z;exact hb rfl
end
structure Un (fs ex:List Addr)(H H':Hp)(h h':Heap):Prop where
 keep:∀ b o,h.get? b=some o→H b=none→b∉fs→b∉ex→h'.get? b=some o
 slot:∀ b o,h.get? b=some o→H b=none→b∈fs→b∉ex→∃ sl,h'.get? b=some { o with slots:=sl }
 free:∀ b o,h.get? b=some o→H b=none→b∉ex→H' b=none
 there:∀ b o,h.get? b=some o→b∉ex→∃ o',h'.get? b=some o'
 tups:∀ b xs,H b=some (.tup xs)→H' b=some (.tup xs)
 frzs:∀ b o u,H b=some (.frz o u)→H' b=some (.frz o u)
 tbls:∀ b ps,H b=some (.tbl ps)→∃ more,H' b=some (.tbl (ps++more))
section
variable {fs fs' ex ex':List Addr}{H H1 H2:Hp}{h h1 h2 h':Heap}{a x e:Addr}{o:HO}
theorem Un.any (u:Un fs ex H H1 h h1){b:Addr}{ob:Obj}(q:h.get? b=some ob)(n:H b=none)(hx:b∉ex):∃ sl,h1.get? b=some { ob with slots:=sl }:=by
 by_cases hb:b∈fs
 ·exact u.slot b ob q n hb hx
 ·exact⟨ob.slots,u.keep b ob q n hb hx⟩
theorem Un.kept (k:∀ b u,h.get? b=some u→h'.get? b=some u):Un fs ex H H h h' :=
 ⟨fun b ob q _ _ _=>k b ob q,fun b ob q _ _ _=>⟨ob.slots,k b ob q⟩,fun _ _ _ n _=>n,fun b ob q _=>⟨ob,k b ob q⟩,fun _ _ q=>q,fun _ _ _ q=>q,fun _ ps q=>⟨#[],by rw[q];simp⟩⟩
theorem Un.refl:Un fs ex H H h h:=Un.kept fun _ _ q=>q
theorem Un.laid (k:∀ b u,h.get? b=some u→h'.get? b=some u)(hp:h.objs.size≤a)(hn:H a=none):Un fs ex H (upd H a o) h h' where
 keep:=fun b u q _ _ _=>k b u q
 slot:=fun b u q _ _ _=>⟨u.slots,k b u q⟩
 free:=fun b u q n _=>by rw[Z1S (ZW (ZX (Zw q) hp))];exact n
 there:=fun b u q _=>⟨u,k b u q⟩
 tups:=fun b xs q=>by rw[Z1S (Z3l q hn)];exact q
 frzs:=fun b u xs q=>by rw[Z1S (Z3l q hn)];exact q
 tbls:=fun b ps q=>⟨#[],by rw[Z1S (Z3l q hn),q];simp⟩
theorem Un.write (mu:Mut (H x))(he:e=x∨H e=some (.own x))(k:∀ b u,b≠e→h.get? b=some u→h'.get? b=some u)(heo:∃ u,h'.get? e=some u):Un fs ex H (upd H x o) h h':=by
 have hx:∀ b,H b=none→b≠x:=fun b n z=>by subst z;rw[n] at mu;exact mu
 have hb:∀ b,H b=none→b≠e:=fun b n z=>by
  subst z
  rcases he with r|r
  ·exact hx b n r
  ·rw[n] at r;cases r
 have hm:∀ b u,H b=some u→¬ Mut (some u)→b≠x:=fun b u q nm z=>by subst z;rw[q] at mu;exact nm mu
 refine⟨fun b u q n _ _=>k b u (hb b n) q,fun b u q n _ _=>⟨u.slots,k b u (hb b n) q⟩,fun b u q n _=>by rw[Z1S (hx b n)];exact n,fun b u q _=>?_,
  fun b xs q=>by rw[Z1S (hm b _ q fun z=>z)];exact q,fun b u xs q=>by rw[Z1S (hm b _ q fun z=>z)];exact q,fun b ps q=>⟨#[],by rw[Z1S (hm b _ q fun z=>z),q];simp⟩⟩
 by_cases hbe:b=e
 ·subst hbe;exact heo
 ·exact⟨u,k b u hbe q⟩
theorem Un.mono (u:Un fs ex H H1 h h1)(hs:∀ b∈fs,b∈fs')(hx:∀ b∈ex,b∈ex'):Un fs' ex' H H1 h h1 :=
 ⟨fun b ob q n hb he=>u.keep b ob q n (fun z=>hb (hs b z)) fun z=>he (hx b z),fun _ _ q n _ he=>u.any q n fun z=>he (hx _ z),fun b ob q n he=>u.free b ob q n fun z=>he (hx b z),fun b ob q he=>u.there b ob q fun z=>he (hx b z),u.tups,u.frzs,u.tbls⟩
end
noncomputable def trk (h:Heap)(H:Hp):List Addr:=(Z0L h.objs.size).filter fun a=>(H a).isSome
noncomputable def ZlF (h:Heap)(H:Hp):Heap:=PySem.W.hideAll h (trk h H)
theorem Zjn (h:Heap)(H:Hp):(ZlF h H).objs.size=h.objs.size:=PySem.W.hideAll_size _ _
theorem ZlE {h:Heap}{H:Hp}{b:Addr}{o:Obj}(e:h.get? b=some o)(n:H b=none):(ZlF h H).get? b=some o :=
 PySem.W.hideAll_get _ e fun hm=>by
  have q:(H b).isSome=true:=(Z10.mp hm).2
  rw[n] at q;simp at q
theorem Zoe {h:Heap}{H:Hp}{b:Addr}{o:Obj}(e:(ZlF h H).get? b=some o):h.get? b=some o∧H b=none:=by
 have e':h.get? b=some o:=PySem.W.of_hideAll (trk h H) e
 refine⟨e',?_⟩
 cases q:H b with
 |none=>rfl
 |some x =>
  have hm:b∈trk h H:=Z10.mpr ⟨Z37.mpr (Zw e'),by simp[q]⟩
  have z:(ZlF h H).get? b=none:=PySem.W.hideAll_none (trk h H) hm
  rw[z] at e;cases e
structure Mod (K:Fg_)(mg:Str→Option Value)(base:Heap):Prop where
 kin:K.In base
 glob:base.Ns mainGlobals mg
 blt:∃ mb,base.Ns builtinsNs mb∧∀ x:Str,x≠"__name__"→mb x=bootBuiltins x
 nolimit:base.NoLimit
structure Cx where
 prog:Program
 w:World
 K:Fg_
 mg:Str→Option Value
 base:Heap
 A:Around
 N:List Str
 s₀:Shared
 H₀:Hp
 env:Env
 outer:List Env
 stack:List Env
 ex:List Addr
 fn:Str→Bool
 calm:Bool
 pn:List (Addr×Obj)
 xe:Value→Shared→Prop
noncomputable def frs (l:List Env):List Addr:=l.filterMap (·.frame)
noncomputable abbrev Cx.fs (X:Cx):List Addr:=frs X.outer
noncomputable def Vis (sc:Scope)(x:Str):Prop:=sc.names.lookup x=some .local∨sc.names.lookup x=some .cell∨sc.names.lookup x=some .free
noncomputable def Loc (sc:Scope)(x:Str):Prop:=sc.names.lookup x=some .local∨sc.names.lookup x=some .cell
noncomputable def Look (env:Env)(h:Heap)(m:Str→Option Value)(x:Str)(u:Value):Prop :=
 (env.kindOf x=some .local∧m x=some u)∨((env.kindOf x=some .cell∨env.kindOf x=some .free)∧∃ c,env.cells.lookup x=some c∧h.IsCell c (some u))
structure Cx.Ok (X:Cx):Prop where
 mod:Mod X.K X.mg X.base
 kind:X.env.scope.kind=.function
 glob:X.env.globals=mainGlobals
 blt:X.env.builtins=builtinsNs
 above:X.s₀.heap.objs.size≤X.env.locals
 inj:∀ x y c,X.env.cells.lookup x=some c→X.env.cells.lookup y=some c→x=y
 has:∀ x,(X.env.kindOf x=some .cell∨X.env.kindOf x=some .free)→∃ c,X.env.cells.lookup x=some c
 cab:∀ x c,X.fn x=true→X.env.cells.lookup x=some c→X.s₀.heap.objs.size≤c
 hd:X.calm=true→X.A.handled=none
 frames:X.A.frames=some X.stack
 stk:X.stack=X.outer∨(X.stack=X.env::X.outer∧X.env.frame=some X.env.locals)
 exf:∀ b∈X.ex,b≠X.env.locals∧∀ x c,X.env.cells.lookup x=some c→c≠b
 bs:∀ b o,X.base.get? b=some o→X.s₀.heap.get? b=some o∧X.H₀ b=none
 bsz:X.base.objs.size≤X.s₀.heap.objs.size
 noex:∀ b o,X.base.get? b=some o→b∉X.ex
 exfs:∀ b∈X.ex,b∉X.fs
 funs:X.s₀.heap.FunFrames X.base X.outer
 frf:∀ b∈X.fs,X.H₀ b=none
structure Inv (X:Cx)(pins:List (Addr×Obj))(σ:List (Option V))(H:Hp)(s:Shared):Prop where
 ok:X.Ok
 os:s.os=X.s₀.os
 bare:AllBare s.gens
 base:Un X.fs X.ex X.H₀ H X.s₀.heap s.heap
 loc:∃ m,s.heap.Ns X.env.locals m∧∀ (i:Nat) (x:Str) (v:V),X.N[i]?=some x→σ[i]?=some (some v)→Vis X.env.scope x→∃ u,RelV v u∧Look X.env s.heap m x u
 cell:∀ x c,X.env.cells.lookup x=some c→∃ v,s.heap.IsCell c v
 free:H X.env.locals=none
 freeC:∀ x c,X.env.cells.lookup x=some c→H c=none
 pin:∀ p∈X.pn++pins,s.heap.get? p.1=some p.2∧H p.1=none∧p.1≠X.env.locals∧p.1∉X.fs∧∀ v,p.2.data≠.cell v
 hok:HOk X.prog X.w H s.heap
 len:σ.length=X.N.length
section
variable {X:Cx}{pins:List (Addr×Obj)}{σ:List (Option V)}{H H':Hp}{s:Shared}{h':Heap}
theorem Cx.Ok.nofr (ok:X.Ok){b:Addr}{o:Obj}(e:X.base.get? b=some o):b∉X.fs:=fun hb=>by
 have:=(ok.funs.mem hb).1
 rw[e] at this;cases this
theorem Inv.bs (I:Inv X pins σ H s):∀ b o,X.base.get? b=some o→s.heap.get? b=some o∧H b=none:=fun b o e =>
 ⟨I.base.keep b o (I.ok.bs b o e).1 (I.ok.bs b o e).2 (I.ok.nofr e) (I.ok.noex b o e),I.base.free b o (I.ok.bs b o e).1 (I.ok.bs b o e).2 (I.ok.noex b o e)⟩
theorem Inv.bk (I:Inv X pins σ H s):∀ b o,X.base.get? b=some o→s.heap.get? b=some o:=fun b o e=>(I.bs b o e).1
theorem Inv.mod (I:Inv X pins σ H s):Mod X.K X.mg X.base:=I.ok.mod
theorem Inv.kIn (I:Inv X pins σ H s):X.K.In s.heap:=I.ok.mod.kin.keeps I.bk
theorem Inv.lt (I:Inv X pins σ H s):X.env.locals<s.heap.objs.size:=let ⟨_,hn,_⟩:=I.loc;hn.lt
theorem Inv.sz (I:Inv X pins σ H s):X.s₀.heap.objs.size≤s.heap.objs.size:=ZR I.ok.above (Z3v I.lt)
theorem Inv.nofs (I:Inv X pins σ H s){a:Addr}(h:s.heap.objs.size≤a):a∉X.fs:=fun hb=>by
 obtain⟨_,o,ho,_⟩:=I.ok.funs.mem hb
 exact absurd (ZX (Zw ho) (ZR I.sz h)) (Z1Q _)
theorem Inv.cne (I:Inv X pins σ H s):∀ x c,X.env.cells.lookup x=some c→c≠X.env.locals:=fun x c e z=>by
 obtain⟨v,o,ho,hd⟩:=I.cell x c e
 obtain⟨m,⟨o',es,ep,ho',hd',_⟩,_⟩:=I.loc
 rw[z,ho'] at ho;cases ho;rw[hd'] at hd;cases hd
theorem Inv.funs (I:Inv X pins σ H s):s.heap.FunFrames X.base X.outer:=by
 have all:∀ (l:List Env),(∀ b∈frs l,b∈X.fs)→X.s₀.heap.FunFrames X.base l→s.heap.FunFrames X.base l:=by
  intro l
  induction l with
  |nil=>intro _ _;trivial
  |cons env r ih =>
   intro hs hl
   obtain⟨hk,⟨L,o,hf,hn,ho,hd⟩,hr⟩:=hl
   have hL:L∈X.fs:=hs L (by unfold frs;rw[Z2Z,hf];exact Z4)
   obtain⟨sl,e⟩:=I.base.slot L o ho (I.ok.frf L hL) hL fun z=>I.ok.exfs L z hL
   exact⟨hk,⟨L,_,hf,hn,e,hd⟩,ih (fun b hb=>hs b (by unfold frs;rw[Z2Z,hf];exact Z9 _ hb)) hr⟩
 exact all X.outer (fun _ hb=>hb) I.ok.funs
theorem Inv.stack (I:Inv X pins σ H s):s.heap.FunFrames X.base X.stack:=by
 rcases I.ok.stk with e|⟨e,hf⟩
 ·rw[e];exact I.funs
 ·rw[e]
  obtain⟨m,hn,_⟩:=I.loc
  refine .cons (by rw[I.ok.kind];decide) hf hn ?_ I.funs
  exact Z5b (ZR I.ok.bsz I.ok.above)
theorem Inv.stkSub (I:Inv X pins σ H s):∀ b∈frs X.stack,b∈X.env.locals::X.fs:=fun b hb=>by
 rcases I.ok.stk with e|⟨e,hf⟩
 ·rw[e] at hb;exact Z9 _ hb
 ·rw[e] at hb
  unfold frs at hb
  rw[Z2Z,hf] at hb
  exact hb
theorem Inv.stkFree (I:Inv X pins σ H s):∀ b∈frs X.stack,H b=none:=fun b hb=>by
 rcases Zi.mp (I.stkSub b hb) with e|hb
 ·rw[e];exact I.free
 ·obtain⟨_,o,ho,_⟩:=I.ok.funs.mem hb
  exact I.base.free b o ho (I.ok.frf b hb) fun z=>I.ok.exfs b z hb
theorem Inv.step {g':Array Ztc}{t':Nat}{d':Drawn}{ch:List Addr}(I:Inv X pins σ H s)
  (hch:∀ b∈ch,(b∈X.ex∨X.s₀.heap.objs.size≤b)∧b≠X.env.locals∧(∀ x c,X.env.cells.lookup x=some c→c≠b)∧∀ p∈X.pn++pins,p.1≠b)
  (keep:∀ b o,b≠X.env.locals→b∉X.fs→b∉ch→s.heap.get? b=some o→H b=none→h'.get? b=some o)
  (slot:∀ b o,b≠X.env.locals→b∈X.fs→b∉ch→s.heap.get? b=some o→H b=none→∃ sl,h'.get? b=some { o with slots:=sl }) (free:∀ b o,b∉ch→s.heap.get? b=some o→H b=none→H' b=none)
  (there:∀ b o,b∉ch→s.heap.get? b=some o→∃ o',h'.get? b=some o')
  (tups:∀ b xs,H b=some (.tup xs)→H' b=some (.tup xs)) (frzs:∀ b o u,H b=some (.frz o u)→H' b=some (.frz o u)) (tbls:∀ b ps,H b=some (.tbl ps)→∃ more,H' b=some (.tbl (ps++more)))
  (ns:∀ m,s.heap.Ns X.env.locals m→h'.Ns X.env.locals m) (hok:HOk X.prog X.w H' h') (hg:AllBare g') :
  Inv X pins σ H' { s with heap:=h',gens:=g',drawn:=d',toks:=t' }:=by
 have neL:∀ b o,X.s₀.heap.get? b=some o→b≠X.env.locals:=fun b o e=>ZW (ZX (Zw e) I.ok.above)
 have neC:∀ b o,X.s₀.heap.get? b=some o→b∉X.ex→b∉ch:=fun b o e hx hb=>by
  rcases (hch b hb).1 with z|z
  ·exact hx z
  ·exact absurd (ZX (Zw e) z) (Z1Q _)
 have cellK:∀ x c,X.env.cells.lookup x=some c→∀ v,s.heap.IsCell c v→h'.IsCell c v:=fun x c e v z1_=>by
  obtain ⟨o,ho,hd⟩:=z1_
  have nch:c∉ch:=fun z=>(hch c z).2.2.1 x c e rfl
  by_cases hc:c∈X.fs
  ·obtain⟨sl,q⟩:=slot c o (I.cne x c e) hc nch ho (I.freeC x c e)
   exact⟨_,q,hd⟩
  ·exact⟨o,keep c o (I.cne x c e) hc nch ho (I.freeC x c e),hd⟩
 refine⟨I.ok,I.os,hg,⟨fun b o e n hb hx=>?_,fun b o e n hb hx=>?_,fun b o e n hx=>?_,fun b o e hx=>?_,fun b xs e=>tups b xs (I.base.tups b xs e),fun b o xs e=>frzs b o xs (I.base.frzs b o xs e),fun b ps e=>?_⟩,?_,fun x c e=>?_,?_,fun x c e=>?_,fun p hp=>?_,hok,I.len⟩
 ·exact keep b o (neL b o e) hb (neC b o e hx) (I.base.keep b o e n hb hx) (I.base.free b o e n hx)
 ·obtain⟨sl,e1⟩:=I.base.slot b o e n hb hx
  obtain⟨sl',e2⟩:=slot b _ (neL b o e) hb (neC b o e hx) e1 (I.base.free b o e n hx)
  exact⟨sl',e2⟩
 ·obtain⟨o',e1⟩:=I.base.there b o e hx
  exact free b o' (neC b o e hx) e1 (I.base.free b o e n hx)
 ·obtain⟨o',e1⟩:=I.base.there b o e hx
  exact there b o' (neC b o e hx) e1
 ·obtain⟨m1,e1⟩:=I.base.tbls b ps e
  obtain⟨m2,e2⟩:=tbls b _ e1
  exact⟨m1++m2,by rw[e2,Array.append_assoc]⟩
 ·obtain⟨m,hn,hl⟩:=I.loc
  refine⟨m,ns m hn,fun i x v e1 e2 e3=>?_⟩
  obtain⟨u,r,l⟩:=hl i x v e1 e2 e3
  refine⟨u,r,?_⟩
  rcases l with l|⟨k,c,e,z⟩
  ·exact .inl l
  ·exact .inr ⟨k,c,e,cellK x c e _ z⟩
 ·obtain⟨v,z⟩:=I.cell x c e
  exact⟨v,cellK x c e v z⟩
 ·obtain⟨m,⟨o,_,_,ho,_⟩,_⟩:=I.loc
  exact free _ o (fun z=>(hch _ z).2.1 rfl) ho I.free
 ·obtain⟨v,o,ho,hd⟩:=I.cell x c e
  exact free c o (fun z=>(hch c z).2.2.1 x c e rfl) ho (I.freeC x c e)
 ·obtain⟨e,n,ne,nf,d⟩:=I.pin p hp
  have nch:p.1∉ch:=fun z=>(hch p.1 z).2.2.2 p hp rfl
  exact⟨keep p.1 p.2 ne nf nch e n,free p.1 p.2 nch e n,ne,nf,d⟩
theorem Inv.un {t':Nat}(I:Inv X pins σ H s)(u:Un X.fs [] H H' s.heap h')(hok:HOk X.prog X.w H' h'):Inv X pins σ H' { s with heap:=h',toks:=t' }:=by
 obtain⟨m,⟨o,es,ep,ho,r⟩,_⟩:=id I.loc
 obtain⟨sl,hL⟩:=u.any ho I.free (by simp)
 exact I.step (g':=s.gens) (d':=s.drawn) (ch:=[]) (fun _ z=>nomatch z) (fun b o _ hb _ e n=>u.keep b o e n hb (by simp)) (fun b o _ hb _ e n=>u.slot b o e n hb (by simp)) (fun b o _ e n=>u.free b o e n (by simp)) (fun b o _ e=>u.there b o e (by simp)) u.tups u.frzs u.tbls (fun m' hm=>by
  obtain⟨o',es',ep',ho',r'⟩:=hm
  rw[ho] at ho';cases ho'
  exact⟨_,es',ep',hL,r'⟩) hok I.bare
theorem Inv.call {g':Array Ztc}{t':Nat}{d':Drawn}{ch:List Addr}(I:Inv X pins σ H s)(u:Un (frs X.stack) ch H H' s.heap h')(hok:HOk X.prog X.w H' h')(hg:AllBare g')
  (hch:∀ b∈ch,(b∈X.ex∨X.s₀.heap.objs.size≤b)∧b≠X.env.locals∧(∀ x c,X.env.cells.lookup x=some c→c≠b)∧∀ p∈X.pn++pins,p.1≠b) :
  Inv X pins σ H' { s with heap:=h',gens:=g',drawn:=d',toks:=t' }:=by
 obtain⟨m,⟨o,es,ep,ho,r⟩,_⟩:=id I.loc
 obtain⟨sl,hL⟩:=u.any ho I.free fun z=>(hch _ z).2.1 rfl
 exact I.step (ch:=ch) hch (fun b o hL hb hc e n=>u.keep b o e n (fun z=>(Zi.mp (I.stkSub b z)).elim hL hb) hc) (fun b o _ _ hc e n=>u.any e n hc) (fun b o hc e n=>u.free b o e n hc) (fun b o hc e=>u.there b o e hc) u.tups u.frzs u.tbls (fun m' hm=>by
  obtain⟨o',es',ep',ho',r'⟩:=hm
  rw[ho] at ho';cases ho'
  exact⟨_,es',ep',hL,r'⟩) hok hg
theorem Inv.turned {t':Nat}{it:Addr}(I:Inv X pins σ H s)(k:∀ b o,b≠it→s.heap.get? b=some o→h'.get? b=some o)(hn:H it=none)(hL:it≠X.env.locals)
  (h1:it∈X.ex∨X.s₀.heap.objs.size≤it) (h2:∀ x c,X.env.cells.lookup x=some c→c≠it) (h3:∀ p∈X.pn++pins,p.1≠it):Inv X pins σ H { s with heap:=h',toks:=t' }:=by
 have nit:∀ b u,H b=some u→b≠it:=fun b u e z=>by rw[z,hn] at e;cases e
 refine I.step (g':=s.gens) (d':=s.drawn) (ch:=[it]) (fun b hb=>?_) (fun b o _ _ hc e _=>k b o (fun z=>hc (by simp[z])) e) (fun b o _ _ hc e _=>⟨o.slots,k b o (fun z=>hc (by simp[z])) e⟩) (fun _ _ _ _ n=>n)
  (fun b o hc e=>⟨o,k b o (fun z=>hc (by simp[z])) e⟩) (fun _ _ e=>e) (fun _ _ _ e=>e) (fun b ps e=>⟨#[],by rw[e];simp⟩) (fun m hm=>?_) (fun b u e=>?_) I.bare
 ·have e:b=it:=by simpa using hb
  subst e
  exact⟨h1,hL,h2,h3⟩
 ·obtain⟨o,es,ep,ho,r⟩:=hm
  exact⟨o,es,ep,k _ o (Z2q hL) ho,r⟩
 ·refine (I.hok b u e).stay (fun c v hc q=>k c v ?_ q) (fun _ q=>q) fun _ _ q=>q
  rcases hc with z|z
  ·rw[z];exact nit b u e
  ·exact nit c _ z
theorem Inv.tok (I:Inv X pins σ H s)(t:Nat):Inv X pins σ H { s with toks:=t }:=I.un (h':=s.heap) (t':=t) Un.refl I.hok
theorem Inv.kept {t':Nat}(I:Inv X pins σ H s)(k:∀ b u,s.heap.get? b=some u→h'.get? b=some u):Inv X pins σ H { s with heap:=h',toks:=t' }:=I.un (Un.kept k) (I.hok.kept k)
theorem Inv.laid {a:Addr}{o:HO}{t':Nat}(I:Inv X pins σ H s)(k:∀ b u,s.heap.get? b=some u→h'.get? b=some u)(hp:s.heap.objs.size≤a)(new:Z7E X.prog X.w (upd H a o) h' a o) :
  Inv X pins σ (upd H a o) { s with heap:=h',toks:=t' }:=I.un (Un.laid k hp (I.hok.fresh hp)) (I.hok.laid k hp new)
theorem Inv.write {x e:Addr}{o:HO}{t':Nat}(I:Inv X pins σ H s)(mu:Mut (H x))(he:e=x∨H e=some (.own x))(k:∀ b u,b≠e→s.heap.get? b=some u→h'.get? b=some u)(heo:∃ u,h'.get? e=some u)
  (new:Z7E X.prog X.w (upd H x o) h' x o):Inv X pins σ (upd H x o) { s with heap:=h',toks:=t' }:=I.un (Un.write mu he k heo) (I.hok.write mu he k heo new)
theorem Inv.weak {σ':List (Option V)}(I:Inv X pins σ H s)(hl:σ'.length=σ.length)(w:∀ (i:Nat) v,σ'[i]?=some (some v)→σ[i]?=some (some v)):Inv X pins σ' H s :=
 ⟨I.ok,I.os,I.bare,I.base,let ⟨m,hn,hl'⟩:=I.loc;⟨m,hn,fun i x v e1 e2 e3=>hl' i x v e1 (w i v e2) e3⟩,I.cell,I.free,I.freeC,I.pin,I.hok,hl.trans I.len⟩
theorem Inv.pins_of {pins':List (Addr×Obj)}(I:Inv X pins σ H s)(h:∀ p∈pins',s.heap.get? p.1=some p.2∧H p.1=none∧p.1≠X.env.locals∧p.1∉X.fs∧∀ v,p.2.data≠.cell v):Inv X pins' σ H s :=
 ⟨I.ok,I.os,I.bare,I.base,I.loc,I.cell,I.free,I.freeC,fun p hp=>(ZQ.mp hp).elim (fun z=>I.pin p (Z08 _ z)) (h p),I.hok,I.len⟩
theorem Zg6 {N:List Str}(hN:N.Nodup){i j:Nat}{x:Str}(a:N[i]?=some x)(b:N[j]?=some x):i=j:=by
 obtain⟨h1,e1⟩:=Zv.mp a
 obtain⟨h2,e2⟩:=Zv.mp b
 exact (List.getElem_inj hN).mp (e1.trans e2.symm)
theorem ZcG {M:Model}{A:Around}{E:Value→Shared→Prop}{i:Nat}{x:Str}{v:V}{u:Value}{Q:Unit→Shared→Prop}(I:Inv X pins σ H s)(hN:X.N.Nodup)(hi:X.N[i]?=some x)(hx:Loc X.env.scope x)(r:RelV v u)
  (h:∀ s',Inv X pins (σ.set i (some v)) H s'→(∃ a,Z0K a s.heap s'.heap∧(a=X.env.locals∨X.env.cells.lookup x=some a))→Q () s') (hf:X.fn x=true∨X.env.scope.names.lookup x=some .local:=by first|exact .inl rfl|exact .inr rfl|assumption):wpAny M A (storeName X.env x u) Q E s:=by
 obtain⟨m,hn,hl⟩:=id I.loc
 have hcls:(X.env.scope.kind == .class||(X.env.scope.kind == .module&&X.env.locals != X.env.globals))=false:=by rw[I.ok.kind];rfl
 have hiσ:i<σ.length:=by rw[I.len];exact (Zv.mp hi).1
 have cne:=I.cne
 have tracked:∀ {a:Addr} {h':Heap},(∃ o,s.heap.get? a=some o∧H a=none)→Z0K a s.heap h'→HOk X.prog X.w H h':=fun {a h'} ha hs b ob e=>by
  obtain⟨_,_,hfree⟩:=ha
  refine (I.hok b ob e).stay (fun c w' hc q=>(hs.2 c ?_).trans q) (fun _ q=>q) fun _ _ q=>q
  rintro rfl
  rcases hc with rfl|hc
  ·rw[hfree] at e;cases e
  ·rw[hfree] at hc;cases hc
 rcases hx with hk|hk
 ·refine wpAny_storeName_local hk hn (fun h' hn' hs=>?_) hcls
  obtain⟨oL,_,_,hoL,_⟩:=id hn
  refine h _ ⟨I.ok,I.os,I.bare,⟨fun b o e n hb hx=>?_,fun b o e n hb hx=>?_,I.base.free,fun b o e hx=>?_,I.base.tups,I.base.frzs,I.base.tbls⟩,⟨_,hn',fun j y v' e1 e2 e3=>?_⟩,fun y c e=>?_,I.free,I.freeC,fun p hp=>?_,tracked ⟨oL,hoL,I.free⟩ hs,by simpa using I.len⟩ ⟨_,hs,.inl rfl⟩
  ·exact (hs.2 b (ZW (ZX (Zw e) I.ok.above))).trans (I.base.keep b o e n hb hx)
  ·obtain⟨sl,e1⟩:=I.base.slot b o e n hb hx
   exact⟨sl,(hs.2 b (ZW (ZX (Zw e) I.ok.above))).trans e1⟩
  ·obtain⟨o',e1⟩:=I.base.there b o e hx
   exact⟨o',(hs.2 b (ZW (ZX (Zw e) I.ok.above))).trans e1⟩
  ·by_cases hj:j=i
   ·subst hj
    rw[hi] at e1;cases e1
    rw[ZG hiσ] at e2
    cases e2
    exact⟨u,r,.inl ⟨hk,by simp⟩⟩
   ·rw[Zn (Z2q hj)] at e2
    obtain⟨u',r',q⟩:=hl j y v' e1 e2 e3
    refine⟨u',r',?_⟩
    rcases q with ⟨k,e⟩|⟨k,c,e,z⟩
    ·refine .inl ⟨k,?_⟩
     have:y≠x:=fun e=>hj (Zg6 hN e1 (e ▸ hi))
     simp[this,e]
    ·exact .inr ⟨k,c,e,z.sameBut hs (cne y c e)⟩
  ·obtain⟨w',z⟩:=I.cell y c e
   exact⟨w',z.sameBut hs (cne y c e)⟩
  ·obtain⟨e,n,ne,nf,d⟩:=I.pin p hp
   exact⟨(hs.2 p.1 ne).trans e,n,ne,nf,d⟩
 ·have hfn:X.fn x=true:=by
   rcases hf with z|z
   ·exact z
   ·rw[z] at hk;cases hk
  obtain⟨c,hc⟩:=I.ok.has x (.inl hk)
  obtain⟨w',z⟩:=I.cell x c hc
  refine wpAny_storeName_cell I.ok.kind hk hc z (fun h' hc' hs=>?_)
  obtain⟨oc,hoc,hocd⟩:=id z
  refine h { s with heap:=h' } ⟨I.ok,I.os,I.bare,⟨fun b o e n hb hx=>?_,fun b o e n hb hx=>?_,I.base.free,fun b o e hx=>?_,I.base.tups,I.base.frzs,I.base.tbls⟩,⟨m,hn.sameBut hs (Z2q (cne x c hc)),fun j y v' e1 e2 e3=>?_⟩,fun y c' e=>?_,I.free,I.freeC,fun p hp=>?_,tracked ⟨oc,hoc,I.freeC x c hc⟩ hs,by simpa using I.len⟩ ⟨c,hs,.inr hc⟩
  ·exact (hs.2 b (ZW (ZX (Zw e) (I.ok.cab x c hfn hc)))).trans (I.base.keep b o e n hb hx)
  ·obtain⟨sl,e1⟩:=I.base.slot b o e n hb hx
   exact⟨sl,(hs.2 b (ZW (ZX (Zw e) (I.ok.cab x c hfn hc)))).trans e1⟩
  ·obtain⟨o',e1⟩:=I.base.there b o e hx
   exact⟨o',(hs.2 b (ZW (ZX (Zw e) (I.ok.cab x c hfn hc)))).trans e1⟩
  ·by_cases hj:j=i
   ·subst hj
    rw[hi] at e1;cases e1
    rw[ZG hiσ] at e2
    cases e2
    exact⟨u,r,.inr ⟨.inl hk,c,hc,hc'⟩⟩
   ·rw[Zn (Z2q hj)] at e2
    obtain⟨u',r',q⟩:=hl j y v' e1 e2 e3
    refine⟨u',r',?_⟩
    rcases q with q|⟨k,c',e,z'⟩
    ·exact .inl q
    ·refine .inr ⟨k,c',e,z'.sameBut hs ?_⟩
     rintro rfl
     exact hj (Zg6 hN e1 (I.ok.inj _ _ _ e hc ▸ hi))
  ·by_cases hcc:c'=c
   ·subst hcc;exact⟨_,hc'⟩
   ·obtain⟨w2,z2⟩:=I.cell y c' e
    exact⟨w2,z2.sameBut hs hcc⟩
  ·obtain⟨e,n,ne,nf,d⟩:=I.pin p hp
   refine⟨(hs.2 p.1 ?_).trans e,n,ne,nf,d⟩
   intro q
   rw[q,hoc] at e
   have q':oc=p.2:=Z0e e
   exact d w' (by rw[← q'];exact hocd)
theorem ZfJ {M:Model}{A:Around}{E:Value→Shared→Prop}{i:Nat}{x:Str}{v:V}{u:Value}{Q:Unit→Shared→Prop}(I:Inv X pins σ H s)(hN:X.N.Nodup)(hi:X.N[i]?=some x)(hx:Loc X.env.scope x)(r:RelV v u)
  (h:∀ s',Inv X pins (σ.set i (some v)) H s'→Q () s') (hf:X.fn x=true∨X.env.scope.names.lookup x=some .local:=by first|exact .inl rfl|exact .inr rfl|assumption):wpAny M A (storeName X.env x u) Q E s :=
 ZcG I hN hi hx r (fun s' I' _=>h s' I') hf
theorem Inv.call' {s':Shared}{ch:List Addr}(I:Inv X pins σ H s)(ho:s'.os=s.os)(u:Un (frs X.stack) ch H H' s.heap s'.heap)(hok:HOk X.prog X.w H' s'.heap)(hg:AllBare s'.gens)
  (hch:∀ b∈ch,(b∈X.ex∨X.s₀.heap.objs.size≤b)∧b≠X.env.locals∧(∀ x c,X.env.cells.lookup x=some c→c≠b)∧∀ p∈X.pn++pins,p.1≠b):Inv X pins σ H' s':=by
 obtain⟨h',g',d',t',o'⟩:=s'
 have e:o'=s.os:=ho
 subst e
 exact I.call (g':=g') (t':=t') (d':=d') u hok hg hch
end
noncomputable abbrev XK:=Value→Option Addr→Hp→Prop
noncomputable abbrev St:=List (Option V)
noncomputable abbrev VK:=V→Hp→Prop
noncomputable abbrev TE:=St→Hp→VK→Prop
noncomputable abbrev TT:=St→Hp→(Bool→Hp→Prop)→Prop
noncomputable abbrev TA:=St→Hp→(List V→Hp→Prop)→Prop
structure Zm6 where
 nx:St→Hp→Prop
 rt:VK
 bk:St→Hp→Prop:=fun _ _=>False
 ct:St→Hp→Prop:=fun _ _=>False
noncomputable abbrev TS:=Zm6→St→Hp→Prop
noncomputable def EP (X:Cx)(pins:List (Addr×Obj))(σ:St)(Q:VK)(u:Value)(s':Shared):Prop:=∃ v H',Inv X pins σ H' s'∧RelV v u∧Q v H'
noncomputable def TP (X:Cx)(pins:List (Addr×Obj))(σ:St)(Q:Bool→Hp→Prop)(b:Bool)(s':Shared):Prop:=∃ H',Inv X pins σ H' s'∧Q b H'
noncomputable def AP (X:Cx)(pins:List (Addr×Obj))(σ:St)(Q:List V→Hp→Prop)(us:List Value)(s':Shared):Prop:=∃ vs H',Inv X pins σ H' s'∧Z20 vs us∧Q vs H'
noncomputable def SP (X:Cx)(pins:List (Addr×Obj))(D:Zm6)(f:Flow)(s':Shared):Prop :=
 match f with
 |.next=>∃ σ' H',Inv X pins σ' H' s'∧D.nx σ' H'
 |.brk=>∃ σ' H',Inv X pins σ' H' s'∧D.bk σ' H'
 |.cont=>∃ σ' H',Inv X pins σ' H' s'∧D.ct σ' H'
 |.ret u=>∃ v σ' H',Inv X pins σ' H' s'∧RelV v u∧D.rt v H'
noncomputable def PE (X:Cx)(e:Expr)(t:TE):Prop :=
 ∀ (pins:List (Addr×Obj)) (s:Shared) (σ:St) (H:Hp) (Q:VK),Inv X pins σ H s→t σ H Q→wpAny (model X.prog X.w) X.A (eval e X.env) (EP X pins σ Q) X.xe s
noncomputable def PT (X:Cx)(e:Expr)(t:TT):Prop :=
 ∀ (pins:List (Addr×Obj)) (s:Shared) (σ:St) (H:Hp) (Q:Bool→Hp→Prop),Inv X pins σ H s→t σ H Q→wpAny (model X.prog X.w) X.A (isTrue e X.env (eval e X.env)) (TP X pins σ Q) X.xe s
noncomputable def PW (X:Cx)(e:Expr)(t:TT):Prop :=
 ∀ (whole:Sem Value) (pins:List (Addr×Obj)) (s:Shared) (σ:St) (H:Hp) (Q:Bool→Hp→Prop),Inv X pins σ H s→t σ H Q→wpAny (model X.prog X.w) X.A (isTrue e X.env whole) (TP X pins σ Q) X.xe s
theorem PW.pt {X:Cx}{e:Expr}{t:TT}(h:PW X e t):PT X e t:=h _
noncomputable def PA (X:Cx)(es:List Expr)(t:TA):Prop :=
 ∀ (pos:Pos) (pins:List (Addr×Obj)) (s:Shared) (σ:St) (H:Hp) (Q:List V→Hp→Prop),Inv X pins σ H s→t σ H Q→wpAny (model X.prog X.w) X.A (spliced (backTo pos (starEach es X.env))) (AP X pins σ Q) X.xe s
noncomputable def PS (X:Cx)(st:Stmt)(t:TS):Prop :=
 ∀ (pins:List (Addr×Obj)) (s:Shared) (σ:St) (H:Hp) (D:Zm6),Inv X pins σ H s→t D σ H→wpAny (model X.prog X.w) X.A (exec st X.env) (SP X pins D) X.xe s
noncomputable def PSs (X:Cx)(st:List Stmt)(t:TS):Prop :=
 ∀ (pins:List (Addr×Obj)) (s:Shared) (σ:St) (H:Hp) (D:Zm6),Inv X pins σ H s→t D σ H→wpAny (model X.prog X.w) X.A (execs st X.env) (SP X pins D) X.xe s
theorem thn {α:Type}{t:Sem α}{Q Q':α→Shared→Prop}{M:Model}{A:Around}{E:Value→Shared→Prop}{s:Shared}(h:wpAny M A t Q E s)(hQ:∀ a s,Q a s→Q' a s):wpAny M A t Q' E s:=Z1k h hQ fun _ _ x=>x
section
variable {X:Cx}
noncomputable def Zmd (i:Nat):TE:=fun σ H Q=>∃ v,σ[i]?=some (some v)∧Q v H
noncomputable def tC (v:V):TE:=fun _ H Q=>Q v H
theorem Zpz {i:Nat} {x:Str} {pos:Pos} (hN:X.N[i]?=some x) (hv:Vis X.env.scope x) (hd:(x == ("__debug__":Str))=false:=by decide) (hcd:(x == ("__classdict__":Str))=false:=by decide):PE X (.Name x pos) (Zmd i):=by
 intro pins s σ H Q I h
 obtain⟨v,e,h⟩:=h
 obtain⟨m,hn,hl⟩:=I.loc
 obtain⟨u,r,l⟩:=hl i x v hN e hv
 have fin:EP X pins σ Q u s:=⟨v,H,I,r,h⟩
 rcases l with ⟨hk,hm⟩|⟨hk,c,hc,hcell⟩
 ·exact ZqU (wpAny_loadName_local I.ok.kind hk hn hm fin) hd
 ·rcases hk with hk|hk
  ·exact ZqU (wpAny_loadName_cell I.ok.kind hk hc hcell fin) hd
  ·exact ZqU (wpAny_loadName_free I.ok.kind hk hc hcell fin hcd) hd
theorem ZpG {i j pos}:PE X (.Constant (.int i) j pos) (tC (.int i)):=fun _ _ _ H _ I h=>wpAny_Constant_int ⟨.int i,H,I.tok _,⟨_,rfl⟩,h⟩
theorem ZrD {b j pos}:PE X (.Constant (.bool b) j pos) (tC (.bl b)):=fun _ _ _ H _ I h=>Constant_bool ⟨.bl b,H,I,rfl,h⟩
theorem ZpE {j pos}:PE X (.Constant .none j pos) (tC .non):=fun _ _ _ H _ I h=>Constant_none ⟨.non,H,I,rfl,h⟩
theorem ZpB {x j pos}:PE X (.Constant (.str x) j pos) (tC (.str x)):=fun _ _ _ H _ I h=>Calls.Constant_str ⟨.str x,H,I.tok _,⟨_,rfl⟩,h⟩
noncomputable def Gl (X:Cx)(x:Str):Prop:=X.env.kindOf x=some .globalImplicit
theorem Zje {E:Value→Shared→Prop}{pins:List (Addr×Obj)}{s:Shared}{σ:St}{H:Hp}{x:Str}{u:Value}{pos:Pos}{Q:Value→Shared→Prop}(I:Inv X pins σ H s)(hg:Gl X x)(hm:X.mg x=some u)(h:Q u s)
  (hd:(x == ("__debug__":Str))=false:=by decide):wpAny (model X.prog X.w) X.A (eval (.Name x pos) X.env) Q E s :=
 Zck I.ok.kind hg (Calls.loadGlobal_global (by rw[I.ok.glob];exact I.mod.glob.keeps I.bk) hm h) hd
theorem Z6K {E:Value→Shared→Prop}{pins:List (Addr×Obj)}{s:Shared}{σ:St}{H:Hp}{x:Str}{u:Value}{pos:Pos}{Q:Value→Shared→Prop}(I:Inv X pins σ H s)(hg:Gl X x)(hm:X.mg x=none)(hv:bootBuiltins x=some u)(h:Q u s)
  (hn:x≠"__name__":=by decide) (hd:(x == ("__debug__":Str))=false:=by decide):wpAny (model X.prog X.w) X.A (eval (.Name x pos) X.env) Q E s:=by
 obtain⟨mb,h1,h2⟩:=I.mod.blt
 exact Zck I.ok.kind hg (Calls.loadGlobal_builtin (by rw[I.ok.glob];exact I.mod.glob.keeps I.bk) hm (by rw[I.ok.blt];exact h1.keeps I.bk) ((h2 x hn).trans hv) h) hd
theorem ZnA {x:Str} {v:V} {u:Value} {pos:Pos} (hg:Gl X x) (hm:X.mg x=none) (hv:bootBuiltins x=some u) (r:RelV v u) (hn:x≠"__name__":=by decide) (hd:(x == ("__debug__":Str))=false:=by decide):PE X (.Name x pos) (tC v) :=
 fun _ _ _ H _ I h=>Z6K I hg hm hv ⟨v,H,I,r,h⟩ hn hd
variable {a b:Expr}{ta tb:TE}{pos:Pos}
noncomputable def tB (t:TE):TT:=fun σ H Q=>t σ H fun x H1=>∃ c,x=.bl c∧Q c H1
theorem Zps {e:Expr}{t:TE}(h:PE X e t)(he:∀ whole,isTrue e X.env whole=(do let v ← whole;standAt e.pos;holding [v] (truthy v)):=by intro _;rfl):PT X e (tB t):=by
 intro pins s σ H Q I hw
 refine isTrue_plain (thn (h pins s σ H _ I hw) fun v s1 z1_=>?_) (he _)
 obtain ⟨x,H1,I1,r1,q1⟩:=z1_
 obtain⟨d,rfl,q⟩:=q1
 cases r1
 exact Z56 ⟨H1,I1,q⟩
variable {tA tB':TT}{rest:List Expr}
noncomputable def ZsK (t u:TT):TT:=fun σ H Q=>t σ H fun c H1=>if c=true then u σ H1 Q else Q false H1
noncomputable def tOr (t u:TT):TT:=fun σ H Q=>t σ H fun c H1=>if c=true then Q true H1 else u σ H1 Q
noncomputable def ZsE (t:TT):TT:=fun σ H Q=>t σ H fun c H1=>Q (!c) H1
theorem Znr (ha:PT X a tA):PW X (.BoolOp .And [a] pos) tA:=by
 intro wh pins s σ H Q I h
 refine isTrue_and (thn (ha pins s σ H Q I h) fun c s1 e=>?_)
 cases c with
 |true=>exact isTrue_and_nil e
 |false=>exact e
theorem Zpq (ha:PT X a tA):PW X (.BoolOp .Or [a] pos) tA:=by
 intro wh pins s σ H Q I h
 refine isTrue_or (thn (ha pins s σ H Q I h) fun c s1 e=>?_)
 cases c with
 |false=>exact isTrue_or_nil e
 |true=>exact e
theorem Zpr (ha:PT X a tA)(hb:PW X (.BoolOp .And (b::rest) pos) tB'):PW X (.BoolOp .And (a::b::rest) pos) (ZsK tA tB'):=by
 intro wh pins s σ H Q I h
 refine isTrue_and (thn (ha pins s σ H _ I h) fun c s1 z1_=>?_)
 obtain ⟨H1,I1,q1⟩:=z1_
 cases c with
 |true=>exact hb wh pins s1 σ H1 Q I1 q1
 |false=>exact⟨H1,I1,q1⟩
theorem Zry (ha:PT X a tA)(hb:PW X (.BoolOp .Or (b::rest) pos) tB'):PW X (.BoolOp .Or (a::b::rest) pos) (tOr tA tB'):=by
 intro wh pins s σ H Q I h
 refine isTrue_or (thn (ha pins s σ H _ I h) fun c s1 z1_=>?_)
 obtain ⟨H1,I1,q1⟩:=z1_
 cases c with
 |true=>exact⟨H1,I1,q1⟩
 |false=>exact hb wh pins s1 σ H1 Q I1 q1
theorem Zpt (ha:PT X a tA):PT X (.UnaryOp .Not a pos) (ZsE tA):=by
 intro pins s σ H Q I h
 exact isTrue_not (ha pins s σ H (fun c H1=>Q (!c) H1) I h)
noncomputable def Zrv (ta tb:TE):TE:=fun σ H Q=>ta σ H fun x H1=>∃ c,x=.bl c∧if c=true then tb σ H1 Q else Q (.bl false) H1
noncomputable def Zrq (ta:TE):TE:=fun σ H Q=>ta σ H fun x H1=>∃ c,x=.bl c∧Q (.bl (!c)) H1
theorem ZpC {op}{t:TE}(h:PE X a t):PE X (.BoolOp op [a] pos) t:=fun pins s σ H Q I hw=>BoolOp_one (h pins s σ H Q I hw)
theorem ZpI (ha:PE X a ta)(hb:PE X (.BoolOp .And (b::rest) pos) tb):PE X (.BoolOp .And (a::b::rest) pos) (Zrv ta tb):=by
 intro pins s σ H Q I h
 refine BoolOp_and (thn (ha pins s σ H _ I h) fun v s1 z1_=>?_)
 obtain ⟨x,H1,I1,r1,q1⟩:=z1_
 obtain⟨c,rfl,q1⟩:=q1
 cases r1
 refine Z56 ?_
 cases c with
 |true=>exact hb pins s1 σ H1 Q I1 q1
 |false=>exact⟨.bl false,H1,I1,rfl,q1⟩
theorem ZpD (ha:PE X a ta):PE X (.UnaryOp .Not a pos) (Zrq ta):=by
 intro pins s σ H Q I h
 refine UnaryOp_ (thn (ha pins s σ H _ I h) fun v s1 z1_=>?_)
 obtain ⟨x,H1,I1,r1,q1⟩:=z1_
 obtain⟨c,rfl,q1⟩:=q1
 cases r1
 exact not_of (Z56 ⟨.bl (!c),H1,I1,rfl,q1⟩)
noncomputable def tIf (t:TT)(ta tb:TE):TE:=fun σ H Q=>t σ H fun c H1=>if c=true then ta σ H1 Q else tb σ H1 Q
theorem ZkQ {c:Expr}(hc:PT X c tA)(ha:PE X a ta)(hb:PE X b tb):PE X (.IfExp c a b pos) (tIf tA ta tb):=by
 intro pins s σ H Q I h
 refine wpAny_IfExp (thn (hc pins s σ H _ I h) fun d s1 z1_=>?_)
 obtain ⟨H1,I1,q1⟩:=z1_
 cases d with
 |true=>exact ha pins s1 σ H1 Q I1 q1
 |false=>exact hb pins s1 σ H1 Q I1 q1
end
noncomputable def SqL (K:Fg_)(H:Hp)(a:Addr)(xs:List V):Prop :=
 Rd H a (.lst xs) ∨
  ∃ (o:Obj) (its:Array Value) (n:Nat),K.lookup a=some o∧o.cls=.type "list"∧o.dict=none∧o.data=.seq its n∧its.size≤sizeLine∧Z20 xs its.toList
noncomputable def SqT (K:Fg_)(H:Hp)(a:Addr)(xs:List V):Prop :=
 Rd H a (.tup xs) ∨
  ∃ (o:Obj) (its:Array Value) (n:Nat),K.lookup a=some o∧o.cls=.type "tuple"∧o.data=.seq its n∧its.size≤sizeLine∧Z20 xs its.toList
noncomputable def Zt0:Value→Option V
 |.none=>some .non
 |.bool b=>some (.bl b)
 |.int i _=>some (.int i)
 |.str x _=>some (.str x)
 |.bytes b _=>some (.byt b)
 |.float b _=>some (.flt b)
 |.ref a=>some (.ref a)
 |.type n=>some (.ty n)
 |_=>none
theorem RelV.abs {x:V}{u:Value}(r:RelV x u):Zt0 u=some x:=by
 cases x with
 |non=>cases r;rfl
 |bl _=>cases r;rfl
 |int _=>obtain⟨t,rfl⟩:=r;rfl
 |str _=>obtain⟨t,rfl⟩:=r;rfl
 |byt _=>obtain⟨t,rfl⟩:=r;rfl
 |flt _=>obtain⟨t,rfl⟩:=r;rfl
 |ref _=>cases r;rfl
 |ty _=>cases r;rfl
theorem RelV.inj {x y:V}{u:Value}(r:RelV x u)(q:RelV y u):x=y:=Z0e (r.abs.symm.trans q.abs)
theorem Z20.inj:∀ {xs ys:List V} {us:List Value},Z20 xs us→Z20 ys us→xs=ys
 |_,_,_,.nil,.nil=>rfl
 |_,_,_,.cons r t,.cons r' t'=>by rw[r.inj r',Z20.inj t t']
section
variable {X:Cx}{pins:List (Addr×Obj)}{σ:St}{H:Hp}{s:Shared}{a:Addr}{xs ys:List V}
theorem SqL.of {K:Fg_}(h:H a=some (.lst xs)):SqL K H a xs:=.inl (.inl h)
theorem SqT.of {K:Fg_}(h:H a=some (.tup xs)):SqT K H a xs:=.inl (.inl h)
theorem Inv.list (I:Inv X pins σ H s)(h:SqL X.K H a xs):∃ its:List Value,Z20 xs its∧PlainL s.heap a its.toArray∧xs.length≤sizeLine:=by
 rcases h with h|⟨o,its,n,hk,hc,hd,hs,hz,r⟩
 ·obtain⟨z,its,n,r,e⟩:=h.ok I.hok
  exact⟨its,r,⟨_,n,e,rfl,rfl,rfl⟩,z⟩
 ·refine⟨its.toList,r,⟨o,n,I.kIn a o hk,hc,hd,by simpa using hs⟩,?_⟩
  have e:=r.length
  simp only[ZN] at e
  lia
theorem Inv.tuple (I:Inv X pins σ H s)(h:SqT X.K H a xs):∃ its:List Value,Z20 xs its∧IsTup s.heap a its.toArray∧xs.length≤sizeLine:=by
 rcases h with h|⟨o,its,n,hk,hc,hs,hz,r⟩
 ·obtain⟨z,its,r,p⟩:=h.ok I.hok
  exact⟨its,r,p,z⟩
 ·refine⟨its.toList,r,⟨o,I.kIn a o hk,hc,n,by simpa using hs⟩,?_⟩
  have e:=r.length
  simp only[ZN] at e
  lia
theorem Inv.list_inj (I:Inv X pins σ H s)(h:SqL X.K H a xs)(h':SqL X.K H a ys):xs=ys:=by
 obtain⟨its,r,⟨o,n,e,_,_,d⟩,_⟩:=I.list h
 obtain⟨its',r',⟨o',n',e',_,_,d'⟩,_⟩:=I.list h'
 rw[e] at e';cases e'
 rw[d] at d'
 injection d' with d1 _
 have:its=its':=by simpa using congrArg ZqN d1
 subst this
 exact r.inj r'
theorem Inv.tuple_inj (I:Inv X pins σ H s)(h:SqT X.K H a xs)(h':SqT X.K H a ys):xs=ys:=by
 obtain⟨its,r,⟨o,e,_,n,d⟩,_⟩:=I.tuple h
 obtain⟨its',r',⟨o',e',_,n',d'⟩,_⟩:=I.tuple h'
 rw[e] at e';cases e'
 rw[d] at d'
 injection d' with d1 _
 have:its=its':=by simpa using congrArg ZqN d1
 subst this
 exact r.inj r'
end
noncomputable abbrev Cx.wish (X:Cx)(E:Value→Shared→Prop):Cx:={ X with xe:=E }
noncomputable abbrev Cx.nox (X:Cx):Cx:=X.wish fun _ _=>False
theorem Cx.Ok.wish {X:Cx}(ok:X.Ok)(E:Value→Shared→Prop):(X.wish E).Ok :=
 ⟨ok.mod,ok.kind,ok.glob,ok.blt,ok.above,ok.inj,ok.has,ok.cab,ok.hd,ok.frames,ok.stk,ok.exf,ok.bs,ok.bsz,ok.noex,ok.exfs,ok.funs,ok.frf⟩
theorem Cx.Ok.unwish {X:Cx}{E:Value→Shared→Prop}(ok:(X.wish E).Ok):X.Ok :=
 ⟨ok.mod,ok.kind,ok.glob,ok.blt,ok.above,ok.inj,ok.has,ok.cab,ok.hd,ok.frames,ok.stk,ok.exf,ok.bs,ok.bsz,ok.noex,ok.exfs,ok.funs,ok.frf⟩
section
variable {X:Cx}{pins:List (Addr×Obj)}{σ:St}{H:Hp}{s:Shared}{E:Value→Shared→Prop}
theorem Inv.wish (I:Inv X pins σ H s)(E:Value→Shared→Prop):Inv (X.wish E) pins σ H s:=⟨I.ok.wish E,I.os,I.bare,I.base,I.loc,I.cell,I.free,I.freeC,I.pin,I.hok,I.len⟩
theorem Inv.unwish (I:Inv (X.wish E) pins σ H s):Inv X pins σ H s:=⟨I.ok.unwish,I.os,I.bare,I.base,I.loc,I.cell,I.free,I.freeC,I.pin,I.hok,I.len⟩
theorem SP.unwish {D:Zm6}{f:Flow}{s':Shared}(h:SP (X.wish E) pins D f s'):SP X pins D f s':=by
 cases f with
 |next=>obtain⟨σ',H',I,q⟩:=h;exact⟨σ',H',I.unwish,q⟩
 |brk=>obtain⟨σ',H',I,q⟩:=h;exact⟨σ',H',I.unwish,q⟩
 |cont=>obtain⟨σ',H',I,q⟩:=h;exact⟨σ',H',I.unwish,q⟩
 |ret u=>obtain⟨v,σ',H',I,r,q⟩:=h;exact⟨v,σ',H',I.unwish,r,q⟩
theorem PSs.nox {st:List Stmt}{t:TS}(h:PSs X.nox st t):PSs X st t:=fun pins s σ H D I hw =>
 Z1k (h pins s σ H D (I.wish _) hw) (fun _ _ q=>q.unwish) fun _ _ z=>Z40 z
end
section
variable {X:Cx}{st:Stmt}{rest:List Stmt}{t u:TS}{e:Expr}{te:TE}{pos:Pos}
noncomputable def Zrr:TS:=fun D σ H=>D.nx σ H
noncomputable def ZsC (t u:TS):TS:=fun D σ H=>t { D with nx:=u D } σ H
theorem Znt:PSs X [] Zrr:=fun _ _ σ H _ I h=>Z8K ⟨σ,H,I,h⟩
theorem Zg0 (h1:PS X st t)(h2:PSs X rest u):PSs X (st::rest) (ZsC t u):=by
 intro pins s σ H D I h
 refine Zrj (thn (h1 pins s σ H { D with nx:=u D } I h) fun f s1 q=>?_)
 cases f with
 |next =>
  obtain⟨σ',H',I',q⟩:=q
  exact h2 pins s1 σ' H' D I' q
 |ret v=>exact q
 |brk=>exact q
 |cont=>exact q
theorem Zik (h1:PS X st t):PSs X [st] t:=by
 intro pins s σ H D I h
 refine Zrj (thn (h1 pins s σ H D I h) fun f s1 q=>?_)
 cases f with
 |next=>exact Z8K q
 |ret v=>exact q
 |brk=>exact q
 |cont=>exact q
theorem Inv.quiet {pins:List (Addr×Obj)}{σ:St}{H:Hp}{s:Shared}(I:Inv X pins σ H s):interactive X.env=false:=by simp[interactive,I.ok.kind]
noncomputable def Zrs (te:TE):TS:=fun D σ H=>te σ H fun _ H1=>D.nx σ H1
theorem ZeI (he:PE X e te)(hs:swapsWith e none pos.line X.env=pure false:=by rfl):PS X (.Expr e pos) (Zrs te):=by
 intro pins s σ H D I h
 exact wpAny_Expr_any (thn (he pins s σ H _ I h) fun v s1 ⟨x,H1,I1,r1,q1⟩=>⟨σ,H1,I1,q1⟩) I.quiet hs
noncomputable def ZsD (te:TE):TS:=fun D σ H=>te σ H D.rt
theorem Zmq (he:PE X e te):PS X (.Return (some e) pos) (ZsD te):=by
 intro pins s σ H D I h
 exact wpAny_Return_some (thn (he pins s σ H _ I h) fun v s1 ⟨x,H1,I1,r1,q1⟩=>⟨x,σ,H1,I1,r1,q1⟩)
noncomputable def ZsH (c:TT)(t u:TS):TS:=fun D σ H=>c σ H fun b H1=>if b=true then t D σ H1 else u D σ H1
theorem Zrz {c:Expr}{a b:List Stmt}{tc:TT}(hc:PT X c tc)(ha:PSs X a t)(hb:PSs X b u):PS X (.If c a b pos) (ZsH tc t u):=by
 intro pins s σ H D I h
 refine wpAny_If (thn (hc pins s σ H _ I h) fun d s1 z1_=>?_)
 obtain ⟨H1,I1,q1⟩:=z1_
 cases d with
 |true=>exact ha pins s1 σ H1 D I1 q1
 |false=>exact hb pins s1 σ H1 D I1 q1
end
noncomputable abbrev TG:=V→St→Hp→(St→Hp→Prop)→Prop
noncomputable abbrev TGs:=List V→St→Hp→(St→Hp→Prop)→Prop
noncomputable def PG (X:Cx)(target:Expr)(t:TG):Prop :=
 ∀ (pins:List (Addr×Obj)) (s:Shared) (σ:St) (H:Hp) (v:V) (u:Value) (Q:St→Hp→Prop),Inv X pins σ H s→RelV v u→t v σ H Q →
  wpAny (model X.prog X.w) X.A (assign target X.env u) (fun _ s'=>∃ σ' H',Inv X pins σ' H' s'∧Q σ' H') X.xe s
noncomputable def PGs (X:Cx)(ts:List Expr)(t:TGs):Prop :=
 ∀ (pins:List (Addr×Obj)) (s:Shared) (σ:St) (H:Hp) (vs:List V) (us:List Value) (Q:St→Hp→Prop),Inv X pins σ H s→Z20 vs us→t vs σ H Q →
  wpAny (model X.prog X.w) X.A (assignInOrder ((assignEach ts X.env).map (·.2)) us) (fun _ s'=>∃ σ' H',Inv X pins σ' H' s'∧Q σ' H') X.xe s
section
variable {X:Cx}{pos:Pos}
noncomputable def Za6 (i:Nat):TG:=fun v σ H Q=>Q (σ.set i (some v)) H
theorem Z65 {i:Nat}{x:Str}(hN:X.N.Nodup)(hi:X.N[i]?=some x)(hx:Loc X.env.scope x)(hf:X.fn x=true∨X.env.scope.names.lookup x=some .local:=by first|exact .inl rfl|exact .inr rfl|assumption):PG X (.Name x pos) (Za6 i):=by
 intro pins s σ H v u Q I r h
 exact ZqT (ZfJ I hN hi hx r (fun s' I'=>⟨_,H,I',h⟩) hf)
noncomputable def ZrW:TGs:=fun vs σ H Q=>vs=[]∧Q σ H
noncomputable def Zjp (t:TG)(u:TGs):TGs:=fun vs σ H Q=>∃ v r,vs=v::r∧t v σ H fun σ' H'=>u r σ' H' Q
theorem ZeJ:PGs X [] ZrW:=by
 intro pins s σ H vs us Q I r h
 obtain⟨e,h⟩:=h
 subst e
 cases r
 exact assignInOrder_nil ⟨σ,H,I,h⟩
theorem Z74 {e:Expr}{es:List Expr}{t:TG}{u:TGs}(h1:PG X e t)(h2:PGs X es u)
  (hs:(assignEach (e::es) X.env).map (·.2)=assign e X.env::(assignEach es X.env).map (·.2):=by rfl):PGs X (e::es) (Zjp t u):=by
 intro pins s σ H vs us Q I r h
 obtain⟨v,vr,e1,h⟩:=h
 subst e1
 cases r with
 |cons r rr =>
  rw[hs]
  refine assignInOrder_cons (thn (h1 pins s σ H _ _ _ I r h) fun _ s1 z1_=>?_)
  obtain ⟨σ1,H1,I1,q1⟩:=z1_
  exact h2 pins s1 σ1 H1 _ _ Q I1 rr q1
noncomputable def ZrV (K:Fg_)(n:Nat)(t:TGs):TG:=fun v σ H Q=>∃ a xs,v=.ref a∧SqT K H a xs∧xs.length=n∧t xs σ H Q
theorem Zit {es:List Expr}{k:Nat}{t:TGs}{n:Nat}(hc:X.calm=true)(h:PGs X es t)
  (hn:(assignEach es X.env).length=n:=by rfl) (hst:(assignEach es X.env).findIdx? (·.1)=none:=by rfl):PG X (.Tuple es k pos) (ZrV X.K n t):=by
 intro pins s σ H v u Q I r hw
 obtain⟨a,xs,e1,hq,hl,hw⟩:=hw
 subst e1
 cases r
 obtain⟨its,rv,ht,hz⟩:=I.tuple hq
 refine assign_Tuple_tuple (I.ok.hd hc) ht (by simp[hn,← hl,rv.length]) hst fun h' hx=>?_
 have I1:Inv X pins σ H { s with heap:=h' }:=I.kept (t':=s.toks) fun b o e=>hx b o (ZW (Zw e)) e
 exact h pins _ σ H xs _ Q I1 (by simpa using rv) hw
noncomputable def Zp9 (te:TE)(g:TG):TS:=fun D σ H=>te σ H fun x H1=>g x σ H1 D.nx
theorem Zpv {tg e:Expr}{te:TE}{g:TG}(he:PE X e te)(hg:PG X tg g)(hs:swapsWithSole [tg] e pos.line X.env=pure false:=by rfl)(hw:swappedStores [tg] e X.env=pure none:=by rfl)
  (h1:(assignEach [tg] X.env).map (·.2)=[assign tg X.env]:=by rfl):PS X (.Assign [tg] e pos) (Zp9 te g):=by
 intro pins s σ H D I h
 refine wpAny_Assign_stores (thn (he pins s σ H _ I h) fun v s1 z1_=>?_) hs hw
 obtain ⟨x,H1,I1,r1,q1⟩:=z1_
 rw[h1]
 exact thn (hg pins s1 σ H1 x v _ I1 r1 q1) fun _ s2 q=>q
theorem Zmp {i:Nat}{x:Str}{e:Expr}{te:TE}{pos':Pos}(hN:X.N.Nodup)(hi:X.N[i]?=some x)(hx:Loc X.env.scope x)(he:PE X e te)(hs:swapsWith e (some (.Name x pos')) pos.line X.env=pure false:=by rfl)(hf:X.fn x=true∨X.env.scope.names.lookup x=some .local:=by first|exact .inl rfl|exact .inr rfl|assumption) :
  PS X (.Assign [.Name x pos'] e pos) (Zp9 te (Za6 i)):=by
 intro pins s σ H D I h
 refine wpAny_Assign_Name (thn (he pins s σ H _ I h) fun v s1 z1_=>?_) hs
 obtain ⟨y,H1,I1,r1,q1⟩:=z1_
 exact ZfJ I1 hN hi hx r1 (fun s2 I2=>⟨_,H1,I2,q1⟩) hf
noncomputable def Zp7 (c:TT)(tb:TS):TS:=fun D σ H=>∃ W:Nat→St→Hp→Prop,(∃ m,W m σ H)∧∀ m σ H,W m σ H →
 c σ H fun b H1=>if b=true then ∃ N:St→Hp→Prop,(∀ σ' H',N σ' H'→∃ m',m'<m∧W m' σ' H')∧tb { D with nx:=N,ct:=N,bk:=D.nx } σ H1 else D.nx σ H1
theorem ZkH {c:Expr}{body:List Stmt}{tc:TT}{tb:TS}(hp:Z1l (model X.prog X.w) X.A X.env X.xe)(hc:PT X c tc)(hb:PSs X body tb):PS X (.While c body [] pos) (Zp7 tc tb):=by
 intro pins s σ H D I h
 obtain⟨W,⟨m0,w0⟩,turn⟩:=h
 refine wpAny_While (codeAny_whileLoop (fun n s'=>∃ σ' H',Inv X pins σ' H' s'∧W n σ' H') ?_ m0 ⟨σ,H,I,w0⟩)
 rintro n s1 ⟨σ1,H1,I1,w1⟩
 refine Z3I hp (thn (hc pins s1 σ1 H1 _ I1 (turn n σ1 H1 w1)) fun b s2 z1_=>?_)
 obtain ⟨H2,I2,q2⟩:=z1_
 cases b with
 |true =>
  obtain⟨N,hN,q2⟩:=q2
  rw[if_pos rfl]
  refine Z3I hp (thn (hb pins s2 σ1 H2 _ I2 q2) fun f s3 q3=>?_)
  cases f with
  |next =>
   obtain⟨σ3,H3,I3,n3⟩:=q3
   obtain⟨m',hm,w3⟩:=hN σ3 H3 n3
   exact⟨m',hm,σ3,H3,I3,w3⟩
  |cont =>
   obtain⟨σ3,H3,I3,n3⟩:=q3
   obtain⟨m',hm,w3⟩:=hN σ3 H3 n3
   exact⟨m',hm,σ3,H3,I3,w3⟩
  |brk=>exact q3
  |ret v=>exact q3
 |false =>
  rw[if_neg Z0H]
  exact Z8K ⟨σ1,H2,I2,q2⟩
end
structure It where
 go:Nat→Hp→Prop
 yld:Nat→Hp→V→Hp→Prop
 stop:Nat→Hp→Prop
noncomputable def Zfy (X:Cx)(pins:List (Addr×Obj))(H:Hp)(b:Addr):Prop :=
 H b=none∧b≠X.env.locals∧b∉X.fs∧(b∈X.ex∨X.s₀.heap.objs.size≤b)∧(∀ x c,X.env.cells.lookup x=some c→c≠b)∧∀ p∈X.pn++pins,p.1≠b
theorem Inv.fpOk {X:Cx}{pins:List (Addr×Obj)}{σ:St}{H H':Hp}{s:Shared}{b:Addr}(I:Inv X pins σ H s)(hb:s.heap.objs.size≤b)(hn:H' b=none):Zfy X pins H' b:=by
 refine⟨hn,Z2V (ZX I.lt hb),I.nofs hb,.inr (ZR I.sz hb),fun x c e z=>?_,fun p hp z=>?_⟩
 ·obtain⟨v,q⟩:=I.cell x c e
  exact absurd (ZX q.lt (by rw[z];exact hb)) (Z1Q _)
 ·exact absurd (ZX (Zw (I.pin p hp).1) (by rw[z];exact hb)) (Z1Q _)
structure Zk3 (P:Program)(w:World)(K:Fg_)(tg:Expr)(J:It)(fp:List Addr)(it:Addr)(tn:Nat→Heap→Prop):Prop where
 mem:it∈fp
 obj:∀ i h,tn i h→∀ b∈fp,∃ o,h.get? b=some o∧∀ v,o.data≠.cell v
 keep:∀ i h h',tn i h→(∀ b∈fp,∀ o,h.get? b=some o→h'.get? b=some o)→tn i h'
 item:∀ (X:Cx),X.prog=P→X.w=w→X.K=K→X.calm=true→∀ (i:Nat) (pins:List (Addr×Obj)) (s:Shared) (σ:St) (H:Hp) (E:Value→Shared→Prop),Inv X pins σ H s→(∀ b∈fp,Zfy X pins H b)→tn i s.heap→J.go i H →
  wpAny (model P w) X.A (pyNext (.ref it)) (fun r s1=>∃ u,r=some u ∧
   wpAny (model P w) X.A (letOwnedTupleGo tg (.ref it) u) (fun _ s2=>∃ x H',Inv X pins σ H' s2∧RelV x u∧J.yld i H x H'∧tn (i+1) s2.heap∧∀ b∈fp,H' b=none) E s1) E s
 done:∀ (X:Cx),X.prog=P→X.w=w→X.K=K→X.calm=true→∀ (i:Nat) (pins:List (Addr×Obj)) (s:Shared) (σ:St) (H:Hp) (E:Value→Shared→Prop),Inv X pins σ H s→(∀ b∈fp,Zfy X pins H b)→tn i s.heap→J.stop i H →
  wpAny (model P w) X.A (pyNext (.ref it)) (fun r s1=>r=none∧Inv X pins σ H s1) E s
 self:∀ (A:Around) (i:Nat) (s:Shared) (Q:Value→Shared→Prop) (E:Value→Shared→Prop),tn i s.heap→Q (.ref it) s→wpAny (model P w) A (pyIter (.ref it)) Q E s
noncomputable abbrev TI:=St→Hp→(It→Hp→Prop)→Prop
noncomputable def PIE (X:Cx)(pins:List (Addr×Obj))(σ:St)(tg:Expr)(R:It→Hp→Prop)(itv:Value)(s2:Shared):Prop :=
 ∃ (it:Addr) (fp:List Addr) (tn:Nat→Heap→Prop) (J:It) (H':Hp),itv=.ref it∧Inv X pins σ H' s2∧Zk3 X.prog X.w X.K tg J fp it tn∧tn 0 s2.heap∧(∀ b∈fp,Zfy X pins H' b)∧R J H'
noncomputable def PI (X:Cx)(tg iter:Expr)(wi:TI):Prop :=
 ∀ (pins:List (Addr×Obj)) (s:Shared) (σ:St) (H:Hp) (R:It→Hp→Prop),Inv X pins σ H s→wi σ H R →
  wpAny (model X.prog X.w) X.A (eval iter X.env) (fun v s1=>wpAny (model X.prog X.w) X.A (pyIter v) (PIE X pins σ tg R) X.xe s1) X.xe s
theorem ZoA {M:Model}{A:Around}{E:Value→Shared→Prop}{s:Shared}{tg:Expr}{it:Addr}{u:Value}{o:Obj}{n:String}{vs:Array Value}{Q:Unit→Shared→Prop}(ho:s.heap.get? it=some o)(hc:o.cls=.type n)(hd:o.data=.fields vs)
  (hn:["enumerate","zip","dict_itemiterator","dict_reverseitemiterator","odict_iterator","itertools.zip_longest","itertools.pairwise"].contains n=false) (hQ:Q () s):wpAny M A (letOwnedTupleGo tg (.ref it) u) Q E s:=by
 unfold letOwnedTupleGo
 cases tg <;> first
  |exact Za hQ
  |(cases u <;> first
    |exact Za hQ
    |(refine Z0 (ZqR ho ?_);rw[hc,hd];show wpAny M A (if (["enumerate","zip","dict_itemiterator","dict_reverseitemiterator","odict_iterator","itertools.zip_longest","itertools.pairwise"].contains n&&vs[0]? == some (rawInt _))=true then _ else _) Q E s;rw[if_neg (by intro h;rw[hn,Zp2] at h;cases h)];exact Za hQ))
noncomputable def Itl (K:Fg_)(a:Addr):It :=
 ⟨fun i H=>∃ xs x,SqL K H a xs∧xs[i]?=some x,fun i H x H'=>H'=H∧∀ xs,SqL K H a xs→xs[i]?=some x,fun i H=>∃ xs,SqL K H a xs∧xs.length≤i⟩
noncomputable def Itt (K:Fg_)(a:Addr):It :=
 ⟨fun i H=>∃ xs x,SqT K H a xs∧xs[i]?=some x,fun i H x H'=>H'=H∧∀ xs,SqT K H a xs→xs[i]?=some x,fun i H=>∃ xs,SqT K H a xs∧xs.length≤i⟩
noncomputable def Itr (lo:Int)(n:Nat):It:=⟨fun i _=>i<n,fun i H x H'=>H'=H∧x=.int (lo+i),fun i _=>n≤i⟩
theorem ZhX {P:Program}{w:World}{K:Fg_}{tg:Expr}(a it:Addr):Zk3 P w K tg (Itl K a) [it] it (fun i h=>h.IsListIter it a i) where
 mem:=by simp
 obj:=fun i h st b hb=>by
  have e:b=it:=by simpa using hb
  subst e
  obtain⟨o,e,c,d⟩:=st
  exact⟨o,e,fun v z=>by rw[d] at z;cases z⟩
 keep:=fun i h h' st k=>st.at fun o e=>k it (by simp) o e
 item:=by
  intro X hP hw hK hc i pins s σ H E I hf st hg
  subst hP hw hK
  obtain⟨xs,x,hq,hx⟩:=hg
  obtain⟨its,rv,p,hz⟩:=I.list hq
  obtain⟨u,hu,ru⟩:=rv.get hx
  obtain⟨f0,f1,f2,f3,f4,f5⟩:=hf it (by simp)
  refine wpAny_pyNext_list_item st p.isList (x:=u) (by simpa using hu) fun h' st' sb=>?_
  have I1:Inv X pins σ H { s with heap:=h' }:=I.turned (t':=s.toks) (fun b o hb e=>(sb.2 b hb).trans e) f0 f1 f3 f4 f5
  obtain⟨o,e,c,d⟩:=id st'
  exact⟨u,rfl,ZoA (s:={ s with heap:=h' }) e c d (by decide) ⟨x,H,I1,ru,⟨rfl,fun ys hy=>by rw[I.list_inj hy hq];exact hx⟩,st',fun b hb=>(hf b hb).1⟩⟩
 done:=by
  intro X hP hw hK hc i pins s σ H E I hf st hg
  subst hP hw hK
  obtain⟨xs,hq,hx⟩:=hg
  obtain⟨its,rv,p,hz⟩:=I.list hq
  obtain⟨f0,f1,f2,f3,f4,f5⟩:=hf it (by simp)
  have hl:=rv.length
  exact wpAny_pyNext_list_end (I.ok.hd hc) st p.isList (by simp;lia) fun h' eb=>⟨rfl,I.turned (t':=s.toks) (fun b o hb e=>eb b o hb e) f0 f1 f3 f4 f5⟩
 self:=fun _ _ _ _ _ st h=>wpAny_pyIter_listiter st h
theorem ZgK {P:Program}{w:World}{K:Fg_}{tg:Expr}(a it:Addr):Zk3 P w K tg (Itt K a) [it] it (fun i h=>h.IsTupleIter it a i) where
 mem:=by simp
 obj:=fun i h st b hb=>by
  have e:b=it:=by simpa using hb
  subst e
  obtain⟨o,e,c,d⟩:=st
  exact⟨o,e,fun v z=>by rw[d] at z;cases z⟩
 keep:=fun i h h' st k=>st.at fun o e=>k it (by simp) o e
 item:=by
  intro X hP hw hK hc i pins s σ H E I hf st hg
  subst hP hw hK
  obtain⟨xs,x,hq,hx⟩:=hg
  obtain⟨its,rv,p,hz⟩:=I.tuple hq
  obtain⟨u,hu,ru⟩:=rv.get hx
  obtain⟨f0,f1,f2,f3,f4,f5⟩:=hf it (by simp)
  refine wpAny_pyNext_tuple_item st (show s.heap.IsTuple a its.toArray from p) (x:=u) (by simpa using hu) fun h' st' sb=>?_
  have I1:Inv X pins σ H { s with heap:=h' }:=I.turned (t':=s.toks) (fun b o hb e=>(sb.2 b hb).trans e) f0 f1 f3 f4 f5
  obtain⟨o,e,c,d⟩:=id st'
  exact⟨u,rfl,ZoA (s:={ s with heap:=h' }) e c d (by decide) ⟨x,H,I1,ru,⟨rfl,fun ys hy=>by rw[I.tuple_inj hy hq];exact hx⟩,st',fun b hb=>(hf b hb).1⟩⟩
 done:=by
  intro X hP hw hK hc i pins s σ H E I hf st hg
  subst hP hw hK
  obtain⟨xs,hq,hx⟩:=hg
  obtain⟨its,rv,p,hz⟩:=I.tuple hq
  obtain⟨f0,f1,f2,f3,f4,f5⟩:=hf it (by simp)
  have hl:=rv.length
  exact wpAny_pyNext_tuple_end (I.ok.hd hc) st (show s.heap.IsTuple a its.toArray from p) (by simp;lia) fun h' eb=>⟨rfl,I.turned (t':=s.toks) (fun b o hb e=>eb b o hb e) f0 f1 f3 f4 f5⟩
 self:=fun _ _ _ _ _ st h=>wpAny_pyIter_tupleiter st h
theorem ZgL {P:Program}{w:World}{K:Fg_}{tg:Expr}(it:Addr)(lo:Int)(n:Nat):Zk3 P w K tg (Itr lo n) [it] it (fun i h=>IsRangeIter h it (lo+(i:Nat)*1) ((n:Int)-(i:Nat)) 1) where
 mem:=by simp
 obj:=fun i h st b hb=>by
  have e:b=it:=by simpa using hb
  subst e
  exact⟨_,st,fun v z=>by
   have z':Data.fields _=Data.cell v:=z
   cases z'⟩
 keep:=fun i h h' st k=>k it (by simp) _ st
 item:=by
  intro X hP hw hK hc i pins s σ H E I hf st hg
  subst hP hw hK
  obtain⟨f0,f1,f2,f3,f4,f5⟩:=hf it (by simp)
  have W:=Walks.range (prog:=X.prog) (w:=X.w) (I.ok.hd hc) it lo 1 n
  refine W.item i s _ _ hg st fun v h' tk hv st' kk=>?_
  obtain⟨t,rfl⟩:=hv
  have I1:Inv X pins σ H { s with heap:=h',toks:=tk }:=I.turned (fun b o hb e=>kk b o (by simpa using hb) e) f0 f1 f3 f4 f5
  refine⟨_,rfl,ZoA (s:={ s with heap:=h',toks:=tk }) (n:="range_iterator") st' rfl rfl (by decide) ⟨.int (lo+i),H,I1,⟨t,?_⟩,⟨rfl,rfl⟩,st',fun b hb=>(hf b hb).1⟩⟩
  rw[Int.mul_one]
 done:=by
  intro X hP hw hK hc i pins s σ H E I hf st hg
  subst hP hw hK
  obtain⟨f0,f1,f2,f3,f4,f5⟩:=hf it (by simp)
  exact wpAny_pyNext_range_end (I.ok.hd hc) st (by have:n≤i:=hg;lia) fun h' eb=>⟨rfl,I.turned (t':=s.toks) (fun b o hb e=>eb b o hb e) f0 f1 f3 f4 f5⟩
 self:=fun _ _ _ _ _ st h=>wpAny_pyIter_rangeiter st h
section
variable {X:Cx}{tg:Expr}
noncomputable def ZrT (K:Fg_)(tl:TE):TI:=fun σ H R=>tl σ H fun x H1=>∃ a,x=.ref a∧(∃ xs,SqL K H1 a xs)∧R (Itl K a) H1
noncomputable def ZsW (K:Fg_)(tl:TE):TI:=fun σ H R=>tl σ H fun x H1=>∃ a,x=.ref a∧(∃ xs,SqT K H1 a xs)∧R (Itt K a) H1
theorem Zis {l:Expr}{tl:TE}(hl:PE X l tl):PI X tg l (ZrT X.K tl):=by
 intro pins s σ H R I h
 refine thn (hl pins s σ H _ I h) fun v s1 z1_=>?_
 obtain ⟨x,H1,I1,r1,q1⟩:=z1_
 obtain⟨a,e,⟨xs,hq⟩,q⟩:=q1
 subst e
 cases r1
 obtain⟨its,rv,p,hz⟩:=I1.list hq
 refine Zco p.isList ?_
 refine⟨s1.heap.objs.size,[s1.heap.objs.size],_,_,H1,rfl,I1.kept (t':=s1.toks) fun b o e=>Z1 _ e,ZhX a _,⟨_,Zm _ rfl,rfl,rfl⟩,fun b hb=>?_,q⟩
 have e:b=s1.heap.objs.size:=by simpa using hb
 subst e
 exact I1.fpOk (Zg _) (I1.hok.fresh (Zg _))
theorem Zmr {l:Expr}{tl:TE}(hl:PE X l tl):PI X tg l (ZsW X.K tl):=by
 intro pins s σ H R I h
 refine thn (hl pins s σ H _ I h) fun v s1 z1_=>?_
 obtain ⟨x,H1,I1,r1,q1⟩:=z1_
 obtain⟨a,e,⟨xs,hq⟩,q⟩:=q1
 subst e
 cases r1
 obtain⟨its,rv,p,hz⟩:=I1.tuple hq
 refine Z3x (show s1.heap.IsTuple a its.toArray from p) ?_
 refine⟨s1.heap.objs.size,[s1.heap.objs.size],_,_,H1,rfl,I1.kept (t':=s1.toks) fun b o e=>Z1 _ e,ZgK a _,⟨_,Zm _ rfl,rfl,rfl⟩,fun b hb=>?_,q⟩
 have e:b=s1.heap.objs.size:=by simpa using hb
 subst e
 exact I1.fpOk (Zg _) (I1.hok.fresh (Zg _))
theorem ZfT {pins:List (Addr×Obj)}{σ:St}{H:Hp}{s:Shared}{R:It→Hp→Prop}{E:Value→Shared→Prop}{lo hi:Int}{t u v:Tok}{tk:Nat}(I:Inv X pins σ H s)(h1:-(2 ^ 62)≤lo)(h2:lo<2 ^ 62)(h3:-(2 ^ 62)≤hi)(h4:hi<2 ^ 62)
  (q:R (Itr lo (hi-lo).toNat) H):wpAny (model X.prog X.w) X.A (pyIter (.ref s.heap.objs.size)) (PIE X pins σ tg R) E { s with heap:=s.heap.push { cls:=.type "range",data:=.fields #[.int lo t,.int hi u,.int 1 v] },toks:=tk }:=by
 refine wpAny_pyIter_range (IsRange.new ..) (small_one h1 h2 h3 h4) ?_
 have I1:Inv X pins σ H { s with heap:=s.heap.push { cls:=.type "range",data:=.fields #[.int lo t,.int hi u,.int 1 v] },toks:=tk }:=I.kept fun b o e=>Z1 _ e
 refine⟨(s.heap.push { cls:=.type "range",data:=.fields #[.int lo t,.int hi u,.int 1 v] }).objs.size,[(s.heap.push { cls:=.type "range",data:=.fields #[.int lo t,.int hi u,.int 1 v] }).objs.size],_,_,H,rfl,
  I1.kept (t':=tk) fun b o e=>Z1 _ e,ZgL _ lo (hi-lo).toNat,?_,fun b hb=>?_,q⟩
 ·have e1:lo+((0:Nat):Int)*1=lo:=by simp
  have e2:(((hi-lo).toNat:Nat):Int)-((0:Nat):Int)=Builtin.Range.rangeSize lo hi 1:=by rw[rangeSize_one];split <;> lia
  show IsRangeIter _ _ (lo+((0:Nat):Int)*1) ((((hi-lo).toNat:Nat):Int)-((0:Nat):Int)) 1
  rw[e1,e2]
  exact Zm _ rfl
 ·have e:b=(s.heap.push { cls:=.type "range",data:=.fields #[.int lo t,.int hi u,.int 1 v] }).objs.size:=by simpa using hb
  subst e
  exact I1.fpOk (Zg _) (I1.hok.fresh (Zg _))
noncomputable def ZrS (ta:TA):TI:=fun σ H R=>ta σ H fun vs H1=>∃ j:Int,vs=[.int j]∧-(2 ^ 62)≤j∧j<2 ^ 62∧R (Itr 0 j.toNat) H1
noncomputable def ZrR (ta:TA):TI:=fun σ H R=>ta σ H fun vs H1=>∃ i j:Int,vs=[.int i,.int j]∧(-(2 ^ 62)≤i∧i<2 ^ 62∧-(2 ^ 62)≤j∧j<2 ^ 62)∧R (Itr i (j-i).toNat) H1
theorem Zir {a:Expr} {ta:TA} {p pos:Pos} (hg:Gl X "range") (hm:X.mg "range"=none) (ha:PA X [a] ta) (hs:starEach [a] X.env=[(false,eval a X.env)]:=by rfl):PI X tg (.Call (.Name "range" p) [a] [] pos) (ZrS ta):=by
 intro pins s σ H R I h
 refine Call_ (Z6K I hg hm boot_range (Z0T (thn (ha pos pins s σ H _ I h) fun us s1 z1_=>?_) hs rfl))
 obtain ⟨vs,H1,I1,r1,q1⟩:=z1_
 obtain⟨j,e,q1,q2,q⟩:=q1
 subst e
 cases r1 with
 |cons r rr =>
  cases rr
  obtain⟨t,rfl⟩:=r
  exact call_range_1 (ZfT I1 (by simp) (by simp) q1 q2 (by simpa using q))
theorem Ziq {a b:Expr} {ta:TA} {p pos:Pos} (hg:Gl X "range") (hm:X.mg "range"=none) (ha:PA X [a,b] ta) (hs:starEach [a,b] X.env=[(false,eval a X.env),(false,eval b X.env)]:=by rfl) (hs2:starEach [b] X.env=[(false,eval b X.env)]:=by rfl) :
  PI X tg (.Call (.Name "range" p) [a,b] [] pos) (ZrR ta):=by
 intro pins s σ H R I h
 refine Call_ (Z6K I hg hm boot_range (Z0T (thn (ha pos pins s σ H _ I h) fun us s1 z1_=>?_) (by rw[hs,hs2]) (by rw[hs2];rfl)))
 obtain ⟨vs,H1,I1,r1,q1⟩:=z1_
 obtain⟨i,j,e,⟨q1,q2,q3,q4⟩,q⟩:=q1
 subst e
 cases r1 with
 |cons r rr =>
  cases rr with
  |cons r' rr =>
   cases rr
   obtain⟨t,rfl⟩:=r
   obtain⟨t',rfl⟩:=r'
   exact call_range_2 (ZfT I1 q1 q2 q3 q4 q)
noncomputable def ZsI (wi:TI)(g:TG)(tb:TS):TS:=fun D σ H=>wi σ H fun J H1=>∃ W:Nat→Nat→St→Hp→Prop,(∃ m,W 0 m σ H1)∧∀ i m σ H,W i m σ H →
 (J.stop i H∧D.nx σ H)∨(J.go i H∧∃ N:St→Hp→Prop,(∀ σ' H',N σ' H'→∃ m',m'<m∧W (i+1) m' σ' H')∧∀ x H',J.yld i H x H'→g x σ H' fun σ2 H2=>tb { D with nx:=N,ct:=N,bk:=D.nx } σ2 H2)
noncomputable def Zd4 (fp:List Addr)(h:Heap):List (Addr×Obj):=fp.filterMap fun b=>(h.get? b).map fun o=>(b,o)
theorem Z77 {fp:List Addr}{h:Heap}{b:Addr}{o:Obj}(hb:b∈fp)(e:h.get? b=some o):(b,o)∈Zd4 fp h:=Z5X.mpr ⟨b,hb,by rw[e];rfl⟩
theorem ZiU {fp:List Addr}{h:Heap}{p:Addr×Obj}(hp:p∈Zd4 fp h):p.1∈fp∧h.get? p.1=some p.2:=by
 obtain⟨b,hb,e⟩:=Z5X.mp hp
 cases q:h.get? b with
 |none=>rw[q] at e;cases e
 |some o =>
  rw[q] at e
  have e':(b,o)=p:=Z0e e
  subst e'
  exact⟨hb,q⟩
theorem Inv.pinned {pins:List (Addr×Obj)}{σ:St}{H:Hp}{s:Shared}{fp:List Addr}(I:Inv X pins σ H s)(hf:∀ b∈fp,Zfy X pins H b)(ho:∀ b∈fp,∃ o,s.heap.get? b=some o∧∀ v,o.data≠.cell v):Inv X (pins++Zd4 fp s.heap) σ H s :=
 I.pins_of fun p hp=>(ZQ.mp hp).elim (fun z=>I.pin p (ZH _ z)) fun z=>by
  obtain⟨hb,e⟩:=ZiU z
  obtain⟨f0,f1,f2,_⟩:=hf p.1 hb
  obtain⟨o,e',d⟩:=ho p.1 hb
  rw[e] at e';cases e'
  exact⟨e,f0,f1,f2,d⟩
theorem Inv.unpinned {pins pl:List (Addr×Obj)}{σ:St}{H:Hp}{s:Shared}(I:Inv X (pins++pl) σ H s):Inv X pins σ H s:=I.pins_of fun p hp=>I.pin p (ZH _ (Z08 _ hp))
theorem Zpu {iter:Expr}{body:List Stmt}{wi:TI}{g:TG}{tb:TS}{pos:Pos}(hp:Z1l (model X.prog X.w) X.A X.env X.xe)(hc:X.calm=true)(hi:PI X tg iter wi)(hg:PG X tg g)(hb:PSs X body tb)
  (hs:∀ x,foldedSetIterable iter X.env x=pure x:=by intro _;rfl):PS X (.For tg iter body [] pos) (ZsI wi g tb):=by
 intro pins s σ H D I h
 refine wpAny_For (thn (hi pins s σ H _ I h) fun v s1 h1=>thn h1 fun itv s2 h2=>?_) hs
 obtain⟨it,fp,tn,J,H2,e,I2,T,st2,f2,W,⟨m0,w0⟩,turn⟩:=h2
 subst e
 have stat:∀ {H':Hp},(∀ b∈fp,H' b=none)→∀ b∈fp,Zfy X pins H' b:=fun hn b hb=>⟨hn b hb,(f2 b hb).2⟩
 refine codeAny_forLoop_any (fun n s'=>∃ i σ' H',Inv X pins σ' H' s'∧tn i s'.heap∧(∀ b∈fp,H' b=none)∧W i n σ' H') ?_ m0 ⟨0,σ,H2,I2,st2,fun b hb=>(f2 b hb).1,w0⟩
 rintro n s3 ⟨i,σ3,H3,I3,st3,fr3,w3⟩
 rcases turn i n σ3 H3 w3 with ⟨stop,qn⟩|⟨go,N,hN,step⟩
 ·refine Z3I hp (thn (T.done X rfl rfl rfl hc i pins s3 σ3 H3 X.xe I3 (stat fr3) st3 stop) fun r s4 z1_=>?_)
  obtain ⟨hr,I4⟩:=z1_
  subst hr
  exact Z8K ⟨σ3,H3,I4,qn⟩
 ·refine Z3I hp (thn (T.item X rfl rfl rfl hc i pins s3 σ3 H3 X.xe I3 (stat fr3) st3 go) fun r s4 z1_=>?_)
  obtain ⟨u,hr,h4⟩:=z1_
  subst hr
  refine Z3I hp (thn h4 fun _ s5 z1_=>?_)
  obtain ⟨x,H5,I5,r5,y5,st5,fr5⟩:=z1_
  have I5':=I5.pinned (stat fr5) (T.obj _ _ st5)
  refine Z3I hp (thn (hg _ s5 σ3 H5 x u _ I5' r5 (step x H5 y5)) fun _ s6 z1_=>?_)
  obtain ⟨σ6,H6,I6,q6⟩:=z1_
  refine Z3I hp (thn (hb _ s6 σ6 H6 _ I6 q6) fun f s7 q7=>?_)
  have again:∀ {σ7:St} {H7:Hp},Inv X (pins++Zd4 fp s5.heap) σ7 H7 s7→N σ7 H7→∃ m,m<n∧∃ i σ' H',Inv X pins σ' H' s7∧tn i s7.heap∧(∀ b∈fp,H' b=none)∧W i m σ' H':=fun {σ7 H7} I7 n7=>by
   obtain⟨m',hm,w7⟩:=hN σ7 H7 n7
   refine⟨m',hm,i+1,σ7,H7,I7.unpinned,T.keep _ _ _ st5 fun b hb o e=>(I7.pin (b,o) (ZH _ (ZH _ (Z77 hb e)))).1,fun b hb=>?_,w7⟩
   obtain⟨o,e,d⟩:=T.obj _ _ st5 b hb
   exact (I7.pin (b,o) (ZH _ (ZH _ (Z77 hb e)))).2.1
  cases f with
  |next=>obtain⟨σ7,H7,I7,n7⟩:=q7;exact again I7 n7
  |cont=>obtain⟨σ7,H7,I7,n7⟩:=q7;exact again I7 n7
  |brk=>obtain⟨σ7,H7,I7,q7⟩:=q7;exact⟨σ7,H7,I7.unpinned,q7⟩
  |ret v=>obtain⟨x7,σ7,H7,I7,r7,q7⟩:=q7;exact⟨x7,σ7,H7,I7.unpinned,r7,q7⟩
end
noncomputable abbrev R2:=V→V→Hp→VK→Prop
noncomputable def OpR (X:Cx)(f:Value→Value→Sem Value)(r:R2):Prop :=
 ∀ (pins:List (Addr×Obj)) (s:Shared) (σ:St) (H:Hp) (x y:V) (v u:Value) (Q:VK),Inv X pins σ H s→RelV x v→RelV y u→r x y H Q →
  wpAny (model X.prog X.w) X.A (f v u) (EP X pins σ Q) X.xe s
noncomputable def UnR (X:Cx)(f:Value→Sem Value)(r:V→Hp→VK→Prop):Prop :=
 ∀ (pins:List (Addr×Obj)) (s:Shared) (σ:St) (H:Hp) (x:V) (v:Value) (Q:VK),Inv X pins σ H s→RelV x v→r x H Q →
  wpAny (model X.prog X.w) X.A (f v) (EP X pins σ Q) X.xe s
noncomputable def Z7j (X:Cx)(f:Value)(r:List V→Hp→VK→Prop):Prop :=
 ∀ (pins:List (Addr×Obj)) (s:Shared) (σ:St) (H:Hp) (xs:List V) (us:List Value) (Q:VK),Inv X pins σ H s→Z20 xs us→r xs H Q →
  wpAny (model X.prog X.w) X.A (call f us) (EP X pins σ Q) X.xe s
noncomputable def tOp (r:R2)(ta tb:TE):TE:=fun σ H Q=>ta σ H fun x H1=>tb σ H1 fun y H2=>r x y H2 Q
noncomputable def tUn (r:V→Hp→VK→Prop)(ta:TE):TE:=fun σ H Q=>ta σ H fun x H1=>r x H1 Q
noncomputable def rI (C:Int→Int→Prop)(g:Int→Int→V):R2:=fun x y H Q=>∃ i j,x=.int i∧y=.int j∧C i j∧Q (g i j) H
noncomputable def rI0 (g:Int→Int→V):R2:=fun x y H Q=>∃ i j,x=.int i∧y=.int j∧Q (g i j) H
noncomputable def rU (g:Int→V):V→Hp→VK→Prop:=fun x H Q=>∃ i,x=.int i∧Q (g i) H
section
variable {X:Cx}{a b c:Expr}{ta tb tc:TE}{pos:Pos}
theorem Zs0 (ha:PE X a ta)(hb:PE X b tb){pins:List (Addr×Obj)}{s:Shared}{σ:St}{H:Hp}{R:V→V→Hp→Prop}(I:Inv X pins σ H s)
  (h:ta σ H fun x H1=>tb σ H1 fun y H2=>R x y H2) {Q:Value→Shared→Prop} {f:Value→Value→Sem Value}
  (hf:∀ v u s2 x y H2,Inv X pins σ H2 s2→RelV x v→RelV y u→R x y H2→wpAny (model X.prog X.w) X.A (f v u) Q X.xe s2) :
  wpAny (model X.prog X.w) X.A (eval a X.env) (fun v s₁=>wpAny (model X.prog X.w) X.A (eval b X.env) (fun u s₂=>wpAny (model X.prog X.w) X.A (f v u) Q X.xe s₂) X.xe s₁) X.xe s:=by
 refine thn (ha pins s σ H _ I h) fun v s1 z1_=>?_
 obtain ⟨x,H1,I1,r1,q1⟩:=z1_
 refine thn (hb pins s1 σ H1 _ I1 q1) fun u s2 z1_=>?_
 obtain ⟨y,H2,I2,r2,q2⟩:=z1_
 exact hf v u s2 x y H2 I2 r1 r2 q2
theorem ZrB {op:Operator}{r:R2}(ho:OpR X (binaryOp op) r)(ha:PE X a ta)(hb:PE X b tb):PE X (.BinOp a op b pos) (tOp r ta tb):=by
 intro pins s σ H Q I h
 exact wpAny_BinOp (Zs0 ha hb I h fun v u s2 x y H2 I2 rx ry q=>ho pins s2 σ H2 x y v u Q I2 rx ry q)
theorem ZrA {op:UnaryOp}{r:V→Hp→VK→Prop}(ho:UnR X (unaryOp op) r)(ha:PE X a ta):PE X (.UnaryOp op a pos) (tUn r ta):=by
 intro pins s σ H Q I h
 exact UnaryOp_ (thn (ha pins s σ H _ I h) fun v s1 ⟨x,H1,I1,r1,q1⟩=>ho pins s1 σ H1 x v Q I1 r1 q1)
theorem opI {f:Value→Value→Sem Value}{C:Int→Int→Prop}{g:Int→Int→Int}
  (rule:∀ (i j:Int) (t u:Tok) (s:Shared) (Q:Value→Shared→Prop) (E:Value→Shared→Prop),C i j→Q (.int (g i j) s.toks) { s with toks:=s.toks+1 }→wpAny (model X.prog X.w) X.A (f (.int i t) (.int j u)) Q E s) :
  OpR X f (rI C fun i j=>.int (g i j)):=by
 intro pins s σ H x y v u Q I rx ry h
 obtain⟨i,j,rfl,rfl,hc,q⟩:=h
 obtain⟨t,rfl⟩:=rx
 obtain⟨t',rfl⟩:=ry
 exact rule i j t t' s _ _ hc ⟨.int (g i j),H,I.tok _,⟨_,rfl⟩,q⟩
theorem Zsm {f:Value→Value→Sem Value}{g:Int→Int→Int}
  (rule:∀ (i j:Int) (t u:Tok) (s:Shared) (Q:Value→Shared→Prop) (E:Value→Shared→Prop),Q (.int (g i j) s.toks) { s with toks:=s.toks+1 }→wpAny (model X.prog X.w) X.A (f (.int i t) (.int j u)) Q E s) :
  OpR X f (rI0 fun i j=>.int (g i j)):=by
 intro pins s σ H x y v u Q I rx ry h
 obtain⟨i,j,rfl,rfl,q⟩:=h
 obtain⟨t,rfl⟩:=rx
 obtain⟨t',rfl⟩:=ry
 exact rule i j t t' s _ _ ⟨.int (g i j),H,I.tok _,⟨_,rfl⟩,q⟩
theorem ZrM {f:Value→Value→Sem Value}{g:Int→Int→Bool}
  (rule:∀ (i j:Int) (t u:Tok) (s:Shared) (Q:Value→Shared→Prop) (E:Value→Shared→Prop),Q (.bool (g i j)) s→wpAny (model X.prog X.w) X.A (f (.int i t) (.int j u)) Q E s) :
  OpR X f (rI0 fun i j=>.bl (g i j)):=by
 intro pins s σ H x y v u Q I rx ry h
 obtain⟨i,j,rfl,rfl,q⟩:=h
 obtain⟨t,rfl⟩:=rx
 obtain⟨t',rfl⟩:=ry
 exact rule i j t t' s _ _ ⟨.bl (g i j),H,I,rfl,q⟩
noncomputable def Zt3 (i j:Int):Prop:=0<j∧j<1073741824
noncomputable def Zrg (i j:Int):Prop:=(-(2 ^ 64)<i∧i<2 ^ 64)∨(-(2 ^ 64)<j∧j<2 ^ 64)
theorem Zrg.ok {i j:Int}(h:Zrg i j):IntMulOk i j:=by
 rcases h with ⟨h1,h2⟩|⟨h1,h2⟩
 ·exact .of_left (Zt9 h1 h2)
 ·exact .of_right (Zt9 h1 h2)
theorem Zq7:OpR X (binaryOp .Add) (rI0 fun i j=>.int (i+j)):=Zsm fun _ _ _ _ _ _ _ q=>add_int q
theorem Zq3:OpR X (binaryOp .Sub) (rI0 fun i j=>.int (i-j)):=Zsm fun _ _ _ _ _ _ _ q=>sub_int q
theorem Zq4:OpR X (binaryOp .Mult) (rI Zrg fun i j=>.int (i*j)):=opI fun _ _ _ _ _ _ _ hc q=>mul_int q hc.ok
theorem Zo4:OpR X (binaryOp .FloorDiv) (rI Zt3 fun i j=>.int (i / j)):=opI fun i j _ _ _ _ _ hc q=>by
 have h1:(0:Int)<j:=hc.1
 have h2:j<1073741824:=hc.2
 exact floordiv_int (by lia) (by rw[Int.fdiv_eq_ediv_of_nonneg i (by lia)];exact q) (.inl (PyProof.noPylong_small (by omega)))
theorem Zq5:OpR X (binaryOp .Mod) (rI (fun _ j=>0<j) fun i j=>.int (i%j)):=opI fun i j _ _ _ _ _ hc q=>by
 have h1:(0:Int)<j:=hc
 exact mod_int' (by lia) (by rw[Int.fmod_eq_emod_of_nonneg i (by lia)];exact q)
theorem unI {f:Value→Sem Value}{g:Int→Int}
  (rule:∀ (i:Int) (t:Tok) (s:Shared) (Q:Value→Shared→Prop) (E:Value→Shared→Prop),Q (.int (g i) s.toks) { s with toks:=s.toks+1 }→wpAny (model X.prog X.w) X.A (f (.int i t)) Q E s) :
  UnR X f (rU fun i=>.int (g i)):=by
 intro pins s σ H x v Q I rx h
 obtain⟨i,rfl,q⟩:=h
 obtain⟨t,rfl⟩:=rx
 exact rule i t s _ _ ⟨.int (g i),H,I.tok _,⟨_,rfl⟩,q⟩
theorem Zp6:UnR X (unaryOp .USub) (rU fun i=>.int (-i)):=unI fun _ _ _ _ _ q=>neg_int q
theorem Zjs {pins:List (Addr×Obj)}{σ:St}{H:Hp}{s:Shared}{Q:VK}{k k':Bool}(I:Inv X pins σ H s)(q:Q (.bl k) H)(e:k=k'):EP X pins σ Q (.bool k') s:=by
 subst e
 exact⟨.bl k,H,I,rfl,q⟩
theorem ZrJ:OpR X (compareOp .Lt) (rI0 fun i j=>.bl (decide (i<j))):=ZrM fun _ _ _ _ _ _ _ q=>lt_int q
theorem ZrK:OpR X (compareOp .Gt) (rI0 fun i j=>.bl (decide (j<i))):=ZrM fun _ _ _ _ _ _ _ q=>gt_int q
theorem ZrL:OpR X (compareOp .GtE) (rI0 fun i j=>.bl (decide (j≤i))):=ZrM fun _ _ _ _ _ _ _ q=>ge_int q
theorem ZiK:OpR X (compareOp .Lt) (fun x y H Q=>∃ i j,x=.str i∧y=.str j∧Q (.bl (decide (i.cps.toList<j.cps.toList))) H):=by
 intro pins s σ H x y v u Q I rx ry h
 obtain⟨i,j,rfl,rfl,q⟩:=h
 obtain⟨t,rfl⟩:=rx
 obtain⟨t',rfl⟩:=ry
 exact lt_str (Zjs I q rfl)
theorem Zmz:OpR X (compareOp .Is) (fun x y H Q=>y=.non∧Q (.bl (decide (x=.non))) H):=by
 intro pins s σ H x y v u Q I rx ry h
 obtain⟨rfl,q⟩:=h
 cases ry
 refine is_none_gen (Zjs I q ?_)
 cases x <;> first
  |(cases rx;rfl)
  |(obtain⟨t,rfl⟩:=rx;rfl)
theorem ZiH:OpR X (compareOp .IsNot) (fun x y H Q=>y=.non∧Q (.bl (!decide (x=.non))) H):=by
 intro pins s σ H x y v u Q I rx ry h
 obtain⟨rfl,q⟩:=h
 cases ry
 refine isnot_none_gen (Zjs I q ?_)
 cases x <;> first
  |(cases rx;rfl)
  |(obtain⟨t,rfl⟩:=rx;rfl)
theorem OpR.or {f:Value→Value→Sem Value}{r r':R2}(h:OpR X f r)(h':OpR X f r'):OpR X f (fun x y H Q=>r x y H Q∨r' x y H Q):=by
 intro pins s σ H x y v u Q I rx ry q
 rcases q with q|q
 ·exact h pins s σ H x y v u Q I rx ry q
 ·exact h' pins s σ H x y v u Q I rx ry q
theorem Z6j (b:Expr){op:CmpOp}(h:op≠.In:=by decide)(h2:op≠.NotIn:=by decide):behindInMarks op b=false:=by
 have e1:(op == CmpOp.In)=false:=by cases op <;> first|rfl|exact absurd rfl h
 have e2:(op == CmpOp.NotIn)=false:=by cases op <;> first|rfl|exact absurd rfl h2
 cases b <;> simp[behindInMarks,e1,e2]
theorem Znz {op:CmpOp}{r:R2}(ho:OpR X (compareOp op) r)(ha:PE X a ta)(hb:PE X b tb)(hm:behindInMarks op b=false):PE X (.Compare a [op] [b] pos) (tOp r ta tb):=by
 intro pins s σ H Q I h
 exact wpAny_Compare1 (Zs0 ha hb I h fun v u s2 x y H2 I2 rx ry q=>ho pins s2 σ H2 x y v u Q I2 rx ry q) hm
noncomputable def Zro (t:TE):TT:=fun σ H Q=>t σ H fun x H'=>∃ k,x=.bl k∧Q k H'
theorem Zns {op:CmpOp}{r:R2}(ho:OpR X (compareOp op) r)(ha:PE X a ta)(hb:PE X b tb)(hm:behindInMarks op b=false):PT X (.Compare a [op] [b] pos) (Zro (tOp r ta tb)):=by
 intro pins s σ H Q I h
 refine wpAny_isTrue_Compare1 (thn (ha pins s σ H _ I h) fun v s1 ⟨x,H1,I1,r1,q1⟩=>thn (hb pins s1 σ H1 _ I1 q1) fun u s2 ⟨y,H2,I2,r2,q2⟩ =>
  thn (ho pins s2 σ H2 x y v u _ I2 r1 r2 q2) fun c s3 ⟨z,H3,I3,r3,k,e,q3⟩=>?_) hm
 subst e
 cases r3
 exact Z56 ⟨H3,I3,q3⟩
theorem Zdk:(sizeLine:Nat)<2 ^ 63:=by rw[sizeLine_eq];decide
theorem Zh3:OpR X (binaryOp .Add) (fun x y H Q=>∃ i j,x=.str i∧y=.str j∧i.length+j.length≤sizeLine∧Q (.str (i++j)) H):=by
 intro pins s σ H x y v u Q I rx ry h
 obtain⟨i,j,rfl,rfl,hz,q⟩:=h
 obtain⟨t,rfl⟩:=rx
 obtain⟨t',rfl⟩:=ry
 exact add_str (fun t' tk=>⟨.str (i++j),H,I.tok _,⟨_,rfl⟩,q⟩) hz
theorem vals1 {x:V}{us:List Value}(r:Z20 [x] us):∃ u,us=[u]∧RelV x u:=by
 cases r with
 |cons r1 r2=>cases r2;exact⟨_,rfl,r1⟩
theorem vals2 {x y:V}{us:List Value}(r:Z20 [x,y] us):∃ u w',us=[u,w']∧RelV x u∧RelV y w':=by
 cases r with
 |cons r1 r2 =>
  cases r2 with
  |cons r3 r4=>cases r4;exact⟨_,_,rfl,r1,r3⟩
end
structure Z4B (k:Nat)(A:Around):Prop where
 hd:A.handled=none
 dp:A.depth+3*k+5<recursionLimit
 un:A.units+16*k+200<cLine
theorem Z4B.mono {j k:Nat}{A:Around}(r:Z4B k A)(h:j≤k):Z4B j A:=⟨r.hd,by have:=r.dp;lia,by have:=r.un;lia⟩
theorem Z4B.deeper {k:Nat}{A:Around}(r:Z4B (k+1) A)(env:Env):Z4B k (A.deeper env) :=
 ⟨r.hd,by have:=r.dp;show A.depth+1+3*k+5<_;lia,by have:=r.un;show A.units+3+16*k+200<_;lia⟩
theorem Z4B.in1 {k:Nat}{A:Around}(r:Z4B (k+1) A):Z4B k A.in1 :=
 ⟨r.hd,by have:=r.dp;show A.depth+3*k+5<_;lia,by have:=r.un;show A.units+1+16*k+200<_;lia⟩
theorem Z4B.depth {k:Nat}{A:Around}(r:Z4B k A):A.depth<recursionLimit:=by have:=r.dp;lia
theorem Z4B.units0 {k:Nat}{A:Around}(r:Z4B k A):A.units<cLine:=by have:=r.un;lia
noncomputable def ZsF:TA:=fun _ H Q=>Q [] H
noncomputable def Zrt (ta:TE)(tr:TA):TA:=fun σ H Q=>ta σ H fun x H1=>tr σ H1 fun xs H2=>Q (x::xs) H2
section
variable {X:Cx}{e:Expr}{es:List Expr}{te:TE}{t:TA}{pos:Pos}
theorem Z7Z:PA X [] ZsF:=fun _ _ _ _ H Q I h=>Zkb ⟨[],H,I,.nil,h⟩
theorem Z4Z (ha:PE X e te)(hr:PA X es t)(hs:starEach (e::es) X.env=(false,eval e X.env)::starEach es X.env:=by rfl):PA X (e::es) (Zrt te t):=by
 intro pos pins s σ H Q I h
 rw[hs]
 show wpAny _ _ (spliced ((false,eval e X.env)::backTo pos (starEach es X.env))) _ _ s
 refine ZjW (thn (ha pins s σ H _ I h) fun u s1 z1_=>?_)
 obtain ⟨x,H1,I1,r1,q1⟩:=z1_
 exact thn (hr pos pins s1 σ H1 _ I1 q1) fun us s2 ⟨xs,H2,I2,r2,q2⟩=>⟨x::xs,H2,I2,.cons r1 r2,q2⟩
noncomputable def ZsB (t:TA):TE:=fun σ H Q=>t σ H fun xs H1=>xs.length≤sizeLine∧∀ p,H1 p=none→Q (.ref p) (upd H1 p (.tup xs))
noncomputable def ZsG (t:TA):TE:=fun σ H Q=>t σ H fun xs H1=>xs.length≤sizeLine∧∀ p,H1 p=none→Q (.ref p) (upd H1 p (.lst xs))
theorem ZpA {x1}(h:PA X es t):PE X (.Tuple es x1 pos) (ZsB t):=by
 intro pins s σ H Q I hq
 refine wpAny_Tuple_spliced (thn (h pos pins s σ H _ I hq) fun us s1 ⟨xs,H1,I1,r,z,q⟩=>⟨by rw[← r.length];exact z,?_⟩)
 have hf:H1 s1.heap.objs.size=none:=I1.hok.fresh (Zg _)
 refine⟨.ref s1.heap.objs.size,upd H1 s1.heap.objs.size (.tup xs),I1.laid (t':=s1.toks) (fun b u e=>Z1 _ e) (Zg _) ?_,rfl,q _ hf⟩
 exact⟨z,us,r,⟨_,Zm _ rfl,rfl,_,rfl⟩⟩
theorem ZpF (h:PA X es t):PE X (.List es pos) (ZsG t):=by
 intro pins s σ H Q I hq
 refine wpAny_List_spliced (thn (h pos pins s σ H _ I hq) fun us s1 ⟨xs,H1,I1,r,z,q⟩=>⟨by rw[← r.length];exact z,?_⟩)
 have hf:H1 s1.heap.objs.size=none:=I1.hok.fresh (Zg _)
 refine⟨.ref s1.heap.objs.size,upd H1 s1.heap.objs.size (.lst xs),I1.laid (t':=s1.toks) (fun b u e=>Z1 _ e) (Zg _) ?_,rfl,q _ hf⟩
 exact⟨z,us,0,r,Zm _ rfl⟩
end
noncomputable abbrev Sp:=List V→Hp→VK→XK→Prop
noncomputable abbrev CXT:=List Env→Hp→Shared→XK→Value→Shared→Prop
structure Zrd (P:Program)(w:World)(K:Fg_)(mg:Str→Option Value)(base:Heap)(A:Around)(outer:List Env)(s:Shared)(H:Hp):Prop where
 frames:A.frames=some outer
 mod:Mod K mg base
 bs:∀ b o,base.get? b=some o→s.heap.get? b=some o∧H b=none
 bsz:base.objs.size≤s.heap.objs.size
 funs:s.heap.FunFrames base outer
 frf:∀ b∈frs outer,H b=none
 hok:HOk P w H s.heap
 bare:AllBare s.gens
noncomputable def CE (outer:List Env)(P:Program)(w:World)(H:Hp)(s:Shared)(Q:VK)(u:Value)(s':Shared):Prop :=
 ∃ v H',s'.os=s.os∧AllBare s'.gens∧Un (frs outer) [] H H' s.heap s'.heap∧HOk P w H' s'.heap∧RelV v u∧Q v H'
noncomputable def CR (CX:CXT)(outer:List Env)(P:Program)(w:World)(H:Hp)(s:Shared)(Q:VK)(E:XK)(r:Result)(s':Shared):Prop :=
 match r with
 |.ok (.ret u)=>CE outer P w H s Q u s'
 |.ok _=>False
 |.error e=>CX outer H s E e s'
structure Z4C (P:Program)(w:World)(K:Fg_)(mg:Str→Option Value)(base:Heap)(CX:CXT)(k:Nat)(f:Addr)(fd:Z06)(ps:List Str)(sp:Sp):Prop where
 len:∀ vs H Q E,sp vs H Q E→vs.length=ps.length
 run:∀ (A:Around) (outer:List Env) (s:Shared) (H:Hp) (args:Args) (us:List Value) (vs:List V) (Q:VK) (E:XK),Z4B k A→Zrd P w K mg base A outer s H→BindsTo s fd args (ps.zip us)→Z20 vs us→sp vs H Q E →
  codeAny (model P w) A (.call (.ref f) args) (CR CX outer P w H s Q E) s
theorem Z4C.mono {P:Program}{w:World}{K:Fg_}{mg:Str→Option Value}{base:Heap}{CX:CXT}{j k:Nat}{f:Addr}{fd:Z06}{ps:List Str}{sp:Sp}(F:Z4C P w K mg base CX j f fd ps sp)(h:j≤k) :
  Z4C P w K mg base CX k f fd ps sp:=⟨F.len,fun A outer s H args us vs Q E hr=>F.run A outer s H args us vs Q E (hr.mono h)⟩
section
variable {X:Cx}{pins:List (Addr×Obj)}{σ:St}{H:Hp}{s s':Shared}
theorem Inv.env0 (I:Inv X pins σ H s):Zrd X.prog X.w X.K X.mg X.base X.A X.stack s H :=
 ⟨I.ok.frames,I.ok.mod,I.bs,ZR I.ok.bsz I.sz,I.stack,I.stkFree,I.hok,I.bare⟩
theorem Inv.after {Q:VK}{u:Value}(I:Inv X pins σ H s)(h:CE X.stack X.prog X.w H s Q u s'):EP X pins σ Q u s':=by
 obtain⟨v,H',os,bare,un,hok,r,q⟩:=h
 obtain⟨hh,g,d,t,os'⟩:=s'
 obtain rfl:os'=s.os:=os
 exact⟨v,H',I.call (h':=hh) (g':=g) (d':=d) (t':=t) (ch:=[]) un hok bare (fun b z=>absurd z (by simp)),r,q⟩
end
noncomputable def Zru (sp:Sp)(dvs:List V)(E:XK)(t:TA):TE:=fun σ H Q=>t σ H fun vs H1=>sp (vs++dvs) H1 Q E
noncomputable def Binds (K:Fg_)(fd:Z06)(ps:List Str)(ds:List Value):Prop :=
 ∀ (s:Shared) (us:List Value),K.In s.heap→(us++ds).length=ps.length→BindsTo s fd ⟨us,[]⟩ (ps.zip (us++ds))
theorem Binds.all {K:Fg_}{fd:Z06}{ps:List Str}(h:∀ us:List Value,us.length=ps.length→bindArgs fd ⟨us,[]⟩=pure (ps.zip us)):Binds K fd ps []:=fun s us _ hl=>by
 rw[Z1z] at hl ⊢
 exact .of_eq (h us hl)
noncomputable def ZjO (CX:CXT)(X:Cx)(E:XK):Prop:=∀ (pins:List (Addr×Obj)) (σ:St) (H:Hp) (s:Shared) (e:Value) (s':Shared),Inv X pins σ H s→CX X.stack H s E e s'→X.xe e s'
section
variable {X:Cx}{CX:CXT}{k:Nat}{f C:Addr}{fd:Z06}{ps:List Str}{sp:Sp}{dvs:List V}{ds:List Value}{E:XK}{x m:Str}{p pos apos:Pos}{e o:Expr}{es:List Expr}{ta:TE}{t:TA}
theorem Zmk {pins:List (Addr×Obj)}{σ:St}{H:Hp}{s:Shared}{Q:VK}{us:List Value}{vs:List V}(F:Z4C X.prog X.w X.K X.mg X.base CX k f fd ps sp)(hr:Z4B k X.A)(hb:Binds X.K fd ps ds)(hd:Z20 dvs ds)(hx:ZjO CX X E)
  (I:Inv X pins σ H s) (r:Z20 vs us) (h:sp (vs++dvs) H Q E):wpAny (model X.prog X.w) X.A (call (.ref f) us) (EP X pins σ Q) X.xe s:=by
 have r2:Z20 (vs++dvs) (us++ds):=r.append hd
 have hl:(us++ds).length=ps.length:=by rw[← r2.length];exact F.len _ _ _ _ h
 refine ZqS (Z95 (F.run X.A X.stack s H ⟨us,[]⟩ (us++ds) (vs++dvs) Q E hr I.env0 (hb s us I.kIn hl) r2 h) fun r s' hq=>?_)
 cases r with
 |error e=>exact hx pins σ H s e s' I hq
 |ok fl =>
  cases fl with
  |ret u=>exact I.after hq
  |next=>exact Z40 hq
  |brk=>exact Z40 hq
  |cont=>exact Z40 hq
theorem Ziv (F:Z4C X.prog X.w X.K X.mg X.base CX k f fd ps sp)(hr:Z4B k X.A)(hg:Gl X x)(hm:X.mg x=some (.ref f))(hk:ZF X.K (.ref f)=true)(hb:Binds X.K fd ps ds)(hd:Z20 dvs ds)(hx:ZjO CX X E)
  (ha:PA X (e::es) t) (hdb:(x == ("__debug__":Str))=false:=by decide) (he:starEach (e::es) X.env=(false,eval e X.env)::starEach es X.env:=by rfl) (hpl:(backTo pos (starEach es X.env)).any (·.1)=false:=by rfl) :
  PE X (.Call (.Name x p) (e::es) [] pos) (Zru sp dvs E t):=by
 intro pins s σ H Q I h
 refine Z2D (Zje I hg hm ?_ hdb)
 refine PySem.W.callWith_K (h₀:=X.base) I.ok.mod.kin hk (thn (ha pos pins s σ H _ I h) fun us s1 ⟨vs,H1,I1,r,q⟩=>⟨I1.kIn,?_⟩) he hpl
 exact Zmk F hr hb hd hx I1 r q
end
structure Z0O (N P:List Str)(sc:Scope):Prop where
 kind:sc.kind=.function
 co:sc.isCoroutine=false
 gen:sc.isGenerator=false
 nd:N.Nodup
 pre:N.take P.length=P
 par:∀ x∈P,sc.names.lookup x=some .local∨sc.names.lookup x=some .cell
 nofree:∀ y∈sc.names,y.2≠.free
theorem ZdV {kindOf:Str→Option Z2r}{x:Str}:∀ {binds:List (Str×Value)} {m:Str→Option Value},(∀ v,(x,v)∉binds)→bindL kindOf binds m x=m x
 |[],_,_=>rfl
 |(n,v)::r,m,h=>by
  unfold bindL
  rw[ZdV fun w hw=>h w (Z9 _ hw)]
  split
  ·have:x≠n:=by rintro rfl;exact h v Z4
   simp[this]
  ·rfl
theorem ZdX {kindOf:Str→Option Z2r}{x:Str}:∀ {binds:List (Str×Value)} {m:Str→Option Value},(∀ v,(x,v)∉binds)→bindC kindOf binds m x=m x
 |[],_,_=>rfl
 |(n,v)::r,m,h=>by
  unfold bindC
  rw[ZdX fun w hw=>h w (Z9 _ hw)]
  split
  ·rfl
  ·have:x≠n:=by rintro rfl;exact h v Z4
   simp[this]
theorem ZdW {kindOf:Str→Option Z2r}{x:Str}{v:Value}:∀ {P:List Str} {vs:List Value} {i:Nat} {m:Str→Option Value},P.Nodup→P[i]?=some x→vs[i]?=some v→kindOf x=some .local →
  bindL kindOf (P.zip vs) m x=some v
 |[],_,_,_,_,h,_,_=>by simp at h
 |_::_,[],_,_,_,_,h,_=>by simp at h
 |p::P,w::vs,0,m,nd,h1,h2,hk=>by
  simp at h1 h2;subst h1;subst h2
  show bindL kindOf ((p,w)::P.zip vs) m p=_
  unfold bindL
  rw[ZdV fun v hv=>(Z2N.mp nd).1 (Z5s hv).1,if_pos hk]
  simp
 |p::P,w::vs,i+1,m,nd,h1,h2,hk=>by
  show bindL kindOf ((p,w)::P.zip vs) m x=_
  unfold bindL
  exact ZdW (i:=i) (Z2N.mp nd).2 (by simpa using h1) (by simpa using h2) hk
theorem ZdY {kindOf:Str→Option Z2r}{x:Str}{v:Value}:∀ {P:List Str} {vs:List Value} {i:Nat} {m:Str→Option Value},P.Nodup→P[i]?=some x→vs[i]?=some v→kindOf x≠some .local →
  bindC kindOf (P.zip vs) m x=some v
 |[],_,_,_,_,h,_,_=>by simp at h
 |_::_,[],_,_,_,_,h,_=>by simp at h
 |p::P,w::vs,0,m,nd,h1,h2,hk=>by
  simp at h1 h2;subst h1;subst h2
  show bindC kindOf ((p,w)::P.zip vs) m p=_
  unfold bindC
  rw[ZdX fun v hv=>(Z2N.mp nd).1 (Z5s hv).1,if_neg hk]
  simp
 |p::P,w::vs,i+1,m,nd,h1,h2,hk=>by
  show bindC kindOf ((p,w)::P.zip vs) m x=_
  unfold bindC
  exact ZdY (i:=i) (Z2N.mp nd).2 (by simpa using h1) (by simpa using h2) hk
noncomputable def start (N:List Str)(vs:List V):St:=vs.map some++Zj (N.length-vs.length) none
noncomputable def ZlR (CX:CXT)(P:Program)(w:World)(K:Fg_)(mg:Str→Option Value)(base:Heap)(N:List Str)(qual:Str)(scope:Scope)(f:Addr)(cd:Value)(A:Around)(outer:List Env)(s:Shared)(H:Hp)(E:XK):Cx where
 prog:=P
 w:=w
 K:=K
 mg:=mg
 base:=base
 A:=A.deeper (envOfC qual scope s.heap.objs.size f cd)
 N:=N
 s₀:=s
 H₀:=H
 env:=envOfC qual scope s.heap.objs.size f cd
 outer:=outer
 stack:=envOfC qual scope s.heap.objs.size f cd::outer
 ex:=[]
 calm:=true
 fn:=fun _=>true
 pn:=[]
 xe:=fun e s'=>wpAny (model P w) (A.deeper (envOfC qual scope s.heap.objs.size f cd)) (leaving (envOfC qual scope s.heap.objs.size f cd) e) (fun _ s''=>CX outer H s E e s'') (fun e' s''=>CX outer H s E e' s'') s'
theorem Zgr {sc:Scope}{n:Nat}{x:Str}(h:sc.names.lookup x=some .cell):∃ c,(cellsFrom n sc.names []).lookup x=some c:=by
 have q:=Zec sc.names n [] (.inl h)
 exact Option.isSome_iff_exists.mp q
theorem Zjm {CX:CXT}{P:Program}{w:World}{K:Fg_}{mg:Str→Option Value}{base:Heap}{N ps:List Str}{qual:Str}{scope:Scope}{f:Addr}{cd:Value}{A:Around}{outer:List Env}{s s1:Shared}{H:Hp}{E:XK}{us:List Value}{vs:List V}
  (S:Z0O N ps scope) (hd:A.handled=none) (e0:Zrd P w K mg base A outer s H) (hl:vs.length=ps.length) (r:Z20 vs us)
  (x:InCallC s s.heap.objs.size (bindL (envOfC qual scope s.heap.objs.size f cd).kindOf (ps.zip us) fun _=>none) (cellsFrom (s.heap.objs.size+1) scope.names []) (bindC (envOfC qual scope s.heap.objs.size f cd).kindOf (ps.zip us) fun _=>none) s1) :
  Inv (ZlR CX P w K mg base N qual scope f cd A outer s H E) [] (start N vs) H s1:=by
 have hpl:ps.length≤N.length:=by have:=congrArg Z18 S.pre;rw[ZA] at this;lia
 obtain⟨h1,tk,rfl,hk⟩:=x.done
 have noA:∀ b:Addr,b∉(ZlR CX P w K mg base N qual scope f cd A outer s H E).ex:=fun b z=>absurd (show b∈([]:List Addr) from z) (by simp)
 refine⟨⟨e0.mod,S.kind,rfl,rfl,Zg _,fun y z c h1 h2=>?_,fun y hy=>?_,fun y c _ h=>?_,fun _=>hd,Around.frames_deeper e0.frames,.inr ⟨rfl,rfl⟩,fun b z=>absurd z (noA b),e0.bs,e0.bsz,fun b _ _=>noA b,fun b z=>absurd z (noA b),e0.funs,e0.frf⟩,
  rfl,e0.bare,Un.kept hk,⟨_,x.toInCall.ns,fun i y v h1 h2 h3=>?_⟩,fun y c h=>⟨_,x.cell y c h⟩,e0.hok.fresh (Zg _),fun y c h=>?_,fun p hp=>absurd (show p∈([]:List (Addr×Obj)) from hp) (by simp),e0.hok.kept hk,?_⟩
 ·exact name_of_addr x.apart (Z1j h1) (Z1j h2)
 ·have hy:scope.names.lookup y=some .cell∨scope.names.lookup y=some .free:=hy
  rcases hy with hy|hy
  ·exact Zgr hy
  ·exact absurd rfl (S.nofree _ (Z1j hy))
 ·exact Z3v (x.above y c (Z1j h))
 ·have hi:i<vs.length:=by
   unfold start at h2
   by_cases hi:i<vs.length
   ·exact hi
   ·rw[ZC (by simpa using hi)] at h2
    rw[Z15] at h2
    split at h2 <;> cases h2
  have ha:vs[i]?=some v:=by
   unfold start at h2
   rw[Z00 (by simpa using hi),Z0q] at h2
   cases e:vs[i]? with
   |none=>rw[e] at h2;cases h2
   |some a=>rw[e] at h2;cases h2;rfl
  obtain⟨u,hu,rv⟩:=r.get ha
  have hp:ps[i]?=some y:=by
   rw[← S.pre,Z44 (by lia)];exact h1
  have ndP:ps.Nodup:=by rw[← S.pre];exact S.nd.sublist (Z14 _ _)
  refine⟨u,rv,?_⟩
  rcases S.par y (Z01 hp) with k|k
  ·exact .inl ⟨k,ZdW ndP hp hu k⟩
  ·obtain⟨c,e⟩:=Zgr (n:=s.heap.objs.size+1) k
   refine .inr ⟨.inl k,c,e,?_⟩
   have q:=x.cell y c e
   rw[ZdY ndP hp hu (by show scope.names.lookup y≠_;rw[k];decide)] at q
   exact q
 ·exact e0.hok.fresh (Z3v (x.above y c (Z1j h)))
 ·unfold start
  show _=N.length
  rw[Zd,Ze,Z1o]
  lia
theorem ZrX {CX:CXT}{P:Program}{w:World}{K:Fg_}{mg:Str→Option Value}{base:Heap}{k:Nat}{f:Addr}{name qual:Str}{params:Arguments}{body:List Stmt}{scope:Scope}{dV kV doc pm cdv ct oc:Value}{an od:Option Addr}
  {osl:Array (Option Value)} {N ps:List Str} {sp:Sp} (lk:K.lookup f=some ⟨oc,od,.func (ZL name qual params body scope dV kV doc pm an cdv ct),osl⟩) (hcd:ZI K cdv qual=true) (S:Z0O N ps scope)
  (len:∀ vs H Q E,sp vs H Q E→vs.length=ps.length)
  (hbody:∀ (A:Around) (outer:List Env) (s:Shared) (H:Hp) (vs:List V) (Q:VK) (E:XK),Z4B k (A.deeper (envOfC qual scope s.heap.objs.size f cdv))→sp vs H Q E →
   ∃ t,PSs (ZlR CX P w K mg base N qual scope f cdv A outer s H E) body t∧t { nx:=fun _ H'=>Q .non H',rt:=Q } (start N vs) H) :
  Z4C P w K mg base CX (k+1) f (ZL name qual params body scope dV kV doc pm an cdv ct) ps sp:=by
 refine⟨len,fun A outer s H args us vs Q E hr e0 hb r hsp=>?_⟩
 have hl:=len _ _ _ _ hsp
 have KX:K.In s.heap:=e0.mod.kin.keeps fun b o e=>(e0.bs b o e).1
 have lim:s.heap.NoLimit:=e0.mod.nolimit.keeps fun b o e=>(e0.bs b o e).1
 have hkind:∀ y∈ps.zip us,scope.names.lookup y.1=some .local∨(scope.names.lookup y.1=some .cell∧((cellsFrom (s.heap.objs.size+1) scope.names []).lookup y.1).isSome=true):=fun z1_ hy=>by
  obtain ⟨n,v⟩:=z1_
  rcases S.par n (Z5s hy).1 with q|q
  ·exact .inl q
  ·exact .inr ⟨q,Zec _ _ _ (.inl q)⟩
 refine codeAny_call_function hr.depth (KX _ _ lk) rfl S.co S.gen rfl (PySem.W.codeRec_of KX hcd) (hb _ _ _ _ ?_)
 refine wpAny_newFunctionEnv_cells S.kind hkind fun env he s1 x=>?_
 subst he
 refine⟨lim.keeps x.toInCall.keep,codeAny_func ?_⟩
 obtain⟨t,ht,hq⟩:=hbody A outer s H vs Q E (hr.deeper _) hsp
 have I:Inv (ZlR CX P w K mg base N qual scope f cdv A outer s H E) [] (start N vs) H s1:=Zjm S hr.hd e0 hl r x
 refine Z1k (ht [] s1 (start N vs) H _ I hq) (fun fl s' hs=>?_) fun e s' hs=>hs
 have fin:∀ {σ':St} {H':Hp} {v:V} {u:Value},Inv (ZlR CX P w K mg base N qual scope f cdv A outer s H E) [] σ' H' s'→RelV v u→Q v H'→CE outer P w H s Q u s' :=
  fun {σ' H' v u} J rv q=>⟨v,H',J.os,J.bare,J.base,J.hok,rv,q⟩
 cases fl with
 |ret u =>
  obtain⟨v,σ',H',J,rv,q⟩:=hs
  exact fin J rv q
 |next =>
  obtain⟨σ',H',J,q⟩:=hs
  exact fin (v:=V.non) (u:=Z1U) J rfl q
 |brk =>
  obtain⟨_,_,_,q⟩:=hs
  exact Z40 q
 |cont =>
  obtain⟨_,_,_,q⟩:=hs
  exact Z40 q
section
variable {X:Cx}{x:Str}{p pos:Pos}{e:Expr}{es:List Expr}{t:TA}{id T:String}{r:List V→Hp→VK→Prop}
noncomputable def tCB (r:List V→Hp→VK→Prop)(t:TA):TE:=fun σ H Q=>t σ H fun vs H1=>r vs H1 Q
theorem Z9p (hc:Z7j X (.builtin id) r) (hg:Gl X x) (hm:X.mg x=none) (hv:bootBuiltins x=some (.builtin id)) (ha:PA X (e::es) t) (hn:x≠"__name__":=by decide) (hdb:(x == ("__debug__":Str))=false:=by decide)
  (he:starEach (e::es) X.env=(false,eval e X.env)::starEach es X.env:=by rfl) (hpl:(backTo pos (starEach es X.env)).any (·.1)=false:=by rfl):PE X (.Call (.Name x p) (e::es) [] pos) (tCB r t):=by
 intro pins s σ H Q I h
 refine Z2D (Z6K I hg hm hv ?_ hn hdb)
 exact PyProof.Rows.callWith_builtin1 (thn (ha pos pins s σ H _ I h) fun us s1 ⟨vs,H1,I1,r1,q1⟩=>hc pins s1 σ H1 vs us Q I1 r1 q1) he hpl
theorem Zd5 (hc:Z7j X (.type T) r) (hg:Gl X x) (hm:X.mg x=none) (hv:bootBuiltins x=some (.type T)) (ha:PA X (e::es) t) (hn:x≠"__name__":=by decide) (hdb:(x == ("__debug__":Str))=false:=by decide)
  (he:starEach (e::es) X.env=(false,eval e X.env)::starEach es X.env:=by rfl) (hpl:(backTo pos (starEach es X.env)).any (·.1)=false:=by rfl):PE X (.Call (.Name x p) (e::es) [] pos) (tCB r t):=by
 intro pins s σ H Q I h
 refine Z2D (Z6K I hg hm hv ?_ hn hdb)
 exact Z0T (thn (ha pos pins s σ H _ I h) fun us s1 ⟨vs,H1,I1,r1,q1⟩=>hc pins s1 σ H1 vs us Q I1 r1 q1) he hpl
end
end L2
namespace HT
open PySem PyProof.Rows
theorem ZlL (A:Around)(s:Shared)(a:Int)(t:Tok)(c:Int)(u:Tok):∃ e,Z9D A s (.int a t) (.int c u) e∧(e=true↔a=c) :=
 ⟨(a == c),Z9D.int_int a t c u,by simp⟩
theorem Zkz (A:Around)(s:Shared)(a:Int)(t:Tok)(c:Int)(u:Tok)(prog:Program)(w:World)(E:Value→Shared→Prop)(Q:Value→Shared→Prop)(h:Q (.bool (decide (a<c))) s) :
  wpAny (model prog w) A (richCompare .Lt (.int a t) (.int c u)) Q E s :=
 (Zch h:wpAny (model prog w) A (compareOp .Lt (.int a t) (.int c u)) Q E s)
section
open PySem.SeqAt
open PySem.AutoSeq1 (wpAny_loadPart')
open PySem.MeetsSeq PySem.MeetsSeq2 PySem.MeetsSeq3
end
section
variable {prog:Program}{w:World}{A:Around}{E:Value→Shared→Prop}{s:Shared}
theorem cat_tup {t b:Addr}{vs ws:List Value}{Q:Value→Shared→Prop}(ht:IsTup s.heap t vs.toArray)(hb:IsTup s.heap b ws.toArray)(hv:vs≠[])
  (h1:ws=[]→Q (.ref t) s) (h2:ws≠[]→Q (.ref s.heap.objs.size) { s with heap:=s.heap.push { cls:=.type "tuple",data:=.seq (vs++ws).toArray } })
  (hsz:vs.length+ws.length≤sizeLine):wpAny (model prog w) A (binaryOp .Add (.ref t) (.ref b)) Q E s:=by
 obtain⟨⟨cls,dd,data,sl⟩,ho,hc,n,hd⟩:=id ht
 obtain⟨⟨cls2,dd2,data2,sl2⟩,ho2,hc2,n2,hd2⟩:=id hb
 simp only at hc hd hc2 hd2
 subst hc hd hc2 hd2
 have e:vs.toArray++ws.toArray=(vs++ws).toArray:=by simp
 by_cases hw:ws=[]
 ·exact ZdO ⟨_,ho,rfl⟩ ⟨_,ho2,rfl⟩ Zeh ZjY Z6z Z6m (Z5U _ _)
   (tuple_addW1 t b vs.toArray ws.toArray n n2 dd dd2 sl sl2 (by simpa using hv) (by simp[hw])) ⟨ho,ho2,h1 hw⟩
 ·refine ZdO ⟨_,ho,rfl⟩ ⟨_,ho2,rfl⟩ Zeh ZjY Z6z Z6m (Z5U _ _)
   (tuple_addW2 t b vs.toArray ws.toArray n n2 dd dd2 sl sl2 (by simpa using hv) (by simpa using hw) (by rw[Zl,Zl];exact hsz)) ⟨ho,ho2,?_⟩
  rw[e]
  exact h2 hw
noncomputable def sIx (n d:Nat):Option Int→Nat
 |none=>d
 |some v=>if v<0 then (v+(n:Int)).toNat else min v.toNat n
theorem sIx_none (n d:Nat):sIx n d none=d:=rfl
theorem sIx_nat (n d k:Nat):sIx n d (some (k:Int))=min k n:=by
 show (if (k:Int)<0 then ((k:Int)+(n:Int)).toNat else min (k:Int).toNat n)=min k n
 rw[if_neg (by simp),Z16]
theorem sIx_le (n d:Nat)(hd:d≤n)(o:Option Int):sIx n d o≤n:=by
 cases o with
 |none=>exact hd
 |some v =>
  show (if v<0 then (v+(n:Int)).toNat else min v.toNat n)≤n
  by_cases hv:v<0
  ·rw[if_pos hv];lia
  ·rw[if_neg hv];exact ZoO _ _
theorem Zjy (v:Int)(n d:Nat):(if v<0 then max (v+(n:Int)) 0 else min v (n:Int))=((sIx n d (some v):Nat):Int):=by
 show (if v<0 then max (v+(n:Int)) 0 else min v (n:Int))=(((if v<0 then (v+(n:Int)).toNat else min v.toNat n):Nat):Int)
 by_cases hv:v<0
 ·simp only[if_pos hv];simp
 ·simp only[if_neg hv];lia
theorem Zht (lo hi:Option Int)(n:Nat):Z4S lo hi 1 (n:Int)=(((sIx n 0 lo:Nat):Int),((sIx n n hi:Nat):Int)):=by
 have h1:¬ ((1:Int)<0):=by decide
 unfold Z4S
 simp only[h1,if_false]
 refine Z7K ?_ ?_
 ·cases lo with
  |none=>rfl
  |some v=>exact Zjy v n 0
 ·cases hi with
  |none=>rfl
  |some v=>exact Zjy v n n
theorem ZgR (i j:Nat):Z3f (i:Int) (j:Int) 1=j-i:=by
 unfold Z3f
 have h1:(1:Int) > 0:=by decide
 simp only[h1,if_true,Int.ediv_one]
 split <;> lia
theorem Zb0 {v:Value}{o:Option Int}{Q:Option Int→Shared→Prop}(p:IsPart v o)(h:Q o s):wpAny (model prog w) A (Builtin.Slice.slicePartIndex v) Q E s:=by
 cases p with
 |none=>exact ZsN h
 |int i t=>exact slicePart_int h
theorem sliceApplied_gen {sl:Addr}{vl vu:Value}{lo hi:Option Int}{n:Nat}{Q:Int×Int×Nat→Shared→Prop}(hs:s.heap.IsSliceOf sl vl vu .none)(pl:IsPart vl lo)(pu:IsPart vu hi)
  (h:Q (((sIx n 0 lo:Nat):Int),1,sIx n n hi-sIx n 0 lo) s):wpAny (model prog w) A (Z8I (.ref sl) (pure (n:Int))) Q E s:=by
 obtain⟨os,hos,hcs,hds⟩:=id hs
 unfold Z8I Builtin.Slice.sliceFields
 refine Z0 (Z0 (Z3a hos hds (x:=vl) rfl (Z0 (Z3a hos hds (x:=vu) rfl (Z0 (Z3a hos hds (x:=.none) rfl (Za ?_)))))))
 refine Z0 (ZsN ?_)
 show wpAny _ _ (if ((1:Int) == 0)=true then _ else _) _ _ s
 rw[if_neg (by decide)]
 refine Z0 (Zb0 pl (Z0 (Zb0 pu (Z0 (Za ?_)))))
 show wpAny _ _ (match Z4S lo hi 1 (n:Int) with|(lo,hi)=>pure (lo,(1:Int),Z3f lo hi 1)) _ _ s
 rw[Zht lo hi n]
 show wpAny _ _ (pure (((sIx n 0 lo:Nat):Int),(1:Int),Z3f ((sIx n 0 lo:Nat):Int) ((sIx n n hi:Nat):Int) 1)) _ _ s
 rw[ZgR]
 exact Za h
theorem ZkI (xs:Array Value)(i k:Nat):((Z0L k).filterMap fun (m:Nat)=>xs[((i:Int)+(m:Int)*1).toNat]?).toArray=((xs.toList.drop i).take k).toArray:=by
 have e:(fun (m:Nat)=>xs[((i:Int)+(m:Int)*1).toNat]?)=fun m=>xs[i+m]?:=by
  funext m
  have:((i:Int)+(m:Int)*1).toNat=i+m:=by lia
  rw[this]
 rw[e]
 have:=Zt8 xs i k
 rw[List.filterMap_map] at this
 have e2:((fun x=>xs[x]?)∘fun x=>i+x)=fun m=>xs[i+m]?:=rfl
 rw[e2] at this
 rw[this]
theorem getItem_tuple_cut {t sl:Addr}{items:Array Value}{vl vu:Value}{lo hi:Option Int}{Q:Value→Shared→Prop}(ht:IsTup s.heap t items)(hs:s.heap.IsSliceOf sl vl vu .none)(pl:IsPart vl lo)(pu:IsPart vu hi)
  (hw:¬ (sIx items.size 0 lo=0∧sIx items.size items.size hi=items.size))
  (h:Q (.ref s.heap.objs.size) { s with heap:=s.heap.push { cls:=.type "tuple",data:=.seq ((items.toList.drop (sIx items.size 0 lo)).take (sIx items.size items.size hi-sIx items.size 0 lo)).toArray } })
  (hsz:items.size≤sizeLine):wpAny (model prog w) A (getItem (.ref t) (.ref sl)) Q E s:=by
 have htake:sizeOk (.seq ((items.toList.drop (sIx items.size 0 lo)).take (sIx items.size items.size hi-sIx items.size 0 lo)).toArray):=by
  show ((items.toList.drop (sIx items.size 0 lo)).take (sIx items.size items.size hi-sIx items.size 0 lo)).toArray.size≤sizeLine
  rw[Zl,ZA,ZM,ZN]
  omega
 have hj:sIx items.size items.size hi≤items.size:=sIx_le _ _ (Zg _) hi
 obtain⟨os,hos,hcs,hds⟩:=id hs
 have hTs:s.TypeIs (.ref sl) "slice":=⟨os,hos,hcs⟩
 unfold getItem
 try with_reducible refine Z1E ?_
 first|refine Z0 (Za ?_)|skip
 refine Z0 (ZqP ht.typeIs (by decide) ?_)
 refine Z0 (Z1F (name:=ZV "__getitem__") ht.typeIs Z0X
  (Z1r Z0X ht.typeIs ZoW ?_ (ZqJ _ _)))
 show wpAny _ _ (Z8H (.ref t)>>=_) _ _ s
 refine Z0 (Zt7 ht ?_)
 refine Z0 (Z5g hTs ?_)
 rw[if_pos (by decide)]
 refine Z0 (sliceApplied_gen hs pl pu ?_)
 have hno:¬ ((((sIx items.size 0 lo:Nat):Int) == 0&&(1:Int) == 1&&(sIx items.size items.size hi-sIx items.size 0 lo) == items.size)=true):=by
  intro q
  rw[Z0a,Z0a] at q
  have q1:((sIx items.size 0 lo:Nat):Int)=0:=eq_of_beq q.1.1
  have q2:sIx items.size items.size hi-sIx items.size 0 lo=items.size:=eq_of_beq q.2
  exact hw ⟨by omega,by omega⟩
 show wpAny _ _ (if (((sIx items.size 0 lo:Nat):Int) == 0&&(1:Int) == 1&&(sIx items.size items.size hi-sIx items.size 0 lo) == items.size)=true then _ else _) _ _ s
 rw[if_neg hno,ZkI]
 first
  |exact Z0 (m:=Z3u _) (Z0J (Za ⟨_,rfl,Za h⟩) htake)
  |exact Z0 (m:=Z3u _) (Z0J (Z0 (Za (Za ⟨_,rfl,Za h⟩))) htake)
  |exact Z0 (Z0 (m:=Z3u _) (Z0J (Za (Za ⟨_,rfl,Za h⟩)) htake))
  |exact Z0 (Z0 (m:=Z3u _) (Z0J (Za ⟨_,rfl,Za h⟩) htake))
end
end HT
namespace L2
open PySem PySem.Spec PyProof.Rows
noncomputable abbrev TO:=St→Hp→(Option Int→Hp→Prop)→Prop
noncomputable def PO (X:Cx)(e:Option Expr)(t:TO):Prop :=
 ∀ (pins:List (Addr×Obj)) (s:Shared) (σ:St) (H:Hp) (Q:Option Int→Hp→Prop),Inv X pins σ H s→t σ H Q →
  wpAny (model X.prog X.w) X.A (evalPart e X.env) (fun u s'=>∃ o H',Inv X pins σ H' s'∧IsPart u o∧Q o H') X.xe s
noncomputable def Zn8:TO:=fun _ H Q=>Q none H
noncomputable def Zrp (t:TE):TO:=fun σ H Q=>t σ H fun x H1=>∃ i,x=.int i∧Q (some i) H1
section
variable {X:Cx}{e:Expr}{te:TE}{lo hi:Option Expr}{tl th:TO}{pos p2:Pos}
theorem Znv:PO X none Zn8:=by
 intro pins s σ H Q I h
 rw[Zta]
 exact Za ⟨none,H,I,.none,h⟩
theorem Znu (h:PE X e te):PO X (some e) (Zrp te):=by
 intro pins s σ H Q I hw
 rw[evalPart_some]
 refine thn (h pins s σ H _ I hw) fun u s1 z1_=>?_
 obtain ⟨x,H1,I1,r1,q1⟩:=z1_
 obtain⟨i,rfl,q⟩:=q1
 obtain⟨t,rfl⟩:=r1
 exact⟨some i,H1,I1,.int i t,q⟩
noncomputable def SlR (X:Cx)(r:V→Option Int→Option Int→Hp→VK→Prop):Prop :=
 ∀ (pins:List (Addr×Obj)) (s:Shared) (σ:St) (H:Hp) (x:V) (v vl vu:Value) (lo hi:Option Int) (sl:Addr) (Q:VK),Inv X pins σ H s→RelV x v→s.heap.IsSliceOf sl vl vu .none→IsPart vl lo→IsPart vu hi→r x lo hi H Q →
  ∃ T id,typeLookup (.type T) "__getitem__"=pure (some (.builtin id))∧s.TypeIs v T∧wpAny (model X.prog X.w) X.A (getItem v (.ref sl)) (EP X pins σ Q) X.xe s
theorem SlR.or {r r':V→Option Int→Option Int→Hp→VK→Prop}(h:SlR X r)(h':SlR X r'):SlR X (fun x lo hi H Q=>r x lo hi H Q∨r' x lo hi H Q):=by
 intro pins s σ H x v vl vu lo hi sl Q I rx hs pl pu q
 rcases q with q|q
 ·exact h pins s σ H x v vl vu lo hi sl Q I rx hs pl pu q
 ·exact h' pins s σ H x v vl vu lo hi sl Q I rx hs pl pu q
noncomputable def tSl (r:V→Option Int→Option Int→Hp→VK→Prop)(te:TE)(tl th:TO):TE:=fun σ H Q=>te σ H fun x H1=>tl σ H1 fun l H2=>th σ H2 fun u H3=>r x l u H3 Q
theorem Zg1 {r:V→Option Int→Option Int→Hp→VK→Prop}(hr:SlR X r)(he:PE X e te)(hl:PO X lo tl)(hu:PO X hi th):PE X (.Subscript e (.Slice lo hi none p2) pos) (tSl r te tl th):=by
 intro pins s σ H Q I h
 refine Subscript_ (thn (he pins s σ H _ I h) fun v s1 z1_=>?_)
 obtain ⟨x,H1,I1,r1,q1⟩:=z1_
 refine wpAny_Slice (thn (hl pins s1 σ H1 _ I1 q1) fun vl s2 ⟨l,H2,I2,pl,q2⟩=>thn (hu pins s2 σ H2 _ I2 q2) fun vu s3 z1_=>?_)
 obtain ⟨u,H3,I3,pu,q3⟩:=z1_
 rw[Zta]
 refine Za ?_
 have I4:Inv X pins σ H3 { s3 with heap:=s3.heap.push { cls:=.type "slice",data:=.fields #[vl,vu,.none] } }:=I3.kept (t':=s3.toks) fun b ob q=>Z1 _ q
 obtain⟨T,id,hT,ht,hg⟩:=hr pins { s3 with heap:=s3.heap.push { cls:=.type "slice",data:=.fields #[vl,vu,.none] } } σ H3 x v vl vu l u s3.heap.objs.size Q I4 r1 (Heap.IsSliceOf.new ..) pl pu q3
 show wpAny (model X.prog X.w) X.A (subscriptTail e (.Slice lo hi none p2) v (.ref s3.heap.objs.size)) (EP X pins σ Q) X.xe { s3 with heap:=s3.heap.push { cls:=.type "slice",data:=.fields #[vl,vu,.none] } }
 exact tail_any (ops:=[.ref s3.heap.objs.size,v]) ht hT hg (by with_unfolding_all rfl)
noncomputable def ZmJ (xs:List V)(lo hi:Option Int):List V:=(xs.drop (HT.sIx xs.length 0 lo)).take (HT.sIx xs.length xs.length hi-HT.sIx xs.length 0 lo)
theorem Zag (xs:List V)(lo hi:Option Int):(ZmJ xs lo hi).length≤xs.length:=by
 unfold ZmJ
 rw[ZA,ZM]
 lia
noncomputable def Zs9 (K:Fg_):V→Option Int→Option Int→Hp→VK→Prop:=fun x lo hi H Q=>∃ a xs,x=.ref a∧SqT K H a xs ∧
 ¬ (HT.sIx xs.length 0 lo=0∧HT.sIx xs.length xs.length hi=xs.length)∧∀ p,H p=none→Q (.ref p) (upd H p (.tup (ZmJ xs lo hi)))
theorem Zpc:SlR X (Zs9 X.K):=by
 intro pins s σ H x v vl vu lo hi sl Q I rx hs pl pu h
 obtain⟨a,xs,rfl,hx,hw,q⟩:=h
 cases rx
 obtain⟨its,r,ht,hz⟩:=I.tuple hx
 have hlen:its.toArray.size=xs.length:=by rw[Zl];exact r.length.symm
 refine⟨"tuple",_,Z0X.lookup,ht.typeIs,?_⟩
 refine HT.getItem_tuple_cut ht hs pl pu (by rw[hlen];exact hw) ?_ (by rw[hlen];exact hz)
 rw[hlen]
 refine⟨.ref s.heap.objs.size,_,I.laid (t':=s.toks) (o:=.tup (ZmJ xs lo hi)) (fun b ob q=>Z1 _ q) (Zg _) ?_,rfl,q _ (I.hok.fresh (Zg _))⟩
 exact⟨ZR (Zag xs lo hi) hz,_,(r.drop (HT.sIx xs.length 0 lo)).take (HT.sIx xs.length xs.length hi-HT.sIx xs.length 0 lo),ZgG _ _⟩
noncomputable def Zpm (K:Fg_):R2:=fun x y H Q=>∃ a b xs ys,x=.ref a∧y=.ref b∧SqT K H a xs∧SqT K H b ys∧xs≠[]∧xs.length+ys.length≤sizeLine ∧
 (ys=[]→Q (.ref a) H)∧(ys≠[]→∀ p,H p=none→Q (.ref p) (upd H p (.tup (xs++ys))))
theorem Z20.nil_iff {xs:List V}{us:List Value}(r:Z20 xs us):us=[]↔xs=[]:=by
 cases r with
 |nil=>simp
 |cons _ _=>simp
theorem Zo5:OpR X (binaryOp .Add) (Zpm X.K):=by
 intro pins s σ H x y v u Q I rx ry h
 obtain⟨a,b,xs,ys,rfl,rfl,ha,hb,hx,hz,q1,q2⟩:=h
 cases rx
 cases ry
 obtain⟨its,r1,p1,_⟩:=I.tuple ha
 obtain⟨its2,r2,p2,_⟩:=I.tuple hb
 refine HT.cat_tup p1 p2 (fun z=>hx (r1.nil_iff.mp z)) (fun z=>⟨.ref a,H,I,rfl,q1 (r2.nil_iff.mp z)⟩) (fun z=>?_) (by rw[← r1.length,← r2.length];exact hz)
 refine⟨.ref s.heap.objs.size,_,I.laid (t':=s.toks) (o:=.tup (xs++ys)) (fun b ob q=>Z1 _ q) (Zg _) ?_,rfl,q2 (fun w=>z (r2.nil_iff.mpr w)) _ (I.hok.fresh (Zg _))⟩
 exact⟨by rw[Zd];exact hz,_,r1.append r2,ZgG _ _⟩
end
noncomputable def ixN (n:Nat)(i:Int):Option Nat:=if 0≤i then (if i<n then some i.toNat else none) else if -(n:Int)≤i then some (i+n).toNat else none
noncomputable def atI {α:Type}(xs:List α)(i:Int):Option α:=(ixN xs.length i).bind fun j=>xs[j]?
theorem Zow {n:Nat}{i:Int}{j:Nat}(h:ixN n i=some j):seqIndex? i n=some j∧j<n∧-(n:Int)≤i∧i<n:=by
 unfold ixN at h
 by_cases h0:0≤i
 ·rw[if_pos h0] at h
  by_cases h1:i<n
  ·rw[if_pos h1] at h
   have e:i.toNat=j:=Z0e h
   exact⟨by rw[seqIndex_of h0 h1,e],by omega,by lia,h1⟩
  ·rw[if_neg h1] at h;cases h
 ·rw[if_neg h0] at h
  by_cases h1:-(n:Int)≤i
  ·rw[if_pos h1] at h
   have e:(i+n).toNat=j:=Z0e h
   exact⟨by rw[seqIndex_neg (by lia) h1,e],by lia,h1,by lia⟩
  ·rw[if_neg h1] at h;cases h
theorem Zfo {α:Type}{xs:List α}{i:Int}{v:α}(h:atI xs i=some v):∃ j,seqIndex? i xs.length=some j∧xs[j]?=some v∧j<xs.length∧-(xs.length:Int)≤i∧i<xs.length:=by
 unfold atI at h
 cases e:ixN xs.length i with
 |none=>rw[e] at h;cases h
 |some j =>
  rw[e] at h
  obtain⟨h1,h2,h3,h4⟩:=Zow e
  exact⟨j,h1,h,h2,h3,h4⟩
noncomputable def Zfs (b:Expr):Prop:=∀ o i,subscripted b false o i=operate [o,i] (getItem o i)
noncomputable def IxR (X:Cx)(r:R2):Prop :=
 ∀ (value slice:Expr) (pins:List (Addr×Obj)) (s:Shared) (σ:St) (H:Hp) (x y:V) (v u:Value) (Q:VK),Inv X pins σ H s→RelV x v→RelV y u→r x y H Q →
  subscripted slice false v u=operate [v,u] (getItem v u)→wpAny (model X.prog X.w) X.A (subscriptTail value slice v u) (EP X pins σ Q) X.xe s
noncomputable def MtR (X:Cx)(id:String)(r:V→List V→Hp→VK→Prop):Prop :=
 ∀ (pins:List (Addr×Obj)) (s:Shared) (σ:St) (H:Hp) (x:V) (xs:List V) (v:Value) (us:List Value) (Q:VK),Inv X pins σ H s→RelV x v→Z20 xs us→r x xs H Q →
  wpAny (model X.prog X.w) X.A (call (.builtin id) (v::us)) (EP X pins σ Q) X.xe s
section
variable {X:Cx}{a b:Expr}{ta tb:TE}{pos:Pos}
theorem IxR.or {r r':R2}(h:IxR X r)(h':IxR X r'):IxR X (fun x y H Q=>r x y H Q∨r' x y H Q):=by
 intro value slice pins s σ H x y v u Q I rx ry q hs
 rcases q with q|q
 ·exact h value slice pins s σ H x y v u Q I rx ry q hs
 ·exact h' value slice pins s σ H x y v u Q I rx ry q hs
theorem ZrC {r:R2}(hr:IxR X r)(ha:PE X a ta)(hb:PE X b tb)(hs:Zfs b):PE X (.Subscript a b pos) (tOp r ta tb):=by
 intro pins s σ H Q I h
 exact Subscript_ (Zs0 ha hb I h fun v u s2 x y H2 I2 rx ry q=>hr a b pins s2 σ H2 x y v u Q I2 rx ry q (hs _ _))
noncomputable def Zsh (K:Fg_):R2:=fun x y H Q=>∃ p xs i v,x=.ref p∧y=.int i∧SqL K H p xs∧atI xs i=some v∧Q v H
noncomputable def Zsf (K:Fg_):R2:=fun x y H Q=>∃ p xs i v,x=.ref p∧y=.int i∧SqT K H p xs∧atI xs i=some v∧Q v H
noncomputable def Zsg:R2:=fun x y H Q=>∃ z i c,x=.str z∧y=.int i∧z.length≤sizeLine∧atI z.cps.toList i=some c∧Q (.str ⟨#[c]⟩) H
theorem Zov:IxR X (Zsh X.K):=by
 intro value slice pins s σ H x y v u Q I rx ry h hs
 obtain⟨p,xs,i,z,rfl,rfl,hq,he,q⟩:=h
 cases rx
 obtain⟨t,rfl⟩:=ry
 obtain⟨its,r,pl,hz⟩:=I.list hq
 obtain⟨j,h1,h2,h3,h4,h5⟩:=Zfo he
 obtain⟨w,ew,rw'⟩:=r.get h2
 have hl:=r.length
 have hn:=Zdk
 have fin:EP X pins σ Q w s:=⟨z,H,I,rw',q⟩
 by_cases h0:0≤i
 ·have hj:i.toNat=j:=by
   rw[seqIndex_of h0 h5] at h1
   exact Z0e h1
  exact item_listR pl.isList h0 (by lia) (by rw[hj];simpa using ew) fin hs
 ·have hj:(i+(its.toArray.size:Int)).toNat=j:=by
   rw[seqIndex_neg (by lia) h4] at h1
   rw[Zl,← hl]
   exact Z0e h1
  exact Zkr (x:=w) pl.isList.typeIs Zr0.lookup
   (wpAny_getItem_list_neg (Q:=fun r s'=>r=w∧EP X pins σ Q r s') pl.isList (by lia) (by rw[Zl] <;> lia) (by lia) (by rw[hj];simpa using ew) ⟨rfl,fin⟩) hs
theorem Zqw:IxR X (Zsf X.K):=by
 intro value slice pins s σ H x y v u Q I rx ry h hs
 obtain⟨p,xs,i,z,rfl,rfl,hq,he,q⟩:=h
 cases rx
 obtain⟨t,rfl⟩:=ry
 obtain⟨its,r,pl,hz⟩:=I.tuple hq
 obtain⟨j,h1,h2,h3,h4,h5⟩:=Zfo he
 obtain⟨w,ew,rw'⟩:=r.get h2
 have hl:=r.length
 have hn:=Zdk
 have fin:EP X pins σ Q w s:=⟨z,H,I,rw',q⟩
 exact Zkr (x:=w) pl.typeIs slot_tuple_getitem.lookup
  (getItem_tuple (j:=j) (Q:=fun r s'=>r=w∧EP X pins σ Q r s') pl (by lia) (by lia) (by rw[Zl,← hl];exact h1) (by simpa using ew) ⟨rfl,fin⟩) hs
theorem Zqx:IxR X Zsg:=by
 intro value slice pins s σ H x y v u Q I rx ry h hs
 obtain⟨z,i,c,rfl,rfl,hz,he,q⟩:=h
 obtain⟨t,rfl⟩:=rx
 obtain⟨t',rfl⟩:=ry
 obtain⟨j,h1,h2,h3,h4,h5⟩:=Zfo he
 have hl:z.cps.toList.length=z.length:=by simp[Z5r]
 rw[hl] at h1 h4 h5
 have hn:=Zdk
 exact tail_any (ZqW s z t) slot_str_getitem.lookup (getItem_str (c:=c) (by
  have e1:decide (i < -(2 ^ 63:Int))=false:=decide_eq_false (by lia)
  have e2:decide (i ≥ 2 ^ 63)=false:=decide_eq_false (by lia)
  rw[e1,e2,ZqM]) (by rw[h1];simpa using h2) ⟨.str ⟨#[c]⟩,H,I.tok _,⟨_,rfl⟩,q⟩) hs
noncomputable def rIx (K:Fg_):R2:=fun x y H Q=>Zsh K x y H Q∨Zsf K x y H Q∨Zsg x y H Q
theorem Zqy:IxR X (rIx X.K):=Zov.or (Zqw.or Zqx)
theorem Inv.lst {pins:List (Addr×Obj)}{σ:St}{H:Hp}{s:Shared}{p:Addr}{xs:List V}(I:Inv X pins σ H s)(h:H p=some (.lst xs)) :
  ∃ (its:List Value) (n:Nat),Z20 xs its∧s.heap.get? p=some { cls:=.type "list",data:=.seq its.toArray n }∧xs.length≤sizeLine:=by
 obtain⟨z,its,n,r,e⟩:=I.hok p _ h
 exact⟨its,n,r,e,z⟩
theorem Z8N (lo hi:Option Int)(n:Nat):(sliceBounds lo hi none n).1=((HT.sIx n 0 lo:Nat):Int)∧(sliceBounds lo hi none n).2.1=((HT.sIx n n hi:Nat):Int)∧(sliceBounds lo hi none n).2.2=1:=by
 refine⟨?_,?_,rfl⟩
 ·cases lo with
  |none=>simp[sliceBounds,HT.sIx]
  |some i =>
   simp only[sliceBounds,HT.sIx,Zk7,show (1:Int) > 0 by decide,if_true]
   by_cases h:i<0
   ·simp only[h,if_true] <;> lia
   ·simp only[h,if_false] <;> lia
 ·cases hi with
  |none=>simp[sliceBounds,HT.sIx]
  |some i =>
   simp only[sliceBounds,HT.sIx,Zk7,show (1:Int) > 0 by decide,if_true]
   by_cases h:i<0
   ·simp only[h,if_true] <;> lia
   ·simp only[h,if_false] <;> lia
theorem ZbI (its:List Value)(lo hi:Option Int):slicePick its.toArray lo hi none=((its.drop (HT.sIx its.length 0 lo)).take (HT.sIx its.length its.length hi-HT.sIx its.length 0 lo)).toArray:=by
 obtain⟨h1,h2,h3⟩:=Z8N lo hi its.toArray.size
 unfold slicePick
 rw[h1,h2,h3]
 simp only[ZsM,Zt8,Zl] <;> rfl
noncomputable def Zsb (K:Fg_):V→Option Int→Option Int→Hp→VK→Prop:=fun x lo hi H Q=>∃ a xs,x=.ref a∧SqL K H a xs∧∀ p,H p=none→Q (.ref p) (upd H p (.lst (ZmJ xs lo hi)))
theorem Zne:SlR X (Zsb X.K):=by
 intro pins s σ H x v vl vu lo hi sl Q I rx hs pl pu h
 obtain⟨a,xs,rfl,hx,q⟩:=h
 cases rx
 obtain⟨its,r,ht,hz⟩:=I.list hx
 have hlen:=r.length
 refine⟨"list",_,Zr0.lookup,ht.isList.typeIs,?_⟩
 refine wpAny_getItem_list_slice ht.isList hs pl pu .none (by simp) ?_ (by rw[Zl] <;> lia)
 rw[ZbI,← hlen]
 refine⟨.ref s.heap.objs.size,_,I.laid (t':=s.toks) (o:=.lst (ZmJ xs lo hi)) (fun b ob q=>Z1 _ q) (Zg _) ?_,rfl,q _ (I.hok.fresh (Zg _))⟩
 exact⟨ZR (Zag xs lo hi) hz,_,0,(r.drop (HT.sIx xs.length 0 lo)).take (HT.sIx xs.length xs.length hi-HT.sIx xs.length 0 lo),Zm _ rfl⟩
theorem Zd8:OpR X (compareOp .NotIn) (fun x y H Q=>∃ i j,x=.str i∧y=.str j∧Q (.bl (!(!(ZaL j i 0 j.length 1).isEmpty))) H):=by
 intro pins s σ H x y v u Q I rx ry h
 obtain⟨i,j,rfl,rfl,q⟩:=h
 obtain⟨t,rfl⟩:=rx
 obtain⟨t',rfl⟩:=ry
 exact notIn_str ⟨.bl _,H,I,rfl,q⟩
theorem ZdU:Z7j X (.builtin "len") (fun xs H Q=>∃ p ys,xs=[.ref p]∧(SqL X.K H p ys∨SqT X.K H p ys)∧Q (.int ys.length) H):=by
 intro pins s σ H xs us Q I r h
 obtain⟨p,ys,rfl,hq,q⟩:=h
 obtain⟨u,rfl,rx⟩:=vals1 r
 cases rx
 have hn:=Zdk
 rcases hq with hq|hq
 ·obtain⟨its,r',pl,hz⟩:=I.list hq
  have hlen:=r'.length
  exact Calls.call_len_list pl.isList (by simp only[Zl] <;> lia) ⟨.int ys.length,H,I.tok _,⟨s.toks+1,by rw[Zl,hlen]⟩,q⟩
 ·obtain⟨its,r',pl,hz⟩:=I.tuple hq
  have hlen:=r'.length
  exact len_tuple pl (by simp only[Zl] <;> lia) ⟨.int ys.length,H,I.tok _,⟨s.toks+1,by rw[Zl,hlen]⟩,q⟩
theorem ZdT:Z7j X (.builtin "len") (fun xs H Q=>∃ z,xs=[.str z]∧z.length≤sizeLine∧Q (.int z.length) H):=by
 intro pins s σ H xs us Q I r h
 obtain⟨z,rfl,hz,q⟩:=h
 obtain⟨u,rfl,t,rfl⟩:=vals1 r
 have hn:=Zdk
 exact len_str (by lia) ⟨.int z.length,H,I.tok _,⟨_,rfl⟩,q⟩
theorem Z7j.or {f:Value}{r r':List V→Hp→VK→Prop}(h:Z7j X f r)(h':Z7j X f r'):Z7j X f (fun xs H Q=>r xs H Q∨r' xs H Q):=by
 intro pins s σ H xs us Q I rs q
 rcases q with q|q
 ·exact h pins s σ H xs us Q I rs q
 ·exact h' pins s σ H xs us Q I rs q
theorem Zca:Z7j X (.type "tuple") (fun xs H Q=>∃ p ys,xs=[.ref p]∧((SqL X.K H p ys∧∀ l,H l=none→Q (.ref l) (upd H l (.tup ys)))∨(SqT X.K H p ys∧Q (.ref p) H))):=by
 intro pins s σ H xs us Q I r h
 obtain⟨p,ys,rfl,h⟩:=h
 obtain⟨u,rfl,rx⟩:=vals1 r
 cases rx
 rcases h with ⟨hq,q⟩|⟨hq,q⟩
 ·obtain⟨its,r',pl,hz⟩:=I.list hq
  have hlen:=r'.length
  refine call_tuple_list pl.isList (fun h' kp=>?_) (by simp only[Zl] <;> lia)
  have I1:Inv X pins σ H { s with heap:=h' }:=I.kept (t':=s.toks) kp
  have I2:Inv X pins σ (upd H h'.objs.size (.tup ys)) { s with heap:=h'.push { cls:=.type "tuple",data:=.seq its.toArray } } :=
   I1.laid (t':=s.toks) (fun b o e=>Z1 _ e) (Zg _) (show Z7E X.prog X.w _ _ _ (.tup ys) from ⟨hz,its,r',ZgG _ _⟩)
  exact⟨.ref h'.objs.size,_,I2,rfl,q _ (I1.hok.fresh (Zg _))⟩
 ·obtain⟨its,r',pl,hz⟩:=I.tuple hq
  exact call_tuple_same pl ⟨.ref p,H,I,rfl,q⟩
noncomputable def tyV (K:Fg_)(T:String)(x:V)(H:Hp):Prop:=match x with
 |.str _=>T="str"
 |.int _=>T="int"
 |.ref p=>(T="list"∧∃ xs,SqL K H p xs)∨(T="tuple"∧∃ o,K.lookup p=some o∧o.cls=.type "tuple"∧o.dict=none) ∨
   (T="dict"∧((∃ kvs,H p=some (.dK kvs))∨∃ kvs,H p=some (.dT kvs)))∨(T="set"∧∃ S n,H p=some (.set S n))
 |_=>False
theorem Zmb {pins:List (Addr×Obj)}{σ:St}{H:Hp}{s:Shared}{T:String}{x:V}{v:Value}(I:Inv X pins σ H s)(r:RelV x v)(ty:tyV X.K T x H) :
  s.TypeIs v T∧∀ a,v=.ref a→∃ ob,s.heap.get? a=some ob∧ob.dict=none:=by
 cases x with
 |str z =>
  obtain⟨t,rfl⟩:=r
  cases (show T="str" from ty)
  exact⟨ZqW s z t,fun _ e=>nomatch e⟩
 |int i =>
  obtain⟨t,rfl⟩:=r
  cases (show T="int" from ty)
  exact⟨ZqX s i t,fun _ e=>nomatch e⟩
 |ref p =>
  cases r
  rcases ty with ⟨rfl,xs,hq⟩|⟨rfl,o,hk,hc,hd⟩|⟨rfl,hk⟩|⟨rfl,S,n,hk⟩
  ·obtain⟨its,_,pl,_⟩:=I.list hq
   refine⟨pl.isList.typeIs,fun a e=>?_⟩
   cases e
   obtain⟨o,n,e,c,hd,_⟩:=pl
   exact⟨o,e,hd⟩
  ·refine⟨⟨o,I.kIn p o hk,hc⟩,fun a e=>?_⟩
   cases e
   exact⟨o,I.kIn _ o hk,hd⟩
  ·have z:∃ o,s.heap.get? p=some o∧o.ExactDict:=by
    rcases hk with ⟨kvs,hk⟩|⟨kvs,hk⟩
    ·obtain⟨_,_,_,_,o,_,_,e,ex,_⟩:=I.hok p _ hk
     exact⟨o,e,ex⟩
    ·obtain⟨_,_,_,_,o,_,_,e,ex,_⟩:=I.hok p _ hk
     exact⟨o,e,ex⟩
   obtain⟨o,e,ex⟩:=z
   refine⟨⟨o,e,ex.1⟩,fun a e2=>?_⟩
   cases e2
   exact⟨o,e,ex.2.1⟩
  ·obtain⟨o,_,_,_,e,ex,_⟩:=I.hok p _ hk
   refine⟨⟨o,e,ex.1⟩,fun a e2=>?_⟩
   cases e2
   exact⟨o,e,ex.2.1⟩
 |_=>exact Z40 ty
noncomputable def ZsJ (K:Fg_)(T:String)(r:V→List V→Hp→VK→Prop)(to:TE):TE:=fun σ H Q=>to σ H fun x H1=>tyV K T x H1∧r x [] H1 Q
noncomputable def tBM (K:Fg_)(T:String)(r:V→List V→Hp→VK→Prop)(to:TE)(t:TA):TE:=fun σ H Q=>to σ H fun x H1=>tyV K T x H1∧t σ H1 fun xs H2=>r x xs H2 Q
variable {o e:Expr}{es:List Expr}{to:TE}{t:TA}{name:Str}{apos cpos:Pos}{T id:String}{r:V→List V→Hp→VK→Prop}
theorem ZpH (pa:PlainAttrs T) (slot:Slot T name id) (hty:typeOf (.builtin id)=pure (.type "method_descriptor")) (hm:MtR X id r) (ho:PE X o to)
  (hbase:attributeBase o name X.env (eval o X.env)=eval o X.env:=by rfl) (hline:(apos.endLine == cpos.line)=true:=by rfl):PE X (.Call (.Attribute o name apos) [] [] cpos) (ZsJ X.K T r to):=by
 intro pins s σ H Q I h
 refine wpAny_Call_method0_late hbase hline (thn (ho pins s σ H _ I h) fun v s1 z1_=>?_)
 obtain ⟨x,H1,I1,r1,ty,q1⟩:=z1_
 obtain⟨h1,h2⟩:=Zmb I1 r1 ty
 exact⟨T,id,pa,slot,hty,h1,h2,Zfz rfl (PySem.evalArgs_none (hm pins s1 σ H1 x [] v [] Q I1 r1 .nil q1))⟩
theorem ZkS (pa:PlainAttrs T) (slot:Slot T name id) (hty:typeOf (.builtin id)=pure (.type "method_descriptor")) (hm:MtR X id r) (ho:PE X o to) (ha:PA X (e::es) t)
  (hbase:attributeBase o name X.env (eval o X.env)=eval o X.env:=by rfl)
  (hfew:((backTo cpos (starEach (e::es) X.env)).all (fun x=>!x.1)&&(backToKw cpos (keywordEach [] X.env)).all (fun x=>x.1.isSome)
  &&decide ((e::es).length+([]:List Keyword).length+(if ([]:List Keyword).isEmpty then 0 else 1)<30))=true:=by rfl)
  (hline:(apos.endLine == cpos.line)=true:=by rfl) (hs:starEach (e::es) X.env=(false,eval e X.env)::starEach es X.env:=by rfl) (hplain:(backTo cpos (starEach es X.env)).any (·.1)=false:=by rfl) :
  PE X (.Call (.Attribute o name apos) (e::es) [] cpos) (tBM X.K T r to t):=by
 intro pins s σ H Q I h
 refine wpAny_Call_method_late hbase hfew hline rfl (thn (ho pins s σ H _ I h) fun v s1 z1_=>?_)
 obtain ⟨x,H1,I1,r1,ty,q1⟩:=z1_
 obtain⟨h1,h2⟩:=Zmb I1 r1 ty
 refine⟨T,id,pa,slot,hty,h1,h2,?_⟩
 have hA:=ha cpos pins s1 σ H1 _ I1 q1
 rw[hs] at hA ⊢
 refine Zfz (by show (false||(backTo cpos (starEach es X.env)).any (·.1))=false;rw[hplain] <;> rfl) (Calls.evalArgs_plain ?_)
 exact thn hA fun us s2 ⟨vs,H2,I2,r2,q2⟩=>hm pins s2 σ H2 x vs v us Q I2 r1 r2 q2
end
noncomputable def MtM (X:Cx)(id:String)(r:V→List V→Hp→VK→Prop):Prop :=
 ∀ (pins:List (Addr×Obj)) (s:Shared) (σ:St) (H:Hp) (x:V) (xs:List V) (v:Value) (us:List Value) (Q:VK),Inv X pins σ H s→RelV x v→Z20 xs us→r x xs H Q →
  wpAny (model X.prog X.w) X.A (call (.builtin id) (v::us)) (EP X pins σ Q) X.xe s
theorem Z20.one:∀ {x:V} {us:List Value},Z20 [x] us→∃ u,us=[u]∧RelV x u
 |_,_,.cons r .nil=>⟨_,rfl,r⟩
theorem Z20.zero:∀ {us:List Value},Z20 [] us→us=[]
 |_,.nil=>rfl
theorem Z20.dropLast {xs:List V}{us:List Value}(h:Z20 xs us):Z20 xs.dropLast us.dropLast:=by
 induction h with
 |nil=>exact .nil
 |cons r t ih =>
  cases t with
  |nil=>exact .nil
  |cons q t'=>exact .cons r ih
theorem Z20.reverse {xs:List V}{us:List Value}(h:Z20 xs us):Z20 xs.reverse us.reverse:=by
 induction h with
 |nil=>exact .nil
 |cons r t ih=>rw[Z4F,Z4F];exact Z20.append ih (.cons r .nil)
theorem Z20.rep {xs:List V}{us:List Value}(h:Z20 xs us):∀ k:Nat,Z20 (Zj k xs).flatten (Zj k us).flatten
 |0=>.nil
 |k+1=>by
  rw[Z0Z,Z0Z,Z2O,Z2O]
  exact Z20.append h (Z20.rep h k)
theorem Zhm {α:Type}(l:List α):l.eraseIdx (l.length-1)=l.dropLast:=by
 induction l with
 |nil=>rfl
 |cons a r ih =>
  cases r with
  |nil=>rfl
  |cons b r =>
   have e:(a::b::r).length-1=((b::r).length-1)+1:=by
    have h1:(a::b::r).length=r.length+2:=rfl
    have h2:(b::r).length=r.length+1:=rfl
    assumption
   rw[e,List.eraseIdx_cons_succ,ih]
   all_goals rfl
theorem foldl_rep (its:List Value):∀ (k:Nat) (acc:List Value),
  Zsx (fun x1 x2=>x1++x2) acc.toArray (Zj k its.toArray)=(acc++(Zj k its).flatten).toArray
 |0,acc=>by simp
 |k+1,acc=>by
  have e:acc.toArray++its.toArray=(acc++its).toArray:=by simp
  have e2:(acc++its)++(Zj k its).flatten=acc++(Zj (k+1) its).flatten:=by
   rw[Z0Z,Z2O,Z7]
  rw[← e2,← foldl_rep its k (acc++its),← e,Z0Z,Z3s]
section
variable {X:Cx}{pins:List (Addr×Obj)}{σ:St}{H:Hp}{s:Shared}{l b:Addr}{xs ys zs:List V}
theorem Inv.lset {its its':List Value}{n:Nat}{f:Array Value→Array Value}{t':Nat}(I:Inv X pins σ H s)(hH:H l=some (.lst xs))
  (e:s.heap.get? l=some { cls:=.type "list",data:=.seq its.toArray n }) (hf:f its.toArray=its'.toArray) (hv:Z20 ys its') (hz:ys.length≤sizeLine) :
  Inv X pins σ (upd H l (.lst ys)) { s with heap:=s.heap.update l (Z0G f),toks:=t' }:=by
 have q:=PySem.IsL.update e f
 rw[hf] at q
 refine I.write (x:=l) (e:=l) (by rw[hH];exact trivial) (.inl rfl) (fun b' u hb hu=>(Z1c s.heap (Z0G f) (Z2q hb)).trans hu) ⟨_,q⟩ ?_
 exact⟨hz,its',_,hv,q⟩
theorem Inv.lnew {its:List Value}{t':Nat}(I:Inv X pins σ H s)(hv:Z20 ys its)(hz:ys.length≤sizeLine) :
  Inv X pins σ (upd H s.heap.objs.size (.lst ys)) { s with heap:=s.heap.push { cls:=.type "list",data:=.seq its.toArray },toks:=t' } :=
 I.laid (fun _ _ q=>Z1 _ q) (Zg _) ⟨hz,its,0,hv,Zm _ rfl⟩
theorem Inv.fresh (I:Inv X pins σ H s):H s.heap.objs.size=none:=I.hok.fresh (Zg _)
theorem Inv.lstM (I:Inv X pins σ H s) (hH:H l=some (.lst xs)):xs.length≤sizeLine∧∃ (its:List Value) (n:Nat),Z20 xs its∧xs.length=its.length∧s.heap.get? l=some { cls:=.type "list",data:=.seq its.toArray n }:=by
 obtain⟨z,its,n,r,e⟩:=I.hok l _ hH
 exact⟨z,its,n,r,r.length,e⟩
theorem Zlg {n:Nat}(h:n≤sizeLine):Z9E n=false:=by
 unfold Z9E
 exact decide_eq_false (by lia)
end
section
variable {X:Cx}
noncomputable def Znk:V→List V→Hp→VK→Prop:=fun x vs H Q=>∃ l xs y,x=.ref l∧vs=[y]∧H l=some (.lst xs)∧xs.length<sizeLine∧Q .non (upd H l (.lst (xs++[y])))
theorem Zj2:MtM X "list.append" Znk:=by
 intro pins s σ H x vs v us Q I rx rv h
 obtain⟨l,xs,y,rfl,rfl,hH,hz,q⟩:=h
 cases rx
 obtain⟨u,rfl,ru⟩:=rv.one
 obtain⟨z,its,n,r,hl,e⟩:=I.lstM hH
 refine ZjD F.slot_list_append ⟨_,e,rfl⟩ F.entry_list_append (F.args_list_append_2 _ _) (PySem.list_append l its.toArray n u (by rw[Zl];lia)) ⟨e,?_⟩
 refine⟨.non,_,I.lset (its':=its++[u]) hH e (by simp) (r.append (.cons ru .nil)) ?_,rfl,q⟩
 rw[Zd,Z4N]
 assumption
noncomputable def ZsP:V→List V→Hp→VK→Prop:=fun x vs H Q=>∃ l xs y,x=.ref l∧vs=[]∧H l=some (.lst xs)∧xs[xs.length-1]?=some y∧Q y (upd H l (.lst xs.dropLast))
theorem Zqk:MtM X "list.pop" ZsP:=by
 intro pins s σ H x vs v us Q I rx rv h
 obtain⟨l,xs,y,rfl,rfl,hH,hy,q⟩:=h
 cases rx
 have hus:=rv.zero
 subst hus
 obtain⟨z,its,n,r,hl,e⟩:=I.lstM hH
 obtain⟨u,hu,ru⟩:=r.get hy
 have hy':its.toArray[its.toArray.size-1]?=some u:=by
  show its.toArray[its.length-1]?=some u
  rw[← Z0m,← hl]
  exact hu
 refine ZjD F.slot_list_pop ⟨_,e,rfl⟩ F.entry_list_pop (F.args_list_pop_1 _) (MeetsSeq.list_pop_last l its.toArray n u hy' (by rw[Zl];lia)) ⟨e,?_⟩
 refine⟨y,_,I.lset (its':=its.dropLast) hH e ?_ r.dropLast ?_,ru,q⟩
 ·show its.toArray.eraseIdxIfInBounds (its.toArray.size-1)=its.dropLast.toArray
  rw[Zl,List.eraseIdxIfInBounds_toArray,Zhm]
 ·rw[List.length_dropLast]
  lia
theorem Zjb {α:Type}(xs:List α)(k:Nat):(Zj k xs).flatten.length=k*xs.length:=by
 induction k with
 |zero=>simp
 |succ k ih=>rw[Z0Z,Z2O,Zd,ih,Z7M,Nat.add_comm]
end
end L2
namespace Att
open PySem PySem.W PySem.Calls PyProof.Rows
theorem Za5 {P:Params}{h:Heap}:∀ (ns:List Int) (vs:List Value),WellAll P h vs (ns.map Zss)→IntsAre vs ns:=by
 intro ns
 induction ns with
 |nil =>
  intro vs w
  rw[Z5Y] at w
  cases w
  exact .nil
 |cons n ns ih =>
  intro vs w
  rw[ZJ] at w
  cases w with
  |cons a b =>
   cases a
   exact .cons _ _ (ih _ b)
theorem Zi7 {l:OpenLaw}{n:Nat}(hn:l.most=some n){P:Params}{h:Heap}{args:List WData}{vals:List Value}
  (hpre:l.row.toRowW.claim.pre args=true) (hwl:WellAll P h vals args) :
  ∃ a vs ns,vals=[Z48 a]∧args=[WData.list (ns.map Zss)]∧h.get? a=some { cls:=.type "list",data:=.seq vs.toArray }∧IntsAre vs ns∧ns.length≤n:=by
 have hsh:WShape.hasAll [] args [.list .int]=true:=(pre_splitW hpre).1
 have hc:l.pre.holds [] { args:=args }=true:=(pre_splitW hpre).2
 obtain⟨d,r,rfl,h1,h2⟩:=hasAllW_cons hsh
 obtain rfl:=hasAllW_nil h2
 obtain⟨xs,rfl,h3⟩:=hasW_list h1
 obtain⟨ns,rfl⟩:=items_int h3
 have hlen:ns.length≤n:=by
  unfold OpenLaw.pre at hc
  have h4:(WTm.not (.lt (.lit (.int (n:Int))) (.len (.arg 0)))).holds [] { args:=[.list (ns.map .int)] }=true:=by
   have h4:=(holds_andW hc).1
   rw[hn] at h4
   exact h4
  have h5:=condW_of h4 (w_not (w_lt w_lit (w_len_list (w_arg rfl))))
  rw[Ze] at h5
  refine Z1D fun q=>?_
  have q':(n:Int)<((ns.length:Nat):Int):=by omega
  first
   |(rw[decide_eq_true q'] at h5;exact absurd h5 (by decide))
   |(simp at h5;omega)
 cases hwl with
 |cons w1 w2 =>
  cases w2
  cases w1 with
  |list ho hall=>exact⟨_,_,ns,rfl,rfl,ho,Za5 ns _ hall,hlen⟩
theorem Zin (l:OpenLaw)(args:List WData):l.row.toRowW.claim.post args (.bool true) args=true :=
 postW_of (r:=l.row.toRowW) (X:=(true == true))
  (show Zr5 [] (.bool true) .bool=true by first|rfl|decide|simp[Zr5,WShape.arms,WShape.armsAll])
  (show (WTm.eq .res (.lit (.bool true))).value [] { args:=args,res:=some (.bool true),after:=args }=some (.bool (true == true)) from w_eq_bool (w_res rfl) w_lit) rfl
theorem attach_call {l:OpenLaw}{n:Nat}{q:Program}{loose:List Str}{XP:(Str→Option Value)→Heap→Prop}{YP:World→Heap→Prop}{d:DefRec}
  (hn:l.most=some n) (hdf:d.params.defaults=[])
  (call:∀ (w:World) (s₀ s₁:Shared) (mg mb:Str→Option Value) (fa:Addr) (o:Obj) (pm cd doc:Value) (a:Addr) (vs:List Value) (ns:List Int),
   Ground q loose [] XP w s₀ mg mb s₁.heap→YP w s₁.heap →
   s₁.heap.get? fa=some o→o.data=.func (docDef d.name d.params d.body d.scope pm cd doc)→s₁.heap.CodeRec cd d.name→mg d.name=some (.ref fa) →
   s₁.heap.get? a=some { cls:=.type "list",data:=.seq vs.toArray }→IntsAre vs ns→ns.length≤n→s₁.gens=#[] →
   codeAny (model l.prog w) callerA (.call (.ref fa) ⟨[.ref a],[]⟩) (fun r s'=>r=.ok (.ret (.bool true))∧OldK s₁.heap s'.heap∧s'.os=s₁.os∧AllBare s'.gens) s₁) :
  WalkO q loose XP YP l.row.toRowW d [] (fun f vs=>Zk4 f vs):=by
 intro w s₀ s₁ mg mb G Y fa o pm cd doc dV kV ho hd hcd hD hmg hg args vals as hpre hlay hrd hwl hlo
 obtain rfl:dV=.none:=Dflts.none hD hdf
 obtain rfl:kV=.none:=Dflts.noKw hD
 obtain⟨a,vs,ns,rfl,rfl,hobj,hints,hlen⟩:=Zi7 hn hpre hwl
 refine enter_call (Z95 (call w s₀ s₁ mg mb fa o pm cd doc a vs ns G Y ho (fd_plain hd) hcd hmg hobj hints hlen hg) fun r s' hq=>?_)
 obtain⟨rfl,h2,h3,h4⟩:=hq
 exact⟨.inl ⟨.bool true,.bool true,[],rfl,fun _=>rfl,.bool true,Zin l _,fun _=>⟨Z2j,fun _ hm=>(nomatch hm)⟩⟩,h2,h3,h4⟩
end Att
namespace L2
open PySem PySem.Spec PyProof.Rows
theorem ZcB:∀ {vs:List Value} {ns:List Int},IntsAre vs ns→Z20 (ns.map V.int) vs
 |_,_,.nil=>.nil
 |_,_,.cons n t h=>.cons ⟨t,rfl⟩ (ZcB h)
noncomputable def Zs1 (H:Hp):Prop:=∀ b,H b=none∨∃ o xs,H b=some (.frz o (.lst xs))
theorem Zlx {P:Program}{w:World}{K:Fg_}{mg mb:Str→Option Value}{CX:CXT}{k:Nat}{fa a:Addr}{fd:Z06}{x:Str}{sp:Sp}{s₁:Shared}{vs:List Value}{ns:List Int}
  (KX:K.In s₁.heap) (hns:s₁.heap.Ns mainGlobals mg) (hb:s₁.heap.Ns builtinsNs mb) (hbb:∀ x:Str,x≠"__name__"→mb x=bootBuiltins x) (hlim:s₁.heap.NoLimit) (hg:s₁.gens=#[])
  (ha:s₁.heap.get? a=some { cls:=.type "list",data:=.seq vs.toArray }) (hi:IntsAre vs ns) (hl:ns.length≤sizeLine) (hr:Z4B k callerA)
  (F:∀ base:Heap,K.In base→base.Ns mainGlobals mg→Z4C P w K mg base CX k fa fd [x] sp) (hbind:∀ (s:Shared) (u:Value),BindsTo s fd ⟨[u],[]⟩ [(x,u)])
  (hsp:∀ H:Hp,Zs1 H→SqL K H a (ns.map V.int)→sp [.ref a] H (fun v _=>v=.bl true) fun _ _ _=>False)
  (hCX:∀ H e s',CX [] H s₁ (fun _ _ _=>False) e s'→False) :
  codeAny (model P w) callerA (.call (.ref fa) ⟨[.ref a],[]⟩) (fun r s'=>r=.ok (.ret (.bool true))∧OldK s₁.heap s'.heap∧s'.os=s₁.os∧AllBare s'.gens) s₁:=by
 have rv:=ZcB hi
 have lenV:=hi.length
 have core:∀ H:Hp,Zs1 H→SqL K H a (ns.map V.int)→HOk P w H s₁.heap→(∀ b,H b≠none→b=a)→(H a≠none→K.lookup a=none) →
   codeAny (model P w) callerA (.call (.ref fa) ⟨[.ref a],[]⟩) (fun r s'=>r=.ok (.ret (.bool true))∧OldK s₁.heap s'.heap∧s'.os=s₁.os∧AllBare s'.gens) s₁:=by
  intro H hO hS hok hA hK
  have base_of:∀ {b:Addr} {o:Obj},s₁.heap.get? b=some o→H b=none→(ZlF s₁.heap H).get? b=some o:=fun e n=>ZlE e n
  have noA:∀ {b:Addr} {o:Obj} {es:Array DictEntry} {ep:Nat},s₁.heap.get? b=some o→o.data=.dict es ep→H b=none:=fun {b o es ep} e d=>by
   cases q:H b with
   |none=>rfl
   |some u =>
    have e':b=a:=hA b (by rw[q];simp)
    subst e'
    rw[ha] at e;cases e
    have d':Ztd vs.toArray _=Data.dict es ep:=d
    cases d'
  have nsK:∀ {b:Addr} {m:Str→Option Value},s₁.heap.Ns b m→(ZlF s₁.heap H).Ns b m:=fun {b m} ⟨o,es,ep,e,d,r⟩=>⟨o,es,ep,base_of e (noA e d),d,r⟩
  have hKb:K.In (ZlF s₁.heap H):=fun b o e=>base_of (KX b o e) (by
   cases q:H b with
   |none=>rfl
   |some u =>
    have e':b=a:=hA b (by rw[q];simp)
    subst e'
    rw[hK (by rw[q];simp)] at e;cases e)
  have hM:Mod K mg (ZlF s₁.heap H):=⟨hKb,nsK hns,⟨mb,nsK hb,hbb⟩,let ⟨mc,h1,h2⟩:=hlim;⟨mc,nsK h1,h2⟩⟩
  have e0:Zrd P w K mg (ZlF s₁.heap H) callerA [] s₁ H:=⟨rfl,hM,fun b o e=>Zoe e,ZhH (Zjn _ _),trivial,fun b hb=>absurd (show b∈([]:List Addr) from hb) (by simp),hok,.of_eq hg⟩
  refine Z95 ((F _ hKb (nsK hns)).run callerA [] s₁ H ⟨[.ref a],[]⟩ [.ref a] [.ref a] _ _ hr e0 (hbind s₁ (.ref a)) (.cons rfl .nil) (hsp H hO hS)) fun r s' h=>?_
  cases r with
  |error e=>exact (hCX H e s' h).elim
  |ok fl =>
   cases fl with
   |next=>exact Z40 h
   |brk=>exact Z40 h
   |cont=>exact Z40 h
   |ret u =>
    obtain⟨v,H',os,bare,un,hok',r',q⟩:=h
    have q':v=.bl true:=q
    subst q'
    obtain rfl:u=Zea true:=r'
    refine⟨rfl,OldK.of_keep fun b o e=>?_,os,bare⟩
    cases q:H b with
    |none=>exact un.keep b o e q (by intro z;exact absurd (show b∈([]:List Addr) from z) (by simp)) (by simp)
    |some u =>
     rcases hO b with z|⟨ob,xs,z⟩
     ·rw[q] at z;cases z
     ·have z2:=un.frzs b ob _ z
      obtain⟨e1,_⟩:=hok b _ z
      obtain⟨e2,_⟩:=hok' b _ z2
      rw[e] at e1;cases e1
      exact e2
 cases hk:K.lookup a with
 |some o =>
  have e:=KX a o hk
  rw[ha] at e
  cases e
  refine core (fun _=>none) (fun _=>.inl rfl) (.inr ⟨_,vs.toArray,_,hk,rfl,rfl,rfl,by rw[Zl,lenV];exact hl,by simpa using rv⟩) (fun b u z=>by have z':(none:Option HO)=some u:=z;cases z') (fun b z=>absurd rfl z) fun z=>absurd rfl z
 |none =>
  refine core (fun b=>if b=a then some (.frz { cls:=.type "list",data:=.seq vs.toArray } (.lst (ns.map V.int))) else none) (fun b=>?_) (.inl (.inr ⟨{ cls:=.type "list",data:=.seq vs.toArray },if_pos rfl⟩)) (fun b u z=>?_) (fun b z=>?_) fun _=>hk
  ·by_cases hb:b=a
   ·exact .inr ⟨_,_,if_pos hb⟩
   ·exact .inl (if_neg hb)
  ·by_cases hb:b=a
   ·have z':=(if_pos hb).symm.trans z
    cases z'
    subst hb
    exact⟨ha,by rw[Ze];exact hl,vs,_,rv,ha⟩
   ·have z':=(if_neg hb).symm.trans z
    cases z'
  ·by_cases hb:b=a
   ·exact hb
   ·exact absurd (if_neg hb) z
noncomputable abbrev KOf {K:Fg_}{h:Heap}(_:K.In h):Fg_:=K
theorem walk_of {l:ZaE}{n k:Nat}{q:Program}{loose:List Str}{XP:(Str→Option Value)→Heap→Prop}{YP:World→Heap→Prop}{d:DefRec}{K:Params→Fg_}{CX:World→CXT}{sp:World→Sp}{x:Str}
  (hn:l.most=some n) (hn2:n≤sizeLine) (hdf:d.params.defaults=[]) (hr:Z4B k callerA)
  (hY:∀ (w:World) (h:Heap),YP w h→(K w.params).In h)
  (F:∀ (w:World) (mg:Str→Option Value) (fa:Addr) (h:Heap),(K w.params).In h→h.Ns mainGlobals mg→mg d.name=some (.ref fa) →
   ∃ fd:Z06,(∀ (s:Shared) (u:Value),BindsTo s fd ⟨[u],[]⟩ [(x,u)]) ∧
    ∀ base:Heap,(K w.params).In base→base.Ns mainGlobals mg→Z4C l.prog w (K w.params) mg base (CX w) k fa fd [x] (sp w))
  (hsp:∀ (w:World) (H:Hp) (a:Addr) (ns:List Int),ns.length≤n→Zs1 H→SqL (K w.params) H a (ns.map V.int)→sp w [.ref a] H (fun v _=>v=.bl true) fun _ _ _=>False)
  (hCX:∀ (w:World) (H:Hp) (s:Shared) (e:Value) (s':Shared),CX w [] H s (fun _ _ _=>False) e s'→False) :
  ZmR q loose XP YP l.row.toRowW d [] (fun f vs=>Zk4 f vs):=by
 refine Att.attach_call hn hdf fun w s₀ s₁ mg mb fa o pm cd doc a vs ns G Y ho hd hcd hmg hobj hints hlen hg=>?_
 have KX:=hY w _ Y
 obtain⟨fd,hb,hF⟩:=F w mg fa _ KX G.T.g hmg
 exact Zlx KX G.T.g G.T.b G.T.builtins G.T.nolimit hg hobj hints (ZR hlen hn2) hr hF hb (fun H hO hS=>hsp w H a ns hlen hO hS) fun H e s'=>hCX w H s₁ e s'
noncomputable def Z0Q (s:Stmt):Arguments:=match s with
 |.FunctionDef _ a _ _ _ _ _ _ _ _=>a
 |_=>{ posonlyargs:=[],args:=[],vararg:=none,kwonlyargs:=[],kw_defaults:=[],kwarg:=none,defaults:=[] }
noncomputable def Z0A (s:Stmt):List Stmt:=match s with
 |.FunctionDef _ _ b _ _ _ _ _ _ _=>b
 |_=>[]
noncomputable def Zt (s:Stmt):Scope:=match s with
 |.FunctionDef _ _ _ _ _ _ sc _ _ _=>sc
 |_=>{ kind:=.function,names:=[],isGenerator:=false,isCoroutine:=false }
noncomputable abbrev CX0:CXT:=fun _ _ _ _ _ _=>False
noncomputable abbrev E0:XK:=fun _ _ _=>False
theorem ZnW {X:Cx}:ZjO CX0 X E0:=fun _ _ _ _ _ _ _ h=>h.elim
structure Fun (K:Fg_)(x qual:Str)(st:Stmt)(f:Addr)(fd:Z06):Prop where
 ex:∃ (oc:Value) (od:Option Addr) (kV doc pm:Value) (an:Option Addr) (cdv ct:Value) (osl:Array (Option Value)),
  fd=ZL x qual (Z0Q st) (Z0A st) (Zt st) .none kV doc pm an cdv ct∧K.lookup f=some ⟨oc,od,.func fd,osl⟩∧ZI K cdv qual=true
 kp:ZF K (.ref f)=true
section
variable {P:Program}{w:World}{K:Fg_}{mg:Str→Option Value}{base:Heap}
theorem Fun.ok {x qual:Str}{st:Stmt}{f:Addr}{fd:Z06}{N ps:List Str}{k:Nat}{sp:Sp}(F:Fun K x qual st f fd)(S:Z0O N ps (Zt st))(len:∀ vs H Q E,sp vs H Q E→vs.length=ps.length)
  (hbody:∀ (cdv:Value) (A:Around) (outer:List Env) (s:Shared) (H:Hp) (vs:List V) (Q:VK) (E:XK),Z4B k (A.deeper (envOfC qual (Zt st) s.heap.objs.size f cdv))→sp vs H Q E →
   ∃ t,PSs (ZlR CX0 P w K mg base N qual (Zt st) f cdv A outer s H E).nox (Z0A st) t∧t { nx:=fun _ H'=>Q .non H',rt:=Q } (start N vs) H):Z4C P w K mg base CX0 (k+1) f fd ps sp:=by
 obtain⟨oc,od,kV,doc,pm,an,cdv,ct,osl,rfl,lk,hcd⟩:=F.ex
 refine ZrX lk hcd S len fun A outer s H vs Q E hr hsp=>?_
 obtain⟨t,h,q⟩:=hbody cdv A outer s H vs Q E hr hsp
 exact⟨t,h.nox,q⟩
theorem Fun.binds {x qual:Str}{st:Stmt}{f:Addr}{fd:Z06}{ps:List Str}(F:Fun K x qual st f fd)
  (h:∀ (kV doc pm:Value) (an:Option Addr) (cdv ct:Value) (us:List Value),us.length=ps.length→bindArgs (ZL x qual (Z0Q st) (Z0A st) (Zt st) .none kV doc pm an cdv ct) ⟨us,[]⟩=pure (ps.zip us)):Binds K fd ps []:=by
 obtain⟨oc,od,kV,doc,pm,an,cdv,ct,osl,rfl,lk,hcd⟩:=F.ex
 exact .all (h kV doc pm an cdv ct)
theorem Z1Z {x qual:Str}{st:Stmt}{f:Addr}{oc:Value}{od an:Option Addr}{osl:Array (Option Value)}{kV doc pm cdv ct:Value}(l:K.lookup f=some ⟨oc,od,.func (ZL x qual (Z0Q st) (Z0A st) (Zt st) .none kV doc pm an cdv ct),osl⟩)
  (c:ZI K cdv qual=true) (k:ZF K (.ref f)=true):Fun K x qual st f (ZL x qual (Z0Q st) (Z0A st) (Zt st) .none kV doc pm an cdv ct):=⟨⟨oc,od,kV,doc,pm,an,cdv,ct,osl,rfl,l,c⟩,k⟩
end
noncomputable def Z0n (H H':Hp):Prop:=∀ b o,H b=some o→H' b=some o
theorem Z0n.refl (H:Hp):Z0n H H:=fun _ _ h=>h
theorem Z0n.trans {H H1 H2:Hp}(a:Z0n H H1)(b:Z0n H1 H2):Z0n H H2:=fun c o h=>b c o (a c o h)
theorem Z0n.free {H H':Hp}(e:Z0n H H'){l:Addr}(h:H' l=ZqK):H l=ZqK:=by
 cases q:H l with
 |none=>rfl
 |some o =>
  rw[e l o q] at h
  cases h
theorem Z0n.seq {K:Fg_}{H H':Hp}{a:Addr}{xs:List V}(e:Z0n H H')(h:SqL K H a xs):SqL K H' a xs:=by
 rcases h with (h|⟨o,h⟩)|h
 ·exact .inl (.inl (e _ _ h))
 ·exact .inl (.inr ⟨o,e _ _ h⟩)
 ·exact .inr h
section
variable {X:Cx}{pins:List (Addr×Obj)}{σ:St}{H:Hp}{s:Shared}
theorem Inv.track {a:Addr}{o:HO}(I:Inv X pins σ H s)(hn:H a=none)(h0:X.s₀.heap.objs.size≤a)(hL:a≠X.env.locals)
  (hc:∀ x c,X.env.cells.lookup x=some c→c≠a) (hp:∀ p∈X.pn++pins,p.1≠a) (new:Z7E X.prog X.w (upd H a o) s.heap a o):Inv X pins σ (upd H a o) s:=by
 have sm:∀ b u,H b=some u→upd H a o b=some u:=fun b u e=>by rw[Z1S (Z3l e hn)];exact e
 have nb:∀ b,b≠a→H b=none→upd H a o b=none:=fun b hb e=>by rw[Z1S hb];exact e
 refine⟨I.ok,I.os,I.bare,⟨I.base.keep,I.base.slot,fun b ob e n hx=>?_,I.base.there,fun b xs e=>sm _ _ (I.base.tups b xs e),fun b ob u e=>sm _ _ (I.base.frzs b ob u e),fun b ps e=>?_⟩,I.loc,I.cell,nb _ (Z2q hL) I.free,fun x c e=>nb _ (hc x c e) (I.freeC x c e),fun p h=>?_,fun b u e=>?_,I.len⟩
 ·exact nb b (ZW (ZX (Zw e) h0)) (I.base.free b ob e n hx)
 ·obtain⟨more,q⟩:=I.base.tbls b ps e
  exact⟨more,sm _ _ q⟩
 ·obtain⟨e,n,r⟩:=I.pin p h
  exact⟨e,nb _ (hp p h) n,r⟩
 ·by_cases hb:b=a
  ·subst hb;rw[Z1b] at e;cases e;exact new
  ·rw[Z1S hb] at e
   exact (I.hok b u e).stay (fun _ _ _ q=>q) (fun c q=>sm _ _ q) fun c xs q=>sm _ _ q
end
noncomputable def Zrn:TT:=fun _ H Q=>Q true H
noncomputable def PIf (X:Cx)(ifs:List Expr)(t:TT):Prop :=
 ∀ (pins:List (Addr×Obj)) (s:Shared) (σ:St) (H:Hp) (Q:Bool→Hp→Prop),Inv X pins σ H s→t σ H Q →
  wpAny (model X.prog X.w) X.A (forIn ifs true fun c r=>if r=true then do let ok ← isTrue c X.env (eval c X.env);pure (Z23 ok) else pure (Z23 r)) (TP X pins σ Q) X.xe s
theorem Znx {X:Cx}:PIf X [] Zrn:=fun _ _ _ H _ I h=>wpAny_tests_nil ⟨H,I,h⟩
theorem Znw {X:Cx}{c:Expr}{t:TT}(h:PT X c t):PIf X [c] t:=fun pins s σ H Q I q=>wpAny_tests_one (h pins s σ H Q I q)
section
variable {prog:Program}{w:World}{A:Around}{R:Result→Shared→Prop}{s:Shared}
theorem Zfk {elt target iter:Expr}{ifs:List Expr}{scope:Scope}{pos:Pos}{it acc:Value}{env:Env}(I:Nat→Shared→Prop)
  (turn:∀ n s,I n s→wpAny (model prog w) A (pyNext it) (fun r s₁=>match r with
   |none=>R (.ok .next) s₁
   |some v=>wpAny (model prog w) A (letOwnedTupleGo target it v) (fun _ s₀=>wpAny (model prog w) A (assign target env v) (fun _ s₂ =>
     wpAny (model prog w) A (forIn ifs true fun c r=>if r=true then do let ok ← isTrue c env (eval c env);pure (Z23 ok) else pure (Z23 r)) (fun ok s₃ =>
      if ok=true then wpAny (model prog w) A (eval elt env) (fun x s₄ =>
       wpAny (model prog w) A (call (.builtin "list.append") [acc,x]) (fun _ s₅=>∃ m,m<n∧I m s₅) (fun _ _=>False) s₄) (fun _ _=>False) s₃
      else ∃ m,m<n∧I m s₃) (fun _ _=>False) s₂) (fun _ _=>False) s₀) (fun _ _=>False) s₁) (fun _ _=>False) s)
  (n:Nat) (h:I n s) :
  codeAny (model prog w) A (.compLoop (.ListComp elt [⟨target,iter,ifs,0⟩] scope pos) 0 it acc env) R s:=by
 refine codeAny_loop rfl I (fun n s hI=>?_) n h
 show wpAny _ A ((compTurn (.ListComp elt [⟨target,iter,ifs,0⟩] scope pos) 0 it acc env).onRaise (fun x=>do noteFrame x env;theTreesLotGoes x)) _ _ s
 refine wpAny_noted ?_
 rw[compTurn_list]
 refine Z0 (Zt4 (Z0 (Z1k (turn n s hI) (fun r s₁ h₁=>?_) fun _ _ f=>f.elim)))
 cases r with
 |none=>exact Za h₁
 |some v =>
  refine Z0 (Z1k h₁ (fun _ s₀ h₀=>?_) fun _ _ f=>f.elim)
  refine Z0 (Z1k h₀ (fun _ s₂ h₂=>Z0 (Z1k h₂ (fun ok s₃ h₃=>?_) fun _ _ f=>f.elim)) fun _ _ f=>f.elim)
  cases ok with
  |false=>exact Za ⟨rfl,h₃⟩
  |true =>
   exact Z0 (Z0 (Z1k h₃ (fun x s₄ h₄=>Z0 (Z1k h₄ (fun _ s₅ h₅=>Za (Za ⟨rfl,h₅⟩)) fun _ _ f=>f.elim)) fun _ _ f=>f.elim))
end
noncomputable def cxC (X:Cx)(ts:List Str)(scope:Scope)(cl:List (Str×Addr))(s₂:Shared)(H1:Hp)(C:Addr)(fp:List Addr):Cx :=
 { X with N:=ts++X.N,s₀:=s₂,H₀:=H1,env:=compEnvC scope cl C X.env,outer:=X.stack,stack:=X.stack,ex:=fp,fn:=fun _=>false,pn:=[],xe:=fun _ _=>False }
structure Z1N (X:Cx)(ts:List Str)(scope:Scope):Prop where
 kind:scope.kind=.function
 cell:∀ y∈scope.names,y.2≠.cell
 names:∀ y∈scope.names,y.2=.local→scope.names.lookup y.1=some .local
 free:∀ y∈scope.names,y.2=.free→X.env.kindOf y.1=some .cell∨X.env.kindOf y.1=some .free
 own:∀ y∈X.N,scope.names.lookup y≠some .local
structure Z8f (X:Cx)(scope:Scope)(cl:List (Str×Addr)):Prop where
 sub:∀ x c,cl.lookup x=some c→X.env.cells.lookup x=some c
 has:∀ x,scope.names.lookup x=some .free→∃ c,cl.lookup x=some c
theorem Zhp {env:Env}(has:∀ x,(env.kindOf x=some .cell∨env.kindOf x=some .free)→∃ c,env.cells.lookup x=some c)(scope:Scope)
  (hfr:∀ y∈scope.names,y.2=.free→env.kindOf y.1=some .cell∨env.kindOf y.1=some .free) :
  ∃ cl,closureFor scope env=pure cl∧(∀ x c,cl.lookup x=some c→env.cells.lookup x=some c)∧(∀ y∈scope.names,y.2=.free→∃ c,cl.lookup y.1=some c):=by
 have main:∀ (l:List (Str×Z2r)) (acc:List (Str×Addr)),(∀ y∈l,y.2=.free→env.kindOf y.1=some .cell∨env.kindOf y.1=some .free)→(∀ x c,acc.lookup x=some c→env.cells.lookup x=some c) →
   ∃ cl,(forIn l acc fun (x:Str×Z2r) (cs:List (Str×Addr))=>if (x.2 == Z3n)=true then do let a ← cellOf env x.1;pure (Z23 ((x.1,a)::cs)) else pure (Z23 cs))=(pure cl:Sem (List (Str×Addr))) ∧
    (∀ x c,cl.lookup x=some c→env.cells.lookup x=some c)∧(∀ x c,acc.lookup x=some c→∃ c',cl.lookup x=some c')∧(∀ y∈l,y.2=.free→∃ c,cl.lookup y.1=some c):=by
  intro l
  induction l with
  |nil=>intro acc _ h;exact⟨acc,rfl,h,fun x c e=>⟨c,e⟩,fun _ z=>nomatch z⟩
  |cons y l ih =>
   intro acc hl ha
   obtain⟨n,k⟩:=y
   by_cases hk:k=.free
   ·subst hk
    obtain⟨c,hc⟩:=has n (hl (n,.free) Z4 rfl)
    obtain⟨cl,e,h1,h2,h3⟩:=ih ((n,c)::acc) (fun y hy=>hl y (Z9 _ hy)) (fun x d e=>by
     rw[Z11] at e
     cases q:x == n with
     |true=>rw[q] at e;rw[eq_of_beq q];cases e;exact hc
     |false=>rw[q] at e;exact ha x d e)
    have hcell:cellOf env n=pure c:=by unfold cellOf;rw[hc]
    refine⟨cl,?_,h1,fun x d e=>?_,fun y hy hf=>?_⟩
    ·rw[Z5v]
     simp only[beq_self_eq_true,if_true,hcell,pure_bind]
     exact e
    ·cases q:x == n with
     |true=>exact h2 x c (by rw[Z11,q])
     |false=>exact h2 x d (by rw[Z11,q];exact e)
    ·rcases Zi.mp hy with rfl|hy
     ·exact h2 n c (by simp[Z11])
     ·exact h3 y hy hf
   ·obtain⟨cl,e,h1,h2,h3⟩:=ih acc (fun y hy=>hl y (Z9 _ hy)) ha
    refine⟨cl,?_,h1,h2,fun y hy hf=>?_⟩
    ·rw[Z5v]
     have hb:(k == Z3n)=false:=by simpa using hk
     simp only[hb,Zu,if_false,pure_bind]
     exact e
    ·rcases Zi.mp hy with rfl|hy
     ·exact absurd hf hk
     ·exact h3 y hy hf
 obtain⟨cl,e,h1,_,h3⟩:=main scope.names [] hfr (fun x c e=>by simp at e)
 refine⟨cl,?_,h1,h3⟩
 unfold closureFor
 first
  |(simp only[bind_pure];exact e)
  |(rw[show (forIn scope.names [] _:Sem (List (Str×Addr)))=pure cl from e];rfl)
theorem Z1d {env:Env}:∀ {names:List (Str×Z2r)} {x:Str} {k:Z2r},
  (names.map fun (n,k)=>if (k == Z3n&&env.scope.kind == .function&&env.kindOf n == some .cell) then (n,Z8e) else (n,k)).lookup x=some k →
  names.lookup x=some k∨(k=.cell∧names.lookup x=some .free)
 |[],_,_,h=>by simp at h
 |(n,j)::r,x,k,h=>by
  have ih:=@Z1d env r x k
  have h':Zs6 x ((if (j == Z3n&&env.scope.kind == .function&&env.kindOf n == some .cell)=true then (n,Z8e) else (n,j)) ::
   (r.map fun (n,k)=>if (k == Z3n&&env.scope.kind == .function&&env.kindOf n == some .cell) then (n,Z8e) else (n,k)))=some k:=h
  cases hx:x == n with
  |true =>
   by_cases hc:(j == Z3n&&env.scope.kind == .function&&env.kindOf n == some .cell)=true
   ·rw[if_pos hc] at h'
    simp only[Z11,hx] at h'
    cases h'
    refine .inr ⟨rfl,?_⟩
    simp only[Z0a,beq_iff_eq] at hc
    simp[Z11,hx,hc.1.1]
   ·rw[if_neg hc] at h'
    simp only[Z11,hx] at h'
    cases h'
    exact .inl (by simp[Z11,hx])
  |false =>
   have e:Zs6 x (r.map fun (n,k)=>if (k == Z3n&&env.scope.kind == .function&&env.kindOf n == some .cell) then (n,Z8e) else (n,k))=some k:=by
    by_cases hc:(j == Z3n&&env.scope.kind == .function&&env.kindOf n == some .cell)=true
    ·rw[if_pos hc] at h';simp only[Z11,hx] at h';exact h'
    ·rw[if_neg hc] at h';simp only[Z11,hx] at h';exact h'
   rcases ih e with q|⟨q1,q2⟩
   ·exact .inl (by simp only[Z11,hx];exact q)
   ·exact .inr ⟨q1,by simp only[Z11,hx];exact q2⟩
section
variable {X:Cx}{pins:List (Addr×Obj)}{σ:St}{H1:Hp}{s₂:Shared}{ts:List Str}{scope:Scope}{cl:List (Str×Addr)}{fp:List Addr}{C:Addr}
theorem Inv.fpLt {tg:Expr}{J:It}{it:Addr}{tn:Nat→Heap→Prop}(T:Zk3 X.prog X.w X.K tg J fp it tn){i:Nat}{h:Heap}(st:tn i h):∀ b∈fp,b<h.objs.size:=fun b hb=>by
 obtain⟨o,e,_⟩:=T.obj i h st b hb
 exact Zw e
theorem ZqE (I2:Inv X pins σ H1 s₂)(S:Z1N X ts scope)(L:Z8f X scope cl)(hf:∀ b∈fp,Zfy X pins H1 b)(hlt:∀ b∈fp,b<s₂.heap.objs.size)(hC:s₂.heap.objs.size≤C) :
  (cxC X ts scope cl s₂ H1 C fp).Ok where
 mod:=I2.ok.mod
 kind:=S.kind
 glob:=I2.ok.glob
 blt:=I2.ok.blt
 above:=hC
 inj:=fun x y c h1 h2=>I2.ok.inj x y c (L.sub x c h1) (L.sub y c h2)
 has:=fun x hx=>by
  have hx':(relabel scope X.env).names.lookup x=some .cell∨(relabel scope X.env).names.lookup x=some .free:=hx
  have key:scope.names.lookup x=some .free:=by
   rcases hx' with q|q
   ·rcases Z1d q with z|⟨_,z⟩
    ·exact absurd rfl (S.cell _ (Z1j z))
    ·exact z
   ·rcases Z1d q with z|⟨z,_⟩
    ·exact z
    ·cases z
  exact L.has x key
 cab:=fun x c h=>by cases h
 hd:=I2.ok.hd
 frames:=I2.ok.frames
 stk:=.inl rfl
 exf:=fun b hb=>⟨ZW (ZX (hlt b hb) hC),fun x c e=>(hf b hb).2.2.2.2.1 x c (L.sub x c e)⟩
 bs:=I2.bs
 bsz:=ZR I2.ok.bsz I2.sz
 noex:=fun b o e hb=>by
  rcases (hf b hb).2.2.2.1 with z|z
  ·exact I2.ok.noex b o e z
  ·exact absurd (ZX (Zw e) (ZR I2.ok.bsz z)) (Z1Q _)
 exfs:=fun b hb hz=>by
  rcases Zi.mp (I2.stkSub b hz) with z|z
  ·exact (hf b hb).2.1 z
  ·exact (hf b hb).2.2.1 z
 funs:=I2.stack
 frf:=I2.stkFree
theorem ZoD {h₁:Heap}{t₁:Nat}{m:Str→Option Value}(I2:Inv X pins σ H1 s₂)(S:Z1N X ts scope)(L:Z8f X scope cl)(hf:∀ b∈fp,Zfy X pins H1 b)(hlt:∀ b∈fp,b<s₂.heap.objs.size)
  (hC:s₂.heap.objs.size≤C) (old:∀ b o,s₂.heap.get? b=some o→h₁.get? b=some o) (hn:h₁.Ns C m) :
  Inv (cxC X ts scope cl s₂ H1 C fp) [] (Zj ts.length none++σ) H1 { s₂ with heap:=h₁,toks:=t₁ } where
 ok:=ZqE I2 S L hf hlt hC
 os:=rfl
 bare:=I2.bare
 base:=Un.kept old
 loc:=by
  refine⟨m,hn,fun i x v h1 h2 h3=>?_⟩
  have hi:ts.length≤i:=by
   by_cases hi:i<ts.length
   ·rw[Z00 (by simpa using hi),Z15,if_pos hi] at h2
    cases h2
   ·exact Z1D (by assumption)
  rw[ZC (by simpa using hi),Z1o] at h2
  have h1':(ts++X.N)[i]?=some x:=h1
  rw[ZC hi] at h1'
  have hxN:x∈X.N:=Z01 h1'
  have hv:(relabel scope X.env).names.lookup x=some .local∨(relabel scope X.env).names.lookup x=some .cell∨(relabel scope X.env).names.lookup x=some .free:=h3
  have key:scope.names.lookup x=some .free:=by
   rcases hv with q|q|q
   ·rcases Z1d q with z|⟨z,_⟩
    ·exact absurd z (S.own x hxN)
    ·cases z
   ·rcases Z1d q with z|⟨_,z⟩
    ·exact absurd rfl (S.cell _ (Z1j z))
    ·exact z
   ·rcases Z1d q with z|⟨z,_⟩
    ·exact z
    ·cases z
  have kk:X.env.kindOf x=some .cell∨X.env.kindOf x=some .free:=S.free _ (Z1j key) rfl
  obtain⟨mX,_,hl⟩:=I2.loc
  obtain⟨u,r,lk⟩:=hl (i-ts.length) x v h1' h2 (kk.elim (fun z=>.inr (.inl z)) fun z=>.inr (.inr z))
  refine⟨u,r,.inr ⟨?_,?_⟩⟩
  ·rcases hv with q|q
   ·rcases Z1d q with z|⟨z,_⟩
    ·exact absurd z (S.own x hxN)
    ·cases z
   ·exact q
  ·obtain⟨c,hc⟩:=L.has x key
   refine⟨c,hc,?_⟩
   rcases lk with ⟨z,_⟩|⟨_,c',e',o,ho,hd⟩
   ·rcases kk with k|k <;> (rw[z] at k;cases k)
   ·have e2:=L.sub x c hc
    rw[e2] at e'
    cases e'
    exact⟨o,old _ _ ho,hd⟩
 cell:=fun x c e=>by
  obtain⟨v,o,ho,hd⟩:=I2.cell x c (L.sub x c e)
  exact⟨v,o,old _ _ ho,hd⟩
 free:=I2.hok.fresh hC
 freeC:=fun x c e=>I2.freeC x c (L.sub x c e)
 pin:=fun p hp=>absurd (show p∈([]:List (Addr×Obj)) from hp) (by simp)
 hok:=I2.hok.kept old
 len:=by
  show _=(ts++X.N).length
  rw[Zd,Zd,Z1o,I2.len]
theorem ZjH {pins':List (Addr×Obj)}{σ':St}{H':Hp}{s':Shared}{h':Heap}(I2:Inv X pins σ H1 s₂)(hf:∀ b∈fp,Zfy X pins H1 b)(hC:s₂.heap.objs.size≤C)
  (Ic:Inv (cxC X ts scope cl s₂ H1 C fp) pins' σ' H' s') (hs:Z0K C s'.heap h'):Inv X pins σ H' { s' with heap:=h' }:=by
 have nC:∀ b o,s₂.heap.get? b=some o→b≠C:=fun b o e=>ZW (ZX (Zw e) hC)
 have u:=Ic.base
 have un:Un (frs X.stack) fp H1 H' s₂.heap h' :=
  ⟨fun b o e n hb hx=>(hs.2 b (nC b o e)).trans (u.keep b o e n hb hx),fun b o e n hb hx=>by
    obtain⟨sl,q⟩:=u.slot b o e n hb hx
    exact⟨sl,(hs.2 b (nC b o e)).trans q⟩,u.free,fun b o e hx=>by
    obtain⟨o',q⟩:=u.there b o e hx
    exact⟨o',(hs.2 b (nC b o e)).trans q⟩,u.tups,u.frzs,u.tbls⟩
 have hok:HOk X.prog X.w H' h':=fun b o e=>by
  have nb:∀ c w,H' c=some w→c≠C:=fun c w q z=>by
   have:H' C=none:=Ic.free
   rw[z,this] at q;cases q
  refine (Ic.hok b o e).stay (fun c w' hc q=>(hs.2 c ?_).trans q) (fun _ q=>q) fun _ _ q=>q
  rcases hc with rfl|hc
  ·exact nb _ _ e
  ·exact nb _ _ hc
 exact I2.call' (s':={ s' with heap:=h' }) (ch:=fp) (show s'.os=s₂.os from Ic.os) un hok Ic.bare fun b hb =>
  let ⟨_,f1,_,f3,f4,f5⟩:=hf b hb
  ⟨f3,f1,f4,f5⟩
end
noncomputable abbrev Zhb (its:List Value) (k:Nat):Obj:={ cls:=.type "list",data:=.seq its.toArray k }
theorem Zbn {X:Cx}{pins:List (Addr×Obj)}{σ:St}{H1:Hp}{s₂:Shared}{ts:List Str}{scope:Scope}{cl:List (Str×Addr)}{fp:List Addr}{elt tg iter:Expr}{ifs:List Expr}{pos:Pos}{g:TG}{tt:TT}{te:TE}{J:It}{it:Addr}
  {tn:Nat→Heap→Prop} {E:Value→Shared→Prop} {RR:Value→Addr→Result→Shared→Prop} {Fin:List V→Hp→Prop}
  (I2:Inv X pins σ H1 s₂) (hc:X.calm=true) (T:Zk3 X.prog X.w X.K tg J fp it tn) (st:tn 0 s₂.heap) (hf:∀ b∈fp,Zfy X pins H1 b) (S:Z1N X ts scope) (L:Z8f X scope cl)
  (hg:∀ C,PG (cxC X ts scope cl s₂ H1 C fp) tg g) (ht:∀ C,PIf (cxC X ts scope cl s₂ H1 C fp) ifs tt) (he:∀ C,PE (cxC X ts scope cl s₂ H1 C fp) elt te)
  (W:Nat→Nat→List V→Hp→Prop) (w0:∃ m,W 0 m [] H1)
  (turn:∀ i m ys H,W i m ys H→ys.length≤sizeLine∧((J.stop i H∧Fin ys H)∨(J.go i H∧∀ x H',J.yld i H x H'→g x (Zj ts.length none++σ) H' fun σ2 H2=>(σ2.length=ts.length+σ.length∧σ2.drop ts.length=σ) ∧
   tt σ2 H2 fun c H3=>if c=true then te σ2 H3 fun y H4=>∃ m',m'<m∧W (i+1) m' (ys++[y]) H4 else ∃ m',m'<m∧W (i+1) m' ys H3)))
  (hRR:∀ C D s' H' ys its k σ' m',s₂.heap.objs.size≤D→s₂.heap.objs.size≤C→D≠C→Inv (cxC X ts scope cl s₂ H1 C fp) [] σ' H' s'→s'.heap.Ns C m'→s'.heap.get? D=some (Zhb its k)→Z20 ys its→ys.length≤sizeLine→H' D=none→Fin ys H'→RR (.ref D) C (.ok .next) s') :
  wpAny (model X.prog X.w) X.A (newList []) (fun acc s₃=>wpAny (model X.prog X.w) X.A (newFunctionEnv scope X.env.globals cl [] X.env.qual none .none (some X.env)) (fun cenv s₄ =>
   codeAny (model X.prog X.w) X.A (.compStart (.ListComp elt [⟨tg,iter,ifs,0⟩] scope pos) 0 (.ref it) acc { cenv with scope:=relabel scope X.env }) (RR acc cenv.locals) s₄) E s₃) E s₂:=by
 refine Z0J (wpAny_newFunctionEnv S.cell (by intro y hy;simp at hy) (fun h₁ hns₁ hsb₁=>?_) S.kind)
 dsimp only at hns₁ hsb₁ ⊢
 generalize hH2:s₂.heap.push { cls:=.type "list",dict:=none,data:=.seq ([]:List Value).toArray }=H2 at hns₁ hsb₁ ⊢
 have hCs:H2.objs.size=s₂.heap.objs.size+1:=by rw[← hH2,Z1P]
 have hDC:s₂.heap.objs.size≠H2.objs.size:=by rw[hCs];exact ZW (Z3Z _)
 have hC:s₂.heap.objs.size≤H2.objs.size:=by rw[hCs];exact Z2z _
 have below:∀ b,b<s₂.heap.objs.size→b≠H2.objs.size∧b≠s₂.heap.objs.size:=fun b hb=>⟨by rw[hCs];exact ZW (Z2e hb),ZW hb⟩
 have old:∀ b o,s₂.heap.get? b=some o→h₁.get? b=some o:=fun b o e=>hsb₁.extBut b o (below b (Zw e)).1 (Z1 _ (hH2 ▸ Z1 _ e))
 have hacc:h₁.get? s₂.heap.objs.size=some (Zhb [] 0):=hsb₁.extBut _ _ hDC (Z1 _ (hH2 ▸ Zm _ rfl))
 have hlt:∀ b∈fp,b<s₂.heap.objs.size:=Inv.fpLt T st
 have st1:tn 0 h₁:=T.keep _ _ _ st fun b _ o e=>old b o e
 generalize hCC:H2.objs.size=C at *
 generalize hDD:s₂.heap.objs.size=D at *
 have fpD:∀ b∈fp,b≠D:=fun b hb=>(below b (hlt b hb)).2
 have cellD:∀ x c,cl.lookup x=some c→c≠D:=fun x c e=>by
  obtain⟨v,q⟩:=I2.cell x c (L.sub x c e)
  exact (below c (hDD ▸ q.lt)).2
 have stat:∀ {pins':List (Addr×Obj)} {H':Hp},(∀ p∈pins',p.1∉fp)→(∀ b∈fp,H' b=none)→∀ b∈fp,Zfy (cxC X ts scope cl s₂ H1 C fp) pins' H' b:=fun {pins' H'} hp hn b hb=>by
  refine⟨hn b hb,(below b (hlt b hb)).1,fun hz=>?_,.inl hb,fun x c e=>(hf b hb).2.2.2.2.1 x c (L.sub x c e),fun p hpp z=>?_⟩
  ·rcases Zi.mp (I2.stkSub b hz) with z|z
   ·exact (hf b hb).2.1 z
   ·exact (hf b hb).2.2.1 z
  ·exact hp p (by simpa [cxC] using hpp) (z ▸ hb)
 obtain⟨m0,w0⟩:=w0
 have nDfs:D∉frs X.stack:=fun hz=>by
  rcases Zi.mp (I2.stkSub D hz) with z|z
  ·exact (below _ (hDD ▸ I2.lt)).2 z.symm
  ·exact I2.nofs (hDD ▸ Zg _) z
 have loop:∀ s₃:Shared,s₃={ s₂ with heap:=h₁,toks:=s₂.toks+([]:List (Str×Value)).length } →
   codeAny (model X.prog X.w) X.A (.compLoop (.ListComp elt [⟨tg,iter,ifs,0⟩] scope pos) 0 (.ref it) (.ref D) (compEnvC scope cl C X.env)) (RR (.ref D) C) s₃:=by
  rintro s₃ rfl
  refine Zfk (fun n s'=>∃ i ys its k H',Inv (cxC X ts scope cl s₂ H1 C fp) [] (Zj ts.length none++σ) H' s'∧tn i s'.heap∧(∀ b∈fp,H' b=none)∧s'.heap.get? D=some (Zhb its k)∧Z20 ys its∧H' D=none∧W i n ys H') ?_ m0
   ⟨0,[],[],0,H1,ZoD I2 S L hf (fun b hb=>hDD ▸ hlt b hb) (hDD ▸ hC) old hns₁,st1,fun b hb=>(hf b hb).1,hacc,.nil,I2.hok.fresh (hDD ▸ Zg _),w0⟩
  rintro n s3 ⟨i,ys,its,k,H3,I3,st3,fr3,hD3,rv3,nD3,w3⟩
  have pinD:∀ {σ':St} {H':Hp} {s':Shared},Inv (cxC X ts scope cl s₂ H1 C fp) [] σ' H' s'→s'.heap.get? D=some (Zhb its k)→H' D=none→Inv (cxC X ts scope cl s₂ H1 C fp) [(D,Zhb its k)] σ' H' s':=fun I e n=>I.pins_of fun p hp=>by
   have:p=(D,Zhb its k):=by simpa using hp
   subst this
   exact⟨e,n,hDC,nDfs,fun v z=>by cases z⟩
  have I3':=pinD I3 hD3 nD3
  have pfp:∀ p∈[(D,Zhb its k)],p.1∉fp:=fun p hp hz=>by
   have:p=(D,Zhb its k):=by simpa using hp
   subst this
   exact fpD D hz rfl
  obtain⟨hz,alt⟩:=turn i n ys H3 w3
  rcases alt with ⟨stop,fin⟩|⟨go,step⟩
  ·refine thn (T.done (cxC X ts scope cl s₂ H1 C fp) rfl rfl rfl hc i _ s3 _ H3 _ I3' (stat pfp fr3) st3 stop) fun r s4 z1_=>?_
   obtain ⟨hr,I4⟩:=z1_
   subst hr
   obtain⟨e4,n4,_⟩:=I4.pin (D,Zhb its k) (ZH _ Z4)
   obtain⟨m4,hn4,_⟩:=I4.loc
   exact hRR C D s4 H3 ys its k _ m4 (hDD ▸ Zg _) (hDD ▸ hC) hDC (I4.pins_of fun p hp=>nomatch hp) hn4 e4 rv3 hz n4 fin
  ·refine thn (T.item (cxC X ts scope cl s₂ H1 C fp) rfl rfl rfl hc i _ s3 _ H3 _ I3' (stat pfp fr3) st3 go) fun r s4 z1_=>?_
   obtain ⟨u,hr,h4⟩:=z1_
   subst hr
   refine thn h4 fun _ s5 z1_=>?_
   obtain ⟨x,H5,I5,r5,y5,st5,fr5⟩:=z1_
   have I5':=I5.pinned (stat pfp fr5) (T.obj _ _ st5)
   refine thn (hg C _ s5 _ H5 x u _ I5' r5 (step x H5 y5)) fun _ s6 z1_=>?_
   obtain ⟨σ6,H6,I6,⟨hl6,hd6⟩,q6⟩:=z1_
   have wk:∀ {pins':List (Addr×Obj)} {H':Hp} {s':Shared},Inv (cxC X ts scope cl s₂ H1 C fp) pins' σ6 H' s'→Inv (cxC X ts scope cl s₂ H1 C fp) pins' (Zj ts.length none++σ) H' s':=fun I=>I.weak (by rw[Zd,Z1o];exact hl6.symm) fun j v e=>by
    by_cases hj:j<ts.length
    ·rw[Z00 (by simpa using hj),Z15,if_pos hj] at e
     cases e
    ·rw[ZC (by simpa using hj),Z1o,← hd6,Zk8] at e
     rw[show ts.length+(j-ts.length)=j by omega] at e
     exact e
   have tnK:∀ {σ7:St} {H7:Hp} {s7:Shared},Inv (cxC X ts scope cl s₂ H1 C fp) ([(D,Zhb its k)]++Zd4 fp s5.heap) σ7 H7 s7→tn (i+1) s7.heap∧(∀ b∈fp,H7 b=none)∧s7.heap.get? D=some (Zhb its k)∧H7 D=none:=fun {σ7 H7 s7} I7=>by
    refine⟨T.keep _ _ _ st5 fun b hb o e=>(I7.pin (b,o) (ZH _ (ZH _ (Z77 hb e)))).1,fun b hb=>?_,?_⟩
    ·obtain⟨o,e,d⟩:=T.obj _ _ st5 b hb
     exact (I7.pin (b,o) (ZH _ (ZH _ (Z77 hb e)))).2.1
    ·obtain⟨e,n,_⟩:=I7.pin (D,Zhb its k) (ZH _ (Z08 _ Z4))
     exact⟨e,n⟩
   refine thn (ht C _ s6 σ6 H6 _ I6 q6) fun ok s7 z1_=>?_
   obtain ⟨H7,I7,q7⟩:=z1_
   cases ok with
   |false =>
    obtain⟨m',hm,w7⟩:=q7
    obtain⟨t7,f7,e7,n7⟩:=tnK I7
    exact⟨m',hm,i+1,ys,its,k,H7,(wk I7).pins_of (fun p hp=>(nomatch hp)),t7,f7,e7,rv3,n7,w7⟩
   |true =>
    refine thn (he C _ s7 σ6 H7 _ I7 q7) fun z s8 z1_=>?_
    obtain ⟨y,H8,I8,ry,m',hm,w8⟩:=z1_
    obtain⟨t8,f8,e8,n8⟩:=tnK I8
    have hzi:its.length≤sizeLine:=by rw[← rv3.length];exact hz
    refine append_at e8 (fun h9 hs9 hD9=>?_) (by rw[Zl];exact hzi)
    have I9:Inv (cxC X ts scope cl s₂ H1 C fp) [] (Zj ts.length none++σ) H8 { s8 with heap:=h9 } :=
     ((wk I8).pins_of (pins':=[]) fun p hp=>nomatch hp).turned (t':=s8.toks) (fun b o hb e=>(hs9.2 b hb).trans e) n8 hDC (.inr (hDD ▸ Zg _)) cellD (fun p hp=>absurd (show p∈([]:List (Addr×Obj)) from hp) (by simp))
    refine⟨m',hm,i+1,ys++[y],its++[z],k+1,H8,I9,T.keep _ _ _ t8 fun b hb o e=>(hs9.2 b (fpD b hb)).trans e,f8,?_,rv3.append (.cons ry .nil),n8,w8⟩
    rw[hD9]
    show some ({ cls:=.type "list",data:=.seq (its.toArray.push z) (k+1) }:Obj)=some { cls:=.type "list",data:=.seq (its++[z]).toArray (k+1) }
    rw[Zm3]
 exact codeAny_compStart_list (loop _ rfl) (T.self _ 0 _ _ _ st1 (loop _ rfl))
noncomputable def ZmH {α:Type}:Option Nat→List (Option α)→List (Option α)
 |none,l=>l
 |some j,l=>l.set j none
noncomputable def ZsY:Option Nat→List Str→List Str
 |none,N=>N
 |some j,N=>N.set j ""
noncomputable def Cx.hid (X:Cx)(m:Option Nat):Cx:={ X with N:=ZsY m X.N }
theorem Inv.nm {X:Cx}{pins:List (Addr×Obj)}{σ σ':St}{H:Hp}{s:Shared}{N':List Str}(I:Inv X pins σ H s)(hl:σ'.length=N'.length)(h:∀ (i:Nat) (x:Str) (v:V),N'[i]?=some x→σ'[i]?=some (some v)→X.N[i]?=some x∧σ[i]?=some (some v)) :
  Inv { X with N:=N' } pins σ' H s :=
 let k:=I.ok
 ⟨⟨k.mod,k.kind,k.glob,k.blt,k.above,k.inj,k.has,k.cab,k.hd,k.frames,k.stk,k.exf,k.bs,k.bsz,k.noex,k.exfs,k.funs,k.frf⟩,I.os,I.bare,I.base,let ⟨m,hn,hl'⟩:=I.loc;⟨m,hn,fun i x v e1 e2 e3=>let ⟨f1,f2⟩:=h i x v e1 e2;hl' i x v f1 f2 e3⟩,I.cell,I.free,I.freeC,I.pin,I.hok,hl⟩
theorem Inv.hid {X:Cx}{pins:List (Addr×Obj)}{σ:St}{H:Hp}{s:Shared}(I:Inv X pins σ H s):∀ m:Option Nat,Inv (X.hid m) pins (ZmH m σ) H s
 |none=>I
 |some j=>I.nm (by show (σ.set j none).length=(X.N.set j "").length;rw[Z1f,Z1f];exact I.len) fun i x v e1 e2=>by
  have e1:(X.N.set j "")[i]?=some x:=e1
  have e2:(σ.set j none)[i]?=some (some v):=e2
  by_cases z:j=i
  ·subst z
   by_cases q:j<σ.length
   ·rw[ZG q] at e2;cases e2
   ·rw[Z3r (by rw[Z1f];exact Z1D (by assumption))] at e2;cases e2
  ·rw[Zn z] at e1 e2
   exact⟨e1,e2⟩
noncomputable def Zp8 (k:Nat)(g:TG)(tt:TT)(te:TE)(σ:St)(Q:VK)(J:It)(H1:Hp):Prop:=∃ W:Nat→Nat→List V→Hp→Prop,(∃ m,W 0 m [] H1) ∧
 ∀ i m ys H,W i m ys H→ys.length≤sizeLine∧((J.stop i H∧∀ D,H D=none→Q (.ref D) (upd H D (.lst ys)))∨(J.go i H∧∀ x H',J.yld i H x H'→g x (Zj k none++σ) H' fun σ2 H2=>(σ2.length=k+σ.length∧σ2.drop k=σ) ∧
   tt σ2 H2 fun c H3=>if c=true then te σ2 H3 fun y H4=>∃ m',m'<m∧W (i+1) m' (ys++[y]) H4 else ∃ m',m'<m∧W (i+1) m' ys H3))
noncomputable def Zn9 (k:Nat)(wi:TI)(g:TG)(tt:TT)(te:TE):TE:=fun σ H Q=>wi σ H (Zp8 k g tt te σ Q)
noncomputable def Zme (m:Option Nat)(k:Nat)(wi:TI)(g:TG)(tt:TT)(te:TE):TE:=fun σ H Q=>wi σ H (Zp8 k g tt te (ZmH m σ) Q)
theorem Z1N.cells {X:Cx}{ts:List Str}{scope:Scope}{env:Env}(S:Z1N X ts scope)(ok:X.Ok):∃ cl,closureFor scope X.env=pure cl∧Z8f X scope cl:=by
 obtain⟨cl,e,h1,h2⟩:=Zhp ok.has scope S.free
 exact⟨cl,e,h1,fun x hx=>h2 _ (Z1j hx) rfl⟩
theorem ZkR {X:Cx}{m:Option Nat}{ts:List Str}{scope:Scope}{elt tg iter:Expr}{ifs:List Expr}{pos:Pos}{wi:TI}{g:TG}{tt:TT}{te:TE}(hc:X.calm=true)(S:Z1N (X.hid m) ts scope)(hi:PI X tg iter wi)
  (hg:∀ cl s₂ H1 C fp,PG (cxC (X.hid m) ts scope cl s₂ H1 C fp) tg g) (ht:∀ cl s₂ H1 C fp,PIf (cxC (X.hid m) ts scope cl s₂ H1 C fp) ifs tt) (he:∀ cl s₂ H1 C fp,PE (cxC (X.hid m) ts scope cl s₂ H1 C fp) elt te)
  (hs:∀ x,foldedSetIterable iter X.env x=pure x:=by intro _;rfl) :
  PE X (.ListComp elt [⟨tg,iter,ifs,0⟩] scope pos) (Zme m ts.length wi g tt te):=by
 intro pins s σ H Q I h
 rw[eval_ListComp]
 obtain⟨cl,hcl,L⟩:=S.cells (env:=X.env) (I.hid m).ok
 refine ZhP (use:=none) rfl hs hcl S.kind S.names (Z1k (hi pins s σ H _ I h) (fun v s1 h1=>Z1k h1 (fun itv s2 h2=>?_) fun _ _ e=>e) fun _ _ e=>e)
 obtain⟨it,fp,tn,J,H1,rfl,I2,T,st,hf,W,w0,turn⟩:=h2
 refine Zbn (Fin:=fun ys H=>∀ D,H D=none→Q (.ref D) (upd H D (.lst ys))) (RR:=fun acc C=>compPost (model X.prog X.w) X.A X.xe none (EP X pins σ Q) acc C) (X:=X.hid m) (I2.hid m) hc T st hf S L (fun C=>hg cl s2 H1 C fp) (fun C=>ht cl s2 H1 C fp) (fun C=>he cl s2 H1 C fp) W w0 turn ?_
 intro C D s' H' ys its k σ' m' hD hC hDC Ic hn hgD rv hz nD fin
 refine⟨m',hn,fun h' hs'=>?_⟩
 have IX:=ZjH (ts:=ts) (scope:=scope) (cl:=cl) I2 hf hC (Ic.nm (N':=ts++X.N) (σ':=Zj (ts++X.N).length none) (by rw[Z1o]) fun i x v _ e=>by rw[Z15] at e;split at e <;> cases e) hs'
 have gD:h'.get? D=some (Zhb its k):=(hs'.2 D hDC).trans hgD
 obtain⟨f0,f1,f2,f3,f4,f5⟩:=I2.fpOk (b:=D) (H':=H') hD nD
 refine⟨.ref D,_,IX.track (o:=.lst ys) nD (ZR I2.sz hD) f1 f4 f5 ⟨hz,its,k,rv,gD⟩,rfl,fin D nD⟩
theorem Ziu {X:Cx}{ts:List Str}{scope:Scope}{elt tg iter:Expr}{ifs:List Expr}{pos:Pos}{wi:TI}{g:TG}{tt:TT}{te:TE}(hc:X.calm=true)(S:Z1N X ts scope)(hi:PI X tg iter wi)
  (hg:∀ cl s₂ H1 C fp,PG (cxC X ts scope cl s₂ H1 C fp) tg g) (ht:∀ cl s₂ H1 C fp,PIf (cxC X ts scope cl s₂ H1 C fp) ifs tt) (he:∀ cl s₂ H1 C fp,PE (cxC X ts scope cl s₂ H1 C fp) elt te)
  (hs:∀ x,foldedSetIterable iter X.env x=pure x:=by intro _;rfl) :
  PE X (.ListComp elt [⟨tg,iter,ifs,0⟩] scope pos) (Zn9 ts.length wi g tt te):=ZkR (m:=none) hc S hi hg ht he hs
theorem Zil {X:Cx}{ts:List Str}{scope:Scope}{elt tg iter:Expr}{ifs:List Expr}{pos spos py:Pos}{wi:TI}{g:TG}{tt:TT}{te:TE}{i:Nat}{y:Str}(hN:X.N.Nodup)(hi':X.N[i]?=some y)(hx:Loc X.env.scope y)(hc:X.calm=true)(S:Z1N X ts scope)(hi:PI X tg iter wi)
  (hg:∀ cl s₂ H1 C fp,PG (cxC X ts scope cl s₂ H1 C fp) tg g) (ht:∀ cl s₂ H1 C fp,PIf (cxC X ts scope cl s₂ H1 C fp) ifs tt) (he:∀ cl s₂ H1 C fp,PE (cxC X ts scope cl s₂ H1 C fp) elt te)
  (hsw:swapsWith (.ListComp elt [⟨tg,iter,ifs,0⟩] scope pos) (some (.Name y py)) spos.line X.env=pure true:=by rfl)
  (hf':X.fn y=true∨X.env.scope.names.lookup y=some .local:=by first|exact .inl rfl|exact .inr rfl|assumption)
  (hs:∀ x,foldedSetIterable iter X.env x=pure x:=by intro _;rfl) :
  PS X (.Assign [.Name y py] (.ListComp elt [⟨tg,iter,ifs,0⟩] scope pos) spos) (Zp9 (Zn9 ts.length wi g tt te) (Za6 i)):=by
 intro pins s σ H D0 I h
 rw[exec_Assign_Name_used _ _ _ _ hsw]
 refine Z0 (Zt4 (Z0 ?_))
 show wpAny _ X.A (do let _ ← comprehension (.ListComp elt [⟨tg,iter,ifs,0⟩] scope pos) scope X.env _ (newList []) false (eval iter X.env) (some (assign (.Name y py) X.env))) _ _ s
 obtain⟨cl,hcl,L⟩:=S.cells (env:=X.env) I.ok
 refine Z0 (Z1k (ZhP (use:=some (assign (.Name y py) X.env)) (Q:=fun _ s'=>SP X pins D0 .next s') rfl hs hcl S.kind S.names
  (Z1k (hi pins s σ H _ I h) (fun v s1 h1=>Z1k h1 (fun itv s2 h2=>?_) fun _ _ e=>e) fun _ _ e=>e)) (fun _ s' hq=>Za (Za hq)) fun _ _ e=>e)
 obtain⟨it,fp,tn,J,H1,rfl,I2,T,st,hf,W,w0,turn⟩:=h2
 refine Zbn (Fin:=fun ys H=>∀ D,H D=none→Za6 i (.ref D) σ (upd H D (.lst ys)) D0.nx) (RR:=fun acc C=>compPost (model X.prog X.w) X.A X.xe (some (assign (.Name y py) X.env)) (fun _ s'=>SP X pins D0 .next s') acc C) I2 hc T st hf S L (fun C=>hg cl s2 H1 C fp) (fun C=>ht cl s2 H1 C fp) (fun C=>he cl s2 H1 C fp) W w0 turn ?_
 intro C D s' H' ys its k σ' m' hD hC hDC Ic hn hgD rv hz nD fin
 have IX:Inv X pins σ H' s':=ZjH I2 hf hC Ic (Zeg ..)
 obtain⟨f0,f1,f2,f3,f4,f5⟩:=I2.fpOk (b:=D) (H':=H') hD nD
 have IT:Inv X pins σ (upd H' D (.lst ys)) s':=IX.track (o:=.lst ys) nD (ZR I2.sz hD) f1 f4 f5 ⟨hz,its,k,rv,hgD⟩
 show wpAny _ X.A (assign (.Name y py) X.env (.ref D)) _ _ s'
 refine ZqT (ZcG IT hN hi' hx (v:=.ref D) rfl (fun s'' I'' hh=>?_) hf')
 obtain⟨a,hsa,ha⟩:=hh
 have hCa:C≠a:=by
  rintro rfl
  rcases ha with z|z
  ·exact absurd (ZX (z ▸ I2.lt) hC) (Z1Q _)
  ·obtain⟨v,q⟩:=I2.cell _ _ z
   exact absurd (ZX q.lt hC) (Z1Q _)
 refine⟨m',hn.sameBut hsa hCa,fun h' hs'=>?_⟩
 have fin':=fin D nD
 refine⟨σ.set i (some (.ref D)),upd H' D (.lst ys),?_,fin'⟩
 have nC:H' C=none:=Ic.free
 have nCt:upd H' D (.lst ys) C=none:=by rw[Z1S (Z2q hDC)];exact nC
 obtain⟨_,g1,g2,g3,g4,g5⟩:=I2.fpOk (b:=C) (H':=H') hC nC
 exact I''.turned (t':=s''.toks) (fun b o hb e=>(hs'.2 b hb).trans e) nCt g1 (.inr (ZR I2.sz hC)) g4 g5
inductive Th where
 |non|bl (b:Bool)|int (i:Int)|str (x:Str)|tup (ts:List Th)|lst (ts:List Th)
mutual
inductive Z0E (K:Fg_) (H:Hp):V→Th→Prop where
 |non:Z0E K H .non .non
 |bl (b:Bool):Z0E K H (.bl b) (.bl b)
 |int (i:Int):Z0E K H (.int i) (.int i)
 |str (x:Str):Z0E K H (.str x) (.str x)
 |tup {a:Addr} {xs:List V} {ts:List Th} (e:SqT K H a xs) (h:Z04 K H xs ts):Z0E K H (.ref a) (.tup ts)
 |lst {a:Addr} {xs:List V} {ts:List Th} (e:SqL K H a xs) (h:Z04 K H xs ts):Z0E K H (.ref a) (.lst ts)
inductive Z04 (K:Fg_) (H:Hp):List V→List Th→Prop where
 |nil:Z04 K H [] []
 |cons {v:V} {t:Th} {vs:List V} {ts:List Th} (h:Z0E K H v t) (r:Z04 K H vs ts):Z04 K H (v::vs) (t::ts)
end
theorem Z0n.seqT {K:Fg_}{H H':Hp}{a:Addr}{xs:List V}(e:Z0n H H')(h:SqT K H a xs):SqT K H' a xs:=by
 rcases h with (h|⟨o,h⟩)|h
 ·exact .inl (.inl (e _ _ h))
 ·exact .inl (.inr ⟨o,e _ _ h⟩)
 ·exact .inr h
section
variable {K:Fg_}
mutual
theorem Z0E.mono {H H':Hp}(s:Z0n H H'):∀ {v:V} {t:Th},Z0E K H v t→Z0E K H' v t
 |_,_,.non=>.non
 |_,_,.bl b=>.bl b
 |_,_,.int i=>.int i
 |_,_,.str x=>.str x
 |_,_,.tup e h=>.tup (s.seqT e) (Z04.mono s h)
 |_,_,.lst e h=>.lst (s.seq e) (Z04.mono s h)
theorem Z04.mono {H H':Hp}(s:Z0n H H'):∀ {vs:List V} {ts:List Th},Z04 K H vs ts→Z04 K H' vs ts
 |_,_,.nil=>.nil
 |_,_,.cons h r=>.cons (Z0E.mono s h) (Z04.mono s r)
end
theorem Z04.length {H:Hp}:∀ {vs:List V} {ts:List Th},Z04 K H vs ts→vs.length=ts.length
 |_,_,.nil=>rfl
 |_,_,.cons _ r=>by rw[Zp,Zp,r.length]
theorem Z04.get {H:Hp}:∀ {vs:List V} {ts:List Th} {i:Nat} {t:Th},Z04 K H vs ts→ts[i]?=some t→∃ v,vs[i]?=some v∧Z0E K H v t
 |_,_,_,_,.nil,e=>by simp at e
 |_,_,0,_,.cons h _,e=>by simp at e;subst e;exact⟨_,rfl,h⟩
 |_,_,i+1,_,.cons _ r,e=>by
  obtain⟨v,h1,h2⟩:=r.get (i:=i) (by simpa using e)
  exact⟨v,by simpa using h1,h2⟩
theorem Z04.got {H:Hp}:∀ {vs:List V} {ts:List Th} {i:Nat} {v:V},Z04 K H vs ts→vs[i]?=some v→∃ t,ts[i]?=some t∧Z0E K H v t
 |_,_,_,_,.nil,e=>by simp at e
 |_,_,0,_,.cons h _,e=>by simp at e;subst e;exact⟨_,rfl,h⟩
 |_,_,i+1,_,.cons _ r,e=>by
  obtain⟨v,h1,h2⟩:=r.got (i:=i) (by simpa using e)
  exact⟨v,by simpa using h1,h2⟩
theorem Z04.append {H:Hp}:∀ {vs ws:List V} {ts us:List Th},Z04 K H vs ts→Z04 K H ws us→Z04 K H (vs++ws) (ts++us)
 |_,_,_,_,.nil,s=>s
 |_,_,_,_,.cons h r,s=>.cons h (r.append s)
theorem Z04.take {H:Hp}:∀ {vs:List V} {ts:List Th} (n:Nat),Z04 K H vs ts→Z04 K H (vs.take n) (ts.take n)
 |_,_,0,_=>.nil
 |_,_,_+1,.nil=>.nil
 |_,_,n+1,.cons h r=>.cons h (r.take n)
theorem Z04.drop {H:Hp}:∀ {vs:List V} {ts:List Th} (n:Nat),Z04 K H vs ts→Z04 K H (vs.drop n) (ts.drop n)
 |_,_,0,r=>r
 |_,_,_+1,.nil=>.nil
 |_,_,n+1,.cons _ r=>r.drop n
theorem Z04.reverse {H:Hp}:∀ {vs:List V} {ts:List Th},Z04 K H vs ts→Z04 K H vs.reverse ts.reverse
 |_,_,.nil=>.nil
 |_,_,.cons h r=>by rw[Z4F,Z4F];exact r.reverse.append (.cons h .nil)
theorem Z04.rep {H:Hp}{vs:List V}{ts:List Th}(h:Z04 K H vs ts):∀ k:Nat,Z04 K H (Zj k vs).flatten (Zj k ts).flatten
 |0=>.nil
 |k+1=>by rw[Z0Z,Z0Z,Z2O,Z2O];exact h.append (h.rep k)
end
theorem Z0n.upd {H:Hp}{p:Addr}{o:HO}(h:H p=none):Z0n H (upd H p o):=fun b u e=>by rw[Z1S (Z3l e h)];exact e
structure Hid where
 own:List (Nat×Addr)
 far:Addr→Prop
noncomputable def Hid.has (O:Hid)(b:Addr):Prop:=b∈O.own.map (·.2)∨O.far b
noncomputable def Hid.cons (i:Nat)(a:Addr)(O:Hid):Hid:={ O with own:=(i,a)::O.own }
open Classical in
noncomputable def less (H:Hp)(O:Hid):Hp:=fun b=>if O.has b then none else H b
open Classical in
noncomputable def low (H:Hp)(O:Hid):Hp:=fun b=>if b∈O.own.map (·.2) then none else H b
theorem Z0f (H:Hp)(O:Hid):Z0n (less H O) H:=fun b o e=>by
 unfold less at e
 split at e
 ·cases e
 ·exact e
theorem Z9Z (H:Hp)(O:Hid):Z0n (low H O) H:=fun b o e=>by
 unfold low at e
 split at e
 ·cases e
 ·exact e
theorem Z28 {H:Hp}{O:Hid}{b:Addr}{o:HO}(h:H b=some o)(n:¬ O.has b):less H O b=some o:=by
 unfold less;rw[if_neg n];exact h
theorem Z4z {H:Hp}{O:Hid}{b:Addr}{o:HO}(h:H b=some o)(n:b∉O.own.map (·.2)):low H O b=some o:=by
 unfold low;rw[if_neg n];exact h
theorem of_less {H:Hp}{O:Hid}{b:Addr}{o:HO}(h:less H O b=some o):H b=some o∧¬ O.has b:=by
 unfold less at h
 split at h
 ·cases h
 ·exact⟨h,‹_›⟩
theorem Zbb {H:Hp}{O:Hid}{b:Addr}{o:HO}(h:low H O b=some o):H b=some o∧b∉O.own.map (·.2):=by
 unfold low at h
 split at h
 ·cases h
 ·exact⟨h,‹_›⟩
theorem Z0M {H H':Hp}{O:Hid}(s:Z0n H H'):Z0n (less H O) (less H' O):=fun b o e=>let ⟨h,n⟩:=of_less e;Z28 (s b o h) n
theorem Z2L {H H':Hp}{O:Hid}(s:Z0n H H'):Z0n (low H O) (low H' O):=fun b o e=>let ⟨h,n⟩:=Zbb e;Z4z (s b o h) n
theorem ZbX {H H':Hp}{O O':Hid}(s:Z0n (low H O) (low H' O'))(hf:O'.far=O.far):Z0n (less H O) (less H' O'):=fun b o e=>by
 obtain⟨h,n⟩:=of_less e
 obtain⟨h',n'⟩:=Zbb (s b o (Z4z h fun z=>n (.inl z)))
 exact Z28 h' fun z=>z.elim n' fun z=>n (.inr (hf ▸ z))
theorem Z67 {H:Hp}{O:Hid}{i:Nat}{a:Addr}:Z0n (less H (O.cons i a)) (less H O):=fun b o e=>by
 obtain⟨h,n⟩:=of_less e
 exact Z28 h fun z=>n (z.elim (fun z=>.inl (Z9 _ z)) .inr)
theorem Zc0 {H:Hp}{O:Hid}{i j:Nat}{a:Addr}:less H (O.cons i a)=less H (O.cons j a):=by
 have hh:∀ b,(O.cons i a).has b↔(O.cons j a).has b:=fun b=>Iff.rfl
 funext b
 unfold less
 by_cases z:(O.cons i a).has b
 ·rw[if_pos z,if_pos ((hh b).mp z)]
 ·rw[if_neg z,if_neg (fun q=>z ((hh b).mpr q))]
theorem Zgd {O:Hid}{i:Nat}{a b:Addr}(h:(O.cons i a).has b):b=a∨O.has b:=by
 rcases h with h|h
 ·rcases Zi.mp (show b∈a::O.own.map (·.2) from h) with q|q
  ·exact .inl q
  ·exact .inr (.inl q)
 ·exact .inr (.inr h)
theorem Z82 {H H':Hp}{O:Hid}{i:Nat}{a:Addr}(s:Z0n H H')(h:H a=none):Z0n (less H O) (less H' (O.cons i a)):=fun b o e=>by
 obtain⟨hb,n⟩:=of_less e
 exact Z28 (s b o hb) fun z=>(Zgd z).elim (Z3l hb h) n
theorem Zop {H H':Hp}{O:Hid}{i:Nat}{a:Addr}(s:Z0n H H')(h:H a=none):Z0n (low H O) (low H' (O.cons i a)):=fun b o e=>by
 obtain⟨hb,n⟩:=Zbb e
 refine Z4z (s b o hb) fun z=>?_
 rcases Zi.mp (show b∈a::O.own.map (·.2) from z) with q|q
 ·exact Z3l hb h q
 ·exact n q
inductive Dv where
 |th (T:Th)
 |own (ts:List Th)
 |exc (c:Str)
 |dct (fz:Bool) (kvs:List (Str×Th))
noncomputable def fv:Th→V
 |.bl b=>.bl b
 |.int i=>.int i
 |.str x=>.str x
 |_=>.non
noncomputable def dkv (kvs:List (Str×Th)):List (Key×V):=kvs.map fun p=>(Z9a p.1,fv p.2)
noncomputable def Zm7 (H:Hp)(a:Addr):Bool→List (Str×Th)→Prop
 |false,kvs=>H a=some (.dK (dkv kvs))
 |true,kvs=>∃ o,H a=some (.frz o (.dK (dkv kvs)))
noncomputable def ZrY (a C:Addr)(h:Heap):Prop:=∃ oe,h.get? a=some oe∧oe.cls=.ref C
noncomputable abbrev Sd:=List (Option Dv)
structure Rep (K:Fg_)(H:Hp)(O:Hid)(σ:St)(d:Sd):Prop where
 len:d.length=σ.length
 th:∀ (i:Nat) (T:Th),d[i]?=some (some (.th T))→∃ v,σ[i]?=some (some v)∧Z0E K (less H O) v T
 own:∀ (i:Nat) (ts:List Th),d[i]?=some (some (.own ts))→∃ a xs,(i,a)∈O.own∧σ[i]?=some (some (.ref a))∧H a=some (.lst xs)∧¬ O.far a∧Z04 K (less H O) xs ts
 there:∀ a,O.has a→∃ o,H a=some o
 inj:∀ (i j:Nat) (a:Addr),(i,a)∈O.own→(j,a)∈O.own→i=j
 exc:∀ (i:Nat) (c:Str),d[i]?=some (some (.exc c))→∃ a C,σ[i]?=some (some (.ref a))∧ZE K mainGlobals c=some (some (.ref C))∧less H O a=some (.ext (ZrY a C))
 dct:∀ (i:Nat) (fz:Bool) (kvs:List (Str×Th)),d[i]?=some (some (.dct fz kvs))→∃ a,(i,a)∈O.own∧σ[i]?=some (some (.ref a))∧Zm7 H a fz kvs∧¬ O.far a
section
variable {K:Fg_}
theorem Zm7.mono {H H':Hp}{a:Addr}{kvs:List (Str×Th)}:∀ {fz:Bool},Zm7 H a fz kvs→(∀ o,H a=some o→H' a=some o)→Zm7 H' a fz kvs
 |false,h,s=>s _ h
 |true,⟨o,h⟩,s=>⟨o,s _ h⟩
theorem Rep.mono {H H':Hp}{O:Hid}{σ:St}{d:Sd}(r:Rep K H O σ d)(s:Z0n H H'):Rep K H' O σ d where
 len:=r.len
 th:=fun i T e=>let ⟨v,h1,h2⟩:=r.th i T e;⟨v,h1,h2.mono (Z0M s)⟩
 own:=fun i ts e=>let ⟨a,xs,h1,h2,h3,hf,h4⟩:=r.own i ts e;⟨a,xs,h1,h2,s _ _ h3,hf,h4.mono (Z0M s)⟩
 there:=fun a h=>let ⟨o,e⟩:=r.there a h;⟨o,s _ _ e⟩
 inj:=r.inj
 exc:=fun i c e=>let ⟨a,C,h1,h2,h3⟩:=r.exc i c e;⟨a,C,h1,h2,Z0M s _ _ h3⟩
 dct:=fun i fz kvs e=>let ⟨a,h1,h2,h3,h4⟩:=r.dct i fz kvs e;⟨a,h1,h2,h3.mono (s a),h4⟩
theorem Rep.notOwn {H:Hp}{O:Hid}{σ:St}{d:Sd}(r:Rep K H O σ d){a:Addr}(h:H a=none):¬ O.has a:=fun z=>by
 obtain⟨o,ho⟩:=r.there a z
 rw[h] at ho;cases ho
theorem Rep.set {H:Hp}{O:Hid}{σ:St}{d:Sd}(r:Rep K H O σ d)(i:Nat){v:V}{T:Th}(b:Z0E K (less H O) v T):Rep K H O (σ.set i (some v)) (d.set i (some (.th T))) where
 len:=by rw[Z1f,Z1f];exact r.len
 th:=fun j U e=>by
  by_cases hj:i=j
  ·subst hj
   have hi:i<d.length:=by
    have:=(Zv.mp e).1
    simpa using this
   rw[ZG hi] at e
   cases e
   exact⟨v,ZG (by rw[← r.len];exact hi),b⟩
  ·rw[Zn hj] at e
   obtain⟨w,h1,h2⟩:=r.th j U e
   exact⟨w,by rw[Zn hj];exact h1,h2⟩
 own:=fun j ts e=>by
  by_cases hj:i=j
  ·subst hj
   have hi:i<d.length:=by
    have:=(Zv.mp e).1
    simpa using this
   rw[ZG hi] at e
   cases e
  ·rw[Zn hj] at e
   obtain⟨a,xs,h1,h2,h3⟩:=r.own j ts e
   exact⟨a,xs,h1,by rw[Zn hj];exact h2,h3⟩
 there:=r.there
 inj:=r.inj
 exc:=fun j c e=>by
  by_cases hj:i=j
  ·subst hj
   have hi:i<d.length:=by
    have:=(Zv.mp e).1
    simpa using this
   rw[ZG hi] at e
   cases e
  ·rw[Zn hj] at e
   obtain⟨a,C,h1,h2⟩:=r.exc j c e
   exact⟨a,C,by rw[Zn hj];exact h1,h2⟩
 dct:=fun j fz kvs e=>by
  by_cases hj:i=j
  ·subst hj
   rw[ZG (by simpa using (Zv.mp e).1)] at e
   cases e
  ·rw[Zn hj] at e
   obtain⟨a,h1,h2,h3⟩:=r.dct j fz kvs e
   exact⟨a,h1,by rw[Zn hj];exact h2,h3⟩
end
noncomputable def Z9c (K:Fg_)(H:Hp)(O:Hid)(v:V)(T:Th):Prop:=Z0E K (less H O) v T∨∃ a xs ts,v=.ref a∧T=.lst ts∧H a=some (.lst xs)∧¬ O.far a∧Z04 K (less H O) xs ts
noncomputable def Zm5 (K:Fg_)(H H':Hp)(O:Hid)(v:V)(ts:List Th):Prop:=∃ a xs,v=.ref a∧H a=none∧H' a=some (.lst xs)∧Z04 K (less H' (O.cons 0 a)) xs ts
section
variable {K:Fg_}
theorem Z9c.mono {H H':Hp}{O:Hid}{v:V}{T:Th}(h:Z9c K H O v T)(s:Z0n H H'):Z9c K H' O v T:=by
 rcases h with h|⟨a,xs,ts,e1,e2,e3,hf,h⟩
 ·exact .inl (h.mono (Z0M s))
 ·exact .inr ⟨a,xs,ts,e1,e2,s _ _ e3,hf,h.mono (Z0M s)⟩
theorem Z9c.bears {H:Hp}{O:Hid}{v:V}{T:Th}(h:Z9c K H O v T):Z0E K H v T:=by
 rcases h with h|⟨a,xs,ts,rfl,rfl,e3,hf,h⟩
 ·exact h.mono (Z0f H O)
 ·exact .lst (SqL.of e3) (h.mono (Z0f H O))
theorem Z9c.int {H:Hp}{O:Hid}{v:V}{i:Int}(h:Z9c K H O v (.int i)):v=.int i:=by
 rcases h with h|⟨_,_,_,_,e,_⟩
 ·cases h;rfl
 ·cases e
theorem Z9c.bl {H:Hp}{O:Hid}{v:V}{i:Bool}(h:Z9c K H O v (.bl i)):v=.bl i:=by
 rcases h with h|⟨_,_,_,_,e,_⟩
 ·cases h;rfl
 ·cases e
theorem Z9c.str {H:Hp}{O:Hid}{v:V}{i:Str}(h:Z9c K H O v (.str i)):v=.str i:=by
 rcases h with h|⟨_,_,_,_,e,_⟩
 ·cases h;rfl
 ·cases e
theorem Z9c.non {H:Hp}{O:Hid}{v:V}(h:Z9c K H O v .non):v=.non:=by
 rcases h with h|⟨_,_,_,_,e,_⟩
 ·cases h;rfl
 ·cases e
theorem Z9c.tup {H:Hp}{O:Hid}{v:V}{ts:List Th}(h:Z9c K H O v (.tup ts)):∃ a xs,v=.ref a∧SqT K (less H O) a xs∧Z04 K (less H O) xs ts:=by
 rcases h with h|⟨_,_,_,_,e,_⟩
 ·cases h with|tup e h=>exact⟨_,_,rfl,e,h⟩
 ·cases e
theorem Z9c.lst {H:Hp}{O:Hid}{v:V}{ts:List Th}(h:Z9c K H O v (.lst ts)):∃ a xs,v=.ref a∧SqL K H a xs∧Z04 K (less H O) xs ts:=by
 rcases h with h|⟨a,xs,us,rfl,e,e3,hf,h⟩
 ·cases h with|lst e h=>exact⟨_,_,rfl,(Z0f H O).seq e,h⟩
 ·cases e;exact⟨a,xs,rfl,SqL.of e3,h⟩
end
noncomputable abbrev FD:=Sd→Option Th
noncomputable abbrev FL:=Sd→Option (List Th)
noncomputable abbrev FB:=Sd→Option Bool
noncomputable def Z9g (K:Fg_)(f:FD):TE:=fun σ H Q=>∃ O d T,Rep K H O σ d∧f d=some T∧∀ v H',Z0n H H'→Z0E K (less H' O) v T→Q v H'
noncomputable def Zj8 (K:Fg_)(f:FD):TE:=fun σ H Q=>∃ O d T,Rep K H O σ d∧f d=some T∧∀ v H',Z0n H H'→Z9c K H' O v T→Q v H'
noncomputable def Zlt (K:Fg_)(f:FL):TE:=fun σ H Q=>∃ O d T,Rep K H O σ d∧f d=some T∧∀ v H',Z0n H H'→Zm5 K H H' O v T→Q v H'
noncomputable def liftT (K:Fg_)(f:FB):TT:=fun σ H Q=>∃ O d b,Rep K H O σ d∧f d=some b∧∀ H',Z0n H H'→Q b H'
noncomputable def ZrQ (K:Fg_)(f:FL):TA:=fun σ H Q=>∃ O d T,Rep K H O σ d∧f d=some T∧∀ vs H',Z0n H H'→Z04 K (less H' O) vs T→Q vs H'
noncomputable def Zg8 (K:Fg_)(f:FL):TA:=fun σ H Q=>∃ O d T,Rep K H O σ d∧f d=some T∧∀ vs H',Z0n H H'→Paired (Z9c K H' O) vs T→Q vs H'
noncomputable def PD (X:Cx)(e:Expr)(f:FD):Prop:=PE X e (Z9g X.K f)
noncomputable def PB (X:Cx)(e:Expr)(f:FD):Prop:=PE X e (Zj8 X.K f)
noncomputable def PF (X:Cx)(e:Expr)(f:FL):Prop:=PE X e (Zlt X.K f)
noncomputable def PDT (X:Cx)(e:Expr)(f:FB):Prop:=PT X e (liftT X.K f)
noncomputable def PDW (X:Cx)(e:Expr)(f:FB):Prop:=PW X e (liftT X.K f)
noncomputable def PDA (X:Cx)(es:List Expr)(f:FL):Prop:=PA X es (ZrQ X.K f)
noncomputable def PBA (X:Cx)(es:List Expr)(f:FL):Prop:=PA X es (Zg8 X.K f)
section
variable {X:Cx}{e a b c:Expr}{f fa fb fc:FD}{pos:Pos}
theorem PE.imp {t t':TE}(h:PE X e t)(i:∀ σ H Q,t' σ H Q→t σ H Q):PE X e t':=fun pins s σ H Q I q=>h pins s σ H Q I (i σ H Q q)
theorem PT.imp {t t':TT}(h:PT X e t)(i:∀ σ H Q,t' σ H Q→t σ H Q):PT X e t':=fun pins s σ H Q I q=>h pins s σ H Q I (i σ H Q q)
theorem PW.imp {t t':TT}(h:PW X e t)(i:∀ σ H Q,t' σ H Q→t σ H Q):PW X e t':=fun wh pins s σ H Q I q=>h wh pins s σ H Q I (i σ H Q q)
theorem PA.imp {es:List Expr}{t t':TA}(h:PA X es t)(i:∀ σ H Q,t' σ H Q→t σ H Q):PA X es t':=fun ps pins s σ H Q I q=>h ps pins s σ H Q I (i σ H Q q)
theorem PD.pb (h:PD X e f):PB X e f:=PE.imp h fun σ H Q ⟨O,d,T,r,e,q⟩=>⟨O,d,T,r,e,fun v H' s b=>q v H' s (.inl b)⟩
noncomputable def Z3O (f:FL):FD:=fun d=>(f d).map Th.lst
theorem PF.pd {f:FL}(h:PF X e f):PD X e (Z3O f):=PE.imp h fun σ H Q z1_=>by
 obtain ⟨O,d,T,r,e,q⟩:=z1_
 unfold Z3O at e
 cases hf:f d with
 |none=>rw[hf] at e;cases e
 |some ts =>
  rw[hf] at e
  cases e
  refine⟨O,d,ts,r,hf,fun v H' s ⟨a,xs,e1,e2,e3,b⟩=>q v H' s ?_⟩
  subst e1
  exact .lst (SqL.of (Z28 e3 (r.notOwn e2))) (b.mono Z67)
noncomputable def ZK (i:Nat):FD:=fun d=>match d[i]? with|some (some (.th T))=>some T|_=>none
noncomputable def Zb (i:Nat):FD:=fun d=>match d[i]? with|some (some (.th T))=>some T|some (some (.own ts))=>some (.lst ts)|_=>none
noncomputable def fC (T:Th):FD:=fun _=>some T
theorem ZpQ {i:Nat}{x:Str}(h:PE X (.Name x pos) (Zmd i)):PD X (.Name x pos) (ZK i):=PE.imp h fun σ H Q z1_=>by
 obtain ⟨O,d,T,r,e,q⟩:=z1_
 unfold ZK at e
 split at e
 ·rename_i hd
  cases e
  obtain⟨v,h1,h2⟩:=r.th i _ hd
  exact⟨v,h1,q v H (Z0n.refl H) h2⟩
 ·cases e
theorem Zq1 {i:Nat}{x:Str}(h:PE X (.Name x pos) (Zmd i)):PB X (.Name x pos) (Zb i):=PE.imp h fun σ H Q z1_=>by
 obtain ⟨O,d,T,r,e,q⟩:=z1_
 unfold Zb at e
 split at e
 ·rename_i hd
  cases e
  obtain⟨v,h1,h2⟩:=r.th i _ hd
  exact⟨v,h1,q v H (Z0n.refl H) (.inl h2)⟩
 ·rename_i hd
  cases e
  obtain⟨a,xs,h1,h2,h3,hf,h4⟩:=r.own i _ hd
  exact⟨_,h2,q _ H (Z0n.refl H) (.inr ⟨a,xs,_,rfl,rfl,h3,hf,h4⟩)⟩
 ·cases e
theorem Z9r {v:V}{T:Th}(h:PE X e (tC v))(b:∀ H,Z0E X.K H v T):PD X e (fC T):=PE.imp h fun σ H Q z1_=>by
 obtain ⟨O,d,T',r,e,q⟩:=z1_
 cases e
 exact q v H (Z0n.refl H) (b _)
theorem ZiB {i j}:PD X (.Constant (.int i) j pos) (fC (.int i)):=Z9r ZpG fun _=>.int i
theorem ZpZ {i j}:PD X (.Constant (.bool i) j pos) (fC (.bl i)):=Z9r ZrD fun _=>.bl i
theorem Zmu {j}:PD X (.Constant .none j pos) (fC .non):=Z9r ZpE fun _=>.non
theorem Zmt {i j}:PD X (.Constant (.str i) j pos) (fC (.str i)):=Z9r ZpB fun _=>.str i
noncomputable def f2 (g:Th→Th→Option Th)(fa fb:FD):FD:=fun d=>(fa d).bind fun x=>(fb d).bind fun y=>g x y
theorem Zju {g:Th→Th→Option Th}{fa fb:FD}{d:Sd}{T:Th}(h:f2 g fa fb d=some T):∃ x y,fa d=some x∧fb d=some y∧g x y=some T:=by
 unfold f2 at h
 cases h1:fa d with
 |none=>rw[h1] at h;cases h
 |some x =>
  rw[h1] at h
  cases h2:fb d with
  |none=>rw[h2] at h;cases h
  |some y=>rw[h2] at h;exact⟨x,y,rfl,rfl,h⟩
noncomputable def OpD (K:Fg_)(r:R2)(g:Th→Th→Option Th):Prop:=∀ (H:Hp) (O:Hid) (v u:V) (x y z:Th) (Q:VK),(∀ p,H p=none→¬ O.has p)→Z9c K H O v x→Z9c K H O u y→g x y=some z→(∀ v' H',Z0n H H'→Z0E K (less H' O) v' z→Q v' H')→r v u H Q
theorem Z9n {K:Fg_}{r:R2}{g:Th→Th→Option Th}(hr:OpD K r g):∀ σ H Q,Z9g K (f2 g fa fb) σ H Q→tOp r (Zj8 K fa) (Zj8 K fb) σ H Q:=fun σ H Q z1_=>by
 obtain ⟨O,d,T,R,e,q⟩:=z1_
 obtain⟨x,y,hx,hy,hg⟩:=Zju e
 exact⟨O,d,x,R,hx,fun v1 H1 s1 b1=>⟨O,d,y,R.mono s1,hy,fun v2 H2 s2 b2=>hr H2 O v1 v2 x y T Q (fun p hp=>(R.mono (s1.trans s2)).notOwn hp) (b1.mono s2) b2 hg fun v H' s b=>q v H' ((s1.trans s2).trans s) b⟩⟩
theorem ZiA {op:Operator}{r:R2}{g:Th→Th→Option Th}(ho:OpR X (binaryOp op) r)(hr:OpD X.K r g)(ha:PB X a fa)(hb:PB X b fb):PD X (.BinOp a op b pos) (f2 g fa fb):=PE.imp (ZrB ho ha hb) (Z9n hr)
theorem Zd6 {op:CmpOp}{r:R2}{g:Th→Th→Option Th}(ho:OpR X (compareOp op) r)(hr:OpD X.K r g)(ha:PB X a fa)(hb:PB X b fb)(hm:behindInMarks op b=false):PD X (.Compare a [op] [b] pos) (f2 g fa fb):=PE.imp (Znz ho ha hb hm) (Z9n hr)
noncomputable def ZU (f:FD):FB:=fun d=>match f d with|some (.bl b)=>some b|_=>none
theorem Zbh {f:FD}{d:Sd}{b:Bool}(h:ZU f d=some b):f d=some (.bl b):=by
 unfold ZU at h
 split at h
 ·rename_i e;cases h;exact e
 ·cases h
theorem Z6H {op:CmpOp}{r:R2}{g:Th→Th→Option Th}(ho:OpR X (compareOp op) r)(hr:OpD X.K r g)(ha:PB X a fa)(hb:PB X b fb)(hm:behindInMarks op b=false):PDT X (.Compare a [op] [b] pos) (ZU (f2 g fa fb)) :=
 PT.imp (Zns ho ha hb hm) fun σ H Q ⟨O,d,k,R,e,q⟩=>Z9n hr σ H _ ⟨O,d,.bl k,R,Zbh e,fun v H' s b=>by cases b;exact⟨k,rfl,q H' s⟩⟩
theorem ZnD (h:PD X e f)(he:∀ whole,isTrue e X.env whole=(do let v ← whole;standAt e.pos;holding [v] (truthy v)):=by intro _;rfl):PDT X e (ZU f) :=
 PT.imp (Zps h he) fun σ H Q ⟨O,d,k,R,e,q⟩=>⟨O,d,.bl k,R,Zbh e,fun v H' s b=>by cases b;exact⟨k,rfl,q H' s⟩⟩
noncomputable def ZdH (f:FB):FB:=fun d=>(f d).map (!·)
theorem ZnE {f:FB}(h:PDT X a f):PDT X (.UnaryOp .Not a pos) (ZdH f):=PT.imp (Zpt h) fun σ H Q z1_=>by
 obtain ⟨O,d,k,R,e,q⟩:=z1_
 unfold ZdH at e
 cases hf:f d with
 |none=>rw[hf] at e;cases e
 |some z=>rw[hf] at e;cases e;exact⟨O,d,z,R,hf,q⟩
noncomputable def Z9i (f g:FB):FB:=fun d=>(f d).bind fun b=>if b=true then g d else some false
noncomputable def ZhF (f g:FB):FB:=fun d=>(f d).bind fun b=>if b=true then some true else g d
theorem ZkT {f:FB}(h:PDT X a f):PDW X (.BoolOp .And [a] pos) f:=Znr h
theorem ZnB {f:FB}(h:PDT X a f):PDW X (.BoolOp .Or [a] pos) f:=Zpq h
theorem ZnC {f g:FB}{rest:List Expr}(ha:PDT X a f)(hb:PDW X (.BoolOp .And (b::rest) pos) g):PDW X (.BoolOp .And (a::b::rest) pos) (Z9i f g):=PW.imp (Zpr ha hb) fun σ H Q z1_=>by
 obtain ⟨O,d,k,R,e,q⟩:=z1_
 unfold Z9i at e
 cases hf:f d with
 |none=>rw[hf] at e;cases e
 |some z =>
  rw[hf] at e
  refine⟨O,d,z,R,hf,fun H' s=>?_⟩
  cases z with
  |true=>exact⟨O,d,k,R.mono s,e,fun H'' s'=>q H'' (s.trans s')⟩
  |false=>cases e;exact q H' s
theorem ZpJ {f g:FB}{rest:List Expr}(ha:PDT X a f)(hb:PDW X (.BoolOp .Or (b::rest) pos) g):PDW X (.BoolOp .Or (a::b::rest) pos) (ZhF f g):=PW.imp (Zry ha hb) fun σ H Q z1_=>by
 obtain ⟨O,d,k,R,e,q⟩:=z1_
 unfold ZhF at e
 cases hf:f d with
 |none=>rw[hf] at e;cases e
 |some z =>
  rw[hf] at e
  refine⟨O,d,z,R,hf,fun H' s=>?_⟩
  cases z with
  |true=>cases e;exact q H' s
  |false=>exact⟨O,d,k,R.mono s,e,fun H'' s'=>q H'' (s.trans s')⟩
theorem PDW.pdt {f:FB}(h:PDW X e f):PDT X e f:=PW.pt h
noncomputable def ZoC (fa fb:FD):FD:=fun d=>(fa d).bind fun x=>match x with|.bl true=>fb d|.bl false=>some (.bl false)|_=>none
noncomputable def fOr (fa fb:FD):FD:=fun d=>(fa d).bind fun x=>match x with|.bl true=>some (.bl true)|.bl false=>fb d|_=>none
noncomputable def Zfh (fa:FD):FD:=fun d=>(fa d).bind fun x=>match x with|.bl b=>some (.bl !b)|_=>none
theorem ZpS {op}(h:PD X a f):PD X (.BoolOp op [a] pos) f:=ZpC h
theorem Zq0 {rest:List Expr}(ha:PD X a fa)(hb:PD X (.BoolOp .And (b::rest) pos) fb):PD X (.BoolOp .And (a::b::rest) pos) (ZoC fa fb):=PE.imp (ZpI ha hb) fun σ H Q z1_=>by
 obtain ⟨O,d,T,R,e,q⟩:=z1_
 unfold ZoC at e
 cases hf:fa d with
 |none=>rw[hf] at e;cases e
 |some x =>
  rw[hf] at e
  refine⟨O,d,x,R,hf,fun v H' s b=>?_⟩
  cases b with
  |bl z =>
   refine⟨z,rfl,?_⟩
   cases z with
   |true=>exact⟨O,d,T,R.mono s,e,fun v' H'' s' b'=>q v' H'' (s.trans s') b'⟩
   |false=>cases e;exact q _ H' s (.bl false)
  |_=>cases e
theorem ZpT (ha:PD X a fa):PD X (.UnaryOp .Not a pos) (Zfh fa):=PE.imp (ZpD ha) fun σ H Q z1_=>by
 obtain ⟨O,d,T,R,e,q⟩:=z1_
 unfold Zfh at e
 cases hf:fa d with
 |none=>rw[hf] at e;cases e
 |some x =>
  rw[hf] at e
  refine⟨O,d,x,R,hf,fun v H' s b=>?_⟩
  cases b with
  |bl z=>cases e;exact⟨z,rfl,q _ H' s (.bl _)⟩
  |_=>cases e
noncomputable def fIf {α:Type}(c:FB)(f g:Sd→Option α):Sd→Option α:=fun d=>(c d).bind fun b=>if b=true then f d else g d
theorem ZrH {c:Expr}{fc:FB}(hc:PDT X c fc)(ha:PD X a fa)(hb:PD X b fb):PD X (.IfExp c a b pos) (fIf fc fa fb):=PE.imp (ZkQ hc ha hb) fun σ H Q z1_=>by
 obtain ⟨O,d,T,R,e,q⟩:=z1_
 unfold fIf at e
 cases hf:fc d with
 |none=>rw[hf] at e;cases e
 |some z =>
  rw[hf] at e
  refine⟨O,d,z,R,hf,fun H' s=>?_⟩
  cases z with
  |true=>exact⟨O,d,T,R.mono s,e,fun v' H'' s' b'=>q v' H'' (s.trans s') b'⟩
  |false=>exact⟨O,d,T,R.mono s,e,fun v' H'' s' b'=>q v' H'' (s.trans s') b'⟩
noncomputable def Zqz (g g':Th→Th→Option Th)(fa fb fc:FD):FD:=fun d=>(fa d).bind fun x=>(fb d).bind fun y=>(g x y).bind fun z=>match z with|.bl true=>(fc d).bind fun u=>g' y u|.bl false=>some (.bl false)|_=>none
noncomputable def Z02:FL:=fun _=>some []
noncomputable def Z3 (f:FD)(g:FL):FL:=fun d=>(f d).bind fun x=>(g d).bind fun xs=>some (x::xs)
theorem Zbk {f:FD}{g:FL}{d:Sd}{ts:List Th}(h:Z3 f g d=some ts):∃ x xs,f d=some x∧g d=some xs∧ts=x::xs:=by
 unfold Z3 at h
 cases h1:f d with
 |none=>rw[h1] at h;cases h
 |some x =>
  rw[h1] at h
  cases h2:g d with
  |none=>rw[h2] at h;cases h
  |some y=>rw[h2] at h;cases h;exact⟨x,y,rfl,rfl,rfl⟩
theorem ZeL:PDA X [] Z02:=PA.imp Z7Z fun σ H Q z1_=>by obtain ⟨O,d,T,R,e,q⟩:=z1_;cases e;exact q [] H (Z0n.refl H) .nil
theorem Z9q {es:List Expr}{g:FL}(ha:PD X e f)(hr:PDA X es g)(hs:starEach (e::es) X.env=(false,eval e X.env)::starEach es X.env:=by rfl):PDA X (e::es) (Z3 f g):=PA.imp (Z4Z ha hr hs) fun σ H Q z1_=>by
 obtain ⟨O,d,T,R,e,q⟩:=z1_
 obtain⟨x,xs,h1,h2,rfl⟩:=Zbk e
 exact⟨O,d,x,R,h1,fun v H1 s1 b1=>⟨O,d,xs,R.mono s1,h2,fun vs H2 s2 b2=>q (v::vs) H2 (s1.trans s2) (.cons (b1.mono (Z0M s2)) b2)⟩⟩
theorem ZeM:PBA X [] Z02:=PA.imp Z7Z fun σ H Q z1_=>by obtain ⟨O,d,T,R,e,q⟩:=z1_;cases e;exact q [] H (Z0n.refl H) .nil
theorem Z9s {es:List Expr}{g:FL}(ha:PB X e f)(hr:PBA X es g)(hs:starEach (e::es) X.env=(false,eval e X.env)::starEach es X.env:=by rfl):PBA X (e::es) (Z3 f g):=PA.imp (Z4Z ha hr hs) fun σ H Q z1_=>by
 obtain ⟨O,d,T,R,e,q⟩:=z1_
 obtain⟨x,xs,h1,h2,rfl⟩:=Zbk e
 exact⟨O,d,x,R,h1,fun v H1 s1 b1=>⟨O,d,xs,R.mono s1,h2,fun vs H2 s2 b2=>q (v::vs) H2 (s1.trans s2) (.cons (b1.mono s2) b2)⟩⟩
noncomputable def ZdE (ts:List Th):Option (List Th):=if ts.length≤1000000 then some ts else none
theorem ZdD {ts us:List Th}(h:ZdE ts=some us):us=ts∧ts.length≤sizeLine:=by
 unfold ZdE at h
 split at h
 ·cases h;exact⟨rfl,ZR ‹_› (by decide)⟩
 ·cases h
noncomputable def Z7g (f:FL):FD:=fun d=>((f d).bind ZdE).map Th.tup
noncomputable def Z9h (f:FL):FL:=fun d=>(f d).bind ZdE
theorem Zms {es:List Expr}{g:FL}{x1}(h:PDA X es g):PD X (.Tuple es x1 pos) (Z7g g):=PE.imp (ZpA h) fun σ H Q z1_=>by
 obtain ⟨O,d,T,R,e,q⟩:=z1_
 unfold Z7g at e
 cases hg:g d with
 |none=>rw[hg] at e;cases e
 |some ts =>
  rw[hg] at e
  cases hf:ZdE ts with
  |none=>rw[show (some ts).bind ZdE=ZdE ts from rfl,hf] at e;cases e
  |some us =>
   rw[show (some ts).bind ZdE=ZdE ts from rfl,hf] at e
   cases e
   obtain⟨rfl,hz⟩:=ZdD hf
   refine⟨O,d,_,R,hg,fun vs H' s b=>⟨by rw[b.length];exact hz,fun p hp=>q _ _ (s.trans (Z0n.upd hp)) ?_⟩⟩
   exact .tup (SqT.of (Z28 Z1b ((R.mono s).notOwn hp))) (b.mono (Z0M (Z0n.upd hp)))
theorem ZeK {es:List Expr}{g:FL}(h:PDA X es g):PF X (.List es pos) (Z9h g):=PE.imp (ZpF h) fun σ H Q z1_=>by
 obtain ⟨O,d,T,R,e,q⟩:=z1_
 unfold Z9h at e
 cases hg:g d with
 |none=>rw[hg] at e;cases e
 |some ts =>
  rw[hg] at e
  obtain⟨rfl,hz⟩:=ZdD e
  refine⟨O,d,_,R,hg,fun vs H' s b=>⟨by rw[b.length];exact hz,fun p hp=>q _ _ (s.trans (Z0n.upd hp)) ?_⟩⟩
  exact⟨p,vs,rfl,s.free hp,Z1b,b.mono (Z82 (Z0n.upd hp) hp)⟩
end
inductive Out where
 |nx (d:Sd)|rt (T:Th)|bk (d:Sd)|ct (d:Sd)|xc (c:Str)
noncomputable abbrev FS:=Sd→Option Out
noncomputable def ZlZ (X:Cx)(x:Str)(H:Hp):Prop:=∀ (pins:List (Addr×Obj)) (σ:St) (s:Shared) (vs:List Value) (h':Heap) (e C:Addr),Inv X pins σ H s→X.mg x=some (.ref C)→Heap.MadeExcOf s.heap h' e (.ref C) vs→X.xe (.ref e) { s with heap:=h' }
noncomputable def Zm6.on (X:Cx)(D:Zm6)(f:Addr→Prop)(B:Hp):Out→Prop
 |.nx d=>∀ σ H O,O.far=f→Z0n B (low H O)→Rep X.K H O σ d→D.nx σ H
 |.rt T=>∀ v H,Z0n B H→Z0E X.K (less H ⟨[],f⟩) v T→D.rt v H
 |.bk d=>∀ σ H O,O.far=f→Z0n B (low H O)→Rep X.K H O σ d→D.bk σ H
 |.ct d=>∀ σ H O,O.far=f→Z0n B (low H O)→Rep X.K H O σ d→D.ct σ H
 |.xc c=>∀ H,Z0n B H→ZlZ X c H
noncomputable def Zls (X:Cx)(F:FS):TS:=fun D σ H=>∃ O d o,Rep X.K H O σ d∧F d=some o∧D.on X O.far (low H O) o
noncomputable def PDS (X:Cx)(st:Stmt)(F:FS):Prop:=PS X st (Zls X F)
noncomputable def Zk5 (X:Cx)(sts:List Stmt)(F:FS):Prop:=PSs X sts (Zls X F)
theorem Zm6.on.mono {X:Cx}{D:Zm6}{f:Addr→Prop}{B B':Hp}{o:Out}(h:D.on X f B o)(s:Z0n B B'):D.on X f B' o:=by
 cases o with
 |nx d=>exact fun σ H O hf s' r=>h σ H O hf (s.trans s') r
 |rt T=>exact fun v H s' b=>h v H (s.trans s') b
 |bk d=>exact fun σ H O hf s' r=>h σ H O hf (s.trans s') r
 |ct d=>exact fun σ H O hf s' r=>h σ H O hf (s.trans s') r
 |xc c=>exact fun H s'=>h H (s.trans s')
theorem Zdl {H:Hp}{O:Hid}:Z0n (less H O) (less H ⟨[],O.far⟩):=fun b o e=>by
 obtain⟨h1,h2⟩:=of_less e
 exact Z28 h1 fun z=>z.elim (fun q=>by simp at q) fun q=>h2 (.inr q)
theorem Z9c.out {K:Fg_}{H:Hp}{O:Hid}{v:V}{T:Th}(h:Z9c K H O v T):Z0E K (less H ⟨[],O.far⟩) v T:=by
 rcases h with h|⟨a,xs,ts,rfl,rfl,e3,hf,h⟩
 ·exact h.mono Zdl
 ·exact .lst (SqL.of (Z28 e3 fun z=>z.elim (fun q=>by simp at q) hf)) (h.mono Zdl)
section
variable {X:Cx}{e a b:Expr}{st:Stmt}{rest sts:List Stmt}{f:FD}{F G:FS}{pos:Pos}
theorem PS.imp {t t':TS}(h:PS X st t)(i:∀ D σ H,t' D σ H→t D σ H):PS X st t':=fun pins s σ H D I q=>h pins s σ H D I (i D σ H q)
theorem PSs.imp {t t':TS}(h:PSs X sts t)(i:∀ D σ H,t' D σ H→t D σ H):PSs X sts t':=fun pins s σ H D I q=>h pins s σ H D I (i D σ H q)
noncomputable def Z0Y:FS:=fun d=>some (.nx d)
noncomputable def Z1L (F G:FS):FS:=fun d=>(F d).bind fun o=>match o with|.nx d'=>G d'|.rt T=>some (.rt T)|.bk d'=>some (.bk d')|.ct d'=>some (.ct d')|.xc c=>some (.xc c)
theorem ZkW:Zk5 X [] Z0Y:=PSs.imp Znt fun D σ H z1_=>by obtain ⟨O,d,o,R,e,q⟩:=z1_;cases e;exact q σ H O rfl (Z0n.refl _) R
theorem Zix (h1:PDS X st F)(h2:Zk5 X rest G):Zk5 X (st::rest) (Z1L F G):=PSs.imp (Zg0 h1 h2) fun D σ H z1_=>by
 obtain ⟨O,d,o,R,e,q⟩:=z1_
 unfold Z1L at e
 cases hF:F d with
 |none=>rw[hF] at e;cases e
 |some o1 =>
  rw[hF] at e
  refine⟨O,d,o1,R,hF,?_⟩
  cases o1 with
  |nx d'=>exact fun σ' H' O' hf s R'=>⟨O',d',o,R',e,by rw[hf];exact q.mono s⟩
  |rt T=>cases e;exact q
  |bk d'=>cases e;exact q
  |xc c=>cases e;exact q
  |ct d'=>cases e;exact q
theorem ZkV (h1:PDS X st F):Zk5 X [st] F:=Zik h1
noncomputable def Z2H (f:FD):FS:=fun d=>(f d).map Out.rt
theorem ZnH (h:PB X e f):PDS X (.Return (some e) pos) (Z2H f):=PS.imp (Zmq h) fun D σ H z1_=>by
 obtain ⟨O,d,o,R,e,q⟩:=z1_
 unfold Z2H at e
 cases hf:f d with
 |none=>rw[hf] at e;cases e
 |some T =>
  rw[hf] at e
  cases e
  exact⟨O,d,T,R,hf,fun v H' s b=>q v H' ((Z9Z H O).trans s) b.out⟩
theorem ZpP {c:Expr}{A B:List Stmt}{fc:FB}(hc:PDT X c fc)(ha:Zk5 X A F)(hb:Zk5 X B G):PDS X (.If c A B pos) (fIf fc F G):=PS.imp (Zrz hc ha hb) fun D σ H z1_=>by
 obtain ⟨O,d,o,R,e,q⟩:=z1_
 unfold fIf at e
 cases hf:fc d with
 |none=>rw[hf] at e;cases e
 |some z =>
  rw[hf] at e
  refine⟨O,d,z,R,hf,fun H' s=>?_⟩
  cases z with
  |true=>exact⟨O,d,o,R.mono s,e,q.mono (Z2L s)⟩
  |false=>exact⟨O,d,o,R.mono s,e,q.mono (Z2L s)⟩
noncomputable def Z1a (i:Nat)(f:FD):FS:=fun d=>(f d).map fun T=>.nx (d.set i (some (.th T)))
theorem Zkw {i:Nat}:∀ D σ H,Zls X (Z1a i f) D σ H→Zp9 (Z9g X.K f) (Za6 i) D σ H:=fun D σ H z1_=>by
 obtain ⟨O,d,o,R,e,q⟩:=z1_
 unfold Z1a at e
 cases hf:f d with
 |none=>rw[hf] at e;cases e
 |some T =>
  rw[hf] at e
  cases e
  exact⟨O,d,T,R,hf,fun v H' s b=>q _ H' O rfl (Z2L s) ((R.mono s).set i b)⟩
theorem ZnG {i:Nat}{x:Str}{pos':Pos}(hN:X.N.Nodup)(hi:X.N[i]?=some x)(hx:Loc X.env.scope x)(he:PD X e f)(hs:swapsWith e (some (.Name x pos')) pos.line X.env=pure false:=by rfl)
  (hf:X.fn x=true∨X.env.scope.names.lookup x=some .local:=by first|exact .inl rfl|exact .inr rfl|assumption):PDS X (.Assign [.Name x pos'] e pos) (Z1a i f):=PS.imp (Zmp hN hi hx he hs hf) Zkw
noncomputable def Za9 (i:Nat)(f:FL):FS:=fun d=>(f d).map fun ts=>.nx (d.set i (some (.own ts)))
theorem Rep.setOwn {K:Fg_}{H H':Hp}{O:Hid}{σ:St}{d:Sd}(r:Rep K H O σ d)(s:Z0n H H')(i:Nat){v:V}{ts:List Th}(b:Zm5 K H H' O v ts) :
  ∃ a,v=.ref a∧H a=none∧Rep K H' (O.cons i a) (σ.set i (some v)) (d.set i (some (.own ts))):=by
 obtain⟨a,xs,rfl,e2,e3,b⟩:=b
 refine⟨a,rfl,e2,?_⟩
 have nf:¬ O.has a:=r.notOwn e2
 have sub:Z0n (less H O) (less H' (O.cons i a)):=Z82 s e2
 exact {
  len:=by rw[Z1f,Z1f];exact r.len
  th:=fun j U e=>by
   by_cases hj:i=j
   ·subst hj
    have hi:i<d.length:=by
     have:=(Zv.mp e).1
     simpa using this
    rw[ZG hi] at e
    cases e
   ·rw[Zn hj] at e
    obtain⟨w,h1,h2⟩:=r.th j U e
    exact⟨w,by rw[Zn hj];exact h1,h2.mono sub⟩
  own:=fun j us e=>by
   by_cases hj:i=j
   ·subst hj
    have hi:i<d.length:=by
     have:=(Zv.mp e).1
     simpa using this
    rw[ZG hi] at e
    cases e
    exact⟨a,xs,Z4,ZG (by rw[← r.len];exact hi),e3,fun z=>nf (.inr z),by rw[Zc0 (j:=0)];exact b⟩
   ·rw[Zn hj] at e
    obtain⟨a',xs',h1,h2,h3,h4,h5⟩:=r.own j us e
    exact⟨a',xs',Z9 _ h1,by rw[Zn hj];exact h2,s _ _ h3,h4,h5.mono sub⟩
  there:=fun p hp=>by
   rcases Zgd hp with rfl|hp
   ·exact⟨_,e3⟩
   ·obtain⟨o,e⟩:=r.there p hp
    exact⟨o,s _ _ e⟩
  exc:=fun j c e=>by
   by_cases hj:i=j
   ·subst hj
    have hi:i<d.length:=by
     have:=(Zv.mp e).1
     simpa using this
    rw[ZG hi] at e
    cases e
   ·rw[Zn hj] at e
    obtain⟨a',C,h1,h2,h3⟩:=r.exc j c e
    exact⟨a',C,by rw[Zn hj];exact h1,h2,sub _ _ h3⟩
  dct:=fun j fz kvs e=>by
   by_cases hj:i=j
   ·subst hj
    rw[ZG (by simpa using (Zv.mp e).1)] at e
    cases e
   ·rw[Zn hj] at e
    obtain⟨a',h1,h2,h3,h4⟩:=r.dct j fz kvs e
    exact⟨a',Z9 _ h1,by rw[Zn hj];exact h2,h3.mono (s a'),h4⟩
  inj:=fun j k p h1 h2=>by
   have h1:(j,p)∈(i,a)::O.own:=h1
   have h2:(k,p)∈(i,a)::O.own:=h2
   have no:∀ m,(m,a)∉O.own:=fun m z=>nf (.inl (ZT.mpr ⟨_,z,rfl⟩))
   rcases Zi.mp h1 with q1|q1
   ·rcases Zi.mp h2 with q2|q2
    ·cases q1;cases q2;rfl
    ·cases q1;exact absurd q2 (no _)
   ·rcases Zi.mp h2 with q2|q2
    ·cases q2;exact absurd q1 (no _)
    ·exact r.inj j k p q1 q2 }
theorem Zl8 {i:Nat}{f:FL}:∀ D σ H,Zls X (Za9 i f) D σ H→Zp9 (Zlt X.K f) (Za6 i) D σ H:=fun D σ H z1_=>by
 obtain ⟨O,d,o,R,e,q⟩:=z1_
 unfold Za9 at e
 cases hf:f d with
 |none=>rw[hf] at e;cases e
 |some T =>
  rw[hf] at e
  cases e
  refine⟨O,d,T,R,hf,fun v H' s b=>?_⟩
  obtain⟨a,rfl,hn,R'⟩:=R.setOwn s i b
  exact q _ H' (O.cons i a) rfl (Zop s hn) R'
theorem ZnI {i:Nat}{f:FL}{x:Str}{pos':Pos}(hN:X.N.Nodup)(hi:X.N[i]?=some x)(hx:Loc X.env.scope x)(he:PF X e f)(hs:swapsWith e (some (.Name x pos')) pos.line X.env=pure false:=by rfl)
  (hf:X.fn x=true∨X.env.scope.names.lookup x=some .local:=by first|exact .inl rfl|exact .inr rfl|assumption):PDS X (.Assign [.Name x pos'] e pos) (Za9 i f):=PS.imp (Zmp hN hi hx he hs hf) Zl8
noncomputable def Z2a (i:Nat)(f:FD):FS:=fun d=>match d[i]? with
 |some (some (.own ts))=>(f d).bind fun T=>if ts.length<1000000 then some (.nx (d.set i (some (.own (ts++[T]))))) else none
 |_=>none
theorem Rep.append {K:Fg_}{H:Hp}{O:Hid}{σ:St}{d:Sd}(r:Rep K H O σ d){i:Nat}{ts:List Th}(hd:d[i]?=some (some (.own ts))){a:Addr}{xs:List V}(ha:(i,a)∈O.own)(hs:σ[i]?=some (some (.ref a)))(hx:H a=some (.lst xs))(hf:¬ O.far a)(hb:Z04 K (less H O) xs ts)
  {v:V} {T:Th} (b:Z0E K (less H O) v T):Rep K (upd H a (.lst (xs++[v]))) O σ (d.set i (some (.own (ts++[T]))))∧Z0n (low H O) (low (upd H a (.lst (xs++[v]))) O):=by
 have hm:a∈O.own.map (·.2):=ZT.mpr ⟨_,ha,rfl⟩
 have sub:Z0n (less H O) (less (upd H a (.lst (xs++[v]))) O):=fun p o e=>by
  obtain⟨h1,h2⟩:=of_less e
  refine Z28 ?_ h2
  have np:p≠a:=fun z=>h2 (.inl (by rw[z];exact hm))
  rw[Z1S np];exact h1
 refine⟨{ len:=by rw[Z1f];exact r.len,th:=fun j U e=>?_,own:=fun j us e=>?_,there:=fun p hp=>?_,inj:=r.inj,exc:=fun j c e=>?_,dct:=fun j fz kvs e=>?_ },fun p o e=>?_⟩
 ·by_cases hj:i=j
  ·subst hj
   have hi:i<d.length:=(Zv.mp hd).1
   rw[ZG hi] at e
   cases e
  ·rw[Zn hj] at e
   obtain⟨w,h1,h2⟩:=r.th j U e
   exact⟨w,h1,h2.mono sub⟩
 ·by_cases hj:i=j
  ·subst hj
   have hi:i<d.length:=(Zv.mp hd).1
   rw[ZG hi] at e
   cases e
   exact⟨a,_,ha,hs,Z1b,hf,(hb.append (.cons b .nil)).mono sub⟩
  ·rw[Zn hj] at e
   obtain⟨a',xs',h1,h2,h3,h4,h5⟩:=r.own j us e
   refine⟨a',xs',h1,h2,?_,h4,h5.mono sub⟩
   have np:a'≠a:=fun z=>hj (r.inj i j a ha (by rw[← z];exact h1))
   rw[Z1S np];exact h3
 ·by_cases hp':p=a
  ·subst hp';exact⟨_,Z1b⟩
  ·obtain⟨o,e⟩:=r.there p hp
   exact⟨o,by rw[Z1S hp'];exact e⟩
 ·by_cases hj:i=j
  ·subst hj
   have hi:i<d.length:=(Zv.mp hd).1
   rw[ZG hi] at e
   cases e
  ·rw[Zn hj] at e
   obtain⟨a',C,h1,h2,h3⟩:=r.exc j c e
   exact⟨a',C,h1,h2,sub _ _ h3⟩
 ·by_cases hj:i=j
  ·subst hj
   rw[ZG (by simpa using (Zv.mp e).1)] at e
   cases e
  ·rw[Zn hj] at e
   obtain⟨a',h1,h2,h3,h4⟩:=r.dct j fz kvs e
   have np:a'≠a:=fun z=>hj (r.inj i j a ha (by rw[← z];exact h1))
   exact⟨a',h1,h2,h3.mono fun o q=>by rw[Z1S np];exact q,h4⟩
 ·obtain⟨h1,h2⟩:=Zbb e
  refine Z4z ?_ h2
  have np:p≠a:=fun z=>h2 (by rw[z];exact hm)
  rw[Z1S np];exact h1
theorem ZgY {i:Nat} {o:Expr} {apos cpos:Pos} (ho:PE X o (Zmd i)) (he:PD X e f) (hbase:attributeBase o "append" X.env (eval o X.env)=eval o X.env:=by rfl)
  (hfew:((backTo cpos (starEach [e] X.env)).all (fun x=>!x.1)&&(backToKw cpos (keywordEach [] X.env)).all (fun x=>x.1.isSome)
  &&decide (([e]:List Expr).length+([]:List Keyword).length+(if ([]:List Keyword).isEmpty then 0 else 1)<30))=true:=by rfl)
  (hline:(apos.endLine == cpos.line)=true:=by rfl) (hs:starEach [e] X.env=(false,eval e X.env)::starEach [] X.env:=by rfl) (hplain:(backTo cpos (starEach ([]:List Expr) X.env)).any (·.1)=false:=by rfl)
  (hsw:swapsWith (.Call (.Attribute o "append" apos) [e] [] cpos) none pos.line X.env=pure false:=by rfl) :
  PDS X (.Expr (.Call (.Attribute o "append" apos) [e] [] cpos) pos) (Z2a i f) :=
 PS.imp (ZeI (ZkS Z6l PySem.F.slot_list_append PySem.F.type_list_append Zj2 ho (Z4Z he Z7Z hs) hbase hfew hline hs hplain) hsw) fun D σ H z1_=>by
  obtain ⟨O,d,o,R,e,q⟩:=z1_
  unfold Z2a at e
  split at e
  ·rename_i ts hd
   cases hf:f d with
   |none=>rw[hf] at e;cases e
   |some T =>
    rw[hf] at e
    obtain⟨a,xs,h1,h2,h3,h4,h5⟩:=R.own i ts hd
    change (if ts.length<1000000 then _ else _)=_ at e
    split at e
    ·rename_i hz
     cases e
     refine⟨_,h2,.inl ⟨rfl,xs,SqL.of h3⟩,O,d,T,R,hf,fun v H' s b=>⟨a,xs,v,rfl,rfl,s _ _ h3,by rw[h5.length];exact ZX hz (by decide),?_⟩⟩
     obtain⟨R',s'⟩:=(R.mono s).append hd h1 h2 (s _ _ h3) h4 (h5.mono (Z0M s)) b
     exact q σ _ O rfl ((Z2L s).trans s') R'
    ·cases e
  ·cases e
noncomputable abbrev FG:=Th→Sd→Option Sd
noncomputable def ZrP (K:Fg_)(g:FG):TG:=fun v σ H Q=>∃ O d T d',Rep K H O σ d∧Z0E K (less H O) v T∧g T d=some d'∧∀ σ',Rep K H O σ' d'→Q σ' H
noncomputable def PDG (X:Cx)(tg:Expr)(g:FG):Prop:=PG X tg (ZrP X.K g)
theorem PG.imp {tg:Expr}{t t':TG}(h:PG X tg t)(i:∀ v σ H Q,t' v σ H Q→t v σ H Q):PG X tg t':=fun pins s σ H v u Q I r q=>h pins s σ H v u Q I r (i v σ H Q q)
noncomputable def Zbg (i:Nat):FG:=fun T d=>some (d.set i (some (.th T)))
noncomputable def Z45 (i j:Nat):FG:=fun T d=>match T with|.tup [x,y]=>some ((d.set i (some (.th x))).set j (some (.th y)))|_=>none
theorem ZnO {i:Nat}{x:Str}(hN:X.N.Nodup)(hi:X.N[i]?=some x)(hx:Loc X.env.scope x)(hf:X.fn x=true∨X.env.scope.names.lookup x=some .local:=by first|exact .inl rfl|exact .inr rfl|assumption):PDG X (.Name x pos) (Zbg i) :=
 PG.imp (Z65 hN hi hx hf) fun v σ H Q z1_=>by obtain ⟨O,d,T,d',R,b,e,q⟩:=z1_;cases e;exact q _ (R.set i b)
theorem Z04.two {K:Fg_}{H:Hp}{xs:List V}{x y:Th}(h:Z04 K H xs [x,y]):∃ v w,xs=[v,w]∧Z0E K H v x∧Z0E K H w y:=by
 cases h with
 |cons h1 r=>cases r with
  |cons h2 r2=>cases r2;exact⟨_,_,rfl,h1,h2⟩
theorem Zl3 {i j:Nat}{x y:Str}{px py:Pos}{k:Nat}(hc:X.calm=true)(hN:X.N.Nodup)(hi:X.N[i]?=some x)(hj:X.N[j]?=some y)(hx:Loc X.env.scope x)(hy:Loc X.env.scope y)
  (h:PG X (.Tuple [.Name x px,.Name y py] k pos) (ZrV X.K 2 (Zjp (Za6 i) (Zjp (Za6 j) ZrW)))):PDG X (.Tuple [.Name x px,.Name y py] k pos) (Z45 i j) :=
 PG.imp h fun v σ H Q z1_=>by
  obtain ⟨O,d,T,d',R,b,e,q⟩:=z1_
  unfold Z45 at e
  split at e
  ·cases e
   cases b with
   |tup e' b' =>
    obtain⟨v1,v2,rfl,b1,b2⟩:=b'.two
    exact⟨_,_,rfl,(Z0f H O).seqT e',rfl,v1,_,rfl,v2,_,rfl,rfl,q _ ((R.set i b1).set j b2)⟩
  ·cases e
structure Zka (K:Fg_)(J:It)(B:Hp)(f:Addr→Prop)(ts:List Th):Prop where
 go:∀ i H,Z0n B H→i<ts.length→J.go i H
 stop:∀ H,Z0n B H→J.stop ts.length H
 yld:∀ i H O x H',i<ts.length→O.far=f→Z0n B (low H O)→(∀ p,H p=none→¬ O.has p)→J.yld i H x H'→Z0n H H'∧∃ T,ts[i]?=some T∧Z0E K (less H' O) x T
noncomputable def Zqm (K:Fg_)(f:FL):TI:=fun σ H R=>∃ O d ts,Rep K H O σ d∧f d=some ts∧∀ J H',Z0n H H'→Zka K J (low H' O) O.far ts→R J H'
noncomputable def PDI (X:Cx)(tg iter:Expr)(f:FL):Prop:=PI X tg iter (Zqm X.K f)
theorem PI.imp {tg iter:Expr}{t t':TI}(h:PI X tg iter t)(i:∀ σ H R,t' σ H R→t σ H R):PI X tg iter t':=fun pins s σ H R I q=>h pins s σ H R I (i σ H R q)
noncomputable def Z5P (g:FG)(F:FS):List Th→Sd→Option Out
 |[],d=>some (.nx d)
 |t::r,d=>(g t d).bind fun d1=>(F d1).bind fun o=>match o with|.nx d'=>Z5P g F r d'|.ct d'=>Z5P g F r d'|.bk d'=>some (.nx d')|.rt T=>some (.rt T)|.xc c=>some (.xc c)
noncomputable def ZaC (fi:FL)(g:FG)(F:FS):FS:=fun d=>(fi d).bind fun ts=>Z5P g F ts d
theorem ZnJ {tg iter:Expr}{body:List Stmt}{fi:FL}{g:FG}(hp:Z1l (model X.prog X.w) X.A X.env X.xe)(hc:X.calm=true)(hi:PDI X tg iter fi)(hg:PDG X tg g)(hb:Zk5 X body F)
  (hs:∀ x,foldedSetIterable iter X.env x=pure x:=by intro _;rfl):PDS X (.For tg iter body [] pos) (ZaC fi g F):=PS.imp (Zpu hp hc hi hg hb hs) fun D σ H z1_=>by
 obtain ⟨O,d,o,R,e,q⟩:=z1_
 unfold ZaC at e
 cases hfi:fi d with
 |none=>rw[hfi] at e;cases e
 |some ts =>
  rw[hfi] at e
  change Z5P g F ts d=some o at e
  refine⟨O,d,ts,R,hfi,fun J H1 s1 ok=>⟨fun i m σ' H'=>m=ts.length-i∧i≤ts.length∧∃ O' d',O'.far=O.far∧Rep X.K H' O' σ' d'∧Z0n (low H1 O) (low H' O')∧Z5P g F (ts.drop i) d'=some o,⟨ts.length,rfl,Z0r _,O,d,rfl,R.mono s1,Z0n.refl _,e⟩,?_⟩⟩
  rintro i m σ' H' ⟨rfl,hi,O',d',hf',R',s',e'⟩
  have sB:Z0n (low H1 O) H':=s'.trans (Z9Z H' O')
  by_cases hlt:i<ts.length
  ·rw[Z1O hlt] at e'
   unfold Z5P at e'
   cases hgd:g ts[i] d' with
   |none=>rw[hgd] at e';cases e'
   |some d1 =>
    rw[hgd] at e'
    change ((F d1).bind _)=_ at e'
    cases hF:F d1 with
    |none=>rw[hF] at e';cases e'
    |some o1 =>
     rw[hF] at e'
     refine .inr ⟨ok.go i H' sB hlt,fun σ2 H2=>∃ O2 d2,O2.far=O.far∧Rep X.K H2 O2 σ2 d2∧Z0n (low H1 O) (low H2 O2)∧Z5P g F (ts.drop (i+1)) d2=some o,fun σ2 H2 ⟨O2,d2,h1,h2,h3,h4⟩=>⟨ts.length-(i+1),by omega,rfl,hlt,O2,d2,h1,h2,h3,h4⟩,fun x Hx hy=>?_⟩
     obtain⟨sx,T,hT,bx⟩:=ok.yld i H' O' x Hx hlt hf' s' (fun p hp=>R'.notOwn hp) hy
     rw[Zc hlt] at hT
     cases hT
     refine⟨O',d',_,d1,R'.mono sx,bx,hgd,fun σ1 R1=>⟨O',d1,o1,R1,hF,?_⟩⟩
     have sx':Z0n (low H1 O) (low Hx O'):=s'.trans (Z2L sx)
     cases o1 with
     |nx d2=>exact fun σ2 H2 O2 hf2 s2 R2=>⟨O2,d2,hf2.trans hf',R2,sx'.trans s2,e'⟩
     |ct d2=>exact fun σ2 H2 O2 hf2 s2 R2=>⟨O2,d2,hf2.trans hf',R2,sx'.trans s2,e'⟩
     |bk d2=>cases e';exact fun σ2 H2 O2 hf2 s2 R2=>q σ2 H2 O2 (hf2.trans hf') (((Z2L s1).trans sx').trans s2) R2
     |xc c=>cases e';exact fun H2 s2=>q H2 (((Z2L s1).trans sx').trans s2)
     |rt T2=>cases e';rw[hf'];exact fun v H2 s2 b2=>q v H2 (((Z2L s1).trans sx').trans s2) b2
  ·have e1:i=ts.length:=by lia
   subst e1
   rw[Z7b] at e'
   cases e'
   exact .inl ⟨ok.stop H' sB,q σ' H' O' hf' ((Z2L s1).trans s') R'⟩
end
noncomputable def Its (x:Str):It:=⟨fun i _=>i<x.cps.size,fun i H v H'=>H'=H∧∃ c,x.cps[i]?=some c∧v=.str ⟨#[c]⟩,fun i _=>i=x.cps.size⟩
theorem Z7T {prog:Program}{w:World}{A:Around}(hh:A.handled=none)(I:Addr)(x:Str)(t:Tok) :
  Walks prog w A I [I] [I] x.cps.size (SignAt x) (fun i h=>h.IsStrIter I (strIterType x) x t i):=by
 cases ha:x.cps.all (·<128)
 ·have e:strIterType x="str_iterator":=by simp[strIterType,ha]
  rw[e];exact Walks.strWide hh I x t
 ·have e:strIterType x="str_ascii_iterator":=by simp[strIterType,ha]
  rw[e];exact Walks.strAscii hh I x t
theorem ZcE {prog:Program}{w:World}{A:Around}{E:Value→Shared→Prop}{s:Shared}{I:Addr}{x:Str}{t:Tok}{i:Nat}{Q:Value→Shared→Prop}(h:s.heap.IsStrIter I (strIterType x) x t i)(q:Q (.ref I) s):wpAny (model prog w) A (pyIter (.ref I)) Q E s:=by
 cases ha:x.cps.all (·<128)
 ·have e:strIterType x="str_iterator":=by simp[strIterType,ha]
  rw[e] at h;exact wpAny_pyIter_striter_wide h q
 ·have e:strIterType x="str_ascii_iterator":=by simp[strIterType,ha]
  rw[e] at h;exact wpAny_pyIter_striter_ascii h q
theorem Zkm {P:Program}{w:World}{K:Fg_}{y:Str}{py:Pos}(x:Str)(t:Tok)(it:Addr):Zk3 P w K (.Name y py) (Its x) [it] it (fun i h=>h.IsStrIter it (strIterType x) x t i) where
 mem:=by simp
 obj:=fun i h st b hb=>by
  have e:b=it:=by simpa using hb
  subst e
  obtain⟨o,e,c,d⟩:=st
  exact⟨o,e,fun v z=>by rw[d] at z;cases z⟩
 keep:=fun i h h' st k=>by
  obtain⟨o,e,r⟩:=st
  exact⟨o,k it (by simp) o e,r⟩
 item:=by
  intro X hP hw hK hc i pins s σ H E I hf st hg
  subst hP hw hK
  obtain⟨f0,f1,f2,f3,f4,f5⟩:=hf it (by simp)
  refine (Z7T (I.ok.hd hc) it x t).item i s _ _ hg st fun v h' tk hv st' kk=>?_
  obtain⟨c,u,hcc,rfl⟩:=hv
  have I1:Inv X pins σ H { s with heap:=h',toks:=tk }:=I.turned (fun b o hb e=>kk b o (by simpa using hb) e) f0 f1 f3 f4 f5
  exact⟨_,rfl,Za ⟨.str ⟨#[c]⟩,H,I1,⟨u,rfl⟩,⟨rfl,c,hcc,rfl⟩,st',fun b hb=>(hf b hb).1⟩⟩
 done:=by
  intro X hP hw hK hc i pins s σ H E I hf st hg
  subst hP hw hK
  obtain⟨f0,f1,f2,f3,f4,f5⟩:=hf it (by simp)
  have hg':i=x.cps.size:=hg
  subst hg'
  exact (Z7T (I.ok.hd hc) it x t).done s _ _ st fun h' tk kk=>⟨rfl,I.turned (fun b o hb e=>kk b o (by simpa using hb) e) f0 f1 f3 f4 f5⟩
 self:=fun _ _ _ _ _ st h=>ZcE st h
noncomputable def ZsX (tl:TE):TI:=fun σ H R=>tl σ H fun v H1=>∃ x,v=.str x∧R (Its x) H1
theorem Zpx {X:Cx}{y:Str}{py:Pos}{l:Expr}{tl:TE}(hl:PE X l tl):PI X (.Name y py) l (ZsX tl):=by
 intro pins s σ H R I h
 refine thn (hl pins s σ H _ I h) fun v s1 z1_=>?_
 obtain ⟨x,H1,I1,r1,q1⟩:=z1_
 obtain⟨z,rfl,q⟩:=q1
 obtain⟨t,rfl⟩:=r1
 refine wpAny_pyIter_strU ?_
 refine⟨s1.heap.objs.size,[s1.heap.objs.size],_,_,H1,rfl,I1.kept (t':=s1.toks) fun b o e=>Z1 _ e,Zkm z t _,⟨_,Zm _ rfl,rfl,rfl⟩,fun b hb=>?_,q⟩
 have e:b=s1.heap.objs.size:=by simpa using hb
 subst e
 exact I1.fpOk (Zg _) (I1.hok.fresh (Zg _))
theorem PI.or {X:Cx}{tg l:Expr}{t t':TI}(h:PI X tg l t)(h':PI X tg l t'):PI X tg l (fun σ H R=>t σ H R∨t' σ H R):=fun pins s σ H R I q=>q.elim (h pins s σ H R I) (h' pins s σ H R I)
noncomputable def signs (x:Str):List Th:=x.cps.toList.map fun c=>.str ⟨#[c]⟩
noncomputable def Zjk:Th→Option (List Th)
 |.lst ts=>some ts
 |.tup ts=>some ts
 |.str x=>some (signs x)
 |_=>none
noncomputable def Z2i (f:FD):FL:=fun d=>(f d).bind Zjk
section
variable {X:Cx}{tg l:Expr}{f:FD}{K:Fg_}
theorem Zdq {H:Hp}{O:Hid}{a:Addr}{xs:List V}{ts:List Th}(h:SqL K (less H O) a xs)(b:Z04 K (less H O) xs ts):Zka K (Itl K a) (low H O) O.far ts where
 go:=fun i H' s hi=>by
  have hl:SqL K H' a xs:=by
   rcases h with (h|⟨o,h⟩)|h
   ·exact .inl (.inl (s _ _ (Z4z (of_less h).1 fun z=>(of_less h).2 (.inl z))))
   ·exact .inl (.inr ⟨o,s _ _ (Z4z (of_less h).1 fun z=>(of_less h).2 (.inl z))⟩)
   ·exact .inr h
  have hi':i<xs.length:=by rw[b.length];exact hi
  exact⟨xs,xs[i],hl,by simp[hi']⟩
 stop:=fun H' s=>by
  have hl:SqL K H' a xs:=by
   rcases h with (h|⟨o,h⟩)|h
   ·exact .inl (.inl (s _ _ (Z4z (of_less h).1 fun z=>(of_less h).2 (.inl z))))
   ·exact .inl (.inr ⟨o,s _ _ (Z4z (of_less h).1 fun z=>(of_less h).2 (.inl z))⟩)
   ·exact .inr h
  exact⟨xs,hl,by rw[b.length];exact Zg _⟩
 yld:=fun i H' O' x H'' hi hf s _ y=>by
  obtain⟨e,y⟩:=y
  subst e
  have sl:Z0n (less H O) (less H'' O'):=ZbX s hf
  have hx:=y xs ((Z0f H'' O').seq (sl.seq h))
  obtain⟨T,h1,h2⟩:=b.got hx
  exact⟨Z0n.refl _,T,h1,h2.mono sl⟩
theorem Z9x {H:Hp}{O:Hid}{a:Addr}{xs:List V}{ts:List Th}(h:SqT K (less H O) a xs)(b:Z04 K (less H O) xs ts):Zka K (Itt K a) (low H O) O.far ts where
 go:=fun i H' s hi=>by
  have hl:SqT K H' a xs:=by
   rcases h with (h|⟨o,h⟩)|h
   ·exact .inl (.inl (s _ _ (Z4z (of_less h).1 fun z=>(of_less h).2 (.inl z))))
   ·exact .inl (.inr ⟨o,s _ _ (Z4z (of_less h).1 fun z=>(of_less h).2 (.inl z))⟩)
   ·exact .inr h
  have hi':i<xs.length:=by rw[b.length];exact hi
  exact⟨xs,xs[i],hl,by simp[hi']⟩
 stop:=fun H' s=>by
  have hl:SqT K H' a xs:=by
   rcases h with (h|⟨o,h⟩)|h
   ·exact .inl (.inl (s _ _ (Z4z (of_less h).1 fun z=>(of_less h).2 (.inl z))))
   ·exact .inl (.inr ⟨o,s _ _ (Z4z (of_less h).1 fun z=>(of_less h).2 (.inl z))⟩)
   ·exact .inr h
  exact⟨xs,hl,by rw[b.length];exact Zg _⟩
 yld:=fun i H' O' x H'' hi hf s _ y=>by
  obtain⟨e,y⟩:=y
  subst e
  have sl:Z0n (less H O) (less H'' O'):=ZbX s hf
  have hx:=y xs ((Z0f H'' O').seqT (sl.seqT h))
  obtain⟨T,h1,h2⟩:=b.got hx
  exact⟨Z0n.refl _,T,h1,h2.mono sl⟩
theorem Zga {H:Hp}{O:Hid}(x:Str):Zka K (Its x) (low H O) O.far (signs x) where
 go:=fun i H' s hi=>by
  show i<x.cps.size
  simpa [signs] using hi
 stop:=fun H' s=>by
  show (signs x).length=x.cps.size
  simp[signs]
 yld:=fun i H' O' v H'' hi hf s _ y=>by
  obtain⟨e,c,hc,e2⟩:=y
  subst e e2
  refine⟨Z0n.refl _,.str ⟨#[c]⟩,?_,.str _⟩
  have hc':x.cps.toList[i]?=some c:=by simpa using hc
  simp only[signs,Z0q,hc',Z2]
theorem ZnN {y:Str}{py:Pos}(h:PD X l f):PDI X (.Name y py) l (Z2i f):=PI.imp ((Zis h).or ((Zmr h).or (Zpx h))) fun σ H R z1_=>by
 obtain ⟨O,d,ts,r,e,q⟩:=z1_
 unfold Z2i at e
 cases hf:f d with
 |none=>rw[hf] at e;cases e
 |some T =>
  rw[hf] at e
  change Zjk T=some ts at e
  cases T with
  |lst us=>cases e;exact .inl ⟨O,d,_,r,hf,fun v H' s b=>by cases b with|lst e' b'=>exact⟨_,rfl,⟨_,(Z0f H' O).seq e'⟩,q _ H' s (Zdq e' b')⟩⟩
  |tup us=>cases e;exact .inr (.inl ⟨O,d,_,r,hf,fun v H' s b=>by cases b with|tup e' b'=>exact⟨_,rfl,⟨_,(Z0f H' O).seqT e'⟩,q _ H' s (Z9x e' b')⟩⟩)
  |str x=>cases e;exact .inr (.inr ⟨O,d,_,r,hf,fun v H' s b=>by cases b;exact⟨x,rfl,q _ H' s (Zga x)⟩⟩)
  |_=>cases e
noncomputable def ZaN (f:FD):FL:=fun d=>(f d).bind fun T=>match T with|.lst ts=>some ts|.tup ts=>some ts|_=>none
theorem ZnM (h:PD X l f):PDI X tg l (ZaN f):=PI.imp ((Zis h).or (Zmr h)) fun σ H R z1_=>by
 obtain ⟨O,d,ts,r,e,q⟩:=z1_
 unfold ZaN at e
 cases hf:f d with
 |none=>rw[hf] at e;cases e
 |some T =>
  rw[hf] at e
  cases T with
  |lst us=>cases e;exact .inl ⟨O,d,_,r,hf,fun v H' s b=>by cases b with|lst e' b'=>exact⟨_,rfl,⟨_,(Z0f H' O).seq e'⟩,q _ H' s (Zdq e' b')⟩⟩
  |tup us=>cases e;exact .inr ⟨O,d,_,r,hf,fun v H' s b=>by cases b with|tup e' b'=>exact⟨_,rfl,⟨_,(Z0f H' O).seqT e'⟩,q _ H' s (Z9x e' b')⟩⟩
  |_=>cases e
noncomputable def upTo (n:Nat):List Th:=(Z0L n).map fun (k:Nat)=>Th.int ((k:Nat):Int)
theorem Zhe {H:Hp}{O:Hid}(n:Nat):Zka K (Itr 0 n) (low H O) O.far (upTo n) where
 go:=fun i H' s hi=>by
  show i<n
  simpa [upTo] using hi
 stop:=fun H' s=>by
  show n≤(upTo n).length
  simp[upTo]
 yld:=fun i H' O' v H'' hi hf s _ y=>by
  obtain⟨e,e2⟩:=y
  subst e e2
  refine⟨Z0n.refl _,.int (0+i),?_,.int _⟩
  have hi':i<n:=by simpa [upTo] using hi
  simp[upTo,hi']
noncomputable def Z2l (f:FD):FL:=fun d=>(f d).bind fun T=>match T with|.int j=>if j≤1000000∧-1000000≤j then some (upTo j.toNat) else none|_=>none
theorem Zh0 {a:Expr} {p pos:Pos} (hg:Gl X "range") (hm:X.mg "range"=none) (ha:PD X a f) (hs:starEach [a] X.env=[(false,eval a X.env)]:=by rfl) (hs1:starEach [a] X.env=(false,eval a X.env)::starEach [] X.env:=by rfl):PDI X tg (.Call (.Name "range" p) [a] [] pos) (Z2l f) :=
 PI.imp (Zir hg hm (Z4Z ha Z7Z hs1) hs) fun σ H R z1_=>by
  obtain ⟨O,d,ts,r,e,q⟩:=z1_
  unfold Z2l at e
  cases hf:f d with
  |none=>rw[hf] at e;cases e
  |some T =>
   rw[hf] at e
   cases T with
   |int j =>
    change (if j≤1000000∧-1000000≤j then _ else _)=_ at e
    split at e
    ·rename_i hj
     cases e
     exact⟨O,d,.int j,r,hf,fun v H' s b=>by
      cases b
      exact⟨j,rfl,by lia,by lia,q _ H' s (Zhe _)⟩⟩
    ·cases e
   |_=>cases e
theorem Rep.shift {H:Hp}{O:Hid}{σ:St}{d:Sd}(r:Rep K H O σ d)(pre:List (Option V))(pd:List (Option Dv))(hl:pd.length=pre.length)(hp:∀ (i:Nat) (T:Th),pd[i]?=some (some (Dv.th T))→∃ v,pre[i]?=some (some v)∧Z0E K (less H O) v T)(hn:(∀ (i:Nat) (ts:List Th),pd[i]?≠some (some (Dv.own ts)))∧(∀ (i:Nat) (c:Str),pd[i]?≠some (some (Dv.exc c)))∧∀ (i:Nat) (fz:Bool) (kvs:List (Str×Th)),pd[i]?≠some (some (Dv.dct fz kvs))) :
  Rep K H ⟨O.own.map fun p=>(pre.length+p.1,p.2),O.far⟩ (pre++σ) (pd++d)∧less H ⟨O.own.map fun p=>(pre.length+p.1,p.2),O.far⟩=less H O:=by
 have hh:∀ b,Hid.has ⟨O.own.map fun p=>(pre.length+p.1,p.2),O.far⟩ b↔O.has b:=fun b=>by
  unfold Hid.has
  simp only[Z1n]
  rfl
 have hle:less H ⟨O.own.map fun p=>(pre.length+p.1,p.2),O.far⟩=less H O:=by
  funext b
  unfold less
  by_cases z:O.has b
  ·rw[if_pos z,if_pos ((hh b).mpr z)]
  ·rw[if_neg z,if_neg (fun q=>z ((hh b).mp q))]
 refine⟨{ len:=by rw[Zd,Zd,hl,r.len],th:=fun i T e=>?_,own:=fun i ts e=>?_,there:=fun a h=>r.there a ((hh a).mp h),inj:=fun i j a h1 h2=>?_,exc:=fun i c e=>?_,dct:=fun i fz kvs e=>?_ },hle⟩
 ·rw[hle]
  by_cases hi:i<pd.length
  ·rw[Z00 hi] at e
   obtain⟨v,h1,h2⟩:=hp i T e
   exact⟨v,by rw[Z00 (by lia)];exact h1,h2⟩
  ·rw[ZC (by exact Z1D (by assumption))] at e
   obtain⟨v,h1,h2⟩:=r.th _ T e
   exact⟨v,by rw[ZC (by lia),← hl];exact h1,h2⟩
 ·rw[hle]
  by_cases hi:i<pd.length
  ·rw[Z00 hi] at e
   exact absurd e (hn.1 i ts)
  ·rw[ZC (by lia)] at e
   obtain⟨a,xs,h1,h2,h3,h4,h5⟩:=r.own _ ts e
   refine⟨a,xs,ZT.mpr ⟨_,h1,?_⟩,by rw[ZC (by lia),← hl];exact h2,h3,h4,h5⟩
   simp only[Z43,and_true]
   lia
 ·obtain⟨p,hp1,e1⟩:=ZT.mp h1
  obtain⟨q,hq1,e2⟩:=ZT.mp h2
  injection e1 with a1 a2
  injection e2 with b1 b2
  have e:p.1=q.1:=r.inj p.1 q.1 a (by rw[← a2];exact hp1) (by rw[← b2];exact hq1)
  lia
 ·rw[hle]
  by_cases hi:i<pd.length
  ·rw[Z00 hi] at e
   exact absurd e (hn.2.1 i c)
  ·rw[ZC (by lia)] at e
   obtain⟨a,C,h1,h2⟩:=r.exc _ c e
   exact⟨a,C,by rw[ZC (by lia),← hl];exact h1,h2⟩
 ·by_cases hi:i<pd.length
  ·rw[Z00 hi] at e
   exact absurd e (hn.2.2 i fz kvs)
  ·rw[ZC (by lia)] at e
   obtain⟨a,h1,h2,h3⟩:=r.dct _ fz kvs e
   refine⟨a,ZT.mpr ⟨_,h1,?_⟩,by rw[ZC (by lia),← hl];exact h2,h3⟩
   simp only[Z43,and_true]
   lia
noncomputable def Z4A:FB:=fun _=>some true
noncomputable def Z46 (g:Th→Option (List (Option Dv)))(ft:FB)(fe:FD)(d:Sd):List Th→Option (List Th)
 |[]=>some []
 |t::r=>(g t).bind fun p=>(ft (p++d)).bind fun c=>if c=true then (fe (p++d)).bind fun y=>(Z46 g ft fe d r).bind fun ys=>some (y::ys) else Z46 g ft fe d r
noncomputable def g1:Th→Option (List (Option Dv)):=fun T=>some [some (.th T)]
noncomputable def g2:Th→Option (List (Option Dv)):=fun T=>match T with|.tup [x,y]=>some [some (.th x),some (.th y)]|_=>none
noncomputable def Z29 (g:Th→Option (List (Option Dv)))(fi:FL)(ft:FB)(fe:FD):FL:=fun d=>(fi d).bind fun ts=>if ts.length≤1000000 then Z46 g ft fe d ts else none
structure Zm8 (K:Fg_)(k:Nat)(g:TG)(gd:Th→Option (List (Option Dv))):Prop where
 run:∀ (H:Hp) (O:Hid) (v:V) (T:Th) (p:List (Option Dv)) (σ:St) (Q:St→Hp→Prop),Z0E K (less H O) v T→gd T=some p →
  (∀ pre:List (Option V),pre.length=k→p.length=k→(∀ (i:Nat) (T:Th),p[i]?=some (some (Dv.th T))→∃ v,pre[i]?=some (some v)∧Z0E K (less H O) v T)→((∀ (i:Nat) (ts:List Th),p[i]?≠some (some (Dv.own ts)))∧(∀ (i:Nat) (c:Str),p[i]?≠some (some (Dv.exc c)))∧∀ (i:Nat) (fz:Bool) (kvs:List (Str×Th)),p[i]?≠some (some (Dv.dct fz kvs)))→Q (pre++σ) H)→g v (Zj k none++σ) H Q
theorem ZmM:Zm8 K 1 (Za6 0) g1:=⟨fun H O v T p σ Q b e q=>by
 cases e
 refine q [some v] rfl rfl (fun i T e=>?_) ⟨fun i ts e=>?_,fun i ts e=>?_,fun i fz ts e=>?_⟩
 ·cases i with
  |zero=>cases e;exact⟨v,rfl,b⟩
  |succ i=>simp at e
 ·cases i with
  |zero=>cases e
  |succ i=>simp at e
 ·cases i with
  |zero=>cases e
  |succ i=>simp at e
 ·cases i with
  |zero=>cases e
  |succ i=>simp at e⟩
theorem ZmL:Zm8 K 2 (ZrV K 2 (Zjp (Za6 0) (Zjp (Za6 1) ZrW))) g2:=⟨fun H O v T p σ Q b e q=>by
 unfold g2 at e
 split at e
 ·cases e
  cases b with
  |tup e' b' =>
   obtain⟨v1,v2,rfl,b1,b2⟩:=b'.two
   refine⟨_,_,rfl,(Z0f H O).seqT e',rfl,v1,_,rfl,v2,_,rfl,rfl,?_⟩
   refine q [some v1,some v2] rfl rfl (fun i T e=>?_) ⟨fun i ts e=>?_,fun i ts e=>?_,fun i fz ts e=>?_⟩
   ·cases i with
    |zero=>cases e;exact⟨v1,rfl,b1⟩
    |succ i=>cases i with
     |zero=>cases e;exact⟨v2,rfl,b2⟩
     |succ i=>simp at e
   ·cases i with
    |zero=>cases e
    |succ i=>cases i with
     |zero=>cases e
     |succ i=>simp at e
   ·cases i with
    |zero=>cases e
    |succ i=>cases i with
     |zero=>cases e
     |succ i=>simp at e
   ·cases i with
    |zero=>cases e
    |succ i=>cases i with
     |zero=>cases e
     |succ i=>simp at e
 ·cases e⟩
structure Zs7 (K:Fg_)(J:It)(B:Hp)(O:Hid)(ts:List Th):Prop where
 go:∀ i H,Z0n B H→i<ts.length→J.go i H
 stop:∀ H,Z0n B H→J.stop ts.length H
 yld:∀ i H x H',i<ts.length→Z0n B H→(∀ p,H p=none→¬ O.has p)→J.yld i H x H'→Z0n H H'∧∃ T,ts[i]?=some T∧Z0E K (less H' O) x T
noncomputable def Zj7 (K:Fg_)(f:FL):TI:=fun σ H R=>∃ O d ts,Rep K H O σ d∧f d=some ts∧∀ J H',Z0n H H'→Zs7 K J H' O ts→R J H'
theorem Zr3 {f:FL}:∀ σ H R,Zj7 K f σ H R→Zqm K f σ H R:=fun σ H R ⟨O,d,ts,r,e,q⟩=>⟨O,d,ts,r,e,fun J H' s ok=>q J H' s
 ⟨fun i H2 s2 hi=>ok.go i H2 ((Z9Z H' O).trans s2) hi,fun H2 s2=>ok.stop H2 ((Z9Z H' O).trans s2),fun i H2 x H3 hi s2 hn hy=>ok.yld i H2 O x H3 hi rfl (Z2L s2) hn hy⟩⟩
theorem Rep.hid {H:Hp}{O:Hid}{σ:St}{d:Sd}(r:Rep K H O σ d):∀ m:Option Nat,Rep K H O (ZmH m σ) (ZmH m d)
 |none=>r
 |some j=>by
  have ne:∀ {i:Nat} {D:Dv},(d.set j none)[i]?=some (some D)→j≠i∧d[i]?=some (some D):=by
   intro i D e
   by_cases z:j=i
   ·subst z
    by_cases q:j<d.length
    ·rw[ZG q] at e;cases e
    ·rw[Z3r (by rw[Z1f];exact Z1D (by assumption))] at e;cases e
   ·rw[Zn z] at e;exact⟨z,e⟩
  show Rep K H O (σ.set j none) (d.set j none)
  refine { len:=by rw[Z1f,Z1f];exact r.len,th:=fun i T e=>?_,own:=fun i ts e=>?_,there:=r.there,inj:=r.inj,exc:=fun i c e=>?_,dct:=fun i fz kvs e=>?_ }
  ·obtain⟨z,e⟩:=ne e
   rw[Zn z];exact r.th i T e
  ·obtain⟨z,e⟩:=ne e
   rw[Zn z];exact r.own i ts e
  ·obtain⟨z,e⟩:=ne e
   rw[Zn z];exact r.exc i c e
  ·obtain⟨z,e⟩:=ne e
   rw[Zn z];exact r.dct i fz kvs e
noncomputable def ZmI (m:Option Nat)(g:Th→Option (List (Option Dv)))(fi:FL)(ft:FB)(fe:FD):FL:=fun d=>(fi d).bind fun ts=>if ts.length≤1000000 then Z46 g ft fe (ZmH m d) ts else none
theorem Zho {m:Option Nat}{k:Nat}{g:TG}{gd:Th→Option (List (Option Dv))}(G:Zm8 K k g gd){fi:FL}{ft:FB}{fe:FD}:∀ σ H Q,Zlt K (ZmI m gd fi ft fe) σ H Q→Zme m k (Zj7 K fi) g (liftT K ft) (Z9g K fe) σ H Q:=fun σ H Q z1_=>by
 obtain ⟨O,d,us,R,e,q⟩:=z1_
 unfold ZmI at e
 cases hfi:fi d with
 |none=>rw[hfi] at e;cases e
 |some ts =>
  rw[hfi] at e
  change (if ts.length≤1000000 then Z46 gd ft fe (ZmH m d) ts else none)=some us at e
  split at e
  ·rename_i hz
   refine⟨O,d,ts,R,hfi,?_⟩
   replace R:=R.hid m
   generalize ZmH m d=d at R e
   generalize ZmH m σ=σ at R
   refine fun J H1 s1 ok=>⟨fun i m ys H'=>m=ts.length-i∧i≤ts.length∧Z0n H1 H'∧ys.length≤i∧∃ as rest,Z04 K (less H' O) ys as∧Z46 gd ft fe d (ts.drop i)=some rest∧as++rest=us,⟨ts.length,rfl,Z0r _,Z0n.refl _,Zg _,[],us,.nil,e,rfl⟩,?_⟩
   rintro i m ys H' ⟨rfl,hi,s',hy,as,rest,b,er,eu⟩
   refine⟨ZR hy (ZR hi (ZR hz (by decide))),?_⟩
   have R':Rep K H' O σ d:=R.mono (s1.trans s')
   by_cases hlt:i<ts.length
   ·rw[Z1O hlt] at er
    unfold Z46 at er
    cases hg:gd ts[i] with
    |none=>rw[hg] at er;cases er
    |some p =>
     rw[hg] at er
     change ((ft (p++d)).bind _)=_ at er
     refine .inr ⟨ok.go i H' s' hlt,fun x Hx hyl=>?_⟩
     obtain⟨sx,T,hT,bx⟩:=ok.yld i H' x Hx hlt s' (fun p hp=>R'.notOwn hp) hyl
     rw[Zc hlt] at hT
     cases hT
     refine G.run Hx O x _ p σ _ bx hg fun pre hpl hpd hb hn=>?_
     obtain⟨RS,hle⟩:=(R'.mono sx).shift pre p (by lia) hb hn
     refine⟨⟨by rw[Zd,hpl],by rw[← hpl,Z38]⟩,?_⟩
     cases hft:ft (p++d) with
     |none=>rw[hft] at er;cases er
     |some c =>
      rw[hft] at er
      refine⟨_,_,c,RS,hft,fun H3 s3=>?_⟩
      cases c with
      |false =>
       rw[if_neg Z0H] at *
       refine⟨ts.length-(i+1),by lia,rfl,hlt,(s'.trans sx).trans s3,Nat.le_succ_of_le hy,as,rest,b.mono (Z0M (sx.trans s3)),er,eu⟩
      |true =>
       rw[if_pos rfl] at *
       cases hfe:fe (p++d) with
       |none=>rw[show (some true).bind (fun c=>if c=true then (fe (p++d)).bind fun y=>(Z46 gd ft fe d (ts.drop (i+1))).bind fun ys=>some (y::ys) else Z46 gd ft fe d (ts.drop (i+1)))=(fe (p++d)).bind fun y=>(Z46 gd ft fe d (ts.drop (i+1))).bind fun ys=>some (y::ys) from rfl,hfe] at er;cases er
       |some y =>
        rw[show (some true).bind (fun c=>if c=true then (fe (p++d)).bind fun y=>(Z46 gd ft fe d (ts.drop (i+1))).bind fun ys=>some (y::ys) else Z46 gd ft fe d (ts.drop (i+1)))=(fe (p++d)).bind fun y=>(Z46 gd ft fe d (ts.drop (i+1))).bind fun ys=>some (y::ys) from rfl,hfe] at er
        cases hr:Z46 gd ft fe d (ts.drop (i+1)) with
        |none=>rw[hr] at er;cases er
        |some rs =>
         rw[hr] at er
         cases er
         refine⟨_,_,y,RS.mono s3,hfe,fun v H4 s4 b4=>⟨ts.length-(i+1),by lia,rfl,hlt,((s'.trans sx).trans s3).trans s4,by rw[Zd];simp;omega,as++[y],rs,?_,hr,by rw[Z7];exact eu⟩⟩
         have b4':Z0E K (less H4 O) v y:=by
          have:less H4 ⟨O.own.map fun p=>(pre.length+p.1,p.2),O.far⟩=less H4 O:=((R'.mono ((sx.trans s3).trans s4)).shift pre p (by lia) (fun i T e=>let ⟨v,h1,h2⟩:=hb i T e;⟨v,h1,h2.mono (Z0M (s3.trans s4))⟩) hn).2
          rw[← this];exact b4
         exact (b.mono (Z0M ((sx.trans s3).trans s4))).append (.cons b4' .nil)
   ·have e1:i=ts.length:=by lia
    subst e1
    rw[Z7b] at er
    cases er
    rw[Z1z] at eu
    subst eu
    refine .inl ⟨ok.stop H' s',fun D hD=>q _ _ ((s1.trans s').trans (Z0n.upd hD)) ?_⟩
    exact⟨D,ys,rfl,(s1.trans s').free hD,Z1b,b.mono (Z82 (Z0n.upd hD) hD)⟩
  ·cases e
theorem Z8a {k:Nat}{g:TG}{gd:Th→Option (List (Option Dv))}(G:Zm8 K k g gd){fi:FL}{ft:FB}{fe:FD}:∀ σ H Q,Zlt K (Z29 gd fi ft fe) σ H Q→Zn9 k (Zj7 K fi) g (liftT K ft) (Z9g K fe) σ H Q:=Zho (m:=none) G
end
section
variable {X:Cx}
theorem PIf.imp {X:Cx}{ifs:List Expr}{t t':TT}(h:PIf X ifs t)(i:∀ σ H Q,t' σ H Q→t σ H Q):PIf X ifs t':=fun pins s σ H Q I q=>h pins s σ H Q I (i σ H Q q)
noncomputable def ZoN (X:Cx)(ifs:List Expr)(f:FB):Prop:=PIf X ifs (liftT X.K f)
theorem Zl1:ZoN X [] Z4A:=PIf.imp Znx fun σ H Q z1_=>by obtain ⟨O,d,b,R,e,q⟩:=z1_;cases e;exact q H (Z0n.refl H)
theorem Zl0 {c:Expr}{f:FB}(h:PDT X c f):ZoN X [c] f:=Znw h
theorem ZkO {x:Str}{px pos:Pos}{scope:Scope}{elt iter:Expr}{ifs:List Expr}{fi:FL}{ft:FB}{fe:FD}(hc:X.calm=true)(S:Z1N X [x] scope)(hN:([x]++X.N).Nodup)(hx:scope.names.lookup x=some .local)(hi:PDI X (.Name x px) iter fi)
  (ht:∀ cl s₂ H1 C fp,ZoN (cxC X [x] scope cl s₂ H1 C fp) ifs ft) (he:∀ cl s₂ H1 C fp,PD (cxC X [x] scope cl s₂ H1 C fp) elt fe) (hs:∀ x,foldedSetIterable iter X.env x=pure x:=by intro _;rfl) :
  PF X (.ListComp elt [⟨.Name x px,iter,ifs,0⟩] scope pos) (Z29 g1 fi ft fe) :=
 PE.imp (Ziu (tt:=liftT X.K ft) (te:=Z9g X.K fe) hc S (PI.imp hi Zr3) (fun cl s₂ H1 C fp=>Z65 (i:=0) hN rfl (Zee (Z0w hx)) (.inr (Z0w hx))) ht he hs) (Z8a ZmM)
theorem ZgX {x y:Str}{px py pos spos:Pos}{scope:Scope}{elt iter:Expr}{ifs:List Expr}{fi:FL}{ft:FB}{fe:FD}{i:Nat}(hN0:X.N.Nodup)(hi':X.N[i]?=some y)(hy:Loc X.env.scope y)(hc:X.calm=true)(S:Z1N X [x] scope)(hN:([x]++X.N).Nodup)(hx:scope.names.lookup x=some .local)(hi:PDI X (.Name x px) iter fi)
  (ht:∀ cl s₂ H1 C fp,ZoN (cxC X [x] scope cl s₂ H1 C fp) ifs ft) (he:∀ cl s₂ H1 C fp,PD (cxC X [x] scope cl s₂ H1 C fp) elt fe)
  (hsw:swapsWith (.ListComp elt [⟨.Name x px,iter,ifs,0⟩] scope pos) (some (.Name y py)) spos.line X.env=pure true:=by rfl)
  (hf':X.fn y=true∨X.env.scope.names.lookup y=some .local:=by first|exact .inl rfl|exact .inr rfl|assumption)
  (hs:∀ x,foldedSetIterable iter X.env x=pure x:=by intro _;rfl) :
  PDS X (.Assign [.Name y py] (.ListComp elt [⟨.Name x px,iter,ifs,0⟩] scope pos) spos) (Z1a i (Z3O (Z29 g1 fi ft fe))) :=
 PS.imp (Zil (tt:=liftT X.K ft) (te:=Z9g X.K fe) hN0 hi' hy hc S (PI.imp hi Zr3) (fun cl s₂ H1 C fp=>Z65 (i:=0) hN rfl (Zee (Z0w hx)) (.inr (Z0w hx))) ht he hsw hf' hs) fun D σ H h=>by
  obtain⟨O,d,o,R,e,q⟩:=h
  unfold Z1a Z3O at e
  cases hf:Z29 g1 fi ft fe d with
  |none=>rw[hf] at e;cases e
  |some ts =>
   rw[hf] at e
   cases e
   refine Z8a ZmM σ H _ ⟨O,d,ts,R,hf,fun v H' s b=>?_⟩
   obtain⟨a,xs,rfl,e2,e3,b⟩:=b
   exact q _ H' O rfl (Z2L s) ((R.mono s).set i (.lst (SqL.of (Z28 e3 (R.notOwn e2))) (b.mono Z67)))
end
noncomputable def spF (K:Fg_)(φ:List Th→Option Th):Sp:=fun vs H Q _=>∃ (Z:Addr→Prop) (Ts:List Th) (T:Th),(∀ b,Z b→∃ o,H b=some o)∧Z04 K (less H ⟨[],Z⟩) vs Ts∧φ Ts=some T∧∀ v H',Z0n H H'→Z0E K (less H' ⟨[],Z⟩) v T→Q v H'
structure Callee (P:Program)(w:World)(K:Fg_)(mg:Str→Option Value)(base:Heap)(k:Nat)(x:Str)(φ:List Th→Option Th):Prop where
 ex:∃ (f:Addr) (fd:Z06) (ps:List Str),Z4C P w K mg base CX0 k f fd ps (spF K φ)∧mg x=some (.ref f)∧ZF K (.ref f)=true∧Binds K fd ps []
theorem Callee.mono {P:Program}{w:World}{K:Fg_}{mg:Str→Option Value}{base:Heap}{k j:Nat}{x:Str}{φ:List Th→Option Th}(c:Callee P w K mg base k x φ)(h:k≤j):Callee P w K mg base j x φ :=
 let ⟨f,fd,ps,F,r⟩:=c.ex;⟨f,fd,ps,F.mono h,r⟩
theorem Z83 {H:Hp}{O:Hid}:less H ⟨[],O.has⟩=less H O:=by
 have hh:∀ b,Hid.has ⟨[],O.has⟩ b↔O.has b:=fun b=>⟨fun z=>z.elim (fun q=>by simp at q) id,fun z=>.inr z⟩
 funext b
 unfold less
 by_cases z:O.has b
 ·rw[if_pos z,if_pos ((hh b).mpr z)]
 ·rw[if_neg z,if_neg (fun q=>z ((hh b).mp q))]
theorem ZbY {H:Hp}{Z:Addr→Prop}:low H ⟨[],Z⟩=H:=by funext b;simp[low]
theorem less_none {H:Hp}:less H ⟨[],fun _=>False⟩=H:=by funext b;simp[less,Hid.has]
section
variable {X:Cx}{x:Str}{p pos:Pos}{e:Expr}{es:List Expr}{g:FL}{φ:List Th→Option Th}{k:Nat}
noncomputable def ZZ (φ:List Th→Option Th)(g:FL):FD:=fun d=>(g d).bind φ
theorem ZnV (c:Callee X.prog X.w X.K X.mg X.base k x φ) (hr:Z4B k X.A) (hg:Gl X x) (ha:PDA X (e::es) g) (hdb:(x == ("__debug__":Str))=false:=by decide) (he:starEach (e::es) X.env=(false,eval e X.env)::starEach es X.env:=by rfl) (hpl:(backTo pos (starEach es X.env)).any (·.1)=false:=by rfl) :
  PD X (.Call (.Name x p) (e::es) [] pos) (ZZ φ g):=by
 obtain⟨f,fd,ps,F,hm,hk,hb⟩:=c.ex
 refine PE.imp (Ziv F hr hg hm hk hb .nil ZnW ha hdb he hpl) fun σ H Q z1_=>?_
 obtain ⟨O,d,T,R,e,q⟩:=z1_
 unfold ZZ at e
 cases hgd:g d with
 |none=>rw[hgd] at e;cases e
 |some Ts =>
  rw[hgd] at e
  refine⟨O,d,Ts,R,hgd,fun vs H1 s1 b=>?_⟩
  show spF X.K φ (vs++[]) H1 Q E0
  rw[Z1z]
  refine⟨O.has,Ts,T,fun a ha=>(R.mono s1).there a ha,by rw[Z83];exact b,e,fun v H' s' b'=>q v H' (s1.trans s') ?_⟩
  rw[Z83] at b'
  exact b'
end
noncomputable def Z7l (N:List Str)(Ts:List Th):Sd:=Ts.map (fun T=>some (.th T))++Zj (N.length-Ts.length) none
theorem ZcS {K:Fg_}{H:Hp}{O:Hid}{N:List Str}{vs:List V}{Ts:List Th}(b:Z04 K (less H O) vs Ts)(ho:O.own=[])(hz:∀ a,O.far a→∃ o,H a=some o):Rep K H O (start N vs) (Z7l N Ts) where
 len:=by unfold start Z7l;rw[Zd,Zd,Ze,Ze,Z1o,Z1o,b.length]
 th:=fun i T e=>by
  unfold Z7l at e
  by_cases hi:i<Ts.length
  ·rw[Z00 (by simpa using hi),Z0q] at e
   cases hT:Ts[i]? with
   |none=>rw[hT] at e;cases e
   |some U =>
    rw[hT] at e
    cases e
    obtain⟨v,h1,h2⟩:=b.get hT
    refine⟨v,?_,h2⟩
    unfold start
    rw[Z00 (by rw[Ze,b.length];exact hi),Z0q,h1]
    rfl
  ·rw[ZC (by simpa using hi),Z15] at e
   split at e <;> cases e
 own:=fun i ts e=>by
  unfold Z7l at e
  by_cases hi:i<Ts.length
  ·rw[Z00 (by simpa using hi),Z0q] at e
   cases hT:Ts[i]? with
   |none=>rw[hT] at e;cases e
   |some U=>rw[hT] at e;cases e
  ·rw[ZC (by simpa using hi),Z15] at e
   split at e <;> cases e
 there:=fun a h=>h.elim (fun q=>by rw[ho] at q;simp at q) (hz a)
 inj:=fun i j a h=>by rw[ho] at h;simp at h
 dct:=fun i fz kvs e=>by
  unfold Z7l at e
  by_cases hi:i<Ts.length
  ·rw[Z00 (by simpa using hi),Z0q] at e
   cases hT:Ts[i]? with
   |none=>rw[hT] at e;cases e
   |some U=>rw[hT] at e;cases e
  ·rw[ZC (by simpa using hi),Z15] at e
   split at e <;> cases e
 exc:=fun i c e=>by
  unfold Z7l at e
  by_cases hi:i<Ts.length
  ·rw[Z00 (by simpa using hi),Z0q] at e
   cases hT:Ts[i]? with
   |none=>rw[hT] at e;cases e
   |some U=>rw[hT] at e;cases e
  ·rw[ZC (by simpa using hi),Z15] at e
   split at e <;> cases e
section
variable {P:Program}{w:World}{K:Fg_}{mg:Str→Option Value}{base:Heap}
theorem Fun.okD {x qual:Str}{st:Stmt}{f:Addr}{fd:Z06}{N ps:List Str}{k:Nat}{φ:List Th→Option Th}{body:FS}(F:Fun K x qual st f fd)(S:Z0O N ps (Zt st))
  (hb:∀ (cdv:Value) (A:Around) (outer:List Env) (s:Shared) (H:Hp) (E:XK),Z4B k (A.deeper (envOfC qual (Zt st) s.heap.objs.size f cdv))→Zk5 (ZlR CX0 P w K mg base N qual (Zt st) f cdv A outer s H E).nox (Z0A st) body)
  (hφ:∀ Ts T,φ Ts=some T→Ts.length=ps.length∧body (Z7l N Ts)=some (.rt T)):Z4C P w K mg base CX0 (k+1) f fd ps (spF K φ):=by
 refine F.ok S (fun vs H Q E z1_=>by obtain ⟨Z,Ts,T,_,b,e,_⟩:=z1_;rw[b.length];exact (hφ Ts T e).1) fun cdv A outer s H vs Q E hr z1_=>?_
 obtain ⟨Z,Ts,T,hz,b,e,q⟩:=z1_
 refine⟨_,hb cdv A outer s H E hr,⟨[],Z⟩,Z7l N Ts,.rt T,ZcS b rfl hz,(hφ Ts T e).2,fun v H' s' b'=>q v H' ?_ b'⟩
 rw[ZbY] at s'
 exact s'
theorem Fun.callee {x qual:Str}{st:Stmt}{f:Addr}{fd:Z06}{ps:List Str}{k:Nat}{φ:List Th→Option Th}(F:Fun K x qual st f fd)(G:Z4C P w K mg base CX0 k f fd ps (spF K φ))(hm:mg x=some (.ref f))(hb:Binds K fd ps []):Callee P w K mg base k x φ:=⟨f,fd,ps,G,hm,F.kp,hb⟩
end
noncomputable def Z6h (n:Nat):Bool:=decide (n≤1000000)
theorem Z5D {n:Nat}(h:Z6h n=true):n≤sizeLine:=ZR (of_decide_eq_true h) (by decide)
section
variable {X:Cx}{K:Fg_}{a b c e:Expr}{fa fb fc f:FD}{pos:Pos}
noncomputable def Zmm (K:Fg_):R2:=fun x y H Q=>∃ a b ys,x=.ref a∧y=.ref b∧SqT K H a []∧SqT K H b ys∧Q (.ref b) H
theorem Zla:OpR X (binaryOp .Add) (Zmm X.K):=by
 intro pins s σ H x y v u Q I rx ry h
 obtain⟨a,b,ys,rfl,rfl,ha,hb,q⟩:=h
 cases rx
 cases ry
 obtain⟨its,r1,p1,_⟩:=I.tuple ha
 obtain⟨its2,r2,p2,_⟩:=I.tuple hb
 cases r1
 obtain⟨⟨cls,dd,data,sl⟩,ho,hc,n,hd⟩:=id p1
 obtain⟨⟨cls2,dd2,data2,sl2⟩,ho2,hc2,n2,hd2⟩:=id p2
 simp only at hc hd hc2 hd2
 subst hc hd hc2 hd2
 exact ZdO ⟨_,ho,rfl⟩ ⟨_,ho2,rfl⟩ Zeh ZjY Z6z Z6m (Z5U _ _)
   (tuple_addW0 a b _ its2.toArray n n2 dd dd2 sl sl2 (by simp)) ⟨ho,ho2,⟨.ref b,H,I,rfl,q⟩⟩
noncomputable def Zr2:Th→Th→Option Th
 |.int i,.int j=>some (.int (i+j))
 |.str x,.str y=>if Z6h (x.length+y.length)=true then some (.str (x++y)) else none
 |.tup xs,.tup ys=>if Z6h (xs.length+ys.length)=true then some (.tup (xs++ys)) else none
 |_,_=>none
noncomputable def Znl (K:Fg_):R2:=fun x y H Q=>rI0 (fun i j=>.int (i+j)) x y H Q∨(∃ i j,x=.str i∧y=.str j∧i.length+j.length≤sizeLine∧Q (.str (i++j)) H)∨Zpm K x y H Q∨Zmm K x y H Q
theorem Zo7:OpR X (binaryOp .Add) (Znl X.K):=Zq7.or (Zh3.or (Zo5.or Zla))
theorem Zo9:OpD K (Znl K) Zr2:=fun H O v u x y z Q hn hx hy e q=>by
 unfold Zr2 at e
 split at e
 ·cases e
  exact .inl ⟨_,_,hx.int,hy.int,q _ H (Z0n.refl H) (.int _)⟩
 ·split at e
  ·cases e
   exact .inr (.inl ⟨_,_,hx.str,hy.str,Z5D ‹_›,q _ H (Z0n.refl H) (.str _)⟩)
  ·cases e
 ·split at e
  ·rename_i hz
   cases e
   obtain⟨a,xs,rfl,h1,b1⟩:=hx.tup
   obtain⟨b,ys,rfl,h2,b2⟩:=hy.tup
   have z:=Z5D hz
   rw[← b1.length,← b2.length] at z
   by_cases hxs:xs=[]
   ·subst hxs
    cases b1
    exact .inr (.inr (.inr ⟨a,b,ys,rfl,rfl,(Z0f H O).seqT h1,(Z0f H O).seqT h2,q _ H (Z0n.refl H) (.tup h2 b2)⟩))
   ·refine .inr (.inr (.inl ⟨a,b,xs,ys,rfl,rfl,(Z0f H O).seqT h1,(Z0f H O).seqT h2,hxs,z,fun hys=>?_,fun hys p hp=>?_⟩))
    ·subst hys
     cases b2
     rw[Z1z] at q
     exact q _ H (Z0n.refl H) (.tup h1 b1)
    ·exact q _ _ (Z0n.upd hp) (.tup (SqT.of (Z28 Z1b (hn p hp))) ((b1.append b2).mono (Z0M (Z0n.upd hp))))
  ·cases e
 ·cases e
noncomputable def ZoT:Th→Th→Option Th
 |.int i,.int j=>some (.int (i-j))
 |_,_=>none
theorem ZpR (ha:PB X a fa)(hb:PB X b fb):PD X (.BinOp a .Sub b pos) (f2 ZoT fa fb):=ZiA Zq3 (fun H O v u x y z Q _ hx hy e q=>by
 unfold ZoT at e
 split at e
 ·cases e
  exact⟨_,_,hx.int,hy.int,q _ H (Z0n.refl H) (.int _)⟩
 ·cases e) ha hb
noncomputable def Z7e:Th→Th→Option Th
 |.int i,.int j=>if decide (0<j∧j<1073741824)=true then some (.int (i / j)) else none
 |_,_=>none
noncomputable def Z4m:Th→Th→Option Th
 |.int i,.int j=>if decide (0<j)=true then some (.int (i%j)) else none
 |_,_=>none
theorem ZnU (ha:PB X a fa)(hb:PB X b fb):PD X (.BinOp a .FloorDiv b pos) (f2 Z7e fa fb):=ZiA Zo4 (fun H O v u x y z Q _ hx hy e q=>by
 unfold Z7e at e
 split at e
 ·split at e
  ·rename_i hc
   have hc:=of_decide_eq_true hc
   cases e
   exact⟨_,_,hx.int,hy.int,hc,q _ H (Z0n.refl H) (.int _)⟩
  ·cases e
 ·cases e) ha hb
theorem ZpU (ha:PB X a fa)(hb:PB X b fb):PD X (.BinOp a .Mod b pos) (f2 Z4m fa fb):=ZiA Zq5 (fun H O v u x y z Q _ hx hy e q=>by
 unfold Z4m at e
 split at e
 ·split at e
  ·rename_i hc
   have hc:=of_decide_eq_true hc
   cases e
   exact⟨_,_,hx.int,hy.int,hc,q _ H (Z0n.refl H) (.int _)⟩
  ·cases e
 ·cases e) ha hb
noncomputable def Zbj (fa:FD):FD:=fun d=>(fa d).bind fun x=>match x with|.int i=>some (.int (-i))|_=>none
theorem Zmv (ha:PD X a fa):PD X (.UnaryOp .USub a pos) (Zbj fa):=PE.imp (ZrA Zp6 ha) fun σ H Q z1_=>by
 obtain ⟨O,d,T,R,e,q⟩:=z1_
 unfold Zbj at e
 cases hf:fa d with
 |none=>rw[hf] at e;cases e
 |some x =>
  rw[hf] at e
  cases x with
  |int i=>cases e;exact⟨O,d,.int i,R,hf,fun v H' s b=>by cases b;exact⟨i,rfl,q _ H' s (.int _)⟩⟩
  |_=>cases e
noncomputable def Zpk:R2:=fun x y H Q=>∃ z j,x=.str z∧y=.int j∧MulOk z j∧Q (.str (Z58 z j)) H
theorem Zo2:OpR X (binaryOp .Mult) Zpk:=by
 intro pins s σ H x y v u Q I rx ry h
 obtain⟨z,j,rfl,rfl,hok,q⟩:=h
 obtain⟨t,rfl⟩:=rx
 obtain⟨t',rfl⟩:=ry
 exact SB.mul hok fun t' k=>⟨.str _,H,I.tok _,⟨_,rfl⟩,q⟩
theorem mulOk_of {x:Str}{j:Int}(h0:0≤j)(h1:j≤1000000)(h:x.length*j.toNat≤1000000):MulOk x j:=by
 refine⟨?_,fun h2 h3=>?_,fun h2 h3=>?_⟩
 ·rw[decide_eq_false (by lia),decide_eq_false (by lia)];rfl
 ·have h4:(x.length:Int)*j≤1000000:=by
   have:((x.length*j.toNat:Nat):Int)≤1000000:=by lia
   rw[Zcu,Z9d h0] at this
   exact this
  have h5:(x.length:Int)≤(2 ^ 63-1) / j:=by
   rw[Int.le_ediv_iff_mul_le (by omega)]
   lia
  lia
 ·have:¬ x.length*j.toNat > 2 ^ 24:=by lia
  simpa [Builtin.Str.tooLong,sizeLine] using this
noncomputable def Zqg:Th→Th→Option Th
 |.int i,.int j=>if decide ((-(2 ^ 64)<i∧i<2 ^ 64)∨(-(2 ^ 64)<j∧j<2 ^ 64))=true then some (.int (i*j)) else none
 |.str x,.int j=>if decide (0≤j∧j≤1000000∧x.length*j.toNat≤1000000)=true then some (.str (Z58 x j)) else none
 |_,_=>none
noncomputable def Znj:R2:=fun x y H Q=>rI Zrg (fun i j=>.int (i*j)) x y H Q∨Zpk x y H Q
theorem Zo3:OpR X (binaryOp .Mult) Znj:=Zq4.or Zo2
theorem Zo8:OpD K Znj Zqg:=fun H O v u x y z Q _ hx hy e q=>by
 unfold Zqg at e
 split at e
 ·split at e
  ·rename_i hc
   have hc:=of_decide_eq_true hc
   cases e
   exact .inl ⟨_,_,hx.int,hy.int,hc,q _ H (Z0n.refl H) (.int _)⟩
  ·cases e
 ·split at e
  ·rename_i hc
   obtain⟨h0,h1,h2⟩:=of_decide_eq_true hc
   cases e
   exact .inr ⟨_,_,hx.str,hy.int,mulOk_of h0 h1 h2,q _ H (Z0n.refl H) (.str _)⟩
  ·cases e
 ·cases e
noncomputable def ZhA (K:Fg_)(r:List V→Hp→VK→Prop)(g:List Th→Option Th):Prop:=∀ (H:Hp) (O:Hid) (vs:List V) (ts:List Th) (z:Th) (Q:VK),(∀ p,H p=none→¬ O.has p)→Paired (Z9c K H O) vs ts→g ts=some z→(∀ v' H',Z0n H H'→Z0E K (less H' O) v' z→Q v' H')→r vs H Q
noncomputable def fCB (g:List Th→Option Th)(fs:FL):FD:=fun d=>(fs d).bind g
theorem Zfl {r:List V→Hp→VK→Prop}{g:List Th→Option Th}{fs:FL}(hr:ZhA K r g):∀ σ H Q,Z9g K (fCB g fs) σ H Q→tCB r (Zg8 K fs) σ H Q:=fun σ H Q z1_=>by
 obtain ⟨O,d,T,R,e,q⟩:=z1_
 unfold fCB at e
 cases hf:fs d with
 |none=>rw[hf] at e;cases e
 |some ts =>
  rw[hf] at e
  exact⟨O,d,ts,R,hf,fun vs H1 s1 b1=>hr H1 O vs ts T Q (fun p hp=>(R.mono s1).notOwn hp) b1 e fun v H' s b=>q v H' (s1.trans s) b⟩
theorem ZiD {id:String}{x:Str}{p:Pos}{es:List Expr}{fs:FL}{r:List V→Hp→VK→Prop}{g:List Th→Option Th}(hc:Z7j X (.builtin id) r)(hr:ZhA X.K r g)(hg:Gl X x)(hm:X.mg x=none)(hv:bootBuiltins x=some (.builtin id))(ha:PBA X (e::es) fs)
  (hn:x≠"__name__":=by decide) (hdb:(x == ("__debug__":Str))=false:=by decide) (he:starEach (e::es) X.env=(false,eval e X.env)::starEach es X.env:=by rfl) (hpl:(backTo pos (starEach es X.env)).any (·.1)=false:=by rfl) :
  PD X (.Call (.Name x p) (e::es) [] pos) (fCB g fs):=PE.imp (Z9p hc hg hm hv ha hn hdb he hpl) (Zfl hr)
noncomputable def Z3G:List Th→Option Th
 |[.str x]=>if Z6h x.length=true then some (.int x.length) else none
 |[.lst ts]=>some (.int ts.length)
 |[.tup ts]=>some (.int ts.length)
 |_=>none
noncomputable def Zpl (K:Fg_):List V→Hp→VK→Prop:=fun xs H Q=>(∃ p ys,xs=[.ref p]∧(SqL K H p ys∨SqT K H p ys)∧Q (.int ys.length) H)∨∃ z,xs=[.str z]∧z.length≤sizeLine∧Q (.int z.length) H
theorem ZjE:Z7j X (.builtin "len") (Zpl X.K):=ZdU.or ZdT
theorem Z4Y {α β:Type}{F:α→β→Prop}{xs:List α}{y:β}(h:Paired F xs [y]):∃ x,xs=[x]∧F x y:=by
 cases h with|cons h r=>cases r;exact⟨_,rfl,h⟩
theorem ZnX {α β:Type}{F:α→β→Prop}{xs:List α}{y z:β}(h:Paired F xs [y,z]):∃ x w,xs=[x,w]∧F x y∧F w z:=by
 cases h with|cons h r=>cases r with|cons h2 r2=>cases r2;exact⟨_,_,rfl,h,h2⟩
theorem ZjF:ZhA K (Zpl K) Z3G:=fun H O vs ts z Q hn h e q=>by
 unfold Z3G at e
 split at e
 ·obtain⟨v,rfl,h1⟩:=Z4Y h
  split at e
  ·cases e
   exact .inr ⟨_,by rw[h1.str],Z5D ‹_›,q _ H (Z0n.refl H) (.int _)⟩
  ·cases e
 ·obtain⟨v,rfl,h1⟩:=Z4Y h
  cases e
  obtain⟨a,xs,rfl,h2,b⟩:=h1.lst
  refine .inl ⟨a,xs,rfl,.inl h2,q _ H (Z0n.refl H) ?_⟩
  rw[b.length];exact .int _
 ·obtain⟨v,rfl,h1⟩:=Z4Y h
  cases e
  obtain⟨a,xs,rfl,h2,b⟩:=h1.tup
  refine .inl ⟨a,xs,rfl,.inr ((Z0f H O).seqT h2),q _ H (Z0n.refl H) ?_⟩
  rw[b.length];exact .int _
 ·cases e
theorem ZpW {p:Pos} {es:List Expr} {fs:FL} (hg:Gl X "len") (hm:X.mg "len"=none) (ha:PBA X (e::es) fs) (he:starEach (e::es) X.env=(false,eval e X.env)::starEach es X.env:=by rfl) (hpl:(backTo pos (starEach es X.env)).any (·.1)=false:=by rfl):PD X (.Call (.Name "len" p) (e::es) [] pos) (fCB Z3G fs) :=
 ZiD ZjE ZjF hg hm PySem.boot_len ha (by decide) (by decide) he hpl
end
end L2
namespace HT
open PySem PyProof.Rows
inductive KeyV:Value→L2.Key→Prop where
 |int (i:Int) (t:Tok):KeyV (.int i t) (.inl i)
 |str (x:Str) (t:Tok):KeyV (.str x t) (.inr x)
noncomputable abbrev KeysAre:=Paired KeyV
noncomputable def lexK:List L2.Key→List L2.Key→Option Bool
 |[],[]=>some false
 |[],_::_=>some true
 |_::_,[]=>some false
 |.inl a::xs,.inl b::ys=>if a=b then lexK xs ys else some (decide (a<b))
 |.inr a::xs,.inr b::ys=>if a=b then lexK xs ys else some (decide (a.cps.toList<b.cps.toList))
 |_::_,_::_=>none
theorem rcLt_str (A:Around)(s:Shared)(a:Str)(t:Tok)(c:Str)(u:Tok)(prog:Program)(w:World)(E:Value→Shared→Prop)(Q:Value→Shared→Prop)(h:Q (.bool (decide (a.cps.toList<c.cps.toList))) s) :
  wpAny (model prog w) A (richCompare .Lt (.str a t) (.str c u)) Q E s :=
 (Zcg h:wpAny (model prog w) A (compareOp .Lt (.str a t) (.str c u)) Q E s)
section
open PySem.SeqAt
open PySem.AutoSeq1 (wpAny_loadPart')
open PySem.MeetsSeq PySem.MeetsSeq2 PySem.MeetsSeq3
theorem ZbD (l b:Addr)(items items2:Array Value)(n n2:Nat)(dd dd2:Option Addr)(sl sl2:Array (Option Value))(ns ms:List L2.Key)(z:Bool)(hi:KeysAre items.toList ns)(hj:KeysAre items2.toList ms)(hz:lexK ns ms=some z) :
  Meets (Builtin.«tuple.__lt__» ⟨[.ref l,.ref b],[]⟩)
   (fun _ R s=>s.heap.get? l=some { cls:=.type "tuple",dict:=dd,data:=.seq items n,slots:=sl }∧s.heap.get? b=some { cls:=.type "tuple",dict:=dd2,data:=.seq items2 n2,slots:=sl2 } ∧
    R (.ok (.ret (.bool z))) s) :=
 .of_wp fun prog w A R s h=>by
  obtain⟨hp,g,d,tk,os⟩:=s;obtain⟨hl,hb,h⟩:=h
  have f2:=Zbz
  have z1:items.size=ns.length:=by rw[← hi.length];simp
  have z2:items2.size=ms.length:=by rw[← hj.length];simp
  wp_walk using Z30 hl,Z30 hb,wpAny_forIn_list _ (fun rest b s'=>b.1=none∧s'=⟨hp,g,d,tk,os⟩∧∃ (vs ws:List Value) (ns' ms':List L2.Key),rest=vs.zip ws ∧
   KeysAre vs ns'∧KeysAre ws ms'∧ns'.length+items2.size=ms'.length+items.size∧lexK ns' ms'=some z∧R (.ok (.ret (.bool z))) ⟨hp,g,d,tk,os⟩) _
  case turn =>
   rintro⟨y,x⟩ rest b s' ⟨hb',rfl,vs,ws,ns',ms',hz,hvi,hwi,hlen,hlx,hR⟩
   cases hvi with
   |nil=>rw[List.zip_nil_left] at hz;cases hz
   |cons k1 hvi' =>
    cases hwi with
    |nil=>rw[List.zip_nil_right] at hz;cases hz
    |cons k2 hwi' =>
     rw[Z5V] at hz
     injection hz with hyx hrest
     injection hyx with hy hx
     subst hy hx
     simp only[Zp] at hlen
     cases k1 with
     |int a t =>
      cases k2 with
      |int c u =>
       unfold lexK at hlx
       obtain⟨e,he,hiff⟩:=ZlL A.in1 ⟨hp,g,d,tk,os⟩ a t c u
       refine Z0 (he prog w _ _ ?_)
       cases e with
       |true =>
        rw[if_pos (hiff.mp rfl)] at hlx
        wp_walk
        exact⟨rfl,rfl,_,_,_,_,hrest,hvi',hwi',by lia,hlx,hR⟩
       |false =>
        rw[if_neg (fun q=>absurd (hiff.mpr q) Z0H)] at hlx
        cases hlx
        have hri:=Zkz A.in1 ⟨hp,g,d,tk,os⟩ a t c u prog w
        wp_walk using hri
        exact⟨_,rfl,by simpa using hR⟩
      |str c u=>unfold lexK at hlx;cases hlx
     |str a t =>
      cases k2 with
      |int c u=>unfold lexK at hlx;cases hlx
      |str c u =>
       unfold lexK at hlx
       refine Z0 (Z9D.str_str a t c u prog w _ _ ?_)
       cases e:a == c with
       |true =>
        rw[if_pos (eq_of_beq e)] at hlx
        wp_walk
        exact⟨rfl,rfl,_,_,_,_,hrest,hvi',hwi',by lia,hlx,hR⟩
       |false =>
        rw[if_neg (fun q=>by rw[q] at e;simp at e)] at hlx
        cases hlx
        have hri:=rcLt_str A.in1 ⟨hp,g,d,tk,os⟩ a t c u prog w
        wp_walk using hri
        exact⟨_,rfl,by simpa using hR⟩
  case fin =>
   rintro⟨b1,b2⟩ s' ⟨hb',rfl,vs,ws,ns',ms',hz,hvi,hwi,hlen,hlx,hR⟩
   simp only at hb'
   subst hb'
   have hv:z=decide (items.size<items2.size):=by
    cases hvi with
    |nil =>
     cases hwi with
     |nil =>
      simp only[Z5u] at hlen
      cases hlx
      exact (decide_eq_false (by lia)).symm
     |cons k hw =>
      simp only[Z5u,Zp] at hlen
      cases hlx
      exact (decide_eq_true (by lia)).symm
    |cons k hv =>
     cases hwi with
     |nil =>
      simp only[Z5u,Zp] at hlen
      cases k <;> (cases hlx;exact (decide_eq_false (by lia)).symm)
     |cons k2 hw =>
      rw[Z5V] at hz
      cases hz
   rw[hv] at hR
   wp_walk
   exact⟨_,rfl,by simpa [Builtin.Tuple.tupleCompareSizes] using hR⟩
  case h =>
   exact⟨rfl,rfl,items.toList,items2.toList,ns,ms,rfl,hi,hj,by lia,hz,h⟩
end
section
variable {prog:Program}{w:World}{A:Around}{E:Value→Shared→Prop}{s:Shared}
theorem lt_tupKeys {l b:Addr}{items items2:Array Value}{ns ms:List L2.Key}{z:Bool}{Q:Value→Shared→Prop}(hl:IsTup s.heap l items)(hb:IsTup s.heap b items2)(hi:KeysAre items.toList ns)(hj:KeysAre items2.toList ms)(hz:lexK ns ms=some z)
  (hu:A.units<cLine) (h:Q (.bool z) s):wpAny (model prog w) A (compareOp .Lt (.ref l) (.ref b)) Q E s:=by
 obtain⟨⟨cls,dd,data,sl⟩,ho,hc,n,hd⟩:=id hl
 obtain⟨⟨cls2,dd2,data2,sl2⟩,ho2,hc2,n2,hd2⟩:=id hb
 simp only at hc hd hc2 hd2
 subst hc hd hc2 hd2
 exact richCompare_meets_room (op:=.Lt) ⟨_,ho,rfl⟩ ⟨_,ho2,rfl⟩ PySem.F.slot_tuple_lt PySem.F.entry_tuple_lt (PySem.F.args_tuple_lt_2 _ _) (ZbD l b items items2 n n2 dd dd2 sl sl2 ns ms z hi hj hz)
  ⟨ho,ho2,show Zea z≠Zhv∧Q (.bool z) s from ⟨(fun x=>nomatch x),h⟩⟩ hu
end
end HT
namespace L2
open PySem PySem.Spec PyProof.Rows PySem.SeqAt
mutual
noncomputable def Z0W:Th→Th→Bool
 |.non,.non=>true
 |.bl a,.bl b=>a == b
 |.int a,.int b=>a == b
 |.str a,.str b=>a == b
 |.bl a,.int b=>(if a then 1 else 0) == b
 |.int a,.bl b=>a == (if b then 1 else 0)
 |.tup xs,.tup ys=>Z5d xs ys
 |.lst xs,.lst ys=>Z5d xs ys
 |_,_=>false
noncomputable def Z5d:List Th→List Th→Bool
 |[],[]=>true
 |x::xs,y::ys=>Z0W x y&&Z5d xs ys
 |_,_=>false
end
mutual
noncomputable def dp:Th→Nat
 |.tup ts=>dpL ts+1
 |.lst ts=>dpL ts+1
 |_=>0
noncomputable def dpL:List Th→Nat
 |[]=>0
 |t::r=>max (dp t) (dpL r)
end
theorem Zbl:∀ {ts:List Th} {t:Th} {i:Nat},ts[i]?=some t→dp t≤dpL ts
 |[],_,_,e=>by simp at e
 |x::r,t,0,e=>by simp at e;subst e;unfold dpL;lia
 |x::r,t,i+1,e=>by
  have:=Zbl (ts:=r) (t:=t) (i:=i) (by simpa using e)
  unfold dpL;lia
mutual
theorem Zaa:∀ x:Th,Z0W x x=true
 |.non=>by simp[Z0W]
 |.bl a=>by simp[Z0W]
 |.int a=>by simp[Z0W]
 |.str a=>by simp[Z0W]
 |.tup xs=>by simp only[Z0W];exact Z8A xs
 |.lst xs=>by simp only[Z0W];exact Z8A xs
theorem Z8A:∀ xs:List Th,Z5d xs xs=true
 |[]=>by simp[Z5d]
 |x::xs=>by simp only[Z5d,Zaa x,Z8A xs,Bool.and_self]
end
noncomputable def eAt (xs ys:List Th)(j:Nat):Bool:=match xs[j]?,ys[j]? with|some x,some y=>Z0W x y|_,_=>true
theorem Zad:∀ xs ys:List Th,((Z0L (min xs.length ys.length)).all (eAt xs ys)&&xs.length == ys.length)=Z5d xs ys
 |[],[]=>by simp[Z5d]
 |[],_::_=>by simp[Z5d]
 |_::_,[]=>by simp[Z5d]
 |x::xs,y::ys=>by
  have ih:=Zad xs ys
  have e:min (x::xs).length (y::ys).length=min xs.length ys.length+1:=by simp only[Zp];simp
  rw[e,List.range_succ_eq_map,Z3A,ZaJ]
  have e0:eAt (x::xs) (y::ys) 0=Z0W x y:=by simp[eAt]
  have e1:(eAt (x::xs) (y::ys)∘Nat.succ)=eAt xs ys:=by funext j;simp[eAt]
  rw[e0,e1,Z5d,← ih]
  simp only[Zp,Bool.and_assoc]
  congr 2
  rw[Zcm];simp
theorem Zab:∀ {xs ys:List Th},Z5d xs ys=true→xs.length=ys.length
 |[],[],_=>rfl
 |[],_::_,h=>by simp[Z5d] at h
 |_::_,[],h=>by simp[Z5d] at h
 |x::xs,y::ys,h=>by
  rw[Z5d,Z0a] at h
  simp[Zab h.2]
section
variable {X:Cx}{pins:List (Addr×Obj)}{σ:St}{H:Hp}{s:Shared}
theorem Inv.lt_ne (I:Inv X pins σ H s){a:Addr}{xs ys:List V}(h:SqL X.K H a xs)(h':SqT X.K H a ys):False:=by
 obtain⟨its,r,⟨o,n,e,c,_,d⟩,_⟩:=I.list h
 obtain⟨its',r',⟨o',e',c',n',d'⟩,_⟩:=I.tuple h'
 rw[e] at e';cases e'
 rw[c] at c'
 simp at c'
theorem Z0E.det (I:Inv X pins σ H s):∀ (n:Nat) {v:V} {x y:Th},dp x≤n→Z0E X.K H v x→Z0E X.K H v y→x=y:=by
 intro n
 induction n with
 |zero =>
  intro v x y hn h h'
  cases h with
  |non=>cases h';rfl
  |bl b=>cases h';rfl
  |int b=>cases h';rfl
  |str b=>cases h';rfl
  |tup e h=>unfold dp at hn;exact absurd (by assumption) (Z5y _)
  |lst e h=>unfold dp at hn;exact absurd (by assumption) (Z5y _)
 |succ n ihn =>
  have key:∀ {vs:List V} {ts us:List Th},dpL ts≤n→Z04 X.K H vs ts→Z04 X.K H vs us→ts=us:=by
   intro vs
   induction vs with
   |nil=>intro ts us _ h h';cases h;cases h';rfl
   |cons v vs ih =>
    intro ts us hd h h'
    cases h with
    |cons h r=>cases h' with
     |cons h' r' =>
      unfold dpL at hd
      rw[ihn (by lia) h h',ih (by lia) r r']
  intro v x y hn h h'
  cases h with
  |non=>cases h';rfl
  |bl b=>cases h';rfl
  |int b=>cases h';rfl
  |str b=>cases h';rfl
  |tup e h =>
   cases h' with
   |tup e2 h2 =>
    have q:=I.tuple_inj e e2
    subst q
    unfold dp at hn
    rw[key (by lia) h h2]
   |lst e2 h2=>exact (I.lt_ne e2 e).elim
  |lst e h =>
   cases h' with
   |lst e2 h2 =>
    have q:=I.list_inj e e2
    subst q
    unfold dp at hn
    rw[key (by lia) h h2]
   |tup e2 h2=>exact (I.lt_ne e e2).elim
theorem Z9y {its its2:List Value}{xs ys:List V}{ts us:List Th}{A:Around}(r:Z20 xs its)(r2:Z20 ys its2)(b:Z04 X.K H xs ts)(b2:Z04 X.K H ys us)
  (k:∀ (x y:Th) (v u:V) (a b:Value) (i:Nat),ts[i]?=some x→Z0E X.K H v x→Z0E X.K H u y→RelV v a→RelV u b→EqAt A s a b (Z0W x y)) :
  ∀ j (h1:j<its.toArray.size) (h2:j<its2.toArray.size),EqAt A s its.toArray[j] its2.toArray[j] (eAt ts us j):=fun j h1 h2=>by
 have l1:=r.length
 have l2:=r2.length
 have l3:=b.length
 have l4:=b2.length
 simp only[Zl] at h1 h2
 obtain⟨a,ea,ra⟩:=r.get (i:=j) (x:=xs[j]'(by lia)) (Zc _)
 obtain⟨a2,ea2,ra2⟩:=r2.get (i:=j) (x:=ys[j]'(by lia)) (Zc _)
 obtain⟨t,et,bt⟩:=b.got (i:=j) (v:=xs[j]'(by lia)) (Zc _)
 obtain⟨t2,et2,bt2⟩:=b2.got (i:=j) (v:=ys[j]'(by lia)) (Zc _)
 have e1:its.toArray[j]=a:=by
  rw[Zc h1] at ea
  simpa using ea
 have e2:its2.toArray[j]=a2:=by
  rw[Zc h2] at ea2
  simpa using ea2
 have e3:eAt ts us j=Z0W t t2:=by unfold eAt;rw[et,et2]
 rw[e1,e2,e3]
 exact k t t2 _ _ a a2 j et bt bt2 ra ra2
theorem Z3o (I:Inv X pins σ H s){a:Addr}{xs:List V}(e:SqT X.K H a xs):∃ its:List Value,Z20 xs its∧s.heap.IsTuple a its.toArray:=let ⟨its,r,p,_⟩:=I.tuple e;⟨its,r,p⟩
theorem Z32 (I:Inv X pins σ H s){a:Addr}{xs:List V}(e:SqL X.K H a xs):∃ its:List Value,Z20 xs its∧s.heap.IsList a its.toArray:=let ⟨its,r,p,_⟩:=I.list e;⟨its,r,p.isList⟩
theorem ZfS (I:Inv X pins σ H s)(n:Nat)(ih:∀ (A:Around) (x y:Th) (v u:V) (a b:Value),dp x<n→A.units+n<cLine→Z0E X.K H v x→Z0E X.K H u y→RelV v a→RelV u b→EqAt A s a b (Z0W x y)) :
  ∀ (A:Around) (x y:Th) (v u:V) (a b:Value),dp x≤n→A.units+n+1<cLine→Z0E X.K H v x→Z0E X.K H u y→RelV v a→RelV u b→RcAt A s a b (Z0W x y):=by
 intro A x y v u a b hn hu bx bY ra rb
 have hu0:A.units<cLine:=by lia
 have hin:A.in1.units=A.units+1:=rfl
 cases bx with
 |non =>
  cases ra
  cases bY with
  |non=>cases rb;unfold Z0W;exact RcAt.none_none
  |bl c=>cases rb;unfold Z0W;exact RcAt.none_bool _
  |int c=>obtain⟨_,rfl⟩:=rb;unfold Z0W;exact RcAt.none_int _ _
  |str c=>obtain⟨_,rfl⟩:=rb;unfold Z0W;exact RcAt.none_str _ _
  |tup e h=>cases rb;obtain⟨_,_,p⟩:=Z3o I e;unfold Z0W;exact RcAt.none_tuple p hu0
  |lst e h=>cases rb;obtain⟨_,_,p⟩:=Z32 I e;unfold Z0W;exact RcAt.none_list p hu0
 |bl d =>
  cases ra
  cases bY with
  |non=>cases rb;unfold Z0W;exact RcAt.bool_none _
  |bl c=>cases rb;unfold Z0W;exact RcAt.bool_bool _ _
  |int c=>obtain⟨_,rfl⟩:=rb;unfold Z0W;exact RcAt.bool_int _ _ _
  |str c=>obtain⟨_,rfl⟩:=rb;unfold Z0W;exact RcAt.bool_str _ _ _
  |tup e h=>cases rb;obtain⟨_,_,p⟩:=Z3o I e;unfold Z0W;exact RcAt.bool_tuple _ p hu0
  |lst e h=>cases rb;obtain⟨_,_,p⟩:=Z32 I e;unfold Z0W;exact RcAt.bool_list _ p hu0
 |int d =>
  obtain⟨_,rfl⟩:=ra
  cases bY with
  |non=>cases rb;unfold Z0W;exact RcAt.int_none _ _
  |bl c=>cases rb;unfold Z0W;exact RcAt.int_bool _ _ _
  |int c=>obtain⟨_,rfl⟩:=rb;unfold Z0W;exact RcAt.int_int _ _ _ _
  |str c=>obtain⟨_,rfl⟩:=rb;unfold Z0W;exact RcAt.int_str _ _ _ _
  |tup e h=>cases rb;obtain⟨_,_,p⟩:=Z3o I e;unfold Z0W;exact RcAt.int_tuple _ _ p hu0
  |lst e h=>cases rb;obtain⟨_,_,p⟩:=Z32 I e;unfold Z0W;exact RcAt.int_list _ _ p hu0
 |str d =>
  obtain⟨_,rfl⟩:=ra
  cases bY with
  |non=>cases rb;unfold Z0W;exact RcAt.str_none _ _
  |bl c=>cases rb;unfold Z0W;exact RcAt.str_bool _ _ _
  |int c=>obtain⟨_,rfl⟩:=rb;unfold Z0W;exact RcAt.str_int _ _ _ _
  |str c=>obtain⟨_,rfl⟩:=rb;unfold Z0W;exact RcAt.str_str _ _ _ _
  |tup e h=>cases rb;obtain⟨_,_,p⟩:=Z3o I e;unfold Z0W;exact RcAt.str_tuple _ _ p hu0
  |lst e h=>cases rb;obtain⟨_,_,p⟩:=Z32 I e;unfold Z0W;exact RcAt.str_list _ _ p hu0
 |tup e h =>
  cases ra
  obtain⟨its,r1,p1⟩:=Z3o I e
  cases bY with
  |non=>cases rb;unfold Z0W;exact RcAt.tuple_none p1 hu0
  |bl c=>cases rb;unfold Z0W;exact RcAt.tuple_bool _ p1 hu0
  |int c=>obtain⟨_,rfl⟩:=rb;unfold Z0W;exact RcAt.tuple_int _ _ p1 hu0
  |str c=>obtain⟨_,rfl⟩:=rb;unfold Z0W;exact RcAt.tuple_str _ _ p1 hu0
  |lst e2 h2=>cases rb;obtain⟨its2,r2,p2⟩:=Z32 I e2;unfold Z0W;exact RcAt.tuple_list p1 p2 hu0
  |tup e2 h2 =>
   cases rb
   obtain⟨its2,r2,p2⟩:=Z3o I e2
   have q:=RcAt.tuples (A:=A) p1 p2 hu0 (Z9y r1 r2 h h2 fun x y v u a b i et b1 b2 ra rb=>by
    have:=Zbl et
    unfold dp at hn
    exact ih A.in1 x y v u a b (by exact Z6c (by assumption) (by assumption)) (by rw[hin];lia) b1 b2 ra rb)
   rename_i ts _ _ us
   have z1:its.toArray.size=ts.length:=by rw[Zl,← r1.length,h.length]
   have z2:its2.toArray.size=us.length:=by rw[Zl,← r2.length,h2.length]
   rw[z1,z2,Zad] at q
   unfold Z0W
   exact q
 |lst e h =>
  cases ra
  obtain⟨its,r1,p1⟩:=Z32 I e
  cases bY with
  |non=>cases rb;unfold Z0W;exact RcAt.list_none p1 hu0
  |bl c=>cases rb;unfold Z0W;exact RcAt.list_bool _ p1 hu0
  |int c=>obtain⟨_,rfl⟩:=rb;unfold Z0W;exact RcAt.list_int _ _ p1 hu0
  |str c=>obtain⟨_,rfl⟩:=rb;unfold Z0W;exact RcAt.list_str _ _ p1 hu0
  |tup e2 h2=>cases rb;obtain⟨its2,r2,p2⟩:=Z3o I e2;unfold Z0W;exact RcAt.list_tuple p1 p2 hu0
  |lst e2 h2 =>
   cases rb
   obtain⟨its2,r2,p2⟩:=Z32 I e2
   rename_i ts _ _ us
   have z1:its.toArray.size=ts.length:=by rw[Zl,← r1.length,h.length]
   have z2:its2.toArray.size=us.length:=by rw[Zl,← r2.length,h2.length]
   by_cases hz:its.toArray.size=its2.toArray.size
   ·have q:=RcAt.lists (A:=A) p1 p2 hz hu0 (Z9y r1 r2 h h2 fun x y v u a b i et b1 b2 ra rb=>by
     have:=Zbl et
     unfold dp at hn
     exact ih A.in1 x y v u a b (by lia) (by rw[hin];lia) b1 b2 ra rb)
    have e1:Z5d ts us=(Z0L its.toArray.size).all (eAt ts us):=by
     rw[← Zad,← z1,← z2,← hz,ZhG];simp
    unfold Z0W
    rw[e1]
    exact q
   ·have q:=RcAt.lists_lengths (A:=A) p1 p2 (by simpa using hz) hu0
    have e1:Z5d ts us=false:=by
     cases w:Z5d ts us with
     |false=>rfl
     |true=>exact absurd (by rw[z1,z2];exact Zab w) hz
    unfold Z0W
    rw[e1]
    exact q
theorem Z9B (I:Inv X pins σ H s):∀ (n:Nat) (A:Around) (x y:Th) (v u:V) (a b:Value),dp x<n→A.units+n<cLine→Z0E X.K H v x→Z0E X.K H u y→RelV v a→RelV u b→EqAt A s a b (Z0W x y)
 |0,_,_,_,_,_,_,_,hn,_,_,_,_,_=>absurd hn (Z5y _)
 |n+1,A,x,y,v,u,a,b,hn,hu,bx,bY,ra,rb=>by
  have rc:RcAt A s a b (Z0W x y):=ZfS I n (fun A x y v u a b h1 h2=>Z9B I n A x y v u a b h1 h2) A x y v u a b (by lia) (by omega) bx bY ra rb
  have hu0:A.units<cLine:=by lia
  cases bx with
  |non =>
   cases ra
   cases bY with
   |non=>cases rb;unfold Z0W;exact EqAt.same _
   |bl c=>cases rb;unfold Z0W;exact EqAt.none_bool _
   |int c=>obtain⟨_,rfl⟩:=rb;unfold Z0W;exact EqAt.none_int _ _
   |str c=>obtain⟨_,rfl⟩:=rb;unfold Z0W;exact EqAt.none_str _ _
   |tup e h=>cases rb;obtain⟨_,_,p⟩:=Z3o I e;unfold Z0W;exact EqAt.none_tuple p hu0
   |lst e h=>cases rb;obtain⟨_,_,p⟩:=Z32 I e;unfold Z0W;exact EqAt.none_list p hu0
  |bl d =>
   cases ra
   cases bY with
   |non=>cases rb;unfold Z0W;exact EqAt.bool_none _
   |bl c=>cases rb;unfold Z0W;exact EqAt.bool_bool _ _
   |int c=>obtain⟨_,rfl⟩:=rb;unfold Z0W;exact EqAt.bool_int _ _ _
   |str c=>obtain⟨_,rfl⟩:=rb;unfold Z0W;exact EqAt.bool_str _ _ _
   |tup e h=>cases rb;obtain⟨_,_,p⟩:=Z3o I e;unfold Z0W;exact EqAt.bool_tuple _ p hu0
   |lst e h=>cases rb;obtain⟨_,_,p⟩:=Z32 I e;unfold Z0W;exact EqAt.bool_list _ p hu0
  |int d =>
   obtain⟨_,rfl⟩:=ra
   cases bY with
   |non=>cases rb;unfold Z0W;exact EqAt.int_none _ _
   |bl c=>cases rb;unfold Z0W;exact EqAt.int_bool _ _ _
   |int c=>obtain⟨_,rfl⟩:=rb;unfold Z0W;exact EqAt.int_int _ _ _ _
   |str c=>obtain⟨_,rfl⟩:=rb;unfold Z0W;exact EqAt.int_str _ _ _ _
   |tup e h=>cases rb;obtain⟨_,_,p⟩:=Z3o I e;unfold Z0W;exact EqAt.int_tuple _ _ p hu0
   |lst e h=>cases rb;obtain⟨_,_,p⟩:=Z32 I e;unfold Z0W;exact EqAt.int_list _ _ p hu0
  |str d =>
   obtain⟨_,rfl⟩:=ra
   cases bY with
   |non=>cases rb;unfold Z0W;exact EqAt.str_none _ _
   |bl c=>cases rb;unfold Z0W;exact EqAt.str_bool _ _ _
   |int c=>obtain⟨_,rfl⟩:=rb;unfold Z0W;exact EqAt.str_int _ _ _ _
   |str c=>obtain⟨_,rfl⟩:=rb;unfold Z0W;exact EqAt.str_str _ _ _ _
   |tup e h=>cases rb;obtain⟨_,_,p⟩:=Z3o I e;unfold Z0W;exact EqAt.str_tuple _ _ p hu0
   |lst e h=>cases rb;obtain⟨_,_,p⟩:=Z32 I e;unfold Z0W;exact EqAt.str_list _ _ p hu0
  |tup e h =>
   cases ra
   obtain⟨its,r1,p1⟩:=Z3o I e
   cases bY with
   |non=>cases rb;unfold Z0W;exact EqAt.tuple_none p1 hu0
   |bl c=>cases rb;unfold Z0W;exact EqAt.tuple_bool _ p1 hu0
   |int c=>obtain⟨_,rfl⟩:=rb;unfold Z0W;exact EqAt.tuple_int _ _ p1 hu0
   |str c=>obtain⟨_,rfl⟩:=rb;unfold Z0W;exact EqAt.tuple_str _ _ p1 hu0
   |lst e2 h2=>cases rb;obtain⟨its2,r2,p2⟩:=Z32 I e2;unfold Z0W;exact EqAt.tuple_list p1 p2 hu0
   |@tup a2 _ _ e2 h2 =>
    cases rb
    rename_i a1 _ _ _ _
    by_cases hab:a1=a2
    ·subst hab
     rw[Z0E.det I _ (Zg _) (.tup e h) (.tup e2 h2),Zaa]
     exact EqAt.same _
    ·exact EqAt.of_refs hab rc
  |lst e h =>
   cases ra
   obtain⟨its,r1,p1⟩:=Z32 I e
   cases bY with
   |non=>cases rb;unfold Z0W;exact EqAt.list_none p1 hu0
   |bl c=>cases rb;unfold Z0W;exact EqAt.list_bool _ p1 hu0
   |int c=>obtain⟨_,rfl⟩:=rb;unfold Z0W;exact EqAt.list_int _ _ p1 hu0
   |str c=>obtain⟨_,rfl⟩:=rb;unfold Z0W;exact EqAt.list_str _ _ p1 hu0
   |tup e2 h2=>cases rb;obtain⟨its2,r2,p2⟩:=Z3o I e2;unfold Z0W;exact EqAt.list_tuple p1 p2 hu0
   |@lst a2 _ _ e2 h2 =>
    cases rb
    rename_i a1 _ _ _ _
    by_cases hab:a1=a2
    ·subst hab
     rw[Z0E.det I _ (Zg _) (.lst e h) (.lst e2 h2),Zaa]
     exact EqAt.same _
    ·exact EqAt.of_refs hab rc
end
section
variable {X:Cx}{K:Fg_}{a b c e:Expr}{fa fb fc f:FD}{pos:Pos}{k:Nat}
noncomputable def Zsk (K:Fg_):R2:=fun v u H Q=>∃ x y,Z0E K H v x∧Z0E K H u y∧dp x≤100∧Q (.bl (Z0W x y)) H
theorem ZmA (hr:Z4B k X.A):OpR X (compareOp .Eq) (Zsk X.K):=by
 intro pins s σ H v u a b Q I ra rb h
 obtain⟨x,y,bx,bY,hd,q⟩:=h
 have hu:=hr.un
 have rc:RcAt X.A s a b (Z0W x y):=ZfS I 100 (fun A x y v u a b h1 h2=>Z9B I 100 A x y v u a b h1 h2) X.A x y v u a b hd (by lia) bx bY ra rb
 exact rc _ _ _ _ ⟨.bl _,H,I,rfl,q⟩
noncomputable def oEq:Th→Th→Option Th:=fun x y=>if decide (dp x≤100)=true then some (.bl (Z0W x y)) else none
theorem ZmD:OpD K (Zsk K) oEq:=fun H O v u x y z Q hn hx hy e q=>by
 unfold oEq at e
 split at e
 ·rename_i hd
  cases e
  exact⟨x,y,hx.bears,hy.bears,of_decide_eq_true hd,q _ H (Z0n.refl H) (.bl _)⟩
 ·cases e
theorem ZrI (hr:Z4B k X.A)(ha:PB X a fa)(hb:PB X b fb):PD X (.Compare a [.Eq] [b] pos) (f2 oEq fa fb):=Zd6 (ZmA hr) ZmD ha hb (Z6j _)
theorem ZpO (hr:Z4B k X.A)(ha:PB X a fa)(hb:PB X b fb):PDT X (.Compare a [.Eq] [b] pos) (ZU (f2 oEq fa fb)):=Z6H (ZmA hr) ZmD ha hb (Z6j _)
end
end L2
namespace L2
open PySem PySem.Spec PyProof.Rows PySem.SeqAt
section
variable {X:Cx}{pins:List (Addr×Obj)}{σ:St}{H:Hp}{s:Shared}
theorem ZgQ (I:Inv X pins σ H s)(n:Nat)(ih:∀ (A:Around) (x y:Th) (v u:V) (a b:Value),dp x<n→A.units+n<cLine→Z0E X.K H v x→Z0E X.K H u y→RelV v a→RelV u b→EqAt A s a b (Z0W x y)) :
  ∀ (A:Around) (x y:Th) (v u:V) (a b:Value),dp x≤n→A.units+n+1<cLine→Z0E X.K H v x→Z0E X.K H u y→RelV v a→RelV u b→RcNeAt A s a b (!Z0W x y):=by
 intro A x y v u a b hn hu bx bY ra rb
 have hu0:A.units<cLine:=by lia
 have hin:A.in1.units=A.units+1:=rfl
 cases bx with
 |non =>
  cases ra
  cases bY with
  |non=>cases rb;unfold Z0W;exact RcNeAt.none_none
  |bl c=>cases rb;unfold Z0W;exact RcNeAt.none_bool _
  |int c=>obtain⟨_,rfl⟩:=rb;unfold Z0W;exact RcNeAt.none_int _ _
  |str c=>obtain⟨_,rfl⟩:=rb;unfold Z0W;exact RcNeAt.none_str _ _
  |tup e h=>cases rb;obtain⟨_,_,p⟩:=Z3o I e;unfold Z0W;exact RcNeAt.none_tuple p hu0
  |lst e h=>cases rb;obtain⟨_,_,p⟩:=Z32 I e;unfold Z0W;exact RcNeAt.none_list p hu0
 |bl d =>
  cases ra
  cases bY with
  |non=>cases rb;unfold Z0W;exact RcNeAt.bool_none _
  |bl c=>cases rb;unfold Z0W;exact RcNeAt.bool_bool _ _
  |int c=>obtain⟨_,rfl⟩:=rb;unfold Z0W;exact RcNeAt.bool_int _ _ _
  |str c=>obtain⟨_,rfl⟩:=rb;unfold Z0W;exact RcNeAt.bool_str _ _ _
  |tup e h=>cases rb;obtain⟨_,_,p⟩:=Z3o I e;unfold Z0W;exact RcNeAt.bool_tuple _ p hu0
  |lst e h=>cases rb;obtain⟨_,_,p⟩:=Z32 I e;unfold Z0W;exact RcNeAt.bool_list _ p hu0
 |int d =>
  obtain⟨_,rfl⟩:=ra
  cases bY with
  |non=>cases rb;unfold Z0W;exact RcNeAt.int_none _ _
  |bl c=>cases rb;unfold Z0W;exact RcNeAt.int_bool _ _ _
  |int c=>obtain⟨_,rfl⟩:=rb;unfold Z0W;exact RcNeAt.int_int _ _ _ _
  |str c=>obtain⟨_,rfl⟩:=rb;unfold Z0W;exact RcNeAt.int_str _ _ _ _
  |tup e h=>cases rb;obtain⟨_,_,p⟩:=Z3o I e;unfold Z0W;exact RcNeAt.int_tuple _ _ p hu0
  |lst e h=>cases rb;obtain⟨_,_,p⟩:=Z32 I e;unfold Z0W;exact RcNeAt.int_list _ _ p hu0
 |str d =>
  obtain⟨_,rfl⟩:=ra
  cases bY with
  |non=>cases rb;unfold Z0W;exact RcNeAt.str_none _ _
  |bl c=>cases rb;unfold Z0W;exact RcNeAt.str_bool _ _ _
  |int c=>obtain⟨_,rfl⟩:=rb;unfold Z0W;exact RcNeAt.str_int _ _ _ _
  |str c=>obtain⟨_,rfl⟩:=rb;unfold Z0W;exact RcNeAt.str_str _ _ _ _
  |tup e h=>cases rb;obtain⟨_,_,p⟩:=Z3o I e;unfold Z0W;exact RcNeAt.str_tuple _ _ p hu0
  |lst e h=>cases rb;obtain⟨_,_,p⟩:=Z32 I e;unfold Z0W;exact RcNeAt.str_list _ _ p hu0
 |tup e h =>
  cases ra
  obtain⟨its,r1,p1⟩:=Z3o I e
  cases bY with
  |non=>cases rb;unfold Z0W;exact RcNeAt.tuple_none p1 hu0
  |bl c=>cases rb;unfold Z0W;exact RcNeAt.tuple_bool _ p1 hu0
  |int c=>obtain⟨_,rfl⟩:=rb;unfold Z0W;exact RcNeAt.tuple_int _ _ p1 hu0
  |str c=>obtain⟨_,rfl⟩:=rb;unfold Z0W;exact RcNeAt.tuple_str _ _ p1 hu0
  |lst e2 h2=>cases rb;obtain⟨its2,r2,p2⟩:=Z32 I e2;unfold Z0W;exact RcNeAt.tuple_list p1 p2 hu0
  |tup e2 h2 =>
   cases rb
   obtain⟨its2,r2,p2⟩:=Z3o I e2
   have q:=RcNeAt.tuples (A:=A) p1 p2 hu0 (Z9y r1 r2 h h2 fun x y v u a b i et b1 b2 ra rb=>by
    have:=Zbl et
    unfold dp at hn
    exact ih A.in1 x y v u a b (by lia) (by rw[hin];lia) b1 b2 ra rb)
   rename_i ts _ _ us
   have z1:its.toArray.size=ts.length:=by rw[Zl,← r1.length,h.length]
   have z2:its2.toArray.size=us.length:=by rw[Zl,← r2.length,h2.length]
   rw[z1,z2,Zad] at q
   unfold Z0W
   exact q
 |lst e h =>
  cases ra
  obtain⟨its,r1,p1⟩:=Z32 I e
  cases bY with
  |non=>cases rb;unfold Z0W;exact RcNeAt.list_none p1 hu0
  |bl c=>cases rb;unfold Z0W;exact RcNeAt.list_bool _ p1 hu0
  |int c=>obtain⟨_,rfl⟩:=rb;unfold Z0W;exact RcNeAt.list_int _ _ p1 hu0
  |str c=>obtain⟨_,rfl⟩:=rb;unfold Z0W;exact RcNeAt.list_str _ _ p1 hu0
  |tup e2 h2=>cases rb;obtain⟨its2,r2,p2⟩:=Z3o I e2;unfold Z0W;exact RcNeAt.list_tuple p1 p2 hu0
  |lst e2 h2 =>
   cases rb
   obtain⟨its2,r2,p2⟩:=Z32 I e2
   rename_i ts _ _ us
   have z1:its.toArray.size=ts.length:=by rw[Zl,← r1.length,h.length]
   have z2:its2.toArray.size=us.length:=by rw[Zl,← r2.length,h2.length]
   by_cases hz:its.toArray.size=its2.toArray.size
   ·have q:=RcNeAt.lists (A:=A) p1 p2 hz hu0 (Z9y r1 r2 h h2 fun x y v u a b i et b1 b2 ra rb=>by
     have:=Zbl et
     unfold dp at hn
     exact ih A.in1 x y v u a b (by lia) (by rw[hin];lia) b1 b2 ra rb)
    have e1:Z5d ts us=(Z0L its.toArray.size).all (eAt ts us):=by
     rw[← Zad,← z1,← z2,← hz,ZhG];simp
    unfold Z0W
    rw[e1]
    exact q
   ·have q:=RcNeAt.lists_lengths (A:=A) p1 p2 (by simpa using hz) hu0
    have e1:Z5d ts us=false:=by
     cases w:Z5d ts us with
     |false=>rfl
     |true=>exact absurd (by rw[z1,z2];exact Zab w) hz
    unfold Z0W
    rw[e1]
    exact q
end
section
variable {X:Cx}{K:Fg_}{a b c e:Expr}{fa fb fc f:FD}{pos:Pos}{k:Nat}
noncomputable def Zsc (K:Fg_):R2:=fun v u H Q=>∃ x y,Z0E K H v x∧Z0E K H u y∧dp x≤100∧Q (.bl (!Z0W x y)) H
theorem Zmx (hr:Z4B k X.A):OpR X (compareOp .NotEq) (Zsc X.K):=by
 intro pins s σ H v u a b Q I ra rb h
 obtain⟨x,y,bx,bY,hd,q⟩:=h
 have hu:=hr.un
 have rc:RcNeAt X.A s a b (!Z0W x y):=ZgQ I 100 (fun A x y v u a b h1 h2=>Z9B I 100 A x y v u a b h1 h2) X.A x y v u a b hd (by lia) bx bY ra rb
 exact rc _ _ _ _ ⟨.bl _,H,I,rfl,q⟩
noncomputable def oNe:Th→Th→Option Th:=fun x y=>if decide (dp x≤100)=true then some (.bl (!Z0W x y)) else none
theorem ZmB:OpD K (Zsc K) oNe:=fun H O v u x y z Q hn hx hy e q=>by
 unfold oNe at e
 split at e
 ·rename_i hd
  cases e
  exact⟨x,y,hx.bears,hy.bears,of_decide_eq_true hd,q _ H (Z0n.refl H) (.bl _)⟩
 ·cases e
theorem ZrE (hr:Z4B k X.A)(ha:PB X a fa)(hb:PB X b fb):PD X (.Compare a [.NotEq] [b] pos) (f2 oNe fa fb):=Zd6 (Zmx hr) ZmB ha hb (Z6j _)
theorem ZpK (hr:Z4B k X.A)(ha:PB X a fa)(hb:PB X b fb):PDT X (.Compare a [.NotEq] [b] pos) (ZU (f2 oNe fa fb)):=Z6H (Zmx hr) ZmB ha hb (Z6j _)
noncomputable def Z7D (x:Th):List Th→Bool
 |[]=>false
 |t::r=>Z0W t x||Z7D x r
theorem Ze8 {pins:List (Addr×Obj)}{σ:St}{H:Hp}{s:Shared}{A:Around}(I:Inv X pins σ H s){n:Nat}{x:Th}{v:V}{a:Value}(bx:Z0E X.K H v x)(ra:RelV v a)(hu:A.units+n+1<cLine) :
  ∀ {its:List Value} {xs:List V} {ts:List Th},Z20 xs its→Z04 X.K H xs ts→dpL ts<n→∃ e:Value→Bool,its.any e=Z7D x ts∧∀ y∈its,EqAt A.in1 s y a (e y):=by
 intro its xs ts r b hd
 have key:∀ y∈its,∃ t,EqAt A.in1 s y a (Z0W t x)∧∃ w,RelV w y∧Z0E X.K H w t:=by
  intro y hy
  obtain⟨i,hi⟩:=List.getElem?_of_mem hy
  have hl:=r.length
  have hi':i<its.length:=(Zv.mp hi).1
  obtain⟨u,hu',ru⟩:=r.get (i:=i) (x:=xs[i]'(by lia)) (Zc _)
  rw[hi] at hu';cases hu'
  obtain⟨t,ht,bt⟩:=b.got (i:=i) (v:=xs[i]'(by lia)) (Zc _)
  have:=Zbl ht
  exact⟨t,Z9B I n A.in1 t x _ _ _ _ (by exact Z6c (by assumption) (by assumption)) (by show A.units+1+n<cLine;lia) bt bx ru ra,_,ru,bt⟩
 open Classical in
 refine⟨fun y=>if h:∃ t,EqAt A.in1 s y a (Z0W t x)∧∃ w,RelV w y∧Z0E X.K H w t then Z0W h.choose x else false,?_,fun y hy=>?_⟩
 ·clear hd
  induction r generalizing ts with
  |nil=>cases b;rfl
  |@cons v' y' vs us ry rs ih =>
   cases b with
   |@cons _ t _ ts' bt br =>
    rw[Zfx,Z7D,ih br fun z hz=>key z (Z9 _ hz)]
    congr 1
    have h:=key y' Z4
    simp only[dif_pos h]
    obtain⟨_,w,rw',bw⟩:=h.choose_spec
    have e1:w=v':=rw'.inj ry
    subst e1
    rw[Z0E.det I _ (Zg _) bw bt]
 ·have h:=key y hy
  simp only[dif_pos h]
  exact h.choose_spec.1
noncomputable def Zsj (K:Fg_)(neg:Bool):R2:=fun v u H Q=>∃ x p xs ts,u=.ref p∧Z0E K H v x∧(SqL K H p xs∨SqT K H p xs)∧Z04 K H xs ts∧dpL ts<100∧Q (.bl (if neg then !Z7D x ts else Z7D x ts)) H
theorem ZiJ (hr:Z4B k X.A):OpR X (compareOp .NotIn) (Zsj X.K true):=by
 intro pins s σ H v u a b Q I ra rb h
 obtain⟨x,p,xs,ts,rfl,bx,hs,bts,hd,q⟩:=h
 cases rb
 have hu:=hr.un
 rcases hs with hs|hs
 ·obtain⟨its,r,hl⟩:=Z32 I hs
  obtain⟨e,he,hk⟩:=Ze8 (A:=X.A) I bx ra (n:=100) (by lia) r bts hd
  exact notIn_listAt e hl (fun y hy=>hk y (by simpa using hy)) ⟨.bl _,H,I,by rw[Zn1,he];rfl,q⟩
 ·obtain⟨its,r,hl⟩:=Z3o I hs
  obtain⟨e,he,hk⟩:=Ze8 (A:=X.A) I bx ra (n:=100) (by lia) r bts hd
  exact notIn_tupleAt e hl (fun y hy=>hk y (by simpa using hy)) ⟨.bl _,H,I,by rw[Zn1,he];rfl,q⟩
noncomputable def inS (x y:Str):Bool:=!(ZaL y x 0 y.length 1).isEmpty
noncomputable def oIn (neg:Bool):Th→Th→Option Th
 |x,.lst ts=>if decide (dpL ts<100)=true then some (.bl (if neg then !Z7D x ts else Z7D x ts)) else none
 |x,.tup ts=>if decide (dpL ts<100)=true then some (.bl (if neg then !Z7D x ts else Z7D x ts)) else none
 |.str x,.str y=>some (.bl (if neg then !inS x y else inS x y))
 |_,_=>none
noncomputable def Zsi (neg:Bool):R2:=fun x y H Q=>∃ i j,x=.str i∧y=.str j∧Q (.bl (if neg then !inS i j else inS i j)) H
noncomputable def ZsR (K:Fg_)(neg:Bool):R2:=fun x y H Q=>Zsj K neg x y H Q∨Zsi neg x y H Q
theorem ZiI:OpR X (compareOp .NotIn) (Zsi true):=fun pins s σ H x y v u Q I rx ry h=>Zd8 pins s σ H x y v u Q I rx ry h
theorem Zq9 {neg:Bool}:OpD K (ZsR K neg) (oIn neg):=fun H O v u x y z Q hn hx hy e q=>by
 unfold oIn at e
 split at e
 ·split at e
  ·rename_i hd
   cases e
   obtain⟨a,xs,rfl,h1,b1⟩:=hy.lst
   exact .inl ⟨_,a,xs,_,rfl,hx.bears,.inl h1,b1.mono (Z0f H O),of_decide_eq_true hd,q _ H (Z0n.refl H) (.bl _)⟩
  ·cases e
 ·split at e
  ·rename_i hd
   cases e
   obtain⟨a,xs,rfl,h1,b1⟩:=hy.tup
   exact .inl ⟨_,a,xs,_,rfl,hx.bears,.inr ((Z0f H O).seqT h1),b1.mono (Z0f H O),of_decide_eq_true hd,q _ H (Z0n.refl H) (.bl _)⟩
  ·cases e
 ·cases e
  exact .inr ⟨_,_,hx.str,hy.str,q _ H (Z0n.refl H) (.bl _)⟩
 ·cases e
theorem Ziw (hr:Z4B k X.A)(ha:PB X a fa)(hb:PB X b fb)(hm:behindInMarks .NotIn b=false:=by with_unfolding_all rfl):PDT X (.Compare a [.NotIn] [b] pos) (ZU (f2 (oIn true) fa fb)):=Z6H ((ZiJ hr).or ZiI) Zq9 ha hb hm
end
noncomputable def Z6g:Th→String
 |.non=>"NoneType"
 |.bl _=>"bool"
 |.int _=>"int"
 |.str _=>"str"
 |.tup _=>"tuple"
 |.lst _=>"list"
inductive Zay:String→Prop where
 |str:Zay "str" | tuple:Zay "tuple" | list:Zay "list" | int:Zay "int" | bool:Zay "bool"
noncomputable def isB (t T:String):Bool:=t == T||(t == "bool"&&T == "int")
theorem Zly (K:Fg_)(x:Th){T:String}(h:Zay T):Zbw K (.type (Z6g x)) (.type T)=some (isB (Z6g x) T):=by
 cases h <;> cases x <;> (first|rfl|(simp only[Z6g];unfold Zbw Zm1 ZmQ;kernel_rfl)|(simp only[Z6g];unfold Zbw Zm1 ZmQ;decide +kernel))
section
variable {X:Cx}{K:Fg_}{a b c e:Expr}{fa fb fc f:FD}{pos:Pos}{k:Nat}
noncomputable def ZsQ (K:Fg_)(T:String):List V→Hp→VK→Prop:=fun xs H Q=>∃ v x,xs=[v,.ty T]∧Z0E K H v x∧Q (.bl (isB (Z6g x) T)) H
theorem ZlT {T:String} (hT:Zay T):Z7j X (.builtin "isinstance") (ZsQ X.K T):=by
 intro pins s σ H xs us Q I r h
 obtain⟨v,x,rfl,b,q⟩:=h
 cases r with
 |cons r1 r2=>cases r2 with
  |cons r2 r3 =>
   cases r3
   cases (show _=Z12 T from r2)
   have e:=Zly X.K x hT
   have fin:∀ tk,EP X pins σ Q (.bool (isB (Z6g x) T)) { s with toks:=tk }:=fun tk=>⟨.bl _,H,I.tok _,rfl,q⟩
   cases b with
   |non=>cases r1;exact Z42 PySem.W.kitx_none I.kIn Zej e (fun z=>nomatch z) fin
   |bl y=>cases r1;exact Z42 PySem.W.kitx_bool I.kIn Zej e (fun z=>nomatch z) fin
   |int i=>obtain⟨t,rfl⟩:=r1;exact Z42 PySem.W.kitx_int I.kIn Zej e (fun z=>nomatch z) fin
   |str y=>obtain⟨t,rfl⟩:=r1;exact Z42 PySem.W.kitx_str I.kIn Zej e (fun z=>nomatch z) fin
   |tup e' h' =>
    cases r1
    obtain⟨its,_,o,h1,h2,_⟩:=Z3o I e'
    exact Z42 PySem.W.kitx_tuple I.kIn ⟨o,h1,h2⟩ e (fun z=>nomatch z) fin
   |lst e' h' =>
    cases r1
    obtain⟨its,_,o,h1,h2,_⟩:=Z32 I e'
    exact Z42 PySem.W.kitx_list I.kIn ⟨o,h1,h2⟩ e (fun z=>nomatch z) fin
noncomputable def Zk1 (T:String)(f:FD):FD:=fun d=>(f d).map fun x=>.bl (isB (Z6g x) T)
theorem ZpY {T:String} {N:Str} {p p2:Pos} (hT:Zay T) (ha:PB X a fa) (hg:Gl X "isinstance") (hm:X.mg "isinstance"=none) (hgT:Gl X N) (hmT:X.mg N=none) (hv:bootBuiltins N=some (.type T))
  (hnN:N≠"__name__":=by decide) (hdN:(N == ("__debug__":Str))=false:=by decide)
  (he:starEach [a,.Name N p2] X.env=(false,eval a X.env)::starEach [.Name N p2] X.env:=by rfl) (hpl:(backTo pos (starEach [.Name N p2] X.env)).any (·.1)=false:=by rfl) (he2:starEach [.Name N p2] X.env=(false,eval (.Name N p2) X.env)::starEach [] X.env:=by rfl) :
  PD X (.Call (.Name "isinstance" p) [a,.Name N p2] [] pos) (Zk1 T fa) :=
 PE.imp (Z9p (ZlT hT) hg hm (by rfl) (Z4Z ha (Z4Z (ZnA (v:=.ty T) hgT hmT hv rfl hnN hdN) Z7Z he2) he) (by decide) (by decide) he hpl) fun σ H Q z1_=>by
  obtain ⟨O,d,T',R,e,q⟩:=z1_
  unfold Zk1 at e
  cases hf:fa d with
  |none=>rw[hf] at e;cases e
  |some x =>
   rw[hf] at e
   cases e
   exact⟨O,d,x,R,hf,fun v H' s b=>⟨v,x,rfl,b.bears,q _ H' s (.bl _)⟩⟩
noncomputable def Zcc:List Th→Option (List Bool)
 |[]=>some []
 |.bl b::r=>(Zcc r).map (b::·)
 |_=>none
noncomputable def Zsn (any:Bool):List Th→Option Th
 |[.lst ts]=>(Zcc ts).map fun bs=>.bl (if any then bs.any id else bs.all id)
 |_=>none
noncomputable def keyOf:Th→Option Key
 |.int i=>some (.inl i)
 |.str x=>some (.inr x)
 |_=>none
noncomputable def Z4K:List Th→Option (List Key)
 |[]=>some []
 |t::r=>(keyOf t).bind fun k=>(Z4K r).map (k::·)
theorem Z85 {H:Hp}:∀ {ts:List Th} {ks:List Key} {vs:List V} {us:List Value},Z4K ts=some ks→Z04 K H vs ts→Z20 vs us→HT.KeysAre us ks
 |[],_,_,_,e,b,r=>by cases e;cases b;cases r;exact .nil
 |t::ts,_,_,_,e,b,r=>by
  cases b with
  |cons b1 b2=>cases r with
   |cons r1 r2 =>
    unfold Z4K at e
    cases hk:keyOf t with
    |none=>rw[hk] at e;cases e
    |some k =>
     rw[hk] at e
     change ((Z4K ts).map (k::·))=_ at e
     cases hb:Z4K ts with
     |none=>rw[hb] at e;cases e
     |some bs =>
      rw[hb] at e
      cases e
      refine .cons ?_ (Z85 hb b2 r2)
      cases b1 with
      |int i=>cases hk;obtain⟨t,rfl⟩:=r1;exact .int i t
      |str i=>cases hk;obtain⟨t,rfl⟩:=r1;exact .str i t
      |_=>cases hk
noncomputable def Zsd (K:Fg_):R2:=fun x y H Q=>∃ a b xs ys ts us ns ms z,x=.ref a∧y=.ref b∧SqT K H a xs∧SqT K H b ys∧Z04 K H xs ts∧Z04 K H ys us∧Z4K ts=some ns∧Z4K us=some ms∧HT.lexK ns ms=some z∧Q (.bl z) H
theorem Zq6 (hr:Z4B k X.A):OpR X (compareOp .Lt) (Zsd X.K):=by
 intro pins s σ H x y v u Q I rx ry h
 obtain⟨a,b,xs,ys,ts,us,ns,ms,z,rfl,rfl,ha,hb,ba,bb,ka,kb,hz,q⟩:=h
 cases rx
 cases ry
 obtain⟨its,r1,p1,_⟩:=I.tuple ha
 obtain⟨its2,r2,p2,_⟩:=I.tuple hb
 exact HT.lt_tupKeys p1 p2 (by simpa using Z85 ka ba r1) (by simpa using Z85 kb bb r2) hz hr.units0 ⟨.bl z,H,I,rfl,q⟩
noncomputable def oLt:Th→Th→Option Th
 |.int i,.int j=>some (.bl (decide (i<j)))
 |.str x,.str y=>some (.bl (decide (x.cps.toList<y.cps.toList)))
 |.tup ts,.tup us=>(Z4K ts).bind fun ns=>(Z4K us).bind fun ms=>(HT.lexK ns ms).map .bl
 |_,_=>none
noncomputable def Zse (K:Fg_):R2:=fun x y H Q=>rI0 (fun i j=>.bl (decide (i<j))) x y H Q∨(∃ i j,x=.str i∧y=.str j∧Q (.bl (decide (i.cps.toList<j.cps.toList))) H)∨Zsd K x y H Q
theorem Zmy (hr:Z4B k X.A):OpR X (compareOp .Lt) (Zse X.K):=ZrJ.or (ZiK.or (Zq6 hr))
theorem ZmC:OpD K (Zse K) oLt:=fun H O v u x y z Q hn hx hy e q=>by
 unfold oLt at e
 split at e
 ·cases e;exact .inl ⟨_,_,hx.int,hy.int,q _ H (Z0n.refl H) (.bl _)⟩
 ·cases e;exact .inr (.inl ⟨_,_,hx.str,hy.str,q _ H (Z0n.refl H) (.bl _)⟩)
 ·rename_i ts us
  cases h1:Z4K ts with
  |none=>rw[h1] at e;cases e
  |some ns =>
   rw[h1] at e
   change ((Z4K us).bind fun ms=>(HT.lexK ns ms).map Th.bl)=_ at e
   cases h2:Z4K us with
   |none=>rw[h2] at e;cases e
   |some ms =>
    rw[h2] at e
    change ((HT.lexK ns ms).map Th.bl)=_ at e
    cases h3:HT.lexK ns ms with
    |none=>rw[h3] at e;cases e
    |some k =>
     rw[h3] at e
     cases e
     obtain⟨a,xs,rfl,g1,b1⟩:=hx.tup
     obtain⟨b,ys,rfl,g2,b2⟩:=hy.tup
     exact .inr (.inr ⟨a,b,xs,ys,ts,us,ns,ms,k,rfl,rfl,(Z0f H O).seqT g1,(Z0f H O).seqT g2,b1.mono (Z0f H O),b2.mono (Z0f H O),h1,h2,h3,q _ H (Z0n.refl H) (.bl k)⟩)
 ·cases e
theorem ZrF (hr:Z4B k X.A)(ha:PB X a fa)(hb:PB X b fb):PD X (.Compare a [.Lt] [b] pos) (f2 oLt fa fb):=Zd6 (Zmy hr) ZmC ha hb (Z6j _)
theorem ZpL (hr:Z4B k X.A)(ha:PB X a fa)(hb:PB X b fb):PDT X (.Compare a [.Lt] [b] pos) (ZU (f2 oLt fa fb)):=Z6H (Zmy hr) ZmC ha hb (Z6j _)
noncomputable def ZiW (p:Int→Int→Bool):Th→Th→Option Th
 |.int i,.int j=>some (.bl (p i j))
 |_,_=>none
theorem Zg3 {p:Int→Int→Bool}:OpD K (rI0 fun i j=>.bl (p i j)) (ZiW p):=fun H O v u x y z Q hn hx hy e q=>by
 unfold ZiW at e
 split at e
 ·cases e;exact⟨_,_,hx.int,hy.int,q _ H (Z0n.refl H) (.bl _)⟩
 ·cases e
noncomputable abbrev oLe:=ZiW fun i j=>decide (i≤j)
noncomputable abbrev oGt:=ZiW fun i j=>decide (j<i)
noncomputable abbrev oGe:=ZiW fun i j=>decide (j≤i)
theorem ZpM (ha:PB X a fa)(hb:PB X b fb):PDT X (.Compare a [.Gt] [b] pos) (ZU (f2 oGt fa fb)):=Z6H ZrK Zg3 ha hb (Z6j _)
theorem ZpN (ha:PB X a fa)(hb:PB X b fb):PDT X (.Compare a [.GtE] [b] pos) (ZU (f2 oGe fa fb)):=Z6H ZrL Zg3 ha hb (Z6j _)
noncomputable def ZlB:Th→Bool
 |.non=>true
 |_=>false
noncomputable def Z8v (neg:Bool):Th→Th→Option Th
 |x,.non=>some (.bl (if neg then !ZlB x else ZlB x))
 |_,_=>none
theorem Ze1 {H:Hp}{v:V}{x:Th}(b:Z0E K H v x):decide (v=.non)=ZlB x:=by cases b <;> simp[ZlB]
theorem ZiM:OpD K (fun x y H Q=>y=.non∧Q (.bl (decide (x=.non))) H) (Z8v false):=fun H O v u x y z Q hn hx hy e q=>by
 unfold Z8v at e
 split at e
 ·cases e
  have hb:=hy.bears
  cases hb
  refine⟨rfl,?_⟩
  rw[Ze1 hx.bears]
  exact q _ H (Z0n.refl H) (.bl _)
 ·cases e
theorem Zg2:OpD K (fun x y H Q=>y=.non∧Q (.bl (!decide (x=.non))) H) (Z8v true):=fun H O v u x y z Q hn hx hy e q=>by
 unfold Z8v at e
 split at e
 ·cases e
  have hb:=hy.bears
  cases hb
  refine⟨rfl,?_⟩
  rw[Ze1 hx.bears]
  exact q _ H (Z0n.refl H) (.bl _)
 ·cases e
theorem ZpX (ha:PB X a fa)(hb:PB X b fb):PD X (.Compare a [.Is] [b] pos) (f2 (Z8v false) fa fb):=Zd6 Zmz ZiM ha hb (Z6j _)
theorem ZnF (ha:PB X a fa)(hb:PB X b fb):PDT X (.Compare a [.Is] [b] pos) (ZU (f2 (Z8v false) fa fb)):=Z6H Zmz ZiM ha hb (Z6j _)
theorem ZnR (ha:PB X a fa)(hb:PB X b fb):PD X (.Compare a [.IsNot] [b] pos) (f2 (Z8v true) fa fb):=Zd6 ZiH Zg2 ha hb (Z6j _)
theorem ZkU (ha:PB X a fa)(hb:PB X b fb):PDT X (.Compare a [.IsNot] [b] pos) (ZU (f2 (Z8v true) fa fb)):=Z6H ZiH Zg2 ha hb (Z6j _)
end
noncomputable def Z6w {α:Type}(xs:List α)(lo hi:Option Int):List α:=(xs.drop (HT.sIx xs.length 0 lo)).take (HT.sIx xs.length xs.length hi-HT.sIx xs.length 0 lo)
theorem Zah {α:Type}(xs:List α)(lo hi:Option Int):(Z6w xs lo hi).length≤xs.length:=by
 unfold Z6w
 rw[ZA,ZM]
 lia
theorem Z04.cut {K:Fg_}{H:Hp}{vs:List V}{ts:List Th}(b:Z04 K H vs ts)(lo hi:Option Int):Z04 K H (ZmJ vs lo hi) (Z6w ts lo hi):=by
 unfold ZmJ Z6w
 rw[b.length]
 exact (b.drop _).take _
theorem ZdN {α:Type}{xs:List α}{lo hi:Option Int}(h:HT.sIx xs.length 0 lo=0∧HT.sIx xs.length xs.length hi=xs.length):Z6w xs lo hi=xs:=by
 unfold Z6w
 rw[h.1,h.2,Z3R,Z7N,Z35]
section
variable {prog:Program}{w:World}{A:Around}{E:Value→Shared→Prop}{s:Shared}
theorem Z8z {t sl:Addr}{items:Array Value}{vl vu:Value}{lo hi:Option Int}{Q:Value→Shared→Prop}(ht:IsTup s.heap t items)(hs:s.heap.IsSliceOf sl vl vu .none)(pl:IsPart vl lo)(pu:IsPart vu hi)
  (hw:HT.sIx items.size 0 lo=0∧HT.sIx items.size items.size hi=items.size) (h:Q (.ref t) s):wpAny (model prog w) A (getItem (.ref t) (.ref sl)) Q E s:=by
 obtain⟨os,hos,hcs,hds⟩:=id hs
 have hTs:s.TypeIs (.ref sl) "slice":=⟨os,hos,hcs⟩
 unfold getItem
 try with_reducible refine Z1E ?_
 first|refine Z0 (Za ?_)|skip
 refine Z0 (ZqP ht.typeIs (by decide) ?_)
 refine Z0 (Z1F (name:=ZV "__getitem__") ht.typeIs Z0X
  (Z1r Z0X ht.typeIs ZoW ?_ (ZqJ _ _)))
 show wpAny _ _ (Z8H (.ref t)>>=_) _ _ s
 refine Z0 (Zt7 ht ?_)
 refine Z0 (Z5g hTs ?_)
 rw[if_pos (by decide)]
 refine Z0 (HT.sliceApplied_gen hs pl pu ?_)
 have hyes:(((HT.sIx items.size 0 lo:Nat):Int) == 0&&(1:Int) == 1&&(HT.sIx items.size items.size hi-HT.sIx items.size 0 lo) == items.size)=true:=by
  rw[hw.1,hw.2];simp
 show wpAny _ _ (if (((HT.sIx items.size 0 lo:Nat):Int) == 0&&(1:Int) == 1&&(HT.sIx items.size items.size hi-HT.sIx items.size 0 lo) == items.size)=true then _ else _) _ _ s
 rw[if_pos hyes]
 unfold Builtin.Tuple.tupleIsExact
 refine Z0 (Z0 (Z5g ht.typeIs (Za ?_)))
 rw[if_pos (by decide)]
 exact Z0 (Z2A (Za ⟨_,rfl,Za h⟩))
end
noncomputable def Zgn (x:Str)(lo hi:Option Int):Str:=⟨(Z6w x.cps.toList lo hi).toArray⟩
theorem Zpa (x:Str):(⟨x.cps.toList.toArray⟩:Str)=x:=by cases x;simp
theorem ZcF (x:Str)(lo hi:Option Int):(Z34 lo hi 1 x.length).filterMap (x.cps[·]?)=Z6w x.cps.toList lo hi∧(Z34 lo hi 1 x.length).length=HT.sIx x.length x.length hi-HT.sIx x.length 0 lo:=by
 have e0:Z34 lo hi 1 x.length=sliceRange (sliceBounds lo hi none x.length).1 (sliceBounds lo hi none x.length).2.1 1:=rfl
 obtain⟨h1,h2,h3⟩:=Z8N lo hi x.length
 have hl:x.cps.toList.length=x.length:=by simp[Z5r]
 rw[e0,h1,h2,ZsM]
 refine⟨?_,by simp⟩
 rw[Zt8]
 unfold Z6w
 rw[hl]
section
variable {X:Cx}{e a b:Expr}{te tl th:TE}{pos p2:Pos}
theorem part_of {v:Value}{o:Option Int}(p:IsPart v o):∃ q:Option (Int×Tok),v=partValue q∧q.map (·.1)=o:=by
 cases p with
 |none=>exact⟨none,rfl,rfl⟩
 |int i t=>exact⟨some (i,t),rfl,rfl⟩
noncomputable def Zsa:V→Option Int→Option Int→Hp→VK→Prop:=fun x lo hi H Q=>∃ z,x=.str z∧z.length≤sizeLine∧Q (.str (Zgn z lo hi)) H
theorem Zpd:SlR X Zsa:=by
 intro pins s σ H x v vl vu lo hi sl Q I rx hs pl pu h
 obtain⟨z,rfl,hz,q⟩:=h
 obtain⟨t,rfl⟩:=rx
 obtain⟨l,rfl,hl⟩:=part_of pl
 obtain⟨u,rfl,hu⟩:=part_of pu
 refine⟨"str",_,PySem.F.slot_str_getitem.lookup,ZqW _ _ _,wpAny_getItem_str_slice (l:=l) (u:=u) (st:=none) hs rfl ?_⟩
 obtain⟨c1,c2⟩:=ZcF z lo hi
 have hp:slicePicked z l u none=Z34 lo hi 1 z.length:=by
  unfold slicePicked;rw[hl,hu];rfl
 have hzl:z.cps.toList.length=z.length:=by simp[Z5r]
 unfold sliceMade
 rw[hp,c1,c2]
 split
 ·rename_i hc
  simp only[Z0a,beq_iff_eq] at hc
  have h1:=HT.sIx_le z.length z.length (Zg _) hi
  have h0:=HT.sIx_le z.length 0 (Z0r _) lo
  have e:Zgn z lo hi=z:=by
   unfold Zgn
   rw[ZdN (by rw[hzl];lia)]
  rw[e] at q
  exact⟨.str z,H,I,⟨t,rfl⟩,q⟩
 ·refine⟨?_,⟨.str (Zgn z lo hi),H,I.tok _,⟨_,rfl⟩,q⟩⟩
  have:=Zah z.cps.toList lo hi
  simp only[Z5r,Zl]
  simp only[Z5r] at hz
  simp only[ZN] at this
  exact ZR (by assumption) (by assumption)
noncomputable def Zph (K:Fg_):V→Option Int→Option Int→Hp→VK→Prop:=fun x lo hi H Q=>∃ a xs,x=.ref a∧SqT K H a xs∧(HT.sIx xs.length 0 lo=0∧HT.sIx xs.length xs.length hi=xs.length)∧Q (.ref a) H
theorem Znc:SlR X (Zph X.K):=by
 intro pins s σ H x v vl vu lo hi sl Q I rx hs pl pu h
 obtain⟨a,xs,rfl,hx,hw,q⟩:=h
 cases rx
 obtain⟨its,r,ht,hz⟩:=I.tuple hx
 have hlen:its.toArray.size=xs.length:=by rw[Zl];exact r.length.symm
 exact⟨"tuple",_,Z0X.lookup,ht.typeIs,Z8z ht hs pl pu (by rw[hlen];exact hw) ⟨.ref a,H,I,rfl,q⟩⟩
noncomputable def ZsO (K:Fg_):V→Option Int→Option Int→Hp→VK→Prop:=fun x lo hi H Q=>Zsa x lo hi H Q∨Zs9 K x lo hi H Q∨Zph K x lo hi H Q∨Zsb K x lo hi H Q
theorem Zmf:SlR X (ZsO X.K):=Zpd.or (Zpc.or (Znc.or Zne))
noncomputable abbrev FO:=Sd→Option (Option Int)
noncomputable def ZrO (K:Fg_)(f:FO):TO:=fun σ H Q=>∃ O d o,Rep K H O σ d∧f d=some o∧∀ H',Z0n H H'→Q o H'
noncomputable def PDO (X:Cx)(e:Option Expr)(f:FO):Prop:=PO X e (ZrO X.K f)
theorem PO.imp {e:Option Expr}{t t':TO}(h:PO X e t)(i:∀ σ H Q,t' σ H Q→t σ H Q):PO X e t':=fun pins s σ H Q I q=>h pins s σ H Q I (i σ H Q q)
noncomputable def Z0j:FO:=fun _=>some none
noncomputable def Z1C (f:FD):FO:=fun d=>match f d with|some (.int i)=>some (some i)|_=>none
theorem ZkZ:PDO X none Z0j:=PO.imp Znv fun σ H Q z1_=>by obtain ⟨O,d,o,R,e,q⟩:=z1_;cases e;exact q H (Z0n.refl H)
theorem ZkY {f:FD}(h:PD X e f):PDO X (some e) (Z1C f):=PO.imp (Znu h) fun σ H Q z1_=>by
 obtain ⟨O,d,o,R,e,q⟩:=z1_
 unfold Z1C at e
 split at e
 ·rename_i i hf
  cases e
  exact⟨O,d,.int i,R,hf,fun v H' s b=>by cases b;exact⟨i,rfl,q H' s⟩⟩
 ·cases e
noncomputable def oSl:Th→Option Int→Option Int→Option Th
 |.str x,lo,hi=>if Z6h x.length=true then some (.str (Zgn x lo hi)) else none
 |.tup ts,lo,hi=>some (.tup (Z6w ts lo hi))
 |.lst ts,lo,hi=>some (.lst (Z6w ts lo hi))
 |_,_,_=>none
noncomputable def fSl (f:FD)(fl fh:FO):FD:=fun d=>(f d).bind fun x=>(fl d).bind fun lo=>(fh d).bind fun hi=>oSl x lo hi
theorem Zgh {f:FD}{fl fh:FO}{d:Sd}{T:Th}(h:fSl f fl fh d=some T):∃ x lo hi,f d=some x∧fl d=some lo∧fh d=some hi∧oSl x lo hi=some T:=by
 unfold fSl at h
 cases h1:f d with
 |none=>rw[h1] at h;cases h
 |some x =>
  rw[h1] at h
  change ((fl d).bind fun lo=>(fh d).bind fun hi=>oSl x lo hi)=_ at h
  cases h2:fl d with
  |none=>rw[h2] at h;cases h
  |some lo =>
   rw[h2] at h
   change ((fh d).bind fun hi=>oSl x lo hi)=_ at h
   cases h3:fh d with
   |none=>rw[h3] at h;cases h
   |some hi=>rw[h3] at h;exact⟨x,lo,hi,rfl,rfl,rfl,h⟩
theorem ZaP {α β:Type}{xs:List α}{ys:List β}{lo hi:Option Int}(hl:xs.length=ys.length)(h:HT.sIx xs.length 0 lo=0∧HT.sIx xs.length xs.length hi=xs.length):Z6w ys lo hi=ys:=ZdN (by rw[← hl];exact h)
theorem Zl6 {f:FD}{fl fh:FO}{lo hi:Option Expr}(h:PB X e f)(hl:PDO X lo fl)(hh:PDO X hi fh):PD X (.Subscript e (.Slice lo hi none p2) pos) (fSl f fl fh):=PE.imp (Zg1 Zmf h hl hh) fun σ H Q z1_=>by
 obtain ⟨O,d,T,R,e,q⟩:=z1_
 obtain⟨x,l,u,h1,h2,h3,e⟩:=Zgh e
 refine⟨O,d,x,R,h1,fun v H1 s1 bv=>⟨O,d,l,R.mono s1,h2,fun H2 s2=>⟨O,d,u,R.mono (s1.trans s2),h3,fun H3 s3=>?_⟩⟩⟩
 have s03:Z0n H H3:=(s1.trans s2).trans s3
 have b3:=bv.mono (s2.trans s3)
 unfold oSl at e
 split at e
 ·split at e
  ·cases e
   exact .inl ⟨_,b3.str,Z5D ‹_›,q _ H3 s03 (.str _)⟩
  ·cases e
 ·cases e
  obtain⟨a,xs,rfl,hx,bx⟩:=b3.tup
  by_cases hw:HT.sIx xs.length 0 l=0∧HT.sIx xs.length xs.length u=xs.length
  ·refine .inr (.inr (.inl ⟨a,xs,rfl,(Z0f H3 O).seqT hx,hw,q _ H3 s03 ?_⟩))
   rw[ZaP bx.length hw]
   exact .tup hx bx
  ·exact .inr (.inl ⟨a,xs,rfl,(Z0f H3 O).seqT hx,hw,fun p hp=>q _ _ (s03.trans (Z0n.upd hp)) (.tup (SqT.of (Z28 Z1b ((R.mono s03).notOwn hp))) ((bx.cut l u).mono (Z0M (Z0n.upd hp))))⟩)
 ·cases e
  obtain⟨a,xs,rfl,hx,bx⟩:=b3.lst
  exact .inr (.inr (.inr ⟨a,xs,rfl,hx,fun p hp=>q _ _ (s03.trans (Z0n.upd hp)) (.lst (SqL.of (Z28 Z1b ((R.mono s03).notOwn hp))) ((bx.cut l u).mono (Z0M (Z0n.upd hp))))⟩))
 ·cases e
noncomputable def ZlJ (f:FD)(fl fh:FO):FL:=fun d=>match fSl f fl fh d with|some (.lst ts)=>some ts|_=>none
theorem ZkM {f:FD}{fl fh:FO}{lo hi:Option Expr}(h:PB X e f)(hl:PDO X lo fl)(hh:PDO X hi fh):PF X (.Subscript e (.Slice lo hi none p2) pos) (ZlJ f fl fh):=PE.imp (Zg1 Zmf h hl hh) fun σ H Q z1_=>by
 obtain ⟨O,d,T,R,e,q⟩:=z1_
 unfold ZlJ at e
 split at e
 ·rename_i ts e'
  cases e
  obtain⟨x,l,u,h1,h2,h3,e⟩:=Zgh e'
  refine⟨O,d,x,R,h1,fun v H1 s1 bv=>⟨O,d,l,R.mono s1,h2,fun H2 s2=>⟨O,d,u,R.mono (s1.trans s2),h3,fun H3 s3=>?_⟩⟩⟩
  have s03:Z0n H H3:=(s1.trans s2).trans s3
  have b3:=bv.mono (s2.trans s3)
  unfold oSl at e
  split at e
  ·split at e <;> cases e
  ·cases e
  ·cases e
   obtain⟨a,xs,rfl,hx,bx⟩:=b3.lst
   exact .inr (.inr (.inr ⟨a,xs,rfl,hx,fun p hp=>q _ _ (s03.trans (Z0n.upd hp)) ⟨p,_,rfl,s03.free hp,Z1b,(bx.cut l u).mono (Z82 (Z0n.upd hp) hp)⟩⟩))
  ·cases e
 ·cases e
noncomputable def oIx:Th→Th→Option Th
 |.lst ts,.int i=>atI ts i
 |.tup ts,.int i=>atI ts i
 |.str x,.int i=>if Z6h x.length=true then (atI x.cps.toList i).map fun c=>.str ⟨#[c]⟩ else none
 |_,_=>none
theorem Z04.at {K:Fg_}{H:Hp}{vs:List V}{ts:List Th}{i:Int}{t:Th}(b:Z04 K H vs ts)(h:atI ts i=some t):∃ v,atI vs i=some v∧Z0E K H v t:=by
 unfold atI at h ⊢
 rw[b.length]
 cases e:ixN ts.length i with
 |none=>rw[e] at h;cases h
 |some j =>
  rw[e] at h
  exact b.get h
theorem Zq8 {K:Fg_}:OpD K (rIx K) oIx:=fun H O v u x y z Q hn hx hy e q=>by
 unfold oIx at e
 split at e
 ·obtain⟨a,xs,rfl,h1,b1⟩:=hx.lst
  obtain⟨w,h2,b2⟩:=b1.at e
  exact .inl ⟨a,xs,_,w,rfl,hy.int,h1,h2,q _ H (Z0n.refl H) b2⟩
 ·obtain⟨a,xs,rfl,h1,b1⟩:=hx.tup
  obtain⟨w,h2,b2⟩:=b1.at e
  exact .inr (.inl ⟨a,xs,_,w,rfl,hy.int,(Z0f H O).seqT h1,h2,q _ H (Z0n.refl H) b2⟩)
 ·split at e
  ·rename_i x' i hz
   cases hc:atI x'.cps.toList i with
   |none=>rw[hc] at e;cases e
   |some c =>
    rw[hc] at e
    cases e
    exact .inr (.inr ⟨_,_,c,hx.str,hy.int,Z5D hz,hc,q _ H (Z0n.refl H) (.str _)⟩)
  ·cases e
 ·cases e
theorem ZrG {fa fb:FD}(ha:PB X a fa)(hb:PB X b fb)(hs:Zfs b):PD X (.Subscript a b pos) (f2 oIx fa fb):=PE.imp (ZrC Zqy ha hb hs) (Z9n Zq8)
end
end L2
namespace HT
open PySem PyProof.Rows PySem.Builtin
open PySem.AutoSeq1 (wpAny_loadPart')
theorem noFill_tuple_mul:fillsNumberSlot (.type "tuple") "mul"=pure false :=
 PySem.fillsNumberSlot_seq (id:="tuple.__mul__") (r:=some (.builtin "tuple.__rmul__")) Z6y.lookup (by decide +kernel) Zcp.lookup (by decide +kernel)
theorem repeat_tuple:seqRepeat? (.type "tuple")=pure (some (.builtin "tuple.__mul__")):=by
 unfold seqRepeat?
 rw[Zm0 (T:="tuple") (name:="__mul__") (id:="tuple.__mul__") Z6y.lookup (by decide +kernel),Zm0 (T:="tuple") (name:="__rmul__") (id:="tuple.__rmul__") Zcp.lookup (by decide +kernel)]
 rfl
theorem int_rmul_tuple (a:Int)(t:Tok)(l:Addr)(items:Array Value)(n:Nat)(dd:Option Addr)(sl:Array (Option Value)) :
  Meets (Builtin.«int.__rmul__» ⟨[.int a t,.ref l],[]⟩) (fun _ R s=>s.heap.get? l=some { cls:=.type "tuple",dict:=dd,data:=.seq items n,slots:=sl }∧R (.ok (.ret Zhv)) s) :=
 .of_wp fun prog w A R s h=>by obtain⟨hp,g,d,tk,os⟩:=s;obtain⟨hl,h⟩:=h;wp_walk using ZqR hl;exact⟨_,rfl,h⟩
theorem tuple_mulW (l:Addr)(items:Array Value)(n:Nat)(dd:Option Addr)(sl:Array (Option Value))(k:Int)(t:Tok)(h1:¬ (items.isEmpty=true))(h2:2≤k)(h3:k<2 ^ 63)(h4:items.size*k.toNat≤sizeLine) :
  Meets (Builtin.«tuple.__mul__» ⟨[.ref l,.int k t],[]⟩) (fun _ R s=>s.heap.get? l=some { cls:=.type "tuple",dict:=dd,data:=.seq items n,slots:=sl }∧R (.ok (.ret (Z48 s.heap.objs.size))) { s with heap:=s.heap.push { cls:=Z12 "tuple",data:=Ztd ((Zj k.toNat items).foldl (·++·) #[]) },toks:=s.toks }) :=
 .of_wp fun prog w A R s h=>by
  obtain⟨hp,g,d,tk,os⟩:=s;obtain⟨hl,h⟩:=h
  have f1:=AutoSeq1.idx_int;have f2:=Zbz
  have c1:(decide (k < -(2 ^ 63))||decide (k ≥ 2 ^ 63))=false:=by rw[decide_eq_false (by lia),decide_eq_false (by lia)];rfl
  have c2:(items.isEmpty||k == 1)=false:=by
   cases hi:items.isEmpty with
   |true=>exact absurd hi h1
   |false=>simp;lia
  have c3:(decide (k≤0)||items.isEmpty)=false:=by
   cases hi:items.isEmpty with
   |true=>exact absurd hi h1
   |false=>simp;lia
  have c4:¬ ((items.size:Int)*k > (2 ^ 63-1) / 8):=by
   have z:((items.size*k.toNat:Nat):Int)≤sizeLine:=by exact_mod_cast h4
   rw[Zcu,Z9d (by lia)] at z
   have:(sizeLine:Int)≤(2 ^ 63-1) / 8:=by decide
   omega
  have c5:Z4L ((items.size:Int)*k)=false:=by
   have z:((items.size*k.toNat:Nat):Int)≤sizeLine:=by exact_mod_cast h4
   rw[Zcu,Z9d (by lia)] at z
   unfold Z4L
   exact decide_eq_false (by omega)
  have c1':¬ ((decide (k < -(2 ^ 63))||decide (k ≥ 2 ^ 63))=true):=by rw[c1];exact Z0H
  have c2':¬ ((items.isEmpty||k == 1)=true):=by rw[c2];exact Z0H
  have c3':¬ ((decide (k≤0)||items.isEmpty)=true):=by rw[c3];exact Z0H
  have c5':¬ (Z4L ((items.size:Int)*k)=true):=by rw[c5];exact Z0H
  have hs:((Zj k.toNat items).foldl (·++·) #[]).size≤sizeLine:=by
   have e:∀ (m:Nat) (acc:Array Value),((Zj m items).foldl (·++·) acc).size=acc.size+m*items.size:=by
    intro m
    induction m with
    |zero=>intro acc;simp
    |succ m ih=>intro acc;rw[Z0Z,Z3s,ih,Zkc,Z7M];lia
   rw[e]
   simp only[Array.size_empty,Z0p]
   rw[Zs3];exact h4
  wp_walk using Z30 hl
  rw[if_neg c1']
  wp_walk using Z30 hl
  rw[if_neg c2']
  try dsimp only
  rw[if_neg c3']
  try dsimp only
  rw[if_neg c4]
  try dsimp only
  rw[if_neg c5']
  try dsimp only
  wp_walk
  exact⟨_,rfl,h⟩
end HT
namespace L2
open PySem PySem.Spec PyProof.Rows
section
variable {X:Cx}{K:Fg_}{a b c e:Expr}{fa fb fc f:FD}{pos:Pos}{k:Nat}
noncomputable def Zpn (K:Fg_):R2:=fun x y H Q=>∃ l b xs zs,x=.ref l∧y=.ref b∧SqL K H l xs∧SqL K H b zs∧xs.length+zs.length≤sizeLine∧∀ p,H p=none→Q (.ref p) (upd H p (.lst (xs++zs)))
theorem Zo6:OpR X (binaryOp .Add) (Zpn X.K):=by
 intro pins s σ H x y v u Q I rx ry h
 obtain⟨l,b,xs,zs,rfl,rfl,hl,hb,hz,q⟩:=h
 cases rx
 cases ry
 obtain⟨its,r,⟨o,n,ho,hc,hdd,hd⟩,_⟩:=I.list hl
 obtain⟨its2,r2,⟨o2,n2,ho2,hc2,hdd2,hd2⟩,_⟩:=I.list hb
 obtain⟨cls,dd,data,sl⟩:=o
 obtain⟨cls2,dd2,data2,sl2⟩:=o2
 simp only at hc hd hc2 hd2
 subst hc hd hc2 hd2
 have l1:=r.length
 have l2:=r2.length
 refine ZdO ⟨_,ho,rfl⟩ ⟨_,ho2,rfl⟩ noFill_list_add seq_list_add PySem.F.slot_list_add PySem.F.entry_list_add (PySem.F.args_list_add_2 _ _) (list_addW l b its.toArray its2.toArray n n2 dd dd2 sl sl2 (by simp only[Zl];lia)) ⟨ho,ho2,?_⟩
 have ea:its.toArray++its2.toArray=(its++its2).toArray:=by simp
 rw[ea]
 exact⟨.ref _,_,I.lnew (t':=s.toks) (r.append r2) (by rw[Zd];omega),rfl,q _ I.fresh⟩
noncomputable def Z17:Th→Th→Option Th
 |.lst xs,.lst ys=>if Z6h (xs.length+ys.length)=true then some (.lst (xs++ys)) else none
 |x,y=>Zr2 x y
noncomputable def Zpi (K:Fg_):R2:=fun x y H Q=>Znl K x y H Q∨Zpn K x y H Q
theorem Zo0:OpR X (binaryOp .Add) (Zpi X.K):=Zo7.or Zo6
theorem Zlb:OpD K (Zpi K) Z17:=fun H O v u x y z Q hn hx hy e q=>by
 unfold Z17 at e
 split at e
 ·split at e
  ·rename_i hz
   cases e
   obtain⟨a,xs,rfl,h1,b1⟩:=hx.lst
   obtain⟨b,ys,rfl,h2,b2⟩:=hy.lst
   have z:=Z5D hz
   rw[← b1.length,← b2.length] at z
   exact .inr ⟨a,b,xs,ys,rfl,rfl,h1,h2,z,fun p hp=>q _ _ (Z0n.upd hp) (.lst (SqL.of (Z28 Z1b (hn p hp))) ((b1.append b2).mono (Z0M (Z0n.upd hp))))⟩
  ·cases e
 ·exact .inl (Zo9 H O v u x y z Q hn hx hy e q)
theorem ZnQ (ha:PB X a fa)(hb:PB X b fb):PD X (.BinOp a .Add b pos) (f2 Z17 fa fb):=ZiA Zo0 Zlb ha hb
noncomputable def Zpj (K:Fg_):R2:=fun x y H Q=>∃ l j xs,x=.ref l∧y=.int j∧SqT K H l xs∧xs≠[]∧2≤j∧j<2 ^ 63∧xs.length*j.toNat≤sizeLine∧∀ p,H p=none→Q (.ref p) (upd H p (.tup (Zj j.toNat xs).flatten))
theorem Zo1:OpR X (binaryOp .Mult) (Zpj X.K):=by
 intro pins s σ H x y v u Q I rx ry h
 obtain⟨l,j,xs,rfl,rfl,hl,hne,h2,h3,hz,q⟩:=h
 cases rx
 obtain⟨t,rfl⟩:=ry
 obtain⟨its,r,⟨o,ho,hc,n,hd⟩,_⟩:=I.tuple hl
 obtain⟨cls,dd,data,sl⟩:=o
 simp only at hc hd
 subst hc hd
 have l1:=r.length
 have hnew:Zsx (fun x1 x2=>x1++x2) #[] (Zj j.toNat its.toArray)=(Zj j.toNat its).flatten.toArray:=by
  have:=foldl_rep its j.toNat []
  rw[Zz] at this
  exact this
 refine wpAny_binaryOp_repeat_ref (T:="tuple") (U:="int") (by decide) ⟨_,ho,rfl⟩ (fun s'=>ZqX s' j t) HT.noFill_tuple_mul PySem.F.fills_int_mul Zen HT.repeat_tuple PySem.F.slot_int_index.lookup
  (ZjD Zen (ZqX s j t) PySem.F.entry_int_rmul (PySem.F.args_int_rmul_2 _ _) (HT.int_rmul_tuple j t l its.toArray n dd sl)
   ⟨ho,rfl,⟨_,ho,rfl⟩,ZjD Z6y ⟨_,ho,rfl⟩ PySem.F.entry_tuple_mul (PySem.F.args_tuple_mul_2 _ _) (HT.tuple_mulW l its.toArray n dd sl j t (by
    have:its≠[]:=fun z=>hne (r.nil_iff.mp z)
    simpa using this) h2 h3 (by rw[Zl,← l1];exact hz)) ⟨ho,?_⟩⟩)
 rw[hnew]
 exact⟨.ref _,_,I.laid (t':=s.toks) (o:=.tup (Zj j.toNat xs).flatten) (fun b ob q=>Z1 _ q) (Zg _) ⟨by rw[Zjb,Zs3];exact hz,_,r.rep j.toNat,ZgG _ _⟩,rfl,q _ (I.hok.fresh (Zg _))⟩
noncomputable def Z2x:Th→Th→Option Th
 |.tup xs,.int j=>if decide (xs.length≠0∧2≤j∧j≤1000000∧xs.length*j.toNat≤1000000)=true then some (.tup (Zj j.toNat xs).flatten) else none
 |x,y=>Zqg x y
noncomputable def Zml (K:Fg_):R2:=fun x y H Q=>Znj x y H Q∨Zpj K x y H Q
theorem Zl9:OpR X (binaryOp .Mult) (Zml X.K):=Zo3.or Zo1
theorem ZiL:OpD K (Zml K) Z2x:=fun H O v u x y z Q hn hx hy e q=>by
 unfold Z2x at e
 split at e
 ·split at e
  ·rename_i hc
   obtain⟨h1,h2,h3,h4⟩:=of_decide_eq_true hc
   cases e
   obtain⟨a,xs,rfl,g1,b1⟩:=hx.tup
   rw[← b1.length] at h1 h4
   exact .inr ⟨a,_,xs,rfl,hy.int,(Z0f H O).seqT g1,fun z=>h1 (by rw[z];rfl),h2,by omega,ZR h4 (by decide),fun p hp=>q _ _ (Z0n.upd hp) (.tup (SqT.of (Z28 Z1b (hn p hp))) ((b1.rep _).mono (Z0M (Z0n.upd hp))))⟩
  ·cases e
 ·exact .inl (Zo8 H O v u x y z Q hn hx hy e q)
theorem Zl5 (ha:PB X a fa)(hb:PB X b fb):PD X (.BinOp a .Mult b pos) (f2 Z2x fa fb):=ZiA Zl9 ZiL ha hb
theorem ZiC {T:String}{x:Str}{p:Pos}{es:List Expr}{fs:FL}{r:List V→Hp→VK→Prop}{g:List Th→Option Th}(hc:Z7j X (.type T) r)(hr:ZhA X.K r g)(hg:Gl X x)(hm:X.mg x=none)(hv:bootBuiltins x=some (.type T))(ha:PBA X (e::es) fs)
  (hn:x≠"__name__":=by decide) (hdb:(x == ("__debug__":Str))=false:=by decide) (he:starEach (e::es) X.env=(false,eval e X.env)::starEach es X.env:=by rfl) (hpl:(backTo pos (starEach es X.env)).any (·.1)=false:=by rfl) :
  PD X (.Call (.Name x p) (e::es) [] pos) (fCB g fs):=PE.imp (Zd5 hc hg hm hv ha hn hdb he hpl) (Zfl hr)
noncomputable def Z4y:List Th→Option Th
 |[.lst ts]=>some (.tup ts)
 |[.tup ts]=>some (.tup ts)
 |_=>none
theorem Zfm:ZhA K (fun xs H Q=>∃ p ys,xs=[.ref p]∧((SqL K H p ys∧∀ l,H l=none→Q (.ref l) (upd H l (.tup ys)))∨(SqT K H p ys∧Q (.ref p) H))) Z4y:=fun H O vs ts z Q hn h e q=>by
 unfold Z4y at e
 split at e
 ·obtain⟨v,rfl,h1⟩:=Z4Y h
  cases e
  obtain⟨a,xs,rfl,h2,b⟩:=h1.lst
  exact⟨a,xs,rfl,.inl ⟨h2,fun p hp=>q _ _ (Z0n.upd hp) (.tup (SqT.of (Z28 Z1b (hn p hp))) (b.mono (Z0M (Z0n.upd hp))))⟩⟩
 ·obtain⟨v,rfl,h1⟩:=Z4Y h
  cases e
  obtain⟨a,xs,rfl,h2,b⟩:=h1.tup
  exact⟨a,xs,rfl,.inr ⟨(Z0f H O).seqT h2,q _ H (Z0n.refl H) (.tup h2 b)⟩⟩
 ·cases e
theorem Zl4 {p:Pos} {es:List Expr} {fs:FL} (hg:Gl X "tuple") (hm:X.mg "tuple"=none) (ha:PBA X (e::es) fs) (he:starEach (e::es) X.env=(false,eval e X.env)::starEach es X.env:=by rfl) (hpl:(backTo pos (starEach es X.env)).any (·.1)=false:=by rfl):PD X (.Call (.Name "tuple" p) (e::es) [] pos) (fCB Z4y fs) :=
 ZiC Zca Zfm hg hm (by rfl) ha (by decide) (by decide) he hpl
end
end L2
namespace HT
open PySem PyProof.Rows PySem.Builtin
open PySem.AutoSeq1 (wpAny_loadPart')
section
variable {prog:Program}{w:World}{A:Around}{E:Value→Shared→Prop}{s:Shared}
theorem Z4n {it l:Addr}{i:Nat}{items}{x:Value}{Q:Value→Shared→Prop}(hit:s.heap.IsTupleIter it l i)
  (hl:s.heap.IsTuple l items) (hx:items[i]?=some x)
  (hQ:∀ h',h'.IsTupleIter it l (i+1)→Z0K it s.heap h'→Q x { s with heap:=h' }) :
  wpAny (model prog w) A (Z1v (.ref it)) Q E s:=by
 obtain⟨o,ho,hc,hd⟩:=id hit
 obtain⟨ol,hol,_,nl,hdl⟩:=hl
 unfold Z1v
 refine Z0 (Z1F (name:=ZV "__next__") hit.typeIs Z2p
  (Z1r Z2p hit.typeIs Z8h ?_ (Z8d _)))
 show wpAny _ _ (field (.ref it) 0>>=_) _ _ s
 refine Z0 (Z3a ho hd (x:=.ref l) rfl ?_)
 show wpAny _ _ (if (Z48 l == Z1U)=true then _ else _) _ _ s
 rw[if_neg (show ¬ ((Z48 l == Z1U)=true) from Z0H)]
 show wpAny _ _ (field (.ref it) 1>>=_) _ _ s
 refine Z0 (Z3a ho hd (x:=.int i 0) rfl ?_)
 show wpAny _ _ (seqItems? (.ref l)>>=_) _ _ s
 refine Z0 (Z1W hol hdl ?_)
 simp only[Z16,hx]
 refine Z0 (Z3p ho hd (by simp) (Za ⟨x,rfl,Za (hQ _ ?_ (Z19 ..))⟩))
 exact⟨_,Z1q _ ho (Z7L (Z3m hd _)),(ZaF ..).trans hc,by
  rw[Z3m hd];simp[rawInt]⟩
theorem Z4D {it l:Addr}{i:Nat}{items}{Q:Value→Shared→Prop}(hh:A.handled=none)
  (hit:s.heap.IsTupleIter it l i) (hl:s.heap.IsTuple l items) (hx:items[i]?=none)
  (hE:∀ h' e,Z8G it s.heap h'→(∃ o,h'.get? e=some o∧o.cls=.type "StopIteration")→E (.ref e) { s with heap:=h' }) :
  wpAny (model prog w) A (Z1v (.ref it)) Q E s:=by
 obtain⟨o,ho,hc,hd⟩:=id hit
 obtain⟨ol,hol,_,nl,hdl⟩:=hl
 unfold Z1v
 refine Z0 (Z1F (name:=ZV "__next__") hit.typeIs Z2p
  (Z1r Z2p hit.typeIs Z8h ?_ (Z8d _)))
 show wpAny _ _ (field (.ref it) 0>>=_) _ _ s
 refine Z0 (Z3a ho hd (x:=.ref l) rfl ?_)
 show wpAny _ _ (if (Z48 l == Z1U)=true then _ else _) _ _ s
 rw[if_neg (show ¬ ((Z48 l == Z1U)=true) from Z0H)]
 show wpAny _ _ (field (.ref it) 1>>=_) _ _ s
 refine Z0 (Z3a ho hd (x:=.int i 0) rfl ?_)
 show wpAny _ _ (seqItems? (.ref l)>>=_) _ _ s
 refine Z0 (Z1W hol hdl ?_)
 simp only[Z16,hx]
 refine Z0 (Z2A (Z0 (Z3p ho hd (by simp) ?_)))
 show wpAny _ _ (newExc (.type "StopIteration") []>>=_) _ _ _
 refine Z0 ?_
 simp only[newExc,newTuple]
 refine Z0 (Z0J ?_ (by size_fits))
 refine Z0 (m:=firstArgMember _ _) (ZaA (a:=Z1U) (by first|rfl|(simp only[firstArgMember];rfl)) ?_)
 refine Z0J ?_ (by size_fits)
 simp only[raiseNew]
 refine Z0 (Zt6 ?_)
 first|rw[show A.in1.handled=none from hh]|rw[hh]
 refine Z0 (Za (wpAny_throw ?_))
 exact hE _ _ (((Z19 ..).extBut.push _).push _) ⟨_,Zm _ rfl,rfl⟩
theorem draws_tuple (hh:A.handled=none)(it l:Addr)(hne:l≠it)(items:Array Value) :
  Draws prog w A it [it,l] items.size (fun i v=>items[i]?=some v) (fun i h=>h.IsTupleIter it l i∧h.IsTuple l items) where
 live:=fun _ _ st=>let ⟨o,ho,_⟩:=st.1;⟨o,ho⟩
 frame:=fun _ _ _ st hk=>⟨by
  obtain⟨⟨o,ho,r⟩,_⟩:=st
  exact⟨o,hk it (by simp) o ho,r⟩,by
  obtain⟨_,⟨o,ho,r⟩⟩:=st
  exact⟨o,hk l (by simp) o ho,r⟩⟩
 item:=fun i s Q E hi st hQ=>by
  refine Z4n st.1 st.2 (x:=items[i]) (by simp[hi]) fun h' hit' hs'=>?_
  exact hQ _ h' s.toks (by simp[hi]) ⟨hit',st.2.extBut hs'.extBut hne⟩ hs'
 done:=fun s Q E st hE=>Z4D hh st.1 st.2 (by simp) hE
theorem Z7f (l:Addr)(items:Array Value)(n:Nat)(dct:Option Addr)(sl:Array (Option Value)) :
  Meets (Builtin.«enumerate.__new__» ⟨[.type "enumerate",.ref l],[]⟩) (fun _ R s=>s.heap.get? l=some { cls:=.type "tuple",dict:=dct,data:=.seq items n,slots:=sl } ∧
   R (.ok (.ret (.ref (s.heap.push { cls:=.type "tuple_iterator",data:=.fields #[.ref l,.int 0 0] }).objs.size)))
    { s with heap:=(s.heap.push { cls:=.type "tuple_iterator",data:=.fields #[.ref l,.int 0 0] }).push { cls:=.type "enumerate",data:=.fields #[.none,.bool false,.ref s.heap.objs.size,rawInt 0,.none,.none] } }) :=
 .of_wp fun prog w A R s h=>by
  obtain⟨hp,g,d,tk,os⟩:=s;obtain⟨hl,h⟩:=h
  have hsub:=sub_enumerate
  have hL:ZaK (Zhw ⟨hp,g,d,tk,os⟩) l items:=⟨_,hl,rfl,n,rfl⟩
  wp_walk using Z30 hl
  refine wpAny_stack_any fun st=>Za ?_
  split
  ·rename_i c _ _ _ _ _
   cases (c == Z12 "enumerate")
   ·wp_walk using Z30 hl,Z3x hL
    exact⟨_,rfl,h⟩
   ·wp_walk using Z30 hl,Z3x hL
    exact⟨_,rfl,h⟩
  ·wp_walk using Z30 hl,Z3x hL
   exact⟨_,rfl,h⟩
theorem call_enumerate_tuple {l:Addr}{items:Array Value}{Q:Value→Shared→Prop}(hL:s.heap.IsTuple l items)
  (h:∀ h',IsEnum h' (s.heap.objs.size+1) s.heap.objs.size 0 .none→h'.IsTupleIter s.heap.objs.size l 0→h'.objs.size=s.heap.objs.size+2 →
   (∀ b o,s.heap.get? b=some o→h'.get? b=some o)→Q (.ref (s.heap.objs.size+1)) { s with heap:=h' }) :
  wpAny (model prog w) A (call (.type "enumerate") [.ref l]) Q E s:=by
 obtain⟨⟨c,dct,dt,sl⟩,hl,hc,n,hd⟩:=hL
 replace hc:c=.type "tuple":=hc
 replace hd:dt=.seq items n:=hd
 subst hc hd
 refine callType_new PySem.F.called_enumerate (by decide) (PySem.F.typeCall_enumerate_1 _) (PySem.F.newCall_enumerate_1 _) (fun obj=>PySem.F.args_object_init_2 obj _) PySem.F.entry_enumerate_new
  (Z7f l items n dct sl) ⟨hl,?_⟩
 have hz:(s.heap.push { cls:=.type "tuple_iterator",data:=.fields #[.ref l,.int 0 0] }).objs.size=s.heap.objs.size+1:=Z1P ..
 show _∧_
 rw[hz]
 have he:IsEnum ((s.heap.push { cls:=.type "tuple_iterator",data:=.fields #[.ref l,.int 0 0] }).push
   { cls:=.type "enumerate",data:=.fields #[.none,.bool false,.ref s.heap.objs.size,rawInt 0,.none,.none] }) (s.heap.objs.size+1) s.heap.objs.size 0 .none:=by
  have:=Zm (s.heap.push { cls:=.type "tuple_iterator",data:=.fields #[.ref l,.int 0 0] })
   (o:={ cls:=.type "enumerate",data:=.fields #[.none,.bool false,.ref s.heap.objs.size,rawInt 0,.none,.none] }) rfl
  rw[hz] at this;exact this
 refine⟨⟨_,he,rfl⟩,h _ he ⟨_,Z1 _ (Zm _ rfl),rfl,rfl⟩ (by rw[Z1P,hz]) fun b o x=>Z1 _ (Z1 _ x)⟩
theorem draws_str (hh:A.handled=none)(it:Addr)(x:Str)(t:Tok) :
  Draws prog w A it [it] x.cps.size (fun i v=>∃ c u,x.cps[i]?=some c∧v=.str ⟨#[c]⟩ u) (fun i h=>h.IsStrIter it (strIterType x) x t i):=by
 cases ha:x.cps.all (·<128)
 ·have e:strIterType x="str_iterator":=by simp[strIterType,ha]
  rw[e];exact Draws.strWide hh it x t
 ·have e:strIterType x="str_ascii_iterator":=by simp[strIterType,ha]
  rw[e];exact Draws.strAscii hh it x t
end
end HT
namespace L2
open PySem PySem.Spec PyProof.Rows
theorem Inv.turned2 {X:Cx}{pins:List (Addr×Obj)}{σ:St}{H:Hp}{s:Shared}{h':Heap}{t':Nat}{e it:Addr}(I:Inv X pins σ H s)(k:∀ b o,b≠e→b≠it→s.heap.get? b=some o→h'.get? b=some o)
  (en:H e=none) (eL:e≠X.env.locals) (e1:e∈X.ex∨X.s₀.heap.objs.size≤e) (e2:∀ x c,X.env.cells.lookup x=some c→c≠e) (e3:∀ p∈X.pn++pins,p.1≠e)
  (hn:H it=none) (hL:it≠X.env.locals) (h1:it∈X.ex∨X.s₀.heap.objs.size≤it) (h2:∀ x c,X.env.cells.lookup x=some c→c≠it) (h3:∀ p∈X.pn++pins,p.1≠it):Inv X pins σ H { s with heap:=h',toks:=t' }:=by
 have nit:∀ b u,H b=some u→b≠e∧b≠it:=fun b u q=>⟨(fun z=>by rw[z,en] at q;cases q),(fun z=>by rw[z,hn] at q;cases q)⟩
 refine I.step (g':=s.gens) (d':=s.drawn) (ch:=[e,it]) (fun b hb=>?_) (fun b o _ _ hc q _=>k b o (fun z=>hc (by simp[z])) (fun z=>hc (by simp[z])) q) (fun b o _ _ hc q _=>⟨o.slots,k b o (fun z=>hc (by simp[z])) (fun z=>hc (by simp[z])) q⟩) (fun _ _ _ _ n=>n)
  (fun b o hc q=>⟨o,k b o (fun z=>hc (by simp[z])) (fun z=>hc (by simp[z])) q⟩) (fun _ _ q=>q) (fun _ _ _ q=>q) (fun b ps q=>⟨#[],by rw[q];simp⟩) (fun m hm=>?_) (fun b u q=>?_) I.bare
 ·have z:b=e∨b=it:=by simpa using hb
  rcases z with rfl|rfl
  ·exact⟨e1,eL,e2,e3⟩
  ·exact⟨h1,hL,h2,h3⟩
 ·obtain⟨o,es,ep,ho,r⟩:=hm
  exact⟨o,es,ep,k _ o (Z2q eL) (Z2q hL) ho,r⟩
 ·refine (I.hok b u q).stay (fun c v hc z=>k c v ?_ ?_ z) (fun _ z=>z) fun _ _ z=>z
  ·rcases hc with z|z
   ·rw[z];exact (nit b u q).1
   ·exact (nit c _ z).1
  ·rcases hc with z|z
   ·rw[z];exact (nit b u q).2
   ·exact (nit c _ z).2
noncomputable def Ite (J:It):It:=⟨J.go,fun i H x H''=>∃ y H' T,J.yld i H y H'∧x=.ref T∧H' T=none∧H''=upd H' T (.tup [.int i,y]),J.stop⟩
theorem ZdJ {X:Cx}{es:List Expr}{k1:Nat}{tp:Pos}{e it:Addr}{i:Nat}{pins:List (Addr×Obj)}{s:Shared}{σ:St}{H:Hp}{E:Value→Shared→Prop}{fp:List Addr}{n:Nat}{P:Nat→Value→Prop}{St:Nat→Heap→Prop}{J:It}{tn:Nat→Heap→Prop}{old:Value}
  (D:Draws X.prog X.w X.A.in1 it fp n P St) (I:Inv X pins σ H s) (hf:∀ b∈[e,it],Zfy X pins H b) (he:IsEnum s.heap e it i old) (hst:St i s.heap) (hlt:i<n) (hne:e≠it) (hef:e∉fp)
  (hP:∀ x,P i x→∃ v,RelV v x∧J.yld i H v H) (hS:∀ h,St (i+1) h→tn (i+1) h) (htn:∀ h h',tn (i+1) h→(∀ b∈[it],∀ o,h.get? b=some o→h'.get? b=some o)→tn (i+1) h') :
  wpAny (model X.prog X.w) X.A (pyNext (.ref e)) (fun r s1=>∃ u,r=some u ∧
   wpAny (model X.prog X.w) X.A (letOwnedTupleGo (.Tuple es k1 tp) (.ref e) u) (fun _ s2=>∃ x H',Inv X pins σ H' s2∧RelV x u∧(Ite J).yld i H x H'∧((∃ old,IsEnum s2.heap e it ((i+1:Nat):Int) old)∧tn (i+1) s2.heap)∧∀ b∈[e,it],H' b=none) E s1) E s:=by
 obtain⟨e0,e1,e2,e3,e4,e5⟩:=hf e (by simp)
 obtain⟨f0,f1,f2,f3,f4,f5⟩:=hf it (by simp)
 refine wpAny_pyNext_enum_itemD D he hst hlt hne hef fun x h' tk hx ho hs' hT hsz hk=>?_
 obtain⟨v,rv,hy⟩:=hP x hx
 refine⟨_,rfl,?_⟩
 refine wpAny_letOwnedTupleGo_enum ho fun h2 he2 hsb=>?_
 have I1:Inv X pins σ H { s with heap:=h2,toks:=tk+1 }:=by
  have k2:∀ b o,b≠e→b≠it→s.heap.get? b=some o→h2.get? b=some o:=fun b o hb1 hb2 hb=>(hsb.2 b hb1).trans (hk b o hb1 hb2 hb)
  exact I.turned2 k2 e0 e1 e3 e4 e5 f0 f1 f3 f4 f5
 have hTn:H s.heap.objs.size=none:=I.fresh
 have hlte:e<s.heap.objs.size:=Zw he
 have hlti:it<s.heap.objs.size:=by obtain⟨o,z⟩:=D.live _ _ hst;exact Zw z
 have hT2:h2.get? s.heap.objs.size=some { cls:=.type "tuple",data:=.seq #[.int i tk,x] }:=(hsb.2 _ (Z2V hlte)).trans hT
 obtain⟨g0,g1,g2,g3,g4,g5⟩:=I.fpOk (b:=s.heap.objs.size) (H':=H) (Zg _) hTn
 refine⟨.ref s.heap.objs.size,upd H s.heap.objs.size (.tup [.int i,v]),?_,rfl,⟨v,H,s.heap.objs.size,hy,rfl,hTn,rfl⟩,⟨⟨x,by simpa using he2⟩,htn _ _ (hS _ hs') fun b hb o z=>?_⟩,fun b hb=>?_⟩
 ·refine I1.track hTn (ZR I.sz (Zg _)) g1 g4 g5 ?_
  exact⟨by show 2≤sizeLine;decide,[.int i tk,x],.cons ⟨tk,rfl⟩ (.cons rv .nil),⟨_,hT2,rfl,_,rfl⟩⟩
 ·have:b=it:=by simpa using hb
  subst this
  exact (hsb.2 _ (Z2q hne)).trans z
 ·have:b=e∨b=it:=by simpa using hb
  rcases this with rfl|rfl
  ·rw[Z1S (ZW hlte)];exact e0
  ·rw[Z1S (ZW hlti)];exact f0
theorem Zgi {e it:Addr}{i:Int}{h:Heap}(he:∃ old,IsEnum h e it i old){b:Addr}(hb:b=e):∃ o,h.get? b=some o∧∀ v,o.data≠.cell v:=by
 subst hb
 obtain⟨old,he⟩:=he
 exact⟨_,he,fun v z=>by cases z⟩
theorem ZgN {P:Program}{w:World}{K:Fg_}{es:List Expr}{k1:Nat}{tp:Pos}(x:Str)(t:Tok)(e it:Addr)(hne:e≠it):Zk3 P w K (.Tuple es k1 tp) (Ite (Its x)) [e,it] e (fun i h=>(∃ old,IsEnum h e it i old)∧h.IsStrIter it (strIterType x) x t i) where
 mem:=by simp
 obj:=fun i h st b hb=>by
  have z:b=e∨b=it:=by simpa using hb
  rcases z with z|z
  ·exact Zgi st.1 z
  ·subst z
   obtain⟨o,e,c,d⟩:=st.2
   exact⟨o,e,fun v z=>by rw[d] at z;cases z⟩
 keep:=fun i h h' st k=>by
  obtain⟨⟨old,he⟩,o,e',r⟩:=st
  exact⟨⟨old,k e (by simp) _ he⟩,o,k it (by simp) o e',r⟩
 item:=by
  intro X hP hw hK hc i pins s σ H E I hf st hg
  subst hP hw hK
  obtain⟨⟨old,he⟩,hs⟩:=st
  exact ZdJ (J:=Its x) (tn:=fun i h=>h.IsStrIter it (strIterType x) x t i) (HT.draws_str (A:=X.A.in1) (I.ok.hd hc) it x t) I hf he hs hg hne (by simpa using hne) (fun v z1_=>by
   obtain ⟨c,u,hcc,ev⟩:=z1_
   subst ev;exact⟨.str ⟨#[c]⟩,⟨u,rfl⟩,rfl,c,hcc,rfl⟩) (fun h z=>z) fun h h' ⟨o,e',r⟩ k=>⟨o,k it (by simp) o e',r⟩
 done:=by
  intro X hP hw hK hc i pins s σ H E I hf st hg
  subst hP hw hK
  obtain⟨⟨old,he⟩,hs⟩:=st
  obtain⟨f0,f1,f2,f3,f4,f5⟩:=hf it (by simp)
  have hg':i=x.cps.size:=hg
  subst hg'
  exact Zki (HT.draws_str (A:=X.A.in1) (I.ok.hd hc) it x t) he hs fun h' eb=>⟨rfl,I.turned (t':=s.toks) (fun b o hb e=>eb b o hb e) f0 f1 f3 f4 f5⟩
 self:=fun _ _ _ _ _ st h=>let ⟨⟨_,he⟩,_⟩:=st;Z7k he h
noncomputable def Zr9 (K:Fg_)(a:Addr):It:=⟨(Itt K a).go,(Itt K a).yld,fun i H=>∃ xs,SqT K H a xs∧xs.length=i⟩
theorem ZgM {P:Program}{w:World}{K:Fg_}{es:List Expr}{k1:Nat}{tp:Pos}(a e it:Addr)(hne:e≠it)(hae:a≠e)(hai:a≠it):Zk3 P w K (.Tuple es k1 tp) (Ite (Zr9 K a)) [e,it] e (fun i h=>(∃ old,IsEnum h e it i old)∧h.IsTupleIter it a i) where
 mem:=by simp
 obj:=fun i h st b hb=>by
  have z:b=e∨b=it:=by simpa using hb
  rcases z with z|z
  ·exact Zgi st.1 z
  ·subst z
   obtain⟨o,e,c,d⟩:=st.2
   exact⟨o,e,fun v z=>by rw[d] at z;cases z⟩
 keep:=fun i h h' st k=>by
  obtain⟨⟨old,he⟩,o,e',r⟩:=st
  exact⟨⟨old,k e (by simp) _ he⟩,o,k it (by simp) o e',r⟩
 item:=by
  intro X hP hw hK hc i pins s σ H E I hf st hg
  subst hP hw hK
  obtain⟨⟨old,he⟩,hs⟩:=st
  obtain⟨xs,x,hq,hx⟩:=hg
  obtain⟨its,rv,p,hz⟩:=I.tuple hq
  obtain⟨u,hu,ru⟩:=rv.get hx
  have hi:i<its.toArray.size:=by
   have:=(Zv.mp hu).1
   simpa using this
  exact ZdJ (J:=Zr9 X.K a) (tn:=fun i h=>h.IsTupleIter it a i) (HT.draws_tuple (A:=X.A.in1) (I.ok.hd hc) it a hai its.toArray) I hf he ⟨hs,p⟩ hi hne (by simp[hne,Z2q hae]) (fun v ev=>by
   have ev':v=u:=by
    have:its[i]?=some v:=by simpa using ev
    rw[hu] at this;cases this;rfl
   subst ev'
   exact⟨x,ru,rfl,fun ys hy=>by rw[I.tuple_inj hy hq];exact hx⟩) (fun h z=>z.1) fun h h' ⟨o,e',r⟩ k=>⟨o,k it (by simp) o e',r⟩
 done:=by
  intro X hP hw hK hc i pins s σ H E I hf st hg
  subst hP hw hK
  obtain⟨⟨old,he⟩,hs⟩:=st
  obtain⟨xs,hq,hx⟩:=hg
  obtain⟨its,rv,p,hz⟩:=I.tuple hq
  obtain⟨f0,f1,f2,f3,f4,f5⟩:=hf it (by simp)
  have hl:=rv.length
  have hi:i=its.toArray.size:=by rw[Zl];lia
  rw[hi] at hs he
  exact Zki (HT.draws_tuple (A:=X.A.in1) (I.ok.hd hc) it a hai its.toArray) he ⟨hs,p⟩ fun h' eb=>⟨rfl,I.turned (t':=s.toks) (fun b o hb e=>eb b o hb e) f0 f1 f3 f4 f5⟩
 self:=fun _ _ _ _ _ st h=>let ⟨⟨_,he⟩,_⟩:=st;Z7k he h
theorem Zev {X:Cx}{pins:List (Addr×Obj)}{σ:St}{H:Hp}{s:Shared}(I:Inv X pins σ H s){a:Addr}{xs:List V}(e:SqT X.K H a xs):∃ its:List Value,Z20 xs its∧s.heap.IsTuple a its.toArray:=let ⟨its,r,p,_⟩:=I.tuple e;⟨its,r,p⟩
noncomputable def ZrU (K:Fg_)(ta:TA):TI:=fun σ H R=>ta σ H fun vs H1=>(∃ x,vs=[.str x]∧R (Ite (Its x)) H1)∨(∃ a xs,vs=[.ref a]∧SqT K H1 a xs∧R (Ite (Zr9 K a)) H1)
theorem Zny {X:Cx} {es:List Expr} {k1:Nat} {tp:Pos} {a:Expr} {ta:TA} {p pos:Pos} (hg:Gl X "enumerate") (hm:X.mg "enumerate"=none) (ha:PA X [a] ta) (hs:starEach [a] X.env=[(false,eval a X.env)]:=by rfl):PI X (.Tuple es k1 tp) (.Call (.Name "enumerate" p) [a] [] pos) (ZrU X.K ta):=by
 intro pins s σ H R I h
 refine Call_ (Z6K I hg hm boot_enumerate (Z0T (thn (ha pos pins s σ H _ I h) fun us s1 z1_=>?_) hs rfl))
 obtain ⟨vs,H1,I1,r1,q1⟩:=z1_
 have fpo:∀ b∈[s1.heap.objs.size+1,s1.heap.objs.size],Zfy X pins H1 b:=fun b hb=>by
  have z:b=s1.heap.objs.size+1∨b=s1.heap.objs.size:=by simpa using hb
  have hle:s1.heap.objs.size≤b:=by rcases z with z|z <;> lia
  exact I1.fpOk hle (I1.hok.fresh hle)
 rcases q1 with ⟨x,rfl,q⟩|⟨b,xs,rfl,hx,q⟩
 ·cases r1 with
  |cons r rr =>
   cases rr
   obtain⟨t,rfl⟩:=r
   refine call_enumerate_str fun h' he hi hz kp=>?_
   refine Z7k he ?_
   exact⟨_,[s1.heap.objs.size+1,s1.heap.objs.size],_,_,H1,rfl,I1.kept (t':=s1.toks) kp,ZgN x t (s1.heap.objs.size+1) s1.heap.objs.size (Zbx _),⟨⟨_,by simpa using he⟩,hi⟩,fpo,q⟩
 ·cases r1 with
  |cons r rr =>
   cases rr
   cases r
   obtain⟨its,rv,hT⟩:=Zev I1 hx
   have hlt:b<s1.heap.objs.size:=by obtain⟨o,e,_⟩:=hT;exact Zw e
   refine HT.call_enumerate_tuple hT fun h' he hi hz kp=>?_
   refine Z7k he ?_
   exact⟨_,[s1.heap.objs.size+1,s1.heap.objs.size],_,_,H1,rfl,I1.kept (t':=s1.toks) kp,ZgM b (s1.heap.objs.size+1) s1.heap.objs.size (Zbx _) (ZW (Z2e hlt)) (ZW hlt),⟨⟨_,by simpa using he⟩,hi⟩,fpo,q⟩
noncomputable def numbered:Nat→List Th→List Th
 |_,[]=>[]
 |k,t::r=>.tup [.int k,t]::numbered (k+1) r
theorem Z27:∀ (k:Nat) (ts:List Th),(numbered k ts).length=ts.length
 |_,[]=>rfl
 |k,t::r=>by simp[numbered,Z27 (k+1) r]
theorem Z8X:∀ (k:Nat) (ts:List Th) (i:Nat) (t:Th),ts[i]?=some t→(numbered k ts)[i]?=some (.tup [.int ((k+i:Nat):Int),t])
 |_,[],i,t,e=>by simp at e
 |k,x::r,0,t,e=>by simp at e;subst e;simp[numbered]
 |k,x::r,i+1,t,e=>by
  have:=Z8X (k+1) r i t (by simpa using e)
  simp only[numbered,gs_,this]
  rw[show k+1+i=k+(i+1) by lia]
section
variable {X:Cx}{K:Fg_}
theorem Zdr {J:It}{B:Hp}{f:Addr→Prop}{ts:List Th}(h:Zka K J B f ts):Zka K (Ite J) B f (numbered 0 ts) where
 go:=fun i H s hi=>h.go i H s (by rw[Z27] at hi;exact hi)
 stop:=fun H s=>by rw[Z27];exact h.stop H s
 yld:=fun i H O x H' hi hf s hn y=>by
  rw[Z27] at hi
  obtain⟨v,H1,T,hy,rfl,hT,rfl⟩:=y
  obtain⟨s1,t,ht,b⟩:=h.yld i H O v H1 hi hf s hn hy
  have s2:Z0n H1 (upd H1 T (.tup [.int i,v])):=Z0n.upd hT
  have nT:¬ O.has T:=hn T (s1.free hT)
  refine⟨s1.trans s2,_,by simpa using Z8X 0 ts i t ht,?_⟩
  exact .tup (SqT.of (Z28 Z1b nT)) (.cons (.int _) (.cons (b.mono (Z0M s2)) .nil))
theorem Zjj {H:Hp}{O:Hid}{a:Addr}{xs:List V}{ts:List Th}(h:SqT K (less H O) a xs)(b:Z04 K (less H O) xs ts):Zka K (Zr9 K a) (low H O) O.far ts where
 go:=(Z9x h b).go
 stop:=fun H' s=>by
  have hl:SqT K H' a xs:=by
   rcases h with (h|⟨o,h⟩)|h
   ·exact .inl (.inl (s _ _ (Z4z (of_less h).1 fun z=>(of_less h).2 (.inl z))))
   ·exact .inl (.inr ⟨o,s _ _ (Z4z (of_less h).1 fun z=>(of_less h).2 (.inl z))⟩)
   ·exact .inr h
  exact⟨xs,hl,b.length⟩
 yld:=(Z9x h b).yld
noncomputable def Z6q (f:FD):FL:=fun d=>(f d).bind fun T=>match T with|.str x=>some (numbered 0 (signs x))|.tup ts=>some (numbered 0 ts)|_=>none
theorem Zl2 {es:List Expr} {k1:Nat} {tp:Pos} {a:Expr} {f:FD} {p pos:Pos} (hg:Gl X "enumerate") (hm:X.mg "enumerate"=none) (ha:PD X a f) (hs:starEach [a] X.env=[(false,eval a X.env)]:=by rfl) (hs1:starEach [a] X.env=(false,eval a X.env)::starEach [] X.env:=by rfl):PDI X (.Tuple es k1 tp) (.Call (.Name "enumerate" p) [a] [] pos) (Z6q f) :=
 PI.imp (Zny hg hm (Z4Z ha Z7Z hs1) hs) fun σ H R z1_=>by
  obtain ⟨O,d,ts,r,e,q⟩:=z1_
  unfold Z6q at e
  cases hf:f d with
  |none=>rw[hf] at e;cases e
  |some T =>
   rw[hf] at e
   cases T with
   |str x=>cases e;exact⟨O,d,_,r,hf,fun v H' s b=>by cases b;exact .inl ⟨x,rfl,q _ H' s (Zdr (Zga x))⟩⟩
   |tup us=>cases e;exact⟨O,d,_,r,hf,fun v H' s b=>by cases b with|tup e' b'=>exact .inr ⟨_,_,rfl,(Z0f H' O).seqT e',q _ H' s (Zdr (Zjj e' b'))⟩⟩
   |_=>cases e
end
section
variable {X:Cx}{K:Fg_}{o a b c e:Expr}{fo fa fb fc f:FD}{pos:Pos}{k:Nat}
noncomputable def rM1 (g:Str→Str→Option V):V→List V→Hp→VK→Prop:=fun x xs H Q=>∃ z y r,x=.str z∧xs=[.str y]∧g z y=some r∧Q r H
theorem Zoj:MtR X "str.find" (rM1 fun z y=>some (.int (Z5n z y))):=by
 intro pins s σ H x xs v us Q I rx rs h
 obtain⟨z,y,r,rfl,rfl,e,q⟩:=h
 cases e
 obtain⟨t,rfl⟩:=rx
 obtain⟨u,rfl,ru⟩:=vals1 rs
 obtain⟨t2,rfl⟩:=ru
 exact SC.find ⟨.int _,H,I.tok _,⟨_,rfl⟩,q⟩
theorem Zj1:MtR X "str.startswith" (rM1 fun z y=>some (.bl (Z0z z y))):=by
 intro pins s σ H x xs v us Q I rx rs h
 obtain⟨z,y,r,rfl,rfl,e,q⟩:=h
 cases e
 obtain⟨t,rfl⟩:=rx
 obtain⟨u,rfl,ru⟩:=vals1 rs
 obtain⟨t2,rfl⟩:=ru
 exact SC.startswith ⟨.bl _,H,I,rfl,q⟩
noncomputable def fM1 (g:Str→Str→Option Th)(fo fa:FD):FD:=f2 (fun x y=>match x,y with|.str z,.str w=>g z w|_,_=>none) fo fa
theorem Zon {g:Str→Str→Option Th} {g':Str→Str→Option V} (hg:∀ z w T,g z w=some T→∃ v,g' z w=some v∧∀ H,Z0E K H v T):∀ σ H Q,Z9g K (fM1 g fo fa) σ H Q→tBM K "str" (rM1 g') (Zj8 K fo) (Zg8 K (Z3 fa Z02)) σ H Q:=fun σ H Q z1_=>by
 obtain ⟨O,d,T,R,e,q⟩:=z1_
 obtain⟨x,y,h1,h2,e⟩:=Zju e
 cases x with
 |str z =>
  cases y with
  |str w =>
   obtain⟨v,hv,bv⟩:=hg z w T e
   refine⟨O,d,_,R,h1,fun v1 H1 s1 b1=>?_⟩
   rw[b1.str]
   refine⟨rfl,O,d,[.str w],R.mono s1,by unfold Z3 Z02;rw[h2];rfl,fun vs H2 s2 b2=>?_⟩
   obtain⟨u,rfl,bu⟩:=Z4Y b2
   rw[bu.str]
   exact⟨z,w,v,rfl,rfl,hv,q v H2 (s1.trans s2) (bv _)⟩
  |_=>cases e
 |_=>cases e
theorem ZpV {name:Str} {id:String} {apos cpos:Pos} {g:Str→Str→Option Th} {g':Str→Str→Option V} (hg:∀ z w T,g z w=some T→∃ v,g' z w=some v∧∀ H,Z0E X.K H v T) (slot:Slot "str" name id) (hty:typeOf (.builtin id)=pure (.type "method_descriptor")) (hm:MtR X id (rM1 g')) (ho:PB X o fo) (ha:PB X e fa)
  (hbase:attributeBase o name X.env (eval o X.env)=eval o X.env:=by rfl)
  (hfew:((backTo cpos (starEach (e::[]) X.env)).all (fun x=>!x.1)&&(backToKw cpos (keywordEach [] X.env)).all (fun x=>x.1.isSome)
  &&decide ((e::[]).length+([]:List Keyword).length+(if ([]:List Keyword).isEmpty then 0 else 1)<30))=true:=by rfl)
  (hline:(apos.endLine == cpos.line)=true:=by rfl) (hs:starEach (e::[]) X.env=(false,eval e X.env)::starEach [] X.env:=by rfl) (hplain:(backTo cpos (starEach [] X.env)).any (·.1)=false:=by rfl) :
  PD X (.Call (.Attribute o name apos) [e] [] cpos) (fM1 g fo fa):=PE.imp (ZkS Zed slot hty hm ho (Z9s ha ZeM hs) hbase hfew hline hs hplain) (Zon hg)
theorem ZnT {apos cpos:Pos}(ho:PB X o fo)(ha:PB X e fa)
  (hbase:attributeBase o "find" X.env (eval o X.env)=eval o X.env:=by rfl)
  (hfew:((backTo cpos (starEach (e::[]) X.env)).all (fun x=>!x.1)&&(backToKw cpos (keywordEach [] X.env)).all (fun x=>x.1.isSome)
  &&decide ((e::[]).length+([]:List Keyword).length+(if ([]:List Keyword).isEmpty then 0 else 1)<30))=true:=by rfl)
  (hline:(apos.endLine == cpos.line)=true:=by rfl) (hs:starEach (e::[]) X.env=(false,eval e X.env)::starEach [] X.env:=by rfl) (hplain:(backTo cpos (starEach [] X.env)).any (·.1)=false:=by rfl) :
  PD X (.Call (.Attribute o "find" apos) [e] [] cpos) (fM1 (fun z y=>some (.int (Z5n z y))) fo fa) :=
 ZpV (fun z w T e=>by cases e;exact⟨_,rfl,fun _=>.int _⟩) Zem Zek Zoj ho ha hbase hfew hline hs hplain
theorem Ziz {apos cpos:Pos}(ho:PB X o fo)(ha:PB X e fa)
  (hbase:attributeBase o "startswith" X.env (eval o X.env)=eval o X.env:=by rfl)
  (hfew:((backTo cpos (starEach (e::[]) X.env)).all (fun x=>!x.1)&&(backToKw cpos (keywordEach [] X.env)).all (fun x=>x.1.isSome)
  &&decide ((e::[]).length+([]:List Keyword).length+(if ([]:List Keyword).isEmpty then 0 else 1)<30))=true:=by rfl)
  (hline:(apos.endLine == cpos.line)=true:=by rfl) (hs:starEach (e::[]) X.env=(false,eval e X.env)::starEach [] X.env:=by rfl) (hplain:(backTo cpos (starEach [] X.env)).any (·.1)=false:=by rfl) :
  PD X (.Call (.Attribute o "startswith" apos) [e] [] cpos) (fM1 (fun z y=>some (.bl (Z0z z y))) fo fa) :=
 ZpV (fun z w T e=>by cases e;exact⟨_,rfl,fun _=>.bl _⟩) PySem.F.slot_str_startswith PySem.F.type_str_startswith Zj1 ho ha hbase hfew hline hs hplain
end
noncomputable def Z5w (n m:Nat)(b:FS):List Th→Option Th:=fun Ts=>if Ts.length=n then (match b (Ts.map (fun T=>some (Dv.th T))++Zj (m-Ts.length) none) with|some (.rt T)=>some T|_=>none) else none
theorem Zib {n m:Nat}{b:FS}{Ts:List Th}{T:Th}(e:Z5w n m b Ts=some T):Ts.length=n∧b (Ts.map (fun T=>some (Dv.th T))++Zj (m-Ts.length) none)=some (.rt T):=by
 unfold Z5w at e
 split at e
 ·rename_i h
  refine⟨h,?_⟩
  split at e
  ·rename_i h2;cases e;exact h2
  ·cases e
 ·cases e
noncomputable def ZmK (N:List Str)(sc scope:Scope):Bool:=scope.kind == .function&&scope.names.all (fun y=>y.2 != .cell)&&scope.names.all (fun y=>y.2 != .local||scope.names.lookup y.1 == some .local)
&&scope.names.all (fun y=>y.2 != .free||(sc.names.lookup y.1 == some .cell||sc.names.lookup y.1 == some .free))&&N.all (fun y=>scope.names.lookup y != some .local)
theorem Zaj {X:Cx}{ts N:List Str}{sc scope:Scope}(h1:X.env.scope=sc)(h2:X.N=N)(h:ZmK N sc scope=true):Z1N X ts scope:=by
 unfold ZmK at h
 simp only[Z0a,Z54] at h
 obtain⟨⟨⟨⟨a,b⟩,c⟩,d⟩,e⟩:=h
 refine⟨by simpa using a,fun y hy=>by simpa using b y hy,fun y hy hl=>?_,fun y hy hf=>?_,fun y hy=>?_⟩
 ·have:=c y hy
  rw[hl] at this
  simpa using this
 ·have:=d y hy
  rw[hf] at this
  have:(sc.names.lookup y.1 == some .cell||sc.names.lookup y.1 == some .free)=true:=by simpa using this
  rw[← h1] at this
  show X.env.scope.names.lookup y.1=some .cell∨X.env.scope.names.lookup y.1=some .free
  simpa using this
 ·rw[h2] at hy
  simpa using e y hy
theorem Zbq {K:Fg_}{H:Hp}:∀ ns:List Int,Z04 K H (ns.map V.int) (ns.map Th.int)
 |[]=>.nil
 |n::ns=>.cons (.int n) (Zbq ns)
theorem Zqq {K:Fg_}{H:Hp}{a:Addr}{ns:List Int}{φ:List Th→Option Th}{E:XK}(hS:SqL K H a (ns.map V.int))(h:φ [.lst (ns.map Th.int)]=some (.bl true)):spF K φ [.ref a] H (fun v _=>v=.bl true) E:=by
 refine⟨fun _=>False,_,_,fun _ z=>z.elim,.cons (.lst ?_ (Zbq ns)) .nil,h,fun v H' _ b=>?_⟩
 ·rw[less_none];exact hS
 ·cases b;rfl
section
variable {X:Cx}{a b c e:Expr}{fa fb fc f:FD}{pos:Pos}{k:Nat}
theorem ZnP {i j:Nat}{x y:Str}{px py:Pos}{k:Nat}(hc:X.calm=true)(hN:X.N.Nodup)(hi:X.N[i]?=some x)(hj:X.N[j]?=some y)(hx:Loc X.env.scope x)(hy:Loc X.env.scope y)
  (hf:X.fn x=true∨X.env.scope.names.lookup x=some .local:=by first|exact .inl rfl|exact .inr rfl|assumption) (hf2:X.fn y=true∨X.env.scope.names.lookup y=some .local:=by first|exact .inl rfl|exact .inr rfl|assumption):PDG X (.Tuple [.Name x px,.Name y py] k pos) (Z45 i j) :=
 Zl3 hc hN hi hj hx hy (Zit hc (Z74 (Z65 hN hi hx hf) (Z74 (Z65 hN hj hy hf2) ZeJ)))
end
mutual
inductive Lit:Expr→Th→Prop where
 |int {i:Int} {j p}:Lit (.Constant (.int i) j p) (.int i)
 |neg {i:Int} {j p p2}:Lit (.UnaryOp .USub (.Constant (.int i) j p) p2) (.int (-i))
 |bl {b:Bool} {j p}:Lit (.Constant (.bool b) j p) (.bl b)
 |non {j p}:Lit (.Constant .none j p) .non
 |str {x:Str} {j p}:Lit (.Constant (.str x) j p) (.str x)
 |tup {es:List Expr} {ts:List Th} {k p} (h:ZmU es ts) (z:ts.length≤1000000):Lit (.Tuple es k p) (.tup ts)
 |lst {es:List Expr} {ts:List Th} {p} (h:ZmU es ts) (z:ts.length≤1000000):Lit (.List es p) (.lst ts)
inductive ZmU:List Expr→List Th→Prop where
 |nil:ZmU [] []
 |cons {e:Expr} {t:Th} {es:List Expr} {ts:List Th} (h:Lit e t) (r:ZmU es ts):ZmU (e::es) (t::ts)
end
section
variable {X:Cx}{e:Expr}{f f':FD}{pos:Pos}
theorem PD.congr (h:PD X e f)(i:∀ d T,f' d=some T→f d=some T):PD X e f':=PE.imp h fun σ H Q ⟨O,d,T,R,e,q⟩=>⟨O,d,T,R,i d T e,q⟩
theorem PF.congr {g g':FL}(h:PF X e g)(i:∀ d T,g' d=some T→g d=some T):PF X e g':=PE.imp h fun σ H Q ⟨O,d,T,R,e,q⟩=>⟨O,d,T,R,i d T e,q⟩
noncomputable def fCL (ts:List Th):FL:=fun _=>some ts
theorem Zks {T:Th}(h:Lit e T)(es:List Expr)(env:Env):starEach (e::es) env=(false,eval e env)::starEach es env:=by
 cases h <;> rfl
mutual
theorem Zmw:∀ {e:Expr} {T:Th},Lit e T→PD X e (fC T)
 |_,_,.int=>ZiB
 |_,_,.neg=>PD.congr (Zmv ZiB) fun d T e=>by cases e;rfl
 |_,_,.bl=>ZpZ
 |_,_,.non=>Zmu
 |_,_,.str=>Zmt
 |_,_,.tup (ts:=ts) h z=>PD.congr (Zms (ZbQ h)) fun d T e=>by
   cases e
   unfold Z7g fCL ZdE
   show ((if ts.length≤1000000 then some ts else none).map Th.tup)=_
   rw[if_pos z];rfl
 |_,_,.lst (ts:=ts) h z=>PD.congr (PF.pd (ZeK (ZbQ h))) fun d T e=>by
   cases e
   unfold Z3O Z9h fCL ZdE
   show ((if ts.length≤1000000 then some ts else none).map Th.lst)=_
   rw[if_pos z];rfl
theorem ZbQ:∀ {es:List Expr} {ts:List Th},ZmU es ts→PDA X es (fCL ts)
 |_,_,.nil=>PA.imp ZeL fun σ H Q ⟨O,d,T,R,e,q⟩=>⟨O,d,T,R,e,q⟩
 |_,_,.cons h r=>PA.imp (Z9q (Zmw h) (ZbQ r) (Zks h _ _)) fun σ H Q ⟨O,d,T,R,e,q⟩=>⟨O,d,T,R,e,q⟩
end
theorem Zpy {es:List Expr}{ts:List Th}{p:Pos}(h:ZmU es ts)(z:ts.length≤1000000):PF X (.List es p) (fCL ts):=PF.congr (ZeK (ZbQ h)) fun d T e=>by
 cases e
 unfold Z9h fCL ZdE
 show (if ts.length≤1000000 then some ts else none)=_
 rw[if_pos z]
end
section
variable {X:Cx}{a b c e:Expr}{fa fb fc f:FD}{F G:FS}{pos:Pos}{k:Nat}
noncomputable def Z2E (c:FB)(F:FS):Nat→FS
 |0,_=>none
 |n+1,d=>(c d).bind fun b=>if b=true then (F d).bind fun o=>match o with|.nx d'=>Z2E c F n d'|.ct d'=>Z2E c F n d'|.bk d'=>some (.nx d')|.rt T=>some (.rt T)|.xc c=>some (.xc c) else some (.nx d)
theorem Z7p {c:FB}{F:FS}:∀ (n:Nat) {d:Sd} {o:Out},Z2E c F n d=some o→Z2E c F (n+1) d=some o
 |0,d,o,h=>by cases h
 |n+1,d,o,h=>by
  unfold Z2E at h ⊢
  cases hc:c d with
  |none=>rw[hc] at h;cases h
  |some b =>
   rw[hc] at h
   change (if b=true then _ else _)=_ at h
   change (if b=true then _ else _)=_
   cases b with
   |false=>exact h
   |true =>
    rw[if_pos rfl] at h ⊢
    cases hF:F d with
    |none=>rw[hF] at h;cases h
    |some o1 =>
     rw[hF] at h
     cases o1 with
     |nx d'=>exact Z7p n h
     |ct d'=>exact Z7p n h
     |bk d'=>exact h
     |rt T=>exact h
     |xc c=>exact h
theorem ZcA {c:FB}{F:FS}{n m:Nat}(hl:n≤m){d:Sd}{o:Out}(h:Z2E c F n d=some o):Z2E c F m d=some o:=by
 induction hl with
 |refl=>exact h
 |step _ ih=>exact Z7p _ ih
open Classical in
noncomputable def Z6M (c:FB)(F:FS):FS:=fun d=>if h:∃ n o,Z2E c F n d=some o then some h.choose_spec.choose else none
theorem Z6L {c:FB}{F:FS}{n:Nat}{d:Sd}{o:Out}(h:Z2E c F n d=some o):Z6M c F d=some o:=by
 have hx:∃ n o,Z2E c F n d=some o:=⟨n,o,h⟩
 unfold Z6M
 rw[dif_pos hx]
 have h2:=hx.choose_spec.choose_spec
 have h3:=ZcA (Nat.le_max_left n hx.choose) h
 have h4:=ZcA (Nat.le_max_right n hx.choose) h2
 rw[h4] at h3
 exact h3
theorem Zfg {c:FB}{F:FS}{d:Sd}{o:Out}(h:Z6M c F d=some o):∃ n,Z2E c F n d=some o:=by
 unfold Z6M at h
 split at h
 ·rename_i hx
  injection h with h
  exact⟨_,h ▸ hx.choose_spec.choose_spec⟩
 ·cases h
theorem Ziy {body:List Stmt}{fc:FB}(hp:Z1l (model X.prog X.w) X.A X.env X.xe)(hc:PDT X c fc)(hb:Zk5 X body F):PDS X (.While c body [] pos) (Z6M fc F):=PS.imp (ZkH hp hc hb) fun D σ H z1_=>by
 obtain ⟨O,d,o,R,e,q⟩:=z1_
 obtain⟨n0,e0⟩:=Zfg e
 refine⟨fun m σ' H'=>∃ O' d',O'.far=O.far∧Rep X.K H' O' σ' d'∧Z0n (low H O) (low H' O')∧Z2E fc F m d'=some o,⟨n0,O,d,rfl,R,Z0n.refl _,e0⟩,?_⟩
 rintro m σ' H' ⟨O',d',hf',R',s',e'⟩
 cases m with
 |zero=>cases e'
 |succ m =>
  unfold Z2E at e'
  cases hcd:fc d' with
  |none=>rw[hcd] at e';cases e'
  |some b =>
   rw[hcd] at e'
   change (if b=true then _ else _)=_ at e'
   refine⟨O',d',b,R',hcd,fun H1 s1=>?_⟩
   have s2:Z0n (low H O) (low H1 O'):=s'.trans (Z2L s1)
   cases b with
   |false =>
    rw[if_neg Z0H] at e'
    show (if false=true then _ else _)
    rw[if_neg Z0H]
    cases e'
    exact q σ' H1 O' hf' s2 (R'.mono s1)
   |true =>
    rw[if_pos rfl] at e'
    show (if true=true then _ else _)
    rw[if_pos rfl]
    refine⟨fun σ2 H2=>∃ O2 d2,O2.far=O.far∧Rep X.K H2 O2 σ2 d2∧Z0n (low H O) (low H2 O2)∧Z2E fc F m d2=some o,fun σ2 H2 h=>⟨m,Z3Z m,h⟩,?_⟩
    cases hF:F d' with
    |none=>rw[hF] at e';cases e'
    |some o1 =>
     rw[hF] at e'
     refine⟨O',d',o1,R'.mono s1,hF,?_⟩
     cases o1 with
     |nx d2=>exact fun σ2 H2 O2 hf2 s3 R2=>⟨O2,d2,hf2.trans hf',R2,s2.trans s3,e'⟩
     |ct d2=>exact fun σ2 H2 O2 hf2 s3 R2=>⟨O2,d2,hf2.trans hf',R2,s2.trans s3,e'⟩
     |bk d2=>cases e';exact fun σ2 H2 O2 hf2 s3 R2=>q σ2 H2 O2 (hf2.trans hf') (s2.trans s3) R2
     |xc c=>cases e';exact fun H2 s3=>q H2 (s2.trans s3)
     |rt T2=>cases e';rw[hf'];exact fun v H2 s3 b2=>q v H2 (s2.trans s3) b2
noncomputable def ZqA (f:FD)(g:FG):FS:=fun d=>(f d).bind fun T=>(g T d).map Out.nx
theorem ZnK {tg:Expr}{g:FG}(he:PD X e f)(hg:PDG X tg g)(hs:swapsWithSole [tg] e pos.line X.env=pure false:=by rfl)(hw:swappedStores [tg] e X.env=pure none:=by rfl)
  (h1:(assignEach [tg] X.env).map (·.2)=[assign tg X.env]:=by rfl):PDS X (.Assign [tg] e pos) (ZqA f g):=PS.imp (Zpv he hg hs hw h1) fun D σ H z1_=>by
 obtain ⟨O,d,o,R,e,q⟩:=z1_
 unfold ZqA at e
 cases hf:f d with
 |none=>rw[hf] at e;cases e
 |some T =>
  rw[hf] at e
  change (g T d).map Out.nx=_ at e
  cases hg:g T d with
  |none=>rw[hg] at e;cases e
  |some d' =>
   rw[hg] at e
   cases e
   exact⟨O,d,T,R,hf,fun v H' s b=>⟨O,d,T,d',R.mono s,b,hg,fun σ' R'=>q σ' H' O rfl (Z2L s) R'⟩⟩
theorem ZkN {x y:Str}{px py pt pos:Pos}{k1:Nat}{scope:Scope}{elt iter:Expr}{ifs:List Expr}{fi:FL}{ft:FB}{fe:FD}(hc:X.calm=true)(S:Z1N X [x,y] scope)(hN:([x,y]++X.N).Nodup)(hx:scope.names.lookup x=some .local)(hy:scope.names.lookup y=some .local)(hi:PDI X (.Tuple [.Name x px,.Name y py] k1 pt) iter fi)
  (ht:∀ cl s₂ H1 C fp,ZoN (cxC X [x,y] scope cl s₂ H1 C fp) ifs ft) (he:∀ cl s₂ H1 C fp,PD (cxC X [x,y] scope cl s₂ H1 C fp) elt fe) (hs:∀ x,foldedSetIterable iter X.env x=pure x:=by intro _;rfl) :
  PF X (.ListComp elt [⟨.Tuple [.Name x px,.Name y py] k1 pt,iter,ifs,0⟩] scope pos) (Z29 g2 fi ft fe) :=
 PE.imp (Ziu (tt:=liftT X.K ft) (te:=Z9g X.K fe) hc S (PI.imp hi Zr3) (fun cl s₂ H1 C fp=>Zit (X:=cxC X [x,y] scope cl s₂ H1 C fp) hc (Z74 (Z65 (i:=0) hN rfl (Zee (Z0w hx)) (.inr (Z0w hx))) (Z74 (Z65 (i:=1) hN rfl (Zee (Z0w hy)) (.inr (Z0w hy))) ZeJ))) ht he hs) (Z8a ZmL)
theorem ZgW {x y z:Str}{px py pt pz pos spos:Pos}{k1:Nat}{scope:Scope}{elt iter:Expr}{ifs:List Expr}{fi:FL}{ft:FB}{fe:FD}{i:Nat}(hN0:X.N.Nodup)(hi':X.N[i]?=some z)(hz:Loc X.env.scope z)(hc:X.calm=true)(S:Z1N X [x,y] scope)(hN:([x,y]++X.N).Nodup)(hx:scope.names.lookup x=some .local)(hy:scope.names.lookup y=some .local)(hi:PDI X (.Tuple [.Name x px,.Name y py] k1 pt) iter fi)
  (ht:∀ cl s₂ H1 C fp,ZoN (cxC X [x,y] scope cl s₂ H1 C fp) ifs ft) (he:∀ cl s₂ H1 C fp,PD (cxC X [x,y] scope cl s₂ H1 C fp) elt fe)
  (hsw:swapsWith (.ListComp elt [⟨.Tuple [.Name x px,.Name y py] k1 pt,iter,ifs,0⟩] scope pos) (some (.Name z pz)) spos.line X.env=pure true:=by rfl)
  (hf':X.fn z=true∨X.env.scope.names.lookup z=some .local:=by first|exact .inl rfl|exact .inr rfl|assumption)
  (hs:∀ x,foldedSetIterable iter X.env x=pure x:=by intro _;rfl) :
  PDS X (.Assign [.Name z pz] (.ListComp elt [⟨.Tuple [.Name x px,.Name y py] k1 pt,iter,ifs,0⟩] scope pos) spos) (Z1a i (Z3O (Z29 g2 fi ft fe))) :=
 PS.imp (Zil (tt:=liftT X.K ft) (te:=Z9g X.K fe) hN0 hi' hz hc S (PI.imp hi Zr3) (fun cl s₂ H1 C fp=>Zit (X:=cxC X [x,y] scope cl s₂ H1 C fp) hc (Z74 (Z65 (i:=0) hN rfl (Zee (Z0w hx)) (.inr (Z0w hx))) (Z74 (Z65 (i:=1) hN rfl (Zee (Z0w hy)) (.inr (Z0w hy))) ZeJ))) ht he hsw hf' hs) fun D σ H h=>by
  obtain⟨O,d,o,R,e,q⟩:=h
  unfold Z1a Z3O at e
  cases hf:Z29 g2 fi ft fe d with
  |none=>rw[hf] at e;cases e
  |some ts =>
   rw[hf] at e
   cases e
   refine Z8a ZmL σ H _ ⟨O,d,ts,R,hf,fun v H' s b=>?_⟩
   obtain⟨a,xs,rfl,e2,e3,b⟩:=b
   exact q _ H' O rfl (Z2L s) ((R.mono s).set i (.lst (SqL.of (Z28 e3 (R.notOwn e2))) (b.mono Z67)))
end
structure Fly (P:Program)(w:World)(l:List Env)(H:Hp)(s:Shared)(C:Addr)(H1:Hp)(B:Heap)(ea t:Addr)(s':Shared):Prop where
 os:s'.os=s.os
 bare:AllBare s'.gens
 un:Un (frs l) [] H H1 s.heap s'.heap
 hok:HOk P w H1 s'.heap
 fly:Zra B l ea (.ref C) (.ref t) s'.heap
 cov:∀ b o,s.heap.get? b=some o→H b=none→b∉frs l→B.get? b=some o
 all:∀ b o,s.heap.get? b=some o→b∉frs l→∃ o',B.get? b=some o'
 trk:∀ b o,H1 b=some o→∃ o',B.get? b=some o'
section
variable {P:Program}{w:World}{l:List Env}{H H1:Hp}{s s':Shared}{C ea t:Addr}{B:Heap}
theorem Fly.free (f:Fly P w l H s C H1 B ea t s'):H1 ea=none:=by
 cases q:H1 ea with
 |none=>rfl
 |some o =>
  obtain⟨o',e⟩:=f.trk ea o q
  rw[f.fly.2.1] at e;cases e
theorem Fly.on (f:Fly P w l H s C H1 B ea t s'){h':Heap}(k:Zra B l ea (.ref C) (.ref t) h')(u:s'.heap.UpToSlots h'):Fly P w l H s C H1 B ea t { s' with heap:=h' } where
 os:=f.os
 bare:=f.bare
 un:={
  keep:=fun b o q n hb _=>k.1 b o (f.cov b o q n hb)
  slot:=fun b o q n hb hx=>by
   obtain⟨sl,e⟩:=f.un.slot b o q n hb hx
   obtain⟨_,o2,ho,hn⟩:=f.fly.2.2.1.mem hb
   rw[e] at ho
   cases ho
   obtain⟨sl',e'⟩:=u b _ e hn
   exact⟨sl',e'⟩
  free:=f.un.free
  there:=fun b o q hx=>by
   by_cases hb:b∈frs l
   ·obtain⟨_,o2,ho,hn⟩:=f.fly.2.2.1.mem hb
    obtain⟨sl',e'⟩:=u b _ ho hn
    exact⟨_,e'⟩
   ·obtain⟨o',e⟩:=f.all b o q hb
    exact⟨o',k.1 b o' e⟩
  tups:=f.un.tups
  frzs:=f.un.frzs
  tbls:=f.un.tbls }
 hok:=fun a o e=>(f.hok a o e).stay (fun b u hb q=>by
  have hb':∃ o',H1 b=some o':=by
   rcases hb with z|z
   ·exact⟨o,by rw[z];exact e⟩
   ·exact⟨_,z⟩
  obtain⟨o',e'⟩:=hb'
  obtain⟨ob,eb⟩:=f.trk b o' e'
  have e1:=f.fly.1 b ob eb
  rw[q] at e1
  cases e1
  exact k.1 b u eb) (fun _ q=>q) fun _ _ q=>q
 fly:=k
 cov:=f.cov
 all:=f.all
 trk:=f.trk
end
section
variable {X:Cx}{K:Fg_}{o a b c e:Expr}{fo fa fb fc f:FD}{pos:Pos}{k:Nat}
noncomputable def Z4T:List Th→Option (List Str)
 |[]=>some []
 |.str y::r=>(Z4T r).map (y::·)
 |_=>none
theorem ZbG {H:Hp}:∀ {ts:List Th} {ys:List Str} {vs:List V} {us:List Value},Z4T ts=some ys→Z04 K H vs ts→Z20 vs us→StrsAre us ys
 |[],_,_,_,e,b,r=>by cases e;cases b;cases r;exact .nil
 |t::ts,_,_,_,e,b,r=>by
  cases b with
  |cons b1 b2=>cases r with
   |cons r1 r2 =>
    cases b1 with
    |str y =>
     unfold Z4T at e
     cases hb:Z4T ts with
     |none=>rw[hb] at e;cases e
     |some bs =>
      rw[hb] at e
      cases e
      obtain⟨t,rfl⟩:=r1
      exact .cons y t (ZbG hb b2 r2)
    |_=>cases e
end
section
variable {X:Cx}{K:Fg_}{o e:Expr}{fo fa:FD}
theorem Zbp {H:Hp}:∀ l:List Str,Z04 K H (l.map V.str) (l.map Th.str)
 |[]=>.nil
 |y::l=>.cons (.str y) (Zbp l)
end
noncomputable def leS (a b:Str):Prop:=a.cps.toList≤b.cps.toList
theorem Zdm {a b c:Str}(h1:leS a b)(h2:leS b c):leS a c:=List.le_trans h1 h2
theorem Z84 {a b:Str}(h1:leS a b)(h2:leS b a):a=b:=by
 have h:a.cps.toList=b.cps.toList:=Zn0 h1 h2
 cases a;cases b
 simp only[ZoX]
 exact Z6R.mp h
theorem Z7U:∀ {a b:List Str},a.Perm b→a.Pairwise leS→b.Pairwise leS→a=b
 |[],b,p,_,_=>by rw[ZqL.mp p]
 |x::a,[],p,_,_=>absurd p.length_eq (by simp)
 |x::a,y::b,p,ha,hb=>by
  have hxy:x=y:=by
   have h1:x∈y::b:=p.mem_iff.mp Z4
   have h2:y∈x::a:=p.mem_iff.mpr Z4
   rcases Zi.mp h1 with h1|h1
   ·exact h1
   ·rcases Zi.mp h2 with h2|h2
    ·exact h2.symm
    ·exact Z84 ((Z1y.mp ha).1 y h2) ((Z1y.mp hb).1 x h1)
  subst hxy
  rw[Z7U p.cons_inv (Z1y.mp ha).2 (Z1y.mp hb).2]
open Classical in
noncomputable def Z5Z (ss:List Str):List Str:=if h:∃ r:List Str,r.Perm ss∧r.Pairwise leS then h.choose else []
theorem ZfL {ss r:List Str}(hp:r.Perm ss)(hs:r.Pairwise leS):Z5Z ss=r:=by
 have h:∃ r:List Str,r.Perm ss∧r.Pairwise leS:=⟨r,hp,hs⟩
 unfold Z5Z
 rw[dif_pos h]
 exact Z7U (h.choose_spec.1.trans hp.symm) h.choose_spec.2 hs
section
variable {X:Cx}{K:Fg_}{e:Expr}{es:List Expr}{fs:FL}{p pos:Pos}
theorem ZcC:∀ {us:List Value} {ys:List Str},StrsAre us ys→Z20 (ys.map V.str) us
 |_,_,.nil=>.nil
 |_,_,.cons y t h=>.cons ⟨t,rfl⟩ (ZcC h)
end
end L2
namespace Sg
open PySem PyProof.Rows
section pure
variable {O:KeyOrd}{key:Keyed→O.α}
noncomputable def Up (key:Keyed→O.α)(l:List Keyed):Prop:=l.Pairwise (fun x y=>O.kle (key x) (key y))
noncomputable def Below (key:Keyed→O.α)(l m:List Keyed):Prop:=∀ x∈l,∀ y∈m,O.kle (key x) (key y)
theorem Up.app {l m:List Keyed}(h1:Up key l)(h2:Up key m)(h3:Below key l m):Up key (l++m) :=
 Z2I.mpr ⟨h1,h2,h3⟩
theorem Up.sub {l m:List Keyed}(h:Up key m)(hs:l.Sublist m):Up key l:=Z0N.sublist hs h
theorem Below.sub {l m l' m':List Keyed}(h:Below key l m)(h1:∀ x∈l',x∈l)(h2:∀ x∈m',x∈m):Below key l' m' :=
 fun x hx y hy=>h x (h1 x hx) y (h2 y hy)
theorem Up.halves {l:List Keyed}(h:Up key l)(k:Nat):Below key (l.take k) (l.drop k):=by
 have h':Up key (l.take k++l.drop k):=by rw[ZB];exact h
 exact (Z2I.mp h').2.2
theorem Z8b {l:List Keyed}:Below key l []:=fun _ _ _ h=>absurd h (by simp)
theorem Z80 {l:List Keyed}:Below key [] l:=fun _ h=>absurd h (by simp)
theorem Below.app {l m n:List Keyed}(h1:Below key l n)(h2:Below key m n):Below key (l++m) n :=
 fun x hx y hy=>(ZQ.mp hx).elim (fun q=>h1 x q y hy) fun q=>h2 x q y hy
theorem Below.app' {l m n:List Keyed}(h1:Below key l m)(h2:Below key l n):Below key l (m++n) :=
 fun x hx y hy=>(ZQ.mp hy).elim (fun q=>h1 x hx y q) fun q=>h2 x hx y q
structure Lo (key:Keyed→O.α)(a b out:List Keyed)(ia ib:Nat):Prop where
 perm:out.Perm (a.take ia++b.take ib)
 up:Up key out
 ba:Below key out (a.drop ia)
 bb:Below key out (b.drop ib)
variable {a b out:List Keyed}{ia ib k:Nat}
theorem Lo.chunkA (h:Lo key a b out ia ib)(ua:Up key a)(hb:Below key ((a.drop ia).take k) (b.drop ib)) :
  Lo key a b (out++(a.drop ia).take k) (ia+k) ib:=by
 refine⟨?_,?_,?_,?_⟩
 ·rw[Z9k]
  refine (h.perm.append_right _).trans ?_
  rw[Z7,Z7]
  exact Z0u _ Z1m
 ·exact h.up.app (ua.sub ((Z14 ..).trans (Z1p ..))) (h.ba.sub (fun _ q=>q) fun _ q=>Z1A q)
 ·rw[← Z0y]
  exact (h.ba.sub (fun _ q=>q) fun _ q=>Z0C q).app ((ua.sub (Z1p ..)).halves k)
 ·exact h.bb.app hb
theorem Lo.chunkB (h:Lo key a b out ia ib)(ub:Up key b)(ha:Below key ((b.drop ib).take k) (a.drop ia)) :
  Lo key a b (out++(b.drop ib).take k) ia (ib+k):=by
 refine⟨?_,?_,?_,?_⟩
 ·rw[Z9k,← Z7]
  exact h.perm.append_right _
 ·exact h.up.app (ub.sub ((Z14 ..).trans (Z1p ..))) (h.bb.sub (fun _ q=>q) fun _ q=>Z1A q)
 ·exact h.ba.app ha
 ·rw[← Z0y]
  exact (h.bb.sub (fun _ q=>q) fun _ q=>Z0C q).app ((ub.sub (Z1p ..)).halves k)
theorem Lo.finA (h:Lo key a b out ia ib)(ua:Up key a)(ub:Up key b)(hx:Below key (a.drop ia) (b.drop ib)) :
  (out++a.drop ia++b.drop ib).Perm (a++b)∧Up key (out++a.drop ia++b.drop ib):=by
 refine⟨?_,((h.up.app (ua.sub (Z1p ..)) h.ba).app (ub.sub (Z1p ..)) (h.bb.app hx))⟩
 refine ((h.perm.append_right _).append_right _).trans ?_
 have e:(a++b)=(a.take ia++a.drop ia)++(b.take ib++b.drop ib):=by rw[ZB,ZB]
 rw[e]
 simp only[Z7]
 refine Z0u _ ?_
 rw[← Z7,← Z7]
 exact Z2U _ Z1m
theorem Lo.finB (h:Lo key a b out ia ib)(ua:Up key a)(ub:Up key b)(hx:Below key (b.drop ib) (a.drop ia)) :
  (out++b.drop ib++a.drop ia).Perm (a++b)∧Up key (out++b.drop ib++a.drop ia):=by
 refine⟨?_,((h.up.app (ub.sub (Z1p ..)) h.bb).app (ua.sub (Z1p ..)) (h.ba.app hx))⟩
 refine ((h.perm.append_right _).append_right _).trans ?_
 have e:(a++b)=(a.take ia++a.drop ia)++(b.take ib++b.drop ib):=by rw[ZB,ZB]
 rw[e]
 simp only[Z7]
 refine Z0u _ ?_
 have:(b.take ib++(b.drop ib++a.drop ia)).Perm (a.drop ia++(b.take ib++b.drop ib)):=by
  rw[← Z7]
  exact Z1m
 exact this
structure Hi (key:Keyed→O.α)(a b out:List Keyed)(na nb:Nat):Prop where
 perm:out.Perm (a.drop na++b.drop nb)
 up:Up key out.reverse
 ba:Below key (a.take na) out
 bb:Below key (b.take nb) out
variable {na nb t:Nat}
theorem Z6V {l:List Keyed}{m n:Nat}(h:m≤n):l.take n=l.take m++(l.take n).drop m:=by
 have e:=ZB m (l.take n)
 rw[Z8i,Zcq h] at e
 exact e.symm
theorem ZaZ {l:List Keyed}{m n:Nat}(h:m≤n):l.drop m=(l.take n).drop m++l.drop n:=by
 have e:l=l.take n++l.drop n:=(ZB n l).symm
 by_cases hn:n≤l.length
 ·conv=>lhs;rw[e]
  rw[Z0R (by rw[ZA];lia)]
 ·rw[Z0s (by lia),Z03 (i:=n) (by lia),Z1z]
theorem Hi.chunkA (h:Hi key a b out na nb)(ua:Up key a)(ht:t≤na)(hb:Below key (b.take nb) ((a.take na).drop t)) :
  Hi key a b (out++((a.take na).drop t).reverse) t nb:=by
 refine⟨?_,?_,?_,?_⟩
 ·rw[ZaZ (l:=a) ht,Z7]
  refine Z1m.trans ?_
  exact ((Z6r _).append_right _).trans (h.perm.append_left _)
 ·rw[ZjR,ZhI]
  exact (ua.sub ((Z1p ..).trans (Z14 ..))).app h.up (h.ba.sub (fun _ q=>Z0C q) fun _ q=>Z1Y.mp q)
 ·refine (h.ba.sub (fun x q=>?_) fun _ q=>q).app' (Below.sub ?_ (fun _ q=>q) fun _ q=>Z1Y.mp q)
  ·rw[Z6V ht];exact Z08 _ q
  ·have u2:Up key (a.take t++(a.take na).drop t):=by rw[← Z6V ht];exact ua.sub (Z14 ..)
   exact (Z2I.mp u2).2.2
 ·exact h.bb.app' (hb.sub (fun _ q=>q) fun _ q=>Z1Y.mp q)
theorem Hi.chunkB (h:Hi key a b out na nb)(ub:Up key b)(ht:t≤nb)(ha:Below key (a.take na) ((b.take nb).drop t)) :
  Hi key a b (out++((b.take nb).drop t).reverse) na t:=by
 refine⟨?_,?_,?_,?_⟩
 ·rw[ZaZ (l:=b) ht]
  refine (h.perm.append (Z6r _)).trans ?_
  rw[Z7]
  exact Z0u _ Z1m
 ·rw[ZjR,ZhI]
  exact (ub.sub ((Z1p ..).trans (Z14 ..))).app h.up (h.bb.sub (fun _ q=>Z0C q) fun _ q=>Z1Y.mp q)
 ·exact h.ba.app' (ha.sub (fun _ q=>q) fun _ q=>Z1Y.mp q)
 ·refine (h.bb.sub (fun x q=>?_) fun _ q=>q).app' (Below.sub ?_ (fun _ q=>q) fun _ q=>Z1Y.mp q)
  ·rw[Z6V ht];exact Z08 _ q
  ·have u2:Up key (b.take t++(b.take nb).drop t):=by rw[← Z6V ht];exact ub.sub (Z14 ..)
   exact (Z2I.mp u2).2.2
theorem Hi.finA (h:Hi key a b out na nb)(ua:Up key a)(ub:Up key b)(hx:Below key (a.take na) (b.take nb)) :
  (a.take na++b.take nb++out.reverse).Perm (a++b)∧Up key (a.take na++b.take nb++out.reverse):=by
 refine⟨?_,(((ua.sub (Z14 ..)).app (ub.sub (Z14 ..)) hx).app h.up ((h.ba.app h.bb).sub (fun _ q=>q) fun _ q=>Z1Y.mp q))⟩
 refine (Z0u _ ((Z6r _).trans h.perm)).trans ?_
 have e:(a++b)=(a.take na++a.drop na)++(b.take nb++b.drop nb):=by rw[ZB,ZB]
 rw[e]
 simp only[Z7]
 refine Z0u _ ?_
 rw[← Z7,← Z7]
 exact Z2U _ Z1m
theorem Hi.finB (h:Hi key a b out na nb)(ua:Up key a)(ub:Up key b)(hx:Below key (b.take nb) (a.take na)) :
  (b.take nb++a.take na++out.reverse).Perm (a++b)∧Up key (b.take nb++a.take na++out.reverse):=by
 refine⟨?_,(((ub.sub (Z14 ..)).app (ua.sub (Z14 ..)) hx).app h.up ((h.bb.app h.ba).sub (fun _ q=>q) fun _ q=>Z1Y.mp q))⟩
 refine (Z0u _ ((Z6r _).trans h.perm)).trans ?_
 have e:(a++b)=(a.take na++a.drop na)++(b.take nb++b.drop nb):=by rw[ZB,ZB]
 rw[e]
 refine (Z2U _ Z1m).trans ?_
 simp only[Z7]
 refine Z0u _ ?_
 rw[← Z7,← Z7]
 exact Z2U _ Z1m
end pure
end Sg
namespace Sg
open PySem PyProof.Rows
noncomputable def nth (xs:Array Keyed)(i:Nat):Keyed:=(xs[i]?).getD (Z1U,Z1U)
theorem ZiY {xs:Array Keyed}{i:Nat}(h:i<xs.size):xs[i]?=some (nth xs i):=by
 unfold nth;rw[getElem?_pos xs i h];rfl
theorem Z5k {xs:Array Keyed}{i:Nat}(h:i<xs.size):xs.toList[i]?=some (nth xs i):=by
 rw[Z0m];exact ZiY h
theorem Z3H {xs:Array Keyed}{i:Nat}(h:i<xs.size):nth xs i∈xs.toList:=Z01 (Z5k h)
noncomputable def ZoB:Bool→Keyed→Array Keyed→Nat→Nat→Nat→StateT SortSt Sem (Option Nat):=sortPriv% PySem.Builtin.gallop
noncomputable def Zll:Array Keyed→Array Keyed→StateT SortSt Sem (Array Keyed):=sortPriv% PySem.Builtin.mergeLo
noncomputable def Zlm:Array Keyed→Array Keyed→StateT SortSt Sem (Array Keyed):=sortPriv% PySem.Builtin.mergeHi
noncomputable def ZbK:Nat→StateT SortSt Sem Unit:=sortPriv% PySem.Builtin.setMinGallop
noncomputable def ZhL (prog:Program)(w:World)(s:Shared)(O:KeyOrd)(key:Keyed→O.α)(G:Keyed→Prop)(kd:Z3V):Prop :=
 ∀ (A:Around) (E:Value→Shared→Prop) (x y:Keyed) (Q:Bool→Shared→Prop),G x→G y→Q (O.blt (key x) (key y)) s→wpAny (model prog w) A (keyLt' kd x.1 y.1) Q E s
section
variable {prog:Program}{w:World}{A:Around}{E:Value→Shared→Prop}{s:Shared}{O:KeyOrd}{key:Keyed→O.α}{G:Keyed→Prop}{kd:Z3V}{st:SortSt}
theorem Z9F {x y:Keyed}{Q:Option Bool→SortSt→Prop}(hc:ZhL prog w s O key G kd)(hk:kindOf st=kd)(gx:G x)(gy:G y)
  (h:Q (some (O.blt (key x) (key y))) st):wpS (model prog w) A E s (lt' x y) Q st:=by
 rw[lt'_eq]
 refine Zo (Z6e ?_)
 rw[hk]
 refine Zo (ZaU (Z7I (hc _ _ x y _ gx gy ⟨rfl,?_⟩)))
 exact Zx h
theorem Z0V {xs:Array Keyed}{i:Nat}{Q:Keyed→SortSt→Prop}(hi:i<xs.size)(h:Q (nth xs i) st):wpS (model prog w) A E s (elem' xs i) Q st:=by
 rw[elem'_eq,ZiY hi]
 exact Zx h
theorem ZhM {i j:Nat}{Q:Option Bool→SortSt→Prop}(hc:ZhL prog w s O key G kd)(hk:kindOf st=kd)(hi:i<(arrOf st).size)(hj:j<(arrOf st).size)
  (gx:G (nth (arrOf st) i)) (gy:G (nth (arrOf st) j)) (h:Q (some (O.blt (key (nth (arrOf st) i)) (key (nth (arrOf st) j)))) st):wpS (model prog w) A E s (ltAt' i j) Q st:=by
 rw[ltAt'_eq]
 refine Zo (Z6e ?_)
 exact Zo (Z0V hi (Zo (Z0V hj (Z9F hc hk gx gy h))))
noncomputable def bey (key:Keyed→O.α)(l:Bool)(k:Keyed)(arr:Array Keyed)(b i:Nat):Bool :=
 if l=true then O.blt (key (nth arr (b+i))) (key k) else !O.blt (key k) (key (nth arr (b+i)))
theorem Z4O {l:Bool}{k:Keyed}{arr:Array Keyed}{b n h:Nat}{Q:Option Nat→SortSt→Prop}(hc:ZhL prog w s O key G kd)(hk:kindOf st=kd)
  (hG:∀ i,i<n→G (nth arr (b+i))) (gk:G k) (hz:b+n≤arr.size) (hh:h<n)
  (mono:∀ i j,i≤j→j<n→bey key l k arr b j=true→bey key l k arr b i=true)
  (hQ:∀ r,r≤n→(∀ i,i<r→bey key l k arr b i=true)→(∀ i,r≤i→i<n→bey key l k arr b i=false)→Q (some r) st) :
  wpS (model prog w) A E s (ZoB l k arr b n h) Q st:=by
 have ask:∀ i,i<n→∀ {Q':Option Bool→SortSt→Prop},Q' (some (bey key l k arr b i)) st →
   wpS (model prog w) A E s (do
    let it ← elem' arr (b+i)
    if l=true then lt' it k else do
     let r ← lt' k it
     pure (Option.map (fun z=>!z) r)) Q' st:=by
  intro i hi Q' hq
  refine Zo (Z0V (by lia) ?_)
  unfold bey at hq
  cases l with
  |true =>
   simp only[if_true] at hq ⊢
   exact Z9F hc hk (hG i hi) gk hq
  |false =>
   simp only[Zu,if_false] at hq ⊢
   exact Zo (Z9F hc hk gk (hG i hi) (Zx hq))
 generalize hf:bey key l k arr b=f at ask mono hQ
 have monof:∀ i j,i≤j→j<n→f i=false→f j=false:=by
  intro i j hij hj hi
  cases hfj:f j with
  |false=>rfl
  |true=>rw[mono i j hij hj hfj] at hi;exact absurd hi (by simp)
 refine Zo (ask h hh ?_)
 dsimp only
 by_cases hr:f h=true
 ·rw[if_pos hr]
  refine Zo (Z2C (Z0P (I:=fun x c st'=>st'=st∧∃ lf o,c=(none,lf,o)∧lf<o∧x+1≤o∧lf<n-h∧f (h+lf)=true)
   (Q:=fun c st'=>st'=st∧∃ lf o,c=(none,lf,o)∧lf<o∧lf<n-h∧f (h+lf)=true∧(o<n-h→f (h+o)=false)) ?is ?fi ⟨rfl,0,1,rfl,by exact Zg _,by exact Z3Z _,by lia,hr⟩) ?po)
  case is =>
   rintro x c st'-hx ⟨rfl,lf,o,rfl,h1,h2,h3,h4⟩
   dsimp only
   by_cases ho:o ≥ n-h
   ·rw[if_pos ho]
    exact Zx ⟨rfl,lf,o,rfl,h1,h3,h4,fun z=>by lia⟩
   ·rw[if_neg ho]
    refine Zo (ask (h+o) (by lia) ?_)
    dsimp only
    cases hfo:f (h+o) with
    |false=>exact Zx ⟨rfl,lf,o,rfl,h1,h3,h4,fun _=>hfo⟩
    |true=>exact Zx ⟨rfl,o,2*o+1,rfl,by lia,by lia,by exact Z7i (by assumption),hfo⟩
  case fi =>
   rintro c st' ⟨rfl,lf,o,rfl,h1,h2,h3,h4⟩
   exact⟨rfl,lf,o,rfl,h1,h3,h4,fun z=>by lia⟩
  case po =>
   rintro c st' ⟨rfl,lf,o,rfl,h1,h3,h4,h5⟩
   dsimp only
   refine Zo (Z2C (Z0P (I:=fun x c st''=>st''=st'∧∃ lo hi,c=(none,lo,hi)∧lo≤hi∧hi≤n∧x+hi≤n+lo∧(∀ i,i<lo→f i=true)∧(∀ i,hi≤i→i<n→f i=false))
    (Q:=fun c st''=>st''=st'∧∃ lo hi,c=(none,lo,hi)∧lo=hi∧hi≤n∧(∀ i,i<lo→f i=true)∧(∀ i,hi≤i→i<n→f i=false)) ?is2 ?fi2 ?in2) ?po2)
   case is2 =>
    rintro x c st''-hx ⟨rfl,lo,hi,rfl,g1,g2,g3,g4,g5⟩
    dsimp only
    by_cases hge:lo ≥ hi
    ·rw[if_pos hge]
     exact Zx ⟨rfl,lo,hi,rfl,by exact Z5z (by assumption) (by assumption),g2,g4,g5⟩
    ·rw[if_neg hge]
     refine Zo (ask (lo+(hi-lo) / 2) (by lia) ?_)
     dsimp only
     cases hm:f (lo+(hi-lo) / 2) with
     |true=>exact Zx ⟨rfl,lo+(hi-lo) / 2+1,hi,rfl,by lia,g2,by lia,fun i z=>mono i (lo+(hi-lo) / 2) (by lia) (by lia) hm,g5⟩
     |false=>exact Zx ⟨rfl,lo,lo+(hi-lo) / 2,rfl,by simp,by lia,by lia,g4,fun i z zn=>monof (lo+(hi-lo) / 2) i z zn hm⟩
   case fi2 =>
    rintro c st'' ⟨rfl,lo,hi,rfl,g1,g2,g3,g4,g5⟩
    exact⟨rfl,lo,hi,rfl,by lia,g2,g4,g5⟩
   case in2 =>
    refine⟨rfl,_,_,rfl,by omega,by omega,by lia,fun i z=>mono i (h+lf) (by lia) (by lia) h4,fun i z zn=>?_⟩
    by_cases ho:o<n-h
    ·exact monof (h+o) i (by lia) zn (h5 ho)
    ·lia
   case po2 =>
    rintro c st'' ⟨rfl,lo,hi,rfl,g1,g2,g4,g5⟩
    subst g1
    exact Zx (hQ lo g2 g4 g5)
 ·have hr':f h=false:=by simpa using hr
  rw[if_neg hr]
  refine Zo (Z2C (Z0P (I:=fun x c st'=>st'=st∧∃ lf o,c=(none,lf,o)∧lf<o∧x+1≤o∧lf<h+1∧f (h-lf)=false)
   (Q:=fun c st'=>st'=st∧∃ lf o,c=(none,lf,o)∧lf<o∧lf<h+1∧f (h-lf)=false∧(o<h+1→f (h-o)=true)) ?is ?fi ⟨rfl,0,1,rfl,by lia,by lia,by simp,hr'⟩) ?po)
  case is =>
   rintro x c st'-hx ⟨rfl,lf,o,rfl,h1,h2,h3,h4⟩
   dsimp only
   by_cases ho:o ≥ h+1
   ·rw[if_pos ho]
    exact Zx ⟨rfl,lf,o,rfl,h1,h3,h4,fun z=>by lia⟩
   ·rw[if_neg ho]
    refine Zo (ask (h-o) (by lia) ?_)
    dsimp only
    cases hfo:f (h-o) with
    |true=>exact Zx ⟨rfl,lf,o,rfl,h1,h3,h4,fun _=>hfo⟩
    |false=>exact Zx ⟨rfl,o,2*o+1,rfl,by lia,by lia,by exact Z7i (by assumption),hfo⟩
  case fi =>
   rintro c st' ⟨rfl,lf,o,rfl,h1,h2,h3,h4⟩
   exact⟨rfl,lf,o,rfl,h1,h3,h4,fun z=>by lia⟩
  case po =>
   rintro c st' ⟨rfl,lf,o,rfl,h1,h3,h4,h5⟩
   dsimp only
   refine Zo (Z2C (Z0P (I:=fun x c st''=>st''=st'∧∃ lo hi,c=(none,lo,hi)∧lo≤hi∧hi≤n∧x+hi≤n+lo∧(∀ i,i<lo→f i=true)∧(∀ i,hi≤i→i<n→f i=false))
    (Q:=fun c st''=>st''=st'∧∃ lo hi,c=(none,lo,hi)∧lo=hi∧hi≤n∧(∀ i,i<lo→f i=true)∧(∀ i,hi≤i→i<n→f i=false)) ?is2 ?fi2 ?in2) ?po2)
   case is2 =>
    rintro x c st''-hx ⟨rfl,lo,hi,rfl,g1,g2,g3,g4,g5⟩
    dsimp only
    by_cases hge:lo ≥ hi
    ·rw[if_pos hge]
     exact Zx ⟨rfl,lo,hi,rfl,by lia,g2,g4,g5⟩
    ·rw[if_neg hge]
     refine Zo (ask (lo+(hi-lo) / 2) (by lia) ?_)
     dsimp only
     cases hm:f (lo+(hi-lo) / 2) with
     |true=>exact Zx ⟨rfl,lo+(hi-lo) / 2+1,hi,rfl,by lia,g2,by lia,fun i z=>mono i (lo+(hi-lo) / 2) (by lia) (by lia) hm,g5⟩
     |false=>exact Zx ⟨rfl,lo,lo+(hi-lo) / 2,rfl,by lia,by lia,by lia,g4,fun i z zn=>monof (lo+(hi-lo) / 2) i z zn hm⟩
   case fi2 =>
    rintro c st'' ⟨rfl,lo,hi,rfl,g1,g2,g3,g4,g5⟩
    exact⟨rfl,lo,hi,rfl,by lia,g2,g4,g5⟩
   case in2 =>
    refine⟨rfl,_,_,rfl,by omega,by lia,by lia,fun i z=>?_,fun i z zn=>monof (h-lf) i (by omega) zn h4⟩
    by_cases ho:o<h+1
    ·exact mono i (h-o) (by omega) (by lia) (h5 ho)
    ·omega
   case po2 =>
    rintro c st'' ⟨rfl,lo,hi,rfl,g1,g2,g4,g5⟩
    subst g1
    exact Zx (hQ lo g2 g4 g5)
end
end Sg
namespace Sg
open PySem PyProof.Rows
noncomputable abbrev Zi6 (st:SortSt)(g:Nat):SortSt:=Z7o (kindOf st) (arrOf st) (pendingOf st) g (failedOf st)
noncomputable def Z0n (st st':SortSt):Prop:=∃ g,st'=Zi6 st g
theorem Z0n.refl (st:SortSt):Z0n st st:=⟨gallopOf st,rfl⟩
theorem Z0n.gal {st st':SortSt}(h:Z0n st st')(g:Nat):Z0n st (Zi6 st' g):=by
 obtain⟨g',rfl⟩:=h
 exact⟨g,rfl⟩
theorem Z0n.kind {st st':SortSt}(h:Z0n st st'):kindOf st'=kindOf st:=by
 obtain⟨g',rfl⟩:=h
 rfl
section pure
variable {O:KeyOrd}{key:Keyed→O.α}
theorem Zae {xs:Array Keyed}{i:Nat}(h:i<xs.size):xs.toList.drop i=nth xs i::xs.toList.drop (i+1):=by
 have h':i<xs.toList.length:=by simpa using h
 rw[Z1O h']
 congr 1
 have e:=Z5k h
 rw[Zc h'] at e
 exact Z0e e
theorem Z8M {xs:Array Keyed}(u:Up key xs.toList){i j:Nat}(hij:i≤j)(hj:j<xs.size):O.kle (key (nth xs i)) (key (nth xs j)):=by
 rcases Nat.eq_or_lt_of_le hij with rfl|hlt
 ·exact Z2d _
 ·have hi':i<xs.toList.length:=by simp;exact ZaQ (by assumption) (by assumption)
  have hj':j<xs.toList.length:=by simpa using hj
  have e1:=Z5k (xs:=xs) (i:=i) (by lia)
  have e2:=Z5k hj
  rw[Zc hi'] at e1
  rw[Zc hj'] at e2
  have h:=Zef.mp u i j hi' hj' hlt
  rw[Z0e e1,Z0e e2] at h
  exact h
theorem Z3C {xs:Array Keyed}{i k:Nat}{x:Keyed}(h:x∈(xs.toList.drop i).take k):∃ j,j<k∧i+j<xs.size∧x=nth xs (i+j):=by
 obtain⟨j,hj,e⟩:=Z2Y h
 have hj':=hj
 rw[ZA,ZM,ZN] at hj'
 refine⟨j,by lia,by omega,?_⟩
 rw[← e,Z6s,Z6t]
 have e2:=Z5k (xs:=xs) (i:=i+j) (by lia)
 rw[Zc (by simp;lia)] at e2
 exact Z0e e2
theorem Zln {xs:Array Keyed}{i:Nat}{x:Keyed}(h:x∈xs.toList.drop i):∃ j,i+j<xs.size∧x=nth xs (i+j):=by
 have h':x∈(xs.toList.drop i).take (xs.toList.drop i).length:=by rw[Z35];exact h
 obtain⟨j,-,h2,h3⟩:=Z3C h'
 exact⟨j,h2,h3⟩
theorem ZbV {xs:Array Keyed}{n t:Nat}{x:Keyed}(h:x∈(xs.toList.take n).drop t):∃ j,t≤j∧j<n∧j<xs.size∧x=nth xs j:=by
 obtain⟨j,hj,e⟩:=Z2Y h
 have hj':=hj
 rw[ZM,ZA,ZN] at hj'
 refine⟨t+j,by simp,by omega,by omega,?_⟩
 rw[← e,Z6t,Z6s]
 have e2:=Z5k (xs:=xs) (i:=t+j) (by lia)
 rw[Zc (by simp;lia)] at e2
 exact Z0e e2
theorem Zdh {xs:Array Keyed}{n:Nat}{x:Keyed}(h:x∈xs.toList.take n):∃ j,j<n∧j<xs.size∧x=nth xs j:=by
 have h':x∈(xs.toList.take n).drop 0:=by rw[Z3R];exact h
 obtain⟨j,-,h2,h3,h4⟩:=ZbV h'
 exact⟨j,h2,h3,h4⟩
theorem Zcd {xs:Array Keyed}(u:Up key xs.toList){l:List Keyed}{i:Nat}(h:∀ x∈l,i<xs.size→O.kle (key x) (key (nth xs i))):Below key l (xs.toList.drop i):=by
 intro x hx y hy
 obtain⟨j,hj,rfl⟩:=Zln hy
 exact Z0B (h x hx (by lia)) (Z8M u (by lia) hj)
theorem Z8B {xs:Array Keyed}(u:Up key xs.toList){l:List Keyed}{n:Nat}(hn:n≤xs.size)(h:∀ x∈l,0<n→O.kle (key (nth xs (n-1))) (key x)):Below key (xs.toList.take n) l:=by
 intro x hx y hy
 obtain⟨j,hj,hj2,rfl⟩:=Zdh hx
 exact Z0B (Z8M u (by lia) (by lia)) (h y hy (by lia))
theorem Z7a {l:Bool}{k:Keyed}{arr:Array Keyed}{b n:Nat}(h:∀ i j,i≤j→j<n→O.kle (key (nth arr (b+i))) (key (nth arr (b+j)))) :
  ∀ i j,i≤j→j<n→bey key l k arr b j=true→bey key l k arr b i=true:=by
 intro i j hij hj hb
 have hle:=h i j hij hj
 unfold bey at hb ⊢
 cases l with
 |true =>
  simp only[if_true] at hb ⊢
  exact Zct hle hb
 |false =>
  simp only[Zu,if_false,Z6v] at hb ⊢
  exact Z0B hle hb
theorem Z52 {k:Keyed}{arr:Array Keyed}{b i:Nat}:(bey key false k arr b i=true↔O.kle (key (nth arr (b+i))) (key k))∧(bey key false k arr b i=false↔O.klt (key k) (key (nth arr (b+i)))):=by
 unfold bey Zr8 Zr7
 simp
theorem Z6b {k:Keyed}{arr:Array Keyed}{b i:Nat}:(bey key true k arr b i=true↔O.klt (key (nth arr (b+i))) (key k))∧(bey key true k arr b i=false↔O.kle (key k) (key (nth arr (b+i)))):=by
 unfold bey Zr8 Zr7
 simp
noncomputable def LoA (key:Keyed→O.α)(a b out:Array Keyed)(ia ib:Nat):Prop:=Lo key a.toList b.toList out.toList ia ib
noncomputable def Zcw (key:Keyed→O.α)(a b R:Array Keyed):Prop:=R.toList.Perm (a.toList++b.toList)∧Up key R.toList
variable {a b out:Array Keyed}{ia ib k:Nat}
theorem Z6a {xs:Array Keyed}{i k:Nat}:(xs.extract i (i+k)).toList=(xs.toList.drop i).take k:=by
 rw[Z3F,Z2y,Z0x]
theorem Z9A {xs:Array Keyed}{i:Nat}:(xs.extract i xs.size).toList=xs.toList.drop i:=by
 rw[Z3F,Z2y,Z0s (by simp)]
theorem Z9z {xs:Array Keyed}{t n:Nat}(h:n≤xs.size):(xs.extract t n).toList=(xs.toList.take n).drop t:=by
 rw[Z3F,Z2y,Z8l]
theorem LoA.partA (h:LoA key a b out ia ib)(ua:Up key a.toList)(ub:Up key b.toList)(hb:∀ j,j<k→ia+j<a.size→ib<b.size→O.kle (key (nth a (ia+j))) (key (nth b ib))) :
  LoA key a b (out++a.extract ia (ia+k)) (ia+k) ib:=by
 unfold LoA
 rw[Z07,Z6a]
 refine Lo.chunkA h ua (Zcd ub fun x hx hi=>?_)
 obtain⟨j,hj,hj2,rfl⟩:=Z3C hx
 exact hb j hj hj2 hi
theorem LoA.partB (h:LoA key a b out ia ib)(ua:Up key a.toList)(ub:Up key b.toList)(hb:∀ j,j<k→ib+j<b.size→ia<a.size→O.kle (key (nth b (ib+j))) (key (nth a ia))) :
  LoA key a b (out++b.extract ib (ib+k)) ia (ib+k):=by
 unfold LoA
 rw[Z07,Z6a]
 refine Lo.chunkB h ub (Zcd ua fun x hx hi=>?_)
 obtain⟨j,hj,hj2,rfl⟩:=Z3C hx
 exact hb j hj hj2 hi
theorem LoA.pushA (h:LoA key a b out ia ib)(ua:Up key a.toList)(ub:Up key b.toList)(hi:ia<a.size)(hb:ib<b.size→O.kle (key (nth a ia)) (key (nth b ib))) :
  LoA key a b (out.push (nth a ia)) (ia+1) ib:=by
 have h':=LoA.partA (k:=1) h ua ub fun j hj _ hh=>by
  obtain rfl:j=0:=by lia
  exact hb hh
 unfold LoA at h' ⊢
 rw[Z07,Z6a,Zae hi,Z8D,Z3P] at h'
 rw[Z2b]
 exact h'
theorem LoA.pushB (h:LoA key a b out ia ib)(ua:Up key a.toList)(ub:Up key b.toList)(hi:ib<b.size)(hb:ia<a.size→O.kle (key (nth b ib)) (key (nth a ia))) :
  LoA key a b (out.push (nth b ib)) ia (ib+1):=by
 have h':=LoA.partB (k:=1) h ua ub fun j hj _ hh=>by
  obtain rfl:j=0:=by lia
  exact hb hh
 unfold LoA at h' ⊢
 rw[Z07,Z6a,Zae hi,Z8D,Z3P] at h'
 rw[Z2b]
 exact h'
theorem LoA.done (h:LoA key a b out ia ib)(ua:Up key a.toList)(ub:Up key b.toList)(hx:a.size≤ia∨b.size≤ib):Zcw key a b (out++a.extract ia a.size++b.extract ib b.size):=by
 unfold Zcw
 rw[Z07,Z07,Z9A,Z9A]
 refine Lo.finA h ua ub ?_
 rcases hx with hx|hx
 ·rw[Z03 (by simpa using hx)];exact Z80
 ·rw[Z03 (l:=b.toList) (by simpa using hx)];exact Z8b
theorem LoA.last (h:LoA key a b out ia ib)(ua:Up key a.toList)(ub:Up key b.toList)(hl:∀ y∈b.toList,O.kle (key y) (key (nth a (a.size-1))))(hi:ia+1=a.size) :
  Zcw key a b (out++b.extract ib b.size++a.extract ia a.size):=by
 unfold Zcw
 rw[Z07,Z07,Z9A,Z9A]
 refine Lo.finB h ua ub (Zcd ua fun x hx _=>?_)
 have e:ia=a.size-1:=by lia
 rw[e]
 exact hl x (Z0C hx)
end pure
section
variable {prog:Program}{w:World}{A:Around}{E:Value→Shared→Prop}{s:Shared}{O:KeyOrd}{key:Keyed→O.α}{G:Keyed→Prop}{kd:Z3V}{st:SortSt}
theorem Z6S {g:Nat}{Q:Unit→SortSt→Prop}(h:Q () (Zi6 st g)):wpS (model prog w) A E s (ZbK g) Q st:=Z3S h
@[elab_as_elim] theorem ex2 {α β σ:Type} {F:α→β→σ} {B:α→β→Prop} {c:σ} {T:σ→Prop} (h:∃ a b,c=F a b∧B a b) (k:∀ a b,B a b→T (F a b)):T c:=let ⟨_,_,e,h⟩:=h;e ▸ k _ _ h
@[elab_as_elim] theorem ex4 {α β γ δ σ:Type} {F:α→β→γ→δ→σ} {B:α→β→γ→δ→Prop} {c:σ} {T:σ→Prop} (h:∃ a b d e,c=F a b d e∧B a b d e) (k:∀ a b d e,B a b d e→T (F a b d e)):T c:=let ⟨_,_,_,_,e,h⟩:=h;e ▸ k _ _ _ _ h
@[elab_as_elim] theorem ex5 {α β γ δ ε σ:Type} {F:α→β→γ→δ→ε→σ} {B:α→β→γ→δ→ε→Prop} {c:σ} {T:σ→Prop} (h:∃ a b d e f,c=F a b d e f∧B a b d e f) (k:∀ a b d e f,B a b d e f→T (F a b d e f)):T c:=let ⟨_,_,_,_,_,e,h⟩:=h;e ▸ k _ _ _ _ _ h
@[elab_as_elim] theorem ex6 {α β γ δ ε ζ σ:Type} {F:α→β→γ→δ→ε→ζ→σ} {B:α→β→γ→δ→ε→ζ→Prop} {c:σ} {T:σ→Prop} (h:∃ a b d e f g,c=F a b d e f g∧B a b d e f g) (k:∀ a b d e f g,B a b d e f g→T (F a b d e f g)):T c:=let ⟨_,_,_,_,_,_,e,h⟩:=h;e ▸ k _ _ _ _ _ _ h
theorem ZhN {β:Type}{c:Prop}[Decidable c]{p q:StateT SortSt Sem β}{F:Nat→StateT SortSt Sem β}{x y:Nat}{M:Model}{Q:β→SortSt→Prop}{st:SortSt}(hq:q=F y)(hp:p=F x)(h:∀ z,wpS M A E s (F z) Q st):wpS M A E s (if c then p else q) Q st:=by
 split
 ·rw[hp];exact h x
 ·rw[hq];exact h y
theorem ZbB {β α γ:Type}{c:Prop}[Decidable c]{p q:StateT SortSt Sem β}{F:α→γ→StateT SortSt Sem β}{x:α}{y:γ}{M:Model}{Q:β→SortSt→Prop}{st:SortSt}(hq:q=F x y)(P:α→γ→Prop)(tl:∀ u v,P u v→wpS M A E s (F u v) Q st)
  (h1:c→(∀ u v,P u v→wpS M A E s (F u v) Q st)→wpS M A E s p Q st) (h2:¬ c→P x y):wpS M A E s (if c then p else q) Q st:=by
 by_cases h:c
 ·rw[if_pos h];exact h1 h tl
 ·rw[if_neg h,hq];exact tl _ _ (h2 h)
theorem Zeq {a b:Array Keyed}{Q:Array Keyed→SortSt→Prop}(hc:ZhL prog w s O key G kd)(hk:kindOf st=kd)
  (ga:∀ x∈a.toList,G x) (gb:∀ x∈b.toList,G x) (ua:Up key a.toList) (ub:Up key b.toList) (ha:1≤a.size) (hb:1≤b.size)
  (hf:O.kle (key (nth b 0)) (key (nth a 0))) (hl:∀ y∈b.toList,O.kle (key y) (key (nth a (a.size-1))))
  (h:∀ R st',Zcw key a b R→Z0n st st'→Q R st'):wpS (model prog w) A E s (Zll a b) Q st:=by
 refine Zo (ZaU (Z2A ⟨rfl,?_⟩))
 dsimp only
 refine Zo (Z0V (by assumption) ?_)
 have L0:LoA key a b #[nth b 0] 0 1:=by
  have l:LoA key a b #[] 0 0:=by
   refine⟨?_,Z2j,Z80,Z80⟩
   simp
  exact LoA.pushB l ua ub (by lia) fun _=>hf
 by_cases h1:(1 == b.size)=true
 ·rw[if_pos h1]
  exact Zx (h _ _ (L0.done ua ub (.inr (by simp at h1;lia))) (Z0n.refl _))
 rw[if_neg h1]
 by_cases h2:(0+1 == a.size)=true
 ·rw[if_pos h2]
  exact Zx (h _ _ (L0.last ua ub hl (by simp at h2;omega)) (Z0n.refl _))
 rw[if_neg h2]
 simp only[beq_iff_eq] at h1 h2
 refine Zo (Z6e ?_)
 refine Zo (Z2C (Z0P
  (I:=fun x c st'=>Z0n st st'∧∃ out ia ib g,c=(none,out,ia,ib,g)∧LoA key a b out ia ib∧ia+1<a.size∧ib<b.size∧x≤ia+ib)
  (Q:=fun c st'=>Z0n st st'∧∃ R rest,c=(some R,rest)∧Zcw key a b R) ?is ?fi ⟨Z0n.refl _,_,_,_,_,rfl,L0,by lia,by lia,by exact Z2z _⟩) ?po)
 case fi =>
  rintro c st' ⟨-,out,ia,ib,g,rfl,-,l1,l2,l3⟩
  exfalso
  lia
 case po =>
  rintro c st' ⟨sm,R,rest,rfl,hR⟩
  exact Zx (h R st' hR sm)
 case is =>
  intro x c st' _ hx hI
  have sm:=hI.1
  refine ex4 (c:=c) hI.2 fun out ia ib g hB=>?_
  have L:=hB.1
  have l1:=hB.2.1
  have l2:=hB.2.2.1
  have l3:=hB.2.2.2
  clear hB hI
  dsimp only
  refine Zo (Z2C (Z0P
   (I:=fun y c st''=>st''=st'∧∃ out ia ib ac bc,c=(none,out,ia,ib,ac,bc)∧LoA key a b out ia ib∧ia+1<a.size∧ib<b.size∧x+y≤ia+ib)
   (Q:=fun c st''=>st''=st'∧((∃ R rest,c=(some R,rest)∧Zcw key a b R) ∨
    ∃ out ia ib ac bc,c=(none,out,ia,ib,ac,bc)∧LoA key a b out ia ib∧ia+1<a.size∧ib<b.size∧x+1≤ia+ib)) ?is1 ?fi1 ⟨rfl,_,_,_,_,_,rfl,L,l1,l2,by omega⟩) ?po1)
  case fi1 =>
   rintro c st'' ⟨-,out,ia,ib,ac,bc,rfl,-,m1,m2,m3⟩
   exfalso
   lia
  case is1 =>
   intro y c st'' _ hy hI
   have e:=hI.1
   subst e
   refine ex5 (c:=c) hI.2 fun out ia ib ac bc hB=>?_
   have L:=hB.1
   have m1:=hB.2.1
   have m2:=hB.2.2.1
   have m3:=hB.2.2.2
   clear hB hI
   dsimp only
   refine Zo (Z0V m2 (Zo (Z0V (by exact Z3v (by assumption)) (Zo (Z9F hc (sm.kind.trans hk) (gb _ (Z3H m2)) (ga _ (Z3H (by lia))) ?_)))))
   dsimp only
   cases hw:O.blt (key (nth b ib)) (key (nth a ia)) with
   |true =>
    simp only[if_true]
    refine Zo (Z0V m2 ?_)
    have L2:=L.pushB ua ub m2 fun _=>Z0D hw
    by_cases e1:(ib+1 == b.size)=true
    ·rw[if_pos e1]
     simp only[beq_iff_eq] at e1
     exact Zx ⟨rfl,.inl ⟨_,_,rfl,L2.done ua ub (.inr (by lia))⟩⟩
    ·rw[if_neg e1]
     simp only[beq_iff_eq] at e1
     split
     ·exact Zx ⟨rfl,.inr ⟨_,_,_,_,_,rfl,L2,m1,by lia,by lia⟩⟩
     ·exact Zx ⟨rfl,_,_,_,_,_,rfl,L2,m1,by lia,by lia⟩
   |false =>
    simp only[Zu,if_false]
    refine Zo (Z0V (by lia) ?_)
    have L2:=L.pushA ua ub (by lia) fun _=>hw
    by_cases e1:(ia+1+1 == a.size)=true
    ·rw[if_pos e1]
     simp only[beq_iff_eq] at e1
     exact Zx ⟨rfl,.inl ⟨_,_,rfl,L2.last ua ub hl (by omega)⟩⟩
    ·rw[if_neg e1]
     simp only[beq_iff_eq] at e1
     split
     ·exact Zx ⟨rfl,.inr ⟨_,_,_,_,_,rfl,L2,by lia,m2,by lia⟩⟩
     ·exact Zx ⟨rfl,_,_,_,_,_,rfl,L2,by lia,m2,by lia⟩
  case po1 =>
   intro c st'' hQ
   have e:=hQ.1
   subst e
   refine hQ.2.elim (fun hR=>ex2 (c:=c) hR fun R rest hR=>?_) fun hI=>ex5 (c:=c) hI fun out ia ib ac bc hB=>?_
   ·dsimp only
    exact Zx ⟨sm,R,_,rfl,hR⟩
   ·have L:=hB.1
    have m1:=hB.2.1
    have m2:=hB.2.2.1
    have m3:=hB.2.2.2
    clear hB hI hQ
    dsimp only
    refine Zo (ZaU (Z2A ⟨rfl,?_⟩))
    refine Zo (Z2C (Z0P
     (I:=fun y c st3=>Z0n st st3∧∃ out ia ib g ac bc,c=(none,out,ia,ib,g,ac,bc)∧LoA key a b out ia ib∧ia+1<a.size∧ib<b.size∧x+1+y≤ia+ib)
     (Q:=fun c st3=>Z0n st st3∧((∃ R rest,c=(some R,rest)∧Zcw key a b R) ∨
      ∃ out ia ib g ac bc,c=(none,out,ia,ib,g,ac,bc)∧LoA key a b out ia ib∧ia+1<a.size∧ib<b.size∧x+1≤ia+ib)) ?is2 ?fi2 ⟨sm,_,_,_,_,_,_,rfl,L,m1,m2,by omega⟩) ?po2)
    case fi2 =>
     rintro c st3 ⟨-,out,ia,ib,g,ac,bc,rfl,-,m1,m2,m3⟩
     exfalso
     lia
    case po2 =>
     intro c st3 hQ
     have sm:=hQ.1
     refine hQ.2.elim (fun hR=>ex2 (c:=c) hR fun R rest hR=>?_) fun hI=>ex6 (c:=c) hI fun out ia ib g ac bc hB=>?_
     ·dsimp only
      exact Zx ⟨sm,R,_,rfl,hR⟩
     ·have L:=hB.1
      have m1:=hB.2.1
      have m2:=hB.2.2.1
      have m3:=hB.2.2.2
      clear hB hI hQ
      dsimp only
      exact Zo (Z6S (Zx ⟨sm.gal _,_,_,_,_,rfl,L,m1,m2,by omega⟩))
    case is2 =>
     intro y c st3 _ hy hI
     have sm:=hI.1
     refine ex6 (c:=c) hI.2 fun out ia ib g ac bc hB=>?_
     have L:=hB.1
     have m1:=hB.2.1
     have m2:=hB.2.2.1
     have m3:=hB.2.2.2
     clear hB hI
     dsimp only
     refine ZhN (x:=g-1) (y:=g) (by rfl) (by rfl) fun g=>?_
     refine Zo (Z6S ?_)
     refine Zo (Z0V m2 (Zo (Z4O hc ((Z0n.kind (sm.gal _)).trans hk) (fun i hi=>ga _ (Z3H (by omega))) (gb _ (Z3H m2)) (by omega) (by omega)
      (Z7a fun i j hij hj=>Z8M ua (by lia) (by lia)) fun k k1 k2 k3=>?_)))
     dsimp only
     have L1:=L.partA (k:=k) ua ub fun j hj _ _=>Z52.1.mp (k2 j hj)
     have hnx:ia+k<a.size→O.kle (key (nth b ib)) (key (nth a (ia+k))):=fun hh=>Z0D (Z52.2.mp (k3 k (Zg _) (by lia)))
     refine ZbB (x:=out) (y:=ia) (by rfl) (fun out1 ia1=>LoA key a b out1 ia1 ib∧ia1+1<a.size∧x+1+y≤ia1+ib∧(ia1<a.size→O.kle (key (nth b ib)) (key (nth a ia1)))) ?t1 (fun hk0 tl=>?p1) fun hk0=>?n1
     case n1 =>
      have hk':k=0:=by lia
      subst hk'
      exact⟨L,m1,m3,hnx⟩
     case p1 =>
      by_cases e1:(ia+k+1 == a.size)=true
      ·rw[if_pos e1]
       simp only[beq_iff_eq] at e1
       exact Zx ⟨sm.gal _,.inl ⟨_,_,rfl,L1.last ua ub hl (by omega)⟩⟩
      rw[if_neg e1]
      by_cases e2:(ia+k == a.size)=true
      ·rw[if_pos e2]
       simp only[beq_iff_eq] at e2
       exact Zx ⟨sm.gal _,.inl ⟨_,_,rfl,L1.done ua ub (.inl (by lia))⟩⟩
      rw[if_neg e2]
      simp only[beq_iff_eq] at e1 e2
      exact tl _ _ ⟨L1,by lia,by lia,hnx⟩
     case t1 =>
      clear hnx L1 k1 k2 k3 L m3 m1
      rintro out1 ia1 ⟨L1,n1,n2,hnx⟩
      refine Zo (Z0V m2 ?_)
      have L2:=L1.pushB ua ub m2 hnx
      by_cases e3:(ib+1 == b.size)=true
      ·rw[if_pos e3]
       simp only[beq_iff_eq] at e3
       exact Zx ⟨sm.gal _,.inl ⟨_,_,rfl,L2.done ua ub (.inr (by lia))⟩⟩
      rw[if_neg e3]
      simp only[beq_iff_eq] at e3
      have n3:ib+1<b.size:=by lia
      have n5:x+1+y+1≤ia1+(ib+1):=by lia
      clear hnx L1 n2 e3
      generalize out1.push (nth b ib)=out2 at L2 ⊢
      generalize ib+1=ib2 at L2 n3 n5 ⊢
      refine Zo (Z0V (by lia) (Zo (Z4O hc ((Z0n.kind (sm.gal _)).trans hk) (fun i hi=>gb _ (Z3H (by omega))) (ga _ (Z3H (by lia))) (by omega) (by omega)
       (Z7a fun i j hij hj=>Z8M ub (by lia) (by lia)) fun q q1 q2 q3=>?_)))
      dsimp only
      have L3:=L2.partB (k:=q) ua ub fun j hj _ _=>Z0D (Z6b.1.mp (q2 j hj))
      have hny:ib2+q<b.size→O.kle (key (nth a ia1)) (key (nth b (ib2+q))):=fun hh=>Z6b.2.mp (q3 q (Zg _) (by lia))
      refine ZbB (x:=out2) (y:=ib2) (by rfl) (fun out3 ib3=>LoA key a b out3 ia1 ib3∧ib3<b.size∧x+1+y+1≤ia1+ib3∧(ib3<b.size→O.kle (key (nth a ia1)) (key (nth b ib3)))) ?t2 (fun hq0 tl=>?p2) fun hq0=>?n2
      case n2 =>
       have hq:q=0:=by lia
       subst hq
       exact⟨L2,n3,n5,hny⟩
      case p2 =>
       by_cases e4:(ib2+q == b.size)=true
       ·rw[if_pos e4]
        simp only[beq_iff_eq] at e4
        exact Zx ⟨sm.gal _,.inl ⟨_,_,rfl,L3.done ua ub (.inr (by lia))⟩⟩
       rw[if_neg e4]
       simp only[beq_iff_eq] at e4
       exact tl _ _ ⟨L3,by lia,by lia,hny⟩
      case t2 =>
       clear hny L3 q1 q2 q3 L2 n3 n5
       rintro out3 ib3 ⟨L3,n4,n5,hny⟩
       refine Zo (Z0V (by lia) ?_)
       have L4:=L3.pushA ua ub (by lia) hny
       by_cases e5:(ia1+1+1 == a.size)=true
       ·rw[if_pos e5]
        simp only[beq_iff_eq] at e5
        exact Zx ⟨sm.gal _,.inl ⟨_,_,rfl,L4.last ua ub hl (by lia)⟩⟩
       rw[if_neg e5]
       simp only[beq_iff_eq] at e5
       split
       ·exact Zx ⟨sm.gal _,.inr ⟨_,_,_,_,_,_,rfl,L4,by lia,by omega,by lia⟩⟩
       ·exact Zx ⟨sm.gal _,_,_,_,_,_,_,rfl,L4,by lia,by lia,by lia⟩
end
end Sg
namespace Sg
open PySem PyProof.Rows
section pure
variable {O:KeyOrd}{key:Keyed→O.α}{a b out:Array Keyed}{na nb t:Nat}
noncomputable def HiA (key:Keyed→O.α)(a b out:Array Keyed)(na nb:Nat):Prop:=Hi key a.toList b.toList out.toList na nb
theorem ZfF {xs:Array Keyed}{n:Nat}(h0:0<n)(hn:n≤xs.size):(xs.toList.take n).drop (n-1)=[nth xs (n-1)]:=by
 rw[Z8l,Zae (by omega),show n-(n-1)=1 by lia,Z8D,Z3P]
theorem HiA.partA (h:HiA key a b out na nb)(ua:Up key a.toList)(ub:Up key b.toList)(ht:t≤na)(hn:na≤a.size)(hm:nb≤b.size)(hb:∀ j,t≤j→j<na→0<nb→O.kle (key (nth b (nb-1))) (key (nth a j))) :
  HiA key a b (out++(a.extract t na).reverse) t nb:=by
 unfold HiA
 rw[Z07,Z2B,Z9z hn]
 refine Hi.chunkA h ua ht (Z8B ub hm fun x hx hi=>?_)
 obtain⟨j,h1,h2,h3,rfl⟩:=ZbV hx
 exact hb j h1 h2 hi
theorem HiA.partB (h:HiA key a b out na nb)(ua:Up key a.toList)(ub:Up key b.toList)(ht:t≤nb)(hn:nb≤b.size)(hm:na≤a.size)(hb:∀ j,t≤j→j<nb→0<na→O.kle (key (nth a (na-1))) (key (nth b j))) :
  HiA key a b (out++(b.extract t nb).reverse) na t:=by
 unfold HiA
 rw[Z07,Z2B,Z9z hn]
 refine Hi.chunkB h ub ht (Z8B ua hm fun x hx hi=>?_)
 obtain⟨j,h1,h2,h3,rfl⟩:=ZbV hx
 exact hb j h1 h2 hi
theorem HiA.pushA (h:HiA key a b out na nb)(ua:Up key a.toList)(ub:Up key b.toList)(hi:0<na∧na≤a.size)(hm:nb≤b.size)(hb:0<nb→O.kle (key (nth b (nb-1))) (key (nth a (na-1)))) :
  HiA key a b (out.push (nth a (na-1))) (na-1) nb:=by
 have h':=HiA.partA (t:=na-1) h ua ub (by exact ZaG _ _) hi.2 hm fun j h1 h2 h3=>by
  obtain rfl:j=na-1:=by lia
  exact hb h3
 unfold HiA at h' ⊢
 rw[Z07,Z2B,Z9z hi.2,ZfF hi.1 hi.2,ZgE] at h'
 rw[Z2b]
 exact h'
theorem HiA.pushB (h:HiA key a b out na nb)(ua:Up key a.toList)(ub:Up key b.toList)(hi:0<nb∧nb≤b.size)(hm:na≤a.size)(hb:0<na→O.kle (key (nth a (na-1))) (key (nth b (nb-1)))) :
  HiA key a b (out.push (nth b (nb-1))) na (nb-1):=by
 have h':=HiA.partB (t:=nb-1) h ua ub (by lia) hi.2 hm fun j h1 h2 h3=>by
  obtain rfl:j=nb-1:=by lia
  exact hb h3
 unfold HiA at h' ⊢
 rw[Z07,Z2B,Z9z hi.2,ZfF hi.1 hi.2,ZgE] at h'
 rw[Z2b]
 exact h'
theorem Z89 {xs:Array Keyed}{n:Nat}:(xs.extract 0 n).toList=xs.toList.take n:=by
 rw[Z3F,Z2y,Z3R,Z7N]
theorem HiA.done (h:HiA key a b out na nb)(ua:Up key a.toList)(ub:Up key b.toList)(hx:na=0∨nb=0):Zcw key a b (a.extract 0 na++b.extract 0 nb++out.reverse):=by
 unfold Zcw
 rw[Z07,Z07,Z89,Z89,Z2B]
 refine Hi.finA h ua ub ?_
 rcases hx with rfl|rfl
 ·exact Z80
 ·exact Z8b
theorem HiA.first (h:HiA key a b out na nb)(ua:Up key a.toList)(ub:Up key b.toList)(hf:O.kle (key (nth b 0)) (key (nth a 0)))(hi:nb=1)(hb:nb≤b.size) :
  Zcw key a b (b.extract 0 nb++a.extract 0 na++out.reverse):=by
 unfold Zcw
 rw[Z07,Z07,Z89,Z89,Z2B]
 refine Hi.finB h ua ub (Z8B ub hb fun x hx _=>?_)
 obtain⟨j,h1,h2,rfl⟩:=Zdh hx
 subst hi
 exact Z0B hf (Z8M ua (Z0r _) h2)
end pure
section
variable {prog:Program}{w:World}{A:Around}{E:Value→Shared→Prop}{s:Shared}{O:KeyOrd}{key:Keyed→O.α}{G:Keyed→Prop}{kd:Z3V}{st:SortSt}
theorem Zer {a b:Array Keyed}{Q:Array Keyed→SortSt→Prop}(hc:ZhL prog w s O key G kd)(hk:kindOf st=kd)
  (ga:∀ x∈a.toList,G x) (gb:∀ x∈b.toList,G x) (ua:Up key a.toList) (ub:Up key b.toList) (ha:1≤a.size) (hb:1≤b.size)
  (hf:O.kle (key (nth b 0)) (key (nth a 0))) (hl:∀ y∈b.toList,O.kle (key y) (key (nth a (a.size-1))))
  (h:∀ R st',Zcw key a b R→Z0n st st'→Q R st'):wpS (model prog w) A E s (Zlm a b) Q st:=by
 refine Zo (ZaU (Z2A ⟨rfl,?_⟩))
 dsimp only
 refine Zo (Z0V (by exact ZmS (by assumption) (by decide)) ?_)
 have L0:HiA key a b #[nth a (a.size-1)] (a.size-1) b.size:=by
  have l:HiA key a b #[] a.size b.size:=by
   refine⟨?_,Z2j,Z8b,Z8b⟩
   simp
  exact HiA.pushA l ua ub (by lia) (by exact Zg _) fun _=>hl _ (Z3H (by lia))
 by_cases h1:(a.size-1 == 0)=true
 ·rw[if_pos h1]
  exact Zx (h _ _ (L0.done ua ub (.inl (by simp at h1;omega))) (Z0n.refl _))
 rw[if_neg h1]
 by_cases h2:(b.size == 1)=true
 ·rw[if_pos h2]
  exact Zx (h _ _ (L0.first ua ub hf (by simp at h2;omega) (by lia)) (Z0n.refl _))
 rw[if_neg h2]
 simp only[beq_iff_eq] at h1 h2
 refine Zo (Z6e ?_)
 refine Zo (Z2C (Z0P
  (I:=fun x c st'=>Z0n st st'∧∃ na nb out g,c=(none,na,nb,out,g)∧HiA key a b out na nb∧0<na∧na≤a.size∧1<nb∧nb≤b.size∧x+na+nb≤a.size+b.size)
  (Q:=fun c st'=>Z0n st st'∧∃ R rest,c=(some R,rest)∧Zcw key a b R) ?is ?fi ⟨Z0n.refl _,_,_,_,_,rfl,L0,by exact Z4t (by assumption),by exact ZaG _ _,by lia,by lia,by simp⟩) ?po)
 case fi =>
  rintro c st' ⟨-,na,nb,out,g,rfl,-,l1,l2,l3,l4,l5⟩
  exfalso
  lia
 case po =>
  rintro c st' ⟨sm,R,rest,rfl,hR⟩
  exact Zx (h R st' hR sm)
 case is =>
  intro x c st' _ hx hI
  have sm:=hI.1
  refine ex4 (c:=c) hI.2 fun na nb out g hB=>?_
  have L:=hB.1
  have l1:=hB.2.1
  have l2:=hB.2.2.1
  have l3:=hB.2.2.2.1
  have l4:=hB.2.2.2.2.1
  have l5:=hB.2.2.2.2.2
  clear hB hI
  dsimp only
  refine Zo (Z2C (Z0P
   (I:=fun y c st''=>st''=st'∧∃ na nb out ac bc,c=(none,na,nb,out,ac,bc)∧HiA key a b out na nb∧0<na∧na≤a.size∧1<nb∧nb≤b.size∧x+y+na+nb≤a.size+b.size)
   (Q:=fun c st''=>st''=st'∧((∃ R rest,c=(some R,rest)∧Zcw key a b R) ∨
    ∃ na nb out ac bc,c=(none,na,nb,out,ac,bc)∧HiA key a b out na nb∧0<na∧na≤a.size∧1<nb∧nb≤b.size∧x+1+na+nb≤a.size+b.size)) ?is1 ?fi1 ⟨rfl,_,_,_,_,_,rfl,L,l1,l2,l3,l4,by omega⟩) ?po1)
  case fi1 =>
   rintro c st'' ⟨-,na,nb,out,ac,bc,rfl,-,m1,m2,m3,m4,m5⟩
   exfalso
   lia
  case is1 =>
   intro y c st'' _ hy hI
   have e:=hI.1
   subst e
   refine ex5 (c:=c) hI.2 fun na nb out ac bc hB=>?_
   have L:=hB.1
   have m1:=hB.2.1
   have m2:=hB.2.2.1
   have m3:=hB.2.2.2.1
   have m4:=hB.2.2.2.2.1
   have m5:=hB.2.2.2.2.2
   clear hB hI
   dsimp only
   refine Zo (Z0V (by omega) (Zo (Z0V (by omega) (Zo (Z9F hc (sm.kind.trans hk) (gb _ (Z3H (by lia))) (ga _ (Z3H (by lia))) ?_)))))
   dsimp only
   cases hw:O.blt (key (nth b (nb-1))) (key (nth a (na-1))) with
   |true =>
    simp only[if_true]
    refine Zo (Z0V (by lia) ?_)
    have L2:=L.pushA ua ub (by lia) m4 fun _=>Z0D hw
    by_cases e1:(na-1 == 0)=true
    ·rw[if_pos e1]
     simp only[beq_iff_eq] at e1
     exact Zx ⟨rfl,.inl ⟨_,_,rfl,L2.done ua ub (.inl (by omega))⟩⟩
    ·rw[if_neg e1]
     simp only[beq_iff_eq] at e1
     split
     ·exact Zx ⟨rfl,.inr ⟨_,_,_,_,_,rfl,L2,by exact Z4t (by assumption),by omega,by omega,by omega,by lia⟩⟩
     ·exact Zx ⟨rfl,_,_,_,_,_,rfl,L2,by lia,by lia,by lia,by lia,by lia⟩
   |false =>
    simp only[Zu,if_false]
    refine Zo (Z0V (by lia) ?_)
    have L2:=L.pushB ua ub (by lia) m2 fun _=>hw
    by_cases e1:(nb-1 == 1)=true
    ·rw[if_pos e1]
     simp only[beq_iff_eq] at e1
     exact Zx ⟨rfl,.inl ⟨_,_,rfl,L2.first ua ub hf (by omega) (by lia)⟩⟩
    ·rw[if_neg e1]
     simp only[beq_iff_eq] at e1
     split
     ·exact Zx ⟨rfl,.inr ⟨_,_,_,_,_,rfl,L2,by omega,by lia,by lia,by omega,by lia⟩⟩
     ·exact Zx ⟨rfl,_,_,_,_,_,rfl,L2,by lia,by lia,by lia,by lia,by lia⟩
  case po1 =>
   intro c st'' hQ
   have e:=hQ.1
   subst e
   refine hQ.2.elim (fun hR=>ex2 (c:=c) hR fun R rest hR=>?_) fun hI=>ex5 (c:=c) hI fun na nb out ac bc hB=>?_
   ·dsimp only
    exact Zx ⟨sm,R,_,rfl,hR⟩
   ·have L:=hB.1
    have m1:=hB.2.1
    have m2:=hB.2.2.1
    have m3:=hB.2.2.2.1
    have m4:=hB.2.2.2.2.1
    have m5:=hB.2.2.2.2.2
    clear hB hI hQ
    dsimp only
    refine Zo (ZaU (Z2A ⟨rfl,?_⟩))
    refine Zo (Z2C (Z0P
     (I:=fun y c st3=>Z0n st st3∧∃ na nb out g ac bc,c=(none,na,nb,out,g,ac,bc)∧HiA key a b out na nb∧0<na∧na≤a.size∧1<nb∧nb≤b.size∧x+1+y+na+nb≤a.size+b.size)
     (Q:=fun c st3=>Z0n st st3∧((∃ R rest,c=(some R,rest)∧Zcw key a b R) ∨
      ∃ na nb out g ac bc,c=(none,na,nb,out,g,ac,bc)∧HiA key a b out na nb∧0<na∧na≤a.size∧1<nb∧nb≤b.size∧x+1+na+nb≤a.size+b.size)) ?is2 ?fi2 ⟨sm,_,_,_,_,_,_,rfl,L,m1,m2,m3,m4,by omega⟩) ?po2)
    case fi2 =>
     rintro c st3 ⟨-,na,nb,out,g,ac,bc,rfl,-,m1,m2,m3,m4,m5⟩
     exfalso
     lia
    case po2 =>
     intro c st3 hQ
     have sm:=hQ.1
     refine hQ.2.elim (fun hR=>ex2 (c:=c) hR fun R rest hR=>?_) fun hI=>ex6 (c:=c) hI fun na nb out g ac bc hB=>?_
     ·dsimp only
      exact Zx ⟨sm,R,_,rfl,hR⟩
     ·have L:=hB.1
      have m1:=hB.2.1
      have m2:=hB.2.2.1
      have m3:=hB.2.2.2.1
      have m4:=hB.2.2.2.2.1
      have m5:=hB.2.2.2.2.2
      clear hB hI hQ
      dsimp only
      exact Zo (Z6S (Zx ⟨sm.gal _,_,_,_,_,rfl,L,m1,m2,m3,m4,by omega⟩))
    case is2 =>
     intro y c st3 _ hy hI
     have sm:=hI.1
     refine ex6 (c:=c) hI.2 fun na nb out g ac bc hB=>?_
     have L:=hB.1
     have m1:=hB.2.1
     have m2:=hB.2.2.1
     have m3:=hB.2.2.2.1
     have m4:=hB.2.2.2.2.1
     have m5:=hB.2.2.2.2.2
     clear hB hI
     dsimp only
     refine ZhN (x:=g-1) (y:=g) (by rfl) (by rfl) fun g=>?_
     refine Zo (Z6S ?_)
     refine Zo (Z0V (by omega) (Zo (Z4O hc ((Z0n.kind (sm.gal _)).trans hk) (fun i hi=>ga _ (Z3H (by lia))) (gb _ (Z3H (by lia))) (by lia) (by exact ZmS (by assumption) (by decide))
      (Z7a fun i j hij hj=>Z8M ua (by lia) (by lia)) fun k k1 k2 k3=>?_)))
     dsimp only
     have L1:=L.partA (t:=k) ua ub (by omega) (by lia) (by lia) fun j hj hj2 _=>by
      have z:=Z0D (Z52.2.mp (k3 j hj hj2))
      rwa [Z0p] at z
     have hnx:0<k→O.kle (key (nth a (k-1))) (key (nth b (nb-1))):=fun hh=>by
      have z:=Z52.1.mp (k2 (k-1) (by lia))
      rwa [Z0p] at z
     generalize hac:na-k=ac2
     refine ZbB (x:=out) (y:=na) (by rfl) (fun out1 na1=>HiA key a b out1 na1 nb∧0<na1∧na1≤a.size∧x+1+y+na1+nb≤a.size+b.size∧(0<na1→O.kle (key (nth a (na1-1))) (key (nth b (nb-1))))) ?t1 (fun hk0 tl=>?p1) fun hk0=>?n1
     case n1 =>
      have hk':k=na:=by lia
      subst hk'
      exact⟨L,m1,m2,m5,hnx⟩
     case p1 =>
      by_cases e1:(k == 0)=true
      ·rw[if_pos e1]
       simp only[beq_iff_eq] at e1
       exact Zx ⟨sm.gal _,.inl ⟨_,_,rfl,L1.done ua ub (.inl (by omega))⟩⟩
      rw[if_neg e1]
      simp only[beq_iff_eq] at e1
      exact tl _ _ ⟨L1,by exact Z4t (by assumption),by exact ZR (by assumption) (by assumption),by lia,hnx⟩
     case t1 =>
      clear hnx L1 hac k1 k2 k3 L m5 m1 m2
      rintro out1 na1 ⟨L1,n1,n2,n3,hnx⟩
      refine Zo (Z0V (by lia) ?_)
      have L2:=L1.pushB ua ub (by omega) (by lia) hnx
      by_cases e3:(nb-1 == 1)=true
      ·rw[if_pos e3]
       simp only[beq_iff_eq] at e3
       exact Zx ⟨sm.gal _,.inl ⟨_,_,rfl,L2.first ua ub hf (by lia) (by lia)⟩⟩
      rw[if_neg e3]
      simp only[beq_iff_eq] at e3
      have n4:1<nb-1:=by omega
      have n5:nb-1≤b.size:=by omega
      have n6:x+1+y+na1+(nb-1)+1≤a.size+b.size:=by omega
      clear hnx L1 n3 e3
      generalize out1.push (nth b (nb-1))=out2 at L2 ⊢
      generalize nb-1=nb2 at L2 n4 n5 n6 ⊢
      clear m3 m4
      refine Zo (Z0V (by omega) (Zo (Z4O hc ((Z0n.kind (sm.gal _)).trans hk) (fun i hi=>gb _ (Z3H (by lia))) (ga _ (Z3H (by lia))) (by lia) (by omega)
       (Z7a fun i j hij hj=>Z8M ub (by lia) (by lia)) fun q q1 q2 q3=>?_)))
      dsimp only
      have L3:=L2.partB (t:=q) ua ub (by lia) (by lia) (by lia) fun j hj hj2 _=>by
       have z:=Z6b.2.mp (q3 j hj hj2)
       rwa [Z0p] at z
      have hny:0<q→O.kle (key (nth b (q-1))) (key (nth a (na1-1))):=fun hh=>by
       have z:=Z0D (Z6b.1.mp (q2 (q-1) (by lia)))
       rwa [Z0p] at z
      generalize hbc:nb2-q=bc2
      refine ZbB (x:=out2) (y:=nb2) (by rfl) (fun out3 nb3=>HiA key a b out3 na1 nb3∧1<nb3∧nb3≤b.size∧x+1+y+na1+nb3+1≤a.size+b.size∧(0<nb3→O.kle (key (nth b (nb3-1))) (key (nth a (na1-1))))) ?t2 (fun hq0 tl=>?p2) fun hq0=>?n2
      case n2 =>
       have hq:q=nb2:=by lia
       subst hq
       exact⟨L2,n4,n5,n6,hny⟩
      case p2 =>
       by_cases e4:(q == 1)=true
       ·rw[if_pos e4]
        simp only[beq_iff_eq] at e4
        exact Zx ⟨sm.gal _,.inl ⟨_,_,rfl,L3.first ua ub hf (by omega) (by exact ZR (by assumption) (by assumption))⟩⟩
       rw[if_neg e4]
       by_cases e6:(q == 0)=true
       ·rw[if_pos e6]
        simp only[beq_iff_eq] at e6
        exact Zx ⟨sm.gal _,.inl ⟨_,_,rfl,L3.done ua ub (.inr (by lia))⟩⟩
       rw[if_neg e6]
       simp only[beq_iff_eq] at e4 e6
       exact tl _ _ ⟨L3,by lia,by lia,by lia,hny⟩
      case t2 =>
       clear hny L3 hbc q1 q2 q3 L2 n4 n5 n6
       rintro out3 nb3 ⟨L3,n4,n5,n6,hny⟩
       refine Zo (Z0V (by lia) ?_)
       have L4:=L3.pushA ua ub (by omega) (by lia) hny
       by_cases e5:(na1-1 == 0)=true
       ·rw[if_pos e5]
        simp only[beq_iff_eq] at e5
        exact Zx ⟨sm.gal _,.inl ⟨_,_,rfl,L4.done ua ub (.inl (by lia))⟩⟩
       rw[if_neg e5]
       simp only[beq_iff_eq] at e5
       split
       ·exact Zx ⟨sm.gal _,.inr ⟨_,_,_,_,_,_,rfl,L4,by lia,by omega,by lia,by lia,by lia⟩⟩
       ·exact Zx ⟨sm.gal _,_,_,_,_,_,_,rfl,L4,by lia,by lia,by lia,by lia,by lia⟩
end
end Sg
namespace Sg
open PySem PyProof.Rows
section pure
variable {O:KeyOrd}{key:Keyed→O.α}
theorem Zij:∀ (m:List Keyed) (n c:Nat) (xs:Array Keyed),c+n+m.length≤xs.size→∀ i:Nat,
  ((m.zipIdx n).foldl (fun a (p:Keyed×Nat)=>a.setIfInBounds (c+p.2) p.1) xs)[i]?=if c+n≤i∧i<c+n+m.length then m[i-(c+n)]? else xs[i]?
 |[],n,c,xs,h,i=>by
  rw[if_neg (by simp)]
  rfl
 |p::m,n,c,xs,h,i=>by
  rw[Zp] at h
  rw[ZmV,Z3s,Zij m (n+1) c _ (by rw[Array.size_setIfInBounds];lia) i]
  by_cases h1:i=c+n
  ·subst h1
   rw[if_neg (by lia),if_pos (by simp),Z47]
   rw[Array.getElem?_setIfInBounds_self_of_lt (by lia)]
   rfl
  ·by_cases h2:c+n≤i∧i<c+n+(p::m).length
   ·rw[if_pos h2]
    rw[Zp] at h2
    rw[if_pos (by lia)]
    obtain⟨j,hj⟩:∃ j,i-(c+n)=j+1:=⟨i-(c+n)-1,by lia⟩
    rw[hj,gs_]
    congr 1
    omega
   ·rw[if_neg h2]
    rw[Zp] at h2
    rw[if_neg (by lia),Array.getElem?_setIfInBounds_ne (by exact Z2q (by assumption))]
theorem ZkF {m:List Keyed}{c:Nat}{xs:Array Keyed}(h:c+m.length≤xs.size) :
  (m.zipIdx.foldl (fun a (p:Keyed×Nat)=>a.setIfInBounds (c+p.2) p.1) xs).toList=xs.toList.take c++m++xs.toList.drop (c+m.length):=by
 apply Z4H
 intro i
 rw[Z0m,Zij m 0 c xs (by omega) i,Z7P]
 have hl:(xs.toList.take c).length=c:=by rw[ZA,ZN];lia
 by_cases h1:i<c
 ·rw[if_neg (by lia),Z7,Z00 (by lia),Z44 h1,Z0m]
 ·by_cases h2:i<c+m.length
  ·rw[if_pos (by lia),Z7,ZC (by lia),hl,Z00 (by lia)]
  ·rw[if_neg (by lia),ZC (by rw[Zd,hl];exact Z1D (by assumption)),Zd,hl,Zk8,Z0m]
   congr 1
   lia
theorem ZfG {xs:Array Keyed}{c n:Nat}(u:Up key ((xs.toList.drop c).take n)){i j:Nat}(hij:i≤j)(hj:j<n)(hz:c+j<xs.size):O.kle (key (nth xs (c+i))) (key (nth xs (c+j))):=by
 have u':Up key (xs.extract c (c+n)).toList:=by rw[Z6a];exact u
 have hs:j<(xs.extract c (c+n)).size:=by rw[Z5T];omega
 have e:∀ i,i<(xs.extract c (c+n)).size→nth (xs.extract c (c+n)) i=nth xs (c+i):=by
  intro i hi
  unfold nth
  rw[Z7c]
  rw[Z5T] at hi
  rw[if_pos (by omega)]
 have h:=Z8M u' hij hs
 rw[e i (by exact Z6c (by assumption) (by assumption)),e j hs] at h
 exact h
theorem Zr4 {l:List Keyed}{c m n:Nat}:(l.drop c).take (m+n)=(l.drop c).take m++(l.drop (c+m)).take n:=by
 rw[Z9k,Z0y]
end pure
section
variable {prog:Program}{w:World}{A:Around}{E:Value→Shared→Prop}{s:Shared}{O:KeyOrd}{key:Keyed→O.α}{G:Keyed→Prop}{kd:Z3V}{st:SortSt}
theorem Zn3 {σ:Type}{M:Model}{t t':σ}{Q:PUnit→σ→Prop}(h:Q ⟨⟩ t'):wpS M A E s (set t':StateT σ Sem PUnit) Q t:=by
 unfold wpS
 show wpAny M A (pure (PUnit.unit,t'):Sem (PUnit×σ)) _ E s
 exact Za ⟨rfl,h⟩
theorem Zes {pre post:List (Nat×Nat×Nat)}{i sa na pw nb pw':Nat}{Q:Bool→SortSt→Prop}(hc:ZhL prog w s O key G kd)(hk:kindOf st=kd)(hf:failedOf st=none)
  (hG:∀ x∈(arrOf st).toList,G x) (hp:pendingOf st=(pre++(sa,na,pw)::(sa+na,nb,pw')::post).toArray) (hi:i=pre.length) (ha:1≤na) (hb:1≤nb) (hz:sa+na+nb≤(arrOf st).size)
  (ua:Up key (((arrOf st).toList.drop sa).take na)) (ub:Up key (((arrOf st).toList.drop (sa+na)).take nb))
  (h:∀ st' M,kindOf st'=kd→failedOf st'=none→pendingOf st'=(pre++(sa,na+nb,pw)::post).toArray→(arrOf st').toList=(arrOf st).toList.take sa++M++(arrOf st).toList.drop (sa+na+nb) →
   M.Perm (((arrOf st).toList.drop sa).take (na+nb))→Up key M→Q true st'):wpS (model prog w) A E s (mergeAt' i) Q st:=by
 subst hi
 refine Zo (Z6e ?_)
 have e1:(pendingOf st)[pre.length]?=some (sa,na,pw):=by rw[hp];simp
 have e2:(pendingOf st)[pre.length+1]?=some (sa+na,nb,pw'):=by
  rw[hp,Zhy,ZC (by exact Z2z _)]
  simp
 rw[e1,e2]
 dsimp only
 refine Zo (Zn3 ?_)
 have hpend:((pendingOf st).setIfInBounds pre.length (sa,na+nb,pw)).eraseIdxIfInBounds (pre.length+1)=(pre++(sa,na+nb,pw)::post).toArray:=by
  rw[hp]
  apply Z6R.mp
  simp[Array.eraseIdxIfInBounds]
  rw[List.eraseIdx_append_of_length_le (by lia)]
  simp
 have gat:∀ j,j<(arrOf st).size→G (nth (arrOf st) j):=fun j hj=>hG _ (Z3H hj)
 have l0:(arrOf st).toList.length=(arrOf st).size:=ZN
 refine Zo (Z0V (xs:=arrOf st) (by lia) (Zo (Z4O (arr:=arrOf st) hc hk (fun i hi=>gat _ (by lia)) (gat _ (by lia)) (by lia) (by assumption)
  (Z7a fun i j hij hj=>ZfG ua hij hj (by lia)) fun k k1 k2 k3=>?_)))
 dsimp only
 have hall:(arrOf st).toList=(arrOf st).toList.take sa++((arrOf st).toList.drop sa).take (na+nb)++(arrOf st).toList.drop (sa+na+nb):=by
  rw[Z7,Z1R sa na nb,← Z0y,ZB,ZB]
 have hA:∀ j,j<k→O.kle (key (nth (arrOf st) (sa+j))) (key (nth (arrOf st) (sa+na))):=fun j hj=>Z52.1.mp (k2 j hj)
 have hB0:∀ j,j<nb→O.kle (key (nth (arrOf st) (sa+na))) (key (nth (arrOf st) (sa+na+j))):=fun j hj=>by
  have z:=ZfG (i:=0) ub (Z0r j) hj (by lia)
  rwa [Z7P] at z
 obtain⟨d,rfl⟩:∃ d,na=k+d:=⟨na-k,by lia⟩
 rw[Z0x]
 by_cases n0:(d == 0)=true
 ·rw[if_pos n0]
  simp only[beq_iff_eq] at n0
  refine Zx (h _ (((arrOf st).toList.drop sa).take (k+d+nb)) hk hf hpend hall (Z4q _) ?_)
  rw[Zr4]
  refine ua.app ub fun x hx y hy=>?_
  obtain⟨j,hj,hj2,rfl⟩:=Z3C hx
  obtain⟨j',hj',hj2',rfl⟩:=Z3C hy
  exact Z0B (hA j (by lia)) (hB0 j' hj')
 rw[if_neg n0]
 simp only[beq_iff_eq] at n0
 refine Zo (Z0V (xs:=arrOf st) (by omega) (Zo (Z4O (arr:=arrOf st) hc hk (fun i hi=>gat _ (by lia)) (gat _ (by lia)) (by omega) (by exact ZmS (by assumption) (by decide))
  (Z7a fun i j hij hj=>ZfG ub hij hj (by lia)) fun q q1 q2 q3=>?_)))
 dsimp only
 obtain⟨d,rfl⟩:∃ c,d=c+1:=⟨d-1,by lia⟩
 obtain⟨e,rfl⟩:∃ e,nb=q+e:=⟨nb-q,by lia⟩
 have elast:sa+k+(d+1)-1=sa+(k+d):=Z1R sa k d
 rw[elast] at q2 q3
 have hlt:O.klt (key (nth (arrOf st) (sa+(k+(d+1))))) (key (nth (arrOf st) (sa+(k+d)))):=Z52.2.mp (k3 (k+d) (by lia) (by exact Zg _))
 have hq:q≠0:=by
  intro e
  subst e
  have z:=Z6b.2.mp (q3 0 (Zg _) (by assumption))
  rw[Z7P] at z
  exact KeyOrd.not_klt_of_kle z hlt
 rw[if_neg (by simpa using hq)]
 have ex:(arrOf st).extract (sa+k) (sa+(k+(d+1)))=(arrOf st).extract (sa+k) (sa+k+((d+1))):=by congr 1;lia
 have hx:((arrOf st).extract (sa+k) (sa+(k+(d+1)))).toList=((arrOf st).toList.drop (sa+k)).take ((d+1)):=by rw[ex,Z6a]
 have hy:((arrOf st).extract (sa+(k+(d+1))) (sa+(k+(d+1))+q)).toList=((arrOf st).toList.drop (sa+(k+(d+1)))).take q:=Z6a
 have sx:((arrOf st).extract (sa+k) (sa+(k+(d+1)))).size=(d+1):=by rw[Z5T];lia
 have sy:((arrOf st).extract (sa+(k+(d+1))) (sa+(k+(d+1))+q)).size=q:=by rw[Z5T];lia
 have nx:∀ j,j<(d+1)→nth ((arrOf st).extract (sa+k) (sa+(k+(d+1)))) j=nth (arrOf st) (sa+k+j):=by
  intro j hj
  unfold nth
  rw[Z7c,if_pos (by lia)]
 have ny:∀ j,j<q→nth ((arrOf st).extract (sa+(k+(d+1))) (sa+(k+(d+1))+q)) j=nth (arrOf st) (sa+(k+(d+1))+j):=by
  intro j hj
  unfold nth
  rw[Z7c,if_pos (by lia)]
 have eA:((arrOf st).toList.drop sa).take (k+(d+1))=((arrOf st).toList.drop sa).take k++((arrOf st).toList.drop (sa+k)).take ((d+1)):=by
  rw[← Zr4]
 have eB:((arrOf st).toList.drop (sa+(k+(d+1)))).take (q+e)=((arrOf st).toList.drop (sa+(k+(d+1)))).take q++((arrOf st).toList.drop (sa+(k+(d+1))+q)).take (e):=by
  rw[← Zr4]
 rw[eA] at ua
 rw[eB] at ub
 obtain⟨uA1,uA2,bA⟩:=Z2I.mp ua
 obtain⟨uB1,uB2,bB⟩:=Z2I.mp ub
 have uX:Up key ((arrOf st).extract (sa+k) (sa+(k+(d+1)))).toList:=by rw[hx];exact uA2
 have uY:Up key ((arrOf st).extract (sa+(k+(d+1))) (sa+(k+(d+1))+q)).toList:=by rw[hy];exact uB1
 have gX:∀ z∈((arrOf st).extract (sa+k) (sa+(k+(d+1)))).toList,G z:=by
  rw[hx]
  exact fun z hz=>hG z (Z0C (Z1A hz))
 have gY:∀ z∈((arrOf st).extract (sa+(k+(d+1))) (sa+(k+(d+1))+q)).toList,G z:=by
  rw[hy]
  exact fun z hz=>hG z (Z0C (Z1A hz))
 have f0:O.kle (key (nth ((arrOf st).extract (sa+(k+(d+1))) (sa+(k+(d+1))+q)) 0)) (key (nth ((arrOf st).extract (sa+k) (sa+(k+(d+1)))) 0)):=by
  rw[ny 0 (by exact Z4t (by assumption)),nx 0 (by lia),Z7P,Z7P]
  exact Z0D (Z52.2.mp (k3 k (Zg _) (by simp)))
 have fl:∀ z∈((arrOf st).extract (sa+(k+(d+1))) (sa+(k+(d+1))+q)).toList,O.kle (key z) (key (nth ((arrOf st).extract (sa+k) (sa+(k+(d+1)))) (((arrOf st).extract (sa+k) (sa+(k+(d+1)))).size-1))):=by
  rw[hy,sx,Nat.add_sub_cancel,nx d (by exact Zg _),Z1R sa k d]
  intro z hz'
  obtain⟨j,hj,hj2,rfl⟩:=Z3C hz'
  exact Z0D (Z6b.1.mp (q2 j hj))
 have fin:∀ (R:Array Keyed) (st':SortSt),Zcw key ((arrOf st).extract (sa+k) (sa+(k+(d+1)))) ((arrOf st).extract (sa+(k+(d+1))) (sa+(k+(d+1))+q)) R →
   Z0n (Z7o (kindOf st) (arrOf st) (((pendingOf st).setIfInBounds pre.length (sa,k+(d+1)+(q+e),pw)).eraseIdxIfInBounds (pre.length+1)) (gallopOf st) (failedOf st)) st' →
   Q true (Z7o (kindOf st') (R.toList.zipIdx.foldl (fun a (p:Keyed×Nat)=>a.setIfInBounds (sa+k+p.2) p.1) (arrOf st')) (pendingOf st') (gallopOf st') (failedOf st')):=by
  rintro R st' ⟨pR,uR⟩ ⟨g,rfl⟩
  rw[hx,hy] at pR
  have lR:R.toList.length=(d+1)+q:=by
   rw[pR.length_eq,Zd,ZA,ZA,ZM,ZM,l0]
   lia
  refine h _ (((arrOf st).toList.drop sa).take k++R.toList++((arrOf st).toList.drop (sa+(k+(d+1))+q)).take (e)) hk hf hpend ?_ ?_ ?_
  ·show (R.toList.zipIdx.foldl (fun a (p:Keyed×Nat)=>a.setIfInBounds (sa+k+p.2) p.1) (arrOf st)).toList=_
   rw[ZkF (by rw[lR];lia),lR,Z9k]
   have ed:(arrOf st).toList.drop (sa+k+((d+1)+q))=((arrOf st).toList.drop (sa+(k+(d+1))+q)).take (e)++(arrOf st).toList.drop (sa+(k+(d+1))+(q+e)):=by
    rw[show sa+k+((d+1)+q)=sa+(k+(d+1))+q by lia,show sa+(k+(d+1))+(q+e)=sa+(k+(d+1))+q+(e) by lia,← Z0y (i:=e),ZB]
   rw[ed]
   simp only[Z7]
  ·rw[Zr4,eA,eB]
   simp only[Z7]
   refine Z0u _ ?_
   rw[← Z7]
   exact Z2U _ pR
  ·have mR:∀ z∈R.toList,z∈((arrOf st).toList.drop (sa+k)).take ((d+1))∨z∈((arrOf st).toList.drop (sa+(k+(d+1)))).take q:=fun z hz'=>ZQ.mp (pR.mem_iff.mp hz')
   have b1:Below key (((arrOf st).toList.drop sa).take k) R.toList:=by
    intro x hx' y hy'
    rcases mR y hy' with m|m
    ·exact bA x hx' y m
    ·obtain⟨j,hj,hj2,rfl⟩:=Z3C hx'
     obtain⟨j',hj',hj2',rfl⟩:=Z3C m
     exact Z0B (hA j hj) (hB0 j' (by exact ZR (by assumption) (by assumption)))
   refine (Up.app (Up.app uA1 uR b1) uB2 (Below.app ?_ ?_))
   ·intro x hx' y hy'
    obtain⟨j,hj,hj2,rfl⟩:=Z3C hx'
    obtain⟨j',hj',hj2',rfl⟩:=Z3C hy'
    have z:=hB0 (q+j') (by lia)
    rw[← Z1R _ q] at z
    exact Z0B (hA j hj) z
   ·intro x hx' y hy'
    rcases mR x hx' with m|m
    ·obtain⟨j,hj,hj2,rfl⟩:=Z3C m
     obtain⟨j',hj',hj2',rfl⟩:=Z3C hy'
     have z1:=ZfG (xs:=arrOf st) (c:=sa) (n:=k+(d+1)) (i:=k+j) (j:=k+d) (by rw[eA];exact ua) (by lia) (by lia) (by lia)
     rw[← Z1R sa k j] at z1
     have z2:=Z6b.2.mp (q3 (q+j') (by lia) (by lia))
     rw[← Z1R _ q] at z2
     exact Z0B z1 z2
    ·exact bB x m y hy'
 have done:∀ (R:Array Keyed) (st':SortSt),Zcw key ((arrOf st).extract (sa+k) (sa+(k+(d+1)))) ((arrOf st).extract (sa+(k+(d+1))) (sa+(k+(d+1))+q)) R →
   Z0n (Z7o (kindOf st) (arrOf st) (((pendingOf st).setIfInBounds pre.length (sa,k+(d+1)+(q+e),pw)).eraseIdxIfInBounds (pre.length+1)) (gallopOf st) (failedOf st)) st'→failedOf st'=none:=by
  rintro R st'-⟨g,rfl⟩
  exact hf
 split
 ·refine Zo (Zeq (a:=(arrOf st).extract (sa+k) (sa+(k+(d+1)))) (b:=(arrOf st).extract (sa+(k+(d+1))) (sa+(k+(d+1))+q)) hc hk gX gY uX uY (by lia) (by lia) f0 fl fun R st' hR hS=>?_)
  refine Zo (Z3S (Zo (Z6e (Zx ?_))))
  have e:=done R st' hR hS
  have f:=fin R st' hR hS
  have e3:(failedOf st').isNone=true:=by rw[e];rfl
  show Q (failedOf st').isNone _
  rw[e3]
  exact f
 ·refine Zo (Zer (a:=(arrOf st).extract (sa+k) (sa+(k+(d+1)))) (b:=(arrOf st).extract (sa+(k+(d+1))) (sa+(k+(d+1))+q)) hc hk gX gY uX uY (by lia) (by lia) f0 fl fun R st' hR hS=>?_)
  refine Zo (Z3S (Zo (Z6e (Zx ?_))))
  have e:=done R st' hR hS
  have f:=fin R st' hR hS
  have e3:(failedOf st').isNone=true:=by rw[e];rfl
  show Q (failedOf st').isNone _
  rw[e3]
  exact f
end
end Sg
namespace Sg
open PySem PyProof.Rows
section pure
variable {O:KeyOrd}{key:Keyed→O.α}{xs:Array Keyed}
noncomputable def ZgC (key:Keyed→O.α)(xs:Array Keyed)(i j:Nat):Prop:=∀ p q,i≤p→p≤q→q<j→O.kle (key (nth xs p)) (key (nth xs q))
noncomputable def ZgD (key:Keyed→O.α)(xs:Array Keyed)(i j:Nat):Prop:=∀ p q,i≤p→p≤q→q<j→O.kle (key (nth xs q)) (key (nth xs p))
theorem Z6I {xs ys:Array Keyed}{i j:Nat}(h:xs[i]?=ys[j]?):nth xs i=nth ys j:=by unfold nth;rw[h]
theorem Zbc {src d:Nat}(hs:src<xs.size)(hd:d≤src)(k:Nat) :
  nth (bubble xs src d) k=if k=src-d then nth xs src else if src-d<k∧k≤src then nth xs (k-1) else nth xs k:=by
 have e:=Zsp hs d hd k
 by_cases h1:k=src-d
 ·rw[if_pos h1] at e
  rw[if_pos h1]
  exact Z6I e
 ·rw[if_neg h1] at e
  rw[if_neg h1]
  by_cases h2:src-d<k∧k≤src
  ·rw[if_pos h2] at e
   rw[if_pos h2]
   exact Z6I e
  ·rw[if_neg h2] at e
   rw[if_neg h2]
   exact Z6I e
theorem Z8w {i j:Nat}(hj:j≤xs.size)(k:Nat):nth (mirror xs i j ((j-i) / 2)) k=if i≤k∧k<j then nth xs (i+j-1-k) else nth xs k:=by
 have e:=getElem?_mirror_all (i:=i) hj k
 by_cases h1:i≤k∧k<j
 ·rw[if_pos h1] at e
  rw[if_pos h1]
  exact Z6I e
 ·rw[if_neg h1] at e
  rw[if_neg h1]
  exact Z6I e
theorem Z4E {i j:Nat}(hj:j≤xs.size)(he:∀ k,i≤k→k<j→key (nth xs k)=key (nth xs (j-1)))(k:Nat):key (nth (mirror xs i j ((j-i) / 2)) k)=key (nth xs k):=by
 rw[Z8w hj]
 split
 ·rw[he _ (by omega) (by omega),he k (by lia) (by lia)]
 ·rfl
theorem ZgC.more {i j:Nat}(h:ZgC key xs i (i+j))(hj:1≤j)(hx:O.kle (key (nth xs (i+j-1))) (key (nth xs (i+j)))):ZgC key xs i (i+(j+1)):=by
 intro p q h1 h2 h3
 by_cases hq:q<i+j
 ·exact h p q h1 h2 hq
 ·have e:q=i+j:=by lia
  subst e
  by_cases hp:p=i+j
  ·rw[hp];exact Z2d _
  ·exact Z0B (h p (i+j-1) h1 (by lia) (by lia)) hx
theorem ZgD.more {i j:Nat}(h:ZgD key xs i (i+j))(hj:1≤j)(hx:O.kle (key (nth xs (i+j))) (key (nth xs (i+j-1)))):ZgD key xs i (i+(j+1)):=by
 intro p q h1 h2 h3
 by_cases hq:q<i+j
 ·exact h p q h1 h2 hq
 ·have e:q=i+j:=by lia
  subst e
  by_cases hp:p=i+j
  ·rw[hp];exact Z2d _
  ·exact Z0B hx (h p (i+j-1) h1 (by lia) (by lia))
theorem ZgD.congr {ys:Array Keyed}{i j:Nat}(h:ZgD key xs i j)(e:∀ p,key (nth xs p)=key (nth ys p)):ZgD key ys i j:=by
 intro p q h1 h2 h3
 rw[← e,← e]
 exact h p q h1 h2 h3
theorem Zhc {i j lo:Nat}(h:lo≤i)(k:Nat)(hk:k<lo):(mirror xs i j ((j-i) / 2))[k]?=xs[k]?:=by
 unfold mirror
 have go:∀ (l:List Nat) (ys:Array Keyed),(∀ r∈l,r<(j-i) / 2)→(l.foldl (fun a r=>a.swapIfInBounds (i+r) (j-1-r)) ys)[k]?=ys[k]?:=by
  intro l
  induction l with
  |nil=>intro ys _;rfl
  |cons r l ih =>
   intro ys hl
   have hr:=hl r Z4
   rw[Z3s,ih _ fun r hr=>hl r (Z9 _ hr)]
   rw[Array.swapIfInBounds_def]
   split
   ·split
    ·rw[Array.getElem?_swap,if_neg (by omega),if_neg (by lia)]
    ·rfl
   ·rfl
 exact go _ xs fun r hr=>Z37.mp hr
end pure
structure Nc (a₀:Array Keyed)(kd:Z3V)(P:Array (Nat×Nat×Nat))(lo:Nat)(b₀:Array Keyed)(st:SortSt):Prop where
 perm:(arrOf st).Perm a₀
 kind:kindOf st=kd
 failed:failedOf st=none
 pend:pendingOf st=P
 low:∀ i,i<lo→(arrOf st)[i]?=b₀[i]?
section
variable {prog:Program}{w:World}{A:Around}{E:Value→Shared→Prop}{s:Shared}{O:KeyOrd}{key:Keyed→O.α}{G:Keyed→Prop}{kd:Z3V}{st:SortSt}
 {a₀ b₀:Array Keyed} {P:Array (Nat×Nat×Nat)} {lo:Nat}
theorem Nc.size (h:Nc a₀ kd P lo b₀ st):(arrOf st).size=a₀.size:=h.perm.size_eq
theorem Nc.mem (h:Nc a₀ kd P lo b₀ st)(h0:∀ x∈a₀.toList,G x){i:Nat}(hi:i<a₀.size):G (nth (arrOf st) i) :=
 h0 _ ((Z2k.mp h.perm).mem_iff.mp (Z3H (by rw[h.size];exact hi)))
theorem Nc.rev {i j:Nat}(h:Nc a₀ kd P lo b₀ st)(hi:lo≤i):Nc a₀ kd P lo b₀ (setArr st (mirror (arrOf st) i j ((j-i) / 2))) :=
 ⟨(mirror_perm _ _ _ _).trans h.perm,h.kind,h.failed,h.pend,fun k hk=>(Zhc hi k hk).trans (h.low k hk)⟩
theorem Z8n {i j:Nat}{Q:Option Bool→SortSt→Prop}(hc:ZhL prog w s O key G kd)(h0:∀ x∈a₀.toList,G x)(hB:Nc a₀ kd P lo b₀ st)(hi:i<a₀.size)(hj:j<a₀.size)
  (h:Q (some (O.blt (key (nth (arrOf st) i)) (key (nth (arrOf st) j)))) st):wpS (model prog w) A E s (ltAt' i j) Q st :=
 ZhM hc hB.kind (by rw[hB.size];exact hi) (by rw[hB.size];exact hj) (hB.mem h0 hi) (hB.mem h0 hj) h
theorem ZbA {i j:Nat}{Q:Unit→SortSt→Prop}(h:Q () (setArr st (mirror (arrOf st) i j ((j-i) / 2)))):wpS (model prog w) A E s (reverseSlice' i j) Q st:=by
 rw[reverseSlice'_eq]
 exact Z3S h
theorem ZgH {n ok:Nat}{Q:Bool→SortSt→Prop}(hc:ZhL prog w s O key G kd)(h0:∀ x∈a₀.toList,G x)(hn:lo+n≤a₀.size)(hok:ok≤n)(hB:Nc a₀ kd P lo b₀ st)(hs:ZgC key (arrOf st) lo (lo+ok))
  (h:∀ st',Nc a₀ kd P lo b₀ st'→ZgC key (arrOf st') lo (lo+n)→Q true st'):wpS (model prog w) A E s (binarySort' lo n ok) Q st:=by
 rw[binarySort'_eq]
 refine Zo (Z2C (Z0P (I:=fun k c st'=>c=(none,())∧Nc a₀ kd P lo b₀ st'∧ZgC key (arrOf st') lo (lo+min k n))
  (Q:=fun c st'=>c=(none,())∧Nc a₀ kd P lo b₀ st'∧ZgC key (arrOf st') lo (lo+n)) ?stp ?fi ?ini) ?po)
 case po =>
  rintro c st' ⟨rfl,B,sg⟩
  exact Zx (h st' B sg)
 case ini =>
  refine⟨rfl,hB,fun p q h1 h2 h3=>?_⟩
  by_cases z:ok=0
  ·have e:p=q:=by lia
   rw[e]
   exact Z2d _
  ·exact hs p q h1 h2 (by lia)
 case fi =>
  rintro c st' ⟨hc',B,sg⟩
  refine⟨hc',B,?_⟩
  rwa [show min (max (max ok 1) n) n=n by lia] at sg
 case stp =>
  rintro k c st' k1 k2 ⟨rfl,B,sg⟩
  rw[show min k n=k by lia] at sg
  dsimp only
  refine Zo (Z2C (Z0P (I:=fun x c st''=>st''=st'∧∃ l r,c=(none,l,r)∧l≤r∧r≤k∧x+r≤k+l ∧
    (∀ i,i<l→O.kle (key (nth (arrOf st') (lo+i))) (key (nth (arrOf st') (lo+k))))∧(∀ i,r≤i→i<k→O.kle (key (nth (arrOf st') (lo+k))) (key (nth (arrOf st') (lo+i)))))
   (Q:=fun c st''=>st''=st'∧∃ l r,c=(none,l,r)∧l≤k ∧
    (∀ i,i<l→O.kle (key (nth (arrOf st') (lo+i))) (key (nth (arrOf st') (lo+k))))∧(∀ i,l≤i→i<k→O.kle (key (nth (arrOf st') (lo+k))) (key (nth (arrOf st') (lo+i))))) ?is ?ifi ?ii) ?ip)
  case ii=>exact⟨rfl,0,k,rfl,by exact Z0r _,by exact Zg _,by simp,fun i hi=>by exact absurd (by assumption) (Z5y _),fun i h1 h2=>by lia⟩
  case ifi =>
   rintro c st'' ⟨e,l,r,rfl,g1,g2,g3,g4,g5⟩
   have z:l=r:=by lia
   subst z
   exact⟨e,l,l,rfl,g2,g4,g5⟩
  case is =>
   rintro x c st''-hx ⟨rfl,l,r,rfl,g1,g2,g3,g4,g5⟩
   dsimp only
   by_cases hge:l ≥ r
   ·rw[if_pos hge]
    have z:l=r:=by lia
    subst z
    exact Zx ⟨rfl,l,l,rfl,g2,g4,g5⟩
   ·rw[if_neg hge]
    refine Zo (Z8n hc h0 B (by lia) (by lia) ?_)
    cases hw:O.blt (key (nth (arrOf st'') (lo+k))) (key (nth (arrOf st'') (lo+(l+r) / 2))) with
    |true=>exact Zx ⟨rfl,l,(l+r) / 2,rfl,by lia,by lia,by lia,g4,fun i z1 z2=>Z0B (Z0D hw) (sg _ _ (by simp) (by lia) (by lia))⟩
    |false=>exact Zx ⟨rfl,(l+r) / 2+1,r,rfl,by lia,by lia,by lia,fun i z1=>Z0B (sg (lo+i) (lo+(l+r) / 2) (by lia) (by lia) (by lia)) hw,g5⟩
  case ip =>
   rintro c st'' ⟨rfl,l,r,rfl,g2,g4,g5⟩
   dsimp only
   refine Zo ?_
   rw[moveDown'_eq]
   have hz:lo+k<(arrOf st'').size:=by rw[B.size];lia
   refine Z3S (Zx ⟨rfl,⟨(bubble_perm _ _ _).trans B.perm,B.kind,B.failed,B.pend,fun i hi=>?_⟩,?_⟩)
   ·show (bubble (arrOf st'') (lo+k) (lo+k-(lo+l)))[i]?=_
    rw[Zsp hz _ (by exact ZaG _ _),if_neg (by omega),if_neg (by omega)]
    exact B.low i hi
   ·rw[show min (k+1) n=k+1 by lia]
    intro p q h1 h2 h3
    show O.kle (key (nth (bubble (arrOf st'') (lo+k) (lo+k-(lo+l))) p)) (key (nth (bubble (arrOf st'') (lo+k) (lo+k-(lo+l))) q))
    rw[Zbc hz (by exact ZaG _ _),Zbc hz (by lia),show lo+k-(lo+k-(lo+l))=lo+l by lia]
    have a4:∀ i,lo≤i→i<lo+l→O.kle (key (nth (arrOf st'') i)) (key (nth (arrOf st'') (lo+k))):=fun i z1 z2=>by
     have z:=g4 (i-lo) (by lia)
     rwa [show lo+(i-lo)=i by lia] at z
    have a5:∀ i,lo+l≤i→i<lo+k→O.kle (key (nth (arrOf st'') (lo+k))) (key (nth (arrOf st'') i)):=fun i z1 z2=>by
     have z:=g5 (i-lo) (by lia) (by lia)
     rwa [show lo+(i-lo)=i by lia] at z
    repeat' split
    all_goals first
     |(exfalso;lia)
     |exact Z2d _
     |exact a4 _ (by omega) (by lia)
     |exact a5 _ (by lia) (by lia)
     |exact sg _ _ (by lia) (by lia) (by lia)
theorem ZhO {β:Type}{c:Prop}[Decidable c]{p q:StateT SortSt Sem β}{M:Model}{Q:β→SortSt→Prop}{st:SortSt}(Z:SortSt→Prop)(tl:∀ u,Z u→wpS M A E s q Q u)(h1:c→(∀ u,Z u→wpS M A E s q Q u)→wpS M A E s p Q st)(h2:¬ c→Z st):wpS M A E s (if c then p else q) Q st:=by
 by_cases h:c
 ·rw[if_pos h];exact h1 h tl
 ·rw[if_neg h];exact tl _ (h2 h)
theorem Zn4 {nrem:Nat}{Q:Option Nat→SortSt→Prop}(hc:ZhL prog w s O key G kd)(h0:∀ x∈a₀.toList,G x)(hn:lo+nrem≤a₀.size)(h1:1≤nrem)(hB:Nc a₀ kd P lo b₀ st)
  (h:∀ m st',Nc a₀ kd P lo b₀ st'→1≤m→m≤nrem→ZgC key (arrOf st') lo (lo+m)→Q (some m) st'):wpS (model prog w) A E s (countRun' lo nrem) Q st:=by
 rw[countRun'_eq]
 refine Zo (Z2C (Z0P (I:=fun x c st'=>st'=st∧c=(none,x)∧ZgC key (arrOf st) lo (lo+x))
  (Q:=fun c st'=>st'=st∧∃ n,c=(none,n)∧1≤n∧n≤nrem∧ZgC key (arrOf st) lo (lo+n)∧(n=nrem∨O.klt (key (nth (arrOf st) (lo+n))) (key (nth (arrOf st) (lo+n-1))))) ?is ?fi ?ini) ?po)
 case ini=>exact⟨rfl,rfl,fun p q h1 h2 h3=>by rw[show p=q by lia];exact Z2d _⟩
 case fi =>
  rintro c st' ⟨e,rfl,sg⟩
  have e2:max 1 nrem=nrem:=by lia
  rw[e2] at sg ⊢
  exact⟨e,nrem,rfl,h1,Zg _,sg,.inl rfl⟩
 case is =>
  rintro x c st' hx1 hx2 ⟨e,rfl,sg⟩
  subst e
  dsimp only
  refine Zo (Z8n hc h0 hB (by lia) (by lia) ?_)
  cases hw:O.blt (key (nth (arrOf st') (lo+x))) (key (nth (arrOf st') (lo+x-1))) with
  |true=>exact Zx ⟨rfl,x,rfl,hx1,by exact Z3v (by assumption),sg,.inr hw⟩
  |false=>exact Zx ⟨rfl,rfl,sg.more (by omega) hw⟩
 case po =>
  rintro c st' ⟨e,n,rfl,n1,n2,sg,ho⟩
  subst e
  dsimp only
  by_cases hnn:(n == nrem)=true
  ·rw[if_pos hnn]
   exact Zx (h n st' hB n1 n2 sg)
  rw[if_neg hnn]
  simp only[beq_iff_eq] at hnn
  have hlt:=ho.resolve_left hnn
  have hzn:lo+n≤(arrOf st').size:=by rw[hB.size];lia
  refine ZhO (fun st1=>Nc a₀ kd P lo b₀ st1∧ZgD key (arrOf st1) lo (lo+(n+1))) ?tl (fun hgt tl=>?pp) fun hgt=>⟨hB,?nn⟩
  case nn =>
   intro p q g1 g2 g3
   by_cases hpq:p=q
   ·rw[hpq];exact Z2d _
   ·have e1:p=lo+n-1:=by lia
    have e2:q=lo+n:=by lia
    rw[e1,e2]
    exact Z0D hlt
  case pp =>
   refine Zo (Z8n hc h0 hB (by lia) (by lia) ?_)
   cases hw:O.blt (key (nth (arrOf st') lo)) (key (nth (arrOf st') (lo+n-1)))
   case true=>exact Zx (h n st' hB n1 n2 sg)
   dsimp only
   rw[if_neg (by simp)]
   refine Zo (ZbA ?_)
   have hall:∀ k,lo≤k→k<lo+n→key (nth (arrOf st') k)=key (nth (arrOf st') (lo+n-1)):=by
    intro k g1 g2
    exact Zhz (sg k (lo+n-1) g1 (by lia) (by lia)) (Z0B hw (sg lo k (Zg _) g1 g2))
   have B1:=hB.rev (i:=lo) (j:=lo+n) (Zg _)
   have N1:ZgD key (arrOf (setArr st' (mirror (arrOf st') lo (lo+n) ((lo+n-lo) / 2)))) lo (lo+(n+1)):=by
    refine ZgD.congr (xs:=arrOf st') ?_ fun p=>(Z4E hzn hall p).symm
    intro p q g1 g2 g3
    by_cases hq:q<lo+n
    ·rw[hall p g1 (by exact Z6c (by assumption) (by assumption)),hall q (by exact ZR (by assumption) (by assumption)) hq]
     exact Z2d _
    ·have e:q=lo+n:=by lia
     subst e
     by_cases hp:p=lo+n
     ·rw[hp];exact Z2d _
     ·rw[hall p g1 (by lia)]
      exact Z0D hlt
   exact tl _ ⟨B1,N1⟩
  case tl =>
   clear hB hlt sg hzn
   rintro st1 ⟨B1,N1⟩
   refine Zo (ZaU (Z2A ⟨rfl,?_⟩))
   refine Zo (Z2C (Z0P (I:=fun x c st'=>∃ z,c=(none,x,z)∧Nc a₀ kd P lo b₀ st'∧ZgD key (arrOf st') lo (lo+x)∧z+1≤x∧∀ i,lo+x-(z+1)≤i→i<lo+x→key (nth (arrOf st') i)=key (nth (arrOf st') (lo+x-1)))
    (Q:=fun c st'=>∃ m z,c=(none,m,z)∧Nc a₀ kd P lo b₀ st'∧ZgD key (arrOf st') lo (lo+m)∧z+1≤m∧1≤m∧m≤nrem∧∀ i,lo+m-(z+1)≤i→i<lo+m→key (nth (arrOf st') i)=key (nth (arrOf st') (lo+m-1))) ?is2 ?fi2 ?in2) ?po2)
   case in2=>exact⟨0,rfl,B1,N1,by exact ZoY _ _,fun i h1 h2=>by rw[show i=lo+(n+1)-1 by lia]⟩
   case fi2 =>
    rintro c st' ⟨z,rfl,B2,N2,h2,h3⟩
    have e2:max (n+1) nrem=nrem:=by lia
    rw[e2] at N2 h2 h3 ⊢
    exact⟨nrem,z,rfl,B2,N2,h2,h1,Zg _,h3⟩
   case is2 =>
    rintro x c st' hx1 hx2 ⟨z,rfl,B2,N2,g2,g3⟩
    dsimp only
    have hz2:lo+x≤(arrOf st').size:=by rw[B2.size];lia
    refine Zo (Z8n hc h0 B2 (by lia) (by lia) ?_)
    cases hw:O.blt (key (nth (arrOf st') (lo+x))) (key (nth (arrOf st') (lo+x-1))) with
    |true =>
     dsimp only
     rw[if_pos rfl]
     by_cases hz0:z > 0
     ·rw[if_pos hz0]
      refine Zo (ZbA (Zx ⟨0,rfl,B2.rev (by lia),?_,by lia,fun i h1 h2=>by rw[show i=lo+(x+1)-1 by lia]⟩))
      refine ZgD.congr (N2.more (by exact ZaQ (by assumption) (by assumption)) (Z0D hw)) fun p=>?_
      exact (Z4E hz2 g3 p).symm
     ·rw[if_neg hz0]
      exact Zx ⟨0,rfl,B2,N2.more (by exact ZaQ (by assumption) (by assumption)) (Z0D hw),by lia,fun i h1 h2=>by rw[show i=lo+(x+1)-1 by lia]⟩
    |false =>
     dsimp only
     rw[if_neg (by simp)]
     refine Zo (Z8n hc h0 B2 (by lia) (by lia) ?_)
     cases hv:O.blt (key (nth (arrOf st') (lo+x-1))) (key (nth (arrOf st') (lo+x))) with
     |true=>exact Zx ⟨x,z,rfl,B2,N2,g2,by lia,by lia,g3⟩
     |false =>
      have heq:key (nth (arrOf st') (lo+x))=key (nth (arrOf st') (lo+x-1)):=Zhz hv hw
      refine Zx ⟨z+1,rfl,B2,N2.more (by lia) hv,by lia,fun i h1 h2=>?_⟩
      rw[show lo+(x+1)-1=lo+x by rfl]
      by_cases hi:i=lo+x
      ·rw[hi]
      ·rw[heq]
       exact g3 i (by lia) (by lia)
   case po2 =>
    rintro c st2 ⟨m,z,rfl,B2,N2,g2,hm1,hm2,g3⟩
    dsimp only
    have hz2:lo+m≤(arrOf st2).size:=by rw[B2.size];lia
    refine ZhO (fun st4=>Nc a₀ kd P lo b₀ st4∧ZgD key (arrOf st4) lo (lo+m)) ?tl2 (fun hz0 tl=>?pp2) fun hz0=>⟨B2,N2⟩
    case pp2 =>
     refine Zo (ZbA ?_)
     exact tl _ ⟨B2.rev (i:=lo+m-(z+1)) (j:=lo+m) (by lia),ZgD.congr N2 fun p=>(Z4E hz2 g3 p).symm⟩
    case tl2 =>
     clear g3 hz2 B2 N2
     rintro st4 ⟨B4,N4⟩
     refine Zo (ZbA ?_)
     have hB3:=B4.rev (i:=lo) (j:=lo+m) (Zg _)
     have hz3:lo+m≤(arrOf st4).size:=by rw[B4.size];lia
     refine Zo (Z2C (Z0P (I:=fun x c st'=>st'=setArr st4 (mirror (arrOf st4) lo (lo+m) ((lo+m-lo) / 2))∧c=(none,x)∧ZgC key (arrOf st') lo (lo+x))
      (Q:=fun c st'=>st'=setArr st4 (mirror (arrOf st4) lo (lo+m) ((lo+m-lo) / 2))∧∃ y,c=(none,y)∧m≤y∧y≤nrem∧ZgC key (arrOf st') lo (lo+y)) ?is3 ?fi3 ?in3) ?po3)
     case in3 =>
      refine⟨rfl,rfl,fun p q h1 h2 h3=>?_⟩
      show O.kle (key (nth (mirror (arrOf st4) lo (lo+m) ((lo+m-lo) / 2)) p)) (key (nth (mirror (arrOf st4) lo (lo+m) ((lo+m-lo) / 2)) q))
      rw[Z8w hz3,Z8w hz3,if_pos (by lia),if_pos (by lia)]
      exact N4 _ _ (by omega) (by omega) (by omega)
     case fi3 =>
      rintro c st' ⟨e,rfl,sg⟩
      have e2:max m nrem=nrem:=by lia
      rw[e2] at sg ⊢
      exact⟨e,nrem,rfl,hm2,Zg _,sg⟩
     case is3 =>
      rintro x c st' hx1 hx2 ⟨e,rfl,sg⟩
      subst e
      dsimp only
      refine Zo (Z8n hc h0 hB3 (by lia) (by lia) ?_)
      cases hw:O.blt (key (nth (arrOf (setArr st4 (mirror (arrOf st4) lo (lo+m) ((lo+m-lo) / 2)))) (lo+x))) (key (nth (arrOf (setArr st4 (mirror (arrOf st4) lo (lo+m) ((lo+m-lo) / 2)))) (lo+x-1))) with
      |true=>exact Zx ⟨rfl,x,rfl,hx1,by lia,sg⟩
      |false=>exact Zx ⟨rfl,rfl,sg.more (by exact ZR (by assumption) (by assumption)) hw⟩
     case po3 =>
      rintro c st' ⟨e,y,rfl,y1,y2,sg⟩
      subst e
      exact Zx (h y _ hB3 (by lia) y2 sg)
end
end Sg
namespace Sg
open PySem PyProof.Rows
section pure
variable {O:KeyOrd}{key:Keyed→O.α}
noncomputable abbrev Run:=Nat×Nat×Nat
noncomputable def tot:List Run→Nat
 |[]=>0
 |p::P=>p.2.1+tot P
noncomputable def Cov (key:Keyed→O.α):List Run→Nat→List Keyed→Prop
 |[],_,_=>True
 |p::P,f,l=>p.1=f∧1≤p.2.1∧p.2.1≤l.length∧Up key (l.take p.2.1)∧Cov key P (f+p.2.1) (l.drop p.2.1)
theorem ZbE:∀ (P Q:List Run),tot (P++Q)=tot P+tot Q
 |[],Q=>by simp[tot]
 |p::P,Q=>by simp only[ZO,tot,ZbE P Q];lia
theorem Zc9:∀ (P Q:List Run) (f:Nat) (l:List Keyed),Cov key (P++Q) f l↔Cov key P f l∧Cov key Q (f+tot P) (l.drop (tot P))
 |[],Q,f,l=>by simp[Cov,tot]
 |p::P,Q,f,l=>by
  simp only[ZO,Cov,tot,Zc9 P Q,Z0y,Z1R]
  constructor
  ·rintro⟨a,b,c,d,e,g⟩;exact⟨⟨a,b,c,d,e⟩,g⟩
  ·rintro⟨⟨a,b,c,d,e⟩,g⟩;exact⟨a,b,c,d,e,g⟩
theorem Zjv:∀ (P:List Run) (f:Nat) (l:List Keyed),Cov key P f l→tot P≤l.length∧P.length≤tot P
 |[],f,l,_=>by simp[tot]
 |p::P,f,l,h=>by
  obtain⟨-,h2,h3,-,h5⟩:=h
  have ih:=Zjv P _ _ h5
  rw[ZM] at ih
  simp only[tot,Zp]
  lia
theorem Zai:∀ (P:List Run) (f:Nat) (l l':List Keyed),Cov key P f l→tot P≤l'.length→l'.take (tot P)=l.take (tot P)→Cov key P f l'
 |[],_,_,_,_,_,_=>trivial
 |p::P,f,l,l',h,hl,e=>by
  obtain⟨h1,h2,h3,h4,h5⟩:=h
  simp only[tot] at hl e
  have e1:l'.take p.2.1=l.take p.2.1:=by
   have:=congrArg (List.take p.2.1) e
   rwa [Z8i,Z8i,Zcq (by simp)] at this
  refine⟨h1,h2,by lia,by rw[e1];exact h4,Zai P _ (l.drop p.2.1) _ h5 (by rw[ZM];lia) ?_⟩
  have:=congrArg (List.drop p.2.1) e
  rwa [Z8l,Z8l,Z0x] at this
theorem Zgo:∀ (P P':List Run) (f:Nat) (l:List Keyed),P'.map (fun p=>(p.1,p.2.1))=P.map (fun p=>(p.1,p.2.1))→Cov key P f l→Cov key P' f l
 |[],[],_,_,_,_=>trivial
 |[],_::_,_,_,e,_=>by simp at e
 |_::_,[],_,_,e,_=>by simp at e
 |p::P,p'::P',f,l,e,h=>by
  simp only[ZJ,ZhK,Z43] at e
  obtain⟨⟨e1,e2⟩,e3⟩:=e
  obtain⟨h1,h2,h3,h4,h5⟩:=h
  refine⟨e1.trans h1,?_,?_,?_,?_⟩ <;> rw[e2] <;> try assumption
  exact Zgo P P' _ _ e3 h5
theorem ZfH:∀ (P P':List Run),P'.map (fun p=>(p.1,p.2.1))=P.map (fun p=>(p.1,p.2.1))→tot P'=tot P
 |[],[],_=>rfl
 |[],_::_,e=>by simp at e
 |_::_,[],e=>by simp at e
 |p::P,p'::P',e=>by
  simp only[ZJ,ZhK,Z43] at e
  obtain⟨⟨e1,e2⟩,e3⟩:=e
  simp only[tot,e2,ZfH P P' e3]
theorem Zkt {P:List Run}{i:Nat}(h:i+1<P.length):∃ pre x y post,P=pre++x::y::post∧pre.length=i:=by
 refine⟨P.take i,P[i],P[i+1],P.drop (i+2),?_,by rw[ZA];lia⟩
 rw[← Z1O (i:=i+1),← Z1O (i:=i),ZB]
theorem ZgJ {xs:Array Keyed}{i n:Nat}(h:ZgC key xs i (i+n)):Up key ((xs.toList.drop i).take n):=by
 refine Zef.mpr fun p q hp hq hpq=>?_
 have hq':=hq
 rw[ZA,ZM,ZN] at hq'
 rw[Z6s,Z6s,Z6t,Z6t]
 have e1:=Z5k (xs:=xs) (i:=i+p) (by omega)
 have e2:=Z5k (xs:=xs) (i:=i+q) (by omega)
 rw[Zc (by simp;lia)] at e1 e2
 rw[Z0e e1,Z0e e2]
 exact h _ _ (by lia) (by lia) (by lia)
theorem Zkp {xs ys:Array Keyed}{n:Nat}(h:∀ i,i<n→xs[i]?=ys[i]?):xs.toList.take n=ys.toList.take n:=by
 apply Z4H
 intro i
 by_cases hi:i<n
 ·rw[Z44 hi,Z44 hi,Z0m,Z0m]
  exact h i hi
 ·rw[Zcs (by exact Z1D (by assumption)),Zcs (by lia)]
theorem Z9Y {α β:Type}(g:α→β)(f:α→α)(hg:∀ x,g (f x)=g x)(l:List α)(i:Nat):(l.modify i f).map g=l.map g:=by
 apply Z4H
 intro j
 rw[Z0q,Z0q,List.getElem?_modify]
 cases l[j]? with
 |none=>rfl
 |some x =>
  simp only[Z2,Option.map_eq_map]
  split
  ·rw[hg]
  ·rfl
end pure
structure J {O:KeyOrd}(key:Keyed→O.α)(a₀:Array Keyed)(kd:Z3V)(lo:Nat)(D:List Keyed)(st:SortSt):Prop where
 perm:(arrOf st).Perm a₀
 kind:kindOf st=kd
 failed:failedOf st=none
 cov:Cov key (pendingOf st).toList 0 (arrOf st).toList
 tt:tot (pendingOf st).toList=lo
 rest:(arrOf st).toList.drop lo=D
section
variable {prog:Program}{w:World}{A:Around}{E:Value→Shared→Prop}{s:Shared}{O:KeyOrd}{key:Keyed→O.α}{G:Keyed→Prop}{kd:Z3V}{st:SortSt}
 {a₀ b₀:Array Keyed} {P:Array (Nat×Nat×Nat)} {lo:Nat} {D:List Keyed}
theorem Z8m {i:Nat}{Q:Bool→SortSt→Prop}(hc:ZhL prog w s O key G kd)(h0:∀ x∈a₀.toList,G x)(hJ:J key a₀ kd lo D st)(hi:i+1<(pendingOf st).size)
  (h:∀ st',J key a₀ kd lo D st'→(pendingOf st').size+1=(pendingOf st).size→Q true st'):wpS (model prog w) A E s (mergeAt' i) Q st:=by
 obtain⟨pre,⟨sa,na,pw⟩,⟨sb,nb,pw'⟩,post,hP,hl⟩:=Zkt (P:=(pendingOf st).toList) (i:=i) (by simpa using hi)
 have hcov:=hJ.cov
 rw[hP,Zc9] at hcov
 obtain⟨c1,e1,n1,m1,u1,e2,n2,m2,u2,c2⟩:=hcov
 dsimp only at e1 n1 m1 u1 e2 n2 m2 u2 c2
 have ht:=hJ.tt
 rw[hP,ZbE] at ht
 simp only[tot] at ht
 simp only[Z0p] at e1 e2
 rw[ZM] at m1
 rw[ZM,ZM] at m2
 simp only[ZN] at m1 m2
 subst e1 e2
 rw[Z0y] at u2 c2
 rw[Z0y] at c2
 simp only[Z0p] at c2
 have hsz:(arrOf st).toList.length=(arrOf st).size:=ZN
 have hpl:(pendingOf st).size=pre.length+(post.length+2):=by
  rw[← ZN,hP,Zd,Zp,Zp]
 refine Zes (pre:=pre) (post:=post) (pw:=pw) (pw':=pw') hc hJ.kind hJ.failed (fun x hx=>h0 x ((Z2k.mp hJ.perm).mem_iff.mp hx)) (by rw[← hP]) hl.symm n1 n2 (by lia) u1 u2 ?_
 intro st' M k1 k2 k3 k4 k5 k6
 have lM:M.length=na+nb:=by
  rw[k5.length_eq,ZA,ZM,hsz]
  lia
 have hall:(arrOf st).toList=(arrOf st).toList.take (tot pre)++((arrOf st).toList.drop (tot pre)).take (na+nb)++(arrOf st).toList.drop (tot pre+na+nb):=by
  rw[Z7,Z1R (tot pre) na nb,← Z0y,ZB,ZB]
 have lT:((arrOf st).toList.take (tot pre)).length=tot pre:=by rw[ZA,hsz];lia
 have d1:(arrOf st').toList.drop (tot pre)=M++(arrOf st).toList.drop (tot pre+na+nb):=by
  rw[k4,Z7,Z0R (by lia),Z03 (by lia),Zz]
 have d2:(arrOf st').toList.drop (tot pre+na+nb)=(arrOf st).toList.drop (tot pre+na+nb):=by
  rw[Z1R,← Z0y (i:=na+nb),d1,Z0R (by lia),Z03 (by lia),Zz,Z1R]
 have ppm:(arrOf st').toList.Perm (arrOf st).toList:=by
  rw[k4]
  conv=>rhs;rw[hall]
  exact (Z0u _ k5).append_right _
 have hsz':(arrOf st').toList.length=(arrOf st).size:=by rw[ppm.length_eq,hsz]
 refine h st' ⟨(Z2k.mpr ppm).trans hJ.perm,k1,k2,?_,?_,?_⟩ ?_
 ·rw[k3,Zc9]
  refine⟨Zai _ _ _ _ c1 (by lia) ?_,?_⟩
  ·rw[k4,Z7,Z1i (by lia),Z8i,ZhG]
  ·refine⟨by simp,by show 1≤na+nb;lia,by show na+nb≤_;rw[ZM,hsz'];lia,?_,?_⟩
   ·show Up key (((arrOf st').toList.drop (tot pre)).take (na+nb))
    rw[d1,Z1i (by lia),Z0s (by lia)]
    exact k6
   ·show Cov key post (0+tot pre+(na+nb)) (((arrOf st').toList.drop (tot pre)).drop (na+nb))
    rw[Z0y,show tot pre+(na+nb)=tot pre+na+nb by lia,d2,show 0+tot pre+(na+nb)=tot pre+na+nb by lia]
    rw[show tot pre+(na+nb)=tot pre+na+nb by lia] at c2
    exact c2
 ·rw[k3,ZbE]
  simp only[tot]
  lia
 ·have e:∃ r,lo=tot pre+na+nb+r:=⟨lo-(tot pre+na+nb),by lia⟩
  obtain⟨r,e⟩:=e
  rw[e,← Z0y (i:=r),d2,Z0y,← e]
  exact hJ.rest
 ·rw[hpl,k3]
  simp
  rfl
theorem J.push {n pw:Nat}(hJ:J key a₀ kd lo D st)(h1:1≤n)(h2:lo+n≤(arrOf st).size)(u:Up key (D.take n)) :
  J key a₀ kd (lo+n) (D.drop n) (setPending st ((pendingOf st).push (lo,n,pw))):=by
 refine⟨hJ.perm,hJ.kind,hJ.failed,?_,?_,?_⟩
 ·show Cov key ((pendingOf st).push (lo,n,pw)).toList 0 (arrOf st).toList
  rw[Z2b,Zc9]
  refine⟨hJ.cov,?_,h1,?_,?_,trivial⟩
  ·rw[hJ.tt];simp
  ·rw[ZM,ZN,hJ.tt];simp only;lia
  ·rw[hJ.tt,hJ.rest];exact u
 ·show tot ((pendingOf st).push (lo,n,pw)).toList=_
  rw[Z2b,ZbE,hJ.tt]
  simp[tot]
 ·show (arrOf st).toList.drop (lo+n)=_
  rw[← Z0y,hJ.rest]
theorem J.power {pw:Nat}(hJ:J key a₀ kd lo D st):J key a₀ kd lo D (setPending st ((pendingOf st).modify ((pendingOf st).size-1) fun x=>match x with|(a,b,_)=>(a,b,pw))):=by
 have e:((pendingOf st).modify ((pendingOf st).size-1) fun x:Run=>match x with|(a,b,_)=>(a,b,pw)).toList.map (fun p=>(p.1,p.2.1))=(pendingOf st).toList.map (fun p=>(p.1,p.2.1)):=by
  rw[Array.toList_modify]
  exact Z9Y _ _ (fun ⟨a,b,c⟩=>rfl) _ _
 refine⟨hJ.perm,hJ.kind,hJ.failed,Zgo _ _ _ _ e hJ.cov,(ZfH _ _ e).trans hJ.tt,hJ.rest⟩
theorem ZfB {Q:Unit→SortSt→Prop}(hc:ZhL prog w s O key G kd)(h0:∀ x∈a₀.toList,G x)(hpm:(arrOf st).Perm a₀)(hkd:kindOf st=kd)(hfl:failedOf st=none)(hpd:pendingOf st=#[])
  (h:∀ st',(arrOf st').Perm a₀→failedOf st'=none→Up key (arrOf st').toList→Q () st'):wpS (model prog w) A E s sortRuns' Q st:=by
 rw[sortRuns'_eq]
 refine Zo (Z6e ?_)
 have hz:(arrOf st).size=a₀.size:=hpm.size_eq
 dsimp only
 rw[hz]
 have hmr:∀ f n r,n≤f→(1≤n∨1≤r)→1≤minRun' f n r:=by
  intro f
  induction f with
  |zero=>intro n r h1 h2;show 1≤n+r;lia
  |succ f ih =>
   intro n r h1 h2
   rw[minRun'_succ]
   split
   ·lia
   ·exact ih _ _ (by lia) (.inl (by lia))
 refine Zo (Z2C (Z0P
  (I:=fun x c st'=>∃ lo,c=(none,lo)∧x≤lo∧lo≤a₀.size∧J key a₀ kd lo ((arrOf st').toList.drop lo) st')
  (Q:=fun c st'=>c=(none,a₀.size)∧J key a₀ kd a₀.size [] st') ?is ?fi ?ini) ?po)
 case ini =>
  refine⟨0,rfl,Zg _,Z0r _,hpm,hkd,hfl,?_,?_,rfl⟩
  ·rw[hpd];exact trivial
  ·rw[hpd];rfl
 case fi =>
  rintro c st' ⟨lo,rfl,l1,l2,hJ⟩
  have e:lo=a₀.size:=by exact Z5z (by assumption) (by assumption)
  subst e
  have hs:(arrOf st').size=a₀.size:=hJ.perm.size_eq
  rw[Z03 (by rw[ZN];lia)] at hJ
  exact⟨rfl,hJ⟩
 case po =>
  rintro c st' ⟨rfl,hJ⟩
  dsimp only
  refine Zo (Z2C (Z0P (I:=fun x c st''=>c=(none,())∧J key a₀ kd a₀.size [] st''∧(pendingOf st'').size+x≤a₀.size)
   (Q:=fun c st''=>c=(none,())∧J key a₀ kd a₀.size [] st''∧(pendingOf st'').size≤1) ?is2 ?fi2 ?in2) ?po2)
  case in2 =>
   refine⟨rfl,hJ,?_⟩
   have z:=Zjv _ _ _ hJ.cov
   rw[hJ.tt,ZN,ZN] at z
   lia
  case fi2 =>
   rintro c st'' ⟨hc',hJ',hp⟩
   exact⟨hc',hJ',by lia⟩
  case is2 =>
   rintro x c st''-hx ⟨rfl,hJ',hp⟩
   refine Zo (Z6e ?_)
   by_cases hle:(pendingOf st'').size≤1
   ·rw[if_pos hle]
    exact Zx ⟨rfl,hJ',hle⟩
   ·rw[if_neg hle]
    refine Zo (Z8m hc h0 hJ' ?_ fun st3 hJ3 hs3=>?_)
    ·have two:∀ (b:Bool) (u:Nat),1<u→(if b=true then u-2-1 else u-2)+1<u:=by
      intro b u hu
      cases b <;> simp <;> lia
     exact two _ _ (by exact Z7i (by assumption))
    ·exact Zx ⟨rfl,hJ3,by lia⟩
  case po2 =>
   rintro c st'' ⟨rfl,hJ',hp⟩
   refine Zx (h st'' hJ'.perm hJ'.failed ?_)
   have hs:(arrOf st'').toList.length=a₀.size:=by rw[ZN];exact hJ'.perm.size_eq
   have hcv:=hJ'.cov
   have htt:=hJ'.tt
   have hl:(pendingOf st'').toList.length≤1:=by rw[ZN];exact hp
   match hq:(pendingOf st'').toList,hl with
   |[],_ =>
    rw[hq] at htt
    simp only[tot] at htt
    have:(arrOf st'').toList=[]:=Z36 (by lia)
    rw[this]
    exact Z2j
   |[p],_ =>
    rw[hq] at htt hcv
    simp only[tot] at htt
    have u:=hcv.2.2.2.1
    rwa [Z0s (by lia)] at u
 case is =>
  rintro x c st'-hx ⟨lo,rfl,l1,l2,hJ⟩
  dsimp only
  by_cases hge:lo ≥ a₀.size
  ·rw[if_pos hge]
   have e:lo=a₀.size:=by exact Z5z (by assumption) (by assumption)
   subst e
   have hs:(arrOf st').size=a₀.size:=hJ.perm.size_eq
   rw[Z03 (by rw[ZN];lia)] at hJ
   exact Zx ⟨rfl,hJ⟩
  rw[if_neg hge]
  have hm1:1≤minRun' a₀.size a₀.size 0:=hmr _ _ _ (Zg _) (.inl (by lia))
  have B0:Nc a₀ kd (pendingOf st') lo (arrOf st') st':=⟨hJ.perm,hJ.kind,hJ.failed,rfl,fun _ _=>rfl⟩
  have next:∀ (st2:SortSt) (n:Nat),Nc a₀ kd (pendingOf st') lo (arrOf st') st2→1≤n→lo+n≤a₀.size→ZgC key (arrOf st2) lo (lo+n) →
    J key a₀ kd lo ((arrOf st2).toList.drop lo) st2∧Up key (((arrOf st2).toList.drop lo).take n):=by
   intro st2 n B n1 n2 sg
   refine⟨⟨B.perm,B.kind,B.failed,?_,by rw[B.pend];exact hJ.tt,rfl⟩,ZgJ sg⟩
   rw[B.pend]
   refine Zai _ _ _ _ hJ.cov ?_ ?_
   ·rw[hJ.tt,ZN,B.size];omega
   ·rw[hJ.tt];exact Zkp B.low
  refine Zo (Zn4 hc h0 (by lia) (by lia) B0 fun m st2 B2 m1 m2 sg=>?_)
  dsimp only
  by_cases hlt:m<minRun' a₀.size a₀.size 0
  ·rw[if_pos hlt]
   refine Zo (ZaU (Z2A ⟨rfl,?_⟩))
   refine Zo (ZgH hc h0 (by lia) (by omega) B2 sg fun st3 B3 sg3=>?_)
   rw[if_neg (by simp)]
   obtain⟨J3,u3⟩:=next st3 _ B3 (by lia) (by lia) sg3
   have n1:1≤min (a₀.size-lo) (minRun' a₀.size a₀.size 0):=by lia
   have n2:lo+min (a₀.size-lo) (minRun' a₀.size a₀.size 0)≤a₀.size:=by lia
   generalize min (a₀.size-lo) (minRun' a₀.size a₀.size 0)=n at n1 n2 u3 ⊢
   have last:∀ (st4:SortSt),J key a₀ kd lo ((arrOf st3).toList.drop lo) st4→∃ l4,((none:Option Unit),lo+n)=(none,l4)∧x+1≤l4∧l4≤a₀.size∧J key a₀ kd l4 ((arrOf (setPending st4 ((pendingOf st4).push (lo,n,0)))).toList.drop l4) (setPending st4 ((pendingOf st4).push (lo,n,0))):=by
    intro st4 J4
    have z:=J4.push (pw:=0) n1 (by rw[J4.perm.size_eq];exact n2) u3
    have e:=z.rest
    refine⟨lo+n,rfl,by lia,n2,?_⟩
    rw[e]
    exact z
   refine Zo (Z6e ?_)
   cases hbk:(pendingOf st3).back? with
   |none=>exact Zo (Z3S (Zx (last _ J3)))
   |some q =>
    obtain⟨s1,n1',o1⟩:=q
    dsimp only
    refine Zo (Z2C (Z0P (I:=fun _ c st4=>c=(none,())∧J key a₀ kd lo ((arrOf st3).toList.drop lo) st4)
     (Q:=fun c st4=>c=(none,())∧J key a₀ kd lo ((arrOf st3).toList.drop lo) st4) ?is5 (fun _ _ z=>z) ⟨rfl,J3⟩) ?po5)
    case po5 =>
     rintro c st4 ⟨rfl,J4⟩
     exact Zo (Z3S (Zo (Z3S (Zx (last _ J4.power)))))
    case is5 =>
     rintro y c st4-hy ⟨rfl,J4⟩
     refine Zo (Z6e ?_)
     split
     ·split
      ·exact Zx ⟨rfl,J4⟩
      ·rename_i heq _
       refine Zo (Z8m hc h0 J4 ?_ fun st5 J5 _=>Zx ⟨rfl,J5⟩)
       split at heq
       ·lia
       ·exact absurd heq (by simp)
     ·exact Zx ⟨rfl,J4⟩
  ·rw[if_neg hlt]
   obtain⟨J3,u3⟩:=next st2 m B2 m1 (by lia) sg
   have n1:1≤m:=m1
   have n2:lo+m≤a₀.size:=by lia
   generalize m=n at n1 n2 u3 ⊢
   generalize st2=st3 at J3 u3 ⊢
   have last:∀ (st4:SortSt),J key a₀ kd lo ((arrOf st3).toList.drop lo) st4→∃ l4,((none:Option Unit),lo+n)=(none,l4)∧x+1≤l4∧l4≤a₀.size∧J key a₀ kd l4 ((arrOf (setPending st4 ((pendingOf st4).push (lo,n,0)))).toList.drop l4) (setPending st4 ((pendingOf st4).push (lo,n,0))):=by
    intro st4 J4
    have z:=J4.push (pw:=0) n1 (by rw[J4.perm.size_eq];exact n2) u3
    have e:=z.rest
    refine⟨lo+n,rfl,by lia,n2,?_⟩
    rw[e]
    exact z
   refine Zo (Z6e ?_)
   cases hbk:(pendingOf st3).back? with
   |none=>exact Zo (Z3S (Zx (last _ J3)))
   |some q =>
    obtain⟨s1,n1',o1⟩:=q
    dsimp only
    refine Zo (Z2C (Z0P (I:=fun _ c st4=>c=(none,())∧J key a₀ kd lo ((arrOf st3).toList.drop lo) st4)
     (Q:=fun c st4=>c=(none,())∧J key a₀ kd lo ((arrOf st3).toList.drop lo) st4) ?is5 (fun _ _ z=>z) ⟨rfl,J3⟩) ?po5)
    case po5 =>
     rintro c st4 ⟨rfl,J4⟩
     exact Zo (Z3S (Zo (Z3S (Zx (last _ J4.power)))))
    case is5 =>
     rintro y c st4-hy ⟨rfl,J4⟩
     refine Zo (Z6e ?_)
     split
     ·split
      ·exact Zx ⟨rfl,J4⟩
      ·rename_i heq _
       refine Zo (Z8m hc h0 J4 ?_ fun st5 J5 _=>Zx ⟨rfl,J5⟩)
       split at heq
       ·lia
       ·exact absurd heq (by simp)
     ·exact Zx ⟨rfl,J4⟩
end
end Sg
namespace Sg
open PySem PyProof.Rows PySem.Spec
noncomputable def Ext (h h':Heap):Prop:=∀ b o,h.get? b=some o→h'.get? b=some o
theorem Ext.refl (h:Heap):Ext h h:=fun _ _ e=>e
structure Sorts (prog:Program)(w:World)(h:Heap)(vs:List Value)(O:KeyOrd)(key:Keyed→O.α)(G:Keyed→Prop)(kd:Z3V):Prop where
 good:∀ v∈vs,G (v,v)
 kind:2≤vs.length→∀ (s:Shared) (A:Around) (E:Value→Shared→Prop) (Q:Z3V→Shared→Prop),Ext h s.heap→Q kd s→wpAny (model prog w) A (keyKind' vs.toArray) Q E s
 asks:∀ s:Shared,Ext h s.heap→ZhL prog w s O key G kd
section
variable {prog:Program}{w:World}{A:Around}{E:Value→Shared→Prop}{s:Shared}{O:KeyOrd}{key:Keyed→O.α}{G:Keyed→Prop}{kd:Z3V}{h:Heap}{vs:List Value}
theorem Zsl {xs:Array Keyed}(hp:xs.Perm (pairsOf vs))(hu:Up key xs.toList) :
  (xs.map (·.2)).toList.Perm vs∧(xs.map (·.2)).toList.Pairwise fun a b=>O.kle (key (a,a)) (key (b,b)):=by
 have hl:xs.toList.Perm (vs.zip vs):=by rw[← ZhD];exact Z2k.mp hp
 have hm:∀ p∈xs.toList,p=(p.2,p.2):=fun p q=>Z7K (mem_zip_self (hl.mem_iff.mp q)).1 rfl
 rw[Zm9]
 constructor
 ·have e:=hl.map (·.2)
  rwa [show (vs.zip vs).map (·.2)=vs from ZmY (Zg _)] at e
 ·refine Z1M.mpr (Z5a (fun {a b} ha hb hab=>?_) hu)
  rw[← hm a ha,← hm b hb]
  exact hab
theorem ZbZ (S:Sorts prog w h vs O key G kd) {a:Addr} {n:Nat} {P:Fin→Shared→Prop} (ho:s.heap.get? a=some (seqObj "list" vs.toArray n)) (hx:h.get? a=none) (he:Ext h s.heap)
  (hsz:vs.length≤sizeLine)
  (hh:∀ out:Array Value,out.toList.Perm vs→(out.toList.Pairwise fun a b=>O.kle (key (a,a)) (key (b,b)))→P (.done (.ret .none)) { s with heap:=sortedHeap s.heap a vs out }) :
  wpAny (model prog w) A (Builtin.«list.sort» ⟨[.ref a],[]⟩) P E s:=by
 rw[list_sort_plain]
 have ha:a<s.heap.objs.size:=Zw ho
 refine Z0 (Z90 ho rfl ?_)
 refine Z0 (Z3U ho rfl ?_ (by simpa using hsz) (Z0r _))
 obtain⟨e1,ho1⟩:∃ e1,(s.heap.update a (Z0G fun _=>#[])).get? a=some (seqObj "list" #[] e1):=⟨_,Z92 ho (fun _=>#[])⟩
 refine Z0 (ZaB ho1 rfl ?_)
 refine Z0 (Z9G ?_ (by simpa using hsz))
 refine Z0 (ZaV ?_ (Z0r _))
 refine Z1E ?_
 have keep:∀ b,b≠a→b<s.heap.objs.size→(((s.heap.update a (Z0G fun _=>#[])).push (seqObj "tuple" vs.toArray 0)).push (seqObj "list" #[] 0)).get? b=(s.heap.update a (Z0G fun _=>#[])).get? b:=by
  intro b _ hb
  rw[Z6u _ _ _ (by rw[Z9e,Z55];exact ZW (Z2e hb)),Z6u _ _ _ (by rw[Z55];exact ZW hb)]
 have ho6:(((s.heap.update a (Z0G fun _=>#[])).push (seqObj "tuple" vs.toArray 0)).push (seqObj "list" #[] 0)).get? a=some (seqObj "list" #[] e1):=by
  rw[Z6u _ _ _ (by rw[Z9e,Z55];exact ZW (Z2e ha)),Z6u _ _ _ (by rw[Z55];exact ZW ha)]
  exact ho1
 have hX:Ext h (((s.heap.update a (Z0G fun _=>#[])).push (seqObj "tuple" vs.toArray 0)).push (seqObj "list" #[] 0)):=by
  intro b o e
  have hb:b≠a:=fun z=>by rw[z,hx] at e;cases e
  rw[keep b hb (Zw (he b o e)),Z2h _ _ _ _ hb]
  exact he b o e
 show wpAny (model prog w) A _ P E { s with heap:=((s.heap.update a (Z0G fun _=>#[])).push (seqObj "tuple" vs.toArray 0)).push (seqObj "list" #[] 0) }
 dsimp only
 have hlen:vs.toArray.size=vs.length:=by simp
 by_cases h2:vs.toArray.size<2
 ·rw[if_pos h2,if_pos h2]
  refine Z0 (Za ?_)
  rw[ZlX]
  refine Z0 (Za ?_)
  dsimp only
  refine Z0 (ZaB ho6 rfl ?_)
  refine Z0 (Z3U ho6 rfl ?_ (Z0r _) (by rw[Zcy];show (pairsOf vs).size≤_;rw[pairsOf_size];lia))
  simp only[bne_self_eq_false,Zu,if_false]
  have u0:Up key (pairsOf vs).toList:=by
   rw[ZhD]
   clear hh ho hX keep ho6 S hsz
   rcases vs with _|⟨v,_|⟨v2,r⟩⟩
   ·exact Z2j
   ·exact Zft _ _
   ·simp at h2
    lia
  have z:=Zsl (vs:=vs) (ZhC (pairsOf vs)) u0
  exact Za (hh _ z.1 z.2)
 ·rw[if_neg h2,if_neg h2]
  refine Z0 (S.kind (by exact Z1D (by assumption)) _ _ _ _ hX ?_)
  have g0:∀ x∈(pairsOf vs).toList,G x:=by
   intro x q
   rw[ZhD] at q
   have e:=mem_zip_self q
   have e2:x=(x.1,x.1):=Z7K rfl e.1.symm
   rw[e2]
   exact S.good _ e.2
  refine Z0 (Z1k (ZfB (a₀:=pairsOf vs) (key:=key) (G:=G) (kd:=kd) (st:=Z7o kd (vs.toArray.zip vs.toArray) #[] 7 none)
   (Q:=fun _ st'=>(arrOf st').Perm (pairsOf vs)∧failedOf st'=none∧Up key (arrOf st').toList)
   (S.asks _ hX) g0 (ZhC _) rfl rfl rfl fun st' a1 a2 a3=>⟨a1,a2,a3⟩) ?_ fun _ _ e=>e)
  rintro⟨⟨⟩,st'⟩ s' ⟨rfl,hp,hf,hs⟩
  dsimp only
  refine Z0 (ZaB ho6 rfl ?_)
  refine Z0 (Z3U ho6 rfl ?_ (Z0r _) (by refine ZR (ZhH ((Zcy ..).trans (hp.size_eq.trans (pairsOf_size _)))) ?_;lia))
  rw[hf]
  simp only[bne_self_eq_false,Zu,if_false]
  have z:=Zsl hp hs
  exact Za (hh _ z.1 z.2)
theorem sorted_any {v:Value}{Q:Value→Shared→Prop}
  (hc:∀ A':Around,A'.handled=A.handled→wpAny (model prog w) A' (collect v) (fun vs s1=>vs.length≤sizeLine∧∃ (O:KeyOrd) (key:Keyed→O.α) (G:Keyed→Prop) (kd:Z3V),Sorts prog w s1.heap vs O key G kd ∧
   ∀ (out:List Value) (h':Heap) (e:Nat),out.Perm vs→(out.Pairwise fun a b=>O.kle (key (a,a)) (key (b,b)))→Ext s1.heap h'→h'.get? s1.heap.objs.size=some (seqObj "list" out.toArray e) →
    Q (.ref s1.heap.objs.size) { s1 with heap:=h' }) E s) :
  wpAny (model prog w) A (call (.builtin "sorted") [v]) Q E s:=by
 refine Calls.call_function_entry kind_sorted plain_sorted entry_sorted (args_sorted1 _) ?_
 unfold ZhB
 refine Z0 (m:=checkCount "sorted" 1 1 _) (Za ?_)
 refine Z0 (Z1k (hc _ (by first|rfl|simp)) (fun vs s1 hq=>?_) fun _ _ e=>e)
 obtain⟨hsz,O,key,G,kd,S,hq⟩:=hq
 refine Z0 (ZaV ?_ hsz)
 have hoL:(s1.heap.push (seqObj "list" vs.toArray 0)).get? s1.heap.objs.size=some (seqObj "list" vs.toArray 0):=Zm _ rfl
 have hE:Ext s1.heap (s1.heap.push (seqObj "list" vs.toArray 0)):=fun b o e=>Z1 _ e
 show wpAny _ _ _ _ _ { s1 with heap:=s1.heap.push (seqObj "list" vs.toArray 0) }
 refine Z0 (Z1E (Z1r ZsL ⟨_,hoL,rfl⟩ Zsq
  (ZbZ (s:={ s1 with heap:=s1.heap.push (seqObj "list" vs.toArray 0) }) S hoL (Z5b (Zg _)) hE hsz fun out a1 a2=>⟨_,rfl,?_⟩) (args_list_sort _)))
 obtain⟨e,he⟩:=sortedHeap_at (out:=out) hoL
 refine Za ⟨_,rfl,hq out.toList _ e a1 a2 (fun b o q=>?_) (by simpa using he)⟩
 have hb:b<s1.heap.objs.size:=Zw q
 rw[sortedHeap_old (ZW hb) (by rw[Z9e];exact Z2e hb)]
 exact hE b o q
end
end Sg
namespace Sg
open PySem PyProof.Rows PySem.Spec PySem.W
structure Atom where
 O:KeyOrd
 dflt:O.α
 keyOf:Value→Option O.α
 T:Value
 notTup:(T != Z12 "tuple")=true
 self:(T == T)=true
 ty:∀ (M:Model) (h:Heap) (v:Value) (k:O.α),keyOf v=some k→Looks M h (typeOf v) T
 eqs:∀ {prog:Program} {w:World} {A:Around} {E:Value→Shared→Prop} {s:Shared} {p q:Value} {a b:O.α} {Q:Bool→Shared→Prop},keyOf p=some a→keyOf q=some b →
  (∀ c:Bool,(c=true↔a=b)→Q c s)→wpAny (model prog w) A (eqBool p q) Q E s
 lts:∀ {prog:Program} {w:World} {A:Around} {E:Value→Shared→Prop} {s:Shared} {p q:Value} {a b:O.α} {Q:Bool→Shared→Prop} (c:Bool),keyOf p=some a→keyOf q=some b →
  Q (O.blt a b) s→wpAny (model prog w) A (oneLt' c p q) Q E s
@[reducible] noncomputable def intOrd:KeyOrd where
 α:=Int
 blt a b:=decide (a<b)
 irrefl a:=by simp
 trans a b c h1 h2:=by simp only[decide_eq_true_eq] at *;lia
 negTrans a b c h:=by simp only[decide_eq_true_eq] at *;lia
 total a b h1 h2:=by simp only[decide_eq_false_iff_not] at *;lia
noncomputable def lexOrd (P R:KeyOrd):KeyOrd where
 α:=P.α×R.α
 blt a b:=P.blt a.1 b.1||(!P.blt b.1 a.1&&R.blt a.2 b.2)
 irrefl a:=by rw[P.irrefl,R.irrefl];rfl
 trans a b c h1 h2:=by
  simp only[Z2P,Z0a,Z6v] at *
  rcases h1 with h1|⟨h1,h1'⟩ <;> rcases h2 with h2|⟨h2,h2'⟩
  ·exact .inl (P.trans _ _ _ h1 h2)
  ·exact .inl (KeyOrd.klt_of_klt_of_kle (O:=P) h1 h2)
  ·exact .inl (Zct (O:=P) h1 h2)
  ·exact .inr ⟨Z0B (O:=P) h1 h2,R.trans _ _ _ h1' h2'⟩
 negTrans a b c h:=by
  simp only[Z2P,Z0a,Z6v] at *
  rcases h with h|⟨h,h'⟩
  ·rcases P.negTrans _ b.1 _ h with z|z
   ·exact .inl (.inl z)
   ·exact .inr (.inl z)
  ·cases e1:P.blt a.1 b.1 with
   |true=>exact .inl (.inl rfl)
   |false =>
    cases e2:P.blt b.1 c.1 with
    |true=>exact .inr (.inl rfl)
    |false =>
     have e3:P.blt b.1 a.1=false:=by
      cases z:P.blt b.1 a.1 with
      |false=>rfl
      |true =>
       rcases P.negTrans _ c.1 _ z with y|y
       ·rw[e2] at y;cases y
       ·rw[h] at y;cases y
     have e4:P.blt c.1 b.1=false:=by
      cases z:P.blt c.1 b.1 with
      |false=>rfl
      |true =>
       rcases P.negTrans _ a.1 _ z with y|y
       ·rw[h] at y;cases y
       ·rw[e1] at y;cases y
     rcases R.negTrans _ b.2 _ h' with z|z
     ·exact .inl (.inr ⟨e3,z⟩)
     ·exact .inr (.inr ⟨e4,z⟩)
 total a b h1 h2:=by
  simp only[Z5c] at *
  have e:=P.total _ _ h1.1 h2.1
  have g1:=h1.2
  have g2:=h2.2
  rw[h2.1] at g1
  rw[h1.1] at g2
  exact Z7K e (R.total _ _ (by simpa using g1) (by simpa using g2))
noncomputable def intAtom:Atom where
 O:=intOrd
 dflt:=(0:Int)
 keyOf v:=match v with|.int n _=>some n|_=>none
 T:=Z12 "int"
 notTup:=rfl
 self:=rfl
 ty:=by
  intro M h v k e
  cases v <;> simp only[reduceCtorEq] at e
  exact Zsw
 eqs:=by
  intro prog w A E s p q a b Q ha hb hQ
  cases p <;> simp only[reduceCtorEq,Z0t] at ha
  cases q <;> simp only[reduceCtorEq,Z0t] at hb
  subst ha hb
  exact Zrl (hQ _ (by simp))
 lts:=by
  intro prog w A E s p q a b Q c ha hb hQ
  cases p <;> simp only[reduceCtorEq,Z0t] at ha
  cases q <;> simp only[reduceCtorEq,Z0t] at hb
  subst ha hb
  cases c with
  |true=>exact oneLt_int hQ
  |false=>exact kat_one _ _ (Zch hQ)
noncomputable def strAtom:Atom where
 O:=strKind.toKeyOrd
 dflt:=([]:List Nat)
 keyOf v:=match v with|.str x _=>some x.cps.toList|_=>none
 T:=Z12 "str"
 notTup:=rfl
 self:=rfl
 ty:=by
  intro M h v k e
  cases v <;> simp only[reduceCtorEq] at e
  exact Zsw
 eqs:=by
  intro prog w A E s p q a b Q ha hb hQ
  cases p <;> simp only[reduceCtorEq,Z0t] at ha
  cases q <;> simp only[reduceCtorEq,Z0t] at hb
  subst ha hb
  rename_i x _ y _
  refine Zrk (hQ _ ?_)
  cases x;cases y
  simp only[decide_eq_true_eq,ZoX]
  exact Z6R.symm
 lts:=by
  intro prog w A E s p q a b Q c ha hb hQ
  cases p <;> simp only[reduceCtorEq,Z0t] at ha
  cases q <;> simp only[reduceCtorEq,Z0t] at hb
  subst ha hb
  cases c with
  |true=>exact oneLt_str hQ
  |false=>exact kat_one _ _ (Zcg (show PySem.W.BoolBack Q (Zea _) s from hQ))
variable {prog:Program}{w:World}
theorem Zew (Z:Atom)(h:Heap){vs:List Value}(hv:∀ v∈vs,∃ k,Z.keyOf v=some k)(hk:∀ v₁ v₂ r,vs=v₁::v₂::r→keyKind' (v₁::v₂::r).toArray=pure oneType') :
  Sorts prog w h vs Z.O (fun p=>(Z.keyOf p.1).getD Z.dflt) (fun p=>∃ k,Z.keyOf p.1=some k) oneType':=by
 refine⟨fun v m=>hv v m,fun h2 s A E Q _ hQ=>?_,fun s _ A E x y Q gx gy hQ=>?_⟩
 ·match vs,h2,hk with
  |v₁::v₂::r,_,hk =>
   rw[hk v₁ v₂ r rfl]
   exact Za hQ
  |[v],h2,_=>exact absurd h2 (by simp)
  |[],h2,_=>exact absurd h2 (by simp)
 ·obtain⟨a,ha⟩:=gx
  obtain⟨b,hb⟩:=gy
  rw[keyLt'_oneType]
  rw[ha,hb] at hQ
  exact Z.lts true ha hb hQ
theorem sorts_strs (h:Heap){vs:List Value}{ss:List Str}(hS:StrsAre vs ss) :
  Sorts prog w h vs strAtom.O (fun p=>(strAtom.keyOf p.1).getD strAtom.dflt) (fun p=>∃ k,strAtom.keyOf p.1=some k) oneType' :=
 Zew strAtom h (fun v m=>by obtain⟨x,t,rfl⟩:=hS.all v m;exact⟨_,rfl⟩) fun v₁ v₂ r e=>keyKind_strs (by rw[← e];exact hS)
noncomputable def IsPair (Y Z:Atom)(h:Heap)(v:Value)(k:Y.O.α×Z.O.α):Prop :=
 ∃ x o u r n,v=.ref x∧h.get? x=some o∧o.cls=.type "tuple"∧o.data=.seq #[u,r] n∧Y.keyOf u=some k.1∧Z.keyOf r=some k.2
open Classical in
noncomputable def pairKey (Y Z:Atom)(h:Heap)(v:Value):Y.O.α×Z.O.α:=if e:∃ k,IsPair Y Z h v k then e.choose else (Y.dflt,Z.dflt)
theorem pairKey_of {Y Z:Atom}{h:Heap}{v:Value}{k:Y.O.α×Z.O.α}(hk:IsPair Y Z h v k):pairKey Y Z h v=k:=by
 have e:∃ k,IsPair Y Z h v k:=⟨k,hk⟩
 unfold pairKey
 rw[dif_pos e]
 obtain⟨x,o,u,r,n,e1,e2,e3,e4,e5,e6⟩:=e.choose_spec
 obtain⟨x',o',u',r',n',f1,f2,f3,f4,f5,f6⟩:=hk
 have hx:x'=x:=by rw[f1] at e1;cases e1;rfl
 subst hx
 rw[f2] at e2
 cases e2
 rw[f4] at e4
 cases e4
 rw[f5] at e5
 rw[f6] at e6
 exact Z7K (Z0e e5).symm (Z0e e6).symm
theorem ZhY {Y Z:Atom}{h h':Heap}(hE:Ext h h'):∀ {vs:List Value},(∀ v∈vs,∃ k,IsPair Y Z h v k)→∃ fs,KatTups h' vs fs∧fs.length=vs.length∧∀ f∈fs,∃ k,Y.keyOf f=some k
 |[],_=>⟨[],.nil,rfl,fun _ q=>absurd q (by simp)⟩
 |v::vs,hv=>by
  obtain⟨fs,t,hl,hf⟩:=ZhY hE (vs:=vs) fun v m=>hv v (Z9 _ m)
  obtain⟨k,x,o,u,r,n,rfl,e2,e3,e4,e5,e6⟩:=hv v Z4
  refine⟨u::fs,KatTups.cons (hE _ _ e2) e3 e4 rfl t,by simp[hl],fun f m=>?_⟩
  rcases Zi.mp m with rfl|m
  ·exact⟨_,e5⟩
  ·exact hf f m
theorem sorts_pairs (Y Z:Atom)(h:Heap){vs:List Value}(hv:∀ v∈vs,∃ k,IsPair Y Z h v k) :
  Sorts prog w h vs (lexOrd Y.O Z.O) (fun p=>pairKey Y Z h p.1) (fun p=>∃ k,IsPair Y Z h p.1 k) (tuples' true):=by
 refine⟨fun v m=>hv v m,fun h2 s A E Q hE hQ=>?_,fun s hE A E x y Q gx gy hQ=>?_⟩
 ·obtain⟨fs,t,hl,hf⟩:=ZhY hE hv
  refine kat_kind t (by lia) (T:=Y.T) (fun v m=>?_) Y.self ?_
  ·obtain⟨k,e⟩:=hf v m
   exact Y.ty _ _ v k e
  ·rw[Y.notTup]
   exact hQ
 ·obtain⟨⟨a,b⟩,hx⟩:=gx
  obtain⟨⟨a',b'⟩,hy⟩:=gy
  rw[pairKey_of hx,pairKey_of hy] at hQ
  obtain⟨x1,o,u,r,n,e1,e2,e3,e4,e5,e6⟩:=hx
  obtain⟨y1,o',u',r',n',f1,f2,f3,f4,f5,f6⟩:=hy
  dsimp only at e5 e6 f5 f6
  rw[e1,f1]
  refine kat_lt (hE _ _ e2) e4 (hE _ _ f2) f4 ?_
  show KatLex prog w A true false Q [(u,u'),(r,r')] 0 s
  refine kat_cons (Y.eqs e5 f5 fun c hc=>kat_go (fun ec=>?_) fun ec=>?_)
  ·have ea:a=a':=hc.mp ec
   subst ea
   refine kat_yes (kat_cons (Z.eqs e6 f6 fun c2 hc2=>kat_go (fun ec2=>?_) fun ec2=>?_))
   ·have eb:b=b':=hc2.mp ec2
    subst eb
    refine kat_yes (kat_nil ?_)
    have z:(lexOrd Y.O Z.O).blt (a,b) (a,b)=false:=(lexOrd Y.O Z.O).irrefl (a,b)
    rw[z] at hQ
    exact hQ
   ·refine kat_no (Z1k (Z.lts _ e6 f6 (Q:=Q) (E:=fun _ _=>False) ?_) (fun _ _ z=>z) fun _ _ z=>z)
    have z:(lexOrd Y.O Z.O).blt (a,b) (a,b')=Z.O.blt b b':=by
     show (Y.O.blt a a||(!Y.O.blt a a&&Z.O.blt b b'))=_
     rw[Y.O.irrefl];rfl
    rw[z] at hQ
    exact hQ
  ·refine kat_no (Y.lts _ e5 f5 ?_)
   have ne:a≠a':=fun z=>by rw[hc.mpr z] at ec;cases ec
   have z:(lexOrd Y.O Z.O).blt (a,b) (a',b')=Y.O.blt a a':=by
    show (Y.O.blt a a'||(!Y.O.blt a' a&&Z.O.blt b b'))=_
    cases q1:Y.O.blt a a' with
    |true=>rfl
    |false =>
     cases q2:Y.O.blt a' a with
     |true=>rfl
     |false=>exact absurd (Y.O.total _ _ q1 q2) ne
   rw[z] at hQ
   exact hQ
end Sg
namespace Sg
open PySem
structure ZlW (prog:Program)(w:World)(h:Heap)(a:Addr)(es:Array (Int×Value))(ep:Nat)(t:Z0k):Prop where
 obj:∃ o,h.get? a=some o∧o.ExactSet∧o.data=.set es ep t
 el:ElemsOf (Z22 prog w) es.toList
 few:es.size<scanBound
 fits:t.fits es.size=true
 led:t.led=!(w.params.followText "set-order")
 plain:es.size=0∨t.plain=false
structure Zcn (prog:Program)(w:World)(h:Heap)(a:Addr)(es:Array (Int×Value))(ep:Nat)(t:Z0k):Prop where
 obj:∃ o,h.get? a=some o∧o.ExactSet∧o.data=.set es ep t
 few:es.size<scanBound
 fits:t.fits es.size=true
 led:t.led=!(w.params.followText "set-order")
 plain:es.size=0∨t.plain=false
theorem Zcn.keep {prog:Program}{w:World}{h h':Heap}{a:Addr}{es:Array (Int×Value)}{ep:Nat}{t:Z0k}(x:Zcn prog w h a es ep t)(k:∀ o,h.get? a=some o→h'.get? a=some o):Zcn prog w h' a es ep t :=
 ⟨let ⟨o,e,r⟩:=x.obj;⟨o,k o e,r⟩,x.few,x.fits,x.led,x.plain⟩
theorem ZlW.b {prog:Program}{w:World}{h:Heap}{a:Addr}{es:Array (Int×Value)}{ep:Nat}{t:Z0k}(x:ZlW prog w h a es ep t):Zcn prog w h a es ep t:=⟨x.obj,x.few,x.fits,x.led,x.plain⟩
noncomputable def txtOf:Value→Str
 |.str x _=>x
 |_=>⟨#[]⟩
noncomputable def txts (es:Array (Int×Value)):List Str:=es.toList.map fun e=>txtOf e.2
noncomputable def TSetD (prog:Program)(w:World)(h:Heap)(a:Addr)(D:List Str):Prop:=∃ es ep t,ZlW prog w h a es ep t∧(txts es).Perm D
theorem ZlW.keep {prog:Program}{w:World}{h h':Heap}{a:Addr}{es:Array (Int×Value)}{ep:Nat}{t:Z0k}(x:ZlW prog w h a es ep t)(k:∀ o,h.get? a=some o→h'.get? a=some o):ZlW prog w h' a es ep t :=
 ⟨let ⟨o,e,r⟩:=x.obj;⟨o,k o e,r⟩,x.el,x.few,x.fits,x.led,x.plain⟩
theorem TSetD.keep {prog:Program}{w:World}{h h':Heap}{a:Addr}{D:List Str}(x:TSetD prog w h a D)(k:∀ o,h.get? a=some o→h'.get? a=some o):TSetD prog w h' a D :=
 let ⟨es,ep,t,y,p⟩:=x;⟨es,ep,t,y.keep k,p⟩
theorem el_txt {prog:Program}{w:World}{l:List (Int×Value)}(h:ElemsOf (Z22 prog w) l):∀ e∈l,∃ u,e.2=.str (txtOf e.2) u:=by
 intro e m
 obtain⟨⟨k,hk,-⟩,-⟩:=h e m
 obtain⟨u,e2⟩:=Z8g hk
 rw[e2]
 exact⟨u,rfl⟩
noncomputable def Ze9 (D:List Str)(x:Str):List Str:=if x∈D then D else D++[x]
noncomputable def metS (l:List Str):List Str:=l.foldl Ze9 []
theorem Zhu {D:List Str}(h:D.Nodup)(x:Str):(Ze9 D x).Nodup:=by
 unfold Ze9
 split
 ·exact h
 ·rename_i n
  refine Zav.mpr ⟨h,by simp,fun a ha b hb=>?_⟩
  rw[Z0c] at hb
  subst hb
  exact fun z=>n (z ▸ ha)
theorem Zlp {D:List Str}{x y:Str}:y∈Ze9 D x↔y∈D∨y=x:=by
 unfold Ze9
 split
 ·rename_i hm
  exact⟨.inl,fun z=>z.elim id fun e=>e ▸ hm⟩
 ·simp
theorem Z9w:∀ (l D:List Str),D.Nodup→(l.foldl Ze9 D).Nodup∧(∀ y,y∈l.foldl Ze9 D↔y∈D∨y∈l)∧(l.foldl Ze9 D).length≤D.length+l.length
 |[],D,h=>⟨h,fun y=>by simp,by simp⟩
 |x::l,D,h=>by
  have ih:=Z9w l (Ze9 D x) (Zhu h x)
  refine⟨ih.1,fun y=>?_,?_⟩
  ·rw[Z3s,ih.2.1,Zlp,Zi,or_assoc]
  ·have z:(Ze9 D x).length≤D.length+1:=by unfold Ze9;split <;> simp
   have:=ih.2.2
   rw[Z3s,Zp]
   lia
theorem metS_nodup (l:List Str):(metS l).Nodup:=(Z9w l [] Z8j).1
theorem mem_metS {l:List Str}{y:Str}:y∈metS l↔y∈l:=by
 have:=(Z9w l [] Z8j).2.1 y
 simpa [metS] using this
theorem metS_len (l:List Str):(metS l).length≤l.length:=by
 have:=(Z9w l [] Z8j).2.2
 simpa [metS] using this
theorem Zj4 (l:List Str)(x:Str):metS (l++[x])=Ze9 (metS l) x:=by
 unfold metS;rw[List.foldl_append];rfl
theorem Zi2 (t:Z0k)(n:Nat):(t.orStandIn n).led=t.led:=by
 unfold Z0k.orStandIn
 split <;> rfl
theorem Zos (t:Z0k)(es:Array (Int×Value))(h:Int)(x:Value):(layNew t es h x).2.1.led=t.led:=by
 unfold layNew
 split
 ·rename_i slot wd _
  show ((t.put slot).1.orStandIn _).led=t.led
  rw[Zi2]
  rfl
 ·rfl
theorem Zid (t:Z0k)(es:Array (Int×Value))(n:Nat)(hp:t.plain=false):(relayAll t es n).2.1.led=t.led∧(relayAll t es n).2.1.plain=false:=by
 unfold relayAll
 split
 ·rename_i t' order he
  have e:t'.led=t.led∧t'.plain=t.plain:=by
   unfold Z0k.relaid Z0k.laid at he
   simp only[Option.bind_eq_bind,Option.pure_def] at he
   cases ho:Z0k.layClean (Z0k.sizeAbove n-1) (es.map (·.1)) with
   |none=>rw[ho] at he;cases he
   |some ow =>
    rw[ho] at he
    simp only[ob_,Z0t,Z43] at he
    rw[← he.1]
    exact⟨rfl,rfl⟩
  dsimp only
  split
  ·exact⟨e.1,e.2.trans hp⟩
  ·exact⟨rfl,rfl⟩
 ·exact⟨rfl,rfl⟩
section
variable {prog:Program}{w:World}{A:Around}{E:Value→Shared→Prop}{s:Shared}
theorem ZaX {a:Addr}{es:Array (Int×Value)}{ep:Nat}{t:Z0k}{es':Array (Int×Value)}{t':Z0k}{Q:Unit→Shared→Prop}(x:ZlW prog w s.heap a es ep t)
  (el:ElemsOf (Z22 prog w) es'.toList) (few:es'.size<scanBound) (fits:t'.fits es'.size=true) (led:t'.led=t.led) (pl:t'.plain=false)
  (h:∀ h',Z0K a s.heap h'→ZlW prog w h' a es' (ep+1) t'→Q () { s with heap:=h' }):wpAny (model prog w) A (storeSet a es' t') Q E s:=by
 obtain⟨o,ho,hex,hd⟩:=x.obj
 have z:=SetOf_store (knd:=Z22 prog w) (S':=fun k=>es'.toList.any fun e=>(Z22 prog w).is k e.2) ho hex hd el (fun k=>by rw[List.any_eq_true]) few fits
 refine wpAny_storeSet_of ho hd (h _ (Z19 s.heap a (Obj.putSet es' t')) ⟨⟨_,z.1,hex,rfl⟩,el,few,fits,led.trans x.led,.inr pl⟩) (Z7n few)
theorem ZlV {a:Addr}{D:List Str}{x:Str}{tk:Tok}{Q:Bool→Shared→Prop}(hS:TSetD prog w s.heap a D)(room:D.length+1<scanBound)
  (h:∀ h' b,Z0K a s.heap h'→TSetD prog w h' a (Ze9 D x)→Q b { s with heap:=h',toks:=s.toks+1 }):wpAny (model prog w) A (setAdd a (.str x tk)) Q E s:=by
 obtain⟨es,ep,t,T,P⟩:=hS
 unfold setAdd
 refine Z1E ?_
 refine Z0 (Zri ?_)
 have hn:es.size=D.length:=by
  have:=P.length_eq
  unfold txts at this
  simpa using this
 have T':ZlW prog w ({ s with toks:=s.toks+1 }:Shared).heap a es ep t:=T
 obtain⟨o,ho,hex,hd⟩:=T.obj
 have hkey:(Z22 prog w).is x (.str x tk)=true:=by show Z6x x (.str x tk)=true;simp[Z6x]
 have hin:(∃ e∈es.toList,(Z22 prog w).is x e.2=true)↔x∈D:=by
  rw[← P.mem_iff]
  unfold txts
  rw[ZT]
  constructor
  ·rintro⟨e,m,q⟩
   obtain⟨u,e2⟩:=Z8g q
   exact⟨e,m,by rw[e2];rfl⟩
  ·rintro⟨e,m,q⟩
   obtain⟨u,e2⟩:=el_txt T.el e m
   refine⟨e,m,?_⟩
   rw[e2,q]
   show Z6x x (.str x u)=true
   simp[Z6x]
 unfold setAddHashed setAddHashedIn
 refine Z1E (Z0 (Z3T (s:={ s with toks:=s.toks+1 }) ho hd T.fits ?_))
 dsimp only
 rw[byScan_of rfl T.few T.el]
 simp only[↓reduceIte]
 unfold setAddByScan
 refine Z0 (Z0 (Z2A (Z0 (wpAny_setScan_of (s:={ s with toks:=s.toks+1 }) hkey ho hd T.fits T.el ?_))))
 cases hr:List.findIdx? (fun e=>(Z22 prog w).is x e.2) es.toList with
 |some j =>
  dsimp only
  obtain⟨hj,hpj,-⟩:=List.findIdx?_eq_some_iff_getElem.mp hr
  have hm:x∈D:=hin.mp ⟨es.toList[j],ZaT hj,hpj⟩
  refine Za (Za ?_)
  refine h s.heap _ (Zeg a s.heap) ⟨es,ep,t,T,?_⟩
  unfold Ze9
  rw[if_pos hm]
  exact P
 |none =>
  dsimp only
  have hm:x∉D:=fun z=>by
   obtain⟨e,m,q⟩:=hin.mpr z
   have:=List.findIdx?_eq_none_iff.mp hr e m
   rw[q] at this
   cases this
  have hp:=layNew_perm t es (hashStr w x) (.str x tk)
  have hf:=layNew_fits t es (hashStr w x) (.str x tk)
  have hl:=Zos t es (hashStr w x) (.str x tk)
  have hgw:∀ (b:Bool) (s₁:Shared) (Q':Unit→Shared→Prop),Q' () s₁→wpAny (model prog w) A (match b with|true=>rule "set.scan.the-table-gave-way" | false=>pure ()) Q' E s₁ :=
   fun b s₁ Q' q=>by
    cases b
    ·exact Za q
    ·exact Z2A q
  generalize hL:layNew t es (hashStr w x) (.str x tk)=L at hp hf hl ⊢
  obtain⟨es1,t1,wd,gave⟩:=L
  dsimp only at hp hf hl ⊢
  rw[Z2b] at hp
  have el1:ElemsOf (Z22 prog w) es1.toList:=(T.el.push hkey rfl).perm hp
  have sz1:es1.size=es.size+1:=by
   have:=hp.length_eq
   simpa using this
  have few1:es1.size<scanBound:=by lia
  have P1:(txts es1).Perm (Ze9 D x):=by
   unfold Ze9 txts
   rw[if_neg hm]
   refine (hp.map _).trans ?_
   rw[Z1e]
   exact P.append_right _
  refine Z0 (hgw _ _ _ ?_)
  have tail:∀ (t2:Z0k),t2.fits es1.size=true→t2.led=t.led→t2.plain=false →
    wpAny (model prog w) A (do
     storeSet a es1 t2
     if (!wd&&t2.tooFull)=true then do
       (match (relayAll t2 es1 (Z3z es1.size)).2.2 with|true=>rule "set.scan.the-table-gave-way" | false=>pure ())
       storeSet a (relayAll t2 es1 (Z3z es1.size)).1 (relayAll t2 es1 (Z3z es1.size)).2.1
       pure (some true)
      else pure (some true)) (fun r s'=>wpAny (model prog w) A (match r with|some added=>pure added|none=>setAddHashedIn a (.str x tk) ((Z22 prog w).hash x) 99999) Q E s') E { s with toks:=s.toks+1 }:=by
   intro t2 f2 l2 p2
   refine Z0 (ZaX (s:={ s with toks:=s.toks+1 }) T' el1 few1 f2 l2 p2 fun h1 sb1 T1=>?_)
   split
   ·have rp:=relayAll_perm t2 es1 (Z3z es1.size)
    have rf:=relayAll_fits t2 es1 (Z3z es1.size)
    have rl:=Zid t2 es1 (Z3z es1.size) p2
    have sz2:(relayAll t2 es1 (Z3z es1.size)).1.size=es1.size:=by
     have:=rp.length_eq
     simpa using this
    refine Z0 (hgw _ _ _ ?_)
    refine Z0 (ZaX (s:={ s with heap:=h1,toks:=s.toks+1 }) T1 (el1.perm rp) (by lia) rf rl.1 rl.2 fun h2 sb2 T2=>?_)
    exact Za (Za (h h2 _ (sb1.trans sb2) ⟨_,_,_,T2,(rp.map _).trans P1⟩))
   ·exact Za (Za (h h1 _ sb1 ⟨_,_,_,T1,P1⟩))
  by_cases hpl:t1.plain=true
  ·rw[if_pos hpl]
   refine Z0 ?_
   rw[hashByValue_scannable 8 rfl]
   refine Za ?_
   have e:plainKind (ZgB x tk)=false:=rfl
   rw[e]
   exact tail { t1 with plain:=false } (Z0k.fits_plain_off hf) hl rfl
  ·rw[if_neg hpl]
   refine Z0 (Za ?_)
   simp only[↓reduceIte]
   exact tail t1 hf hl (by simpa using hpl)
end
end Sg
namespace Sg
open PySem PyProof.Rows
section
variable {prog:Program}{w:World}{A:Around}{R:Result→Shared→Prop}
theorem Zhl {I l S:Addr}{items:Array Value}{ss:List Str}(hh:A.in1.handled=none)(hlI:l≠I)(hSI:S≠I)(hSl:S≠l)(hS:StrsAre items.toList ss)(few:ss.length+1<scanBound) :
  ∀ (k i:Nat) (s:Shared),ss.length-i=k→i≤ss.length→s.heap.IsListIter I l i→s.heap.IsList l items→TSetD prog w s.heap S (metS (ss.take i)) →
   (∀ h' tk,(∀ b o,b≠S→b≠I→s.heap.get? b=some o→h'.get? b=some o)→TSetD prog w h' S (metS ss)→R (.ok (.ret .none)) { s with heap:=h',toks:=tk }) →
   codeAny (model prog w) A (.builtin "set.update.loop" ⟨[.ref S,.ref I],[]⟩) R s:=by
 have W:=Zk2 (prog:=prog) (w:=w) (A:=A.in1) hh I l hlI items
 have hlen:items.size=ss.length:=by
  have:∀ {vs:List Value} {us:List Str},StrsAre vs us→vs.length=us.length:=by
   intro vs us z
   induction z with
   |nil=>rfl
   |cons _ _ _ ih=>rw[Zp,Zp,ih]
  rw[← this hS,ZN]
 intro k
 induction k with
 |zero =>
  intro i s hk hi it hl T hR
  have e:i=ss.length:=by lia
  subst e
  rw[Z35] at T
  refine Z2n Z6n ?_
  rw[Z1w Z39 _]
  show wpAny _ A.in1 (pyNext (.ref I)>>=_) _ _ s
  refine Z0 (W.done s _ _ (by rw[hlen];exact⟨it,hl⟩) fun h' tk kp=>?_)
  show wpAny _ A.in1 (ret Z1U) _ _ _
  refine Za (hR h' tk (fun b o _ hb e=>kp b o (by simp[hb]) e) (T.keep fun o e=>kp S o (by simp[hSI]) e))
 |succ k ih =>
  intro i s hk hi it hl T hR
  have hlt:i<ss.length:=by lia
  refine Z2n Z6n ?_
  rw[Z1w Z39 _]
  show wpAny _ A.in1 (pyNext (.ref I)>>=_) _ _ s
  refine Z0 (W.item i s _ _ (by lia) ⟨it,hl⟩ fun v h1 tk1 hv st1 kp=>?_)
  obtain⟨it1,hl1⟩:=st1
  have hvs:∃ u,v=.str ss[i] u:=by
   have hz:∀ {vs:List Value} {us:List Str},StrsAre vs us→∀ (i:Nat) (v:Value) (hi:i<us.length),vs[i]?=some v→∃ u,v=.str us[i] u:=by
    intro vs us z
    induction z with
    |nil=>intro i v hi;exact absurd hi (by simp)
    |cons x t _ ih =>
     intro i v hi e
     cases i with
     |zero =>
      simp only[gz_,Z0t] at e
      exact⟨t,e.symm⟩
     |succ i =>
      simp only[gs_] at e
      simp only[List.getElem_cons_succ]
      exact ih i v (by simpa using hi) e
   exact hz hS i v hlt (by rw[Z0m];exact hv)
  obtain⟨u,rfl⟩:=hvs
  show wpAny _ A.in1 (holding [ZgB ss[i] u] (setAdd S (.str ss[i] u))>>=_) _ _ _
  have T1:TSetD prog w h1 S (metS (ss.take i)):=T.keep fun o e=>kp S o (by simp[hSI]) e
  refine Z0 (Z1E (ZlV (s:={ s with heap:=h1,toks:=tk1 }) T1 ?_ fun h2 b sb T2=>?_))
  ·have:=metS_len (ss.take i)
   rw[ZA] at this
   lia
  ·have e3:Ze9 (metS (ss.take i)) ss[i]=metS (ss.take (i+1)):=by
    rw[← Zj4]
    congr 1
    rw[ZoZ,Zc hlt]
    rfl
   rw[e3] at T2
   have x2:∀ b o,b≠S→h1.get? b=some o→h2.get? b=some o:=fun b o hb e=>by rw[sb.2 b hb];exact e
   refine Za ⟨Z3b Z39 _,ih (i+1) { s with heap:=h2,toks:=tk1+1 } (by lia) hlt
    (it1.at fun o e=>x2 I o (Z2q hSI) e) (hl1.at fun o e=>x2 l o (Z2q hSl) e) T2 fun h3 tk3 kp3 T3=>?_⟩
   exact hR h3 tk3 (fun b o hb hb2 e=>kp3 b o hb hb2 (x2 b o hb (kp b o (by simp[hb2]) e))) T3
end
section
variable {prog:Program}{w:World}{A:Around}{E:Value→Shared→Prop}{s:Shared}
theorem Zoi {a:Value}{Q₁:Value→Shared→Prop}
  (h:Q₁ (.ref s.heap.objs.size) { s with heap:=s.heap.push { cls:=.type "set",dict:=none,data:=.set #[] 0 (.fresh 0 0 (!(w.params.followText "set-order"))) } }) :
  codeAny (model prog w) A (.call (.builtin "set.__new__") ⟨[.type "set",a],[]⟩) (wants Q₁ E) s:=by
 refine Zsr ?_
 show wpAny _ A.in1 (do checkBuiltinCall "set.__new__" ⟨[.type "set",a],[]⟩;again (.builtin "set.__new__" ⟨[.type "set",a],[]⟩)) _ _ s
 refine Z0 (ZaA (F.newCall_set_1 a) (Za ⟨Z3b Zrc _,Z2n F.entry_set_new ?_⟩))
 rw[Z1w Zrc _]
 unfold Builtin.«set.__new__» Builtin.Frozenset.newClass
 have hsub':=sub_set_self
 obtain⟨hp,g,d,tk,os⟩:=s
 dsimp only
 wp_walk
 refine Z49 (Za ?_)
 dsimp only
 simp only[newObj]
 exact Z0 (wpAny_alloc (Za (Za h)))
noncomputable abbrev Z7B (w:World):Obj:={ cls:=.type "set",dict:=none,data:=.set #[] 0 (.fresh 0 0 (!(w.params.followText "set-order"))) }
set_option maxHeartbeats 8000000 in
theorem call_set_texts {l:Addr}{items:Array Value}{ss:List Str}{Q:Value→Shared→Prop}(hh:A.handled=none)(hl:s.heap.IsList l items)(hS:StrsAre items.toList ss)(few:ss.length+1<scanBound)
  (h:∀ (h':Heap) (tk:Nat),TSetD prog w h' s.heap.objs.size (metS ss)→(∀ b o,s.heap.get? b=some o→h'.get? b=some o)→Q (.ref s.heap.objs.size) { s with heap:=h',toks:=tk }) :
  wpAny (model prog w) A (call (.type "set") [.ref l]) Q E s:=by
 obtain⟨c,tl,hmro⟩:=Z4r.mro
 have made:=Z4r.made
 have subs:=Z4r.sub
 refine ZqS (Zsr ?_)
 show wpAny _ _ (callAny (.type "set") _) _ _ _
 refine Za ⟨Code.quiet_builtin _ (by decide +kernel),Z2n F.entry_type_call ?_⟩
 rw[Around.under_plain (weight_type_call_type "set" [.ref l] []) rfl]
 have noType:=Z4r.notType
 have creates:=Z4r.canCreate
 have tcall:=F.typeCall_set_1 (.ref l)
 repeat (any_goals (first|assumption|wp_step))
 refine Z95 (Zoi (a:=.ref l) (E:=E) (Q₁:=fun obj s₁=>obj=.ref s.heap.objs.size∧s₁={ s with heap:=s.heap.push (Z7B w) }) ⟨rfl,rfl⟩) fun r s₁ hr=>?_
 cases r with
 |error e=>exact hr
 |ok fl =>
  cases fl with
  |ret obj =>
   obtain⟨rfl,rfl⟩:=hr
   have oS:(s.heap.push (Z7B w)).get? s.heap.objs.size=some (Z7B w):=Zm _ rfl
   have tS:ZoL { s with heap:=s.heap.push (Z7B w) } (.ref s.heap.objs.size) "set":=⟨_,oS,rfl⟩
   have look:=Z4r.init.lookup
   have bnd:=Z4r.init.bind (.ref s.heap.objs.size)
   repeat (any_goals (first|assumption|wp_step))
   refine Z95 (ZoF (R:=wants (fun r s₂=>r=.none∧∃ h' tk,s₂={ s with heap:=h',toks:=tk }∧TSetD prog w h' s.heap.objs.size (metS ss) ∧
     ∀ b o,s.heap.get? b=some o→h'.get? b=some o) E) Z4r.init.plain F.entry_set_init (check_set_init_1 tS ?_)) fun r₂ s₂ hr₂=>?_
   ·obtain⟨ol,hol,cl,nl,dl⟩:=hl
    obtain⟨ocls,odict,odata,oslots⟩:=ol
    simp only at cl dl
    subst cl;subst dl
    have hol':(s.heap.push (Z7B w)).get? l=some { cls:=.type "list",dict:=odict,data:=.seq items nl,slots:=oslots }:=Z1 _ hol
    have no1:=F.sub_list_set
    have no2:=F.sub_list_frozenset
    have no3:(Z12 "list" == Z12 "dict")=false:=by decide
    have hl1:(s.heap.push (Z7B w)).IsList l items:=⟨_,hol',rfl,nl,rfl⟩
    unfold Builtin.«set.__init__» noKeywords Builtin.Frozenset.updateFrom
    generalize hPI:pyIter=PI
    wp_walk
    subst hPI
    refine Zco hl1 ?_
    refine Z0 (Zsz ?_)
    have ls:l<s.heap.objs.size:=Zw hol
    have zs:(s.heap.push (Z7B w)).objs.size=s.heap.objs.size+1:=Z1P ..
    refine Zhl (by simp[hh]) (by rw[zs];exact ZW (Z2e ls)) (by rw[zs];exact ZW (Z3Z _)) (Z2V ls) hS few (ss.length-0) 0 _ rfl (Z0r _)
     ⟨_,Zm _ rfl,rfl,rfl⟩ (hl1.push _) ?t0 ?fin
    case t0 =>
     refine⟨#[],0,_,⟨⟨_,Z1 _ oS,⟨rfl,rfl,rfl⟩,rfl⟩,fun e m=>absurd m (by simp),by decide,rfl,rfl,.inl rfl⟩,?_⟩
     exact Z4q _
    case fin =>
     intro h' tk kp T
     show wpAny _ _ _ _ _ _
     refine Za ?_
     show wpAny _ _ (ret Z1U) _ _ _
     refine Za ⟨rfl,h',tk,rfl,T,fun b o e=>?_⟩
     have hb:b<s.heap.objs.size:=Zw e
     exact kp b o (ZW hb) (by rw[zs];exact ZW (Z2e hb)) (Z1 _ (Z1 _ e))
   ·cases r₂ with
    |error e=>exact hr₂
    |ok fl₂ =>
     cases fl₂ with
     |ret r =>
      obtain⟨rfl,h',tk,rfl,T,kp⟩:=hr₂
      repeat (any_goals (first|assumption|wp_step))
      exact h _ _ T kp
     |_=>exact hr₂.elim
  |_=>exact hr.elim
end
end Sg
namespace Sg
open PySem PyProof.Rows
theorem ZaO:entryFor table "set.__iter__"=some Builtin.«frozenset.__iter__» :=
 ZsZ (id':="frozenset.__iter__") (by kernel_rfl) (by first|rfl|decide +kernel) (by decide +kernel) (by kernel_rfl)
theorem Z24:Slot "set_iterator" "__next__" "set_iterator.__next__":=.of (owner:="set_iterator") (n:="__next__") (by rw[Z6f,Z3N];kernel_rfl) (by decide +kernel) (by decide +kernel) (by decide +kernel) (by first|exact .inl (by decide +kernel)|exact .inr (by decide +kernel)) (by rw[Za3];kernel_rfl)
theorem Z6k:entryFor table "set_iterator.__next__"=some Builtin.«set_iterator.__next__»:=entryFor_of_tree (by kernel_rfl)
theorem Z6O (a:Value):argsOk "set_iterator.__next__" ⟨[a],[]⟩:=by unfold argsOk;kernel_rfl
theorem Znf:typeLookup (.type "set") "__len__"=pure (some (.builtin "set.__len__")):=by rw[Z6f,Z3N];kernel_rfl
theorem Z9U {α:Type}:∀ (l:List α) (i:Nat) (h:i<l.length),(l[i]::l.eraseIdx i).Perm l
 |[],i,h=>absurd h (by simp)
 |x::l,0,h=>Z4q _
 |x::l,i+1,h=>by
  have h':i<l.length:=by simpa using h
  show (l[i]::x::l.eraseIdx i).Perm (x::l)
  exact (Z0S.swap x l[i] _).trans ((Z9U l i h').cons x)
section
variable {prog:Program}{w:World}{A:Around}{E:Value→Shared→Prop}{s:Shared}
theorem Zcz {M:Model}{src:Source}{n:Nat}{Q:Nat→Shared→Prop}(hn:n≠0)(h:∀ i,i<n→Q i { s with drawn:=s.drawn.bump src }):wpAny M A (choose src n) Q E s:=by
 intro Γ p hΓ
 show Sem.wp M Γ (.choose src n .pure) _ _ _ _
 rw[Sem.wp_choose]
 refine⟨hn,?_⟩
 exact h _ (Zt1 _ (Z4t hn))
theorem Z6A {M:Model}{α:Type}:∀ (n:Nat) (xs:List α) (s:Shared) (Q:List α→Shared→Prop),n=xs.length→(∀ ys d,ys.Perm xs→Q ys { s with drawn:=d })→wpAny M A (drawOrder n xs) Q E s
 |0,xs,s,Q,e,h=>by
  have:xs=[]:=Z36 e.symm
  subst this
  exact Za (h [] s.drawn (Z4q _))
 |n+1,[],s,Q,e,h=>by cases e
 |n+1,x::xs,s,Q,e,h=>by
  show wpAny M A (choose .order (x::xs).length>>=_) Q E s
  refine Z0 (Zcz (by simp) fun i hi=>?_)
  rw[Zc hi]
  dsimp only
  refine Z0 (Z6A n ((x::xs).eraseIdx i) _ _ ?_ fun ys d hp=>Za ?_)
  ·rw[Zcr hi]
   simp only[Zp] at e ⊢
   lia
  ·have hq:((x::xs)[i]::ys).Perm (x::xs):=(ZjT _ hp).trans (Z9U _ i hi)
   exact h _ d hq
theorem Zip {α:Type}(next:Nat→Nat):∀ (f k:Nat) (left:List α) (out:Array α),f=left.length→(pickOrder.go next f k left out).toList.Perm (out.toList++left)
 |0,k,left,out,e=>by
  have:left=[]:=Z36 e.symm
  subst this
  simp[pickOrder.go]
 |f+1,k,left,out,e=>by
  unfold pickOrder.go
  have hlt:next k%left.length<left.length:=Zt1 _ (by lia)
  rw[Zc hlt]
  dsimp only
  refine (Zip next f (k+1) _ _ (by rw[Zcr hlt];lia)).trans ?_
  rw[Z2b,Z7]
  refine Z0u _ ?_
  exact Z9U _ _ hlt
theorem Z9T {α:Type}(next:Nat→Nat)(xs:Array α):(pickOrder next xs).toList.Perm xs.toList:=by
 have:=Zip next xs.size 0 xs.toList #[] (by simp)
 simpa [pickOrder] using this
end
end Sg
namespace Sg
open PySem PyProof.Rows
noncomputable def Z1V (h:Heap)(it:Addr)(first:Value)(i n ep:Nat)(a:Addr):Prop :=
 ∃ o,h.get? it=some o∧o.cls=.type "set_iterator"∧o.data=.fields #[first,.int i 0,.ref a,.int n 0,.int ep 0]
section
variable {prog:Program}{w:World}{A:Around}{E:Value→Shared→Prop}{s:Shared}{it a:Addr}{first:Value}{i n ep:Nat}{es:Array (Int×Value)}{t:Z0k}
theorem Z1V.ty (h:Z1V s.heap it first i n ep a):s.TypeIs (.ref it) "set_iterator":=let ⟨o,h1,h2,_⟩:=h;⟨o,h1,h2⟩
theorem Z1V.keep {h h':Heap}(x:Z1V h it first i n ep a)(k:∀ o,h.get? it=some o→h'.get? it=some o):Z1V h' it first i n ep a:=let ⟨o,h1,r⟩:=x;⟨o,k o h1,r⟩
theorem Z1V.field {h:Heap} (x:Z1V h it first i n ep a) (f:Array Value→Array Value):∃ o,(h.update it (Obj.mapFields f)).get? it=some o∧o.cls=.type "set_iterator"∧o.data=.fields (f #[first,.int i 0,.ref a,.int n 0,.int ep 0]):=by
 obtain⟨o,ho,hc,hd⟩:=x
 exact⟨_,Z1q _ ho (Z7L (Z3m hd _)),(ZaF ..).trans hc,by rw[Z3m hd]⟩
theorem ZfK {Q:Option Value→Shared→Prop}{s':Shared}(hh:A.handled=none)(hs:Z8G it s.heap s'.heap)(hrest:s'={ s with heap:=s'.heap })
  (hQ:∀ h',Z8G it s.heap h'→Q none { s with heap:=h' }) {P:Fin→Shared→Prop} :
  wpAny (model prog w) A.in1 (do raiseNew (α:=Fin) (← newExc (.type "StopIteration") [])) P (fun e s₂=>wpAny (model prog w) A (do if ← isInstance e (.type "StopIteration") then pure none else throw e) Q E s₂) s':=by
 refine Z0 ?_
 simp only[newExc,newTuple]
 refine Z0 (Z0J ?_ (by size_fits))
 refine Z0 (m:=firstArgMember _ _) (ZaA (a:=Z1U) (by first|rfl|(simp only[firstArgMember];rfl)) ?_)
 refine Z0J ?_ (by size_fits)
 simp only[raiseNew]
 refine Z0 (Zt6 ?_)
 rw[show A.in1.handled=none from hh]
 refine Z0 (Za (wpAny_throw ?_))
 refine Z0 (Z7Q (T:="StopIteration") (b:=true) ⟨_,Zm _ rfl,rfl⟩ ZsU ?_)
 rw[hrest]
 exact Za (hQ _ ((hs.push _).push _))
theorem Z9u {slot:Nat}{r:Option (Value×Nat)}{Q:Option Value→Shared→Prop}(hh:A.handled=none)(hit:Z1V s.heap it (.int slot 0) i n ep a)(T:Zcn prog w s.heap a es ep t)(hn:es.size=n)
  (hN:∀ (A':Around) (E':Value→Shared→Prop) (Q':Option (Value×Nat)→Shared→Prop),Q' r s→wpAny (model prog w) A' (setNext a slot i ep) Q' E' s)
  (hS:∀ x nxt,r=some (x,nxt)→∀ h',Z1V h' it (.int nxt 0) (i+1) n ep a→Z0K it s.heap h'→Q (some x) { s with heap:=h' })
  (hE:r=none→∀ h',Z8G it s.heap h'→Q none { s with heap:=h' }):wpAny (model prog w) A (pyNext (.ref it)) Q E s:=by
 obtain⟨o,ho,hc,hd⟩:=id hit
 obtain⟨oS,hoS,hex,hdS⟩:=T.obj
 unfold pyNext
 refine Z0 (Z7I (Z1F (name:=ZV "__next__") hit.ty Z24 (Z1r Z24 hit.ty Z6k ?_ (Z6O _))))
 refine Z0 (Za ?_)
 refine Z0 (ZsA ho hd ?_)
 show wpAny _ _ (setEntries a>>=_) _ _ s
 refine Z0 (Zaz hoS hdS T.fits ?_)
 rw[if_neg (by rw[hn];simp)]
 show wpAny _ _ (setNext a ((slot:Int).toNat) ((i:Int).toNat) ((ep:Int).toNat)>>=_) _ _ s
 refine Z0 (hN _ _ _ ?_)
 cases r with
 |none =>
  show wpAny _ _ (setField (.ref it) 2 .none>>=_) _ _ s
  refine Z0 (Z3p ho hd (by simp) ?_)
  exact ZfK (s:=s) hh (Z19 ..).extBut rfl (hE rfl)
 |some p =>
  obtain⟨x,nxt⟩:=p
  show wpAny _ _ (setField (.ref it) 0 (rawInt nxt)>>=_) _ _ s
  refine Z0 (Z3p ho hd (by simp) ?_)
  obtain⟨o1,ho1,hc1,hd1⟩:=hit.field (fun vs=>vs.setIfInBounds 0 (rawInt nxt))
  refine Z0 (Z3p ho1 hd1 (by simp) ?_)
  refine Za ⟨_,rfl,Za (hS x nxt rfl _ ?_ ((Z19 ..).trans (Z19 ..)))⟩
  exact⟨_,Z1q _ ho1 (Z7L (Z3m hd1 _)),(ZaF ..).trans hc1,by rw[Z3m hd1];simp[rawInt]⟩
theorem Zbd {P:Addr}{pl:List Nat}{Q:Option Value→Shared→Prop}(hh:A.handled=none)(hit:Z1V s.heap it (.ref P) i n ep a)(T:Zcn prog w s.heap a es ep t)(hn:es.size=n)
  {oP:Obj} {nP:Nat} (hP:s.heap.get? P=some oP) (dP:oP.data=.seq (pl.map fun (k:Nat)=>Z99 (k:Int) 0).toArray nP)
  (hS:∀ k e,pl[i]?=some k→es[k]?=some e→∀ h',Z1V h' it (.ref P) (i+1) n ep a→Z0K it s.heap h'→Q (some e.2) { s with heap:=h' })
  (hin:∀ k∈pl,k<es.size)
  (hE:pl[i]?=none→∀ h',Z8G it s.heap h'→Q none { s with heap:=h' }):wpAny (model prog w) A (pyNext (.ref it)) Q E s:=by
 obtain⟨o,ho,hc,hd⟩:=id hit
 obtain⟨oS,hoS,hex,hdS⟩:=T.obj
 unfold pyNext
 refine Z0 (Z7I (Z1F (name:=ZV "__next__") hit.ty Z24 (Z1r Z24 hit.ty Z6k ?_ (Z6O _))))
 refine Z0 (Za ?_)
 refine Z0 (ZsA ho hd ?_)
 show wpAny _ _ (setEntries a>>=_) _ _ s
 refine Z0 (Zaz hoS hdS T.fits ?_)
 rw[if_neg (by rw[hn];simp)]
 show wpAny _ _ (seqItems? (.ref P)>>=_) _ _ s
 refine Z0 (Z1W hP dP ?_)
 dsimp only
 have eg:(pl.map fun (k:Nat)=>Z99 (k:Int) 0).toArray[(i:Int).toNat]?=(pl[i]?).map fun (k:Nat)=>Z99 (k:Int) 0:=by simp
 rw[eg]
 cases hp:pl[i]? with
 |none =>
  show wpAny _ _ (setField (.ref it) 0 (rawInt 0)>>=_) _ _ s
  refine Z0 (Z3p ho hd (by simp) ?_)
  obtain⟨o1,ho1,hc1,hd1⟩:=hit.field (fun vs=>vs.setIfInBounds 0 (rawInt 0))
  refine Z0 (Z3p ho1 hd1 (by simp) ?_)
  exact ZfK (s:=s) hh ((Z19 ..).trans (Z19 ..)).extBut rfl (hE hp)
 |some k =>
  have hk:k<es.size:=hin k (Z01 hp)
  show wpAny _ _ (setNextDrawn a ((k:Int).toNat) ((ep:Int).toNat)>>=_) _ _ s
  unfold setNextDrawn
  refine Z0 (Z0 (Z3T hoS hdS T.fits ?_))
  dsimp only
  rw[if_neg (by simp)]
  have ek:es[(k:Int).toNat]?=some es[k]:=by simp[hk]
  rw[ek]
  refine Za ?_
  refine Z0 (Z3p ho hd (by simp) ?_)
  refine Za ⟨_,rfl,Za (hS k es[k] hp (by simp[hk]) _ ?_ (Z19 ..))⟩
  obtain⟨o1,ho1,hc1,hd1⟩:=hit.field (fun vs=>vs.setIfInBounds 1 (rawInt ((i:Int)+1)))
  exact⟨o1,ho1,hc1,by rw[hd1];simp[rawInt]⟩
end
end Sg
namespace Sg
open PySem PyProof.Rows
theorem Z6B:Slot "set_iterator" "__iter__" "set_iterator.__iter__":=.of (owner:="set_iterator") (n:="__iter__") (by rw[Z6f,Z3N];kernel_rfl) (by decide +kernel) (by decide +kernel) (by decide +kernel) (by first|exact .inl (by decide +kernel)|exact .inr (by decide +kernel)) (by rw[Za3];kernel_rfl)
theorem Z9j:entryFor table "set_iterator.__iter__"=some Builtin.«dict_keyiterator.__iter__» :=
 ZsZ (id':="dict_keyiterator.__iter__") (by kernel_rfl) (by first|rfl|decide +kernel) (by decide +kernel) (by kernel_rfl)
theorem Zar (a:Value):argsOk "set_iterator.__iter__" ⟨[a],[]⟩:=by unfold argsOk;kernel_rfl
section
variable {prog:Program}{w:World}{A:Around}{E:Value→Shared→Prop}{s:Shared}{it a:Addr}{first:Value}{i n ep:Nat}{es:Array (Int×Value)}{t:Z0k}
theorem Za2 {Q:Value→Shared→Prop}(hit:Z1V s.heap it first i n ep a)(h:Q (.ref it) s):wpAny (model prog w) A (pyIter (.ref it)) Q E s:=by
 refine ZqQ hit.ty Z6B (Z1r Z6B hit.ty Z9j ?_ (Zar _))
 show wpAny _ _ (ret (.ref it)) _ _ s
 exact Za ⟨_,rfl,"set_iterator",_,hit.ty,Z24.lookup,h⟩
theorem Z8O {slot given:Nat} {Q:Option (Value×Nat)→Shared→Prop} (hb:w.params.followText "set-order"=true) (T:Zcn prog w s.heap a es ep t)
  (h:Q (((pickOrder (w.params.setOrder a ep) es)[given]?).map fun e=>(e.2,slot)) s):wpAny (model prog w) A (setNext a slot given ep) Q E s:=by
 obtain⟨o,ho,hex,hd⟩:=T.obj
 unfold setNext
 refine Z0 (Z3T ho hd T.fits ?_)
 dsimp only
 refine Z0 ?_
 unfold setsByText
 refine Z0 (Z49 (Za ?_))
 have hb':(⟨(model prog w).prog,(model prog w).w.params⟩:Setting).params.followText "set-order"=true:=hb
 rw[hb',if_pos rfl,if_neg (by simp)]
 refine Z0 ?_
 unfold setWalk
 refine Z0 (Z3T ho hd T.fits ?_)
 dsimp only
 refine Z0 ?_
 unfold setsByText
 refine Z0 (Z49 (Za ?_))
 rw[hb',if_pos rfl]
 refine Z0 (Z49 (Za ?_))
 exact Za h
theorem Z9J {slot given:Nat} {Q:Option (Value×Nat)→Shared→Prop} (hb:w.params.followText "set-order"=false) (T:Zcn prog w s.heap a es ep t) (h1:es.size≤1)
  (h:Q (match es[Z21 t.place slot]?,t.place[Z21 t.place slot]? with|some (_,x),some j=>some (x,j+1)|_,_=>none) s):wpAny (model prog w) A (setNext a slot given ep) Q E s:=by
 obtain⟨o,ho,hex,hd⟩:=T.obj
 unfold setNext
 refine Z0 (Z3T ho hd T.fits ?_)
 dsimp only
 refine Z0 ?_
 unfold setsByText
 refine Z0 (Z49 (Za ?_))
 have hb':(⟨(model prog w).prog,(model prog w).w.params⟩:Setting).params.followText "set-order"=false:=hb
 have hl:t.led=true:=by rw[T.led,hb];rfl
 rw[hb',if_neg (by simp)]
 have hdr:(!t.plain&&decide (es.size > 1))=false:=by
  have:¬ es.size > 1:=by lia
  simp[this]
 show wpAny _ _ (if (!t.plain&&decide (es.size > 1))=true then _ else _) _ _ _
 rw[hdr,if_neg (by simp)]
 show wpAny _ _ ((if (!t.led&&!es.isEmpty)=true then unsupported "set:maker-not-led" else pure ())>>=_) _ _ _
 rw[hl,if_neg (by simp)]
 refine Z0 (Za ?_)
 exact Za h
theorem Z96 (j:Nat):Z21 #[j] 0=0:=by
 simp[Z21,Zcf]
theorem ZdZ (j:Nat):Z21 #[j] (j+1)=1:=by
 simp[Z21,Zcf]
theorem ZhS (hh:A.handled=none) (hb:w.params.followText "set-order"=true) (I a:Addr) (hne:a≠I) (es:Array (Int×Value)) (ep:Nat) (t:Z0k) :
  Walks prog w A I [I,a] [I] es.size (fun i v=>((pickOrder (w.params.setOrder a ep) es).toList.map (·.2))[i]?=some v) (fun i h=>Z1V h I (.int (0:Nat) 0) i es.size ep a∧Zcn prog w h a es ep t) where
 sub:=fun b hb=>by simp at hb;simp[hb]
 frame:=fun _ _ _ st hk=>⟨st.1.keep fun o e=>hk I (by simp) o e,st.2.keep fun o e=>hk a (by simp) o e⟩
 item:=fun i s Q E hi st hQ=>by
  have hlen:(pickOrder (w.params.setOrder a ep) es).size=es.size:=by
   have:=(Z9T (w.params.setOrder a ep) es).length_eq
   simpa using this
  refine Z9u hh st.1 st.2 rfl (fun A' E' Q' q=>Z8O hb st.2 q) (fun x nxt e h' hit sb=>?_) fun e=>?_
  ·rw[Z0b (by lia)] at e
   simp only[Z2,Z0t,Z43] at e
   obtain⟨e1,e2⟩:=e
   subst e2
   refine hQ x h' s.toks ?_ ⟨hit,st.2.keep fun o e=>sb.extBut a o hne e⟩ fun b o hb e=>sb.extBut b o (fun z=>hb (by simp[z])) e
   rw[Z0q,Z0m,Z0b (by lia)]
   simp[e1]
  ·rw[Z0b (by lia)] at e
   cases e
 done:=fun s Q E st hQ=>by
  have hlen:(pickOrder (w.params.setOrder a ep) es).size=es.size:=by
   have:=(Z9T (w.params.setOrder a ep) es).length_eq
   simpa using this
  refine Z9u hh st.1 st.2 rfl (fun A' E' Q' q=>Z8O hb st.2 q) (fun x nxt e h' hit sb=>?_) fun e h' he=>?_
  ·rw[Z7d (by lia)] at e
   cases e
  ·exact hQ h' s.toks fun b o hb e=>he b o (fun z=>hb (by simp[z])) e
 self:=fun _ _ _ _ st hQ=>Za2 st.1 hQ
theorem Zkk (hh:A.handled=none) (hb:w.params.followText "set-order"=false) (I a:Addr) (hne:a≠I) (es:Array (Int×Value)) (h1:es.size≤1) (ep:Nat) (t:Z0k) :
  Walks prog w A I [I,a] [I] es.size (fun i v=>(es.toList.map (·.2))[i]?=some v)
   (fun i h=>(∃ slot,Z1V h I (.int (slot:Nat) 0) i es.size ep a∧((i=0∧slot=0)∨(i=1∧slot=t.place.getD 0 0+1)))∧Zcn prog w h a es ep t) where
 sub:=fun b hb=>by simp at hb;simp[hb]
 frame:=fun _ _ _ st hk=>⟨let ⟨sl,x,y⟩:=st.1;⟨sl,x.keep fun o e=>hk I (by simp) o e,y⟩,st.2.keep fun o e=>hk a (by simp) o e⟩
 item:=fun i s Q E hi st hQ=>by
  obtain⟨⟨slot,it,hsl⟩,T⟩:=st
  have hi0:i=0:=by lia
  subst hi0
  have hs0:slot=0:=by lia
  subst hs0
  have hz:es.size=1:=by exact Z5z (by assumption) (by assumption)
  have hpl:t.place.size=1:=by
   have:=T.fits
   simp only[ZlY,Z0a,beq_iff_eq] at this
   lia
  obtain⟨j,hj⟩:∃ j,t.place=#[j]:=⟨t.place[0],by
   apply Zn2
   ·simp[hpl]
   ·intro i h1 h2
    have:i=0:=by simp at h2;exact h2
    subst this
    rfl⟩
  refine Z9u hh it T rfl (fun A' E' Q' q=>Z9J hb T h1 q) (fun x nxt e h' hit sb=>?_) fun e=>?_
  ·rw[hj,Z96,Z0b (by omega)] at e
   simp only[Zl,Zp,Z5u,Z0p,Nat.lt_add_one,Z0b,List.getElem_toArray,List.getElem_cons_zero,Z0t,Z43] at e
   refine hQ x h' s.toks ?_ ⟨⟨nxt,hit,.inr ⟨rfl,?_⟩⟩,T.keep fun o e=>sb.extBut a o hne e⟩ fun b o hb e=>sb.extBut b o (fun z=>hb (by simp[z])) e
   ·rw[Z0q,Z0m,Z0b (by lia)]
    simp[e.1]
   ·rw[hj]
    simp[← e.2]
  ·rw[hj,Z96,Z0b (by lia)] at e
   simp at e
 done:=fun s Q E st hQ=>by
  obtain⟨⟨slot,it,hsl⟩,T⟩:=st
  have hpl:t.place.size=es.size:=by
   have:=T.fits
   simp only[ZlY,Z0a,beq_iff_eq] at this
   lia
  refine Z9u hh it T rfl (fun A' E' Q' q=>Z9J hb T h1 q) (fun x nxt e h' hit sb=>?_) fun e h' he=>?_
  ·exfalso
   rcases hsl with ⟨z1,z2⟩|⟨z1,z2⟩
   ·have h0:es[Z21 t.place slot]?=none:=Z7d (by lia)
    rw[h0] at e
    cases e
   ·obtain⟨j,hj⟩:∃ j,t.place=#[j]:=⟨t.place[0],by
     apply Zn2
     ·simp[hpl,z1]
     ·intro i h1 h2
      have:i=0:=by simp at h2;exact h2
      subst this
      rfl⟩
    rw[hj] at z2 e
    simp only[Array.getD_eq_getD_getElem?,Zhy,gz_,Zk6] at z2
    subst z2
    have h0:es[Z21 #[j] (j+1)]?=none:=by
     rw[ZdZ]
     exact Z7d (by omega)
    rw[h0] at e
    cases e
  ·exact hQ h' s.toks fun b o hb e=>he b o (fun z=>hb (by simp[z])) e
 self:=fun _ _ _ _ st hQ=>let ⟨⟨sl,x,_⟩,_⟩:=st;Za2 x hQ
theorem ZgI (hh:A.handled=none)(I a P:Addr)(hne:a≠I)(hnP:P≠I)(es:Array (Int×Value))(ep:Nat)(t:Z0k)(pl:List Nat)(hpl:pl.Perm (Z0L es.size))(oP:Obj)(nP:Nat)
  (dP:oP.data=.seq (pl.map fun (k:Nat)=>Z99 (k:Int) 0).toArray nP) :
  Walks prog w A I [I,a,P] [I] es.size (fun i v=>(pl.filterMap fun k=>(es[k]?).map (·.2))[i]?=some v) (fun i h=>Z1V h I (.ref P) i es.size ep a∧Zcn prog w h a es ep t∧h.get? P=some oP) where
 sub:=fun b hb=>by simp at hb;simp[hb]
 frame:=fun _ _ _ st hk=>⟨st.1.keep fun o e=>hk I (by simp) o e,st.2.1.keep fun o e=>hk a (by simp) o e,hk P (by simp) _ st.2.2⟩
 item:=fun i s Q E hi st hQ=>by
  have hin:∀ k∈pl,k<es.size:=fun k m=>Z37.mp (hpl.mem_iff.mp m)
  have hlen:pl.length=es.size:=by rw[hpl.length_eq,Z2c]
  refine Zbd hh st.1 st.2.1 rfl st.2.2 dP (fun k e hk he h' hit sb=>?_) hin fun e=>?_
  ·refine hQ e.2 h' s.toks ?_ ⟨hit,st.2.1.keep fun o e=>sb.extBut a o hne e,sb.extBut P _ hnP st.2.2⟩ fun b o hb e=>sb.extBut b o (fun z=>hb (by simp[z])) e
   have hfm:(pl.filterMap fun k=>(es[k]?).map (·.2))=pl.map fun k=>((es[k]?).map (·.2)).getD Z1U:=by
    have go:∀ l:List Nat,(∀ k∈l,k<es.size)→(l.filterMap fun k=>(es[k]?).map (·.2))=l.map fun k=>((es[k]?).map (·.2)).getD Z1U:=by
     intro l
     induction l with
     |nil=>intro _;rfl
     |cons k l ih =>
      intro hl
      rw[Z2Z,ZJ,Z0b (hl k Z4)]
      simp only[Z2,Zk6]
      rw[ih fun k m=>hl k (Z9 _ m)]
    exact go pl hin
   rw[hfm,Z0q,hk]
   simp[he]
  ·rw[Zc (by lia)] at e
   cases e
 done:=fun s Q E st hQ=>by
  have hin:∀ k∈pl,k<es.size:=fun k m=>Z37.mp (hpl.mem_iff.mp m)
  have hlen:pl.length=es.size:=by rw[hpl.length_eq,Z2c]
  refine Zbd hh st.1 st.2.1 rfl st.2.2 dP (fun k e hk he h' hit sb=>?_) hin fun e h' he=>?_
  ·rw[Z3r (by lia)] at hk
   cases hk
  ·exact hQ h' s.toks fun b o hb e=>he b o (fun z=>hb (by simp[z])) e
 self:=fun _ _ _ _ st hQ=>Za2 st.1 hQ
end
end Sg
namespace Sg
open PySem PyProof.Rows
section
variable {prog:Program}{w:World}{A:Around}{E:Value→Shared→Prop}{s:Shared}{it a:Addr}{first:Value}{i n ep:Nat}{es:Array (Int×Value)}{t:Z0k}
theorem Zcn.ty (T:Zcn prog w s.heap a es ep t):s.TypeIs (.ref a) "set":=let ⟨o,h1,h2,_⟩:=T.obj;⟨o,h1,h2.1⟩
theorem Zff (es:Array (Int×Value)){pl:List Nat}(h:pl.Perm (Z0L es.size)):(pl.filterMap fun k=>(es[k]?).map (·.2)).Perm (es.toList.map (·.2)):=by
 refine (h.filterMap _).trans (Z0S.of_eq ?_)
 apply Z4H
 intro i
 have go:∀ n,n≤es.size→((Z0L n).filterMap fun k=>(es[k]?).map (·.2))=(es.toList.take n).map (·.2):=by
  intro n
  induction n with
  |zero=>intro _;rfl
  |succ n ih =>
   intro hn
   rw[List.range_succ,List.filterMap_append,ih (by exact Z3v (by assumption)),ZoZ,Z1e]
   congr 1
   rw[Z0m,Z0b (by assumption)]
   simp[Z0b (show n<es.size by lia)]
 rw[go es.size (Zg _),Z0s (by simp)]
theorem Zf2 {Q:Value→Shared→Prop}(T:Zcn prog w s.heap a es ep t)
  (h:∀ (s':Shared) (I:Addr) (fp:List Addr) (ord:List Value) (St:Nat→Heap→Prop),Ext s.heap s'.heap→s'.gens=s.gens→s'.os=s.os→s'.toks=s.toks→s.heap.objs.size≤I →
   (∀ b∈fp,b=a∨s.heap.objs.size≤b)→(∀ A':Around,A'.handled=none→Walks prog w A' I fp [I] es.size (fun i v=>ord[i]?=some v) St)→St 0 s'.heap→ord.Perm (es.toList.map (·.2))→Q (.ref I) s') :
  wpAny (model prog w) A (pyIter (.ref a)) Q E s:=by
 obtain⟨o,ho,hex,hd⟩:=T.obj
 have ha:a<s.heap.objs.size:=Zw ho
 refine ZqQ T.ty Zrb (Z1r Zrb T.ty ZaO ?_ (F.args_set_iter_1 _))
 unfold Builtin.«frozenset.__iter__»
 refine Z0 (m:=Builtin.Frozenset.slot0 "__iter__" _) (ZaA (a:=a) rfl ?_)
 refine Z0 ?_
 unfold Builtin.Frozenset.sizeOf
 refine Z0 (Zaz ho hd T.fits (Za ?_))
 refine Z0 ?_
 unfold setDrawn
 refine Z0 (Z3T ho hd T.fits ?_)
 dsimp only
 refine Z0 ?_
 unfold setsByText
 refine Z0 (Z49 (Za (Za ?_)))
 show wpAny _ _ (if (!(w.params.followText "set-order")&&(!t.plain&&decide (es.size > 1)))=true then _ else _) _ _ _
 by_cases hq:(!(w.params.followText "set-order")&&(!t.plain&&decide (es.size > 1)))=true
 ·rw[if_pos hq]
  refine Z0 (Z6A es.size (Z0L es.size) _ _ (by simp) fun pl d hpl=>?_)
  have hz:pl.length≤sizeLine:=by
   rw[hpl.length_eq,Z2c]
   exact Z7n T.few
  refine Z0 (Z9G ?_ (by simpa using hz))
  refine Z0 (ZqO (Z1 _ ho) hd T.fits ?_)
  refine Z0 (Z0J (Za ⟨_,rfl,"set_iterator",_,⟨_,Zm _ rfl,rfl⟩,Z24.lookup,?_⟩))
  have zs:(s.heap.push { cls:=.type "tuple",data:=.seq (Z2X (fun (i:Nat)=>rawInt i) pl).toArray }).objs.size=s.heap.objs.size+1:=Z1P ..
  refine h _ _ [_,a,s.heap.objs.size] (pl.filterMap fun k=>(es[k]?).map (·.2)) _ (fun b o e=>Z1 _ (Z1 _ e)) rfl rfl rfl ?_ ?_
   (fun A' hA=>ZgI (prog:=prog) (w:=w) hA _ a s.heap.objs.size ?_ ?_ es ep t pl hpl { cls:=.type "tuple",data:=.seq (Z2X (fun (i:Nat)=>rawInt i) pl).toArray } 0 rfl) ?_ (Zff es hpl)
  ·rw[zs];exact Z2z _
  ·intro b hb
   simp only[Zi,Z1X,or_false] at hb
   rcases hb with rfl|rfl|rfl
   ·rw[zs];exact .inr (Z2z _)
   ·exact .inl rfl
   ·exact .inr (Zg _)
  ·rw[zs];exact ZW (Z2e ha)
  ·rw[zs];exact ZW (Z3Z _)
  ·refine⟨⟨_,Zm _ rfl,rfl,rfl⟩,T.keep fun o e=>Z1 _ (Z1 _ e),?_⟩
   exact Z1 _ (Zm _ rfl)
 ·rw[if_neg hq]
  refine Z0 (Za ?_)
  refine Z0 (ZqO ho hd T.fits ?_)
  refine Z0 (Z0J (Za ⟨_,rfl,"set_iterator",_,⟨_,Zm _ rfl,rfl⟩,Z24.lookup,?_⟩))
  have i0:Z1V (s.heap.push { cls:=.type "set_iterator",data:=.fields [rawInt 0,rawInt 0,Z48 a,rawInt es.size,rawInt ep].toArray }) s.heap.objs.size (.int (0:Nat) 0) 0 es.size ep a :=
   ⟨_,Zm _ rfl,rfl,rfl⟩
  have T0:Zcn prog w (s.heap.push { cls:=.type "set_iterator",data:=.fields [rawInt 0,rawInt 0,Z48 a,rawInt es.size,rawInt ep].toArray }) a es ep t:=T.keep fun o e=>Z1 _ e
  have fp2:∀ b∈[s.heap.objs.size,a],b=a∨s.heap.objs.size≤b:=by
   intro b hb
   simp only[Zi,Z1X,or_false] at hb
   rcases hb with rfl|rfl
   ·exact .inr (Zg _)
   ·exact .inl rfl
  cases hb:w.params.followText "set-order" with
  |true =>
   exact h _ _ [s.heap.objs.size,a] _ _ (fun b o e=>Z1 _ e) rfl rfl rfl (Zg _) fp2 (fun A' hA=>ZhS (prog:=prog) hA hb _ a (ZW ha) es ep t) ⟨i0,T0⟩ ((Z9T _ es).map _)
  |false =>
   have h1:es.size≤1:=by
    rw[hb] at hq
    simp only[Z6d,Bool.true_and,Z0a,Z6v,decide_eq_true_eq,not_and] at hq
    rcases T.plain with z|z
    ·lia
    ·have:=hq z;exact Z1D (by assumption)
   exact h _ _ [s.heap.objs.size,a] _ _ (fun b o e=>Z1 _ e) rfl rfl rfl (Zg _) fp2 (fun A' hA=>Zkk (prog:=prog) hA hb _ a (ZW ha) es h1 ep t) ⟨⟨0,i0,.inl ⟨rfl,rfl⟩⟩,T0⟩ (Z4q _)
theorem Zhf {P:Nat→Value→Prop}{ord:List Value}{acc:Array Value}(h:ItemsOf (fun i v=>ord[i]?=some v) acc ord.length):acc.toList=ord:=by
 apply Z4H
 intro i
 by_cases hi:i<ord.length
 ·have hs:acc.size=ord.length:=h.1
  have e:=h.2 i acc[i] (by simp[hs,hi])
  rw[e,Z0m]
  simp[hs,hi]
 ·have hs:acc.size=ord.length:=h.1
  rw[Z3r (by simp;lia),Z3r (by exact Z1D (by assumption))]
theorem collect_set {Q:List Value→Shared→Prop}(hh:A.handled=none)(T:Zcn prog w s.heap a es ep t)
  (hQ:∀ s' vs,Ext s.heap s'.heap→s'.gens=s.gens→s'.os=s.os→vs.Perm (es.toList.map (·.2))→Q vs s'):wpAny (model prog w) A (collect (.ref a)) Q E s:=by
 obtain⟨o,ho,hex,hd⟩:=T.obj
 have ha:a<s.heap.objs.size:=Zw ho
 have hn:es.size≤sizeLine:=Z7n T.few
 unfold collect
 refine Z0 (Zsz (Z2n F.entry_proto_collect ?_))
 rw[Z1w F.plain_proto_collect _]
 show wpAny _ A.in1 (newList []>>=fun l=>again (.builtin "list.__iadd__" ⟨[l,.ref a],[]⟩)) _ _ s
 refine Z0 (Z0J ?_)
 refine Za ⟨Z3b Zp1 _,Z2n F.entry_list_iadd ?_⟩
 rw[Z1w Zp1 _]
 show wpAny _ A.in1 (Z0U (.ref s.heap.objs.size) (.ref a) (.ref s.heap.objs.size)) _ _ _
 unfold Z0U
 have T1:Zcn prog w (s.heap.push { cls:=.type "list",data:=.seq ([]:List Value).toArray }) a es ep t:=T.keep fun o e=>Z1 _ e
 refine Z0 (Z5g (Zcn.ty (s:={ s with heap:=s.heap.push { cls:=.type "list",data:=.seq ([]:List Value).toArray } }) T1) ?_)
 have h1:Z2m (.ref s.heap.objs.size) (.ref a)=false:=by simp[Z2m];exact Z2V ha
 have h2:(Z12 "set" == Z12 "list")=false:=by decide
 have h3:(Z12 "set" == Z12 "tuple")=false:=by decide
 simp only[h1,h2,h3,ZqM,Zu,if_false]
 refine Z0 (Zf2 T1 fun s2 I fp ord St x2 g2 o2 k2 hI hfp W st0 hp=>?_)
 have zs:(s.heap.push { cls:=.type "list",data:=.seq ([]:List Value).toArray }).objs.size=s.heap.objs.size+1:=Z1P ..
 have T2:Zcn prog w s2.heap a es ep t:=T1.keep fun o e=>x2 a o e
 refine Z0 (Z1E ?_)
 unfold Z8J
 refine Z0 (ZfC T2.ty Znf ?_)
 wp_delta
 refine Z0 (Z7Q T2.ty (b:=true) (by rw[Za3];kernel_rfl) ?_)
 show wpAny _ A.in1 (typeOf (Z48 a)>>=_) _ _ _
 refine Z0 (Z5g T2.ty ?_)
 refine Za ?_
 rw[if_pos (by decide)]
 refine Z0 (Z2A ?_)
 have hS1:s2.heap.get? s.heap.objs.size=some { cls:=.type "list",data:=.seq ([]:List Value).toArray }:=x2 _ _ (Zm _ rfl)
 refine Z0 ?_
 show wpAny _ A.in1 (updateSeq s.heap.objs.size (·.push .none)>>=fun _=>updateSeq s.heap.objs.size (·.pop)) _ _ _
 refine Z0 (Z4I hS1 rfl ?_)
 have hS2:=Z1q (Z0G (·.push Z1U)) hS1 rfl
 refine Z4I hS2 rfl ?_
 have hS3:=Z1q (Z0G (·.pop)) hS2 rfl
 have oth:∀ b o,b≠s.heap.objs.size→s2.heap.get? b=some o→((s2.heap.update s.heap.objs.size (Z0G (·.push Z1U))).update s.heap.objs.size (Z0G (·.pop))).get? b=some o :=
  fun b o hb e=>(Z1c _ _ (Z2q hb)).trans ((Z1c _ _ (Z2q hb)).trans e)
 have hSf:s.heap.objs.size∉fp:=fun m=>by
  rcases hfp _ m with z|z
  ·exact absurd ha (by rw[← z];exact Z1Q _)
  ·rw[zs] at z;exact absurd z (Nat.not_le.mpr (Z3Z _))
 have W':=W A.in1 (by simpa using hh)
 have hord:ord.length=es.size:=by rw[hp.length_eq];simp
 refine Za ⟨Z3b F.plain_extend_loop _,ZoE W'.toS hn _ hSf _ es.size 0 _ _ _ rfl (Z0r _)
  (W'.frame 0 s2.heap _ st0 fun b hb o e=>oth b o (fun z=>hSf (z ▸ hb)) e) hS3 (Zp0 _) fun s' acc' c' hm hS' hacc=>?_⟩
 show wpAny _ A (load s.heap.objs.size>>=_) _ _ s'
 refine Z0 (ZqR hS' ?_)
 rw[← hord] at hacc
 refine Za ?_
 show Q acc'.toList s'
 rw[Zhf (P:=fun _ _=>True) hacc]
 refine hQ s' ord (fun b o e=>?_) (hm.gens.trans g2) (hm.os.trans o2) hp
 have hb:b<s.heap.objs.size:=Zw e
 refine hm.heap b o (fun z=>?_) (oth b o (ZW hb) (x2 b o (Z1 _ e)))
 rcases Zi.mp z with z|z
 ·exact absurd hb (z ▸ Z1Q _)
 ·rw[Z0c.mp z] at hb
  rw[zs] at hI
  exact absurd hb (Nat.not_lt.mpr (ZR (Z2z _) hI))
end
end Sg
namespace L2
open PySem PySem.Spec PyProof.Rows
inductive leT:Th→Th→Prop where
 |s {a b:Str} (h:leS a b):leT (.str a) (.str b)
 |ii {a b c d:Int} (h:a<c∨(a=c∧b≤d)):leT (.tup [.int a,.int b]) (.tup [.int c,.int d])
 |ss {a b c d:Str} (h:(leS a c∧a≠c)∨(a=c∧leS b d)):leT (.tup [.str a,.str b]) (.tup [.str c,.str d])
theorem Zlv {x y:Th}(h1:leT x y)(h2:leT y x):x=y:=by
 cases h1 with
 |s h=>cases h2 with|s h'=>rw[Z84 h h']
 |@ii a b c d h=>cases h2 with
  |ii h' =>
   have e1:a=c:=by lia
   have e2:b=d:=by lia
   rw[e1,e2]
 |ss h=>cases h2 with
  |ss h' =>
   rcases h with ⟨q,n⟩|⟨e,q⟩
   ·rcases h' with ⟨q2,n2⟩|⟨e2,q2⟩
    ·exact absurd (Z84 q q2) n
    ·exact absurd e2.symm n
   ·subst e
    rcases h' with ⟨q2,n2⟩|⟨e2,q2⟩
    ·exact absurd rfl n2
    ·rw[Z84 q q2]
theorem Z7m:∀ {a b:List Th},a.Perm b→a.Pairwise leT→b.Pairwise leT→a=b
 |[],b,p,_,_=>by rw[ZqL.mp p]
 |x::a,[],p,_,_=>absurd p.length_eq (by simp)
 |x::a,y::b,p,ha,hb=>by
  have hxy:x=y:=by
   have h1:x∈y::b:=p.mem_iff.mp Z4
   have h2:y∈x::a:=p.mem_iff.mpr Z4
   rcases Zi.mp h1 with h1|h1
   ·exact h1
   ·rcases Zi.mp h2 with h2|h2
    ·exact h2.symm
    ·exact Zlv ((Z1y.mp ha).1 y h2) ((Z1y.mp hb).1 x h1)
  subst hxy
  rw[Z7m p.cons_inv (Z1y.mp ha).2 (Z1y.mp hb).2]
open Classical in
noncomputable def ZcI (ts:List Th):List Th:=if h:∃ r:List Th,r.Perm ts∧r.Pairwise leT then h.choose else []
theorem ZbH {ts r:List Th}(hp:r.Perm ts)(hs:r.Pairwise leT):ZcI ts=r:=by
 have h:∃ r:List Th,r.Perm ts∧r.Pairwise leT:=⟨r,hp,hs⟩
 unfold ZcI
 rw[dif_pos h]
 exact Z7m (h.choose_spec.1.trans hp.symm) h.choose_spec.2 hs
inductive Sk where|s|ii|ss
noncomputable def isIn:Th→Bool
 |.int _=>true
 |_=>false
noncomputable def ZmG:Th→Bool
 |.str _=>true
 |_=>false
noncomputable def Zoy (f:Th→Bool):Th→Bool
 |.tup [a,b]=>f a&&f b
 |_=>false
noncomputable def okK:Sk→Th→Bool
 |.s,t=>ZmG t
 |.ii,t=>Zoy isIn t
 |.ss,t=>Zoy ZmG t
theorem Zf3 {t:Th}(h:isIn t=true):∃ i,t=.int i:=by
 cases t <;> first|exact⟨_,rfl⟩|cases h
theorem Za4 {t:Th}(h:ZmG t=true):∃ i,t=.str i:=by
 cases t <;> first|exact⟨_,rfl⟩|cases h
theorem Zgb {f:Th→Bool}{t:Th}(h:Zoy f t=true):∃ a b,t=.tup [a,b]∧f a=true∧f b=true:=by
 cases t with
 |tup l =>
  cases l with
  |nil=>cases h
  |cons a l=>cases l with
   |nil=>cases h
   |cons b l=>cases l with
    |nil=>exact⟨a,b,rfl,(Z0a _ _ ▸ h:_∧_).1,(Z0a _ _ ▸ h:_∧_).2⟩
    |cons=>cases h
 |_=>cases h
noncomputable def okT (ts:List Th):Bool:=ts.all (okK .s)||ts.all (okK .ii)||ts.all (okK .ss)
noncomputable def nuV:Value→V
 |.none=>.non
 |.bool b=>.bl b
 |.int i _=>.int i
 |.str x _=>.str x
 |.bytes b _=>.byt b
 |.float b _=>.flt b
 |.ref a=>.ref a
 |.type n=>.ty n
 |_=>.non
theorem ZmE {v:V}{u:Value}(r:RelV v u):nuV u=v:=by
 cases v <;> (first|(obtain⟨t,rfl⟩:=r;rfl)|(cases r;rfl))
theorem ZhU:∀ {ys:List V} {us:List Value},Z20 ys us→ys=us.map nuV
 |_,_,.nil=>rfl
 |_,_,.cons r t=>by rw[ZJ,ZmE r,← ZhU t]
theorem ZbC:∀ {ys:List V} {us:List Value},Z20 ys us→∀ u∈us,RelV (nuV u) u
 |_,_,.nil,u,h=>absurd h (by simp)
 |_,_,.cons r t,u,h=>by
  rcases Zi.mp h with rfl|h
  ·rw[ZmE r];exact r
  ·exact ZbC t u h
theorem Z7q:∀ {us:List Value},(∀ u∈us,RelV (nuV u) u)→Z20 (us.map nuV) us
 |[],_=>.nil
 |u::us,h=>.cons (h u Z4) (Z7q fun u m=>h u (Z9 _ m))
theorem Zi3 {us out:List Value}{ys:List V}{ts:List Th}(r:Z20 ys us)(θ:Value→Th)(hθ:us.map θ=ts)(hp:out.Perm us)(hpw:out.Pairwise fun a b=>leT (θ a) (θ b)) :
  ∃ zs:List (V×Th),zs.Perm (ys.zip ts)∧Z20 (zs.map (·.1)) out∧zs.map (·.2)=ZcI ts:=by
 refine⟨out.map fun u=>(nuV u,θ u),?_,?_,?_⟩
 ·have e:ys.zip ts=us.map fun u=>(nuV u,θ u):=by
   rw[ZhU r,← hθ,List.zip_map']
  rw[e]
  exact hp.map _
 ·rw[Z1n]
  exact Z7q fun u m=>ZbC r u (hp.mem_iff.mp m)
 ·rw[Z1n]
  refine (ZbH ?_ (Z1M.mpr hpw)).symm
  rw[← hθ]
  exact hp.map _
theorem Ze0 {K:Fg_}{H:Hp}:∀ {ys:List V} {ts:List Th},Z04 K H ys ts→∀ z∈ys.zip ts,Z0E K H z.1 z.2
 |_,_,.nil,z,h=>absurd h (by simp)
 |_,_,.cons b r,z,h=>by
  rw[Z5V] at h
  rcases Zi.mp h with rfl|h
  ·exact b
  ·exact Ze0 r z h
theorem Z97 {K:Fg_}{H:Hp}:∀ {zs:List (V×Th)},(∀ z∈zs,Z0E K H z.1 z.2)→Z04 K H (zs.map (·.1)) (zs.map (·.2))
 |[],_=>.nil
 |z::zs,h=>.cons (h z Z4) (Z97 fun z m=>h z (Z9 _ m))
theorem Zqp {x1 x2 y1 y2:Int}(h:(decide (y1<x1)||(!decide (x1<y1)&&decide (y2<x2)))=false):leT (.tup [.int x1,.int x2]) (.tup [.int y1,.int y2]):=by
 refine .ii ?_
 simp only[Z5c,Z7H,Z9m,decide_eq_false_iff_not,decide_eq_true_eq] at h
 lia
theorem Zqn {x1 x2 y1 y2:List Nat}(h:(decide (y1<x1)||(!decide (x1<y1)&&decide (y2<x2)))=false):leT (.tup [.str ⟨x1.toArray⟩,.str ⟨x2.toArray⟩]) (.tup [.str ⟨y1.toArray⟩,.str ⟨y2.toArray⟩]):=by
 refine .ss ?_
 simp only[Z5c,Z7H,Z9m,decide_eq_false_iff_not,decide_eq_true_eq] at h
 obtain⟨a1,a2⟩:=h
 have le1:x1≤y1:=Z6Q.mp a1
 by_cases q:x1<y1
 ·refine .inl ⟨le1,fun z=>?_⟩
  have z':x1=y1:=congrArg (fun s:Str=>s.cps.toList) z
  rw[z'] at q
  exact Z8k _ q
 ·have e:x1=y1:=Zn0 le1 (Z6Q.mp q)
  rw[e]
  exact .inr ⟨rfl,a2.elim (fun z=>absurd z q) fun z=>Z6Q.mp z⟩
theorem Zqe {t:Th}(h:okK .ii t=true):∃ i j,t=.tup [.int i,.int j]:=by
 obtain⟨a,b,rfl,ha,hb⟩:=Zgb h
 obtain⟨i,rfl⟩:=Zf3 ha
 obtain⟨j,rfl⟩:=Zf3 hb
 exact⟨i,j,rfl⟩
theorem Zqd {t:Th}(h:okK .ss t=true):∃ i j,t=.tup [.str i,.str j]:=by
 obtain⟨a,b,rfl,ha,hb⟩:=Zgb h
 obtain⟨i,rfl⟩:=Za4 ha
 obtain⟨j,rfl⟩:=Za4 hb
 exact⟨i,j,rfl⟩
noncomputable def ZqZ (h:Heap)(u:Value):Th:=let k:=Sg.pairKey Sg.intAtom Sg.intAtom h u;.tup [.int (show Int from k.1),.int (show Int from k.2)]
noncomputable def ZqY (h:Heap)(u:Value):Th:=let k:=Sg.pairKey Sg.strAtom Sg.strAtom h u;.tup [.str ⟨Z5W (show List Nat from k.1)⟩,.str ⟨Z5W (show List Nat from k.2)⟩]
section
variable {X:Cx}{K:Fg_}{e:Expr}{es:List Expr}{fs:FL}{p pos:Pos}{pins:List (Addr×Obj)}{σ:St}{H:Hp}{s:Shared}
theorem ZeN (I:Inv X pins σ H s){Y Z:Sg.Atom}{v:V}{u:Value}{x y:Th}{k:Y.O.α}{l:Z.O.α}(b:Z0E X.K H v (.tup [x,y]))(r:RelV v u)(hy:∀ v u,Z0E X.K H v x→RelV v u→Y.keyOf u=some k)(hz:∀ v u,Z0E X.K H v y→RelV v u→Z.keyOf u=some l){h:Heap}(hX:Sg.Ext s.heap h):Sg.IsPair Y Z h u (k,l):=by
 cases b with
 |tup e' b' =>
  obtain⟨v1,v2,rfl,w1,w2⟩:=b'.two
  cases r
  obtain⟨its,rv,⟨o,ho,hc,n,hd⟩,-⟩:=I.tuple e'
  cases rv with
  |cons q1 rv=>cases rv with
   |cons q2 rv =>
    cases rv
    exact⟨_,o,_,_,n,rfl,hX _ _ ho,hc,hd,hy _ _ w1 q1,hz _ _ w2 q2⟩
theorem Zou {v:V}{u:Value}{i:Int}(b:Z0E K H v (.int i))(r:RelV v u):Sg.intAtom.keyOf u=some i:=by
 cases b
 obtain⟨t,rfl⟩:=r
 rfl
theorem Zot {v:V}{u:Value}{i:Str}(b:Z0E K H v (.str i))(r:RelV v u):Sg.strAtom.keyOf u=some i.cps.toList:=by
 cases b
 obtain⟨t,rfl⟩:=r
 rfl
theorem ZnZ (I:Inv X pins σ H s){v:V}{u:Value}{i j:Int}(b:Z0E X.K H v (.tup [.int i,.int j]))(r:RelV v u){h:Heap}(hX:Sg.Ext s.heap h):Sg.IsPair Sg.intAtom Sg.intAtom h u ((i:Int),(j:Int)):=ZeN I b r (fun _ _=>Zou) (fun _ _=>Zou) hX
theorem ZnY (I:Inv X pins σ H s){v:V}{u:Value}{i j:Str}(b:Z0E X.K H v (.tup [.str i,.str j]))(r:RelV v u){h:Heap}(hX:Sg.Ext s.heap h):Sg.IsPair Sg.strAtom Sg.strAtom h u (i.cps.toList,j.cps.toList):=ZeN I b r (fun _ _=>Zot) (fun _ _=>Zot) hX
theorem ZgO (I:Inv X pins σ H s){ys:List V}{ts:List Th}{us:List Value}(b:Z04 X.K H ys ts)(r:Z20 ys us)(hk:okT ts=true)(h:Heap)(hX:Sg.Ext s.heap h) :
  ∃ (O:KeyOrd) (key:Keyed→O.α) (G:Keyed→Prop) (kd:Z3V) (θ:Value→Th),Sg.Sorts X.prog X.w h us O key G kd∧us.map θ=ts ∧
   ∀ a∈us,∀ c∈us,O.kle (key (a,a)) (key (c,c))→leT (θ a) (θ c):=by
 unfold okT at hk
 rw[Z2P,Z2P] at hk
 rcases hk with (hk|hk)|hk
 ·obtain⟨ss,hs⟩:∃ ss,Z4T ts=some ss:=by
   clear b
   induction ts with
   |nil=>exact⟨[],rfl⟩
   |cons t ts ih =>
    rw[Z3A,Z0a] at hk
    obtain⟨ss,e⟩:=ih hk.2
    cases t with
    |str x=>exact⟨x::ss,by unfold Z4T;rw[e];rfl⟩
    |_=>cases hk.1
  have hS:=ZbG hs b r
  refine⟨_,_,_,_,fun u=>.str (strOf u),Sg.sorts_strs h hS,?_,fun a ha c hc hle=>?_⟩
  ·have e1:=hS.strs
   have e2:∀ {ts:List Th} {ss:List Str},Z4T ts=some ss→ts=ss.map Th.str:=by
    intro ts
    induction ts with
    |nil=>intro ss e;cases e;rfl
    |cons t ts ih =>
     intro ss e
     cases t with
     |str x =>
      unfold Z4T at e
      cases h2:Z4T ts with
      |none=>rw[h2] at e;cases e
      |some ss'=>rw[h2] at e;cases e;rw[ZJ,← ih h2]
     |_=>cases e
   rw[e2 hs,← e1,Z1n]
   rfl
  ·obtain⟨x,t,rfl⟩:=hS.all a ha
   obtain⟨y,t',rfl⟩:=hS.all c hc
   exact .s (Z6Q.mp (of_decide_eq_false hle))
 ·have pr:∀ (ys:List V) (ts:List Th) (us:List Value),Z04 X.K H ys ts→Z20 ys us→ts.all (okK .ii)=true →
    (∀ u∈us,∃ k,Sg.IsPair Sg.intAtom Sg.intAtom h u k)∧us.map (ZqZ h)=ts:=by
   intro ys ts us b r hk
   induction ts generalizing ys us with
   |nil=>cases b;cases r;exact⟨fun u m=>absurd m (by simp),rfl⟩
   |cons t ts ih =>
    cases b with
    |cons b1 b2=>cases r with
     |cons r1 r2 =>
      rw[Z3A,Z0a] at hk
      obtain⟨i1,i2⟩:=ih _ _ b2 r2 hk.2
      obtain⟨i,j,rfl⟩:=Zqe hk.1
      have q:=ZnZ I b1 r1 hX
      refine⟨fun u m=>?_,?_⟩
      ·rcases Zi.mp m with rfl|m
       ·exact⟨_,q⟩
       ·exact i1 u m
      ·rw[ZJ,i2]
       unfold ZqZ
       rw[Sg.pairKey_of q]
  obtain⟨h1,h2⟩:=pr _ _ _ b r hk
  refine⟨_,_,_,_,ZqZ h,Sg.sorts_pairs Sg.intAtom Sg.intAtom h h1,h2,fun a ha c hc hle=>?_⟩
  have hle:(Sg.lexOrd Sg.intOrd Sg.intOrd).blt (Sg.pairKey Sg.intAtom Sg.intAtom h c) (Sg.pairKey Sg.intAtom Sg.intAtom h a)=false:=hle
  unfold ZqZ
  generalize Sg.pairKey Sg.intAtom Sg.intAtom h a=x at hle
  generalize Sg.pairKey Sg.intAtom Sg.intAtom h c=y at hle
  obtain⟨x1,x2⟩:=x
  obtain⟨y1,y2⟩:=y
  exact @Zqp x1 x2 y1 y2 hle
 ·have pr:∀ (ys:List V) (ts:List Th) (us:List Value),Z04 X.K H ys ts→Z20 ys us→ts.all (okK .ss)=true →
    (∀ u∈us,∃ k,Sg.IsPair Sg.strAtom Sg.strAtom h u k)∧us.map (ZqY h)=ts:=by
   intro ys ts us b r hk
   induction ts generalizing ys us with
   |nil=>cases b;cases r;exact⟨fun u m=>absurd m (by simp),rfl⟩
   |cons t ts ih =>
    cases b with
    |cons b1 b2=>cases r with
     |cons r1 r2 =>
      rw[Z3A,Z0a] at hk
      obtain⟨i1,i2⟩:=ih _ _ b2 r2 hk.2
      obtain⟨i,j,rfl⟩:=Zqd hk.1
      have q:=ZnY I b1 r1 hX
      refine⟨fun u m=>?_,?_⟩
      ·rcases Zi.mp m with rfl|m
       ·exact⟨_,q⟩
       ·exact i1 u m
      ·rw[ZJ,i2]
       unfold ZqY
       rw[Sg.pairKey_of q]
  obtain⟨h1,h2⟩:=pr _ _ _ b r hk
  refine⟨_,_,_,_,ZqY h,Sg.sorts_pairs Sg.strAtom Sg.strAtom h h1,h2,fun a ha c hc hle=>?_⟩
  have hle:(Sg.lexOrd strKind.toKeyOrd strKind.toKeyOrd).blt (Sg.pairKey Sg.strAtom Sg.strAtom h c) (Sg.pairKey Sg.strAtom Sg.strAtom h a)=false:=hle
  unfold ZqY
  generalize Sg.pairKey Sg.strAtom Sg.strAtom h a=x at hle
  generalize Sg.pairKey Sg.strAtom Sg.strAtom h c=y at hle
  obtain⟨x1,x2⟩:=x
  obtain⟨y1,y2⟩:=y
  exact @Zqn x1 x2 y1 y2 hle
theorem Inv.moved {s':Shared}(I:Inv X pins σ H s)(ho:s'.os=s.os)(hg:s'.gens=s.gens)(k:Sg.Ext s.heap s'.heap):Inv X pins σ H s':=by
 obtain⟨h',g',d',t',o'⟩:=s'
 cases hg
 cases ho
 have I':=I.kept (h':=h') (t':=t') k
 exact⟨I'.ok,I'.os,I'.bare,I'.base,I'.loc,I'.cell,I'.free,I'.freeC,I'.pin,I'.hok,I'.len⟩
noncomputable def Zpg (K:Fg_):List V→Hp→VK→Prop:=fun xs H Q=>∃ p ys ts,xs=[.ref p]∧SqL K H p ys∧Z04 K H ys ts∧okT ts=true ∧
 ∀ q (zs:List (V×Th)),H q=none→zs.Perm (ys.zip ts)→zs.map (·.2)=ZcI ts→Q (.ref q) (upd H q (.lst (zs.map (·.1))))
theorem Zhs:Z7j X (.builtin "sorted") (Zpg X.K):=by
 intro pins s σ H xs us Q I r h
 obtain⟨p,ys,ts,rfl,hs,b,hk,q⟩:=h
 obtain⟨u,rfl,ru⟩:=vals1 r
 cases ru
 obtain⟨its,r',pl,hz⟩:=I.list hs
 have hi:=pl.isList
 have hlen:its.length≤sizeLine:=by rw[← r'.length];exact hz
 refine Sg.sorted_any fun A' hA=>collect_list hi ?_ hlen
 refine⟨hlen,?_⟩
 have hX:Sg.Ext s.heap ((s.heap.push (seqObj "list" #[] 0)).update s.heap.objs.size (Z0G (·++its.toArray))):=fun b o e=>by
  rw[Z2h _ _ _ _ (ZW (Zw e))]
  exact Z1 _ e
 obtain⟨O,key,G,kd,θ,S,hθ,hle⟩:=ZgO I b r' hk _ hX
 refine⟨O,key,G,kd,S,fun out h' ep a1 a2 a3 a4=>?_⟩
 obtain⟨zs,z1,z2,z3⟩:=Zi3 r' θ hθ a1 (Z5a (fun {a c} ha hc hac=>hle a (a1.mem_iff.mp ha) c (a1.mem_iff.mp hc) hac) a2)
 have hzs:((s.heap.push (seqObj "list" #[] 0)).update s.heap.objs.size (Z0G (·++its.toArray))).objs.size=s.heap.objs.size+1:=by rw[Z55,Z9e]
 dsimp only at a3 a4 ⊢
 rw[hzs] at a4 ⊢
 refine⟨.ref (s.heap.objs.size+1),upd H (s.heap.objs.size+1) (.lst (zs.map (·.1))),I.laid (t':=s.toks) (fun b u e=>a3 b u (hX b u e)) (Z2z _) ?_,rfl,q _ zs (I.hok.fresh (Z2z _)) z1 z3⟩
 refine⟨?_,out,ep,z2,a4⟩
 rw[z2.length,a1.length_eq]
 exact hlen
noncomputable def Zde:List Th→Option (List Th)
 |[.lst ts]=>if okT ts=true then some (ZcI ts) else none
 |_=>none
noncomputable def Za8 (fs:FL):FL:=fun d=>(fs d).bind Zde
theorem ZkL (hg:Gl X "sorted") (hm:X.mg "sorted"=none) (ha:PBA X (e::es) fs)
  (he:starEach (e::es) X.env=(false,eval e X.env)::starEach es X.env:=by rfl) (hpl:(backTo pos (starEach es X.env)).any (·.1)=false:=by rfl):PF X (.Call (.Name "sorted" p) (e::es) [] pos) (Za8 fs) :=
 PE.imp (Z9p Zhs hg hm (by rfl) ha (by decide) (by decide) he hpl) fun σ H Q z1_=>by
  obtain ⟨O,d,T,R,e,q⟩:=z1_
  unfold Za8 at e
  cases hf:fs d with
  |none=>rw[hf] at e;cases e
  |some Ts =>
   rw[hf] at e
   change Zde Ts=_ at e
   unfold Zde at e
   split at e
   ·rename_i ts
    split at e
    ·rename_i hk
     cases e
     refine⟨O,d,_,R,hf,fun vs H1 s1 b1=>?_⟩
     obtain⟨u,rfl,bu⟩:=Z4Y b1
     obtain⟨a,xs,rfl,h1,b2⟩:=bu.lst
     refine⟨a,xs,ts,rfl,h1,b2.mono (Z0f _ _),hk,fun q' zs hq z1 z2=>?_⟩
     refine q _ _ (s1.trans (Z0n.upd hq)) ⟨q',_,rfl,s1.free hq,Z1b,?_⟩
     rw[← z2]
     refine Z97 fun z m=>?_
     exact (Ze0 b2 z (z1.mem_iff.mp m)).mono (Z82 (Z0n.upd hq) hq)
    ·cases e
   ·cases e
noncomputable abbrev Zng (X:Cx)(a:Addr)(D:List Str):HO:=.ext fun h=>Sg.TSetD X.prog X.w h a D
noncomputable def Zrw (X:Cx):List V→Hp→VK→Prop:=fun xs H Q=>∃ p ys ts ss,xs=[.ref p]∧SqL X.K H p ys∧Z04 X.K H ys ts∧Z4T ts=some ss∧ss.length<4000∧∀ q,H q=none→Q (.ref q) (upd H q (Zng X q (Sg.metS ss)))
theorem ZjB (hc:X.calm=true):Z7j X (.type "set") (Zrw X):=by
 intro pins s σ H xs us Q I r h
 obtain⟨p,ys,ts,ss,rfl,hs,b,e,hl,q⟩:=h
 obtain⟨u,rfl,ru⟩:=vals1 r
 cases ru
 obtain⟨its,r',hi⟩:=Z32 I hs
 have hS:=ZbG e b r'
 refine Sg.call_set_texts (I.ok.hd hc) hi hS (ZX (Nat.succ_lt_succ hl) (by decide)) fun h' tk T kp=>?_
 refine⟨.ref s.heap.objs.size,upd H s.heap.objs.size (Zng X s.heap.objs.size (Sg.metS ss)),I.laid (t':=tk) kp (Zg _) ?_,rfl,q _ (I.hok.fresh (Zg _))⟩
 refine⟨T,?_,fun h1 h2 z k=>z.keep k⟩
 obtain⟨es,ep,t,T',-⟩:=T
 obtain⟨o,ho,-⟩:=T'.obj
 exact⟨o,ho⟩
noncomputable def ZkA (X:Cx):List V→Hp→VK→Prop:=fun xs H Q=>∃ p D,xs=[.ref p]∧H p=some (Zng X p D)∧∀ q,H q=none→Q (.ref q) (upd H q (.lst ((Z5Z D).map V.str)))
theorem ZhV {prog:Program}{w:World}{l:List (Int×Value)}(h:ElemsOf (Z22 prog w) l):StrsAre (l.map (·.2)) (l.map fun e=>Sg.txtOf e.2):=by
 induction l with
 |nil=>exact .nil
 |cons e l ih =>
  obtain⟨u,eq⟩:=Sg.el_txt h e Z4
  rw[ZJ,ZJ]
  generalize hx:Sg.txtOf e.2=x at eq ⊢
  rw[eq]
  exact .cons x u (ih fun z m=>h z (Z9 _ m))
theorem ZcD {vs us:List Value}{ss:List Str}(h:StrsAre us ss)(hp:vs.Perm us):StrsAre vs (vs.map strOf)∧(vs.map strOf).Perm ss:=by
 refine⟨strsAre_map vs fun v m=>h.all v (hp.mem_iff.mp m),?_⟩
 rw[← h.strs]
 exact hp.map _
theorem ZdS (hc:X.calm=true):Z7j X (.builtin "sorted") (ZkA X):=by
 intro pins s σ H xs us Q I r h
 obtain⟨p,D,rfl,hH,q⟩:=h
 obtain⟨u,rfl,ru⟩:=vals1 r
 cases ru
 obtain⟨⟨es,ep,t,T,hD⟩,-,-⟩:=I.hok p _ hH
 have hes:StrsAre (es.toList.map (·.2)) (Sg.txts es):=ZhV T.el
 refine Sg.sorted_any fun A' hA=>Sg.collect_set (hA.trans (I.ok.hd hc)) T.b fun s1 vs x1 g1 o1 hp=>?_
 obtain⟨v1,v2⟩:=ZcD hes hp
 have hlen:vs.length≤sizeLine:=by
  rw[hp.length_eq,Ze,ZN]
  exact Z7n T.few
 refine⟨hlen,_,_,_,_,Sg.sorts_strs s1.heap v1,fun out h' e a1 a2 a3 a4=>?_⟩
 obtain⟨w1,w2⟩:=ZcD v1 a1
 have hs:Z5Z D=out.map strOf:=by
  refine ZfL ((w2.trans v2).trans hD) (Z1M.mpr (Z5a (fun {a c} ha hc hac=>?_) a2))
  obtain⟨x,t,rfl⟩:=w1.all a ha
  obtain⟨y,t',rfl⟩:=w1.all c hc
  exact Z6Q.mp (of_decide_eq_false hac)
 have I1:Inv X pins σ H s1:=I.moved o1 g1 x1
 refine⟨.ref s1.heap.objs.size,upd H s1.heap.objs.size (.lst ((Z5Z D).map V.str)),I1.laid (t':=s1.toks) a3 (Zg _) ?_,rfl,q _ (I1.hok.fresh (Zg _))⟩
 refine⟨?_,out,e,?_,a4⟩
 ·rw[Ze,hs,Ze,a1.length_eq]
  exact hlen
 ·rw[hs]
  exact ZcC w1
noncomputable def Z9t:List Th→Option (List Th)
 |[.lst ts]=>(Z4T ts).bind fun ss=>if ss.length<4000 then some ((Z5Z (Sg.metS ss)).map Th.str) else none
 |_=>none
noncomputable def Z3Y (fs:FL):FL:=fun d=>(fs d).bind Z9t
theorem ZgT {p2 pos2:Pos} (hc:X.calm=true) (hg:Gl X "sorted") (hm:X.mg "sorted"=none) (hg2:Gl X "set") (hm2:X.mg "set"=none) (ha:PBA X (e::es) fs)
  (he:starEach (e::es) X.env=(false,eval e X.env)::starEach es X.env:=by rfl) (hpl:(backTo pos2 (starEach es X.env)).any (·.1)=false:=by rfl)
  (he2:starEach [.Call (.Name "set" p2) (e::es) [] pos2] X.env=(false,eval (.Call (.Name "set" p2) (e::es) [] pos2) X.env)::starEach [] X.env:=by rfl) (hpl2:(backTo pos (starEach ([]:List Expr) X.env)).any (·.1)=false:=by rfl) :
  PF X (.Call (.Name "sorted" p) [.Call (.Name "set" p2) (e::es) [] pos2] [] pos) (Z3Y fs) :=
 PE.imp (Z9p (ZdS hc) hg hm (by rfl) (Z4Z (Zd5 (ZjB hc) hg2 hm2 (by rfl) ha (by decide) (by decide) he hpl) Z7Z he2) (by decide) (by decide) he2 hpl2) fun σ H Q z1_=>by
  obtain ⟨O,d,T,R,e,q⟩:=z1_
  unfold Z3Y at e
  cases hf:fs d with
  |none=>rw[hf] at e;cases e
  |some Ts =>
   rw[hf] at e
   change Z9t Ts=_ at e
   unfold Z9t at e
   split at e
   ·rename_i ts
    cases hy:Z4T ts with
    |none=>rw[hy] at e;cases e
    |some ss =>
     rw[hy] at e
     change (if ss.length<4000 then _ else _)=_ at e
     split at e
     ·rename_i hl
      cases e
      refine⟨O,d,_,R,hf,fun vs H1 s1 b1=>?_⟩
      obtain⟨u,rfl,bu⟩:=Z4Y b1
      obtain⟨a,xs,rfl,h1,b2⟩:=bu.lst
      refine⟨a,xs,ts,ss,rfl,h1,b2.mono (Z0f _ _),hy,hl,fun q1 hq1=>?_⟩
      refine⟨q1,Sg.metS ss,rfl,Z1b,fun q2 hq2=>?_⟩
      have n2:q2≠q1:=fun z=>by rw[z,Z1b] at hq2;cases hq2
      have hq2':H1 q2=none:=by rw[Z1S n2] at hq2;exact hq2
      refine q _ _ ((s1.trans (Z0n.upd hq1)).trans (Z0n.upd hq2)) ⟨q2,_,rfl,s1.free hq2',Z1b,Zbp _⟩
     ·cases e
   ·cases e
end
section
variable {X:Cx}{K:Fg_}{o a b c e e2:Expr}{fo fa fb fc f:FD}{pos:Pos}{k:Nat}
noncomputable def rM2 (g:Str→Str→Int→Option V):V→List V→Hp→VK→Prop:=fun x xs H Q=>∃ z y i r,x=.str z∧xs=[.str y,.int i]∧g z y i=some r∧Q r H
theorem Zp4 {x y:V}{us:List Value}(r:Z20 [x,y] us):∃ u w,us=[u,w]∧RelV x u∧RelV y w:=by
 cases r with
 |cons r1 r=>cases r with
  |cons r2 r=>cases r;exact⟨_,_,rfl,r1,r2⟩
theorem Zlj:MtR X "str.find" (rM2 fun z y i=>some (.int (Z7J z y i))):=by
 intro pins s σ H x xs v us Q I rx rs h
 obtain⟨z,y,i,r,rfl,rfl,e,q⟩:=h
 cases e
 obtain⟨t,rfl⟩:=rx
 obtain⟨u,w,rfl,ru,rw'⟩:=Zp4 rs
 obtain⟨t2,rfl⟩:=ru
 obtain⟨t3,rfl⟩:=rw'
 exact SC.find3 ⟨.int _,H,I.tok _,⟨_,rfl⟩,q⟩
noncomputable def fM2 (g:Str→Str→Int→Option Th)(fo fa fb:FD):FD:=fun d=>(fo d).bind fun x=>(fa d).bind fun y=>(fb d).bind fun i=>match x,y,i with|.str z,.str w,.int j=>g z w j|_,_,_=>none
theorem Zom {g:Str→Str→Int→Option Th}{g':Str→Str→Int→Option V}(hg:∀ z w i T,g z w i=some T→∃ v,g' z w i=some v∧∀ H,Z0E K H v T) :
  ∀ σ H Q,Z9g K (fM2 g fo fa fb) σ H Q→tBM K "str" (rM2 g') (Zj8 K fo) (Zg8 K (Z3 fa (Z3 fb Z02))) σ H Q:=fun σ H Q z1_=>by
 obtain ⟨O,d,T,R,e,q⟩:=z1_
 unfold fM2 at e
 cases h1:fo d with
 |none=>rw[h1] at e;cases e
 |some x =>
  rw[h1] at e
  cases h2:fa d with
  |none=>rw[h2] at e;cases e
  |some y =>
   rw[h2] at e
   cases h3:fb d with
   |none=>rw[h3] at e;cases e
   |some i =>
    rw[h3] at e
    simp only[ob_] at e
    split at e
    ·rename_i z w j
     obtain⟨v,hv,bv⟩:=hg z w j T e
     refine⟨O,d,_,R,h1,fun v1 H1 s1 b1=>?_⟩
     rw[b1.str]
     refine⟨rfl,O,d,[.str w,.int j],R.mono s1,by unfold Z3 Z02;rw[h2,h3];rfl,fun vs H2 s2 b2=>?_⟩
     obtain⟨u,u2,rfl,bu,bu2⟩:=ZnX b2
     rw[bu.str,bu2.int]
     exact⟨z,w,j,v,rfl,rfl,hv,q v H2 (s1.trans s2) (bv _)⟩
    ·cases e
theorem Zl7 {apos cpos:Pos}(ho:PB X o fo)(ha:PB X e fa)(hb:PB X e2 fb)
  (hbase:attributeBase o "find" X.env (eval o X.env)=eval o X.env:=by rfl)
  (hfew:((backTo cpos (starEach [e,e2] X.env)).all (fun x=>!x.1)&&(backToKw cpos (keywordEach [] X.env)).all (fun x=>x.1.isSome)&&decide ([e,e2].length+([]:List Keyword).length+(if ([]:List Keyword).isEmpty then 0 else 1)<30))=true:=by rfl)
  (hline:(apos.endLine == cpos.line)=true:=by rfl) (hs:starEach [e,e2] X.env=(false,eval e X.env)::starEach [e2] X.env:=by rfl) (hs2:starEach [e2] X.env=(false,eval e2 X.env)::starEach [] X.env:=by rfl) (hplain:(backTo cpos (starEach [e2] X.env)).any (·.1)=false:=by rfl) :
  PD X (.Call (.Attribute o "find" apos) [e,e2] [] cpos) (fM2 (fun z y i=>some (.int (Z7J z y i))) fo fa fb) :=
 PE.imp (ZkS Zed Zem Zek Zlj ho (Z9s ha (Z9s hb ZeM hs2) hs) hbase hfew hline hs hplain) (Zom fun z w i T e=>by cases e;exact⟨_,rfl,fun _=>.int _⟩)
noncomputable def Zrx (K:Fg_):V→List V→Hp→VK→Prop:=fun x vs H Q=>∃ l b xs zs,x=.ref l∧vs=[.ref b]∧H l=some (.lst xs)∧(SqL K H b zs∨SqT K H b zs)∧xs.length+zs.length≤sizeLine∧Q .non (upd H l (.lst (xs++zs)))
theorem Zok:MtM X "list.extend" (Zrx X.K):=by
 intro pins s σ H x vs v us Q I rx rv h
 obtain⟨l,b,xs,zs,rfl,rfl,hH,hB,hz,q⟩:=h
 cases rx
 obtain⟨u,rfl,ru⟩:=rv.one
 cases ru
 obtain⟨z,its,n,r,hl,e⟩:=I.lstM hH
 have hB':∃ (T:String) (its2:List Value) (o:Obj) (n2:Nat),(T="list"∨T="tuple")∧Z20 zs its2∧s.heap.get? b=some o∧o.cls=.type T∧o.data=.seq its2.toArray n2:=by
  rcases hB with hB|hB
  ·obtain⟨its2,r2,hi⟩:=Z32 I hB
   obtain⟨o,ho,hc,n2,hd⟩:=hi
   exact⟨"list",its2,o,n2,.inl rfl,r2,ho,hc,hd⟩
  ·obtain⟨its2,r2,⟨o,ho,hc,n2,hd⟩,-⟩:=I.tuple hB
   exact⟨"tuple",its2,o,n2,.inr rfl,r2,ho,hc,hd⟩
 obtain⟨T,its2,o2,n2,hT,r2,ho2,hc2,hd2⟩:=hB'
 have hsz:its.toArray.size+its2.toArray.size≤sizeLine:=by
  rw[Zl,Zl,← r.length,← r2.length]
  exact hz
 refine Z1r F.slot_list_extend ⟨_,e,rfl⟩ F.entry_list_extend ?_ (F.args_list_extend_2 _ _)
 show wpAny _ _ (Z0U (.ref l) (.ref b) .none) _ _ s
 unfold Z0U
 refine Z0 (Z5g (T:=T) ⟨o2,ho2,hc2⟩ ?_)
 have hty:(Z2m (.ref l) (.ref b)||Z12 T == Z12 "list"||Z12 T == Z12 "tuple")=true:=by
  rcases hT with rfl|rfl
  ·have:(Z12 "list" == Z12 "list")=true:=by rfl
   rw[this];simp
  ·have:(Z12 "tuple" == Z12 "tuple")=true:=by rfl
   rw[this];simp
 rw[if_pos hty]
 refine Z0 (Z90 ho2 hd2 ?_)
 refine Z0 (Z90 e rfl ?_)
 rw[if_neg (by rw[Zlg hsz,Bool.and_false];exact Z0H)]
 refine Z0 (Z3U e rfl ?_ (by lia) (by show (its.toArray++its2.toArray).size≤sizeLine+1;rw[Zkc];lia))
 refine Za ⟨_,rfl,?_⟩
 refine⟨.non,_,I.lset (its':=its++its2) hH e (by simp) (r.append r2) ?_,rfl,q⟩
 rw[Zd]
 exact hz
noncomputable def ZcK:Th→Option (List Th)
 |.lst ts=>some ts
 |.tup ts=>some ts
 |_=>none
noncomputable def Z51 (i:Nat)(f:FD):FS:=fun d=>match d[i]? with
 |some (some (.own ts))=>(f d).bind fun T=>(ZcK T).bind fun us=>if ts.length+us.length≤1000000 then some (.nx (d.set i (some (.own (ts++us))))) else none
 |_=>none
theorem Rep.putL {K:Fg_}{H:Hp}{O:Hid}{σ:St}{d:Sd}(r:Rep K H O σ d){i:Nat}{ts:List Th}(hd:d[i]?=some (some (.own ts))){a:Addr}(ha:(i,a)∈O.own)(hs:σ[i]?=some (some (.ref a)))(hf:¬ O.far a)
  {vs:List V} {us:List Th} (b:Z04 K (less H O) vs us):Rep K (upd H a (.lst vs)) O σ (d.set i (some (.own us)))∧Z0n (low H O) (low (upd H a (.lst vs)) O):=by
 have hm:a∈O.own.map (·.2):=ZT.mpr ⟨_,ha,rfl⟩
 have hi:i<d.length:=(Zv.mp hd).1
 have sub:Z0n (less H O) (less (upd H a (.lst vs)) O):=fun p o e=>by
  obtain⟨h1,h2⟩:=of_less e
  have np:p≠a:=fun z=>h2 (.inl (by rw[z];exact hm))
  exact Z28 (by rw[Z1S np];exact h1) h2
 refine⟨{ len:=by rw[Z1f];exact r.len,th:=fun j U e=>?_,own:=fun j ws e=>?_,there:=fun p hp=>?_,inj:=r.inj,exc:=fun j c e=>?_,dct:=fun j fz kvs e=>?_ },fun p o e=>?_⟩
 ·by_cases hj:i=j
  ·subst hj
   rw[ZG hi] at e
   cases e
  ·rw[Zn hj] at e
   obtain⟨w,h1,h2⟩:=r.th j U e
   exact⟨w,h1,h2.mono sub⟩
 ·by_cases hj:i=j
  ·subst hj
   rw[ZG hi] at e
   cases e
   exact⟨a,_,ha,hs,Z1b,hf,b.mono sub⟩
  ·rw[Zn hj] at e
   obtain⟨a',xs',h1,h2,h3,h4,h5⟩:=r.own j ws e
   refine⟨a',xs',h1,h2,?_,h4,h5.mono sub⟩
   have np:a'≠a:=fun z=>hj (r.inj i j a ha (by rw[← z];exact h1))
   rw[Z1S np];exact h3
 ·by_cases hp':p=a
  ·subst hp';exact⟨_,Z1b⟩
  ·obtain⟨o,e⟩:=r.there p hp
   exact⟨o,by rw[Z1S hp'];exact e⟩
 ·by_cases hj:i=j
  ·subst hj
   rw[ZG hi] at e
   cases e
  ·rw[Zn hj] at e
   obtain⟨a',C,h1,h2,h3⟩:=r.exc j c e
   exact⟨a',C,h1,h2,sub _ _ h3⟩
 ·by_cases hj:i=j
  ·subst hj
   rw[ZG hi] at e
   cases e
  ·rw[Zn hj] at e
   obtain⟨a',h1,h2,h3,h4⟩:=r.dct j fz kvs e
   have np:a'≠a:=fun z=>hj (r.inj i j a ha (by rw[← z];exact h1))
   exact⟨a',h1,h2,h3.mono fun o q=>by rw[Z1S np];exact q,h4⟩
 ·obtain⟨h1,h2⟩:=Zbb e
  have np:p≠a:=fun z=>h2 (by rw[z];exact hm)
  exact Z4z (by rw[Z1S np];exact h1) h2
theorem ZgV {i:Nat} {apos cpos:Pos} (ho:PE X o (Zmd i)) (he:PB X e f) (hbase:attributeBase o "extend" X.env (eval o X.env)=eval o X.env:=by rfl)
  (hfew:((backTo cpos (starEach [e] X.env)).all (fun x=>!x.1)&&(backToKw cpos (keywordEach [] X.env)).all (fun x=>x.1.isSome)
  &&decide (([e]:List Expr).length+([]:List Keyword).length+(if ([]:List Keyword).isEmpty then 0 else 1)<30))=true:=by rfl)
  (hline:(apos.endLine == cpos.line)=true:=by rfl) (hs:starEach [e] X.env=(false,eval e X.env)::starEach [] X.env:=by rfl) (hplain:(backTo cpos (starEach ([]:List Expr) X.env)).any (·.1)=false:=by rfl)
  (hsw:swapsWith (.Call (.Attribute o "extend" apos) [e] [] cpos) none pos.line X.env=pure false:=by rfl) :
  PDS X (.Expr (.Call (.Attribute o "extend" apos) [e] [] cpos) pos) (Z51 i f) :=
 PS.imp (ZeI (ZkS Z6l PySem.F.slot_list_extend PySem.F.type_list_extend Zok ho (Z4Z he Z7Z hs) hbase hfew hline hs hplain) hsw) fun D σ H z1_=>by
  obtain ⟨O,d,o,R,e,q⟩:=z1_
  unfold Z51 at e
  split at e
  ·rename_i ts hd
   cases hf:f d with
   |none=>rw[hf] at e;cases e
   |some T =>
    rw[hf] at e
    cases hq:ZcK T with
    |none=>rw[show (some T).bind (fun T=>(ZcK T).bind _)=(ZcK T).bind _ from rfl,hq] at e;cases e
    |some us =>
     rw[show (some T).bind (fun T=>(ZcK T).bind _)=(ZcK T).bind _ from rfl,hq] at e
     obtain⟨a,xs,h1,h2,h3,h4,h5⟩:=R.own i ts hd
     change (if ts.length+us.length≤1000000 then _ else _)=_ at e
     split at e
     ·rename_i hz
      cases e
      refine⟨_,h2,.inl ⟨rfl,xs,SqL.of h3⟩,O,d,T,R,hf,fun v H' s b=>?_⟩
      have hb:∃ p zs,v=.ref p∧(SqL X.K H' p zs∨SqT X.K H' p zs)∧Z04 X.K (less H' O) zs us:=by
       cases T with
       |lst ws =>
        cases hq
        obtain⟨p,zs,e1,e2,e3⟩:=b.lst
        exact⟨p,zs,e1,.inl e2,e3⟩
       |tup ws =>
        cases hq
        obtain⟨p,zs,e1,e2,e3⟩:=b.tup
        exact⟨p,zs,e1,.inr ((Z0f _ _).seqT e2),e3⟩
       |_=>cases hq
      obtain⟨p,zs,rfl,hsq,hbz⟩:=hb
      refine⟨a,p,xs,zs,rfl,rfl,s _ _ h3,hsq,?_,?_⟩
      ·rw[h5.length,hbz.length]
       exact ZR hz (by decide)
      ·obtain⟨R',s'⟩:=(R.mono s).putL hd h1 h2 h4 ((h5.mono (Z0M s)).append hbz)
       exact q σ _ O rfl ((Z2L s).trans s') R'
     ·cases e
  ·cases e
end
section
variable {κ:Type}[DecidableEq κ]
noncomputable def ZqV (kvs:List (κ×V))(k:κ):Option V:=(kvs.find? fun kv=>decide (kv.1=k)).map (·.2)
noncomputable def Zr1 (kvs:List (κ×V))(k:κ)(v:V):List (κ×V) :=
 if (kvs.any fun kv=>decide (kv.1=k))=true then kvs.map (fun kv=>if kv.1=k then (kv.1,v) else kv) else kvs++[(k,v)]
theorem KV.any {kvs:List (κ×V)}{vs:List (κ×Value)}(r:KV kvs vs)(k:κ):(kvs.any fun kv=>decide (kv.1=k))=vs.any fun kv=>decide (kv.1=k):=by
 unfold KV at r
 induction r with
 |nil=>rfl
 |cons h t ih=>rw[Zfx,Zfx,ih,h.1]
theorem KV.length {kvs:List (κ×V)}{vs:List (κ×Value)}(r:KV kvs vs):kvs.length=vs.length:=ZoM r
end
noncomputable def Zrf (H:Hp)(a:Addr)(y:V)(r:Option V):Prop :=
 (∃ kvs k,Rd H a (.dK kvs)∧y=kV k∧r=ZqV kvs k)∨∃ kvs k b,Rd H a (.dT kvs)∧y=.ref b∧H b=some (.tup (k.map kV))∧r=ZqV kvs k
noncomputable def Zre (H:Hp)(a:Addr)(y v:V)(H':Hp):Prop :=
 (∃ kvs k,H a=some (.dK kvs)∧y=kV k∧kvs.length<sizeLine∧H'=upd H a (.dK (Zr1 kvs k v))) ∨
 ∃ kvs k b,H a=some (.dT kvs)∧y=.ref b∧H b=some (.tup (k.map kV))∧kvs.length<sizeLine∧H'=upd H a (.dT (Zr1 kvs k v))
theorem Zrf.k {H:Hp}{a:Addr}{kvs:List (Key×V)}{k:Key}(e:H a=some (.dK kvs)):Zrf H a (kV k) (ZqV kvs k):=.inl ⟨kvs,k,.inl e,rfl,rfl⟩
theorem Zrf.t {H:Hp}{a b:Addr}{kvs:List (List Key×V)}{k:List Key}(e:H a=some (.dT kvs))(eb:H b=some (.tup (k.map kV))):Zrf H a (.ref b) (ZqV kvs k):=.inr ⟨kvs,k,b,.inl e,rfl,eb,rfl⟩
theorem Zre.k {H:Hp}{a:Addr}{kvs:List (Key×V)}{k:Key}{v:V}(e:H a=some (.dK kvs))(hl:kvs.length<sizeLine):Zre H a (kV k) v (upd H a (.dK (Zr1 kvs k v))):=.inl ⟨kvs,k,e,rfl,hl,rfl⟩
theorem Zre.t {H:Hp}{a b:Addr}{kvs:List (List Key×V)}{k:List Key}{v:V}(e:H a=some (.dT kvs))(eb:H b=some (.tup (k.map kV)))(hl:kvs.length<sizeLine) :
  Zre H a (.ref b) v (upd H a (.dT (Zr1 kvs k v))):=.inr ⟨kvs,k,b,e,rfl,eb,hl,rfl⟩
noncomputable def ZmF (b:Th):List Th→Option Th
 |[]=>some b
 |t::r=>match oLt t b with
  |some (.bl true)=>ZmF t r
  |some (.bl false)=>ZmF b r
  |_=>none
section
variable {prog:Program}{w:World}{A:Around}{G:Value→Th→Prop}{h0:Heap}{l I S:Addr}{vs:List Value}{ts:List Th}{kw:List (Str×Value)}{R:Result→Shared→Prop}
noncomputable def Lts (prog:Program)(w:World)(A:Around)(G:Value→Th→Prop)(h0:Heap):Prop:=∀ (u v:Value) (t b:Th) (c:Bool) (s:Shared) (Q:Value→Shared→Prop) (E:Value→Shared→Prop),Sg.Ext h0 s.heap→G u t→G v b→oLt t b=some (.bl c)→Q (.bool c) s→wpAny (model prog w) A (richCompare .Lt u v) Q E s
theorem ZbT:(toString "min"++toString ".loop":String)="min.loop":=by decide
theorem Z9W {α β:Type}{F:α→β→Prop}:∀ {xs:List α} {ys:List β} {i:Nat} {y:β},Paired F xs ys→ys[i]?=some y→∃ x,xs[i]?=some x∧F x y
 |_,_,0,_,.cons r _,e=>by cases e;exact⟨_,rfl,r⟩
 |_,_,i+1,_,.cons _ t,e=>by
  obtain⟨x,h1,h2⟩:=Z9W (i:=i) t e
  exact⟨x,h1,h2⟩
 |_,_,i,_,.nil,e=>by simp at e
theorem Zol (hh:A.in1.handled=none)(C:Lts prog w A.in1 G h0)(hl:h0.IsList l vs.toArray)(nI:h0.get? I=none)(nS:h0.get? S=none)(ne:S≠I)(P:Paired G vs ts) :
  ∀ (r:List Th) (j:Nat) (s:Shared) (vb:Value) (tb tm:Th) (c:Nat),ts.drop j=r→j≤ts.length→G vb tb→ZmF tb r=some tm→Sg.Ext h0 s.heap→s.heap.IsListIter I l j →
  s.heap.get? S=some { cls:=.type "list",dict:=none,data:=.seq #[vb,vb] c,slots:=#[] } →
  (∀ v h' tk,G v tm→Sg.Ext h0 h'→R (.ok (.ret v)) { s with heap:=h',toks:=tk }) →
  codeAny (model prog w) A (.builtin "min.loop" ⟨[.ref I,.none,.ref S],kw⟩) R s:=by
 have hne:l≠I:=fun z=>by
  obtain⟨o,ho,-⟩:=hl
  rw[z,nI] at ho
  cases ho
 have hlS:l≠S:=fun z=>by
  obtain⟨o,ho,-⟩:=hl
  rw[z,nS] at ho
  cases ho
 have hlen:vs.length=ts.length:=P.length
 have W:=Zk2 (prog:=prog) (w:=w) hh I l hne vs.toArray
 have up:∀ {h h':Heap},Sg.Ext h0 h→(∀ b o,b∉[I]→h.get? b=some o→h'.get? b=some o)→Sg.Ext h0 h':=fun e k b o q=>k b o (fun z=>by
  rw[Z0c] at z
  rw[z,nI] at q
  cases q) (e b o q)
 have upS:∀ {h:Heap} (f:Obj→Obj),Sg.Ext h0 h→Sg.Ext h0 (h.update S f):=fun f e b o q=>by
  refine (Z1c _ _ (fun z=>?_)).trans (e b o q)
  rw[← z,nS] at q
  cases q
 have atL:∀ {h:Heap},Sg.Ext h0 h→h.IsList l vs.toArray:=fun e=>hl.at fun o q=>e _ _ q
 intro r
 induction r with
 |nil =>
  intro j s vb tb tm c hr hj gb em eh hi hS hR
  have ej:vs.toArray.size=j:=by
   have:=ZhJ.mp hr
   simp
   lia
  cases em
  refine Z2n Zcx ?_
  rw[Z1w Z3e _]
  show wpAny _ A.in1 (seqItems? _>>=_) _ _ s
  refine Z0 (Z1W hS rfl ?_)
  show wpAny _ A.in1 (tryCatch (pyNext _) _>>=_) _ _ s
  refine Z0 (Z6T (W.done s _ _ ⟨by rw[ej];exact hi,atL eh⟩ fun h1 tk k1=>?_))
  have hS1:=k1 S _ (by simpa using ne) hS
  show wpAny _ A.in1 (updateSeq S _>>=_) _ _ _
  refine Z0 ?_
  refine Z4I hS1 rfl (Z0 (Z57 (Za ?_)))
  exact hR vb _ tk gb (upS _ (up eh k1))
 |cons t r ih =>
  intro j s vb tb tm c hr hj gb em eh hi hS hR
  have hjl:j<ts.length:=by
   rcases Zs4 j ts.length with z|z
   ·exact z
   ·rw[ZhJ.mpr z] at hr;cases hr
  rw[Z1O hjl] at hr
  injection hr with ht hr'
  obtain⟨v0,hv0,gv0⟩:=Z9W P (Zc hjl)
  rw[ht] at gv0
  refine Z2n Zcx ?_
  rw[Z1w Z3e _]
  show wpAny _ A.in1 (seqItems? _>>=_) _ _ s
  refine Z0 (Z1W hS rfl ?_)
  show wpAny _ A.in1 (tryCatch (pyNext _) _>>=_) _ _ s
  refine Z0 (Z6T (W.item j s _ _ (by simp;lia) ⟨hi,atL eh⟩ fun v h1 tk hv st1 k1=>?_))
  have ev:v=v0:=by
   have hv':vs[j]?=some v:=by simpa using hv
   rw[hv0] at hv'
   cases hv'
   rfl
  subst ev
  have e1:=up eh k1
  have hS1:=k1 S _ (by simpa using ne) hS
  unfold ZmF at em
  have hb:∃ b,oLt t tb=some (.bl b):=by
   revert em
   split
   ·intro;exact⟨_,by assumption⟩
   ·intro;exact⟨_,by assumption⟩
   ·intro z;cases z
  obtain⟨b,hb⟩:=hb
  rw[hb] at em
  show wpAny _ A.in1 (tryCatch (holding [v,v] (richCompare .Lt v vb>>=_)) _>>=_) _ _ _
  refine Z0 (Z6T (Z1E (Z0 (C v vb t tb b _ _ _ e1 gv0 gb hb ?_))))
  refine Z0 (Z1E (Z56 ?_))
  refine Z0 (Z57 (Za ?_))
  cases b with
  |true =>
   simp only[if_true]
   refine Z0 ?_
   refine Z4I hS1 rfl (Z0 (Z57 ?_))
   rw[ZbT]
   refine Za ⟨Z3b Z3e _,ih (j+1) _ v t tm _ hr' hjl gv0 em (upS _ e1) ?_ (Z1q _ hS1 rfl) fun v' h2 tk2 g2 e2=>hR v' h2 tk2 g2 e2⟩
   exact st1.1.at fun o q=>(Z1c _ _ ne).trans q
  |false =>
   simp only[Zu,if_false]
   refine Z0 (Z57 ?_)
   rw[ZbT]
   exact Za ⟨Z3b Z3e _,ih (j+1) _ vb tb tm c hr' hjl gb em e1 st1.1 hS1 fun v' h2 tk2 g2 e2=>hR v' h2 tk2 g2 e2⟩
noncomputable def Zdg (df:Th):List Th→Option Th
 |[]=>some df
 |t::r=>ZmF t r
theorem Zlk (hh:A.in1.handled=none)(C:Lts prog w A.in1 G h0)(hl:h0.IsList l vs.toArray)(nI:h0.get? I=none)(nS:h0.get? S=none)(ne:S≠I)(P:Paired G vs ts){s:Shared}{dv:Value}{k:Str}{df tm:Th}{c:Nat}(gd:G dv df)
  (em:Zdg df ts=some tm) (eh:Sg.Ext h0 s.heap) (hi:s.heap.IsListIter I l 0) (hS:s.heap.get? S=some { cls:=.type "list",dict:=none,data:=.seq #[] c,slots:=#[] })
  (hR:∀ v h' tk,G v tm→Sg.Ext h0 h'→R (.ok (.ret v)) { s with heap:=h',toks:=tk }):codeAny (model prog w) A (.builtin "min.loop" ⟨[.ref I,.none,.ref S],[(k,dv)]⟩) R s:=by
 have hne:l≠I:=fun z=>by
  obtain⟨o,ho,-⟩:=hl
  rw[z,nI] at ho
  cases ho
 have W:=Zk2 (prog:=prog) (w:=w) hh I l hne vs.toArray
 have up:∀ {h h':Heap},Sg.Ext h0 h→(∀ b o,b∉[I]→h.get? b=some o→h'.get? b=some o)→Sg.Ext h0 h':=fun e k b o q=>k b o (fun z=>by
  rw[Z0c] at z
  rw[z,nI] at q
  cases q) (e b o q)
 refine Z2n Zcx ?_
 rw[Z1w Z3e _]
 show wpAny _ A.in1 (seqItems? _>>=_) _ _ s
 refine Z0 (Z1W hS rfl ?_)
 show wpAny _ A.in1 (tryCatch (pyNext _) _>>=_) _ _ s
 cases P with
 |nil =>
  cases em
  refine Z0 (Z6T (W.done s _ _ ⟨hi,hl.at fun o q=>eh _ _ q⟩ fun h1 tk k1=>?_))
  show wpAny _ A.in1 (rule _>>=_) _ _ _
  refine Z0 (Z2A (Za ?_))
  exact hR dv _ tk gd (up eh k1)
 |@cons u t us ts gu P' =>
  refine Z0 (Z6T (W.item 0 s _ _ (by simp) ⟨hi,hl.at fun o q=>eh _ _ q⟩ fun v h1 tk hv st1 k1=>?_))
  have ev:v=u:=by
   have hv':(u::us)[0]?=some v:=by simpa using hv
   cases hv'
   rfl
  subst ev
  have e1:=up eh k1
  have hS1:=k1 S _ (by simpa using ne) hS
  show wpAny _ A.in1 (updateSeq S _>>=_) _ _ _
  refine Z0 ?_
  refine Z4I hS1 rfl ?_
  rw[ZbT]
  refine Za ⟨Z3b Z3e _,Zol (ts:=t::ts) hh C hl nI nS ne (.cons gu P') ts 1 _ v t tm _ rfl (by simp) gu em (fun b o q=>?_) (st1.1.at fun o q=>(Z1c _ _ ne).trans q) (Z1q _ hS1 rfl) fun v' h2 tk2 g2 e2=>hR v' h2 tk2 g2 e2⟩
  refine (Z1c _ _ (fun z=>?_)).trans (e1 b o q)
  rw[← z,nS] at q
  cases q
theorem ZjK (a d:Value):argsOk "min" ⟨[a],[(ZV "default",d)]⟩:=by unfold argsOk;kernel_rfl
theorem ZjC {E:Value→Shared→Prop}{s:Shared}{dv:Value}{df tm:Th}{Q:Value→Shared→Prop}(hh:A.in1.handled=none)(C:Lts prog w A.in1 G s.heap)(hl:s.heap.IsList l vs.toArray)(P:Paired G vs ts)(gd:G dv df)
  (em:Zdg df ts=some tm) (hQ:∀ v h' tk,G v tm→Sg.Ext s.heap h'→Q v { s with heap:=h',toks:=tk }):wpAny (model prog w) A (call (.builtin "min") [.ref l] [(ZV "default",dv)]) Q E s:=by
 refine ZqS (ZoF F.plain_min F.entry_min ?_)
 have main:wpAny (model prog w) A.in1 (Builtin.«min» ⟨[.ref l],[(ZV "default",dv)]⟩) (fun fin s'=>match fin with
   |.done f=>(match (Except.ok f:Result) with|.ok (.ret v)=>Q v s'|.ok _=>False|.error e=>E e s')
   |.again c'=>c'.quiet=true∧codeAny (model prog w) A c' (fun r s'=>match r with|.ok (.ret v)=>Q v s'|.ok _=>False|.error e=>E e s') s') E s:=by
  show wpAny _ A.in1 (Z7G "min" ["key","default"] 0 ⟨[],[(ZV "default",dv)]⟩>>=_) _ _ s
  refine Z0 (ZaA (show Z7G "min" ["key","default"] 0 ⟨[],[(ZV "default",dv)]⟩=pure [none,some dv] from rfl) ?_)
  refine Z0 (Za ?_)
  refine Z0 (Zco hl ?_)
  refine Z0 (Z0J ?_)
  rw[ZbT]
  refine Za ⟨Z3b Z3e _,Zlk hh C hl (Z5b (Zg _)) (Z5b ?_) ?_ P gd em (fun b o e=>Z1 _ (Z1 _ e)) ?_ (Zm _ rfl) fun v h' tk g e=>hQ v h' tk g e⟩
  ·rw[Z9e];exact Z2z _
  ·rw[Z9e];exact Zbx _
  ·exact⟨_,Z1 _ (Zm _ rfl),rfl,rfl⟩
 simp only[checkBuiltinCall,F.kind_min]
 cases hsig:Manifest.signature? "min" with
 |none=>exact Za main
 |some sig =>
  have ha:=ZjK (.ref l) dv
  simp only[argsOk,hsig] at ha
  have h2:Bind.checkArgs "min" sig ⟨[.ref l],[(ZV "default",dv)]⟩=pure ():=ha
  simp only[h2]
  exact Za main
end
section
variable {X:Cx}{K:Fg_}{e value:Expr}{fs:FL}{fd:FD}{p pos kp:Pos}{k:Nat}
theorem Zgc {h h':Heap}{a:Addr}{its:Array Value}(x:IsTup h a its)(e:Sg.Ext h h'):IsTup h' a its:=let ⟨o,ho,r⟩:=x;⟨o,e _ _ ho,r⟩
theorem Zlq {pins:List (Addr×Obj)}{σ:St}{H:Hp}{s:Shared}(I:Inv X pins σ H s){A:Around}(hu:A.units<cLine):Lts X.prog X.w A (fun u t=>∃ x,RelV x u∧Z0E X.K H x t) s.heap:=by
 rintro u v t b c s1 Q E hE ⟨x,rx,bx⟩ ⟨y,ry,by'⟩ hlt hQ
 unfold oLt at hlt
 split at hlt
 ·cases hlt
  cases bx
  cases by'
  obtain⟨t1,rfl⟩:=rx
  obtain⟨t2,rfl⟩:=ry
  exact (lt_int hQ:wpAny (model X.prog X.w) A (compareOp .Lt _ _) Q E s1)
 ·cases hlt
  cases bx
  cases by'
  obtain⟨t1,rfl⟩:=rx
  obtain⟨t2,rfl⟩:=ry
  exact HT.rcLt_str _ _ _ _ _ _ _ _ _ _ hQ
 ·rename_i ts us
  cases h1:Z4K ts with
  |none=>rw[h1] at hlt;cases hlt
  |some ns =>
   rw[h1] at hlt
   change ((Z4K us).bind fun ms=>(HT.lexK ns ms).map Th.bl)=_ at hlt
   cases h2:Z4K us with
   |none=>rw[h2] at hlt;cases hlt
   |some ms =>
    rw[h2] at hlt
    change ((HT.lexK ns ms).map Th.bl)=_ at hlt
    cases h3:HT.lexK ns ms with
    |none=>rw[h3] at hlt;cases hlt
    |some z =>
     rw[h3] at hlt
     cases hlt
     cases bx with
     |tup g1 b1=>cases by' with
      |tup g2 b2 =>
       cases rx
       cases ry
       obtain⟨its,r1,p1,_⟩:=I.tuple g1
       obtain⟨its2,r2,p2,_⟩:=I.tuple g2
       exact (HT.lt_tupKeys (Zgc p1 hE) (Zgc p2 hE) (by simpa using Z85 h1 b1 r1) (by simpa using Z85 h2 b2 r2) h3 hu hQ:wpAny (model X.prog X.w) A (compareOp .Lt _ _) Q E s1)
 ·cases hlt
theorem Zd7 {H:Hp}:∀ {xs:List V} {us:List Value} {ts:List Th},Z20 xs us→Z04 K H xs ts→Paired (fun u t=>∃ x,RelV x u∧Z0E K H x t) us ts
 |_,_,_,.nil,.nil=>.nil
 |_,_,_,.cons r rs,.cons b bs=>.cons ⟨_,r,b⟩ (Zd7 rs bs)
noncomputable def Zjt (fs:FL)(fd:FD):FD:=fun d=>(fs d).bind fun Ts=>(fd d).bind fun df=>match Ts with|[.lst ts]=>Zdg df ts|_=>none
theorem ZnS (hr:Z4B k X.A) (hc:X.calm=true) (hg:Gl X "min") (hm:X.mg "min"=none) (ha:PBA X [e] fs) (hv:PD X value fd)
  (he:backTo pos (starEach [e] X.env)=(false,eval e X.env)::backTo pos (starEach [] X.env):=by rfl) (hplain:(backTo pos (starEach [e] X.env)).any (·.1)=false:=by rfl)
  (hall:(backToKw pos (keywordEach [⟨some (ZV "default"),value,kp⟩] X.env)).all (·.1.isSome)=true:=by rfl) (hkw:(backToKw pos (keywordEach [⟨some (ZV "default"),value,kp⟩] X.env)).any (·.1.isNone)=false:=by rfl)
  (hz:∀ v:Value,((backToKw pos (keywordEach [⟨some (ZV "default"),value,kp⟩] X.env)).filterMap (·.1)).zip [v]=[(ZV "default",v)]:=by intro _;rfl) :
  PD X (.Call (.Name "min" p) [e] [⟨some (ZV "default"),value,kp⟩] pos) (Zjt fs fd):=by
 intro pins s σ H Q I ⟨O,d,T,R,ef,q⟩
 unfold Zjt at ef
 cases hf:fs d with
 |none=>rw[hf] at ef;cases ef
 |some Ts =>
  rw[hf] at ef
  change ((fd d).bind _)=_ at ef
  cases hfd:fd d with
  |none=>rw[hfd] at ef;cases ef
  |some df =>
   rw[hfd] at ef
   match Ts,hf,ef with
   |[.lst ts],hf,ef =>
    change Zdg df ts=some T at ef
    refine Z2D (Z6K I hg hm (by rfl) ?_ (by decide) (by decide))
    refine callWith_kw ?_ he hplain hall hkw
    refine thn (ha pos pins s σ H _ I ⟨O,d,_,R,hf,fun vs H1 s1 b1=>(⟨s1,b1⟩:Z0n H H1∧Paired (Z9c X.K H1 O) vs [.lst ts])⟩) fun us s1 z1_=>?_
    obtain ⟨vs,H1,I1,r1,sm,b1⟩:=z1_
    obtain⟨v1,rfl,b3⟩:=Z4Y b1
    obtain⟨u1,rfl,ru⟩:=vals1 r1
    obtain⟨a,xs,rfl,hq,bx⟩:=b3.lst
    cases ru
    refine kws_cons (thn (hv pins s1 σ H1 _ I1 ⟨O,d,df,R.mono sm,hfd,fun v H2 s2 b2=>(⟨s2,b2⟩:Z0n H1 H2∧Z0E X.K (less H2 O) v df)⟩) fun dv s2 ⟨v2,H2,I2,r2,sm2,b2⟩=>kws_nil ?_)
    rw[hz]
    obtain⟨its,rv,pl,hz'⟩:=I2.list (sm2.seq hq)
    refine ZjC (A:=X.A) (G:=fun u t=>∃ x,RelV x u∧Z0E X.K (less H2 O) x t) (I2.ok.hd hc) ?_ pl.isList (Zd7 rv (bx.mono (Z0M sm2))) ⟨v2,r2,b2⟩ ef fun v h' tk ⟨x,rx,bxx⟩ hE=>?_
    ·intro u v t b c s3 Q E hE ⟨x,rx,bx⟩ ⟨y,ry,by'⟩
     exact Zlq I2 (A:=X.A.in1) (by have:=hr.un;show X.A.units+1<cLine;lia) u v t b c s3 Q E hE ⟨x,rx,bx.mono (Z0f _ _)⟩ ⟨y,ry,by'.mono (Z0f _ _)⟩
    ·exact⟨x,H2,I2.kept (t':=tk) hE,rx,q x H2 (sm.trans sm2) bxx⟩
end
theorem Z04.dropLast {K:Fg_}{H:Hp}{vs:List V}{ts:List Th}(h:Z04 K H vs ts):Z04 K H vs.dropLast ts.dropLast:=by
 rw[Z7F,Z7F,h.length]
 exact h.take _
section
variable {X:Cx}{tg a b:Expr}{fa fb:FD}{K:Fg_}{p pos:Pos}
noncomputable def Z5B (lo:Int)(n:Nat):List Th:=(Z0L n).map fun (k:Nat)=>Th.int (lo+(k:Int))
theorem Zf1 {H:Hp}{O:Hid}(lo:Int)(n:Nat):Zka K (Itr lo n) (low H O) O.far (Z5B lo n) where
 go:=fun i H' s hi=>by
  show i<n
  simpa [Z5B] using hi
 stop:=fun H' s=>by
  show n≤(Z5B lo n).length
  simp[Z5B]
 yld:=fun i H' O' v H'' hi hf s _ y=>by
  obtain⟨e,e2⟩:=y
  subst e e2
  refine⟨Z0n.refl _,.int (lo+i),?_,.int _⟩
  have hi':i<n:=by simpa [Z5B] using hi
  simp[Z5B,hi']
noncomputable def Z7z (fa fb:FD):FL:=fun d=>(fa d).bind fun A=>(fb d).bind fun B=>match A,B with
 |.int i,.int j=>if -1000000≤i∧i≤1000000∧-1000000≤j∧j≤1000000 then some (Z5B i (j-i).toNat) else none
 |_,_=>none
theorem ZgZ (hg:Gl X "range") (hm:X.mg "range"=none) (ha:PD X a fa) (hb:PD X b fb) (hs:starEach [a,b] X.env=[(false,eval a X.env),(false,eval b X.env)]:=by rfl) (hs2:starEach [b] X.env=[(false,eval b X.env)]:=by rfl)
  (hs1:starEach [a,b] X.env=(false,eval a X.env)::starEach [b] X.env:=by rfl) (hs3:starEach [b] X.env=(false,eval b X.env)::starEach [] X.env:=by rfl):PDI X tg (.Call (.Name "range" p) [a,b] [] pos) (Z7z fa fb) :=
 PI.imp (Ziq hg hm (Z4Z ha (Z4Z hb Z7Z hs3) hs1) hs hs2) fun σ H R z1_=>by
  obtain ⟨O,d,ts,r,e,q⟩:=z1_
  unfold Z7z at e
  cases h1:fa d with
  |none=>rw[h1] at e;cases e
  |some A =>
   rw[h1] at e
   cases h2:fb d with
   |none=>rw[h2] at e;cases e
   |some B =>
    rw[h2] at e
    cases A with
    |int i=>cases B with
     |int j =>
      change (if -1000000≤i∧i≤1000000∧-1000000≤j∧j≤1000000 then some (Z5B i (j-i).toNat) else none)=some ts at e
      split at e
      ·rename_i hj
       cases e
       refine⟨O,d,.int i,r,h1,fun v H1 s1 b1=>?_⟩
       cases b1
       refine⟨O,d,.int j,r.mono s1,h2,fun v H2 s2 b2=>?_⟩
       cases b2
       exact⟨i,j,rfl,⟨by lia,by omega,by lia,by omega⟩,q _ H2 (s1.trans s2) (Zf1 _ _)⟩
      ·cases e
     |_=>cases e
    |_=>cases e
end
end L2
namespace Sg
open PySem PyProof.Rows PySem.Spec PySem.W
section
variable {prog:Program}{w:World}{A:Around}{E:Value→Shared→Prop}{s:Shared}{O:KeyOrd}{key:Keyed→O.α}{G:Keyed→Prop}{kd:Z3V}{h:Heap}{keys vs:List Value}
theorem Zg9 {a kS:Addr} {e e1:Nat} {st:SortSt} {P:Fin→Shared→Prop} (ho:s.heap.get? a=some (seqObj "list" #[] e1)) (hk:s.heap.get? kS=some (seqObj "list" keys.toArray e)) (hne:kS≠a) (hkz:keys.length≤sizeLine)
  (hf:failedOf st=none) (hsz:(arrOf st).size≤sizeLine)
  (hP:∀ h',(∀ b o,b≠a→b≠kS→s.heap.get? b=some o→h'.get? b=some o)→(∃ n,h'.get? a=some (seqObj "list" ((arrOf st).map (·.2)) n))→P (.done (.ret .none)) { s with heap:=h' }) :
  wpAny (model prog w) A (ksk_tail a false e1 (.ref kS) st) P E s:=by
 have hs2:((arrOf st).map (·.2)).size≤sizeLine+1:=by rw[Zcy];lia
 unfold ksk_tail
 refine Z0 (Z3U hk rfl ?_ (by simpa using hkz) (Z0r _))
 refine Z0 (Z57 ?_)
 have ho2:(s.heap.update kS (Z0G fun _=>#[])).get? a=some (seqObj "list" #[] e1):=by
  rw[Z2h _ _ _ _ hne.symm];exact ho
 refine Z0 (ZaB ho2 rfl ?_)
 refine Z0 (Z3U ho2 rfl ?_ (Z0r _) (by simpa using hs2))
 rw[hf]
 simp only[bne_self_eq_false,Zu,if_false]
 refine Za (hP _ (fun b o h1 h2 e=>?_) ?_)
 ·rw[Z2h _ _ _ _ h1,Z2h _ _ _ _ h2]
  exact e
 ·exact⟨_,Z92 ho2 _⟩
theorem Zlz {xs:Array Keyed}{ps:List Keyed}(hp:xs.Perm ps.toArray)(hu:Up key xs.toList):(xs.toList).Perm ps∧xs.toList.Pairwise fun a b=>O.kle (key a) (key b) :=
 ⟨by simpa using Z2k.mp hp,hu⟩
theorem key_end {a kS:Addr}{e e1:Nat}{P:Fin→Shared→Prop}(S:Sorts prog w h keys O key G kd)(hG:∀ k v,G (k,k)→G (k,v))(hl:keys.length=vs.length)
  (ho:s.heap.get? a=some (seqObj "list" #[] e1)) (hk:s.heap.get? kS=some (seqObj "list" keys.toArray e)) (hne:kS≠a) (he:Ext h s.heap) (hz:vs.length≤sizeLine)
  (hP:∀ (out:List Keyed) h',out.Perm (keys.zip vs)→(out.Pairwise fun a b=>O.kle (key a) (key b))→(∀ b o,b≠a→b≠kS→s.heap.get? b=some o→h'.get? b=some o)→(∃ n,h'.get? a=some (seqObj "list" (out.map (·.2)).toArray n)) →
   P (.done (.ret .none)) { s with heap:=h' }) :
  wpAny (model prog w) A (ksk_end a false vs.toArray e1 (.ref kS) keys.toArray) P E s:=by
 have hzip:keys.toArray.zip vs.toArray=(keys.zip vs).toArray:=by simp
 have hzl:(keys.zip vs).length=vs.length:=by rw[ZoP];lia
 have hlen:vs.toArray.size=vs.length:=by simp
 unfold ksk_end
 simp only[Zu,if_false]
 by_cases h2:vs.toArray.size<2
 ·rw[if_pos h2]
  refine Z0 (Za ?_)
  rw[if_pos h2,ZlX]
  refine Z0 (Za ?_)
  refine Zg9 ho hk hne (by lia) rfl (by show (keys.toArray.zip vs.toArray).size≤_;rw[hzip];simp;lia) fun h' k1 k2=>?_
  refine hP (keys.zip vs) h' (Z4q _) ?_ k1 ?_
  ·have:(keys.zip vs).length<2:=by lia
   rcases hq:keys.zip vs with _|⟨v,_|⟨v2,r⟩⟩
   ·exact Z2j
   ·exact Zft _ _
   ·rw[hq] at this;simp at this;lia
  ·obtain⟨n,q⟩:=k2
   refine⟨n,?_⟩
   rw[q]
   show some (seqObj "list" ((keys.toArray.zip vs.toArray).map (·.2)) n)=_
   rw[hzip,List.map_toArray]
 ·rw[if_neg h2]
  refine Z0 (S.kind (by lia) _ _ _ _ he ?_)
  rw[if_neg h2]
  have g0:∀ x∈((keys.zip vs).toArray).toList,G x:=by
   intro x q
   have q:x∈keys.zip vs:=by simpa using q
   obtain⟨x1,x2⟩:=x
   exact hG _ _ (S.good _ (Z5s q).1)
  refine Z0 (Z1k (ZfB (a₀:=(keys.zip vs).toArray) (key:=key) (G:=G) (kd:=kd) (st:=Z7o kd (keys.toArray.zip vs.toArray) #[] 7 none)
   (Q:=fun _ st'=>(arrOf st').Perm (keys.zip vs).toArray∧failedOf st'=none∧Up key (arrOf st').toList)
   (S.asks _ he) g0 (by show (keys.toArray.zip vs.toArray).Perm _;rw[hzip]) rfl rfl rfl fun st' a1 a2 a3=>⟨a1,a2,a3⟩) ?_ fun _ _ e=>e)
  rintro⟨⟨⟩,st'⟩ s' ⟨rfl,hp,hf,hs⟩
  have z:=Zlz hp hs
  refine Zg9 ho hk hne (by lia) hf (ZR (ZhH (hp.size_eq.trans (by simp;lia))) hz) fun h' k1 k2=>?_
  refine hP _ h' z.1 z.2 k1 ?_
  obtain⟨n,q⟩:=k2
  exact⟨n,by rw[q,← Zm9]⟩
end
end Sg
namespace L2
open PySem PySem.Spec PyProof.Rows PySem.W
section
variable {X:Cx}{pins:List (Addr×Obj)}{σ:St}{H:Hp}{s:Shared}
noncomputable def Cx.within (X:Cx)(A':Around):Cx:={ X with A:=A',xe:=fun _ _=>False }
theorem Inv.within (I:Inv X pins σ H s){A':Around}(h1:A'.handled=X.A.handled)(h2:A'.frames=X.A.frames):Inv (X.within A') pins σ H s :=
 let k:=I.ok
 ⟨⟨k.mod,k.kind,k.glob,k.blt,k.above,k.inj,k.has,k.cab,fun h=>h1.trans (k.hd h),h2.trans k.frames,k.stk,k.exf,k.bs,k.bsz,k.noex,k.exfs,k.funs,k.frf⟩,I.os,I.bare,I.base,I.loc,I.cell,I.free,I.freeC,I.pin,I.hok,I.len⟩
theorem Inv.without {A':Around}(I0:X.Ok)(I:Inv (X.within A') pins σ H s):Inv X pins σ H s :=
 ⟨I0,I.os,I.bare,I.base,I.loc,I.cell,I.free,I.freeC,I.pin,I.hok,I.len⟩
structure KeysAt (X:Cx)(pins:List (Addr×Obj))(σ:St)(H:Hp)(O:Hid)(kS:Addr)(kts:List Th)(j:Nat)(s:Shared):Prop where
 ex:∃ H' ks kv e,Inv X pins σ H' s∧Z0n H H'∧Zfy X pins H' kS∧s.heap.get? kS=some (seqObj "list" (Z5W ks) e)∧Z20 kv ks∧Z04 X.K (less H' O) kv (kts.take j)∧ks.length=j
theorem Zjf {k:Nat}{f kS:Addr}{fd:Z06}{ps:List Str}{φ:List Th→Option Th}{O:Hid}{kts:List Th}{j:Nat}{x:Value}{y:V}{t kt:Th}(F:Z4C X.prog X.w X.K X.mg X.base CX0 k f fd ps (spF X.K φ))(hb:Binds X.K fd ps [])(hr:Z4B k X.A)
  (hO:∀ b,O.has b→∃ o,H b=some o) (rx:RelV y x) (by':Z0E X.K (less H O) y t) (hφ:φ [t]=some kt) (hk:kts[j]?=some kt) (hj:j≤sizeLine) (K:KeysAt X pins σ H O kS kts j s) :
  wpAny (model X.prog X.w) X.A (call (.ref f) [x]) (fun k s'=>wpAny (model X.prog X.w) X.A (Zaw (.ref kS) (·.push k)) (fun _ s''=>KeysAt X pins σ H O kS kts (j+1) s'') X.xe s') X.xe s:=by
 obtain⟨H',ks,kv,e,I,sm,fp,hS,rv,bk,hl⟩:=K.ex
 obtain⟨f0,f1,f2,f3,f4,f5⟩:=fp
 have I2:Inv X (pins++[(kS,seqObj "list" (Z5W ks) e)]) σ H' s:=I.pins_of fun p hp=>by
  rcases ZQ.mp hp with q|q
  ·exact I.pin p (ZH _ q)
  ·rw[Z0c] at q
   subst q
   exact⟨hS,f0,f1,f2,fun v z=>by cases z⟩
 refine thn (Zmk (Q:=fun v H2=>Z0n H' H2∧Z0E X.K (less H2 O) v kt) F hr hb .nil ZnW I2 (.cons rx .nil) ?_) fun u s1 ⟨v,H2,I3,rv2,s2,b2⟩=>?_
 ·show spF X.K φ [y] H' _ E0
  refine⟨O.has,[t],kt,fun b hb=>?_,?_,hφ,fun v H2 s2 b2=>⟨s2,?_⟩⟩
  ·obtain⟨o,ho⟩:=hO b hb
   exact⟨o,sm _ _ ho⟩
  ·rw[Z83]
   exact .cons (by'.mono (Z0M sm)) .nil
  ·rw[Z83] at b2
   exact b2
 ·obtain⟨e1,n1,-⟩:=I3.pin (kS,seqObj "list" (Z5W ks) e) (ZH _ (ZH _ Z4))
  have I4:Inv X pins σ H2 s1:=I3.pins_of fun p hp=>I3.pin p (ZH _ (Z08 _ hp))
  refine Z3U e1 rfl ?_ (by rw[Zl,hl];exact hj) (by rw[Array.size_push,Zl,hl];lia)
  have I5:=I4.turned (it:=kS) (t':=s1.toks) (h':=s1.heap.update kS (Z0G (·.push u))) (fun b o hb q=>by rw[Z2h _ _ _ _ hb];exact q) n1 f1 f3 f4 f5
  have hS':=Z92 e1 (·.push u)
  rw[Zm3] at hS'
  refine⟨H2,ks++[u],kv++[v],_,I5,sm.trans s2,⟨n1,f1,f2,f3,f4,f5⟩,hS',rv.append (.cons rv2 .nil),?_,by simp[hl]⟩
  rw[Zau,hk]
  exact (bk.mono (Z0M s2)).append (.cons b2 .nil)
theorem Zjg {k:Nat}{f kS a:Addr}{fd:Z06}{ps:List Str}{φ:List Th→Option Th}{O:Hid}{ts kts:List Th}{us:List Value}{ys:List V}{e1:Nat}{P:PySem.Fin→Shared→Prop}{E:Value→Shared→Prop}
  (F:Z4C X.prog X.w X.K X.mg X.base CX0 k f fd ps (spF X.K φ)) (hb:Binds X.K fd ps []) (hr:Z4B k X.A) (hO:∀ b,O.has b→∃ o,H b=some o) (hxe:∀ e s,X.xe e s→False) (rv:Z20 ys us) (b:Z04 X.K (less H O) ys ts) (hk:Paired (fun t kt=>φ [t]=some kt) ts kts) (hz:us.length≤sizeLine)
  (K0:KeysAt X pins σ H O kS kts 0 s)
  (hE:∀ s',KeysAt X pins σ H O kS kts us.length s'→wpAny (model X.prog X.w) X.A (Z5S (.ref kS)>>=fun keys=>ksk_end a false us.toArray e1 (.ref kS) keys) P E s') :
  wpAny (model X.prog X.w) X.A (ksk_rest a (.ref f) false us.toArray e1 (.ref kS)) P E s:=by
 unfold ksk_rest
 refine Z0 (Z2A ?_)
 first
  |rw[List.forIn_toArray]
  |(rw[← ZjX];simp only[ZjQ])
  |rw[← ZjX]
 refine Z0 (ksk_fold (fun i s'=>KeysAt X pins σ H O kS kts i s') us 0 s K0 ?_ ?_)
 ·intro j x s' hx K
  rw[Z0p] at K ⊢
  have hj:j<us.length:=(Zv.mp hx).1
  have hy:j<ys.length:=by rw[rv.length];exact hj
  have ht:j<ts.length:=by rw[← b.length];exact hy
  obtain⟨kt,hkt,eφ⟩:∃ kt,kts[j]?=some kt∧φ [ts[j]]=some kt:=by
   have hkl:kts.length=ts.length:=hk.length.symm
   obtain⟨t',h1,h2⟩:=Z9W hk (i:=j) (Zc (by lia))
   rw[Zc ht] at h1
   cases h1
   exact⟨_,Zc (by lia),h2⟩
  obtain⟨y,hyy,byy⟩:=b.get (Zc ht)
  obtain⟨u,hu,ru⟩:=rv.get hyy
  rw[hx] at hu
  cases hu
  refine Z0 (Z7I (Z1k (Zjf F hb hr hO ru byy eφ hkt (by lia) K) (fun v s'' q=>?_) fun e s'' q=>(hxe e s'' q).elim))
  refine Z0 (Z1k q (fun _ s3 q3=>Za ⟨rfl,q3⟩) fun e s3 q3=>(hxe e s3 q3).elim)
 ·intro s' K
  rw[Z0p] at K
  exact hE s' K
end
end L2
namespace L2
open PySem PySem.Spec PyProof.Rows PySem.W
section
variable {X:Cx}{pins:List (Addr×Obj)}{σ:St}{H:Hp}{s:Shared}
theorem ZiE (I:Inv X pins σ H s){v:V}{u:Value}{i:Int}{j:Str}(b:Z0E X.K H v (.tup [.int i,.str j]))(r:RelV v u){h:Heap}(hX:Sg.Ext s.heap h):Sg.IsPair Sg.intAtom Sg.strAtom h u ((i:Int),j.cps.toList):=ZeN I b r (fun _ _=>Zou) (fun _ _=>Zot) hX
noncomputable def ZoU:Th→Bool
 |.tup [a,b]=>isIn a&&ZmG b
 |_=>false
theorem Zjl {t:Th}(h:ZoU t=true):∃ i x,t=.tup [.int i,.str x]:=by
 cases t with
 |tup l =>
  cases l with
  |nil=>cases h
  |cons a l=>cases l with
   |nil=>cases h
   |cons b l=>cases l with
    |nil =>
     have h:(isIn a&&ZmG b)=true:=h
     rw[Z0a] at h
     obtain⟨i,rfl⟩:=Zf3 h.1
     obtain⟨x,rfl⟩:=Za4 h.2
     exact⟨i,x,rfl⟩
    |cons=>cases h
 |_=>cases h
inductive leK:Th→Th→Prop where
 |is {a c:Int} {b d:Str} (h:a<c∨(a=c∧leS b d)):leK (.tup [.int a,.str b]) (.tup [.int c,.str d])
theorem Zlw {x y:Th}(h1:leK x y)(h2:leK y x):x=y:=by
 cases h1 with
 |@is a c b d h=>cases h2 with
  |is h' =>
   have e1:a=c:=by lia
   subst e1
   have q1:leS b d:=by rcases h with z|z;exact absurd z (by simp);exact z.2
   have q2:leS d b:=by rcases h' with z|z;exact absurd z (by lia);exact z.2
   rw[Z84 q1 q2]
theorem Zbf (I:Inv X pins σ H s):∀ {kv:List V} {ks:List Value} {kts:List Th},Z20 kv ks→Z04 X.K H kv kts→kts.all ZoU=true→∀ u∈ks,∃ k,Sg.IsPair Sg.intAtom Sg.strAtom s.heap u k
 |_,_,_,.nil,.nil,_,u,h=>nomatch h
 |_,_,_,.cons r rs,.cons b bs,ha,u,h=>by
  rw[Z3A,Z0a] at ha
  rcases Zi.mp h with rfl|h
  ·obtain⟨i,x,rfl⟩:=Zjl ha.1
   exact⟨_,ZiE I b r fun _ _ e=>e⟩
  ·exact Zbf I rs bs ha.2 u h
end
end L2
namespace L2
open PySem PySem.Spec PyProof.Rows PySem.W
noncomputable def KeyLe (φ:List Th→Option Th)(a b:Th):Prop:=∃ x y,φ [a]=some x∧φ [b]=some y∧leK x y
structure KeyOk (φ:List Th→Option Th)(ts:List Th):Prop where
 st:ts.all ZmG=true
 is:∀ t∈ts,∃ k,φ [t]=some k∧ZoU k=true
 inj:∀ t∈ts,∀ u∈ts,φ [t]=φ [u]→t=u
theorem KeyOk.anti {φ:List Th→Option Th}{ts:List Th}(k:KeyOk φ ts){a b:Th}(ha:a∈ts)(hb:b∈ts)(h1:KeyLe φ a b)(h2:KeyLe φ b a):a=b:=by
 obtain⟨x,y,e1,e2,l1⟩:=h1
 obtain⟨y',x',e3,e4,l2⟩:=h2
 rw[e2] at e3
 rw[e1] at e4
 cases e3
 cases e4
 exact k.inj a ha b hb (by rw[e1,e2,Zlw l1 l2])
open Classical in
noncomputable def ZcJ (φ:List Th→Option Th)(ts:List Th):Option (List Th):=if h:KeyOk φ ts∧∃ r:List Th,r.Perm ts∧r.Pairwise (KeyLe φ) then some h.2.choose else none
theorem ZfM {φ:List Th→Option Th}{ts r:List Th}(k:KeyOk φ ts)(hp:r.Perm ts)(hs:r.Pairwise (KeyLe φ)):ZcJ φ ts=some r:=by
 have h:KeyOk φ ts∧∃ r:List Th,r.Perm ts∧r.Pairwise (KeyLe φ):=⟨k,r,hp,hs⟩
 unfold ZcJ
 rw[dif_pos h,Z0S.eq_of_pairwise (fun a b ha hb=>k.anti (h.2.choose_spec.1.mem_iff.mp ha) (hp.mem_iff.mp hb)) h.2.choose_spec.2 hs (h.2.choose_spec.1.trans hp.symm)]
theorem Zku {φ:List Th→Option Th}{ts r:List Th}(h:ZcJ φ ts=some r):KeyOk φ ts:=by
 unfold ZcJ at h
 split at h
 ·rename_i z;exact z.1
 ·cases h
theorem Zqo {x1 y1:Int}{x2 y2:List Nat}(h:(decide (y1<x1)||(!decide (x1<y1)&&decide (y2<x2)))=false):leK (.tup [.int x1,.str ⟨x2.toArray⟩]) (.tup [.int y1,.str ⟨y2.toArray⟩]):=by
 refine .is ?_
 simp only[Z5c,Z7H,Z9m,decide_eq_false_iff_not,decide_eq_true_eq] at h
 obtain⟨a1,a2⟩:=h
 rcases a2 with z|z
 ·exact .inl z
 ·by_cases q:x1<y1
  ·exact .inl q
  ·exact .inr ⟨by lia,Z6Q.mp z⟩
noncomputable def Zrm (h:Heap)(u:Value):Th:=let k:=Sg.pairKey Sg.intAtom Sg.strAtom h u;.tup [.int (show Int from k.1),.str ⟨Z5W (show List Nat from k.2)⟩]
section
variable {X:Cx}{pins:List (Addr×Obj)}{σ:St}{H:Hp}{s:Shared}{φ:List Th→Option Th}
theorem Zjh:∀ {ts:List Th},(∀ t∈ts,∃ k,φ [t]=some k∧ZoU k=true)→∃ kts,Paired (fun t kt=>φ [t]=some kt) ts kts∧kts.all ZoU=true
 |[],_=>⟨[],.nil,rfl⟩
 |t::ts,h=>by
  obtain⟨kts,p,a⟩:=Zjh (ts:=ts) fun u hu=>h u (Z9 _ hu)
  obtain⟨k,e,i⟩:=h t Z4
  exact⟨k::kts,.cons e p,by rw[Z3A,i,a];rfl⟩
theorem Zkf (I:Inv X pins σ H s){H2:Hp}{kts ts:List Th}(es:Paired (fun t kt=>φ [t]=some kt) ts kts):∀ {kv ys:List V} {ks us:List Value},Z20 kv ks→Z04 X.K H kv kts→Z20 ys us→Z04 X.K H2 ys ts→kts.all ZoU=true→ts.all ZmG=true →
  ∀ p∈ks.zip us,φ [.str (strOf p.2)]=some (Zrm s.heap p.1):=by
 induction es with
 |nil =>
  intro kv ys ks us r1 b1 r2 b2 _ _ p h
  cases b1
  cases r1
  simp at h
 |cons e es ih =>
  intro kv ys ks us r1 b1 r2 b2 ak at' p h
  cases b1 with
  |cons b1 bs1=>cases r1 with
   |cons r1 rs1=>cases b2 with
    |cons b2 bs2=>cases r2 with
     |cons r2 rs2 =>
      rw[Z3A,Z0a] at ak at'
      rw[Z5V] at h
      rcases Zi.mp h with rfl|h
      ·obtain⟨i,x,rfl⟩:=Zjl ak.1
       obtain⟨z,rfl⟩:=Za4 at'.1
       have q:=ZiE I b1 r1 (fun _ _ e=>e)
       cases b2
       obtain⟨t2,rfl⟩:=r2
       unfold Zrm
       rw[Sg.pairKey_of q]
       exact e.trans (by simp)
      ·exact ih rs1 bs1 rs2 bs2 ak.2 at'.2 p h
theorem ZfI {K:Fg_}:∀ {ys:List V} {us:List Value} {ts:List Th},Z20 ys us→Z04 K H ys ts→ts.all ZmG=true→us.map (fun u=>Th.str (strOf u))=ts∧∀ u∈us,∃ x t,u=.str x t
 |_,_,_,.nil,.nil,_=>⟨rfl,fun _ h=>nomatch h⟩
 |_,_,_,.cons r rs,.cons b bs,h=>by
  rw[Z3A,Z0a] at h
  obtain⟨i1,i2⟩:=ZfI rs bs h.2
  obtain⟨x,rfl⟩:=Za4 h.1
  cases b
  obtain⟨t,rfl⟩:=r
  refine⟨by rw[ZJ,i1];rfl,fun u m=>?_⟩
  rcases Zi.mp m with rfl|m
  ·exact⟨_,_,rfl⟩
  ·exact i2 u m
theorem Zam {K:Fg_}:∀ {us:List Value},(∀ u∈us,∃ x t,u=.str x t)→Z04 K H (us.map nuV) (us.map fun u=>Th.str (strOf u))
 |[],_=>.nil
 |u::us,h=>by
  obtain⟨x,t,rfl⟩:=h u Z4
  exact .cons (.str x) (Zam fun u m=>h u (Z9 _ m))
theorem Zhr {k:Nat}{f a:Addr}{fd:Z06}{ps:List Str}{O:Hid}{xs:List V}{ts r:List Th}{Q:VK}(F:Z4C X.prog X.w X.K X.mg X.base CX0 k f fd ps (spF X.K φ))(hb:Binds X.K fd ps [])(hr:Z4B (k+2) X.A)
  (hO:∀ b,O.has b→∃ o,H b=some o) (I:Inv X pins σ H s) (hq:SqT X.K H a xs) (bx:Z04 X.K (less H O) xs ts) (hs:ZcJ φ ts=some r) (hQ:∀ v H',Z0n H H'→Zm5 X.K H H' O v r→Q v H') :
  wpAny (model X.prog X.w) X.A (call (.builtin "sorted") [.ref a] [(ZV "key",.ref f)]) (EP X pins σ Q) X.xe s:=by
 obtain⟨us,rv,⟨o,ho,hc,n,hd⟩,hz⟩:=I.tuple hq
 have hz:us.length≤sizeLine:=by rw[← rv.length];exact hz
 have ok:=Zku hs
 obtain⟨kts,pk,ak⟩:=Zjh ok.is
 refine call_function_entry_kw kind_sorted plain_sorted entry_sorted (ksk_s1 _ _) ?_
 unfold ZhB
 refine Z0 (m:=checkCount "sorted" 1 1 _) (Za ?_)
 refine Z0 (wpAny_collect_seq a (T:="tuple") (.inr rfl) ho hc hd (fun h1 x1=>?_) (by simpa using hz))
 rw[ZjQ]
 refine Z0 (ZaV ?_ hz)
 have I1:Inv X pins σ H { s with heap:=h1 }:=I.kept (t':=s.toks) x1
 have fpL:=I1.fpOk (b:=h1.objs.size) (Zg _) (I1.hok.fresh (Zg _))
 have hoL:(h1.push (seqObj "list" us.toArray 0)).get? h1.objs.size=some (seqObj "list" us.toArray 0):=Zm _ rfl
 show wpAny _ _ _ _ _ { s with heap:=h1.push (seqObj "list" us.toArray 0) }
 refine Z0 (Z1E (wpAny_call_entry_kw ZsL ⟨_,hoL,rfl⟩ Zsq ?body (ksk_l1 _ _)))
 case body =>
  show wpAny (model X.prog X.w) X.A.in1.in1 (Builtin.«list.sort» ⟨[.ref h1.objs.size],[(ZV "key",.ref f)]⟩) _ _ _
  rw[ksk_t1]
  unfold ksk_tree
  refine Z0 (Z90 hoL rfl ?_)
  refine Z0 (Z3U hoL rfl ?_ (by simpa using hz) (Z0r _))
  obtain⟨e1,ho1⟩:∃ e1,((h1.push (seqObj "list" us.toArray 0)).update h1.objs.size (Z0G fun _=>#[])).get? h1.objs.size=some (seqObj "list" #[] e1):=⟨_,Z92 hoL (fun _=>#[])⟩
  refine Z0 (ZaB ho1 rfl ?_)
  refine Z0 (Z9G ?_ (by simpa using hz))
  have x3:Sg.Ext h1 (((h1.push (seqObj "list" us.toArray 0)).update h1.objs.size (Z0G fun _=>#[])).push (seqObj "tuple" us.toArray 0)):=fun b o e=>by
   refine Z1 _ ?_
   rw[Z2h _ _ _ _ (ZW (Zw e))]
   exact Z1 _ e
  have ho3:=Z1 (seqObj "tuple" us.toArray 0) ho1
  generalize hh3:((h1.push (seqObj "list" us.toArray 0)).update h1.objs.size (Z0G fun _=>#[])).push (seqObj "tuple" us.toArray 0)=h3 at x3 ho3
  have I3:Inv X (pins++[(h1.objs.size,seqObj "list" #[] e1)]) σ H { s with heap:=h3 }:=(I1.kept (t':=s.toks) x3).pins_of fun p hp=>by
   rcases ZQ.mp hp with q|q
   ·exact (I1.kept (t':=s.toks) x3).pin p (ZH _ q)
   ·rw[Z0c] at q
    subst q
    exact⟨ho3,fpL.1,fpL.2.1,fpL.2.2.1,fun v z=>by cases z⟩
  have I3':Inv (X.within X.A.in1.in1) (pins++[(h1.objs.size,seqObj "list" #[] e1)]) σ H { s with heap:=h3 }:=I3.within rfl rfl
  have fpK:=I3'.fpOk (b:=h3.objs.size) (Zg _) (I3'.hok.fresh (Zg _))
  have hne:h3.objs.size≠h1.objs.size:=Z2V (Zw ho3)
  have I4:Inv (X.within X.A.in1.in1) (pins++[(h1.objs.size,seqObj "list" #[] e1)]) σ H { s with heap:=h3.push (seqObj "list" #[] 0) }:=I3'.kept (t':=s.toks) fun b u e=>Z1 _ e
  refine Z0 (ZaV ?_ (Z0r _))
  refine Z1E ?_
  show wpAny _ _ _ _ _ { s with heap:=h3.push (seqObj "list" #[] 0) }
  refine Zjg (X:=X.within X.A.in1.in1) F hb hr.in1.in1 hO (fun e s h=>h) rv bx pk hz ⟨H,[],[],0,I4,fun _ _ e=>e,fpK,Zm _ rfl,.nil,.nil,rfl⟩ fun s' K=>?_
  obtain⟨H',ks,kv,e,I7,sm,fp7,hS7,rvk,bk,hl⟩:=K.ex
  have hkl:kts.length=us.length:=by rw[← pk.length,← bx.length,rv.length]
  rw[Z0s (by lia)] at bk
  obtain⟨pL,nL,-⟩:=I7.pin (h1.objs.size,seqObj "list" #[] e1) (ZH _ (ZH _ Z4))
  refine Z0 (Z90 hS7 rfl ?_)
  have bk2:=bk.mono (Z0f H' O)
  refine Sg.key_end (Sg.sorts_pairs Sg.intAtom Sg.strAtom s'.heap (Zbf I7 rvk bk2 ak)) (fun k v h=>h) hl pL hS7 hne (Sg.Ext.refl _) hz fun out h' o1 o2 keep hL'=>⟨_,rfl,?_⟩
  refine Za ⟨_,rfl,?_⟩
  obtain⟨n',hL'⟩:=hL'
  have zk:=Zkf I7 pk rvk bk2 rv bx ak ok.st
  obtain⟨tx1,tx2⟩:=ZfI rv bx ok.st
  have mo:∀ p∈out,p∈ks.zip us:=fun p hp=>o1.mem_iff.mp hp
  have mu:∀ u∈out.map (·.2),u∈us:=fun u hu=>by
   obtain⟨p,hp,rfl⟩:=ZT.mp hu
   exact (Z5s (a:=p.1) (b:=p.2) (mo p hp)).2
  have er:r=(out.map (·.2)).map fun u=>Th.str (strOf u):=by
   have pm:((out.map (·.2)).map fun u=>Th.str (strOf u)).Perm ts:=by
    have z:=(o1.map (·.2)).map fun u=>Th.str (strOf u)
    rw[ZmY (by lia),tx1] at z
    exact z
   have pw:((out.map (·.2)).map fun u=>Th.str (strOf u)).Pairwise (KeyLe φ):=by
    rw[Z1M,Z1M]
    refine o2.imp_of_mem fun {p q} hp hq' hle=>⟨_,_,zk p (mo p hp),zk q (mo q hq'),?_⟩
    have hle:(Sg.lexOrd Sg.intOrd strKind.toKeyOrd).blt (Sg.pairKey Sg.intAtom Sg.strAtom s'.heap q.1) (Sg.pairKey Sg.intAtom Sg.strAtom s'.heap p.1)=false:=hle
    unfold Zrm
    generalize Sg.pairKey Sg.intAtom Sg.strAtom s'.heap p.1=x at hle
    generalize Sg.pairKey Sg.intAtom Sg.strAtom s'.heap q.1=y at hle
    obtain⟨x1,x2⟩:=x
    obtain⟨y1,y2⟩:=y
    exact @Zqo x1 y1 x2 y2 hle
   have:=ZfM ok pm pw
   rw[hs] at this
   exact Z0e this
  have lo:(out.map (·.2)).length=us.length:=by rw[Ze,o1.length_eq,ZoP];lia
  have I8:Inv X pins σ H' s':=Inv.without I.ok (I7.pins_of fun p hp=>I7.pin p (ZH _ (Z08 _ hp)))
  have I9:Inv X pins σ H' { s' with heap:=h' }:=I8.turned2 (t':=s'.toks) (e:=h1.objs.size) (it:=h3.objs.size) (fun b o b1 b2 q=>keep b o b1 b2 q) nL fpL.2.1 fpL.2.2.2.1 fpL.2.2.2.2.1 fpL.2.2.2.2.2
   fp7.1 fp7.2.1 fp7.2.2.2.1 fp7.2.2.2.2.1 fun p hp=>fp7.2.2.2.2.2 p (by
    rcases ZQ.mp hp with q|q
    ·exact Z08 _ q
    ·exact ZH _ (Z08 _ q))
  have s0:X.s₀.heap.objs.size≤h1.objs.size:=I1.sz
  refine⟨.ref h1.objs.size,upd H' h1.objs.size (.lst ((out.map (·.2)).map nuV)),I9.track nL s0 fpL.2.1 fpL.2.2.2.2.1 fpL.2.2.2.2.2 ⟨?_,_,n',Z7q fun u hu=>ZbC rv u (mu u hu),hL'⟩,rfl,?_⟩
  ·rw[Ze,lo];exact hz
  ·refine hQ _ _ (sm.trans (Z0n.upd nL)) ⟨_,_,rfl,fpL.1,Z1b,?_⟩
   rw[er]
   exact Zam fun u hu=>tx2 u (mu u hu)
end
section
variable {X:Cx}{K:Fg_}{e:Expr}{fs:FL}{p pos kp kq:Pos}{k:Nat}{x:Str}{φ:List Th→Option Th}
noncomputable def Zbi (φ:List Th→Option Th)(fs:FL):FL:=fun d=>(fs d).bind fun Ts=>match Ts with|[.tup ts]=>ZcJ φ ts|_=>none
theorem ZkK (c:Callee X.prog X.w X.K X.mg X.base k x φ) (hr:Z4B (k+2) X.A) (hx:Gl X x) (hg:Gl X "sorted") (hm:X.mg "sorted"=none) (ha:PBA X [e] fs) (hdb:(x == ("__debug__":Str))=false:=by decide)
  (he:backTo pos (starEach [e] X.env)=(false,eval e X.env)::backTo pos (starEach [] X.env):=by rfl) (hplain:(backTo pos (starEach [e] X.env)).any (·.1)=false:=by rfl)
  (hall:(backToKw pos (keywordEach [⟨some (ZV "key"),.Name x kq,kp⟩] X.env)).all (·.1.isSome)=true:=by rfl) (hkw:(backToKw pos (keywordEach [⟨some (ZV "key"),.Name x kq,kp⟩] X.env)).any (·.1.isNone)=false:=by rfl)
  (hz:∀ v:Value,((backToKw pos (keywordEach [⟨some (ZV "key"),.Name x kq,kp⟩] X.env)).filterMap (·.1)).zip [v]=[(ZV "key",v)]:=by intro _;rfl) :
  PF X (.Call (.Name "sorted" p) [e] [⟨some (ZV "key"),.Name x kq,kp⟩] pos) (Zbi φ fs):=by
 intro pins s σ H Q I ⟨O,d,T,R,ef,q⟩
 obtain⟨f,fd,ps,F,hmx,hk,hb⟩:=c.ex
 unfold Zbi at ef
 cases hf:fs d with
 |none=>rw[hf] at ef;cases ef
 |some Ts =>
  rw[hf] at ef
  match Ts,hf,ef with
  |[.tup ts],hf,ef =>
   change ZcJ φ ts=some T at ef
   refine Z2D (Z6K I hg hm (by rfl) ?_ (by decide) (by decide))
   refine callWith_kw ?_ he hplain hall hkw
   refine thn (ha pos pins s σ H _ I ⟨O,d,_,R,hf,fun vs H1 s1 b1=>(⟨s1,b1⟩:Z0n H H1∧Paired (Z9c X.K H1 O) vs [.tup ts])⟩) fun us s1 z1_=>?_
   obtain ⟨vs,H1,I1,r1,sm,b1⟩:=z1_
   obtain⟨v1,rfl,b3⟩:=Z4Y b1
   obtain⟨u1,rfl,ru⟩:=vals1 r1
   obtain⟨a,xs,rfl,hq,bx⟩:=b3.tup
   cases ru
   refine kws_cons (Zje I1 hx hmx (kws_nil ?_) hdb)
   rw[hz]
   refine Zhr F hb hr (fun b hb=>(R.mono sm).there b hb) I1 ((Z0f _ _).seqT hq) bx ef fun v H' s2 fr=>q v H' (sm.trans s2) ?_
   obtain⟨b,zs,h1,h2,h3,h4⟩:=fr
   refine⟨b,zs,h1,?_,h3,h4⟩
   cases hH:H b with
   |none=>rfl
   |some o=>rw[sm b o hH] at h2;cases h2
end
noncomputable def spN (K:Fg_)(φ:List Th→Option (List Th)):Sp:=fun vs H Q _=>∃ (Z:Addr→Prop) (Ts ts:List Th),(∀ b,Z b→∃ o,H b=some o)∧Z04 K (less H ⟨[],Z⟩) vs Ts∧φ Ts=some ts∧∀ v H',Z0n H H'→Zm5 K H H' ⟨[],Z⟩ v ts→Q v H'
structure Zcl (P:Program)(w:World)(K:Fg_)(mg:Str→Option Value)(base:Heap)(k:Nat)(x:Str)(φ:List Th→Option (List Th)):Prop where
 ex:∃ (f:Addr) (fd:Z06) (ps:List Str),Z4C P w K mg base CX0 k f fd ps (spN K φ)∧mg x=some (.ref f)∧ZF K (.ref f)=true∧Binds K fd ps []
noncomputable def Z88 (φ:List Th→Option (List Th))(g:FL):FL:=fun d=>(g d).bind φ
section
variable {X:Cx}{k:Nat}{x:Str}{φ:List Th→Option (List Th)}{e:Expr}{es:List Expr}{g:FL}{p pos:Pos}
theorem ZkP (c:Zcl X.prog X.w X.K X.mg X.base k x φ) (hr:Z4B k X.A) (hg:Gl X x) (ha:PDA X (e::es) g) (hdb:(x == ("__debug__":Str))=false:=by decide) (he:starEach (e::es) X.env=(false,eval e X.env)::starEach es X.env:=by rfl) (hpl:(backTo pos (starEach es X.env)).any (·.1)=false:=by rfl) :
  PF X (.Call (.Name x p) (e::es) [] pos) (Z88 φ g):=by
 obtain⟨f,fd,ps,F,hm,hk,hb⟩:=c.ex
 refine PE.imp (Ziv F hr hg hm hk hb .nil ZnW ha hdb he hpl) fun σ H Q z1_=>?_
 obtain ⟨O,d,T,R,e,q⟩:=z1_
 unfold Z88 at e
 cases hgd:g d with
 |none=>rw[hgd] at e;cases e
 |some Ts =>
  rw[hgd] at e
  refine⟨O,d,Ts,R,hgd,fun vs H1 s1 b=>?_⟩
  show spN X.K φ (vs++[]) H1 Q E0
  rw[Z1z]
  refine⟨O.has,Ts,T,fun a ha=>(R.mono s1).there a ha,by rw[Z83];exact b,e,fun v H' s' fr=>q v H' (s1.trans s') ?_⟩
  obtain⟨a,xs,rfl,h1,h2,h3⟩:=fr
  refine⟨a,xs,rfl,s1.free h1,h2,h3.mono fun b o hb=>?_⟩
  obtain⟨z1,z2⟩:=of_less hb
  refine Z28 z1 fun z=>z2 ?_
  rcases z with z|z
  ·rcases Zi.mp z with z|z
   ·exact .inl (Zi.mpr (.inl z))
   ·exact .inr (.inl z)
  ·exact .inr (.inr z)
end
noncomputable def Zr6 (X:Cx)(body:List Stmt)(F:FS)(i:Nat):Prop:=PSs X body fun D σ H=>∃ O d d' ts,Rep X.K H O σ d∧F d=some (.nx d')∧d'[i]?=some (some (.own ts)) ∧
 ∀ a xs H' O',O'.far=O.far→Z0n (low H O) (low H' O')→(i,a)∈O'.own→H' a=some (.lst xs)→Z04 X.K (less H' O') xs ts→D.rt (.ref a) H'
section
variable {X:Cx}{F G:FS}{st:Stmt}{rest:List Stmt}{i:Nat}{o:Expr}{pos:Pos}
theorem ZkG (ho:PE X o (Zmd i)):Zr6 X [.Return (some o) pos] Z0Y i:=PSs.imp (Zik (Zmq ho)) fun D σ H z1_=>by
 obtain ⟨O,d,d',ts,R,e,hd,q⟩:=z1_
 cases e
 obtain⟨a,xs,h1,h2,h3,h4,h5⟩:=R.own i ts hd
 exact⟨_,h2,q a xs H O rfl (Z0n.refl _) h1 h3 h5⟩
theorem Zd1 (h1:PDS X st F)(h2:Zr6 X rest G i):Zr6 X (st::rest) (Z1L F G) i:=PSs.imp (Zg0 h1 h2) fun D σ H z1_=>by
 obtain ⟨O,d,d',ts,R,e,hd,q⟩:=z1_
 unfold Z1L at e
 cases hF:F d with
 |none=>rw[hF] at e;cases e
 |some o1 =>
  rw[hF] at e
  refine⟨O,d,o1,R,hF,?_⟩
  cases o1 with
  |nx d1=>exact fun σ' H' O' hf s R'=>⟨O',d1,d',ts,R',e,hd,fun a xs H2 O2 hf2 s2=>q a xs H2 O2 (hf2.trans hf) (s.trans s2)⟩
  |rt T=>cases e
  |bk d'=>cases e
  |xc c=>cases e
  |ct d'=>cases e
end
section
variable {P:Program}{w:World}{K:Fg_}{mg:Str→Option Value}{base:Heap}
noncomputable def Zpf (n m i:Nat)(b:FS):List Th→Option (List Th):=fun Ts=>if Ts.length=n then (match b (Ts.map (fun T=>some (Dv.th T))++Zj (m-Ts.length) none) with
 |some (.nx d)=>(match d[i]? with|some (some (.own ts))=>some ts|_=>none)
 |_=>none) else none
theorem Fun.okN {x qual:Str}{st:Stmt}{f:Addr}{fd:Z06}{N ps:List Str}{k n m i:Nat}{body:FS}(F:Fun K x qual st f fd)(S:Z0O N ps (Zt st))(hps:ps.length=n)(hN:N.length=m)
  (hb:∀ (cdv:Value) (A:Around) (outer:List Env) (s:Shared) (H:Hp) (E:XK),Z4B k (A.deeper (envOfC qual (Zt st) s.heap.objs.size f cdv))→Zr6 (ZlR CX0 P w K mg base N qual (Zt st) f cdv A outer s H E).nox (Z0A st) body i) :
  Z4C P w K mg base CX0 (k+1) f fd ps (spN K (Zpf n m i body)):=by
 have run:∀ Ts ts,Zpf n m i body Ts=some ts→Ts.length=ps.length∧∃ d',body (Z7l N Ts)=some (.nx d')∧d'[i]?=some (some (.own ts)):=fun Ts ts e=>by
  unfold Zpf at e
  split at e
  ·rename_i hl
   refine⟨hl.trans hps.symm,?_⟩
   subst hN
   split at e
   ·rename_i d hd
    split at e
    ·rename_i us hu
     cases e
     exact⟨d,hd,hu⟩
    ·cases e
   ·cases e
  ·cases e
 refine F.ok S (fun vs H Q E z1_=>by obtain ⟨Z,Ts,ts,_,b,e,_⟩:=z1_;rw[b.length];exact (run Ts ts e).1) fun cdv A outer s H vs Q E hr z1_=>?_
 obtain ⟨Z,Ts,ts,hz,b,e,q⟩:=z1_
 obtain⟨-,d',e1,e2⟩:=run Ts ts e
 refine⟨_,hb cdv A outer s H E hr,⟨[],Z⟩,Z7l N Ts,d',ts,ZcS b rfl hz,e1,e2,fun a xs H' O' hf s' ho hx hbr=>q _ H' ?_ ⟨a,xs,rfl,?_,hx,hbr.mono fun c oc hc=>?_⟩⟩
 ·rw[ZbY] at s'
  exact s'.trans (Z9Z _ _)
 ·rw[ZbY] at s'
  cases hH:H a with
  |none=>rfl
  |some oc=>exact absurd (ZT.mpr ⟨_,ho,rfl⟩) (Zbb (s' a oc hH)).2
 ·obtain⟨z1,z2⟩:=of_less hc
  refine Z28 z1 fun z=>z2 ?_
  rcases z with z|z
  ·rcases Zi.mp z with z|z
   ·rw[z];exact .inl (ZT.mpr ⟨_,ho,rfl⟩)
   ·cases z
  ·refine .inr ?_
   rw[hf]
   exact z
theorem Fun.calleeN {x qual:Str}{st:Stmt}{f:Addr}{fd:Z06}{ps:List Str}{k:Nat}{φ:List Th→Option (List Th)}(F:Fun K x qual st f fd)(G:Z4C P w K mg base CX0 k f fd ps (spN K φ))(hm:mg x=some (.ref f))(hb:Binds K fd ps []):Zcl P w K mg base k x φ:=⟨f,fd,ps,G,hm,F.kp,hb⟩
end
noncomputable def Zc5 (j:Nat):FS:=fun d=>match d[j]? with
 |some (some (.own ts))=>(ts[ts.length-1]?).bind fun _=>some (.nx (d.set j (some (.own ts.dropLast))))
 |_=>none
section
variable {X:Cx}{o:Expr}{j:Nat}{pos apos cpos:Pos}
theorem ZkX (ho:PE X o (Zmd j)) (hbase:attributeBase o "pop" X.env (eval o X.env)=eval o X.env:=by rfl) (hline:(apos.endLine == cpos.line)=true:=by rfl)
  (hsw:swapsWith (.Call (.Attribute o "pop" apos) [] [] cpos) none pos.line X.env=pure false:=by rfl):PDS X (.Expr (.Call (.Attribute o "pop" apos) [] [] cpos) pos) (Zc5 j) :=
 PS.imp (ZeI (ZpH Z6l PySem.F.slot_list_pop PySem.F.type_list_pop Zqk ho hbase hline) hsw) fun D σ H z1_=>by
  obtain ⟨O,d,ou,R,e,q⟩:=z1_
  unfold Zc5 at e
  split at e
  ·rename_i ts hd
   cases ht:ts[ts.length-1]? with
   |none=>rw[ht] at e;cases e
   |some T =>
    rw[ht] at e
    cases e
    obtain⟨a,xs,h1,h2,h3,h4,h5⟩:=R.own j ts hd
    obtain⟨y,hy,by'⟩:=h5.get ht
    refine⟨_,h2,.inl ⟨rfl,xs,SqL.of h3⟩,a,xs,y,rfl,rfl,h3,by rw[h5.length];exact hy,?_⟩
    obtain⟨R',s'⟩:=R.putL hd h1 h2 h4 h5.dropLast
    exact q _ _ O rfl s' R'
  ·cases e
end
end L2
namespace HT
open PySem PyProof.Rows PySem.Builtin
theorem ZiZ:typeLookup (.type "list_reverseiterator") "__len__"=pure none:=by rw[Z6f,Z3N];kernel_rfl
theorem ZlD:typeLookup (.type "list_reverseiterator") "__length_hint__"=pure (some (.builtin "list_reverseiterator.__length_hint__")):=by rw[Z6f,Z3N];kernel_rfl
section
variable {prog:Program}{w:World}{A:Around}{E:Value→Shared→Prop}{s:Shared}
noncomputable abbrev ZdL (c:Nat):Obj:={ cls:=.type "list",data:=.seq #[] c }
theorem ZlC {R:Result→Shared→Prop}{S it l:Addr}{items:Array Value}(hh:A.handled=none)(hne:l≠it)(hSi:S≠it)(hSl:S≠l)(hit:s.heap.IsRevIter it l ((items.size:Int)-1))(hl:s.heap.IsList l items)(hn:items.size≤sizeLine)
  (hS:s.heap.get? S=some (ZdL 0))
  (hR:∀ s' acc' c',Moved [S,it] (fun a b=>b=a) s s'→s'.heap.get? S=some { cls:=.type "list",dict:=none,data:=.seq acc' c',slots:=#[] }→ItemsOf (fun i v=>items[items.size-1-i]?=some v) acc' items.size→R (.ok (.ret .none)) s') :
  wpAny (model prog w) A.in1 (Builtin.«list.__init__» ⟨[.ref S,.ref it],[]⟩)
   (fun fin s'=>match fin with|.done f=>R (.ok f) s'|.again c'=>c'.quiet=true∧codeAny (model prog w) A c' R s') (fun e s'=>R (.error e) s') s:=by
 have W:=(Walks.listRev (prog:=prog) (w:=w) (A:=A.in1) hh it l hne items).toS
 have hSf:S∉[it,l]:=by simp[hSi,hSl]
 have hG:∀ (a b c:Array Ztc),b=a→c=b→c=a:=fun a b c h1 h2=>h2.trans h1
 show wpAny _ A.in1 (do let old ← Z5S (.ref S);Zaw (.ref S) (fun _=>#[]);letGo old.toList.reverse;Z0U (.ref S) (.ref it) .none) _ _ s
 refine Z0 ?_
 unfold Z5S
 refine Z0 (Z1W hS rfl (Za ?_))
 show wpAny _ A.in1 (updateSeq S (fun _=>#[])>>=fun _=>letGo (#[]:Array Value).toList.reverse>>=fun _=>Z0U (.ref S) (.ref it) .none) _ _ s
 refine Z0 (Z4I hS rfl ?_)
 have hS₂:=Z1q (Z0G (fun _=>(#[]:Array Value))) hS rfl
 have oth:∀ b o,b≠S→s.heap.get? b=some o→(s.heap.update S (Z0G (fun _=>(#[]:Array Value)))).get? b=some o :=
  fun b o hb e=>(Z1c _ _ (Z2q hb)).trans e
 have h0:0≤items.size∧(s.heap.update S (Z0G (fun _=>(#[]:Array Value)))).IsRevIter it l ((items.size:Int)-1-((0:Nat):Int))∧(s.heap.update S (Z0G (fun _=>(#[]:Array Value)))).IsList l items :=
  ⟨Z0r _,by simpa using hit.at fun o e=>oth _ o (Z2q hSi) e,hl.at fun o e=>oth _ o (Z2q hSl) e⟩
 refine Z0 (Z57 ?_)
 have hT:ZoL { s with heap:=s.heap.update S (Z0G (fun _=>(#[]:Array Value))) } (.ref it) "list_reverseiterator":=h0.2.1.typeIs
 unfold Z0U
 refine Z0 (Z5g hT ?_)
 have h1:Z2m (.ref S) (.ref it)=false:=by simp[Z2m,hSi]
 rw[if_neg (by rw[h1];decide)]
 refine Z0 (W.self 0 _ _ _ h0 ?_)
 refine Z0 (Z1E ?_)
 unfold Z8J
 refine Z0 (ZfC hT ZiZ ?_)
 show wpAny _ A.in1 (specialOf (Z48 it) (ZV "__length_hint__")>>=_) _ _ _
 refine Z0 (ZfC hT ZlD ?_)
 generalize hid:("list_reverseiterator.__length_hint__":String)=id0
 wp_delta
 rw[show splitId id0=some ("list_reverseiterator","__length_hint__") from by subst hid;decide +kernel]
 subst hid
 refine Z0 (Z7Q (b:=true) hT (by rw[Za3];kernel_rfl) ?_)
 refine Za ?_
 rw[if_neg (by decide)]
 refine Za ⟨Z3b PySem.F.plain_extend_loop _,ZoE W hn _ hSf _ items.size 0 _ _ _ rfl (Z0r _) h0 hS₂ (Zp0 _) fun s' acc' c' hm hS' hacc=>?_⟩
 have m0:Moved [S,it] (fun a b=>b=a) s { s with heap:=s.heap.update S (Z0G (fun _=>(#[]:Array Value))) }:=⟨fun b o hb e=>oth b o (fun h=>hb (by simp[h])) e,rfl,rfl,rfl,Zg _⟩
 exact hR s' acc' c' (Moved.trans hG m0 hm) hS' hacc
theorem call_list_rev {it l:Addr}{items:Array Value}{Q:Value→Shared→Prop}(hh:A.handled=none)(hne:l≠it)(hit:s.heap.IsRevIter it l ((items.size:Int)-1))(hl:s.heap.IsList l items)(hn:items.size≤sizeLine)
  (hQ:∀ s' c',Moved [s.heap.objs.size,it] (fun a b=>b=a) { s with heap:=s.heap.push (ZdL 0) } s'→s'.heap.get? s.heap.objs.size=some { cls:=.type "list",dict:=none,data:=.seq items.toList.reverse.toArray c',slots:=#[] }→Q (.ref s.heap.objs.size) s') :
  wpAny (model prog w) A (call (.type "list") [.ref it]) Q E s:=by
 have hSi:s.heap.objs.size≠it:=by obtain⟨o,e,_⟩:=hit;exact Z2V (Zw e)
 have hSl:s.heap.objs.size≠l:=by obtain⟨o,e,_⟩:=hl;exact Z2V (Zw e)
 refine callType_codes (Q₁:=fun obj s₁=>obj=.ref s.heap.objs.size∧s₁={ s with heap:=s.heap.push (ZdL 0) }) PySem.F.called_list (PySem.F.typeCall_list_1 _) PySem.F.entry_list_init
  (code_list_new _ ⟨rfl,rfl⟩) fun obj s₁ h₁=>?_
 obtain⟨rfl,rfl⟩:=h₁
 have hS:(s.heap.push (ZdL 0)).get? s.heap.objs.size=some (ZdL 0):=Zm _ rfl
 refine⟨⟨_,hS,rfl⟩,PySem.F.args_list_init_2 _ _,ZlC hh hne hSi hSl (hit.at fun o e=>Z1 _ e) (hl.at fun o e=>Z1 _ e) hn hS fun s' acc' c' hm hS' hacc=>⟨rfl,hQ s' c' hm ?_⟩⟩
 rw[hS']
 have:acc'=items.toList.reverse.toArray:=by
  obtain⟨z1,z2⟩:=hacc
  apply Zn2 (by simp[z1])
  intro i h1 h2
  have:items[items.size-1-i]?=some acc'[i]:=z2 i acc'[i] (Z0b h1)
  have h3:i<items.size:=by rw[← z1];exact h1
  have h4:items[items.size-1-i]?=some (items[items.size-1-i]'(by omega)):=Z0b (by lia)
  rw[h4] at this
  have h5:=Z0e this
  rw[← h5]
  simp[List.getElem_reverse]
 rw[this]
end
end HT
namespace L2
open PySem PySem.Spec PyProof.Rows
noncomputable def ZfU (K:Fg_):List V→Hp→VK→Prop:=fun xs H Q=>∃ p ys,xs=[.ref p]∧SqL K H p ys∧∀ l,H l=none→Q (.ref l) (upd H l (.lst ys.reverse))
noncomputable def Z75:List Th→Option Th
 |[.lst ts]=>some (.lst ts.reverse)
 |_=>none
section
variable {X:Cx}{K:Fg_}{e:Expr}{es:List Expr}{fs:FL}{t:TA}{p pos p2 pos2:Pos}
theorem ZgU (hc:X.calm=true) (hg:Gl X "list") (hm:X.mg "list"=none) (hg2:Gl X "reversed") (hm2:X.mg "reversed"=none) (ha:PA X (e::es) t)
  (he:starEach (e::es) X.env=(false,eval e X.env)::starEach es X.env:=by rfl) (hpl:(backTo pos2 (starEach es X.env)).any (·.1)=false:=by rfl)
  (he2:starEach [.Call (.Name "reversed" p2) (e::es) [] pos2] X.env=(false,eval (.Call (.Name "reversed" p2) (e::es) [] pos2) X.env)::starEach [] X.env:=by rfl) (hpl2:(backTo pos (starEach ([]:List Expr) X.env)).any (·.1)=false:=by rfl) :
  PE X (.Call (.Name "list" p) [.Call (.Name "reversed" p2) (e::es) [] pos2] [] pos) (tCB (ZfU X.K) t):=by
 intro pins s σ H Q I h
 refine Z2D (Z6K I hg hm (by rfl) ?_)
 refine Z0T ?_ he2 hpl2
 rw[he2]
 show wpAny _ _ (spliced ((false,eval (.Call (.Name "reversed" p2) (e::es) [] pos2) X.env)::backTo pos (starEach [] X.env))) _ _ s
 refine ZjW ?_
 refine Z2D (Z6K I hg2 hm2 (by rfl) ?_)
 refine Z0T (thn (ha pos2 pins s σ H _ I h) fun us s1 z1_=>?_) he hpl
 obtain ⟨vs,H1,I1,r1,q1⟩:=z1_
 obtain⟨l,ys,rfl,hq,q⟩:=q1
 obtain⟨u,rfl,rx⟩:=vals1 r1
 cases rx
 obtain⟨its,r',pl,hz⟩:=I1.list hq
 have hl:=pl.isList
 have hlt:l<s1.heap.objs.size:=by obtain⟨o,e,_⟩:=hl;exact Zw e
 refine call_reversed_list hl ?_
 refine Zkb ?_
 have kp:∀ b o,s1.heap.get? b=some o→(s1.heap.push (revObj l ((its.toArray.size:Int)-1))).get? b=some o:=fun b o e=>Z1 _ e
 refine HT.call_list_rev (I.ok.hd hc) (ZW hlt) ⟨_,Zm _ rfl,rfl,rfl⟩ (hl.at fun o e=>kp _ o e) (by rw[Zl,← r'.length];exact hz) fun s' c' hm hS=>?_
 have hz2:(s1.heap.push (revObj l ((its.toArray.size:Int)-1))).objs.size=s1.heap.objs.size+1:=Z1P ..
 dsimp only at hm hS ⊢
 rw[hz2] at hm hS ⊢
 obtain⟨m1,m2,m3,m4,m5⟩:=hm
 obtain⟨h',g',d',t',o'⟩:=s'
 have k2:∀ b o,s1.heap.get? b=some o→h'.get? b=some o:=fun b o e=>by
  have:=Zw e
  exact m1 b o (by simp;lia) (Z1 _ (kp b o e))
 cases m2
 cases m3
 cases m4
 refine⟨.ref (s1.heap.objs.size+1),_,I1.laid (t':=t') k2 (Z2z _) (show Z7E X.prog X.w _ h' _ (.lst ys.reverse) from ⟨by rw[Z8F];exact hz,its.reverse,c',r'.reverse,hS⟩),rfl,q _ (I1.hok.fresh (Z2z _))⟩
theorem Zcb:ZhA K (ZfU K) Z75:=fun H O vs ts z Q hn h e q=>by
 unfold Z75 at e
 split at e
 ·obtain⟨v,rfl,h1⟩:=Z4Y h
  cases e
  obtain⟨a,xs,rfl,h2,b⟩:=h1.lst
  exact⟨a,xs,rfl,h2,fun p hp=>q _ _ (Z0n.upd hp) (.lst (SqL.of (Z28 Z1b (hn p hp))) (b.reverse.mono (Z0M (Z0n.upd hp))))⟩
 ·cases e
theorem Zh1 (hc:X.calm=true) (hg:Gl X "list") (hm:X.mg "list"=none) (hg2:Gl X "reversed") (hm2:X.mg "reversed"=none) (ha:PBA X (e::es) fs)
  (he:starEach (e::es) X.env=(false,eval e X.env)::starEach es X.env:=by rfl) (hpl:(backTo pos2 (starEach es X.env)).any (·.1)=false:=by rfl)
  (he2:starEach [.Call (.Name "reversed" p2) (e::es) [] pos2] X.env=(false,eval (.Call (.Name "reversed" p2) (e::es) [] pos2) X.env)::starEach [] X.env:=by rfl) (hpl2:(backTo pos (starEach ([]:List Expr) X.env)).any (·.1)=false:=by rfl) :
  PD X (.Call (.Name "list" p) [.Call (.Name "reversed" p2) (e::es) [] pos2] [] pos) (fCB Z75 fs) :=
 PE.imp (ZgU hc hg hm hg2 hm2 ha he hpl he2 hpl2) (Zfl Zcb)
end
end L2
namespace HT
open PySem PyProof.Rows PySem.Builtin
section
variable {prog:Program}{w:World}{A:Around}{E:Value→Shared→Prop}{s:Shared}{z TI TO i1 i2 l1 l2:Addr}{k:Nat}{xs ys:Array Value}{a b:Value}
structure ZipT (h:Heap)(z TI TO i1 i2 l1 l2:Addr)(k:Nat):Prop where
 z:IsZip h z TI TO .none
 ti:IsPair h TI (.ref i1) (.ref i2)
 to:∃ a b,IsPair h TO a b
 i1:h.IsTupleIter i1 l1 k
 i2:h.IsTupleIter i2 l2 k
noncomputable abbrev KeepZ (z TO i1 i2:Addr)(h h':Heap):Prop:=∀ c o,c∉[z,TO,i1,i2]→h.get? c=some o→h'.get? c=some o
theorem Zke {Q:Fin→Shared→Prop}(D:Ztb z TI TO i1 i2 l1 l2)(Z:ZipT s.heap z TI TO i1 i2 l1 l2 k)(h1:s.heap.IsTuple l1 xs)(h2:s.heap.IsTuple l2 ys)
  (hh:A.handled=none)
  (hQ:∀ x y h',xs[k]?=some x→ys[k]?=some y→IsZip h' z TI TO (rawInt s.heap.objs.size)→IsPair h' TO x y→h'.IsTupleIter i1 l1 (k+1)→h'.IsTupleIter i2 l2 (k+1)→IsPair h' s.heap.objs.size x y→KeepZ z TO i1 i2 s.heap h' →
   Q (.done (.ret (.ref s.heap.objs.size))) { s with heap:=h' })
  (hE:(xs[k]?=none∨ys[k]?=none)→∀ h' e,KeepZ z TO i1 i2 s.heap h'→(∃ o,h'.get? e=some o∧o.cls=.type "StopIteration")→E (.ref e) { s with heap:=h' }) :
  wpAny (model prog w) A (Builtin.«zip.__next__» ⟨[.ref z],[]⟩) Q E s:=by
 obtain⟨hz,hTI,⟨a,b,hTO⟩,t1,t2⟩:=Z
 show wpAny _ _ (field (.ref z) 2>>=_) _ _ _
 refine Z0 (Z3a hz rfl (x:=.bool false) rfl ?_)
 show wpAny _ _ (field (.ref z) 3>>=_) _ _ _
 refine Z0 (Z3a hz rfl (x:=.ref TI) rfl ?_)
 refine Z0 (Z1W hTI rfl ?_)
 show wpAny _ _ (Z5R (.ref z)>>=_) _ _ _
 refine Z0 ?_
 unfold Z5R
 refine Z0 (Z3a hz rfl (x:=.none) rfl (Za ?_))
 simp only[if_true]
 refine Z0 (Z2A ?_)
 refine Z0 (Z3a hz rfl (x:=.ref TO) rfl ?_)
 refine Z0 (Z4J hz (by simp) fun g1 z1 s1=>?_)
 replace z1:IsZip g1 z TI TO .ellipsis:=z1
 refine Z0 ?_
 simp only[ZmV,List.zipIdx_nil,Z5v,List.forIn_nil]
 refine Z0 (Z0 (Zt5 ?_))
 show wpAny _ _ (Z1v (.ref i1)>>=_) _ _ _
 cases hx:xs[k]? with
 |none =>
  refine Z0 (Z4D hh (t1.extBut s1.extBut D.i1z) (h1.extBut s1.extBut D.l1z) hx fun g2 e s2 z1_=>?_)
  obtain ⟨oe,hoe,hce⟩:=z1_
  have z2:IsZip g2 z TI TO .ellipsis:=s2 _ _ D.i1z.symm z1
  have hez:e≠z:=fun x=>by subst x;rw[z2] at hoe;cases hoe;simp at hce
  refine Z4J z2 (by simp) fun g3 _ s3=>hE (.inl hx) g3 e (fun c o hc x=>?_) ⟨oe,s3.extBut _ _ hez hoe,hce⟩
  simp only[Zi,not_or] at hc
  exact s3.extBut _ _ hc.1 (s2 _ _ hc.2.2.1 (s1.extBut _ _ hc.1 x))
 |some x =>
  refine Z0 (Z4n (t1.extBut s1.extBut D.i1z) (h1.extBut s1.extBut D.l1z) hx fun g2 u1 s2=>Za ?_)
  have p2:IsPair g2 TO a b:=s2.extBut _ _ D.TOi1 (s1.extBut _ _ D.TOz hTO)
  refine Z0 (Z1W p2 rfl ?_)
  refine Z0 (Zn5 p2 fun g3 p3 s3=>?_)
  replace p3:IsPair g3 TO x b:=p3
  refine Z0 (Z57 (Za ?_))
  refine Z0 (Z0 (Zt5 ?_))
  show wpAny _ _ (Z1v (.ref i2)>>=_) _ _ _
  have v2:=((t2.extBut s1.extBut D.i2z).extBut s2.extBut D.i12.symm).extBut s3.extBut D.TOi2.symm
  have w2:=((h2.extBut s1.extBut D.l2z).extBut s2.extBut D.l2i1).extBut s3.extBut D.l2TO
  cases hy:ys[k]? with
  |none =>
   refine Z0 (Z4D hh v2 w2 hy fun g4 e s4 z1_=>?_)
   obtain ⟨oe,hoe,hce⟩:=z1_
   have z4:IsZip g4 z TI TO .ellipsis:=s4 _ _ D.i2z.symm (s3.extBut _ _ D.TOz.symm (s2.extBut _ _ D.i1z.symm z1))
   have hez:e≠z:=fun x=>by subst x;rw[z4] at hoe;cases hoe;simp at hce
   refine Z4J z4 (by simp) fun g5 _ s5=>hE (.inr hy) g5 e (fun c o hc x=>?_) ⟨oe,s5.extBut _ _ hez hoe,hce⟩
   simp only[Zi,not_or] at hc
   exact s5.extBut _ _ hc.1 (s4 _ _ hc.2.2.2.1 (s3.extBut _ _ hc.2.1 (s2.extBut _ _ hc.2.2.1 (s1.extBut _ _ hc.1 x))))
  |some y =>
   refine Z0 (Z4n v2 w2 hy fun g4 u2 s4=>Za ?_)
   have p4:IsPair g4 TO x b:=s4.extBut _ _ D.TOi2 p3
   refine Z0 (Z1W p4 rfl ?_)
   refine Z0 (Zn5 p4 fun g5 p5 s5=>?_)
   replace p5:IsPair g5 TO x y:=p5
   refine Z0 (Z57 (Za (Za ?_)))
   refine Z0 (Z1W p5 rfl ?_)
   refine Z0 (Z9G ?_)
   have hsz:g5.objs.size=s.heap.objs.size:=by rw[s5.1,s4.1,s3.1,s2.1,s1.1]
   have z5:IsZip g5 z TI TO .ellipsis:=s5.extBut _ _ D.TOz.symm (s4.extBut _ _ D.i2z.symm (s3.extBut _ _ D.TOz.symm (s2.extBut _ _ D.i1z.symm z1)))
   have k5:KeepZ z TO i1 i2 s.heap g5:=fun c o hc e=>by
    simp only[Zi,not_or] at hc
    exact s5.extBut _ _ hc.2.1 (s4.extBut _ _ hc.2.2.2.1 (s3.extBut _ _ hc.2.1 (s2.extBut _ _ hc.2.2.1 (s1.extBut _ _ hc.1 e))))
   have a5:g5.IsTupleIter i1 l1 (k+1):=((u1.extBut s3.extBut D.TOi1.symm).extBut s4.extBut D.i12).extBut s5.extBut D.TOi1.symm
   have b5:g5.IsTupleIter i2 l2 (k+1):=u2.extBut s5.extBut D.TOi2.symm
   have hzlt:z<g5.objs.size:=Zw z5
   show wpAny _ _ (Z5A (.ref z) (.ref g5.objs.size)>>=_) _ _ _
   refine Z0 ?_
   unfold Z5A
   have z6:IsZip (g5.push { cls:=.type "tuple",data:=.seq #[x,y] }) z TI TO .ellipsis:=Z1 _ z5
   refine Z0 (Z4J z6 (by simp) fun g7 z7 s7=>?_)
   replace z7:IsZip g7 z TI TO (rawInt g5.objs.size):=z7
   refine Z4J z7 (by simp) fun g8 z8 s8=>?_
   replace z8:IsZip g8 z TI TO (rawInt g5.objs.size):=z8
   have up:∀ c o,c≠z→g5.get? c=some o→g8.get? c=some o:=fun c o c1 e=>s8.extBut _ _ c1 (s7.extBut _ _ c1 (Z1 _ e))
   have T8:IsPair g8 g5.objs.size x y:=s8.extBut _ _ (Z2V hzlt) (s7.extBut _ _ (Z2V hzlt) (Zm _ rfl))
   rw[hsz] at z8 T8
   refine Za ?_
   show Q (.done (.ret (.ref g5.objs.size))) _
   rw[hsz]
   exact hQ x y g8 hx hy z8 (up _ _ D.TOz p5) (a5.at fun o e=>up _ o D.i1z e) (b5.at fun o e=>up _ o D.i2z e) T8 fun c o hc e=>up c o (fun x=>hc (by simp[x])) (k5 c o hc e)
theorem next_zip {Q:Option Value→Shared→Prop}(D:Ztb z TI TO i1 i2 l1 l2)(Z:ZipT s.heap z TI TO i1 i2 l1 l2 k)(h1:s.heap.IsTuple l1 xs)(h2:s.heap.IsTuple l2 ys)(hh:A.handled=none)
  (hQ:∀ x y h',xs[k]?=some x→ys[k]?=some y→IsZip h' z TI TO (rawInt s.heap.objs.size)→IsPair h' TO x y→h'.IsTupleIter i1 l1 (k+1)→h'.IsTupleIter i2 l2 (k+1)→IsPair h' s.heap.objs.size x y→KeepZ z TO i1 i2 s.heap h' →
   Q (some (.ref s.heap.objs.size)) { s with heap:=h' })
  (hE:(xs[k]?=none∨ys[k]?=none)→∀ h',KeepZ z TO i1 i2 s.heap h'→Q none { s with heap:=h' }) :
  wpAny (model prog w) A (pyNext (.ref z)) Q E s:=by
 have hT:s.TypeIs (.ref z) "zip":=⟨_,Z.z,rfl⟩
 unfold pyNext
 refine Z0 (Z7I (Z1F (name:=ZV "__next__") hT Zel
  (Z1r Zel hT PySem.F.entry_zip_next (Zke D Z h1 h2 hh (fun x y h' hx hy a1 a2 a3 a4 a5 a6=>⟨_,rfl,Za (hQ x y h' hx hy a1 a2 a3 a4 a5 a6)⟩) fun hn h' e hk he=>?_) (PySem.F.args_zip_next_1 _))))
 obtain⟨o,ho,hc⟩:=he
 refine Z0 (Z7Q (T:="StopIteration") (b:=true) ⟨o,ho,hc⟩ ZsU ?_)
 exact Za (hE hn _ hk)
end
noncomputable abbrev ZbF (l:Addr):Obj:={ cls:=.type "tuple_iterator",data:=.fields #[.ref l,.int 0 0] }
noncomputable abbrev zH2 (h:Heap)(l1 l2:Addr):Heap:=(h.push (ZbF l1)).push (ZbF l2)
noncomputable abbrev zH4 (h:Heap) (l1 l2:Addr):Heap:=((zH2 h l1 l2).push { cls:=.type "tuple",data:=.seq #[.ref h.objs.size,.ref (h.push (ZbF l1)).objs.size] }).push { cls:=.type "tuple",data:=.seq #[.none,.none] }
noncomputable abbrev zH5 (h:Heap) (l1 l2:Addr):Heap:=(zH4 h l1 l2).push { cls:=.type "zip",data:=.fields #[.none,.bool false,.bool false,.ref (zH2 h l1 l2).objs.size,.ref ((zH2 h l1 l2).push { cls:=.type "tuple",data:=.seq #[.ref h.objs.size,.ref (h.push (ZbF l1)).objs.size] }).objs.size] }
theorem Zha (l1 l2:Addr)(xs ys:Array Value) :
  Meets (Builtin.«zip.__new__» ⟨[.type "zip",.ref l1,.ref l2],[]⟩) (fun _ R s=>s.heap.IsTuple l1 xs∧s.heap.IsTuple l2 ys ∧
   R (.ok (.ret (.ref (zH4 s.heap l1 l2).objs.size))) { s with heap:=zH5 s.heap l1 l2 }) :=
 .of_wp fun prog w A R s h=>by
  obtain⟨hp,g,d,tk,os⟩:=s;obtain⟨hl1,hl2,h⟩:=h
  have hsub:=sub_zip
  have hL1:ZaK (Zhw ⟨hp,g,d,tk,os⟩) l1 xs:=hl1
  have hL2:ZaK (Zhw ⟨hp.push (ZbF l1),g,d,tk,os⟩) l2 ys:=ZaK.push hl2 _
  wp_walk using Z3x hL1,Z3x hL2
  exact⟨_,rfl,h⟩
section
variable {prog:Program}{w:World}{A:Around}{E:Value→Shared→Prop}{s:Shared}{l1 l2:Addr}{xs ys:Array Value}
theorem call_zipT {Q:Value→Shared→Prop}(h1:s.heap.IsTuple l1 xs)(h2:s.heap.IsTuple l2 ys)
  (h:∀ h',ZipT h' (s.heap.objs.size+4) (s.heap.objs.size+2) (s.heap.objs.size+3) s.heap.objs.size (s.heap.objs.size+1) l1 l2 0→(∀ c o,s.heap.get? c=some o→h'.get? c=some o)→Q (.ref (s.heap.objs.size+4)) { s with heap:=h' }) :
  wpAny (model prog w) A (call (.type "zip") [.ref l1,.ref l2]) Q E s:=by
 refine callType_new PySem.F.called_zip (by decide) (PySem.F.typeCall_zip_2 _ _) (PySem.F.newCall_zip_2 _ _) (fun obj=>PySem.F.args_object_init_3 obj _ _) PySem.F.entry_zip_new
  (Zha l1 l2 xs ys) ⟨h1,h2,?_⟩
 have z1:(s.heap.push (ZbF l1)).objs.size=s.heap.objs.size+1:=Z1P ..
 have z2:(zH2 s.heap l1 l2).objs.size=s.heap.objs.size+2:=by rw[Z1P,z1]
 have z3:((zH2 s.heap l1 l2).push { cls:=.type "tuple",data:=.seq #[.ref s.heap.objs.size,.ref (s.heap.push (ZbF l1)).objs.size] }).objs.size=s.heap.objs.size+3:=by rw[Z1P,z2]
 have z4:(zH4 s.heap l1 l2).objs.size=s.heap.objs.size+4:=by rw[Z1P,z3]
 have g5:(zH5 s.heap l1 l2).get? (zH4 s.heap l1 l2).objs.size=some _:=Zm _ rfl
 have g4:(zH5 s.heap l1 l2).get? ((zH2 s.heap l1 l2).push { cls:=.type "tuple",data:=.seq #[.ref s.heap.objs.size,.ref (s.heap.push (ZbF l1)).objs.size] }).objs.size=some _:=Z1 _ (Zm _ rfl)
 have g3:(zH5 s.heap l1 l2).get? (zH2 s.heap l1 l2).objs.size=some _:=Z1 _ (Z1 _ (Zm _ rfl))
 have g2:(zH5 s.heap l1 l2).get? (s.heap.push (ZbF l1)).objs.size=some _:=Z1 _ (Z1 _ (Z1 _ (Zm _ rfl)))
 have g1:(zH5 s.heap l1 l2).get? s.heap.objs.size=some _:=Z1 _ (Z1 _ (Z1 _ (Z1 _ (Zm _ rfl))))
 show _∧_
 rw[z2,z3,z4] at g5
 rw[z1,z2] at g3
 rw[z3] at g4
 rw[z1] at g2
 rw[z4]
 exact⟨⟨_,g5,rfl⟩,h _ ⟨g5,g3,⟨_,_,g4⟩,⟨_,g1,rfl,rfl⟩,⟨_,g2,rfl,rfl⟩⟩ fun c o x =>
  Z1 _ (Z1 _ (Z1 _ (Z1 _ (Z1 _ x))))⟩
end
end HT
namespace L2
open PySem PySem.Spec PyProof.Rows
theorem Inv.turnedL {X:Cx}{pins:List (Addr×Obj)}{σ:St}{H:Hp}{s:Shared}{h':Heap}{t':Nat}{ch:List Addr}(I:Inv X pins σ H s)(k:∀ b o,b∉ch→s.heap.get? b=some o→h'.get? b=some o)(hf:∀ b∈ch,Zfy X pins H b) :
  Inv X pins σ H { s with heap:=h',toks:=t' }:=by
 have nit:∀ b u,H b=some u→b∉ch:=fun b u q z=>by rw[(hf b z).1] at q;cases q
 refine I.step (g':=s.gens) (d':=s.drawn) (ch:=ch) (fun b hb=>let ⟨_,f1,_,f3,f4,f5⟩:=hf b hb;⟨f3,f1,f4,f5⟩) (fun b o _ _ hc q _=>k b o hc q) (fun b o _ _ hc q _=>⟨o.slots,k b o hc q⟩) (fun _ _ _ _ n=>n)
  (fun b o hc q=>⟨o,k b o hc q⟩) (fun _ _ q=>q) (fun _ _ _ q=>q) (fun b ps q=>⟨#[],by rw[q];simp⟩) (fun m hm=>?_) (fun b u q=>?_) I.bare
 ·obtain⟨o,es,ep,ho,r⟩:=hm
  exact⟨o,es,ep,k _ o (fun z=>(hf _ z).2.1 rfl) ho,r⟩
 ·refine (I.hok b u q).stay (fun c v hc z=>k c v ?_ z) (fun _ z=>z) fun _ _ z=>z
  rcases hc with z|z
  ·rw[z];exact nit b u q
  ·exact nit c _ z
noncomputable def Itz (K:Fg_)(a b:Addr):It:=⟨fun i H=>∃ xs ys x y,SqT K H a xs∧SqT K H b ys∧xs[i]?=some x∧ys[i]?=some y,
 fun i H v H'=>∃ x y T,(∀ xs,SqT K H a xs→xs[i]?=some x)∧(∀ ys,SqT K H b ys→ys[i]?=some y)∧v=.ref T∧H T=none∧H'=upd H T (.tup [x,y]),
 fun i H=>∃ xs ys,SqT K H a xs∧SqT K H b ys∧(xs[i]?=none∨ys[i]?=none)⟩
theorem Zkl {P:Program}{w:World}{K:Fg_}{es:List Expr}{k1:Nat}{tp:Pos}{a b z TI TO i1 i2:Addr}(D:Ztb z TI TO i1 i2 a b) :
  Zk3 P w K (.Tuple es k1 tp) (Itz K a b) [z,TI,TO,i1,i2] z (fun i h=>HT.ZipT h z TI TO i1 i2 a b i) where
 mem:=by simp
 obj:=fun i h st c hc=>by
  obtain⟨hz,hTI,⟨x,y,hTO⟩,⟨o1,t1,_,d1⟩,⟨o2,t2,_,d2⟩⟩:=st
  simp only[Zi,Z1X,or_false] at hc
  rcases hc with rfl|rfl|rfl|rfl|rfl
  ·exact⟨_,hz,fun v z=>by cases z⟩
  ·exact⟨_,hTI,fun v z=>by cases z⟩
  ·exact⟨_,hTO,fun v z=>by cases z⟩
  ·exact⟨o1,t1,fun v z=>by rw[d1] at z;cases z⟩
  ·exact⟨o2,t2,fun v z=>by rw[d2] at z;cases z⟩
 keep:=fun i h h' st k=>by
  obtain⟨hz,hTI,⟨x,y,hTO⟩,⟨o1,t1,r1⟩,⟨o2,t2,r2⟩⟩:=st
  exact⟨k _ (by simp) _ hz,k _ (by simp) _ hTI,⟨x,y,k _ (by simp) _ hTO⟩,⟨o1,k _ (by simp) _ t1,r1⟩,⟨o2,k _ (by simp) _ t2,r2⟩⟩
 item:=by
  intro X hP hw hK hc i pins s σ H E I hf st hg
  subst hP hw hK
  obtain⟨xs,ys,x,y,hxs,hys,hx,hy⟩:=hg
  obtain⟨us,ru,pu,-⟩:=I.tuple hxs
  obtain⟨ws,rw',pw,-⟩:=I.tuple hys
  obtain⟨u,hu,bu⟩:=ru.get hx
  obtain⟨v,hv,bv⟩:=rw'.get hy
  have hu':us.toArray[i]?=some u:=by simpa using hu
  have hv':ws.toArray[i]?=some v:=by simpa using hv
  have hTI:=st.ti
  have lt:∀ c o,s.heap.get? c=some o→s.heap.objs.size≠c:=fun c o e=>Z2V (Zw e)
  have n1:=lt _ _ st.z
  refine HT.next_zip D st pu pw (I.ok.hd hc) (fun x1 y1 h1 e1 e2 a1 a2 a3 a4 a5 hk=>?_) fun hn=>?_
  ·rw[hu'] at e1
   rw[hv'] at e2
   cases e1
   cases e2
   refine⟨_,rfl,wpAny_letOwnedTupleGo_zip a1 fun h2 z2 sb=>?_⟩
   have k2:∀ c o,c∉[z,TO,i1,i2]→s.heap.get? c=some o→h2.get? c=some o:=fun c o hc e=>sb.extBut _ _ (fun x=>hc (by simp[x])) (hk c o hc e)
   have I1:Inv X pins σ H { s with heap:=h2,toks:=s.toks }:=I.turnedL k2 fun c hc=>hf c (by simp only[Zi,Z1X,or_false] at hc ⊢;rcases hc with e|e|e|e <;> simp[e])
   have hTn:H s.heap.objs.size=none:=I.fresh
   obtain⟨g0,g1,g2,g3,g4,g5⟩:=I.fpOk (b:=s.heap.objs.size) (H':=H) (Zg _) hTn
   have hT:h2.get? s.heap.objs.size=some { cls:=.type "tuple",data:=.seq #[u,v] }:=sb.extBut _ _ n1 a5
   refine⟨.ref s.heap.objs.size,upd H s.heap.objs.size (.tup [x,y]),?_,rfl,⟨x,y,_,fun zs hz=>by rw[I.tuple_inj hz hxs];exact hx,fun zs hz=>by rw[I.tuple_inj hz hys];exact hy,rfl,hTn,rfl⟩,?_,fun c hc=>?_⟩
   ·exact I1.track hTn I.sz g1 g4 g5 ⟨by show 2≤sizeLine;decide,[u,v],.cons bu (.cons bv .nil),⟨_,hT,rfl,_,rfl⟩⟩
   ·exact⟨z2,k2 _ _ (by simp[D.TIz,D.TITO,D.TIi1,D.TIi2]) hTI,⟨_,_,sb.extBut _ _ D.TOz a2⟩,a3.extBut sb.extBut D.i1z,a4.extBut sb.extBut D.i2z⟩
   ·have hne:c≠s.heap.objs.size:=by
     obtain⟨_,_,⟨x,y,hTO⟩,⟨o1,t1,_⟩,⟨o2,t2,_⟩⟩:=st
     simp only[Zi,Z1X,or_false] at hc
     rcases hc with rfl|rfl|rfl|rfl|rfl
     ·exact Z2q n1
     ·exact Z2q (lt _ _ hTI)
     ·exact Z2q (lt _ _ hTO)
     ·exact Z2q (lt _ _ t1)
     ·exact Z2q (lt _ _ t2)
    rw[Z1S hne]
    exact (hf c hc).1
  ·rw[hu',hv'] at hn
   rcases hn with hn|hn <;> cases hn
 done:=by
  intro X hP hw hK hc i pins s σ H E I hf st hg
  subst hP hw hK
  obtain⟨xs,ys,hxs,hys,hn⟩:=hg
  obtain⟨us,ru,pu,-⟩:=I.tuple hxs
  obtain⟨ws,rw',pw,-⟩:=I.tuple hys
  refine HT.next_zip D st pu pw (I.ok.hd hc) (fun x1 y1 h1 e1 e2 _ _ _ _ _ _=>?_) fun _ h' hk=>⟨rfl,?_⟩
  ·rcases hn with hn|hn
   ·rw[show us.toArray[i]?=none by simpa using ru.none_of hn] at e1;cases e1
   ·rw[show ws.toArray[i]?=none by simpa using rw'.none_of hn] at e2;cases e2
  ·exact I.turnedL (t':=s.toks) hk fun c hc=>hf c (by simp only[Zi,Z1X,or_false] at hc ⊢;rcases hc with e|e|e|e <;> simp[e])
 self:=fun _ _ _ _ _ st h=>Zrh st.z h
noncomputable def ZsV (K:Fg_)(ta:TA):TI:=fun σ H R=>ta σ H fun vs H1=>∃ a b xs ys,vs=[.ref a,.ref b]∧SqT K H1 a xs∧SqT K H1 b ys∧R (Itz K a b) H1
theorem Zpw {X:Cx} {es:List Expr} {k1:Nat} {tp:Pos} {a b:Expr} {ta:TA} {p pos:Pos} (hg:Gl X "zip") (hm:X.mg "zip"=none) (ha:PA X [a,b] ta) (he:starEach [a,b] X.env=(false,eval a X.env)::starEach [b] X.env:=by rfl) (hpl:(backTo pos (starEach [b] X.env)).any (·.1)=false:=by rfl) :
  PI X (.Tuple es k1 tp) (.Call (.Name "zip" p) [a,b] [] pos) (ZsV X.K ta):=by
 intro pins s σ H R I h
 refine Call_ (Z6K I hg hm boot_zip (Z0T (thn (ha pos pins s σ H _ I h) fun us s1 z1_=>?_) he hpl))
 obtain ⟨vs,H1,I1,r1,q1⟩:=z1_
 obtain⟨l1,l2,xs,ys,rfl,hx,hy,q⟩:=q1
 obtain⟨u,v,rfl,ru,rv⟩:=vals2 r1
 cases ru
 cases rv
 obtain⟨is1,-,p1⟩:=Zev I1 hx
 obtain⟨is2,-,p2⟩:=Zev I1 hy
 have n1:l1<s1.heap.objs.size:=by obtain⟨o,e,_⟩:=p1;exact Zw e
 have n2:l2<s1.heap.objs.size:=by obtain⟨o,e,_⟩:=p2;exact Zw e
 refine HT.call_zipT p1 p2 fun h' Z kp=>?_
 refine Zrh Z.z ?_
 refine⟨_,_,_,_,H1,rfl,I1.kept (t':=s1.toks) kp,Zkl (a:=l1) (b:=l2) ?_,Z,fun c hc=>?_,q⟩
 ·constructor <;> lia
 ·have hle:s1.heap.objs.size≤c:=by
   simp only[Zi,Z1X,or_false] at hc
   lia
  exact I1.fpOk hle (I1.hok.fresh hle)
noncomputable def Zkh (xs ys:List Th):List Th:=List.zipWith (fun a b=>.tup [a,b]) xs ys
noncomputable def ZoV (fa fb:FD):FL:=fun d=>(fa d).bind fun A=>(fb d).bind fun B=>match A,B with
 |.tup xs,.tup ys=>some (Zkh xs ys)
 |_,_=>none
section
variable {X:Cx}{K:Fg_}{H H':Hp}{O:Hid}{a b:Addr}{xs ys:List V}{us ws:List Th}
theorem SqT.up (h:SqT K (less H O) a xs)(s:Z0n (low H O) H'):SqT K H' a xs:=by
 rcases h with (h|⟨o,h⟩)|h
 ·exact .inl (.inl (s _ _ (Z4z (of_less h).1 fun z=>(of_less h).2 (.inl z))))
 ·exact .inl (.inr ⟨o,s _ _ (Z4z (of_less h).1 fun z=>(of_less h).2 (.inl z))⟩)
 ·exact .inr h
theorem ZfA:(Zkh us ws).length=min us.length ws.length:=List.length_zipWith
theorem ZlA (ha:SqT K (less H O) a xs)(ba:Z04 K (less H O) xs us)(hb:SqT K (less H O) b ys)(bb:Z04 K (less H O) ys ws):Zka K (Itz K a b) (low H O) O.far (Zkh us ws) where
 go:=fun i H' s hi=>by
  rw[ZfA,← ba.length,← bb.length] at hi
  exact⟨xs,ys,xs[i]'(by lia),ys[i]'(by lia),ha.up s,hb.up s,Zc (by lia),Zc (by lia)⟩
 stop:=fun H' s=>by
  rw[ZfA,← ba.length,← bb.length]
  refine⟨xs,ys,ha.up s,hb.up s,?_⟩
  rw[Z3Q,Z3Q]
  lia
 yld:=fun i H' O' v H'' hi hf s hn y=>by
  obtain⟨x,y,T,hx,hy,rfl,hT,rfl⟩:=y
  have sl:Z0n (less H O) (less H' O'):=ZbX s hf
  obtain⟨A,hA,bA⟩:=ba.got (hx xs ((Z0f H' O').seqT (sl.seqT ha)))
  obtain⟨B,hB,bB⟩:=bb.got (hy ys ((Z0f H' O').seqT (sl.seqT hb)))
  have s2:Z0n H' (upd H' T (.tup [x,y])):=Z0n.upd hT
  refine⟨s2,.tup [A,B],by simp[Zkh,List.getElem?_zipWith,hA,hB],?_⟩
  exact .tup (SqT.of (Z28 Z1b (hn T hT))) (.cons ((bA.mono sl).mono (Z0M s2)) (.cons ((bB.mono sl).mono (Z0M s2)) .nil))
theorem ZnL {es:List Expr} {k1:Nat} {tp:Pos} {a b:Expr} {f g:FD} {p pos:Pos} (hg:Gl X "zip") (hm:X.mg "zip"=none) (ha:PD X a f) (hb:PD X b g) (he:starEach [a,b] X.env=(false,eval a X.env)::starEach [b] X.env:=by rfl)
  (he1:starEach [b] X.env=(false,eval b X.env)::starEach [] X.env:=by rfl) (hpl:(backTo pos (starEach [b] X.env)).any (·.1)=false:=by rfl):PDI X (.Tuple es k1 tp) (.Call (.Name "zip" p) [a,b] [] pos) (ZoV f g) :=
 PI.imp (Zpw hg hm (Z9q ha (Z9q hb ZeL he1) he) he hpl) fun σ H R z1_=>by
  obtain ⟨O,d,ts,r,e,q⟩:=z1_
  unfold ZoV at e
  cases hf:f d with
  |none=>rw[hf] at e;cases e
  |some A =>
   rw[hf] at e
   cases hh:g d with
   |none=>rw[hh] at e;cases e
   |some B =>
    rw[hh] at e
    change (match A,B with|.tup xs,.tup ys=>some (Zkh xs ys)|_,_=>none)=_ at e
    split at e
    ·cases e
     refine⟨O,d,_,r,by unfold Z3;rw[hf,hh];rfl,fun vs H' s b=>?_⟩
     cases b with
     |cons b1 b2=>cases b2 with
      |cons b2 b3 =>
       cases b3
       cases b1 with
       |tup h1 c1=>cases b2 with
        |tup h2 c2=>exact⟨_,_,_,_,rfl,(Z0f H' O).seqT h1,(Z0f H' O).seqT h2,q _ H' s (ZlA h1 c1 h2 c2)⟩
    ·cases e
end
structure QD (X:Cx)(e:Expr)(f:FD):Prop where
 out:PD X e f
structure QB (X:Cx)(e:Expr)(f:FD):Prop where
 out:PB X e f
structure QF (X:Cx)(e:Expr)(f:FL):Prop where
 out:PF X e f
structure QT (X:Cx)(e:Expr)(f:FB):Prop where
 out:PDT X e f
structure QW (X:Cx)(e:Expr)(f:FB):Prop where
 out:PDW X e f
structure QA (X:Cx)(es:List Expr)(f:FL):Prop where
 out:PDA X es f
structure QBA (X:Cx)(es:List Expr)(f:FL):Prop where
 out:PBA X es f
structure QS (X:Cx)(st:Stmt)(f:FS):Prop where
 out:PDS X st f
structure QSs (X:Cx)(st:List Stmt)(f:FS):Prop where
 out:Zk5 X st f
structure QG (X:Cx)(e:Expr)(f:FG):Prop where
 out:PDG X e f
structure QI (X:Cx)(tg e:Expr)(f:FL):Prop where
 out:PDI X tg e f
structure QIf (X:Cx)(es:List Expr)(f:FB):Prop where
 out:ZoN X es f
structure QO (X:Cx)(e:Option Expr)(f:FO):Prop where
 out:PDO X e f
structure QV (X:Cx)(e:Expr)(i:Nat):Prop where
 out:PE X e (Zmd i)
section
variable {X:Cx}{e a b c:Expr}{f fa fb fc:FD}{pos:Pos}
theorem QD.pb (h:QD X e f):QB X e f:=⟨PD.pb (h:=h.out)⟩
theorem QF.pd {f:FL}(h:QF X e f):QD X e (Z3O f):=⟨PF.pd (h:=h.out)⟩
theorem QW.pdt {f:FB}(h:QW X e f):QT X e f:=⟨PDW.pdt (h:=h.out)⟩
theorem Zq {i:Nat}{x:Str}(h:QV X (.Name x pos) i):QD X (.Name x pos) (ZK i):=⟨ZpQ (h:=h.out)⟩
theorem Zf {i:Nat}{x:Str}(h:QV X (.Name x pos) i):QB X (.Name x pos) (Zb i):=⟨Zq1 (h:=h.out)⟩
theorem ZD {i j}:QD X (.Constant (.int i) j pos) (fC (.int i)):=⟨ZiB ⟩
theorem Zd0 {i j}:QD X (.Constant (.bool i) j pos) (fC (.bl i)):=⟨ZpZ ⟩
theorem Z5o {j}:QD X (.Constant .none j pos) (fC .non):=⟨Zmu ⟩
theorem ZeG {i j}:QD X (.Constant (.str i) j pos) (fC (.str i)):=⟨Zmt ⟩
theorem Z5h (h:QD X e f)(he:∀ whole,isTrue e X.env whole=(do let v ← whole;standAt e.pos;holding [v] (truthy v)):=by intro _;rfl):QT X e (ZU f):=⟨ZnD (h:=h.out) (he:=he)⟩
theorem Z9o {f:FB}(h:QT X a f):QT X (.UnaryOp .Not a pos) (ZdH f):=⟨ZnE (h:=h.out)⟩
theorem Zif {f:FB}(h:QT X a f):QW X (.BoolOp .And [a] pos) f:=⟨ZkT (h:=h.out)⟩
theorem ZfW {f:FB}(h:QT X a f):QW X (.BoolOp .Or [a] pos) f:=⟨ZnB (h:=h.out)⟩
theorem ZfX {f g:FB}{rest:List Expr}(ha:QT X a f)(hb:QW X (.BoolOp .And (b::rest) pos) g):QW X (.BoolOp .And (a::b::rest) pos) (Z9i f g):=⟨ZnC (ha:=ha.out) (hb:=hb.out)⟩
theorem ZbN {f g:FB}{rest:List Expr}(ha:QT X a f)(hb:QW X (.BoolOp .Or (b::rest) pos) g):QW X (.BoolOp .Or (a::b::rest) pos) (ZhF f g):=⟨ZpJ (ha:=ha.out) (hb:=hb.out)⟩
theorem Znn {op}(h:QD X a f):QD X (.BoolOp op [a] pos) f:=⟨ZpS (h:=h.out)⟩
theorem Znq {rest:List Expr}(ha:QD X a fa)(hb:QD X (.BoolOp .And (b::rest) pos) fb):QD X (.BoolOp .And (a::b::rest) pos) (ZoC fa fb):=⟨Zq0 (ha:=ha.out) (hb:=hb.out)⟩
theorem Zno (ha:QD X a fa):QD X (.UnaryOp .Not a pos) (Zfh fa):=⟨ZpT (ha:=ha.out)⟩
theorem Zmn {c:Expr}{fc:FB}(hc:QT X c fc)(ha:QD X a fa)(hb:QD X b fb):QD X (.IfExp c a b pos) (fIf fc fa fb):=⟨ZrH (hc:=hc.out) (ha:=ha.out) (hb:=hb.out)⟩
theorem ZP :QA X [] Z02:=⟨ZeL ⟩
theorem Z8 {es:List Expr}{g:FL}(ha:QD X e f)(hr:QA X es g)(hs:starEach (e::es) X.env=(false,eval e X.env)::starEach es X.env:=by rfl):QA X (e::es) (Z3 f g):=⟨Z9q (ha:=ha.out) (hr:=hr.out) (hs:=hs)⟩
theorem Z0l :QBA X [] Z02:=⟨ZeM ⟩
theorem Z0d {es:List Expr}{g:FL}(ha:QB X e f)(hr:QBA X es g)(hs:starEach (e::es) X.env=(false,eval e X.env)::starEach es X.env:=by rfl):QBA X (e::es) (Z3 f g):=⟨Z9s (ha:=ha.out) (hr:=hr.out) (hs:=hs)⟩
theorem Z6F {es:List Expr}{g:FL}{x1}(h:QA X es g):QD X (.Tuple es x1 pos) (Z7g g):=⟨Zms (h:=h.out)⟩
theorem ZfV {es:List Expr}{g:FL}(h:QA X es g):QF X (.List es pos) (Z9h g):=⟨ZeK (h:=h.out)⟩
end
section
variable {X:Cx}{e a b:Expr}{st:Stmt}{rest sts:List Stmt}{f:FD}{F G:FS}{pos:Pos}
theorem Z1u :QSs X [] Z0Y:=⟨ZkW ⟩
theorem Zr (h1:QS X st F)(h2:QSs X rest G):QSs X (st::rest) (Z1L F G):=⟨Zix (h1:=h1.out) (h2:=h2.out)⟩
theorem Zy (h1:QS X st F):QSs X [st] F:=⟨ZkV (h1:=h1.out)⟩
theorem Z0h (h:QB X e f):QS X (.Return (some e) pos) (Z2H f):=⟨ZnH (h:=h.out)⟩
theorem Z2v {c:Expr}{A B:List Stmt}{fc:FB}(hc:QT X c fc)(ha:QSs X A F)(hb:QSs X B G):QS X (.If c A B pos) (fIf fc F G):=⟨ZpP (hc:=hc.out) (ha:=ha.out) (hb:=hb.out)⟩
theorem Z0g {i:Nat}{x:Str}{pos':Pos}(hN:X.N.Nodup)(hi:X.N[i]?=some x)(hx:Loc X.env.scope x)(he:QD X e f)(hs:swapsWith e (some (.Name x pos')) pos.line X.env=pure false:=by rfl)(hf:X.fn x=true∨X.env.scope.names.lookup x=some .local:=by first|exact .inl rfl|exact .inr rfl|assumption):QS X (.Assign [.Name x pos'] e pos) (Z1a i f):=⟨ZnG (hN:=hN) (hi:=hi) (hx:=hx) (he:=he.out) (hs:=hs) (hf:=hf)⟩
theorem Z3W {i:Nat}{f:FL}{x:Str}{pos':Pos}(hN:X.N.Nodup)(hi:X.N[i]?=some x)(hx:Loc X.env.scope x)(he:QF X e f)(hs:swapsWith e (some (.Name x pos')) pos.line X.env=pure false:=by rfl)(hf:X.fn x=true∨X.env.scope.names.lookup x=some .local:=by first|exact .inl rfl|exact .inr rfl|assumption):QS X (.Assign [.Name x pos'] e pos) (Za9 i f):=⟨ZnI (hN:=hN) (hi:=hi) (hx:=hx) (he:=he.out) (hs:=hs) (hf:=hf)⟩
theorem Z4h {i:Nat} {o:Expr} {apos cpos:Pos} (ho:QV X (o) i) (he:QD X e f) (hbase:attributeBase o "append" X.env (eval o X.env)=eval o X.env:=by rfl) (hfew:((backTo cpos (starEach [e] X.env)).all (fun x=>!x.1)&&(backToKw cpos (keywordEach [] X.env)).all (fun x=>x.1.isSome)
  &&decide (([e]:List Expr).length+([]:List Keyword).length+(if ([]:List Keyword).isEmpty then 0 else 1)<30))=true:=by rfl) (hline:(apos.endLine == cpos.line)=true:=by rfl) (hs:starEach [e] X.env=(false,eval e X.env)::starEach [] X.env:=by rfl) (hplain:(backTo cpos (starEach ([]:List Expr) X.env)).any (·.1)=false:=by rfl) (hsw:swapsWith (.Call (.Attribute o "append" apos) [e] [] cpos) none pos.line X.env=pure false:=by rfl):QS X (.Expr (.Call (.Attribute o "append" apos) [e] [] cpos) pos) (Z2a i f):=⟨ZgY (ho:=ho.out) (he:=he.out) (hbase:=hbase) (hfew:=hfew) (hline:=hline) (hs:=hs) (hplain:=hplain) (hsw:=hsw)⟩
theorem Z7X {i:Nat}{x:Str}(hN:X.N.Nodup)(hi:X.N[i]?=some x)(hx:Loc X.env.scope x)(hf:X.fn x=true∨X.env.scope.names.lookup x=some .local:=by first|exact .inl rfl|exact .inr rfl|assumption):QG X (.Name x pos) (Zbg i):=⟨ZnO (hN:=hN) (hi:=hi) (hx:=hx) (hf:=hf)⟩
theorem Z3B {tg iter:Expr}{body:List Stmt}{fi:FL}{g:FG}(hp:Z1l (model X.prog X.w) X.A X.env X.xe)(hc:X.calm=true)(hi:QI X tg iter fi)(hg:QG X tg g)(hb:QSs X body F)(hs:∀ x,foldedSetIterable iter X.env x=pure x:=by intro _;rfl):QS X (.For tg iter body [] pos) (ZaC fi g F):=⟨ZnJ (hp:=hp) (hc:=hc) (hi:=hi.out) (hg:=hg.out) (hb:=hb.out) (hs:=hs)⟩
end
section
variable {X:Cx}{tg l:Expr}{f:FD}{K:Fg_}
theorem Z63 {y:Str}{py:Pos}(h:QD X l f):QI X (.Name y py) l (Z2i f):=⟨ZnN (h:=h.out)⟩
theorem ZbO (h:QD X l f):QI X tg l (ZaN f):=⟨ZnM (h:=h.out)⟩
theorem Z4V {a:Expr} {p pos:Pos} (hg:Gl X "range") (hm:X.mg "range"=none) (ha:QD X a f) (hs:starEach [a] X.env=[(false,eval a X.env)]:=by rfl) (hs1:starEach [a] X.env=(false,eval a X.env)::starEach [] X.env:=by rfl):QI X tg (.Call (.Name "range" p) [a] [] pos) (Z2l f):=⟨Zh0 (hg:=hg) (hm:=hm) (ha:=ha.out) (hs:=hs) (hs1:=hs1)⟩
end
section
variable {X:Cx}
theorem Z5K :QIf X [] Z4A:=⟨Zl1 ⟩
theorem Z6E {c:Expr}{f:FB}(h:QT X c f):QIf X [c] f:=⟨Zl0 (h:=h.out)⟩
theorem Z6C {x:Str}{px pos:Pos}{scope:Scope}{elt iter:Expr}{ifs:List Expr}{fi:FL}{ft:FB}{fe:FD}(hc:X.calm=true)(S:Z1N X [x] scope)(hN:([x]++X.N).Nodup)(hx:scope.names.lookup x=some .local)(hi:QI X (.Name x px) iter fi)(ht:∀ cl s₂ H1 C fp,QIf (cxC X [x] scope cl s₂ H1 C fp) ifs ft)(he:∀ cl s₂ H1 C fp,QD (cxC X [x] scope cl s₂ H1 C fp) elt fe)(hs:∀ x,foldedSetIterable iter X.env x=pure x:=by intro _;rfl):QF X (.ListComp elt [⟨.Name x px,iter,ifs,0⟩] scope pos) (Z29 g1 fi ft fe):=⟨ZkO (hc:=hc) (S:=S) (hN:=hN) (hx:=hx) (hi:=hi.out) (ht:=(fun x0 x1 x2 x3 x4=>(ht x0 x1 x2 x3 x4).out)) (he:=(fun x0 x1 x2 x3 x4=>(he x0 x1 x2 x3 x4).out)) (hs:=hs)⟩
theorem Z7t {x y:Str}{px py pos spos:Pos}{scope:Scope}{elt iter:Expr}{ifs:List Expr}{fi:FL}{ft:FB}{fe:FD}{i:Nat}(hN0:X.N.Nodup)(hi':X.N[i]?=some y)(hy:Loc X.env.scope y)(hc:X.calm=true)(S:Z1N X [x] scope)(hN:([x]++X.N).Nodup)(hx:scope.names.lookup x=some .local)(hi:QI X (.Name x px) iter fi)(ht:∀ cl s₂ H1 C fp,QIf (cxC X [x] scope cl s₂ H1 C fp) ifs ft)(he:∀ cl s₂ H1 C fp,QD (cxC X [x] scope cl s₂ H1 C fp) elt fe)(hsw:swapsWith (.ListComp elt [⟨.Name x px,iter,ifs,0⟩] scope pos) (some (.Name y py)) spos.line X.env=pure true:=by rfl)(hf':X.fn y=true∨X.env.scope.names.lookup y=some .local:=by first|exact .inl rfl|exact .inr rfl|assumption)(hs:∀ x,foldedSetIterable iter X.env x=pure x:=by intro _;rfl):QS X (.Assign [.Name y py] (.ListComp elt [⟨.Name x px,iter,ifs,0⟩] scope pos) spos) (Z1a i (Z3O (Z29 g1 fi ft fe))):=⟨ZgX (hN0:=hN0) (hi':=hi') (hy:=hy) (hc:=hc) (S:=S) (hN:=hN) (hx:=hx) (hi:=hi.out) (ht:=(fun x0 x1 x2 x3 x4=>(ht x0 x1 x2 x3 x4).out)) (he:=(fun x0 x1 x2 x3 x4=>(he x0 x1 x2 x3 x4).out)) (hsw:=hsw) (hf':=hf') (hs:=hs)⟩
end
section
variable {X:Cx}{x:Str}{p pos:Pos}{e:Expr}{es:List Expr}{g:FL}{φ:List Th→Option Th}{k:Nat}
theorem Z05 (c:Callee X.prog X.w X.K X.mg X.base k x φ) (hr:Z4B k X.A) (hg:Gl X x) (ha:QA X (e::es) g) (hdb:(x == ("__debug__":Str))=false:=by decide) (he:starEach (e::es) X.env=(false,eval e X.env)::starEach es X.env:=by rfl) (hpl:(backTo pos (starEach es X.env)).any (·.1)=false:=by rfl):QD X (.Call (.Name x p) (e::es) [] pos) (ZZ φ g):=⟨ZnV (c:=c) (hr:=hr) (hg:=hg) (ha:=ha.out) (hdb:=hdb) (he:=he) (hpl:=hpl)⟩
end
section
variable {X:Cx}{K:Fg_}{a b c e:Expr}{fa fb fc f:FD}{pos:Pos}
theorem Z2f {p:Pos} {es:List Expr} {fs:FL} (hg:Gl X "len") (hm:X.mg "len"=none) (ha:QBA X (e::es) fs) (he:starEach (e::es) X.env=(false,eval e X.env)::starEach es X.env:=by rfl) (hpl:(backTo pos (starEach es X.env)).any (·.1)=false:=by rfl):QD X (.Call (.Name "len" p) (e::es) [] pos) (fCB Z3G fs):=⟨ZpW (hg:=hg) (hm:=hm) (ha:=ha.out) (he:=he) (hpl:=hpl)⟩
end
section
variable {X:Cx}{K:Fg_}{a b c e:Expr}{fa fb fc f:FD}{pos:Pos}{k:Nat}
theorem Zmo (hr:Z4B k X.A)(ha:QB X a fa)(hb:QB X b fb):QD X (.Compare a [.Eq] [b] pos) (f2 oEq fa fb):=⟨ZrI (hr:=hr) (ha:=ha.out) (hb:=hb.out)⟩
theorem Z6D (hr:Z4B k X.A)(ha:QB X a fa)(hb:QB X b fb):QT X (.Compare a [.Eq] [b] pos) (ZU (f2 oEq fa fb)):=⟨ZpO (hr:=hr) (ha:=ha.out) (hb:=hb.out)⟩
theorem Zpo (hr:Z4B k X.A)(ha:QB X a fa)(hb:QB X b fb):QD X (.Compare a [.NotEq] [b] pos) (f2 oNe fa fb):=⟨ZrE (hr:=hr) (ha:=ha.out) (hb:=hb.out)⟩
theorem Z9P (hr:Z4B k X.A)(ha:QB X a fa)(hb:QB X b fb):QT X (.Compare a [.NotEq] [b] pos) (ZU (f2 oNe fa fb)):=⟨ZpK (hr:=hr) (ha:=ha.out) (hb:=hb.out)⟩
theorem Z8s (hr:Z4B k X.A)(ha:QB X a fa)(hb:QB X b fb)(hm:behindInMarks .NotIn b=false:=by with_unfolding_all rfl):QT X (.Compare a [.NotIn] [b] pos) (ZU (f2 (oIn true) fa fb)):=⟨Ziw (hr:=hr) (ha:=ha.out) (hb:=hb.out) (hm:=hm)⟩
theorem Zih {T:String} {N:Str} {p p2:Pos} (hT:Zay T) (ha:QB X a fa) (hg:Gl X "isinstance") (hm:X.mg "isinstance"=none) (hgT:Gl X N) (hmT:X.mg N=none) (hv:bootBuiltins N=some (.type T)) (hnN:N≠"__name__":=by decide) (hdN:(N == ("__debug__":Str))=false:=by decide) (he:starEach [a,.Name N p2] X.env=(false,eval a X.env)::starEach [.Name N p2] X.env:=by rfl) (hpl:(backTo pos (starEach [.Name N p2] X.env)).any (·.1)=false:=by rfl) (he2:starEach [.Name N p2] X.env=(false,eval (.Name N p2) X.env)::starEach [] X.env:=by rfl):QD X (.Call (.Name "isinstance" p) [a,.Name N p2] [] pos) (Zk1 T fa):=⟨ZpY (hT:=hT) (ha:=ha.out) (hg:=hg) (hm:=hm) (hgT:=hgT) (hmT:=hmT) (hv:=hv) (hnN:=hnN) (hdN:=hdN) (he:=he) (hpl:=hpl) (he2:=he2)⟩
theorem Zpp (hr:Z4B k X.A)(ha:QB X a fa)(hb:QB X b fb):QD X (.Compare a [.Lt] [b] pos) (f2 oLt fa fb):=⟨ZrF (hr:=hr) (ha:=ha.out) (hb:=hb.out)⟩
theorem ZeD (hr:Z4B k X.A)(ha:QB X a fa)(hb:QB X b fb):QT X (.Compare a [.Lt] [b] pos) (ZU (f2 oLt fa fb)):=⟨ZpL (hr:=hr) (ha:=ha.out) (hb:=hb.out)⟩
theorem Z9Q (ha:QB X a fa)(hb:QB X b fb):QT X (.Compare a [.Gt] [b] pos) (ZU (f2 oGt fa fb)):=⟨ZpM (ha:=ha.out) (hb:=hb.out)⟩
theorem Zig (ha:QB X a fa)(hb:QB X b fb):QT X (.Compare a [.GtE] [b] pos) (ZU (f2 oGe fa fb)):=⟨ZpN (ha:=ha.out) (hb:=hb.out)⟩
theorem Znp (ha:QB X a fa)(hb:QB X b fb):QD X (.Compare a [.Is] [b] pos) (f2 (Z8v false) fa fb):=⟨ZpX (ha:=ha.out) (hb:=hb.out)⟩
theorem ZfY (ha:QB X a fa)(hb:QB X b fb):QT X (.Compare a [.Is] [b] pos) (ZU (f2 (Z8v false) fa fb)):=⟨ZnF (ha:=ha.out) (hb:=hb.out)⟩
theorem ZkD (ha:QB X a fa)(hb:QB X b fb):QD X (.Compare a [.IsNot] [b] pos) (f2 (Z8v true) fa fb):=⟨ZnR (ha:=ha.out) (hb:=hb.out)⟩
theorem ZcY (ha:QB X a fa)(hb:QB X b fb):QT X (.Compare a [.IsNot] [b] pos) (ZU (f2 (Z8v true) fa fb)):=⟨ZkU (ha:=ha.out) (hb:=hb.out)⟩
end
section
variable {X:Cx}{e a b:Expr}{te tl th:TE}{pos p2:Pos}
theorem Z1B :QO X none Z0j:=⟨ZkZ ⟩
theorem Z1g {f:FD}(h:QD X e f):QO X (some e) (Z1C f):=⟨ZkY (h:=h.out)⟩
theorem Z1K {f:FD}{fl fh:FO}{lo hi:Option Expr}(h:QB X e f)(hl:QO X lo fl)(hh:QO X hi fh):QD X (.Subscript e (.Slice lo hi none p2) pos) (fSl f fl fh):=⟨Zl6 (h:=h.out) (hl:=hl.out) (hh:=hh.out)⟩
theorem ZcV {f:FD}{fl fh:FO}{lo hi:Option Expr}(h:QB X e f)(hl:QO X lo fl)(hh:QO X hi fh):QF X (.Subscript e (.Slice lo hi none p2) pos) (ZlJ f fl fh):=⟨ZkM (h:=h.out) (hl:=hl.out) (hh:=hh.out)⟩
theorem Z2G {fa fb:FD}(ha:QB X a fa)(hb:QB X b fb)(hs:Zfs b):QD X (.Subscript a b pos) (f2 oIx fa fb):=⟨ZrG (ha:=ha.out) (hb:=hb.out) (hs:=hs)⟩
end
section
variable {X:Cx}{K:Fg_}{a b c e:Expr}{fa fb fc f:FD}{pos:Pos}{k:Nat}
theorem Z0v (ha:QB X a fa)(hb:QB X b fb):QD X (.BinOp a .Add b pos) (f2 Z17 fa fb):=⟨ZnQ (ha:=ha.out) (hb:=hb.out)⟩
theorem Z2w (ha:QB X a fa)(hb:QB X b fb):QD X (.BinOp a .Mult b pos) (f2 Z2x fa fb):=⟨Zl5 (ha:=ha.out) (hb:=hb.out)⟩
end
section
variable {X:Cx}{K:Fg_}{a b c e:Expr}{fa fb fc f:FD}{pos:Pos}
theorem Znm (ha:QB X a fa)(hb:QB X b fb):QD X (.BinOp a .Sub b pos) (f2 ZoT fa fb):=⟨ZpR (ha:=ha.out) (hb:=hb.out)⟩
theorem Z3g (ha:QB X a fa)(hb:QB X b fb):QD X (.BinOp a .FloorDiv b pos) (f2 Z7e fa fb):=⟨ZnU (ha:=ha.out) (hb:=hb.out)⟩
theorem Z26 (ha:QB X a fa)(hb:QB X b fb):QD X (.BinOp a .Mod b pos) (f2 Z4m fa fb):=⟨ZpU (ha:=ha.out) (hb:=hb.out)⟩
theorem Z7u (ha:QD X a fa):QD X (.UnaryOp .USub a pos) (Zbj fa):=⟨Zmv (ha:=ha.out)⟩
end
section
variable {X:Cx}{K:Fg_}{a b c e:Expr}{fa fb fc f:FD}{pos:Pos}{k:Nat}
theorem Z4W {p:Pos} {es:List Expr} {fs:FL} (hg:Gl X "tuple") (hm:X.mg "tuple"=none) (ha:QBA X (e::es) fs) (he:starEach (e::es) X.env=(false,eval e X.env)::starEach es X.env:=by rfl) (hpl:(backTo pos (starEach es X.env)).any (·.1)=false:=by rfl):QD X (.Call (.Name "tuple" p) (e::es) [] pos) (fCB Z4y fs):=⟨Zl4 (hg:=hg) (hm:=hm) (ha:=ha.out) (he:=he) (hpl:=hpl)⟩
end
section
variable {X:Cx}{K:Fg_}
theorem Z5L {es:List Expr} {k1:Nat} {tp:Pos} {a:Expr} {f:FD} {p pos:Pos} (hg:Gl X "enumerate") (hm:X.mg "enumerate"=none) (ha:QD X a f) (hs:starEach [a] X.env=[(false,eval a X.env)]:=by rfl) (hs1:starEach [a] X.env=(false,eval a X.env)::starEach [] X.env:=by rfl):QI X (.Tuple es k1 tp) (.Call (.Name "enumerate" p) [a] [] pos) (Z6q f):=⟨Zl2 (hg:=hg) (hm:=hm) (ha:=ha.out) (hs:=hs) (hs1:=hs1)⟩
end
section
variable {X:Cx}{K:Fg_}{o a b c e:Expr}{fo fa fb fc f:FD}{pos:Pos}{k:Nat}
theorem ZfZ {apos cpos:Pos} (ho:QB X o fo) (ha:QB X e fa) (hbase:attributeBase o "find" X.env (eval o X.env)=eval o X.env:=by rfl) (hfew:((backTo cpos (starEach (e::[]) X.env)).all (fun x=>!x.1)&&(backToKw cpos (keywordEach [] X.env)).all (fun x=>x.1.isSome)
  &&decide ((e::[]).length+([]:List Keyword).length+(if ([]:List Keyword).isEmpty then 0 else 1)<30))=true:=by rfl) (hline:(apos.endLine == cpos.line)=true:=by rfl) (hs:starEach (e::[]) X.env=(false,eval e X.env)::starEach [] X.env:=by rfl) (hplain:(backTo cpos (starEach [] X.env)).any (·.1)=false:=by rfl):QD X (.Call (.Attribute o "find" apos) [e] [] cpos) (fM1 (fun z y=>some (.int (Z5n z y))) fo fa):=⟨ZnT (ho:=ho.out) (ha:=ha.out) (hbase:=hbase) (hfew:=hfew) (hline:=hline) (hs:=hs) (hplain:=hplain)⟩
theorem Z8t {apos cpos:Pos} (ho:QB X o fo) (ha:QB X e fa) (hbase:attributeBase o "startswith" X.env (eval o X.env)=eval o X.env:=by rfl) (hfew:((backTo cpos (starEach (e::[]) X.env)).all (fun x=>!x.1)&&(backToKw cpos (keywordEach [] X.env)).all (fun x=>x.1.isSome)
  &&decide ((e::[]).length+([]:List Keyword).length+(if ([]:List Keyword).isEmpty then 0 else 1)<30))=true:=by rfl) (hline:(apos.endLine == cpos.line)=true:=by rfl) (hs:starEach (e::[]) X.env=(false,eval e X.env)::starEach [] X.env:=by rfl) (hplain:(backTo cpos (starEach [] X.env)).any (·.1)=false:=by rfl):QD X (.Call (.Attribute o "startswith" apos) [e] [] cpos) (fM1 (fun z y=>some (.bl (Z0z z y))) fo fa):=⟨Ziz (ho:=ho.out) (ha:=ha.out) (hbase:=hbase) (hfew:=hfew) (hline:=hline) (hs:=hs) (hplain:=hplain)⟩
end
section
variable {X:Cx}{a b c e:Expr}{fa fb fc f:FD}{pos:Pos}{k:Nat}
theorem Z5i {i j:Nat}{x y:Str}{px py:Pos}{k:Nat}(hc:X.calm=true)(hN:X.N.Nodup)(hi:X.N[i]?=some x)(hj:X.N[j]?=some y)(hx:Loc X.env.scope x)(hy:Loc X.env.scope y)(hf:X.fn x=true∨X.env.scope.names.lookup x=some .local:=by first|exact .inl rfl|exact .inr rfl|assumption)(hf2:X.fn y=true∨X.env.scope.names.lookup y=some .local:=by first|exact .inl rfl|exact .inr rfl|assumption):QG X (.Tuple [.Name x px,.Name y py] k pos) (Z45 i j):=⟨ZnP (hc:=hc) (hN:=hN) (hi:=hi) (hj:=hj) (hx:=hx) (hy:=hy) (hf:=hf) (hf2:=hf2)⟩
end
section
variable {X:Cx}{a b c e:Expr}{fa fb fc f:FD}{F G:FS}{pos:Pos}{k:Nat}
theorem Z5J {body:List Stmt}{fc:FB}(hp:Z1l (model X.prog X.w) X.A X.env X.xe)(hc:QT X c fc)(hb:QSs X body F):QS X (.While c body [] pos) (Z6M fc F):=⟨Ziy (hp:=hp) (hc:=hc.out) (hb:=hb.out)⟩
theorem ZkB {tg:Expr}{g:FG}(he:QD X e f)(hg:QG X tg g)(hs:swapsWithSole [tg] e pos.line X.env=pure false:=by rfl)(hw:swappedStores [tg] e X.env=pure none:=by rfl)(h1:(assignEach [tg] X.env).map (·.2)=[assign tg X.env]:=by rfl):QS X (.Assign [tg] e pos) (ZqA f g):=⟨ZnK (he:=he.out) (hg:=hg.out) (hs:=hs) (hw:=hw) (h1:=h1)⟩
theorem ZcW {x y:Str}{px py pt pos:Pos}{k1:Nat}{scope:Scope}{elt iter:Expr}{ifs:List Expr}{fi:FL}{ft:FB}{fe:FD}(hc:X.calm=true)(S:Z1N X [x,y] scope)(hN:([x,y]++X.N).Nodup)(hx:scope.names.lookup x=some .local)(hy:scope.names.lookup y=some .local)(hi:QI X (.Tuple [.Name x px,.Name y py] k1 pt) iter fi)(ht:∀ cl s₂ H1 C fp,QIf (cxC X [x,y] scope cl s₂ H1 C fp) ifs ft)(he:∀ cl s₂ H1 C fp,QD (cxC X [x,y] scope cl s₂ H1 C fp) elt fe)(hs:∀ x,foldedSetIterable iter X.env x=pure x:=by intro _;rfl):QF X (.ListComp elt [⟨.Tuple [.Name x px,.Name y py] k1 pt,iter,ifs,0⟩] scope pos) (Z29 g2 fi ft fe):=⟨ZkN (hc:=hc) (S:=S) (hN:=hN) (hx:=hx) (hy:=hy) (hi:=hi.out) (ht:=(fun x0 x1 x2 x3 x4=>(ht x0 x1 x2 x3 x4).out)) (he:=(fun x0 x1 x2 x3 x4=>(he x0 x1 x2 x3 x4).out)) (hs:=hs)⟩
theorem ZeE {x y z:Str}{px py pt pz pos spos:Pos}{k1:Nat}{scope:Scope}{elt iter:Expr}{ifs:List Expr}{fi:FL}{ft:FB}{fe:FD}{i:Nat}(hN0:X.N.Nodup)(hi':X.N[i]?=some z)(hz:Loc X.env.scope z)(hc:X.calm=true)(S:Z1N X [x,y] scope)(hN:([x,y]++X.N).Nodup)(hx:scope.names.lookup x=some .local)(hy:scope.names.lookup y=some .local)(hi:QI X (.Tuple [.Name x px,.Name y py] k1 pt) iter fi)(ht:∀ cl s₂ H1 C fp,QIf (cxC X [x,y] scope cl s₂ H1 C fp) ifs ft)(he:∀ cl s₂ H1 C fp,QD (cxC X [x,y] scope cl s₂ H1 C fp) elt fe)(hsw:swapsWith (.ListComp elt [⟨.Tuple [.Name x px,.Name y py] k1 pt,iter,ifs,0⟩] scope pos) (some (.Name z pz)) spos.line X.env=pure true:=by rfl)(hf':X.fn z=true∨X.env.scope.names.lookup z=some .local:=by first|exact .inl rfl|exact .inr rfl|assumption)(hs:∀ x,foldedSetIterable iter X.env x=pure x:=by intro _;rfl):QS X (.Assign [.Name z pz] (.ListComp elt [⟨.Tuple [.Name x px,.Name y py] k1 pt,iter,ifs,0⟩] scope pos) spos) (Z1a i (Z3O (Z29 g2 fi ft fe))):=⟨ZgW (hN0:=hN0) (hi':=hi') (hz:=hz) (hc:=hc) (S:=S) (hN:=hN) (hx:=hx) (hy:=hy) (hi:=hi.out) (ht:=(fun x0 x1 x2 x3 x4=>(ht x0 x1 x2 x3 x4).out)) (he:=(fun x0 x1 x2 x3 x4=>(he x0 x1 x2 x3 x4).out)) (hsw:=hsw) (hf':=hf') (hs:=hs)⟩
end
section
variable {X:Cx}{K:Fg_}{e:Expr}{es:List Expr}{fs:FL}{p pos:Pos}{pins:List (Addr×Obj)}{σ:St}{H:Hp}{s:Shared}
theorem ZcU (hg:Gl X "sorted") (hm:X.mg "sorted"=none) (ha:QBA X (e::es) fs) (he:starEach (e::es) X.env=(false,eval e X.env)::starEach es X.env:=by rfl) (hpl:(backTo pos (starEach es X.env)).any (·.1)=false:=by rfl):QF X (.Call (.Name "sorted" p) (e::es) [] pos) (Za8 fs):=⟨ZkL (hg:=hg) (hm:=hm) (ha:=ha.out) (he:=he) (hpl:=hpl)⟩
theorem Z62 {p2 pos2:Pos} (hc:X.calm=true) (hg:Gl X "sorted") (hm:X.mg "sorted"=none) (hg2:Gl X "set") (hm2:X.mg "set"=none) (ha:QBA X (e::es) fs) (he:starEach (e::es) X.env=(false,eval e X.env)::starEach es X.env:=by rfl) (hpl:(backTo pos2 (starEach es X.env)).any (·.1)=false:=by rfl) (he2:starEach [.Call (.Name "set" p2) (e::es) [] pos2] X.env=(false,eval (.Call (.Name "set" p2) (e::es) [] pos2) X.env)::starEach [] X.env:=by rfl) (hpl2:(backTo pos (starEach ([]:List Expr) X.env)).any (·.1)=false:=by rfl):QF X (.Call (.Name "sorted" p) [.Call (.Name "set" p2) (e::es) [] pos2] [] pos) (Z3Y fs):=⟨ZgT (hc:=hc) (hg:=hg) (hm:=hm) (hg2:=hg2) (hm2:=hm2) (ha:=ha.out) (he:=he) (hpl:=hpl) (he2:=he2) (hpl2:=hpl2)⟩
end
section
variable {X:Cx}{K:Fg_}{o a b c e e2:Expr}{fo fa fb fc f:FD}{pos:Pos}{k:Nat}
theorem Zii {apos cpos:Pos} (ho:QB X o fo) (ha:QB X e fa) (hb:QB X e2 fb) (hbase:attributeBase o "find" X.env (eval o X.env)=eval o X.env:=by rfl) (hfew:((backTo cpos (starEach [e,e2] X.env)).all (fun x=>!x.1)&&(backToKw cpos (keywordEach [] X.env)).all (fun x=>x.1.isSome)&&decide ([e,e2].length+([]:List Keyword).length+(if ([]:List Keyword).isEmpty then 0 else 1)<30))=true:=by rfl) (hline:(apos.endLine == cpos.line)=true:=by rfl) (hs:starEach [e,e2] X.env=(false,eval e X.env)::starEach [e2] X.env:=by rfl) (hs2:starEach [e2] X.env=(false,eval e2 X.env)::starEach [] X.env:=by rfl) (hplain:(backTo cpos (starEach [e2] X.env)).any (·.1)=false:=by rfl):QD X (.Call (.Attribute o "find" apos) [e,e2] [] cpos) (fM2 (fun z y i=>some (.int (Z7J z y i))) fo fa fb):=⟨Zl7 (ho:=ho.out) (ha:=ha.out) (hb:=hb.out) (hbase:=hbase) (hfew:=hfew) (hline:=hline) (hs:=hs) (hs2:=hs2) (hplain:=hplain)⟩
theorem Z9R {i:Nat} {apos cpos:Pos} (ho:QV X (o) i) (he:QB X e f) (hbase:attributeBase o "extend" X.env (eval o X.env)=eval o X.env:=by rfl) (hfew:((backTo cpos (starEach [e] X.env)).all (fun x=>!x.1)&&(backToKw cpos (keywordEach [] X.env)).all (fun x=>x.1.isSome)
  &&decide (([e]:List Expr).length+([]:List Keyword).length+(if ([]:List Keyword).isEmpty then 0 else 1)<30))=true:=by rfl) (hline:(apos.endLine == cpos.line)=true:=by rfl) (hs:starEach [e] X.env=(false,eval e X.env)::starEach [] X.env:=by rfl) (hplain:(backTo cpos (starEach ([]:List Expr) X.env)).any (·.1)=false:=by rfl) (hsw:swapsWith (.Call (.Attribute o "extend" apos) [e] [] cpos) none pos.line X.env=pure false:=by rfl):QS X (.Expr (.Call (.Attribute o "extend" apos) [e] [] cpos) pos) (Z51 i f):=⟨ZgV (ho:=ho.out) (he:=he.out) (hbase:=hbase) (hfew:=hfew) (hline:=hline) (hs:=hs) (hplain:=hplain) (hsw:=hsw)⟩
end
section
variable {X:Cx}{K:Fg_}{e value:Expr}{fs:FL}{fd:FD}{p pos kp:Pos}{k:Nat}
theorem ZkE (hr:Z4B k X.A) (hc:X.calm=true) (hg:Gl X "min") (hm:X.mg "min"=none) (ha:QBA X [e] fs) (hv:QD X value fd) (he:backTo pos (starEach [e] X.env)=(false,eval e X.env)::backTo pos (starEach [] X.env):=by rfl) (hplain:(backTo pos (starEach [e] X.env)).any (·.1)=false:=by rfl) (hall:(backToKw pos (keywordEach [⟨some (ZV "default"),value,kp⟩] X.env)).all (·.1.isSome)=true:=by rfl) (hkw:(backToKw pos (keywordEach [⟨some (ZV "default"),value,kp⟩] X.env)).any (·.1.isNone)=false:=by rfl) (hz:∀ v:Value,((backToKw pos (keywordEach [⟨some (ZV "default"),value,kp⟩] X.env)).filterMap (·.1)).zip [v]=[(ZV "default",v)]:=by intro _;rfl):QD X (.Call (.Name "min" p) [e] [⟨some (ZV "default"),value,kp⟩] pos) (Zjt fs fd):=⟨ZnS (hr:=hr) (hc:=hc) (hg:=hg) (hm:=hm) (ha:=ha.out) (hv:=hv.out) (he:=he) (hplain:=hplain) (hall:=hall) (hkw:=hkw) (hz:=hz)⟩
end
section
variable {X:Cx}{tg a b:Expr}{fa fb:FD}{K:Fg_}{p pos:Pos}
theorem ZeF (hg:Gl X "range") (hm:X.mg "range"=none) (ha:QD X a fa) (hb:QD X b fb) (hs:starEach [a,b] X.env=[(false,eval a X.env),(false,eval b X.env)]:=by rfl) (hs2:starEach [b] X.env=[(false,eval b X.env)]:=by rfl) (hs1:starEach [a,b] X.env=(false,eval a X.env)::starEach [b] X.env:=by rfl) (hs3:starEach [b] X.env=(false,eval b X.env)::starEach [] X.env:=by rfl):QI X tg (.Call (.Name "range" p) [a,b] [] pos) (Z7z fa fb):=⟨ZgZ (hg:=hg) (hm:=hm) (ha:=ha.out) (hb:=hb.out) (hs:=hs) (hs2:=hs2) (hs1:=hs1) (hs3:=hs3)⟩
end
section
variable {X:Cx}{K:Fg_}{e:Expr}{fs:FL}{p pos kp kq:Pos}{k:Nat}{x:Str}{φ:List Th→Option Th}
theorem Zie (c:Callee X.prog X.w X.K X.mg X.base k x φ) (hr:Z4B (k+2) X.A) (hx:Gl X x) (hg:Gl X "sorted") (hm:X.mg "sorted"=none) (ha:QBA X [e] fs) (hdb:(x == ("__debug__":Str))=false:=by decide) (he:backTo pos (starEach [e] X.env)=(false,eval e X.env)::backTo pos (starEach [] X.env):=by rfl) (hplain:(backTo pos (starEach [e] X.env)).any (·.1)=false:=by rfl) (hall:(backToKw pos (keywordEach [⟨some (ZV "key"),.Name x kq,kp⟩] X.env)).all (·.1.isSome)=true:=by rfl) (hkw:(backToKw pos (keywordEach [⟨some (ZV "key"),.Name x kq,kp⟩] X.env)).any (·.1.isNone)=false:=by rfl) (hz:∀ v:Value,((backToKw pos (keywordEach [⟨some (ZV "key"),.Name x kq,kp⟩] X.env)).filterMap (·.1)).zip [v]=[(ZV "key",v)]:=by intro _;rfl):QF X (.Call (.Name "sorted" p) [e] [⟨some (ZV "key"),.Name x kq,kp⟩] pos) (Zbi φ fs):=⟨ZkK (c:=c) (hr:=hr) (hx:=hx) (hg:=hg) (hm:=hm) (ha:=ha.out) (hdb:=hdb) (he:=he) (hplain:=hplain) (hall:=hall) (hkw:=hkw) (hz:=hz)⟩
end
section
variable {X:Cx}{k:Nat}{x:Str}{φ:List Th→Option (List Th)}{e:Expr}{es:List Expr}{g:FL}{p pos:Pos}
theorem ZcX (c:Zcl X.prog X.w X.K X.mg X.base k x φ) (hr:Z4B k X.A) (hg:Gl X x) (ha:QA X (e::es) g) (hdb:(x == ("__debug__":Str))=false:=by decide) (he:starEach (e::es) X.env=(false,eval e X.env)::starEach es X.env:=by rfl) (hpl:(backTo pos (starEach es X.env)).any (·.1)=false:=by rfl):QF X (.Call (.Name x p) (e::es) [] pos) (Z88 φ g):=⟨ZkP (c:=c) (hr:=hr) (hg:=hg) (ha:=ha.out) (hdb:=hdb) (he:=he) (hpl:=hpl)⟩
end
section
variable {X:Cx}{o:Expr}{j:Nat}{pos apos cpos:Pos}
theorem ZcZ (ho:QV X (o) j) (hbase:attributeBase o "pop" X.env (eval o X.env)=eval o X.env:=by rfl) (hline:(apos.endLine == cpos.line)=true:=by rfl) (hsw:swapsWith (.Call (.Attribute o "pop" apos) [] [] cpos) none pos.line X.env=pure false:=by rfl):QS X (.Expr (.Call (.Attribute o "pop" apos) [] [] cpos) pos) (Zc5 j):=⟨ZkX (ho:=ho.out) (hbase:=hbase) (hline:=hline) (hsw:=hsw)⟩
end
section
variable {X:Cx}{K:Fg_}{e:Expr}{es:List Expr}{fs:FL}{t:TA}{p pos p2 pos2:Pos}
theorem ZeH (hc:X.calm=true) (hg:Gl X "list") (hm:X.mg "list"=none) (hg2:Gl X "reversed") (hm2:X.mg "reversed"=none) (ha:QBA X (e::es) fs) (he:starEach (e::es) X.env=(false,eval e X.env)::starEach es X.env:=by rfl) (hpl:(backTo pos2 (starEach es X.env)).any (·.1)=false:=by rfl) (he2:starEach [.Call (.Name "reversed" p2) (e::es) [] pos2] X.env=(false,eval (.Call (.Name "reversed" p2) (e::es) [] pos2) X.env)::starEach [] X.env:=by rfl) (hpl2:(backTo pos (starEach ([]:List Expr) X.env)).any (·.1)=false:=by rfl):QD X (.Call (.Name "list" p) [.Call (.Name "reversed" p2) (e::es) [] pos2] [] pos) (fCB Z75 fs):=⟨Zh1 (hc:=hc) (hg:=hg) (hm:=hm) (hg2:=hg2) (hm2:=hm2) (ha:=ha.out) (he:=he) (hpl:=hpl) (he2:=he2) (hpl2:=hpl2)⟩
end
section
variable {X:Cx}{K:Fg_}{H H':Hp}{O:Hid}{a b:Addr}{xs ys:List V}{us ws:List Th}
theorem ZkC {es:List Expr} {k1:Nat} {tp:Pos} {a b:Expr} {f g:FD} {p pos:Pos} (hg:Gl X "zip") (hm:X.mg "zip"=none) (ha:QD X a f) (hb:QD X b g) (he:starEach [a,b] X.env=(false,eval a X.env)::starEach [b] X.env:=by rfl) (he1:starEach [b] X.env=(false,eval b X.env)::starEach [] X.env:=by rfl) (hpl:(backTo pos (starEach [b] X.env)).any (·.1)=false:=by rfl):QI X (.Tuple es k1 tp) (.Call (.Name "zip" p) [a,b] [] pos) (ZoV f g):=⟨ZnL (hg:=hg) (hm:=hm) (ha:=ha.out) (hb:=hb.out) (he:=he) (he1:=he1) (hpl:=hpl)⟩
end
section
variable {X:Cx}
theorem Z8u {e:Expr}{T:Th}(h:Lit e T):QD X e (fC T):=⟨Zmw h⟩
theorem Z7s {es:List Expr}{ts:List Th}{p:Pos}(h:ZmU es ts)(z:ts.length≤1000000):QF X (.List es p) (fCL ts):=⟨Zpy h z⟩
theorem qv (i:Nat) {x:Str} {pos:Pos} (hN:X.N[i]?=some x:=by rfl) (hv:Vis X.env.scope x:=by first|exact Zee rfl|exact Zsu (Zee rfl)|exact Zsu (Zsu rfl)) (hd:(x == ("__debug__":Str))=false:=by decide)
  (hcd:(x == ("__classdict__":Str))=false:=by decide):QV X (.Name x pos) i:=⟨Zpz hN hv hd hcd⟩
end
section
variable {P:Program}{w:World}{K:Fg_}{mg:Str→Option Value}{base:Heap}
theorem Fun.okQ {x qual:Str}{st:Stmt}{f:Addr}{fd:Z06}{N ps:List Str}{k:Nat}{n m:Nat}{body:FS}(F:Fun K x qual st f fd)(S:Z0O N ps (Zt st))(hps:ps.length=n)(hN:N.length=m)
  (hb:∀ (cdv:Value) (A:Around) (outer:List Env) (s:Shared) (H:Hp) (E:XK),Z4B k (A.deeper (envOfC qual (Zt st) s.heap.objs.size f cdv))→QSs (ZlR CX0 P w K mg base N qual (Zt st) f cdv A outer s H E).nox (Z0A st) body) :
  Z4C P w K mg base CX0 (k+1) f fd ps (spF K (Z5w n m body)) :=
 Fun.okD F S (fun cdv A outer s H E hr=>(hb cdv A outer s H E hr).out) (fun Ts T e=>by subst hps hN;exact Zib e)
end
end L2
namespace L2
open PySem PySem.Spec PyProof.Rows PySem.Builtin.Str PySem.StrLaws
noncomputable abbrev W:=List Nat
noncomputable def sL (l:W):Str:=⟨l.toArray⟩
noncomputable def tS (l:W):Th:=.str (sL l)
theorem Zmj (l:W):(sL l).cps.toList=l:=rfl
theorem Z8U (l:W):(sL l).length=l.length:=rfl
theorem Zez (x:Str):sL x.cps.toList=x:=by cases x;simp[sL]
theorem Zmi {a b:W}(h:sL a=sL b):a=b:=by
 have:=congrArg (fun s:Str=>s.cps.toList) h
 exact this
theorem Zpe (a b:W):sL a++sL b=sL (a++b):=by
 show (⟨a.toArray++b.toArray⟩:Str)=_
 simp[sL]
noncomputable def Z1G (l w:W)(i:Nat):Bool:=l.isPrefixOf (w.drop i)
theorem Z2Q {l w:W}{i:Nat}:Z1G l w i=true↔l <+: w.drop i:=Z1H
theorem Z3y {l w:W}{i:Nat}(hl:l≠[])(h:Z1G l w i=true):i+l.length≤w.length:=by
 have:=(Z2Q.mp h).length_le
 rw[ZM] at this
 have:0<l.length:=Z5t.mpr hl
 lia
theorem ZaY {l w:W}{i:Nat}(h:Z1G l w i=true)(hi:i≤w.length):w=w.take i++l++w.drop (i+l.length):=by
 obtain⟨t,ht⟩:=Z2Q.mp h
 have e:w.drop (i+l.length)=t:=by
  rw[← Z0y,← ht,Z38]
 rw[e,Z7,ht,ZB]
theorem Zi0 {l w:W}{i:Nat}(h:i+l.length≤w.length):subAt (sL w) (sL l) i=Z1G l w i:=by
 unfold subAt Z1G
 have e:((sL w).cps.extract i (i+(sL l).length))=((w.drop i).take l.length).toArray:=by
  apply Z6R.mp
  show ((w.toArray).extract i (i+l.length)).toList=_
  rw[Z3F,Z2y]
  simp
 rw[e]
 show (((w.drop i).take l.length).toArray == l.toArray)=_
 have e2:(((w.drop i).take l.length).toArray == l.toArray)=((w.drop i).take l.length == l):=by
  rw[Zcm]
  simp
 rw[e2,Zcm,beq_iff_eq,Z1H,List.prefix_iff_eq_take]
 exact eq_comm
theorem Z9I (w l:W):Z0z (sL w) (sL l)=l.isPrefixOf w:=by
 unfold Z0z
 by_cases h:l.length≤w.length
 ·have h0:0+l.length≤w.length:=by lia
  rw[Zi0 h0]
  have:decide (0+(sL l).length≤(sL w).length)=true:=decide_eq_true h0
  rw[this]
  simp[Z1G]
 ·have:decide (0+(sL l).length≤(sL w).length)=false:=decide_eq_false (by show ¬ (0+l.length≤w.length);lia)
  rw[this,Zp2]
  cases h2:l.isPrefixOf w with
  |false=>rfl
  |true=>exact absurd (Z1H.mp h2).length_le (by omega)
noncomputable def Z1x (l w:W)(lo:Nat):Option Nat:=(Z2g lo (w.length+1-lo)).find? (Z1G l w)
theorem Zqf {w l:W}(hl:l≠[]):∀ (is:List Nat) (lo:Nat),(∀ i∈is,lo≤i) →
  (forIn (m:=Id) is ((#[]:Array Nat),lo) (occBody (sL w) (sL l) w.length 1)).run.fst.toList=(is.find? (Z1G l w)).toList:=by
 intro is
 have full:∀ (is:List Nat) (k f:Nat),(forIn (m:=Id) is ((#[k]:Array Nat),f) (occBody (sL w) (sL l) w.length 1)).run.fst.toList=[k]:=by
  intro is
  induction is with
  |nil=>intro k f;rfl
  |cons i is ih =>
   intro k f
   rw[Z5v]
   have e:occBody (sL w) (sL l) w.length 1 i ((#[k]:Array Nat),f)=pure (Z23 (#[k],f)):=by
    unfold occBody
    simp
   rw[e]
   exact ih k f
 induction is with
 |nil=>intro lo _;rfl
 |cons i is ih =>
  intro lo hlo
  rw[Z5v,ZoR]
  have hi:=hlo i Z4
  cases hs:Z1G l w i with
  |true =>
   have hle:=Z3y hl hs
   have hle':i+(sL l).length≤w.length:=hle
   have e:occBody (sL w) (sL l) w.length 1 i ((#[]:Array Nat),lo)=pure (Z23 (#[i],i+(sL l).length)):=by
    unfold occBody
    rw[Zi0 hle,hs]
    simp[hi,hle']
   rw[e]
   exact full is i _
  |false =>
   have e:occBody (sL w) (sL l) w.length 1 i ((#[]:Array Nat),lo)=pure (Z23 (#[],lo)):=by
    unfold occBody
    by_cases h:i+(sL l).length≤w.length
    ·rw[Zi0 (l:=l) h,hs]
     simp
    ·simp[h]
   rw[e]
   exact ih lo fun j hj=>hlo j (Z9 _ hj)
theorem ZiV {w l:W}(hl:l≠[])(lo:Nat):occurrences (sL w) (sL l) lo (sL w).length 1=(Z1x l w lo).toList:=by
 rw[occ_eq]
 refine Zqf hl _ lo fun i hi=>?_
 exact (Z4G.mp hi).1
noncomputable def Zk0:Option Nat→Int
 |some i=>(i:Int)
 |none=>-1
theorem Zjr {w l:W}(hl:l≠[]):Z5n (sL w) (sL l)=Zk0 (Z1x l w 0):=by
 unfold Z5n
 rw[ZiV hl 0]
 cases Z1x l w 0 <;> rfl
theorem ZlH {w l:W}(hl:l≠[])(i:Nat):Z7J (sL w) (sL l) (i:Int)=Zk0 (Z1x l w i):=by
 unfold Z7J
 have hi:fromIndex (sL w).length (i:Int)=i:=by unfold fromIndex;rw[if_neg (by lia)];rfl
 rw[hi,ZiV hl i]
 cases Z1x l w i <;> rfl
noncomputable def allAt (l w:W)(lo:Nat):List Nat:=(Z2g lo (w.length+1-lo)).filter (Z1G l w)
theorem Zas {l w:W}{lo p:Nat}(h:Z1x l w lo=some p):lo≤p∧p≤w.length∧allAt l w lo=p::allAt l w (p+1):=by
 unfold Z1x at h
 unfold allAt
 have aux:∀ (n lo:Nat),(Z2g lo n).find? (Z1G l w)=some p→lo≤p∧p<lo+n∧(Z2g lo n).filter (Z1G l w)=p::(Z2g (p+1) (lo+n-(p+1))).filter (Z1G l w):=by
  intro n
  induction n with
  |zero=>intro lo h;simp at h
  |succ n ih =>
   intro lo h
   rw[ZmW,ZoR] at h
   rw[ZmW,Z53]
   cases hs:Z1G l w lo with
   |true =>
    rw[hs] at h
    cases h
    refine⟨Zg _,by lia,?_⟩
    rw[if_pos rfl]
    congr 3
    lia
   |false =>
    rw[hs] at h
    obtain⟨a,b,c⟩:=ih (lo+1) h
    refine⟨by exact Z3v (by assumption),by lia,?_⟩
    rw[if_neg (by simp),c]
    congr 3
    lia
 obtain⟨a,b,c⟩:=aux _ _ h
 refine⟨a,by omega,?_⟩
 rw[c]
 congr 3
 lia
theorem Zbv {l w:W}{lo:Nat}(h:Z1x l w lo=none):allAt l w lo=[]:=by
 unfold Z1x at h
 unfold allAt
 rw[List.filter_eq_nil_iff]
 intro i hi
 exact List.find?_eq_none.mp h i hi
theorem Z6J {l w:W}(hl:l≠[]){i:Nat}:i∈allAt l w 0↔Z1G l w i=true:=by
 unfold allAt
 rw[Z10,Z4G]
 constructor
 ·exact fun h=>h.2
 ·intro h
  have:=Z3y hl h
  exact⟨⟨Z0r _,by lia⟩,h⟩
noncomputable abbrev Ru:=W×W
noncomputable def rTh (r:Ru):Th:=.tup [tS r.1,tS r.2]
noncomputable def RT (R:List Ru):Th:=.tup (R.map rTh)
noncomputable def Z5x (p:Nat×Nat):Th:=.tup [.int (p.1:Int),.int (p.2:Int)]
theorem Z9V {α:Type}[DecidableEq α]:∀ {a b:List α},a.Nodup→b.Nodup→(∀ x,x∈a↔x∈b)→a.Perm b
 |[],b,_,_,h=>by
  have:b=[]:=ZaH.mpr fun x hx=>absurd ((h x).mpr hx) (by simp)
  rw[this]
 |x::a,b,ha,hb,h=>by
  have hx:x∈b:=(h x).mp Z4
  have hna:=Z2N.mp ha
  refine (ZjT x (Z9V hna.2 (hb.erase x) fun y=>?_)).trans (List.perm_cons_erase hx).symm
  rw[hb.mem_erase_iff]
  constructor
  ·intro hy
   exact⟨fun e=>hna.1 (e ▸ hy),(h y).mp (Z9 _ hy)⟩
  ·rintro⟨n,hy⟩
   rcases Zi.mp ((h y).mpr hy) with e|e
   ·exact absurd e n
   ·exact e
noncomputable def Z2u (w:W)(p:Nat):Nat→List Ru→List (Nat×Nat)
 |_,[]=>[]
 |k,r::R=>if Z1G r.1 w p=true then (p,k)::Z2u w p (k+1) R else Z2u w p (k+1) R
noncomputable def Z0I (R:List Ru)(w:W):List (Nat×Nat):=(Z0L w.length).flatMap fun p=>Z2u w p 0 R
theorem Z7x {w:W}{p:Nat}{x:Nat×Nat}:∀ {k:Nat} {R:List Ru},x∈Z2u w p k R↔x.1=p∧k≤x.2∧∃ r,R[x.2-k]?=some r∧Z1G r.1 w p=true
 |k,[]=>by simp[Z2u]
 |k,r::R=>by
  have key:(x.1=p∧k≤x.2∧∃ q,(r::R)[x.2-k]?=some q∧Z1G q.1 w p=true)↔((x=(p,k)∧Z1G r.1 w p=true)∨(x.1=p∧k+1≤x.2∧∃ q,R[x.2-(k+1)]?=some q∧Z1G q.1 w p=true)):=by
   constructor
   ·rintro⟨h1,h2,q,h3,h4⟩
    by_cases e:x.2=k
    ·left
     rw[e,Z47,gz_] at h3
     cases h3
     exact⟨Z7K h1 e,h4⟩
    ·right
     obtain⟨j,hj⟩:∃ j,x.2-k=j+1:=⟨x.2-k-1,by lia⟩
     rw[hj,gs_] at h3
     refine⟨h1,by lia,q,?_,h4⟩
     rw[show x.2-(k+1)=j by lia]
     exact h3
   ·rintro (⟨e,h⟩|⟨h1,h2,q,h3,h4⟩)
    ·subst e
     exact⟨rfl,Zg _,r,by simp,h⟩
    ·refine⟨h1,by exact Z3v (by assumption),q,?_,h4⟩
     rw[show x.2-k=(x.2-(k+1))+1 by lia,gs_]
     exact h3
  rw[key]
  unfold Z2u
  split
  ·rename_i hs
   rw[Zi,Z7x (k:=k+1) (R:=R)]
   constructor
   ·rintro (e|e)
    ·exact .inl ⟨e,hs⟩
    ·exact .inr e
   ·rintro (⟨e,-⟩|e)
    ·exact .inl e
    ·exact .inr e
  ·rename_i hs
   rw[Z7x (k:=k+1) (R:=R)]
   constructor
   ·exact .inr
   ·rintro (⟨-,e⟩|e)
    ·exact absurd e hs
    ·exact e
noncomputable def Zfr (R:List Ru)(w:W)(x:Nat×Nat):Prop:=∃ r,R[x.2]?=some r∧Z1G r.1 w x.1=true
theorem Z2T {R:List Ru}{w:W}(hR:∀ r∈R,r.1≠[]){x:Nat×Nat}:x∈Z0I R w↔Zfr R w x:=by
 unfold Z0I Zfr
 rw[ZaS]
 constructor
 ·rintro⟨p,-,h⟩
  obtain⟨h1,-,r,h3,h4⟩:=Z7x.mp h
  subst h1
  exact⟨r,by simpa using h3,h4⟩
 ·rintro⟨r,h1,h2⟩
  have hl:=Z3y (hR r (Z01 h1)) h2
  have:0<r.1.length:=Z5t.mpr (hR r (Z01 h1))
  exact⟨x.1,Z37.mpr (by lia),Z7x.mpr ⟨rfl,Z0r _,r,by simpa using h1,h2⟩⟩
theorem ZbM (w:W)(p:Nat):∀ (k:Nat) (R:List Ru),(Z2u w p k R).Pairwise fun a b=>a.1=b.1∧a.2<b.2
 |k,[]=>Z2j
 |k,r::R=>by
  unfold Z2u
  split
  ·refine Z0N.cons (fun b hb=>?_) (ZbM w p (k+1) R)
   obtain⟨h1,h2,-⟩:=Z7x.mp hb
   exact⟨h1.symm,h2⟩
  ·exact ZbM w p (k+1) R
noncomputable def LtP (a b:Nat×Nat):Prop:=a.1<b.1∨(a.1=b.1∧a.2<b.2)
theorem Z7v (R:List Ru)(w:W):(Z0I R w).Pairwise LtP:=by
 unfold Z0I
 rw[List.pairwise_flatMap]
 refine⟨fun p _=>(ZbM w p 0 R).imp fun h=>.inr h,?_⟩
 refine Z0N.imp (fun {p q} hpq x hx y hy=>.inl ?_) (List.pairwise_lt_range (n:=w.length))
 rw[(Z7x.mp hx).1,(Z7x.mp hy).1]
 exact hpq
theorem Zd3 (R:List Ru)(w:W):(Z0I R w).Nodup:=(Z7v R w).imp fun {a b} h e=>by
 subst e
 unfold LtP at h
 lia
noncomputable def Z33 (w:W):Nat→List Ru→List (Nat×Nat)
 |_,[]=>[]
 |k,r::R=>(allAt r.1 w 0).map (fun p=>(p,k))++Z33 w (k+1) R
theorem ZbW {w:W}{x:Nat×Nat}:∀ {k:Nat} {R:List Ru},(∀ r∈R,r.1≠[])→(x∈Z33 w k R↔k≤x.2∧∃ r,R[x.2-k]?=some r∧Z1G r.1 w x.1=true)
 |k,[],_=>by simp[Z33]
 |k,r::R,hR=>by
  unfold Z33
  rw[ZQ,ZbW (k:=k+1) (R:=R) fun q hq=>hR q (Z9 _ hq),ZT]
  constructor
  ·rintro (⟨p,hp,e⟩|⟨h2,q,h3,h4⟩)
   ·subst e
    exact⟨Zg _,r,by simp,(Z6J (hR r Z4)).mp hp⟩
   ·refine⟨by lia,q,?_,h4⟩
    rw[show x.2-k=(x.2-(k+1))+1 by lia,gs_]
    exact h3
  ·rintro⟨h2,q,h3,h4⟩
   by_cases e:x.2=k
   ·left
    rw[e,Z47,gz_] at h3
    cases h3
    exact⟨x.1,(Z6J (hR r Z4)).mpr h4,Z7K rfl e.symm⟩
   ·right
    obtain⟨j,hj⟩:∃ j,x.2-k=j+1:=⟨x.2-k-1,by lia⟩
    rw[hj,gs_] at h3
    refine⟨by lia,q,?_,h4⟩
    rw[show x.2-(k+1)=j by lia]
    exact h3
theorem Zfq (l w:W):(allAt l w 0).Nodup:=by
 unfold allAt
 exact Z6p _ List.nodup_range'
theorem Zbo {w:W}:∀ {k:Nat} {R:List Ru},(∀ r∈R,r.1≠[])→(Z33 w k R).Nodup
 |k,[],_=>Z8j
 |k,r::R,hR=>by
  unfold Z33
  have hR':∀ q∈R,q.1≠[]:=fun q hq=>hR q (Z9 _ hq)
  refine Zav.mpr ⟨?_,Zbo hR',fun a ha b hb e=>?_⟩
  ·refine Z0N.map _ (fun a b h e=>h ?_) (Zfq r.1 w)
   exact congrArg Prod.fst e
  ·subst e
   obtain⟨p,-,rfl⟩:=ZT.mp ha
   have:=((ZbW hR').mp hb).1
   simp only at this
   exact absurd (by assumption) (Z1Q _)
theorem Zjw {R:List Ru}{w:W}(hR:∀ r∈R,r.1≠[]):(Z0I R w).Perm (Z33 w 0 R):=by
 refine Z9V (Zd3 R w) (Zbo hR) fun x=>?_
 rw[Z2T hR,ZbW hR]
 unfold Zfr
 simp
theorem Zex {R:List Ru}{w:W}(hR:∀ r∈R,r.1≠[]):ZcI ((Z33 w 0 R).map Z5x)=(Z0I R w).map Z5x:=by
 refine ZbH ((Zjw hR).map _) (Z1M.mpr ((Z7v R w).imp fun {a b} h=>?_))
 refine .ii ?_
 unfold LtP at h
 lia
theorem Zqc (l:List (Nat×Nat)):okT (l.map Z5x)=true:=by
 unfold okT
 have:(l.map Z5x).all (okK .ii)=true:=by
  rw[ZaJ,Z54]
  intro x _
  rfl
 rw[this]
 simp
theorem ZeB (w:W)(p:Nat):∀ (k:Nat) (R:List Ru),(Z2u w p k R).length≤R.length
 |k,[]=>Zg _
 |k,r::R=>by
  unfold Z2u
  have:=ZeB w p (k+1) R
  split <;> simp <;> omega
theorem Z72 (R:List Ru)(w:W):(Z0I R w).length≤w.length*R.length:=by
 unfold Z0I
 have:∀ l:List Nat,(l.flatMap fun p=>Z2u w p 0 R).length≤l.length*R.length:=by
  intro l
  induction l with
  |nil=>simp
  |cons p l ih =>
   rw[Zm4,Zd,Zp,Z7M]
   have:=ZeB w p 0 R
   lia
 have h:=this (Z0L w.length)
 rwa [Z2c] at h
noncomputable def chW (r:Ru)(w:W)(p:Nat):W:=w.take p++r.2++w.drop (p+r.1.length)
noncomputable def Z4u (R:List Ru)(w:W):List W:=(Z0I R w).filterMap fun x=>(R[x.2]?).map fun r=>chW r w x.1
noncomputable def ltW (a b:W):Prop:=a.length<b.length∨(a.length=b.length∧a<b)
theorem ZeX (u:W){a b:W}(h:a<b):u++a<u++b:=by
 induction u with
 |nil=>exact h
 |cons c u ih=>exact Z3t.mpr (.inr ⟨rfl,ih⟩)
theorem Zdj {a b:W}(v:W)(h:a<b)(hl:a.length=b.length):a++v<b++v:=by
 induction a generalizing b with
 |nil =>
  cases b with
  |nil=>exact absurd h (Z8k _)
  |cons _ _=>simp at hl
 |cons c a ih =>
  cases b with
  |nil=>simp at hl
  |cons d b =>
   rw[ZO,ZO]
   rcases Z3t.mp h with q|⟨e,q⟩
   ·exact Z3t.mpr (.inl q)
   ·exact Z3t.mpr (.inr ⟨e,ih q (by simpa using hl)⟩)
theorem Zoo {l r:W}(u v:W)(h:ltW r l):ltW (u++r++v) (u++l++v):=by
 rcases h with h|⟨h1,h2⟩
 ·left
  simp only[Zd]
  lia
 ·right
  refine⟨by simp only[Zd];lia,?_⟩
  rw[Z7,Z7]
  exact ZeX u (Zdj v h2 h1)
theorem Zlr {R:List Ru}(hR:∀ r∈R,r.1≠[]∧ltW r.2 r.1){w:W}{x:Nat×Nat}{r:Ru}(h1:R[x.2]?=some r)(h2:Z1G r.1 w x.1=true):ltW (chW r w x.1) w:=by
 have hr:=hR r (Z01 h1)
 have hl:=Z3y hr.1 h2
 have e:=ZaY h2 (by lia)
 have z:=Zoo (w.take x.1) (w.drop (x.1+r.1.length)) hr.2
 rw[← e] at z
 exact z
theorem Z81 {R:List Ru}(hR:∀ r∈R,r.1≠[]){w y:W}:y∈Z4u R w↔∃ (p:Nat) (r:Ru),r∈R∧Z1G r.1 w p=true∧y=chW r w p:=by
 unfold Z4u
 rw[Z5X]
 constructor
 ·rintro⟨x,hx,e⟩
  obtain⟨r,h1,h2⟩:=(Z2T hR).mp hx
  rw[h1] at e
  cases e
  exact⟨x.1,r,Z01 h1,h2,rfl⟩
 ·rintro⟨p,r,hr,h2,e⟩
  obtain⟨k,hk,e1⟩:=Z2Y hr
  have h1:R[k]?=some r:=by rw[Zc hk,e1]
  refine⟨(p,k),(Z2T hR).mpr ⟨r,h1,h2⟩,?_⟩
  show (R[k]?).map _=_
  rw[h1,e]
  rfl
end L2
namespace L2
open PySem
inductive Rch {α:Type} (nx:α→List α):α→α→Prop where
 |refl (x:α):Rch nx x x
 |step {x y z:α} (r:Rch nx x y) (h:z∈nx y):Rch nx x z
section
variable {α:Type}[DecidableEq α]{nx:α→List α}{U:List α}
theorem Rch.mem (hU:∀ x∈U,∀ y∈nx x,y∈U){x y:α}(r:Rch nx x y)(hx:x∈U):y∈U:=by
 induction r with
 |refl=>exact hx
 |step r h ih=>exact hU _ ih _ h
theorem Z4M {α:Type}[DecidableEq α]:∀ {a U:List α},a.Nodup→(∀ x∈a,x∈U)→a.length≤U.length
 |[],_,_,_=>Z0r _
 |x::a,U,hn,hs=>by
  obtain⟨h1,h2⟩:=Z2N.mp hn
  have hx:x∈U:=hs x Z4
  have ih:=Z4M (U:=U.erase x) h2 fun y hy=>(List.mem_erase_of_ne (fun e=>h1 (by rw[← e];exact hy))).mpr (hs y (Z9 _ hy))
  have:=List.length_erase_of_mem hx
  have:=ZgF hx
  rw[Zp]
  lia
structure ZjV (nx:α→List α)(s:α)(v w:List α):Prop where
 nd:v.Nodup
 vr:∀ x∈v,Rch nx s x
 wr:∀ x∈w,Rch nx s x
 cl:∀ x∈v,∀ y∈nx x,y∈v∨y∈w
 st:s∈v∨s∈w
theorem ZjV.skip {s x:α}{v w:List α}(k:ZjV nx s v (w++[x]))(h:x∈v):ZjV nx s v w where
 nd:=k.nd
 vr:=k.vr
 wr:=fun y hy=>k.wr y (Z08 _ hy)
 cl:=fun y hy z hz=>by
  rcases k.cl y hy z hz with q|q
  ·exact .inl q
  ·rcases ZQ.mp q with q|q
   ·exact .inr q
   ·rw[Z0c] at q;subst q;exact .inl h
 st:=by
  rcases k.st with q|q
  ·exact .inl q
  ·rcases ZQ.mp q with q|q
   ·exact .inr q
   ·rw[Z0c] at q;subst q;exact .inl h
theorem ZjV.all {s:α}{v:List α}(k:ZjV nx s v []){x:α}:x∈v↔Rch nx s x:=by
 refine⟨k.vr x,fun r=>?_⟩
 induction r with
 |refl=>exact k.st.elim id fun z=>nomatch z
 |step _ h ih=>exact (k.cl _ ih _ h).elim id fun z=>nomatch z
structure Zax (nx:α→List α)(s:α)(i:Nat)(v:List α):Prop where
 nd:v.Nodup
 le:i≤v.length
 vr:∀ x∈v,Rch nx s x
 cl:∀ x∈v.take i,∀ y∈nx x,y∈v
 st:s∈v
noncomputable def Zdf (v l:List α):List α:=l.filter fun y=>!decide (y∈v)
theorem Zax.turn {s x:α}{i:Nat}{v:List α}(k:Zax nx s i v)(hx:v[i]?=some x)(hn:(nx x).Nodup):Zax nx s (i+1) (v++Zdf v (nx x)):=by
 have hi:i<v.length:=(Zv.mp hx).1
 have hm:x∈v:=Z01 hx
 have mem:∀ y,y∈nx x→y∈v++Zdf v (nx x):=fun y hy=>by
  by_cases q:y∈v
  ·exact Z08 _ q
  ·exact ZH _ (Z10.mpr ⟨hy,by simpa using q⟩)
 refine⟨Zav.mpr ⟨k.nd,Z6p _ hn,fun a ha b hb e=>?_⟩,by rw[Zd];lia,fun y hy=>?_,fun y hy z hz=>?_,Z08 _ k.st⟩
 ·subst e
  have:=(Z10.mp hb).2
  simp[ha] at this
 ·rcases ZQ.mp hy with q|q
  ·exact k.vr y q
  ·exact .step (k.vr x hm) (Z10.mp q).1
 ·rw[Z1i (by assumption),Zau,hx] at hy
  rcases ZQ.mp hy with q|q
  ·exact Z08 _ (k.cl y q z hz)
  ·have:y=x:=by simpa using q
   subst this
   exact mem z hz
theorem Zax.all {s:α}{v:List α}(k:Zax nx s v.length v){x:α}:x∈v↔Rch nx s x:=by
 refine⟨k.vr x,fun r=>?_⟩
 induction r with
 |refl=>exact k.st
 |step _ h ih=>exact k.cl _ (by rw[Z35];exact ih) _ h
end
end L2
namespace L2
open PySem
noncomputable def ovW (l m:W)(p:Nat):W:=l.take p++m++l.drop (p+m.length)
noncomputable def ClW (R:List Ru)(u:W):Prop:=∃ (i j:Nat) (a b:Ru) (p:Nat),R[i]?=some a∧R[j]?=some b∧(i=j→1≤p)∧p<a.1.length∧u=ovW a.1 b.1 p∧a.1 <+: u
noncomputable def StW (R:List Ru)(w y:W):Prop:=∃ (p:Nat) (r:Ru),r∈R∧Z1G r.1 w p=true∧y=chW r w p
theorem Zpb {R:List Ru}{w y:W}(u v:W)(hne:∀ r∈R,r.1≠[])(h:StW R w y):StW R (u++w++v) (u++y++v):=by
 obtain⟨p,r,hr,hs,rfl⟩:=h
 have hl:=Z3y (hne r hr) hs
 have e:=ZaY hs (by lia)
 refine⟨u.length+p,r,hr,?_,?_⟩
 ·rw[Z2Q,Z7,Z2o,Z03 (by simp),Zz,Z0x,Z0R (by lia)]
  exact (Z2Q.mp hs).trans (Z3c _ _)
 ·unfold chW
  have l1:(u++w++v).take (u.length+p)=u++w.take p:=by
   rw[Z7,ZaR,Z0s (by lia),Z0x,Z1i (by lia)]
  have l2:(u++w++v).drop (u.length+p+r.1.length)=w.drop (p+r.1.length)++v:=by
   rw[Z7,Z1R,Z2o,Z03 (by simp),Zz,Z0x,Z0R (by omega)]
  rw[l1,l2]
  simp only[Z7]
section
variable {R:List Ru}{nx:W→List W}
theorem Rch.trans {α:Type}{nx:α→List α}{x y z:α}(a:Rch nx x y)(b:Rch nx y z):Rch nx x z:=by
 induction b with
 |refl=>exact a
 |step _ h ih=>exact .step ih h
theorem Rch.head {α:Type}{nx:α→List α}{x z:α}(r:Rch nx x z):x=z∨∃ y,y∈nx x∧Rch nx y z:=by
 induction r with
 |refl=>exact .inl rfl
 |step r h ih =>
  rcases ih with e|⟨y,hy,q⟩
  ·subst e
   exact .inr ⟨_,h,.refl _⟩
  ·exact .inr ⟨y,hy,.step q h⟩
theorem ZeC (hne:∀ r∈R,r.1≠[])(hn:∀ w y,y∈nx w↔StW R w y){w y:W}(u v:W)(h:Rch nx w y):Rch nx (u++w++v) (u++y++v):=by
 induction h with
 |refl=>exact .refl _
 |step _ h ih=>exact .step ih ((hn _ _).mpr (Zpb u v hne ((hn _ _).mp h)))
noncomputable def ZjP (nx:W→List W)(w:W):Prop:=∀ a b,Rch nx w a→Rch nx w b→nx a=[]→nx b=[]→a=b
theorem Zqj {P:W→Prop}{μ:W→Nat}(hP:∀ w,P w→∀ y∈nx w,P y∧μ y<μ w)(hl:∀ w,P w→∀ y∈nx w,∀ z∈nx w,∃ e,Rch nx y e∧Rch nx z e):∀ w,P w→ZjP nx w:=by
 have pr:∀ {w y},Rch nx w y→P w→P y:=fun {w y} r=>by
  induction r with
  |refl=>exact id
  |step _ h ih=>exact fun p=>(hP _ (ih p) _ h).1
 have low:∀ n w,P w→μ w=n→∃ e,Rch nx w e∧nx e=[]:=by
  intro n
  induction n using Z7O with
  |ind n ih =>
   intro w pw e
   cases h:nx w with
   |nil=>exact⟨w,.refl _,h⟩
   |cons y l =>
    have hy:y∈nx w:=by rw[h];exact Z4
    obtain⟨py,ly⟩:=hP w pw y hy
    obtain⟨e1,r1,r2⟩:=ih (μ y) (by lia) y py rfl
    exact⟨e1,Rch.trans (.step (.refl _) hy) r1,r2⟩
 have main:∀ n w,P w→μ w=n→ZjP nx w:=by
  intro n
  induction n using Z7O with
  |ind n ih =>
   intro w pw e a b ra rb na nb
   rcases ra.head with q|⟨y,hy,qa⟩
   ·subst q
    rcases rb.head with q|⟨z,hz,-⟩
    ·exact q
    ·rw[na] at hz;cases hz
   ·rcases rb.head with q|⟨z,hz,qb⟩
    ·subst q
     rw[nb] at hy;cases hy
    ·obtain⟨py,ly⟩:=hP w pw y hy
     obtain⟨pz,lz⟩:=hP w pw z hz
     obtain⟨c,c1,c2⟩:=hl w pw y hy z hz
     obtain⟨n0,d1,d2⟩:=low _ c (pr c1 py) rfl
     have h1:=ih (μ y) (by lia) y py rfl a n0 qa (c1.trans d1) na d2
     have h2:=ih (μ z) (by lia) z pz rfl b n0 qb (c2.trans d1) nb d2
     rw[h1,h2]
 exact fun w pw=>main _ w pw rfl
theorem Zim {a b x:W}(h1:a <+: x)(h2:b <+: x)(h:a.length≤b.length):a <+: b:=List.prefix_of_prefix_length_le h1 h2 h
theorem Zq2 {l m x:W}{p:Nat}(hp:p≤l.length)(h1:l <+: x)(h2:m <+: x.drop p):ovW l m p <+: x∧l <+: ovW l m p:=by
 obtain⟨t,rfl⟩:=h1
 have e1:(l++t).drop p=l.drop p++t:=by rw[Z0R hp]
 rw[e1] at h2
 unfold ovW
 by_cases hm:p+m.length≤l.length
 ·have h3:m <+: l.drop p:=Zim h2 (Z3c _ _) (by rw[ZM];lia)
  obtain⟨s,hs⟩:=h3
  have e2:l.drop (p+m.length)=s:=by rw[← Z0y,← hs,Z38]
  have e3:l.take p++m++l.drop (p+m.length)=l:=by rw[e2,Z7,hs,ZB]
  rw[e3]
  exact⟨Z3c _ _,ZmX _⟩
 ·have e2:l.drop (p+m.length)=[]:=Z03 (by lia)
  rw[e2,Z1z]
  constructor
  ·have:l++t=l.take p++(l.drop p++t):=by rw[← Z7,ZB]
   rw[this]
   exact (Zby _).mpr h2
  ·have:l.drop p <+: m:=Zim (Z3c _ _) h2 (by rw[ZM];lia)
   calc l=l.take p++l.drop p:=(ZB _ _).symm
    _ <+: _:=(Zby _).mpr this
theorem ZiG {l m:W}{p:Nat}(hp:p≤l.length):Z1G m (ovW l m p) p=true:=by
 rw[Z2Q]
 unfold ovW
 rw[Z7,Z2o,Z03 (by rw[ZA];lia),Zz,ZA,Zcq hp,Z47,Z3R]
 exact Z3c _ _
theorem ZmN {r:Ru}{w t:W}{p:Nat}(h:p+r.1.length≤w.length):chW r (w++t) p=chW r w p++t:=by
 unfold chW
 rw[Z1i (by lia),Z0R h]
 simp only[Z7]
theorem ZjA {r:Ru}{u w:W}{p:Nat}:chW r (u++w) (u.length+p)=u++chW r w p:=by
 unfold chW
 rw[ZaR,Z0s (by lia),Z0x,Z1R,Z2o,Z03 (by simp),Zz,Z0x]
 simp only[Z7]
theorem ZeY (hne:∀ r∈R,r.1≠[])(hn:∀ w y,y∈nx w↔StW R w y)(hc:∀ u,ClW R u→∀ y∈nx u,∀ z∈nx u,∃ e,Rch nx y e∧Rch nx z e)(w:W):∀ y∈nx w,∀ z∈nx w,∃ e,Rch nx y e∧Rch nx z e:=by
 have half:∀ (p q:Nat) (a b:Ru),a∈R→b∈R→Z1G a.1 w p=true→Z1G b.1 w q=true→p≤q→∃ e,Rch nx (chW a w p) e∧Rch nx (chW b w q) e:=by
  intro p q a b ha hb sa sb hpq
  have la:=Z3y (hne a ha) sa
  have lb:=Z3y (hne b hb) sb
  obtain⟨u,x,rfl,rfl⟩:∃ u x,w=u++x∧u.length=p:=⟨w.take p,w.drop p,(ZB _ _).symm,by rw[ZA];lia⟩
  obtain⟨k,rfl⟩:∃ k,q=u.length+k:=⟨q-u.length,by lia⟩
  have pa:a.1 <+: x:=by
   have:=Z2Q.mp sa
   rwa [Z38] at this
  have pb:b.1 <+: x.drop k:=by
   have:=Z2Q.mp sb
   rwa [Z2o,Z03 (by lia),Zz,Z0x] at this
  have e0:chW a (u++x) u.length=u++chW a x 0:=ZjA (p:=0)
  rw[e0,ZjA]
  by_cases hk:a.1.length≤k
  ·obtain⟨t,rfl⟩:=pa
   have hm:(a.1++t).drop k=t.drop (k-a.1.length):=by rw[Z2o,Z03 hk,Zz]
   rw[hm] at pb
   obtain⟨m,t',rfl,hml⟩:∃ m t',t=m++b.1++t'∧m.length=k-a.1.length:=by
    obtain⟨t',ht⟩:=pb
    refine⟨t.take (k-a.1.length),t',by rw[Z7,ht,ZB],?_⟩
    rw[ZA]
    rw[Zd,Zd] at lb
    lia
   have f1:chW a (a.1++(m++b.1++t')) 0=a.2++m++b.1++t':=by
    unfold chW
    rw[Z3P,Z0p,Z38]
    simp only[Zz,Z7]
   have f2:chW b (a.1++(m++b.1++t')) k=a.1++m++b.2++t':=by
    have ek:k=(a.1++m).length+0:=by rw[Zd];lia
    have ew:a.1++(m++b.1++t')=(a.1++m)++(b.1++t'):=by simp only[Z7]
    rw[ek,ew,ZjA]
    unfold chW
    rw[Z3P,Z0p,Z38]
    simp only[Zz,Z7]
   have one:∀ (r:Ru) (x y:W),r∈R→Rch nx (x++r.1++y) (x++r.2++y):=fun r x y hr=>by
    refine ZeC hne hn x y (.step (.refl _) ((hn _ _).mpr ⟨0,r,hr,?_,?_⟩))
    ·rw[Z2Q];exact ZmX _
    ·unfold chW
     rw[Z3P,Z0p,Z7b]
     simp
   refine⟨u++a.2++m++b.2++t',?_,?_⟩
   ·rw[f1]
    have:=one b (u++a.2++m) t' hb
    simpa only [Z7] using this
   ·rw[f2]
    have:=one a u (m++b.2++t') ha
    simpa only [Z7] using this
  ·by_cases same:k=0∧a=b
   ·obtain⟨rfl,rfl⟩:=same
    exact⟨_,.refl _,.refl _⟩
   ·obtain⟨⟨t,ht⟩,pl⟩:=Zq2 (l:=a.1) (m:=b.1) (by lia) pa pb
    have so:=ZiG (l:=a.1) (m:=b.1) (p:=k) (by lia)
    obtain⟨i,hi,ei⟩:=Z2Y ha
    obtain⟨j,hj,ej⟩:=Z2Y hb
    have hcl:ClW R (ovW a.1 b.1 k):=by
     refine⟨i,j,a,b,k,by rw[Zc hi,ei],by rw[Zc hj,ej],fun e=>?_,by exact Z7i (by assumption),rfl,pl⟩
     subst e
     rw[ei] at ej
     rcases Nat.eq_zero_or_pos k with z|z
     ·exact absurd ⟨z,ej⟩ same
     ·exact z
    have s1:Z1G a.1 (ovW a.1 b.1 k) 0=true:=Z2Q.mpr pl
    obtain⟨e,r1,r2⟩:=hc _ hcl _ ((hn _ _).mpr ⟨0,a,ha,s1,rfl⟩) _ ((hn _ _).mpr ⟨k,b,hb,so,rfl⟩)
    have l1:=Z3y (hne a ha) s1
    have l2:=Z3y (hne b hb) so
    refine⟨u++e++t,?_,?_⟩
    ·rw[← ht,ZmN l1,← Z7]
     exact ZeC hne hn u t r1
    ·rw[← ht,ZmN l2,← Z7]
     exact ZeC hne hn u t r2
 intro y hy z hz
 obtain⟨p,a,ha,sa,rfl⟩:=(hn _ _).mp hy
 obtain⟨q,b,hb,sb,rfl⟩:=(hn _ _).mp hz
 rcases Nat.le_total p q with h|h
 ·exact half p q a b ha hb sa sb h
 ·obtain⟨e,r1,r2⟩:=half q p b a hb ha sb sa h
  exact⟨e,r2,r1⟩
end
end L2
namespace L2
open PySem
noncomputable def ZhE (l m:W)(st:Nat):List W:=((Z2g st (l.length-st)).map (ovW l m)).filter fun u=>l.isPrefixOf u
theorem Zj5 {l m u:W}{st:Nat}:u∈ZhE l m st↔∃ p,st≤p∧p<l.length∧u=ovW l m p∧l <+: u:=by
 unfold ZhE
 rw[Z10,ZT]
 constructor
 ·rintro⟨⟨p,hp,e⟩,h⟩
  obtain⟨h1,h2⟩:=Z4G.mp hp
  exact⟨p,h1,by omega,e.symm,Z1H.mp h⟩
 ·rintro⟨p,h1,h2,e,h⟩
  exact⟨⟨p,Z4G.mpr ⟨h1,by lia⟩,e.symm⟩,Z1H.mpr h⟩
theorem ZiF (l m:W)(st:Nat):(ZhE l m st).length≤l.length:=by
 unfold ZhE
 exact ZR (Z3q _ _) (by rw[Ze,Z9l];exact ZaG _ _)
noncomputable def Z7A (a:Ru)(i:Nat):Nat→List Ru→List W
 |_,[]=>[]
 |j,b::R=>ZhE a.1 b.1 (if i=j then 1 else 0)++Z7A a i (j+1) R
noncomputable def Z5q (R0:List Ru):Nat→List Ru→List W
 |_,[]=>[]
 |i,a::R=>Z7A a i 0 R0++Z5q R0 (i+1) R
theorem Z9X {a:Ru}{i:Nat}{u:W}:∀ {j:Nat} {R:List Ru},u∈Z7A a i j R↔∃ k b,R[k]?=some b∧u∈ZhE a.1 b.1 (if i=j+k then 1 else 0)
 |j,[]=>by simp[Z7A]
 |j,b::R=>by
  unfold Z7A
  rw[ZQ,Z9X]
  constructor
  ·rintro (h|⟨k,c,h1,h2⟩)
   ·exact⟨0,b,rfl,h⟩
   ·refine⟨k+1,c,h1,?_⟩
    rw[show j+(k+1)=j+1+k by lia]
    exact h2
  ·rintro⟨k,c,h1,h2⟩
   cases k with
   |zero=>cases h1;exact .inl h2
   |succ k =>
    refine .inr ⟨k,c,h1,?_⟩
    rw[show j+1+k=j+(k+1) by lia]
    exact h2
theorem Zdi {R0:List Ru}{u:W}:∀ {i:Nat} {R:List Ru},u∈Z5q R0 i R↔∃ k a,R[k]?=some a∧u∈Z7A a (i+k) 0 R0
 |i,[]=>by simp[Z5q]
 |i,b::R=>by
  unfold Z5q
  rw[ZQ,Zdi]
  constructor
  ·rintro (h|⟨k,c,h1,h2⟩)
   ·exact⟨0,b,rfl,h⟩
   ·refine⟨k+1,c,h1,?_⟩
    rw[show i+(k+1)=i+1+k by lia]
    exact h2
  ·rintro⟨k,c,h1,h2⟩
   cases k with
   |zero=>cases h1;exact .inl h2
   |succ k =>
    refine .inr ⟨k,c,h1,?_⟩
    rw[show i+1+k=i+(k+1) by lia]
    exact h2
theorem Zql {R:List Ru}{u:W}:u∈Z5q R 0 R↔ClW R u:=by
 rw[Zdi]
 constructor
 ·rintro⟨i,a,h1,h2⟩
  rw[Z9X] at h2
  obtain⟨j,b,h3,h4⟩:=h2
  obtain⟨p,q1,q2,q3,q4⟩:=Zj5.mp h4
  refine⟨i,j,a,b,p,h1,h3,fun e=>?_,q2,q3,q4⟩
  rw[if_pos (by lia)] at q1
  exact q1
 ·rintro⟨i,j,a,b,p,h1,h3,h,q2,q3,q4⟩
  refine⟨i,a,h1,Z9X.mpr ⟨j,b,h3,Zj5.mpr ⟨p,?_,q2,q3,q4⟩⟩⟩
  split
  ·rename_i e;exact h (by lia)
  ·exact Z0r _
theorem Zak {a:Ru}{i n:Nat}(ha:a.1.length≤n):∀ {j:Nat} {R:List Ru},(Z7A a i j R).length≤R.length*n
 |_,[]=>by simp[Z7A]
 |j,b::R=>by
  unfold Z7A
  have h1:=ZiF a.1 b.1 (if i=j then 1 else 0)
  have h2:=Zak (i:=i) ha (j:=j+1) (R:=R)
  rw[Zd,Zp,Z7M]
  lia
theorem ZdR {R0:List Ru}{n:Nat}:∀ {i:Nat} {R:List Ru},(∀ a∈R,a.1.length≤n)→(Z5q R0 i R).length≤R.length*(R0.length*n)
 |_,[],_=>by simp[Z5q]
 |i,b::R,h=>by
  unfold Z5q
  have h1:=Zak (i:=i) (h b Z4) (j:=0) (R:=R0)
  have h2:=ZdR (R0:=R0) (i:=i+1) fun a ha=>h a (Z9 _ ha)
  rw[Zd,Zp,Z7M]
  lia
theorem ZoI {R:List Ru}{u:W}{P:Nat→Prop}{n:Nat}(hP:∀ r∈R,∀ c∈r.1,P c)(hn:∀ r∈R,r.1.length≤n)(h:ClW R u):u.length+1≤2*n∧∀ c∈u,P c:=by
 obtain⟨i,j,a,b,p,h1,h2,-,h3,rfl,-⟩:=h
 have ha:=Z01 h1
 have hb:=Z01 h2
 have la:=hn a ha
 have lb:=hn b hb
 unfold ovW
 constructor
 ·simp only[Zd,ZA,ZM]
  lia
 ·intro c hc
  rcases ZQ.mp hc with hc|hc
  ·rcases ZQ.mp hc with hc|hc
   ·exact hP a ha c (Z1A hc)
   ·exact hP b hb c hc
  ·exact hP a ha c (Z0C hc)
theorem Zmc {α:Type}{l:List α}(h:l.Nodup)(h2:1<l.length):∃ a b,a∈l∧b∈l∧a≠b:=by
 match l,h,h2 with
 |a::b::r,h,_=>exact⟨a,b,by simp,by simp,fun e=>(Z2N.mp h).1 (by rw[e];simp)⟩
 |[_],_,h2=>exact absurd h2 (by simp)
 |[],_,h2=>exact absurd h2 (by simp)
theorem Zn6 {α:Type}{l:List α}{a b:α}(ha:a∈l)(hb:b∈l)(h:a≠b):1<l.length:=by
 match l,ha,hb with
 |_::_::_,_,_=>simp
 |[x],ha,hb =>
  rw[Z0c] at ha hb
  exact absurd (ha.trans hb.symm) h
 |[],ha,_=>cases ha
end L2
namespace L2
open PySem
theorem Zdn (a b:Str):leS a b∨leS b a:=List.le_total _ _
open Classical in
theorem Z4s (l:List Str):(Z5Z l).Perm l∧(Z5Z l).Pairwise leS:=by
 have h1:=Z8E l (fun a b=>decide (leS a b))
 have h2:=Zfu (le:=fun a b=>decide (leS a b)) (fun a b c h h'=>by simp only[decide_eq_true_eq] at *;exact Zdm h h') (fun a b=>by simp only[Z2P,decide_eq_true_eq];exact Zdn a b) l
 have h3:=h2.imp (fun {a b} h=>of_decide_eq_true h)
 rw[ZfL h1 h3]
 exact⟨h1,h3⟩
theorem Zi4 (l:List Str):ZcI (l.map Th.str)=(Z5Z l).map Th.str:=ZbH ((Z4s l).1.map _) (Z1M.mpr ((Z4s l).2.imp fun h=>.s h))
theorem Zod (l:List Str):okT (l.map Th.str)=true:=by
 have:(l.map Th.str).all (okK .s)=true:=Z54.mpr fun t ht=>by
  obtain⟨x,-,rfl⟩:=ZT.mp ht
  rfl
 unfold okT
 rw[this];rfl
theorem Zj6 (l:List W):l.map tS=(l.map sL).map Th.str:=by rw[Z1n];rfl
noncomputable def Zkd (w:W):Prop:=∀ c∈w,c=97∨c=98∨c=99
noncomputable def Z7R:Nat→List W
 |0=>[[]]
 |n+1=>(Z7R n).flatMap fun w=>[97::w,98::w,99::w]
theorem Z76:∀ {n:Nat} {w:W},w∈Z7R n↔w.length=n∧Zkd w
 |0,w=>by
  show w∈[[]]↔_
  rw[Z0c]
  constructor
  ·rintro rfl
   exact⟨rfl,fun c h=>nomatch h⟩
  ·rintro⟨h,-⟩
   exact Zfv.mp h
 |n+1,w=>by
  show w∈(Z7R n).flatMap _↔_
  rw[ZaS]
  constructor
  ·rintro⟨v,hv,hw⟩
   obtain⟨h1,h2⟩:=Z76.mp hv
   simp only[Zi,Z1X,or_false] at hw
   rcases hw with rfl|rfl|rfl
   ·exact⟨by rw[Zp,h1],fun c hc=>(Zi.mp hc).elim (fun z=>.inl z) (h2 c)⟩
   ·exact⟨by rw[Zp,h1],fun c hc=>(Zi.mp hc).elim (fun z=>.inr (.inl z)) (h2 c)⟩
   ·exact⟨by rw[Zp,h1],fun c hc=>(Zi.mp hc).elim (fun z=>.inr (.inr z)) (h2 c)⟩
  ·rintro⟨h1,h2⟩
   cases w with
   |nil=>cases h1
   |cons c v =>
    refine⟨v,Z76.mpr ⟨by simpa using h1,fun d hd=>h2 d (Z9 _ hd)⟩,?_⟩
    rcases h2 c Z4 with rfl|rfl|rfl <;> simp
theorem ZaW:∀ n:Nat,(Z7R n).length=3 ^ n
 |0=>rfl
 |n+1=>by
  show ((Z7R n).flatMap _).length=_
  rw[ZjS]
  have:((Z7R n).map fun w:W=>[97::w,98::w,99::w].length)=(Z7R n).map fun _=>3:=rfl
  rw[this,List.map_const',List.sum_replicate_nat,ZaW n,Zs2]
noncomputable def Z41:List W:=(Z0L 12).flatMap Z7R
theorem Z2s {w:W}:w∈Z41↔w.length≤11∧Zkd w:=by
 unfold Z41
 rw[ZaS]
 constructor
 ·rintro⟨n,hn,hw⟩
  obtain⟨h1,h2⟩:=Z76.mp hw
  have:=Z37.mp hn
  exact⟨by lia,h2⟩
 ·rintro⟨h1,h2⟩
  exact⟨w.length,Z37.mpr (by lia),Z76.mpr ⟨rfl,h2⟩⟩
theorem Zce:Z41.length=265720:=by
 unfold Z41
 rw[ZjS]
 have:(Z0L 12).map (fun n=>(Z7R n).length)=(Z0L 12).map fun n=>3 ^ n:=Z2W fun n _=>ZaW n
 rw[this]
 rfl
noncomputable def val:W→Nat
 |[]=>0
 |c::w=>(c+1)*128 ^ w.length+val w
theorem Z8q:∀ {w:W},(∀ c∈w,c≤126)→val w<128 ^ w.length
 |[],_=>by decide
 |c::w,h=>by
  have ih:=Z8q (w:=w) fun d hd=>h d (Z9 _ hd)
  have hc:=h c Z4
  show (c+1)*128 ^ w.length+val w<128 ^ (w.length+1)
  have:(c+1)*128 ^ w.length≤127*128 ^ w.length:=Z5e _ (by lia)
  rw[Zs2]
  lia
theorem Zp5:∀ {a b:W},ltW a b→(∀ c∈a,c≤126)→val a<val b:=by
 have eqlen:∀ {a b:W},a.length=b.length→a<b→(∀ c∈a,c≤126)→val a<val b:=by
  intro a
  induction a with
  |nil =>
   intro b hl h _
   cases b with
   |nil=>exact absurd h (Z8k _)
   |cons=>cases hl
  |cons c a ih =>
   intro b hl h hc
   cases b with
   |nil=>cases hl
   |cons d b =>
    have hl':a.length=b.length:=by simpa using hl
    have hp:=Z8q (w:=a) fun x hx=>hc x (Z9 _ hx)
    show (c+1)*128 ^ a.length+val a<(d+1)*128 ^ b.length+val b
    rw[← hl']
    rcases Z3t.mp h with q|⟨rfl,q⟩
    ·have:(c+1+1)*128 ^ a.length≤(d+1)*128 ^ a.length:=Z5e _ (by lia)
     rw[Nat.add_mul (c+1) 1,Nat.one_mul] at this
     lia
    ·have:=ih hl' q fun x hx=>hc x (Z9 _ hx)
     lia
 intro a b h hc
 rcases h with h|⟨h1,h2⟩
 ·cases b with
  |nil=>exact absurd h (Z5y _)
  |cons d b =>
   have hp:=Z8q hc
   have h':a.length≤b.length:=by rw[Zp] at h;lia
   have:128 ^ a.length≤128 ^ b.length:=Nat.pow_le_pow_right (by decide) h'
   show val a<(d+1)*128 ^ b.length+val b
   have:1*128 ^ b.length≤(d+1)*128 ^ b.length:=Z5e _ (by simp)
   lia
 ·exact eqlen h1 h2 hc
noncomputable def Z3X (R:List Ru)(w:W):Option W:=(Z0I R w).head?.bind fun x=>(R[x.2]?).map fun r=>chW r w x.1
theorem Zhj {R:List Ru}(hR:∀ r∈R,r.1≠[]){w y:W}(h:Z3X R w=some y):y∈Z4u R w:=by
 unfold Z3X at h
 unfold Z4u
 cases hp:Z0I R w with
 |nil=>rw[hp] at h;cases h
 |cons x l =>
  rw[hp] at h
  exact Z5X.mpr ⟨x,Z4,h⟩
theorem Zhk {R:List Ru}(hR:∀ r∈R,r.1≠[]){w:W}(h:Z3X R w=none):Z0I R w=[]:=by
 unfold Z3X at h
 cases hp:Z0I R w with
 |nil=>rfl
 |cons x l =>
  obtain⟨r,hr,-⟩:=(Z2T hR).mp (show x∈Z0I R w by rw[hp];exact Z4)
  rw[hp] at h
  change ((R[x.2]?).map fun r=>chW r w x.1)=none at h
  rw[hr] at h
  cases h
end L2
namespace L2
open PySem
noncomputable def Z7h (w:W):Nat→List Ru→List (Nat×Nat)
 |_,[]=>[]
 |k,r::R=>match Z1x r.1 w 0 with
  |some p=>(p,k)::Z7h w (k+1) R
  |none=>Z7h w (k+1) R
theorem Zg7 {w:W}{x:Nat×Nat}:∀ {k:Nat} {R:List Ru},x∈Z7h w k R↔k≤x.2∧∃ r,R[x.2-k]?=some r∧Z1x r.1 w 0=some x.1
 |k,[]=>by simp[Z7h]
 |k,r::R=>by
  have ih:=Zg7 (w:=w) (x:=x) (k:=k+1) (R:=R)
  have key:(k≤x.2∧∃ q,(r::R)[x.2-k]?=some q∧Z1x q.1 w 0=some x.1)↔(x.2=k∧Z1x r.1 w 0=some x.1)∨(k+1≤x.2∧∃ q,R[x.2-(k+1)]?=some q∧Z1x q.1 w 0=some x.1):=by
   constructor
   ·rintro⟨h1,q,h2,h3⟩
    by_cases e:x.2=k
    ·rw[e,Z47] at h2
     cases h2
     exact .inl ⟨e,h3⟩
    ·refine .inr ⟨by lia,q,?_,h3⟩
     rw[show x.2-k=(x.2-(k+1))+1 by omega] at h2
     exact h2
   ·rintro (⟨e,h⟩|⟨h1,q,h2,h3⟩)
    ·exact⟨by lia,r,by rw[e,Z47];rfl,h⟩
    ·refine⟨by lia,q,?_,h3⟩
     rw[show x.2-k=(x.2-(k+1))+1 by omega]
     exact h2
  rw[key,← ih]
  rw[show Z7h w k (r::R)=(match Z1x r.1 w 0 with|some p=>(p,k)::Z7h w (k+1) R|none=>Z7h w (k+1) R) from rfl]
  cases hf:Z1x r.1 w 0 with
  |none =>
   constructor
   ·exact .inr
   ·rintro (⟨-,h⟩|h)
    ·cases h
    ·exact h
  |some p =>
   rw[Zi]
   constructor
   ·rintro (h|h)
    ·rw[h];exact .inl ⟨rfl,rfl⟩
    ·exact .inr h
   ·rintro (⟨e,h⟩|h)
    ·cases h
     exact .inl (Z7K rfl e)
    ·exact .inr h
theorem Z93 {l w:W}(hl:l≠[]){p:Nat}(h:Z1x l w 0=some p):Z1G l w p=true∧∀ i,Z1G l w i=true→p≤i:=by
 obtain⟨-,-,e⟩:=Zas h
 constructor
 ·exact (Z6J hl).mp (by rw[e];exact Z4)
 ·intro i hi
  have hm:=(Z6J hl).mpr hi
  rw[e] at hm
  rcases Zi.mp hm with z|z
  ·lia
  ·unfold allAt at z
   have:=(Z4G.mp (Z10.mp z).1).1
   exact Z3v (by assumption)
theorem Zjq {l w:W}(hl:l≠[]){i:Nat}(h:Z1G l w i=true):∃ p,Z1x l w 0=some p:=by
 cases e:Z1x l w 0 with
 |some p=>exact⟨p,rfl⟩
 |none =>
  have:=(Z6J hl).mpr h
  rw[Zbv e] at this
  cases this
noncomputable instance (a b:Nat×Nat):Decidable (LtP a b):=by unfold LtP;infer_instance
noncomputable def ZjZ (b:Nat×Nat):List (Nat×Nat)→Nat×Nat
 |[]=>b
 |t::r=>if LtP t b then ZjZ t r else ZjZ b r
theorem LtP.trans {a b c:Nat×Nat}(h:LtP a b)(h':LtP b c):LtP a c:=by unfold LtP at *;lia
theorem LtP.irr {a:Nat×Nat}:¬ LtP a a:=by unfold LtP;omega
theorem LtP.neg {a b c:Nat×Nat}(h:¬ LtP a b)(h':¬ LtP b c):¬ LtP a c:=by unfold LtP at *;omega
theorem ZbU:∀ (l:List (Nat×Nat)) (b:Nat×Nat),ZjZ b l∈b::l∧∀ y∈b::l,¬ LtP y (ZjZ b l)
 |[],b=>⟨Z4,fun y h=>by rw[Z0c.mp h];exact LtP.irr⟩
 |t::r,b=>by
  unfold ZjZ
  by_cases h:LtP t b
  ·rw[if_pos h]
   obtain⟨h1,h2⟩:=ZbU r t
   refine⟨Z9 _ h1,fun y hy=>?_⟩
   rcases Zi.mp hy with rfl|hy
   ·intro z
    exact h2 t Z4 (h.trans z)
   ·exact h2 y hy
  ·rw[if_neg h]
   obtain⟨h1,h2⟩:=ZbU r b
   refine⟨?_,fun y hy=>?_⟩
   ·rcases Zi.mp h1 with q|q
    ·rw[q];exact Z4
    ·exact Z9 _ (Z9 _ q)
   ·rcases Zi.mp hy with rfl|hy
    ·exact h2 _ Z4
    ·rcases Zi.mp hy with rfl|hy
     ·exact LtP.neg h (h2 b Z4)
     ·exact h2 y (Z9 _ hy)
theorem ZrN (a b:Nat×Nat):oLt (Z5x a) (Z5x b)=some (.bl (decide (LtP a b))):=by
 show (HT.lexK [.inl (a.1:Int),.inl (a.2:Int)] [.inl (b.1:Int),.inl (b.2:Int)]).map Th.bl=_
 unfold HT.lexK HT.lexK HT.lexK
 have e:∀ z:Bool,(z=true↔LtP a b)→(some z).map Th.bl=some (.bl (decide (LtP a b))):=fun z hz=>by
  by_cases q:LtP a b
  ·rw[decide_eq_true q,hz.mpr q];rfl
  ·rw[decide_eq_false q]
   cases z with
   |false=>rfl
   |true=>exact absurd (hz.mp rfl) q
 by_cases h1:(a.1:Int)=(b.1:Int)
 ·rw[if_pos h1]
  by_cases h2:(a.2:Int)=(b.2:Int)
  ·rw[if_pos h2]
   exact e false (by unfold LtP;simp;lia)
  ·rw[if_neg h2]
   exact e _ (by unfold LtP;simp;lia)
 ·rw[if_neg h1]
  exact e _ (by unfold LtP;simp;lia)
theorem ZeV:∀ (l:List (Nat×Nat)) (b:Nat×Nat),ZmF (Z5x b) (l.map Z5x)=some (Z5x (ZjZ b l))
 |[],b=>rfl
 |t::r,b=>by
  rw[ZJ,ZmF,ZrN]
  unfold ZjZ
  by_cases h:LtP t b
  ·rw[decide_eq_true h,if_pos h];exact ZeV r t
  ·rw[decide_eq_false h,if_neg h];exact ZeV r b
theorem Zjo {R:List Ru}(hR:∀ r∈R,r.1≠[])(w:W):Zdg .non ((Z7h w 0 R).map Z5x)=some (match (Z0I R w).head? with|some x=>Z5x x|none=>.non):=by
 have mc:∀ {x:Nat×Nat},x∈Z7h w 0 R↔∃ r,R[x.2]?=some r∧Z1x r.1 w 0=some x.1:=fun {x}=>by
  rw[Zg7,Z7N]
  exact⟨fun h=>h.2,fun h=>⟨Z0r _,h⟩⟩
 have st:∀ {x:Nat×Nat},x∈Z7h w 0 R→x∈Z0I R w:=fun {x} hx=>by
  obtain⟨r,h1,h2⟩:=mc.mp hx
  exact (Z2T hR).mpr ⟨r,h1,(Z93 (hR r (Z01 h1)) h2).1⟩
 have ca:∀ {x:Nat×Nat},x∈Z0I R w→∃ y∈Z7h w 0 R,y.2=x.2∧y.1≤x.1:=fun {x} hx=>by
  obtain⟨r,h1,h2⟩:=(Z2T hR).mp hx
  have hr:=hR r (Z01 h1)
  obtain⟨p,hp⟩:=Zjq hr h2
  exact⟨(p,x.2),mc.mpr ⟨r,h1,hp⟩,rfl,(Z93 hr hp).2 _ h2⟩
 have rise:=Z7v R w
 cases hc:Z7h w 0 R with
 |nil =>
  cases hp:Z0I R w with
  |nil=>rfl
  |cons x l =>
   obtain⟨y,hy,-⟩:=ca (show x∈Z0I R w by rw[hp];exact Z4)
   rw[hc] at hy
   cases hy
 |cons b l =>
  rw[ZJ]
  show ZmF (Z5x b) (l.map Z5x)=_
  rw[ZeV]
  obtain⟨m1,m2⟩:=ZbU l b
  rw[← hc] at m1 m2
  cases hp:Z0I R w with
  |nil =>
   have:=st m1
   rw[hp] at this
   cases this
  |cons x t =>
   have hx:x∈Z0I R w:=by rw[hp];exact Z4
   have e:ZjZ b l=x:=by
    have hm:=st m1
    rw[hp] at hm
    rcases Zi.mp hm with q|q
    ·exact q
    ·rw[hp] at rise
     have lt:LtP x (ZjZ b l):=(Z1y.mp rise).1 _ q
     obtain⟨y,hy,y2,y1⟩:=ca hx
     exact absurd (show LtP y (ZjZ b l) by unfold LtP at *;lia) (m2 y hy)
   rw[e]
   rfl
inductive Zep (R:List Ru):W→W→Prop where
 |stop {w:W} (h:Z3X R w=none):Zep R w w
 |go {w y z:W} (h:Z3X R w=some y) (r:Zep R y z):Zep R w z
theorem Zep.det {R:List Ru}{w y z:W}(h:Zep R w y)(h':Zep R w z):y=z:=by
 induction h with
 |stop e=>cases h' with
  |stop=>rfl
  |go e'=>rw[e] at e';cases e'
 |go e _ ih=>cases h' with
  |stop e'=>rw[e] at e';cases e'
  |go e' r'=>rw[e] at e';cases e';exact ih r'
end L2
namespace K30
open PySem PySem.Spec PyProof.Rows L2
noncomputable section
noncomputable def Ze6:FS:=(Z1L (Z1a 2 (f2 Z4m (f2 Z2x (f2 Z17 (f2 Z17 (Zb 0) (f2 Z2x (fC (.int 104729)) (Zb 1))) (fC (.int 17))) (fC (.int 69621))) (fC (.int 2147483647))))
 (Z2H (f2 Z4m (f2 Z17 (f2 Z17 (f2 Z2x (Zb 2) (Zb 2)) (f2 Z2x (fC (.int 3)) (Zb 2))) (Zb 1)) (fC (.int 2147483629)))))
noncomputable def Z0i:List Th→Option Th:=Z5w 2 3 Ze6
noncomputable def Zgv:FS:=(Z1L (Za9 2 (ZlJ (fC (.lst [(.tup [(.str ("ba":Str)),(.str ("ab":Str))]),(.tup [(.str ("ca":Str)),(.str ("ac":Str))]),(.tup [(.str ("cb":Str)),(.str ("bc":Str))])])) Z0j (Z1C (f2 ZoT (f2 Z2x (fC (.int 2)) (fCB Z3G (Z3 (Zb 1) Z02))) (fC (.int 3))))))
 (Z1L (fIf (ZU (f2 oEq (f2 Z4m (Zb 0) (fC (.int 2))) (fC (.int 1)))) (Za9 2 (ZlJ (Zb 2) Z0j (Z1C (f2 Z4m (f2 Z7e (Zb 0) (fC (.int 2))) (fC (.int 2)))))) Z0Y)
 (Z1L (ZaC (Z6q (ZK 1)) (Z45 3 4) (Z1L (Z1a 5 (ZZ Z0i (Z3 (ZK 0) (Z3 (ZK 3) Z02))))
 (fIf (ZU (f2 oGt (f2 Z4m (Zb 5) (fC (.int 3))) (fC (.int 0)))) (Z2a 2 (Z7g (Z3 (f2 Z2x (Zb 4) (f2 Z17 (fC (.int 2)) (f2 Z4m (f2 Z7e (Zb 5) (fC (.int 3))) (fC (.int 2))))) (Z3 (f2 Z2x (Zb 4) (f2 Z4m (f2 Z7e (Zb 5) (fC (.int 6))) (fC (.int 2)))) Z02)))) Z0Y)))
 (Z2H (Zb 2)))))
noncomputable def Z5N:List Th→Option Th:=Z5w 2 6 Zgv
noncomputable def Zgu:FS:=(Z1L (Z1a 3 (fC (.str ("":Str))))
 (Z1L (ZaC (Z2l (f2 Z4m (Zb 0) (f2 Z17 (Zb 2) (fC (.int 1))))) (Zbg 4) (Z1a 3 (f2 Z17 (Zb 3) (f2 oIx (Zb 1) (f2 Z4m (f2 Z7e (ZZ Z0i (Z3 (ZK 0) (Z3 (ZK 4) Z02))) (fC (.int 8))) (fCB Z3G (Z3 (Zb 1) Z02)))))))
 (Z2H (Zb 3))))
noncomputable def Z2S:List Th→Option Th:=Z5w 3 5 Zgu
noncomputable def Zgx:FS:=(Z2H (f2 oLt (Z7g (Z3 (fCB Z3G (Z3 (Zb 0) Z02)) (Z3 (ZK 0) Z02))) (Z7g (Z3 (fCB Z3G (Z3 (Zb 1) Z02)) (Z3 (ZK 1) Z02)))))
noncomputable def Z4Q:List Th→Option Th:=Z5w 2 2 Zgx
noncomputable def Zgw:FS:=(Z1L (Z1a 2 (f2 Z17 (ZZ Z2S (Z3 (f2 Z17 (f2 Z17 (f2 Z2x (fC (.int 3)) (f2 Z7e (Zb 0) (fC (.int 4)))) (fC (.int 1))) (f2 Z4m (Zb 0) (fC (.int 3)))) (Z3 (ZK 1) (Z3 (fC (.int 2)) Z02)))) (f2 oIx (Zb 1) (f2 Z4m (f2 Z7e (Zb 0) (fC (.int 12))) (fCB Z3G (Z3 (Zb 1) Z02))))))
 (Z1L (fIf (ZU (f2 oEq (f2 Z4m (f2 Z7e (Zb 0) (fC (.int 48))) (fC (.int 6))) (fC (.int 1)))) (Z1a 2 (fSl (f2 Z2x (Zb 2) (fC (.int 4))) Z0j (Z1C (fC (.int 4))))) Z0Y)
 (Z1L (Z1a 3 (ZZ Z2S (Z3 (ZZ Z0i (Z3 (ZK 0) (Z3 (fC (.int 50)) Z02))) (Z3 (ZK 1) (Z3 (fCB Z3G (Z3 (Zb 2) Z02)) Z02)))))
 (Z1L (fIf (ZdH (ZU (ZZ Z4Q (Z3 (ZK 3) (Z3 (ZK 2) Z02))))) (Z1a 3 (fSl (Zb 3) (Z1C (fC (.int 1))) (Z1C (fCB Z3G (Z3 (Zb 2) Z02))))) Z0Y)
 (Z2H (Z7g (Z3 (ZK 2) (Z3 (ZK 3) Z02))))))))
noncomputable def Z3h:List Th→Option Th:=Z5w 2 4 Zgw
noncomputable def Ze3:FS:=(Z1L (Z1a 1 (f2 oIx (fC (.tup [(.str ("ab":Str)),(.str ("abc":Str))])) (f2 Z4m (f2 Z7e (Zb 0) (fC (.int 4))) (fC (.int 2)))))
 (Z1L (Z1a 2 (ZZ Z5N (Z3 (f2 Z7e (Zb 0) (fC (.int 8))) (Z3 (ZK 1) Z02))))
 (Z1L (fIf (ZU (f2 oGt (f2 Z4m (Zb 0) (fC (.int 4))) (fC (.int 1)))) (Z1a 2 (Z3O (Z29 g1 (Z2l (f2 Z4m (f2 Z7e (Zb 0) (fC (.int 8))) (fC (.int 5)))) Z4A (ZZ Z3h (Z3 (ZZ Z0i (Z3 (ZK 1) (Z3 (f2 Z17 (fC (.int 9)) (Zb 0)) Z02))) (Z3 (ZK 2) Z02)))))) (fIf (ZU (f2 oEq (f2 Z4m (Zb 0) (fC (.int 4))) (fC (.int 1)))) (Z1a 2 (f2 Z17 (Zb 2) (Z3O (Z9h (Z3 (ZZ Z3h (Z3 (ZZ Z0i (Z3 (ZK 0) (Z3 (fC (.int 9)) Z02))) (Z3 (ZK 1) Z02))) Z02))))) Z0Y))
 (Z1L (Z1a 3 (f2 Z4m (f2 Z7e (Zb 0) (fC (.int 640))) (fC (.int 5))))
 (Z2H (fCB Z4y (Z3 (f2 Z17 (fSl (Zb 2) (Z1C (ZK 3)) Z0j) (fSl (Zb 2) Z0j (Z1C (ZK 3)))) Z02)))))))
noncomputable def Z4k:List Th→Option Th:=Z5w 1 4 Ze3
noncomputable def Zan:FS:=(Z2H (f2 Z17 (f2 Z17 (fSl (Zb 1) Z0j (Z1C (ZK 2))) (f2 oIx (Zb 0) (fC (.int 1)))) (fSl (Zb 1) (Z1C (f2 Z17 (Zb 2) (fCB Z3G (Z3 (f2 oIx (Zb 0) (fC (.int 0))) Z02)))) Z0j)))
noncomputable def Z1I:List Th→Option Th:=Z5w 3 3 Zan
noncomputable def Z98:FS:=(Z1L (Z1a 2 (Z3O (Z29 g2 (Z6q (ZK 0)) Z4A (Z7g (Z3 (fM1 (fun z y=>some (.int (Z5n z y))) (Zb 3) (f2 oIx (Zb 1) (fC (.int 0)))) (Z3 (ZK 0) Z02))))))
 (Z1L (Z1a 3 (Zjt (Z3 (Z3O (Z29 g1 (Z2i (ZK 2)) (ZU (f2 oGe (f2 oIx (Zb 0) (fC (.int 0))) (fC (.int 0)))) (ZK 0))) Z02) (fC .non)))
 (Z2H (fIf (ZU (f2 (Z8v false) (Zb 3) (fC .non))) (fC .non) (ZZ Z1I (Z3 (f2 oIx (Zb 0) (f2 oIx (Zb 3) (fC (.int 1)))) (Z3 (ZK 1) (Z3 (f2 oIx (Zb 3) (fC (.int 0))) Z02))))))))
noncomputable def Z1s:List Th→Option Th:=Z5w 2 4 Z98
noncomputable def Z5m:FS:=(Z1L (Za9 2 (fCL []))
 (Z1L (Z6M (ZU (f2 (Z8v true) (Zb 1) (fC .non))) (Z1L (Z2a 2 (ZK 1))
 (Z1a 1 (ZZ Z1s (Z3 (ZK 0) (Z3 (ZK 1) Z02))))))
 Z0Y))
noncomputable def Z2R:List Th→Option (List Th):=Zpf 2 3 2 Z5m
noncomputable def ZjI:FS:=(Z1L (Za9 3 (Z88 Z2R (Z3 (ZK 0) (Z3 (ZK 1) Z02))))
 (Z1L (Za9 4 (Z88 Z2R (Z3 (ZK 0) (Z3 (ZK 2) Z02))))
 (Z1L (fIf (ZU (f2 oNe (f2 oIx (Zb 3) (Zbj (fC (.int 1)))) (f2 oIx (Zb 4) (Zbj (fC (.int 1)))))) (Z2H (fC .non)) Z0Y)
 (Z1L (Z6M (Z9i (ZU (f2 oGt (fCB Z3G (Z3 (Zb 3) Z02)) (fC (.int 1)))) (Z9i (ZU (f2 oGt (fCB Z3G (Z3 (Zb 4) Z02)) (fC (.int 1)))) (ZU (f2 oEq (f2 oIx (Zb 3) (Zbj (fC (.int 2)))) (f2 oIx (Zb 4) (Zbj (fC (.int 2)))))))) (Z1L (Zc5 3)
 (Zc5 4)))
 (Z2H (fCB Z4y (Z3 (f2 Z17 (Zb 3) (fCB Z75 (Z3 (fSl (Zb 4) Z0j (Z1C (Zbj (fC (.int 1))))) Z02))) Z02)))))))
noncomputable def Z5j:List Th→Option Th:=Z5w 3 5 ZjI
noncomputable def ZqH:FS:=(Z1L (Z1a 2 (ZZ Z1s (Z3 (ZK 0) (Z3 (ZK 1) Z02))))
 (Z1L (Z6M (ZU (f2 (Z8v true) (Zb 2) (fC .non))) (Z1L (Z1a 1 (ZK 2))
 (Z1a 2 (ZZ Z1s (Z3 (ZK 0) (Z3 (ZK 1) Z02))))))
 (Z2H (Zb 1))))
noncomputable def Z5p:List Th→Option Th:=Z5w 2 3 ZqH
noncomputable def ZmO:FS:=(Z2H (f2 oEq (ZZ Z5p (Z3 (ZK 0) (Z3 (ZK 1) Z02))) (ZZ Z5p (Z3 (ZK 0) (Z3 (ZK 2) Z02)))))
noncomputable def Z73:List Th→Option Th:=Z5w 3 3 ZmO
noncomputable def Zbt:FS:=(Z1L (Z1a 2 (fC (.lst [])))
 (Z1L (ZaC (Z2l (fCB Z3G (Z3 (Zb 1) Z02))) (Zbg 3) (Z1a 2 (f2 Z17 (Zb 2) (Z3O (Z29 g2 (Z6q (ZK 0)) (ZU (fM1 (fun z y=>some (.bl (Z0z z y))) (fSl (Zb 3) (Z1C (ZK 5)) Z0j) (f2 oIx (Zb 1) (fC (.int 0))))) (Z7g (Z3 (ZK 5) (Z3 (ZK 0) Z02))))))))
 (Z2H (Zb 2))))
noncomputable def Z4w:List Th→Option Th:=Z5w 2 4 Zbt
noncomputable def Zaq:FS:=(Z1L (ZqA (f2 oIx (Zb 0) (Zb 3)) (Z45 4 5))
 (Z2H (f2 Z17 (f2 Z17 (fSl (Zb 1) Z0j (Z1C (ZK 2))) (Zb 5)) (fSl (Zb 1) (Z1C (f2 Z17 (Zb 2) (fCB Z3G (Z3 (Zb 4) Z02)))) Z0j))))
noncomputable def Z2K:List Th→Option Th:=Z5w 4 6 Zaq
noncomputable def Ze4:FS:=(Z1L (Za9 2 (fCL []))
 (Z1L (ZaC (ZaN (ZZ Z4w (Z3 (ZK 0) (Z3 (ZK 1) Z02)))) (Z45 3 4) (Z2a 2 (ZZ Z2K (Z3 (ZK 0) (Z3 (ZK 1) (Z3 (ZK 3) (Z3 (ZK 4) Z02)))))))
 (Z2H (Z3O (Z3Y (Z3 (Zb 2) Z02))))))
noncomputable def Z13:List Th→Option Th:=Z5w 2 5 Ze4
noncomputable def Zap:FS:=(Z1L (fIf (ZhF (ZdH (ZU (Zk1 "tuple" (Zb 1)))) (ZhF (ZU (f2 oEq (Zb 1) (fC (.tup [])))) (ZhF (ZU (f2 oNe (f2 oIx (Zb 1) (fC (.int 0))) (Zb 2))) (ZU (f2 oNe (f2 oIx (Zb 1) (Zbj (fC (.int 1)))) (Zb 3)))))) (Z2H (fC (.bl false))) Z0Y)
 (Z1L (ZaC (ZoV (fSl (Zb 1) Z0j (Z1C (Zbj (fC (.int 1))))) (fSl (Zb 1) (Z1C (fC (.int 1))) Z0j)) (Z45 4 5) (fIf (ZU (f2 (oIn true) (Zb 5) (ZZ Z13 (Z3 (ZK 0) (Z3 (ZK 4) Z02))))) (fIf (ZU (f2 (oIn true) (Zb 4) (ZZ Z13 (Z3 (ZK 0) (Z3 (ZK 5) Z02))))) (Z2H (fC (.bl false))) Z0Y) Z0Y))
 (Z2H (fC (.bl true)))))
noncomputable def Z3i:List Th→Option Th:=Z5w 4 6 Zap
noncomputable def Z7C:FS:=(Z1L (fIf (ZU (f2 oLt (Zb 1) (fCB Z3G (Z3 (Zb 0) Z02)))) (Z2H (f2 oIx (Zb 0) (Zb 1))) Z0Y)
 (Z2H (fC (.int 0))))
noncomputable def Z3j:List Th→Option Th:=Z5w 2 2 Z7C
noncomputable def Ze5:FS:=(Z1L (Z1a 2 (f2 Z4m (f2 Z2x (f2 Z17 (f2 Z17 (ZZ Z3j (Z3 (ZK 0) (Z3 (ZK 1) Z02))) (f2 Z2x (fC (.int 7919)) (Zb 1))) (fC (.int 1))) (fC (.int 48271))) (fC (.int 2147483647))))
 (Z2H (f2 Z4m (f2 Z17 (f2 Z17 (f2 Z2x (Zb 2) (Zb 2)) (f2 Z2x (fC (.int 7)) (Zb 2))) (Zb 1)) (fC (.int 2147483629)))))
noncomputable def Z2J:List Th→Option Th:=Z5w 2 3 Ze5
noncomputable def Ze2:FS:=(Z2H (f2 Z17 (f2 Z17 (fSl (Zb 0) Z0j (Z1C (ZK 2))) (Zb 1)) (fSl (Zb 0) (Z1C (f2 Z17 (Zb 2) (fCB Z3G (Z3 (Zb 1) Z02)))) Z0j)))
noncomputable def Z4j:List Th→Option Th:=Z5w 3 3 Ze2
noncomputable def Zbr:FS:=(Z1L (Z1a 3 (Z3O (Z29 g1 (Z7z (ZK 2) (fCB Z3G (Z3 (Zb 0) Z02))) Z4A (ZZ Z4j (Z3 (ZK 1) (Z3 (ZK 2) (Z3 (ZK 0) Z02)))))))
 (Z2H (Z3O (Z29 g1 (Z2i (ZK 3)) (ZU (fM1 (fun z y=>some (.bl (Z0z z y))) (Zb 0) (Zb 1))) (ZK 0)))))
noncomputable def Z3L:List Th→Option Th:=Z5w 3 4 Zbr
noncomputable def Ze7:FS:=(Z1L (Za9 1 (fCL []))
 (Z1L (ZaC (Z6q (ZK 0)) (Z45 2 3) (ZaC (Z6q (ZK 0)) (Z45 4 5) (Z51 1 (ZZ Z3L (Z3 (f2 oIx (Zb 3) (fC (.int 0))) (Z3 (f2 oIx (Zb 5) (fC (.int 0))) (Z3 (fIf (ZU (f2 oEq (Zb 2) (Zb 4))) (fC (.int 1)) (fC (.int 0))) Z02)))))))
 (Z2H (fCB Z4y (Z3 (Z3O (Z3Y (Z3 (Zb 1) Z02))) Z02)))))
noncomputable def Z4l:List Th→Option Th:=Z5w 1 6 Ze7
noncomputable def ZmP:FS:=(Z2H (Z7g (Z3 (fCB Z3G (Z3 (Zb 0) Z02)) (Z3 (ZK 0) Z02))))
noncomputable def Z64:List Th→Option Th:=Z5w 1 1 ZmP
noncomputable def Zao:FS:=(Z1L (Za9 2 (fCL []))
 (Z1L (Z1a 3 (fM1 (fun z y=>some (.int (Z5n z y))) (Zb 1) (Zb 0)))
 (Z1L (Z6M (ZU (f2 oGe (Zb 3) (fC (.int 0)))) (Z1L (Z2a 2 (ZK 3))
 (Z1a 3 (fM2 (fun z y i=>some (.int (Z7J z y i))) (Zb 1) (Zb 0) (f2 Z17 (Zb 3) (fC (.int 1)))))))
 (Z2H (Zb 2)))))
noncomputable def Z1J:List Th→Option Th:=Z5w 2 4 Zao
noncomputable def Zgt:FS:=(Z1L (Za9 2 (fCL []))
 (Z1L (ZaC (Z6q (ZK 0)) (Z45 3 4) (Z51 2 (Z3O (Z29 g1 (Z2i (ZZ Z1J (Z3 (f2 oIx (Zb 4) (fC (.int 0))) (Z3 (ZK 1) Z02)))) Z4A (Z7g (Z3 (ZK 0) (Z3 (ZK 4) Z02)))))))
 (Z2H (fCB Z4y (Z3 (Z3O (Za8 (Z3 (Zb 2) Z02))) Z02)))))
noncomputable def Z4i:List Th→Option Th:=Z5w 2 5 Zgt
noncomputable def ZjJ:FS:=(Z2H (fCB Z4y (Z3 (Z3O (Z3Y (Z3 (Z3O (Z29 g2 (ZaN (ZZ Z4i (Z3 (ZK 0) (Z3 (ZK 1) Z02)))) Z4A (ZZ Z1I (Z3 (f2 oIx (Zb 2) (Zb 1)) (Z3 (ZK 3) (Z3 (ZK 0) Z02)))))) Z02))) Z02)))
noncomputable def Z5M:List Th→Option Th:=Z5w 2 2 ZjJ
noncomputable def Z6N:FS:=(Z2H (fCB Z4y (Z3 (Z3O (Z3Y (Z3 (Z3O (Z29 g1 (Z2i (ZZ Z5M (Z3 (ZK 0) (Z3 (ZK 1) Z02)))) Z4A (ZZ Z5p (Z3 (ZK 1) (Z3 (ZK 0) Z02))))) Z02))) Z02)))
noncomputable def Z1h:List Th→Option Th:=Z5w 2 2 Z6N
noncomputable def Zfn:FS:=(Z1L (ZaC (Z2i (Z3O (Zbi Z64 (Z3 (ZZ Z4l (Z3 (ZK 0) Z02)) Z02)))) (Zbg 1) (fIf (ZU (f2 oGt (fCB Z3G (Z3 (ZZ Z1h (Z3 (ZK 0) (Z3 (ZK 1) Z02))) Z02)) (fC (.int 1)))) (Z2H (Zb 1)) Z0Y))
 (Z2H (fC .non)))
noncomputable def Z4X:List Th→Option Th:=Z5w 1 2 Zfn
noncomputable def Zbu:FS:=(Z2H (f2 (Z8v false) (ZZ Z4X (Z3 (ZK 0) Z02)) (fC .non)))
noncomputable def Z4x:List Th→Option Th:=Z5w 1 1 Zbu
noncomputable def Zgz:FS:=(Z1L (Za9 2 (fCL []))
 (Z1L (ZaC (ZaN (ZK 0)) (Z45 3 4) (ZaC (Z2l (f2 Z17 (fCB Z3G (Z3 (Zb 1) Z02)) (fC (.int 1)))) (Zbg 5) (fIf (ZU (fM1 (fun z y=>some (.bl (Z0z z y))) (fSl (Zb 1) (Z1C (ZK 5)) Z0j) (Zb 4))) (Z1L (Z1a 6 (f2 Z17 (Zb 5) (fCB Z3G (Z3 (Zb 4) Z02))))
 (Z2a 2 (f2 Z17 (f2 Z17 (fSl (Zb 1) Z0j (Z1C (ZK 5))) (Zb 3)) (fSl (Zb 1) (Z1C (ZK 6)) Z0j)))) Z0Y)))
 (Z2H (Zb 2))))
noncomputable def Z3k:List Th→Option Th:=Z5w 2 7 Zgz
noncomputable def Zbs:FS:=(Z1L (Z1a 3 (ZK 1))
 (Z1L (ZaC (Z2l (f2 Z4m (Zb 2) (fC (.int 7)))) (Zbg 4) (Z1L (Z1a 5 (ZZ Z0i (Z3 (ZK 2) (Z3 (ZK 4) Z02))))
 (Z1L (Z1a 6 (ZZ Z13 (Z3 (ZK 0) (Z3 (ZK 3) Z02))))
 (Z1L (fIf (ZU (f2 oEq (f2 Z4m (Zb 5) (fC (.int 2))) (fC (.int 1)))) (Z1a 6 (Z3O (Z29 g1 (Z2i (ZZ Z3k (Z3 (ZK 0) (Z3 (ZK 3) Z02)))) (ZU (f2 oLt (fCB Z3G (Z3 (Zb 0) Z02)) (fC (.int 7)))) (ZK 0)))) Z0Y)
 (fIf (ZU (f2 oNe (Zb 6) (fC (.lst [])))) (Z1a 3 (f2 oIx (Zb 6) (f2 Z4m (f2 Z7e (Zb 5) (fC (.int 2))) (fCB Z3G (Z3 (Zb 6) Z02))))) Z0Y)))))
 (Z2H (Zb 3))))
noncomputable def Z4v:List Th→Option Th:=Z5w 3 7 Zbs
noncomputable def Zgy:FS:=(Z1L (Z1a 2 (Z3O (Z9h (Z3 (ZK 1) Z02))))
 (Z1L (Za9 3 (fCL []))
 (Z1L (Z1a 4 (fC (.int 0)))
 (Z1L (Z6M (ZU (f2 oLt (Zb 4) (fCB Z3G (Z3 (Zb 2) Z02)))) (Z1L (Z1a 5 (ZZ Z13 (Z3 (ZK 0) (Z3 (f2 oIx (Zb 2) (Zb 4)) Z02))))
 (Z1L (fIf (ZU (f2 oEq (Zb 5) (fC (.lst [])))) (Z2a 3 (f2 oIx (Zb 2) (Zb 4))) Z0Y)
 (Z1L (Z1a 2 (f2 Z17 (Zb 2) (Z3O (Z29 g1 (Z2i (ZK 5)) (ZU (f2 (oIn true) (Zb 0) (Zb 3))) (ZK 0)))))
 (Z1a 4 (f2 Z17 (Zb 4) (fC (.int 1))))))))
 (Z2H (fCB Z4y (Z3 (Z3O (Za8 (Z3 (Zb 3) Z02))) Z02)))))))
noncomputable def Z3M:List Th→Option Th:=Z5w 2 6 Zgy
noncomputable def ZqG:FS:=(Z1L (Z1a 1 (ZZ Z4k (Z3 (ZZ Z2J (Z3 (ZK 0) (Z3 (fC (.int 0)) Z02))) Z02)))
 (Z1L (fIf (ZdH (ZU (ZZ Z4x (Z3 (ZK 1) Z02)))) (Z2H (fC (.bl true))) Z0Y)
 (Z1L (Z1a 2 (ZZ Z2S (Z3 (ZZ Z2J (Z3 (ZK 0) (Z3 (fC (.int 1)) Z02))) (Z3 (fC (.str ("abc":Str))) (Z3 (fC (.int 5)) Z02)))))
 (Z1L (Z1a 3 (ZZ Z2S (Z3 (ZZ Z2J (Z3 (ZK 0) (Z3 (fC (.int 2)) Z02))) (Z3 (fC (.str ("abc":Str))) (Z3 (fC (.int 5)) Z02)))))
 (Z1L (Z1a 4 (f2 oEq (f2 Z4m (ZZ Z2J (Z3 (ZK 0) (Z3 (fC (.int 3)) Z02))) (fC (.int 2))) (fC (.int 1))))
 (Z1L (fIf (ZU (ZK 4)) (Z1a 3 (ZZ Z4v (Z3 (ZK 1) (Z3 (ZK 2) (Z3 (f2 Z7e (ZZ Z2J (Z3 (ZK 0) (Z3 (fC (.int 3)) Z02))) (fC (.int 2))) Z02))))) Z0Y)
 (Z1L (Z1a 5 (ZZ Z5j (Z3 (ZK 1) (Z3 (ZK 2) (Z3 (ZK 3) Z02)))))
 (Z1L (Z1a 6 (ZZ Z73 (Z3 (ZK 1) (Z3 (ZK 2) (Z3 (ZK 3) Z02)))))
 (Z1L (fIf (ZhF (ZdH (ZU (Zk1 "bool" (Zb 6)))) (ZU (f2 oNe (Zb 6) (f2 (Z8v true) (Zb 5) (fC .non))))) (Z2H (fC (.bl false))) Z0Y)
 (Z1L (fIf (ZU (f2 (Z8v false) (Zb 5) (fC .non))) (Z2H (ZoC (Zfh (ZK 4)) (f2 oNe (ZZ Z3M (Z3 (ZK 1) (Z3 (ZK 2) Z02))) (ZZ Z3M (Z3 (ZK 1) (Z3 (ZK 3) Z02)))))) Z0Y)
 (Z2H (ZZ Z3i (Z3 (ZK 1) (Z3 (ZK 5) (Z3 (ZK 2) (Z3 (ZK 3) Z02))))))))))))))))
noncomputable def Z7w:List Th→Option Th:=Z5w 1 7 ZqG
end
end K30
namespace L2
open PySem
theorem Z5C {i j:Int}(h:(-(2 ^ 64)<i∧i<2 ^ 64)∨(-(2 ^ 64)<j∧j<2 ^ 64)):Z2x (.int i) (.int j)=some (.int (i*j)):=by
 simp only[Z2x,Zqg,decide_eq_true h,if_true]
theorem mod_int {i j:Int}(h:0<j):Z4m (.int i) (.int j)=some (.int (i%j)):=by
 simp only[Z4m,decide_eq_true h,if_true]
theorem Z4p {i j:Int}(h:0<j∧j<1073741824):Z7e (.int i) (.int j)=some (.int (i / j)):=by
 simp only[Z7e,decide_eq_true h,if_true]
theorem Z31 {i j:Int}:Z17 (.int i) (.int j)=some (.int (i+j)):=rfl
theorem sub_int {i j:Int}:ZoT (.int i) (.int j)=some (.int (i-j)):=rfl
theorem ZbP {x y:Str}(h:x.length+y.length≤1000000):Z17 (.str x) (.str y)=some (.str (x++y)):=by
 simp only[Z17,Zr2,Z6h,decide_eq_true h,if_true]
theorem Z7Y {x y:List Th}(h:x.length+y.length≤1000000):Z17 (.lst x) (.lst y)=some (.lst (x++y)):=by
 simp only[Z17,Z6h,decide_eq_true h,if_true]
theorem len_str {x:Str}(h:x.length≤1000000):Z3G [.str x]=some (.int x.length):=by
 simp only[Z3G,Z6h,decide_eq_true h,if_true]
theorem Z68 {x:List Th}:Z3G [.lst x]=some (.int x.length):=rfl
theorem Zja {x:List Th}:Z3G [.tup x]=some (.int x.length):=rfl
theorem le_int {i j:Int}:oLe (.int i) (.int j)=some (.bl (decide (i≤j))):=rfl
theorem gt_int {i j:Int}:oGt (.int i) (.int j)=some (.bl (decide (j<i))):=rfl
theorem ge_int {i j:Int}:oGe (.int i) (.int j)=some (.bl (decide (j≤i))):=rfl
theorem lt_int {i j:Int}:oLt (.int i) (.int j)=some (.bl (decide (i<j))):=rfl
theorem eq_int {i j:Int}:oEq (.int i) (.int j)=some (.bl (i == j)):=by simp[oEq,dp,Z0W]
theorem ne_int {i j:Int}:oNe (.int i) (.int j)=some (.bl (!(i == j))):=by simp[oNe,dp,Z0W]
theorem ZrZ {i j:Bool}:oEq (.bl i) (.bl j)=some (.bl (i == j)):=by simp[oEq,dp,Z0W]
theorem eq_str {i j:Str}:oEq (.str i) (.str j)=some (.bl (i == j)):=by simp[oEq,dp,Z0W]
theorem Zf8:isB (Z6g (Th.non)) "str"=false:=rfl
theorem Zhh (b:Bool):isB (Z6g (Th.bl b)) "str"=false:=rfl
theorem Zfc (i:Int):isB (Z6g (Th.int i)) "str"=false:=rfl
theorem Zf6 (x:Str):isB (Z6g (Th.str x)) "str"=true:=rfl
theorem Zf4 (ts:List Th):isB (Z6g (Th.tup ts)) "str"=false:=rfl
theorem Zfa (ts:List Th):isB (Z6g (Th.lst ts)) "str"=false:=rfl
theorem Zc2:isB (Z6g (Th.non)) "tuple"=false:=rfl
theorem ZdC (b:Bool):isB (Z6g (Th.bl b)) "tuple"=false:=rfl
theorem Zc4 (i:Int):isB (Z6g (Th.int i)) "tuple"=false:=rfl
theorem Zc1 (x:Str):isB (Z6g (Th.str x)) "tuple"=false:=rfl
theorem Z86 (ts:List Th):isB (Z6g (Th.tup ts)) "tuple"=true:=rfl
theorem Zc3 (ts:List Th):isB (Z6g (Th.lst ts)) "tuple"=false:=rfl
theorem Zdx:isB (Z6g (Th.non)) "bool"=false:=rfl
theorem Z7y (b:Bool):isB (Z6g (Th.bl b)) "bool"=true:=rfl
theorem ZdB (i:Int):isB (Z6g (Th.int i)) "bool"=false:=rfl
theorem Zdv (x:Str):isB (Z6g (Th.str x)) "bool"=false:=rfl
theorem Zdt (ts:List Th):isB (Z6g (Th.tup ts)) "bool"=false:=rfl
theorem Zdz (ts:List Th):isB (Z6g (Th.lst ts)) "bool"=false:=rfl
theorem Zf9:isB (Z6g (Th.non)) "int"=false:=rfl
theorem Zhi (b:Bool):isB (Z6g (Th.bl b)) "int"=true:=rfl
theorem Zfd (i:Int):isB (Z6g (Th.int i)) "int"=true:=rfl
theorem Zf7 (x:Str):isB (Z6g (Th.str x)) "int"=false:=rfl
theorem Zf5 (ts:List Th):isB (Z6g (Th.tup ts)) "int"=false:=rfl
theorem Zfb (ts:List Th):isB (Z6g (Th.lst ts)) "int"=false:=rfl
theorem Zdw:isB (Z6g (Th.non)) "list"=false:=rfl
theorem Zfe (b:Bool):isB (Z6g (Th.bl b)) "list"=false:=rfl
theorem ZdA (i:Int):isB (Z6g (Th.int i)) "list"=false:=rfl
theorem Zdu (x:Str):isB (Z6g (Th.str x)) "list"=false:=rfl
theorem Zds (ts:List Th):isB (Z6g (Th.tup ts)) "list"=false:=rfl
theorem Zdy (ts:List Th):isB (Z6g (Th.lst ts)) "list"=true:=rfl
theorem Zey (x:Str):x.cps.toList.length=x.length:=by simp[Z5r]
theorem ZS {F G:FS}{d d':Sd}(h:F d=some (.nx d')):Z1L F G d=G d':=by unfold Z1L;rw[h];rfl
theorem Z4o {fi:FL}{g:FG}{F:FS}{d:Sd}{ts:List Th}(h:fi d=some ts):ZaC fi g F d=Z5P g F ts d:=by unfold ZaC;rw[h];rfl
theorem Z1t {n m:Nat}{b:FS}{Ts:List Th}{T:Th}(hn:Ts.length=n)(h:b (Ts.map (fun T=>some (Dv.th T))++Zj (m-Ts.length) none)=some (.rt T)):Z5w n m b Ts=some T:=by
 unfold Z5w;rw[if_pos hn,h]
theorem ZdP {fe:FD}{d:Sd}{p:Th→Th}:∀ {ts:List Th},(∀ t∈ts,fe (some (.th t)::d)=some (p t))→Z46 g1 Z4A fe d ts=some (ts.map p)
 |[],_=>rfl
 |t::r,h=>by
  have ih:=ZdP (fe:=fe) (d:=d) (p:=p) (ts:=r) fun x hx=>h x (Z9 _ hx)
  simp only[Z46,g1,Z4A,ob_,ZO,Zz,if_true,h t Z4,ih,ZJ]
theorem Z94 {ft:FB}{d:Sd}{q:Th→Bool}:∀ {ts:List Th},(∀ t∈ts,ft (some (.th t)::d)=some (q t))→Z46 g1 ft (ZK 0) d ts=some (ts.filter q)
 |[],_=>rfl
 |t::r,h=>by
  have ih:=Z94 (ft:=ft) (d:=d) (q:=q) (ts:=r) fun x hx=>h x (Z9 _ hx)
  simp only[Z46,g1,ob_,ZO,Zz,h t Z4,ih,Z53,ZK,gz_]
  cases q t <;> simp
theorem ZdI {fi:FL}{fe:FD}{d:Sd}{ts:List Th}{p:Th→Th}(h1:fi d=some ts)(h2:ts.length≤1000000)(h3:∀ t∈ts,fe (some (.th t)::d)=some (p t)):Z29 g1 fi Z4A fe d=some (ts.map p):=by
 simp only[Z29,h1,ob_,if_pos h2,ZdP h3]
theorem Z5l {fi:FL}{ft:FB}{d:Sd}{ts:List Th}{q:Th→Bool}(h1:fi d=some ts)(h2:ts.length≤1000000)(h3:∀ t∈ts,ft (some (.th t)::d)=some (q t)):Z29 g1 fi ft (ZK 0) d=some (ts.filter q):=by
 simp only[Z29,h1,ob_,if_pos h2,Z94 h3]
theorem Zal (p:Th→Bool):∀ ts:List Th,Zcc (ts.map fun t=>.bl (p t))=some (ts.map p)
 |[]=>rfl
 |t::r=>by simp only[ZJ,Zcc,Zal p r,Z2]
theorem Zle (p:Th→Bool)(ts:List Th):Zsn false [.lst (ts.map fun t=>.bl (p t))]=some (.bl (ts.all p)):=by
 simp only[Zsn,Zal,Z2,Zu,if_false,ZaJ]
 rfl
mutual
noncomputable def good:Th→Bool
 |.str x=>decide (x.length≤1000000)
 |.tup ts=>Zoz ts
 |.lst ts=>Zoz ts
 |_=>true
noncomputable def Zoz:List Th→Bool
 |[]=>true
 |t::r=>good t&&Zoz r
end
end L2
namespace L2
open PySem
theorem Z8c {α:Type}{xs:List α}{i:Int}(h0:0≤i)(h1:i<xs.length):atI xs i=xs[i.toNat]?:=by
 unfold atI ixN
 rw[if_pos h0,if_pos h1];rfl
theorem Zji {x:Str}{i:Int}(h0:0≤i)(h1:i<x.length)(hx:x.length≤1000000):oIx (.str x) (.int i)=some (.str ⟨#[x.cps.toList.getD i.toNat 0]⟩):=by
 have hl:=Zey x
 have h2:i.toNat<x.cps.toList.length:=by rw[hl];lia
 simp only[oIx,Z6h,decide_eq_true hx,if_true]
 rw[Z8c h0 (by rw[hl];exact h1),Zc h2]
 simp[Z5Q,Zc h2]
theorem Zfp (x y:Str):(x++y).cps.toList=x.cps.toList++y.cps.toList:=by
 show (x.cps++y.cps).toList=_
 simp
theorem ZjL (x y:Str):(x++y).length=x.length+y.length:=by
 rw[← Zey,Zfp,Zd,Zey,Zey]
end L2
namespace L2
open PySem
theorem Z9H {x:Str}{j:Int}(h0:0≤j)(h1:j≤1000000)(h2:x.length*j.toNat≤1000000):Z2x (.str x) (.int j)=some (.str (Z58 x j)):=by
 have h:0≤j∧j≤1000000∧x.length*j.toNat≤1000000:=⟨h0,h1,h2⟩
 simp only[Z2x,Zqg,decide_eq_true h,if_true]
theorem ZcT (x:Array Nat):∀ (m:Nat) (acc:Array Nat),((Zj m x).foldl (·++·) acc).toList=acc.toList++(Zj m x.toList).flatten
 |0,acc=>by simp
 |m+1,acc=>by
  rw[Z0Z,Z3s,ZcT x m,Z0Z,Z2O,Z07,Z7]
theorem ZeU {x:Str}{j:Int}(h0:0≤j):(Z58 x j).cps.toList=(Zj j.toNat x.cps.toList).flatten:=by
 unfold Z58
 by_cases h1:j<1
 ·have:j=0:=by lia
  subst this
  rw[if_pos h1];rfl
 ·rw[if_neg h1]
  by_cases h2:(j == 1||x.length == 0)=true
  ·rw[if_pos h2]
   simp only[Z2P,beq_iff_eq] at h2
   rcases h2 with h2|h2
   ·subst h2;simp
   ·have:x.cps.toList=[]:=Z36 (by rw[Zey];exact h2)
    rw[this];simp
  ·rw[if_neg h2]
   rw[ZcT];simp
theorem Zgf {α:Type}(l:List α)(m:Nat):(Zj m l).flatten.length=m*l.length:=Zjb l m
theorem ZlG {α:Type}{l:List α}{m:Nat}{c:α}(h:c∈(Zj m l).flatten):c∈l:=by
 obtain⟨a,ha,hc⟩:=List.mem_flatten.mp h
 rw[(List.mem_replicate.mp ha).2] at hc
 exact hc
theorem Zgk {α:Type}(xs:List α){j:Int}(h:0≤j):Z6w xs none (some j)=xs.take j.toNat:=by
 unfold Z6w
 obtain⟨k,rfl⟩:∃ k:Nat,j=k:=⟨j.toNat,by lia⟩
 rw[HT.sIx_none,HT.sIx_nat,Z3R,Z7N,Z16]
 rw[Zsv]
 split
 ·rfl
 ·rw[Z35,Z0s (by lia)]
theorem Zc7 {α:Type}(xs:List α){i:Int}(h:0≤i):Z6w xs (some i) none=xs.drop i.toNat:=by
 unfold Z6w
 obtain⟨k,rfl⟩:∃ k:Nat,i=k:=⟨i.toNat,by lia⟩
 rw[HT.sIx_none,HT.sIx_nat,Z16]
 rw[Zsv]
 split
 ·rw[Z0s (by simp)]
 ·rw[Z7b,List.drop_eq_nil_of_le (by lia)];simp
theorem Zaf {α:Type}{xs:List α}{lo hi:Option Int}{c:α}(h:c∈Z6w xs lo hi):c∈xs:=Z0C (Z1A h)
theorem ZbJ {x:Str}{lo hi:Option Int}(h:x.length≤1000000):oSl (.str x) lo hi=some (.str (Zgn x lo hi)):=by
 simp only[oSl,Z6h,decide_eq_true h,if_true]
theorem Zgm (x:Str)(lo hi:Option Int):(Zgn x lo hi).cps.toList=Z6w x.cps.toList lo hi:=by simp[Zgn]
theorem Zc8 (x:Str)(lo hi:Option Int):(Zgn x lo hi).length=(Z6w x.cps.toList lo hi).length:=by rw[← Zey,Zgm]
end L2
namespace L2
open PySem
theorem Zge {g:FG}{F:FS}(P:List Th→Sd→Prop)(step:∀ t r d,P (t::r) d→∃ d1 d2,g t d=some d1∧F d1=some (.nx d2)∧P r d2):∀ (ts:List Th) (d:Sd),P ts d→∃ d',Z5P g F ts d=some (.nx d')∧P [] d'
 |[],d,h=>⟨d,rfl,h⟩
 |t::r,d,h=>by
  obtain⟨d1,d2,e1,e2,h2⟩:=step t r d h
  obtain⟨d',e3,h3⟩:=Zge P step r d2 h2
  refine⟨d',?_,h3⟩
  rw[Z5P,e1,ob_,e2]
  exact e3
theorem Zgq {fe:FD}{d:Sd}{P:Th→Prop}:∀ {ts:List Th},(∀ t∈ts,∃ y,fe (some (.th t)::d)=some y∧P y)→∃ ys,Z46 g1 Z4A fe d ts=some ys∧(∀ y∈ys,P y)∧ys.length=ts.length
 |[],_=>⟨[],rfl,fun _ h=>(nomatch h),rfl⟩
 |t::r,h=>by
  obtain⟨ys,e,hp,hl⟩:=Zgq (fe:=fe) (d:=d) (P:=P) (ts:=r) fun x hx=>h x (Z9 _ hx)
  obtain⟨y,ey,py⟩:=h t Z4
  refine⟨y::ys,?_,fun z hz=>?_,by simp[hl]⟩
  ·simp only[Z46,g1,Z4A,ob_,ZO,Zz,if_true,ey,e]
  ·rcases Zi.mp hz with rfl|hz
   ·exact py
   ·exact hp z hz
theorem ZlK {fi:FL}{fe:FD}{d:Sd}{ts:List Th}{P:Th→Prop}(h1:fi d=some ts)(h2:ts.length≤1000000)(h3:∀ t∈ts,∃ y,fe (some (.th t)::d)=some y∧P y):∃ ys,Z29 g1 fi Z4A fe d=some ys∧(∀ y∈ys,P y)∧ys.length=ts.length:=by
 obtain⟨ys,e,hp,hl⟩:=Zgq h3
 exact⟨ys,by simp only[Z29,h1,ob_,if_pos h2,e],hp,hl⟩
theorem Z8W:∀ {k:Nat} {ts:List Th} {x:Th},x∈numbered k ts→∃ (j:Nat) (t:Th),x=.tup [.int (j:Int),t]∧t∈ts
 |_,[],_,h=>(nomatch h)
 |k,t::r,x,h=>by
  rcases Zi.mp (show x∈Th.tup [.int (k:Int),t]::numbered (k+1) r from h) with rfl|h
  ·exact⟨k,t,rfl,Z4⟩
  ·obtain⟨j,y,e,hy⟩:=Z8W h
   exact⟨j,y,e,Z9 _ hy⟩
theorem ZfN {ts:List Th}{lo hi:Option Int}:oSl (.lst ts) lo hi=some (.lst (Z6w ts lo hi)):=rfl
theorem Znd {ts:List Th}{lo hi:Option Int}:oSl (.tup ts) lo hi=some (.tup (Z6w ts lo hi)):=rfl
end L2
namespace K30
open PySem L2
noncomputable def drawn (n k:Int):Int:=((n+104729*k+17)*69621%2147483647*((n+104729*k+17)*69621%2147483647)+3*((n+104729*k+17)*69621%2147483647)+k)%2147483629
theorem Z78 (n k:Int):Z0i [.int n,.int k]=some (.int (drawn n k)):=by
 unfold Z0i Ze6
 simp (disch:=lia) only [Z5w,Z18,Z0p,Z3E,Z1L,Z1a,Z2X,Z3D,Zj,ZO,Zz,Z6,Z5,f2,Zb,Zh,fC,Zs,Zk,Z5C,Z31,mod_int,Z2,Z2H,if_true]
 rfl
theorem ZlP (n k:Int):0≤drawn n k:=Z3w _ (by decide)
noncomputable def ZaM (x y:Str):Bool:=decide (x.length<y.length∨(x.length=y.length∧x.cps.toList<y.cps.toList))
theorem Zof (x y:Str):oLt (.tup [.int x.length,.str x]) (.tup [.int y.length,.str y])=some (.bl (ZaM x y)):=by
 simp only[oLt,Z4K,keyOf,ob_,Z2,HT.lexK]
 congr 2
 unfold ZaM
 by_cases h:(x.length:Int)=y.length
 ·have h':x.length=y.length:=by lia
  rw[if_pos h]
  by_cases e:x=y
  ·subst e
   rw[if_pos rfl]
   have:¬ (x.length<x.length∨(x.length=x.length∧x.cps.toList<x.cps.toList)):=by
    intro z
    rcases z with z|z
    ·exact absurd (by assumption) (Z1Q _)
    ·exact Z8k _ z.2
   simp[decide_eq_false this]
  ·rw[if_neg e]
   simp only[Z2,Z0t,Th.bl.injEq,decide_eq_decide]
   constructor
   ·intro z;exact .inr ⟨h',z⟩
   ·rintro (z|z)
    ·lia
    ·exact z.2
 ·rw[if_neg h]
  simp only[Z2,Z0t,Th.bl.injEq,decide_eq_decide]
  constructor
  ·intro z;exact .inl (by lia)
  ·rintro (z|z) <;> lia
theorem Zor (x y:Str)(hx:x.length≤1000000)(hy:y.length≤1000000):Z4Q [.str x,.str y]=some (.bl (ZaM x y)):=by
 unfold Z4Q Zgx
 simp (disch:=lia) only [Z5w,Z18,Z0p,Z3E,Z2H,f2,Z7g,Z3,fCB,Zb,Z2X,Z3D,Zj,ZO,Zz,Zh,Z02,Zk,len_str,ZK,ZdE,Z59,if_true,Z2,Zs]
 rw[Zof];rfl
theorem Zi5 (x:Str):(signs x).length=x.length:=by simp[signs,Z5r]
theorem ZoJ (ns:List Int)(k:Int)(hk:0≤k):∃ c,Z3j [.lst (ns.map Th.int),.int k]=some (.int c):=by
 by_cases h:k<ns.length
 ·have h2:k.toNat<(ns.map Th.int).length:=by rw[Ze];lia
  refine⟨ns[k.toNat]'(by lia),?_⟩
  have e:oIx (.lst (ns.map Th.int)) (.int k)=some (.int (ns[k.toNat]'(by lia))):=by
   simp only[oIx]
   rw[Z8c hk (by rw[Ze];exact h),Zc h2,List.getElem_map]
  unfold Z3j Z7C
  simp (disch:=lia) only [Z5w,Z18,Z0p,Z3E,Z1L,fIf,ZU,f2,Zb,Z2X,Z3D,Zj,ZO,Zz,Zs,Zh,fCB,Z3,Z02,Zk,Z68,lt_int,Z2H,Z0Y,fC,Z2,if_true]
  simp only[Ze,decide_eq_true h,if_true,e]
  rfl
 ·refine⟨0,?_⟩
  unfold Z3j Z7C
  simp (disch:=lia) only [Z5w,Z18,Z0p,Z3E,Z1L,fIf,ZU,f2,Zb,Z2X,Z3D,Zj,ZO,Zz,Zs,Zh,fCB,Z3,Z02,Zk,Z68,lt_int,Z2H,Z0Y,fC,Z2,if_true]
  simp only[Ze,decide_eq_false h,if_false,Zu]
  rfl
noncomputable def ZsS (c k:Int):Int:=((c+7919*k+1)*48271%2147483647*((c+7919*k+1)*48271%2147483647)+7*((c+7919*k+1)*48271%2147483647)+k)%2147483629
theorem Z9v (ns:List Int)(k:Int)(hk:0≤k):∃ r,0≤r∧r<2147483629∧Z2J [.lst (ns.map Th.int),.int k]=some (.int r):=by
 obtain⟨c,hc⟩:=ZoJ ns k hk
 refine⟨ZsS c k,Z3w _ (by decide),Z2t _ (by decide),?_⟩
 unfold Z2J Ze5
 simp (disch:=lia) only [Z5w,Z18,Z0p,Z3E,Z1L,Z1a,Z2X,Z3D,Zj,ZO,Zz,Z6,Z5,f2,ZZ,Z3,ZK,Zh,Zs,Z02,Zk,fC,Zb,Z5C,Z2H,if_true]
 simp only[hc]
 simp (disch:=lia) only [Zk,Z31,Z5C,mod_int,Z2,Zs,Zh]
 rfl
noncomputable def ZgS (n:Int)(le:Str)(k:Nat):Nat:=le.cps.toList.getD (drawn n k / 8%(le.length:Int)).toNat 0
noncomputable def Z8L (n:Int)(le:Str)(m:Nat):Str:=⟨((Z0L m).map (ZgS n le)).toArray⟩
theorem Zma {n most:Int}{le:Str}(h1:0<le.length)(h2:le.length≤1000):∀ (ks:List Nat) (acc:Str) (x:Option Dv),acc.length+ks.length≤100000 →
  ∃ y,Z5P (Zbg 4) (Z1a 3 (f2 Z17 (Zb 3) (f2 oIx (Zb 1) (f2 Z4m (f2 Z7e (ZZ Z0i (Z3 (ZK 0) (Z3 (ZK 4) Z02))) (fC (.int 8))) (fCB Z3G (Z3 (Zb 1) Z02)))))) (ks.map fun (k:Nat)=>Th.int (k:Int))
   [some (Dv.th (.int n)),some (Dv.th (.str le)),some (Dv.th (.int most)),some (Dv.th (.str acc)),x]=some (.nx [some (Dv.th (.int n)),some (Dv.th (.str le)),some (Dv.th (.int most)),some (Dv.th (.str ⟨(acc.cps.toList++ks.map (ZgS n le)).toArray⟩)),y])
 |[],acc,x,_=>⟨x,by simp[Z5P,Zpa]⟩
 |k::ks,acc,x,hz=>by
  have e1:=Z78 n k
  have hm:0≤drawn n k / 8%(le.length:Int)∧drawn n k / 8%(le.length:Int)<le.length:=⟨Z3w _ (by lia),Z2t _ (by lia)⟩
  have e2:=Zji hm.1 hm.2 (by lia)
  have hl1:(⟨#[ZgS n le k]⟩:Str).length=1:=rfl
  simp only[Zp] at hz
  have e3:=ZbP (x:=acc) (y:=⟨#[ZgS n le k]⟩) (by rw[hl1];lia)
  have hl2:(acc++(⟨#[ZgS n le k]⟩:Str)).length=acc.length+1:=by rw[ZjL,hl1]
  obtain⟨y,hy⟩:=Zma (n:=n) (most:=most) h1 h2 ks (acc++⟨#[ZgS n le k]⟩) (some (Dv.th (.int k))) (by rw[hl2];lia)
  refine⟨y,?_⟩
  rw[ZJ,Z5P]
  simp only[Zbg,Z5,Z6,ob_]
  have hs:Z1a 3 (f2 Z17 (Zb 3) (f2 oIx (Zb 1) (f2 Z4m (f2 Z7e (ZZ Z0i (Z3 (ZK 0) (Z3 (ZK 4) Z02))) (fC (.int 8))) (fCB Z3G (Z3 (Zb 1) Z02))))) [some (Dv.th (.int n)),some (Dv.th (.str le)),some (Dv.th (.int most)),some (Dv.th (.str acc)),some (Dv.th (.int k))]
   =some (.nx [some (Dv.th (.int n)),some (Dv.th (.str le)),some (Dv.th (.int most)),some (Dv.th (.str (acc++⟨#[ZgS n le k]⟩))),some (Dv.th (.int k))]):=by
   simp (disch:=lia) only [Z1a,Z6,Z5,f2,Zb,Zs,Zh,ZZ,Z3,ZK,Z02,Zk,fC,fCB,len_str]
   simp only[e1]
   simp (disch:=lia) only [Zk,Z4p,mod_int]
   simp only[e2]
   simp (disch:=lia) only [Zk]
   rw[show le.cps.toList.getD (drawn n ↑k / 8%↑le.length).toNat 0=ZgS n le k from rfl,e3]
   rfl
  rw[hs]
  simp only[ob_]
  rw[hy,Zfp]
  simp
theorem Zeu (n:Nat):L2.upTo n=(Z0L n).map fun (k:Nat)=>Th.int (k:Int):=rfl
theorem Zet {n most:Int}{le:Str}(h1:0<le.length)(h2:le.length≤1000)(h3:0≤most)(h4:most≤1000):Z2S [.int n,.str le,.int most]=some (.str (Z8L n le (n%(most+1)).toNat)):=by
 unfold Z2S Zgu
 have hm:0≤n%(most+1)∧n%(most+1)<most+1:=⟨Z3w _ (by lia),Z2t _ (by lia)⟩
 obtain⟨y,hy⟩:=Zma (n:=n) (most:=most) h1 h2 (Z0L (n%(most+1)).toNat) "" none (by rw[Z2c];show 0+_≤_;lia)
 refine Z1t rfl ?_
 refine (ZS (d':=[some (Dv.th (.int n)),some (Dv.th (.str le)),some (Dv.th (.int most)),some (Dv.th (.str "")),none]) rfl).trans ?_
 have hr:Z2l (f2 Z4m (Zb 0) (f2 Z17 (Zb 2) (fC (.int 1)))) [some (Dv.th (.int n)),some (Dv.th (.str le)),some (Dv.th (.int most)),some (Dv.th (.str "")),none]=some (L2.upTo (n%(most+1)).toNat):=by
  unfold Z2l
  simp (disch:=lia) only [f2,Zb,Zh,Zs,fC,Zk,Z31,mod_int]
  rw[if_pos (by lia)]
 refine (ZS ((Z4o hr).trans hy)).trans ?_
 rfl
noncomputable def Zp3 (l:List Nat):Prop:=∀ c∈l,c=97∨c=98∨c=99
noncomputable def Abc (x:Str):Prop:=Zp3 x.cps.toList
structure Zat (l r:Str):Prop where
 la:Abc l
 ra:Abc r
 l1:1≤l.length
 l6:l.length≤6
 less:ZaM r l=true
theorem Zat.rl {l r:Str}(h:Zat l r):r.length≤l.length:=by
 have:=of_decide_eq_true h.less
 lia
inductive ZjU:Str→Prop where
 |ab:ZjU "ab"
 |abc:ZjU "abc"
theorem ZjU.abcS {le:Str}(h:ZjU le):Abc le:=by
 cases h <;> (intro c hc;revert c;decide +kernel)
theorem ZjU.len {le:Str}(h:ZjU le):2≤le.length∧le.length≤3:=by
 cases h <;> decide +kernel
theorem ZkJ {le:Str}(h:ZjU le)(n:Int)(k:Nat):ZgS n le k=97∨ZgS n le k=98∨ZgS n le k=99:=by
 have hl:=h.len
 have hm:0≤drawn n k / 8%(le.length:Int)∧drawn n k / 8%(le.length:Int)<le.length:=⟨Z3w _ (by lia),Z2t _ (by lia)⟩
 have h2:(drawn n k / 8%(le.length:Int)).toNat<le.cps.toList.length:=by rw[Zey];lia
 unfold ZgS
 rw[Z5Q,Zc h2]
 exact h.abcS _ (ZaT h2)
theorem Z8o (n:Int)(le:Str)(m:Nat):(Z8L n le m).length=m:=by simp[Z8L,Z5r]
theorem Z8p {le:Str}(h:ZjU le)(n:Int)(m:Nat):Abc (Z8L n le m):=by
 intro c hc
 have:c∈(Z0L m).map (ZgS n le):=by simpa [Z8L] using hc
 obtain⟨k,_,rfl⟩:=ZT.mp this
 exact ZkJ h n k
theorem Zp3.app {a b:List Nat}(h:Zp3 a)(h':Zp3 b):Zp3 (a++b):=fun c hc=>(ZQ.mp hc).elim (h c) (h' c)
theorem Abc.app {a b:Str}(h:Abc a)(h':Abc b):Abc (a++b):=by unfold Abc;rw[Zfp];exact Zp3.app h h'
theorem Abc.cut {a:Str}(h:Abc a)(lo hi:Option Int):Abc (Zgn a lo hi):=fun c hc=>h c (by rw[Zgm] at hc;exact Zaf hc)
theorem Abc.mul {a:Str}(h:Abc a){j:Int}(h0:0≤j):Abc (Z58 a j):=fun c hc=>h c (by rw[ZeU h0] at hc;exact ZlG hc)
theorem ZeP {c:Nat}(h:c=97∨c=98∨c=99):Abc ⟨#[c]⟩:=fun d hd=>by
 have:d=c:=by simpa using hd
 subst this;exact h
theorem Z66 {x y:Str}(h:x.length<y.length):ZaM x y=true:=decide_eq_true (.inl h)
theorem Zic {le:Str}(L:ZjU le)(n:Int):∃ l r,Z3h [.int n,.str le]=some (.tup [.str l,.str r])∧Zat l r:=by
 have hl:=L.len
 have w1:=Zet (n:=3*(n / 4)+1+n%3) (most:=2) (le:=le) (by lia) (by lia) (by decide) (by decide)
 generalize hx:Z8L (3*(n / 4)+1+n%3) le ((3*(n / 4)+1+n%3)%(2+1)).toNat=x at w1
 have xa:Abc x:=by rw[← hx];exact Z8p L _ _
 have xl:x.length≤2:=by rw[← hx,Z8o];lia
 have hm:0≤n / 12%(le.length:Int)∧n / 12%(le.length:Int)<le.length:=⟨Z3w _ (by lia),Z2t _ (by lia)⟩
 have i1:=Zji hm.1 hm.2 (by lia)
 have ca:le.cps.toList.getD (n / 12%(le.length:Int)).toNat 0=97∨le.cps.toList.getD (n / 12%(le.length:Int)).toNat 0=98∨le.cps.toList.getD (n / 12%(le.length:Int)).toNat 0=99:=by
  have h2:(n / 12%(le.length:Int)).toNat<le.cps.toList.length:=by rw[Zey];lia
  rw[Z5Q,Zc h2]
  exact L.abcS _ (ZaT h2)
 generalize le.cps.toList.getD (n / 12%(le.length:Int)).toNat 0=c at i1 ca
 have hc1:(⟨#[c]⟩:Str).length=1:=rfl
 have p1:=ZbP (x:=x) (y:=⟨#[c]⟩) (by rw[hc1];lia)
 have ya:Abc (x++⟨#[c]⟩):=xa.app (ZeP ca)
 have yl:(x++(⟨#[c]⟩:Str)).length=x.length+1:=by rw[ZjL,hc1]
 generalize x++(⟨#[c]⟩:Str)=y at p1 ya yl
 have left:∃ l,fIf (ZU (f2 oEq (f2 Z4m (f2 Z7e (Zb 0) (fC (.int 48))) (fC (.int 6))) (fC (.int 1)))) (Z1a 2 (fSl (f2 Z2x (Zb 2) (fC (.int 4))) Z0j (Z1C (fC (.int 4))))) Z0Y
   [some (Dv.th (.int n)),some (Dv.th (.str le)),some (Dv.th (.str y)),none]=some (.nx [some (Dv.th (.int n)),some (Dv.th (.str le)),some (Dv.th (.str l)),none])∧Abc l∧1≤l.length∧l.length≤6:=by
  by_cases h:n / 48%6=1
  ·have t1:=Z9H (x:=y) (j:=4) (by decide) (by decide) (by show y.length*4≤_;lia)
   have ml:(Z58 y 4).length=4*y.length:=by
    rw[← Zey,ZeU (by decide),Zgf,Zey];rfl
   have s1:=ZbJ (x:=Z58 y 4) (lo:=none) (hi:=some 4) (by lia)
   refine⟨Zgn (Z58 y 4) none (some 4),?_,(ya.mul (by decide)).cut _ _,?_,?_⟩
   ·simp (disch:=lia) only [fIf,ZU,f2,Zb,Zh,fC,Zk,Z4p,mod_int,eq_int,Z1a,Z6,Z5,fSl,Zs,Z0j,Z1C,Z0Y]
    simp only[h,Zsy,if_true,t1,ob_,s1]
    rfl
   ·rw[Zc8,Zgk _ (by simp),ZA,Zey,ml];lia
   ·rw[Zc8,Zgk _ (by lia),ZA];lia
  ·refine⟨y,?_,ya,by lia,by lia⟩
   simp (disch:=lia) only [fIf,ZU,f2,Zb,Zh,fC,Zk,Z4p,mod_int,eq_int,Z1a,Z6,Z5,fSl,Zs,Z0j,Z1C,Z0Y]
   have:(n / 48%6 == 1)=false:=by simpa using h
   simp only[this,Zu,if_false]
 obtain⟨l,hleft,la,l1,l6⟩:=left
 have d1:=Z78 n 50
 have w2:=Zet (n:=drawn n 50) (most:=l.length) (le:=le) (by lia) (by lia) (by simp) (by lia)
 generalize hz:Z8L (drawn n 50) le (drawn n 50%((l.length:Int)+1)).toNat=z at w2
 have za:Abc z:=by rw[← hz];exact Z8p L _ _
 have zl:z.length≤l.length:=by
  rw[← hz,Z8o]
  have:=Z2t (drawn n 50) (b:=(l.length:Int)+1) (by simp)
  lia
 have ls:=Zor z l (by lia) (by lia)
 have right:∃ r,fIf (ZdH (ZU (ZZ Z4Q (Z3 (ZK 3) (Z3 (ZK 2) Z02))))) (Z1a 3 (fSl (Zb 3) (Z1C (fC (.int 1))) (Z1C (fCB Z3G (Z3 (Zb 2) Z02))))) Z0Y
   [some (Dv.th (.int n)),some (Dv.th (.str le)),some (Dv.th (.str l)),some (Dv.th (.str z))]=some (.nx [some (Dv.th (.int n)),some (Dv.th (.str le)),some (Dv.th (.str l)),some (Dv.th (.str r))])∧Abc r∧ZaM r l=true:=by
  cases hs:ZaM z l with
  |true =>
   rw[hs] at ls
   refine⟨z,?_,za,hs⟩
   simp (disch:=lia) only [fIf,ZdH,ZU,ZZ,Z3,ZK,Zs,Zh,Z02,Zk,Z1a,Z6,Z5,fSl,Zb,Z1C,fC,fCB,len_str,Z0Y]
   simp only[ls]
   simp (disch:=lia) only [Z2,Z5f,Zk,Zu,if_false]
  |false =>
   rw[hs] at ls
   have s1:=ZbJ (x:=z) (lo:=some 1) (hi:=some (l.length:Int)) (by lia)
   refine⟨Zgn z (some 1) (some (l.length:Int)),?_,za.cut _ _,?_⟩
   ·simp (disch:=lia) only [fIf,ZdH,ZU,ZZ,Z3,ZK,Zs,Zh,Z02,Zk,Z1a,Z6,Z5,fSl,Zb,Z1C,fC,fCB,len_str,Z0Y]
    simp only[ls]
    simp (disch:=lia) only [Z2,Z6d,Zk,if_true]
    simp only[s1]
    rfl
   ·refine Z66 ?_
    rw[Zc8]
    have e1:HT.sIx z.cps.toList.length 0 (some 1)=min 1 z.length:=by rw[Zey];exact HT.sIx_nat _ _ 1
    have e2:(Z6w z.cps.toList (some 1) (some (l.length:Int))).length≤z.length-min 1 z.length:=by
     unfold Z6w
     rw[ZA,ZM,e1,Zey]
     exact ZoO _ _
    have:0<z.length∨z.length=0:=by lia
    rcases this with h|h
    ·have:min 1 z.length=1:=by lia
     lia
    ·exfalso
     have:ZaM z l=true:=Z66 (by lia)
     rw[this] at hs;cases hs
 obtain⟨r,hright,ra,hless⟩:=right
 refine⟨l,r,?_,la,ra,l1,l6,hless⟩
 unfold Z3h Zgw
 refine Z1t rfl ?_
 refine (ZS (d':=[some (Dv.th (.int n)),some (Dv.th (.str le)),some (Dv.th (.str y)),none]) ?_).trans ?_
 ·simp (disch:=lia) only [Z1a,Z2X,Z18,Z0p,Z3E,Z3D,Zj,ZO,Zz,Z6,Z5,f2,ZZ,Z3,fC,Zb,Zh,Zk,Z4p,Z5C,Z31,mod_int,ZK,Zs,Z02,fCB,len_str]
  simp only[w1]
  simp (disch:=lia) only [Zk]
  simp only[i1]
  simp (disch:=lia) only [Zk]
  simp only[p1]
  rfl
 refine (ZS hleft).trans ?_
 refine (ZS (d':=[some (Dv.th (.int n)),some (Dv.th (.str le)),some (Dv.th (.str l)),some (Dv.th (.str z))]) ?_).trans ?_
 ·simp (disch:=lia) only [Z1a,Z6,Z5,ZZ,Z3,ZK,Zh,fC,Z02,Zk,Zs,fCB,Zb,len_str]
  simp only[d1]
  simp (disch:=lia) only [Zk]
  simp only[w2]
  rfl
 refine (ZS hright).trans ?_
 rfl
noncomputable def Z6P (t:Th):Prop:=∃ l r,t=.tup [.str l,.str r]∧Zat l r
noncomputable def Zko:List Th:=[(.tup [(.str ("ba":Str)),(.str ("ab":Str))]),(.tup [(.str ("ca":Str)),(.str ("ac":Str))]),(.tup [(.str ("cb":Str)),(.str ("bc":Str))])]
theorem Z8C {x:Str}(h:(x.cps.toList.all fun c=>c == 97||c == 98||c == 99)=true):Abc x:=fun c hc=>by
 have:=Z54.mp h c hc
 simp only[Z2P,beq_iff_eq] at this
 lia
theorem Zkn:∀ t∈Zko,Z6P t:=fun t ht=>by
 simp only[Zko,Zi,Z1X,or_false] at ht
 rcases ht with rfl|rfl|rfl
 ·exact⟨_,_,rfl,Z8C (by decide +kernel),Z8C (by decide +kernel),by decide +kernel,by decide +kernel,by decide +kernel⟩
 ·exact⟨_,_,rfl,Z8C (by decide +kernel),Z8C (by decide +kernel),by decide +kernel,by decide +kernel,by decide +kernel⟩
 ·exact⟨_,_,rfl,Z8C (by decide +kernel),Z8C (by decide +kernel),by decide +kernel,by decide +kernel,by decide +kernel⟩
theorem ZeZ {c:Nat}(hc:c=97∨c=98∨c=99){i j:Int}(hi:2≤i)(hi3:i≤3)(hj:0≤j)(hj1:j≤1):Zat (Z58 ⟨#[c]⟩ i) (Z58 ⟨#[c]⟩ j):=by
 have ll:∀ k:Int,0≤k→(Z58 (⟨#[c]⟩:Str) k).length=k.toNat:=fun k hk=>by
  rw[← Zey,ZeU hk,Zgf];simp
 refine⟨(ZeP hc).mul (by lia),(ZeP hc).mul hj,?_,?_,Z66 ?_⟩
 ·rw[ll i (by lia)];lia
 ·rw[ll i (by lia)];lia
 ·rw[ll i (by lia),ll j hj];lia
theorem ZhZ {n:Int}{le:Str}{ts:List Th}{x3 x4 x5:Option Dv}{k:Nat}{c:Nat}(hc:c=97∨c=98∨c=99)(hts:∀ t∈ts,Z6P t)(hl:ts.length≤100) :
  ∃ d1 ts' y5,Z45 3 4 (.tup [.int (k:Int),.str ⟨#[c]⟩]) [some (Dv.th (.int n)),some (Dv.th (.str le)),some (Dv.own ts),x3,x4,x5]=some d1 ∧
   (Z1L (Z1a 5 (ZZ Z0i (Z3 (ZK 0) (Z3 (ZK 3) Z02))))
 (fIf (ZU (f2 oGt (f2 Z4m (Zb 5) (fC (.int 3))) (fC (.int 0)))) (Z2a 2 (Z7g (Z3 (f2 Z2x (Zb 4) (f2 Z17 (fC (.int 2)) (f2 Z4m (f2 Z7e (Zb 5) (fC (.int 3))) (fC (.int 2))))) (Z3 (f2 Z2x (Zb 4) (f2 Z4m (f2 Z7e (Zb 5) (fC (.int 6))) (fC (.int 2)))) Z02)))) Z0Y)) d1
   =some (.nx [some (Dv.th (.int n)),some (Dv.th (.str le)),some (Dv.own ts'),some (Dv.th (.int (k:Int))),some (Dv.th (.str ⟨#[c]⟩)),y5])∧(∀ t∈ts',Z6P t)∧ts'.length≤ts.length+1:=by
 have e1:=Z78 n k
 have hc1:(⟨#[c]⟩:Str).length=1:=rfl
 refine⟨[some (Dv.th (.int n)),some (Dv.th (.str le)),some (Dv.own ts),some (Dv.th (.int (k:Int))),some (Dv.th (.str ⟨#[c]⟩)),x5],?_⟩
 have h0:Z1a 5 (ZZ Z0i (Z3 (ZK 0) (Z3 (ZK 3) Z02))) [some (Dv.th (.int n)),some (Dv.th (.str le)),some (Dv.own ts),some (Dv.th (.int (k:Int))),some (Dv.th (.str ⟨#[c]⟩)),x5]=some (.nx [some (Dv.th (.int n)),some (Dv.th (.str le)),some (Dv.own ts),some (Dv.th (.int (k:Int))),some (Dv.th (.str ⟨#[c]⟩)),some (Dv.th (.int (drawn n k)))]):=by
  simp (disch:=lia) only [Z1a,Z6,Z5,ZZ,Z3,ZK,Zh,Zs,Z02,Zk]
  simp only[e1]
  rfl
 by_cases h:0<drawn n k%3
 ·have t1:=Z9H (x:=(⟨#[c]⟩:Str)) (j:=2+drawn n k / 3%2) (by lia) (by lia) (by rw[hc1];lia)
  have t2:=Z9H (x:=(⟨#[c]⟩:Str)) (j:=drawn n k / 6%2) (by lia) (by lia) (by rw[hc1];lia)
  refine⟨ts++[.tup [.str (Z58 ⟨#[c]⟩ (2+drawn n k / 3%2)),.str (Z58 ⟨#[c]⟩ (drawn n k / 6%2))]],some (Dv.th (.int (drawn n k))),rfl,(ZS h0).trans ?_,fun t ht=>?_,by simp⟩
  rotate_left
  ·rcases ZQ.mp ht with z|z
   ·exact hts t z
   ·have:=Z0c.mp z
    subst this
    exact⟨_,_,rfl,ZeZ hc (by lia) (by lia) (by lia) (by lia)⟩
  ·simp (disch:=lia) only [fIf,ZU,f2,Zb,Zs,Zh,fC,Zk,mod_int,gt_int,Z0Y]
   simp only[decide_eq_true h,if_true,Z2a,gz_,gs_]
   simp (disch:=lia) only [Z7g,Z3,f2,Zb,Zs,Zh,fC,Zk,Z4p,mod_int,Z31,Z02,Z6,Z5]
   simp only[t1,t2,ob_]
   simp (disch:=lia) only [ZdE,Z18,Z0p,Z3E,Z59,if_true,Z2,Zk]
   rw[if_pos (by lia)]
 ·refine⟨ts,some (Dv.th (.int (drawn n k))),rfl,(ZS h0).trans ?_,hts,by exact Z2z _⟩
  simp (disch:=lia) only [fIf,ZU,f2,Zb,Zs,Zh,fC,Zk,mod_int,gt_int,Z0Y]
  simp only[decide_eq_false h,if_false,Zu]
theorem Zn7 {le:Str}(L:ZjU le)(n:Int):∃ ts,Z5N [.int n,.str le]=some (.lst ts)∧(∀ t∈ts,Z6P t)∧ts.length≤6:=by
 have hl:=L.len
 have first:∃ ts,Za9 2 (ZlJ (fC (.lst Zko)) Z0j (Z1C (f2 ZoT (f2 Z2x (fC (.int 2)) (fCB Z3G (Z3 (Zb 1) Z02))) (fC (.int 3))))) [some (Dv.th (.int n)),some (Dv.th (.str le)),none,none,none,none]
  =some (.nx [some (Dv.th (.int n)),some (Dv.th (.str le)),some (Dv.own ts),none,none,none])∧(∀ t∈ts,Z6P t)∧ts.length≤3:=by
  refine⟨Z6w Zko none (some (2*(le.length:Int)-3)),?_,fun t ht=>Zkn t (Zaf ht),Zah _ _ _⟩
  unfold Za9 ZlJ
  simp (disch:=lia) only [Z6,Z5,fSl,fC,Z0j,Z1C,f2,fCB,Z3,Zb,Zs,Zh,Z02,Zk,len_str,Z5C,sub_int]
  simp only[ZfN]
  rfl
 obtain⟨ts1,f1,p1,l1⟩:=first
 have second:∃ ts,fIf (ZU (f2 oEq (f2 Z4m (Zb 0) (fC (.int 2))) (fC (.int 1)))) (Za9 2 (ZlJ (Zb 2) Z0j (Z1C (f2 Z4m (f2 Z7e (Zb 0) (fC (.int 2))) (fC (.int 2)))))) Z0Y [some (Dv.th (.int n)),some (Dv.th (.str le)),some (Dv.own ts1),none,none,none]
  =some (.nx [some (Dv.th (.int n)),some (Dv.th (.str le)),some (Dv.own ts),none,none,none])∧(∀ t∈ts,Z6P t)∧ts.length≤3:=by
  by_cases h:n%2=1
  ·refine⟨Z6w ts1 none (some (n / 2%2)),?_,fun t ht=>p1 t (Zaf ht),ZR (Zah _ _ _) l1⟩
   simp (disch:=lia) only [fIf,ZU,f2,Zb,Zh,fC,Zk,mod_int,eq_int,Z0Y]
   simp only[h,Zsy,if_true,Za9,ZlJ]
   simp (disch:=lia) only [Z6,Z5,fSl,Zb,Zs,Zh,Z0j,Z1C,f2,fC,Zk,Z4p,mod_int]
   simp only[ZfN]
   rfl
  ·refine⟨ts1,?_,p1,l1⟩
   simp (disch:=lia) only [fIf,ZU,f2,Zb,Zh,fC,Zk,mod_int,eq_int,Z0Y]
   have:(n%2 == 1)=false:=by simpa using h
   simp only[this,Zu,if_false]
 obtain⟨ts2,f2',p2,l2⟩:=second
 have third:=Zge (g:=Z45 3 4) (F:=(Z1L (Z1a 5 (ZZ Z0i (Z3 (ZK 0) (Z3 (ZK 3) Z02))))
 (fIf (ZU (f2 oGt (f2 Z4m (Zb 5) (fC (.int 3))) (fC (.int 0)))) (Z2a 2 (Z7g (Z3 (f2 Z2x (Zb 4) (f2 Z17 (fC (.int 2)) (f2 Z4m (f2 Z7e (Zb 5) (fC (.int 3))) (fC (.int 2))))) (Z3 (f2 Z2x (Zb 4) (f2 Z4m (f2 Z7e (Zb 5) (fC (.int 6))) (fC (.int 2)))) Z02)))) Z0Y)))
  (fun rest d=>∃ ts x3 x4 x5,d=[some (Dv.th (.int n)),some (Dv.th (.str le)),some (Dv.own ts),x3,x4,x5]∧(∀ t∈ts,Z6P t)∧ts.length+rest.length≤6∧∀ t∈rest,∃ (k c:Nat),t=.tup [.int (k:Int),.str ⟨#[c]⟩]∧(c=97∨c=98∨c=99))
  (fun t r d z1_=>by
   obtain ⟨ts,x3,x4,x5,hd,hp,hz,hr⟩:=z1_
   subst hd
   obtain⟨k,c,rfl,hc⟩:=hr t Z4
   simp only[Zp] at hz
   obtain⟨d1,ts',y5,g1,g2,g3,g4⟩:=ZhZ (n:=n) (le:=le) (x3:=x3) (x4:=x4) (x5:=x5) (k:=k) hc hp (by lia)
   exact⟨d1,_,g1,g2,ts',_,_,_,rfl,g3,by lia,fun t ht=>hr t (Z9 _ ht)⟩)
  (numbered 0 (signs le)) [some (Dv.th (.int n)),some (Dv.th (.str le)),some (Dv.own ts2),none,none,none]
  ⟨ts2,none,none,none,rfl,p2,by rw[Z27,Zi5];lia,fun t ht=>by
   obtain⟨j,y,rfl,hy⟩:=Z8W ht
   unfold signs at hy
   obtain⟨c,hc,rfl⟩:=ZT.mp hy
   exact⟨j,c,rfl,L.abcS c hc⟩⟩
 obtain⟨d',e3,ts3,x3,x4,x5,rfl,p3,l3,_⟩:=third
 refine⟨ts3,?_,p3,by simpa using l3⟩
 unfold Z5N Zgv
 refine Z1t rfl ?_
 refine (ZS f1).trans ((ZS f2').trans ((ZS ((Z4o rfl).trans e3)).trans rfl))
theorem Zoq (i:Int) (h0:0≤i) (h1:i<2):∃ le,oIx (.tup [(.str ("ab":Str)),(.str ("abc":Str))]) (.int i)=some (.str le)∧ZjU le:=by
 have:i=0∨i=1:=by lia
 rcases this with rfl|rfl
 ·exact⟨_,rfl,.ab⟩
 ·exact⟨_,rfl,.abc⟩
theorem Zkx (n:Int):∃ ts,Z4k [.int n]=some (.tup ts)∧(∀ t∈ts,Z6P t)∧ts.length≤7:=by
 obtain⟨le,hle,L⟩:=Zoq (n / 4%2) (by lia) (by lia)
 obtain⟨ts1,e1,p1,l1⟩:=Zn7 L (n / 8)
 have third:∃ ts,(fIf (ZU (f2 oGt (f2 Z4m (Zb 0) (fC (.int 4))) (fC (.int 1)))) (Z1a 2 (Z3O (Z29 g1 (Z2l (f2 Z4m (f2 Z7e (Zb 0) (fC (.int 8))) (fC (.int 5)))) Z4A (ZZ Z3h (Z3 (ZZ Z0i (Z3 (ZK 1) (Z3 (f2 Z17 (fC (.int 9)) (Zb 0)) Z02))) (Z3 (ZK 2) Z02)))))) (fIf (ZU (f2 oEq (f2 Z4m (Zb 0) (fC (.int 4))) (fC (.int 1)))) (Z1a 2 (f2 Z17 (Zb 2) (Z3O (Z9h (Z3 (ZZ Z3h (Z3 (ZZ Z0i (Z3 (ZK 0) (Z3 (fC (.int 9)) Z02))) (Z3 (ZK 1) Z02))) Z02))))) Z0Y))
   [some (Dv.th (.int n)),some (Dv.th (.str le)),some (Dv.th (.lst ts1)),none]=some (.nx [some (Dv.th (.int n)),some (Dv.th (.str le)),some (Dv.th (.lst ts)),none])∧(∀ t∈ts,Z6P t)∧ts.length≤7:=by
  by_cases h:1<n%4
  ·obtain⟨ys,ey,py,ly⟩:=ZlK (fi:=Z2l (f2 Z4m (f2 Z7e (Zb 0) (fC (.int 8))) (fC (.int 5)))) (fe:=ZZ Z3h (Z3 (ZZ Z0i (Z3 (ZK 1) (Z3 (f2 Z17 (fC (.int 9)) (Zb 0)) Z02))) (Z3 (ZK 2) Z02))) (d:=[some (Dv.th (.int n)),some (Dv.th (.str le)),some (Dv.th (.lst ts1)),none]) (ts:=L2.upTo (n / 8%5).toNat) (P:=Z6P)
    (by unfold Z2l;simp (disch:=lia) only [f2,Zb,Zh,fC,Zk,Z4p,mod_int];rw[if_pos (by lia)]) (by simp[L2.upTo];lia) (fun t ht=>by
     obtain⟨k,_,rfl⟩:=ZT.mp (show t∈(Z0L (n / 8%5).toNat).map fun (k:Nat)=>Th.int ((k:Nat):Int) from ht)
     have d1:=Z78 n (9+k)
     obtain⟨l,r,e,ok⟩:=Zic L (drawn n (9+k))
     refine⟨.tup [.str l,.str r],?_,l,r,rfl,ok⟩
     simp (disch:=lia) only [ZZ,Z3,ZK,Zs,Zh,f2,fC,Zb,Zk,Z31,Z02]
     simp only[d1]
     simp (disch:=lia) only [Zk]
     simp only[e])
   refine⟨ys,?_,py,by rw[ly];simp[L2.upTo];lia⟩
   simp (disch:=lia) only [fIf,ZU,f2,Zb,Zh,fC,Zk,mod_int,gt_int,Z1a,Z6,Z5,Z3O,eq_int,Zs,Z9h,Z3,ZZ,ZK,Z02,Z0Y]
   simp only[decide_eq_true h,if_true,ey]
   rfl
  ·by_cases h1:n%4=1
   ·have d1:=Z78 n 9
    obtain⟨l,r,e,ok⟩:=Zic L (drawn n 9)
    have p:=Z7Y (x:=ts1) (y:=[.tup [.str l,.str r]]) (by simp;lia)
    refine⟨ts1++[.tup [.str l,.str r]],?_,fun t ht=>?_,by simp;omega⟩
    ·simp (disch:=lia) only [fIf,ZU,f2,Zb,Zh,fC,Zk,mod_int,gt_int,Z1a,Z6,Z5,Z3O,eq_int,Zs,Z9h,Z3,ZZ,ZK,Z02,Z0Y]
     simp only[decide_eq_false h,if_false,Zu,h1,Zsy,if_true]
     try simp (disch:=lia) only [Z5w,Z1L,Z1a,Z2H,fIf,Z0Y,f2,Zb,ZK,fC,fCL,Z3,Z02,ZZ,fCB,ZU,ZdH,Z9i,ZhF,ZoC,fOr,Zfh,Zbj,Zk1,Zf8,Zhh,Zfc,Zf6,Zf4,Zfa,Zc2,ZdC,Zc4,Zc1,Z86,Zc3,Zdx,Z7y,ZdB,Zdv,Zdt,Zdz,Zf9,Zhi,Zfd,Zf7,Zf5,Zfb,Zdw,Zfe,ZdA,Zdu,Zds,Zdy,Z7g,Z3O,Z9h,ZdE,Z1C,Z0j,fSl,Z2X,Z18,Zj,ZO,Zz,gz_,gs_,Z0p,Z59,ob_,Z2,Option.bind_none,Option.map_none,Z5,Z6,Z31,sub_int,Z5C,mod_int,Z4p,Z68,Zja,len_str,Zle,le_int,gt_int,ge_int,lt_int,eq_int,ne_int,ZrZ,eq_str,Z5f,Z6d,Zqz,if_true,if_false,Zu,reduceIte,Z3E,Z3D,Z59,Zp,Z5u]
     simp only[d1]
     simp (disch:=lia) only [Zk]
     simp only[e]
     simp (disch:=lia) only [Zk,ZdE,Z18,Z0p,Z59,if_true,Z2]
     simp only[p]
     rfl
    ·rcases ZQ.mp ht with z|z
     ·exact p1 t z
     ·have:=Z0c.mp z
      subst this
      exact⟨l,r,rfl,ok⟩
   ·refine⟨ts1,?_,p1,by lia⟩
    simp (disch:=lia) only [fIf,ZU,f2,Zb,Zh,fC,Zk,mod_int,gt_int,Z1a,Z6,Z5,Z3O,eq_int,Zs,Z9h,Z3,ZZ,ZK,Z02,Z0Y]
    have:(n%4 == 1)=false:=by simpa using h1
    simp only[decide_eq_false h,if_false,Zu,this]
 obtain⟨ts,e3,p3,l3⟩:=third
 have lA:=Zah ts (some (n / 640%5)) none
 have lB:=Zah ts none (some (n / 640%5))
 have hcut:(Z6w ts (some (n / 640%5)) none++Z6w ts none (some (n / 640%5))).length≤7:=by
  rw[Zc7 _ (by lia),Zgk _ (by lia),Zd,ZM,ZA];omega
 refine⟨Z6w ts (some (n / 640%5)) none++Z6w ts none (some (n / 640%5)),?_,fun t ht=>(ZQ.mp ht).elim (fun z=>p3 t (Zaf z)) fun z=>p3 t (Zaf z),hcut⟩
 have p:=Z7Y (x:=Z6w ts (some (n / 640%5)) none) (y:=Z6w ts none (some (n / 640%5))) (by lia)
 unfold Z4k Ze3
 refine Z1t rfl ?_
 refine (ZS (d':=[some (Dv.th (.int n)),some (Dv.th (.str le)),none,none]) ?_).trans ?_
 ·simp (disch:=lia) only [Z1a,Z2X,Z18,Z0p,Z3D,Zj,ZO,Zz,Z6,Z5,f2,fC,Zb,Zh,Zk,Z4p,mod_int]
  simp only[hle]
  rfl
 refine (ZS (d':=[some (Dv.th (.int n)),some (Dv.th (.str le)),some (Dv.th (.lst ts1)),none]) ?_).trans ?_
 ·simp (disch:=lia) only [Z1a,Z6,Z5,ZZ,Z3,f2,Zb,Zh,fC,Zk,Z4p,ZK,Zs,Z02]
  simp only[e1]
  rfl
 refine (ZS e3).trans ?_
 refine (ZS (d':=[some (Dv.th (.int n)),some (Dv.th (.str le)),some (Dv.th (.lst ts)),some (Dv.th (.int (n / 640%5)))]) ?_).trans ?_
 ·simp (disch:=lia) only [Z1a,Z6,Z5,f2,Zb,Zh,fC,Zk,Z4p,mod_int,Z2]
 simp (disch:=lia) only [Z2H,fCB,Z3,f2,fSl,Zb,Zs,Zh,Z1C,ZK,Z0j,Zk,Z02]
 simp only[ZfN,ob_,p]
 rfl
theorem ZlI {a b:FD}{d:Sd}{x y:Th}(h1:a d=some x)(h2:b d=some y):Z7g (Z3 a (Z3 b Z02)) d=some (.tup [x,y]):=by
 unfold Z7g Z3 Z02 ZdE
 rw[h1,h2]
 rfl
theorem Z79 (w:W)(p:Nat)(hw:w.length≤100000):oSl (tS w) (some (p:Int)) none=some (tS (w.drop p)):=by
 unfold tS
 rw[ZbJ (by rw[Z8U];lia)]
 congr 2
 unfold Zgn
 rw[Zmj,Zc7 _ (by simp)]
 rfl
theorem Z9C (w:W)(p:Nat)(hw:w.length≤100000):oSl (tS w) none (some (p:Int))=some (tS (w.take p)):=by
 unfold tS
 rw[ZbJ (by rw[Z8U];lia)]
 congr 2
 unfold Zgn
 rw[Zmj,Zgk _ (by lia)]
 rfl
theorem ZeA {R:List Ru}{k:Nat}{r:Ru}(h:R[k]?=some r):oIx (RT R) (.int (k:Int))=some (rTh r):=by
 have hk:k<R.length:=(Zv.mp h).1
 show atI (R.map rTh) (k:Int)=_
 rw[Z8c (by lia) (by rw[Ze];lia),Z16,Z0q,h]
 rfl
theorem Z9S {l w:W}(hl:l≠[])(hw:w.length≤1000):∀ (n lo:Nat) (acc:List Th),w.length+1-lo<n→acc.length+(w.length+1-lo)≤2000 →
  Z2E (ZU (f2 oGe (Zb 3) (fC (.int 0)))) (Z1L (Z2a 2 (ZK 3)) (Z1a 3 (fM2 (fun z y i=>some (.int (Z7J z y i))) (Zb 1) (Zb 0) (f2 Z17 (Zb 3) (fC (.int 1)))))) n
   [some (Dv.th (tS l)),some (Dv.th (tS w)),some (Dv.own acc),some (Dv.th (.int (Zk0 (Z1x l w lo))))] =
   some (.nx [some (Dv.th (tS l)),some (Dv.th (tS w)),some (Dv.own (acc++(allAt l w lo).map fun (i:Nat)=>Th.int (i:Int))),some (Dv.th (.int (-1)))])
 |0,lo,acc,h,_=>absurd h (by simp)
 |n+1,lo,acc,h,hz=>by
  unfold Z2E
  cases hf:Z1x l w lo with
  |none =>
   rw[Zbv hf]
   simp only[Zk0,ZU,f2,Zb,fC,gs_,gz_,ob_,ge_int,Z5Y,Z1z]
   rfl
  |some p =>
   obtain⟨h1,h2,h3⟩:=Zas hf
   have e0:decide ((0:Int)≤(p:Int))=true:=decide_eq_true (by lia)
   have e1:acc.length<1000000:=by lia
   have f3:=ZlH (w:=w) hl (p+1)
   have ih:=Z9S hl hw n (p+1) (acc++[Th.int (p:Int)]) (by lia) (by rw[Zd,Z4N];lia)
   simp only[Zk0,ZU,f2,Zb,fC,gs_,gz_,ob_,ge_int,e0,if_true,Z1L,Z2a,ZK,e1,Z5,Z6,Z1a,fM2,tS,Z31,Z2]
   rw[show ((p:Int)+1)=((p+1:Nat):Int) by rfl,f3]
   simp only[tS] at ih
   rw[ih,h3,ZJ,Z7]
   rfl
theorem Zd2 {l w:W}(hl:l≠[])(hw:w.length≤1000):Z1J [tS l,tS w]=some (.lst ((allAt l w 0).map fun (i:Nat)=>Th.int (i:Int))):=by
 unfold Z1J Zao
 refine Z1t rfl ?_
 refine (ZS (d':=[some (Dv.th (tS l)),some (Dv.th (tS w)),some (Dv.own []),none]) rfl).trans ?_
 refine (ZS (d':=[some (Dv.th (tS l)),some (Dv.th (tS w)),some (Dv.own []),some (Dv.th (.int (Zk0 (Z1x l w 0))))]) ?_).trans ?_
 ·have f0:=Zjr (w:=w) hl
  simp only[Z1a,fM1,f2,Zb,Z2X,Z18,Zj,ZO,Zz,gs_,gz_,ob_,Z2,tS,f0,Z5,Z6]
 refine (ZS (Z6L (Z9S hl hw (w.length+5) 0 [] (by simp) (by simp;lia)))).trans ?_
 rfl
theorem ZqF {w:W}{k:Nat}{d:Sd}(hd:d[3]?=some (some (Dv.th (.int (k:Int))))):∀ (is:List Nat),Z46 g1 Z4A (Z7g (Z3 (ZK 0) (Z3 (ZK 4) Z02))) d (is.map fun (i:Nat)=>Th.int (i:Int))=some ((is.map fun p=>(p,k)).map Z5x)
 |[]=>rfl
 |i::is=>by
  have ih:=ZqF (w:=w) hd is
  have e:Z7g (Z3 (ZK 0) (Z3 (ZK 4) Z02)) (some (Dv.th (.int (i:Int)))::d)=some (Z5x (i,k)):=by
   refine ZlI rfl ?_
   unfold ZK
   rw[gs_,hd]
  simp only[ZJ,Z46,g1,Z4A,ob_,ZO,Zz,if_true,e]
  rw[ih]
  rfl
theorem ZjN (l w:W):(allAt l w 0).length≤w.length+1:=by
 unfold allAt
 have:=Z3q (Z1G l w) (Z2g 0 (w.length+1-0))
 rw[Z9l] at this
 omega
theorem ZdQ {R0:List Ru}{w:W}(hw:w.length≤1000):∀ (R:List Ru) (k:Nat) (acc:List Th) (x3 x4:Option Dv),(∀ r∈R,r.1≠[])→acc.length+R.length*1001≤900000 →
  ∃ y3 y4,Z5P (Z45 3 4) (Z51 2 (Z3O (Z29 g1 (Z2i (ZZ Z1J (Z3 (f2 oIx (Zb 4) (fC (.int 0))) (Z3 (ZK 1) Z02)))) Z4A (Z7g (Z3 (ZK 0) (Z3 (ZK 4) Z02)))))) (numbered k (R.map rTh))
   [some (Dv.th (RT R0)),some (Dv.th (tS w)),some (Dv.own acc),x3,x4]=some (.nx [some (Dv.th (RT R0)),some (Dv.th (tS w)),some (Dv.own (acc++(Z33 w k R).map Z5x)),y3,y4])
 |[],k,acc,x3,x4,_,_=>⟨x3,x4,by simp[L2.numbered,Z5P,Z33]⟩
 |r::R,k,acc,x3,x4,hR,hz=>by
  have hl:=hR r Z4
  have pe:=Zd2 hl hw
  have al:=ZjN r.1 w
  have e1:Z29 g1 (Z2i (ZZ Z1J (Z3 (f2 oIx (Zb 4) (fC (.int 0))) (Z3 (ZK 1) Z02)))) Z4A (Z7g (Z3 (ZK 0) (Z3 (ZK 4) Z02)))
    [some (Dv.th (RT R0)),some (Dv.th (tS w)),some (Dv.own acc),some (Dv.th (.int (k:Int))),some (Dv.th (rTh r))]=some (((allAt r.1 w 0).map fun p=>(p,k)).map Z5x):=by
   have ei:Z2i (ZZ Z1J (Z3 (f2 oIx (Zb 4) (fC (.int 0))) (Z3 (ZK 1) Z02))) [some (Dv.th (RT R0)),some (Dv.th (tS w)),some (Dv.own acc),some (Dv.th (.int (k:Int))),some (Dv.th (rTh r))]
    =some ((allAt r.1 w 0).map fun (i:Nat)=>Th.int (i:Int)):=by
    have e0:oIx (rTh r) (.int 0)=some (tS r.1):=rfl
    simp only[Z2i,ZZ,Z3,Z02,f2,Zb,ZK,fC,gs_,gz_,ob_,e0,pe]
    rfl
   unfold Z29
   rw[ei,ob_,if_pos (by rw[Ze];lia)]
   exact ZqF (w:=w) rfl _
  have hz1:acc.length+(((allAt r.1 w 0).map fun p=>(p,k)).map Z5x).length≤1000000:=by
   rw[Ze,Ze]
   rw[Zp] at hz
   lia
  obtain⟨y3,y4,ih⟩:=ZdQ (R0:=R0) hw R (k+1) (acc++((allAt r.1 w 0).map fun p=>(p,k)).map Z5x) (some (Dv.th (.int (k:Int)))) (some (Dv.th (rTh r))) (fun q hq=>hR q (Z9 _ hq)) (by
   rw[Zd,Ze,Ze]
   rw[Zp] at hz
   lia)
  refine⟨y3,y4,?_⟩
  rw[ZJ]
  unfold L2.numbered Z5P
  have g:Z45 3 4 (.tup [.int (k:Int),rTh r]) [some (Dv.th (RT R0)),some (Dv.th (tS w)),some (Dv.own acc),x3,x4]=some [some (Dv.th (RT R0)),some (Dv.th (tS w)),some (Dv.own acc),some (Dv.th (.int (k:Int))),some (Dv.th (rTh r))]:=rfl
  rw[g,ob_]
  have x:Z51 2 (Z3O (Z29 g1 (Z2i (ZZ Z1J (Z3 (f2 oIx (Zb 4) (fC (.int 0))) (Z3 (ZK 1) Z02)))) Z4A (Z7g (Z3 (ZK 0) (Z3 (ZK 4) Z02)))))
    [some (Dv.th (RT R0)),some (Dv.th (tS w)),some (Dv.own acc),some (Dv.th (.int (k:Int))),some (Dv.th (rTh r))] =
    some (.nx [some (Dv.th (RT R0)),some (Dv.th (tS w)),some (Dv.own (acc++((allAt r.1 w 0).map fun p=>(p,k)).map Z5x)),some (Dv.th (.int (k:Int))),some (Dv.th (rTh r))]):=by
   simp only[Z51,Z3O,e1,gs_,gz_,Z2,ob_,ZcK,if_pos hz1,Z5,Z6]
  rw[x]
  simp only[ob_]
  rw[ih]
  have hc:Z33 w k (r::R)=(allAt r.1 w 0).map (fun p=>(p,k))++Z33 w (k+1) R:=rfl
  rw[hc,Z1e,Z7]
theorem Zio {R:List Ru}{w:W}(hR:∀ r∈R,r.1≠[])(hn:R.length≤100)(hw:w.length≤1000):Z4i [RT R,tS w]=some (.tup ((Z0I R w).map Z5x)):=by
 obtain⟨y3,y4,lp⟩:=ZdQ (R0:=R) hw R 0 [] none none hR (by simp;lia)
 unfold Z4i Zgt
 refine Z1t rfl ?_
 refine (ZS (d':=[some (Dv.th (RT R)),some (Dv.th (tS w)),some (Dv.own []),none,none]) rfl).trans ?_
 have hf:ZaC (Z6q (ZK 0)) (Z45 3 4) (Z51 2 (Z3O (Z29 g1 (Z2i (ZZ Z1J (Z3 (f2 oIx (Zb 4) (fC (.int 0))) (Z3 (ZK 1) Z02)))) Z4A (Z7g (Z3 (ZK 0) (Z3 (ZK 4) Z02))))))
   [some (Dv.th (RT R)),some (Dv.th (tS w)),some (Dv.own []),none,none]=some (.nx [some (Dv.th (RT R)),some (Dv.th (tS w)),some (Dv.own ((Z33 w 0 R).map Z5x)),y3,y4]):=by
  rw[Z4o (ts:=numbered 0 (R.map rTh)) rfl]
  exact lp
 refine (ZS hf).trans ?_
 have hs:=Zex (w:=w) hR
 have ho:=Zqc (Z33 w 0 R)
 simp only[Z2H,fCB,Z3,Z02,Z3O,Za8,Zde,Zb,gs_,gz_,ob_,Z2,ho,if_true,hs,Z4y]
theorem Zso {R0:List Ru}{w:W}{p:Nat}(hw:w.length≤1000){x2:Option Dv}:∀ (R:List Ru) (k:Nat),
  Z46 g2 (ZU (fM1 (fun z y=>some (.bl (Z0z z y))) (fSl (Zb 3) (Z1C (ZK 5)) Z0j) (f2 oIx (Zb 1) (fC (.int 0))))) (Z7g (Z3 (ZK 5) (Z3 (ZK 0) Z02)))
   [some (Dv.th (RT R0)),some (Dv.th (tS w)),x2,some (Dv.th (.int (p:Int)))] (numbered k (R.map rTh))=some ((Z2u w p k R).map Z5x)
 |[],k=>rfl
 |r::R,k=>by
  have ih:=Zso (R0:=R0) (p:=p) hw (x2:=x2) R (k+1)
  rw[ZJ]
  unfold L2.numbered Z46
  have g:g2 (.tup [.int (k:Int),rTh r])=some [some (Dv.th (.int (k:Int))),some (Dv.th (rTh r))]:=rfl
  rw[g]
  simp only[ob_,ZO,Zz]
  have e1:ZU (fM1 (fun z y=>some (.bl (Z0z z y))) (fSl (Zb 3) (Z1C (ZK 5)) Z0j) (f2 oIx (Zb 1) (fC (.int 0)))) [some (Dv.th (.int (k:Int))),some (Dv.th (rTh r)),some (Dv.th (RT R0)),some (Dv.th (tS w)),x2,some (Dv.th (.int (p:Int)))]=some (Z1G r.1 w p):=by
   have e0:oIx (rTh r) (.int 0)=some (tS r.1):=rfl
   have e2:=Z79 w p (by lia)
   have e3:=Z9I (w.drop p) r.1
   simp only[ZU,fM1,f2,fSl,Z1C,Z0j,Zb,ZK,fC,gs_,gz_,ob_,e0,e2]
   simp only[tS,e3]
   rfl
  have e4:Z7g (Z3 (ZK 5) (Z3 (ZK 0) Z02)) [some (Dv.th (.int (k:Int))),some (Dv.th (rTh r)),some (Dv.th (RT R0)),some (Dv.th (tS w)),x2,some (Dv.th (.int (p:Int)))]=some (Z5x (p,k)):=ZlI rfl rfl
  have hc:Z2u w p k (r::R)=if Z1G r.1 w p=true then (p,k)::Z2u w p (k+1) R else Z2u w p (k+1) R:=rfl
  rw[e1,ob_,e4,hc]
  cases hs:Z1G r.1 w p with
  |true=>rw[ih];rfl
  |false=>rw[if_neg (by simp),if_neg (by simp)];exact ih
theorem Z8Z {R:List Ru}{w:W}(hn:R.length≤100)(hw:w.length≤1000):∀ (ps:List Nat) (acc:List Th) (x3:Option Dv),acc.length+ps.length*100≤900000 →
  ∃ y3,Z5P (Zbg 3) (Z1a 2 (f2 Z17 (Zb 2) (Z3O (Z29 g2 (Z6q (ZK 0)) (ZU (fM1 (fun z y=>some (.bl (Z0z z y))) (fSl (Zb 3) (Z1C (ZK 5)) Z0j) (f2 oIx (Zb 1) (fC (.int 0))))) (Z7g (Z3 (ZK 5) (Z3 (ZK 0) Z02))))))) (ps.map fun (k:Nat)=>Th.int (k:Int))
   [some (Dv.th (RT R)),some (Dv.th (tS w)),some (Dv.th (.lst acc)),x3]=some (.nx [some (Dv.th (RT R)),some (Dv.th (tS w)),some (Dv.th (.lst (acc++(ps.flatMap fun p=>Z2u w p 0 R).map Z5x))),y3])
 |[],acc,x3,_=>⟨x3,by simp[Z5P]⟩
 |p::ps,acc,x3,hz=>by
  have hr:=ZeB w p 0 R
  rw[Zp] at hz
  obtain⟨y3,ih⟩:=Z8Z hn hw ps (acc++(Z2u w p 0 R).map Z5x) (some (Dv.th (.int (p:Int)))) (by rw[Zd,Ze];lia)
  refine⟨y3,?_⟩
  rw[ZJ]
  unfold Z5P
  have g:Zbg 3 (.int (p:Int)) [some (Dv.th (RT R)),some (Dv.th (tS w)),some (Dv.th (.lst acc)),x3]=some [some (Dv.th (RT R)),some (Dv.th (tS w)),some (Dv.th (.lst acc)),some (Dv.th (.int (p:Int)))]:=rfl
  rw[g,ob_]
  have row:=Zso (R0:=R) (p:=p) hw (x2:=some (Dv.th (.lst acc))) R 0
  have c:Z29 g2 (Z6q (ZK 0)) (ZU (fM1 (fun z y=>some (.bl (Z0z z y))) (fSl (Zb 3) (Z1C (ZK 5)) Z0j) (f2 oIx (Zb 1) (fC (.int 0))))) (Z7g (Z3 (ZK 5) (Z3 (ZK 0) Z02)))
    [some (Dv.th (RT R)),some (Dv.th (tS w)),some (Dv.th (.lst acc)),some (Dv.th (.int (p:Int)))]=some ((Z2u w p 0 R).map Z5x):=by
   unfold Z29
   have ee:Z6q (ZK 0) [some (Dv.th (RT R)),some (Dv.th (tS w)),some (Dv.th (.lst acc)),some (Dv.th (.int (p:Int)))]=some (numbered 0 (R.map rTh)):=rfl
   rw[ee,ob_,if_pos (by rw[Z27,Ze];lia)]
   exact row
  have pl:=Z7Y (x:=acc) (y:=(Z2u w p 0 R).map Z5x) (by rw[Ze];lia)
  have st:Z1a 2 (f2 Z17 (Zb 2) (Z3O (Z29 g2 (Z6q (ZK 0)) (ZU (fM1 (fun z y=>some (.bl (Z0z z y))) (fSl (Zb 3) (Z1C (ZK 5)) Z0j) (f2 oIx (Zb 1) (fC (.int 0))))) (Z7g (Z3 (ZK 5) (Z3 (ZK 0) Z02))))))
    [some (Dv.th (RT R)),some (Dv.th (tS w)),some (Dv.th (.lst acc)),some (Dv.th (.int (p:Int)))]=some (.nx [some (Dv.th (RT R)),some (Dv.th (tS w)),some (Dv.th (.lst (acc++(Z2u w p 0 R).map Z5x))),some (Dv.th (.int (p:Int)))]):=by
   simp only[Z1a,f2,Zb,Z3O,c,gs_,gz_,ob_,Z2,pl,Z5,Z6]
  rw[st]
  simp only[ob_]
  rw[ih,Zm4,Z1e,Z7]
theorem Zf0 {R:List Ru}{w:W}(hn:R.length≤100)(hw:w.length≤1000):Z4w [RT R,tS w]=some (.lst ((Z0I R w).map Z5x)):=by
 obtain⟨y3,lp⟩:=Z8Z hn hw (Z0L w.length) [] none (by simp;lia)
 unfold Z4w Zbt
 refine Z1t rfl ?_
 refine (ZS (d':=[some (Dv.th (RT R)),some (Dv.th (tS w)),some (Dv.th (.lst [])),none]) rfl).trans ?_
 have hf:ZaC (Z2l (fCB Z3G (Z3 (Zb 1) Z02))) (Zbg 3) (Z1a 2 (f2 Z17 (Zb 2) (Z3O (Z29 g2 (Z6q (ZK 0)) (ZU (fM1 (fun z y=>some (.bl (Z0z z y))) (fSl (Zb 3) (Z1C (ZK 5)) Z0j) (f2 oIx (Zb 1) (fC (.int 0))))) (Z7g (Z3 (ZK 5) (Z3 (ZK 0) Z02)))))))
   [some (Dv.th (RT R)),some (Dv.th (tS w)),some (Dv.th (.lst [])),none]=some (.nx [some (Dv.th (RT R)),some (Dv.th (tS w)),some (Dv.th (.lst ((Z0I R w).map Z5x))),y3]):=by
  have hl:=len_str (x:=sL w) (by rw[Z8U];lia)
  have e:Z2l (fCB Z3G (Z3 (Zb 1) Z02)) [some (Dv.th (RT R)),some (Dv.th (tS w)),some (Dv.th (.lst [])),none]=some (L2.upTo w.length):=by
   simp only[Z2l,fCB,Z3,Z02,Zb,gs_,gz_,ob_,tS,hl]
   rw[if_pos (by rw[Z8U];lia),Z8U,Z16]
  rw[Z4o e,Zeu]
  have lp':=lp
  rw[Zz] at lp'
  exact lp'
 refine (ZS hf).trans ?_
 rfl
theorem Z6G {a b:W}(h:a.length+b.length≤1000000):Z17 (tS a) (tS b)=some (tS (a++b)):=by
 unfold tS
 rw[ZbP (by rw[Z8U,Z8U];exact h),Zpe]
theorem Z91 {a:W}(h:a.length≤1000000):Z3G [tS a]=some (.int (a.length:Int)):=by
 unfold tS
 rw[len_str (by rw[Z8U];exact h)]
 rfl
theorem Z8V {r:Ru}{w:W}{p:Nat}(hw:w.length≤10000)(h1:r.1.length≤10000)(h2:r.2.length≤10000):Z1I [rTh r,tS w,.int (p:Int)]=some (tS (chW r w p)):=by
 unfold Z1I Zan
 refine Z1t rfl ?_
 have e0:oIx (rTh r) (.int 0)=some (tS r.1):=rfl
 have e1:oIx (rTh r) (.int 1)=some (tS r.2):=rfl
 have s1:=Z9C w p (by lia)
 have s2:=Z79 w (p+r.1.length) (by lia)
 have l1:=Z91 (a:=r.1) (by lia)
 have p1:=Z6G (a:=w.take p) (b:=r.2) (by rw[ZA];lia)
 have p2:=Z6G (a:=w.take p++r.2) (b:=w.drop (p+r.1.length)) (by rw[Zd,ZA,ZM];omega)
 simp only[Z2H,f2,fSl,Z1C,Z0j,Zb,ZK,fC,fCB,Z3,Z02,Z2X,Z18,Zj,ZO,Zz,gs_,gz_,ob_,Z2,e0,e1,s1,l1,Z31,p1]
 rw[show ((p:Int)+(r.1.length:Int))=((p+r.1.length:Nat):Int) by rfl,s2]
 simp only[ob_,p2,Z2]
 rfl
theorem Zdp {R:List Ru}{r:Ru}{w:W}{p k:Nat}(hr:R[k]?=some r)(hw:w.length≤10000)(h1:r.1.length≤10000)(h2:r.2.length≤10000):Z2K [RT R,tS w,.int (p:Int),.int (k:Int)]=some (tS (chW r w p)):=by
 unfold Z2K Zaq
 refine Z1t rfl ?_
 have e0:=ZeA hr
 refine (ZS (d':=[some (Dv.th (RT R)),some (Dv.th (tS w)),some (Dv.th (.int (p:Int))),some (Dv.th (.int (k:Int))),some (Dv.th (tS r.1)),some (Dv.th (tS r.2))]) ?_).trans ?_
 ·simp only[ZqA,f2,Zb,Z2X,Z18,Zj,ZO,Zz,gs_,gz_,ob_,e0]
  rfl
 have s1:=Z9C w p (by lia)
 have s2:=Z79 w (p+r.1.length) (by lia)
 have l1:=Z91 (a:=r.1) (by lia)
 have p1:=Z6G (a:=w.take p) (b:=r.2) (by rw[ZA];lia)
 have p2:=Z6G (a:=w.take p++r.2) (b:=w.drop (p+r.1.length)) (by rw[Zd,ZA,ZM];lia)
 simp only[Z2H,f2,fSl,Z1C,Z0j,Zb,ZK,fC,fCB,Z3,Z02,gs_,gz_,ob_,Z2,s1,l1,Z31,p1]
 rw[show ((p:Int)+(r.1.length:Int))=((p+r.1.length:Nat):Int) by lia,s2]
 simp only[ob_,p2,Z2]
 rfl
noncomputable def chs (R:List Ru)(w:W)(xs:List (Nat×Nat)):List W:=xs.filterMap fun x=>(R[x.2]?).map fun r=>chW r w x.1
theorem Zi1:∀ l:List W,Z4T (l.map tS)=some (l.map sL)
 |[]=>rfl
 |a::l=>by
  show (Z4T (l.map tS)).map (sL a::·)=_
  rw[Zi1 l]
  rfl
noncomputable def Z8Y (R:List Ru)(w:W):List Str:=Z5Z (Sg.metS ((Z4u R w).map sL))
structure Zeb (R:List Ru):Prop where
 few:R.length≤100
 ok:∀ r∈R,r.1≠[]∧r.1.length≤1000∧r.2.length≤1000
theorem Zeb.ne {R:List Ru}(h:Zeb R):∀ r∈R,r.1≠[]:=fun r hr=>(h.ok r hr).1
theorem ZcH {R:List Ru}{w:W}(hS:Zeb R)(hw:w.length≤30):(Z4u R w).length≤3000:=by
 unfold Z4u
 have h1:=Zeo (fun x:Nat×Nat=>(R[x.2]?).map fun r=>chW r w x.1) (Z0I R w)
 have h2:=Z72 R w
 have h3:w.length*R.length≤30*100:=Z6o hw hS.few
 lia
theorem Za0 {R:List Ru}{w:W}(hS:Zeb R)(hw:w.length≤1000):∀ (xs:List (Nat×Nat)) (acc:List Th) (x3 x4:Option Dv),(∀ x∈xs,∃ r,R[x.2]?=some r)→acc.length+xs.length≤900000 →
  ∃ y3 y4,Z5P (Z45 3 4) (Z2a 2 (ZZ Z2K (Z3 (ZK 0) (Z3 (ZK 1) (Z3 (ZK 3) (Z3 (ZK 4) Z02)))))) (xs.map Z5x) [some (Dv.th (RT R)),some (Dv.th (tS w)),some (Dv.own acc),x3,x4] =
   some (.nx [some (Dv.th (RT R)),some (Dv.th (tS w)),some (Dv.own (acc++(chs R w xs).map tS)),y3,y4])
 |[],acc,x3,x4,_,_=>⟨x3,x4,by simp[Z5P,chs]⟩
 |x::xs,acc,x3,x4,hx,hz=>by
  obtain⟨r,hr⟩:=hx x Z4
  have hk:=hS.ok r (Z01 hr)
  have ce:=Zdp (p:=x.1) (w:=w) hr (by lia) (by lia) (by lia)
  rw[Zp] at hz
  obtain⟨y3,y4,ih⟩:=Za0 hS hw xs (acc++[tS (chW r w x.1)]) (some (Dv.th (.int (x.1:Int)))) (some (Dv.th (.int (x.2:Int)))) (fun y hy=>hx y (Z9 _ hy)) (by rw[Zd,Z4N];lia)
  refine⟨y3,y4,?_⟩
  rw[ZJ]
  unfold Z5P
  have g:Z45 3 4 (Z5x x) [some (Dv.th (RT R)),some (Dv.th (tS w)),some (Dv.own acc),x3,x4]=some [some (Dv.th (RT R)),some (Dv.th (tS w)),some (Dv.own acc),some (Dv.th (.int (x.1:Int))),some (Dv.th (.int (x.2:Int)))]:=rfl
  rw[g,ob_]
  have st:Z2a 2 (ZZ Z2K (Z3 (ZK 0) (Z3 (ZK 1) (Z3 (ZK 3) (Z3 (ZK 4) Z02))))) [some (Dv.th (RT R)),some (Dv.th (tS w)),some (Dv.own acc),some (Dv.th (.int (x.1:Int))),some (Dv.th (.int (x.2:Int)))] =
    some (.nx [some (Dv.th (RT R)),some (Dv.th (tS w)),some (Dv.own (acc++[tS (chW r w x.1)])),some (Dv.th (.int (x.1:Int))),some (Dv.th (.int (x.2:Int)))]):=by
   have hl:acc.length<1000000:=by lia
   simp only[Z2a,ZZ,Z3,Z02,ZK,gs_,gz_,ob_,ce,if_pos hl,Z5,Z6]
  rw[st]
  simp only[ob_]
  have hc:chs R w (x::xs)=chW r w x.1::chs R w xs:=by
   unfold chs
   rw[Z2Z,hr]
   rfl
  rw[ih,hc,ZJ,Z7]
  rfl
theorem Z6W {l:List W}(h:l.length<4000):Z9t [.lst (l.map tS)]=some ((Z5Z (Sg.metS (l.map sL))).map Th.str):=by
 show (Z4T (l.map tS)).bind _=_
 rw[Zi1,ob_,if_pos (by rw[Ze];exact h)]
theorem Z8x {R:List Ru}{w:W}(hS:Zeb R)(hw:w.length≤30):Z13 [RT R,tS w]=some (.lst ((Z8Y R w).map Th.str)):=by
 have hp:∀ x∈Z0I R w,∃ r,R[x.2]?=some r:=fun x hx=>let ⟨r,h,_⟩:=(Z2T hS.ne).mp hx;⟨r,h⟩
 have h2:=Z72 R w
 have h3:w.length*R.length≤30*100:=Z6o hw hS.few
 obtain⟨y3,y4,lp⟩:=Za0 (w:=w) hS (by lia) (Z0I R w) [] none none hp (by simp;lia)
 have pe:=Zf0 (R:=R) (w:=w) hS.few (by lia)
 unfold Z13 Ze4
 refine Z1t rfl ?_
 refine (ZS (d':=[some (Dv.th (RT R)),some (Dv.th (tS w)),some (Dv.own []),none,none]) rfl).trans ?_
 refine (ZS (d':=[some (Dv.th (RT R)),some (Dv.th (tS w)),some (Dv.own ((Z4u R w).map tS)),y3,y4]) ?_).trans ?_
 ·rw[Z4o (ts:=(Z0I R w).map Z5x) (by simp only[ZaN,ZZ,Z3,Z02,ZK,gs_,gz_,ob_,pe])]
  exact lp
 ·have se:=Z6W (l:=Z4u R w) (by have:=ZcH hS hw;lia)
  simp only[Z2H,Z3O,Z3Y,Z3,Z02,Zb,gs_,gz_,ob_,Z2,se]
  rfl
theorem Zgp {R:List Ru}{w:W}(hS:Zeb R)(hw:w.length≤1000):∀ (xs:List (Nat×Nat)),(∀ x∈xs,∃ r,R[x.2]?=some r) →
  Z46 g2 Z4A (ZZ Z1I (Z3 (f2 oIx (Zb 2) (Zb 1)) (Z3 (ZK 3) (Z3 (ZK 0) Z02)))) [some (Dv.th (RT R)),some (Dv.th (tS w))] (xs.map Z5x)=some ((chs R w xs).map tS)
 |[],_=>rfl
 |x::xs,hx=>by
  obtain⟨r,hr⟩:=hx x Z4
  have hk:=hS.ok r (Z01 hr)
  have ce:=Z8V (r:=r) (p:=x.1) (w:=w) (by lia) (by lia) (by lia)
  have ih:=Zgp hS hw xs fun y hy=>hx y (Z9 _ hy)
  have e0:=ZeA hr
  rw[ZJ]
  unfold Z46
  have g:g2 (Z5x x)=some [some (Dv.th (.int (x.1:Int))),some (Dv.th (.int (x.2:Int)))]:=rfl
  rw[g]
  have fe:ZZ Z1I (Z3 (f2 oIx (Zb 2) (Zb 1)) (Z3 (ZK 3) (Z3 (ZK 0) Z02))) [some (Dv.th (.int (x.1:Int))),some (Dv.th (.int (x.2:Int))),some (Dv.th (RT R)),some (Dv.th (tS w))]=some (tS (chW r w x.1)):=by
   simp only[ZZ,Z3,Z02,f2,ZK,Zb,gs_,gz_,ob_,e0,ce]
  simp only[ob_,ZO,Zz,Z4A,if_true,fe,ih]
  have hc:chs R w (x::xs)=chW r w x.1::chs R w xs:=by
   unfold chs
   rw[Z2Z,hr]
   rfl
  rw[hc,ZJ]
theorem Zlh {R:List Ru}{w:W}(hS:Zeb R)(hw:w.length≤30):Z5M [RT R,tS w]=some (.tup ((Z8Y R w).map Th.str)):=by
 have hp:∀ x∈Z0I R w,∃ r,R[x.2]?=some r:=fun x hx=>let ⟨r,h,_⟩:=(Z2T hS.ne).mp hx;⟨r,h⟩
 have h2:=Z72 R w
 have h3:w.length*R.length≤30*100:=Z6o hw hS.few
 have pe:=Zio (R:=R) (w:=w) hS.ne hS.few (by lia)
 have cp:=Zgp (w:=w) hS (by lia) (Z0I R w) hp
 have se:=Z6W (l:=Z4u R w) (by have:=ZcH hS hw;lia)
 unfold Z5M ZjJ
 refine Z1t rfl ?_
 have c:Z29 g2 (ZaN (ZZ Z4i (Z3 (ZK 0) (Z3 (ZK 1) Z02)))) Z4A (ZZ Z1I (Z3 (f2 oIx (Zb 2) (Zb 1)) (Z3 (ZK 3) (Z3 (ZK 0) Z02)))) [some (Dv.th (RT R)),some (Dv.th (tS w))]=some ((Z4u R w).map tS):=by
  unfold Z29
  have e:ZaN (ZZ Z4i (Z3 (ZK 0) (Z3 (ZK 1) Z02))) [some (Dv.th (RT R)),some (Dv.th (tS w))]=some ((Z0I R w).map Z5x):=by
   simp only[ZaN,ZZ,Z3,Z02,ZK,gs_,gz_,ob_,pe]
  rw[e,ob_,if_pos (by rw[Ze];lia)]
  exact cp
 show Z2H _ [some (Dv.th (RT R)),some (Dv.th (tS w))]=_
 simp only[Z2H,fCB,Z3,Z02,Z3O,Z3Y,c,ob_,Z2,se,Z4y]
 rfl
theorem Zlu (a b:W):ZaM (sL a) (sL b)=true↔ltW a b:=by
 unfold ZaM
 rw[decide_eq_true_eq]
 exact Iff.rfl
structure RR (R:List Ru):Prop where
 few:R.length≤8
 ok:∀ r∈R,Zat (sL r.1) (sL r.2)
theorem RR.small {R:List Ru}(h:RR R):Zeb R:=⟨ZR h.few (by decide),fun r hr=>by
 have z:=h.ok r hr
 have l1:1≤r.1.length:=z.l1
 have l6:r.1.length≤6:=z.l6
 have rl:r.2.length≤r.1.length:=z.rl
 exact⟨Z5t.mp (by assumption),by lia,by lia⟩⟩
theorem RR.lt {R:List Ru}(h:RR R):∀ r∈R,r.1≠[]∧ltW r.2 r.1:=fun r hr=>⟨h.small.ne r hr,(Zlu _ _).mp (h.ok r hr).less⟩
theorem RR.ne {R:List Ru}(h:RR R):∀ r∈R,r.1≠[]:=h.small.ne
theorem ZfQ:∀ {ts:List Th},(∀ t∈ts,Z6P t)→∃ R:List Ru,ts=R.map rTh∧∀ r∈R,Zat (sL r.1) (sL r.2)
 |[],_=>⟨[],rfl,fun _ h=>absurd h (by simp)⟩
 |t::ts,h=>by
  obtain⟨R,e,hR⟩:=ZfQ fun u hu=>h u (Z9 _ hu)
  obtain⟨l,r,rfl,ok⟩:=h t Z4
  refine⟨(l.cps.toList,r.cps.toList)::R,?_,fun q hq=>?_⟩
  ·rw[ZJ,← e]
   unfold rTh tS
   rw[Zez,Zez]
  ·rcases Zi.mp hq with rfl|hq
   ·rw[Zez,Zez];exact ok
   ·exact hR q hq
noncomputable def nxW (R:List Ru)(w:W):List W:=(Z8Y R w).map fun s=>s.cps.toList
theorem Zqh (R:List Ru)(w:W):(nxW R w).map sL=Z8Y R w:=by
 unfold nxW
 rw[Z1n]
 exact (Z2W fun s _=>Zez s).trans (Zs5 _)
theorem Zg5 (R:List Ru)(w:W):(Z8Y R w).map Th.str=(nxW R w).map tS:=by rw[Zj6,Zqh]
theorem Zbe {R:List Ru}{w y:W}:y∈nxW R w↔y∈Z4u R w:=by
 have h:∀ s:Str,s∈Z8Y R w↔s∈(Z4u R w).map sL:=fun s=>((Z4s _).1.mem_iff).trans Sg.mem_metS
 unfold nxW
 rw[ZT]
 constructor
 ·rintro⟨s,hs,rfl⟩
  obtain⟨v,hv,rfl⟩:=ZT.mp ((h s).mp hs)
  exact hv
 ·intro hy
  exact⟨sL y,(h _).mpr (ZT.mpr ⟨y,hy,rfl⟩),rfl⟩
theorem Zlf (R:List Ru)(w:W):(nxW R w).Nodup:=by
 have h:(Z8Y R w).Nodup:=(Z4s _).1.nodup_iff.mpr (Sg.metS_nodup _)
 rw[← Zqh] at h
 exact (Z1M.mp h).imp fun hne e=>hne (by rw[e])
theorem ZiX {R:List Ru}{w:W}(hR:RR R)(hw:w.length≤11):(nxW R w).length≤88:=by
 unfold nxW
 rw[Ze]
 have h1:(Z8Y R w).length=(Sg.metS ((Z4u R w).map sL)).length:=(Z4s _).1.length_eq
 have h2:=Sg.metS_len ((Z4u R w).map sL)
 rw[Ze] at h2
 have h3:(Z4u R w).length≤(Z0I R w).length:=Zeo _ _
 have h4:=Z72 R w
 have h5:w.length*R.length≤11*8:=Z6o hw hR.few
 lia
theorem Zoh {R:List Ru}(hR:RR R){w y:W}(h:y∈nxW R w):ltW y w:=by
 obtain⟨p,r,hr,hs,rfl⟩:=(Z81 hR.ne).mp (Zbe.mp h)
 obtain⟨k,hk,e1⟩:=Z2Y hr
 exact Zlr (x:=(p,k)) hR.lt (by rw[Zc hk,e1]) hs
theorem Z5O {R:List Ru}(hR:RR R):∀ x∈Z41,∀ y∈nxW R x,y∈Z41:=fun x hx y hy=>by
 obtain⟨h1,h2⟩:=Z2s.mp hx
 refine Z2s.mpr ⟨?_,?_⟩
 ·rcases Zoh hR hy with z|z
  ·lia
  ·lia
 ·obtain⟨p,r,hr,hs,rfl⟩:=(Z81 hR.ne).mp (Zbe.mp hy)
  have ra:Zkd r.2:=(hR.ok r hr).ra
  intro c hc
  unfold chW at hc
  rcases ZQ.mp hc with hc|hc
  ·rcases ZQ.mp hc with hc|hc
   ·exact h2 c (Z1A hc)
   ·exact ra c hc
  ·exact h2 c (Z0C hc)
theorem Zqi {R:List Ru}(hR:RR R){w:W}:nxW R w=[]↔Z0I R w=[]:=by
 constructor
 ·intro h
  cases hp:Z0I R w with
  |nil=>rfl
  |cons x l =>
   obtain⟨r,hr,hs⟩:=(Z2T hR.ne).mp (show x∈Z0I R w by rw[hp];exact Z4)
   have:chW r w x.1∈nxW R w:=Zbe.mpr ((Z81 hR.ne).mpr ⟨x.1,r,Z01 hr,hs,rfl⟩)
   rw[h] at this
   cases this
 ·intro h
  refine ZaH.mpr fun y hy=>?_
  have:=Zbe.mp hy
  unfold Z4u at this
  rw[h] at this
  cases this
theorem Zg4 {R:List Ru}(hR:RR R){w y:W}(hw:w∈Z41)(h:y∈nxW R w):val y<val w:=by
 refine Zp5 (Zoh hR h) fun c hc=>?_
 rcases (Z2s.mp (Z5O hR w hw y h)).2 c hc with rfl|rfl|rfl <;> decide
noncomputable def isE (R:List Ru)(x:W):Bool:=((nxW R x).length:Int) == 0
theorem Z8y {R:List Ru}{x:W}:isE R x=true↔nxW R x=[]:=by
 unfold isE
 rw[beq_iff_eq]
 constructor
 ·intro h
  exact Zfv.mp (by lia)
 ·intro h
  rw[h];rfl
theorem Z6U {c:FB}{F:FS}{d:Sd}(h:c d=some false):Z2E c F 1 d=some (.nx d):=by
 unfold Z2E;rw[h];rfl
theorem Z7S {c:FB}{F:FS}{n:Nat}{d d':Sd}{o:Out}(h:c d=some true)(hF:F d=some (.nx d'))(hn:Z2E c F n d'=some o):Z2E c F (n+1) d=some o:=by
 unfold Z2E;rw[h,ob_,if_pos rfl,hF];exact hn
noncomputable def ZdK (R:List Ru)(v:List W):List Th:=(Z5Z ((v.filter (isE R)).map sL)).map Th.str
theorem Znb (l:List W):Zde [.lst (l.map tS)]=some ((Z5Z (l.map sL)).map Th.str):=by
 show (if okT (l.map tS)=true then some (ZcI (l.map tS)) else none)=_
 rw[Zj6,if_pos (Zod _),Zi4]
noncomputable abbrev cB:FB:=ZU (f2 oLt (Zb 4) (fCB Z3G (Z3 (Zb 2) Z02)))
noncomputable abbrev bB:FS:=Z1L (Z1a 5 (ZZ Z13 (Z3 (ZK 0) (Z3 (f2 oIx (Zb 2) (Zb 4)) Z02))))
 (Z1L (fIf (ZU (f2 oEq (Zb 5) (fC (.lst [])))) (Z2a 3 (f2 oIx (Zb 2) (Zb 4))) Z0Y)
 (Z1L (Z1a 2 (f2 Z17 (Zb 2) (Z3O (Z29 g1 (Z2i (ZK 5)) (ZU (f2 (oIn true) (Zb 0) (Zb 3))) (ZK 0)))))
 (Z1a 4 (f2 Z17 (Zb 4) (fC (.int 1))))))
theorem Zc6 (x y:W):Z0W (tS y) (tS x)=decide (y=x):=by
 show (sL y == sL x)=_
 by_cases h:y=x
 ·subst h;simp
 ·rw[decide_eq_false h]
  exact beq_eq_false_iff_ne.mpr fun z=>h (Zmi z)
theorem ZjM {x:W}:∀ {l:List W},Z7D (tS x) (l.map tS)=decide (x∈l)
 |[]=>rfl
 |y::l=>by
  rw[ZJ,Z7D,ZjM,Zc6]
  by_cases h:y=x
  ·subst h;simp
  ·have h':¬ x=y:=fun z=>h z.symm
   simp[h,h']
theorem Zhn:∀ l:List W,dpL (l.map tS)=0
 |[]=>rfl
 |x::l=>by
  rw[ZJ,dpL,Zhn l]
  rfl
theorem ZqI {l:List W}{i:Nat}{x:W}(h:l[i]?=some x):oIx (.lst (l.map tS)) (.int (i:Int))=some (tS x):=by
 have hk:i<l.length:=(Zv.mp h).1
 show atI (l.map tS) (i:Int)=_
 rw[Z8c (by lia) (by rw[Ze];lia),Z16,Z0q,h]
 rfl
theorem Zhd {R:List Ru}(hR:RR R){s:W}(hs:s∈Z41){t0 t1:Option Dv}(h0:t0=some (.th (RT R))):∀ (m i:Nat) (v:List W),Zax (nxW R) s i v→265720-i=m→∀ x5:Option Dv,
  ∃ n v' y5,Zax (nxW R) s v'.length v'∧Z2E cB bB n [t0,t1,some (.th (.lst (v.map tS))),some (.own (((v.take i).filter (isE R)).map tS)),some (.th (.int (i:Int))),x5]=some (.nx [t0,t1,some (.th (.lst (v'.map tS))),some (.own ((v'.filter (isE R)).map tS)),some (.th (.int (v'.length:Int))),y5]):=by
 have U:=Z5O hR
 intro m
 induction m with
 |zero =>
  intro i v k em x5
  have hv:=Z4M k.nd (U:=Z41) fun y hy=>(k.vr y hy).mem U hs
  rw[Zce] at hv
  have hi:=k.le
  have e:i=v.length:=by lia
  subst e
  refine⟨1,v,x5,k,?_⟩
  rw[Z35]
  refine Z6U ?_
  have l1:Z3G [.lst (v.map tS)]=some (.int ((v.length:Nat):Int)):=by rw[Z68,Ze]
  simp only[cB,ZU,f2,fCB,Z3,Z02,Zb,gs_,gz_,ob_,l1,lt_int]
  simp
 |succ m ih =>
  intro i v k em x5
  have hv:=Z4M k.nd (U:=Z41) fun y hy=>(k.vr y hy).mem U hs
  rw[Zce] at hv
  have hi:=k.le
  have l1:Z3G [.lst (v.map tS)]=some (.int ((v.length:Nat):Int)):=by rw[Z68,Ze]
  by_cases e:i=v.length
  ·subst e
   refine⟨1,v,x5,k,?_⟩
   rw[Z35]
   refine Z6U ?_
   simp only[cB,ZU,f2,fCB,Z3,Z02,Zb,gs_,gz_,ob_,l1,lt_int]
   simp
  ·have hlt:i<v.length:=by lia
   obtain⟨x,hx⟩:∃ x,v[i]?=some x:=⟨_,Zc hlt⟩
   have xm:x∈v:=Z01 hx
   have xa:x∈Z41:=(k.vr x xm).mem U hs
   have x6:=(Z2s.mp xa).1
   have nl:=ZiX hR x6
   have k':=k.turn hx (Zlf R x)
   obtain⟨n,v',y5,q,en⟩:=ih (i+1) _ k' (by lia) (some (.th (.lst ((nxW R x).map tS))))
   refine⟨n+1,v',y5,q,Z7S ?_ ?_ en⟩
   ·simp only[cB,ZU,f2,fCB,Z3,Z02,Zb,gs_,gz_,ob_,l1,lt_int]
    have:((i:Nat):Int)<((v.length:Nat):Int):=by lia
    simp[hlt]
   have ne:=Z8x (R:=R) (w:=x) hR.small (by lia)
   rw[Zg5] at ne
   have ix:=ZqI hx
   have fl:((v.take i).filter (isE R)).length≤265720:=by
    have h1:=Z3q (isE R) (v.take i)
    have h2:=List.length_take_le i v
    have h3:(v.take i).length≤v.length:=by rw[ZA];lia
    lia
   have tk:(v++Zdf v (nxW R x)).take (i+1)=v.take i++[x]:=by
    rw[Z1i (by assumption),Zau,hx];rfl
   refine (ZS (d':=[t0,t1,some (.th (.lst (v.map tS))),some (.own (((v.take i).filter (isE R)).map tS)),some (.th (.int (i:Int))),some (.th (.lst ((nxW R x).map tS)))]) ?_).trans ?_
   ·subst h0
    simp only[Z1a,ZZ,Z3,Z02,ZK,f2,Zb,gs_,gz_,ob_,Z2,ix,ne,Z5,Z6]
   refine (ZS (d':=[t0,t1,some (.th (.lst (v.map tS))),some (.own (((v.take i++[x]).filter (isE R)).map tS)),some (.th (.int (i:Int))),some (.th (.lst ((nxW R x).map tS)))]) ?_).trans ?_
   ·have ee:oEq (.lst ((nxW R x).map tS)) (.lst [])=some (.bl (isE R x)):=by
     unfold oEq
     rw[if_pos (decide_eq_true (by show dpL ((nxW R x).map tS)+1≤100;rw[Zhn];exact ZoY _ _))]
     show some (Th.bl (Z5d _ _))=_
     cases hn:nxW R x with
     |nil =>
      have:=Z8y.mpr hn
      rw[this];rfl
     |cons a l =>
      have:isE R x=false:=by
       cases hz:isE R x with
       |false=>rfl
       |true=>rw[Z8y.mp hz] at hn;cases hn
      rw[this];rfl
    simp only[fIf,ZU,f2,Zb,fC,gs_,gz_,ob_,ee]
    cases hz:isE R x with
    |true =>
     have z:(((v.take i).filter (isE R)).map tS).length<1000000:=by rw[Ze];lia
     simp only[if_true,Z2a,f2,Zb,gs_,gz_,ob_,ix,if_pos z,Z5,Z6,Zk9,Z1e,Z53,hz,ZoS,ZJ,Z5Y]
    |false =>
     simp only[Zu,if_false,Z0Y,Zk9,Z53,hz,ZoS,Z1z]
   refine (ZS (d':=[t0,t1,some (.th (.lst ((v++Zdf v (nxW R x)).map tS))),some (.own (((v.take i++[x]).filter (isE R)).map tS)),some (.th (.int (i:Int))),some (.th (.lst ((nxW R x).map tS)))]) ?_).trans ?_
   ·have c:=Z5l (fi:=Z2i (ZK 5)) (ft:=ZU (f2 (oIn true) (Zb 0) (Zb 3))) (q:=fun t=>!Z7D t (v.map tS)) (ts:=(nxW R x).map tS)
     (d:=[t0,t1,some (.th (.lst (v.map tS))),some (.own (((v.take i++[x]).filter (isE R)).map tS)),some (.th (.int (i:Int))),some (.th (.lst ((nxW R x).map tS)))]) rfl (by rw[Ze];lia) fun t ht=>by
      have ei:oIn true t (.lst (v.map tS))=some (.bl (!Z7D t (v.map tS))):=by
       simp only[oIn,Zhn,if_true]
       rfl
      simp only[ZU,f2,Zb,gs_,gz_,ob_,ei]
    have c2:((nxW R x).map tS).filter (fun t=>!Z7D t (v.map tS))=(Zdf v (nxW R x)).map tS:=by
     rw[Zcj]
     unfold Zdf
     congr 1
     refine List.filter_congr fun y _=>?_
     show (!Z7D (tS y) (v.map tS))=_
     rw[ZjM]
     by_cases h:y∈v <;> simp[h]
    rw[c2] at c
    have nw:(Zdf v (nxW R x)).length≤88:=ZR (Z3q _ _) nl
    have p:=Z7Y (x:=v.map tS) (y:=(Zdf v (nxW R x)).map tS) (by rw[Ze,Ze];lia)
    simp only[Z1a,f2,Zb,Z3O,gs_,gz_,ob_,Z2,c,p,Z5,Z6,Z1e]
   ·rw[← tk]
    simp only[Z1a,f2,Zb,fC,gs_,gz_,ob_,Z2,Z31,Z5,Z6]
    rfl
theorem Zdo {R:List Ru}(hR:RR R){w:W}(hw:w∈Z41):∃ v,Zax (nxW R) w v.length v∧Z3M [RT R,tS w]=some (.tup (ZdK R v)):=by
 have k0:Zax (nxW R) w 0 [w]:=⟨by simp,Z0r _,(fun x h=>by rw[Z0c] at h;subst h;exact .refl _),(fun x h=>nomatch h),by simp⟩
 obtain⟨n,v,y5,k,e⟩:=Zhd hR hw (t0:=some (.th (RT R))) (t1:=some (.th (tS w))) rfl 265720 0 [w] k0 rfl none
 refine⟨v,k,?_⟩
 unfold Z3M Zgy
 refine Z1t rfl ?_
 refine (ZS (d':=[some (.th (RT R)),some (.th (tS w)),some (.th (.lst ([w].map tS))),none,none,none]) rfl).trans ?_
 refine (ZS (d':=[some (.th (RT R)),some (.th (tS w)),some (.th (.lst ([w].map tS))),some (.own []),none,none]) rfl).trans ?_
 refine (ZS (d':=[some (.th (RT R)),some (.th (tS w)),some (.th (.lst ([w].map tS))),some (.own []),some (.th (.int 0)),none]) rfl).trans ?_
 refine (ZS (Z6L e)).trans ?_
 simp only[Z2H,fCB,Z3,Z02,Z3O,Za8,Zb,gs_,gz_,ob_,Z2,Znb,Z4y]
 rfl
theorem Zlo {R:List Ru}{v:List W}{y:W}(h:y∈v)(hn:nxW R y=[]):tS y∈ZdK R v:=by
 unfold ZdK
 refine ZT.mpr ⟨sL y,(Z4s _).1.mem_iff.mpr (ZT.mpr ⟨y,Z10.mpr ⟨h,Z8y.mpr hn⟩,rfl⟩),rfl⟩
noncomputable def Z87 (w:W):Nat→List Ru→List Th
 |_,[]=>[]
 |k,r::R=>.tup [.int (Zk0 (Z1x r.1 w 0)),.int (k:Int)]::Z87 w (k+1) R
theorem ZdG (w:W):∀ (k:Nat) (R:List Ru),(Z87 w k R).length=R.length
 |_,[]=>rfl
 |k,r::R=>by
  show (Z87 w (k+1) R).length+1=_
  rw[ZdG w (k+1) R]
  rfl
theorem Zgg {R0:List Ru}{w:W}{x2 x3:Option Dv}:∀ (R:List Ru) (k:Nat),(∀ r∈R,r.1≠[]) →
  Z46 g2 Z4A (Z7g (Z3 (fM1 (fun z y=>some (.int (Z5n z y))) (Zb 3) (f2 oIx (Zb 1) (fC (.int 0)))) (Z3 (ZK 0) Z02))) [some (Dv.th (RT R0)),some (Dv.th (tS w)),x2,x3] (numbered k (R.map rTh))=some (Z87 w k R)
 |[],k,_=>rfl
 |r::R,k,h=>by
  have ih:=Zgg (R0:=R0) (w:=w) (x2:=x2) (x3:=x3) R (k+1) fun q hq=>h q (Z9 _ hq)
  rw[ZJ]
  unfold L2.numbered Z46
  have g:g2 (.tup [.int (k:Int),rTh r])=some [some (Dv.th (.int (k:Int))),some (Dv.th (rTh r))]:=rfl
  rw[g]
  simp only[ob_,ZO,Zz]
  have e1:fM1 (fun z y=>some (.int (Z5n z y))) (Zb 3) (f2 oIx (Zb 1) (fC (.int 0))) [some (Dv.th (.int (k:Int))),some (Dv.th (rTh r)),some (Dv.th (RT R0)),some (Dv.th (tS w)),x2,x3]=some (.int (Zk0 (Z1x r.1 w 0))):=by
   have e0:oIx (rTh r) (.int 0)=some (tS r.1):=rfl
   have e3:=Zjr (w:=w) (h r Z4)
   simp only[fM1,f2,Zb,fC,gs_,gz_,ob_,e0]
   simp only[tS,e3]
  have e4:=ZlI (a:=fM1 (fun z y=>some (.int (Z5n z y))) (Zb 3) (f2 oIx (Zb 1) (fC (.int 0)))) (b:=ZK 0) (d:=[some (Dv.th (.int (k:Int))),some (Dv.th (rTh r)),some (Dv.th (RT R0)),some (Dv.th (tS w)),x2,x3]) (y:=.int (k:Int)) e1 rfl
  rw[e4,ih]
  rfl
theorem Za7 (w:W):∀ (k:Nat) (R:List Ru),(Z87 w k R).filter (fun t=>match t with|.tup [.int i,_]=>decide (0≤i)|_=>false)=(Z7h w k R).map Z5x
 |_,[]=>rfl
 |k,r::R=>by
  have ih:=Za7 w (k+1) R
  rw[show Z87 w k (r::R)=.tup [.int (Zk0 (Z1x r.1 w 0)),.int (k:Int)]::Z87 w (k+1) R from rfl,Z53,ih]
  rw[show Z7h w k (r::R)=(match Z1x r.1 w 0 with|some p=>(p,k)::Z7h w (k+1) R|none=>Z7h w (k+1) R) from rfl]
  cases hf:Z1x r.1 w 0 with
  |none=>rfl
  |some p =>
   have:decide ((0:Int)≤Zk0 (some p))=true:=decide_eq_true (by show (0:Int)≤(p:Int);lia)
   simp only[this,if_true]
   rfl
theorem ZdF {w:W}{t:Th}:∀ {k:Nat} {R:List Ru},t∈Z87 w k R→∃ (i:Int) (j:Nat),t=.tup [.int i,.int (j:Int)]
 |_,[],h=>nomatch h
 |k,r::R,h=>by
  rcases Zi.mp (show t∈_::Z87 w (k+1) R from h) with rfl|h
  ·exact⟨_,_,rfl⟩
  ·exact ZdF h
noncomputable def foT:Option W→Th
 |some y=>tS y
 |none=>.non
theorem Z69 {R:List Ru}{w:W}(hR:RR R)(hw:w.length≤30):Z1s [RT R,tS w]=some (foT (Z3X R w)):=by
 have hS:=hR.small
 have few:=hR.few
 unfold Z1s Z98
 refine Z1t rfl ?_
 refine (ZS (d':=[some (.th (RT R)),some (.th (tS w)),some (.th (.lst (Z87 w 0 R))),none]) ?_).trans ?_
 ·have c:Z29 g2 (Z6q (ZK 0)) Z4A (Z7g (Z3 (fM1 (fun z y=>some (.int (Z5n z y))) (Zb 3) (f2 oIx (Zb 1) (fC (.int 0)))) (Z3 (ZK 0) Z02))) [some (Dv.th (RT R)),some (Dv.th (tS w)),none,none]=some (Z87 w 0 R):=by
   unfold Z29
   have ee:Z6q (ZK 0) [some (Dv.th (RT R)),some (Dv.th (tS w)),none,none]=some (numbered 0 (R.map rTh)):=rfl
   rw[ee,ob_,if_pos (by rw[Z27,Ze];lia)]
   exact Zgg R 0 hR.ne
  show Z1a 2 _ [some (Dv.th (RT R)),some (Dv.th (tS w)),none,none]=_
  simp only[Z1a,Z3O,c,Z2,Z5,Z6]
 refine (ZS (d':=[some (.th (RT R)),some (.th (tS w)),some (.th (.lst (Z87 w 0 R))),some (.th (match (Z0I R w).head? with|some x=>Z5x x|none=>.non))]) ?_).trans ?_
 ·have c:=Z5l (fi:=Z2i (ZK 2)) (ft:=ZU (f2 oGe (f2 oIx (Zb 0) (fC (.int 0))) (fC (.int 0)))) (q:=fun t=>match t with|.tup [.int i,_]=>decide (0≤i)|_=>false) (ts:=Z87 w 0 R)
   (d:=[some (.th (RT R)),some (.th (tS w)),some (.th (.lst (Z87 w 0 R))),none]) rfl (by rw[ZdG];lia) fun t ht=>by
    obtain⟨i,j,rfl⟩:=ZdF ht
    have e0:oIx (.tup [.int i,.int (j:Int)]) (.int 0)=some (.int i):=rfl
    simp only[ZU,f2,Zb,fC,gz_,ob_,e0,ge_int]
  rw[Za7] at c
  have hc:=Zjo hR.ne w
  simp only[Z1a,Zjt,Z3,Z02,Z3O,c,fC,ob_,Z2,hc,Z5,Z6] <;> rfl
 cases hp:Z0I R w with
 |nil =>
  have:Z3X R w=none:=by unfold Z3X;rw[hp];rfl
  rw[this]
  rfl
 |cons x l =>
  obtain⟨r,hr,hs⟩:=(Z2T hR.ne).mp (show x∈Z0I R w by rw[hp];exact Z4)
  have:Z3X R w=some (chW r w x.1):=by
   unfold Z3X
   rw[hp]
   show (R[x.2]?).map _=_
   rw[hr]
   rfl
  rw[this]
  have ok:=hS.ok r (Z01 hr)
  have pe:=Z8V (r:=r) (w:=w) (p:=x.1) (by lia) (by lia) (by lia)
  have ra:=ZeA hr
  have i1:oIx (Z5x x) (.int 1)=some (.int (x.2:Int)):=rfl
  have i0:oIx (Z5x x) (.int 0)=some (.int (x.1:Int)):=rfl
  have nn:Z8v false (Z5x x) .non=some (.bl false):=rfl
  simp only[ZoQ,Z2H,fIf,ZU,f2,Zb,ZK,fC,ZZ,Z3,Z02,gs_,gz_,ob_,Z2,nn,Zu,if_false,i1,i0,ra,pe]
  rfl
theorem Z50 {R:List Ru}(hR:RR R){w y:W}(h:Z3X R w=some y):y∈nxW R w:=Zbe.mpr (Zhj hR.ne h)
theorem Zgj {R:List Ru}(hR:RR R):∀ (n:Nat) (w:W),w∈Z41→val w=n→∃ y,Zep R w y:=by
 intro n
 induction n using Z7O with
 |ind n ih =>
  intro w hw e
  cases h:Z3X R w with
  |none=>exact⟨w,.stop h⟩
  |some y =>
   have hy:=Z50 hR h
   obtain⟨z,r⟩:=ih (val y) (by rw[← e];exact Zg4 hR hw hy) y (Z5O hR w hw y hy) rfl
   exact⟨z,.go h r⟩
theorem Zep.reach {R:List Ru}(hR:RR R){s w y:W}(d:Zep R w y):Rch (nxW R) s w→Rch (nxW R) s y∧nxW R y=[]:=by
 induction d with
 |stop h=>exact fun r=>⟨r,(Zqi hR).mpr (Zhk hR.ne h)⟩
 |go h _ ih=>exact fun r=>ih (.step r (Z50 hR h))
noncomputable abbrev bD:FS:=Z1L (Z1a 1 (ZK 2)) (Z1a 2 (ZZ Z1s (Z3 (ZK 0) (Z3 (ZK 1) Z02))))
theorem ZlO {R:List Ru}(hR:RR R){w y:W}(d:Zep R w y):w∈Z41 →
  ∃ n,Z2E (ZU (f2 (Z8v true) (Zb 2) (fC .non))) bD n [some (.th (RT R)),some (.th (tS w)),some (.th (foT (Z3X R w)))]=some (.nx [some (.th (RT R)),some (.th (tS y)),some (.th .non)]):=by
 induction d with
 |stop h =>
  intro _
  rw[h]
  exact⟨1,Z6U rfl⟩
 |@go w y z h _ ih =>
  intro hw
  have hy:=Z5O hR w hw y (Z50 hR h)
  obtain⟨n,e⟩:=ih hy
  rw[h]
  have fe:=Z69 (w:=y) hR (by have:=(Z2s.mp hy).1;lia)
  refine⟨n+1,Z7S rfl ?_ e⟩
  refine (ZS (d':=[some (.th (RT R)),some (.th (tS y)),some (.th (tS y))]) rfl).trans ?_
  simp only[Z1a,ZZ,Z3,Z02,ZK,gs_,gz_,ob_,Z2,fe,Z5,Z6]
theorem ZqD {R:List Ru}(hR:RR R){w y:W}(hw:w∈Z41)(d:Zep R w y):Z5p [RT R,tS w]=some (tS y):=by
 obtain⟨n,e⟩:=ZlO hR d hw
 have fe:=Z69 (w:=w) hR (by have:=(Z2s.mp hw).1;lia)
 unfold Z5p ZqH
 refine Z1t rfl ?_
 refine (ZS (d':=[some (.th (RT R)),some (.th (tS w)),some (.th (foT (Z3X R w)))]) ?_).trans ?_
 ·show Z1a 2 _ [some (.th (RT R)),some (.th (tS w)),none]=_
  simp only[Z1a,ZZ,Z3,Z02,ZK,gs_,gz_,ob_,Z2,fe,Z5,Z6]
 refine (ZS (Z6L e)).trans ?_
 rfl
theorem Zh2 {l m:W}{p:Nat}(hl:l.length≤10000)(hm:m.length≤10000):Z4j [tS l,tS m,.int (p:Int)]=some (tS (ovW l m p)):=by
 unfold Z4j Ze2
 refine Z1t rfl ?_
 have s1:=Z9C l p (by lia)
 have s2:=Z79 l (p+m.length) (by lia)
 have l1:=Z91 (a:=m) (by lia)
 have p1:=Z6G (a:=l.take p) (b:=m) (by rw[ZA];lia)
 have p2:=Z6G (a:=l.take p++m) (b:=l.drop (p+m.length)) (by rw[Zd,ZA,ZM];omega)
 simp only[Z2H,f2,fSl,Z1C,Z0j,Zb,ZK,fC,fCB,Z3,Z02,Z2X,Z18,Zj,ZO,Zz,gs_,gz_,ob_,Z2,s1,l1,Z31,p1]
 rw[show ((p:Int)+(m.length:Int))=((p+m.length:Nat):Int) by rfl,s2]
 simp only[ob_,p2,Z2]
 rfl
theorem ZeO {l m:W}{st:Nat}(hl:l.length≤10000)(hm:m.length≤10000)(hs:st≤1):Z3L [tS l,tS m,.int (st:Int)]=some (.lst ((ZhE l m st).map tS)):=by
 unfold Z3L Zbr
 refine Z1t rfl ?_
 have e1:Z7z (ZK 2) (fCB Z3G (Z3 (Zb 0) Z02)) [some (Dv.th (tS l)),some (Dv.th (tS m)),some (Dv.th (.int (st:Int))),none]=some (Z5B (st:Int) (l.length-st)):=by
  have l1:=Z91 (a:=l) (by lia)
  have hb:-1000000≤(st:Int)∧(st:Int)≤1000000∧-1000000≤(l.length:Int)∧(l.length:Int)≤1000000:=by lia
  simp only[Z7z,fCB,Z3,Z02,ZK,Zb,gs_,gz_,ob_,l1,if_pos hb]
  rw[show ((l.length:Int)-(st:Int)).toNat=l.length-st by simp]
 have eu:Z5B (st:Int) (l.length-st)=(Z2g st (l.length-st)).map fun (i:Nat)=>Th.int (i:Int):=by
  unfold Z5B
  rw[List.range'_eq_map_range,Z1n]
  refine Z2W fun k _=>?_
  show Th.int ((st:Int)+(k:Int))=Th.int ((st+k:Nat):Int)
  rw[Zcv]
 refine (ZS (d':=[some (Dv.th (tS l)),some (Dv.th (tS m)),some (Dv.th (.int (st:Int))),some (Dv.th (.lst (((Z2g st (l.length-st)).map (ovW l m)).map tS)))]) ?_).trans ?_
 ·have c:=ZdI (fi:=Z7z (ZK 2) (fCB Z3G (Z3 (Zb 0) Z02))) (fe:=ZZ Z4j (Z3 (ZK 1) (Z3 (ZK 2) (Z3 (ZK 0) Z02)))) (p:=fun t=>match t with|.int i=>tS (ovW l m i.toNat)|_=>.non) e1
   (by unfold Z5B;rw[Ze,Z2c];lia) fun t ht=>by
    rw[eu] at ht
    obtain⟨i,-,rfl⟩:=ZT.mp ht
    have oe:=Zh2 (p:=i) hl hm
    simp only[ZZ,Z3,Z02,ZK,gs_,gz_,ob_,oe,Z16]
  have e2:(Z5B (st:Int) (l.length-st)).map (fun t=>match t with|.int i=>tS (ovW l m i.toNat)|_=>.non)=((Z2g st (l.length-st)).map (ovW l m)).map tS:=by
   rw[eu,Z1n,Z1n]
   exact Z2W fun i _=>rfl
  rw[e2] at c
  show Z1a 3 _ [some (Dv.th (tS l)),some (Dv.th (tS m)),some (Dv.th (.int (st:Int))),none]=_
  simp only[Z1a,Z3O,c,Z2,Z5,Z6]
 ·have c:=Z5l (fi:=Z2i (ZK 3)) (ft:=ZU (fM1 (fun z y=>some (.bl (Z0z z y))) (Zb 0) (Zb 1))) (q:=fun t=>match t with|.str x=>l.isPrefixOf x.cps.toList|_=>false)
   (ts:=((Z2g st (l.length-st)).map (ovW l m)).map tS) (d:=[some (Dv.th (tS l)),some (Dv.th (tS m)),some (Dv.th (.int (st:Int))),some (Dv.th (.lst (((Z2g st (l.length-st)).map (ovW l m)).map tS)))])
   rfl (by rw[Ze,Ze,Z9l];lia) fun t ht=>by
    obtain⟨u,-,rfl⟩:=ZT.mp ht
    have e:=Z9I u l
    simp only[ZU,fM1,f2,Zb,tS,gs_,gz_,ob_,e]
    rfl
  have e2:(((Z2g st (l.length-st)).map (ovW l m)).map tS).filter (fun t=>match t with|.str x=>l.isPrefixOf x.cps.toList|_=>false)=(ZhE l m st).map tS:=by
   rw[Zcj]
   rfl
  rw[e2] at c
  simp only[Z2H,Z3O,c,Z2]
noncomputable abbrev bC:FS:=Z51 1 (ZZ Z3L (Z3 (f2 oIx (Zb 3) (fC (.int 0))) (Z3 (f2 oIx (Zb 5) (fC (.int 0))) (Z3 (fIf (ZU (f2 oEq (Zb 2) (Zb 4))) (fC (.int 1)) (fC (.int 0))) Z02))))
theorem ZfR {t0:Option Dv}{a:Ru}{i:Nat}(ha:a.1.length≤100):∀ (R:List Ru) (j:Nat) (acc:List Th) (x4 x5:Option Dv),(∀ r∈R,r.1.length≤100)→acc.length+R.length*100≤900000 →
  ∃ y4 y5,Z5P (Z45 4 5) bC (numbered j (R.map rTh)) [t0,some (Dv.own acc),some (Dv.th (.int (i:Int))),some (Dv.th (rTh a)),x4,x5] =
   some (.nx [t0,some (Dv.own (acc++(Z7A a i j R).map tS)),some (Dv.th (.int (i:Int))),some (Dv.th (rTh a)),y4,y5])
 |[],j,acc,x4,x5,_,_=>⟨x4,x5,by simp[L2.numbered,Z5P,Z7A]⟩
 |b::R,j,acc,x4,x5,hR,hz=>by
  have hb:=hR b Z4
  rw[Zp] at hz
  have oe:=ZeO (l:=a.1) (m:=b.1) (st:=if i=j then 1 else 0) (by lia) (by lia) (by split <;> simp)
  have ol:=ZiF a.1 b.1 (if i=j then 1 else 0)
  obtain⟨y4,y5,ih⟩:=ZfR (t0:=t0) (i:=i) ha R (j+1) (acc++(ZhE a.1 b.1 (if i=j then 1 else 0)).map tS) (some (Dv.th (.int (j:Int)))) (some (Dv.th (rTh b))) (fun q hq=>hR q (Z9 _ hq)) (by
   rw[Zd,Ze];lia)
  refine⟨y4,y5,?_⟩
  rw[ZJ]
  unfold L2.numbered Z5P
  have g:Z45 4 5 (.tup [.int (j:Int),rTh b]) [t0,some (Dv.own acc),some (Dv.th (.int (i:Int))),some (Dv.th (rTh a)),x4,x5]=some [t0,some (Dv.own acc),some (Dv.th (.int (i:Int))),some (Dv.th (rTh a)),some (Dv.th (.int (j:Int))),some (Dv.th (rTh b))]:=rfl
  rw[g,ob_]
  have x:bC [t0,some (Dv.own acc),some (Dv.th (.int (i:Int))),some (Dv.th (rTh a)),some (Dv.th (.int (j:Int))),some (Dv.th (rTh b))] =
    some (.nx [t0,some (Dv.own (acc++(ZhE a.1 b.1 (if i=j then 1 else 0)).map tS)),some (Dv.th (.int (i:Int))),some (Dv.th (rTh a)),some (Dv.th (.int (j:Int))),some (Dv.th (rTh b))]):=by
   have e0:oIx (rTh a) (.int 0)=some (tS a.1):=rfl
   have e1:oIx (rTh b) (.int 0)=some (tS b.1):=rfl
   have e2:(fIf (ZU (f2 oEq (Zb 2) (Zb 4))) (fC (.int 1)) (fC (.int 0)):FD) [t0,some (Dv.own acc),some (Dv.th (.int (i:Int))),some (Dv.th (rTh a)),some (Dv.th (.int (j:Int))),some (Dv.th (rTh b))]=some (.int ((if i=j then 1 else 0:Nat):Int)):=by
    simp only[fIf,ZU,f2,Zb,fC,gs_,gz_,ob_,eq_int]
    by_cases h:i=j
    ·subst h;simp
    ·have:((i:Int) == (j:Int))=false:=beq_eq_false_iff_ne.mpr fun z=>h (by lia)
     rw[this,if_neg h];rfl
   have hz1:acc.length+((ZhE a.1 b.1 (if i=j then 1 else 0)).map tS).length≤1000000:=by rw[Ze];lia
   simp only[bC,Z51,ZZ,Z3,Z02,e2]
   simp only[f2,Zb,fC,gs_,gz_,ob_,e0,e1,oe,ZcK,if_pos hz1,Z5,Z6]
  rw[x]
  simp only[ob_]
  rw[ih]
  have hc:Z7A a i j (b::R)=ZhE a.1 b.1 (if i=j then 1 else 0)++Z7A a i (j+1) R:=rfl
  rw[hc,Z1e,Z7]
theorem ZgA {R0:List Ru}(h0:∀ r∈R0,r.1.length≤100)(h8:R0.length≤8):∀ (R:List Ru) (i:Nat) (acc:List Th) (x2 x3 x4 x5:Option Dv),(∀ r∈R,r.1.length≤100)→acc.length+R.length*800≤800000 →
  ∃ y2 y3 y4 y5,Z5P (Z45 2 3) (ZaC (Z6q (ZK 0)) (Z45 4 5) bC) (numbered i (R.map rTh)) [some (Dv.th (RT R0)),some (Dv.own acc),x2,x3,x4,x5] =
   some (.nx [some (Dv.th (RT R0)),some (Dv.own (acc++(Z5q R0 i R).map tS)),y2,y3,y4,y5])
 |[],i,acc,x2,x3,x4,x5,_,_=>⟨x2,x3,x4,x5,by simp[L2.numbered,Z5P,Z5q]⟩
 |a::R,i,acc,x2,x3,x4,x5,hR,hz=>by
  have ha:=hR a Z4
  rw[Zp] at hz
  have rl:=Zak (i:=i) ha (j:=0) (R:=R0)
  obtain⟨z4,z5,lp⟩:=ZfR (t0:=some (Dv.th (RT R0))) (i:=i) ha R0 0 acc x4 x5 h0 (by lia)
  obtain⟨y2,y3,y4,y5,ih⟩:=ZgA h0 h8 R (i+1) (acc++(Z7A a i 0 R0).map tS) (some (Dv.th (.int (i:Int)))) (some (Dv.th (rTh a))) z4 z5 (fun q hq=>hR q (Z9 _ hq)) (by
   rw[Zd,Ze];lia)
  refine⟨y2,y3,y4,y5,?_⟩
  rw[ZJ]
  unfold L2.numbered Z5P
  have g:Z45 2 3 (.tup [.int (i:Int),rTh a]) [some (Dv.th (RT R0)),some (Dv.own acc),x2,x3,x4,x5]=some [some (Dv.th (RT R0)),some (Dv.own acc),some (Dv.th (.int (i:Int))),some (Dv.th (rTh a)),x4,x5]:=rfl
  rw[g,ob_,Z4o (ts:=numbered 0 (R0.map rTh)) rfl,lp]
  simp only[ob_]
  rw[ih]
  have hc:Z5q R0 i (a::R)=Z7A a i 0 R0++Z5q R0 (i+1) R:=rfl
  rw[hc,Z1e,Z7]
noncomputable def ZoH (R:List Ru):List W:=(Z5Z (Sg.metS ((Z5q R 0 R).map sL))).map fun s=>s.cps.toList
theorem ZoG (R:List Ru):(Z5Z (Sg.metS ((Z5q R 0 R).map sL))).map Th.str=(ZoH R).map tS:=by
 have e:((Z5Z (Sg.metS ((Z5q R 0 R).map sL))).map fun s=>s.cps.toList).map sL=Z5Z (Sg.metS ((Z5q R 0 R).map sL)):=by
  rw[Z1n]
  exact (Z2W fun s _=>Zez s).trans (Zs5 _)
 rw[Zj6]
 unfold ZoH
 rw[e]
theorem ZeW {R:List Ru}{u:W}:u∈ZoH R↔ClW R u:=by
 have h:∀ s:Str,s∈Z5Z (Sg.metS ((Z5q R 0 R).map sL))↔s∈(Z5q R 0 R).map sL:=fun s=>((Z4s _).1.mem_iff).trans Sg.mem_metS
 rw[← Zql]
 unfold ZoH
 rw[ZT]
 constructor
 ·rintro⟨s,hs,rfl⟩
  obtain⟨v,hv,rfl⟩:=ZT.mp ((h s).mp hs)
  exact hv
 ·intro hy
  exact⟨sL u,(h _).mpr (ZT.mpr ⟨u,hy,rfl⟩),rfl⟩
theorem RR.l6 {R:List Ru}(hR:RR R):∀ r∈R,r.1.length≤6:=fun r hr=>(hR.ok r hr).l6
theorem Zjx {R:List Ru}(hR:RR R){u:W}(h:ClW R u):u∈Z41:=by
 obtain⟨h1,h2⟩:=ZoI (P:=fun c=>c=97∨c=98∨c=99) (n:=6) (fun r hr=>(hR.ok r hr).la) hR.l6 h
 exact Z2s.mpr ⟨by lia,h2⟩
theorem Zjz {R:List Ru}(hR:RR R):(Z5q R 0 R).length≤384:=by
 have h1:=ZdR (R0:=R) (i:=0) hR.l6
 have h2:=hR.few
 have h3:R.length*(R.length*6)≤8*(8*6):=Z6o h2 (Z5e _ h2)
 exact ZR (by assumption) (by assumption)
theorem Zhq {R:List Ru}(hR:RR R):Z4l [RT R]=some (.tup ((ZoH R).map tS)):=by
 have few:=hR.few
 have hl:∀ r∈R,r.1.length≤100:=fun r hr=>ZR (hR.l6 r hr) (by decide)
 obtain⟨y2,y3,y4,y5,lp⟩:=ZgA hl few R 0 [] none none none none hl (by simp;lia)
 unfold Z4l Ze7
 refine Z1t rfl ?_
 refine (ZS (d':=[some (Dv.th (RT R)),some (Dv.own []),none,none,none,none]) rfl).trans ?_
 refine (ZS (d':=[some (Dv.th (RT R)),some (Dv.own ((Z5q R 0 R).map tS)),y2,y3,y4,y5]) ?_).trans ?_
 ·rw[Z4o (ts:=numbered 0 (R.map rTh)) rfl]
  exact lp
 ·have se:=Z6W (l:=Z5q R 0 R) (by have:=Zjz hR;lia)
  simp only[Z2H,fCB,Z3,Z02,Z3O,Z3Y,Zb,gs_,gz_,ob_,Z2,se,Z4y,ZoG]
open Classical in
noncomputable def Z1T (R:List Ru)(w:W):W:=if h:∃ y,Zep R w y then h.choose else w
theorem Zfj {R:List Ru}{w y:W}(d:Zep R w y):Z1T R w=y:=by
 have h:∃ y,Zep R w y:=⟨y,d⟩
 unfold Z1T
 rw[dif_pos h]
 exact h.choose_spec.det d
theorem Zfi {R:List Ru}(hR:RR R){w:W}(hw:w∈Z41):Z5p [RT R,tS w]=some (tS (Z1T R w)):=by
 obtain⟨y,d⟩:=Zgj hR _ w hw rfl
 rw[Zfj d]
 exact ZqD hR hw d
theorem Z4R {R:List Ru}(hR:RR R){w:W}(hw:w∈Z41):Rch (nxW R) w (Z1T R w)∧nxW R (Z1T R w)=[]:=by
 obtain⟨y,d⟩:=Zgj hR _ w hw rfl
 rw[Zfj d]
 exact Zep.reach hR d (.refl w)
noncomputable def Zei (R:List Ru)(w:W):List Str:=Z5Z (Sg.metS (((nxW R w).map (Z1T R)).map sL))
theorem ZlM {R:List Ru}{w:W}:1<(Zei R w).length↔∃ y z,y∈nxW R w∧z∈nxW R w∧Z1T R y≠Z1T R z:=by
 have hm:∀ s:Str,s∈Zei R w↔s∈((nxW R w).map (Z1T R)).map sL:=fun s=>((Z4s _).1.mem_iff).trans Sg.mem_metS
 have hn:(Zei R w).Nodup:=(Z4s _).1.nodup_iff.mpr (Sg.metS_nodup _)
 constructor
 ·intro h
  obtain⟨a,b,ha,hb,hne⟩:=Zmc hn h
  rw[hm,Z1n,ZT] at ha hb
  obtain⟨y,hy,rfl⟩:=ha
  obtain⟨z,hz,rfl⟩:=hb
  exact⟨y,z,hy,hz,fun e=>hne (congrArg sL e)⟩
 ·rintro⟨y,z,hy,hz,hne⟩
  refine Zn6 (a:=sL (Z1T R y)) (b:=sL (Z1T R z)) ?_ ?_ fun e=>hne (Zmi e)
  ·rw[hm,Z1n,ZT];exact⟨y,hy,rfl⟩
  ·rw[hm,Z1n,ZT];exact⟨z,hz,rfl⟩
theorem ZqC {R:List Ru}(hR:RR R){w:W}(hw:w∈Z41):Z1h [RT R,tS w]=some (.tup ((Zei R w).map Th.str)):=by
 have w6:=(Z2s.mp hw).1
 have nl:=ZiX hR w6
 have ne:=Zlh (R:=R) (w:=w) hR.small (by lia)
 rw[Zg5] at ne
 unfold Z1h Z6N
 refine Z1t rfl ?_
 have c:=ZdI (fi:=Z2i (ZZ Z5M (Z3 (ZK 0) (Z3 (ZK 1) Z02)))) (fe:=ZZ Z5p (Z3 (ZK 1) (Z3 (ZK 0) Z02))) (p:=fun t=>match t with|.str x=>tS (Z1T R x.cps.toList)|_=>.non)
  (d:=[some (Dv.th (RT R)),some (Dv.th (tS w))]) (ts:=(nxW R w).map tS) (by simp only[Z2i,ZZ,Z3,Z02,ZK,gs_,gz_,ob_,ne];rfl) (by rw[Ze];lia) fun t ht=>by
   obtain⟨y,hy,rfl⟩:=ZT.mp ht
   have ee:=Zfi hR (Z5O hR w hw y hy)
   simp only[ZZ,Z3,Z02,ZK,gs_,gz_,ob_,ee]
   rfl
 have e2:((nxW R w).map tS).map (fun t=>match t with|.str x=>tS (Z1T R x.cps.toList)|_=>.non)=((nxW R w).map (Z1T R)).map tS:=by
  rw[Z1n,Z1n]
  exact Z2W fun i _=>rfl
 rw[e2] at c
 have se:=Z6W (l:=(nxW R w).map (Z1T R)) (by rw[Ze];lia)
 show Z2H _ [some (Dv.th (RT R)),some (Dv.th (tS w))]=_
 simp only[Z2H,fCB,Z3,Z02,Z3O,Z3Y,c,ob_,Z2,se,Z4y]
 rfl
theorem Z9O {w:W}(h:w.length≤1000000):Z64 [tS w]=some (.tup [.int (w.length:Int),tS w]):=by
 unfold Z64 ZmP
 refine Z1t rfl ?_
 have l1:=Z91 h
 have:=ZlI (a:=fCB Z3G (Z3 (Zb 0) Z02)) (b:=ZK 0) (d:=[some (Dv.th (tS w))]) (x:=.int (w.length:Int)) (y:=tS w) (by simp only[fCB,Z3,Z02,Zb,gz_,ob_,l1]) rfl
 show Z2H _ [some (Dv.th (tS w))]=_
 simp only[Z2H,this,Z2]
noncomputable def leR (a b:W):Prop:=a.length<b.length∨(a.length=b.length∧leS (sL a) (sL b))
theorem Zjd (a b:W):leR a b∨leR b a:=by
 unfold leR
 rcases Zdn (sL a) (sL b) with h|h
 ·rcases ZmT a.length b.length with q|q|q
  ·exact .inl (.inl q)
  ·exact .inl (.inr ⟨q,h⟩)
  ·exact .inr (.inl q)
 ·rcases ZmT a.length b.length with q|q|q
  ·exact .inl (.inl q)
  ·exact .inr (.inr ⟨q.symm,h⟩)
  ·exact .inr (.inl q)
theorem Zjc {a b c:W}(h:leR a b)(h':leR b c):leR a c:=by
 unfold leR at *
 rcases h with h|⟨h,q⟩
 ·rcases h' with h'|⟨h',q'⟩
  ·exact .inl (by exact ZaQ (by assumption) (by assumption))
  ·exact .inl (by lia)
 ·rcases h' with h'|⟨h',q'⟩
  ·exact .inl (by lia)
  ·exact .inr ⟨by lia,Zdm q q'⟩
open Classical in
theorem Zkv {l:List W}(hl:∀ w∈l,w.length≤1000000):∃ r:List W,r.Perm l∧ZcJ Z64 (l.map tS)=some (r.map tS):=by
 refine⟨l.mergeSort fun a b=>decide (leR a b),Z8E _ _,?_⟩
 have hp:=Z8E l (fun a b=>decide (leR a b))
 have h2:=Zfu (le:=fun a b=>decide (leR a b)) (fun a b c h h'=>by simp only[decide_eq_true_eq] at *;exact Zjc h h') (fun a b=>by simp only[Z2P,decide_eq_true_eq];exact Zjd a b) l
 refine ZfM ⟨?_,fun t ht=>?_,fun t ht u hu e=>?_⟩ (hp.map _) (Z1M.mpr (h2.imp_of_mem fun {a b} ha hb h=>?_))
 ·rw[ZaJ,Z54]
  intro x _
  rfl
 ·obtain⟨w,hw,rfl⟩:=ZT.mp ht
  exact⟨_,Z9O (hl w hw),rfl⟩
 ·obtain⟨w,hw,rfl⟩:=ZT.mp ht
  obtain⟨v,hv,rfl⟩:=ZT.mp hu
  rw[Z9O (hl w hw),Z9O (hl v hv)] at e
  injection e with e
  injection e with e
  injection e with _ e
  injection e with e _
 ·refine⟨_,_,Z9O (hl a (hp.mem_iff.mp ha)),Z9O (hl b (hp.mem_iff.mp hb)),.is ?_⟩
  rcases of_decide_eq_true h with q|⟨q,z⟩
  ·exact .inl (by lia)
  ·exact .inr ⟨by lia,z⟩
theorem Zbm {R:List Ru}(hR:RR R):∀ (r:List W) (x1:Option Dv),(∀ u∈r,u∈Z41) →
  (∃ u∈r,1<(Zei R u).length∧Z5P (Zbg 1) (fIf (ZU (f2 oGt (fCB Z3G (Z3 (ZZ Z1h (Z3 (ZK 0) (Z3 (ZK 1) Z02))) Z02)) (fC (.int 1)))) (Z2H (Zb 1)) Z0Y) (r.map tS) [some (Dv.th (RT R)),x1]=some (.rt (tS u)))
 ∨((∀ u∈r,¬ 1<(Zei R u).length)∧∃ y1,Z5P (Zbg 1) (fIf (ZU (f2 oGt (fCB Z3G (Z3 (ZZ Z1h (Z3 (ZK 0) (Z3 (ZK 1) Z02))) Z02)) (fC (.int 1)))) (Z2H (Zb 1)) Z0Y) (r.map tS) [some (Dv.th (RT R)),x1]=some (.nx [some (Dv.th (RT R)),y1]))
 |[],x1,_=>.inr ⟨(fun u h=>nomatch h),x1,rfl⟩
 |u::r,x1,hr=>by
  have ee:=ZqC hR (hr u Z4)
  have ih:=Zbm hR r (some (Dv.th (tS u))) fun v hv=>hr v (Z9 _ hv)
  have g:Zbg 1 (tS u) [some (Dv.th (RT R)),x1]=some [some (Dv.th (RT R)),some (Dv.th (tS u))]:=rfl
  have l1:Z3G [.tup ((Zei R u).map Th.str)]=some (.int ((Zei R u).length:Int)):=by rw[Zja,Ze]
  have x:(fIf (ZU (f2 oGt (fCB Z3G (Z3 (ZZ Z1h (Z3 (ZK 0) (Z3 (ZK 1) Z02))) Z02)) (fC (.int 1)))) (Z2H (Zb 1)) Z0Y:FS) [some (Dv.th (RT R)),some (Dv.th (tS u))] =
    if 1<(Zei R u).length then some (.rt (tS u)) else some (.nx [some (Dv.th (RT R)),some (Dv.th (tS u))]):=by
   simp only[fIf,ZU,f2,fCB,ZZ,Z3,Z02,ZK,Zb,fC,gs_,gz_,ob_,ee,l1,gt_int]
   by_cases h:1<(Zei R u).length
   ·have:((1:Int)<((Zei R u).length:Int)):=by lia
    rw[decide_eq_true this,if_pos h,if_pos rfl]
    rfl
   ·have:¬ ((1:Int)<((Zei R u).length:Int)):=by lia
    rw[decide_eq_false this,if_neg h,if_neg (by simp)]
    rfl
  rw[ZJ]
  unfold Z5P
  rw[g,ob_,x]
  by_cases h:1<(Zei R u).length
  ·rw[if_pos h]
   exact .inl ⟨u,Z4,h,rfl⟩
  ·rw[if_neg h]
   rcases ih with ⟨v,hv,h1,h2⟩|⟨h1,y1,h2⟩
   ·exact .inl ⟨v,Z9 _ hv,h1,h2⟩
   ·refine .inr ⟨fun v hv=>?_,y1,h2⟩
    rcases Zi.mp hv with rfl|hv
    ·exact h
    ·exact h1 v hv
theorem ZlQ {R:List Ru}(hR:RR R):∃ o:Option W,Z4X [RT R]=some (foT o)∧(∀ u,o=some u→ClW R u∧1<(Zei R u).length)∧(o=none→∀ u,ClW R u→¬ 1<(Zei R u).length):=by
 have ce:=Zhq hR
 have ca:∀ u∈ZoH R,u∈Z41:=fun u hu=>Zjx hR (ZeW.mp hu)
 obtain⟨r,rp,sk⟩:=Zkv (l:=ZoH R) fun u hu=>by
  have:=(Z2s.mp (ca u hu)).1
  lia
 have it:Z2i (Z3O (Zbi Z64 (Z3 (ZZ Z4l (Z3 (ZK 0) Z02)) Z02))) [some (Dv.th (RT R)),none]=some (r.map tS):=by
  simp only[Z2i,Z3O,Zbi,Z3,Z02,ZZ,ZK,gz_,ob_,ce,sk,Z2]
  rfl
 rcases Zbm hR r none fun u hu=>ca u (rp.mem_iff.mp hu) with ⟨u,hu,h1,h2⟩|⟨h1,y1,h2⟩
 ·refine⟨some u,?_,fun v e=>?_,fun e=>by cases e⟩
  ·unfold Z4X Zfn
   refine Z1t rfl ?_
   show Z1L _ _ [some (Dv.th (RT R)),none]=_
   unfold Z1L
   rw[Z4o it,h2]
   rfl
  ·cases e
   exact⟨ZeW.mp (rp.mem_iff.mp hu),h1⟩
 ·refine⟨none,?_,(fun v e=>by cases e),fun _ u hu=>h1 u (rp.mem_iff.mpr (ZeW.mpr hu))⟩
  unfold Z4X Zfn
  refine Z1t rfl ?_
  refine (ZS (d':=[some (Dv.th (RT R)),y1]) ?_).trans rfl
  show ZaC _ _ _ [some (Dv.th (RT R)),none]=_
  rw[Z4o it,h2]
theorem Zna {R:List Ru}{o:Option W}(h:Z4X [RT R]=some (foT o)):Z4x [RT R]=some (.bl o.isNone):=by
 unfold Z4x Zbu
 refine Z1t rfl ?_
 show Z2H _ [some (Dv.th (RT R))]=_
 simp only[Z2H,f2,ZZ,Z3,Z02,ZK,fC,gz_,ob_,h]
 cases o <;> rfl
theorem Zog {R:List Ru}(hR:RR R):∀ w y,y∈nxW R w↔StW R w y:=fun w y=>Zbe.trans (Z81 hR.ne)
theorem Zkq {R:List Ru}(hR:RR R)(h:∀ u,ClW R u→¬ 1<(Zei R u).length){w:W}(hw:w∈Z41):ZjP (nxW R) w:=by
 refine Zqj (P:=fun w=>w∈Z41) (μ:=val) (fun w hw y hy=>⟨Z5O hR w hw y hy,Zg4 hR hw hy⟩) (fun w hw=>?_) w hw
 refine ZeY hR.ne (Zog hR) (fun u hu y hy z hz=>?_) w
 have ua:=Zjx hR hu
 obtain⟨y1,-⟩:=Z4R hR (Z5O hR u ua y hy)
 obtain⟨z1,-⟩:=Z4R hR (Z5O hR u ua z hz)
 have e:Z1T R y=Z1T R z:=by
  by_cases q:Z1T R y=Z1T R z
  ·exact q
  ·exact absurd (ZlM.mpr ⟨y,z,hy,hz,q⟩) (h u hu)
 rw[← e] at z1
 exact⟨_,y1,z1⟩
theorem ZlN {R:List Ru}(v:List W):(ZdK R v).length=(v.filter (isE R)).length:=by
 unfold ZdK
 rw[Ze,(Z4s _).1.length_eq,Ze]
theorem Zj9 {R:List Ru}(hR:RR R){w:W}(hw:w∈Z41){v:List W}(k:Zax (nxW R) w v.length v)(h:ZjP (nxW R) w):(ZdK R v).length=1:=by
 rw[ZlN]
 obtain⟨d1,d2⟩:=Z4R hR hw
 have m1:Z1T R w∈v.filter (isE R):=Z10.mpr ⟨k.all.mpr d1,Z8y.mpr d2⟩
 rcases Zs4 1 (v.filter (isE R)).length with q|q
 ·obtain⟨a,b,ha,hb,hne⟩:=Zmc (Z6p _ k.nd) q
  obtain⟨a1,a2⟩:=Z10.mp ha
  obtain⟨b1,b2⟩:=Z10.mp hb
  exact absurd (h a b (k.all.mp a1) (k.all.mp b1) (Z8y.mp a2) (Z8y.mp b2)) hne
 ·have:=ZgF m1
  exact Z5z (by assumption) (by assumption)
inductive Way (R:List Ru):W→List W→Prop where
 |stop {w:W} (h:Z3X R w=none):Way R w [w]
 |go {w y:W} {l:List W} (h:Z3X R w=some y) (r:Way R y l):Way R w (w::l)
theorem Way.head {R:List Ru}{w:W}{l:List W}(h:Way R w l):∃ t,l=w::t:=by cases h <;> exact⟨_,rfl⟩
theorem Way.last {R:List Ru}{w:W}{l:List W}(h:Way R w l):l.getLast?=some (Z1T R w):=by
 have main:∃ y,l.getLast?=some y∧Zep R w y:=by
  induction h with
  |stop h=>exact⟨_,rfl,.stop h⟩
  |go h r ih =>
   obtain⟨y,e,d⟩:=ih
   obtain⟨t,rfl⟩:=r.head
   exact⟨y,by rw[Zfw];exact e,.go h d⟩
 obtain⟨y,e,d⟩:=main
 rw[e,Zfj d]
noncomputable def Rel (R:List Ru)(x y:W):Prop:=y∈nxW R x∨x∈nxW R y
inductive Lnk (R:List Ru):List W→Prop where
 |nil:Lnk R []
 |one (x:W):Lnk R [x]
 |cons {x y:W} {l:List W} (h:Rel R x y) (r:Lnk R (y::l)):Lnk R (x::y::l)
theorem Way.lnk {R:List Ru}(hR:RR R){w:W}{l:List W}(h:Way R w l):Lnk R l:=by
 induction h with
 |stop=>exact .one _
 |go h r ih =>
  obtain⟨t,rfl⟩:=r.head
  exact .cons (.inl (Z50 hR h)) ih
theorem Lnk.app {R:List Ru}:∀ {a b:List W},Lnk R a→Lnk R b→(∀ x y,a.getLast?=some x→b.head?=some y→Rel R x y)→Lnk R (a++b)
 |[],b,_,hb,_=>hb
 |[x],b,_,hb,h=>by
  cases b with
  |nil=>exact .one x
  |cons y b=>exact .cons (h x y rfl rfl) hb
 |x::y::a,b,ha,hb,h=>by
  cases ha with
  |cons q r=>exact .cons q (Lnk.app r hb fun u v hu hv=>h u v (by rw[Zfw];exact hu) hv)
theorem Rel.symm {R:List Ru}{x y:W}(h:Rel R x y):Rel R y x:=h.elim .inr .inl
theorem Lnk.rev {R:List Ru}{l:List W}(h:Lnk R l):Lnk R l.reverse:=by
 induction h with
 |nil=>exact .nil
 |one x=>exact .one x
 |@cons x y l h r ih =>
  rw[Z4F]
  refine ih.app (.one x) fun u v hu hv=>?_
  rw[Zhx] at hu
  cases hu
  cases hv
  exact h.symm
theorem Lnk.pre {R:List Ru}:∀ {a b:List W},Lnk R (a++b)→Lnk R a
 |[],_,_=>.nil
 |[x],_,_=>.one x
 |x::y::a,b,h=>by
  cases h with
  |cons q r=>exact .cons q (Lnk.pre r)
theorem Lnk.last2 {R:List Ru}:∀ {a:List W} {x y:W},Lnk R (a++[x,y])→Rel R x y
 |[],_,_,h=>by cases h with|cons q _=>exact q
 |[z],x,y,h=>by cases h with|cons _ r=>cases r with|cons q _=>exact q
 |z::u::a,x,y,h=>by cases h with|cons _ r=>exact Lnk.last2 (a:=u::a) r
theorem ZfD {R:List Ru}(hR:RR R):∀ (n:Nat) (w:W),w∈Z41→val w=n→∃ l,Way R w l∧l.length≤n+1:=by
 intro n
 induction n using Z7O with
 |ind n ih =>
  intro w hw e
  cases h:Z3X R w with
  |none=>exact⟨_,.stop h,by simp⟩
  |some y =>
   have hy:=Z50 hR h
   have lt:=Zg4 hR hw hy
   obtain⟨l,r,hl⟩:=ih (val y) (by lia) y (Z5O hR w hw y hy) rfl
   exact⟨_,.go h r,by rw[Zp];lia⟩
theorem Way.few {R:List Ru}(hR:RR R){w:W}{l:List W}(h:Way R w l):w∈Z41→(∀ x∈l,x∈Z41∧val x≤val w)∧l.Nodup:=by
 induction h with
 |stop=>intro hw;exact⟨fun x hx=>by rw[Z0c] at hx;subst hx;exact⟨hw,Zg _⟩,by simp⟩
 |@go w y l h r ih =>
  intro hw
  have hy:=Z50 hR h
  have lt:=Zg4 hR hw hy
  obtain⟨i1,i2⟩:=ih (Z5O hR w hw y hy)
  refine⟨fun x hx=>?_,Z2N.mpr ⟨fun z=>?_,i2⟩⟩
  ·rcases Zi.mp hx with rfl|hx
   ·exact⟨hw,Zg _⟩
   ·obtain⟨a,b⟩:=i1 x hx
    exact⟨a,by lia⟩
  ·have:=(i1 w z).2
   lia
theorem Way.len {R:List Ru}(hR:RR R){w:W}{l:List W}(h:Way R w l)(hw:w∈Z41):l.length≤265720:=by
 obtain⟨a,b⟩:=h.few hR hw
 have:=Z4M b (U:=Z41) fun x hx=>(a x hx).1
 rwa [Zce] at this
noncomputable abbrev bW:FS:=Z1L (Z2a 2 (ZK 1)) (Z1a 1 (ZZ Z1s (Z3 (ZK 0) (Z3 (ZK 1) Z02))))
theorem Zkj {R:List Ru}(hR:RR R){w:W}{l:List W}(h:Way R w l):w∈Z41→∀ acc:List Th,acc.length+l.length≤900000 →
  ∃ n,Z2E (ZU (f2 (Z8v true) (Zb 1) (fC .non))) bW n [some (.th (RT R)),some (.th (tS w)),some (.own acc)]=some (.nx [some (.th (RT R)),some (.th .non),some (.own (acc++l.map tS))]):=by
 have turn:∀ (w:W) (acc:List Th),w∈Z41→acc.length<1000000→bW [some (.th (RT R)),some (.th (tS w)),some (.own acc)]=some (.nx [some (.th (RT R)),some (.th (foT (Z3X R w))),some (.own (acc++[tS w]))]):=fun w acc hw hz=>by
  have fe:=Z69 (w:=w) hR (by have:=(Z2s.mp hw).1;lia)
  refine (ZS (d':=[some (.th (RT R)),some (.th (tS w)),some (.own (acc++[tS w]))]) ?_).trans ?_
  ·simp only[Z2a,ZK,gs_,gz_,ob_,if_pos hz,Z5,Z6]
  ·simp only[Z1a,ZZ,Z3,Z02,ZK,gs_,gz_,ob_,Z2,fe,Z5,Z6]
 induction h with
 |@stop w h =>
  intro hw acc hz
  have t:=turn w acc hw (by simp at hz;lia)
  rw[h] at t
  exact⟨2,Z7S rfl t (Z6U rfl)⟩
 |@go w y l h r ih =>
  intro hw acc hz
  rw[Zp] at hz
  have t:=turn w acc hw (by lia)
  rw[h] at t
  obtain⟨n,e⟩:=ih (Z5O hR w hw y (Z50 hR h)) (acc++[tS w]) (by rw[Zd,Z4N];lia)
  refine⟨n+1,Z7S rfl t ?_⟩
  rw[Z7] at e
  exact e
theorem ZfE {R:List Ru}(hR:RR R){w:W}{l:List W}(h:Way R w l)(hw:w∈Z41):Z2R [RT R,tS w]=some (l.map tS):=by
 obtain⟨n,e⟩:=Zkj hR h hw [] (by have:=h.len hR hw;simp;lia)
 have run:Z5m [some (.th (RT R)),some (.th (tS w)),none]=some (.nx [some (.th (RT R)),some (.th .non),some (.own (l.map tS))]):=by
  unfold Z5m
  refine (ZS (d':=[some (.th (RT R)),some (.th (tS w)),some (.own [])]) rfl).trans ?_
  refine (ZS (Z6L e)).trans ?_
  rfl
 unfold Z2R Zpf
 rw[if_pos (by rfl)]
 show (match Z5m [some (.th (RT R)),some (.th (tS w)),none] with|some (.nx d)=>_|_=>none)=_
 rw[run]
 rfl
theorem Zj0 {l:List W}{k:Nat}(hk:0<k)(h:k≤l.length){x:W}(hx:l[l.length-k]?=some x):atI (l.map tS) (-(k:Int))=some (tS x):=by
 unfold atI ixN
 rw[Ze,if_neg (by lia),if_pos (by lia)]
 show (l.map tS)[(-(k:Int)+(l.length:Int)).toNat]?=_
 rw[show (-(k:Int)+(l.length:Int)).toNat=l.length-k by lia,Z0q,hx]
 rfl
theorem Za1 {l:List W}{x:W}(h:l.getLast?=some x):atI (l.map tS) (-1)=some (tS x):=by
 have hp:0<l.length:=by
  cases l with
  |nil=>cases h
  |cons=>simp
 exact Zj0 (k:=1) (by decide) (by assumption) (by rw[← List.getLast?_eq_getElem?];exact h)
theorem ZqB (a b:W):oEq (tS a) (tS b)=some (.bl (decide (a=b))):=by
 unfold oEq
 rw[Zc6,if_pos (by rfl)]
theorem Zli (a b:W):oNe (tS a) (tS b)=some (.bl (decide (a≠b))):=by
 unfold oNe
 rw[if_pos (by rfl),Zc6]
 by_cases h:a=b <;> simp[h]
theorem ZhW {l:List W}(h:1<l.length):∃ a x y,l=a++[x,y]:=by
 obtain⟨b,y,rfl⟩:∃ b y,l=b++[y]:=⟨l.dropLast,l.getLast (by rintro rfl;simp at h),(Z3d _).symm⟩
 obtain⟨a,x,rfl⟩:∃ a x,b=a++[x]:=⟨b.dropLast,b.getLast (by rintro rfl;simp at h),(Z3d _).symm⟩
 exact⟨a,x,y,by simp⟩
noncomputable abbrev cR:FB:=Z9i (ZU (f2 oGt (fCB Z3G (Z3 (Zb 3) Z02)) (fC (.int 1)))) (Z9i (ZU (f2 oGt (fCB Z3G (Z3 (Zb 4) Z02)) (fC (.int 1)))) (ZU (f2 oEq (f2 oIx (Zb 3) (Zbj (fC (.int 2)))) (f2 oIx (Zb 4) (Zbj (fC (.int 2)))))))
noncomputable abbrev bR:FS:=Z1L (Zc5 3) (Zc5 4)
theorem ZlS {t0 t1 t2:Option Dv}:∀ (n:Nat) (A B:List W),A.length=n→∃ (k:Nat) (A' B':List W) (S S':List W),A=A'++S∧B=B'++S'∧(A≠[]→A'≠[])∧(B≠[]→B'≠[])∧(A.getLast?=B.getLast?→A'.getLast?=B'.getLast?) ∧
  Z2E cR bR k [t0,t1,t2,some (.own (A.map tS)),some (.own (B.map tS))]=some (.nx [t0,t1,t2,some (.own (A'.map tS)),some (.own (B'.map tS))]):=by
 intro n
 induction n with
 |zero =>
  intro A B hn
  refine⟨1,A,B,[],[],by simp,by simp,id,id,id,Z6U ?_⟩
  have l1:Z3G [.lst (A.map tS)]=some (.int ((A.length:Nat):Int)):=by rw[Z68,Ze]
  simp only[cR,Z9i,ZU,f2,fCB,Z3,Z02,Zb,fC,gs_,gz_,ob_,l1,gt_int,hn]
  rfl
 |succ n ih =>
  intro A B hn
  have l1:Z3G [.lst (A.map tS)]=some (.int ((A.length:Nat):Int)):=by rw[Z68,Ze]
  have l2:Z3G [.lst (B.map tS)]=some (.int ((B.length:Nat):Int)):=by rw[Z68,Ze]
  have stay:cR [t0,t1,t2,some (.own (A.map tS)),some (.own (B.map tS))]=some false→_:=fun c=>(⟨1,A,B,[],[],by simp,by simp,id,id,id,Z6U c⟩:∃ (k:Nat) (A' B':List W) (S S':List W),A=A'++S∧B=B'++S'∧(A≠[]→A'≠[])∧(B≠[]→B'≠[])∧(A.getLast?=B.getLast?→A'.getLast?=B'.getLast?) ∧
   Z2E cR bR k [t0,t1,t2,some (.own (A.map tS)),some (.own (B.map tS))]=some (.nx [t0,t1,t2,some (.own (A'.map tS)),some (.own (B'.map tS))]))
  by_cases ha:1<A.length
  ·by_cases hb:1<B.length
   ·obtain⟨a,x,y,rfl⟩:=ZhW ha
    obtain⟨b,u,v,rfl⟩:=ZhW hb
    have i1:=Zj0 (l:=a++[x,y]) (k:=2) (by decide) (by simp) (x:=x) (by simp)
    have i2:=Zj0 (l:=b++[u,v]) (k:=2) (by decide) (by simp) (x:=u) (by simp)
    have i1:oIx (.lst ((a++[x,y]).map tS)) (.int (-2))=some (tS x):=i1
    have i2:oIx (.lst ((b++[u,v]).map tS)) (.int (-2))=some (tS u):=i2
    have c:cR [t0,t1,t2,some (.own ((a++[x,y]).map tS)),some (.own ((b++[u,v]).map tS))]=some (decide (x=u)):=by
     have n1:Zbj (fC (.int 2)) [t0,t1,t2,some (.own ((a++[x,y]).map tS)),some (.own ((b++[u,v]).map tS))]=some (.int (-2)):=rfl
     have g1:decide ((1:Int)<((a++[x,y]).length:Int))=true:=decide_eq_true (by lia)
     have g2:decide ((1:Int)<((b++[u,v]).length:Int))=true:=decide_eq_true (by lia)
     simp only[cR,Z9i,ZU,f2,fCB,Z3,Z02,Zb,fC,gs_,gz_,ob_,l1,l2,gt_int,g1,g2,if_true]
     simp only[n1,ob_,i1,i2,ZqB]
    by_cases e:x=u
    ·subst e
     obtain⟨k,A',B',S,S',e1,e2,e3,e4,e5,w⟩:=ih (a++[x]) (b++[x]) (by simp at hn ⊢;omega)
     refine⟨k+1,A',B',S++[y],S'++[v],by rw[← Z7,← e1];simp,by rw[← Z7,← e2];simp,fun _=>e3 (by simp),fun _=>e4 (by simp),fun _=>e5 (by simp),Z7S (by rw[c];simp) ?_ w⟩
     have p1:((a++[x,y]).map tS)[((a++[x,y]).map tS).length-1]?=some (tS y):=by simp
     have p2:((b++[x,v]).map tS)[((b++[x,v]).map tS).length-1]?=some (tS v):=by simp
     have d1:((a++[x,y]).map tS).dropLast=(a++[x]).map tS:=by simp[ZaI]
     have d2:((b++[x,v]).map tS).dropLast=(b++[x]).map tS:=by simp[ZaI]
     refine (ZS (d':=[t0,t1,t2,some (.own ((a++[x]).map tS)),some (.own ((b++[x,v]).map tS))]) ?_).trans ?_
     ·simp only[Zc5,gs_,gz_,p1,d1,ob_,Z6,Z5]
     ·simp only[Zc5,gs_,gz_,p2,d2,ob_,Z6,Z5]
    ·exact stay (by rw[c,decide_eq_false e])
   ·refine stay ?_
    have g1:decide ((1:Int)<(A.length:Int))=true:=decide_eq_true (by lia)
    have g2:decide ((1:Int)<(B.length:Int))=false:=decide_eq_false (by lia)
    simp only[cR,Z9i,ZU,f2,fCB,Z3,Z02,Zb,fC,gs_,gz_,ob_,l1,l2,gt_int,g1,g2,if_true]
    rfl
  ·refine stay ?_
   have g1:decide ((1:Int)<(A.length:Int))=false:=decide_eq_false (by lia)
   simp only[cR,Z9i,ZU,f2,fCB,Z3,Z02,Zb,fC,gs_,gz_,ob_,l1,gt_int,g1]
   rfl
theorem Zgl {α:Type}(xs:List α):Z6w xs none (some (-1))=xs.dropLast:=by
 unfold Z6w
 have e:HT.sIx xs.length xs.length (some (-1))=xs.length-1:=by
  show (if (-1:Int)<0 then (-1+(xs.length:Int)).toNat else min (-1:Int).toNat xs.length)=_
  rw[if_pos (by decide)]
  lia
 rw[e,HT.sIx_none,Z3R,Z7N,Z7F]
theorem Zni {R:List Ru}(hR:RR R){a b:W}(ha:a∈Z41)(hb:b∈Z41)(h:Z1T R a≠Z1T R b):Z5j [RT R,tS a,tS b]=some .non:=by
 obtain⟨A,wa,-⟩:=ZfD hR _ a ha rfl
 obtain⟨B,wb,-⟩:=ZfD hR _ b hb rfl
 have e1:=ZfE hR wa ha
 have e2:=ZfE hR wb hb
 unfold Z5j ZjI
 refine Z1t rfl ?_
 refine (ZS (d':=[some (.th (RT R)),some (.th (tS a)),some (.th (tS b)),some (.own (A.map tS)),none]) ?_).trans ?_
 ·simp only[Za9,Z88,Z3,Z02,ZK,Z2X,Z18,Zj,ZO,Zz,gs_,gz_,ob_,Z2,e1,Z5,Z6]
 refine (ZS (d':=[some (.th (RT R)),some (.th (tS a)),some (.th (tS b)),some (.own (A.map tS)),some (.own (B.map tS))]) ?_).trans ?_
 ·simp only[Za9,Z88,Z3,Z02,ZK,gs_,gz_,ob_,Z2,e2,Z5,Z6]
 have i1:oIx (.lst (A.map tS)) (.int (-1))=some (tS (Z1T R a)):=Za1 wa.last
 have i2:oIx (.lst (B.map tS)) (.int (-1))=some (tS (Z1T R b)):=Za1 wb.last
 have n1:Zbj (fC (.int 1)) [some (.th (RT R)),some (.th (tS a)),some (.th (tS b)),some (.own (A.map tS)),some (.own (B.map tS))]=some (.int (-1)):=rfl
 have q:=Zli (Z1T R a) (Z1T R b)
 rw[decide_eq_true h] at q
 unfold Z1L
 simp only[fIf,ZU,f2,Zb,n1,gs_,gz_,ob_,i1,i2,q,if_true,Z2H,fC,Z2]
theorem Zky {R:List Ru}(hR:RR R){a b:W}(ha:a∈Z41)(hb:b∈Z41)(h:Z1T R a=Z1T R b):∃ l:List W,Z5j [RT R,tS a,tS b]=some (.tup (l.map tS))∧Lnk R l∧l.head?=some a∧l.getLast?=some b∧(∀ x∈l,x∈Z41)∧l.length≤600000:=by
 obtain⟨A,wa,-⟩:=ZfD hR _ a ha rfl
 obtain⟨B,wb,-⟩:=ZfD hR _ b hb rfl
 have e1:=ZfE hR wa ha
 have e2:=ZfE hR wb hb
 have la:=wa.len hR ha
 have lb:=wb.len hR hb
 obtain⟨k,A',B',S,S',eA,eB,nA,nB,le,w⟩:=ZlS (t0:=some (.th (RT R))) (t1:=some (.th (tS a))) (t2:=some (.th (tS b))) _ A B rfl
 have le:=le (by rw[wa.last,wb.last,h])
 obtain⟨ta,hta⟩:=wa.head
 obtain⟨tb,htb⟩:=wb.head
 have nA:=nA (by rw[hta];simp)
 have nB:=nB (by rw[htb];simp)
 have hA:A'.head?=some a:=by
  cases A' with
  |nil=>exact absurd rfl nA
  |cons x r=>rw[hta] at eA;injection eA with q _;rw[q];rfl
 have hB:B'.head?=some b:=by
  cases B' with
  |nil=>exact absurd rfl nB
  |cons x r=>rw[htb] at eB;injection eB with q _;rw[q];rfl
 have kA:Lnk R A':=Lnk.pre (b:=S) (by rw[← eA];exact wa.lnk hR)
 have kB:Lnk R B':=Lnk.pre (b:=S') (by rw[← eB];exact wb.lnk hR)
 obtain⟨b0,x,rfl⟩:∃ b0 x,B'=b0++[x]:=⟨B'.dropLast,B'.getLast nB,(Z3d _).symm⟩
 have xl:A'.getLast?=some x:=by rw[le];simp
 have ea:∀ z∈A',z∈Z41:=fun z hz=>((wa.few hR ha).1 z (by rw[eA];exact Z08 _ hz)).1
 have eb:∀ z∈b0,z∈Z41:=fun z hz=>((wb.few hR hb).1 z (by rw[eB];exact Z08 _ (Z08 _ hz))).1
 have sA:A'.length≤265720:=by rw[eA,Zd] at la;lia
 have sB:b0.length≤265720:=by rw[eB,Zd,Zd] at lb;lia
 refine⟨A'++b0.reverse,?_,?_,?_,?_,fun z hz=>(ZQ.mp hz).elim (ea z) fun q=>eb z (Z1Y.mp q),by rw[Zd,Z8F];lia⟩
 ·unfold Z5j ZjI
  refine Z1t rfl ?_
  refine (ZS (d':=[some (.th (RT R)),some (.th (tS a)),some (.th (tS b)),some (.own (A.map tS)),none]) ?_).trans ?_
  ·simp only[Za9,Z88,Z3,Z02,ZK,Z2X,Z18,Zj,ZO,Zz,gs_,gz_,ob_,Z2,e1,Z5,Z6]
  refine (ZS (d':=[some (.th (RT R)),some (.th (tS a)),some (.th (tS b)),some (.own (A.map tS)),some (.own (B.map tS))]) ?_).trans ?_
  ·simp only[Za9,Z88,Z3,Z02,ZK,gs_,gz_,ob_,Z2,e2,Z5,Z6]
  refine (ZS (d':=[some (.th (RT R)),some (.th (tS a)),some (.th (tS b)),some (.own (A.map tS)),some (.own (B.map tS))]) ?_).trans ?_
  ·have i1:oIx (.lst (A.map tS)) (.int (-1))=some (tS (Z1T R a)):=Za1 wa.last
   have i2:oIx (.lst (B.map tS)) (.int (-1))=some (tS (Z1T R b)):=Za1 wb.last
   have n1:Zbj (fC (.int 1)) [some (.th (RT R)),some (.th (tS a)),some (.th (tS b)),some (.own (A.map tS)),some (.own (B.map tS))]=some (.int (-1)):=rfl
   have q:=Zli (Z1T R a) (Z1T R b)
   rw[decide_eq_false (by simpa using h)] at q
   simp only[fIf,ZU,f2,Zb,n1,gs_,gz_,ob_,i1,i2,q,Zu,if_false,Z0Y]
  refine (ZS (Z6L w)).trans ?_
  have n1:Zbj (fC (.int 1)) [some (.th (RT R)),some (.th (tS a)),some (.th (tS b)),some (.own (A'.map tS)),some (.own ((b0++[x]).map tS))]=some (.int (-1)):=rfl
  have c:Z6w ((b0++[x]).map tS) none (some (-1))=b0.map tS:=by
   rw[Zgl,Z1e]
   exact List.dropLast_concat
  have p:=Z7Y (x:=A'.map tS) (y:=(b0.map tS).reverse) (by rw[Z8F,Ze,Ze];lia)
  rw[← ZmZ,← Z1e] at p
  simp only[Z2H,fCB,Z3,Z02,f2,Zb,fSl,Z1C,Z0j,n1,gs_,gz_,ob_,Z2,ZfN,c,Z75,← ZmZ,p,Z4y]
 ·refine kA.app (Lnk.rev (Lnk.pre kB)) fun u v hu hv=>?_
  rw[xl] at hu
  cases hu
  rw[List.head?_reverse] at hv
  obtain⟨b1,rfl⟩:∃ b1,b0=b1++[v]:=by
   refine⟨b0.dropLast,?_⟩
   have hn:b0≠[]:=by rintro rfl;cases hv
   rw[List.getLast?_eq_some_getLast hn] at hv
   cases hv
   exact (Z3d _).symm
  have:=Lnk.last2 (a:=b1) (x:=v) (y:=x) (by simpa using kB)
  exact this.symm
 ·rw[List.head?_append,hA];rfl
 ·rw[List.getLast?_append,Zhx]
  cases b0 with
  |nil =>
   rw[xl]
   exact hB
  |cons y r =>
   rw[ZoQ]
   exact hB
noncomputable abbrev bI:FS:=fIf (ZU (f2 (oIn true) (Zb 5) (ZZ Z13 (Z3 (ZK 0) (Z3 (ZK 4) Z02))))) (fIf (ZU (f2 (oIn true) (Zb 4) (ZZ Z13 (Z3 (ZK 0) (Z3 (ZK 5) Z02))))) (Z2H (fC (.bl false))) Z0Y) Z0Y
theorem Zkg (x y:W)(l:List W):Zkh (((x::y::l).dropLast).map tS) (((x::y::l).drop 1).map tS)=.tup [tS x,tS y]::Zkh (((y::l).dropLast).map tS) (((y::l).drop 1).map tS):=rfl
theorem Zox {R:List Ru}(hR:RR R){t1 t2 t3:Option Dv}{l:List W}(h:Lnk R l):(∀ x∈l,x∈Z41)→∀ x4 x5:Option Dv,
  ∃ y4 y5,Z5P (Z45 4 5) bI (Zkh ((l.dropLast).map tS) ((l.drop 1).map tS)) [some (.th (RT R)),t1,t2,t3,x4,x5]=some (.nx [some (.th (RT R)),t1,t2,t3,y4,y5]):=by
 induction h with
 |nil=>intro _ x4 x5;exact⟨x4,x5,rfl⟩
 |one x=>intro _ x4 x5;exact⟨x4,x5,rfl⟩
 |@cons x y l hr r ih =>
  intro ha x4 x5
  obtain⟨y4,y5,e⟩:=ih (fun z hz=>ha z (Z9 _ hz)) (some (.th (tS x))) (some (.th (tS y)))
  refine⟨y4,y5,?_⟩
  have nx:∀ z∈Z41,Z13 [RT R,tS z]=some (.lst ((nxW R z).map tS)):=fun z hz=>by
   have ne:=Z8x (R:=R) (w:=z) hR.small (by have:=(Z2s.mp hz).1;lia)
   rwa [Zg5] at ne
  have n1:=nx x (ha x Z4)
  have n2:=nx y (ha y (by simp))
  have inn:∀ u v:W,oIn true (tS u) (.lst ((nxW R v).map tS))=some (.bl (!decide (u∈nxW R v))):=fun u v=>by
   simp only[oIn,Zhn,if_true,ZjM]
   rfl
  rw[Zkg]
  unfold Z5P
  have g:Z45 4 5 (.tup [tS x,tS y]) [some (.th (RT R)),t1,t2,t3,x4,x5]=some [some (.th (RT R)),t1,t2,t3,some (.th (tS x)),some (.th (tS y))]:=rfl
  have st:bI [some (.th (RT R)),t1,t2,t3,some (.th (tS x)),some (.th (tS y))]=some (.nx [some (.th (RT R)),t1,t2,t3,some (.th (tS x)),some (.th (tS y))]):=by
   simp only[bI,fIf,ZU,f2,ZZ,Z3,Z02,ZK,Zb,gs_,gz_,ob_,n1,n2,inn]
   by_cases q1:y∈nxW R x
   ·simp[q1,Z0Y]
   ·have q2:x∈nxW R y:=hr.resolve_left q1
    simp[q1,q2,Z0Y]
  rw[g,ob_,st]
  exact e
theorem Zhg {R:List Ru}(hR:RR R){l:List W}{a b:W}(h:Lnk R l)(h1:l.head?=some a)(h2:l.getLast?=some b)(ha:∀ x∈l,x∈Z41)(hl:l.length≤600000):Z3i [RT R,.tup (l.map tS),tS a,tS b]=some (.bl true):=by
 obtain⟨y4,y5,e⟩:=Zox hR (t1:=some (.th (.tup (l.map tS)))) (t2:=some (.th (tS a))) (t3:=some (.th (tS b))) h ha none none
 have hn:l≠[]:=by rintro rfl;cases h1
 unfold Z3i Zap
 refine Z1t rfl ?_
 refine (ZS (d':=[some (.th (RT R)),some (.th (.tup (l.map tS))),some (.th (tS a)),some (.th (tS b)),none,none]) ?_).trans ?_
 ·have ib:isB (Z6g (.tup (l.map tS))) "tuple"=true:=Z86 _
  have q1:oEq (.tup (l.map tS)) (.tup [])=some (.bl false):=by
   unfold oEq
   rw[if_pos (decide_eq_true (by show dpL (l.map tS)+1≤100;rw[Zhn];lia))]
   cases l with
   |nil=>exact absurd rfl hn
   |cons=>rfl
  have i0:oIx (.tup (l.map tS)) (.int 0)=some (tS a):=by
   show atI (l.map tS) 0=_
   rw[Z8c (by simp) (by rw[Ze];have:=Z5t.mpr hn;lia)]
   cases l with
   |nil=>exact absurd rfl hn
   |cons x r=>cases h1;rfl
  have i1:oIx (.tup (l.map tS)) (.int (-1))=some (tS b):=Za1 h2
  have n1:Zbj (fC (.int 1)) [some (.th (RT R)),some (.th (.tup (l.map tS))),some (.th (tS a)),some (.th (tS b)),none,none]=some (.int (-1)):=rfl
  have q2:oNe (tS a) (tS a)=some (.bl false):=by rw[Zli];simp
  have q3:oNe (tS b) (tS b)=some (.bl false):=by rw[Zli];simp
  show (fIf _ _ _:FS) [some (.th (RT R)),some (.th (.tup (l.map tS))),some (.th (tS a)),some (.th (tS b)),none,none]=_
  simp only[fIf,ZhF,ZdH,ZU,Zk1,f2,Zb,fC,n1,gs_,gz_,ob_,Z2,ib,q1,i0,i1,q2,q3,Z5f,Zu,if_false,Z0Y]
 refine (ZS (d':=[some (.th (RT R)),some (.th (.tup (l.map tS))),some (.th (tS a)),some (.th (tS b)),y4,y5]) ?_).trans ?_
 ·have z:ZoV (fSl (Zb 1) Z0j (Z1C (Zbj (fC (.int 1))))) (fSl (Zb 1) (Z1C (fC (.int 1))) Z0j) [some (.th (RT R)),some (.th (.tup (l.map tS))),some (.th (tS a)),some (.th (tS b)),none,none]=some (Zkh ((l.dropLast).map tS) ((l.drop 1).map tS)):=by
   have n1:Zbj (fC (.int 1)) [some (.th (RT R)),some (.th (.tup (l.map tS))),some (.th (tS a)),some (.th (tS b)),none,none]=some (.int (-1)):=rfl
   have c1:Z6w (l.map tS) none (some (-1))=(l.dropLast).map tS:=by rw[Zgl,List.map_dropLast]
   have c2:Z6w (l.map tS) (some 1) none=(l.drop 1).map tS:=by rw[Zc7 _ (by decide),List.map_drop];rfl
   simp only[ZoV,fSl,Z1C,Z0j,n1,Zb,fC,gs_,gz_,ob_,Z2,Znd,c1,c2]
  rw[Z4o z]
  exact e
 ·rfl
structure Back (R:List Ru)(w z:W):Prop where
 nx:w∈nxW R z
 abc:Zkd z
noncomputable abbrev bB1:FS:=fIf (ZU (fM1 (fun z y=>some (.bl (Z0z z y))) (fSl (Zb 1) (Z1C (ZK 5)) Z0j) (Zb 4))) (Z1L (Z1a 6 (f2 Z17 (Zb 5) (fCB Z3G (Z3 (Zb 4) Z02))))
 (Z2a 2 (f2 Z17 (f2 Z17 (fSl (Zb 1) Z0j (Z1C (ZK 5))) (Zb 3)) (fSl (Zb 1) (Z1C (ZK 6)) Z0j)))) Z0Y
theorem ZjG {R:List Ru}(hR:RR R){w:W}(wl:w.length≤6)(wa:Zkd w){r:Ru}(hr:r∈R){p:Nat}(hp:p≤w.length){acc:List Th}(hz:acc.length<900000){t0 x6:Option Dv} :
  ∃ (B:List W) (y6:Option Dv),bB1 [t0,some (.th (tS w)),some (.own acc),some (.th (tS r.1)),some (.th (tS r.2)),some (.th (.int (p:Int))),x6] =
   some (.nx [t0,some (.th (tS w)),some (.own (acc++B.map tS)),some (.th (tS r.1)),some (.th (tS r.2)),some (.th (.int (p:Int))),y6])∧B.length≤1∧∀ z∈B,Back R w z:=by
 have ok:=hR.ok r hr
 have r1:r.1.length≤6:=ok.l6
 have r2:r.2.length≤r.1.length:=ok.rl
 have s1:=Z79 w p (by lia)
 have st:=Z9I (w.drop p) r.2
 have c:ZU (fM1 (fun z y=>some (.bl (Z0z z y))) (fSl (Zb 1) (Z1C (ZK 5)) Z0j) (Zb 4)) [t0,some (.th (tS w)),some (.own acc),some (.th (tS r.1)),some (.th (tS r.2)),some (.th (.int (p:Int))),x6]=some (r.2.isPrefixOf (w.drop p)):=by
  simp only[ZU,fM1,f2,fSl,Z1C,Z0j,ZK,Zb,gs_,gz_,ob_,s1]
  simp only[tS,st]
 cases hb:r.2.isPrefixOf (w.drop p) with
 |false =>
  refine⟨[],x6,?_,by simp,fun z h=>nomatch h⟩
  rw[hb] at c
  simp only[bB1,fIf,c,ob_,Zu,if_false,Z0Y,Z5Y,Z1z]
 |true =>
  rw[hb] at c
  have pre:=Z1H.mp hb
  obtain⟨t,ht⟩:=pre
  have ew:w=w.take p++r.2++t:=by rw[Z7,ht,ZB]
  have ed:w.drop (p+r.2.length)=t:=by rw[← Z0y,← ht,Z38]
  have lp:(w.take p).length=p:=by rw[ZA];lia
  have lt:t.length≤6:=by rw[← ed,ZM];lia
  have l1:=Z91 (a:=r.2) (by lia)
  have s2:=Z9C w p (by lia)
  have s3:=Z79 w (p+r.2.length) (by lia)
  rw[ed] at s3
  have p1:=Z6G (a:=w.take p) (b:=r.1) (by lia)
  have p2:=Z6G (a:=w.take p++r.1) (b:=t) (by rw[Zd];lia)
  have hz':acc.length<1000000:=by lia
  refine⟨[w.take p++r.1++t],some (.th (.int ((p+r.2.length:Nat):Int))),?_,by simp,fun z h=>?_⟩
  ·simp only[bB1,fIf,c,ob_,if_true]
   refine (ZS (d':=[t0,some (.th (tS w)),some (.own acc),some (.th (tS r.1)),some (.th (tS r.2)),some (.th (.int (p:Int))),some (.th (.int ((p+r.2.length:Nat):Int)))]) ?_).trans ?_
   ·simp only[Z1a,f2,fCB,Z3,Z02,Zb,gs_,gz_,ob_,Z2,l1,Z31,Z5,Z6,Zcv]
   ·simp only[Z2a,f2,fSl,Z1C,Z0j,ZK,Zb,gs_,gz_,ob_,s2,s3,p1,p2,if_pos hz',Z5,Z6,ZJ,Z5Y]
  ·rw[Z0c] at h
   subst h
   refine⟨(Zog hR _ _).mpr ⟨p,r,hr,?_,?_⟩,?_⟩
   ·rw[Z2Q,Z7,Z2o,Z03 (by lia),Zz,lp,Z47,Z3R]
    exact Z3c _ _
   ·unfold chW
    rw[Z7 (w.take p) r.1 t,ZaR,Z0s (by lia),lp,Z47,Z3P,Z1z,Z2o,Z03 (by lia),Zz,lp,Z0x,Z38]
    exact ew
   ·intro c hc
    rcases ZQ.mp hc with hc|hc
    ·rcases ZQ.mp hc with hc|hc
     ·exact wa c (Z1A hc)
     ·exact ok.la c hc
    ·rw[← ed] at hc
     exact wa c (Z0C hc)
theorem Zgs {R:List Ru}(hR:RR R){w:W}(wl:w.length≤6)(wa:Zkd w){r:Ru}(hr:r∈R){t0:Option Dv}:∀ (ps:List Nat) (acc:List Th) (x5 x6:Option Dv),(∀ p∈ps,p≤w.length)→acc.length+ps.length≤800000 →
  ∃ (B:List W) (y5 y6:Option Dv),Z5P (Zbg 5) bB1 (ps.map fun (k:Nat)=>Th.int (k:Int)) [t0,some (.th (tS w)),some (.own acc),some (.th (tS r.1)),some (.th (tS r.2)),x5,x6] =
   some (.nx [t0,some (.th (tS w)),some (.own (acc++B.map tS)),some (.th (tS r.1)),some (.th (tS r.2)),y5,y6])∧B.length≤ps.length∧∀ z∈B,Back R w z
 |[],acc,x5,x6,_,_=>⟨[],x5,x6,by simp[Z5P],by simp,fun z h=>nomatch h⟩
 |p::ps,acc,x5,x6,hp,hz=>by
  rw[Zp] at hz
  obtain⟨B1,z6,t1,l1,m1⟩:=ZjG hR wl wa hr (hp p Z4) (acc:=acc) (t0:=t0) (x6:=x6) (by lia)
  obtain⟨B2,y5,y6,t2,l2,m2⟩:=Zgs hR wl wa hr (t0:=t0) ps (acc++B1.map tS) (some (.th (.int (p:Int)))) z6 (fun q hq=>hp q (Z9 _ hq)) (by rw[Zd,Ze];lia)
  refine⟨B1++B2,y5,y6,?_,by rw[Zd,Zp];lia,fun z hz=>(ZQ.mp hz).elim (m1 z) (m2 z)⟩
  rw[ZJ]
  unfold Z5P
  have g:Zbg 5 (.int (p:Int)) [t0,some (.th (tS w)),some (.own acc),some (.th (tS r.1)),some (.th (tS r.2)),x5,x6]=some [t0,some (.th (tS w)),some (.own acc),some (.th (tS r.1)),some (.th (tS r.2)),some (.th (.int (p:Int))),x6]:=rfl
  rw[g,ob_,t1,Z1e,← Z7]
  exact t2
theorem ZlU {R:List Ru}(hR:RR R){w:W}(wl:w.length≤6)(wa:Zkd w){t0:Option Dv}:∀ (Rs:List Ru) (acc:List Th) (x3 x4 x5 x6:Option Dv),(∀ r∈Rs,r∈R)→acc.length+Rs.length*7≤700000 →
  ∃ (B:List W) (y3 y4 y5 y6:Option Dv),Z5P (Z45 3 4) (ZaC (Z2l (f2 Z17 (fCB Z3G (Z3 (Zb 1) Z02)) (fC (.int 1)))) (Zbg 5) bB1) (Rs.map rTh) [t0,some (.th (tS w)),some (.own acc),x3,x4,x5,x6] =
   some (.nx [t0,some (.th (tS w)),some (.own (acc++B.map tS)),y3,y4,y5,y6])∧B.length≤Rs.length*7∧∀ z∈B,Back R w z:=by
 intro Rs
 induction Rs with
 |nil =>
  intro acc x3 x4 x5 x6 _ _
  exact⟨[],x3,x4,x5,x6,by simp[Z5P],by simp,fun z h=>nomatch h⟩
 |cons r Rs ih =>
  intro acc x3 x4 x5 x6 hs hz
  rw[Zp] at hz
  obtain⟨m,hm,ml⟩:∃ m,w.length+1=m∧m≤7:=⟨_,rfl,by lia⟩
  obtain⟨B1,z5,z6,t1,l1,m1⟩:=Zgs hR wl wa (hs r Z4) (t0:=t0) (Z0L m) acc x5 x6 (fun p hp=>by have:=Z37.mp hp;lia) (by rw[Z2c];lia)
  rw[Z2c] at l1
  obtain⟨B2,y3,y4,y5,y6,t2,l2,m2⟩:=ih (acc++B1.map tS) (some (.th (tS r.1))) (some (.th (tS r.2))) z5 z6 (fun q hq=>hs q (Z9 _ hq)) (by rw[Zd,Ze];lia)
  refine⟨B1++B2,y3,y4,y5,y6,?_,by rw[Zd,Zp];lia,fun z hz=>(ZQ.mp hz).elim (m1 z) (m2 z)⟩
  rw[ZJ]
  unfold Z5P
  have g:Z45 3 4 (rTh r) [t0,some (.th (tS w)),some (.own acc),x3,x4,x5,x6]=some [t0,some (.th (tS w)),some (.own acc),some (.th (tS r.1)),some (.th (tS r.2)),x5,x6]:=rfl
  have l3:=Z91 (a:=w) (by lia)
  have pl:Z17 (.int (w.length:Int)) (.int 1)=some (.int (m:Int)):=by
   rw[Z31,← hm,Zcv]
   rfl
  have e:Z2l (f2 Z17 (fCB Z3G (Z3 (Zb 1) Z02)) (fC (.int 1))) [t0,some (.th (tS w)),some (.own acc),some (.th (tS r.1)),some (.th (tS r.2)),x5,x6]=some (L2.upTo m):=by
   simp only[Z2l,f2,fCB,Z3,Z02,Zb,fC,gs_,gz_,ob_,l3,pl]
   rw[if_pos (by lia),Z16]
  rw[g,ob_,Z4o e,Zeu,t1]
  simp only[ob_]
  rw[t2,Z1e,Z7]
theorem ZoK {R:List Ru}(hR:RR R){w:W}(wl:w.length≤6)(wa:Zkd w):∃ B:List W,Z3k [RT R,tS w]=some (.lst (B.map tS))∧B.length≤100∧∀ z∈B,Back R w z:=by
 have few:=hR.few
 obtain⟨B,y3,y4,y5,y6,t,l,m⟩:=ZlU hR wl wa (t0:=some (.th (RT R))) R [] none none none none (fun r h=>h) (by simp;lia)
 refine⟨B,?_,by lia,m⟩
 unfold Z3k Zgz
 refine Z1t rfl ?_
 refine (ZS (d':=[some (.th (RT R)),some (.th (tS w)),some (.own []),none,none,none,none]) rfl).trans ?_
 refine (ZS (d':=[some (.th (RT R)),some (.th (tS w)),some (.own (B.map tS)),y3,y4,y5,y6]) ?_).trans ?_
 ·rw[Z4o (ts:=R.map rTh) rfl]
  exact t
 ·rfl
structure Zm2 (R:List Ru)(a w:W):Prop where
 len:w.length≤6
 abc:Zkd w
 same:Z1T R w=Z1T R a
theorem Zm2.all {R:List Ru}{a w:W}(h:Zm2 R a w):w∈Z41:=Z2s.mpr ⟨by have:=h.len;lia,h.abc⟩
theorem ZdM {R:List Ru}(hR:RR R)(one:∀ w∈Z41,ZjP (nxW R) w){z w:W}(hz:z∈Z41)(h:w∈nxW R z):Z1T R w=Z1T R z:=by
 have wa:=Z5O hR z hz w h
 obtain⟨a1,a2⟩:=Z4R hR wa
 obtain⟨b1,b2⟩:=Z4R hR hz
 exact one z hz _ _ (Rch.trans (.step (.refl _) h) a1) b1 a2 b2
noncomputable abbrev bV:FS:=Z1L (Z1a 5 (ZZ Z0i (Z3 (ZK 2) (Z3 (ZK 4) Z02))))
 (Z1L (Z1a 6 (ZZ Z13 (Z3 (ZK 0) (Z3 (ZK 3) Z02))))
 (Z1L (fIf (ZU (f2 oEq (f2 Z4m (Zb 5) (fC (.int 2))) (fC (.int 1)))) (Z1a 6 (Z3O (Z29 g1 (Z2i (ZZ Z3k (Z3 (ZK 0) (Z3 (ZK 3) Z02)))) (ZU (f2 oLt (fCB Z3G (Z3 (Zb 0) Z02)) (fC (.int 7)))) (ZK 0)))) Z0Y)
 (fIf (ZU (f2 oNe (Zb 6) (fC (.lst [])))) (Z1a 3 (f2 oIx (Zb 6) (f2 Z4m (f2 Z7e (Zb 5) (fC (.int 2))) (fCB Z3G (Z3 (Zb 6) Z02))))) Z0Y)))
theorem ZhR {R:List Ru}(hR:RR R)(one:∀ w∈Z41,ZjP (nxW R) w){a w:W}(h:Zm2 R a w){n:Int}{t1:Option Dv}(k:Nat)(x5 x6:Option Dv) :
  ∃ (v:W) (y5 y6:Option Dv),bV [some (.th (RT R)),t1,some (.th (.int n)),some (.th (tS w)),some (.th (.int (k:Int))),x5,x6]=some (.nx [some (.th (RT R)),t1,some (.th (.int n)),some (.th (tS v)),some (.th (.int (k:Int))),y5,y6])∧Zm2 R a v:=by
 have de:=Z78 n (k:Int)
 have dg:=ZlP n (k:Int)
 have ne:=Z8x (R:=R) (w:=w) hR.small (by have:=h.len;lia)
 rw[Zg5] at ne
 have nl:=ZiX hR (w:=w) (by have:=h.len;lia)
 have wl:=h.len
 obtain⟨B,be,bl,bm⟩:=ZoK hR h.len h.abc
 have filt:Z29 g1 (Z2i (ZZ Z3k (Z3 (ZK 0) (Z3 (ZK 3) Z02)))) (ZU (f2 oLt (fCB Z3G (Z3 (Zb 0) Z02)) (fC (.int 7)))) (ZK 0) [some (.th (RT R)),t1,some (.th (.int n)),some (.th (tS w)),some (.th (.int (k:Int))),some (.th (.int (drawn n (k:Int)))),some (.th (.lst ((nxW R w).map tS)))] =
   some ((B.filter fun z=>decide (z.length<7)).map tS):=by
  have c:=Z5l (fi:=Z2i (ZZ Z3k (Z3 (ZK 0) (Z3 (ZK 3) Z02)))) (ft:=ZU (f2 oLt (fCB Z3G (Z3 (Zb 0) Z02)) (fC (.int 7)))) (q:=fun t=>match t with|.str x=>decide (x.cps.toList.length<7)|_=>false) (ts:=B.map tS)
   (d:=[some (.th (RT R)),t1,some (.th (.int n)),some (.th (tS w)),some (.th (.int (k:Int))),some (.th (.int (drawn n (k:Int)))),some (.th (.lst ((nxW R w).map tS)))])
   (by simp only[Z2i,ZZ,Z3,Z02,ZK,gs_,gz_,ob_,be];rfl) (by rw[Ze];lia) fun t ht=>by
    obtain⟨z,hz,rfl⟩:=ZT.mp ht
    have zl:z.length≤1000:=by
     obtain⟨p,r,hr,hs,e⟩:=(Zog hR _ _).mp (bm z hz).nx
     have h1:=Z3y (hR.ne r hr) hs
     have h2:r.1.length≤6:=(hR.ok r hr).l6
     have h3:w.length=(chW r z p).length:=by rw[← e]
     unfold chW at h3
     rw[Zd,Zd,ZA,ZM] at h3
     omega
    have l1:=Z91 (a:=z) (by lia)
    simp only[ZU,f2,fCB,Z3,Z02,Zb,fC,gz_,ob_,l1,lt_int]
    show some (decide ((z.length:Int)<7))=some (decide (z.length<7))
    congr 1
    by_cases q:z.length<7
    ·rw[decide_eq_true q,decide_eq_true (by lia)]
    ·rw[decide_eq_false q,decide_eq_false (by lia)]
  have e2:(B.map tS).filter (fun t=>match t with|.str x=>decide (x.cps.toList.length<7)|_=>false)=(B.filter fun z=>decide (z.length<7)).map tS:=by
   rw[Zcj]
   rfl
  rw[e2] at c
  exact c
 obtain⟨L,hL,sL',t3⟩:∃ L:List W,(∀ z∈L,Zm2 R a z)∧L.length≤1000∧(fIf (ZU (f2 oEq (f2 Z4m (Zb 5) (fC (.int 2))) (fC (.int 1)))) (Z1a 6 (Z3O (Z29 g1 (Z2i (ZZ Z3k (Z3 (ZK 0) (Z3 (ZK 3) Z02)))) (ZU (f2 oLt (fCB Z3G (Z3 (Zb 0) Z02)) (fC (.int 7)))) (ZK 0)))) Z0Y:FS)
   [some (.th (RT R)),t1,some (.th (.int n)),some (.th (tS w)),some (.th (.int (k:Int))),some (.th (.int (drawn n (k:Int)))),some (.th (.lst ((nxW R w).map tS)))] =
   some (.nx [some (.th (RT R)),t1,some (.th (.int n)),some (.th (tS w)),some (.th (.int (k:Int))),some (.th (.int (drawn n (k:Int)))),some (.th (.lst (L.map tS)))]):=by
  have md:Z4m (.int (drawn n (k:Int))) (.int 2)=some (.int (drawn n (k:Int)%2)):=mod_int (by decide)
  have c:ZU (f2 oEq (f2 Z4m (Zb 5) (fC (.int 2))) (fC (.int 1))) [some (.th (RT R)),t1,some (.th (.int n)),some (.th (tS w)),some (.th (.int (k:Int))),some (.th (.int (drawn n (k:Int)))),some (.th (.lst ((nxW R w).map tS)))]=some (drawn n (k:Int)%2 == 1):=by
   simp only[ZU,f2,Zb,fC,gs_,gz_,ob_,md,eq_int]
  cases hb:(drawn n (k:Int)%2 == 1) with
  |false =>
   rw[hb] at c
   refine⟨nxW R w,fun z hz=>?_,by lia,?_⟩
   ·have za:=Z5O hR w h.all z hz
    have zl:z.length≤w.length:=by rcases Zoh hR hz with q|q <;> lia
    exact⟨by exact ZR (by assumption) (by assumption),(Z2s.mp za).2,(ZdM hR one h.all hz).trans h.same⟩
   ·simp only[fIf,c,ob_,Zu,if_false,Z0Y]
  |true =>
   rw[hb] at c
   refine⟨B.filter fun z=>decide (z.length<7),fun z hz=>?_,?_,?_⟩
   ·obtain⟨z1,z2⟩:=Z10.mp hz
    have z2:z.length<7:=of_decide_eq_true z2
    have zb:=bm z z1
    have za:z∈Z41:=Z2s.mpr ⟨by lia,zb.abc⟩
    exact⟨by lia,zb.abc,(ZdM hR one za zb.nx).symm.trans h.same⟩
   ·have:=Z3q (fun z:W=>decide (z.length<7)) B
    lia
   ·simp only[fIf,c,ob_,if_true]
    simp only[Z1a,Z3O,filt,Z2,Z5,Z6]
 have s1:Z1a 5 (ZZ Z0i (Z3 (ZK 2) (Z3 (ZK 4) Z02))) [some (.th (RT R)),t1,some (.th (.int n)),some (.th (tS w)),some (.th (.int (k:Int))),x5,x6]=some (.nx [some (.th (RT R)),t1,some (.th (.int n)),some (.th (tS w)),some (.th (.int (k:Int))),some (.th (.int (drawn n (k:Int)))),x6]):=by
  simp only[Z1a,ZZ,Z3,Z02,ZK,gs_,gz_,ob_,Z2,de,Z5,Z6]
 have s2:Z1a 6 (ZZ Z13 (Z3 (ZK 0) (Z3 (ZK 3) Z02))) [some (.th (RT R)),t1,some (.th (.int n)),some (.th (tS w)),some (.th (.int (k:Int))),some (.th (.int (drawn n (k:Int)))),x6]=some (.nx [some (.th (RT R)),t1,some (.th (.int n)),some (.th (tS w)),some (.th (.int (k:Int))),some (.th (.int (drawn n (k:Int)))),some (.th (.lst ((nxW R w).map tS)))]):=by
  simp only[Z1a,ZZ,Z3,Z02,ZK,gs_,gz_,ob_,Z2,ne,Z5,Z6]
 have nn:oNe (.lst (L.map tS)) (.lst [])=some (.bl (!L.isEmpty)):=by
  unfold oNe
  rw[if_pos (decide_eq_true (by show dpL (L.map tS)+1≤100;rw[Zhn];lia))]
  cases L <;> rfl
 cases hL0:L with
 |nil =>
  refine⟨w,_,_,(((ZS s1).trans (ZS s2)).trans (ZS t3)).trans (b:=(fIf (ZU (f2 oNe (Zb 6) (fC (.lst [])))) (Z1a 3 (f2 oIx (Zb 6) (f2 Z4m (f2 Z7e (Zb 5) (fC (.int 2))) (fCB Z3G (Z3 (Zb 6) Z02))))) Z0Y:FS) [some (.th (RT R)),t1,some (.th (.int n)),some (.th (tS w)),some (.th (.int (k:Int))),some (.th (.int (drawn n (k:Int)))),some (.th (.lst (L.map tS)))]) (c:=some (.nx [some (.th (RT R)),t1,some (.th (.int n)),some (.th (tS w)),some (.th (.int (k:Int))),some (.th (.int (drawn n (k:Int)))),some (.th (.lst (L.map tS)))])) ?_,h⟩
  rw[hL0] at nn
  have nn:oNe (.lst []) (.lst [])=some (.bl false):=rfl
  rw[hL0]
  simp only[Z5Y,fIf,ZU,f2,Zb,fC,gs_,gz_,ob_,nn,Zu,if_false,Z0Y]
 |cons u r =>
  have lp:0<L.length:=by rw[hL0];simp
  obtain⟨j,hj,jl⟩:∃ j:Nat,drawn n (k:Int) / 2%(L.length:Int)=(j:Int)∧j<L.length:=by
   have h1:=Z3w (drawn n (k:Int) / 2) (b:=(L.length:Int)) (by lia)
   have h2:=Z2t (drawn n (k:Int) / 2) (b:=(L.length:Int)) (by lia)
   exact⟨(drawn n (k:Int) / 2%(L.length:Int)).toNat,by lia,by lia⟩
  obtain⟨v,hv⟩:∃ v,L[j]?=some v:=⟨_,Zc jl⟩
  have ix:=ZqI hv
  have dv:Z7e (.int (drawn n (k:Int))) (.int 2)=some (.int (drawn n (k:Int) / 2)):=Z4p (by decide)
  have l1:Z3G [.lst (L.map tS)]=some (.int (L.length:Int)):=by rw[Z68,Ze]
  have md:Z4m (.int (drawn n (k:Int) / 2)) (.int (L.length:Int))=some (.int (j:Int)):=by rw[← hj];exact mod_int (by lia)
  have bt:(!L.isEmpty)=true:=by rw[hL0];rfl
  rw[bt] at nn
  refine⟨v,_,_,(((ZS s1).trans (ZS s2)).trans (ZS t3)).trans (b:=(fIf (ZU (f2 oNe (Zb 6) (fC (.lst [])))) (Z1a 3 (f2 oIx (Zb 6) (f2 Z4m (f2 Z7e (Zb 5) (fC (.int 2))) (fCB Z3G (Z3 (Zb 6) Z02))))) Z0Y:FS) [some (.th (RT R)),t1,some (.th (.int n)),some (.th (tS w)),some (.th (.int (k:Int))),some (.th (.int (drawn n (k:Int)))),some (.th (.lst (L.map tS)))]) (c:=some (.nx [some (.th (RT R)),t1,some (.th (.int n)),some (.th (tS v)),some (.th (.int (k:Int))),some (.th (.int (drawn n (k:Int)))),some (.th (.lst (L.map tS)))])) ?_,hL v (Z01 hv)⟩
  simp only[fIf,ZU,f2,Zb,fC,gs_,gz_,ob_,nn,if_true]
  simp only[Z1a,f2,fCB,Z3,Z02,Zb,fC,gs_,gz_,ob_,Z2,dv,l1,md,ix,Z5,Z6]
theorem ZhT {R:List Ru}(hR:RR R)(one:∀ w∈Z41,ZjP (nxW R) w){a:W}{n:Int}{t1:Option Dv}:∀ (ks:List Nat) (w:W) (x4 x5 x6:Option Dv),Zm2 R a w →
  ∃ (v:W) (y4 y5 y6:Option Dv),Z5P (Zbg 4) bV (ks.map fun (k:Nat)=>Th.int (k:Int)) [some (.th (RT R)),t1,some (.th (.int n)),some (.th (tS w)),x4,x5,x6]=some (.nx [some (.th (RT R)),t1,some (.th (.int n)),some (.th (tS v)),y4,y5,y6])∧Zm2 R a v:=by
 intro ks
 induction ks with
 |nil=>intro w x4 x5 x6 h;exact⟨w,x4,x5,x6,rfl,h⟩
 |cons k ks ih =>
  intro w x4 x5 x6 h
  obtain⟨u,z5,z6,t1',hu⟩:=ZhR hR one h (n:=n) (t1:=t1) k x5 x6
  obtain⟨v,y4,y5,y6,t2,hv⟩:=ih u (some (.th (.int (k:Int)))) z5 z6 hu
  refine⟨v,y4,y5,y6,?_,hv⟩
  rw[ZJ]
  unfold Z5P
  have g:Zbg 4 (.int (k:Int)) [some (.th (RT R)),t1,some (.th (.int n)),some (.th (tS w)),x4,x5,x6]=some [some (.th (RT R)),t1,some (.th (.int n)),some (.th (tS w)),some (.th (.int (k:Int))),x5,x6]:=rfl
  rw[g,ob_,t1']
  exact t2
theorem ZhQ {R:List Ru}(hR:RR R)(one:∀ w∈Z41,ZjP (nxW R) w){a:W}(h:Zm2 R a a)(n:Int):∃ v,Z4v [RT R,tS a,.int n]=some (tS v)∧Zm2 R a v:=by
 obtain⟨q,hq,q7⟩:∃ q:Nat,n%7=(q:Int)∧q≤6:=⟨(n%7).toNat,by lia,by lia⟩
 obtain⟨v,y4,y5,y6,t,hv⟩:=ZhT hR one (n:=n) (t1:=some (.th (tS a))) (Z0L q) a none none none h
 refine⟨v,?_,hv⟩
 unfold Z4v Zbs
 refine Z1t rfl ?_
 refine (ZS (d':=[some (.th (RT R)),some (.th (tS a)),some (.th (.int n)),some (.th (tS a)),none,none,none]) rfl).trans ?_
 refine (ZS (d':=[some (.th (RT R)),some (.th (tS a)),some (.th (.int n)),some (.th (tS v)),y4,y5,y6]) ?_).trans ?_
 ·have md:Z4m (.int n) (.int 7)=some (.int (q:Int)):=by rw[← hq];exact mod_int (by decide)
  have e:Z2l (f2 Z4m (Zb 2) (fC (.int 7))) [some (.th (RT R)),some (.th (tS a)),some (.th (.int n)),some (.th (tS a)),none,none,none]=some (L2.upTo q):=by
   simp only[Z2l,f2,Zb,fC,gs_,gz_,ob_,md]
   rw[if_pos (by lia),Z16]
  rw[Z4o e,Zeu]
  exact t
 ·rfl
theorem Zac {R:List Ru}(hR:RR R){w:W}(hw:w∈Z41){v:List W}(k:Zax (nxW R) w v.length v)(o:ZjP (nxW R) w):ZdK R v=[tS (Z1T R w)]:=by
 obtain⟨d1,d2⟩:=Z4R hR hw
 have m1:=Zlo (k.all.mpr d1) d2
 have l1:=Zj9 hR hw k o
 match he:ZdK R v,l1 with
 |[t],_ =>
  rw[he] at m1
  rw[Z0c] at m1
  rw[m1]
theorem Znh {R:List Ru}(hR:RR R){a b:W}(ha:a∈Z41)(hb:b∈Z41):Z73 [RT R,tS a,tS b]=some (.bl (decide (Z1T R a=Z1T R b))):=by
 have e1:=Zfi hR ha
 have e2:=Zfi hR hb
 unfold Z73 ZmO
 refine Z1t rfl ?_
 show Z2H _ [some (.th (RT R)),some (.th (tS a)),some (.th (tS b))]=_
 simp only[Z2H,f2,ZZ,Z3,Z02,ZK,gs_,gz_,ob_,Z2,e1,e2,ZqB]
theorem Zba {R:List Ru}(hR:RR R)(one:∀ w∈Z41,ZjP (nxW R) w){t0:Option Dv}{a b:W}(ha:a∈Z41)(hb:b∈Z41){made:Bool}(hm:made=true→Z1T R b=Z1T R a) :
  (Z1L (Z1a 5 (ZZ Z5j (Z3 (ZK 1) (Z3 (ZK 2) (Z3 (ZK 3) Z02)))))
   (Z1L (Z1a 6 (ZZ Z73 (Z3 (ZK 1) (Z3 (ZK 2) (Z3 (ZK 3) Z02)))))
   (Z1L (fIf (ZhF (ZdH (ZU (Zk1 "bool" (Zb 6)))) (ZU (f2 oNe (Zb 6) (f2 (Z8v true) (Zb 5) (fC .non))))) (Z2H (fC (.bl false))) Z0Y)
   (Z1L (fIf (ZU (f2 (Z8v false) (Zb 5) (fC .non))) (Z2H (ZoC (Zfh (ZK 4)) (f2 oNe (ZZ Z3M (Z3 (ZK 1) (Z3 (ZK 2) Z02))) (ZZ Z3M (Z3 (ZK 1) (Z3 (ZK 3) Z02)))))) Z0Y)
   (Z2H (ZZ Z3i (Z3 (ZK 1) (Z3 (ZK 5) (Z3 (ZK 2) (Z3 (ZK 3) Z02)))))))))) [t0,some (.th (RT R)),some (.th (tS a)),some (.th (tS b)),some (.th (.bl made)),none,none]=some (.rt (.bl true)):=by
 have se:=Znh hR ha hb
 by_cases h:Z1T R a=Z1T R b
 ·obtain⟨l,re,k1,k2,k3,k4,k5⟩:=Zky hR ha hb h
  have ie:=Zhg hR k1 k2 k3 k4 k5
  rw[decide_eq_true h] at se
  have on:Z8v true (.tup (l.map tS)) .non=some (.bl true):=rfl
  have of_:Z8v false (.tup (l.map tS)) .non=some (.bl false):=rfl
  refine (ZS (d':=[t0,some (.th (RT R)),some (.th (tS a)),some (.th (tS b)),some (.th (.bl made)),some (.th (.tup (l.map tS))),none]) ?_).trans ?_
  ·simp only[Z1a,ZZ,Z3,Z02,ZK,gs_,gz_,ob_,Z2,re,Z5,Z6]
  refine (ZS (d':=[t0,some (.th (RT R)),some (.th (tS a)),some (.th (tS b)),some (.th (.bl made)),some (.th (.tup (l.map tS))),some (.th (.bl true))]) ?_).trans ?_
  ·simp only[Z1a,ZZ,Z3,Z02,ZK,gs_,gz_,ob_,Z2,se,Z5,Z6]
  refine (ZS (d':=[t0,some (.th (RT R)),some (.th (tS a)),some (.th (tS b)),some (.th (.bl made)),some (.th (.tup (l.map tS))),some (.th (.bl true))]) ?_).trans ?_
  ·have q1:oNe (.bl true) (.bl true)=some (.bl false):=rfl
   simp only[fIf,ZhF,ZdH,ZU,Zk1,f2,Zb,fC,gs_,gz_,ob_,Z2,Z7y,on,q1,Z5f,Zu,if_false,Z0Y]
  refine (ZS (d':=[t0,some (.th (RT R)),some (.th (tS a)),some (.th (tS b)),some (.th (.bl made)),some (.th (.tup (l.map tS))),some (.th (.bl true))]) ?_).trans ?_
  ·simp only[fIf,ZU,f2,Zb,fC,gs_,gz_,ob_,of_,Zu,if_false,Z0Y]
  ·simp only[Z2H,ZZ,Z3,Z02,ZK,gs_,gz_,ob_,Z2,ie]
 ·have re:=Zni hR ha hb h
  rw[decide_eq_false h] at se
  have mf:made=false:=by
   cases made with
   |false=>rfl
   |true=>exact absurd (hm rfl).symm h
  subst mf
  obtain⟨v,kv,fe⟩:=Zdo hR ha
  obtain⟨v',kv',fe'⟩:=Zdo hR hb
  rw[Zac hR ha kv (one a ha)] at fe
  rw[Zac hR hb kv' (one b hb)] at fe'
  have on:Z8v true .non .non=some (.bl false):=rfl
  have of_:Z8v false .non .non=some (.bl true):=rfl
  refine (ZS (d':=[t0,some (.th (RT R)),some (.th (tS a)),some (.th (tS b)),some (.th (.bl false)),some (.th .non),none]) ?_).trans ?_
  ·simp only[Z1a,ZZ,Z3,Z02,ZK,gs_,gz_,ob_,Z2,re,Z5,Z6]
  refine (ZS (d':=[t0,some (.th (RT R)),some (.th (tS a)),some (.th (tS b)),some (.th (.bl false)),some (.th .non),some (.th (.bl false))]) ?_).trans ?_
  ·simp only[Z1a,ZZ,Z3,Z02,ZK,gs_,gz_,ob_,Z2,se,Z5,Z6]
  refine (ZS (d':=[t0,some (.th (RT R)),some (.th (tS a)),some (.th (tS b)),some (.th (.bl false)),some (.th .non),some (.th (.bl false))]) ?_).trans ?_
  ·have q1:oNe (.bl false) (.bl false)=some (.bl false):=rfl
   simp only[fIf,ZhF,ZdH,ZU,Zk1,f2,Zb,fC,gs_,gz_,ob_,Z2,Z7y,on,q1,Z5f,Zu,if_false,Z0Y]
  have q1:oNe (.tup [tS (Z1T R a)]) (.tup [tS (Z1T R b)])=some (.bl true):=by
   unfold oNe
   rw[if_pos (by rfl)]
   have:Z0W (.tup [tS (Z1T R a)]) (.tup [tS (Z1T R b)])=false:=by
    show (Z0W (tS (Z1T R a)) (tS (Z1T R b))&&true)=false
    rw[Zc6,decide_eq_false h]
    rfl
   rw[this]
   rfl
  unfold Z1L
  simp only[fIf,ZU,Z2H,ZoC,Zfh,f2,Zb,ZK,fC,ZZ,Z3,Z02,gs_,gz_,ob_,Z2,of_,if_true,fe,fe',q1,Z6d]
theorem holds:∀ ns:List Int,ns.length≤63→Z7w [.lst (ns.map Th.int)]=some (.bl true):=by
 intro ns _
 obtain⟨n0,-,-,m0⟩:=Z9v ns 0 (by decide)
 obtain⟨n1,g1,-,m1⟩:=Z9v ns 1 (by decide)
 obtain⟨n2,g2,-,m2⟩:=Z9v ns 2 (by decide)
 obtain⟨n3,g3,-,m3⟩:=Z9v ns 3 (by decide)
 obtain⟨ts,e0,p0,l0⟩:=Zkx n0
 obtain⟨R,rfl,ok⟩:=ZfQ p0
 rw[Ze] at l0
 have hR:RR R:=⟨by lia,ok⟩
 have e0:Z4k [.int n0]=some (RT R):=e0
 have wd:∀ n:Int,∃ w:W,Z2S [.int n,.str ("abc":Str),.int 5]=some (tS w)∧w.length≤5∧Zkd w:=fun n=>by
  have we:=Zet (n:=n) (most:=5) (le:=("abc":Str)) (by decide) (by decide) (by decide) (by decide)
  refine⟨(Z8L n ("abc":Str) (n%(5+1)).toNat).cps.toList,?_,?_,Z8p .abc _ _⟩
  ·rw[we]
   unfold tS
   rw[Zez]
  ·rw[Zey,Z8o]
   lia
 obtain⟨a,wa,al,ab⟩:=wd n1
 obtain⟨b,wb,bl,bb⟩:=wd n2
 have ha:a∈Z41:=Z2s.mpr ⟨by lia,ab⟩
 have hb:b∈Z41:=Z2s.mpr ⟨by lia,bb⟩
 obtain⟨o,de,d1,d2⟩:=ZlQ hR
 have se:=Zna de
 unfold Z7w ZqG
 refine Z1t rfl ?_
 refine (ZS (d':=[some (Dv.th (.lst (ns.map Th.int))),some (Dv.th (RT R)),none,none,none,none,none]) ?_).trans ?_
 ·simp only[Z1a,ZZ,Z3,Z02,ZK,fC,Z2X,Z18,Zj,ZO,Zz,gs_,gz_,ob_,Z2,m0,e0,Z5,Z6]
 cases o with
 |some u =>
  unfold Z1L
  have sb:(some u:Option W).isNone=false:=rfl
  rw[sb] at se
  simp only[fIf,ZdH,ZU,ZZ,Z3,Z02,ZK,gs_,gz_,ob_,Z2,se,Z6d,if_true,Z2H,fC]
 |none =>
  have sb:(none:Option W).isNone=true:=rfl
  rw[sb] at se
  have one:∀ w∈Z41,ZjP (nxW R) w:=fun w hw=>Zkq hR (d2 rfl) hw
  refine (ZS (d':=[some (Dv.th (.lst (ns.map Th.int))),some (Dv.th (RT R)),none,none,none,none,none]) ?_).trans ?_
  ·simp only[fIf,ZdH,ZU,ZZ,Z3,Z02,ZK,gs_,gz_,ob_,Z2,se,Z5f,Zu,if_false,Z0Y]
  refine (ZS (d':=[some (Dv.th (.lst (ns.map Th.int))),some (Dv.th (RT R)),some (Dv.th (tS a)),none,none,none,none]) ?_).trans ?_
  ·simp only[Z1a,ZZ,Z3,Z02,ZK,fC,gs_,gz_,ob_,Z2,m1,wa,Z5,Z6]
  refine (ZS (d':=[some (Dv.th (.lst (ns.map Th.int))),some (Dv.th (RT R)),some (Dv.th (tS a)),some (Dv.th (tS b)),none,none,none]) ?_).trans ?_
  ·simp only[Z1a,ZZ,Z3,Z02,ZK,fC,gs_,gz_,ob_,Z2,m2,wb,Z5,Z6]
  have md:Z4m (.int n3) (.int 2)=some (.int (n3%2)):=mod_int (by decide)
  have dv:Z7e (.int n3) (.int 2)=some (.int (n3 / 2)):=Z4p (by decide)
  refine (ZS (d':=[some (Dv.th (.lst (ns.map Th.int))),some (Dv.th (RT R)),some (Dv.th (tS a)),some (Dv.th (tS b)),some (Dv.th (.bl (n3%2 == 1))),none,none]) ?_).trans ?_
  ·simp only[Z1a,f2,ZZ,Z3,Z02,ZK,fC,gs_,gz_,ob_,Z2,m3,md,eq_int,Z5,Z6]
  cases hm:(n3%2 == 1) with
  |false =>
   refine (ZS (d':=[some (Dv.th (.lst (ns.map Th.int))),some (Dv.th (RT R)),some (Dv.th (tS a)),some (Dv.th (tS b)),some (Dv.th (.bl false)),none,none]) ?_).trans ?_
   ·simp only[fIf,ZU,ZK,gs_,gz_,ob_,Zu,if_false,Z0Y]
   ·exact Zba hR one ha hb fun z=>by cases z
  |true =>
   obtain⟨v,ve,vn⟩:=ZhQ hR one (a:=a) ⟨by lia,ab,rfl⟩ (n3 / 2)
   refine (ZS (d':=[some (Dv.th (.lst (ns.map Th.int))),some (Dv.th (RT R)),some (Dv.th (tS a)),some (Dv.th (tS v)),some (Dv.th (.bl true)),none,none]) ?_).trans ?_
   ·simp only[fIf,ZU,ZK,gs_,gz_,ob_,if_true]
    simp only[Z1a,f2,ZZ,Z3,Z02,ZK,fC,gs_,gz_,ob_,Z2,m3,dv,ve,Z5,Z6]
   ·exact Zba hR one ha vn.all fun _=>vn.same
end K30
namespace K30
open PySem PySem.Spec PyProof.Rows L2
noncomputable def top (i:Nat):Stmt:=PySem.Challenge.pw_wordmelt_k30_whole_roads.main.body.getD i (.Pass ⟨0,0,0,0⟩)
structure Mg (mg:Str→Option Value):Prop where
 m_bool:mg "bool"=none
 m_enumerate:mg "enumerate"=none
 m_isinstance:mg "isinstance"=none
 m_len:mg "len"=none
 m_list:mg "list"=none
 m_min:mg "min"=none
 m_range:mg "range"=none
 m_reversed:mg "reversed"=none
 m_set:mg "set"=none
 m_sorted:mg "sorted"=none
 m_tuple:mg "tuple"=none
 m_zip:mg "zip"=none
set_option bootstrap.genMatcherCode true
local macro_rules|`(tactic| walk_at "l")=>`(tactic| first|exact Zee rfl|exact Zsu rfl)
set_option bootstrap.genMatcherCode false
section
variable {P:Program}{w:World}{K:Fg_}{mg:Str→Option Value}{base:Heap}
noncomputable abbrev Z5H:Stmt:=top 23
theorem Zb5:Z0O ["_law_number","_law_k","_law_drawn_here"] ["_law_number","_law_k"] (Zt Z5H):=⟨rfl,rfl,rfl,by decide +kernel,rfl,by decide +kernel,by decide +kernel⟩
theorem Zh8 (m:Mg mg) {f:Addr} {fd:Z06} (F:Fun K "_law_drawn" "_law_drawn" Z5H f fd):Z4C P w K mg base CX0 1 f fd ["_law_number","_law_k"] (spF K Z0i):=by
 have nd:=Zb5.nd
 exact Fun.okQ F Zb5 rfl rfl fun cdv A outer s H E hr=>(Zr (Z0g (i:=2) nd (by rfl) (by walk_at "l") (Z26 (QD.pb (Z2w (QD.pb (Z0v (QD.pb (Z0v (Zf (qv 0)) (QD.pb (Z2w (QD.pb ZD) (Zf (qv 1)))))) (QD.pb ZD))) (QD.pb ZD))) (QD.pb ZD))) (Zy (Z0h (QD.pb (Z26 (QD.pb (Z0v (QD.pb (Z0v (QD.pb (Z2w (Zf (qv 2)) (Zf (qv 2)))) (QD.pb (Z2w (QD.pb ZD) (Zf (qv 2)))))) (Zf (qv 1)))) (QD.pb ZD))))))
noncomputable abbrev Z6Y:Stmt:=top 27
theorem ZcN:Z0O ["_law_number","_law_letters","_law_found","_law_k","_law_letter","_law_drawn_here"] ["_law_number","_law_letters"] (Zt Z6Y):=⟨rfl,rfl,rfl,by decide +kernel,rfl,by decide +kernel,by decide +kernel⟩
theorem ZiP (m:Mg mg) {f:Addr} {fd:Z06} (F:Fun K "_law_tame" "_law_tame" Z6Y f fd) (c_l_drawn:Callee P w K mg base 1 "_law_drawn" Z0i):Z4C P w K mg base CX0 2 f fd ["_law_number","_law_letters"] (spF K Z5N):=by
 have nd:=ZcN.nd
 exact Fun.okQ F ZcN rfl rfl fun cdv A outer s H E hr=>(Zr (Z3W (i:=2) nd (by rfl) (by walk_at "l") (ZcV (QD.pb (Z8u (.lst (.cons (.tup (.cons .str (.cons .str .nil)) (by decide)) (.cons (.tup (.cons .str (.cons .str .nil)) (by decide)) (.cons (.tup (.cons .str (.cons .str .nil)) (by decide)) .nil))) (by decide)))) Z1B (Z1g (Znm (QD.pb (Z2w (QD.pb ZD) (QD.pb (Z2f (by rfl) m.m_len (Z0d (Zf (qv 1)) Z0l))))) (QD.pb ZD))))) (Zr (Z2v (Z6D hr (QD.pb (Z26 (Zf (qv 0)) (QD.pb ZD))) (QD.pb ZD)) (Zy (Z3W (i:=2) nd (by rfl) (by walk_at "l") (ZcV (Zf (qv 2)) Z1B (Z1g (Z26 (QD.pb (Z3g (Zf (qv 0)) (QD.pb ZD))) (QD.pb ZD)))))) Z1u) (Zr (Z3B Z0o (by rfl) (Z5L (by rfl) m.m_enumerate (Zq (qv 1))) (Z5i (i:=3) (j:=4) (by rfl) nd (by rfl) (by rfl) (by walk_at "l") (by walk_at "l")) (Zr (Z0g (i:=5) nd (by rfl) (by walk_at "l") (Z05 c_l_drawn (hr.mono (by decide)) (by rfl) (Z8 (Zq (qv 0)) (Z8 (Zq (qv 3)) ZP)))) (Zy (Z2v (Z9Q (QD.pb (Z26 (Zf (qv 5)) (QD.pb ZD))) (QD.pb ZD)) (Zy (Z4h (i:=2) (qv 2) (Z6F (Z8 (Z2w (Zf (qv 4)) (QD.pb (Z0v (QD.pb ZD) (QD.pb (Z26 (QD.pb (Z3g (Zf (qv 5)) (QD.pb ZD))) (QD.pb ZD)))))) (Z8 (Z2w (Zf (qv 4)) (QD.pb (Z26 (QD.pb (Z3g (Zf (qv 5)) (QD.pb ZD))) (QD.pb ZD)))) ZP))))) Z1u)))) (Zy (Z0h (Zf (qv 2)))))))
noncomputable abbrev Z6X:Stmt:=top 24
theorem ZcM:Z0O ["_law_number","_law_letters","_law_most","_law_found","_law_k"] ["_law_number","_law_letters","_law_most"] (Zt Z6X):=⟨rfl,rfl,rfl,by decide +kernel,rfl,by decide +kernel,by decide +kernel⟩
theorem ZiO (m:Mg mg) {f:Addr} {fd:Z06} (F:Fun K "_law_word" "_law_word" Z6X f fd) (c_l_drawn:Callee P w K mg base 1 "_law_drawn" Z0i):Z4C P w K mg base CX0 2 f fd ["_law_number","_law_letters","_law_most"] (spF K Z2S):=by
 have nd:=ZcM.nd
 exact Fun.okQ F ZcM rfl rfl fun cdv A outer s H E hr=>(Zr (Z0g (i:=3) nd (by rfl) (by walk_at "l") ZeG) (Zr (Z3B Z0o (by rfl) (Z4V (by rfl) m.m_range (Z26 (Zf (qv 0)) (QD.pb (Z0v (Zf (qv 2)) (QD.pb ZD))))) (Z7X (i:=4) nd (by rfl) (by walk_at "l")) (Zy (Z0g (i:=3) nd (by rfl) (by walk_at "l") (Z0v (Zf (qv 3)) (QD.pb (Z2G (Zf (qv 1)) (QD.pb (Z26 (QD.pb (Z3g (QD.pb (Z05 c_l_drawn (hr.mono (by decide)) (by rfl) (Z8 (Zq (qv 0)) (Z8 (Zq (qv 4)) ZP)))) (QD.pb ZD))) (QD.pb (Z2f (by rfl) m.m_len (Z0d (Zf (qv 1)) Z0l))))) (fun _ _=>rfl))))))) (Zy (Z0h (Zf (qv 3))))))
noncomputable abbrev Z70:Stmt:=top 25
theorem ZcP:Z0O ["_law_one","_law_other"] ["_law_one","_law_other"] (Zt Z70):=⟨rfl,rfl,rfl,by decide +kernel,rfl,by decide +kernel,by decide +kernel⟩
theorem ZiR (m:Mg mg) {f:Addr} {fd:Z06} (F:Fun K "_law_less" "_law_less" Z70 f fd):Z4C P w K mg base CX0 1 f fd ["_law_one","_law_other"] (spF K Z4Q):=by
 have nd:=ZcP.nd
 exact Fun.okQ F ZcP rfl rfl fun cdv A outer s H E hr=>(Zy (Z0h (QD.pb (Zpp hr (QD.pb (Z6F (Z8 (Z2f (by rfl) m.m_len (Z0d (Zf (qv 0)) Z0l)) (Z8 (Zq (qv 0)) ZP)))) (QD.pb (Z6F (Z8 (Z2f (by rfl) m.m_len (Z0d (Zf (qv 1)) Z0l)) (Z8 (Zq (qv 1)) ZP))))))))
noncomputable abbrev Z6Z:Stmt:=top 26
theorem ZcO:Z0O ["_law_number","_law_letters","_law_left","_law_right"] ["_law_number","_law_letters"] (Zt Z6Z):=⟨rfl,rfl,rfl,by decide +kernel,rfl,by decide +kernel,by decide +kernel⟩
theorem ZiQ (m:Mg mg) {f:Addr} {fd:Z06} (F:Fun K "_law_rule" "_law_rule" Z6Z f fd) (c_l_word:Callee P w K mg base 2 "_law_word" Z2S) (c_l_drawn:Callee P w K mg base 1 "_law_drawn" Z0i) (c_l_less:Callee P w K mg base 1 "_law_less" Z4Q):Z4C P w K mg base CX0 3 f fd ["_law_number","_law_letters"] (spF K Z3h):=by
 have nd:=ZcO.nd
 exact Fun.okQ F ZcO rfl rfl fun cdv A outer s H E hr=>(Zr (Z0g (i:=2) nd (by rfl) (by walk_at "l") (Z0v (QD.pb (Z05 c_l_word (hr.mono (by decide)) (by rfl) (Z8 (Z0v (QD.pb (Z0v (QD.pb (Z2w (QD.pb ZD) (QD.pb (Z3g (Zf (qv 0)) (QD.pb ZD))))) (QD.pb ZD))) (QD.pb (Z26 (Zf (qv 0)) (QD.pb ZD)))) (Z8 (Zq (qv 1)) (Z8 ZD ZP))))) (QD.pb (Z2G (Zf (qv 1)) (QD.pb (Z26 (QD.pb (Z3g (Zf (qv 0)) (QD.pb ZD))) (QD.pb (Z2f (by rfl) m.m_len (Z0d (Zf (qv 1)) Z0l))))) (fun _ _=>rfl))))) (Zr (Z2v (Z6D hr (QD.pb (Z26 (QD.pb (Z3g (Zf (qv 0)) (QD.pb ZD))) (QD.pb ZD))) (QD.pb ZD)) (Zy (Z0g (i:=2) nd (by rfl) (by walk_at "l") (Z1K (QD.pb (Z2w (Zf (qv 2)) (QD.pb ZD))) Z1B (Z1g ZD)))) Z1u) (Zr (Z0g (i:=3) nd (by rfl) (by walk_at "l") (Z05 c_l_word (hr.mono (by decide)) (by rfl) (Z8 (Z05 c_l_drawn (hr.mono (by decide)) (by rfl) (Z8 (Zq (qv 0)) (Z8 ZD ZP))) (Z8 (Zq (qv 1)) (Z8 (Z2f (by rfl) m.m_len (Z0d (Zf (qv 2)) Z0l)) ZP))))) (Zr (Z2v (Z9o (Z5h (Z05 c_l_less (hr.mono (by decide)) (by rfl) (Z8 (Zq (qv 3)) (Z8 (Zq (qv 2)) ZP))))) (Zy (Z0g (i:=3) nd (by rfl) (by walk_at "l") (Z1K (Zf (qv 3)) (Z1g ZD) (Z1g (Z2f (by rfl) m.m_len (Z0d (Zf (qv 2)) Z0l)))))) Z1u) (Zy (Z0h (QD.pb (Z6F (Z8 (Zq (qv 2)) (Z8 (Zq (qv 3)) ZP))))))))))
noncomputable abbrev Z4U:Stmt:=top 28
theorem Zb2:Z0O ["_law_number","_law_letters","_law_found","_law_by"] ["_law_number"] (Zt Z4U):=⟨rfl,rfl,rfl,by decide +kernel,rfl,by decide +kernel,by decide +kernel⟩
theorem Zh5 (m:Mg mg) {f:Addr} {fd:Z06} (F:Fun K "_law_rules" "_law_rules" Z4U f fd) (c_l_tame:Callee P w K mg base 2 "_law_tame" Z5N) (c_l_rule:Callee P w K mg base 3 "_law_rule" Z3h) (c_l_drawn:Callee P w K mg base 1 "_law_drawn" Z0i):Z4C P w K mg base CX0 4 f fd ["_law_number"] (spF K Z4k):=by
 have nd:=Zb2.nd
 exact Fun.okQ F Zb2 rfl rfl fun cdv A outer s H E hr=>(Zr (Z0g (i:=1) nd (by rfl) (by walk_at "l") (Z2G (QD.pb (Z8u (.tup (.cons .str (.cons .str .nil)) (by decide)))) (QD.pb (Z26 (QD.pb (Z3g (Zf (qv 0)) (QD.pb ZD))) (QD.pb ZD))) (fun _ _=>rfl))) (Zr (Z0g (i:=2) nd (by rfl) (by walk_at "l") (Z05 c_l_tame (hr.mono (by decide)) (by rfl) (Z8 (Z3g (Zf (qv 0)) (QD.pb ZD)) (Z8 (Zq (qv 1)) ZP)))) (Zr (Z2v (Z9Q (QD.pb (Z26 (Zf (qv 0)) (QD.pb ZD))) (QD.pb ZD)) (Zy (Z7t (i:=2) nd (by rfl) (by walk_at "l") (by rfl) (Zaj (N:=["_law_number","_law_letters","_law_found","_law_by"]) (sc:=Zt Z4U) (by rfl) (by rfl) (by decide +kernel)) (show (["_law_k","_law_number","_law_letters","_law_found","_law_by"]:List Str).Nodup by decide +kernel) (by rfl) (Z4V (by rfl) m.m_range (Z26 (QD.pb (Z3g (Zf (qv 0)) (QD.pb ZD))) (QD.pb ZD))) (fun _ _ _ _ _=>Z5K) (fun _ _ _ _ _=>(Z05 c_l_rule (hr.mono (by decide)) (by rfl) (Z8 (Z05 c_l_drawn (hr.mono (by decide)) (by rfl) (Z8 (Zq (qv 1)) (Z8 (Z0v (QD.pb ZD) (Zf (qv 0))) ZP))) (Z8 (Zq (qv 2)) ZP)))))) (Zy (Z2v (Z6D hr (QD.pb (Z26 (Zf (qv 0)) (QD.pb ZD))) (QD.pb ZD)) (Zy (Z0g (i:=2) nd (by rfl) (by walk_at "l") (Z0v (Zf (qv 2)) (QD.pb (QF.pd (ZfV (Z8 (Z05 c_l_rule (hr.mono (by decide)) (by rfl) (Z8 (Z05 c_l_drawn (hr.mono (by decide)) (by rfl) (Z8 (Zq (qv 0)) (Z8 ZD ZP))) (Z8 (Zq (qv 1)) ZP))) ZP))))))) Z1u))) (Zr (Z0g (i:=3) nd (by rfl) (by walk_at "l") (Z26 (QD.pb (Z3g (Zf (qv 0)) (QD.pb ZD))) (QD.pb ZD))) (Zy (Z0h (QD.pb (Z4W (by rfl) m.m_tuple (Z0d (QD.pb (Z0v (QD.pb (Z1K (Zf (qv 2)) (Z1g (Zq (qv 3))) Z1B)) (QD.pb (Z1K (Zf (qv 2)) Z1B (Z1g (Zq (qv 3))))))) Z0l)))))))))
noncomputable abbrev Z4a:Stmt:=top 3
theorem Z8P:Z0O ["rule","word","place"] ["rule","word","place"] (Zt Z4a):=⟨rfl,rfl,rfl,by decide +kernel,rfl,by decide +kernel,by decide +kernel⟩
theorem Zd9 (m:Mg mg) {f:Addr} {fd:Z06} (F:Fun K "put_right" "put_right" Z4a f fd):Z4C P w K mg base CX0 1 f fd ["rule","word","place"] (spF K Z1I):=by
 have nd:=Z8P.nd
 exact Fun.okQ F Z8P rfl rfl fun cdv A outer s H E hr=>(Zy (Z0h (QD.pb (Z0v (QD.pb (Z0v (QD.pb (Z1K (Zf (qv 1)) Z1B (Z1g (Zq (qv 2))))) (QD.pb (Z2G (Zf (qv 0)) (QD.pb ZD) (fun _ _=>rfl))))) (QD.pb (Z1K (Zf (qv 1)) (Z1g (Z0v (Zf (qv 2)) (QD.pb (Z2f (by rfl) m.m_len (Z0d (QD.pb (Z2G (Zf (qv 0)) (QD.pb ZD) (fun _ _=>rfl))) Z0l))))) Z1B))))))
noncomputable abbrev Z2F:Stmt:=top 6
theorem Z7W:Z0O ["rules","word","found","first"] ["rules","word"] (Zt Z2F):=⟨rfl,rfl,rfl,by decide +kernel,rfl,by decide +kernel,by decide +kernel⟩
theorem ZbS (m:Mg mg) {f:Addr} {fd:Z06} (F:Fun K "first_next" "first_next" Z2F f fd) (c_put_right:Callee P w K mg base 1 "put_right" Z1I):Z4C P w K mg base CX0 2 f fd ["rules","word"] (spF K Z1s):=by
 have nd:=Z7W.nd
 exact Fun.okQ F Z7W rfl rfl fun cdv A outer s H E hr=>(Zr (ZeE (i:=2) nd (by rfl) (by walk_at "l") (by rfl) (Zaj (N:=["rules","word","found","first"]) (sc:=Zt Z2F) (by rfl) (by rfl) (by decide +kernel)) (show (["k","rule","rules","word","found","first"]:List Str).Nodup by decide +kernel) (by rfl) (by rfl) (Z5L (by rfl) m.m_enumerate (Zq (qv 0))) (fun _ _ _ _ _=>Z5K) (fun _ _ _ _ _=>(Z6F (Z8 (ZfZ (Zf (qv 3)) (QD.pb (Z2G (Zf (qv 1)) (QD.pb ZD) (fun _ _=>rfl)))) (Z8 (Zq (qv 0)) ZP))))) (Zr (Z0g (i:=3) nd (by rfl) (by walk_at "l") (ZkE hr (by rfl) (by rfl) m.m_min (Z0d (QD.pb (QF.pd (Z6C (by rfl) (Zaj (N:=["rules","word","found","first"]) (sc:=Zt Z2F) (by rfl) (by rfl) (by decide +kernel)) (show (["pair","rules","word","found","first"]:List Str).Nodup by decide +kernel) (by rfl) (Z63 (Zq (qv 2))) (fun _ _ _ _ _=>Z6E (Zig (QD.pb (Z2G (Zf (qv 0)) (QD.pb ZD) (fun _ _=>rfl))) (QD.pb ZD))) (fun _ _ _ _ _=>(Zq (qv 0)))))) Z0l) Z5o)) (Zy (Z0h (QD.pb (Zmn (ZfY (Zf (qv 3)) (QD.pb Z5o)) Z5o (Z05 c_put_right (hr.mono (by decide)) (by rfl) (Z8 (Z2G (Zf (qv 0)) (QD.pb (Z2G (Zf (qv 3)) (QD.pb ZD) (fun _ _=>rfl))) (fun _ _=>rfl)) (Z8 (Zq (qv 1)) (Z8 (Z2G (Zf (qv 3)) (QD.pb ZD) (fun _ _=>rfl)) ZP))))))))))
noncomputable abbrev Z3J:Stmt:=top 10
theorem Z7V:Z0O ["rules","word","way"] ["rules","word"] (Zt Z3J):=⟨rfl,rfl,rfl,by decide +kernel,rfl,by decide +kernel,by decide +kernel⟩
theorem ZbR (m:Mg mg) {f:Addr} {fd:Z06} (F:Fun K "way_to_end" "way_to_end" Z3J f fd) (c_first_next:Callee P w K mg base 2 "first_next" Z1s):Z4C P w K mg base CX0 3 f fd ["rules","word"] (spN K Z2R):=by
 have nd:=Z7V.nd
 exact Fun.okN F Z7V rfl rfl fun cdv A outer s H E hr=>(Zd1 (Z3W (i:=2) nd (by rfl) (by walk_at "l") (Z7s .nil (by decide))).out (Zd1 (Z5J Z0o (ZcY (Zf (qv 1)) (QD.pb Z5o)) (Zr (Z4h (i:=2) (qv 2) (Zq (qv 1))) (Zy (Z0g (i:=1) nd (by rfl) (by walk_at "l") (Z05 c_first_next (hr.mono (by decide)) (by rfl) (Z8 (Zq (qv 0)) (Z8 (Zq (qv 1)) ZP))))))).out (ZkG (qv 2).out)))
noncomputable abbrev Zb8:Stmt:=top 8
theorem Zi9:Z0O ["rules","one","other","down","up"] ["rules","one","other"] (Zt Zb8):=⟨rfl,rfl,rfl,by decide +kernel,rfl,by decide +kernel,by decide +kernel⟩
theorem Zob (m:Mg mg) {f:Addr} {fd:Z06} (F:Fun K "road" "road" Zb8 f fd) (c_way_to_end:Zcl P w K mg base 3 "way_to_end" Z2R):Z4C P w K mg base CX0 4 f fd ["rules","one","other"] (spF K Z5j):=by
 have nd:=Zi9.nd
 exact Fun.okQ F Zi9 rfl rfl fun cdv A outer s H E hr=>(Zr (Z3W (i:=3) nd (by rfl) (by walk_at "l") (ZcX c_way_to_end (hr.mono (by decide)) (by rfl) (Z8 (Zq (qv 0)) (Z8 (Zq (qv 1)) ZP)))) (Zr (Z3W (i:=4) nd (by rfl) (by walk_at "l") (ZcX c_way_to_end (hr.mono (by decide)) (by rfl) (Z8 (Zq (qv 0)) (Z8 (Zq (qv 2)) ZP)))) (Zr (Z2v (Z9P hr (QD.pb (Z2G (Zf (qv 3)) (QD.pb (Z7u ZD)) (fun _ _=>rfl))) (QD.pb (Z2G (Zf (qv 4)) (QD.pb (Z7u ZD)) (fun _ _=>rfl)))) (Zy (Z0h (QD.pb Z5o))) Z1u) (Zr (Z5J Z0o (QW.pdt (ZfX (Z9Q (QD.pb (Z2f (by rfl) m.m_len (Z0d (Zf (qv 3)) Z0l))) (QD.pb ZD)) (ZfX (Z9Q (QD.pb (Z2f (by rfl) m.m_len (Z0d (Zf (qv 4)) Z0l))) (QD.pb ZD)) (Zif (Z6D hr (QD.pb (Z2G (Zf (qv 3)) (QD.pb (Z7u ZD)) (fun _ _=>rfl))) (QD.pb (Z2G (Zf (qv 4)) (QD.pb (Z7u ZD)) (fun _ _=>rfl)))))))) (Zr (ZcZ (j:=3) (qv 3)) (Zy (ZcZ (j:=4) (qv 4))))) (Zy (Z0h (QD.pb (Z4W (by rfl) m.m_tuple (Z0d (QD.pb (Z0v (Zf (qv 3)) (QD.pb (ZeH (by rfl) (by rfl) m.m_list (by rfl) m.m_reversed (Z0d (QD.pb (Z1K (Zf (qv 4)) Z1B (Z1g (Z7u ZD)))) Z0l))))) Z0l)))))))))
noncomputable abbrev ZgP:Stmt:=top 5
theorem Zmh:Z0O ["rules","word","behind"] ["rules","word"] (Zt ZgP):=⟨rfl,rfl,rfl,by decide +kernel,rfl,by decide +kernel,by decide +kernel⟩
theorem Zqb (m:Mg mg) {f:Addr} {fd:Z06} (F:Fun K "end" "end" ZgP f fd) (c_first_next:Callee P w K mg base 2 "first_next" Z1s):Z4C P w K mg base CX0 3 f fd ["rules","word"] (spF K Z5p):=by
 have nd:=Zmh.nd
 exact Fun.okQ F Zmh rfl rfl fun cdv A outer s H E hr=>(Zr (Z0g (i:=2) nd (by rfl) (by walk_at "l") (Z05 c_first_next (hr.mono (by decide)) (by rfl) (Z8 (Zq (qv 0)) (Z8 (Zq (qv 1)) ZP)))) (Zr (Z5J Z0o (ZcY (Zf (qv 2)) (QD.pb Z5o)) (Zr (Z0g (i:=1) nd (by rfl) (by walk_at "l") (Zq (qv 2))) (Zy (Z0g (i:=2) nd (by rfl) (by walk_at "l") (Z05 c_first_next (hr.mono (by decide)) (by rfl) (Z8 (Zq (qv 0)) (Z8 (Zq (qv 1)) ZP))))))) (Zy (Z0h (Zf (qv 1))))))
noncomputable abbrev Zb7:Stmt:=top 9
theorem Zi8:Z0O ["rules","one","other"] ["rules","one","other"] (Zt Zb7):=⟨rfl,rfl,rfl,by decide +kernel,rfl,by decide +kernel,by decide +kernel⟩
theorem Zoa (m:Mg mg) {f:Addr} {fd:Z06} (F:Fun K "same" "same" Zb7 f fd) (c_end:Callee P w K mg base 3 "end" Z5p):Z4C P w K mg base CX0 4 f fd ["rules","one","other"] (spF K Z73):=by
 have nd:=Zi8.nd
 exact Fun.okQ F Zi8 rfl rfl fun cdv A outer s H E hr=>(Zy (Z0h (QD.pb (Zmo hr (QD.pb (Z05 c_end (hr.mono (by decide)) (by rfl) (Z8 (Zq (qv 0)) (Z8 (Zq (qv 1)) ZP)))) (QD.pb (Z05 c_end (hr.mono (by decide)) (by rfl) (Z8 (Zq (qv 0)) (Z8 (Zq (qv 2)) ZP))))))))
noncomputable abbrev Z4d:Stmt:=top 29
theorem Z9M:Z0O ["_law_rules_here","_law_word_here","_law_found","_law_place"] ["_law_rules_here","_law_word_here"] (Zt Z4d):=⟨rfl,rfl,rfl,by decide +kernel,rfl,by decide +kernel,by decide +kernel⟩
theorem ZeS (m:Mg mg) {f:Addr} {fd:Z06} (F:Fun K "_law_places" "_law_places" Z4d f fd):Z4C P w K mg base CX0 1 f fd ["_law_rules_here","_law_word_here"] (spF K Z4w):=by
 have nd:=Z9M.nd
 exact Fun.okQ F Z9M rfl rfl fun cdv A outer s H E hr=>(Zr (Z0g (i:=2) nd (by rfl) (by walk_at "l") (Z8u (.lst .nil (by decide)))) (Zr (Z3B Z0o (by rfl) (Z4V (by rfl) m.m_range (Z2f (by rfl) m.m_len (Z0d (Zf (qv 1)) Z0l))) (Z7X (i:=3) nd (by rfl) (by walk_at "l")) (Zy (Z0g (i:=2) nd (by rfl) (by walk_at "l") (Z0v (Zf (qv 2)) (QD.pb (QF.pd (ZcW (by rfl) (Zaj (N:=["_law_rules_here","_law_word_here","_law_found","_law_place"]) (sc:=Zt Z4d) (by rfl) (by rfl) (by decide +kernel)) (show (["_law_k","_law_rule_here","_law_rules_here","_law_word_here","_law_found","_law_place"]:List Str).Nodup by decide +kernel) (by rfl) (by rfl) (Z5L (by rfl) m.m_enumerate (Zq (qv 0))) (fun _ _ _ _ _=>Z6E (Z5h (Z8t (QD.pb (Z1K (Zf (qv 3)) (Z1g (Zq (qv 5))) Z1B)) (QD.pb (Z2G (Zf (qv 1)) (QD.pb ZD) (fun _ _=>rfl)))))) (fun _ _ _ _ _=>(Z6F (Z8 (Zq (qv 5)) (Z8 (Zq (qv 0)) ZP))))))))))) (Zy (Z0h (Zf (qv 2))))))
noncomputable abbrev Z4f:Stmt:=top 30
theorem Z8S:Z0O ["_law_rules_here","_law_word_here","_law_place","_law_k","_law_left","_law_right"] ["_law_rules_here","_law_word_here","_law_place","_law_k"] (Zt Z4f):=⟨rfl,rfl,rfl,by decide +kernel,rfl,by decide +kernel,by decide +kernel⟩
theorem Zdc (m:Mg mg) {f:Addr} {fd:Z06} (F:Fun K "_law_changed" "_law_changed" Z4f f fd):Z4C P w K mg base CX0 1 f fd ["_law_rules_here","_law_word_here","_law_place","_law_k"] (spF K Z2K):=by
 have nd:=Z8S.nd
 exact Fun.okQ F Z8S rfl rfl fun cdv A outer s H E hr=>(Zr (ZkB (Z2G (Zf (qv 0)) (Zf (qv 3)) (fun _ _=>rfl)) (Z5i (i:=4) (j:=5) (by rfl) nd (by rfl) (by rfl) (by walk_at "l") (by walk_at "l"))) (Zy (Z0h (QD.pb (Z0v (QD.pb (Z0v (QD.pb (Z1K (Zf (qv 1)) Z1B (Z1g (Zq (qv 2))))) (Zf (qv 5)))) (QD.pb (Z1K (Zf (qv 1)) (Z1g (Z0v (Zf (qv 2)) (QD.pb (Z2f (by rfl) m.m_len (Z0d (Zf (qv 4)) Z0l))))) Z1B)))))))
noncomputable abbrev Z5F:Stmt:=top 31
theorem Zb3:Z0O ["_law_rules_here","_law_word_here","_law_found","_law_place","_law_k"] ["_law_rules_here","_law_word_here"] (Zt Z5F):=⟨rfl,rfl,rfl,by decide +kernel,rfl,by decide +kernel,by decide +kernel⟩
theorem Zh6 (m:Mg mg) {f:Addr} {fd:Z06} (F:Fun K "_law_nexts" "_law_nexts" Z5F f fd) (c_l_places:Callee P w K mg base 1 "_law_places" Z4w) (c_l_changed:Callee P w K mg base 1 "_law_changed" Z2K):Z4C P w K mg base CX0 2 f fd ["_law_rules_here","_law_word_here"] (spF K Z13):=by
 have nd:=Zb3.nd
 exact Fun.okQ F Zb3 rfl rfl fun cdv A outer s H E hr=>(Zr (Z3W (i:=2) nd (by rfl) (by walk_at "l") (Z7s .nil (by decide))) (Zr (Z3B Z0o (by rfl) (ZbO (Z05 c_l_places (hr.mono (by decide)) (by rfl) (Z8 (Zq (qv 0)) (Z8 (Zq (qv 1)) ZP)))) (Z5i (i:=3) (j:=4) (by rfl) nd (by rfl) (by rfl) (by walk_at "l") (by walk_at "l")) (Zy (Z4h (i:=2) (qv 2) (Z05 c_l_changed (hr.mono (by decide)) (by rfl) (Z8 (Zq (qv 0)) (Z8 (Zq (qv 1)) (Z8 (Zq (qv 3)) (Z8 (Zq (qv 4)) ZP)))))))) (Zy (Z0h (QD.pb (QF.pd (Z62 (by rfl) (by rfl) m.m_sorted (by rfl) m.m_set (Z0d (Zf (qv 2)) Z0l))))))))
noncomputable abbrev Z4e:Stmt:=top 35
theorem Z8R:Z0O ["_law_rules_here","_law_some","_law_one","_law_other","_law_here","_law_there"] ["_law_rules_here","_law_some","_law_one","_law_other"] (Zt Z4e):=⟨rfl,rfl,rfl,by decide +kernel,rfl,by decide +kernel,by decide +kernel⟩
theorem Zdb (m:Mg mg) {f:Addr} {fd:Z06} (F:Fun K "_law_is_road" "_law_is_road" Z4e f fd) (c_l_nexts:Callee P w K mg base 2 "_law_nexts" Z13):Z4C P w K mg base CX0 3 f fd ["_law_rules_here","_law_some","_law_one","_law_other"] (spF K Z3i):=by
 have nd:=Z8R.nd
 exact Fun.okQ F Z8R rfl rfl fun cdv A outer s H E hr=>(Zr (Z2v (QW.pdt (ZbN (Z9o (Z5h (Zih Zay.tuple (Zf (qv 1)) (by rfl) m.m_isinstance (by rfl) m.m_tuple (by rfl)))) (ZbN (Z6D hr (Zf (qv 1)) (QD.pb (Z8u (.tup .nil (by decide))))) (ZbN (Z9P hr (QD.pb (Z2G (Zf (qv 1)) (QD.pb ZD) (fun _ _=>rfl))) (Zf (qv 2))) (ZfW (Z9P hr (QD.pb (Z2G (Zf (qv 1)) (QD.pb (Z7u ZD)) (fun _ _=>rfl))) (Zf (qv 3)))))))) (Zy (Z0h (QD.pb Zd0))) Z1u) (Zr (Z3B Z0o (by rfl) (ZkC (by rfl) m.m_zip (Z1K (Zf (qv 1)) Z1B (Z1g (Z7u ZD))) (Z1K (Zf (qv 1)) (Z1g ZD) Z1B)) (Z5i (i:=4) (j:=5) (by rfl) nd (by rfl) (by rfl) (by walk_at "l") (by walk_at "l")) (Zy (Z2v (Z8s hr (Zf (qv 5)) (QD.pb (Z05 c_l_nexts (hr.mono (by decide)) (by rfl) (Z8 (Zq (qv 0)) (Z8 (Zq (qv 4)) ZP))))) (Zy (Z2v (Z8s hr (Zf (qv 4)) (QD.pb (Z05 c_l_nexts (hr.mono (by decide)) (by rfl) (Z8 (Zq (qv 0)) (Z8 (Zq (qv 5)) ZP))))) (Zy (Z0h (QD.pb Zd0))) Z1u)) Z1u))) (Zy (Z0h (QD.pb Zd0)))))
noncomputable abbrev Z4g:Stmt:=top 21
theorem Z8T:Z0O ["_law_script","_law_k"] ["_law_script","_law_k"] (Zt Z4g):=⟨rfl,rfl,rfl,by decide +kernel,rfl,by decide +kernel,by decide +kernel⟩
theorem Zdd (m:Mg mg) {f:Addr} {fd:Z06} (F:Fun K "_law_cell_at" "_law_cell_at" Z4g f fd):Z4C P w K mg base CX0 1 f fd ["_law_script","_law_k"] (spF K Z3j):=by
 have nd:=Z8T.nd
 exact Fun.okQ F Z8T rfl rfl fun cdv A outer s H E hr=>(Zr (Z2v (ZeD hr (Zf (qv 1)) (QD.pb (Z2f (by rfl) m.m_len (Z0d (Zf (qv 0)) Z0l)))) (Zy (Z0h (QD.pb (Z2G (Zf (qv 0)) (Zf (qv 1)) (fun _ _=>rfl))))) Z1u) (Zy (Z0h (QD.pb ZD))))
noncomputable abbrev Z5G:Stmt:=top 22
theorem Zb4:Z0O ["_law_script","_law_k","_law_drawn_here"] ["_law_script","_law_k"] (Zt Z5G):=⟨rfl,rfl,rfl,by decide +kernel,rfl,by decide +kernel,by decide +kernel⟩
theorem Zh7 (m:Mg mg) {f:Addr} {fd:Z06} (F:Fun K "_law_mixed" "_law_mixed" Z5G f fd) (c_l_cell_at:Callee P w K mg base 1 "_law_cell_at" Z3j):Z4C P w K mg base CX0 2 f fd ["_law_script","_law_k"] (spF K Z2J):=by
 have nd:=Zb4.nd
 exact Fun.okQ F Zb4 rfl rfl fun cdv A outer s H E hr=>(Zr (Z0g (i:=2) nd (by rfl) (by walk_at "l") (Z26 (QD.pb (Z2w (QD.pb (Z0v (QD.pb (Z0v (QD.pb (Z05 c_l_cell_at (hr.mono (by decide)) (by rfl) (Z8 (Zq (qv 0)) (Z8 (Zq (qv 1)) ZP)))) (QD.pb (Z2w (QD.pb ZD) (Zf (qv 1)))))) (QD.pb ZD))) (QD.pb ZD))) (QD.pb ZD))) (Zy (Z0h (QD.pb (Z26 (QD.pb (Z0v (QD.pb (Z0v (QD.pb (Z2w (Zf (qv 2)) (Zf (qv 2)))) (QD.pb (Z2w (QD.pb ZD) (Zf (qv 2)))))) (Zf (qv 1)))) (QD.pb ZD))))))
noncomputable abbrev Z5E:Stmt:=top 16
theorem Zb1:Z0O ["left","other","place"] ["left","other","place"] (Zt Z5E):=⟨rfl,rfl,rfl,by decide +kernel,rfl,by decide +kernel,by decide +kernel⟩
theorem Zh4 (m:Mg mg) {f:Addr} {fd:Z06} (F:Fun K "overlay" "overlay" Z5E f fd):Z4C P w K mg base CX0 1 f fd ["left","other","place"] (spF K Z4j):=by
 have nd:=Zb1.nd
 exact Fun.okQ F Zb1 rfl rfl fun cdv A outer s H E hr=>(Zy (Z0h (QD.pb (Z0v (QD.pb (Z0v (QD.pb (Z1K (Zf (qv 0)) Z1B (Z1g (Zq (qv 2))))) (Zf (qv 1)))) (QD.pb (Z1K (Zf (qv 0)) (Z1g (Z0v (Zf (qv 2)) (QD.pb (Z2f (by rfl) m.m_len (Z0d (Zf (qv 1)) Z0l))))) Z1B))))))
noncomputable abbrev Z3K:Stmt:=top 15
theorem Z9K:Z0O ["left","other","start","words"] ["left","other","start"] (Zt Z3K):=⟨rfl,rfl,rfl,by decide +kernel,rfl,by decide +kernel,by decide +kernel⟩
theorem ZeQ (m:Mg mg) {f:Addr} {fd:Z06} (F:Fun K "overlays" "overlays" Z3K f fd) (c_overlay:Callee P w K mg base 1 "overlay" Z4j):Z4C P w K mg base CX0 2 f fd ["left","other","start"] (spF K Z3L):=by
 have nd:=Z9K.nd
 exact Fun.okQ F Z9K rfl rfl fun cdv A outer s H E hr=>(Zr (Z7t (i:=3) nd (by rfl) (by walk_at "l") (by rfl) (Zaj (N:=["left","other","start","words"]) (sc:=Zt Z3K) (by rfl) (by rfl) (by decide +kernel)) (show (["place","left","other","start","words"]:List Str).Nodup by decide +kernel) (by rfl) (ZeF (by rfl) m.m_range (Zq (qv 2)) (Z2f (by rfl) m.m_len (Z0d (Zf (qv 0)) Z0l))) (fun _ _ _ _ _=>Z5K) (fun _ _ _ _ _=>(Z05 c_overlay (hr.mono (by decide)) (by rfl) (Z8 (Zq (qv 1)) (Z8 (Zq (qv 2)) (Z8 (Zq (qv 0)) ZP)))))) (Zy (Z0h (QD.pb (QF.pd (Z6C (by rfl) (Zaj (N:=["left","other","start","words"]) (sc:=Zt Z3K) (by rfl) (by rfl) (by decide +kernel)) (show (["word","left","other","start","words"]:List Str).Nodup by decide +kernel) (by rfl) (Z63 (Zq (qv 3))) (fun _ _ _ _ _=>Z6E (Z5h (Z8t (Zf (qv 0)) (Zf (qv 1))))) (fun _ _ _ _ _=>(Zq (qv 0)))))))))
noncomputable abbrev Z5I:Stmt:=top 14
theorem Zb6:Z0O ["rules","found","i","rule","j","other"] ["rules"] (Zt Z5I):=⟨rfl,rfl,rfl,by decide +kernel,rfl,by decide +kernel,by decide +kernel⟩
theorem Zh9 (m:Mg mg) {f:Addr} {fd:Z06} (F:Fun K "clashes" "clashes" Z5I f fd) (c_overlays:Callee P w K mg base 2 "overlays" Z3L):Z4C P w K mg base CX0 3 f fd ["rules"] (spF K Z4l):=by
 have nd:=Zb6.nd
 exact Fun.okQ F Zb6 rfl rfl fun cdv A outer s H E hr=>(Zr (Z3W (i:=1) nd (by rfl) (by walk_at "l") (Z7s .nil (by decide))) (Zr (Z3B Z0o (by rfl) (Z5L (by rfl) m.m_enumerate (Zq (qv 0))) (Z5i (i:=2) (j:=3) (by rfl) nd (by rfl) (by rfl) (by walk_at "l") (by walk_at "l")) (Zy (Z3B Z0o (by rfl) (Z5L (by rfl) m.m_enumerate (Zq (qv 0))) (Z5i (i:=4) (j:=5) (by rfl) nd (by rfl) (by rfl) (by walk_at "l") (by walk_at "l")) (Zy (Z9R (i:=1) (qv 1) (QD.pb (Z05 c_overlays (hr.mono (by decide)) (by rfl) (Z8 (Z2G (Zf (qv 3)) (QD.pb ZD) (fun _ _=>rfl)) (Z8 (Z2G (Zf (qv 5)) (QD.pb ZD) (fun _ _=>rfl)) (Z8 (Zmn (Z6D hr (Zf (qv 2)) (Zf (qv 4))) ZD ZD) ZP)))))))))) (Zy (Z0h (QD.pb (Z4W (by rfl) m.m_tuple (Z0d (QD.pb (QF.pd (Z62 (by rfl) (by rfl) m.m_sorted (by rfl) m.m_set (Z0d (Zf (qv 1)) Z0l)))) Z0l)))))))
noncomputable abbrev Zb9:Stmt:=top 12
theorem Zia:Z0O ["word"] ["word"] (Zt Zb9):=⟨rfl,rfl,rfl,by decide +kernel,rfl,by decide +kernel,by decide +kernel⟩
theorem Zoc (m:Mg mg) {f:Addr} {fd:Z06} (F:Fun K "rank" "rank" Zb9 f fd):Z4C P w K mg base CX0 1 f fd ["word"] (spF K Z64):=by
 have nd:=Zia.nd
 exact Fun.okQ F Zia rfl rfl fun cdv A outer s H E hr=>(Zy (Z0h (QD.pb (Z6F (Z8 (Z2f (by rfl) m.m_len (Z0d (Zf (qv 0)) Z0l)) (Z8 (Zq (qv 0)) ZP))))))
noncomputable abbrev Z4b:Stmt:=top 2
theorem Z8Q:Z0O ["left","word","found","place"] ["left","word"] (Zt Z4b):=⟨rfl,rfl,rfl,by decide +kernel,rfl,by decide +kernel,by decide +kernel⟩
theorem Zda (m:Mg mg) {f:Addr} {fd:Z06} (F:Fun K "places_of" "places_of" Z4b f fd):Z4C P w K mg base CX0 1 f fd ["left","word"] (spF K Z1J):=by
 have nd:=Z8Q.nd
 exact Fun.okQ F Z8Q rfl rfl fun cdv A outer s H E hr=>(Zr (Z3W (i:=2) nd (by rfl) (by walk_at "l") (Z7s .nil (by decide))) (Zr (Z0g (i:=3) nd (by rfl) (by walk_at "l") (ZfZ (Zf (qv 1)) (Zf (qv 0)))) (Zr (Z5J Z0o (Zig (Zf (qv 3)) (QD.pb ZD)) (Zr (Z4h (i:=2) (qv 2) (Zq (qv 3))) (Zy (Z0g (i:=3) nd (by rfl) (by walk_at "l") (Zii (Zf (qv 1)) (Zf (qv 0)) (QD.pb (Z0v (Zf (qv 3)) (QD.pb ZD)))))))) (Zy (Z0h (Zf (qv 2)))))))
noncomputable abbrev Z60:Stmt:=top 1
theorem ZcL:Z0O ["rules","word","found","k","rule"] ["rules","word"] (Zt Z60):=⟨rfl,rfl,rfl,by decide +kernel,rfl,by decide +kernel,by decide +kernel⟩
theorem ZiN (m:Mg mg) {f:Addr} {fd:Z06} (F:Fun K "places" "places" Z60 f fd) (c_places_of:Callee P w K mg base 1 "places_of" Z1J):Z4C P w K mg base CX0 2 f fd ["rules","word"] (spF K Z4i):=by
 have nd:=ZcL.nd
 exact Fun.okQ F ZcL rfl rfl fun cdv A outer s H E hr=>(Zr (Z3W (i:=2) nd (by rfl) (by walk_at "l") (Z7s .nil (by decide))) (Zr (Z3B Z0o (by rfl) (Z5L (by rfl) m.m_enumerate (Zq (qv 0))) (Z5i (i:=3) (j:=4) (by rfl) nd (by rfl) (by rfl) (by walk_at "l") (by walk_at "l")) (Zy (Z9R (i:=2) (qv 2) (QD.pb (QF.pd (Z6C (by rfl) (Zaj (N:=["rules","word","found","k","rule"]) (sc:=Zt Z60) (by rfl) (by rfl) (by decide +kernel)) (show (["place","rules","word","found","k","rule"]:List Str).Nodup by decide +kernel) (by rfl) (Z63 (Z05 c_places_of (hr.mono (by decide)) (by rfl) (Z8 (Z2G (Zf (qv 4)) (QD.pb ZD) (fun _ _=>rfl)) (Z8 (Zq (qv 1)) ZP)))) (fun _ _ _ _ _=>Z5K) (fun _ _ _ _ _=>(Z6F (Z8 (Zq (qv 0)) (Z8 (Zq (qv 4)) ZP)))))))))) (Zy (Z0h (QD.pb (Z4W (by rfl) m.m_tuple (Z0d (QD.pb (QF.pd (ZcU (by rfl) m.m_sorted (Z0d (Zf (qv 2)) Z0l)))) Z0l)))))))
noncomputable abbrev Z7r:Stmt:=top 4
theorem ZfO:Z0O ["rules","word"] ["rules","word"] (Zt Z7r):=⟨rfl,rfl,rfl,by decide +kernel,rfl,by decide +kernel,by decide +kernel⟩
theorem Zlc (m:Mg mg) {f:Addr} {fd:Z06} (F:Fun K "nexts" "nexts" Z7r f fd) (c_put_right:Callee P w K mg base 1 "put_right" Z1I) (c_places:Callee P w K mg base 2 "places" Z4i):Z4C P w K mg base CX0 3 f fd ["rules","word"] (spF K Z5M):=by
 have nd:=ZfO.nd
 exact Fun.okQ F ZfO rfl rfl fun cdv A outer s H E hr=>(Zy (Z0h (QD.pb (Z4W (by rfl) m.m_tuple (Z0d (QD.pb (QF.pd (Z62 (by rfl) (by rfl) m.m_sorted (by rfl) m.m_set (Z0d (QD.pb (QF.pd (ZcW (by rfl) (Zaj (N:=["rules","word"]) (sc:=Zt Z7r) (by rfl) (by rfl) (by decide +kernel)) (show (["place","k","rules","word"]:List Str).Nodup by decide +kernel) (by rfl) (by rfl) (ZbO (Z05 c_places (hr.mono (by decide)) (by rfl) (Z8 (Zq (qv 0)) (Z8 (Zq (qv 1)) ZP)))) (fun _ _ _ _ _=>Z5K) (fun _ _ _ _ _=>(Z05 c_put_right (hr.mono (by decide)) (by rfl) (Z8 (Z2G (Zf (qv 2)) (Zf (qv 1)) (fun _ _=>rfl)) (Z8 (Zq (qv 3)) (Z8 (Zq (qv 0)) ZP)))))))) Z0l)))) Z0l)))))
noncomputable abbrev Z25:Stmt:=top 19
theorem Z6i:Z0O ["rules","word"] ["rules","word"] (Zt Z25):=⟨rfl,rfl,rfl,by decide +kernel,rfl,by decide +kernel,by decide +kernel⟩
theorem Z9f (m:Mg mg) {f:Addr} {fd:Z06} (F:Fun K "ends_of_nexts" "ends_of_nexts" Z25 f fd) (c_end:Callee P w K mg base 3 "end" Z5p) (c_nexts:Callee P w K mg base 3 "nexts" Z5M):Z4C P w K mg base CX0 4 f fd ["rules","word"] (spF K Z1h):=by
 have nd:=Z6i.nd
 exact Fun.okQ F Z6i rfl rfl fun cdv A outer s H E hr=>(Zy (Z0h (QD.pb (Z4W (by rfl) m.m_tuple (Z0d (QD.pb (QF.pd (Z62 (by rfl) (by rfl) m.m_sorted (by rfl) m.m_set (Z0d (QD.pb (QF.pd (Z6C (by rfl) (Zaj (N:=["rules","word"]) (sc:=Zt Z25) (by rfl) (by rfl) (by decide +kernel)) (show (["behind","rules","word"]:List Str).Nodup by decide +kernel) (by rfl) (Z63 (Z05 c_nexts (hr.mono (by decide)) (by rfl) (Z8 (Zq (qv 0)) (Z8 (Zq (qv 1)) ZP)))) (fun _ _ _ _ _=>Z5K) (fun _ _ _ _ _=>(Z05 c_end (hr.mono (by decide)) (by rfl) (Z8 (Zq (qv 1)) (Z8 (Zq (qv 0)) ZP))))))) Z0l)))) Z0l)))))
noncomputable abbrev Z8r:Stmt:=top 17
theorem ZfP:Z0O ["rules","word"] ["rules"] (Zt Z8r):=⟨rfl,rfl,rfl,by decide +kernel,rfl,by decide +kernel,by decide +kernel⟩
theorem Zld (m:Mg mg) {f:Addr} {fd:Z06} (F:Fun K "doubt" "doubt" Z8r f fd) (c_clashes:Callee P w K mg base 3 "clashes" Z4l) (c_rank:Callee P w K mg base 1 "rank" Z64) (c_ends_of_nexts:Callee P w K mg base 4 "ends_of_nexts" Z1h):Z4C P w K mg base CX0 5 f fd ["rules"] (spF K Z4X):=by
 have nd:=ZfP.nd
 exact Fun.okQ F ZfP rfl rfl fun cdv A outer s H E hr=>(Zr (Z3B Z0o (by rfl) (Z63 (QF.pd (Zie c_rank (hr.mono (by decide)) (by rfl) (by rfl) m.m_sorted (Z0d (QD.pb (Z05 c_clashes (hr.mono (by decide)) (by rfl) (Z8 (Zq (qv 0)) ZP))) Z0l)))) (Z7X (i:=1) nd (by rfl) (by walk_at "l")) (Zy (Z2v (Z9Q (QD.pb (Z2f (by rfl) m.m_len (Z0d (QD.pb (Z05 c_ends_of_nexts (hr.mono (by decide)) (by rfl) (Z8 (Zq (qv 0)) (Z8 (Zq (qv 1)) ZP)))) Z0l))) (QD.pb ZD)) (Zy (Z0h (Zf (qv 1)))) Z1u))) (Zy (Z0h (QD.pb Z5o))))
noncomputable abbrev Z4P:Stmt:=top 18
theorem Z9N:Z0O ["rules"] ["rules"] (Zt Z4P):=⟨rfl,rfl,rfl,by decide +kernel,rfl,by decide +kernel,by decide +kernel⟩
theorem ZeT (m:Mg mg) {f:Addr} {fd:Z06} (F:Fun K "are_sure" "are_sure" Z4P f fd) (c_doubt:Callee P w K mg base 5 "doubt" Z4X):Z4C P w K mg base CX0 6 f fd ["rules"] (spF K Z4x):=by
 have nd:=Z9N.nd
 exact Fun.okQ F Z9N rfl rfl fun cdv A outer s H E hr=>(Zy (Z0h (QD.pb (Znp (QD.pb (Z05 c_doubt (hr.mono (by decide)) (by rfl) (Z8 (Zq (qv 0)) ZP))) (QD.pb Z5o)))))
noncomputable abbrev Z71:Stmt:=top 33
theorem ZcR:Z0O ["_law_rules_here","_law_word_here","_law_found","_law_left","_law_right","_law_place","_law_behind"] ["_law_rules_here","_law_word_here"] (Zt Z71):=⟨rfl,rfl,rfl,by decide +kernel,rfl,by decide +kernel,by decide +kernel⟩
theorem ZiT (m:Mg mg) {f:Addr} {fd:Z06} (F:Fun K "_law_back" "_law_back" Z71 f fd):Z4C P w K mg base CX0 1 f fd ["_law_rules_here","_law_word_here"] (spF K Z3k):=by
 have nd:=ZcR.nd
 exact Fun.okQ F ZcR rfl rfl fun cdv A outer s H E hr=>(Zr (Z3W (i:=2) nd (by rfl) (by walk_at "l") (Z7s .nil (by decide))) (Zr (Z3B Z0o (by rfl) (ZbO (Zq (qv 0))) (Z5i (i:=3) (j:=4) (by rfl) nd (by rfl) (by rfl) (by walk_at "l") (by walk_at "l")) (Zy (Z3B Z0o (by rfl) (Z4V (by rfl) m.m_range (Z0v (QD.pb (Z2f (by rfl) m.m_len (Z0d (Zf (qv 1)) Z0l))) (QD.pb ZD))) (Z7X (i:=5) nd (by rfl) (by walk_at "l")) (Zy (Z2v (Z5h (Z8t (QD.pb (Z1K (Zf (qv 1)) (Z1g (Zq (qv 5))) Z1B)) (Zf (qv 4)))) (Zr (Z0g (i:=6) nd (by rfl) (by walk_at "l") (Z0v (Zf (qv 5)) (QD.pb (Z2f (by rfl) m.m_len (Z0d (Zf (qv 4)) Z0l))))) (Zy (Z4h (i:=2) (qv 2) (Z0v (QD.pb (Z0v (QD.pb (Z1K (Zf (qv 1)) Z1B (Z1g (Zq (qv 5))))) (Zf (qv 3)))) (QD.pb (Z1K (Zf (qv 1)) (Z1g (Zq (qv 6))) Z1B)))))) Z1u))))) (Zy (Z0h (Zf (qv 2))))))
noncomputable abbrev Z4c:Stmt:=top 34
theorem Z9L:Z0O ["_law_rules_here","_law_word_here","_law_number","_law_here","_law_k","_law_drawn_here","_law_some"] ["_law_rules_here","_law_word_here","_law_number"] (Zt Z4c):=⟨rfl,rfl,rfl,by decide +kernel,rfl,by decide +kernel,by decide +kernel⟩
theorem ZeR (m:Mg mg) {f:Addr} {fd:Z06} (F:Fun K "_law_walked" "_law_walked" Z4c f fd) (c_l_drawn:Callee P w K mg base 1 "_law_drawn" Z0i) (c_l_nexts:Callee P w K mg base 2 "_law_nexts" Z13) (c_l_back:Callee P w K mg base 1 "_law_back" Z3k):Z4C P w K mg base CX0 3 f fd ["_law_rules_here","_law_word_here","_law_number"] (spF K Z4v):=by
 have nd:=Z9L.nd
 exact Fun.okQ F Z9L rfl rfl fun cdv A outer s H E hr=>(Zr (Z0g (i:=3) nd (by rfl) (by walk_at "l") (Zq (qv 1))) (Zr (Z3B Z0o (by rfl) (Z4V (by rfl) m.m_range (Z26 (Zf (qv 2)) (QD.pb ZD))) (Z7X (i:=4) nd (by rfl) (by walk_at "l")) (Zr (Z0g (i:=5) nd (by rfl) (by walk_at "l") (Z05 c_l_drawn (hr.mono (by decide)) (by rfl) (Z8 (Zq (qv 2)) (Z8 (Zq (qv 4)) ZP)))) (Zr (Z0g (i:=6) nd (by rfl) (by walk_at "l") (Z05 c_l_nexts (hr.mono (by decide)) (by rfl) (Z8 (Zq (qv 0)) (Z8 (Zq (qv 3)) ZP)))) (Zr (Z2v (Z6D hr (QD.pb (Z26 (Zf (qv 5)) (QD.pb ZD))) (QD.pb ZD)) (Zy (Z7t (i:=6) nd (by rfl) (by walk_at "l") (by rfl) (Zaj (N:=["_law_rules_here","_law_word_here","_law_number","_law_here","_law_k","_law_drawn_here","_law_some"]) (sc:=Zt Z4c) (by rfl) (by rfl) (by decide +kernel)) (show (["_law_other","_law_rules_here","_law_word_here","_law_number","_law_here","_law_k","_law_drawn_here","_law_some"]:List Str).Nodup by decide +kernel) (by rfl) (Z63 (Z05 c_l_back (hr.mono (by decide)) (by rfl) (Z8 (Zq (qv 0)) (Z8 (Zq (qv 3)) ZP)))) (fun _ _ _ _ _=>Z6E (ZeD hr (QD.pb (Z2f (by rfl) m.m_len (Z0d (Zf (qv 0)) Z0l))) (QD.pb ZD))) (fun _ _ _ _ _=>(Zq (qv 0))))) Z1u) (Zy (Z2v (Z9P hr (Zf (qv 6)) (QD.pb (Z8u (.lst .nil (by decide))))) (Zy (Z0g (i:=3) nd (by rfl) (by walk_at "l") (Z2G (Zf (qv 6)) (QD.pb (Z26 (QD.pb (Z3g (Zf (qv 5)) (QD.pb ZD))) (QD.pb (Z2f (by rfl) m.m_len (Z0d (Zf (qv 6)) Z0l))))) (fun _ _=>rfl)))) Z1u)))))) (Zy (Z0h (Zf (qv 3))))))
noncomputable abbrev Z61:Stmt:=top 32
theorem ZcQ:Z0O ["_law_rules_here","_law_word_here","_law_met","_law_found","_law_at","_law_some"] ["_law_rules_here","_law_word_here"] (Zt Z61):=⟨rfl,rfl,rfl,by decide +kernel,rfl,by decide +kernel,by decide +kernel⟩
theorem ZiS (m:Mg mg) {f:Addr} {fd:Z06} (F:Fun K "_law_ends" "_law_ends" Z61 f fd) (c_l_nexts:Callee P w K mg base 2 "_law_nexts" Z13):Z4C P w K mg base CX0 3 f fd ["_law_rules_here","_law_word_here"] (spF K Z3M):=by
 have nd:=ZcQ.nd
 exact Fun.okQ F ZcQ rfl rfl fun cdv A outer s H E hr=>(Zr (Z0g (i:=2) nd (by rfl) (by walk_at "l") (QF.pd (ZfV (Z8 (Zq (qv 1)) ZP)))) (Zr (Z3W (i:=3) nd (by rfl) (by walk_at "l") (Z7s .nil (by decide))) (Zr (Z0g (i:=4) nd (by rfl) (by walk_at "l") ZD) (Zr (Z5J Z0o (ZeD hr (Zf (qv 4)) (QD.pb (Z2f (by rfl) m.m_len (Z0d (Zf (qv 2)) Z0l)))) (Zr (Z0g (i:=5) nd (by rfl) (by walk_at "l") (Z05 c_l_nexts (hr.mono (by decide)) (by rfl) (Z8 (Zq (qv 0)) (Z8 (Z2G (Zf (qv 2)) (Zf (qv 4)) (fun _ _=>rfl)) ZP)))) (Zr (Z2v (Z6D hr (Zf (qv 5)) (QD.pb (Z8u (.lst .nil (by decide))))) (Zy (Z4h (i:=3) (qv 3) (Z2G (Zf (qv 2)) (Zf (qv 4)) (fun _ _=>rfl)))) Z1u) (Zr (Z0g (i:=2) nd (by rfl) (by walk_at "l") (Z0v (Zf (qv 2)) (QD.pb (QF.pd (Z6C (by rfl) (Zaj (N:=["_law_rules_here","_law_word_here","_law_met","_law_found","_law_at","_law_some"]) (sc:=Zt Z61) (by rfl) (by rfl) (by decide +kernel)) (show (["_law_other","_law_rules_here","_law_word_here","_law_met","_law_found","_law_at","_law_some"]:List Str).Nodup by decide +kernel) (by rfl) (Z63 (Zq (qv 5))) (fun _ _ _ _ _=>Z6E (Z8s hr (Zf (qv 0)) (Zf (qv 3)))) (fun _ _ _ _ _=>(Zq (qv 0)))))))) (Zy (Z0g (i:=4) nd (by rfl) (by walk_at "l") (Z0v (Zf (qv 4)) (QD.pb ZD)))))))) (Zy (Z0h (QD.pb (Z4W (by rfl) m.m_tuple (Z0d (QD.pb (QF.pd (ZcU (by rfl) m.m_sorted (Z0d (Zf (qv 3)) Z0l)))) Z0l)))))))))
noncomputable abbrev ZbL:Stmt:=top 36
theorem Zmg:Z0O ["_law_script","_law_rules_here","_law_one","_law_other","_law_made","_law_found","_law_told"] ["_law_script"] (Zt ZbL):=⟨rfl,rfl,rfl,by decide +kernel,rfl,by decide +kernel,by decide +kernel⟩
theorem Zqa (m:Mg mg) {f:Addr} {fd:Z06} (F:Fun K "law" "law" ZbL f fd) (c_l_rules:Callee P w K mg base 4 "_law_rules" Z4k) (c_l_word:Callee P w K mg base 2 "_law_word" Z2S) (c_road:Callee P w K mg base 4 "road" Z5j) (c_same:Callee P w K mg base 4 "same" Z73) (c_l_is_road:Callee P w K mg base 3 "_law_is_road" Z3i) (c_l_mixed:Callee P w K mg base 2 "_law_mixed" Z2J) (c_are_sure:Callee P w K mg base 6 "are_sure" Z4x) (c_l_walked:Callee P w K mg base 3 "_law_walked" Z4v) (c_l_ends:Callee P w K mg base 3 "_law_ends" Z3M):Z4C P w K mg base CX0 7 f fd ["_law_script"] (spF K Z7w):=by
 have nd:=Zmg.nd
 exact Fun.okQ F Zmg rfl rfl fun cdv A outer s H E hr=>(Zr (Z0g (i:=1) nd (by rfl) (by walk_at "l") (Z05 c_l_rules (hr.mono (by decide)) (by rfl) (Z8 (Z05 c_l_mixed (hr.mono (by decide)) (by rfl) (Z8 (Zq (qv 0)) (Z8 ZD ZP))) ZP))) (Zr (Z2v (Z9o (Z5h (Z05 c_are_sure (hr.mono (by decide)) (by rfl) (Z8 (Zq (qv 1)) ZP)))) (Zy (Z0h (QD.pb Zd0))) Z1u) (Zr (Z0g (i:=2) nd (by rfl) (by walk_at "l") (Z05 c_l_word (hr.mono (by decide)) (by rfl) (Z8 (Z05 c_l_mixed (hr.mono (by decide)) (by rfl) (Z8 (Zq (qv 0)) (Z8 ZD ZP))) (Z8 ZeG (Z8 ZD ZP))))) (Zr (Z0g (i:=3) nd (by rfl) (by walk_at "l") (Z05 c_l_word (hr.mono (by decide)) (by rfl) (Z8 (Z05 c_l_mixed (hr.mono (by decide)) (by rfl) (Z8 (Zq (qv 0)) (Z8 ZD ZP))) (Z8 ZeG (Z8 ZD ZP))))) (Zr (Z0g (i:=4) nd (by rfl) (by walk_at "l") (Zmo hr (QD.pb (Z26 (QD.pb (Z05 c_l_mixed (hr.mono (by decide)) (by rfl) (Z8 (Zq (qv 0)) (Z8 ZD ZP)))) (QD.pb ZD))) (QD.pb ZD))) (Zr (Z2v (Z5h (Zq (qv 4))) (Zy (Z0g (i:=3) nd (by rfl) (by walk_at "l") (Z05 c_l_walked (hr.mono (by decide)) (by rfl) (Z8 (Zq (qv 1)) (Z8 (Zq (qv 2)) (Z8 (Z3g (QD.pb (Z05 c_l_mixed (hr.mono (by decide)) (by rfl) (Z8 (Zq (qv 0)) (Z8 ZD ZP)))) (QD.pb ZD)) ZP)))))) Z1u) (Zr (Z0g (i:=5) nd (by rfl) (by walk_at "l") (Z05 c_road (hr.mono (by decide)) (by rfl) (Z8 (Zq (qv 1)) (Z8 (Zq (qv 2)) (Z8 (Zq (qv 3)) ZP))))) (Zr (Z0g (i:=6) nd (by rfl) (by walk_at "l") (Z05 c_same (hr.mono (by decide)) (by rfl) (Z8 (Zq (qv 1)) (Z8 (Zq (qv 2)) (Z8 (Zq (qv 3)) ZP))))) (Zr (Z2v (QW.pdt (ZbN (Z9o (Z5h (Zih Zay.bool (Zf (qv 6)) (by rfl) m.m_isinstance (by rfl) m.m_bool (by rfl)))) (ZfW (Z9P hr (Zf (qv 6)) (QD.pb (ZkD (Zf (qv 5)) (QD.pb Z5o))))))) (Zy (Z0h (QD.pb Zd0))) Z1u) (Zr (Z2v (ZfY (Zf (qv 5)) (QD.pb Z5o)) (Zy (Z0h (QD.pb (Znq (Zno (Zq (qv 4))) (Znn (Zpo hr (QD.pb (Z05 c_l_ends (hr.mono (by decide)) (by rfl) (Z8 (Zq (qv 1)) (Z8 (Zq (qv 2)) ZP)))) (QD.pb (Z05 c_l_ends (hr.mono (by decide)) (by rfl) (Z8 (Zq (qv 1)) (Z8 (Zq (qv 3)) ZP)))))))))) Z1u) (Zy (Z0h (QD.pb (Z05 c_l_is_road (hr.mono (by decide)) (by rfl) (Z8 (Zq (qv 1)) (Z8 (Zq (qv 5)) (Z8 (Zq (qv 2)) (Z8 (Zq (qv 3)) ZP))))))))))))))))))
end
theorem us0 {P:List Value→Prop}(h:P [])(us:List Value)(e:us.length=0):P us:=by
 cases us
 ·exact h
 ·cases e
theorem usS {n:Nat}{P:List Value→Prop}(h:∀ x us,us.length=n→P (x::us))(us:List Value)(e:us.length=n+1):P us:=by
 cases us
 ·cases e
 ·exact h _ _ (Nat.succ.inj e)
theorem us1 {P:List Value→Prop}(h:∀ x0,P [x0]):∀ us:List Value,us.length=1→P us:=usS fun x0=>us0 (P:=fun l=>P (x0::l)) (h x0)
theorem us2 {P:List Value→Prop}(h:∀ x0 x1,P [x0,x1]):∀ us:List Value,us.length=2→P us:=usS fun x0=>us1 (P:=fun l=>P (x0::l)) (h x0)
theorem us3 {P:List Value→Prop}(h:∀ x0 x1 x2,P [x0,x1,x2]):∀ us:List Value,us.length=3→P us:=usS fun x0=>us2 (P:=fun l=>P (x0::l)) (h x0)
theorem us4 {P:List Value→Prop}(h:∀ x0 x1 x2 x3,P [x0,x1,x2,x3]):∀ us:List Value,us.length=4→P us:=usS fun x0=>us3 (P:=fun l=>P (x0::l)) (h x0)
theorem all_mk {l:ZaE} {w:World} {K:Fg_} {h:Heap} {mg:Str→Option Value} {fa f0 f1 f2 f3 f4 f5 f6 f7 f8 f9 f10 f11 f12 f13 f14 f15 f16 f17 f18 f19 f20 f21 f22 f23 f24 f25 f26 f27 f28 f29 f30 f31:Addr} (X:K.In h) (G:h.Ns mainGlobals mg) (hfa:mg "law"=some (.ref fa))
  {od0 an0 od1 an1 od2 an2 od3 an3 od4 an4 od5 an5 od6 an6 od7 an7 od8 an8 od9 an9 od10 an10 od11 an11 od12 an12 od13 an13 od14 an14 od15 an15 od16 an16 od17 an17 od18 an18 od19 an19 od20 an20 od21 an21 od22 an22 od23 an23 od24 an24 od25 an25 od26 an26 od27 an27 od28 an28 od29 an29 od30 an30 od31 an31:Option Addr} {sl0 sl1 sl2 sl3 sl4 sl5 sl6 sl7 sl8 sl9 sl10 sl11 sl12 sl13 sl14 sl15 sl16 sl17 sl18 sl19 sl20 sl21 sl22 sl23 sl24 sl25 sl26 sl27 sl28 sl29 sl30 sl31:Array (Option Value)} {oc0 kV0 dc0 pm0 cd0 ct0 oc1 kV1 dc1 pm1 cd1 ct1 oc2 kV2 dc2 pm2 cd2 ct2 oc3 kV3 dc3 pm3 cd3 ct3 oc4 kV4 dc4 pm4 cd4 ct4 oc5 kV5 dc5 pm5 cd5 ct5 oc6 kV6 dc6 pm6 cd6 ct6 oc7 kV7 dc7 pm7 cd7 ct7 oc8 kV8 dc8 pm8 cd8 ct8 oc9 kV9 dc9 pm9 cd9 ct9 oc10 kV10 dc10 pm10 cd10 ct10 oc11 kV11 dc11 pm11 cd11 ct11 oc12 kV12 dc12 pm12 cd12 ct12 oc13 kV13 dc13 pm13 cd13 ct13 oc14 kV14 dc14 pm14 cd14 ct14 oc15 kV15 dc15 pm15 cd15 ct15 oc16 kV16 dc16 pm16 cd16 ct16 oc17 kV17 dc17 pm17 cd17 ct17 oc18 kV18 dc18 pm18 cd18 ct18 oc19 kV19 dc19 pm19 cd19 ct19 oc20 kV20 dc20 pm20 cd20 ct20 oc21 kV21 dc21 pm21 cd21 ct21 oc22 kV22 dc22 pm22 cd22 ct22 oc23 kV23 dc23 pm23 cd23 ct23 oc24 kV24 dc24 pm24 cd24 ct24 oc25 kV25 dc25 pm25 cd25 ct25 oc26 kV26 dc26 pm26 cd26 ct26 oc27 kV27 dc27 pm27 cd27 ct27 oc28 kV28 dc28 pm28 cd28 ct28 oc29 kV29 dc29 pm29 cd29 ct29 oc30 kV30 dc30 pm30 cd30 ct30 oc31 kV31 dc31 pm31 cd31 ct31:Value}
  (a0:ZE K mainGlobals "_law_drawn"=some (some (.ref f0))) (l0:K.lookup f0=some ⟨oc0,od0,.func (ZL "_law_drawn" "_law_drawn" (Z0Q Z5H) (Z0A Z5H) (Zt Z5H) .none kV0 dc0 pm0 an0 cd0 ct0),sl0⟩) (q0:ZI K cd0 "_law_drawn"=true) (k0:ZF K (.ref f0)=true)
  (a1:ZE K mainGlobals "_law_tame"=some (some (.ref f1))) (l1:K.lookup f1=some ⟨oc1,od1,.func (ZL "_law_tame" "_law_tame" (Z0Q Z6Y) (Z0A Z6Y) (Zt Z6Y) .none kV1 dc1 pm1 an1 cd1 ct1),sl1⟩) (q1:ZI K cd1 "_law_tame"=true) (k1:ZF K (.ref f1)=true)
  (a2:ZE K mainGlobals "_law_word"=some (some (.ref f2))) (l2:K.lookup f2=some ⟨oc2,od2,.func (ZL "_law_word" "_law_word" (Z0Q Z6X) (Z0A Z6X) (Zt Z6X) .none kV2 dc2 pm2 an2 cd2 ct2),sl2⟩) (q2:ZI K cd2 "_law_word"=true) (k2:ZF K (.ref f2)=true)
  (a3:ZE K mainGlobals "_law_less"=some (some (.ref f3))) (l3:K.lookup f3=some ⟨oc3,od3,.func (ZL "_law_less" "_law_less" (Z0Q Z70) (Z0A Z70) (Zt Z70) .none kV3 dc3 pm3 an3 cd3 ct3),sl3⟩) (q3:ZI K cd3 "_law_less"=true) (k3:ZF K (.ref f3)=true)
  (a4:ZE K mainGlobals "_law_rule"=some (some (.ref f4))) (l4:K.lookup f4=some ⟨oc4,od4,.func (ZL "_law_rule" "_law_rule" (Z0Q Z6Z) (Z0A Z6Z) (Zt Z6Z) .none kV4 dc4 pm4 an4 cd4 ct4),sl4⟩) (q4:ZI K cd4 "_law_rule"=true) (k4:ZF K (.ref f4)=true)
  (a5:ZE K mainGlobals "_law_rules"=some (some (.ref f5))) (l5:K.lookup f5=some ⟨oc5,od5,.func (ZL "_law_rules" "_law_rules" (Z0Q Z4U) (Z0A Z4U) (Zt Z4U) .none kV5 dc5 pm5 an5 cd5 ct5),sl5⟩) (q5:ZI K cd5 "_law_rules"=true) (k5:ZF K (.ref f5)=true)
  (a6:ZE K mainGlobals "put_right"=some (some (.ref f6))) (l6:K.lookup f6=some ⟨oc6,od6,.func (ZL "put_right" "put_right" (Z0Q Z4a) (Z0A Z4a) (Zt Z4a) .none kV6 dc6 pm6 an6 cd6 ct6),sl6⟩) (q6:ZI K cd6 "put_right"=true) (k6:ZF K (.ref f6)=true)
  (a7:ZE K mainGlobals "first_next"=some (some (.ref f7))) (l7:K.lookup f7=some ⟨oc7,od7,.func (ZL "first_next" "first_next" (Z0Q Z2F) (Z0A Z2F) (Zt Z2F) .none kV7 dc7 pm7 an7 cd7 ct7),sl7⟩) (q7:ZI K cd7 "first_next"=true) (k7:ZF K (.ref f7)=true)
  (a8:ZE K mainGlobals "way_to_end"=some (some (.ref f8))) (l8:K.lookup f8=some ⟨oc8,od8,.func (ZL "way_to_end" "way_to_end" (Z0Q Z3J) (Z0A Z3J) (Zt Z3J) .none kV8 dc8 pm8 an8 cd8 ct8),sl8⟩) (q8:ZI K cd8 "way_to_end"=true) (k8:ZF K (.ref f8)=true)
  (a9:ZE K mainGlobals "road"=some (some (.ref f9))) (l9:K.lookup f9=some ⟨oc9,od9,.func (ZL "road" "road" (Z0Q Zb8) (Z0A Zb8) (Zt Zb8) .none kV9 dc9 pm9 an9 cd9 ct9),sl9⟩) (q9:ZI K cd9 "road"=true) (k9:ZF K (.ref f9)=true)
  (a10:ZE K mainGlobals "end"=some (some (.ref f10))) (l10:K.lookup f10=some ⟨oc10,od10,.func (ZL "end" "end" (Z0Q ZgP) (Z0A ZgP) (Zt ZgP) .none kV10 dc10 pm10 an10 cd10 ct10),sl10⟩) (q10:ZI K cd10 "end"=true) (k10:ZF K (.ref f10)=true)
  (a11:ZE K mainGlobals "same"=some (some (.ref f11))) (l11:K.lookup f11=some ⟨oc11,od11,.func (ZL "same" "same" (Z0Q Zb7) (Z0A Zb7) (Zt Zb7) .none kV11 dc11 pm11 an11 cd11 ct11),sl11⟩) (q11:ZI K cd11 "same"=true) (k11:ZF K (.ref f11)=true)
  (a12:ZE K mainGlobals "_law_places"=some (some (.ref f12))) (l12:K.lookup f12=some ⟨oc12,od12,.func (ZL "_law_places" "_law_places" (Z0Q Z4d) (Z0A Z4d) (Zt Z4d) .none kV12 dc12 pm12 an12 cd12 ct12),sl12⟩) (q12:ZI K cd12 "_law_places"=true) (k12:ZF K (.ref f12)=true)
  (a13:ZE K mainGlobals "_law_changed"=some (some (.ref f13))) (l13:K.lookup f13=some ⟨oc13,od13,.func (ZL "_law_changed" "_law_changed" (Z0Q Z4f) (Z0A Z4f) (Zt Z4f) .none kV13 dc13 pm13 an13 cd13 ct13),sl13⟩) (q13:ZI K cd13 "_law_changed"=true) (k13:ZF K (.ref f13)=true)
  (a14:ZE K mainGlobals "_law_nexts"=some (some (.ref f14))) (l14:K.lookup f14=some ⟨oc14,od14,.func (ZL "_law_nexts" "_law_nexts" (Z0Q Z5F) (Z0A Z5F) (Zt Z5F) .none kV14 dc14 pm14 an14 cd14 ct14),sl14⟩) (q14:ZI K cd14 "_law_nexts"=true) (k14:ZF K (.ref f14)=true)
  (a15:ZE K mainGlobals "_law_is_road"=some (some (.ref f15))) (l15:K.lookup f15=some ⟨oc15,od15,.func (ZL "_law_is_road" "_law_is_road" (Z0Q Z4e) (Z0A Z4e) (Zt Z4e) .none kV15 dc15 pm15 an15 cd15 ct15),sl15⟩) (q15:ZI K cd15 "_law_is_road"=true) (k15:ZF K (.ref f15)=true)
  (a16:ZE K mainGlobals "_law_cell_at"=some (some (.ref f16))) (l16:K.lookup f16=some ⟨oc16,od16,.func (ZL "_law_cell_at" "_law_cell_at" (Z0Q Z4g) (Z0A Z4g) (Zt Z4g) .none kV16 dc16 pm16 an16 cd16 ct16),sl16⟩) (q16:ZI K cd16 "_law_cell_at"=true) (k16:ZF K (.ref f16)=true)
  (a17:ZE K mainGlobals "_law_mixed"=some (some (.ref f17))) (l17:K.lookup f17=some ⟨oc17,od17,.func (ZL "_law_mixed" "_law_mixed" (Z0Q Z5G) (Z0A Z5G) (Zt Z5G) .none kV17 dc17 pm17 an17 cd17 ct17),sl17⟩) (q17:ZI K cd17 "_law_mixed"=true) (k17:ZF K (.ref f17)=true)
  (a18:ZE K mainGlobals "overlay"=some (some (.ref f18))) (l18:K.lookup f18=some ⟨oc18,od18,.func (ZL "overlay" "overlay" (Z0Q Z5E) (Z0A Z5E) (Zt Z5E) .none kV18 dc18 pm18 an18 cd18 ct18),sl18⟩) (q18:ZI K cd18 "overlay"=true) (k18:ZF K (.ref f18)=true)
  (a19:ZE K mainGlobals "overlays"=some (some (.ref f19))) (l19:K.lookup f19=some ⟨oc19,od19,.func (ZL "overlays" "overlays" (Z0Q Z3K) (Z0A Z3K) (Zt Z3K) .none kV19 dc19 pm19 an19 cd19 ct19),sl19⟩) (q19:ZI K cd19 "overlays"=true) (k19:ZF K (.ref f19)=true)
  (a20:ZE K mainGlobals "clashes"=some (some (.ref f20))) (l20:K.lookup f20=some ⟨oc20,od20,.func (ZL "clashes" "clashes" (Z0Q Z5I) (Z0A Z5I) (Zt Z5I) .none kV20 dc20 pm20 an20 cd20 ct20),sl20⟩) (q20:ZI K cd20 "clashes"=true) (k20:ZF K (.ref f20)=true)
  (a21:ZE K mainGlobals "rank"=some (some (.ref f21))) (l21:K.lookup f21=some ⟨oc21,od21,.func (ZL "rank" "rank" (Z0Q Zb9) (Z0A Zb9) (Zt Zb9) .none kV21 dc21 pm21 an21 cd21 ct21),sl21⟩) (q21:ZI K cd21 "rank"=true) (k21:ZF K (.ref f21)=true)
  (a22:ZE K mainGlobals "places_of"=some (some (.ref f22))) (l22:K.lookup f22=some ⟨oc22,od22,.func (ZL "places_of" "places_of" (Z0Q Z4b) (Z0A Z4b) (Zt Z4b) .none kV22 dc22 pm22 an22 cd22 ct22),sl22⟩) (q22:ZI K cd22 "places_of"=true) (k22:ZF K (.ref f22)=true)
  (a23:ZE K mainGlobals "places"=some (some (.ref f23))) (l23:K.lookup f23=some ⟨oc23,od23,.func (ZL "places" "places" (Z0Q Z60) (Z0A Z60) (Zt Z60) .none kV23 dc23 pm23 an23 cd23 ct23),sl23⟩) (q23:ZI K cd23 "places"=true) (k23:ZF K (.ref f23)=true)
  (a24:ZE K mainGlobals "nexts"=some (some (.ref f24))) (l24:K.lookup f24=some ⟨oc24,od24,.func (ZL "nexts" "nexts" (Z0Q Z7r) (Z0A Z7r) (Zt Z7r) .none kV24 dc24 pm24 an24 cd24 ct24),sl24⟩) (q24:ZI K cd24 "nexts"=true) (k24:ZF K (.ref f24)=true)
  (a25:ZE K mainGlobals "ends_of_nexts"=some (some (.ref f25))) (l25:K.lookup f25=some ⟨oc25,od25,.func (ZL "ends_of_nexts" "ends_of_nexts" (Z0Q Z25) (Z0A Z25) (Zt Z25) .none kV25 dc25 pm25 an25 cd25 ct25),sl25⟩) (q25:ZI K cd25 "ends_of_nexts"=true) (k25:ZF K (.ref f25)=true)
  (a26:ZE K mainGlobals "doubt"=some (some (.ref f26))) (l26:K.lookup f26=some ⟨oc26,od26,.func (ZL "doubt" "doubt" (Z0Q Z8r) (Z0A Z8r) (Zt Z8r) .none kV26 dc26 pm26 an26 cd26 ct26),sl26⟩) (q26:ZI K cd26 "doubt"=true) (k26:ZF K (.ref f26)=true)
  (a27:ZE K mainGlobals "are_sure"=some (some (.ref f27))) (l27:K.lookup f27=some ⟨oc27,od27,.func (ZL "are_sure" "are_sure" (Z0Q Z4P) (Z0A Z4P) (Zt Z4P) .none kV27 dc27 pm27 an27 cd27 ct27),sl27⟩) (q27:ZI K cd27 "are_sure"=true) (k27:ZF K (.ref f27)=true)
  (a28:ZE K mainGlobals "_law_back"=some (some (.ref f28))) (l28:K.lookup f28=some ⟨oc28,od28,.func (ZL "_law_back" "_law_back" (Z0Q Z71) (Z0A Z71) (Zt Z71) .none kV28 dc28 pm28 an28 cd28 ct28),sl28⟩) (q28:ZI K cd28 "_law_back"=true) (k28:ZF K (.ref f28)=true)
  (a29:ZE K mainGlobals "_law_walked"=some (some (.ref f29))) (l29:K.lookup f29=some ⟨oc29,od29,.func (ZL "_law_walked" "_law_walked" (Z0Q Z4c) (Z0A Z4c) (Zt Z4c) .none kV29 dc29 pm29 an29 cd29 ct29),sl29⟩) (q29:ZI K cd29 "_law_walked"=true) (k29:ZF K (.ref f29)=true)
  (a30:ZE K mainGlobals "_law_ends"=some (some (.ref f30))) (l30:K.lookup f30=some ⟨oc30,od30,.func (ZL "_law_ends" "_law_ends" (Z0Q Z61) (Z0A Z61) (Zt Z61) .none kV30 dc30 pm30 an30 cd30 ct30),sl30⟩) (q30:ZI K cd30 "_law_ends"=true) (k30:ZF K (.ref f30)=true)
  (a31:ZE K mainGlobals "law"=some (some (.ref f31))) (l31:K.lookup f31=some ⟨oc31,od31,.func (ZL "law" "law" (Z0Q ZbL) (Z0A ZbL) (Zt ZbL) .none kV31 dc31 pm31 an31 cd31 ct31),sl31⟩) (q31:ZI K cd31 "law"=true) (k31:ZF K (.ref f31)=true)
  (z_bool:ZE K mainGlobals "bool"=some none)
  (z_enumerate:ZE K mainGlobals "enumerate"=some none)
  (z_isinstance:ZE K mainGlobals "isinstance"=some none)
  (z_len:ZE K mainGlobals "len"=some none)
  (z_list:ZE K mainGlobals "list"=some none)
  (z_min:ZE K mainGlobals "min"=some none)
  (z_range:ZE K mainGlobals "range"=some none)
  (z_reversed:ZE K mainGlobals "reversed"=some none)
  (z_set:ZE K mainGlobals "set"=some none)
  (z_sorted:ZE K mainGlobals "sorted"=some none)
  (z_tuple:ZE K mainGlobals "tuple"=some none)
  (z_zip:ZE K mainGlobals "zip"=some none)
 :∃ fd:Z06,(∀ (s:Shared) (v:Value),BindsTo s fd ⟨[v],[]⟩ [("_law_script",v)])∧∀ base:Heap,K.In base→base.Ns mainGlobals mg→Z4C l.prog w K mg base CX0 7 fa fd ["_law_script"] (spF K Z7w):=by
 have e:=hfa.symm.trans (ZY X G a31)
 cases e
 have m:Mg mg:=⟨Z0F X G z_bool,Z0F X G z_enumerate,Z0F X G z_isinstance,Z0F X G z_len,Z0F X G z_list,Z0F X G z_min,Z0F X G z_range,Z0F X G z_reversed,Z0F X G z_set,Z0F X G z_sorted,Z0F X G z_tuple,Z0F X G z_zip⟩
 have F0:=Z1Z (st:=Z5H) l0 q0 k0
 have b0:=F0.binds (ps:=["_law_number","_law_k"]) fun _ _ _ _ _ _=>us2 fun _ _=>rfl
 have F1:=Z1Z (st:=Z6Y) l1 q1 k1
 have b1:=F1.binds (ps:=["_law_number","_law_letters"]) fun _ _ _ _ _ _=>us2 fun _ _=>rfl
 have F2:=Z1Z (st:=Z6X) l2 q2 k2
 have b2:=F2.binds (ps:=["_law_number","_law_letters","_law_most"]) fun _ _ _ _ _ _=>us3 fun _ _ _=>rfl
 have F3:=Z1Z (st:=Z70) l3 q3 k3
 have b3:=F3.binds (ps:=["_law_one","_law_other"]) fun _ _ _ _ _ _=>us2 fun _ _=>rfl
 have F4:=Z1Z (st:=Z6Z) l4 q4 k4
 have b4:=F4.binds (ps:=["_law_number","_law_letters"]) fun _ _ _ _ _ _=>us2 fun _ _=>rfl
 have F5:=Z1Z (st:=Z4U) l5 q5 k5
 have b5:=F5.binds (ps:=["_law_number"]) fun _ _ _ _ _ _=>us1 fun _=>rfl
 have F6:=Z1Z (st:=Z4a) l6 q6 k6
 have b6:=F6.binds (ps:=["rule","word","place"]) fun _ _ _ _ _ _=>us3 fun _ _ _=>rfl
 have F7:=Z1Z (st:=Z2F) l7 q7 k7
 have b7:=F7.binds (ps:=["rules","word"]) fun _ _ _ _ _ _=>us2 fun _ _=>rfl
 have F8:=Z1Z (st:=Z3J) l8 q8 k8
 have b8:=F8.binds (ps:=["rules","word"]) fun _ _ _ _ _ _=>us2 fun _ _=>rfl
 have F9:=Z1Z (st:=Zb8) l9 q9 k9
 have b9:=F9.binds (ps:=["rules","one","other"]) fun _ _ _ _ _ _=>us3 fun _ _ _=>rfl
 have F10:=Z1Z (st:=ZgP) l10 q10 k10
 have b10:=F10.binds (ps:=["rules","word"]) fun _ _ _ _ _ _=>us2 fun _ _=>rfl
 have F11:=Z1Z (st:=Zb7) l11 q11 k11
 have b11:=F11.binds (ps:=["rules","one","other"]) fun _ _ _ _ _ _=>us3 fun _ _ _=>rfl
 have F12:=Z1Z (st:=Z4d) l12 q12 k12
 have b12:=F12.binds (ps:=["_law_rules_here","_law_word_here"]) fun _ _ _ _ _ _=>us2 fun _ _=>rfl
 have F13:=Z1Z (st:=Z4f) l13 q13 k13
 have b13:=F13.binds (ps:=["_law_rules_here","_law_word_here","_law_place","_law_k"]) fun _ _ _ _ _ _=>us4 fun _ _ _ _=>rfl
 have F14:=Z1Z (st:=Z5F) l14 q14 k14
 have b14:=F14.binds (ps:=["_law_rules_here","_law_word_here"]) fun _ _ _ _ _ _=>us2 fun _ _=>rfl
 have F15:=Z1Z (st:=Z4e) l15 q15 k15
 have b15:=F15.binds (ps:=["_law_rules_here","_law_some","_law_one","_law_other"]) fun _ _ _ _ _ _=>us4 fun _ _ _ _=>rfl
 have F16:=Z1Z (st:=Z4g) l16 q16 k16
 have b16:=F16.binds (ps:=["_law_script","_law_k"]) fun _ _ _ _ _ _=>us2 fun _ _=>rfl
 have F17:=Z1Z (st:=Z5G) l17 q17 k17
 have b17:=F17.binds (ps:=["_law_script","_law_k"]) fun _ _ _ _ _ _=>us2 fun _ _=>rfl
 have F18:=Z1Z (st:=Z5E) l18 q18 k18
 have b18:=F18.binds (ps:=["left","other","place"]) fun _ _ _ _ _ _=>us3 fun _ _ _=>rfl
 have F19:=Z1Z (st:=Z3K) l19 q19 k19
 have b19:=F19.binds (ps:=["left","other","start"]) fun _ _ _ _ _ _=>us3 fun _ _ _=>rfl
 have F20:=Z1Z (st:=Z5I) l20 q20 k20
 have b20:=F20.binds (ps:=["rules"]) fun _ _ _ _ _ _=>us1 fun _=>rfl
 have F21:=Z1Z (st:=Zb9) l21 q21 k21
 have b21:=F21.binds (ps:=["word"]) fun _ _ _ _ _ _=>us1 fun _=>rfl
 have F22:=Z1Z (st:=Z4b) l22 q22 k22
 have b22:=F22.binds (ps:=["left","word"]) fun _ _ _ _ _ _=>us2 fun _ _=>rfl
 have F23:=Z1Z (st:=Z60) l23 q23 k23
 have b23:=F23.binds (ps:=["rules","word"]) fun _ _ _ _ _ _=>us2 fun _ _=>rfl
 have F24:=Z1Z (st:=Z7r) l24 q24 k24
 have b24:=F24.binds (ps:=["rules","word"]) fun _ _ _ _ _ _=>us2 fun _ _=>rfl
 have F25:=Z1Z (st:=Z25) l25 q25 k25
 have b25:=F25.binds (ps:=["rules","word"]) fun _ _ _ _ _ _=>us2 fun _ _=>rfl
 have F26:=Z1Z (st:=Z8r) l26 q26 k26
 have b26:=F26.binds (ps:=["rules"]) fun _ _ _ _ _ _=>us1 fun _=>rfl
 have F27:=Z1Z (st:=Z4P) l27 q27 k27
 have b27:=F27.binds (ps:=["rules"]) fun _ _ _ _ _ _=>us1 fun _=>rfl
 have F28:=Z1Z (st:=Z71) l28 q28 k28
 have b28:=F28.binds (ps:=["_law_rules_here","_law_word_here"]) fun _ _ _ _ _ _=>us2 fun _ _=>rfl
 have F29:=Z1Z (st:=Z4c) l29 q29 k29
 have b29:=F29.binds (ps:=["_law_rules_here","_law_word_here","_law_number"]) fun _ _ _ _ _ _=>us3 fun _ _ _=>rfl
 have F30:=Z1Z (st:=Z61) l30 q30 k30
 have b30:=F30.binds (ps:=["_law_rules_here","_law_word_here"]) fun _ _ _ _ _ _=>us2 fun _ _=>rfl
 have F31:=Z1Z (st:=ZbL) l31 q31 k31
 refine⟨ZL "law" "law" (Z0Q ZbL) (Z0A ZbL) (Zt ZbL) .none kV31 dc31 pm31 an31 cd31 ct31,fun s v=>.of_eq rfl,fun base _ _=>?_⟩
 have c0:=F0.callee (Zh8 (P:=l.prog) (w:=w) (base:=base) m F0) (ZY X G a0) b0
 have c1:=F1.callee (ZiP (P:=l.prog) (w:=w) (base:=base) m F1 c0) (ZY X G a1) b1
 have c2:=F2.callee (ZiO (P:=l.prog) (w:=w) (base:=base) m F2 c0) (ZY X G a2) b2
 have c3:=F3.callee (ZiR (P:=l.prog) (w:=w) (base:=base) m F3) (ZY X G a3) b3
 have c4:=F4.callee (ZiQ (P:=l.prog) (w:=w) (base:=base) m F4 c2 c0 c3) (ZY X G a4) b4
 have c5:=F5.callee (Zh5 (P:=l.prog) (w:=w) (base:=base) m F5 c1 c4 c0) (ZY X G a5) b5
 have c6:=F6.callee (Zd9 (P:=l.prog) (w:=w) (base:=base) m F6) (ZY X G a6) b6
 have c7:=F7.callee (ZbS (P:=l.prog) (w:=w) (base:=base) m F7 c6) (ZY X G a7) b7
 have c8:=F8.calleeN (ZbR (P:=l.prog) (w:=w) (base:=base) m F8 c7) (ZY X G a8) b8
 have c9:=F9.callee (Zob (P:=l.prog) (w:=w) (base:=base) m F9 c8) (ZY X G a9) b9
 have c10:=F10.callee (Zqb (P:=l.prog) (w:=w) (base:=base) m F10 c7) (ZY X G a10) b10
 have c11:=F11.callee (Zoa (P:=l.prog) (w:=w) (base:=base) m F11 c10) (ZY X G a11) b11
 have c12:=F12.callee (ZeS (P:=l.prog) (w:=w) (base:=base) m F12) (ZY X G a12) b12
 have c13:=F13.callee (Zdc (P:=l.prog) (w:=w) (base:=base) m F13) (ZY X G a13) b13
 have c14:=F14.callee (Zh6 (P:=l.prog) (w:=w) (base:=base) m F14 c12 c13) (ZY X G a14) b14
 have c15:=F15.callee (Zdb (P:=l.prog) (w:=w) (base:=base) m F15 c14) (ZY X G a15) b15
 have c16:=F16.callee (Zdd (P:=l.prog) (w:=w) (base:=base) m F16) (ZY X G a16) b16
 have c17:=F17.callee (Zh7 (P:=l.prog) (w:=w) (base:=base) m F17 c16) (ZY X G a17) b17
 have c18:=F18.callee (Zh4 (P:=l.prog) (w:=w) (base:=base) m F18) (ZY X G a18) b18
 have c19:=F19.callee (ZeQ (P:=l.prog) (w:=w) (base:=base) m F19 c18) (ZY X G a19) b19
 have c20:=F20.callee (Zh9 (P:=l.prog) (w:=w) (base:=base) m F20 c19) (ZY X G a20) b20
 have c21:=F21.callee (Zoc (P:=l.prog) (w:=w) (base:=base) m F21) (ZY X G a21) b21
 have c22:=F22.callee (Zda (P:=l.prog) (w:=w) (base:=base) m F22) (ZY X G a22) b22
 have c23:=F23.callee (ZiN (P:=l.prog) (w:=w) (base:=base) m F23 c22) (ZY X G a23) b23
 have c24:=F24.callee (Zlc (P:=l.prog) (w:=w) (base:=base) m F24 c6 c23) (ZY X G a24) b24
 have c25:=F25.callee (Z9f (P:=l.prog) (w:=w) (base:=base) m F25 c10 c24) (ZY X G a25) b25
 have c26:=F26.callee (Zld (P:=l.prog) (w:=w) (base:=base) m F26 c20 c21 c25) (ZY X G a26) b26
 have c27:=F27.callee (ZeT (P:=l.prog) (w:=w) (base:=base) m F27 c26) (ZY X G a27) b27
 have c28:=F28.callee (ZiT (P:=l.prog) (w:=w) (base:=base) m F28) (ZY X G a28) b28
 have c29:=F29.callee (ZeR (P:=l.prog) (w:=w) (base:=base) m F29 c0 c14 c28) (ZY X G a29) b29
 have c30:=F30.callee (ZiS (P:=l.prog) (w:=w) (base:=base) m F30 c14) (ZY X G a30) b30
 exact Zqa m F31 c5 c2 c9 c11 c15 c17 c27 c29 c30
theorem walk {l:ZaE}{q:Program}{loose:List Str}{XP:(Str→Option Value)→Heap→Prop}{YP:World→Heap→Prop}{d:DefRec}{K:Params→Fg_}(hn:l.most=some 63)(hdf:d.params.defaults=[])
  (holds:∀ ns:List Int,ns.length≤63→Z7w [.lst (ns.map Th.int)]=some (.bl true))
  (hY:∀ (w:World) (h:Heap),YP w h→(K w.params).In h)
  (F:∀ (w:World) (mg:Str→Option Value) (fa:Addr) (h:Heap),(K w.params).In h→h.Ns mainGlobals mg→mg d.name=some (.ref fa) →
   ∃ fd:Z06,(∀ (s:Shared) (u:Value),BindsTo s fd ⟨[u],[]⟩ [("_law_script",u)])∧∀ base:Heap,(K w.params).In base→base.Ns mainGlobals mg→Z4C l.prog w (K w.params) mg base CX0 7 fa fd ["_law_script"] (spF (K w.params) Z7w)) :
  ZmR q loose XP YP l.row.toRowW d [] (fun f vs=>Zk4 f vs) :=
 L2.walk_of (n:=63) (k:=7) (x:="_law_script") (CX:=fun _=>CX0) (sp:=fun w=>spF (K w.params) Z7w) hn (by decide) hdf ⟨rfl,by decide,by decide⟩ hY F
  (fun w H a ns hl _ hS=>Zqq hS (holds ns hl)) fun _ _ _ _ _ z=>z
end K30
open PySem PySem.W PyProof.Rows
set_option maxRecDepth 100000 in
set_option maxHeartbeats 0 in
theorem PySem.Challenge.cw_wordmelt_k30_whole_roads_holds : PySem.Challenge.rw_wordmelt_k30_whole_roads.Holds := by
 w_on;o_law;k_head;(case hw=>w_witness2)
 k_fill
 refine K30.walk (l:=PySem.Challenge.rw_wordmelt_k30_whole_roads) rfl rfl K30.holds (fun w h Y=>PySem.W.kIn_of Y) ?F
 case F =>
  intro w mg fa h KX G hmg
  refine' K30.all_mk KX G hmg ?a0 ?l0 ?q0 ?k0 ?a1 ?l1 ?q1 ?k1 ?a2 ?l2 ?q2 ?k2 ?a3 ?l3 ?q3 ?k3 ?a4 ?l4 ?q4 ?k4 ?a5 ?l5 ?q5 ?k5 ?a6 ?l6 ?q6 ?k6 ?a7 ?l7 ?q7 ?k7 ?a8 ?l8 ?q8 ?k8 ?a9 ?l9 ?q9 ?k9 ?a10 ?l10 ?q10 ?k10 ?a11 ?l11 ?q11 ?k11 ?a12 ?l12 ?q12 ?k12 ?a13 ?l13 ?q13 ?k13 ?a14 ?l14 ?q14 ?k14 ?a15 ?l15 ?q15 ?k15 ?a16 ?l16 ?q16 ?k16 ?a17 ?l17 ?q17 ?k17 ?a18 ?l18 ?q18 ?k18 ?a19 ?l19 ?q19 ?k19 ?a20 ?l20 ?q20 ?k20 ?a21 ?l21 ?q21 ?k21 ?a22 ?l22 ?q22 ?k22 ?a23 ?l23 ?q23 ?k23 ?a24 ?l24 ?q24 ?k24 ?a25 ?l25 ?q25 ?k25 ?a26 ?l26 ?q26 ?k26 ?a27 ?l27 ?q27 ?k27 ?a28 ?l28 ?q28 ?k28 ?a29 ?l29 ?q29 ?k29 ?a30 ?l30 ?q30 ?k30 ?a31 ?l31 ?q31 ?k31 ?z_bool ?z_enumerate ?z_isinstance ?z_len ?z_list ?z_min ?z_range ?z_reversed ?z_set ?z_sorted ?z_tuple ?z_zip
  (case a0=>k_is)
  (case l0=>k_is)
  (case q0=>k_is)
  (case k0=>k_is)
  (case a1=>k_is)
  (case l1=>k_is)
  (case q1=>k_is)
  (case k1=>k_is)
  (case a2=>k_is)
  (case l2=>k_is)
  (case q2=>k_is)
  (case k2=>k_is)
  (case a3=>k_is)
  (case l3=>k_is)
  (case q3=>k_is)
  (case k3=>k_is)
  (case a4=>k_is)
  (case l4=>k_is)
  (case q4=>k_is)
  (case k4=>k_is)
  (case a5=>k_is)
  (case l5=>k_is)
  (case q5=>k_is)
  (case k5=>k_is)
  (case a6=>k_is)
  (case l6=>k_is)
  (case q6=>k_is)
  (case k6=>k_is)
  (case a7=>k_is)
  (case l7=>k_is)
  (case q7=>k_is)
  (case k7=>k_is)
  (case a8=>k_is)
  (case l8=>k_is)
  (case q8=>k_is)
  (case k8=>k_is)
  (case a9=>k_is)
  (case l9=>k_is)
  (case q9=>k_is)
  (case k9=>k_is)
  (case a10=>k_is)
  (case l10=>k_is)
  (case q10=>k_is)
  (case k10=>k_is)
  (case a11=>k_is)
  (case l11=>k_is)
  (case q11=>k_is)
  (case k11=>k_is)
  (case a12=>k_is)
  (case l12=>k_is)
  (case q12=>k_is)
  (case k12=>k_is)
  (case a13=>k_is)
  (case l13=>k_is)
  (case q13=>k_is)
  (case k13=>k_is)
  (case a14=>k_is)
  (case l14=>k_is)
  (case q14=>k_is)
  (case k14=>k_is)
  (case a15=>k_is)
  (case l15=>k_is)
  (case q15=>k_is)
  (case k15=>k_is)
  (case a16=>k_is)
  (case l16=>k_is)
  (case q16=>k_is)
  (case k16=>k_is)
  (case a17=>k_is)
  (case l17=>k_is)
  (case q17=>k_is)
  (case k17=>k_is)
  (case a18=>k_is)
  (case l18=>k_is)
  (case q18=>k_is)
  (case k18=>k_is)
  (case a19=>k_is)
  (case l19=>k_is)
  (case q19=>k_is)
  (case k19=>k_is)
  (case a20=>k_is)
  (case l20=>k_is)
  (case q20=>k_is)
  (case k20=>k_is)
  (case a21=>k_is)
  (case l21=>k_is)
  (case q21=>k_is)
  (case k21=>k_is)
  (case a22=>k_is)
  (case l22=>k_is)
  (case q22=>k_is)
  (case k22=>k_is)
  (case a23=>k_is)
  (case l23=>k_is)
  (case q23=>k_is)
  (case k23=>k_is)
  (case a24=>k_is)
  (case l24=>k_is)
  (case q24=>k_is)
  (case k24=>k_is)
  (case a25=>k_is)
  (case l25=>k_is)
  (case q25=>k_is)
  (case k25=>k_is)
  (case a26=>k_is)
  (case l26=>k_is)
  (case q26=>k_is)
  (case k26=>k_is)
  (case a27=>k_is)
  (case l27=>k_is)
  (case q27=>k_is)
  (case k27=>k_is)
  (case a28=>k_is)
  (case l28=>k_is)
  (case q28=>k_is)
  (case k28=>k_is)
  (case a29=>k_is)
  (case l29=>k_is)
  (case q29=>k_is)
  (case k29=>k_is)
  (case a30=>k_is)
  (case l30=>k_is)
  (case q30=>k_is)
  (case k30=>k_is)
  (case a31=>k_is)
  (case l31=>k_is)
  (case q31=>k_is)
  (case k31=>k_is)
  (case z_bool=>k_is)
  (case z_enumerate=>k_is)
  (case z_isinstance=>k_is)
  (case z_len=>k_is)
  (case z_list=>k_is)
  (case z_min=>k_is)
  (case z_range=>k_is)
  (case z_reversed=>k_is)
  (case z_set=>k_is)
  (case z_sorted=>k_is)
  (case z_tuple=>k_is)
  (case z_zip=>k_is)
