import PyProof.Rows.All
import Wide.All
import OpenK.AllK
import Wide.FinOn
import Lean
import PyProof.EqAt
import PyProof.EqKinds
import PyProof.TupleCall
import PyProof.NeKinds
import PyProof.Rows.SortShellK
import PyProof.Rows.SortStr
import KE.KSortTup
import PyProof.Rows.SetFrom
import PyProof.SetKind
import PyProof.DictKinds
import PyProof.CollectWalk
import PyProof.CollectStr
import PyProof.DictIter
import PyProof.StrLawsIn
import PyProof.DictWalks
import KE.KDictList
import KE.KSortKey
import PyProof.TupleOfSeq
import PySem.Challenge.RW_wordmelt_k41_whole_lean
set_option Elab.async false
set_option linter.all false
set_option maxRecDepth 100000
set_option maxHeartbeats 4000000
open PySem renaming wpAny_bind→Z0,wpAny_pure→Z5,lookup_relabel_local→Jd,FuncData→Jj,wpAny_newObj_type→JC,wpAny_mono→JP,wpAny_holding→Y5,codeAny_builtin→Yf,wpAny_setState_of→Yj,mem_of_lookup→Yo,strKind→YD,wpAny_call_entry→YQ,PassesOwn→YZ,wpAny_callSpecial?_slot→Us,NameKind→UJ,plainId_quiet→UZ,wpAny_rule→Gk,wpAny_loadPart'→Gm,wpAny_setField→GH,wpAny_seqItems→GI,wpAny_passesOwn→N9,fits_of_scanBound→Nm,wpAny_askSetting→NC,wpAny_pyIter_tuple→M4,wpAny_Call_Name_kw→M5,wpAny_truthy_bool→Mx,wpAny_typeOf→MI,wpAny_updateSeq→QR,wpAny_field→QU,wpAny_tryCatch→WA,wpAny_pyIter_list→D1,wpAny_pyIter_enum→D2,wpAny_execs_nil→BB,codeAny_mono→BY,builtinLookup_eq_fast→BZ,wpAny_runValue→FV,wpAny_setEntries_of→CM,wpAny_of_eq→CN,wpAny_letGo→CO,wpAny_newList→Z08,wpAny_attempt→Z09,Value→Z0Q,concat_meets→Z3f,wpAny_forIn_list→Z3L,noFill_tuple_add→Z3N,wpAny_specialOf→Z59,typeLookup_type→Z5g,wpAny_newTuple→Z7m,isSubtype_type→Z7p,wpAny_load→Z7C,wpAny_comprehension_free→Z7D,seq_tuple_add→Zap,call→Zat,wpAny_pyNext_enum_endD→ZaF,seqSlot_of→Zcz,wpAny_eqIsQuiet_tuple→ZcJ,codeAny_call_builtin→Zfq,boot_len→Zfx,tupleKind_room_in1→ZfZ,wpAny_storeSet_of→ZhP,wpAny_setEpoch_of→ZhQ,wpAny_sequenceKey→ZhR,wpAny_pyIter_slot→ZhS,wpAny_call→ZhT,wpAny_assign_Name→ZhU,wpAny_Name→ZhV,typeIs_str→ZhW,typeIs_int→ZhX,slot_list_getitem→Zi0,call_meets→Zi3,wpAny_pyHash_str→Zig,wpAny_isInstance→Zih,wpAny_execs_cons→Zii,wpAny_eqBool_str→Zij,wpAny_eqBool_int→Zik,codeAny_of_tree→ZjA,wpAny_fieldsOf→ZjK,sliceRange_one→ZjV,entryFor_alias→Zk4,wpAny_standAt→Zk7,wpAny_handled→Zk8,pick_run→Zka,intBits_le_64→Zkb,evalPart_none→Zkc,call_list_seq→Zkd
open List renaming mem_cons_self→Z1,length_map→Z3,mem_cons_of_mem→Z4,append_assoc→Z8,getElem?_eq_getElem→Za,set_cons_succ→Zd,set_cons_zero→Ze,length_append→Zf,getElem?_set_ne→Zg,getElem?_cons_zero→Zi,size_toArray→Zk,length_cons→Zl,replicate→Zn,mem_cons→Zp,getElem?_eq_some_iff→Zq,getElem?_cons_succ→Zs,map_cons→Zt,getElem?_set_self→Zw,length_take→ZC,getElem?_append_right→ZD,mem_map→ZE,take_append_drop→ZF,mem_append_right→ZH,nil_append→ZJ,length_drop→ZS,cons_append→ZT,getElem?_append_left→ZU,mem_append→ZW,mem_of_getElem?→ZZ,getElem?_map→Jc,drop_of_length_le→Je,mem_singleton→Jf,range→Jg,map_map→Jh,mem_append_left→Js,Pairwise→Ju,Perm→Jx,drop_append_of_le_length→JA,drop_drop→JD,take_of_length_le→JG,length_set→JM,replicate_succ→JR,getElem?_replicate→JS,mem_filter→JW,map_append→JX,mem_of_mem_drop→JZ,length_replicate→Y7,lookup_cons→Y9,take_sublist→Yd,pairwise_map→Ye,take_append_of_le_length→Ym,map_congr_left→Yq,length→Yr,perm_append_comm→Yu,length_range→Yv,drop_sublist→Yw,pairwise_cons→YE,find?_cons→YF,drop_eq_getElem_cons→YS,take_length→U5,mem_of_mem_take→Ub,range'→Um,getElem_of_mem→Uo,append_nil→Uq,isPrefixOf_iff_prefix→UD,mem_reverse→UG,all_eq_true→UH,getElem?_eq_none→UK,extract_eq_take_drop→UT,pairwise_append→G3,foldl_cons→G7,flatten_cons→G8,filterMap_cons→Gh,all_cons→Gi,eq_nil_of_length_eq_zero→Gr,mem_range→Gs,prefix_append→Gz,nodup_cons→GK,length_filter_le→GL,cons_lt_cons_iff→GM,map→GS,ext_getElem?→GT,take_zero→Ni,drop_append→No,getElem?_take_of_lt→Nz,length_nil→NM,mem_range'_1→M0,getElem_take→M3,drop_zero→M9,drop_left→Ma,filter_cons→Mt,drop_length→Mu,any_cons→MF,of_mem_zip→MW,not_lt→MX,length_pos_iff→MY,forIn_cons→MZ,getD_eq_getElem?_getD→Qf,zip_cons_cons→Qk,toArray→Ql,mem_filterMap→Qm,map_nil→Qn,pairwise_iff_getElem→QL,nodup_nil→QM,lt_irrefl→QN,reverse_perm→W9,nodup_append→Wa,getElem_drop→Wb,not_mem_nil→WR,any_toArray→WS,length_pos_of_mem→WZ,length_singleton→Dn,all_map→Do,take_take→B9,take_succ→Ba,drop_take→Bb,take_succ_cons→Bw,mergeSort_perm→Bx,take_add→Fp,length_range'→Fq,take_add_one→CK,eq_nil_iff_forall_not_mem→CV,prefix_refl→Z02,mem_flatMap→Z03,getElem_mem→Z04,any_eq_true→Z05,prefix_append_right_inj→Z0S,length_eraseIdx_of_lt→Z1S,getElem?_take_eq_none→Z1T,length_filterMap_le→Z3T,length_erase_of_mem→Z3U,pairwise_singleton→Z52,pairwise_mergeSort→Z53,length_eq_zero_iff→Z54,reverse_singleton→Z6j,filter_eq_nil_iff→Z6k,getElem?_toArray→Z7h,any_map→Z7i,reverse_reverse→Z7u,mem_erase_of_ne→Z7v,drop_eq_nil_iff→Z7w,toList_toArray→Zai,reverse_append→Zaj,length_flatMap→Zak,getElem?_drop→Zax,find?_eq_none→Zay,filter_append→Zaz,filterMap_map→ZaA,push_toArray→ZcC,flatMap_cons→ZcD,take_append→Zdz,range'_succ→ZdA,map_snd_zip→ZdB,le_antisymm→ZdC,range_succ→ZfB,length_zip→ZfC,filter_nil→ZfD,filter_map→ZfE,cons→ZfF,nil_perm→ZhL,map_id→Zjg,lookup→Zjh,foldl→ZjH
open PySem.Heap renaming get?_push_of_some→Z2,get?_push_size→Zu,lt_size→ZB,SameBut→Jl,get?_update_self→Yx,get?_update_other→YM,get?_update_ne→Ur,size_push→Nj,size_update→Mv,get?_none_of_le→MA,get?_push_ne→Wc,ExtBut→By,FlyingW→Zib
open Option renaming map_some→Z7,bind_some→Zo,some→J8,getD_some→CJ,bind_eq_bind→Z7f,getD_none→Zav,pure_def→ZcB,none→ZhK
open Nat renaming le_refl→Zc,le_trans→Zz,ne_of_lt→ZI,lt_of_lt_of_le→ZO,zero_add→Jm,zero_le→Jv,add_sub_cancel_left→JT,lt_succ_of_lt→Yg,le_of_not_lt→Yp,lt_irrefl→YG,add_assoc→U1,not_lt_zero→U2,lt_succ_self→U9,lt_of_le_of_lt→UL,le_succ→UU,le_of_lt→Gg,reduceSub→N0,reduceAdd→N3,ne_of_gt→NA,add_zero→NB,pos_of_ne_zero→NP,reduceLeDiff→Mz,mul_le_mul_right→ME,le_antisymm→Q0,sub_self→QJ,pow_succ→QK,mul_le_mul→W4,lt_of_not_le→WY,succ_mul→Dy,strongRecOn→Dz,lt_trans→DA,mod_lt→B5,sub_le→CU,sub_zero→Z01,succ_ne_self→Z0R,mod_mul→Z1Q,min_eq_left→Z1R,mul_comm→Z7q,min_self→Z7r,lt_or_ge→Z7s,le_of_eq→Z7t,pow_le_pow_right→Zah,add_le_add_left→Zaw,sub_lt→Zdw,lt_trichotomy→Zdx,mod_eq_of_lt→Zfz,min_le_right→ZfA,two_pow_pos→ZfO,le_add_left→ZfP,succ_pos→Zjf,mod_one→ZjD,min_def→ZjE,add_mod→ZjF
open Bool renaming false_eq_true→Zj,and_eq_true→ZX,false_ne_true→JN,or_eq_true→G9,not_true→GU,or_eq_false_iff→MB,not_false→QP,not_eq_true'→Wd,eq_iff_iff→Dq,and_eq_false_iff→Dr,not_eq_false'→Fs,false_and→ZfS,and_false→ZfT,or_false→ZhM
open Array renaming length_toList→Zm,getElem?_toList→J0,toList_append→Jb,getElem?_eq_getElem→Jo,toList_push→YO,getD_eq_getD_getElem?→Ul,perm_iff_toList_perm→Uy,toList_reverse→UW,toList_extract→N5,getElem?_eq_none→NU,size_extract→Qg,forIn_toList→Qh,toList_inj→Wy,getElem?_extract→WU,mem_toList_iff→DB,size_map→Z1Y,size_append→ZaD,toList_map→ZcI,replicate→ZdD,toList→ZhN,Perm→Zjj,ext→ZjJ
open PyProof.Rows renaming wpS_bind→Zr,wpS_pure→ZA,wpS_forRange→JU,slot_tuple_getitem→Y3,wpS_mono→UX,callWith_type1→Gf,wpS_modify→Nk,listUpdate_at→Nl,SortKind→Nn,wpS_get→QQ,listItems_at→BS,get?_update_seq→BV,size_push'→Fg,seqEpoch_at→CP,wpS_lift→Z07,lt_str→Z1I,lt_int→Z1J,pairsOf_toList→Z7n,subscriptTail_builtinR→ZaP,entry_tuple_getitem→ZfM,args_tuple_getitem→ZhI,Subscript_→Zi6,getElem?_bubble→Zjy,entry_list_sort→Zjz,slot_list_sort→ZjU,slicePart_none→ZjW,tupleItemsOf_→Zk9
open PySem.W renaming keepIn→ZL,nsIn→ZM,codeIn→ZN,fnOf→ZR,mg_of→J1,mg_none_of→Yh,kia_one→Nx,methodObj→Fd,OpenLaw→CS,kitOne→Z0P,cellsFrom_some→Z3H,kitCls→ZcA,subIn→Zdt,WalkO→Zdu
open PySem.Str renaming ofString→ZY,length→MV
open Option.some renaming inj→Jn,injEq→Jt
open PySem.Around renaming under_plainId→Jy
open List.Perm renaming append_left→Jz,refl→U6,append_right→Ge,of_eq→Z7x,swap→Zal,cons→Zam
open PyProof.Rows.F renaming plain_set_update_loop→JE,entry_set_update_loop→YY
open PyProof.Rows.KeyOrd renaming kle_trans→JH,kle_of_klt→JJ,kle_refl→Uk,klt_of_kle_of_klt→Z1U,kle_antisymm→Z7j,klt→Zi8,kle→Zi9
open PySem.PassesOwn renaming never→JQ
open PySem.Heap.SameBut renaming update→Y0,refl→Z3K
open PySem.Txt renaming startswith→Ya,mul→My,find→MP,find3→Du
open PySem.Value renaming type→Yb,none→YN,ref→YX,isStrOf→UF,isStrOf_shape→MO,int→D4,str→Fc,bool→Z3F,notImplemented→Z7e,isInt→Zi5
open PySem.Obj renaming mapSeq→Yy,data_mapFields→GF,isFreed_of_fields→Dx,cls_mapFields→CT,putSet→Z51
open Int renaming toNat_natCast→Yz,emod_lt_of_pos→UM,emod_nonneg→NQ,toNat_of_nonneg→Ff,natCast_mul→Z1V
open PySem.Builtin.List renaming listExtendWith→U7,listSameRef→MH,listTooLong→FT
open PySem.SetTable renaming below→U8,layClean→US,grown→GQ,fits→QH,probe→Z00,fill→Z1G,insertAt_perm→Z1M,relaid→Zaf,slot→Zcw,laid→Zcx,has→Zds
open ForInStep renaming yield→Uc
open List.Pairwise renaming nil→Uw,imp_of_mem→Ux,filter→W5,map→D7
open PySem.F renaming slot_tuple_iterator_next→UI,plain_min_loop→GA,called_set→NN,args_tuple_add_2→Qj,entry_tuple_add→W3,slot_tuple_mul→We,slot_tuple_add→Wf,plain_list_iadd→WT,args_tuple_iterator_next_1→DZ,entry_tuple_iterator_next→B8,slot_tuple_rmul→Z1N,plainAttrs_list→Z1O,entry_min_loop→Z1X,plainAttrs_str→Z3I,type_str_find→Z3Q,slot_str_find→Z3R,slot_int_rmul→Z3S,plain_proto_collect→ZaB,entry_proto_collect→ZaC,entry_list_iadd→ZfQ,slot_set_iter→Zic,plain_set_new→Zid
open Sum renaming inr→Gb,inl→CQ
open PySem.Builtin.SmallTypes renaming nextOf→Gj
open PySem.Builtin.Str renaming strSliceIndices→Gq,occurrences→Q1
open PySem.Builtin.Slice renaming slicePlaces→GB,sliceAdjust→Mi,sliceApplied→BA
open PySem.NameKind renaming free→GG,cell→B6
open PySem.Builtin.Tuple renaming tupleExact→GN,tupleTooMany→Mb,tupleItemsOf→Bz
open PySem.SetTable.layClean renaming free→GP
open Ne renaming symm→GR
open False renaming elim→Nw
open Prod.mk renaming injEq→Ny
open True renaming intro→MQ
open PySem.SetTable.probe renaming go→WX
open PyProof.Rows.SortSt renaming mk'→D5
open PySem.Builtin.Builtins renaming bindParams→Dp
open Prod renaming ext→Dw,mk→Z1K
open PySem.SeqAt renaming EqAt→FQ
open List.cons renaming injEq→FR
open Or renaming inl→CI,inr→ZjC
open PySem.AutoSeq1 renaming sub_tuple_tuple→Z0T
open PySem.SetTable.below renaming go→Z1H
open PySem.Calls renaming Name_function_global→Z1L
open PySem.Walks renaming list→Z3E
open PySem.Paired renaming length→Z3J,snoc→ZhJ
open Sum.inr renaming inj→Z6g
open PyProof.Rows.IsTup renaming new→Z6l
open PySem.Builtin renaming sorted→Z7k
open Array.Perm renaming refl→Z7l
open StateT renaming run_pure→Zcv
open Function renaming comp→ZcF
open PySem.Str.mk renaming injEq→ZfN
open PySem.W.WShape renaming has→Zi4
open PySem.W.WData renaming int→ZjB
open PySem.W.Looks renaming now→ZjG
open BEq renaming rfl→ZjI
open PySem.Data renaming seq→Zke
abbrev Ps_:=Z0Q→PySem.Shared→Prop
abbrev Pn_:=List (PySem.Addr×PySem.Obj)
abbrev Lu_:=List Z0Q
abbrev Ls_:=List PySem.Str
abbrev Le_:=List PySem.Expr
abbrev Ai_:=Array (Int×Z0Q)
abbrev Au_:=Array Z0Q
abbrev Ak_:=Array PyProof.Rows.Keyed
abbrev Fg_:=PySem.W.Frag
theorem ob_ {α β:Type}{a:α}{f:α→Option β}:(some a).bind f=f a:=rfl
theorem gz_ {α:Type}{a:α}{l:List α}:(a::l)[0]?=some a:=rfl
theorem gs_ {α:Type}{a:α}{l:List α}{i:Nat}:(a::l)[i+1]?=l[i]?:=rfl
set_option bootstrap.genMatcherCode false
namespace L2
open PySem PySem.Spec PyProof.Rows
abbrev Key:=Sum Int Str
noncomputable def Z4t:Key→Value→Bool
 |.inl k,v=>Zi5 k v
 |.inr x,v=>UF x v
noncomputable def Zk1 (w:World):Key→Int
 |.inl k=>hashInt k
 |.inr x=>hashStr w x
theorem UC:∀ {k:Key} {v:Value},Z4t k v=true→(∃ i t,k=CQ i∧v=D4 i t)∨(∃ x t,k=Gb x∧v=Fc x t)
 |.inl i,v,h=>by
  obtain⟨t,e⟩:=Value.isInt_shape (k:=i) (v:=v) h
  exact .inl ⟨i,t,rfl,e⟩
 |.inr x,v,h=>by
  obtain⟨t,e⟩:=MO (x:=x) (v:=v) h
  exact .inr ⟨x,t,rfl,e⟩
theorem Z9v (i:Int)(t:Tok):Z4t (.inl i) (.int i t)=true:=by simp[Z4t,Zi5]
theorem Z9u (x:Str)(t:Tok):Z4t (.inr x) (.str x t)=true:=by simp[Z4t,UF]
theorem Zhr (a b:Int):decide ((CQ a:Key)=CQ b)=(a == b):=by
 by_cases e:a=b
 ·subst e;simp
 ·have h:¬ (CQ a:Key)=CQ b:=fun q=>e (CQ.inj q)
  rw[decide_eq_false h]
  exact (beq_eq_false_iff_ne.mpr e).symm
theorem Zdh (a b:Str):decide ((Gb a:Key)=Gb b)=decide (a=b):=by
 by_cases e:a=b
 ·subst e;simp
 ·have h:¬ (Gb a:Key)=Gb b:=fun q=>e (Z6g q)
  rw[decide_eq_false h,decide_eq_false e]
theorem Zhq (a:Int)(b:Str):decide ((CQ a:Key)=Gb b)=false:=decide_eq_false (fun q=>nomatch q)
theorem Zhp (a:Str)(b:Int):decide ((Gb a:Key)=CQ b)=false:=decide_eq_false (fun q=>nomatch q)
noncomputable def Gx (prog:Program)(w:World):PySem.KeyKind prog w Key where
 is:=Z4t
 hash:=Zk1 w
 inj:=fun v a b ha hb=>by
  rcases UC ha with ⟨i,t,rfl,rfl⟩|⟨x,t,rfl,rfl⟩
  ·rcases UC hb with ⟨j,u,rfl,e⟩|⟨y,u,rfl,e⟩
   ·injection e with e1 _;rw[e1]
   ·exact nomatch e
  ·rcases UC hb with ⟨j,u,rfl,e⟩|⟨y,u,rfl,e⟩
   ·exact nomatch e
   ·injection e with e1 _;rw[e1]
 byValue:=fun k v h=>by
  rcases UC h with ⟨i,t,rfl,rfl⟩|⟨x,t,rfl,rfl⟩ <;> rfl
 pyHash:=fun hv h=>by
  rcases UC hv with ⟨i,t,rfl,rfl⟩|⟨x,t,rfl,rfl⟩
  ·exact wpAny_pyHash_int h
  ·exact Zig h
 eqBool:=fun hu hv h=>by
  rcases UC hu with ⟨i,t,rfl,rfl⟩|⟨x,t,rfl,rfl⟩
  ·rcases UC hv with ⟨j,u,rfl,rfl⟩|⟨y,u,rfl,rfl⟩
   ·rw[Zhr] at h;exact Zik h
   ·rw[Zhq] at h;exact FQ.int_str i t y u _ _ _ _ h
  ·rcases UC hv with ⟨j,u,rfl,rfl⟩|⟨y,u,rfl,rfl⟩
   ·rw[Zhp] at h;exact FQ.str_int x t j u _ _ _ _ h
   ·rw[Zdh] at h;exact Zij h
 «strs»:=fun k x t v h=>by
  rcases UC h with ⟨i,u,rfl,e⟩|⟨y,u,rfl,e⟩
  ·exact nomatch e
  ·injection e with e1 _
   subst e1
   cases v <;> rfl
theorem Z4n (prog:Program)(w:World)(i:Int)(t:Tok):(Gx prog w).is (.inl i) (.int i t)=true:=Z9v i t
theorem Z4m (prog:Program)(w:World)(x:Str)(t:Tok):(Gx prog w).is (.inr x) (.str x t)=true:=Z9u x t
inductive V where
 |non|bl (b:Bool)|int (i:Int)|str (x:Str)|byt (b:Array UInt8)|flt (b:UInt64)|ref (a:Addr)|ty (n:String)
 deriving DecidableEq
abbrev Lv_:=List V
def RelV:V→Value→Prop
 |.non,u=>u=YN
 |.bl b,u=>u=Z3F b
 |.int i,u=>∃ t,u=D4 i t
 |.str x,u=>∃ t,u=Fc x t
 |.byt b,u=>∃ t,u=Value.bytes b t
 |.flt b,u=>∃ t,u=Value.float b t
 |.ref a,u=>u=YX a
 |.ty n,u=>u=Yb n
abbrev Uj:Lv_→List Value→Prop:=Paired RelV
theorem Uj.length {xs:Lv_}{us:Lu_}(r:Uj xs us):xs.length=us.length:=Z3J r
theorem Uj.get:∀ {xs:Lv_} {us:Lu_} {i:Nat} {x:V},Uj xs us→xs[i]?=some x→∃ u,us[i]?=some u∧RelV x u
 |_,_,_,_,.nil,e=>by simp at e
 |_,_,0,_,.cons r _,e=>by simp at e;subst e;exact⟨_,rfl,r⟩
 |_,_,i+1,x,.cons _ t,e=>by
  obtain⟨u,h1,h2⟩:=Uj.get (i:=i) (x:=x) t (by simpa using e)
  exact⟨u,by simpa using h1,h2⟩
theorem Uj.set {x:V}{u:Value}(r:RelV x u):∀ {xs:Lv_} {us:Lu_} (i:Nat),Uj xs us→Uj (xs.set i x) (us.set i u)
 |_,_,_,.nil=>.nil
 |_,_,0,.cons _ t=>.cons r t
 |_,_,i+1,.cons q t=>.cons q (Uj.set r i t)
theorem Uj.append:∀ {xs ys:Lv_} {us ws:Lu_},Uj xs us→Uj ys ws→Uj (xs++ys) (us++ws):=by
 intro xs ys us ws h s
 induction h with
 |nil=>exact s
 |cons r t ih=>exact .cons r ih
theorem Uj.take:∀ {xs:Lv_} {us:Lu_} (n:Nat),Uj xs us→Uj (xs.take n) (us.take n)
 |_,_,0,_=>.nil
 |_,_,_+1,.nil=>.nil
 |_,_,n+1,.cons r t=>.cons r (Uj.take n t)
theorem Uj.drop:∀ {xs:Lv_} {us:Lu_} (n:Nat),Uj xs us→Uj (xs.drop n) (us.drop n)
 |_,_,0,r=>r
 |_,_,_+1,.nil=>.nil
 |_,_,n+1,.cons _ t=>Uj.drop n t
def Zas:Option V→Option Value→Prop
 |some v,some u=>RelV v u
 |none,none=>True
 |_,_=>False
def KV {κ:Type}:List (κ×V)→List (κ×Value)→Prop:=Paired fun (p:κ×V) (q:κ×Value)=>p.1=q.1∧RelV p.2 q.2
noncomputable def kV:Key→V
 |.inl i=>.int i
 |.inr x=>.str x
inductive HO where
 |lst (xs:Lv_)
 |tup (xs:Lv_)
 |dK (kvs:List (Key×V))|dT (kvs:List (List Key×V))
 |set (S:Int→Bool) (n:Nat)
 |ins (C dx:Addr) (fs:List (Str×V))
 |own (x:Addr)
 |xd (fs:List (Str×V))
 |met (f x:Addr)
 |rng (lo hi:Int)
 |frz (o:Obj) (u:HO)
 |tbl (ps:Au_)
 |ext (φ:Heap→Prop)
abbrev Hp:=Addr→Option HO
noncomputable def upd (H:Hp)(a:Addr)(o:HO):Hp:=fun b=>if b=a then some o else H b
theorem JB {H:Hp}{a:Addr}{o:HO}:upd H a o a=some o:=by unfold upd;rw[if_pos rfl]
theorem YA {H:Hp}{a b:Addr}{o:HO}(h:b≠a):upd H a o b=H b:=by unfold upd;rw[if_neg h]
theorem ZiR {H:Hp}{a b:Addr}{o u:HO}(h:H a=some o)(h':H b=some u)(d:o≠u):a≠b:=by
 intro e;subst e;rw[h] at h';exact d (Jn h')
theorem GE {H:Hp}{a b:Addr}{o:HO}(h:H a=some o)(h':H b=none):a≠b:=by
 intro e;subst e;rw[h] at h';cases h'
section
variable (P:Program)(w:World)
def MD (H:Hp)(h:Heap)(a:Addr):HO→Prop
 |.lst xs=>xs.length≤sizeLine∧∃ (its:Lu_) (n:Nat),Uj xs its∧h.get? a=some { cls:=.type "list",data:=.seq its.toArray n }
 |.tup xs=>xs.length≤sizeLine∧∃ its:Lu_,Uj xs its∧IsTup h a its.toArray
 |.dK kvs=>kvs.length≤sizeLine∧(a == sysModules)=false∧∃ vs,KV kvs vs∧h.DictOf (Gx P w) a vs
 |.dT kvs=>kvs.length≤sizeLine∧(a == sysModules)=false∧∃ xs:List (List Key×Addr×Value),
   Paired (fun (p:List Key×V) (q:List Key×Addr×Value)=>p.1=q.1∧H q.2.1=some (.tup (p.1.map kV))∧RelV p.2 q.2.2) kvs xs ∧
   ∃ o es ep,h.get? a=some o∧o.ExactDict∧o.data=.dict es ep∧es.toList=xs.map (entryOfKey (tupleKind (Gx P w)))∧(xs.map (·.1)).Nodup
 |.set S n=>h.SetOf (intKind P w) a S n
 |.ins C dx fs=>H dx=some (.own a)∧fs.length≤1000∧dx≠a∧h.get? a=some (PySem.W.instObj C dx) ∧
   ∃ mA,h.Ns1 dx mA∧(∀ f,Zas (fs.lookup f) (mA f))∧PySem.Within mA (fs.map (·.1))
 |.own _=>∃ o,h.get? a=some o
 |.xd fs=>∃ mA,h.Ns1 a mA∧∀ f,Zas (fs.lookup f) (mA f)
 |.rng lo hi=>∃ t u v,h.get? a=some { cls:=.type "range",data:=.fields #[.int lo t,.int hi u,.int 1 v] }
 |.frz o u=>h.get? a=some o∧MD H h a u
 |.tbl ps=>h.get? a=some { cls:=.none,data:=.fields ps }
 |.met f x=>h.get? a=some (Fd (.ref f) (.ref x))
 |.ext φ=>φ h∧(∃ o,h.get? a=some o)∧∀ h1 h2:Heap,φ h1→(∀ o,h1.get? a=some o→h2.get? a=some o)→φ h2
def HOk (H:Hp)(h:Heap):Prop:=∀ a o,H a=some o→MD P w H h a o
end
section
variable {P:Program}{w:World}{H H':Hp}{h h':Heap}{a:Addr}{o:HO}
theorem MD.lt (x:MD P w H h a o):a<h.objs.size:=by
 cases o with
 |lst xs=>obtain⟨_,_,_,_,e⟩:=x;exact ZB e
 |tup xs=>obtain⟨_,_,_,p⟩:=x;exact p.lt
 |dK kvs=>obtain⟨_,_,_,_,o,_,_,e,_⟩:=x;exact ZB e
 |dT kvs=>obtain⟨_,_,_,_,o,_,_,e,_⟩:=x;exact ZB e
 |set S n=>obtain⟨o,_,_,_,e,_⟩:=x;exact ZB e
 |ins C dx fs=>obtain⟨_,_,_,e,_⟩:=x;exact ZB e
 |own y=>obtain⟨_,e⟩:=x;exact ZB e
 |xd fs=>obtain⟨_,⟨_,_,_,e,_⟩,_⟩:=x;exact ZB e
 |rng lo hi=>obtain⟨_,_,_,e⟩:=x;exact ZB e
 |frz ob u=>obtain⟨e,_⟩:=x;exact ZB e
 |tbl ps=>exact ZB (show h.get? a=some _ from x)
 |met f y=>exact ZB (show h.get? a=some _ from x)
 |ext φ=>obtain⟨_,⟨_,e⟩,_⟩:=x;exact ZB e
theorem Paired.mapP {α β:Type}{F G:α→β→Prop}:∀ {l₁:List α} {l₂:List β},Paired F l₁ l₂→(∀ a b,F a b→G a b)→Paired G l₁ l₂:=by
 intro l₁ l₂ h f
 induction h with
 |nil=>exact .nil
 |cons r t ih=>exact .cons (f _ _ r) ih
theorem MD.stay (x:MD P w H h a o)(k:∀ b u,(b=a∨H b=some (.own a))→h.get? b=some u→h'.get? b=some u)
  (ho:∀ b,H b=some (.own a)→H' b=some (.own a)) (ht:∀ b xs,H b=some (.tup xs)→H' b=some (.tup xs)):MD P w H' h' a o:=by
 induction o with
 |lst xs=>obtain⟨z,its,n,r,e⟩:=x;exact⟨z,its,n,r,k _ _ (.inl rfl) e⟩
 |tup xs=>obtain⟨z,its,r,ob,e,c⟩:=x;exact⟨z,its,r,ob,k _ _ (.inl rfl) e,c⟩
 |dK kvs=>obtain⟨z,y,vs,r,ob,es,ep,e,c⟩:=x;exact⟨z,y,vs,r,ob,es,ep,k _ _ (.inl rfl) e,c⟩
 |dT kvs =>
  obtain⟨z,y,xs,r,ob,es,ep,e,c⟩:=x
  exact⟨z,y,xs,Paired.mapP r fun p q z=>⟨z.1,ht _ _ z.2.1,z.2.2⟩,ob,es,ep,k _ _ (.inl rfl) e,c⟩
 |set S n=>obtain⟨ob,es,ep,t,e,c⟩:=x;exact⟨ob,es,ep,t,k _ _ (.inl rfl) e,c⟩
 |ins C dx fs =>
  obtain⟨d,z,ne,e,mA,⟨od,es,ep,e2,c⟩,r⟩:=x
  exact⟨ho _ d,z,ne,k _ _ (.inl rfl) e,mA,⟨od,es,ep,k _ _ (.inr d) e2,c⟩,r⟩
 |own y=>obtain⟨ob,e⟩:=x;exact⟨ob,k _ _ (.inl rfl) e⟩
 |xd fs=>obtain⟨mA,⟨od,es,ep,e,c⟩,r⟩:=x;exact⟨mA,⟨od,es,ep,k _ _ (.inl rfl) e,c⟩,r⟩
 |rng lo hi=>obtain⟨t,u,v,e⟩:=x;exact⟨t,u,v,k _ _ (.inl rfl) e⟩
 |frz ob u ih=>obtain⟨e,q⟩:=x;exact⟨k _ _ (.inl rfl) e,ih q⟩
 |tbl ps =>
  have e:h.get? a=some { cls:=.none,data:=.fields ps }:=x
  show h'.get? a=some { cls:=.none,data:=.fields ps }
  exact k a _ (.inl rfl) e
 |met f y =>
  have e:h.get? a=some (Fd (.ref f) (.ref y)):=x
  show h'.get? a=some (Fd (.ref f) (.ref y))
  exact k a _ (.inl rfl) e
 |ext φ=>obtain⟨p,⟨o,e⟩,st⟩:=x;exact⟨st _ _ p fun o q=>k _ _ (.inl rfl) q,⟨o,k _ _ (.inl rfl) e⟩,st⟩
theorem HOk.lt (x:HOk P w H h)(e:H a=some o):a<h.objs.size:=(x a o e).lt
theorem HOk.fresh (x:HOk P w H h)(e:h.objs.size≤a):H a=none:=by
 cases q:H a with
 |none=>rfl
 |some u=>exact absurd (ZO (x.lt q) e) (YG _)
theorem HOk.kept (x:HOk P w H h)(k:∀ b u,h.get? b=some u→h'.get? b=some u):HOk P w H h':=fun a o e =>
 (x a o e).stay (fun b u _ q=>k b u q) (fun _ q=>q) fun _ _ q=>q
theorem HOk.laid (x:HOk P w H h)(k:∀ b u,h.get? b=some u→h'.get? b=some u)(hp:h.objs.size≤a)(new:MD P w (upd H a o) h' a o):HOk P w (upd H a o) h':=fun b u e=>by
 have hn:=x.fresh hp
 by_cases hb:b=a
 ·subst hb;rw[JB] at e;cases e;exact new
 ·rw[YA hb] at e
  exact (x b u e).stay (fun c v _ q=>k c v q) (fun c q=>by rw[YA (GE q hn)];exact q) fun c xs q=>by rw[YA (GE q hn)];exact q
end
def Rd (H:Hp)(a:Addr)(u:HO):Prop:=H a=some u∨∃ o,H a=some (.frz o u)
theorem Rd.ok {P:Program}{w:World}{H:Hp}{h:Heap}{a:Addr}{u:HO}(r:Rd H a u)(x:HOk P w H h):MD P w H h a u:=by
 rcases r with r|⟨o,r⟩
 ·exact x a u r
 ·obtain⟨_,q⟩:=x a _ r
  exact q
def Mut:Option HO→Prop
 |some (.lst _)=>True
 |some (.dK _)=>True
 |some (.dT _)=>True
 |some (.set _ _)=>True
 |some (.ins _ _ _)=>True
 |some (.ext _)=>True
 |_=>False
section
variable {P:Program}{w:World}{H:Hp}{h h':Heap}{x e:Addr}{o':HO}
theorem HOk.write (ok:HOk P w H h)(mu:Mut (H x))(he:e=x∨H e=some (.own x))(k:∀ b u,b≠e→h.get? b=some u→h'.get? b=some u)(heo:∃ u,h'.get? e=some u)
  (new:MD P w (upd H x o') h' x o'):HOk P w (upd H x o') h':=fun b u q=>by
 have nown:∀ c y,H c=some (.own y)→c≠x:=fun c y r z=>by subst z;rw[r] at mu;exact mu
 have ntup:∀ c xs,H c=some (.tup xs)→c≠x:=fun c xs r z=>by subst z;rw[r] at mu;exact mu
 by_cases hb:b=x
 ·subst hb;rw[JB] at q;cases q;exact new
 ·rw[YA hb] at q
  by_cases hbe:b=e
  ·have q':H b=some (.own x):=by
    rcases he with z|z
    ·exact absurd (hbe.trans z) hb
    ·rw[hbe];exact z
   rw[q] at q';cases q'
   obtain⟨v,hv⟩:=heo
   exact⟨v,by rw[hbe];exact hv⟩
  ·refine (ok b u q).stay (fun c v hc r=>k c v ?_ r) (fun c r=>by rw[YA (nown c b r)];exact r) fun c xs r=>by rw[YA (ntup c xs r)];exact r
   rcases hc with rfl|hc
   ·exact hbe
   ·rintro rfl
    rcases he with z|z
    ·exact nown c b hc z
    ·rw[hc] at z;cases z;exact hb rfl
end
structure Un (fs ex:List Addr)(H H':Hp)(h h':Heap):Prop where
 keep:∀ b o,h.get? b=some o→H b=none→b∉fs→b∉ex→h'.get? b=some o
 slot:∀ b o,h.get? b=some o→H b=none→b∈fs→b∉ex→∃ sl,h'.get? b=some { o with slots:=sl }
 free:∀ b o,h.get? b=some o→H b=none→b∉ex→H' b=none
 there:∀ b o,h.get? b=some o→b∉ex→∃ o',h'.get? b=some o'
 tups:∀ b xs,H b=some (.tup xs)→H' b=some (.tup xs)
 frzs:∀ b o u,H b=some (.frz o u)→H' b=some (.frz o u)
 tbls:∀ b ps,H b=some (.tbl ps)→∃ more,H' b=some (.tbl (ps++more))
section
variable {fs fs' ex ex':List Addr}{H H1 H2:Hp}{h h1 h2 h':Heap}{a x e:Addr}{o:HO}
theorem Un.any (u:Un fs ex H H1 h h1){b:Addr}{ob:Obj}(q:h.get? b=some ob)(n:H b=none)(hx:b∉ex):∃ sl,h1.get? b=some { ob with slots:=sl }:=by
 by_cases hb:b∈fs
 ·exact u.slot b ob q n hb hx
 ·exact⟨ob.slots,u.keep b ob q n hb hx⟩
theorem Un.kept (k:∀ b u,h.get? b=some u→h'.get? b=some u):Un fs ex H H h h' :=
 ⟨fun b ob q _ _ _=>k b ob q,fun b ob q _ _ _=>⟨ob.slots,k b ob q⟩,fun _ _ _ n _=>n,fun b ob q _=>⟨ob,k b ob q⟩,fun _ _ q=>q,fun _ _ _ q=>q,fun _ ps q=>⟨#[],by rw[q];simp⟩⟩
theorem Un.refl:Un fs ex H H h h:=Un.kept fun _ _ q=>q
theorem Un.laid (k:∀ b u,h.get? b=some u→h'.get? b=some u)(hp:h.objs.size≤a)(hn:H a=none):Un fs ex H (upd H a o) h h' where
 keep:=fun b u q _ _ _=>k b u q
 slot:=fun b u q _ _ _=>⟨u.slots,k b u q⟩
 free:=fun b u q n _=>by rw[YA (ZI (ZO (ZB q) hp))];exact n
 there:=fun b u q _=>⟨u,k b u q⟩
 tups:=fun b xs q=>by rw[YA (GE q hn)];exact q
 frzs:=fun b u xs q=>by rw[YA (GE q hn)];exact q
 tbls:=fun b ps q=>⟨#[],by rw[YA (GE q hn),q];simp⟩
theorem Un.write (mu:Mut (H x))(he:e=x∨H e=some (.own x))(k:∀ b u,b≠e→h.get? b=some u→h'.get? b=some u)(heo:∃ u,h'.get? e=some u):Un fs ex H (upd H x o) h h':=by
 have hx:∀ b,H b=none→b≠x:=fun b n z=>by subst z;rw[n] at mu;exact mu
 have hb:∀ b,H b=none→b≠e:=fun b n z=>by
  subst z
  rcases he with r|r
  ·exact hx b n r
  ·rw[n] at r;cases r
 have hm:∀ b u,H b=some u→¬ Mut (some u)→b≠x:=fun b u q nm z=>by subst z;rw[q] at mu;exact nm mu
 refine⟨fun b u q n _ _=>k b u (hb b n) q,fun b u q n _ _=>⟨u.slots,k b u (hb b n) q⟩,fun b u q n _=>by rw[YA (hx b n)];exact n,fun b u q _=>?_,
  fun b xs q=>by rw[YA (hm b _ q fun z=>z)];exact q,fun b u xs q=>by rw[YA (hm b _ q fun z=>z)];exact q,fun b ps q=>⟨#[],by rw[YA (hm b _ q fun z=>z),q];simp⟩⟩
 by_cases hbe:b=e
 ·subst hbe;exact heo
 ·exact⟨u,k b u hbe q⟩
theorem Un.mono (u:Un fs ex H H1 h h1)(hs:∀ b∈fs,b∈fs')(hx:∀ b∈ex,b∈ex'):Un fs' ex' H H1 h h1 :=
 ⟨fun b ob q n hb he=>u.keep b ob q n (fun z=>hb (hs b z)) fun z=>he (hx b z),fun _ _ q n _ he=>u.any q n fun z=>he (hx _ z),fun b ob q n he=>u.free b ob q n fun z=>he (hx b z),fun b ob q he=>u.there b ob q fun z=>he (hx b z),u.tups,u.frzs,u.tbls⟩
end
noncomputable def trk (h:Heap)(H:Hp):List Addr:=(Jg h.objs.size).filter fun a=>(H a).isSome
noncomputable def Zcb (h:Heap)(H:Hp):Heap:=PySem.W.hideAll h (trk h H)
theorem Z9E (h:Heap)(H:Hp):(Zcb h H).objs.size=h.objs.size:=PySem.W.hideAll_size _ _
theorem Zca {h:Heap}{H:Hp}{b:Addr}{o:Obj}(e:h.get? b=some o)(n:H b=none):(Zcb h H).get? b=some o :=
 PySem.W.hideAll_get _ e fun hm=>by
  have q:(H b).isSome=true:=(JW.mp hm).2
  rw[n] at q;simp at q
theorem ZeV {h:Heap}{H:Hp}{b:Addr}{o:Obj}(e:(Zcb h H).get? b=some o):h.get? b=some o∧H b=none:=by
 have e':h.get? b=some o:=PySem.W.of_hideAll (trk h H) e
 refine⟨e',?_⟩
 cases q:H b with
 |none=>rfl
 |some x =>
  have hm:b∈trk h H:=JW.mpr ⟨Gs.mpr (ZB e'),by simp[q]⟩
  have z:(Zcb h H).get? b=none:=PySem.W.hideAll_none (trk h H) hm
  rw[z] at e;cases e
structure Mod (K:Fg_)(mg:Str→Option Value)(base:Heap):Prop where
 kin:K.In base
 glob:base.Ns mainGlobals mg
 blt:∃ mb,base.Ns builtinsNs mb∧∀ x:Str,x≠"__name__"→mb x=bootBuiltins x
 nolimit:base.NoLimit
structure Cx where
 prog:Program
 w:World
 K:Fg_
 mg:Str→Option Value
 base:Heap
 A:Around
 N:Ls_
 s₀:Shared
 H₀:Hp
 env:Env
 outer:List Env
 stack:List Env
 ex:List Addr
 fn:Str→Bool
 calm:Bool
 pn:Pn_
 xe:Ps_
noncomputable def frs (l:List Env):List Addr:=l.filterMap (·.frame)
noncomputable abbrev Cx.fs (X:Cx):List Addr:=frs X.outer
def Vis (sc:Scope)(x:Str):Prop:=sc.names.lookup x=some .local∨sc.names.lookup x=some .cell∨sc.names.lookup x=some .free
def Loc (sc:Scope)(x:Str):Prop:=sc.names.lookup x=some .local∨sc.names.lookup x=some .cell
def Look (env:Env)(h:Heap)(m:Str→Option Value)(x:Str)(u:Value):Prop :=
 (env.kindOf x=some .local∧m x=some u)∨((env.kindOf x=some .cell∨env.kindOf x=some .free)∧∃ c,env.cells.lookup x=some c∧h.IsCell c (some u))
structure Cx.Ok (X:Cx):Prop where
 mod:Mod X.K X.mg X.base
 kind:X.env.scope.kind=.function
 glob:X.env.globals=mainGlobals
 blt:X.env.builtins=builtinsNs
 above:X.s₀.heap.objs.size≤X.env.locals
 inj:∀ x y c,X.env.cells.lookup x=some c→X.env.cells.lookup y=some c→x=y
 has:∀ x,(X.env.kindOf x=some .cell∨X.env.kindOf x=some .free)→∃ c,X.env.cells.lookup x=some c
 cab:∀ x c,X.fn x=true→X.env.cells.lookup x=some c→X.s₀.heap.objs.size≤c
 hd:X.calm=true→X.A.handled=none
 frames:X.A.frames=some X.stack
 stk:X.stack=X.outer∨(X.stack=X.env::X.outer∧X.env.frame=some X.env.locals)
 exf:∀ b∈X.ex,b≠X.env.locals∧∀ x c,X.env.cells.lookup x=some c→c≠b
 bs:∀ b o,X.base.get? b=some o→X.s₀.heap.get? b=some o∧X.H₀ b=none
 bsz:X.base.objs.size≤X.s₀.heap.objs.size
 noex:∀ b o,X.base.get? b=some o→b∉X.ex
 exfs:∀ b∈X.ex,b∉X.fs
 funs:X.s₀.heap.FunFrames X.base X.outer
 frf:∀ b∈X.fs,X.H₀ b=none
structure Inv (X:Cx)(pins:Pn_)(σ:List (Option V))(H:Hp)(s:Shared):Prop where
 ok:X.Ok
 os:s.os=X.s₀.os
 bare:AllBare s.gens
 base:Un X.fs X.ex X.H₀ H X.s₀.heap s.heap
 loc:∃ m,s.heap.Ns X.env.locals m∧∀ (i:Nat) (x:Str) (v:V),X.N[i]?=some x→σ[i]?=some (some v)→Vis X.env.scope x→∃ u,RelV v u∧Look X.env s.heap m x u
 cell:∀ x c,X.env.cells.lookup x=some c→∃ v,s.heap.IsCell c v
 free:H X.env.locals=none
 freeC:∀ x c,X.env.cells.lookup x=some c→H c=none
 pin:∀ p∈X.pn++pins,s.heap.get? p.1=some p.2∧H p.1=none∧p.1≠X.env.locals∧p.1∉X.fs∧∀ v,p.2.data≠.cell v
 hok:HOk X.prog X.w H s.heap
 len:σ.length=X.N.length
section
variable {X:Cx}{pins:Pn_}{σ:List (Option V)}{H H':Hp}{s:Shared}{h':Heap}
theorem Cx.Ok.nofr (ok:X.Ok){b:Addr}{o:Obj}(e:X.base.get? b=some o):b∉X.fs:=fun hb=>by
 have:=(ok.funs.mem hb).1
 rw[e] at this;cases this
theorem Inv.bs (I:Inv X pins σ H s):∀ b o,X.base.get? b=some o→s.heap.get? b=some o∧H b=none:=fun b o e =>
 ⟨I.base.keep b o (I.ok.bs b o e).1 (I.ok.bs b o e).2 (I.ok.nofr e) (I.ok.noex b o e),I.base.free b o (I.ok.bs b o e).1 (I.ok.bs b o e).2 (I.ok.noex b o e)⟩
theorem Inv.bk (I:Inv X pins σ H s):∀ b o,X.base.get? b=some o→s.heap.get? b=some o:=fun b o e=>(I.bs b o e).1
theorem Inv.mod (I:Inv X pins σ H s):Mod X.K X.mg X.base:=I.ok.mod
theorem Inv.kIn (I:Inv X pins σ H s):X.K.In s.heap:=I.ok.mod.kin.keeps I.bk
theorem Inv.lt (I:Inv X pins σ H s):X.env.locals<s.heap.objs.size:=let ⟨_,hn,_⟩:=I.loc;hn.lt
theorem Inv.sz (I:Inv X pins σ H s):X.s₀.heap.objs.size≤s.heap.objs.size:=Zz I.ok.above (Gg I.lt)
theorem Inv.nofs (I:Inv X pins σ H s){a:Addr}(h:s.heap.objs.size≤a):a∉X.fs:=fun hb=>by
 obtain⟨_,o,ho,_⟩:=I.ok.funs.mem hb
 exact absurd (ZO (ZB ho) (Zz I.sz h)) (YG _)
theorem Inv.cne (I:Inv X pins σ H s):∀ x c,X.env.cells.lookup x=some c→c≠X.env.locals:=fun x c e z=>by
 obtain⟨v,o,ho,hd⟩:=I.cell x c e
 obtain⟨m,⟨o',es,ep,ho',hd',_⟩,_⟩:=I.loc
 rw[z,ho'] at ho;cases ho;rw[hd'] at hd;cases hd
theorem Inv.funs (I:Inv X pins σ H s):s.heap.FunFrames X.base X.outer:=by
 have all:∀ (l:List Env),(∀ b∈frs l,b∈X.fs)→X.s₀.heap.FunFrames X.base l→s.heap.FunFrames X.base l:=by
  intro l
  induction l with
  |nil=>intro _ _;trivial
  |cons env r ih =>
   intro hs hl
   obtain⟨hk,⟨L,o,hf,hn,ho,hd⟩,hr⟩:=hl
   have hL:L∈X.fs:=hs L (by unfold frs;rw[Gh,hf];exact Z1)
   obtain⟨sl,e⟩:=I.base.slot L o ho (I.ok.frf L hL) hL fun z=>I.ok.exfs L z hL
   exact⟨hk,⟨L,_,hf,hn,e,hd⟩,ih (fun b hb=>hs b (by unfold frs;rw[Gh,hf];exact Z4 _ hb)) hr⟩
 exact all X.outer (fun _ hb=>hb) I.ok.funs
theorem Inv.stack (I:Inv X pins σ H s):s.heap.FunFrames X.base X.stack:=by
 rcases I.ok.stk with e|⟨e,hf⟩
 ·rw[e];exact I.funs
 ·rw[e]
  obtain⟨m,hn,_⟩:=I.loc
  refine .cons (by rw[I.ok.kind];decide) hf hn ?_ I.funs
  exact MA (Zz I.ok.bsz I.ok.above)
theorem Inv.stkSub (I:Inv X pins σ H s):∀ b∈frs X.stack,b∈X.env.locals::X.fs:=fun b hb=>by
 rcases I.ok.stk with e|⟨e,hf⟩
 ·rw[e] at hb;exact Z4 _ hb
 ·rw[e] at hb
  unfold frs at hb
  rw[Gh,hf] at hb
  exact hb
theorem Inv.stkFree (I:Inv X pins σ H s):∀ b∈frs X.stack,H b=none:=fun b hb=>by
 rcases Zp.mp (I.stkSub b hb) with e|hb
 ·rw[e];exact I.free
 ·obtain⟨_,o,ho,_⟩:=I.ok.funs.mem hb
  exact I.base.free b o ho (I.ok.frf b hb) fun z=>I.ok.exfs b z hb
theorem Inv.step {g':Array GenState}{t':Nat}{d':Drawn}{ch:List Addr}(I:Inv X pins σ H s)
  (hch:∀ b∈ch,(b∈X.ex∨X.s₀.heap.objs.size≤b)∧b≠X.env.locals∧(∀ x c,X.env.cells.lookup x=some c→c≠b)∧∀ p∈X.pn++pins,p.1≠b)
  (keep:∀ b o,b≠X.env.locals→b∉X.fs→b∉ch→s.heap.get? b=some o→H b=none→h'.get? b=some o)
  (slot:∀ b o,b≠X.env.locals→b∈X.fs→b∉ch→s.heap.get? b=some o→H b=none→∃ sl,h'.get? b=some { o with slots:=sl }) (free:∀ b o,b∉ch→s.heap.get? b=some o→H b=none→H' b=none)
  (there:∀ b o,b∉ch→s.heap.get? b=some o→∃ o',h'.get? b=some o')
  (tups:∀ b xs,H b=some (.tup xs)→H' b=some (.tup xs)) (frzs:∀ b o u,H b=some (.frz o u)→H' b=some (.frz o u)) (tbls:∀ b ps,H b=some (.tbl ps)→∃ more,H' b=some (.tbl (ps++more)))
  (ns:∀ m,s.heap.Ns X.env.locals m→h'.Ns X.env.locals m) (hok:HOk X.prog X.w H' h') (hg:AllBare g') :
  Inv X pins σ H' { s with heap:=h',gens:=g',drawn:=d',toks:=t' }:=by
 have neL:∀ b o,X.s₀.heap.get? b=some o→b≠X.env.locals:=fun b o e=>ZI (ZO (ZB e) I.ok.above)
 have neC:∀ b o,X.s₀.heap.get? b=some o→b∉X.ex→b∉ch:=fun b o e hx hb=>by
  rcases (hch b hb).1 with z|z
  ·exact hx z
  ·exact absurd (ZO (ZB e) z) (YG _)
 have cellK:∀ x c,X.env.cells.lookup x=some c→∀ v,s.heap.IsCell c v→h'.IsCell c v:=fun x c e v z_=>by
  obtain⟨o,ho,hd⟩:=z_
  have nch:c∉ch:=fun z=>(hch c z).2.2.1 x c e rfl
  by_cases hc:c∈X.fs
  ·obtain⟨sl,q⟩:=slot c o (I.cne x c e) hc nch ho (I.freeC x c e)
   exact⟨_,q,hd⟩
  ·exact⟨o,keep c o (I.cne x c e) hc nch ho (I.freeC x c e),hd⟩
 refine⟨I.ok,I.os,hg,⟨fun b o e n hb hx=>?_,fun b o e n hb hx=>?_,fun b o e n hx=>?_,fun b o e hx=>?_,fun b xs e=>tups b xs (I.base.tups b xs e),fun b o xs e=>frzs b o xs (I.base.frzs b o xs e),fun b ps e=>?_⟩,?_,fun x c e=>?_,?_,fun x c e=>?_,fun p hp=>?_,hok,I.len⟩
 ·exact keep b o (neL b o e) hb (neC b o e hx) (I.base.keep b o e n hb hx) (I.base.free b o e n hx)
 ·obtain⟨sl,e1⟩:=I.base.slot b o e n hb hx
  obtain⟨sl',e2⟩:=slot b _ (neL b o e) hb (neC b o e hx) e1 (I.base.free b o e n hx)
  exact⟨sl',e2⟩
 ·obtain⟨o',e1⟩:=I.base.there b o e hx
  exact free b o' (neC b o e hx) e1 (I.base.free b o e n hx)
 ·obtain⟨o',e1⟩:=I.base.there b o e hx
  exact there b o' (neC b o e hx) e1
 ·obtain⟨m1,e1⟩:=I.base.tbls b ps e
  obtain⟨m2,e2⟩:=tbls b _ e1
  exact⟨m1++m2,by rw[e2,Array.append_assoc]⟩
 ·obtain⟨m,hn,hl⟩:=I.loc
  refine⟨m,ns m hn,fun i x v e1 e2 e3=>?_⟩
  obtain⟨u,r,l⟩:=hl i x v e1 e2 e3
  refine⟨u,r,?_⟩
  rcases l with l|⟨k,c,e,z⟩
  ·exact .inl l
  ·exact .inr ⟨k,c,e,cellK x c e _ z⟩
 ·obtain⟨v,z⟩:=I.cell x c e
  exact⟨v,cellK x c e v z⟩
 ·obtain⟨m,⟨o,_,_,ho,_⟩,_⟩:=I.loc
  exact free _ o (fun z=>(hch _ z).2.1 rfl) ho I.free
 ·obtain⟨v,o,ho,hd⟩:=I.cell x c e
  exact free c o (fun z=>(hch c z).2.2.1 x c e rfl) ho (I.freeC x c e)
 ·obtain⟨e,n,ne,nf,d⟩:=I.pin p hp
  have nch:p.1∉ch:=fun z=>(hch p.1 z).2.2.2 p hp rfl
  exact⟨keep p.1 p.2 ne nf nch e n,free p.1 p.2 nch e n,ne,nf,d⟩
theorem Inv.un {t':Nat}(I:Inv X pins σ H s)(u:Un X.fs [] H H' s.heap h')(hok:HOk X.prog X.w H' h'):Inv X pins σ H' { s with heap:=h',toks:=t' }:=by
 obtain⟨m,⟨o,es,ep,ho,r⟩,_⟩:=id I.loc
 obtain⟨sl,hL⟩:=u.any ho I.free (by simp)
 exact I.step (g':=s.gens) (d':=s.drawn) (ch:=[]) (fun _ z=>nomatch z) (fun b o _ hb _ e n=>u.keep b o e n hb (by simp)) (fun b o _ hb _ e n=>u.slot b o e n hb (by simp)) (fun b o _ e n=>u.free b o e n (by simp)) (fun b o _ e=>u.there b o e (by simp)) u.tups u.frzs u.tbls (fun m' hm=>by
  obtain⟨o',es',ep',ho',r'⟩:=hm
  rw[ho] at ho';cases ho'
  exact⟨_,es',ep',hL,r'⟩) hok I.bare
theorem Inv.call {g':Array GenState}{t':Nat}{d':Drawn}{ch:List Addr}(I:Inv X pins σ H s)(u:Un (frs X.stack) ch H H' s.heap h')(hok:HOk X.prog X.w H' h')(hg:AllBare g')
  (hch:∀ b∈ch,(b∈X.ex∨X.s₀.heap.objs.size≤b)∧b≠X.env.locals∧(∀ x c,X.env.cells.lookup x=some c→c≠b)∧∀ p∈X.pn++pins,p.1≠b) :
  Inv X pins σ H' { s with heap:=h',gens:=g',drawn:=d',toks:=t' }:=by
 obtain⟨m,⟨o,es,ep,ho,r⟩,_⟩:=id I.loc
 obtain⟨sl,hL⟩:=u.any ho I.free fun z=>(hch _ z).2.1 rfl
 exact I.step (ch:=ch) hch (fun b o hL hb hc e n=>u.keep b o e n (fun z=>(Zp.mp (I.stkSub b z)).elim hL hb) hc) (fun b o _ _ hc e n=>u.any e n hc) (fun b o hc e n=>u.free b o e n hc) (fun b o hc e=>u.there b o e hc) u.tups u.frzs u.tbls (fun m' hm=>by
  obtain⟨o',es',ep',ho',r'⟩:=hm
  rw[ho] at ho';cases ho'
  exact⟨_,es',ep',hL,r'⟩) hok hg
theorem Inv.turned {t':Nat}{it:Addr}(I:Inv X pins σ H s)(k:∀ b o,b≠it→s.heap.get? b=some o→h'.get? b=some o)(hn:H it=none)(hL:it≠X.env.locals)
  (h1:it∈X.ex∨X.s₀.heap.objs.size≤it) (h2:∀ x c,X.env.cells.lookup x=some c→c≠it) (h3:∀ p∈X.pn++pins,p.1≠it):Inv X pins σ H { s with heap:=h',toks:=t' }:=by
 have nit:∀ b u,H b=some u→b≠it:=fun b u e z=>by rw[z,hn] at e;cases e
 refine I.step (g':=s.gens) (d':=s.drawn) (ch:=[it]) (fun b hb=>?_) (fun b o _ _ hc e _=>k b o (fun z=>hc (by simp[z])) e) (fun b o _ _ hc e _=>⟨o.slots,k b o (fun z=>hc (by simp[z])) e⟩) (fun _ _ _ _ n=>n)
  (fun b o hc e=>⟨o,k b o (fun z=>hc (by simp[z])) e⟩) (fun _ _ e=>e) (fun _ _ _ e=>e) (fun b ps e=>⟨#[],by rw[e];simp⟩) (fun m hm=>?_) (fun b u e=>?_) I.bare
 ·have e:b=it:=by simpa using hb
  subst e
  exact⟨h1,hL,h2,h3⟩
 ·obtain⟨o,es,ep,ho,r⟩:=hm
  exact⟨o,es,ep,k _ o (GR hL) ho,r⟩
 ·refine (I.hok b u e).stay (fun c v hc q=>k c v ?_ q) (fun _ q=>q) fun _ _ q=>q
  rcases hc with z|z
  ·rw[z];exact nit b u e
  ·exact nit c _ z
theorem Inv.tok (I:Inv X pins σ H s)(t:Nat):Inv X pins σ H { s with toks:=t }:=I.un (h':=s.heap) (t':=t) Un.refl I.hok
theorem Inv.kept {t':Nat}(I:Inv X pins σ H s)(k:∀ b u,s.heap.get? b=some u→h'.get? b=some u):Inv X pins σ H { s with heap:=h',toks:=t' }:=I.un (Un.kept k) (I.hok.kept k)
theorem Inv.laid {a:Addr}{o:HO}{t':Nat}(I:Inv X pins σ H s)(k:∀ b u,s.heap.get? b=some u→h'.get? b=some u)(hp:s.heap.objs.size≤a)(new:MD X.prog X.w (upd H a o) h' a o) :
  Inv X pins σ (upd H a o) { s with heap:=h',toks:=t' }:=I.un (Un.laid k hp (I.hok.fresh hp)) (I.hok.laid k hp new)
theorem Inv.write {x e:Addr}{o:HO}{t':Nat}(I:Inv X pins σ H s)(mu:Mut (H x))(he:e=x∨H e=some (.own x))(k:∀ b u,b≠e→s.heap.get? b=some u→h'.get? b=some u)(heo:∃ u,h'.get? e=some u)
  (new:MD X.prog X.w (upd H x o) h' x o):Inv X pins σ (upd H x o) { s with heap:=h',toks:=t' }:=I.un (Un.write mu he k heo) (I.hok.write mu he k heo new)
theorem Inv.weak {σ':List (Option V)}(I:Inv X pins σ H s)(hl:σ'.length=σ.length)(w:∀ (i:Nat) v,σ'[i]?=some (some v)→σ[i]?=some (some v)):Inv X pins σ' H s :=
 ⟨I.ok,I.os,I.bare,I.base,let ⟨m,hn,hl'⟩:=I.loc;⟨m,hn,fun i x v e1 e2 e3=>hl' i x v e1 (w i v e2) e3⟩,I.cell,I.free,I.freeC,I.pin,I.hok,hl.trans I.len⟩
theorem Inv.pins_of {pins':Pn_}(I:Inv X pins σ H s)(h:∀ p∈pins',s.heap.get? p.1=some p.2∧H p.1=none∧p.1≠X.env.locals∧p.1∉X.fs∧∀ v,p.2.data≠.cell v):Inv X pins' σ H s :=
 ⟨I.ok,I.os,I.bare,I.base,I.loc,I.cell,I.free,I.freeC,fun p hp=>(ZW.mp hp).elim (fun z=>I.pin p (Js _ z)) (h p),I.hok,I.len⟩
theorem Z5D {N:Ls_}(hN:N.Nodup){i j:Nat}{x:Str}(a:N[i]?=some x)(b:N[j]?=some x):i=j:=by
 obtain⟨h1,e1⟩:=Zq.mp a
 obtain⟨h2,e2⟩:=Zq.mp b
 exact (List.getElem_inj hN).mp (e1.trans e2.symm)
theorem Z24 {M:Model}{A:Around}{E:Ps_}{i:Nat}{x:Str}{v:V}{u:Value}{Q:Unit→Shared→Prop}(I:Inv X pins σ H s)(hN:X.N.Nodup)(hi:X.N[i]?=some x)(hx:Loc X.env.scope x)(r:RelV v u)
  (h:∀ s',Inv X pins (σ.set i (some v)) H s'→(∃ a,Jl a s.heap s'.heap∧(a=X.env.locals∨X.env.cells.lookup x=some a))→Q () s') (hf:X.fn x=true∨X.env.scope.names.lookup x=some .local:=by first|exact .inl rfl|exact .inr rfl|assumption):wpAny M A (storeName X.env x u) Q E s:=by
 obtain⟨m,hn,hl⟩:=id I.loc
 have hcls:(X.env.scope.kind == .class||(X.env.scope.kind == .module&&X.env.locals != X.env.globals))=false:=by rw[I.ok.kind];rfl
 have hiσ:i<σ.length:=by rw[I.len];exact (Zq.mp hi).1
 have cne:=I.cne
 have tracked:∀ {a:Addr} {h':Heap},(∃ o,s.heap.get? a=some o∧H a=none)→Jl a s.heap h'→HOk X.prog X.w H h':=fun {a h'} ha hs b ob e=>by
  obtain⟨_,_,hfree⟩:=ha
  refine (I.hok b ob e).stay (fun c w' hc q=>(hs.2 c ?_).trans q) (fun _ q=>q) fun _ _ q=>q
  rintro rfl
  rcases hc with rfl|hc
  ·rw[hfree] at e;cases e
  ·rw[hfree] at hc;cases hc
 rcases hx with hk|hk
 ·refine wpAny_storeName_local hk hn (fun h' hn' hs=>?_) hcls
  obtain⟨oL,_,_,hoL,_⟩:=id hn
  refine h _ ⟨I.ok,I.os,I.bare,⟨fun b o e n hb hx=>?_,fun b o e n hb hx=>?_,I.base.free,fun b o e hx=>?_,I.base.tups,I.base.frzs,I.base.tbls⟩,⟨_,hn',fun j y v' e1 e2 e3=>?_⟩,fun y c e=>?_,I.free,I.freeC,fun p hp=>?_,tracked ⟨oL,hoL,I.free⟩ hs,by simpa using I.len⟩ ⟨_,hs,.inl rfl⟩
  ·exact (hs.2 b (ZI (ZO (ZB e) I.ok.above))).trans (I.base.keep b o e n hb hx)
  ·obtain⟨sl,e1⟩:=I.base.slot b o e n hb hx
   exact⟨sl,(hs.2 b (ZI (ZO (ZB e) I.ok.above))).trans e1⟩
  ·obtain⟨o',e1⟩:=I.base.there b o e hx
   exact⟨o',(hs.2 b (ZI (ZO (ZB e) I.ok.above))).trans e1⟩
  ·by_cases hj:j=i
   ·subst hj
    rw[hi] at e1;cases e1
    rw[Zw hiσ] at e2
    cases e2
    exact⟨u,r,.inl ⟨hk,by simp⟩⟩
   ·rw[Zg (GR hj)] at e2
    obtain⟨u',r',q⟩:=hl j y v' e1 e2 e3
    refine⟨u',r',?_⟩
    rcases q with ⟨k,e⟩|⟨k,c,e,z⟩
    ·refine .inl ⟨k,?_⟩
     have:y≠x:=fun e=>hj (Z5D hN e1 (e ▸ hi))
     simp[this,e]
    ·exact .inr ⟨k,c,e,z.sameBut hs (cne y c e)⟩
  ·obtain⟨w',z⟩:=I.cell y c e
   exact⟨w',z.sameBut hs (cne y c e)⟩
  ·obtain⟨e,n,ne,nf,d⟩:=I.pin p hp
   exact⟨(hs.2 p.1 ne).trans e,n,ne,nf,d⟩
 ·have hfn:X.fn x=true:=by
   rcases hf with z|z
   ·exact z
   ·rw[z] at hk;cases hk
  obtain⟨c,hc⟩:=I.ok.has x (.inl hk)
  obtain⟨w',z⟩:=I.cell x c hc
  refine wpAny_storeName_cell I.ok.kind hk hc z (fun h' hc' hs=>?_)
  obtain⟨oc,hoc,hocd⟩:=id z
  refine h { s with heap:=h' } ⟨I.ok,I.os,I.bare,⟨fun b o e n hb hx=>?_,fun b o e n hb hx=>?_,I.base.free,fun b o e hx=>?_,I.base.tups,I.base.frzs,I.base.tbls⟩,⟨m,hn.sameBut hs (GR (cne x c hc)),fun j y v' e1 e2 e3=>?_⟩,fun y c' e=>?_,I.free,I.freeC,fun p hp=>?_,tracked ⟨oc,hoc,I.freeC x c hc⟩ hs,by simpa using I.len⟩ ⟨c,hs,.inr hc⟩
  ·exact (hs.2 b (ZI (ZO (ZB e) (I.ok.cab x c hfn hc)))).trans (I.base.keep b o e n hb hx)
  ·obtain⟨sl,e1⟩:=I.base.slot b o e n hb hx
   exact⟨sl,(hs.2 b (ZI (ZO (ZB e) (I.ok.cab x c hfn hc)))).trans e1⟩
  ·obtain⟨o',e1⟩:=I.base.there b o e hx
   exact⟨o',(hs.2 b (ZI (ZO (ZB e) (I.ok.cab x c hfn hc)))).trans e1⟩
  ·by_cases hj:j=i
   ·subst hj
    rw[hi] at e1;cases e1
    rw[Zw hiσ] at e2
    cases e2
    exact⟨u,r,.inr ⟨.inl hk,c,hc,hc'⟩⟩
   ·rw[Zg (GR hj)] at e2
    obtain⟨u',r',q⟩:=hl j y v' e1 e2 e3
    refine⟨u',r',?_⟩
    rcases q with q|⟨k,c',e,z'⟩
    ·exact .inl q
    ·refine .inr ⟨k,c',e,z'.sameBut hs ?_⟩
     rintro rfl
     exact hj (Z5D hN e1 (I.ok.inj _ _ _ e hc ▸ hi))
  ·by_cases hcc:c'=c
   ·subst hcc;exact⟨_,hc'⟩
   ·obtain⟨w2,z2⟩:=I.cell y c' e
    exact⟨w2,z2.sameBut hs hcc⟩
  ·obtain⟨e,n,ne,nf,d⟩:=I.pin p hp
   refine⟨(hs.2 p.1 ?_).trans e,n,ne,nf,d⟩
   intro q
   rw[q,hoc] at e
   have q':oc=p.2:=Jn e
   exact d w' (by rw[← q'];exact hocd)
theorem Z5j {M:Model}{A:Around}{E:Ps_}{i:Nat}{x:Str}{v:V}{u:Value}{Q:Unit→Shared→Prop}(I:Inv X pins σ H s)(hN:X.N.Nodup)(hi:X.N[i]?=some x)(hx:Loc X.env.scope x)(r:RelV v u)
  (h:∀ s',Inv X pins (σ.set i (some v)) H s'→Q () s') (hf:X.fn x=true∨X.env.scope.names.lookup x=some .local:=by first|exact .inl rfl|exact .inr rfl|assumption):wpAny M A (storeName X.env x u) Q E s :=
 Z24 I hN hi hx r (fun s' I' _=>h s' I') hf
theorem Inv.call' {s':Shared}{ch:List Addr}(I:Inv X pins σ H s)(ho:s'.os=s.os)(u:Un (frs X.stack) ch H H' s.heap s'.heap)(hok:HOk X.prog X.w H' s'.heap)(hg:AllBare s'.gens)
  (hch:∀ b∈ch,(b∈X.ex∨X.s₀.heap.objs.size≤b)∧b≠X.env.locals∧(∀ x c,X.env.cells.lookup x=some c→c≠b)∧∀ p∈X.pn++pins,p.1≠b):Inv X pins σ H' s':=by
 obtain⟨h',g',d',t',o'⟩:=s'
 have e:o'=s.os:=ho
 subst e
 exact I.call (g':=g') (t':=t') (d':=d') u hok hg hch
end
abbrev XK:=Value→Option Addr→Hp→Prop
abbrev St:=List (Option V)
abbrev VK:=V→Hp→Prop
abbrev TE:=St→Hp→VK→Prop
abbrev TT:=St→Hp→(Bool→Hp→Prop)→Prop
abbrev TA:=St→Hp→(Lv_→Hp→Prop)→Prop
structure ZcG where
 nx:St→Hp→Prop
 rt:VK
 bk:St→Hp→Prop:=fun _ _=>False
 ct:St→Hp→Prop:=fun _ _=>False
abbrev TS:=ZcG→St→Hp→Prop
def EP (X:Cx)(pins:Pn_)(σ:St)(Q:VK)(u:Value)(s':Shared):Prop:=∃ v H',Inv X pins σ H' s'∧RelV v u∧Q v H'
def TP (X:Cx)(pins:Pn_)(σ:St)(Q:Bool→Hp→Prop)(b:Bool)(s':Shared):Prop:=∃ H',Inv X pins σ H' s'∧Q b H'
def AP (X:Cx)(pins:Pn_)(σ:St)(Q:Lv_→Hp→Prop)(us:Lu_)(s':Shared):Prop:=∃ vs H',Inv X pins σ H' s'∧Uj vs us∧Q vs H'
def SP (X:Cx)(pins:Pn_)(D:ZcG)(f:Flow)(s':Shared):Prop :=
 match f with
 |.next=>∃ σ' H',Inv X pins σ' H' s'∧D.nx σ' H'
 |.brk=>∃ σ' H',Inv X pins σ' H' s'∧D.bk σ' H'
 |.cont=>∃ σ' H',Inv X pins σ' H' s'∧D.ct σ' H'
 |.ret u=>∃ v σ' H',Inv X pins σ' H' s'∧RelV v u∧D.rt v H'
def PE (X:Cx)(e:Expr)(t:TE):Prop :=
 ∀ (pins:Pn_) (s:Shared) (σ:St) (H:Hp) (Q:VK),Inv X pins σ H s→t σ H Q→wpAny (model X.prog X.w) X.A (eval e X.env) (EP X pins σ Q) X.xe s
def PT (X:Cx)(e:Expr)(t:TT):Prop :=
 ∀ (pins:Pn_) (s:Shared) (σ:St) (H:Hp) (Q:Bool→Hp→Prop),Inv X pins σ H s→t σ H Q→wpAny (model X.prog X.w) X.A (isTrue e X.env (eval e X.env)) (TP X pins σ Q) X.xe s
def PW (X:Cx)(e:Expr)(t:TT):Prop :=
 ∀ (whole:Sem Value) (pins:Pn_) (s:Shared) (σ:St) (H:Hp) (Q:Bool→Hp→Prop),Inv X pins σ H s→t σ H Q→wpAny (model X.prog X.w) X.A (isTrue e X.env whole) (TP X pins σ Q) X.xe s
theorem PW.pt {X:Cx}{e:Expr}{t:TT}(h:PW X e t):PT X e t:=h _
def PA (X:Cx)(es:Le_)(t:TA):Prop :=
 ∀ (pos:Pos) (pins:Pn_) (s:Shared) (σ:St) (H:Hp) (Q:Lv_→Hp→Prop),Inv X pins σ H s→t σ H Q→wpAny (model X.prog X.w) X.A (spliced (backTo pos (starEach es X.env))) (AP X pins σ Q) X.xe s
def PS (X:Cx)(st:Stmt)(t:TS):Prop :=
 ∀ (pins:Pn_) (s:Shared) (σ:St) (H:Hp) (D:ZcG),Inv X pins σ H s→t D σ H→wpAny (model X.prog X.w) X.A (exec st X.env) (SP X pins D) X.xe s
def PSs (X:Cx)(st:List Stmt)(t:TS):Prop :=
 ∀ (pins:Pn_) (s:Shared) (σ:St) (H:Hp) (D:ZcG),Inv X pins σ H s→t D σ H→wpAny (model X.prog X.w) X.A (execs st X.env) (SP X pins D) X.xe s
theorem thn {α:Type}{t:Sem α}{Q Q':α→Shared→Prop}{M:Model}{A:Around}{E:Ps_}{s:Shared}(h:wpAny M A t Q E s)(hQ:∀ a s,Q a s→Q' a s):wpAny M A t Q' E s:=JP h hQ fun _ _ x=>x
section
variable {X:Cx}
def ZaN (i:Nat):TE:=fun σ H Q=>∃ v,σ[i]?=some (some v)∧Q v H
def tC (v:V):TE:=fun _ H Q=>Q v H
theorem Zgy {i:Nat} {x:Str} {pos:Pos} (hN:X.N[i]?=some x) (hv:Vis X.env.scope x) (hd:(x == ("__debug__":Str))=false:=by decide) (hcd:(x == ("__classdict__":Str))=false:=by decide):PE X (.Name x pos) (ZaN i):=by
 intro pins s σ H Q I h
 obtain⟨v,e,h⟩:=h
 obtain⟨m,hn,hl⟩:=I.loc
 obtain⟨u,r,l⟩:=hl i x v hN e hv
 have fin:EP X pins σ Q u s:=⟨v,H,I,r,h⟩
 rcases l with ⟨hk,hm⟩|⟨hk,c,hc,hcell⟩
 ·exact ZhV (wpAny_loadName_local I.ok.kind hk hn hm fin) hd
 ·rcases hk with hk|hk
  ·exact ZhV (wpAny_loadName_cell I.ok.kind hk hc hcell fin) hd
  ·exact ZhV (wpAny_loadName_free I.ok.kind hk hc hcell fin hcd) hd
theorem ZgE {i j pos}:PE X (.Constant (.int i) j pos) (tC (.int i)):=fun _ _ _ H _ I h=>wpAny_Constant_int ⟨.int i,H,I.tok _,⟨_,rfl⟩,h⟩
theorem ZiG {b j pos}:PE X (.Constant (.bool b) j pos) (tC (.bl b)):=fun _ _ _ H _ I h=>Constant_bool ⟨.bl b,H,I,rfl,h⟩
theorem ZgC {j pos}:PE X (.Constant .none j pos) (tC .non):=fun _ _ _ H _ I h=>Constant_none ⟨.non,H,I,rfl,h⟩
theorem ZgA {x j pos}:PE X (.Constant (.str x) j pos) (tC (.str x)):=fun _ _ _ H _ I h=>Calls.Constant_str ⟨.str x,H,I.tok _,⟨_,rfl⟩,h⟩
def Gl (X:Cx)(x:Str):Prop:=X.env.kindOf x=some .globalImplicit
theorem Z9n {E:Ps_}{pins:Pn_}{s:Shared}{σ:St}{H:Hp}{x:Str}{u:Value}{pos:Pos}{Q:Ps_}(I:Inv X pins σ H s)(hg:Gl X x)(hm:X.mg x=some u)(h:Q u s)
  (hd:(x == ("__debug__":Str))=false:=by decide):wpAny (model X.prog X.w) X.A (eval (.Name x pos) X.env) Q E s :=
 Z1L I.ok.kind hg (Calls.loadGlobal_global (by rw[I.ok.glob];exact I.mod.glob.keeps I.bk) hm h) hd
theorem BU {E:Ps_}{pins:Pn_}{s:Shared}{σ:St}{H:Hp}{x:Str}{u:Value}{pos:Pos}{Q:Ps_}(I:Inv X pins σ H s)(hg:Gl X x)(hm:X.mg x=none)(hv:bootBuiltins x=some u)(h:Q u s)
  (hn:x≠"__name__":=by decide) (hd:(x == ("__debug__":Str))=false:=by decide):wpAny (model X.prog X.w) X.A (eval (.Name x pos) X.env) Q E s:=by
 obtain⟨mb,h1,h2⟩:=I.mod.blt
 exact Z1L I.ok.kind hg (Calls.loadGlobal_builtin (by rw[I.ok.glob];exact I.mod.glob.keeps I.bk) hm (by rw[I.ok.blt];exact h1.keeps I.bk) ((h2 x hn).trans hv) h) hd
theorem Zei {x:Str} {v:V} {u:Value} {pos:Pos} (hg:Gl X x) (hm:X.mg x=none) (hv:bootBuiltins x=some u) (r:RelV v u) (hn:x≠"__name__":=by decide) (hd:(x == ("__debug__":Str))=false:=by decide):PE X (.Name x pos) (tC v) :=
 fun _ _ _ H _ I h=>BU I hg hm hv ⟨v,H,I,r,h⟩ hn hd
variable {a b:Expr}{ta tb:TE}{pos:Pos}
def tB (t:TE):TT:=fun σ H Q=>t σ H fun x H1=>∃ c,x=.bl c∧Q c H1
theorem Zgr {e:Expr}{t:TE}(h:PE X e t)(he:∀ whole,isTrue e X.env whole=(do let v ← whole;standAt e.pos;holding [v] (truthy v)):=by intro _;rfl):PT X e (tB t):=by
 intro pins s σ H Q I hw
 refine isTrue_plain (thn (h pins s σ H _ I hw) fun v s1 z1_=>?_) (he _)
 obtain ⟨x,H1,I1,r1,q1⟩:=z1_
 obtain⟨d,rfl,q⟩:=q1
 cases r1
 exact Mx ⟨H1,I1,q⟩
variable {tA tB':TT}{rest:Le_}
def ZjT (t u:TT):TT:=fun σ H Q=>t σ H fun c H1=>if c=true then u σ H1 Q else Q false H1
def tOr (t u:TT):TT:=fun σ H Q=>t σ H fun c H1=>if c=true then Q true H1 else u σ H1 Q
def ZjO (t:TT):TT:=fun σ H Q=>t σ H fun c H1=>Q (!c) H1
theorem Ze3 (ha:PT X a tA):PW X (.BoolOp .And [a] pos) tA:=by
 intro wh pins s σ H Q I h
 refine isTrue_and (thn (ha pins s σ H Q I h) fun c s1 e=>?_)
 cases c with
 |true=>exact isTrue_and_nil e
 |false=>exact e
theorem Zgo (ha:PT X a tA):PW X (.BoolOp .Or [a] pos) tA:=by
 intro wh pins s σ H Q I h
 refine isTrue_or (thn (ha pins s σ H Q I h) fun c s1 e=>?_)
 cases c with
 |false=>exact isTrue_or_nil e
 |true=>exact e
theorem Zgp (ha:PT X a tA)(hb:PW X (.BoolOp .And (b::rest) pos) tB'):PW X (.BoolOp .And (a::b::rest) pos) (ZjT tA tB'):=by
 intro wh pins s σ H Q I h
 refine isTrue_and (thn (ha pins s σ H _ I h) fun c s1 z1_=>?_)
 obtain ⟨H1,I1,q1⟩:=z1_
 cases c with
 |true=>exact hb wh pins s1 σ H1 Q I1 q1
 |false=>exact⟨H1,I1,q1⟩
theorem ZiB (ha:PT X a tA)(hb:PW X (.BoolOp .Or (b::rest) pos) tB'):PW X (.BoolOp .Or (a::b::rest) pos) (tOr tA tB'):=by
 intro wh pins s σ H Q I h
 refine isTrue_or (thn (ha pins s σ H _ I h) fun c s1 z1_=>?_)
 obtain ⟨H1,I1,q1⟩:=z1_
 cases c with
 |true=>exact⟨H1,I1,q1⟩
 |false=>exact hb wh pins s1 σ H1 Q I1 q1
theorem Zgs (ha:PT X a tA):PT X (.UnaryOp .Not a pos) (ZjO tA):=by
 intro pins s σ H Q I h
 exact isTrue_not (ha pins s σ H (fun c H1=>Q (!c) H1) I h)
def Ziu (ta tb:TE):TE:=fun σ H Q=>ta σ H fun x H1=>∃ c,x=.bl c∧if c=true then tb σ H1 Q else Q (.bl false) H1
theorem ZgB {op}{t:TE}(h:PE X a t):PE X (.BoolOp op [a] pos) t:=fun pins s σ H Q I hw=>BoolOp_one (h pins s σ H Q I hw)
theorem ZgF (ha:PE X a ta)(hb:PE X (.BoolOp .And (b::rest) pos) tb):PE X (.BoolOp .And (a::b::rest) pos) (Ziu ta tb):=by
 intro pins s σ H Q I h
 refine BoolOp_and (thn (ha pins s σ H _ I h) fun v s1 z1_=>?_)
 obtain ⟨x,H1,I1,r1,q1⟩:=z1_
 obtain⟨c,rfl,q1⟩:=q1
 cases r1
 refine Mx ?_
 cases c with
 |true=>exact hb pins s1 σ H1 Q I1 q1
 |false=>exact⟨.bl false,H1,I1,rfl,q1⟩
def tIf (t:TT)(ta tb:TE):TE:=fun σ H Q=>t σ H fun c H1=>if c=true then ta σ H1 Q else tb σ H1 Q
theorem Zbi {c:Expr}(hc:PT X c tA)(ha:PE X a ta)(hb:PE X b tb):PE X (.IfExp c a b pos) (tIf tA ta tb):=by
 intro pins s σ H Q I h
 refine wpAny_IfExp (thn (hc pins s σ H _ I h) fun d s1 z1_=>?_)
 obtain ⟨H1,I1,q1⟩:=z1_
 cases d with
 |true=>exact ha pins s1 σ H1 Q I1 q1
 |false=>exact hb pins s1 σ H1 Q I1 q1
end
def SqL (K:Fg_)(H:Hp)(a:Addr)(xs:Lv_):Prop :=
 Rd H a (.lst xs) ∨
  ∃ (o:Obj) (its:Au_) (n:Nat),K.lookup a=some o∧o.cls=.type "list"∧o.dict=none∧o.data=.seq its n∧its.size≤sizeLine∧Uj xs its.toList
def SqT (K:Fg_)(H:Hp)(a:Addr)(xs:Lv_):Prop :=
 Rd H a (.tup xs) ∨
  ∃ (o:Obj) (its:Au_) (n:Nat),K.lookup a=some o∧o.cls=.type "tuple"∧o.data=.seq its n∧its.size≤sizeLine∧Uj xs its.toList
noncomputable def Zk5:Value→Option V
 |.none=>some .non
 |.bool b=>some (.bl b)
 |.int i _=>some (.int i)
 |.str x _=>some (.str x)
 |.bytes b _=>some (.byt b)
 |.float b _=>some (.flt b)
 |.ref a=>some (.ref a)
 |.type n=>some (.ty n)
 |_=>none
theorem RelV.abs {x:V}{u:Value}(r:RelV x u):Zk5 u=some x:=by
 cases x with
 |non=>cases r;rfl
 |bl _=>cases r;rfl
 |int _=>obtain⟨t,rfl⟩:=r;rfl
 |str _=>obtain⟨t,rfl⟩:=r;rfl
 |byt _=>obtain⟨t,rfl⟩:=r;rfl
 |flt _=>obtain⟨t,rfl⟩:=r;rfl
 |ref _=>cases r;rfl
 |ty _=>cases r;rfl
theorem RelV.inj {x y:V}{u:Value}(r:RelV x u)(q:RelV y u):x=y:=Jn (r.abs.symm.trans q.abs)
theorem Uj.inj:∀ {xs ys:Lv_} {us:Lu_},Uj xs us→Uj ys us→xs=ys:=by
 intro xs ys us h
 induction h generalizing ys with
 |nil=>intro h2;cases h2;rfl
 |cons r t ih=>intro h2;cases h2 with
  |cons r' t'=>rw[r.inj r',ih t']
section
variable {X:Cx}{pins:Pn_}{σ:St}{H:Hp}{s:Shared}{a:Addr}{xs ys:Lv_}
theorem SqL.of {K:Fg_}(h:H a=some (.lst xs)):SqL K H a xs:=.inl (.inl h)
theorem SqT.of {K:Fg_}(h:H a=some (.tup xs)):SqT K H a xs:=.inl (.inl h)
theorem Inv.list (I:Inv X pins σ H s)(h:SqL X.K H a xs):∃ its:Lu_,Uj xs its∧PlainL s.heap a its.toArray∧xs.length≤sizeLine:=by
 rcases h with h|⟨o,its,n,hk,hc,hd,hs,hz,r⟩
 ·obtain⟨z,its,n,r,e⟩:=h.ok I.hok
  exact⟨its,r,⟨_,n,e,rfl,rfl,rfl⟩,z⟩
 ·refine⟨its.toList,r,⟨o,n,I.kIn a o hk,hc,hd,by simpa using hs⟩,?_⟩
  have e:=r.length
  simp only[Zm] at e
  lia
theorem Inv.tuple (I:Inv X pins σ H s)(h:SqT X.K H a xs):∃ its:Lu_,Uj xs its∧IsTup s.heap a its.toArray∧xs.length≤sizeLine:=by
 rcases h with h|⟨o,its,n,hk,hc,hs,hz,r⟩
 ·obtain⟨z,its,r,p⟩:=h.ok I.hok
  exact⟨its,r,p,z⟩
 ·refine⟨its.toList,r,⟨o,I.kIn a o hk,hc,n,by simpa using hs⟩,?_⟩
  have e:=r.length
  simp only[Zm] at e
  lia
theorem Inv.list_inj (I:Inv X pins σ H s)(h:SqL X.K H a xs)(h':SqL X.K H a ys):xs=ys:=by
 obtain⟨its,r,⟨o,n,e,_,_,d⟩,_⟩:=I.list h
 obtain⟨its',r',⟨o',n',e',_,_,d'⟩,_⟩:=I.list h'
 rw[e] at e';cases e'
 rw[d] at d'
 injection d' with d1 _
 have:its=its':=by simpa using congrArg ZhN d1
 subst this
 exact r.inj r'
theorem Inv.tuple_inj (I:Inv X pins σ H s)(h:SqT X.K H a xs)(h':SqT X.K H a ys):xs=ys:=by
 obtain⟨its,r,⟨o,e,_,n,d⟩,_⟩:=I.tuple h
 obtain⟨its',r',⟨o',e',_,n',d'⟩,_⟩:=I.tuple h'
 rw[e] at e';cases e'
 rw[d] at d'
 injection d' with d1 _
 have:its=its':=by simpa using congrArg ZhN d1
 subst this
 exact r.inj r'
end
noncomputable abbrev Cx.wish (X:Cx)(E:Ps_):Cx:={ X with xe:=E }
noncomputable abbrev Cx.nox (X:Cx):Cx:=X.wish fun _ _=>False
theorem Cx.Ok.wish {X:Cx}(ok:X.Ok)(E:Ps_):(X.wish E).Ok :=
 ⟨ok.mod,ok.kind,ok.glob,ok.blt,ok.above,ok.inj,ok.has,ok.cab,ok.hd,ok.frames,ok.stk,ok.exf,ok.bs,ok.bsz,ok.noex,ok.exfs,ok.funs,ok.frf⟩
theorem Cx.Ok.unwish {X:Cx}{E:Ps_}(ok:(X.wish E).Ok):X.Ok :=
 ⟨ok.mod,ok.kind,ok.glob,ok.blt,ok.above,ok.inj,ok.has,ok.cab,ok.hd,ok.frames,ok.stk,ok.exf,ok.bs,ok.bsz,ok.noex,ok.exfs,ok.funs,ok.frf⟩
section
variable {X:Cx}{pins:Pn_}{σ:St}{H:Hp}{s:Shared}{E:Ps_}
theorem Inv.wish (I:Inv X pins σ H s)(E:Ps_):Inv (X.wish E) pins σ H s:=⟨I.ok.wish E,I.os,I.bare,I.base,I.loc,I.cell,I.free,I.freeC,I.pin,I.hok,I.len⟩
theorem Inv.unwish (I:Inv (X.wish E) pins σ H s):Inv X pins σ H s:=⟨I.ok.unwish,I.os,I.bare,I.base,I.loc,I.cell,I.free,I.freeC,I.pin,I.hok,I.len⟩
theorem SP.unwish {D:ZcG}{f:Flow}{s':Shared}(h:SP (X.wish E) pins D f s'):SP X pins D f s':=by
 cases f with
 |next=>obtain⟨σ',H',I,q⟩:=h;exact⟨σ',H',I.unwish,q⟩
 |brk=>obtain⟨σ',H',I,q⟩:=h;exact⟨σ',H',I.unwish,q⟩
 |cont=>obtain⟨σ',H',I,q⟩:=h;exact⟨σ',H',I.unwish,q⟩
 |ret u=>obtain⟨v,σ',H',I,r,q⟩:=h;exact⟨v,σ',H',I.unwish,r,q⟩
theorem PSs.nox {st:List Stmt}{t:TS}(h:PSs X.nox st t):PSs X st t:=fun pins s σ H D I hw =>
 JP (h pins s σ H D (I.wish _) hw) (fun _ _ q=>q.unwish) fun _ _ z=>Nw z
end
section
variable {X:Cx}{st:Stmt}{rest:List Stmt}{t u:TS}{e:Expr}{te:TE}{pos:Pos}
def Zip:TS:=fun D σ H=>D.nx σ H
def ZjM (t u:TS):TS:=fun D σ H=>t { D with nx:=u D } σ H
theorem Ze8:PSs X [] Zip:=fun _ _ σ H _ I h=>BB ⟨σ,H,I,h⟩
theorem Zb7 (h1:PS X st t)(h2:PSs X rest u):PSs X (st::rest) (ZjM t u):=by
 intro pins s σ H D I h
 refine Zii (thn (h1 pins s σ H { D with nx:=u D } I h) fun f s1 q=>?_)
 cases f with
 |next =>
  obtain⟨σ',H',I',q⟩:=q
  exact h2 pins s1 σ' H' D I' q
 |ret v=>exact q
 |brk=>exact q
 |cont=>exact q
theorem Ze7 (h1:PS X st t):PSs X [st] t:=by
 intro pins s σ H D I h
 refine Zii (thn (h1 pins s σ H D I h) fun f s1 q=>?_)
 cases f with
 |next=>exact BB q
 |ret v=>exact q
 |brk=>exact q
 |cont=>exact q
theorem Inv.quiet {pins:Pn_}{σ:St}{H:Hp}{s:Shared}(I:Inv X pins σ H s):interactive X.env=false:=by simp[interactive,I.ok.kind]
def Ziq (te:TE):TS:=fun D σ H=>te σ H fun _ H1=>D.nx σ H1
theorem Z8n (he:PE X e te)(hs:swapsWith e none pos.line X.env=pure false:=by rfl):PS X (.Expr e pos) (Ziq te):=by
 intro pins s σ H D I h
 exact wpAny_Expr_any (thn (he pins s σ H _ I h) fun v s1 ⟨x,H1,I1,r1,q1⟩=>⟨σ,H1,I1,q1⟩) I.quiet hs
def ZjN (te:TE):TS:=fun D σ H=>te σ H D.rt
theorem Zgt (he:PE X e te):PS X (.Return (some e) pos) (ZjN te):=by
 intro pins s σ H D I h
 exact wpAny_Return_some (thn (he pins s σ H _ I h) fun v s1 ⟨x,H1,I1,r1,q1⟩=>⟨x,σ,H1,I1,r1,q1⟩)
def ZjR (c:TT)(t u:TS):TS:=fun D σ H=>c σ H fun b H1=>if b=true then t D σ H1 else u D σ H1
theorem ZiC {c:Expr}{a b:List Stmt}{tc:TT}(hc:PT X c tc)(ha:PSs X a t)(hb:PSs X b u):PS X (.If c a b pos) (ZjR tc t u):=by
 intro pins s σ H D I h
 refine wpAny_If (thn (hc pins s σ H _ I h) fun d s1 z1_=>?_)
 obtain ⟨H1,I1,q1⟩:=z1_
 cases d with
 |true=>exact ha pins s1 σ H1 D I1 q1
 |false=>exact hb pins s1 σ H1 D I1 q1
end
abbrev TG:=V→St→Hp→(St→Hp→Prop)→Prop
abbrev TGs:=Lv_→St→Hp→(St→Hp→Prop)→Prop
def PG (X:Cx)(target:Expr)(t:TG):Prop :=
 ∀ (pins:Pn_) (s:Shared) (σ:St) (H:Hp) (v:V) (u:Value) (Q:St→Hp→Prop),Inv X pins σ H s→RelV v u→t v σ H Q →
  wpAny (model X.prog X.w) X.A (assign target X.env u) (fun _ s'=>∃ σ' H',Inv X pins σ' H' s'∧Q σ' H') X.xe s
def PGs (X:Cx)(ts:Le_)(t:TGs):Prop :=
 ∀ (pins:Pn_) (s:Shared) (σ:St) (H:Hp) (vs:Lv_) (us:Lu_) (Q:St→Hp→Prop),Inv X pins σ H s→Uj vs us→t vs σ H Q →
  wpAny (model X.prog X.w) X.A (assignInOrder ((assignEach ts X.env).map (·.2)) us) (fun _ s'=>∃ σ' H',Inv X pins σ' H' s'∧Q σ' H') X.xe s
section
variable {X:Cx}{pos:Pos}
def Fm (i:Nat):TG:=fun v σ H Q=>Q (σ.set i (some v)) H
theorem Mm {i:Nat}{x:Str}(hN:X.N.Nodup)(hi:X.N[i]?=some x)(hx:Loc X.env.scope x)(hf:X.fn x=true∨X.env.scope.names.lookup x=some .local:=by first|exact .inl rfl|exact .inr rfl|assumption):PG X (.Name x pos) (Fm i):=by
 intro pins s σ H v u Q I r h
 exact ZhU (Z5j I hN hi hx r (fun s' I'=>⟨_,H,I',h⟩) hf)
def Zj3:TGs:=fun vs σ H Q=>vs=[]∧Q σ H
def Z9J (t:TG)(u:TGs):TGs:=fun vs σ H Q=>∃ v r,vs=v::r∧t v σ H fun σ' H'=>u r σ' H' Q
theorem Z1b:PGs X [] Zj3:=by
 intro pins s σ H vs us Q I r h
 obtain⟨e,h⟩:=h
 subst e
 cases r
 exact assignInOrder_nil ⟨σ,H,I,h⟩
theorem MK {e:Expr}{es:Le_}{t:TG}{u:TGs}(h1:PG X e t)(h2:PGs X es u)
  (hs:(assignEach (e::es) X.env).map (·.2)=assign e X.env::(assignEach es X.env).map (·.2):=by rfl):PGs X (e::es) (Z9J t u):=by
 intro pins s σ H vs us Q I r h
 obtain⟨v,vr,e1,h⟩:=h
 subst e1
 cases r with
 |cons r rr =>
  rw[hs]
  refine assignInOrder_cons (thn (h1 pins s σ H _ _ _ I r h) fun _ s1 z1_=>?_)
  obtain ⟨σ1,H1,I1,q1⟩:=z1_
  exact h2 pins s1 σ1 H1 _ _ Q I1 rr q1
def Zj2 (K:Fg_)(n:Nat)(t:TGs):TG:=fun v σ H Q=>∃ a xs,v=.ref a∧SqT K H a xs∧xs.length=n∧t xs σ H Q
theorem Z5z {es:Le_}{k:Nat}{t:TGs}{n:Nat}(hc:X.calm=true)(h:PGs X es t)
  (hn:(assignEach es X.env).length=n:=by rfl) (hst:(assignEach es X.env).findIdx? (·.1)=none:=by rfl):PG X (.Tuple es k pos) (Zj2 X.K n t):=by
 intro pins s σ H v u Q I r hw
 obtain⟨a,xs,e1,hq,hl,hw⟩:=hw
 subst e1
 cases r
 obtain⟨its,rv,ht,hz⟩:=I.tuple hq
 refine assign_Tuple_tuple (I.ok.hd hc) ht (by simp[hn,← hl,rv.length]) hst fun h' hx=>?_
 have I1:Inv X pins σ H { s with heap:=h' }:=I.kept (t':=s.toks) fun b o e=>hx b o (ZI (ZB e)) e
 exact h pins _ σ H xs _ Q I1 (by simpa using rv) hw
def ZfI (te:TE)(g:TG):TS:=fun D σ H=>te σ H fun x H1=>g x σ H1 D.nx
theorem Zgv {tg e:Expr}{te:TE}{g:TG}(he:PE X e te)(hg:PG X tg g)(hs:swapsWithSole [tg] e pos.line X.env=pure false:=by rfl)(hw:swappedStores [tg] e X.env=pure none:=by rfl)
  (h1:(assignEach [tg] X.env).map (·.2)=[assign tg X.env]:=by rfl):PS X (.Assign [tg] e pos) (ZfI te g):=by
 intro pins s σ H D I h
 refine wpAny_Assign_stores (thn (he pins s σ H _ I h) fun v s1 z1_=>?_) hs hw
 obtain ⟨x,H1,I1,r1,q1⟩:=z1_
 rw[h1]
 exact thn (hg pins s1 σ H1 x v _ I1 r1 q1) fun _ s2 q=>q
theorem Z8m {i:Nat}{x:Str}{e:Expr}{te:TE}{pos':Pos}(hN:X.N.Nodup)(hi:X.N[i]?=some x)(hx:Loc X.env.scope x)(he:PE X e te)(hs:swapsWith e (some (.Name x pos')) pos.line X.env=pure false:=by rfl)(hf:X.fn x=true∨X.env.scope.names.lookup x=some .local:=by first|exact .inl rfl|exact .inr rfl|assumption) :
  PS X (.Assign [.Name x pos'] e pos) (ZfI te (Fm i)):=by
 intro pins s σ H D I h
 refine wpAny_Assign_Name (thn (he pins s σ H _ I h) fun v s1 z1_=>?_) hs
 obtain ⟨y,H1,I1,r1,q1⟩:=z1_
 exact Z5j I1 hN hi hx r1 (fun s2 I2=>⟨_,H1,I2,q1⟩) hf
def Zg1 (c:TT)(tb:TS):TS:=fun D σ H=>∃ W:Nat→St→Hp→Prop,(∃ m,W m σ H)∧∀ m σ H,W m σ H →
 c σ H fun b H1=>if b=true then ∃ N:St→Hp→Prop,(∀ σ' H',N σ' H'→∃ m',m'<m∧W m' σ' H')∧tb { D with nx:=N,ct:=N,bk:=D.nx } σ H1 else D.nx σ H1
theorem Zb8 {c:Expr}{body:List Stmt}{tc:TT}{tb:TS}(hp:YZ (model X.prog X.w) X.A X.env X.xe)(hc:PT X c tc)(hb:PSs X body tb):PS X (.While c body [] pos) (Zg1 tc tb):=by
 intro pins s σ H D I h
 obtain⟨W,⟨m0,w0⟩,turn⟩:=h
 refine wpAny_While (codeAny_whileLoop (fun n s'=>∃ σ' H',Inv X pins σ' H' s'∧W n σ' H') ?_ m0 ⟨σ,H,I,w0⟩)
 rintro n s1 ⟨σ1,H1,I1,w1⟩
 refine N9 hp (thn (hc pins s1 σ1 H1 _ I1 (turn n σ1 H1 w1)) fun b s2 z1_=>?_)
 obtain ⟨H2,I2,q2⟩:=z1_
 cases b with
 |true =>
  obtain⟨N,hN,q2⟩:=q2
  rw[if_pos rfl]
  refine N9 hp (thn (hb pins s2 σ1 H2 _ I2 q2) fun f s3 q3=>?_)
  cases f with
  |next =>
   obtain⟨σ3,H3,I3,n3⟩:=q3
   obtain⟨m',hm,w3⟩:=hN σ3 H3 n3
   exact⟨m',hm,σ3,H3,I3,w3⟩
  |cont =>
   obtain⟨σ3,H3,I3,n3⟩:=q3
   obtain⟨m',hm,w3⟩:=hN σ3 H3 n3
   exact⟨m',hm,σ3,H3,I3,w3⟩
  |brk=>exact q3
  |ret v=>exact q3
 |false =>
  rw[if_neg JN]
  exact BB ⟨σ1,H2,I2,q2⟩
end
structure It where
 go:Nat→Hp→Prop
 yld:Nat→Hp→V→Hp→Prop
 stop:Nat→Hp→Prop
def Z6m (X:Cx)(pins:Pn_)(H:Hp)(b:Addr):Prop :=
 H b=none∧b≠X.env.locals∧b∉X.fs∧(b∈X.ex∨X.s₀.heap.objs.size≤b)∧(∀ x c,X.env.cells.lookup x=some c→c≠b)∧∀ p∈X.pn++pins,p.1≠b
theorem Inv.fpOk {X:Cx}{pins:Pn_}{σ:St}{H H':Hp}{s:Shared}{b:Addr}(I:Inv X pins σ H s)(hb:s.heap.objs.size≤b)(hn:H' b=none):Z6m X pins H' b:=by
 refine⟨hn,NA (ZO I.lt hb),I.nofs hb,.inr (Zz I.sz hb),fun x c e z=>?_,fun p hp z=>?_⟩
 ·obtain⟨v,q⟩:=I.cell x c e
  exact absurd (ZO q.lt (by rw[z];exact hb)) (YG _)
 ·exact absurd (ZO (ZB (I.pin p hp).1) (by rw[z];exact hb)) (YG _)
structure Zct (P:Program)(w:World)(K:Fg_)(tg:Expr)(J:It)(fp:List Addr)(it:Addr)(tn:Nat→Heap→Prop):Prop where
 mem:it∈fp
 obj:∀ i h,tn i h→∀ b∈fp,∃ o,h.get? b=some o∧∀ v,o.data≠.cell v
 keep:∀ i h h',tn i h→(∀ b∈fp,∀ o,h.get? b=some o→h'.get? b=some o)→tn i h'
 item:∀ (X:Cx),X.prog=P→X.w=w→X.K=K→X.calm=true→∀ (i:Nat) (pins:Pn_) (s:Shared) (σ:St) (H:Hp) (E:Ps_),Inv X pins σ H s→(∀ b∈fp,Z6m X pins H b)→tn i s.heap→J.go i H →
  wpAny (model P w) X.A (pyNext (.ref it)) (fun r s1=>∃ u,r=some u ∧
   wpAny (model P w) X.A (letOwnedTupleGo tg (.ref it) u) (fun _ s2=>∃ x H',Inv X pins σ H' s2∧RelV x u∧J.yld i H x H'∧tn (i+1) s2.heap∧∀ b∈fp,H' b=none) E s1) E s
 done:∀ (X:Cx),X.prog=P→X.w=w→X.K=K→X.calm=true→∀ (i:Nat) (pins:Pn_) (s:Shared) (σ:St) (H:Hp) (E:Ps_),Inv X pins σ H s→(∀ b∈fp,Z6m X pins H b)→tn i s.heap→J.stop i H →
  wpAny (model P w) X.A (pyNext (.ref it)) (fun r s1=>r=none∧Inv X pins σ H s1) E s
 self:∀ (A:Around) (i:Nat) (s:Shared) (Q:Ps_) (E:Ps_),tn i s.heap→Q (.ref it) s→wpAny (model P w) A (pyIter (.ref it)) Q E s
abbrev TI:=St→Hp→(It→Hp→Prop)→Prop
def PIE (X:Cx)(pins:Pn_)(σ:St)(tg:Expr)(R:It→Hp→Prop)(itv:Value)(s2:Shared):Prop :=
 ∃ (it:Addr) (fp:List Addr) (tn:Nat→Heap→Prop) (J:It) (H':Hp),itv=.ref it∧Inv X pins σ H' s2∧Zct X.prog X.w X.K tg J fp it tn∧tn 0 s2.heap∧(∀ b∈fp,Z6m X pins H' b)∧R J H'
def PI (X:Cx)(tg iter:Expr)(wi:TI):Prop :=
 ∀ (pins:Pn_) (s:Shared) (σ:St) (H:Hp) (R:It→Hp→Prop),Inv X pins σ H s→wi σ H R →
  wpAny (model X.prog X.w) X.A (eval iter X.env) (fun v s1=>wpAny (model X.prog X.w) X.A (pyIter v) (PIE X pins σ tg R) X.xe s1) X.xe s
theorem Zfj {M:Model}{A:Around}{E:Ps_}{s:Shared}{tg:Expr}{it:Addr}{u:Value}{o:Obj}{n:String}{vs:Au_}{Q:Unit→Shared→Prop}(ho:s.heap.get? it=some o)(hc:o.cls=.type n)(hd:o.data=.fields vs)
  (hn:["enumerate","zip","dict_itemiterator","dict_reverseitemiterator","odict_iterator","itertools.zip_longest","itertools.pairwise"].contains n=false) (hQ:Q () s):wpAny M A (letOwnedTupleGo tg (.ref it) u) Q E s:=by
 unfold letOwnedTupleGo
 cases tg <;> first
  |exact Z5 hQ
  |(cases u <;> first
    |exact Z5 hQ
    |(refine Z0 (Z7C ho ?_);rw[hc,hd];show wpAny M A (if (["enumerate","zip","dict_itemiterator","dict_reverseitemiterator","odict_iterator","itertools.zip_longest","itertools.pairwise"].contains n&&vs[0]? == some (rawInt _))=true then _ else _) Q E s;rw[if_neg (by intro h;rw[hn,ZfS] at h;cases h)];exact Z5 hQ))
noncomputable def Itl (K:Fg_)(a:Addr):It :=
 ⟨fun i H=>∃ xs x,SqL K H a xs∧xs[i]?=some x,fun i H x H'=>H'=H∧∀ xs,SqL K H a xs→xs[i]?=some x,fun i H=>∃ xs,SqL K H a xs∧xs.length≤i⟩
noncomputable def Itt (K:Fg_)(a:Addr):It :=
 ⟨fun i H=>∃ xs x,SqT K H a xs∧xs[i]?=some x,fun i H x H'=>H'=H∧∀ xs,SqT K H a xs→xs[i]?=some x,fun i H=>∃ xs,SqT K H a xs∧xs.length≤i⟩
noncomputable def Itr (lo:Int)(n:Nat):It:=⟨fun i _=>i<n,fun i H x H'=>H'=H∧x=.int (lo+i),fun i _=>n≤i⟩
theorem Z7J {P:Program}{w:World}{K:Fg_}{tg:Expr}(a it:Addr):Zct P w K tg (Itl K a) [it] it (fun i h=>h.IsListIter it a i) where
 mem:=by simp
 obj:=fun i h st b hb=>by
  have e:b=it:=by simpa using hb
  subst e
  obtain⟨o,e,c,d⟩:=st
  exact⟨o,e,fun v z=>by rw[d] at z;cases z⟩
 keep:=fun i h h' st k=>st.at fun o e=>k it (by simp) o e
 item:=by
  intro X hP hw hK hc i pins s σ H E I hf st hg
  subst hP hw hK
  obtain⟨xs,x,hq,hx⟩:=hg
  obtain⟨its,rv,p,hz⟩:=I.list hq
  obtain⟨u,hu,ru⟩:=rv.get hx
  obtain⟨f0,f1,f2,f3,f4,f5⟩:=hf it (by simp)
  refine wpAny_pyNext_list_item st p.isList (x:=u) (by simpa using hu) fun h' st' sb=>?_
  have I1:Inv X pins σ H { s with heap:=h' }:=I.turned (t':=s.toks) (fun b o hb e=>(sb.2 b hb).trans e) f0 f1 f3 f4 f5
  obtain⟨o,e,c,d⟩:=id st'
  exact⟨u,rfl,Zfj (s:={ s with heap:=h' }) e c d (by decide) ⟨x,H,I1,ru,⟨rfl,fun ys hy=>by rw[I.list_inj hy hq];exact hx⟩,st',fun b hb=>(hf b hb).1⟩⟩
 done:=by
  intro X hP hw hK hc i pins s σ H E I hf st hg
  subst hP hw hK
  obtain⟨xs,hq,hx⟩:=hg
  obtain⟨its,rv,p,hz⟩:=I.list hq
  obtain⟨f0,f1,f2,f3,f4,f5⟩:=hf it (by simp)
  have hl:=rv.length
  exact wpAny_pyNext_list_end (I.ok.hd hc) st p.isList (by simp;lia) fun h' eb=>⟨rfl,I.turned (t':=s.toks) (fun b o hb e=>eb b o hb e) f0 f1 f3 f4 f5⟩
 self:=fun _ _ _ _ _ st h=>wpAny_pyIter_listiter st h
theorem Z6q {P:Program}{w:World}{K:Fg_}{tg:Expr}(a it:Addr):Zct P w K tg (Itt K a) [it] it (fun i h=>h.IsTupleIter it a i) where
 mem:=by simp
 obj:=fun i h st b hb=>by
  have e:b=it:=by simpa using hb
  subst e
  obtain⟨o,e,c,d⟩:=st
  exact⟨o,e,fun v z=>by rw[d] at z;cases z⟩
 keep:=fun i h h' st k=>st.at fun o e=>k it (by simp) o e
 item:=by
  intro X hP hw hK hc i pins s σ H E I hf st hg
  subst hP hw hK
  obtain⟨xs,x,hq,hx⟩:=hg
  obtain⟨its,rv,p,hz⟩:=I.tuple hq
  obtain⟨u,hu,ru⟩:=rv.get hx
  obtain⟨f0,f1,f2,f3,f4,f5⟩:=hf it (by simp)
  refine wpAny_pyNext_tuple_item st (show s.heap.IsTuple a its.toArray from p) (x:=u) (by simpa using hu) fun h' st' sb=>?_
  have I1:Inv X pins σ H { s with heap:=h' }:=I.turned (t':=s.toks) (fun b o hb e=>(sb.2 b hb).trans e) f0 f1 f3 f4 f5
  obtain⟨o,e,c,d⟩:=id st'
  exact⟨u,rfl,Zfj (s:={ s with heap:=h' }) e c d (by decide) ⟨x,H,I1,ru,⟨rfl,fun ys hy=>by rw[I.tuple_inj hy hq];exact hx⟩,st',fun b hb=>(hf b hb).1⟩⟩
 done:=by
  intro X hP hw hK hc i pins s σ H E I hf st hg
  subst hP hw hK
  obtain⟨xs,hq,hx⟩:=hg
  obtain⟨its,rv,p,hz⟩:=I.tuple hq
  obtain⟨f0,f1,f2,f3,f4,f5⟩:=hf it (by simp)
  have hl:=rv.length
  exact wpAny_pyNext_tuple_end (I.ok.hd hc) st (show s.heap.IsTuple a its.toArray from p) (by simp;lia) fun h' eb=>⟨rfl,I.turned (t':=s.toks) (fun b o hb e=>eb b o hb e) f0 f1 f3 f4 f5⟩
 self:=fun _ _ _ _ _ st h=>wpAny_pyIter_tupleiter st h
theorem Z6r {P:Program}{w:World}{K:Fg_}{tg:Expr}(it:Addr)(lo:Int)(n:Nat):Zct P w K tg (Itr lo n) [it] it (fun i h=>IsRangeIter h it (lo+(i:Nat)*1) ((n:Int)-(i:Nat)) 1) where
 mem:=by simp
 obj:=fun i h st b hb=>by
  have e:b=it:=by simpa using hb
  subst e
  exact⟨_,st,fun v z=>by
   have z':Data.fields _=Data.cell v:=z
   cases z'⟩
 keep:=fun i h h' st k=>k it (by simp) _ st
 item:=by
  intro X hP hw hK hc i pins s σ H E I hf st hg
  subst hP hw hK
  obtain⟨f0,f1,f2,f3,f4,f5⟩:=hf it (by simp)
  have W:=Walks.range (prog:=X.prog) (w:=X.w) (I.ok.hd hc) it lo 1 n
  refine W.item i s _ _ hg st fun v h' tk hv st' kk=>?_
  obtain⟨t,rfl⟩:=hv
  have I1:Inv X pins σ H { s with heap:=h',toks:=tk }:=I.turned (fun b o hb e=>kk b o (by simpa using hb) e) f0 f1 f3 f4 f5
  refine⟨_,rfl,Zfj (s:={ s with heap:=h',toks:=tk }) (n:="range_iterator") st' rfl rfl (by decide) ⟨.int (lo+i),H,I1,⟨t,?_⟩,⟨rfl,rfl⟩,st',fun b hb=>(hf b hb).1⟩⟩
  rw[Int.mul_one]
 done:=by
  intro X hP hw hK hc i pins s σ H E I hf st hg
  subst hP hw hK
  obtain⟨f0,f1,f2,f3,f4,f5⟩:=hf it (by simp)
  exact wpAny_pyNext_range_end (I.ok.hd hc) st (by have:n≤i:=hg;lia) fun h' eb=>⟨rfl,I.turned (t':=s.toks) (fun b o hb e=>eb b o hb e) f0 f1 f3 f4 f5⟩
 self:=fun _ _ _ _ _ st h=>wpAny_pyIter_rangeiter st h
section
variable {X:Cx}{tg:Expr}
def Zj0 (K:Fg_)(tl:TE):TI:=fun σ H R=>tl σ H fun x H1=>∃ a,x=.ref a∧(∃ xs,SqL K H1 a xs)∧R (Itl K a) H1
def Zk2 (K:Fg_)(tl:TE):TI:=fun σ H R=>tl σ H fun x H1=>∃ a,x=.ref a∧(∃ xs,SqT K H1 a xs)∧R (Itt K a) H1
theorem Z8w {l:Expr}{tl:TE}(hl:PE X l tl):PI X tg l (Zj0 X.K tl):=by
 intro pins s σ H R I h
 refine thn (hl pins s σ H _ I h) fun v s1 z1_=>?_
 obtain ⟨x,H1,I1,r1,q1⟩:=z1_
 obtain⟨a,e,⟨xs,hq⟩,q⟩:=q1
 subst e
 cases r1
 obtain⟨its,rv,p,hz⟩:=I1.list hq
 refine D1 p.isList ?_
 refine⟨s1.heap.objs.size,[s1.heap.objs.size],_,_,H1,rfl,I1.kept (t':=s1.toks) fun b o e=>Z2 _ e,Z7J a _,⟨_,Zu _ rfl,rfl,rfl⟩,fun b hb=>?_,q⟩
 have e:b=s1.heap.objs.size:=by simpa using hb
 subst e
 exact I1.fpOk (Zc _) (I1.hok.fresh (Zc _))
theorem ZcW {l:Expr}{tl:TE}(hl:PE X l tl):PI X tg l (Zk2 X.K tl):=by
 intro pins s σ H R I h
 refine thn (hl pins s σ H _ I h) fun v s1 z1_=>?_
 obtain ⟨x,H1,I1,r1,q1⟩:=z1_
 obtain⟨a,e,⟨xs,hq⟩,q⟩:=q1
 subst e
 cases r1
 obtain⟨its,rv,p,hz⟩:=I1.tuple hq
 refine M4 (show s1.heap.IsTuple a its.toArray from p) ?_
 refine⟨s1.heap.objs.size,[s1.heap.objs.size],_,_,H1,rfl,I1.kept (t':=s1.toks) fun b o e=>Z2 _ e,Z6q a _,⟨_,Zu _ rfl,rfl,rfl⟩,fun b hb=>?_,q⟩
 have e:b=s1.heap.objs.size:=by simpa using hb
 subst e
 exact I1.fpOk (Zc _) (I1.hok.fresh (Zc _))
theorem Z5t {pins:Pn_}{σ:St}{H:Hp}{s:Shared}{R:It→Hp→Prop}{E:Ps_}{lo hi:Int}{t u v:Tok}{tk:Nat}(I:Inv X pins σ H s)(h1:-(2 ^ 62)≤lo)(h2:lo<2 ^ 62)(h3:-(2 ^ 62)≤hi)(h4:hi<2 ^ 62)
  (q:R (Itr lo (hi-lo).toNat) H):wpAny (model X.prog X.w) X.A (pyIter (.ref s.heap.objs.size)) (PIE X pins σ tg R) E { s with heap:=s.heap.push { cls:=.type "range",data:=.fields #[.int lo t,.int hi u,.int 1 v] },toks:=tk }:=by
 refine wpAny_pyIter_range (IsRange.new ..) (small_one h1 h2 h3 h4) ?_
 have I1:Inv X pins σ H { s with heap:=s.heap.push { cls:=.type "range",data:=.fields #[.int lo t,.int hi u,.int 1 v] },toks:=tk }:=I.kept fun b o e=>Z2 _ e
 refine⟨(s.heap.push { cls:=.type "range",data:=.fields #[.int lo t,.int hi u,.int 1 v] }).objs.size,[(s.heap.push { cls:=.type "range",data:=.fields #[.int lo t,.int hi u,.int 1 v] }).objs.size],_,_,H,rfl,
  I1.kept (t':=tk) fun b o e=>Z2 _ e,Z6r _ lo (hi-lo).toNat,?_,fun b hb=>?_,q⟩
 ·have e1:lo+((0:Nat):Int)*1=lo:=by simp
  have e2:(((hi-lo).toNat:Nat):Int)-((0:Nat):Int)=Builtin.Range.rangeSize lo hi 1:=by rw[rangeSize_one];split <;> lia
  show IsRangeIter _ _ (lo+((0:Nat):Int)*1) ((((hi-lo).toNat:Nat):Int)-((0:Nat):Int)) 1
  rw[e1,e2]
  exact Zu _ rfl
 ·have e:b=(s.heap.push { cls:=.type "range",data:=.fields #[.int lo t,.int hi u,.int 1 v] }).objs.size:=by simpa using hb
  subst e
  exact I1.fpOk (Zc _) (I1.hok.fresh (Zc _))
def ZiZ (ta:TA):TI:=fun σ H R=>ta σ H fun vs H1=>∃ j:Int,vs=[.int j]∧-(2 ^ 62)≤j∧j<2 ^ 62∧R (Itr 0 j.toNat) H1
def ZiY (ta:TA):TI:=fun σ H R=>ta σ H fun vs H1=>∃ i j:Int,vs=[.int i,.int j]∧(-(2 ^ 62)≤i∧i<2 ^ 62∧-(2 ^ 62)≤j∧j<2 ^ 62)∧R (Itr i (j-i).toNat) H1
theorem Z8v {a:Expr} {ta:TA} {p pos:Pos} (hg:Gl X "range") (hm:X.mg "range"=none) (ha:PA X [a] ta) (hs:starEach [a] X.env=[(false,eval a X.env)]:=by rfl):PI X tg (.Call (.Name "range" p) [a] [] pos) (ZiZ ta):=by
 intro pins s σ H R I h
 refine Call_ (BU I hg hm boot_range (Gf (thn (ha pos pins s σ H _ I h) fun us s1 z1_=>?_) hs rfl))
 obtain ⟨vs,H1,I1,r1,q1⟩:=z1_
 obtain⟨j,e,q1,q2,q⟩:=q1
 subst e
 cases r1 with
 |cons r rr =>
  cases rr
  obtain⟨t,rfl⟩:=r
  exact call_range_1 (Z5t I1 (by simp) (by simp) q1 q2 (by simpa using q))
theorem Z8u {a b:Expr} {ta:TA} {p pos:Pos} (hg:Gl X "range") (hm:X.mg "range"=none) (ha:PA X [a,b] ta) (hs:starEach [a,b] X.env=[(false,eval a X.env),(false,eval b X.env)]:=by rfl) (hs2:starEach [b] X.env=[(false,eval b X.env)]:=by rfl) :
  PI X tg (.Call (.Name "range" p) [a,b] [] pos) (ZiY ta):=by
 intro pins s σ H R I h
 refine Call_ (BU I hg hm boot_range (Gf (thn (ha pos pins s σ H _ I h) fun us s1 z1_=>?_) (by rw[hs,hs2]) (by rw[hs2];rfl)))
 obtain ⟨vs,H1,I1,r1,q1⟩:=z1_
 obtain⟨i,j,e,⟨q1,q2,q3,q4⟩,q⟩:=q1
 subst e
 cases r1 with
 |cons r rr =>
  cases rr with
  |cons r' rr =>
   cases rr
   obtain⟨t,rfl⟩:=r
   obtain⟨t',rfl⟩:=r'
   exact call_range_2 (Z5t I1 q1 q2 q3 q4 q)
def ZjS (wi:TI)(g:TG)(tb:TS):TS:=fun D σ H=>wi σ H fun J H1=>∃ W:Nat→Nat→St→Hp→Prop,(∃ m,W 0 m σ H1)∧∀ i m σ H,W i m σ H →
 (J.stop i H∧D.nx σ H)∨(J.go i H∧∃ N:St→Hp→Prop,(∀ σ' H',N σ' H'→∃ m',m'<m∧W (i+1) m' σ' H')∧∀ x H',J.yld i H x H'→g x σ H' fun σ2 H2=>tb { D with nx:=N,ct:=N,bk:=D.nx } σ2 H2)
noncomputable def Z2r (fp:List Addr)(h:Heap):Pn_:=fp.filterMap fun b=>(h.get? b).map fun o=>(b,o)
theorem WN {fp:List Addr}{h:Heap}{b:Addr}{o:Obj}(hb:b∈fp)(e:h.get? b=some o):(b,o)∈Z2r fp h:=Qm.mpr ⟨b,hb,by rw[e];rfl⟩
theorem Z8Y {fp:List Addr}{h:Heap}{p:Addr×Obj}(hp:p∈Z2r fp h):p.1∈fp∧h.get? p.1=some p.2:=by
 obtain⟨b,hb,e⟩:=Qm.mp hp
 cases q:h.get? b with
 |none=>rw[q] at e;cases e
 |some o =>
  rw[q] at e
  have e':(b,o)=p:=Jn e
  subst e'
  exact⟨hb,q⟩
theorem Inv.pinned {pins:Pn_}{σ:St}{H:Hp}{s:Shared}{fp:List Addr}(I:Inv X pins σ H s)(hf:∀ b∈fp,Z6m X pins H b)(ho:∀ b∈fp,∃ o,s.heap.get? b=some o∧∀ v,o.data≠.cell v):Inv X (pins++Z2r fp s.heap) σ H s :=
 I.pins_of fun p hp=>(ZW.mp hp).elim (fun z=>I.pin p (ZH _ z)) fun z=>by
  obtain⟨hb,e⟩:=Z8Y z
  obtain⟨f0,f1,f2,_⟩:=hf p.1 hb
  obtain⟨o,e',d⟩:=ho p.1 hb
  rw[e] at e';cases e'
  exact⟨e,f0,f1,f2,d⟩
theorem Inv.unpinned {pins pl:Pn_}{σ:St}{H:Hp}{s:Shared}(I:Inv X (pins++pl) σ H s):Inv X pins σ H s:=I.pins_of fun p hp=>I.pin p (ZH _ (Js _ hp))
theorem Zgu {iter:Expr}{body:List Stmt}{wi:TI}{g:TG}{tb:TS}{pos:Pos}(hp:YZ (model X.prog X.w) X.A X.env X.xe)(hc:X.calm=true)(hi:PI X tg iter wi)(hg:PG X tg g)(hb:PSs X body tb)
  (hs:∀ x,foldedSetIterable iter X.env x=pure x:=by intro _;rfl):PS X (.For tg iter body [] pos) (ZjS wi g tb):=by
 intro pins s σ H D I h
 refine wpAny_For (thn (hi pins s σ H _ I h) fun v s1 h1=>thn h1 fun itv s2 h2=>?_) hs
 obtain⟨it,fp,tn,J,H2,e,I2,T,st2,f2,W,⟨m0,w0⟩,turn⟩:=h2
 subst e
 have stat:∀ {H':Hp},(∀ b∈fp,H' b=none)→∀ b∈fp,Z6m X pins H' b:=fun hn b hb=>⟨hn b hb,(f2 b hb).2⟩
 refine codeAny_forLoop_any (fun n s'=>∃ i σ' H',Inv X pins σ' H' s'∧tn i s'.heap∧(∀ b∈fp,H' b=none)∧W i n σ' H') ?_ m0 ⟨0,σ,H2,I2,st2,fun b hb=>(f2 b hb).1,w0⟩
 rintro n s3 ⟨i,σ3,H3,I3,st3,fr3,w3⟩
 rcases turn i n σ3 H3 w3 with ⟨stop,qn⟩|⟨go,N,hN,step⟩
 ·refine N9 hp (thn (T.done X rfl rfl rfl hc i pins s3 σ3 H3 X.xe I3 (stat fr3) st3 stop) fun r s4 z1_=>?_)
  obtain ⟨hr,I4⟩:=z1_
  subst hr
  exact BB ⟨σ3,H3,I4,qn⟩
 ·refine N9 hp (thn (T.item X rfl rfl rfl hc i pins s3 σ3 H3 X.xe I3 (stat fr3) st3 go) fun r s4 z1_=>?_)
  obtain ⟨u,hr,h4⟩:=z1_
  subst hr
  refine N9 hp (thn h4 fun _ s5 z1_=>?_)
  obtain ⟨x,H5,I5,r5,y5,st5,fr5⟩:=z1_
  have I5':=I5.pinned (stat fr5) (T.obj _ _ st5)
  refine N9 hp (thn (hg _ s5 σ3 H5 x u _ I5' r5 (step x H5 y5)) fun _ s6 z1_=>?_)
  obtain ⟨σ6,H6,I6,q6⟩:=z1_
  refine N9 hp (thn (hb _ s6 σ6 H6 _ I6 q6) fun f s7 q7=>?_)
  have again:∀ {σ7:St} {H7:Hp},Inv X (pins++Z2r fp s5.heap) σ7 H7 s7→N σ7 H7→∃ m,m<n∧∃ i σ' H',Inv X pins σ' H' s7∧tn i s7.heap∧(∀ b∈fp,H' b=none)∧W i m σ' H':=fun {σ7 H7} I7 n7=>by
   obtain⟨m',hm,w7⟩:=hN σ7 H7 n7
   refine⟨m',hm,i+1,σ7,H7,I7.unpinned,T.keep _ _ _ st5 fun b hb o e=>(I7.pin (b,o) (ZH _ (ZH _ (WN hb e)))).1,fun b hb=>?_,w7⟩
   obtain⟨o,e,d⟩:=T.obj _ _ st5 b hb
   exact (I7.pin (b,o) (ZH _ (ZH _ (WN hb e)))).2.1
  cases f with
  |next=>obtain⟨σ7,H7,I7,n7⟩:=q7;exact again I7 n7
  |cont=>obtain⟨σ7,H7,I7,n7⟩:=q7;exact again I7 n7
  |brk=>obtain⟨σ7,H7,I7,q7⟩:=q7;exact⟨σ7,H7,I7.unpinned,q7⟩
  |ret v=>obtain⟨x7,σ7,H7,I7,r7,q7⟩:=q7;exact⟨x7,σ7,H7,I7.unpinned,r7,q7⟩
end
abbrev R2:=V→V→Hp→VK→Prop
def OpR (X:Cx)(f:Value→Value→Sem Value)(r:R2):Prop :=
 ∀ (pins:Pn_) (s:Shared) (σ:St) (H:Hp) (x y:V) (v u:Value) (Q:VK),Inv X pins σ H s→RelV x v→RelV y u→r x y H Q →
  wpAny (model X.prog X.w) X.A (f v u) (EP X pins σ Q) X.xe s
def UnR (X:Cx)(f:Value→Sem Value)(r:V→Hp→VK→Prop):Prop :=
 ∀ (pins:Pn_) (s:Shared) (σ:St) (H:Hp) (x:V) (v:Value) (Q:VK),Inv X pins σ H s→RelV x v→r x H Q →
  wpAny (model X.prog X.w) X.A (f v) (EP X pins σ Q) X.xe s
def MG (X:Cx)(f:Value)(r:Lv_→Hp→VK→Prop):Prop :=
 ∀ (pins:Pn_) (s:Shared) (σ:St) (H:Hp) (xs:Lv_) (us:Lu_) (Q:VK),Inv X pins σ H s→Uj xs us→r xs H Q →
  wpAny (model X.prog X.w) X.A (call f us) (EP X pins σ Q) X.xe s
def tOp (r:R2)(ta tb:TE):TE:=fun σ H Q=>ta σ H fun x H1=>tb σ H1 fun y H2=>r x y H2 Q
def tUn (r:V→Hp→VK→Prop)(ta:TE):TE:=fun σ H Q=>ta σ H fun x H1=>r x H1 Q
def rI (C:Int→Int→Prop)(g:Int→Int→V):R2:=fun x y H Q=>∃ i j,x=.int i∧y=.int j∧C i j∧Q (g i j) H
def rI0 (g:Int→Int→V):R2:=fun x y H Q=>∃ i j,x=.int i∧y=.int j∧Q (g i j) H
def rU (g:Int→V):V→Hp→VK→Prop:=fun x H Q=>∃ i,x=.int i∧Q (g i) H
section
variable {X:Cx}{a b c:Expr}{ta tb tc:TE}{pos:Pos}
theorem Zjc (ha:PE X a ta)(hb:PE X b tb){pins:Pn_}{s:Shared}{σ:St}{H:Hp}{R:V→V→Hp→Prop}(I:Inv X pins σ H s)
  (h:ta σ H fun x H1=>tb σ H1 fun y H2=>R x y H2) {Q:Ps_} {f:Value→Value→Sem Value}
  (hf:∀ v u s2 x y H2,Inv X pins σ H2 s2→RelV x v→RelV y u→R x y H2→wpAny (model X.prog X.w) X.A (f v u) Q X.xe s2) :
  wpAny (model X.prog X.w) X.A (eval a X.env) (fun v s₁=>wpAny (model X.prog X.w) X.A (eval b X.env) (fun u s₂=>wpAny (model X.prog X.w) X.A (f v u) Q X.xe s₂) X.xe s₁) X.xe s:=by
 refine thn (ha pins s σ H _ I h) fun v s1 z1_=>?_
 obtain ⟨x,H1,I1,r1,q1⟩:=z1_
 refine thn (hb pins s1 σ H1 _ I1 q1) fun u s2 z1_=>?_
 obtain ⟨y,H2,I2,r2,q2⟩:=z1_
 exact hf v u s2 x y H2 I2 r1 r2 q2
theorem ZiE {op:Operator}{r:R2}(ho:OpR X (binaryOp op) r)(ha:PE X a ta)(hb:PE X b tb):PE X (.BinOp a op b pos) (tOp r ta tb):=by
 intro pins s σ H Q I h
 exact wpAny_BinOp (Zjc ha hb I h fun v u s2 x y H2 I2 rx ry q=>ho pins s2 σ H2 x y v u Q I2 rx ry q)
theorem ZiD {op:UnaryOp}{r:V→Hp→VK→Prop}(ho:UnR X (unaryOp op) r)(ha:PE X a ta):PE X (.UnaryOp op a pos) (tUn r ta):=by
 intro pins s σ H Q I h
 exact UnaryOp_ (thn (ha pins s σ H _ I h) fun v s1 ⟨x,H1,I1,r1,q1⟩=>ho pins s1 σ H1 x v Q I1 r1 q1)
theorem opI {f:Value→Value→Sem Value}{C:Int→Int→Prop}{g:Int→Int→Int}
  (rule:∀ (i j:Int) (t u:Tok) (s:Shared) (Q:Ps_) (E:Ps_),C i j→Q (.int (g i j) s.toks) { s with toks:=s.toks+1 }→wpAny (model X.prog X.w) X.A (f (.int i t) (.int j u)) Q E s) :
  OpR X f (rI C fun i j=>.int (g i j)):=by
 intro pins s σ H x y v u Q I rx ry h
 obtain⟨i,j,rfl,rfl,hc,q⟩:=h
 obtain⟨t,rfl⟩:=rx
 obtain⟨t',rfl⟩:=ry
 exact rule i j t t' s _ _ hc ⟨.int (g i j),H,I.tok _,⟨_,rfl⟩,q⟩
theorem Zjw {f:Value→Value→Sem Value}{g:Int→Int→Int}
  (rule:∀ (i j:Int) (t u:Tok) (s:Shared) (Q:Ps_) (E:Ps_),Q (.int (g i j) s.toks) { s with toks:=s.toks+1 }→wpAny (model X.prog X.w) X.A (f (.int i t) (.int j u)) Q E s) :
  OpR X f (rI0 fun i j=>.int (g i j)):=by
 intro pins s σ H x y v u Q I rx ry h
 obtain⟨i,j,rfl,rfl,q⟩:=h
 obtain⟨t,rfl⟩:=rx
 obtain⟨t',rfl⟩:=ry
 exact rule i j t t' s _ _ ⟨.int (g i j),H,I.tok _,⟨_,rfl⟩,q⟩
theorem ZiQ {f:Value→Value→Sem Value}{g:Int→Int→Bool}
  (rule:∀ (i j:Int) (t u:Tok) (s:Shared) (Q:Ps_) (E:Ps_),Q (.bool (g i j)) s→wpAny (model X.prog X.w) X.A (f (.int i t) (.int j u)) Q E s) :
  OpR X f (rI0 fun i j=>.bl (g i j)):=by
 intro pins s σ H x y v u Q I rx ry h
 obtain⟨i,j,rfl,rfl,q⟩:=h
 obtain⟨t,rfl⟩:=rx
 obtain⟨t',rfl⟩:=ry
 exact rule i j t t' s _ _ ⟨.bl (g i j),H,I,rfl,q⟩
def Zk6 (i j:Int):Prop:=0<j∧j<1073741824
def Zif (i j:Int):Prop:=(-(2 ^ 64)<i∧i<2 ^ 64)∨(-(2 ^ 64)<j∧j<2 ^ 64)
theorem Zif.ok {i j:Int}(h:Zif i j):IntMulOk i j:=by
 rcases h with ⟨h1,h2⟩|⟨h1,h2⟩
 ·exact .of_left (Zkb h1 h2)
 ·exact .of_right (Zkb h1 h2)
theorem Zh6:OpR X (binaryOp .Add) (rI0 fun i j=>.int (i+j)):=Zjw fun _ _ _ _ _ _ _ q=>add_int q
theorem Zh2:OpR X (binaryOp .Sub) (rI0 fun i j=>.int (i-j)):=Zjw fun _ _ _ _ _ _ _ q=>sub_int q
theorem Zh3:OpR X (binaryOp .Mult) (rI Zif fun i j=>.int (i*j)):=opI fun _ _ _ _ _ _ _ hc q=>mul_int q hc.ok
theorem ZeM:OpR X (binaryOp .FloorDiv) (rI Zk6 fun i j=>.int (i / j)):=opI fun i j _ _ _ _ _ hc q=>by
 have h1:(0:Int)<j:=hc.1
 have h2:j<1073741824:=hc.2
 exact floordiv_int (by lia) (by rw[Int.fdiv_eq_ediv_of_nonneg i (by lia)];exact q) (.inl (PyProof.noPylong_small (by omega)))
theorem Zh4:OpR X (binaryOp .Mod) (rI (fun _ j=>0<j) fun i j=>.int (i%j)):=opI fun i j _ _ _ _ _ hc q=>by
 have h1:(0:Int)<j:=hc
 exact mod_int' (by lia) (by rw[Int.fmod_eq_emod_of_nonneg i (by lia)];exact q)
theorem unI {f:Value→Sem Value}{g:Int→Int}
  (rule:∀ (i:Int) (t:Tok) (s:Shared) (Q:Ps_) (E:Ps_),Q (.int (g i) s.toks) { s with toks:=s.toks+1 }→wpAny (model X.prog X.w) X.A (f (.int i t)) Q E s) :
  UnR X f (rU fun i=>.int (g i)):=by
 intro pins s σ H x v Q I rx h
 obtain⟨i,rfl,q⟩:=h
 obtain⟨t,rfl⟩:=rx
 exact rule i t s _ _ ⟨.int (g i),H,I.tok _,⟨_,rfl⟩,q⟩
theorem ZfX:UnR X (unaryOp .USub) (rU fun i=>.int (-i)):=unI fun _ _ _ _ _ q=>neg_int q
theorem Z5R {pins:Pn_}{σ:St}{H:Hp}{s:Shared}{Q:VK}{k k':Bool}(I:Inv X pins σ H s)(q:Q (.bl k) H)(e:k=k'):EP X pins σ Q (.bool k') s:=by
 subst e
 exact⟨.bl k,H,I,rfl,q⟩
theorem ZiN:OpR X (compareOp .Lt) (rI0 fun i j=>.bl (decide (i<j))):=ZiQ fun _ _ _ _ _ _ _ q=>lt_int q
theorem ZiO:OpR X (compareOp .Gt) (rI0 fun i j=>.bl (decide (j<i))):=ZiQ fun _ _ _ _ _ _ _ q=>gt_int q
theorem ZiP:OpR X (compareOp .GtE) (rI0 fun i j=>.bl (decide (j≤i))):=ZiQ fun _ _ _ _ _ _ _ q=>ge_int q
theorem Z8M:OpR X (compareOp .Lt) (fun x y H Q=>∃ i j,x=.str i∧y=.str j∧Q (.bl (decide (i.cps.toList<j.cps.toList))) H):=by
 intro pins s σ H x y v u Q I rx ry h
 obtain⟨i,j,rfl,rfl,q⟩:=h
 obtain⟨t,rfl⟩:=rx
 obtain⟨t',rfl⟩:=ry
 exact lt_str (Z5R I q rfl)
theorem Z8N:OpR X (compareOp .In) (fun x y H Q=>∃ i j,x=.str i∧y=.str j∧Q (.bl (!(Q1 j i 0 j.length 1).isEmpty)) H):=by
 intro pins s σ H x y v u Q I rx ry h
 obtain⟨i,j,rfl,rfl,q⟩:=h
 obtain⟨t,rfl⟩:=rx
 obtain⟨t',rfl⟩:=ry
 exact in_str (Z5R I q rfl)
theorem Zd4:OpR X (compareOp .Is) (fun x y H Q=>y=.non∧Q (.bl (decide (x=.non))) H):=by
 intro pins s σ H x y v u Q I rx ry h
 obtain⟨rfl,q⟩:=h
 cases ry
 refine is_none_gen (Z5R I q ?_)
 cases x <;> first
  |(cases rx;rfl)
  |(obtain⟨t,rfl⟩:=rx;rfl)
theorem ZeI:OpR X (compareOp .IsNot) (fun x y H Q=>y=.non∧Q (.bl (!decide (x=.non))) H):=by
 intro pins s σ H x y v u Q I rx ry h
 obtain⟨rfl,q⟩:=h
 cases ry
 refine isnot_none_gen (Z5R I q ?_)
 cases x <;> first
  |(cases rx;rfl)
  |(obtain⟨t,rfl⟩:=rx;rfl)
theorem OpR.or {f:Value→Value→Sem Value}{r r':R2}(h:OpR X f r)(h':OpR X f r'):OpR X f (fun x y H Q=>r x y H Q∨r' x y H Q):=by
 intro pins s σ H x y v u Q I rx ry q
 rcases q with q|q
 ·exact h pins s σ H x y v u Q I rx ry q
 ·exact h' pins s σ H x y v u Q I rx ry q
theorem Wm (b:Expr){op:CmpOp}(h:op≠.In:=by decide)(h2:op≠.NotIn:=by decide):behindInMarks op b=false:=by
 have e1:(op == CmpOp.In)=false:=by cases op <;> first|rfl|exact absurd rfl h
 have e2:(op == CmpOp.NotIn)=false:=by cases op <;> first|rfl|exact absurd rfl h2
 cases b <;> simp[behindInMarks,e1,e2]
theorem Zeg {op:CmpOp}{r:R2}(ho:OpR X (compareOp op) r)(ha:PE X a ta)(hb:PE X b tb)(hm:behindInMarks op b=false):PE X (.Compare a [op] [b] pos) (tOp r ta tb):=by
 intro pins s σ H Q I h
 exact wpAny_Compare1 (Zjc ha hb I h fun v u s2 x y H2 I2 rx ry q=>ho pins s2 σ H2 x y v u Q I2 rx ry q) hm
def Zin (t:TE):TT:=fun σ H Q=>t σ H fun x H'=>∃ k,x=.bl k∧Q k H'
theorem Ze6 {op:CmpOp}{r:R2}(ho:OpR X (compareOp op) r)(ha:PE X a ta)(hb:PE X b tb)(hm:behindInMarks op b=false):PT X (.Compare a [op] [b] pos) (Zin (tOp r ta tb)):=by
 intro pins s σ H Q I h
 refine wpAny_isTrue_Compare1 (thn (ha pins s σ H _ I h) fun v s1 ⟨x,H1,I1,r1,q1⟩=>thn (hb pins s1 σ H1 _ I1 q1) fun u s2 ⟨y,H2,I2,r2,q2⟩ =>
  thn (ho pins s2 σ H2 x y v u _ I2 r1 r2 q2) fun c s3 ⟨z,H3,I3,r3,k,e,q3⟩=>?_) hm
 subst e
 cases r3
 exact Mx ⟨H3,I3,q3⟩
theorem Z2I:(sizeLine:Nat)<2 ^ 63:=by rw[sizeLine_eq];decide
theorem Z6J:OpR X (binaryOp .Add) (fun x y H Q=>∃ i j,x=.str i∧y=.str j∧i.length+j.length≤sizeLine∧Q (.str (i++j)) H):=by
 intro pins s σ H x y v u Q I rx ry h
 obtain⟨i,j,rfl,rfl,hz,q⟩:=h
 obtain⟨t,rfl⟩:=rx
 obtain⟨t',rfl⟩:=ry
 exact add_str (fun t' tk=>⟨.str (i++j),H,I.tok _,⟨_,rfl⟩,q⟩) hz
theorem vals1 {x:V}{us:Lu_}(r:Uj [x] us):∃ u,us=[u]∧RelV x u:=by
 cases r with
 |cons r1 r2=>cases r2;exact⟨_,rfl,r1⟩
end
theorem Zas.some_of {v:V}{o:Option Value}(r:Zas (some v) o):∃ u,o=some u∧RelV v u:=by
 cases o with
 |none=>exact (show False from r).elim
 |some u=>exact⟨u,rfl,r⟩
structure GZ (k:Nat)(A:Around):Prop where
 hd:A.handled=none
 dp:A.depth+3*k+5<recursionLimit
 un:A.units+16*k+200<cLine
theorem GZ.mono {j k:Nat}{A:Around}(r:GZ k A)(h:j≤k):GZ j A:=⟨r.hd,by have:=r.dp;lia,by have:=r.un;lia⟩
theorem GZ.deeper {k:Nat}{A:Around}(r:GZ (k+1) A)(env:Env):GZ k (A.deeper env) :=
 ⟨r.hd,by have:=r.dp;show A.depth+1+3*k+5<_;lia,by have:=r.un;show A.units+3+16*k+200<_;lia⟩
theorem GZ.in1 {k:Nat}{A:Around}(r:GZ (k+1) A):GZ k A.in1 :=
 ⟨r.hd,by have:=r.dp;show A.depth+3*k+5<_;lia,by have:=r.un;show A.units+1+16*k+200<_;lia⟩
theorem GZ.depth {k:Nat}{A:Around}(r:GZ k A):A.depth<recursionLimit:=by have:=r.dp;lia
theorem GZ.units {k:Nat}{A:Around}(r:GZ k A):A.units+64<cLine:=by have:=r.un;lia
theorem GZ.units0 {k:Nat}{A:Around}(r:GZ k A):A.units<cLine:=by have:=r.un;lia
def ZjP:TA:=fun _ H Q=>Q [] H
def Zis (ta:TE)(tr:TA):TA:=fun σ H Q=>ta σ H fun x H1=>tr σ H1 fun xs H2=>Q (x::xs) H2
section
variable {X:Cx}{e:Expr}{es:Le_}{te:TE}{t:TA}{pos:Pos}
theorem W0:PA X [] ZjP:=fun _ _ _ _ H Q I h=>Calls.spliced_nil ⟨[],H,I,.nil,h⟩
theorem Nt (ha:PE X e te)(hr:PA X es t)(hs:starEach (e::es) X.env=(false,eval e X.env)::starEach es X.env:=by rfl):PA X (e::es) (Zis te t):=by
 intro pos pins s σ H Q I h
 rw[hs]
 show wpAny _ _ (spliced ((false,eval e X.env)::backTo pos (starEach es X.env))) _ _ s
 refine Calls.spliced_cons (thn (ha pins s σ H _ I h) fun u s1 z1_=>?_)
 obtain ⟨x,H1,I1,r1,q1⟩:=z1_
 exact thn (hr pos pins s1 σ H1 _ I1 q1) fun us s2 ⟨xs,H2,I2,r2,q2⟩=>⟨x::xs,H2,I2,.cons r1 r2,q2⟩
def ZjL (t:TA):TE:=fun σ H Q=>t σ H fun xs H1=>xs.length≤sizeLine∧∀ p,H1 p=none→Q (.ref p) (upd H1 p (.tup xs))
def ZjQ (t:TA):TE:=fun σ H Q=>t σ H fun xs H1=>xs.length≤sizeLine∧∀ p,H1 p=none→Q (.ref p) (upd H1 p (.lst xs))
theorem Zgz {x1}(h:PA X es t):PE X (.Tuple es x1 pos) (ZjL t):=by
 intro pins s σ H Q I hq
 refine wpAny_Tuple_spliced (thn (h pos pins s σ H _ I hq) fun us s1 ⟨xs,H1,I1,r,z,q⟩=>⟨by rw[← r.length];exact z,?_⟩)
 have hf:H1 s1.heap.objs.size=none:=I1.hok.fresh (Zc _)
 refine⟨.ref s1.heap.objs.size,upd H1 s1.heap.objs.size (.tup xs),I1.laid (t':=s1.toks) (fun b u e=>Z2 _ e) (Zc _) ?_,rfl,q _ hf⟩
 exact⟨z,us,r,⟨_,Zu _ rfl,rfl,_,rfl⟩⟩
theorem ZgD (h:PA X es t):PE X (.List es pos) (ZjQ t):=by
 intro pins s σ H Q I hq
 refine wpAny_List_spliced (thn (h pos pins s σ H _ I hq) fun us s1 ⟨xs,H1,I1,r,z,q⟩=>⟨by rw[← r.length];exact z,?_⟩)
 have hf:H1 s1.heap.objs.size=none:=I1.hok.fresh (Zc _)
 refine⟨.ref s1.heap.objs.size,upd H1 s1.heap.objs.size (.lst xs),I1.laid (t':=s1.toks) (fun b u e=>Z2 _ e) (Zc _) ?_,rfl,q _ hf⟩
 exact⟨z,us,0,r,Zu _ rfl⟩
end
abbrev Sp:=Lv_→Hp→VK→XK→Prop
abbrev CXT:=List Env→Hp→Shared→XK→Value→Shared→Prop
structure Zie (P:Program)(w:World)(K:Fg_)(mg:Str→Option Value)(base:Heap)(A:Around)(outer:List Env)(s:Shared)(H:Hp):Prop where
 frames:A.frames=some outer
 mod:Mod K mg base
 bs:∀ b o,base.get? b=some o→s.heap.get? b=some o∧H b=none
 bsz:base.objs.size≤s.heap.objs.size
 funs:s.heap.FunFrames base outer
 frf:∀ b∈frs outer,H b=none
 hok:HOk P w H s.heap
 bare:AllBare s.gens
def CE (outer:List Env)(P:Program)(w:World)(H:Hp)(s:Shared)(Q:VK)(u:Value)(s':Shared):Prop :=
 ∃ v H',s'.os=s.os∧AllBare s'.gens∧Un (frs outer) [] H H' s.heap s'.heap∧HOk P w H' s'.heap∧RelV v u∧Q v H'
def CR (CX:CXT)(outer:List Env)(P:Program)(w:World)(H:Hp)(s:Shared)(Q:VK)(E:XK)(r:Result)(s':Shared):Prop :=
 match r with
 |.ok (.ret u)=>CE outer P w H s Q u s'
 |.ok _=>False
 |.error e=>CX outer H s E e s'
structure Mw (P:Program)(w:World)(K:Fg_)(mg:Str→Option Value)(base:Heap)(CX:CXT)(k:Nat)(f:Addr)(fd:Jj)(ps:Ls_)(sp:Sp):Prop where
 len:∀ vs H Q E,sp vs H Q E→vs.length=ps.length
 run:∀ (A:Around) (outer:List Env) (s:Shared) (H:Hp) (args:Args) (us:Lu_) (vs:Lv_) (Q:VK) (E:XK),GZ k A→Zie P w K mg base A outer s H→BindsTo s fd args (ps.zip us)→Uj vs us→sp vs H Q E →
  codeAny (model P w) A (.call (.ref f) args) (CR CX outer P w H s Q E) s
theorem Mw.mono {P:Program}{w:World}{K:Fg_}{mg:Str→Option Value}{base:Heap}{CX:CXT}{j k:Nat}{f:Addr}{fd:Jj}{ps:Ls_}{sp:Sp}(F:Mw P w K mg base CX j f fd ps sp)(h:j≤k) :
  Mw P w K mg base CX k f fd ps sp:=⟨F.len,fun A outer s H args us vs Q E hr=>F.run A outer s H args us vs Q E (hr.mono h)⟩
section
variable {X:Cx}{pins:Pn_}{σ:St}{H:Hp}{s s':Shared}
theorem Inv.env0 (I:Inv X pins σ H s):Zie X.prog X.w X.K X.mg X.base X.A X.stack s H :=
 ⟨I.ok.frames,I.ok.mod,I.bs,Zz I.ok.bsz I.sz,I.stack,I.stkFree,I.hok,I.bare⟩
theorem Inv.after {Q:VK}{u:Value}(I:Inv X pins σ H s)(h:CE X.stack X.prog X.w H s Q u s'):EP X pins σ Q u s':=by
 obtain⟨v,H',os,bare,un,hok,r,q⟩:=h
 obtain⟨hh,g,d,t,os'⟩:=s'
 obtain rfl:os'=s.os:=os
 exact⟨v,H',I.call (h':=hh) (g':=g) (d':=d) (t':=t) (ch:=[]) un hok bare (fun b z=>absurd z (by simp)),r,q⟩
end
def Zit (sp:Sp)(dvs:Lv_)(E:XK)(t:TA):TE:=fun σ H Q=>t σ H fun vs H1=>sp (vs++dvs) H1 Q E
def Binds (K:Fg_)(fd:Jj)(ps:Ls_)(ds:Lu_):Prop :=
 ∀ (s:Shared) (us:Lu_),K.In s.heap→(us++ds).length=ps.length→BindsTo s fd ⟨us,[]⟩ (ps.zip (us++ds))
theorem Binds.all {K:Fg_}{fd:Jj}{ps:Ls_}(h:∀ us:Lu_,us.length=ps.length→bindArgs fd ⟨us,[]⟩=pure (ps.zip us)):Binds K fd ps []:=fun s us _ hl=>by
 rw[Uq] at hl ⊢
 exact .of_eq (h us hl)
def Zag (CX:CXT)(X:Cx)(E:XK):Prop:=∀ (pins:Pn_) (σ:St) (H:Hp) (s:Shared) (e:Value) (s':Shared),Inv X pins σ H s→CX X.stack H s E e s'→X.xe e s'
section
variable {X:Cx}{CX:CXT}{k:Nat}{f C:Addr}{fd:Jj}{ps:Ls_}{sp:Sp}{dvs:Lv_}{ds:Lu_}{E:XK}{x m:Str}{p pos apos:Pos}{e o:Expr}{es:Le_}{ta:TE}{t:TA}
theorem ZcQ {pins:Pn_}{σ:St}{H:Hp}{s:Shared}{Q:VK}{us:Lu_}{vs:Lv_}(F:Mw X.prog X.w X.K X.mg X.base CX k f fd ps sp)(hr:GZ k X.A)(hb:Binds X.K fd ps ds)(hd:Uj dvs ds)(hx:Zag CX X E)
  (I:Inv X pins σ H s) (r:Uj vs us) (h:sp (vs++dvs) H Q E):wpAny (model X.prog X.w) X.A (call (.ref f) us) (EP X pins σ Q) X.xe s:=by
 have r2:Uj (vs++dvs) (us++ds):=r.append hd
 have hl:(us++ds).length=ps.length:=by rw[← r2.length];exact F.len _ _ _ _ h
 refine ZhT (BY (F.run X.A X.stack s H ⟨us,[]⟩ (us++ds) (vs++dvs) Q E hr I.env0 (hb s us I.kIn hl) r2 h) fun r s' hq=>?_)
 cases r with
 |error e=>exact hx pins σ H s e s' I hq
 |ok fl =>
  cases fl with
  |ret u=>exact I.after hq
  |next=>exact Nw hq
  |brk=>exact Nw hq
  |cont=>exact Nw hq
theorem Zeh (F:Mw X.prog X.w X.K X.mg X.base CX k f fd ps sp)(hr:GZ k X.A)(hg:Gl X x)(hm:X.mg x=some (.ref f))(hk:ZL X.K (.ref f)=true)(hb:Binds X.K fd ps ds)(hd:Uj dvs ds)(hx:Zag CX X E)
  (ha:PA X (e::es) t) (hdb:(x == ("__debug__":Str))=false:=by decide) (he:starEach (e::es) X.env=(false,eval e X.env)::starEach es X.env:=by rfl) (hpl:(backTo pos (starEach es X.env)).any (·.1)=false:=by rfl) :
  PE X (.Call (.Name x p) (e::es) [] pos) (Zit sp dvs E t):=by
 intro pins s σ H Q I h
 refine M5 (Z9n I hg hm ?_ hdb)
 refine PySem.W.callWith_K (h₀:=X.base) I.ok.mod.kin hk (thn (ha pos pins s σ H _ I h) fun us s1 ⟨vs,H1,I1,r,q⟩=>⟨I1.kIn,?_⟩) he hpl
 exact ZcQ F hr hb hd hx I1 r q
end
structure Y8 (N P:Ls_)(sc:Scope):Prop where
 kind:sc.kind=.function
 co:sc.isCoroutine=false
 gen:sc.isGenerator=false
 nd:N.Nodup
 pre:N.take P.length=P
 par:∀ x∈P,sc.names.lookup x=some .local∨sc.names.lookup x=some .cell
 nofree:∀ y∈sc.names,y.2≠.free
theorem Z3q {kindOf:Str→Option UJ}{x:Str}:∀ {binds:List (Str×Value)} {m:Str→Option Value},(∀ v,(x,v)∉binds)→bindL kindOf binds m x=m x
 |[],_,_=>rfl
 |(n,v)::r,m,h=>by
  unfold bindL
  rw[Z3q fun w hw=>h w (Z4 _ hw)]
  split
  ·have:x≠n:=by rintro rfl;exact h v Z1
   simp[this]
  ·rfl
theorem Z3s {kindOf:Str→Option UJ}{x:Str}:∀ {binds:List (Str×Value)} {m:Str→Option Value},(∀ v,(x,v)∉binds)→bindC kindOf binds m x=m x
 |[],_,_=>rfl
 |(n,v)::r,m,h=>by
  unfold bindC
  rw[Z3s fun w hw=>h w (Z4 _ hw)]
  split
  ·rfl
  ·have:x≠n:=by rintro rfl;exact h v Z1
   simp[this]
theorem Z3r {kindOf:Str→Option UJ}{x:Str}{v:Value}:∀ {P:Ls_} {vs:Lu_} {i:Nat} {m:Str→Option Value},P.Nodup→P[i]?=some x→vs[i]?=some v→kindOf x=some .local →
  bindL kindOf (P.zip vs) m x=some v
 |[],_,_,_,_,h,_,_=>by simp at h
 |_::_,[],_,_,_,_,h,_=>by simp at h
 |p::P,w::vs,0,m,nd,h1,h2,hk=>by
  simp at h1 h2;subst h1;subst h2
  show bindL kindOf ((p,w)::P.zip vs) m p=_
  unfold bindL
  rw[Z3q fun v hv=>(GK.mp nd).1 (MW hv).1,if_pos hk]
  simp
 |p::P,w::vs,i+1,m,nd,h1,h2,hk=>by
  show bindL kindOf ((p,w)::P.zip vs) m x=_
  unfold bindL
  exact Z3r (i:=i) (GK.mp nd).2 (by simpa using h1) (by simpa using h2) hk
theorem Z3t {kindOf:Str→Option UJ}{x:Str}{v:Value}:∀ {P:Ls_} {vs:Lu_} {i:Nat} {m:Str→Option Value},P.Nodup→P[i]?=some x→vs[i]?=some v→kindOf x≠some .local →
  bindC kindOf (P.zip vs) m x=some v
 |[],_,_,_,_,h,_,_=>by simp at h
 |_::_,[],_,_,_,_,h,_=>by simp at h
 |p::P,w::vs,0,m,nd,h1,h2,hk=>by
  simp at h1 h2;subst h1;subst h2
  show bindC kindOf ((p,w)::P.zip vs) m p=_
  unfold bindC
  rw[Z3s fun v hv=>(GK.mp nd).1 (MW hv).1,if_neg hk]
  simp
 |p::P,w::vs,i+1,m,nd,h1,h2,hk=>by
  show bindC kindOf ((p,w)::P.zip vs) m x=_
  unfold bindC
  exact Z3t (i:=i) (GK.mp nd).2 (by simpa using h1) (by simpa using h2) hk
noncomputable def start (N:Ls_)(vs:Lv_):St:=vs.map some++Zn (N.length-vs.length) none
noncomputable def Zdl (CX:CXT)(P:Program)(w:World)(K:Fg_)(mg:Str→Option Value)(base:Heap)(N:Ls_)(qual:Str)(scope:Scope)(f:Addr)(cd:Value)(A:Around)(outer:List Env)(s:Shared)(H:Hp)(E:XK):Cx where
 prog:=P
 w:=w
 K:=K
 mg:=mg
 base:=base
 A:=A.deeper (envOfC qual scope s.heap.objs.size f cd)
 N:=N
 s₀:=s
 H₀:=H
 env:=envOfC qual scope s.heap.objs.size f cd
 outer:=outer
 stack:=envOfC qual scope s.heap.objs.size f cd::outer
 ex:=[]
 calm:=true
 fn:=fun _=>true
 pn:=[]
 xe:=fun e s'=>wpAny (model P w) (A.deeper (envOfC qual scope s.heap.objs.size f cd)) (leaving (envOfC qual scope s.heap.objs.size f cd) e) (fun _ s''=>CX outer H s E e s'') (fun e' s''=>CX outer H s E e' s'') s'
theorem Z66 {sc:Scope}{n:Nat}{x:Str}(h:sc.names.lookup x=some .cell):∃ c,(cellsFrom n sc.names []).lookup x=some c:=by
 have q:=Z3H sc.names n [] (.inl h)
 exact Option.isSome_iff_exists.mp q
theorem Z9C {CX:CXT}{P:Program}{w:World}{K:Fg_}{mg:Str→Option Value}{base:Heap}{N ps:Ls_}{qual:Str}{scope:Scope}{f:Addr}{cd:Value}{A:Around}{outer:List Env}{s s1:Shared}{H:Hp}{E:XK}{us:Lu_}{vs:Lv_}
  (S:Y8 N ps scope) (hd:A.handled=none) (e0:Zie P w K mg base A outer s H) (hl:vs.length=ps.length) (r:Uj vs us)
  (x:InCallC s s.heap.objs.size (bindL (envOfC qual scope s.heap.objs.size f cd).kindOf (ps.zip us) fun _=>none) (cellsFrom (s.heap.objs.size+1) scope.names []) (bindC (envOfC qual scope s.heap.objs.size f cd).kindOf (ps.zip us) fun _=>none) s1) :
  Inv (Zdl CX P w K mg base N qual scope f cd A outer s H E) [] (start N vs) H s1:=by
 have hpl:ps.length≤N.length:=by have:=congrArg Yr S.pre;rw[ZC] at this;lia
 obtain⟨h1,tk,rfl,hk⟩:=x.done
 have noA:∀ b:Addr,b∉(Zdl CX P w K mg base N qual scope f cd A outer s H E).ex:=fun b z=>absurd (show b∈([]:List Addr) from z) (by simp)
 refine⟨⟨e0.mod,S.kind,rfl,rfl,Zc _,fun y z c h1 h2=>?_,fun y hy=>?_,fun y c _ h=>?_,fun _=>hd,Around.frames_deeper e0.frames,.inr ⟨rfl,rfl⟩,fun b z=>absurd z (noA b),e0.bs,e0.bsz,fun b _ _=>noA b,fun b z=>absurd z (noA b),e0.funs,e0.frf⟩,
  rfl,e0.bare,Un.kept hk,⟨_,x.toInCall.ns,fun i y v h1 h2 h3=>?_⟩,fun y c h=>⟨_,x.cell y c h⟩,e0.hok.fresh (Zc _),fun y c h=>?_,fun p hp=>absurd (show p∈([]:Pn_) from hp) (by simp),e0.hok.kept hk,?_⟩
 ·exact name_of_addr x.apart (Yo h1) (Yo h2)
 ·have hy:scope.names.lookup y=some .cell∨scope.names.lookup y=some .free:=hy
  rcases hy with hy|hy
  ·exact Z66 hy
  ·exact absurd rfl (S.nofree _ (Yo hy))
 ·exact Gg (x.above y c (Yo h))
 ·have hi:i<vs.length:=by
   unfold start at h2
   by_cases hi:i<vs.length
   ·exact hi
   ·rw[ZD (by simpa using hi)] at h2
    rw[JS] at h2
    split at h2 <;> cases h2
  have ha:vs[i]?=some v:=by
   unfold start at h2
   rw[ZU (by simpa using hi),Jc] at h2
   cases e:vs[i]? with
   |none=>rw[e] at h2;cases h2
   |some a=>rw[e] at h2;cases h2;rfl
  obtain⟨u,hu,rv⟩:=r.get ha
  have hp:ps[i]?=some y:=by
   rw[← S.pre,Nz (by lia)];exact h1
  have ndP:ps.Nodup:=by rw[← S.pre];exact S.nd.sublist (Yd _ _)
  refine⟨u,rv,?_⟩
  rcases S.par y (ZZ hp) with k|k
  ·exact .inl ⟨k,Z3r ndP hp hu k⟩
  ·obtain⟨c,e⟩:=Z66 (n:=s.heap.objs.size+1) k
   refine .inr ⟨.inl k,c,e,?_⟩
   have q:=x.cell y c e
   rw[Z3t ndP hp hu (by show scope.names.lookup y≠_;rw[k];decide)] at q
   exact q
 ·exact e0.hok.fresh (Gg (x.above y c (Yo h)))
 ·unfold start
  show _=N.length
  rw[Zf,Z3,Y7]
  lia
theorem Zj5 {CX:CXT}{P:Program}{w:World}{K:Fg_}{mg:Str→Option Value}{base:Heap}{k:Nat}{f:Addr}{name qual:Str}{params:Arguments}{body:List Stmt}{scope:Scope}{dV kV doc pm cdv ct oc:Value}{an od:Option Addr}
  {osl:Array (Option Value)} {N ps:Ls_} {sp:Sp} (lk:K.lookup f=some ⟨oc,od,.func (ZR name qual params body scope dV kV doc pm an cdv ct),osl⟩) (hcd:ZN K cdv qual=true) (S:Y8 N ps scope)
  (len:∀ vs H Q E,sp vs H Q E→vs.length=ps.length)
  (hbody:∀ (A:Around) (outer:List Env) (s:Shared) (H:Hp) (vs:Lv_) (Q:VK) (E:XK),GZ k (A.deeper (envOfC qual scope s.heap.objs.size f cdv))→sp vs H Q E →
   ∃ t,PSs (Zdl CX P w K mg base N qual scope f cdv A outer s H E) body t∧t { nx:=fun _ H'=>Q .non H',rt:=Q } (start N vs) H) :
  Mw P w K mg base CX (k+1) f (ZR name qual params body scope dV kV doc pm an cdv ct) ps sp:=by
 refine⟨len,fun A outer s H args us vs Q E hr e0 hb r hsp=>?_⟩
 have hl:=len _ _ _ _ hsp
 have KX:K.In s.heap:=e0.mod.kin.keeps fun b o e=>(e0.bs b o e).1
 have lim:s.heap.NoLimit:=e0.mod.nolimit.keeps fun b o e=>(e0.bs b o e).1
 have hkind:∀ y∈ps.zip us,scope.names.lookup y.1=some .local∨(scope.names.lookup y.1=some .cell∧((cellsFrom (s.heap.objs.size+1) scope.names []).lookup y.1).isSome=true):=fun z1_ hy=>by
  obtain ⟨n,v⟩:=z1_
  rcases S.par n (MW hy).1 with q|q
  ·exact .inl q
  ·exact .inr ⟨q,Z3H _ _ _ (.inl q)⟩
 refine codeAny_call_function hr.depth (KX _ _ lk) rfl S.co S.gen rfl (PySem.W.codeRec_of KX hcd) (hb _ _ _ _ ?_)
 refine wpAny_newFunctionEnv_cells S.kind hkind fun env he s1 x=>?_
 subst he
 refine⟨lim.keeps x.toInCall.keep,codeAny_func ?_⟩
 obtain⟨t,ht,hq⟩:=hbody A outer s H vs Q E (hr.deeper _) hsp
 have I:Inv (Zdl CX P w K mg base N qual scope f cdv A outer s H E) [] (start N vs) H s1:=Z9C S hr.hd e0 hl r x
 refine JP (ht [] s1 (start N vs) H _ I hq) (fun fl s' hs=>?_) fun e s' hs=>hs
 have fin:∀ {σ':St} {H':Hp} {v:V} {u:Value},Inv (Zdl CX P w K mg base N qual scope f cdv A outer s H E) [] σ' H' s'→RelV v u→Q v H'→CE outer P w H s Q u s' :=
  fun {σ' H' v u} J rv q=>⟨v,H',J.os,J.bare,J.base,J.hok,rv,q⟩
 cases fl with
 |ret u =>
  obtain⟨v,σ',H',J,rv,q⟩:=hs
  exact fin J rv q
 |next =>
  obtain⟨σ',H',J,q⟩:=hs
  exact fin (v:=V.non) (u:=YN) J rfl q
 |brk =>
  obtain⟨_,_,_,q⟩:=hs
  exact Nw q
 |cont =>
  obtain⟨_,_,_,q⟩:=hs
  exact Nw q
section
variable {X:Cx}{x:Str}{p pos:Pos}{e:Expr}{es:Le_}{t:TA}{id T:String}{r:Lv_→Hp→VK→Prop}
def tCB (r:Lv_→Hp→VK→Prop)(t:TA):TE:=fun σ H Q=>t σ H fun vs H1=>r vs H1 Q
theorem Qv (hc:MG X (.builtin id) r) (hg:Gl X x) (hm:X.mg x=none) (hv:bootBuiltins x=some (.builtin id)) (ha:PA X (e::es) t) (hn:x≠"__name__":=by decide) (hdb:(x == ("__debug__":Str))=false:=by decide)
  (he:starEach (e::es) X.env=(false,eval e X.env)::starEach es X.env:=by rfl) (hpl:(backTo pos (starEach es X.env)).any (·.1)=false:=by rfl):PE X (.Call (.Name x p) (e::es) [] pos) (tCB r t):=by
 intro pins s σ H Q I h
 refine M5 (BU I hg hm hv ?_ hn hdb)
 exact PyProof.Rows.callWith_builtin1 (thn (ha pos pins s σ H _ I h) fun us s1 ⟨vs,H1,I1,r1,q1⟩=>hc pins s1 σ H1 vs us Q I1 r1 q1) he hpl
theorem DK (hc:MG X (.type T) r) (hg:Gl X x) (hm:X.mg x=none) (hv:bootBuiltins x=some (.type T)) (ha:PA X (e::es) t) (hn:x≠"__name__":=by decide) (hdb:(x == ("__debug__":Str))=false:=by decide)
  (he:starEach (e::es) X.env=(false,eval e X.env)::starEach es X.env:=by rfl) (hpl:(backTo pos (starEach es X.env)).any (·.1)=false:=by rfl):PE X (.Call (.Name x p) (e::es) [] pos) (tCB r t):=by
 intro pins s σ H Q I h
 refine M5 (BU I hg hm hv ?_ hn hdb)
 exact Gf (thn (ha pos pins s σ H _ I h) fun us s1 ⟨vs,H1,I1,r1,q1⟩=>hc pins s1 σ H1 vs us Q I1 r1 q1) he hpl
end
end L2
namespace HT
open PySem PyProof.Rows
theorem Zcj (A:Around)(s:Shared)(a:Int)(t:Tok)(c:Int)(u:Tok):∃ e,FQ A s (.int a t) (.int c u) e∧(e=true↔a=c) :=
 ⟨(a == c),FQ.int_int a t c u,by simp⟩
theorem ZaX (A:Around)(s:Shared)(a:Int)(t:Tok)(c:Int)(u:Tok)(prog:Program)(w:World)(E:Ps_)(Q:Ps_)(h:Q (.bool (decide (a<c))) s) :
  wpAny (model prog w) A (richCompare .Lt (.int a t) (.int c u)) Q E s :=
 (Z1J h:wpAny (model prog w) A (compareOp .Lt (.int a t) (.int c u)) Q E s)
section
open PySem.SeqAt
open PySem.AutoSeq1 (wpAny_loadPart')
open PySem.MeetsSeq PySem.MeetsSeq2 PySem.MeetsSeq3
end
section
variable {prog:Program}{w:World}{A:Around}{E:Ps_}{s:Shared}
theorem cat_tup {t b:Addr}{vs ws:Lu_}{Q:Ps_}(ht:IsTup s.heap t vs.toArray)(hb:IsTup s.heap b ws.toArray)(hv:vs≠[])
  (h1:ws=[]→Q (.ref t) s) (h2:ws≠[]→Q (.ref s.heap.objs.size) { s with heap:=s.heap.push { cls:=.type "tuple",data:=.seq (vs++ws).toArray } })
  (hsz:vs.length+ws.length≤sizeLine):wpAny (model prog w) A (binaryOp .Add (.ref t) (.ref b)) Q E s:=by
 obtain⟨⟨cls,dd,data,sl⟩,ho,hc,n,hd⟩:=id ht
 obtain⟨⟨cls2,dd2,data2,sl2⟩,ho2,hc2,n2,hd2⟩:=id hb
 simp only at hc hd hc2 hd2
 subst hc hd hc2 hd2
 have e:vs.toArray++ws.toArray=(vs++ws).toArray:=by simp
 by_cases hw:ws=[]
 ·exact Z3f ⟨_,ho,rfl⟩ ⟨_,ho2,rfl⟩ Z3N Zap Wf W3 (Qj _ _)
   (tuple_addW1 t b vs.toArray ws.toArray n n2 dd dd2 sl sl2 (by simpa using hv) (by simp[hw])) ⟨ho,ho2,h1 hw⟩
 ·refine Z3f ⟨_,ho,rfl⟩ ⟨_,ho2,rfl⟩ Z3N Zap Wf W3 (Qj _ _)
   (tuple_addW2 t b vs.toArray ws.toArray n n2 dd dd2 sl sl2 (by simpa using hv) (by simpa using hw) (by rw[Zk,Zk];exact hsz)) ⟨ho,ho2,?_⟩
  rw[e]
  exact h2 hw
noncomputable def sIx (n d:Nat):Option Int→Nat
 |none=>d
 |some v=>if v<0 then (v+(n:Int)).toNat else min v.toNat n
theorem sIx_none (n d:Nat):sIx n d none=d:=rfl
theorem sIx_nat (n d k:Nat):sIx n d (some (k:Int))=min k n:=by
 show (if (k:Int)<0 then ((k:Int)+(n:Int)).toNat else min (k:Int).toNat n)=min k n
 rw[if_neg (by simp),Yz]
theorem sIx_le (n d:Nat)(hd:d≤n)(o:Option Int):sIx n d o≤n:=by
 cases o with
 |none=>exact hd
 |some v =>
  show (if v<0 then (v+(n:Int)).toNat else min v.toNat n)≤n
  by_cases hv:v<0
  ·rw[if_pos hv];lia
  ·rw[if_neg hv];exact ZfA _ _
theorem Z9Z (v:Int)(n d:Nat):(if v<0 then max (v+(n:Int)) 0 else min v (n:Int))=((sIx n d (some v):Nat):Int):=by
 show (if v<0 then max (v+(n:Int)) 0 else min v (n:Int))=(((if v<0 then (v+(n:Int)).toNat else min v.toNat n):Nat):Int)
 by_cases hv:v<0
 ·simp only[if_pos hv];simp
 ·simp only[if_neg hv];lia
theorem Z7c (lo hi:Option Int)(n:Nat):Mi lo hi 1 (n:Int)=(((sIx n 0 lo:Nat):Int),((sIx n n hi:Nat):Int)):=by
 have h1:¬ ((1:Int)<0):=by decide
 unfold Mi
 simp only[h1,if_false]
 refine Dw ?_ ?_
 ·cases lo with
  |none=>rfl
  |some v=>exact Z9Z v n 0
 ·cases hi with
  |none=>rfl
  |some v=>exact Z9Z v n n
theorem Z6y (i j:Nat):GB (i:Int) (j:Int) 1=j-i:=by
 unfold GB
 have h1:(1:Int) > 0:=by decide
 simp only[h1,if_true,Int.ediv_one]
 split <;> lia
theorem Z0e {v:Value}{o:Option Int}{Q:Option Int→Shared→Prop}(p:IsPart v o)(h:Q o s):wpAny (model prog w) A (Builtin.Slice.slicePartIndex v) Q E s:=by
 cases p with
 |none=>exact ZjW h
 |int i t=>exact slicePart_int h
theorem sliceApplied_gen {sl:Addr}{vl vu:Value}{lo hi:Option Int}{n:Nat}{Q:Int×Int×Nat→Shared→Prop}(hs:s.heap.IsSliceOf sl vl vu .none)(pl:IsPart vl lo)(pu:IsPart vu hi)
  (h:Q (((sIx n 0 lo:Nat):Int),1,sIx n n hi-sIx n 0 lo) s):wpAny (model prog w) A (BA (.ref sl) (pure (n:Int))) Q E s:=by
 obtain⟨os,hos,hcs,hds⟩:=id hs
 unfold BA Builtin.Slice.sliceFields
 refine Z0 (Z0 (QU hos hds (x:=vl) rfl (Z0 (QU hos hds (x:=vu) rfl (Z0 (QU hos hds (x:=.none) rfl (Z5 ?_)))))))
 refine Z0 (ZjW ?_)
 show wpAny _ _ (if ((1:Int) == 0)=true then _ else _) _ _ s
 rw[if_neg (by decide)]
 refine Z0 (Z0e pl (Z0 (Z0e pu (Z0 (Z5 ?_)))))
 show wpAny _ _ (match Mi lo hi 1 (n:Int) with|(lo,hi)=>pure (lo,(1:Int),GB lo hi 1)) _ _ s
 rw[Z7c lo hi n]
 show wpAny _ _ (pure (((sIx n 0 lo:Nat):Int),(1:Int),GB ((sIx n 0 lo:Nat):Int) ((sIx n n hi:Nat):Int) 1)) _ _ s
 rw[Z6y]
 exact Z5 h
theorem Zba (xs:Au_)(i k:Nat):((Jg k).filterMap fun (m:Nat)=>xs[((i:Int)+(m:Int)*1).toNat]?).toArray=((xs.toList.drop i).take k).toArray:=by
 have e:(fun (m:Nat)=>xs[((i:Int)+(m:Int)*1).toNat]?)=fun m=>xs[i+m]?:=by
  funext m
  have:((i:Int)+(m:Int)*1).toNat=i+m:=by lia
  rw[this]
 rw[e]
 have:=Zka xs i k
 rw[ZaA] at this
 have e2:((fun x=>xs[x]?)∘fun x=>i+x)=fun m=>xs[i+m]?:=rfl
 rw[e2] at this
 rw[this]
theorem getItem_tuple_cut {t sl:Addr}{items:Au_}{vl vu:Value}{lo hi:Option Int}{Q:Ps_}(ht:IsTup s.heap t items)(hs:s.heap.IsSliceOf sl vl vu .none)(pl:IsPart vl lo)(pu:IsPart vu hi)
  (hw:¬ (sIx items.size 0 lo=0∧sIx items.size items.size hi=items.size))
  (h:Q (.ref s.heap.objs.size) { s with heap:=s.heap.push { cls:=.type "tuple",data:=.seq ((items.toList.drop (sIx items.size 0 lo)).take (sIx items.size items.size hi-sIx items.size 0 lo)).toArray } })
  (hsz:items.size≤sizeLine):wpAny (model prog w) A (getItem (.ref t) (.ref sl)) Q E s:=by
 have htake:sizeOk (.seq ((items.toList.drop (sIx items.size 0 lo)).take (sIx items.size items.size hi-sIx items.size 0 lo)).toArray):=by
  show ((items.toList.drop (sIx items.size 0 lo)).take (sIx items.size items.size hi-sIx items.size 0 lo)).toArray.size≤sizeLine
  rw[Zk,ZC,ZS,Zm]
  omega
 have hj:sIx items.size items.size hi≤items.size:=sIx_le _ _ (Zc _) hi
 obtain⟨os,hos,hcs,hds⟩:=id hs
 have hTs:s.TypeIs (.ref sl) "slice":=⟨os,hos,hcs⟩
 unfold getItem
 try with_reducible refine Y5 ?_
 first|refine Z0 (Z5 ?_)|skip
 refine Z0 (ZhR ht.typeIs (by decide) ?_)
 refine Z0 (Us (name:=ZY "__getitem__") ht.typeIs Y3
  (YQ Y3 ht.typeIs ZfM ?_ (ZhI _ _)))
 show wpAny _ _ (Bz (.ref t)>>=_) _ _ s
 refine Z0 (Zk9 ht ?_)
 refine Z0 (MI hTs ?_)
 rw[if_pos (by decide)]
 refine Z0 (sliceApplied_gen hs pl pu ?_)
 have hno:¬ ((((sIx items.size 0 lo:Nat):Int) == 0&&(1:Int) == 1&&(sIx items.size items.size hi-sIx items.size 0 lo) == items.size)=true):=by
  intro q
  rw[ZX,ZX] at q
  have q1:((sIx items.size 0 lo:Nat):Int)=0:=eq_of_beq q.1.1
  have q2:sIx items.size items.size hi-sIx items.size 0 lo=items.size:=eq_of_beq q.2
  exact hw ⟨by omega,by omega⟩
 show wpAny _ _ (if (((sIx items.size 0 lo:Nat):Int) == 0&&(1:Int) == 1&&(sIx items.size items.size hi-sIx items.size 0 lo) == items.size)=true then _ else _) _ _ s
 rw[if_neg hno,Zba]
 first
  |exact Z0 (m:=GN _) (JC (Z5 ⟨_,rfl,Z5 h⟩) htake)
  |exact Z0 (m:=GN _) (JC (Z0 (Z5 (Z5 ⟨_,rfl,Z5 h⟩))) htake)
  |exact Z0 (Z0 (m:=GN _) (JC (Z5 (Z5 ⟨_,rfl,Z5 h⟩)) htake))
  |exact Z0 (Z0 (m:=GN _) (JC (Z5 ⟨_,rfl,Z5 h⟩) htake))
end
end HT
namespace L2
open PySem PySem.Spec PyProof.Rows
abbrev TO:=St→Hp→(Option Int→Hp→Prop)→Prop
def PO (X:Cx)(e:Option Expr)(t:TO):Prop :=
 ∀ (pins:Pn_) (s:Shared) (σ:St) (H:Hp) (Q:Option Int→Hp→Prop),Inv X pins σ H s→t σ H Q →
  wpAny (model X.prog X.w) X.A (evalPart e X.env) (fun u s'=>∃ o H',Inv X pins σ H' s'∧IsPart u o∧Q o H') X.xe s
def ZdK:TO:=fun _ H Q=>Q none H
def Zio (t:TE):TO:=fun σ H Q=>t σ H fun x H1=>∃ i,x=.int i∧Q (some i) H1
section
variable {X:Cx}{e:Expr}{te:TE}{lo hi:Option Expr}{tl th:TO}{pos p2:Pos}
theorem Zeb:PO X none ZdK:=by
 intro pins s σ H Q I h
 rw[Zkc]
 exact Z5 ⟨none,H,I,.none,h⟩
theorem Zea (h:PE X e te):PO X (some e) (Zio te):=by
 intro pins s σ H Q I hw
 rw[evalPart_some]
 refine thn (h pins s σ H _ I hw) fun u s1 z1_=>?_
 obtain ⟨x,H1,I1,r1,q1⟩:=z1_
 obtain⟨i,rfl,q⟩:=q1
 obtain⟨t,rfl⟩:=r1
 exact⟨some i,H1,I1,.int i t,q⟩
def SlR (X:Cx)(r:V→Option Int→Option Int→Hp→VK→Prop):Prop :=
 ∀ (pins:Pn_) (s:Shared) (σ:St) (H:Hp) (x:V) (v vl vu:Value) (lo hi:Option Int) (sl:Addr) (Q:VK),Inv X pins σ H s→RelV x v→s.heap.IsSliceOf sl vl vu .none→IsPart vl lo→IsPart vu hi→r x lo hi H Q →
  ∃ T id,typeLookup (.type T) "__getitem__"=pure (some (.builtin id))∧s.TypeIs v T∧wpAny (model X.prog X.w) X.A (getItem v (.ref sl)) (EP X pins σ Q) X.xe s
theorem SlR.or {r r':V→Option Int→Option Int→Hp→VK→Prop}(h:SlR X r)(h':SlR X r'):SlR X (fun x lo hi H Q=>r x lo hi H Q∨r' x lo hi H Q):=by
 intro pins s σ H x v vl vu lo hi sl Q I rx hs pl pu q
 rcases q with q|q
 ·exact h pins s σ H x v vl vu lo hi sl Q I rx hs pl pu q
 ·exact h' pins s σ H x v vl vu lo hi sl Q I rx hs pl pu q
def tSl (r:V→Option Int→Option Int→Hp→VK→Prop)(te:TE)(tl th:TO):TE:=fun σ H Q=>te σ H fun x H1=>tl σ H1 fun l H2=>th σ H2 fun u H3=>r x l u H3 Q
theorem Z5A {r:V→Option Int→Option Int→Hp→VK→Prop}(hr:SlR X r)(he:PE X e te)(hl:PO X lo tl)(hu:PO X hi th):PE X (.Subscript e (.Slice lo hi none p2) pos) (tSl r te tl th):=by
 intro pins s σ H Q I h
 refine Zi6 (thn (he pins s σ H _ I h) fun v s1 z1_=>?_)
 obtain ⟨x,H1,I1,r1,q1⟩:=z1_
 refine wpAny_Slice (thn (hl pins s1 σ H1 _ I1 q1) fun vl s2 ⟨l,H2,I2,pl,q2⟩=>thn (hu pins s2 σ H2 _ I2 q2) fun vu s3 z1_=>?_)
 obtain ⟨u,H3,I3,pu,q3⟩:=z1_
 rw[Zkc]
 refine Z5 ?_
 have I4:Inv X pins σ H3 { s3 with heap:=s3.heap.push { cls:=.type "slice",data:=.fields #[vl,vu,.none] } }:=I3.kept (t':=s3.toks) fun b ob q=>Z2 _ q
 obtain⟨T,id,hT,ht,hg⟩:=hr pins { s3 with heap:=s3.heap.push { cls:=.type "slice",data:=.fields #[vl,vu,.none] } } σ H3 x v vl vu l u s3.heap.objs.size Q I4 r1 (Heap.IsSliceOf.new ..) pl pu q3
 show wpAny (model X.prog X.w) X.A (subscriptTail e (.Slice lo hi none p2) v (.ref s3.heap.objs.size)) (EP X pins σ Q) X.xe { s3 with heap:=s3.heap.push { cls:=.type "slice",data:=.fields #[vl,vu,.none] } }
 exact tail_any (ops:=[.ref s3.heap.objs.size,v]) ht hT hg (by with_unfolding_all rfl)
noncomputable def Zdm (xs:Lv_)(lo hi:Option Int):Lv_:=(xs.drop (HT.sIx xs.length 0 lo)).take (HT.sIx xs.length xs.length hi-HT.sIx xs.length 0 lo)
theorem Cv (xs:Lv_)(lo hi:Option Int):(Zdm xs lo hi).length≤xs.length:=by
 unfold Zdm
 rw[ZC,ZS]
 lia
def Zjk (K:Fg_):V→Option Int→Option Int→Hp→VK→Prop:=fun x lo hi H Q=>∃ a xs,x=.ref a∧SqT K H a xs ∧
 ¬ (HT.sIx xs.length 0 lo=0∧HT.sIx xs.length xs.length hi=xs.length)∧∀ p,H p=none→Q (.ref p) (upd H p (.tup (Zdm xs lo hi)))
theorem Zg6:SlR X (Zjk X.K):=by
 intro pins s σ H x v vl vu lo hi sl Q I rx hs pl pu h
 obtain⟨a,xs,rfl,hx,hw,q⟩:=h
 cases rx
 obtain⟨its,r,ht,hz⟩:=I.tuple hx
 have hlen:its.toArray.size=xs.length:=by rw[Zk];exact r.length.symm
 refine⟨"tuple",_,Y3.lookup,ht.typeIs,?_⟩
 refine HT.getItem_tuple_cut ht hs pl pu (by rw[hlen];exact hw) ?_ (by rw[hlen];exact hz)
 rw[hlen]
 refine⟨.ref s.heap.objs.size,_,I.laid (t':=s.toks) (o:=.tup (Zdm xs lo hi)) (fun b ob q=>Z2 _ q) (Zc _) ?_,rfl,q _ (I.hok.fresh (Zc _))⟩
 exact⟨Zz (Cv xs lo hi) hz,_,(r.drop (HT.sIx xs.length 0 lo)).take (HT.sIx xs.length xs.length hi-HT.sIx xs.length 0 lo),Z6l _ _⟩
def Zgj (K:Fg_):R2:=fun x y H Q=>∃ a b xs ys,x=.ref a∧y=.ref b∧SqT K H a xs∧SqT K H b ys∧xs≠[]∧xs.length+ys.length≤sizeLine ∧
 (ys=[]→Q (.ref a) H)∧(ys≠[]→∀ p,H p=none→Q (.ref p) (upd H p (.tup (xs++ys))))
theorem Uj.nil_iff {xs:Lv_}{us:Lu_}(r:Uj xs us):us=[]↔xs=[]:=by
 cases r with
 |nil=>simp
 |cons _ _=>simp
theorem ZeN:OpR X (binaryOp .Add) (Zgj X.K):=by
 intro pins s σ H x y v u Q I rx ry h
 obtain⟨a,b,xs,ys,rfl,rfl,ha,hb,hx,hz,q1,q2⟩:=h
 cases rx
 cases ry
 obtain⟨its,r1,p1,_⟩:=I.tuple ha
 obtain⟨its2,r2,p2,_⟩:=I.tuple hb
 refine HT.cat_tup p1 p2 (fun z=>hx (r1.nil_iff.mp z)) (fun z=>⟨.ref a,H,I,rfl,q1 (r2.nil_iff.mp z)⟩) (fun z=>?_) (by rw[← r1.length,← r2.length];exact hz)
 refine⟨.ref s.heap.objs.size,_,I.laid (t':=s.toks) (o:=.tup (xs++ys)) (fun b ob q=>Z2 _ q) (Zc _) ?_,rfl,q2 (fun w=>z (r2.nil_iff.mpr w)) _ (I.hok.fresh (Zc _))⟩
 exact⟨by rw[Zf];exact hz,_,r1.append r2,Z6l _ _⟩
end
noncomputable def ixN (n:Nat)(i:Int):Option Nat:=if 0≤i then (if i<n then some i.toNat else none) else if -(n:Int)≤i then some (i+n).toNat else none
noncomputable def atI {α:Type}(xs:List α)(i:Int):Option α:=(ixN xs.length i).bind fun j=>xs[j]?
theorem Zfg {n:Nat}{i:Int}{j:Nat}(h:ixN n i=some j):seqIndex? i n=some j∧j<n∧-(n:Int)≤i∧i<n:=by
 unfold ixN at h
 by_cases h0:0≤i
 ·rw[if_pos h0] at h
  by_cases h1:i<n
  ·rw[if_pos h1] at h
   have e:i.toNat=j:=Jn h
   exact⟨by rw[seqIndex_of h0 h1,e],by omega,by lia,h1⟩
  ·rw[if_neg h1] at h;cases h
 ·rw[if_neg h0] at h
  by_cases h1:-(n:Int)≤i
  ·rw[if_pos h1] at h
   have e:(i+n).toNat=j:=Jn h
   exact⟨by rw[seqIndex_neg (by lia) h1,e],by lia,h1,by lia⟩
  ·rw[if_neg h1] at h;cases h
theorem Z4W {α:Type}{xs:List α}{i:Int}{v:α}(h:atI xs i=some v):∃ j,seqIndex? i xs.length=some j∧xs[j]?=some v∧j<xs.length∧-(xs.length:Int)≤i∧i<xs.length:=by
 unfold atI at h
 cases e:ixN xs.length i with
 |none=>rw[e] at h;cases h
 |some j =>
  rw[e] at h
  obtain⟨h1,h2,h3,h4⟩:=Zfg e
  exact⟨j,h1,h,h2,h3,h4⟩
def Z50 (b:Expr):Prop:=∀ o i,subscripted b false o i=operate [o,i] (getItem o i)
def IxR (X:Cx)(r:R2):Prop :=
 ∀ (value slice:Expr) (pins:Pn_) (s:Shared) (σ:St) (H:Hp) (x y:V) (v u:Value) (Q:VK),Inv X pins σ H s→RelV x v→RelV y u→r x y H Q →
  subscripted slice false v u=operate [v,u] (getItem v u)→wpAny (model X.prog X.w) X.A (subscriptTail value slice v u) (EP X pins σ Q) X.xe s
def MtR (X:Cx)(id:String)(r:V→Lv_→Hp→VK→Prop):Prop :=
 ∀ (pins:Pn_) (s:Shared) (σ:St) (H:Hp) (x:V) (xs:Lv_) (v:Value) (us:Lu_) (Q:VK),Inv X pins σ H s→RelV x v→Uj xs us→r x xs H Q →
  wpAny (model X.prog X.w) X.A (call (.builtin id) (v::us)) (EP X pins σ Q) X.xe s
section
variable {X:Cx}{a b:Expr}{ta tb:TE}{pos:Pos}
theorem IxR.or {r r':R2}(h:IxR X r)(h':IxR X r'):IxR X (fun x y H Q=>r x y H Q∨r' x y H Q):=by
 intro value slice pins s σ H x y v u Q I rx ry q hs
 rcases q with q|q
 ·exact h value slice pins s σ H x y v u Q I rx ry q hs
 ·exact h' value slice pins s σ H x y v u Q I rx ry q hs
theorem ZiF {r:R2}(hr:IxR X r)(ha:PE X a ta)(hb:PE X b tb)(hs:Z50 b):PE X (.Subscript a b pos) (tOp r ta tb):=by
 intro pins s σ H Q I h
 exact Zi6 (Zjc ha hb I h fun v u s2 x y H2 I2 rx ry q=>hr a b pins s2 σ H2 x y v u Q I2 rx ry q (hs _ _))
def Zjs (K:Fg_):R2:=fun x y H Q=>∃ p xs i v,x=.ref p∧y=.int i∧SqL K H p xs∧atI xs i=some v∧Q v H
def Zjq (K:Fg_):R2:=fun x y H Q=>∃ p xs i v,x=.ref p∧y=.int i∧SqT K H p xs∧atI xs i=some v∧Q v H
def Zjr:R2:=fun x y H Q=>∃ z i c,x=.str z∧y=.int i∧z.length≤sizeLine∧atI z.cps.toList i=some c∧Q (.str ⟨#[c]⟩) H
theorem Zff:IxR X (Zjs X.K):=by
 intro value slice pins s σ H x y v u Q I rx ry h hs
 obtain⟨p,xs,i,z,rfl,rfl,hq,he,q⟩:=h
 cases rx
 obtain⟨t,rfl⟩:=ry
 obtain⟨its,r,pl,hz⟩:=I.list hq
 obtain⟨j,h1,h2,h3,h4,h5⟩:=Z4W he
 obtain⟨w,ew,rw'⟩:=r.get h2
 have hl:=r.length
 have hn:=Z2I
 have fin:EP X pins σ Q w s:=⟨z,H,I,rw',q⟩
 by_cases h0:0≤i
 ·have hj:i.toNat=j:=by
   rw[seqIndex_of h0 h5] at h1
   exact Jn h1
  exact item_listR pl.isList h0 (by lia) (by rw[hj];simpa using ew) fin hs
 ·have hj:(i+(its.toArray.size:Int)).toNat=j:=by
   rw[seqIndex_neg (by lia) h4] at h1
   rw[Zk,← hl]
   exact Jn h1
  exact ZaP (x:=w) pl.isList.typeIs Zi0.lookup
   (wpAny_getItem_list_neg (Q:=fun r s'=>r=w∧EP X pins σ Q r s') pl.isList (by lia) (by rw[Zk] <;> lia) (by lia) (by rw[hj];simpa using ew) ⟨rfl,fin⟩) hs
theorem Zht:IxR X (Zjq X.K):=by
 intro value slice pins s σ H x y v u Q I rx ry h hs
 obtain⟨p,xs,i,z,rfl,rfl,hq,he,q⟩:=h
 cases rx
 obtain⟨t,rfl⟩:=ry
 obtain⟨its,r,pl,hz⟩:=I.tuple hq
 obtain⟨j,h1,h2,h3,h4,h5⟩:=Z4W he
 obtain⟨w,ew,rw'⟩:=r.get h2
 have hl:=r.length
 have hn:=Z2I
 have fin:EP X pins σ Q w s:=⟨z,H,I,rw',q⟩
 exact ZaP (x:=w) pl.typeIs slot_tuple_getitem.lookup
  (getItem_tuple (j:=j) (Q:=fun r s'=>r=w∧EP X pins σ Q r s') pl (by lia) (by lia) (by rw[Zk,← hl];exact h1) (by simpa using ew) ⟨rfl,fin⟩) hs
theorem Zhu:IxR X Zjr:=by
 intro value slice pins s σ H x y v u Q I rx ry h hs
 obtain⟨z,i,c,rfl,rfl,hz,he,q⟩:=h
 obtain⟨t,rfl⟩:=rx
 obtain⟨t',rfl⟩:=ry
 obtain⟨j,h1,h2,h3,h4,h5⟩:=Z4W he
 have hl:z.cps.toList.length=z.length:=by simp[MV]
 rw[hl] at h1 h4 h5
 have hn:=Z2I
 exact tail_any (ZhW s z t) slot_str_getitem.lookup (getItem_str (c:=c) (by
  have e1:decide (i < -(2 ^ 63:Int))=false:=decide_eq_false (by lia)
  have e2:decide (i ≥ 2 ^ 63)=false:=decide_eq_false (by lia)
  rw[e1,e2,ZhM]) (by rw[h1];simpa using h2) ⟨.str ⟨#[c]⟩,H,I.tok _,⟨_,rfl⟩,q⟩) hs
def rIx (K:Fg_):R2:=fun x y H Q=>Zjs K x y H Q∨Zjq K x y H Q∨Zjr x y H Q
theorem Zhv:IxR X (rIx X.K):=Zff.or (Zht.or Zhu)
theorem Inv.lst {pins:Pn_}{σ:St}{H:Hp}{s:Shared}{p:Addr}{xs:Lv_}(I:Inv X pins σ H s)(h:H p=some (.lst xs)) :
  ∃ (its:Lu_) (n:Nat),Uj xs its∧s.heap.get? p=some { cls:=.type "list",data:=.seq its.toArray n }∧xs.length≤sizeLine:=by
 obtain⟨z,its,n,r,e⟩:=I.hok p _ h
 exact⟨its,n,r,e,z⟩
theorem BF (lo hi:Option Int)(n:Nat):(sliceBounds lo hi none n).1=((HT.sIx n 0 lo:Nat):Int)∧(sliceBounds lo hi none n).2.1=((HT.sIx n n hi:Nat):Int)∧(sliceBounds lo hi none n).2.2=1:=by
 refine⟨?_,?_,rfl⟩
 ·cases lo with
  |none=>simp[sliceBounds,HT.sIx]
  |some i =>
   simp only[sliceBounds,HT.sIx,Zav,show (1:Int) > 0 by decide,if_true]
   by_cases h:i<0
   ·simp only[h,if_true] <;> lia
   ·simp only[h,if_false] <;> lia
 ·cases hi with
  |none=>simp[sliceBounds,HT.sIx]
  |some i =>
   simp only[sliceBounds,HT.sIx,Zav,show (1:Int) > 0 by decide,if_true]
   by_cases h:i<0
   ·simp only[h,if_true] <;> lia
   ·simp only[h,if_false] <;> lia
theorem Z13 (its:Lu_)(lo hi:Option Int):slicePick its.toArray lo hi none=((its.drop (HT.sIx its.length 0 lo)).take (HT.sIx its.length its.length hi-HT.sIx its.length 0 lo)).toArray:=by
 obtain⟨h1,h2,h3⟩:=BF lo hi its.toArray.size
 unfold slicePick
 rw[h1,h2,h3]
 simp only[ZjV,Zka,Zk] <;> rfl
def Zjm (K:Fg_):V→Option Int→Option Int→Hp→VK→Prop:=fun x lo hi H Q=>∃ a xs,x=.ref a∧SqL K H a xs∧∀ p,H p=none→Q (.ref p) (upd H p (.lst (Zdm xs lo hi)))
theorem ZdP:SlR X (Zjm X.K):=by
 intro pins s σ H x v vl vu lo hi sl Q I rx hs pl pu h
 obtain⟨a,xs,rfl,hx,q⟩:=h
 cases rx
 obtain⟨its,r,ht,hz⟩:=I.list hx
 have hlen:=r.length
 refine⟨"list",_,Zi0.lookup,ht.isList.typeIs,?_⟩
 refine wpAny_getItem_list_slice ht.isList hs pl pu .none (by simp) ?_ (by rw[Zk] <;> lia)
 rw[Z13,← hlen]
 refine⟨.ref s.heap.objs.size,_,I.laid (t':=s.toks) (o:=.lst (Zdm xs lo hi)) (fun b ob q=>Z2 _ q) (Zc _) ?_,rfl,q _ (I.hok.fresh (Zc _))⟩
 exact⟨Zz (Cv xs lo hi) hz,_,0,(r.drop (HT.sIx xs.length 0 lo)).take (HT.sIx xs.length xs.length hi-HT.sIx xs.length 0 lo),Zu _ rfl⟩
theorem Z2w:OpR X (compareOp .NotIn) (fun x y H Q=>∃ i j,x=.str i∧y=.str j∧Q (.bl (!(!(Q1 j i 0 j.length 1).isEmpty))) H):=by
 intro pins s σ H x y v u Q I rx ry h
 obtain⟨i,j,rfl,rfl,q⟩:=h
 obtain⟨t,rfl⟩:=rx
 obtain⟨t',rfl⟩:=ry
 exact notIn_str ⟨.bl _,H,I,rfl,q⟩
theorem Z3o:MG X (.builtin "len") (fun xs H Q=>∃ p ys,xs=[.ref p]∧(SqL X.K H p ys∨SqT X.K H p ys)∧Q (.int ys.length) H):=by
 intro pins s σ H xs us Q I r h
 obtain⟨p,ys,rfl,hq,q⟩:=h
 obtain⟨u,rfl,rx⟩:=vals1 r
 cases rx
 have hn:=Z2I
 rcases hq with hq|hq
 ·obtain⟨its,r',pl,hz⟩:=I.list hq
  have hlen:=r'.length
  exact Calls.call_len_list pl.isList (by simp only[Zk] <;> lia) ⟨.int ys.length,H,I.tok _,⟨s.toks+1,by rw[Zk,hlen]⟩,q⟩
 ·obtain⟨its,r',pl,hz⟩:=I.tuple hq
  have hlen:=r'.length
  exact len_tuple pl (by simp only[Zk] <;> lia) ⟨.int ys.length,H,I.tok _,⟨s.toks+1,by rw[Zk,hlen]⟩,q⟩
theorem Z3n:MG X (.builtin "len") (fun xs H Q=>∃ z,xs=[.str z]∧z.length≤sizeLine∧Q (.int z.length) H):=by
 intro pins s σ H xs us Q I r h
 obtain⟨z,rfl,hz,q⟩:=h
 obtain⟨u,rfl,t,rfl⟩:=vals1 r
 have hn:=Z2I
 exact len_str (by lia) ⟨.int z.length,H,I.tok _,⟨_,rfl⟩,q⟩
theorem MG.or {f:Value}{r r':Lv_→Hp→VK→Prop}(h:MG X f r)(h':MG X f r'):MG X f (fun xs H Q=>r xs H Q∨r' xs H Q):=by
 intro pins s σ H xs us Q I rs q
 rcases q with q|q
 ·exact h pins s σ H xs us Q I rs q
 ·exact h' pins s σ H xs us Q I rs q
theorem Z3m:MG X (.type "list") (fun xs H Q=>∃ p ys,xs=[.ref p]∧(SqL X.K H p ys∨SqT X.K H p ys)∧∀ l,H l=none→Q (.ref l) (upd H l (.lst ys))):=by
 intro pins s σ H xs us Q I r h
 obtain⟨p,ys,rfl,hq,q⟩:=h
 obtain⟨u,rfl,rx⟩:=vals1 r
 cases rx
 have fin:∀ (its:Lu_),Uj ys its→ys.length≤sizeLine→∀ (h':Heap) (c':Nat),(∀ b o',s.heap.get? b=some o'→h'.get? b=some o') →
   h'.get? s.heap.objs.size=some { cls:=.type "list",dict:=none,data:=.seq its.toArray c',slots:=#[] }→EP X pins σ Q (.ref s.heap.objs.size) { s with heap:=h' }:=fun its r' hz h' c' kp e =>
  ⟨.ref s.heap.objs.size,_,I.laid (t':=s.toks) kp (Zc _) (show MD X.prog X.w _ h' _ (.lst ys) from ⟨hz,its,c',r',e⟩),rfl,q _ (I.hok.fresh (Zc _))⟩
 rcases hq with hq|hq
 ·obtain⟨its,r',pl,hz⟩:=I.list hq
  have hlen:=r'.length
  obtain⟨o,ho,hc,n,hd⟩:=pl.isList
  exact Zkd p (.inl rfl) ho hc hd (fun h' c' kp e=>fin its r' hz h' c' kp e) (by simp only[Zk] <;> lia)
 ·obtain⟨its,r',pl,hz⟩:=I.tuple hq
  have hlen:=r'.length
  obtain⟨o,ho,hc,n,hd⟩:=pl
  exact Zkd p (.inr rfl) ho hc hd (fun h' c' kp e=>fin its r' hz h' c' kp e) (by simp only[Zk] <;> lia)
theorem Z1D:MG X (.type "tuple") (fun xs H Q=>∃ p ys,xs=[.ref p]∧((SqL X.K H p ys∧∀ l,H l=none→Q (.ref l) (upd H l (.tup ys)))∨(SqT X.K H p ys∧Q (.ref p) H))):=by
 intro pins s σ H xs us Q I r h
 obtain⟨p,ys,rfl,h⟩:=h
 obtain⟨u,rfl,rx⟩:=vals1 r
 cases rx
 rcases h with ⟨hq,q⟩|⟨hq,q⟩
 ·obtain⟨its,r',pl,hz⟩:=I.list hq
  have hlen:=r'.length
  refine call_tuple_list pl.isList (fun h' kp=>?_) (by simp only[Zk] <;> lia)
  have I1:Inv X pins σ H { s with heap:=h' }:=I.kept (t':=s.toks) kp
  have I2:Inv X pins σ (upd H h'.objs.size (.tup ys)) { s with heap:=h'.push { cls:=.type "tuple",data:=.seq its.toArray } } :=
   I1.laid (t':=s.toks) (fun b o e=>Z2 _ e) (Zc _) (show MD X.prog X.w _ _ _ (.tup ys) from ⟨hz,its,r',Z6l _ _⟩)
  exact⟨.ref h'.objs.size,_,I2,rfl,q _ (I1.hok.fresh (Zc _))⟩
 ·obtain⟨its,r',pl,hz⟩:=I.tuple hq
  exact call_tuple_same pl ⟨.ref p,H,I,rfl,q⟩
def tyV (K:Fg_)(T:String)(x:V)(H:Hp):Prop:=match x with
 |.str _=>T="str"
 |.int _=>T="int"
 |.ref p=>(T="list"∧∃ xs,SqL K H p xs)∨(T="tuple"∧∃ o,K.lookup p=some o∧o.cls=.type "tuple"∧o.dict=none) ∨
   (T="dict"∧((∃ kvs,H p=some (.dK kvs))∨∃ kvs,H p=some (.dT kvs)))∨(T="set"∧∃ S n,H p=some (.set S n))
 |_=>False
theorem ZfY {pins:Pn_}{σ:St}{H:Hp}{s:Shared}{T:String}{x:V}{v:Value}(I:Inv X pins σ H s)(r:RelV x v)(ty:tyV X.K T x H) :
  s.TypeIs v T∧∀ a,v=.ref a→∃ ob,s.heap.get? a=some ob∧ob.dict=none:=by
 cases x with
 |str z =>
  obtain⟨t,rfl⟩:=r
  cases (show T="str" from ty)
  exact⟨ZhW s z t,fun _ e=>nomatch e⟩
 |int i =>
  obtain⟨t,rfl⟩:=r
  cases (show T="int" from ty)
  exact⟨ZhX s i t,fun _ e=>nomatch e⟩
 |ref p =>
  cases r
  rcases ty with ⟨rfl,xs,hq⟩|⟨rfl,o,hk,hc,hd⟩|⟨rfl,hk⟩|⟨rfl,S,n,hk⟩
  ·obtain⟨its,_,pl,_⟩:=I.list hq
   refine⟨pl.isList.typeIs,fun a e=>?_⟩
   cases e
   obtain⟨o,n,e,c,hd,_⟩:=pl
   exact⟨o,e,hd⟩
  ·refine⟨⟨o,I.kIn p o hk,hc⟩,fun a e=>?_⟩
   cases e
   exact⟨o,I.kIn _ o hk,hd⟩
  ·have z:∃ o,s.heap.get? p=some o∧o.ExactDict:=by
    rcases hk with ⟨kvs,hk⟩|⟨kvs,hk⟩
    ·obtain⟨_,_,_,_,o,_,_,e,ex,_⟩:=I.hok p _ hk
     exact⟨o,e,ex⟩
    ·obtain⟨_,_,_,_,o,_,_,e,ex,_⟩:=I.hok p _ hk
     exact⟨o,e,ex⟩
   obtain⟨o,e,ex⟩:=z
   refine⟨⟨o,e,ex.1⟩,fun a e2=>?_⟩
   cases e2
   exact⟨o,e,ex.2.1⟩
  ·obtain⟨o,_,_,_,e,ex,_⟩:=I.hok p _ hk
   refine⟨⟨o,e,ex.1⟩,fun a e2=>?_⟩
   cases e2
   exact⟨o,e,ex.2.1⟩
 |_=>exact Nw ty
def tBM (K:Fg_)(T:String)(r:V→Lv_→Hp→VK→Prop)(to:TE)(t:TA):TE:=fun σ H Q=>to σ H fun x H1=>tyV K T x H1∧t σ H1 fun xs H2=>r x xs H2 Q
variable {o e:Expr}{es:Le_}{to:TE}{t:TA}{name:Str}{apos cpos:Pos}{T id:String}{r:V→Lv_→Hp→VK→Prop}
theorem Zbl (pa:PlainAttrs T) (slot:Slot T name id) (hty:typeOf (.builtin id)=pure (.type "method_descriptor")) (hm:MtR X id r) (ho:PE X o to) (ha:PA X (e::es) t)
  (hbase:attributeBase o name X.env (eval o X.env)=eval o X.env:=by rfl)
  (hfew:((backTo cpos (starEach (e::es) X.env)).all (fun x=>!x.1)&&(backToKw cpos (keywordEach [] X.env)).all (fun x=>x.1.isSome)
  &&decide ((e::es).length+([]:List Keyword).length+(if ([]:List Keyword).isEmpty then 0 else 1)<30))=true:=by rfl)
  (hline:(apos.endLine == cpos.line)=true:=by rfl) (hs:starEach (e::es) X.env=(false,eval e X.env)::starEach es X.env:=by rfl) (hplain:(backTo cpos (starEach es X.env)).any (·.1)=false:=by rfl) :
  PE X (.Call (.Attribute o name apos) (e::es) [] cpos) (tBM X.K T r to t):=by
 intro pins s σ H Q I h
 refine wpAny_Call_method_late hbase hfew hline rfl (thn (ho pins s σ H _ I h) fun v s1 z1_=>?_)
 obtain ⟨x,H1,I1,r1,ty,q1⟩:=z1_
 obtain⟨h1,h2⟩:=ZfY I1 r1 ty
 refine⟨T,id,pa,slot,hty,h1,h2,?_⟩
 have hA:=ha cpos pins s1 σ H1 _ I1 q1
 rw[hs] at hA ⊢
 refine Calls.callWith_builtin (by show (false||(backTo cpos (starEach es X.env)).any (·.1))=false;rw[hplain] <;> rfl) (Calls.evalArgs_plain ?_)
 exact thn hA fun us s2 ⟨vs,H2,I2,r2,q2⟩=>hm pins s2 σ H2 x vs v us Q I2 r1 r2 q2
end
def MtM (X:Cx)(id:String)(r:V→Lv_→Hp→VK→Prop):Prop :=
 ∀ (pins:Pn_) (s:Shared) (σ:St) (H:Hp) (x:V) (xs:Lv_) (v:Value) (us:Lu_) (Q:VK),Inv X pins σ H s→RelV x v→Uj xs us→r x xs H Q →
  wpAny (model X.prog X.w) X.A (call (.builtin id) (v::us)) (EP X pins σ Q) X.xe s
theorem Uj.one:∀ {x:V} {us:Lu_},Uj [x] us→∃ u,us=[u]∧RelV x u:=by
 intro x us h
 cases h with
 |cons r t=>cases t;exact⟨_,rfl,r⟩
theorem Uj.two:∀ {x y:V} {us:Lu_},Uj [x,y] us→∃ u v,us=[u,v]∧RelV x u∧RelV y v
 |_,_,_,.cons r (.cons q .nil)=>⟨_,_,rfl,r,q⟩
theorem Uj.rep {xs:Lv_}{us:Lu_}(h:Uj xs us):∀ k:Nat,Uj (Zn k xs).flatten (Zn k us).flatten
 |0=>.nil
 |k+1=>by
  rw[JR,JR,G8,G8]
  exact Uj.append h (Uj.rep h k)
theorem foldl_rep (its:Lu_):∀ (k:Nat) (acc:Lu_),
  ZjH (fun x1 x2=>x1++x2) acc.toArray (Zn k its.toArray)=(acc++(Zn k its).flatten).toArray
 |0,acc=>by simp
 |k+1,acc=>by
  have e:acc.toArray++its.toArray=(acc++its).toArray:=by simp
  have e2:(acc++its)++(Zn k its).flatten=acc++(Zn (k+1) its).flatten:=by
   rw[JR,G8,Z8]
  rw[← e2,← foldl_rep its k (acc++its),← e,JR,G7]
section
variable {X:Cx}{pins:Pn_}{σ:St}{H:Hp}{s:Shared}{l b:Addr}{xs ys zs:Lv_}
theorem Inv.lset {its its':Lu_}{n:Nat}{f:Array Value→Array Value}{t':Nat}(I:Inv X pins σ H s)(hH:H l=some (.lst xs))
  (e:s.heap.get? l=some { cls:=.type "list",data:=.seq its.toArray n }) (hf:f its.toArray=its'.toArray) (hv:Uj ys its') (hz:ys.length≤sizeLine) :
  Inv X pins σ (upd H l (.lst ys)) { s with heap:=s.heap.update l (Yy f),toks:=t' }:=by
 have q:=PySem.IsL.update e f
 rw[hf] at q
 refine I.write (x:=l) (e:=l) (by rw[hH];exact trivial) (.inl rfl) (fun b' u hb hu=>(YM s.heap (Yy f) (GR hb)).trans hu) ⟨_,q⟩ ?_
 exact⟨hz,its',_,hv,q⟩
theorem Inv.lnew {its:Lu_}{t':Nat}(I:Inv X pins σ H s)(hv:Uj ys its)(hz:ys.length≤sizeLine) :
  Inv X pins σ (upd H s.heap.objs.size (.lst ys)) { s with heap:=s.heap.push { cls:=.type "list",data:=.seq its.toArray },toks:=t' } :=
 I.laid (fun _ _ q=>Z2 _ q) (Zc _) ⟨hz,its,0,hv,Zu _ rfl⟩
theorem Inv.fresh (I:Inv X pins σ H s):H s.heap.objs.size=none:=I.hok.fresh (Zc _)
theorem Inv.lstM (I:Inv X pins σ H s) (hH:H l=some (.lst xs)):xs.length≤sizeLine∧∃ (its:Lu_) (n:Nat),Uj xs its∧xs.length=its.length∧s.heap.get? l=some { cls:=.type "list",data:=.seq its.toArray n }:=by
 obtain⟨z,its,n,r,e⟩:=I.hok l _ hH
 exact⟨z,its,n,r,r.length,e⟩
theorem ZbM {n:Nat}(h:n≤sizeLine):FT n=false:=by
 unfold FT
 exact decide_eq_false (by lia)
end
section
variable {X:Cx}
def ZdV:V→Lv_→Hp→VK→Prop:=fun x vs H Q=>∃ l xs y,x=.ref l∧vs=[y]∧H l=some (.lst xs)∧xs.length<sizeLine∧Q .non (upd H l (.lst (xs++[y])))
theorem Z96:MtM X "list.append" ZdV:=by
 intro pins s σ H x vs v us Q I rx rv h
 obtain⟨l,xs,y,rfl,rfl,hH,hz,q⟩:=h
 cases rx
 obtain⟨u,rfl,ru⟩:=rv.one
 obtain⟨z,its,n,r,hl,e⟩:=I.lstM hH
 refine Zi3 F.slot_list_append ⟨_,e,rfl⟩ F.entry_list_append (F.args_list_append_2 _ _) (PySem.list_append l its.toArray n u (by rw[Zk];lia)) ⟨e,?_⟩
 refine⟨.non,_,I.lset (its':=its++[u]) hH e (by simp) (r.append (.cons ru .nil)) ?_,rfl,q⟩
 rw[Zf,Dn]
 assumption
theorem Z9j {α:Type}(xs:List α)(k:Nat):(Zn k xs).flatten.length=k*xs.length:=by
 induction k with
 |zero=>simp
 |succ k ih=>rw[JR,G8,Zf,ih,Dy,Nat.add_comm]
end
end L2
namespace Att
open PySem PySem.W PySem.Calls PyProof.Rows
theorem Ck {P:Params}{h:Heap}:∀ (ns:List Int) (vs:Lu_),WellAll P h vs (ns.map ZjB)→IntsAre vs ns:=by
 intro ns
 induction ns with
 |nil =>
  intro vs w
  rw[Qn] at w
  cases w
  exact .nil
 |cons n ns ih =>
  intro vs w
  rw[Zt] at w
  cases w with
  |cons a b =>
   cases a
   exact .cons _ _ (ih _ b)
theorem Z7Z {l:OpenLaw}{n:Nat}(hn:l.most=some n){P:Params}{h:Heap}{args:List WData}{vals:Lu_}
  (hpre:l.row.toRowW.claim.pre args=true) (hwl:WellAll P h vals args) :
  ∃ a vs ns,vals=[YX a]∧args=[WData.list (ns.map ZjB)]∧h.get? a=some { cls:=.type "list",data:=.seq vs.toArray }∧IntsAre vs ns∧ns.length≤n:=by
 have hsh:WShape.hasAll [] args [.list .int]=true:=(pre_splitW hpre).1
 have hc:l.pre.holds [] { args:=args }=true:=(pre_splitW hpre).2
 obtain⟨d,r,rfl,h1,h2⟩:=hasAllW_cons hsh
 obtain rfl:=hasAllW_nil h2
 obtain⟨xs,rfl,h3⟩:=hasW_list h1
 obtain⟨ns,rfl⟩:=items_int h3
 have hlen:ns.length≤n:=by
  unfold OpenLaw.pre at hc
  have h4:(WTm.not (.lt (.lit (.int (n:Int))) (.len (.arg 0)))).holds [] { args:=[.list (ns.map .int)] }=true:=by
   have h4:=(holds_andW hc).1
   rw[hn] at h4
   exact h4
  have h5:=condW_of h4 (w_not (w_lt w_lit (w_len_list (w_arg rfl))))
  rw[Z3] at h5
  refine Yp fun q=>?_
  have q':(n:Int)<((ns.length:Nat):Int):=by omega
  first
   |(rw[decide_eq_true q'] at h5;exact absurd h5 (by decide))
   |(simp at h5;omega)
 cases hwl with
 |cons w1 w2 =>
  cases w2
  cases w1 with
  |list ho hall=>exact⟨_,_,ns,rfl,rfl,ho,Ck ns _ hall,hlen⟩
theorem Z8r (l:OpenLaw)(args:List WData):l.row.toRowW.claim.post args (.bool true) args=true :=
 postW_of (r:=l.row.toRowW) (X:=(true == true))
  (show Zi4 [] (.bool true) .bool=true by first|rfl|decide|simp[Zi4,WShape.arms,WShape.armsAll])
  (show (WTm.eq .res (.lit (.bool true))).value [] { args:=args,res:=some (.bool true),after:=args }=some (.bool (true == true)) from w_eq_bool (w_res rfl) w_lit) rfl
theorem attach_call {l:OpenLaw}{n:Nat}{q:Program}{loose:Ls_}{XP:(Str→Option Value)→Heap→Prop}{YP:World→Heap→Prop}{d:DefRec}
  (hn:l.most=some n) (hdf:d.params.defaults=[])
  (call:∀ (w:World) (s₀ s₁:Shared) (mg mb:Str→Option Value) (fa:Addr) (o:Obj) (pm cd doc:Value) (a:Addr) (vs:Lu_) (ns:List Int),
   Ground q loose [] XP w s₀ mg mb s₁.heap→YP w s₁.heap →
   s₁.heap.get? fa=some o→o.data=.func (docDef d.name d.params d.body d.scope pm cd doc)→s₁.heap.CodeRec cd d.name→mg d.name=some (.ref fa) →
   s₁.heap.get? a=some { cls:=.type "list",data:=.seq vs.toArray }→IntsAre vs ns→ns.length≤n→s₁.gens=#[] →
   codeAny (model l.prog w) callerA (.call (.ref fa) ⟨[.ref a],[]⟩) (fun r s'=>r=.ok (.ret (.bool true))∧OldK s₁.heap s'.heap∧s'.os=s₁.os∧AllBare s'.gens) s₁) :
  WalkO q loose XP YP l.row.toRowW d [] (fun f vs=>Zat f vs):=by
 intro w s₀ s₁ mg mb G Y fa o pm cd doc dV kV ho hd hcd hD hmg hg args vals as hpre hlay hrd hwl hlo
 obtain rfl:dV=.none:=Dflts.none hD hdf
 obtain rfl:kV=.none:=Dflts.noKw hD
 obtain⟨a,vs,ns,rfl,rfl,hobj,hints,hlen⟩:=Z7Z hn hpre hwl
 refine enter_call (BY (call w s₀ s₁ mg mb fa o pm cd doc a vs ns G Y ho (fd_plain hd) hcd hmg hobj hints hlen hg) fun r s' hq=>?_)
 obtain⟨rfl,h2,h3,h4⟩:=hq
 exact⟨.inl ⟨.bool true,.bool true,[],rfl,fun _=>rfl,.bool true,Z8r l _,fun _=>⟨Uw,fun _ hm=>(nomatch hm)⟩⟩,h2,h3,h4⟩
end Att
namespace L2
open PySem PySem.Spec PyProof.Rows
theorem Z7F:∀ {vs:Lu_} {ns:List Int},IntsAre vs ns→Uj (ns.map V.int) vs:=by
 intro vs ns h
 induction h with
 |nil=>exact .nil
 |cons n t h ih=>exact .cons ⟨t,rfl⟩ ih
def Zje (H:Hp):Prop:=∀ b,H b=none∨∃ o xs,H b=some (.frz o (.lst xs))
theorem Zc5 {P:Program}{w:World}{K:Fg_}{mg mb:Str→Option Value}{CX:CXT}{k:Nat}{fa a:Addr}{fd:Jj}{x:Str}{sp:Sp}{s₁:Shared}{vs:Lu_}{ns:List Int}
  (KX:K.In s₁.heap) (hns:s₁.heap.Ns mainGlobals mg) (hb:s₁.heap.Ns builtinsNs mb) (hbb:∀ x:Str,x≠"__name__"→mb x=bootBuiltins x) (hlim:s₁.heap.NoLimit) (hg:s₁.gens=#[])
  (ha:s₁.heap.get? a=some { cls:=.type "list",data:=.seq vs.toArray }) (hi:IntsAre vs ns) (hl:ns.length≤sizeLine) (hr:GZ k callerA)
  (F:∀ base:Heap,K.In base→base.Ns mainGlobals mg→Mw P w K mg base CX k fa fd [x] sp) (hbind:∀ (s:Shared) (u:Value),BindsTo s fd ⟨[u],[]⟩ [(x,u)])
  (hsp:∀ H:Hp,Zje H→SqL K H a (ns.map V.int)→sp [.ref a] H (fun v _=>v=.bl true) fun _ _ _=>False)
  (hCX:∀ H e s',CX [] H s₁ (fun _ _ _=>False) e s'→False) :
  codeAny (model P w) callerA (.call (.ref fa) ⟨[.ref a],[]⟩) (fun r s'=>r=.ok (.ret (.bool true))∧OldK s₁.heap s'.heap∧s'.os=s₁.os∧AllBare s'.gens) s₁:=by
 have rv:=Z7F hi
 have lenV:=hi.length
 have core:∀ H:Hp,Zje H→SqL K H a (ns.map V.int)→HOk P w H s₁.heap→(∀ b,H b≠none→b=a)→(H a≠none→K.lookup a=none) →
   codeAny (model P w) callerA (.call (.ref fa) ⟨[.ref a],[]⟩) (fun r s'=>r=.ok (.ret (.bool true))∧OldK s₁.heap s'.heap∧s'.os=s₁.os∧AllBare s'.gens) s₁:=by
  intro H hO hS hok hA hK
  have base_of:∀ {b:Addr} {o:Obj},s₁.heap.get? b=some o→H b=none→(Zcb s₁.heap H).get? b=some o:=fun e n=>Zca e n
  have noA:∀ {b:Addr} {o:Obj} {es:Array DictEntry} {ep:Nat},s₁.heap.get? b=some o→o.data=.dict es ep→H b=none:=fun {b o es ep} e d=>by
   cases q:H b with
   |none=>rfl
   |some u =>
    have e':b=a:=hA b (by rw[q];simp)
    subst e'
    rw[ha] at e;cases e
    have d':Zke vs.toArray _=Data.dict es ep:=d
    cases d'
  have nsK:∀ {b:Addr} {m:Str→Option Value},s₁.heap.Ns b m→(Zcb s₁.heap H).Ns b m:=fun {b m} ⟨o,es,ep,e,d,r⟩=>⟨o,es,ep,base_of e (noA e d),d,r⟩
  have hKb:K.In (Zcb s₁.heap H):=fun b o e=>base_of (KX b o e) (by
   cases q:H b with
   |none=>rfl
   |some u =>
    have e':b=a:=hA b (by rw[q];simp)
    subst e'
    rw[hK (by rw[q];simp)] at e;cases e)
  have hM:Mod K mg (Zcb s₁.heap H):=⟨hKb,nsK hns,⟨mb,nsK hb,hbb⟩,let ⟨mc,h1,h2⟩:=hlim;⟨mc,nsK h1,h2⟩⟩
  have e0:Zie P w K mg (Zcb s₁.heap H) callerA [] s₁ H:=⟨rfl,hM,fun b o e=>ZeV e,Z7t (Z9E _ _),trivial,fun b hb=>absurd (show b∈([]:List Addr) from hb) (by simp),hok,.of_eq hg⟩
  refine BY ((F _ hKb (nsK hns)).run callerA [] s₁ H ⟨[.ref a],[]⟩ [.ref a] [.ref a] _ _ hr e0 (hbind s₁ (.ref a)) (.cons rfl .nil) (hsp H hO hS)) fun r s' h=>?_
  cases r with
  |error e=>exact (hCX H e s' h).elim
  |ok fl =>
   cases fl with
   |next=>exact Nw h
   |brk=>exact Nw h
   |cont=>exact Nw h
   |ret u =>
    obtain⟨v,H',os,bare,un,hok',r',q⟩:=h
    have q':v=.bl true:=q
    subst q'
    obtain rfl:u=Z3F true:=r'
    refine⟨rfl,OldK.of_keep fun b o e=>?_,os,bare⟩
    cases q:H b with
    |none=>exact un.keep b o e q (by intro z;exact absurd (show b∈([]:List Addr) from z) (by simp)) (by simp)
    |some u =>
     rcases hO b with z|⟨ob,xs,z⟩
     ·rw[q] at z;cases z
     ·have z2:=un.frzs b ob _ z
      obtain⟨e1,_⟩:=hok b _ z
      obtain⟨e2,_⟩:=hok' b _ z2
      rw[e] at e1;cases e1
      exact e2
 cases hk:K.lookup a with
 |some o =>
  have e:=KX a o hk
  rw[ha] at e
  cases e
  refine core (fun _=>none) (fun _=>.inl rfl) (.inr ⟨_,vs.toArray,_,hk,rfl,rfl,rfl,by rw[Zk,lenV];exact hl,by simpa using rv⟩) (fun b u z=>by have z':(none:Option HO)=some u:=z;cases z') (fun b z=>absurd rfl z) fun z=>absurd rfl z
 |none =>
  refine core (fun b=>if b=a then some (.frz { cls:=.type "list",data:=.seq vs.toArray } (.lst (ns.map V.int))) else none) (fun b=>?_) (.inl (.inr ⟨{ cls:=.type "list",data:=.seq vs.toArray },if_pos rfl⟩)) (fun b u z=>?_) (fun b z=>?_) fun _=>hk
  ·by_cases hb:b=a
   ·exact .inr ⟨_,_,if_pos hb⟩
   ·exact .inl (if_neg hb)
  ·by_cases hb:b=a
   ·have z':=(if_pos hb).symm.trans z
    cases z'
    subst hb
    exact⟨ha,by rw[Z3];exact hl,vs,_,rv,ha⟩
   ·have z':=(if_neg hb).symm.trans z
    cases z'
  ·by_cases hb:b=a
   ·exact hb
   ·exact absurd (if_neg hb) z
noncomputable abbrev KOf {K:Fg_}{h:Heap}(_:K.In h):Fg_:=K
theorem walk_of {l:CS}{n k:Nat}{q:Program}{loose:Ls_}{XP:(Str→Option Value)→Heap→Prop}{YP:World→Heap→Prop}{d:DefRec}{K:Params→Fg_}{CX:World→CXT}{sp:World→Sp}{x:Str}
  (hn:l.most=some n) (hn2:n≤sizeLine) (hdf:d.params.defaults=[]) (hr:GZ k callerA)
  (hY:∀ (w:World) (h:Heap),YP w h→(K w.params).In h)
  (F:∀ (w:World) (mg:Str→Option Value) (fa:Addr) (h:Heap),(K w.params).In h→h.Ns mainGlobals mg→mg d.name=some (.ref fa) →
   ∃ fd:Jj,(∀ (s:Shared) (u:Value),BindsTo s fd ⟨[u],[]⟩ [(x,u)]) ∧
    ∀ base:Heap,(K w.params).In base→base.Ns mainGlobals mg→Mw l.prog w (K w.params) mg base (CX w) k fa fd [x] (sp w))
  (hsp:∀ (w:World) (H:Hp) (a:Addr) (ns:List Int),ns.length≤n→Zje H→SqL (K w.params) H a (ns.map V.int)→sp w [.ref a] H (fun v _=>v=.bl true) fun _ _ _=>False)
  (hCX:∀ (w:World) (H:Hp) (s:Shared) (e:Value) (s':Shared),CX w [] H s (fun _ _ _=>False) e s'→False) :
  Zdu q loose XP YP l.row.toRowW d [] (fun f vs=>Zat f vs):=by
 refine Att.attach_call hn hdf fun w s₀ s₁ mg mb fa o pm cd doc a vs ns G Y ho hd hcd hmg hobj hints hlen hg=>?_
 have KX:=hY w _ Y
 obtain⟨fd,hb,hF⟩:=F w mg fa _ KX G.T.g hmg
 exact Zc5 KX G.T.g G.T.b G.T.builtins G.T.nolimit hg hobj hints (Zz hlen hn2) hr hF hb (fun H hO hS=>hsp w H a ns hlen hO hS) fun H e s'=>hCX w H s₁ e s'
noncomputable def Y6 (s:Stmt):Arguments:=match s with
 |.FunctionDef _ a _ _ _ _ _ _ _ _=>a
 |_=>{ posonlyargs:=[],args:=[],vararg:=none,kwonlyargs:=[],kw_defaults:=[],kwarg:=none,defaults:=[] }
noncomputable def JV (s:Stmt):List Stmt:=match s with
 |.FunctionDef _ _ b _ _ _ _ _ _ _=>b
 |_=>[]
noncomputable def Zy (s:Stmt):Scope:=match s with
 |.FunctionDef _ _ _ _ _ _ sc _ _ _=>sc
 |_=>{ kind:=.function,names:=[],isGenerator:=false,isCoroutine:=false }
abbrev CX0:CXT:=fun _ _ _ _ _ _=>False
abbrev E0:XK:=fun _ _ _=>False
theorem Zh0 {X:Cx}:Zag CX0 X E0:=fun _ _ _ _ _ _ _ h=>h.elim
structure Fun (K:Fg_)(x qual:Str)(st:Stmt)(f:Addr)(fd:Jj):Prop where
 ex:∃ (oc:Value) (od:Option Addr) (kV doc pm:Value) (an:Option Addr) (cdv ct:Value) (osl:Array (Option Value)),
  fd=ZR x qual (Y6 st) (JV st) (Zy st) .none kV doc pm an cdv ct∧K.lookup f=some ⟨oc,od,.func fd,osl⟩∧ZN K cdv qual=true
 kp:ZL K (.ref f)=true
section
variable {P:Program}{w:World}{K:Fg_}{mg:Str→Option Value}{base:Heap}
theorem Fun.ok {x qual:Str}{st:Stmt}{f:Addr}{fd:Jj}{N ps:Ls_}{k:Nat}{sp:Sp}(F:Fun K x qual st f fd)(S:Y8 N ps (Zy st))(len:∀ vs H Q E,sp vs H Q E→vs.length=ps.length)
  (hbody:∀ (cdv:Value) (A:Around) (outer:List Env) (s:Shared) (H:Hp) (vs:Lv_) (Q:VK) (E:XK),GZ k (A.deeper (envOfC qual (Zy st) s.heap.objs.size f cdv))→sp vs H Q E →
   ∃ t,PSs (Zdl CX0 P w K mg base N qual (Zy st) f cdv A outer s H E).nox (JV st) t∧t { nx:=fun _ H'=>Q .non H',rt:=Q } (start N vs) H):Mw P w K mg base CX0 (k+1) f fd ps sp:=by
 obtain⟨oc,od,kV,doc,pm,an,cdv,ct,osl,rfl,lk,hcd⟩:=F.ex
 refine Zj5 lk hcd S len fun A outer s H vs Q E hr hsp=>?_
 obtain⟨t,h,q⟩:=hbody cdv A outer s H vs Q E hr hsp
 exact⟨t,h.nox,q⟩
theorem Fun.binds {x qual:Str}{st:Stmt}{f:Addr}{fd:Jj}{ps:Ls_}(F:Fun K x qual st f fd)
  (h:∀ (kV doc pm:Value) (an:Option Addr) (cdv ct:Value) (us:Lu_),us.length=ps.length→bindArgs (ZR x qual (Y6 st) (JV st) (Zy st) .none kV doc pm an cdv ct) ⟨us,[]⟩=pure (ps.zip us)):Binds K fd ps []:=by
 obtain⟨oc,od,kV,doc,pm,an,cdv,ct,osl,rfl,lk,hcd⟩:=F.ex
 exact .all (h kV doc pm an cdv ct)
theorem Uu {x qual:Str}{st:Stmt}{f:Addr}{oc:Value}{od an:Option Addr}{osl:Array (Option Value)}{kV doc pm cdv ct:Value}(l:K.lookup f=some ⟨oc,od,.func (ZR x qual (Y6 st) (JV st) (Zy st) .none kV doc pm an cdv ct),osl⟩)
  (c:ZN K cdv qual=true) (k:ZL K (.ref f)=true):Fun K x qual st f (ZR x qual (Y6 st) (JV st) (Zy st) .none kV doc pm an cdv ct):=⟨⟨oc,od,kV,doc,pm,an,cdv,ct,osl,rfl,l,c⟩,k⟩
end
theorem Zhx {A:Around}{k:Nat}(hr:GZ k A):A.units+1<cLine:=UL (Zaw (by decide:1≤64) _) hr.units
def Jq (H H':Hp):Prop:=∀ b o,H b=some o→H' b=some o
theorem Jq.refl (H:Hp):Jq H H:=fun _ _ h=>h
theorem Jq.trans {H H1 H2:Hp}(a:Jq H H1)(b:Jq H1 H2):Jq H H2:=fun c o h=>b c o (a c o h)
theorem Jq.free {H H':Hp}(e:Jq H H'){l:Addr}(h:H' l=ZhK):H l=ZhK:=by
 cases q:H l with
 |none=>rfl
 |some o =>
  rw[e l o q] at h
  cases h
theorem Jq.seq {K:Fg_}{H H':Hp}{a:Addr}{xs:Lv_}(e:Jq H H')(h:SqL K H a xs):SqL K H' a xs:=by
 rcases h with (h|⟨o,h⟩)|h
 ·exact .inl (.inl (e _ _ h))
 ·exact .inl (.inr ⟨o,e _ _ h⟩)
 ·exact .inr h
section
variable {X:Cx}{pins:Pn_}{σ:St}{H:Hp}{s:Shared}
theorem Inv.track {a:Addr}{o:HO}(I:Inv X pins σ H s)(hn:H a=none)(h0:X.s₀.heap.objs.size≤a)(hL:a≠X.env.locals)
  (hc:∀ x c,X.env.cells.lookup x=some c→c≠a) (hp:∀ p∈X.pn++pins,p.1≠a) (new:MD X.prog X.w (upd H a o) s.heap a o):Inv X pins σ (upd H a o) s:=by
 have sm:∀ b u,H b=some u→upd H a o b=some u:=fun b u e=>by rw[YA (GE e hn)];exact e
 have nb:∀ b,b≠a→H b=none→upd H a o b=none:=fun b hb e=>by rw[YA hb];exact e
 refine⟨I.ok,I.os,I.bare,⟨I.base.keep,I.base.slot,fun b ob e n hx=>?_,I.base.there,fun b xs e=>sm _ _ (I.base.tups b xs e),fun b ob u e=>sm _ _ (I.base.frzs b ob u e),fun b ps e=>?_⟩,I.loc,I.cell,nb _ (GR hL) I.free,fun x c e=>nb _ (hc x c e) (I.freeC x c e),fun p h=>?_,fun b u e=>?_,I.len⟩
 ·exact nb b (ZI (ZO (ZB e) h0)) (I.base.free b ob e n hx)
 ·obtain⟨more,q⟩:=I.base.tbls b ps e
  exact⟨more,sm _ _ q⟩
 ·obtain⟨e,n,r⟩:=I.pin p h
  exact⟨e,nb _ (hp p h) n,r⟩
 ·by_cases hb:b=a
  ·subst hb;rw[JB] at e;cases e;exact new
  ·rw[YA hb] at e
   exact (I.hok b u e).stay (fun _ _ _ q=>q) (fun c q=>sm _ _ q) fun c xs q=>sm _ _ q
end
def Zim:TT:=fun _ H Q=>Q true H
def PIf (X:Cx)(ifs:Le_)(t:TT):Prop :=
 ∀ (pins:Pn_) (s:Shared) (σ:St) (H:Hp) (Q:Bool→Hp→Prop),Inv X pins σ H s→t σ H Q →
  wpAny (model X.prog X.w) X.A (forIn ifs true fun c r=>if r=true then do let ok ← isTrue c X.env (eval c X.env);pure (Uc ok) else pure (Uc r)) (TP X pins σ Q) X.xe s
theorem Zed {X:Cx}:PIf X [] Zim:=fun _ _ _ H _ I h=>wpAny_tests_nil ⟨H,I,h⟩
theorem Zec {X:Cx}{c:Expr}{t:TT}(h:PT X c t):PIf X [c] t:=fun pins s σ H Q I q=>wpAny_tests_one (h pins s σ H Q I q)
section
variable {prog:Program}{w:World}{A:Around}{R:Result→Shared→Prop}{s:Shared}
theorem Z4R {elt target iter:Expr}{ifs:Le_}{scope:Scope}{pos:Pos}{it acc:Value}{env:Env}(I:Nat→Shared→Prop)
  (turn:∀ n s,I n s→wpAny (model prog w) A (pyNext it) (fun r s₁=>match r with
   |none=>R (.ok .next) s₁
   |some v=>wpAny (model prog w) A (letOwnedTupleGo target it v) (fun _ s₀=>wpAny (model prog w) A (assign target env v) (fun _ s₂ =>
     wpAny (model prog w) A (forIn ifs true fun c r=>if r=true then do let ok ← isTrue c env (eval c env);pure (Uc ok) else pure (Uc r)) (fun ok s₃ =>
      if ok=true then wpAny (model prog w) A (eval elt env) (fun x s₄ =>
       wpAny (model prog w) A (call (.builtin "list.append") [acc,x]) (fun _ s₅=>∃ m,m<n∧I m s₅) (fun _ _=>False) s₄) (fun _ _=>False) s₃
      else ∃ m,m<n∧I m s₃) (fun _ _=>False) s₂) (fun _ _=>False) s₀) (fun _ _=>False) s₁) (fun _ _=>False) s)
  (n:Nat) (h:I n s) :
  codeAny (model prog w) A (.compLoop (.ListComp elt [⟨target,iter,ifs,0⟩] scope pos) 0 it acc env) R s:=by
 refine codeAny_loop rfl I (fun n s hI=>?_) n h
 show wpAny _ A ((compTurn (.ListComp elt [⟨target,iter,ifs,0⟩] scope pos) 0 it acc env).onRaise (fun x=>do noteFrame x env;theTreesLotGoes x)) _ _ s
 refine wpAny_noted ?_
 rw[compTurn_list]
 refine Z0 (Zk7 (Z0 (JP (turn n s hI) (fun r s₁ h₁=>?_) fun _ _ f=>f.elim)))
 cases r with
 |none=>exact Z5 h₁
 |some v =>
  refine Z0 (JP h₁ (fun _ s₀ h₀=>?_) fun _ _ f=>f.elim)
  refine Z0 (JP h₀ (fun _ s₂ h₂=>Z0 (JP h₂ (fun ok s₃ h₃=>?_) fun _ _ f=>f.elim)) fun _ _ f=>f.elim)
  cases ok with
  |false=>exact Z5 ⟨rfl,h₃⟩
  |true =>
   exact Z0 (Z0 (JP h₃ (fun x s₄ h₄=>Z0 (JP h₄ (fun _ s₅ h₅=>Z5 (Z5 ⟨rfl,h₅⟩)) fun _ _ f=>f.elim)) fun _ _ f=>f.elim))
end
noncomputable def cxC (X:Cx)(ts:Ls_)(scope:Scope)(cl:List (Str×Addr))(s₂:Shared)(H1:Hp)(C:Addr)(fp:List Addr):Cx :=
 { X with N:=ts++X.N,s₀:=s₂,H₀:=H1,env:=compEnvC scope cl C X.env,outer:=X.stack,stack:=X.stack,ex:=fp,fn:=fun _=>false,pn:=[],xe:=fun _ _=>False }
structure Yn (X:Cx)(ts:Ls_)(scope:Scope):Prop where
 kind:scope.kind=.function
 cell:∀ y∈scope.names,y.2≠.cell
 names:∀ y∈scope.names,y.2=.local→scope.names.lookup y.1=some .local
 free:∀ y∈scope.names,y.2=.free→X.env.kindOf y.1=some .cell∨X.env.kindOf y.1=some .free
 own:∀ y∈X.N,scope.names.lookup y≠some .local
structure B7 (X:Cx)(scope:Scope)(cl:List (Str×Addr)):Prop where
 sub:∀ x c,cl.lookup x=some c→X.env.cells.lookup x=some c
 has:∀ x,scope.names.lookup x=some .free→∃ c,cl.lookup x=some c
theorem Z75 {env:Env}(has:∀ x,(env.kindOf x=some .cell∨env.kindOf x=some .free)→∃ c,env.cells.lookup x=some c)(scope:Scope)
  (hfr:∀ y∈scope.names,y.2=.free→env.kindOf y.1=some .cell∨env.kindOf y.1=some .free) :
  ∃ cl,closureFor scope env=pure cl∧(∀ x c,cl.lookup x=some c→env.cells.lookup x=some c)∧(∀ y∈scope.names,y.2=.free→∃ c,cl.lookup y.1=some c):=by
 have main:∀ (l:List (Str×UJ)) (acc:List (Str×Addr)),(∀ y∈l,y.2=.free→env.kindOf y.1=some .cell∨env.kindOf y.1=some .free)→(∀ x c,acc.lookup x=some c→env.cells.lookup x=some c) →
   ∃ cl,(forIn l acc fun (x:Str×UJ) (cs:List (Str×Addr))=>if (x.2 == GG)=true then do let a ← cellOf env x.1;pure (Uc ((x.1,a)::cs)) else pure (Uc cs))=(pure cl:Sem (List (Str×Addr))) ∧
    (∀ x c,cl.lookup x=some c→env.cells.lookup x=some c)∧(∀ x c,acc.lookup x=some c→∃ c',cl.lookup x=some c')∧(∀ y∈l,y.2=.free→∃ c,cl.lookup y.1=some c):=by
  intro l
  induction l with
  |nil=>intro acc _ h;exact⟨acc,rfl,h,fun x c e=>⟨c,e⟩,fun _ z=>nomatch z⟩
  |cons y l ih =>
   intro acc hl ha
   obtain⟨n,k⟩:=y
   by_cases hk:k=.free
   ·subst hk
    obtain⟨c,hc⟩:=has n (hl (n,.free) Z1 rfl)
    obtain⟨cl,e,h1,h2,h3⟩:=ih ((n,c)::acc) (fun y hy=>hl y (Z4 _ hy)) (fun x d e=>by
     rw[Y9] at e
     cases q:x == n with
     |true=>rw[q] at e;rw[eq_of_beq q];cases e;exact hc
     |false=>rw[q] at e;exact ha x d e)
    have hcell:cellOf env n=pure c:=by unfold cellOf;rw[hc]
    refine⟨cl,?_,h1,fun x d e=>?_,fun y hy hf=>?_⟩
    ·rw[MZ]
     simp only[beq_self_eq_true,if_true,hcell,pure_bind]
     exact e
    ·cases q:x == n with
     |true=>exact h2 x c (by rw[Y9,q])
     |false=>exact h2 x d (by rw[Y9,q];exact e)
    ·rcases Zp.mp hy with rfl|hy
     ·exact h2 n c (by simp[Y9])
     ·exact h3 y hy hf
   ·obtain⟨cl,e,h1,h2,h3⟩:=ih acc (fun y hy=>hl y (Z4 _ hy)) ha
    refine⟨cl,?_,h1,h2,fun y hy hf=>?_⟩
    ·rw[MZ]
     have hb:(k == GG)=false:=by simpa using hk
     simp only[hb,Zj,if_false,pure_bind]
     exact e
    ·rcases Zp.mp hy with rfl|hy
     ·exact absurd hf hk
     ·exact h3 y hy hf
 obtain⟨cl,e,h1,_,h3⟩:=main scope.names [] hfr (fun x c e=>by simp at e)
 refine⟨cl,?_,h1,h3⟩
 unfold closureFor
 first
  |(simp only[bind_pure];exact e)
  |(rw[show (forIn scope.names [] _:Sem (List (Str×Addr)))=pure cl from e];rfl)
theorem Yk {env:Env}:∀ {names:List (Str×UJ)} {x:Str} {k:UJ},
  (names.map fun (n,k)=>if (k == GG&&env.scope.kind == .function&&env.kindOf n == some .cell) then (n,B6) else (n,k)).lookup x=some k →
  names.lookup x=some k∨(k=.cell∧names.lookup x=some .free)
 |[],_,_,h=>by simp at h
 |(n,j)::r,x,k,h=>by
  have ih:=@Yk env r x k
  have h':Zjh x ((if (j == GG&&env.scope.kind == .function&&env.kindOf n == some .cell)=true then (n,B6) else (n,j)) ::
   (r.map fun (n,k)=>if (k == GG&&env.scope.kind == .function&&env.kindOf n == some .cell) then (n,B6) else (n,k)))=some k:=h
  cases hx:x == n with
  |true =>
   by_cases hc:(j == GG&&env.scope.kind == .function&&env.kindOf n == some .cell)=true
   ·rw[if_pos hc] at h'
    simp only[Y9,hx] at h'
    cases h'
    refine .inr ⟨rfl,?_⟩
    simp only[ZX,beq_iff_eq] at hc
    simp[Y9,hx,hc.1.1]
   ·rw[if_neg hc] at h'
    simp only[Y9,hx] at h'
    cases h'
    exact .inl (by simp[Y9,hx])
  |false =>
   have e:Zjh x (r.map fun (n,k)=>if (k == GG&&env.scope.kind == .function&&env.kindOf n == some .cell) then (n,B6) else (n,k))=some k:=by
    by_cases hc:(j == GG&&env.scope.kind == .function&&env.kindOf n == some .cell)=true
    ·rw[if_pos hc] at h';simp only[Y9,hx] at h';exact h'
    ·rw[if_neg hc] at h';simp only[Y9,hx] at h';exact h'
   rcases ih e with q|⟨q1,q2⟩
   ·exact .inl (by simp only[Y9,hx];exact q)
   ·exact .inr ⟨q1,by simp only[Y9,hx];exact q2⟩
section
variable {X:Cx}{pins:Pn_}{σ:St}{H1:Hp}{s₂:Shared}{ts:Ls_}{scope:Scope}{cl:List (Str×Addr)}{fp:List Addr}{C:Addr}
theorem Inv.fpLt {tg:Expr}{J:It}{it:Addr}{tn:Nat→Heap→Prop}(T:Zct X.prog X.w X.K tg J fp it tn){i:Nat}{h:Heap}(st:tn i h):∀ b∈fp,b<h.objs.size:=fun b hb=>by
 obtain⟨o,e,_⟩:=T.obj i h st b hb
 exact ZB e
theorem ZhE (I2:Inv X pins σ H1 s₂)(S:Yn X ts scope)(L:B7 X scope cl)(hf:∀ b∈fp,Z6m X pins H1 b)(hlt:∀ b∈fp,b<s₂.heap.objs.size)(hC:s₂.heap.objs.size≤C) :
  (cxC X ts scope cl s₂ H1 C fp).Ok where
 mod:=I2.ok.mod
 kind:=S.kind
 glob:=I2.ok.glob
 blt:=I2.ok.blt
 above:=hC
 inj:=fun x y c h1 h2=>I2.ok.inj x y c (L.sub x c h1) (L.sub y c h2)
 has:=fun x hx=>by
  have hx':(relabel scope X.env).names.lookup x=some .cell∨(relabel scope X.env).names.lookup x=some .free:=hx
  have key:scope.names.lookup x=some .free:=by
   rcases hx' with q|q
   ·rcases Yk q with z|⟨_,z⟩
    ·exact absurd rfl (S.cell _ (Yo z))
    ·exact z
   ·rcases Yk q with z|⟨z,_⟩
    ·exact z
    ·cases z
  exact L.has x key
 cab:=fun x c h=>by cases h
 hd:=I2.ok.hd
 frames:=I2.ok.frames
 stk:=.inl rfl
 exf:=fun b hb=>⟨ZI (ZO (hlt b hb) hC),fun x c e=>(hf b hb).2.2.2.2.1 x c (L.sub x c e)⟩
 bs:=I2.bs
 bsz:=Zz I2.ok.bsz I2.sz
 noex:=fun b o e hb=>by
  rcases (hf b hb).2.2.2.1 with z|z
  ·exact I2.ok.noex b o e z
  ·exact absurd (ZO (ZB e) (Zz I2.ok.bsz z)) (YG _)
 exfs:=fun b hb hz=>by
  rcases Zp.mp (I2.stkSub b hz) with z|z
  ·exact (hf b hb).2.1 z
  ·exact (hf b hb).2.2.1 z
 funs:=I2.stack
 frf:=I2.stkFree
theorem Zfp {h₁:Heap}{t₁:Nat}{m:Str→Option Value}(I2:Inv X pins σ H1 s₂)(S:Yn X ts scope)(L:B7 X scope cl)(hf:∀ b∈fp,Z6m X pins H1 b)(hlt:∀ b∈fp,b<s₂.heap.objs.size)
  (hC:s₂.heap.objs.size≤C) (old:∀ b o,s₂.heap.get? b=some o→h₁.get? b=some o) (hn:h₁.Ns C m) :
  Inv (cxC X ts scope cl s₂ H1 C fp) [] (Zn ts.length none++σ) H1 { s₂ with heap:=h₁,toks:=t₁ } where
 ok:=ZhE I2 S L hf hlt hC
 os:=rfl
 bare:=I2.bare
 base:=Un.kept old
 loc:=by
  refine⟨m,hn,fun i x v h1 h2 h3=>?_⟩
  have hi:ts.length≤i:=by
   by_cases hi:i<ts.length
   ·rw[ZU (by simpa using hi),JS,if_pos hi] at h2
    cases h2
   ·exact Yp ‹_›
  rw[ZD (by simpa using hi),Y7] at h2
  have h1':(ts++X.N)[i]?=some x:=h1
  rw[ZD hi] at h1'
  have hxN:x∈X.N:=ZZ h1'
  have hv:(relabel scope X.env).names.lookup x=some .local∨(relabel scope X.env).names.lookup x=some .cell∨(relabel scope X.env).names.lookup x=some .free:=h3
  have key:scope.names.lookup x=some .free:=by
   rcases hv with q|q|q
   ·rcases Yk q with z|⟨z,_⟩
    ·exact absurd z (S.own x hxN)
    ·cases z
   ·rcases Yk q with z|⟨_,z⟩
    ·exact absurd rfl (S.cell _ (Yo z))
    ·exact z
   ·rcases Yk q with z|⟨z,_⟩
    ·exact z
    ·cases z
  have kk:X.env.kindOf x=some .cell∨X.env.kindOf x=some .free:=S.free _ (Yo key) rfl
  obtain⟨mX,_,hl⟩:=I2.loc
  obtain⟨u,r,lk⟩:=hl (i-ts.length) x v h1' h2 (kk.elim (fun z=>.inr (.inl z)) fun z=>.inr (.inr z))
  refine⟨u,r,.inr ⟨?_,?_⟩⟩
  ·rcases hv with q|q
   ·rcases Yk q with z|⟨z,_⟩
    ·exact absurd z (S.own x hxN)
    ·cases z
   ·exact q
  ·obtain⟨c,hc⟩:=L.has x key
   refine⟨c,hc,?_⟩
   rcases lk with ⟨z,_⟩|⟨_,c',e',o,ho,hd⟩
   ·rcases kk with k|k <;> (rw[z] at k;cases k)
   ·have e2:=L.sub x c hc
    rw[e2] at e'
    cases e'
    exact⟨o,old _ _ ho,hd⟩
 cell:=fun x c e=>by
  obtain⟨v,o,ho,hd⟩:=I2.cell x c (L.sub x c e)
  exact⟨v,o,old _ _ ho,hd⟩
 free:=I2.hok.fresh hC
 freeC:=fun x c e=>I2.freeC x c (L.sub x c e)
 pin:=fun p hp=>absurd (show p∈([]:Pn_) from hp) (by simp)
 hok:=I2.hok.kept old
 len:=by
  show _=(ts++X.N).length
  rw[Zf,Zf,Y7,I2.len]
theorem Za8 {pins':Pn_}{σ':St}{H':Hp}{s':Shared}{h':Heap}(I2:Inv X pins σ H1 s₂)(hf:∀ b∈fp,Z6m X pins H1 b)(hC:s₂.heap.objs.size≤C)
  (Ic:Inv (cxC X ts scope cl s₂ H1 C fp) pins' σ' H' s') (hs:Jl C s'.heap h'):Inv X pins σ H' { s' with heap:=h' }:=by
 have nC:∀ b o,s₂.heap.get? b=some o→b≠C:=fun b o e=>ZI (ZO (ZB e) hC)
 have u:=Ic.base
 have un:Un (frs X.stack) fp H1 H' s₂.heap h' :=
  ⟨fun b o e n hb hx=>(hs.2 b (nC b o e)).trans (u.keep b o e n hb hx),fun b o e n hb hx=>by
    obtain⟨sl,q⟩:=u.slot b o e n hb hx
    exact⟨sl,(hs.2 b (nC b o e)).trans q⟩,u.free,fun b o e hx=>by
    obtain⟨o',q⟩:=u.there b o e hx
    exact⟨o',(hs.2 b (nC b o e)).trans q⟩,u.tups,u.frzs,u.tbls⟩
 have hok:HOk X.prog X.w H' h':=fun b o e=>by
  have nb:∀ c w,H' c=some w→c≠C:=fun c w q z=>by
   have:H' C=none:=Ic.free
   rw[z,this] at q;cases q
  refine (Ic.hok b o e).stay (fun c w' hc q=>(hs.2 c ?_).trans q) (fun _ q=>q) fun _ _ q=>q
  rcases hc with rfl|hc
  ·exact nb _ _ e
  ·exact nb _ _ hc
 exact I2.call' (s':={ s' with heap:=h' }) (ch:=fp) (show s'.os=s₂.os from Ic.os) un hok Ic.bare fun b hb =>
  let ⟨_,f1,_,f3,f4,f5⟩:=hf b hb
  ⟨f3,f1,f4,f5⟩
end
noncomputable abbrev Z6R (its:Lu_) (k:Nat):Obj:={ cls:=.type "list",data:=.seq its.toArray k }
theorem Z0H {X:Cx}{pins:Pn_}{σ:St}{H1:Hp}{s₂:Shared}{ts:Ls_}{scope:Scope}{cl:List (Str×Addr)}{fp:List Addr}{elt tg iter:Expr}{ifs:Le_}{pos:Pos}{g:TG}{tt:TT}{te:TE}{J:It}{it:Addr}
  {tn:Nat→Heap→Prop} {E:Ps_} {RR:Value→Addr→Result→Shared→Prop} {Fin:Lv_→Hp→Prop}
  (I2:Inv X pins σ H1 s₂) (hc:X.calm=true) (T:Zct X.prog X.w X.K tg J fp it tn) (st:tn 0 s₂.heap) (hf:∀ b∈fp,Z6m X pins H1 b) (S:Yn X ts scope) (L:B7 X scope cl)
  (hg:∀ C,PG (cxC X ts scope cl s₂ H1 C fp) tg g) (ht:∀ C,PIf (cxC X ts scope cl s₂ H1 C fp) ifs tt) (he:∀ C,PE (cxC X ts scope cl s₂ H1 C fp) elt te)
  (W:Nat→Nat→Lv_→Hp→Prop) (w0:∃ m,W 0 m [] H1)
  (turn:∀ i m ys H,W i m ys H→ys.length≤sizeLine∧((J.stop i H∧Fin ys H)∨(J.go i H∧∀ x H',J.yld i H x H'→g x (Zn ts.length none++σ) H' fun σ2 H2=>(σ2.length=ts.length+σ.length∧σ2.drop ts.length=σ) ∧
   tt σ2 H2 fun c H3=>if c=true then te σ2 H3 fun y H4=>∃ m',m'<m∧W (i+1) m' (ys++[y]) H4 else ∃ m',m'<m∧W (i+1) m' ys H3)))
  (hRR:∀ C D s' H' ys its k σ' m',s₂.heap.objs.size≤D→s₂.heap.objs.size≤C→D≠C→Inv (cxC X ts scope cl s₂ H1 C fp) [] σ' H' s'→s'.heap.Ns C m'→s'.heap.get? D=some (Z6R its k)→Uj ys its→ys.length≤sizeLine→H' D=none→Fin ys H'→RR (.ref D) C (.ok .next) s') :
  wpAny (model X.prog X.w) X.A (newList []) (fun acc s₃=>wpAny (model X.prog X.w) X.A (newFunctionEnv scope X.env.globals cl [] X.env.qual none .none (some X.env)) (fun cenv s₄ =>
   codeAny (model X.prog X.w) X.A (.compStart (.ListComp elt [⟨tg,iter,ifs,0⟩] scope pos) 0 (.ref it) acc { cenv with scope:=relabel scope X.env }) (RR acc cenv.locals) s₄) E s₃) E s₂:=by
 refine JC (wpAny_newFunctionEnv S.cell (by intro y hy;simp at hy) (fun h₁ hns₁ hsb₁=>?_) S.kind)
 dsimp only at hns₁ hsb₁ ⊢
 generalize hH2:s₂.heap.push { cls:=.type "list",dict:=none,data:=.seq ([]:Lu_).toArray }=H2 at hns₁ hsb₁ ⊢
 have hCs:H2.objs.size=s₂.heap.objs.size+1:=by rw[← hH2,Nj]
 have hDC:s₂.heap.objs.size≠H2.objs.size:=by rw[hCs];exact ZI (U9 _)
 have hC:s₂.heap.objs.size≤H2.objs.size:=by rw[hCs];exact UU _
 have below:∀ b,b<s₂.heap.objs.size→b≠H2.objs.size∧b≠s₂.heap.objs.size:=fun b hb=>⟨by rw[hCs];exact ZI (Yg hb),ZI hb⟩
 have old:∀ b o,s₂.heap.get? b=some o→h₁.get? b=some o:=fun b o e=>hsb₁.extBut b o (below b (ZB e)).1 (Z2 _ (hH2 ▸ Z2 _ e))
 have hacc:h₁.get? s₂.heap.objs.size=some (Z6R [] 0):=hsb₁.extBut _ _ hDC (Z2 _ (hH2 ▸ Zu _ rfl))
 have hlt:∀ b∈fp,b<s₂.heap.objs.size:=Inv.fpLt T st
 have st1:tn 0 h₁:=T.keep _ _ _ st fun b _ o e=>old b o e
 generalize hCC:H2.objs.size=C at *
 generalize hDD:s₂.heap.objs.size=D at *
 have fpD:∀ b∈fp,b≠D:=fun b hb=>(below b (hlt b hb)).2
 have cellD:∀ x c,cl.lookup x=some c→c≠D:=fun x c e=>by
  obtain⟨v,q⟩:=I2.cell x c (L.sub x c e)
  exact (below c (hDD ▸ q.lt)).2
 have stat:∀ {pins':Pn_} {H':Hp},(∀ p∈pins',p.1∉fp)→(∀ b∈fp,H' b=none)→∀ b∈fp,Z6m (cxC X ts scope cl s₂ H1 C fp) pins' H' b:=fun {pins' H'} hp hn b hb=>by
  refine⟨hn b hb,(below b (hlt b hb)).1,fun hz=>?_,.inl hb,fun x c e=>(hf b hb).2.2.2.2.1 x c (L.sub x c e),fun p hpp z=>?_⟩
  ·rcases Zp.mp (I2.stkSub b hz) with z|z
   ·exact (hf b hb).2.1 z
   ·exact (hf b hb).2.2.1 z
  ·exact hp p (by simpa [cxC] using hpp) (z ▸ hb)
 obtain⟨m0,w0⟩:=w0
 have nDfs:D∉frs X.stack:=fun hz=>by
  rcases Zp.mp (I2.stkSub D hz) with z|z
  ·exact (below _ (hDD ▸ I2.lt)).2 z.symm
  ·exact I2.nofs (hDD ▸ Zc _) z
 have loop:∀ s₃:Shared,s₃={ s₂ with heap:=h₁,toks:=s₂.toks+([]:List (Str×Value)).length } →
   codeAny (model X.prog X.w) X.A (.compLoop (.ListComp elt [⟨tg,iter,ifs,0⟩] scope pos) 0 (.ref it) (.ref D) (compEnvC scope cl C X.env)) (RR (.ref D) C) s₃:=by
  rintro s₃ rfl
  refine Z4R (fun n s'=>∃ i ys its k H',Inv (cxC X ts scope cl s₂ H1 C fp) [] (Zn ts.length none++σ) H' s'∧tn i s'.heap∧(∀ b∈fp,H' b=none)∧s'.heap.get? D=some (Z6R its k)∧Uj ys its∧H' D=none∧W i n ys H') ?_ m0
   ⟨0,[],[],0,H1,Zfp I2 S L hf (fun b hb=>hDD ▸ hlt b hb) (hDD ▸ hC) old hns₁,st1,fun b hb=>(hf b hb).1,hacc,.nil,I2.hok.fresh (hDD ▸ Zc _),w0⟩
  rintro n s3 ⟨i,ys,its,k,H3,I3,st3,fr3,hD3,rv3,nD3,w3⟩
  have pinD:∀ {σ':St} {H':Hp} {s':Shared},Inv (cxC X ts scope cl s₂ H1 C fp) [] σ' H' s'→s'.heap.get? D=some (Z6R its k)→H' D=none→Inv (cxC X ts scope cl s₂ H1 C fp) [(D,Z6R its k)] σ' H' s':=fun I e n=>I.pins_of fun p hp=>by
   have:p=(D,Z6R its k):=by simpa using hp
   subst this
   exact⟨e,n,hDC,nDfs,fun v z=>by cases z⟩
  have I3':=pinD I3 hD3 nD3
  have pfp:∀ p∈[(D,Z6R its k)],p.1∉fp:=fun p hp hz=>by
   have:p=(D,Z6R its k):=by simpa using hp
   subst this
   exact fpD D hz rfl
  obtain⟨hz,alt⟩:=turn i n ys H3 w3
  rcases alt with ⟨stop,fin⟩|⟨go,step⟩
  ·refine thn (T.done (cxC X ts scope cl s₂ H1 C fp) rfl rfl rfl hc i _ s3 _ H3 _ I3' (stat pfp fr3) st3 stop) fun r s4 z1_=>?_
   obtain ⟨hr,I4⟩:=z1_
   subst hr
   obtain⟨e4,n4,_⟩:=I4.pin (D,Z6R its k) (ZH _ Z1)
   obtain⟨m4,hn4,_⟩:=I4.loc
   exact hRR C D s4 H3 ys its k _ m4 (hDD ▸ Zc _) (hDD ▸ hC) hDC (I4.pins_of fun p hp=>nomatch hp) hn4 e4 rv3 hz n4 fin
  ·refine thn (T.item (cxC X ts scope cl s₂ H1 C fp) rfl rfl rfl hc i _ s3 _ H3 _ I3' (stat pfp fr3) st3 go) fun r s4 z1_=>?_
   obtain ⟨u,hr,h4⟩:=z1_
   subst hr
   refine thn h4 fun _ s5 z1_=>?_
   obtain ⟨x,H5,I5,r5,y5,st5,fr5⟩:=z1_
   have I5':=I5.pinned (stat pfp fr5) (T.obj _ _ st5)
   refine thn (hg C _ s5 _ H5 x u _ I5' r5 (step x H5 y5)) fun _ s6 z1_=>?_
   obtain ⟨σ6,H6,I6,⟨hl6,hd6⟩,q6⟩:=z1_
   have wk:∀ {pins':Pn_} {H':Hp} {s':Shared},Inv (cxC X ts scope cl s₂ H1 C fp) pins' σ6 H' s'→Inv (cxC X ts scope cl s₂ H1 C fp) pins' (Zn ts.length none++σ) H' s':=fun I=>I.weak (by rw[Zf,Y7];exact hl6.symm) fun j v e=>by
    by_cases hj:j<ts.length
    ·rw[ZU (by simpa using hj),JS,if_pos hj] at e
     cases e
    ·rw[ZD (by simpa using hj),Y7,← hd6,Zax] at e
     rw[show ts.length+(j-ts.length)=j by omega] at e
     exact e
   have tnK:∀ {σ7:St} {H7:Hp} {s7:Shared},Inv (cxC X ts scope cl s₂ H1 C fp) ([(D,Z6R its k)]++Z2r fp s5.heap) σ7 H7 s7→tn (i+1) s7.heap∧(∀ b∈fp,H7 b=none)∧s7.heap.get? D=some (Z6R its k)∧H7 D=none:=fun {σ7 H7 s7} I7=>by
    refine⟨T.keep _ _ _ st5 fun b hb o e=>(I7.pin (b,o) (ZH _ (ZH _ (WN hb e)))).1,fun b hb=>?_,?_⟩
    ·obtain⟨o,e,d⟩:=T.obj _ _ st5 b hb
     exact (I7.pin (b,o) (ZH _ (ZH _ (WN hb e)))).2.1
    ·obtain⟨e,n,_⟩:=I7.pin (D,Z6R its k) (ZH _ (Js _ Z1))
     exact⟨e,n⟩
   refine thn (ht C _ s6 σ6 H6 _ I6 q6) fun ok s7 z1_=>?_
   obtain ⟨H7,I7,q7⟩:=z1_
   cases ok with
   |false =>
    obtain⟨m',hm,w7⟩:=q7
    obtain⟨t7,f7,e7,n7⟩:=tnK I7
    exact⟨m',hm,i+1,ys,its,k,H7,(wk I7).pins_of (fun p hp=>(nomatch hp)),t7,f7,e7,rv3,n7,w7⟩
   |true =>
    refine thn (he C _ s7 σ6 H7 _ I7 q7) fun z s8 z1_=>?_
    obtain ⟨y,H8,I8,ry,m',hm,w8⟩:=z1_
    obtain⟨t8,f8,e8,n8⟩:=tnK I8
    have hzi:its.length≤sizeLine:=by rw[← rv3.length];exact hz
    refine append_at e8 (fun h9 hs9 hD9=>?_) (by rw[Zk];exact hzi)
    have I9:Inv (cxC X ts scope cl s₂ H1 C fp) [] (Zn ts.length none++σ) H8 { s8 with heap:=h9 } :=
     ((wk I8).pins_of (pins':=[]) fun p hp=>nomatch hp).turned (t':=s8.toks) (fun b o hb e=>(hs9.2 b hb).trans e) n8 hDC (.inr (hDD ▸ Zc _)) cellD (fun p hp=>absurd (show p∈([]:Pn_) from hp) (by simp))
    refine⟨m',hm,i+1,ys++[y],its++[z],k+1,H8,I9,T.keep _ _ _ t8 fun b hb o e=>(hs9.2 b (fpD b hb)).trans e,f8,?_,rv3.append (.cons ry .nil),n8,w8⟩
    rw[hD9]
    show some ({ cls:=.type "list",data:=.seq (its.toArray.push z) (k+1) }:Obj)=some { cls:=.type "list",data:=.seq (its++[z]).toArray (k+1) }
    rw[ZcC]
 exact codeAny_compStart_list (loop _ rfl) (T.self _ 0 _ _ _ st1 (loop _ rfl))
noncomputable def Z3O {α:Type}:List Nat→List (Option α)→List (Option α)
 |[],l=>l
 |j::r,l=>(Z3O r l).set j none
noncomputable def Zj9:List Nat→Str
 |[]=>""
 |_::_=>"."
noncomputable def Zi1:List Nat→List Str→List Str
 |[],N=>N
 |j::r,N=>(Zi1 r N).set j (Zj9 r)
noncomputable def Cx.hid (X:Cx)(m:List Nat):Cx:={ X with N:=Zi1 m X.N }
theorem Inv.nm {X:Cx}{pins:Pn_}{σ σ':St}{H:Hp}{s:Shared}{N':Ls_}(I:Inv X pins σ H s)(hl:σ'.length=N'.length)(h:∀ (i:Nat) (x:Str) (v:V),N'[i]?=some x→σ'[i]?=some (some v)→X.N[i]?=some x∧σ[i]?=some (some v)) :
  Inv { X with N:=N' } pins σ' H s :=
 let k:=I.ok
 ⟨⟨k.mod,k.kind,k.glob,k.blt,k.above,k.inj,k.has,k.cab,k.hd,k.frames,k.stk,k.exf,k.bs,k.bsz,k.noex,k.exfs,k.funs,k.frf⟩,I.os,I.bare,I.base,let ⟨m,hn,hl'⟩:=I.loc;⟨m,hn,fun i x v e1 e2 e3=>let ⟨f1,f2⟩:=h i x v e1 e2;hl' i x v f1 f2 e3⟩,I.cell,I.free,I.freeC,I.pin,I.hok,hl⟩
theorem Inv.hid {X:Cx}{pins:Pn_}{σ:St}{H:Hp}{s:Shared}(I:Inv X pins σ H s):∀ m:List Nat,Inv (X.hid m) pins (Z3O m σ) H s
 |[]=>I
 |j::r=>(I.hid r).nm (N':=(Zi1 r X.N).set j (Zj9 r)) (by show ((Z3O r σ).set j none).length=_;rw[JM,JM];exact (I.hid r).len) fun i x v e1 e2=>by
  have e1:((Zi1 r X.N).set j (Zj9 r))[i]?=some x:=e1
  have e2:((Z3O r σ).set j none)[i]?=some (some v):=e2
  by_cases z:j=i
  ·subst z
   by_cases q:j<(Z3O r σ).length
   ·rw[Zw q] at e2;cases e2
   ·rw[UK (by rw[JM];exact Yp ‹_›)] at e2;cases e2
  ·rw[Zg z] at e1 e2
   exact⟨e1,e2⟩
def Zg2 (k:Nat)(g:TG)(tt:TT)(te:TE)(σ:St)(Q:VK)(J:It)(H1:Hp):Prop:=∃ W:Nat→Nat→Lv_→Hp→Prop,(∃ m,W 0 m [] H1) ∧
 ∀ i m ys H,W i m ys H→ys.length≤sizeLine∧((J.stop i H∧∀ D,H D=none→Q (.ref D) (upd H D (.lst ys)))∨(J.go i H∧∀ x H',J.yld i H x H'→g x (Zn k none++σ) H' fun σ2 H2=>(σ2.length=k+σ.length∧σ2.drop k=σ) ∧
   tt σ2 H2 fun c H3=>if c=true then te σ2 H3 fun y H4=>∃ m',m'<m∧W (i+1) m' (ys++[y]) H4 else ∃ m',m'<m∧W (i+1) m' ys H3))
def ZdL (k:Nat)(wi:TI)(g:TG)(tt:TT)(te:TE):TE:=fun σ H Q=>wi σ H (Zg2 k g tt te σ Q)
def Z7M (m:List Nat)(k:Nat)(wi:TI)(g:TG)(tt:TT)(te:TE):TE:=fun σ H Q=>wi σ H (Zg2 k g tt te (Z3O m σ) Q)
theorem Yn.cells {X:Cx}{ts:Ls_}{scope:Scope}{env:Env}(S:Yn X ts scope)(ok:X.Ok):∃ cl,closureFor scope X.env=pure cl∧B7 X scope cl:=by
 obtain⟨cl,e,h1,h2⟩:=Z75 ok.has scope S.free
 exact⟨cl,e,h1,fun x hx=>h2 _ (Yo hx) rfl⟩
theorem Zbk {X:Cx}{m:List Nat}{ts:Ls_}{scope:Scope}{elt tg iter:Expr}{ifs:Le_}{pos:Pos}{wi:TI}{g:TG}{tt:TT}{te:TE}(hc:X.calm=true)(S:Yn (X.hid m) ts scope)(hi:PI X tg iter wi)
  (hg:∀ cl s₂ H1 C fp,PG (cxC (X.hid m) ts scope cl s₂ H1 C fp) tg g) (ht:∀ cl s₂ H1 C fp,PIf (cxC (X.hid m) ts scope cl s₂ H1 C fp) ifs tt) (he:∀ cl s₂ H1 C fp,PE (cxC (X.hid m) ts scope cl s₂ H1 C fp) elt te)
  (hs:∀ x,foldedSetIterable iter X.env x=pure x:=by intro _;rfl) :
  PE X (.ListComp elt [⟨tg,iter,ifs,0⟩] scope pos) (Z7M m ts.length wi g tt te):=by
 intro pins s σ H Q I h
 rw[eval_ListComp]
 obtain⟨cl,hcl,L⟩:=S.cells (env:=X.env) (I.hid m).ok
 refine Z7D (use:=none) rfl hs hcl S.kind S.names (JP (hi pins s σ H _ I h) (fun v s1 h1=>JP h1 (fun itv s2 h2=>?_) fun _ _ e=>e) fun _ _ e=>e)
 obtain⟨it,fp,tn,J,H1,rfl,I2,T,st,hf,W,w0,turn⟩:=h2
 refine Z0H (Fin:=fun ys H=>∀ D,H D=none→Q (.ref D) (upd H D (.lst ys))) (RR:=fun acc C=>compPost (model X.prog X.w) X.A X.xe none (EP X pins σ Q) acc C) (X:=X.hid m) (I2.hid m) hc T st hf S L (fun C=>hg cl s2 H1 C fp) (fun C=>ht cl s2 H1 C fp) (fun C=>he cl s2 H1 C fp) W w0 turn ?_
 intro C D s' H' ys its k σ' m' hD hC hDC Ic hn hgD rv hz nD fin
 refine⟨m',hn,fun h' hs'=>?_⟩
 have IX:=Za8 (ts:=ts) (scope:=scope) (cl:=cl) I2 hf hC (Ic.nm (N':=ts++X.N) (σ':=Zn (ts++X.N).length none) (by rw[Y7]) fun i x v _ e=>by rw[JS] at e;split at e <;> cases e) hs'
 have gD:h'.get? D=some (Z6R its k):=(hs'.2 D hDC).trans hgD
 obtain⟨f0,f1,f2,f3,f4,f5⟩:=I2.fpOk (b:=D) (H':=H') hD nD
 refine⟨.ref D,_,IX.track (o:=.lst ys) nD (Zz I2.sz hD) f1 f4 f5 ⟨hz,its,k,rv,gD⟩,rfl,fin D nD⟩
theorem Z8x {X:Cx}{ts:Ls_}{scope:Scope}{elt tg iter:Expr}{ifs:Le_}{pos:Pos}{wi:TI}{g:TG}{tt:TT}{te:TE}(hc:X.calm=true)(S:Yn X ts scope)(hi:PI X tg iter wi)
  (hg:∀ cl s₂ H1 C fp,PG (cxC X ts scope cl s₂ H1 C fp) tg g) (ht:∀ cl s₂ H1 C fp,PIf (cxC X ts scope cl s₂ H1 C fp) ifs tt) (he:∀ cl s₂ H1 C fp,PE (cxC X ts scope cl s₂ H1 C fp) elt te)
  (hs:∀ x,foldedSetIterable iter X.env x=pure x:=by intro _;rfl) :
  PE X (.ListComp elt [⟨tg,iter,ifs,0⟩] scope pos) (ZdL ts.length wi g tt te):=Zbk (m:=[]) hc S hi hg ht he hs
theorem Z5x {X:Cx}{m:List Nat}{ts:Ls_}{scope:Scope}{elt tg iter:Expr}{ifs:Le_}{pos spos py:Pos}{wi:TI}{g:TG}{tt:TT}{te:TE}{i:Nat}{y:Str}(hN:X.N.Nodup)(hi':X.N[i]?=some y)(hx:Loc X.env.scope y)(hc:X.calm=true)(S:Yn (X.hid m) ts scope)(hi:PI X tg iter wi)
  (hg:∀ cl s₂ H1 C fp,PG (cxC (X.hid m) ts scope cl s₂ H1 C fp) tg g) (ht:∀ cl s₂ H1 C fp,PIf (cxC (X.hid m) ts scope cl s₂ H1 C fp) ifs tt) (he:∀ cl s₂ H1 C fp,PE (cxC (X.hid m) ts scope cl s₂ H1 C fp) elt te)
  (hsw:swapsWith (.ListComp elt [⟨tg,iter,ifs,0⟩] scope pos) (some (.Name y py)) spos.line X.env=pure true:=by rfl)
  (hf':X.fn y=true∨X.env.scope.names.lookup y=some .local:=by first|exact .inl rfl|exact .inr rfl|assumption)
  (hs:∀ x,foldedSetIterable iter X.env x=pure x:=by intro _;rfl) :
  PS X (.Assign [.Name y py] (.ListComp elt [⟨tg,iter,ifs,0⟩] scope pos) spos) (ZfI (Z7M m ts.length wi g tt te) (Fm i)):=by
 intro pins s σ H D0 I h
 rw[exec_Assign_Name_used _ _ _ _ hsw]
 refine Z0 (Zk7 (Z0 ?_))
 show wpAny _ X.A (do let _ ← comprehension (.ListComp elt [⟨tg,iter,ifs,0⟩] scope pos) scope X.env _ (newList []) false (eval iter X.env) (some (assign (.Name y py) X.env))) _ _ s
 obtain⟨cl,hcl,L⟩:=S.cells (env:=X.env) (I.hid m).ok
 refine Z0 (JP (Z7D (use:=some (assign (.Name y py) X.env)) (Q:=fun _ s'=>SP X pins D0 .next s') rfl hs hcl S.kind S.names
  (JP (hi pins s σ H _ I h) (fun v s1 h1=>JP h1 (fun itv s2 h2=>?_) fun _ _ e=>e) fun _ _ e=>e)) (fun _ s' hq=>Z5 (Z5 hq)) fun _ _ e=>e)
 obtain⟨it,fp,tn,J,H1,rfl,I2,T,st,hf,W,w0,turn⟩:=h2
 refine Z0H (Fin:=fun ys H=>∀ D,H D=none→Fm i (.ref D) σ (upd H D (.lst ys)) D0.nx) (RR:=fun acc C=>compPost (model X.prog X.w) X.A X.xe (some (assign (.Name y py) X.env)) (fun _ s'=>SP X pins D0 .next s') acc C) (X:=X.hid m) (I2.hid m) hc T st hf S L (fun C=>hg cl s2 H1 C fp) (fun C=>ht cl s2 H1 C fp) (fun C=>he cl s2 H1 C fp) W w0 turn ?_
 intro C D s' H' ys its k σ' m' hD hC hDC Ic hn hgD rv hz nD fin
 have IX:Inv X pins σ H' s':=Za8 (ts:=ts) (scope:=scope) (cl:=cl) I2 hf hC (Ic.nm (N':=ts++X.N) (σ':=Zn (ts++X.N).length none) (by rw[Y7]) fun i x v _ e=>by rw[JS] at e;split at e <;> cases e) (Z3K ..)
 obtain⟨f0,f1,f2,f3,f4,f5⟩:=I2.fpOk (b:=D) (H':=H') hD nD
 have IT:Inv X pins σ (upd H' D (.lst ys)) s':=IX.track (o:=.lst ys) nD (Zz I2.sz hD) f1 f4 f5 ⟨hz,its,k,rv,hgD⟩
 show wpAny _ X.A (assign (.Name y py) X.env (.ref D)) _ _ s'
 refine ZhU (Z24 IT hN hi' hx (v:=.ref D) rfl (fun s'' I'' hh=>?_) hf')
 obtain⟨a,hsa,ha⟩:=hh
 have hCa:C≠a:=by
  rintro rfl
  rcases ha with z|z
  ·exact absurd (ZO (z ▸ I2.lt) hC) (YG _)
  ·obtain⟨v,q⟩:=I2.cell _ _ z
   exact absurd (ZO q.lt hC) (YG _)
 refine⟨m',hn.sameBut hsa hCa,fun h' hs'=>?_⟩
 have fin':=fin D nD
 refine⟨σ.set i (some (.ref D)),upd H' D (.lst ys),?_,fin'⟩
 have nC:H' C=none:=Ic.free
 have nCt:upd H' D (.lst ys) C=none:=by rw[YA (GR hDC)];exact nC
 obtain⟨_,g1,g2,g3,g4,g5⟩:=I2.fpOk (b:=C) (H':=H') hC nC
 exact I''.turned (t':=s''.toks) (fun b o hb e=>(hs'.2 b hb).trans e) nCt g1 (.inr (Zz I2.sz hC)) g4 g5
theorem Z8o {X:Cx}{ts:Ls_}{scope:Scope}{elt tg iter:Expr}{ifs:Le_}{pos spos py:Pos}{wi:TI}{g:TG}{tt:TT}{te:TE}{i:Nat}{y:Str}(hN:X.N.Nodup)(hi':X.N[i]?=some y)(hx:Loc X.env.scope y)(hc:X.calm=true)(S:Yn X ts scope)(hi:PI X tg iter wi)
  (hg:∀ cl s₂ H1 C fp,PG (cxC X ts scope cl s₂ H1 C fp) tg g) (ht:∀ cl s₂ H1 C fp,PIf (cxC X ts scope cl s₂ H1 C fp) ifs tt) (he:∀ cl s₂ H1 C fp,PE (cxC X ts scope cl s₂ H1 C fp) elt te)
  (hsw:swapsWith (.ListComp elt [⟨tg,iter,ifs,0⟩] scope pos) (some (.Name y py)) spos.line X.env=pure true:=by rfl)
  (hf':X.fn y=true∨X.env.scope.names.lookup y=some .local:=by first|exact .inl rfl|exact .inr rfl|assumption)
  (hs:∀ x,foldedSetIterable iter X.env x=pure x:=by intro _;rfl) :
  PS X (.Assign [.Name y py] (.ListComp elt [⟨tg,iter,ifs,0⟩] scope pos) spos) (ZfI (ZdL ts.length wi g tt te) (Fm i)):=Z5x (m:=[]) hN hi' hx hc S hi hg ht he hsw hf' hs
inductive Th where
 |non|bl (b:Bool)|int (i:Int)|str (x:Str)|tup (ts:List Th)|lst (ts:List Th)
abbrev Lt_:=List Th
mutual
inductive JF (K:Fg_) (H:Hp):V→Th→Prop where
 |non:JF K H .non .non
 |bl (b:Bool):JF K H (.bl b) (.bl b)
 |int (i:Int):JF K H (.int i) (.int i)
 |str (x:Str):JF K H (.str x) (.str x)
 |tup {a:Addr} {xs:Lv_} {ts:Lt_} (e:SqT K H a xs) (h:J6 K H xs ts):JF K H (.ref a) (.tup ts)
 |lst {a:Addr} {xs:Lv_} {ts:Lt_} (e:SqL K H a xs) (h:J6 K H xs ts):JF K H (.ref a) (.lst ts)
inductive J6 (K:Fg_) (H:Hp):Lv_→Lt_→Prop where
 |nil:J6 K H [] []
 |cons {v:V} {t:Th} {vs:Lv_} {ts:Lt_} (h:JF K H v t) (r:J6 K H vs ts):J6 K H (v::vs) (t::ts)
end
theorem Jq.seqT {K:Fg_}{H H':Hp}{a:Addr}{xs:Lv_}(e:Jq H H')(h:SqT K H a xs):SqT K H' a xs:=by
 rcases h with (h|⟨o,h⟩)|h
 ·exact .inl (.inl (e _ _ h))
 ·exact .inl (.inr ⟨o,e _ _ h⟩)
 ·exact .inr h
section
variable {K:Fg_}
mutual
theorem JF.mono {H H':Hp}(s:Jq H H'):∀ {v:V} {t:Th},JF K H v t→JF K H' v t
 |_,_,.non=>.non
 |_,_,.bl b=>.bl b
 |_,_,.int i=>.int i
 |_,_,.str x=>.str x
 |_,_,.tup e h=>.tup (s.seqT e) (J6.mono s h)
 |_,_,.lst e h=>.lst (s.seq e) (J6.mono s h)
theorem J6.mono {H H':Hp}(s:Jq H H'):∀ {vs:Lv_} {ts:Lt_},J6 K H vs ts→J6 K H' vs ts
 |_,_,.nil=>.nil
 |_,_,.cons h r=>.cons (JF.mono s h) (J6.mono s r)
end
theorem J6.length {H:Hp}:∀ {vs:Lv_} {ts:Lt_},J6 K H vs ts→vs.length=ts.length:=by
 intro vs ts
 induction ts generalizing vs with
 |nil=>intro h;cases h;rfl
 |cons t ts ih=>intro h;cases h with
  |cons h r=>rw[Zl,Zl,ih r]
theorem J6.get {H:Hp}:∀ {vs:Lv_} {ts:Lt_} {i:Nat} {t:Th},J6 K H vs ts→ts[i]?=some t→∃ v,vs[i]?=some v∧JF K H v t
 |_,_,_,_,.nil,e=>by simp at e
 |_,_,0,_,.cons h _,e=>by simp at e;subst e;exact⟨_,rfl,h⟩
 |_,_,i+1,_,.cons _ r,e=>by
  obtain⟨v,h1,h2⟩:=r.get (i:=i) (by simpa using e)
  exact⟨v,by simpa using h1,h2⟩
theorem J6.got {H:Hp}:∀ {vs:Lv_} {ts:Lt_} {i:Nat} {v:V},J6 K H vs ts→vs[i]?=some v→∃ t,ts[i]?=some t∧JF K H v t
 |_,_,_,_,.nil,e=>by simp at e
 |_,_,0,_,.cons h _,e=>by simp at e;subst e;exact⟨_,rfl,h⟩
 |_,_,i+1,_,.cons _ r,e=>by
  obtain⟨v,h1,h2⟩:=r.got (i:=i) (by simpa using e)
  exact⟨v,by simpa using h1,h2⟩
theorem J6.append {H:Hp}:∀ {vs ws:Lv_} {ts us:Lt_},J6 K H vs ts→J6 K H ws us→J6 K H (vs++ws) (ts++us):=by
 intro vs ws ts us
 induction ts generalizing vs with
 |nil=>intro h s;cases h;exact s
 |cons t ts ih=>intro h s;cases h with
  |cons h r=>exact .cons h (ih r s)
theorem J6.take {H:Hp}:∀ {vs:Lv_} {ts:Lt_} (n:Nat),J6 K H vs ts→J6 K H (vs.take n) (ts.take n)
 |_,_,0,_=>.nil
 |_,_,_+1,.nil=>.nil
 |_,_,n+1,.cons h r=>.cons h (r.take n)
theorem J6.drop {H:Hp}:∀ {vs:Lv_} {ts:Lt_} (n:Nat),J6 K H vs ts→J6 K H (vs.drop n) (ts.drop n)
 |_,_,0,r=>r
 |_,_,_+1,.nil=>.nil
 |_,_,n+1,.cons _ r=>r.drop n
theorem J6.rep {H:Hp}{vs:Lv_}{ts:Lt_}(h:J6 K H vs ts):∀ k:Nat,J6 K H (Zn k vs).flatten (Zn k ts).flatten
 |0=>.nil
 |k+1=>by rw[JR,JR,G8,G8];exact h.append (h.rep k)
end
theorem Jq.upd {H:Hp}{p:Addr}{o:HO}(h:H p=none):Jq H (upd H p o):=fun b u e=>by rw[YA (GE e h)];exact e
structure Hid where
 own:List (Nat×Addr)
 far:Addr→Prop
def Hid.has (O:Hid)(b:Addr):Prop:=b∈O.own.map (·.2)∨O.far b
noncomputable def Hid.cons (i:Nat)(a:Addr)(O:Hid):Hid:={ O with own:=(i,a)::O.own }
open Classical in
noncomputable def less (H:Hp)(O:Hid):Hp:=fun b=>if O.has b then none else H b
open Classical in
noncomputable def low (H:Hp)(O:Hid):Hp:=fun b=>if b∈O.own.map (·.2) then none else H b
theorem Jp (H:Hp)(O:Hid):Jq (less H O) H:=fun b o e=>by
 unfold less at e
 split at e
 ·cases e
 ·exact e
theorem Z1m (H:Hp)(O:Hid):Jq (low H O) H:=fun b o e=>by
 unfold low at e
 split at e
 ·cases e
 ·exact e
theorem Uh {H:Hp}{O:Hid}{b:Addr}{o:HO}(h:H b=some o)(n:¬ O.has b):less H O b=some o:=by
 unfold less;rw[if_neg n];exact h
theorem M6 {H:Hp}{O:Hid}{b:Addr}{o:HO}(h:H b=some o)(n:b∉O.own.map (·.2)):low H O b=some o:=by
 unfold low;rw[if_neg n];exact h
theorem of_less {H:Hp}{O:Hid}{b:Addr}{o:HO}(h:less H O b=some o):H b=some o∧¬ O.has b:=by
 unfold less at h
 split at h
 ·cases h
 ·exact⟨h,‹_›⟩
theorem Z0q {H:Hp}{O:Hid}{b:Addr}{o:HO}(h:low H O b=some o):H b=some o∧b∉O.own.map (·.2):=by
 unfold low at h
 split at h
 ·cases h
 ·exact⟨h,‹_›⟩
theorem JY {H H':Hp}{O:Hid}(s:Jq H H'):Jq (less H O) (less H' O):=fun b o e=>let ⟨h,n⟩:=of_less e;Uh (s b o h) n
theorem Ui {H H':Hp}{O:Hid}(s:Jq H H'):Jq (low H O) (low H' O):=fun b o e=>let ⟨h,n⟩:=Z0q e;M6 (s b o h) n
theorem Z5G {H H':Hp}{O O':Hid}(s:Jq (low H O) (low H' O'))(hf:O'.far=O.far):Jq (less H O) (less H' O'):=fun b o e=>by
 obtain⟨h,n⟩:=of_less e
 obtain⟨h',n'⟩:=Z0q (s b o (M6 h fun z=>n (.inl z)))
 exact Uh h' fun z=>z.elim n' fun z=>n (.inr (hf ▸ z))
theorem Md {H:Hp}{O:Hid}{i:Nat}{a:Addr}:Jq (less H (O.cons i a)) (less H O):=fun b o e=>by
 obtain⟨h,n⟩:=of_less e
 exact Uh h fun z=>n (z.elim (fun z=>.inl (Z4 _ z)) .inr)
theorem Z1o {H:Hp}{O:Hid}{i j:Nat}{a:Addr}:less H (O.cons i a)=less H (O.cons j a):=by
 have hh:∀ b,(O.cons i a).has b↔(O.cons j a).has b:=fun b=>Iff.rfl
 funext b
 unfold less
 by_cases z:(O.cons i a).has b
 ·rw[if_pos z,if_pos ((hh b).mp z)]
 ·rw[if_neg z,if_neg (fun q=>z ((hh b).mpr q))]
theorem Z1w {O:Hid}{i:Nat}{a b:Addr}(h:(O.cons i a).has b):b=a∨O.has b:=by
 rcases h with h|h
 ·rcases Zp.mp (show b∈a::O.own.map (·.2) from h) with q|q
  ·exact .inl q
  ·exact .inr (.inl q)
 ·exact .inr (.inr h)
theorem Qy {H H':Hp}{O:Hid}{i:Nat}{a:Addr}(s:Jq H H')(h:H a=none):Jq (less H O) (less H' (O.cons i a)):=fun b o e=>by
 obtain⟨hb,n⟩:=of_less e
 exact Uh (s b o hb) fun z=>(Z1w z).elim (GE hb h) n
theorem Z9e {H H':Hp}{O:Hid}{i:Nat}{a:Addr}(s:Jq H H')(h:H a=none):Jq (low H O) (low H' (O.cons i a)):=fun b o e=>by
 obtain⟨hb,n⟩:=Z0q e
 refine M6 (s b o hb) fun z=>?_
 rcases Zp.mp (show b∈a::O.own.map (·.2) from z) with q|q
 ·exact GE hb h q
 ·exact n q
inductive Dv where
 |th (T:Th)
 |own (ts:Lt_)
 |exc (c:Str)
 |dct (fz:Bool) (kvs:List (Str×Th))
noncomputable def fv:Th→V
 |.bl b=>.bl b
 |.int i=>.int i
 |.str x=>.str x
 |_=>.non
noncomputable def dkv (kvs:List (Str×Th)):List (Key×V):=kvs.map fun p=>(Gb p.1,fv p.2)
def Z56 (H:Hp)(a:Addr):Bool→List (Str×Th)→Prop
 |false,kvs=>H a=some (.dK (dkv kvs))
 |true,kvs=>∃ o,H a=some (.frz o (.dK (dkv kvs)))
def Zj7 (a C:Addr)(h:Heap):Prop:=∃ oe,h.get? a=some oe∧oe.cls=.ref C
abbrev Sd:=List (Option Dv)
structure Rep (K:Fg_)(H:Hp)(O:Hid)(σ:St)(d:Sd):Prop where
 len:d.length=σ.length
 th:∀ (i:Nat) (T:Th),d[i]?=some (some (.th T))→∃ v,σ[i]?=some (some v)∧JF K (less H O) v T
 own:∀ (i:Nat) (ts:Lt_),d[i]?=some (some (.own ts))→∃ a xs,(i,a)∈O.own∧σ[i]?=some (some (.ref a))∧H a=some (.lst xs)∧¬ O.far a∧J6 K (less H O) xs ts
 there:∀ a,O.has a→∃ o,H a=some o
 inj:∀ (i j:Nat) (a:Addr),(i,a)∈O.own→(j,a)∈O.own→i=j
 exc:∀ (i:Nat) (c:Str),d[i]?=some (some (.exc c))→∃ a C,σ[i]?=some (some (.ref a))∧ZM K mainGlobals c=some (some (.ref C))∧less H O a=some (.ext (Zj7 a C))
 dct:∀ (i:Nat) (fz:Bool) (kvs:List (Str×Th)),d[i]?=some (some (.dct fz kvs))→∃ a,(i,a)∈O.own∧σ[i]?=some (some (.ref a))∧Z56 H a fz kvs∧¬ O.far a
section
variable {K:Fg_}
theorem Z56.mono {H H':Hp}{a:Addr}{kvs:List (Str×Th)}:∀ {fz:Bool},Z56 H a fz kvs→(∀ o,H a=some o→H' a=some o)→Z56 H' a fz kvs
 |false,h,s=>s _ h
 |true,⟨o,h⟩,s=>⟨o,s _ h⟩
theorem Rep.mono {H H':Hp}{O:Hid}{σ:St}{d:Sd}(r:Rep K H O σ d)(s:Jq H H'):Rep K H' O σ d where
 len:=r.len
 th:=fun i T e=>let ⟨v,h1,h2⟩:=r.th i T e;⟨v,h1,h2.mono (JY s)⟩
 own:=fun i ts e=>let ⟨a,xs,h1,h2,h3,hf,h4⟩:=r.own i ts e;⟨a,xs,h1,h2,s _ _ h3,hf,h4.mono (JY s)⟩
 there:=fun a h=>let ⟨o,e⟩:=r.there a h;⟨o,s _ _ e⟩
 inj:=r.inj
 exc:=fun i c e=>let ⟨a,C,h1,h2,h3⟩:=r.exc i c e;⟨a,C,h1,h2,JY s _ _ h3⟩
 dct:=fun i fz kvs e=>let ⟨a,h1,h2,h3,h4⟩:=r.dct i fz kvs e;⟨a,h1,h2,h3.mono (s a),h4⟩
theorem Rep.notOwn {H:Hp}{O:Hid}{σ:St}{d:Sd}(r:Rep K H O σ d){a:Addr}(h:H a=none):¬ O.has a:=fun z=>by
 obtain⟨o,ho⟩:=r.there a z
 rw[h] at ho;cases ho
theorem Rep.set {H:Hp}{O:Hid}{σ:St}{d:Sd}(r:Rep K H O σ d)(i:Nat){v:V}{T:Th}(b:JF K (less H O) v T):Rep K H O (σ.set i (some v)) (d.set i (some (.th T))) where
 len:=by rw[JM,JM];exact r.len
 th:=fun j U e=>by
  by_cases hj:i=j
  ·subst hj
   have hi:i<d.length:=by
    have:=(Zq.mp e).1
    simpa using this
   rw[Zw hi] at e
   cases e
   exact⟨v,Zw (by rw[← r.len];exact hi),b⟩
  ·rw[Zg hj] at e
   obtain⟨w,h1,h2⟩:=r.th j U e
   exact⟨w,by rw[Zg hj];exact h1,h2⟩
 own:=fun j ts e=>by
  by_cases hj:i=j
  ·subst hj
   have hi:i<d.length:=by
    have:=(Zq.mp e).1
    simpa using this
   rw[Zw hi] at e
   cases e
  ·rw[Zg hj] at e
   obtain⟨a,xs,h1,h2,h3⟩:=r.own j ts e
   exact⟨a,xs,h1,by rw[Zg hj];exact h2,h3⟩
 there:=r.there
 inj:=r.inj
 exc:=fun j c e=>by
  by_cases hj:i=j
  ·subst hj
   have hi:i<d.length:=by
    have:=(Zq.mp e).1
    simpa using this
   rw[Zw hi] at e
   cases e
  ·rw[Zg hj] at e
   obtain⟨a,C,h1,h2⟩:=r.exc j c e
   exact⟨a,C,by rw[Zg hj];exact h1,h2⟩
 dct:=fun j fz kvs e=>by
  by_cases hj:i=j
  ·subst hj
   rw[Zw (by simpa using (Zq.mp e).1)] at e
   cases e
  ·rw[Zg hj] at e
   obtain⟨a,h1,h2,h3⟩:=r.dct j fz kvs e
   exact⟨a,h1,by rw[Zg hj];exact h2,h3⟩
end
def Fe (K:Fg_)(H:Hp)(O:Hid)(v:V)(T:Th):Prop:=JF K (less H O) v T∨∃ a xs ts,v=.ref a∧T=.lst ts∧H a=some (.lst xs)∧¬ O.far a∧J6 K (less H O) xs ts
def ZfG (K:Fg_)(H H':Hp)(O:Hid)(v:V)(ts:Lt_):Prop:=∃ a xs,v=.ref a∧H a=none∧H' a=some (.lst xs)∧J6 K (less H' (O.cons 0 a)) xs ts
section
variable {K:Fg_}
theorem Fe.mono {H H':Hp}{O:Hid}{v:V}{T:Th}(h:Fe K H O v T)(s:Jq H H'):Fe K H' O v T:=by
 rcases h with h|⟨a,xs,ts,e1,e2,e3,hf,h⟩
 ·exact .inl (h.mono (JY s))
 ·exact .inr ⟨a,xs,ts,e1,e2,s _ _ e3,hf,h.mono (JY s)⟩
theorem Fe.bears {H:Hp}{O:Hid}{v:V}{T:Th}(h:Fe K H O v T):JF K H v T:=by
 rcases h with h|⟨a,xs,ts,rfl,rfl,e3,hf,h⟩
 ·exact h.mono (Jp H O)
 ·exact .lst (SqL.of e3) (h.mono (Jp H O))
theorem Fe.int {H:Hp}{O:Hid}{v:V}{i:Int}(h:Fe K H O v (.int i)):v=.int i:=by
 rcases h with h|⟨_,_,_,_,e,_⟩
 ·cases h;rfl
 ·cases e
theorem Fe.bl {H:Hp}{O:Hid}{v:V}{i:Bool}(h:Fe K H O v (.bl i)):v=.bl i:=by
 rcases h with h|⟨_,_,_,_,e,_⟩
 ·cases h;rfl
 ·cases e
theorem Fe.str {H:Hp}{O:Hid}{v:V}{i:Str}(h:Fe K H O v (.str i)):v=.str i:=by
 rcases h with h|⟨_,_,_,_,e,_⟩
 ·cases h;rfl
 ·cases e
theorem Fe.non {H:Hp}{O:Hid}{v:V}(h:Fe K H O v .non):v=.non:=by
 rcases h with h|⟨_,_,_,_,e,_⟩
 ·cases h;rfl
 ·cases e
theorem Fe.tup {H:Hp}{O:Hid}{v:V}{ts:Lt_}(h:Fe K H O v (.tup ts)):∃ a xs,v=.ref a∧SqT K (less H O) a xs∧J6 K (less H O) xs ts:=by
 rcases h with h|⟨_,_,_,_,e,_⟩
 ·cases h with|tup e h=>exact⟨_,_,rfl,e,h⟩
 ·cases e
theorem Fe.lst {H:Hp}{O:Hid}{v:V}{ts:Lt_}(h:Fe K H O v (.lst ts)):∃ a xs,v=.ref a∧SqL K H a xs∧J6 K (less H O) xs ts:=by
 rcases h with h|⟨a,xs,us,rfl,e,e3,hf,h⟩
 ·cases h with|lst e h=>exact⟨_,_,rfl,(Jp H O).seq e,h⟩
 ·cases e;exact⟨a,xs,rfl,SqL.of e3,h⟩
end
abbrev FD:=Sd→Option Th
abbrev FL:=Sd→Option (Lt_)
abbrev FB:=Sd→Option Bool
def Bo (K:Fg_)(f:FD):TE:=fun σ H Q=>∃ O d T,Rep K H O σ d∧f d=some T∧∀ v H',Jq H H'→JF K (less H' O) v T→Q v H'
def Z9g (K:Fg_)(f:FD):TE:=fun σ H Q=>∃ O d T,Rep K H O σ d∧f d=some T∧∀ v H',Jq H H'→Fe K H' O v T→Q v H'
def Zc0 (K:Fg_)(f:FL):TE:=fun σ H Q=>∃ O d T,Rep K H O σ d∧f d=some T∧∀ v H',Jq H H'→ZfG K H H' O v T→Q v H'
def liftT (K:Fg_)(f:FB):TT:=fun σ H Q=>∃ O d b,Rep K H O σ d∧f d=some b∧∀ H',Jq H H'→Q b H'
def ZiW (K:Fg_)(f:FL):TA:=fun σ H Q=>∃ O d T,Rep K H O σ d∧f d=some T∧∀ vs H',Jq H H'→J6 K (less H' O) vs T→Q vs H'
def Z5H (K:Fg_)(f:FL):TA:=fun σ H Q=>∃ O d T,Rep K H O σ d∧f d=some T∧∀ vs H',Jq H H'→Paired (Fe K H' O) vs T→Q vs H'
def PD (X:Cx)(e:Expr)(f:FD):Prop:=PE X e (Bo X.K f)
def PB (X:Cx)(e:Expr)(f:FD):Prop:=PE X e (Z9g X.K f)
def PF (X:Cx)(e:Expr)(f:FL):Prop:=PE X e (Zc0 X.K f)
def PDT (X:Cx)(e:Expr)(f:FB):Prop:=PT X e (liftT X.K f)
def PDW (X:Cx)(e:Expr)(f:FB):Prop:=PW X e (liftT X.K f)
def PDA (X:Cx)(es:Le_)(f:FL):Prop:=PA X es (ZiW X.K f)
def PBA (X:Cx)(es:Le_)(f:FL):Prop:=PA X es (Z5H X.K f)
section
variable {X:Cx}{e a b c:Expr}{f fa fb fc:FD}{pos:Pos}
theorem PE.imp {t t':TE}(h:PE X e t)(i:∀ σ H Q,t' σ H Q→t σ H Q):PE X e t':=fun pins s σ H Q I q=>h pins s σ H Q I (i σ H Q q)
theorem PT.imp {t t':TT}(h:PT X e t)(i:∀ σ H Q,t' σ H Q→t σ H Q):PT X e t':=fun pins s σ H Q I q=>h pins s σ H Q I (i σ H Q q)
theorem PW.imp {t t':TT}(h:PW X e t)(i:∀ σ H Q,t' σ H Q→t σ H Q):PW X e t':=fun wh pins s σ H Q I q=>h wh pins s σ H Q I (i σ H Q q)
theorem PA.imp {es:Le_}{t t':TA}(h:PA X es t)(i:∀ σ H Q,t' σ H Q→t σ H Q):PA X es t':=fun ps pins s σ H Q I q=>h ps pins s σ H Q I (i σ H Q q)
theorem PD.pb (h:PD X e f):PB X e f:=PE.imp h fun σ H Q ⟨O,d,T,r,e,q⟩=>⟨O,d,T,r,e,fun v H' s b=>q v H' s (.inl b)⟩
noncomputable def G2 (f:FL):FD:=fun d=>(f d).map Th.lst
theorem PF.pd {f:FL}(h:PF X e f):PD X e (G2 f):=PE.imp h fun σ H Q z_=>by
 obtain⟨O,d,T,r,e,q⟩:=z_
 unfold G2 at e
 cases hf:f d with
 |none=>rw[hf] at e;cases e
 |some ts =>
  rw[hf] at e
  cases e
  refine⟨O,d,ts,r,hf,fun v H' s ⟨a,xs,e1,e2,e3,b⟩=>q v H' s ?_⟩
  subst e1
  exact .lst (SqL.of (Uh e3 (r.notOwn e2))) (b.mono Md)
noncomputable def ZQ (i:Nat):FD:=fun d=>match d[i]? with|some (some (.th T))=>some T|_=>none
noncomputable def Zb (i:Nat):FD:=fun d=>match d[i]? with|some (some (.th T))=>some T|some (some (.own ts))=>some (.lst ts)|_=>none
noncomputable def fC (T:Th):FD:=fun _=>some T
theorem ZgO {i:Nat}{x:Str}(h:PE X (.Name x pos) (ZaN i)):PD X (.Name x pos) (ZQ i):=PE.imp h fun σ H Q z_=>by
 obtain⟨O,d,T,r,e,q⟩:=z_
 unfold ZQ at e
 split at e
 ·rename_i hd
  cases e
  obtain⟨v,h1,h2⟩:=r.th i _ hd
  exact⟨v,h1,q v H (Jq.refl H) h2⟩
 ·cases e
theorem ZgZ {i:Nat}{x:Str}(h:PE X (.Name x pos) (ZaN i)):PB X (.Name x pos) (Zb i):=PE.imp h fun σ H Q z_=>by
 obtain⟨O,d,T,r,e,q⟩:=z_
 unfold Zb at e
 split at e
 ·rename_i hd
  cases e
  obtain⟨v,h1,h2⟩:=r.th i _ hd
  exact⟨v,h1,q v H (Jq.refl H) (.inl h2)⟩
 ·rename_i hd
  cases e
  obtain⟨a,xs,h1,h2,h3,hf,h4⟩:=r.own i _ hd
  exact⟨_,h2,q _ H (Jq.refl H) (.inr ⟨a,xs,_,rfl,rfl,h3,hf,h4⟩)⟩
 ·cases e
theorem Fx {v:V}{T:Th}(h:PE X e (tC v))(b:∀ H,JF X.K H v T):PD X e (fC T):=PE.imp h fun σ H Q z_=>by
 obtain⟨O,d,T',r,e,q⟩:=z_
 cases e
 exact q v H (Jq.refl H) (b _)
theorem Z8F {i j}:PD X (.Constant (.int i) j pos) (fC (.int i)):=Fx ZgE fun _=>.int i
theorem ZgW {i j}:PD X (.Constant (.bool i) j pos) (fC (.bl i)):=Fx ZiG fun _=>.bl i
theorem ZcZ {j}:PD X (.Constant .none j pos) (fC .non):=Fx ZgC fun _=>.non
theorem ZcY {i j}:PD X (.Constant (.str i) j pos) (fC (.str i)):=Fx ZgA fun _=>.str i
noncomputable def f2 (g:Th→Th→Option Th)(fa fb:FD):FD:=fun d=>(fa d).bind fun x=>(fb d).bind fun y=>g x y
theorem Z9N {g:Th→Th→Option Th}{fa fb:FD}{d:Sd}{T:Th}(h:f2 g fa fb d=some T):∃ x y,fa d=some x∧fb d=some y∧g x y=some T:=by
 unfold f2 at h
 cases h1:fa d with
 |none=>rw[h1] at h;cases h
 |some x =>
  rw[h1] at h
  cases h2:fb d with
  |none=>rw[h2] at h;cases h
  |some y=>rw[h2] at h;exact⟨x,y,rfl,rfl,h⟩
def OpD (K:Fg_)(r:R2)(g:Th→Th→Option Th):Prop:=∀ (H:Hp) (O:Hid) (v u:V) (x y z:Th) (Q:VK),(∀ p,H p=none→¬ O.has p)→Fe K H O v x→Fe K H O u y→g x y=some z→(∀ v' H',Jq H H'→JF K (less H' O) v' z→Q v' H')→r v u H Q
theorem Ft {K:Fg_}{r:R2}{g:Th→Th→Option Th}(hr:OpD K r g):∀ σ H Q,Bo K (f2 g fa fb) σ H Q→tOp r (Z9g K fa) (Z9g K fb) σ H Q:=fun σ H Q z_=>by
 obtain⟨O,d,T,R,e,q⟩:=z_
 obtain⟨x,y,hx,hy,hg⟩:=Z9N e
 exact⟨O,d,x,R,hx,fun v1 H1 s1 b1=>⟨O,d,y,R.mono s1,hy,fun v2 H2 s2 b2=>hr H2 O v1 v2 x y T Q (fun p hp=>(R.mono (s1.trans s2)).notOwn hp) (b1.mono s2) b2 hg fun v H' s b=>q v H' ((s1.trans s2).trans s) b⟩⟩
theorem Z8D {op:Operator}{r:R2}{g:Th→Th→Option Th}(ho:OpR X (binaryOp op) r)(hr:OpD X.K r g)(ha:PB X a fa)(hb:PB X b fb):PD X (.BinOp a op b pos) (f2 g fa fb):=PE.imp (ZiE ho ha hb) (Ft hr)
theorem Z2s {op:CmpOp}{r:R2}{g:Th→Th→Option Th}(ho:OpR X (compareOp op) r)(hr:OpD X.K r g)(ha:PB X a fa)(hb:PB X b fb)(hm:behindInMarks op b=false):PD X (.Compare a [op] [b] pos) (f2 g fa fb):=PE.imp (Zeg ho ha hb hm) (Ft hr)
noncomputable def J7 (f:FD):FB:=fun d=>match f d with|some (.bl b)=>some b|_=>none
theorem Z0z {f:FD}{d:Sd}{b:Bool}(h:J7 f d=some b):f d=some (.bl b):=by
 unfold J7 at h
 split at h
 ·rename_i e;cases h;exact e
 ·cases h
theorem Qw {op:CmpOp}{r:R2}{g:Th→Th→Option Th}(ho:OpR X (compareOp op) r)(hr:OpD X.K r g)(ha:PB X a fa)(hb:PB X b fb)(hm:behindInMarks op b=false):PDT X (.Compare a [op] [b] pos) (J7 (f2 g fa fb)) :=
 PT.imp (Ze6 ho ha hb hm) fun σ H Q ⟨O,d,k,R,e,q⟩=>Ft hr σ H _ ⟨O,d,.bl k,R,Z0z e,fun v H' s b=>by cases b;exact⟨k,rfl,q H' s⟩⟩
theorem Zel (h:PD X e f)(he:∀ whole,isTrue e X.env whole=(do let v ← whole;standAt e.pos;holding [v] (truthy v))):PDT X e (J7 f) :=
 PT.imp (Zgr h he) fun σ H Q ⟨O,d,k,R,e,q⟩=>⟨O,d,.bl k,R,Z0z e,fun v H' s b=>by cases b;exact⟨k,rfl,q H' s⟩⟩
noncomputable def Z1y (f:FB):FB:=fun d=>(f d).map (!·)
theorem Zem {f:FB}(h:PDT X a f):PDT X (.UnaryOp .Not a pos) (Z1y f):=PT.imp (Zgs h) fun σ H Q z_=>by
 obtain⟨O,d,k,R,e,q⟩:=z_
 unfold Z1y at e
 cases hf:f d with
 |none=>rw[hf] at e;cases e
 |some z=>rw[hf] at e;cases e;exact⟨O,d,z,R,hf,q⟩
noncomputable def Z3a (f g:FB):FB:=fun d=>(f d).bind fun b=>if b=true then g d else some false
noncomputable def Zdk (f g:FB):FB:=fun d=>(f d).bind fun b=>if b=true then some true else g d
theorem Zbm {f:FB}(h:PDT X a f):PDW X (.BoolOp .And [a] pos) f:=Ze3 h
theorem Zej {f:FB}(h:PDT X a f):PDW X (.BoolOp .Or [a] pos) f:=Zgo h
theorem Zek {f g:FB}{rest:Le_}(ha:PDT X a f)(hb:PDW X (.BoolOp .And (b::rest) pos) g):PDW X (.BoolOp .And (a::b::rest) pos) (Z3a f g):=PW.imp (Zgp ha hb) fun σ H Q z_=>by
 obtain⟨O,d,k,R,e,q⟩:=z_
 unfold Z3a at e
 cases hf:f d with
 |none=>rw[hf] at e;cases e
 |some z =>
  rw[hf] at e
  refine⟨O,d,z,R,hf,fun H' s=>?_⟩
  cases z with
  |true=>exact⟨O,d,k,R.mono s,e,fun H'' s'=>q H'' (s.trans s')⟩
  |false=>cases e;exact q H' s
theorem ZgG {f g:FB}{rest:Le_}(ha:PDT X a f)(hb:PDW X (.BoolOp .Or (b::rest) pos) g):PDW X (.BoolOp .Or (a::b::rest) pos) (Zdk f g):=PW.imp (ZiB ha hb) fun σ H Q z_=>by
 obtain⟨O,d,k,R,e,q⟩:=z_
 unfold Zdk at e
 cases hf:f d with
 |none=>rw[hf] at e;cases e
 |some z =>
  rw[hf] at e
  refine⟨O,d,z,R,hf,fun H' s=>?_⟩
  cases z with
  |true=>cases e;exact q H' s
  |false=>exact⟨O,d,k,R.mono s,e,fun H'' s'=>q H'' (s.trans s')⟩
theorem PDW.pdt {f:FB}(h:PDW X e f):PDT X e f:=PW.pt h
noncomputable def Zci (fa fb:FD):FD:=fun d=>(fa d).bind fun x=>match x with|.bl true=>fb d|.bl false=>some (.bl false)|_=>none
noncomputable def fOr (fa fb:FD):FD:=fun d=>(fa d).bind fun x=>match x with|.bl true=>some (.bl true)|.bl false=>fb d|_=>none
noncomputable def Zj6 (fa:FD):FD:=fun d=>(fa d).bind fun x=>match x with|.bl b=>some (.bl !b)|_=>none
theorem ZgQ {op}(h:PD X a f):PD X (.BoolOp op [a] pos) f:=ZgB h
theorem ZgY {rest:Le_}(ha:PD X a fa)(hb:PD X (.BoolOp .And (b::rest) pos) fb):PD X (.BoolOp .And (a::b::rest) pos) (Zci fa fb):=PE.imp (ZgF ha hb) fun σ H Q z_=>by
 obtain⟨O,d,T,R,e,q⟩:=z_
 unfold Zci at e
 cases hf:fa d with
 |none=>rw[hf] at e;cases e
 |some x =>
  rw[hf] at e
  refine⟨O,d,x,R,hf,fun v H' s b=>?_⟩
  cases b with
  |bl z =>
   refine⟨z,rfl,?_⟩
   cases z with
   |true=>exact⟨O,d,T,R.mono s,e,fun v' H'' s' b'=>q v' H'' (s.trans s') b'⟩
   |false=>cases e;exact q _ H' s (.bl false)
  |_=>cases e
noncomputable def fIf {α:Type}(c:FB)(f g:Sd→Option α):Sd→Option α:=fun d=>(c d).bind fun b=>if b=true then f d else g d
theorem ZiL {c:Expr}{fc:FB}(hc:PDT X c fc)(ha:PD X a fa)(hb:PD X b fb):PD X (.IfExp c a b pos) (fIf fc fa fb):=PE.imp (Zbi hc ha hb) fun σ H Q z_=>by
 obtain⟨O,d,T,R,e,q⟩:=z_
 unfold fIf at e
 cases hf:fc d with
 |none=>rw[hf] at e;cases e
 |some z =>
  rw[hf] at e
  refine⟨O,d,z,R,hf,fun H' s=>?_⟩
  cases z with
  |true=>exact⟨O,d,T,R.mono s,e,fun v' H'' s' b'=>q v' H'' (s.trans s') b'⟩
  |false=>exact⟨O,d,T,R.mono s,e,fun v' H'' s' b'=>q v' H'' (s.trans s') b'⟩
noncomputable def Zhy (g g':Th→Th→Option Th)(fa fb fc:FD):FD:=fun d=>(fa d).bind fun x=>(fb d).bind fun y=>(g x y).bind fun z=>match z with|.bl true=>(fc d).bind fun u=>g' y u|.bl false=>some (.bl false)|_=>none
noncomputable def J2:FL:=fun _=>some []
noncomputable def Z6 (f:FD)(g:FL):FL:=fun d=>(f d).bind fun x=>(g d).bind fun xs=>some (x::xs)
theorem Z0D {f:FD}{g:FL}{d:Sd}{ts:Lt_}(h:Z6 f g d=some ts):∃ x xs,f d=some x∧g d=some xs∧ts=x::xs:=by
 unfold Z6 at h
 cases h1:f d with
 |none=>rw[h1] at h;cases h
 |some x =>
  rw[h1] at h
  cases h2:g d with
  |none=>rw[h2] at h;cases h
  |some y=>rw[h2] at h;cases h;exact⟨x,y,rfl,rfl,rfl⟩
theorem Z8B:PDA X [] J2:=PA.imp W0 fun σ H Q z1_=>by obtain ⟨O,d,T,R,e,q⟩:=z1_;cases e;exact q [] H (Jq.refl H) .nil
theorem Z5B {es:Le_}{g:FL}(ha:PD X e f)(hr:PDA X es g)(hs:starEach (e::es) X.env=(false,eval e X.env)::starEach es X.env:=by rfl):PDA X (e::es) (Z6 f g):=PA.imp (Nt ha hr hs) fun σ H Q z_=>by
 obtain⟨O,d,T,R,e,q⟩:=z_
 obtain⟨x,xs,h1,h2,rfl⟩:=Z0D e
 exact⟨O,d,x,R,h1,fun v H1 s1 b1=>⟨O,d,xs,R.mono s1,h2,fun vs H2 s2 b2=>q (v::vs) H2 (s1.trans s2) (.cons (b1.mono (JY s2)) b2)⟩⟩
theorem Z4c:PBA X [] J2:=PA.imp W0 fun σ H Q z1_=>by obtain ⟨O,d,T,R,e,q⟩:=z1_;cases e;exact q [] H (Jq.refl H) .nil
theorem Fy {es:Le_}{g:FL}(ha:PB X e f)(hr:PBA X es g)(hs:starEach (e::es) X.env=(false,eval e X.env)::starEach es X.env:=by rfl):PBA X (e::es) (Z6 f g):=PA.imp (Nt ha hr hs) fun σ H Q z_=>by
 obtain⟨O,d,T,R,e,q⟩:=z_
 obtain⟨x,xs,h1,h2,rfl⟩:=Z0D e
 exact⟨O,d,x,R,h1,fun v H1 s1 b1=>⟨O,d,xs,R.mono s1,h2,fun vs H2 s2 b2=>q (v::vs) H2 (s1.trans s2) (.cons (b1.mono s2) b2)⟩⟩
noncomputable def Z36 (ts:Lt_):Option (Lt_):=if ts.length≤1000000 then some ts else none
theorem Z35 {ts us:Lt_}(h:Z36 ts=some us):us=ts∧ts.length≤sizeLine:=by
 unfold Z36 at h
 split at h
 ·cases h;exact⟨rfl,Zz ‹_› (by decide)⟩
 ·cases h
noncomputable def W6 (f:FL):FD:=fun d=>((f d).bind Z36).map Th.tup
noncomputable def Wq (f:FL):FL:=fun d=>(f d).bind Z36
theorem ZcX {es:Le_}{g:FL}{x1}(h:PDA X es g):PD X (.Tuple es x1 pos) (W6 g):=PE.imp (Zgz h) fun σ H Q z_=>by
 obtain⟨O,d,T,R,e,q⟩:=z_
 unfold W6 at e
 cases hg:g d with
 |none=>rw[hg] at e;cases e
 |some ts =>
  rw[hg] at e
  cases hf:Z36 ts with
  |none=>rw[show (some ts).bind Z36=Z36 ts from rfl,hf] at e;cases e
  |some us =>
   rw[show (some ts).bind Z36=Z36 ts from rfl,hf] at e
   cases e
   obtain⟨rfl,hz⟩:=Z35 hf
   refine⟨O,d,_,R,hg,fun vs H' s b=>⟨by rw[b.length];exact hz,fun p hp=>q _ _ (s.trans (Jq.upd hp)) ?_⟩⟩
   exact .tup (SqT.of (Uh JB ((R.mono s).notOwn hp))) (b.mono (JY (Jq.upd hp)))
theorem Z4a {es:Le_}{g:FL}(h:PDA X es g):PF X (.List es pos) (Wq g):=PE.imp (ZgD h) fun σ H Q z_=>by
 obtain⟨O,d,T,R,e,q⟩:=z_
 unfold Wq at e
 cases hg:g d with
 |none=>rw[hg] at e;cases e
 |some ts =>
  rw[hg] at e
  obtain⟨rfl,hz⟩:=Z35 e
  refine⟨O,d,_,R,hg,fun vs H' s b=>⟨by rw[b.length];exact hz,fun p hp=>q _ _ (s.trans (Jq.upd hp)) ?_⟩⟩
  exact⟨p,vs,rfl,s.free hp,JB,b.mono (Qy (Jq.upd hp) hp)⟩
end
inductive Out where
 |nx (d:Sd)|rt (T:Th)|bk (d:Sd)|ct (d:Sd)|xc (c:Str)
abbrev FS:=Sd→Option Out
def Zcy (X:Cx)(x:Str)(H:Hp):Prop:=∀ (pins:Pn_) (σ:St) (s:Shared) (vs:Lu_) (h':Heap) (e C:Addr),Inv X pins σ H s→X.mg x=some (.ref C)→Heap.MadeExcOf s.heap h' e (.ref C) vs→X.xe (.ref e) { s with heap:=h' }
def ZcG.on (X:Cx)(D:ZcG)(f:Addr→Prop)(B:Hp):Out→Prop
 |.nx d=>∀ σ H O,O.far=f→Jq B (low H O)→Rep X.K H O σ d→D.nx σ H
 |.rt T=>∀ v H,Jq B H→JF X.K (less H ⟨[],f⟩) v T→D.rt v H
 |.bk d=>∀ σ H O,O.far=f→Jq B (low H O)→Rep X.K H O σ d→D.bk σ H
 |.ct d=>∀ σ H O,O.far=f→Jq B (low H O)→Rep X.K H O σ d→D.ct σ H
 |.xc c=>∀ H,Jq B H→Zcy X c H
def ZbZ (X:Cx)(F:FS):TS:=fun D σ H=>∃ O d o,Rep X.K H O σ d∧F d=some o∧D.on X O.far (low H O) o
def PDS (X:Cx)(st:Stmt)(F:FS):Prop:=PS X st (ZbZ X F)
def Zau (X:Cx)(sts:List Stmt)(F:FS):Prop:=PSs X sts (ZbZ X F)
theorem ZcG.on.mono {X:Cx}{D:ZcG}{f:Addr→Prop}{B B':Hp}{o:Out}(h:D.on X f B o)(s:Jq B B'):D.on X f B' o:=by
 cases o with
 |nx d=>exact fun σ H O hf s' r=>h σ H O hf (s.trans s') r
 |rt T=>exact fun v H s' b=>h v H (s.trans s') b
 |bk d=>exact fun σ H O hf s' r=>h σ H O hf (s.trans s') r
 |ct d=>exact fun σ H O hf s' r=>h σ H O hf (s.trans s') r
 |xc c=>exact fun H s'=>h H (s.trans s')
theorem Z2J {H:Hp}{O:Hid}:Jq (less H O) (less H ⟨[],O.far⟩):=fun b o e=>by
 obtain⟨h1,h2⟩:=of_less e
 exact Uh h1 fun z=>z.elim (fun q=>by simp at q) fun q=>h2 (.inr q)
theorem Fe.out {K:Fg_}{H:Hp}{O:Hid}{v:V}{T:Th}(h:Fe K H O v T):JF K (less H ⟨[],O.far⟩) v T:=by
 rcases h with h|⟨a,xs,ts,rfl,rfl,e3,hf,h⟩
 ·exact h.mono Z2J
 ·exact .lst (SqL.of (Uh e3 fun z=>z.elim (fun q=>by simp at q) hf)) (h.mono Z2J)
section
variable {X:Cx}{e a b:Expr}{st:Stmt}{rest sts:List Stmt}{f:FD}{F G:FS}{pos:Pos}
theorem PS.imp {t t':TS}(h:PS X st t)(i:∀ D σ H,t' D σ H→t D σ H):PS X st t':=fun pins s σ H D I q=>h pins s σ H D I (i D σ H q)
theorem PSs.imp {t t':TS}(h:PSs X sts t)(i:∀ D σ H,t' D σ H→t D σ H):PSs X sts t':=fun pins s σ H D I q=>h pins s σ H D I (i D σ H q)
noncomputable def Yt:FS:=fun d=>some (.nx d)
noncomputable def Uv (F G:FS):FS:=fun d=>(F d).bind fun o=>match o with|.nx d'=>G d'|.rt T=>some (.rt T)|.bk d'=>some (.bk d')|.ct d'=>some (.ct d')|.xc c=>some (.xc c)
theorem Zbp:Zau X [] Yt:=PSs.imp Ze8 fun D σ H z1_=>by obtain ⟨O,d,o,R,e,q⟩:=z1_;cases e;exact q σ H O rfl (Jq.refl _) R
theorem Z8z (h1:PDS X st F)(h2:Zau X rest G):Zau X (st::rest) (Uv F G):=PSs.imp (Zb7 h1 h2) fun D σ H z_=>by
 obtain⟨O,d,o,R,e,q⟩:=z_
 unfold Uv at e
 cases hF:F d with
 |none=>rw[hF] at e;cases e
 |some o1 =>
  rw[hF] at e
  refine⟨O,d,o1,R,hF,?_⟩
  cases o1 with
  |nx d'=>exact fun σ' H' O' hf s R'=>⟨O',d',o,R',e,by rw[hf];exact q.mono s⟩
  |rt T=>cases e;exact q
  |bk d'=>cases e;exact q
  |xc c=>cases e;exact q
  |ct d'=>cases e;exact q
theorem Zbo (h1:PDS X st F):Zau X [st] F:=Ze7 h1
noncomputable def Ga (f:FD):FS:=fun d=>(f d).map Out.rt
theorem Zep (h:PB X e f):PDS X (.Return (some e) pos) (Ga f):=PS.imp (Zgt h) fun D σ H z_=>by
 obtain⟨O,d,o,R,e,q⟩:=z_
 unfold Ga at e
 cases hf:f d with
 |none=>rw[hf] at e;cases e
 |some T =>
  rw[hf] at e
  cases e
  exact⟨O,d,T,R,hf,fun v H' s b=>q v H' ((Z1m H O).trans s) b.out⟩
theorem ZgN {c:Expr}{A B:List Stmt}{fc:FB}(hc:PDT X c fc)(ha:Zau X A F)(hb:Zau X B G):PDS X (.If c A B pos) (fIf fc F G):=PS.imp (ZiC hc ha hb) fun D σ H z_=>by
 obtain⟨O,d,o,R,e,q⟩:=z_
 unfold fIf at e
 cases hf:fc d with
 |none=>rw[hf] at e;cases e
 |some z =>
  rw[hf] at e
  refine⟨O,d,z,R,hf,fun H' s=>?_⟩
  cases z with
  |true=>exact⟨O,d,o,R.mono s,e,q.mono (Ui s)⟩
  |false=>exact⟨O,d,o,R.mono s,e,q.mono (Ui s)⟩
noncomputable def YJ (i:Nat)(f:FD):FS:=fun d=>(f d).map fun T=>.nx (d.set i (some (.th T)))
theorem ZaU {i:Nat}:∀ D σ H,ZbZ X (YJ i f) D σ H→ZfI (Bo X.K f) (Fm i) D σ H:=fun D σ H z_=>by
 obtain⟨O,d,o,R,e,q⟩:=z_
 unfold YJ at e
 cases hf:f d with
 |none=>rw[hf] at e;cases e
 |some T =>
  rw[hf] at e
  cases e
  exact⟨O,d,T,R,hf,fun v H' s b=>q _ H' O rfl (Ui s) ((R.mono s).set i b)⟩
theorem Zeo {i:Nat}{x:Str}{pos':Pos}(hN:X.N.Nodup)(hi:X.N[i]?=some x)(hx:Loc X.env.scope x)(he:PD X e f)(hs:swapsWith e (some (.Name x pos')) pos.line X.env=pure false)
  (hf:X.fn x=true∨X.env.scope.names.lookup x=some .local):PDS X (.Assign [.Name x pos'] e pos) (YJ i f):=PS.imp (Z8m hN hi hx he hs hf) ZaU
noncomputable def Z3P (i:Nat)(f:FL):FS:=fun d=>(f d).map fun ts=>.nx (d.set i (some (.own ts)))
theorem Rep.setOwn {K:Fg_}{H H':Hp}{O:Hid}{σ:St}{d:Sd}(r:Rep K H O σ d)(s:Jq H H')(i:Nat){v:V}{ts:Lt_}(b:ZfG K H H' O v ts) :
  ∃ a,v=.ref a∧H a=none∧Rep K H' (O.cons i a) (σ.set i (some v)) (d.set i (some (.own ts))):=by
 obtain⟨a,xs,rfl,e2,e3,b⟩:=b
 refine⟨a,rfl,e2,?_⟩
 have nf:¬ O.has a:=r.notOwn e2
 have sub:Jq (less H O) (less H' (O.cons i a)):=Qy s e2
 exact {
  len:=by rw[JM,JM];exact r.len
  th:=fun j U e=>by
   by_cases hj:i=j
   ·subst hj
    have hi:i<d.length:=by
     have:=(Zq.mp e).1
     simpa using this
    rw[Zw hi] at e
    cases e
   ·rw[Zg hj] at e
    obtain⟨w,h1,h2⟩:=r.th j U e
    exact⟨w,by rw[Zg hj];exact h1,h2.mono sub⟩
  own:=fun j us e=>by
   by_cases hj:i=j
   ·subst hj
    have hi:i<d.length:=by
     have:=(Zq.mp e).1
     simpa using this
    rw[Zw hi] at e
    cases e
    exact⟨a,xs,Z1,Zw (by rw[← r.len];exact hi),e3,fun z=>nf (.inr z),by rw[Z1o (j:=0)];exact b⟩
   ·rw[Zg hj] at e
    obtain⟨a',xs',h1,h2,h3,h4,h5⟩:=r.own j us e
    exact⟨a',xs',Z4 _ h1,by rw[Zg hj];exact h2,s _ _ h3,h4,h5.mono sub⟩
  there:=fun p hp=>by
   rcases Z1w hp with rfl|hp
   ·exact⟨_,e3⟩
   ·obtain⟨o,e⟩:=r.there p hp
    exact⟨o,s _ _ e⟩
  exc:=fun j c e=>by
   by_cases hj:i=j
   ·subst hj
    have hi:i<d.length:=by
     have:=(Zq.mp e).1
     simpa using this
    rw[Zw hi] at e
    cases e
   ·rw[Zg hj] at e
    obtain⟨a',C,h1,h2,h3⟩:=r.exc j c e
    exact⟨a',C,by rw[Zg hj];exact h1,h2,sub _ _ h3⟩
  dct:=fun j fz kvs e=>by
   by_cases hj:i=j
   ·subst hj
    rw[Zw (by simpa using (Zq.mp e).1)] at e
    cases e
   ·rw[Zg hj] at e
    obtain⟨a',h1,h2,h3,h4⟩:=r.dct j fz kvs e
    exact⟨a',Z4 _ h1,by rw[Zg hj];exact h2,h3.mono (s a'),h4⟩
  inj:=fun j k p h1 h2=>by
   have h1:(j,p)∈(i,a)::O.own:=h1
   have h2:(k,p)∈(i,a)::O.own:=h2
   have no:∀ m,(m,a)∉O.own:=fun m z=>nf (.inl (ZE.mpr ⟨_,z,rfl⟩))
   rcases Zp.mp h1 with q1|q1
   ·rcases Zp.mp h2 with q2|q2
    ·cases q1;cases q2;rfl
    ·cases q1;exact absurd q2 (no _)
   ·rcases Zp.mp h2 with q2|q2
    ·cases q2;exact absurd q1 (no _)
    ·exact r.inj j k p q1 q2 }
theorem ZbC {i:Nat}{f:FL}:∀ D σ H,ZbZ X (Z3P i f) D σ H→ZfI (Zc0 X.K f) (Fm i) D σ H:=fun D σ H z_=>by
 obtain⟨O,d,o,R,e,q⟩:=z_
 unfold Z3P at e
 cases hf:f d with
 |none=>rw[hf] at e;cases e
 |some T =>
  rw[hf] at e
  cases e
  refine⟨O,d,T,R,hf,fun v H' s b=>?_⟩
  obtain⟨a,rfl,hn,R'⟩:=R.setOwn s i b
  exact q _ H' (O.cons i a) rfl (Z9e s hn) R'
theorem Zeq {i:Nat}{f:FL}{x:Str}{pos':Pos}(hN:X.N.Nodup)(hi:X.N[i]?=some x)(hx:Loc X.env.scope x)(he:PF X e f)(hs:swapsWith e (some (.Name x pos')) pos.line X.env=pure false)
  (hf:X.fn x=true∨X.env.scope.names.lookup x=some .local):PDS X (.Assign [.Name x pos'] e pos) (Z3P i f):=PS.imp (Z8m hN hi hx he hs hf) ZbC
noncomputable def UR (i:Nat)(f:FD):FS:=fun d=>match d[i]? with
 |some (some (.own ts))=>(f d).bind fun T=>if ts.length<1000000 then some (.nx (d.set i (some (.own (ts++[T]))))) else none
 |_=>none
theorem Rep.append {K:Fg_}{H:Hp}{O:Hid}{σ:St}{d:Sd}(r:Rep K H O σ d){i:Nat}{ts:Lt_}(hd:d[i]?=some (some (.own ts))){a:Addr}{xs:Lv_}(ha:(i,a)∈O.own)(hs:σ[i]?=some (some (.ref a)))(hx:H a=some (.lst xs))(hf:¬ O.far a)(hb:J6 K (less H O) xs ts)
  {v:V} {T:Th} (b:JF K (less H O) v T):Rep K (upd H a (.lst (xs++[v]))) O σ (d.set i (some (.own (ts++[T]))))∧Jq (low H O) (low (upd H a (.lst (xs++[v]))) O):=by
 have hm:a∈O.own.map (·.2):=ZE.mpr ⟨_,ha,rfl⟩
 have sub:Jq (less H O) (less (upd H a (.lst (xs++[v]))) O):=fun p o e=>by
  obtain⟨h1,h2⟩:=of_less e
  refine Uh ?_ h2
  have np:p≠a:=fun z=>h2 (.inl (by rw[z];exact hm))
  rw[YA np];exact h1
 refine⟨{ len:=by rw[JM];exact r.len,th:=fun j U e=>?_,own:=fun j us e=>?_,there:=fun p hp=>?_,inj:=r.inj,exc:=fun j c e=>?_,dct:=fun j fz kvs e=>?_ },fun p o e=>?_⟩
 ·by_cases hj:i=j
  ·subst hj
   have hi:i<d.length:=(Zq.mp hd).1
   rw[Zw hi] at e
   cases e
  ·rw[Zg hj] at e
   obtain⟨w,h1,h2⟩:=r.th j U e
   exact⟨w,h1,h2.mono sub⟩
 ·by_cases hj:i=j
  ·subst hj
   have hi:i<d.length:=(Zq.mp hd).1
   rw[Zw hi] at e
   cases e
   exact⟨a,_,ha,hs,JB,hf,(hb.append (.cons b .nil)).mono sub⟩
  ·rw[Zg hj] at e
   obtain⟨a',xs',h1,h2,h3,h4,h5⟩:=r.own j us e
   refine⟨a',xs',h1,h2,?_,h4,h5.mono sub⟩
   have np:a'≠a:=fun z=>hj (r.inj i j a ha (by rw[← z];exact h1))
   rw[YA np];exact h3
 ·by_cases hp':p=a
  ·subst hp';exact⟨_,JB⟩
  ·obtain⟨o,e⟩:=r.there p hp
   exact⟨o,by rw[YA hp'];exact e⟩
 ·by_cases hj:i=j
  ·subst hj
   have hi:i<d.length:=(Zq.mp hd).1
   rw[Zw hi] at e
   cases e
  ·rw[Zg hj] at e
   obtain⟨a',C,h1,h2,h3⟩:=r.exc j c e
   exact⟨a',C,h1,h2,sub _ _ h3⟩
 ·by_cases hj:i=j
  ·subst hj
   rw[Zw (by simpa using (Zq.mp e).1)] at e
   cases e
  ·rw[Zg hj] at e
   obtain⟨a',h1,h2,h3,h4⟩:=r.dct j fz kvs e
   have np:a'≠a:=fun z=>hj (r.inj i j a ha (by rw[← z];exact h1))
   exact⟨a',h1,h2,h3.mono fun o q=>by rw[YA np];exact q,h4⟩
 ·obtain⟨h1,h2⟩:=Z0q e
  refine M6 ?_ h2
  have np:p≠a:=fun z=>h2 (by rw[z];exact hm)
  rw[YA np];exact h1
theorem Z6E {i:Nat} {o:Expr} {apos cpos:Pos} (ho:PE X o (ZaN i)) (he:PD X e f) (hbase:attributeBase o "append" X.env (eval o X.env)=eval o X.env)
  (hfew:((backTo cpos (starEach [e] X.env)).all (fun x=>!x.1)&&(backToKw cpos (keywordEach [] X.env)).all (fun x=>x.1.isSome)
  &&decide (([e]:Le_).length+([]:List Keyword).length+(if ([]:List Keyword).isEmpty then 0 else 1)<30))=true)
  (hline:(apos.endLine == cpos.line)=true) (hs:starEach [e] X.env=(false,eval e X.env)::starEach [] X.env) (hplain:(backTo cpos (starEach ([]:Le_) X.env)).any (·.1)=false)
  (hsw:swapsWith (.Call (.Attribute o "append" apos) [e] [] cpos) none pos.line X.env=pure false) :
  PDS X (.Expr (.Call (.Attribute o "append" apos) [e] [] cpos) pos) (UR i f) :=
 PS.imp (Z8n (Zbl Z1O PySem.F.slot_list_append PySem.F.type_list_append Z96 ho (Nt he W0 hs) hbase hfew hline hs hplain) hsw) fun D σ H z_=>by
  obtain⟨O,d,o,R,e,q⟩:=z_
  unfold UR at e
  split at e
  ·rename_i ts hd
   cases hf:f d with
   |none=>rw[hf] at e;cases e
   |some T =>
    rw[hf] at e
    obtain⟨a,xs,h1,h2,h3,h4,h5⟩:=R.own i ts hd
    change (if ts.length<1000000 then _ else _)=_ at e
    split at e
    ·rename_i hz
     cases e
     refine⟨_,h2,.inl ⟨rfl,xs,SqL.of h3⟩,O,d,T,R,hf,fun v H' s b=>⟨a,xs,v,rfl,rfl,s _ _ h3,by rw[h5.length];exact ZO hz (by decide),?_⟩⟩
     obtain⟨R',s'⟩:=(R.mono s).append hd h1 h2 (s _ _ h3) h4 (h5.mono (JY s)) b
     exact q σ _ O rfl ((Ui s).trans s') R'
    ·cases e
  ·cases e
abbrev FG:=Th→Sd→Option Sd
def ZiV (K:Fg_)(g:FG):TG:=fun v σ H Q=>∃ O d T d',Rep K H O σ d∧JF K (less H O) v T∧g T d=some d'∧∀ σ',Rep K H O σ' d'→Q σ' H
def PDG (X:Cx)(tg:Expr)(g:FG):Prop:=PG X tg (ZiV X.K g)
theorem PG.imp {tg:Expr}{t t':TG}(h:PG X tg t)(i:∀ v σ H Q,t' v σ H Q→t v σ H Q):PG X tg t':=fun pins s σ H v u Q I r q=>h pins s σ H v u Q I r (i v σ H Q q)
noncomputable def Z1x (i:Nat):FG:=fun T d=>some (d.set i (some (.th T)))
noncomputable def NX (i j:Nat):FG:=fun T d=>match T with|.tup [x,y]=>some ((d.set i (some (.th x))).set j (some (.th y)))|_=>none
theorem Zev {i:Nat}{x:Str}(hN:X.N.Nodup)(hi:X.N[i]?=some x)(hx:Loc X.env.scope x)(hf:X.fn x=true∨X.env.scope.names.lookup x=some .local):PDG X (.Name x pos) (Z1x i) :=
 PG.imp (Mm hN hi hx hf) fun v σ H Q z1_=>by obtain ⟨O,d,T,d',R,b,e,q⟩:=z1_;cases e;exact q _ (R.set i b)
theorem J6.two {K:Fg_}{H:Hp}{xs:Lv_}{x y:Th}(h:J6 K H xs [x,y]):∃ v w,xs=[v,w]∧JF K H v x∧JF K H w y:=by
 cases h with
 |cons h1 r=>cases r with
  |cons h2 r2=>cases r2;exact⟨_,_,rfl,h1,h2⟩
theorem Zbx {i j:Nat}{x y:Str}{px py:Pos}{k:Nat}(hc:X.calm=true)(hN:X.N.Nodup)(hi:X.N[i]?=some x)(hj:X.N[j]?=some y)(hx:Loc X.env.scope x)(hy:Loc X.env.scope y)
  (h:PG X (.Tuple [.Name x px,.Name y py] k pos) (Zj2 X.K 2 (Z9J (Fm i) (Z9J (Fm j) Zj3)))):PDG X (.Tuple [.Name x px,.Name y py] k pos) (NX i j) :=
 PG.imp h fun v σ H Q z_=>by
  obtain⟨O,d,T,d',R,b,e,q⟩:=z_
  unfold NX at e
  split at e
  ·cases e
   cases b with
   |tup e' b' =>
    obtain⟨v1,v2,rfl,b1,b2⟩:=b'.two
    exact⟨_,_,rfl,(Jp H O).seqT e',rfl,v1,_,rfl,v2,_,rfl,rfl,q _ ((R.set i b1).set j b2)⟩
  ·cases e
structure ZcE (K:Fg_)(J:It)(B:Hp)(f:Addr→Prop)(ts:Lt_):Prop where
 go:∀ i H,Jq B H→i<ts.length→J.go i H
 stop:∀ H,Jq B H→J.stop ts.length H
 yld:∀ i H O x H',i<ts.length→O.far=f→Jq B (low H O)→(∀ p,H p=none→¬ O.has p)→J.yld i H x H'→Jq H H'∧∃ T,ts[i]?=some T∧JF K (less H' O) x T
def Zhj (K:Fg_)(f:FL):TI:=fun σ H R=>∃ O d ts,Rep K H O σ d∧f d=some ts∧∀ J H',Jq H H'→ZcE K J (low H' O) O.far ts→R J H'
def PDI (X:Cx)(tg iter:Expr)(f:FL):Prop:=PI X tg iter (Zhj X.K f)
theorem PI.imp {tg iter:Expr}{t t':TI}(h:PI X tg iter t)(i:∀ σ H R,t' σ H R→t σ H R):PI X tg iter t':=fun pins s σ H R I q=>h pins s σ H R I (i σ H R q)
noncomputable def W1 (g:FG)(F:FS):Lt_→Sd→Option Out
 |[],d=>some (.nx d)
 |t::r,d=>(g t d).bind fun d1=>(F d1).bind fun o=>match o with|.nx d'=>W1 g F r d'|.ct d'=>W1 g F r d'|.bk d'=>some (.nx d')|.rt T=>some (.rt T)|.xc c=>some (.xc c)
noncomputable def Z0C (fi:FL)(g:FG)(F:FS):FS:=fun d=>(fi d).bind fun ts=>W1 g F ts d
theorem Zer {tg iter:Expr}{body:List Stmt}{fi:FL}{g:FG}(hp:YZ (model X.prog X.w) X.A X.env X.xe)(hc:X.calm=true)(hi:PDI X tg iter fi)(hg:PDG X tg g)(hb:Zau X body F)
  (hs:∀ x,foldedSetIterable iter X.env x=pure x):PDS X (.For tg iter body [] pos) (Z0C fi g F):=PS.imp (Zgu hp hc hi hg hb hs) fun D σ H z_=>by
 obtain⟨O,d,o,R,e,q⟩:=z_
 unfold Z0C at e
 cases hfi:fi d with
 |none=>rw[hfi] at e;cases e
 |some ts =>
  rw[hfi] at e
  change W1 g F ts d=some o at e
  refine⟨O,d,ts,R,hfi,fun J H1 s1 ok=>⟨fun i m σ' H'=>m=ts.length-i∧i≤ts.length∧∃ O' d',O'.far=O.far∧Rep X.K H' O' σ' d'∧Jq (low H1 O) (low H' O')∧W1 g F (ts.drop i) d'=some o,⟨ts.length,rfl,Jv _,O,d,rfl,R.mono s1,Jq.refl _,e⟩,?_⟩⟩
  rintro i m σ' H' ⟨rfl,hi,O',d',hf',R',s',e'⟩
  have sB:Jq (low H1 O) H':=s'.trans (Z1m H' O')
  by_cases hlt:i<ts.length
  ·rw[YS hlt] at e'
   unfold W1 at e'
   cases hgd:g ts[i] d' with
   |none=>rw[hgd] at e';cases e'
   |some d1 =>
    rw[hgd] at e'
    change ((F d1).bind _)=_ at e'
    cases hF:F d1 with
    |none=>rw[hF] at e';cases e'
    |some o1 =>
     rw[hF] at e'
     refine .inr ⟨ok.go i H' sB hlt,fun σ2 H2=>∃ O2 d2,O2.far=O.far∧Rep X.K H2 O2 σ2 d2∧Jq (low H1 O) (low H2 O2)∧W1 g F (ts.drop (i+1)) d2=some o,fun σ2 H2 ⟨O2,d2,h1,h2,h3,h4⟩=>⟨ts.length-(i+1),by omega,rfl,hlt,O2,d2,h1,h2,h3,h4⟩,fun x Hx hy=>?_⟩
     obtain⟨sx,T,hT,bx⟩:=ok.yld i H' O' x Hx hlt hf' s' (fun p hp=>R'.notOwn hp) hy
     rw[Za hlt] at hT
     cases hT
     refine⟨O',d',_,d1,R'.mono sx,bx,hgd,fun σ1 R1=>⟨O',d1,o1,R1,hF,?_⟩⟩
     have sx':Jq (low H1 O) (low Hx O'):=s'.trans (Ui sx)
     cases o1 with
     |nx d2=>exact fun σ2 H2 O2 hf2 s2 R2=>⟨O2,d2,hf2.trans hf',R2,sx'.trans s2,e'⟩
     |ct d2=>exact fun σ2 H2 O2 hf2 s2 R2=>⟨O2,d2,hf2.trans hf',R2,sx'.trans s2,e'⟩
     |bk d2=>cases e';exact fun σ2 H2 O2 hf2 s2 R2=>q σ2 H2 O2 (hf2.trans hf') (((Ui s1).trans sx').trans s2) R2
     |xc c=>cases e';exact fun H2 s2=>q H2 (((Ui s1).trans sx').trans s2)
     |rt T2=>cases e';rw[hf'];exact fun v H2 s2 b2=>q v H2 (((Ui s1).trans sx').trans s2) b2
  ·have e1:i=ts.length:=by lia
   subst e1
   rw[Mu] at e'
   cases e'
   exact .inl ⟨ok.stop H' sB,q σ' H' O' hf' ((Ui s1).trans s') R'⟩
end
noncomputable def Its (x:Str):It:=⟨fun i _=>i<x.cps.size,fun i H v H'=>H'=H∧∃ c,x.cps[i]?=some c∧v=.str ⟨#[c]⟩,fun i _=>i=x.cps.size⟩
theorem DD {prog:Program}{w:World}{A:Around}(hh:A.handled=none)(I:Addr)(x:Str)(t:Tok) :
  Walks prog w A I [I] [I] x.cps.size (SignAt x) (fun i h=>h.IsStrIter I (strIterType x) x t i):=by
 cases ha:x.cps.all (·<128)
 ·have e:strIterType x="str_iterator":=by simp[strIterType,ha]
  rw[e];exact Walks.strWide hh I x t
 ·have e:strIterType x="str_ascii_iterator":=by simp[strIterType,ha]
  rw[e];exact Walks.strAscii hh I x t
theorem Z22 {prog:Program}{w:World}{A:Around}{E:Ps_}{s:Shared}{I:Addr}{x:Str}{t:Tok}{i:Nat}{Q:Ps_}(h:s.heap.IsStrIter I (strIterType x) x t i)(q:Q (.ref I) s):wpAny (model prog w) A (pyIter (.ref I)) Q E s:=by
 cases ha:x.cps.all (·<128)
 ·have e:strIterType x="str_iterator":=by simp[strIterType,ha]
  rw[e] at h;exact wpAny_pyIter_striter_wide h q
 ·have e:strIterType x="str_ascii_iterator":=by simp[strIterType,ha]
  rw[e] at h;exact wpAny_pyIter_striter_ascii h q
theorem ZaH {P:Program}{w:World}{K:Fg_}{y:Str}{py:Pos}(x:Str)(t:Tok)(it:Addr):Zct P w K (.Name y py) (Its x) [it] it (fun i h=>h.IsStrIter it (strIterType x) x t i) where
 mem:=by simp
 obj:=fun i h st b hb=>by
  have e:b=it:=by simpa using hb
  subst e
  obtain⟨o,e,c,d⟩:=st
  exact⟨o,e,fun v z=>by rw[d] at z;cases z⟩
 keep:=fun i h h' st k=>by
  obtain⟨o,e,r⟩:=st
  exact⟨o,k it (by simp) o e,r⟩
 item:=by
  intro X hP hw hK hc i pins s σ H E I hf st hg
  subst hP hw hK
  obtain⟨f0,f1,f2,f3,f4,f5⟩:=hf it (by simp)
  refine (DD (I.ok.hd hc) it x t).item i s _ _ hg st fun v h' tk hv st' kk=>?_
  obtain⟨c,u,hcc,rfl⟩:=hv
  have I1:Inv X pins σ H { s with heap:=h',toks:=tk }:=I.turned (fun b o hb e=>kk b o (by simpa using hb) e) f0 f1 f3 f4 f5
  exact⟨_,rfl,Z5 ⟨.str ⟨#[c]⟩,H,I1,⟨u,rfl⟩,⟨rfl,c,hcc,rfl⟩,st',fun b hb=>(hf b hb).1⟩⟩
 done:=by
  intro X hP hw hK hc i pins s σ H E I hf st hg
  subst hP hw hK
  obtain⟨f0,f1,f2,f3,f4,f5⟩:=hf it (by simp)
  have hg':i=x.cps.size:=hg
  subst hg'
  exact (DD (I.ok.hd hc) it x t).done s _ _ st fun h' tk kk=>⟨rfl,I.turned (fun b o hb e=>kk b o (by simpa using hb) e) f0 f1 f3 f4 f5⟩
 self:=fun _ _ _ _ _ st h=>Z22 st h
def Zk3 (tl:TE):TI:=fun σ H R=>tl σ H fun v H1=>∃ x,v=.str x∧R (Its x) H1
theorem Zgw {X:Cx}{y:Str}{py:Pos}{l:Expr}{tl:TE}(hl:PE X l tl):PI X (.Name y py) l (Zk3 tl):=by
 intro pins s σ H R I h
 refine thn (hl pins s σ H _ I h) fun v s1 z1_=>?_
 obtain ⟨x,H1,I1,r1,q1⟩:=z1_
 obtain⟨z,rfl,q⟩:=q1
 obtain⟨t,rfl⟩:=r1
 refine wpAny_pyIter_strU ?_
 refine⟨s1.heap.objs.size,[s1.heap.objs.size],_,_,H1,rfl,I1.kept (t':=s1.toks) fun b o e=>Z2 _ e,ZaH z t _,⟨_,Zu _ rfl,rfl,rfl⟩,fun b hb=>?_,q⟩
 have e:b=s1.heap.objs.size:=by simpa using hb
 subst e
 exact I1.fpOk (Zc _) (I1.hok.fresh (Zc _))
theorem PI.or {X:Cx}{tg l:Expr}{t t':TI}(h:PI X tg l t)(h':PI X tg l t'):PI X tg l (fun σ H R=>t σ H R∨t' σ H R):=fun pins s σ H R I q=>q.elim (h pins s σ H R I) (h' pins s σ H R I)
noncomputable def signs (x:Str):Lt_:=x.cps.toList.map fun c=>.str ⟨#[c]⟩
noncomputable def Z9y:Th→Option (Lt_)
 |.lst ts=>some ts
 |.tup ts=>some ts
 |.str x=>some (signs x)
 |_=>none
noncomputable def YW (f:FD):FL:=fun d=>(f d).bind Z9y
section
variable {X:Cx}{tg l:Expr}{f:FD}{K:Fg_}
theorem Z2Q {H:Hp}{O:Hid}{a:Addr}{xs:Lv_}{ts:Lt_}(h:SqL K (less H O) a xs)(b:J6 K (less H O) xs ts):ZcE K (Itl K a) (low H O) O.far ts where
 go:=fun i H' s hi=>by
  have hl:SqL K H' a xs:=by
   rcases h with (h|⟨o,h⟩)|h
   ·exact .inl (.inl (s _ _ (M6 (of_less h).1 fun z=>(of_less h).2 (.inl z))))
   ·exact .inl (.inr ⟨o,s _ _ (M6 (of_less h).1 fun z=>(of_less h).2 (.inl z))⟩)
   ·exact .inr h
  have hi':i<xs.length:=by rw[b.length];exact hi
  exact⟨xs,xs[i],hl,by simp[hi']⟩
 stop:=fun H' s=>by
  have hl:SqL K H' a xs:=by
   rcases h with (h|⟨o,h⟩)|h
   ·exact .inl (.inl (s _ _ (M6 (of_less h).1 fun z=>(of_less h).2 (.inl z))))
   ·exact .inl (.inr ⟨o,s _ _ (M6 (of_less h).1 fun z=>(of_less h).2 (.inl z))⟩)
   ·exact .inr h
  exact⟨xs,hl,by rw[b.length];exact Zc _⟩
 yld:=fun i H' O' x H'' hi hf s _ y=>by
  obtain⟨e,y⟩:=y
  subst e
  have sl:Jq (less H O) (less H'' O'):=Z5G s hf
  have hx:=y xs ((Jp H'' O').seq (sl.seq h))
  obtain⟨T,h1,h2⟩:=b.got hx
  exact⟨Jq.refl _,T,h1,h2.mono sl⟩
theorem FH {H:Hp}{O:Hid}{a:Addr}{xs:Lv_}{ts:Lt_}(h:SqT K (less H O) a xs)(b:J6 K (less H O) xs ts):ZcE K (Itt K a) (low H O) O.far ts where
 go:=fun i H' s hi=>by
  have hl:SqT K H' a xs:=by
   rcases h with (h|⟨o,h⟩)|h
   ·exact .inl (.inl (s _ _ (M6 (of_less h).1 fun z=>(of_less h).2 (.inl z))))
   ·exact .inl (.inr ⟨o,s _ _ (M6 (of_less h).1 fun z=>(of_less h).2 (.inl z))⟩)
   ·exact .inr h
  have hi':i<xs.length:=by rw[b.length];exact hi
  exact⟨xs,xs[i],hl,by simp[hi']⟩
 stop:=fun H' s=>by
  have hl:SqT K H' a xs:=by
   rcases h with (h|⟨o,h⟩)|h
   ·exact .inl (.inl (s _ _ (M6 (of_less h).1 fun z=>(of_less h).2 (.inl z))))
   ·exact .inl (.inr ⟨o,s _ _ (M6 (of_less h).1 fun z=>(of_less h).2 (.inl z))⟩)
   ·exact .inr h
  exact⟨xs,hl,by rw[b.length];exact Zc _⟩
 yld:=fun i H' O' x H'' hi hf s _ y=>by
  obtain⟨e,y⟩:=y
  subst e
  have sl:Jq (less H O) (less H'' O'):=Z5G s hf
  have hx:=y xs ((Jp H'' O').seqT (sl.seqT h))
  obtain⟨T,h1,h2⟩:=b.got hx
  exact⟨Jq.refl _,T,h1,h2.mono sl⟩
theorem Z5K {H:Hp}{O:Hid}(x:Str):ZcE K (Its x) (low H O) O.far (signs x) where
 go:=fun i H' s hi=>by
  show i<x.cps.size
  simpa [signs] using hi
 stop:=fun H' s=>by
  show (signs x).length=x.cps.size
  simp[signs]
 yld:=fun i H' O' v H'' hi hf s _ y=>by
  obtain⟨e,c,hc,e2⟩:=y
  subst e e2
  refine⟨Jq.refl _,.str ⟨#[c]⟩,?_,.str _⟩
  have hc':x.cps.toList[i]?=some c:=by simpa using hc
  simp only[signs,Jc,hc',Z7]
theorem Zeu {y:Str}{py:Pos}(h:PD X l f):PDI X (.Name y py) l (YW f):=PI.imp ((Z8w h).or ((ZcW h).or (Zgw h))) fun σ H R z_=>by
 obtain⟨O,d,ts,r,e,q⟩:=z_
 unfold YW at e
 cases hf:f d with
 |none=>rw[hf] at e;cases e
 |some T =>
  rw[hf] at e
  change Z9y T=some ts at e
  cases T with
  |lst us=>cases e;exact .inl ⟨O,d,_,r,hf,fun v H' s b=>by cases b with|lst e' b'=>exact⟨_,rfl,⟨_,(Jp H' O).seq e'⟩,q _ H' s (Z2Q e' b')⟩⟩
  |tup us=>cases e;exact .inr (.inl ⟨O,d,_,r,hf,fun v H' s b=>by cases b with|tup e' b'=>exact⟨_,rfl,⟨_,(Jp H' O).seqT e'⟩,q _ H' s (FH e' b')⟩⟩)
  |str x=>cases e;exact .inr (.inr ⟨O,d,_,r,hf,fun v H' s b=>by cases b;exact⟨x,rfl,q _ H' s (Z5K x)⟩⟩)
  |_=>cases e
noncomputable def Bs (f:FD):FL:=fun d=>(f d).bind fun T=>match T with|.lst ts=>some ts|.tup ts=>some ts|_=>none
theorem Zet (h:PD X l f):PDI X tg l (Bs f):=PI.imp ((Z8w h).or (ZcW h)) fun σ H R z_=>by
 obtain⟨O,d,ts,r,e,q⟩:=z_
 unfold Bs at e
 cases hf:f d with
 |none=>rw[hf] at e;cases e
 |some T =>
  rw[hf] at e
  cases T with
  |lst us=>cases e;exact .inl ⟨O,d,_,r,hf,fun v H' s b=>by cases b with|lst e' b'=>exact⟨_,rfl,⟨_,(Jp H' O).seq e'⟩,q _ H' s (Z2Q e' b')⟩⟩
  |tup us=>cases e;exact .inr ⟨O,d,_,r,hf,fun v H' s b=>by cases b with|tup e' b'=>exact⟨_,rfl,⟨_,(Jp H' O).seqT e'⟩,q _ H' s (FH e' b')⟩⟩
  |_=>cases e
noncomputable def upTo (n:Nat):Lt_:=(Jg n).map fun (k:Nat)=>Th.int ((k:Nat):Int)
theorem Z6X {H:Hp}{O:Hid}(n:Nat):ZcE K (Itr 0 n) (low H O) O.far (upTo n) where
 go:=fun i H' s hi=>by
  show i<n
  simpa [upTo] using hi
 stop:=fun H' s=>by
  show n≤(upTo n).length
  simp[upTo]
 yld:=fun i H' O' v H'' hi hf s _ y=>by
  obtain⟨e,e2⟩:=y
  subst e e2
  refine⟨Jq.refl _,.int (0+i),?_,.int _⟩
  have hi':i<n:=by simpa [upTo] using hi
  simp[upTo,hi']
noncomputable def Gy (f:FD):FL:=fun d=>(f d).bind fun T=>match T with|.int j=>if j≤1000000∧-1000000≤j then some (upTo j.toNat) else none|_=>none
theorem Z6G {a:Expr} {p pos:Pos} (hg:Gl X "range") (hm:X.mg "range"=none) (ha:PD X a f) (hs:starEach [a] X.env=[(false,eval a X.env)]) (hs1:starEach [a] X.env=(false,eval a X.env)::starEach [] X.env):PDI X tg (.Call (.Name "range" p) [a] [] pos) (Gy f) :=
 PI.imp (Z8v hg hm (Nt ha W0 hs1) hs) fun σ H R z_=>by
  obtain⟨O,d,ts,r,e,q⟩:=z_
  unfold Gy at e
  cases hf:f d with
  |none=>rw[hf] at e;cases e
  |some T =>
   rw[hf] at e
   cases T with
   |int j =>
    change (if j≤1000000∧-1000000≤j then _ else _)=_ at e
    split at e
    ·rename_i hj
     cases e
     exact⟨O,d,.int j,r,hf,fun v H' s b=>by
      cases b
      exact⟨j,rfl,by lia,by lia,q _ H' s (Z6X _)⟩⟩
    ·cases e
   |_=>cases e
theorem Rep.shift {H:Hp}{O:Hid}{σ:St}{d:Sd}(r:Rep K H O σ d)(pre:List (Option V))(pd:List (Option Dv))(hl:pd.length=pre.length)(hp:∀ (i:Nat) (T:Th),pd[i]?=some (some (Dv.th T))→∃ v,pre[i]?=some (some v)∧JF K (less H O) v T)(hn:(∀ (i:Nat) (ts:Lt_),pd[i]?≠some (some (Dv.own ts)))∧(∀ (i:Nat) (c:Str),pd[i]?≠some (some (Dv.exc c)))∧∀ (i:Nat) (fz:Bool) (kvs:List (Str×Th)),pd[i]?≠some (some (Dv.dct fz kvs))) :
  Rep K H ⟨O.own.map fun p=>(pre.length+p.1,p.2),O.far⟩ (pre++σ) (pd++d)∧less H ⟨O.own.map fun p=>(pre.length+p.1,p.2),O.far⟩=less H O:=by
 have hh:∀ b,Hid.has ⟨O.own.map fun p=>(pre.length+p.1,p.2),O.far⟩ b↔O.has b:=fun b=>by
  unfold Hid.has
  simp only[Jh]
  rfl
 have hle:less H ⟨O.own.map fun p=>(pre.length+p.1,p.2),O.far⟩=less H O:=by
  funext b
  unfold less
  by_cases z:O.has b
  ·rw[if_pos z,if_pos ((hh b).mpr z)]
  ·rw[if_neg z,if_neg (fun q=>z ((hh b).mp q))]
 refine⟨{ len:=by rw[Zf,Zf,hl,r.len],th:=fun i T e=>?_,own:=fun i ts e=>?_,there:=fun a h=>r.there a ((hh a).mp h),inj:=fun i j a h1 h2=>?_,exc:=fun i c e=>?_,dct:=fun i fz kvs e=>?_ },hle⟩
 ·rw[hle]
  by_cases hi:i<pd.length
  ·rw[ZU hi] at e
   obtain⟨v,h1,h2⟩:=hp i T e
   exact⟨v,by rw[ZU (by lia)];exact h1,h2⟩
  ·rw[ZD (by exact Yp ‹_›)] at e
   obtain⟨v,h1,h2⟩:=r.th _ T e
   exact⟨v,by rw[ZD (by lia),← hl];exact h1,h2⟩
 ·rw[hle]
  by_cases hi:i<pd.length
  ·rw[ZU hi] at e
   exact absurd e (hn.1 i ts)
  ·rw[ZD (by lia)] at e
   obtain⟨a,xs,h1,h2,h3,h4,h5⟩:=r.own _ ts e
   refine⟨a,xs,ZE.mpr ⟨_,h1,?_⟩,by rw[ZD (by lia),← hl];exact h2,h3,h4,h5⟩
   simp only[Ny,and_true]
   lia
 ·obtain⟨p,hp1,e1⟩:=ZE.mp h1
  obtain⟨q,hq1,e2⟩:=ZE.mp h2
  injection e1 with a1 a2
  injection e2 with b1 b2
  have e:p.1=q.1:=r.inj p.1 q.1 a (by rw[← a2];exact hp1) (by rw[← b2];exact hq1)
  lia
 ·rw[hle]
  by_cases hi:i<pd.length
  ·rw[ZU hi] at e
   exact absurd e (hn.2.1 i c)
  ·rw[ZD (by lia)] at e
   obtain⟨a,C,h1,h2⟩:=r.exc _ c e
   exact⟨a,C,by rw[ZD (by lia),← hl];exact h1,h2⟩
 ·by_cases hi:i<pd.length
  ·rw[ZU hi] at e
   exact absurd e (hn.2.2 i fz kvs)
  ·rw[ZD (by lia)] at e
   obtain⟨a,h1,h2,h3⟩:=r.dct _ fz kvs e
   refine⟨a,ZE.mpr ⟨_,h1,?_⟩,by rw[ZD (by lia),← hl];exact h2,h3⟩
   simp only[Ny,and_true]
   lia
noncomputable def GJ:FB:=fun _=>some true
noncomputable def Nh (g:Th→Option (List (Option Dv)))(ft:FB)(fe:FD)(d:Sd):Lt_→Option (Lt_)
 |[]=>some []
 |t::r=>(g t).bind fun p=>(ft (p++d)).bind fun c=>if c=true then (fe (p++d)).bind fun y=>(Nh g ft fe d r).bind fun ys=>some (y::ys) else Nh g ft fe d r
noncomputable def g1:Th→Option (List (Option Dv)):=fun T=>some [some (.th T)]
noncomputable def g2:Th→Option (List (Option Dv)):=fun T=>match T with|.tup [x,y]=>some [some (.th x),some (.th y)]|_=>none
noncomputable def Ua (g:Th→Option (List (Option Dv)))(fi:FL)(ft:FB)(fe:FD):FL:=fun d=>(fi d).bind fun ts=>if ts.length≤1000000 then Nh g ft fe d ts else none
structure ZcH (K:Fg_)(k:Nat)(g:TG)(gd:Th→Option (List (Option Dv))):Prop where
 run:∀ (H:Hp) (O:Hid) (v:V) (T:Th) (p:List (Option Dv)) (σ:St) (Q:St→Hp→Prop),JF K (less H O) v T→gd T=some p →
  (∀ pre:List (Option V),pre.length=k→p.length=k→(∀ (i:Nat) (T:Th),p[i]?=some (some (Dv.th T))→∃ v,pre[i]?=some (some v)∧JF K (less H O) v T)→((∀ (i:Nat) (ts:Lt_),p[i]?≠some (some (Dv.own ts)))∧(∀ (i:Nat) (c:Str),p[i]?≠some (some (Dv.exc c)))∧∀ (i:Nat) (fz:Bool) (kvs:List (Str×Th)),p[i]?≠some (some (Dv.dct fz kvs)))→Q (pre++σ) H)→g v (Zn k none++σ) H Q
theorem Zdo:ZcH K 1 (Fm 0) g1:=⟨fun H O v T p σ Q b e q=>by
 cases e
 refine q [some v] rfl rfl (fun i T e=>?_) ⟨fun i ts e=>?_,fun i ts e=>?_,fun i fz ts e=>?_⟩
 ·cases i with
  |zero=>cases e;exact⟨v,rfl,b⟩
  |succ i=>simp at e
 ·cases i with
  |zero=>cases e
  |succ i=>simp at e
 ·cases i with
  |zero=>cases e
  |succ i=>simp at e
 ·cases i with
  |zero=>cases e
  |succ i=>simp at e⟩
theorem Z9X:ZcH K 2 (Zj2 K 2 (Z9J (Fm 0) (Z9J (Fm 1) Zj3))) g2:=⟨fun H O v T p σ Q b e q=>by
 unfold g2 at e
 split at e
 ·cases e
  cases b with
  |tup e' b' =>
   obtain⟨v1,v2,rfl,b1,b2⟩:=b'.two
   refine⟨_,_,rfl,(Jp H O).seqT e',rfl,v1,_,rfl,v2,_,rfl,rfl,?_⟩
   refine q [some v1,some v2] rfl rfl (fun i T e=>?_) ⟨fun i ts e=>?_,fun i ts e=>?_,fun i fz ts e=>?_⟩
   ·cases i with
    |zero=>cases e;exact⟨v1,rfl,b1⟩
    |succ i=>cases i with
     |zero=>cases e;exact⟨v2,rfl,b2⟩
     |succ i=>simp at e
   ·cases i with
    |zero=>cases e
    |succ i=>cases i with
     |zero=>cases e
     |succ i=>simp at e
   ·cases i with
    |zero=>cases e
    |succ i=>cases i with
     |zero=>cases e
     |succ i=>simp at e
   ·cases i with
    |zero=>cases e
    |succ i=>cases i with
     |zero=>cases e
     |succ i=>simp at e
 ·cases e⟩
structure Zji (K:Fg_)(J:It)(B:Hp)(O:Hid)(ts:Lt_):Prop where
 go:∀ i H,Jq B H→i<ts.length→J.go i H
 stop:∀ H,Jq B H→J.stop ts.length H
 yld:∀ i H x H',i<ts.length→Jq B H→(∀ p,H p=none→¬ O.has p)→J.yld i H x H'→Jq H H'∧∃ T,ts[i]?=some T∧JF K (less H' O) x T
def Z9f (K:Fg_)(f:FL):TI:=fun σ H R=>∃ O d ts,Rep K H O σ d∧f d=some ts∧∀ J H',Jq H H'→Zji K J H' O ts→R J H'
theorem Zhw {f:FL}:∀ σ H R,Z9f K f σ H R→Zhj K f σ H R:=fun σ H R ⟨O,d,ts,r,e,q⟩=>⟨O,d,ts,r,e,fun J H' s ok=>q J H' s
 ⟨fun i H2 s2 hi=>ok.go i H2 ((Z1m H' O).trans s2) hi,fun H2 s2=>ok.stop H2 ((Z1m H' O).trans s2),fun i H2 x H3 hi s2 hn hy=>ok.yld i H2 O x H3 hi rfl (Ui s2) hn hy⟩⟩
theorem Rep.hid {H:Hp}{O:Hid}{σ:St}{d:Sd}(r:Rep K H O σ d):∀ m:List Nat,Rep K H O (Z3O m σ) (Z3O m d)
 |[]=>r
 |j::m=>by
  replace r:=r.hid m
  show Rep K H O ((Z3O m σ).set j none) ((Z3O m d).set j none)
  generalize Z3O m σ=σ at r
  generalize Z3O m d=d at r
  have ne:∀ {i:Nat} {D:Dv},(d.set j none)[i]?=some (some D)→j≠i∧d[i]?=some (some D):=by
   intro i D e
   by_cases z:j=i
   ·subst z
    by_cases q:j<d.length
    ·rw[Zw q] at e;cases e
    ·rw[UK (by rw[JM];exact Yp ‹_›)] at e;cases e
   ·rw[Zg z] at e;exact⟨z,e⟩
  refine { len:=by rw[JM,JM];exact r.len,th:=fun i T e=>?_,own:=fun i ts e=>?_,there:=r.there,inj:=r.inj,exc:=fun i c e=>?_,dct:=fun i fz kvs e=>?_ }
  ·obtain⟨z,e⟩:=ne e
   rw[Zg z];exact r.th i T e
  ·obtain⟨z,e⟩:=ne e
   rw[Zg z];exact r.own i ts e
  ·obtain⟨z,e⟩:=ne e
   rw[Zg z];exact r.exc i c e
  ·obtain⟨z,e⟩:=ne e
   rw[Zg z];exact r.dct i fz kvs e
noncomputable def BW (m:List Nat)(g:Th→Option (List (Option Dv)))(fi:FL)(ft:FB)(fe:FD):FL:=fun d=>(fi d).bind fun ts=>if ts.length≤1000000 then Nh g ft fe (Z3O m d) ts else none
theorem Z0G {m:List Nat}{k:Nat}{g:TG}{gd:Th→Option (List (Option Dv))}(G:ZcH K k g gd){fi:FL}{ft:FB}{fe:FD}:∀ σ H Q,Zc0 K (BW m gd fi ft fe) σ H Q→Z7M m k (Z9f K fi) g (liftT K ft) (Bo K fe) σ H Q:=fun σ H Q z_=>by
 obtain⟨O,d,us,R,e,q⟩:=z_
 unfold BW at e
 cases hfi:fi d with
 |none=>rw[hfi] at e;cases e
 |some ts =>
  rw[hfi] at e
  change (if ts.length≤1000000 then Nh gd ft fe (Z3O m d) ts else none)=some us at e
  split at e
  ·rename_i hz
   refine⟨O,d,ts,R,hfi,?_⟩
   replace R:=R.hid m
   generalize Z3O m d=d at R e
   generalize Z3O m σ=σ at R
   refine fun J H1 s1 ok=>⟨fun i m ys H'=>m=ts.length-i∧i≤ts.length∧Jq H1 H'∧ys.length≤i∧∃ as rest,J6 K (less H' O) ys as∧Nh gd ft fe d (ts.drop i)=some rest∧as++rest=us,⟨ts.length,rfl,Jv _,Jq.refl _,Zc _,[],us,.nil,e,rfl⟩,?_⟩
   rintro i m ys H' ⟨rfl,hi,s',hy,as,rest,b,er,eu⟩
   refine⟨Zz hy (Zz hi (Zz hz (by decide))),?_⟩
   have R':Rep K H' O σ d:=R.mono (s1.trans s')
   by_cases hlt:i<ts.length
   ·rw[YS hlt] at er
    unfold Nh at er
    cases hg:gd ts[i] with
    |none=>rw[hg] at er;cases er
    |some p =>
     rw[hg] at er
     change ((ft (p++d)).bind _)=_ at er
     refine .inr ⟨ok.go i H' s' hlt,fun x Hx hyl=>?_⟩
     obtain⟨sx,T,hT,bx⟩:=ok.yld i H' x Hx hlt s' (fun p hp=>R'.notOwn hp) hyl
     rw[Za hlt] at hT
     cases hT
     refine G.run Hx O x _ p σ _ bx hg fun pre hpl hpd hb hn=>?_
     obtain⟨RS,hle⟩:=(R'.mono sx).shift pre p (by lia) hb hn
     refine⟨⟨by rw[Zf,hpl],by rw[← hpl,Ma]⟩,?_⟩
     cases hft:ft (p++d) with
     |none=>rw[hft] at er;cases er
     |some c =>
      rw[hft] at er
      refine⟨_,_,c,RS,hft,fun H3 s3=>?_⟩
      cases c with
      |false =>
       rw[if_neg JN] at *
       refine⟨ts.length-(i+1),by lia,rfl,hlt,(s'.trans sx).trans s3,Nat.le_succ_of_le hy,as,rest,b.mono (JY (sx.trans s3)),er,eu⟩
      |true =>
       rw[if_pos rfl] at *
       cases hfe:fe (p++d) with
       |none=>rw[show (some true).bind (fun c=>if c=true then (fe (p++d)).bind fun y=>(Nh gd ft fe d (ts.drop (i+1))).bind fun ys=>some (y::ys) else Nh gd ft fe d (ts.drop (i+1)))=(fe (p++d)).bind fun y=>(Nh gd ft fe d (ts.drop (i+1))).bind fun ys=>some (y::ys) from rfl,hfe] at er;cases er
       |some y =>
        rw[show (some true).bind (fun c=>if c=true then (fe (p++d)).bind fun y=>(Nh gd ft fe d (ts.drop (i+1))).bind fun ys=>some (y::ys) else Nh gd ft fe d (ts.drop (i+1)))=(fe (p++d)).bind fun y=>(Nh gd ft fe d (ts.drop (i+1))).bind fun ys=>some (y::ys) from rfl,hfe] at er
        cases hr:Nh gd ft fe d (ts.drop (i+1)) with
        |none=>rw[hr] at er;cases er
        |some rs =>
         rw[hr] at er
         cases er
         refine⟨_,_,y,RS.mono s3,hfe,fun v H4 s4 b4=>⟨ts.length-(i+1),by lia,rfl,hlt,((s'.trans sx).trans s3).trans s4,by rw[Zf];simp;omega,as++[y],rs,?_,hr,by rw[Z8];exact eu⟩⟩
         have b4':JF K (less H4 O) v y:=by
          have:less H4 ⟨O.own.map fun p=>(pre.length+p.1,p.2),O.far⟩=less H4 O:=((R'.mono ((sx.trans s3).trans s4)).shift pre p (by lia) (fun i T e=>let ⟨v,h1,h2⟩:=hb i T e;⟨v,h1,h2.mono (JY (s3.trans s4))⟩) hn).2
          rw[← this];exact b4
         exact (b.mono (JY ((sx.trans s3).trans s4))).append (.cons b4' .nil)
   ·have e1:i=ts.length:=by lia
    subst e1
    rw[Mu] at er
    cases er
    rw[Uq] at eu
    subst eu
    refine .inl ⟨ok.stop H' s',fun D hD=>q _ _ ((s1.trans s').trans (Jq.upd hD)) ?_⟩
    exact⟨D,ys,rfl,(s1.trans s').free hD,JB,b.mono (Qy (Jq.upd hD) hD)⟩
  ·cases e
theorem DV {k:Nat}{g:TG}{gd:Th→Option (List (Option Dv))}(G:ZcH K k g gd){fi:FL}{ft:FB}{fe:FD}:∀ σ H Q,Zc0 K (Ua gd fi ft fe) σ H Q→ZdL k (Z9f K fi) g (liftT K ft) (Bo K fe) σ H Q:=Z0G (m:=[]) G
end
section
variable {X:Cx}
theorem PIf.imp {X:Cx}{ifs:Le_}{t t':TT}(h:PIf X ifs t)(i:∀ σ H Q,t' σ H Q→t σ H Q):PIf X ifs t':=fun pins s σ H Q I q=>h pins s σ H Q I (i σ H Q q)
def Zdv (X:Cx)(ifs:Le_)(f:FB):Prop:=PIf X ifs (liftT X.K f)
theorem Zbv:Zdv X [] GJ:=PIf.imp Zed fun σ H Q z1_=>by obtain ⟨O,d,b,R,e,q⟩:=z1_;cases e;exact q H (Jq.refl H)
theorem Zbu {c:Expr}{f:FB}(h:PDT X c f):Zdv X [c] f:=Zec h
theorem Zbh {x:Str}{px pos:Pos}{scope:Scope}{elt iter:Expr}{ifs:Le_}{fi:FL}{ft:FB}{fe:FD}(hc:X.calm=true)(S:Yn X [x] scope)(hN:([x]++X.N).Nodup)(hx:scope.names.lookup x=some .local)(hi:PDI X (.Name x px) iter fi)
  (ht:∀ cl s₂ H1 C fp,Zdv (cxC X [x] scope cl s₂ H1 C fp) ifs ft) (he:∀ cl s₂ H1 C fp,PD (cxC X [x] scope cl s₂ H1 C fp) elt fe) (hs:∀ x,foldedSetIterable iter X.env x=pure x) :
  PF X (.ListComp elt [⟨.Name x px,iter,ifs,0⟩] scope pos) (Ua g1 fi ft fe) :=
 PE.imp (Z8x (tt:=liftT X.K ft) (te:=Bo X.K fe) hc S (PI.imp hi Zhw) (fun cl s₂ H1 C fp=>Mm (i:=0) hN rfl (CI (Jd hx)) (.inr (Jd hx))) ht he hs) (DV Zdo)
theorem Z6D {x y:Str}{px py pos spos:Pos}{scope:Scope}{elt iter:Expr}{ifs:Le_}{fi:FL}{ft:FB}{fe:FD}{i:Nat}(hN0:X.N.Nodup)(hi':X.N[i]?=some y)(hy:Loc X.env.scope y)(hc:X.calm=true)(S:Yn X [x] scope)(hN:([x]++X.N).Nodup)(hx:scope.names.lookup x=some .local)(hi:PDI X (.Name x px) iter fi)
  (ht:∀ cl s₂ H1 C fp,Zdv (cxC X [x] scope cl s₂ H1 C fp) ifs ft) (he:∀ cl s₂ H1 C fp,PD (cxC X [x] scope cl s₂ H1 C fp) elt fe)
  (hsw:swapsWith (.ListComp elt [⟨.Name x px,iter,ifs,0⟩] scope pos) (some (.Name y py)) spos.line X.env=pure true)
  (hf':X.fn y=true∨X.env.scope.names.lookup y=some .local)
  (hs:∀ x,foldedSetIterable iter X.env x=pure x) :
  PDS X (.Assign [.Name y py] (.ListComp elt [⟨.Name x px,iter,ifs,0⟩] scope pos) spos) (YJ i (G2 (Ua g1 fi ft fe))) :=
 PS.imp (Z8o (tt:=liftT X.K ft) (te:=Bo X.K fe) hN0 hi' hy hc S (PI.imp hi Zhw) (fun cl s₂ H1 C fp=>Mm (i:=0) hN rfl (CI (Jd hx)) (.inr (Jd hx))) ht he hsw hf' hs) fun D σ H h=>by
  obtain⟨O,d,o,R,e,q⟩:=h
  unfold YJ G2 at e
  cases hf:Ua g1 fi ft fe d with
  |none=>rw[hf] at e;cases e
  |some ts =>
   rw[hf] at e
   cases e
   refine DV Zdo σ H _ ⟨O,d,ts,R,hf,fun v H' s b=>?_⟩
   obtain⟨a,xs,rfl,e2,e3,b⟩:=b
   exact q _ H' O rfl (Ui s) ((R.mono s).set i (.lst (SqL.of (Uh e3 (R.notOwn e2))) (b.mono Md)))
end
def spF (K:Fg_)(φ:Lt_→Option Th):Sp:=fun vs H Q _=>∃ (Z:Addr→Prop) (Ts:Lt_) (T:Th),(∀ b,Z b→∃ o,H b=some o)∧J6 K (less H ⟨[],Z⟩) vs Ts∧φ Ts=some T∧∀ v H',Jq H H'→JF K (less H' ⟨[],Z⟩) v T→Q v H'
structure Callee (P:Program)(w:World)(K:Fg_)(mg:Str→Option Value)(base:Heap)(k:Nat)(x:Str)(φ:Lt_→Option Th):Prop where
 ex:∃ (f:Addr) (fd:Jj) (ps:Ls_),Mw P w K mg base CX0 k f fd ps (spF K φ)∧mg x=some (.ref f)∧ZL K (.ref f)=true∧Binds K fd ps []
theorem Callee.mono {P:Program}{w:World}{K:Fg_}{mg:Str→Option Value}{base:Heap}{k j:Nat}{x:Str}{φ:Lt_→Option Th}(c:Callee P w K mg base k x φ)(h:k≤j):Callee P w K mg base j x φ :=
 let ⟨f,fd,ps,F,r⟩:=c.ex;⟨f,fd,ps,F.mono h,r⟩
theorem FF {H:Hp}{O:Hid}:less H ⟨[],O.has⟩=less H O:=by
 have hh:∀ b,Hid.has ⟨[],O.has⟩ b↔O.has b:=fun b=>⟨fun z=>z.elim (fun q=>by simp at q) id,fun z=>.inr z⟩
 funext b
 unfold less
 by_cases z:O.has b
 ·rw[if_pos z,if_pos ((hh b).mpr z)]
 ·rw[if_neg z,if_neg (fun q=>z ((hh b).mp q))]
theorem ZbY {H:Hp}{Z:Addr→Prop}:low H ⟨[],Z⟩=H:=by funext b;simp[low]
theorem less_none {H:Hp}:less H ⟨[],fun _=>False⟩=H:=by funext b;simp[less,Hid.has]
section
variable {X:Cx}{x:Str}{p pos:Pos}{e:Expr}{es:Le_}{g:FL}{φ:Lt_→Option Th}{k:Nat}
noncomputable def ZV (φ:Lt_→Option Th)(g:FL):FD:=fun d=>(g d).bind φ
theorem ZeD (c:Callee X.prog X.w X.K X.mg X.base k x φ) (hr:GZ k X.A) (hg:Gl X x) (ha:PDA X (e::es) g) (hdb:(x == ("__debug__":Str))=false) (he:starEach (e::es) X.env=(false,eval e X.env)::starEach es X.env) (hpl:(backTo pos (starEach es X.env)).any (·.1)=false) :
  PD X (.Call (.Name x p) (e::es) [] pos) (ZV φ g):=by
 obtain⟨f,fd,ps,F,hm,hk,hb⟩:=c.ex
 refine PE.imp (Zeh F hr hg hm hk hb .nil Zh0 ha hdb he hpl) fun σ H Q z1_=>?_
 obtain ⟨O,d,T,R,e,q⟩:=z1_
 unfold ZV at e
 cases hgd:g d with
 |none=>rw[hgd] at e;cases e
 |some Ts =>
  rw[hgd] at e
  refine⟨O,d,Ts,R,hgd,fun vs H1 s1 b=>?_⟩
  show spF X.K φ (vs++[]) H1 Q E0
  rw[Uq]
  refine⟨O.has,Ts,T,fun a ha=>(R.mono s1).there a ha,by rw[FF];exact b,e,fun v H' s' b'=>q v H' (s1.trans s') ?_⟩
  rw[FF] at b'
  exact b'
end
noncomputable def BD (N:Ls_)(Ts:Lt_):Sd:=Ts.map (fun T=>some (.th T))++Zn (N.length-Ts.length) none
theorem Z85 {K:Fg_}{H:Hp}{O:Hid}{N:Ls_}{vs:Lv_}{Ts:Lt_}(b:J6 K (less H O) vs Ts)(ho:O.own=[])(hz:∀ a,O.far a→∃ o,H a=some o):Rep K H O (start N vs) (BD N Ts) where
 len:=by unfold start BD;rw[Zf,Zf,Z3,Z3,Y7,Y7,b.length]
 th:=fun i T e=>by
  unfold BD at e
  by_cases hi:i<Ts.length
  ·rw[ZU (by simpa using hi),Jc] at e
   cases hT:Ts[i]? with
   |none=>rw[hT] at e;cases e
   |some U =>
    rw[hT] at e
    cases e
    obtain⟨v,h1,h2⟩:=b.get hT
    refine⟨v,?_,h2⟩
    unfold start
    rw[ZU (by rw[Z3,b.length];exact hi),Jc,h1]
    rfl
  ·rw[ZD (by simpa using hi),JS] at e
   split at e <;> cases e
 own:=fun i ts e=>by
  unfold BD at e
  by_cases hi:i<Ts.length
  ·rw[ZU (by simpa using hi),Jc] at e
   cases hT:Ts[i]? with
   |none=>rw[hT] at e;cases e
   |some U=>rw[hT] at e;cases e
  ·rw[ZD (by simpa using hi),JS] at e
   split at e <;> cases e
 there:=fun a h=>h.elim (fun q=>by rw[ho] at q;simp at q) (hz a)
 inj:=fun i j a h=>by rw[ho] at h;simp at h
 dct:=fun i fz kvs e=>by
  unfold BD at e
  by_cases hi:i<Ts.length
  ·rw[ZU (by simpa using hi),Jc] at e
   cases hT:Ts[i]? with
   |none=>rw[hT] at e;cases e
   |some U=>rw[hT] at e;cases e
  ·rw[ZD (by simpa using hi),JS] at e
   split at e <;> cases e
 exc:=fun i c e=>by
  unfold BD at e
  by_cases hi:i<Ts.length
  ·rw[ZU (by simpa using hi),Jc] at e
   cases hT:Ts[i]? with
   |none=>rw[hT] at e;cases e
   |some U=>rw[hT] at e;cases e
  ·rw[ZD (by simpa using hi),JS] at e
   split at e <;> cases e
section
variable {P:Program}{w:World}{K:Fg_}{mg:Str→Option Value}{base:Heap}
theorem Fun.okD {x qual:Str}{st:Stmt}{f:Addr}{fd:Jj}{N ps:Ls_}{k:Nat}{φ:Lt_→Option Th}{body:FS}(F:Fun K x qual st f fd)(S:Y8 N ps (Zy st))
  (hb:∀ (cdv:Value) (A:Around) (outer:List Env) (s:Shared) (H:Hp) (E:XK),GZ k (A.deeper (envOfC qual (Zy st) s.heap.objs.size f cdv))→Zau (Zdl CX0 P w K mg base N qual (Zy st) f cdv A outer s H E).nox (JV st) body)
  (hφ:∀ Ts T,φ Ts=some T→Ts.length=ps.length∧body (BD N Ts)=some (.rt T)):Mw P w K mg base CX0 (k+1) f fd ps (spF K φ):=by
 refine F.ok S (fun vs H Q E z1_=>by obtain ⟨Z,Ts,T,_,b,e,_⟩:=z1_;rw[b.length];exact (hφ Ts T e).1) fun cdv A outer s H vs Q E hr z1_=>?_
 obtain ⟨Z,Ts,T,hz,b,e,q⟩:=z1_
 refine⟨_,hb cdv A outer s H E hr,⟨[],Z⟩,BD N Ts,.rt T,Z85 b rfl hz,(hφ Ts T e).2,fun v H' s' b'=>q v H' ?_ b'⟩
 rw[ZbY] at s'
 exact s'
theorem Fun.callee {x qual:Str}{st:Stmt}{f:Addr}{fd:Jj}{ps:Ls_}{k:Nat}{φ:Lt_→Option Th}(F:Fun K x qual st f fd)(G:Mw P w K mg base CX0 k f fd ps (spF K φ))(hm:mg x=some (.ref f))(hb:Binds K fd ps []):Callee P w K mg base k x φ:=⟨f,fd,ps,G,hm,F.kp,hb⟩
end
noncomputable def Q5 (n:Nat):Bool:=decide (n≤1000000)
theorem Q4 {n:Nat}(h:Q5 n=true):n≤sizeLine:=Zz (of_decide_eq_true h) (by decide)
section
variable {X:Cx}{K:Fg_}{a b c e:Expr}{fa fb fc f:FD}{pos:Pos}
def ZcS (K:Fg_):R2:=fun x y H Q=>∃ a b ys,x=.ref a∧y=.ref b∧SqT K H a []∧SqT K H b ys∧Q (.ref b) H
theorem ZbE:OpR X (binaryOp .Add) (ZcS X.K):=by
 intro pins s σ H x y v u Q I rx ry h
 obtain⟨a,b,ys,rfl,rfl,ha,hb,q⟩:=h
 cases rx
 cases ry
 obtain⟨its,r1,p1,_⟩:=I.tuple ha
 obtain⟨its2,r2,p2,_⟩:=I.tuple hb
 cases r1
 obtain⟨⟨cls,dd,data,sl⟩,ho,hc,n,hd⟩:=id p1
 obtain⟨⟨cls2,dd2,data2,sl2⟩,ho2,hc2,n2,hd2⟩:=id p2
 simp only at hc hd hc2 hd2
 subst hc hd hc2 hd2
 exact Z3f ⟨_,ho,rfl⟩ ⟨_,ho2,rfl⟩ Z3N Zap Wf W3 (Qj _ _)
   (tuple_addW0 a b _ its2.toArray n n2 dd dd2 sl sl2 (by simp)) ⟨ho,ho2,⟨.ref b,H,I,rfl,q⟩⟩
noncomputable def Zhe:Th→Th→Option Th
 |.int i,.int j=>some (.int (i+j))
 |.str x,.str y=>if Q5 (x.length+y.length)=true then some (.str (x++y)) else none
 |.tup xs,.tup ys=>if Q5 (xs.length+ys.length)=true then some (.tup (xs++ys)) else none
 |_,_=>none
def ZdW (K:Fg_):R2:=fun x y H Q=>rI0 (fun i j=>.int (i+j)) x y H Q∨(∃ i j,x=.str i∧y=.str j∧i.length+j.length≤sizeLine∧Q (.str (i++j)) H)∨Zgj K x y H Q∨ZcS K x y H Q
theorem ZeP:OpR X (binaryOp .Add) (ZdW X.K):=Zh6.or (Z6J.or (ZeN.or ZbE))
theorem ZeR:OpD K (ZdW K) Zhe:=fun H O v u x y z Q hn hx hy e q=>by
 unfold Zhe at e
 split at e
 ·cases e
  exact .inl ⟨_,_,hx.int,hy.int,q _ H (Jq.refl H) (.int _)⟩
 ·split at e
  ·cases e
   exact .inr (.inl ⟨_,_,hx.str,hy.str,Q4 ‹_›,q _ H (Jq.refl H) (.str _)⟩)
  ·cases e
 ·split at e
  ·rename_i hz
   cases e
   obtain⟨a,xs,rfl,h1,b1⟩:=hx.tup
   obtain⟨b,ys,rfl,h2,b2⟩:=hy.tup
   have z:=Q4 hz
   rw[← b1.length,← b2.length] at z
   by_cases hxs:xs=[]
   ·subst hxs
    cases b1
    exact .inr (.inr (.inr ⟨a,b,ys,rfl,rfl,(Jp H O).seqT h1,(Jp H O).seqT h2,q _ H (Jq.refl H) (.tup h2 b2)⟩))
   ·refine .inr (.inr (.inl ⟨a,b,xs,ys,rfl,rfl,(Jp H O).seqT h1,(Jp H O).seqT h2,hxs,z,fun hys=>?_,fun hys p hp=>?_⟩))
    ·subst hys
     cases b2
     rw[Uq] at q
     exact q _ H (Jq.refl H) (.tup h1 b1)
    ·exact q _ _ (Jq.upd hp) (.tup (SqT.of (Uh JB (hn p hp))) ((b1.append b2).mono (JY (Jq.upd hp))))
  ·cases e
 ·cases e
noncomputable def ZfJ:Th→Th→Option Th
 |.int i,.int j=>some (.int (i-j))
 |_,_=>none
theorem ZgP (ha:PB X a fa)(hb:PB X b fb):PD X (.BinOp a .Sub b pos) (f2 ZfJ fa fb):=Z8D Zh2 (fun H O v u x y z Q _ hx hy e q=>by
 unfold ZfJ at e
 split at e
 ·cases e
  exact⟨_,_,hx.int,hy.int,q _ H (Jq.refl H) (.int _)⟩
 ·cases e) ha hb
noncomputable def Ds:Th→Th→Option Th
 |.int i,.int j=>if decide (0<j∧j<1073741824)=true then some (.int (i / j)) else none
 |_,_=>none
noncomputable def Mo:Th→Th→Option Th
 |.int i,.int j=>if decide (0<j)=true then some (.int (i%j)) else none
 |_,_=>none
theorem ZeB (ha:PB X a fa)(hb:PB X b fb):PD X (.BinOp a .FloorDiv b pos) (f2 Ds fa fb):=Z8D ZeM (fun H O v u x y z Q _ hx hy e q=>by
 unfold Ds at e
 split at e
 ·split at e
  ·rename_i hc
   have hc:=of_decide_eq_true hc
   cases e
   exact⟨_,_,hx.int,hy.int,hc,q _ H (Jq.refl H) (.int _)⟩
  ·cases e
 ·cases e) ha hb
theorem ZgR (ha:PB X a fa)(hb:PB X b fb):PD X (.BinOp a .Mod b pos) (f2 Mo fa fb):=Z8D Zh4 (fun H O v u x y z Q _ hx hy e q=>by
 unfold Mo at e
 split at e
 ·split at e
  ·rename_i hc
   have hc:=of_decide_eq_true hc
   cases e
   exact⟨_,_,hx.int,hy.int,hc,q _ H (Jq.refl H) (.int _)⟩
  ·cases e
 ·cases e) ha hb
noncomputable def Zcg (fa:FD):FD:=fun d=>(fa d).bind fun x=>match x with|.int i=>some (.int (-i))|_=>none
theorem Zd0 (ha:PD X a fa):PD X (.UnaryOp .USub a pos) (Zcg fa):=PE.imp (ZiD ZfX ha) fun σ H Q z_=>by
 obtain⟨O,d,T,R,e,q⟩:=z_
 unfold Zcg at e
 cases hf:fa d with
 |none=>rw[hf] at e;cases e
 |some x =>
  rw[hf] at e
  cases x with
  |int i=>cases e;exact⟨O,d,.int i,R,hf,fun v H' s b=>by cases b;exact⟨i,rfl,q _ H' s (.int _)⟩⟩
  |_=>cases e
def Zgh:R2:=fun x y H Q=>∃ z j,x=.str z∧y=.int j∧MulOk z j∧Q (.str (My z j)) H
theorem ZeK:OpR X (binaryOp .Mult) Zgh:=by
 intro pins s σ H x y v u Q I rx ry h
 obtain⟨z,j,rfl,rfl,hok,q⟩:=h
 obtain⟨t,rfl⟩:=rx
 obtain⟨t',rfl⟩:=ry
 exact SB.mul hok fun t' k=>⟨.str _,H,I.tok _,⟨_,rfl⟩,q⟩
theorem mulOk_of {x:Str}{j:Int}(h0:0≤j)(h1:j≤1000000)(h:x.length*j.toNat≤1000000):MulOk x j:=by
 refine⟨?_,fun h2 h3=>?_,fun h2 h3=>?_⟩
 ·rw[decide_eq_false (by lia),decide_eq_false (by lia)];rfl
 ·have h4:(x.length:Int)*j≤1000000:=by
   have:((x.length*j.toNat:Nat):Int)≤1000000:=by lia
   rw[Z1V,Ff h0] at this
   exact this
  have h5:(x.length:Int)≤(2 ^ 63-1) / j:=by
   rw[Int.le_ediv_iff_mul_le (by omega)]
   lia
  lia
 ·have:¬ x.length*j.toNat > 2 ^ 24:=by lia
  simpa [Builtin.Str.tooLong,sizeLine] using this
noncomputable def Zhd:Th→Th→Option Th
 |.int i,.int j=>if decide ((-(2 ^ 64)<i∧i<2 ^ 64)∨(-(2 ^ 64)<j∧j<2 ^ 64))=true then some (.int (i*j)) else none
 |.str x,.int j=>if decide (0≤j∧j≤1000000∧x.length*j.toNat≤1000000)=true then some (.str (My x j)) else none
 |_,_=>none
def ZdT:R2:=fun x y H Q=>rI Zif (fun i j=>.int (i*j)) x y H Q∨Zgh x y H Q
theorem ZeL:OpR X (binaryOp .Mult) ZdT:=Zh3.or ZeK
theorem ZeQ:OpD K ZdT Zhd:=fun H O v u x y z Q _ hx hy e q=>by
 unfold Zhd at e
 split at e
 ·split at e
  ·rename_i hc
   have hc:=of_decide_eq_true hc
   cases e
   exact .inl ⟨_,_,hx.int,hy.int,hc,q _ H (Jq.refl H) (.int _)⟩
  ·cases e
 ·split at e
  ·rename_i hc
   obtain⟨h0,h1,h2⟩:=of_decide_eq_true hc
   cases e
   exact .inr ⟨_,_,hx.str,hy.int,mulOk_of h0 h1 h2,q _ H (Jq.refl H) (.str _)⟩
  ·cases e
 ·cases e
def Z57 (K:Fg_)(r:Lv_→Hp→VK→Prop)(g:Lt_→Option Th):Prop:=∀ (H:Hp) (O:Hid) (vs:Lv_) (ts:Lt_) (z:Th) (Q:VK),(∀ p,H p=none→¬ O.has p)→Paired (Fe K H O) vs ts→g ts=some z→(∀ v' H',Jq H H'→JF K (less H' O) v' z→Q v' H')→r vs H Q
noncomputable def fCB (g:Lt_→Option Th)(fs:FL):FD:=fun d=>(fs d).bind g
theorem Za2 {r:Lv_→Hp→VK→Prop}{g:Lt_→Option Th}{fs:FL}(hr:Z57 K r g):∀ σ H Q,Bo K (fCB g fs) σ H Q→tCB r (Z5H K fs) σ H Q:=fun σ H Q z_=>by
 obtain⟨O,d,T,R,e,q⟩:=z_
 unfold fCB at e
 cases hf:fs d with
 |none=>rw[hf] at e;cases e
 |some ts =>
  rw[hf] at e
  exact⟨O,d,ts,R,hf,fun vs H1 s1 b1=>hr H1 O vs ts T Q (fun p hp=>(R.mono s1).notOwn hp) b1 e fun v H' s b=>q v H' (s1.trans s) b⟩
theorem Z2u {id:String}{x:Str}{p:Pos}{es:Le_}{fs:FL}{r:Lv_→Hp→VK→Prop}{g:Lt_→Option Th}(hc:MG X (.builtin id) r)(hr:Z57 X.K r g)(hg:Gl X x)(hm:X.mg x=none)(hv:bootBuiltins x=some (.builtin id))(ha:PBA X (e::es) fs)
  (hn:x≠"__name__":=by decide) (hdb:(x == ("__debug__":Str))=false:=by decide) (he:starEach (e::es) X.env=(false,eval e X.env)::starEach es X.env:=by rfl) (hpl:(backTo pos (starEach es X.env)).any (·.1)=false:=by rfl) :
  PD X (.Call (.Name x p) (e::es) [] pos) (fCB g fs):=PE.imp (Qv hc hg hm hv ha hn hdb he hpl) (Za2 hr)
noncomputable def MT:Lt_→Option Th
 |[.str x]=>if Q5 x.length=true then some (.int x.length) else none
 |[.lst ts]=>some (.int ts.length)
 |[.tup ts]=>some (.int ts.length)
 |_=>none
def Zgi (K:Fg_):Lv_→Hp→VK→Prop:=fun xs H Q=>(∃ p ys,xs=[.ref p]∧(SqL K H p ys∨SqT K H p ys)∧Q (.int ys.length) H)∨∃ z,xs=[.str z]∧z.length≤sizeLine∧Q (.int z.length) H
theorem Za5:MG X (.builtin "len") (Zgi X.K):=Z3o.or Z3n
theorem N7 {α β:Type}{F:α→β→Prop}{xs:List α}{y:β}(h:Paired F xs [y]):∃ x,xs=[x]∧F x y:=by
 cases h with|cons h r=>cases r;exact⟨_,rfl,h⟩
theorem ZeE {α β:Type}{F:α→β→Prop}{xs:List α}{y z:β}(h:Paired F xs [y,z]):∃ x w,xs=[x,w]∧F x y∧F w z:=by
 cases h with|cons h r=>cases r with|cons h2 r2=>cases r2;exact⟨_,_,rfl,h,h2⟩
theorem Za6:Z57 K (Zgi K) MT:=fun H O vs ts z Q hn h e q=>by
 unfold MT at e
 split at e
 ·obtain⟨v,rfl,h1⟩:=N7 h
  split at e
  ·cases e
   exact .inr ⟨_,by rw[h1.str],Q4 ‹_›,q _ H (Jq.refl H) (.int _)⟩
  ·cases e
 ·obtain⟨v,rfl,h1⟩:=N7 h
  cases e
  obtain⟨a,xs,rfl,h2,b⟩:=h1.lst
  refine .inl ⟨a,xs,rfl,.inl h2,q _ H (Jq.refl H) ?_⟩
  rw[b.length];exact .int _
 ·obtain⟨v,rfl,h1⟩:=N7 h
  cases e
  obtain⟨a,xs,rfl,h2,b⟩:=h1.tup
  refine .inl ⟨a,xs,rfl,.inr ((Jp H O).seqT h2),q _ H (Jq.refl H) ?_⟩
  rw[b.length];exact .int _
 ·cases e
theorem ZgT {p:Pos} {es:Le_} {fs:FL} (hg:Gl X "len") (hm:X.mg "len"=none) (ha:PBA X (e::es) fs) (he:starEach (e::es) X.env=(false,eval e X.env)::starEach es X.env) (hpl:(backTo pos (starEach es X.env)).any (·.1)=false):PD X (.Call (.Name "len" p) (e::es) [] pos) (fCB MT fs) :=
 Z2u Za5 Za6 hg hm Zfx ha (by decide) (by decide) he hpl
end
end L2
namespace HT
open PySem PyProof.Rows
inductive KeyV:Value→L2.Key→Prop where
 |int (i:Int) (t:Tok):KeyV (.int i t) (.inl i)
 |str (x:Str) (t:Tok):KeyV (.str x t) (.inr x)
abbrev KeysAre:=Paired KeyV
noncomputable def lexK:List L2.Key→List L2.Key→Option Bool
 |[],[]=>some false
 |[],_::_=>some true
 |_::_,[]=>some false
 |.inl a::xs,.inl b::ys=>if a=b then lexK xs ys else some (decide (a<b))
 |.inr a::xs,.inr b::ys=>if a=b then lexK xs ys else some (decide (a.cps.toList<b.cps.toList))
 |_::_,_::_=>none
theorem rcLt_str (A:Around)(s:Shared)(a:Str)(t:Tok)(c:Str)(u:Tok)(prog:Program)(w:World)(E:Ps_)(Q:Ps_)(h:Q (.bool (decide (a.cps.toList<c.cps.toList))) s) :
  wpAny (model prog w) A (richCompare .Lt (.str a t) (.str c u)) Q E s :=
 (Z1I h:wpAny (model prog w) A (compareOp .Lt (.str a t) (.str c u)) Q E s)
section
open PySem.SeqAt
open PySem.AutoSeq1 (wpAny_loadPart')
open PySem.MeetsSeq PySem.MeetsSeq2 PySem.MeetsSeq3
theorem Z10 (l b:Addr)(items items2:Au_)(n n2:Nat)(dd dd2:Option Addr)(sl sl2:Array (Option Value))(ns ms:List L2.Key)(z:Bool)(hi:KeysAre items.toList ns)(hj:KeysAre items2.toList ms)(hz:lexK ns ms=some z) :
  Meets (Builtin.«tuple.__lt__» ⟨[.ref l,.ref b],[]⟩)
   (fun _ R s=>s.heap.get? l=some { cls:=.type "tuple",dict:=dd,data:=.seq items n,slots:=sl }∧s.heap.get? b=some { cls:=.type "tuple",dict:=dd2,data:=.seq items2 n2,slots:=sl2 } ∧
    R (.ok (.ret (.bool z))) s) :=
 .of_wp fun prog w A R s h=>by
  obtain⟨hp,g,d,tk,os⟩:=s;obtain⟨hl,hb,h⟩:=h
  have f2:=Z0T
  have z1:items.size=ns.length:=by rw[← hi.length];simp
  have z2:items2.size=ms.length:=by rw[← hj.length];simp
  wp_walk using Gm hl,Gm hb,Z3L _ (fun rest b s'=>b.1=none∧s'=⟨hp,g,d,tk,os⟩∧∃ (vs ws:Lu_) (ns' ms':List L2.Key),rest=vs.zip ws ∧
   KeysAre vs ns'∧KeysAre ws ms'∧ns'.length+items2.size=ms'.length+items.size∧lexK ns' ms'=some z∧R (.ok (.ret (.bool z))) ⟨hp,g,d,tk,os⟩) _
  case turn =>
   rintro⟨y,x⟩ rest b s' ⟨hb',rfl,vs,ws,ns',ms',hz,hvi,hwi,hlen,hlx,hR⟩
   cases hvi with
   |nil=>rw[List.zip_nil_left] at hz;cases hz
   |cons k1 hvi' =>
    cases hwi with
    |nil=>rw[List.zip_nil_right] at hz;cases hz
    |cons k2 hwi' =>
     rw[Qk] at hz
     injection hz with hyx hrest
     injection hyx with hy hx
     subst hy hx
     simp only[Zl] at hlen
     cases k1 with
     |int a t =>
      cases k2 with
      |int c u =>
       unfold lexK at hlx
       obtain⟨e,he,hiff⟩:=Zcj A.in1 ⟨hp,g,d,tk,os⟩ a t c u
       refine Z0 (he prog w _ _ ?_)
       cases e with
       |true =>
        rw[if_pos (hiff.mp rfl)] at hlx
        wp_walk
        exact⟨rfl,rfl,_,_,_,_,hrest,hvi',hwi',by lia,hlx,hR⟩
       |false =>
        rw[if_neg (fun q=>absurd (hiff.mpr q) JN)] at hlx
        cases hlx
        have hri:=ZaX A.in1 ⟨hp,g,d,tk,os⟩ a t c u prog w
        wp_walk using hri
        exact⟨_,rfl,by simpa using hR⟩
      |str c u=>unfold lexK at hlx;cases hlx
     |str a t =>
      cases k2 with
      |int c u=>unfold lexK at hlx;cases hlx
      |str c u =>
       unfold lexK at hlx
       refine Z0 (FQ.str_str a t c u prog w _ _ ?_)
       cases e:a == c with
       |true =>
        rw[if_pos (eq_of_beq e)] at hlx
        wp_walk
        exact⟨rfl,rfl,_,_,_,_,hrest,hvi',hwi',by lia,hlx,hR⟩
       |false =>
        rw[if_neg (fun q=>by rw[q] at e;simp at e)] at hlx
        cases hlx
        have hri:=rcLt_str A.in1 ⟨hp,g,d,tk,os⟩ a t c u prog w
        wp_walk using hri
        exact⟨_,rfl,by simpa using hR⟩
  case fin =>
   rintro⟨b1,b2⟩ s' ⟨hb',rfl,vs,ws,ns',ms',hz,hvi,hwi,hlen,hlx,hR⟩
   simp only at hb'
   subst hb'
   have hv:z=decide (items.size<items2.size):=by
    cases hvi with
    |nil =>
     cases hwi with
     |nil =>
      simp only[NM] at hlen
      cases hlx
      exact (decide_eq_false (by lia)).symm
     |cons k hw =>
      simp only[NM,Zl] at hlen
      cases hlx
      exact (decide_eq_true (by lia)).symm
    |cons k hv =>
     cases hwi with
     |nil =>
      simp only[NM,Zl] at hlen
      cases k <;> (cases hlx;exact (decide_eq_false (by lia)).symm)
     |cons k2 hw =>
      rw[Qk] at hz
      cases hz
   rw[hv] at hR
   wp_walk
   exact⟨_,rfl,by simpa [Builtin.Tuple.tupleCompareSizes] using hR⟩
  case h =>
   exact⟨rfl,rfl,items.toList,items2.toList,ns,ms,rfl,hi,hj,by lia,hz,h⟩
end
section
variable {prog:Program}{w:World}{A:Around}{E:Ps_}{s:Shared}
theorem lt_tupKeys {l b:Addr}{items items2:Au_}{ns ms:List L2.Key}{z:Bool}{Q:Ps_}(hl:IsTup s.heap l items)(hb:IsTup s.heap b items2)(hi:KeysAre items.toList ns)(hj:KeysAre items2.toList ms)(hz:lexK ns ms=some z)
  (hu:A.units<cLine) (h:Q (.bool z) s):wpAny (model prog w) A (compareOp .Lt (.ref l) (.ref b)) Q E s:=by
 obtain⟨⟨cls,dd,data,sl⟩,ho,hc,n,hd⟩:=id hl
 obtain⟨⟨cls2,dd2,data2,sl2⟩,ho2,hc2,n2,hd2⟩:=id hb
 simp only at hc hd hc2 hd2
 subst hc hd hc2 hd2
 exact richCompare_meets_room (op:=.Lt) ⟨_,ho,rfl⟩ ⟨_,ho2,rfl⟩ PySem.F.slot_tuple_lt PySem.F.entry_tuple_lt (PySem.F.args_tuple_lt_2 _ _) (Z10 l b items items2 n n2 dd dd2 sl sl2 ns ms z hi hj hz)
  ⟨ho,ho2,show Z3F z≠Z7e∧Q (.bool z) s from ⟨(fun x=>nomatch x),h⟩⟩ hu
end
end HT
namespace L2
open PySem PySem.Spec PyProof.Rows PySem.SeqAt
mutual
noncomputable def Y4:Th→Th→Bool
 |.non,.non=>true
 |.bl a,.bl b=>a == b
 |.int a,.int b=>a == b
 |.str a,.str b=>a == b
 |.bl a,.int b=>(if a then 1 else 0) == b
 |.int a,.bl b=>a == (if b then 1 else 0)
 |.tup xs,.tup ys=>MC xs ys
 |.lst xs,.lst ys=>MC xs ys
 |_,_=>false
noncomputable def MC:Lt_→Lt_→Bool
 |[],[]=>true
 |x::xs,y::ys=>Y4 x y&&MC xs ys
 |_,_=>false
end
mutual
noncomputable def dp:Th→Nat
 |.tup ts=>dpL ts+1
 |.lst ts=>dpL ts+1
 |_=>0
noncomputable def dpL:Lt_→Nat
 |[]=>0
 |t::r=>max (dp t) (dpL r)
end
theorem Z0E:∀ {ts:Lt_} {t:Th} {i:Nat},ts[i]?=some t→dp t≤dpL ts
 |[],_,_,e=>by simp at e
 |x::r,t,0,e=>by simp at e;subst e;unfold dpL;lia
 |x::r,t,i+1,e=>by
  have:=Z0E (ts:=r) (t:=t) (i:=i) (by simpa using e)
  unfold dpL;lia
mutual
theorem Ws:∀ x:Th,Y4 x x=true
 |.non=>by simp[Y4]
 |.bl a=>by simp[Y4]
 |.int a=>by simp[Y4]
 |.str a=>by simp[Y4]
 |.tup xs=>by simp only[Y4];exact Bt xs
 |.lst xs=>by simp only[Y4];exact Bt xs
theorem Bt:∀ xs:Lt_,MC xs xs=true
 |[]=>by simp[MC]
 |x::xs=>by simp only[MC,Ws x,Bt xs,Bool.and_self]
end
noncomputable def eAt (xs ys:Lt_)(j:Nat):Bool:=match xs[j]?,ys[j]? with|some x,some y=>Y4 x y|_,_=>true
theorem Cs:∀ xs ys:Lt_,((Jg (min xs.length ys.length)).all (eAt xs ys)&&xs.length == ys.length)=MC xs ys
 |[],[]=>by simp[MC]
 |[],_::_=>by simp[MC]
 |_::_,[]=>by simp[MC]
 |x::xs,y::ys=>by
  have ih:=Cs xs ys
  have e:min (x::xs).length (y::ys).length=min xs.length ys.length+1:=by simp only[Zl];simp
  rw[e,List.range_succ_eq_map,Gi,Do]
  have e0:eAt (x::xs) (y::ys) 0=Y4 x y:=by simp[eAt]
  have e1:(eAt (x::xs) (y::ys)∘Nat.succ)=eAt xs ys:=by funext j;simp[eAt]
  rw[e0,e1,MC,← ih]
  simp only[Zl,Bool.and_assoc]
  congr 2
  rw[Dq];simp
theorem Cr:∀ {xs ys:Lt_},MC xs ys=true→xs.length=ys.length
 |[],[],_=>rfl
 |[],_::_,h=>by simp[MC] at h
 |_::_,[],h=>by simp[MC] at h
 |x::xs,y::ys,h=>by
  rw[MC,ZX] at h
  simp[Cr h.2]
section
variable {X:Cx}{pins:Pn_}{σ:St}{H:Hp}{s:Shared}
theorem Inv.lt_ne (I:Inv X pins σ H s){a:Addr}{xs ys:Lv_}(h:SqL X.K H a xs)(h':SqT X.K H a ys):False:=by
 obtain⟨its,r,⟨o,n,e,c,_,d⟩,_⟩:=I.list h
 obtain⟨its',r',⟨o',e',c',n',d'⟩,_⟩:=I.tuple h'
 rw[e] at e';cases e'
 rw[c] at c'
 simp at c'
theorem JF.det (I:Inv X pins σ H s):∀ (n:Nat) {v:V} {x y:Th},dp x≤n→JF X.K H v x→JF X.K H v y→x=y:=by
 intro n
 induction n with
 |zero =>
  intro v x y hn h h'
  cases h with
  |non=>cases h';rfl
  |bl b=>cases h';rfl
  |int b=>cases h';rfl
  |str b=>cases h';rfl
  |tup e h=>unfold dp at hn;exact absurd ‹_› (U2 _)
  |lst e h=>unfold dp at hn;exact absurd ‹_› (U2 _)
 |succ n ihn =>
  have key:∀ {vs:Lv_} {ts us:Lt_},dpL ts≤n→J6 X.K H vs ts→J6 X.K H vs us→ts=us:=by
   intro vs
   induction vs with
   |nil=>intro ts us _ h h';cases h;cases h';rfl
   |cons v vs ih =>
    intro ts us hd h h'
    cases h with
    |cons h r=>cases h' with
     |cons h' r' =>
      unfold dpL at hd
      rw[ihn (by lia) h h',ih (by lia) r r']
  intro v x y hn h h'
  cases h with
  |non=>cases h';rfl
  |bl b=>cases h';rfl
  |int b=>cases h';rfl
  |str b=>cases h';rfl
  |tup e h =>
   cases h' with
   |tup e2 h2 =>
    have q:=I.tuple_inj e e2
    subst q
    unfold dp at hn
    rw[key (by lia) h h2]
   |lst e2 h2=>exact (I.lt_ne e2 e).elim
  |lst e h =>
   cases h' with
   |lst e2 h2 =>
    have q:=I.list_inj e e2
    subst q
    unfold dp at hn
    rw[key (by lia) h h2]
   |tup e2 h2=>exact (I.lt_ne e e2).elim
theorem FI {its its2:Lu_}{xs ys:Lv_}{ts us:Lt_}{A:Around}(r:Uj xs its)(r2:Uj ys its2)(b:J6 X.K H xs ts)(b2:J6 X.K H ys us)
  (k:∀ (x y:Th) (v u:V) (a b:Value) (i:Nat),ts[i]?=some x→JF X.K H v x→JF X.K H u y→RelV v a→RelV u b→EqAt A s a b (Y4 x y)) :
  ∀ j (h1:j<its.toArray.size) (h2:j<its2.toArray.size),EqAt A s its.toArray[j] its2.toArray[j] (eAt ts us j):=fun j h1 h2=>by
 have l1:=r.length
 have l2:=r2.length
 have l3:=b.length
 have l4:=b2.length
 simp only[Zk] at h1 h2
 obtain⟨a,ea,ra⟩:=r.get (i:=j) (x:=xs[j]'(by lia)) (Za _)
 obtain⟨a2,ea2,ra2⟩:=r2.get (i:=j) (x:=ys[j]'(by lia)) (Za _)
 obtain⟨t,et,bt⟩:=b.got (i:=j) (v:=xs[j]'(by lia)) (Za _)
 obtain⟨t2,et2,bt2⟩:=b2.got (i:=j) (v:=ys[j]'(by lia)) (Za _)
 have e1:its.toArray[j]=a:=by
  rw[Za h1] at ea
  simpa using ea
 have e2:its2.toArray[j]=a2:=by
  rw[Za h2] at ea2
  simpa using ea2
 have e3:eAt ts us j=Y4 t t2:=by unfold eAt;rw[et,et2]
 rw[e1,e2,e3]
 exact k t t2 _ _ a a2 j et bt bt2 ra ra2
theorem Gn (I:Inv X pins σ H s){a:Addr}{xs:Lv_}(e:SqT X.K H a xs):∃ its:Lu_,Uj xs its∧s.heap.IsTuple a its.toArray:=let ⟨its,r,p,_⟩:=I.tuple e;⟨its,r,p⟩
theorem G1 (I:Inv X pins σ H s){a:Addr}{xs:Lv_}(e:SqL X.K H a xs):∃ its:Lu_,Uj xs its∧s.heap.IsList a its.toArray:=let ⟨its,r,p,_⟩:=I.list e;⟨its,r,p.isList⟩
theorem Z5s (I:Inv X pins σ H s)(n:Nat)(ih:∀ (A:Around) (x y:Th) (v u:V) (a b:Value),dp x<n→A.units+n<cLine→JF X.K H v x→JF X.K H u y→RelV v a→RelV u b→EqAt A s a b (Y4 x y)) :
  ∀ (A:Around) (x y:Th) (v u:V) (a b:Value),dp x≤n→A.units+n+1<cLine→JF X.K H v x→JF X.K H u y→RelV v a→RelV u b→RcAt A s a b (Y4 x y):=by
 intro A x y v u a b hn hu bx bY ra rb
 have hu0:A.units<cLine:=by lia
 have hin:A.in1.units=A.units+1:=rfl
 cases bx with
 |non =>
  cases ra
  cases bY with
  |non=>cases rb;unfold Y4;exact RcAt.none_none
  |bl c=>cases rb;unfold Y4;exact RcAt.none_bool _
  |int c=>obtain⟨_,rfl⟩:=rb;unfold Y4;exact RcAt.none_int _ _
  |str c=>obtain⟨_,rfl⟩:=rb;unfold Y4;exact RcAt.none_str _ _
  |tup e h=>cases rb;obtain⟨_,_,p⟩:=Gn I e;unfold Y4;exact RcAt.none_tuple p hu0
  |lst e h=>cases rb;obtain⟨_,_,p⟩:=G1 I e;unfold Y4;exact RcAt.none_list p hu0
 |bl d =>
  cases ra
  cases bY with
  |non=>cases rb;unfold Y4;exact RcAt.bool_none _
  |bl c=>cases rb;unfold Y4;exact RcAt.bool_bool _ _
  |int c=>obtain⟨_,rfl⟩:=rb;unfold Y4;exact RcAt.bool_int _ _ _
  |str c=>obtain⟨_,rfl⟩:=rb;unfold Y4;exact RcAt.bool_str _ _ _
  |tup e h=>cases rb;obtain⟨_,_,p⟩:=Gn I e;unfold Y4;exact RcAt.bool_tuple _ p hu0
  |lst e h=>cases rb;obtain⟨_,_,p⟩:=G1 I e;unfold Y4;exact RcAt.bool_list _ p hu0
 |int d =>
  obtain⟨_,rfl⟩:=ra
  cases bY with
  |non=>cases rb;unfold Y4;exact RcAt.int_none _ _
  |bl c=>cases rb;unfold Y4;exact RcAt.int_bool _ _ _
  |int c=>obtain⟨_,rfl⟩:=rb;unfold Y4;exact RcAt.int_int _ _ _ _
  |str c=>obtain⟨_,rfl⟩:=rb;unfold Y4;exact RcAt.int_str _ _ _ _
  |tup e h=>cases rb;obtain⟨_,_,p⟩:=Gn I e;unfold Y4;exact RcAt.int_tuple _ _ p hu0
  |lst e h=>cases rb;obtain⟨_,_,p⟩:=G1 I e;unfold Y4;exact RcAt.int_list _ _ p hu0
 |str d =>
  obtain⟨_,rfl⟩:=ra
  cases bY with
  |non=>cases rb;unfold Y4;exact RcAt.str_none _ _
  |bl c=>cases rb;unfold Y4;exact RcAt.str_bool _ _ _
  |int c=>obtain⟨_,rfl⟩:=rb;unfold Y4;exact RcAt.str_int _ _ _ _
  |str c=>obtain⟨_,rfl⟩:=rb;unfold Y4;exact RcAt.str_str _ _ _ _
  |tup e h=>cases rb;obtain⟨_,_,p⟩:=Gn I e;unfold Y4;exact RcAt.str_tuple _ _ p hu0
  |lst e h=>cases rb;obtain⟨_,_,p⟩:=G1 I e;unfold Y4;exact RcAt.str_list _ _ p hu0
 |tup e h =>
  cases ra
  obtain⟨its,r1,p1⟩:=Gn I e
  cases bY with
  |non=>cases rb;unfold Y4;exact RcAt.tuple_none p1 hu0
  |bl c=>cases rb;unfold Y4;exact RcAt.tuple_bool _ p1 hu0
  |int c=>obtain⟨_,rfl⟩:=rb;unfold Y4;exact RcAt.tuple_int _ _ p1 hu0
  |str c=>obtain⟨_,rfl⟩:=rb;unfold Y4;exact RcAt.tuple_str _ _ p1 hu0
  |lst e2 h2=>cases rb;obtain⟨its2,r2,p2⟩:=G1 I e2;unfold Y4;exact RcAt.tuple_list p1 p2 hu0
  |tup e2 h2 =>
   cases rb
   obtain⟨its2,r2,p2⟩:=Gn I e2
   have q:=RcAt.tuples (A:=A) p1 p2 hu0 (FI r1 r2 h h2 fun x y v u a b i et b1 b2 ra rb=>by
    have:=Z0E et
    unfold dp at hn
    exact ih A.in1 x y v u a b (by exact UL ‹_› ‹_›) (by rw[hin];lia) b1 b2 ra rb)
   rename_i ts _ _ us
   have z1:its.toArray.size=ts.length:=by rw[Zk,← r1.length,h.length]
   have z2:its2.toArray.size=us.length:=by rw[Zk,← r2.length,h2.length]
   rw[z1,z2,Cs] at q
   unfold Y4
   exact q
 |lst e h =>
  cases ra
  obtain⟨its,r1,p1⟩:=G1 I e
  cases bY with
  |non=>cases rb;unfold Y4;exact RcAt.list_none p1 hu0
  |bl c=>cases rb;unfold Y4;exact RcAt.list_bool _ p1 hu0
  |int c=>obtain⟨_,rfl⟩:=rb;unfold Y4;exact RcAt.list_int _ _ p1 hu0
  |str c=>obtain⟨_,rfl⟩:=rb;unfold Y4;exact RcAt.list_str _ _ p1 hu0
  |tup e2 h2=>cases rb;obtain⟨its2,r2,p2⟩:=Gn I e2;unfold Y4;exact RcAt.list_tuple p1 p2 hu0
  |lst e2 h2 =>
   cases rb
   obtain⟨its2,r2,p2⟩:=G1 I e2
   rename_i ts _ _ us
   have z1:its.toArray.size=ts.length:=by rw[Zk,← r1.length,h.length]
   have z2:its2.toArray.size=us.length:=by rw[Zk,← r2.length,h2.length]
   by_cases hz:its.toArray.size=its2.toArray.size
   ·have q:=RcAt.lists (A:=A) p1 p2 hz hu0 (FI r1 r2 h h2 fun x y v u a b i et b1 b2 ra rb=>by
     have:=Z0E et
     unfold dp at hn
     exact ih A.in1 x y v u a b (by lia) (by rw[hin];lia) b1 b2 ra rb)
    have e1:MC ts us=(Jg its.toArray.size).all (eAt ts us):=by
     rw[← Cs,← z1,← z2,← hz,Z7r];simp
    unfold Y4
    rw[e1]
    exact q
   ·have q:=RcAt.lists_lengths (A:=A) p1 p2 (by simpa using hz) hu0
    have e1:MC ts us=false:=by
     cases w:MC ts us with
     |false=>rfl
     |true=>exact absurd (by rw[z1,z2];exact Cr w) hz
    unfold Y4
    rw[e1]
    exact q
theorem FM (I:Inv X pins σ H s):∀ (n:Nat) (A:Around) (x y:Th) (v u:V) (a b:Value),dp x<n→A.units+n<cLine→JF X.K H v x→JF X.K H u y→RelV v a→RelV u b→EqAt A s a b (Y4 x y)
 |0,_,_,_,_,_,_,_,hn,_,_,_,_,_=>absurd hn (U2 _)
 |n+1,A,x,y,v,u,a,b,hn,hu,bx,bY,ra,rb=>by
  have rc:RcAt A s a b (Y4 x y):=Z5s I n (fun A x y v u a b h1 h2=>FM I n A x y v u a b h1 h2) A x y v u a b (by lia) (by omega) bx bY ra rb
  have hu0:A.units<cLine:=by lia
  cases bx with
  |non =>
   cases ra
   cases bY with
   |non=>cases rb;unfold Y4;exact EqAt.same _
   |bl c=>cases rb;unfold Y4;exact EqAt.none_bool _
   |int c=>obtain⟨_,rfl⟩:=rb;unfold Y4;exact EqAt.none_int _ _
   |str c=>obtain⟨_,rfl⟩:=rb;unfold Y4;exact EqAt.none_str _ _
   |tup e h=>cases rb;obtain⟨_,_,p⟩:=Gn I e;unfold Y4;exact EqAt.none_tuple p hu0
   |lst e h=>cases rb;obtain⟨_,_,p⟩:=G1 I e;unfold Y4;exact EqAt.none_list p hu0
  |bl d =>
   cases ra
   cases bY with
   |non=>cases rb;unfold Y4;exact EqAt.bool_none _
   |bl c=>cases rb;unfold Y4;exact EqAt.bool_bool _ _
   |int c=>obtain⟨_,rfl⟩:=rb;unfold Y4;exact EqAt.bool_int _ _ _
   |str c=>obtain⟨_,rfl⟩:=rb;unfold Y4;exact EqAt.bool_str _ _ _
   |tup e h=>cases rb;obtain⟨_,_,p⟩:=Gn I e;unfold Y4;exact EqAt.bool_tuple _ p hu0
   |lst e h=>cases rb;obtain⟨_,_,p⟩:=G1 I e;unfold Y4;exact EqAt.bool_list _ p hu0
  |int d =>
   obtain⟨_,rfl⟩:=ra
   cases bY with
   |non=>cases rb;unfold Y4;exact EqAt.int_none _ _
   |bl c=>cases rb;unfold Y4;exact EqAt.int_bool _ _ _
   |int c=>obtain⟨_,rfl⟩:=rb;unfold Y4;exact EqAt.int_int _ _ _ _
   |str c=>obtain⟨_,rfl⟩:=rb;unfold Y4;exact EqAt.int_str _ _ _ _
   |tup e h=>cases rb;obtain⟨_,_,p⟩:=Gn I e;unfold Y4;exact EqAt.int_tuple _ _ p hu0
   |lst e h=>cases rb;obtain⟨_,_,p⟩:=G1 I e;unfold Y4;exact EqAt.int_list _ _ p hu0
  |str d =>
   obtain⟨_,rfl⟩:=ra
   cases bY with
   |non=>cases rb;unfold Y4;exact EqAt.str_none _ _
   |bl c=>cases rb;unfold Y4;exact EqAt.str_bool _ _ _
   |int c=>obtain⟨_,rfl⟩:=rb;unfold Y4;exact EqAt.str_int _ _ _ _
   |str c=>obtain⟨_,rfl⟩:=rb;unfold Y4;exact EqAt.str_str _ _ _ _
   |tup e h=>cases rb;obtain⟨_,_,p⟩:=Gn I e;unfold Y4;exact EqAt.str_tuple _ _ p hu0
   |lst e h=>cases rb;obtain⟨_,_,p⟩:=G1 I e;unfold Y4;exact EqAt.str_list _ _ p hu0
  |tup e h =>
   cases ra
   obtain⟨its,r1,p1⟩:=Gn I e
   cases bY with
   |non=>cases rb;unfold Y4;exact EqAt.tuple_none p1 hu0
   |bl c=>cases rb;unfold Y4;exact EqAt.tuple_bool _ p1 hu0
   |int c=>obtain⟨_,rfl⟩:=rb;unfold Y4;exact EqAt.tuple_int _ _ p1 hu0
   |str c=>obtain⟨_,rfl⟩:=rb;unfold Y4;exact EqAt.tuple_str _ _ p1 hu0
   |lst e2 h2=>cases rb;obtain⟨its2,r2,p2⟩:=G1 I e2;unfold Y4;exact EqAt.tuple_list p1 p2 hu0
   |@tup a2 _ _ e2 h2 =>
    cases rb
    rename_i a1 _ _ _ _
    by_cases hab:a1=a2
    ·subst hab
     rw[JF.det I _ (Zc _) (.tup e h) (.tup e2 h2),Ws]
     exact EqAt.same _
    ·exact EqAt.of_refs hab rc
  |lst e h =>
   cases ra
   obtain⟨its,r1,p1⟩:=G1 I e
   cases bY with
   |non=>cases rb;unfold Y4;exact EqAt.list_none p1 hu0
   |bl c=>cases rb;unfold Y4;exact EqAt.list_bool _ p1 hu0
   |int c=>obtain⟨_,rfl⟩:=rb;unfold Y4;exact EqAt.list_int _ _ p1 hu0
   |str c=>obtain⟨_,rfl⟩:=rb;unfold Y4;exact EqAt.list_str _ _ p1 hu0
   |tup e2 h2=>cases rb;obtain⟨its2,r2,p2⟩:=Gn I e2;unfold Y4;exact EqAt.list_tuple p1 p2 hu0
   |@lst a2 _ _ e2 h2 =>
    cases rb
    rename_i a1 _ _ _ _
    by_cases hab:a1=a2
    ·subst hab
     rw[JF.det I _ (Zc _) (.lst e h) (.lst e2 h2),Ws]
     exact EqAt.same _
    ·exact EqAt.of_refs hab rc
end
section
variable {X:Cx}{K:Fg_}{a b c e:Expr}{fa fb fc f:FD}{pos:Pos}{k:Nat}
def Zjt (K:Fg_):R2:=fun v u H Q=>∃ x y,JF K H v x∧JF K H u y∧dp x≤100∧Q (.bl (Y4 x y)) H
theorem Zd7 (hr:GZ k X.A):OpR X (compareOp .Eq) (Zjt X.K):=by
 intro pins s σ H v u a b Q I ra rb h
 obtain⟨x,y,bx,bY,hd,q⟩:=h
 have hu:=hr.un
 have rc:RcAt X.A s a b (Y4 x y):=Z5s I 100 (fun A x y v u a b h1 h2=>FM I 100 A x y v u a b h1 h2) X.A x y v u a b hd (by lia) bx bY ra rb
 exact rc _ _ _ _ ⟨.bl _,H,I,rfl,q⟩
noncomputable def oEq:Th→Th→Option Th:=fun x y=>if decide (dp x≤100)=true then some (.bl (Y4 x y)) else none
theorem Zda:OpD K (Zjt K) oEq:=fun H O v u x y z Q hn hx hy e q=>by
 unfold oEq at e
 split at e
 ·rename_i hd
  cases e
  exact⟨x,y,hx.bears,hy.bears,of_decide_eq_true hd,q _ H (Jq.refl H) (.bl _)⟩
 ·cases e
theorem ZiM (hr:GZ k X.A)(ha:PB X a fa)(hb:PB X b fb):PD X (.Compare a [.Eq] [b] pos) (f2 oEq fa fb):=Z2s (Zd7 hr) Zda ha hb (Wm _)
theorem ZgM (hr:GZ k X.A)(ha:PB X a fa)(hb:PB X b fb):PDT X (.Compare a [.Eq] [b] pos) (J7 (f2 oEq fa fb)):=Qw (Zd7 hr) Zda ha hb (Wm _)
end
end L2
namespace L2
open PySem PySem.Spec PyProof.Rows PySem.SeqAt
section
variable {X:Cx}{pins:Pn_}{σ:St}{H:Hp}{s:Shared}
theorem Z6w (I:Inv X pins σ H s)(n:Nat)(ih:∀ (A:Around) (x y:Th) (v u:V) (a b:Value),dp x<n→A.units+n<cLine→JF X.K H v x→JF X.K H u y→RelV v a→RelV u b→EqAt A s a b (Y4 x y)) :
  ∀ (A:Around) (x y:Th) (v u:V) (a b:Value),dp x≤n→A.units+n+1<cLine→JF X.K H v x→JF X.K H u y→RelV v a→RelV u b→RcNeAt A s a b (!Y4 x y):=by
 intro A x y v u a b hn hu bx bY ra rb
 have hu0:A.units<cLine:=by lia
 have hin:A.in1.units=A.units+1:=rfl
 cases bx with
 |non =>
  cases ra
  cases bY with
  |non=>cases rb;unfold Y4;exact RcNeAt.none_none
  |bl c=>cases rb;unfold Y4;exact RcNeAt.none_bool _
  |int c=>obtain⟨_,rfl⟩:=rb;unfold Y4;exact RcNeAt.none_int _ _
  |str c=>obtain⟨_,rfl⟩:=rb;unfold Y4;exact RcNeAt.none_str _ _
  |tup e h=>cases rb;obtain⟨_,_,p⟩:=Gn I e;unfold Y4;exact RcNeAt.none_tuple p hu0
  |lst e h=>cases rb;obtain⟨_,_,p⟩:=G1 I e;unfold Y4;exact RcNeAt.none_list p hu0
 |bl d =>
  cases ra
  cases bY with
  |non=>cases rb;unfold Y4;exact RcNeAt.bool_none _
  |bl c=>cases rb;unfold Y4;exact RcNeAt.bool_bool _ _
  |int c=>obtain⟨_,rfl⟩:=rb;unfold Y4;exact RcNeAt.bool_int _ _ _
  |str c=>obtain⟨_,rfl⟩:=rb;unfold Y4;exact RcNeAt.bool_str _ _ _
  |tup e h=>cases rb;obtain⟨_,_,p⟩:=Gn I e;unfold Y4;exact RcNeAt.bool_tuple _ p hu0
  |lst e h=>cases rb;obtain⟨_,_,p⟩:=G1 I e;unfold Y4;exact RcNeAt.bool_list _ p hu0
 |int d =>
  obtain⟨_,rfl⟩:=ra
  cases bY with
  |non=>cases rb;unfold Y4;exact RcNeAt.int_none _ _
  |bl c=>cases rb;unfold Y4;exact RcNeAt.int_bool _ _ _
  |int c=>obtain⟨_,rfl⟩:=rb;unfold Y4;exact RcNeAt.int_int _ _ _ _
  |str c=>obtain⟨_,rfl⟩:=rb;unfold Y4;exact RcNeAt.int_str _ _ _ _
  |tup e h=>cases rb;obtain⟨_,_,p⟩:=Gn I e;unfold Y4;exact RcNeAt.int_tuple _ _ p hu0
  |lst e h=>cases rb;obtain⟨_,_,p⟩:=G1 I e;unfold Y4;exact RcNeAt.int_list _ _ p hu0
 |str d =>
  obtain⟨_,rfl⟩:=ra
  cases bY with
  |non=>cases rb;unfold Y4;exact RcNeAt.str_none _ _
  |bl c=>cases rb;unfold Y4;exact RcNeAt.str_bool _ _ _
  |int c=>obtain⟨_,rfl⟩:=rb;unfold Y4;exact RcNeAt.str_int _ _ _ _
  |str c=>obtain⟨_,rfl⟩:=rb;unfold Y4;exact RcNeAt.str_str _ _ _ _
  |tup e h=>cases rb;obtain⟨_,_,p⟩:=Gn I e;unfold Y4;exact RcNeAt.str_tuple _ _ p hu0
  |lst e h=>cases rb;obtain⟨_,_,p⟩:=G1 I e;unfold Y4;exact RcNeAt.str_list _ _ p hu0
 |tup e h =>
  cases ra
  obtain⟨its,r1,p1⟩:=Gn I e
  cases bY with
  |non=>cases rb;unfold Y4;exact RcNeAt.tuple_none p1 hu0
  |bl c=>cases rb;unfold Y4;exact RcNeAt.tuple_bool _ p1 hu0
  |int c=>obtain⟨_,rfl⟩:=rb;unfold Y4;exact RcNeAt.tuple_int _ _ p1 hu0
  |str c=>obtain⟨_,rfl⟩:=rb;unfold Y4;exact RcNeAt.tuple_str _ _ p1 hu0
  |lst e2 h2=>cases rb;obtain⟨its2,r2,p2⟩:=G1 I e2;unfold Y4;exact RcNeAt.tuple_list p1 p2 hu0
  |tup e2 h2 =>
   cases rb
   obtain⟨its2,r2,p2⟩:=Gn I e2
   have q:=RcNeAt.tuples (A:=A) p1 p2 hu0 (FI r1 r2 h h2 fun x y v u a b i et b1 b2 ra rb=>by
    have:=Z0E et
    unfold dp at hn
    exact ih A.in1 x y v u a b (by lia) (by rw[hin];lia) b1 b2 ra rb)
   rename_i ts _ _ us
   have z1:its.toArray.size=ts.length:=by rw[Zk,← r1.length,h.length]
   have z2:its2.toArray.size=us.length:=by rw[Zk,← r2.length,h2.length]
   rw[z1,z2,Cs] at q
   unfold Y4
   exact q
 |lst e h =>
  cases ra
  obtain⟨its,r1,p1⟩:=G1 I e
  cases bY with
  |non=>cases rb;unfold Y4;exact RcNeAt.list_none p1 hu0
  |bl c=>cases rb;unfold Y4;exact RcNeAt.list_bool _ p1 hu0
  |int c=>obtain⟨_,rfl⟩:=rb;unfold Y4;exact RcNeAt.list_int _ _ p1 hu0
  |str c=>obtain⟨_,rfl⟩:=rb;unfold Y4;exact RcNeAt.list_str _ _ p1 hu0
  |tup e2 h2=>cases rb;obtain⟨its2,r2,p2⟩:=Gn I e2;unfold Y4;exact RcNeAt.list_tuple p1 p2 hu0
  |lst e2 h2 =>
   cases rb
   obtain⟨its2,r2,p2⟩:=G1 I e2
   rename_i ts _ _ us
   have z1:its.toArray.size=ts.length:=by rw[Zk,← r1.length,h.length]
   have z2:its2.toArray.size=us.length:=by rw[Zk,← r2.length,h2.length]
   by_cases hz:its.toArray.size=its2.toArray.size
   ·have q:=RcNeAt.lists (A:=A) p1 p2 hz hu0 (FI r1 r2 h h2 fun x y v u a b i et b1 b2 ra rb=>by
     have:=Z0E et
     unfold dp at hn
     exact ih A.in1 x y v u a b (by lia) (by rw[hin];lia) b1 b2 ra rb)
    have e1:MC ts us=(Jg its.toArray.size).all (eAt ts us):=by
     rw[← Cs,← z1,← z2,← hz,Z7r];simp
    unfold Y4
    rw[e1]
    exact q
   ·have q:=RcNeAt.lists_lengths (A:=A) p1 p2 (by simpa using hz) hu0
    have e1:MC ts us=false:=by
     cases w:MC ts us with
     |false=>rfl
     |true=>exact absurd (by rw[z1,z2];exact Cr w) hz
    unfold Y4
    rw[e1]
    exact q
end
section
variable {X:Cx}{K:Fg_}{a b c e:Expr}{fa fb fc f:FD}{pos:Pos}{k:Nat}
def Zjn (K:Fg_):R2:=fun v u H Q=>∃ x y,JF K H v x∧JF K H u y∧dp x≤100∧Q (.bl (!Y4 x y)) H
theorem Zd2 (hr:GZ k X.A):OpR X (compareOp .NotEq) (Zjn X.K):=by
 intro pins s σ H v u a b Q I ra rb h
 obtain⟨x,y,bx,bY,hd,q⟩:=h
 have hu:=hr.un
 have rc:RcNeAt X.A s a b (!Y4 x y):=Z6w I 100 (fun A x y v u a b h1 h2=>FM I 100 A x y v u a b h1 h2) X.A x y v u a b hd (by lia) bx bY ra rb
 exact rc _ _ _ _ ⟨.bl _,H,I,rfl,q⟩
noncomputable def oNe:Th→Th→Option Th:=fun x y=>if decide (dp x≤100)=true then some (.bl (!Y4 x y)) else none
theorem Zd8:OpD K (Zjn K) oNe:=fun H O v u x y z Q hn hx hy e q=>by
 unfold oNe at e
 split at e
 ·rename_i hd
  cases e
  exact⟨x,y,hx.bears,hy.bears,of_decide_eq_true hd,q _ H (Jq.refl H) (.bl _)⟩
 ·cases e
theorem ZiH (hr:GZ k X.A)(ha:PB X a fa)(hb:PB X b fb):PD X (.Compare a [.NotEq] [b] pos) (f2 oNe fa fb):=Z2s (Zd2 hr) Zd8 ha hb (Wm _)
theorem ZgH (hr:GZ k X.A)(ha:PB X a fa)(hb:PB X b fb):PDT X (.Compare a [.NotEq] [b] pos) (J7 (f2 oNe fa fb)):=Qw (Zd2 hr) Zd8 ha hb (Wm _)
noncomputable def Dm (x:Th):Lt_→Bool
 |[]=>false
 |t::r=>Y4 t x||Dm x r
theorem DY {pins:Pn_}{σ:St}{H:Hp}{s:Shared}{A:Around}(I:Inv X pins σ H s){n:Nat}{x:Th}{v:V}{a:Value}(bx:JF X.K H v x)(ra:RelV v a)(hu:A.units+n+1<cLine) :
  ∀ {its:Lu_} {xs:Lv_} {ts:Lt_},Uj xs its→J6 X.K H xs ts→dpL ts<n→∃ e:Value→Bool,its.any e=Dm x ts∧∀ y∈its,EqAt A.in1 s y a (e y):=by
 intro its xs ts r b hd
 have key:∀ y∈its,∃ t,EqAt A.in1 s y a (Y4 t x)∧∃ w,RelV w y∧JF X.K H w t:=by
  intro y hy
  obtain⟨i,hi⟩:=List.getElem?_of_mem hy
  have hl:=r.length
  have hi':i<its.length:=(Zq.mp hi).1
  obtain⟨u,hu',ru⟩:=r.get (i:=i) (x:=xs[i]'(by lia)) (Za _)
  rw[hi] at hu';cases hu'
  obtain⟨t,ht,bt⟩:=b.got (i:=i) (v:=xs[i]'(by lia)) (Za _)
  have:=Z0E ht
  exact⟨t,FM I n A.in1 t x _ _ _ _ (by exact UL ‹_› ‹_›) (by show A.units+1+n<cLine;lia) bt bx ru ra,_,ru,bt⟩
 open Classical in
 refine⟨fun y=>if h:∃ t,EqAt A.in1 s y a (Y4 t x)∧∃ w,RelV w y∧JF X.K H w t then Y4 h.choose x else false,?_,fun y hy=>?_⟩
 ·clear hd
  induction r generalizing ts with
  |nil=>cases b;rfl
  |@cons v' y' vs us ry rs ih =>
   cases b with
   |@cons _ t _ ts' bt br =>
    rw[MF,Dm,ih br fun z hz=>key z (Z4 _ hz)]
    congr 1
    have h:=key y' Z1
    simp only[dif_pos h]
    obtain⟨_,w,rw',bw⟩:=h.choose_spec
    have e1:w=v':=rw'.inj ry
    subst e1
    rw[JF.det I _ (Zc _) bw bt]
 ·have h:=key y hy
  simp only[dif_pos h]
  exact h.choose_spec.1
def Ziz (K:Fg_)(neg:Bool):R2:=fun v u H Q=>∃ x p xs ts,u=.ref p∧JF K H v x∧(SqL K H p xs∨SqT K H p xs)∧J6 K H xs ts∧dpL ts<100∧Q (.bl (if neg then !Dm x ts else Dm x ts)) H
theorem Zd6 (hr:GZ k X.A):OpR X (compareOp .In) (Ziz X.K false):=by
 intro pins s σ H v u a b Q I ra rb h
 obtain⟨x,p,xs,ts,rfl,bx,hs,bts,hd,q⟩:=h
 cases rb
 have hu:=hr.un
 rcases hs with hs|hs
 ·obtain⟨its,r,hl⟩:=G1 I hs
  obtain⟨e,he,hk⟩:=DY (A:=X.A) I bx ra (n:=100) (by lia) r bts hd
  exact in_listAt e hl (fun y hy=>hk y (by simpa using hy)) ⟨.bl _,H,I,by rw[WS,he];rfl,q⟩
 ·obtain⟨its,r,hl⟩:=Gn I hs
  obtain⟨e,he,hk⟩:=DY (A:=X.A) I bx ra (n:=100) (by lia) r bts hd
  exact in_tupleAt e hl (fun y hy=>hk y (by simpa using hy)) ⟨.bl _,H,I,by rw[WS,he];rfl,q⟩
theorem Z8L (hr:GZ k X.A):OpR X (compareOp .NotIn) (Ziz X.K true):=by
 intro pins s σ H v u a b Q I ra rb h
 obtain⟨x,p,xs,ts,rfl,bx,hs,bts,hd,q⟩:=h
 cases rb
 have hu:=hr.un
 rcases hs with hs|hs
 ·obtain⟨its,r,hl⟩:=G1 I hs
  obtain⟨e,he,hk⟩:=DY (A:=X.A) I bx ra (n:=100) (by lia) r bts hd
  exact notIn_listAt e hl (fun y hy=>hk y (by simpa using hy)) ⟨.bl _,H,I,by rw[WS,he];rfl,q⟩
 ·obtain⟨its,r,hl⟩:=Gn I hs
  obtain⟨e,he,hk⟩:=DY (A:=X.A) I bx ra (n:=100) (by lia) r bts hd
  exact notIn_tupleAt e hl (fun y hy=>hk y (by simpa using hy)) ⟨.bl _,H,I,by rw[WS,he];rfl,q⟩
noncomputable def inS (x y:Str):Bool:=!(Q1 y x 0 y.length 1).isEmpty
noncomputable def oIn (neg:Bool):Th→Th→Option Th
 |x,.lst ts=>if decide (dpL ts<100)=true then some (.bl (if neg then !Dm x ts else Dm x ts)) else none
 |x,.tup ts=>if decide (dpL ts<100)=true then some (.bl (if neg then !Dm x ts else Dm x ts)) else none
 |.str x,.str y=>some (.bl (if neg then !inS x y else inS x y))
 |_,_=>none
def Ziy (neg:Bool):R2:=fun x y H Q=>∃ i j,x=.str i∧y=.str j∧Q (.bl (if neg then !inS i j else inS i j)) H
def ZjZ (K:Fg_)(neg:Bool):R2:=fun x y H Q=>Ziz K neg x y H Q∨Ziy neg x y H Q
theorem Zd5:OpR X (compareOp .In) (Ziy false):=fun pins s σ H x y v u Q I rx ry h=>Z8N pins s σ H x y v u Q I rx ry h
theorem Z8K:OpR X (compareOp .NotIn) (Ziy true):=fun pins s σ H x y v u Q I rx ry h=>Z2w pins s σ H x y v u Q I rx ry h
theorem Z8Q {neg:Bool}:OpD K (ZjZ K neg) (oIn neg):=fun H O v u x y z Q hn hx hy e q=>by
 unfold oIn at e
 split at e
 ·split at e
  ·rename_i hd
   cases e
   obtain⟨a,xs,rfl,h1,b1⟩:=hy.lst
   exact .inl ⟨_,a,xs,_,rfl,hx.bears,.inl h1,b1.mono (Jp H O),of_decide_eq_true hd,q _ H (Jq.refl H) (.bl _)⟩
  ·cases e
 ·split at e
  ·rename_i hd
   cases e
   obtain⟨a,xs,rfl,h1,b1⟩:=hy.tup
   exact .inl ⟨_,a,xs,_,rfl,hx.bears,.inr ((Jp H O).seqT h1),b1.mono (Jp H O),of_decide_eq_true hd,q _ H (Jq.refl H) (.bl _)⟩
  ·cases e
 ·cases e
  exact .inr ⟨_,_,hx.str,hy.str,q _ H (Jq.refl H) (.bl _)⟩
 ·cases e
theorem ZiK (hr:GZ k X.A)(ha:PB X a fa)(hb:PB X b fb)(hm:behindInMarks .In b=false:=by with_unfolding_all rfl):PD X (.Compare a [.In] [b] pos) (f2 (oIn false) fa fb):=Z2s ((Zd6 hr).or Zd5) Z8Q ha hb hm
theorem ZgJ (hr:GZ k X.A)(ha:PB X a fa)(hb:PB X b fb)(hm:behindInMarks .In b=false:=by with_unfolding_all rfl):PDT X (.Compare a [.In] [b] pos) (J7 (f2 (oIn false) fa fb)):=Qw ((Zd6 hr).or Zd5) Z8Q ha hb hm
theorem Z8y (hr:GZ k X.A)(ha:PB X a fa)(hb:PB X b fb)(hm:behindInMarks .NotIn b=false:=by with_unfolding_all rfl):PDT X (.Compare a [.NotIn] [b] pos) (J7 (f2 (oIn true) fa fb)):=Qw ((Z8L hr).or Z8K) Z8Q ha hb hm
end
noncomputable def QX:Th→String
 |.non=>"NoneType"
 |.bl _=>"bool"
 |.int _=>"int"
 |.str _=>"str"
 |.tup _=>"tuple"
 |.lst _=>"list"
inductive Z06:String→Prop where
 |str:Z06 "str" | tuple:Z06 "tuple" | list:Z06 "list" | int:Z06 "int" | bool:Z06 "bool"
noncomputable def isB (t T:String):Bool:=t == T||(t == "bool"&&T == "int")
theorem Zc6 (K:Fg_)(x:Th){T:String}(h:Z06 T):Z0P K (.type (QX x)) (.type T)=some (isB (QX x) T):=by
 cases h <;> cases x <;> (first|rfl|(simp only[QX];unfold Z0P ZcA Zdt;kernel_rfl)|(simp only[QX];unfold Z0P ZcA Zdt;decide +kernel))
section
variable {X:Cx}{K:Fg_}{a b c e:Expr}{fa fb fc f:FD}{pos:Pos}{k:Nat}
def ZjY (K:Fg_)(T:String):Lv_→Hp→VK→Prop:=fun xs H Q=>∃ v x,xs=[v,.ty T]∧JF K H v x∧Q (.bl (isB (QX x) T)) H
theorem Zco {T:String} (hT:Z06 T):MG X (.builtin "isinstance") (ZjY X.K T):=by
 intro pins s σ H xs us Q I r h
 obtain⟨v,x,rfl,b,q⟩:=h
 cases r with
 |cons r1 r2=>cases r2 with
  |cons r2 r3 =>
   cases r3
   cases (show _=Yb T from r2)
   have e:=Zc6 X.K x hT
   have fin:∀ tk,EP X pins σ Q (.bool (isB (QX x) T)) { s with toks:=tk }:=fun tk=>⟨.bl _,H,I.tok _,rfl,q⟩
   cases b with
   |non=>cases r1;exact Nx PySem.W.kitx_none I.kIn MQ e (fun z=>nomatch z) fin
   |bl y=>cases r1;exact Nx PySem.W.kitx_bool I.kIn MQ e (fun z=>nomatch z) fin
   |int i=>obtain⟨t,rfl⟩:=r1;exact Nx PySem.W.kitx_int I.kIn MQ e (fun z=>nomatch z) fin
   |str y=>obtain⟨t,rfl⟩:=r1;exact Nx PySem.W.kitx_str I.kIn MQ e (fun z=>nomatch z) fin
   |tup e' h' =>
    cases r1
    obtain⟨its,_,o,h1,h2,_⟩:=Gn I e'
    exact Nx PySem.W.kitx_tuple I.kIn ⟨o,h1,h2⟩ e (fun z=>nomatch z) fin
   |lst e' h' =>
    cases r1
    obtain⟨its,_,o,h1,h2,_⟩:=G1 I e'
    exact Nx PySem.W.kitx_list I.kIn ⟨o,h1,h2⟩ e (fun z=>nomatch z) fin
noncomputable def ZfL (T:String)(f:FD):FD:=fun d=>(f d).map fun x=>.bl (isB (QX x) T)
theorem ZgV {T:String} {N:Str} {p p2:Pos} (hT:Z06 T) (ha:PB X a fa) (hg:Gl X "isinstance") (hm:X.mg "isinstance"=none) (hgT:Gl X N) (hmT:X.mg N=none) (hv:bootBuiltins N=some (.type T))
  (hnN:N≠"__name__") (hdN:(N == ("__debug__":Str))=false)
  (he:starEach [a,.Name N p2] X.env=(false,eval a X.env)::starEach [.Name N p2] X.env) (hpl:(backTo pos (starEach [.Name N p2] X.env)).any (·.1)=false) (he2:starEach [.Name N p2] X.env=(false,eval (.Name N p2) X.env)::starEach [] X.env) :
  PD X (.Call (.Name "isinstance" p) [a,.Name N p2] [] pos) (ZfL T fa) :=
 PE.imp (Qv (Zco hT) hg hm (by rfl) (Nt ha (Nt (Zei (v:=.ty T) hgT hmT hv rfl hnN hdN) W0 he2) he) (by decide) (by decide) he hpl) fun σ H Q z_=>by
  obtain⟨O,d,T',R,e,q⟩:=z_
  unfold ZfL at e
  cases hf:fa d with
  |none=>rw[hf] at e;cases e
  |some x =>
   rw[hf] at e
   cases e
   exact⟨O,d,x,R,hf,fun v H' s b=>⟨v,x,rfl,b.bears,q _ H' s (.bl _)⟩⟩
noncomputable def QC:Lt_→Option (List Bool)
 |[]=>some []
 |.bl b::r=>(QC r).map (b::·)
 |_=>none
theorem Z3p {H:Hp}:∀ {ts:Lt_} {bs:List Bool} {vs:Lv_} {us:Lu_},QC ts=some bs→J6 K H vs ts→Uj vs us→LSm.BoolsAre us bs
 |[],_,_,_,e,b,r=>by cases e;cases b;cases r;exact .nil
 |t::ts,_,_,_,e,b,r=>by
  cases b with
  |cons b1 b2=>cases r with
   |cons r1 r2 =>
    cases b1 with
    |bl y =>
     unfold QC at e
     cases hb:QC ts with
     |none=>rw[hb] at e;cases e
     |some bs =>
      rw[hb] at e
      cases e
      cases r1
      exact .cons y (Z3p hb b2 r2)
    |_=>cases e
def Zju (K:Fg_)(any:Bool):Lv_→Hp→VK→Prop:=fun xs H Q=>∃ p ys ts bs,xs=[.ref p]∧SqL K H p ys∧J6 K H ys ts∧QC ts=some bs∧Q (.bl (if any then bs.any id else bs.all id)) H
theorem Zcp (hc:X.calm=true):MG X (.builtin "any") (Zju X.K true):=by
 intro pins s σ H xs us Q I r h
 obtain⟨p,ys,ts,bs,rfl,hs,b,e,q⟩:=h
 obtain⟨u,rfl,ru⟩:=vals1 r
 cases ru
 obtain⟨its,r',hl⟩:=G1 I hs
 have hlt:p<s.heap.objs.size:=by obtain⟨_,e,_⟩:=hl;exact ZB e
 have hb:=Z3p e b r'
 refine call_any_walk (D1 hl ?_)
 refine⟨s.heap.objs.size,[s.heap.objs.size,p],[s.heap.objs.size],its.toArray.size,_,_,fun i=>(bs[i]?).getD false,rfl,Z3E (A:=X.A.in1) (I.ok.hd hc) _ p (ZI hlt) its.toArray,
  ⟨⟨_,Zu _ rfl,rfl,rfl⟩,hl.push _⟩,fun i v s' Q' E' hP hQ=>?_,fun h' tk hk=>?_⟩
 ·obtain⟨b,e,rfl⟩:=hb.get i v (by simpa using hP)
  simp only[e,CJ] at hQ
  exact Mx hQ
 ·have e:((Jg its.toArray.size).any fun i=>(bs[i]?).getD false)=bs.any id:=by
   rw[Zk,hb.length];exact LSm.range_any bs
  rw[e]
  exact⟨.bl _,H,I.kept (t':=tk) (LSm.kept_iter hk),rfl,q⟩
noncomputable def ZbK (any:Bool):Lt_→Option Th
 |[.lst ts]=>(QC ts).map fun bs=>.bl (if any then bs.any id else bs.all id)
 |_=>none
theorem Za7 {any:Bool}:Z57 K (Zju K any) (ZbK any):=fun H O vs ts z Q hn h e q=>by
 unfold ZbK at e
 split at e
 ·rename_i us
  obtain⟨v,rfl,h1⟩:=N7 h
  cases hb:QC us with
  |none=>rw[hb] at e;cases e
  |some bs =>
   rw[hb] at e
   cases e
   obtain⟨a,xs,rfl,h2,b⟩:=h1.lst
   exact⟨a,xs,us,bs,rfl,h2,b.mono (Jp H O),hb,q _ H (Jq.refl H) (.bl _)⟩
 ·cases e
theorem ZgX {p:Pos} {es:Le_} {fs:FL} (hc:X.calm=true) (hg:Gl X "any") (hm:X.mg "any"=none) (ha:PBA X (e::es) fs) (he:starEach (e::es) X.env=(false,eval e X.env)::starEach es X.env) (hpl:(backTo pos (starEach es X.env)).any (·.1)=false):PD X (.Call (.Name "any" p) (e::es) [] pos) (fCB (ZbK true) fs) :=
 Z2u (Zcp hc) Za7 hg hm (by rfl) ha (by decide) (by decide) he hpl
noncomputable def keyOf:Th→Option Key
 |.int i=>some (.inl i)
 |.str x=>some (.inr x)
 |_=>none
noncomputable def M7:Lt_→Option (List Key)
 |[]=>some []
 |t::r=>(keyOf t).bind fun k=>(M7 r).map (k::·)
theorem DP {H:Hp}:∀ {ts:Lt_} {ks:List Key} {vs:Lv_} {us:Lu_},M7 ts=some ks→J6 K H vs ts→Uj vs us→HT.KeysAre us ks
 |[],_,_,_,e,b,r=>by cases e;cases b;cases r;exact .nil
 |t::ts,_,_,_,e,b,r=>by
  cases b with
  |cons b1 b2=>cases r with
   |cons r1 r2 =>
    unfold M7 at e
    cases hk:keyOf t with
    |none=>rw[hk] at e;cases e
    |some k =>
     rw[hk] at e
     change ((M7 ts).map (k::·))=_ at e
     cases hb:M7 ts with
     |none=>rw[hb] at e;cases e
     |some bs =>
      rw[hb] at e
      cases e
      refine .cons ?_ (DP hb b2 r2)
      cases b1 with
      |int i=>cases hk;obtain⟨t,rfl⟩:=r1;exact .int i t
      |str i=>cases hk;obtain⟨t,rfl⟩:=r1;exact .str i t
      |_=>cases hk
def Zjo (K:Fg_):R2:=fun x y H Q=>∃ a b xs ys ts us ns ms z,x=.ref a∧y=.ref b∧SqT K H a xs∧SqT K H b ys∧J6 K H xs ts∧J6 K H ys us∧M7 ts=some ns∧M7 us=some ms∧HT.lexK ns ms=some z∧Q (.bl z) H
theorem Zh5 (hr:GZ k X.A):OpR X (compareOp .Lt) (Zjo X.K):=by
 intro pins s σ H x y v u Q I rx ry h
 obtain⟨a,b,xs,ys,ts,us,ns,ms,z,rfl,rfl,ha,hb,ba,bb,ka,kb,hz,q⟩:=h
 cases rx
 cases ry
 obtain⟨its,r1,p1,_⟩:=I.tuple ha
 obtain⟨its2,r2,p2,_⟩:=I.tuple hb
 exact HT.lt_tupKeys p1 p2 (by simpa using DP ka ba r1) (by simpa using DP kb bb r2) hz hr.units0 ⟨.bl z,H,I,rfl,q⟩
noncomputable def oLt:Th→Th→Option Th
 |.int i,.int j=>some (.bl (decide (i<j)))
 |.str x,.str y=>some (.bl (decide (x.cps.toList<y.cps.toList)))
 |.tup ts,.tup us=>(M7 ts).bind fun ns=>(M7 us).bind fun ms=>(HT.lexK ns ms).map .bl
 |_,_=>none
def Zjp (K:Fg_):R2:=fun x y H Q=>rI0 (fun i j=>.bl (decide (i<j))) x y H Q∨(∃ i j,x=.str i∧y=.str j∧Q (.bl (decide (i.cps.toList<j.cps.toList))) H)∨Zjo K x y H Q
theorem Zd3 (hr:GZ k X.A):OpR X (compareOp .Lt) (Zjp X.K):=ZiN.or (Z8M.or (Zh5 hr))
theorem Zd9:OpD K (Zjp K) oLt:=fun H O v u x y z Q hn hx hy e q=>by
 unfold oLt at e
 split at e
 ·cases e;exact .inl ⟨_,_,hx.int,hy.int,q _ H (Jq.refl H) (.bl _)⟩
 ·cases e;exact .inr (.inl ⟨_,_,hx.str,hy.str,q _ H (Jq.refl H) (.bl _)⟩)
 ·rename_i ts us
  cases h1:M7 ts with
  |none=>rw[h1] at e;cases e
  |some ns =>
   rw[h1] at e
   change ((M7 us).bind fun ms=>(HT.lexK ns ms).map Th.bl)=_ at e
   cases h2:M7 us with
   |none=>rw[h2] at e;cases e
   |some ms =>
    rw[h2] at e
    change ((HT.lexK ns ms).map Th.bl)=_ at e
    cases h3:HT.lexK ns ms with
    |none=>rw[h3] at e;cases e
    |some k =>
     rw[h3] at e
     cases e
     obtain⟨a,xs,rfl,g1,b1⟩:=hx.tup
     obtain⟨b,ys,rfl,g2,b2⟩:=hy.tup
     exact .inr (.inr ⟨a,b,xs,ys,ts,us,ns,ms,k,rfl,rfl,(Jp H O).seqT g1,(Jp H O).seqT g2,b1.mono (Jp H O),b2.mono (Jp H O),h1,h2,h3,q _ H (Jq.refl H) (.bl k)⟩)
 ·cases e
theorem ZiI (hr:GZ k X.A)(ha:PB X a fa)(hb:PB X b fb):PD X (.Compare a [.Lt] [b] pos) (f2 oLt fa fb):=Z2s (Zd3 hr) Zd9 ha hb (Wm _)
theorem ZgI (hr:GZ k X.A)(ha:PB X a fa)(hb:PB X b fb):PDT X (.Compare a [.Lt] [b] pos) (J7 (f2 oLt fa fb)):=Qw (Zd3 hr) Zd9 ha hb (Wm _)
noncomputable def Z8Z (p:Int→Int→Bool):Th→Th→Option Th
 |.int i,.int j=>some (.bl (p i j))
 |_,_=>none
theorem Z5C {p:Int→Int→Bool}:OpD K (rI0 fun i j=>.bl (p i j)) (Z8Z p):=fun H O v u x y z Q hn hx hy e q=>by
 unfold Z8Z at e
 split at e
 ·cases e;exact⟨_,_,hx.int,hy.int,q _ H (Jq.refl H) (.bl _)⟩
 ·cases e
noncomputable abbrev oLe:=Z8Z fun i j=>decide (i≤j)
noncomputable abbrev oGt:=Z8Z fun i j=>decide (j<i)
noncomputable abbrev oGe:=Z8Z fun i j=>decide (j≤i)
theorem ZgK (ha:PB X a fa)(hb:PB X b fb):PDT X (.Compare a [.Gt] [b] pos) (J7 (f2 oGt fa fb)):=Qw ZiO Z5C ha hb (Wm _)
theorem ZgL (ha:PB X a fa)(hb:PB X b fb):PDT X (.Compare a [.GtE] [b] pos) (J7 (f2 oGe fa fb)):=Qw ZiP Z5C ha hb (Wm _)
noncomputable def Zc8:Th→Bool
 |.non=>true
 |_=>false
noncomputable def Z4k (neg:Bool):Th→Th→Option Th
 |x,.non=>some (.bl (if neg then !Zc8 x else Zc8 x))
 |_,_=>none
theorem Z3w {H:Hp}{v:V}{x:Th}(b:JF K H v x):decide (v=.non)=Zc8 x:=by cases b <;> simp[Zc8]
theorem Z8P:OpD K (fun x y H Q=>y=.non∧Q (.bl (decide (x=.non))) H) (Z4k false):=fun H O v u x y z Q hn hx hy e q=>by
 unfold Z4k at e
 split at e
 ·cases e
  have hb:=hy.bears
  cases hb
  refine⟨rfl,?_⟩
  rw[Z3w hx.bears]
  exact q _ H (Jq.refl H) (.bl _)
 ·cases e
theorem ZbG:OpD K (fun x y H Q=>y=.non∧Q (.bl (!decide (x=.non))) H) (Z4k true):=fun H O v u x y z Q hn hx hy e q=>by
 unfold Z4k at e
 split at e
 ·cases e
  have hb:=hy.bears
  cases hb
  refine⟨rfl,?_⟩
  rw[Z3w hx.bears]
  exact q _ H (Jq.refl H) (.bl _)
 ·cases e
theorem ZgU (ha:PB X a fa)(hb:PB X b fb):PD X (.Compare a [.Is] [b] pos) (f2 (Z4k false) fa fb):=Z2s Zd4 Z8P ha hb (Wm _)
theorem Zen (ha:PB X a fa)(hb:PB X b fb):PDT X (.Compare a [.Is] [b] pos) (J7 (f2 (Z4k false) fa fb)):=Qw Zd4 Z8P ha hb (Wm _)
theorem Zbn (ha:PB X a fa)(hb:PB X b fb):PDT X (.Compare a [.IsNot] [b] pos) (J7 (f2 (Z4k true) fa fb)):=Qw ZeI ZbG ha hb (Wm _)
end
noncomputable def Dt {α:Type}(xs:List α)(lo hi:Option Int):List α:=(xs.drop (HT.sIx xs.length 0 lo)).take (HT.sIx xs.length xs.length hi-HT.sIx xs.length 0 lo)
theorem Cw {α:Type}(xs:List α)(lo hi:Option Int):(Dt xs lo hi).length≤xs.length:=by
 unfold Dt
 rw[ZC,ZS]
 lia
theorem J6.cut {K:Fg_}{H:Hp}{vs:Lv_}{ts:Lt_}(b:J6 K H vs ts)(lo hi:Option Int):J6 K H (Zdm vs lo hi) (Dt ts lo hi):=by
 unfold Zdm Dt
 rw[b.length]
 exact (b.drop _).take _
theorem Z3e {α:Type}{xs:List α}{lo hi:Option Int}(h:HT.sIx xs.length 0 lo=0∧HT.sIx xs.length xs.length hi=xs.length):Dt xs lo hi=xs:=by
 unfold Dt
 rw[h.1,h.2,M9,Z01,U5]
section
variable {prog:Program}{w:World}{A:Around}{E:Ps_}{s:Shared}
theorem Br {t sl:Addr}{items:Au_}{vl vu:Value}{lo hi:Option Int}{Q:Ps_}(ht:IsTup s.heap t items)(hs:s.heap.IsSliceOf sl vl vu .none)(pl:IsPart vl lo)(pu:IsPart vu hi)
  (hw:HT.sIx items.size 0 lo=0∧HT.sIx items.size items.size hi=items.size) (h:Q (.ref t) s):wpAny (model prog w) A (getItem (.ref t) (.ref sl)) Q E s:=by
 obtain⟨os,hos,hcs,hds⟩:=id hs
 have hTs:s.TypeIs (.ref sl) "slice":=⟨os,hos,hcs⟩
 unfold getItem
 try with_reducible refine Y5 ?_
 first|refine Z0 (Z5 ?_)|skip
 refine Z0 (ZhR ht.typeIs (by decide) ?_)
 refine Z0 (Us (name:=ZY "__getitem__") ht.typeIs Y3
  (YQ Y3 ht.typeIs ZfM ?_ (ZhI _ _)))
 show wpAny _ _ (Bz (.ref t)>>=_) _ _ s
 refine Z0 (Zk9 ht ?_)
 refine Z0 (MI hTs ?_)
 rw[if_pos (by decide)]
 refine Z0 (HT.sliceApplied_gen hs pl pu ?_)
 have hyes:(((HT.sIx items.size 0 lo:Nat):Int) == 0&&(1:Int) == 1&&(HT.sIx items.size items.size hi-HT.sIx items.size 0 lo) == items.size)=true:=by
  rw[hw.1,hw.2];simp
 show wpAny _ _ (if (((HT.sIx items.size 0 lo:Nat):Int) == 0&&(1:Int) == 1&&(HT.sIx items.size items.size hi-HT.sIx items.size 0 lo) == items.size)=true then _ else _) _ _ s
 rw[if_pos hyes]
 unfold Builtin.Tuple.tupleIsExact
 refine Z0 (Z0 (MI ht.typeIs (Z5 ?_)))
 rw[if_pos (by decide)]
 exact Z0 (Gk (Z5 ⟨_,rfl,Z5 h⟩))
end
noncomputable def Z60 (x:Str)(lo hi:Option Int):Str:=⟨(Dt x.cps.toList lo hi).toArray⟩
theorem Zg4 (x:Str):(⟨x.cps.toList.toArray⟩:Str)=x:=by cases x;simp
theorem Z23 (x:Str)(lo hi:Option Int):(Gq lo hi 1 x.length).filterMap (x.cps[·]?)=Dt x.cps.toList lo hi∧(Gq lo hi 1 x.length).length=HT.sIx x.length x.length hi-HT.sIx x.length 0 lo:=by
 have e0:Gq lo hi 1 x.length=sliceRange (sliceBounds lo hi none x.length).1 (sliceBounds lo hi none x.length).2.1 1:=rfl
 obtain⟨h1,h2,h3⟩:=BF lo hi x.length
 have hl:x.cps.toList.length=x.length:=by simp[MV]
 rw[e0,h1,h2,ZjV]
 refine⟨?_,by simp⟩
 rw[Zka]
 unfold Dt
 rw[hl]
section
variable {X:Cx}{e a b:Expr}{te tl th:TE}{pos p2:Pos}
theorem part_of {v:Value}{o:Option Int}(p:IsPart v o):∃ q:Option (Int×Tok),v=partValue q∧q.map (·.1)=o:=by
 cases p with
 |none=>exact⟨none,rfl,rfl⟩
 |int i t=>exact⟨some (i,t),rfl,rfl⟩
def Zjl:V→Option Int→Option Int→Hp→VK→Prop:=fun x lo hi H Q=>∃ z,x=.str z∧z.length≤sizeLine∧Q (.str (Z60 z lo hi)) H
theorem Zg7:SlR X Zjl:=by
 intro pins s σ H x v vl vu lo hi sl Q I rx hs pl pu h
 obtain⟨z,rfl,hz,q⟩:=h
 obtain⟨t,rfl⟩:=rx
 obtain⟨l,rfl,hl⟩:=part_of pl
 obtain⟨u,rfl,hu⟩:=part_of pu
 refine⟨"str",_,PySem.F.slot_str_getitem.lookup,ZhW _ _ _,wpAny_getItem_str_slice (l:=l) (u:=u) (st:=none) hs rfl ?_⟩
 obtain⟨c1,c2⟩:=Z23 z lo hi
 have hp:slicePicked z l u none=Gq lo hi 1 z.length:=by
  unfold slicePicked;rw[hl,hu];rfl
 have hzl:z.cps.toList.length=z.length:=by simp[MV]
 unfold sliceMade
 rw[hp,c1,c2]
 split
 ·rename_i hc
  simp only[ZX,beq_iff_eq] at hc
  have h1:=HT.sIx_le z.length z.length (Zc _) hi
  have h0:=HT.sIx_le z.length 0 (Jv _) lo
  have e:Z60 z lo hi=z:=by
   unfold Z60
   rw[Z3e (by rw[hzl];lia)]
  rw[e] at q
  exact⟨.str z,H,I,⟨t,rfl⟩,q⟩
 ·refine⟨?_,⟨.str (Z60 z lo hi),H,I.tok _,⟨_,rfl⟩,q⟩⟩
  have:=Cw z.cps.toList lo hi
  simp only[MV,Zk]
  simp only[MV] at hz
  simp only[Zm] at this
  exact Zz ‹_› ‹_›
def Zge (K:Fg_):V→Option Int→Option Int→Hp→VK→Prop:=fun x lo hi H Q=>∃ a xs,x=.ref a∧SqT K H a xs∧(HT.sIx xs.length 0 lo=0∧HT.sIx xs.length xs.length hi=xs.length)∧Q (.ref a) H
theorem ZdO:SlR X (Zge X.K):=by
 intro pins s σ H x v vl vu lo hi sl Q I rx hs pl pu h
 obtain⟨a,xs,rfl,hx,hw,q⟩:=h
 cases rx
 obtain⟨its,r,ht,hz⟩:=I.tuple hx
 have hlen:its.toArray.size=xs.length:=by rw[Zk];exact r.length.symm
 exact⟨"tuple",_,Y3.lookup,ht.typeIs,Br ht hs pl pu (by rw[hlen];exact hw) ⟨.ref a,H,I,rfl,q⟩⟩
def ZjX (K:Fg_):V→Option Int→Option Int→Hp→VK→Prop:=fun x lo hi H Q=>Zjl x lo hi H Q∨Zjk K x lo hi H Q∨Zge K x lo hi H Q∨Zjm K x lo hi H Q
theorem ZcM:SlR X (ZjX X.K):=Zg7.or (Zg6.or (ZdO.or ZdP))
abbrev FO:=Sd→Option (Option Int)
def ZiU (K:Fg_)(f:FO):TO:=fun σ H Q=>∃ O d o,Rep K H O σ d∧f d=some o∧∀ H',Jq H H'→Q o H'
def PDO (X:Cx)(e:Option Expr)(f:FO):Prop:=PO X e (ZiU X.K f)
theorem PO.imp {e:Option Expr}{t t':TO}(h:PO X e t)(i:∀ σ H Q,t' σ H Q→t σ H Q):PO X e t':=fun pins s σ H Q I q=>h pins s σ H Q I (i σ H Q q)
noncomputable def Yc:FO:=fun _=>some none
noncomputable def UV (f:FD):FO:=fun d=>match f d with|some (.int i)=>some (some i)|_=>none
theorem Zbt:PDO X none Yc:=PO.imp Zeb fun σ H Q z1_=>by obtain ⟨O,d,o,R,e,q⟩:=z1_;cases e;exact q H (Jq.refl H)
theorem Zbs {f:FD}(h:PD X e f):PDO X (some e) (UV f):=PO.imp (Zea h) fun σ H Q z_=>by
 obtain⟨O,d,o,R,e,q⟩:=z_
 unfold UV at e
 split at e
 ·rename_i i hf
  cases e
  exact⟨O,d,.int i,R,hf,fun v H' s b=>by cases b;exact⟨i,rfl,q H' s⟩⟩
 ·cases e
noncomputable def oSl:Th→Option Int→Option Int→Option Th
 |.str x,lo,hi=>if Q5 x.length=true then some (.str (Z60 x lo hi)) else none
 |.tup ts,lo,hi=>some (.tup (Dt ts lo hi))
 |.lst ts,lo,hi=>some (.lst (Dt ts lo hi))
 |_,_,_=>none
noncomputable def fSl (f:FD)(fl fh:FO):FD:=fun d=>(f d).bind fun x=>(fl d).bind fun lo=>(fh d).bind fun hi=>oSl x lo hi
theorem Z5S {f:FD}{fl fh:FO}{d:Sd}{T:Th}(h:fSl f fl fh d=some T):∃ x lo hi,f d=some x∧fl d=some lo∧fh d=some hi∧oSl x lo hi=some T:=by
 unfold fSl at h
 cases h1:f d with
 |none=>rw[h1] at h;cases h
 |some x =>
  rw[h1] at h
  change ((fl d).bind fun lo=>(fh d).bind fun hi=>oSl x lo hi)=_ at h
  cases h2:fl d with
  |none=>rw[h2] at h;cases h
  |some lo =>
   rw[h2] at h
   change ((fh d).bind fun hi=>oSl x lo hi)=_ at h
   cases h3:fh d with
   |none=>rw[h3] at h;cases h
   |some hi=>rw[h3] at h;exact⟨x,lo,hi,rfl,rfl,rfl,h⟩
theorem CZ {α β:Type}{xs:List α}{ys:List β}{lo hi:Option Int}(hl:xs.length=ys.length)(h:HT.sIx xs.length 0 lo=0∧HT.sIx xs.length xs.length hi=xs.length):Dt ys lo hi=ys:=Z3e (by rw[← hl];exact h)
theorem ZbA {f:FD}{fl fh:FO}{lo hi:Option Expr}(h:PB X e f)(hl:PDO X lo fl)(hh:PDO X hi fh):PD X (.Subscript e (.Slice lo hi none p2) pos) (fSl f fl fh):=PE.imp (Z5A ZcM h hl hh) fun σ H Q z_=>by
 obtain⟨O,d,T,R,e,q⟩:=z_
 obtain⟨x,l,u,h1,h2,h3,e⟩:=Z5S e
 refine⟨O,d,x,R,h1,fun v H1 s1 bv=>⟨O,d,l,R.mono s1,h2,fun H2 s2=>⟨O,d,u,R.mono (s1.trans s2),h3,fun H3 s3=>?_⟩⟩⟩
 have s03:Jq H H3:=(s1.trans s2).trans s3
 have b3:=bv.mono (s2.trans s3)
 unfold oSl at e
 split at e
 ·split at e
  ·cases e
   exact .inl ⟨_,b3.str,Q4 ‹_›,q _ H3 s03 (.str _)⟩
  ·cases e
 ·cases e
  obtain⟨a,xs,rfl,hx,bx⟩:=b3.tup
  by_cases hw:HT.sIx xs.length 0 l=0∧HT.sIx xs.length xs.length u=xs.length
  ·refine .inr (.inr (.inl ⟨a,xs,rfl,(Jp H3 O).seqT hx,hw,q _ H3 s03 ?_⟩))
   rw[CZ bx.length hw]
   exact .tup hx bx
  ·exact .inr (.inl ⟨a,xs,rfl,(Jp H3 O).seqT hx,hw,fun p hp=>q _ _ (s03.trans (Jq.upd hp)) (.tup (SqT.of (Uh JB ((R.mono s03).notOwn hp))) ((bx.cut l u).mono (JY (Jq.upd hp))))⟩)
 ·cases e
  obtain⟨a,xs,rfl,hx,bx⟩:=b3.lst
  exact .inr (.inr (.inr ⟨a,xs,rfl,hx,fun p hp=>q _ _ (s03.trans (Jq.upd hp)) (.lst (SqL.of (Uh JB ((R.mono s03).notOwn hp))) ((bx.cut l u).mono (JY (Jq.upd hp))))⟩))
 ·cases e
noncomputable def Zcf (f:FD)(fl fh:FO):FL:=fun d=>match fSl f fl fh d with|some (.lst ts)=>some ts|_=>none
theorem Zbf {f:FD}{fl fh:FO}{lo hi:Option Expr}(h:PB X e f)(hl:PDO X lo fl)(hh:PDO X hi fh):PF X (.Subscript e (.Slice lo hi none p2) pos) (Zcf f fl fh):=PE.imp (Z5A ZcM h hl hh) fun σ H Q z_=>by
 obtain⟨O,d,T,R,e,q⟩:=z_
 unfold Zcf at e
 split at e
 ·rename_i ts e'
  cases e
  obtain⟨x,l,u,h1,h2,h3,e⟩:=Z5S e'
  refine⟨O,d,x,R,h1,fun v H1 s1 bv=>⟨O,d,l,R.mono s1,h2,fun H2 s2=>⟨O,d,u,R.mono (s1.trans s2),h3,fun H3 s3=>?_⟩⟩⟩
  have s03:Jq H H3:=(s1.trans s2).trans s3
  have b3:=bv.mono (s2.trans s3)
  unfold oSl at e
  split at e
  ·split at e <;> cases e
  ·cases e
  ·cases e
   obtain⟨a,xs,rfl,hx,bx⟩:=b3.lst
   exact .inr (.inr (.inr ⟨a,xs,rfl,hx,fun p hp=>q _ _ (s03.trans (Jq.upd hp)) ⟨p,_,rfl,s03.free hp,JB,(bx.cut l u).mono (Qy (Jq.upd hp) hp)⟩⟩))
  ·cases e
 ·cases e
noncomputable def oIx:Th→Th→Option Th
 |.lst ts,.int i=>atI ts i
 |.tup ts,.int i=>atI ts i
 |.str x,.int i=>if Q5 x.length=true then (atI x.cps.toList i).map fun c=>.str ⟨#[c]⟩ else none
 |_,_=>none
theorem J6.at {K:Fg_}{H:Hp}{vs:Lv_}{ts:Lt_}{i:Int}{t:Th}(b:J6 K H vs ts)(h:atI ts i=some t):∃ v,atI vs i=some v∧JF K H v t:=by
 unfold atI at h ⊢
 rw[b.length]
 cases e:ixN ts.length i with
 |none=>rw[e] at h;cases h
 |some j =>
  rw[e] at h
  exact b.get h
theorem Zh7 {K:Fg_}:OpD K (rIx K) oIx:=fun H O v u x y z Q hn hx hy e q=>by
 unfold oIx at e
 split at e
 ·obtain⟨a,xs,rfl,h1,b1⟩:=hx.lst
  obtain⟨w,h2,b2⟩:=b1.at e
  exact .inl ⟨a,xs,_,w,rfl,hy.int,h1,h2,q _ H (Jq.refl H) b2⟩
 ·obtain⟨a,xs,rfl,h1,b1⟩:=hx.tup
  obtain⟨w,h2,b2⟩:=b1.at e
  exact .inr (.inl ⟨a,xs,_,w,rfl,hy.int,(Jp H O).seqT h1,h2,q _ H (Jq.refl H) b2⟩)
 ·split at e
  ·rename_i x' i hz
   cases hc:atI x'.cps.toList i with
   |none=>rw[hc] at e;cases e
   |some c =>
    rw[hc] at e
    cases e
    exact .inr (.inr ⟨_,_,c,hx.str,hy.int,Q4 hz,hc,q _ H (Jq.refl H) (.str _)⟩)
  ·cases e
 ·cases e
theorem ZiJ {fa fb:FD}(ha:PB X a fa)(hb:PB X b fb)(hs:Z50 b):PD X (.Subscript a b pos) (f2 oIx fa fb):=PE.imp (ZiF Zhv ha hb hs) (Ft Zh7)
end
end L2
namespace HT
open PySem PyProof.Rows PySem.Builtin
open PySem.AutoSeq1 (wpAny_loadPart')
theorem noFill_tuple_mul:fillsNumberSlot (.type "tuple") "mul"=pure false :=
 PySem.fillsNumberSlot_seq (id:="tuple.__mul__") (r:=some (.builtin "tuple.__rmul__")) We.lookup (by decide +kernel) Z1N.lookup (by decide +kernel)
theorem repeat_tuple:seqRepeat? (.type "tuple")=pure (some (.builtin "tuple.__mul__")):=by
 unfold seqRepeat?
 rw[Zcz (T:="tuple") (name:="__mul__") (id:="tuple.__mul__") We.lookup (by decide +kernel),Zcz (T:="tuple") (name:="__rmul__") (id:="tuple.__rmul__") Z1N.lookup (by decide +kernel)]
 rfl
theorem int_rmul_tuple (a:Int)(t:Tok)(l:Addr)(items:Au_)(n:Nat)(dd:Option Addr)(sl:Array (Option Value)) :
  Meets (Builtin.«int.__rmul__» ⟨[.int a t,.ref l],[]⟩) (fun _ R s=>s.heap.get? l=some { cls:=.type "tuple",dict:=dd,data:=.seq items n,slots:=sl }∧R (.ok (.ret Z7e)) s) :=
 .of_wp fun prog w A R s h=>by obtain⟨hp,g,d,tk,os⟩:=s;obtain⟨hl,h⟩:=h;wp_walk using Z7C hl;exact⟨_,rfl,h⟩
theorem tuple_mulW (l:Addr)(items:Au_)(n:Nat)(dd:Option Addr)(sl:Array (Option Value))(k:Int)(t:Tok)(h1:¬ (items.isEmpty=true))(h2:2≤k)(h3:k<2 ^ 63)(h4:items.size*k.toNat≤sizeLine) :
  Meets (Builtin.«tuple.__mul__» ⟨[.ref l,.int k t],[]⟩) (fun _ R s=>s.heap.get? l=some { cls:=.type "tuple",dict:=dd,data:=.seq items n,slots:=sl }∧R (.ok (.ret (YX s.heap.objs.size))) { s with heap:=s.heap.push { cls:=Yb "tuple",data:=Zke ((Zn k.toNat items).foldl (·++·) #[]) },toks:=s.toks }) :=
 .of_wp fun prog w A R s h=>by
  obtain⟨hp,g,d,tk,os⟩:=s;obtain⟨hl,h⟩:=h
  have f1:=AutoSeq1.idx_int;have f2:=Z0T
  have c1:(decide (k < -(2 ^ 63))||decide (k ≥ 2 ^ 63))=false:=by rw[decide_eq_false (by lia),decide_eq_false (by lia)];rfl
  have c2:(items.isEmpty||k == 1)=false:=by
   cases hi:items.isEmpty with
   |true=>exact absurd hi h1
   |false=>simp;lia
  have c3:(decide (k≤0)||items.isEmpty)=false:=by
   cases hi:items.isEmpty with
   |true=>exact absurd hi h1
   |false=>simp;lia
  have c4:¬ ((items.size:Int)*k > (2 ^ 63-1) / 8):=by
   have z:((items.size*k.toNat:Nat):Int)≤sizeLine:=by exact_mod_cast h4
   rw[Z1V,Ff (by lia)] at z
   have:(sizeLine:Int)≤(2 ^ 63-1) / 8:=by decide
   omega
  have c5:Mb ((items.size:Int)*k)=false:=by
   have z:((items.size*k.toNat:Nat):Int)≤sizeLine:=by exact_mod_cast h4
   rw[Z1V,Ff (by lia)] at z
   unfold Mb
   exact decide_eq_false (by omega)
  have c1':¬ ((decide (k < -(2 ^ 63))||decide (k ≥ 2 ^ 63))=true):=by rw[c1];exact JN
  have c2':¬ ((items.isEmpty||k == 1)=true):=by rw[c2];exact JN
  have c3':¬ ((decide (k≤0)||items.isEmpty)=true):=by rw[c3];exact JN
  have c5':¬ (Mb ((items.size:Int)*k)=true):=by rw[c5];exact JN
  have hs:((Zn k.toNat items).foldl (·++·) #[]).size≤sizeLine:=by
   have e:∀ (m:Nat) (acc:Au_),((Zn m items).foldl (·++·) acc).size=acc.size+m*items.size:=by
    intro m
    induction m with
    |zero=>intro acc;simp
    |succ m ih=>intro acc;rw[JR,G7,ih,ZaD,Dy];lia
   rw[e]
   simp only[Array.size_empty,Jm]
   rw[Z7q];exact h4
  wp_walk using Gm hl
  rw[if_neg c1']
  wp_walk using Gm hl
  rw[if_neg c2']
  try dsimp only
  rw[if_neg c3']
  try dsimp only
  rw[if_neg c4]
  try dsimp only
  rw[if_neg c5']
  try dsimp only
  wp_walk
  exact⟨_,rfl,h⟩
end HT
namespace L2
open PySem PySem.Spec PyProof.Rows
section
variable {X:Cx}{K:Fg_}{a b c e:Expr}{fa fb fc f:FD}{pos:Pos}{k:Nat}
def Zgk (K:Fg_):R2:=fun x y H Q=>∃ l b xs zs,x=.ref l∧y=.ref b∧SqL K H l xs∧SqL K H b zs∧xs.length+zs.length≤sizeLine∧∀ p,H p=none→Q (.ref p) (upd H p (.lst (xs++zs)))
theorem ZeO:OpR X (binaryOp .Add) (Zgk X.K):=by
 intro pins s σ H x y v u Q I rx ry h
 obtain⟨l,b,xs,zs,rfl,rfl,hl,hb,hz,q⟩:=h
 cases rx
 cases ry
 obtain⟨its,r,⟨o,n,ho,hc,hdd,hd⟩,_⟩:=I.list hl
 obtain⟨its2,r2,⟨o2,n2,ho2,hc2,hdd2,hd2⟩,_⟩:=I.list hb
 obtain⟨cls,dd,data,sl⟩:=o
 obtain⟨cls2,dd2,data2,sl2⟩:=o2
 simp only at hc hd hc2 hd2
 subst hc hd hc2 hd2
 have l1:=r.length
 have l2:=r2.length
 refine Z3f ⟨_,ho,rfl⟩ ⟨_,ho2,rfl⟩ noFill_list_add seq_list_add PySem.F.slot_list_add PySem.F.entry_list_add (PySem.F.args_list_add_2 _ _) (list_addW l b its.toArray its2.toArray n n2 dd dd2 sl sl2 (by simp only[Zk];lia)) ⟨ho,ho2,?_⟩
 have ea:its.toArray++its2.toArray=(its++its2).toArray:=by simp
 rw[ea]
 exact⟨.ref _,_,I.lnew (t':=s.toks) (r.append r2) (by rw[Zf];omega),rfl,q _ I.fresh⟩
noncomputable def Ys:Th→Th→Option Th
 |.lst xs,.lst ys=>if Q5 (xs.length+ys.length)=true then some (.lst (xs++ys)) else none
 |x,y=>Zhe x y
def Zgf (K:Fg_):R2:=fun x y H Q=>ZdW K x y H Q∨Zgk K x y H Q
theorem ZeH:OpR X (binaryOp .Add) (Zgf X.K):=ZeP.or ZeO
theorem ZbF:OpD K (Zgf K) Ys:=fun H O v u x y z Q hn hx hy e q=>by
 unfold Ys at e
 split at e
 ·split at e
  ·rename_i hz
   cases e
   obtain⟨a,xs,rfl,h1,b1⟩:=hx.lst
   obtain⟨b,ys,rfl,h2,b2⟩:=hy.lst
   have z:=Q4 hz
   rw[← b1.length,← b2.length] at z
   exact .inr ⟨a,b,xs,ys,rfl,rfl,h1,h2,z,fun p hp=>q _ _ (Jq.upd hp) (.lst (SqL.of (Uh JB (hn p hp))) ((b1.append b2).mono (JY (Jq.upd hp))))⟩
  ·cases e
 ·exact .inl (ZeR H O v u x y z Q hn hx hy e q)
theorem Zex (ha:PB X a fa)(hb:PB X b fb):PD X (.BinOp a .Add b pos) (f2 Ys fa fb):=Z8D ZeH ZbF ha hb
def Zgg (K:Fg_):R2:=fun x y H Q=>∃ l j xs,x=.ref l∧y=.int j∧SqT K H l xs∧xs≠[]∧2≤j∧j<2 ^ 63∧xs.length*j.toNat≤sizeLine∧∀ p,H p=none→Q (.ref p) (upd H p (.tup (Zn j.toNat xs).flatten))
theorem ZeJ:OpR X (binaryOp .Mult) (Zgg X.K):=by
 intro pins s σ H x y v u Q I rx ry h
 obtain⟨l,j,xs,rfl,rfl,hl,hne,h2,h3,hz,q⟩:=h
 cases rx
 obtain⟨t,rfl⟩:=ry
 obtain⟨its,r,⟨o,ho,hc,n,hd⟩,_⟩:=I.tuple hl
 obtain⟨cls,dd,data,sl⟩:=o
 simp only at hc hd
 subst hc hd
 have l1:=r.length
 have hnew:ZjH (fun x1 x2=>x1++x2) #[] (Zn j.toNat its.toArray)=(Zn j.toNat its).flatten.toArray:=by
  have:=foldl_rep its j.toNat []
  rw[ZJ] at this
  exact this
 refine wpAny_binaryOp_repeat_ref (T:="tuple") (U:="int") (by decide) ⟨_,ho,rfl⟩ (fun s'=>ZhX s' j t) HT.noFill_tuple_mul PySem.F.fills_int_mul Z3S HT.repeat_tuple PySem.F.slot_int_index.lookup
  (Zi3 Z3S (ZhX s j t) PySem.F.entry_int_rmul (PySem.F.args_int_rmul_2 _ _) (HT.int_rmul_tuple j t l its.toArray n dd sl)
   ⟨ho,rfl,⟨_,ho,rfl⟩,Zi3 We ⟨_,ho,rfl⟩ PySem.F.entry_tuple_mul (PySem.F.args_tuple_mul_2 _ _) (HT.tuple_mulW l its.toArray n dd sl j t (by
    have:its≠[]:=fun z=>hne (r.nil_iff.mp z)
    simpa using this) h2 h3 (by rw[Zk,← l1];exact hz)) ⟨ho,?_⟩⟩)
 rw[hnew]
 exact⟨.ref _,_,I.laid (t':=s.toks) (o:=.tup (Zn j.toNat xs).flatten) (fun b ob q=>Z2 _ q) (Zc _) ⟨by rw[Z9j,Z7q];exact hz,_,r.rep j.toNat,Z6l _ _⟩,rfl,q _ (I.hok.fresh (Zc _))⟩
noncomputable def UQ:Th→Th→Option Th
 |.tup xs,.int j=>if decide (xs.length≠0∧2≤j∧j≤1000000∧xs.length*j.toNat≤1000000)=true then some (.tup (Zn j.toNat xs).flatten) else none
 |x,y=>Zhd x y
def ZcR (K:Fg_):R2:=fun x y H Q=>ZdT x y H Q∨Zgg K x y H Q
theorem ZbD:OpR X (binaryOp .Mult) (ZcR X.K):=ZeL.or ZeJ
theorem Z8O:OpD K (ZcR K) UQ:=fun H O v u x y z Q hn hx hy e q=>by
 unfold UQ at e
 split at e
 ·split at e
  ·rename_i hc
   obtain⟨h1,h2,h3,h4⟩:=of_decide_eq_true hc
   cases e
   obtain⟨a,xs,rfl,g1,b1⟩:=hx.tup
   rw[← b1.length] at h1 h4
   exact .inr ⟨a,_,xs,rfl,hy.int,(Jp H O).seqT g1,fun z=>h1 (by rw[z];rfl),h2,by omega,Zz h4 (by decide),fun p hp=>q _ _ (Jq.upd hp) (.tup (SqT.of (Uh JB (hn p hp))) ((b1.rep _).mono (JY (Jq.upd hp))))⟩
  ·cases e
 ·exact .inl (ZeQ H O v u x y z Q hn hx hy e q)
theorem Zbz (ha:PB X a fa)(hb:PB X b fb):PD X (.BinOp a .Mult b pos) (f2 UQ fa fb):=Z8D ZbD Z8O ha hb
theorem Z2t {T:String}{x:Str}{p:Pos}{es:Le_}{fs:FL}{r:Lv_→Hp→VK→Prop}{g:Lt_→Option Th}(hc:MG X (.type T) r)(hr:Z57 X.K r g)(hg:Gl X x)(hm:X.mg x=none)(hv:bootBuiltins x=some (.type T))(ha:PBA X (e::es) fs)
  (hn:x≠"__name__":=by decide) (hdb:(x == ("__debug__":Str))=false:=by decide) (he:starEach (e::es) X.env=(false,eval e X.env)::starEach es X.env:=by rfl) (hpl:(backTo pos (starEach es X.env)).any (·.1)=false:=by rfl) :
  PD X (.Call (.Name x p) (e::es) [] pos) (fCB g fs):=PE.imp (DK hc hg hm hv ha hn hdb he hpl) (Za2 hr)
noncomputable def Nu:Lt_→Option Th
 |[.lst ts]=>some (.tup ts)
 |[.tup ts]=>some (.tup ts)
 |_=>none
theorem Z4U:Z57 K (fun xs H Q=>∃ p ys,xs=[.ref p]∧((SqL K H p ys∧∀ l,H l=none→Q (.ref l) (upd H l (.tup ys)))∨(SqT K H p ys∧Q (.ref p) H))) Nu:=fun H O vs ts z Q hn h e q=>by
 unfold Nu at e
 split at e
 ·obtain⟨v,rfl,h1⟩:=N7 h
  cases e
  obtain⟨a,xs,rfl,h2,b⟩:=h1.lst
  exact⟨a,xs,rfl,.inl ⟨h2,fun p hp=>q _ _ (Jq.upd hp) (.tup (SqT.of (Uh JB (hn p hp))) (b.mono (JY (Jq.upd hp))))⟩⟩
 ·obtain⟨v,rfl,h1⟩:=N7 h
  cases e
  obtain⟨a,xs,rfl,h2,b⟩:=h1.tup
  exact⟨a,xs,rfl,.inr ⟨(Jp H O).seqT h2,q _ H (Jq.refl H) (.tup h2 b)⟩⟩
 ·cases e
theorem Zby {p:Pos} {es:Le_} {fs:FL} (hg:Gl X "tuple") (hm:X.mg "tuple"=none) (ha:PBA X (e::es) fs) (he:starEach (e::es) X.env=(false,eval e X.env)::starEach es X.env) (hpl:(backTo pos (starEach es X.env)).any (·.1)=false):PD X (.Call (.Name "tuple" p) (e::es) [] pos) (fCB Nu fs) :=
 Z2t Z1D Z4U hg hm (by rfl) ha (by decide) (by decide) he hpl
noncomputable def Z0r:Lt_→Option Th
 |[.lst ts]=>some (.lst ts)
 |[.tup ts]=>some (.lst ts)
 |_=>none
theorem Z7a:Z57 K (fun xs H Q=>∃ p ys,xs=[.ref p]∧(SqL K H p ys∨SqT K H p ys)∧∀ l,H l=none→Q (.ref l) (upd H l (.lst ys))) Z0r:=fun H O vs ts z Q hn h e q=>by
 unfold Z0r at e
 split at e
 ·obtain⟨v,rfl,h1⟩:=N7 h
  cases e
  obtain⟨a,xs,rfl,h2,b⟩:=h1.lst
  exact⟨a,xs,rfl,.inl h2,fun p hp=>q _ _ (Jq.upd hp) (.lst (SqL.of (Uh JB (hn p hp))) (b.mono (JY (Jq.upd hp))))⟩
 ·obtain⟨v,rfl,h1⟩:=N7 h
  cases e
  obtain⟨a,xs,rfl,h2,b⟩:=h1.tup
  exact⟨a,xs,rfl,.inr ((Jp H O).seqT h2),fun p hp=>q _ _ (Jq.upd hp) (.lst (SqL.of (Uh JB (hn p hp))) (b.mono (JY (Jq.upd hp))))⟩
 ·cases e
theorem Zez {p:Pos} {es:Le_} {fs:FL} (hg:Gl X "list") (hm:X.mg "list"=none) (ha:PBA X (e::es) fs) (he:starEach (e::es) X.env=(false,eval e X.env)::starEach es X.env) (hpl:(backTo pos (starEach es X.env)).any (·.1)=false):PD X (.Call (.Name "list" p) (e::es) [] pos) (fCB Z0r fs) :=
 Z2t Z3m Z7a hg hm (by rfl) ha (by decide) (by decide) he hpl
end
end L2
namespace HT
open PySem PyProof.Rows PySem.Builtin
open PySem.AutoSeq1 (wpAny_loadPart')
section
variable {prog:Program}{w:World}{A:Around}{E:Ps_}{s:Shared}
theorem Bm {it l:Addr}{i:Nat}{items}{x:Value}{Q:Ps_}(hit:s.heap.IsTupleIter it l i)
  (hl:s.heap.IsTuple l items) (hx:items[i]?=some x)
  (hQ:∀ h',h'.IsTupleIter it l (i+1)→Jl it s.heap h'→Q x { s with heap:=h' }) :
  wpAny (model prog w) A (Gj (.ref it)) Q E s:=by
 obtain⟨o,ho,hc,hd⟩:=id hit
 obtain⟨ol,hol,_,nl,hdl⟩:=hl
 unfold Gj
 refine Z0 (Us (name:=ZY "__next__") hit.typeIs UI
  (YQ UI hit.typeIs B8 ?_ (DZ _)))
 show wpAny _ _ (field (.ref it) 0>>=_) _ _ s
 refine Z0 (QU ho hd (x:=.ref l) rfl ?_)
 show wpAny _ _ (if (YX l == YN)=true then _ else _) _ _ s
 rw[if_neg (show ¬ ((YX l == YN)=true) from JN)]
 show wpAny _ _ (field (.ref it) 1>>=_) _ _ s
 refine Z0 (QU ho hd (x:=.int i 0) rfl ?_)
 show wpAny _ _ (seqItems? (.ref l)>>=_) _ _ s
 refine Z0 (GI hol hdl ?_)
 simp only[Yz,hx]
 refine Z0 (GH ho hd (by simp) (Z5 ⟨x,rfl,Z5 (hQ _ ?_ (Y0 ..))⟩))
 exact⟨_,Yx _ ho (Dx (GF hd _)),(CT ..).trans hc,by
  rw[GF hd];simp[rawInt]⟩
theorem Fl {it l:Addr}{i:Nat}{items}{Q:Ps_}(hh:A.handled=none)
  (hit:s.heap.IsTupleIter it l i) (hl:s.heap.IsTuple l items) (hx:items[i]?=none)
  (hE:∀ h' e,By it s.heap h'→(∃ o,h'.get? e=some o∧o.cls=.type "StopIteration")→E (.ref e) { s with heap:=h' }) :
  wpAny (model prog w) A (Gj (.ref it)) Q E s:=by
 obtain⟨o,ho,hc,hd⟩:=id hit
 obtain⟨ol,hol,_,nl,hdl⟩:=hl
 unfold Gj
 refine Z0 (Us (name:=ZY "__next__") hit.typeIs UI
  (YQ UI hit.typeIs B8 ?_ (DZ _)))
 show wpAny _ _ (field (.ref it) 0>>=_) _ _ s
 refine Z0 (QU ho hd (x:=.ref l) rfl ?_)
 show wpAny _ _ (if (YX l == YN)=true then _ else _) _ _ s
 rw[if_neg (show ¬ ((YX l == YN)=true) from JN)]
 show wpAny _ _ (field (.ref it) 1>>=_) _ _ s
 refine Z0 (QU ho hd (x:=.int i 0) rfl ?_)
 show wpAny _ _ (seqItems? (.ref l)>>=_) _ _ s
 refine Z0 (GI hol hdl ?_)
 simp only[Yz,hx]
 refine Z0 (Gk (Z0 (GH ho hd (by simp) ?_)))
 show wpAny _ _ (newExc (.type "StopIteration") []>>=_) _ _ _
 refine Z0 ?_
 simp only[newExc,newTuple]
 refine Z0 (JC ?_ (by size_fits))
 refine Z0 (m:=firstArgMember _ _) (CN (a:=YN) (by first|rfl|(simp only[firstArgMember];rfl)) ?_)
 refine JC ?_ (by size_fits)
 simp only[raiseNew]
 refine Z0 (Zk8 ?_)
 first|rw[show A.in1.handled=none from hh]|rw[hh]
 refine Z0 (Z5 (wpAny_throw ?_))
 exact hE _ _ (((Y0 ..).extBut.push _).push _) ⟨_,Zu _ rfl,rfl⟩
theorem draws_tuple (hh:A.handled=none)(it l:Addr)(hne:l≠it)(items:Au_) :
  Draws prog w A it [it,l] items.size (fun i v=>items[i]?=some v) (fun i h=>h.IsTupleIter it l i∧h.IsTuple l items) where
 live:=fun _ _ st=>let ⟨o,ho,_⟩:=st.1;⟨o,ho⟩
 frame:=fun _ _ _ st hk=>⟨by
  obtain⟨⟨o,ho,r⟩,_⟩:=st
  exact⟨o,hk it (by simp) o ho,r⟩,by
  obtain⟨_,⟨o,ho,r⟩⟩:=st
  exact⟨o,hk l (by simp) o ho,r⟩⟩
 item:=fun i s Q E hi st hQ=>by
  refine Bm st.1 st.2 (x:=items[i]) (by simp[hi]) fun h' hit' hs'=>?_
  exact hQ _ h' s.toks (by simp[hi]) ⟨hit',st.2.extBut hs'.extBut hne⟩ hs'
 done:=fun s Q E st hE=>Fl hh st.1 st.2 (by simp) hE
theorem WV (l:Addr)(items:Au_)(n:Nat)(dct:Option Addr)(sl:Array (Option Value)) :
  Meets (Builtin.«enumerate.__new__» ⟨[.type "enumerate",.ref l],[]⟩) (fun _ R s=>s.heap.get? l=some { cls:=.type "tuple",dict:=dct,data:=.seq items n,slots:=sl } ∧
   R (.ok (.ret (.ref (s.heap.push { cls:=.type "tuple_iterator",data:=.fields #[.ref l,.int 0 0] }).objs.size)))
    { s with heap:=(s.heap.push { cls:=.type "tuple_iterator",data:=.fields #[.ref l,.int 0 0] }).push { cls:=.type "enumerate",data:=.fields #[.none,.bool false,.ref s.heap.objs.size,rawInt 0,.none,.none] } }) :=
 .of_wp fun prog w A R s h=>by
  obtain⟨hp,g,d,tk,os⟩:=s;obtain⟨hl,h⟩:=h
  have hsub:=sub_enumerate
  have hL:Heap.IsTuple (Shared.heap ⟨hp,g,d,tk,os⟩) l items:=⟨_,hl,rfl,n,rfl⟩
  wp_walk using Gm hl
  refine wpAny_stack_any fun st=>Z5 ?_
  split
  ·rename_i c _ _ _ _ _
   cases (c == Yb "enumerate")
   ·wp_walk using Gm hl,M4 hL
    exact⟨_,rfl,h⟩
   ·wp_walk using Gm hl,M4 hL
    exact⟨_,rfl,h⟩
  ·wp_walk using Gm hl,M4 hL
   exact⟨_,rfl,h⟩
theorem call_enumerate_tuple {l:Addr}{items:Au_}{Q:Ps_}(hL:s.heap.IsTuple l items)
  (h:∀ h',IsEnum h' (s.heap.objs.size+1) s.heap.objs.size 0 .none→h'.IsTupleIter s.heap.objs.size l 0→h'.objs.size=s.heap.objs.size+2 →
   (∀ b o,s.heap.get? b=some o→h'.get? b=some o)→Q (.ref (s.heap.objs.size+1)) { s with heap:=h' }) :
  wpAny (model prog w) A (call (.type "enumerate") [.ref l]) Q E s:=by
 obtain⟨⟨c,dct,dt,sl⟩,hl,hc,n,hd⟩:=hL
 replace hc:c=.type "tuple":=hc
 replace hd:dt=.seq items n:=hd
 subst hc hd
 refine callType_new PySem.F.called_enumerate (by decide) (PySem.F.typeCall_enumerate_1 _) (PySem.F.newCall_enumerate_1 _) (fun obj=>PySem.F.args_object_init_2 obj _) PySem.F.entry_enumerate_new
  (WV l items n dct sl) ⟨hl,?_⟩
 have hz:(s.heap.push { cls:=.type "tuple_iterator",data:=.fields #[.ref l,.int 0 0] }).objs.size=s.heap.objs.size+1:=Nj ..
 show _∧_
 rw[hz]
 have he:IsEnum ((s.heap.push { cls:=.type "tuple_iterator",data:=.fields #[.ref l,.int 0 0] }).push
   { cls:=.type "enumerate",data:=.fields #[.none,.bool false,.ref s.heap.objs.size,rawInt 0,.none,.none] }) (s.heap.objs.size+1) s.heap.objs.size 0 .none:=by
  have:=Zu (s.heap.push { cls:=.type "tuple_iterator",data:=.fields #[.ref l,.int 0 0] })
   (o:={ cls:=.type "enumerate",data:=.fields #[.none,.bool false,.ref s.heap.objs.size,rawInt 0,.none,.none] }) rfl
  rw[hz] at this;exact this
 refine⟨⟨_,he,rfl⟩,h _ he ⟨_,Z2 _ (Zu _ rfl),rfl,rfl⟩ (by rw[Nj,hz]) fun b o x=>Z2 _ (Z2 _ x)⟩
theorem draws_str (hh:A.handled=none)(it:Addr)(x:Str)(t:Tok) :
  Draws prog w A it [it] x.cps.size (fun i v=>∃ c u,x.cps[i]?=some c∧v=.str ⟨#[c]⟩ u) (fun i h=>h.IsStrIter it (strIterType x) x t i):=by
 cases ha:x.cps.all (·<128)
 ·have e:strIterType x="str_iterator":=by simp[strIterType,ha]
  rw[e];exact Draws.strWide hh it x t
 ·have e:strIterType x="str_ascii_iterator":=by simp[strIterType,ha]
  rw[e];exact Draws.strAscii hh it x t
end
end HT
namespace L2
open PySem PySem.Spec PyProof.Rows
theorem Inv.turned2 {X:Cx}{pins:Pn_}{σ:St}{H:Hp}{s:Shared}{h':Heap}{t':Nat}{e it:Addr}(I:Inv X pins σ H s)(k:∀ b o,b≠e→b≠it→s.heap.get? b=some o→h'.get? b=some o)
  (en:H e=none) (eL:e≠X.env.locals) (e1:e∈X.ex∨X.s₀.heap.objs.size≤e) (e2:∀ x c,X.env.cells.lookup x=some c→c≠e) (e3:∀ p∈X.pn++pins,p.1≠e)
  (hn:H it=none) (hL:it≠X.env.locals) (h1:it∈X.ex∨X.s₀.heap.objs.size≤it) (h2:∀ x c,X.env.cells.lookup x=some c→c≠it) (h3:∀ p∈X.pn++pins,p.1≠it):Inv X pins σ H { s with heap:=h',toks:=t' }:=by
 have nit:∀ b u,H b=some u→b≠e∧b≠it:=fun b u q=>⟨(fun z=>by rw[z,en] at q;cases q),(fun z=>by rw[z,hn] at q;cases q)⟩
 refine I.step (g':=s.gens) (d':=s.drawn) (ch:=[e,it]) (fun b hb=>?_) (fun b o _ _ hc q _=>k b o (fun z=>hc (by simp[z])) (fun z=>hc (by simp[z])) q) (fun b o _ _ hc q _=>⟨o.slots,k b o (fun z=>hc (by simp[z])) (fun z=>hc (by simp[z])) q⟩) (fun _ _ _ _ n=>n)
  (fun b o hc q=>⟨o,k b o (fun z=>hc (by simp[z])) (fun z=>hc (by simp[z])) q⟩) (fun _ _ q=>q) (fun _ _ _ q=>q) (fun b ps q=>⟨#[],by rw[q];simp⟩) (fun m hm=>?_) (fun b u q=>?_) I.bare
 ·have z:b=e∨b=it:=by simpa using hb
  rcases z with rfl|rfl
  ·exact⟨e1,eL,e2,e3⟩
  ·exact⟨h1,hL,h2,h3⟩
 ·obtain⟨o,es,ep,ho,r⟩:=hm
  exact⟨o,es,ep,k _ o (GR eL) (GR hL) ho,r⟩
 ·refine (I.hok b u q).stay (fun c v hc z=>k c v ?_ ?_ z) (fun _ z=>z) fun _ _ z=>z
  ·rcases hc with z|z
   ·rw[z];exact (nit b u q).1
   ·exact (nit c _ z).1
  ·rcases hc with z|z
   ·rw[z];exact (nit b u q).2
   ·exact (nit c _ z).2
noncomputable def Ite (J:It):It:=⟨J.go,fun i H x H''=>∃ y H' T,J.yld i H y H'∧x=.ref T∧H' T=none∧H''=upd H' T (.tup [.int i,y]),J.stop⟩
theorem Z3c {X:Cx}{es:Le_}{k1:Nat}{tp:Pos}{e it:Addr}{i:Nat}{pins:Pn_}{s:Shared}{σ:St}{H:Hp}{E:Ps_}{fp:List Addr}{n:Nat}{P:Nat→Value→Prop}{St:Nat→Heap→Prop}{J:It}{tn:Nat→Heap→Prop}{old:Value}
  (D:Draws X.prog X.w X.A.in1 it fp n P St) (I:Inv X pins σ H s) (hf:∀ b∈[e,it],Z6m X pins H b) (he:IsEnum s.heap e it i old) (hst:St i s.heap) (hlt:i<n) (hne:e≠it) (hef:e∉fp)
  (hP:∀ x,P i x→∃ v,RelV v x∧J.yld i H v H) (hS:∀ h,St (i+1) h→tn (i+1) h) (htn:∀ h h',tn (i+1) h→(∀ b∈[it],∀ o,h.get? b=some o→h'.get? b=some o)→tn (i+1) h') :
  wpAny (model X.prog X.w) X.A (pyNext (.ref e)) (fun r s1=>∃ u,r=some u ∧
   wpAny (model X.prog X.w) X.A (letOwnedTupleGo (.Tuple es k1 tp) (.ref e) u) (fun _ s2=>∃ x H',Inv X pins σ H' s2∧RelV x u∧(Ite J).yld i H x H'∧((∃ old,IsEnum s2.heap e it ((i+1:Nat):Int) old)∧tn (i+1) s2.heap)∧∀ b∈[e,it],H' b=none) E s1) E s:=by
 obtain⟨e0,e1,e2,e3,e4,e5⟩:=hf e (by simp)
 obtain⟨f0,f1,f2,f3,f4,f5⟩:=hf it (by simp)
 refine wpAny_pyNext_enum_itemD D he hst hlt hne hef fun x h' tk hx ho hs' hT hsz hk=>?_
 obtain⟨v,rv,hy⟩:=hP x hx
 refine⟨_,rfl,?_⟩
 refine wpAny_letOwnedTupleGo_enum ho fun h2 he2 hsb=>?_
 have I1:Inv X pins σ H { s with heap:=h2,toks:=tk+1 }:=by
  have k2:∀ b o,b≠e→b≠it→s.heap.get? b=some o→h2.get? b=some o:=fun b o hb1 hb2 hb=>(hsb.2 b hb1).trans (hk b o hb1 hb2 hb)
  exact I.turned2 k2 e0 e1 e3 e4 e5 f0 f1 f3 f4 f5
 have hTn:H s.heap.objs.size=none:=I.fresh
 have hlte:e<s.heap.objs.size:=ZB he
 have hlti:it<s.heap.objs.size:=by obtain⟨o,z⟩:=D.live _ _ hst;exact ZB z
 have hT2:h2.get? s.heap.objs.size=some { cls:=.type "tuple",data:=.seq #[.int i tk,x] }:=(hsb.2 _ (NA hlte)).trans hT
 obtain⟨g0,g1,g2,g3,g4,g5⟩:=I.fpOk (b:=s.heap.objs.size) (H':=H) (Zc _) hTn
 refine⟨.ref s.heap.objs.size,upd H s.heap.objs.size (.tup [.int i,v]),?_,rfl,⟨v,H,s.heap.objs.size,hy,rfl,hTn,rfl⟩,⟨⟨x,by simpa using he2⟩,htn _ _ (hS _ hs') fun b hb o z=>?_⟩,fun b hb=>?_⟩
 ·refine I1.track hTn (Zz I.sz (Zc _)) g1 g4 g5 ?_
  exact⟨by show 2≤sizeLine;decide,[.int i tk,x],.cons ⟨tk,rfl⟩ (.cons rv .nil),⟨_,hT2,rfl,_,rfl⟩⟩
 ·have:b=it:=by simpa using hb
  subst this
  exact (hsb.2 _ (GR hne)).trans z
 ·have:b=e∨b=it:=by simpa using hb
  rcases this with rfl|rfl
  ·rw[YA (ZI hlte)];exact e0
  ·rw[YA (ZI hlti)];exact f0
theorem Z5U {e it:Addr}{i:Int}{h:Heap}(he:∃ old,IsEnum h e it i old){b:Addr}(hb:b=e):∃ o,h.get? b=some o∧∀ v,o.data≠.cell v:=by
 subst hb
 obtain⟨old,he⟩:=he
 exact⟨_,he,fun v z=>by cases z⟩
theorem Z6t {P:Program}{w:World}{K:Fg_}{es:Le_}{k1:Nat}{tp:Pos}(x:Str)(t:Tok)(e it:Addr)(hne:e≠it):Zct P w K (.Tuple es k1 tp) (Ite (Its x)) [e,it] e (fun i h=>(∃ old,IsEnum h e it i old)∧h.IsStrIter it (strIterType x) x t i) where
 mem:=by simp
 obj:=fun i h st b hb=>by
  have z:b=e∨b=it:=by simpa using hb
  rcases z with z|z
  ·exact Z5U st.1 z
  ·subst z
   obtain⟨o,e,c,d⟩:=st.2
   exact⟨o,e,fun v z=>by rw[d] at z;cases z⟩
 keep:=fun i h h' st k=>by
  obtain⟨⟨old,he⟩,o,e',r⟩:=st
  exact⟨⟨old,k e (by simp) _ he⟩,o,k it (by simp) o e',r⟩
 item:=by
  intro X hP hw hK hc i pins s σ H E I hf st hg
  subst hP hw hK
  obtain⟨⟨old,he⟩,hs⟩:=st
  exact Z3c (J:=Its x) (tn:=fun i h=>h.IsStrIter it (strIterType x) x t i) (HT.draws_str (A:=X.A.in1) (I.ok.hd hc) it x t) I hf he hs hg hne (by simpa using hne) (fun v z_=>by
   obtain⟨c,u,hcc,ev⟩:=z_
   subst ev;exact⟨.str ⟨#[c]⟩,⟨u,rfl⟩,rfl,c,hcc,rfl⟩) (fun h z=>z) fun h h' ⟨o,e',r⟩ k=>⟨o,k it (by simp) o e',r⟩
 done:=by
  intro X hP hw hK hc i pins s σ H E I hf st hg
  subst hP hw hK
  obtain⟨⟨old,he⟩,hs⟩:=st
  obtain⟨f0,f1,f2,f3,f4,f5⟩:=hf it (by simp)
  have hg':i=x.cps.size:=hg
  subst hg'
  exact ZaF (HT.draws_str (A:=X.A.in1) (I.ok.hd hc) it x t) he hs fun h' eb=>⟨rfl,I.turned (t':=s.toks) (fun b o hb e=>eb b o hb e) f0 f1 f3 f4 f5⟩
 self:=fun _ _ _ _ _ st h=>let ⟨⟨_,he⟩,_⟩:=st;D2 he h
noncomputable def Zia (K:Fg_)(a:Addr):It:=⟨(Itt K a).go,(Itt K a).yld,fun i H=>∃ xs,SqT K H a xs∧xs.length=i⟩
theorem Z6s {P:Program}{w:World}{K:Fg_}{es:Le_}{k1:Nat}{tp:Pos}(a e it:Addr)(hne:e≠it)(hae:a≠e)(hai:a≠it):Zct P w K (.Tuple es k1 tp) (Ite (Zia K a)) [e,it] e (fun i h=>(∃ old,IsEnum h e it i old)∧h.IsTupleIter it a i) where
 mem:=by simp
 obj:=fun i h st b hb=>by
  have z:b=e∨b=it:=by simpa using hb
  rcases z with z|z
  ·exact Z5U st.1 z
  ·subst z
   obtain⟨o,e,c,d⟩:=st.2
   exact⟨o,e,fun v z=>by rw[d] at z;cases z⟩
 keep:=fun i h h' st k=>by
  obtain⟨⟨old,he⟩,o,e',r⟩:=st
  exact⟨⟨old,k e (by simp) _ he⟩,o,k it (by simp) o e',r⟩
 item:=by
  intro X hP hw hK hc i pins s σ H E I hf st hg
  subst hP hw hK
  obtain⟨⟨old,he⟩,hs⟩:=st
  obtain⟨xs,x,hq,hx⟩:=hg
  obtain⟨its,rv,p,hz⟩:=I.tuple hq
  obtain⟨u,hu,ru⟩:=rv.get hx
  have hi:i<its.toArray.size:=by
   have:=(Zq.mp hu).1
   simpa using this
  exact Z3c (J:=Zia X.K a) (tn:=fun i h=>h.IsTupleIter it a i) (HT.draws_tuple (A:=X.A.in1) (I.ok.hd hc) it a hai its.toArray) I hf he ⟨hs,p⟩ hi hne (by simp[hne,GR hae]) (fun v ev=>by
   have ev':v=u:=by
    have:its[i]?=some v:=by simpa using ev
    rw[hu] at this;cases this;rfl
   subst ev'
   exact⟨x,ru,rfl,fun ys hy=>by rw[I.tuple_inj hy hq];exact hx⟩) (fun h z=>z.1) fun h h' ⟨o,e',r⟩ k=>⟨o,k it (by simp) o e',r⟩
 done:=by
  intro X hP hw hK hc i pins s σ H E I hf st hg
  subst hP hw hK
  obtain⟨⟨old,he⟩,hs⟩:=st
  obtain⟨xs,hq,hx⟩:=hg
  obtain⟨its,rv,p,hz⟩:=I.tuple hq
  obtain⟨f0,f1,f2,f3,f4,f5⟩:=hf it (by simp)
  have hl:=rv.length
  have hi:i=its.toArray.size:=by rw[Zk];lia
  rw[hi] at hs he
  exact ZaF (HT.draws_tuple (A:=X.A.in1) (I.ok.hd hc) it a hai its.toArray) he ⟨hs,p⟩ fun h' eb=>⟨rfl,I.turned (t':=s.toks) (fun b o hb e=>eb b o hb e) f0 f1 f3 f4 f5⟩
 self:=fun _ _ _ _ _ st h=>let ⟨⟨_,he⟩,_⟩:=st;D2 he h
theorem ZdI {X:Cx}{pins:Pn_}{σ:St}{H:Hp}{s:Shared}(I:Inv X pins σ H s){a:Addr}{xs:Lv_}(e:SqT X.K H a xs):∃ its:Lu_,Uj xs its∧s.heap.IsTuple a its.toArray:=let ⟨its,r,p,_⟩:=I.tuple e;⟨its,r,p⟩
def Zj1 (K:Fg_)(ta:TA):TI:=fun σ H R=>ta σ H fun vs H1=>(∃ x,vs=[.str x]∧R (Ite (Its x)) H1)∨(∃ a xs,vs=[.ref a]∧SqT K H1 a xs∧R (Ite (Zia K a)) H1)
theorem Zee {X:Cx} {es:Le_} {k1:Nat} {tp:Pos} {a:Expr} {ta:TA} {p pos:Pos} (hg:Gl X "enumerate") (hm:X.mg "enumerate"=none) (ha:PA X [a] ta) (hs:starEach [a] X.env=[(false,eval a X.env)]:=by rfl):PI X (.Tuple es k1 tp) (.Call (.Name "enumerate" p) [a] [] pos) (Zj1 X.K ta):=by
 intro pins s σ H R I h
 refine Call_ (BU I hg hm boot_enumerate (Gf (thn (ha pos pins s σ H _ I h) fun us s1 z1_=>?_) hs rfl))
 obtain ⟨vs,H1,I1,r1,q1⟩:=z1_
 have fpo:∀ b∈[s1.heap.objs.size+1,s1.heap.objs.size],Z6m X pins H1 b:=fun b hb=>by
  have z:b=s1.heap.objs.size+1∨b=s1.heap.objs.size:=by simpa using hb
  have hle:s1.heap.objs.size≤b:=by rcases z with z|z <;> lia
  exact I1.fpOk hle (I1.hok.fresh hle)
 rcases q1 with ⟨x,rfl,q⟩|⟨b,xs,rfl,hx,q⟩
 ·cases r1 with
  |cons r rr =>
   cases rr
   obtain⟨t,rfl⟩:=r
   refine call_enumerate_str fun h' he hi hz kp=>?_
   refine D2 he ?_
   exact⟨_,[s1.heap.objs.size+1,s1.heap.objs.size],_,_,H1,rfl,I1.kept (t':=s1.toks) kp,Z6t x t (s1.heap.objs.size+1) s1.heap.objs.size (Z0R _),⟨⟨_,by simpa using he⟩,hi⟩,fpo,q⟩
 ·cases r1 with
  |cons r rr =>
   cases rr
   cases r
   obtain⟨its,rv,hT⟩:=ZdI I1 hx
   have hlt:b<s1.heap.objs.size:=by obtain⟨o,e,_⟩:=hT;exact ZB e
   refine HT.call_enumerate_tuple hT fun h' he hi hz kp=>?_
   refine D2 he ?_
   exact⟨_,[s1.heap.objs.size+1,s1.heap.objs.size],_,_,H1,rfl,I1.kept (t':=s1.toks) kp,Z6s b (s1.heap.objs.size+1) s1.heap.objs.size (Z0R _) (ZI (Yg hlt)) (ZI hlt),⟨⟨_,by simpa using he⟩,hi⟩,fpo,q⟩
noncomputable def numbered:Nat→Lt_→Lt_
 |_,[]=>[]
 |k,t::r=>.tup [.int k,t]::numbered (k+1) r
theorem Ug:∀ (k:Nat) (ts:Lt_),(numbered k ts).length=ts.length
 |_,[]=>rfl
 |k,t::r=>by simp[numbered,Ug (k+1) r]
theorem BP:∀ (k:Nat) (ts:Lt_) (i:Nat) (t:Th),ts[i]?=some t→(numbered k ts)[i]?=some (.tup [.int ((k+i:Nat):Int),t])
 |_,[],i,t,e=>by simp at e
 |k,x::r,0,t,e=>by simp at e;subst e;simp[numbered]
 |k,x::r,i+1,t,e=>by
  have:=BP (k+1) r i t (by simpa using e)
  simp only[numbered,gs_,this]
  rw[show k+1+i=k+(i+1) by lia]
section
variable {X:Cx}{K:Fg_}
theorem Z2R {J:It}{B:Hp}{f:Addr→Prop}{ts:Lt_}(h:ZcE K J B f ts):ZcE K (Ite J) B f (numbered 0 ts) where
 go:=fun i H s hi=>h.go i H s (by rw[Ug] at hi;exact hi)
 stop:=fun H s=>by rw[Ug];exact h.stop H s
 yld:=fun i H O x H' hi hf s hn y=>by
  rw[Ug] at hi
  obtain⟨v,H1,T,hy,rfl,hT,rfl⟩:=y
  obtain⟨s1,t,ht,b⟩:=h.yld i H O v H1 hi hf s hn hy
  have s2:Jq H1 (upd H1 T (.tup [.int i,v])):=Jq.upd hT
  have nT:¬ O.has T:=hn T (s1.free hT)
  refine⟨s1.trans s2,_,by simpa using BP 0 ts i t ht,?_⟩
  exact .tup (SqT.of (Uh JB nT)) (.cons (.int _) (.cons (b.mono (JY s2)) .nil))
theorem Z9x {H:Hp}{O:Hid}{a:Addr}{xs:Lv_}{ts:Lt_}(h:SqT K (less H O) a xs)(b:J6 K (less H O) xs ts):ZcE K (Zia K a) (low H O) O.far ts where
 go:=(FH h b).go
 stop:=fun H' s=>by
  have hl:SqT K H' a xs:=by
   rcases h with (h|⟨o,h⟩)|h
   ·exact .inl (.inl (s _ _ (M6 (of_less h).1 fun z=>(of_less h).2 (.inl z))))
   ·exact .inl (.inr ⟨o,s _ _ (M6 (of_less h).1 fun z=>(of_less h).2 (.inl z))⟩)
   ·exact .inr h
  exact⟨xs,hl,b.length⟩
 yld:=(FH h b).yld
noncomputable def W7 (f:FD):FL:=fun d=>(f d).bind fun T=>match T with|.str x=>some (numbered 0 (signs x))|.tup ts=>some (numbered 0 ts)|_=>none
theorem Zbw {es:Le_} {k1:Nat} {tp:Pos} {a:Expr} {f:FD} {p pos:Pos} (hg:Gl X "enumerate") (hm:X.mg "enumerate"=none) (ha:PD X a f) (hs:starEach [a] X.env=[(false,eval a X.env)]) (hs1:starEach [a] X.env=(false,eval a X.env)::starEach [] X.env):PDI X (.Tuple es k1 tp) (.Call (.Name "enumerate" p) [a] [] pos) (W7 f) :=
 PI.imp (Zee hg hm (Nt ha W0 hs1) hs) fun σ H R z_=>by
  obtain⟨O,d,ts,r,e,q⟩:=z_
  unfold W7 at e
  cases hf:f d with
  |none=>rw[hf] at e;cases e
  |some T =>
   rw[hf] at e
   cases T with
   |str x=>cases e;exact⟨O,d,_,r,hf,fun v H' s b=>by cases b;exact .inl ⟨x,rfl,q _ H' s (Z2R (Z5K x))⟩⟩
   |tup us=>cases e;exact⟨O,d,_,r,hf,fun v H' s b=>by cases b with|tup e' b'=>exact .inr ⟨_,_,rfl,(Jp H' O).seqT e',q _ H' s (Z2R (Z9x e' b'))⟩⟩
   |_=>cases e
end
section
variable {X:Cx}{K:Fg_}{o a b c e:Expr}{fo fa fb fc f:FD}{pos:Pos}{k:Nat}
def rM1 (g:Str→Str→Option V):V→Lv_→Hp→VK→Prop:=fun x xs H Q=>∃ z y r,x=.str z∧xs=[.str y]∧g z y=some r∧Q r H
theorem ZeZ:MtR X "str.find" (rM1 fun z y=>some (.int (MP z y))):=by
 intro pins s σ H x xs v us Q I rx rs h
 obtain⟨z,y,r,rfl,rfl,e,q⟩:=h
 cases e
 obtain⟨t,rfl⟩:=rx
 obtain⟨u,rfl,ru⟩:=vals1 rs
 obtain⟨t2,rfl⟩:=ru
 exact SC.find ⟨.int _,H,I.tok _,⟨_,rfl⟩,q⟩
theorem Z95:MtR X "str.startswith" (rM1 fun z y=>some (.bl (Ya z y))):=by
 intro pins s σ H x xs v us Q I rx rs h
 obtain⟨z,y,r,rfl,rfl,e,q⟩:=h
 cases e
 obtain⟨t,rfl⟩:=rx
 obtain⟨u,rfl,ru⟩:=vals1 rs
 obtain⟨t2,rfl⟩:=ru
 exact SC.startswith ⟨.bl _,H,I,rfl,q⟩
noncomputable def fM1 (g:Str→Str→Option Th)(fo fa:FD):FD:=f2 (fun x y=>match x,y with|.str z,.str w=>g z w|_,_=>none) fo fa
theorem Zf4 {g:Str→Str→Option Th} {g':Str→Str→Option V} (hg:∀ z w T,g z w=some T→∃ v,g' z w=some v∧∀ H,JF K H v T):∀ σ H Q,Bo K (fM1 g fo fa) σ H Q→tBM K "str" (rM1 g') (Z9g K fo) (Z5H K (Z6 fa J2)) σ H Q:=fun σ H Q z_=>by
 obtain⟨O,d,T,R,e,q⟩:=z_
 obtain⟨x,y,h1,h2,e⟩:=Z9N e
 cases x with
 |str z =>
  cases y with
  |str w =>
   obtain⟨v,hv,bv⟩:=hg z w T e
   refine⟨O,d,_,R,h1,fun v1 H1 s1 b1=>?_⟩
   rw[b1.str]
   refine⟨rfl,O,d,[.str w],R.mono s1,by unfold Z6 J2;rw[h2];rfl,fun vs H2 s2 b2=>?_⟩
   obtain⟨u,rfl,bu⟩:=N7 b2
   rw[bu.str]
   exact⟨z,w,v,rfl,rfl,hv,q v H2 (s1.trans s2) (bv _)⟩
  |_=>cases e
 |_=>cases e
theorem ZgS {name:Str} {id:String} {apos cpos:Pos} {g:Str→Str→Option Th} {g':Str→Str→Option V} (hg:∀ z w T,g z w=some T→∃ v,g' z w=some v∧∀ H,JF X.K H v T) (slot:Slot "str" name id) (hty:typeOf (.builtin id)=pure (.type "method_descriptor")) (hm:MtR X id (rM1 g')) (ho:PB X o fo) (ha:PB X e fa)
  (hbase:attributeBase o name X.env (eval o X.env)=eval o X.env:=by rfl)
  (hfew:((backTo cpos (starEach (e::[]) X.env)).all (fun x=>!x.1)&&(backToKw cpos (keywordEach [] X.env)).all (fun x=>x.1.isSome)
  &&decide ((e::[]).length+([]:List Keyword).length+(if ([]:List Keyword).isEmpty then 0 else 1)<30))=true:=by rfl)
  (hline:(apos.endLine == cpos.line)=true:=by rfl) (hs:starEach (e::[]) X.env=(false,eval e X.env)::starEach [] X.env:=by rfl) (hplain:(backTo cpos (starEach [] X.env)).any (·.1)=false:=by rfl) :
  PD X (.Call (.Attribute o name apos) [e] [] cpos) (fM1 g fo fa):=PE.imp (Zbl Z3I slot hty hm ho (Fy ha Z4c hs) hbase hfew hline hs hplain) (Zf4 hg)
theorem ZeA {apos cpos:Pos}(ho:PB X o fo)(ha:PB X e fa)
  (hbase:attributeBase o "find" X.env (eval o X.env)=eval o X.env)
  (hfew:((backTo cpos (starEach (e::[]) X.env)).all (fun x=>!x.1)&&(backToKw cpos (keywordEach [] X.env)).all (fun x=>x.1.isSome)
  &&decide ((e::[]).length+([]:List Keyword).length+(if ([]:List Keyword).isEmpty then 0 else 1)<30))=true)
  (hline:(apos.endLine == cpos.line)=true) (hs:starEach (e::[]) X.env=(false,eval e X.env)::starEach [] X.env) (hplain:(backTo cpos (starEach [] X.env)).any (·.1)=false) :
  PD X (.Call (.Attribute o "find" apos) [e] [] cpos) (fM1 (fun z y=>some (.int (MP z y))) fo fa) :=
 ZgS (fun z w T e=>by cases e;exact⟨_,rfl,fun _=>.int _⟩) Z3R Z3Q ZeZ ho ha hbase hfew hline hs hplain
theorem Z8C {apos cpos:Pos}(ho:PB X o fo)(ha:PB X e fa)
  (hbase:attributeBase o "startswith" X.env (eval o X.env)=eval o X.env)
  (hfew:((backTo cpos (starEach (e::[]) X.env)).all (fun x=>!x.1)&&(backToKw cpos (keywordEach [] X.env)).all (fun x=>x.1.isSome)
  &&decide ((e::[]).length+([]:List Keyword).length+(if ([]:List Keyword).isEmpty then 0 else 1)<30))=true)
  (hline:(apos.endLine == cpos.line)=true) (hs:starEach (e::[]) X.env=(false,eval e X.env)::starEach [] X.env) (hplain:(backTo cpos (starEach [] X.env)).any (·.1)=false) :
  PD X (.Call (.Attribute o "startswith" apos) [e] [] cpos) (fM1 (fun z y=>some (.bl (Ya z y))) fo fa) :=
 ZgS (fun z w T e=>by cases e;exact⟨_,rfl,fun _=>.bl _⟩) PySem.F.slot_str_startswith PySem.F.type_str_startswith Z95 ho ha hbase hfew hline hs hplain
end
noncomputable def Qi (n m:Nat)(b:FS):Lt_→Option Th:=fun Ts=>if Ts.length=n then (match b (Ts.map (fun T=>some (Dv.th T))++Zn (m-Ts.length) none) with|some (.rt T)=>some T|_=>none) else none
theorem Z82 {n m:Nat}{b:FS}{Ts:Lt_}{T:Th}(e:Qi n m b Ts=some T):Ts.length=n∧b (Ts.map (fun T=>some (Dv.th T))++Zn (m-Ts.length) none)=some (.rt T):=by
 unfold Qi at e
 split at e
 ·rename_i h
  refine⟨h,?_⟩
  split at e
  ·rename_i h2;cases e;exact h2
  ·cases e
 ·cases e
noncomputable def Zdn (N:Ls_)(sc scope:Scope):Bool:=scope.kind == .function&&scope.names.all (fun y=>y.2 != .cell)&&scope.names.all (fun y=>y.2 != .local||scope.names.lookup y.1 == some .local)
&&scope.names.all (fun y=>y.2 != .free||(sc.names.lookup y.1 == some .cell||sc.names.lookup y.1 == some .free))&&N.all (fun y=>scope.names.lookup y != some .local)
theorem Di {X:Cx}{ts N:Ls_}{sc scope:Scope}(h1:X.env.scope=sc)(h2:X.N=N)(h:Zdn N sc scope=true):Yn X ts scope:=by
 unfold Zdn at h
 simp only[ZX,UH] at h
 obtain⟨⟨⟨⟨a,b⟩,c⟩,d⟩,e⟩:=h
 refine⟨by simpa using a,fun y hy=>by simpa using b y hy,fun y hy hl=>?_,fun y hy hf=>?_,fun y hy=>?_⟩
 ·have:=c y hy
  rw[hl] at this
  simpa using this
 ·have:=d y hy
  rw[hf] at this
  have:(sc.names.lookup y.1 == some .cell||sc.names.lookup y.1 == some .free)=true:=by simpa using this
  rw[← h1] at this
  show X.env.scope.names.lookup y.1=some .cell∨X.env.scope.names.lookup y.1=some .free
  simpa using this
 ·rw[h2] at hy
  simpa using e y hy
theorem Z0K {K:Fg_}{H:Hp}:∀ ns:List Int,J6 K H (ns.map V.int) (ns.map Th.int)
 |[]=>.nil
 |n::ns=>.cons (.int n) (Z0K ns)
theorem Zho {K:Fg_}{H:Hp}{a:Addr}{ns:List Int}{φ:Lt_→Option Th}{E:XK}(hS:SqL K H a (ns.map V.int))(h:φ [.lst (ns.map Th.int)]=some (.bl true)):spF K φ [.ref a] H (fun v _=>v=.bl true) E:=by
 refine⟨fun _=>False,_,_,fun _ z=>z.elim,.cons (.lst ?_ (Z0K ns)) .nil,h,fun v H' _ b=>?_⟩
 ·rw[less_none];exact hS
 ·cases b;rfl
section
variable {X:Cx}{a b c e:Expr}{fa fb fc f:FD}{pos:Pos}{k:Nat}
theorem Zew {i j:Nat}{x y:Str}{px py:Pos}{k:Nat}(hc:X.calm=true)(hN:X.N.Nodup)(hi:X.N[i]?=some x)(hj:X.N[j]?=some y)(hx:Loc X.env.scope x)(hy:Loc X.env.scope y)
  (hf:X.fn x=true∨X.env.scope.names.lookup x=some .local) (hf2:X.fn y=true∨X.env.scope.names.lookup y=some .local):PDG X (.Tuple [.Name x px,.Name y py] k pos) (NX i j) :=
 Zbx hc hN hi hj hx hy (Z5z hc (MK (Mm hN hi hx hf) (MK (Mm hN hj hy hf2) Z1b)))
end
mutual
inductive Lit:Expr→Th→Prop where
 |int {i:Int} {j p}:Lit (.Constant (.int i) j p) (.int i)
 |neg {i:Int} {j p p2}:Lit (.UnaryOp .USub (.Constant (.int i) j p) p2) (.int (-i))
 |bl {b:Bool} {j p}:Lit (.Constant (.bool b) j p) (.bl b)
 |non {j p}:Lit (.Constant .none j p) .non
 |str {x:Str} {j p}:Lit (.Constant (.str x) j p) (.str x)
 |tup {es:Le_} {ts:Lt_} {k p} (h:Zdy es ts) (z:ts.length≤1000000):Lit (.Tuple es k p) (.tup ts)
 |lst {es:Le_} {ts:Lt_} {p} (h:Zdy es ts) (z:ts.length≤1000000):Lit (.List es p) (.lst ts)
inductive Zdy:List Expr→Lt_→Prop where
 |nil:Zdy [] []
 |cons {e:Expr} {t:Th} {es:Le_} {ts:Lt_} (h:Lit e t) (r:Zdy es ts):Zdy (e::es) (t::ts)
end
section
variable {X:Cx}{e:Expr}{f f':FD}{pos:Pos}
theorem PD.congr (h:PD X e f)(i:∀ d T,f' d=some T→f d=some T):PD X e f':=PE.imp h fun σ H Q ⟨O,d,T,R,e,q⟩=>⟨O,d,T,R,i d T e,q⟩
theorem PF.congr {g g':FL}(h:PF X e g)(i:∀ d T,g' d=some T→g d=some T):PF X e g':=PE.imp h fun σ H Q ⟨O,d,T,R,e,q⟩=>⟨O,d,T,R,i d T e,q⟩
noncomputable def fCL (ts:Lt_):FL:=fun _=>some ts
theorem ZaQ {T:Th}(h:Lit e T)(es:Le_)(env:Env):starEach (e::es) env=(false,eval e env)::starEach es env:=by
 cases h <;> rfl
mutual
theorem Zd1:∀ {e:Expr} {T:Th},Lit e T→PD X e (fC T)
 |_,_,.int=>Z8F
 |_,_,.neg=>PD.congr (Zd0 Z8F) fun d T e=>by cases e;rfl
 |_,_,.bl=>ZgW
 |_,_,.non=>ZcZ
 |_,_,.str=>ZcY
 |_,_,.tup (ts:=ts) h z=>PD.congr (ZcX (Z1c h)) fun d T e=>by
   cases e
   unfold W6 fCL Z36
   show ((if ts.length≤1000000 then some ts else none).map Th.tup)=_
   rw[if_pos z];rfl
 |_,_,.lst (ts:=ts) h z=>PD.congr (PF.pd (Z4a (Z1c h))) fun d T e=>by
   cases e
   unfold G2 Wq fCL Z36
   show ((if ts.length≤1000000 then some ts else none).map Th.lst)=_
   rw[if_pos z];rfl
theorem Z1c:∀ {es:Le_} {ts:Lt_},Zdy es ts→PDA X es (fCL ts)
 |_,_,.nil=>PA.imp Z8B fun σ H Q ⟨O,d,T,R,e,q⟩=>⟨O,d,T,R,e,q⟩
 |_,_,.cons h r=>PA.imp (Z5B (Zd1 h) (Z1c r) (ZaQ h _ _)) fun σ H Q ⟨O,d,T,R,e,q⟩=>⟨O,d,T,R,e,q⟩
end
theorem Zgx {es:Le_}{ts:Lt_}{p:Pos}(h:Zdy es ts)(z:ts.length≤1000000):PF X (.List es p) (fCL ts):=PF.congr (Z4a (Z1c h)) fun d T e=>by
 cases e
 unfold Wq fCL Z36
 show (if ts.length≤1000000 then some ts else none)=_
 rw[if_pos z]
end
section
variable {X:Cx}{a b c e:Expr}{fa fb fc f:FD}{F G:FS}{pos:Pos}{k:Nat}
noncomputable def Gu (c:FB)(F:FS):Nat→FS
 |0,_=>none
 |n+1,d=>(c d).bind fun b=>if b=true then (F d).bind fun o=>match o with|.nx d'=>Gu c F n d'|.ct d'=>Gu c F n d'|.bk d'=>some (.nx d')|.rt T=>some (.rt T)|.xc c=>some (.xc c) else some (.nx d)
theorem D8 {c:FB}{F:FS}:∀ (n:Nat) {d:Sd} {o:Out},Gu c F n d=some o→Gu c F (n+1) d=some o
 |0,d,o,h=>by cases h
 |n+1,d,o,h=>by
  unfold Gu at h ⊢
  cases hc:c d with
  |none=>rw[hc] at h;cases h
  |some b =>
   rw[hc] at h
   change (if b=true then _ else _)=_ at h
   change (if b=true then _ else _)=_
   cases b with
   |false=>exact h
   |true =>
    rw[if_pos rfl] at h ⊢
    cases hF:F d with
    |none=>rw[hF] at h;cases h
    |some o1 =>
     rw[hF] at h
     cases o1 with
     |nx d'=>exact D8 n h
     |ct d'=>exact D8 n h
     |bk d'=>exact h
     |rt T=>exact h
     |xc c=>exact h
theorem Z20 {c:FB}{F:FS}{n m:Nat}(hl:n≤m){d:Sd}{o:Out}(h:Gu c F n d=some o):Gu c F m d=some o:=by
 induction hl with
 |refl=>exact h
 |step _ ih=>exact D8 _ ih
open Classical in
noncomputable def DT (c:FB)(F:FS):FS:=fun d=>if h:∃ n o,Gu c F n d=some o then some h.choose_spec.choose else none
theorem Co {c:FB}{F:FS}{n:Nat}{d:Sd}{o:Out}(h:Gu c F n d=some o):DT c F d=some o:=by
 have hx:∃ n o,Gu c F n d=some o:=⟨n,o,h⟩
 unfold DT
 rw[dif_pos hx]
 have h2:=hx.choose_spec.choose_spec
 have h3:=Z20 (Nat.le_max_left n hx.choose) h
 have h4:=Z20 (Nat.le_max_right n hx.choose) h2
 rw[h4] at h3
 exact h3
theorem Z4M {c:FB}{F:FS}{d:Sd}{o:Out}(h:DT c F d=some o):∃ n,Gu c F n d=some o:=by
 unfold DT at h
 split at h
 ·rename_i hx
  injection h with h
  exact⟨_,h ▸ hx.choose_spec.choose_spec⟩
 ·cases h
theorem Z8A {body:List Stmt}{fc:FB}(hp:YZ (model X.prog X.w) X.A X.env X.xe)(hc:PDT X c fc)(hb:Zau X body F):PDS X (.While c body [] pos) (DT fc F):=PS.imp (Zb8 hp hc hb) fun D σ H z_=>by
 obtain⟨O,d,o,R,e,q⟩:=z_
 obtain⟨n0,e0⟩:=Z4M e
 refine⟨fun m σ' H'=>∃ O' d',O'.far=O.far∧Rep X.K H' O' σ' d'∧Jq (low H O) (low H' O')∧Gu fc F m d'=some o,⟨n0,O,d,rfl,R,Jq.refl _,e0⟩,?_⟩
 rintro m σ' H' ⟨O',d',hf',R',s',e'⟩
 cases m with
 |zero=>cases e'
 |succ m =>
  unfold Gu at e'
  cases hcd:fc d' with
  |none=>rw[hcd] at e';cases e'
  |some b =>
   rw[hcd] at e'
   change (if b=true then _ else _)=_ at e'
   refine⟨O',d',b,R',hcd,fun H1 s1=>?_⟩
   have s2:Jq (low H O) (low H1 O'):=s'.trans (Ui s1)
   cases b with
   |false =>
    rw[if_neg JN] at e'
    show (if false=true then _ else _)
    rw[if_neg JN]
    cases e'
    exact q σ' H1 O' hf' s2 (R'.mono s1)
   |true =>
    rw[if_pos rfl] at e'
    show (if true=true then _ else _)
    rw[if_pos rfl]
    refine⟨fun σ2 H2=>∃ O2 d2,O2.far=O.far∧Rep X.K H2 O2 σ2 d2∧Jq (low H O) (low H2 O2)∧Gu fc F m d2=some o,fun σ2 H2 h=>⟨m,U9 m,h⟩,?_⟩
    cases hF:F d' with
    |none=>rw[hF] at e';cases e'
    |some o1 =>
     rw[hF] at e'
     refine⟨O',d',o1,R'.mono s1,hF,?_⟩
     cases o1 with
     |nx d2=>exact fun σ2 H2 O2 hf2 s3 R2=>⟨O2,d2,hf2.trans hf',R2,s2.trans s3,e'⟩
     |ct d2=>exact fun σ2 H2 O2 hf2 s3 R2=>⟨O2,d2,hf2.trans hf',R2,s2.trans s3,e'⟩
     |bk d2=>cases e';exact fun σ2 H2 O2 hf2 s3 R2=>q σ2 H2 O2 (hf2.trans hf') (s2.trans s3) R2
     |xc c=>cases e';exact fun H2 s3=>q H2 (s2.trans s3)
     |rt T2=>cases e';rw[hf'];exact fun v H2 s3 b2=>q v H2 (s2.trans s3) b2
noncomputable def Zhz (f:FD)(g:FG):FS:=fun d=>(f d).bind fun T=>(g T d).map Out.nx
theorem Zes {tg:Expr}{g:FG}(he:PD X e f)(hg:PDG X tg g)(hs:swapsWithSole [tg] e pos.line X.env=pure false)(hw:swappedStores [tg] e X.env=pure none)
  (h1:(assignEach [tg] X.env).map (·.2)=[assign tg X.env]):PDS X (.Assign [tg] e pos) (Zhz f g):=PS.imp (Zgv he hg hs hw h1) fun D σ H z_=>by
 obtain⟨O,d,o,R,e,q⟩:=z_
 unfold Zhz at e
 cases hf:f d with
 |none=>rw[hf] at e;cases e
 |some T =>
  rw[hf] at e
  change (g T d).map Out.nx=_ at e
  cases hg:g T d with
  |none=>rw[hg] at e;cases e
  |some d' =>
   rw[hg] at e
   cases e
   exact⟨O,d,T,R,hf,fun v H' s b=>⟨O,d,T,d',R.mono s,b,hg,fun σ' R'=>q σ' H' O rfl (Ui s) R'⟩⟩
theorem Zbg {x y:Str}{px py pt pos:Pos}{k1:Nat}{scope:Scope}{elt iter:Expr}{ifs:Le_}{fi:FL}{ft:FB}{fe:FD}(hc:X.calm=true)(S:Yn X [x,y] scope)(hN:([x,y]++X.N).Nodup)(hx:scope.names.lookup x=some .local)(hy:scope.names.lookup y=some .local)(hi:PDI X (.Tuple [.Name x px,.Name y py] k1 pt) iter fi)
  (ht:∀ cl s₂ H1 C fp,Zdv (cxC X [x,y] scope cl s₂ H1 C fp) ifs ft) (he:∀ cl s₂ H1 C fp,PD (cxC X [x,y] scope cl s₂ H1 C fp) elt fe) (hs:∀ x,foldedSetIterable iter X.env x=pure x) :
  PF X (.ListComp elt [⟨.Tuple [.Name x px,.Name y py] k1 pt,iter,ifs,0⟩] scope pos) (Ua g2 fi ft fe) :=
 PE.imp (Z8x (tt:=liftT X.K ft) (te:=Bo X.K fe) hc S (PI.imp hi Zhw) (fun cl s₂ H1 C fp=>Z5z (X:=cxC X [x,y] scope cl s₂ H1 C fp) hc (MK (Mm (i:=0) hN rfl (CI (Jd hx)) (.inr (Jd hx))) (MK (Mm (i:=1) hN rfl (CI (Jd hy)) (.inr (Jd hy))) Z1b))) ht he hs) (DV Z9X)
theorem Z6C {x y z:Str}{px py pt pz pos spos:Pos}{k1:Nat}{scope:Scope}{elt iter:Expr}{ifs:Le_}{fi:FL}{ft:FB}{fe:FD}{i:Nat}(hN0:X.N.Nodup)(hi':X.N[i]?=some z)(hz:Loc X.env.scope z)(hc:X.calm=true)(S:Yn X [x,y] scope)(hN:([x,y]++X.N).Nodup)(hx:scope.names.lookup x=some .local)(hy:scope.names.lookup y=some .local)(hi:PDI X (.Tuple [.Name x px,.Name y py] k1 pt) iter fi)
  (ht:∀ cl s₂ H1 C fp,Zdv (cxC X [x,y] scope cl s₂ H1 C fp) ifs ft) (he:∀ cl s₂ H1 C fp,PD (cxC X [x,y] scope cl s₂ H1 C fp) elt fe)
  (hsw:swapsWith (.ListComp elt [⟨.Tuple [.Name x px,.Name y py] k1 pt,iter,ifs,0⟩] scope pos) (some (.Name z pz)) spos.line X.env=pure true)
  (hf':X.fn z=true∨X.env.scope.names.lookup z=some .local)
  (hs:∀ x,foldedSetIterable iter X.env x=pure x) :
  PDS X (.Assign [.Name z pz] (.ListComp elt [⟨.Tuple [.Name x px,.Name y py] k1 pt,iter,ifs,0⟩] scope pos) spos) (YJ i (G2 (Ua g2 fi ft fe))) :=
 PS.imp (Z8o (tt:=liftT X.K ft) (te:=Bo X.K fe) hN0 hi' hz hc S (PI.imp hi Zhw) (fun cl s₂ H1 C fp=>Z5z (X:=cxC X [x,y] scope cl s₂ H1 C fp) hc (MK (Mm (i:=0) hN rfl (CI (Jd hx)) (.inr (Jd hx))) (MK (Mm (i:=1) hN rfl (CI (Jd hy)) (.inr (Jd hy))) Z1b))) ht he hsw hf' hs) fun D σ H h=>by
  obtain⟨O,d,o,R,e,q⟩:=h
  unfold YJ G2 at e
  cases hf:Ua g2 fi ft fe d with
  |none=>rw[hf] at e;cases e
  |some ts =>
   rw[hf] at e
   cases e
   refine DV Z9X σ H _ ⟨O,d,ts,R,hf,fun v H' s b=>?_⟩
   obtain⟨a,xs,rfl,e2,e3,b⟩:=b
   exact q _ H' O rfl (Ui s) ((R.mono s).set i (.lst (SqL.of (Uh e3 (R.notOwn e2))) (b.mono Md)))
theorem Z4b {m:List Nat}{x y z:Str}{px py pt pz pos spos:Pos}{k1:Nat}{scope:Scope}{elt iter:Expr}{ifs:Le_}{fi:FL}{ft:FB}{fe:FD}{i:Nat}(hN0:X.N.Nodup)(hi':X.N[i]?=some z)(hz:Loc X.env.scope z)(hc:X.calm=true)(S:Yn (X.hid m) [x,y] scope)(hN:([x,y]++(X.hid m).N).Nodup)(hx:scope.names.lookup x=some .local)(hy:scope.names.lookup y=some .local)(hi:PDI X (.Tuple [.Name x px,.Name y py] k1 pt) iter fi)
  (ht:∀ cl s₂ H1 C fp,Zdv (cxC (X.hid m) [x,y] scope cl s₂ H1 C fp) ifs ft) (he:∀ cl s₂ H1 C fp,PD (cxC (X.hid m) [x,y] scope cl s₂ H1 C fp) elt fe)
  (hsw:swapsWith (.ListComp elt [⟨.Tuple [.Name x px,.Name y py] k1 pt,iter,ifs,0⟩] scope pos) (some (.Name z pz)) spos.line X.env=pure true)
  (hf':X.fn z=true∨X.env.scope.names.lookup z=some .local)
  (hs:∀ x,foldedSetIterable iter X.env x=pure x) :
  PDS X (.Assign [.Name z pz] (.ListComp elt [⟨.Tuple [.Name x px,.Name y py] k1 pt,iter,ifs,0⟩] scope pos) spos) (YJ i (G2 (BW m g2 fi ft fe))) :=
 PS.imp (Z5x (m:=m) (tt:=liftT X.K ft) (te:=Bo X.K fe) hN0 hi' hz hc S (PI.imp hi Zhw) (fun cl s₂ H1 C fp=>Z5z (X:=cxC (X.hid m) [x,y] scope cl s₂ H1 C fp) hc (MK (Mm (i:=0) hN rfl (CI (Jd hx)) (.inr (Jd hx))) (MK (Mm (i:=1) hN rfl (CI (Jd hy)) (.inr (Jd hy))) Z1b))) ht he hsw hf' hs) fun D σ H h=>by
  obtain⟨O,d,o,R,e,q⟩:=h
  unfold YJ G2 at e
  cases hf:BW m g2 fi ft fe d with
  |none=>rw[hf] at e;cases e
  |some ts =>
   rw[hf] at e
   cases e
   refine Z0G Z9X σ H _ ⟨O,d,ts,R,hf,fun v H' s b=>?_⟩
   obtain⟨a,xs,rfl,e2,e3,b⟩:=b
   exact q _ H' O rfl (Ui s) ((R.mono s).set i (.lst (SqL.of (Uh e3 (R.notOwn e2))) (b.mono Md)))
end
structure Fly (P:Program)(w:World)(l:List Env)(H:Hp)(s:Shared)(C:Addr)(H1:Hp)(B:Heap)(ea t:Addr)(s':Shared):Prop where
 os:s'.os=s.os
 bare:AllBare s'.gens
 un:Un (frs l) [] H H1 s.heap s'.heap
 hok:HOk P w H1 s'.heap
 fly:Zib B l ea (.ref C) (.ref t) s'.heap
 cov:∀ b o,s.heap.get? b=some o→H b=none→b∉frs l→B.get? b=some o
 all:∀ b o,s.heap.get? b=some o→b∉frs l→∃ o',B.get? b=some o'
 trk:∀ b o,H1 b=some o→∃ o',B.get? b=some o'
section
variable {P:Program}{w:World}{l:List Env}{H H1:Hp}{s s':Shared}{C ea t:Addr}{B:Heap}
theorem Fly.free (f:Fly P w l H s C H1 B ea t s'):H1 ea=none:=by
 cases q:H1 ea with
 |none=>rfl
 |some o =>
  obtain⟨o',e⟩:=f.trk ea o q
  rw[f.fly.2.1] at e;cases e
theorem Fly.on (f:Fly P w l H s C H1 B ea t s'){h':Heap}(k:Zib B l ea (.ref C) (.ref t) h')(u:s'.heap.UpToSlots h'):Fly P w l H s C H1 B ea t { s' with heap:=h' } where
 os:=f.os
 bare:=f.bare
 un:={
  keep:=fun b o q n hb _=>k.1 b o (f.cov b o q n hb)
  slot:=fun b o q n hb hx=>by
   obtain⟨sl,e⟩:=f.un.slot b o q n hb hx
   obtain⟨_,o2,ho,hn⟩:=f.fly.2.2.1.mem hb
   rw[e] at ho
   cases ho
   obtain⟨sl',e'⟩:=u b _ e hn
   exact⟨sl',e'⟩
  free:=f.un.free
  there:=fun b o q hx=>by
   by_cases hb:b∈frs l
   ·obtain⟨_,o2,ho,hn⟩:=f.fly.2.2.1.mem hb
    obtain⟨sl',e'⟩:=u b _ ho hn
    exact⟨_,e'⟩
   ·obtain⟨o',e⟩:=f.all b o q hb
    exact⟨o',k.1 b o' e⟩
  tups:=f.un.tups
  frzs:=f.un.frzs
  tbls:=f.un.tbls }
 hok:=fun a o e=>(f.hok a o e).stay (fun b u hb q=>by
  have hb':∃ o',H1 b=some o':=by
   rcases hb with z|z
   ·exact⟨o,by rw[z];exact e⟩
   ·exact⟨_,z⟩
  obtain⟨o',e'⟩:=hb'
  obtain⟨ob,eb⟩:=f.trk b o' e'
  have e1:=f.fly.1 b ob eb
  rw[q] at e1
  cases e1
  exact k.1 b u eb) (fun _ q=>q) fun _ _ q=>q
 fly:=k
 cov:=f.cov
 all:=f.all
 trk:=f.trk
end
section
variable {X:Cx}{K:Fg_}{o a b c e:Expr}{fo fa fb fc f:FD}{pos:Pos}{k:Nat}
noncomputable def Na:Lt_→Option (Ls_)
 |[]=>some []
 |.str y::r=>(Na r).map (y::·)
 |_=>none
theorem Z12 {H:Hp}:∀ {ts:Lt_} {ys:Ls_} {vs:Lv_} {us:Lu_},Na ts=some ys→J6 K H vs ts→Uj vs us→StrsAre us ys
 |[],_,_,_,e,b,r=>by cases e;cases b;cases r;exact .nil
 |t::ts,_,_,_,e,b,r=>by
  cases b with
  |cons b1 b2=>cases r with
   |cons r1 r2 =>
    cases b1 with
    |str y =>
     unfold Na at e
     cases hb:Na ts with
     |none=>rw[hb] at e;cases e
     |some bs =>
      rw[hb] at e
      cases e
      obtain⟨t,rfl⟩:=r1
      exact .cons y t (Z12 hb b2 r2)
    |_=>cases e
end
section
variable {X:Cx}{K:Fg_}{o e:Expr}{fo fa:FD}
theorem Z0J {H:Hp}:∀ l:Ls_,J6 K H (l.map V.str) (l.map Th.str)
 |[]=>.nil
 |y::l=>.cons (.str y) (Z0J l)
end
def leS (a b:Str):Prop:=a.cps.toList≤b.cps.toList
theorem Z2N {a b c:Str}(h1:leS a b)(h2:leS b c):leS a c:=List.le_trans h1 h2
theorem DO {a b:Str}(h1:leS a b)(h2:leS b a):a=b:=by
 have h:a.cps.toList=b.cps.toList:=ZdC h1 h2
 cases a;cases b
 simp only[ZfN]
 exact Wy.mp h
theorem DF:∀ {a b:Ls_},a.Perm b→a.Pairwise leS→b.Pairwise leS→a=b
 |[],b,p,_,_=>by rw[ZhL.mp p]
 |x::a,[],p,_,_=>absurd p.length_eq (by simp)
 |x::a,y::b,p,ha,hb=>by
  have hxy:x=y:=by
   have h1:x∈y::b:=p.mem_iff.mp Z1
   have h2:y∈x::a:=p.mem_iff.mpr Z1
   rcases Zp.mp h1 with h1|h1
   ·exact h1
   ·rcases Zp.mp h2 with h2|h2
    ·exact h2.symm
    ·exact DO ((YE.mp ha).1 y h2) ((YE.mp hb).1 x h1)
  subst hxy
  rw[DF p.cons_inv (YE.mp ha).2 (YE.mp hb).2]
open Classical in
noncomputable def Ng (ss:Ls_):Ls_:=if h:∃ r:Ls_,r.Perm ss∧r.Pairwise leS then h.choose else []
theorem Fu {ss r:Ls_}(hp:r.Perm ss)(hs:r.Pairwise leS):Ng ss=r:=by
 have h:∃ r:Ls_,r.Perm ss∧r.Pairwise leS:=⟨r,hp,hs⟩
 unfold Ng
 rw[dif_pos h]
 exact DF (h.choose_spec.1.trans hp.symm) h.choose_spec.2 hs
section
variable {X:Cx}{K:Fg_}{e:Expr}{es:Le_}{fs:FL}{p pos:Pos}
theorem Z21:∀ {us:Lu_} {ys:Ls_},StrsAre us ys→Uj (ys.map V.str) us:=by
 intro us ys h
 induction h with
 |nil=>exact .nil
 |cons y t h ih=>exact .cons ⟨t,rfl⟩ ih
end
end L2
namespace Sg
open PySem PyProof.Rows
section pure
variable {O:KeyOrd}{key:Keyed→O.α}
def Up (key:Keyed→O.α)(l:List Keyed):Prop:=l.Pairwise (fun x y=>O.kle (key x) (key y))
def Below (key:Keyed→O.α)(l m:List Keyed):Prop:=∀ x∈l,∀ y∈m,O.kle (key x) (key y)
theorem Up.app {l m:List Keyed}(h1:Up key l)(h2:Up key m)(h3:Below key l m):Up key (l++m) :=
 G3.mpr ⟨h1,h2,h3⟩
theorem Up.sub {l m:List Keyed}(h:Up key m)(hs:l.Sublist m):Up key l:=Ju.sublist hs h
theorem Below.sub {l m l' m':List Keyed}(h:Below key l m)(h1:∀ x∈l',x∈l)(h2:∀ x∈m',x∈m):Below key l' m' :=
 fun x hx y hy=>h x (h1 x hx) y (h2 y hy)
theorem Up.halves {l:List Keyed}(h:Up key l)(k:Nat):Below key (l.take k) (l.drop k):=by
 have h':Up key (l.take k++l.drop k):=by rw[ZF];exact h
 exact (G3.mp h').2.2
theorem DX {l:List Keyed}:Below key l []:=fun _ _ _ h=>absurd h (by simp)
theorem DM {l:List Keyed}:Below key [] l:=fun _ h=>absurd h (by simp)
theorem Below.app {l m n:List Keyed}(h1:Below key l n)(h2:Below key m n):Below key (l++m) n :=
 fun x hx y hy=>(ZW.mp hx).elim (fun q=>h1 x q y hy) fun q=>h2 x q y hy
theorem Below.app' {l m n:List Keyed}(h1:Below key l m)(h2:Below key l n):Below key l (m++n) :=
 fun x hx y hy=>(ZW.mp hy).elim (fun q=>h1 x hx y q) fun q=>h2 x hx y q
structure Lo (key:Keyed→O.α)(a b out:List Keyed)(ia ib:Nat):Prop where
 perm:out.Perm (a.take ia++b.take ib)
 up:Up key out
 ba:Below key out (a.drop ia)
 bb:Below key out (b.drop ib)
variable {a b out:List Keyed}{ia ib k:Nat}
theorem Lo.chunkA (h:Lo key a b out ia ib)(ua:Up key a)(hb:Below key ((a.drop ia).take k) (b.drop ib)) :
  Lo key a b (out++(a.drop ia).take k) (ia+k) ib:=by
 refine⟨?_,?_,?_,?_⟩
 ·rw[Fp]
  refine (h.perm.append_right _).trans ?_
  rw[Z8,Z8]
  exact Jz _ Yu
 ·exact h.up.app (ua.sub ((Yd ..).trans (Yw ..))) (h.ba.sub (fun _ q=>q) fun _ q=>Ub q)
 ·rw[← JD]
  exact (h.ba.sub (fun _ q=>q) fun _ q=>JZ q).app ((ua.sub (Yw ..)).halves k)
 ·exact h.bb.app hb
theorem Lo.chunkB (h:Lo key a b out ia ib)(ub:Up key b)(ha:Below key ((b.drop ib).take k) (a.drop ia)) :
  Lo key a b (out++(b.drop ib).take k) ia (ib+k):=by
 refine⟨?_,?_,?_,?_⟩
 ·rw[Fp,← Z8]
  exact h.perm.append_right _
 ·exact h.up.app (ub.sub ((Yd ..).trans (Yw ..))) (h.bb.sub (fun _ q=>q) fun _ q=>Ub q)
 ·exact h.ba.app ha
 ·rw[← JD]
  exact (h.bb.sub (fun _ q=>q) fun _ q=>JZ q).app ((ub.sub (Yw ..)).halves k)
theorem Lo.finA (h:Lo key a b out ia ib)(ua:Up key a)(ub:Up key b)(hx:Below key (a.drop ia) (b.drop ib)) :
  (out++a.drop ia++b.drop ib).Perm (a++b)∧Up key (out++a.drop ia++b.drop ib):=by
 refine⟨?_,((h.up.app (ua.sub (Yw ..)) h.ba).app (ub.sub (Yw ..)) (h.bb.app hx))⟩
 refine ((h.perm.append_right _).append_right _).trans ?_
 have e:(a++b)=(a.take ia++a.drop ia)++(b.take ib++b.drop ib):=by rw[ZF,ZF]
 rw[e]
 simp only[Z8]
 refine Jz _ ?_
 rw[← Z8,← Z8]
 exact Ge _ Yu
theorem Lo.finB (h:Lo key a b out ia ib)(ua:Up key a)(ub:Up key b)(hx:Below key (b.drop ib) (a.drop ia)) :
  (out++b.drop ib++a.drop ia).Perm (a++b)∧Up key (out++b.drop ib++a.drop ia):=by
 refine⟨?_,((h.up.app (ub.sub (Yw ..)) h.bb).app (ua.sub (Yw ..)) (h.ba.app hx))⟩
 refine ((h.perm.append_right _).append_right _).trans ?_
 have e:(a++b)=(a.take ia++a.drop ia)++(b.take ib++b.drop ib):=by rw[ZF,ZF]
 rw[e]
 simp only[Z8]
 refine Jz _ ?_
 have:(b.take ib++(b.drop ib++a.drop ia)).Perm (a.drop ia++(b.take ib++b.drop ib)):=by
  rw[← Z8]
  exact Yu
 exact this
structure Hi (key:Keyed→O.α)(a b out:List Keyed)(na nb:Nat):Prop where
 perm:out.Perm (a.drop na++b.drop nb)
 up:Up key out.reverse
 ba:Below key (a.take na) out
 bb:Below key (b.take nb) out
variable {na nb t:Nat}
theorem WD {l:List Keyed}{m n:Nat}(h:m≤n):l.take n=l.take m++(l.take n).drop m:=by
 have e:=ZF m (l.take n)
 rw[B9,Z1R h] at e
 exact e.symm
theorem Z0c {l:List Keyed}{m n:Nat}(h:m≤n):l.drop m=(l.take n).drop m++l.drop n:=by
 have e:l=l.take n++l.drop n:=(ZF n l).symm
 by_cases hn:n≤l.length
 ·conv=>lhs;rw[e]
  rw[JA (by rw[ZC];lia)]
 ·rw[JG (by lia),Je (i:=n) (by lia),Uq]
theorem Hi.chunkA (h:Hi key a b out na nb)(ua:Up key a)(ht:t≤na)(hb:Below key (b.take nb) ((a.take na).drop t)) :
  Hi key a b (out++((a.take na).drop t).reverse) t nb:=by
 refine⟨?_,?_,?_,?_⟩
 ·rw[Z0c (l:=a) ht,Z8]
  refine Yu.trans ?_
  exact ((W9 _).append_right _).trans (h.perm.append_left _)
 ·rw[Zaj,Z7u]
  exact (ua.sub ((Yw ..).trans (Yd ..))).app h.up (h.ba.sub (fun _ q=>JZ q) fun _ q=>UG.mp q)
 ·refine (h.ba.sub (fun x q=>?_) fun _ q=>q).app' (Below.sub ?_ (fun _ q=>q) fun _ q=>UG.mp q)
  ·rw[WD ht];exact Js _ q
  ·have u2:Up key (a.take t++(a.take na).drop t):=by rw[← WD ht];exact ua.sub (Yd ..)
   exact (G3.mp u2).2.2
 ·exact h.bb.app' (hb.sub (fun _ q=>q) fun _ q=>UG.mp q)
theorem Hi.chunkB (h:Hi key a b out na nb)(ub:Up key b)(ht:t≤nb)(ha:Below key (a.take na) ((b.take nb).drop t)) :
  Hi key a b (out++((b.take nb).drop t).reverse) na t:=by
 refine⟨?_,?_,?_,?_⟩
 ·rw[Z0c (l:=b) ht]
  refine (h.perm.append (W9 _)).trans ?_
  rw[Z8]
  exact Jz _ Yu
 ·rw[Zaj,Z7u]
  exact (ub.sub ((Yw ..).trans (Yd ..))).app h.up (h.bb.sub (fun _ q=>JZ q) fun _ q=>UG.mp q)
 ·exact h.ba.app' (ha.sub (fun _ q=>q) fun _ q=>UG.mp q)
 ·refine (h.bb.sub (fun x q=>?_) fun _ q=>q).app' (Below.sub ?_ (fun _ q=>q) fun _ q=>UG.mp q)
  ·rw[WD ht];exact Js _ q
  ·have u2:Up key (b.take t++(b.take nb).drop t):=by rw[← WD ht];exact ub.sub (Yd ..)
   exact (G3.mp u2).2.2
theorem Hi.finA (h:Hi key a b out na nb)(ua:Up key a)(ub:Up key b)(hx:Below key (a.take na) (b.take nb)) :
  (a.take na++b.take nb++out.reverse).Perm (a++b)∧Up key (a.take na++b.take nb++out.reverse):=by
 refine⟨?_,(((ua.sub (Yd ..)).app (ub.sub (Yd ..)) hx).app h.up ((h.ba.app h.bb).sub (fun _ q=>q) fun _ q=>UG.mp q))⟩
 refine (Jz _ ((W9 _).trans h.perm)).trans ?_
 have e:(a++b)=(a.take na++a.drop na)++(b.take nb++b.drop nb):=by rw[ZF,ZF]
 rw[e]
 simp only[Z8]
 refine Jz _ ?_
 rw[← Z8,← Z8]
 exact Ge _ Yu
theorem Hi.finB (h:Hi key a b out na nb)(ua:Up key a)(ub:Up key b)(hx:Below key (b.take nb) (a.take na)) :
  (b.take nb++a.take na++out.reverse).Perm (a++b)∧Up key (b.take nb++a.take na++out.reverse):=by
 refine⟨?_,(((ub.sub (Yd ..)).app (ua.sub (Yd ..)) hx).app h.up ((h.bb.app h.ba).sub (fun _ q=>q) fun _ q=>UG.mp q))⟩
 refine (Jz _ ((W9 _).trans h.perm)).trans ?_
 have e:(a++b)=(a.take na++a.drop na)++(b.take nb++b.drop nb):=by rw[ZF,ZF]
 rw[e]
 refine (Ge _ Yu).trans ?_
 simp only[Z8]
 refine Jz _ ?_
 rw[← Z8,← Z8]
 exact Ge _ Yu
end pure
end Sg
namespace Sg
open PySem PyProof.Rows
noncomputable def nth (xs:Ak_)(i:Nat):Keyed:=(xs[i]?).getD (YN,YN)
theorem Z93 {xs:Ak_}{i:Nat}(h:i<xs.size):xs[i]?=some (nth xs i):=by
 unfold nth;rw[getElem?_pos xs i h];rfl
theorem ML {xs:Ak_}{i:Nat}(h:i<xs.size):xs.toList[i]?=some (nth xs i):=by
 rw[J0];exact Z93 h
theorem N8 {xs:Ak_}{i:Nat}(h:i<xs.size):nth xs i∈xs.toList:=ZZ (ML h)
noncomputable def Zfk:Bool→Keyed→Array Keyed→Nat→Nat→Nat→StateT SortSt Sem (Option Nat):=sortPriv% PySem.Builtin.gallop
noncomputable def ZbQ:Array Keyed→Array Keyed→StateT SortSt Sem (Ak_):=sortPriv% PySem.Builtin.mergeLo
noncomputable def ZbR:Array Keyed→Array Keyed→StateT SortSt Sem (Ak_):=sortPriv% PySem.Builtin.mergeHi
noncomputable def Z15:Nat→StateT SortSt Sem Unit:=sortPriv% PySem.Builtin.setMinGallop
def Z7y (prog:Program)(w:World)(s:Shared)(O:KeyOrd)(key:Keyed→O.α)(G:Keyed→Prop)(kd:Nn):Prop :=
 ∀ (A:Around) (E:Ps_) (x y:Keyed) (Q:Bool→Shared→Prop),G x→G y→Q (O.blt (key x) (key y)) s→wpAny (model prog w) A (keyLt' kd x.1 y.1) Q E s
section
variable {prog:Program}{w:World}{A:Around}{E:Ps_}{s:Shared}{O:KeyOrd}{key:Keyed→O.α}{G:Keyed→Prop}{kd:Nn}{st:SortSt}
theorem FU {x y:Keyed}{Q:Option Bool→SortSt→Prop}(hc:Z7y prog w s O key G kd)(hk:kindOf st=kd)(gx:G x)(gy:G y)
  (h:Q (some (O.blt (key x) (key y))) st):wpS (model prog w) A E s (lt' x y) Q st:=by
 rw[lt'_eq]
 refine Zr (QQ ?_)
 rw[hk]
 refine Zr (Z07 (Z09 (hc _ _ x y _ gx gy ⟨rfl,?_⟩)))
 exact ZA h
theorem Y1 {xs:Ak_}{i:Nat}{Q:Keyed→SortSt→Prop}(hi:i<xs.size)(h:Q (nth xs i) st):wpS (model prog w) A E s (elem' xs i) Q st:=by
 rw[elem'_eq,Z93 hi]
 exact ZA h
theorem Z7z {i j:Nat}{Q:Option Bool→SortSt→Prop}(hc:Z7y prog w s O key G kd)(hk:kindOf st=kd)(hi:i<(arrOf st).size)(hj:j<(arrOf st).size)
  (gx:G (nth (arrOf st) i)) (gy:G (nth (arrOf st) j)) (h:Q (some (O.blt (key (nth (arrOf st) i)) (key (nth (arrOf st) j)))) st):wpS (model prog w) A E s (ltAt' i j) Q st:=by
 rw[ltAt'_eq]
 refine Zr (QQ ?_)
 exact Zr (Y1 hi (Zr (Y1 hj (FU hc hk gx gy h))))
noncomputable def bey (key:Keyed→O.α)(l:Bool)(k:Keyed)(arr:Ak_)(b i:Nat):Bool :=
 if l=true then O.blt (key (nth arr (b+i))) (key k) else !O.blt (key k) (key (nth arr (b+i)))
theorem Me {l:Bool}{k:Keyed}{arr:Ak_}{b n h:Nat}{Q:Option Nat→SortSt→Prop}(hc:Z7y prog w s O key G kd)(hk:kindOf st=kd)
  (hG:∀ i,i<n→G (nth arr (b+i))) (gk:G k) (hz:b+n≤arr.size) (hh:h<n)
  (mono:∀ i j,i≤j→j<n→bey key l k arr b j=true→bey key l k arr b i=true)
  (hQ:∀ r,r≤n→(∀ i,i<r→bey key l k arr b i=true)→(∀ i,r≤i→i<n→bey key l k arr b i=false)→Q (some r) st) :
  wpS (model prog w) A E s (Zfk l k arr b n h) Q st:=by
 have ask:∀ i,i<n→∀ {Q':Option Bool→SortSt→Prop},Q' (some (bey key l k arr b i)) st →
   wpS (model prog w) A E s (do
    let it ← elem' arr (b+i)
    if l=true then lt' it k else do
     let r ← lt' k it
     pure (Option.map (fun z=>!z) r)) Q' st:=by
  intro i hi Q' hq
  refine Zr (Y1 (by lia) ?_)
  unfold bey at hq
  cases l with
  |true =>
   simp only[if_true] at hq ⊢
   exact FU hc hk (hG i hi) gk hq
  |false =>
   simp only[Zj,if_false] at hq ⊢
   exact Zr (FU hc hk gk (hG i hi) (ZA hq))
 generalize hf:bey key l k arr b=f at ask mono hQ
 have monof:∀ i j,i≤j→j<n→f i=false→f j=false:=by
  intro i j hij hj hi
  cases hfj:f j with
  |false=>rfl
  |true=>rw[mono i j hij hj hfj] at hi;exact absurd hi (by simp)
 refine Zr (ask h hh ?_)
 dsimp only
 by_cases hr:f h=true
 ·rw[if_pos hr]
  refine Zr (UX (JU (I:=fun x c st'=>st'=st∧∃ lf o,c=(none,lf,o)∧lf<o∧x+1≤o∧lf<n-h∧f (h+lf)=true)
   (Q:=fun c st'=>st'=st∧∃ lf o,c=(none,lf,o)∧lf<o∧lf<n-h∧f (h+lf)=true∧(o<n-h→f (h+o)=false)) ?is ?fi ⟨rfl,0,1,rfl,by exact Zc _,by exact U9 _,by lia,hr⟩) ?po)
  case is =>
   rintro x c st'-hx ⟨rfl,lf,o,rfl,h1,h2,h3,h4⟩
   dsimp only
   by_cases ho:o ≥ n-h
   ·rw[if_pos ho]
    exact ZA ⟨rfl,lf,o,rfl,h1,h3,h4,fun z=>by lia⟩
   ·rw[if_neg ho]
    refine Zr (ask (h+o) (by lia) ?_)
    dsimp only
    cases hfo:f (h+o) with
    |false=>exact ZA ⟨rfl,lf,o,rfl,h1,h3,h4,fun _=>hfo⟩
    |true=>exact ZA ⟨rfl,o,2*o+1,rfl,by lia,by lia,by exact WY ‹_›,hfo⟩
  case fi =>
   rintro c st' ⟨rfl,lf,o,rfl,h1,h2,h3,h4⟩
   exact⟨rfl,lf,o,rfl,h1,h3,h4,fun z=>by lia⟩
  case po =>
   rintro c st' ⟨rfl,lf,o,rfl,h1,h3,h4,h5⟩
   dsimp only
   refine Zr (UX (JU (I:=fun x c st''=>st''=st'∧∃ lo hi,c=(none,lo,hi)∧lo≤hi∧hi≤n∧x+hi≤n+lo∧(∀ i,i<lo→f i=true)∧(∀ i,hi≤i→i<n→f i=false))
    (Q:=fun c st''=>st''=st'∧∃ lo hi,c=(none,lo,hi)∧lo=hi∧hi≤n∧(∀ i,i<lo→f i=true)∧(∀ i,hi≤i→i<n→f i=false)) ?is2 ?fi2 ?in2) ?po2)
   case is2 =>
    rintro x c st''-hx ⟨rfl,lo,hi,rfl,g1,g2,g3,g4,g5⟩
    dsimp only
    by_cases hge:lo ≥ hi
    ·rw[if_pos hge]
     exact ZA ⟨rfl,lo,hi,rfl,by exact Q0 ‹_› ‹_›,g2,g4,g5⟩
    ·rw[if_neg hge]
     refine Zr (ask (lo+(hi-lo) / 2) (by lia) ?_)
     dsimp only
     cases hm:f (lo+(hi-lo) / 2) with
     |true=>exact ZA ⟨rfl,lo+(hi-lo) / 2+1,hi,rfl,by lia,g2,by lia,fun i z=>mono i (lo+(hi-lo) / 2) (by lia) (by lia) hm,g5⟩
     |false=>exact ZA ⟨rfl,lo,lo+(hi-lo) / 2,rfl,by simp,by lia,by lia,g4,fun i z zn=>monof (lo+(hi-lo) / 2) i z zn hm⟩
   case fi2 =>
    rintro c st'' ⟨rfl,lo,hi,rfl,g1,g2,g3,g4,g5⟩
    exact⟨rfl,lo,hi,rfl,by lia,g2,g4,g5⟩
   case in2 =>
    refine⟨rfl,_,_,rfl,by omega,by omega,by lia,fun i z=>mono i (h+lf) (by lia) (by lia) h4,fun i z zn=>?_⟩
    by_cases ho:o<n-h
    ·exact monof (h+o) i (by lia) zn (h5 ho)
    ·lia
   case po2 =>
    rintro c st'' ⟨rfl,lo,hi,rfl,g1,g2,g4,g5⟩
    subst g1
    exact ZA (hQ lo g2 g4 g5)
 ·have hr':f h=false:=by simpa using hr
  rw[if_neg hr]
  refine Zr (UX (JU (I:=fun x c st'=>st'=st∧∃ lf o,c=(none,lf,o)∧lf<o∧x+1≤o∧lf<h+1∧f (h-lf)=false)
   (Q:=fun c st'=>st'=st∧∃ lf o,c=(none,lf,o)∧lf<o∧lf<h+1∧f (h-lf)=false∧(o<h+1→f (h-o)=true)) ?is ?fi ⟨rfl,0,1,rfl,by lia,by lia,by simp,hr'⟩) ?po)
  case is =>
   rintro x c st'-hx ⟨rfl,lf,o,rfl,h1,h2,h3,h4⟩
   dsimp only
   by_cases ho:o ≥ h+1
   ·rw[if_pos ho]
    exact ZA ⟨rfl,lf,o,rfl,h1,h3,h4,fun z=>by lia⟩
   ·rw[if_neg ho]
    refine Zr (ask (h-o) (by lia) ?_)
    dsimp only
    cases hfo:f (h-o) with
    |true=>exact ZA ⟨rfl,lf,o,rfl,h1,h3,h4,fun _=>hfo⟩
    |false=>exact ZA ⟨rfl,o,2*o+1,rfl,by lia,by lia,by exact WY ‹_›,hfo⟩
  case fi =>
   rintro c st' ⟨rfl,lf,o,rfl,h1,h2,h3,h4⟩
   exact⟨rfl,lf,o,rfl,h1,h3,h4,fun z=>by lia⟩
  case po =>
   rintro c st' ⟨rfl,lf,o,rfl,h1,h3,h4,h5⟩
   dsimp only
   refine Zr (UX (JU (I:=fun x c st''=>st''=st'∧∃ lo hi,c=(none,lo,hi)∧lo≤hi∧hi≤n∧x+hi≤n+lo∧(∀ i,i<lo→f i=true)∧(∀ i,hi≤i→i<n→f i=false))
    (Q:=fun c st''=>st''=st'∧∃ lo hi,c=(none,lo,hi)∧lo=hi∧hi≤n∧(∀ i,i<lo→f i=true)∧(∀ i,hi≤i→i<n→f i=false)) ?is2 ?fi2 ?in2) ?po2)
   case is2 =>
    rintro x c st''-hx ⟨rfl,lo,hi,rfl,g1,g2,g3,g4,g5⟩
    dsimp only
    by_cases hge:lo ≥ hi
    ·rw[if_pos hge]
     exact ZA ⟨rfl,lo,hi,rfl,by lia,g2,g4,g5⟩
    ·rw[if_neg hge]
     refine Zr (ask (lo+(hi-lo) / 2) (by lia) ?_)
     dsimp only
     cases hm:f (lo+(hi-lo) / 2) with
     |true=>exact ZA ⟨rfl,lo+(hi-lo) / 2+1,hi,rfl,by lia,g2,by lia,fun i z=>mono i (lo+(hi-lo) / 2) (by lia) (by lia) hm,g5⟩
     |false=>exact ZA ⟨rfl,lo,lo+(hi-lo) / 2,rfl,by lia,by lia,by lia,g4,fun i z zn=>monof (lo+(hi-lo) / 2) i z zn hm⟩
   case fi2 =>
    rintro c st'' ⟨rfl,lo,hi,rfl,g1,g2,g3,g4,g5⟩
    exact⟨rfl,lo,hi,rfl,by lia,g2,g4,g5⟩
   case in2 =>
    refine⟨rfl,_,_,rfl,by omega,by lia,by lia,fun i z=>?_,fun i z zn=>monof (h-lf) i (by omega) zn h4⟩
    by_cases ho:o<h+1
    ·exact mono i (h-o) (by omega) (by lia) (h5 ho)
    ·omega
   case po2 =>
    rintro c st'' ⟨rfl,lo,hi,rfl,g1,g2,g4,g5⟩
    subst g1
    exact ZA (hQ lo g2 g4 g5)
end
end Sg
namespace Sg
open PySem PyProof.Rows
noncomputable abbrev Z7Y (st:SortSt)(g:Nat):SortSt:=D5 (kindOf st) (arrOf st) (pendingOf st) g (failedOf st)
def Jq (st st':SortSt):Prop:=∃ g,st'=Z7Y st g
theorem Jq.refl (st:SortSt):Jq st st:=⟨gallopOf st,rfl⟩
theorem Jq.gal {st st':SortSt}(h:Jq st st')(g:Nat):Jq st (Z7Y st' g):=by
 obtain⟨g',rfl⟩:=h
 exact⟨g,rfl⟩
theorem Jq.kind {st st':SortSt}(h:Jq st st'):kindOf st'=kindOf st:=by
 obtain⟨g',rfl⟩:=h
 rfl
section pure
variable {O:KeyOrd}{key:Keyed→O.α}
theorem Ct {xs:Ak_}{i:Nat}(h:i<xs.size):xs.toList.drop i=nth xs i::xs.toList.drop (i+1):=by
 have h':i<xs.toList.length:=by simpa using h
 rw[YS h']
 congr 1
 have e:=ML h
 rw[Za h'] at e
 exact Jn e
theorem BC {xs:Ak_}(u:Up key xs.toList){i j:Nat}(hij:i≤j)(hj:j<xs.size):O.kle (key (nth xs i)) (key (nth xs j)):=by
 rcases Nat.eq_or_lt_of_le hij with rfl|hlt
 ·exact Uk _
 ·have hi':i<xs.toList.length:=by simp;exact DA ‹_› ‹_›
  have hj':j<xs.toList.length:=by simpa using hj
  have e1:=ML (xs:=xs) (i:=i) (by lia)
  have e2:=ML hj
  rw[Za hi'] at e1
  rw[Za hj'] at e2
  have h:=QL.mp u i j hi' hj' hlt
  rw[Jn e1,Jn e2] at h
  exact h
theorem GY {xs:Ak_}{i k:Nat}{x:Keyed}(h:x∈(xs.toList.drop i).take k):∃ j,j<k∧i+j<xs.size∧x=nth xs (i+j):=by
 obtain⟨j,hj,e⟩:=Uo h
 have hj':=hj
 rw[ZC,ZS,Zm] at hj'
 refine⟨j,by lia,by omega,?_⟩
 rw[← e,M3,Wb]
 have e2:=ML (xs:=xs) (i:=i+j) (by lia)
 rw[Za (by simp;lia)] at e2
 exact Jn e2
theorem ZbS {xs:Ak_}{i:Nat}{x:Keyed}(h:x∈xs.toList.drop i):∃ j,i+j<xs.size∧x=nth xs (i+j):=by
 have h':x∈(xs.toList.drop i).take (xs.toList.drop i).length:=by rw[U5];exact h
 obtain⟨j,-,h2,h3⟩:=GY h'
 exact⟨j,h2,h3⟩
theorem Z1k {xs:Ak_}{n t:Nat}{x:Keyed}(h:x∈(xs.toList.take n).drop t):∃ j,t≤j∧j<n∧j<xs.size∧x=nth xs j:=by
 obtain⟨j,hj,e⟩:=Uo h
 have hj':=hj
 rw[ZS,ZC,Zm] at hj'
 refine⟨t+j,by simp,by omega,by omega,?_⟩
 rw[← e,Wb,M3]
 have e2:=ML (xs:=xs) (i:=t+j) (by lia)
 rw[Za (by simp;lia)] at e2
 exact Jn e2
theorem Z2F {xs:Ak_}{n:Nat}{x:Keyed}(h:x∈xs.toList.take n):∃ j,j<n∧j<xs.size∧x=nth xs j:=by
 have h':x∈(xs.toList.take n).drop 0:=by rw[M9];exact h
 obtain⟨j,-,h2,h3,h4⟩:=Z1k h'
 exact⟨j,h2,h3,h4⟩
theorem Z1F {xs:Ak_}(u:Up key xs.toList){l:List Keyed}{i:Nat}(h:∀ x∈l,i<xs.size→O.kle (key x) (key (nth xs i))):Below key l (xs.toList.drop i):=by
 intro x hx y hy
 obtain⟨j,hj,rfl⟩:=ZbS hy
 exact JH (h x hx (by lia)) (BC u (by lia) hj)
theorem Bu {xs:Ak_}(u:Up key xs.toList){l:List Keyed}{n:Nat}(hn:n≤xs.size)(h:∀ x∈l,0<n→O.kle (key (nth xs (n-1))) (key x)):Below key (xs.toList.take n) l:=by
 intro x hx y hy
 obtain⟨j,hj,hj2,rfl⟩:=Z2F hx
 exact JH (BC u (by lia) (by lia)) (h y hy (by lia))
theorem WQ {l:Bool}{k:Keyed}{arr:Ak_}{b n:Nat}(h:∀ i j,i≤j→j<n→O.kle (key (nth arr (b+i))) (key (nth arr (b+j)))) :
  ∀ i j,i≤j→j<n→bey key l k arr b j=true→bey key l k arr b i=true:=by
 intro i j hij hj hb
 have hle:=h i j hij hj
 unfold bey at hb ⊢
 cases l with
 |true =>
  simp only[if_true] at hb ⊢
  exact Z1U hle hb
 |false =>
  simp only[Zj,if_false,Wd] at hb ⊢
  exact JH hle hb
theorem Mr {k:Keyed}{arr:Ak_}{b i:Nat}:(bey key false k arr b i=true↔O.kle (key (nth arr (b+i))) (key k))∧(bey key false k arr b i=false↔O.klt (key k) (key (nth arr (b+i)))):=by
 unfold bey Zi9 Zi8
 simp
theorem QE {k:Keyed}{arr:Ak_}{b i:Nat}:(bey key true k arr b i=true↔O.klt (key (nth arr (b+i))) (key k))∧(bey key true k arr b i=false↔O.kle (key k) (key (nth arr (b+i)))):=by
 unfold bey Zi9 Zi8
 simp
def LoA (key:Keyed→O.α)(a b out:Ak_)(ia ib:Nat):Prop:=Lo key a.toList b.toList out.toList ia ib
def Z1W (key:Keyed→O.α)(a b R:Ak_):Prop:=R.toList.Perm (a.toList++b.toList)∧Up key R.toList
variable {a b out:Ak_}{ia ib k:Nat}
theorem Qz {xs:Ak_}{i k:Nat}:(xs.extract i (i+k)).toList=(xs.toList.drop i).take k:=by
 rw[N5,UT,JT]
theorem FK {xs:Ak_}{i:Nat}:(xs.extract i xs.size).toList=xs.toList.drop i:=by
 rw[N5,UT,JG (by simp)]
theorem FJ {xs:Ak_}{t n:Nat}(h:n≤xs.size):(xs.extract t n).toList=(xs.toList.take n).drop t:=by
 rw[N5,UT,Bb]
theorem LoA.partA (h:LoA key a b out ia ib)(ua:Up key a.toList)(ub:Up key b.toList)(hb:∀ j,j<k→ia+j<a.size→ib<b.size→O.kle (key (nth a (ia+j))) (key (nth b ib))) :
  LoA key a b (out++a.extract ia (ia+k)) (ia+k) ib:=by
 unfold LoA
 rw[Jb,Qz]
 refine Lo.chunkA h ua (Z1F ub fun x hx hi=>?_)
 obtain⟨j,hj,hj2,rfl⟩:=GY hx
 exact hb j hj hj2 hi
theorem LoA.partB (h:LoA key a b out ia ib)(ua:Up key a.toList)(ub:Up key b.toList)(hb:∀ j,j<k→ib+j<b.size→ia<a.size→O.kle (key (nth b (ib+j))) (key (nth a ia))) :
  LoA key a b (out++b.extract ib (ib+k)) ia (ib+k):=by
 unfold LoA
 rw[Jb,Qz]
 refine Lo.chunkB h ub (Z1F ua fun x hx hi=>?_)
 obtain⟨j,hj,hj2,rfl⟩:=GY hx
 exact hb j hj hj2 hi
theorem LoA.pushA (h:LoA key a b out ia ib)(ua:Up key a.toList)(ub:Up key b.toList)(hi:ia<a.size)(hb:ib<b.size→O.kle (key (nth a ia)) (key (nth b ib))) :
  LoA key a b (out.push (nth a ia)) (ia+1) ib:=by
 have h':=LoA.partA (k:=1) h ua ub fun j hj _ hh=>by
  obtain rfl:j=0:=by lia
  exact hb hh
 unfold LoA at h' ⊢
 rw[Jb,Qz,Ct hi,Bw,Ni] at h'
 rw[YO]
 exact h'
theorem LoA.pushB (h:LoA key a b out ia ib)(ua:Up key a.toList)(ub:Up key b.toList)(hi:ib<b.size)(hb:ia<a.size→O.kle (key (nth b ib)) (key (nth a ia))) :
  LoA key a b (out.push (nth b ib)) ia (ib+1):=by
 have h':=LoA.partB (k:=1) h ua ub fun j hj _ hh=>by
  obtain rfl:j=0:=by lia
  exact hb hh
 unfold LoA at h' ⊢
 rw[Jb,Qz,Ct hi,Bw,Ni] at h'
 rw[YO]
 exact h'
theorem LoA.done (h:LoA key a b out ia ib)(ua:Up key a.toList)(ub:Up key b.toList)(hx:a.size≤ia∨b.size≤ib):Z1W key a b (out++a.extract ia a.size++b.extract ib b.size):=by
 unfold Z1W
 rw[Jb,Jb,FK,FK]
 refine Lo.finA h ua ub ?_
 rcases hx with hx|hx
 ·rw[Je (by simpa using hx)];exact DM
 ·rw[Je (l:=b.toList) (by simpa using hx)];exact DX
theorem LoA.last (h:LoA key a b out ia ib)(ua:Up key a.toList)(ub:Up key b.toList)(hl:∀ y∈b.toList,O.kle (key y) (key (nth a (a.size-1))))(hi:ia+1=a.size) :
  Z1W key a b (out++b.extract ib b.size++a.extract ia a.size):=by
 unfold Z1W
 rw[Jb,Jb,FK,FK]
 refine Lo.finB h ua ub (Z1F ua fun x hx _=>?_)
 have e:ia=a.size-1:=by lia
 rw[e]
 exact hl x (JZ hx)
end pure
section
variable {prog:Program}{w:World}{A:Around}{E:Ps_}{s:Shared}{O:KeyOrd}{key:Keyed→O.α}{G:Keyed→Prop}{kd:Nn}{st:SortSt}
theorem Wz {g:Nat}{Q:Unit→SortSt→Prop}(h:Q () (Z7Y st g)):wpS (model prog w) A E s (Z15 g) Q st:=Nk h
@[elab_as_elim] theorem ex2 {α β σ:Type} {F:α→β→σ} {B:α→β→Prop} {c:σ} {T:σ→Prop} (h:∃ a b,c=F a b∧B a b) (k:∀ a b,B a b→T (F a b)):T c:=by obtain⟨_,_,rfl,h⟩:=h;exact k _ _ h
@[elab_as_elim] theorem ex4 {α β γ δ σ:Type} {F:α→β→γ→δ→σ} {B:α→β→γ→δ→Prop} {c:σ} {T:σ→Prop} (h:∃ a b d e,c=F a b d e∧B a b d e) (k:∀ a b d e,B a b d e→T (F a b d e)):T c:=by obtain⟨_,_,_,_,rfl,h⟩:=h;exact k _ _ _ _ h
@[elab_as_elim] theorem ex5 {α β γ δ ε σ:Type} {F:α→β→γ→δ→ε→σ} {B:α→β→γ→δ→ε→Prop} {c:σ} {T:σ→Prop} (h:∃ a b d e f,c=F a b d e f∧B a b d e f) (k:∀ a b d e f,B a b d e f→T (F a b d e f)):T c:=by obtain⟨_,_,_,_,_,rfl,h⟩:=h;exact k _ _ _ _ _ h
@[elab_as_elim] theorem ex6 {α β γ δ ε ζ σ:Type} {F:α→β→γ→δ→ε→ζ→σ} {B:α→β→γ→δ→ε→ζ→Prop} {c:σ} {T:σ→Prop} (h:∃ a b d e f g,c=F a b d e f g∧B a b d e f g) (k:∀ a b d e f g,B a b d e f g→T (F a b d e f g)):T c:=by obtain⟨_,_,_,_,_,_,rfl,h⟩:=h;exact k _ _ _ _ _ _ h
theorem Z7A {β:Type}{c:Prop}[Decidable c]{p q:StateT SortSt Sem β}{F:Nat→StateT SortSt Sem β}{x y:Nat}{M:Model}{Q:β→SortSt→Prop}{st:SortSt}(hq:q=F y)(hp:p=F x)(h:∀ z,wpS M A E s (F z) Q st):wpS M A E s (if c then p else q) Q st:=by
 split
 ·rw[hp];exact h x
 ·rw[hq];exact h y
theorem Z0V {β α γ:Type}{c:Prop}[Decidable c]{p q:StateT SortSt Sem β}{F:α→γ→StateT SortSt Sem β}{x:α}{y:γ}{M:Model}{Q:β→SortSt→Prop}{st:SortSt}(hq:q=F x y)(P:α→γ→Prop)(tl:∀ u v,P u v→wpS M A E s (F u v) Q st)
  (h1:c→(∀ u v,P u v→wpS M A E s (F u v) Q st)→wpS M A E s p Q st) (h2:¬ c→P x y):wpS M A E s (if c then p else q) Q st:=by
 by_cases h:c
 ·rw[if_pos h];exact h1 h tl
 ·rw[if_neg h,hq];exact tl _ _ (h2 h)
theorem Z3V {a b:Ak_}{Q:Array Keyed→SortSt→Prop}(hc:Z7y prog w s O key G kd)(hk:kindOf st=kd)
  (ga:∀ x∈a.toList,G x) (gb:∀ x∈b.toList,G x) (ua:Up key a.toList) (ub:Up key b.toList) (ha:1≤a.size) (hb:1≤b.size)
  (hf:O.kle (key (nth b 0)) (key (nth a 0))) (hl:∀ y∈b.toList,O.kle (key y) (key (nth a (a.size-1))))
  (h:∀ R st',Z1W key a b R→Jq st st'→Q R st'):wpS (model prog w) A E s (ZbQ a b) Q st:=by
 refine Zr (Z07 (Gk ⟨rfl,?_⟩))
 dsimp only
 refine Zr (Y1 ‹_› ?_)
 have L0:LoA key a b #[nth b 0] 0 1:=by
  have l:LoA key a b #[] 0 0:=by
   refine⟨?_,Uw,DM,DM⟩
   simp
  exact LoA.pushB l ua ub (by lia) fun _=>hf
 by_cases h1:(1 == b.size)=true
 ·rw[if_pos h1]
  exact ZA (h _ _ (L0.done ua ub (.inr (by simp at h1;lia))) (Jq.refl _))
 rw[if_neg h1]
 by_cases h2:(0+1 == a.size)=true
 ·rw[if_pos h2]
  exact ZA (h _ _ (L0.last ua ub hl (by simp at h2;omega)) (Jq.refl _))
 rw[if_neg h2]
 simp only[beq_iff_eq] at h1 h2
 refine Zr (QQ ?_)
 refine Zr (UX (JU
  (I:=fun x c st'=>Jq st st'∧∃ out ia ib g,c=(none,out,ia,ib,g)∧LoA key a b out ia ib∧ia+1<a.size∧ib<b.size∧x≤ia+ib)
  (Q:=fun c st'=>Jq st st'∧∃ R rest,c=(some R,rest)∧Z1W key a b R) ?is ?fi ⟨Jq.refl _,_,_,_,_,rfl,L0,by lia,by lia,by exact UU _⟩) ?po)
 case fi =>
  rintro c st' ⟨-,out,ia,ib,g,rfl,-,l1,l2,l3⟩
  exfalso
  lia
 case po =>
  rintro c st' ⟨sm,R,rest,rfl,hR⟩
  exact ZA (h R st' hR sm)
 case is =>
  intro x c st' _ hx hI
  have sm:=hI.1
  refine ex4 (c:=c) hI.2 fun out ia ib g hB=>?_
  have L:=hB.1
  have l1:=hB.2.1
  have l2:=hB.2.2.1
  have l3:=hB.2.2.2
  clear hB hI
  dsimp only
  refine Zr (UX (JU
   (I:=fun y c st''=>st''=st'∧∃ out ia ib ac bc,c=(none,out,ia,ib,ac,bc)∧LoA key a b out ia ib∧ia+1<a.size∧ib<b.size∧x+y≤ia+ib)
   (Q:=fun c st''=>st''=st'∧((∃ R rest,c=(some R,rest)∧Z1W key a b R) ∨
    ∃ out ia ib ac bc,c=(none,out,ia,ib,ac,bc)∧LoA key a b out ia ib∧ia+1<a.size∧ib<b.size∧x+1≤ia+ib)) ?is1 ?fi1 ⟨rfl,_,_,_,_,_,rfl,L,l1,l2,by omega⟩) ?po1)
  case fi1 =>
   rintro c st'' ⟨-,out,ia,ib,ac,bc,rfl,-,m1,m2,m3⟩
   exfalso
   lia
  case is1 =>
   intro y c st'' _ hy hI
   have e:=hI.1
   subst e
   refine ex5 (c:=c) hI.2 fun out ia ib ac bc hB=>?_
   have L:=hB.1
   have m1:=hB.2.1
   have m2:=hB.2.2.1
   have m3:=hB.2.2.2
   clear hB hI
   dsimp only
   refine Zr (Y1 m2 (Zr (Y1 (by exact Gg ‹_›) (Zr (FU hc (sm.kind.trans hk) (gb _ (N8 m2)) (ga _ (N8 (by lia))) ?_)))))
   dsimp only
   cases hw:O.blt (key (nth b ib)) (key (nth a ia)) with
   |true =>
    simp only[if_true]
    refine Zr (Y1 m2 ?_)
    have L2:=L.pushB ua ub m2 fun _=>JJ hw
    by_cases e1:(ib+1 == b.size)=true
    ·rw[if_pos e1]
     simp only[beq_iff_eq] at e1
     exact ZA ⟨rfl,.inl ⟨_,_,rfl,L2.done ua ub (.inr (by lia))⟩⟩
    ·rw[if_neg e1]
     simp only[beq_iff_eq] at e1
     split
     ·exact ZA ⟨rfl,.inr ⟨_,_,_,_,_,rfl,L2,m1,by lia,by lia⟩⟩
     ·exact ZA ⟨rfl,_,_,_,_,_,rfl,L2,m1,by lia,by lia⟩
   |false =>
    simp only[Zj,if_false]
    refine Zr (Y1 (by lia) ?_)
    have L2:=L.pushA ua ub (by lia) fun _=>hw
    by_cases e1:(ia+1+1 == a.size)=true
    ·rw[if_pos e1]
     simp only[beq_iff_eq] at e1
     exact ZA ⟨rfl,.inl ⟨_,_,rfl,L2.last ua ub hl (by omega)⟩⟩
    ·rw[if_neg e1]
     simp only[beq_iff_eq] at e1
     split
     ·exact ZA ⟨rfl,.inr ⟨_,_,_,_,_,rfl,L2,by lia,m2,by lia⟩⟩
     ·exact ZA ⟨rfl,_,_,_,_,_,rfl,L2,by lia,m2,by lia⟩
  case po1 =>
   intro c st'' hQ
   have e:=hQ.1
   subst e
   refine hQ.2.elim (fun hR=>ex2 (c:=c) hR fun R rest hR=>?_) fun hI=>ex5 (c:=c) hI fun out ia ib ac bc hB=>?_
   ·dsimp only
    exact ZA ⟨sm,R,_,rfl,hR⟩
   ·have L:=hB.1
    have m1:=hB.2.1
    have m2:=hB.2.2.1
    have m3:=hB.2.2.2
    clear hB hI hQ
    dsimp only
    refine Zr (Z07 (Gk ⟨rfl,?_⟩))
    refine Zr (UX (JU
     (I:=fun y c st3=>Jq st st3∧∃ out ia ib g ac bc,c=(none,out,ia,ib,g,ac,bc)∧LoA key a b out ia ib∧ia+1<a.size∧ib<b.size∧x+1+y≤ia+ib)
     (Q:=fun c st3=>Jq st st3∧((∃ R rest,c=(some R,rest)∧Z1W key a b R) ∨
      ∃ out ia ib g ac bc,c=(none,out,ia,ib,g,ac,bc)∧LoA key a b out ia ib∧ia+1<a.size∧ib<b.size∧x+1≤ia+ib)) ?is2 ?fi2 ⟨sm,_,_,_,_,_,_,rfl,L,m1,m2,by omega⟩) ?po2)
    case fi2 =>
     rintro c st3 ⟨-,out,ia,ib,g,ac,bc,rfl,-,m1,m2,m3⟩
     exfalso
     lia
    case po2 =>
     intro c st3 hQ
     have sm:=hQ.1
     refine hQ.2.elim (fun hR=>ex2 (c:=c) hR fun R rest hR=>?_) fun hI=>ex6 (c:=c) hI fun out ia ib g ac bc hB=>?_
     ·dsimp only
      exact ZA ⟨sm,R,_,rfl,hR⟩
     ·have L:=hB.1
      have m1:=hB.2.1
      have m2:=hB.2.2.1
      have m3:=hB.2.2.2
      clear hB hI hQ
      dsimp only
      exact Zr (Wz (ZA ⟨sm.gal _,_,_,_,_,rfl,L,m1,m2,by omega⟩))
    case is2 =>
     intro y c st3 _ hy hI
     have sm:=hI.1
     refine ex6 (c:=c) hI.2 fun out ia ib g ac bc hB=>?_
     have L:=hB.1
     have m1:=hB.2.1
     have m2:=hB.2.2.1
     have m3:=hB.2.2.2
     clear hB hI
     dsimp only
     refine Z7A (x:=g-1) (y:=g) (by rfl) (by rfl) fun g=>?_
     refine Zr (Wz ?_)
     refine Zr (Y1 m2 (Zr (Me hc ((Jq.kind (sm.gal _)).trans hk) (fun i hi=>ga _ (N8 (by omega))) (gb _ (N8 m2)) (by omega) (by omega)
      (WQ fun i j hij hj=>BC ua (by lia) (by lia)) fun k k1 k2 k3=>?_)))
     dsimp only
     have L1:=L.partA (k:=k) ua ub fun j hj _ _=>Mr.1.mp (k2 j hj)
     have hnx:ia+k<a.size→O.kle (key (nth b ib)) (key (nth a (ia+k))):=fun hh=>JJ (Mr.2.mp (k3 k (Zc _) (by lia)))
     refine Z0V (x:=out) (y:=ia) (by rfl) (fun out1 ia1=>LoA key a b out1 ia1 ib∧ia1+1<a.size∧x+1+y≤ia1+ib∧(ia1<a.size→O.kle (key (nth b ib)) (key (nth a ia1)))) ?t1 (fun hk0 tl=>?p1) fun hk0=>?n1
     case n1 =>
      have hk':k=0:=by lia
      subst hk'
      exact⟨L,m1,m3,hnx⟩
     case p1 =>
      by_cases e1:(ia+k+1 == a.size)=true
      ·rw[if_pos e1]
       simp only[beq_iff_eq] at e1
       exact ZA ⟨sm.gal _,.inl ⟨_,_,rfl,L1.last ua ub hl (by omega)⟩⟩
      rw[if_neg e1]
      by_cases e2:(ia+k == a.size)=true
      ·rw[if_pos e2]
       simp only[beq_iff_eq] at e2
       exact ZA ⟨sm.gal _,.inl ⟨_,_,rfl,L1.done ua ub (.inl (by lia))⟩⟩
      rw[if_neg e2]
      simp only[beq_iff_eq] at e1 e2
      exact tl _ _ ⟨L1,by lia,by lia,hnx⟩
     case t1 =>
      clear hnx L1 k1 k2 k3 L m3 m1
      rintro out1 ia1 ⟨L1,n1,n2,hnx⟩
      refine Zr (Y1 m2 ?_)
      have L2:=L1.pushB ua ub m2 hnx
      by_cases e3:(ib+1 == b.size)=true
      ·rw[if_pos e3]
       simp only[beq_iff_eq] at e3
       exact ZA ⟨sm.gal _,.inl ⟨_,_,rfl,L2.done ua ub (.inr (by lia))⟩⟩
      rw[if_neg e3]
      simp only[beq_iff_eq] at e3
      have n3:ib+1<b.size:=by lia
      have n5:x+1+y+1≤ia1+(ib+1):=by lia
      clear hnx L1 n2 e3
      generalize out1.push (nth b ib)=out2 at L2 ⊢
      generalize ib+1=ib2 at L2 n3 n5 ⊢
      refine Zr (Y1 (by lia) (Zr (Me hc ((Jq.kind (sm.gal _)).trans hk) (fun i hi=>gb _ (N8 (by omega))) (ga _ (N8 (by lia))) (by omega) (by omega)
       (WQ fun i j hij hj=>BC ub (by lia) (by lia)) fun q q1 q2 q3=>?_)))
      dsimp only
      have L3:=L2.partB (k:=q) ua ub fun j hj _ _=>JJ (QE.1.mp (q2 j hj))
      have hny:ib2+q<b.size→O.kle (key (nth a ia1)) (key (nth b (ib2+q))):=fun hh=>QE.2.mp (q3 q (Zc _) (by lia))
      refine Z0V (x:=out2) (y:=ib2) (by rfl) (fun out3 ib3=>LoA key a b out3 ia1 ib3∧ib3<b.size∧x+1+y+1≤ia1+ib3∧(ib3<b.size→O.kle (key (nth a ia1)) (key (nth b ib3)))) ?t2 (fun hq0 tl=>?p2) fun hq0=>?n2
      case n2 =>
       have hq:q=0:=by lia
       subst hq
       exact⟨L2,n3,n5,hny⟩
      case p2 =>
       by_cases e4:(ib2+q == b.size)=true
       ·rw[if_pos e4]
        simp only[beq_iff_eq] at e4
        exact ZA ⟨sm.gal _,.inl ⟨_,_,rfl,L3.done ua ub (.inr (by lia))⟩⟩
       rw[if_neg e4]
       simp only[beq_iff_eq] at e4
       exact tl _ _ ⟨L3,by lia,by lia,hny⟩
      case t2 =>
       clear hny L3 q1 q2 q3 L2 n3 n5
       rintro out3 ib3 ⟨L3,n4,n5,hny⟩
       refine Zr (Y1 (by lia) ?_)
       have L4:=L3.pushA ua ub (by lia) hny
       by_cases e5:(ia1+1+1 == a.size)=true
       ·rw[if_pos e5]
        simp only[beq_iff_eq] at e5
        exact ZA ⟨sm.gal _,.inl ⟨_,_,rfl,L4.last ua ub hl (by lia)⟩⟩
       rw[if_neg e5]
       simp only[beq_iff_eq] at e5
       split
       ·exact ZA ⟨sm.gal _,.inr ⟨_,_,_,_,_,_,rfl,L4,by lia,by omega,by lia⟩⟩
       ·exact ZA ⟨sm.gal _,_,_,_,_,_,_,rfl,L4,by lia,by lia,by lia⟩
end
end Sg
namespace Sg
open PySem PyProof.Rows
section pure
variable {O:KeyOrd}{key:Keyed→O.α}{a b out:Ak_}{na nb t:Nat}
def HiA (key:Keyed→O.α)(a b out:Ak_)(na nb:Nat):Prop:=Hi key a.toList b.toList out.toList na nb
theorem Z5e {xs:Ak_}{n:Nat}(h0:0<n)(hn:n≤xs.size):(xs.toList.take n).drop (n-1)=[nth xs (n-1)]:=by
 rw[Bb,Ct (by omega),show n-(n-1)=1 by lia,Bw,Ni]
theorem HiA.partA (h:HiA key a b out na nb)(ua:Up key a.toList)(ub:Up key b.toList)(ht:t≤na)(hn:na≤a.size)(hm:nb≤b.size)(hb:∀ j,t≤j→j<na→0<nb→O.kle (key (nth b (nb-1))) (key (nth a j))) :
  HiA key a b (out++(a.extract t na).reverse) t nb:=by
 unfold HiA
 rw[Jb,UW,FJ hn]
 refine Hi.chunkA h ua ht (Bu ub hm fun x hx hi=>?_)
 obtain⟨j,h1,h2,h3,rfl⟩:=Z1k hx
 exact hb j h1 h2 hi
theorem HiA.partB (h:HiA key a b out na nb)(ua:Up key a.toList)(ub:Up key b.toList)(ht:t≤nb)(hn:nb≤b.size)(hm:na≤a.size)(hb:∀ j,t≤j→j<nb→0<na→O.kle (key (nth a (na-1))) (key (nth b j))) :
  HiA key a b (out++(b.extract t nb).reverse) na t:=by
 unfold HiA
 rw[Jb,UW,FJ hn]
 refine Hi.chunkB h ub ht (Bu ua hm fun x hx hi=>?_)
 obtain⟨j,h1,h2,h3,rfl⟩:=Z1k hx
 exact hb j h1 h2 hi
theorem HiA.pushA (h:HiA key a b out na nb)(ua:Up key a.toList)(ub:Up key b.toList)(hi:0<na∧na≤a.size)(hm:nb≤b.size)(hb:0<nb→O.kle (key (nth b (nb-1))) (key (nth a (na-1)))) :
  HiA key a b (out.push (nth a (na-1))) (na-1) nb:=by
 have h':=HiA.partA (t:=na-1) h ua ub (by exact CU _ _) hi.2 hm fun j h1 h2 h3=>by
  obtain rfl:j=na-1:=by lia
  exact hb h3
 unfold HiA at h' ⊢
 rw[Jb,UW,FJ hi.2,Z5e hi.1 hi.2,Z6j] at h'
 rw[YO]
 exact h'
theorem HiA.pushB (h:HiA key a b out na nb)(ua:Up key a.toList)(ub:Up key b.toList)(hi:0<nb∧nb≤b.size)(hm:na≤a.size)(hb:0<na→O.kle (key (nth a (na-1))) (key (nth b (nb-1)))) :
  HiA key a b (out.push (nth b (nb-1))) na (nb-1):=by
 have h':=HiA.partB (t:=nb-1) h ua ub (by lia) hi.2 hm fun j h1 h2 h3=>by
  obtain rfl:j=nb-1:=by lia
  exact hb h3
 unfold HiA at h' ⊢
 rw[Jb,UW,FJ hi.2,Z5e hi.1 hi.2,Z6j] at h'
 rw[YO]
 exact h'
theorem DU {xs:Ak_}{n:Nat}:(xs.extract 0 n).toList=xs.toList.take n:=by
 rw[N5,UT,M9,Z01]
theorem HiA.done (h:HiA key a b out na nb)(ua:Up key a.toList)(ub:Up key b.toList)(hx:na=0∨nb=0):Z1W key a b (a.extract 0 na++b.extract 0 nb++out.reverse):=by
 unfold Z1W
 rw[Jb,Jb,DU,DU,UW]
 refine Hi.finA h ua ub ?_
 rcases hx with rfl|rfl
 ·exact DM
 ·exact DX
theorem HiA.first (h:HiA key a b out na nb)(ua:Up key a.toList)(ub:Up key b.toList)(hf:O.kle (key (nth b 0)) (key (nth a 0)))(hi:nb=1)(hb:nb≤b.size) :
  Z1W key a b (b.extract 0 nb++a.extract 0 na++out.reverse):=by
 unfold Z1W
 rw[Jb,Jb,DU,DU,UW]
 refine Hi.finB h ua ub (Bu ub hb fun x hx _=>?_)
 obtain⟨j,h1,h2,rfl⟩:=Z2F hx
 subst hi
 exact JH hf (BC ua (Jv _) h2)
end pure
section
variable {prog:Program}{w:World}{A:Around}{E:Ps_}{s:Shared}{O:KeyOrd}{key:Keyed→O.α}{G:Keyed→Prop}{kd:Nn}{st:SortSt}
theorem Z3W {a b:Ak_}{Q:Array Keyed→SortSt→Prop}(hc:Z7y prog w s O key G kd)(hk:kindOf st=kd)
  (ga:∀ x∈a.toList,G x) (gb:∀ x∈b.toList,G x) (ua:Up key a.toList) (ub:Up key b.toList) (ha:1≤a.size) (hb:1≤b.size)
  (hf:O.kle (key (nth b 0)) (key (nth a 0))) (hl:∀ y∈b.toList,O.kle (key y) (key (nth a (a.size-1))))
  (h:∀ R st',Z1W key a b R→Jq st st'→Q R st'):wpS (model prog w) A E s (ZbR a b) Q st:=by
 refine Zr (Z07 (Gk ⟨rfl,?_⟩))
 dsimp only
 refine Zr (Y1 (by exact Zdw ‹_› (by decide)) ?_)
 have L0:HiA key a b #[nth a (a.size-1)] (a.size-1) b.size:=by
  have l:HiA key a b #[] a.size b.size:=by
   refine⟨?_,Uw,DX,DX⟩
   simp
  exact HiA.pushA l ua ub (by lia) (by exact Zc _) fun _=>hl _ (N8 (by lia))
 by_cases h1:(a.size-1 == 0)=true
 ·rw[if_pos h1]
  exact ZA (h _ _ (L0.done ua ub (.inl (by simp at h1;omega))) (Jq.refl _))
 rw[if_neg h1]
 by_cases h2:(b.size == 1)=true
 ·rw[if_pos h2]
  exact ZA (h _ _ (L0.first ua ub hf (by simp at h2;omega) (by lia)) (Jq.refl _))
 rw[if_neg h2]
 simp only[beq_iff_eq] at h1 h2
 refine Zr (QQ ?_)
 refine Zr (UX (JU
  (I:=fun x c st'=>Jq st st'∧∃ na nb out g,c=(none,na,nb,out,g)∧HiA key a b out na nb∧0<na∧na≤a.size∧1<nb∧nb≤b.size∧x+na+nb≤a.size+b.size)
  (Q:=fun c st'=>Jq st st'∧∃ R rest,c=(some R,rest)∧Z1W key a b R) ?is ?fi ⟨Jq.refl _,_,_,_,_,rfl,L0,by exact NP ‹_›,by exact CU _ _,by lia,by lia,by simp⟩) ?po)
 case fi =>
  rintro c st' ⟨-,na,nb,out,g,rfl,-,l1,l2,l3,l4,l5⟩
  exfalso
  lia
 case po =>
  rintro c st' ⟨sm,R,rest,rfl,hR⟩
  exact ZA (h R st' hR sm)
 case is =>
  intro x c st' _ hx hI
  have sm:=hI.1
  refine ex4 (c:=c) hI.2 fun na nb out g hB=>?_
  have L:=hB.1
  have l1:=hB.2.1
  have l2:=hB.2.2.1
  have l3:=hB.2.2.2.1
  have l4:=hB.2.2.2.2.1
  have l5:=hB.2.2.2.2.2
  clear hB hI
  dsimp only
  refine Zr (UX (JU
   (I:=fun y c st''=>st''=st'∧∃ na nb out ac bc,c=(none,na,nb,out,ac,bc)∧HiA key a b out na nb∧0<na∧na≤a.size∧1<nb∧nb≤b.size∧x+y+na+nb≤a.size+b.size)
   (Q:=fun c st''=>st''=st'∧((∃ R rest,c=(some R,rest)∧Z1W key a b R) ∨
    ∃ na nb out ac bc,c=(none,na,nb,out,ac,bc)∧HiA key a b out na nb∧0<na∧na≤a.size∧1<nb∧nb≤b.size∧x+1+na+nb≤a.size+b.size)) ?is1 ?fi1 ⟨rfl,_,_,_,_,_,rfl,L,l1,l2,l3,l4,by omega⟩) ?po1)
  case fi1 =>
   rintro c st'' ⟨-,na,nb,out,ac,bc,rfl,-,m1,m2,m3,m4,m5⟩
   exfalso
   lia
  case is1 =>
   intro y c st'' _ hy hI
   have e:=hI.1
   subst e
   refine ex5 (c:=c) hI.2 fun na nb out ac bc hB=>?_
   have L:=hB.1
   have m1:=hB.2.1
   have m2:=hB.2.2.1
   have m3:=hB.2.2.2.1
   have m4:=hB.2.2.2.2.1
   have m5:=hB.2.2.2.2.2
   clear hB hI
   dsimp only
   refine Zr (Y1 (by omega) (Zr (Y1 (by omega) (Zr (FU hc (sm.kind.trans hk) (gb _ (N8 (by lia))) (ga _ (N8 (by lia))) ?_)))))
   dsimp only
   cases hw:O.blt (key (nth b (nb-1))) (key (nth a (na-1))) with
   |true =>
    simp only[if_true]
    refine Zr (Y1 (by lia) ?_)
    have L2:=L.pushA ua ub (by lia) m4 fun _=>JJ hw
    by_cases e1:(na-1 == 0)=true
    ·rw[if_pos e1]
     simp only[beq_iff_eq] at e1
     exact ZA ⟨rfl,.inl ⟨_,_,rfl,L2.done ua ub (.inl (by omega))⟩⟩
    ·rw[if_neg e1]
     simp only[beq_iff_eq] at e1
     split
     ·exact ZA ⟨rfl,.inr ⟨_,_,_,_,_,rfl,L2,by exact NP ‹_›,by omega,by omega,by omega,by lia⟩⟩
     ·exact ZA ⟨rfl,_,_,_,_,_,rfl,L2,by lia,by lia,by lia,by lia,by lia⟩
   |false =>
    simp only[Zj,if_false]
    refine Zr (Y1 (by lia) ?_)
    have L2:=L.pushB ua ub (by lia) m2 fun _=>hw
    by_cases e1:(nb-1 == 1)=true
    ·rw[if_pos e1]
     simp only[beq_iff_eq] at e1
     exact ZA ⟨rfl,.inl ⟨_,_,rfl,L2.first ua ub hf (by omega) (by lia)⟩⟩
    ·rw[if_neg e1]
     simp only[beq_iff_eq] at e1
     split
     ·exact ZA ⟨rfl,.inr ⟨_,_,_,_,_,rfl,L2,by omega,by lia,by lia,by omega,by lia⟩⟩
     ·exact ZA ⟨rfl,_,_,_,_,_,rfl,L2,by lia,by lia,by lia,by lia,by lia⟩
  case po1 =>
   intro c st'' hQ
   have e:=hQ.1
   subst e
   refine hQ.2.elim (fun hR=>ex2 (c:=c) hR fun R rest hR=>?_) fun hI=>ex5 (c:=c) hI fun na nb out ac bc hB=>?_
   ·dsimp only
    exact ZA ⟨sm,R,_,rfl,hR⟩
   ·have L:=hB.1
    have m1:=hB.2.1
    have m2:=hB.2.2.1
    have m3:=hB.2.2.2.1
    have m4:=hB.2.2.2.2.1
    have m5:=hB.2.2.2.2.2
    clear hB hI hQ
    dsimp only
    refine Zr (Z07 (Gk ⟨rfl,?_⟩))
    refine Zr (UX (JU
     (I:=fun y c st3=>Jq st st3∧∃ na nb out g ac bc,c=(none,na,nb,out,g,ac,bc)∧HiA key a b out na nb∧0<na∧na≤a.size∧1<nb∧nb≤b.size∧x+1+y+na+nb≤a.size+b.size)
     (Q:=fun c st3=>Jq st st3∧((∃ R rest,c=(some R,rest)∧Z1W key a b R) ∨
      ∃ na nb out g ac bc,c=(none,na,nb,out,g,ac,bc)∧HiA key a b out na nb∧0<na∧na≤a.size∧1<nb∧nb≤b.size∧x+1+na+nb≤a.size+b.size)) ?is2 ?fi2 ⟨sm,_,_,_,_,_,_,rfl,L,m1,m2,m3,m4,by omega⟩) ?po2)
    case fi2 =>
     rintro c st3 ⟨-,na,nb,out,g,ac,bc,rfl,-,m1,m2,m3,m4,m5⟩
     exfalso
     lia
    case po2 =>
     intro c st3 hQ
     have sm:=hQ.1
     refine hQ.2.elim (fun hR=>ex2 (c:=c) hR fun R rest hR=>?_) fun hI=>ex6 (c:=c) hI fun na nb out g ac bc hB=>?_
     ·dsimp only
      exact ZA ⟨sm,R,_,rfl,hR⟩
     ·have L:=hB.1
      have m1:=hB.2.1
      have m2:=hB.2.2.1
      have m3:=hB.2.2.2.1
      have m4:=hB.2.2.2.2.1
      have m5:=hB.2.2.2.2.2
      clear hB hI hQ
      dsimp only
      exact Zr (Wz (ZA ⟨sm.gal _,_,_,_,_,rfl,L,m1,m2,m3,m4,by omega⟩))
    case is2 =>
     intro y c st3 _ hy hI
     have sm:=hI.1
     refine ex6 (c:=c) hI.2 fun na nb out g ac bc hB=>?_
     have L:=hB.1
     have m1:=hB.2.1
     have m2:=hB.2.2.1
     have m3:=hB.2.2.2.1
     have m4:=hB.2.2.2.2.1
     have m5:=hB.2.2.2.2.2
     clear hB hI
     dsimp only
     refine Z7A (x:=g-1) (y:=g) (by rfl) (by rfl) fun g=>?_
     refine Zr (Wz ?_)
     refine Zr (Y1 (by omega) (Zr (Me hc ((Jq.kind (sm.gal _)).trans hk) (fun i hi=>ga _ (N8 (by lia))) (gb _ (N8 (by lia))) (by lia) (by exact Zdw ‹_› (by decide))
      (WQ fun i j hij hj=>BC ua (by lia) (by lia)) fun k k1 k2 k3=>?_)))
     dsimp only
     have L1:=L.partA (t:=k) ua ub (by omega) (by lia) (by lia) fun j hj hj2 _=>by
      have z:=JJ (Mr.2.mp (k3 j hj hj2))
      rwa [Jm] at z
     have hnx:0<k→O.kle (key (nth a (k-1))) (key (nth b (nb-1))):=fun hh=>by
      have z:=Mr.1.mp (k2 (k-1) (by lia))
      rwa [Jm] at z
     generalize hac:na-k=ac2
     refine Z0V (x:=out) (y:=na) (by rfl) (fun out1 na1=>HiA key a b out1 na1 nb∧0<na1∧na1≤a.size∧x+1+y+na1+nb≤a.size+b.size∧(0<na1→O.kle (key (nth a (na1-1))) (key (nth b (nb-1))))) ?t1 (fun hk0 tl=>?p1) fun hk0=>?n1
     case n1 =>
      have hk':k=na:=by lia
      subst hk'
      exact⟨L,m1,m2,m5,hnx⟩
     case p1 =>
      by_cases e1:(k == 0)=true
      ·rw[if_pos e1]
       simp only[beq_iff_eq] at e1
       exact ZA ⟨sm.gal _,.inl ⟨_,_,rfl,L1.done ua ub (.inl (by omega))⟩⟩
      rw[if_neg e1]
      simp only[beq_iff_eq] at e1
      exact tl _ _ ⟨L1,by exact NP ‹_›,by exact Zz ‹_› ‹_›,by lia,hnx⟩
     case t1 =>
      clear hnx L1 hac k1 k2 k3 L m5 m1 m2
      rintro out1 na1 ⟨L1,n1,n2,n3,hnx⟩
      refine Zr (Y1 (by lia) ?_)
      have L2:=L1.pushB ua ub (by omega) (by lia) hnx
      by_cases e3:(nb-1 == 1)=true
      ·rw[if_pos e3]
       simp only[beq_iff_eq] at e3
       exact ZA ⟨sm.gal _,.inl ⟨_,_,rfl,L2.first ua ub hf (by lia) (by lia)⟩⟩
      rw[if_neg e3]
      simp only[beq_iff_eq] at e3
      have n4:1<nb-1:=by omega
      have n5:nb-1≤b.size:=by omega
      have n6:x+1+y+na1+(nb-1)+1≤a.size+b.size:=by omega
      clear hnx L1 n3 e3
      generalize out1.push (nth b (nb-1))=out2 at L2 ⊢
      generalize nb-1=nb2 at L2 n4 n5 n6 ⊢
      clear m3 m4
      refine Zr (Y1 (by omega) (Zr (Me hc ((Jq.kind (sm.gal _)).trans hk) (fun i hi=>gb _ (N8 (by lia))) (ga _ (N8 (by lia))) (by lia) (by omega)
       (WQ fun i j hij hj=>BC ub (by lia) (by lia)) fun q q1 q2 q3=>?_)))
      dsimp only
      have L3:=L2.partB (t:=q) ua ub (by lia) (by lia) (by lia) fun j hj hj2 _=>by
       have z:=QE.2.mp (q3 j hj hj2)
       rwa [Jm] at z
      have hny:0<q→O.kle (key (nth b (q-1))) (key (nth a (na1-1))):=fun hh=>by
       have z:=JJ (QE.1.mp (q2 (q-1) (by lia)))
       rwa [Jm] at z
      generalize hbc:nb2-q=bc2
      refine Z0V (x:=out2) (y:=nb2) (by rfl) (fun out3 nb3=>HiA key a b out3 na1 nb3∧1<nb3∧nb3≤b.size∧x+1+y+na1+nb3+1≤a.size+b.size∧(0<nb3→O.kle (key (nth b (nb3-1))) (key (nth a (na1-1))))) ?t2 (fun hq0 tl=>?p2) fun hq0=>?n2
      case n2 =>
       have hq:q=nb2:=by lia
       subst hq
       exact⟨L2,n4,n5,n6,hny⟩
      case p2 =>
       by_cases e4:(q == 1)=true
       ·rw[if_pos e4]
        simp only[beq_iff_eq] at e4
        exact ZA ⟨sm.gal _,.inl ⟨_,_,rfl,L3.first ua ub hf (by omega) (by exact Zz ‹_› ‹_›)⟩⟩
       rw[if_neg e4]
       by_cases e6:(q == 0)=true
       ·rw[if_pos e6]
        simp only[beq_iff_eq] at e6
        exact ZA ⟨sm.gal _,.inl ⟨_,_,rfl,L3.done ua ub (.inr (by lia))⟩⟩
       rw[if_neg e6]
       simp only[beq_iff_eq] at e4 e6
       exact tl _ _ ⟨L3,by lia,by lia,by lia,hny⟩
      case t2 =>
       clear hny L3 hbc q1 q2 q3 L2 n4 n5 n6
       rintro out3 nb3 ⟨L3,n4,n5,n6,hny⟩
       refine Zr (Y1 (by lia) ?_)
       have L4:=L3.pushA ua ub (by omega) (by lia) hny
       by_cases e5:(na1-1 == 0)=true
       ·rw[if_pos e5]
        simp only[beq_iff_eq] at e5
        exact ZA ⟨sm.gal _,.inl ⟨_,_,rfl,L4.done ua ub (.inl (by lia))⟩⟩
       rw[if_neg e5]
       simp only[beq_iff_eq] at e5
       split
       ·exact ZA ⟨sm.gal _,.inr ⟨_,_,_,_,_,_,rfl,L4,by lia,by omega,by lia,by lia,by lia⟩⟩
       ·exact ZA ⟨sm.gal _,_,_,_,_,_,_,rfl,L4,by lia,by lia,by lia,by lia,by lia⟩
end
end Sg
namespace Sg
open PySem PyProof.Rows
section pure
variable {O:KeyOrd}{key:Keyed→O.α}
theorem Z8l:∀ (m:List Keyed) (n c:Nat) (xs:Ak_),c+n+m.length≤xs.size→∀ i:Nat,
  ((m.zipIdx n).foldl (fun a (p:Keyed×Nat)=>a.setIfInBounds (c+p.2) p.1) xs)[i]?=if c+n≤i∧i<c+n+m.length then m[i-(c+n)]? else xs[i]?
 |[],n,c,xs,h,i=>by
  rw[if_neg (by simp)]
  rfl
 |p::m,n,c,xs,h,i=>by
  rw[Zl] at h
  rw[List.zipIdx_cons,G7,Z8l m (n+1) c _ (by rw[Array.size_setIfInBounds];lia) i]
  by_cases h1:i=c+n
  ·subst h1
   rw[if_neg (by lia),if_pos (by simp),QJ]
   rw[Array.getElem?_setIfInBounds_self_of_lt (by lia)]
   rfl
  ·by_cases h2:c+n≤i∧i<c+n+(p::m).length
   ·rw[if_pos h2]
    rw[Zl] at h2
    rw[if_pos (by lia)]
    obtain⟨j,hj⟩:∃ j,i-(c+n)=j+1:=⟨i-(c+n)-1,by lia⟩
    rw[hj,gs_]
    congr 1
    omega
   ·rw[if_neg h2]
    rw[Zl] at h2
    rw[if_neg (by lia),Array.getElem?_setIfInBounds_ne (by exact GR ‹_›)]
theorem Zb5 {m:List Keyed}{c:Nat}{xs:Ak_}(h:c+m.length≤xs.size) :
  (m.zipIdx.foldl (fun a (p:Keyed×Nat)=>a.setIfInBounds (c+p.2) p.1) xs).toList=xs.toList.take c++m++xs.toList.drop (c+m.length):=by
 apply GT
 intro i
 rw[J0,Z8l m 0 c xs (by omega) i,NB]
 have hl:(xs.toList.take c).length=c:=by rw[ZC,Zm];lia
 by_cases h1:i<c
 ·rw[if_neg (by lia),Z8,ZU (by lia),Nz h1,J0]
 ·by_cases h2:i<c+m.length
  ·rw[if_pos (by lia),Z8,ZD (by lia),hl,ZU (by lia)]
  ·rw[if_neg (by lia),ZD (by rw[Zf,hl];exact Yp ‹_›),Zf,hl,Zax,J0]
   congr 1
   lia
theorem Z5f {xs:Ak_}{c n:Nat}(u:Up key ((xs.toList.drop c).take n)){i j:Nat}(hij:i≤j)(hj:j<n)(hz:c+j<xs.size):O.kle (key (nth xs (c+i))) (key (nth xs (c+j))):=by
 have u':Up key (xs.extract c (c+n)).toList:=by rw[Qz];exact u
 have hs:j<(xs.extract c (c+n)).size:=by rw[Qg];omega
 have e:∀ i,i<(xs.extract c (c+n)).size→nth (xs.extract c (c+n)) i=nth xs (c+i):=by
  intro i hi
  unfold nth
  rw[WU]
  rw[Qg] at hi
  rw[if_pos (by omega)]
 have h:=BC u' hij hs
 rw[e i (by exact UL ‹_› ‹_›),e j hs] at h
 exact h
theorem Zi2 {l:List Keyed}{c m n:Nat}:(l.drop c).take (m+n)=(l.drop c).take m++(l.drop (c+m)).take n:=by
 rw[Fp,JD]
end pure
section
variable {prog:Program}{w:World}{A:Around}{E:Ps_}{s:Shared}{O:KeyOrd}{key:Keyed→O.α}{G:Keyed→Prop}{kd:Nn}{st:SortSt}
theorem ZdE {σ:Type}{M:Model}{t t':σ}{Q:PUnit→σ→Prop}(h:Q ⟨⟩ t'):wpS M A E s (set t':StateT σ Sem PUnit) Q t:=by
 unfold wpS
 show wpAny M A (pure (PUnit.unit,t'):Sem (PUnit×σ)) _ E s
 exact Z5 ⟨rfl,h⟩
theorem Z3X {pre post:List (Nat×Nat×Nat)}{i sa na pw nb pw':Nat}{Q:Bool→SortSt→Prop}(hc:Z7y prog w s O key G kd)(hk:kindOf st=kd)(hf:failedOf st=none)
  (hG:∀ x∈(arrOf st).toList,G x) (hp:pendingOf st=(pre++(sa,na,pw)::(sa+na,nb,pw')::post).toArray) (hi:i=pre.length) (ha:1≤na) (hb:1≤nb) (hz:sa+na+nb≤(arrOf st).size)
  (ua:Up key (((arrOf st).toList.drop sa).take na)) (ub:Up key (((arrOf st).toList.drop (sa+na)).take nb))
  (h:∀ st' M,kindOf st'=kd→failedOf st'=none→pendingOf st'=(pre++(sa,na+nb,pw)::post).toArray→(arrOf st').toList=(arrOf st).toList.take sa++M++(arrOf st).toList.drop (sa+na+nb) →
   M.Perm (((arrOf st).toList.drop sa).take (na+nb))→Up key M→Q true st'):wpS (model prog w) A E s (mergeAt' i) Q st:=by
 subst hi
 refine Zr (QQ ?_)
 have e1:(pendingOf st)[pre.length]?=some (sa,na,pw):=by rw[hp];simp
 have e2:(pendingOf st)[pre.length+1]?=some (sa+na,nb,pw'):=by
  rw[hp,Z7h,ZD (by exact UU _)]
  simp
 rw[e1,e2]
 dsimp only
 refine Zr (ZdE ?_)
 have hpend:((pendingOf st).setIfInBounds pre.length (sa,na+nb,pw)).eraseIdxIfInBounds (pre.length+1)=(pre++(sa,na+nb,pw)::post).toArray:=by
  rw[hp]
  apply Wy.mp
  simp[Array.eraseIdxIfInBounds]
  rw[List.eraseIdx_append_of_length_le (by lia)]
  simp
 have gat:∀ j,j<(arrOf st).size→G (nth (arrOf st) j):=fun j hj=>hG _ (N8 hj)
 have l0:(arrOf st).toList.length=(arrOf st).size:=Zm
 refine Zr (Y1 (xs:=arrOf st) (by lia) (Zr (Me (arr:=arrOf st) hc hk (fun i hi=>gat _ (by lia)) (gat _ (by lia)) (by lia) ‹_›
  (WQ fun i j hij hj=>Z5f ua hij hj (by lia)) fun k k1 k2 k3=>?_)))
 dsimp only
 have hall:(arrOf st).toList=(arrOf st).toList.take sa++((arrOf st).toList.drop sa).take (na+nb)++(arrOf st).toList.drop (sa+na+nb):=by
  rw[Z8,U1 sa na nb,← JD,ZF,ZF]
 have hA:∀ j,j<k→O.kle (key (nth (arrOf st) (sa+j))) (key (nth (arrOf st) (sa+na))):=fun j hj=>Mr.1.mp (k2 j hj)
 have hB0:∀ j,j<nb→O.kle (key (nth (arrOf st) (sa+na))) (key (nth (arrOf st) (sa+na+j))):=fun j hj=>by
  have z:=Z5f (i:=0) ub (Jv j) hj (by lia)
  rwa [NB] at z
 obtain⟨d,rfl⟩:∃ d,na=k+d:=⟨na-k,by lia⟩
 rw[JT]
 by_cases n0:(d == 0)=true
 ·rw[if_pos n0]
  simp only[beq_iff_eq] at n0
  refine ZA (h _ (((arrOf st).toList.drop sa).take (k+d+nb)) hk hf hpend hall (U6 _) ?_)
  rw[Zi2]
  refine ua.app ub fun x hx y hy=>?_
  obtain⟨j,hj,hj2,rfl⟩:=GY hx
  obtain⟨j',hj',hj2',rfl⟩:=GY hy
  exact JH (hA j (by lia)) (hB0 j' hj')
 rw[if_neg n0]
 simp only[beq_iff_eq] at n0
 refine Zr (Y1 (xs:=arrOf st) (by omega) (Zr (Me (arr:=arrOf st) hc hk (fun i hi=>gat _ (by lia)) (gat _ (by lia)) (by omega) (by exact Zdw ‹_› (by decide))
  (WQ fun i j hij hj=>Z5f ub hij hj (by lia)) fun q q1 q2 q3=>?_)))
 dsimp only
 obtain⟨d,rfl⟩:∃ c,d=c+1:=⟨d-1,by lia⟩
 obtain⟨e,rfl⟩:∃ e,nb=q+e:=⟨nb-q,by lia⟩
 have elast:sa+k+(d+1)-1=sa+(k+d):=U1 sa k d
 rw[elast] at q2 q3
 have hlt:O.klt (key (nth (arrOf st) (sa+(k+(d+1))))) (key (nth (arrOf st) (sa+(k+d)))):=Mr.2.mp (k3 (k+d) (by lia) (by exact Zc _))
 have hq:q≠0:=by
  intro e
  subst e
  have z:=QE.2.mp (q3 0 (Zc _) ‹_›)
  rw[NB] at z
  exact KeyOrd.not_klt_of_kle z hlt
 rw[if_neg (by simpa using hq)]
 have ex:(arrOf st).extract (sa+k) (sa+(k+(d+1)))=(arrOf st).extract (sa+k) (sa+k+((d+1))):=by congr 1;lia
 have hx:((arrOf st).extract (sa+k) (sa+(k+(d+1)))).toList=((arrOf st).toList.drop (sa+k)).take ((d+1)):=by rw[ex,Qz]
 have hy:((arrOf st).extract (sa+(k+(d+1))) (sa+(k+(d+1))+q)).toList=((arrOf st).toList.drop (sa+(k+(d+1)))).take q:=Qz
 have sx:((arrOf st).extract (sa+k) (sa+(k+(d+1)))).size=(d+1):=by rw[Qg];lia
 have sy:((arrOf st).extract (sa+(k+(d+1))) (sa+(k+(d+1))+q)).size=q:=by rw[Qg];lia
 have nx:∀ j,j<(d+1)→nth ((arrOf st).extract (sa+k) (sa+(k+(d+1)))) j=nth (arrOf st) (sa+k+j):=by
  intro j hj
  unfold nth
  rw[WU,if_pos (by lia)]
 have ny:∀ j,j<q→nth ((arrOf st).extract (sa+(k+(d+1))) (sa+(k+(d+1))+q)) j=nth (arrOf st) (sa+(k+(d+1))+j):=by
  intro j hj
  unfold nth
  rw[WU,if_pos (by lia)]
 have eA:((arrOf st).toList.drop sa).take (k+(d+1))=((arrOf st).toList.drop sa).take k++((arrOf st).toList.drop (sa+k)).take ((d+1)):=by
  rw[← Zi2]
 have eB:((arrOf st).toList.drop (sa+(k+(d+1)))).take (q+e)=((arrOf st).toList.drop (sa+(k+(d+1)))).take q++((arrOf st).toList.drop (sa+(k+(d+1))+q)).take (e):=by
  rw[← Zi2]
 rw[eA] at ua
 rw[eB] at ub
 obtain⟨uA1,uA2,bA⟩:=G3.mp ua
 obtain⟨uB1,uB2,bB⟩:=G3.mp ub
 have uX:Up key ((arrOf st).extract (sa+k) (sa+(k+(d+1)))).toList:=by rw[hx];exact uA2
 have uY:Up key ((arrOf st).extract (sa+(k+(d+1))) (sa+(k+(d+1))+q)).toList:=by rw[hy];exact uB1
 have gX:∀ z∈((arrOf st).extract (sa+k) (sa+(k+(d+1)))).toList,G z:=by
  rw[hx]
  exact fun z hz=>hG z (JZ (Ub hz))
 have gY:∀ z∈((arrOf st).extract (sa+(k+(d+1))) (sa+(k+(d+1))+q)).toList,G z:=by
  rw[hy]
  exact fun z hz=>hG z (JZ (Ub hz))
 have f0:O.kle (key (nth ((arrOf st).extract (sa+(k+(d+1))) (sa+(k+(d+1))+q)) 0)) (key (nth ((arrOf st).extract (sa+k) (sa+(k+(d+1)))) 0)):=by
  rw[ny 0 (by exact NP ‹_›),nx 0 (by lia),NB,NB]
  exact JJ (Mr.2.mp (k3 k (Zc _) (by simp)))
 have fl:∀ z∈((arrOf st).extract (sa+(k+(d+1))) (sa+(k+(d+1))+q)).toList,O.kle (key z) (key (nth ((arrOf st).extract (sa+k) (sa+(k+(d+1)))) (((arrOf st).extract (sa+k) (sa+(k+(d+1)))).size-1))):=by
  rw[hy,sx,Nat.add_sub_cancel,nx d (by exact Zc _),U1 sa k d]
  intro z hz'
  obtain⟨j,hj,hj2,rfl⟩:=GY hz'
  exact JJ (QE.1.mp (q2 j hj))
 have fin:∀ (R:Ak_) (st':SortSt),Z1W key ((arrOf st).extract (sa+k) (sa+(k+(d+1)))) ((arrOf st).extract (sa+(k+(d+1))) (sa+(k+(d+1))+q)) R →
   Jq (D5 (kindOf st) (arrOf st) (((pendingOf st).setIfInBounds pre.length (sa,k+(d+1)+(q+e),pw)).eraseIdxIfInBounds (pre.length+1)) (gallopOf st) (failedOf st)) st' →
   Q true (D5 (kindOf st') (R.toList.zipIdx.foldl (fun a (p:Keyed×Nat)=>a.setIfInBounds (sa+k+p.2) p.1) (arrOf st')) (pendingOf st') (gallopOf st') (failedOf st')):=by
  rintro R st' ⟨pR,uR⟩ ⟨g,rfl⟩
  rw[hx,hy] at pR
  have lR:R.toList.length=(d+1)+q:=by
   rw[pR.length_eq,Zf,ZC,ZC,ZS,ZS,l0]
   lia
  refine h _ (((arrOf st).toList.drop sa).take k++R.toList++((arrOf st).toList.drop (sa+(k+(d+1))+q)).take (e)) hk hf hpend ?_ ?_ ?_
  ·show (R.toList.zipIdx.foldl (fun a (p:Keyed×Nat)=>a.setIfInBounds (sa+k+p.2) p.1) (arrOf st)).toList=_
   rw[Zb5 (by rw[lR];lia),lR,Fp]
   have ed:(arrOf st).toList.drop (sa+k+((d+1)+q))=((arrOf st).toList.drop (sa+(k+(d+1))+q)).take (e)++(arrOf st).toList.drop (sa+(k+(d+1))+(q+e)):=by
    rw[show sa+k+((d+1)+q)=sa+(k+(d+1))+q by lia,show sa+(k+(d+1))+(q+e)=sa+(k+(d+1))+q+(e) by lia,← JD (i:=e),ZF]
   rw[ed]
   simp only[Z8]
  ·rw[Zi2,eA,eB]
   simp only[Z8]
   refine Jz _ ?_
   rw[← Z8]
   exact Ge _ pR
  ·have mR:∀ z∈R.toList,z∈((arrOf st).toList.drop (sa+k)).take ((d+1))∨z∈((arrOf st).toList.drop (sa+(k+(d+1)))).take q:=fun z hz'=>ZW.mp (pR.mem_iff.mp hz')
   have b1:Below key (((arrOf st).toList.drop sa).take k) R.toList:=by
    intro x hx' y hy'
    rcases mR y hy' with m|m
    ·exact bA x hx' y m
    ·obtain⟨j,hj,hj2,rfl⟩:=GY hx'
     obtain⟨j',hj',hj2',rfl⟩:=GY m
     exact JH (hA j hj) (hB0 j' (by exact Zz ‹_› ‹_›))
   refine (Up.app (Up.app uA1 uR b1) uB2 (Below.app ?_ ?_))
   ·intro x hx' y hy'
    obtain⟨j,hj,hj2,rfl⟩:=GY hx'
    obtain⟨j',hj',hj2',rfl⟩:=GY hy'
    have z:=hB0 (q+j') (by lia)
    rw[← U1 _ q] at z
    exact JH (hA j hj) z
   ·intro x hx' y hy'
    rcases mR x hx' with m|m
    ·obtain⟨j,hj,hj2,rfl⟩:=GY m
     obtain⟨j',hj',hj2',rfl⟩:=GY hy'
     have z1:=Z5f (xs:=arrOf st) (c:=sa) (n:=k+(d+1)) (i:=k+j) (j:=k+d) (by rw[eA];exact ua) (by lia) (by lia) (by lia)
     rw[← U1 sa k j] at z1
     have z2:=QE.2.mp (q3 (q+j') (by lia) (by lia))
     rw[← U1 _ q] at z2
     exact JH z1 z2
    ·exact bB x m y hy'
 have done:∀ (R:Ak_) (st':SortSt),Z1W key ((arrOf st).extract (sa+k) (sa+(k+(d+1)))) ((arrOf st).extract (sa+(k+(d+1))) (sa+(k+(d+1))+q)) R →
   Jq (D5 (kindOf st) (arrOf st) (((pendingOf st).setIfInBounds pre.length (sa,k+(d+1)+(q+e),pw)).eraseIdxIfInBounds (pre.length+1)) (gallopOf st) (failedOf st)) st'→failedOf st'=none:=by
  rintro R st'-⟨g,rfl⟩
  exact hf
 split
 ·refine Zr (Z3V (a:=(arrOf st).extract (sa+k) (sa+(k+(d+1)))) (b:=(arrOf st).extract (sa+(k+(d+1))) (sa+(k+(d+1))+q)) hc hk gX gY uX uY (by lia) (by lia) f0 fl fun R st' hR hS=>?_)
  refine Zr (Nk (Zr (QQ (ZA ?_))))
  have e:=done R st' hR hS
  have f:=fin R st' hR hS
  have e3:(failedOf st').isNone=true:=by rw[e];rfl
  show Q (failedOf st').isNone _
  rw[e3]
  exact f
 ·refine Zr (Z3W (a:=(arrOf st).extract (sa+k) (sa+(k+(d+1)))) (b:=(arrOf st).extract (sa+(k+(d+1))) (sa+(k+(d+1))+q)) hc hk gX gY uX uY (by lia) (by lia) f0 fl fun R st' hR hS=>?_)
  refine Zr (Nk (Zr (QQ (ZA ?_))))
  have e:=done R st' hR hS
  have f:=fin R st' hR hS
  have e3:(failedOf st').isNone=true:=by rw[e];rfl
  show Q (failedOf st').isNone _
  rw[e3]
  exact f
end
end Sg
namespace Sg
open PySem PyProof.Rows
section pure
variable {O:KeyOrd}{key:Keyed→O.α}{xs:Ak_}
def Z6h (key:Keyed→O.α)(xs:Ak_)(i j:Nat):Prop:=∀ p q,i≤p→p≤q→q<j→O.kle (key (nth xs p)) (key (nth xs q))
def Z6i (key:Keyed→O.α)(xs:Ak_)(i j:Nat):Prop:=∀ p q,i≤p→p≤q→q<j→O.kle (key (nth xs q)) (key (nth xs p))
theorem Wl {xs ys:Ak_}{i j:Nat}(h:xs[i]?=ys[j]?):nth xs i=nth ys j:=by unfold nth;rw[h]
theorem Z0t {src d:Nat}(hs:src<xs.size)(hd:d≤src)(k:Nat) :
  nth (bubble xs src d) k=if k=src-d then nth xs src else if src-d<k∧k≤src then nth xs (k-1) else nth xs k:=by
 have e:=Zjy hs d hd k
 by_cases h1:k=src-d
 ·rw[if_pos h1] at e
  rw[if_pos h1]
  exact Wl e
 ·rw[if_neg h1] at e
  rw[if_neg h1]
  by_cases h2:src-d<k∧k≤src
  ·rw[if_pos h2] at e
   rw[if_pos h2]
   exact Wl e
  ·rw[if_neg h2] at e
   rw[if_neg h2]
   exact Wl e
theorem Bl {i j:Nat}(hj:j≤xs.size)(k:Nat):nth (mirror xs i j ((j-i) / 2)) k=if i≤k∧k<j then nth xs (i+j-1-k) else nth xs k:=by
 have e:=getElem?_mirror_all (i:=i) hj k
 by_cases h1:i≤k∧k<j
 ·rw[if_pos h1] at e
  rw[if_pos h1]
  exact Wl e
 ·rw[if_neg h1] at e
  rw[if_neg h1]
  exact Wl e
theorem NW {i j:Nat}(hj:j≤xs.size)(he:∀ k,i≤k→k<j→key (nth xs k)=key (nth xs (j-1)))(k:Nat):key (nth (mirror xs i j ((j-i) / 2)) k)=key (nth xs k):=by
 rw[Bl hj]
 split
 ·rw[he _ (by omega) (by omega),he k (by lia) (by lia)]
 ·rfl
theorem Z6h.more {i j:Nat}(h:Z6h key xs i (i+j))(hj:1≤j)(hx:O.kle (key (nth xs (i+j-1))) (key (nth xs (i+j)))):Z6h key xs i (i+(j+1)):=by
 intro p q h1 h2 h3
 by_cases hq:q<i+j
 ·exact h p q h1 h2 hq
 ·have e:q=i+j:=by lia
  subst e
  by_cases hp:p=i+j
  ·rw[hp];exact Uk _
  ·exact JH (h p (i+j-1) h1 (by lia) (by lia)) hx
theorem Z6i.more {i j:Nat}(h:Z6i key xs i (i+j))(hj:1≤j)(hx:O.kle (key (nth xs (i+j))) (key (nth xs (i+j-1)))):Z6i key xs i (i+(j+1)):=by
 intro p q h1 h2 h3
 by_cases hq:q<i+j
 ·exact h p q h1 h2 hq
 ·have e:q=i+j:=by lia
  subst e
  by_cases hp:p=i+j
  ·rw[hp];exact Uk _
  ·exact JH hx (h p (i+j-1) h1 (by lia) (by lia))
theorem Z6i.congr {ys:Ak_}{i j:Nat}(h:Z6i key xs i j)(e:∀ p,key (nth xs p)=key (nth ys p)):Z6i key ys i j:=by
 intro p q h1 h2 h3
 rw[← e,← e]
 exact h p q h1 h2 h3
theorem Z6S {i j lo:Nat}(h:lo≤i)(k:Nat)(hk:k<lo):(mirror xs i j ((j-i) / 2))[k]?=xs[k]?:=by
 unfold mirror
 have go:∀ (l:List Nat) (ys:Ak_),(∀ r∈l,r<(j-i) / 2)→(l.foldl (fun a r=>a.swapIfInBounds (i+r) (j-1-r)) ys)[k]?=ys[k]?:=by
  intro l
  induction l with
  |nil=>intro ys _;rfl
  |cons r l ih =>
   intro ys hl
   have hr:=hl r Z1
   rw[G7,ih _ fun r hr=>hl r (Z4 _ hr)]
   rw[Array.swapIfInBounds_def]
   split
   ·split
    ·rw[Array.getElem?_swap,if_neg (by omega),if_neg (by lia)]
    ·rfl
   ·rfl
 exact go _ xs fun r hr=>Gs.mp hr
end pure
structure Nc (a₀:Ak_)(kd:Nn)(P:Array (Nat×Nat×Nat))(lo:Nat)(b₀:Ak_)(st:SortSt):Prop where
 perm:(arrOf st).Perm a₀
 kind:kindOf st=kd
 failed:failedOf st=none
 pend:pendingOf st=P
 low:∀ i,i<lo→(arrOf st)[i]?=b₀[i]?
section
variable {prog:Program}{w:World}{A:Around}{E:Ps_}{s:Shared}{O:KeyOrd}{key:Keyed→O.α}{G:Keyed→Prop}{kd:Nn}{st:SortSt}
 {a₀ b₀:Ak_} {P:Array (Nat×Nat×Nat)} {lo:Nat}
theorem Nc.size (h:Nc a₀ kd P lo b₀ st):(arrOf st).size=a₀.size:=h.perm.size_eq
theorem Nc.mem (h:Nc a₀ kd P lo b₀ st)(h0:∀ x∈a₀.toList,G x){i:Nat}(hi:i<a₀.size):G (nth (arrOf st) i) :=
 h0 _ ((Uy.mp h.perm).mem_iff.mp (N8 (by rw[h.size];exact hi)))
theorem Nc.rev {i j:Nat}(h:Nc a₀ kd P lo b₀ st)(hi:lo≤i):Nc a₀ kd P lo b₀ (setArr st (mirror (arrOf st) i j ((j-i) / 2))) :=
 ⟨(mirror_perm _ _ _ _).trans h.perm,h.kind,h.failed,h.pend,fun k hk=>(Z6S hi k hk).trans (h.low k hk)⟩
theorem Bd {i j:Nat}{Q:Option Bool→SortSt→Prop}(hc:Z7y prog w s O key G kd)(h0:∀ x∈a₀.toList,G x)(hB:Nc a₀ kd P lo b₀ st)(hi:i<a₀.size)(hj:j<a₀.size)
  (h:Q (some (O.blt (key (nth (arrOf st) i)) (key (nth (arrOf st) j)))) st):wpS (model prog w) A E s (ltAt' i j) Q st :=
 Z7z hc hB.kind (by rw[hB.size];exact hi) (by rw[hB.size];exact hj) (hB.mem h0 hi) (hB.mem h0 hj) h
theorem Z0U {i j:Nat}{Q:Unit→SortSt→Prop}(h:Q () (setArr st (mirror (arrOf st) i j ((j-i) / 2)))):wpS (model prog w) A E s (reverseSlice' i j) Q st:=by
 rw[reverseSlice'_eq]
 exact Nk h
theorem Z6n {n ok:Nat}{Q:Bool→SortSt→Prop}(hc:Z7y prog w s O key G kd)(h0:∀ x∈a₀.toList,G x)(hn:lo+n≤a₀.size)(hok:ok≤n)(hB:Nc a₀ kd P lo b₀ st)(hs:Z6h key (arrOf st) lo (lo+ok))
  (h:∀ st',Nc a₀ kd P lo b₀ st'→Z6h key (arrOf st') lo (lo+n)→Q true st'):wpS (model prog w) A E s (binarySort' lo n ok) Q st:=by
 rw[binarySort'_eq]
 refine Zr (UX (JU (I:=fun k c st'=>c=(none,())∧Nc a₀ kd P lo b₀ st'∧Z6h key (arrOf st') lo (lo+min k n))
  (Q:=fun c st'=>c=(none,())∧Nc a₀ kd P lo b₀ st'∧Z6h key (arrOf st') lo (lo+n)) ?stp ?fi ?ini) ?po)
 case po =>
  rintro c st' ⟨rfl,B,sg⟩
  exact ZA (h st' B sg)
 case ini =>
  refine⟨rfl,hB,fun p q h1 h2 h3=>?_⟩
  by_cases z:ok=0
  ·have e:p=q:=by lia
   rw[e]
   exact Uk _
  ·exact hs p q h1 h2 (by lia)
 case fi =>
  rintro c st' ⟨hc',B,sg⟩
  refine⟨hc',B,?_⟩
  rwa [show min (max (max ok 1) n) n=n by lia] at sg
 case stp =>
  rintro k c st' k1 k2 ⟨rfl,B,sg⟩
  rw[show min k n=k by lia] at sg
  dsimp only
  refine Zr (UX (JU (I:=fun x c st''=>st''=st'∧∃ l r,c=(none,l,r)∧l≤r∧r≤k∧x+r≤k+l ∧
    (∀ i,i<l→O.kle (key (nth (arrOf st') (lo+i))) (key (nth (arrOf st') (lo+k))))∧(∀ i,r≤i→i<k→O.kle (key (nth (arrOf st') (lo+k))) (key (nth (arrOf st') (lo+i)))))
   (Q:=fun c st''=>st''=st'∧∃ l r,c=(none,l,r)∧l≤k ∧
    (∀ i,i<l→O.kle (key (nth (arrOf st') (lo+i))) (key (nth (arrOf st') (lo+k))))∧(∀ i,l≤i→i<k→O.kle (key (nth (arrOf st') (lo+k))) (key (nth (arrOf st') (lo+i))))) ?is ?ifi ?ii) ?ip)
  case ii=>exact⟨rfl,0,k,rfl,by exact Jv _,by exact Zc _,by simp,fun i hi=>by exact absurd ‹_› (U2 _),fun i h1 h2=>by lia⟩
  case ifi =>
   rintro c st'' ⟨e,l,r,rfl,g1,g2,g3,g4,g5⟩
   have z:l=r:=by lia
   subst z
   exact⟨e,l,l,rfl,g2,g4,g5⟩
  case is =>
   rintro x c st''-hx ⟨rfl,l,r,rfl,g1,g2,g3,g4,g5⟩
   dsimp only
   by_cases hge:l ≥ r
   ·rw[if_pos hge]
    have z:l=r:=by lia
    subst z
    exact ZA ⟨rfl,l,l,rfl,g2,g4,g5⟩
   ·rw[if_neg hge]
    refine Zr (Bd hc h0 B (by lia) (by lia) ?_)
    cases hw:O.blt (key (nth (arrOf st'') (lo+k))) (key (nth (arrOf st'') (lo+(l+r) / 2))) with
    |true=>exact ZA ⟨rfl,l,(l+r) / 2,rfl,by lia,by lia,by lia,g4,fun i z1 z2=>JH (JJ hw) (sg _ _ (by simp) (by lia) (by lia))⟩
    |false=>exact ZA ⟨rfl,(l+r) / 2+1,r,rfl,by lia,by lia,by lia,fun i z1=>JH (sg (lo+i) (lo+(l+r) / 2) (by lia) (by lia) (by lia)) hw,g5⟩
  case ip =>
   rintro c st'' ⟨rfl,l,r,rfl,g2,g4,g5⟩
   dsimp only
   refine Zr ?_
   rw[moveDown'_eq]
   have hz:lo+k<(arrOf st'').size:=by rw[B.size];lia
   refine Nk (ZA ⟨rfl,⟨(bubble_perm _ _ _).trans B.perm,B.kind,B.failed,B.pend,fun i hi=>?_⟩,?_⟩)
   ·show (bubble (arrOf st'') (lo+k) (lo+k-(lo+l)))[i]?=_
    rw[Zjy hz _ (by exact CU _ _),if_neg (by omega),if_neg (by omega)]
    exact B.low i hi
   ·rw[show min (k+1) n=k+1 by lia]
    intro p q h1 h2 h3
    show O.kle (key (nth (bubble (arrOf st'') (lo+k) (lo+k-(lo+l))) p)) (key (nth (bubble (arrOf st'') (lo+k) (lo+k-(lo+l))) q))
    rw[Z0t hz (by exact CU _ _),Z0t hz (by lia),show lo+k-(lo+k-(lo+l))=lo+l by lia]
    have a4:∀ i,lo≤i→i<lo+l→O.kle (key (nth (arrOf st'') i)) (key (nth (arrOf st'') (lo+k))):=fun i z1 z2=>by
     have z:=g4 (i-lo) (by lia)
     rwa [show lo+(i-lo)=i by lia] at z
    have a5:∀ i,lo+l≤i→i<lo+k→O.kle (key (nth (arrOf st'') (lo+k))) (key (nth (arrOf st'') i)):=fun i z1 z2=>by
     have z:=g5 (i-lo) (by lia) (by lia)
     rwa [show lo+(i-lo)=i by lia] at z
    repeat' split
    all_goals first
     |(exfalso;lia)
     |exact Uk _
     |exact a4 _ (by omega) (by lia)
     |exact a5 _ (by lia) (by lia)
     |exact sg _ _ (by lia) (by lia) (by lia)
theorem Z7B {β:Type}{c:Prop}[Decidable c]{p q:StateT SortSt Sem β}{M:Model}{Q:β→SortSt→Prop}{st:SortSt}(Z:SortSt→Prop)(tl:∀ u,Z u→wpS M A E s q Q u)(h1:c→(∀ u,Z u→wpS M A E s q Q u)→wpS M A E s p Q st)(h2:¬ c→Z st):wpS M A E s (if c then p else q) Q st:=by
 by_cases h:c
 ·rw[if_pos h];exact h1 h tl
 ·rw[if_neg h];exact tl _ (h2 h)
theorem ZdF {nrem:Nat}{Q:Option Nat→SortSt→Prop}(hc:Z7y prog w s O key G kd)(h0:∀ x∈a₀.toList,G x)(hn:lo+nrem≤a₀.size)(h1:1≤nrem)(hB:Nc a₀ kd P lo b₀ st)
  (h:∀ m st',Nc a₀ kd P lo b₀ st'→1≤m→m≤nrem→Z6h key (arrOf st') lo (lo+m)→Q (some m) st'):wpS (model prog w) A E s (countRun' lo nrem) Q st:=by
 rw[countRun'_eq]
 refine Zr (UX (JU (I:=fun x c st'=>st'=st∧c=(none,x)∧Z6h key (arrOf st) lo (lo+x))
  (Q:=fun c st'=>st'=st∧∃ n,c=(none,n)∧1≤n∧n≤nrem∧Z6h key (arrOf st) lo (lo+n)∧(n=nrem∨O.klt (key (nth (arrOf st) (lo+n))) (key (nth (arrOf st) (lo+n-1))))) ?is ?fi ?ini) ?po)
 case ini=>exact⟨rfl,rfl,fun p q h1 h2 h3=>by rw[show p=q by lia];exact Uk _⟩
 case fi =>
  rintro c st' ⟨e,rfl,sg⟩
  have e2:max 1 nrem=nrem:=by lia
  rw[e2] at sg ⊢
  exact⟨e,nrem,rfl,h1,Zc _,sg,.inl rfl⟩
 case is =>
  rintro x c st' hx1 hx2 ⟨e,rfl,sg⟩
  subst e
  dsimp only
  refine Zr (Bd hc h0 hB (by lia) (by lia) ?_)
  cases hw:O.blt (key (nth (arrOf st') (lo+x))) (key (nth (arrOf st') (lo+x-1))) with
  |true=>exact ZA ⟨rfl,x,rfl,hx1,by exact Gg ‹_›,sg,.inr hw⟩
  |false=>exact ZA ⟨rfl,rfl,sg.more (by omega) hw⟩
 case po =>
  rintro c st' ⟨e,n,rfl,n1,n2,sg,ho⟩
  subst e
  dsimp only
  by_cases hnn:(n == nrem)=true
  ·rw[if_pos hnn]
   exact ZA (h n st' hB n1 n2 sg)
  rw[if_neg hnn]
  simp only[beq_iff_eq] at hnn
  have hlt:=ho.resolve_left hnn
  have hzn:lo+n≤(arrOf st').size:=by rw[hB.size];lia
  refine Z7B (fun st1=>Nc a₀ kd P lo b₀ st1∧Z6i key (arrOf st1) lo (lo+(n+1))) ?tl (fun hgt tl=>?pp) fun hgt=>⟨hB,?nn⟩
  case nn =>
   intro p q g1 g2 g3
   by_cases hpq:p=q
   ·rw[hpq];exact Uk _
   ·have e1:p=lo+n-1:=by lia
    have e2:q=lo+n:=by lia
    rw[e1,e2]
    exact JJ hlt
  case pp =>
   refine Zr (Bd hc h0 hB (by lia) (by lia) ?_)
   cases hw:O.blt (key (nth (arrOf st') lo)) (key (nth (arrOf st') (lo+n-1)))
   case true=>exact ZA (h n st' hB n1 n2 sg)
   dsimp only
   rw[if_neg (by simp)]
   refine Zr (Z0U ?_)
   have hall:∀ k,lo≤k→k<lo+n→key (nth (arrOf st') k)=key (nth (arrOf st') (lo+n-1)):=by
    intro k g1 g2
    exact Z7j (sg k (lo+n-1) g1 (by lia) (by lia)) (JH hw (sg lo k (Zc _) g1 g2))
   have B1:=hB.rev (i:=lo) (j:=lo+n) (Zc _)
   have N1:Z6i key (arrOf (setArr st' (mirror (arrOf st') lo (lo+n) ((lo+n-lo) / 2)))) lo (lo+(n+1)):=by
    refine Z6i.congr (xs:=arrOf st') ?_ fun p=>(NW hzn hall p).symm
    intro p q g1 g2 g3
    by_cases hq:q<lo+n
    ·rw[hall p g1 (by exact UL ‹_› ‹_›),hall q (by exact Zz ‹_› ‹_›) hq]
     exact Uk _
    ·have e:q=lo+n:=by lia
     subst e
     by_cases hp:p=lo+n
     ·rw[hp];exact Uk _
     ·rw[hall p g1 (by lia)]
      exact JJ hlt
   exact tl _ ⟨B1,N1⟩
  case tl =>
   clear hB hlt sg hzn
   rintro st1 ⟨B1,N1⟩
   refine Zr (Z07 (Gk ⟨rfl,?_⟩))
   refine Zr (UX (JU (I:=fun x c st'=>∃ z,c=(none,x,z)∧Nc a₀ kd P lo b₀ st'∧Z6i key (arrOf st') lo (lo+x)∧z+1≤x∧∀ i,lo+x-(z+1)≤i→i<lo+x→key (nth (arrOf st') i)=key (nth (arrOf st') (lo+x-1)))
    (Q:=fun c st'=>∃ m z,c=(none,m,z)∧Nc a₀ kd P lo b₀ st'∧Z6i key (arrOf st') lo (lo+m)∧z+1≤m∧1≤m∧m≤nrem∧∀ i,lo+m-(z+1)≤i→i<lo+m→key (nth (arrOf st') i)=key (nth (arrOf st') (lo+m-1))) ?is2 ?fi2 ?in2) ?po2)
   case in2=>exact⟨0,rfl,B1,N1,by exact ZfP _ _,fun i h1 h2=>by rw[show i=lo+(n+1)-1 by lia]⟩
   case fi2 =>
    rintro c st' ⟨z,rfl,B2,N2,h2,h3⟩
    have e2:max (n+1) nrem=nrem:=by lia
    rw[e2] at N2 h2 h3 ⊢
    exact⟨nrem,z,rfl,B2,N2,h2,h1,Zc _,h3⟩
   case is2 =>
    rintro x c st' hx1 hx2 ⟨z,rfl,B2,N2,g2,g3⟩
    dsimp only
    have hz2:lo+x≤(arrOf st').size:=by rw[B2.size];lia
    refine Zr (Bd hc h0 B2 (by lia) (by lia) ?_)
    cases hw:O.blt (key (nth (arrOf st') (lo+x))) (key (nth (arrOf st') (lo+x-1))) with
    |true =>
     dsimp only
     rw[if_pos rfl]
     by_cases hz0:z > 0
     ·rw[if_pos hz0]
      refine Zr (Z0U (ZA ⟨0,rfl,B2.rev (by lia),?_,by lia,fun i h1 h2=>by rw[show i=lo+(x+1)-1 by lia]⟩))
      refine Z6i.congr (N2.more (by exact DA ‹_› ‹_›) (JJ hw)) fun p=>?_
      exact (NW hz2 g3 p).symm
     ·rw[if_neg hz0]
      exact ZA ⟨0,rfl,B2,N2.more (by exact DA ‹_› ‹_›) (JJ hw),by lia,fun i h1 h2=>by rw[show i=lo+(x+1)-1 by lia]⟩
    |false =>
     dsimp only
     rw[if_neg (by simp)]
     refine Zr (Bd hc h0 B2 (by lia) (by lia) ?_)
     cases hv:O.blt (key (nth (arrOf st') (lo+x-1))) (key (nth (arrOf st') (lo+x))) with
     |true=>exact ZA ⟨x,z,rfl,B2,N2,g2,by lia,by lia,g3⟩
     |false =>
      have heq:key (nth (arrOf st') (lo+x))=key (nth (arrOf st') (lo+x-1)):=Z7j hv hw
      refine ZA ⟨z+1,rfl,B2,N2.more (by lia) hv,by lia,fun i h1 h2=>?_⟩
      rw[show lo+(x+1)-1=lo+x by rfl]
      by_cases hi:i=lo+x
      ·rw[hi]
      ·rw[heq]
       exact g3 i (by lia) (by lia)
   case po2 =>
    rintro c st2 ⟨m,z,rfl,B2,N2,g2,hm1,hm2,g3⟩
    dsimp only
    have hz2:lo+m≤(arrOf st2).size:=by rw[B2.size];lia
    refine Z7B (fun st4=>Nc a₀ kd P lo b₀ st4∧Z6i key (arrOf st4) lo (lo+m)) ?tl2 (fun hz0 tl=>?pp2) fun hz0=>⟨B2,N2⟩
    case pp2 =>
     refine Zr (Z0U ?_)
     exact tl _ ⟨B2.rev (i:=lo+m-(z+1)) (j:=lo+m) (by lia),Z6i.congr N2 fun p=>(NW hz2 g3 p).symm⟩
    case tl2 =>
     clear g3 hz2 B2 N2
     rintro st4 ⟨B4,N4⟩
     refine Zr (Z0U ?_)
     have hB3:=B4.rev (i:=lo) (j:=lo+m) (Zc _)
     have hz3:lo+m≤(arrOf st4).size:=by rw[B4.size];lia
     refine Zr (UX (JU (I:=fun x c st'=>st'=setArr st4 (mirror (arrOf st4) lo (lo+m) ((lo+m-lo) / 2))∧c=(none,x)∧Z6h key (arrOf st') lo (lo+x))
      (Q:=fun c st'=>st'=setArr st4 (mirror (arrOf st4) lo (lo+m) ((lo+m-lo) / 2))∧∃ y,c=(none,y)∧m≤y∧y≤nrem∧Z6h key (arrOf st') lo (lo+y)) ?is3 ?fi3 ?in3) ?po3)
     case in3 =>
      refine⟨rfl,rfl,fun p q h1 h2 h3=>?_⟩
      show O.kle (key (nth (mirror (arrOf st4) lo (lo+m) ((lo+m-lo) / 2)) p)) (key (nth (mirror (arrOf st4) lo (lo+m) ((lo+m-lo) / 2)) q))
      rw[Bl hz3,Bl hz3,if_pos (by lia),if_pos (by lia)]
      exact N4 _ _ (by omega) (by omega) (by omega)
     case fi3 =>
      rintro c st' ⟨e,rfl,sg⟩
      have e2:max m nrem=nrem:=by lia
      rw[e2] at sg ⊢
      exact⟨e,nrem,rfl,hm2,Zc _,sg⟩
     case is3 =>
      rintro x c st' hx1 hx2 ⟨e,rfl,sg⟩
      subst e
      dsimp only
      refine Zr (Bd hc h0 hB3 (by lia) (by lia) ?_)
      cases hw:O.blt (key (nth (arrOf (setArr st4 (mirror (arrOf st4) lo (lo+m) ((lo+m-lo) / 2)))) (lo+x))) (key (nth (arrOf (setArr st4 (mirror (arrOf st4) lo (lo+m) ((lo+m-lo) / 2)))) (lo+x-1))) with
      |true=>exact ZA ⟨rfl,x,rfl,hx1,by lia,sg⟩
      |false=>exact ZA ⟨rfl,rfl,sg.more (by exact Zz ‹_› ‹_›) hw⟩
     case po3 =>
      rintro c st' ⟨e,y,rfl,y1,y2,sg⟩
      subst e
      exact ZA (h y _ hB3 (by lia) y2 sg)
end
end Sg
namespace Sg
open PySem PyProof.Rows
section pure
variable {O:KeyOrd}{key:Keyed→O.α}
abbrev Run:=Nat×Nat×Nat
noncomputable def tot:List Run→Nat
 |[]=>0
 |p::P=>p.2.1+tot P
def Cov (key:Keyed→O.α):List Run→Nat→List Keyed→Prop
 |[],_,_=>True
 |p::P,f,l=>p.1=f∧1≤p.2.1∧p.2.1≤l.length∧Up key (l.take p.2.1)∧Cov key P (f+p.2.1) (l.drop p.2.1)
theorem Z11:∀ (P Q:List Run),tot (P++Q)=tot P+tot Q
 |[],Q=>by simp[tot]
 |p::P,Q=>by simp only[ZT,tot,Z11 P Q];lia
theorem Z1C:∀ (P Q:List Run) (f:Nat) (l:List Keyed),Cov key (P++Q) f l↔Cov key P f l∧Cov key Q (f+tot P) (l.drop (tot P))
 |[],Q,f,l=>by simp[Cov,tot]
 |p::P,Q,f,l=>by
  simp only[ZT,Cov,tot,Z1C P Q,JD,U1]
  constructor
  ·rintro⟨a,b,c,d,e,g⟩;exact⟨⟨a,b,c,d,e⟩,g⟩
  ·rintro⟨⟨a,b,c,d,e⟩,g⟩;exact⟨a,b,c,d,e,g⟩
theorem Z9W:∀ (P:List Run) (f:Nat) (l:List Keyed),Cov key P f l→tot P≤l.length∧P.length≤tot P
 |[],f,l,_=>by simp[tot]
 |p::P,f,l,h=>by
  obtain⟨-,h2,h3,-,h5⟩:=h
  have ih:=Z9W P _ _ h5
  rw[ZS] at ih
  simp only[tot,Zl]
  lia
theorem Cy:∀ (P:List Run) (f:Nat) (l l':List Keyed),Cov key P f l→tot P≤l'.length→l'.take (tot P)=l.take (tot P)→Cov key P f l'
 |[],_,_,_,_,_,_=>trivial
 |p::P,f,l,l',h,hl,e=>by
  obtain⟨h1,h2,h3,h4,h5⟩:=h
  simp only[tot] at hl e
  have e1:l'.take p.2.1=l.take p.2.1:=by
   have:=congrArg (List.take p.2.1) e
   rwa [B9,B9,Z1R (by simp)] at this
  refine⟨h1,h2,by lia,by rw[e1];exact h4,Cy P _ (l.drop p.2.1) _ h5 (by rw[ZS];lia) ?_⟩
  have:=congrArg (List.drop p.2.1) e
  rwa [Bb,Bb,JT] at this
theorem Z61:∀ (P P':List Run) (f:Nat) (l:List Keyed),P'.map (fun p=>(p.1,p.2.1))=P.map (fun p=>(p.1,p.2.1))→Cov key P f l→Cov key P' f l
 |[],[],_,_,_,_=>trivial
 |[],_::_,_,_,e,_=>by simp at e
 |_::_,[],_,_,e,_=>by simp at e
 |p::P,p'::P',f,l,e,h=>by
  simp only[Zt,FR,Ny] at e
  obtain⟨⟨e1,e2⟩,e3⟩:=e
  obtain⟨h1,h2,h3,h4,h5⟩:=h
  refine⟨e1.trans h1,?_,?_,?_,?_⟩ <;> rw[e2] <;> try assumption
  exact Z61 P P' _ _ e3 h5
theorem Z5i:∀ (P P':List Run),P'.map (fun p=>(p.1,p.2.1))=P.map (fun p=>(p.1,p.2.1))→tot P'=tot P
 |[],[],_=>rfl
 |[],_::_,e=>by simp at e
 |_::_,[],e=>by simp at e
 |p::P,p'::P',e=>by
  simp only[Zt,FR,Ny] at e
  obtain⟨⟨e1,e2⟩,e3⟩:=e
  simp only[tot,e2,Z5i P P' e3]
theorem ZaR {P:List Run}{i:Nat}(h:i+1<P.length):∃ pre x y post,P=pre++x::y::post∧pre.length=i:=by
 refine⟨P.take i,P[i],P[i+1],P.drop (i+2),?_,by rw[ZC];lia⟩
 rw[← YS (i:=i+1),← YS (i:=i),ZF]
theorem Z6p {xs:Ak_}{i n:Nat}(h:Z6h key xs i (i+n)):Up key ((xs.toList.drop i).take n):=by
 refine QL.mpr fun p q hp hq hpq=>?_
 have hq':=hq
 rw[ZC,ZS,Zm] at hq'
 rw[M3,M3,Wb,Wb]
 have e1:=ML (xs:=xs) (i:=i+p) (by omega)
 have e2:=ML (xs:=xs) (i:=i+q) (by omega)
 rw[Za (by simp;lia)] at e1 e2
 rw[Jn e1,Jn e2]
 exact h _ _ (by lia) (by lia) (by lia)
theorem ZaM {xs ys:Ak_}{n:Nat}(h:∀ i,i<n→xs[i]?=ys[i]?):xs.toList.take n=ys.toList.take n:=by
 apply GT
 intro i
 by_cases hi:i<n
 ·rw[Nz hi,Nz hi,J0,J0]
  exact h i hi
 ·rw[Z1T (by exact Yp ‹_›),Z1T (by lia)]
theorem Cd {α β:Type}(g:α→β)(f:α→α)(hg:∀ x,g (f x)=g x)(l:List α)(i:Nat):(l.modify i f).map g=l.map g:=by
 apply GT
 intro j
 rw[Jc,Jc,List.getElem?_modify]
 cases l[j]? with
 |none=>rfl
 |some x =>
  simp only[Z7,Option.map_eq_map]
  split
  ·rw[hg]
  ·rfl
end pure
structure J {O:KeyOrd}(key:Keyed→O.α)(a₀:Ak_)(kd:Nn)(lo:Nat)(D:List Keyed)(st:SortSt):Prop where
 perm:(arrOf st).Perm a₀
 kind:kindOf st=kd
 failed:failedOf st=none
 cov:Cov key (pendingOf st).toList 0 (arrOf st).toList
 tt:tot (pendingOf st).toList=lo
 rest:(arrOf st).toList.drop lo=D
section
variable {prog:Program}{w:World}{A:Around}{E:Ps_}{s:Shared}{O:KeyOrd}{key:Keyed→O.α}{G:Keyed→Prop}{kd:Nn}{st:SortSt}
 {a₀ b₀:Ak_} {P:Array (Nat×Nat×Nat)} {lo:Nat} {D:List Keyed}
theorem Bc {i:Nat}{Q:Bool→SortSt→Prop}(hc:Z7y prog w s O key G kd)(h0:∀ x∈a₀.toList,G x)(hJ:J key a₀ kd lo D st)(hi:i+1<(pendingOf st).size)
  (h:∀ st',J key a₀ kd lo D st'→(pendingOf st').size+1=(pendingOf st).size→Q true st'):wpS (model prog w) A E s (mergeAt' i) Q st:=by
 obtain⟨pre,⟨sa,na,pw⟩,⟨sb,nb,pw'⟩,post,hP,hl⟩:=ZaR (P:=(pendingOf st).toList) (i:=i) (by simpa using hi)
 have hcov:=hJ.cov
 rw[hP,Z1C] at hcov
 obtain⟨c1,e1,n1,m1,u1,e2,n2,m2,u2,c2⟩:=hcov
 dsimp only at e1 n1 m1 u1 e2 n2 m2 u2 c2
 have ht:=hJ.tt
 rw[hP,Z11] at ht
 simp only[tot] at ht
 simp only[Jm] at e1 e2
 rw[ZS] at m1
 rw[ZS,ZS] at m2
 simp only[Zm] at m1 m2
 subst e1 e2
 rw[JD] at u2 c2
 rw[JD] at c2
 simp only[Jm] at c2
 have hsz:(arrOf st).toList.length=(arrOf st).size:=Zm
 have hpl:(pendingOf st).size=pre.length+(post.length+2):=by
  rw[← Zm,hP,Zf,Zl,Zl]
 refine Z3X (pre:=pre) (post:=post) (pw:=pw) (pw':=pw') hc hJ.kind hJ.failed (fun x hx=>h0 x ((Uy.mp hJ.perm).mem_iff.mp hx)) (by rw[← hP]) hl.symm n1 n2 (by lia) u1 u2 ?_
 intro st' M k1 k2 k3 k4 k5 k6
 have lM:M.length=na+nb:=by
  rw[k5.length_eq,ZC,ZS,hsz]
  lia
 have hall:(arrOf st).toList=(arrOf st).toList.take (tot pre)++((arrOf st).toList.drop (tot pre)).take (na+nb)++(arrOf st).toList.drop (tot pre+na+nb):=by
  rw[Z8,U1 (tot pre) na nb,← JD,ZF,ZF]
 have lT:((arrOf st).toList.take (tot pre)).length=tot pre:=by rw[ZC,hsz];lia
 have d1:(arrOf st').toList.drop (tot pre)=M++(arrOf st).toList.drop (tot pre+na+nb):=by
  rw[k4,Z8,JA (by lia),Je (by lia),ZJ]
 have d2:(arrOf st').toList.drop (tot pre+na+nb)=(arrOf st).toList.drop (tot pre+na+nb):=by
  rw[U1,← JD (i:=na+nb),d1,JA (by lia),Je (by lia),ZJ,U1]
 have ppm:(arrOf st').toList.Perm (arrOf st).toList:=by
  rw[k4]
  conv=>rhs;rw[hall]
  exact (Jz _ k5).append_right _
 have hsz':(arrOf st').toList.length=(arrOf st).size:=by rw[ppm.length_eq,hsz]
 refine h st' ⟨(Uy.mpr ppm).trans hJ.perm,k1,k2,?_,?_,?_⟩ ?_
 ·rw[k3,Z1C]
  refine⟨Cy _ _ _ _ c1 (by lia) ?_,?_⟩
  ·rw[k4,Z8,Ym (by lia),B9,Z7r]
  ·refine⟨by simp,by show 1≤na+nb;lia,by show na+nb≤_;rw[ZS,hsz'];lia,?_,?_⟩
   ·show Up key (((arrOf st').toList.drop (tot pre)).take (na+nb))
    rw[d1,Ym (by lia),JG (by lia)]
    exact k6
   ·show Cov key post (0+tot pre+(na+nb)) (((arrOf st').toList.drop (tot pre)).drop (na+nb))
    rw[JD,show tot pre+(na+nb)=tot pre+na+nb by lia,d2,show 0+tot pre+(na+nb)=tot pre+na+nb by lia]
    rw[show tot pre+(na+nb)=tot pre+na+nb by lia] at c2
    exact c2
 ·rw[k3,Z11]
  simp only[tot]
  lia
 ·have e:∃ r,lo=tot pre+na+nb+r:=⟨lo-(tot pre+na+nb),by lia⟩
  obtain⟨r,e⟩:=e
  rw[e,← JD (i:=r),d2,JD,← e]
  exact hJ.rest
 ·rw[hpl,k3]
  simp
  rfl
theorem J.push {n pw:Nat}(hJ:J key a₀ kd lo D st)(h1:1≤n)(h2:lo+n≤(arrOf st).size)(u:Up key (D.take n)) :
  J key a₀ kd (lo+n) (D.drop n) (setPending st ((pendingOf st).push (lo,n,pw))):=by
 refine⟨hJ.perm,hJ.kind,hJ.failed,?_,?_,?_⟩
 ·show Cov key ((pendingOf st).push (lo,n,pw)).toList 0 (arrOf st).toList
  rw[YO,Z1C]
  refine⟨hJ.cov,?_,h1,?_,?_,trivial⟩
  ·rw[hJ.tt];simp
  ·rw[ZS,Zm,hJ.tt];simp only;lia
  ·rw[hJ.tt,hJ.rest];exact u
 ·show tot ((pendingOf st).push (lo,n,pw)).toList=_
  rw[YO,Z11,hJ.tt]
  simp[tot]
 ·show (arrOf st).toList.drop (lo+n)=_
  rw[← JD,hJ.rest]
theorem J.power {pw:Nat}(hJ:J key a₀ kd lo D st):J key a₀ kd lo D (setPending st ((pendingOf st).modify ((pendingOf st).size-1) fun x=>match x with|(a,b,_)=>(a,b,pw))):=by
 have e:((pendingOf st).modify ((pendingOf st).size-1) fun x:Run=>match x with|(a,b,_)=>(a,b,pw)).toList.map (fun p=>(p.1,p.2.1))=(pendingOf st).toList.map (fun p=>(p.1,p.2.1)):=by
  rw[Array.toList_modify]
  exact Cd _ _ (fun ⟨a,b,c⟩=>rfl) _ _
 refine⟨hJ.perm,hJ.kind,hJ.failed,Z61 _ _ _ _ e hJ.cov,(Z5i _ _ e).trans hJ.tt,hJ.rest⟩
theorem Z58 {Q:Unit→SortSt→Prop}(hc:Z7y prog w s O key G kd)(h0:∀ x∈a₀.toList,G x)(hpm:(arrOf st).Perm a₀)(hkd:kindOf st=kd)(hfl:failedOf st=none)(hpd:pendingOf st=#[])
  (h:∀ st',(arrOf st').Perm a₀→failedOf st'=none→Up key (arrOf st').toList→Q () st'):wpS (model prog w) A E s sortRuns' Q st:=by
 rw[sortRuns'_eq]
 refine Zr (QQ ?_)
 have hz:(arrOf st).size=a₀.size:=hpm.size_eq
 dsimp only
 rw[hz]
 have hmr:∀ f n r,n≤f→(1≤n∨1≤r)→1≤minRun' f n r:=by
  intro f
  induction f with
  |zero=>intro n r h1 h2;show 1≤n+r;lia
  |succ f ih =>
   intro n r h1 h2
   rw[minRun'_succ]
   split
   ·lia
   ·exact ih _ _ (by lia) (.inl (by lia))
 refine Zr (UX (JU
  (I:=fun x c st'=>∃ lo,c=(none,lo)∧x≤lo∧lo≤a₀.size∧J key a₀ kd lo ((arrOf st').toList.drop lo) st')
  (Q:=fun c st'=>c=(none,a₀.size)∧J key a₀ kd a₀.size [] st') ?is ?fi ?ini) ?po)
 case ini =>
  refine⟨0,rfl,Zc _,Jv _,hpm,hkd,hfl,?_,?_,rfl⟩
  ·rw[hpd];exact trivial
  ·rw[hpd];rfl
 case fi =>
  rintro c st' ⟨lo,rfl,l1,l2,hJ⟩
  have e:lo=a₀.size:=by exact Q0 ‹_› ‹_›
  subst e
  have hs:(arrOf st').size=a₀.size:=hJ.perm.size_eq
  rw[Je (by rw[Zm];lia)] at hJ
  exact⟨rfl,hJ⟩
 case po =>
  rintro c st' ⟨rfl,hJ⟩
  dsimp only
  refine Zr (UX (JU (I:=fun x c st''=>c=(none,())∧J key a₀ kd a₀.size [] st''∧(pendingOf st'').size+x≤a₀.size)
   (Q:=fun c st''=>c=(none,())∧J key a₀ kd a₀.size [] st''∧(pendingOf st'').size≤1) ?is2 ?fi2 ?in2) ?po2)
  case in2 =>
   refine⟨rfl,hJ,?_⟩
   have z:=Z9W _ _ _ hJ.cov
   rw[hJ.tt,Zm,Zm] at z
   lia
  case fi2 =>
   rintro c st'' ⟨hc',hJ',hp⟩
   exact⟨hc',hJ',by lia⟩
  case is2 =>
   rintro x c st''-hx ⟨rfl,hJ',hp⟩
   refine Zr (QQ ?_)
   by_cases hle:(pendingOf st'').size≤1
   ·rw[if_pos hle]
    exact ZA ⟨rfl,hJ',hle⟩
   ·rw[if_neg hle]
    refine Zr (Bc hc h0 hJ' ?_ fun st3 hJ3 hs3=>?_)
    ·have two:∀ (b:Bool) (u:Nat),1<u→(if b=true then u-2-1 else u-2)+1<u:=by
      intro b u hu
      cases b <;> simp <;> lia
     exact two _ _ (by exact WY ‹_›)
    ·exact ZA ⟨rfl,hJ3,by lia⟩
  case po2 =>
   rintro c st'' ⟨rfl,hJ',hp⟩
   refine ZA (h st'' hJ'.perm hJ'.failed ?_)
   have hs:(arrOf st'').toList.length=a₀.size:=by rw[Zm];exact hJ'.perm.size_eq
   have hcv:=hJ'.cov
   have htt:=hJ'.tt
   have hl:(pendingOf st'').toList.length≤1:=by rw[Zm];exact hp
   match hq:(pendingOf st'').toList,hl with
   |[],_ =>
    rw[hq] at htt
    simp only[tot] at htt
    have:(arrOf st'').toList=[]:=Gr (by lia)
    rw[this]
    exact Uw
   |[p],_ =>
    rw[hq] at htt hcv
    simp only[tot] at htt
    have u:=hcv.2.2.2.1
    rwa [JG (by lia)] at u
 case is =>
  rintro x c st'-hx ⟨lo,rfl,l1,l2,hJ⟩
  dsimp only
  by_cases hge:lo ≥ a₀.size
  ·rw[if_pos hge]
   have e:lo=a₀.size:=by exact Q0 ‹_› ‹_›
   subst e
   have hs:(arrOf st').size=a₀.size:=hJ.perm.size_eq
   rw[Je (by rw[Zm];lia)] at hJ
   exact ZA ⟨rfl,hJ⟩
  rw[if_neg hge]
  have hm1:1≤minRun' a₀.size a₀.size 0:=hmr _ _ _ (Zc _) (.inl (by lia))
  have B0:Nc a₀ kd (pendingOf st') lo (arrOf st') st':=⟨hJ.perm,hJ.kind,hJ.failed,rfl,fun _ _=>rfl⟩
  have next:∀ (st2:SortSt) (n:Nat),Nc a₀ kd (pendingOf st') lo (arrOf st') st2→1≤n→lo+n≤a₀.size→Z6h key (arrOf st2) lo (lo+n) →
    J key a₀ kd lo ((arrOf st2).toList.drop lo) st2∧Up key (((arrOf st2).toList.drop lo).take n):=by
   intro st2 n B n1 n2 sg
   refine⟨⟨B.perm,B.kind,B.failed,?_,by rw[B.pend];exact hJ.tt,rfl⟩,Z6p sg⟩
   rw[B.pend]
   refine Cy _ _ _ _ hJ.cov ?_ ?_
   ·rw[hJ.tt,Zm,B.size];omega
   ·rw[hJ.tt];exact ZaM B.low
  refine Zr (ZdF hc h0 (by lia) (by lia) B0 fun m st2 B2 m1 m2 sg=>?_)
  dsimp only
  by_cases hlt:m<minRun' a₀.size a₀.size 0
  ·rw[if_pos hlt]
   refine Zr (Z07 (Gk ⟨rfl,?_⟩))
   refine Zr (Z6n hc h0 (by lia) (by omega) B2 sg fun st3 B3 sg3=>?_)
   rw[if_neg (by simp)]
   obtain⟨J3,u3⟩:=next st3 _ B3 (by lia) (by lia) sg3
   have n1:1≤min (a₀.size-lo) (minRun' a₀.size a₀.size 0):=by lia
   have n2:lo+min (a₀.size-lo) (minRun' a₀.size a₀.size 0)≤a₀.size:=by lia
   generalize min (a₀.size-lo) (minRun' a₀.size a₀.size 0)=n at n1 n2 u3 ⊢
   have last:∀ (st4:SortSt),J key a₀ kd lo ((arrOf st3).toList.drop lo) st4→∃ l4,((none:Option Unit),lo+n)=(none,l4)∧x+1≤l4∧l4≤a₀.size∧J key a₀ kd l4 ((arrOf (setPending st4 ((pendingOf st4).push (lo,n,0)))).toList.drop l4) (setPending st4 ((pendingOf st4).push (lo,n,0))):=by
    intro st4 J4
    have z:=J4.push (pw:=0) n1 (by rw[J4.perm.size_eq];exact n2) u3
    have e:=z.rest
    refine⟨lo+n,rfl,by lia,n2,?_⟩
    rw[e]
    exact z
   refine Zr (QQ ?_)
   cases hbk:(pendingOf st3).back? with
   |none=>exact Zr (Nk (ZA (last _ J3)))
   |some q =>
    obtain⟨s1,n1',o1⟩:=q
    dsimp only
    refine Zr (UX (JU (I:=fun _ c st4=>c=(none,())∧J key a₀ kd lo ((arrOf st3).toList.drop lo) st4)
     (Q:=fun c st4=>c=(none,())∧J key a₀ kd lo ((arrOf st3).toList.drop lo) st4) ?is5 (fun _ _ z=>z) ⟨rfl,J3⟩) ?po5)
    case po5 =>
     rintro c st4 ⟨rfl,J4⟩
     exact Zr (Nk (Zr (Nk (ZA (last _ J4.power)))))
    case is5 =>
     rintro y c st4-hy ⟨rfl,J4⟩
     refine Zr (QQ ?_)
     split
     ·split
      ·exact ZA ⟨rfl,J4⟩
      ·rename_i heq _
       refine Zr (Bc hc h0 J4 ?_ fun st5 J5 _=>ZA ⟨rfl,J5⟩)
       split at heq
       ·lia
       ·exact absurd heq (by simp)
     ·exact ZA ⟨rfl,J4⟩
  ·rw[if_neg hlt]
   obtain⟨J3,u3⟩:=next st2 m B2 m1 (by lia) sg
   have n1:1≤m:=m1
   have n2:lo+m≤a₀.size:=by lia
   generalize m=n at n1 n2 u3 ⊢
   generalize st2=st3 at J3 u3 ⊢
   have last:∀ (st4:SortSt),J key a₀ kd lo ((arrOf st3).toList.drop lo) st4→∃ l4,((none:Option Unit),lo+n)=(none,l4)∧x+1≤l4∧l4≤a₀.size∧J key a₀ kd l4 ((arrOf (setPending st4 ((pendingOf st4).push (lo,n,0)))).toList.drop l4) (setPending st4 ((pendingOf st4).push (lo,n,0))):=by
    intro st4 J4
    have z:=J4.push (pw:=0) n1 (by rw[J4.perm.size_eq];exact n2) u3
    have e:=z.rest
    refine⟨lo+n,rfl,by lia,n2,?_⟩
    rw[e]
    exact z
   refine Zr (QQ ?_)
   cases hbk:(pendingOf st3).back? with
   |none=>exact Zr (Nk (ZA (last _ J3)))
   |some q =>
    obtain⟨s1,n1',o1⟩:=q
    dsimp only
    refine Zr (UX (JU (I:=fun _ c st4=>c=(none,())∧J key a₀ kd lo ((arrOf st3).toList.drop lo) st4)
     (Q:=fun c st4=>c=(none,())∧J key a₀ kd lo ((arrOf st3).toList.drop lo) st4) ?is5 (fun _ _ z=>z) ⟨rfl,J3⟩) ?po5)
    case po5 =>
     rintro c st4 ⟨rfl,J4⟩
     exact Zr (Nk (Zr (Nk (ZA (last _ J4.power)))))
    case is5 =>
     rintro y c st4-hy ⟨rfl,J4⟩
     refine Zr (QQ ?_)
     split
     ·split
      ·exact ZA ⟨rfl,J4⟩
      ·rename_i heq _
       refine Zr (Bc hc h0 J4 ?_ fun st5 J5 _=>ZA ⟨rfl,J5⟩)
       split at heq
       ·lia
       ·exact absurd heq (by simp)
     ·exact ZA ⟨rfl,J4⟩
end
end Sg
namespace Sg
open PySem PyProof.Rows PySem.Spec
def Ext (h h':Heap):Prop:=∀ b o,h.get? b=some o→h'.get? b=some o
theorem Ext.refl (h:Heap):Ext h h:=fun _ _ e=>e
structure Sorts (prog:Program)(w:World)(h:Heap)(vs:Lu_)(O:KeyOrd)(key:Keyed→O.α)(G:Keyed→Prop)(kd:Nn):Prop where
 good:∀ v∈vs,G (v,v)
 kind:2≤vs.length→∀ (s:Shared) (A:Around) (E:Ps_) (Q:Nn→Shared→Prop),Ext h s.heap→Q kd s→wpAny (model prog w) A (keyKind' vs.toArray) Q E s
 asks:∀ s:Shared,Ext h s.heap→Z7y prog w s O key G kd
section
variable {prog:Program}{w:World}{A:Around}{E:Ps_}{s:Shared}{O:KeyOrd}{key:Keyed→O.α}{G:Keyed→Prop}{kd:Nn}{h:Heap}{vs:Lu_}
theorem Zjv {xs:Ak_}(hp:xs.Perm (pairsOf vs))(hu:Up key xs.toList) :
  (xs.map (·.2)).toList.Perm vs∧(xs.map (·.2)).toList.Pairwise fun a b=>O.kle (key (a,a)) (key (b,b)):=by
 have hl:xs.toList.Perm (vs.zip vs):=by rw[← Z7n];exact Uy.mp hp
 have hm:∀ p∈xs.toList,p=(p.2,p.2):=fun p q=>Dw (mem_zip_self (hl.mem_iff.mp q)).1 rfl
 rw[ZcI]
 constructor
 ·have e:=hl.map (·.2)
  rwa [show (vs.zip vs).map (·.2)=vs from ZdB (Zc _)] at e
 ·refine Ye.mpr (Ux (fun {a b} ha hb hab=>?_) hu)
  rw[← hm a ha,← hm b hb]
  exact hab
theorem Z1n (S:Sorts prog w h vs O key G kd) {a:Addr} {n:Nat} {P:Fin→Shared→Prop} (ho:s.heap.get? a=some (seqObj "list" vs.toArray n)) (hx:h.get? a=none) (he:Ext h s.heap)
  (hsz:vs.length≤sizeLine)
  (hh:∀ out:Au_,out.toList.Perm vs→(out.toList.Pairwise fun a b=>O.kle (key (a,a)) (key (b,b)))→P (.done (.ret .none)) { s with heap:=sortedHeap s.heap a vs out }) :
  wpAny (model prog w) A (Builtin.«list.sort» ⟨[.ref a],[]⟩) P E s:=by
 rw[list_sort_plain]
 have ha:a<s.heap.objs.size:=ZB ho
 refine Z0 (BS ho rfl ?_)
 refine Z0 (Nl ho rfl ?_ (by simpa using hsz) (Jv _))
 obtain⟨e1,ho1⟩:∃ e1,(s.heap.update a (Yy fun _=>#[])).get? a=some (seqObj "list" #[] e1):=⟨_,BV ho (fun _=>#[])⟩
 refine Z0 (CP ho1 rfl ?_)
 refine Z0 (Z7m ?_ (by simpa using hsz))
 refine Z0 (Z08 ?_ (Jv _))
 refine Y5 ?_
 have keep:∀ b,b≠a→b<s.heap.objs.size→(((s.heap.update a (Yy fun _=>#[])).push (seqObj "tuple" vs.toArray 0)).push (seqObj "list" #[] 0)).get? b=(s.heap.update a (Yy fun _=>#[])).get? b:=by
  intro b _ hb
  rw[Wc _ _ _ (by rw[Fg,Mv];exact ZI (Yg hb)),Wc _ _ _ (by rw[Mv];exact ZI hb)]
 have ho6:(((s.heap.update a (Yy fun _=>#[])).push (seqObj "tuple" vs.toArray 0)).push (seqObj "list" #[] 0)).get? a=some (seqObj "list" #[] e1):=by
  rw[Wc _ _ _ (by rw[Fg,Mv];exact ZI (Yg ha)),Wc _ _ _ (by rw[Mv];exact ZI ha)]
  exact ho1
 have hX:Ext h (((s.heap.update a (Yy fun _=>#[])).push (seqObj "tuple" vs.toArray 0)).push (seqObj "list" #[] 0)):=by
  intro b o e
  have hb:b≠a:=fun z=>by rw[z,hx] at e;cases e
  rw[keep b hb (ZB (he b o e)),Ur _ _ _ _ hb]
  exact he b o e
 show wpAny (model prog w) A _ P E { s with heap:=((s.heap.update a (Yy fun _=>#[])).push (seqObj "tuple" vs.toArray 0)).push (seqObj "list" #[] 0) }
 dsimp only
 have hlen:vs.toArray.size=vs.length:=by simp
 by_cases h2:vs.toArray.size<2
 ·rw[if_pos h2,if_pos h2]
  refine Z0 (Z5 ?_)
  rw[Zcv]
  refine Z0 (Z5 ?_)
  dsimp only
  refine Z0 (CP ho6 rfl ?_)
  refine Z0 (Nl ho6 rfl ?_ (Jv _) (by rw[Z1Y];show (pairsOf vs).size≤_;rw[pairsOf_size];lia))
  simp only[bne_self_eq_false,Zj,if_false]
  have u0:Up key (pairsOf vs).toList:=by
   rw[Z7n]
   clear hh ho hX keep ho6 S hsz
   rcases vs with _|⟨v,_|⟨v2,r⟩⟩
   ·exact Uw
   ·exact Z52 _ _
   ·simp at h2
    lia
  have z:=Zjv (vs:=vs) (Z7l (pairsOf vs)) u0
  exact Z5 (hh _ z.1 z.2)
 ·rw[if_neg h2,if_neg h2]
  refine Z0 (S.kind (by exact Yp ‹_›) _ _ _ _ hX ?_)
  have g0:∀ x∈(pairsOf vs).toList,G x:=by
   intro x q
   rw[Z7n] at q
   have e:=mem_zip_self q
   have e2:x=(x.1,x.1):=Dw rfl e.1.symm
   rw[e2]
   exact S.good _ e.2
  refine Z0 (JP (Z58 (a₀:=pairsOf vs) (key:=key) (G:=G) (kd:=kd) (st:=D5 kd (vs.toArray.zip vs.toArray) #[] 7 none)
   (Q:=fun _ st'=>(arrOf st').Perm (pairsOf vs)∧failedOf st'=none∧Up key (arrOf st').toList)
   (S.asks _ hX) g0 (Z7l _) rfl rfl rfl fun st' a1 a2 a3=>⟨a1,a2,a3⟩) ?_ fun _ _ e=>e)
  rintro⟨⟨⟩,st'⟩ s' ⟨rfl,hp,hf,hs⟩
  dsimp only
  refine Z0 (CP ho6 rfl ?_)
  refine Z0 (Nl ho6 rfl ?_ (Jv _) (by refine Zz (Z7t ((Z1Y ..).trans (hp.size_eq.trans (pairsOf_size _)))) ?_;lia))
  rw[hf]
  simp only[bne_self_eq_false,Zj,if_false]
  have z:=Zjv hp hs
  exact Z5 (hh _ z.1 z.2)
theorem sorted_any {v:Value}{Q:Ps_}
  (hc:∀ A':Around,A'.handled=A.handled→wpAny (model prog w) A' (collect v) (fun vs s1=>vs.length≤sizeLine∧∃ (O:KeyOrd) (key:Keyed→O.α) (G:Keyed→Prop) (kd:Nn),Sorts prog w s1.heap vs O key G kd ∧
   ∀ (out:Lu_) (h':Heap) (e:Nat),out.Perm vs→(out.Pairwise fun a b=>O.kle (key (a,a)) (key (b,b)))→Ext s1.heap h'→h'.get? s1.heap.objs.size=some (seqObj "list" out.toArray e) →
    Q (.ref s1.heap.objs.size) { s1 with heap:=h' }) E s) :
  wpAny (model prog w) A (call (.builtin "sorted") [v]) Q E s:=by
 refine Calls.call_function_entry kind_sorted plain_sorted entry_sorted (args_sorted1 _) ?_
 unfold Z7k
 refine Z0 (m:=checkCount "sorted" 1 1 _) (Z5 ?_)
 refine Z0 (JP (hc _ (by first|rfl|simp)) (fun vs s1 hq=>?_) fun _ _ e=>e)
 obtain⟨hsz,O,key,G,kd,S,hq⟩:=hq
 refine Z0 (Z08 ?_ hsz)
 have hoL:(s1.heap.push (seqObj "list" vs.toArray 0)).get? s1.heap.objs.size=some (seqObj "list" vs.toArray 0):=Zu _ rfl
 have hE:Ext s1.heap (s1.heap.push (seqObj "list" vs.toArray 0)):=fun b o e=>Z2 _ e
 show wpAny _ _ _ _ _ { s1 with heap:=s1.heap.push (seqObj "list" vs.toArray 0) }
 refine Z0 (Y5 (YQ ZjU ⟨_,hoL,rfl⟩ Zjz
  (Z1n (s:={ s1 with heap:=s1.heap.push (seqObj "list" vs.toArray 0) }) S hoL (MA (Zc _)) hE hsz fun out a1 a2=>⟨_,rfl,?_⟩) (args_list_sort _)))
 obtain⟨e,he⟩:=sortedHeap_at (out:=out) hoL
 refine Z5 ⟨_,rfl,hq out.toList _ e a1 a2 (fun b o q=>?_) (by simpa using he)⟩
 have hb:b<s1.heap.objs.size:=ZB q
 rw[sortedHeap_old (ZI hb) (by rw[Fg];exact Yg hb)]
 exact hE b o q
end
end Sg
namespace Sg
open PySem PyProof.Rows PySem.Spec PySem.W
structure Atom where
 O:KeyOrd
 dflt:O.α
 keyOf:Value→Option O.α
 T:Value
 notTup:(T != Yb "tuple")=true
 self:(T == T)=true
 ty:∀ (M:Model) (h:Heap) (v:Value) (k:O.α),keyOf v=some k→Looks M h (typeOf v) T
 eqs:∀ {prog:Program} {w:World} {A:Around} {E:Ps_} {s:Shared} {p q:Value} {a b:O.α} {Q:Bool→Shared→Prop},keyOf p=some a→keyOf q=some b →
  (∀ c:Bool,(c=true↔a=b)→Q c s)→wpAny (model prog w) A (eqBool p q) Q E s
 lts:∀ {prog:Program} {w:World} {A:Around} {E:Ps_} {s:Shared} {p q:Value} {a b:O.α} {Q:Bool→Shared→Prop} (c:Bool),keyOf p=some a→keyOf q=some b →
  Q (O.blt a b) s→wpAny (model prog w) A (oneLt' c p q) Q E s
@[reducible] noncomputable def intOrd:KeyOrd where
 α:=Int
 blt a b:=decide (a<b)
 irrefl a:=by simp
 trans a b c h1 h2:=by simp only[decide_eq_true_eq] at *;lia
 negTrans a b c h:=by simp only[decide_eq_true_eq] at *;lia
 total a b h1 h2:=by simp only[decide_eq_false_iff_not] at *;lia
noncomputable def lexOrd (P R:KeyOrd):KeyOrd where
 α:=P.α×R.α
 blt a b:=P.blt a.1 b.1||(!P.blt b.1 a.1&&R.blt a.2 b.2)
 irrefl a:=by rw[P.irrefl,R.irrefl];rfl
 trans a b c h1 h2:=by
  simp only[G9,ZX,Wd] at *
  rcases h1 with h1|⟨h1,h1'⟩ <;> rcases h2 with h2|⟨h2,h2'⟩
  ·exact .inl (P.trans _ _ _ h1 h2)
  ·exact .inl (KeyOrd.klt_of_klt_of_kle (O:=P) h1 h2)
  ·exact .inl (Z1U (O:=P) h1 h2)
  ·exact .inr ⟨JH (O:=P) h1 h2,R.trans _ _ _ h1' h2'⟩
 negTrans a b c h:=by
  simp only[G9,ZX,Wd] at *
  rcases h with h|⟨h,h'⟩
  ·rcases P.negTrans _ b.1 _ h with z|z
   ·exact .inl (.inl z)
   ·exact .inr (.inl z)
  ·cases e1:P.blt a.1 b.1 with
   |true=>exact .inl (.inl rfl)
   |false =>
    cases e2:P.blt b.1 c.1 with
    |true=>exact .inr (.inl rfl)
    |false =>
     have e3:P.blt b.1 a.1=false:=by
      cases z:P.blt b.1 a.1 with
      |false=>rfl
      |true =>
       rcases P.negTrans _ c.1 _ z with y|y
       ·rw[e2] at y;cases y
       ·rw[h] at y;cases y
     have e4:P.blt c.1 b.1=false:=by
      cases z:P.blt c.1 b.1 with
      |false=>rfl
      |true =>
       rcases P.negTrans _ a.1 _ z with y|y
       ·rw[h] at y;cases y
       ·rw[e1] at y;cases y
     rcases R.negTrans _ b.2 _ h' with z|z
     ·exact .inl (.inr ⟨e3,z⟩)
     ·exact .inr (.inr ⟨e4,z⟩)
 total a b h1 h2:=by
  simp only[MB] at *
  have e:=P.total _ _ h1.1 h2.1
  have g1:=h1.2
  have g2:=h2.2
  rw[h2.1] at g1
  rw[h1.1] at g2
  exact Dw e (R.total _ _ (by simpa using g1) (by simpa using g2))
noncomputable def intAtom:Atom where
 O:=intOrd
 dflt:=(0:Int)
 keyOf v:=match v with|.int n _=>some n|_=>none
 T:=Yb "int"
 notTup:=rfl
 self:=rfl
 ty:=by
  intro M h v k e
  cases v <;> simp only[reduceCtorEq] at e
  exact ZjG
 eqs:=by
  intro prog w A E s p q a b Q ha hb hQ
  cases p <;> simp only[reduceCtorEq,Jt] at ha
  cases q <;> simp only[reduceCtorEq,Jt] at hb
  subst ha hb
  exact Zik (hQ _ (by simp))
 lts:=by
  intro prog w A E s p q a b Q c ha hb hQ
  cases p <;> simp only[reduceCtorEq,Jt] at ha
  cases q <;> simp only[reduceCtorEq,Jt] at hb
  subst ha hb
  cases c with
  |true=>exact oneLt_int hQ
  |false=>exact kat_one _ _ (Z1J hQ)
noncomputable def strAtom:Atom where
 O:=strKind.toKeyOrd
 dflt:=([]:List Nat)
 keyOf v:=match v with|.str x _=>some x.cps.toList|_=>none
 T:=Yb "str"
 notTup:=rfl
 self:=rfl
 ty:=by
  intro M h v k e
  cases v <;> simp only[reduceCtorEq] at e
  exact ZjG
 eqs:=by
  intro prog w A E s p q a b Q ha hb hQ
  cases p <;> simp only[reduceCtorEq,Jt] at ha
  cases q <;> simp only[reduceCtorEq,Jt] at hb
  subst ha hb
  rename_i x _ y _
  refine Zij (hQ _ ?_)
  cases x;cases y
  simp only[decide_eq_true_eq,ZfN]
  exact Wy.symm
 lts:=by
  intro prog w A E s p q a b Q c ha hb hQ
  cases p <;> simp only[reduceCtorEq,Jt] at ha
  cases q <;> simp only[reduceCtorEq,Jt] at hb
  subst ha hb
  cases c with
  |true=>exact oneLt_str hQ
  |false=>exact kat_one _ _ (Z1I (show PySem.W.BoolBack Q (Z3F _) s from hQ))
variable {prog:Program}{w:World}
theorem Z3Y (Z:Atom)(h:Heap){vs:Lu_}(hv:∀ v∈vs,∃ k,Z.keyOf v=some k)(hk:∀ v₁ v₂ r,vs=v₁::v₂::r→keyKind' (v₁::v₂::r).toArray=pure oneType') :
  Sorts prog w h vs Z.O (fun p=>(Z.keyOf p.1).getD Z.dflt) (fun p=>∃ k,Z.keyOf p.1=some k) oneType':=by
 refine⟨fun v m=>hv v m,fun h2 s A E Q _ hQ=>?_,fun s _ A E x y Q gx gy hQ=>?_⟩
 ·match vs,h2,hk with
  |v₁::v₂::r,_,hk =>
   rw[hk v₁ v₂ r rfl]
   exact Z5 hQ
  |[v],h2,_=>exact absurd h2 (by simp)
  |[],h2,_=>exact absurd h2 (by simp)
 ·obtain⟨a,ha⟩:=gx
  obtain⟨b,hb⟩:=gy
  rw[keyLt'_oneType]
  rw[ha,hb] at hQ
  exact Z.lts true ha hb hQ
theorem sorts_strs (h:Heap){vs:Lu_}{ss:Ls_}(hS:StrsAre vs ss) :
  Sorts prog w h vs strAtom.O (fun p=>(strAtom.keyOf p.1).getD strAtom.dflt) (fun p=>∃ k,strAtom.keyOf p.1=some k) oneType' :=
 Z3Y strAtom h (fun v m=>by obtain⟨x,t,rfl⟩:=hS.all v m;exact⟨_,rfl⟩) fun v₁ v₂ r e=>keyKind_strs (by rw[← e];exact hS)
def IsPair (Y Z:Atom)(h:Heap)(v:Value)(k:Y.O.α×Z.O.α):Prop :=
 ∃ x o u r n,v=.ref x∧h.get? x=some o∧o.cls=.type "tuple"∧o.data=.seq #[u,r] n∧Y.keyOf u=some k.1∧Z.keyOf r=some k.2
open Classical in
noncomputable def pairKey (Y Z:Atom)(h:Heap)(v:Value):Y.O.α×Z.O.α:=if e:∃ k,IsPair Y Z h v k then e.choose else (Y.dflt,Z.dflt)
theorem pairKey_of {Y Z:Atom}{h:Heap}{v:Value}{k:Y.O.α×Z.O.α}(hk:IsPair Y Z h v k):pairKey Y Z h v=k:=by
 have e:∃ k,IsPair Y Z h v k:=⟨k,hk⟩
 unfold pairKey
 rw[dif_pos e]
 obtain⟨x,o,u,r,n,e1,e2,e3,e4,e5,e6⟩:=e.choose_spec
 obtain⟨x',o',u',r',n',f1,f2,f3,f4,f5,f6⟩:=hk
 have hx:x'=x:=by rw[f1] at e1;cases e1;rfl
 subst hx
 rw[f2] at e2
 cases e2
 rw[f4] at e4
 cases e4
 rw[f5] at e5
 rw[f6] at e6
 exact Dw (Jn e5).symm (Jn e6).symm
theorem Z7K {Y Z:Atom}{h h':Heap}(hE:Ext h h'):∀ {vs:Lu_},(∀ v∈vs,∃ k,IsPair Y Z h v k)→∃ fs,KatTups h' vs fs∧fs.length=vs.length∧∀ f∈fs,∃ k,Y.keyOf f=some k
 |[],_=>⟨[],.nil,rfl,fun _ q=>absurd q (by simp)⟩
 |v::vs,hv=>by
  obtain⟨fs,t,hl,hf⟩:=Z7K hE (vs:=vs) fun v m=>hv v (Z4 _ m)
  obtain⟨k,x,o,u,r,n,rfl,e2,e3,e4,e5,e6⟩:=hv v Z1
  refine⟨u::fs,KatTups.cons (hE _ _ e2) e3 e4 rfl t,by simp[hl],fun f m=>?_⟩
  rcases Zp.mp m with rfl|m
  ·exact⟨_,e5⟩
  ·exact hf f m
theorem sorts_pairs (Y Z:Atom)(h:Heap){vs:Lu_}(hv:∀ v∈vs,∃ k,IsPair Y Z h v k) :
  Sorts prog w h vs (lexOrd Y.O Z.O) (fun p=>pairKey Y Z h p.1) (fun p=>∃ k,IsPair Y Z h p.1 k) (tuples' true):=by
 refine⟨fun v m=>hv v m,fun h2 s A E Q hE hQ=>?_,fun s hE A E x y Q gx gy hQ=>?_⟩
 ·obtain⟨fs,t,hl,hf⟩:=Z7K hE hv
  refine kat_kind t (by lia) (T:=Y.T) (fun v m=>?_) Y.self ?_
  ·obtain⟨k,e⟩:=hf v m
   exact Y.ty _ _ v k e
  ·rw[Y.notTup]
   exact hQ
 ·obtain⟨⟨a,b⟩,hx⟩:=gx
  obtain⟨⟨a',b'⟩,hy⟩:=gy
  rw[pairKey_of hx,pairKey_of hy] at hQ
  obtain⟨x1,o,u,r,n,e1,e2,e3,e4,e5,e6⟩:=hx
  obtain⟨y1,o',u',r',n',f1,f2,f3,f4,f5,f6⟩:=hy
  dsimp only at e5 e6 f5 f6
  rw[e1,f1]
  refine kat_lt (hE _ _ e2) e4 (hE _ _ f2) f4 ?_
  show KatLex prog w A true false Q [(u,u'),(r,r')] 0 s
  refine kat_cons (Y.eqs e5 f5 fun c hc=>kat_go (fun ec=>?_) fun ec=>?_)
  ·have ea:a=a':=hc.mp ec
   subst ea
   refine kat_yes (kat_cons (Z.eqs e6 f6 fun c2 hc2=>kat_go (fun ec2=>?_) fun ec2=>?_))
   ·have eb:b=b':=hc2.mp ec2
    subst eb
    refine kat_yes (kat_nil ?_)
    have z:(lexOrd Y.O Z.O).blt (a,b) (a,b)=false:=(lexOrd Y.O Z.O).irrefl (a,b)
    rw[z] at hQ
    exact hQ
   ·refine kat_no (JP (Z.lts _ e6 f6 (Q:=Q) (E:=fun _ _=>False) ?_) (fun _ _ z=>z) fun _ _ z=>z)
    have z:(lexOrd Y.O Z.O).blt (a,b) (a,b')=Z.O.blt b b':=by
     show (Y.O.blt a a||(!Y.O.blt a a&&Z.O.blt b b'))=_
     rw[Y.O.irrefl];rfl
    rw[z] at hQ
    exact hQ
  ·refine kat_no (Y.lts _ e5 f5 ?_)
   have ne:a≠a':=fun z=>by rw[hc.mpr z] at ec;cases ec
   have z:(lexOrd Y.O Z.O).blt (a,b) (a',b')=Y.O.blt a a':=by
    show (Y.O.blt a a'||(!Y.O.blt a' a&&Z.O.blt b b'))=_
    cases q1:Y.O.blt a a' with
    |true=>rfl
    |false =>
     cases q2:Y.O.blt a' a with
     |true=>rfl
     |false=>exact absurd (Y.O.total _ _ q1 q2) ne
   rw[z] at hQ
   exact hQ
end Sg
namespace Sg
open PySem
structure Zcu (prog:Program)(w:World)(h:Heap)(a:Addr)(es:Ai_)(ep:Nat)(t:SetTable):Prop where
 obj:∃ o,h.get? a=some o∧o.ExactSet∧o.data=.set es ep t
 el:ElemsOf (YD prog w) es.toList
 few:es.size<scanBound
 fits:t.fits es.size=true
 led:t.led=!(w.params.followText "set-order")
 plain:es.size=0∨t.plain=false
structure BSet (prog:Program)(w:World)(h:Heap)(a:Addr)(es:Ai_)(ep:Nat)(t:SetTable):Prop where
 obj:∃ o,h.get? a=some o∧o.ExactSet∧o.data=.set es ep t
 few:es.size<scanBound
 fits:t.fits es.size=true
 led:t.led=!(w.params.followText "set-order")
 plain:es.size=0∨t.plain=false
theorem BSet.keep {prog:Program}{w:World}{h h':Heap}{a:Addr}{es:Ai_}{ep:Nat}{t:SetTable}(x:BSet prog w h a es ep t)(k:∀ o,h.get? a=some o→h'.get? a=some o):BSet prog w h' a es ep t :=
 ⟨let ⟨o,e,r⟩:=x.obj;⟨o,k o e,r⟩,x.few,x.fits,x.led,x.plain⟩
theorem Zcu.b {prog:Program}{w:World}{h:Heap}{a:Addr}{es:Ai_}{ep:Nat}{t:SetTable}(x:Zcu prog w h a es ep t):BSet prog w h a es ep t:=⟨x.obj,x.few,x.fits,x.led,x.plain⟩
noncomputable def txtOf:Value→Str
 |.str x _=>x
 |_=>⟨#[]⟩
noncomputable def txts (es:Ai_):Ls_:=es.toList.map fun e=>txtOf e.2
def TSetD (prog:Program)(w:World)(h:Heap)(a:Addr)(D:Ls_):Prop:=∃ es ep t,Zcu prog w h a es ep t∧(txts es).Perm D
theorem Zcu.keep {prog:Program}{w:World}{h h':Heap}{a:Addr}{es:Ai_}{ep:Nat}{t:SetTable}(x:Zcu prog w h a es ep t)(k:∀ o,h.get? a=some o→h'.get? a=some o):Zcu prog w h' a es ep t :=
 ⟨let ⟨o,e,r⟩:=x.obj;⟨o,k o e,r⟩,x.el,x.few,x.fits,x.led,x.plain⟩
theorem TSetD.keep {prog:Program}{w:World}{h h':Heap}{a:Addr}{D:Ls_}(x:TSetD prog w h a D)(k:∀ o,h.get? a=some o→h'.get? a=some o):TSetD prog w h' a D :=
 let ⟨es,ep,t,y,p⟩:=x;⟨es,ep,t,y.keep k,p⟩
theorem el_txt {prog:Program}{w:World}{l:List (Int×Value)}(h:ElemsOf (YD prog w) l):∀ e∈l,∃ u,e.2=.str (txtOf e.2) u:=by
 intro e m
 obtain⟨⟨k,hk,-⟩,-⟩:=h e m
 obtain⟨u,e2⟩:=MO hk
 rw[e2]
 exact⟨u,rfl⟩
noncomputable def Z3D (D:Ls_)(x:Str):Ls_:=if x∈D then D else D++[x]
noncomputable def metS (l:Ls_):Ls_:=l.foldl Z3D []
theorem Z7d {D:Ls_}(h:D.Nodup)(x:Str):(Z3D D x).Nodup:=by
 unfold Z3D
 split
 ·exact h
 ·rename_i n
  refine Wa.mpr ⟨h,by simp,fun a ha b hb=>?_⟩
  rw[Jf] at hb
  subst hb
  exact fun z=>n (z ▸ ha)
theorem ZbU {D:Ls_}{x y:Str}:y∈Z3D D x↔y∈D∨y=x:=by
 unfold Z3D
 split
 ·rename_i hm
  exact⟨.inl,fun z=>z.elim id fun e=>e ▸ hm⟩
 ·simp
theorem FE:∀ (l D:Ls_),D.Nodup→(l.foldl Z3D D).Nodup∧(∀ y,y∈l.foldl Z3D D↔y∈D∨y∈l)∧(l.foldl Z3D D).length≤D.length+l.length
 |[],D,h=>⟨h,fun y=>by simp,by simp⟩
 |x::l,D,h=>by
  have ih:=FE l (Z3D D x) (Z7d h x)
  refine⟨ih.1,fun y=>?_,?_⟩
  ·rw[G7,ih.2.1,ZbU,Zp,or_assoc]
  ·have z:(Z3D D x).length≤D.length+1:=by unfold Z3D;split <;> simp
   have:=ih.2.2
   rw[G7,Zl]
   lia
theorem metS_nodup (l:Ls_):(metS l).Nodup:=(FE l [] QM).1
theorem mem_metS {l:Ls_}{y:Str}:y∈metS l↔y∈l:=by
 have:=(FE l [] QM).2.1 y
 simpa [metS] using this
theorem metS_len (l:Ls_):(metS l).length≤l.length:=by
 have:=(FE l [] QM).2.2
 simpa [metS] using this
theorem Z99 (l:Ls_)(x:Str):metS (l++[x])=Z3D (metS l) x:=by
 unfold metS;rw[List.foldl_append];rfl
theorem Z7T (t:SetTable)(n:Nat):(t.orStandIn n).led=t.led:=by
 unfold SetTable.orStandIn
 split <;> rfl
theorem Zfa (t:SetTable)(es:Ai_)(h:Int)(x:Value):(layNew t es h x).2.1.led=t.led:=by
 unfold layNew
 split
 ·rename_i slot wd _
  show ((t.put slot).1.orStandIn _).led=t.led
  rw[Z7T]
  rfl
 ·rfl
theorem Z87 (t:SetTable)(es:Ai_)(n:Nat)(hp:t.plain=false):(relayAll t es n).2.1.led=t.led∧(relayAll t es n).2.1.plain=false:=by
 unfold relayAll
 split
 ·rename_i t' order he
  have e:t'.led=t.led∧t'.plain=t.plain:=by
   unfold Zaf Zcx at he
   simp only[Z7f,ZcB] at he
   cases ho:US (SetTable.sizeAbove n-1) (es.map (·.1)) with
   |none=>rw[ho] at he;cases he
   |some ow =>
    rw[ho] at he
    simp only[ob_,Jt,Ny] at he
    rw[← he.1]
    exact⟨rfl,rfl⟩
  dsimp only
  split
  ·exact⟨e.1,e.2.trans hp⟩
  ·exact⟨rfl,rfl⟩
 ·exact⟨rfl,rfl⟩
section
variable {prog:Program}{w:World}{A:Around}{E:Ps_}{s:Shared}
theorem Z0b {a:Addr}{es:Ai_}{ep:Nat}{t:SetTable}{es':Ai_}{t':SetTable}{Q:Unit→Shared→Prop}(x:Zcu prog w s.heap a es ep t)
  (el:ElemsOf (YD prog w) es'.toList) (few:es'.size<scanBound) (fits:t'.fits es'.size=true) (led:t'.led=t.led) (pl:t'.plain=false)
  (h:∀ h',Jl a s.heap h'→Zcu prog w h' a es' (ep+1) t'→Q () { s with heap:=h' }):wpAny (model prog w) A (storeSet a es' t') Q E s:=by
 obtain⟨o,ho,hex,hd⟩:=x.obj
 have z:=SetOf_store (knd:=YD prog w) (S':=fun k=>es'.toList.any fun e=>(YD prog w).is k e.2) ho hex hd el (fun k=>by rw[Z05]) few fits
 refine ZhP ho hd (h _ (Y0 s.heap a (Z51 es' t')) ⟨⟨_,z.1,hex,rfl⟩,el,few,fits,led.trans x.led,.inr pl⟩) (Nm few)
theorem Zcr {a:Addr}{D:Ls_}{x:Str}{tk:Tok}{Q:Bool→Shared→Prop}(hS:TSetD prog w s.heap a D)(room:D.length+1<scanBound)
  (h:∀ h' b,Jl a s.heap h'→TSetD prog w h' a (Z3D D x)→Q b { s with heap:=h',toks:=s.toks+1 }):wpAny (model prog w) A (setAdd a (.str x tk)) Q E s:=by
 obtain⟨es,ep,t,T,P⟩:=hS
 unfold setAdd
 refine Y5 ?_
 refine Z0 (Zig ?_)
 have hn:es.size=D.length:=by
  have:=P.length_eq
  unfold txts at this
  simpa using this
 have T':Zcu prog w ({ s with toks:=s.toks+1 }:Shared).heap a es ep t:=T
 obtain⟨o,ho,hex,hd⟩:=T.obj
 have hkey:(YD prog w).is x (.str x tk)=true:=by show UF x (.str x tk)=true;simp[UF]
 have hin:(∃ e∈es.toList,(YD prog w).is x e.2=true)↔x∈D:=by
  rw[← P.mem_iff]
  unfold txts
  rw[ZE]
  constructor
  ·rintro⟨e,m,q⟩
   obtain⟨u,e2⟩:=MO q
   exact⟨e,m,by rw[e2];rfl⟩
  ·rintro⟨e,m,q⟩
   obtain⟨u,e2⟩:=el_txt T.el e m
   refine⟨e,m,?_⟩
   rw[e2,q]
   show UF x (.str x u)=true
   simp[UF]
 unfold setAddHashed setAddHashedIn
 refine Y5 (Z0 (Yj (s:={ s with toks:=s.toks+1 }) ho hd T.fits ?_))
 dsimp only
 rw[byScan_of rfl T.few T.el]
 simp only[↓reduceIte]
 unfold setAddByScan
 refine Z0 (Z0 (Gk (Z0 (wpAny_setScan_of (s:={ s with toks:=s.toks+1 }) hkey ho hd T.fits T.el ?_))))
 cases hr:List.findIdx? (fun e=>(YD prog w).is x e.2) es.toList with
 |some j =>
  dsimp only
  obtain⟨hj,hpj,-⟩:=List.findIdx?_eq_some_iff_getElem.mp hr
  have hm:x∈D:=hin.mp ⟨es.toList[j],Z04 hj,hpj⟩
  refine Z5 (Z5 ?_)
  refine h s.heap _ (Z3K a s.heap) ⟨es,ep,t,T,?_⟩
  unfold Z3D
  rw[if_pos hm]
  exact P
 |none =>
  dsimp only
  have hm:x∉D:=fun z=>by
   obtain⟨e,m,q⟩:=hin.mpr z
   have:=List.findIdx?_eq_none_iff.mp hr e m
   rw[q] at this
   cases this
  have hp:=layNew_perm t es (hashStr w x) (.str x tk)
  have hf:=layNew_fits t es (hashStr w x) (.str x tk)
  have hl:=Zfa t es (hashStr w x) (.str x tk)
  have hgw:∀ (b:Bool) (s₁:Shared) (Q':Unit→Shared→Prop),Q' () s₁→wpAny (model prog w) A (match b with|true=>rule "set.scan.the-table-gave-way" | false=>pure ()) Q' E s₁ :=
   fun b s₁ Q' q=>by
    cases b
    ·exact Z5 q
    ·exact Gk q
  generalize hL:layNew t es (hashStr w x) (.str x tk)=L at hp hf hl ⊢
  obtain⟨es1,t1,wd,gave⟩:=L
  dsimp only at hp hf hl ⊢
  rw[YO] at hp
  have el1:ElemsOf (YD prog w) es1.toList:=(T.el.push hkey rfl).perm hp
  have sz1:es1.size=es.size+1:=by
   have:=hp.length_eq
   simpa using this
  have few1:es1.size<scanBound:=by lia
  have P1:(txts es1).Perm (Z3D D x):=by
   unfold Z3D txts
   rw[if_neg hm]
   refine (hp.map _).trans ?_
   rw[JX]
   exact P.append_right _
  refine Z0 (hgw _ _ _ ?_)
  have tail:∀ (t2:SetTable),t2.fits es1.size=true→t2.led=t.led→t2.plain=false →
    wpAny (model prog w) A (do
     storeSet a es1 t2
     if (!wd&&t2.tooFull)=true then do
       (match (relayAll t2 es1 (GQ es1.size)).2.2 with|true=>rule "set.scan.the-table-gave-way" | false=>pure ())
       storeSet a (relayAll t2 es1 (GQ es1.size)).1 (relayAll t2 es1 (GQ es1.size)).2.1
       pure (some true)
      else pure (some true)) (fun r s'=>wpAny (model prog w) A (match r with|some added=>pure added|none=>setAddHashedIn a (.str x tk) ((YD prog w).hash x) 99999) Q E s') E { s with toks:=s.toks+1 }:=by
   intro t2 f2 l2 p2
   refine Z0 (Z0b (s:={ s with toks:=s.toks+1 }) T' el1 few1 f2 l2 p2 fun h1 sb1 T1=>?_)
   split
   ·have rp:=relayAll_perm t2 es1 (GQ es1.size)
    have rf:=relayAll_fits t2 es1 (GQ es1.size)
    have rl:=Z87 t2 es1 (GQ es1.size) p2
    have sz2:(relayAll t2 es1 (GQ es1.size)).1.size=es1.size:=by
     have:=rp.length_eq
     simpa using this
    refine Z0 (hgw _ _ _ ?_)
    refine Z0 (Z0b (s:={ s with heap:=h1,toks:=s.toks+1 }) T1 (el1.perm rp) (by lia) rf rl.1 rl.2 fun h2 sb2 T2=>?_)
    exact Z5 (Z5 (h h2 _ (sb1.trans sb2) ⟨_,_,_,T2,(rp.map _).trans P1⟩))
   ·exact Z5 (Z5 (h h1 _ sb1 ⟨_,_,_,T1,P1⟩))
  by_cases hpl:t1.plain=true
  ·rw[if_pos hpl]
   refine Z0 ?_
   rw[hashByValue_scannable 8 rfl]
   refine Z5 ?_
   have e:plainKind (Fc x tk)=false:=rfl
   rw[e]
   exact tail { t1 with plain:=false } (SetTable.fits_plain_off hf) hl rfl
  ·rw[if_neg hpl]
   refine Z0 (Z5 ?_)
   simp only[↓reduceIte]
   exact tail t1 hf hl (by simpa using hpl)
end
end Sg
namespace Sg
open PySem PyProof.Rows
section
variable {prog:Program}{w:World}{A:Around}{R:Result→Shared→Prop}
theorem Z73 {I l S:Addr}{items:Au_}{ss:Ls_}(hh:A.in1.handled=none)(hlI:l≠I)(hSI:S≠I)(hSl:S≠l)(hS:StrsAre items.toList ss)(few:ss.length+1<scanBound) :
  ∀ (k i:Nat) (s:Shared),ss.length-i=k→i≤ss.length→s.heap.IsListIter I l i→s.heap.IsList l items→TSetD prog w s.heap S (metS (ss.take i)) →
   (∀ h' tk,(∀ b o,b≠S→b≠I→s.heap.get? b=some o→h'.get? b=some o)→TSetD prog w h' S (metS ss)→R (.ok (.ret .none)) { s with heap:=h',toks:=tk }) →
   codeAny (model prog w) A (.builtin "set.update.loop" ⟨[.ref S,.ref I],[]⟩) R s:=by
 have W:=Z3E (prog:=prog) (w:=w) (A:=A.in1) hh I l hlI items
 have hlen:items.size=ss.length:=by
  have:∀ {vs:Lu_} {us:Ls_},StrsAre vs us→vs.length=us.length:=by
   intro vs us z
   induction z with
   |nil=>rfl
   |cons _ _ _ ih=>rw[Zl,Zl,ih]
  rw[← this hS,Zm]
 intro k
 induction k with
 |zero =>
  intro i s hk hi it hl T hR
  have e:i=ss.length:=by lia
  subst e
  rw[U5] at T
  refine Yf YY ?_
  rw[Jy JE _]
  show wpAny _ A.in1 (pyNext (.ref I)>>=_) _ _ s
  refine Z0 (W.done s _ _ (by rw[hlen];exact⟨it,hl⟩) fun h' tk kp=>?_)
  show wpAny _ A.in1 (ret YN) _ _ _
  refine Z5 (hR h' tk (fun b o _ hb e=>kp b o (by simp[hb]) e) (T.keep fun o e=>kp S o (by simp[hSI]) e))
 |succ k ih =>
  intro i s hk hi it hl T hR
  have hlt:i<ss.length:=by lia
  refine Yf YY ?_
  rw[Jy JE _]
  show wpAny _ A.in1 (pyNext (.ref I)>>=_) _ _ s
  refine Z0 (W.item i s _ _ (by lia) ⟨it,hl⟩ fun v h1 tk1 hv st1 kp=>?_)
  obtain⟨it1,hl1⟩:=st1
  have hvs:∃ u,v=.str ss[i] u:=by
   have hz:∀ {vs:Lu_} {us:Ls_},StrsAre vs us→∀ (i:Nat) (v:Value) (hi:i<us.length),vs[i]?=some v→∃ u,v=.str us[i] u:=by
    intro vs us z
    induction z with
    |nil=>intro i v hi;exact absurd hi (by simp)
    |cons x t _ ih =>
     intro i v hi e
     cases i with
     |zero =>
      simp only[gz_,Jt] at e
      exact⟨t,e.symm⟩
     |succ i =>
      simp only[gs_] at e
      simp only[List.getElem_cons_succ]
      exact ih i v (by simpa using hi) e
   exact hz hS i v hlt (by rw[J0];exact hv)
  obtain⟨u,rfl⟩:=hvs
  show wpAny _ A.in1 (holding [Fc ss[i] u] (setAdd S (.str ss[i] u))>>=_) _ _ _
  have T1:TSetD prog w h1 S (metS (ss.take i)):=T.keep fun o e=>kp S o (by simp[hSI]) e
  refine Z0 (Y5 (Zcr (s:={ s with heap:=h1,toks:=tk1 }) T1 ?_ fun h2 b sb T2=>?_))
  ·have:=metS_len (ss.take i)
   rw[ZC] at this
   lia
  ·have e3:Z3D (metS (ss.take i)) ss[i]=metS (ss.take (i+1)):=by
    rw[← Z99]
    congr 1
    rw[Ba,Za hlt]
    rfl
   rw[e3] at T2
   have x2:∀ b o,b≠S→h1.get? b=some o→h2.get? b=some o:=fun b o hb e=>by rw[sb.2 b hb];exact e
   refine Z5 ⟨UZ JE _,ih (i+1) { s with heap:=h2,toks:=tk1+1 } (by lia) hlt
    (it1.at fun o e=>x2 I o (GR hSI) e) (hl1.at fun o e=>x2 l o (GR hSl) e) T2 fun h3 tk3 kp3 T3=>?_⟩
   exact hR h3 tk3 (fun b o hb hb2 e=>kp3 b o hb hb2 (x2 b o hb (kp b o (by simp[hb2]) e))) T3
end
section
variable {prog:Program}{w:World}{A:Around}{E:Ps_}{s:Shared}
theorem ZeX {a:Value}{Q₁:Ps_}
  (h:Q₁ (.ref s.heap.objs.size) { s with heap:=s.heap.push { cls:=.type "set",dict:=none,data:=.set #[] 0 (.fresh 0 0 (!(w.params.followText "set-order"))) } }) :
  codeAny (model prog w) A (.call (.builtin "set.__new__") ⟨[.type "set",a],[]⟩) (wants Q₁ E) s:=by
 refine ZjA ?_
 show wpAny _ A.in1 (do checkBuiltinCall "set.__new__" ⟨[.type "set",a],[]⟩;again (.builtin "set.__new__" ⟨[.type "set",a],[]⟩)) _ _ s
 refine Z0 (CN (F.newCall_set_1 a) (Z5 ⟨UZ Zid _,Yf F.entry_set_new ?_⟩))
 rw[Jy Zid _]
 unfold Builtin.«set.__new__» Builtin.Frozenset.newClass
 have hsub':=sub_set_self
 obtain⟨hp,g,d,tk,os⟩:=s
 dsimp only
 wp_walk
 refine NC (Z5 ?_)
 dsimp only
 simp only[newObj]
 exact Z0 (wpAny_alloc (Z5 (Z5 h)))
noncomputable abbrev Ms (w:World):Obj:={ cls:=.type "set",dict:=none,data:=.set #[] 0 (.fresh 0 0 (!(w.params.followText "set-order"))) }
set_option maxHeartbeats 8000000 in
theorem DW {l:Addr}{T:String}{odict:Option Addr}{odata:Data}{oslots:_}{Fin:Heap→Prop}{Q:Ps_}(hol:s.heap.get? l=some { cls:=.type T,dict:=odict,data:=odata,slots:=oslots })
  (no1:isSubtype (.type T) (.type "set")=pure false) (no2:isSubtype (.type T) (.type "frozenset")=pure false) (no3:(Yb T == Yb "dict")=false)
  (loop:∀ (A':Around) (E':Ps_) (Q':Ps_),A'.handled=A.handled→A'.units≤A.units+2 →
   (∀ (h':Heap) (tk:Nat),Fin h'→(∀ b o,s.heap.get? b=some o→h'.get? b=some o)→Q' .none { s with heap:=h',toks:=tk }) →
   wpAny (model prog w) A' (pyIter (.ref l)) (fun it s2=>wpAny (model prog w) A' (runValue (.builtin "set.update.loop" ⟨[.ref s.heap.objs.size,it],[]⟩)) Q' E' s2) E' { s with heap:=s.heap.push (Ms w) })
  (h:∀ (h':Heap) (tk:Nat),Fin h'→(∀ b o,s.heap.get? b=some o→h'.get? b=some o)→Q (.ref s.heap.objs.size) { s with heap:=h',toks:=tk }) :
  wpAny (model prog w) A (call (.type "set") [.ref l]) Q E s:=by
 obtain⟨c,tl,hmro⟩:=NN.mro
 have made:=NN.made
 have subs:=NN.sub
 refine ZhT (ZjA ?_)
 show wpAny _ _ (callAny (.type "set") _) _ _ _
 refine Z5 ⟨Code.quiet_builtin _ (by decide +kernel),Yf F.entry_type_call ?_⟩
 rw[Around.under_plain (weight_type_call_type "set" [.ref l] []) rfl]
 have noType:=NN.notType
 have creates:=NN.canCreate
 have tcall:=F.typeCall_set_1 (.ref l)
 repeat (any_goals (first|assumption|wp_step))
 refine BY (ZeX (a:=.ref l) (E:=E) (Q₁:=fun obj s₁=>obj=.ref s.heap.objs.size∧s₁={ s with heap:=s.heap.push (Ms w) }) ⟨rfl,rfl⟩) fun r s₁ hr=>?_
 cases r with
 |error e=>exact hr
 |ok fl =>
  cases fl with
  |ret obj =>
   obtain⟨rfl,rfl⟩:=hr
   have oS:(s.heap.push (Ms w)).get? s.heap.objs.size=some (Ms w):=Zu _ rfl
   have tS:Shared.TypeIs { s with heap:=s.heap.push (Ms w) } (.ref s.heap.objs.size) "set":=⟨_,oS,rfl⟩
   have look:=NN.init.lookup
   have bnd:=NN.init.bind (.ref s.heap.objs.size)
   repeat (any_goals (first|assumption|wp_step))
   refine BY (Zfq (R:=wants (fun r s₂=>r=.none∧∃ h' tk,s₂={ s with heap:=h',toks:=tk }∧Fin h' ∧
     ∀ b o,s.heap.get? b=some o→h'.get? b=some o) E) NN.init.plain F.entry_set_init (check_set_init_1 tS ?_)) fun r₂ s₂ hr₂=>?_
   ·have hol':(s.heap.push (Ms w)).get? l=some { cls:=.type T,dict:=odict,data:=odata,slots:=oslots }:=Z2 _ hol
    unfold Builtin.«set.__init__» noKeywords Builtin.Frozenset.updateFrom
    generalize hPI:pyIter=PI
    wp_walk
    subst hPI
    refine JP (loop _ _ (fun r s₂=>r=.none∧∃ h' tk,s₂={ s with heap:=h',toks:=tk }∧Fin h'∧∀ b o,s.heap.get? b=some o→h'.get? b=some o) (by simp) ?hu fun h' tk f k=>⟨rfl,h',tk,rfl,f,k⟩) (fun it s2 hq=>Z0 (JP hq (fun r s3 hr3=>?fin) fun _ _ e=>e)) fun _ _ e=>e
    case hu=>exact Zc _
    case fin =>
     refine Z5 ?_
     obtain⟨rfl,h',tk,rfl,f,k⟩:=hr3
     show wpAny _ _ (ret YN) _ _ _
     exact Z5 ⟨rfl,h',tk,rfl,f,k⟩
   ·cases r₂ with
    |error e=>exact hr₂
    |ok fl₂ =>
     cases fl₂ with
     |ret r =>
      obtain⟨rfl,h',tk,rfl,T,kp⟩:=hr₂
      repeat (any_goals (first|assumption|wp_step))
      exact h _ _ T kp
     |_=>exact hr₂.elim
  |_=>exact hr.elim
theorem call_set_texts {l:Addr}{items:Au_}{ss:Ls_}{Q:Ps_}(hh:A.handled=none)(hl:s.heap.IsList l items)(hS:StrsAre items.toList ss)(few:ss.length+1<scanBound)
  (h:∀ (h':Heap) (tk:Nat),TSetD prog w h' s.heap.objs.size (metS ss)→(∀ b o,s.heap.get? b=some o→h'.get? b=some o)→Q (.ref s.heap.objs.size) { s with heap:=h',toks:=tk }) :
  wpAny (model prog w) A (call (.type "set") [.ref l]) Q E s:=by
 have hl1:(s.heap.push (Ms w)).IsList l items:=hl.push _
 obtain⟨⟨ocls,odict,odata,oslots⟩,hol,cl,nl,dl⟩:=hl
 simp only at cl dl
 subst cl;subst dl
 refine DW hol F.sub_list_set F.sub_list_frozenset (by decide) (fun A' E' Q' hA _ hQ=>D1 hl1 (FV ?_)) h
 have ls:l<s.heap.objs.size:=ZB hol
 have zs:(s.heap.push (Ms w)).objs.size=s.heap.objs.size+1:=Nj ..
 refine Z73 (by simp[hA,hh]) (by rw[zs];exact ZI (Yg ls)) (by rw[zs];exact ZI (U9 _)) (NA ls) hS few (ss.length-0) 0 _ rfl (Jv _)
  ⟨_,Zu _ rfl,rfl,rfl⟩ (hl1.push _) ?t0 fun h' tk kp T=>hQ h' tk T fun b o e=>?fin
 case t0 =>
  refine⟨#[],0,_,⟨⟨_,Z2 _ (Zu _ rfl),⟨rfl,rfl,rfl⟩,rfl⟩,fun e m=>absurd m (by simp),by decide,rfl,rfl,.inl rfl⟩,?_⟩
  exact U6 _
 case fin =>
  have hb:b<s.heap.objs.size:=ZB e
  exact kp b o (ZI hb) (by rw[zs];exact ZI (Yg hb)) (Z2 _ (Z2 _ e))
end
end Sg
namespace Sg
open PySem PyProof.Rows
theorem CY:entryFor table "set.__iter__"=some Builtin.«frozenset.__iter__» :=
 Zk4 (id':="frozenset.__iter__") (by kernel_rfl) (by first|rfl|decide +kernel) (by decide +kernel) (by kernel_rfl)
theorem Ud:Slot "set_iterator" "__next__" "set_iterator.__next__":=.of (owner:="set_iterator") (n:="__next__") (by rw[Z5g,BZ];kernel_rfl) (by decide +kernel) (by decide +kernel) (by decide +kernel) (by first|exact .inl (by decide +kernel)|exact .inr (by decide +kernel)) (by rw[Z7p];kernel_rfl)
theorem W2:entryFor table "set_iterator.__next__"=some Builtin.«set_iterator.__next__»:=entryFor_of_tree (by kernel_rfl)
theorem Ww (a:Value):argsOk "set_iterator.__next__" ⟨[a],[]⟩:=by unfold argsOk;kernel_rfl
theorem ZdQ:typeLookup (.type "set") "__len__"=pure (some (.builtin "set.__len__")):=by rw[Z5g,BZ];kernel_rfl
theorem Cb {α:Type}:∀ (l:List α) (i:Nat) (h:i<l.length),(l[i]::l.eraseIdx i).Perm l
 |[],i,h=>absurd h (by simp)
 |x::l,0,h=>U6 _
 |x::l,i+1,h=>by
  have h':i<l.length:=by simpa using h
  show (l[i]::x::l.eraseIdx i).Perm (x::l)
  exact (Zal x l[i] _).trans ((Cb l i h').cons x)
section
variable {prog:Program}{w:World}{A:Around}{E:Ps_}{s:Shared}
theorem Z1Z {M:Model}{src:Source}{n:Nat}{Q:Nat→Shared→Prop}(hn:n≠0)(h:∀ i,i<n→Q i { s with drawn:=s.drawn.bump src }):wpAny M A (choose src n) Q E s:=by
 intro Γ p hΓ
 show Sem.wp M Γ (.choose src n .pure) _ _ _ _
 rw[Sem.wp_choose]
 refine⟨hn,?_⟩
 exact h _ (B5 _ (NP hn))
theorem Wg {M:Model}{α:Type}:∀ (n:Nat) (xs:List α) (s:Shared) (Q:List α→Shared→Prop),n=xs.length→(∀ ys d,ys.Perm xs→Q ys { s with drawn:=d })→wpAny M A (drawOrder n xs) Q E s
 |0,xs,s,Q,e,h=>by
  have:xs=[]:=Gr e.symm
  subst this
  exact Z5 (h [] s.drawn (U6 _))
 |n+1,[],s,Q,e,h=>by cases e
 |n+1,x::xs,s,Q,e,h=>by
  show wpAny M A (choose .order (x::xs).length>>=_) Q E s
  refine Z0 (Z1Z (by simp) fun i hi=>?_)
  rw[Za hi]
  dsimp only
  refine Z0 (Wg n ((x::xs).eraseIdx i) _ _ ?_ fun ys d hp=>Z5 ?_)
  ·rw[Z1S hi]
   simp only[Zl] at e ⊢
   lia
  ·have hq:((x::xs)[i]::ys).Perm (x::xs):=(Zam _ hp).trans (Cb _ i hi)
   exact h _ d hq
theorem Z8t {α:Type}(next:Nat→Nat):∀ (f k:Nat) (left:List α) (out:Array α),f=left.length→(pickOrder.go next f k left out).toList.Perm (out.toList++left)
 |0,k,left,out,e=>by
  have:left=[]:=Gr e.symm
  subst this
  simp[pickOrder.go]
 |f+1,k,left,out,e=>by
  unfold pickOrder.go
  have hlt:next k%left.length<left.length:=B5 _ (by lia)
  rw[Za hlt]
  dsimp only
  refine (Z8t next f (k+1) _ _ (by rw[Z1S hlt];lia)).trans ?_
  rw[YO,Z8]
  refine Jz _ ?_
  exact Cb _ _ hlt
theorem Ca {α:Type}(next:Nat→Nat)(xs:Array α):(pickOrder next xs).toList.Perm xs.toList:=by
 have:=Z8t next xs.size 0 xs.toList #[] (by simp)
 simpa [pickOrder] using this
end
end Sg
namespace Sg
open PySem PyProof.Rows
def U4 (h:Heap)(it:Addr)(first:Value)(i n ep:Nat)(a:Addr):Prop :=
 ∃ o,h.get? it=some o∧o.cls=.type "set_iterator"∧o.data=.fields #[first,.int i 0,.ref a,.int n 0,.int ep 0]
section
variable {prog:Program}{w:World}{A:Around}{E:Ps_}{s:Shared}{it a:Addr}{first:Value}{i n ep:Nat}{es:Ai_}{t:SetTable}
theorem U4.ty (h:U4 s.heap it first i n ep a):s.TypeIs (.ref it) "set_iterator":=let ⟨o,h1,h2,_⟩:=h;⟨o,h1,h2⟩
theorem U4.keep {h h':Heap}(x:U4 h it first i n ep a)(k:∀ o,h.get? it=some o→h'.get? it=some o):U4 h' it first i n ep a:=let ⟨o,h1,r⟩:=x;⟨o,k o h1,r⟩
theorem U4.field {h:Heap} (x:U4 h it first i n ep a) (f:Array Value→Array Value):∃ o,(h.update it (Obj.mapFields f)).get? it=some o∧o.cls=.type "set_iterator"∧o.data=.fields (f #[first,.int i 0,.ref a,.int n 0,.int ep 0]):=by
 obtain⟨o,ho,hc,hd⟩:=x
 exact⟨_,Yx _ ho (Dx (GF hd _)),(CT ..).trans hc,by rw[GF hd]⟩
theorem Z5k {Q:Option Value→Shared→Prop}{s':Shared}(hh:A.handled=none)(hs:By it s.heap s'.heap)(hrest:s'={ s with heap:=s'.heap })
  (hQ:∀ h',By it s.heap h'→Q none { s with heap:=h' }) {P:Fin→Shared→Prop} :
  wpAny (model prog w) A.in1 (do raiseNew (α:=Fin) (← newExc (.type "StopIteration") [])) P (fun e s₂=>wpAny (model prog w) A (do if ← isInstance e (.type "StopIteration") then pure none else throw e) Q E s₂) s':=by
 refine Z0 ?_
 simp only[newExc,newTuple]
 refine Z0 (JC ?_ (by size_fits))
 refine Z0 (m:=firstArgMember _ _) (CN (a:=YN) (by first|rfl|(simp only[firstArgMember];rfl)) ?_)
 refine JC ?_ (by size_fits)
 simp only[raiseNew]
 refine Z0 (Zk8 ?_)
 rw[show A.in1.handled=none from hh]
 refine Z0 (Z5 (wpAny_throw ?_))
 refine Z0 (Zih (T:="StopIteration") (b:=true) ⟨_,Zu _ rfl,rfl⟩ isSubtype_stop ?_)
 rw[hrest]
 exact Z5 (hQ _ ((hs.push _).push _))
theorem FA {slot:Nat}{r:Option (Value×Nat)}{Q:Option Value→Shared→Prop}(hh:A.handled=none)(hit:U4 s.heap it (.int slot 0) i n ep a)(T:BSet prog w s.heap a es ep t)(hn:es.size=n)
  (hN:∀ (A':Around) (E':Ps_) (Q':Option (Value×Nat)→Shared→Prop),Q' r s→wpAny (model prog w) A' (setNext a slot i ep) Q' E' s)
  (hS:∀ x nxt,r=some (x,nxt)→∀ h',U4 h' it (.int nxt 0) (i+1) n ep a→Jl it s.heap h'→Q (some x) { s with heap:=h' })
  (hE:r=none→∀ h',By it s.heap h'→Q none { s with heap:=h' }):wpAny (model prog w) A (pyNext (.ref it)) Q E s:=by
 obtain⟨o,ho,hc,hd⟩:=id hit
 obtain⟨oS,hoS,hex,hdS⟩:=T.obj
 unfold pyNext
 refine Z0 (Z09 (Us (name:=ZY "__next__") hit.ty Ud (YQ Ud hit.ty W2 ?_ (Ww _))))
 refine Z0 (Z5 ?_)
 refine Z0 (ZjK ho hd ?_)
 show wpAny _ _ (setEntries a>>=_) _ _ s
 refine Z0 (CM hoS hdS T.fits ?_)
 rw[if_neg (by rw[hn];simp)]
 show wpAny _ _ (setNext a ((slot:Int).toNat) ((i:Int).toNat) ((ep:Int).toNat)>>=_) _ _ s
 refine Z0 (hN _ _ _ ?_)
 cases r with
 |none =>
  show wpAny _ _ (setField (.ref it) 2 .none>>=_) _ _ s
  refine Z0 (GH ho hd (by simp) ?_)
  exact Z5k (s:=s) hh (Y0 ..).extBut rfl (hE rfl)
 |some p =>
  obtain⟨x,nxt⟩:=p
  show wpAny _ _ (setField (.ref it) 0 (rawInt nxt)>>=_) _ _ s
  refine Z0 (GH ho hd (by simp) ?_)
  obtain⟨o1,ho1,hc1,hd1⟩:=hit.field (fun vs=>vs.setIfInBounds 0 (rawInt nxt))
  refine Z0 (GH ho1 hd1 (by simp) ?_)
  refine Z5 ⟨_,rfl,Z5 (hS x nxt rfl _ ?_ ((Y0 ..).trans (Y0 ..)))⟩
  exact⟨_,Yx _ ho1 (Dx (GF hd1 _)),(CT ..).trans hc1,by rw[GF hd1];simp[rawInt]⟩
theorem Z0u {P:Addr}{pl:List Nat}{Q:Option Value→Shared→Prop}(hh:A.handled=none)(hit:U4 s.heap it (.ref P) i n ep a)(T:BSet prog w s.heap a es ep t)(hn:es.size=n)
  {oP:Obj} {nP:Nat} (hP:s.heap.get? P=some oP) (dP:oP.data=.seq (pl.map fun (k:Nat)=>D4 (k:Int) 0).toArray nP)
  (hS:∀ k e,pl[i]?=some k→es[k]?=some e→∀ h',U4 h' it (.ref P) (i+1) n ep a→Jl it s.heap h'→Q (some e.2) { s with heap:=h' })
  (hin:∀ k∈pl,k<es.size)
  (hE:pl[i]?=none→∀ h',By it s.heap h'→Q none { s with heap:=h' }):wpAny (model prog w) A (pyNext (.ref it)) Q E s:=by
 obtain⟨o,ho,hc,hd⟩:=id hit
 obtain⟨oS,hoS,hex,hdS⟩:=T.obj
 unfold pyNext
 refine Z0 (Z09 (Us (name:=ZY "__next__") hit.ty Ud (YQ Ud hit.ty W2 ?_ (Ww _))))
 refine Z0 (Z5 ?_)
 refine Z0 (ZjK ho hd ?_)
 show wpAny _ _ (setEntries a>>=_) _ _ s
 refine Z0 (CM hoS hdS T.fits ?_)
 rw[if_neg (by rw[hn];simp)]
 show wpAny _ _ (seqItems? (.ref P)>>=_) _ _ s
 refine Z0 (GI hP dP ?_)
 dsimp only
 have eg:(pl.map fun (k:Nat)=>D4 (k:Int) 0).toArray[(i:Int).toNat]?=(pl[i]?).map fun (k:Nat)=>D4 (k:Int) 0:=by simp
 rw[eg]
 cases hp:pl[i]? with
 |none =>
  show wpAny _ _ (setField (.ref it) 0 (rawInt 0)>>=_) _ _ s
  refine Z0 (GH ho hd (by simp) ?_)
  obtain⟨o1,ho1,hc1,hd1⟩:=hit.field (fun vs=>vs.setIfInBounds 0 (rawInt 0))
  refine Z0 (GH ho1 hd1 (by simp) ?_)
  exact Z5k (s:=s) hh ((Y0 ..).trans (Y0 ..)).extBut rfl (hE hp)
 |some k =>
  have hk:k<es.size:=hin k (ZZ hp)
  show wpAny _ _ (setNextDrawn a ((k:Int).toNat) ((ep:Int).toNat)>>=_) _ _ s
  unfold setNextDrawn
  refine Z0 (Z0 (Yj hoS hdS T.fits ?_))
  dsimp only
  rw[if_neg (by simp)]
  have ek:es[(k:Int).toNat]?=some es[k]:=by simp[hk]
  rw[ek]
  refine Z5 ?_
  refine Z0 (GH ho hd (by simp) ?_)
  refine Z5 ⟨_,rfl,Z5 (hS k es[k] hp (by simp[hk]) _ ?_ (Y0 ..))⟩
  obtain⟨o1,ho1,hc1,hd1⟩:=hit.field (fun vs=>vs.setIfInBounds 1 (rawInt ((i:Int)+1)))
  exact⟨o1,ho1,hc1,by rw[hd1];simp[rawInt]⟩
end
end Sg
namespace Sg
open PySem PyProof.Rows
theorem Wi:Slot "set_iterator" "__iter__" "set_iterator.__iter__":=.of (owner:="set_iterator") (n:="__iter__") (by rw[Z5g,BZ];kernel_rfl) (by decide +kernel) (by decide +kernel) (by decide +kernel) (by first|exact .inl (by decide +kernel)|exact .inr (by decide +kernel)) (by rw[Z7p];kernel_rfl)
theorem Fo:entryFor table "set_iterator.__iter__"=some Builtin.«dict_keyiterator.__iter__» :=
 Zk4 (id':="dict_keyiterator.__iter__") (by kernel_rfl) (by first|rfl|decide +kernel) (by decide +kernel) (by kernel_rfl)
theorem CF (a:Value):argsOk "set_iterator.__iter__" ⟨[a],[]⟩:=by unfold argsOk;kernel_rfl
section
variable {prog:Program}{w:World}{A:Around}{E:Ps_}{s:Shared}{it a:Addr}{first:Value}{i n ep:Nat}{es:Ai_}{t:SetTable}
theorem Ci {Q:Ps_}(hit:U4 s.heap it first i n ep a)(h:Q (.ref it) s):wpAny (model prog w) A (pyIter (.ref it)) Q E s:=by
 refine ZhS hit.ty Wi (YQ Wi hit.ty Fo ?_ (CF _))
 show wpAny _ _ (ret (.ref it)) _ _ s
 exact Z5 ⟨_,rfl,"set_iterator",_,hit.ty,Ud.lookup,h⟩
theorem BG {slot given:Nat} {Q:Option (Value×Nat)→Shared→Prop} (hb:w.params.followText "set-order"=true) (T:BSet prog w s.heap a es ep t)
  (h:Q (((pickOrder (w.params.setOrder a ep) es)[given]?).map fun e=>(e.2,slot)) s):wpAny (model prog w) A (setNext a slot given ep) Q E s:=by
 obtain⟨o,ho,hex,hd⟩:=T.obj
 unfold setNext
 refine Z0 (Yj ho hd T.fits ?_)
 dsimp only
 refine Z0 ?_
 unfold setsByText
 refine Z0 (NC (Z5 ?_))
 have hb':(⟨(model prog w).prog,(model prog w).w.params⟩:Setting).params.followText "set-order"=true:=hb
 rw[hb',if_pos rfl,if_neg (by simp)]
 refine Z0 ?_
 unfold setWalk
 refine Z0 (Yj ho hd T.fits ?_)
 dsimp only
 refine Z0 ?_
 unfold setsByText
 refine Z0 (NC (Z5 ?_))
 rw[hb',if_pos rfl]
 refine Z0 (NC (Z5 ?_))
 exact Z5 h
theorem FZ {slot given:Nat} {Q:Option (Value×Nat)→Shared→Prop} (hb:w.params.followText "set-order"=false) (T:BSet prog w s.heap a es ep t) (h1:es.size≤1)
  (h:Q (match es[U8 t.place slot]?,t.place[U8 t.place slot]? with|some (_,x),some j=>some (x,j+1)|_,_=>none) s):wpAny (model prog w) A (setNext a slot given ep) Q E s:=by
 obtain⟨o,ho,hex,hd⟩:=T.obj
 unfold setNext
 refine Z0 (Yj ho hd T.fits ?_)
 dsimp only
 refine Z0 ?_
 unfold setsByText
 refine Z0 (NC (Z5 ?_))
 have hb':(⟨(model prog w).prog,(model prog w).w.params⟩:Setting).params.followText "set-order"=false:=hb
 have hl:t.led=true:=by rw[T.led,hb];rfl
 rw[hb',if_neg (by simp)]
 have hdr:(!t.plain&&decide (es.size > 1))=false:=by
  have:¬ es.size > 1:=by lia
  simp[this]
 show wpAny _ _ (if (!t.plain&&decide (es.size > 1))=true then _ else _) _ _ _
 rw[hdr,if_neg (by simp)]
 show wpAny _ _ ((if (!t.led&&!es.isEmpty)=true then unsupported "set:maker-not-led" else pure ())>>=_) _ _ _
 rw[hl,if_neg (by simp)]
 refine Z0 (Z5 ?_)
 exact Z5 h
theorem Fa (j:Nat):U8 #[j] 0=0:=by
 simp[U8,Z1H]
theorem Z3u (j:Nat):U8 #[j] (j+1)=1:=by
 simp[U8,Z1H]
theorem Z7E (hh:A.handled=none) (hb:w.params.followText "set-order"=true) (I a:Addr) (hne:a≠I) (es:Ai_) (ep:Nat) (t:SetTable) :
  Walks prog w A I [I,a] [I] es.size (fun i v=>((pickOrder (w.params.setOrder a ep) es).toList.map (·.2))[i]?=some v) (fun i h=>U4 h I (.int (0:Nat) 0) i es.size ep a∧BSet prog w h a es ep t) where
 sub:=fun b hb=>by simp at hb;simp[hb]
 frame:=fun _ _ _ st hk=>⟨st.1.keep fun o e=>hk I (by simp) o e,st.2.keep fun o e=>hk a (by simp) o e⟩
 item:=fun i s Q E hi st hQ=>by
  have hlen:(pickOrder (w.params.setOrder a ep) es).size=es.size:=by
   have:=(Ca (w.params.setOrder a ep) es).length_eq
   simpa using this
  refine FA hh st.1 st.2 rfl (fun A' E' Q' q=>BG hb st.2 q) (fun x nxt e h' hit sb=>?_) fun e=>?_
  ·rw[Jo (by lia)] at e
   simp only[Z7,Jt,Ny] at e
   obtain⟨e1,e2⟩:=e
   subst e2
   refine hQ x h' s.toks ?_ ⟨hit,st.2.keep fun o e=>sb.extBut a o hne e⟩ fun b o hb e=>sb.extBut b o (fun z=>hb (by simp[z])) e
   rw[Jc,J0,Jo (by lia)]
   simp[e1]
  ·rw[Jo (by lia)] at e
   cases e
 done:=fun s Q E st hQ=>by
  have hlen:(pickOrder (w.params.setOrder a ep) es).size=es.size:=by
   have:=(Ca (w.params.setOrder a ep) es).length_eq
   simpa using this
  refine FA hh st.1 st.2 rfl (fun A' E' Q' q=>BG hb st.2 q) (fun x nxt e h' hit sb=>?_) fun e h' he=>?_
  ·rw[NU (by lia)] at e
   cases e
  ·exact hQ h' s.toks fun b o hb e=>he b o (fun z=>hb (by simp[z])) e
 self:=fun _ _ _ _ st hQ=>Ci st.1 hQ
theorem ZaG (hh:A.handled=none) (hb:w.params.followText "set-order"=false) (I a:Addr) (hne:a≠I) (es:Ai_) (h1:es.size≤1) (ep:Nat) (t:SetTable) :
  Walks prog w A I [I,a] [I] es.size (fun i v=>(es.toList.map (·.2))[i]?=some v)
   (fun i h=>(∃ slot,U4 h I (.int (slot:Nat) 0) i es.size ep a∧((i=0∧slot=0)∨(i=1∧slot=t.place.getD 0 0+1)))∧BSet prog w h a es ep t) where
 sub:=fun b hb=>by simp at hb;simp[hb]
 frame:=fun _ _ _ st hk=>⟨let ⟨sl,x,y⟩:=st.1;⟨sl,x.keep fun o e=>hk I (by simp) o e,y⟩,st.2.keep fun o e=>hk a (by simp) o e⟩
 item:=fun i s Q E hi st hQ=>by
  obtain⟨⟨slot,it,hsl⟩,T⟩:=st
  have hi0:i=0:=by lia
  subst hi0
  have hs0:slot=0:=by lia
  subst hs0
  have hz:es.size=1:=by exact Q0 ‹_› ‹_›
  have hpl:t.place.size=1:=by
   have:=T.fits
   simp only[QH,ZX,beq_iff_eq] at this
   lia
  obtain⟨j,hj⟩:∃ j,t.place=#[j]:=⟨t.place[0],by
   apply ZjJ
   ·simp[hpl]
   ·intro i h1 h2
    have:i=0:=by simp at h2;exact h2
    subst this
    rfl⟩
  refine FA hh it T rfl (fun A' E' Q' q=>FZ hb T h1 q) (fun x nxt e h' hit sb=>?_) fun e=>?_
  ·rw[hj,Fa,Jo (by omega)] at e
   simp only[Zk,Zl,NM,Jm,Nat.lt_add_one,Jo,List.getElem_toArray,List.getElem_cons_zero,Jt,Ny] at e
   refine hQ x h' s.toks ?_ ⟨⟨nxt,hit,.inr ⟨rfl,?_⟩⟩,T.keep fun o e=>sb.extBut a o hne e⟩ fun b o hb e=>sb.extBut b o (fun z=>hb (by simp[z])) e
   ·rw[Jc,J0,Jo (by lia)]
    simp[e.1]
   ·rw[hj]
    simp[← e.2]
  ·rw[hj,Fa,Jo (by lia)] at e
   simp at e
 done:=fun s Q E st hQ=>by
  obtain⟨⟨slot,it,hsl⟩,T⟩:=st
  have hpl:t.place.size=es.size:=by
   have:=T.fits
   simp only[QH,ZX,beq_iff_eq] at this
   lia
  refine FA hh it T rfl (fun A' E' Q' q=>FZ hb T h1 q) (fun x nxt e h' hit sb=>?_) fun e h' he=>?_
  ·exfalso
   rcases hsl with ⟨z1,z2⟩|⟨z1,z2⟩
   ·have h0:es[U8 t.place slot]?=none:=NU (by lia)
    rw[h0] at e
    cases e
   ·obtain⟨j,hj⟩:∃ j,t.place=#[j]:=⟨t.place[0],by
     apply ZjJ
     ·simp[hpl,z1]
     ·intro i h1 h2
      have:i=0:=by simp at h2;exact h2
      subst this
      rfl⟩
    rw[hj] at z2 e
    simp only[Ul,Z7h,gz_,CJ] at z2
    subst z2
    have h0:es[U8 #[j] (j+1)]?=none:=by
     rw[Z3u]
     exact NU (by omega)
    rw[h0] at e
    cases e
  ·exact hQ h' s.toks fun b o hb e=>he b o (fun z=>hb (by simp[z])) e
 self:=fun _ _ _ _ st hQ=>let ⟨⟨sl,x,_⟩,_⟩:=st;Ci x hQ
theorem Z6o (hh:A.handled=none)(I a P:Addr)(hne:a≠I)(hnP:P≠I)(es:Ai_)(ep:Nat)(t:SetTable)(pl:List Nat)(hpl:pl.Perm (Jg es.size))(oP:Obj)(nP:Nat)
  (dP:oP.data=.seq (pl.map fun (k:Nat)=>D4 (k:Int) 0).toArray nP) :
  Walks prog w A I [I,a,P] [I] es.size (fun i v=>(pl.filterMap fun k=>(es[k]?).map (·.2))[i]?=some v) (fun i h=>U4 h I (.ref P) i es.size ep a∧BSet prog w h a es ep t∧h.get? P=some oP) where
 sub:=fun b hb=>by simp at hb;simp[hb]
 frame:=fun _ _ _ st hk=>⟨st.1.keep fun o e=>hk I (by simp) o e,st.2.1.keep fun o e=>hk a (by simp) o e,hk P (by simp) _ st.2.2⟩
 item:=fun i s Q E hi st hQ=>by
  have hin:∀ k∈pl,k<es.size:=fun k m=>Gs.mp (hpl.mem_iff.mp m)
  have hlen:pl.length=es.size:=by rw[hpl.length_eq,Yv]
  refine Z0u hh st.1 st.2.1 rfl st.2.2 dP (fun k e hk he h' hit sb=>?_) hin fun e=>?_
  ·refine hQ e.2 h' s.toks ?_ ⟨hit,st.2.1.keep fun o e=>sb.extBut a o hne e,sb.extBut P _ hnP st.2.2⟩ fun b o hb e=>sb.extBut b o (fun z=>hb (by simp[z])) e
   have hfm:(pl.filterMap fun k=>(es[k]?).map (·.2))=pl.map fun k=>((es[k]?).map (·.2)).getD YN:=by
    have go:∀ l:List Nat,(∀ k∈l,k<es.size)→(l.filterMap fun k=>(es[k]?).map (·.2))=l.map fun k=>((es[k]?).map (·.2)).getD YN:=by
     intro l
     induction l with
     |nil=>intro _;rfl
     |cons k l ih =>
      intro hl
      rw[Gh,Zt,Jo (hl k Z1)]
      simp only[Z7,CJ]
      rw[ih fun k m=>hl k (Z4 _ m)]
    exact go pl hin
   rw[hfm,Jc,hk]
   simp[he]
  ·rw[Za (by lia)] at e
   cases e
 done:=fun s Q E st hQ=>by
  have hin:∀ k∈pl,k<es.size:=fun k m=>Gs.mp (hpl.mem_iff.mp m)
  have hlen:pl.length=es.size:=by rw[hpl.length_eq,Yv]
  refine Z0u hh st.1 st.2.1 rfl st.2.2 dP (fun k e hk he h' hit sb=>?_) hin fun e h' he=>?_
  ·rw[UK (by lia)] at hk
   cases hk
  ·exact hQ h' s.toks fun b o hb e=>he b o (fun z=>hb (by simp[z])) e
 self:=fun _ _ _ _ st hQ=>Ci st.1 hQ
end
end Sg
namespace Sg
open PySem PyProof.Rows
section
variable {prog:Program}{w:World}{A:Around}{E:Ps_}{s:Shared}{it a:Addr}{first:Value}{i n ep:Nat}{es:Ai_}{t:SetTable}
theorem BSet.ty (T:BSet prog w s.heap a es ep t):s.TypeIs (.ref a) "set":=let ⟨o,h1,h2,_⟩:=T.obj;⟨o,h1,h2.1⟩
theorem Z4K (es:Ai_){pl:List Nat}(h:pl.Perm (Jg es.size)):(pl.filterMap fun k=>(es[k]?).map (·.2)).Perm (es.toList.map (·.2)):=by
 refine (h.filterMap _).trans (Z7x ?_)
 apply GT
 intro i
 have go:∀ n,n≤es.size→((Jg n).filterMap fun k=>(es[k]?).map (·.2))=(es.toList.take n).map (·.2):=by
  intro n
  induction n with
  |zero=>intro _;rfl
  |succ n ih =>
   intro hn
   rw[ZfB,List.filterMap_append,ih (by exact Gg ‹_›),Ba,JX]
   congr 1
   rw[J0,Jo ‹_›]
   simp[Jo (show n<es.size by lia)]
 rw[go es.size (Zc _),JG (by simp)]
theorem Z4v {Q:Ps_}(T:BSet prog w s.heap a es ep t)
  (h:∀ (s':Shared) (I:Addr) (fp:List Addr) (ord:Lu_) (St:Nat→Heap→Prop),Ext s.heap s'.heap→s'.gens=s.gens→s'.os=s.os→s'.toks=s.toks→s.heap.objs.size≤I →
   (∀ b∈fp,b=a∨s.heap.objs.size≤b)→(∀ A':Around,A'.handled=none→Walks prog w A' I fp [I] es.size (fun i v=>ord[i]?=some v) St)→St 0 s'.heap→ord.Perm (es.toList.map (·.2))→Q (.ref I) s') :
  wpAny (model prog w) A (pyIter (.ref a)) Q E s:=by
 obtain⟨o,ho,hex,hd⟩:=T.obj
 have ha:a<s.heap.objs.size:=ZB ho
 refine ZhS T.ty Zic (YQ Zic T.ty CY ?_ (F.args_set_iter_1 _))
 unfold Builtin.«frozenset.__iter__»
 refine Z0 (m:=Builtin.Frozenset.slot0 "__iter__" _) (CN (a:=a) rfl ?_)
 refine Z0 ?_
 unfold Builtin.Frozenset.sizeOf
 refine Z0 (CM ho hd T.fits (Z5 ?_))
 refine Z0 ?_
 unfold setDrawn
 refine Z0 (Yj ho hd T.fits ?_)
 dsimp only
 refine Z0 ?_
 unfold setsByText
 refine Z0 (NC (Z5 (Z5 ?_)))
 show wpAny _ _ (if (!(w.params.followText "set-order")&&(!t.plain&&decide (es.size > 1)))=true then _ else _) _ _ _
 by_cases hq:(!(w.params.followText "set-order")&&(!t.plain&&decide (es.size > 1)))=true
 ·rw[if_pos hq]
  refine Z0 (Wg es.size (Jg es.size) _ _ (by simp) fun pl d hpl=>?_)
  have hz:pl.length≤sizeLine:=by
   rw[hpl.length_eq,Yv]
   exact Nm T.few
  refine Z0 (Z7m ?_ (by simpa using hz))
  refine Z0 (ZhQ (Z2 _ ho) hd T.fits ?_)
  refine Z0 (JC (Z5 ⟨_,rfl,"set_iterator",_,⟨_,Zu _ rfl,rfl⟩,Ud.lookup,?_⟩))
  have zs:(s.heap.push { cls:=.type "tuple",data:=.seq (GS (fun (i:Nat)=>rawInt i) pl).toArray }).objs.size=s.heap.objs.size+1:=Nj ..
  refine h _ _ [_,a,s.heap.objs.size] (pl.filterMap fun k=>(es[k]?).map (·.2)) _ (fun b o e=>Z2 _ (Z2 _ e)) rfl rfl rfl ?_ ?_
   (fun A' hA=>Z6o (prog:=prog) (w:=w) hA _ a s.heap.objs.size ?_ ?_ es ep t pl hpl { cls:=.type "tuple",data:=.seq (GS (fun (i:Nat)=>rawInt i) pl).toArray } 0 rfl) ?_ (Z4K es hpl)
  ·rw[zs];exact UU _
  ·intro b hb
   simp only[Zp,WR,or_false] at hb
   rcases hb with rfl|rfl|rfl
   ·rw[zs];exact .inr (UU _)
   ·exact .inl rfl
   ·exact .inr (Zc _)
  ·rw[zs];exact ZI (Yg ha)
  ·rw[zs];exact ZI (U9 _)
  ·refine⟨⟨_,Zu _ rfl,rfl,rfl⟩,T.keep fun o e=>Z2 _ (Z2 _ e),?_⟩
   exact Z2 _ (Zu _ rfl)
 ·rw[if_neg hq]
  refine Z0 (Z5 ?_)
  refine Z0 (ZhQ ho hd T.fits ?_)
  refine Z0 (JC (Z5 ⟨_,rfl,"set_iterator",_,⟨_,Zu _ rfl,rfl⟩,Ud.lookup,?_⟩))
  have i0:U4 (s.heap.push { cls:=.type "set_iterator",data:=.fields [rawInt 0,rawInt 0,YX a,rawInt es.size,rawInt ep].toArray }) s.heap.objs.size (.int (0:Nat) 0) 0 es.size ep a :=
   ⟨_,Zu _ rfl,rfl,rfl⟩
  have T0:BSet prog w (s.heap.push { cls:=.type "set_iterator",data:=.fields [rawInt 0,rawInt 0,YX a,rawInt es.size,rawInt ep].toArray }) a es ep t:=T.keep fun o e=>Z2 _ e
  have fp2:∀ b∈[s.heap.objs.size,a],b=a∨s.heap.objs.size≤b:=by
   intro b hb
   simp only[Zp,WR,or_false] at hb
   rcases hb with rfl|rfl
   ·exact .inr (Zc _)
   ·exact .inl rfl
  cases hb:w.params.followText "set-order" with
  |true =>
   exact h _ _ [s.heap.objs.size,a] _ _ (fun b o e=>Z2 _ e) rfl rfl rfl (Zc _) fp2 (fun A' hA=>Z7E (prog:=prog) hA hb _ a (ZI ha) es ep t) ⟨i0,T0⟩ ((Ca _ es).map _)
  |false =>
   have h1:es.size≤1:=by
    rw[hb] at hq
    simp only[QP,Bool.true_and,ZX,Wd,decide_eq_true_eq,not_and] at hq
    rcases T.plain with z|z
    ·lia
    ·have:=hq z;exact Yp ‹_›
   exact h _ _ [s.heap.objs.size,a] _ _ (fun b o e=>Z2 _ e) rfl rfl rfl (Zc _) fp2 (fun A' hA=>ZaG (prog:=prog) hA hb _ a (ZI ha) es h1 ep t) ⟨⟨0,i0,.inl ⟨rfl,rfl⟩⟩,T0⟩ (U6 _)
theorem Z6Y {P:Nat→Value→Prop}{ord:Lu_}{acc:Au_}(h:ItemsOf (fun i v=>ord[i]?=some v) acc ord.length):acc.toList=ord:=by
 apply GT
 intro i
 by_cases hi:i<ord.length
 ·have hs:acc.size=ord.length:=h.1
  have e:=h.2 i acc[i] (by simp[hs,hi])
  rw[e,J0]
  simp[hs,hi]
 ·have hs:acc.size=ord.length:=h.1
  rw[UK (by simp;lia),UK (by exact Yp ‹_›)]
theorem collect_set {Q:List Value→Shared→Prop}(hh:A.handled=none)(T:BSet prog w s.heap a es ep t)
  (hQ:∀ s' vs,Ext s.heap s'.heap→s'.gens=s.gens→s'.os=s.os→vs.Perm (es.toList.map (·.2))→Q vs s'):wpAny (model prog w) A (collect (.ref a)) Q E s:=by
 obtain⟨o,ho,hex,hd⟩:=T.obj
 have ha:a<s.heap.objs.size:=ZB ho
 have hn:es.size≤sizeLine:=Nm T.few
 unfold collect
 refine Z0 (FV (Yf ZaC ?_))
 rw[Jy ZaB _]
 show wpAny _ A.in1 (newList []>>=fun l=>again (.builtin "list.__iadd__" ⟨[l,.ref a],[]⟩)) _ _ s
 refine Z0 (JC ?_)
 refine Z5 ⟨UZ WT _,Yf ZfQ ?_⟩
 rw[Jy WT _]
 show wpAny _ A.in1 (U7 (.ref s.heap.objs.size) (.ref a) (.ref s.heap.objs.size)) _ _ _
 unfold U7
 have T1:BSet prog w (s.heap.push { cls:=.type "list",data:=.seq ([]:Lu_).toArray }) a es ep t:=T.keep fun o e=>Z2 _ e
 refine Z0 (MI (BSet.ty (s:={ s with heap:=s.heap.push { cls:=.type "list",data:=.seq ([]:Lu_).toArray } }) T1) ?_)
 have h1:MH (.ref s.heap.objs.size) (.ref a)=false:=by simp[MH];exact NA ha
 have h2:(Yb "set" == Yb "list")=false:=by decide
 have h3:(Yb "set" == Yb "tuple")=false:=by decide
 simp only[h1,h2,h3,ZhM,Zj,if_false]
 refine Z0 (Z4v T1 fun s2 I fp ord St x2 g2 o2 k2 hI hfp W st0 hp=>?_)
 have zs:(s.heap.push { cls:=.type "list",data:=.seq ([]:Lu_).toArray }).objs.size=s.heap.objs.size+1:=Nj ..
 have T2:BSet prog w s2.heap a es ep t:=T1.keep fun o e=>x2 a o e
 refine Z0 (Y5 ?_)
 unfold Builtin.List.listLengthHint
 refine Z0 (Z59 T2.ty ZdQ ?_)
 wp_delta
 refine Z0 (Zih T2.ty (b:=true) (by rw[Z7p];kernel_rfl) ?_)
 show wpAny _ A.in1 (typeOf (YX a)>>=_) _ _ _
 refine Z0 (MI T2.ty ?_)
 refine Z5 ?_
 rw[if_pos (by decide)]
 refine Z0 (Gk ?_)
 have hS1:s2.heap.get? s.heap.objs.size=some { cls:=.type "list",data:=.seq ([]:Lu_).toArray }:=x2 _ _ (Zu _ rfl)
 refine Z0 ?_
 show wpAny _ A.in1 (updateSeq s.heap.objs.size (·.push .none)>>=fun _=>updateSeq s.heap.objs.size (·.pop)) _ _ _
 refine Z0 (QR hS1 rfl ?_)
 have hS2:=Yx (Yy (·.push YN)) hS1 rfl
 refine QR hS2 rfl ?_
 have hS3:=Yx (Yy (·.pop)) hS2 rfl
 have oth:∀ b o,b≠s.heap.objs.size→s2.heap.get? b=some o→((s2.heap.update s.heap.objs.size (Yy (·.push YN))).update s.heap.objs.size (Yy (·.pop))).get? b=some o :=
  fun b o hb e=>(YM _ _ (GR hb)).trans ((YM _ _ (GR hb)).trans e)
 have hSf:s.heap.objs.size∉fp:=fun m=>by
  rcases hfp _ m with z|z
  ·exact absurd ha (by rw[← z];exact YG _)
  ·rw[zs] at z;exact absurd z (Nat.not_le.mpr (U9 _))
 have W':=W A.in1 (by simpa using hh)
 have hord:ord.length=es.size:=by rw[hp.length_eq];simp
 refine Z5 ⟨UZ F.plain_extend_loop _,codeAny_extend_loopS W'.toS hn _ hSf _ es.size 0 _ _ _ rfl (Jv _)
  (W'.frame 0 s2.heap _ st0 fun b hb o e=>oth b o (fun z=>hSf (z ▸ hb)) e) hS3 (ItemsOf.nil _) fun s' acc' c' hm hS' hacc=>?_⟩
 show wpAny _ A (load s.heap.objs.size>>=_) _ _ s'
 refine Z0 (Z7C hS' ?_)
 rw[← hord] at hacc
 refine Z5 ?_
 show Q acc'.toList s'
 rw[Z6Y (P:=fun _ _=>True) hacc]
 refine hQ s' ord (fun b o e=>?_) (hm.gens.trans g2) (hm.os.trans o2) hp
 have hb:b<s.heap.objs.size:=ZB e
 refine hm.heap b o (fun z=>?_) (oth b o (ZI hb) (x2 b o (Z2 _ e)))
 rcases Zp.mp z with z|z
 ·exact absurd hb (z ▸ YG _)
 ·rw[Jf.mp z] at hb
  rw[zs] at hI
  exact absurd hb (Nat.not_lt.mpr (Zz (UU _) hI))
end
end Sg
namespace Sg
open PySem PySem.SetTable
noncomputable def it5:Nat→Nat→Nat
 |0,x=>x
 |n+1,x=>5*it5 n x+1
theorem Z4w (m:Nat)(x:Nat):∀ n,it5 (m+n) x=it5 n (it5 m x)
 |0=>rfl
 |n+1=>by
  show 5*it5 (m+n) x+1=5*it5 n (it5 m x)+1
  rw[Z4w m x n]
theorem Z9A (x:Nat):∀ n,it5 n x=(4*it5 n 0+1)*x+it5 n 0
 |0=>by simp[it5]
 |n+1=>by
  have:=Z9A x n
  show 5*it5 n x+1=(4*(5*it5 n 0+1)+1)*x+(5*it5 n 0+1)
  rw[this]
  grind
theorem Z9z:∀ k,∃ c,it5 (2 ^ k) 0=2 ^ k*(2*c+1)
 |0=>⟨0,rfl⟩
 |k+1=>by
  obtain⟨c,e⟩:=Z9z k
  have e2:it5 (2 ^ (k+1)) 0=2*it5 (2 ^ k) 0*(2*it5 (2 ^ k) 0+1):=by
   rw[show 2 ^ (k+1)=2 ^ k+2 ^ k by rw[QK];lia,Z4w,Z9A]
   grind
  refine⟨2*c*it5 (2 ^ k) 0+c+it5 (2 ^ k) 0,?_⟩
  rw[e2,QK]
  generalize it5 (2 ^ k) 0=B at e ⊢
  subst e
  grind
theorem Z2T:∀ k x y,∃ n,n<2 ^ k∧it5 n x%2 ^ k=y%2 ^ k
 |0,x,y=>⟨0,by decide,by rw[Nat.pow_zero,ZjD,ZjD]⟩
 |k+1,x,y=>by
  obtain⟨n,h1,h2⟩:=Z2T k x y
  obtain⟨c,hc⟩:=Z9z k
  have hM:0<2 ^ k:=ZfO k
  rw[QK]
  by_cases he:it5 n x%(2 ^ k*2)=y%(2 ^ k*2)
  ·exact⟨n,by lia,he⟩
  ·refine⟨n+2 ^ k,by lia,?_⟩
   rw[Z4w,Z9A]
   generalize it5 n x=z at h2 he
   generalize it5 (2 ^ k) 0=B at hc
   generalize 2 ^ k=M at *
   subst hc
   have e1:(4*(M*(2*c+1))+1)*z+M*(2*c+1)=z+M+M*2*(4*c*z+2*z+c):=by grind
   rw[e1,Nat.add_mul_mod_self_left,Z1Q,Z1Q,Nat.add_mod_right,Nat.add_div_right _ hM,h2]
   rw[Z1Q,Z1Q,h2] at he
   have a1:z / M%2<2:=B5 _ (by decide)
   have a2:y / M%2<2:=B5 _ (by decide)
   have a3:z / M%2≠y / M%2:=fun e=>he (by rw[e])
   have a4:(z / M+1)%2=y / M%2:=by omega
   rw[a4]
noncomputable def lp (mask:Nat)(h:Int):Nat→Nat×Nat
 |0=>(bits h%(mask+1),bits h)
 |m+1=>leap mask (lp mask h m).1 (lp mask h m).2
section
variable {mask:Nat}{h:Int}
theorem Zfv:bits h<2 ^ 64:=by
 unfold bits
 have:=UM h (show (0:Int)<2 ^ 64 by decide)
 have:=NQ h (show (2 ^ 64:Int)≠0 by decide)
 lia
theorem ZiT:∀ m,(lp mask h m).1<mask+1
 |0=>B5 _ (Zjf _)
 |m+1=>B5 _ (Zjf _)
theorem Z9d:∀ m,(lp mask h m).2=bits h / 32 ^ m
 |0=>by simp[lp]
 |m+1=>by
  show (lp mask h m).2 / 32=_
  rw[Z9d m,Nat.div_div_eq_div_mul,QK]
theorem Zf6 (m:Nat)(hm:13≤m):(lp mask h m).2=0:=by
 rw[Z9d]
 refine Nat.div_eq_of_lt (ZO Zfv ?_)
 have:(32:Nat) ^ 13≤32 ^ m:=Zah (by decide) hm
 exact Zz (by decide) this
theorem Zdg:∀ n,(lp mask h (13+n)).1=it5 n (lp mask h 13).1%(mask+1)
 |0=>(Zfz (ZiT 13)).symm
 |n+1=>by
  show ((lp mask h (13+n)).1*5+1+(lp mask h (13+n)).2 / 32)%(mask+1)=_
  rw[Zf6 _ (by simp),Zdg n]
  show _=(5*it5 n (lp mask h 13).1+1)%(mask+1)
  generalize it5 n (lp mask h 13).1=z
  rw[Nat.zero_div,NB,Z7q 5 z,ZjF,Nat.mod_mul_mod,← ZjF]
theorem Z5F {k:Nat}(hk:mask+1=2 ^ k){j:Nat}(hj:j≤mask):∃ m,m≤13+mask∧(lp mask h m).1=j:=by
 obtain⟨n,h1,h2⟩:=Z2T k (lp mask h 13).1 j
 rw[← hk] at h1 h2
 exact⟨13+n,by lia,by rw[Zdg,h2];exact Zfz (by lia)⟩
end
noncomputable def adv (mask:Nat)(p:Probe):Probe :=
 if p.more > 0 then { p with j:=p.j+1,more:=p.more-1 } else { p with j:=(leap mask p.i p.perturb).1,more:=runEnd mask (leap mask p.i p.perturb).1-(leap mask p.i p.perturb).1,i:=(leap mask p.i p.perturb).1,perturb:=(leap mask p.i p.perturb).2 }
noncomputable def blk (mask:Nat)(x:Nat×Nat):Probe:={ j:=x.1,more:=runEnd mask x.1-x.1,i:=x.1,perturb:=x.2,dummy:=none }
noncomputable def pr (mask:Nat)(h:Int):Nat→Probe
 |0=>blk mask (lp mask h 0)
 |n+1=>adv mask (pr mask h n)
section
variable {mask:Nat}{h:Int}
theorem Zg9 (i:Nat):runEnd mask i-i≤9:=by
 unfold runEnd
 split <;> simp
theorem Zhn (i:Nat):i≤runEnd mask i:=by
 unfold runEnd
 split <;> simp
theorem Z8q:∀ (r n:Nat) (p:Probe),pr mask h n=p→p.more=r→pr mask h (n+r)={ p with j:=p.j+r,more:=0 }
 |0,n,p,e,hr=>by
  show pr mask h n=_
  rw[e]
  obtain⟨a,b,c,d,f⟩:=p
  have hr':b=0:=hr
  subst hr'
  rfl
 |r+1,n,p,e,hr=>by
  have h1:pr mask h (n+1)={ p with j:=p.j+1,more:=r }:=by
   show adv mask (pr mask h n)=_
   rw[e]
   unfold adv
   rw[if_pos (by lia),show p.more-1=r by lia]
  have:=Z8q r (n+1) _ h1 rfl
  rw[show n+(r+1)=n+1+r by lia,this]
  show ({ p with j:=p.j+1+r,more:=0 }:Probe)=_
  rw[show p.j+1+r=p.j+(r+1) by lia]
theorem Z19:∀ n,(pr mask h n).dummy=none
 |0=>rfl
 |n+1=>by
  show (adv mask (pr mask h n)).dummy=none
  unfold adv
  split
  ·exact Z19 n
  ·exact Z19 n
theorem ZcV:∀ m,∃ n,n≤10*m∧pr mask h n=blk mask (lp mask h m)
 |0=>⟨0,Zc _,rfl⟩
 |m+1=>by
  obtain⟨n,h1,h2⟩:=ZcV m
  have h3:=Z8q (runEnd mask (lp mask h m).1-(lp mask h m).1) n _ h2 rfl
  have h4:=Zg9 (mask:=mask) (lp mask h m).1
  refine⟨n+(runEnd mask (lp mask h m).1-(lp mask h m).1)+1,by lia,?_⟩
  show adv mask (pr mask h (n+(runEnd mask (lp mask h m).1-(lp mask h m).1)))=_
  rw[h3]
  rfl
theorem Zb9 {k:Nat}(hk:mask+1=2 ^ k){j:Nat}(hj:j≤mask):∃ n,n<10*turns mask∧(pr mask h n).j=j:=by
 obtain⟨m,h1,h2⟩:=Z5F (h:=h) hk hj
 obtain⟨n,h3,h4⟩:=ZcV (mask:=mask) (h:=h) m
 refine⟨n,?_,by rw[h4];exact h2⟩
 unfold turns
 lia
end
end Sg
namespace Sg
open PySem PySem.SetTable
theorem Z2a {t:SetTable}{j i:Nat}(h:t.slot j=.live i):t.place[i]?=some j:=by
 unfold Zcw at h
 dsimp only at h
 split at h
 ·rename_i e
  cases h
  exact beq_iff_eq.mp e
 ·split at h <;> cases h
theorem BE {t:SetTable}{j:Nat}(hd:t.dummies=#[]):t.slot j≠.dummy:=by
 unfold Zcw
 dsimp only
 split
 ·intro z;cases z
 ·rw[hd]
  intro z
  rw[if_neg (by simp[Zds])] at z
  cases z
theorem Z7V {t:SetTable}{j:Nat}(hd:t.dummies=#[])(hj:j∉t.place):t.slot j=.empty:=by
 cases hs:t.slot j with
 |empty=>rfl
 |dummy=>exact absurd hs (BE hd)
 |live i=>exact absurd (Array.mem_of_getElem? (Z2a hs)) hj
theorem Z94:∀ (n:Nat) (l:List Nat),l.length<n→∃ j,j<n∧j∉l
 |0,l,h=>absurd h (U2 _)
 |n+1,l,h=>by
  by_cases hm:n∈l
  ·have hl:(l.erase n).length<n:=by
    rw[Z3U hm]
    have:=WZ hm
    lia
   obtain⟨j,h1,h2⟩:=Z94 n (l.erase n) hl
   exact⟨j,by exact Yg ‹_›,fun z=>h2 ((Z7v (by exact ZI ‹_›)).mpr z)⟩
  ·exact⟨n,U9 _,hm⟩
theorem Z9G {t:SetTable}{k:Nat}(hk:t.mask+1=2 ^ k)(hd:t.dummies=#[])(hp:t.place.size≤t.mask)(h:Int):∃ n,n<10*turns t.mask∧t.slot (pr t.mask h n).j=.empty:=by
 obtain⟨j,h1,h2⟩:=Z94 (t.mask+1) t.place.toList (by rw[Zm];lia)
 obtain⟨n,h3,h4⟩:=Zb9 (h:=h) hk (show j≤t.mask by lia)
 exact⟨n,h3,by rw[h4];exact Z7V hd (fun z=>h2 (DB.mpr z))⟩
theorem Zdj {t:SetTable}(hd:t.dummies=#[])(ha:Nat→Int)(h:Int):∀ (d n fuel:Nat),d<fuel→t.slot (pr t.mask h (n+d)).j=.empty →
  (∃ m,WX t ha h fuel (pr t.mask h n)=some (.empty m none)) ∨
  ∃ m i,n≤m∧m<n+d∧t.slot (pr t.mask h m).j=.live i∧WX t ha h fuel (pr t.mask h n)=some (.candidate (pr t.mask h m).j i (pr t.mask h (m+1)))
 |d,n,0,hf,_=>absurd hf (U2 _)
 |d,n,fuel+1,hf,he=>by
  unfold WX
  cases hs:t.slot (pr t.mask h n).j with
  |empty=>exact .inl ⟨_,by rw[Z19]⟩
  |dummy=>exact absurd hs (BE hd)
  |live i =>
   dsimp only
   cases d with
   |zero=>rw[NB,hs] at he;cases he
   |succ d =>
    by_cases hh:(ha i == h)=true
    ·rw[if_pos hh]
     exact .inr ⟨n,i,Zc _,by lia,hs,rfl⟩
    ·rw[if_neg hh]
     rcases Zdj hd ha h d (n+1) fuel (by lia) (by rw[show n+1+d=n+(d+1) by lia];exact he) with ⟨m,e⟩|⟨m,i',h1,h2,h3,e⟩
     ·exact .inl ⟨m,e⟩
     ·exact .inr ⟨m,i',by exact Gg ‹_›,by lia,h3,e⟩
theorem Z5m {α:Type}(x:α):∀ (l:List (Option α)) (j:Nat),l[j]?=some none→((l.set j (some x)).filterMap id).Perm (x::l.filterMap id)
 |[],j,h=>by simp at h
 |a::l,0,h=>by
  simp only[gz_,Jt] at h
  subst h
  exact U6 _
 |a::l,j+1,h=>by
  have ih:=Z5m x l j (by simpa using h)
  rw[Zd]
  cases a with
  |none=>exact ih
  |some y =>
   show (y::(l.set j (some x)).filterMap id).Perm (x::y::l.filterMap id)
   exact (ih.cons y).trans (Zal x y _)
theorem Z29 {α:Type}:∀ (l:List (Option α)),(l.filterMap id).length<l.length→∃ j:Nat,l[j]?=some none
 |[],h=>by simp at h
 |none::l,h=>⟨0,rfl⟩
 |some y::l,h=>by
  obtain⟨j,e⟩:=Z29 l (by simpa using h)
  exact⟨j+1,by simpa using e⟩
theorem Z5N {mask:Nat}{h:Int}(ow:Array (Option Nat)):∀ (d fuel m:Nat),d<fuel→ow[(lp mask h (m+d)).1]?=some none→∃ j:Nat,GP mask ow fuel (lp mask h m).1 (lp mask h m).2=some j∧ow[j]?=some none
 |d,0,m,hf,_=>absurd hf (U2 _)
 |d,fuel+1,m,hf,he=>by
  unfold GP
  split
  ·rename_i k hk
   have:=List.find?_some hk
   refine⟨_,rfl,?_⟩
   cases ho:ow[(lp mask h m).1+k]? with
   |none=>simp[Ul,ho] at this
   |some o =>
    cases o with
    |none=>rfl
    |some x=>simp[Ul,ho] at this
  ·rename_i hk
   cases d with
   |zero =>
    exfalso
    rw[NB] at he
    have:=Zay.mp hk 0 (Gs.mpr (by have:=Zhn (mask:=mask) (lp mask h m).1;lia))
    simp[Ul,he] at this
   |succ d=>exact Z5N ow d fuel (m+1) (by lia) (by rw[show m+1+d=m+(d+1) by lia];exact he)
noncomputable def Z1r (mask:Nat)(acc:Option (Array (Option Nat)×Nat))(h:Int):Option (Array (Option Nat)×Nat):=do
 let (owner,k) ← acc
 let j ← GP mask owner (turns mask) (bits h%(mask+1)) (bits h)
 pure (owner.setIfInBounds j (some k),k+1)
theorem Z9p {mask k:Nat}(hk:mask+1=2 ^ k):∀ (hs:List Int) (ow:Array (Option Nat)) (n:Nat),ow.size=mask+1→(ow.toList.filterMap id).Perm (Jg n)→n+hs.length≤mask →
  ∃ ow',hs.foldl (Z1r mask) (some (ow,n))=some (ow',n+hs.length)∧ow'.size=mask+1∧(ow'.toList.filterMap id).Perm (Jg (n+hs.length))
 |[],ow,n,h1,h2,h3=>⟨ow,rfl,h1,h2⟩
 |h::hs,ow,n,h1,h2,h3=>by
  obtain⟨j,hj⟩:=Z29 ow.toList (by rw[h2.length_eq,Yv,Zm,h1];simp at h3;lia)
  have hj1:j<ow.size:=by
   have:=(Zq.mp hj).1
   simpa using this
  obtain⟨m,m1,m2⟩:=Z5F (h:=h) hk (show j≤mask by lia)
  have hj2:ow[(lp mask h (0+m)).1]?=some none:=by rw[Jm,m2,← J0];exact hj
  obtain⟨j',e,hj'⟩:=Z5N ow m (turns mask) 0 (by unfold turns;lia) hj2
  have hs1:Z1r mask (some (ow,n)) h=some (ow.setIfInBounds j' (some n),n+1):=by
   unfold Z1r
   have e':GP mask ow (turns mask) (bits h%(mask+1)) (bits h)=some j':=e
   simp only[Z7f,ob_,ZcB]
   rw[e']
   rfl
  have hp:((ow.setIfInBounds j' (some n)).toList.filterMap id).Perm (Jg (n+1)):=by
   rw[Array.toList_setIfInBounds]
   refine (Z5m n ow.toList j' (by rw[J0];exact hj')).trans ?_
   rw[ZfB]
   exact (h2.cons n).trans (List.perm_append_singleton n _).symm
  obtain⟨ow',z1,z2,z3⟩:=Z9p hk hs (ow.setIfInBounds j' (some n)) (n+1) (by simpa using h1) hp (by simp at h3;lia)
  refine⟨ow',?_,z2,?_⟩
  ·rw[G7,hs1,z1,Zl]
   congr 2
   lia
  ·rw[Zl,show n+(hs.length+1)=n+1+hs.length by lia]
   exact z3
theorem Z9o {mask k:Nat}(hk:mask+1=2 ^ k)(hs:Array Int)(hl:hs.size≤mask):∃ ow,US mask hs=some ow∧ow.size=mask+1∧(ow.toList.filterMap id).Perm (Jg hs.size):=by
 obtain⟨ow,z1,z2,z3⟩:=Z9p hk hs.toList (ZdD (mask+1) none) 0 (by simp) (by
  have:∀ n,((Zn n (none:Option Nat)).filterMap id)=[]:=fun n=>by induction n with|zero=>rfl|succ n ih=>rw[JR];exact ih
  rw[Array.toList_replicate,this]
  exact U6 _) (by simpa using hl)
 refine⟨ow,?_,z2,by simpa using z3⟩
 unfold US
 rw[← Array.foldl_toList]
 have:(hs.toList.foldl (Z1r mask) (some (ZdD (mask+1) none,0))).map (·.1)=some ow:=by rw[z1];rfl
 exact this
theorem Z4L (ow:Array (Option Nat)):(Jg ow.size).filterMap (fun j=>ow.getD j none)=ow.toList.filterMap id:=by
 have:ow.toList=(Jg ow.size).map (fun j=>ow.getD j none):=by
  apply GT
  intro i
  rw[Jc,J0]
  by_cases hi:i<ow.size
  ·simp[List.getElem?_range,hi,Ul]
  ·rw[NU (by exact Yp ‹_›),UK (by simpa using hi)]
   rfl
 rw[this,ZaA]
 rfl
theorem Z43 {t:SetTable}{hs:Array Int}{wanted k:Nat}(hk:sizeAbove wanted=2 ^ k)(hl:hs.size<sizeAbove wanted) :
  ∃ t' order,t.relaid hs wanted=some (t',order)∧t'.mask=sizeAbove wanted-1∧t'.dummies=#[]∧t'.place.size=hs.size∧t'.led=t.led∧t'.plain=t.plain∧order.toList.Perm (Jg hs.size):=by
 have hm:sizeAbove wanted-1+1=2 ^ k:=by have:=ZfO k;lia
 obtain⟨ow,z1,z2,z3⟩:=Z9o hm hs (by lia)
 have hlen:((Jg (sizeAbove wanted-1+1)).filterMap fun j=>(ow.getD j none).map (j,·)).map (·.2)=ow.toList.filterMap id:=by
  rw[List.map_filterMap,← Z4L,z2]
  congr 1
  funext j
  cases ow.getD j none <;> rfl
 unfold Zaf Zcx
 rw[z1]
 refine⟨_,_,rfl,rfl,rfl,?_,rfl,rfl,?_⟩
 ·rw[Zk,Z3]
  have:=congrArg Yr hlen
  rw[Z3] at this
  rw[this,z3.length_eq,Yv]
 ·show (((Jg (sizeAbove wanted-1+1)).filterMap fun j=>(ow.getD j none).map (j,·)).map (·.2)).Perm _
  rw[hlen]
  exact z3
end Sg
namespace Sg
open PySem PySem.SetTable
section
variable {prog:Program}{w:World}
abbrev CH (prog:Program)(w:World)(h:Heap)(ks:Ls_)(c:Addr):Prop:=IsTupleKey (YD prog w) h ks c
theorem CH.keep {h h':Heap}{ks:Ls_}{c:Addr}(x:CH prog w h ks c)(k:∀ o,h.get? c=some o→h'.get? c=some o):CH prog w h' ks c :=
 let ⟨o,its,n,e,r⟩:=x;⟨o,its,n,k o e,r⟩
theorem CH.ne {h:Heap}{ks:Ls_}{c a:Addr}{o:Obj}{es:Ai_}{ep:Nat}{t:SetTable}(x:CH prog w h ks c)(ho:h.get? a=some o)(hd:o.data=.set es ep t):c≠a:=by
 rintro rfl
 obtain⟨o',its,n,e,-,e2,-⟩:=x
 rw[e] at ho
 cases ho
 rw[hd] at e2
 cases e2
inductive TupsAre (prog:Program) (w:World) (h:Heap):List Value→List (Ls_)→Prop
 |nil:TupsAre prog w h [] []
 |cons {c:Addr} {k:Str} {ks:Ls_} {vs:Lu_} {kss:List (Ls_)}:CH prog w h (k::ks) c→TupsAre prog w h vs kss→TupsAre prog w h (.ref c::vs) ((k::ks)::kss)
theorem TupsAre.keep {h h':Heap}{vs:Lu_}{kss:List (Ls_)}(x:TupsAre prog w h vs kss)(k:∀ c ks o,CH prog w h ks c→h.get? c=some o→h'.get? c=some o):TupsAre prog w h' vs kss:=by
 induction x with
 |nil=>exact .nil
 |cons t _ ih=>exact .cons (t.keep fun o e=>k _ _ o t e) ih
theorem TupsAre.mem {h:Heap}{vs:Lu_}{kss:List (Ls_)}(x:TupsAre prog w h vs kss):∀ v∈vs,∃ c ks,v=.ref c∧CH prog w h ks c∧ks∈kss:=by
 induction x with
 |nil=>intro v m;cases m
 |cons t _ ih =>
  intro v m
  rcases Zp.mp m with rfl|m
  ·exact⟨_,_,rfl,t,Z1⟩
  ·obtain⟨c,ks,e,t',m'⟩:=ih v m
   exact⟨c,ks,e,t',Z4 _ m'⟩
theorem TupsAre.snoc {h:Heap}{vs:Lu_}{kss:List (Ls_)}{c:Addr}{k:Str}{ks:Ls_}(x:TupsAre prog w h vs kss)(t:CH prog w h (k::ks) c):TupsAre prog w h (vs++[.ref c]) (kss++[k::ks]):=by
 induction x with
 |nil=>exact .cons t .nil
 |cons t' _ ih=>exact .cons t' ih
theorem TupsAre.at {h:Heap}{vs:Lu_}{kss:List (Ls_)}(x:TupsAre prog w h vs kss):∀ (i:Nat) (hi:i<kss.length),∃ c k ks,vs[i]?=some (.ref c)∧kss[i]=k::ks∧CH prog w h (k::ks) c:=by
 induction x with
 |nil=>intro i hi;exact absurd hi (U2 _)
 |cons t _ ih =>
  intro i hi
  cases i with
  |zero=>exact⟨_,_,_,rfl,rfl,t⟩
  |succ i=>exact ih i (Nat.lt_of_succ_lt_succ hi)
theorem TupsAre.len {h:Heap}{vs:Lu_}{kss:List (Ls_)}(x:TupsAre prog w h vs kss):vs.length=kss.length:=by
 induction x with
 |nil=>rfl
 |cons _ _ ih=>rw[Zl,Zl,ih]
structure Z1P (prog:Program)(w:World)(h:Heap)(a:Addr)(es:Ai_)(ep:Nat)(t:SetTable)(vs:Lu_)(kss:List (Ls_)):Prop where
 b:BSet prog w h a es ep t
 dum:t.dummies=#[]
 stage:(t.mask=7∧es.size≤4)∨(t.mask=31∧es.size≤18)
 perm:(es.toList.map (·.2)).Perm vs
 tups:TupsAre prog w h vs kss
variable {A:Around}{E:Ps_}{s:Shared}{a:Addr}{es:Ai_}{ep:Nat}{t:SetTable}{vs:Lu_}{kss:List (Ls_)}
theorem Z1P.psize {h:Heap}(P:Z1P prog w h a es ep t vs kss):t.place.size=es.size:=by
 have:=P.b.fits
 unfold QH at this
 rw[ZX,beq_iff_eq] at this
 exact this.1
theorem Z1P.mask {h:Heap}(P:Z1P prog w h a es ep t vs kss):∃ k,t.mask+1=2 ^ k:=by
 rcases P.stage with ⟨e,-⟩|⟨e,-⟩
 ·exact⟨3,by rw[e]⟩
 ·exact⟨5,by rw[e]⟩
theorem Z1P.odd {h:Heap}(P:Z1P prog w h a es ep t vs kss):t.gaveWay=false:=by
 unfold SetTable.gaveWay
 rcases P.stage with ⟨e,-⟩|⟨e,-⟩ <;> rw[e] <;> rfl
theorem Z1P.roomy {h:Heap}(P:Z1P prog w h a es ep t vs kss):t.place.size≤t.mask:=by
 rw[P.psize]
 rcases P.stage with ⟨e,z⟩|⟨e,z⟩ <;> rw[e] <;> lia
theorem Z65 {ks:Ls_}{c:Addr}{Q:Bool→Shared→Prop}(hk:CH prog w s.heap ks c)(h:Q false s):wpAny (model prog w) A (ofAClassStatement 8 (.ref c)) Q E s:=by
 have hT:=hk.typeIs
 obtain⟨o,items,n,ho,_,hd,hi⟩:=hk
 unfold ofAClassStatement
 refine Z0 (MI hT ?_)
 dsimp only
 refine Z0 ?_
 refine Z5 ?_
 simp only[GU,Zj,if_false]
 refine Z0 (GI ho hd ?_)
 refine Z0 ?_
 show wpAny _ _ (forIn items _ _) _ _ s
 rw[← Qh]
 refine Z3L _ (fun rest r s'=>r.1=none∧s'=s∧∀ v∈rest,carriedByValue v=true) _ ?_ ?_ _ _ ⟨rfl,rfl,hi.byValue⟩
 ·rintro v rest r s' ⟨hr,rfl,hall⟩
  have e:ofAClassStatement 7 v=pure false:=by
   have:=hall v Z1
   cases v with
   |ref a=>simp[carriedByValue] at this
   |_=>rfl
  rw[e]
  refine Z0 (Z5 ?_)
  simp only[Zj,if_false]
  exact Z5 ⟨rfl,rfl,fun u hu'=>hall u (Z4 _ hu')⟩
 ·rintro⟨r1,r2⟩ s' ⟨hr,rfl,_⟩
  simp only at hr
  subst hr
  exact Z5 h
theorem ZdS {kx:Ls_}{x:Addr}{l:Lu_}{Q:Bool→Shared→Prop}(tx:CH prog w s.heap kx x)(hl:∀ v∈l,∃ c ks,v=.ref c∧CH prog w s.heap ks c)(h:Q false s) :
  wpAny (model prog w) A (searchCouldBeSeen (.ref x) l) Q E s:=by
 unfold searchCouldBeSeen
 refine Z0 ?_
 refine Z3L _ (fun rest r s'=>r.1=none∧s'=s∧∀ v∈rest,∃ c ks,v=.ref c∧CH prog w s.heap ks c) _ ?_ ?_ _ _ ⟨rfl,rfl,hl⟩
 ·rintro v rest ⟨r1,r2⟩ s' ⟨hr,rfl,hall⟩
  obtain⟨c,ks,rfl,tc⟩:=hall v Z1
  dsimp only at hr ⊢
  subst hr
  have rst:∀ v∈rest,∃ c ks,v=.ref c∧CH prog w s'.heap ks c:=fun v m=>hall v (Z4 _ m)
  split
  ·exact Z5 ⟨rfl,rfl,rst⟩
  ·refine Z0 (ZcJ tx ?_)
   simp only[GU,Zj,if_false]
   refine Z0 (ZcJ tc ?_)
   simp only[GU,Zj,if_false]
   refine Z0 (Z65 tx ?_)
   simp only[Zj,if_false]
   refine Z0 (Z65 tc ?_)
   simp only[Zj,if_false]
   exact Z5 ⟨rfl,rfl,rst⟩
 ·rintro⟨r1,r2⟩ s' ⟨hr,rfl,_⟩
  simp only at hr
  subst hr
  exact Z5 h
theorem C8 {ha:Nat→Int}{h:Int}{r:Option Met}{n d:Nat}{p:Probe}(e:t.probe ha h p=r)(hp:p=pr t.mask h n)(hd:t.dummies=#[])(hl:d<10*turns t.mask)(he:t.slot (pr t.mask h (n+d)).j=.empty) :
  (∃ m,r=some (.empty m none))∨∃ m i,n≤m∧m<n+d∧t.slot (pr t.mask h m).j=.live i∧r=some (.candidate (pr t.mask h m).j i (pr t.mask h (m+1))):=by
 subst e hp
 exact Zdj hd ha h d n _ hl he
theorem Z9k {M:Model}{β:Type}{b:Bool}{m:Sem Bool}{p p':Sem β}{Q:β→Shared→Prop}(hm:∀ Q':Bool→Shared→Prop,Q' false s→wpAny M A m Q' E s)(h:wpAny M A p Q E s) :
  wpAny M A (if b=true then do let c ← m;if c=true then p' else p else p) Q E s:=by
 split
 ·refine Z0 (hm _ ?_)
  rw[if_neg (by simp)]
  exact h
 ·exact h
theorem Z0f {kx:Ls_}{x:Addr}{hx:Int}{Q:SetFound→Shared→Prop}(hu:A.units<cLine)(P:Z1P prog w s.heap a es ep t vs kss)(tx:CH prog w s.heap kx x)(new:kx∉kss)(h:∀ j,Q (.free j false) s) :
  ∀ (fuel n d:Nat) (stand:Option Probe),stand.getD (t.probeStart hx)=pr t.mask hx n→d<fuel→d<10*turns t.mask→t.slot (pr t.mask hx (n+d)).j=.empty →
   wpAny (model prog w) A (setSearchFrom a (.ref x) hx true fuel stand) Q E s
 |0,n,d,stand,_,hf,_,_=>absurd hf (U2 _)
 |fuel+1,n,d,stand,hs,hf,hl,he=>by
  obtain⟨o,ho,hex,hd⟩:=P.b.obj
  unfold setSearchFrom
  refine Z0 (Yj ho hd P.b.fits ?_)
  dsimp only
  rw[P.odd]
  simp only[Zj,if_false]
  have memv:∀ e∈es.toList,∃ c ks,e.2=.ref c∧CH prog w s.heap ks c∧ks∈kss:=fun e m=>P.tups.mem _ (P.perm.mem_iff.mp (List.mem_map_of_mem m))
  split
  ·rename_i met heq
   rcases C8 heq hs P.dum hl he with ⟨m,z⟩|⟨m,i,h1,h2,h3,z⟩
   ·cases z
    exact Z5 (h m)
   ·cases z
    dsimp only
    have hi:i<es.size:=by
     have:=(Array.getElem?_eq_some_iff.mp (Z2a h3)).1
     rw[P.psize] at this
     exact this
    have hei:es[i]?=some es[i]:=Jo hi
    obtain⟨c,ks,hc,tc,mc⟩:=memv es[i] (Array.getElem_mem_toList hi)
    have hne:decide (ks=kx)=false:=decide_eq_false fun z=>new (z ▸ mc)
    have next:wpAny (model prog w) A (setSearchFrom a (.ref x) hx true fuel (some (pr t.mask hx (m+1)))) Q E s :=
     Z0f hu P tx new h fuel (m+1) (n+d-(m+1)) _ rfl (by omega) (by omega) (by rw[show m+1+(n+d-(m+1))=n+d by omega];exact he)
    refine Z9k (fun Q' q=>ZdS tx (fun v hv=>?_) q) ?_
    ·obtain⟨e,me,rfl⟩:=ZE.mp hv
     obtain⟨c,ks,e1,e2,-⟩:=memv e (DB.mpr (Array.mem_filter.mp (DB.mp me)).1)
     exact⟨c,ks,e1,e2⟩
    ·generalize es[i]=ent at hei hc
     obtain⟨eh,ev⟩:=ent
     dsimp only at hc
     subst hc
     rw[hei]
     dsimp only
     refine Z0 (Y5 (wpAny_eqBool_tuple hu tc tx ?_))
     rw[hne]
     refine Z0 (Yj ho hd P.b.fits ?_)
     simp only[ZfT,Zj,if_false]
     have sm:t.sameMemory t.moves t.mask=some true:=by unfold SetTable.sameMemory;rw[if_pos (by simp)]
     rw[sm]
     simp only[if_true]
     rw[h3]
     dsimp only
     rw[hei]
     dsimp only
     refine Z0 (wpAny_isSame_ref_self ?_)
     simp only[if_true]
     refine Z0 (Z5 ?_)
     simp only[Zj,if_false]
     exact next
  ·rename_i hno
   rcases C8 (r:=_) rfl hs P.dum hl he with ⟨m,z⟩|⟨m,i,h1,h2,h3,z⟩
   ·exact absurd z (hno _)
   ·exact absurd z (hno _)
end
end Sg
namespace Sg
open PySem PySem.SetTable
section
variable {prog:Program}{w:World}{A:Around}{E:Ps_}{s:Shared}{a:Addr}{es:Ai_}{ep:Nat}{t:SetTable}{vs:Lu_}{kss:List (Ls_)}
theorem Zgq {j:Nat}(hd:t.dummies=#[]):(t.put j).1.dummies=#[]∧(t.put j).1.place.size=t.place.size+1∧(t.put j).1.mask=t.mask∧(t.put j).1.led=t.led∧(t.put j).1.plain=t.plain:=by
 unfold SetTable.put
 refine⟨?_,?_,rfl,rfl,rfl⟩
 ·show (if has t.dummies j then _ else _)=_
  rw[hd,if_neg (by simp[Zds])]
 ·have:=(Z1M t.place (below t.place j) j).length_eq
  simpa using this
theorem Z7S {es':Ai_}{t':SetTable}{Q:Unit→Shared→Prop}(x:BSet prog w s.heap a es ep t)(few:es'.size<scanBound)(fits:t'.fits es'.size=true)(led:t'.led=t.led)(pl:t'.plain=false)
  (h:∀ h',Jl a s.heap h'→BSet prog w h' a es' (ep+1) t'→Q () { s with heap:=h' }):wpAny (model prog w) A (storeSet a es' t') Q E s:=by
 obtain⟨o,ho,hex,hd⟩:=x.obj
 have hg:(s.heap.update a (Z51 es' t')).get? a=some { o with data:=.set es' (ep+1) t' }:=by
  have:=Yx (Z51 es' t') ho (by rw[putSet_of es' t' hd];rfl)
  rw[putSet_of es' t' hd] at this;exact this
 exact ZhP ho hd (h _ (Y0 s.heap a (Z51 es' t')) ⟨⟨_,hg,hex,rfl⟩,few,fits,led.trans x.led,.inr pl⟩) (Nm few)
theorem Z6I (es:Ai_){order:Array Nat}(h:order.toList.Perm (Jg es.size)):(order.filterMap (es[·]?)).toList.Perm es.toList:=by
 rw[Array.toList_filterMap]
 refine (h.filterMap _).trans (Z7x ?_)
 have:=PySem.List.filterMap_getElem?_range_length es.toList
 simpa using this
theorem Z86 {Q:Unit→Shared→Prop}{n k:Nat}(x:BSet prog w s.heap a es ep t)(hk:sizeAbove n=2 ^ k)(hz:sizeAbove n≤sizeLine)(hl:es.size<sizeAbove n)(pl:t.plain=false)
  (h:∀ h' es' t',Jl a s.heap h'→es'.toList.Perm es.toList→t'.mask=sizeAbove n-1→t'.dummies=#[]→BSet prog w h' a es' (ep+1) t'→Q () { s with heap:=h' }):wpAny (model prog w) A (setRelay a n) Q E s:=by
 obtain⟨o,ho,hex,hd⟩:=x.obj
 obtain⟨t',order,e,m,d,ps,ld,p,hp⟩:=Z43 (t:=t) (hs:=es.map (·.1)) hk (by simpa using hl)
 have hp':order.toList.Perm (Jg es.size):=by simpa using hp
 have op:=Z6I es hp'
 have os:(order.filterMap (es[·]?)).size=es.size:=by rw[← Zm,op.length_eq,Zm]
 unfold setRelay
 refine Z0 (Yj ho hd x.fits ?_)
 dsimp only
 rw[if_neg (by lia)]
 rw[e]
 refine Z0 ?_
 wp_delta
 dsimp only
 rw[if_neg (by rw[os];simp)]
 refine Z5 ?_
 refine Z7S x (by rw[os];exact x.few) ?_ ld (p.trans pl) fun h' sb B=>h h' _ _ sb op m d B
 unfold QH Z1G
 rw[os,ps,d,m]
 simp
 lia
theorem Z7b {k:Str}{ks:Ls_}{c:Addr}{Q:Bool→Shared→Prop}(hk:CH prog w s.heap (k::ks) c)(h:Q false s):wpAny (model prog w) A (hashByValue 8 (.ref c)) Q E s:=by
 have hT:=hk.typeIs
 obtain⟨o,items,n,ho,_,hd,hi⟩:=hk
 unfold hashByValue
 refine Z0 (Z59 hT F.slot_tuple_hash.lookup ?_)
 dsimp only
 refine Z0 (GI ho hd ?_)
 refine Z0 ?_
 show wpAny _ _ (forIn items _ _) _ _ s
 rw[← Qh]
 obtain⟨its⟩:=items
 dsimp only at hi ⊢
 cases hi with
 |@cons _ v _ vs h1 h2 =>
  rw[MZ]
  obtain⟨u,rfl⟩:=MO h1
  refine Z0 (Z0 (Z5 ?_))
  exact Z5 (Z5 (Z5 h))
theorem Zfw {k:Str}{ks:Ls_}{x:Addr}{Q:Bool→Shared→Prop}(hu:A.units<cLine)(P:Z1P prog w s.heap a es ep t vs kss)(few:es.size<18)(tx:CH prog w s.heap (k::ks) x)(new:k::ks∉kss)
  (h:∀ h' b es' ep' t',Jl a s.heap h'→Z1P prog w h' a es' ep' t' (vs++[.ref x]) (kss++[k::ks])→Q b { s with heap:=h',toks:=s.toks+((k::ks).length+1) }):wpAny (model prog w) A (setAdd a (.ref x)) Q E s:=by
 unfold setAdd
 refine Y5 (Z0 (wpAny_pyHash_tuple hu tx ?_))
 generalize tupleKeyHash (YD prog w) (k::ks)=hx
 have P':Z1P prog w ({ s with toks:=s.toks+((k::ks).length+1) }:Shared).heap a es ep t vs kss:=P
 have tx':CH prog w ({ s with toks:=s.toks+((k::ks).length+1) }:Shared).heap (k::ks) x:=tx
 have h':∀ h' b es' ep' t',Jl a ({ s with toks:=s.toks+((k::ks).length+1) }:Shared).heap h'→Z1P prog w h' a es' ep' t' (vs++[.ref x]) (kss++[k::ks])→Q b { ({ s with toks:=s.toks+((k::ks).length+1) }:Shared) with heap:=h' }:=h
 generalize ({ s with toks:=s.toks+((k::ks).length+1) }:Shared)=s1 at P' tx' h' ⊢
 clear h tx P
 obtain⟨o,ho,hex,hd⟩:=P'.b.obj
 unfold setAddHashed setAddHashedIn
 refine Y5 (Z0 (Yj ho hd P'.b.fits ?_))
 dsimp only
 rw[if_neg (by simp[byScan,Value.scannable])]
 refine Z0 ?_
 obtain⟨kk,hkk⟩:=P'.mask
 obtain⟨n0,n1,n2⟩:=Z9G hkk P'.dum P'.roomy hx
 unfold setSearch
 refine Z0f hu P' tx' new (fun j=>?_) 100000 0 n0 none rfl ?_ n1 (by rw[Jm];exact n2)
 ·dsimp only
  refine Z0 (Yj ho hd P'.b.fits ?_)
  dsimp only
  obtain⟨q1,q2,q3,q4,q5⟩:=Zgq (t:=t) (j:=j) P'.dum
  generalize t.put j=tp at q1 q2 q3 q4 q5 ⊢
  obtain⟨t1,p⟩:=tp
  dsimp only at q1 q2 q3 q4 q5 ⊢
  have ps:=P'.psize
  have hp:=Z1M es p (hx,YX x)
  rw[YO] at hp
  generalize insertAt es p (hx,YX x)=es1 at hp ⊢
  have sz:es1.size=es.size+1:=by simpa using hp.length_eq
  have hv:(es1.toList.map (·.2)).Perm (vs++[.ref x]):=by
   refine (hp.map _).trans ?_
   rw[JX]
   exact P'.perm.append_right _
  have tv:∀ h2,Jl a s1.heap h2→TupsAre prog w h2 (vs++[.ref x]) (kss++[k::ks]):=fun h2 sb =>
   (P'.tups.snoc tx').keep fun c ks' o' tc e=>by rw[sb.2 c (tc.ne ho hd)];exact e
  have tail:∀ t2:SetTable,t2.dummies=#[]→t2.place.size=es.size+1→t2.mask=t.mask→t2.led=t.led→t2.plain=false →
    wpAny (model prog w) A (do
     storeSet a es1 t2
     if (!false&&t2.tooFull)=true then do
       setRelay a (grown (es.size+1))
       pure true
      else pure true) Q E s1:=by
   intro t2 r1 r2 r3 r4 r5
   have f2:t2.fits es1.size=true:=by
    unfold QH Z1G
    rw[r1,r2,r3,sz]
    simp
    rcases P'.stage with ⟨e,z⟩|⟨e,z⟩ <;> rw[e] <;> lia
   have full:t2.tooFull=decide ((es.size+1)*5 ≥ t.mask*3):=by
    unfold SetTable.tooFull Z1G
    rw[r1,r2,r3]
    rfl
   refine Z0 (Z7S P'.b (by rw[sz];unfold scanBound;lia) f2 r4 r5 fun h1 sb B=>?_)
   rw[full]
   by_cases hf:(es.size+1)*5 ≥ t.mask*3
   ·rw[if_pos (by simpa using hf)]
    have e4:es.size=4∧t.mask=7:=by rcases P'.stage with ⟨e,z⟩|⟨e,z⟩ <;> lia
    have eg:grown (es.size+1)=20:=by rw[e4.1];rfl
    rw[eg]
    have sa:sizeAbove 20=32:=by decide
    refine Z0 (Z86 (k:=5) B (by rw[sa]) (by rw[sa];decide) (by rw[sa];lia) r5 fun h2 es2 t3 sb2 p2 m2 d2 B2=>Z5 ?_)
    rw[sa] at m2
    exact h' h2 _ _ _ _ (sb.trans sb2) ⟨B2,d2,.inr ⟨m2,by have:=p2.length_eq;simp at this;lia⟩,(p2.map _).trans hv,tv h2 (sb.trans sb2)⟩
   ·rw[if_neg (by simpa using hf)]
    refine Z5 (h' h1 _ _ _ _ sb ⟨B,r1,?_,hv,tv h1 sb⟩)
    rw[r3,sz]
    rcases P'.stage with ⟨e,z⟩|⟨e,z⟩
    ·exact .inl ⟨e,by lia⟩
    ·exact .inr ⟨e,by assumption⟩
  by_cases hpl:t1.plain=true
  ·rw[if_pos hpl]
   refine Z0 (Z7b tx' ?_)
   simp only[Zj,if_false]
   exact tail _ q1 (q2.trans (by rw[ps])) q3 q4 rfl
  ·rw[if_neg hpl]
   refine Z0 (Z5 ?_)
   simp only[if_true]
   exact tail t1 q1 (q2.trans (by rw[ps])) q3 q4 (by simpa using hpl)
 ·have:t.mask≤31:=by rcases P'.stage with ⟨e,-⟩|⟨e,-⟩ <;> lia
  unfold turns at n1
  lia
end
end Sg
namespace Sg
open PySem PyProof.Rows
section
variable {prog:Program}{w:World}{A:Around}{R:Result→Shared→Prop}
def Zfy (prog:Program)(w:World)(h:Heap)(a:Addr)(vs:Lu_)(kss:List (Ls_)):Prop:=∃ es ep t,Z1P prog w h a es ep t vs kss
theorem Z1P.keep {h h':Heap}{a:Addr}{es:Ai_}{ep:Nat}{t:SetTable}{vs:Lu_}{kss:List (Ls_)}(x:Z1P prog w h a es ep t vs kss)(k:∀ b o,(b=a∨∃ ks,CH prog w h ks b)→h.get? b=some o→h'.get? b=some o):Z1P prog w h' a es ep t vs kss :=
 ⟨x.b.keep fun o e=>k a o (.inl rfl) e,x.dum,x.stage,x.perm,x.tups.keep fun c ks o tc e=>k c o (.inr ⟨ks,tc⟩) e⟩
theorem CH.noIter {h:Heap}{ks:Ls_}{c I l:Addr}{i:Nat}(x:CH prog w h ks c)(it:h.IsTupleIter I l i):c≠I:=by
 rintro rfl
 obtain⟨o,its,n,e,e2,-⟩:=x
 obtain⟨o',e',c2,-⟩:=it
 rw[e] at e'
 cases e'
 rw[e2] at c2
 revert c2
 decide
theorem ZaI {h h':Heap}{I l:Addr}{i:Nat}(x:h.IsTupleIter I l i)(k:∀ o,h.get? I=some o→h'.get? I=some o):h'.IsTupleIter I l i:=let ⟨o,e,r⟩:=x;⟨o,k o e,r⟩
theorem Zg0 {h h':Heap}{l:Addr}{items:Au_}(x:h.IsTuple l items)(k:∀ o,h.get? l=some o→h'.get? l=some o):h'.IsTuple l items:=let ⟨o,e,r⟩:=x;⟨o,k o e,r⟩
theorem Z9L {I l S:Addr}{items:Au_}{kss:List (Ls_)}(hu:A.units+1<cLine)(hh:A.in1.handled=none)(hlI:l≠I)(hSI:S≠I)(hSl:S≠l)(few:kss.length≤18)(nd:kss.Nodup) :
  ∀ (k i:Nat) (s:Shared),kss.length-i=k→i≤kss.length→s.heap.IsTupleIter I l i→s.heap.IsTuple l items→TupsAre prog w s.heap items.toList kss→Zfy prog w s.heap S (items.toList.take i) (kss.take i) →
   (∀ h' tk,(∀ b o,b≠S→b≠I→s.heap.get? b=some o→h'.get? b=some o)→Zfy prog w h' S items.toList kss→R (.ok (.ret .none)) { s with heap:=h',toks:=tk }) →
   codeAny (model prog w) A (.builtin "set.update.loop" ⟨[.ref S,.ref I],[]⟩) R s:=by
 have W:=Walks.tuple (prog:=prog) (w:=w) (A:=A.in1) hh I l hlI items
 intro k
 induction k with
 |zero =>
  intro i s hk hi it hl tp T hR
  have e:i=kss.length:=by lia
  subst e
  have hlen:=tp.len
  rw[Zm] at hlen
  have hlen':items.toList.length=kss.length:=by rw[Zm];exact hlen
  rw[U5,← hlen',U5] at T
  refine Yf YY ?_
  rw[Jy JE _]
  show wpAny _ A.in1 (pyNext (.ref I)>>=_) _ _ s
  refine Z0 (W.done s _ _ (by rw[hlen];exact⟨it,hl⟩) fun h' tk kp=>?_)
  show wpAny _ A.in1 (ret YN) _ _ _
  obtain⟨es,ep,t,T⟩:=T
  refine Z5 (hR h' tk (fun b o _ hb e=>kp b o (by simp[hb]) e) ⟨es,ep,t,T.keep fun b o hb e=>kp b o ?_ e⟩)
  rcases hb with rfl|⟨ks,tb⟩
  ·simp[hSI]
  ·simp[tb.noIter it]
 |succ k ih =>
  intro i s hk hi it hl tp T hR
  have hlt:i<kss.length:=by lia
  have hlen:=tp.len
  rw[Zm] at hlen
  refine Yf YY ?_
  rw[Jy JE _]
  show wpAny _ A.in1 (pyNext (.ref I)>>=_) _ _ s
  refine Z0 (W.item i s _ _ (by lia) ⟨it,hl⟩ fun v h1 tk1 hv st1 kp=>?_)
  obtain⟨it1,hl1⟩:=st1
  have ext1:∀ b o,b≠I→s.heap.get? b=some o→h1.get? b=some o:=fun b o hb e=>kp b o (by simp[hb]) e
  have tp1:TupsAre prog w h1 items.toList kss:=tp.keep fun c ks o tc e=>ext1 c o (tc.noIter it) e
  obtain⟨c,k0,ks0,hc,hks,tc⟩:=tp1.at i hlt
  rw[J0,hv] at hc
  cases hc
  show wpAny _ A.in1 (holding [YX c] (setAdd S (.ref c))>>=_) _ _ _
  obtain⟨es,ep,t,T⟩:=T
  have T1:Z1P prog w h1 S es ep t (items.toList.take i) (kss.take i):=T.keep fun b o hb e=>by
   rcases hb with rfl|⟨ks,tb⟩
   ·exact ext1 b o hSI e
   ·exact ext1 b o (tb.noIter it) e
  have hsz:es.size=i:=by
   have h3:=T1.perm.length_eq
   rw[Z3,Zm,ZC,Zm] at h3
   lia
  have new:k0::ks0∉kss.take i:=by
   intro m
   obtain⟨j,hj,e⟩:=Uo m
   rw[ZC] at hj
   rw[M3,← hks] at e
   exact QL.mp nd j i (by lia) hlt (by lia) e
  refine Z0 (Y5 (Zfw (s:={ s with heap:=h1,toks:=tk1 }) hu T1 (by lia) tc new fun h2 b es2 ep2 t2 sb T2=>?_))
  have e3:items.toList.take i++[YX c]=items.toList.take (i+1):=by
   rw[Ba,J0,hv]
   rfl
  have e4:kss.take i++[k0::ks0]=kss.take (i+1):=by
   rw[Ba,Za hlt,hks]
   rfl
  rw[e3,e4] at T2
  obtain⟨oS,hoS,-,hdS⟩:=T1.b.obj
  have x2:∀ b o,b≠S→h1.get? b=some o→h2.get? b=some o:=fun b o hb e=>by rw[sb.2 b hb];exact e
  refine Z5 ⟨UZ JE _,ih (i+1) { s with heap:=h2,toks:=_ } (by lia) hlt
   (ZaI it1 fun o e=>x2 I o (GR hSI) e) (Zg0 hl1 fun o e=>x2 l o (GR hSl) e) (tp1.keep fun c' ks o tc' e=>x2 c' o (tc'.ne hoS hdS) e) ⟨_,_,_,T2⟩ fun h3 tk3 kp3 T3=>?_⟩
  exact hR h3 tk3 (fun b o hb hb2 e=>kp3 b o hb hb2 (x2 b o hb (ext1 b o hb2 e))) T3
end
section
variable {prog:Program}{w:World}{A:Around}{E:Ps_}{s:Shared}
theorem call_set_tups {l:Addr}{items:Au_}{kss:List (Ls_)}{Q:Ps_}(hu:A.units+8<cLine)(hh:A.handled=none)(hl:s.heap.IsTuple l items)(tp:TupsAre prog w s.heap items.toList kss)(few:kss.length≤18)(nd:kss.Nodup)
  (h:∀ (h':Heap) (tk:Nat),Zfy prog w h' s.heap.objs.size items.toList kss→(∀ b o,s.heap.get? b=some o→h'.get? b=some o)→Q (.ref s.heap.objs.size) { s with heap:=h',toks:=tk }) :
  wpAny (model prog w) A (call (.type "set") [.ref l]) Q E s:=by
 have hl1:(s.heap.push (Ms w)).IsTuple l items:=hl.push _
 have tp1:TupsAre prog w (s.heap.push (Ms w)) items.toList kss:=tp.keep fun c ks o tc e=>Z2 _ e
 obtain⟨⟨ocls,odict,odata,oslots⟩,hol,cl,nl,dl⟩:=hl
 simp only at cl dl
 subst cl;subst dl
 refine DW hol F.sub_tuple_set F.sub_tuple_frozenset (by decide) (fun A' E' Q' hA hA2 hQ=>M4 hl1 (FV ?_)) h
 have ls:l<s.heap.objs.size:=ZB hol
 have zs:(s.heap.push (Ms w)).objs.size=s.heap.objs.size+1:=Nj ..
 refine Z9L (by lia) (by simp[hA,hh]) (by rw[zs];exact ZI (Yg ls)) (by rw[zs];exact ZI (U9 _)) (NA ls) few nd (kss.length-0) 0 _ rfl (Jv _)
  ⟨_,Zu _ rfl,rfl,rfl⟩ (hl1.push _) (tp1.keep fun c ks o tc e=>Z2 _ e) ?t0 fun h' tk kp T=>hQ h' tk T fun b o e=>?fin
 case t0 =>
  exact⟨#[],0,_,⟨⟨_,Z2 _ (Zu _ rfl),⟨rfl,rfl,rfl⟩,rfl⟩,by decide,rfl,rfl,.inl rfl⟩,rfl,.inl ⟨rfl,by decide⟩,U6 _,.nil⟩
 case fin =>
  have hb:b<s.heap.objs.size:=ZB e
  exact kp b o (ZI hb) (by rw[zs];exact ZI (Yg hb)) (Z2 _ (Z2 _ e))
end
end Sg
namespace L2
open PySem PySem.Spec PyProof.Rows
inductive leT:Th→Th→Prop where
 |s {a b:Str} (h:leS a b):leT (.str a) (.str b)
 |ii {a b c d:Int} (h:a<c∨(a=c∧b≤d)):leT (.tup [.int a,.int b]) (.tup [.int c,.int d])
 |ss {a b c d:Str} (h:(leS a c∧a≠c)∨(a=c∧leS b d)):leT (.tup [.str a,.str b]) (.tup [.str c,.str d])
theorem Zc3 {x y:Th}(h1:leT x y)(h2:leT y x):x=y:=by
 cases h1 with
 |s h=>cases h2 with|s h'=>rw[DO h h']
 |@ii a b c d h=>cases h2 with
  |ii h' =>
   have e1:a=c:=by lia
   have e2:b=d:=by lia
   rw[e1,e2]
 |ss h=>cases h2 with
  |ss h' =>
   rcases h with ⟨q,n⟩|⟨e,q⟩
   ·rcases h' with ⟨q2,n2⟩|⟨e2,q2⟩
    ·exact absurd (DO q q2) n
    ·exact absurd e2.symm n
   ·subst e
    rcases h' with ⟨q2,n2⟩|⟨e2,q2⟩
    ·exact absurd rfl n2
    ·rw[DO q q2]
theorem D3:∀ {a b:Lt_},a.Perm b→a.Pairwise leT→b.Pairwise leT→a=b
 |[],b,p,_,_=>by rw[ZhL.mp p]
 |x::a,[],p,_,_=>absurd p.length_eq (by simp)
 |x::a,y::b,p,ha,hb=>by
  have hxy:x=y:=by
   have h1:x∈y::b:=p.mem_iff.mp Z1
   have h2:y∈x::a:=p.mem_iff.mpr Z1
   rcases Zp.mp h1 with h1|h1
   ·exact h1
   ·rcases Zp.mp h2 with h2|h2
    ·exact h2.symm
    ·exact Zc3 ((YE.mp ha).1 y h2) ((YE.mp hb).1 x h1)
  subst hxy
  rw[D3 p.cons_inv (YE.mp ha).2 (YE.mp hb).2]
open Classical in
noncomputable def DG (ts:Lt_):Lt_:=if h:∃ r:Lt_,r.Perm ts∧r.Pairwise leT then h.choose else []
theorem WF {ts r:Lt_}(hp:r.Perm ts)(hs:r.Pairwise leT):DG ts=r:=by
 have h:∃ r:Lt_,r.Perm ts∧r.Pairwise leT:=⟨r,hp,hs⟩
 unfold DG
 rw[dif_pos h]
 exact D3 (h.choose_spec.1.trans hp.symm) h.choose_spec.2 hs
inductive Sk where|s|ii|ss
noncomputable def isIn:Th→Bool
 |.int _=>true
 |_=>false
noncomputable def Zdi:Th→Bool
 |.str _=>true
 |_=>false
noncomputable def Zfh (f:Th→Bool):Th→Bool
 |.tup [a,b]=>f a&&f b
 |_=>false
noncomputable def okK:Sk→Th→Bool
 |.s,t=>Zdi t
 |.ii,t=>Zfh isIn t
 |.ss,t=>Zfh Zdi t
theorem Z4x {t:Th}(h:isIn t=true):∃ i,t=.int i:=by
 cases t <;> first|exact⟨_,rfl⟩|cases h
theorem Cj {t:Th}(h:Zdi t=true):∃ i,t=.str i:=by
 cases t <;> first|exact⟨_,rfl⟩|cases h
theorem Z5L {f:Th→Bool}{t:Th}(h:Zfh f t=true):∃ a b,t=.tup [a,b]∧f a=true∧f b=true:=by
 cases t with
 |tup l =>
  cases l with
  |nil=>cases h
  |cons a l=>cases l with
   |nil=>cases h
   |cons b l=>cases l with
    |nil=>exact⟨a,b,rfl,(ZX _ _ ▸ h:_∧_).1,(ZX _ _ ▸ h:_∧_).2⟩
    |cons=>cases h
 |_=>cases h
noncomputable def okT (ts:Lt_):Bool:=ts.all (okK .s)||ts.all (okK .ii)||ts.all (okK .ss)
noncomputable def nuV:Value→V
 |.none=>.non
 |.bool b=>.bl b
 |.int i _=>.int i
 |.str x _=>.str x
 |.bytes b _=>.byt b
 |.float b _=>.flt b
 |.ref a=>.ref a
 |.type n=>.ty n
 |_=>.non
theorem Zde {v:V}{u:Value}(r:RelV v u):nuV u=v:=by
 cases v <;> (first|(obtain⟨t,rfl⟩:=r;rfl)|(cases r;rfl))
theorem ZdG:∀ {ys:Lv_} {us:Lu_},Uj ys us→ys=us.map nuV:=by
 intro ys us h
 induction h with
 |nil=>rfl
 |cons r t ih=>rw[Zt,Zde r,← ih]
theorem Z5b:∀ {ys:Lv_} {us:Lu_},Uj ys us→∀ u∈us,RelV (nuV u) u:=by
 intro ys us h
 induction h with
 |nil=>intro u h;cases h
 |cons r t ih =>
  intro u h
  rcases Zp.mp h with rfl|h
  ·rw[Zde r];exact r
  ·exact ih u h
theorem D9:∀ {us:Lu_},(∀ u∈us,RelV (nuV u) u)→Uj (us.map nuV) us
 |[],_=>.nil
 |u::us,h=>.cons (h u Z1) (D9 fun u m=>h u (Z4 _ m))
theorem Z27 {us out:Lu_}{ys:Lv_}{ts:Lt_}(r:Uj ys us)(θ:Value→Th)(hθ:us.map θ=ts)(hp:out.Perm us)(hpw:out.Pairwise fun a b=>leT (θ a) (θ b)) :
  ∃ zs:List (V×Th),zs.Perm (ys.zip ts)∧Uj (zs.map (·.1)) out∧zs.map (·.2)=DG ts:=by
 refine⟨out.map fun u=>(nuV u,θ u),?_,?_,?_⟩
 ·have e:ys.zip ts=us.map fun u=>(nuV u,θ u):=by
   rw[ZdG r,← hθ,List.zip_map']
  rw[e]
  exact hp.map _
 ·rw[Jh]
  exact D9 fun u m=>Z5b r u (hp.mem_iff.mp m)
 ·rw[Jh]
  refine (WF ?_ (Ye.mpr hpw)).symm
  rw[← hθ]
  exact hp.map _
theorem Z3v {K:Fg_}{H:Hp}:∀ {ys:Lv_} {ts:Lt_},J6 K H ys ts→∀ z∈ys.zip ts,JF K H z.1 z.2:=by
 intro ys ts
 induction ts generalizing ys with
 |nil=>intro b z h;cases b;cases h
 |cons t ts ih=>intro b z h;cases b with
  |cons b r =>
   rw[Qk] at h
   rcases Zp.mp h with rfl|h
   ·exact b
   ·exact ih r z h
theorem Wt {K:Fg_}{H:Hp}:∀ {zs:List (V×Th)},(∀ z∈zs,JF K H z.1 z.2)→J6 K H (zs.map (·.1)) (zs.map (·.2))
 |[],_=>.nil
 |z::zs,h=>.cons (h z Z1) (Wt fun z m=>h z (Z4 _ m))
theorem Zhm {x1 x2 y1 y2:Int}(h:(decide (y1<x1)||(!decide (x1<y1)&&decide (y2<x2)))=false):leT (.tup [.int x1,.int x2]) (.tup [.int y1,.int y2]):=by
 refine .ii ?_
 simp only[MB,Dr,Fs,decide_eq_false_iff_not,decide_eq_true_eq] at h
 lia
theorem Zhk {x1 x2 y1 y2:List Nat}(h:(decide (y1<x1)||(!decide (x1<y1)&&decide (y2<x2)))=false):leT (.tup [.str ⟨x1.toArray⟩,.str ⟨x2.toArray⟩]) (.tup [.str ⟨y1.toArray⟩,.str ⟨y2.toArray⟩]):=by
 refine .ss ?_
 simp only[MB,Dr,Fs,decide_eq_false_iff_not,decide_eq_true_eq] at h
 obtain⟨a1,a2⟩:=h
 have le1:x1≤y1:=MX.mp a1
 by_cases q:x1<y1
 ·refine .inl ⟨le1,fun z=>?_⟩
  have z':x1=y1:=congrArg (fun s:Str=>s.cps.toList) z
  rw[z'] at q
  exact QN _ q
 ·have e:x1=y1:=ZdC le1 (MX.mp q)
  rw[e]
  exact .inr ⟨rfl,a2.elim (fun z=>absurd z q) fun z=>MX.mp z⟩
theorem Zhb {t:Th}(h:okK .ii t=true):∃ i j,t=.tup [.int i,.int j]:=by
 obtain⟨a,b,rfl,ha,hb⟩:=Z5L h
 obtain⟨i,rfl⟩:=Z4x ha
 obtain⟨j,rfl⟩:=Z4x hb
 exact⟨i,j,rfl⟩
theorem Zdb {t:Th}(h:okK .ss t=true):∃ i j,t=.tup [.str i,.str j]:=by
 obtain⟨a,b,rfl,ha,hb⟩:=Z5L h
 obtain⟨i,rfl⟩:=Cj ha
 obtain⟨j,rfl⟩:=Cj hb
 exact⟨i,j,rfl⟩
noncomputable def ZhZ (h:Heap)(u:Value):Th:=let k:=Sg.pairKey Sg.intAtom Sg.intAtom h u;.tup [.int (show Int from k.1),.int (show Int from k.2)]
noncomputable def ZhY (h:Heap)(u:Value):Th:=let k:=Sg.pairKey Sg.strAtom Sg.strAtom h u;.tup [.str ⟨Ql (show List Nat from k.1)⟩,.str ⟨Ql (show List Nat from k.2)⟩]
section
variable {X:Cx}{K:Fg_}{e:Expr}{es:Le_}{fs:FL}{p pos:Pos}{pins:Pn_}{σ:St}{H:Hp}{s:Shared}
theorem Z4d (I:Inv X pins σ H s){Y Z:Sg.Atom}{v:V}{u:Value}{x y:Th}{k:Y.O.α}{l:Z.O.α}(b:JF X.K H v (.tup [x,y]))(r:RelV v u)(hy:∀ v u,JF X.K H v x→RelV v u→Y.keyOf u=some k)(hz:∀ v u,JF X.K H v y→RelV v u→Z.keyOf u=some l){h:Heap}(hX:Sg.Ext s.heap h):Sg.IsPair Y Z h u (k,l):=by
 cases b with
 |tup e' b' =>
  obtain⟨v1,v2,rfl,w1,w2⟩:=b'.two
  cases r
  obtain⟨its,rv,⟨o,ho,hc,n,hd⟩,-⟩:=I.tuple e'
  cases rv with
  |cons q1 rv=>cases rv with
   |cons q2 rv =>
    cases rv
    exact⟨_,o,_,_,n,rfl,hX _ _ ho,hc,hd,hy _ _ w1 q1,hz _ _ w2 q2⟩
theorem Zfd {v:V}{u:Value}{i:Int}(b:JF K H v (.int i))(r:RelV v u):Sg.intAtom.keyOf u=some i:=by
 cases b
 obtain⟨t,rfl⟩:=r
 rfl
theorem Zfc {v:V}{u:Value}{i:Str}(b:JF K H v (.str i))(r:RelV v u):Sg.strAtom.keyOf u=some i.cps.toList:=by
 cases b
 obtain⟨t,rfl⟩:=r
 rfl
theorem ZeG (I:Inv X pins σ H s){v:V}{u:Value}{i j:Int}(b:JF X.K H v (.tup [.int i,.int j]))(r:RelV v u){h:Heap}(hX:Sg.Ext s.heap h):Sg.IsPair Sg.intAtom Sg.intAtom h u ((i:Int),(j:Int)):=Z4d I b r (fun _ _=>Zfd) (fun _ _=>Zfd) hX
theorem ZeF (I:Inv X pins σ H s){v:V}{u:Value}{i j:Str}(b:JF X.K H v (.tup [.str i,.str j]))(r:RelV v u){h:Heap}(hX:Sg.Ext s.heap h):Sg.IsPair Sg.strAtom Sg.strAtom h u (i.cps.toList,j.cps.toList):=Z4d I b r (fun _ _=>Zfc) (fun _ _=>Zfc) hX
theorem Z0d (I:Inv X pins σ H s){ys:Lv_}{ts:Lt_}{us:Lu_}(b:J6 X.K H ys ts)(r:Uj ys us)(hk:okT ts=true)(h:Heap)(hX:Sg.Ext s.heap h) :
  ∃ (O:KeyOrd) (key:Keyed→O.α) (G:Keyed→Prop) (kd:Nn) (θ:Value→Th),Sg.Sorts X.prog X.w h us O key G kd∧us.map θ=ts ∧
   ∀ a∈us,∀ c∈us,O.kle (key (a,a)) (key (c,c))→leT (θ a) (θ c):=by
 unfold okT at hk
 rw[G9,G9] at hk
 rcases hk with (hk|hk)|hk
 ·obtain⟨ss,hs⟩:∃ ss,Na ts=some ss:=by
   clear b
   induction ts with
   |nil=>exact⟨[],rfl⟩
   |cons t ts ih =>
    rw[Gi,ZX] at hk
    obtain⟨ss,e⟩:=ih hk.2
    cases t with
    |str x=>exact⟨x::ss,by unfold Na;rw[e];rfl⟩
    |_=>cases hk.1
  have hS:=Z12 hs b r
  refine⟨_,_,_,_,fun u=>.str (strOf u),Sg.sorts_strs h hS,?_,fun a ha c hc hle=>?_⟩
  ·have e1:=hS.strs
   have e2:∀ {ts:Lt_} {ss:Ls_},Na ts=some ss→ts=ss.map Th.str:=by
    intro ts
    induction ts with
    |nil=>intro ss e;cases e;rfl
    |cons t ts ih =>
     intro ss e
     cases t with
     |str x =>
      unfold Na at e
      cases h2:Na ts with
      |none=>rw[h2] at e;cases e
      |some ss'=>rw[h2] at e;cases e;rw[Zt,← ih h2]
     |_=>cases e
   rw[e2 hs,← e1,Jh]
   rfl
  ·obtain⟨x,t,rfl⟩:=hS.all a ha
   obtain⟨y,t',rfl⟩:=hS.all c hc
   exact .s (MX.mp (of_decide_eq_false hle))
 ·have pr:∀ (ys:Lv_) (ts:Lt_) (us:Lu_),J6 X.K H ys ts→Uj ys us→ts.all (okK .ii)=true →
    (∀ u∈us,∃ k,Sg.IsPair Sg.intAtom Sg.intAtom h u k)∧us.map (ZhZ h)=ts:=by
   intro ys ts us b r hk
   induction ts generalizing ys us with
   |nil=>cases b;cases r;exact⟨fun u m=>absurd m (by simp),rfl⟩
   |cons t ts ih =>
    cases b with
    |cons b1 b2=>cases r with
     |cons r1 r2 =>
      rw[Gi,ZX] at hk
      obtain⟨i1,i2⟩:=ih _ _ b2 r2 hk.2
      obtain⟨i,j,rfl⟩:=Zhb hk.1
      have q:=ZeG I b1 r1 hX
      refine⟨fun u m=>?_,?_⟩
      ·rcases Zp.mp m with rfl|m
       ·exact⟨_,q⟩
       ·exact i1 u m
      ·rw[Zt,i2]
       unfold ZhZ
       rw[Sg.pairKey_of q]
  obtain⟨h1,h2⟩:=pr _ _ _ b r hk
  refine⟨_,_,_,_,ZhZ h,Sg.sorts_pairs Sg.intAtom Sg.intAtom h h1,h2,fun a ha c hc hle=>?_⟩
  have hle:(Sg.lexOrd Sg.intOrd Sg.intOrd).blt (Sg.pairKey Sg.intAtom Sg.intAtom h c) (Sg.pairKey Sg.intAtom Sg.intAtom h a)=false:=hle
  unfold ZhZ
  generalize Sg.pairKey Sg.intAtom Sg.intAtom h a=x at hle
  generalize Sg.pairKey Sg.intAtom Sg.intAtom h c=y at hle
  obtain⟨x1,x2⟩:=x
  obtain⟨y1,y2⟩:=y
  exact @Zhm x1 x2 y1 y2 hle
 ·have pr:∀ (ys:Lv_) (ts:Lt_) (us:Lu_),J6 X.K H ys ts→Uj ys us→ts.all (okK .ss)=true →
    (∀ u∈us,∃ k,Sg.IsPair Sg.strAtom Sg.strAtom h u k)∧us.map (ZhY h)=ts:=by
   intro ys ts us b r hk
   induction ts generalizing ys us with
   |nil=>cases b;cases r;exact⟨fun u m=>absurd m (by simp),rfl⟩
   |cons t ts ih =>
    cases b with
    |cons b1 b2=>cases r with
     |cons r1 r2 =>
      rw[Gi,ZX] at hk
      obtain⟨i1,i2⟩:=ih _ _ b2 r2 hk.2
      obtain⟨i,j,rfl⟩:=Zdb hk.1
      have q:=ZeF I b1 r1 hX
      refine⟨fun u m=>?_,?_⟩
      ·rcases Zp.mp m with rfl|m
       ·exact⟨_,q⟩
       ·exact i1 u m
      ·rw[Zt,i2]
       unfold ZhY
       rw[Sg.pairKey_of q]
  obtain⟨h1,h2⟩:=pr _ _ _ b r hk
  refine⟨_,_,_,_,ZhY h,Sg.sorts_pairs Sg.strAtom Sg.strAtom h h1,h2,fun a ha c hc hle=>?_⟩
  have hle:(Sg.lexOrd strKind.toKeyOrd strKind.toKeyOrd).blt (Sg.pairKey Sg.strAtom Sg.strAtom h c) (Sg.pairKey Sg.strAtom Sg.strAtom h a)=false:=hle
  unfold ZhY
  generalize Sg.pairKey Sg.strAtom Sg.strAtom h a=x at hle
  generalize Sg.pairKey Sg.strAtom Sg.strAtom h c=y at hle
  obtain⟨x1,x2⟩:=x
  obtain⟨y1,y2⟩:=y
  exact @Zhk x1 x2 y1 y2 hle
theorem Inv.moved {s':Shared}(I:Inv X pins σ H s)(ho:s'.os=s.os)(hg:s'.gens=s.gens)(k:Sg.Ext s.heap s'.heap):Inv X pins σ H s':=by
 obtain⟨h',g',d',t',o'⟩:=s'
 cases hg
 cases ho
 have I':=I.kept (h':=h') (t':=t') k
 exact⟨I'.ok,I'.os,I'.bare,I'.base,I'.loc,I'.cell,I'.free,I'.freeC,I'.pin,I'.hok,I'.len⟩
def Zgd (K:Fg_):Lv_→Hp→VK→Prop:=fun xs H Q=>∃ p ys ts,xs=[.ref p]∧SqL K H p ys∧J6 K H ys ts∧okT ts=true ∧
 ∀ q (zs:List (V×Th)),H q=none→zs.Perm (ys.zip ts)→zs.map (·.2)=DG ts→Q (.ref q) (upd H q (.lst (zs.map (·.1))))
theorem Z79:MG X (.builtin "sorted") (Zgd X.K):=by
 intro pins s σ H xs us Q I r h
 obtain⟨p,ys,ts,rfl,hs,b,hk,q⟩:=h
 obtain⟨u,rfl,ru⟩:=vals1 r
 cases ru
 obtain⟨its,r',pl,hz⟩:=I.list hs
 have hi:=pl.isList
 have hlen:its.length≤sizeLine:=by rw[← r'.length];exact hz
 refine Sg.sorted_any fun A' hA=>collect_list hi ?_ hlen
 refine⟨hlen,?_⟩
 have hX:Sg.Ext s.heap ((s.heap.push (seqObj "list" #[] 0)).update s.heap.objs.size (Yy (·++its.toArray))):=fun b o e=>by
  rw[Ur _ _ _ _ (ZI (ZB e))]
  exact Z2 _ e
 obtain⟨O,key,G,kd,θ,S,hθ,hle⟩:=Z0d I b r' hk _ hX
 refine⟨O,key,G,kd,S,fun out h' ep a1 a2 a3 a4=>?_⟩
 obtain⟨zs,z1,z2,z3⟩:=Z27 r' θ hθ a1 (Ux (fun {a c} ha hc hac=>hle a (a1.mem_iff.mp ha) c (a1.mem_iff.mp hc) hac) a2)
 have hzs:((s.heap.push (seqObj "list" #[] 0)).update s.heap.objs.size (Yy (·++its.toArray))).objs.size=s.heap.objs.size+1:=by rw[Mv,Fg]
 dsimp only at a3 a4 ⊢
 rw[hzs] at a4 ⊢
 refine⟨.ref (s.heap.objs.size+1),upd H (s.heap.objs.size+1) (.lst (zs.map (·.1))),I.laid (t':=s.toks) (fun b u e=>a3 b u (hX b u e)) (UU _) ?_,rfl,q _ zs (I.hok.fresh (UU _)) z1 z3⟩
 refine⟨?_,out,ep,z2,a4⟩
 rw[z2.length,a1.length_eq]
 exact hlen
noncomputable def Z2B:Lt_→Option (Lt_)
 |[.lst ts]=>if okT ts=true then some (DG ts) else none
 |_=>none
noncomputable def Cp (fs:FL):FL:=fun d=>(fs d).bind Z2B
theorem Zbe (hg:Gl X "sorted") (hm:X.mg "sorted"=none) (ha:PBA X (e::es) fs)
  (he:starEach (e::es) X.env=(false,eval e X.env)::starEach es X.env) (hpl:(backTo pos (starEach es X.env)).any (·.1)=false):PF X (.Call (.Name "sorted" p) (e::es) [] pos) (Cp fs) :=
 PE.imp (Qv Z79 hg hm (by rfl) ha (by decide) (by decide) he hpl) fun σ H Q z_=>by
  obtain⟨O,d,T,R,e,q⟩:=z_
  unfold Cp at e
  cases hf:fs d with
  |none=>rw[hf] at e;cases e
  |some Ts =>
   rw[hf] at e
   change Z2B Ts=_ at e
   unfold Z2B at e
   split at e
   ·rename_i ts
    split at e
    ·rename_i hk
     cases e
     refine⟨O,d,_,R,hf,fun vs H1 s1 b1=>?_⟩
     obtain⟨u,rfl,bu⟩:=N7 b1
     obtain⟨a,xs,rfl,h1,b2⟩:=bu.lst
     refine⟨a,xs,ts,rfl,h1,b2.mono (Jp _ _),hk,fun q' zs hq z1 z2=>?_⟩
     refine q _ _ (s1.trans (Jq.upd hq)) ⟨q',_,rfl,s1.free hq,JB,?_⟩
     rw[← z2]
     refine Wt fun z m=>?_
     exact (Z3v b2 z (z1.mem_iff.mp m)).mono (Qy (Jq.upd hq) hq)
    ·cases e
   ·cases e
noncomputable abbrev ZaV (X:Cx)(a:Addr)(D:Ls_):HO:=.ext fun h=>Sg.TSetD X.prog X.w h a D
def Ziw (X:Cx):Lv_→Hp→VK→Prop:=fun xs H Q=>∃ p ys ts ss,xs=[.ref p]∧SqL X.K H p ys∧J6 X.K H ys ts∧Na ts=some ss∧ss.length<4000∧∀ q,H q=none→Q (.ref q) (upd H q (ZaV X q (Sg.metS ss)))
theorem Z3l (hc:X.calm=true):MG X (.type "set") (Ziw X):=by
 intro pins s σ H xs us Q I r h
 obtain⟨p,ys,ts,ss,rfl,hs,b,e,hl,q⟩:=h
 obtain⟨u,rfl,ru⟩:=vals1 r
 cases ru
 obtain⟨its,r',hi⟩:=G1 I hs
 have hS:=Z12 e b r'
 refine Sg.call_set_texts (I.ok.hd hc) hi hS (ZO (Nat.succ_lt_succ hl) (by decide)) fun h' tk T kp=>?_
 refine⟨.ref s.heap.objs.size,upd H s.heap.objs.size (ZaV X s.heap.objs.size (Sg.metS ss)),I.laid (t':=tk) kp (Zc _) ?_,rfl,q _ (I.hok.fresh (Zc _))⟩
 refine⟨T,?_,fun h1 h2 z k=>z.keep k⟩
 obtain⟨es,ep,t,T',-⟩:=T
 obtain⟨o,ho,-⟩:=T'.obj
 exact⟨o,ho⟩
def ZaY (X:Cx):Lv_→Hp→VK→Prop:=fun xs H Q=>∃ p D,xs=[.ref p]∧H p=some (ZaV X p D)∧∀ q,H q=none→Q (.ref q) (upd H q (.lst ((Ng D).map V.str)))
theorem Z7I {prog:Program}{w:World}{l:List (Int×Value)}(h:ElemsOf (YD prog w) l):StrsAre (l.map (·.2)) (l.map fun e=>Sg.txtOf e.2):=by
 induction l with
 |nil=>exact .nil
 |cons e l ih =>
  obtain⟨u,eq⟩:=Sg.el_txt h e Z1
  rw[Zt,Zt]
  generalize hx:Sg.txtOf e.2=x at eq ⊢
  rw[eq]
  exact .cons x u (ih fun z m=>h z (Z4 _ m))
theorem FX {vs us:Lu_}{ss:Ls_}(h:StrsAre us ss)(hp:vs.Perm us):StrsAre vs (vs.map strOf)∧(vs.map strOf).Perm ss:=by
 refine⟨strsAre_map vs fun v m=>h.all v (hp.mem_iff.mp m),?_⟩
 rw[← h.strs]
 exact hp.map _
theorem Z3k (hc:X.calm=true):MG X (.builtin "sorted") (ZaY X):=by
 intro pins s σ H xs us Q I r h
 obtain⟨p,D,rfl,hH,q⟩:=h
 obtain⟨u,rfl,ru⟩:=vals1 r
 cases ru
 obtain⟨⟨es,ep,t,T,hD⟩,-,-⟩:=I.hok p _ hH
 have hes:StrsAre (es.toList.map (·.2)) (Sg.txts es):=Z7I T.el
 refine Sg.sorted_any fun A' hA=>Sg.collect_set (hA.trans (I.ok.hd hc)) T.b fun s1 vs x1 g1 o1 hp=>?_
 obtain⟨v1,v2⟩:=FX hes hp
 have hlen:vs.length≤sizeLine:=by
  rw[hp.length_eq,Z3,Zm]
  exact Nm T.few
 refine⟨hlen,_,_,_,_,Sg.sorts_strs s1.heap v1,fun out h' e a1 a2 a3 a4=>?_⟩
 obtain⟨w1,w2⟩:=FX v1 a1
 have hs:Ng D=out.map strOf:=by
  refine Fu ((w2.trans v2).trans hD) (Ye.mpr (Ux (fun {a c} ha hc hac=>?_) a2))
  obtain⟨x,t,rfl⟩:=w1.all a ha
  obtain⟨y,t',rfl⟩:=w1.all c hc
  exact MX.mp (of_decide_eq_false hac)
 have I1:Inv X pins σ H s1:=I.moved o1 g1 x1
 refine⟨.ref s1.heap.objs.size,upd H s1.heap.objs.size (.lst ((Ng D).map V.str)),I1.laid (t':=s1.toks) a3 (Zc _) ?_,rfl,q _ (I1.hok.fresh (Zc _))⟩
 refine⟨?_,out,e,?_,a4⟩
 ·rw[Z3,hs,Z3,a1.length_eq]
  exact hlen
 ·rw[hs]
  exact Z21 w1
noncomputable def Fz:Lt_→Option (Lt_)
 |[.lst ts]=>(Na ts).bind fun ss=>if ss.length<4000 then some ((Ng (Sg.metS ss)).map Th.str) else none
 |_=>none
noncomputable def Nv (fs:FL):FL:=fun d=>(fs d).bind Fz
theorem Z6z {p2 pos2:Pos} (hc:X.calm=true) (hg:Gl X "sorted") (hm:X.mg "sorted"=none) (hg2:Gl X "set") (hm2:X.mg "set"=none) (ha:PBA X (e::es) fs)
  (he:starEach (e::es) X.env=(false,eval e X.env)::starEach es X.env) (hpl:(backTo pos2 (starEach es X.env)).any (·.1)=false)
  (he2:starEach [.Call (.Name "set" p2) (e::es) [] pos2] X.env=(false,eval (.Call (.Name "set" p2) (e::es) [] pos2) X.env)::starEach [] X.env) (hpl2:(backTo pos (starEach ([]:Le_) X.env)).any (·.1)=false) :
  PF X (.Call (.Name "sorted" p) [.Call (.Name "set" p2) (e::es) [] pos2] [] pos) (Nv fs) :=
 PE.imp (Qv (Z3k hc) hg hm (by rfl) (Nt (DK (Z3l hc) hg2 hm2 (by rfl) ha (by decide) (by decide) he hpl) W0 he2) (by decide) (by decide) he2 hpl2) fun σ H Q z_=>by
  obtain⟨O,d,T,R,e,q⟩:=z_
  unfold Nv at e
  cases hf:fs d with
  |none=>rw[hf] at e;cases e
  |some Ts =>
   rw[hf] at e
   change Fz Ts=_ at e
   unfold Fz at e
   split at e
   ·rename_i ts
    cases hy:Na ts with
    |none=>rw[hy] at e;cases e
    |some ss =>
     rw[hy] at e
     change (if ss.length<4000 then _ else _)=_ at e
     split at e
     ·rename_i hl
      cases e
      refine⟨O,d,_,R,hf,fun vs H1 s1 b1=>?_⟩
      obtain⟨u,rfl,bu⟩:=N7 b1
      obtain⟨a,xs,rfl,h1,b2⟩:=bu.lst
      refine⟨a,xs,ts,ss,rfl,h1,b2.mono (Jp _ _),hy,hl,fun q1 hq1=>?_⟩
      refine⟨q1,Sg.metS ss,rfl,JB,fun q2 hq2=>?_⟩
      have n2:q2≠q1:=fun z=>by rw[z,JB] at hq2;cases hq2
      have hq2':H1 q2=none:=by rw[YA n2] at hq2;exact hq2
      refine q _ _ ((s1.trans (Jq.upd hq1)).trans (Jq.upd hq2)) ⟨q2,_,rfl,s1.free hq2',JB,Z0J _⟩
     ·cases e
   ·cases e
end
noncomputable def Zhs:Th→List Str
 |.tup [.str a,.str b]=>[a,b]
 |_=>[]
theorem Z6u {ts ts':Lt_}(h:ts'.Perm ts):DG ts'=DG ts:=by
 by_cases hx:∃ r:Lt_,r.Perm ts∧r.Pairwise leT
 ·obtain⟨r,h1,h2⟩:=hx
  rw[WF h1 h2,WF (h1.trans h.symm) h2]
 ·have hy:¬ ∃ r:Lt_,r.Perm ts'∧r.Pairwise leT:=fun ⟨r,h1,h2⟩=>hx ⟨r,h1.trans h,h2⟩
  unfold DG
  rw[dif_neg hx,dif_neg hy]
section
variable {X:Cx}{K:Fg_}{e:Expr}{es:Le_}{fs:FL}{p pos:Pos}{pins:Pn_}{σ:St}{H:Hp}{s:Shared}
theorem Z5h (I:Inv X pins σ H s):∀ {ts:Lt_} {ys:Lv_} {us:Lu_},ts.all (okK .ss)=true→J6 X.K H ys ts→Uj ys us→Sg.TupsAre X.prog X.w s.heap us (ts.map Zhs)
 |[],_,_,_,b,r=>by cases b;cases r;exact .nil
 |t::ts,_,_,h,b,r=>by
  rw[Gi,ZX] at h
  cases b with
  |cons b1 b2=>cases r with
   |cons r1 r2 =>
    obtain⟨i,j,rfl⟩:=Zdb h.1
    cases b1 with
    |tup e' b' =>
     obtain⟨v1,v2,rfl,w1,w2⟩:=b'.two
     cases r1
     cases w1
     cases w2
     obtain⟨its,rv,⟨o,ho,hc,n,hd⟩,-⟩:=I.tuple e'
     cases rv with
     |cons q1 rv=>cases rv with
      |cons q2 rv =>
       cases rv
       obtain⟨t1,rfl⟩:=q1
       obtain⟨t2,rfl⟩:=q2
       refine .cons ⟨o,_,n,ho,hc,hd,.cons ?_ (.cons ?_ .nil)⟩ (Z5h I h.2 b2 r2)
       ·show UF i (.str i t1)=true
        simp[UF]
       ·show UF j (.str j t2)=true
        simp[UF]
theorem Z6A {vs us:Lu_}(hp:vs.Perm us):∀ {ys:Lv_} {ts:Lt_},Uj ys us→J6 K H ys ts→∃ ys' ts',Uj ys' vs∧J6 K H ys' ts'∧ts'.Perm ts∧(ys'.zip ts').Perm (ys.zip ts):=by
 induction hp with
 |nil=>intro ys ts r b;exact⟨ys,ts,r,b,.refl _,.refl _⟩
 |cons x _ ih =>
  intro ys ts r b
  cases r with
  |cons r1 r2=>cases b with
   |cons b1 b2 =>
    obtain⟨ys',ts',h1,h2,h3,h4⟩:=ih r2 b2
    exact⟨_::ys',_::ts',.cons r1 h1,.cons b1 h2,h3.cons _,h4.cons _⟩
 |swap x y l =>
  intro ys ts r b
  cases r with
  |cons r1 r=>cases r with
   |cons r2 r=>cases b with
    |cons b1 b=>cases b with
     |cons b2 b=>exact⟨_,_,.cons r2 (.cons r1 r),.cons b2 (.cons b1 b),.swap _ _ _,.swap _ _ _⟩
 |trans _ _ ih1 ih2 =>
  intro ys ts r b
  obtain⟨ys1,ts1,h1,h2,h3,h4⟩:=ih2 r b
  obtain⟨ys2,ts2,g1,g2,g3,g4⟩:=ih1 h1 h2
  exact⟨ys2,ts2,g1,g2,g3.trans h3,g4.trans h4⟩
noncomputable abbrev ZdR (X:Cx)(a:Addr)(us:Lu_):HO:=.ext fun h=>∃ es ep t,Sg.BSet X.prog X.w h a es ep t∧(es.toList.map (·.2)).Perm us
def Zix (X:Cx):Lv_→Hp→VK→Prop:=fun xs H Q=>∃ p ys ts,xs=[.ref p]∧SqT X.K H p ys∧J6 X.K H ys ts∧ts.all (okK .ss)=true∧(ts.map Zhs).Nodup∧ts.length≤18∧∀ q us,H q=none→Uj ys us→Q (.ref q) (upd H q (ZdR X q us))
theorem Za3 (hu:X.A.units+64<cLine) (hc:X.calm=true):MG X (.type "set") (Zix X):=by
 intro pins s σ H xs us Q I r h
 obtain⟨p,ys,ts,rfl,hs,b,hk,nd,hl,q⟩:=h
 obtain⟨u,rfl,ru⟩:=vals1 r
 cases ru
 obtain⟨its,r',hi⟩:=Gn I hs
 refine Sg.call_set_tups (UL (Zaw (by decide) _) hu) (I.ok.hd hc) hi (Z5h I hk b r') (by rw[Z3];exact hl) nd fun h' tk T kp=>?_
 refine⟨.ref s.heap.objs.size,upd H s.heap.objs.size (ZdR X s.heap.objs.size its),I.laid (t':=tk) kp (Zc _) ?_,rfl,q _ _ (I.hok.fresh (Zc _)) r'⟩
 obtain⟨es,ep,t,T⟩:=T
 refine⟨⟨es,ep,t,T.b,T.perm⟩,?_,fun h1 h2 ⟨es,ep,t,B,z⟩ k=>⟨es,ep,t,B.keep k,z⟩⟩
 obtain⟨o,ho,-⟩:=T.b.obj
 exact⟨o,ho⟩
def Z88 (X:Cx):Lv_→Hp→VK→Prop:=fun xs H Q=>∃ p us ys ts,xs=[.ref p]∧H p=some (ZdR X p us)∧Uj ys us∧J6 X.K H ys ts∧ts.all (okK .ss)=true ∧
 ∀ q (zs:List (V×Th)),H q=none→zs.Perm (ys.zip ts)→zs.map (·.2)=DG ts→Q (.ref q) (upd H q (.lst (zs.map (·.1))))
theorem Z1E (hc:X.calm=true):MG X (.builtin "sorted") (Z88 X):=by
 intro pins s σ H xs us Q I r h
 obtain⟨p,us,ys,ts,rfl,hH,r',b,hk,q⟩:=h
 obtain⟨u,rfl,ru⟩:=vals1 r
 cases ru
 obtain⟨⟨es,ep,t,T,hD⟩,-,-⟩:=I.hok p _ hH
 refine Sg.sorted_any fun A' hA=>Sg.collect_set (hA.trans (I.ok.hd hc)) T fun s1 vs x1 g1 o1 hp=>?_
 obtain⟨ys',ts',h1,h2,h3,h4⟩:=Z6A (hp.trans hD) r' b
 have hlen:vs.length≤sizeLine:=by
  rw[hp.length_eq,Z3,Zm]
  exact Nm T.few
 have hk':okT ts'=true:=by
  have:ts'.all (okK .ss)=true:=UH.mpr fun t m=>UH.mp hk t (h3.mem_iff.mp m)
  unfold okT
  rw[this,Bool.or_true]
 obtain⟨O,key,G,kd,θ,S,hθ,hle⟩:=Z0d I h2 h1 hk' s1.heap x1
 refine⟨hlen,O,key,G,kd,S,fun out h' e a1 a2 a3 a4=>?_⟩
 obtain⟨zs,z1,z2,z3⟩:=Z27 h1 θ hθ a1 (Ux (fun {a c} ha hc hac=>hle a (a1.mem_iff.mp ha) c (a1.mem_iff.mp hc) hac) a2)
 have I1:Inv X pins σ H s1:=I.moved o1 g1 x1
 refine⟨.ref s1.heap.objs.size,upd H s1.heap.objs.size (.lst (zs.map (·.1))),I1.laid (t':=s1.toks) a3 (Zc _) ?_,rfl,q _ zs (I1.hok.fresh (Zc _)) (z1.trans h4) (z3.trans (Z6u h3))⟩
 refine⟨?_,out,e,z2,a4⟩
 rw[z2.length,a1.length_eq]
 exact hlen
noncomputable def DL:Lt_→Option (Lt_)
 |[.tup ts]=>if ts.all (okK .ss)=true∧(ts.map Zhs).Nodup∧ts.length≤18 then some (DG ts) else none
 |_=>none
noncomputable def Wp (fs:FL):FL:=fun d=>(fs d).bind DL
theorem Z49 {k:Nat} {p2 pos2:Pos} (hr:GZ k X.A) (hc:X.calm=true) (hg:Gl X "sorted") (hm:X.mg "sorted"=none) (hg2:Gl X "set") (hm2:X.mg "set"=none) (ha:PBA X (e::es) fs)
  (he:starEach (e::es) X.env=(false,eval e X.env)::starEach es X.env) (hpl:(backTo pos2 (starEach es X.env)).any (·.1)=false)
  (he2:starEach [.Call (.Name "set" p2) (e::es) [] pos2] X.env=(false,eval (.Call (.Name "set" p2) (e::es) [] pos2) X.env)::starEach [] X.env) (hpl2:(backTo pos (starEach ([]:Le_) X.env)).any (·.1)=false) :
  PF X (.Call (.Name "sorted" p) [.Call (.Name "set" p2) (e::es) [] pos2] [] pos) (Wp fs) :=
 PE.imp (Qv (Z1E hc) hg hm (by rfl) (Nt (DK (Za3 hr.units hc) hg2 hm2 (by rfl) ha (by decide) (by decide) he hpl) W0 he2) (by decide) (by decide) he2 hpl2) fun σ H Q z_=>by
  obtain⟨O,d,T,R,e,q⟩:=z_
  unfold Wp at e
  cases hf:fs d with
  |none=>rw[hf] at e;cases e
  |some Ts =>
   rw[hf] at e
   change DL Ts=_ at e
   unfold DL at e
   split at e
   ·rename_i ts
    split at e
    ·rename_i hk
     cases e
     refine⟨O,d,_,R,hf,fun vs H1 s1 b1=>?_⟩
     obtain⟨u,rfl,bu⟩:=N7 b1
     obtain⟨a,xs,rfl,h1,b2⟩:=bu.tup
     refine⟨a,xs,ts,rfl,(Jp _ _).seqT h1,b2.mono (Jp _ _),hk.1,hk.2.1,hk.2.2,fun q1 us hq1 r1=>?_⟩
     refine⟨q1,us,xs,ts,rfl,JB,r1,(b2.mono (Jp _ _)).mono (Jq.upd hq1),hk.1,fun q2 zs hq2 z1 z2=>?_⟩
     have n2:q2≠q1:=fun z=>by rw[z,JB] at hq2;cases hq2
     have hq2':H1 q2=none:=by rw[YA n2] at hq2;exact hq2
     refine q _ _ ((s1.trans (Jq.upd hq1)).trans (Jq.upd hq2)) ⟨q2,_,rfl,s1.free hq2',JB,?_⟩
     rw[← z2]
     refine Wt fun z m=>?_
     exact (Z3v b2 z (z1.mem_iff.mp m)).mono (Qy ((Jq.upd hq1).trans (Jq.upd hq2)) hq2')
    ·cases e
   ·cases e
def ZdU (X:Cx):Lv_→Hp→VK→Prop:=fun xs H Q=>∃ p D,xs=[.ref p]∧H p=some (ZaV X p D)∧D.length<4000∧Q (.int D.length) H
theorem Z4T:MG X (.builtin "len") (ZdU X):=by
 intro pins s σ H xs us Q I r h
 obtain⟨p,D,rfl,hH,hl,q⟩:=h
 obtain⟨u,rfl,ru⟩:=vals1 r
 cases ru
 obtain⟨⟨es,ep,t,T,hD⟩,-,-⟩:=I.hok p _ hH
 obtain⟨o,ho,hex,hd⟩:=T.obj
 have hn:es.size=D.length:=by
  have:=hD.length_eq
  unfold Sg.txts at this
  simpa using this
 exact call_len_set ho hex hd T.fits (by rw[hn];lia) ⟨.int D.length,H,I.tok _,⟨s.toks+1,by rw[hn]⟩,q⟩
noncomputable def Z1e:Lt_→Option Th
 |[.lst ts]=>(Na ts).bind fun ss=>if ss.length<4000 then some (.int ((Sg.metS ss).length:Int)) else none
 |_=>none
noncomputable def Cq (fs:FL):FD:=fun d=>(fs d).bind Z1e
theorem Z8E {p2 pos2:Pos} (hc:X.calm=true) (hg:Gl X "len") (hm:X.mg "len"=none) (hg2:Gl X "set") (hm2:X.mg "set"=none) (ha:PBA X (e::es) fs)
  (he:starEach (e::es) X.env=(false,eval e X.env)::starEach es X.env) (hpl:(backTo pos2 (starEach es X.env)).any (·.1)=false)
  (he2:starEach [.Call (.Name "set" p2) (e::es) [] pos2] X.env=(false,eval (.Call (.Name "set" p2) (e::es) [] pos2) X.env)::starEach [] X.env) (hpl2:(backTo pos (starEach ([]:Le_) X.env)).any (·.1)=false) :
  PD X (.Call (.Name "len" p) [.Call (.Name "set" p2) (e::es) [] pos2] [] pos) (Cq fs) :=
 PE.imp (Qv Z4T hg hm Zfx (Nt (DK (Z3l hc) hg2 hm2 (by rfl) ha (by decide) (by decide) he hpl) W0 he2) (by decide) (by decide) he2 hpl2) fun σ H Q z_=>by
  obtain⟨O,d,T,R,e,q⟩:=z_
  unfold Cq at e
  cases hf:fs d with
  |none=>rw[hf] at e;cases e
  |some Ts =>
   rw[hf] at e
   change Z1e Ts=_ at e
   unfold Z1e at e
   split at e
   ·rename_i ts
    cases hy:Na ts with
    |none=>rw[hy] at e;cases e
    |some ss =>
     rw[hy] at e
     change (if ss.length<4000 then _ else _)=_ at e
     split at e
     ·rename_i hl
      cases e
      refine⟨O,d,_,R,hf,fun vs H1 s1 b1=>?_⟩
      obtain⟨u,rfl,bu⟩:=N7 b1
      obtain⟨a,xs,rfl,h1,b2⟩:=bu.lst
      refine⟨a,xs,ts,ss,rfl,h1,b2.mono (Jp _ _),hy,hl,fun q1 hq1=>?_⟩
      exact⟨q1,Sg.metS ss,rfl,JB,UL (Sg.metS_len ss) hl,q _ _ (s1.trans (Jq.upd hq1)) (.int _)⟩
     ·cases e
   ·cases e
end
section
variable {X:Cx}{K:Fg_}{o a b c e e2:Expr}{fo fa fb fc f:FD}{pos:Pos}{k:Nat}
def rM2 (g:Str→Str→Int→Option V):V→Lv_→Hp→VK→Prop:=fun x xs H Q=>∃ z y i r,x=.str z∧xs=[.str y,.int i]∧g z y i=some r∧Q r H
theorem ZfV {x y:V}{us:Lu_}(r:Uj [x,y] us):∃ u w,us=[u,w]∧RelV x u∧RelV y w:=by
 cases r with
 |cons r1 r=>cases r with
  |cons r2 r=>cases r;exact⟨_,_,rfl,r1,r2⟩
theorem ZbO:MtR X "str.find" (rM2 fun z y i=>some (.int (Du z y i))):=by
 intro pins s σ H x xs v us Q I rx rs h
 obtain⟨z,y,i,r,rfl,rfl,e,q⟩:=h
 cases e
 obtain⟨t,rfl⟩:=rx
 obtain⟨u,w,rfl,ru,rw'⟩:=ZfV rs
 obtain⟨t2,rfl⟩:=ru
 obtain⟨t3,rfl⟩:=rw'
 exact SC.find3 ⟨.int _,H,I.tok _,⟨_,rfl⟩,q⟩
noncomputable def fM2 (g:Str→Str→Int→Option Th)(fo fa fb:FD):FD:=fun d=>(fo d).bind fun x=>(fa d).bind fun y=>(fb d).bind fun i=>match x,y,i with|.str z,.str w,.int j=>g z w j|_,_,_=>none
theorem Zf3 {g:Str→Str→Int→Option Th}{g':Str→Str→Int→Option V}(hg:∀ z w i T,g z w i=some T→∃ v,g' z w i=some v∧∀ H,JF K H v T) :
  ∀ σ H Q,Bo K (fM2 g fo fa fb) σ H Q→tBM K "str" (rM2 g') (Z9g K fo) (Z5H K (Z6 fa (Z6 fb J2))) σ H Q:=fun σ H Q z_=>by
 obtain⟨O,d,T,R,e,q⟩:=z_
 unfold fM2 at e
 cases h1:fo d with
 |none=>rw[h1] at e;cases e
 |some x =>
  rw[h1] at e
  cases h2:fa d with
  |none=>rw[h2] at e;cases e
  |some y =>
   rw[h2] at e
   cases h3:fb d with
   |none=>rw[h3] at e;cases e
   |some i =>
    rw[h3] at e
    simp only[ob_] at e
    split at e
    ·rename_i z w j
     obtain⟨v,hv,bv⟩:=hg z w j T e
     refine⟨O,d,_,R,h1,fun v1 H1 s1 b1=>?_⟩
     rw[b1.str]
     refine⟨rfl,O,d,[.str w,.int j],R.mono s1,by unfold Z6 J2;rw[h2,h3];rfl,fun vs H2 s2 b2=>?_⟩
     obtain⟨u,u2,rfl,bu,bu2⟩:=ZeE b2
     rw[bu.str,bu2.int]
     exact⟨z,w,j,v,rfl,rfl,hv,q v H2 (s1.trans s2) (bv _)⟩
    ·cases e
theorem ZbB {apos cpos:Pos}(ho:PB X o fo)(ha:PB X e fa)(hb:PB X e2 fb)
  (hbase:attributeBase o "find" X.env (eval o X.env)=eval o X.env)
  (hfew:((backTo cpos (starEach [e,e2] X.env)).all (fun x=>!x.1)&&(backToKw cpos (keywordEach [] X.env)).all (fun x=>x.1.isSome)&&decide ([e,e2].length+([]:List Keyword).length+(if ([]:List Keyword).isEmpty then 0 else 1)<30))=true)
  (hline:(apos.endLine == cpos.line)=true) (hs:starEach [e,e2] X.env=(false,eval e X.env)::starEach [e2] X.env) (hs2:starEach [e2] X.env=(false,eval e2 X.env)::starEach [] X.env) (hplain:(backTo cpos (starEach [e2] X.env)).any (·.1)=false) :
  PD X (.Call (.Attribute o "find" apos) [e,e2] [] cpos) (fM2 (fun z y i=>some (.int (Du z y i))) fo fa fb) :=
 PE.imp (Zbl Z3I Z3R Z3Q ZbO ho (Fy ha (Fy hb Z4c hs2) hs) hbase hfew hline hs hplain) (Zf3 fun z w i T e=>by cases e;exact⟨_,rfl,fun _=>.int _⟩)
def ZiA (K:Fg_):V→Lv_→Hp→VK→Prop:=fun x vs H Q=>∃ l b xs zs,x=.ref l∧vs=[.ref b]∧H l=some (.lst xs)∧(SqL K H b zs∨SqT K H b zs)∧xs.length+zs.length≤sizeLine∧Q .non (upd H l (.lst (xs++zs)))
theorem Zf0:MtM X "list.extend" (ZiA X.K):=by
 intro pins s σ H x vs v us Q I rx rv h
 obtain⟨l,b,xs,zs,rfl,rfl,hH,hB,hz,q⟩:=h
 cases rx
 obtain⟨u,rfl,ru⟩:=rv.one
 cases ru
 obtain⟨z,its,n,r,hl,e⟩:=I.lstM hH
 have hB':∃ (T:String) (its2:Lu_) (o:Obj) (n2:Nat),(T="list"∨T="tuple")∧Uj zs its2∧s.heap.get? b=some o∧o.cls=.type T∧o.data=.seq its2.toArray n2:=by
  rcases hB with hB|hB
  ·obtain⟨its2,r2,hi⟩:=G1 I hB
   obtain⟨o,ho,hc,n2,hd⟩:=hi
   exact⟨"list",its2,o,n2,.inl rfl,r2,ho,hc,hd⟩
  ·obtain⟨its2,r2,⟨o,ho,hc,n2,hd⟩,-⟩:=I.tuple hB
   exact⟨"tuple",its2,o,n2,.inr rfl,r2,ho,hc,hd⟩
 obtain⟨T,its2,o2,n2,hT,r2,ho2,hc2,hd2⟩:=hB'
 have hsz:its.toArray.size+its2.toArray.size≤sizeLine:=by
  rw[Zk,Zk,← r.length,← r2.length]
  exact hz
 refine YQ F.slot_list_extend ⟨_,e,rfl⟩ F.entry_list_extend ?_ (F.args_list_extend_2 _ _)
 show wpAny _ _ (U7 (.ref l) (.ref b) .none) _ _ s
 unfold U7
 refine Z0 (MI (T:=T) ⟨o2,ho2,hc2⟩ ?_)
 have hty:(MH (.ref l) (.ref b)||Yb T == Yb "list"||Yb T == Yb "tuple")=true:=by
  rcases hT with rfl|rfl
  ·have:(Yb "list" == Yb "list")=true:=by rfl
   rw[this];simp
  ·have:(Yb "tuple" == Yb "tuple")=true:=by rfl
   rw[this];simp
 rw[if_pos hty]
 refine Z0 (BS ho2 hd2 ?_)
 refine Z0 (BS e rfl ?_)
 rw[if_neg (by rw[ZbM hsz,ZfT];exact JN)]
 refine Z0 (Nl e rfl ?_ (by lia) (by show (its.toArray++its2.toArray).size≤sizeLine+1;rw[ZaD];lia))
 refine Z5 ⟨_,rfl,?_⟩
 refine⟨.non,_,I.lset (its':=its++its2) hH e (by simp) (r.append r2) ?_,rfl,q⟩
 rw[Zf]
 exact hz
noncomputable def Z2b:Th→Option (Lt_)
 |.lst ts=>some ts
 |.tup ts=>some ts
 |_=>none
noncomputable def Mq (i:Nat)(f:FD):FS:=fun d=>match d[i]? with
 |some (some (.own ts))=>(f d).bind fun T=>(Z2b T).bind fun us=>if ts.length+us.length≤1000000 then some (.nx (d.set i (some (.own (ts++us))))) else none
 |_=>none
theorem Rep.putL {K:Fg_}{H:Hp}{O:Hid}{σ:St}{d:Sd}(r:Rep K H O σ d){i:Nat}{ts:Lt_}(hd:d[i]?=some (some (.own ts))){a:Addr}(ha:(i,a)∈O.own)(hs:σ[i]?=some (some (.ref a)))(hf:¬ O.far a)
  {vs:Lv_} {us:Lt_} (b:J6 K (less H O) vs us):Rep K (upd H a (.lst vs)) O σ (d.set i (some (.own us)))∧Jq (low H O) (low (upd H a (.lst vs)) O):=by
 have hm:a∈O.own.map (·.2):=ZE.mpr ⟨_,ha,rfl⟩
 have hi:i<d.length:=(Zq.mp hd).1
 have sub:Jq (less H O) (less (upd H a (.lst vs)) O):=fun p o e=>by
  obtain⟨h1,h2⟩:=of_less e
  have np:p≠a:=fun z=>h2 (.inl (by rw[z];exact hm))
  exact Uh (by rw[YA np];exact h1) h2
 refine⟨{ len:=by rw[JM];exact r.len,th:=fun j U e=>?_,own:=fun j ws e=>?_,there:=fun p hp=>?_,inj:=r.inj,exc:=fun j c e=>?_,dct:=fun j fz kvs e=>?_ },fun p o e=>?_⟩
 ·by_cases hj:i=j
  ·subst hj
   rw[Zw hi] at e
   cases e
  ·rw[Zg hj] at e
   obtain⟨w,h1,h2⟩:=r.th j U e
   exact⟨w,h1,h2.mono sub⟩
 ·by_cases hj:i=j
  ·subst hj
   rw[Zw hi] at e
   cases e
   exact⟨a,_,ha,hs,JB,hf,b.mono sub⟩
  ·rw[Zg hj] at e
   obtain⟨a',xs',h1,h2,h3,h4,h5⟩:=r.own j ws e
   refine⟨a',xs',h1,h2,?_,h4,h5.mono sub⟩
   have np:a'≠a:=fun z=>hj (r.inj i j a ha (by rw[← z];exact h1))
   rw[YA np];exact h3
 ·by_cases hp':p=a
  ·subst hp';exact⟨_,JB⟩
  ·obtain⟨o,e⟩:=r.there p hp
   exact⟨o,by rw[YA hp'];exact e⟩
 ·by_cases hj:i=j
  ·subst hj
   rw[Zw hi] at e
   cases e
  ·rw[Zg hj] at e
   obtain⟨a',C,h1,h2,h3⟩:=r.exc j c e
   exact⟨a',C,h1,h2,sub _ _ h3⟩
 ·by_cases hj:i=j
  ·subst hj
   rw[Zw hi] at e
   cases e
  ·rw[Zg hj] at e
   obtain⟨a',h1,h2,h3,h4⟩:=r.dct j fz kvs e
   have np:a'≠a:=fun z=>hj (r.inj i j a ha (by rw[← z];exact h1))
   exact⟨a',h1,h2,h3.mono fun o q=>by rw[YA np];exact q,h4⟩
 ·obtain⟨h1,h2⟩:=Z0q e
  have np:p≠a:=fun z=>h2 (by rw[z];exact hm)
  exact M6 (by rw[YA np];exact h1) h2
theorem Z6B {i:Nat} {apos cpos:Pos} (ho:PE X o (ZaN i)) (he:PB X e f) (hbase:attributeBase o "extend" X.env (eval o X.env)=eval o X.env)
  (hfew:((backTo cpos (starEach [e] X.env)).all (fun x=>!x.1)&&(backToKw cpos (keywordEach [] X.env)).all (fun x=>x.1.isSome)
  &&decide (([e]:Le_).length+([]:List Keyword).length+(if ([]:List Keyword).isEmpty then 0 else 1)<30))=true)
  (hline:(apos.endLine == cpos.line)=true) (hs:starEach [e] X.env=(false,eval e X.env)::starEach [] X.env) (hplain:(backTo cpos (starEach ([]:Le_) X.env)).any (·.1)=false)
  (hsw:swapsWith (.Call (.Attribute o "extend" apos) [e] [] cpos) none pos.line X.env=pure false) :
  PDS X (.Expr (.Call (.Attribute o "extend" apos) [e] [] cpos) pos) (Mq i f) :=
 PS.imp (Z8n (Zbl Z1O PySem.F.slot_list_extend PySem.F.type_list_extend Zf0 ho (Nt he W0 hs) hbase hfew hline hs hplain) hsw) fun D σ H z_=>by
  obtain⟨O,d,o,R,e,q⟩:=z_
  unfold Mq at e
  split at e
  ·rename_i ts hd
   cases hf:f d with
   |none=>rw[hf] at e;cases e
   |some T =>
    rw[hf] at e
    cases hq:Z2b T with
    |none=>rw[show (some T).bind (fun T=>(Z2b T).bind _)=(Z2b T).bind _ from rfl,hq] at e;cases e
    |some us =>
     rw[show (some T).bind (fun T=>(Z2b T).bind _)=(Z2b T).bind _ from rfl,hq] at e
     obtain⟨a,xs,h1,h2,h3,h4,h5⟩:=R.own i ts hd
     change (if ts.length+us.length≤1000000 then _ else _)=_ at e
     split at e
     ·rename_i hz
      cases e
      refine⟨_,h2,.inl ⟨rfl,xs,SqL.of h3⟩,O,d,T,R,hf,fun v H' s b=>?_⟩
      have hb:∃ p zs,v=.ref p∧(SqL X.K H' p zs∨SqT X.K H' p zs)∧J6 X.K (less H' O) zs us:=by
       cases T with
       |lst ws =>
        cases hq
        obtain⟨p,zs,e1,e2,e3⟩:=b.lst
        exact⟨p,zs,e1,.inl e2,e3⟩
       |tup ws =>
        cases hq
        obtain⟨p,zs,e1,e2,e3⟩:=b.tup
        exact⟨p,zs,e1,.inr ((Jp _ _).seqT e2),e3⟩
       |_=>cases hq
      obtain⟨p,zs,rfl,hsq,hbz⟩:=hb
      refine⟨a,p,xs,zs,rfl,rfl,s _ _ h3,hsq,?_,?_⟩
      ·rw[h5.length,hbz.length]
       exact Zz hz (by decide)
      ·obtain⟨R',s'⟩:=(R.mono s).putL hd h1 h2 h4 ((h5.mono (JY s)).append hbz)
       exact q σ _ O rfl ((Ui s).trans s') R'
     ·cases e
  ·cases e
end
section
variable {κ:Type}[DecidableEq κ]
noncomputable def Z5d (kvs:List (κ×V))(k:κ):Option V:=(kvs.find? fun kv=>decide (kv.1=k)).map (·.2)
noncomputable def Z5w (kvs:List (κ×V))(k:κ)(v:V):List (κ×V) :=
 if (kvs.any fun kv=>decide (kv.1=k))=true then kvs.map (fun kv=>if kv.1=k then (kv.1,v) else kv) else kvs++[(k,v)]
theorem Z0Y {p:κ×V}{r:List (κ×V)}{k:κ}(e:p.1=k):Z5d (p::r) k=some p.2:=by simp[Z5d,YF,e]
theorem Z0Z {p:κ×V}{r:List (κ×V)}{k:κ}(e:¬ p.1=k):Z5d (p::r) k=Z5d r k:=by simp[Z5d,YF,e]
theorem Z5c (k:κ):∀ kvs:List (κ×V),(kvs.any fun kv=>decide (kv.1=k))=(Z5d kvs k).isSome
 |[]=>rfl
 |p::r=>by
  rw[MF]
  by_cases e:p.1=k
  ·simp only[Z0Y e,decide_eq_true e,Bool.true_or,Option.isSome_some]
  ·rw[Z0Z e,decide_eq_false e,Bool.false_or];exact Z5c k r
theorem Cf (kvs:List (κ×V))(k:κ)(v:V):(Z5w kvs k v).length≤kvs.length+1:=by
 unfold Z5w
 split
 ·rw[Z3];exact UU _
 ·rw[Zf,Zl,NM];exact U9 _
theorem Zas.isSome_eq {o:Option V}{u:Option Value}(r:Zas o u):o.isSome=u.isSome:=by
 cases o with
 |none=>cases u with
  |none=>rfl
  |some _=>exact (show False from r).elim
 |some _=>cases u with
  |none=>exact (show False from r).elim
  |some _=>rfl
theorem KV.val {kvs:List (κ×V)}{vs:List (κ×Value)}(r:KV kvs vs)(k:κ):Zas (Z5d kvs k) (valueAt vs k):=by
 unfold KV at r
 induction r with
 |nil=>exact MQ
 |@cons p q ps qs h t ih =>
  obtain⟨h1,h2⟩:=h
  by_cases e:p.1=k
  ·have e':q.1=k:=h1.symm.trans e
   have b:valueAt (q::qs) k=some q.2:=by simp[valueAt,YF,e']
   rw[Z0Y e,b];exact h2
  ·have e':¬ q.1=k:=fun z=>e (h1.trans z)
   have b:valueAt (q::qs) k=valueAt qs k:=by simp[valueAt,YF,e']
   rw[Z0Z e,b];exact ih
theorem KV.any {kvs:List (κ×V)}{vs:List (κ×Value)}(r:KV kvs vs)(k:κ):(kvs.any fun kv=>decide (kv.1=k))=vs.any fun kv=>decide (kv.1=k):=by
 unfold KV at r
 induction r with
 |nil=>rfl
 |cons h t ih=>rw[MF,MF,ih,h.1]
theorem KV.repl {kvs:List (κ×V)}{vs:List (κ×Value)}(r:KV kvs vs)(k:κ){y:V}{u:Value}(ry:RelV y u) :
  KV (kvs.map fun kv=>if kv.1=k then (kv.1,y) else kv) (vs.map fun kv=>if kv.1=k then (kv.1,u) else kv):=by
 unfold KV at r ⊢
 induction r with
 |nil=>exact .nil
 |@cons p q ps qs h t ih =>
  rw[Zt,Zt]
  refine .cons ?_ ih
  obtain⟨h1,h2⟩:=h
  by_cases e:p.1=k
  ·rw[if_pos e,if_pos (h1.symm.trans e)];exact⟨h1,ry⟩
  ·rw[if_neg e,if_neg (fun z=>e (h1.trans z))];exact⟨h1,h2⟩
theorem KV.put {kvs:List (κ×V)}{vs:List (κ×Value)}(r:KV kvs vs)(k:κ){y:V}{u:Value}(ry:RelV y u):KV (Z5w kvs k y) (stored vs k u):=by
 unfold Z5w stored
 rw[r.any k]
 by_cases e:(vs.any fun kv=>decide (kv.1=k))=true
 ·rw[if_pos e,if_pos e];exact r.repl k ry
 ·rw[if_neg e,if_neg e];exact ZhJ r ⟨rfl,ry⟩
theorem KV.keys {kvs:List (κ×V)}{vs:List (κ×Value)}(r:KV kvs vs):kvs.map (·.1)=vs.map (·.1):=by
 unfold KV at r
 induction r with
 |nil=>rfl
 |cons h t ih=>rw[Zt,Zt,ih,h.1]
theorem KV.length {kvs:List (κ×V)}{vs:List (κ×Value)}(r:KV kvs vs):kvs.length=vs.length:=Z3J r
end
theorem Zfe {P:Program}{w:World}{k:Key}{u:Value}(r:RelV (kV k) u):(Gx P w).is k u=true:=by
 cases k with
 |inl i=>obtain⟨t,e⟩:=(show ∃ t,u=D4 i t from r);subst e;exact Z4n P w i t
 |inr x=>obtain⟨t,e⟩:=(show ∃ t,u=Fc x t from r);subst e;exact Z4m P w x t
theorem Z2S {P:Program}{w:World}:∀ {ks:List Key} {us:Lu_},Uj (ks.map kV) us→ItemsAre (Gx P w) ks us
 |[],_,r=>by rw[Qn] at r;cases r;exact .nil
 |k::ks,_,r=>by
  rw[Zt] at r
  cases r with
  |cons h t=>exact .cons (Zfe h) (Z2S t)
abbrev KT (H:Hp):List (List Key×V)→List (List Key×Addr×Value)→Prop:=Paired fun p q=>p.1=q.1∧H q.2.1=some (.tup (p.1.map kV))∧RelV p.2 q.2.2
theorem KT.val {H:Hp}{kvs:List (List Key×V)}{xs:List (List Key×Addr×Value)}(r:KT H kvs xs)(k:List Key):Zas (Z5d kvs k) ((atKey xs k).map (·.2)):=by
 induction r with
 |nil=>exact MQ
 |@cons p q ps qs h t ih =>
  obtain⟨h1,_,h2⟩:=h
  by_cases e:p.1=k
  ·have e':q.1=k:=h1.symm.trans e
   have b:atKey (q::qs) k=some q.2:=by simp[atKey,YF,e']
   rw[Z0Y e,b];exact h2
  ·have e':¬ q.1=k:=fun z=>e (h1.trans z)
   have b:atKey (q::qs) k=atKey qs k:=by simp[atKey,YF,e']
   rw[Z0Z e,b];exact ih
theorem KT.repl {H:Hp}{kvs:List (List Key×V)}{xs:List (List Key×Addr×Value)}(r:KT H kvs xs)(k:List Key){y:V}{u:Value}(ry:RelV y u) :
  KT H (kvs.map fun kv=>if kv.1=k then (kv.1,y) else kv) (xs.map (putAt k u)):=by
 induction r with
 |nil=>exact .nil
 |@cons p q ps qs h t ih =>
  rw[Zt,Zt]
  refine .cons ?_ ih
  obtain⟨h1,h2,h3⟩:=h
  unfold putAt
  by_cases e:p.1=k
  ·rw[if_pos e,if_pos (h1.symm.trans e)];exact⟨h1,h2,ry⟩
  ·rw[if_neg e,if_neg (fun z=>e (h1.trans z))];exact⟨h1,h2,h3⟩
theorem KT.put {H:Hp}{kvs:List (List Key×V)}{xs:List (List Key×Addr×Value)}(r:KT H kvs xs)(k:List Key){b:Addr}{y:V}{u:Value}(hb:H b=some (.tup (k.map kV)))(ry:RelV y u) :
  KT H (Z5w kvs k y) (storedH xs k b u):=by
 have e:(kvs.any fun kv=>decide (kv.1=k))=(atKey xs k).isSome:=by
  rw[Z5c,(r.val k).isSome_eq,Option.isSome_map]
 unfold Z5w storedH
 rw[e]
 by_cases q:(atKey xs k).isSome=true
 ·rw[if_pos q,if_pos q];exact r.repl k ry
 ·rw[if_neg q,if_neg q];exact ZhJ r ⟨rfl,hb,ry⟩
theorem KT.keeps {H H':Hp}{kvs:List (List Key×V)}{xs:List (List Key×Addr×Value)}(r:KT H kvs xs)(ht:∀ b ys,H b=some (.tup ys)→H' b=some (.tup ys)):KT H' kvs xs :=
 Paired.mapP r fun _ _ z=>⟨z.1,ht _ _ z.2.1,z.2.2⟩
section
variable {P:Program}{w:World}{H:Hp}{h:Heap}{a:Addr}
theorem Zga {u:HO}(ok:HOk P w H h)(e:Rd H a u):MD P w H h a u:=e.ok ok
theorem Zcm {kvs:List (Key×V)}(ok:HOk P w H h)(e:Rd H a (.dK kvs)):kvs.length≤sizeLine∧(a == sysModules)=false∧∃ vs,KV kvs vs∧h.DictOf (Gx P w) a vs :=
 show MD P w H h a (.dK kvs) from Zga ok e
theorem Zjb {kvs:List (Key×V)}(ok:HOk P w H h)(e:H a=some (.dK kvs)):kvs.length≤sizeLine∧(a == sysModules)=false∧∃ vs,KV kvs vs∧h.DictOf (Gx P w) a vs:=Zcm ok (.inl e)
theorem Z9t {ks:List Key}(ok:HOk P w H h)(e:H a=some (.tup (ks.map kV))):(tupleKind (Gx P w)).is h ks a:=by
 obtain⟨_,its,r,o,h1,h2,n,h3⟩:=(show MD P w H h a (.tup (ks.map kV)) from ok a _ e)
 exact⟨o,its.toArray,n,h1,h2,h3,by simpa using Z2S r⟩
theorem Zfn {kvs:List (List Key×V)}(ok:HOk P w H h)(e:Rd H a (.dT kvs)):kvs.length≤sizeLine∧(a == sysModules)=false ∧
  ∃ xs,KT H kvs xs∧h.DictOfH (tupleKind (Gx P w)) a xs:=by
 obtain⟨z,y,xs,r,o,es,ep,h1,h2,h3,h4,h5⟩:=(show MD P w H h a (.dT kvs) from Zga ok e)
 refine⟨z,y,xs,r,o,es,ep,h1,h2,h3,h4,fun x hx=>?_,h5⟩
 have all:∀ {l:List (List Key×V)} {m:List (List Key×Addr×Value)},KT H l m→∀ x∈m,(tupleKind (Gx P w)).is h x.1 x.2.1:=by
  intro l m q
  induction q with
  |nil=>intro x hx;exact nomatch hx
  |@cons p q ps qs hq t ih =>
   intro x hx
   rcases Zp.mp hx with e|hx
   ·subst e
    exact Z9t ok (by rw[← hq.1];exact hq.2.1)
   ·exact ih x hx
 exact all r x hx
theorem Zja {kvs:List (List Key×V)}(ok:HOk P w H h)(e:H a=some (.dT kvs)):kvs.length≤sizeLine∧(a == sysModules)=false ∧
  ∃ xs,KT H kvs xs∧h.DictOfH (tupleKind (Gx P w)) a xs:=Zfn ok (.inl e)
end
def ZfH (H:Hp)(a:Addr)(y:V)(r:Option V):Prop :=
 (∃ kvs k,Rd H a (.dK kvs)∧y=kV k∧r=Z5d kvs k)∨∃ kvs k b,Rd H a (.dT kvs)∧y=.ref b∧H b=some (.tup (k.map kV))∧r=Z5d kvs k
def ZfR (H:Hp)(a:Addr)(y v:V)(H':Hp):Prop :=
 (∃ kvs k,H a=some (.dK kvs)∧y=kV k∧kvs.length<sizeLine∧H'=upd H a (.dK (Z5w kvs k v))) ∨
 ∃ kvs k b,H a=some (.dT kvs)∧y=.ref b∧H b=some (.tup (k.map kV))∧kvs.length<sizeLine∧H'=upd H a (.dT (Z5w kvs k v))
theorem ZfH.k {H:Hp}{a:Addr}{kvs:List (Key×V)}{k:Key}(e:H a=some (.dK kvs)):ZfH H a (kV k) (Z5d kvs k):=.inl ⟨kvs,k,.inl e,rfl,rfl⟩
theorem ZfH.t {H:Hp}{a b:Addr}{kvs:List (List Key×V)}{k:List Key}(e:H a=some (.dT kvs))(eb:H b=some (.tup (k.map kV))):ZfH H a (.ref b) (Z5d kvs k):=.inr ⟨kvs,k,b,.inl e,rfl,eb,rfl⟩
theorem ZfR.k {H:Hp}{a:Addr}{kvs:List (Key×V)}{k:Key}{v:V}(e:H a=some (.dK kvs))(hl:kvs.length<sizeLine):ZfR H a (kV k) v (upd H a (.dK (Z5w kvs k v))):=.inl ⟨kvs,k,e,rfl,hl,rfl⟩
theorem ZfR.t {H:Hp}{a b:Addr}{kvs:List (List Key×V)}{k:List Key}{v:V}(e:H a=some (.dT kvs))(eb:H b=some (.tup (k.map kV)))(hl:kvs.length<sizeLine) :
  ZfR H a (.ref b) v (upd H a (.dT (Z5w kvs k v))):=.inr ⟨kvs,k,b,e,rfl,eb,hl,rfl⟩
section
variable {X:Cx}{pins:Pn_}{σ:St}{H:Hp}{s:Shared}{a:Addr}{y v:V}{u r:Value}{o:Option V}{A:Around}{E:Ps_}
theorem Inv.big (I:Inv X pins σ H s):sysModules<s.heap.objs.size:=by
 have h:mainGlobals<s.heap.objs.size:=(I.mod.glob.keeps I.bk).lt
 exact DA (by decide) h
theorem Z9V {Q:Ps_}(hu:A.units+1<cLine)(I:Inv X pins σ H s)(g:ZfH H a y (some v))(ry:RelV y u)(h:∀ w' s',Inv X pins σ H s'→RelV v w'→Q w' s') :
  wpAny (model X.prog X.w) A (getItem (.ref a) u) Q E s:=by
 rcases g with ⟨kvs,k,e,ey,l⟩|⟨kvs,k,b,e,ey,eb,l⟩
 ·subst ey
  obtain⟨z,hd,vs,rel,dd⟩:=Zcm I.hok e
  obtain⟨w',hw,rw'⟩:=Zas.some_of (v:=v) (o:=valueAt vs k) (by rw[l];exact rel.val k)
  exact wpAny_getItem_of (Zfe ry) dd.mapOf hw (h w' _ (I.tok _) rw')
 ·subst ey
  cases (show u=YX b from ry)
  obtain⟨z,hd,xs,rel,dd⟩:=Zfn I.hok e
  obtain⟨w',hw,rw'⟩:=Zas.some_of (v:=v) (o:=(atKey xs k).map (·.2)) (by rw[l];exact rel.val k)
  obtain⟨p,hp,hp2⟩:=Option.map_eq_some_iff.mp hw
  refine wpAny_getItem_heap (ZfZ hu) (Z9t I.hok eb) dd hp ?_
  rw[hp2]
  exact h w' _ (I.tok _) rw'
theorem Z9T {h':Heap}{t':Nat}{ob:HO}(I:Inv X pins σ H s)(mu:Mut (H a))(hs:Jl a s.heap h')(he:∃ q,h'.get? a=some q)(new:MD X.prog X.w (upd H a ob) h' a ob) :
  Inv X pins σ (upd H a ob) { s with heap:=h',toks:=t' } :=
 I.write (x:=a) (e:=a) mu (.inl rfl) (fun b q hb z=>(hs.2 b hb).trans z) he new
theorem ZhD {P:Program}{w:World}{H':Hp}{h':Heap}{kvs:List (Key×V)}{vs:List (Key×Value)}(z:kvs.length≤sizeLine)(hd:(a == sysModules)=false)(rel:KV kvs vs)(dd:h'.DictOf (Gx P w) a vs) :
  MD P w H' h' a (.dK kvs):=⟨z,hd,vs,rel,dd⟩
theorem Z9U {H':Hp}{Q:Unit→Shared→Prop}(hu:A.units+1<cLine)(I:Inv X pins σ H s)(g:ZfR H a y v H')(ry:RelV y u)(rv:RelV v r)(h:∀ s',Inv X pins σ H' s'→Q () s') :
  wpAny (model X.prog X.w) A (setItem (.ref a) u r) Q E s:=by
 rcases g with ⟨kvs,k,e,ey,l,eH⟩|⟨kvs,k,b,e,ey,eb,l,eH⟩
 ·subst ey eH
  obtain⟨z,hd,vs,rel,dd⟩:=Zjb I.hok e
  have hz:vs.length≤sizeLine:=by rw[← rel.length];exact z
  have hl:(Z5w kvs k v).length≤sizeLine:=by have:=Cf kvs k v;exact Zz ‹_› ‹_›
  refine wpAny_setItem_pairs (hsz:=hz) (Zfe ry) dd fun h' dd' hs=>h _ ?_
  have he:∃ q,h'.get? a=some q:=let ⟨q,_,_,hq,_⟩:=dd';⟨q,hq⟩
  exact Z9T I (by rw[e];exact MQ) hs he (ZhD hl hd (rel.put k rv) dd')
 ·subst ey eH
  cases (show u=YX b from ry)
  obtain⟨z,hd,xs,rel,dd⟩:=Zja I.hok e
  have hz:xs.length≤sizeLine:=by rw[← Z3J rel];exact z
  have hl:(Z5w kvs k v).length≤sizeLine:=by have:=Cf kvs k v;exact Zz ‹_› ‹_›
  refine wpAny_setItem_heap (hsz:=hz) (ZfZ hu) (Z9t I.hok eb) dd fun h' dd' hs=>h _ ?_
  obtain⟨q,es,ep,hq,h2,h3,h4,_,h5⟩:=dd'
  refine Z9T I (by rw[e];exact MQ) hs ⟨q,hq⟩ ⟨hl,hd,_,(rel.put k eb rv).keeps fun c ys ec=>?_,q,es,ep,hq,h2,h3,h4,h5⟩
  rw[YA (ZiR ec e (fun z=>nomatch z))]
  exact ec
end
def Zi7 (i:Expr):Prop:=∀ ov iv,subscripted i false ov iv=operate [ov,iv] (getItem ov iv)
theorem ZdM {prog:Program}{w:World}{A:Around}{E:Ps_}{s:Shared}{env:Env}{value slice:Expr}{pos:Pos}{T id:String}{Q:Ps_}
  (hl:typeLookup (.type T) "__getitem__"=pure (some (.builtin id))) (hs:Zi7 slice)
  (h:wpAny (model prog w) A (eval value env) (fun o s₁=>wpAny (model prog w) A (eval slice env) (fun i s₂=>s₂.TypeIs o T∧wpAny (model prog w) A (getItem o i) Q E s₂) E s₁) E s) :
  wpAny (model prog w) A (eval (.Subscript value slice pos) env) Q E s:=by
 refine Zi6 (JP h (fun o s₁ h₁=>JP h₁ (fun i s₂ h₂=>?_) fun _ _ x=>x) fun _ _ x=>x)
 obtain⟨hT,h₂⟩:=h₂
 unfold subscriptTail
 refine Z0 ?_
 rw[getitemInPython_of_ne hT.not_modules]
 refine Z0 (Z59 hT hl ?_)
 have fin:wpAny (model prog w) A (subscripted slice false o i) (fun r s₃=>wpAny (model prog w) A (letTemporaryGo value o r>>=fun _=>pure r) Q E s₃) E s₂:=by
  rw[hs o i]
  exact wpAny_operating (JP h₂ (fun r s₃ h₃=>Z0 (wpAny_letTemporaryGo (Z5 h₃))) fun _ _ x=>x)
 first
  |exact Z5 (Z0 fin)
  |exact Z0 (Z5 (Z0 fin))
  |exact Z0 fin
theorem Z4Q {X:Cx} {pins:Pn_} {σ:St} {H:Hp} {s:Shared} {a:Addr} {y:V} {o:Option V} (I:Inv X pins σ H s) (g:ZfH H a y o):s.TypeIs (.ref a) "dict":=by
 rcases g with ⟨kvs,k,e,_,_⟩|⟨kvs,k,b,e,_,_,_⟩
 ·obtain⟨_,_,vs,_,dd⟩:=Zcm I.hok e
  exact dd.typeIs
 ·obtain⟨_,_,xs,_,dd⟩:=Zfn I.hok e
  exact dd.typeIs
def Zir (td ty:TE):TE:=fun σ H Q=>td σ H fun x H1=>ty σ H1 fun y H2=>∃ a v,x=.ref a∧ZfH H2 a y (some v)∧Q v H2
def Ziv (td ty tv:TE):TS:=fun D σ H=>tv σ H fun v H1=>td σ H1 fun x H2=>ty σ H2 fun y H3=>∃ a H4,x=.ref a∧ZfR H3 a y v H4∧D.nx σ H4
section
variable {X:Cx}{o i e value:Expr}{pos pos' tpos:Pos}{td ty tv:TE}
theorem Zef (hu:X.A.units+1<cLine)(ho:PE X o td)(hi:PE X i ty)(hs:Zi7 i):PE X (.Subscript o i pos) (Zir td ty):=by
 intro pins s σ H Q I h
 refine ZdM PySem.F.slot_dict_getitem.lookup hs (thn (ho pins s σ H _ I h) fun u s1 ⟨x,H1,I1,rx,q1⟩=>thn (hi pins s1 σ H1 _ I1 q1) fun iv s2 z1_=>?_)
 obtain ⟨y,H2,I2,ry,a,v,ex,g,q2⟩:=z1_
 subst ex
 obtain rfl:u=YX a:=rx
 exact⟨Z4Q I2 g,Z9V hu I2 g ry fun w' s3 I3 rw'=>⟨v,H2,I3,rw',q2⟩⟩
theorem Ze9 (hu:X.A.units+1<cLine)(ho:PE X o td)(hi:PE X i ty)(hv:PE X value tv)(hs:swapsWith value (some (.Subscript o i pos')) pos.line X.env=pure false) :
  PS X (.Assign [.Subscript o i pos'] value pos) (Ziv td ty tv):=by
 intro pins s σ H D I h
 refine wpAny_Assign_Subscript (thn (hv pins s σ H _ I h) fun r s1 ⟨v,H1,I1,rv,q1⟩=>thn (ho pins s1 σ H1 _ I1 q1) fun u s2 ⟨x,H2,I2,rx,q2⟩=>thn (hi pins s2 σ H2 _ I2 q2) fun iv s3 z1_=>?_) hs
 obtain ⟨y,H3,I3,ry,a,H4,ex,g,q3⟩:=z1_
 subst ex
 obtain rfl:u=YX a:=rx
 exact Z9U hu I3 g ry rv fun s4 I4=>⟨σ,H4,I4,q3⟩
end
theorem Zcn {P:Program} {w:World} {H:Hp} (h:Heap) (hb:sysModules<h.objs.size):MD P w H (h.push { cls:=.type "dict",data:=.dict #[] }) h.objs.size (.dK []) :=
 ⟨Jv _,beq_eq_false_iff_ne.mpr (GR (ZI hb)),[],.nil,Heap.DictOf.new h⟩
def Zg3:TE:=fun _ H Q=>∀ p,H p=none→Q (.ref p) (upd H p (.dK []))
section
variable {X:Cx}{pos:Pos}
theorem Zbj:PE X (.Dict [] [] pos) Zg3:=fun pins s σ H Q I h =>
 wpAny_Dict_empty ⟨.ref s.heap.objs.size,_,I.laid (a:=s.heap.objs.size) (o:=.dK []) (t':=s.toks) (fun _ _ q=>Z2 _ q) (Zc _) (Zcn s.heap I.big),rfl,h _ (I.hok.fresh (Zc _))⟩
end
noncomputable def Fn:Th→Bool
 |.bl _=>true
 |.int _=>true
 |.str _=>true
 |.non=>true
 |_=>false
theorem Zj4 {K:Fg_}{H:Hp}{v:V}{T:Th}(b:JF K H v T)(h:Fn T=true):v=fv T:=by
 cases b <;> first|rfl|cases h
theorem Zcc {K:Fg_}{H:Hp}{T:Th}(h:Fn T=true):JF K H (fv T) T:=by
 cases T with
 |non=>exact .non
 |bl b=>exact .bl b
 |int i=>exact .int i
 |str x=>exact .str x
 |_=>cases h
noncomputable def Z9I (kvs:List (Str×Th))(x:Str):Option Th:=(kvs.find? fun p=>decide (p.1=x)).map (·.2)
noncomputable def Zb6 (kvs:List (Str×Th))(x:Str)(T:Th):List (Str×Th):=if (kvs.any fun p=>decide (p.1=x))=true then kvs.map (fun p=>if p.1=x then (p.1,T) else p) else kvs++[(x,T)]
theorem Z7G (x:Str):∀ kvs:List (Str×Th),Z5d (dkv kvs) (Gb x:Key)=(Z9I kvs x).map fv
 |[]=>rfl
 |p::r=>by
  have ih:=Z7G x r
  unfold Z5d Z9I dkv at *
  rw[Zt,YF,YF]
  by_cases e:p.1=x
  ·subst e
   simp
  ·have e1:decide ((Gb p.1:Key)=Gb x)=false:=decide_eq_false fun z=>e (Z6g z)
   rw[e1,decide_eq_false e]
   exact ih
theorem Zad (x:Str):∀ kvs:List (Str×Th),((dkv kvs).any fun kv=>decide (kv.1=(Gb x:Key)))=kvs.any fun p=>decide (p.1=x)
 |[]=>rfl
 |p::r=>by
  have ih:=Zad x r
  unfold dkv at *
  rw[Zt,MF,MF,ih,Zdh]
theorem Ze5 (kvs:List (Str×Th))(x:Str)(T:Th):Z5w (dkv kvs) (Gb x:Key) (fv T)=dkv (Zb6 kvs x T):=by
 unfold Z5w Zb6
 rw[Zad]
 split
 ·unfold dkv
  rw[Jh,Jh]
  refine Yq fun p _=>?_
  simp only[ZcF]
  by_cases e:p.1=x
  ·subst e
   simp
  ·have e1:¬ (Gb p.1:Key)=Gb x:=fun z=>e (Z6g z)
   rw[if_neg e1,if_neg e]
 ·unfold dkv
  rw[JX]
  rfl
theorem Z9S (kvs:List (Str×Th)):(dkv kvs).length=kvs.length:=by unfold dkv;rw[Z3]
theorem Z56.rd {H:Hp}{a:Addr}{kvs:List (Str×Th)}:∀ {fz:Bool},Z56 H a fz kvs→Rd H a (.dK (dkv kvs))
 |false,h=>.inl h
 |true,⟨o,h⟩=>.inr ⟨o,h⟩
section
variable {X:Cx}{K:Fg_}{o a b c e value:Expr}{f fk fw:FD}{pos pos':Pos}{k i:Nat}{x:Str}
theorem Rep.setDct {H:Hp}{O:Hid}{σ:St}{d:Sd}(r:Rep K H O σ d){p:Addr}(hp:H p=none)(i:Nat):Rep K (upd H p (.dK [])) (O.cons i p) (σ.set i (some (.ref p))) (d.set i (some (.dct false []))):=by
 have nf:¬ O.has p:=r.notOwn hp
 have s:Jq H (upd H p (.dK [])):=Jq.upd hp
 have sub:Jq (less H O) (less (upd H p (.dK [])) (O.cons i p)):=Qy s hp
 have ne:∀ {j:Nat} {D:Dv},(d.set i (some (Dv.dct false [])))[j]?=some (some D)→(i=j∧D=.dct false []∧i<d.length)∨(i≠j∧d[j]?=some (some D)):=by
  intro j D e
  by_cases hj:i=j
  ·subst hj
   have hi:i<d.length:=by simpa using (Zq.mp e).1
   rw[Zw hi] at e
   cases e
   exact .inl ⟨rfl,rfl,hi⟩
  ·rw[Zg hj] at e
   exact .inr ⟨hj,e⟩
 exact {
  len:=by rw[JM,JM];exact r.len
  th:=fun j U e=>by
   rcases ne e with ⟨-,z,-⟩|⟨hj,e⟩
   ·cases z
   ·obtain⟨w,h1,h2⟩:=r.th j U e
    exact⟨w,by rw[Zg hj];exact h1,h2.mono sub⟩
  own:=fun j us e=>by
   rcases ne e with ⟨-,z,-⟩|⟨hj,e⟩
   ·cases z
   ·obtain⟨a',xs',h1,h2,h3,h4,h5⟩:=r.own j us e
    exact⟨a',xs',Z4 _ h1,by rw[Zg hj];exact h2,s _ _ h3,h4,h5.mono sub⟩
  there:=fun q hq=>by
   rcases Z1w hq with rfl|hq
   ·exact⟨_,JB⟩
   ·obtain⟨o,e⟩:=r.there q hq
    exact⟨o,s _ _ e⟩
  exc:=fun j c e=>by
   rcases ne e with ⟨-,z,-⟩|⟨hj,e⟩
   ·cases z
   ·obtain⟨a',C,h1,h2,h3⟩:=r.exc j c e
    exact⟨a',C,by rw[Zg hj];exact h1,h2,sub _ _ h3⟩
  dct:=fun j fz kvs e=>by
   rcases ne e with ⟨rfl,z,hi⟩|⟨hj,e⟩
   ·cases z
    exact⟨p,Z1,Zw (by rw[← r.len];exact hi),JB,fun z=>nf (.inr z)⟩
   ·obtain⟨a',h1,h2,h3,h4⟩:=r.dct j fz kvs e
    exact⟨a',Z4 _ h1,by rw[Zg hj];exact h2,h3.mono (s a'),h4⟩
  inj:=fun j l q h1 h2=>by
   have h1:(j,q)∈(i,p)::O.own:=h1
   have h2:(l,q)∈(i,p)::O.own:=h2
   have no:∀ m,(m,p)∉O.own:=fun m z=>nf (.inl (ZE.mpr ⟨_,z,rfl⟩))
   rcases Zp.mp h1 with q1|q1
   ·rcases Zp.mp h2 with q2|q2
    ·cases q1;cases q2;rfl
    ·cases q1;exact absurd q2 (no _)
   ·rcases Zp.mp h2 with q2|q2
    ·cases q2;exact absurd q1 (no _)
    ·exact r.inj j l q q1 q2 }
noncomputable def Zfl (i:Nat):FS:=fun d=>some (.nx (d.set i (some (.dct false []))))
theorem Zbr (hN:X.N.Nodup)(hi:X.N[i]?=some x)(hx:Loc X.env.scope x)
  (hf:X.fn x=true∨X.env.scope.names.lookup x=some .local) {px:Pos} (hs:swapsWith (.Dict [] [] pos') (some (.Name x px)) pos.line X.env=pure false):PDS X (.Assign [.Name x px] (.Dict [] [] pos') pos) (Zfl i) :=
 PS.imp (Z8m hN hi hx Zbj hs hf) fun D σ H z_=>by
  obtain⟨O,d,o,R,e,q⟩:=z_
  cases e
  exact fun p hp=>q _ _ (O.cons i p) rfl (Z9e (Jq.upd hp) hp) (R.setDct hp i)
noncomputable def Z4O (i:Nat)(f:FD):FD:=fun d=>match d[i]? with
 |some (some (.dct _ kvs))=>(f d).bind fun T=>match T with|.str x=>(Z9I kvs x).bind fun U=>if Fn U=true then some U else none|_=>none
 |_=>none
theorem ZeC (hr:GZ k X.A)(ho:PE X o (ZaN i))(hi:PB X e f)(hs:Zi7 e):PD X (.Subscript o e pos) (Z4O i f):=PE.imp (Zef (Zhx hr) ho hi hs) fun σ H Q z_=>by
 obtain⟨O,d,T,R,e,q⟩:=z_
 unfold Z4O at e
 split at e
 ·rename_i fz kvs hd
  cases hf:f d with
  |none=>rw[hf] at e;cases e
  |some U0 =>
   rw[hf] at e
   cases U0 with
   |str x =>
    cases hg:Z9I kvs x with
    |none=>rw[show (some (Th.str x)).bind (fun T=>match T with|.str x=>(Z9I kvs x).bind fun U=>if Fn U=true then some U else none|_=>none)=(Z9I kvs x).bind fun U=>if Fn U=true then some U else none from rfl,hg] at e;cases e
    |some U =>
     rw[show (some (Th.str x)).bind (fun T=>match T with|.str x=>(Z9I kvs x).bind fun U=>if Fn U=true then some U else none|_=>none)=(Z9I kvs x).bind fun U=>if Fn U=true then some U else none from rfl,hg] at e
     change (if Fn U=true then some U else none)=some T at e
     split at e
     ·rename_i hfl
      cases e
      obtain⟨a,h1,h2,h3,h4⟩:=R.dct i fz kvs hd
      refine⟨_,h2,O,d,_,R,hf,fun v H1 s1 b1=>?_⟩
      rw[b1.str]
      refine⟨a,fv T,rfl,.inl ⟨_,Gb x,(h3.mono (s1 a)).rd,rfl,?_⟩,q _ H1 s1 (Zcc hfl)⟩
      rw[Z7G,hg]
      rfl
     ·cases e
   |_=>cases e
 ·cases e
noncomputable def Z4N (i:Nat)(fk fw:FD):FS:=fun d=>match d[i]? with
 |some (some (.dct false kvs))=>(fw d).bind fun U=>(fk d).bind fun T=>match T with|.str x=>if Fn U=true∧kvs.length<1000000 then some (.nx (d.set i (some (.dct false (Zb6 kvs x U))))) else none|_=>none
 |_=>none
theorem Rep.putD {H:Hp}{O:Hid}{σ:St}{d:Sd}{fz fz':Bool}{u:HO}(r:Rep K H O σ d){kvs kvs':List (Str×Th)}(hd:d[i]?=some (some (.dct fz kvs))){p:Addr}(hp:(i,p)∈O.own)(hs:σ[i]?=some (some (.ref p)))(hf:¬ O.far p)(hu:Z56 (upd H p u) p fz' kvs') :
  Rep K (upd H p u) O σ (d.set i (some (.dct fz' kvs')))∧Jq (low H O) (low (upd H p u) O):=by
 have hm:p∈O.own.map (·.2):=ZE.mpr ⟨_,hp,rfl⟩
 have hi:i<d.length:=(Zq.mp hd).1
 have sub:Jq (less H O) (less (upd H p u) O):=fun q o e=>by
  obtain⟨h1,h2⟩:=of_less e
  have np:q≠p:=fun z=>h2 (.inl (by rw[z];exact hm))
  exact Uh (by rw[YA np];exact h1) h2
 have ne:∀ {j:Nat} {D:Dv},(d.set i (some (Dv.dct fz' kvs')))[j]?=some (some D)→(i=j∧D=.dct fz' kvs')∨(i≠j∧d[j]?=some (some D)):=by
  intro j D e
  by_cases hj:i=j
  ·subst hj
   rw[Zw hi] at e
   cases e
   exact .inl ⟨rfl,rfl⟩
  ·rw[Zg hj] at e
   exact .inr ⟨hj,e⟩
 refine⟨{ len:=by rw[JM];exact r.len,th:=fun j U e=>?_,own:=fun j ws e=>?_,there:=fun q hq=>?_,inj:=r.inj,exc:=fun j c e=>?_,dct:=fun j fy ws e=>?_ },fun q o e=>?_⟩
 ·rcases ne e with ⟨-,z⟩|⟨hj,e⟩
  ·cases z
  ·obtain⟨w,h1,h2⟩:=r.th j U e
   exact⟨w,h1,h2.mono sub⟩
 ·rcases ne e with ⟨-,z⟩|⟨hj,e⟩
  ·cases z
  ·obtain⟨a',xs',h1,h2,h3,h4,h5⟩:=r.own j ws e
   have np:a'≠p:=fun z=>hj (r.inj i j p hp (by rw[← z];exact h1))
   exact⟨a',xs',h1,h2,by rw[YA np];exact h3,h4,h5.mono sub⟩
 ·by_cases hq':q=p
  ·subst hq';exact⟨_,JB⟩
  ·obtain⟨o,e⟩:=r.there q hq
   exact⟨o,by rw[YA hq'];exact e⟩
 ·rcases ne e with ⟨-,z⟩|⟨hj,e⟩
  ·cases z
  ·obtain⟨a',C,h1,h2,h3⟩:=r.exc j c e
   exact⟨a',C,h1,h2,sub _ _ h3⟩
 ·rcases ne e with ⟨rfl,z⟩|⟨hj,e⟩
  ·cases z
   exact⟨p,hp,hs,hu,hf⟩
  ·obtain⟨a',h1,h2,h3,h4⟩:=r.dct j fy ws e
   have np:a'≠p:=fun z=>hj (r.inj i j p hp (by rw[← z];exact h1))
   exact⟨a',h1,h2,h3.mono fun o q=>by rw[YA np];exact q,h4⟩
 ·obtain⟨h1,h2⟩:=Z0q e
  have np:q≠p:=fun z=>h2 (by rw[z];exact hm)
  exact M6 (by rw[YA np];exact h1) h2
theorem Zbq (hr:GZ k X.A)(ho:PE X o (ZaN i))(hi:PB X e fk)(hv:PD X value fw)(hs:swapsWith value (some (.Subscript o e pos')) pos.line X.env=pure false) :
  PDS X (.Assign [.Subscript o e pos'] value pos) (Z4N i fk fw):=PS.imp (Ze9 (Zhx hr) ho hi hv hs) fun D σ H z_=>by
 obtain⟨O,d,o,R,e,q⟩:=z_
 unfold Z4N at e
 split at e
 ·rename_i kvs hd
  cases hw:fw d with
  |none=>rw[hw] at e;cases e
  |some U =>
   rw[hw] at e
   cases hk:fk d with
   |none=>rw[hk] at e;cases e
   |some T =>
    rw[hk] at e
    cases T with
    |str x =>
     change (if Fn U=true∧kvs.length<1000000 then some (Out.nx (d.set i (some (.dct false (Zb6 kvs x U))))) else none)=some o at e
     split at e
     ·rename_i hc
      cases e
      refine⟨O,d,U,R,hw,fun v H1 s1 b1=>?_⟩
      have R1:=R.mono s1
      obtain⟨a,h1,h2,h3,h4⟩:=R1.dct i false kvs hd
      refine⟨_,h2,O,d,_,R1,hk,fun w H2 s2 b2=>?_⟩
      rw[b2.str]
      have R2:=R1.mono s2
      have h3':H2 a=some (.dK (dkv kvs)):=s2 _ _ h3
      refine⟨a,upd H2 a (.dK (dkv (Zb6 kvs x U))),rfl,.inl ⟨_,Gb x,h3',rfl,by rw[Z9S];exact ZO hc.2 (by decide),?_⟩,?_⟩
      ·rw[Zj4 b1 hc.1,Ze5]
      ·obtain⟨R3,s3⟩:=R2.putD (fz':=false) (u:=.dK (dkv (Zb6 kvs x U))) (kvs':=Zb6 kvs x U) hd h1 h2 h4 JB
       exact q σ _ O rfl (((Ui s1).trans (Ui s2)).trans s3) R3
     ·cases e
    |_=>cases e
 ·cases e
end
theorem ZiX {P:Program}{w:World}{k:Key}{v:Value}(h:(Gx P w).is k v=true):RelV (kV k) v:=by
 rcases UC (show Z4t k v=true from h) with ⟨i,t,rfl,rfl⟩|⟨x,t,rfl,rfl⟩
 ·exact⟨t,rfl⟩
 ·exact⟨t,rfl⟩
noncomputable def Zdf (b:Th):Lt_→Option Th
 |[]=>some b
 |t::r=>match oLt t b with
  |some (.bl true)=>Zdf t r
  |some (.bl false)=>Zdf b r
  |_=>none
section
variable {prog:Program}{w:World}{A:Around}{G:Value→Th→Prop}{h0:Heap}{l I S:Addr}{vs:Lu_}{ts:Lt_}{kw:List (Str×Value)}{R:Result→Shared→Prop}
def Lts (prog:Program)(w:World)(A:Around)(G:Value→Th→Prop)(h0:Heap):Prop:=∀ (u v:Value) (t b:Th) (c:Bool) (s:Shared) (Q:Ps_) (E:Ps_),Sg.Ext h0 s.heap→G u t→G v b→oLt t b=some (.bl c)→Q (.bool c) s→wpAny (model prog w) A (richCompare .Lt u v) Q E s
theorem Z1h:(toString "min"++toString ".loop":String)="min.loop":=by decide
theorem Z2v {α β:Type}{F:α→β→Prop}:∀ {xs:List α} {ys:List β} {i:Nat} {y:β},Paired F xs ys→ys[i]?=some y→∃ x,xs[i]?=some x∧F x y:=by
 intro xs ys i y h
 induction h generalizing i with
 |nil=>intro e;simp at e
 |cons r t ih=>intro e;cases i with
  |zero=>cases e;exact⟨_,rfl,r⟩
  |succ i=>exact ih e
theorem Zf2 (hh:A.in1.handled=none)(C:Lts prog w A.in1 G h0)(hl:h0.IsList l vs.toArray)(nI:h0.get? I=none)(nS:h0.get? S=none)(ne:S≠I)(P:Paired G vs ts) :
  ∀ (r:Lt_) (j:Nat) (s:Shared) (vb:Value) (tb tm:Th) (c:Nat),ts.drop j=r→j≤ts.length→G vb tb→Zdf tb r=some tm→Sg.Ext h0 s.heap→s.heap.IsListIter I l j →
  s.heap.get? S=some { cls:=.type "list",dict:=none,data:=.seq #[vb,vb] c,slots:=#[] } →
  (∀ v h' tk,G v tm→Sg.Ext h0 h'→R (.ok (.ret v)) { s with heap:=h',toks:=tk }) →
  codeAny (model prog w) A (.builtin "min.loop" ⟨[.ref I,.none,.ref S],kw⟩) R s:=by
 have hne:l≠I:=fun z=>by
  obtain⟨o,ho,-⟩:=hl
  rw[z,nI] at ho
  cases ho
 have hlS:l≠S:=fun z=>by
  obtain⟨o,ho,-⟩:=hl
  rw[z,nS] at ho
  cases ho
 have hlen:vs.length=ts.length:=P.length
 have W:=Z3E (prog:=prog) (w:=w) hh I l hne vs.toArray
 have up:∀ {h h':Heap},Sg.Ext h0 h→(∀ b o,b∉[I]→h.get? b=some o→h'.get? b=some o)→Sg.Ext h0 h':=fun e k b o q=>k b o (fun z=>by
  rw[Jf] at z
  rw[z,nI] at q
  cases q) (e b o q)
 have upS:∀ {h:Heap} (f:Obj→Obj),Sg.Ext h0 h→Sg.Ext h0 (h.update S f):=fun f e b o q=>by
  refine (YM _ _ (fun z=>?_)).trans (e b o q)
  rw[← z,nS] at q
  cases q
 have atL:∀ {h:Heap},Sg.Ext h0 h→h.IsList l vs.toArray:=fun e=>hl.at fun o q=>e _ _ q
 intro r
 induction r with
 |nil =>
  intro j s vb tb tm c hr hj gb em eh hi hS hR
  have ej:vs.toArray.size=j:=by
   have:=Z7w.mp hr
   simp
   lia
  cases em
  refine Yf Z1X ?_
  rw[Jy GA _]
  show wpAny _ A.in1 (seqItems? _>>=_) _ _ s
  refine Z0 (GI hS rfl ?_)
  show wpAny _ A.in1 (tryCatch (pyNext _) _>>=_) _ _ s
  refine Z0 (WA (W.done s _ _ ⟨by rw[ej];exact hi,atL eh⟩ fun h1 tk k1=>?_))
  have hS1:=k1 S _ (by simpa using ne) hS
  show wpAny _ A.in1 (updateSeq S _>>=_) _ _ _
  refine Z0 ?_
  refine QR hS1 rfl (Z0 (CO (Z5 ?_)))
  exact hR vb _ tk gb (upS _ (up eh k1))
 |cons t r ih =>
  intro j s vb tb tm c hr hj gb em eh hi hS hR
  have hjl:j<ts.length:=by
   rcases Z7s j ts.length with z|z
   ·exact z
   ·rw[Z7w.mpr z] at hr;cases hr
  rw[YS hjl] at hr
  injection hr with ht hr'
  obtain⟨v0,hv0,gv0⟩:=Z2v P (Za hjl)
  rw[ht] at gv0
  refine Yf Z1X ?_
  rw[Jy GA _]
  show wpAny _ A.in1 (seqItems? _>>=_) _ _ s
  refine Z0 (GI hS rfl ?_)
  show wpAny _ A.in1 (tryCatch (pyNext _) _>>=_) _ _ s
  refine Z0 (WA (W.item j s _ _ (by simp;lia) ⟨hi,atL eh⟩ fun v h1 tk hv st1 k1=>?_))
  have ev:v=v0:=by
   have hv':vs[j]?=some v:=by simpa using hv
   rw[hv0] at hv'
   cases hv'
   rfl
  subst ev
  have e1:=up eh k1
  have hS1:=k1 S _ (by simpa using ne) hS
  unfold Zdf at em
  have hb:∃ b,oLt t tb=some (.bl b):=by
   revert em
   split
   ·intro;exact⟨_,by assumption⟩
   ·intro;exact⟨_,by assumption⟩
   ·intro z;cases z
  obtain⟨b,hb⟩:=hb
  rw[hb] at em
  show wpAny _ A.in1 (tryCatch (holding [v,v] (richCompare .Lt v vb>>=_)) _>>=_) _ _ _
  refine Z0 (WA (Y5 (Z0 (C v vb t tb b _ _ _ e1 gv0 gb hb ?_))))
  refine Z0 (Y5 (Mx ?_))
  refine Z0 (CO (Z5 ?_))
  cases b with
  |true =>
   simp only[if_true]
   refine Z0 ?_
   refine QR hS1 rfl (Z0 (CO ?_))
   rw[Z1h]
   refine Z5 ⟨UZ GA _,ih (j+1) _ v t tm _ hr' hjl gv0 em (upS _ e1) ?_ (Yx _ hS1 rfl) fun v' h2 tk2 g2 e2=>hR v' h2 tk2 g2 e2⟩
   exact st1.1.at fun o q=>(YM _ _ ne).trans q
  |false =>
   simp only[Zj,if_false]
   refine Z0 (CO ?_)
   rw[Z1h]
   exact Z5 ⟨UZ GA _,ih (j+1) _ vb tb tm c hr' hjl gb em e1 st1.1 hS1 fun v' h2 tk2 g2 e2=>hR v' h2 tk2 g2 e2⟩
noncomputable def Z2E (df:Th):Lt_→Option Th
 |[]=>some df
 |t::r=>Zdf t r
theorem ZbP (hh:A.in1.handled=none)(C:Lts prog w A.in1 G h0)(hl:h0.IsList l vs.toArray)(nI:h0.get? I=none)(nS:h0.get? S=none)(ne:S≠I)(P:Paired G vs ts){s:Shared}{dv:Value}{k:Str}{df tm:Th}{c:Nat}(gd:G dv df)
  (em:Z2E df ts=some tm) (eh:Sg.Ext h0 s.heap) (hi:s.heap.IsListIter I l 0) (hS:s.heap.get? S=some { cls:=.type "list",dict:=none,data:=.seq #[] c,slots:=#[] })
  (hR:∀ v h' tk,G v tm→Sg.Ext h0 h'→R (.ok (.ret v)) { s with heap:=h',toks:=tk }):codeAny (model prog w) A (.builtin "min.loop" ⟨[.ref I,.none,.ref S],[(k,dv)]⟩) R s:=by
 have hne:l≠I:=fun z=>by
  obtain⟨o,ho,-⟩:=hl
  rw[z,nI] at ho
  cases ho
 have W:=Z3E (prog:=prog) (w:=w) hh I l hne vs.toArray
 have up:∀ {h h':Heap},Sg.Ext h0 h→(∀ b o,b∉[I]→h.get? b=some o→h'.get? b=some o)→Sg.Ext h0 h':=fun e k b o q=>k b o (fun z=>by
  rw[Jf] at z
  rw[z,nI] at q
  cases q) (e b o q)
 refine Yf Z1X ?_
 rw[Jy GA _]
 show wpAny _ A.in1 (seqItems? _>>=_) _ _ s
 refine Z0 (GI hS rfl ?_)
 show wpAny _ A.in1 (tryCatch (pyNext _) _>>=_) _ _ s
 cases P with
 |nil =>
  cases em
  refine Z0 (WA (W.done s _ _ ⟨hi,hl.at fun o q=>eh _ _ q⟩ fun h1 tk k1=>?_))
  show wpAny _ A.in1 (rule _>>=_) _ _ _
  refine Z0 (Gk (Z5 ?_))
  exact hR dv _ tk gd (up eh k1)
 |@cons u t us ts gu P' =>
  refine Z0 (WA (W.item 0 s _ _ (by simp) ⟨hi,hl.at fun o q=>eh _ _ q⟩ fun v h1 tk hv st1 k1=>?_))
  have ev:v=u:=by
   have hv':(u::us)[0]?=some v:=by simpa using hv
   cases hv'
   rfl
  subst ev
  have e1:=up eh k1
  have hS1:=k1 S _ (by simpa using ne) hS
  show wpAny _ A.in1 (updateSeq S _>>=_) _ _ _
  refine Z0 ?_
  refine QR hS1 rfl ?_
  rw[Z1h]
  refine Z5 ⟨UZ GA _,Zf2 (ts:=t::ts) hh C hl nI nS ne (.cons gu P') ts 1 _ v t tm _ rfl (by simp) gu em (fun b o q=>?_) (st1.1.at fun o q=>(YM _ _ ne).trans q) (Yx _ hS1 rfl) fun v' h2 tk2 g2 e2=>hR v' h2 tk2 g2 e2⟩
  refine (YM _ _ (fun z=>?_)).trans (e1 b o q)
  rw[← z,nS] at q
  cases q
theorem Zaa (a d:Value):argsOk "min" ⟨[a],[(ZY "default",d)]⟩:=by unfold argsOk;kernel_rfl
theorem Za4 {E:Ps_}{s:Shared}{dv:Value}{df tm:Th}{Q:Ps_}(hh:A.in1.handled=none)(C:Lts prog w A.in1 G s.heap)(hl:s.heap.IsList l vs.toArray)(P:Paired G vs ts)(gd:G dv df)
  (em:Z2E df ts=some tm) (hQ:∀ v h' tk,G v tm→Sg.Ext s.heap h'→Q v { s with heap:=h',toks:=tk }):wpAny (model prog w) A (call (.builtin "min") [.ref l] [(ZY "default",dv)]) Q E s:=by
 refine ZhT (Zfq F.plain_min F.entry_min ?_)
 have main:wpAny (model prog w) A.in1 (Builtin.«min» ⟨[.ref l],[(ZY "default",dv)]⟩) (fun fin s'=>match fin with
   |.done f=>(match (Except.ok f:Result) with|.ok (.ret v)=>Q v s'|.ok _=>False|.error e=>E e s')
   |.again c'=>c'.quiet=true∧codeAny (model prog w) A c' (fun r s'=>match r with|.ok (.ret v)=>Q v s'|.ok _=>False|.error e=>E e s') s') E s:=by
  show wpAny _ A.in1 (Dp "min" ["key","default"] 0 ⟨[],[(ZY "default",dv)]⟩>>=_) _ _ s
  refine Z0 (CN (show Dp "min" ["key","default"] 0 ⟨[],[(ZY "default",dv)]⟩=pure [none,some dv] from rfl) ?_)
  refine Z0 (Z5 ?_)
  refine Z0 (D1 hl ?_)
  refine Z0 (JC ?_)
  rw[Z1h]
  refine Z5 ⟨UZ GA _,ZbP hh C hl (MA (Zc _)) (MA ?_) ?_ P gd em (fun b o e=>Z2 _ (Z2 _ e)) ?_ (Zu _ rfl) fun v h' tk g e=>hQ v h' tk g e⟩
  ·rw[Fg];exact UU _
  ·rw[Fg];exact Z0R _
  ·exact⟨_,Z2 _ (Zu _ rfl),rfl,rfl⟩
 simp only[checkBuiltinCall,F.kind_min]
 cases hsig:Manifest.signature? "min" with
 |none=>exact Z5 main
 |some sig =>
  have ha:=Zaa (.ref l) dv
  simp only[argsOk,hsig] at ha
  have h2:Bind.checkArgs "min" sig ⟨[.ref l],[(ZY "default",dv)]⟩=pure ():=ha
  simp only[h2]
  exact Z5 main
end
section
variable {X:Cx}{K:Fg_}{e value:Expr}{fs:FL}{fd:FD}{p pos kp:Pos}{k:Nat}
theorem Z5M {h h':Heap}{a:Addr}{its:Au_}(x:IsTup h a its)(e:Sg.Ext h h'):IsTup h' a its:=let ⟨o,ho,r⟩:=x;⟨o,e _ _ ho,r⟩
theorem ZbW {pins:Pn_}{σ:St}{H:Hp}{s:Shared}(I:Inv X pins σ H s){A:Around}(hu:A.units<cLine):Lts X.prog X.w A (fun u t=>∃ x,RelV x u∧JF X.K H x t) s.heap:=by
 rintro u v t b c s1 Q E hE ⟨x,rx,bx⟩ ⟨y,ry,by'⟩ hlt hQ
 unfold oLt at hlt
 split at hlt
 ·cases hlt
  cases bx
  cases by'
  obtain⟨t1,rfl⟩:=rx
  obtain⟨t2,rfl⟩:=ry
  exact (lt_int hQ:wpAny (model X.prog X.w) A (compareOp .Lt _ _) Q E s1)
 ·cases hlt
  cases bx
  cases by'
  obtain⟨t1,rfl⟩:=rx
  obtain⟨t2,rfl⟩:=ry
  exact HT.rcLt_str _ _ _ _ _ _ _ _ _ _ hQ
 ·rename_i ts us
  cases h1:M7 ts with
  |none=>rw[h1] at hlt;cases hlt
  |some ns =>
   rw[h1] at hlt
   change ((M7 us).bind fun ms=>(HT.lexK ns ms).map Th.bl)=_ at hlt
   cases h2:M7 us with
   |none=>rw[h2] at hlt;cases hlt
   |some ms =>
    rw[h2] at hlt
    change ((HT.lexK ns ms).map Th.bl)=_ at hlt
    cases h3:HT.lexK ns ms with
    |none=>rw[h3] at hlt;cases hlt
    |some z =>
     rw[h3] at hlt
     cases hlt
     cases bx with
     |tup g1 b1=>cases by' with
      |tup g2 b2 =>
       cases rx
       cases ry
       obtain⟨its,r1,p1,_⟩:=I.tuple g1
       obtain⟨its2,r2,p2,_⟩:=I.tuple g2
       exact (HT.lt_tupKeys (Z5M p1 hE) (Z5M p2 hE) (by simpa using DP h1 b1 r1) (by simpa using DP h2 b2 r2) h3 hu hQ:wpAny (model X.prog X.w) A (compareOp .Lt _ _) Q E s1)
 ·cases hlt
theorem Z8G {H:Hp}:∀ {xs:Lv_} {us:Lu_} {ts:Lt_},Uj xs us→J6 K H xs ts→Paired (fun u t=>∃ x,RelV x u∧JF K H x t) us ts:=by
 intro xs us ts h
 induction h generalizing ts with
 |nil=>intro b;cases b;exact .nil
 |cons r t ih=>intro b;cases b with
  |cons b bs=>exact .cons ⟨_,r,b⟩ (ih bs)
noncomputable def Z9M (fs:FL)(fd:FD):FD:=fun d=>(fs d).bind fun Ts=>(fd d).bind fun df=>match Ts with|[.lst ts]=>Z2E df ts|_=>none
theorem Zey (hr:GZ k X.A) (hc:X.calm=true) (hg:Gl X "min") (hm:X.mg "min"=none) (ha:PBA X [e] fs) (hv:PD X value fd)
  (he:backTo pos (starEach [e] X.env)=(false,eval e X.env)::backTo pos (starEach [] X.env)) (hplain:(backTo pos (starEach [e] X.env)).any (·.1)=false)
  (hall:(backToKw pos (keywordEach [⟨some (ZY "default"),value,kp⟩] X.env)).all (·.1.isSome)=true) (hkw:(backToKw pos (keywordEach [⟨some (ZY "default"),value,kp⟩] X.env)).any (·.1.isNone)=false)
  (hz:∀ v:Value,((backToKw pos (keywordEach [⟨some (ZY "default"),value,kp⟩] X.env)).filterMap (·.1)).zip [v]=[(ZY "default",v)]) :
  PD X (.Call (.Name "min" p) [e] [⟨some (ZY "default"),value,kp⟩] pos) (Z9M fs fd):=by
 intro pins s σ H Q I ⟨O,d,T,R,ef,q⟩
 unfold Z9M at ef
 cases hf:fs d with
 |none=>rw[hf] at ef;cases ef
 |some Ts =>
  rw[hf] at ef
  change ((fd d).bind _)=_ at ef
  cases hfd:fd d with
  |none=>rw[hfd] at ef;cases ef
  |some df =>
   rw[hfd] at ef
   match Ts,hf,ef with
   |[.lst ts],hf,ef =>
    change Z2E df ts=some T at ef
    refine M5 (BU I hg hm (by rfl) ?_ (by decide) (by decide))
    refine callWith_kw ?_ he hplain hall hkw
    refine thn (ha pos pins s σ H _ I ⟨O,d,_,R,hf,fun vs H1 s1 b1=>(⟨s1,b1⟩:Jq H H1∧Paired (Fe X.K H1 O) vs [.lst ts])⟩) fun us s1 z1_=>?_
    obtain ⟨vs,H1,I1,r1,sm,b1⟩:=z1_
    obtain⟨v1,rfl,b3⟩:=N7 b1
    obtain⟨u1,rfl,ru⟩:=vals1 r1
    obtain⟨a,xs,rfl,hq,bx⟩:=b3.lst
    cases ru
    refine kws_cons (thn (hv pins s1 σ H1 _ I1 ⟨O,d,df,R.mono sm,hfd,fun v H2 s2 b2=>(⟨s2,b2⟩:Jq H1 H2∧JF X.K (less H2 O) v df)⟩) fun dv s2 ⟨v2,H2,I2,r2,sm2,b2⟩=>kws_nil ?_)
    rw[hz]
    obtain⟨its,rv,pl,hz'⟩:=I2.list (sm2.seq hq)
    refine Za4 (A:=X.A) (G:=fun u t=>∃ x,RelV x u∧JF X.K (less H2 O) x t) (I2.ok.hd hc) ?_ pl.isList (Z8G rv (bx.mono (JY sm2))) ⟨v2,r2,b2⟩ ef fun v h' tk ⟨x,rx,bxx⟩ hE=>?_
    ·intro u v t b c s3 Q E hE ⟨x,rx,bx⟩ ⟨y,ry,by'⟩
     exact ZbW I2 (A:=X.A.in1) (by have:=hr.un;show X.A.units+1<cLine;lia) u v t b c s3 Q E hE ⟨x,rx,bx.mono (Jp _ _)⟩ ⟨y,ry,by'.mono (Jp _ _)⟩
    ·exact⟨x,H2,I2.kept (t':=tk) hE,rx,q x H2 (sm.trans sm2) bxx⟩
end
section
variable {X:Cx}{tg a b:Expr}{fa fb:FD}{K:Fg_}{p pos:Pos}
noncomputable def Q2 (lo:Int)(n:Nat):Lt_:=(Jg n).map fun (k:Nat)=>Th.int (lo+(k:Int))
theorem Z4u {H:Hp}{O:Hid}(lo:Int)(n:Nat):ZcE K (Itr lo n) (low H O) O.far (Q2 lo n) where
 go:=fun i H' s hi=>by
  show i<n
  simpa [Q2] using hi
 stop:=fun H' s=>by
  show n≤(Q2 lo n).length
  simp[Q2]
 yld:=fun i H' O' v H'' hi hf s _ y=>by
  obtain⟨e,e2⟩:=y
  subst e e2
  refine⟨Jq.refl _,.int (lo+i),?_,.int _⟩
  have hi':i<n:=by simpa [Q2] using hi
  simp[Q2,hi']
noncomputable def Dg (fa fb:FD):FL:=fun d=>(fa d).bind fun A=>(fb d).bind fun B=>match A,B with
 |.int i,.int j=>if -1000000≤i∧i≤1000000∧-1000000≤j∧j≤1000000 then some (Q2 i (j-i).toNat) else none
 |_,_=>none
theorem Z6F (hg:Gl X "range") (hm:X.mg "range"=none) (ha:PD X a fa) (hb:PD X b fb) (hs:starEach [a,b] X.env=[(false,eval a X.env),(false,eval b X.env)]) (hs2:starEach [b] X.env=[(false,eval b X.env)])
  (hs1:starEach [a,b] X.env=(false,eval a X.env)::starEach [b] X.env) (hs3:starEach [b] X.env=(false,eval b X.env)::starEach [] X.env):PDI X tg (.Call (.Name "range" p) [a,b] [] pos) (Dg fa fb) :=
 PI.imp (Z8u hg hm (Nt ha (Nt hb W0 hs3) hs1) hs hs2) fun σ H R z_=>by
  obtain⟨O,d,ts,r,e,q⟩:=z_
  unfold Dg at e
  cases h1:fa d with
  |none=>rw[h1] at e;cases e
  |some A =>
   rw[h1] at e
   cases h2:fb d with
   |none=>rw[h2] at e;cases e
   |some B =>
    rw[h2] at e
    cases A with
    |int i=>cases B with
     |int j =>
      change (if -1000000≤i∧i≤1000000∧-1000000≤j∧j≤1000000 then some (Q2 i (j-i).toNat) else none)=some ts at e
      split at e
      ·rename_i hj
       cases e
       refine⟨O,d,.int i,r,h1,fun v H1 s1 b1=>?_⟩
       cases b1
       refine⟨O,d,.int j,r.mono s1,h2,fun v H2 s2 b2=>?_⟩
       cases b2
       exact⟨i,j,rfl,⟨by lia,by omega,by lia,by omega⟩,q _ H2 (s1.trans s2) (Z4u _ _)⟩
      ·cases e
     |_=>cases e
    |_=>cases e
end
theorem Z3i {prog:Program}{w:World}{A:Around}{E:Ps_}{s:Shared}{a:Addr}{vs:List (Key×Value)}{ep:Nat}{Q:List Value→Shared→Prop}(hh:A.handled=none)(hd:(a == sysModules)=false)(m:s.heap.DictAt (Gx prog w) a vs ep)(hn:vs.length≤sizeLine)
  (hQ:∀ h' tk (acc:Au_),Sg.Ext s.heap h'→ItemsOf (fun i v=>∃ k x,vs[i]?=some (k,x)∧(Gx prog w).is k v=true) acc vs.length→Q acc.toList { s with heap:=h',toks:=tk }):wpAny (model prog w) A (collect (.ref a)) Q E s:=by
 have ha:a<s.heap.objs.size:=m.lt_size
 unfold collect
 refine Z0 (FV (Yf ZaC ?_))
 rw[Jy ZaB _]
 show wpAny _ A.in1 (newList []>>=fun l=>again (.builtin "list.__iadd__" ⟨[l,.ref a],[]⟩)) _ _ s
 refine Z0 (JC ?_)
 refine Z5 ⟨UZ WT _,Yf ZfQ ?_⟩
 rw[Jy WT _]
 show wpAny _ A.in1 (U7 (.ref s.heap.objs.size) (.ref a) (.ref s.heap.objs.size)) _ _ _
 refine PySem.W.kdl_extend (R:=fun r s'=>match r with
   |.ok (.ret v)=>wpAny (model prog w) A (match v with
    |YX a=>(do let o ← load a;match o.data with|.seq xs _=>pure xs.toList|_=>unsupported "internal:collect")
    |_=>unsupported "internal:collect") Q E s'
   |.ok _=>False
   |.error e=>E e s') (s:={ s with heap:=s.heap.push { cls:=.type "list",data:=.seq ([]:Lu_).toArray } }) (PySem.W.kdl_dict (knd:=Gx prog w) (kvs:=vs) (ep:=ep) hd) hh (m.push _) s.heap.objs.size (NA ha) (NA ha) _ 0 (Zu _ rfl) (fun h' tk acc c kp hS it=>?_) hn
 show wpAny _ A (load s.heap.objs.size>>=_) _ _ _
 refine Z0 (Z7C hS ?_)
 exact Z5 (hQ h' tk acc (fun b o e=>kp b o (ZI (ZB e)) (Z2 _ e)) it)
theorem Z7R:∀ {l:Lu_} {ss:Ls_},l.length=ss.length→(∀ (j:Nat) (v:Value),l[j]?=some v→∃ x t,ss[j]?=some x∧v=.str x t)→StrsAre l ss
 |[],[],_,_=>.nil
 |[],_::_,h,_=>nomatch h
 |_::_,[],h,_=>nomatch h
 |v::l,x::ss,h,f=>by
  obtain⟨y,t,h1,rfl⟩:=f 0 v rfl
  cases h1
  exact .cons x t (Z7R (by simpa using h) fun j u hj=>f (j+1) u hj)
def Zgc:Lv_→Hp→VK→Prop:=fun xs H Q=>∃ p kvs,xs=[.ref p]∧Rd H p (.dK (dkv kvs))∧∀ q,H q=none→Q (.ref q) (upd H q (.lst ((Ng (kvs.map (·.1))).map V.str)))
theorem Z78 {X:Cx} (hc:X.calm=true):MG X (.builtin "sorted") Zgc:=by
 intro pins s σ H xs us Q I r h
 obtain⟨p,kvs,rfl,hH,q⟩:=h
 obtain⟨u,rfl,ru⟩:=vals1 r
 cases ru
 obtain⟨z,hd,vs,rel,dd⟩:=Zcm I.hok hH
 obtain⟨ep,da⟩:=dd.dictAt
 have hlen:vs.length=kvs.length:=by rw[← rel.length,Z9S]
 refine Sg.sorted_any fun A' hA=>Z3i (hA.trans (I.ok.hd hc)) hd da (by rw[← rel.length];exact z) fun h1 tk acc x1 it=>?_
 have v1:StrsAre acc.toList (kvs.map (·.1)):=by
  refine Z7R (by rw[Zm,it.1,Z3,hlen]) fun j v hv=>?_
  obtain⟨k,x,hk,hi⟩:=it.2 j v (by rw[← J0];exact hv)
  have h2:=congrArg (fun l=>l[j]?) rel.keys
  simp only[Jc,hk,Z7] at h2
  unfold dkv at h2
  rw[Jc] at h2
  cases hq:kvs[j]? with
  |none=>rw[hq] at h2;cases h2
  |some p' =>
   rw[hq] at h2
   have h3:(Gb p'.1:Key)=k:=Jn h2
   rw[← h3] at hi
   have rv:RelV (kV (Gb p'.1)) v:=ZiX hi
   obtain⟨t,e⟩:=(show ∃ t,v=Fc p'.1 t from rv)
   exact⟨p'.1,t,by rw[Jc,hq];rfl,e⟩
 refine⟨by rw[Zm,it.1,← rel.length];exact z,_,_,_,_,Sg.sorts_strs h1 v1,fun out h' e a1 a2 a3 a4=>?_⟩
 obtain⟨w1,w2⟩:=FX v1 a1
 have hs:Ng (kvs.map (·.1))=out.map strOf:=by
  refine Fu w2 (Ye.mpr (Ux (fun {a c} ha hc hac=>?_) a2))
  obtain⟨x,t,rfl⟩:=w1.all a ha
  obtain⟨y,t',rfl⟩:=w1.all c hc
  exact MX.mp (of_decide_eq_false hac)
 have I1:Inv X pins σ H { s with heap:=h1,toks:=tk }:=I.kept (t':=tk) x1
 refine⟨.ref h1.objs.size,upd H h1.objs.size (.lst ((Ng (kvs.map (·.1))).map V.str)),I1.laid (t':=tk) a3 (Zc _) ?_,rfl,q _ (I1.hok.fresh (Zc _))⟩
 refine⟨?_,out,e,?_,a4⟩
 ·rw[Z3,hs,Z3,a1.length_eq,Zm,it.1,← rel.length]
  exact z
 ·rw[hs]
  exact Z21 w1
noncomputable def Z0B (i:Nat):FL:=fun d=>match d[i]? with|some (some (.dct _ kvs))=>some ((Ng (kvs.map (·.1))).map Th.str)|_=>none
theorem Zbd {X:Cx} {o:Expr} {i:Nat} {p pos:Pos} (hc:X.calm=true) (hg:Gl X "sorted") (hm:X.mg "sorted"=none) (ho:PE X o (ZaN i))
  (he:starEach [o] X.env=(false,eval o X.env)::starEach [] X.env) (hpl:(backTo pos (starEach ([]:Le_) X.env)).any (·.1)=false):PF X (.Call (.Name "sorted" p) [o] [] pos) (Z0B i) :=
 PE.imp (Qv (Z78 hc) hg hm (by rfl) (Nt ho W0 he) (by decide) (by decide) he hpl) fun σ H Q z_=>by
  obtain⟨O,d,T,R,e,q⟩:=z_
  unfold Z0B at e
  split at e
  ·rename_i fz kvs hd
   cases e
   obtain⟨a,h1,h2,h3,h4⟩:=R.dct i fz kvs hd
   refine⟨_,h2,a,kvs,rfl,h3.rd,fun b hb=>?_⟩
   refine q _ _ (Jq.upd hb) ⟨b,_,rfl,hb,JB,?_⟩
   have bs:∀ (l:Ls_) (H:Hp),J6 X.K H (l.map V.str) (l.map Th.str):=fun l H=>by
    induction l with
    |nil=>exact .nil
    |cons x l ih=>exact .cons (.str x) ih
   exact bs _ _
  ·cases e
end L2
namespace Sg
open PySem PyProof.Rows PySem.Spec PySem.W
section
variable {prog:Program}{w:World}{A:Around}{E:Ps_}{s:Shared}{O:KeyOrd}{key:Keyed→O.α}{G:Keyed→Prop}{kd:Nn}{h:Heap}{keys vs:Lu_}
theorem Z5J {a kS:Addr} {e e1:Nat} {st:SortSt} {P:Fin→Shared→Prop} (ho:s.heap.get? a=some (seqObj "list" #[] e1)) (hk:s.heap.get? kS=some (seqObj "list" keys.toArray e)) (hne:kS≠a) (hkz:keys.length≤sizeLine)
  (hf:failedOf st=none) (hsz:(arrOf st).size≤sizeLine)
  (hP:∀ h',(∀ b o,b≠a→b≠kS→s.heap.get? b=some o→h'.get? b=some o)→(∃ n,h'.get? a=some (seqObj "list" ((arrOf st).map (·.2)) n))→P (.done (.ret .none)) { s with heap:=h' }) :
  wpAny (model prog w) A (ksk_tail a false e1 (.ref kS) st) P E s:=by
 have hs2:((arrOf st).map (·.2)).size≤sizeLine+1:=by rw[Z1Y];lia
 unfold ksk_tail
 refine Z0 (Nl hk rfl ?_ (by simpa using hkz) (Jv _))
 refine Z0 (CO ?_)
 have ho2:(s.heap.update kS (Yy fun _=>#[])).get? a=some (seqObj "list" #[] e1):=by
  rw[Ur _ _ _ _ hne.symm];exact ho
 refine Z0 (CP ho2 rfl ?_)
 refine Z0 (Nl ho2 rfl ?_ (Jv _) (by simpa using hs2))
 rw[hf]
 simp only[bne_self_eq_false,Zj,if_false]
 refine Z5 (hP _ (fun b o h1 h2 e=>?_) ?_)
 ·rw[Ur _ _ _ _ h1,Ur _ _ _ _ h2]
  exact e
 ·exact⟨_,BV ho2 _⟩
theorem Zc7 {xs:Ak_}{ps:List Keyed}(hp:xs.Perm ps.toArray)(hu:Up key xs.toList):(xs.toList).Perm ps∧xs.toList.Pairwise fun a b=>O.kle (key a) (key b) :=
 ⟨by simpa using Uy.mp hp,hu⟩
theorem key_end {a kS:Addr}{e e1:Nat}{P:Fin→Shared→Prop}(S:Sorts prog w h keys O key G kd)(hG:∀ k v,G (k,k)→G (k,v))(hl:keys.length=vs.length)
  (ho:s.heap.get? a=some (seqObj "list" #[] e1)) (hk:s.heap.get? kS=some (seqObj "list" keys.toArray e)) (hne:kS≠a) (he:Ext h s.heap) (hz:vs.length≤sizeLine)
  (hP:∀ (out:List Keyed) h',out.Perm (keys.zip vs)→(out.Pairwise fun a b=>O.kle (key a) (key b))→(∀ b o,b≠a→b≠kS→s.heap.get? b=some o→h'.get? b=some o)→(∃ n,h'.get? a=some (seqObj "list" (out.map (·.2)).toArray n)) →
   P (.done (.ret .none)) { s with heap:=h' }) :
  wpAny (model prog w) A (ksk_end a false vs.toArray e1 (.ref kS) keys.toArray) P E s:=by
 have hzip:keys.toArray.zip vs.toArray=(keys.zip vs).toArray:=by simp
 have hzl:(keys.zip vs).length=vs.length:=by rw[ZfC];lia
 have hlen:vs.toArray.size=vs.length:=by simp
 unfold ksk_end
 simp only[Zj,if_false]
 by_cases h2:vs.toArray.size<2
 ·rw[if_pos h2]
  refine Z0 (Z5 ?_)
  rw[if_pos h2,Zcv]
  refine Z0 (Z5 ?_)
  refine Z5J ho hk hne (by lia) rfl (by show (keys.toArray.zip vs.toArray).size≤_;rw[hzip];simp;lia) fun h' k1 k2=>?_
  refine hP (keys.zip vs) h' (U6 _) ?_ k1 ?_
  ·have:(keys.zip vs).length<2:=by lia
   rcases hq:keys.zip vs with _|⟨v,_|⟨v2,r⟩⟩
   ·exact Uw
   ·exact Z52 _ _
   ·rw[hq] at this;simp at this;lia
  ·obtain⟨n,q⟩:=k2
   refine⟨n,?_⟩
   rw[q]
   show some (seqObj "list" ((keys.toArray.zip vs.toArray).map (·.2)) n)=_
   rw[hzip,List.map_toArray]
 ·rw[if_neg h2]
  refine Z0 (S.kind (by lia) _ _ _ _ he ?_)
  rw[if_neg h2]
  have g0:∀ x∈((keys.zip vs).toArray).toList,G x:=by
   intro x q
   have q:x∈keys.zip vs:=by simpa using q
   obtain⟨x1,x2⟩:=x
   exact hG _ _ (S.good _ (MW q).1)
  refine Z0 (JP (Z58 (a₀:=(keys.zip vs).toArray) (key:=key) (G:=G) (kd:=kd) (st:=D5 kd (keys.toArray.zip vs.toArray) #[] 7 none)
   (Q:=fun _ st'=>(arrOf st').Perm (keys.zip vs).toArray∧failedOf st'=none∧Up key (arrOf st').toList)
   (S.asks _ he) g0 (by show (keys.toArray.zip vs.toArray).Perm _;rw[hzip]) rfl rfl rfl fun st' a1 a2 a3=>⟨a1,a2,a3⟩) ?_ fun _ _ e=>e)
  rintro⟨⟨⟩,st'⟩ s' ⟨rfl,hp,hf,hs⟩
  have z:=Zc7 hp hs
  refine Z5J ho hk hne (by lia) hf (Zz (Z7t (hp.size_eq.trans (by simp;lia))) hz) fun h' k1 k2=>?_
  refine hP _ h' z.1 z.2 k1 ?_
  obtain⟨n,q⟩:=k2
  exact⟨n,by rw[q,← ZcI]⟩
end
end Sg
namespace L2
open PySem PySem.Spec PyProof.Rows PySem.W
section
variable {X:Cx}{pins:Pn_}{σ:St}{H:Hp}{s:Shared}
noncomputable def Cx.within (X:Cx)(A':Around):Cx:={ X with A:=A',xe:=fun _ _=>False }
theorem Inv.within (I:Inv X pins σ H s){A':Around}(h1:A'.handled=X.A.handled)(h2:A'.frames=X.A.frames):Inv (X.within A') pins σ H s :=
 let k:=I.ok
 ⟨⟨k.mod,k.kind,k.glob,k.blt,k.above,k.inj,k.has,k.cab,fun h=>h1.trans (k.hd h),h2.trans k.frames,k.stk,k.exf,k.bs,k.bsz,k.noex,k.exfs,k.funs,k.frf⟩,I.os,I.bare,I.base,I.loc,I.cell,I.free,I.freeC,I.pin,I.hok,I.len⟩
theorem Inv.without {A':Around}(I0:X.Ok)(I:Inv (X.within A') pins σ H s):Inv X pins σ H s :=
 ⟨I0,I.os,I.bare,I.base,I.loc,I.cell,I.free,I.freeC,I.pin,I.hok,I.len⟩
structure KeysAt (X:Cx)(pins:Pn_)(σ:St)(H:Hp)(O:Hid)(kS:Addr)(kts:Lt_)(j:Nat)(s:Shared):Prop where
 ex:∃ H' ks kv e,Inv X pins σ H' s∧Jq H H'∧Z6m X pins H' kS∧s.heap.get? kS=some (seqObj "list" (Ql ks) e)∧Uj kv ks∧J6 X.K (less H' O) kv (kts.take j)∧ks.length=j
theorem Z9q {k:Nat}{f kS:Addr}{fd:Jj}{ps:Ls_}{φ:Lt_→Option Th}{O:Hid}{kts:Lt_}{j:Nat}{x:Value}{y:V}{t kt:Th}(F:Mw X.prog X.w X.K X.mg X.base CX0 k f fd ps (spF X.K φ))(hb:Binds X.K fd ps [])(hr:GZ k X.A)
  (hO:∀ b,O.has b→∃ o,H b=some o) (rx:RelV y x) (by':JF X.K (less H O) y t) (hφ:φ [t]=some kt) (hk:kts[j]?=some kt) (hj:j≤sizeLine) (K:KeysAt X pins σ H O kS kts j s) :
  wpAny (model X.prog X.w) X.A (call (.ref f) [x]) (fun k s'=>wpAny (model X.prog X.w) X.A (Builtin.List.listUpdate (.ref kS) (·.push k)) (fun _ s''=>KeysAt X pins σ H O kS kts (j+1) s'') X.xe s') X.xe s:=by
 obtain⟨H',ks,kv,e,I,sm,fp,hS,rv,bk,hl⟩:=K.ex
 obtain⟨f0,f1,f2,f3,f4,f5⟩:=fp
 have I2:Inv X (pins++[(kS,seqObj "list" (Ql ks) e)]) σ H' s:=I.pins_of fun p hp=>by
  rcases ZW.mp hp with q|q
  ·exact I.pin p (ZH _ q)
  ·rw[Jf] at q
   subst q
   exact⟨hS,f0,f1,f2,fun v z=>by cases z⟩
 refine thn (ZcQ (Q:=fun v H2=>Jq H' H2∧JF X.K (less H2 O) v kt) F hr hb .nil Zh0 I2 (.cons rx .nil) ?_) fun u s1 ⟨v,H2,I3,rv2,s2,b2⟩=>?_
 ·show spF X.K φ [y] H' _ E0
  refine⟨O.has,[t],kt,fun b hb=>?_,?_,hφ,fun v H2 s2 b2=>⟨s2,?_⟩⟩
  ·obtain⟨o,ho⟩:=hO b hb
   exact⟨o,sm _ _ ho⟩
  ·rw[FF]
   exact .cons (by'.mono (JY sm)) .nil
  ·rw[FF] at b2
   exact b2
 ·obtain⟨e1,n1,-⟩:=I3.pin (kS,seqObj "list" (Ql ks) e) (ZH _ (ZH _ Z1))
  have I4:Inv X pins σ H2 s1:=I3.pins_of fun p hp=>I3.pin p (ZH _ (Js _ hp))
  refine Nl e1 rfl ?_ (by rw[Zk,hl];exact hj) (by rw[Array.size_push,Zk,hl];lia)
  have I5:=I4.turned (it:=kS) (t':=s1.toks) (h':=s1.heap.update kS (Yy (·.push u))) (fun b o hb q=>by rw[Ur _ _ _ _ hb];exact q) n1 f1 f3 f4 f5
  have hS':=BV e1 (·.push u)
  rw[ZcC] at hS'
  refine⟨H2,ks++[u],kv++[v],_,I5,sm.trans s2,⟨n1,f1,f2,f3,f4,f5⟩,hS',rv.append (.cons rv2 .nil),?_,by simp[hl]⟩
  rw[CK,hk]
  exact (bk.mono (JY s2)).append (.cons b2 .nil)
theorem Z9r {k:Nat}{f kS a:Addr}{fd:Jj}{ps:Ls_}{φ:Lt_→Option Th}{O:Hid}{ts kts:Lt_}{us:Lu_}{ys:Lv_}{e1:Nat}{P:PySem.Fin→Shared→Prop}{E:Ps_}
  (F:Mw X.prog X.w X.K X.mg X.base CX0 k f fd ps (spF X.K φ)) (hb:Binds X.K fd ps []) (hr:GZ k X.A) (hO:∀ b,O.has b→∃ o,H b=some o) (hxe:∀ e s,X.xe e s→False) (rv:Uj ys us) (b:J6 X.K (less H O) ys ts) (hk:Paired (fun t kt=>φ [t]=some kt) ts kts) (hz:us.length≤sizeLine)
  (K0:KeysAt X pins σ H O kS kts 0 s)
  (hE:∀ s',KeysAt X pins σ H O kS kts us.length s'→wpAny (model X.prog X.w) X.A (Builtin.List.listItems (.ref kS)>>=fun keys=>ksk_end a false us.toArray e1 (.ref kS) keys) P E s') :
  wpAny (model X.prog X.w) X.A (ksk_rest a (.ref f) false us.toArray e1 (.ref kS)) P E s:=by
 unfold ksk_rest
 refine Z0 (Gk ?_)
 first
  |rw[List.forIn_toArray]
  |(rw[← Qh];simp only[Zai])
  |rw[← Qh]
 refine Z0 (ksk_fold (fun i s'=>KeysAt X pins σ H O kS kts i s') us 0 s K0 ?_ ?_)
 ·intro j x s' hx K
  rw[Jm] at K ⊢
  have hj:j<us.length:=(Zq.mp hx).1
  have hy:j<ys.length:=by rw[rv.length];exact hj
  have ht:j<ts.length:=by rw[← b.length];exact hy
  obtain⟨kt,hkt,eφ⟩:∃ kt,kts[j]?=some kt∧φ [ts[j]]=some kt:=by
   have hkl:kts.length=ts.length:=hk.length.symm
   obtain⟨t',h1,h2⟩:=Z2v hk (i:=j) (Za (by lia))
   rw[Za ht] at h1
   cases h1
   exact⟨_,Za (by lia),h2⟩
  obtain⟨y,hyy,byy⟩:=b.get (Za ht)
  obtain⟨u,hu,ru⟩:=rv.get hyy
  rw[hx] at hu
  cases hu
  refine Z0 (Z09 (JP (Z9q F hb hr hO ru byy eφ hkt (by lia) K) (fun v s'' q=>?_) fun e s'' q=>(hxe e s'' q).elim))
  refine Z0 (JP q (fun _ s3 q3=>Z5 ⟨rfl,q3⟩) fun e s3 q3=>(hxe e s3 q3).elim)
 ·intro s' K
  rw[Jm] at K
  exact hE s' K
end
end L2
namespace L2
open PySem PySem.Spec PyProof.Rows PySem.W
section
variable {X:Cx}{pins:Pn_}{σ:St}{H:Hp}{s:Shared}
theorem Z8H (I:Inv X pins σ H s){v:V}{u:Value}{i:Int}{j:Str}(b:JF X.K H v (.tup [.int i,.str j]))(r:RelV v u){h:Heap}(hX:Sg.Ext s.heap h):Sg.IsPair Sg.intAtom Sg.strAtom h u ((i:Int),j.cps.toList):=Z4d I b r (fun _ _=>Zfd) (fun _ _=>Zfc) hX
noncomputable def ZfK:Th→Bool
 |.tup [a,b]=>isIn a&&Zdi b
 |_=>false
theorem Z9B {t:Th}(h:ZfK t=true):∃ i x,t=.tup [.int i,.str x]:=by
 cases t with
 |tup l =>
  cases l with
  |nil=>cases h
  |cons a l=>cases l with
   |nil=>cases h
   |cons b l=>cases l with
    |nil =>
     have h:(isIn a&&Zdi b)=true:=h
     rw[ZX] at h
     obtain⟨i,rfl⟩:=Z4x h.1
     obtain⟨x,rfl⟩:=Cj h.2
     exact⟨i,x,rfl⟩
    |cons=>cases h
 |_=>cases h
inductive leK:Th→Th→Prop where
 |is {a c:Int} {b d:Str} (h:a<c∨(a=c∧leS b d)):leK (.tup [.int a,.str b]) (.tup [.int c,.str d])
theorem Zc4 {x y:Th}(h1:leK x y)(h2:leK y x):x=y:=by
 cases h1 with
 |@is a c b d h=>cases h2 with
  |is h' =>
   have e1:a=c:=by lia
   subst e1
   have q1:leS b d:=by rcases h with z|z;exact absurd z (by simp);exact z.2
   have q2:leS d b:=by rcases h' with z|z;exact absurd z (by lia);exact z.2
   rw[DO q1 q2]
theorem Z6W (I:Inv X pins σ H s):∀ {kv:Lv_} {ks:Lu_} {kts:Lt_},Uj kv ks→J6 X.K H kv kts→kts.all ZfK=true→∀ u∈ks,∃ k,Sg.IsPair Sg.intAtom Sg.strAtom s.heap u k:=by
 intro kv ks kts h
 induction h generalizing kts with
 |nil=>intro _ _ u h;cases h
 |cons r rs ih=>intro b ha u h;cases b with
  |cons b bs =>
   rw[Gi,ZX] at ha
   rcases Zp.mp h with rfl|h
   ·obtain⟨i,x,rfl⟩:=Z9B ha.1
    exact⟨_,Z8H I b r fun _ _ e=>e⟩
   ·exact ih bs ha.2 u h
end
end L2
namespace L2
open PySem PySem.Spec PyProof.Rows PySem.W
def KeyLe (φ:Lt_→Option Th)(a b:Th):Prop:=∃ x y,φ [a]=some x∧φ [b]=some y∧leK x y
structure KeyOk (φ:Lt_→Option Th)(ts:Lt_):Prop where
 st:ts.all Zdi=true
 is:∀ t∈ts,∃ k,φ [t]=some k∧ZfK k=true
 inj:∀ t∈ts,∀ u∈ts,φ [t]=φ [u]→t=u
theorem KeyOk.anti {φ:Lt_→Option Th}{ts:Lt_}(k:KeyOk φ ts){a b:Th}(ha:a∈ts)(hb:b∈ts)(h1:KeyLe φ a b)(h2:KeyLe φ b a):a=b:=by
 obtain⟨x,y,e1,e2,l1⟩:=h1
 obtain⟨y',x',e3,e4,l2⟩:=h2
 rw[e2] at e3
 rw[e1] at e4
 cases e3
 cases e4
 exact k.inj a ha b hb (by rw[e1,e2,Zc4 l1 l2])
open Classical in
noncomputable def Z28 (φ:Lt_→Option Th)(ts:Lt_):Option (Lt_):=if h:KeyOk φ ts∧∃ r:Lt_,r.Perm ts∧r.Pairwise (KeyLe φ) then some h.2.choose else none
theorem Z5l {φ:Lt_→Option Th}{ts r:Lt_}(k:KeyOk φ ts)(hp:r.Perm ts)(hs:r.Pairwise (KeyLe φ)):Z28 φ ts=some r:=by
 have h:KeyOk φ ts∧∃ r:Lt_,r.Perm ts∧r.Pairwise (KeyLe φ):=⟨k,r,hp,hs⟩
 unfold Z28
 rw[dif_pos h,Jx.eq_of_pairwise (fun a b ha hb=>k.anti (h.2.choose_spec.1.mem_iff.mp ha) (hp.mem_iff.mp hb)) h.2.choose_spec.2 hs (h.2.choose_spec.1.trans hp.symm)]
theorem ZaS {φ:Lt_→Option Th}{ts r:Lt_}(h:Z28 φ ts=some r):KeyOk φ ts:=by
 unfold Z28 at h
 split at h
 ·rename_i z;exact z.1
 ·cases h
theorem Zhl {x1 y1:Int}{x2 y2:List Nat}(h:(decide (y1<x1)||(!decide (x1<y1)&&decide (y2<x2)))=false):leK (.tup [.int x1,.str ⟨x2.toArray⟩]) (.tup [.int y1,.str ⟨y2.toArray⟩]):=by
 refine .is ?_
 simp only[MB,Dr,Fs,decide_eq_false_iff_not,decide_eq_true_eq] at h
 obtain⟨a1,a2⟩:=h
 rcases a2 with z|z
 ·exact .inl z
 ·by_cases q:x1<y1
  ·exact .inl q
  ·exact .inr ⟨by lia,MX.mp z⟩
noncomputable def Zil (h:Heap)(u:Value):Th:=let k:=Sg.pairKey Sg.intAtom Sg.strAtom h u;.tup [.int (show Int from k.1),.str ⟨Ql (show List Nat from k.2)⟩]
section
variable {X:Cx}{pins:Pn_}{σ:St}{H:Hp}{s:Shared}{φ:Lt_→Option Th}
theorem Z9s:∀ {ts:Lt_},(∀ t∈ts,∃ k,φ [t]=some k∧ZfK k=true)→∃ kts,Paired (fun t kt=>φ [t]=some kt) ts kts∧kts.all ZfK=true
 |[],_=>⟨[],.nil,rfl⟩
 |t::ts,h=>by
  obtain⟨kts,p,a⟩:=Z9s (ts:=ts) fun u hu=>h u (Z4 _ hu)
  obtain⟨k,e,i⟩:=h t Z1
  exact⟨k::kts,.cons e p,by rw[Gi,i,a];rfl⟩
theorem ZaE (I:Inv X pins σ H s){H2:Hp}{kts ts:Lt_}(es:Paired (fun t kt=>φ [t]=some kt) ts kts):∀ {kv ys:Lv_} {ks us:Lu_},Uj kv ks→J6 X.K H kv kts→Uj ys us→J6 X.K H2 ys ts→kts.all ZfK=true→ts.all Zdi=true →
  ∀ p∈ks.zip us,φ [.str (strOf p.2)]=some (Zil s.heap p.1):=by
 induction es with
 |nil =>
  intro kv ys ks us r1 b1 r2 b2 _ _ p h
  cases b1
  cases r1
  simp at h
 |cons e es ih =>
  intro kv ys ks us r1 b1 r2 b2 ak at' p h
  cases b1 with
  |cons b1 bs1=>cases r1 with
   |cons r1 rs1=>cases b2 with
    |cons b2 bs2=>cases r2 with
     |cons r2 rs2 =>
      rw[Gi,ZX] at ak at'
      rw[Qk] at h
      rcases Zp.mp h with rfl|h
      ·obtain⟨i,x,rfl⟩:=Z9B ak.1
       obtain⟨z,rfl⟩:=Cj at'.1
       have q:=Z8H I b1 r1 (fun _ _ e=>e)
       cases b2
       obtain⟨t2,rfl⟩:=r2
       unfold Zil
       rw[Sg.pairKey_of q]
       exact e.trans (by simp)
      ·exact ih rs1 bs1 rs2 bs2 ak.2 at'.2 p h
theorem ZaJ {K:Fg_}:∀ {ys:Lv_} {us:Lu_} {ts:Lt_},Uj ys us→J6 K H ys ts→ts.all Zdi=true→us.map (fun u=>Th.str (strOf u))=ts∧∀ u∈us,∃ x t,u=.str x t:=by
 intro ys us ts h
 induction h generalizing ts with
 |nil=>intro b _;cases b;exact⟨rfl,fun _ h=>nomatch h⟩
 |cons r rs ih=>intro b h;cases b with
  |cons b bs =>
   rw[Gi,ZX] at h
   obtain⟨i1,i2⟩:=ih bs h.2
   obtain⟨x,rfl⟩:=Cj h.1
   cases b
   obtain⟨t,rfl⟩:=r
   refine⟨by rw[Zt,i1];rfl,fun u m=>?_⟩
   rcases Zp.mp m with rfl|m
   ·exact⟨_,_,rfl⟩
   ·exact i2 u m
theorem CA {K:Fg_}:∀ {us:Lu_},(∀ u∈us,∃ x t,u=.str x t)→J6 K H (us.map nuV) (us.map fun u=>Th.str (strOf u))
 |[],_=>.nil
 |u::us,h=>by
  obtain⟨x,t,rfl⟩:=h u Z1
  exact .cons (.str x) (CA fun u m=>h u (Z4 _ m))
theorem Z77 {k:Nat}{f a:Addr}{fd:Jj}{ps:Ls_}{O:Hid}{xs:Lv_}{ts r:Lt_}{Q:VK}(F:Mw X.prog X.w X.K X.mg X.base CX0 k f fd ps (spF X.K φ))(hb:Binds X.K fd ps [])(hr:GZ (k+2) X.A)
  (hO:∀ b,O.has b→∃ o,H b=some o) (I:Inv X pins σ H s) (hq:SqT X.K H a xs) (bx:J6 X.K (less H O) xs ts) (hs:Z28 φ ts=some r) (hQ:∀ v H',Jq H H'→ZfG X.K H H' O v r→Q v H') :
  wpAny (model X.prog X.w) X.A (call (.builtin "sorted") [.ref a] [(ZY "key",.ref f)]) (EP X pins σ Q) X.xe s:=by
 obtain⟨us,rv,⟨o,ho,hc,n,hd⟩,hz⟩:=I.tuple hq
 have hz:us.length≤sizeLine:=by rw[← rv.length];exact hz
 have ok:=ZaS hs
 obtain⟨kts,pk,ak⟩:=Z9s ok.is
 refine call_function_entry_kw kind_sorted plain_sorted entry_sorted (ksk_s1 _ _) ?_
 unfold Z7k
 refine Z0 (m:=checkCount "sorted" 1 1 _) (Z5 ?_)
 refine Z0 (wpAny_collect_seq a (T:="tuple") (.inr rfl) ho hc hd (fun h1 x1=>?_) (by simpa using hz))
 rw[Zai]
 refine Z0 (Z08 ?_ hz)
 have I1:Inv X pins σ H { s with heap:=h1 }:=I.kept (t':=s.toks) x1
 have fpL:=I1.fpOk (b:=h1.objs.size) (Zc _) (I1.hok.fresh (Zc _))
 have hoL:(h1.push (seqObj "list" us.toArray 0)).get? h1.objs.size=some (seqObj "list" us.toArray 0):=Zu _ rfl
 show wpAny _ _ _ _ _ { s with heap:=h1.push (seqObj "list" us.toArray 0) }
 refine Z0 (Y5 (wpAny_call_entry_kw ZjU ⟨_,hoL,rfl⟩ Zjz ?body (ksk_l1 _ _)))
 case body =>
  show wpAny (model X.prog X.w) X.A.in1.in1 (Builtin.«list.sort» ⟨[.ref h1.objs.size],[(ZY "key",.ref f)]⟩) _ _ _
  rw[ksk_t1]
  unfold ksk_tree
  refine Z0 (BS hoL rfl ?_)
  refine Z0 (Nl hoL rfl ?_ (by simpa using hz) (Jv _))
  obtain⟨e1,ho1⟩:∃ e1,((h1.push (seqObj "list" us.toArray 0)).update h1.objs.size (Yy fun _=>#[])).get? h1.objs.size=some (seqObj "list" #[] e1):=⟨_,BV hoL (fun _=>#[])⟩
  refine Z0 (CP ho1 rfl ?_)
  refine Z0 (Z7m ?_ (by simpa using hz))
  have x3:Sg.Ext h1 (((h1.push (seqObj "list" us.toArray 0)).update h1.objs.size (Yy fun _=>#[])).push (seqObj "tuple" us.toArray 0)):=fun b o e=>by
   refine Z2 _ ?_
   rw[Ur _ _ _ _ (ZI (ZB e))]
   exact Z2 _ e
  have ho3:=Z2 (seqObj "tuple" us.toArray 0) ho1
  generalize hh3:((h1.push (seqObj "list" us.toArray 0)).update h1.objs.size (Yy fun _=>#[])).push (seqObj "tuple" us.toArray 0)=h3 at x3 ho3
  have I3:Inv X (pins++[(h1.objs.size,seqObj "list" #[] e1)]) σ H { s with heap:=h3 }:=(I1.kept (t':=s.toks) x3).pins_of fun p hp=>by
   rcases ZW.mp hp with q|q
   ·exact (I1.kept (t':=s.toks) x3).pin p (ZH _ q)
   ·rw[Jf] at q
    subst q
    exact⟨ho3,fpL.1,fpL.2.1,fpL.2.2.1,fun v z=>by cases z⟩
  have I3':Inv (X.within X.A.in1.in1) (pins++[(h1.objs.size,seqObj "list" #[] e1)]) σ H { s with heap:=h3 }:=I3.within rfl rfl
  have fpK:=I3'.fpOk (b:=h3.objs.size) (Zc _) (I3'.hok.fresh (Zc _))
  have hne:h3.objs.size≠h1.objs.size:=NA (ZB ho3)
  have I4:Inv (X.within X.A.in1.in1) (pins++[(h1.objs.size,seqObj "list" #[] e1)]) σ H { s with heap:=h3.push (seqObj "list" #[] 0) }:=I3'.kept (t':=s.toks) fun b u e=>Z2 _ e
  refine Z0 (Z08 ?_ (Jv _))
  refine Y5 ?_
  show wpAny _ _ _ _ _ { s with heap:=h3.push (seqObj "list" #[] 0) }
  refine Z9r (X:=X.within X.A.in1.in1) F hb hr.in1.in1 hO (fun e s h=>h) rv bx pk hz ⟨H,[],[],0,I4,fun _ _ e=>e,fpK,Zu _ rfl,.nil,.nil,rfl⟩ fun s' K=>?_
  obtain⟨H',ks,kv,e,I7,sm,fp7,hS7,rvk,bk,hl⟩:=K.ex
  have hkl:kts.length=us.length:=by rw[← pk.length,← bx.length,rv.length]
  rw[JG (by lia)] at bk
  obtain⟨pL,nL,-⟩:=I7.pin (h1.objs.size,seqObj "list" #[] e1) (ZH _ (ZH _ Z1))
  refine Z0 (BS hS7 rfl ?_)
  have bk2:=bk.mono (Jp H' O)
  refine Sg.key_end (Sg.sorts_pairs Sg.intAtom Sg.strAtom s'.heap (Z6W I7 rvk bk2 ak)) (fun k v h=>h) hl pL hS7 hne (Sg.Ext.refl _) hz fun out h' o1 o2 keep hL'=>⟨_,rfl,?_⟩
  refine Z5 ⟨_,rfl,?_⟩
  obtain⟨n',hL'⟩:=hL'
  have zk:=ZaE I7 pk rvk bk2 rv bx ak ok.st
  obtain⟨tx1,tx2⟩:=ZaJ rv bx ok.st
  have mo:∀ p∈out,p∈ks.zip us:=fun p hp=>o1.mem_iff.mp hp
  have mu:∀ u∈out.map (·.2),u∈us:=fun u hu=>by
   obtain⟨p,hp,rfl⟩:=ZE.mp hu
   exact (MW (a:=p.1) (b:=p.2) (mo p hp)).2
  have er:r=(out.map (·.2)).map fun u=>Th.str (strOf u):=by
   have pm:((out.map (·.2)).map fun u=>Th.str (strOf u)).Perm ts:=by
    have z:=(o1.map (·.2)).map fun u=>Th.str (strOf u)
    rw[ZdB (by lia),tx1] at z
    exact z
   have pw:((out.map (·.2)).map fun u=>Th.str (strOf u)).Pairwise (KeyLe φ):=by
    rw[Ye,Ye]
    refine o2.imp_of_mem fun {p q} hp hq' hle=>⟨_,_,zk p (mo p hp),zk q (mo q hq'),?_⟩
    have hle:(Sg.lexOrd Sg.intOrd strKind.toKeyOrd).blt (Sg.pairKey Sg.intAtom Sg.strAtom s'.heap q.1) (Sg.pairKey Sg.intAtom Sg.strAtom s'.heap p.1)=false:=hle
    unfold Zil
    generalize Sg.pairKey Sg.intAtom Sg.strAtom s'.heap p.1=x at hle
    generalize Sg.pairKey Sg.intAtom Sg.strAtom s'.heap q.1=y at hle
    obtain⟨x1,x2⟩:=x
    obtain⟨y1,y2⟩:=y
    exact @Zhl x1 y1 x2 y2 hle
   have:=Z5l ok pm pw
   rw[hs] at this
   exact Jn this
  have lo:(out.map (·.2)).length=us.length:=by rw[Z3,o1.length_eq,ZfC];lia
  have I8:Inv X pins σ H' s':=Inv.without I.ok (I7.pins_of fun p hp=>I7.pin p (ZH _ (Js _ hp)))
  have I9:Inv X pins σ H' { s' with heap:=h' }:=I8.turned2 (t':=s'.toks) (e:=h1.objs.size) (it:=h3.objs.size) (fun b o b1 b2 q=>keep b o b1 b2 q) nL fpL.2.1 fpL.2.2.2.1 fpL.2.2.2.2.1 fpL.2.2.2.2.2
   fp7.1 fp7.2.1 fp7.2.2.2.1 fp7.2.2.2.2.1 fun p hp=>fp7.2.2.2.2.2 p (by
    rcases ZW.mp hp with q|q
    ·exact Js _ q
    ·exact ZH _ (Js _ q))
  have s0:X.s₀.heap.objs.size≤h1.objs.size:=I1.sz
  refine⟨.ref h1.objs.size,upd H' h1.objs.size (.lst ((out.map (·.2)).map nuV)),I9.track nL s0 fpL.2.1 fpL.2.2.2.2.1 fpL.2.2.2.2.2 ⟨?_,_,n',D9 fun u hu=>Z5b rv u (mu u hu),hL'⟩,rfl,?_⟩
  ·rw[Z3,lo];exact hz
  ·refine hQ _ _ (sm.trans (Jq.upd nL)) ⟨_,_,rfl,fpL.1,JB,?_⟩
   rw[er]
   exact CA fun u hu=>tx2 u (mu u hu)
end
section
variable {X:Cx}{K:Fg_}{e:Expr}{fs:FL}{p pos kp kq:Pos}{k:Nat}{x:Str}{φ:Lt_→Option Th}
noncomputable def Z0A (φ:Lt_→Option Th)(fs:FL):FL:=fun d=>(fs d).bind fun Ts=>match Ts with|[.tup ts]=>Z28 φ ts|_=>none
theorem Zbc (c:Callee X.prog X.w X.K X.mg X.base k x φ) (hr:GZ (k+2) X.A) (hx:Gl X x) (hg:Gl X "sorted") (hm:X.mg "sorted"=none) (ha:PBA X [e] fs) (hdb:(x == ("__debug__":Str))=false)
  (he:backTo pos (starEach [e] X.env)=(false,eval e X.env)::backTo pos (starEach [] X.env)) (hplain:(backTo pos (starEach [e] X.env)).any (·.1)=false)
  (hall:(backToKw pos (keywordEach [⟨some (ZY "key"),.Name x kq,kp⟩] X.env)).all (·.1.isSome)=true) (hkw:(backToKw pos (keywordEach [⟨some (ZY "key"),.Name x kq,kp⟩] X.env)).any (·.1.isNone)=false)
  (hz:∀ v:Value,((backToKw pos (keywordEach [⟨some (ZY "key"),.Name x kq,kp⟩] X.env)).filterMap (·.1)).zip [v]=[(ZY "key",v)]) :
  PF X (.Call (.Name "sorted" p) [e] [⟨some (ZY "key"),.Name x kq,kp⟩] pos) (Z0A φ fs):=by
 intro pins s σ H Q I ⟨O,d,T,R,ef,q⟩
 obtain⟨f,fd,ps,F,hmx,hk,hb⟩:=c.ex
 unfold Z0A at ef
 cases hf:fs d with
 |none=>rw[hf] at ef;cases ef
 |some Ts =>
  rw[hf] at ef
  match Ts,hf,ef with
  |[.tup ts],hf,ef =>
   change Z28 φ ts=some T at ef
   refine M5 (BU I hg hm (by rfl) ?_ (by decide) (by decide))
   refine callWith_kw ?_ he hplain hall hkw
   refine thn (ha pos pins s σ H _ I ⟨O,d,_,R,hf,fun vs H1 s1 b1=>(⟨s1,b1⟩:Jq H H1∧Paired (Fe X.K H1 O) vs [.tup ts])⟩) fun us s1 z1_=>?_
   obtain ⟨vs,H1,I1,r1,sm,b1⟩:=z1_
   obtain⟨v1,rfl,b3⟩:=N7 b1
   obtain⟨u1,rfl,ru⟩:=vals1 r1
   obtain⟨a,xs,rfl,hq,bx⟩:=b3.tup
   cases ru
   refine kws_cons (Z9n I1 hx hmx (kws_nil ?_) hdb)
   rw[hz]
   refine Z77 F hb hr (fun b hb=>(R.mono sm).there b hb) I1 ((Jp _ _).seqT hq) bx ef fun v H' s2 fr=>q v H' (sm.trans s2) ?_
   obtain⟨b,zs,h1,h2,h3,h4⟩:=fr
   refine⟨b,zs,h1,?_,h3,h4⟩
   cases hH:H b with
   |none=>rfl
   |some o=>rw[sm b o hH] at h2;cases h2
end
structure QD (X:Cx)(e:Expr)(f:FD):Prop where
 out:PD X e f
structure QB (X:Cx)(e:Expr)(f:FD):Prop where
 out:PB X e f
structure QF (X:Cx)(e:Expr)(f:FL):Prop where
 out:PF X e f
structure QT (X:Cx)(e:Expr)(f:FB):Prop where
 out:PDT X e f
structure QW (X:Cx)(e:Expr)(f:FB):Prop where
 out:PDW X e f
structure QA (X:Cx)(es:Le_)(f:FL):Prop where
 out:PDA X es f
structure QBA (X:Cx)(es:Le_)(f:FL):Prop where
 out:PBA X es f
structure QS (X:Cx)(st:Stmt)(f:FS):Prop where
 out:PDS X st f
structure QSs (X:Cx)(st:List Stmt)(f:FS):Prop where
 out:Zau X st f
structure QG (X:Cx)(e:Expr)(f:FG):Prop where
 out:PDG X e f
structure QI (X:Cx)(tg e:Expr)(f:FL):Prop where
 out:PDI X tg e f
structure QIf (X:Cx)(es:Le_)(f:FB):Prop where
 out:Zdv X es f
structure QO (X:Cx)(e:Option Expr)(f:FO):Prop where
 out:PDO X e f
structure QV (X:Cx)(e:Expr)(i:Nat):Prop where
 out:PE X e (ZaN i)
section
variable {X:Cx}{e a b c:Expr}{f fa fb fc:FD}{pos:Pos}
theorem QD.pb (h:QD X e f):QB X e f:=⟨PD.pb (h:=h.out)⟩
theorem QF.pd {f:FL}(h:QF X e f):QD X e (G2 f):=⟨PF.pd (h:=h.out)⟩
theorem QW.pdt {f:FB}(h:QW X e f):QT X e f:=⟨PDW.pdt (h:=h.out)⟩
theorem Zx {i:Nat}{x:Str}(h:QV X (.Name x pos) i):QD X (.Name x pos) (ZQ i):=⟨ZgO (h:=h.out)⟩
theorem Zh {i:Nat}{x:Str}(h:QV X (.Name x pos) i):QB X (.Name x pos) (Zb i):=⟨ZgZ (h:=h.out)⟩
theorem ZK {i j}:QD X (.Constant (.int i) j pos) (fC (.int i)):=⟨Z8F ⟩
theorem BM {i j}:QD X (.Constant (.bool i) j pos) (fC (.bl i)):=⟨ZgW ⟩
theorem Bj {j}:QD X (.Constant .none j pos) (fC .non):=⟨ZcZ ⟩
theorem Z47 {i j}:QD X (.Constant (.str i) j pos) (fC (.str i)):=⟨ZcY ⟩
theorem Qr (h:QD X e f)(he:∀ whole,isTrue e X.env whole=(do let v ← whole;standAt e.pos;holding [v] (truthy v)):=by intro _;rfl):QT X e (J7 f):=⟨Zel (h:=h.out) (he:=he)⟩
theorem DI {f:FB}(h:QT X a f):QT X (.UnaryOp .Not a pos) (Z1y f):=⟨Zem (h:=h.out)⟩
theorem Z8c {f:FB}(h:QT X a f):QW X (.BoolOp .And [a] pos) f:=⟨Zbm (h:=h.out)⟩
theorem Z5u {f:FB}(h:QT X a f):QW X (.BoolOp .Or [a] pos) f:=⟨Zej (h:=h.out)⟩
theorem ZaZ {f g:FB}{rest:Le_}(ha:QT X a f)(hb:QW X (.BoolOp .And (b::rest) pos) g):QW X (.BoolOp .And (a::b::rest) pos) (Z3a f g):=⟨Zek (ha:=ha.out) (hb:=hb.out)⟩
theorem Z8b {f g:FB}{rest:Le_}(ha:QT X a f)(hb:QW X (.BoolOp .Or (b::rest) pos) g):QW X (.BoolOp .Or (a::b::rest) pos) (Zdk f g):=⟨ZgG (ha:=ha.out) (hb:=hb.out)⟩
theorem Z8i {op}(h:QD X a f):QD X (.BoolOp op [a] pos) f:=⟨ZgQ (h:=h.out)⟩
theorem Z8k {rest:Le_}(ha:QD X a fa)(hb:QD X (.BoolOp .And (b::rest) pos) fb):QD X (.BoolOp .And (a::b::rest) pos) (Zci fa fb):=⟨ZgY (ha:=ha.out) (hb:=hb.out)⟩
theorem ZcT {c:Expr}{fc:FB}(hc:QT X c fc)(ha:QD X a fa)(hb:QD X b fb):QD X (.IfExp c a b pos) (fIf fc fa fb):=⟨ZiL (hc:=hc.out) (ha:=ha.out) (hb:=hb.out)⟩
theorem ZP :QA X [] J2:=⟨Z8B ⟩
theorem Z9 {es:Le_}{g:FL}(ha:QD X e f)(hr:QA X es g)(hs:starEach (e::es) X.env=(false,eval e X.env)::starEach es X.env:=by rfl):QA X (e::es) (Z6 f g):=⟨Z5B (ha:=ha.out) (hr:=hr.out) (hs:=hs)⟩
theorem Jw :QBA X [] J2:=⟨Z4c ⟩
theorem Ji {es:Le_}{g:FL}(ha:QB X e f)(hr:QBA X es g)(hs:starEach (e::es) X.env=(false,eval e X.env)::starEach es X.env:=by rfl):QBA X (e::es) (Z6 f g):=⟨Fy (ha:=ha.out) (hr:=hr.out) (hs:=hs)⟩
theorem MR {es:Le_}{g:FL}{x1}(h:QA X es g):QD X (.Tuple es x1 pos) (W6 g):=⟨ZcX (h:=h.out)⟩
theorem Z18 {es:Le_}{g:FL}(h:QA X es g):QF X (.List es pos) (Wq g):=⟨Z4a (h:=h.out)⟩
end
section
variable {X:Cx}{e a b:Expr}{st:Stmt}{rest sts:List Stmt}{f:FD}{F G:FS}{pos:Pos}
theorem YH :QSs X [] Yt:=⟨Zbp ⟩
theorem Zv (h1:QS X st F)(h2:QSs X rest G):QSs X (st::rest) (Uv F G):=⟨Z8z (h1:=h1.out) (h2:=h2.out)⟩
theorem ZG (h1:QS X st F):QSs X [st] F:=⟨Zbo (h1:=h1.out)⟩
theorem Jr (h:QB X e f):QS X (.Return (some e) pos) (Ga f):=⟨Zep (h:=h.out)⟩
theorem G4 {c:Expr}{A B:List Stmt}{fc:FB}(hc:QT X c fc)(ha:QSs X A F)(hb:QSs X B G):QS X (.If c A B pos) (fIf fc F G):=⟨ZgN (hc:=hc.out) (ha:=ha.out) (hb:=hb.out)⟩
theorem JK {i:Nat}{x:Str}{pos':Pos}(hN:X.N.Nodup)(hi:X.N[i]?=some x)(hx:Loc X.env.scope x)(he:QD X e f)(hs:swapsWith e (some (.Name x pos')) pos.line X.env=pure false:=by rfl)(hf:X.fn x=true∨X.env.scope.names.lookup x=some .local:=by first|exact .inl rfl|exact .inr rfl|assumption):QS X (.Assign [.Name x pos'] e pos) (YJ i f):=⟨Zeo (hN:=hN) (hi:=hi) (hx:=hx) (he:=he.out) (hs:=hs) (hf:=hf)⟩
theorem MJ {i:Nat}{f:FL}{x:Str}{pos':Pos}(hN:X.N.Nodup)(hi:X.N[i]?=some x)(hx:Loc X.env.scope x)(he:QF X e f)(hs:swapsWith e (some (.Name x pos')) pos.line X.env=pure false:=by rfl)(hf:X.fn x=true∨X.env.scope.names.lookup x=some .local:=by first|exact .inl rfl|exact .inr rfl|assumption):QS X (.Assign [.Name x pos'] e pos) (Z3P i f):=⟨Zeq (hN:=hN) (hi:=hi) (hx:=hx) (he:=he.out) (hs:=hs) (hf:=hf)⟩
theorem Mk {i:Nat} {o:Expr} {apos cpos:Pos} (ho:QV X (o) i) (he:QD X e f) (hbase:attributeBase o "append" X.env (eval o X.env)=eval o X.env:=by rfl) (hfew:((backTo cpos (starEach [e] X.env)).all (fun x=>!x.1)&&(backToKw cpos (keywordEach [] X.env)).all (fun x=>x.1.isSome)
  &&decide (([e]:Le_).length+([]:List Keyword).length+(if ([]:List Keyword).isEmpty then 0 else 1)<30))=true:=by rfl) (hline:(apos.endLine == cpos.line)=true:=by rfl) (hs:starEach [e] X.env=(false,eval e X.env)::starEach [] X.env:=by rfl) (hplain:(backTo cpos (starEach ([]:Le_) X.env)).any (·.1)=false:=by rfl) (hsw:swapsWith (.Call (.Attribute o "append" apos) [e] [] cpos) none pos.line X.env=pure false:=by rfl):QS X (.Expr (.Call (.Attribute o "append" apos) [e] [] cpos) pos) (UR i f):=⟨Z6E (ho:=ho.out) (he:=he.out) (hbase:=hbase) (hfew:=hfew) (hline:=hline) (hs:=hs) (hplain:=hplain) (hsw:=hsw)⟩
theorem DJ {i:Nat}{x:Str}(hN:X.N.Nodup)(hi:X.N[i]?=some x)(hx:Loc X.env.scope x)(hf:X.fn x=true∨X.env.scope.names.lookup x=some .local:=by first|exact .inl rfl|exact .inr rfl|assumption):QG X (.Name x pos) (Z1x i):=⟨Zev (hN:=hN) (hi:=hi) (hx:=hx) (hf:=hf)⟩
theorem Np {tg iter:Expr}{body:List Stmt}{fi:FL}{g:FG}(hp:YZ (model X.prog X.w) X.A X.env X.xe)(hc:X.calm=true)(hi:QI X tg iter fi)(hg:QG X tg g)(hb:QSs X body F)(hs:∀ x,foldedSetIterable iter X.env x=pure x:=by intro _;rfl):QS X (.For tg iter body [] pos) (Z0C fi g F):=⟨Zer (hp:=hp) (hc:=hc) (hi:=hi.out) (hg:=hg.out) (hb:=hb.out) (hs:=hs)⟩
end
section
variable {X:Cx}{tg l:Expr}{f:FD}{K:Fg_}
theorem Nq {y:Str}{py:Pos}(h:QD X l f):QI X (.Name y py) l (YW f):=⟨Zeu (h:=h.out)⟩
theorem Fv (h:QD X l f):QI X tg l (Bs f):=⟨Zet (h:=h.out)⟩
theorem Qs {a:Expr} {p pos:Pos} (hg:Gl X "range") (hm:X.mg "range"=none) (ha:QD X a f) (hs:starEach [a] X.env=[(false,eval a X.env)]:=by rfl) (hs1:starEach [a] X.env=(false,eval a X.env)::starEach [] X.env:=by rfl):QI X tg (.Call (.Name "range" p) [a] [] pos) (Gy f):=⟨Z6G (hg:=hg) (hm:=hm) (ha:=ha.out) (hs:=hs) (hs1:=hs1)⟩
end
section
variable {X:Cx}
theorem GO :QIf X [] GJ:=⟨Zbv ⟩
theorem Wk {c:Expr}{f:FB}(h:QT X c f):QIf X [c] f:=⟨Zbu (h:=h.out)⟩
theorem NS {x:Str}{px pos:Pos}{scope:Scope}{elt iter:Expr}{ifs:Le_}{fi:FL}{ft:FB}{fe:FD}(hc:X.calm=true)(S:Yn X [x] scope)(hN:([x]++X.N).Nodup)(hx:scope.names.lookup x=some .local)(hi:QI X (.Name x px) iter fi)(ht:∀ cl s₂ H1 C fp,QIf (cxC X [x] scope cl s₂ H1 C fp) ifs ft)(he:∀ cl s₂ H1 C fp,QD (cxC X [x] scope cl s₂ H1 C fp) elt fe)(hs:∀ x,foldedSetIterable iter X.env x=pure x:=by intro _;rfl):QF X (.ListComp elt [⟨.Name x px,iter,ifs,0⟩] scope pos) (Ua g1 fi ft fe):=⟨Zbh (hc:=hc) (S:=S) (hN:=hN) (hx:=hx) (hi:=hi.out) (ht:=(fun x0 x1 x2 x3 x4=>(ht x0 x1 x2 x3 x4).out)) (he:=(fun x0 x1 x2 x3 x4=>(he x0 x1 x2 x3 x4).out)) (hs:=hs)⟩
theorem Db {x y:Str}{px py pos spos:Pos}{scope:Scope}{elt iter:Expr}{ifs:Le_}{fi:FL}{ft:FB}{fe:FD}{i:Nat}(hN0:X.N.Nodup)(hi':X.N[i]?=some y)(hy:Loc X.env.scope y)(hc:X.calm=true)(S:Yn X [x] scope)(hN:([x]++X.N).Nodup)(hx:scope.names.lookup x=some .local)(hi:QI X (.Name x px) iter fi)(ht:∀ cl s₂ H1 C fp,QIf (cxC X [x] scope cl s₂ H1 C fp) ifs ft)(he:∀ cl s₂ H1 C fp,QD (cxC X [x] scope cl s₂ H1 C fp) elt fe)(hsw:swapsWith (.ListComp elt [⟨.Name x px,iter,ifs,0⟩] scope pos) (some (.Name y py)) spos.line X.env=pure true:=by rfl)(hf':X.fn y=true∨X.env.scope.names.lookup y=some .local:=by first|exact .inl rfl|exact .inr rfl|assumption)(hs:∀ x,foldedSetIterable iter X.env x=pure x:=by intro _;rfl):QS X (.Assign [.Name y py] (.ListComp elt [⟨.Name x px,iter,ifs,0⟩] scope pos) spos) (YJ i (G2 (Ua g1 fi ft fe))):=⟨Z6D (hN0:=hN0) (hi':=hi') (hy:=hy) (hc:=hc) (S:=S) (hN:=hN) (hx:=hx) (hi:=hi.out) (ht:=(fun x0 x1 x2 x3 x4=>(ht x0 x1 x2 x3 x4).out)) (he:=(fun x0 x1 x2 x3 x4=>(he x0 x1 x2 x3 x4).out)) (hsw:=hsw) (hf':=hf') (hs:=hs)⟩
end
section
variable {X:Cx}{x:Str}{p pos:Pos}{e:Expr}{es:Le_}{g:FL}{φ:Lt_→Option Th}{k:Nat}
theorem Ja (c:Callee X.prog X.w X.K X.mg X.base k x φ) (hr:GZ k X.A) (hg:Gl X x) (ha:QA X (e::es) g) (hdb:(x == ("__debug__":Str))=false:=by decide) (he:starEach (e::es) X.env=(false,eval e X.env)::starEach es X.env:=by rfl) (hpl:(backTo pos (starEach es X.env)).any (·.1)=false:=by rfl):QD X (.Call (.Name x p) (e::es) [] pos) (ZV φ g):=⟨ZeD (c:=c) (hr:=hr) (hg:=hg) (ha:=ha.out) (hdb:=hdb) (he:=he) (hpl:=hpl)⟩
end
section
variable {X:Cx}{K:Fg_}{a b c e:Expr}{fa fb fc f:FD}{pos:Pos}
theorem Gw {p:Pos} {es:Le_} {fs:FL} (hg:Gl X "len") (hm:X.mg "len"=none) (ha:QBA X (e::es) fs) (he:starEach (e::es) X.env=(false,eval e X.env)::starEach es X.env:=by rfl) (hpl:(backTo pos (starEach es X.env)).any (·.1)=false:=by rfl):QD X (.Call (.Name "len" p) (e::es) [] pos) (fCB MT fs):=⟨ZgT (hg:=hg) (hm:=hm) (ha:=ha.out) (he:=he) (hpl:=hpl)⟩
end
section
variable {X:Cx}{K:Fg_}{a b c e:Expr}{fa fb fc f:FD}{pos:Pos}{k:Nat}
theorem ZcU (hr:GZ k X.A)(ha:QB X a fa)(hb:QB X b fb):QD X (.Compare a [.Eq] [b] pos) (f2 oEq fa fb):=⟨ZiM (hr:=hr) (ha:=ha.out) (hb:=hb.out)⟩
theorem C6 (hr:GZ k X.A)(ha:QB X a fa)(hb:QB X b fb):QT X (.Compare a [.Eq] [b] pos) (J7 (f2 oEq fa fb)):=⟨ZgM (hr:=hr) (ha:=ha.out) (hb:=hb.out)⟩
theorem Zgl (hr:GZ k X.A)(ha:QB X a fa)(hb:QB X b fb):QD X (.Compare a [.NotEq] [b] pos) (f2 oNe fa fb):=⟨ZiH (hr:=hr) (ha:=ha.out) (hb:=hb.out)⟩
theorem Wj (hr:GZ k X.A)(ha:QB X a fa)(hb:QB X b fb):QT X (.Compare a [.NotEq] [b] pos) (J7 (f2 oNe fa fb)):=⟨ZgH (hr:=hr) (ha:=ha.out) (hb:=hb.out)⟩
theorem Zgn (hr:GZ k X.A)(ha:QB X a fa)(hb:QB X b fb)(hm:behindInMarks .In b=false:=by with_unfolding_all rfl):QD X (.Compare a [.In] [b] pos) (f2 (oIn false) fa fb):=⟨ZiK (hr:=hr) (ha:=ha.out) (hb:=hb.out) (hm:=hm)⟩
theorem ZdX (hr:GZ k X.A)(ha:QB X a fa)(hb:QB X b fb)(hm:behindInMarks .In b=false:=by with_unfolding_all rfl):QT X (.Compare a [.In] [b] pos) (J7 (f2 (oIn false) fa fb)):=⟨ZgJ (hr:=hr) (ha:=ha.out) (hb:=hb.out) (hm:=hm)⟩
theorem Z0o (hr:GZ k X.A)(ha:QB X a fa)(hb:QB X b fb)(hm:behindInMarks .NotIn b=false:=by with_unfolding_all rfl):QT X (.Compare a [.NotIn] [b] pos) (J7 (f2 (oIn true) fa fb)):=⟨Z8y (hr:=hr) (ha:=ha.out) (hb:=hb.out) (hm:=hm)⟩
theorem Ze1 {T:String} {N:Str} {p p2:Pos} (hT:Z06 T) (ha:QB X a fa) (hg:Gl X "isinstance") (hm:X.mg "isinstance"=none) (hgT:Gl X N) (hmT:X.mg N=none) (hv:bootBuiltins N=some (.type T)) (hnN:N≠"__name__":=by decide) (hdN:(N == ("__debug__":Str))=false:=by decide) (he:starEach [a,.Name N p2] X.env=(false,eval a X.env)::starEach [.Name N p2] X.env:=by rfl) (hpl:(backTo pos (starEach [.Name N p2] X.env)).any (·.1)=false:=by rfl) (he2:starEach [.Name N p2] X.env=(false,eval (.Name N p2) X.env)::starEach [] X.env:=by rfl):QD X (.Call (.Name "isinstance" p) [a,.Name N p2] [] pos) (ZfL T fa):=⟨ZgV (hT:=hT) (ha:=ha.out) (hg:=hg) (hm:=hm) (hgT:=hgT) (hmT:=hmT) (hv:=hv) (hnN:=hnN) (hdN:=hdN) (he:=he) (hpl:=hpl) (he2:=he2)⟩
theorem Ze2 {p:Pos} {es:Le_} {fs:FL} (hc:X.calm=true) (hg:Gl X "any") (hm:X.mg "any"=none) (ha:QBA X (e::es) fs) (he:starEach (e::es) X.env=(false,eval e X.env)::starEach es X.env:=by rfl) (hpl:(backTo pos (starEach es X.env)).any (·.1)=false:=by rfl):QD X (.Call (.Name "any" p) (e::es) [] pos) (fCB (ZbK true) fs):=⟨ZgX (hc:=hc) (hg:=hg) (hm:=hm) (ha:=ha.out) (he:=he) (hpl:=hpl)⟩
theorem Zgm (hr:GZ k X.A)(ha:QB X a fa)(hb:QB X b fb):QD X (.Compare a [.Lt] [b] pos) (f2 oLt fa fb):=⟨ZiI (hr:=hr) (ha:=ha.out) (hb:=hb.out)⟩
theorem Z8e (hr:GZ k X.A)(ha:QB X a fa)(hb:QB X b fb):QT X (.Compare a [.Lt] [b] pos) (J7 (f2 oLt fa fb)):=⟨ZgI (hr:=hr) (ha:=ha.out) (hb:=hb.out)⟩
theorem Z44 (ha:QB X a fa)(hb:QB X b fb):QT X (.Compare a [.Gt] [b] pos) (J7 (f2 oGt fa fb)):=⟨ZgK (ha:=ha.out) (hb:=hb.out)⟩
theorem Z8f (ha:QB X a fa)(hb:QB X b fb):QT X (.Compare a [.GtE] [b] pos) (J7 (f2 oGe fa fb)):=⟨ZgL (ha:=ha.out) (hb:=hb.out)⟩
theorem Ze0 (ha:QB X a fa)(hb:QB X b fb):QD X (.Compare a [.Is] [b] pos) (f2 (Z4k false) fa fb):=⟨ZgU (ha:=ha.out) (hb:=hb.out)⟩
theorem Zb0 (ha:QB X a fa)(hb:QB X b fb):QT X (.Compare a [.Is] [b] pos) (J7 (f2 (Z4k false) fa fb)):=⟨Zen (ha:=ha.out) (hb:=hb.out)⟩
theorem Z8d (ha:QB X a fa)(hb:QB X b fb):QT X (.Compare a [.IsNot] [b] pos) (J7 (f2 (Z4k true) fa fb)):=⟨Zbn (ha:=ha.out) (hb:=hb.out)⟩
end
section
variable {X:Cx}{e a b:Expr}{te tl th:TE}{pos p2:Pos}
theorem Gc :QO X none Yc:=⟨Zbt ⟩
theorem Ut {f:FD}(h:QD X e f):QO X (some e) (UV f):=⟨Zbs (h:=h.out)⟩
theorem Gv {f:FD}{fl fh:FO}{lo hi:Option Expr}(h:QB X e f)(hl:QO X lo fl)(hh:QO X hi fh):QD X (.Subscript e (.Slice lo hi none p2) pos) (fSl f fl fh):=⟨ZbA (h:=h.out) (hl:=hl.out) (hh:=hh.out)⟩
theorem Z2m {f:FD}{fl fh:FO}{lo hi:Option Expr}(h:QB X e f)(hl:QO X lo fl)(hh:QO X hi fh):QF X (.Subscript e (.Slice lo hi none p2) pos) (Zcf f fl fh):=⟨Zbf (h:=h.out) (hl:=hl.out) (hh:=hh.out)⟩
theorem UE {fa fb:FD}(ha:QB X a fa)(hb:QB X b fb)(hs:Z50 b):QD X (.Subscript a b pos) (f2 oIx fa fb):=⟨ZiJ (ha:=ha.out) (hb:=hb.out) (hs:=hs)⟩
end
section
variable {X:Cx}{K:Fg_}{a b c e:Expr}{fa fb fc f:FD}{pos:Pos}{k:Nat}
theorem JL (ha:QB X a fa)(hb:QB X b fb):QD X (.BinOp a .Add b pos) (f2 Ys fa fb):=⟨Zex (ha:=ha.out) (hb:=hb.out)⟩
theorem UO (ha:QB X a fa)(hb:QB X b fb):QD X (.BinOp a .Mult b pos) (f2 UQ fa fb):=⟨Zbz (ha:=ha.out) (hb:=hb.out)⟩
end
section
variable {X:Cx}{K:Fg_}{a b c e:Expr}{fa fb fc f:FD}{pos:Pos}
theorem ZdY (ha:QB X a fa)(hb:QB X b fb):QD X (.BinOp a .Sub b pos) (f2 ZfJ fa fb):=⟨ZgP (ha:=ha.out) (hb:=hb.out)⟩
theorem GV (ha:QB X a fa)(hb:QB X b fb):QD X (.BinOp a .FloorDiv b pos) (f2 Ds fa fb):=⟨ZeB (ha:=ha.out) (hb:=hb.out)⟩
theorem Uz (ha:QB X a fa)(hb:QB X b fb):QD X (.BinOp a .Mod b pos) (f2 Mo fa fb):=⟨ZgR (ha:=ha.out) (hb:=hb.out)⟩
theorem ZdZ (ha:QD X a fa):QD X (.UnaryOp .USub a pos) (Zcg fa):=⟨Zd0 (ha:=ha.out)⟩
end
section
variable {X:Cx}{K:Fg_}{a b c e:Expr}{fa fb fc f:FD}{pos:Pos}{k:Nat}
theorem NT {p:Pos} {es:Le_} {fs:FL} (hg:Gl X "tuple") (hm:X.mg "tuple"=none) (ha:QBA X (e::es) fs) (he:starEach (e::es) X.env=(false,eval e X.env)::starEach es X.env:=by rfl) (hpl:(backTo pos (starEach es X.env)).any (·.1)=false:=by rfl):QD X (.Call (.Name "tuple" p) (e::es) [] pos) (fCB Nu fs):=⟨Zby (hg:=hg) (hm:=hm) (ha:=ha.out) (he:=he) (hpl:=hpl)⟩
theorem Zb3 {p:Pos} {es:Le_} {fs:FL} (hg:Gl X "list") (hm:X.mg "list"=none) (ha:QBA X (e::es) fs) (he:starEach (e::es) X.env=(false,eval e X.env)::starEach es X.env:=by rfl) (hpl:(backTo pos (starEach es X.env)).any (·.1)=false:=by rfl):QD X (.Call (.Name "list" p) (e::es) [] pos) (fCB Z0r fs):=⟨Zez (hg:=hg) (hm:=hm) (ha:=ha.out) (he:=he) (hpl:=hpl)⟩
end
section
variable {X:Cx}{K:Fg_}
theorem Qb {es:Le_} {k1:Nat} {tp:Pos} {a:Expr} {f:FD} {p pos:Pos} (hg:Gl X "enumerate") (hm:X.mg "enumerate"=none) (ha:QD X a f) (hs:starEach [a] X.env=[(false,eval a X.env)]:=by rfl) (hs1:starEach [a] X.env=(false,eval a X.env)::starEach [] X.env:=by rfl):QI X (.Tuple es k1 tp) (.Call (.Name "enumerate" p) [a] [] pos) (W7 f):=⟨Zbw (hg:=hg) (hm:=hm) (ha:=ha.out) (hs:=hs) (hs1:=hs1)⟩
end
section
variable {X:Cx}{K:Fg_}{o a b c e:Expr}{fo fa fb fc f:FD}{pos:Pos}{k:Nat}
theorem Z5v {apos cpos:Pos} (ho:QB X o fo) (ha:QB X e fa) (hbase:attributeBase o "find" X.env (eval o X.env)=eval o X.env:=by rfl) (hfew:((backTo cpos (starEach (e::[]) X.env)).all (fun x=>!x.1)&&(backToKw cpos (keywordEach [] X.env)).all (fun x=>x.1.isSome)
  &&decide ((e::[]).length+([]:List Keyword).length+(if ([]:List Keyword).isEmpty then 0 else 1)<30))=true:=by rfl) (hline:(apos.endLine == cpos.line)=true:=by rfl) (hs:starEach (e::[]) X.env=(false,eval e X.env)::starEach [] X.env:=by rfl) (hplain:(backTo cpos (starEach [] X.env)).any (·.1)=false:=by rfl):QD X (.Call (.Attribute o "find" apos) [e] [] cpos) (fM1 (fun z y=>some (.int (MP z y))) fo fa):=⟨ZeA (ho:=ho.out) (ha:=ha.out) (hbase:=hbase) (hfew:=hfew) (hline:=hline) (hs:=hs) (hplain:=hplain)⟩
theorem Z0p {apos cpos:Pos} (ho:QB X o fo) (ha:QB X e fa) (hbase:attributeBase o "startswith" X.env (eval o X.env)=eval o X.env:=by rfl) (hfew:((backTo cpos (starEach (e::[]) X.env)).all (fun x=>!x.1)&&(backToKw cpos (keywordEach [] X.env)).all (fun x=>x.1.isSome)
  &&decide ((e::[]).length+([]:List Keyword).length+(if ([]:List Keyword).isEmpty then 0 else 1)<30))=true:=by rfl) (hline:(apos.endLine == cpos.line)=true:=by rfl) (hs:starEach (e::[]) X.env=(false,eval e X.env)::starEach [] X.env:=by rfl) (hplain:(backTo cpos (starEach [] X.env)).any (·.1)=false:=by rfl):QD X (.Call (.Attribute o "startswith" apos) [e] [] cpos) (fM1 (fun z y=>some (.bl (Ya z y))) fo fa):=⟨Z8C (ho:=ho.out) (ha:=ha.out) (hbase:=hbase) (hfew:=hfew) (hline:=hline) (hs:=hs) (hplain:=hplain)⟩
end
section
variable {X:Cx}{a b c e:Expr}{fa fb fc f:FD}{pos:Pos}{k:Nat}
theorem Qt {i j:Nat}{x y:Str}{px py:Pos}{k:Nat}(hc:X.calm=true)(hN:X.N.Nodup)(hi:X.N[i]?=some x)(hj:X.N[j]?=some y)(hx:Loc X.env.scope x)(hy:Loc X.env.scope y)(hf:X.fn x=true∨X.env.scope.names.lookup x=some .local:=by first|exact .inl rfl|exact .inr rfl|assumption)(hf2:X.fn y=true∨X.env.scope.names.lookup y=some .local:=by first|exact .inl rfl|exact .inr rfl|assumption):QG X (.Tuple [.Name x px,.Name y py] k pos) (NX i j):=⟨Zew (hc:=hc) (hN:=hN) (hi:=hi) (hj:=hj) (hx:=hx) (hy:=hy) (hf:=hf) (hf2:=hf2)⟩
end
section
variable {X:Cx}{a b c e:Expr}{fa fb fc f:FD}{F G:FS}{pos:Pos}{k:Nat}
theorem Bi {body:List Stmt}{fc:FB}(hp:YZ (model X.prog X.w) X.A X.env X.xe)(hc:QT X c fc)(hb:QSs X body F):QS X (.While c body [] pos) (DT fc F):=⟨Z8A (hp:=hp) (hc:=hc.out) (hb:=hb.out)⟩
theorem Zb1 {tg:Expr}{g:FG}(he:QD X e f)(hg:QG X tg g)(hs:swapsWithSole [tg] e pos.line X.env=pure false:=by rfl)(hw:swappedStores [tg] e X.env=pure none:=by rfl)(h1:(assignEach [tg] X.env).map (·.2)=[assign tg X.env]:=by rfl):QS X (.Assign [tg] e pos) (Zhz f g):=⟨Zes (he:=he.out) (hg:=hg.out) (hs:=hs) (hw:=hw) (h1:=h1)⟩
theorem Z2n {x y:Str}{px py pt pos:Pos}{k1:Nat}{scope:Scope}{elt iter:Expr}{ifs:Le_}{fi:FL}{ft:FB}{fe:FD}(hc:X.calm=true)(S:Yn X [x,y] scope)(hN:([x,y]++X.N).Nodup)(hx:scope.names.lookup x=some .local)(hy:scope.names.lookup y=some .local)(hi:QI X (.Tuple [.Name x px,.Name y py] k1 pt) iter fi)(ht:∀ cl s₂ H1 C fp,QIf (cxC X [x,y] scope cl s₂ H1 C fp) ifs ft)(he:∀ cl s₂ H1 C fp,QD (cxC X [x,y] scope cl s₂ H1 C fp) elt fe)(hs:∀ x,foldedSetIterable iter X.env x=pure x:=by intro _;rfl):QF X (.ListComp elt [⟨.Tuple [.Name x px,.Name y py] k1 pt,iter,ifs,0⟩] scope pos) (Ua g2 fi ft fe):=⟨Zbg (hc:=hc) (S:=S) (hN:=hN) (hx:=hx) (hy:=hy) (hi:=hi.out) (ht:=(fun x0 x1 x2 x3 x4=>(ht x0 x1 x2 x3 x4).out)) (he:=(fun x0 x1 x2 x3 x4=>(he x0 x1 x2 x3 x4).out)) (hs:=hs)⟩
theorem Z45 {x y z:Str}{px py pt pz pos spos:Pos}{k1:Nat}{scope:Scope}{elt iter:Expr}{ifs:Le_}{fi:FL}{ft:FB}{fe:FD}{i:Nat}(hN0:X.N.Nodup)(hi':X.N[i]?=some z)(hz:Loc X.env.scope z)(hc:X.calm=true)(S:Yn X [x,y] scope)(hN:([x,y]++X.N).Nodup)(hx:scope.names.lookup x=some .local)(hy:scope.names.lookup y=some .local)(hi:QI X (.Tuple [.Name x px,.Name y py] k1 pt) iter fi)(ht:∀ cl s₂ H1 C fp,QIf (cxC X [x,y] scope cl s₂ H1 C fp) ifs ft)(he:∀ cl s₂ H1 C fp,QD (cxC X [x,y] scope cl s₂ H1 C fp) elt fe)(hsw:swapsWith (.ListComp elt [⟨.Tuple [.Name x px,.Name y py] k1 pt,iter,ifs,0⟩] scope pos) (some (.Name z pz)) spos.line X.env=pure true:=by rfl)(hf':X.fn z=true∨X.env.scope.names.lookup z=some .local:=by first|exact .inl rfl|exact .inr rfl|assumption)(hs:∀ x,foldedSetIterable iter X.env x=pure x:=by intro _;rfl):QS X (.Assign [.Name z pz] (.ListComp elt [⟨.Tuple [.Name x px,.Name y py] k1 pt,iter,ifs,0⟩] scope pos) spos) (YJ i (G2 (Ua g2 fi ft fe))):=⟨Z6C (hN0:=hN0) (hi':=hi') (hz:=hz) (hc:=hc) (S:=S) (hN:=hN) (hx:=hx) (hy:=hy) (hi:=hi.out) (ht:=(fun x0 x1 x2 x3 x4=>(ht x0 x1 x2 x3 x4).out)) (he:=(fun x0 x1 x2 x3 x4=>(he x0 x1 x2 x3 x4).out)) (hsw:=hsw) (hf':=hf') (hs:=hs)⟩
theorem Z2o {m:List Nat}{x y z:Str}{px py pt pz pos spos:Pos}{k1:Nat}{scope:Scope}{elt iter:Expr}{ifs:Le_}{fi:FL}{ft:FB}{fe:FD}{i:Nat}(hN0:X.N.Nodup)(hi':X.N[i]?=some z)(hz:Loc X.env.scope z)(hc:X.calm=true)(S:Yn (X.hid m) [x,y] scope)(hN:([x,y]++(X.hid m).N).Nodup)(hx:scope.names.lookup x=some .local)(hy:scope.names.lookup y=some .local)(hi:QI X (.Tuple [.Name x px,.Name y py] k1 pt) iter fi)(ht:∀ cl s₂ H1 C fp,QIf (cxC (X.hid m) [x,y] scope cl s₂ H1 C fp) ifs ft)(he:∀ cl s₂ H1 C fp,QD (cxC (X.hid m) [x,y] scope cl s₂ H1 C fp) elt fe)(hsw:swapsWith (.ListComp elt [⟨.Tuple [.Name x px,.Name y py] k1 pt,iter,ifs,0⟩] scope pos) (some (.Name z pz)) spos.line X.env=pure true:=by rfl)(hf':X.fn z=true∨X.env.scope.names.lookup z=some .local:=by first|exact .inl rfl|exact .inr rfl|assumption)(hs:∀ x,foldedSetIterable iter X.env x=pure x:=by intro _;rfl):QS X (.Assign [.Name z pz] (.ListComp elt [⟨.Tuple [.Name x px,.Name y py] k1 pt,iter,ifs,0⟩] scope pos) spos) (YJ i (G2 (BW m g2 fi ft fe))):=⟨Z4b (hN0:=hN0) (hi':=hi') (hz:=hz) (hc:=hc) (S:=S) (hN:=hN) (hx:=hx) (hy:=hy) (hi:=hi.out) (ht:=(fun x0 x1 x2 x3 x4=>(ht x0 x1 x2 x3 x4).out)) (he:=(fun x0 x1 x2 x3 x4=>(he x0 x1 x2 x3 x4).out)) (hsw:=hsw) (hf':=hf') (hs:=hs)⟩
end
section
variable {X:Cx}{K:Fg_}{e:Expr}{es:Le_}{fs:FL}{p pos:Pos}{pins:Pn_}{σ:St}{H:Hp}{s:Shared}
theorem Z2l (hg:Gl X "sorted") (hm:X.mg "sorted"=none) (ha:QBA X (e::es) fs) (he:starEach (e::es) X.env=(false,eval e X.env)::starEach es X.env:=by rfl) (hpl:(backTo pos (starEach es X.env)).any (·.1)=false:=by rfl):QF X (.Call (.Name "sorted" p) (e::es) [] pos) (Cp fs):=⟨Zbe (hg:=hg) (hm:=hm) (ha:=ha.out) (he:=he) (hpl:=hpl)⟩
theorem Qq {p2 pos2:Pos} (hc:X.calm=true) (hg:Gl X "sorted") (hm:X.mg "sorted"=none) (hg2:Gl X "set") (hm2:X.mg "set"=none) (ha:QBA X (e::es) fs) (he:starEach (e::es) X.env=(false,eval e X.env)::starEach es X.env:=by rfl) (hpl:(backTo pos2 (starEach es X.env)).any (·.1)=false:=by rfl) (he2:starEach [.Call (.Name "set" p2) (e::es) [] pos2] X.env=(false,eval (.Call (.Name "set" p2) (e::es) [] pos2) X.env)::starEach [] X.env:=by rfl) (hpl2:(backTo pos (starEach ([]:Le_) X.env)).any (·.1)=false:=by rfl):QF X (.Call (.Name "sorted" p) [.Call (.Name "set" p2) (e::es) [] pos2] [] pos) (Nv fs):=⟨Z6z (hc:=hc) (hg:=hg) (hm:=hm) (hg2:=hg2) (hm2:=hm2) (ha:=ha.out) (he:=he) (hpl:=hpl) (he2:=he2) (hpl2:=hpl2)⟩
end
section
variable {X:Cx}{K:Fg_}{o a b c e e2:Expr}{fo fa fb fc f:FD}{pos:Pos}{k:Nat}
theorem Z8j {apos cpos:Pos} (ho:QB X o fo) (ha:QB X e fa) (hb:QB X e2 fb) (hbase:attributeBase o "find" X.env (eval o X.env)=eval o X.env:=by rfl) (hfew:((backTo cpos (starEach [e,e2] X.env)).all (fun x=>!x.1)&&(backToKw cpos (keywordEach [] X.env)).all (fun x=>x.1.isSome)&&decide ([e,e2].length+([]:List Keyword).length+(if ([]:List Keyword).isEmpty then 0 else 1)<30))=true:=by rfl) (hline:(apos.endLine == cpos.line)=true:=by rfl) (hs:starEach [e,e2] X.env=(false,eval e X.env)::starEach [e2] X.env:=by rfl) (hs2:starEach [e2] X.env=(false,eval e2 X.env)::starEach [] X.env:=by rfl) (hplain:(backTo cpos (starEach [e2] X.env)).any (·.1)=false:=by rfl):QD X (.Call (.Attribute o "find" apos) [e,e2] [] cpos) (fM2 (fun z y i=>some (.int (Du z y i))) fo fa fb):=⟨ZbB (ho:=ho.out) (ha:=ha.out) (hb:=hb.out) (hbase:=hbase) (hfew:=hfew) (hline:=hline) (hs:=hs) (hs2:=hs2) (hplain:=hplain)⟩
theorem C7 {i:Nat} {apos cpos:Pos} (ho:QV X (o) i) (he:QB X e f) (hbase:attributeBase o "extend" X.env (eval o X.env)=eval o X.env:=by rfl) (hfew:((backTo cpos (starEach [e] X.env)).all (fun x=>!x.1)&&(backToKw cpos (keywordEach [] X.env)).all (fun x=>x.1.isSome)
  &&decide (([e]:Le_).length+([]:List Keyword).length+(if ([]:List Keyword).isEmpty then 0 else 1)<30))=true:=by rfl) (hline:(apos.endLine == cpos.line)=true:=by rfl) (hs:starEach [e] X.env=(false,eval e X.env)::starEach [] X.env:=by rfl) (hplain:(backTo cpos (starEach ([]:Le_) X.env)).any (·.1)=false:=by rfl) (hsw:swapsWith (.Call (.Attribute o "extend" apos) [e] [] cpos) none pos.line X.env=pure false:=by rfl):QS X (.Expr (.Call (.Attribute o "extend" apos) [e] [] cpos) pos) (Mq i f):=⟨Z6B (ho:=ho.out) (he:=he.out) (hbase:=hbase) (hfew:=hfew) (hline:=hline) (hs:=hs) (hplain:=hplain) (hsw:=hsw)⟩
end
section
variable {X:Cx}{K:Fg_}{o a b c e value:Expr}{f fk fw:FD}{pos pos':Pos}{k i:Nat}{x:Str}
theorem Z8h (hN:X.N.Nodup)(hi:X.N[i]?=some x)(hx:Loc X.env.scope x)(hf:X.fn x=true∨X.env.scope.names.lookup x=some .local:=by first|exact .inl rfl|exact .inr rfl|assumption){px:Pos}(hs:swapsWith (.Dict [] [] pos') (some (.Name x px)) pos.line X.env=pure false:=by rfl):QS X (.Assign [.Name x px] (.Dict [] [] pos') pos) (Zfl i):=⟨Zbr (hN:=hN) (hi:=hi) (hx:=hx) (hf:=hf) (hs:=hs)⟩
theorem Zb4 (hr:GZ k X.A)(ho:QV X (o) i)(hi:QB X e f)(hs:Zi7 e):QD X (.Subscript o e pos) (Z4O i f):=⟨ZeC (hr:=hr) (ho:=ho.out) (hi:=hi.out) (hs:=hs)⟩
theorem Z8g (hr:GZ k X.A)(ho:QV X (o) i)(hi:QB X e fk)(hv:QD X value fw)(hs:swapsWith value (some (.Subscript o e pos')) pos.line X.env=pure false:=by rfl):QS X (.Assign [.Subscript o e pos'] value pos) (Z4N i fk fw):=⟨Zbq (hr:=hr) (ho:=ho.out) (hi:=hi.out) (hv:=hv.out) (hs:=hs)⟩
end
section
variable {X:Cx}{K:Fg_}{e value:Expr}{fs:FL}{fd:FD}{p pos kp:Pos}{k:Nat}
theorem Zb2 (hr:GZ k X.A) (hc:X.calm=true) (hg:Gl X "min") (hm:X.mg "min"=none) (ha:QBA X [e] fs) (hv:QD X value fd) (he:backTo pos (starEach [e] X.env)=(false,eval e X.env)::backTo pos (starEach [] X.env):=by rfl) (hplain:(backTo pos (starEach [e] X.env)).any (·.1)=false:=by rfl) (hall:(backToKw pos (keywordEach [⟨some (ZY "default"),value,kp⟩] X.env)).all (·.1.isSome)=true:=by rfl) (hkw:(backToKw pos (keywordEach [⟨some (ZY "default"),value,kp⟩] X.env)).any (·.1.isNone)=false:=by rfl) (hz:∀ v:Value,((backToKw pos (keywordEach [⟨some (ZY "default"),value,kp⟩] X.env)).filterMap (·.1)).zip [v]=[(ZY "default",v)]:=by intro _;rfl):QD X (.Call (.Name "min" p) [e] [⟨some (ZY "default"),value,kp⟩] pos) (Z9M fs fd):=⟨Zey (hr:=hr) (hc:=hc) (hg:=hg) (hm:=hm) (ha:=ha.out) (hv:=hv.out) (he:=he) (hplain:=hplain) (hall:=hall) (hkw:=hkw) (hz:=hz)⟩
end
section
variable {X:Cx}{tg a b:Expr}{fa fb:FD}{K:Fg_}{p pos:Pos}
theorem Z46 (hg:Gl X "range") (hm:X.mg "range"=none) (ha:QD X a fa) (hb:QD X b fb) (hs:starEach [a,b] X.env=[(false,eval a X.env),(false,eval b X.env)]:=by rfl) (hs2:starEach [b] X.env=[(false,eval b X.env)]:=by rfl) (hs1:starEach [a,b] X.env=(false,eval a X.env)::starEach [b] X.env:=by rfl) (hs3:starEach [b] X.env=(false,eval b X.env)::starEach [] X.env:=by rfl):QI X tg (.Call (.Name "range" p) [a,b] [] pos) (Dg fa fb):=⟨Z6F (hg:=hg) (hm:=hm) (ha:=ha.out) (hb:=hb.out) (hs:=hs) (hs2:=hs2) (hs1:=hs1) (hs3:=hs3)⟩
end
section
theorem Z8a {X:Cx} {o:Expr} {i:Nat} {p pos:Pos} (hc:X.calm=true) (hg:Gl X "sorted") (hm:X.mg "sorted"=none) (ho:QV X (o) i) (he:starEach [o] X.env=(false,eval o X.env)::starEach [] X.env:=by rfl) (hpl:(backTo pos (starEach ([]:Le_) X.env)).any (·.1)=false:=by rfl):QF X (.Call (.Name "sorted" p) [o] [] pos) (Z0B i):=⟨Zbd (hc:=hc) (hg:=hg) (hm:=hm) (ho:=ho.out) (he:=he) (hpl:=hpl)⟩
end
section
variable {X:Cx}{K:Fg_}{e:Expr}{fs:FL}{p pos kp kq:Pos}{k:Nat}{x:Str}{φ:Lt_→Option Th}
theorem Z89 (c:Callee X.prog X.w X.K X.mg X.base k x φ) (hr:GZ (k+2) X.A) (hx:Gl X x) (hg:Gl X "sorted") (hm:X.mg "sorted"=none) (ha:QBA X [e] fs) (hdb:(x == ("__debug__":Str))=false:=by decide) (he:backTo pos (starEach [e] X.env)=(false,eval e X.env)::backTo pos (starEach [] X.env):=by rfl) (hplain:(backTo pos (starEach [e] X.env)).any (·.1)=false:=by rfl) (hall:(backToKw pos (keywordEach [⟨some (ZY "key"),.Name x kq,kp⟩] X.env)).all (·.1.isSome)=true:=by rfl) (hkw:(backToKw pos (keywordEach [⟨some (ZY "key"),.Name x kq,kp⟩] X.env)).any (·.1.isNone)=false:=by rfl) (hz:∀ v:Value,((backToKw pos (keywordEach [⟨some (ZY "key"),.Name x kq,kp⟩] X.env)).filterMap (·.1)).zip [v]=[(ZY "key",v)]:=by intro _;rfl):QF X (.Call (.Name "sorted" p) [e] [⟨some (ZY "key"),.Name x kq,kp⟩] pos) (Z0A φ fs):=⟨Zbc (c:=c) (hr:=hr) (hx:=hx) (hg:=hg) (hm:=hm) (ha:=ha.out) (hdb:=hdb) (he:=he) (hplain:=hplain) (hall:=hall) (hkw:=hkw) (hz:=hz)⟩
end
section
variable {X:Cx}{K:Fg_}{e:Expr}{es:Le_}{fs:FL}{p pos:Pos}{pins:Pn_}{σ:St}{H:Hp}{s:Shared}
theorem Z2k {k:Nat} {p2 pos2:Pos} (hr:GZ k X.A) (hc:X.calm=true) (hg:Gl X "sorted") (hm:X.mg "sorted"=none) (hg2:Gl X "set") (hm2:X.mg "set"=none) (ha:QBA X (e::es) fs) (he:starEach (e::es) X.env=(false,eval e X.env)::starEach es X.env:=by rfl) (hpl:(backTo pos2 (starEach es X.env)).any (·.1)=false:=by rfl) (he2:starEach [.Call (.Name "set" p2) (e::es) [] pos2] X.env=(false,eval (.Call (.Name "set" p2) (e::es) [] pos2) X.env)::starEach [] X.env:=by rfl) (hpl2:(backTo pos (starEach ([]:Le_) X.env)).any (·.1)=false:=by rfl):QF X (.Call (.Name "sorted" p) [.Call (.Name "set" p2) (e::es) [] pos2] [] pos) (Wp fs):=⟨Z49 (hr:=hr) (hc:=hc) (hg:=hg) (hm:=hm) (hg2:=hg2) (hm2:=hm2) (ha:=ha.out) (he:=he) (hpl:=hpl) (he2:=he2) (hpl2:=hpl2)⟩
theorem Z6x {p2 pos2:Pos} (hc:X.calm=true) (hg:Gl X "len") (hm:X.mg "len"=none) (hg2:Gl X "set") (hm2:X.mg "set"=none) (ha:QBA X (e::es) fs) (he:starEach (e::es) X.env=(false,eval e X.env)::starEach es X.env:=by rfl) (hpl:(backTo pos2 (starEach es X.env)).any (·.1)=false:=by rfl) (he2:starEach [.Call (.Name "set" p2) (e::es) [] pos2] X.env=(false,eval (.Call (.Name "set" p2) (e::es) [] pos2) X.env)::starEach [] X.env:=by rfl) (hpl2:(backTo pos (starEach ([]:Le_) X.env)).any (·.1)=false:=by rfl):QD X (.Call (.Name "len" p) [.Call (.Name "set" p2) (e::es) [] pos2] [] pos) (Cq fs):=⟨Z8E (hc:=hc) (hg:=hg) (hm:=hm) (hg2:=hg2) (hm2:=hm2) (ha:=ha.out) (he:=he) (hpl:=hpl) (he2:=he2) (hpl2:=hpl2)⟩
end
section
variable {X:Cx}
theorem Dc {e:Expr}{T:Th}(h:Lit e T):QD X e (fC T):=⟨Zd1 h⟩
theorem Bh {es:Le_}{ts:Lt_}{p:Pos}(h:Zdy es ts)(z:ts.length≤1000000):QF X (.List es p) (fCL ts):=⟨Zgx h z⟩
theorem qv (i:Nat) {x:Str} {pos:Pos} (hN:X.N[i]?=some x:=by rfl) (hv:Vis X.env.scope x:=by first|exact CI rfl|exact ZjC (CI rfl)|exact ZjC (ZjC rfl)) (hd:(x == ("__debug__":Str))=false:=by decide)
  (hcd:(x == ("__classdict__":Str))=false:=by decide):QV X (.Name x pos) i:=⟨Zgy hN hv hd hcd⟩
end
section
variable {P:Program}{w:World}{K:Fg_}{mg:Str→Option Value}{base:Heap}
theorem Fun.okQ {x qual:Str}{st:Stmt}{f:Addr}{fd:Jj}{N ps:Ls_}{k:Nat}{n m:Nat}{body:FS}(F:Fun K x qual st f fd)(S:Y8 N ps (Zy st))(hps:ps.length=n)(hN:N.length=m)
  (hb:∀ (cdv:Value) (A:Around) (outer:List Env) (s:Shared) (H:Hp) (E:XK),GZ k (A.deeper (envOfC qual (Zy st) s.heap.objs.size f cdv))→QSs (Zdl CX0 P w K mg base N qual (Zy st) f cdv A outer s H E).nox (JV st) body) :
  Mw P w K mg base CX0 (k+1) f fd ps (spF K (Qi n m body)) :=
 Fun.okD F S (fun cdv A outer s H E hr=>(hb cdv A outer s H E hr).out) (fun Ts T e=>by subst hps hN;exact Z82 e)
end
end L2
namespace L2
open PySem PySem.Spec PyProof.Rows PySem.Builtin.Str PySem.StrLaws
abbrev W:=List Nat
noncomputable def sL (l:W):Str:=⟨l.toArray⟩
noncomputable def tS (l:W):Th:=.str (sL l)
theorem ZcP (l:W):(sL l).cps.toList=l:=rfl
theorem BL (l:W):(sL l).length=l.length:=rfl
theorem Fi (x:Str):sL x.cps.toList=x:=by cases x;simp[sL]
theorem Z0n {a b:W}(h:sL a=sL b):a=b:=by
 have:=congrArg (fun s:Str=>s.cps.toList) h
 exact this
theorem Zg8 (a b:W):sL a++sL b=sL (a++b):=by
 show (⟨a.toArray++b.toArray⟩:Str)=_
 simp[sL]
noncomputable def Y2 (l w:W)(i:Nat):Bool:=l.isPrefixOf (w.drop i)
theorem YT {l w:W}{i:Nat}:Y2 l w i=true↔l <+: w.drop i:=UD
theorem U3 {l w:W}{i:Nat}(hl:l≠[])(h:Y2 l w i=true):i+l.length≤w.length:=by
 have:=(YT.mp h).length_le
 rw[ZS] at this
 have:0<l.length:=MY.mpr hl
 lia
theorem Bf {l w:W}{i:Nat}(h:Y2 l w i=true)(hi:i≤w.length):w=w.take i++l++w.drop (i+l.length):=by
 obtain⟨t,ht⟩:=YT.mp h
 have e:w.drop (i+l.length)=t:=by
  rw[← JD,← ht,Ma]
 rw[e,Z8,ht,ZF]
theorem Z7O {l w:W}{i:Nat}(h:i+l.length≤w.length):subAt (sL w) (sL l) i=Y2 l w i:=by
 unfold subAt Y2
 have e:((sL w).cps.extract i (i+(sL l).length))=((w.drop i).take l.length).toArray:=by
  apply Wy.mp
  show ((w.toArray).extract i (i+l.length)).toList=_
  rw[N5,UT]
  simp
 rw[e]
 show (((w.drop i).take l.length).toArray == l.toArray)=_
 have e2:(((w.drop i).take l.length).toArray == l.toArray)=((w.drop i).take l.length == l):=by
  rw[Dq]
  simp
 rw[e2,Dq,beq_iff_eq,UD,List.prefix_iff_eq_take]
 exact eq_comm
theorem Z26 (w l:W):Ya (sL w) (sL l)=l.isPrefixOf w:=by
 unfold Ya
 by_cases h:l.length≤w.length
 ·have h0:0+l.length≤w.length:=by lia
  rw[Z7O h0]
  have:decide (0+(sL l).length≤(sL w).length)=true:=decide_eq_true h0
  rw[this]
  simp[Y2]
 ·have:decide (0+(sL l).length≤(sL w).length)=false:=decide_eq_false (by show ¬ (0+l.length≤w.length);lia)
  rw[this,ZfS]
  cases h2:l.isPrefixOf w with
  |false=>rfl
  |true=>exact absurd (UD.mp h2).length_le (by omega)
noncomputable def YB (l w:W)(lo:Nat):Option Nat:=(Um lo (w.length+1-lo)).find? (Y2 l w)
theorem Zhc {w l:W}(hl:l≠[]):∀ (is:List Nat) (lo:Nat),(∀ i∈is,lo≤i) →
  (forIn (m:=Id) is ((#[]:Array Nat),lo) (occBody (sL w) (sL l) w.length 1)).run.fst.toList=(is.find? (Y2 l w)).toList:=by
 intro is
 have full:∀ (is:List Nat) (k f:Nat),(forIn (m:=Id) is ((#[k]:Array Nat),f) (occBody (sL w) (sL l) w.length 1)).run.fst.toList=[k]:=by
  intro is
  induction is with
  |nil=>intro k f;rfl
  |cons i is ih =>
   intro k f
   rw[MZ]
   have e:occBody (sL w) (sL l) w.length 1 i ((#[k]:Array Nat),f)=pure (Uc (#[k],f)):=by
    unfold occBody
    simp
   rw[e]
   exact ih k f
 induction is with
 |nil=>intro lo _;rfl
 |cons i is ih =>
  intro lo hlo
  rw[MZ,YF]
  have hi:=hlo i Z1
  cases hs:Y2 l w i with
  |true =>
   have hle:=U3 hl hs
   have hle':i+(sL l).length≤w.length:=hle
   have e:occBody (sL w) (sL l) w.length 1 i ((#[]:Array Nat),lo)=pure (Uc (#[i],i+(sL l).length)):=by
    unfold occBody
    rw[Z7O hle,hs]
    simp[hi,hle']
   rw[e]
   exact full is i _
  |false =>
   have e:occBody (sL w) (sL l) w.length 1 i ((#[]:Array Nat),lo)=pure (Uc (#[],lo)):=by
    unfold occBody
    by_cases h:i+(sL l).length≤w.length
    ·rw[Z7O (l:=l) h,hs]
     simp
    ·simp[h]
   rw[e]
   exact ih lo fun j hj=>hlo j (Z4 _ hj)
theorem Z4j {w l:W}(hl:l≠[])(lo:Nat):occurrences (sL w) (sL l) lo (sL w).length 1=(YB l w lo).toList:=by
 rw[occ_eq]
 refine Zhc hl _ lo fun i hi=>?_
 exact (M0.mp hi).1
noncomputable def Zar:Option Nat→Int
 |some i=>(i:Int)
 |none=>-1
theorem Z9K {w l:W}(hl:l≠[]):MP (sL w) (sL l)=Zar (YB l w 0):=by
 unfold MP
 rw[Z4j hl 0]
 cases YB l w 0 <;> rfl
theorem Zce {w l:W}(hl:l≠[])(i:Nat):Du (sL w) (sL l) (i:Int)=Zar (YB l w i):=by
 unfold Du
 have hi:fromIndex (sL w).length (i:Int)=i:=by unfold fromIndex;rw[if_neg (by lia)];rfl
 rw[hi,Z4j hl i]
 cases YB l w i <;> rfl
noncomputable def allAt (l w:W)(lo:Nat):List Nat:=(Um lo (w.length+1-lo)).filter (Y2 l w)
theorem CG {l w:W}{lo p:Nat}(h:YB l w lo=some p):lo≤p∧p≤w.length∧allAt l w lo=p::allAt l w (p+1):=by
 unfold YB at h
 unfold allAt
 have aux:∀ (n lo:Nat),(Um lo n).find? (Y2 l w)=some p→lo≤p∧p<lo+n∧(Um lo n).filter (Y2 l w)=p::(Um (p+1) (lo+n-(p+1))).filter (Y2 l w):=by
  intro n
  induction n with
  |zero=>intro lo h;simp at h
  |succ n ih =>
   intro lo h
   rw[ZdA,YF] at h
   rw[ZdA,Mt]
   cases hs:Y2 l w lo with
   |true =>
    rw[hs] at h
    cases h
    refine⟨Zc _,by lia,?_⟩
    rw[if_pos rfl]
    congr 3
    lia
   |false =>
    rw[hs] at h
    obtain⟨a,b,c⟩:=ih (lo+1) h
    refine⟨by exact Gg ‹_›,by lia,?_⟩
    rw[if_neg (by simp),c]
    congr 3
    lia
 obtain⟨a,b,c⟩:=aux _ _ h
 refine⟨a,by omega,?_⟩
 rw[c]
 congr 3
 lia
theorem Z0O {l w:W}{lo:Nat}(h:YB l w lo=none):allAt l w lo=[]:=by
 unfold YB at h
 unfold allAt
 rw[Z6k]
 intro i hi
 exact Zay.mp h i hi
theorem Wn {l w:W}(hl:l≠[]){i:Nat}:i∈allAt l w 0↔Y2 l w i=true:=by
 unfold allAt
 rw[JW,M0]
 constructor
 ·exact fun h=>h.2
 ·intro h
  have:=U3 hl h
  exact⟨⟨Jv _,by lia⟩,h⟩
abbrev Ru:=W×W
noncomputable def rTh (r:Ru):Th:=.tup [tS r.1,tS r.2]
noncomputable def RT (R:List Ru):Th:=.tup (R.map rTh)
noncomputable def MS (p:Nat×Nat):Th:=.tup [.int (p.1:Int),.int (p.2:Int)]
theorem Mn {α:Type}[DecidableEq α]:∀ {a b:List α},a.Nodup→b.Nodup→(∀ x,x∈a↔x∈b)→a.Perm b
 |[],b,_,_,h=>by
  have:b=[]:=CV.mpr fun x hx=>absurd ((h x).mpr hx) (by simp)
  rw[this]
 |x::a,b,ha,hb,h=>by
  have hx:x∈b:=(h x).mp Z1
  have hna:=GK.mp ha
  refine (Zam x (Mn hna.2 (hb.erase x) fun y=>?_)).trans (List.perm_cons_erase hx).symm
  rw[hb.mem_erase_iff]
  constructor
  ·intro hy
   exact⟨fun e=>hna.1 (e ▸ hy),(h y).mp (Z4 _ hy)⟩
  ·rintro⟨n,hy⟩
   rcases Zp.mp ((h y).mpr hy) with e|e
   ·exact absurd e n
   ·exact e
noncomputable def UN (w:W)(p:Nat):Nat→List Ru→List (Nat×Nat)
 |_,[]=>[]
 |k,r::R=>if Y2 r.1 w p=true then (p,k)::UN w p (k+1) R else UN w p (k+1) R
noncomputable def JO (R:List Ru)(w:W):List (Nat×Nat):=(Jg w.length).flatMap fun p=>UN w p 0 R
theorem Df {w:W}{p:Nat}{x:Nat×Nat}:∀ {k:Nat} {R:List Ru},x∈UN w p k R↔x.1=p∧k≤x.2∧∃ r,R[x.2-k]?=some r∧Y2 r.1 w p=true
 |k,[]=>by simp[UN]
 |k,r::R=>by
  have key:(x.1=p∧k≤x.2∧∃ q,(r::R)[x.2-k]?=some q∧Y2 q.1 w p=true)↔((x=(p,k)∧Y2 r.1 w p=true)∨(x.1=p∧k+1≤x.2∧∃ q,R[x.2-(k+1)]?=some q∧Y2 q.1 w p=true)):=by
   constructor
   ·rintro⟨h1,h2,q,h3,h4⟩
    by_cases e:x.2=k
    ·left
     rw[e,QJ,gz_] at h3
     cases h3
     exact⟨Dw h1 e,h4⟩
    ·right
     obtain⟨j,hj⟩:∃ j,x.2-k=j+1:=⟨x.2-k-1,by lia⟩
     rw[hj,gs_] at h3
     refine⟨h1,by lia,q,?_,h4⟩
     rw[show x.2-(k+1)=j by lia]
     exact h3
   ·rintro (⟨e,h⟩|⟨h1,h2,q,h3,h4⟩)
    ·subst e
     exact⟨rfl,Zc _,r,by simp,h⟩
    ·refine⟨h1,by exact Gg ‹_›,q,?_,h4⟩
     rw[show x.2-k=(x.2-(k+1))+1 by lia,gs_]
     exact h3
  rw[key]
  unfold UN
  split
  ·rename_i hs
   rw[Zp,Df (k:=k+1) (R:=R)]
   constructor
   ·rintro (e|e)
    ·exact .inl ⟨e,hs⟩
    ·exact .inr e
   ·rintro (⟨e,-⟩|e)
    ·exact .inl e
    ·exact .inr e
  ·rename_i hs
   rw[Df (k:=k+1) (R:=R)]
   constructor
   ·exact .inr
   ·rintro (⟨-,e⟩|e)
    ·exact absurd e hs
    ·exact e
def Z4Z (R:List Ru)(w:W)(x:Nat×Nat):Prop:=∃ r,R[x.2]?=some r∧Y2 r.1 w x.1=true
theorem Gd {R:List Ru}{w:W}(hR:∀ r∈R,r.1≠[]){x:Nat×Nat}:x∈JO R w↔Z4Z R w x:=by
 unfold JO Z4Z
 rw[Z03]
 constructor
 ·rintro⟨p,-,h⟩
  obtain⟨h1,-,r,h3,h4⟩:=Df.mp h
  subst h1
  exact⟨r,by simpa using h3,h4⟩
 ·rintro⟨r,h1,h2⟩
  have hl:=U3 (hR r (ZZ h1)) h2
  have:0<r.1.length:=MY.mpr (hR r (ZZ h1))
  exact⟨x.1,Gs.mpr (by lia),Df.mpr ⟨rfl,Jv _,r,by simpa using h1,h2⟩⟩
theorem Z16 (w:W)(p:Nat):∀ (k:Nat) (R:List Ru),(UN w p k R).Pairwise fun a b=>a.1=b.1∧a.2<b.2
 |k,[]=>Uw
 |k,r::R=>by
  unfold UN
  split
  ·refine Ju.cons (fun b hb=>?_) (Z16 w p (k+1) R)
   obtain⟨h1,h2,-⟩:=Df.mp hb
   exact⟨h1.symm,h2⟩
  ·exact Z16 w p (k+1) R
def LtP (a b:Nat×Nat):Prop:=a.1<b.1∨(a.1=b.1∧a.2<b.2)
theorem Dd (R:List Ru)(w:W):(JO R w).Pairwise LtP:=by
 unfold JO
 rw[List.pairwise_flatMap]
 refine⟨fun p _=>(Z16 w p 0 R).imp fun h=>.inr h,?_⟩
 refine Ju.imp (fun {p q} hpq x hx y hy=>.inl ?_) (List.pairwise_lt_range (n:=w.length))
 rw[(Df.mp hx).1,(Df.mp hy).1]
 exact hpq
theorem Z2q (R:List Ru)(w:W):(JO R w).Nodup:=(Dd R w).imp fun {a b} h e=>by
 subst e
 unfold LtP at h
 lia
noncomputable def Gp (w:W):Nat→List Ru→List (Nat×Nat)
 |_,[]=>[]
 |k,r::R=>(allAt r.1 w 0).map (fun p=>(p,k))++Gp w (k+1) R
theorem Z1l {w:W}{x:Nat×Nat}:∀ {k:Nat} {R:List Ru},(∀ r∈R,r.1≠[])→(x∈Gp w k R↔k≤x.2∧∃ r,R[x.2-k]?=some r∧Y2 r.1 w x.1=true)
 |k,[],_=>by simp[Gp]
 |k,r::R,hR=>by
  unfold Gp
  rw[ZW,Z1l (k:=k+1) (R:=R) fun q hq=>hR q (Z4 _ hq),ZE]
  constructor
  ·rintro (⟨p,hp,e⟩|⟨h2,q,h3,h4⟩)
   ·subst e
    exact⟨Zc _,r,by simp,(Wn (hR r Z1)).mp hp⟩
   ·refine⟨by lia,q,?_,h4⟩
    rw[show x.2-k=(x.2-(k+1))+1 by lia,gs_]
    exact h3
  ·rintro⟨h2,q,h3,h4⟩
   by_cases e:x.2=k
   ·left
    rw[e,QJ,gz_] at h3
    cases h3
    exact⟨x.1,(Wn (hR r Z1)).mpr h4,Dw rfl e.symm⟩
   ·right
    obtain⟨j,hj⟩:∃ j,x.2-k=j+1:=⟨x.2-k-1,by lia⟩
    rw[hj,gs_] at h3
    refine⟨by lia,q,?_,h4⟩
    rw[show x.2-(k+1)=j by lia]
    exact h3
theorem Z4Y (l w:W):(allAt l w 0).Nodup:=by
 unfold allAt
 exact W5 _ List.nodup_range'
theorem Z0I {w:W}:∀ {k:Nat} {R:List Ru},(∀ r∈R,r.1≠[])→(Gp w k R).Nodup
 |k,[],_=>QM
 |k,r::R,hR=>by
  unfold Gp
  have hR':∀ q∈R,q.1≠[]:=fun q hq=>hR q (Z4 _ hq)
  refine Wa.mpr ⟨?_,Z0I hR',fun a ha b hb e=>?_⟩
  ·refine D7 _ (fun a b h e=>h ?_) (Z4Y r.1 w)
   exact congrArg Prod.fst e
  ·subst e
   obtain⟨p,-,rfl⟩:=ZE.mp ha
   have:=((Z1l hR').mp hb).1
   simp only at this
   exact absurd ‹_› (YG _)
theorem Z9Y {R:List Ru}{w:W}(hR:∀ r∈R,r.1≠[]):(JO R w).Perm (Gp w 0 R):=by
 refine Mn (Z2q R w) (Z0I hR) fun x=>?_
 rw[Gd hR,Z1l hR]
 unfold Z4Z
 simp
theorem Z40 {R:List Ru}{w:W}(hR:∀ r∈R,r.1≠[]):DG ((Gp w 0 R).map MS)=(JO R w).map MS:=by
 refine WF ((Z9Y hR).map _) (Ye.mpr ((Dd R w).imp fun {a b} h=>?_))
 refine .ii ?_
 unfold LtP at h
 lia
theorem Zha (l:List (Nat×Nat)):okT (l.map MS)=true:=by
 unfold okT
 have:(l.map MS).all (okK .ii)=true:=by
  rw[Do,UH]
  intro x _
  rfl
 rw[this]
 simp
theorem Z42 (w:W)(p:Nat):∀ (k:Nat) (R:List Ru),(UN w p k R).length≤R.length
 |k,[]=>Zc _
 |k,r::R=>by
  unfold UN
  have:=Z42 w p (k+1) R
  split <;> simp <;> omega
theorem WL (R:List Ru)(w:W):(JO R w).length≤w.length*R.length:=by
 unfold JO
 have:∀ l:List Nat,(l.flatMap fun p=>UN w p 0 R).length≤l.length*R.length:=by
  intro l
  induction l with
  |nil=>simp
  |cons p l ih =>
   rw[ZcD,Zf,Zl,Dy]
   have:=Z42 w p 0 R
   lia
 have h:=this (Jg w.length)
 rwa [Yv] at h
noncomputable def chW (r:Ru)(w:W)(p:Nat):W:=w.take p++r.2++w.drop (p+r.1.length)
noncomputable def NR (R:List Ru)(w:W):List W:=(JO R w).filterMap fun x=>(R[x.2]?).map fun r=>chW r w x.1
def ltW (a b:W):Prop:=a.length<b.length∨(a.length=b.length∧a<b)
theorem Z4q (u:W){a b:W}(h:a<b):u++a<u++b:=by
 induction u with
 |nil=>exact h
 |cons c u ih=>exact GM.mpr (.inr ⟨rfl,ih⟩)
theorem Z2H {a b:W}(v:W)(h:a<b)(hl:a.length=b.length):a++v<b++v:=by
 induction a generalizing b with
 |nil =>
  cases b with
  |nil=>exact absurd h (QN _)
  |cons _ _=>simp at hl
 |cons c a ih =>
  cases b with
  |nil=>simp at hl
  |cons d b =>
   rw[ZT,ZT]
   rcases GM.mp h with q|⟨e,q⟩
   ·exact GM.mpr (.inl q)
   ·exact GM.mpr (.inr ⟨e,ih q (by simpa using hl)⟩)
theorem Zf5 {l r:W}(u v:W)(h:ltW r l):ltW (u++r++v) (u++l++v):=by
 rcases h with h|⟨h1,h2⟩
 ·left
  simp only[Zf]
  lia
 ·right
  refine⟨by simp only[Zf];lia,?_⟩
  rw[Z8,Z8]
  exact Z4q u (Z2H v h2 h1)
theorem ZbX {R:List Ru}(hR:∀ r∈R,r.1≠[]∧ltW r.2 r.1){w:W}{x:Nat×Nat}{r:Ru}(h1:R[x.2]?=some r)(h2:Y2 r.1 w x.1=true):ltW (chW r w x.1) w:=by
 have hr:=hR r (ZZ h1)
 have hl:=U3 hr.1 h2
 have e:=Bf h2 (by lia)
 have z:=Zf5 (w.take x.1) (w.drop (x.1+r.1.length)) hr.2
 rw[← e] at z
 exact z
theorem DN {R:List Ru}(hR:∀ r∈R,r.1≠[]){w y:W}:y∈NR R w↔∃ (p:Nat) (r:Ru),r∈R∧Y2 r.1 w p=true∧y=chW r w p:=by
 unfold NR
 rw[Qm]
 constructor
 ·rintro⟨x,hx,e⟩
  obtain⟨r,h1,h2⟩:=(Gd hR).mp hx
  rw[h1] at e
  cases e
  exact⟨x.1,r,ZZ h1,h2,rfl⟩
 ·rintro⟨p,r,hr,h2,e⟩
  obtain⟨k,hk,e1⟩:=Uo hr
  have h1:R[k]?=some r:=by rw[Za hk,e1]
  refine⟨(p,k),(Gd hR).mpr ⟨r,h1,h2⟩,?_⟩
  show (R[k]?).map _=_
  rw[h1,e]
  rfl
end L2
namespace L2
open PySem
inductive Rch {α:Type} (nx:α→List α):α→α→Prop where
 |refl (x:α):Rch nx x x
 |step {x y z:α} (r:Rch nx x y) (h:z∈nx y):Rch nx x z
section
variable {α:Type}[DecidableEq α]{nx:α→List α}{U:List α}
theorem Rch.mem (hU:∀ x∈U,∀ y∈nx x,y∈U){x y:α}(r:Rch nx x y)(hx:x∈U):y∈U:=by
 induction r with
 |refl=>exact hx
 |step r h ih=>exact hU _ ih _ h
theorem Mc {α:Type}[DecidableEq α]:∀ {a U:List α},a.Nodup→(∀ x∈a,x∈U)→a.length≤U.length
 |[],_,_,_=>Jv _
 |x::a,U,hn,hs=>by
  obtain⟨h1,h2⟩:=GK.mp hn
  have hx:x∈U:=hs x Z1
  have ih:=Mc (U:=U.erase x) h2 fun y hy=>(Z7v (fun e=>h1 (by rw[← e];exact hy))).mpr (hs y (Z4 _ hy))
  have:=Z3U hx
  have:=WZ hx
  rw[Zl]
  lia
structure Zao (nx:α→List α)(s:α)(v w:List α):Prop where
 nd:v.Nodup
 vr:∀ x∈v,Rch nx s x
 wr:∀ x∈w,Rch nx s x
 cl:∀ x∈v,∀ y∈nx x,y∈v∨y∈w
 st:s∈v∨s∈w
theorem Zao.skip {s x:α}{v w:List α}(k:Zao nx s v (w++[x]))(h:x∈v):Zao nx s v w where
 nd:=k.nd
 vr:=k.vr
 wr:=fun y hy=>k.wr y (Js _ hy)
 cl:=fun y hy z hz=>by
  rcases k.cl y hy z hz with q|q
  ·exact .inl q
  ·rcases ZW.mp q with q|q
   ·exact .inr q
   ·rw[Jf] at q;subst q;exact .inl h
 st:=by
  rcases k.st with q|q
  ·exact .inl q
  ·rcases ZW.mp q with q|q
   ·exact .inr q
   ·rw[Jf] at q;subst q;exact .inl h
theorem Zao.all {s:α}{v:List α}(k:Zao nx s v []){x:α}:x∈v↔Rch nx s x:=by
 refine⟨k.vr x,fun r=>?_⟩
 induction r with
 |refl=>exact k.st.elim id fun z=>nomatch z
 |step _ h ih=>exact (k.cl _ ih _ h).elim id fun z=>nomatch z
structure CL (nx:α→List α)(s:α)(i:Nat)(v:List α):Prop where
 nd:v.Nodup
 le:i≤v.length
 vr:∀ x∈v,Rch nx s x
 cl:∀ x∈v.take i,∀ y∈nx x,y∈v
 st:s∈v
noncomputable def Z2C (v l:List α):List α:=l.filter fun y=>!decide (y∈v)
theorem CL.turn {s x:α}{i:Nat}{v:List α}(k:CL nx s i v)(hx:v[i]?=some x)(hn:(nx x).Nodup):CL nx s (i+1) (v++Z2C v (nx x)):=by
 have hi:i<v.length:=(Zq.mp hx).1
 have hm:x∈v:=ZZ hx
 have mem:∀ y,y∈nx x→y∈v++Z2C v (nx x):=fun y hy=>by
  by_cases q:y∈v
  ·exact Js _ q
  ·exact ZH _ (JW.mpr ⟨hy,by simpa using q⟩)
 refine⟨Wa.mpr ⟨k.nd,W5 _ hn,fun a ha b hb e=>?_⟩,by rw[Zf];lia,fun y hy=>?_,fun y hy z hz=>?_,Js _ k.st⟩
 ·subst e
  have:=(JW.mp hb).2
  simp[ha] at this
 ·rcases ZW.mp hy with q|q
  ·exact k.vr y q
  ·exact .step (k.vr x hm) (JW.mp q).1
 ·rw[Ym ‹_›,CK,hx] at hy
  rcases ZW.mp hy with q|q
  ·exact Js _ (k.cl y q z hz)
  ·have:y=x:=by simpa using q
   subst this
   exact mem z hz
theorem CL.all {s:α}{v:List α}(k:CL nx s v.length v){x:α}:x∈v↔Rch nx s x:=by
 refine⟨k.vr x,fun r=>?_⟩
 induction r with
 |refl=>exact k.st
 |step _ h ih=>exact k.cl _ (by rw[U5];exact ih) _ h
end
end L2
namespace L2
open PySem
noncomputable def ovW (l m:W)(p:Nat):W:=l.take p++m++l.drop (p+m.length)
def ClW (R:List Ru)(u:W):Prop:=∃ (i j:Nat) (a b:Ru) (p:Nat),R[i]?=some a∧R[j]?=some b∧(i=j→1≤p)∧p<a.1.length∧u=ovW a.1 b.1 p∧a.1 <+: u
def StW (R:List Ru)(w y:W):Prop:=∃ (p:Nat) (r:Ru),r∈R∧Y2 r.1 w p=true∧y=chW r w p
theorem Zg5 {R:List Ru}{w y:W}(u v:W)(hne:∀ r∈R,r.1≠[])(h:StW R w y):StW R (u++w++v) (u++y++v):=by
 obtain⟨p,r,hr,hs,rfl⟩:=h
 have hl:=U3 (hne r hr) hs
 have e:=Bf hs (by lia)
 refine⟨u.length+p,r,hr,?_,?_⟩
 ·rw[YT,Z8,No,Je (by simp),ZJ,JT,JA (by lia)]
  exact (YT.mp hs).trans (Gz _ _)
 ·unfold chW
  have l1:(u++w++v).take (u.length+p)=u++w.take p:=by
   rw[Z8,Zdz,JG (by lia),JT,Ym (by lia)]
  have l2:(u++w++v).drop (u.length+p+r.1.length)=w.drop (p+r.1.length)++v:=by
   rw[Z8,U1,No,Je (by simp),ZJ,JT,JA (by omega)]
  rw[l1,l2]
  simp only[Z8]
section
variable {R:List Ru}{nx:W→List W}
theorem Rch.trans {α:Type}{nx:α→List α}{x y z:α}(a:Rch nx x y)(b:Rch nx y z):Rch nx x z:=by
 induction b with
 |refl=>exact a
 |step _ h ih=>exact .step ih h
theorem Rch.head {α:Type}{nx:α→List α}{x z:α}(r:Rch nx x z):x=z∨∃ y,y∈nx x∧Rch nx y z:=by
 induction r with
 |refl=>exact .inl rfl
 |step r h ih =>
  rcases ih with e|⟨y,hy,q⟩
  ·subst e
   exact .inr ⟨_,h,.refl _⟩
  ·exact .inr ⟨y,hy,.step q h⟩
theorem Z17 (hne:∀ r∈R,r.1≠[])(hn:∀ w y,y∈nx w↔StW R w y){w y:W}(u v:W)(h:Rch nx w y):Rch nx (u++w++v) (u++y++v):=by
 induction h with
 |refl=>exact .refl _
 |step _ h ih=>exact .step ih ((hn _ _).mpr (Zg5 u v hne ((hn _ _).mp h)))
def Z7g (nx:W→List W)(w:W):Prop:=∀ a b,Rch nx w a→Rch nx w b→nx a=[]→nx b=[]→a=b
theorem Zhg {P:W→Prop}{μ:W→Nat}(hP:∀ w,P w→∀ y∈nx w,P y∧μ y<μ w)(hl:∀ w,P w→∀ y∈nx w,∀ z∈nx w,∃ e,Rch nx y e∧Rch nx z e):∀ w,P w→Z7g nx w:=by
 have pr:∀ {w y},Rch nx w y→P w→P y:=fun {w y} r=>by
  induction r with
  |refl=>exact id
  |step _ h ih=>exact fun p=>(hP _ (ih p) _ h).1
 have low:∀ n w,P w→μ w=n→∃ e,Rch nx w e∧nx e=[]:=by
  intro n
  induction n using Dz with
  |ind n ih =>
   intro w pw e
   cases h:nx w with
   |nil=>exact⟨w,.refl _,h⟩
   |cons y l =>
    have hy:y∈nx w:=by rw[h];exact Z1
    obtain⟨py,ly⟩:=hP w pw y hy
    obtain⟨e1,r1,r2⟩:=ih (μ y) (by lia) y py rfl
    exact⟨e1,Rch.trans (.step (.refl _) hy) r1,r2⟩
 have main:∀ n w,P w→μ w=n→Z7g nx w:=by
  intro n
  induction n using Dz with
  |ind n ih =>
   intro w pw e a b ra rb na nb
   rcases ra.head with q|⟨y,hy,qa⟩
   ·subst q
    rcases rb.head with q|⟨z,hz,-⟩
    ·exact q
    ·rw[na] at hz;cases hz
   ·rcases rb.head with q|⟨z,hz,qb⟩
    ·subst q
     rw[nb] at hy;cases hy
    ·obtain⟨py,ly⟩:=hP w pw y hy
     obtain⟨pz,lz⟩:=hP w pw z hz
     obtain⟨c,c1,c2⟩:=hl w pw y hy z hz
     obtain⟨n0,d1,d2⟩:=low _ c (pr c1 py) rfl
     have h1:=ih (μ y) (by lia) y py rfl a n0 qa (c1.trans d1) na d2
     have h2:=ih (μ z) (by lia) z pz rfl b n0 qb (c2.trans d1) nb d2
     rw[h1,h2]
 exact fun w pw=>main _ w pw rfl
theorem Z8p {a b x:W}(h1:a <+: x)(h2:b <+: x)(h:a.length≤b.length):a <+: b:=List.prefix_of_prefix_length_le h1 h2 h
theorem Zh1 {l m x:W}{p:Nat}(hp:p≤l.length)(h1:l <+: x)(h2:m <+: x.drop p):ovW l m p <+: x∧l <+: ovW l m p:=by
 obtain⟨t,rfl⟩:=h1
 have e1:(l++t).drop p=l.drop p++t:=by rw[JA hp]
 rw[e1] at h2
 unfold ovW
 by_cases hm:p+m.length≤l.length
 ·have h3:m <+: l.drop p:=Z8p h2 (Gz _ _) (by rw[ZS];lia)
  obtain⟨s,hs⟩:=h3
  have e2:l.drop (p+m.length)=s:=by rw[← JD,← hs,Ma]
  have e3:l.take p++m++l.drop (p+m.length)=l:=by rw[e2,Z8,hs,ZF]
  rw[e3]
  exact⟨Gz _ _,Z02 _⟩
 ·have e2:l.drop (p+m.length)=[]:=Je (by lia)
  rw[e2,Uq]
  constructor
  ·have:l++t=l.take p++(l.drop p++t):=by rw[← Z8,ZF]
   rw[this]
   exact (Z0S _).mpr h2
  ·have:l.drop p <+: m:=Z8p (Gz _ _) h2 (by rw[ZS];lia)
   calc l=l.take p++l.drop p:=(ZF _ _).symm
    _ <+: _:=(Z0S _).mpr this
theorem Z8J {l m:W}{p:Nat}(hp:p≤l.length):Y2 m (ovW l m p) p=true:=by
 rw[YT]
 unfold ovW
 rw[Z8,No,Je (by rw[ZC];lia),ZJ,ZC,Z1R hp,QJ,M9]
 exact Gz _ _
theorem Zdp {r:Ru}{w t:W}{p:Nat}(h:p+r.1.length≤w.length):chW r (w++t) p=chW r w p++t:=by
 unfold chW
 rw[Ym (by lia),JA h]
 simp only[Z8]
theorem Za1 {r:Ru}{u w:W}{p:Nat}:chW r (u++w) (u.length+p)=u++chW r w p:=by
 unfold chW
 rw[Zdz,JG (by lia),JT,U1,No,Je (by simp),ZJ,JT]
 simp only[Z8]
theorem Z4r (hne:∀ r∈R,r.1≠[])(hn:∀ w y,y∈nx w↔StW R w y)(hc:∀ u,ClW R u→∀ y∈nx u,∀ z∈nx u,∃ e,Rch nx y e∧Rch nx z e)(w:W):∀ y∈nx w,∀ z∈nx w,∃ e,Rch nx y e∧Rch nx z e:=by
 have half:∀ (p q:Nat) (a b:Ru),a∈R→b∈R→Y2 a.1 w p=true→Y2 b.1 w q=true→p≤q→∃ e,Rch nx (chW a w p) e∧Rch nx (chW b w q) e:=by
  intro p q a b ha hb sa sb hpq
  have la:=U3 (hne a ha) sa
  have lb:=U3 (hne b hb) sb
  obtain⟨u,x,rfl,rfl⟩:∃ u x,w=u++x∧u.length=p:=⟨w.take p,w.drop p,(ZF _ _).symm,by rw[ZC];lia⟩
  obtain⟨k,rfl⟩:∃ k,q=u.length+k:=⟨q-u.length,by lia⟩
  have pa:a.1 <+: x:=by
   have:=YT.mp sa
   rwa [Ma] at this
  have pb:b.1 <+: x.drop k:=by
   have:=YT.mp sb
   rwa [No,Je (by lia),ZJ,JT] at this
  have e0:chW a (u++x) u.length=u++chW a x 0:=Za1 (p:=0)
  rw[e0,Za1]
  by_cases hk:a.1.length≤k
  ·obtain⟨t,rfl⟩:=pa
   have hm:(a.1++t).drop k=t.drop (k-a.1.length):=by rw[No,Je hk,ZJ]
   rw[hm] at pb
   obtain⟨m,t',rfl,hml⟩:∃ m t',t=m++b.1++t'∧m.length=k-a.1.length:=by
    obtain⟨t',ht⟩:=pb
    refine⟨t.take (k-a.1.length),t',by rw[Z8,ht,ZF],?_⟩
    rw[ZC]
    rw[Zf,Zf] at lb
    lia
   have f1:chW a (a.1++(m++b.1++t')) 0=a.2++m++b.1++t':=by
    unfold chW
    rw[Ni,Jm,Ma]
    simp only[ZJ,Z8]
   have f2:chW b (a.1++(m++b.1++t')) k=a.1++m++b.2++t':=by
    have ek:k=(a.1++m).length+0:=by rw[Zf];lia
    have ew:a.1++(m++b.1++t')=(a.1++m)++(b.1++t'):=by simp only[Z8]
    rw[ek,ew,Za1]
    unfold chW
    rw[Ni,Jm,Ma]
    simp only[ZJ,Z8]
   have one:∀ (r:Ru) (x y:W),r∈R→Rch nx (x++r.1++y) (x++r.2++y):=fun r x y hr=>by
    refine Z17 hne hn x y (.step (.refl _) ((hn _ _).mpr ⟨0,r,hr,?_,?_⟩))
    ·rw[YT];exact Z02 _
    ·unfold chW
     rw[Ni,Jm,Mu]
     simp
   refine⟨u++a.2++m++b.2++t',?_,?_⟩
   ·rw[f1]
    have:=one b (u++a.2++m) t' hb
    simpa only [Z8] using this
   ·rw[f2]
    have:=one a u (m++b.2++t') ha
    simpa only [Z8] using this
  ·by_cases same:k=0∧a=b
   ·obtain⟨rfl,rfl⟩:=same
    exact⟨_,.refl _,.refl _⟩
   ·obtain⟨⟨t,ht⟩,pl⟩:=Zh1 (l:=a.1) (m:=b.1) (by lia) pa pb
    have so:=Z8J (l:=a.1) (m:=b.1) (p:=k) (by lia)
    obtain⟨i,hi,ei⟩:=Uo ha
    obtain⟨j,hj,ej⟩:=Uo hb
    have hcl:ClW R (ovW a.1 b.1 k):=by
     refine⟨i,j,a,b,k,by rw[Za hi,ei],by rw[Za hj,ej],fun e=>?_,by exact WY ‹_›,rfl,pl⟩
     subst e
     rw[ei] at ej
     rcases Nat.eq_zero_or_pos k with z|z
     ·exact absurd ⟨z,ej⟩ same
     ·exact z
    have s1:Y2 a.1 (ovW a.1 b.1 k) 0=true:=YT.mpr pl
    obtain⟨e,r1,r2⟩:=hc _ hcl _ ((hn _ _).mpr ⟨0,a,ha,s1,rfl⟩) _ ((hn _ _).mpr ⟨k,b,hb,so,rfl⟩)
    have l1:=U3 (hne a ha) s1
    have l2:=U3 (hne b hb) so
    refine⟨u++e++t,?_,?_⟩
    ·rw[← ht,Zdp l1,← Z8]
     exact Z17 hne hn u t r1
    ·rw[← ht,Zdp l2,← Z8]
     exact Z17 hne hn u t r2
 intro y hy z hz
 obtain⟨p,a,ha,sa,rfl⟩:=(hn _ _).mp hy
 obtain⟨q,b,hb,sb,rfl⟩:=(hn _ _).mp hz
 rcases Nat.le_total p q with h|h
 ·exact half p q a b ha hb sa sb h
 ·obtain⟨e,r1,r2⟩:=half q p b a hb ha sb sa h
  exact⟨e,r2,r1⟩
end
end L2
namespace L2
open PySem
noncomputable def Z7o (l m:W)(st:Nat):List W:=((Um st (l.length-st)).map (ovW l m)).filter fun u=>l.isPrefixOf u
theorem Z9a {l m u:W}{st:Nat}:u∈Z7o l m st↔∃ p,st≤p∧p<l.length∧u=ovW l m p∧l <+: u:=by
 unfold Z7o
 rw[JW,ZE]
 constructor
 ·rintro⟨⟨p,hp,e⟩,h⟩
  obtain⟨h1,h2⟩:=M0.mp hp
  exact⟨p,h1,by omega,e.symm,UD.mp h⟩
 ·rintro⟨p,h1,h2,e,h⟩
  exact⟨⟨p,M0.mpr ⟨h1,by lia⟩,e.symm⟩,UD.mpr h⟩
theorem Z8I (l m:W)(st:Nat):(Z7o l m st).length≤l.length:=by
 unfold Z7o
 exact Zz (GL _ _) (by rw[Z3,Fq];exact CU _ _)
noncomputable def Dj (a:Ru)(i:Nat):Nat→List Ru→List W
 |_,[]=>[]
 |j,b::R=>Z7o a.1 b.1 (if i=j then 1 else 0)++Dj a i (j+1) R
noncomputable def MU (R0:List Ru):Nat→List Ru→List W
 |_,[]=>[]
 |i,a::R=>Dj a i 0 R0++MU R0 (i+1) R
theorem Cc {a:Ru}{i:Nat}{u:W}:∀ {j:Nat} {R:List Ru},u∈Dj a i j R↔∃ k b,R[k]?=some b∧u∈Z7o a.1 b.1 (if i=j+k then 1 else 0)
 |j,[]=>by simp[Dj]
 |j,b::R=>by
  unfold Dj
  rw[ZW,Cc]
  constructor
  ·rintro (h|⟨k,c,h1,h2⟩)
   ·exact⟨0,b,rfl,h⟩
   ·refine⟨k+1,c,h1,?_⟩
    rw[show j+(k+1)=j+1+k by lia]
    exact h2
  ·rintro⟨k,c,h1,h2⟩
   cases k with
   |zero=>cases h1;exact .inl h2
   |succ k =>
    refine .inr ⟨k,c,h1,?_⟩
    rw[show j+1+k=j+(k+1) by lia]
    exact h2
theorem Z2G {R0:List Ru}{u:W}:∀ {i:Nat} {R:List Ru},u∈MU R0 i R↔∃ k a,R[k]?=some a∧u∈Dj a (i+k) 0 R0
 |i,[]=>by simp[MU]
 |i,b::R=>by
  unfold MU
  rw[ZW,Z2G]
  constructor
  ·rintro (h|⟨k,c,h1,h2⟩)
   ·exact⟨0,b,rfl,h⟩
   ·refine⟨k+1,c,h1,?_⟩
    rw[show i+(k+1)=i+1+k by lia]
    exact h2
  ·rintro⟨k,c,h1,h2⟩
   cases k with
   |zero=>cases h1;exact .inl h2
   |succ k =>
    refine .inr ⟨k,c,h1,?_⟩
    rw[show i+1+k=i+(k+1) by lia]
    exact h2
theorem Zhi {R:List Ru}{u:W}:u∈MU R 0 R↔ClW R u:=by
 rw[Z2G]
 constructor
 ·rintro⟨i,a,h1,h2⟩
  rw[Cc] at h2
  obtain⟨j,b,h3,h4⟩:=h2
  obtain⟨p,q1,q2,q3,q4⟩:=Z9a.mp h4
  refine⟨i,j,a,b,p,h1,h3,fun e=>?_,q2,q3,q4⟩
  rw[if_pos (by lia)] at q1
  exact q1
 ·rintro⟨i,j,a,b,p,h1,h3,h,q2,q3,q4⟩
  refine⟨i,a,h1,Cc.mpr ⟨j,b,h3,Z9a.mpr ⟨p,?_,q2,q3,q4⟩⟩⟩
  split
  ·rename_i e;exact h (by lia)
  ·exact Jv _
theorem Cz {a:Ru}{i n:Nat}(ha:a.1.length≤n):∀ {j:Nat} {R:List Ru},(Dj a i j R).length≤R.length*n
 |_,[]=>by simp[Dj]
 |j,b::R=>by
  unfold Dj
  have h1:=Z8I a.1 b.1 (if i=j then 1 else 0)
  have h2:=Cz (i:=i) ha (j:=j+1) (R:=R)
  rw[Zf,Zl,Dy]
  lia
theorem Z3j {R0:List Ru}{n:Nat}:∀ {i:Nat} {R:List Ru},(∀ a∈R,a.1.length≤n)→(MU R0 i R).length≤R.length*(R0.length*n)
 |_,[],_=>by simp[MU]
 |i,b::R,h=>by
  unfold MU
  have h1:=Cz (i:=i) (h b Z1) (j:=0) (R:=R0)
  have h2:=Z3j (R0:=R0) (i:=i+1) fun a ha=>h a (Z4 _ ha)
  rw[Zf,Zl,Dy]
  lia
theorem Zft {R:List Ru}{u:W}{P:Nat→Prop}{n:Nat}(hP:∀ r∈R,∀ c∈r.1,P c)(hn:∀ r∈R,r.1.length≤n)(h:ClW R u):u.length+1≤2*n∧∀ c∈u,P c:=by
 obtain⟨i,j,a,b,p,h1,h2,-,h3,rfl,-⟩:=h
 have ha:=ZZ h1
 have hb:=ZZ h2
 have la:=hn a ha
 have lb:=hn b hb
 unfold ovW
 constructor
 ·simp only[Zf,ZC,ZS]
  lia
 ·intro c hc
  rcases ZW.mp hc with hc|hc
  ·rcases ZW.mp hc with hc|hc
   ·exact hP a ha c (Ub hc)
   ·exact hP b hb c hc
  ·exact hP a ha c (JZ hc)
theorem ZcL {α:Type}{l:List α}(h:l.Nodup)(h2:1<l.length):∃ a b,a∈l∧b∈l∧a≠b:=by
 match l,h,h2 with
 |a::b::r,h,_=>exact⟨a,b,by simp,by simp,fun e=>(GK.mp h).1 (by rw[e];simp)⟩
 |[_],_,h2=>exact absurd h2 (by simp)
 |[],_,h2=>exact absurd h2 (by simp)
theorem ZdH {α:Type}{l:List α}{a b:α}(ha:a∈l)(hb:b∈l)(h:a≠b):1<l.length:=by
 match l,ha,hb with
 |_::_::_,_,_=>simp
 |[x],ha,hb =>
  rw[Jf] at ha hb
  exact absurd (ha.trans hb.symm) h
 |[],ha,_=>cases ha
end L2
namespace L2
open PySem
theorem Z2O (a b:Str):leS a b∨leS b a:=List.le_total _ _
open Classical in
theorem YU (l:Ls_):(Ng l).Perm l∧(Ng l).Pairwise leS:=by
 have h1:=Bx l (fun a b=>decide (leS a b))
 have h2:=Z53 (le:=fun a b=>decide (leS a b)) (fun a b c h h'=>by simp only[decide_eq_true_eq] at *;exact Z2N h h') (fun a b=>by simp only[G9,decide_eq_true_eq];exact Z2O a b) l
 have h3:=h2.imp (fun {a b} h=>of_decide_eq_true h)
 rw[Fu h1 h3]
 exact⟨h1,h3⟩
theorem FY {a b:Ls_}(h:a.Perm b):Ng a=Ng b:=Fu ((YU b).1.trans h.symm) (YU b).2
theorem Z7U (l:Ls_):DG (l.map Th.str)=(Ng l).map Th.str:=WF ((YU l).1.map _) (Ye.mpr ((YU l).2.imp fun h=>.s h))
theorem ZeU (l:Ls_):okT (l.map Th.str)=true:=by
 have:(l.map Th.str).all (okK .s)=true:=UH.mpr fun t ht=>by
  obtain⟨x,-,rfl⟩:=ZE.mp ht
  rfl
 unfold okT
 rw[this];rfl
theorem Z9b (l:List W):l.map tS=(l.map sL).map Th.str:=by rw[Jh];rfl
def ZhO (w:W):Prop:=∀ c∈w,c=97∨c=98∨c=99
noncomputable def DC:Nat→List W
 |0=>[[]]
 |n+1=>(DC n).flatMap fun w=>[97::w,98::w,99::w]
theorem WM:∀ {n:Nat} {w:W},w∈DC n↔w.length=n∧ZhO w
 |0,w=>by
  show w∈[[]]↔_
  rw[Jf]
  constructor
  ·rintro rfl
   exact⟨rfl,fun c h=>nomatch h⟩
  ·rintro⟨h,-⟩
   exact Z54.mp h
 |n+1,w=>by
  show w∈(DC n).flatMap _↔_
  rw[Z03]
  constructor
  ·rintro⟨v,hv,hw⟩
   obtain⟨h1,h2⟩:=WM.mp hv
   simp only[Zp,WR,or_false] at hw
   rcases hw with rfl|rfl|rfl
   ·exact⟨by rw[Zl,h1],fun c hc=>(Zp.mp hc).elim (fun z=>.inl z) (h2 c)⟩
   ·exact⟨by rw[Zl,h1],fun c hc=>(Zp.mp hc).elim (fun z=>.inr (.inl z)) (h2 c)⟩
   ·exact⟨by rw[Zl,h1],fun c hc=>(Zp.mp hc).elim (fun z=>.inr (.inr z)) (h2 c)⟩
  ·rintro⟨h1,h2⟩
   cases w with
   |nil=>cases h1
   |cons c v =>
    refine⟨v,WM.mpr ⟨by simpa using h1,fun d hd=>h2 d (Z4 _ hd)⟩,?_⟩
    rcases h2 c Z1 with rfl|rfl|rfl <;> simp
theorem Z0a:∀ n:Nat,(DC n).length=3 ^ n
 |0=>rfl
 |n+1=>by
  show ((DC n).flatMap _).length=_
  rw[Zak]
  have:((DC n).map fun w:W=>[97::w,98::w,99::w].length)=(DC n).map fun _=>3:=rfl
  rw[this,List.map_const',List.sum_replicate_nat,Z0a n,QK]
noncomputable def W8:List W:=(Jg 12).flatMap DC
theorem G6 {w:W}:w∈W8↔w.length≤11∧ZhO w:=by
 unfold W8
 rw[Z03]
 constructor
 ·rintro⟨n,hn,hw⟩
  obtain⟨h1,h2⟩:=WM.mp hw
  have:=Gs.mp hn
  exact⟨by lia,h2⟩
 ·rintro⟨h1,h2⟩
  exact⟨w.length,Gs.mpr (by lia),WM.mpr ⟨rfl,h2⟩⟩
theorem Z6f:W8.length=265720:=by
 unfold W8
 rw[Zak]
 have:(Jg 12).map (fun n=>(DC n).length)=(Jg 12).map fun n=>3 ^ n:=Yq fun n _=>Z0a n
 rw[this]
 rfl
noncomputable def val:W→Nat
 |[]=>0
 |c::w=>(c+1)*128 ^ w.length+val w
theorem Be:∀ {w:W},(∀ c∈w,c≤126)→val w<128 ^ w.length
 |[],_=>by decide
 |c::w,h=>by
  have ih:=Be (w:=w) fun d hd=>h d (Z4 _ hd)
  have hc:=h c Z1
  show (c+1)*128 ^ w.length+val w<128 ^ (w.length+1)
  have:(c+1)*128 ^ w.length≤127*128 ^ w.length:=ME _ (by lia)
  rw[QK]
  lia
theorem ZfW:∀ {a b:W},ltW a b→(∀ c∈a,c≤126)→val a<val b:=by
 have eqlen:∀ {a b:W},a.length=b.length→a<b→(∀ c∈a,c≤126)→val a<val b:=by
  intro a
  induction a with
  |nil =>
   intro b hl h _
   cases b with
   |nil=>exact absurd h (QN _)
   |cons=>cases hl
  |cons c a ih =>
   intro b hl h hc
   cases b with
   |nil=>cases hl
   |cons d b =>
    have hl':a.length=b.length:=by simpa using hl
    have hp:=Be (w:=a) fun x hx=>hc x (Z4 _ hx)
    show (c+1)*128 ^ a.length+val a<(d+1)*128 ^ b.length+val b
    rw[← hl']
    rcases GM.mp h with q|⟨rfl,q⟩
    ·have:(c+1+1)*128 ^ a.length≤(d+1)*128 ^ a.length:=ME _ (by lia)
     rw[Nat.add_mul (c+1) 1,Nat.one_mul] at this
     lia
    ·have:=ih hl' q fun x hx=>hc x (Z4 _ hx)
     lia
 intro a b h hc
 rcases h with h|⟨h1,h2⟩
 ·cases b with
  |nil=>exact absurd h (U2 _)
  |cons d b =>
   have hp:=Be hc
   have h':a.length≤b.length:=by rw[Zl] at h;lia
   have:128 ^ a.length≤128 ^ b.length:=Zah (by decide) h'
   show val a<(d+1)*128 ^ b.length+val b
   have:1*128 ^ b.length≤(d+1)*128 ^ b.length:=ME _ (by simp)
   lia
 ·exact eqlen h1 h2 hc
noncomputable def M8 (R:List Ru)(w:W):Option W:=(JO R w).head?.bind fun x=>(R[x.2]?).map fun r=>chW r w x.1
theorem Z71 {R:List Ru}(hR:∀ r∈R,r.1≠[]){w y:W}(h:M8 R w=some y):y∈NR R w:=by
 unfold M8 at h
 unfold NR
 cases hp:JO R w with
 |nil=>rw[hp] at h;cases h
 |cons x l =>
  rw[hp] at h
  exact Qm.mpr ⟨x,Z1,h⟩
theorem Z72 {R:List Ru}(hR:∀ r∈R,r.1≠[]){w:W}(h:M8 R w=none):JO R w=[]:=by
 unfold M8 at h
 cases hp:JO R w with
 |nil=>rfl
 |cons x l =>
  obtain⟨r,hr,-⟩:=(Gd hR).mp (show x∈JO R w by rw[hp];exact Z1)
  rw[hp] at h
  change ((R[x.2]?).map fun r=>chW r w x.1)=none at h
  rw[hr] at h
  cases h
end L2
namespace L2
open PySem
noncomputable def WW (w:W):Nat→List Ru→List (Nat×Nat)
 |_,[]=>[]
 |k,r::R=>match YB r.1 w 0 with
  |some p=>(p,k)::WW w (k+1) R
  |none=>WW w (k+1) R
theorem Z5E {w:W}{x:Nat×Nat}:∀ {k:Nat} {R:List Ru},x∈WW w k R↔k≤x.2∧∃ r,R[x.2-k]?=some r∧YB r.1 w 0=some x.1
 |k,[]=>by simp[WW]
 |k,r::R=>by
  have ih:=Z5E (w:=w) (x:=x) (k:=k+1) (R:=R)
  have key:(k≤x.2∧∃ q,(r::R)[x.2-k]?=some q∧YB q.1 w 0=some x.1)↔(x.2=k∧YB r.1 w 0=some x.1)∨(k+1≤x.2∧∃ q,R[x.2-(k+1)]?=some q∧YB q.1 w 0=some x.1):=by
   constructor
   ·rintro⟨h1,q,h2,h3⟩
    by_cases e:x.2=k
    ·rw[e,QJ] at h2
     cases h2
     exact .inl ⟨e,h3⟩
    ·refine .inr ⟨by lia,q,?_,h3⟩
     rw[show x.2-k=(x.2-(k+1))+1 by omega] at h2
     exact h2
   ·rintro (⟨e,h⟩|⟨h1,q,h2,h3⟩)
    ·exact⟨by lia,r,by rw[e,QJ];rfl,h⟩
    ·refine⟨by lia,q,?_,h3⟩
     rw[show x.2-k=(x.2-(k+1))+1 by omega]
     exact h2
  rw[key,← ih]
  rw[show WW w k (r::R)=(match YB r.1 w 0 with|some p=>(p,k)::WW w (k+1) R|none=>WW w (k+1) R) from rfl]
  cases hf:YB r.1 w 0 with
  |none =>
   constructor
   ·exact .inr
   ·rintro (⟨-,h⟩|h)
    ·cases h
    ·exact h
  |some p =>
   rw[Zp]
   constructor
   ·rintro (h|h)
    ·rw[h];exact .inl ⟨rfl,rfl⟩
    ·exact .inr h
   ·rintro (⟨e,h⟩|h)
    ·cases h
     exact .inl (Dw rfl e)
    ·exact .inr h
theorem Wo {l w:W}(hl:l≠[]){p:Nat}(h:YB l w 0=some p):Y2 l w p=true∧∀ i,Y2 l w i=true→p≤i:=by
 obtain⟨-,-,e⟩:=CG h
 constructor
 ·exact (Wn hl).mp (by rw[e];exact Z1)
 ·intro i hi
  have hm:=(Wn hl).mpr hi
  rw[e] at hm
  rcases Zp.mp hm with z|z
  ·lia
  ·unfold allAt at z
   have:=(M0.mp (JW.mp z).1).1
   exact Gg ‹_›
theorem Z37 {l w:W}(hl:l≠[]){i:Nat}(h:Y2 l w i=true):∃ p,YB l w 0=some p:=by
 cases e:YB l w 0 with
 |some p=>exact⟨p,rfl⟩
 |none =>
  have:=(Wn hl).mpr h
  rw[Z0O e] at this
  cases this
noncomputable instance (a b:Nat×Nat):Decidable (LtP a b):=by unfold LtP;infer_instance
noncomputable def Zaq (b:Nat×Nat):List (Nat×Nat)→Nat×Nat
 |[]=>b
 |t::r=>if LtP t b then Zaq t r else Zaq b r
theorem LtP.trans {a b c:Nat×Nat}(h:LtP a b)(h':LtP b c):LtP a c:=by unfold LtP at *;lia
theorem LtP.irr {a:Nat×Nat}:¬ LtP a a:=by unfold LtP;omega
theorem LtP.neg {a b c:Nat×Nat}(h:¬ LtP a b)(h':¬ LtP b c):¬ LtP a c:=by unfold LtP at *;omega
theorem Z1j:∀ (l:List (Nat×Nat)) (b:Nat×Nat),Zaq b l∈b::l∧∀ y∈b::l,¬ LtP y (Zaq b l)
 |[],b=>⟨Z1,fun y h=>by rw[Jf.mp h];exact LtP.irr⟩
 |t::r,b=>by
  unfold Zaq
  by_cases h:LtP t b
  ·rw[if_pos h]
   obtain⟨h1,h2⟩:=Z1j r t
   refine⟨Z4 _ h1,fun y hy=>?_⟩
   rcases Zp.mp hy with rfl|hy
   ·intro z
    exact h2 t Z1 (h.trans z)
   ·exact h2 y hy
  ·rw[if_neg h]
   obtain⟨h1,h2⟩:=Z1j r b
   refine⟨?_,fun y hy=>?_⟩
   ·rcases Zp.mp h1 with q|q
    ·rw[q];exact Z1
    ·exact Z4 _ (Z4 _ q)
   ·rcases Zp.mp hy with rfl|hy
    ·exact h2 _ Z1
    ·rcases Zp.mp hy with rfl|hy
     ·exact LtP.neg h (h2 b Z1)
     ·exact h2 y (Z4 _ hy)
theorem ZiS (a b:Nat×Nat):oLt (MS a) (MS b)=some (.bl (decide (LtP a b))):=by
 show (HT.lexK [.inl (a.1:Int),.inl (a.2:Int)] [.inl (b.1:Int),.inl (b.2:Int)]).map Th.bl=_
 unfold HT.lexK HT.lexK HT.lexK
 have e:∀ z:Bool,(z=true↔LtP a b)→(some z).map Th.bl=some (.bl (decide (LtP a b))):=fun z hz=>by
  by_cases q:LtP a b
  ·rw[decide_eq_true q,hz.mpr q];rfl
  ·rw[decide_eq_false q]
   cases z with
   |false=>rfl
   |true=>exact absurd (hz.mp rfl) q
 by_cases h1:(a.1:Int)=(b.1:Int)
 ·rw[if_pos h1]
  by_cases h2:(a.2:Int)=(b.2:Int)
  ·rw[if_pos h2]
   exact e false (by unfold LtP;simp;lia)
  ·rw[if_neg h2]
   exact e _ (by unfold LtP;simp;lia)
 ·rw[if_neg h1]
  exact e _ (by unfold LtP;simp;lia)
theorem Z4o:∀ (l:List (Nat×Nat)) (b:Nat×Nat),Zdf (MS b) (l.map MS)=some (MS (Zaq b l))
 |[],b=>rfl
 |t::r,b=>by
  rw[Zt,Zdf,ZiS]
  unfold Zaq
  by_cases h:LtP t b
  ·rw[decide_eq_true h,if_pos h];exact Z4o r t
  ·rw[decide_eq_false h,if_neg h];exact Z4o r b
theorem Z9F {R:List Ru}(hR:∀ r∈R,r.1≠[])(w:W):Z2E .non ((WW w 0 R).map MS)=some (match (JO R w).head? with|some x=>MS x|none=>.non):=by
 have mc:∀ {x:Nat×Nat},x∈WW w 0 R↔∃ r,R[x.2]?=some r∧YB r.1 w 0=some x.1:=fun {x}=>by
  rw[Z5E,Z01]
  exact⟨fun h=>h.2,fun h=>⟨Jv _,h⟩⟩
 have st:∀ {x:Nat×Nat},x∈WW w 0 R→x∈JO R w:=fun {x} hx=>by
  obtain⟨r,h1,h2⟩:=mc.mp hx
  exact (Gd hR).mpr ⟨r,h1,(Wo (hR r (ZZ h1)) h2).1⟩
 have ca:∀ {x:Nat×Nat},x∈JO R w→∃ y∈WW w 0 R,y.2=x.2∧y.1≤x.1:=fun {x} hx=>by
  obtain⟨r,h1,h2⟩:=(Gd hR).mp hx
  have hr:=hR r (ZZ h1)
  obtain⟨p,hp⟩:=Z37 hr h2
  exact⟨(p,x.2),mc.mpr ⟨r,h1,hp⟩,rfl,(Wo hr hp).2 _ h2⟩
 have rise:=Dd R w
 cases hc:WW w 0 R with
 |nil =>
  cases hp:JO R w with
  |nil=>rfl
  |cons x l =>
   obtain⟨y,hy,-⟩:=ca (show x∈JO R w by rw[hp];exact Z1)
   rw[hc] at hy
   cases hy
 |cons b l =>
  rw[Zt]
  show Zdf (MS b) (l.map MS)=_
  rw[Z4o]
  obtain⟨m1,m2⟩:=Z1j l b
  rw[← hc] at m1 m2
  cases hp:JO R w with
  |nil =>
   have:=st m1
   rw[hp] at this
   cases this
  |cons x t =>
   have hx:x∈JO R w:=by rw[hp];exact Z1
   have e:Zaq b l=x:=by
    have hm:=st m1
    rw[hp] at hm
    rcases Zp.mp hm with q|q
    ·exact q
    ·rw[hp] at rise
     have lt:LtP x (Zaq b l):=(YE.mp rise).1 _ q
     obtain⟨y,hy,y2,y1⟩:=ca hx
     exact absurd (show LtP y (Zaq b l) by unfold LtP at *;lia) (m2 y hy)
   rw[e]
   rfl
inductive Z55 (R:List Ru):W→W→Prop where
 |stop {w:W} (h:M8 R w=none):Z55 R w w
 |go {w y z:W} (h:M8 R w=some y) (r:Z55 R y z):Z55 R w z
theorem Z55.det {R:List Ru}{w y z:W}(h:Z55 R w y)(h':Z55 R w z):y=z:=by
 induction h with
 |stop e=>cases h' with
  |stop=>rfl
  |go e'=>rw[e] at e';cases e'
 |go e _ ih=>cases h' with
  |stop e'=>rw[e] at e';cases e'
  |go e' r'=>rw[e] at e';cases e';exact ih r'
end L2
namespace K41
open PySem PySem.Spec PyProof.Rows L2
noncomputable section
noncomputable def Z3B:FS:=(Uv (YJ 2 (f2 Mo (f2 UQ (f2 Ys (f2 Ys (Zb 0) (f2 UQ (fC (.int 104729)) (Zb 1))) (fC (.int 17))) (fC (.int 69621))) (fC (.int 2147483647))))
 (Ga (f2 Mo (f2 Ys (f2 Ys (f2 UQ (Zb 2) (Zb 2)) (f2 UQ (fC (.int 3)) (Zb 2))) (Zb 1)) (fC (.int 2147483629)))))
noncomputable def Jk:Lt_→Option Th:=Qi 2 3 Z3B
noncomputable def Z69:FS:=(Uv (Z3P 2 (Zcf (fC (.lst [(.tup [(.str ("ba":Str)),(.str ("ab":Str))]),(.tup [(.str ("ca":Str)),(.str ("ac":Str))]),(.tup [(.str ("cb":Str)),(.str ("bc":Str))])])) Yc (UV (f2 ZfJ (f2 UQ (fC (.int 2)) (fCB MT (Z6 (Zb 1) J2))) (fC (.int 3))))))
 (Uv (fIf (J7 (f2 oEq (f2 Mo (Zb 0) (fC (.int 2))) (fC (.int 1)))) (Z3P 2 (Zcf (Zb 2) Yc (UV (f2 Mo (f2 Ds (Zb 0) (fC (.int 2))) (fC (.int 2)))))) Yt)
 (Uv (Z0C (W7 (ZQ 1)) (NX 3 4) (Uv (YJ 5 (ZV Jk (Z6 (ZQ 0) (Z6 (ZQ 3) J2))))
 (fIf (J7 (f2 oGt (f2 Mo (Zb 5) (fC (.int 3))) (fC (.int 0)))) (UR 2 (W6 (Z6 (f2 UQ (Zb 4) (f2 Ys (fC (.int 2)) (f2 Mo (f2 Ds (Zb 5) (fC (.int 3))) (fC (.int 2))))) (Z6 (f2 UQ (Zb 4) (f2 Mo (f2 Ds (Zb 5) (fC (.int 6))) (fC (.int 2)))) J2)))) Yt)))
 (Ga (Zb 2)))))
noncomputable def Qd:Lt_→Option Th:=Qi 2 6 Z69
noncomputable def Z68:FS:=(Uv (YJ 3 (fC (.str ("":Str))))
 (Uv (Z0C (Gy (f2 Mo (Zb 0) (f2 Ys (Zb 2) (fC (.int 1))))) (Z1x 4) (YJ 3 (f2 Ys (Zb 3) (f2 oIx (Zb 1) (f2 Mo (f2 Ds (ZV Jk (Z6 (ZQ 0) (Z6 (ZQ 4) J2))) (fC (.int 8))) (fCB MT (Z6 (Zb 1) J2)))))))
 (Ga (Zb 3))))
noncomputable def YV:Lt_→Option Th:=Qi 3 5 Z68
noncomputable def Z6c:FS:=(Ga (f2 oLt (W6 (Z6 (fCB MT (Z6 (Zb 0) J2)) (Z6 (ZQ 0) J2))) (W6 (Z6 (fCB MT (Z6 (Zb 1) J2)) (Z6 (ZQ 1) J2)))))
noncomputable def Mh:Lt_→Option Th:=Qi 2 2 Z6c
noncomputable def Z6a:FS:=(Uv (YJ 2 (f2 Ys (ZV YV (Z6 (f2 Ys (f2 Ys (f2 UQ (fC (.int 3)) (f2 Ds (Zb 0) (fC (.int 4)))) (fC (.int 1))) (f2 Mo (Zb 0) (fC (.int 3)))) (Z6 (ZQ 1) (Z6 (fC (.int 2)) J2)))) (f2 oIx (Zb 1) (f2 Mo (f2 Ds (Zb 0) (fC (.int 12))) (fCB MT (Z6 (Zb 1) J2))))))
 (Uv (fIf (J7 (f2 oEq (f2 Mo (f2 Ds (Zb 0) (fC (.int 48))) (fC (.int 6))) (fC (.int 1)))) (YJ 2 (fSl (f2 UQ (Zb 2) (fC (.int 4))) Yc (UV (fC (.int 4))))) Yt)
 (Uv (YJ 3 (ZV YV (Z6 (ZV Jk (Z6 (ZQ 0) (Z6 (fC (.int 50)) J2))) (Z6 (ZQ 1) (Z6 (fCB MT (Z6 (Zb 2) J2)) J2)))))
 (Uv (fIf (Z1y (J7 (ZV Mh (Z6 (ZQ 3) (Z6 (ZQ 2) J2))))) (YJ 3 (fSl (Zb 3) (UV (fC (.int 1))) (UV (fCB MT (Z6 (Zb 2) J2))))) Yt)
 (Ga (W6 (Z6 (ZQ 2) (Z6 (ZQ 3) J2))))))))
noncomputable def GC:Lt_→Option Th:=Qi 2 4 Z6a
noncomputable def Z3y:FS:=(Uv (YJ 1 (f2 oIx (fC (.tup [(.str ("ab":Str)),(.str ("abc":Str))])) (f2 Mo (f2 Ds (Zb 0) (fC (.int 4))) (fC (.int 2)))))
 (Uv (YJ 2 (ZV Qd (Z6 (f2 Ds (Zb 0) (fC (.int 8))) (Z6 (ZQ 1) J2))))
 (Uv (fIf (J7 (f2 oGt (f2 Mo (Zb 0) (fC (.int 4))) (fC (.int 1)))) (YJ 2 (G2 (Ua g1 (Gy (f2 Mo (f2 Ds (Zb 0) (fC (.int 8))) (fC (.int 5)))) GJ (ZV GC (Z6 (ZV Jk (Z6 (ZQ 1) (Z6 (f2 Ys (fC (.int 9)) (Zb 0)) J2))) (Z6 (ZQ 2) J2)))))) (fIf (J7 (f2 oEq (f2 Mo (Zb 0) (fC (.int 4))) (fC (.int 1)))) (YJ 2 (f2 Ys (Zb 2) (G2 (Wq (Z6 (ZV GC (Z6 (ZV Jk (Z6 (ZQ 0) (Z6 (fC (.int 9)) J2))) (Z6 (ZQ 1) J2))) J2))))) Yt))
 (Uv (YJ 3 (f2 Mo (f2 Ds (Zb 0) (fC (.int 640))) (fC (.int 5))))
 (Ga (fCB Nu (Z6 (f2 Ys (fSl (Zb 2) (UV (ZQ 3)) Yc) (fSl (Zb 2) Yc (UV (ZQ 3)))) J2)))))))
noncomputable def NK:Lt_→Option Th:=Qi 1 4 Z3y
noncomputable def Wu:FS:=(Ga (fCB (ZbK true) (Z6 (G2 (Ua g1 (YW (ZQ 1)) GJ (Zci (f2 oNe (f2 oIx (Zb 0) (fC (.int 0))) (Zb 1)) (f2 (oIn false) (f2 oIx (Zb 0) (fC (.int 0))) (Zb 1))))) J2)))
noncomputable def YI:Lt_→Option Th:=Qi 2 2 Wu
noncomputable def CB:FS:=(Ga (f2 Ys (f2 Ys (fSl (Zb 1) Yc (UV (ZQ 2))) (f2 oIx (Zb 0) (fC (.int 1)))) (fSl (Zb 1) (UV (f2 Ys (Zb 2) (fCB MT (Z6 (f2 oIx (Zb 0) (fC (.int 0))) J2)))) Yc)))
noncomputable def YK:Lt_→Option Th:=Qi 3 3 CB
noncomputable def Fb:FS:=(Uv (YJ 2 (G2 (Ua g2 (W7 (ZQ 0)) GJ (W6 (Z6 (fM1 (fun z y=>some (.int (MP z y))) (Zb 3) (f2 oIx (Zb 1) (fC (.int 0)))) (Z6 (ZQ 0) J2))))))
 (Uv (YJ 3 (Z9M (Z6 (G2 (Ua g1 (YW (ZQ 2)) (J7 (f2 oGe (f2 oIx (Zb 0) (fC (.int 0))) (fC (.int 0)))) (ZQ 0))) J2) (fC .non)))
 (Ga (fIf (J7 (f2 (Z4k false) (Zb 3) (fC .non))) (fC .non) (ZV YK (Z6 (f2 oIx (Zb 0) (f2 oIx (Zb 3) (fC (.int 1)))) (Z6 (ZQ 1) (Z6 (f2 oIx (Zb 3) (fC (.int 0))) J2))))))))
noncomputable def UB:Lt_→Option Th:=Qi 2 4 Fb
def ZhH:FS:=(Uv (YJ 2 (ZV UB (Z6 (ZQ 0) (Z6 (ZQ 1) J2))))
 (Uv (DT (J7 (f2 (Z4k true) (Zb 2) (fC .non))) (Uv (YJ 1 (ZQ 2))
 (YJ 2 (ZV UB (Z6 (ZQ 0) (Z6 (ZQ 1) J2))))))
 (Ga (Zb 1))))
def Nr:Lt_→Option Th:=Qi 2 3 ZhH
def Zdr:FS:=(Uv (Zfl 1)
 (Uv (Z0C (YW (ZQ 0)) (Z1x 2) (fIf (Z1y (J7 (ZV YI (Z6 (f2 oIx (Zb 2) (fC (.int 0))) (Z6 (ZQ 0) J2))))) (Z4N 1 (f2 oIx (Zb 2) (fC (.int 0))) (ZV Nr (Z6 (ZQ 0) (Z6 (f2 oIx (Zb 2) (fC (.int 1))) J2)))) Yt))
 (Ga (fCB Nu (Z6 (G2 (Ua g1 (YW (G2 (Z0B 1))) GJ (W6 (Z6 (ZQ 0) (Z6 (Z4O 2 (Zb 0)) J2))))) J2)))))
def GX:Lt_→Option Th:=Qi 1 3 Zdr
noncomputable def Z0M:FS:=(Uv (YJ 2 (fC (.lst [])))
 (Uv (Z0C (Gy (fCB MT (Z6 (Zb 1) J2))) (Z1x 3) (YJ 2 (f2 Ys (Zb 2) (G2 (Ua g2 (W7 (ZQ 0)) (J7 (fM1 (fun z y=>some (.bl (Ya z y))) (fSl (Zb 3) (UV (ZQ 5)) Yc) (f2 oIx (Zb 1) (fC (.int 0))))) (W6 (Z6 (ZQ 5) (Z6 (ZQ 0) J2))))))))
 (Ga (Zb 2))))
noncomputable def G0:Lt_→Option Th:=Qi 2 4 Z0M
noncomputable def CD:FS:=(Uv (Zhz (f2 oIx (Zb 0) (Zb 3)) (NX 4 5))
 (Ga (f2 Ys (f2 Ys (fSl (Zb 1) Yc (UV (ZQ 2))) (Zb 5)) (fSl (Zb 1) (UV (f2 Ys (Zb 2) (fCB MT (Z6 (Zb 4) J2)))) Yc))))
noncomputable def G5:Lt_→Option Th:=Qi 4 6 CD
def Z3z:FS:=(Uv (Z3P 2 (fCL []))
 (Uv (Z0C (Bs (ZV G0 (Z6 (ZQ 0) (Z6 (ZQ 1) J2)))) (NX 3 4) (UR 2 (ZV G5 (Z6 (ZQ 0) (Z6 (ZQ 1) (Z6 (ZQ 3) (Z6 (ZQ 4) J2)))))))
 (Ga (G2 (Nv (Z6 (Zb 2) J2))))))
def UA:Lt_→Option Th:=Qi 2 5 Z3z
def Z6d:FS:=(Uv (YJ 2 (G2 (Wq (Z6 (ZQ 1) J2))))
 (Uv (Z3P 3 (fCL []))
 (Uv (YJ 4 (fC (.int 0)))
 (Uv (DT (J7 (f2 oLt (Zb 4) (fCB MT (Z6 (Zb 2) J2)))) (Uv (YJ 5 (ZV UA (Z6 (ZQ 0) (Z6 (f2 oIx (Zb 2) (Zb 4)) J2))))
 (Uv (fIf (J7 (f2 oEq (Zb 5) (fC (.lst [])))) (UR 3 (f2 oIx (Zb 2) (Zb 4))) Yt)
 (Uv (YJ 2 (f2 Ys (Zb 2) (G2 (Ua g1 (YW (ZQ 5)) (J7 (f2 (oIn true) (Zb 0) (Zb 3))) (ZQ 0)))))
 (YJ 4 (f2 Ys (Zb 4) (fC (.int 1))))))))
 (Ga (fCB Nu (Z6 (G2 (Cp (Z6 (Zb 3) J2))) J2)))))))
def UP:Lt_→Option Th:=Qi 2 6 Z6d
def Z6b:FS:=(Uv (Z3P 2 (fCL []))
 (Uv (Z0C (Gy (f2 Mo (Zb 1) (fC (.int 4)))) (Z1x 3) (Uv (YJ 4 (ZV YV (Z6 (ZV Jk (Z6 (ZQ 1) (Z6 (ZQ 3) J2))) (Z6 (fC (.str ("abc":Str))) (Z6 (fC (.int 6)) J2)))))
 (Uv (YJ 5 (ZV UA (Z6 (ZQ 0) (Z6 (ZQ 4) J2))))
 (fIf (J7 (f2 oNe (Zb 5) (fC (.lst [])))) (UR 2 (W6 (Z6 (ZQ 4) (Z6 (f2 oIx (G2 (Wq (Z6 (f2 oIx (ZV UP (Z6 (ZQ 0) (Z6 (ZQ 4) J2))) (fC (.int 0))) (Z6 (f2 oIx (Zb 5) (Zcg (fC (.int 1)))) J2)))) (f2 Mo (f2 Ds (ZV Jk (Z6 (ZQ 1) (Z6 (ZQ 3) J2))) (fC (.int 16))) (fC (.int 2)))) J2)))) Yt))))
 (Ga (fCB Nu (Z6 (Zb 2) J2)))))
def Qe:Lt_→Option Th:=Qi 2 6 Z6b
noncomputable def Dl:FS:=(Uv (fIf (J7 (f2 oLt (Zb 1) (fCB MT (Z6 (Zb 0) J2)))) (Ga (f2 oIx (Zb 0) (Zb 1))) Yt)
 (Ga (fC (.int 0))))
noncomputable def GD:Lt_→Option Th:=Qi 2 2 Dl
noncomputable def Z3A:FS:=(Uv (YJ 2 (f2 Mo (f2 UQ (f2 Ys (f2 Ys (ZV GD (Z6 (ZQ 0) (Z6 (ZQ 1) J2))) (f2 UQ (fC (.int 7919)) (Zb 1))) (fC (.int 1))) (fC (.int 48271))) (fC (.int 2147483647))))
 (Ga (f2 Mo (f2 Ys (f2 Ys (f2 UQ (Zb 2) (Zb 2)) (f2 UQ (fC (.int 7)) (Zb 2))) (Zb 1)) (fC (.int 2147483629)))))
noncomputable def N6:Lt_→Option Th:=Qi 2 3 Z3A
noncomputable def Z3x:FS:=(Ga (f2 Ys (f2 Ys (fSl (Zb 0) Yc (UV (ZQ 2))) (Zb 1)) (fSl (Zb 0) (UV (f2 Ys (Zb 2) (fCB MT (Z6 (Zb 1) J2)))) Yc)))
noncomputable def NJ:Lt_→Option Th:=Qi 3 3 Z3x
noncomputable def Z0L:FS:=(Uv (YJ 3 (G2 (Ua g1 (Dg (ZQ 2) (fCB MT (Z6 (Zb 0) J2))) GJ (ZV NJ (Z6 (ZQ 1) (Z6 (ZQ 2) (Z6 (ZQ 0) J2)))))))
 (Ga (G2 (Ua g1 (YW (ZQ 3)) (J7 (fM1 (fun z y=>some (.bl (Ya z y))) (Zb 0) (Zb 1))) (ZQ 0)))))
noncomputable def Nd:Lt_→Option Th:=Qi 3 4 Z0L
def Z3C:FS:=(Uv (Z3P 1 (fCL []))
 (Uv (Z0C (W7 (ZQ 0)) (NX 2 3) (Z0C (W7 (ZQ 0)) (NX 4 5) (Mq 1 (ZV Nd (Z6 (f2 oIx (Zb 3) (fC (.int 0))) (Z6 (f2 oIx (Zb 5) (fC (.int 0))) (Z6 (fIf (J7 (f2 oEq (Zb 2) (Zb 4))) (fC (.int 1)) (fC (.int 0))) J2)))))))
 (Ga (fCB Nu (Z6 (G2 (Nv (Z6 (Zb 1) J2))) J2)))))
def NL:Lt_→Option Th:=Qi 1 6 Z3C
noncomputable def Zdq:FS:=(Ga (W6 (Z6 (fCB MT (Z6 (Zb 0) J2)) (Z6 (ZQ 0) J2))))
noncomputable def Qu:Lt_→Option Th:=Qi 1 1 Zdq
def CC:FS:=(Uv (Z3P 2 (fCL []))
 (Uv (YJ 3 (fM1 (fun z y=>some (.int (MP z y))) (Zb 1) (Zb 0)))
 (Uv (DT (J7 (f2 oGe (Zb 3) (fC (.int 0)))) (Uv (UR 2 (ZQ 3))
 (YJ 3 (fM2 (fun z y i=>some (.int (Du z y i))) (Zb 1) (Zb 0) (f2 Ys (Zb 3) (fC (.int 1)))))))
 (Ga (Zb 2)))))
def YL:Lt_→Option Th:=Qi 2 4 CC
def Z67:FS:=(Uv (Z3P 2 (fCL []))
 (Uv (Z0C (W7 (ZQ 0)) (NX 3 4) (Mq 2 (G2 (Ua g1 (YW (ZV YL (Z6 (f2 oIx (Zb 4) (fC (.int 0))) (Z6 (ZQ 1) J2)))) GJ (W6 (Z6 (ZQ 0) (Z6 (ZQ 4) J2)))))))
 (Ga (fCB Nu (Z6 (G2 (Cp (Z6 (Zb 2) J2))) J2)))))
def NI:Lt_→Option Th:=Qi 2 5 Z67
def Za9:FS:=(Ga (fCB Nu (Z6 (G2 (Nv (Z6 (G2 (Ua g2 (Bs (ZV NI (Z6 (ZQ 0) (Z6 (ZQ 1) J2)))) GJ (ZV YK (Z6 (f2 oIx (Zb 2) (Zb 1)) (Z6 (ZQ 3) (Z6 (ZQ 0) J2)))))) J2))) J2)))
def Qc:Lt_→Option Th:=Qi 2 2 Za9
def Wv:FS:=(Ga (fCB Nu (Z6 (G2 (Nv (Z6 (G2 (Ua g1 (YW (ZV Qc (Z6 (ZQ 0) (Z6 (ZQ 1) J2)))) GJ (ZV Nr (Z6 (ZQ 1) (Z6 (ZQ 0) J2))))) J2))) J2)))
def Yl:Lt_→Option Th:=Qi 2 2 Wv
def Z4V:FS:=(Uv (Z0C (YW (G2 (Z0A Qu (Z6 (ZV NL (Z6 (ZQ 0) J2)) J2)))) (Z1x 1) (fIf (J7 (f2 oGt (fCB MT (Z6 (ZV Yl (Z6 (ZQ 0) (Z6 (ZQ 1) J2))) J2)) (fC (.int 1)))) (Ga (Zb 1)) Yt))
 (Ga (fC .non)))
def Ml:Lt_→Option Th:=Qi 1 2 Z4V
def Z0N:FS:=(Ga (f2 (Z4k false) (ZV Ml (Z6 (ZQ 0) J2)) (fC .non)))
def Nf:Lt_→Option Th:=Qi 1 1 Z0N
def ZhG:FS:=(Uv (YJ 1 (ZV NK (Z6 (ZV N6 (Z6 (ZQ 0) (Z6 (fC (.int 0)) J2))) J2)))
 (Uv (fIf (Z1y (J7 (ZV Nf (Z6 (ZQ 1) J2)))) (Ga (fC (.bl true))) Yt)
 (Uv (YJ 2 (ZV GX (Z6 (ZQ 1) J2)))
 (Uv (fIf (Zdk (Z1y (J7 (ZfL "tuple" (Zb 2)))) (J7 (f2 oNe (fCB Z0r (Z6 (Zb 2) J2)) (G2 (Wp (Z6 (Zb 2) J2)))))) (Ga (fC (.bl false))) Yt)
 (Uv (YJ 3 (G2 (BW [5,6] g2 (Bs (ZQ 2)) GJ (ZQ 0))))
 (Uv (fIf (J7 (f2 oNe (Cq (Z6 (Zb 3) J2)) (fCB MT (Z6 (Zb 3) J2)))) (Ga (fC (.bl false))) Yt)
 (Uv (YJ 4 (G2 (Ua g1 (YW (ZQ 1)) GJ (f2 oIx (Zb 0) (fC (.int 0))))))
 (Uv (Z0C (Bs (ZQ 2)) (NX 5 6) (Uv (fIf (J7 (f2 (oIn true) (Zb 5) (Zb 4))) (Ga (fC (.bl false))) Yt)
 (Uv (fIf (J7 (f2 oNe (G2 (Ua g1 (YW (ZQ 3)) (Z3a (J7 (f2 oNe (Zb 0) (Zb 6))) (J7 (f2 (oIn false) (Zb 0) (Zb 6)))) (ZQ 0))) (fC (.lst [])))) (Ga (fC (.bl false))) Yt)
 (fIf (J7 (f2 oNe (ZV G0 (Z6 (ZQ 1) (Z6 (ZQ 6) J2))) (fC (.lst [])))) (Ga (fC (.bl false))) Yt))))
 (Uv (YJ 7 (ZV YV (Z6 (ZV N6 (Z6 (ZQ 0) (Z6 (fC (.int 1)) J2))) (Z6 (fC (.str ("abc":Str))) (Z6 (fC (.int 6)) J2)))))
 (Uv (fIf (J7 (f2 oNe (ZV UP (Z6 (ZQ 2) (Z6 (ZQ 7) J2))) (ZV UP (Z6 (ZQ 1) (Z6 (ZQ 7) J2))))) (Ga (fC (.bl false))) Yt)
 (Uv (fIf (Zdk (Z1y (J7 (ZV Nf (Z6 (ZQ 2) J2)))) (J7 (f2 oNe (ZV GX (Z6 (ZQ 2) J2)) (Zb 2)))) (Ga (fC (.bl false))) Yt)
 (Uv (YJ 8 (ZV Qe (Z6 (ZQ 1) (Z6 (ZV N6 (Z6 (ZQ 0) (Z6 (fC (.int 2)) J2))) J2))))
 (Ga (Zci (f2 oEq (ZV GX (Z6 (f2 Ys (Zb 1) (Zb 8)) J2)) (Zb 2)) (f2 oEq (ZV GX (Z6 (f2 Ys (Zb 8) (Zb 1)) J2)) (Zb 2))))))))))))))))
def De:Lt_→Option Th:=Qi 1 9 ZhG
end
end K41
namespace L2
open PySem
theorem Q3 {i j:Int}(h:(-(2 ^ 64)<i∧i<2 ^ 64)∨(-(2 ^ 64)<j∧j<2 ^ 64)):UQ (.int i) (.int j)=some (.int (i*j)):=by
 simp only[UQ,Zhd,decide_eq_true h,if_true]
theorem mod_int {i j:Int}(h:0<j):Mo (.int i) (.int j)=some (.int (i%j)):=by
 simp only[Mo,decide_eq_true h,if_true]
theorem NZ {i j:Int}(h:0<j∧j<1073741824):Ds (.int i) (.int j)=some (.int (i / j)):=by
 simp only[Ds,decide_eq_true h,if_true]
theorem GW {i j:Int}:Ys (.int i) (.int j)=some (.int (i+j)):=rfl
theorem sub_int {i j:Int}:ZfJ (.int i) (.int j)=some (.int (i-j)):=rfl
theorem Z1a {x y:Str}(h:x.length+y.length≤1000000):Ys (.str x) (.str y)=some (.str (x++y)):=by
 simp only[Ys,Zhe,Q5,decide_eq_true h,if_true]
theorem Z5y {x y:Lt_}(h:x.length+y.length≤1000000):Ys (.tup x) (.tup y)=some (.tup (x++y)):=by
 simp only[Ys,Zhe,Q5,decide_eq_true h,if_true]
theorem Fw {x y:Lt_}(h:x.length+y.length≤1000000):Ys (.lst x) (.lst y)=some (.lst (x++y)):=by
 simp only[Ys,Q5,decide_eq_true h,if_true]
theorem len_str {x:Str}(h:x.length≤1000000):MT [.str x]=some (.int x.length):=by
 simp only[MT,Q5,decide_eq_true h,if_true]
theorem Bp {x:Lt_}:MT [.lst x]=some (.int x.length):=rfl
theorem Z9i {x:Lt_}:MT [.tup x]=some (.int x.length):=rfl
theorem le_int {i j:Int}:oLe (.int i) (.int j)=some (.bl (decide (i≤j))):=rfl
theorem gt_int {i j:Int}:oGt (.int i) (.int j)=some (.bl (decide (j<i))):=rfl
theorem ge_int {i j:Int}:oGe (.int i) (.int j)=some (.bl (decide (j≤i))):=rfl
theorem lt_int {i j:Int}:oLt (.int i) (.int j)=some (.bl (decide (i<j))):=rfl
theorem eq_int {i j:Int}:oEq (.int i) (.int j)=some (.bl (i == j)):=by simp[oEq,dp,Y4]
theorem ne_int {i j:Int}:oNe (.int i) (.int j)=some (.bl (!(i == j))):=by simp[oNe,dp,Y4]
theorem Zj8 {i j:Bool}:oEq (.bl i) (.bl j)=some (.bl (i == j)):=by simp[oEq,dp,Y4]
theorem eq_str {i j:Str}:oEq (.str i) (.str j)=some (.bl (i == j)):=by simp[oEq,dp,Y4]
theorem Z4C:isB (QX (Th.non)) "str"=false:=rfl
theorem Z6Z (b:Bool):isB (QX (Th.bl b)) "str"=false:=rfl
theorem Z4G (i:Int):isB (QX (Th.int i)) "str"=false:=rfl
theorem Z4A (x:Str):isB (QX (Th.str x)) "str"=true:=rfl
theorem Z4y (ts:Lt_):isB (QX (Th.tup ts)) "str"=false:=rfl
theorem Z4E (ts:Lt_):isB (QX (Th.lst ts)) "str"=false:=rfl
theorem Z1t:isB (QX (Th.non)) "tuple"=false:=rfl
theorem Z34 (b:Bool):isB (QX (Th.bl b)) "tuple"=false:=rfl
theorem Z1v (i:Int):isB (QX (Th.int i)) "tuple"=false:=rfl
theorem Z1s (x:Str):isB (QX (Th.str x)) "tuple"=false:=rfl
theorem DQ (ts:Lt_):isB (QX (Th.tup ts)) "tuple"=true:=rfl
theorem Z1u (ts:Lt_):isB (QX (Th.lst ts)) "tuple"=false:=rfl
theorem Z2Z:isB (QX (Th.non)) "bool"=false:=rfl
theorem Z4J (b:Bool):isB (QX (Th.bl b)) "bool"=true:=rfl
theorem Z33 (i:Int):isB (QX (Th.int i)) "bool"=false:=rfl
theorem Z2X (x:Str):isB (QX (Th.str x)) "bool"=false:=rfl
theorem Z2V (ts:Lt_):isB (QX (Th.tup ts)) "bool"=false:=rfl
theorem Z31 (ts:Lt_):isB (QX (Th.lst ts)) "bool"=false:=rfl
theorem Z4D:isB (QX (Th.non)) "int"=false:=rfl
theorem Z70 (b:Bool):isB (QX (Th.bl b)) "int"=true:=rfl
theorem Z4H (i:Int):isB (QX (Th.int i)) "int"=true:=rfl
theorem Z4B (x:Str):isB (QX (Th.str x)) "int"=false:=rfl
theorem Z4z (ts:Lt_):isB (QX (Th.tup ts)) "int"=false:=rfl
theorem Z4F (ts:Lt_):isB (QX (Th.lst ts)) "int"=false:=rfl
theorem Z2Y:isB (QX (Th.non)) "list"=false:=rfl
theorem Z4I (b:Bool):isB (QX (Th.bl b)) "list"=false:=rfl
theorem Z32 (i:Int):isB (QX (Th.int i)) "list"=false:=rfl
theorem Z2W (x:Str):isB (QX (Th.str x)) "list"=false:=rfl
theorem Z2U (ts:Lt_):isB (QX (Th.tup ts)) "list"=false:=rfl
theorem Z30 (ts:Lt_):isB (QX (Th.lst ts)) "list"=true:=rfl
theorem Z3M (x:Str):x.cps.toList.length=x.length:=by simp[MV]
theorem J9 {F G:FS}{d d':Sd}(h:F d=some (.nx d')):Uv F G d=G d':=by unfold Uv;rw[h];rfl
theorem NY {fi:FL}{g:FG}{F:FS}{d:Sd}{ts:Lt_}(h:fi d=some ts):Z0C fi g F d=W1 g F ts d:=by unfold Z0C;rw[h];rfl
theorem YR {n m:Nat}{b:FS}{Ts:Lt_}{T:Th}(hn:Ts.length=n)(h:b (Ts.map (fun T=>some (Dv.th T))++Zn (m-Ts.length) none)=some (.rt T)):Qi n m b Ts=some T:=by
 unfold Qi;rw[if_pos hn,h]
theorem Z3g {fe:FD}{d:Sd}{p:Th→Th}:∀ {ts:Lt_},(∀ t∈ts,fe (some (.th t)::d)=some (p t))→Nh g1 GJ fe d ts=some (ts.map p)
 |[],_=>rfl
 |t::r,h=>by
  have ih:=Z3g (fe:=fe) (d:=d) (p:=p) (ts:=r) fun x hx=>h x (Z4 _ hx)
  simp only[Nh,g1,GJ,ob_,ZT,ZJ,if_true,h t Z1,ih,Zt]
theorem BX {ft:FB}{d:Sd}{q:Th→Bool}:∀ {ts:Lt_},(∀ t∈ts,ft (some (.th t)::d)=some (q t))→Nh g1 ft (ZQ 0) d ts=some (ts.filter q)
 |[],_=>rfl
 |t::r,h=>by
  have ih:=BX (ft:=ft) (d:=d) (q:=q) (ts:=r) fun x hx=>h x (Z4 _ hx)
  simp only[Nh,g1,ob_,ZT,ZJ,h t Z1,ih,Mt,ZQ,gz_]
  cases q t <;> simp
theorem Wr {fi:FL}{fe:FD}{d:Sd}{ts:Lt_}{p:Th→Th}(h1:fi d=some ts)(h2:ts.length≤1000000)(h3:∀ t∈ts,fe (some (.th t)::d)=some (p t)):Ua g1 fi GJ fe d=some (ts.map p):=by
 simp only[Ua,h1,ob_,if_pos h2,Z3g h3]
theorem MN {fi:FL}{ft:FB}{d:Sd}{ts:Lt_}{q:Th→Bool}(h1:fi d=some ts)(h2:ts.length≤1000000)(h3:∀ t∈ts,ft (some (.th t)::d)=some (q t)):Ua g1 fi ft (ZQ 0) d=some (ts.filter q):=by
 simp only[Ua,h1,ob_,if_pos h2,BX h3]
theorem Dk (p:Th→Bool):∀ ts:Lt_,QC (ts.map fun t=>.bl (p t))=some (ts.map p)
 |[]=>rfl
 |t::r=>by simp only[Zt,QC,Dk p r,Z7]
theorem ZbJ (p:Th→Bool)(ts:Lt_):ZbK false [.lst (ts.map fun t=>.bl (p t))]=some (.bl (ts.all p)):=by
 simp only[ZbK,Dk,Z7,Zj,if_false,Do]
 rfl
mutual
noncomputable def good:Th→Bool
 |.str x=>decide (x.length≤1000000)
 |.tup ts=>Zfi ts
 |.lst ts=>Zfi ts
 |_=>true
noncomputable def Zfi:Lt_→Bool
 |[]=>true
 |t::r=>good t&&Zfi r
end
end L2
namespace L2
open PySem
theorem FP {α:Type}{xs:List α}{i:Int}(h0:0≤i)(h1:i<xs.length):atI xs i=xs[i.toNat]?:=by
 unfold atI ixN
 rw[if_pos h0,if_pos h1];rfl
theorem Z9w {x:Str}{i:Int}(h0:0≤i)(h1:i<x.length)(hx:x.length≤1000000):oIx (.str x) (.int i)=some (.str ⟨#[x.cps.toList.getD i.toNat 0]⟩):=by
 have hl:=Z3M x
 have h2:i.toNat<x.cps.toList.length:=by rw[hl];lia
 simp only[oIx,Q5,decide_eq_true hx,if_true]
 rw[FP h0 (by rw[hl];exact h1),Za h2]
 simp[Qf,Za h2]
theorem Z4X (x y:Str):(x++y).cps.toList=x.cps.toList++y.cps.toList:=by
 show (x.cps++y.cps).toList=_
 simp
theorem Zab (x y:Str):(x++y).length=x.length+y.length:=by
 rw[← Z3M,Z4X,Zf,Z3M,Z3M]
end L2
namespace L2
open PySem
theorem FW {x:Str}{j:Int}(h0:0≤j)(h1:j≤1000000)(h2:x.length*j.toNat≤1000000):UQ (.str x) (.int j)=some (.str (My x j)):=by
 have h:0≤j∧j≤1000000∧x.length*j.toNat≤1000000:=⟨h0,h1,h2⟩
 simp only[UQ,Zhd,decide_eq_true h,if_true]
theorem Z2j (x:Array Nat):∀ (m:Nat) (acc:Array Nat),((Zn m x).foldl (·++·) acc).toList=acc.toList++(Zn m x.toList).flatten
 |0,acc=>by simp
 |m+1,acc=>by
  rw[JR,G7,Z2j x m,JR,G8,Jb,Z8]
theorem Z4l {x:Str}{j:Int}(h0:0≤j):(My x j).cps.toList=(Zn j.toNat x.cps.toList).flatten:=by
 unfold My
 by_cases h1:j<1
 ·have:j=0:=by lia
  subst this
  rw[if_pos h1];rfl
 ·rw[if_neg h1]
  by_cases h2:(j == 1||x.length == 0)=true
  ·rw[if_pos h2]
   simp only[G9,beq_iff_eq] at h2
   rcases h2 with h2|h2
   ·subst h2;simp
   ·have:x.cps.toList=[]:=Gr (by rw[Z3M];exact h2)
    rw[this];simp
  ·rw[if_neg h2]
   rw[Z2j];simp
theorem Z5P {α:Type}(l:List α)(m:Nat):(Zn m l).flatten.length=m*l.length:=Z9j l m
theorem Zcd {α:Type}{l:List α}{m:Nat}{c:α}(h:c∈(Zn m l).flatten):c∈l:=by
 obtain⟨a,ha,hc⟩:=List.mem_flatten.mp h
 rw[(List.mem_replicate.mp ha).2] at hc
 exact hc
theorem Z5X {α:Type}(xs:List α){j:Int}(h:0≤j):Dt xs none (some j)=xs.take j.toNat:=by
 unfold Dt
 obtain⟨k,rfl⟩:∃ k:Nat,j=k:=⟨j.toNat,by lia⟩
 rw[HT.sIx_none,HT.sIx_nat,M9,Z01,Yz]
 rw[ZjE]
 split
 ·rfl
 ·rw[U5,JG (by lia)]
theorem Z5Y {α:Type}(xs:List α){i:Int}(h:0≤i):Dt xs (some i) none=xs.drop i.toNat:=by
 unfold Dt
 obtain⟨k,rfl⟩:∃ k:Nat,i=k:=⟨i.toNat,by lia⟩
 rw[HT.sIx_none,HT.sIx_nat,Yz]
 rw[ZjE]
 split
 ·rw[JG (by simp)]
 ·rw[Mu,List.drop_eq_nil_of_le (by lia)];simp
theorem Cu {α:Type}{xs:List α}{lo hi:Option Int}{c:α}(h:c∈Dt xs lo hi):c∈xs:=JZ (Ub h)
theorem Z14 {x:Str}{lo hi:Option Int}(h:x.length≤1000000):oSl (.str x) lo hi=some (.str (Z60 x lo hi)):=by
 simp only[oSl,Q5,decide_eq_true h,if_true]
theorem Z5Z (x:Str)(lo hi:Option Int):(Z60 x lo hi).cps.toList=Dt x.cps.toList lo hi:=by simp[Z60]
theorem Z1B (x:Str)(lo hi:Option Int):(Z60 x lo hi).length=(Dt x.cps.toList lo hi).length:=by rw[← Z3M,Z5Z]
end L2
namespace L2
open PySem
theorem Z5O {g:FG}{F:FS}(P:Lt_→Sd→Prop)(step:∀ t r d,P (t::r) d→∃ d1 d2,g t d=some d1∧F d1=some (.nx d2)∧P r d2):∀ (ts:Lt_) (d:Sd),P ts d→∃ d',W1 g F ts d=some (.nx d')∧P [] d'
 |[],d,h=>⟨d,rfl,h⟩
 |t::r,d,h=>by
  obtain⟨d1,d2,e1,e2,h2⟩:=step t r d h
  obtain⟨d',e3,h3⟩:=Z5O P step r d2 h2
  refine⟨d',?_,h3⟩
  rw[W1,e1,ob_,e2]
  exact e3
theorem Z64 {fe:FD}{d:Sd}{P:Th→Prop}:∀ {ts:Lt_},(∀ t∈ts,∃ y,fe (some (.th t)::d)=some y∧P y)→∃ ys,Nh g1 GJ fe d ts=some ys∧(∀ y∈ys,P y)∧ys.length=ts.length
 |[],_=>⟨[],rfl,fun _ h=>(nomatch h),rfl⟩
 |t::r,h=>by
  obtain⟨ys,e,hp,hl⟩:=Z64 (fe:=fe) (d:=d) (P:=P) (ts:=r) fun x hx=>h x (Z4 _ hx)
  obtain⟨y,ey,py⟩:=h t Z1
  refine⟨y::ys,?_,fun z hz=>?_,by simp[hl]⟩
  ·simp only[Nh,g1,GJ,ob_,ZT,ZJ,if_true,ey,e]
  ·rcases Zp.mp hz with rfl|hz
   ·exact py
   ·exact hp z hz
theorem Zch {fi:FL}{fe:FD}{d:Sd}{ts:Lt_}{P:Th→Prop}(h1:fi d=some ts)(h2:ts.length≤1000000)(h3:∀ t∈ts,∃ y,fe (some (.th t)::d)=some y∧P y):∃ ys,Ua g1 fi GJ fe d=some ys∧(∀ y∈ys,P y)∧ys.length=ts.length:=by
 obtain⟨ys,e,hp,hl⟩:=Z64 h3
 exact⟨ys,by simp only[Ua,h1,ob_,if_pos h2,e],hp,hl⟩
theorem BO:∀ {k:Nat} {ts:Lt_} {x:Th},x∈numbered k ts→∃ (j:Nat) (t:Th),x=.tup [.int (j:Int),t]∧t∈ts
 |_,[],_,h=>(nomatch h)
 |k,t::r,x,h=>by
  rcases Zp.mp (show x∈Th.tup [.int (k:Int),t]::numbered (k+1) r from h) with rfl|h
  ·exact⟨k,t,rfl,Z1⟩
  ·obtain⟨j,y,e,hy⟩:=BO h
   exact⟨j,y,e,Z4 _ hy⟩
theorem Z7W {ts:Lt_}{lo hi:Option Int}:oSl (.lst ts) lo hi=some (.lst (Dt ts lo hi)):=rfl
end L2
namespace K41
open PySem L2
noncomputable def drawn (n k:Int):Int:=((n+104729*k+17)*69621%2147483647*((n+104729*k+17)*69621%2147483647)+3*((n+104729*k+17)*69621%2147483647)+k)%2147483629
theorem WP (n k:Int):Jk [.int n,.int k]=some (.int (drawn n k)):=by
 unfold Jk Z3B
 simp (disch:=lia) only [Qi,Yr,Jm,N3,Uv,YJ,GS,N0,Zn,ZT,ZJ,Zd,Ze,f2,Zb,Zi,fC,Zs,Zo,Q3,GW,mod_int,Z7,Ga,if_true]
 rfl
noncomputable def CW (x y:Str):Bool:=decide (x.length<y.length∨(x.length=y.length∧x.cps.toList<y.cps.toList))
theorem ZeW (x y:Str):oLt (.tup [.int x.length,.str x]) (.tup [.int y.length,.str y])=some (.bl (CW x y)):=by
 simp only[oLt,M7,keyOf,ob_,Z7,HT.lexK]
 congr 2
 unfold CW
 by_cases h:(x.length:Int)=y.length
 ·have h':x.length=y.length:=by lia
  rw[if_pos h]
  by_cases e:x=y
  ·subst e
   rw[if_pos rfl]
   have:¬ (x.length<x.length∨(x.length=x.length∧x.cps.toList<x.cps.toList)):=by
    intro z
    rcases z with z|z
    ·exact absurd ‹_› (YG _)
    ·exact QN _ z.2
   simp[decide_eq_false this]
  ·rw[if_neg e]
   simp only[Z7,Jt,Th.bl.injEq,decide_eq_decide]
   constructor
   ·intro z;exact .inr ⟨h',z⟩
   ·rintro (z|z)
    ·lia
    ·exact z.2
 ·rw[if_neg h]
  simp only[Z7,Jt,Th.bl.injEq,decide_eq_decide]
  constructor
  ·intro z;exact .inl (by lia)
  ·rintro (z|z) <;> lia
theorem Zf8 (x y:Str)(hx:x.length≤1000000)(hy:y.length≤1000000):Mh [.str x,.str y]=some (.bl (CW x y)):=by
 unfold Mh Z6c
 simp (disch:=lia) only [Qi,Yr,Jm,N3,Ga,f2,W6,Z6,fCB,Zb,GS,N0,Zn,ZT,ZJ,Zi,J2,Zo,len_str,ZQ,Z36,Mz,if_true,Z7,Zs]
 rw[ZeW];rfl
theorem Z7X (x:Str):(signs x).length=x.length:=by simp[signs,MV]
theorem Zfu (ns:List Int)(k:Int)(hk:0≤k):∃ c,GD [.lst (ns.map Th.int),.int k]=some (.int c):=by
 by_cases h:k<ns.length
 ·have h2:k.toNat<(ns.map Th.int).length:=by rw[Z3];lia
  refine⟨ns[k.toNat]'(by lia),?_⟩
  have e:oIx (.lst (ns.map Th.int)) (.int k)=some (.int (ns[k.toNat]'(by lia))):=by
   simp only[oIx]
   rw[FP hk (by rw[Z3];exact h),Za h2,List.getElem_map]
  unfold GD Dl
  simp (disch:=lia) only [Qi,Yr,Jm,N3,Uv,fIf,J7,f2,Zb,GS,N0,Zn,ZT,ZJ,Zs,Zi,fCB,Z6,J2,Zo,Bp,lt_int,Ga,Yt,fC,Z7,if_true]
  simp only[Z3,decide_eq_true h,if_true,e]
  rfl
 ·refine⟨0,?_⟩
  unfold GD Dl
  simp (disch:=lia) only [Qi,Yr,Jm,N3,Uv,fIf,J7,f2,Zb,GS,N0,Zn,ZT,ZJ,Zs,Zi,fCB,Z6,J2,Zo,Bp,lt_int,Ga,Yt,fC,Z7,if_true]
  simp only[Z3,decide_eq_false h,if_false,Zj]
  rfl
noncomputable def Zk0 (c k:Int):Int:=((c+7919*k+1)*48271%2147483647*((c+7919*k+1)*48271%2147483647)+7*((c+7919*k+1)*48271%2147483647)+k)%2147483629
theorem Z1i (ns:List Int)(k:Int)(hk:0≤k):∃ r,0≤r∧r<2147483629∧N6 [.lst (ns.map Th.int),.int k]=some (.int r):=by
 obtain⟨c,hc⟩:=Zfu ns k hk
 refine⟨Zk0 c k,NQ _ (by decide),UM _ (by decide),?_⟩
 unfold N6 Z3A
 simp (disch:=lia) only [Qi,Yr,Jm,N3,Uv,YJ,GS,N0,Zn,ZT,ZJ,Zd,Ze,f2,ZV,Z6,ZQ,Zi,Zs,J2,Zo,fC,Zb,Q3,Ga,if_true]
 simp only[hc]
 simp (disch:=lia) only [Zo,GW,Q3,mod_int,Z7,Zs,Zi]
 rfl
noncomputable def Z48 (n:Int)(le:Str)(k:Nat):Nat:=le.cps.toList.getD (drawn n k / 8%(le.length:Int)).toNat 0
noncomputable def Wh (n:Int)(le:Str)(m:Nat):Str:=⟨((Jg m).map (Z48 n le)).toArray⟩
theorem ZcK {n most:Int}{le:Str}(h1:0<le.length)(h2:le.length≤1000):∀ (ks:List Nat) (acc:Str) (x:Option Dv),acc.length+ks.length≤100000 →
  ∃ y,W1 (Z1x 4) (YJ 3 (f2 Ys (Zb 3) (f2 oIx (Zb 1) (f2 Mo (f2 Ds (ZV Jk (Z6 (ZQ 0) (Z6 (ZQ 4) J2))) (fC (.int 8))) (fCB MT (Z6 (Zb 1) J2)))))) (ks.map fun (k:Nat)=>Th.int (k:Int))
   [some (Dv.th (.int n)),some (Dv.th (.str le)),some (Dv.th (.int most)),some (Dv.th (.str acc)),x]=some (.nx [some (Dv.th (.int n)),some (Dv.th (.str le)),some (Dv.th (.int most)),some (Dv.th (.str ⟨(acc.cps.toList++ks.map (Z48 n le)).toArray⟩)),y])
 |[],acc,x,_=>⟨x,by simp[W1,Zg4]⟩
 |k::ks,acc,x,hz=>by
  have e1:=WP n k
  have hm:0≤drawn n k / 8%(le.length:Int)∧drawn n k / 8%(le.length:Int)<le.length:=⟨NQ _ (by lia),UM _ (by lia)⟩
  have e2:=Z9w hm.1 hm.2 (by lia)
  have hl1:(⟨#[Z48 n le k]⟩:Str).length=1:=rfl
  simp only[Zl] at hz
  have e3:=Z1a (x:=acc) (y:=⟨#[Z48 n le k]⟩) (by rw[hl1];lia)
  have hl2:(acc++(⟨#[Z48 n le k]⟩:Str)).length=acc.length+1:=by rw[Zab,hl1]
  obtain⟨y,hy⟩:=ZcK (n:=n) (most:=most) h1 h2 ks (acc++⟨#[Z48 n le k]⟩) (some (Dv.th (.int k))) (by rw[hl2];lia)
  refine⟨y,?_⟩
  rw[Zt,W1]
  simp only[Z1x,Ze,Zd,ob_]
  have hs:YJ 3 (f2 Ys (Zb 3) (f2 oIx (Zb 1) (f2 Mo (f2 Ds (ZV Jk (Z6 (ZQ 0) (Z6 (ZQ 4) J2))) (fC (.int 8))) (fCB MT (Z6 (Zb 1) J2))))) [some (Dv.th (.int n)),some (Dv.th (.str le)),some (Dv.th (.int most)),some (Dv.th (.str acc)),some (Dv.th (.int k))]
   =some (.nx [some (Dv.th (.int n)),some (Dv.th (.str le)),some (Dv.th (.int most)),some (Dv.th (.str (acc++⟨#[Z48 n le k]⟩))),some (Dv.th (.int k))]):=by
   simp (disch:=lia) only [YJ,Zd,Ze,f2,Zb,Zs,Zi,ZV,Z6,ZQ,J2,Zo,fC,fCB,len_str]
   simp only[e1]
   simp (disch:=lia) only [Zo,NZ,mod_int]
   simp only[e2]
   simp (disch:=lia) only [Zo]
   rw[show le.cps.toList.getD (drawn n ↑k / 8%↑le.length).toNat 0=Z48 n le k from rfl,e3]
   rfl
  rw[hs]
  simp only[ob_]
  rw[hy,Z4X]
  simp
theorem Z7H (n:Nat):L2.upTo n=(Jg n).map fun (k:Nat)=>Th.int (k:Int):=rfl
theorem Z0W {n most:Int}{le:Str}(h1:0<le.length)(h2:le.length≤1000)(h3:0≤most)(h4:most≤1000):YV [.int n,.str le,.int most]=some (.str (Wh n le (n%(most+1)).toNat)):=by
 unfold YV Z68
 have hm:0≤n%(most+1)∧n%(most+1)<most+1:=⟨NQ _ (by lia),UM _ (by lia)⟩
 obtain⟨y,hy⟩:=ZcK (n:=n) (most:=most) h1 h2 (Jg (n%(most+1)).toNat) "" none (by rw[Yv];show 0+_≤_;lia)
 refine YR rfl ?_
 refine (J9 (d':=[some (Dv.th (.int n)),some (Dv.th (.str le)),some (Dv.th (.int most)),some (Dv.th (.str "")),none]) rfl).trans ?_
 have hr:Gy (f2 Mo (Zb 0) (f2 Ys (Zb 2) (fC (.int 1)))) [some (Dv.th (.int n)),some (Dv.th (.str le)),some (Dv.th (.int most)),some (Dv.th (.str "")),none]=some (L2.upTo (n%(most+1)).toNat):=by
  unfold Gy
  simp (disch:=lia) only [f2,Zb,Zi,Zs,fC,Zo,GW,mod_int]
  rw[if_pos (by lia)]
 refine (J9 ((NY hr).trans hy)).trans ?_
 rfl
def ZfU (l:List Nat):Prop:=∀ c∈l,c=97∨c=98∨c=99
def Abc (x:Str):Prop:=ZfU x.cps.toList
structure D6 (l r:Str):Prop where
 la:Abc l
 ra:Abc r
 l1:1≤l.length
 l6:l.length≤6
 less:CW r l=true
theorem D6.rl {l r:Str}(h:D6 l r):r.length≤l.length:=by
 have:=of_decide_eq_true h.less
 lia
inductive Zan:Str→Prop where
 |ab:Zan "ab"
 |abc:Zan "abc"
theorem Zan.abcS {le:Str}(h:Zan le):Abc le:=by
 cases h <;> (intro c hc;revert c;decide +kernel)
theorem Zan.len {le:Str}(h:Zan le):2≤le.length∧le.length≤3:=by
 cases h <;> decide +kernel
theorem Zbb {le:Str}(h:Zan le)(n:Int)(k:Nat):Z48 n le k=97∨Z48 n le k=98∨Z48 n le k=99:=by
 have hl:=h.len
 have hm:0≤drawn n k / 8%(le.length:Int)∧drawn n k / 8%(le.length:Int)<le.length:=⟨NQ _ (by lia),UM _ (by lia)⟩
 have h2:(drawn n k / 8%(le.length:Int)).toNat<le.cps.toList.length:=by rw[Z3M];lia
 unfold Z48
 rw[Qf,Za h2]
 exact h.abcS _ (Z04 h2)
theorem WB (n:Int)(le:Str)(m:Nat):(Wh n le m).length=m:=by simp[Wh,MV]
theorem WC {le:Str}(h:Zan le)(n:Int)(m:Nat):Abc (Wh n le m):=by
 intro c hc
 have:c∈(Jg m).map (Z48 n le):=by simpa [Wh] using hc
 obtain⟨k,_,rfl⟩:=ZE.mp this
 exact Zbb h n k
theorem ZfU.app {a b:List Nat}(h:ZfU a)(h':ZfU b):ZfU (a++b):=fun c hc=>(ZW.mp hc).elim (h c) (h' c)
theorem Abc.app {a b:Str}(h:Abc a)(h':Abc b):Abc (a++b):=by unfold Abc;rw[Z4X];exact ZfU.app h h'
theorem Abc.cut {a:Str}(h:Abc a)(lo hi:Option Int):Abc (Z60 a lo hi):=fun c hc=>h c (by rw[Z5Z] at hc;exact Cu hc)
theorem Abc.mul {a:Str}(h:Abc a){j:Int}(h0:0≤j):Abc (My a j):=fun c hc=>h c (by rw[Z4l h0] at hc;exact Zcd hc)
theorem Z4f {c:Nat}(h:c=97∨c=98∨c=99):Abc ⟨#[c]⟩:=fun d hd=>by
 have:d=c:=by simpa using hd
 subst this;exact h
theorem Qx {x y:Str}(h:x.length<y.length):CW x y=true:=decide_eq_true (.inl h)
theorem Z84 {le:Str}(L:Zan le)(n:Int):∃ l r,GC [.int n,.str le]=some (.tup [.str l,.str r])∧D6 l r:=by
 have hl:=L.len
 have w1:=Z0W (n:=3*(n / 4)+1+n%3) (most:=2) (le:=le) (by lia) (by lia) (by decide) (by decide)
 generalize hx:Wh (3*(n / 4)+1+n%3) le ((3*(n / 4)+1+n%3)%(2+1)).toNat=x at w1
 have xa:Abc x:=by rw[← hx];exact WC L _ _
 have xl:x.length≤2:=by rw[← hx,WB];lia
 have hm:0≤n / 12%(le.length:Int)∧n / 12%(le.length:Int)<le.length:=⟨NQ _ (by lia),UM _ (by lia)⟩
 have i1:=Z9w hm.1 hm.2 (by lia)
 have ca:le.cps.toList.getD (n / 12%(le.length:Int)).toNat 0=97∨le.cps.toList.getD (n / 12%(le.length:Int)).toNat 0=98∨le.cps.toList.getD (n / 12%(le.length:Int)).toNat 0=99:=by
  have h2:(n / 12%(le.length:Int)).toNat<le.cps.toList.length:=by rw[Z3M];lia
  rw[Qf,Za h2]
  exact L.abcS _ (Z04 h2)
 generalize le.cps.toList.getD (n / 12%(le.length:Int)).toNat 0=c at i1 ca
 have hc1:(⟨#[c]⟩:Str).length=1:=rfl
 have p1:=Z1a (x:=x) (y:=⟨#[c]⟩) (by rw[hc1];lia)
 have ya:Abc (x++⟨#[c]⟩):=xa.app (Z4f ca)
 have yl:(x++(⟨#[c]⟩:Str)).length=x.length+1:=by rw[Zab,hc1]
 generalize x++(⟨#[c]⟩:Str)=y at p1 ya yl
 have left:∃ l,fIf (J7 (f2 oEq (f2 Mo (f2 Ds (Zb 0) (fC (.int 48))) (fC (.int 6))) (fC (.int 1)))) (YJ 2 (fSl (f2 UQ (Zb 2) (fC (.int 4))) Yc (UV (fC (.int 4))))) Yt
   [some (Dv.th (.int n)),some (Dv.th (.str le)),some (Dv.th (.str y)),none]=some (.nx [some (Dv.th (.int n)),some (Dv.th (.str le)),some (Dv.th (.str l)),none])∧Abc l∧1≤l.length∧l.length≤6:=by
  by_cases h:n / 48%6=1
  ·have t1:=FW (x:=y) (j:=4) (by decide) (by decide) (by show y.length*4≤_;lia)
   have ml:(My y 4).length=4*y.length:=by
    rw[← Z3M,Z4l (by decide),Z5P,Z3M];rfl
   have s1:=Z14 (x:=My y 4) (lo:=none) (hi:=some 4) (by lia)
   refine⟨Z60 (My y 4) none (some 4),?_,(ya.mul (by decide)).cut _ _,?_,?_⟩
   ·simp (disch:=lia) only [fIf,J7,f2,Zb,Zi,fC,Zo,NZ,mod_int,eq_int,YJ,Zd,Ze,fSl,Zs,Yc,UV,Yt]
    simp only[h,ZjI,if_true,t1,ob_,s1]
    rfl
   ·rw[Z1B,Z5X _ (by simp),ZC,Z3M,ml];lia
   ·rw[Z1B,Z5X _ (by lia),ZC];lia
  ·refine⟨y,?_,ya,by lia,by lia⟩
   simp (disch:=lia) only [fIf,J7,f2,Zb,Zi,fC,Zo,NZ,mod_int,eq_int,YJ,Zd,Ze,fSl,Zs,Yc,UV,Yt]
   have:(n / 48%6 == 1)=false:=by simpa using h
   simp only[this,Zj,if_false]
 obtain⟨l,hleft,la,l1,l6⟩:=left
 have d1:=WP n 50
 have w2:=Z0W (n:=drawn n 50) (most:=l.length) (le:=le) (by lia) (by lia) (by simp) (by lia)
 generalize hz:Wh (drawn n 50) le (drawn n 50%((l.length:Int)+1)).toNat=z at w2
 have za:Abc z:=by rw[← hz];exact WC L _ _
 have zl:z.length≤l.length:=by
  rw[← hz,WB]
  have:=UM (drawn n 50) (b:=(l.length:Int)+1) (by simp)
  lia
 have ls:=Zf8 z l (by lia) (by lia)
 have right:∃ r,fIf (Z1y (J7 (ZV Mh (Z6 (ZQ 3) (Z6 (ZQ 2) J2))))) (YJ 3 (fSl (Zb 3) (UV (fC (.int 1))) (UV (fCB MT (Z6 (Zb 2) J2))))) Yt
   [some (Dv.th (.int n)),some (Dv.th (.str le)),some (Dv.th (.str l)),some (Dv.th (.str z))]=some (.nx [some (Dv.th (.int n)),some (Dv.th (.str le)),some (Dv.th (.str l)),some (Dv.th (.str r))])∧Abc r∧CW r l=true:=by
  cases hs:CW z l with
  |true =>
   rw[hs] at ls
   refine⟨z,?_,za,hs⟩
   simp (disch:=lia) only [fIf,Z1y,J7,ZV,Z6,ZQ,Zs,Zi,J2,Zo,YJ,Zd,Ze,fSl,Zb,UV,fC,fCB,len_str,Yt]
   simp only[ls]
   simp (disch:=lia) only [Z7,GU,Zo,Zj,if_false]
  |false =>
   rw[hs] at ls
   have s1:=Z14 (x:=z) (lo:=some 1) (hi:=some (l.length:Int)) (by lia)
   refine⟨Z60 z (some 1) (some (l.length:Int)),?_,za.cut _ _,?_⟩
   ·simp (disch:=lia) only [fIf,Z1y,J7,ZV,Z6,ZQ,Zs,Zi,J2,Zo,YJ,Zd,Ze,fSl,Zb,UV,fC,fCB,len_str,Yt]
    simp only[ls]
    simp (disch:=lia) only [Z7,QP,Zo,if_true]
    simp only[s1]
    rfl
   ·refine Qx ?_
    rw[Z1B]
    have e1:HT.sIx z.cps.toList.length 0 (some 1)=min 1 z.length:=by rw[Z3M];exact HT.sIx_nat _ _ 1
    have e2:(Dt z.cps.toList (some 1) (some (l.length:Int))).length≤z.length-min 1 z.length:=by
     unfold Dt
     rw[ZC,ZS,e1,Z3M]
     exact ZfA _ _
    have:0<z.length∨z.length=0:=by lia
    rcases this with h|h
    ·have:min 1 z.length=1:=by lia
     lia
    ·exfalso
     have:CW z l=true:=Qx (by lia)
     rw[this] at hs;cases hs
 obtain⟨r,hright,ra,hless⟩:=right
 refine⟨l,r,?_,la,ra,l1,l6,hless⟩
 unfold GC Z6a
 refine YR rfl ?_
 refine (J9 (d':=[some (Dv.th (.int n)),some (Dv.th (.str le)),some (Dv.th (.str y)),none]) ?_).trans ?_
 ·simp (disch:=lia) only [YJ,GS,Yr,Jm,N3,N0,Zn,ZT,ZJ,Zd,Ze,f2,ZV,Z6,fC,Zb,Zi,Zo,NZ,Q3,GW,mod_int,ZQ,Zs,J2,fCB,len_str]
  simp only[w1]
  simp (disch:=lia) only [Zo]
  simp only[i1]
  simp (disch:=lia) only [Zo]
  simp only[p1]
  rfl
 refine (J9 hleft).trans ?_
 refine (J9 (d':=[some (Dv.th (.int n)),some (Dv.th (.str le)),some (Dv.th (.str l)),some (Dv.th (.str z))]) ?_).trans ?_
 ·simp (disch:=lia) only [YJ,Zd,Ze,ZV,Z6,ZQ,Zi,fC,J2,Zo,Zs,fCB,Zb,len_str]
  simp only[d1]
  simp (disch:=lia) only [Zo]
  simp only[w2]
  rfl
 refine (J9 hright).trans ?_
 rfl
def Wx (t:Th):Prop:=∃ l r,t=.tup [.str l,.str r]∧D6 l r
noncomputable def ZaL:Lt_:=[(.tup [(.str ("ba":Str)),(.str ("ab":Str))]),(.tup [(.str ("ca":Str)),(.str ("ac":Str))]),(.tup [(.str ("cb":Str)),(.str ("bc":Str))])]
theorem Bv {x:Str}(h:(x.cps.toList.all fun c=>c == 97||c == 98||c == 99)=true):Abc x:=fun c hc=>by
 have:=UH.mp h c hc
 simp only[G9,beq_iff_eq] at this
 lia
theorem ZaK:∀ t∈ZaL,Wx t:=fun t ht=>by
 simp only[ZaL,Zp,WR,or_false] at ht
 rcases ht with rfl|rfl|rfl
 ·exact⟨_,_,rfl,Bv (by decide +kernel),Bv (by decide +kernel),by decide +kernel,by decide +kernel,by decide +kernel⟩
 ·exact⟨_,_,rfl,Bv (by decide +kernel),Bv (by decide +kernel),by decide +kernel,by decide +kernel,by decide +kernel⟩
 ·exact⟨_,_,rfl,Bv (by decide +kernel),Bv (by decide +kernel),by decide +kernel,by decide +kernel,by decide +kernel⟩
theorem Z4s {c:Nat}(hc:c=97∨c=98∨c=99){i j:Int}(hi:2≤i)(hi3:i≤3)(hj:0≤j)(hj1:j≤1):D6 (My ⟨#[c]⟩ i) (My ⟨#[c]⟩ j):=by
 have ll:∀ k:Int,0≤k→(My (⟨#[c]⟩:Str) k).length=k.toNat:=fun k hk=>by
  rw[← Z3M,Z4l hk,Z5P];simp
 refine⟨(Z4f hc).mul (by lia),(Z4f hc).mul hj,?_,?_,Qx ?_⟩
 ·rw[ll i (by lia)];lia
 ·rw[ll i (by lia)];lia
 ·rw[ll i (by lia),ll j hj];lia
theorem Z7L {n:Int}{le:Str}{ts:Lt_}{x3 x4 x5:Option Dv}{k:Nat}{c:Nat}(hc:c=97∨c=98∨c=99)(hts:∀ t∈ts,Wx t)(hl:ts.length≤100) :
  ∃ d1 ts' y5,NX 3 4 (.tup [.int (k:Int),.str ⟨#[c]⟩]) [some (Dv.th (.int n)),some (Dv.th (.str le)),some (Dv.own ts),x3,x4,x5]=some d1 ∧
   (Uv (YJ 5 (ZV Jk (Z6 (ZQ 0) (Z6 (ZQ 3) J2))))
 (fIf (J7 (f2 oGt (f2 Mo (Zb 5) (fC (.int 3))) (fC (.int 0)))) (UR 2 (W6 (Z6 (f2 UQ (Zb 4) (f2 Ys (fC (.int 2)) (f2 Mo (f2 Ds (Zb 5) (fC (.int 3))) (fC (.int 2))))) (Z6 (f2 UQ (Zb 4) (f2 Mo (f2 Ds (Zb 5) (fC (.int 6))) (fC (.int 2)))) J2)))) Yt)) d1
   =some (.nx [some (Dv.th (.int n)),some (Dv.th (.str le)),some (Dv.own ts'),some (Dv.th (.int (k:Int))),some (Dv.th (.str ⟨#[c]⟩)),y5])∧(∀ t∈ts',Wx t)∧ts'.length≤ts.length+1:=by
 have e1:=WP n k
 have hc1:(⟨#[c]⟩:Str).length=1:=rfl
 refine⟨[some (Dv.th (.int n)),some (Dv.th (.str le)),some (Dv.own ts),some (Dv.th (.int (k:Int))),some (Dv.th (.str ⟨#[c]⟩)),x5],?_⟩
 have h0:YJ 5 (ZV Jk (Z6 (ZQ 0) (Z6 (ZQ 3) J2))) [some (Dv.th (.int n)),some (Dv.th (.str le)),some (Dv.own ts),some (Dv.th (.int (k:Int))),some (Dv.th (.str ⟨#[c]⟩)),x5]=some (.nx [some (Dv.th (.int n)),some (Dv.th (.str le)),some (Dv.own ts),some (Dv.th (.int (k:Int))),some (Dv.th (.str ⟨#[c]⟩)),some (Dv.th (.int (drawn n k)))]):=by
  simp (disch:=lia) only [YJ,Zd,Ze,ZV,Z6,ZQ,Zi,Zs,J2,Zo]
  simp only[e1]
  rfl
 by_cases h:0<drawn n k%3
 ·have t1:=FW (x:=(⟨#[c]⟩:Str)) (j:=2+drawn n k / 3%2) (by lia) (by lia) (by rw[hc1];lia)
  have t2:=FW (x:=(⟨#[c]⟩:Str)) (j:=drawn n k / 6%2) (by lia) (by lia) (by rw[hc1];lia)
  refine⟨ts++[.tup [.str (My ⟨#[c]⟩ (2+drawn n k / 3%2)),.str (My ⟨#[c]⟩ (drawn n k / 6%2))]],some (Dv.th (.int (drawn n k))),rfl,(J9 h0).trans ?_,fun t ht=>?_,by simp⟩
  rotate_left
  ·rcases ZW.mp ht with z|z
   ·exact hts t z
   ·have:=Jf.mp z
    subst this
    exact⟨_,_,rfl,Z4s hc (by lia) (by lia) (by lia) (by lia)⟩
  ·simp (disch:=lia) only [fIf,J7,f2,Zb,Zs,Zi,fC,Zo,mod_int,gt_int,Yt]
   simp only[decide_eq_true h,if_true,UR,gz_,gs_]
   simp (disch:=lia) only [W6,Z6,f2,Zb,Zs,Zi,fC,Zo,NZ,mod_int,GW,J2,Zd,Ze]
   simp only[t1,t2,ob_]
   simp (disch:=lia) only [Z36,Yr,Jm,N3,Mz,if_true,Z7,Zo]
   rw[if_pos (by lia)]
 ·refine⟨ts,some (Dv.th (.int (drawn n k))),rfl,(J9 h0).trans ?_,hts,by exact UU _⟩
  simp (disch:=lia) only [fIf,J7,f2,Zb,Zs,Zi,fC,Zo,mod_int,gt_int,Yt]
  simp only[decide_eq_false h,if_false,Zj]
theorem ZdJ {le:Str}(L:Zan le)(n:Int):∃ ts,Qd [.int n,.str le]=some (.lst ts)∧(∀ t∈ts,Wx t)∧ts.length≤6:=by
 have hl:=L.len
 have first:∃ ts,Z3P 2 (Zcf (fC (.lst ZaL)) Yc (UV (f2 ZfJ (f2 UQ (fC (.int 2)) (fCB MT (Z6 (Zb 1) J2))) (fC (.int 3))))) [some (Dv.th (.int n)),some (Dv.th (.str le)),none,none,none,none]
  =some (.nx [some (Dv.th (.int n)),some (Dv.th (.str le)),some (Dv.own ts),none,none,none])∧(∀ t∈ts,Wx t)∧ts.length≤3:=by
  refine⟨Dt ZaL none (some (2*(le.length:Int)-3)),?_,fun t ht=>ZaK t (Cu ht),Cw _ _ _⟩
  unfold Z3P Zcf
  simp (disch:=lia) only [Zd,Ze,fSl,fC,Yc,UV,f2,fCB,Z6,Zb,Zs,Zi,J2,Zo,len_str,Q3,sub_int]
  simp only[Z7W]
  rfl
 obtain⟨ts1,f1,p1,l1⟩:=first
 have second:∃ ts,fIf (J7 (f2 oEq (f2 Mo (Zb 0) (fC (.int 2))) (fC (.int 1)))) (Z3P 2 (Zcf (Zb 2) Yc (UV (f2 Mo (f2 Ds (Zb 0) (fC (.int 2))) (fC (.int 2)))))) Yt [some (Dv.th (.int n)),some (Dv.th (.str le)),some (Dv.own ts1),none,none,none]
  =some (.nx [some (Dv.th (.int n)),some (Dv.th (.str le)),some (Dv.own ts),none,none,none])∧(∀ t∈ts,Wx t)∧ts.length≤3:=by
  by_cases h:n%2=1
  ·refine⟨Dt ts1 none (some (n / 2%2)),?_,fun t ht=>p1 t (Cu ht),Zz (Cw _ _ _) l1⟩
   simp (disch:=lia) only [fIf,J7,f2,Zb,Zi,fC,Zo,mod_int,eq_int,Yt]
   simp only[h,ZjI,if_true,Z3P,Zcf]
   simp (disch:=lia) only [Zd,Ze,fSl,Zb,Zs,Zi,Yc,UV,f2,fC,Zo,NZ,mod_int]
   simp only[Z7W]
   rfl
  ·refine⟨ts1,?_,p1,l1⟩
   simp (disch:=lia) only [fIf,J7,f2,Zb,Zi,fC,Zo,mod_int,eq_int,Yt]
   have:(n%2 == 1)=false:=by simpa using h
   simp only[this,Zj,if_false]
 obtain⟨ts2,f2',p2,l2⟩:=second
 have third:=Z5O (g:=NX 3 4) (F:=(Uv (YJ 5 (ZV Jk (Z6 (ZQ 0) (Z6 (ZQ 3) J2))))
 (fIf (J7 (f2 oGt (f2 Mo (Zb 5) (fC (.int 3))) (fC (.int 0)))) (UR 2 (W6 (Z6 (f2 UQ (Zb 4) (f2 Ys (fC (.int 2)) (f2 Mo (f2 Ds (Zb 5) (fC (.int 3))) (fC (.int 2))))) (Z6 (f2 UQ (Zb 4) (f2 Mo (f2 Ds (Zb 5) (fC (.int 6))) (fC (.int 2)))) J2)))) Yt)))
  (fun rest d=>∃ ts x3 x4 x5,d=[some (Dv.th (.int n)),some (Dv.th (.str le)),some (Dv.own ts),x3,x4,x5]∧(∀ t∈ts,Wx t)∧ts.length+rest.length≤6∧∀ t∈rest,∃ (k c:Nat),t=.tup [.int (k:Int),.str ⟨#[c]⟩]∧(c=97∨c=98∨c=99))
  (fun t r d z_=>by
   obtain⟨ts,x3,x4,x5,hd,hp,hz,hr⟩:=z_
   subst hd
   obtain⟨k,c,rfl,hc⟩:=hr t Z1
   simp only[Zl] at hz
   obtain⟨d1,ts',y5,g1,g2,g3,g4⟩:=Z7L (n:=n) (le:=le) (x3:=x3) (x4:=x4) (x5:=x5) (k:=k) hc hp (by lia)
   exact⟨d1,_,g1,g2,ts',_,_,_,rfl,g3,by lia,fun t ht=>hr t (Z4 _ ht)⟩)
  (numbered 0 (signs le)) [some (Dv.th (.int n)),some (Dv.th (.str le)),some (Dv.own ts2),none,none,none]
  ⟨ts2,none,none,none,rfl,p2,by rw[Ug,Z7X];lia,fun t ht=>by
   obtain⟨j,y,rfl,hy⟩:=BO ht
   unfold signs at hy
   obtain⟨c,hc,rfl⟩:=ZE.mp hy
   exact⟨j,c,rfl,L.abcS c hc⟩⟩
 obtain⟨d',e3,ts3,x3,x4,x5,rfl,p3,l3,_⟩:=third
 refine⟨ts3,?_,p3,by simpa using l3⟩
 unfold Qd Z69
 refine YR rfl ?_
 refine (J9 f1).trans ((J9 f2').trans ((J9 ((NY rfl).trans e3)).trans rfl))
theorem Zf7 (i:Int) (h0:0≤i) (h1:i<2):∃ le,oIx (.tup [(.str ("ab":Str)),(.str ("abc":Str))]) (.int i)=some (.str le)∧Zan le:=by
 have:i=0∨i=1:=by lia
 rcases this with rfl|rfl
 ·exact⟨_,rfl,.ab⟩
 ·exact⟨_,rfl,.abc⟩
theorem ZaW (n:Int):∃ ts,NK [.int n]=some (.tup ts)∧(∀ t∈ts,Wx t)∧ts.length≤7:=by
 obtain⟨le,hle,L⟩:=Zf7 (n / 4%2) (by lia) (by lia)
 obtain⟨ts1,e1,p1,l1⟩:=ZdJ L (n / 8)
 have third:∃ ts,(fIf (J7 (f2 oGt (f2 Mo (Zb 0) (fC (.int 4))) (fC (.int 1)))) (YJ 2 (G2 (Ua g1 (Gy (f2 Mo (f2 Ds (Zb 0) (fC (.int 8))) (fC (.int 5)))) GJ (ZV GC (Z6 (ZV Jk (Z6 (ZQ 1) (Z6 (f2 Ys (fC (.int 9)) (Zb 0)) J2))) (Z6 (ZQ 2) J2)))))) (fIf (J7 (f2 oEq (f2 Mo (Zb 0) (fC (.int 4))) (fC (.int 1)))) (YJ 2 (f2 Ys (Zb 2) (G2 (Wq (Z6 (ZV GC (Z6 (ZV Jk (Z6 (ZQ 0) (Z6 (fC (.int 9)) J2))) (Z6 (ZQ 1) J2))) J2))))) Yt))
   [some (Dv.th (.int n)),some (Dv.th (.str le)),some (Dv.th (.lst ts1)),none]=some (.nx [some (Dv.th (.int n)),some (Dv.th (.str le)),some (Dv.th (.lst ts)),none])∧(∀ t∈ts,Wx t)∧ts.length≤7:=by
  by_cases h:1<n%4
  ·obtain⟨ys,ey,py,ly⟩:=Zch (fi:=Gy (f2 Mo (f2 Ds (Zb 0) (fC (.int 8))) (fC (.int 5)))) (fe:=ZV GC (Z6 (ZV Jk (Z6 (ZQ 1) (Z6 (f2 Ys (fC (.int 9)) (Zb 0)) J2))) (Z6 (ZQ 2) J2))) (d:=[some (Dv.th (.int n)),some (Dv.th (.str le)),some (Dv.th (.lst ts1)),none]) (ts:=L2.upTo (n / 8%5).toNat) (P:=Wx)
    (by unfold Gy;simp (disch:=lia) only [f2,Zb,Zi,fC,Zo,NZ,mod_int];rw[if_pos (by lia)]) (by simp[L2.upTo];lia) (fun t ht=>by
     obtain⟨k,_,rfl⟩:=ZE.mp (show t∈(Jg (n / 8%5).toNat).map fun (k:Nat)=>Th.int ((k:Nat):Int) from ht)
     have d1:=WP n (9+k)
     obtain⟨l,r,e,ok⟩:=Z84 L (drawn n (9+k))
     refine⟨.tup [.str l,.str r],?_,l,r,rfl,ok⟩
     simp (disch:=lia) only [ZV,Z6,ZQ,Zs,Zi,f2,fC,Zb,Zo,GW,J2]
     simp only[d1]
     simp (disch:=lia) only [Zo]
     simp only[e])
   refine⟨ys,?_,py,by rw[ly];simp[L2.upTo];lia⟩
   simp (disch:=lia) only [fIf,J7,f2,Zb,Zi,fC,Zo,mod_int,gt_int,YJ,Zd,Ze,G2,eq_int,Zs,Wq,Z6,ZV,ZQ,J2,Yt]
   simp only[decide_eq_true h,if_true,ey]
   rfl
  ·by_cases h1:n%4=1
   ·have d1:=WP n 9
    obtain⟨l,r,e,ok⟩:=Z84 L (drawn n 9)
    have p:=Fw (x:=ts1) (y:=[.tup [.str l,.str r]]) (by simp;lia)
    refine⟨ts1++[.tup [.str l,.str r]],?_,fun t ht=>?_,by simp;omega⟩
    ·simp (disch:=lia) only [fIf,J7,f2,Zb,Zi,fC,Zo,mod_int,gt_int,YJ,Zd,Ze,G2,eq_int,Zs,Wq,Z6,ZV,ZQ,J2,Yt]
     simp only[decide_eq_false h,if_false,Zj,h1,ZjI,if_true]
     try simp (disch:=lia) only [Qi,Uv,YJ,Ga,fIf,Yt,f2,Zb,ZQ,fC,fCL,Z6,J2,ZV,fCB,J7,Z1y,Z3a,Zdk,Zci,fOr,Zj6,Zcg,ZfL,Z4C,Z6Z,Z4G,Z4A,Z4y,Z4E,Z1t,Z34,Z1v,Z1s,DQ,Z1u,Z2Z,Z4J,Z33,Z2X,Z2V,Z31,Z4D,Z70,Z4H,Z4B,Z4z,Z4F,Z2Y,Z4I,Z32,Z2W,Z2U,Z30,W6,G2,Wq,Z36,UV,Yc,fSl,GS,Yr,Zn,ZT,ZJ,gz_,gs_,Jm,Mz,ob_,Z7,Option.bind_none,Option.map_none,Ze,Zd,GW,sub_int,Q3,mod_int,NZ,Bp,Z9i,len_str,ZbJ,le_int,gt_int,ge_int,lt_int,eq_int,ne_int,Zj8,eq_str,GU,QP,Zhy,if_true,if_false,Zj,reduceIte,N3,N0,Mz,Zl,NM]
     simp only[d1]
     simp (disch:=lia) only [Zo]
     simp only[e]
     simp (disch:=lia) only [Zo,Z36,Yr,Jm,Mz,if_true,Z7]
     simp only[p]
     rfl
    ·rcases ZW.mp ht with z|z
     ·exact p1 t z
     ·have:=Jf.mp z
      subst this
      exact⟨l,r,rfl,ok⟩
   ·refine⟨ts1,?_,p1,by lia⟩
    simp (disch:=lia) only [fIf,J7,f2,Zb,Zi,fC,Zo,mod_int,gt_int,YJ,Zd,Ze,G2,eq_int,Zs,Wq,Z6,ZV,ZQ,J2,Yt]
    have:(n%4 == 1)=false:=by simpa using h1
    simp only[decide_eq_false h,if_false,Zj,this]
 obtain⟨ts,e3,p3,l3⟩:=third
 have lA:=Cw ts (some (n / 640%5)) none
 have lB:=Cw ts none (some (n / 640%5))
 have hcut:(Dt ts (some (n / 640%5)) none++Dt ts none (some (n / 640%5))).length≤7:=by
  rw[Z5Y _ (by lia),Z5X _ (by lia),Zf,ZS,ZC];omega
 refine⟨Dt ts (some (n / 640%5)) none++Dt ts none (some (n / 640%5)),?_,fun t ht=>(ZW.mp ht).elim (fun z=>p3 t (Cu z)) fun z=>p3 t (Cu z),hcut⟩
 have p:=Fw (x:=Dt ts (some (n / 640%5)) none) (y:=Dt ts none (some (n / 640%5))) (by lia)
 unfold NK Z3y
 refine YR rfl ?_
 refine (J9 (d':=[some (Dv.th (.int n)),some (Dv.th (.str le)),none,none]) ?_).trans ?_
 ·simp (disch:=lia) only [YJ,GS,Yr,Jm,N0,Zn,ZT,ZJ,Zd,Ze,f2,fC,Zb,Zi,Zo,NZ,mod_int]
  simp only[hle]
  rfl
 refine (J9 (d':=[some (Dv.th (.int n)),some (Dv.th (.str le)),some (Dv.th (.lst ts1)),none]) ?_).trans ?_
 ·simp (disch:=lia) only [YJ,Zd,Ze,ZV,Z6,f2,Zb,Zi,fC,Zo,NZ,ZQ,Zs,J2]
  simp only[e1]
  rfl
 refine (J9 e3).trans ?_
 refine (J9 (d':=[some (Dv.th (.int n)),some (Dv.th (.str le)),some (Dv.th (.lst ts)),some (Dv.th (.int (n / 640%5)))]) ?_).trans ?_
 ·simp (disch:=lia) only [YJ,Zd,Ze,f2,Zb,Zi,fC,Zo,NZ,mod_int,Z7]
 simp (disch:=lia) only [Ga,fCB,Z6,f2,fSl,Zb,Zs,Zi,UV,ZQ,Yc,Zo,J2]
 simp only[Z7W,ob_,p]
 rfl
theorem Z74 {a b:FD}{d:Sd}{x y:Th}(h1:a d=some x)(h2:b d=some y):W6 (Z6 a (Z6 b J2)) d=some (.tup [x,y]):=by
 unfold W6 Z6 J2 Z36
 rw[h1,h2]
 rfl
theorem FN (w:W)(p:Nat)(hw:w.length≤100000):oSl (tS w) (some (p:Int)) none=some (tS (w.drop p)):=by
 unfold tS
 rw[Z14 (by rw[BL];lia)]
 congr 2
 unfold Z60
 rw[ZcP,Z5Y _ (by simp)]
 rfl
theorem Z1A (w:W)(p:Nat)(hw:w.length≤100000):oSl (tS w) none (some (p:Int))=some (tS (w.take p)):=by
 unfold tS
 rw[Z14 (by rw[BL];lia)]
 congr 2
 unfold Z60
 rw[ZcP,Z5X _ (by lia)]
 rfl
theorem Z41 {R:List Ru}{k:Nat}{r:Ru}(h:R[k]?=some r):oIx (RT R) (.int (k:Int))=some (rTh r):=by
 have hk:k<R.length:=(Zq.mp h).1
 show atI (R.map rTh) (k:Int)=_
 rw[FP (by lia) (by rw[Z3];lia),Yz,Jc,h]
 rfl
theorem C9 {l w:W}(hl:l≠[])(hw:w.length≤1000):∀ (n lo:Nat) (acc:Lt_),w.length+1-lo<n→acc.length+(w.length+1-lo)≤2000 →
  Gu (J7 (f2 oGe (Zb 3) (fC (.int 0)))) (Uv (UR 2 (ZQ 3)) (YJ 3 (fM2 (fun z y i=>some (.int (Du z y i))) (Zb 1) (Zb 0) (f2 Ys (Zb 3) (fC (.int 1)))))) n
   [some (Dv.th (tS l)),some (Dv.th (tS w)),some (Dv.own acc),some (Dv.th (.int (Zar (YB l w lo))))] =
   some (.nx [some (Dv.th (tS l)),some (Dv.th (tS w)),some (Dv.own (acc++(allAt l w lo).map fun (i:Nat)=>Th.int (i:Int))),some (Dv.th (.int (-1)))])
 |0,lo,acc,h,_=>absurd h (by simp)
 |n+1,lo,acc,h,hz=>by
  unfold Gu
  cases hf:YB l w lo with
  |none =>
   rw[Z0O hf]
   simp only[Zar,J7,f2,Zb,fC,gs_,gz_,ob_,ge_int,Qn,Uq]
   rfl
  |some p =>
   obtain⟨h1,h2,h3⟩:=CG hf
   have e0:decide ((0:Int)≤(p:Int))=true:=decide_eq_true (by lia)
   have e1:acc.length<1000000:=by lia
   have f3:=Zce (w:=w) hl (p+1)
   have ih:=C9 hl hw n (p+1) (acc++[Th.int (p:Int)]) (by lia) (by rw[Zf,Dn];lia)
   simp only[Zar,J7,f2,Zb,fC,gs_,gz_,ob_,ge_int,e0,if_true,Uv,UR,ZQ,e1,Ze,Zd,YJ,fM2,tS,GW,Z7]
   rw[show ((p:Int)+1)=((p+1:Nat):Int) by rfl,f3]
   simp only[tS] at ih
   rw[ih,h3,Zt,Z8]
   rfl
theorem Z2p {l w:W}(hl:l≠[])(hw:w.length≤1000):YL [tS l,tS w]=some (.lst ((allAt l w 0).map fun (i:Nat)=>Th.int (i:Int))):=by
 unfold YL CC
 refine YR rfl ?_
 refine (J9 (d':=[some (Dv.th (tS l)),some (Dv.th (tS w)),some (Dv.own []),none]) rfl).trans ?_
 refine (J9 (d':=[some (Dv.th (tS l)),some (Dv.th (tS w)),some (Dv.own []),some (Dv.th (.int (Zar (YB l w 0))))]) ?_).trans ?_
 ·have f0:=Z9K (w:=w) hl
  simp only[YJ,fM1,f2,Zb,GS,Yr,Zn,ZT,ZJ,gs_,gz_,ob_,Z7,tS,f0,Ze,Zd]
 refine (J9 (Co (C9 hl hw (w.length+5) 0 [] (by simp) (by simp;lia)))).trans ?_
 rfl
theorem ZhF {w:W}{k:Nat}{d:Sd}(hd:d[3]?=some (some (Dv.th (.int (k:Int))))):∀ (is:List Nat),Nh g1 GJ (W6 (Z6 (ZQ 0) (Z6 (ZQ 4) J2))) d (is.map fun (i:Nat)=>Th.int (i:Int))=some ((is.map fun p=>(p,k)).map MS)
 |[]=>rfl
 |i::is=>by
  have ih:=ZhF (w:=w) hd is
  have e:W6 (Z6 (ZQ 0) (Z6 (ZQ 4) J2)) (some (Dv.th (.int (i:Int)))::d)=some (MS (i,k)):=by
   refine Z74 rfl ?_
   unfold ZQ
   rw[gs_,hd]
  simp only[Zt,Nh,g1,GJ,ob_,ZT,ZJ,if_true,e]
  rw[ih]
  rfl
theorem Zae (l w:W):(allAt l w 0).length≤w.length+1:=by
 unfold allAt
 have:=GL (Y2 l w) (Um 0 (w.length+1-0))
 rw[Fq] at this
 omega
theorem Z3h {R0:List Ru}{w:W}(hw:w.length≤1000):∀ (R:List Ru) (k:Nat) (acc:Lt_) (x3 x4:Option Dv),(∀ r∈R,r.1≠[])→acc.length+R.length*1001≤900000 →
  ∃ y3 y4,W1 (NX 3 4) (Mq 2 (G2 (Ua g1 (YW (ZV YL (Z6 (f2 oIx (Zb 4) (fC (.int 0))) (Z6 (ZQ 1) J2)))) GJ (W6 (Z6 (ZQ 0) (Z6 (ZQ 4) J2)))))) (numbered k (R.map rTh))
   [some (Dv.th (RT R0)),some (Dv.th (tS w)),some (Dv.own acc),x3,x4]=some (.nx [some (Dv.th (RT R0)),some (Dv.th (tS w)),some (Dv.own (acc++(Gp w k R).map MS)),y3,y4])
 |[],k,acc,x3,x4,_,_=>⟨x3,x4,by simp[L2.numbered,W1,Gp]⟩
 |r::R,k,acc,x3,x4,hR,hz=>by
  have hl:=hR r Z1
  have pe:=Z2p hl hw
  have al:=Zae r.1 w
  have e1:Ua g1 (YW (ZV YL (Z6 (f2 oIx (Zb 4) (fC (.int 0))) (Z6 (ZQ 1) J2)))) GJ (W6 (Z6 (ZQ 0) (Z6 (ZQ 4) J2)))
    [some (Dv.th (RT R0)),some (Dv.th (tS w)),some (Dv.own acc),some (Dv.th (.int (k:Int))),some (Dv.th (rTh r))]=some (((allAt r.1 w 0).map fun p=>(p,k)).map MS):=by
   have ei:YW (ZV YL (Z6 (f2 oIx (Zb 4) (fC (.int 0))) (Z6 (ZQ 1) J2))) [some (Dv.th (RT R0)),some (Dv.th (tS w)),some (Dv.own acc),some (Dv.th (.int (k:Int))),some (Dv.th (rTh r))]
    =some ((allAt r.1 w 0).map fun (i:Nat)=>Th.int (i:Int)):=by
    have e0:oIx (rTh r) (.int 0)=some (tS r.1):=rfl
    simp only[YW,ZV,Z6,J2,f2,Zb,ZQ,fC,gs_,gz_,ob_,e0,pe]
    rfl
   unfold Ua
   rw[ei,ob_,if_pos (by rw[Z3];lia)]
   exact ZhF (w:=w) rfl _
  have hz1:acc.length+(((allAt r.1 w 0).map fun p=>(p,k)).map MS).length≤1000000:=by
   rw[Z3,Z3]
   rw[Zl] at hz
   lia
  obtain⟨y3,y4,ih⟩:=Z3h (R0:=R0) hw R (k+1) (acc++((allAt r.1 w 0).map fun p=>(p,k)).map MS) (some (Dv.th (.int (k:Int)))) (some (Dv.th (rTh r))) (fun q hq=>hR q (Z4 _ hq)) (by
   rw[Zf,Z3,Z3]
   rw[Zl] at hz
   lia)
  refine⟨y3,y4,?_⟩
  rw[Zt]
  unfold L2.numbered W1
  have g:NX 3 4 (.tup [.int (k:Int),rTh r]) [some (Dv.th (RT R0)),some (Dv.th (tS w)),some (Dv.own acc),x3,x4]=some [some (Dv.th (RT R0)),some (Dv.th (tS w)),some (Dv.own acc),some (Dv.th (.int (k:Int))),some (Dv.th (rTh r))]:=rfl
  rw[g,ob_]
  have x:Mq 2 (G2 (Ua g1 (YW (ZV YL (Z6 (f2 oIx (Zb 4) (fC (.int 0))) (Z6 (ZQ 1) J2)))) GJ (W6 (Z6 (ZQ 0) (Z6 (ZQ 4) J2)))))
    [some (Dv.th (RT R0)),some (Dv.th (tS w)),some (Dv.own acc),some (Dv.th (.int (k:Int))),some (Dv.th (rTh r))] =
    some (.nx [some (Dv.th (RT R0)),some (Dv.th (tS w)),some (Dv.own (acc++((allAt r.1 w 0).map fun p=>(p,k)).map MS)),some (Dv.th (.int (k:Int))),some (Dv.th (rTh r))]):=by
   simp only[Mq,G2,e1,gs_,gz_,Z7,ob_,Z2b,if_pos hz1,Ze,Zd]
  rw[x]
  simp only[ob_]
  rw[ih]
  have hc:Gp w k (r::R)=(allAt r.1 w 0).map (fun p=>(p,k))++Gp w (k+1) R:=rfl
  rw[hc,JX,Z8]
theorem Z8s {R:List Ru}{w:W}(hR:∀ r∈R,r.1≠[])(hn:R.length≤100)(hw:w.length≤1000):NI [RT R,tS w]=some (.tup ((JO R w).map MS)):=by
 obtain⟨y3,y4,lp⟩:=Z3h (R0:=R) hw R 0 [] none none hR (by simp;lia)
 unfold NI Z67
 refine YR rfl ?_
 refine (J9 (d':=[some (Dv.th (RT R)),some (Dv.th (tS w)),some (Dv.own []),none,none]) rfl).trans ?_
 have hf:Z0C (W7 (ZQ 0)) (NX 3 4) (Mq 2 (G2 (Ua g1 (YW (ZV YL (Z6 (f2 oIx (Zb 4) (fC (.int 0))) (Z6 (ZQ 1) J2)))) GJ (W6 (Z6 (ZQ 0) (Z6 (ZQ 4) J2))))))
   [some (Dv.th (RT R)),some (Dv.th (tS w)),some (Dv.own []),none,none]=some (.nx [some (Dv.th (RT R)),some (Dv.th (tS w)),some (Dv.own ((Gp w 0 R).map MS)),y3,y4]):=by
  rw[NY (ts:=numbered 0 (R.map rTh)) rfl]
  exact lp
 refine (J9 hf).trans ?_
 have hs:=Z40 (w:=w) hR
 have ho:=Zha (Gp w 0 R)
 simp only[Ga,fCB,Z6,J2,G2,Cp,Z2B,Zb,gs_,gz_,ob_,Z7,ho,if_true,hs,Nu]
theorem Zjx {R0:List Ru}{w:W}{p:Nat}(hw:w.length≤1000){x2:Option Dv}:∀ (R:List Ru) (k:Nat),
  Nh g2 (J7 (fM1 (fun z y=>some (.bl (Ya z y))) (fSl (Zb 3) (UV (ZQ 5)) Yc) (f2 oIx (Zb 1) (fC (.int 0))))) (W6 (Z6 (ZQ 5) (Z6 (ZQ 0) J2)))
   [some (Dv.th (RT R0)),some (Dv.th (tS w)),x2,some (Dv.th (.int (p:Int)))] (numbered k (R.map rTh))=some ((UN w p k R).map MS)
 |[],k=>rfl
 |r::R,k=>by
  have ih:=Zjx (R0:=R0) (p:=p) hw (x2:=x2) R (k+1)
  rw[Zt]
  unfold L2.numbered Nh
  have g:g2 (.tup [.int (k:Int),rTh r])=some [some (Dv.th (.int (k:Int))),some (Dv.th (rTh r))]:=rfl
  rw[g]
  simp only[ob_,ZT,ZJ]
  have e1:J7 (fM1 (fun z y=>some (.bl (Ya z y))) (fSl (Zb 3) (UV (ZQ 5)) Yc) (f2 oIx (Zb 1) (fC (.int 0)))) [some (Dv.th (.int (k:Int))),some (Dv.th (rTh r)),some (Dv.th (RT R0)),some (Dv.th (tS w)),x2,some (Dv.th (.int (p:Int)))]=some (Y2 r.1 w p):=by
   have e0:oIx (rTh r) (.int 0)=some (tS r.1):=rfl
   have e2:=FN w p (by lia)
   have e3:=Z26 (w.drop p) r.1
   simp only[J7,fM1,f2,fSl,UV,Yc,Zb,ZQ,fC,gs_,gz_,ob_,e0,e2]
   simp only[tS,e3]
   rfl
  have e4:W6 (Z6 (ZQ 5) (Z6 (ZQ 0) J2)) [some (Dv.th (.int (k:Int))),some (Dv.th (rTh r)),some (Dv.th (RT R0)),some (Dv.th (tS w)),x2,some (Dv.th (.int (p:Int)))]=some (MS (p,k)):=Z74 rfl rfl
  have hc:UN w p k (r::R)=if Y2 r.1 w p=true then (p,k)::UN w p (k+1) R else UN w p (k+1) R:=rfl
  rw[e1,ob_,e4,hc]
  cases hs:Y2 r.1 w p with
  |true=>rw[ih];rfl
  |false=>rw[if_neg (by simp),if_neg (by simp)];exact ih
theorem BR {R:List Ru}{w:W}(hn:R.length≤100)(hw:w.length≤1000):∀ (ps:List Nat) (acc:Lt_) (x3:Option Dv),acc.length+ps.length*100≤900000 →
  ∃ y3,W1 (Z1x 3) (YJ 2 (f2 Ys (Zb 2) (G2 (Ua g2 (W7 (ZQ 0)) (J7 (fM1 (fun z y=>some (.bl (Ya z y))) (fSl (Zb 3) (UV (ZQ 5)) Yc) (f2 oIx (Zb 1) (fC (.int 0))))) (W6 (Z6 (ZQ 5) (Z6 (ZQ 0) J2))))))) (ps.map fun (k:Nat)=>Th.int (k:Int))
   [some (Dv.th (RT R)),some (Dv.th (tS w)),some (Dv.th (.lst acc)),x3]=some (.nx [some (Dv.th (RT R)),some (Dv.th (tS w)),some (Dv.th (.lst (acc++(ps.flatMap fun p=>UN w p 0 R).map MS))),y3])
 |[],acc,x3,_=>⟨x3,by simp[W1]⟩
 |p::ps,acc,x3,hz=>by
  have hr:=Z42 w p 0 R
  rw[Zl] at hz
  obtain⟨y3,ih⟩:=BR hn hw ps (acc++(UN w p 0 R).map MS) (some (Dv.th (.int (p:Int)))) (by rw[Zf,Z3];lia)
  refine⟨y3,?_⟩
  rw[Zt]
  unfold W1
  have g:Z1x 3 (.int (p:Int)) [some (Dv.th (RT R)),some (Dv.th (tS w)),some (Dv.th (.lst acc)),x3]=some [some (Dv.th (RT R)),some (Dv.th (tS w)),some (Dv.th (.lst acc)),some (Dv.th (.int (p:Int)))]:=rfl
  rw[g,ob_]
  have row:=Zjx (R0:=R) (p:=p) hw (x2:=some (Dv.th (.lst acc))) R 0
  have c:Ua g2 (W7 (ZQ 0)) (J7 (fM1 (fun z y=>some (.bl (Ya z y))) (fSl (Zb 3) (UV (ZQ 5)) Yc) (f2 oIx (Zb 1) (fC (.int 0))))) (W6 (Z6 (ZQ 5) (Z6 (ZQ 0) J2)))
    [some (Dv.th (RT R)),some (Dv.th (tS w)),some (Dv.th (.lst acc)),some (Dv.th (.int (p:Int)))]=some ((UN w p 0 R).map MS):=by
   unfold Ua
   have ee:W7 (ZQ 0) [some (Dv.th (RT R)),some (Dv.th (tS w)),some (Dv.th (.lst acc)),some (Dv.th (.int (p:Int)))]=some (numbered 0 (R.map rTh)):=rfl
   rw[ee,ob_,if_pos (by rw[Ug,Z3];lia)]
   exact row
  have pl:=Fw (x:=acc) (y:=(UN w p 0 R).map MS) (by rw[Z3];lia)
  have st:YJ 2 (f2 Ys (Zb 2) (G2 (Ua g2 (W7 (ZQ 0)) (J7 (fM1 (fun z y=>some (.bl (Ya z y))) (fSl (Zb 3) (UV (ZQ 5)) Yc) (f2 oIx (Zb 1) (fC (.int 0))))) (W6 (Z6 (ZQ 5) (Z6 (ZQ 0) J2))))))
    [some (Dv.th (RT R)),some (Dv.th (tS w)),some (Dv.th (.lst acc)),some (Dv.th (.int (p:Int)))]=some (.nx [some (Dv.th (RT R)),some (Dv.th (tS w)),some (Dv.th (.lst (acc++(UN w p 0 R).map MS))),some (Dv.th (.int (p:Int)))]):=by
   simp only[YJ,f2,Zb,G2,c,gs_,gz_,ob_,Z7,pl,Ze,Zd]
  rw[st]
  simp only[ob_]
  rw[ih,ZcD,JX,Z8]
theorem Cg {R:List Ru}{w:W}(hn:R.length≤100)(hw:w.length≤1000):G0 [RT R,tS w]=some (.lst ((JO R w).map MS)):=by
 obtain⟨y3,lp⟩:=BR hn hw (Jg w.length) [] none (by simp;lia)
 unfold G0 Z0M
 refine YR rfl ?_
 refine (J9 (d':=[some (Dv.th (RT R)),some (Dv.th (tS w)),some (Dv.th (.lst [])),none]) rfl).trans ?_
 have hf:Z0C (Gy (fCB MT (Z6 (Zb 1) J2))) (Z1x 3) (YJ 2 (f2 Ys (Zb 2) (G2 (Ua g2 (W7 (ZQ 0)) (J7 (fM1 (fun z y=>some (.bl (Ya z y))) (fSl (Zb 3) (UV (ZQ 5)) Yc) (f2 oIx (Zb 1) (fC (.int 0))))) (W6 (Z6 (ZQ 5) (Z6 (ZQ 0) J2)))))))
   [some (Dv.th (RT R)),some (Dv.th (tS w)),some (Dv.th (.lst [])),none]=some (.nx [some (Dv.th (RT R)),some (Dv.th (tS w)),some (Dv.th (.lst ((JO R w).map MS))),y3]):=by
  have hl:=len_str (x:=sL w) (by rw[BL];lia)
  have e:Gy (fCB MT (Z6 (Zb 1) J2)) [some (Dv.th (RT R)),some (Dv.th (tS w)),some (Dv.th (.lst [])),none]=some (L2.upTo w.length):=by
   simp only[Gy,fCB,Z6,J2,Zb,gs_,gz_,ob_,tS,hl]
   rw[if_pos (by rw[BL];lia),BL,Yz]
  rw[NY e,Z7H]
  have lp':=lp
  rw[ZJ] at lp'
  exact lp'
 refine (J9 hf).trans ?_
 rfl
theorem Bk {a b:W}(h:a.length+b.length≤1000000):Ys (tS a) (tS b)=some (tS (a++b)):=by
 unfold tS
 rw[Z1a (by rw[BL,BL];exact h),Zg8]
theorem Z2K {a:W}(h:a.length≤1000000):MT [tS a]=some (.int (a.length:Int)):=by
 unfold tS
 rw[len_str (by rw[BL];exact h)]
 rfl
theorem BN {r:Ru}{w:W}{p:Nat}(hw:w.length≤10000)(h1:r.1.length≤10000)(h2:r.2.length≤10000):YK [rTh r,tS w,.int (p:Int)]=some (tS (chW r w p)):=by
 unfold YK CB
 refine YR rfl ?_
 have e0:oIx (rTh r) (.int 0)=some (tS r.1):=rfl
 have e1:oIx (rTh r) (.int 1)=some (tS r.2):=rfl
 have s1:=Z1A w p (by lia)
 have s2:=FN w (p+r.1.length) (by lia)
 have l1:=Z2K (a:=r.1) (by lia)
 have p1:=Bk (a:=w.take p) (b:=r.2) (by rw[ZC];lia)
 have p2:=Bk (a:=w.take p++r.2) (b:=w.drop (p+r.1.length)) (by rw[Zf,ZC,ZS];omega)
 simp only[Ga,f2,fSl,UV,Yc,Zb,ZQ,fC,fCB,Z6,J2,GS,Yr,Zn,ZT,ZJ,gs_,gz_,ob_,Z7,e0,e1,s1,l1,GW,p1]
 rw[show ((p:Int)+(r.1.length:Int))=((p+r.1.length:Nat):Int) by rfl,s2]
 simp only[ob_,p2,Z7]
 rfl
theorem Z2P {R:List Ru}{r:Ru}{w:W}{p k:Nat}(hr:R[k]?=some r)(hw:w.length≤10000)(h1:r.1.length≤10000)(h2:r.2.length≤10000):G5 [RT R,tS w,.int (p:Int),.int (k:Int)]=some (tS (chW r w p)):=by
 unfold G5 CD
 refine YR rfl ?_
 have e0:=Z41 hr
 refine (J9 (d':=[some (Dv.th (RT R)),some (Dv.th (tS w)),some (Dv.th (.int (p:Int))),some (Dv.th (.int (k:Int))),some (Dv.th (tS r.1)),some (Dv.th (tS r.2))]) ?_).trans ?_
 ·simp only[Zhz,f2,Zb,GS,Yr,Zn,ZT,ZJ,gs_,gz_,ob_,e0]
  rfl
 have s1:=Z1A w p (by lia)
 have s2:=FN w (p+r.1.length) (by lia)
 have l1:=Z2K (a:=r.1) (by lia)
 have p1:=Bk (a:=w.take p) (b:=r.2) (by rw[ZC];lia)
 have p2:=Bk (a:=w.take p++r.2) (b:=w.drop (p+r.1.length)) (by rw[Zf,ZC,ZS];lia)
 simp only[Ga,f2,fSl,UV,Yc,Zb,ZQ,fC,fCB,Z6,J2,gs_,gz_,ob_,Z7,s1,l1,GW,p1]
 rw[show ((p:Int)+(r.1.length:Int))=((p+r.1.length:Nat):Int) by lia,s2]
 simp only[ob_,p2,Z7]
 rfl
noncomputable def chs (R:List Ru)(w:W)(xs:List (Nat×Nat)):List W:=xs.filterMap fun x=>(R[x.2]?).map fun r=>chW r w x.1
theorem Z7P:∀ l:List W,Na (l.map tS)=some (l.map sL)
 |[]=>rfl
 |a::l=>by
  show (Na (l.map tS)).map (sL a::·)=_
  rw[Z7P l]
  rfl
noncomputable def BQ (R:List Ru)(w:W):Ls_:=Ng (Sg.metS ((NR R w).map sL))
structure Z3G (R:List Ru):Prop where
 few:R.length≤100
 ok:∀ r∈R,r.1≠[]∧r.1.length≤1000∧r.2.length≤1000
theorem Z3G.ne {R:List Ru}(h:Z3G R):∀ r∈R,r.1≠[]:=fun r hr=>(h.ok r hr).1
theorem Z25 {R:List Ru}{w:W}(hS:Z3G R)(hw:w.length≤30):(NR R w).length≤3000:=by
 unfold NR
 have h1:=Z3T (fun x:Nat×Nat=>(R[x.2]?).map fun r=>chW r w x.1) (JO R w)
 have h2:=WL R w
 have h3:w.length*R.length≤30*100:=W4 hw hS.few
 lia
theorem Ce {R:List Ru}{w:W}(hS:Z3G R)(hw:w.length≤1000):∀ (xs:List (Nat×Nat)) (acc:Lt_) (x3 x4:Option Dv),(∀ x∈xs,∃ r,R[x.2]?=some r)→acc.length+xs.length≤900000 →
  ∃ y3 y4,W1 (NX 3 4) (UR 2 (ZV G5 (Z6 (ZQ 0) (Z6 (ZQ 1) (Z6 (ZQ 3) (Z6 (ZQ 4) J2)))))) (xs.map MS) [some (Dv.th (RT R)),some (Dv.th (tS w)),some (Dv.own acc),x3,x4] =
   some (.nx [some (Dv.th (RT R)),some (Dv.th (tS w)),some (Dv.own (acc++(chs R w xs).map tS)),y3,y4])
 |[],acc,x3,x4,_,_=>⟨x3,x4,by simp[W1,chs]⟩
 |x::xs,acc,x3,x4,hx,hz=>by
  obtain⟨r,hr⟩:=hx x Z1
  have hk:=hS.ok r (ZZ hr)
  have ce:=Z2P (p:=x.1) (w:=w) hr (by lia) (by lia) (by lia)
  rw[Zl] at hz
  obtain⟨y3,y4,ih⟩:=Ce hS hw xs (acc++[tS (chW r w x.1)]) (some (Dv.th (.int (x.1:Int)))) (some (Dv.th (.int (x.2:Int)))) (fun y hy=>hx y (Z4 _ hy)) (by rw[Zf,Dn];lia)
  refine⟨y3,y4,?_⟩
  rw[Zt]
  unfold W1
  have g:NX 3 4 (MS x) [some (Dv.th (RT R)),some (Dv.th (tS w)),some (Dv.own acc),x3,x4]=some [some (Dv.th (RT R)),some (Dv.th (tS w)),some (Dv.own acc),some (Dv.th (.int (x.1:Int))),some (Dv.th (.int (x.2:Int)))]:=rfl
  rw[g,ob_]
  have st:UR 2 (ZV G5 (Z6 (ZQ 0) (Z6 (ZQ 1) (Z6 (ZQ 3) (Z6 (ZQ 4) J2))))) [some (Dv.th (RT R)),some (Dv.th (tS w)),some (Dv.own acc),some (Dv.th (.int (x.1:Int))),some (Dv.th (.int (x.2:Int)))] =
    some (.nx [some (Dv.th (RT R)),some (Dv.th (tS w)),some (Dv.own (acc++[tS (chW r w x.1)])),some (Dv.th (.int (x.1:Int))),some (Dv.th (.int (x.2:Int)))]):=by
   have hl:acc.length<1000000:=by lia
   simp only[UR,ZV,Z6,J2,ZQ,gs_,gz_,ob_,ce,if_pos hl,Ze,Zd]
  rw[st]
  simp only[ob_]
  have hc:chs R w (x::xs)=chW r w x.1::chs R w xs:=by
   unfold chs
   rw[Gh,hr]
   rfl
  rw[ih,hc,Zt,Z8]
  rfl
theorem WE {l:List W}(h:l.length<4000):Fz [.lst (l.map tS)]=some ((Ng (Sg.metS (l.map sL))).map Th.str):=by
 show (Na (l.map tS)).bind _=_
 rw[Z7P,ob_,if_pos (by rw[Z3];exact h)]
theorem Z0x {R:List Ru}{w:W}(hS:Z3G R)(hw:w.length≤30):UA [RT R,tS w]=some (.lst ((BQ R w).map Th.str)):=by
 have hp:∀ x∈JO R w,∃ r,R[x.2]?=some r:=fun x hx=>let ⟨r,h,_⟩:=(Gd hS.ne).mp hx;⟨r,h⟩
 have h2:=WL R w
 have h3:w.length*R.length≤30*100:=W4 hw hS.few
 obtain⟨y3,y4,lp⟩:=Ce (w:=w) hS (by lia) (JO R w) [] none none hp (by simp;lia)
 have pe:=Cg (R:=R) (w:=w) hS.few (by lia)
 unfold UA Z3z
 refine YR rfl ?_
 refine (J9 (d':=[some (Dv.th (RT R)),some (Dv.th (tS w)),some (Dv.own []),none,none]) rfl).trans ?_
 refine (J9 (d':=[some (Dv.th (RT R)),some (Dv.th (tS w)),some (Dv.own ((NR R w).map tS)),y3,y4]) ?_).trans ?_
 ·rw[NY (ts:=(JO R w).map MS) (by simp only[Bs,ZV,Z6,J2,ZQ,gs_,gz_,ob_,pe])]
  exact lp
 ·have se:=WE (l:=NR R w) (by have:=Z25 hS hw;lia)
  simp only[Ga,G2,Nv,Z6,J2,Zb,gs_,gz_,ob_,Z7,se]
  rfl
theorem Z62 {R:List Ru}{w:W}(hS:Z3G R)(hw:w.length≤1000):∀ (xs:List (Nat×Nat)),(∀ x∈xs,∃ r,R[x.2]?=some r) →
  Nh g2 GJ (ZV YK (Z6 (f2 oIx (Zb 2) (Zb 1)) (Z6 (ZQ 3) (Z6 (ZQ 0) J2)))) [some (Dv.th (RT R)),some (Dv.th (tS w))] (xs.map MS)=some ((chs R w xs).map tS)
 |[],_=>rfl
 |x::xs,hx=>by
  obtain⟨r,hr⟩:=hx x Z1
  have hk:=hS.ok r (ZZ hr)
  have ce:=BN (r:=r) (p:=x.1) (w:=w) (by lia) (by lia) (by lia)
  have ih:=Z62 hS hw xs fun y hy=>hx y (Z4 _ hy)
  have e0:=Z41 hr
  rw[Zt]
  unfold Nh
  have g:g2 (MS x)=some [some (Dv.th (.int (x.1:Int))),some (Dv.th (.int (x.2:Int)))]:=rfl
  rw[g]
  have fe:ZV YK (Z6 (f2 oIx (Zb 2) (Zb 1)) (Z6 (ZQ 3) (Z6 (ZQ 0) J2))) [some (Dv.th (.int (x.1:Int))),some (Dv.th (.int (x.2:Int))),some (Dv.th (RT R)),some (Dv.th (tS w))]=some (tS (chW r w x.1)):=by
   simp only[ZV,Z6,J2,f2,ZQ,Zb,gs_,gz_,ob_,e0,ce]
  simp only[ob_,ZT,ZJ,GJ,if_true,fe,ih]
  have hc:chs R w (x::xs)=chW r w x.1::chs R w xs:=by
   unfold chs
   rw[Gh,hr]
   rfl
  rw[hc,Zt]
theorem ZbN {R:List Ru}{w:W}(hS:Z3G R)(hw:w.length≤30):Qc [RT R,tS w]=some (.tup ((BQ R w).map Th.str)):=by
 have hp:∀ x∈JO R w,∃ r,R[x.2]?=some r:=fun x hx=>let ⟨r,h,_⟩:=(Gd hS.ne).mp hx;⟨r,h⟩
 have h2:=WL R w
 have h3:w.length*R.length≤30*100:=W4 hw hS.few
 have pe:=Z8s (R:=R) (w:=w) hS.ne hS.few (by lia)
 have cp:=Z62 (w:=w) hS (by lia) (JO R w) hp
 have se:=WE (l:=NR R w) (by have:=Z25 hS hw;lia)
 unfold Qc Za9
 refine YR rfl ?_
 have c:Ua g2 (Bs (ZV NI (Z6 (ZQ 0) (Z6 (ZQ 1) J2)))) GJ (ZV YK (Z6 (f2 oIx (Zb 2) (Zb 1)) (Z6 (ZQ 3) (Z6 (ZQ 0) J2)))) [some (Dv.th (RT R)),some (Dv.th (tS w))]=some ((NR R w).map tS):=by
  unfold Ua
  have e:Bs (ZV NI (Z6 (ZQ 0) (Z6 (ZQ 1) J2))) [some (Dv.th (RT R)),some (Dv.th (tS w))]=some ((JO R w).map MS):=by
   simp only[Bs,ZV,Z6,J2,ZQ,gs_,gz_,ob_,pe]
  rw[e,ob_,if_pos (by rw[Z3];lia)]
  exact cp
 show Ga _ [some (Dv.th (RT R)),some (Dv.th (tS w))]=_
 simp only[Ga,fCB,Z6,J2,G2,Nv,c,ob_,Z7,se,Nu]
 rfl
theorem Z5I (a b:W):CW (sL a) (sL b)=true↔ltW a b:=by
 unfold CW
 rw[decide_eq_true_eq]
 exact Iff.rfl
structure RR (R:List Ru):Prop where
 few:R.length≤11
 ok:∀ r∈R,D6 (sL r.1) (sL r.2)
theorem RR.small {R:List Ru}(h:RR R):Z3G R:=⟨Zz h.few (by decide),fun r hr=>by
 have z:=h.ok r hr
 have l1:1≤r.1.length:=z.l1
 have l6:r.1.length≤6:=z.l6
 have rl:r.2.length≤r.1.length:=z.rl
 exact⟨MY.mp ‹_›,by lia,by lia⟩⟩
theorem RR.lt {R:List Ru}(h:RR R):∀ r∈R,r.1≠[]∧ltW r.2 r.1:=fun r hr=>⟨h.small.ne r hr,(Z5I _ _).mp (h.ok r hr).less⟩
theorem RR.ne {R:List Ru}(h:RR R):∀ r∈R,r.1≠[]:=h.small.ne
theorem Z5p:∀ {ts:Lt_},(∀ t∈ts,Wx t)→∃ R:List Ru,ts=R.map rTh∧∀ r∈R,D6 (sL r.1) (sL r.2)
 |[],_=>⟨[],rfl,fun _ h=>absurd h (by simp)⟩
 |t::ts,h=>by
  obtain⟨R,e,hR⟩:=Z5p fun u hu=>h u (Z4 _ hu)
  obtain⟨l,r,rfl,ok⟩:=h t Z1
  refine⟨(l.cps.toList,r.cps.toList)::R,?_,fun q hq=>?_⟩
  ·rw[Zt,← e]
   unfold rTh tS
   rw[Fi,Fi]
  ·rcases Zp.mp hq with rfl|hq
   ·rw[Fi,Fi];exact ok
   ·exact hR q hq
noncomputable def nxW (R:List Ru)(w:W):List W:=(BQ R w).map fun s=>s.cps.toList
theorem Zhf (R:List Ru)(w:W):(nxW R w).map sL=BQ R w:=by
 unfold nxW
 rw[Jh]
 exact (Yq fun s _=>Fi s).trans (Zjg _)
theorem Z90 (R:List Ru)(w:W):(BQ R w).map Th.str=(nxW R w).map tS:=by rw[Z9b,Zhf]
theorem Z0w {R:List Ru}{w y:W}:y∈nxW R w↔y∈NR R w:=by
 have h:∀ s:Str,s∈BQ R w↔s∈(NR R w).map sL:=fun s=>((YU _).1.mem_iff).trans Sg.mem_metS
 unfold nxW
 rw[ZE]
 constructor
 ·rintro⟨s,hs,rfl⟩
  obtain⟨v,hv,rfl⟩:=ZE.mp ((h s).mp hs)
  exact hv
 ·intro hy
  exact⟨sL y,(h _).mpr (ZE.mpr ⟨y,hy,rfl⟩),rfl⟩
theorem ZbL (R:List Ru)(w:W):(nxW R w).Nodup:=by
 have h:(BQ R w).Nodup:=(YU _).1.nodup_iff.mpr (Sg.metS_nodup _)
 rw[← Zhf] at h
 exact (Ye.mp h).imp fun hne e=>hne (by rw[e])
theorem Zdd {R:List Ru}{w:W}(hR:RR R)(hw:w.length≤11):(nxW R w).length≤121:=by
 unfold nxW
 rw[Z3]
 have h1:(BQ R w).length=(Sg.metS ((NR R w).map sL)).length:=(YU _).1.length_eq
 have h2:=Sg.metS_len ((NR R w).map sL)
 rw[Z3] at h2
 have h3:(NR R w).length≤(JO R w).length:=Z3T _ _
 have h4:=WL R w
 have h5:w.length*R.length≤11*11:=W4 hw hR.few
 lia
theorem Z92 {R:List Ru}(hR:RR R){w y:W}(h:y∈nxW R w):ltW y w:=by
 obtain⟨p,r,hr,hs,rfl⟩:=(DN hR.ne).mp (Z0w.mp h)
 obtain⟨k,hk,e1⟩:=Uo hr
 exact ZbX (x:=(p,k)) hR.lt (by rw[Za hk,e1]) hs
theorem Mp {R:List Ru}(hR:RR R):∀ x∈W8,∀ y∈nxW R x,y∈W8:=fun x hx y hy=>by
 obtain⟨h1,h2⟩:=G6.mp hx
 refine G6.mpr ⟨?_,?_⟩
 ·rcases Z92 hR hy with z|z
  ·lia
  ·lia
 ·obtain⟨p,r,hr,hs,rfl⟩:=(DN hR.ne).mp (Z0w.mp hy)
  have ra:ZhO r.2:=(hR.ok r hr).ra
  intro c hc
  unfold chW at hc
  rcases ZW.mp hc with hc|hc
  ·rcases ZW.mp hc with hc|hc
   ·exact h2 c (Ub hc)
   ·exact ra c hc
  ·exact h2 c (JZ hc)
theorem Z91 {R:List Ru}(hR:RR R){w:W}:nxW R w=[]↔JO R w=[]:=by
 constructor
 ·intro h
  cases hp:JO R w with
  |nil=>rfl
  |cons x l =>
   obtain⟨r,hr,hs⟩:=(Gd hR.ne).mp (show x∈JO R w by rw[hp];exact Z1)
   have:chW r w x.1∈nxW R w:=Z0w.mpr ((DN hR.ne).mpr ⟨x.1,r,ZZ hr,hs,rfl⟩)
   rw[h] at this
   cases this
 ·intro h
  refine CV.mpr fun y hy=>?_
  have:=Z0w.mp hy
  unfold NR at this
  rw[h] at this
  cases this
theorem Zdc {R:List Ru}(hR:RR R){w y:W}(hw:w∈W8)(h:y∈nxW R w):val y<val w:=by
 refine ZfW (Z92 hR h) fun c hc=>?_
 rcases (G6.mp (Mp hR w hw y h)).2 c hc with rfl|rfl|rfl <;> decide
noncomputable def isE (R:List Ru)(x:W):Bool:=((nxW R x).length:Int) == 0
theorem Bq {R:List Ru}{x:W}:isE R x=true↔nxW R x=[]:=by
 unfold isE
 rw[beq_iff_eq]
 constructor
 ·intro h
  exact Z54.mp (by lia)
 ·intro h
  rw[h];rfl
theorem Z0X {c:FB}{F:FS}{d:Sd}(h:c d=some false):Gu c F 1 d=some (.nx d):=by
 unfold Gu;rw[h];rfl
theorem Z5a {c:FB}{F:FS}{n:Nat}{d d':Sd}{o:Out}(h:c d=some true)(hF:F d=some (.nx d'))(hn:Gu c F n d'=some o):Gu c F (n+1) d=some o:=by
 unfold Gu;rw[h,ob_,if_pos rfl,hF];exact hn
noncomputable def Z3d (R:List Ru)(v:List W):Lt_:=(Ng ((v.filter (isE R)).map sL)).map Th.str
theorem ZdN (l:List W):Z2B [.lst (l.map tS)]=some ((Ng (l.map sL)).map Th.str):=by
 show (if okT (l.map tS)=true then some (DG (l.map tS)) else none)=_
 rw[Z9b,if_pos (ZeU _),Z7U]
noncomputable abbrev cB:FB:=J7 (f2 oLt (Zb 4) (fCB MT (Z6 (Zb 2) J2)))
noncomputable abbrev bB:FS:=Uv (YJ 5 (ZV UA (Z6 (ZQ 0) (Z6 (f2 oIx (Zb 2) (Zb 4)) J2))))
 (Uv (fIf (J7 (f2 oEq (Zb 5) (fC (.lst [])))) (UR 3 (f2 oIx (Zb 2) (Zb 4))) Yt)
 (Uv (YJ 2 (f2 Ys (Zb 2) (G2 (Ua g1 (YW (ZQ 5)) (J7 (f2 (oIn true) (Zb 0) (Zb 3))) (ZQ 0)))))
 (YJ 4 (f2 Ys (Zb 4) (fC (.int 1))))))
theorem Z9O (x y:W):Y4 (tS y) (tS x)=decide (y=x):=by
 show (sL y == sL x)=_
 by_cases h:y=x
 ·subst h;simp
 ·rw[decide_eq_false h]
  exact beq_eq_false_iff_ne.mpr fun z=>h (Z0n z)
theorem Zac {x:W}:∀ {l:List W},Dm (tS x) (l.map tS)=decide (x∈l)
 |[]=>rfl
 |y::l=>by
  rw[Zt,Dm,Zac,Z9O]
  by_cases h:y=x
  ·subst h;simp
  ·have h':¬ x=y:=fun z=>h z.symm
   simp[h,h']
theorem Z9P:∀ l:List W,dpL (l.map tS)=0
 |[]=>rfl
 |x::l=>by
  rw[Zt,dpL,Z9P l]
  rfl
theorem Zjd {l:List W}{i:Nat}{x:W}(h:l[i]?=some x):oIx (.lst (l.map tS)) (.int (i:Int))=some (tS x):=by
 have hk:i<l.length:=(Zq.mp h).1
 show atI (l.map tS) (i:Int)=_
 rw[FP (by lia) (by rw[Z3];lia),Yz,Jc,h]
 rfl
theorem Z6T {R:List Ru}(hR:RR R){s:W}(hs:s∈W8){t0 t1:Option Dv}(h0:t0=some (.th (RT R))):∀ (m i:Nat) (v:List W),CL (nxW R) s i v→265720-i=m→∀ x5:Option Dv,
  ∃ n v' y5,CL (nxW R) s v'.length v'∧Gu cB bB n [t0,t1,some (.th (.lst (v.map tS))),some (.own (((v.take i).filter (isE R)).map tS)),some (.th (.int (i:Int))),x5]=some (.nx [t0,t1,some (.th (.lst (v'.map tS))),some (.own ((v'.filter (isE R)).map tS)),some (.th (.int (v'.length:Int))),y5]):=by
 have U:=Mp hR
 intro m
 induction m with
 |zero =>
  intro i v k em x5
  have hv:=Mc k.nd (U:=W8) fun y hy=>(k.vr y hy).mem U hs
  rw[Z6f] at hv
  have hi:=k.le
  have e:i=v.length:=by lia
  subst e
  refine⟨1,v,x5,k,?_⟩
  rw[U5]
  refine Z0X ?_
  have l1:MT [.lst (v.map tS)]=some (.int ((v.length:Nat):Int)):=by rw[Bp,Z3]
  simp only[cB,J7,f2,fCB,Z6,J2,Zb,gs_,gz_,ob_,l1,lt_int]
  simp
 |succ m ih =>
  intro i v k em x5
  have hv:=Mc k.nd (U:=W8) fun y hy=>(k.vr y hy).mem U hs
  rw[Z6f] at hv
  have hi:=k.le
  have l1:MT [.lst (v.map tS)]=some (.int ((v.length:Nat):Int)):=by rw[Bp,Z3]
  by_cases e:i=v.length
  ·subst e
   refine⟨1,v,x5,k,?_⟩
   rw[U5]
   refine Z0X ?_
   simp only[cB,J7,f2,fCB,Z6,J2,Zb,gs_,gz_,ob_,l1,lt_int]
   simp
  ·have hlt:i<v.length:=by lia
   obtain⟨x,hx⟩:∃ x,v[i]?=some x:=⟨_,Za hlt⟩
   have xm:x∈v:=ZZ hx
   have xa:x∈W8:=(k.vr x xm).mem U hs
   have x6:=(G6.mp xa).1
   have nl:=Zdd hR x6
   have k':=k.turn hx (ZbL R x)
   obtain⟨n,v',y5,q,en⟩:=ih (i+1) _ k' (by lia) (some (.th (.lst ((nxW R x).map tS))))
   refine⟨n+1,v',y5,q,Z5a ?_ ?_ en⟩
   ·simp only[cB,J7,f2,fCB,Z6,J2,Zb,gs_,gz_,ob_,l1,lt_int]
    have:((i:Nat):Int)<((v.length:Nat):Int):=by lia
    simp[hlt]
   have ne:=Z0x (R:=R) (w:=x) hR.small (by lia)
   rw[Z90] at ne
   have ix:=Zjd hx
   have fl:((v.take i).filter (isE R)).length≤265720:=by
    have h1:=GL (isE R) (v.take i)
    have h2:=List.length_take_le i v
    have h3:(v.take i).length≤v.length:=by rw[ZC];lia
    lia
   have tk:(v++Z2C v (nxW R x)).take (i+1)=v.take i++[x]:=by
    rw[Ym ‹_›,CK,hx];rfl
   refine (J9 (d':=[t0,t1,some (.th (.lst (v.map tS))),some (.own (((v.take i).filter (isE R)).map tS)),some (.th (.int (i:Int))),some (.th (.lst ((nxW R x).map tS)))]) ?_).trans ?_
   ·subst h0
    simp only[YJ,ZV,Z6,J2,ZQ,f2,Zb,gs_,gz_,ob_,Z7,ix,ne,Ze,Zd]
   refine (J9 (d':=[t0,t1,some (.th (.lst (v.map tS))),some (.own (((v.take i++[x]).filter (isE R)).map tS)),some (.th (.int (i:Int))),some (.th (.lst ((nxW R x).map tS)))]) ?_).trans ?_
   ·have ee:oEq (.lst ((nxW R x).map tS)) (.lst [])=some (.bl (isE R x)):=by
     unfold oEq
     rw[if_pos (decide_eq_true (by show dpL ((nxW R x).map tS)+1≤100;rw[Z9P];exact ZfP _ _))]
     show some (Th.bl (MC _ _))=_
     cases hn:nxW R x with
     |nil =>
      have:=Bq.mpr hn
      rw[this];rfl
     |cons a l =>
      have:isE R x=false:=by
       cases hz:isE R x with
       |false=>rfl
       |true=>rw[Bq.mp hz] at hn;cases hn
      rw[this];rfl
    simp only[fIf,J7,f2,Zb,fC,gs_,gz_,ob_,ee]
    cases hz:isE R x with
    |true =>
     have z:(((v.take i).filter (isE R)).map tS).length<1000000:=by rw[Z3];lia
     simp only[if_true,UR,f2,Zb,gs_,gz_,ob_,ix,if_pos z,Ze,Zd,Zaz,JX,Mt,hz,ZfD,Zt,Qn]
    |false =>
     simp only[Zj,if_false,Yt,Zaz,Mt,hz,ZfD,Uq]
   refine (J9 (d':=[t0,t1,some (.th (.lst ((v++Z2C v (nxW R x)).map tS))),some (.own (((v.take i++[x]).filter (isE R)).map tS)),some (.th (.int (i:Int))),some (.th (.lst ((nxW R x).map tS)))]) ?_).trans ?_
   ·have c:=MN (fi:=YW (ZQ 5)) (ft:=J7 (f2 (oIn true) (Zb 0) (Zb 3))) (q:=fun t=>!Dm t (v.map tS)) (ts:=(nxW R x).map tS)
     (d:=[t0,t1,some (.th (.lst (v.map tS))),some (.own (((v.take i++[x]).filter (isE R)).map tS)),some (.th (.int (i:Int))),some (.th (.lst ((nxW R x).map tS)))]) rfl (by rw[Z3];lia) fun t ht=>by
      have ei:oIn true t (.lst (v.map tS))=some (.bl (!Dm t (v.map tS))):=by
       simp only[oIn,Z9P,if_true]
       rfl
      simp only[J7,f2,Zb,gs_,gz_,ob_,ei]
    have c2:((nxW R x).map tS).filter (fun t=>!Dm t (v.map tS))=(Z2C v (nxW R x)).map tS:=by
     rw[ZfE]
     unfold Z2C
     congr 1
     refine List.filter_congr fun y _=>?_
     show (!Dm (tS y) (v.map tS))=_
     rw[Zac]
     by_cases h:y∈v <;> simp[h]
    rw[c2] at c
    have nw:(Z2C v (nxW R x)).length≤121:=Zz (GL _ _) nl
    have p:=Fw (x:=v.map tS) (y:=(Z2C v (nxW R x)).map tS) (by rw[Z3,Z3];lia)
    simp only[YJ,f2,Zb,G2,gs_,gz_,ob_,Z7,c,p,Ze,Zd,JX]
   ·rw[← tk]
    simp only[YJ,f2,Zb,fC,gs_,gz_,ob_,Z7,GW,Ze,Zd]
    rfl
theorem Ch {R:List Ru}(hR:RR R){w:W}(hw:w∈W8):∃ v,CL (nxW R) w v.length v∧UP [RT R,tS w]=some (.tup (Z3d R v)):=by
 have k0:CL (nxW R) w 0 [w]:=⟨by simp,Jv _,(fun x h=>by rw[Jf] at h;subst h;exact .refl _),(fun x h=>nomatch h),by simp⟩
 obtain⟨n,v,y5,k,e⟩:=Z6T hR hw (t0:=some (.th (RT R))) (t1:=some (.th (tS w))) rfl 265720 0 [w] k0 rfl none
 refine⟨v,k,?_⟩
 unfold UP Z6d
 refine YR rfl ?_
 refine (J9 (d':=[some (.th (RT R)),some (.th (tS w)),some (.th (.lst ([w].map tS))),none,none,none]) rfl).trans ?_
 refine (J9 (d':=[some (.th (RT R)),some (.th (tS w)),some (.th (.lst ([w].map tS))),some (.own []),none,none]) rfl).trans ?_
 refine (J9 (d':=[some (.th (RT R)),some (.th (tS w)),some (.th (.lst ([w].map tS))),some (.own []),some (.th (.int 0)),none]) rfl).trans ?_
 refine (J9 (Co e)).trans ?_
 simp only[Ga,fCB,Z6,J2,G2,Cp,Zb,gs_,gz_,ob_,Z7,ZdN,Nu]
 rfl
theorem ZbT {R:List Ru}{v:List W}{y:W}(h:y∈v)(hn:nxW R y=[]):tS y∈Z3d R v:=by
 unfold Z3d
 refine ZE.mpr ⟨sL y,(YU _).1.mem_iff.mpr (ZE.mpr ⟨y,JW.mpr ⟨h,Bq.mpr hn⟩,rfl⟩),rfl⟩
noncomputable def DS (w:W):Nat→List Ru→Lt_
 |_,[]=>[]
 |k,r::R=>.tup [.int (Zar (YB r.1 w 0)),.int (k:Int)]::DS w (k+1) R
theorem Z39 (w:W):∀ (k:Nat) (R:List Ru),(DS w k R).length=R.length
 |_,[]=>rfl
 |k,r::R=>by
  show (DS w (k+1) R).length+1=_
  rw[Z39 w (k+1) R]
  rfl
theorem Z5Q {R0:List Ru}{w:W}{x2 x3:Option Dv}:∀ (R:List Ru) (k:Nat),(∀ r∈R,r.1≠[]) →
  Nh g2 GJ (W6 (Z6 (fM1 (fun z y=>some (.int (MP z y))) (Zb 3) (f2 oIx (Zb 1) (fC (.int 0)))) (Z6 (ZQ 0) J2))) [some (Dv.th (RT R0)),some (Dv.th (tS w)),x2,x3] (numbered k (R.map rTh))=some (DS w k R)
 |[],k,_=>rfl
 |r::R,k,h=>by
  have ih:=Z5Q (R0:=R0) (w:=w) (x2:=x2) (x3:=x3) R (k+1) fun q hq=>h q (Z4 _ hq)
  rw[Zt]
  unfold L2.numbered Nh
  have g:g2 (.tup [.int (k:Int),rTh r])=some [some (Dv.th (.int (k:Int))),some (Dv.th (rTh r))]:=rfl
  rw[g]
  simp only[ob_,ZT,ZJ]
  have e1:fM1 (fun z y=>some (.int (MP z y))) (Zb 3) (f2 oIx (Zb 1) (fC (.int 0))) [some (Dv.th (.int (k:Int))),some (Dv.th (rTh r)),some (Dv.th (RT R0)),some (Dv.th (tS w)),x2,x3]=some (.int (Zar (YB r.1 w 0))):=by
   have e0:oIx (rTh r) (.int 0)=some (tS r.1):=rfl
   have e3:=Z9K (w:=w) (h r Z1)
   simp only[fM1,f2,Zb,fC,gs_,gz_,ob_,e0]
   simp only[tS,e3]
  have e4:=Z74 (a:=fM1 (fun z y=>some (.int (MP z y))) (Zb 3) (f2 oIx (Zb 1) (fC (.int 0)))) (b:=ZQ 0) (d:=[some (Dv.th (.int (k:Int))),some (Dv.th (rTh r)),some (Dv.th (RT R0)),some (Dv.th (tS w)),x2,x3]) (y:=.int (k:Int)) e1 rfl
  rw[e4,ih]
  rfl
theorem Cn (w:W):∀ (k:Nat) (R:List Ru),(DS w k R).filter (fun t=>match t with|.tup [.int i,_]=>decide (0≤i)|_=>false)=(WW w k R).map MS
 |_,[]=>rfl
 |k,r::R=>by
  have ih:=Cn w (k+1) R
  rw[show DS w k (r::R)=.tup [.int (Zar (YB r.1 w 0)),.int (k:Int)]::DS w (k+1) R from rfl,Mt,ih]
  rw[show WW w k (r::R)=(match YB r.1 w 0 with|some p=>(p,k)::WW w (k+1) R|none=>WW w (k+1) R) from rfl]
  cases hf:YB r.1 w 0 with
  |none=>rfl
  |some p =>
   have:decide ((0:Int)≤Zar (some p))=true:=decide_eq_true (by show (0:Int)≤(p:Int);lia)
   simp only[this,if_true]
   rfl
theorem Z38 {w:W}{t:Th}:∀ {k:Nat} {R:List Ru},t∈DS w k R→∃ (i:Int) (j:Nat),t=.tup [.int i,.int (j:Int)]
 |_,[],h=>nomatch h
 |k,r::R,h=>by
  rcases Zp.mp (show t∈_::DS w (k+1) R from h) with rfl|h
  ·exact⟨_,_,rfl⟩
  ·exact Z38 h
noncomputable def foT:Option W→Th
 |some y=>tS y
 |none=>.non
theorem DR {R:List Ru}{w:W}(hR:RR R)(hw:w.length≤30):UB [RT R,tS w]=some (foT (M8 R w)):=by
 have hS:=hR.small
 have few:=hR.few
 unfold UB Fb
 refine YR rfl ?_
 refine (J9 (d':=[some (.th (RT R)),some (.th (tS w)),some (.th (.lst (DS w 0 R))),none]) ?_).trans ?_
 ·have c:Ua g2 (W7 (ZQ 0)) GJ (W6 (Z6 (fM1 (fun z y=>some (.int (MP z y))) (Zb 3) (f2 oIx (Zb 1) (fC (.int 0)))) (Z6 (ZQ 0) J2))) [some (Dv.th (RT R)),some (Dv.th (tS w)),none,none]=some (DS w 0 R):=by
   unfold Ua
   have ee:W7 (ZQ 0) [some (Dv.th (RT R)),some (Dv.th (tS w)),none,none]=some (numbered 0 (R.map rTh)):=rfl
   rw[ee,ob_,if_pos (by rw[Ug,Z3];lia)]
   exact Z5Q R 0 hR.ne
  show YJ 2 _ [some (Dv.th (RT R)),some (Dv.th (tS w)),none,none]=_
  simp only[YJ,G2,c,Z7,Ze,Zd]
 refine (J9 (d':=[some (.th (RT R)),some (.th (tS w)),some (.th (.lst (DS w 0 R))),some (.th (match (JO R w).head? with|some x=>MS x|none=>.non))]) ?_).trans ?_
 ·have c:=MN (fi:=YW (ZQ 2)) (ft:=J7 (f2 oGe (f2 oIx (Zb 0) (fC (.int 0))) (fC (.int 0)))) (q:=fun t=>match t with|.tup [.int i,_]=>decide (0≤i)|_=>false) (ts:=DS w 0 R)
   (d:=[some (.th (RT R)),some (.th (tS w)),some (.th (.lst (DS w 0 R))),none]) rfl (by rw[Z39];lia) fun t ht=>by
    obtain⟨i,j,rfl⟩:=Z38 ht
    have e0:oIx (.tup [.int i,.int (j:Int)]) (.int 0)=some (.int i):=rfl
    simp only[J7,f2,Zb,fC,gz_,ob_,e0,ge_int]
  rw[Cn] at c
  have hc:=Z9F hR.ne w
  simp only[YJ,Z9M,Z6,J2,G2,c,fC,ob_,Z7,hc,Ze,Zd] <;> rfl
 cases hp:JO R w with
 |nil =>
  have:M8 R w=none:=by unfold M8;rw[hp];rfl
  rw[this]
  rfl
 |cons x l =>
  obtain⟨r,hr,hs⟩:=(Gd hR.ne).mp (show x∈JO R w by rw[hp];exact Z1)
  have:M8 R w=some (chW r w x.1):=by
   unfold M8
   rw[hp]
   show (R[x.2]?).map _=_
   rw[hr]
   rfl
  rw[this]
  have ok:=hS.ok r (ZZ hr)
  have pe:=BN (r:=r) (w:=w) (p:=x.1) (by lia) (by lia) (by lia)
  have ra:=Z41 hr
  have i1:oIx (MS x) (.int 1)=some (.int (x.2:Int)):=rfl
  have i0:oIx (MS x) (.int 0)=some (.int (x.1:Int)):=rfl
  have nn:Z4k false (MS x) .non=some (.bl false):=rfl
  simp only[List.head?_cons,Ga,fIf,J7,f2,Zb,ZQ,fC,ZV,Z6,J2,gs_,gz_,ob_,Z7,nn,Zj,if_false,i1,i0,ra,pe]
  rfl
theorem Cm {R:List Ru}(hR:RR R){w y:W}(h:M8 R w=some y):y∈nxW R w:=Z0w.mpr (Z71 hR.ne h)
theorem Z5V {R:List Ru}(hR:RR R):∀ (n:Nat) (w:W),w∈W8→val w=n→∃ y,Z55 R w y:=by
 intro n
 induction n using Dz with
 |ind n ih =>
  intro w hw e
  cases h:M8 R w with
  |none=>exact⟨w,.stop h⟩
  |some y =>
   have hy:=Cm hR h
   obtain⟨z,r⟩:=ih (val y) (by rw[← e];exact Zdc hR hw hy) y (Mp hR w hw y hy) rfl
   exact⟨z,.go h r⟩
theorem Z55.reach {R:List Ru}(hR:RR R){s w y:W}(d:Z55 R w y):Rch (nxW R) s w→Rch (nxW R) s y∧nxW R y=[]:=by
 induction d with
 |stop h=>exact fun r=>⟨r,(Z91 hR).mpr (Z72 hR.ne h)⟩
 |go h _ ih=>exact fun r=>ih (.step r (Cm hR h))
noncomputable abbrev bD:FS:=Uv (YJ 1 (ZQ 2)) (YJ 2 (ZV UB (Z6 (ZQ 0) (Z6 (ZQ 1) J2))))
theorem Zcl {R:List Ru}(hR:RR R){w y:W}(d:Z55 R w y):w∈W8 →
  ∃ n,Gu (J7 (f2 (Z4k true) (Zb 2) (fC .non))) bD n [some (.th (RT R)),some (.th (tS w)),some (.th (foT (M8 R w)))]=some (.nx [some (.th (RT R)),some (.th (tS y)),some (.th .non)]):=by
 induction d with
 |stop h =>
  intro _
  rw[h]
  exact⟨1,Z0X rfl⟩
 |@go w y z h _ ih =>
  intro hw
  have hy:=Mp hR w hw y (Cm hR h)
  obtain⟨n,e⟩:=ih hy
  rw[h]
  have fe:=DR (w:=y) hR (by have:=(G6.mp hy).1;lia)
  refine⟨n+1,Z5a rfl ?_ e⟩
  refine (J9 (d':=[some (.th (RT R)),some (.th (tS y)),some (.th (tS y))]) rfl).trans ?_
  simp only[YJ,ZV,Z6,J2,ZQ,gs_,gz_,ob_,Z7,fe,Ze,Zd]
theorem ZhB {R:List Ru}(hR:RR R){w y:W}(hw:w∈W8)(d:Z55 R w y):Nr [RT R,tS w]=some (tS y):=by
 obtain⟨n,e⟩:=Zcl hR d hw
 have fe:=DR (w:=w) hR (by have:=(G6.mp hw).1;lia)
 unfold Nr ZhH
 refine YR rfl ?_
 refine (J9 (d':=[some (.th (RT R)),some (.th (tS w)),some (.th (foT (M8 R w)))]) ?_).trans ?_
 ·show YJ 2 _ [some (.th (RT R)),some (.th (tS w)),none]=_
  simp only[YJ,ZV,Z6,J2,ZQ,gs_,gz_,ob_,Z7,fe,Ze,Zd]
 refine (J9 (Co e)).trans ?_
 rfl
theorem Z6H {l m:W}{p:Nat}(hl:l.length≤10000)(hm:m.length≤10000):NJ [tS l,tS m,.int (p:Int)]=some (tS (ovW l m p)):=by
 unfold NJ Z3x
 refine YR rfl ?_
 have s1:=Z1A l p (by lia)
 have s2:=FN l (p+m.length) (by lia)
 have l1:=Z2K (a:=m) (by lia)
 have p1:=Bk (a:=l.take p) (b:=m) (by rw[ZC];lia)
 have p2:=Bk (a:=l.take p++m) (b:=l.drop (p+m.length)) (by rw[Zf,ZC,ZS];omega)
 simp only[Ga,f2,fSl,UV,Yc,Zb,ZQ,fC,fCB,Z6,J2,GS,Yr,Zn,ZT,ZJ,gs_,gz_,ob_,Z7,s1,l1,GW,p1]
 rw[show ((p:Int)+(m.length:Int))=((p+m.length:Nat):Int) by rfl,s2]
 simp only[ob_,p2,Z7]
 rfl
theorem Z4e {l m:W}{st:Nat}(hl:l.length≤10000)(hm:m.length≤10000)(hs:st≤1):Nd [tS l,tS m,.int (st:Int)]=some (.lst ((Z7o l m st).map tS)):=by
 unfold Nd Z0L
 refine YR rfl ?_
 have e1:Dg (ZQ 2) (fCB MT (Z6 (Zb 0) J2)) [some (Dv.th (tS l)),some (Dv.th (tS m)),some (Dv.th (.int (st:Int))),none]=some (Q2 (st:Int) (l.length-st)):=by
  have l1:=Z2K (a:=l) (by lia)
  have hb:-1000000≤(st:Int)∧(st:Int)≤1000000∧-1000000≤(l.length:Int)∧(l.length:Int)≤1000000:=by lia
  simp only[Dg,fCB,Z6,J2,ZQ,Zb,gs_,gz_,ob_,l1,if_pos hb]
  rw[show ((l.length:Int)-(st:Int)).toNat=l.length-st by simp]
 have eu:Q2 (st:Int) (l.length-st)=(Um st (l.length-st)).map fun (i:Nat)=>Th.int (i:Int):=by
  unfold Q2
  rw[List.range'_eq_map_range,Jh]
  refine Yq fun k _=>?_
  show Th.int ((st:Int)+(k:Int))=Th.int ((st+k:Nat):Int)
  rw[Int.natCast_add]
 refine (J9 (d':=[some (Dv.th (tS l)),some (Dv.th (tS m)),some (Dv.th (.int (st:Int))),some (Dv.th (.lst (((Um st (l.length-st)).map (ovW l m)).map tS)))]) ?_).trans ?_
 ·have c:=Wr (fi:=Dg (ZQ 2) (fCB MT (Z6 (Zb 0) J2))) (fe:=ZV NJ (Z6 (ZQ 1) (Z6 (ZQ 2) (Z6 (ZQ 0) J2)))) (p:=fun t=>match t with|.int i=>tS (ovW l m i.toNat)|_=>.non) e1
   (by unfold Q2;rw[Z3,Yv];lia) fun t ht=>by
    rw[eu] at ht
    obtain⟨i,-,rfl⟩:=ZE.mp ht
    have oe:=Z6H (p:=i) hl hm
    simp only[ZV,Z6,J2,ZQ,gs_,gz_,ob_,oe,Yz]
  have e2:(Q2 (st:Int) (l.length-st)).map (fun t=>match t with|.int i=>tS (ovW l m i.toNat)|_=>.non)=((Um st (l.length-st)).map (ovW l m)).map tS:=by
   rw[eu,Jh,Jh]
   exact Yq fun i _=>rfl
  rw[e2] at c
  show YJ 3 _ [some (Dv.th (tS l)),some (Dv.th (tS m)),some (Dv.th (.int (st:Int))),none]=_
  simp only[YJ,G2,c,Z7,Ze,Zd]
 ·have c:=MN (fi:=YW (ZQ 3)) (ft:=J7 (fM1 (fun z y=>some (.bl (Ya z y))) (Zb 0) (Zb 1))) (q:=fun t=>match t with|.str x=>l.isPrefixOf x.cps.toList|_=>false)
   (ts:=((Um st (l.length-st)).map (ovW l m)).map tS) (d:=[some (Dv.th (tS l)),some (Dv.th (tS m)),some (Dv.th (.int (st:Int))),some (Dv.th (.lst (((Um st (l.length-st)).map (ovW l m)).map tS)))])
   rfl (by rw[Z3,Z3,Fq];lia) fun t ht=>by
    obtain⟨u,-,rfl⟩:=ZE.mp ht
    have e:=Z26 u l
    simp only[J7,fM1,f2,Zb,tS,gs_,gz_,ob_,e]
    rfl
  have e2:(((Um st (l.length-st)).map (ovW l m)).map tS).filter (fun t=>match t with|.str x=>l.isPrefixOf x.cps.toList|_=>false)=(Z7o l m st).map tS:=by
   rw[ZfE]
   rfl
  rw[e2] at c
  simp only[Ga,G2,c,Z7]
noncomputable abbrev bC:FS:=Mq 1 (ZV Nd (Z6 (f2 oIx (Zb 3) (fC (.int 0))) (Z6 (f2 oIx (Zb 5) (fC (.int 0))) (Z6 (fIf (J7 (f2 oEq (Zb 2) (Zb 4))) (fC (.int 1)) (fC (.int 0))) J2))))
theorem Z5q {t0:Option Dv}{a:Ru}{i:Nat}(ha:a.1.length≤100):∀ (R:List Ru) (j:Nat) (acc:Lt_) (x4 x5:Option Dv),(∀ r∈R,r.1.length≤100)→acc.length+R.length*100≤900000 →
  ∃ y4 y5,W1 (NX 4 5) bC (numbered j (R.map rTh)) [t0,some (Dv.own acc),some (Dv.th (.int (i:Int))),some (Dv.th (rTh a)),x4,x5] =
   some (.nx [t0,some (Dv.own (acc++(Dj a i j R).map tS)),some (Dv.th (.int (i:Int))),some (Dv.th (rTh a)),y4,y5])
 |[],j,acc,x4,x5,_,_=>⟨x4,x5,by simp[L2.numbered,W1,Dj]⟩
 |b::R,j,acc,x4,x5,hR,hz=>by
  have hb:=hR b Z1
  rw[Zl] at hz
  have oe:=Z4e (l:=a.1) (m:=b.1) (st:=if i=j then 1 else 0) (by lia) (by lia) (by split <;> simp)
  have ol:=Z8I a.1 b.1 (if i=j then 1 else 0)
  obtain⟨y4,y5,ih⟩:=Z5q (t0:=t0) (i:=i) ha R (j+1) (acc++(Z7o a.1 b.1 (if i=j then 1 else 0)).map tS) (some (Dv.th (.int (j:Int)))) (some (Dv.th (rTh b))) (fun q hq=>hR q (Z4 _ hq)) (by
   rw[Zf,Z3];lia)
  refine⟨y4,y5,?_⟩
  rw[Zt]
  unfold L2.numbered W1
  have g:NX 4 5 (.tup [.int (j:Int),rTh b]) [t0,some (Dv.own acc),some (Dv.th (.int (i:Int))),some (Dv.th (rTh a)),x4,x5]=some [t0,some (Dv.own acc),some (Dv.th (.int (i:Int))),some (Dv.th (rTh a)),some (Dv.th (.int (j:Int))),some (Dv.th (rTh b))]:=rfl
  rw[g,ob_]
  have x:bC [t0,some (Dv.own acc),some (Dv.th (.int (i:Int))),some (Dv.th (rTh a)),some (Dv.th (.int (j:Int))),some (Dv.th (rTh b))] =
    some (.nx [t0,some (Dv.own (acc++(Z7o a.1 b.1 (if i=j then 1 else 0)).map tS)),some (Dv.th (.int (i:Int))),some (Dv.th (rTh a)),some (Dv.th (.int (j:Int))),some (Dv.th (rTh b))]):=by
   have e0:oIx (rTh a) (.int 0)=some (tS a.1):=rfl
   have e1:oIx (rTh b) (.int 0)=some (tS b.1):=rfl
   have e2:(fIf (J7 (f2 oEq (Zb 2) (Zb 4))) (fC (.int 1)) (fC (.int 0)):FD) [t0,some (Dv.own acc),some (Dv.th (.int (i:Int))),some (Dv.th (rTh a)),some (Dv.th (.int (j:Int))),some (Dv.th (rTh b))]=some (.int ((if i=j then 1 else 0:Nat):Int)):=by
    simp only[fIf,J7,f2,Zb,fC,gs_,gz_,ob_,eq_int]
    by_cases h:i=j
    ·subst h;simp
    ·have:((i:Int) == (j:Int))=false:=beq_eq_false_iff_ne.mpr fun z=>h (by lia)
     rw[this,if_neg h];rfl
   have hz1:acc.length+((Z7o a.1 b.1 (if i=j then 1 else 0)).map tS).length≤1000000:=by rw[Z3];lia
   simp only[bC,Mq,ZV,Z6,J2,e2]
   simp only[f2,Zb,fC,gs_,gz_,ob_,e0,e1,oe,Z2b,if_pos hz1,Ze,Zd]
  rw[x]
  simp only[ob_]
  rw[ih]
  have hc:Dj a i j (b::R)=Z7o a.1 b.1 (if i=j then 1 else 0)++Dj a i (j+1) R:=rfl
  rw[hc,JX,Z8]
theorem Z6e {R0:List Ru}(h0:∀ r∈R0,r.1.length≤100)(h8:R0.length≤11):∀ (R:List Ru) (i:Nat) (acc:Lt_) (x2 x3 x4 x5:Option Dv),(∀ r∈R,r.1.length≤100)→acc.length+R.length*1100≤800000 →
  ∃ y2 y3 y4 y5,W1 (NX 2 3) (Z0C (W7 (ZQ 0)) (NX 4 5) bC) (numbered i (R.map rTh)) [some (Dv.th (RT R0)),some (Dv.own acc),x2,x3,x4,x5] =
   some (.nx [some (Dv.th (RT R0)),some (Dv.own (acc++(MU R0 i R).map tS)),y2,y3,y4,y5])
 |[],i,acc,x2,x3,x4,x5,_,_=>⟨x2,x3,x4,x5,by simp[L2.numbered,W1,MU]⟩
 |a::R,i,acc,x2,x3,x4,x5,hR,hz=>by
  have ha:=hR a Z1
  rw[Zl] at hz
  have rl:=Cz (i:=i) ha (j:=0) (R:=R0)
  obtain⟨z4,z5,lp⟩:=Z5q (t0:=some (Dv.th (RT R0))) (i:=i) ha R0 0 acc x4 x5 h0 (by lia)
  obtain⟨y2,y3,y4,y5,ih⟩:=Z6e h0 h8 R (i+1) (acc++(Dj a i 0 R0).map tS) (some (Dv.th (.int (i:Int)))) (some (Dv.th (rTh a))) z4 z5 (fun q hq=>hR q (Z4 _ hq)) (by
   rw[Zf,Z3];lia)
  refine⟨y2,y3,y4,y5,?_⟩
  rw[Zt]
  unfold L2.numbered W1
  have g:NX 2 3 (.tup [.int (i:Int),rTh a]) [some (Dv.th (RT R0)),some (Dv.own acc),x2,x3,x4,x5]=some [some (Dv.th (RT R0)),some (Dv.own acc),some (Dv.th (.int (i:Int))),some (Dv.th (rTh a)),x4,x5]:=rfl
  rw[g,ob_,NY (ts:=numbered 0 (R0.map rTh)) rfl,lp]
  simp only[ob_]
  rw[ih]
  have hc:MU R0 i (a::R)=Dj a i 0 R0++MU R0 (i+1) R:=rfl
  rw[hc,JX,Z8]
noncomputable def Zfs (R:List Ru):List W:=(Ng (Sg.metS ((MU R 0 R).map sL))).map fun s=>s.cps.toList
theorem Zfr (R:List Ru):(Ng (Sg.metS ((MU R 0 R).map sL))).map Th.str=(Zfs R).map tS:=by
 have e:((Ng (Sg.metS ((MU R 0 R).map sL))).map fun s=>s.cps.toList).map sL=Ng (Sg.metS ((MU R 0 R).map sL)):=by
  rw[Jh]
  exact (Yq fun s _=>Fi s).trans (Zjg _)
 rw[Z9b]
 unfold Zfs
 rw[e]
theorem Z4p {R:List Ru}{u:W}:u∈Zfs R↔ClW R u:=by
 have h:∀ s:Str,s∈Ng (Sg.metS ((MU R 0 R).map sL))↔s∈(MU R 0 R).map sL:=fun s=>((YU _).1.mem_iff).trans Sg.mem_metS
 rw[← Zhi]
 unfold Zfs
 rw[ZE]
 constructor
 ·rintro⟨s,hs,rfl⟩
  obtain⟨v,hv,rfl⟩:=ZE.mp ((h s).mp hs)
  exact hv
 ·intro hy
  exact⟨sL u,(h _).mpr (ZE.mpr ⟨u,hy,rfl⟩),rfl⟩
theorem RR.l6 {R:List Ru}(hR:RR R):∀ r∈R,r.1.length≤6:=fun r hr=>(hR.ok r hr).l6
theorem Z4S {R:List Ru}(hR:RR R){u:W}(h:ClW R u):u∈W8:=by
 obtain⟨h1,h2⟩:=Zft (P:=fun c=>c=97∨c=98∨c=99) (n:=6) (fun r hr=>(hR.ok r hr).la) hR.l6 h
 exact G6.mpr ⟨by lia,h2⟩
theorem Za0 {R:List Ru}(hR:RR R):(MU R 0 R).length≤726:=by
 have h1:=Z3j (R0:=R) (i:=0) hR.l6
 have h2:=hR.few
 have h3:R.length*(R.length*6)≤11*(11*6):=W4 h2 (ME _ h2)
 exact Zz ‹_› ‹_›
theorem Z76 {R:List Ru}(hR:RR R):NL [RT R]=some (.tup ((Zfs R).map tS)):=by
 have few:=hR.few
 have hl:∀ r∈R,r.1.length≤100:=fun r hr=>Zz (hR.l6 r hr) (by decide)
 obtain⟨y2,y3,y4,y5,lp⟩:=Z6e hl few R 0 [] none none none none hl (by simp;lia)
 unfold NL Z3C
 refine YR rfl ?_
 refine (J9 (d':=[some (Dv.th (RT R)),some (Dv.own []),none,none,none,none]) rfl).trans ?_
 refine (J9 (d':=[some (Dv.th (RT R)),some (Dv.own ((MU R 0 R).map tS)),y2,y3,y4,y5]) ?_).trans ?_
 ·rw[NY (ts:=numbered 0 (R.map rTh)) rfl]
  exact lp
 ·have se:=WE (l:=MU R 0 R) (by have:=Za0 hR;lia)
  simp only[Ga,fCB,Z6,J2,G2,Nv,Zb,gs_,gz_,ob_,Z7,se,Nu,Zfr]
open Classical in
noncomputable def JI (R:List Ru)(w:W):W:=if h:∃ y,Z55 R w y then h.choose else w
theorem Z4P {R:List Ru}{w y:W}(d:Z55 R w y):JI R w=y:=by
 have h:∃ y,Z55 R w y:=⟨y,d⟩
 unfold JI
 rw[dif_pos h]
 exact h.choose_spec.det d
theorem Z1z {R:List Ru}(hR:RR R){w:W}(hw:w∈W8):Nr [RT R,tS w]=some (tS (JI R w)):=by
 obtain⟨y,d⟩:=Z5V hR _ w hw rfl
 rw[Z4P d]
 exact ZhB hR hw d
theorem Yi {R:List Ru}(hR:RR R){w:W}(hw:w∈W8):Rch (nxW R) w (JI R w)∧nxW R (JI R w)=[]:=by
 obtain⟨y,d⟩:=Z5V hR _ w hw rfl
 rw[Z4P d]
 exact Z55.reach hR d (.refl w)
noncomputable def Z3b (R:List Ru)(w:W):Ls_:=Ng (Sg.metS (((nxW R w).map (JI R)).map sL))
theorem Z5T {R:List Ru}{w:W}:1<(Z3b R w).length↔∃ y z,y∈nxW R w∧z∈nxW R w∧JI R y≠JI R z:=by
 have hm:∀ s:Str,s∈Z3b R w↔s∈((nxW R w).map (JI R)).map sL:=fun s=>((YU _).1.mem_iff).trans Sg.mem_metS
 have hn:(Z3b R w).Nodup:=(YU _).1.nodup_iff.mpr (Sg.metS_nodup _)
 constructor
 ·intro h
  obtain⟨a,b,ha,hb,hne⟩:=ZcL hn h
  rw[hm,Jh,ZE] at ha hb
  obtain⟨y,hy,rfl⟩:=ha
  obtain⟨z,hz,rfl⟩:=hb
  exact⟨y,z,hy,hz,fun e=>hne (congrArg sL e)⟩
 ·rintro⟨y,z,hy,hz,hne⟩
  refine ZdH (a:=sL (JI R y)) (b:=sL (JI R z)) ?_ ?_ fun e=>hne (Z0n e)
  ·rw[hm,Jh,ZE];exact⟨y,hy,rfl⟩
  ·rw[hm,Jh,ZE];exact⟨z,hz,rfl⟩
theorem ZhA {R:List Ru}(hR:RR R){w:W}(hw:w∈W8):Yl [RT R,tS w]=some (.tup ((Z3b R w).map Th.str)):=by
 have w6:=(G6.mp hw).1
 have nl:=Zdd hR w6
 have ne:=ZbN (R:=R) (w:=w) hR.small (by lia)
 rw[Z90] at ne
 unfold Yl Wv
 refine YR rfl ?_
 have c:=Wr (fi:=YW (ZV Qc (Z6 (ZQ 0) (Z6 (ZQ 1) J2)))) (fe:=ZV Nr (Z6 (ZQ 1) (Z6 (ZQ 0) J2))) (p:=fun t=>match t with|.str x=>tS (JI R x.cps.toList)|_=>.non)
  (d:=[some (Dv.th (RT R)),some (Dv.th (tS w))]) (ts:=(nxW R w).map tS) (by simp only[YW,ZV,Z6,J2,ZQ,gs_,gz_,ob_,ne];rfl) (by rw[Z3];lia) fun t ht=>by
   obtain⟨y,hy,rfl⟩:=ZE.mp ht
   have ee:=Z1z hR (Mp hR w hw y hy)
   simp only[ZV,Z6,J2,ZQ,gs_,gz_,ob_,ee]
   rfl
 have e2:((nxW R w).map tS).map (fun t=>match t with|.str x=>tS (JI R x.cps.toList)|_=>.non)=((nxW R w).map (JI R)).map tS:=by
  rw[Jh,Jh]
  exact Yq fun i _=>rfl
 rw[e2] at c
 have se:=WE (l:=(nxW R w).map (JI R)) (by rw[Z3];lia)
 show Ga _ [some (Dv.th (RT R)),some (Dv.th (tS w))]=_
 simp only[Ga,fCB,Z6,J2,G2,Nv,c,ob_,Z7,se,Nu]
 rfl
theorem C5 {w:W}(h:w.length≤1000000):Qu [tS w]=some (.tup [.int (w.length:Int),tS w]):=by
 unfold Qu Zdq
 refine YR rfl ?_
 have l1:=Z2K h
 have:=Z74 (a:=fCB MT (Z6 (Zb 0) J2)) (b:=ZQ 0) (d:=[some (Dv.th (tS w))]) (x:=.int (w.length:Int)) (y:=tS w) (by simp only[fCB,Z6,J2,Zb,gz_,ob_,l1]) rfl
 show Ga _ [some (Dv.th (tS w))]=_
 simp only[Ga,this,Z7]
def leR (a b:W):Prop:=a.length<b.length∨(a.length=b.length∧leS (sL a) (sL b))
theorem Z9m (a b:W):leR a b∨leR b a:=by
 unfold leR
 rcases Z2O (sL a) (sL b) with h|h
 ·rcases Zdx a.length b.length with q|q|q
  ·exact .inl (.inl q)
  ·exact .inl (.inr ⟨q,h⟩)
  ·exact .inr (.inl q)
 ·rcases Zdx a.length b.length with q|q|q
  ·exact .inl (.inl q)
  ·exact .inr (.inr ⟨q.symm,h⟩)
  ·exact .inr (.inl q)
theorem Z9l {a b c:W}(h:leR a b)(h':leR b c):leR a c:=by
 unfold leR at *
 rcases h with h|⟨h,q⟩
 ·rcases h' with h'|⟨h',q'⟩
  ·exact .inl (by exact DA ‹_› ‹_›)
  ·exact .inl (by lia)
 ·rcases h' with h'|⟨h',q'⟩
  ·exact .inl (by lia)
  ·exact .inr ⟨by lia,Z2N q q'⟩
open Classical in
theorem ZaT {l:List W}(hl:∀ w∈l,w.length≤1000000):∃ r:List W,r.Perm l∧Z28 Qu (l.map tS)=some (r.map tS):=by
 refine⟨l.mergeSort fun a b=>decide (leR a b),Bx _ _,?_⟩
 have hp:=Bx l (fun a b=>decide (leR a b))
 have h2:=Z53 (le:=fun a b=>decide (leR a b)) (fun a b c h h'=>by simp only[decide_eq_true_eq] at *;exact Z9l h h') (fun a b=>by simp only[G9,decide_eq_true_eq];exact Z9m a b) l
 refine Z5l ⟨?_,fun t ht=>?_,fun t ht u hu e=>?_⟩ (hp.map _) (Ye.mpr (h2.imp_of_mem fun {a b} ha hb h=>?_))
 ·rw[Do,UH]
  intro x _
  rfl
 ·obtain⟨w,hw,rfl⟩:=ZE.mp ht
  exact⟨_,C5 (hl w hw),rfl⟩
 ·obtain⟨w,hw,rfl⟩:=ZE.mp ht
  obtain⟨v,hv,rfl⟩:=ZE.mp hu
  rw[C5 (hl w hw),C5 (hl v hv)] at e
  injection e with e
  injection e with e
  injection e with _ e
  injection e with e _
 ·refine⟨_,_,C5 (hl a (hp.mem_iff.mp ha)),C5 (hl b (hp.mem_iff.mp hb)),.is ?_⟩
  rcases of_decide_eq_true h with q|⟨q,z⟩
  ·exact .inl (by lia)
  ·exact .inr ⟨by lia,z⟩
theorem Z0F {R:List Ru}(hR:RR R):∀ (r:List W) (x1:Option Dv),(∀ u∈r,u∈W8) →
  (∃ u∈r,1<(Z3b R u).length∧W1 (Z1x 1) (fIf (J7 (f2 oGt (fCB MT (Z6 (ZV Yl (Z6 (ZQ 0) (Z6 (ZQ 1) J2))) J2)) (fC (.int 1)))) (Ga (Zb 1)) Yt) (r.map tS) [some (Dv.th (RT R)),x1]=some (.rt (tS u)))
 ∨((∀ u∈r,¬ 1<(Z3b R u).length)∧∃ y1,W1 (Z1x 1) (fIf (J7 (f2 oGt (fCB MT (Z6 (ZV Yl (Z6 (ZQ 0) (Z6 (ZQ 1) J2))) J2)) (fC (.int 1)))) (Ga (Zb 1)) Yt) (r.map tS) [some (Dv.th (RT R)),x1]=some (.nx [some (Dv.th (RT R)),y1]))
 |[],x1,_=>.inr ⟨(fun u h=>nomatch h),x1,rfl⟩
 |u::r,x1,hr=>by
  have ee:=ZhA hR (hr u Z1)
  have ih:=Z0F hR r (some (Dv.th (tS u))) fun v hv=>hr v (Z4 _ hv)
  have g:Z1x 1 (tS u) [some (Dv.th (RT R)),x1]=some [some (Dv.th (RT R)),some (Dv.th (tS u))]:=rfl
  have l1:MT [.tup ((Z3b R u).map Th.str)]=some (.int ((Z3b R u).length:Int)):=by rw[Z9i,Z3]
  have x:(fIf (J7 (f2 oGt (fCB MT (Z6 (ZV Yl (Z6 (ZQ 0) (Z6 (ZQ 1) J2))) J2)) (fC (.int 1)))) (Ga (Zb 1)) Yt:FS) [some (Dv.th (RT R)),some (Dv.th (tS u))] =
    if 1<(Z3b R u).length then some (.rt (tS u)) else some (.nx [some (Dv.th (RT R)),some (Dv.th (tS u))]):=by
   simp only[fIf,J7,f2,fCB,ZV,Z6,J2,ZQ,Zb,fC,gs_,gz_,ob_,ee,l1,gt_int]
   by_cases h:1<(Z3b R u).length
   ·have:((1:Int)<((Z3b R u).length:Int)):=by lia
    rw[decide_eq_true this,if_pos h,if_pos rfl]
    rfl
   ·have:¬ ((1:Int)<((Z3b R u).length:Int)):=by lia
    rw[decide_eq_false this,if_neg h,if_neg (by simp)]
    rfl
  rw[Zt]
  unfold W1
  rw[g,ob_,x]
  by_cases h:1<(Z3b R u).length
  ·rw[if_pos h]
   exact .inl ⟨u,Z1,h,rfl⟩
  ·rw[if_neg h]
   rcases ih with ⟨v,hv,h1,h2⟩|⟨h1,y1,h2⟩
   ·exact .inl ⟨v,Z4 _ hv,h1,h2⟩
   ·refine .inr ⟨fun v hv=>?_,y1,h2⟩
    rcases Zp.mp hv with rfl|hv
    ·exact h
    ·exact h1 v hv
theorem Z5W {R:List Ru}(hR:RR R):∃ o:Option W,Ml [RT R]=some (foT o)∧(∀ u,o=some u→ClW R u∧1<(Z3b R u).length)∧(o=none→∀ u,ClW R u→¬ 1<(Z3b R u).length):=by
 have ce:=Z76 hR
 have ca:∀ u∈Zfs R,u∈W8:=fun u hu=>Z4S hR (Z4p.mp hu)
 obtain⟨r,rp,sk⟩:=ZaT (l:=Zfs R) fun u hu=>by
  have:=(G6.mp (ca u hu)).1
  lia
 have it:YW (G2 (Z0A Qu (Z6 (ZV NL (Z6 (ZQ 0) J2)) J2))) [some (Dv.th (RT R)),none]=some (r.map tS):=by
  simp only[YW,G2,Z0A,Z6,J2,ZV,ZQ,gz_,ob_,ce,sk,Z7]
  rfl
 rcases Z0F hR r none fun u hu=>ca u (rp.mem_iff.mp hu) with ⟨u,hu,h1,h2⟩|⟨h1,y1,h2⟩
 ·refine⟨some u,?_,fun v e=>?_,fun e=>by cases e⟩
  ·unfold Ml Z4V
   refine YR rfl ?_
   show Uv _ _ [some (Dv.th (RT R)),none]=_
   unfold Uv
   rw[NY it,h2]
   rfl
  ·cases e
   exact⟨Z4p.mp (rp.mem_iff.mp hu),h1⟩
 ·refine⟨none,?_,(fun v e=>by cases e),fun _ u hu=>h1 u (rp.mem_iff.mpr (Z4p.mpr hu))⟩
  unfold Ml Z4V
  refine YR rfl ?_
  refine (J9 (d':=[some (Dv.th (RT R)),y1]) ?_).trans rfl
  show Z0C _ _ _ [some (Dv.th (RT R)),none]=_
  rw[NY it,h2]
theorem Z7N {R:List Ru}{o:Option W}(h:Ml [RT R]=some (foT o)):Nf [RT R]=some (.bl o.isNone):=by
 unfold Nf Z0N
 refine YR rfl ?_
 show Ga _ [some (Dv.th (RT R))]=_
 simp only[Ga,f2,ZV,Z6,J2,ZQ,fC,gz_,ob_,h]
 cases o <;> rfl
theorem Z6Q {R:List Ru}(hR:RR R):∀ w y,y∈nxW R w↔StW R w y:=fun w y=>Z0w.trans (DN hR.ne)
theorem ZaO {R:List Ru}(hR:RR R)(h:∀ u,ClW R u→¬ 1<(Z3b R u).length){w:W}(hw:w∈W8):Z7g (nxW R) w:=by
 refine Zhg (P:=fun w=>w∈W8) (μ:=val) (fun w hw y hy=>⟨Mp hR w hw y hy,Zdc hR hw hy⟩) (fun w hw=>?_) w hw
 refine Z4r hR.ne (Z6Q hR) (fun u hu y hy z hz=>?_) w
 have ua:=Z4S hR hu
 obtain⟨y1,-⟩:=Yi hR (Mp hR u ua y hy)
 obtain⟨z1,-⟩:=Yi hR (Mp hR u ua z hz)
 have e:JI R y=JI R z:=by
  by_cases q:JI R y=JI R z
  ·exact q
  ·exact absurd (Z5T.mpr ⟨y,z,hy,hz,q⟩) (h u hu)
 rw[← e] at z1
 exact⟨_,y1,z1⟩
theorem ZbV {R:List Ru}(hR:RR R){u:W}(hu:u∈W8)(h:1<(Z3b R u).length):∃ a b,Rch (nxW R) u a∧Rch (nxW R) u b∧nxW R a=[]∧nxW R b=[]∧a≠b:=by
 obtain⟨y,z,hy,hz,hne⟩:=Z5T.mp h
 obtain⟨y1,y2⟩:=Yi hR (Mp hR u hu y hy)
 obtain⟨z1,z2⟩:=Yi hR (Mp hR u hu z hz)
 exact⟨_,_,Rch.trans (.step (.refl u) hy) y1,Rch.trans (.step (.refl u) hz) z1,y2,z2,hne⟩
theorem Zck {R:List Ru}(v:List W):(Z3d R v).length=(v.filter (isE R)).length:=by
 unfold Z3d
 rw[Z3,(YU _).1.length_eq,Z3]
theorem Z9h {R:List Ru}(hR:RR R){w:W}(hw:w∈W8){v:List W}(k:CL (nxW R) w v.length v)(h:Z7g (nxW R) w):(Z3d R v).length=1:=by
 rw[Zck]
 obtain⟨d1,d2⟩:=Yi hR hw
 have m1:JI R w∈v.filter (isE R):=JW.mpr ⟨k.all.mpr d1,Bq.mpr d2⟩
 rcases Z7s 1 (v.filter (isE R)).length with q|q
 ·obtain⟨a,b,ha,hb,hne⟩:=ZcL (W5 _ k.nd) q
  obtain⟨a1,a2⟩:=JW.mp ha
  obtain⟨b1,b2⟩:=JW.mp hb
  exact absurd (h a b (k.all.mp a1) (k.all.mp b1) (Bq.mp a2) (Bq.mp b2)) hne
 ·have:=WZ m1
  exact Q0 ‹_› ‹_›
noncomputable def Go (R:List Ru)(l:W):Bool:=R.any fun r=>decide (r.1≠l)&&inS (sL r.1) (sL l)
theorem Zcq (p:Th→Bool)(ts:Lt_):ZbK true [.lst (ts.map fun t=>.bl (p t))]=some (.bl (ts.any p)):=by
 simp only[ZbK,Dk,Z7,if_true,Z7i]
 rfl
theorem Zhh (a b:W):oNe (tS a) (tS b)=some (.bl (decide (a≠b))):=by
 unfold oNe
 rw[decide_eq_true (show dp (tS a)≤100 by show (0:Nat)≤100;simp),if_pos rfl,Z9O]
 by_cases h:a=b <;> simp[h]
theorem Zc9 {R:List Ru}(few:R.length≤100)(l:W):YI [tS l,RT R]=some (.bl (Go R l)):=by
 unfold YI Wu
 refine YR rfl ?_
 have c:=Wr (fi:=YW (ZQ 1)) (fe:=Zci (f2 oNe (f2 oIx (Zb 0) (fC (.int 0))) (Zb 1)) (f2 (oIn false) (f2 oIx (Zb 0) (fC (.int 0))) (Zb 1)))
  (p:=fun t=>.bl ((fun t=>match t with|Th.tup [.str a,_]=>decide (a.cps.toList≠l)&&inS a (sL l)|_=>false) t)) (d:=[some (Dv.th (tS l)),some (Dv.th (RT R))]) (ts:=R.map rTh) rfl (by rw[Z3];lia) fun t ht=>by
   obtain⟨r,-,rfl⟩:=ZE.mp ht
   have e0:oIx (rTh r) (.int 0)=some (tS r.1):=rfl
   have e1:=Zhh r.1 l
   have e2:oIn false (tS r.1) (tS l)=some (.bl (inS (sL r.1) (sL l))):=rfl
   simp only[Zci,f2,Zb,fC,gs_,gz_,ob_,e0,e1,e2]
   show _=some (Th.bl (decide (r.1≠l)&&inS (sL r.1) (sL l)))
   cases decide (r.1≠l) <;> rfl
 have e:=Zcq (fun t=>match t with|Th.tup [.str a,_]=>decide (a.cps.toList≠l)&&inS a (sL l)|_=>false) (R.map rTh)
 have e3:(R.map rTh).any (fun t=>match t with|Th.tup [.str a,_]=>decide (a.cps.toList≠l)&&inS a (sL l)|_=>false)=Go R l:=by
  rw[Z7i]
  rfl
 rw[e3] at e
 show Ga _ [some (Dv.th (tS l)),some (Dv.th (RT R))]=_
 simp only[Ga,fCB,Z6,J2,G2,c,Z7,ob_,e]
noncomputable def kvF (g:W→W)(ks:List W):List (Str×Th):=ks.map fun l=>(sL l,tS (g l))
noncomputable def Zcs (ks:List W)(x:W):List W:=if x∈ks then ks else ks++[x]
theorem Ze4 (g:W→W)(ks:List W)(x:W):Zb6 (kvF g ks) (sL x) (tS (g x))=kvF g (Zcs ks x):=by
 have any:((kvF g ks).any fun p=>decide (p.1=sL x))=decide (x∈ks):=by
  unfold kvF
  rw[Z7i,Dq,Z05,decide_eq_true_eq]
  constructor
  ·rintro⟨y,hy,e⟩
   have e:sL y=sL x:=of_decide_eq_true e
   rw[← Z0n e];exact hy
  ·intro h
   exact⟨x,h,decide_eq_true rfl⟩
 unfold Zb6 Zcs
 rw[any]
 by_cases h:x∈ks
 ·rw[decide_eq_true h,if_pos rfl,if_pos h]
  unfold kvF
  rw[Jh]
  refine Yq fun l _=>?_
  simp only[ZcF]
  split
  ·rename_i e
   rw[Z0n e]
  ·rfl
 ·rw[decide_eq_false h,if_neg (by simp),if_neg h]
  unfold kvF
  rw[JX]
  rfl
theorem Z9H {g:W→W}{x:W}:∀ {ks:List W},x∈ks→Z9I (kvF g ks) (sL x)=some (tS (g x))
 |y::ks,h=>by
  unfold Z9I kvF
  rw[Zt,YF]
  by_cases e:y=x
  ·subst e
   simp
  ·have e1:decide (sL y=sL x)=false:=decide_eq_false fun z=>e (Z0n z)
   simp only[e1]
   have ih:=Z9H (g:=g) (x:=x) (ks:=ks) ((Zp.mp h).elim (fun z=>absurd z.symm e) id)
   unfold Z9I kvF at ih
   exact ih
theorem Z2M {R:List Ru}(few:R.length≤100){g:W→W}(hg:∀ r∈R,Nr [RT R,tS r.2]=some (tS (g r.1))):∀ (Rs:List Ru) (ks:List W) (x2:Option Dv),(∀ r∈Rs,r∈R)→ks.length+Rs.length≤900000→ks.Nodup →
  ∃ ks' y2,W1 (Z1x 2) (fIf (Z1y (J7 (ZV YI (Z6 (f2 oIx (Zb 2) (fC (.int 0))) (Z6 (ZQ 0) J2))))) (Z4N 1 (f2 oIx (Zb 2) (fC (.int 0))) (ZV Nr (Z6 (ZQ 0) (Z6 (f2 oIx (Zb 2) (fC (.int 1))) J2)))) Yt) (Rs.map rTh) [some (.th (RT R)),some (.dct false (kvF g ks)),x2] =
   some (.nx [some (.th (RT R)),some (.dct false (kvF g ks')),y2])∧ks'.Nodup∧∀ s,s∈ks'↔s∈ks∨∃ r∈Rs,Go R r.1=false∧s=r.1
 |[],ks,x2,_,_,nd=>⟨ks,x2,rfl,nd,fun s=>by simp⟩
 |r::Rs,ks,x2,hs,hz,nd=>by
  rw[Zl] at hz
  have he:=Zc9 few r.1
  have ee:=hg r (hs r Z1)
  have e0:oIx (rTh r) (.int 0)=some (tS r.1):=rfl
  have e1:oIx (rTh r) (.int 1)=some (tS r.2):=rfl
  have g2:Z1x 2 (rTh r) [some (.th (RT R)),some (.dct false (kvF g ks)),x2]=some [some (.th (RT R)),some (.dct false (kvF g ks)),some (.th (rTh r))]:=rfl
  have fl:Fn (tS (g r.1))=true∧(kvF g ks).length<1000000:=⟨rfl,by unfold kvF;rw[Z3];lia⟩
  have st:(fIf (Z1y (J7 (ZV YI (Z6 (f2 oIx (Zb 2) (fC (.int 0))) (Z6 (ZQ 0) J2))))) (Z4N 1 (f2 oIx (Zb 2) (fC (.int 0))) (ZV Nr (Z6 (ZQ 0) (Z6 (f2 oIx (Zb 2) (fC (.int 1))) J2)))) Yt:FS) [some (.th (RT R)),some (.dct false (kvF g ks)),some (.th (rTh r))] =
    some (.nx [some (.th (RT R)),some (.dct false (kvF g (if Go R r.1=true then ks else Zcs ks r.1))),some (.th (rTh r))]):=by
   simp only[fIf,Z1y,J7,ZV,Z6,J2,f2,Zb,ZQ,fC,gs_,gz_,ob_,e0,he,Z7]
   cases Go R r.1 with
   |true=>rfl
   |false =>
    simp only[QP,if_true,Z4N,ZV,Z6,J2,f2,Zb,ZQ,fC,gs_,gz_,ob_,e0,e1,ee]
    have p:=Ze4 g ks r.1
    simp only[tS] at p fl ⊢
    simp only[if_pos fl,p,Ze,Zd]
    rfl
  have al:(if Go R r.1=true then ks else Zcs ks r.1).length≤ks.length+1:=by
   split
   ·exact UU _
   ·unfold Zcs
    split
    ·lia
    ·simp
  have an:(if Go R r.1=true then ks else Zcs ks r.1).Nodup:=by
   split
   ·exact nd
   ·unfold Zcs
    split
    ·exact nd
    ·rename_i hx
     exact Wa.mpr ⟨nd,by simp,fun a ha b hb e=>by rw[Jf] at hb;subst hb;subst e;exact hx ha⟩
  have am:∀ s,s∈(if Go R r.1=true then ks else Zcs ks r.1)↔s∈ks∨(Go R r.1=false∧s=r.1):=fun s=>by
   split
   ·rename_i h
    rw[h];simp
   ·rename_i h
    have h:Go R r.1=false:=by simpa using h
    unfold Zcs
    rw[h]
    split
    ·rename_i hx
     exact⟨.inl,fun z=>z.elim id fun e=>by rw[e.2];exact hx⟩
    ·simp
  obtain⟨ks',y2,ih,i1,i3⟩:=Z2M few hg Rs _ (some (.th (rTh r))) (fun q hq=>hs q (Z4 _ hq)) (by lia) an
  refine⟨ks',y2,?_,i1,fun s=>?_⟩
  ·rw[Zt]
   unfold W1
   rw[g2,ob_,st]
   exact ih
  ·rw[i3,am]
   constructor
   ·rintro ((h|h)|⟨q,hq,h⟩)
    ·exact .inl h
    ·exact .inr ⟨r,Z1,h⟩
    ·exact .inr ⟨q,Z4 _ hq,h⟩
   ·rintro (h|⟨q,hq,h⟩)
    ·exact .inl (.inl h)
    ·rcases Zp.mp hq with rfl|hq
     ·exact .inl (.inr h)
     ·exact .inr ⟨q,hq,h⟩
noncomputable def Zc2 (g:W→W)(ks:List W):Lt_:=(Ng (ks.map sL)).map fun s=>.tup [.str s,tS (g s.cps.toList)]
theorem Zf9 {R:List Ru}(few:R.length≤100){g:W→W}(hg:∀ r∈R,Nr [RT R,tS r.2]=some (tS (g r.1))):∃ ks:List W,ks.Nodup∧(∀ l,l∈ks↔∃ r∈R,Go R r.1=false∧l=r.1)∧GX [RT R]=some (.tup (Zc2 g ks)):=by
 obtain⟨ks,y2,lp,nd,hm⟩:=Z2M few hg R [] none (fun r h=>h) (by simp;lia) QM
 have hm:∀ l,l∈ks↔∃ r∈R,Go R r.1=false∧l=r.1:=fun l=>by rw[hm];simp
 refine⟨ks,nd,hm,?_⟩
 have kl:ks.length≤100:=by
  have h2:=Mc (U:=R.map (·.1)) nd fun l hl=>by
   obtain⟨r,hr,-,e⟩:=(hm l).mp hl
   rw[e];exact ZE.mpr ⟨r,hr,rfl⟩
  rw[Z3] at h2
  exact Zz ‹_› ‹_›
 unfold GX Zdr
 refine YR rfl ?_
 refine (J9 (d':=[some (.th (RT R)),some (.dct false (kvF g [])),none]) rfl).trans ?_
 refine (J9 (d':=[some (.th (RT R)),some (.dct false (kvF g ks)),y2]) ?_).trans ?_
 ·rw[NY (ts:=R.map rTh) rfl]
  exact lp
 ·have kb:(kvF g ks).map (·.1)=ks.map sL:=by
   unfold kvF
   rw[Jh]
   rfl
  have fi:YW (G2 (Z0B 1)) [some (.th (RT R)),some (.dct false (kvF g ks)),y2]=some ((Ng (ks.map sL)).map Th.str):=by
   simp only[YW,G2,Z0B,gs_,gz_,Z7,ob_,kb]
   rfl
  have c:=Wr (fe:=W6 (Z6 (ZQ 0) (Z6 (Z4O 2 (Zb 0)) J2))) (p:=fun t=>match t with|.str x=>.tup [.str x,tS (g x.cps.toList)]|_=>.non) fi (by rw[Z3,(YU _).1.length_eq,Z3];lia) fun t ht=>by
   obtain⟨x,hx,rfl⟩:=ZE.mp ht
   obtain⟨l,hl,rfl⟩:=ZE.mp ((YU _).1.mem_iff.mp hx)
   have gk:=Z9H (g:=g) hl
   have fl:Fn (tS (g l))=true:=rfl
   refine Z74 (a:=ZQ 0) (b:=Z4O 2 (Zb 0)) rfl ?_
   simp only[Z4O,Zb,gs_,gz_,ob_,gk,if_pos fl]
   rfl
  have e2:((Ng (ks.map sL)).map Th.str).map (fun t=>match t with|.str x=>.tup [.str x,tS (g x.cps.toList)]|_=>.non)=Zc2 g ks:=by
   unfold Zc2
   rw[Jh]
   rfl
  rw[e2] at c
  simp only[Ga,fCB,Z6,J2,G2,c,Z7,ob_,Nu]
theorem Z9D {a b:W}(ha:a≠[]):inS (sL a) (sL b)=true↔∃ i,Y2 a b i=true:=by
 unfold inS
 rw[Z4j ha 0]
 cases h:YB a b 0 with
 |some p=>exact⟨fun _=>⟨p,(Wo ha h).1⟩,fun _=>rfl⟩
 |none =>
  constructor
  ·intro z;cases z
  ·rintro⟨i,hi⟩
   obtain⟨p,hp⟩:=Z37 ha hi
   rw[h] at hp;cases hp
structure Eqv (R R':List Ru):Prop where
 rr:RR R'
 red:∀ r∈R',Rch (nxW R) r.1 r.2
 hit:∀ r∈R',nxW R r.1≠[]
 cov:∀ r∈R,∃ q∈R',∃ i,Y2 q.1 r.1 i=true
theorem DE {a b c:W}{i j:Nat}(h1:Y2 a b i=true)(h2:Y2 b c j=true)(hb:i≤b.length):Y2 a c (j+i)=true:=by
 obtain⟨t,ht⟩:=YT.mp h2
 rw[YT,← JD,← ht,JA hb]
 exact (YT.mp h1).trans (Gz _ _)
theorem Z1f {R:List Ru}(hR:RR R){w:W}{r:Ru}{i:Nat}(hr:r∈R)(h:Y2 r.1 w i=true):nxW R w≠[]:=fun z=>by
 have:chW r w i∈nxW R w:=(Z6Q hR _ _).mpr ⟨i,r,hr,h,rfl⟩
 rw[z] at this;cases this
theorem Z0s {R:List Ru}(hR:RR R){w:W}(h:nxW R w≠[]):∃ r∈R,∃ i,Y2 r.1 w i=true:=by
 cases hn:nxW R w with
 |nil=>exact absurd hn h
 |cons y l =>
  obtain⟨p,r,hr,hs,-⟩:=(Z6Q hR w y).mp (by rw[hn];exact Z1)
  exact⟨r,hr,p,hs⟩
section
variable {R R':List Ru}
theorem Eqv.step (hR:RR R)(h:Eqv R R'){w y:W}(hy:y∈nxW R' w):Rch (nxW R) w y:=by
 obtain⟨p,r,hr,hs,rfl⟩:=(Z6Q h.rr w y).mp hy
 have hl:=U3 (h.rr.ne r hr) hs
 have e:=Bf hs (by lia)
 have z:=Z17 hR.ne (Z6Q hR) (w.take p) (w.drop (p+r.1.length)) (h.red r hr)
 rw[← e] at z
 exact z
theorem Eqv.nil (hR:RR R)(h:Eqv R R'){w:W}:nxW R' w=[]↔nxW R w=[]:=by
 constructor
 ·intro z
  cases hn:nxW R w with
  |nil=>rfl
  |cons y l =>
   obtain⟨r,hr,i,hs⟩:=Z0s hR (w:=w) (by rw[hn];simp)
   obtain⟨q,hq,j,hj⟩:=h.cov r hr
   have:=U3 (h.rr.ne q hq) hj
   exact absurd z (Z1f h.rr hq (DE hj hs (by lia)))
 ·intro z
  cases hn:nxW R' w with
  |nil=>rfl
  |cons y l =>
   obtain⟨r,hr,i,hs⟩:=Z0s h.rr (w:=w) (by rw[hn];simp)
   obtain⟨q,hq,j,hj⟩:=Z0s hR (h.hit r hr)
   have:=U3 (hR.ne q hq) hj
   exact absurd z (Z1f hR hq (DE hj hs (by lia)))
theorem Eqv.reach (hR:RR R)(h:Eqv R R'){w y:W}(r:Rch (nxW R') w y):Rch (nxW R) w y:=by
 induction r with
 |refl=>exact .refl _
 |step _ hy ih=>exact ih.trans (h.step hR hy)
theorem Eqv.one (hR:RR R)(h:Eqv R R'){w:W}(o:Z7g (nxW R) w):Z7g (nxW R') w:=fun a b ra rb na nb=>o a b (h.reach hR ra) (h.reach hR rb) ((h.nil hR).mp na) ((h.nil hR).mp nb)
theorem Eqv.down (hR:RR R)(h:Eqv R R'){w:W}(hw:w∈W8)(o:Z7g (nxW R) w):JI R' w=JI R w:=by
 obtain⟨a1,a2⟩:=Yi h.rr hw
 obtain⟨b1,b2⟩:=Yi hR hw
 exact o _ _ (h.reach hR a1) b1 ((h.nil hR).mp a2) b2
end
theorem Dh {R:List Ru}(hR:RR R){w:W}(hw:w∈W8){v:List W}(k:CL (nxW R) w v.length v)(o:Z7g (nxW R) w):Z3d R v=[tS (JI R w)]:=by
 obtain⟨d1,d2⟩:=Yi hR hw
 have m1:=ZbT (k.all.mpr d1) d2
 have l1:=Z9h hR hw k o
 match he:Z3d R v,l1 with
 |[t],_ =>
  rw[he] at m1
  rw[Jf] at m1
  rw[m1]
theorem Z9c {a b c:W}(h:ltW a b)(h':ltW b c):ltW a c:=by
 unfold ltW at *
 rcases h with h|⟨h,q⟩
 ·rcases h' with h'|⟨h',q'⟩
  ·exact .inl (by lia)
  ·exact .inl (by lia)
 ·rcases h' with h'|⟨h',q'⟩
  ·exact .inl (by lia)
  ·exact .inr ⟨by lia,List.lt_trans q q'⟩
theorem Zgb {R:List Ru}(hR:RR R){w y:W}(r:Rch (nxW R) w y):w=y∨ltW y w:=by
 induction r with
 |refl=>exact .inl rfl
 |step _ h ih =>
  rcases ih with e|e
  ·subst e;exact .inr (Z92 hR h)
  ·exact .inr (Z9c (Z92 hR h) e)
theorem Z5r {R:List Ru}(hR:RR R){l y:W}(h1:1≤l.length)(h6:l.length≤6)(ha:ZhO l)(r:Rch (nxW R) l y)(hn:y≠l):D6 (sL l) (sL y):=by
 have lt:=(Zgb hR r).resolve_left fun e=>hn e.symm
 have ya:y∈W8:=r.mem (Mp hR) (G6.mpr ⟨by lia,ha⟩)
 exact⟨ha,(G6.mp ya).2,h1,h6,(Z5I _ _).mpr lt⟩
noncomputable def NV (R:List Ru):Ls_:=Ng (Sg.metS ((R.filter fun r=>!Go R r.1).map fun r=>sL r.1))
noncomputable def YC (R:List Ru)(g:W→W):List Ru:=(NV R).map fun s=>(s.cps.toList,g s.cps.toList)
theorem WO {R:List Ru}{s:Str}:s∈NV R↔∃ r∈R,Go R r.1=false∧s=sL r.1:=by
 unfold NV
 rw[(YU _).1.mem_iff,Sg.mem_metS,ZE]
 constructor
 ·rintro⟨r,hr,rfl⟩
  obtain⟨h1,h2⟩:=JW.mp hr
  exact⟨r,h1,by simpa using h2,rfl⟩
 ·rintro⟨r,hr,h,rfl⟩
  exact⟨r,JW.mpr ⟨hr,by simpa using h⟩,rfl⟩
theorem Bn (R:List Ru):(NV R).Nodup:=(YU _).1.nodup_iff.mpr (Sg.metS_nodup _)
theorem Z98 (R:List Ru):(NV R).Pairwise leS:=(YU _).2
theorem Z0v {R R':List Ru}(h:∀ s:Str,(∃ r∈R',Go R' r.1=false∧s=sL r.1)↔∃ r∈R,Go R r.1=false∧s=sL r.1):NV R'=NV R:=by
 unfold NV
 refine FY (Mn (Sg.metS_nodup _) (Sg.metS_nodup _) fun s=>?_)
 have a:=WO (R:=R') (s:=s)
 have b:=WO (R:=R) (s:=s)
 unfold NV at a b
 rw[(YU _).1.mem_iff] at a b
 rw[a,b]
 exact h s
theorem Z1p {R:List Ru}(few:R.length≤100){g:W→W}(hg:∀ r∈R,Nr [RT R,tS r.2]=some (tS (g r.1))):GX [RT R]=some (RT (YC R g)):=by
 obtain⟨ks,n1,m1,e1⟩:=Zf9 few hg
 rw[e1]
 have hs:Ng (ks.map sL)=NV R:=by
  unfold NV
  refine FY (Mn ?_ (Sg.metS_nodup _) fun s=>?_)
  ·exact D7 _ (fun a b hne e=>hne (Z0n e)) n1
  ·have b:=WO (R:=R) (s:=s)
   unfold NV at b
   rw[(YU _).1.mem_iff] at b
   rw[b,ZE]
   constructor
   ·rintro⟨l,hl,rfl⟩
    obtain⟨r,hr,h,rfl⟩:=(m1 l).mp hl
    exact⟨r,hr,h,rfl⟩
   ·rintro⟨r,hr,h,rfl⟩
    exact⟨r.1,(m1 _).mpr ⟨r,hr,h,rfl⟩,rfl⟩
 unfold Zc2 YC RT
 rw[hs,Jh]
 congr 2
theorem NO {R:List Ru}{g:W→W}{r:Ru}:r∈YC R g↔∃ q∈R,Go R q.1=false∧r=(q.1,g q.1):=by
 unfold YC
 rw[ZE]
 constructor
 ·rintro⟨s,hs,rfl⟩
  obtain⟨q,hq,h,rfl⟩:=WO.mp hs
  exact⟨q,hq,h,rfl⟩
 ·rintro⟨q,hq,h,rfl⟩
  exact⟨sL q.1,WO.mpr ⟨q,hq,h,rfl⟩,rfl⟩
theorem holds_iff {R:List Ru}(hne:∀ r∈R,r.1≠[]){l:W}:Go R l=true↔∃ r∈R,r.1≠l∧∃ i,Y2 r.1 l i=true:=by
 unfold Go
 rw[Z05]
 constructor
 ·rintro⟨r,hr,e⟩
  rw[ZX,decide_eq_true_eq] at e
  exact⟨r,hr,e.1,(Z9D (hne r hr)).mp e.2⟩
 ·rintro⟨r,hr,h,i,hi⟩
  exact⟨r,hr,by rw[ZX,decide_eq_true_eq];exact⟨h,(Z9D (hne r hr)).mpr ⟨i,hi⟩⟩⟩
theorem part_short {a b:W}{i:Nat}(ha:a≠[])(h:Y2 a b i=true)(hn:a≠b):a.length<b.length:=by
 have hl:=U3 ha h
 rcases Z7s a.length b.length with q|q
 ·exact q
 ·have hi:i=0:=by lia
  subst hi
  have p:=YT.mp h
  rw[M9] at p
  exact absurd (p.eq_of_length (by lia)) hn
theorem Z9Q {R:List Ru}(hR:RR R){w:W}(h:nxW R w=[]):JI R w=w:=by
 refine Z4P (.stop ?_)
 unfold M8
 rw[(Z91 hR).mp h]
 rfl
theorem C0 {l:W}:Y2 l l 0=true:=YT.mpr (Z02 _)
theorem Z83 {R:List Ru}(hR:RR R){r:Ru}(hr:r∈R):r.2∈nxW R r.1:=by
 refine (Z6Q hR _ _).mpr ⟨0,r,hr,C0,?_⟩
 unfold chW
 rw[Ni,Jm,Mu]
 simp
theorem MM {R:List Ru}(hR:RR R){r:Ru}(hr:r∈R):r.1∈W8:=G6.mpr ⟨by have:r.1.length≤6:=(hR.ok r hr).l6;lia,(hR.ok r hr).la⟩
theorem FC (R:List Ru):(NV R).length≤R.length:=by
 unfold NV
 rw[(YU _).1.length_eq]
 refine Zz (Sg.metS_len _) ?_
 rw[Z3]
 exact GL _ _
theorem Z9R {R:List Ru}(hR:RR R){w:W}(hw:w∈W8)(h:nxW R w≠[]):JI R w≠w:=fun e=>h (by rw[← e];exact (Yi hR hw).2)
theorem Z1q {R:List Ru}(hR:RR R):Eqv R (YC R (JI R)):=by
 have hit:∀ q∈R,nxW R q.1≠[]:=fun q hq=>Z1f hR hq C0
 refine⟨⟨?_,fun r hr=>?_⟩,fun r hr=>?_,fun r hr=>?_,?_⟩
 ·unfold YC
  rw[Z3]
  exact Zz (FC R) hR.few
 ·obtain⟨q,hq,-,rfl⟩:=NO.mp hr
  have ok:=hR.ok q hq
  exact Z5r hR ok.l1 ok.l6 ok.la (Yi hR (MM hR hq)).1 (Z9R hR (MM hR hq) (hit q hq))
 ·obtain⟨q,hq,-,rfl⟩:=NO.mp hr
  exact (Yi hR (MM hR hq)).1
 ·obtain⟨q,hq,-,rfl⟩:=NO.mp hr
  exact hit q hq
 ·have main:∀ (n:Nat) (r:Ru),r∈R→r.1.length=n→∃ q∈YC R (JI R),∃ i,Y2 q.1 r.1 i=true:=by
   intro n
   induction n using Dz with
   |ind n ih =>
    intro r hr e
    cases hh:Go R r.1 with
    |false=>exact⟨_,NO.mpr ⟨r,hr,hh,rfl⟩,0,C0⟩
    |true =>
     obtain⟨m,hm,hne,j,hj⟩:=(holds_iff hR.ne).mp hh
     have hs:=part_short (hR.ne m hm) hj hne
     obtain⟨q,hq,i,hi⟩:=ih m.1.length (by lia) m hm rfl
     obtain⟨p,hp,-,rfl⟩:=NO.mp hq
     have:=U3 (hR.ne p hp) hi
     exact⟨_,hq,j+i,DE hi hj (by show i≤m.1.length;lia)⟩
  exact fun r hr=>main _ r hr rfl
theorem Zc1 {R:List Ru}(hR:RR R):NV (YC R (JI R))=NV R:=by
 have E:=Z1q hR
 refine Z0v fun s=>?_
 constructor
 ·rintro⟨r,hr,-,rfl⟩
  obtain⟨q,hq,h,rfl⟩:=NO.mp hr
  exact⟨q,hq,h,rfl⟩
 ·rintro⟨q,hq,h,rfl⟩
  refine⟨_,NO.mpr ⟨q,hq,h,rfl⟩,?_,rfl⟩
  cases hh:Go (YC R (JI R)) q.1 with
  |false=>rfl
  |true =>
   obtain⟨m,hm,hne,i,hi⟩:=(holds_iff E.rr.ne).mp hh
   obtain⟨p,hp,-,rfl⟩:=NO.mp hm
   rw[(holds_iff hR.ne).mpr ⟨p,hp,hne,i,hi⟩] at h
   cases h
section
variable {R:List Ru}(hR:RR R)(one:∀ w∈W8,Z7g (nxW R) w)
include hR one
theorem Z6V:GX [RT R]=some (RT (YC R (JI R))):=by
 refine Z1p (Zz hR.few (by decide)) fun r hr=>?_
 have la:=MM hR hr
 have st:=Z83 hR hr
 have ra:=Mp hR _ la _ st
 rw[Z1z hR ra]
 obtain⟨a1,a2⟩:=Yi hR ra
 obtain⟨b1,b2⟩:=Yi hR la
 rw[one r.1 la _ _ (Rch.trans (.step (.refl _) st) a1) b1 a2 b2]
theorem Z6U:GX [RT (YC R (JI R))]=some (RT (YC R (JI R))):=by
 have E:=Z1q hR
 have e:=Z1p (R:=YC R (JI R)) (g:=JI R) (Zz E.rr.few (by decide)) fun r hr=>by
  obtain⟨q,hq,-,rfl⟩:=NO.mp hr
  obtain⟨d1,d2⟩:=Yi hR (MM hR hq)
  have da:=d1.mem (Mp hR) (MM hR hq)
  rw[Z1z E.rr da,E.down hR da (one _ da),Z9Q hR d2]
 have h:YC (YC R (JI R)) (JI R)=YC R (JI R):=by
  show (NV (YC R (JI R))).map _=(NV R).map _
  rw[Zc1 hR]
 rw[e,h]
theorem Z2L {M R':List Ru}(hm:∀ r,r∈R'↔r∈R∨r∈M)(few:R'.length≤11)(ok:∀ r∈M,D6 (sL r.1) (sL r.2))(hit:∀ r∈M,nxW R r.1≠[])(red:∀ r∈M,Rch (nxW R) r.1 r.2):GX [RT R']=some (RT (YC R (JI R))):=by
 have E:Eqv R R':=by
  refine⟨⟨few,fun r hr=>?_⟩,fun r hr=>?_,fun r hr=>?_,fun r hr=>⟨r,(hm r).mpr (.inl hr),0,C0⟩⟩
  ·rcases (hm r).mp hr with q|q
   ·exact hR.ok r q
   ·exact ok r q
  ·rcases (hm r).mp hr with q|q
   ·exact .step (.refl _) (Z83 hR q)
   ·exact red r q
  ·rcases (hm r).mp hr with q|q
   ·exact Z1f hR q C0
   ·exact hit r q
 have mn:NV R'=NV R:=by
  refine Z0v fun s=>?_
  constructor
  ·rintro⟨r,hr,h,rfl⟩
   have key:∀ q∈R,q.1=r.1→∃ q∈R,Go R q.1=false∧sL r.1=sL q.1:=fun q hq e=>by
    refine⟨q,hq,?_,by rw[e]⟩
    cases hh:Go R q.1 with
    |false=>rfl
    |true =>
     obtain⟨m,hm',hne,i,hi⟩:=(holds_iff hR.ne).mp hh
     rw[e] at hne hi
     rw[(holds_iff E.rr.ne).mpr ⟨m,(hm m).mpr (.inl hm'),hne,i,hi⟩] at h
     cases h
   obtain⟨q,hq,j,hj⟩:=Z0s hR (E.hit r hr)
   by_cases e:q.1=r.1
   ·exact key q hq e
   ·rw[(holds_iff E.rr.ne).mpr ⟨q,(hm q).mpr (.inl hq),e,j,hj⟩] at h
    cases h
  ·rintro⟨r,hr,h,rfl⟩
   refine⟨r,(hm r).mpr (.inl hr),?_,rfl⟩
   cases hh:Go R' r.1 with
   |false=>rfl
   |true =>
    obtain⟨m,hm',hne,i,hi⟩:=(holds_iff E.rr.ne).mp hh
    obtain⟨q,hq,j,hj⟩:=Z0s hR (E.hit m hm')
    have lq:=U3 (hR.ne q hq) hj
    have sm:=part_short (E.rr.ne m hm') hi hne
    by_cases e:q.1=r.1
    ·rw[e] at lq
     have:r.1.length≤m.1.length:=by lia
     lia
    ·rw[(holds_iff hR.ne).mpr ⟨q,hq,e,i+j,DE hj hi (by lia)⟩] at h
     cases h
 have e:=Z1p (R:=R') (g:=JI R) (Zz few (by decide)) fun r hr=>by
  have la:=MM E.rr hr
  have ra:=(E.red r hr).mem (Mp hR) la
  rw[Z1z E.rr ra,E.down hR ra (one _ ra)]
  obtain⟨a1,a2⟩:=Yi hR ra
  obtain⟨b1,b2⟩:=Yi hR la
  rw[one r.1 la _ _ ((E.red r hr).trans a1) b1 a2 b2]
 rw[e]
 unfold YC
 rw[mn]
end
structure Made (R:List Ru)(r:Ru):Prop where
 ok:D6 (sL r.1) (sL r.2)
 hit:nxW R r.1≠[]
 red:Rch (nxW R) r.1 r.2
theorem ZeY (l:List W):oNe (.lst (l.map tS)) (.lst [])=some (.bl (!l.isEmpty)):=by
 unfold oNe
 rw[if_pos (decide_eq_true (by show dpL (l.map tS)+1≤100;rw[Z9P];lia))]
 cases l <;> rfl
theorem Zfb {l:List W}{x:W}(h:l.getLast?=some x):oIx (.lst (l.map tS)) (.int (-1))=some (tS x):=by
 have hp:0<l.length:=by
  cases l with
  |nil=>cases h
  |cons=>simp
 show atI (l.map tS) (-1)=_
 unfold atI ixN
 rw[Z3,if_neg (by lia),if_pos (by lia)]
 have e:((-1:Int)+(l.length:Int)).toNat=l.length-1:=by lia
 show (l.map tS)[((-1:Int)+(l.length:Int)).toNat]?=_
 rw[e,Jc,← List.getLast?_eq_getElem?,h]
 rfl
noncomputable abbrev bM:FS:=Uv (YJ 4 (ZV YV (Z6 (ZV Jk (Z6 (ZQ 1) (Z6 (ZQ 3) J2))) (Z6 (fC (.str ("abc":Str))) (Z6 (fC (.int 6)) J2)))))
 (Uv (YJ 5 (ZV UA (Z6 (ZQ 0) (Z6 (ZQ 4) J2))))
 (fIf (J7 (f2 oNe (Zb 5) (fC (.lst [])))) (UR 2 (W6 (Z6 (ZQ 4) (Z6 (f2 oIx (G2 (Wq (Z6 (f2 oIx (ZV UP (Z6 (ZQ 0) (Z6 (ZQ 4) J2))) (fC (.int 0))) (Z6 (f2 oIx (Zb 5) (Zcg (fC (.int 1)))) J2)))) (f2 Mo (f2 Ds (ZV Jk (Z6 (ZQ 1) (Z6 (ZQ 3) J2))) (fC (.int 16))) (fC (.int 2)))) J2)))) Yt))
theorem Z97 {R:List Ru}(hR:RR R)(one:∀ w∈W8,Z7g (nxW R) w){n:Int}(k:Nat){acc:Lt_}(hz:acc.length<900000)(x4 x5:Option Dv) :
  ∃ (M:List Ru) (y4 y5:Option Dv),bM [some (.th (RT R)),some (.th (.int n)),some (.own acc),some (.th (.int (k:Int))),x4,x5]=some (.nx [some (.th (RT R)),some (.th (.int n)),some (.own (acc++M.map rTh)),some (.th (.int (k:Int))),y4,y5])∧M.length≤1∧∀ r∈M,Made R r:=by
 have de:=WP n (k:Int)
 have we:=Z0W (n:=drawn n (k:Int)) (most:=6) (le:=("abc":Str)) (by decide) (by decide) (by decide) (by decide)
 obtain⟨w,ew,w6,wa⟩:∃ w:W,Wh (drawn n (k:Int)) ("abc":Str) (drawn n (k:Int)%(6+1)).toNat=sL w∧w.length≤6∧ZhO w:=by
  refine⟨(Wh (drawn n (k:Int)) ("abc":Str) (drawn n (k:Int)%(6+1)).toNat).cps.toList,(Fi _).symm,?_,WC .abc _ _⟩
  rw[Z3M,WB]
  lia
 have hw:w∈W8:=G6.mpr ⟨by lia,wa⟩
 rw[ew] at we
 have we:YV [.int (drawn n (k:Int)),.str ("abc":Str),.int 6]=some (tS w):=we
 have ne:=Z0x (R:=R) (w:=w) hR.small (by lia)
 rw[Z90] at ne
 have s1:YJ 4 (ZV YV (Z6 (ZV Jk (Z6 (ZQ 1) (Z6 (ZQ 3) J2))) (Z6 (fC (.str ("abc":Str))) (Z6 (fC (.int 6)) J2)))) [some (.th (RT R)),some (.th (.int n)),some (.own acc),some (.th (.int (k:Int))),x4,x5]=some (.nx [some (.th (RT R)),some (.th (.int n)),some (.own acc),some (.th (.int (k:Int))),some (.th (tS w)),x5]):=by
  simp only[YJ,ZV,Z6,J2,ZQ,fC,gs_,gz_,ob_,Z7,de,we,Ze,Zd]
 have s2:YJ 5 (ZV UA (Z6 (ZQ 0) (Z6 (ZQ 4) J2))) [some (.th (RT R)),some (.th (.int n)),some (.own acc),some (.th (.int (k:Int))),some (.th (tS w)),x5]=some (.nx [some (.th (RT R)),some (.th (.int n)),some (.own acc),some (.th (.int (k:Int))),some (.th (tS w)),some (.th (.lst ((nxW R w).map tS)))]):=by
  simp only[YJ,ZV,Z6,J2,ZQ,gs_,gz_,ob_,Z7,ne,Ze,Zd]
 have nn:=ZeY (nxW R w)
 by_cases hn:nxW R w=[]
 ·refine⟨[],some (.th (tS w)),some (.th (.lst ((nxW R w).map tS))),((J9 s1).trans (J9 s2)).trans ?_,by simp,fun r h=>nomatch h⟩
  have q:oNe (.lst []) (.lst [])=some (.bl false):=rfl
  rw[hn]
  simp only[Qn,Uq,fIf,J7,f2,Zb,fC,gs_,gz_,ob_,q,Zj,if_false,Yt]
 ·obtain⟨v,kv,le⟩:=Ch hR hw
  rw[Dh hR hw kv (one w hw)] at le
  obtain⟨y,hy⟩:∃ y,(nxW R w).getLast?=some y:=by
   cases h:(nxW R w).getLast? with
   |none=>exact absurd (List.getLast?_eq_none_iff.mp h) hn
   |some y=>exact⟨y,rfl⟩
  have ym:y∈nxW R w:=List.mem_of_getLast? hy
  have la:=Zfb hy
  obtain⟨d1,d2⟩:=Yi hR hw
  have w1:1≤w.length:=by
   obtain⟨r,hr,i,hs⟩:=Z0s hR hn
   have h1:=U3 (hR.ne r hr) hs
   have h2:=MY.mpr (hR.ne r hr)
   lia
  have bt:(!(nxW R w).isEmpty)=true:=by
   cases h:nxW R w with
   |nil=>exact absurd h hn
   |cons=>rfl
  rw[bt] at nn
  have md:Mo (.int (drawn n (k:Int) / 16)) (.int 2)=some (.int (drawn n (k:Int) / 16%2)):=mod_int (by decide)
  have dv:Ds (.int (drawn n (k:Int))) (.int 16)=some (.int (drawn n (k:Int) / 16)):=NZ (by decide)
  have i0:oIx (.tup [tS (JI R w)]) (.int 0)=some (tS (JI R w)):=rfl
  have ng:Zcg (fC (.int 1)) [some (.th (RT R)),some (.th (.int n)),some (.own acc),some (.th (.int (k:Int))),some (.th (tS w)),some (.th (.lst ((nxW R w).map tS)))]=some (.int (-1)):=rfl
  have Z48:∃ x,(x=JI R w∨x=y)∧oIx (.lst [tS (JI R w),tS y]) (.int (drawn n (k:Int) / 16%2))=some (tS x):=by
   have:drawn n (k:Int) / 16%2=0∨drawn n (k:Int) / 16%2=1:=by lia
   rcases this with e|e
   ·rw[e];exact⟨_,.inl rfl,rfl⟩
   ·rw[e];exact⟨_,.inr rfl,rfl⟩
  obtain⟨x,hx,px⟩:=Z48
  have two:Wq (Z6 (f2 oIx (ZV UP (Z6 (ZQ 0) (Z6 (ZQ 4) J2))) (fC (.int 0))) (Z6 (f2 oIx (Zb 5) (Zcg (fC (.int 1)))) J2)) [some (.th (RT R)),some (.th (.int n)),some (.own acc),some (.th (.int (k:Int))),some (.th (tS w)),some (.th (.lst ((nxW R w).map tS)))]=some [tS (JI R w),tS y]:=by
   simp only[Wq,Z6,J2,ng]
   simp only[f2,ZV,Z6,J2,ZQ,Zb,fC,gs_,gz_,ob_,le,i0,la,ng]
   rfl
  have tp:=Z74 (a:=ZQ 4) (b:=f2 oIx (G2 (Wq (Z6 (f2 oIx (ZV UP (Z6 (ZQ 0) (Z6 (ZQ 4) J2))) (fC (.int 0))) (Z6 (f2 oIx (Zb 5) (Zcg (fC (.int 1)))) J2)))) (f2 Mo (f2 Ds (ZV Jk (Z6 (ZQ 1) (Z6 (ZQ 3) J2))) (fC (.int 16))) (fC (.int 2))))
   (d:=[some (.th (RT R)),some (.th (.int n)),some (.own acc),some (.th (.int (k:Int))),some (.th (tS w)),some (.th (.lst ((nxW R w).map tS)))]) (x:=tS w) (y:=tS x) rfl (by
    simp only[f2,G2,two,Z7,ob_]
    simp only[ZV,Z6,J2,ZQ,fC,gs_,gz_,ob_,de,dv,md,px])
  have hz':acc.length<1000000:=by lia
  refine⟨[(w,x)],some (.th (tS w)),some (.th (.lst ((nxW R w).map tS))),((J9 s1).trans (J9 s2)).trans ?_,by simp,fun r hr=>?_⟩
  ·simp only[fIf,J7,f2,Zb,fC,gs_,gz_,ob_,nn,if_true]
   simp only[UR,tp,gs_,gz_,ob_,if_pos hz',Ze,Zd,Zt,Qn]
   rfl
  ·rw[Jf] at hr
   subst hr
   have red:Rch (nxW R) w x:=by
    rcases hx with rfl|rfl
    ·exact d1
    ·exact .step (.refl _) ym
   have hne:x≠w:=by
    rcases hx with rfl|rfl
    ·exact Z9R hR hw hn
    ·intro e
     have z:=Z92 hR ym
     rw[e] at z
     unfold ltW at z
     rcases z with z|⟨-,z⟩
     ·exact absurd ‹_› (YG _)
     ·exact QN _ z
   exact⟨Z5r hR w1 w6 wa red hne,hn,red⟩
theorem Z2D {R:List Ru}(hR:RR R)(one:∀ w∈W8,Z7g (nxW R) w){n:Int}:∀ (ks:List Nat) (acc:Lt_) (x3 x4 x5:Option Dv),acc.length+ks.length≤800000 →
  ∃ (M:List Ru) (y3 y4 y5:Option Dv),W1 (Z1x 3) bM (ks.map fun (k:Nat)=>Th.int (k:Int)) [some (.th (RT R)),some (.th (.int n)),some (.own acc),x3,x4,x5]=some (.nx [some (.th (RT R)),some (.th (.int n)),some (.own (acc++M.map rTh)),y3,y4,y5])∧M.length≤ks.length∧∀ r∈M,Made R r
 |[],acc,x3,x4,x5,_=>⟨[],x3,x4,x5,by simp[W1],by simp,fun r h=>nomatch h⟩
 |k::ks,acc,x3,x4,x5,hz=>by
  rw[Zl] at hz
  obtain⟨M1,z4,z5,t1,l1,m1⟩:=Z97 hR one (n:=n) k (acc:=acc) (by lia) x4 x5
  obtain⟨M2,y3,y4,y5,t2,l2,m2⟩:=Z2D hR one ks (acc++M1.map rTh) (some (.th (.int (k:Int)))) z4 z5 (by rw[Zf,Z3];lia)
  refine⟨M1++M2,y3,y4,y5,?_,by rw[Zf,Zl];lia,fun r hr=>(ZW.mp hr).elim (m1 r) (m2 r)⟩
  rw[Zt]
  unfold W1
  have g:Z1x 3 (.int (k:Int)) [some (.th (RT R)),some (.th (.int n)),some (.own acc),x3,x4,x5]=some [some (.th (RT R)),some (.th (.int n)),some (.own acc),some (.th (.int (k:Int))),x4,x5]:=rfl
  rw[g,ob_,t1]
  rw[JX,← Z8]
  exact t2
theorem Zf1 {R:List Ru}(hR:RR R)(one:∀ w∈W8,Z7g (nxW R) w){n:Int}:∃ M:List Ru,Qe [RT R,.int n]=some (RT M)∧M.length≤3∧∀ r∈M,Made R r:=by
 obtain⟨q,hq,q3⟩:∃ q:Nat,n%4=(q:Int)∧q≤3:=⟨(n%4).toNat,by lia,by lia⟩
 obtain⟨M,y3,y4,y5,t,l,m⟩:=Z2D hR one (n:=n) (Jg q) [] none none none (by rw[Yv];simp;lia)
 rw[Yv] at l
 refine⟨M,?_,by exact Zz ‹_› ‹_›,m⟩
 unfold Qe Z6b
 refine YR rfl ?_
 refine (J9 (d':=[some (.th (RT R)),some (.th (.int n)),some (.own []),none,none,none]) rfl).trans ?_
 refine (J9 (d':=[some (.th (RT R)),some (.th (.int n)),some (.own (M.map rTh)),y3,y4,y5]) ?_).trans ?_
 ·have md:Mo (.int n) (.int 4)=some (.int (q:Int)):=by rw[← hq];exact mod_int (by decide)
  have e:Gy (f2 Mo (Zb 1) (fC (.int 4))) [some (.th (RT R)),some (.th (.int n)),some (.own []),none,none,none]=some (L2.upTo q):=by
   simp only[Gy,f2,Zb,fC,gs_,gz_,ob_,md]
   rw[if_pos (by lia),Yz]
  rw[NY e,Z7H]
  exact t
 ·simp only[Ga,fCB,Z6,J2,Zb,gs_,gz_,ob_,Z7,Nu]
  rfl
theorem Zfo:∀ l:List Ru,dpL (l.map rTh)≤1
 |[]=>Jv _
 |x::l=>by
  rw[Zt,dpL]
  have:=Zfo l
  have:dp (rTh x)=1:=rfl
  lia
theorem Z1g {T:Th}(h:dp T≤100):oNe T T=some (.bl false):=by
 unfold oNe
 rw[decide_eq_true h,if_pos rfl,Ws]
 rfl
theorem Zfm {T:Th}(h:dp T≤100):oEq T T=some (.bl true):=by
 unfold oEq
 rw[Ws,if_pos (decide_eq_true h)]
theorem ZhC (l:List Ru):dp (RT l)≤100:=by
 show dpL (l.map rTh)+1≤100
 have:=Zfo l
 lia
theorem Z3Z {R:List Ru}{g:W→W}(few:R.length≤18):DL [RT (YC R g)]=some ((YC R g).map rTh):=by
 have al:((YC R g).map rTh).all (okK .ss)=true:=by
  rw[Do,UH]
  intro x _
  rfl
 have ln:((YC R g).map rTh).length≤18:=by
  unfold YC
  rw[Z3,Z3]
  have:=FC R
  exact Zz ‹_› ‹_›
 have nd:(((YC R g).map rTh).map Zhs).Nodup:=by
  unfold YC
  rw[Jh,Jh]
  refine D7 _ (fun a b hne e=>hne ?_) (Bn R)
  have e:[sL a.cps.toList,sL (g a.cps.toList)]=[sL b.cps.toList,sL (g b.cps.toList)]:=e
  rw[Fi,Fi,FR] at e
  exact e.1
 show (if ((YC R g).map rTh).all (okK .ss)=true∧(((YC R g).map rTh).map Zhs).Nodup∧((YC R g).map rTh).length≤18 then some (DG ((YC R g).map rTh)) else none)=_
 rw[if_pos ⟨al,nd,ln⟩,WF (U6 _)]
 unfold YC
 rw[Jh,Ye]
 refine ((Z98 R).and (Bn R)).imp fun {a b} h=>?_
 show leT (.tup [tS a.cps.toList,tS (g a.cps.toList)]) (.tup [tS b.cps.toList,tS (g b.cps.toList)])
 unfold tS
 rw[Fi a,Fi b]
 exact .ss (.inl h)
theorem Z63 {d:Sd}:∀ l:List Ru,Nh g2 GJ (ZQ 0) d (l.map rTh)=some (l.map fun r=>tS r.1)
 |[]=>rfl
 |r::l=>by
  have ih:=Z63 (d:=d) l
  have g:g2 (rTh r)=some [some (.th (tS r.1)),some (.th (tS r.2))]:=rfl
  rw[Zt,Nh,g]
  simp only[ob_,GJ,if_true,ZQ,ZT,gz_,ih,Zt]
theorem Z7Q:∀ l:Ls_,Na (l.map Th.str)=some l
 |[]=>rfl
 |a::l=>by
  show (Na (l.map Th.str)).map (a::·)=_
  rw[Z7Q l]
  rfl
noncomputable abbrev bF:FS:=Uv (fIf (J7 (f2 (oIn true) (Zb 5) (Zb 4))) (Ga (fC (.bl false))) Yt)
 (Uv (fIf (J7 (f2 oNe (G2 (Ua g1 (YW (ZQ 3)) (Z3a (J7 (f2 oNe (Zb 0) (Zb 6))) (J7 (f2 (oIn false) (Zb 0) (Zb 6)))) (ZQ 0))) (fC (.lst [])))) (Ga (fC (.bl false))) Yt)
 (fIf (J7 (f2 oNe (ZV G0 (Z6 (ZQ 1) (Z6 (ZQ 6) J2))) (fC (.lst [])))) (Ga (fC (.bl false))) Yt))
theorem Z0y {R:List Ru}(hR:RR R){t0 t2 t7 t8:Option Dv}:∀ (Ls:List Ru) (x5 x6:Option Dv),(∀ r∈Ls,r∈YC R (JI R)) →
  ∃ y5 y6,W1 (NX 5 6) bF (Ls.map rTh) [t0,some (.th (RT R)),t2,some (.th (.lst ((NV R).map Th.str))),some (.th (.lst ((R.map (·.1)).map tS))),x5,x6,t7,t8] =
   some (.nx [t0,some (.th (RT R)),t2,some (.th (.lst ((NV R).map Th.str))),some (.th (.lst ((R.map (·.1)).map tS))),y5,y6,t7,t8])
 |[],x5,x6,_=>⟨x5,x6,rfl⟩
 |r::Ls,x5,x6,h=>by
  obtain⟨y5,y6,ih⟩:=Z0y hR (t0:=t0) (t2:=t2) (t7:=t7) (t8:=t8) Ls (some (.th (tS r.1))) (some (.th (tS r.2))) fun q hq=>h q (Z4 _ hq)
  refine⟨y5,y6,?_⟩
  obtain⟨q,hq,hh,rfl⟩:=NO.mp (h r Z1)
  have qa:=MM hR hq
  obtain⟨d1,d2⟩:=Yi hR qa
  have da:=d1.mem (Mp hR) qa
  rw[Zt]
  unfold W1
  have g:NX 5 6 (rTh (q.1,JI R q.1)) [t0,some (.th (RT R)),t2,some (.th (.lst ((NV R).map Th.str))),some (.th (.lst ((R.map (·.1)).map tS))),x5,x6,t7,t8] =
   some [t0,some (.th (RT R)),t2,some (.th (.lst ((NV R).map Th.str))),some (.th (.lst ((R.map (·.1)).map tS))),some (.th (tS q.1)),some (.th (tS (JI R q.1))),t7,t8]:=rfl
  have st:bF [t0,some (.th (RT R)),t2,some (.th (.lst ((NV R).map Th.str))),some (.th (.lst ((R.map (·.1)).map tS))),some (.th (tS q.1)),some (.th (tS (JI R q.1))),t7,t8] =
    some (.nx [t0,some (.th (RT R)),t2,some (.th (.lst ((NV R).map Th.str))),some (.th (.lst ((R.map (·.1)).map tS))),some (.th (tS q.1)),some (.th (tS (JI R q.1))),t7,t8]):=by
   have qm:q.1∈R.map (·.1):=ZE.mpr ⟨q,hq,rfl⟩
   have e1:oIn true (tS q.1) (.lst ((R.map (·.1)).map tS))=some (.bl false):=by
    simp only[oIn,Z9P,if_true,Zac,decide_eq_true qm]
    rfl
   refine (J9 (d':=[t0,some (.th (RT R)),t2,some (.th (.lst ((NV R).map Th.str))),some (.th (.lst ((R.map (·.1)).map tS))),some (.th (tS q.1)),some (.th (tS (JI R q.1))),t7,t8]) ?_).trans ?_
   ·simp only[fIf,J7,f2,Zb,gs_,gz_,ob_,e1,Zj,if_false,Yt]
   refine (J9 (d':=[t0,some (.th (RT R)),t2,some (.th (.lst ((NV R).map Th.str))),some (.th (.lst ((R.map (·.1)).map tS))),some (.th (tS q.1)),some (.th (tS (JI R q.1))),t7,t8]) ?_).trans ?_
   ·have c:=MN (fi:=YW (ZQ 3)) (ft:=Z3a (J7 (f2 oNe (Zb 0) (Zb 6))) (J7 (f2 (oIn false) (Zb 0) (Zb 6)))) (q:=fun _=>false) (ts:=(NV R).map Th.str)
     (d:=[t0,some (.th (RT R)),t2,some (.th (.lst ((NV R).map Th.str))),some (.th (.lst ((R.map (·.1)).map tS))),some (.th (tS q.1)),some (.th (tS (JI R q.1))),t7,t8]) rfl (by rw[Z3];have:=FC R;have:=hR.few;lia) fun t ht=>by
      obtain⟨s,hs,rfl⟩:=ZE.mp ht
      obtain⟨p,hp,-,rfl⟩:=WO.mp hs
      have n1:=Zhh p.1 q.1
      have n1:oNe (.str (sL p.1)) (tS q.1)=some (.bl (decide (p.1≠q.1))):=n1
      have n2:oIn false (.str (sL p.1)) (tS q.1)=some (.bl (inS (sL p.1) (sL q.1))):=rfl
      simp only[Z3a,J7,f2,Zb,gs_,gz_,ob_,n1,n2]
      by_cases e:p.1=q.1
      ·rw[decide_eq_false (by simpa using e)];rfl
      ·rw[decide_eq_true e,if_pos rfl]
       cases hi:inS (sL p.1) (sL q.1) with
       |false=>rfl
       |true =>
        obtain⟨i,hi⟩:=(Z9D (hR.ne p hp)).mp hi
        rw[(holds_iff hR.ne).mpr ⟨p,hp,e,i,hi⟩] at hh
        cases hh
    have fl:((NV R).map Th.str).filter (fun _=>false)=[]:=Z6k.mpr fun _ _ h=>by cases h
    rw[fl] at c
    have q2:oNe (.lst []) (.lst [])=some (.bl false):=rfl
    simp only[fIf,J7,f2,G2,c,fC,Z7,ob_,q2,Zj,if_false,Yt]
   ·have pe:=Cg (R:=R) (w:=JI R q.1) hR.small.few (by have:=(G6.mp da).1;lia)
    rw[(Z91 hR).mp d2] at pe
    have q2:oNe (.lst (([]:List (Nat×Nat)).map MS)) (.lst [])=some (.bl false):=rfl
    simp only[fIf,J7,f2,ZV,Z6,J2,ZQ,fC,gs_,gz_,ob_,pe,q2,Zj,if_false,Yt]
  rw[g,ob_,st]
  exact ih
theorem holds:∀ ns:List Int,ns.length≤63→De [.lst (ns.map Th.int)]=some (.bl true):=by
 intro ns _
 obtain⟨n0,-,-,m0⟩:=Z1i ns 0 (by decide)
 obtain⟨n1,g1,-,m1⟩:=Z1i ns 1 (by decide)
 obtain⟨n2,g2,-,m2⟩:=Z1i ns 2 (by decide)
 obtain⟨ts,e0,p0,l0⟩:=ZaW n0
 obtain⟨R,rfl,ok⟩:=Z5p p0
 rw[Z3] at l0
 have hR:RR R:=⟨by lia,ok⟩
 have e0:NK [.int n0]=some (RT R):=e0
 have we:=Z0W (n:=n1) (most:=6) (le:=("abc":Str)) (by decide) (by decide) (by decide) (by decide)
 obtain⟨w,ew,hw⟩:∃ w:W,Wh n1 ("abc":Str) (n1%(6+1)).toNat=sL w∧w∈W8:=by
  refine⟨(Wh n1 ("abc":Str) (n1%(6+1)).toNat).cps.toList,(Fi _).symm,G6.mpr ⟨?_,WC .abc _ _⟩⟩
  rw[Z3M,WB]
  lia
 rw[ew] at we
 have we:YV [.int n1,.str ("abc":Str),.int 6]=some (tS w):=we
 obtain⟨o,de,d1,d2⟩:=Z5W hR
 have se:=Z7N de
 unfold De ZhG
 refine YR rfl ?_
 refine (J9 (d':=[some (Dv.th (.lst (ns.map Th.int))),some (Dv.th (RT R)),none,none,none,none,none,none,none]) ?_).trans ?_
 ·simp only[YJ,ZV,Z6,J2,ZQ,fC,GS,Yr,Zn,ZT,ZJ,gs_,gz_,ob_,Z7,m0,e0,Ze,Zd]
 cases o with
 |some u =>
  unfold Uv
  have sb:(some u:Option W).isNone=false:=rfl
  rw[sb] at se
  simp only[fIf,Z1y,J7,ZV,Z6,J2,ZQ,gs_,gz_,ob_,Z7,se,QP,if_true,Ga,fC]
 |none =>
  have sb:(none:Option W).isNone=true:=rfl
  rw[sb] at se
  have one:∀ w∈W8,Z7g (nxW R) w:=fun w hw=>ZaO hR (d2 rfl) hw
  have E:=Z1q hR
  have le:=Z6V hR one
  have lt:=Z6U hR one
  have few:R.length≤100:=by lia
  refine (J9 (d':=[some (Dv.th (.lst (ns.map Th.int))),some (Dv.th (RT R)),none,none,none,none,none,none,none]) ?_).trans ?_
  ·simp only[fIf,Z1y,J7,ZV,Z6,J2,ZQ,gs_,gz_,ob_,Z7,se,GU,Zj,if_false,Yt]
  refine (J9 (d':=[some (Dv.th (.lst (ns.map Th.int))),some (Dv.th (RT R)),some (Dv.th (RT (YC R (JI R)))),none,none,none,none,none,none]) ?_).trans ?_
  ·simp only[YJ,ZV,Z6,J2,ZQ,gs_,gz_,ob_,Z7,le,Ze,Zd]
  refine (J9 (d':=[some (Dv.th (.lst (ns.map Th.int))),some (Dv.th (RT R)),some (Dv.th (RT (YC R (JI R)))),none,none,none,none,none,none]) ?_).trans ?_
  ·have so:=Z3Z (R:=R) (g:=JI R) (Zz hR.few (by decide))
   have ib:isB (QX (RT (YC R (JI R)))) "tuple"=true:=DQ _
   have lc:Z0r [RT (YC R (JI R))]=some (.lst ((YC R (JI R)).map rTh)):=rfl
   have q1:=Z1g (T:=.lst ((YC R (JI R)).map rTh)) (by show dpL ((YC R (JI R)).map rTh)+1≤100;have:=Zfo (YC R (JI R));lia)
   simp only[fIf,Zdk,Z1y,J7,ZfL,f2,fCB,G2,Wp,Z6,J2,Zb,gs_,gz_,ob_,Z7,ib,lc,so,q1,GU,Zj,if_false,Yt]
  refine (J9 (d':=[some (Dv.th (.lst (ns.map Th.int))),some (Dv.th (RT R)),some (Dv.th (RT (YC R (JI R)))),some (Dv.th (.lst ((NV R).map Th.str))),none,none,none,none,none]) ?_).trans ?_
  ·have c:BW [5,6] L2.g2 (Bs (ZQ 2)) GJ (ZQ 0) [some (Dv.th (.lst (ns.map Th.int))),some (Dv.th (RT R)),some (Dv.th (RT (YC R (JI R)))),none,none,none,none,none,none]=some ((NV R).map Th.str):=by
    unfold BW
    have e:Bs (ZQ 2) [some (Dv.th (.lst (ns.map Th.int))),some (Dv.th (RT R)),some (Dv.th (RT (YC R (JI R)))),none,none,none,none,none,none]=some ((YC R (JI R)).map rTh):=rfl
    rw[e,ob_,if_pos (by rw[Z3];have:=E.rr.few;lia),Z63]
    unfold YC
    rw[Jh]
    congr 1
   simp only[YJ,G2,c,Z7,Ze,Zd]
  refine (J9 (d':=[some (Dv.th (.lst (ns.map Th.int))),some (Dv.th (RT R)),some (Dv.th (RT (YC R (JI R)))),some (Dv.th (.lst ((NV R).map Th.str))),none,none,none,none,none]) ?_).trans ?_
  ·have ml:(NV R).length≤100:=Zz (FC R) few
   have so:=Z7Q (NV R)
   have pl:(Sg.metS (NV R)).length=(NV R).length:=(Mn (Sg.metS_nodup _) (Bn R) fun s=>Sg.mem_metS).length_eq
   have ls:Z1e [.lst ((NV R).map Th.str)]=some (.int ((NV R).length:Int)):=by
    show (Na ((NV R).map Th.str)).bind _=_
    rw[so,ob_,if_pos (by lia),pl]
   have l2:MT [.lst ((NV R).map Th.str)]=some (.int ((NV R).length:Int)):=by rw[Bp,Z3]
   have q1:oNe (.int ((NV R).length:Int)) (.int ((NV R).length:Int))=some (.bl false):=Z1g (by show (0:Nat)≤100;lia)
   simp only[fIf,J7,f2,Cq,fCB,Z6,J2,Zb,gs_,gz_,ob_,ls,l2,q1,Zj,if_false,Yt]
  refine (J9 (d':=[some (Dv.th (.lst (ns.map Th.int))),some (Dv.th (RT R)),some (Dv.th (RT (YC R (JI R)))),some (Dv.th (.lst ((NV R).map Th.str))),some (Dv.th (.lst ((R.map (·.1)).map tS))),none,none,none,none]) ?_).trans ?_
  ·have c:=Wr (fi:=YW (ZQ 1)) (fe:=f2 oIx (Zb 0) (fC (.int 0))) (p:=fun t=>match t with|.tup [a,_]=>a|_=>.non) (ts:=R.map rTh)
    (d:=[some (Dv.th (.lst (ns.map Th.int))),some (Dv.th (RT R)),some (Dv.th (RT (YC R (JI R)))),some (Dv.th (.lst ((NV R).map Th.str))),none,none,none,none,none]) rfl (by rw[Z3];lia) fun t ht=>by
     obtain⟨r,-,rfl⟩:=ZE.mp ht
     rfl
   have e2:(R.map rTh).map (fun t=>match t with|.tup [a,_]=>a|_=>.non)=(R.map (·.1)).map tS:=by
    rw[Jh,Jh]
    exact Yq fun r _=>rfl
   rw[e2] at c
   simp only[YJ,G2,c,Z7,Ze,Zd]
  obtain⟨y5,y6,fl⟩:=Z0y hR (t0:=some (Dv.th (.lst (ns.map Th.int)))) (t2:=some (Dv.th (RT (YC R (JI R))))) (t7:=none) (t8:=none) (YC R (JI R)) none none fun r h=>h
  refine (J9 (d':=[some (Dv.th (.lst (ns.map Th.int))),some (Dv.th (RT R)),some (Dv.th (RT (YC R (JI R)))),some (Dv.th (.lst ((NV R).map Th.str))),some (Dv.th (.lst ((R.map (·.1)).map tS))),y5,y6,none,none]) ?_).trans ?_
  ·rw[NY (ts:=(YC R (JI R)).map rTh) rfl]
   exact fl
  refine (J9 (d':=[some (Dv.th (.lst (ns.map Th.int))),some (Dv.th (RT R)),some (Dv.th (RT (YC R (JI R)))),some (Dv.th (.lst ((NV R).map Th.str))),some (Dv.th (.lst ((R.map (·.1)).map tS))),y5,y6,some (Dv.th (tS w)),none]) ?_).trans ?_
  ·simp only[YJ,ZV,Z6,J2,ZQ,fC,gs_,gz_,ob_,Z7,m1,we,Ze,Zd]
  refine (J9 (d':=[some (Dv.th (.lst (ns.map Th.int))),some (Dv.th (RT R)),some (Dv.th (RT (YC R (JI R)))),some (Dv.th (.lst ((NV R).map Th.str))),some (Dv.th (.lst ((R.map (·.1)).map tS))),y5,y6,some (Dv.th (tS w)),none]) ?_).trans ?_
  ·obtain⟨v,kv,fe⟩:=Ch hR hw
   obtain⟨v',kv',fe'⟩:=Ch E.rr hw
   rw[Dh hR hw kv (one w hw)] at fe
   rw[Dh E.rr hw kv' (E.one hR (one w hw)),E.down hR hw (one w hw)] at fe'
   have q1:oNe (.tup [tS (JI R w)]) (.tup [tS (JI R w)])=some (.bl false):=Z1g (by show (1:Nat)≤100;simp)
   simp only[fIf,J7,f2,ZV,Z6,J2,ZQ,gs_,gz_,ob_,fe,fe',q1,Zj,if_false,Yt]
  refine (J9 (d':=[some (Dv.th (.lst (ns.map Th.int))),some (Dv.th (RT R)),some (Dv.th (RT (YC R (JI R)))),some (Dv.th (.lst ((NV R).map Th.str))),some (Dv.th (.lst ((R.map (·.1)).map tS))),y5,y6,some (Dv.th (tS w)),none]) ?_).trans ?_
  ·obtain⟨o',de',d1',d2'⟩:=Z5W E.rr
   have se':=Z7N de'
   have on:o'.isNone=true:=by
    cases o' with
    |none=>rfl
    |some u =>
     obtain⟨cu,mu⟩:=d1' u rfl
     have ua:=Z4S E.rr cu
     obtain⟨a,b,ra,rb,na,nb,hne⟩:=ZbV E.rr ua mu
     exact absurd (E.one hR (one u ua) a b ra rb na nb) hne
   rw[on] at se'
   have q1:=Z1g (ZhC (YC R (JI R)))
   simp only[fIf,Zdk,Z1y,J7,f2,ZV,Z6,J2,ZQ,Zb,gs_,gz_,ob_,Z7,se',lt,q1,GU,Zj,if_false,Yt]
  obtain⟨M,me,ml,mm⟩:=Zf1 hR one (n:=n2)
  refine (J9 (d':=[some (Dv.th (.lst (ns.map Th.int))),some (Dv.th (RT R)),some (Dv.th (RT (YC R (JI R)))),some (Dv.th (.lst ((NV R).map Th.str))),some (Dv.th (.lst ((R.map (·.1)).map tS))),y5,y6,some (Dv.th (tS w)),some (Dv.th (RT M))]) ?_).trans ?_
  ·simp only[YJ,ZV,Z6,J2,ZQ,fC,gs_,gz_,ob_,Z7,m2,me,Ze,Zd]
  ·have p1:Ys (RT R) (RT M)=some (RT (R++M)):=by
    unfold RT
    rw[Z5y (by rw[Z3,Z3];lia),JX]
   have p2:Ys (RT M) (RT R)=some (RT (M++R)):=by
    unfold RT
    rw[Z5y (by rw[Z3,Z3];lia),JX]
   have a1:=Z2L hR one (M:=M) (R':=R++M) (fun r=>ZW) (by rw[Zf];lia) (fun r hr=>(mm r hr).ok) (fun r hr=>(mm r hr).hit) fun r hr=>(mm r hr).red
   have a2:=Z2L hR one (M:=M) (R':=M++R) (fun r=>ZW.trans Or.comm) (by rw[Zf];lia) (fun r hr=>(mm r hr).ok) (fun r hr=>(mm r hr).hit) fun r hr=>(mm r hr).red
   have q1:=Zfm (ZhC (YC R (JI R)))
   simp only[Ga,Zci,f2,ZV,Z6,J2,Zb,gs_,gz_,ob_,Z7,p1,p2,a1,a2,q1]
end K41
namespace K41
open PySem PySem.Spec PyProof.Rows L2
noncomputable def top (i:Nat):Stmt:=PySem.Challenge.pw_wordmelt_k41_whole_lean.main.body.getD i (.Pass ⟨0,0,0,0⟩)
structure Mg (mg:Str→Option Value):Prop where
 m_any:mg "any"=none
 m_enumerate:mg "enumerate"=none
 m_isinstance:mg "isinstance"=none
 m_len:mg "len"=none
 m_list:mg "list"=none
 m_min:mg "min"=none
 m_range:mg "range"=none
 m_set:mg "set"=none
 m_sorted:mg "sorted"=none
 m_tuple:mg "tuple"=none
set_option bootstrap.genMatcherCode true
local macro_rules|`(tactic| walk_at "l")=>`(tactic| first|exact CI rfl|exact ZjC rfl)
set_option bootstrap.genMatcherCode false
section
variable {P:Program}{w:World}{K:Fg_}{mg:Str→Option Value}{base:Heap}
noncomputable abbrev Q9:Stmt:=top 22
theorem Z0k:Y8 ["_law_number","_law_k","_law_drawn_here"] ["_law_number","_law_k"] (Zy Q9):=⟨rfl,rfl,rfl,by decide +kernel,rfl,by decide +kernel,by decide +kernel⟩
theorem Z6O (m:Mg mg) {f:Addr} {fd:Jj} (F:Fun K "_law_drawn" "_law_drawn" Q9 f fd):Mw P w K mg base CX0 1 f fd ["_law_number","_law_k"] (spF K Jk):=by
 have nd:=Z0k.nd
 exact Fun.okQ F Z0k rfl rfl fun cdv A outer s H E hr=>(Zv (JK (i:=2) nd (by rfl) (by walk_at "l") (Uz (QD.pb (UO (QD.pb (JL (QD.pb (JL (Zh (qv 0)) (QD.pb (UO (QD.pb ZK) (Zh (qv 1)))))) (QD.pb ZK))) (QD.pb ZK))) (QD.pb ZK))) (ZG (Jr (QD.pb (Uz (QD.pb (JL (QD.pb (JL (QD.pb (UO (Zh (qv 2)) (Zh (qv 2)))) (QD.pb (UO (QD.pb ZK) (Zh (qv 2)))))) (Zh (qv 1)))) (QD.pb ZK))))))
noncomputable abbrev WH:Stmt:=top 26
theorem Z2e:Y8 ["_law_number","_law_letters","_law_found","_law_k","_law_letter","_law_drawn_here"] ["_law_number","_law_letters"] (Zy WH):=⟨rfl,rfl,rfl,by decide +kernel,rfl,by decide +kernel,by decide +kernel⟩
theorem Z8T (m:Mg mg) {f:Addr} {fd:Jj} (F:Fun K "_law_tame" "_law_tame" WH f fd) (c_l_drawn:Callee P w K mg base 1 "_law_drawn" Jk):Mw P w K mg base CX0 2 f fd ["_law_number","_law_letters"] (spF K Qd):=by
 have nd:=Z2e.nd
 exact Fun.okQ F Z2e rfl rfl fun cdv A outer s H E hr=>(Zv (MJ (i:=2) nd (by rfl) (by walk_at "l") (Z2m (QD.pb (Dc (.lst (.cons (.tup (.cons .str (.cons .str .nil)) (by decide)) (.cons (.tup (.cons .str (.cons .str .nil)) (by decide)) (.cons (.tup (.cons .str (.cons .str .nil)) (by decide)) .nil))) (by decide)))) Gc (Ut (ZdY (QD.pb (UO (QD.pb ZK) (QD.pb (Gw (by rfl) m.m_len (Ji (Zh (qv 1)) Jw))))) (QD.pb ZK))))) (Zv (G4 (C6 hr (QD.pb (Uz (Zh (qv 0)) (QD.pb ZK))) (QD.pb ZK)) (ZG (MJ (i:=2) nd (by rfl) (by walk_at "l") (Z2m (Zh (qv 2)) Gc (Ut (Uz (QD.pb (GV (Zh (qv 0)) (QD.pb ZK))) (QD.pb ZK)))))) YH) (Zv (Np JQ (by rfl) (Qb (by rfl) m.m_enumerate (Zx (qv 1))) (Qt (i:=3) (j:=4) (by rfl) nd (by rfl) (by rfl) (by walk_at "l") (by walk_at "l")) (Zv (JK (i:=5) nd (by rfl) (by walk_at "l") (Ja c_l_drawn (hr.mono (by decide)) (by rfl) (Z9 (Zx (qv 0)) (Z9 (Zx (qv 3)) ZP)))) (ZG (G4 (Z44 (QD.pb (Uz (Zh (qv 5)) (QD.pb ZK))) (QD.pb ZK)) (ZG (Mk (i:=2) (qv 2) (MR (Z9 (UO (Zh (qv 4)) (QD.pb (JL (QD.pb ZK) (QD.pb (Uz (QD.pb (GV (Zh (qv 5)) (QD.pb ZK))) (QD.pb ZK)))))) (Z9 (UO (Zh (qv 4)) (QD.pb (Uz (QD.pb (GV (Zh (qv 5)) (QD.pb ZK))) (QD.pb ZK)))) ZP))))) YH)))) (ZG (Jr (Zh (qv 2)))))))
noncomputable abbrev WG:Stmt:=top 23
theorem Z2d:Y8 ["_law_number","_law_letters","_law_most","_law_found","_law_k"] ["_law_number","_law_letters","_law_most"] (Zy WG):=⟨rfl,rfl,rfl,by decide +kernel,rfl,by decide +kernel,by decide +kernel⟩
theorem Z8S (m:Mg mg) {f:Addr} {fd:Jj} (F:Fun K "_law_word" "_law_word" WG f fd) (c_l_drawn:Callee P w K mg base 1 "_law_drawn" Jk):Mw P w K mg base CX0 2 f fd ["_law_number","_law_letters","_law_most"] (spF K YV):=by
 have nd:=Z2d.nd
 exact Fun.okQ F Z2d rfl rfl fun cdv A outer s H E hr=>(Zv (JK (i:=3) nd (by rfl) (by walk_at "l") Z47) (Zv (Np JQ (by rfl) (Qs (by rfl) m.m_range (Uz (Zh (qv 0)) (QD.pb (JL (Zh (qv 2)) (QD.pb ZK))))) (DJ (i:=4) nd (by rfl) (by walk_at "l")) (ZG (JK (i:=3) nd (by rfl) (by walk_at "l") (JL (Zh (qv 3)) (QD.pb (UE (Zh (qv 1)) (QD.pb (Uz (QD.pb (GV (QD.pb (Ja c_l_drawn (hr.mono (by decide)) (by rfl) (Z9 (Zx (qv 0)) (Z9 (Zx (qv 4)) ZP)))) (QD.pb ZK))) (QD.pb (Gw (by rfl) m.m_len (Ji (Zh (qv 1)) Jw))))) (fun _ _=>rfl))))))) (ZG (Jr (Zh (qv 3))))))
noncomputable abbrev WK:Stmt:=top 24
theorem Z2h:Y8 ["_law_one","_law_other"] ["_law_one","_law_other"] (Zy WK):=⟨rfl,rfl,rfl,by decide +kernel,rfl,by decide +kernel,by decide +kernel⟩
theorem Z8W (m:Mg mg) {f:Addr} {fd:Jj} (F:Fun K "_law_less" "_law_less" WK f fd):Mw P w K mg base CX0 1 f fd ["_law_one","_law_other"] (spF K Mh):=by
 have nd:=Z2h.nd
 exact Fun.okQ F Z2h rfl rfl fun cdv A outer s H E hr=>(ZG (Jr (QD.pb (Zgm hr (QD.pb (MR (Z9 (Gw (by rfl) m.m_len (Ji (Zh (qv 0)) Jw)) (Z9 (Zx (qv 0)) ZP)))) (QD.pb (MR (Z9 (Gw (by rfl) m.m_len (Ji (Zh (qv 1)) Jw)) (Z9 (Zx (qv 1)) ZP))))))))
noncomputable abbrev WI:Stmt:=top 25
theorem Z2f:Y8 ["_law_number","_law_letters","_law_left","_law_right"] ["_law_number","_law_letters"] (Zy WI):=⟨rfl,rfl,rfl,by decide +kernel,rfl,by decide +kernel,by decide +kernel⟩
theorem Z8U (m:Mg mg) {f:Addr} {fd:Jj} (F:Fun K "_law_rule" "_law_rule" WI f fd) (c_l_word:Callee P w K mg base 2 "_law_word" YV) (c_l_drawn:Callee P w K mg base 1 "_law_drawn" Jk) (c_l_less:Callee P w K mg base 1 "_law_less" Mh):Mw P w K mg base CX0 3 f fd ["_law_number","_law_letters"] (spF K GC):=by
 have nd:=Z2f.nd
 exact Fun.okQ F Z2f rfl rfl fun cdv A outer s H E hr=>(Zv (JK (i:=2) nd (by rfl) (by walk_at "l") (JL (QD.pb (Ja c_l_word (hr.mono (by decide)) (by rfl) (Z9 (JL (QD.pb (JL (QD.pb (UO (QD.pb ZK) (QD.pb (GV (Zh (qv 0)) (QD.pb ZK))))) (QD.pb ZK))) (QD.pb (Uz (Zh (qv 0)) (QD.pb ZK)))) (Z9 (Zx (qv 1)) (Z9 ZK ZP))))) (QD.pb (UE (Zh (qv 1)) (QD.pb (Uz (QD.pb (GV (Zh (qv 0)) (QD.pb ZK))) (QD.pb (Gw (by rfl) m.m_len (Ji (Zh (qv 1)) Jw))))) (fun _ _=>rfl))))) (Zv (G4 (C6 hr (QD.pb (Uz (QD.pb (GV (Zh (qv 0)) (QD.pb ZK))) (QD.pb ZK))) (QD.pb ZK)) (ZG (JK (i:=2) nd (by rfl) (by walk_at "l") (Gv (QD.pb (UO (Zh (qv 2)) (QD.pb ZK))) Gc (Ut ZK)))) YH) (Zv (JK (i:=3) nd (by rfl) (by walk_at "l") (Ja c_l_word (hr.mono (by decide)) (by rfl) (Z9 (Ja c_l_drawn (hr.mono (by decide)) (by rfl) (Z9 (Zx (qv 0)) (Z9 ZK ZP))) (Z9 (Zx (qv 1)) (Z9 (Gw (by rfl) m.m_len (Ji (Zh (qv 2)) Jw)) ZP))))) (Zv (G4 (DI (Qr (Ja c_l_less (hr.mono (by decide)) (by rfl) (Z9 (Zx (qv 3)) (Z9 (Zx (qv 2)) ZP))))) (ZG (JK (i:=3) nd (by rfl) (by walk_at "l") (Gv (Zh (qv 3)) (Ut ZK) (Ut (Gw (by rfl) m.m_len (Ji (Zh (qv 2)) Jw)))))) YH) (ZG (Jr (QD.pb (MR (Z9 (Zx (qv 2)) (Z9 (Zx (qv 3)) ZP))))))))))
noncomputable abbrev Mj:Stmt:=top 27
theorem Z0h:Y8 ["_law_number","_law_letters","_law_found","_law_by"] ["_law_number"] (Zy Mj):=⟨rfl,rfl,rfl,by decide +kernel,rfl,by decide +kernel,by decide +kernel⟩
theorem Z6L (m:Mg mg) {f:Addr} {fd:Jj} (F:Fun K "_law_rules" "_law_rules" Mj f fd) (c_l_tame:Callee P w K mg base 2 "_law_tame" Qd) (c_l_rule:Callee P w K mg base 3 "_law_rule" GC) (c_l_drawn:Callee P w K mg base 1 "_law_drawn" Jk):Mw P w K mg base CX0 4 f fd ["_law_number"] (spF K NK):=by
 have nd:=Z0h.nd
 exact Fun.okQ F Z0h rfl rfl fun cdv A outer s H E hr=>(Zv (JK (i:=1) nd (by rfl) (by walk_at "l") (UE (QD.pb (Dc (.tup (.cons .str (.cons .str .nil)) (by decide)))) (QD.pb (Uz (QD.pb (GV (Zh (qv 0)) (QD.pb ZK))) (QD.pb ZK))) (fun _ _=>rfl))) (Zv (JK (i:=2) nd (by rfl) (by walk_at "l") (Ja c_l_tame (hr.mono (by decide)) (by rfl) (Z9 (GV (Zh (qv 0)) (QD.pb ZK)) (Z9 (Zx (qv 1)) ZP)))) (Zv (G4 (Z44 (QD.pb (Uz (Zh (qv 0)) (QD.pb ZK))) (QD.pb ZK)) (ZG (Db (i:=2) nd (by rfl) (by walk_at "l") (by rfl) (Di (N:=["_law_number","_law_letters","_law_found","_law_by"]) (sc:=Zy Mj) (by rfl) (by rfl) (by decide +kernel)) (show (["_law_k","_law_number","_law_letters","_law_found","_law_by"]:Ls_).Nodup by decide +kernel) (by rfl) (Qs (by rfl) m.m_range (Uz (QD.pb (GV (Zh (qv 0)) (QD.pb ZK))) (QD.pb ZK))) (fun _ _ _ _ _=>GO) (fun _ _ _ _ _=>(Ja c_l_rule (hr.mono (by decide)) (by rfl) (Z9 (Ja c_l_drawn (hr.mono (by decide)) (by rfl) (Z9 (Zx (qv 1)) (Z9 (JL (QD.pb ZK) (Zh (qv 0))) ZP))) (Z9 (Zx (qv 2)) ZP)))))) (ZG (G4 (C6 hr (QD.pb (Uz (Zh (qv 0)) (QD.pb ZK))) (QD.pb ZK)) (ZG (JK (i:=2) nd (by rfl) (by walk_at "l") (JL (Zh (qv 2)) (QD.pb (QF.pd (Z18 (Z9 (Ja c_l_rule (hr.mono (by decide)) (by rfl) (Z9 (Ja c_l_drawn (hr.mono (by decide)) (by rfl) (Z9 (Zx (qv 0)) (Z9 ZK ZP))) (Z9 (Zx (qv 1)) ZP))) ZP))))))) YH))) (Zv (JK (i:=3) nd (by rfl) (by walk_at "l") (Uz (QD.pb (GV (Zh (qv 0)) (QD.pb ZK))) (QD.pb ZK))) (ZG (Jr (QD.pb (NT (by rfl) m.m_tuple (Ji (QD.pb (JL (QD.pb (Gv (Zh (qv 2)) (Ut (Zx (qv 3))) Gc)) (QD.pb (Gv (Zh (qv 2)) Gc (Ut (Zx (qv 3))))))) Jw)))))))))
noncomputable abbrev Ue:Stmt:=top 18
theorem QY:Y8 ["left","rules"] ["left","rules"] (Zy Ue):=⟨rfl,rfl,rfl,by decide +kernel,rfl,by decide +kernel,by decide +kernel⟩
theorem Fj (m:Mg mg) {f:Addr} {fd:Jj} (F:Fun K "holds_another" "holds_another" Ue f fd):Mw P w K mg base CX0 1 f fd ["left","rules"] (spF K YI):=by
 have nd:=QY.nd
 exact Fun.okQ F QY rfl rfl fun cdv A outer s H E hr=>(ZG (Jr (QD.pb (Ze2 (by rfl) (by rfl) m.m_any (Ji (QD.pb (QF.pd (NS (by rfl) (Di (N:=["left","rules"]) (sc:=Zy Ue) (by rfl) (by rfl) (by decide +kernel)) (show (["rule","left","rules"]:Ls_).Nodup by decide +kernel) (by rfl) (Nq (Zx (qv 1))) (fun _ _ _ _ _=>GO) (fun _ _ _ _ _=>(Z8k (Zgl hr (QD.pb (UE (Zh (qv 0)) (QD.pb ZK) (fun _ _=>rfl))) (Zh (qv 1))) (Z8i (Zgn hr (QD.pb (UE (Zh (qv 0)) (QD.pb ZK) (fun _ _=>rfl))) (Zh (qv 1))))))))) Jw)))))
noncomputable abbrev ND:Stmt:=top 3
theorem BH:Y8 ["rule","word","place"] ["rule","word","place"] (Zy ND):=⟨rfl,rfl,rfl,by decide +kernel,rfl,by decide +kernel,by decide +kernel⟩
theorem Z2x (m:Mg mg) {f:Addr} {fd:Jj} (F:Fun K "put_right" "put_right" ND f fd):Mw P w K mg base CX0 1 f fd ["rule","word","place"] (spF K YK):=by
 have nd:=BH.nd
 exact Fun.okQ F BH rfl rfl fun cdv A outer s H E hr=>(ZG (Jr (QD.pb (JL (QD.pb (JL (QD.pb (Gv (Zh (qv 1)) Gc (Ut (Zx (qv 2))))) (QD.pb (UE (Zh (qv 0)) (QD.pb ZK) (fun _ _=>rfl))))) (QD.pb (Gv (Zh (qv 1)) (Ut (JL (Zh (qv 2)) (QD.pb (Gw (by rfl) m.m_len (Ji (QD.pb (UE (Zh (qv 0)) (QD.pb ZK) (fun _ _=>rfl))) Jw))))) Gc))))))
noncomputable abbrev UY:Stmt:=top 6
theorem DH:Y8 ["rules","word","found","first"] ["rules","word"] (Zy UY):=⟨rfl,rfl,rfl,by decide +kernel,rfl,by decide +kernel,by decide +kernel⟩
theorem Z1d (m:Mg mg) {f:Addr} {fd:Jj} (F:Fun K "first_next" "first_next" UY f fd) (c_put_right:Callee P w K mg base 1 "put_right" YK):Mw P w K mg base CX0 2 f fd ["rules","word"] (spF K UB):=by
 have nd:=DH.nd
 exact Fun.okQ F DH rfl rfl fun cdv A outer s H E hr=>(Zv (Z45 (i:=2) nd (by rfl) (by walk_at "l") (by rfl) (Di (N:=["rules","word","found","first"]) (sc:=Zy UY) (by rfl) (by rfl) (by decide +kernel)) (show (["k","rule","rules","word","found","first"]:Ls_).Nodup by decide +kernel) (by rfl) (by rfl) (Qb (by rfl) m.m_enumerate (Zx (qv 0))) (fun _ _ _ _ _=>GO) (fun _ _ _ _ _=>(MR (Z9 (Z5v (Zh (qv 3)) (QD.pb (UE (Zh (qv 1)) (QD.pb ZK) (fun _ _=>rfl)))) (Z9 (Zx (qv 0)) ZP))))) (Zv (JK (i:=3) nd (by rfl) (by walk_at "l") (Zb2 hr (by rfl) (by rfl) m.m_min (Ji (QD.pb (QF.pd (NS (by rfl) (Di (N:=["rules","word","found","first"]) (sc:=Zy UY) (by rfl) (by rfl) (by decide +kernel)) (show (["pair","rules","word","found","first"]:Ls_).Nodup by decide +kernel) (by rfl) (Nq (Zx (qv 2))) (fun _ _ _ _ _=>Wk (Z8f (QD.pb (UE (Zh (qv 0)) (QD.pb ZK) (fun _ _=>rfl))) (QD.pb ZK))) (fun _ _ _ _ _=>(Zx (qv 0)))))) Jw) Bj)) (ZG (Jr (QD.pb (ZcT (Zb0 (Zh (qv 3)) (QD.pb Bj)) Bj (Ja c_put_right (hr.mono (by decide)) (by rfl) (Z9 (UE (Zh (qv 0)) (QD.pb (UE (Zh (qv 3)) (QD.pb ZK) (fun _ _=>rfl))) (fun _ _=>rfl)) (Z9 (Zx (qv 1)) (Z9 (UE (Zh (qv 3)) (QD.pb ZK) (fun _ _=>rfl)) ZP))))))))))
noncomputable abbrev Z6v:Stmt:=top 5
theorem ZcO:Y8 ["rules","word","behind"] ["rules","word"] (Zy Z6v):=⟨rfl,rfl,rfl,by decide +kernel,rfl,by decide +kernel,by decide +kernel⟩
theorem Zh9 (m:Mg mg) {f:Addr} {fd:Jj} (F:Fun K "end" "end" Z6v f fd) (c_first_next:Callee P w K mg base 2 "first_next" UB):Mw P w K mg base CX0 3 f fd ["rules","word"] (spF K Nr):=by
 have nd:=ZcO.nd
 exact Fun.okQ F ZcO rfl rfl fun cdv A outer s H E hr=>(Zv (JK (i:=2) nd (by rfl) (by walk_at "l") (Ja c_first_next (hr.mono (by decide)) (by rfl) (Z9 (Zx (qv 0)) (Z9 (Zx (qv 1)) ZP)))) (Zv (Bi JQ (Z8d (Zh (qv 2)) (QD.pb Bj)) (Zv (JK (i:=1) nd (by rfl) (by walk_at "l") (Zx (qv 2))) (ZG (JK (i:=2) nd (by rfl) (by walk_at "l") (Ja c_first_next (hr.mono (by decide)) (by rfl) (Z9 (Zx (qv 0)) (Z9 (Zx (qv 1)) ZP))))))) (ZG (Jr (Zh (qv 1))))))
noncomputable abbrev C4:Stmt:=top 17
theorem Z81:Y8 ["rules","right_of","rule"] ["rules"] (Zy C4):=⟨rfl,rfl,rfl,by decide +kernel,rfl,by decide +kernel,by decide +kernel⟩
theorem ZeT (m:Mg mg) {f:Addr} {fd:Jj} (F:Fun K "lean" "lean" C4 f fd) (c_holds_another:Callee P w K mg base 1 "holds_another" YI) (c_end:Callee P w K mg base 3 "end" Nr):Mw P w K mg base CX0 4 f fd ["rules"] (spF K GX):=by
 have nd:=Z81.nd
 exact Fun.okQ F Z81 rfl rfl fun cdv A outer s H E hr=>(Zv (Z8h (i:=1) nd (by rfl) (by walk_at "l")) (Zv (Np JQ (by rfl) (Nq (Zx (qv 0))) (DJ (i:=2) nd (by rfl) (by walk_at "l")) (ZG (G4 (DI (Qr (Ja c_holds_another (hr.mono (by decide)) (by rfl) (Z9 (UE (Zh (qv 2)) (QD.pb ZK) (fun _ _=>rfl)) (Z9 (Zx (qv 0)) ZP))))) (ZG (Z8g hr (qv 1) (QD.pb (UE (Zh (qv 2)) (QD.pb ZK) (fun _ _=>rfl))) (Ja c_end (hr.mono (by decide)) (by rfl) (Z9 (Zx (qv 0)) (Z9 (UE (Zh (qv 2)) (QD.pb ZK) (fun _ _=>rfl)) ZP))))) YH))) (ZG (Jr (QD.pb (NT (by rfl) m.m_tuple (Ji (QD.pb (QF.pd (NS (by rfl) (Di (N:=["rules","right_of","rule"]) (sc:=Zy C4) (by rfl) (by rfl) (by decide +kernel)) (show (["left","rules","right_of","rule"]:Ls_).Nodup by decide +kernel) (by rfl) (Nq (QF.pd (Z8a (by rfl) (by rfl) m.m_sorted (qv 1)))) (fun _ _ _ _ _=>GO) (fun _ _ _ _ _=>(MR (Z9 (Zx (qv 0)) (Z9 (Zb4 hr (qv 2) (Zh (qv 0)) (fun _ _=>rfl)) ZP))))))) Jw)))))))
noncomputable abbrev NF:Stmt:=top 28
theorem C2:Y8 ["_law_rules_here","_law_word_here","_law_found","_law_place"] ["_law_rules_here","_law_word_here"] (Zy NF):=⟨rfl,rfl,rfl,by decide +kernel,rfl,by decide +kernel,by decide +kernel⟩
theorem Z4h (m:Mg mg) {f:Addr} {fd:Jj} (F:Fun K "_law_places" "_law_places" NF f fd):Mw P w K mg base CX0 1 f fd ["_law_rules_here","_law_word_here"] (spF K G0):=by
 have nd:=C2.nd
 exact Fun.okQ F C2 rfl rfl fun cdv A outer s H E hr=>(Zv (JK (i:=2) nd (by rfl) (by walk_at "l") (Dc (.lst .nil (by decide)))) (Zv (Np JQ (by rfl) (Qs (by rfl) m.m_range (Gw (by rfl) m.m_len (Ji (Zh (qv 1)) Jw))) (DJ (i:=3) nd (by rfl) (by walk_at "l")) (ZG (JK (i:=2) nd (by rfl) (by walk_at "l") (JL (Zh (qv 2)) (QD.pb (QF.pd (Z2n (by rfl) (Di (N:=["_law_rules_here","_law_word_here","_law_found","_law_place"]) (sc:=Zy NF) (by rfl) (by rfl) (by decide +kernel)) (show (["_law_k","_law_rule_here","_law_rules_here","_law_word_here","_law_found","_law_place"]:Ls_).Nodup by decide +kernel) (by rfl) (by rfl) (Qb (by rfl) m.m_enumerate (Zx (qv 0))) (fun _ _ _ _ _=>Wk (Qr (Z0p (QD.pb (Gv (Zh (qv 3)) (Ut (Zx (qv 5))) Gc)) (QD.pb (UE (Zh (qv 1)) (QD.pb ZK) (fun _ _=>rfl)))))) (fun _ _ _ _ _=>(MR (Z9 (Zx (qv 5)) (Z9 (Zx (qv 0)) ZP))))))))))) (ZG (Jr (Zh (qv 2))))))
noncomputable abbrev NG:Stmt:=top 29
theorem BJ:Y8 ["_law_rules_here","_law_word_here","_law_place","_law_k","_law_left","_law_right"] ["_law_rules_here","_law_word_here","_law_place","_law_k"] (Zy NG):=⟨rfl,rfl,rfl,by decide +kernel,rfl,by decide +kernel,by decide +kernel⟩
theorem Z2z (m:Mg mg) {f:Addr} {fd:Jj} (F:Fun K "_law_changed" "_law_changed" NG f fd):Mw P w K mg base CX0 1 f fd ["_law_rules_here","_law_word_here","_law_place","_law_k"] (spF K G5):=by
 have nd:=BJ.nd
 exact Fun.okQ F BJ rfl rfl fun cdv A outer s H E hr=>(Zv (Zb1 (UE (Zh (qv 0)) (Zh (qv 3)) (fun _ _=>rfl)) (Qt (i:=4) (j:=5) (by rfl) nd (by rfl) (by rfl) (by walk_at "l") (by walk_at "l"))) (ZG (Jr (QD.pb (JL (QD.pb (JL (QD.pb (Gv (Zh (qv 1)) Gc (Ut (Zx (qv 2))))) (Zh (qv 5)))) (QD.pb (Gv (Zh (qv 1)) (Ut (JL (Zh (qv 2)) (QD.pb (Gw (by rfl) m.m_len (Ji (Zh (qv 4)) Jw))))) Gc)))))))
noncomputable abbrev Q7:Stmt:=top 30
theorem Z0i:Y8 ["_law_rules_here","_law_word_here","_law_found","_law_place","_law_k"] ["_law_rules_here","_law_word_here"] (Zy Q7):=⟨rfl,rfl,rfl,by decide +kernel,rfl,by decide +kernel,by decide +kernel⟩
theorem Z6M (m:Mg mg) {f:Addr} {fd:Jj} (F:Fun K "_law_nexts" "_law_nexts" Q7 f fd) (c_l_places:Callee P w K mg base 1 "_law_places" G0) (c_l_changed:Callee P w K mg base 1 "_law_changed" G5):Mw P w K mg base CX0 2 f fd ["_law_rules_here","_law_word_here"] (spF K UA):=by
 have nd:=Z0i.nd
 exact Fun.okQ F Z0i rfl rfl fun cdv A outer s H E hr=>(Zv (MJ (i:=2) nd (by rfl) (by walk_at "l") (Bh .nil (by decide))) (Zv (Np JQ (by rfl) (Fv (Ja c_l_places (hr.mono (by decide)) (by rfl) (Z9 (Zx (qv 0)) (Z9 (Zx (qv 1)) ZP)))) (Qt (i:=3) (j:=4) (by rfl) nd (by rfl) (by rfl) (by walk_at "l") (by walk_at "l")) (ZG (Mk (i:=2) (qv 2) (Ja c_l_changed (hr.mono (by decide)) (by rfl) (Z9 (Zx (qv 0)) (Z9 (Zx (qv 1)) (Z9 (Zx (qv 3)) (Z9 (Zx (qv 4)) ZP)))))))) (ZG (Jr (QD.pb (QF.pd (Qq (by rfl) (by rfl) m.m_sorted (by rfl) m.m_set (Ji (Zh (qv 2)) Jw))))))))
noncomputable abbrev Qp:Stmt:=top 31
theorem Z2i:Y8 ["_law_rules_here","_law_word_here","_law_met","_law_found","_law_at","_law_some"] ["_law_rules_here","_law_word_here"] (Zy Qp):=⟨rfl,rfl,rfl,by decide +kernel,rfl,by decide +kernel,by decide +kernel⟩
theorem Z8X (m:Mg mg) {f:Addr} {fd:Jj} (F:Fun K "_law_ends" "_law_ends" Qp f fd) (c_l_nexts:Callee P w K mg base 2 "_law_nexts" UA):Mw P w K mg base CX0 3 f fd ["_law_rules_here","_law_word_here"] (spF K UP):=by
 have nd:=Z2i.nd
 exact Fun.okQ F Z2i rfl rfl fun cdv A outer s H E hr=>(Zv (JK (i:=2) nd (by rfl) (by walk_at "l") (QF.pd (Z18 (Z9 (Zx (qv 1)) ZP)))) (Zv (MJ (i:=3) nd (by rfl) (by walk_at "l") (Bh .nil (by decide))) (Zv (JK (i:=4) nd (by rfl) (by walk_at "l") ZK) (Zv (Bi JQ (Z8e hr (Zh (qv 4)) (QD.pb (Gw (by rfl) m.m_len (Ji (Zh (qv 2)) Jw)))) (Zv (JK (i:=5) nd (by rfl) (by walk_at "l") (Ja c_l_nexts (hr.mono (by decide)) (by rfl) (Z9 (Zx (qv 0)) (Z9 (UE (Zh (qv 2)) (Zh (qv 4)) (fun _ _=>rfl)) ZP)))) (Zv (G4 (C6 hr (Zh (qv 5)) (QD.pb (Dc (.lst .nil (by decide))))) (ZG (Mk (i:=3) (qv 3) (UE (Zh (qv 2)) (Zh (qv 4)) (fun _ _=>rfl)))) YH) (Zv (JK (i:=2) nd (by rfl) (by walk_at "l") (JL (Zh (qv 2)) (QD.pb (QF.pd (NS (by rfl) (Di (N:=["_law_rules_here","_law_word_here","_law_met","_law_found","_law_at","_law_some"]) (sc:=Zy Qp) (by rfl) (by rfl) (by decide +kernel)) (show (["_law_other","_law_rules_here","_law_word_here","_law_met","_law_found","_law_at","_law_some"]:Ls_).Nodup by decide +kernel) (by rfl) (Nq (Zx (qv 5))) (fun _ _ _ _ _=>Wk (Z0o hr (Zh (qv 0)) (Zh (qv 3)))) (fun _ _ _ _ _=>(Zx (qv 0)))))))) (ZG (JK (i:=4) nd (by rfl) (by walk_at "l") (JL (Zh (qv 4)) (QD.pb ZK)))))))) (ZG (Jr (QD.pb (NT (by rfl) m.m_tuple (Ji (QD.pb (QF.pd (Z2l (by rfl) m.m_sorted (Ji (Zh (qv 3)) Jw)))) Jw)))))))))
noncomputable abbrev WJ:Stmt:=top 32
theorem Z2g:Y8 ["_law_rules_here","_law_number","_law_found","_law_k","_law_word_here","_law_some"] ["_law_rules_here","_law_number"] (Zy WJ):=⟨rfl,rfl,rfl,by decide +kernel,rfl,by decide +kernel,by decide +kernel⟩
theorem Z8V (m:Mg mg) {f:Addr} {fd:Jj} (F:Fun K "_law_more" "_law_more" WJ f fd) (c_l_word:Callee P w K mg base 2 "_law_word" YV) (c_l_nexts:Callee P w K mg base 2 "_law_nexts" UA) (c_l_drawn:Callee P w K mg base 1 "_law_drawn" Jk) (c_l_ends:Callee P w K mg base 3 "_law_ends" UP):Mw P w K mg base CX0 4 f fd ["_law_rules_here","_law_number"] (spF K Qe):=by
 have nd:=Z2g.nd
 exact Fun.okQ F Z2g rfl rfl fun cdv A outer s H E hr=>(Zv (MJ (i:=2) nd (by rfl) (by walk_at "l") (Bh .nil (by decide))) (Zv (Np JQ (by rfl) (Qs (by rfl) m.m_range (Uz (Zh (qv 1)) (QD.pb ZK))) (DJ (i:=3) nd (by rfl) (by walk_at "l")) (Zv (JK (i:=4) nd (by rfl) (by walk_at "l") (Ja c_l_word (hr.mono (by decide)) (by rfl) (Z9 (Ja c_l_drawn (hr.mono (by decide)) (by rfl) (Z9 (Zx (qv 1)) (Z9 (Zx (qv 3)) ZP))) (Z9 Z47 (Z9 ZK ZP))))) (Zv (JK (i:=5) nd (by rfl) (by walk_at "l") (Ja c_l_nexts (hr.mono (by decide)) (by rfl) (Z9 (Zx (qv 0)) (Z9 (Zx (qv 4)) ZP)))) (ZG (G4 (Wj hr (Zh (qv 5)) (QD.pb (Dc (.lst .nil (by decide))))) (ZG (Mk (i:=2) (qv 2) (MR (Z9 (Zx (qv 4)) (Z9 (UE (QD.pb (QF.pd (Z18 (Z9 (UE (QD.pb (Ja c_l_ends (hr.mono (by decide)) (by rfl) (Z9 (Zx (qv 0)) (Z9 (Zx (qv 4)) ZP)))) (QD.pb ZK) (fun _ _=>rfl)) (Z9 (UE (Zh (qv 5)) (QD.pb (ZdZ ZK)) (fun _ _=>rfl)) ZP))))) (QD.pb (Uz (QD.pb (GV (QD.pb (Ja c_l_drawn (hr.mono (by decide)) (by rfl) (Z9 (Zx (qv 1)) (Z9 (Zx (qv 3)) ZP)))) (QD.pb ZK))) (QD.pb ZK))) (fun _ _=>rfl)) ZP))))) YH))))) (ZG (Jr (QD.pb (NT (by rfl) m.m_tuple (Ji (Zh (qv 2)) Jw)))))))
noncomputable abbrev NH:Stmt:=top 20
theorem BK:Y8 ["_law_script","_law_k"] ["_law_script","_law_k"] (Zy NH):=⟨rfl,rfl,rfl,by decide +kernel,rfl,by decide +kernel,by decide +kernel⟩
theorem Z2A (m:Mg mg) {f:Addr} {fd:Jj} (F:Fun K "_law_cell_at" "_law_cell_at" NH f fd):Mw P w K mg base CX0 1 f fd ["_law_script","_law_k"] (spF K GD):=by
 have nd:=BK.nd
 exact Fun.okQ F BK rfl rfl fun cdv A outer s H E hr=>(Zv (G4 (Z8e hr (Zh (qv 1)) (QD.pb (Gw (by rfl) m.m_len (Ji (Zh (qv 0)) Jw)))) (ZG (Jr (QD.pb (UE (Zh (qv 0)) (Zh (qv 1)) (fun _ _=>rfl))))) YH) (ZG (Jr (QD.pb ZK))))
noncomputable abbrev Q8:Stmt:=top 21
theorem Z0j:Y8 ["_law_script","_law_k","_law_drawn_here"] ["_law_script","_law_k"] (Zy Q8):=⟨rfl,rfl,rfl,by decide +kernel,rfl,by decide +kernel,by decide +kernel⟩
theorem Z6N (m:Mg mg) {f:Addr} {fd:Jj} (F:Fun K "_law_mixed" "_law_mixed" Q8 f fd) (c_l_cell_at:Callee P w K mg base 1 "_law_cell_at" GD):Mw P w K mg base CX0 2 f fd ["_law_script","_law_k"] (spF K N6):=by
 have nd:=Z0j.nd
 exact Fun.okQ F Z0j rfl rfl fun cdv A outer s H E hr=>(Zv (JK (i:=2) nd (by rfl) (by walk_at "l") (Uz (QD.pb (UO (QD.pb (JL (QD.pb (JL (QD.pb (Ja c_l_cell_at (hr.mono (by decide)) (by rfl) (Z9 (Zx (qv 0)) (Z9 (Zx (qv 1)) ZP)))) (QD.pb (UO (QD.pb ZK) (Zh (qv 1)))))) (QD.pb ZK))) (QD.pb ZK))) (QD.pb ZK))) (ZG (Jr (QD.pb (Uz (QD.pb (JL (QD.pb (JL (QD.pb (UO (Zh (qv 2)) (Zh (qv 2)))) (QD.pb (UO (QD.pb ZK) (Zh (qv 2)))))) (Zh (qv 1)))) (QD.pb ZK))))))
noncomputable abbrev Q6:Stmt:=top 12
theorem Z0g:Y8 ["left","other","place"] ["left","other","place"] (Zy Q6):=⟨rfl,rfl,rfl,by decide +kernel,rfl,by decide +kernel,by decide +kernel⟩
theorem Z6K (m:Mg mg) {f:Addr} {fd:Jj} (F:Fun K "overlay" "overlay" Q6 f fd):Mw P w K mg base CX0 1 f fd ["left","other","place"] (spF K NJ):=by
 have nd:=Z0g.nd
 exact Fun.okQ F Z0g rfl rfl fun cdv A outer s H E hr=>(ZG (Jr (QD.pb (JL (QD.pb (JL (QD.pb (Gv (Zh (qv 0)) Gc (Ut (Zx (qv 2))))) (Zh (qv 1)))) (QD.pb (Gv (Zh (qv 0)) (Ut (JL (Zh (qv 2)) (QD.pb (Gw (by rfl) m.m_len (Ji (Zh (qv 1)) Jw))))) Gc))))))
noncomputable abbrev Nb:Stmt:=top 11
theorem C1:Y8 ["left","other","start","words"] ["left","other","start"] (Zy Nb):=⟨rfl,rfl,rfl,by decide +kernel,rfl,by decide +kernel,by decide +kernel⟩
theorem Z4g (m:Mg mg) {f:Addr} {fd:Jj} (F:Fun K "overlays" "overlays" Nb f fd) (c_overlay:Callee P w K mg base 1 "overlay" NJ):Mw P w K mg base CX0 2 f fd ["left","other","start"] (spF K Nd):=by
 have nd:=C1.nd
 exact Fun.okQ F C1 rfl rfl fun cdv A outer s H E hr=>(Zv (Db (i:=3) nd (by rfl) (by walk_at "l") (by rfl) (Di (N:=["left","other","start","words"]) (sc:=Zy Nb) (by rfl) (by rfl) (by decide +kernel)) (show (["place","left","other","start","words"]:Ls_).Nodup by decide +kernel) (by rfl) (Z46 (by rfl) m.m_range (Zx (qv 2)) (Gw (by rfl) m.m_len (Ji (Zh (qv 0)) Jw))) (fun _ _ _ _ _=>GO) (fun _ _ _ _ _=>(Ja c_overlay (hr.mono (by decide)) (by rfl) (Z9 (Zx (qv 1)) (Z9 (Zx (qv 2)) (Z9 (Zx (qv 0)) ZP)))))) (ZG (Jr (QD.pb (QF.pd (NS (by rfl) (Di (N:=["left","other","start","words"]) (sc:=Zy Nb) (by rfl) (by rfl) (by decide +kernel)) (show (["word","left","other","start","words"]:Ls_).Nodup by decide +kernel) (by rfl) (Nq (Zx (qv 3))) (fun _ _ _ _ _=>Wk (Qr (Z0p (Zh (qv 0)) (Zh (qv 1))))) (fun _ _ _ _ _=>(Zx (qv 0)))))))))
noncomputable abbrev Qa:Stmt:=top 10
theorem Z0l:Y8 ["rules","found","i","rule","j","other"] ["rules"] (Zy Qa):=⟨rfl,rfl,rfl,by decide +kernel,rfl,by decide +kernel,by decide +kernel⟩
theorem Z6P (m:Mg mg) {f:Addr} {fd:Jj} (F:Fun K "clashes" "clashes" Qa f fd) (c_overlays:Callee P w K mg base 2 "overlays" Nd):Mw P w K mg base CX0 3 f fd ["rules"] (spF K NL):=by
 have nd:=Z0l.nd
 exact Fun.okQ F Z0l rfl rfl fun cdv A outer s H E hr=>(Zv (MJ (i:=1) nd (by rfl) (by walk_at "l") (Bh .nil (by decide))) (Zv (Np JQ (by rfl) (Qb (by rfl) m.m_enumerate (Zx (qv 0))) (Qt (i:=2) (j:=3) (by rfl) nd (by rfl) (by rfl) (by walk_at "l") (by walk_at "l")) (ZG (Np JQ (by rfl) (Qb (by rfl) m.m_enumerate (Zx (qv 0))) (Qt (i:=4) (j:=5) (by rfl) nd (by rfl) (by rfl) (by walk_at "l") (by walk_at "l")) (ZG (C7 (i:=1) (qv 1) (QD.pb (Ja c_overlays (hr.mono (by decide)) (by rfl) (Z9 (UE (Zh (qv 3)) (QD.pb ZK) (fun _ _=>rfl)) (Z9 (UE (Zh (qv 5)) (QD.pb ZK) (fun _ _=>rfl)) (Z9 (ZcT (C6 hr (Zh (qv 2)) (Zh (qv 4))) ZK ZK) ZP)))))))))) (ZG (Jr (QD.pb (NT (by rfl) m.m_tuple (Ji (QD.pb (QF.pd (Qq (by rfl) (by rfl) m.m_sorted (by rfl) m.m_set (Ji (Zh (qv 1)) Jw)))) Jw)))))))
noncomputable abbrev Z0m:Stmt:=top 8
theorem Z80:Y8 ["word"] ["word"] (Zy Z0m):=⟨rfl,rfl,rfl,by decide +kernel,rfl,by decide +kernel,by decide +kernel⟩
theorem ZeS (m:Mg mg) {f:Addr} {fd:Jj} (F:Fun K "rank" "rank" Z0m f fd):Mw P w K mg base CX0 1 f fd ["word"] (spF K Qu):=by
 have nd:=Z80.nd
 exact Fun.okQ F Z80 rfl rfl fun cdv A outer s H E hr=>(ZG (Jr (QD.pb (MR (Z9 (Gw (by rfl) m.m_len (Ji (Zh (qv 0)) Jw)) (Z9 (Zx (qv 0)) ZP))))))
noncomputable abbrev NE:Stmt:=top 2
theorem BI:Y8 ["left","word","found","place"] ["left","word"] (Zy NE):=⟨rfl,rfl,rfl,by decide +kernel,rfl,by decide +kernel,by decide +kernel⟩
theorem Z2y (m:Mg mg) {f:Addr} {fd:Jj} (F:Fun K "places_of" "places_of" NE f fd):Mw P w K mg base CX0 1 f fd ["left","word"] (spF K YL):=by
 have nd:=BI.nd
 exact Fun.okQ F BI rfl rfl fun cdv A outer s H E hr=>(Zv (MJ (i:=2) nd (by rfl) (by walk_at "l") (Bh .nil (by decide))) (Zv (JK (i:=3) nd (by rfl) (by walk_at "l") (Z5v (Zh (qv 1)) (Zh (qv 0)))) (Zv (Bi JQ (Z8f (Zh (qv 3)) (QD.pb ZK)) (Zv (Mk (i:=2) (qv 2) (Zx (qv 3))) (ZG (JK (i:=3) nd (by rfl) (by walk_at "l") (Z8j (Zh (qv 1)) (Zh (qv 0)) (QD.pb (JL (Zh (qv 3)) (QD.pb ZK)))))))) (ZG (Jr (Zh (qv 2)))))))
noncomputable abbrev Qo:Stmt:=top 1
theorem Z2c:Y8 ["rules","word","found","k","rule"] ["rules","word"] (Zy Qo):=⟨rfl,rfl,rfl,by decide +kernel,rfl,by decide +kernel,by decide +kernel⟩
theorem Z8R (m:Mg mg) {f:Addr} {fd:Jj} (F:Fun K "places" "places" Qo f fd) (c_places_of:Callee P w K mg base 1 "places_of" YL):Mw P w K mg base CX0 2 f fd ["rules","word"] (spF K NI):=by
 have nd:=Z2c.nd
 exact Fun.okQ F Z2c rfl rfl fun cdv A outer s H E hr=>(Zv (MJ (i:=2) nd (by rfl) (by walk_at "l") (Bh .nil (by decide))) (Zv (Np JQ (by rfl) (Qb (by rfl) m.m_enumerate (Zx (qv 0))) (Qt (i:=3) (j:=4) (by rfl) nd (by rfl) (by rfl) (by walk_at "l") (by walk_at "l")) (ZG (C7 (i:=2) (qv 2) (QD.pb (QF.pd (NS (by rfl) (Di (N:=["rules","word","found","k","rule"]) (sc:=Zy Qo) (by rfl) (by rfl) (by decide +kernel)) (show (["place","rules","word","found","k","rule"]:Ls_).Nodup by decide +kernel) (by rfl) (Nq (Ja c_places_of (hr.mono (by decide)) (by rfl) (Z9 (UE (Zh (qv 4)) (QD.pb ZK) (fun _ _=>rfl)) (Z9 (Zx (qv 1)) ZP)))) (fun _ _ _ _ _=>GO) (fun _ _ _ _ _=>(MR (Z9 (Zx (qv 0)) (Z9 (Zx (qv 4)) ZP)))))))))) (ZG (Jr (QD.pb (NT (by rfl) m.m_tuple (Ji (QD.pb (QF.pd (Z2l (by rfl) m.m_sorted (Ji (Zh (qv 2)) Jw)))) Jw)))))))
noncomputable abbrev Da:Stmt:=top 4
theorem Z5n:Y8 ["rules","word"] ["rules","word"] (Zy Da):=⟨rfl,rfl,rfl,by decide +kernel,rfl,by decide +kernel,by decide +kernel⟩
theorem ZbH (m:Mg mg) {f:Addr} {fd:Jj} (F:Fun K "nexts" "nexts" Da f fd) (c_put_right:Callee P w K mg base 1 "put_right" YK) (c_places:Callee P w K mg base 2 "places" NI):Mw P w K mg base CX0 3 f fd ["rules","word"] (spF K Qc):=by
 have nd:=Z5n.nd
 exact Fun.okQ F Z5n rfl rfl fun cdv A outer s H E hr=>(ZG (Jr (QD.pb (NT (by rfl) m.m_tuple (Ji (QD.pb (QF.pd (Qq (by rfl) (by rfl) m.m_sorted (by rfl) m.m_set (Ji (QD.pb (QF.pd (Z2n (by rfl) (Di (N:=["rules","word"]) (sc:=Zy Da) (by rfl) (by rfl) (by decide +kernel)) (show (["place","k","rules","word"]:Ls_).Nodup by decide +kernel) (by rfl) (by rfl) (Fv (Ja c_places (hr.mono (by decide)) (by rfl) (Z9 (Zx (qv 0)) (Z9 (Zx (qv 1)) ZP)))) (fun _ _ _ _ _=>GO) (fun _ _ _ _ _=>(Ja c_put_right (hr.mono (by decide)) (by rfl) (Z9 (UE (Zh (qv 2)) (Zh (qv 1)) (fun _ _=>rfl)) (Z9 (Zx (qv 3)) (Z9 (Zx (qv 0)) ZP)))))))) Jw)))) Jw)))))
noncomputable abbrev Uf:Stmt:=top 15
theorem QZ:Y8 ["rules","word"] ["rules","word"] (Zy Uf):=⟨rfl,rfl,rfl,by decide +kernel,rfl,by decide +kernel,by decide +kernel⟩
theorem Fk (m:Mg mg) {f:Addr} {fd:Jj} (F:Fun K "ends_of_nexts" "ends_of_nexts" Uf f fd) (c_end:Callee P w K mg base 3 "end" Nr) (c_nexts:Callee P w K mg base 3 "nexts" Qc):Mw P w K mg base CX0 4 f fd ["rules","word"] (spF K Yl):=by
 have nd:=QZ.nd
 exact Fun.okQ F QZ rfl rfl fun cdv A outer s H E hr=>(ZG (Jr (QD.pb (NT (by rfl) m.m_tuple (Ji (QD.pb (QF.pd (Qq (by rfl) (by rfl) m.m_sorted (by rfl) m.m_set (Ji (QD.pb (QF.pd (NS (by rfl) (Di (N:=["rules","word"]) (sc:=Zy Uf) (by rfl) (by rfl) (by decide +kernel)) (show (["behind","rules","word"]:Ls_).Nodup by decide +kernel) (by rfl) (Nq (Ja c_nexts (hr.mono (by decide)) (by rfl) (Z9 (Zx (qv 0)) (Z9 (Zx (qv 1)) ZP)))) (fun _ _ _ _ _=>GO) (fun _ _ _ _ _=>(Ja c_end (hr.mono (by decide)) (by rfl) (Z9 (Zx (qv 1)) (Z9 (Zx (qv 0)) ZP))))))) Jw)))) Jw)))))
noncomputable abbrev Bg:Stmt:=top 13
theorem Z5o:Y8 ["rules","word"] ["rules"] (Zy Bg):=⟨rfl,rfl,rfl,by decide +kernel,rfl,by decide +kernel,by decide +kernel⟩
theorem ZbI (m:Mg mg) {f:Addr} {fd:Jj} (F:Fun K "doubt" "doubt" Bg f fd) (c_clashes:Callee P w K mg base 3 "clashes" NL) (c_rank:Callee P w K mg base 1 "rank" Qu) (c_ends_of_nexts:Callee P w K mg base 4 "ends_of_nexts" Yl):Mw P w K mg base CX0 5 f fd ["rules"] (spF K Ml):=by
 have nd:=Z5o.nd
 exact Fun.okQ F Z5o rfl rfl fun cdv A outer s H E hr=>(Zv (Np JQ (by rfl) (Nq (QF.pd (Z89 c_rank (hr.mono (by decide)) (by rfl) (by rfl) m.m_sorted (Ji (QD.pb (Ja c_clashes (hr.mono (by decide)) (by rfl) (Z9 (Zx (qv 0)) ZP))) Jw)))) (DJ (i:=1) nd (by rfl) (by walk_at "l")) (ZG (G4 (Z44 (QD.pb (Gw (by rfl) m.m_len (Ji (QD.pb (Ja c_ends_of_nexts (hr.mono (by decide)) (by rfl) (Z9 (Zx (qv 0)) (Z9 (Zx (qv 1)) ZP)))) Jw))) (QD.pb ZK)) (ZG (Jr (Zh (qv 1)))) YH))) (ZG (Jr (QD.pb Bj))))
noncomputable abbrev Mf:Stmt:=top 14
theorem C3:Y8 ["rules"] ["rules"] (Zy Mf):=⟨rfl,rfl,rfl,by decide +kernel,rfl,by decide +kernel,by decide +kernel⟩
theorem Z4i (m:Mg mg) {f:Addr} {fd:Jj} (F:Fun K "are_sure" "are_sure" Mf f fd) (c_doubt:Callee P w K mg base 5 "doubt" Ml):Mw P w K mg base CX0 6 f fd ["rules"] (spF K Nf):=by
 have nd:=C3.nd
 exact Fun.okQ F C3 rfl rfl fun cdv A outer s H E hr=>(ZG (Jr (QD.pb (Ze0 (QD.pb (Ja c_doubt (hr.mono (by decide)) (by rfl) (Z9 (Zx (qv 0)) ZP))) (QD.pb Bj)))))
noncomputable abbrev Fh:Stmt:=top 33
theorem ZcN:Y8 ["_law_script","_law_rules_here","_law_found","_law_lefts","_law_first","_law_left","_law_right","_law_word_here","_law_more_here"] ["_law_script"] (Zy Fh):=⟨rfl,rfl,rfl,by decide +kernel,rfl,by decide +kernel,by decide +kernel⟩
theorem Zh8 (m:Mg mg) {f:Addr} {fd:Jj} (F:Fun K "law" "law" Fh f fd) (c_l_rules:Callee P w K mg base 4 "_law_rules" NK) (c_lean:Callee P w K mg base 4 "lean" GX) (c_l_word:Callee P w K mg base 2 "_law_word" YV) (c_l_more:Callee P w K mg base 4 "_law_more" Qe) (c_l_mixed:Callee P w K mg base 2 "_law_mixed" N6) (c_are_sure:Callee P w K mg base 6 "are_sure" Nf) (c_l_ends:Callee P w K mg base 3 "_law_ends" UP) (c_l_places:Callee P w K mg base 1 "_law_places" G0):Mw P w K mg base CX0 7 f fd ["_law_script"] (spF K De):=by
 have nd:=ZcN.nd
 exact Fun.okQ F ZcN rfl rfl fun cdv A outer s H E hr=>(Zv (JK (i:=1) nd (by rfl) (by walk_at "l") (Ja c_l_rules (hr.mono (by decide)) (by rfl) (Z9 (Ja c_l_mixed (hr.mono (by decide)) (by rfl) (Z9 (Zx (qv 0)) (Z9 ZK ZP))) ZP))) (Zv (G4 (DI (Qr (Ja c_are_sure (hr.mono (by decide)) (by rfl) (Z9 (Zx (qv 1)) ZP)))) (ZG (Jr (QD.pb BM))) YH) (Zv (JK (i:=2) nd (by rfl) (by walk_at "l") (Ja c_lean (hr.mono (by decide)) (by rfl) (Z9 (Zx (qv 1)) ZP))) (Zv (G4 (QW.pdt (Z8b (DI (Qr (Ze1 Z06.tuple (Zh (qv 2)) (by rfl) m.m_isinstance (by rfl) m.m_tuple (by rfl)))) (Z5u (Wj hr (QD.pb (Zb3 (by rfl) m.m_list (Ji (Zh (qv 2)) Jw))) (QD.pb (QF.pd (Z2k hr (by rfl) (by rfl) m.m_sorted (by rfl) m.m_set (Ji (Zh (qv 2)) Jw)))))))) (ZG (Jr (QD.pb BM))) YH) (Zv (Z2o (m:=[5,6]) (i:=3) nd (by rfl) (by walk_at "l") (by rfl) (Di (N:=["_law_script","_law_rules_here","_law_found","_law_lefts","_law_first",".","","_law_word_here","_law_more_here"]) (sc:=Zy Fh) (by rfl) (by rfl) (by decide +kernel)) (show (["_law_left","_law_right","_law_script","_law_rules_here","_law_found","_law_lefts","_law_first",".","","_law_word_here","_law_more_here"]:Ls_).Nodup by decide +kernel) (by rfl) (by rfl) (Fv (Zx (qv 2))) (fun _ _ _ _ _=>GO) (fun _ _ _ _ _=>(Zx (qv 0)))) (Zv (G4 (Wj hr (QD.pb (Z6x (by rfl) (by rfl) m.m_len (by rfl) m.m_set (Ji (Zh (qv 3)) Jw))) (QD.pb (Gw (by rfl) m.m_len (Ji (Zh (qv 3)) Jw)))) (ZG (Jr (QD.pb BM))) YH) (Zv (Db (i:=4) nd (by rfl) (by walk_at "l") (by rfl) (Di (N:=["_law_script","_law_rules_here","_law_found","_law_lefts","_law_first","_law_left","_law_right","_law_word_here","_law_more_here"]) (sc:=Zy Fh) (by rfl) (by rfl) (by decide +kernel)) (show (["_law_rule_here","_law_script","_law_rules_here","_law_found","_law_lefts","_law_first","_law_left","_law_right","_law_word_here","_law_more_here"]:Ls_).Nodup by decide +kernel) (by rfl) (Nq (Zx (qv 1))) (fun _ _ _ _ _=>GO) (fun _ _ _ _ _=>(UE (Zh (qv 0)) (QD.pb ZK) (fun _ _=>rfl)))) (Zv (Np JQ (by rfl) (Fv (Zx (qv 2))) (Qt (i:=5) (j:=6) (by rfl) nd (by rfl) (by rfl) (by walk_at "l") (by walk_at "l")) (Zv (G4 (Z0o hr (Zh (qv 5)) (Zh (qv 4))) (ZG (Jr (QD.pb BM))) YH) (Zv (G4 (Wj hr (QD.pb (QF.pd (NS (by rfl) (Di (N:=["_law_script","_law_rules_here","_law_found","_law_lefts","_law_first","_law_left","_law_right","_law_word_here","_law_more_here"]) (sc:=Zy Fh) (by rfl) (by rfl) (by decide +kernel)) (show (["_law_other","_law_script","_law_rules_here","_law_found","_law_lefts","_law_first","_law_left","_law_right","_law_word_here","_law_more_here"]:Ls_).Nodup by decide +kernel) (by rfl) (Nq (Zx (qv 3))) (fun _ _ _ _ _=>Wk (QW.pdt (ZaZ (Wj hr (Zh (qv 0)) (Zh (qv 6))) (Z8c (ZdX hr (Zh (qv 0)) (Zh (qv 6))))))) (fun _ _ _ _ _=>(Zx (qv 0)))))) (QD.pb (Dc (.lst .nil (by decide))))) (ZG (Jr (QD.pb BM))) YH) (ZG (G4 (Wj hr (QD.pb (Ja c_l_places (hr.mono (by decide)) (by rfl) (Z9 (Zx (qv 1)) (Z9 (Zx (qv 6)) ZP)))) (QD.pb (Dc (.lst .nil (by decide))))) (ZG (Jr (QD.pb BM))) YH))))) (Zv (JK (i:=7) nd (by rfl) (by walk_at "l") (Ja c_l_word (hr.mono (by decide)) (by rfl) (Z9 (Ja c_l_mixed (hr.mono (by decide)) (by rfl) (Z9 (Zx (qv 0)) (Z9 ZK ZP))) (Z9 Z47 (Z9 ZK ZP))))) (Zv (G4 (Wj hr (QD.pb (Ja c_l_ends (hr.mono (by decide)) (by rfl) (Z9 (Zx (qv 2)) (Z9 (Zx (qv 7)) ZP)))) (QD.pb (Ja c_l_ends (hr.mono (by decide)) (by rfl) (Z9 (Zx (qv 1)) (Z9 (Zx (qv 7)) ZP))))) (ZG (Jr (QD.pb BM))) YH) (Zv (G4 (QW.pdt (Z8b (DI (Qr (Ja c_are_sure (hr.mono (by decide)) (by rfl) (Z9 (Zx (qv 2)) ZP)))) (Z5u (Wj hr (QD.pb (Ja c_lean (hr.mono (by decide)) (by rfl) (Z9 (Zx (qv 2)) ZP))) (Zh (qv 2)))))) (ZG (Jr (QD.pb BM))) YH) (Zv (JK (i:=8) nd (by rfl) (by walk_at "l") (Ja c_l_more (hr.mono (by decide)) (by rfl) (Z9 (Zx (qv 1)) (Z9 (Ja c_l_mixed (hr.mono (by decide)) (by rfl) (Z9 (Zx (qv 0)) (Z9 ZK ZP))) ZP)))) (ZG (Jr (QD.pb (Z8k (ZcU hr (QD.pb (Ja c_lean (hr.mono (by decide)) (by rfl) (Z9 (JL (Zh (qv 1)) (Zh (qv 8))) ZP))) (Zh (qv 2))) (Z8i (ZcU hr (QD.pb (Ja c_lean (hr.mono (by decide)) (by rfl) (Z9 (JL (Zh (qv 8)) (Zh (qv 1))) ZP))) (Zh (qv 2))))))))))))))))))))
end
theorem us0 {P:List Value→Prop}(h:P [])(us:Lu_)(e:us.length=0):P us:=by
 cases us
 ·exact h
 ·cases e
theorem usS {n:Nat}{P:List Value→Prop}(h:∀ x us,us.length=n→P (x::us))(us:Lu_)(e:us.length=n+1):P us:=by
 cases us
 ·cases e
 ·exact h _ _ (Nat.succ.inj e)
theorem us1 {P:List Value→Prop}(h:∀ x0,P [x0]):∀ us:Lu_,us.length=1→P us:=usS fun x0=>us0 (P:=fun l=>P (x0::l)) (h x0)
theorem us2 {P:List Value→Prop}(h:∀ x0 x1,P [x0,x1]):∀ us:Lu_,us.length=2→P us:=usS fun x0=>us1 (P:=fun l=>P (x0::l)) (h x0)
theorem us3 {P:List Value→Prop}(h:∀ x0 x1 x2,P [x0,x1,x2]):∀ us:Lu_,us.length=3→P us:=usS fun x0=>us2 (P:=fun l=>P (x0::l)) (h x0)
theorem us4 {P:List Value→Prop}(h:∀ x0 x1 x2 x3,P [x0,x1,x2,x3]):∀ us:Lu_,us.length=4→P us:=usS fun x0=>us3 (P:=fun l=>P (x0::l)) (h x0)
theorem all_mk {l:CS} {w:World} {K:Fg_} {h:Heap} {mg:Str→Option Value} {fa f0 f1 f2 f3 f4 f5 f6 f7 f8 f9 f10 f11 f12 f13 f14 f15 f16 f17 f18 f19 f20 f21 f22 f23 f24 f25 f26 f27 f28:Addr} (X:K.In h) (G:h.Ns mainGlobals mg) (hfa:mg "law"=some (.ref fa))
  {od0 an0 od1 an1 od2 an2 od3 an3 od4 an4 od5 an5 od6 an6 od7 an7 od8 an8 od9 an9 od10 an10 od11 an11 od12 an12 od13 an13 od14 an14 od15 an15 od16 an16 od17 an17 od18 an18 od19 an19 od20 an20 od21 an21 od22 an22 od23 an23 od24 an24 od25 an25 od26 an26 od27 an27 od28 an28:Option Addr} {sl0 sl1 sl2 sl3 sl4 sl5 sl6 sl7 sl8 sl9 sl10 sl11 sl12 sl13 sl14 sl15 sl16 sl17 sl18 sl19 sl20 sl21 sl22 sl23 sl24 sl25 sl26 sl27 sl28:Array (Option Value)} {oc0 kV0 dc0 pm0 cd0 ct0 oc1 kV1 dc1 pm1 cd1 ct1 oc2 kV2 dc2 pm2 cd2 ct2 oc3 kV3 dc3 pm3 cd3 ct3 oc4 kV4 dc4 pm4 cd4 ct4 oc5 kV5 dc5 pm5 cd5 ct5 oc6 kV6 dc6 pm6 cd6 ct6 oc7 kV7 dc7 pm7 cd7 ct7 oc8 kV8 dc8 pm8 cd8 ct8 oc9 kV9 dc9 pm9 cd9 ct9 oc10 kV10 dc10 pm10 cd10 ct10 oc11 kV11 dc11 pm11 cd11 ct11 oc12 kV12 dc12 pm12 cd12 ct12 oc13 kV13 dc13 pm13 cd13 ct13 oc14 kV14 dc14 pm14 cd14 ct14 oc15 kV15 dc15 pm15 cd15 ct15 oc16 kV16 dc16 pm16 cd16 ct16 oc17 kV17 dc17 pm17 cd17 ct17 oc18 kV18 dc18 pm18 cd18 ct18 oc19 kV19 dc19 pm19 cd19 ct19 oc20 kV20 dc20 pm20 cd20 ct20 oc21 kV21 dc21 pm21 cd21 ct21 oc22 kV22 dc22 pm22 cd22 ct22 oc23 kV23 dc23 pm23 cd23 ct23 oc24 kV24 dc24 pm24 cd24 ct24 oc25 kV25 dc25 pm25 cd25 ct25 oc26 kV26 dc26 pm26 cd26 ct26 oc27 kV27 dc27 pm27 cd27 ct27 oc28 kV28 dc28 pm28 cd28 ct28:Value}
  (a0:ZM K mainGlobals "_law_drawn"=some (some (.ref f0))) (l0:K.lookup f0=some ⟨oc0,od0,.func (ZR "_law_drawn" "_law_drawn" (Y6 Q9) (JV Q9) (Zy Q9) .none kV0 dc0 pm0 an0 cd0 ct0),sl0⟩) (q0:ZN K cd0 "_law_drawn"=true) (k0:ZL K (.ref f0)=true)
  (a1:ZM K mainGlobals "_law_tame"=some (some (.ref f1))) (l1:K.lookup f1=some ⟨oc1,od1,.func (ZR "_law_tame" "_law_tame" (Y6 WH) (JV WH) (Zy WH) .none kV1 dc1 pm1 an1 cd1 ct1),sl1⟩) (q1:ZN K cd1 "_law_tame"=true) (k1:ZL K (.ref f1)=true)
  (a2:ZM K mainGlobals "_law_word"=some (some (.ref f2))) (l2:K.lookup f2=some ⟨oc2,od2,.func (ZR "_law_word" "_law_word" (Y6 WG) (JV WG) (Zy WG) .none kV2 dc2 pm2 an2 cd2 ct2),sl2⟩) (q2:ZN K cd2 "_law_word"=true) (k2:ZL K (.ref f2)=true)
  (a3:ZM K mainGlobals "_law_less"=some (some (.ref f3))) (l3:K.lookup f3=some ⟨oc3,od3,.func (ZR "_law_less" "_law_less" (Y6 WK) (JV WK) (Zy WK) .none kV3 dc3 pm3 an3 cd3 ct3),sl3⟩) (q3:ZN K cd3 "_law_less"=true) (k3:ZL K (.ref f3)=true)
  (a4:ZM K mainGlobals "_law_rule"=some (some (.ref f4))) (l4:K.lookup f4=some ⟨oc4,od4,.func (ZR "_law_rule" "_law_rule" (Y6 WI) (JV WI) (Zy WI) .none kV4 dc4 pm4 an4 cd4 ct4),sl4⟩) (q4:ZN K cd4 "_law_rule"=true) (k4:ZL K (.ref f4)=true)
  (a5:ZM K mainGlobals "_law_rules"=some (some (.ref f5))) (l5:K.lookup f5=some ⟨oc5,od5,.func (ZR "_law_rules" "_law_rules" (Y6 Mj) (JV Mj) (Zy Mj) .none kV5 dc5 pm5 an5 cd5 ct5),sl5⟩) (q5:ZN K cd5 "_law_rules"=true) (k5:ZL K (.ref f5)=true)
  (a6:ZM K mainGlobals "holds_another"=some (some (.ref f6))) (l6:K.lookup f6=some ⟨oc6,od6,.func (ZR "holds_another" "holds_another" (Y6 Ue) (JV Ue) (Zy Ue) .none kV6 dc6 pm6 an6 cd6 ct6),sl6⟩) (q6:ZN K cd6 "holds_another"=true) (k6:ZL K (.ref f6)=true)
  (a7:ZM K mainGlobals "put_right"=some (some (.ref f7))) (l7:K.lookup f7=some ⟨oc7,od7,.func (ZR "put_right" "put_right" (Y6 ND) (JV ND) (Zy ND) .none kV7 dc7 pm7 an7 cd7 ct7),sl7⟩) (q7:ZN K cd7 "put_right"=true) (k7:ZL K (.ref f7)=true)
  (a8:ZM K mainGlobals "first_next"=some (some (.ref f8))) (l8:K.lookup f8=some ⟨oc8,od8,.func (ZR "first_next" "first_next" (Y6 UY) (JV UY) (Zy UY) .none kV8 dc8 pm8 an8 cd8 ct8),sl8⟩) (q8:ZN K cd8 "first_next"=true) (k8:ZL K (.ref f8)=true)
  (a9:ZM K mainGlobals "end"=some (some (.ref f9))) (l9:K.lookup f9=some ⟨oc9,od9,.func (ZR "end" "end" (Y6 Z6v) (JV Z6v) (Zy Z6v) .none kV9 dc9 pm9 an9 cd9 ct9),sl9⟩) (q9:ZN K cd9 "end"=true) (k9:ZL K (.ref f9)=true)
  (a10:ZM K mainGlobals "lean"=some (some (.ref f10))) (l10:K.lookup f10=some ⟨oc10,od10,.func (ZR "lean" "lean" (Y6 C4) (JV C4) (Zy C4) .none kV10 dc10 pm10 an10 cd10 ct10),sl10⟩) (q10:ZN K cd10 "lean"=true) (k10:ZL K (.ref f10)=true)
  (a11:ZM K mainGlobals "_law_places"=some (some (.ref f11))) (l11:K.lookup f11=some ⟨oc11,od11,.func (ZR "_law_places" "_law_places" (Y6 NF) (JV NF) (Zy NF) .none kV11 dc11 pm11 an11 cd11 ct11),sl11⟩) (q11:ZN K cd11 "_law_places"=true) (k11:ZL K (.ref f11)=true)
  (a12:ZM K mainGlobals "_law_changed"=some (some (.ref f12))) (l12:K.lookup f12=some ⟨oc12,od12,.func (ZR "_law_changed" "_law_changed" (Y6 NG) (JV NG) (Zy NG) .none kV12 dc12 pm12 an12 cd12 ct12),sl12⟩) (q12:ZN K cd12 "_law_changed"=true) (k12:ZL K (.ref f12)=true)
  (a13:ZM K mainGlobals "_law_nexts"=some (some (.ref f13))) (l13:K.lookup f13=some ⟨oc13,od13,.func (ZR "_law_nexts" "_law_nexts" (Y6 Q7) (JV Q7) (Zy Q7) .none kV13 dc13 pm13 an13 cd13 ct13),sl13⟩) (q13:ZN K cd13 "_law_nexts"=true) (k13:ZL K (.ref f13)=true)
  (a14:ZM K mainGlobals "_law_ends"=some (some (.ref f14))) (l14:K.lookup f14=some ⟨oc14,od14,.func (ZR "_law_ends" "_law_ends" (Y6 Qp) (JV Qp) (Zy Qp) .none kV14 dc14 pm14 an14 cd14 ct14),sl14⟩) (q14:ZN K cd14 "_law_ends"=true) (k14:ZL K (.ref f14)=true)
  (a15:ZM K mainGlobals "_law_more"=some (some (.ref f15))) (l15:K.lookup f15=some ⟨oc15,od15,.func (ZR "_law_more" "_law_more" (Y6 WJ) (JV WJ) (Zy WJ) .none kV15 dc15 pm15 an15 cd15 ct15),sl15⟩) (q15:ZN K cd15 "_law_more"=true) (k15:ZL K (.ref f15)=true)
  (a16:ZM K mainGlobals "_law_cell_at"=some (some (.ref f16))) (l16:K.lookup f16=some ⟨oc16,od16,.func (ZR "_law_cell_at" "_law_cell_at" (Y6 NH) (JV NH) (Zy NH) .none kV16 dc16 pm16 an16 cd16 ct16),sl16⟩) (q16:ZN K cd16 "_law_cell_at"=true) (k16:ZL K (.ref f16)=true)
  (a17:ZM K mainGlobals "_law_mixed"=some (some (.ref f17))) (l17:K.lookup f17=some ⟨oc17,od17,.func (ZR "_law_mixed" "_law_mixed" (Y6 Q8) (JV Q8) (Zy Q8) .none kV17 dc17 pm17 an17 cd17 ct17),sl17⟩) (q17:ZN K cd17 "_law_mixed"=true) (k17:ZL K (.ref f17)=true)
  (a18:ZM K mainGlobals "overlay"=some (some (.ref f18))) (l18:K.lookup f18=some ⟨oc18,od18,.func (ZR "overlay" "overlay" (Y6 Q6) (JV Q6) (Zy Q6) .none kV18 dc18 pm18 an18 cd18 ct18),sl18⟩) (q18:ZN K cd18 "overlay"=true) (k18:ZL K (.ref f18)=true)
  (a19:ZM K mainGlobals "overlays"=some (some (.ref f19))) (l19:K.lookup f19=some ⟨oc19,od19,.func (ZR "overlays" "overlays" (Y6 Nb) (JV Nb) (Zy Nb) .none kV19 dc19 pm19 an19 cd19 ct19),sl19⟩) (q19:ZN K cd19 "overlays"=true) (k19:ZL K (.ref f19)=true)
  (a20:ZM K mainGlobals "clashes"=some (some (.ref f20))) (l20:K.lookup f20=some ⟨oc20,od20,.func (ZR "clashes" "clashes" (Y6 Qa) (JV Qa) (Zy Qa) .none kV20 dc20 pm20 an20 cd20 ct20),sl20⟩) (q20:ZN K cd20 "clashes"=true) (k20:ZL K (.ref f20)=true)
  (a21:ZM K mainGlobals "rank"=some (some (.ref f21))) (l21:K.lookup f21=some ⟨oc21,od21,.func (ZR "rank" "rank" (Y6 Z0m) (JV Z0m) (Zy Z0m) .none kV21 dc21 pm21 an21 cd21 ct21),sl21⟩) (q21:ZN K cd21 "rank"=true) (k21:ZL K (.ref f21)=true)
  (a22:ZM K mainGlobals "places_of"=some (some (.ref f22))) (l22:K.lookup f22=some ⟨oc22,od22,.func (ZR "places_of" "places_of" (Y6 NE) (JV NE) (Zy NE) .none kV22 dc22 pm22 an22 cd22 ct22),sl22⟩) (q22:ZN K cd22 "places_of"=true) (k22:ZL K (.ref f22)=true)
  (a23:ZM K mainGlobals "places"=some (some (.ref f23))) (l23:K.lookup f23=some ⟨oc23,od23,.func (ZR "places" "places" (Y6 Qo) (JV Qo) (Zy Qo) .none kV23 dc23 pm23 an23 cd23 ct23),sl23⟩) (q23:ZN K cd23 "places"=true) (k23:ZL K (.ref f23)=true)
  (a24:ZM K mainGlobals "nexts"=some (some (.ref f24))) (l24:K.lookup f24=some ⟨oc24,od24,.func (ZR "nexts" "nexts" (Y6 Da) (JV Da) (Zy Da) .none kV24 dc24 pm24 an24 cd24 ct24),sl24⟩) (q24:ZN K cd24 "nexts"=true) (k24:ZL K (.ref f24)=true)
  (a25:ZM K mainGlobals "ends_of_nexts"=some (some (.ref f25))) (l25:K.lookup f25=some ⟨oc25,od25,.func (ZR "ends_of_nexts" "ends_of_nexts" (Y6 Uf) (JV Uf) (Zy Uf) .none kV25 dc25 pm25 an25 cd25 ct25),sl25⟩) (q25:ZN K cd25 "ends_of_nexts"=true) (k25:ZL K (.ref f25)=true)
  (a26:ZM K mainGlobals "doubt"=some (some (.ref f26))) (l26:K.lookup f26=some ⟨oc26,od26,.func (ZR "doubt" "doubt" (Y6 Bg) (JV Bg) (Zy Bg) .none kV26 dc26 pm26 an26 cd26 ct26),sl26⟩) (q26:ZN K cd26 "doubt"=true) (k26:ZL K (.ref f26)=true)
  (a27:ZM K mainGlobals "are_sure"=some (some (.ref f27))) (l27:K.lookup f27=some ⟨oc27,od27,.func (ZR "are_sure" "are_sure" (Y6 Mf) (JV Mf) (Zy Mf) .none kV27 dc27 pm27 an27 cd27 ct27),sl27⟩) (q27:ZN K cd27 "are_sure"=true) (k27:ZL K (.ref f27)=true)
  (a28:ZM K mainGlobals "law"=some (some (.ref f28))) (l28:K.lookup f28=some ⟨oc28,od28,.func (ZR "law" "law" (Y6 Fh) (JV Fh) (Zy Fh) .none kV28 dc28 pm28 an28 cd28 ct28),sl28⟩) (q28:ZN K cd28 "law"=true) (k28:ZL K (.ref f28)=true)
  (z_any:ZM K mainGlobals "any"=some none)
  (z_enumerate:ZM K mainGlobals "enumerate"=some none)
  (z_isinstance:ZM K mainGlobals "isinstance"=some none)
  (z_len:ZM K mainGlobals "len"=some none)
  (z_list:ZM K mainGlobals "list"=some none)
  (z_min:ZM K mainGlobals "min"=some none)
  (z_range:ZM K mainGlobals "range"=some none)
  (z_set:ZM K mainGlobals "set"=some none)
  (z_sorted:ZM K mainGlobals "sorted"=some none)
  (z_tuple:ZM K mainGlobals "tuple"=some none)
 :∃ fd:Jj,(∀ (s:Shared) (v:Value),BindsTo s fd ⟨[v],[]⟩ [("_law_script",v)])∧∀ base:Heap,K.In base→base.Ns mainGlobals mg→Mw l.prog w K mg base CX0 7 fa fd ["_law_script"] (spF K De):=by
 have e:=hfa.symm.trans (J1 X G a28)
 cases e
 have m:Mg mg:=⟨Yh X G z_any,Yh X G z_enumerate,Yh X G z_isinstance,Yh X G z_len,Yh X G z_list,Yh X G z_min,Yh X G z_range,Yh X G z_set,Yh X G z_sorted,Yh X G z_tuple⟩
 have F0:=Uu (st:=Q9) l0 q0 k0
 have b0:=F0.binds (ps:=["_law_number","_law_k"]) fun _ _ _ _ _ _=>us2 fun _ _=>rfl
 have F1:=Uu (st:=WH) l1 q1 k1
 have b1:=F1.binds (ps:=["_law_number","_law_letters"]) fun _ _ _ _ _ _=>us2 fun _ _=>rfl
 have F2:=Uu (st:=WG) l2 q2 k2
 have b2:=F2.binds (ps:=["_law_number","_law_letters","_law_most"]) fun _ _ _ _ _ _=>us3 fun _ _ _=>rfl
 have F3:=Uu (st:=WK) l3 q3 k3
 have b3:=F3.binds (ps:=["_law_one","_law_other"]) fun _ _ _ _ _ _=>us2 fun _ _=>rfl
 have F4:=Uu (st:=WI) l4 q4 k4
 have b4:=F4.binds (ps:=["_law_number","_law_letters"]) fun _ _ _ _ _ _=>us2 fun _ _=>rfl
 have F5:=Uu (st:=Mj) l5 q5 k5
 have b5:=F5.binds (ps:=["_law_number"]) fun _ _ _ _ _ _=>us1 fun _=>rfl
 have F6:=Uu (st:=Ue) l6 q6 k6
 have b6:=F6.binds (ps:=["left","rules"]) fun _ _ _ _ _ _=>us2 fun _ _=>rfl
 have F7:=Uu (st:=ND) l7 q7 k7
 have b7:=F7.binds (ps:=["rule","word","place"]) fun _ _ _ _ _ _=>us3 fun _ _ _=>rfl
 have F8:=Uu (st:=UY) l8 q8 k8
 have b8:=F8.binds (ps:=["rules","word"]) fun _ _ _ _ _ _=>us2 fun _ _=>rfl
 have F9:=Uu (st:=Z6v) l9 q9 k9
 have b9:=F9.binds (ps:=["rules","word"]) fun _ _ _ _ _ _=>us2 fun _ _=>rfl
 have F10:=Uu (st:=C4) l10 q10 k10
 have b10:=F10.binds (ps:=["rules"]) fun _ _ _ _ _ _=>us1 fun _=>rfl
 have F11:=Uu (st:=NF) l11 q11 k11
 have b11:=F11.binds (ps:=["_law_rules_here","_law_word_here"]) fun _ _ _ _ _ _=>us2 fun _ _=>rfl
 have F12:=Uu (st:=NG) l12 q12 k12
 have b12:=F12.binds (ps:=["_law_rules_here","_law_word_here","_law_place","_law_k"]) fun _ _ _ _ _ _=>us4 fun _ _ _ _=>rfl
 have F13:=Uu (st:=Q7) l13 q13 k13
 have b13:=F13.binds (ps:=["_law_rules_here","_law_word_here"]) fun _ _ _ _ _ _=>us2 fun _ _=>rfl
 have F14:=Uu (st:=Qp) l14 q14 k14
 have b14:=F14.binds (ps:=["_law_rules_here","_law_word_here"]) fun _ _ _ _ _ _=>us2 fun _ _=>rfl
 have F15:=Uu (st:=WJ) l15 q15 k15
 have b15:=F15.binds (ps:=["_law_rules_here","_law_number"]) fun _ _ _ _ _ _=>us2 fun _ _=>rfl
 have F16:=Uu (st:=NH) l16 q16 k16
 have b16:=F16.binds (ps:=["_law_script","_law_k"]) fun _ _ _ _ _ _=>us2 fun _ _=>rfl
 have F17:=Uu (st:=Q8) l17 q17 k17
 have b17:=F17.binds (ps:=["_law_script","_law_k"]) fun _ _ _ _ _ _=>us2 fun _ _=>rfl
 have F18:=Uu (st:=Q6) l18 q18 k18
 have b18:=F18.binds (ps:=["left","other","place"]) fun _ _ _ _ _ _=>us3 fun _ _ _=>rfl
 have F19:=Uu (st:=Nb) l19 q19 k19
 have b19:=F19.binds (ps:=["left","other","start"]) fun _ _ _ _ _ _=>us3 fun _ _ _=>rfl
 have F20:=Uu (st:=Qa) l20 q20 k20
 have b20:=F20.binds (ps:=["rules"]) fun _ _ _ _ _ _=>us1 fun _=>rfl
 have F21:=Uu (st:=Z0m) l21 q21 k21
 have b21:=F21.binds (ps:=["word"]) fun _ _ _ _ _ _=>us1 fun _=>rfl
 have F22:=Uu (st:=NE) l22 q22 k22
 have b22:=F22.binds (ps:=["left","word"]) fun _ _ _ _ _ _=>us2 fun _ _=>rfl
 have F23:=Uu (st:=Qo) l23 q23 k23
 have b23:=F23.binds (ps:=["rules","word"]) fun _ _ _ _ _ _=>us2 fun _ _=>rfl
 have F24:=Uu (st:=Da) l24 q24 k24
 have b24:=F24.binds (ps:=["rules","word"]) fun _ _ _ _ _ _=>us2 fun _ _=>rfl
 have F25:=Uu (st:=Uf) l25 q25 k25
 have b25:=F25.binds (ps:=["rules","word"]) fun _ _ _ _ _ _=>us2 fun _ _=>rfl
 have F26:=Uu (st:=Bg) l26 q26 k26
 have b26:=F26.binds (ps:=["rules"]) fun _ _ _ _ _ _=>us1 fun _=>rfl
 have F27:=Uu (st:=Mf) l27 q27 k27
 have b27:=F27.binds (ps:=["rules"]) fun _ _ _ _ _ _=>us1 fun _=>rfl
 have F28:=Uu (st:=Fh) l28 q28 k28
 refine⟨ZR "law" "law" (Y6 Fh) (JV Fh) (Zy Fh) .none kV28 dc28 pm28 an28 cd28 ct28,fun s v=>.of_eq rfl,fun base _ _=>?_⟩
 have c0:=F0.callee (Z6O (P:=l.prog) (w:=w) (base:=base) m F0) (J1 X G a0) b0
 have c1:=F1.callee (Z8T (P:=l.prog) (w:=w) (base:=base) m F1 c0) (J1 X G a1) b1
 have c2:=F2.callee (Z8S (P:=l.prog) (w:=w) (base:=base) m F2 c0) (J1 X G a2) b2
 have c3:=F3.callee (Z8W (P:=l.prog) (w:=w) (base:=base) m F3) (J1 X G a3) b3
 have c4:=F4.callee (Z8U (P:=l.prog) (w:=w) (base:=base) m F4 c2 c0 c3) (J1 X G a4) b4
 have c5:=F5.callee (Z6L (P:=l.prog) (w:=w) (base:=base) m F5 c1 c4 c0) (J1 X G a5) b5
 have c6:=F6.callee (Fj (P:=l.prog) (w:=w) (base:=base) m F6) (J1 X G a6) b6
 have c7:=F7.callee (Z2x (P:=l.prog) (w:=w) (base:=base) m F7) (J1 X G a7) b7
 have c8:=F8.callee (Z1d (P:=l.prog) (w:=w) (base:=base) m F8 c7) (J1 X G a8) b8
 have c9:=F9.callee (Zh9 (P:=l.prog) (w:=w) (base:=base) m F9 c8) (J1 X G a9) b9
 have c10:=F10.callee (ZeT (P:=l.prog) (w:=w) (base:=base) m F10 c6 c9) (J1 X G a10) b10
 have c11:=F11.callee (Z4h (P:=l.prog) (w:=w) (base:=base) m F11) (J1 X G a11) b11
 have c12:=F12.callee (Z2z (P:=l.prog) (w:=w) (base:=base) m F12) (J1 X G a12) b12
 have c13:=F13.callee (Z6M (P:=l.prog) (w:=w) (base:=base) m F13 c11 c12) (J1 X G a13) b13
 have c14:=F14.callee (Z8X (P:=l.prog) (w:=w) (base:=base) m F14 c13) (J1 X G a14) b14
 have c15:=F15.callee (Z8V (P:=l.prog) (w:=w) (base:=base) m F15 c2 c13 c0 c14) (J1 X G a15) b15
 have c16:=F16.callee (Z2A (P:=l.prog) (w:=w) (base:=base) m F16) (J1 X G a16) b16
 have c17:=F17.callee (Z6N (P:=l.prog) (w:=w) (base:=base) m F17 c16) (J1 X G a17) b17
 have c18:=F18.callee (Z6K (P:=l.prog) (w:=w) (base:=base) m F18) (J1 X G a18) b18
 have c19:=F19.callee (Z4g (P:=l.prog) (w:=w) (base:=base) m F19 c18) (J1 X G a19) b19
 have c20:=F20.callee (Z6P (P:=l.prog) (w:=w) (base:=base) m F20 c19) (J1 X G a20) b20
 have c21:=F21.callee (ZeS (P:=l.prog) (w:=w) (base:=base) m F21) (J1 X G a21) b21
 have c22:=F22.callee (Z2y (P:=l.prog) (w:=w) (base:=base) m F22) (J1 X G a22) b22
 have c23:=F23.callee (Z8R (P:=l.prog) (w:=w) (base:=base) m F23 c22) (J1 X G a23) b23
 have c24:=F24.callee (ZbH (P:=l.prog) (w:=w) (base:=base) m F24 c7 c23) (J1 X G a24) b24
 have c25:=F25.callee (Fk (P:=l.prog) (w:=w) (base:=base) m F25 c9 c24) (J1 X G a25) b25
 have c26:=F26.callee (ZbI (P:=l.prog) (w:=w) (base:=base) m F26 c20 c21 c25) (J1 X G a26) b26
 have c27:=F27.callee (Z4i (P:=l.prog) (w:=w) (base:=base) m F27 c26) (J1 X G a27) b27
 exact Zh8 m F28 c5 c10 c2 c15 c17 c27 c14 c11
theorem walk {l:CS}{q:Program}{loose:Ls_}{XP:(Str→Option Value)→Heap→Prop}{YP:World→Heap→Prop}{d:DefRec}{K:Params→Fg_}(hn:l.most=some 63)(hdf:d.params.defaults=[])
  (holds:∀ ns:List Int,ns.length≤63→De [.lst (ns.map Th.int)]=some (.bl true))
  (hY:∀ (w:World) (h:Heap),YP w h→(K w.params).In h)
  (F:∀ (w:World) (mg:Str→Option Value) (fa:Addr) (h:Heap),(K w.params).In h→h.Ns mainGlobals mg→mg d.name=some (.ref fa) →
   ∃ fd:Jj,(∀ (s:Shared) (u:Value),BindsTo s fd ⟨[u],[]⟩ [("_law_script",u)])∧∀ base:Heap,(K w.params).In base→base.Ns mainGlobals mg→Mw l.prog w (K w.params) mg base CX0 7 fa fd ["_law_script"] (spF (K w.params) De)) :
  Zdu q loose XP YP l.row.toRowW d [] (fun f vs=>Zat f vs) :=
 L2.walk_of (n:=63) (k:=7) (x:="_law_script") (CX:=fun _=>CX0) (sp:=fun w=>spF (K w.params) De) hn (by decide) hdf ⟨rfl,by decide,by decide⟩ hY F
  (fun w H a ns hl _ hS=>Zho hS (holds ns hl)) fun _ _ _ _ _ z=>z
end K41
open PySem PySem.W PyProof.Rows
set_option maxRecDepth 100000 in
set_option maxHeartbeats 0 in
theorem PySem.Challenge.cw_wordmelt_k41_whole_lean_holds : PySem.Challenge.rw_wordmelt_k41_whole_lean.Holds := by
 w_on;o_law;k_head;(case hw=>w_witness2)
 k_fill
 refine K41.walk (l:=PySem.Challenge.rw_wordmelt_k41_whole_lean) rfl rfl K41.holds (fun w h Y=>PySem.W.kIn_of Y) ?F
 case F =>
  intro w mg fa h KX G hmg
  refine' K41.all_mk KX G hmg ?a0 ?l0 ?q0 ?k0 ?a1 ?l1 ?q1 ?k1 ?a2 ?l2 ?q2 ?k2 ?a3 ?l3 ?q3 ?k3 ?a4 ?l4 ?q4 ?k4 ?a5 ?l5 ?q5 ?k5 ?a6 ?l6 ?q6 ?k6 ?a7 ?l7 ?q7 ?k7 ?a8 ?l8 ?q8 ?k8 ?a9 ?l9 ?q9 ?k9 ?a10 ?l10 ?q10 ?k10 ?a11 ?l11 ?q11 ?k11 ?a12 ?l12 ?q12 ?k12 ?a13 ?l13 ?q13 ?k13 ?a14 ?l14 ?q14 ?k14 ?a15 ?l15 ?q15 ?k15 ?a16 ?l16 ?q16 ?k16 ?a17 ?l17 ?q17 ?k17 ?a18 ?l18 ?q18 ?k18 ?a19 ?l19 ?q19 ?k19 ?a20 ?l20 ?q20 ?k20 ?a21 ?l21 ?q21 ?k21 ?a22 ?l22 ?q22 ?k22 ?a23 ?l23 ?q23 ?k23 ?a24 ?l24 ?q24 ?k24 ?a25 ?l25 ?q25 ?k25 ?a26 ?l26 ?q26 ?k26 ?a27 ?l27 ?q27 ?k27 ?a28 ?l28 ?q28 ?k28 ?z_any ?z_enumerate ?z_isinstance ?z_len ?z_list ?z_min ?z_range ?z_set ?z_sorted ?z_tuple
  (case a0|l0|q0|k0|a1|l1|q1|k1|a2|l2|q2|k2|a3|l3|q3|k3|a4|l4|q4|k4|a5|l5|q5|k5|a6|l6|q6|k6|a7|l7|q7|k7|a8|l8|q8|k8|a9|l9|q9|k9|a10|l10|q10|k10|a11|l11|q11|k11|a12|l12|q12|k12|a13|l13|q13|k13|a14|l14|q14|k14|a15|l15|q15|k15|a16|l16|q16|k16|a17|l17|q17|k17|a18|l18|q18|k18|a19|l19|q19|k19|a20|l20|q20|k20|a21|l21|q21|k21|a22|l22|q22|k22|a23|l23|q23|k23|a24|l24|q24|k24|a25|l25|q25|k25|a26|l26|q26|k26|a27|l27|q27|k27|a28|l28|q28|k28|z_any|z_enumerate|z_isinstance|z_len|z_list|z_min|z_range|z_set|z_sorted|z_tuple=>k_is)
