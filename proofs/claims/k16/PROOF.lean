import PyProof.Rows.All
import Wide.All
import OpenK.AllK
import Wide.FinOn
import Lean
import PyProof.EqAt
import PyProof.EqKinds
import PyProof.TupleCall
import PyProof.ListMulRoad
import KE.KDictOf
import KE.KEqDict
import PyProof.DictTruth
import KE.LcSums
import PyProof.StrWalks
import PyProof.FString4
import KE.KTabLook
import PyProof.Rows.ZipGen
import PyProof.StrCalls6
import PyProof.StrLawsReplace
import PyProof.MaxThree
import PyProof.ConsumeWalk
import PySem.Challenge.RW_blamewise_k16_bounds_of_texts
open List renaming mem_singleton→ε,mem_cons_self→ι,getElem?_eq_some_iff→κ,prefix_refl→μ,mem_cons_of_mem→ν,replicate→ξ,mem_cons→υ,length_map→Β,length_append→Δ,length_cons→Ε,append_assoc→Ι,all_eq_true→Λ,getElem?_eq_getElem→Μ,size_toArray→Ν,mem_of_getElem?→Ρ,getElem?_set_ne→Φ,append_nil→Ω,getElem?_append_right→ϋ,mem_append→ώ,getElem?_map→ϒ,getElem?_append_left→ϓ,mem_filter→ϔ,length_singleton→ϕ,map_append→ϗ,getElem?_set_self→ϟ,filterMap_cons→Ϧ,nodup_cons→Ϭ,replicate_succ→Ϯ,length_zip→Ϸ,length_set→ϸ,length_replicate→Å,prefix_append→É,flatMap_cons→Ì,filter_eq_nil_iff→Ð,zip_cons_cons→Ó,mem_map→Ú,nil_append→é,map_cons→ë,range'→ô,range→õ,length_drop→ù,getElem_mem→ú,length_nil→ÿ,length_range'→ā,getElem?_replicate→Ă,mem_range'_1→ĉ,mem_range→Ċ,lookup_cons→ĕ,cons_append→Ė,length_pos_iff→ġ,zip_nil_right→Ĩ,getD_eq_getElem?_getD→ĩ,drop_zero→Ī,getElem?_zip_eq_some→ı,drop_eq_getElem_cons→Ĳ,all_cons→Ĺ,take_length→Ŀ,not_mem_nil→ŀ,length_take→Ł,length_eq_zero_iff→ł,getElem?_cons_succ→Ń,drop_length→ń,take_of_length_le→ő,map_nil→Œ,of_mem_zip→ř,dropLast_eq_take→ŝ,mem_of_mem_drop→Ť,length_reverse→ů,filter_append→Ż,filter_congr→D6,forIn_cons→E9,foldl_cons→Ea,dropLast_concat_getLast→Eb,getElem?_eq_none_iff→ER,lookup_eq_some_iff→Fh,getElem?_cons_zero→Fi,mem_iff_getElem?→FF,mem_append_right→FG,getElem?_reverse→FH,mem_of_mem_take→FO,mem_iff_getElem→FP,mem_append_left→FQ,lookup→FR,map_congr_left→G6,getElem_of_mem→G7,flatMap_append→G9,lookup_append→Gq,getElem_range→Gs,getElem?_drop→Gu,take_sublist→GK,reverse_cons→GL,mem_of_head?→GN,filter_cons→H5,any_eq_true→H6,find?_cons→Hi,filterMap→Hs,drop_nil→HK,any_cons→HM,map_map→HX,all_map→HY,foldl→ID
open PySem renaming wpAny_bind→ζ,Value→η,Str→θ,wpAny_pure→π,Shared→ς,Addr→φ,NameKind→χ,wpAny→Α,wpAny_mono→Η,starEach→Ξ,Expr→Ο,mainGlobals→ϊ,wpAny_toks_of→ό,wpAny_holding→ύ,Around→ϙ,sizeLine→ϝ,Pos→ϥ,wpAny_Call_method→ϩ,wpAny_truthy_bool→ϵ,Heap→ϻ,behindInMarks→Á,attributeBase→Â,rawInt→Ã,Program→Ä,wpAny_field→È,compareOp→Ê,mem_of_lookup→Î,Stmt→Ò,backTo→Ö,wpAny_isTrue_Compare1→Ù,codeAny_call_builtin→ß,World→à,FuncData→á,strLen_append→â,sliceBounds→ì,sizeLine_eq→í,wpAny_passesOwn→ð,intText?→ñ,wpAny_standAt→ó,wpAny_newObj_type→ø,typeIs_str→û,noteFrame→ü,codeAny_mono→ý,bootBuiltins→þ,ExcBaseFacts→Ā,Scope→Ą,ExceptHandler→ą,wpAny_call→Č,wpAny_Call_Name_kw→č,wpAny_getItem_str_slice→Ē,plainObj_wpAny_Assign_Attribute→ě,call_meets→ĝ,assignEach→Ğ,keywordEach→ģ,wpAny_execs_nil→ī,codeAny→ĳ,swapsWith→ķ,wpAny_Compare1→Ļ,binaryOp→ļ,wpAny_pyIter_list→ŋ,wpAny_loadPart_at→Ō,wpAny_assign_Name→ō,foldedSetIterable→Ŏ,argBest→ŏ,wpAny_execs_cons→Ş,wpAny_call_entry→ş,wpAny_callSpecial?_slot→Š,cLine→š,wpAny_specialOf→Ū,wpAny_ite_split→ū,post_val_or_str→Ŭ,letOwnedTupleGo→ŭ,getAttrByItsOwn→Ů,Env→ż,wpAny_setField→ž,wpAny_Expr_any→ſ,unbindBehindTheSuite→D0,backToKw→D1,list_append→D2,IsPart→D3,valueAt→D4,length_partsBetween→DM,wpAny_attempt→DS,wpAny_List_spliced→DW,slot_dict_contains→DX,pyIter→DY,isInstance→DZ,Sem→E0,wpAny_typeOf→Ef,wpAny_sequenceKey→Eg,wpAny_Assign_Name→Eh,standAt→Ei,slot_dict_getitem→Ej,getItem→Ek,getAttr→El,callerA→Em,callWith→En,Keyword→Ew,wpAny_pyHash_str→EI,wpAny_comp_letGo→EJ,strValues→EK,noFill_tuple_add→EL,getMethod→EM,wpAny_of_eq→EU,unpackItems→EV,excClassObj→EW,Model→Fe,setItem→Fj,setAttr→Fk,dictGet→Fl,ofString_length→Fm,Builtin→Ft,wpAny_loadPart→Fv,isTrue→Fw,intText_digits→Fx,findBy→Fy,boundAndCalled→Fz,Operator→FC,swapsWithSole→FY,swappedStores→FZ,seq_tuple_add→G0,call→G4,Comprehension→Gd,setFlight→Gg,bindL→Gh,bindC→Gi,Obj→Gp,Arguments→Gy,seqIndex_neg→Gz,concat_meets→GB,OsState→GH,wpAny_storeName_local→GU,wpAny_formatField_int→GV,exec_Assign_Name_used→GX,codeAny_handlers_test→GY,builtinLookup_eq_fast→GZ,wpAny_pyIter_revIter→H9,wpAny_BinOp→Ha,seqIndex_of→Hb,reprText→Hc,int_text_length_le10→He,wpAny_handleBy_cons→Hl,wpAny_Assign_stores→Hm,wpAny_Name→Hv,wpAny_Constant_int→Hw,typeLookup→Hx,sysModules→Hy,refuseLoop→HA,findBy_of_findIdx?→HB,closureFor→HC,call_reversed_list→HD,WalksT→HF,passOn→HH,Within→HI,wpAny_dictEntries→HQ,slot_list_getitem→HS,BindsTo→Ib,wpAny_lookBehind→Ic,wpAny_Dict_empty→Ie,storeName→Ig,pastItsLine_dict→Ih,lastMarks→Ii,checkBuiltinCall→Ij,cellsFrom→Ik,PassesOwn→Io,typeLookup_type→IA
open PySem.W renaming Frag→ο,findIn→Υ,nsIn→Ψ,mroIn→ϖ,keepIn→Ϝ,mg_of→ϫ,hasDictIn→ϭ,fnOf→Ϻ,instObj→Ë,emptyDict→Õ,codeIn→Ü,kia_one→å,typeIn→î,plainGet→ď,isFn→Ĝ,callWith_K→ğ,specialIn→Ħ,clsIn→ĭ,handedIn→ĵ,makesIn→ľ,lookIn→Ŕ,plainGet_of→Ţ,plainOver→ű,takesIn→DO,takerIn→DP,tailIn→E4,cellsFrom_some→EN,methodCall_KW→EX,callWith_K0→Fo,tail_of_in→FA,OpenLaw→Gj,nsOkIn→GF,kitOne→GG,WalkO→H0
open Option renaming map_eq_some_iff→τ,bind_eq_some_iff→Χ,getD_some→D5,isNone_iff_eq_none→Eu,isSome_iff_exists→EB,getD_none→Gk,bind_some→Gn
open PySem.Heap renaming get?_push_size→ψ,get?_push_of_some→Ζ,get?_none_of_le→Ϙ,lt_size→ϛ,get?_update_other→ϲ,get?_update_self→Æ,SameBut→æ,size_push→ċ,MadeExcOf→EC,get?_update_ne→Gc,get?_push_at→GQ
open Bool renaming and_eq_true→ω,false_ne_true→Ϫ,false_eq_true→ç,or_false→ĺ,eq_iff_iff→ś,true_and→Ŷ,eq_false_iff→D9,or_eq_true→Ed,and_false→EF,or_eq_false_iff→FU,and_eq_true_iff→FW,or_eq_true_iff→Gf,false_and→Hu,false_or→HO
open PySem.Calls renaming spliced_cons→Θ,spliced_nil→Τ,callWith_builtin→Ϛ,evalArgs_plain→ϣ,Constant_str→Ϩ,Name_function_global→Ez,call_len_list→FT
open PySem.Builtin.Range renaming rangeFitsLong→Κ,rangeSize→ϑ
open Nat renaming le_refl→Ϗ,le_succ_of_le→Ϡ,le_trans→ϧ,ne_of_lt→ϯ,zero_le→ϰ,lt_of_lt_of_le→Ϲ,ne_of_gt→Û,le_succ→ö,min_self→Đ,le_of_lt→đ,length_toDigits_le_iff→İ,lt_succ_self→Ň,le_add_right→ň,succ_pos→ŕ,sub_self→Ŗ,lt_of_succ_lt_succ→ŗ,le_of_eq→Ř,not_lt_zero→Ŝ,mul_le_mul→ŧ,lt_irrefl→Ź,add_assoc→ź,log2_lt→E8,add_sub_cancel_left→Fq,zero_add→FD,sub_zero→FE,one_pos→G5,add_sub_cancel→GJ,lt_succ_of_lt→H4,succ_ne_self→Hh,toDigits→Ip,lt_or_ge→Iq,add_comm→It
open Option.some renaming inj→Ϟ
open PySem.Value renaming bool→ϡ,none→Ϣ,ref→Ç,type→ē,int→Ģ,builtin→Ĵ,isStrOf→Hq,isInt→HV
open PySem.Txt renaming slice→Ϥ,mul→À,split→Í,replace→ă,startswith→Ŧ,contains→Il
open PyProof.Rows.KTD renaming datumAt→ϱ,tabLook→Ec,kt_dictFind_strs→Ga,TabOf→Hj
open Ne renaming symm→ϳ
open ForInStep renaming yield→ϴ
open PySem.NameKind renaming free→Ï
open PySem.Str renaming ofString→Ñ,join→Ď,empty→Hf
open PyProof.Rows renaming slot_tuple_getitem→Ô,boot_isinstance→Ĉ,boot_list→ħ,kindOf→Ĭ,AllBare→œ,Constant_none→Ś,envOfC→ť,evalArgs_nil3→ŷ,boot_reversed→Ÿ,boot_tuple→DQ,boot_str→E6,boot_int→E7,IntsAre→Ey,FormattedValue_plain→Hk,entry_tuple_getitem→Hn,slot_tuple_getitem→Hz,args_tuple_getitem→HE,Subscript_→HG,firstMet→IB,boot_bool→IC
open PySem.F renaming slot_list_append→Ø,plainAttrs_list→Ý,plainAttrs_str→ã,slot_dict_get→ć,slot_range_reversed→Ě,args_list_append_2→Ġ,entry_list_append→Ĥ,args_tuple_add_2→Į,entry_tuple_add→Ķ,slot_tuple_add→Ľ,slot_str_startswith→DT,attrBase_ValueError→DU,excBase_ValueError→E5,type_list_append→Er,slot_str_isdigit→Es,slot_list_extend→Et,plainAttrs_dict→EA,slot_str_split→EO,entry_dict_get→EP,type_dict_get→EZ,slot_list_pop→Fc,slot_int_rmul→Fd,entry_bexc_ga→Ia
open PySem.Obj renaming mapSeq→Þ,isFreed_of_fields→Ĕ,mapFields→ę,data_mapFields→į,cls_mapFields→H3
open PySem.Builtin.List renaming listExtendWith→ä,listTooLong→D7,listSameRef→D8,listItems→DV,listUpdate→IG,listLengthHint→IH,listFitsIndex→II
open PySem.StrLaws renaming sliceText→è,sliceText_nat→ņ,sliceIdx_none_hi→Eo
open PySem.Builtin.Slice renaming slicePlaces→ê,sliceAdjust→ė,sliceApplied→ŵ,slicePartIndex→Iv,sliceFields→Iw
open PySem.Builtin.Tuple renaming tupleExact→ï,tupleItemsOf→ų,tupleIsExact→Ŵ
open Array renaming getElem?_eq_some_iff→ò,length_toList→ũ,getElem?_eq_getElem→EG,mem_toList_iff→FL,toList_append→FX,toList→HP,ext'→Iy
open PySem.Value.ref renaming inj→Ć
open Sum renaming inr→Ę,inl→DN
open PySem.Builtin.Str renaming occurrences→ĥ,partsBetween→DR,tooLong→ED,strKind→EE
open Nat.succ renaming inj→ĸ
open PySem.Builtin.ObjectAttr renaming storeInDict→Ņ,newKeyGuard→H8
open Int renaming eq_ofNat_of_zero_le→ŉ,negSucc→Ũ,ofNat→Ű,mul_nonneg→ES,zero_add→FJ,le_ediv_iff_mul_le→FK,le_refl→Gb,emod_lt_of_pos→GP,emod_nonneg→Ht,mul_le_mul→HN,mul_one→IE
open False renaming elim→Ŋ
open True renaming intro→Ő
open Prod renaming fst→ţ,snd→FN
open PySem.Heap.DictOf renaming new→Ų
open Char renaming toNat→Ž,ofNat→IF
open PySem.W.KIN renaming val_back→Ep
open PySem.Arg renaming arg→EH
open PySem.EntryCells renaming newEntry→ET
open PySem.Spec renaming countIn→EY
open PySem.Around renaming under→Ff
open PySem.Code renaming isFrame→Fs,quiet_builtin→Gx,frames→Iu
open PySem.Walks renaming list→G3,listRev→Ho,range→HU
open PySem.Builtin.BaseException renaming bexcPut→Ge
open List.cons renaming inj→Gv
open Classical renaming em→GR
open PySem.Builtin.SmallTypes renaming fitsIndex→H7
open PySem.Shared renaming TypeIs→Hg
open Sum.inr renaming inj→Hr
open PySem.Challenge renaming pw_blamewise_k16_bounds_of_texts→HJ
open PySem.MeetsSeq renaming list_pop_last→HW
open PySem.Heap.IsSliceOf renaming new→HZ
open PySem.W.Looks renaming here→Im
open PySem.Builtin.Dict renaming pendingKey?→IJ
open PySem PySem.Spec PyProof.Rows
set_option compiler.extract_closed false
noncomputable section
local macro_rules|`($d:declaration)=>do let r:=d.raw;let k:=r[1].getKind;if (k==`Lean.Parser.Command.definition||k==`Lean.Parser.Command.abbrev)&&r[0][4].getNumArgs==0 then return r.setArg 0 (r[0].setArg 4 (Lean.mkNullNode #[Lean.mkNode `Lean.Parser.Command.noncomputable #[Lean.mkAtom "noncomputable"]])) else Lean.Macro.throwUnsupported
set_option hygiene false
local macro_rules|`($a<|>$b)=>`(A $a $b)
abbrev Fg:=PySem.W.Frag
abbrev NK:=List (Str×NameKind)
abbrev ZZ:=@if_pos
abbrev ZY:=@if_neg
abbrev ZX:=@absurd
abbrev ZW:=@decide_eq_true
abbrev ZV:=@decide_eq_false
abbrev ZU:=@beq_eq_false_iff_ne
abbrev ZT:=@beq_self_eq_true
abbrev ZS:=@congrArg
set_option Elab.async false
set_option linter.all false
set_option maxRecDepth 100000
set_option maxHeartbeats 8000000
set_option Elab.async false
set_option linter.all false
set_option maxRecDepth 100000
namespace L2
abbrev Key:=Sum Int θ
def iR:Key→η→Bool
 | .inl k,v=>HV k v
 | .inr x,v=>Hq x v
def Dp (w:à):Key→Int
 | .inl k=>hashInt k
 | .inr x=>hashStr w x
theorem aE:∀ {k} {v},iR k v=true→(∃ i t,k=DN i∧v=Ģ i t)∨(∃ x t,k=Ę x∧v=Value.str x t)
 | .inl i,v,h=>by
   obtain ⟨t,e⟩:=Value.isInt_shape (k:=i) (v:=v) h
   exact .inl ⟨i,t,rfl,e⟩
 | .inr x,v,h=>by
   obtain ⟨t,e⟩:=Value.isStrOf_shape (x:=x) (v:=v) h
   exact .inr ⟨x,t,rfl,e⟩
theorem qk (i) (t):iR (.inl i) (.int i t)=true:=by simp [iR,HV]
theorem qm (x) (t):iR (.inr x) (.str x t)=true:=by simp [iR,Hq]
theorem yo (a b):decide ((DN a:Key)=DN b)=(a == b):=by
 by_cases e:a=b
 ·subst e;simp
 ·have h:¬ (DN a:Key)=DN b:=fun q=>e (Sum.inl.inj q)
  rw [ZV h]
  exact (ZU.mpr e).symm
theorem yt (a b):decide ((Ę a:Key)=Ę b)=decide (a=b):=by
 by_cases e:a=b
 ·subst e;simp
 ·have h:¬ (Ę a:Key)=Ę b:=fun q=>e (Hr q)
  rw [ZV h,ZV e]
theorem yp (a) (b):decide ((DN a:Key)=Ę b)=false:=ZV (fun q=>nomatch q)
theorem yr (a) (b):decide ((Ę a:Key)=DN b)=false:=ZV (fun q=>nomatch q)
def aS (prog:Ä) (w:à):PySem.KeyKind prog w Key where
 is:=iR
 hash:=Dp w
 inj:=fun v a b ha hb=>by
  rcases aE ha with ⟨i,t,rfl,rfl⟩ | ⟨x,t,rfl,rfl⟩
  ·rcases aE hb with ⟨j,u,rfl,e⟩ | ⟨y,u,rfl,e⟩
   ·injection e with e1 _;rw [e1]
   ·exact nomatch e
  ·rcases aE hb with ⟨j,u,rfl,e⟩ | ⟨y,u,rfl,e⟩
   ·exact nomatch e
   ·injection e with e1 _;rw [e1]
 byValue:=fun k v h=>by
  rcases aE h with ⟨i,t,rfl,rfl⟩ | ⟨x,t,rfl,rfl⟩ <;> rfl
 pyHash:=fun hv h=>by
  rcases aE hv with ⟨i,t,rfl,rfl⟩ | ⟨x,t,rfl,rfl⟩
  ·exact wpAny_pyHash_int h
  ·exact EI h
 eqBool:=fun hu hv h=>by
  rcases aE hu with ⟨i,t,rfl,rfl⟩ | ⟨x,t,rfl,rfl⟩
  ·rcases aE hv with ⟨j,u,rfl,rfl⟩ | ⟨y,u,rfl,rfl⟩
   ·rw [yo] at h;exact wpAny_eqBool_int h
   ·rw [yp] at h;exact SeqAt.EqAt.int_str i t y u _ _ _ _ h
  ·rcases aE hv with ⟨j,u,rfl,rfl⟩ | ⟨y,u,rfl,rfl⟩
   ·rw [yr] at h;exact SeqAt.EqAt.str_int x t j u _ _ _ _ h
   ·rw [yt] at h;exact wpAny_eqBool_str h
 «strs»:=fun k x t v h=>by
  rcases aE h with ⟨i,u,rfl,e⟩ | ⟨y,u,rfl,e⟩
  ·exact nomatch e
  ·injection e with e1 _
   subst e1
   cases v <;> rfl
theorem kH (prog) (w) (i) (t):(aS prog w).is (.inl i) (.int i t)=true:=qk i t
theorem fK (prog) (w) (x) (t):(aS prog w).is (.inr x) (.str x t)=true:=qm x t
end L2
namespace L2
structure Mod (K:ο) (mg:θ→Option η) (base:ϻ):Prop where
 kin:K.In base
 glob:base.Ns ϊ mg
 blt:∃ mb,base.Ns builtinsNs mb∧∀ x:θ,x≠"__name__"→mb x=þ x
 nolimit:base.NoLimit
def frs (l:List ż):List φ:=l.filterMap (·.frame)
def Vis (sc:Ą) (x:θ):Prop:=sc.names.lookup x=some .local∨sc.names.lookup x=some .cell∨sc.names.lookup x=some .free
def Loc (sc:Ą) (x:θ):Prop:=sc.names.lookup x=some .local∨sc.names.lookup x=some .cell
def lE (env:ż) (h:ϻ) (m:θ→Option η) (x:θ) (u:η):Prop:=
 (env.kindOf x=some .local∧m x=some u)∨((env.kindOf x=some .cell∨env.kindOf x=some .free)∧∃ c,env.cells.lookup x=some c∧h.IsCell c (some u))
section
variable {X:Cx} {pins:List (φ×Gp)} {σ:List (Option V)} {H H':Hp} {s:ς} {h':ϻ}
theorem gY {N:List θ} (hN:N.Nodup) {i j:Nat} {x:θ} (a:N[i]? = some x) (b:N[j]? = some x):i=j:=by
 obtain ⟨h1,e1⟩:=κ.mp a
 obtain ⟨h2,e2⟩:=κ.mp b
 exact (List.getElem_inj hN).mp (e1.trans e2.symm)
end
theorem thn (h:Α M A t Q E s) (hQ:∀ a s,Q a s→Q' a s):Α M A t Q' E s:=Η h hQ fun _ _ x=>x
end L2
namespace L2
theorem gE (ho:s.heap.get? it=some o) (hc:o.cls = .type n) (hd:o.data = .fields vs)
 (hn:["enumerate","zip","dict_itemiterator","dict_reverseitemiterator","odict_iterator","itertools.zip_longest","itertools.pairwise"].contains n=false) (hQ:Q () s):Α M A (ŭ tg (.ref it) u) Q E s:=by
 unfold ŭ
 cases tg <;> first
  | exact π hQ
  | (cases u <;> first
   | exact π hQ
   | (refine ζ (wpAny_load ho ?_)
      rw [hc,hd]
      show Α M A (if (["enumerate","zip","dict_itemiterator","dict_reverseitemiterator","odict_iterator","itertools.zip_longest","itertools.pairwise"].contains n && vs[0]? == some (Ã _))=true then _ else _) Q E s
      rw [ZY (by intro h;rw [hn,Hu] at h;cases h)]
      exact π hQ))
end L2
namespace L2
section
variable {X:Cx} {a b c:Ο} {ta tb tc:TE} {pos:ϥ}
def xB (i j:Int):Prop:=(-(2 ^ 64)<i∧i<2 ^ 64)∨(-(2 ^ 64)<j∧j<2 ^ 64)
theorem xB.ok (h:xB i j):IntMulOk i j:=by
 rcases h with ⟨h1,h2⟩ | ⟨h1,h2⟩
 ·exact .of_left (intBits_le_64 h1 h2)
 ·exact .of_right (intBits_le_64 h1 h2)
end
section
variable {X:Cx} {a b c:Ο} {ta tb tc:TE} {pos:ϥ}
theorem gO:(ϝ:Nat)<2 ^ 63:=by rw [í];decide
end
end L2
namespace L2
structure lG (h:ϻ) (x dx C:φ) (mA:θ→Option η):Prop where
 obj:h.get? x=some (Ë C dx)
 ns:h.Ns1 dx mA
 ne:dx≠x
theorem iU {h:ϻ} {dx:φ} {mA:θ→Option η} (n:h.Ns1 dx mA):∃ od,h.get? dx=some od∧∀ name,Ŕ name od=some (mA name):=by
 obtain ⟨o,es,ep,ho,hd,hk,_,hm⟩:=n
 refine ⟨o,ho,fun name=>?_⟩
 have e:=hm name
 unfold nsFind Fy at e
 rw [← Array.find?_toList] at e
 unfold Ŕ
 rw [hd]
 dsimp only
 split
 ·rename_i y q
  rw [q] at e
  exact ZS some e
 ·rename_i q
  rw [q] at e
  have a:es.toList.any (·.refKey)=false:=by
   rw [List.any_eq_false]
   intro y hy
   obtain ⟨z,t,hkey⟩:=hk y (FL.mp hy)
   simp [DictEntry.refKey,hkey]
  have a':¬ es.toList.any (·.refKey)=true:=by rw [a];exact Ϫ
  rw [ZY a']
  exact ZS some e
theorem lG.look (I:lG h x dx C mA):∃ od,PySem.W.InstAt h x (Ë C dx) C (some od)∧∀ name,Ŕ name od=some (mA name):=
 let ⟨od,ho,hl⟩:=iU I.ns
 ⟨od,⟨I.obj,rfl,rfl,ho⟩,hl⟩
section
variable {prog:Ä} {w:à} {A:ϙ} {E:η→ς→Prop} {s:ς} {K:ο} {x dx C f:φ} {mA:θ→Option η} {name:θ} {v:η}
theorem ve (X:K.In s.heap) (I:lG s.heap x dx C mA) (hg:ď K C name=true) (hh:ϭ K C=true)
 (ha:Υ K (.ref C) name=some none) (hv:mA name=some v) (hv':ĵ v=true) (h:Q v { s with toks:=s.toks+1 }) :
 Α (model prog w) A (El (.ref x) name expr) Q E s:=by
 obtain ⟨od,J,hl⟩:=I.look
 exact PySem.W.get_value X J (Ţ hg).1 (PySem.W.findObj_own hh ha rfl (by rw [hl,hv])) hv' h
theorem rQ (X:K.In s.heap) (I:lG s.heap x dx C mA) (hg:ď K C name=true)
 (hf:Υ K (.ref C) name=some (some (.ref f))) (ht:Ĝ K (.ref f)=true) (hv:mA name=none) (h:Q (.ref f,[.ref x]) s) :
 Α (model prog w) A (EM (.ref x) name pl) Q E s:=by
 obtain ⟨od,J,hl⟩:=I.look
 exact PySem.W.method_fn X J (Ţ hg).1 (Ţ hg).2 hf (beq_iff_eq.mp ht) (by show (Ŕ name od).map (·.isSome)=some false;rw [hl,hv];rfl) h
theorem wA (X:K.In s.heap) (I:lG s.heap x dx C mA)
 (hs:Υ K (.ref C) "__setattr__" = some (some (.builtin "object.__setattr__"))) (hp:ű K C=true) (ht:DP K C name=some none) (hh:ϭ K C=true)
 (hw:HI mA ns) (hsz:ns.length≤ϝ)
 (h:∀ h',lG h' x dx C (fun y=>if y=name then some v else mA y)→æ dx s.heap h'→Q () { s with heap:=h',toks:=s.toks+2 }) :
 Α (model prog w) A (Fk (.ref x) name v) Q E s:=by
 obtain ⟨od,J,hl⟩:=I.look
 refine PySem.W.set_plain X J hs (PySem.W.osa_open (s:={ s with toks:=s.toks+1 }) (r:=none) X J hp ht fun b=>?_)
 obtain ⟨cd,hc,hd'⟩:=PySem.W.any_some hh
 have hx:s.heap.get? x=some ⟨.ref C,some dx,.plain,#[]⟩:=I.obj
 refine ζ (π (ζ (ζ (Fv hx (ζ (Im (s:={ s with toks:=s.toks+1 }) (PySem.W.looks_clsIn X hc) ?_))))))
 rw [hd']
 refine π (a:=some dx) (ζ (π (ζ ?_)))
 refine wpAny_nsSet1 (s:={ s with toks:=s.toks+1 }) I.ns fun h' hn2 hs2=>?_
 obtain ⟨oD,esD,epD,hoD,hdD,hcD⟩:=hn2.count (PySem.Within.cons name v hw)
 refine ζ (Ic hoD (by rw [hdD];exact Ih (ϧ hcD (by rw [Ε];omega))) ?_)
 exact π (h _ ⟨(hs2.2 _ (ϳ I.ne)).trans I.obj,hn2,I.ne⟩ hs2)
theorem sU (X:K.In s.heap) (hm:ľ K C=true)
 (hi:Υ K (.ref C) "__init__" = some (some (.ref f))) (hf:î K (.ref f)=some (.type "function"))
 (h:ĳ (model prog w) (A.under (.builtin "type.__call__" ⟨.ref C :: vs,kw⟩)) (.call (.ref f) ⟨.ref (s.heap.objs.size+1) :: vs,kw⟩) (PySem.W.InitBack (s.heap.objs.size+1) R)
  { s with heap:=(s.heap.push Õ).push (Ë C s.heap.objs.size) }) :
 ĳ (model prog w) A (.call (.ref C) ⟨vs,kw⟩) R s:=by
 obtain ⟨hh,g,d,t,os⟩:=s
 exact PySem.W.make_core (PySem.W.makes_of X hm) (PySem.W.looks_findIn X hi) (fun self=>PySem.W.bind_fn X self hf) (.inl rfl) h
end
structure Cls (K:ο) (C:φ):Prop where
 pg:ď K C Hf=true
 hd:ϭ K C=true
 po:ű K C=true
 sa:Υ K (.ref C) "__setattr__" = some (some (.builtin "object.__setattr__"))
theorem Cls.get {K:ο} {C:φ} (c:Cls K C) (f:θ):ď K C f=true:=c.pg
def di (K:ο) (C:φ) (f:θ):Prop:=Υ K (.ref C) f=some none
theorem di.taker {K:ο} {C:φ} {f:θ} (n:di K C f):DP K C f=some none:=by
 unfold DP
 rw [show Υ K (.ref C) f=some none from n]
 rfl
structure Ag (K:ο) (C:φ) (m:θ) (f:φ):Prop where
 at_:Υ K (.ref C) m=some (some (.ref f))
 fn:Ĝ K (.ref f)=true
 kp:Ϝ K (.ref f)=true
section
variable {X:Cx} {pins:List (φ×Gp)} {σ:St} {H:Hp} {s:ς} {a C dx:φ} {fs:List (θ×V)} {f:θ} {v:V} {A:ϙ} {E:η→ς→Prop}
theorem uF (hb:Â e f env (eval e env)=eval e env)
 (h:Α (model prog w) A (eval e env) (fun o s₁=>Α (model prog w) A (El o f true) Q E s₁) E s):Α (model prog w) A (eval (.Attribute e f pos) env) Q E s:=
 Attribute_any_ h (by rw [arm_eval_Attribute,hb])
end
end L2
namespace L2
structure bq (k:Nat) (A:ϙ):Prop where
 hd:A.handled=none
 dp:A.depth+k+5<recursionLimit
 un:A.units+16 * k+200<š
theorem bq.mono (r:bq k A) (h:j≤k):bq j A:=⟨r.hd,by have:=r.dp;omega,by have:=r.un;omega⟩
theorem bq.deeper (r:bq (k+1) A) (env):bq k (A.deeper env):=
 ⟨r.hd,by have:=r.dp;show A.depth+1+k+5<_;omega,by have:=r.un;show A.units+3+16 * k+200<_;omega⟩
theorem mh {A:ϙ} {C:φ} {us:List η} {kw:List (θ×η)}:(A.under (.builtin "type.__call__" ⟨.ref C :: us,kw⟩)).depth=A.depth+1:=by
 first | rfl | simp [Ff,Code.weight,Code.isCreation,Code.isGuard,Code.isCaller,Iu,Fs,guardIds]
theorem ml {A:ϙ} {C:φ} {us:List η} {kw:List (θ×η)}:(A.under (.builtin "type.__call__" ⟨.ref C :: us,kw⟩)).units=A.units+1:=by
 first | rfl | simp [Ff,Code.cUnits,Iu,Fs]
theorem bq.make (r:bq (k+1) A) (C) (us) (kw):bq k (A.under (.builtin "type.__call__" ⟨.ref C :: us,kw⟩)):=
 ⟨r.hd,by have:=r.dp;rw [mh];omega,by have:=r.un;rw [ml];omega⟩
theorem bq.depth (r:bq k A):A.depth<recursionLimit:=by have:=r.dp;omega
def bW (K:ο) (fd:á) (ps:List θ) (ds:List η):Prop:=
 ∀ (s:ς) (us:List η),K.In s.heap→(us ++ ds).length=ps.length→Ib s fd ⟨us,[]⟩ (ps.zip (us ++ ds))
theorem bW.all {K:ο} {fd:á} {ps:List θ} (h:∀ us:List η,us.length=ps.length→bindArgs fd ⟨us,[]⟩=pure (ps.zip us)):bW K fd ps []:=fun s us _ hl=>by
 rw [Ω] at hl ⊢
 exact .of_eq (h us hl)
section
variable {X:Cx} {CX:CXT} {k:Nat} {f C:φ} {fd:á} {ps:List θ} {sp:Sp} {dvs:List V} {ds:List η} {E:XK} {x m:θ} {p pos apos:ϥ} {e o:Ο} {es:List Ο} {ta:TE} {t:TA}
structure Mk (K:ο) (C f:φ):Prop where
 makes:ľ K C=true
 init:Υ K (.ref C) "__init__" = some (some (.ref f))
 fn:Ĝ K (.ref f)=true
 kp:Ϝ K (.ref C)=true
end
structure d6 (N P:List θ) (sc:Ą):Prop where
 kind:sc.kind = .function
 co:sc.isCoroutine=false
 gen:sc.isGenerator=false
 nd:N.Nodup
 pre:N.take P.length=P
 par:∀ x∈P,sc.names.lookup x=some .local∨sc.names.lookup x=some .cell
 nofree:∀ y∈sc.names,y.2≠.free
theorem iJ {Ĭ:θ→Option χ} {x:θ}:∀ {binds:List (θ×η)} {m:θ→Option η},(∀ v,(x,v) ∉ binds)→Gh Ĭ binds m x=m x
 | [],_,_=>rfl
 | (n,v) :: r,m,h=>by
   unfold Gh
   rw [iJ fun w hw=>h w (ν _ hw)]
   split
   ·have:x≠n:=by rintro rfl;exact h v ι
    simp [this]
   ·rfl
theorem iH {Ĭ:θ→Option χ} {x:θ}:∀ {binds:List (θ×η)} {m:θ→Option η},(∀ v,(x,v) ∉ binds)→Gi Ĭ binds m x=m x
 | [],_,_=>rfl
 | (n,v) :: r,m,h=>by
   unfold Gi
   rw [iH fun w hw=>h w (ν _ hw)]
   split
   ·rfl
   ·have:x≠n:=by rintro rfl;exact h v ι
    simp [this]
theorem iI {Ĭ:θ→Option χ} {x:θ} {v:η}:∀ {P:List θ} {vs:List η} {i:Nat} {m:θ→Option η},P.Nodup→P[i]? = some x→vs[i]? = some v→Ĭ x=some .local →
 Gh Ĭ (P.zip vs) m x=some v
 | [],_,_,_,_,h,_,_=>by simp at h
 | _ :: _,[],_,_,_,_,h,_=>by simp at h
 | p :: P,w :: vs,0,m,nd,h1,h2,hk=>by
   simp at h1 h2;subst h1;subst h2
   show Gh Ĭ ((p,w) :: P.zip vs) m p=_
   unfold Gh
   rw [iJ fun v hv=>(Ϭ.mp nd).1 (ř hv).1,ZZ hk]
   simp
 | p :: P,w :: vs,i+1,m,nd,h1,h2,hk=>by
   show Gh Ĭ ((p,w) :: P.zip vs) m x=_
   unfold Gh
   exact iI (i:=i) (Ϭ.mp nd).2 (by simpa using h1) (by simpa using h2) hk
theorem iG {Ĭ:θ→Option χ} {x:θ} {v:η}:∀ {P:List θ} {vs:List η} {i:Nat} {m:θ→Option η},P.Nodup→P[i]? = some x→vs[i]? = some v→Ĭ x≠some .local →
 Gi Ĭ (P.zip vs) m x=some v
 | [],_,_,_,_,h,_,_=>by simp at h
 | _ :: _,[],_,_,_,_,h,_=>by simp at h
 | p :: P,w :: vs,0,m,nd,h1,h2,hk=>by
   simp at h1 h2;subst h1;subst h2
   show Gi Ĭ ((p,w) :: P.zip vs) m p=_
   unfold Gi
   rw [iH fun v hv=>(Ϭ.mp nd).1 (ř hv).1,ZY hk]
   simp
 | p :: P,w :: vs,i+1,m,nd,h1,h2,hk=>by
   show Gi Ĭ ((p,w) :: P.zip vs) m x=_
   unfold Gi
   exact iG (i:=i) (Ϭ.mp nd).2 (by simpa using h1) (by simpa using h2) hk
theorem j7 {sc:Ą} {n:Nat} {x:θ} (h:sc.names.lookup x=some .cell):∃ c,(Ik n sc.names []).lookup x=some c:=by
 have q:=EN sc.names n [] (.inl h)
 exact EB.mp q
end L2
namespace HT
open PySem PyProof.Rows
section
variable {prog:Ä} {w:à} {A:ϙ} {E:η→ς→Prop} {s:ς}
theorem cat_tup (ht:IsTup s.heap t vs.toArray) (hb:IsTup s.heap b ws.toArray) (hv:vs≠[])
 (h1:ws = []→Q (.ref t) s) (h2:ws≠[]→Q (.ref s.heap.objs.size) { s with heap:=s.heap.push { cls:=.type "tuple",data:=.seq (vs ++ ws).toArray } })
 (hsz:vs.length+ws.length≤ϝ):Α (model prog w) A (ļ .Add (.ref t) (.ref b)) Q E s:=by
 obtain ⟨⟨cls,dd,data,sl⟩,ho,hc,n,hd⟩:=id ht
 obtain ⟨⟨cls2,dd2,data2,sl2⟩,ho2,hc2,n2,hd2⟩:=id hb
 simp only at hc hd hc2 hd2
 subst hc hd hc2 hd2
 have e:vs.toArray ++ ws.toArray=(vs ++ ws).toArray:=by simp
 by_cases hw:ws = []
 ·exact GB ⟨_,ho,rfl⟩ ⟨_,ho2,rfl⟩ EL G0 Ľ Ķ (Į _ _)
   (tuple_addW1 t b vs.toArray ws.toArray n n2 dd dd2 sl sl2 (by simpa using hv) (by simp [hw])) ⟨ho,ho2,h1 hw⟩
 ·refine GB ⟨_,ho,rfl⟩ ⟨_,ho2,rfl⟩ EL G0 Ľ Ķ (Į _ _)
   (tuple_addW2 t b vs.toArray ws.toArray n n2 dd dd2 sl sl2 (by simpa using hv) (by simpa using hw) (by rw [Ν,Ν];exact hsz)) ⟨ho,ho2,?_⟩
  rw [e]
  exact h2 hw
def sIx (n d:Nat):Option Int→Nat
 | none=>d
 | some v=>if v<0 then (v+(n:Int)).toNat else min v.toNat n
theorem zM (n d) (hd:d≤n) (o):sIx n d o≤n:=by
 cases o with
 | none=>exact hd
 | some v=>
   show (if v<0 then (v+(n:Int)).toNat else min v.toNat n)≤n
   by_cases hv:v<0
   ·rw [ZZ hv];omega
   ·rw [ZY hv];exact Nat.min_le_right _ _
theorem m6 (v:Int) (n d:Nat):(if v<0 then max (v+(n:Int)) 0 else min v (n:Int))=((sIx n d (some v):Nat):Int):=by
 show (if v<0 then max (v+(n:Int)) 0 else min v (n:Int))=(((if v<0 then (v+(n:Int)).toNat else min v.toNat n):Nat):Int)
 by_cases hv:v<0
 ·simp only [ZZ hv];omega
 ·simp only [ZY hv];omega
theorem lJ (lo hi:Option Int) (n:Nat):ė lo hi 1 (n:Int)=(((sIx n 0 lo:Nat):Int),((sIx n n hi:Nat):Int)):=by
 have h1:¬ ((1:Int)<0):=by omega
 unfold ė
 simp only [h1,if_false]
 refine Prod.ext ?_ ?_
 ·cases lo with
  | none=>rfl
  | some v=>exact m6 v n 0
 ·cases hi with
  | none=>rfl
  | some v=>exact m6 v n n
theorem mD (i j:Nat):ê (i:Int) (j:Int) 1=j - i:=by
 unfold ê
 have h1:(1:Int)>0:=by omega
 simp only [h1,if_true,Int.ediv_one]
 split <;> omega
theorem ie (p:D3 v o) (h:Q o s):Α (model prog w) A (Iv v) Q E s:=by
 cases p with
 | none=>exact slicePart_none h
 | int i t=>exact slicePart_int h
theorem cI {sl:φ} {vl vu:η} {lo hi:Option Int} {n:Nat} {Q:Int×Int×Nat→ς→Prop} (hs:s.heap.IsSliceOf sl vl vu .none) (pl:D3 vl lo) (pu:D3 vu hi)
 (h:Q (((sIx n 0 lo:Nat):Int),1,sIx n n hi - sIx n 0 lo) s):Α (model prog w) A (ŵ (.ref sl) (pure (n:Int))) Q E s:=by
 obtain ⟨os,hos,hcs,hds⟩:=id hs
 unfold ŵ Iw
 refine ζ (ζ (È hos hds (x:=vl) rfl (ζ (È hos hds (x:=vu) rfl (ζ (È hos hds (x:=.none) rfl (π ?_)))))))
 refine ζ (slicePart_none ?_)
 show Α _ _ (if ((1:Int) == 0)=true then _ else _) _ _ s
 rw [ZY (by decide)]
 refine ζ (ie pl (ζ (ie pu (ζ (π ?_)))))
 show Α _ _ (match ė lo hi 1 (n:Int) with | (lo,hi)=>pure (lo,(1:Int),ê lo hi 1)) _ _ s
 rw [lJ lo hi n]
 show Α _ _ (pure (((sIx n 0 lo:Nat):Int),(1:Int),ê ((sIx n 0 lo:Nat):Int) ((sIx n n hi:Nat):Int) 1)) _ _ s
 rw [mD]
 exact π h
theorem tL (xs:Array η) (i k:Nat):((õ k).filterMap fun (m:Nat)=>xs[((i:Int)+(m:Int) * 1).toNat]?).toArray=((xs.toList.drop i).take k).toArray:=by
 have e:(fun (m:Nat)=>xs[((i:Int)+(m:Int) * 1).toNat]?)=fun m=>xs[i+m]?:=by
  funext m
  have:((i:Int)+(m:Int) * 1).toNat=i+m:=by omega
  rw [this]
 rw [e]
 have:=pick_run xs i k
 rw [List.filterMap_map] at this
 have e2:((fun x=>xs[x]?) ∘ fun x=>i+x)=fun m=>xs[i+m]?:=rfl
 rw [e2] at this
 rw [this]
theorem getItem_tuple_cut {t sl:φ} {items:Array η} {vl vu:η} {lo hi:Option Int} {Q:η→ς→Prop} (ht:IsTup s.heap t items) (hs:s.heap.IsSliceOf sl vl vu .none) (pl:D3 vl lo) (pu:D3 vu hi)
 (hw:¬ (sIx items.size 0 lo=0∧sIx items.size items.size hi=items.size))
 (h:Q (.ref s.heap.objs.size) { s with heap:=s.heap.push { cls:=.type "tuple",data:=.seq ((items.toList.drop (sIx items.size 0 lo)).take (sIx items.size items.size hi - sIx items.size 0 lo)).toArray } })
 (hsz:items.size≤ϝ):Α (model prog w) A (Ek (.ref t) (.ref sl)) Q E s:=by
 have htake:sizeOk (.seq ((items.toList.drop (sIx items.size 0 lo)).take (sIx items.size items.size hi - sIx items.size 0 lo)).toArray):=by
  show ((items.toList.drop (sIx items.size 0 lo)).take (sIx items.size items.size hi - sIx items.size 0 lo)).toArray.size≤ϝ
  rw [Ν,Ł,ù,ũ]
  omega
 have hj:sIx items.size items.size hi≤items.size:=zM _ _ (Ϗ _) hi
 obtain ⟨os,hos,hcs,hds⟩:=id hs
 have hTs:s.TypeIs (.ref sl) "slice":=⟨os,hos,hcs⟩
 unfold Ek
 try with_reducible refine ύ ?_
 first | refine ζ (π ?_) | skip
 refine ζ (Eg ht.typeIs (by decide) ?_)
 refine ζ (Š (name:=Ñ "__getitem__") ht.typeIs Ô
  (ş Ô ht.typeIs Hn ?_ (HE _ _)))
 show Α _ _ (ų (.ref t) >>= _) _ _ s
 refine ζ (tupleItemsOf_ ht ?_)
 refine ζ (Ef hTs ?_)
 rw [ZZ (by decide)]
 refine ζ (cI hs pl pu ?_)
 have hno:¬ ((((sIx items.size 0 lo:Nat):Int) == 0 && (1:Int) == 1 && (sIx items.size items.size hi - sIx items.size 0 lo) == items.size)=true):=by
  intro q
  rw [ω,ω] at q
  have q1:((sIx items.size 0 lo:Nat):Int)=0:=eq_of_beq q.1.1
  have q2:sIx items.size items.size hi - sIx items.size 0 lo=items.size:=eq_of_beq q.2
  exact hw ⟨by omega,by omega⟩
 show Α _ _ (if (((sIx items.size 0 lo:Nat):Int) == 0 && (1:Int) == 1 && (sIx items.size items.size hi - sIx items.size 0 lo) == items.size)=true then _ else _) _ _ s
 rw [ZY hno,tL]
 first
  | exact ζ (m:=ï _) (ø (π ⟨_,rfl,π h⟩) htake)
  | exact ζ (m:=ï _) (ø (ζ (π (π ⟨_,rfl,π h⟩))) htake)
  | exact ζ (ζ (m:=ï _) (ø (π (π ⟨_,rfl,π h⟩)) htake))
  | exact ζ (ζ (m:=ï _) (ø (π ⟨_,rfl,π h⟩) htake))
end
end HT
namespace L2
def ixN (n:Nat) (i:Int):Option Nat:=if 0≤i then (if i<n then some i.toNat else none) else if -(n:Int)≤i then some (i+n).toNat else none
def atI {α:Type} (xs:List α) (i:Int):Option α:=(ixN xs.length i).bind fun j=>xs[j]?
theorem nU (h:ixN n i=some j):seqIndex? i n=some j∧j<n∧-(n:Int)≤i∧i<n:=by
 unfold ixN at h
 by_cases h0:0≤i
 ·rw [ZZ h0] at h
  by_cases h1:i<n
  ·rw [ZZ h1] at h
   have e:i.toNat=j:=Ϟ h
   exact ⟨by rw [Hb h0 h1,e],by omega,by omega,h1⟩
  ·rw [ZY h1] at h;cases h
 ·rw [ZY h0] at h
  by_cases h1:-(n:Int)≤i
  ·rw [ZZ h1] at h
   have e:(i+n).toNat=j:=Ϟ h
   exact ⟨by rw [Gz (by omega) h1,e],by omega,h1,by omega⟩
  ·rw [ZY h1] at h;cases h
theorem jb (h:atI xs i=some v):∃ j,seqIndex? i xs.length=some j∧xs[j]? = some v∧j<xs.length∧-(xs.length:Int)≤i∧i<xs.length:=by
 unfold atI at h
 cases e:ixN xs.length i with
 | none=>rw [e] at h;cases h
 | some j=>
   rw [e] at h
   obtain ⟨h1,h2,h3,h4⟩:=nU e
   exact ⟨j,h1,h,h2,h3,h4⟩
theorem dI {α:Type} {xs:List α} {j:Nat} {v:α} (h:xs[j]? = some v):atI xs (j:Int)=some v:=by
 have hj:j<xs.length:=(κ.mp h).1
 have e:ixN xs.length (j:Int)=some j:=by
  unfold ixN
  rw [ZZ (by omega),ZZ (by omega)];simp
 unfold atI;rw [e];exact h
section
variable {X:Cx} {a b:Ο} {ta tb:TE} {pos:ϥ}
theorem jP (lo hi) (n):(ì lo hi none n).1=((HT.sIx n 0 lo:Nat):Int)∧(ì lo hi none n).2.1=((HT.sIx n n hi:Nat):Int)∧(ì lo hi none n).2.2=1:=by
 refine ⟨?_,?_,rfl⟩
 ·cases lo with
  | none=>simp [ì,HT.sIx]
  | some i=>
    simp only [ì,HT.sIx,Gk,show (1:Int)>0 by decide,if_true]
    by_cases h:i<0
    ·simp only [h,if_true] <;> omega
    ·simp only [h,if_false] <;> omega
 ·cases hi with
  | none=>simp [ì,HT.sIx]
  | some i=>
    simp only [ì,HT.sIx,Gk,show (1:Int)>0 by decide,if_true]
    by_cases h:i<0
    ·simp only [h,if_true] <;> omega
    ·simp only [h,if_false] <;> omega
theorem iD (its:List η) (lo hi:Option Int):slicePick its.toArray lo hi none=((its.drop (HT.sIx its.length 0 lo)).take (HT.sIx its.length its.length hi - HT.sIx its.length 0 lo)).toArray:=by
 obtain ⟨h1,h2,h3⟩:=jP lo hi its.toArray.size
 unfold slicePick
 rw [h1,h2,h3]
 simp only [sliceRange_one,pick_run,Ν] <;> rfl
variable {o e:Ο} {es:List Ο} {to:TE} {t:TA} {name:θ} {apos cpos:ϥ} {T id:String} {r:V→List V→Hp→VK→Prop}
end
end L2
namespace Att
open PySem PySem.W PySem.Calls PyProof.Rows
theorem fR :∀ (ns) (vs),WellAll P h vs (ns.map WData.int)→Ey vs ns:=by
 intro ns
 induction ns with
 | nil=>
   intro vs w
   rw [Œ] at w
   cases w
   exact .nil
 | cons n ns ih=>
   intro vs w
   rw [ë] at w
   cases w with
   | cons a b=>
     cases a
     exact .cons _ _ (ih _ b)
theorem qN {l:OpenLaw} {n:Nat} (hn:l.most=some n) {P:Params} {h:ϻ} {args:List WData} {vals:List η}
 (hpre:l.row.toRowW.claim.pre args=true) (hwl:WellAll P h vals args) :
 ∃ a vs ns,vals = [Ç a]∧args = [WData.list (ns.map WData.int)]∧h.get? a=some { cls:=.type "list",data:=.seq vs.toArray }∧Ey vs ns∧ns.length≤n:=by
 have hsh:WShape.hasAll [] args [.list .int]=true:=(pre_splitW hpre).1
 have hc:l.pre.holds [] { args:=args }=true:=(pre_splitW hpre).2
 obtain ⟨d,r,rfl,h1,h2⟩:=hasAllW_cons hsh
 obtain rfl:=hasAllW_nil h2
 obtain ⟨xs,rfl,h3⟩:=hasW_list h1
 obtain ⟨ns,rfl⟩:=items_int h3
 have hlen:ns.length≤n:=by
  unfold OpenLaw.pre at hc
  have h4:(WTm.not (.lt (.lit (.int (n:Int))) (.len (.arg 0)))).holds [] { args:=[.list (ns.map .int)] }=true:=by
   have h4:=(holds_andW hc).1
   rw [hn] at h4
   exact h4
  have h5:=condW_of h4 (w_not (w_lt w_lit (w_len_list (w_arg rfl))))
  rw [Β] at h5
  refine Nat.le_of_not_lt fun q=>?_
  have q':(n:Int)<((ns.length:Nat):Int):=by omega
  first
   | (rw [ZW q'] at h5;exact ZX h5 (by decide))
   | (simp at h5;omega)
 cases hwl with
 | cons w1 w2=>
   cases w2
   cases w1 with
   | list ho hall=>exact ⟨_,_,ns,rfl,rfl,ho,fR ns _ hall,hlen⟩
theorem qG (l:OpenLaw) (args:List WData):l.row.toRowW.claim.post args (.bool true) args=true:=
 postW_of (r:=l.row.toRowW) (X:=(true == true))
  (show WShape.has [] (.bool true) .bool=true by first | rfl | decide | simp [WShape.has,WShape.arms,WShape.armsAll])
  (show (WTm.eq .res (.lit (.bool true))).value [] { args:=args,res:=some (.bool true),after:=args }=some (.bool (true == true)) from w_eq_bool (w_res rfl) w_lit) rfl
theorem attach_call {l:OpenLaw} {n:Nat} {q:Ä} {loose:List θ} {XP:(θ→Option η)→ϻ→Prop} {YP:à→ϻ→Prop} {d:DefRec}
 (hn:l.most=some n) (hdf:d.params.defaults = [])
 (call:∀ (w:à) (s₀ s₁:ς) (mg mb:θ→Option η) (fa:φ) (o:Gp) (pm cd doc:η) (a:φ) (vs:List η) (ns:List Int),
  Ground q loose [] XP w s₀ mg mb s₁.heap→YP w s₁.heap →
  s₁.heap.get? fa=some o→o.data = .func (docDef d.name d.params d.body d.scope pm cd doc)→s₁.heap.CodeRec cd d.name→mg d.name=some (.ref fa) →
  s₁.heap.get? a=some { cls:=.type "list",data:=.seq vs.toArray }→Ey vs ns→ns.length≤n→s₁.gens = #[] →
  ĳ (model l.prog w) Em (.call (.ref fa) ⟨[.ref a],[]⟩) (fun r s'=>r = .ok (.ret (.bool true))∧OldK s₁.heap s'.heap∧s'.os=s₁.os∧œ s'.gens) s₁) :
 WalkO q loose XP YP l.row.toRowW d [] (fun f vs=>G4 f vs):=by
 intro w s₀ s₁ mg mb G Y fa o pm cd doc dV kV ho hd hcd hD hmg hg args vals as hpre hlay hrd hwl hlo
 obtain rfl:dV = .none:=Dflts.none hD hdf
 obtain rfl:kV = .none:=Dflts.noKw hD
 obtain ⟨a,vs,ns,rfl,rfl,hobj,hints,hlen⟩:=qN hn hpre hwl
 refine enter_call (ý (call w s₀ s₁ mg mb fa o pm cd doc a vs ns G Y ho (fd_plain hd) hcd hmg hobj hints hlen hg) fun r s' hq=>?_)
 obtain ⟨rfl,h2,h3,h4⟩:=hq
 exact ⟨.inl ⟨.bool true,.bool true,[],rfl,fun _=>rfl,.bool true,qG l _,fun _=>⟨List.Pairwise.nil,fun _ hm=>(nomatch hm)⟩⟩,h2,h3,h4⟩
end Att
namespace L2
def aI (s:Ò):Gy:=match s with
 | .FunctionDef _ a _ _ _ _ _ _ _ _=>a
 | _=>{ posonlyargs:=[],args:=[],vararg:=none,kwonlyargs:=[],kw_defaults:=[],kwarg:=none,defaults:=[] }
def bL (s:Ò):List Ò:=match s with
 | .FunctionDef _ _ b _ _ _ _ _ _ _=>b
 | _=>[]
def ax (s:Ò):Ą:=match s with
 | .FunctionDef _ _ _ _ _ _ sc _ _ _=>sc
 | _=>{ kind:=.function,names:=[],isGenerator:=false,isCoroutine:=false }
structure Fun (K:ο) (x qual:θ) (st:Ò) (f:φ) (fd:á):Prop where
 ex:∃ (oc:η) (od:Option φ) (kV doc pm:η) (an:Option φ) (cdv ct:η) (osl:Array (Option η)),
  fd=Ϻ x qual (aI st) (bL st) (ax st) .none kV doc pm an cdv ct∧K.lookup f=some ⟨oc,od,.func fd,osl⟩∧Ü K cdv qual=true
 kp:Ϝ K (.ref f)=true
section
variable {P:Ä} {w:à} {K:ο} {mg:θ→Option η} {base:ϻ}
theorem Fun.binds {x qual:θ} {st:Ò} {f:φ} {fd:á} {ps:List θ} (F:Fun K x qual st f fd)
 (h:∀ (kV doc pm:η) (an:Option φ) (cdv ct:η) (us:List η),us.length=ps.length→bindArgs (Ϻ x qual (aI st) (bL st) (ax st) .none kV doc pm an cdv ct) ⟨us,[]⟩=pure (ps.zip us)):bW K fd ps []:=by
 obtain ⟨oc,od,kV,doc,pm,an,cdv,ct,osl,rfl,lk,hcd⟩:=F.ex
 exact .all (h kV doc pm an cdv ct)
theorem lS {x qual:θ} {st:Ò} {f:φ} {oc:η} {od an:Option φ} {osl:Array (Option η)} {kV doc pm cdv ct:η} (l:K.lookup f=some ⟨oc,od,.func (Ϻ x qual (aI st) (bL st) (ax st) .none kV doc pm an cdv ct),osl⟩)
 (c:Ü K cdv qual=true) (k:Ϝ K (.ref f)=true):Fun K x qual st f (Ϻ x qual (aI st) (bL st) (ax st) .none kV doc pm an cdv ct):=⟨⟨oc,od,kV,doc,pm,an,cdv,ct,osl,rfl,l,c⟩,k⟩
end
end L2
section
namespace L2.Bk
open PySem
inductive Dk where
 | non
 | int (i:Int)
 | bl (b:Bool)
 | str (x:θ)
 | tup (xs:List Dk)
def sumI:List Int→Int
 | []=>0
 | x :: r=>x+sumI r
end L2.Bk
namespace L2.Bw
def maxD (d:Int):List Int→Int
 | []=>d
 | x :: r=>r.foldl (fun a b=>if b>a then b else a) x
end L2.Bw
namespace L2.Ev
inductive D where
 | non | bl (b:Bool) | int (i:Int) | str (x:θ) | tup (l:List D) | lst (l:List D) | dic (k:List Key) (l:List D) | ins (c:Nat) (l:List D) | ref (n:Nat)
inductive O where
 | lst (l:List D) | dic (k:List Key) (l:List D) | ins (c:Nat) (l:List D)
inductive Op where
 | add | sub | mul | fdiv | mod | pow | shl | shr | band | bxor | eq | ne | lt | le | gt | ge | isin | notin | eq2
 deriving DecidableEq
inductive Bi where
 | len | tuple | list | all | max0 | sum | abs | str | int | range1 | range2 | zip2 | zip3 | enum | enum2 | rev | dict | max2 | min2 | isTup | isStr | isInt | isBool | isLst | isDic | isVal | setl
 deriving DecidableEq
inductive SM where
 | rep (y z:θ) | spl (y:θ) | dig | sta (y:θ) | mulc (y:θ) | cnt | mull
inductive E where
 | sm (k:SM) (a:E) | pop (a:E) | isXv (a:E) | snap (i:Nat) (a:E)
 | v (i:Nat) | c (d:D) | g (j:Nat) | op (o:Op) (a b:E) | isN (a:E) | isNN (a:E) | neg (a:E) | not (a:E) | and (a b:E) | or (a b:E) | ite (c a b:E)
 | chain (o p:Op) (a b c:E)
 | ix (a b:E) | sl (a lo hi:E) | fld (a:E) (f:Nat) | tup (es:E) | lst (es:E) | dic (es:E) | nil | cons (a es:E)
 | call (j:Nat) (es:E) | hcall (j:Nat) (es:E) | mth (c j:Nat) (a es:E) | new (j:Nat) (es:E) | bi (b:Bi) (es:E) | join (x:θ) (a:E) | get (a b c:E) | index (a b:E) | isX (a:E) (js:List Nat)
 | lc (t:List Nat) (one:Bool) (it elt cond:E)
 | tab (j:Nat) (e:E) | tabin (j:Nat) (e:E)
 | newl (es:E) | keep (kp:List Nat) (a:E) | sto (a:E) | fcall (own:Bool) (j:Nat) (es:E)
 | sl3 (a lo st:E) | tget (j:Nat) (e d:E) | newd (j:Nat) (es:E) | fmt (x:θ) (a:E) (y:θ) | dicc (ks:List θ) (es:E)
 | tand (a b:E) | tor (a b:E) | tnot (a:E) | tv (a:E) | it (b:Bi) (es:E) | itv (a:E)
inductive S where
 | skip | seq (a b:S) | set (i:Nat) (e:E) | setT (l:List Nat) (e:E) | setR (i:Nat) (es:E) | ret (e:E) | ifs (c:E) (a b:S) | drop (e:E)
 | app (i:Nat) (e:E) | ext (i:Nat) (e:E) | put (a b e:E) | fld (a:E) (f:Nat) (e:E) | aug (a:E) (f:Nat) (o:Op) (e:E) | fapp (a:E) (f:Nat) (e:E) | fext (a e:E)
 | for_ (t:List Nat) (one:Bool) (it:E) (b:S) | whl (c:E) (b:S) | rais (j:Nat) (es:E) | try_ (a:S) (hs:S) | hand (j:Nat) (i:Option Nat) (b rest:S)
def fl:D→Bool
 | .non=>true | .bl _=>true | .int _=>true | .str _=>true | _=>false
def eqf:D→D→Bool
 | .non,.non=>true
 | .bl a,.bl b=>a == b
 | .bl a,.int b=>(if a then 1 else 0) == b
 | .int a,.int b=>a == b
 | .int a,.bl b=>a == (if b then 1 else 0)
 | .str a,.str b=>a == b
 | _,_=>false
def sh:D→Nat
 | .non=>0 | .bl _=>0 | .int _=>0 | .str _=>0 | .tup _=>1 | .lst _=>2 | _=>3
def eq0 (d e:D):Option Bool:=
 if sh d=3∨sh e=3 then none else if sh d=0∧sh e=0 then some (eqf d e) else if sh d=sh e then none else some false
def gB (f:D→D→Option Bool):List D→List D→Option Bool
 | d :: a,e :: b=>(match f d e with | none=>none | some x=>(gB f a b).map (x && ·))
 | _,_=>some true
def eqv:Nat→D→D→Option Bool
 | 0,d,e=>eq0 d e
 | n+1,.tup a,.tup b=>(gB (eqv n) a b).map (· && a.length == b.length)
 | n+1,.lst a,.lst b=>if a.length=b.length then gB (eqv n) a b else some false
 | _+1,d,e=>eq0 d e
end L2.Ev
namespace L2.Ev
structure Fn where
 np:Nat
 ns:Nat
 body:S
 df:List D
structure Cl where
 what:Nat
 at_:List Nat
 init:Nat
 me:List (Nat×Nat)
 sup:List Nat
 chk:List Nat:=[]
def toD:L2.Bk.Dk→D
 | .non=>.non
 | .int i=>.int i
 | .bl b=>.bl b
 | .str x=>.str x
 | .tup l=>.tup (toDs l)
where toDs:List L2.Bk.Dk→List D
 | []=>[]
 | d :: r=>toD d :: toDs r
structure Gm where
 gl:List L2.Bk.Dk
 tb:List (List (θ×L2.Bk.Dk))
 fn:List Fn
 cl:List Cl
structure Sta where
 env:List (Option D)
 ow:List Nat
 st:List O
inductive Out (α:Type) where
 | ok (a:α) (s:Sta) | exc (c:Nat) (l:List D) (s:Sta) | bad
inductive Res where
 | ok (d:D) (st:List O) | exc (c:Nat) (l:List D) (st:List O) | bad
inductive am where
 | nx (s:Sta) | rt (d:D) (s:Sta) | exc (c:Nat) (l:List D) (s:Sta) | bad
def Out.bind {α β:Type} (x:Out α) (f:α→Sta→Out β):Out β:=match x with
 | .ok a s=>f a s
 | .exc c l s=>.exc c l s
 | .bad=>.bad
def Out.of {α:Type} (s:Sta):Option α→Out α
 | some a=>.ok a s
 | none=>.bad
def Out.go {α:Type} (x:Out α) (f:α→Sta→am):am:=match x with
 | .ok a s=>f a s
 | .exc c l s=>.exc c l s
 | .bad=>.bad
def am.go (x:am) (f:Sta→am):am:=match x with
 | .nx s=>f s
 | y=>y
def kt:D→Bool
 | .non=>true | _=>false
def un (s:Sta) (i:Nat):Sta:=⟨s.env,s.ow.filter (· != i),s.st⟩
def look (st:List O):D→D
 | .ref n=>(match st[n]? with | some (.lst l)=>.lst l | some (.dic k l)=>.dic k l | _=>.ref n)
 | d=>d
def bE:D→Option Key
 | .int i=>some (.inl i)
 | .str x=>some (.inr x)
 | _=>none
def dG:List Key→List D→Key→Option D
 | k :: ks,d :: ds,x=>if k=x then some d else dG ks ds x
 | _,_,_=>none
def kS:List Key→List D→Key→D→List D
 | k :: ks,d :: ds,x,e=>(if k=x then e else d) :: kS ks ds x e
 | _,ds,_,_=>ds
def dh (ks:List Key) (ds:List D) (x:Key) (e:D):List Key×List D:=if ks.any (fun k=>decide (k=x))=true then (ks,kS ks ds x e) else (ks ++ [x],ds ++ [e])
def inD (d:D):List D→Option Bool
 | []=>some false
 | e :: r=>match eqv 55 e d with | none=>none | some b=>(inD d r).map (b || ·)
def fP (n:Nat) (d:D):Option D:=if n≤100000 then some d else none
def opI (o:Op) (i j:Int):Option D:=match o with
 | .add=>some (.int (i+j))
 | .sub=>some (.int (i - j))
 | .mul=>if ((-(2 ^ 64)<i∧i<2 ^ 64)∨(-(2 ^ 64)<j∧j<2 ^ 64))∨(i.natAbs<2 ^ 400∧j.natAbs<2 ^ 400) then some (.int (i * j)) else none
 | .fdiv=>if 0<j∧j<2 ^ 200 then some (.int (i / j)) else none
 | .mod=>if 0<j then some (.int (i % j)) else none
 | .pow=>if 0≤j∧j≤1000000∧i.natAbs<2 ^ 64 then some (.int (i ^ j.toNat)) else none
 | .shl=>if 0≤j∧j≤1000000∧i.natAbs<2 ^ 64 then some (.int (i * 2 ^ j.toNat)) else none
 | .shr=>if 0≤j then some (.int (i / 2 ^ j.toNat)) else none
 | .band=>some (.int (Builtin.bitAnd i j))
 | .bxor=>some (.int (Builtin.bitXor i j))
 | .lt=>some (.bl (decide (i<j)))
 | .le=>some (.bl (decide (i≤j)))
 | .gt=>some (.bl (decide (j<i)))
 | .ge=>some (.bl (decide (j≤i)))
 | _=>none
def rT (ls:List Key) (es:List D):List Key→List D→Option Bool
 | k :: ks,d :: ds=>(match dG ls es k with | none=>some false | some e=>(match eqv 55 d e with | none=>none | some x=>(rT ls es ks ds).map (x && ·)))
 | _,_=>some true
def eqT (a b:D):Option Bool:=match a,b with
 | .dic ks ds,.dic ls es=>if ks.length=ls.length then rT ls es ks ds else some false
 | a,b=>eqv 55 a b
def AU:List D→List D→Bool
 | [],[]=>true
 | d :: l,e :: m=>eqT d e == some true && AU l m
 | _,_=>false
def Dh (a b:D):Option D:=match a,b with
 | .tup l,.tup m=>if AU l m then some (.bl true) else none
 | _,_=>none
def opD (o:Op) (a b:D):Option D:=match o with
 | .eq2=>Dh a b
 | .eq=>(eqT a b).map .bl
 | .ne=>(eqT a b).map fun x=>.bl (!x)
 | .isin=>(match b with | .str y=>(match a with | .str x=>some (.bl (Il y x)) | _=>none) | .lst l=>(inD a l).map .bl | .tup l=>(inD a l).map .bl | .dic ks ds=>(bE a).map fun k=>.bl (dG ks ds k).isSome | _=>none)
 | .notin=>(match b with | .str y=>(match a with | .str x=>some (.bl (!Txt.contains y x)) | _=>none) | .lst l=>(inD a l).map fun x=>.bl (!x) | .tup l=>(inD a l).map fun x=>.bl (!x) | .dic ks ds=>(bE a).map fun k=>.bl (!(dG ks ds k).isSome) | _=>none)
 | _=>match a,b with
   | .int i,.int j=>opI o i j
   | .str x,.str y=>if o = .add then fP (x.length+y.length) (.str (x ++ y)) else none
   | .tup x,.tup y=>if o = .add then fP (x.length+y.length) (.tup (x ++ y)) else none
   | .lst x,.lst y=>if o = .add then fP (x.length+y.length) (.lst (x ++ y)) else none
   | _,_=>none
def wI:D→Option Bool
 | .bl b=>some b
 | .tup l=>some (!l.isEmpty)
 | .lst l=>some (!l.isEmpty)
 | .int i=>some (i != 0)
 | .non=>some false
 | _=>none
def ixD (a b:D):Option D:=match a,b with
 | .tup l,.int i=>atI l i
 | .lst l,.int i=>atI l i
 | .str x,.int i=>if x.length≤100000 then (atI x.cps.toList i).map fun c=>.str ⟨#[c]⟩ else none
 | .dic ks ds,k=>(bE k).bind fun k=>dG ks ds k
 | _,_=>none
def pO (xs:List D) (lo hi:Option Int):List D:=(xs.drop (HT.sIx xs.length 0 lo)).take (HT.sIx xs.length xs.length hi - HT.sIx xs.length 0 lo)
def slO (a:D) (l h:Option Int):Option D:=match a with
 | .tup x=>some (.tup (pO x l h))
 | .lst x=>some (.lst (pO x l h))
 | .str x=>if x.length≤100000 then some (.str (Ϥ x l h)) else none
 | _=>none
def B3 {α:Type} (xs:List α) (lo:Option Int) (st:Int):List α:=(sliceRange (ì lo none (some st) xs.length).1 (ì lo none (some st) xs.length).2.1 (ì lo none (some st) xs.length).2.2).filterMap (xs[·]?)
def qO (a:D) (l st:Option Int):Option D:=match a,st with
 | .lst x,some k=>if k=0 then none else some (.lst (B3 x l k))
 | _,_=>none
def isDic:D→Bool
 | .dic _ _=>true
 | _=>false
def bB:E→Bool
 | .nil=>true
 | _=>false
def toI (d:D) (s:Sta):Out (Option Int):=match d with | .int i=>.ok (some i) s | _=>.bad
def cN:List D→Option (List Int)
 | []=>some []
 | .int i :: r=>(cN r).map (i :: ·)
 | _=>none
def fF:List D→Option (List Bool)
 | []=>some []
 | .bl i :: r=>(fF r).map (i :: ·)
 | _=>none
def b8:List D→Option (List θ)
 | []=>some []
 | .str i :: r=>(b8 r).map (i :: ·)
 | _=>none
def cf (b:Bi) (x:D):Option D:=match b,x with
 | .len,.tup l=>some (.int l.length)
 | .len,.lst l=>some (.int l.length)
 | .len,.str x=>if x.length≤100000 then some (.int x.length) else none
 | .len,.dic k _=>if k.length≤100000 then some (.int k.length) else none
 | .tuple,.lst l=>some (.tup l)
 | .tuple,.tup l=>some (.tup l)
 | .list,.tup l=>some (.lst l)
 | .list,.lst l=>some (.lst l)
 | .rev,.lst l=>some (.lst l.reverse)
 | .all,.lst l=>(fF l).map fun bs=>.bl (bs.all id)
 | .sum,.lst l=>(cN l).map fun ns=>.int (L2.Bk.sumI ns)
 | .max2,.lst l=>(match cN l with | some (n :: r)=>some (.int (L2.Bw.maxD 0 (n :: r))) | _=>none)
 | .abs,.int i=>some (.int (if i<0 then -i else i))
 | .str,.str x=>some (.str x)
 | .str,.int i=>if i.natAbs.log2<1920 then some (.str (Ñ (toString i))) else none
 | .int,.int i=>some (.int i)
 | .int,.bl k=>some (.int (if k then 1 else 0))
 | .int,.str x=>if x.length≤640 then (ñ x).map .int else none
 | .dict,.dic k l=>some (.dic k l)
 | .setl,.lst l=>(cN l).bind fun ns=>if ns.length+1<4096 then some (.int ((IB (fun i=>ns.getD i 0) ns.length).length:Nat)) else none
 | .isTup,d=>(match d with | .tup _=>some (.bl true) | .ref _=>none | .ins _ _=>none | _=>some (.bl false))
 | .isStr,d=>(match d with | .str _=>some (.bl true) | .ref _=>none | .ins _ _=>none | _=>some (.bl false))
 | .isBool,d=>(match d with | .bl _=>some (.bl true) | .ref _=>none | .ins _ _=>none | _=>some (.bl false))
 | .isInt,d=>(match d with | .bl _=>some (.bl true) | .int _=>some (.bl true) | .ref _=>none | .ins _ _=>none | _=>some (.bl false))
 | .isLst,d=>(match d with | .lst _=>some (.bl true) | .ref _=>none | .ins _ _=>none | _=>some (.bl false))
 | .isDic,d=>(match d with | .dic _ _=>some (.bl true) | .ref _=>none | .ins _ _=>none | _=>some (.bl false))
 | .isVal,d=>(match d with | .lst _=>some (.bl true) | .int _=>some (.bl true) | .bl _=>some (.bl true) | .str _=>some (.bl true) | .ref _=>none | .ins _ _=>none | _=>some (.bl false))
 | _,_=>none
def Ak (b:Bi) (x y:D):Option D:=match b,x,y with
 | .max0,.lst l,.int d=>(cN l).map fun ns=>.int (L2.Bw.maxD d ns)
 | .max2,.int i,.int j=>some (.int (if j>i then j else i))
 | .min2,.int i,.int j=>some (.int (if j<i then j else i))
 | _,_,_=>none
def Cv (b:Bi) (x y z:D):Option D:=match b,x,y,z with
 | .max2,.int i,.int j,.int k=>some (.int (if j>i then (if k>j then k else j) else if k>i then k else i))
 | _,_,_,_=>none
def biD (b:Bi) (ds:List D):Option D:=match ds with
 | [x]=>cf b x
 | [x,y]=>Ak b x y
 | [x,y,z]=>Cv b x y z
 | _=>none
def ym:Key→D
 | .inl i=>.int i
 | .inr x=>.str x
def ly:D→Option (List D)
 | .lst l=>some l
 | .tup l=>some l
 | .dic ks _=>some (ks.map ym)
 | .str x=>if x.cps.all (· < 128)=true then some (x.cps.toList.map fun c=>.str ⟨#[c]⟩) else none
 | _=>none
def d3 (lo:Int) (n:Nat):List D:=(õ n).map fun (i:Nat)=>.int (lo+i)
def Cs:List D→List D→List D
 | a :: r,b :: q=>.tup [a,b] :: Cs r q
 | _,_=>[]
def xy:List D→List D→List D→List D
 | a :: r,b :: q,c :: p=>.tup [a,b,c] :: xy r q p
 | _,_,_=>[]
def dq:Int→List D→List D
 | i,a :: r=>.tup [.int i,a] :: dq (i+1) r
 | _,[]=>[]
def sqL:D→Option (List D)
 | .lst l=>some l
 | .tup l=>some l
 | _=>none
def yj (b:Bi) (x:D):Option (List D):=match b,x with
 | .range1,.int j=>if -(2 ^ 62)≤j∧j<2 ^ 62 then some (d3 0 j.toNat) else none
 | .enum,.lst x=>some (dq 0 x)
 | .rev,.lst x=>some x.reverse
 | _,_=>none
def Dl (b:Bi) (x y:D):Option (List D):=match b,x,y with
 | .range2,.int i,.int j=>if (-(2 ^ 62)≤i∧i<2 ^ 62∧-(2 ^ 62)≤j∧j<2 ^ 62) then some (d3 i (j - i).toNat) else none
 | .zip2,x,y=>(match sqL x,sqL y with | some l,some m=>if l.length≤m.length then some (Cs l m) else none | _,_=>none)
 | .enum2,.tup x,.int n=>if H7 n=true∧0≤n then some (dq n x) else none
 | _,_,_=>none
def Dm (b:Bi) (x y z:D):Option (List D):=match b,x,y,z with
 | .zip3,x,y,z=>(match sqL x,sqL y,sqL z with | some l,some m,some n=>if l.length≤m.length∧l.length≤n.length then some (xy l m n) else none | _,_,_=>none)
 | _,_,_,_=>none
def itD (b:Bi) (ds:List D):Option (List D):=match ds with
 | [x]=>yj b x
 | [x,y]=>Dl b x y
 | [x,y,z]=>Dm b x y z
 | _=>none
def lR (Γ:Gm) (st:List O) (d:D) (f:Nat):Option D:=match d with
 | .ins c l=>(Γ.cl[c]?).bind fun k=>l[k.at_.idxOf f]?
 | .ref n=>(match st[n]? with | some (.ins c l)=>(Γ.cl[c]?).bind fun k=>l[k.at_.idxOf f]? | _=>none)
 | _=>none
def aN (t:List Nat) (one:Bool) (d:D) (env:List (Option D)):Option (List (Option D)):=
 if one then (match t with | [i]=>some (env.set i (some d)) | _=>none)
 else (match d with
  | .tup l=>if l.length=t.length then some ((t.zip l).foldl (fun e p=>e.set p.1 (some p.2)) env) else none
  | .lst l=>if l.length=t.length then some ((t.zip l).foldl (fun e p=>e.set p.1 (some p.2)) env) else none
  | _=>none)
def noX {α:Type}:Out α→Out α
 | .exc _ _ _=>.bad
 | o=>o
def bw (f:D→Sta→Out (Option D)):List D→List D→Sta→Out D
 | [],acc,s=>.ok (.lst acc) s
 | d :: r,acc,s=>(f d s).bind fun o s'=>match o with
   | some e=>if acc.length<100000 then bw f r (acc ++ [e]) s' else .bad
   | none=>bw f r acc s'
def Out.back {α:Type} (env:List (Option D)):Out α→Out α
 | .ok d s=>.ok d ⟨env,[],s.st⟩
 | .exc c l s=>.exc c l ⟨env,[],s.st⟩
 | .bad=>.bad
mutual
noncomputable def noL:D→Bool
 | .lst _=>false
 | .tup l=>kI l
 | .dic _ l=>kI l
 | .ins _ l=>kI l
 | _=>true
noncomputable def kI:List D→Bool
 | []=>true
 | d :: r=>noL d && kI r
end
mutual
noncomputable def noR:D→Bool
 | .ref _=>false
 | .tup l=>ba l
 | .lst l=>ba l
 | .dic _ l=>ba l
 | .ins _ l=>ba l
 | _=>true
noncomputable def ba:List D→Bool
 | []=>true
 | d :: r=>noR d && ba r
end
def mB:O→Bool
 | .lst _=>false
 | .dic _ l=>kI l
 | .ins _ l=>kI l
def bH:E→List Nat
 | .cons (.v i) r=>i :: bH r
 | .cons _ r=>bH r
 | _=>[]
def isLst:Option (Option D)→Bool
 | some (some (.lst _))=>true
 | _=>false
def aft (es:E) (s:Sta) (d:D) (st:List O):Sta:=⟨s.env,s.ow.filter fun i=>!(bH es).contains i || (isLst s.env[i]? && (noL d && st.all mB)),st⟩
def drp (es:E) (s:Sta) (st:List O):Sta:=⟨s.env,s.ow.filter fun i=>!(bH es).contains i,st⟩
def rm:List D→Option (List Key×List D)
 | []=>some ([],[])
 | [_]=>none
 | k :: d :: r=>(bE k).bind fun k=>(rm r).bind fun p=>if p.1.contains k then none else some (k :: p.1,d :: p.2)
def vg:D→Bool
 | .tup _=>true
 | _=>false
def Bl (x y:D):Option D:=match x,y with
 | .tup l,.str k=>(b8 l).bind fun ss=>(ss.findIdx? (· == k)).map fun (j:Nat)=>.int j
 | _,_=>none
def rZ (x:θ) (y:D):Option D:=match y with
 | .lst l=>(b8 l).bind fun ss=>if x.length≤64∧(ss.map (·.length)).sum≤100000∧ss.length≤1000 then some (.str (Txt.join x ss)) else none
 | _=>none
def A1 (x:θ) (v:D) (y:θ):Option D:=match v with
 | .str z=>if x.length≤1000∧z.length≤100000∧y.length≤1000 then some (.str (((Hf ++ x) ++ z) ++ y)) else none
 | _=>none
mutual
noncomputable def shD (k:Nat):D→D
 | .tup l=>.tup (iC k l)
 | .lst l=>.lst (iC k l)
 | .dic ks l=>.dic ks (iC k l)
 | .ins c l=>.ins c (iC k l)
 | .ref n=>.ref (k+n)
 | d=>d
noncomputable def iC (k:Nat):List D→List D
 | []=>[]
 | d :: r=>shD k d :: iC k r
end
def shO (k:Nat):O→O
 | .lst l=>.lst (iC k l)
 | .dic ks l=>.dic ks (iC k l)
 | .ins c l=>.ins c (iC k l)
def fN (Γ:Gm) (c:Nat):Bool:=match Γ.cl[c]? with | some k=>k.what == 2 | none=>false
def Bp (Γ:Gm) (x:D) (js:List Nat):Option D:=match x with
 | .ins c _=>if (fN Γ c && js.all (fN Γ))=true then (Γ.cl[c]?).map fun k=>.bl (js.any fun j=>c == j || k.sup.contains j) else none
 | _=>none
def au:E→Bool
 | .lst _=>true | .lc ..=>true | .bi .list _=>true | .bi .rev _=>true | .bi .dict _=>true | .dic _=>true | .keep _ a=>au a | .fcall own _ _=>own | .snap _ a=>au a | _=>false
mutual
noncomputable def flT:D→Bool
 | .non=>true | .bl _=>true | .int _=>true | .str _=>true
 | .tup l=>flTs l
 | _=>false
noncomputable def flTs:List D→Bool
 | []=>true
 | d :: r=>flT d && flTs r
end
def flR:D→Bool
 | .lst l=>flTs l
 | d=>flT d
def flX (f:Bool) (d:D):Bool:=if f=true then flR d else flT d
def bg (env:List (Option D)):List (Option D):=env.map fun o=>o.bind fun d=>if noR d then some d else none
def xe (Γ:Gm) (x:D):Option D:=match x with
 | .ins c _=>if fN Γ c=true then (Γ.cl[c]?).map fun k=>.bl (k.sup.contains 1000) else none
 | _=>none
def smO (k:SM) (x:D):Option D:=match k,x with
 | .rep y z,.str x=>if x.length≤10000∧z.length≤100∧y.length=1 then some (.str (ă x y z)) else none
 | .spl y,.str x=>if x.length≤60000∧y.length=1 then some (.lst ((Í x y).map .str)) else none
 | .dig,.str x=>some (.bl (Txt.isdigit x))
 | .sta y,.str x=>some (.bl (Ŧ x y))
 | .mulc y,.int n=>if -1000000≤n∧n≤10000∧y.length≤10 then some (.str (À y n)) else none
 | .cnt,.tup [.lst l,.str k]=>(b8 l).map fun ss=>.int (ss.countP (· == k):Nat)
 | .mull,.tup [.lst l,.int n]=>if -1000000≤n∧n≤10000∧l.length=1 then some (.lst (ξ n.toNat l).flatten) else none
 | .mull,.tup [.str y,.int n]=>if -1000000≤n∧n≤10000∧y.length≤10 then some (.str (À y n)) else none
 | _,_=>none
def Dz (x:D) (s:Sta):Out D:=match x with
 | .ref n=>(match s.st[n]? with
   | some (.lst l)=>(match l.getLast? with | some d=>.ok d ⟨s.env,s.ow,s.st.set n (.lst l.dropLast)⟩ | none=>.bad)
   | _=>.bad)
 | _=>.bad
def ng (ks:List θ) (l:List D):Option D:=if ks.length=l.length∧ks.Nodup∧ks.length≤15∧ks≠[] then some (.dic (ks.map .inr) l) else none
def rR (kp:List Nat) (env:List (Option D)):List (Option D):=env.mapIdx fun i d=>if kp.contains i then none else d
def hid (kp:List Nat) (s:Sta):Sta:=⟨rR kp s.env,s.ow.filter (fun i=>!kp.contains i),s.st⟩
def Ci (x:D) (s:Sta):Out D:=match x with | .lst l=>.ok (.ref s.st.length) ⟨s.env,s.ow,s.st ++ [.lst l]⟩ | _=>.bad
section
variable (Γ:Gm) (cal cal1:Nat→List D→List O→Res)
def iq (es:E) (j:Nat) (ds:List D) (s:Sta):Out D:=match cal j ds s.st with
 | .ok d st=>.ok d (aft es s d st)
 | .exc c l st=>.exc c l (drp es s st)
 | .bad=>.bad
def vf (j:Nat) (ds:List D) (s:Sta):Out D:=if ba ds then (match cal j ds [] with
 | .ok d st=>if noR d then .ok d s else .ok (shD s.st.length d) ⟨s.env,s.ow,s.st ++ st.map (shO s.st.length)⟩
 | .exc c l _=>if ba l then .exc c l s else .bad
 | .bad=>.bad) else .bad
def nP:D→Bool
 | .ref _=>true | _=>false
def A5 (st:List O):D→Option D
 | .ref n=>(match st[n]? with | some (.lst l)=>if ba l then some (.lst l) else none | some (.dic k l)=>if ba l then some (.dic k l) else none | _=>none)
 | d=>if noR d then some d else none
def A7 (st:List O):List D→Option (List D)
 | []=>some []
 | d :: r=>(A5 st d).bind fun e=>(A7 st r).map (e :: ·)
def A6 (st:List O):D→Option D
 | .tup l=>(A7 st l).map .tup
 | d=>A5 st d
def ya (own:Bool) (j:Nat) (ds:List D) (s:Sta):Out D:=if ba ds then (match cal j ds [] with
 | .ok d st=>if own && !nP d then .bad else .of s (A6 st d)
 | .exc c l _=>if ba l then .exc c l s else .bad
 | .bad=>.bad) else .bad
mutual
noncomputable def ev (br:Bool):E→Sta→Out D
 | .v i,s=>(match s.env[i]? with | some (some d)=>.ok d (if br then s else un s i) | _=>.bad)
 | .c d,s=>.ok d s
 | .g j,s=>.of s (Γ.gl[j]?.map toD)
 | .op o a b,s=>(ev true a s).bind fun x s=>(ev true b s).bind fun y s=>.of s (opD o (look s.st x) (look s.st y))
 | .isN a,s=>(ev true a s).bind fun x s=>.ok (.bl (kt x)) s
 | .isNN a,s=>(ev true a s).bind fun x s=>.ok (.bl (!kt x)) s
 | .neg a,s=>(ev true a s).bind fun x s=>(match x with | .int i=>.ok (.int (-i)) s | _=>.bad)
 | .not a,s=>(ev true a s).bind fun x s=>(match x with | .bl b=>.ok (.bl (!b)) s | _=>.bad)
 | .and a b,s=>(ev false a s).bind fun x s=>(match x with | .bl true=>ev false b s | .bl false=>.ok (.bl false) s | _=>.bad)
 | .or a b,s=>(ev false a s).bind fun x s=>(match x with | .bl false=>ev false b s | .bl true=>.ok (.bl true) s | _=>.bad)
 | .ite c a b,s=>(ev true c s).bind fun x s=>(match x with | .bl true=>ev false a s | .bl false=>ev false b s | _=>.bad)
 | .chain o p a b c,s=>(ev true a s).bind fun x s=>(ev true b s).bind fun y s=>(match opD o (look s.st x) (look s.st y) with
   | some (.bl true)=>(ev true c s).bind fun z s=>.of s (opD p (look s.st y) (look s.st z))
   | some (.bl false)=>.ok (.bl false) s
   | _=>.bad)
 | .ix a b,s=>(ev true a s).bind fun x s=>(ev true b s).bind fun y s=>.of s (ixD (look s.st x) y)
 | .sl a lo hi,s=>(ev true a s).bind fun x s=>(if bB lo then .ok none s else (ev true lo s).bind toI).bind fun l s=>(if bB hi then .ok none s else (ev true hi s).bind toI).bind fun h s=>.of s (slO (look s.st x) l h)
 | .sl3 a lo st,s=>(ev true a s).bind fun x s=>(if bB lo then .ok none s else (ev true lo s).bind toI).bind fun l s=>(if bB st then .ok none s else (ev true st s).bind toI).bind fun z s=>.of s (qO (look s.st x) l z)
 | .tget j e d,s=>(ev true e s).bind fun x s=>(ev false d s).bind fun z s=>(match Γ.tb[j]?,x with | some t,.str k=>.ok (((ϱ k t).map toD).getD z) s | _,_=>.bad)
 | .newd j es,s=>(evs false es s).bind fun l s=>.of s ((Γ.cl[j]?).bind fun k=>if k.what=1∧l.length=k.at_.length then some (D.ins j l) else none)
 | .fld a f,s=>(ev true a s).bind fun x s=>.of s (lR Γ s.st x f)
 | .tup es,s=>(evs false es s).bind fun l s=>if l.length≤100000 then .ok (.tup l) s else .bad
 | .lst es,s=>(evs false es s).bind fun l s=>if l.length≤100000 then .ok (.lst l) s else .bad
 | .newl es,s=>(evs false es s).bind fun l s=>if l.length≤100000 then .ok (.ref s.st.length) ⟨s.env,s.ow,s.st ++ [.lst l]⟩ else .bad
 | .keep kp a,s=>(noX (ev false a (hid (kp.filter s.ow.contains) s))).bind fun d s'=>.ok d ⟨s.env,s'.ow ++ kp.filter s.ow.contains,s'.st⟩
 | .sto a,s=>(ev false a s).bind Ci
 | .fcall own j es,s=>(evs false es s).bind fun l s=>ya cal own j l s
 | .call j es,s=>(evs true es s).bind fun l s=>iq cal es j l s
 | .hcall j es,s=>(evs false es s).bind fun l s=>vf cal j l s
 | .mth c j a es,s=>(ev true a s).bind fun x s=>(match x with
   | .ref p=>(match s.st[p]? with
     | some (.ins c' _)=>if c'=c then (evs true es s).bind fun l s=>iq cal es j (x :: l) s else .bad
     | _=>.bad)
   | _=>.bad)
 | .bi b es,s=>(evs true es s).bind fun l s=>.of s (biD b (l.map (look s.st)))
 | .tab j e,s=>(ev true e s).bind fun x s=>(match Γ.tb[j]?,x with | some t,.str k=>.of s ((ϱ k t).map toD) | _,_=>.bad)
 | .tabin j e,s=>(ev true e s).bind fun x s=>(match Γ.tb[j]?,x with | some t,.str k=>.ok (.bl (ϱ k t).isSome) s | _,_=>.bad)
 | .lc t one it elt cond,s=>(ev false it s).bind fun x s=>(match x with
   | .lst ds=>(bw (fun d s'=>(match aN t one d s'.env with
     | some env=>(ev true cond ⟨env,[],s'.st⟩).bind fun b s2=>(match b with
       | .bl true=>(ev false elt s2).bind fun e s3=>.ok (some e) ⟨s3.env,[],s3.st⟩
       | .bl false=>.ok none ⟨s2.env,[],s2.st⟩
       | _=>.bad)
     | none=>.bad)) ds [] ⟨ξ t.length none ++ s.env,[],s.st⟩).back s.env
   | _=>.bad)
 | .tand a b,s=>(ev true a s).bind fun x s=>(match x with | .bl true=>ev true b s | .bl false=>.ok (.bl false) s | _=>.bad)
 | .tor a b,s=>(ev true a s).bind fun x s=>(match x with | .bl true=>.ok (.bl true) s | .bl false=>ev true b s | _=>.bad)
 | .tnot a,s=>(ev true a s).bind fun x s=>(match x with | .bl b=>.ok (.bl (!b)) s | _=>.bad)
 | .tv a,s=>(ev true a s).bind fun x s=>.of s ((wI (look s.st x)).map .bl)
 | .it b es,s=>(evs false es s).bind fun l s=>.of s ((itD b l).map .lst)
 | .itv a,s=>(ev false a s).bind fun x s=>.of s ((ly x).map .lst)
 | .dic es,s=>(evs false es s).bind fun l s=>.of s ((rm l).map fun p=>.dic p.1 p.2)
 | .get a b c,s=>(ev true a s).bind fun x s=>if isDic (look s.st x)=true then (ev true b s).bind fun y s=>(ev false c s).bind fun z s=>(match look s.st x,bE y with
   | .dic ks ds,some k=>.ok ((dG ks ds k).getD z) s
   | _,_=>.bad) else .bad
 | .index a b,s=>(ev true a s).bind fun x s=>if vg x=true then (ev true b s).bind fun y s=>.of s (Bl x y) else .bad
 | .join x a,s=>(ev true a s).bind fun y s=>.of s (rZ x (look s.st y))
 | .fmt x a y,s=>(ev true a s).bind fun v s=>.of s (A1 x v y)
 | .dicc ks es,s=>(evs false es s).bind fun l s=>.of s (ng ks l)
 | .isX a js,s=>(ev true a s).bind fun x s=>.of s (Bp Γ x js)
 | .isXv a,s=>(ev true a s).bind fun x s=>.of s (xe Γ x)
 | .snap i a,s=>(match s.env[i]? with
   | some (some (.ref n))=>(match s.st[n]? with
     | some (.lst l)=>if ba l=true then (noX (ev false a ⟨(bg s.env).set i (some (.lst l)),[],[]⟩)).bind fun d _=>if flX (au a) d=true then .ok d ⟨s.env,[],s.st⟩ else .bad else .bad
     | _=>.bad)
   | some (some _)=>ev false a s
   | _=>.bad)
 | .sm k a,s=>(ev true a s).bind fun x s=>.of s (smO k x)
 | .pop a,s=>(ev true a s).bind Dz
 | .new j es,s=>(evs true es s).bind fun l s=>(match Γ.cl[j]? with
   | some k=>if k.what=1 then (if l.length=k.at_.length then .ok (.ins j l) (drp es s s.st) else .bad)
     else if k.what=0 then (match cal1 k.init (.ref s.st.length :: l) (s.st ++ [.ins j []]) with
      | .ok .non st=>.ok (.ref s.st.length) (aft es s .non st)
      | _=>.bad)
     else .bad
   | none=>.bad)
 | _,_=>.bad
noncomputable def evs (br:Bool):E→Sta→Out (List D)
 | .nil,s=>.ok [] s
 | .cons a r,s=>(ev br a s).bind fun x s=>(evs br r s).bind fun l s=>.ok (x :: l) s
 | _,_=>.bad
end
end
end L2.Ev
namespace L2.Ev
def rX:D→Bool
 | .lst _=>true | .dic _ _=>true | _=>false
def hW (s:Sta) (i:Nat) (d:D) (f:Bool):Sta:=⟨s.env.set i (some d),if f && rX d then i :: s.ow.filter (· != i) else s.ow.filter (· != i),s.st⟩
def tV (l:List D) (i:Int) (d:D):Option (List D):=(ixN l.length i).map fun j=>l.set j d
def iB (o:O) (k d:D):Option O:=match o with
 | .lst l=>(match k with | .int i=>(tV l i d).map .lst | _=>none)
 | .dic ks ds=>(bE k).bind fun k=>if ks.length<100000 then some (.dic (dh ks ds k d).1 (dh ks ds k d).2) else none
 | _=>none
def kM (o:D) (k d:D):Option D:=match o with
 | .lst l=>(match k with | .int i=>(tV l i d).map .lst | _=>none)
 | .dic ks ds=>(bE k).bind fun k=>if ks.length<100000 then some (.dic (dh ks ds k d).1 (dh ks ds k d).2) else none
 | _=>none
def eI (Γ:Gm) (o:O) (f:Nat) (d:D):Option O:=match o with
 | .ins c l=>(Γ.cl[c]?).bind fun k=>if k.at_.length<1000 then (if k.at_.idxOf f<l.length then some (.ins c (l.set (k.at_.idxOf f) d)) else if k.at_.idxOf f=l.length∧k.at_.idxOf f<k.at_.length then some (.ins c (l ++ [d])) else none) else none
 | _=>none
def tX:Option D→Bool
 | some (.int n)=>decide (0≤n) && decide (n<100000)
 | _=>false
def i7:D→Bool
 | .str x=>decide ((Hc x).length≤10000)
 | .int n=>decide (0≤n) && decide (n<100000)
 | _=>false
def cY (Γ:Gm) (j:Nat) (l:List D):Bool:=match Γ.cl[j]? with
 | some k=>if k.at_.isEmpty then l.all i7 else l.length == k.at_.length && k.chk.all (fun i=>tX l[i]?) && decide (l.length≤1000) && !l.isEmpty
 | none=>false
def gC (Γ:Gm) (j:Nat) (l:List D):List D:=match Γ.cl[j]? with
 | some k=>if k.at_.isEmpty then [] else l
 | none=>l
def bv (f:D→Sta→am):List D→Sta→am
 | [],s=>.nx s
 | d :: r,s=>(f d s).go fun s=>bv f r s
def cL (c:Sta→Out D) (f:Sta→am):Nat→Sta→am
 | 0,_=>.bad
 | m+1,s=>(c s).go fun x s=>match x with | .bl true=>(f s).go fun s=>cL c f m s | .bl false=>.nx s | _=>.bad
def fS (st:List O):D→Bool
 | .ref n=>(match st[n]? with | some (.lst _)=>true | _=>false)
 | _=>false
def apO (x d:D) (s:Sta):am:=match x with
 | .ref n=>(match s.st[n]? with | some (.lst l)=>if l.length<100000 then .nx ⟨s.env,s.ow,s.st.set n (.lst (l ++ [d]))⟩ else .bad | _=>.bad)
 | _=>.bad
def exO (x d:D) (s:Sta):am:=match x with
 | .ref n=>(match s.st[n]?,d with | some (.lst l),.lst m=>if l.length+m.length≤100000 then .nx ⟨s.env,s.ow,s.st.set n (.lst (l ++ m))⟩ else .bad | _,_=>.bad)
 | _=>.bad
def cZ (Γ:Gm) (j c:Nat):Option Bool:=(Γ.cl[c]?).map fun k=>c == j || k.sup.contains j
section
variable (Γ:Gm) (cal cal1:Nat→List D→List O→Res)
def exS:S→Sta→am
 | .skip,s=>.nx s
 | .seq a b,s=>(exS a s).go fun s=>exS b s
 | .set i e,s=>(ev Γ cal cal1 false e s).go fun d s=>.nx (hW s i d (au e))
 | .setT l e,s=>(ev Γ cal cal1 false e s).go fun d s=>(match aN l false d s.env with | some env=>.nx ⟨env,s.ow.filter fun i=>!l.contains i,s.st⟩ | none=>.bad)
 | .setR i es,s=>(evs Γ cal cal1 false es s).go fun l s=>if l.length≤100000 then .nx ⟨s.env.set i (some (.ref s.st.length)),s.ow.filter (· != i),s.st ++ [.lst l]⟩ else .bad
 | .ret e,s=>(ev Γ cal cal1 false e s).go fun d s=>.rt d s
 | .ifs c a b,s=>(ev Γ cal cal1 true c s).go fun x s=>(match x with | .bl true=>exS a s | .bl false=>exS b s | _=>.bad)
 | .drop e,s=>(ev Γ cal cal1 false e s).go fun _ s=>.nx s
 | .app i e,s=>if s.ow.contains i && isLst s.env[i]? then (ev Γ cal cal1 false e s).go fun d s=>if s.ow.contains i then (match s.env[i]? with
  | some (some (.lst l))=>if l.length<100000 then .nx ⟨s.env.set i (some (.lst (l ++ [d]))),s.ow,s.st⟩ else .bad
  | _=>.bad) else .bad else .bad
 | .ext i e,s=>if s.ow.contains i && isLst s.env[i]? then (ev Γ cal cal1 false e s).go fun d s=>if s.ow.contains i then (match s.env[i]?,d with
  | some (some (.lst l)),.lst x=>if l.length+x.length≤100000 then .nx ⟨s.env.set i (some (.lst (l ++ x))),s.ow,s.st⟩ else .bad
  | _,_=>.bad) else .bad else .bad
 | .put (.v i) b e,s=>(ev Γ cal cal1 false e s).go fun d s=>(match s.env[i]? with
  | some (some x)=>(ev Γ cal cal1 true b s).go fun k s=>(match x with
    | .ref n=>(match (s.st[n]?).bind fun o=>iB o k d with | some o=>.nx ⟨s.env,s.ow,s.st.set n o⟩ | none=>.bad)
    | x=>if s.ow.contains i then (match kM x k d with | some y=>.nx ⟨s.env.set i (some y),s.ow,s.st⟩ | none=>.bad) else .bad)
  | _=>.bad)
 | .put a b e,s=>(ev Γ cal cal1 false e s).go fun d s=>(ev Γ cal cal1 true a s).go fun x s=>(ev Γ cal cal1 true b s).go fun k s=>(match x with
  | .ref n=>(match (s.st[n]?).bind fun o=>iB o k d with | some o=>.nx ⟨s.env,s.ow,s.st.set n o⟩ | none=>.bad)
  | _=>.bad)
 | .fld a f e,s=>(match e with
  | .lst .nil=>(ev Γ cal cal1 true a s).go fun x s=>(match x with
    | .ref n=>(match (s.st[n]?).bind fun o=>eI Γ o f (.ref s.st.length) with | some o=>.nx ⟨s.env,s.ow,(s.st ++ [O.lst []]).set n o⟩ | none=>.bad)
    | _=>.bad)
  | .dic .nil=>(ev Γ cal cal1 true a s).go fun x s=>(match x with
    | .ref n=>(match (s.st[n]?).bind fun o=>eI Γ o f (.ref s.st.length) with | some o=>.nx ⟨s.env,s.ow,(s.st ++ [O.dic [] []]).set n o⟩ | none=>.bad)
    | _=>.bad)
  | e=>(ev Γ cal cal1 false e s).go fun d s=>(ev Γ cal cal1 true a s).go fun x s=>(match x with
    | .ref n=>(match (s.st[n]?).bind fun o=>eI Γ o f d with | some o=>.nx ⟨s.env,s.ow,s.st.set n o⟩ | none=>.bad)
    | _=>.bad))
 | .aug a f o e,s=>(ev Γ cal cal1 true a s).go fun x s=>(match x with
  | .ref n=>(match lR Γ s.st x f with
    | some (.int i)=>(ev Γ cal cal1 false e s).go fun d s=>(match d with
      | .int j=>(match opI o i j,s.st[n]? with
        | some y,some ob=>(match eI Γ ob f y with | some ob=>.nx ⟨s.env,s.ow,s.st.set n ob⟩ | none=>.bad)
        | _,_=>.bad)
      | _=>.bad)
    | _=>.bad)
  | _=>.bad)
 | .fapp a f e,s=>(ev Γ cal cal1 true a s).go fun x s=>if fS s.st x=true then (ev Γ cal cal1 false e s).go fun d s=>apO x d s else .bad
 | .fext a e,s=>(ev Γ cal cal1 true a s).go fun x s=>if fS s.st x=true then (ev Γ cal cal1 false e s).go fun d s=>exO x d s else .bad
 | .for_ t one it b,s=>(ev Γ cal cal1 false it s).go fun x s=>(match x with
  | .lst ds=>bv (fun d s=>match aN t one d s.env with | some env=>exS b ⟨env,s.ow.filter fun i=>!t.contains i,s.st⟩ | none=>.bad) ds s
  | _=>.bad)
 | .whl c b,s=>cL (ev Γ cal cal1 true c) (exS b) 100000 s
 | .rais j es,s=>(evs Γ cal cal1 false es s).go fun l s=>if cY Γ j l then .exc j (gC Γ j l) s else .bad
 | .try_ a hs,s=>(match exS a s with
  | .exc c l s'=>hnd hs c l s'
  | r=>r)
 | _,_=>.bad
where hnd:S→Nat→List D→Sta→am
 | .hand j (some i) b r,c,l,s=>(match cZ Γ j c with
  | some true=>(match exS b ⟨s.env.set i (some (.ins c l)),s.ow.filter (· != i),s.st⟩ with
    | .nx s=>.nx ⟨s.env.set i none,s.ow.filter (· != i),s.st⟩
    | .rt d s=>.rt d s
    | _=>.bad)
  | some false=>hnd r c l s
  | none=>.bad)
 | .hand j none b r,c,l,s=>(match cZ Γ j c with
  | some true=>(match exS b s with | .nx s=>.nx s | .rt d s=>.rt d s | _=>.bad)
  | some false=>hnd r c l s
  | none=>.bad)
 | .skip,c,l,s=>.exc c l s
 | _,_,_,_=>.bad
end
def kX (Γ:Gm) (cal cal1:Nat→List D→List O→Res) (j:Nat) (ds:List D) (st:List O):Res:=match Γ.fn[j]? with
 | some f=>if (ds ++ f.df).length=f.np then (match exS Γ cal cal1 f.body ⟨(ds ++ f.df).map some ++ ξ (f.ns - f.np) none,[],st⟩ with
   | .nx s=>.ok .non s.st
   | .rt d s=>.ok d s.st
   | .exc c l s=>.exc c l s.st
   | .bad=>.bad) else .bad
 | none=>.bad
def ra (Γ:Gm):Nat→(Nat→List D→List O→Res)×(Nat→List D→List O→Res)
 | 0=>(fun _ _ _=>.bad,fun _ _ _=>.bad)
 | n+1=>(kX Γ (ra Γ n).1 (ra Γ n).2,(ra Γ n).1)
def ai (Γ:Gm) (n:Nat):Nat→List D→List O→Res:=(ra Γ n).1
def aA (Γ:Gm) (n:Nat):Nat→List D→List O→Res:=(ra Γ n).2
structure CI where
 ad:φ
 nm:List θ
structure Wd where
 P:Ä
 w:à
 ci:List CI
 what:List Nat
abbrev Hp:=φ→Option Gp
abbrev Rs:=List (φ×φ)
def TpO (o:Gp) (l:List η):Prop:=o.cls = .type "tuple"∧(∃ n,o.data = .seq l.toArray n)∧l.length≤ϝ∧o.dict=none
def LsO (o:Gp) (l:List η):Prop:=(∃ n,o={ cls:=.type "list",data:=.seq l.toArray n })∧l.length≤ϝ
def DcO (W:Wd) (o:Gp) (l:List (Key×η)):Prop:=∃ es ep,o.ExactDict∧o.data = .dict es ep∧KeysOf (aS W.P W.w) es∧Pairs (aS W.P W.w) es.toList l∧(l.map (·.1)).Nodup∧l.length≤ϝ
def NsO (o:Gp) (l:List (θ×η)):Prop:=∃ es ep,o.data = .dict es ep∧StrKeys es∧UniqKeys es∧∀ n,nsFind es n=l.lookup n
def InO (h:Hp) (a dx C:φ) (l:List (θ×η)):Prop:=h a=some (Ë C dx)∧dx≠a∧l.length≤1000∧∃ o,h dx=some o∧NsO o l
def ExO (h:Hp) (a C:φ) (l:List (θ×η)):Prop:=∃ o vs,h a=some o∧o.cls = .ref C∧o.data = .fields vs∧((l = []∧o.dict=none)∨∃ d od,o.dict=some d∧h d=some od∧NsO od l)
inductive Ra (G:Hp) (T:Gp→List η→Prop) (Q:List η→Prop) (v:η):Prop
 | mk (a:φ) (o:Gp) (vs:List η) (_:v = .ref a) (_:G a=some o) (_:T o vs) (_:Q vs)
inductive Rb (W:Wd) (G:Hp) (ks:List Key) (n:Nat) (Q:List η→Prop) (v:η):Prop
 | mk (a:φ) (o:Gp) (vs:List η) (_:v = .ref a) (_:(a == Hy)=false) (_:G a=some o) (_:DcO W o (ks.zip vs)) (_:ks.length=n) (_:Q vs)
inductive Ri (W:Wd) (G:Hp) (c n:Nat) (Q:List η→Prop) (v:η):Prop
 | mk (a:φ) (i:CI) (vs:List η) (_:v = .ref a) (_:W.ci[c]? = some i) (_:n≤i.nm.length) (_:(W.what[c]? = some 1∧∃ dx,InO G a dx i.ad (i.nm.zip vs))∨(W.what[c]? = some 2∧ExO G a i.ad (i.nm.zip vs))) (_:Q vs)
inductive Rc (P:η→Prop) (Q:List η→Prop) (vs:List η):Prop
 | mk (v:η) (r:List η) (_:vs=v :: r) (_:P v) (_:Q r)
mutual
noncomputable def RD (W:Wd) (ρ:Rs) (G:Hp):D→η→Prop
 | .non,v=>v = .none
 | .bl b,v=>v = .bool b
 | .int i,v=>∃ t,v = .int i t
 | .str x,v=>∃ t,v = .str x t
 | .tup ds,v=>Ra G TpO (RDs W ρ G ds) v
 | .lst ds,v=>Ra G LsO (RDs W ρ G ds) v
 | .dic ks ds,v=>Rb W G ks ds.length (RDs W ρ G ds) v
 | .ins c ds,v=>Ri W G c ds.length (RDs W ρ G ds) v
 | .ref n,v=>∃ p,ρ[n]? = some p∧v = .ref p.1
noncomputable def RDs (W:Wd) (ρ:Rs) (G:Hp):List D→List η→Prop
 | [],vs=>vs = []
 | d :: ds,vs=>Rc (RD W ρ G d) (RDs W ρ G ds) vs
end
def Sub (G H:Hp):Prop:=∀ a o,G a=some o→H a=some o
theorem Sub.refl (G):Sub G G:=fun _ _ e=>e
theorem Sub.trans (h:Sub G H) (i:Sub H I):Sub G I:=fun a o e=>i a o (h a o e)
section
variable {W:Wd} {ρ ρ':Rs} {G G' H H':Hp}
theorem eD (h:ρ <+: ρ') {n:Nat} (e:ρ[n]? = some a):ρ'[n]? = some a:=by
 obtain ⟨t,rfl⟩:=h
 rw [ϓ (κ.mp e).1];exact e
theorem InO.sub (h:Sub G G'):InO G a dx C l→InO G' a dx C l:=fun ⟨x,n,z,o,e,r⟩=>⟨h _ _ x,n,z,o,h _ _ e,r⟩
theorem ExO.sub (h:Sub G G'):ExO G a C l→ExO G' a C l:=fun ⟨o,vs,e,c,d,r⟩=>⟨o,vs,h _ _ e,c,d,r.elim .inl fun ⟨d,od,q,e,r⟩=>.inr ⟨d,od,q,h _ _ e,r⟩⟩
mutual
theorem RD.mono (hp:ρ <+: ρ') (h:Sub G G'):∀ {d:D} {v},RD W ρ G d v→RD W ρ' G' d v
 | .non,_,e=>e
 | .bl _,_,e=>e
 | .int _,_,e=>e
 | .str _,_,e=>e
 | .tup _,_,⟨a,o,vs,e,t,q,r⟩=>⟨a,o,vs,e,h _ _ t,q,RDs.mono hp h r⟩
 | .lst _,_,⟨a,o,vs,e,t,q,r⟩=>⟨a,o,vs,e,h _ _ t,q,RDs.mono hp h r⟩
 | .dic _ _,_,⟨a,o,vs,e,m,t,q,l,r⟩=>⟨a,o,vs,e,m,h _ _ t,q,l,RDs.mono hp h r⟩
 | .ins _ _,_,⟨a,i,vs,e,hc,l,t,r⟩=>⟨a,i,vs,e,hc,l,t.elim (fun ⟨w,dx,q⟩=>.inl ⟨w,dx,q.sub h⟩) (fun ⟨w,q⟩=>.inr ⟨w,q.sub h⟩),RDs.mono hp h r⟩
 | .ref _,_,⟨a,e,q⟩=>⟨a,eD hp e,q⟩
theorem RDs.mono (hp:ρ <+: ρ') (h:Sub G G'):∀ {ds} {vs},RDs W ρ G ds vs→RDs W ρ' G' ds vs
 | [],_,e=>e
 | _ :: _,_,⟨v,r,e,t,q⟩=>⟨v,r,e,RD.mono hp h t,RDs.mono hp h q⟩
end
theorem RDs.cons (h:RD W ρ G d v) (t:RDs W ρ G ds vs):RDs W ρ G (d :: ds) (v :: vs):=⟨v,vs,rfl,h,t⟩
theorem jM:∀ {ds vs},RDs W ρ G ds vs↔Paired (RD W ρ G) ds vs
 | [],vs=>⟨fun h=>by cases (show vs = [] from h);exact .nil,fun h=>by cases h;exact rfl⟩
 | d :: ds,vs=>⟨fun ⟨v,r,e,h,t⟩=>e ▸ .cons h (jM.mp t),fun h=>by cases h with | cons h t=>exact .cons h (jM.mpr t)⟩
theorem RDs.len (h:RDs W ρ G ds vs):ds.length=vs.length:=(jM.mp h).length
theorem RDs.get:∀ {ds} {vs} {i:Nat} {d:D},RDs W ρ G ds vs→ds[i]? = some d→∃ v,vs[i]? = some v∧RD W ρ G d v
 | [],_,_,_,_,e=>by simp at e
 | d :: ds,vs,0,d',⟨v,r,e,h,_⟩,e'=>by subst e;simp at e';subst e';exact ⟨v,rfl,h⟩
 | d :: ds,vs,i+1,d',⟨v,r,e,_,t⟩,e'=>by
   subst e
   obtain ⟨u,h1,h2⟩:=RDs.get (i:=i) t (by simpa using e')
   exact ⟨u,by simpa using h1,h2⟩
theorem RDs.app:∀ {ds es} {vs us},RDs W ρ G ds vs→RDs W ρ G es us→RDs W ρ G (ds ++ es) (vs ++ us)
 | [],_,vs,_,h,t=>by cases (show vs = [] from h);exact t
 | d :: ds,es,vs,us,⟨v,r,e,h,t'⟩,t=>by subst e;exact .cons h (RDs.app t' t)
theorem RDs.drop:∀ {ds} {vs} (n),RDs W ρ G ds vs→RDs W ρ G (ds.drop n) (vs.drop n)
 | _,_,0,h=>h
 | [],vs,n+1,h=>by cases (show vs = [] from h);exact rfl
 | d :: ds,vs,n+1,⟨v,r,e,h,t⟩=>by subst e;exact RDs.drop n t
theorem RDs.take:∀ {ds} {vs} (n),RDs W ρ G ds vs→RDs W ρ G (ds.take n) (vs.take n)
 | _,_,0,_=>rfl
 | [],vs,n+1,h=>by cases (show vs = [] from h);exact rfl
 | d :: ds,vs,n+1,⟨v,r,e,h,t⟩=>by subst e;exact .cons h (RDs.take n t)
theorem RDs.set:∀ {ds} {vs} (n) {d} {v},RDs W ρ G ds vs→RD W ρ G d v→RDs W ρ G (ds.set n d) (vs.set n v)
 | [],vs,_,_,_,h,_=>by cases (show vs = [] from h);exact rfl
 | d :: ds,vs,0,_,_,⟨v,r,e,h,t⟩,q=>by subst e;exact .cons q t
 | d :: ds,vs,n+1,_,_,⟨v,r,e,h,t⟩,q=>by subst e;exact .cons h (RDs.set n t q)
theorem RDs.rev:∀ {ds} {vs},RDs W ρ G ds vs→RDs W ρ G ds.reverse vs.reverse
 | [],vs,h=>by cases (show vs = [] from h);exact rfl
 | d :: ds,vs,⟨v,r,e,h,t⟩=>by subst e;rw [GL,GL];exact (RDs.rev t).app (.cons h rfl)
end
inductive Oa (h:Hp) (p:φ×φ) (Q:List η→Prop):Prop
 | mk (o:Gp) (vs:List η) (_:p.2=p.1) (_:h p.1=some o) (_:LsO o vs) (_:Q vs)
inductive Ob (W:Wd) (h:Hp) (p:φ×φ) (ks:List Key) (n:Nat) (Q:List η→Prop):Prop
 | mk (o:Gp) (vs:List η) (_:p.2=p.1) (_:(p.1 == Hy)=false) (_:h p.1=some o) (_:DcO W o (ks.zip vs)) (_:ks.length=n) (_:Q vs)
inductive Oi (W:Wd) (h:Hp) (p:φ×φ) (c n:Nat) (Q:List η→Prop):Prop
 | mk (i:CI) (vs:List η) (_:W.ci[c]? = some i) (_:W.what[c]? = some 0) (_:n≤i.nm.length) (_:InO h p.1 p.2 i.ad (i.nm.zip vs)) (_:Q vs)
def ObR (W:Wd) (ρ:Rs) (G h:Hp) (p:φ×φ):O→Prop
 | .lst ds=>Oa h p (RDs W ρ G ds)
 | .dic ks ds=>Ob W h p ks ds.length (RDs W ρ G ds)
 | .ins c ds=>Oi W h p c ds.length (RDs W ρ G ds)
theorem ObR.mono (hp:ρ <+: ρ') (g:Sub G G') (k:∀ a,a=p.1∨a=p.2→∀ o,h a=some o→h' a=some o):∀ {o},ObR W ρ G h p o→ObR W ρ' G' h' p o
 | .lst _,⟨o,vs,z,e,q,r⟩=>⟨o,vs,z,k _ (.inl rfl) _ e,q,r.mono hp g⟩
 | .dic _ _,⟨o,vs,z,m,e,q,l,r⟩=>⟨o,vs,z,m,k _ (.inl rfl) _ e,q,l,r.mono hp g⟩
 | .ins _ _,⟨i,vs,c,w,l,⟨e,n,z,o,e2,q⟩,r⟩=>⟨i,vs,c,w,l,⟨k _ (.inl rfl) _ e,n,z,o,k _ (.inr rfl) _ e2,q⟩,r.mono hp g⟩
theorem ObR.th:∀ {o},ObR W ρ G h p o→(∃ o,h p.1=some o)∧∃ o,h p.2=some o
 | .lst _,⟨o,vs,z,e,_,_⟩=>⟨⟨o,e⟩,z ▸ ⟨o,e⟩⟩
 | .dic _ _,⟨o,vs,z,m,e,_,_,_⟩=>⟨⟨o,e⟩,z ▸ ⟨o,e⟩⟩
 | .ins _ _,⟨i,vs,c,w,l,⟨e,n,z,o,e2,q⟩,r⟩=>⟨⟨_,e⟩,⟨_,e2⟩⟩
def toO:D→Option O
 | .lst l=>some (.lst l)
 | .dic k l=>some (.dic k l)
 | _=>none
structure Cx where
 W:Wd
 K:ο
 mg:θ→Option η
 base:ϻ
 os:GH
 Γ:Gm
 cal:Nat→List D→List O→Res
 cal1:Nat→List D→List O→Res
 A:ϙ
 fr:List ż
 N:List θ
 env:ż
 calm:Bool
 tz:Nat:=0
abbrev Cx.ev (X:Cx) (br:Bool) (e:E):Sta→Out D:=Ev.ev X.Γ X.cal X.cal1 br e
abbrev Cx.evs (X:Cx) (br:Bool) (e:E):Sta→Out (List D):=Ev.evs X.Γ X.cal X.cal1 br e
abbrev Cx.ex (X:Cx) (c:S):Sta→am:=Ev.exS X.Γ X.cal X.cal1 c
abbrev Cx.M (X:Cx):Fe:=model X.W.P X.W.w
structure Z where
 ρ:Rs
 G:Hp
 t:Sta
 σ:List (Option η)
 s:ς
abbrev Z.h (z:Z):Hp:=z.s.heap.get?
def Mu (ρ:Rs) (a:φ):Prop:=∃ p∈ρ,a=p.1∨a=p.2
def Own (z:Z) (a:φ):Prop:=∃ i∈z.t.ow,z.σ[i]? = some (some (.ref a))
def Lc (X:Cx) (a:φ):Prop:=a=X.env.locals∨∃ x,X.env.cells.lookup x=some a
structure HR (X:Cx) (z:Z):Prop where
 md:Mod X.K X.mg X.base
 fm:X.A.frames=some X.fr
 hd:X.calm=true→X.A.handled=none
 bs:∀ b o,X.base.get? b=some o→z.G b=some o
 gh:Sub z.G z.h
 rl:z.ρ.length=z.t.st.length
 rn:∀ (i j:Nat) (p q:φ×φ) (a:φ),z.ρ[i]? = some p→z.ρ[j]? = some q→(a=p.1∨a=p.2)→(a=q.1∨a=q.2)→i=j
 rg:∀ a,Mu z.ρ a→z.G a=none
 ob:∀ (n:Nat) (o:O) (p:φ×φ),z.t.st[n]? = some o→z.ρ[n]? = some p→ObR X.W z.ρ z.G z.h p o
 fu:z.s.heap.FunFrames X.base X.fr
 ff:∀ b∈frs X.fr,z.G b=none∧¬ Mu z.ρ b
 br:œ z.s.gens
 os:z.s.os=X.os
 tk:X.tz≤z.s.toks
structure COk (X:Cx):Prop where
 un:X.A.units+200<š
 kd:X.env.scope.kind = .function
 gl:X.env.globals=ϊ
 bl:X.env.builtins=builtinsNs
 ci:∀ x y c,X.env.cells.lookup x=some c→X.env.cells.lookup y=some c→x=y
 ch:∀ x,(X.env.kindOf x=some .cell∨X.env.kindOf x=some .free)→∃ c,X.env.cells.lookup x=some c
def Fre (X:Cx) (z:Z) (a:φ):Prop:=z.G a=none∧¬ Mu z.ρ a∧a ∉ frs X.fr∧¬ Lc X a
structure Rep (X:Cx) (z:Z):Prop extends HR X z where
 ok:COk X
 lo:∃ m,z.s.heap.Ns X.env.locals m∧∀ (i:Nat) (x:θ) (u:η),X.N[i]? = some x→z.σ[i]? = some (some u)→Vis X.env.scope x→lE X.env z.s.heap m x u
 ce:∀ x c,X.env.cells.lookup x=some c→∃ v,z.s.heap.IsCell c v
 fl:∀ a,Lc X a→z.G a=none∧¬ Mu z.ρ a
 el:z.t.env.length=z.σ.length
 sl:z.σ.length=X.N.length
 en:∀ (i:Nat) (d:D),i ∉ z.t.ow→z.t.env[i]? = some (some d)→∃ u,z.σ[i]? = some (some u)∧RD X.W z.ρ z.G d u
 eo:∀ (i:Nat),i∈z.t.ow→∃ d a o,z.t.env[i]? = some (some d)∧z.σ[i]? = some (some (.ref a))∧toO d=some o∧ObR X.W z.ρ z.G z.h (a,a) o∧Fre X z a
 od:∀ (i j:Nat) (a:φ),i∈z.t.ow→j∈z.t.ow→z.σ[i]? = some (some (.ref a))→z.σ[j]? = some (some (.ref a))→i=j
structure Stp (fr:List ż) (w:φ→Prop) (z z':Z):Prop where
 pr:z.ρ <+: z'.ρ
 gg:Sub z.G z'.G
 gn:∀ a o,z'.G a=some o→z.G a=some o∨z.h a=none∨w a
 rn:∀ a,Mu z'.ρ a→Mu z.ρ a∨z.h a=none
 th:∀ a o,z.h a=some o→∃ o',z'.h a=some o'
 sm:∀ a o,z.h a=some o→¬ Mu z.ρ a→¬ w a→a ∉ frs fr→z'.h a=some o
 sl:∀ a o,z.h a=some o→¬ Mu z.ρ a→¬ w a→a∈frs fr→∃ sl,z'.h a=some { o with slots:=sl }
theorem Stp.no (x:Stp fr w z z') (e:z'.h a=none):z.h a=none:=by
 cases q:z.h a with
 | none=>rfl
 | some o=>obtain ⟨o',e'⟩:=x.th a o q;rw [e] at e';cases e'
theorem Stp.refl:Stp fr w z z:=⟨μ _,.refl _,fun _ _ e=>.inl e,fun _ h=>.inl h,fun _ o e=>⟨o,e⟩,fun _ _ e _ _ _=>e,fun _ o e _ _ _=>⟨o.slots,e⟩⟩
theorem Stp.trans (x:Stp fr w z z1) (y:Stp fr w1 z1 z2) (k:∀ a,w1 a→w a∨z.h a=none):Stp fr w z z2:=by
 have nm:∀ a o,z.h a=some o→¬ Mu z.ρ a→¬ Mu z1.ρ a:=fun a o e n m=>(x.rn a m).elim n fun q=>by rw [q] at e;cases e
 have nw:∀ a o,z.h a=some o→¬ w a→¬ w1 a:=fun a o e n m=>(k a m).elim n fun q=>by rw [q] at e;cases e
 refine ⟨x.pr.trans y.pr,x.gg.trans y.gg,fun a o e=>?_,fun a m=>?_,fun a o e=>?_,fun a o e n m f=>y.sm a o (x.sm a o e n m f) (nm a o e n) (nw a o e m) f,fun a o e n m f=>?_⟩
 ·rcases y.gn a o e with q | q | q
  ·exact x.gn a o q
  ·exact .inr (.inl (x.no q))
  ·exact .inr ((k a q).symm)
 ·rcases y.rn a m with q | q
  ·exact x.rn a q
  ·exact .inr (x.no q)
 ·obtain ⟨o1,e1⟩:=x.th a o e;exact y.th a o1 e1
 ·obtain ⟨sl,e1⟩:=x.sl a o e n m f
  obtain ⟨sl2,e2⟩:=y.sl a _ e1 (nm a o e n) (nw a o e m) f
  exact ⟨sl2,e2⟩
theorem Stp.mono (x:Stp fr w z z') (k:∀ a,w a→w' a):Stp fr w' z z':=⟨x.pr,x.gg,fun a o e=>(x.gn a o e).imp_right (·.imp_right (k a)),x.rn,x.th,fun a o e n m=>x.sm a o e n fun q=>m (k a q),fun a o e n m=>x.sl a o e n fun q=>m (k a q)⟩
structure Ee (X:Cx) (z z':Z):Prop where
 st:Stp X.fr (Own z) z z'
 sg:z'.σ=z.σ
 en:z'.t.env=z.t.env
 ow:∀ i∈z'.t.ow,i∈z.t.ow
theorem Ee.refl:Ee X z z:=⟨.refl,rfl,rfl,fun _ h=>h⟩
theorem Ee.own (x:Ee X z z'):Own z' a→Own z a:=fun ⟨i,m,e⟩=>⟨i,x.ow i m,x.sg ▸ e⟩
theorem Ee.trans (x:Ee X z z1) (y:Ee X z1 z2):Ee X z z2:=⟨x.st.trans y.st fun _ o=>.inl (x.own o),y.sg.trans x.sg,y.en.trans x.en,fun i m=>x.ow i (y.ow i m)⟩
def Pv (X:Cx) (z:Z) (a:φ):Prop:=Own z a∨Lc X a
structure Go (X:Cx) (z z':Z):Prop where
 st:Stp X.fr (Pv X z) z z'
 ow:∀ a,Own z' a→Own z a∨z.h a=none
theorem Go.refl:Go X z z:=⟨.refl,fun _ o=>.inl o⟩
theorem Go.trans (x:Go X z z1) (y:Go X z1 z2):Go X z z2:=by
 refine ⟨x.st.trans y.st fun a o=>o.elim (fun q=>(x.ow a q).imp_left .inl) fun q=>.inl (.inr q),fun a o=>?_⟩
 rcases y.ow a o with q | q
 ·exact x.ow a q
 ·exact .inr (x.st.no q)
theorem Ee.go (x:Ee X z z'):Go X z z':=⟨x.st.mono fun _=>.inl,fun _ o=>.inl (x.own o)⟩
def RB (W:Wd) (z:Z) (d:D) (u:η):Prop:=RD W z.ρ z.G d u∨∃ i∈z.t.ow,z.σ[i]? = some (some u)∧z.t.env[i]? = some (some d)
def RV (W:Wd) (br:Bool) (c:E) (z:Z) (d:D) (u:η):Prop:=RD W z.ρ z.G d u∨(br=true∧∃ i,c = .v i∧i∈z.t.ow∧z.σ[i]? = some (some u)∧z.t.env[i]? = some (some d))
theorem RV.of (h:RD W z.ρ z.G d u):RV W br c z d u:=.inl h
theorem RV.rd (h:RV W false c z d u):RD W z.ρ z.G d u:=h.elim id fun ⟨z,_⟩=>nomatch z
theorem RV.rb (h:RV W br c z d u):RB W z d u:=h.elim .inl fun ⟨_,i,_,m,e⟩=>.inr ⟨i,m,e⟩
theorem RD.st (h:RD W z.ρ z.G d u) (x:Stp fr w z z'):RD W z'.ρ z'.G d u:=h.mono x.pr x.gg
theorem RV.st (h:RV X.W br c z d u) (x:Ee X z z') (I:Rep X z'):RV X.W br c z' d u:=by
 rcases h with h | ⟨b,i,hc,m,e1,e2⟩
 ·exact .inl (h.st x.st)
 ·by_cases q:i∈z'.t.ow
  ·exact .inr ⟨b,i,hc,q,x.sg ▸ e1,x.en ▸ e2⟩
  ·obtain ⟨u',e3,r⟩:=I.en i d q (x.en ▸ e2)
   rw [x.sg,e1] at e3;cases e3
   exact .inl r
theorem RB.st (h:RB X.W z d u) (x:Ee X z z') (I:Rep X z'):RB X.W z' d u:=by
 rcases h with h | ⟨i,m,e1,e2⟩
 ·exact .inl (h.st x.st)
 ·by_cases q:i∈z'.t.ow
  ·exact .inr ⟨i,q,x.sg ▸ e1,x.en ▸ e2⟩
  ·obtain ⟨u',e3,r⟩:=I.en i d q (x.en ▸ e2)
   rw [x.sg,e1] at e3;cases e3
   exact .inl r
def CR (W:Wd) (z:Z):D→η→Prop
 | .lst ds,v=>Ra z.h LsO (RDs W z.ρ z.G ds) v
 | .dic ks ds,v=>Rb W z.h ks ds.length (RDs W z.ρ z.G ds) v
 | d,v=>RD W z.ρ z.G d v
theorem CR.of (I:HR X z):∀ {d},RD X.W z.ρ z.G d u→CR X.W z d u
 | .non,h=>h
 | .bl _,h=>h
 | .int _,h=>h
 | .str _,h=>h
 | .ref _,h=>h
 | .ins _ _,h=>h
 | .tup _,h=>h
 | .lst _,⟨a,o,vs,e,g,q,r⟩=>⟨a,o,vs,e,I.gh _ _ g,q,r⟩
 | .dic _ _,⟨a,o,vs,e,m,g,q,l,r⟩=>⟨a,o,vs,e,m,I.gh _ _ g,q,l,r⟩
theorem CR.ob {d:D} (e:toO d=some o) (h:ObR W z.ρ z.G z.h (a,b) o):CR W z d (.ref a):=by
 cases d <;> cases e
 ·obtain ⟨o,vs,_,e,l,r⟩:=h;exact ⟨a,o,vs,rfl,e,l,r⟩
 ·obtain ⟨o,vs,_,m,e,l,n,r⟩:=h;exact ⟨a,o,vs,rfl,m,e,l,n,r⟩
theorem RB.cr0 (I:Rep X z) (h:RB X.W z d u):CR X.W z d u:=by
 rcases h with h | ⟨i,m,e1,e2⟩
 ·exact .of I.toHR h
 ·obtain ⟨d',a,o,e3,e4,e5,r,_⟩:=I.eo i m
  rw [e1] at e4;cases e4
  rw [e2] at e3;cases e3
  exact .ob e5 r
theorem RB.cr (I:Rep X z) (h:RB X.W z d u):CR X.W z (look z.t.st d) u:=by
 have c:=h.cr0 I
 cases d with
 | ref n=>
   obtain ⟨p,e,rfl⟩:=(show RD X.W z.ρ z.G (.ref n) u from c)
   show CR X.W z (match z.t.st[n]? with | some (.lst l)=>.lst l | some (.dic k l)=>.dic k l | _=>.ref n) _
   cases q:z.t.st[n]? with
   | none=>exact c
   | some o=>
     have r:=I.ob n o p q e
     cases o with
     | lst l=>exact .ob (d:=.lst l) rfl r
     | dic k l=>exact .ob (d:=.dic k l) rfl r
     | ins _ _=>exact c
 | _=>exact c
structure Gr (s s':ς):Prop where
 os:s'.os=s.os
 gs:s'.gens=s.gens
 k:∀ b o,s.heap.get? b=some o→s'.heap.get? b=some o
theorem Gr.refl:Gr s s:=⟨rfl,rfl,fun _ _ e=>e⟩
theorem Gr.trans (x:Gr s s1) (y:Gr s1 s2):Gr s s2:=⟨y.os.trans x.os,y.gs.trans x.gs,fun b o e=>y.k b o (x.k b o e)⟩
theorem Gr.tok {s:ς} {t:Nat}:Gr s { s with toks:=t }:=⟨rfl,rfl,fun _ _ e=>e⟩
theorem Gr.hp {s:ς} {h:ϻ} {t:Nat} (k:∀ b o,s.heap.get? b=some o→h.get? b=some o):Gr s { s with heap:=h,toks:=t }:=⟨rfl,rfl,k⟩
theorem Gr.push {s:ς} {o:Gp} {t:Nat}:Gr s { s with heap:=s.heap.push o,toks:=t }:=.hp fun _ _ e=>Ζ _ e
structure Grw (z:Z) (G':Hp) (s':ς):Prop where
 gr:Gr z.s s'
 gg:Sub z.G G'
 gh:Sub G' s'.heap.get?
 gn:∀ a o,G' a=some o→z.G a=some o∨z.h a=none
theorem nfu {h h':ϻ} (x:h.FunFrames base l) (k:∀ b o,h.get? b=some o→h'.get? b=some o):h'.FunFrames base l:=x.of_keeps fun b o e _=>⟨o,k b o e,rfl⟩
theorem HR.th (I:HR X z) (m:Mu z.ρ a):∃ o,z.h a=some o:=by
 obtain ⟨p,hp,e⟩:=m
 obtain ⟨n,hn⟩:=FF.mp hp
 have lt:n<z.t.st.length:=by rw [← I.rl];exact (κ.mp hn).1
 obtain ⟨h1,h2⟩:=(I.ob n _ p (Μ lt) hn).th
 rcases e with rfl | rfl
 ·exact h1
 ·exact h2
theorem HR.fth (I:HR X z) (m:b∈frs X.fr):∃ o,z.h b=some o:=let ⟨_,o,e,_⟩:=I.fu.mem m;⟨o,e⟩
section
variable {X:Cx} {z:Z} {G':Hp} {s':ς}
theorem HR.tk1 (I:HR X z):X.tz≤z.s.toks+1:=Ϡ I.tk
theorem HR.tk2 (I:HR X z):X.tz≤z.s.toks+2:=Ϡ I.tk1
theorem HR.tk3 (I:HR X z):X.tz≤z.s.toks+3:=Ϡ I.tk2
theorem HR.grow (I:HR X z) (g:Grw z G' s') (tk:X.tz≤s'.toks:=by first | assumption | exact HR.tk (by assumption) | exact HR.tk1 (by assumption)):HR X { z with G:=G',s:=s' }:=by
 have nn:∀ {a:φ},(∃ o,z.h a=some o)→z.G a=none→G' a=none:=fun {a} ⟨o,e⟩ n=>by
  cases q:G' a with
  | none=>rfl
  | some o'=>rcases g.gn a o' q with z | z;rw [n] at z;cases z;rw [z] at e;cases e
 exact ⟨I.md,I.fm,I.hd,fun b o e=>g.gg _ _ (I.bs b o e),g.gh,I.rl,I.rn,fun a m=>nn (I.th m) (I.rg a m),fun n o p h1 h2=>(I.ob n o p h1 h2).mono (μ _) g.gg fun a _ o e=>g.gr.k a o e,nfu I.fu g.gr.k,fun b m=>⟨nn (I.fth m) (I.ff b m).1,(I.ff b m).2⟩,by rw [g.gr.gs];exact I.br,g.gr.os.trans I.os,tk⟩
theorem Rep.lth (I:Rep X z) (l:Lc X a):∃ o,z.h a=some o:=by
 rcases l with rfl | ⟨x,e⟩
 ·obtain ⟨m,⟨o,_,_,e,_⟩,_⟩:=I.lo;exact ⟨o,e⟩
 ·obtain ⟨v,o,e,_⟩:=I.ce x a e;exact ⟨o,e⟩
theorem Rep.oth (I:Rep X z) (o:Own z a):Fre X z a∧∃ o,z.h a=some o:=by
 obtain ⟨i,m,e⟩:=o
 obtain ⟨d,b,o,_,e2,_,r,f⟩:=I.eo i m
 rw [e] at e2;cases e2
 exact ⟨f,r.th.1⟩
theorem dz {h h':ϻ} (k:∀ c v,env.cells.lookup x=some c→h.IsCell c v→h'.IsCell c v) (l:lE env h m x u):lE env h' m x u:=l.imp_right fun ⟨a,c,e,q⟩=>⟨a,c,e,k c _ e q⟩
theorem Rep.fre (I:Rep X z) (n:z.h a=none):Fre X z a∧¬ Own z a:=by
 have no:∀ {P:Prop},(P→∃ o,z.h a=some o)→¬ P:=fun k p=>by obtain ⟨o,e⟩:=k p;rw [n] at e;cases e
 refine ⟨⟨?_,no I.th,no I.fth,no I.lth⟩,no fun o=>(I.oth o).2⟩
 cases q:z.G a with
 | none=>rfl
 | some o=>have:=I.gh a o q;rw [n] at this;cases this
theorem xp {h h':ϻ} (sl:∀ b o,h.get? b=some o→∃ sl,h'.get? b=some { o with slots:=sl }) (n:h.Ns a m):h'.Ns a m:=let ⟨o,es,ep,e,r⟩:=n;let ⟨_,q⟩:=sl a o e;⟨_,es,ep,q,r⟩
theorem fT {h h':ϻ} (sl:∀ b o,h.get? b=some o→∃ sl,h'.get? b=some { o with slots:=sl }) (n:h.IsCell c v):h'.IsCell c v:=let ⟨o,e,d⟩:=n;let ⟨_,q⟩:=sl c o e;⟨_,q,d⟩
theorem Rep.grw (I:Rep X z) (tk:X.tz≤s'.toks) (os:s'.os=z.s.os) (br:œ s'.gens) (k:∀ b o,z.h b=some o→b ∉ frs X.fr→s'.heap.get? b=some o) (sl:∀ b o,z.h b=some o→∃ sl,s'.heap.get? b=some { o with slots:=sl })
 (gg:Sub z.G G') (gh:Sub G' s'.heap.get?) (gn:∀ a o,G' a=some o→z.G a=some o∨(Fre X z a∧¬ Own z a)):Rep X { z with G:=G',s:=s' }:=by
 have nn:∀ {a:φ},¬ (Fre X z a∧¬ Own z a)→z.G a=none→G' a=none:=fun {a} f n=>by
  cases q:G' a with
  | none=>rfl
  | some o'=>rcases gn a o' q with z | z;rw [n] at z;cases z;exact (f z).elim
 refine ⟨⟨I.md,I.fm,I.hd,fun b o e=>gg _ _ (I.bs b o e),gh,I.rl,I.rn,fun a m=>nn (fun f=>f.1.2.1 m) (I.rg a m),fun n o p h1 h2=>(I.ob n o p h1 h2).mono (μ _) gg fun a ha o e=>k a o e fun m=>(I.ff a m).2 ⟨p,Ρ h2,ha⟩,I.fu.of_keeps fun b o e _=>let ⟨_,q⟩:=sl b o e;⟨_,q,rfl⟩,fun b m=>⟨nn (fun f=>f.1.2.2.1 m) (I.ff b m).1,(I.ff b m).2⟩,br,os.trans I.os,tk⟩,I.ok,?_,fun x c e=>let ⟨v,q⟩:=I.ce x c e;⟨v,fT sl q⟩,fun a l=>⟨nn (fun f=>f.1.2.2.2 l) (I.fl a l).1,(I.fl a l).2⟩,I.el,I.sl,fun i d n e=>let ⟨u,q,r⟩:=I.en i d n e;⟨u,q,r.mono (μ _) gg⟩,fun i m=>?_,I.od⟩
 ·obtain ⟨m,hn,hl⟩:=I.lo
  exact ⟨m,xp sl hn,fun i x u h1 h2 h3=>dz (fun c v _ q=>fT sl q) (hl i x u h1 h2 h3)⟩
 ·obtain ⟨d,a,o,h1,h2,h3,r,f⟩:=I.eo i m
  exact ⟨d,a,o,h1,h2,h3,r.mono (μ _) gg fun b hb o e=>k b o e (by rcases hb with rfl | rfl <;> exact f.2.2.1),nn (fun f=>f.2 ⟨i,m,h2⟩) f.1,f.2⟩
theorem Rep.grow (I:Rep X z) (g:Grw z G' s') (tk:X.tz≤s'.toks:=by first | assumption | exact HR.tk (by assumption) | exact HR.tk1 (by assumption) | exact (Rep.toHR (by assumption)).tk | exact (Rep.toHR (by assumption)).tk1 | exact HR.tk2 (Rep.toHR (by assumption)) | exact HR.tk3 (Rep.toHR (by assumption))):Rep X { z with G:=G',s:=s' }:=I.grw tk g.gr.os (by rw [g.gr.gs];exact I.br) (fun b o e _=>g.gr.k b o e) (fun b o e=>⟨o.slots,g.gr.k b o e⟩) g.gg g.gh fun a o e=>(g.gn a o e).imp_right I.fre
theorem Grw.stp (g:Grw z G' s'):Stp fr w z { z with G:=G',s:=s' }:=⟨μ _,g.gg,fun a o e=>(g.gn a o e).imp_right .inl,fun _ m=>.inl m,fun a o e=>⟨o,g.gr.k a o e⟩,fun a o e _ _ _=>g.gr.k a o e,fun a o e _ _ _=>⟨o.slots,g.gr.k a o e⟩⟩
theorem Grw.ee (g:Grw z G' s'):Ee X z { z with G:=G',s:=s' }:=⟨g.stp,rfl,rfl,fun _ h=>h⟩
end
def Z.up (z:Z) (s':ς):Z:={ z with G:=fun a=>match z.h a with | none=>s'.heap.get? a | some _=>z.G a,s:=s' }
theorem jU {z:Z} {s':ς} (n:z.h a=none):(z.up s').G a=s'.heap.get? a:=by show (match z.h a with | none=>s'.heap.get? a | some _=>z.G a)=_;rw [n]
theorem cb {z:Z} {s':ς} (I:Sub z.G z.h) (g:Gr z.s s'):Grw z (z.up s').G s':=by
 refine ⟨g,fun a o e=>?_,fun a o e=>?_,fun a o e=>?_⟩
 ·show (match z.h a with | none=>s'.heap.get? a | some _=>z.G a)=_
  rw [I a o e];exact e
 ·revert e
  show (match z.h a with | none=>s'.heap.get? a | some _=>z.G a)=_→_
  cases q:z.h a with
  | none=>exact fun e=>e
  | some u=>exact fun e=>g.k a o (I a o e)
 ·cases q:z.h a with
  | none=>exact .inr rfl
  | some u=>
    revert e
    show (match z.h a with | none=>s'.heap.get? a | some _=>z.G a)=_→_
    rw [q];exact .inl
theorem ao {z:Z} {s':ς} (I:Sub z.G z.h) (g:Gr z.s s'):Grw z z.G s':=⟨g,.refl _,fun a o e=>g.k a o (I a o e),fun _ _ e=>.inl e⟩
def jY (z:Z) (p:Nat→Bool) (a:φ):Prop:=∃ i∈z.t.ow,p i=false∧z.σ[i]? = some (some (.ref a))
open Classical in
noncomputable def Z.rel (z:Z) (p:Nat→Bool):Z:={ z with t:=⟨z.t.env,z.t.ow.filter p,z.t.st⟩,G:=fun a=>if jY z p a then z.h a else z.G a }
theorem fX {z:Z} (h:jY z p a):(z.rel p).G a=z.h a:=ZZ h
theorem dC {z:Z} (h:¬ jY z p a):(z.rel p).G a=z.G a:=ZY h
theorem jJ {d:D} (e:toO d=some o) (r:ObR W ρ G h (a,b) o) (g:Sub G G') (q:G' a=h a):RD W ρ G' d (.ref a):=by
 cases d <;> cases e
 ·obtain ⟨o,vs,_,e,l,t⟩:=r;exact ⟨a,o,vs,rfl,q.trans e,l,t.mono (μ _) g⟩
 ·obtain ⟨o,vs,_,m,e,l,n,t⟩:=r;exact ⟨a,o,vs,rfl,m,q.trans e,l,n,t.mono (μ _) g⟩
theorem Rep.rel (I:Rep X z) (p:Nat→Bool):Rep X (z.rel p)∧Ee X z (z.rel p):=by
 have own:∀ {a},jY z p a→Own z a:=fun ⟨i,m,_,e⟩=>⟨i,m,e⟩
 have gg:Sub z.G (z.rel p).G:=fun a o e=>by
  by_cases q:jY z p a
  ·rw [(I.oth (own q)).1.1] at e;cases e
  ·rw [dC q];exact e
 have nn:∀ {a},¬ Own z a→z.G a=none→(z.rel p).G a=none:=fun n g=>by rw [dC fun q=>n (own q)];exact g
 refine ⟨⟨⟨I.md,I.fm,I.hd,fun b o e=>gg _ _ (I.bs b o e),fun a o e=>?_,I.rl,I.rn,fun a m=>nn (fun q=>(I.oth q).1.2.1 m) (I.rg a m),fun n o p h1 h2=>(I.ob n o p h1 h2).mono (μ _) gg fun _ _ _ e=>e,I.fu,fun b m=>⟨nn (fun q=>(I.oth q).1.2.2.1 m) (I.ff b m).1,(I.ff b m).2⟩,I.br,I.os,I.tk⟩,I.ok,I.lo,I.ce,fun a l=>⟨nn (fun q=>(I.oth q).1.2.2.2 l) (I.fl a l).1,(I.fl a l).2⟩,I.el,I.sl,fun i d n e=>?_,fun i m=>?_,fun i j a m1 m2=>I.od i j a (ϔ.mp m1).1 (ϔ.mp m2).1⟩,⟨⟨μ _,gg,fun a o e=>?_,fun _ m=>.inl m,fun a o e=>⟨o,e⟩,fun _ _ e _ _ _=>e,fun _ o e _ _ _=>⟨o.slots,e⟩⟩,rfl,rfl,fun i m=>(ϔ.mp m).1⟩⟩
 ·by_cases q:jY z p a
  ·rw [fX q] at e;exact e
  ·rw [dC q] at e;exact I.gh a o e
 ·by_cases m:i∈z.t.ow
  ·have pf:p i=false:=by
    cases q:p i with
    | false=>rfl
    | true=>exact ZX (ϔ.mpr ⟨m,q⟩) n
   obtain ⟨d',a,o,h1,h2,h3,r,f⟩:=I.eo i m
   rw [show z.t.env[i]? = some (some d) from e] at h1;cases h1
   exact ⟨_,h2,jJ h3 r gg (fX ⟨i,m,pf,h2⟩)⟩
  ·obtain ⟨u,q,r⟩:=I.en i d m e
   exact ⟨u,q,r.mono (μ _) gg⟩
 ·obtain ⟨m1,m2⟩:=ϔ.mp m
  obtain ⟨d',a,o,h1,h2,h3,r,f⟩:=I.eo i m1
  refine ⟨d',a,o,h1,h2,h3,r.mono (μ _) gg fun _ _ _ e=>e,?_,f.2⟩
  refine (dC fun ⟨j,mj,pj,ej⟩=>?_).trans f.1
  rw [I.od j i a mj m1 ej h2,m2] at pj;cases pj
 ·by_cases q:jY z p a
  ·exact .inr (.inr (own q))
  ·rw [dC q] at e;exact .inl e
inductive Tr (h:ϻ) (a:φ) (cls:η) (dx:Option φ) (T:φ) (fl:η):Prop
 | mk (oe:_) (vs:_) (oT:_) (ts:_) (_:h.get? a=some oe) (_:(oe.cls=cls∧oe.dict=dx)) (_:oe.data = .fields vs) (_:vs[1]? = some (.ref T)) (_:T≠a) (_:h.get? T=some oT) (_:oT.data = .fields ts) (_:ts[3]? = some fl)
inductive Rw (h:ϻ) (a:φ) (cls:η) (dx:Option φ):Prop
 | mk (oe:_) (vs:_) (_:h.get? a=some oe) (_:(oe.cls=cls∧oe.dict=dx)) (_:oe.data = .fields vs) (_:vs[1]? = some .none)
inductive XI (W:Wd) (ρ:Rs) (G:Hp) (c:Nat) (l:List D) (cls:η) (dx:Option φ):Prop
 | mk (i:CI) (_:W.ci[c]? = some i) (_:W.what[c]? = some 2) (_:cls = .ref i.ad) (_:l.length≤i.nm.length) (_:(l = []∧dx=none)∨∃ d od vs,dx=some d∧G d=some od∧NsO od (i.nm.zip vs)∧RDs W ρ G l vs)
def XR (W:Wd) (z:Z) (c:Nat) (l:List D) (cls:η) (dx:Option φ):Prop:=XI W z.ρ z.G c l cls dx
def Nob (X:Cx) (z z':Z) (a:φ):Prop:=z.h a=none∧Fre X z' a∧¬ Own z' a
inductive XO (X:Cx) (z z':Z) (c:Nat) (l:List D) (e:η):Prop
 | mk (a:_) (cls:_) (dx:_) (_:e = .ref a) (_:XR X.W z' c l cls dx) (_:Nob X z z' a) (_:(Rw z'.s.heap a cls dx∨∃ T fl,Tr z'.s.heap a cls dx T fl∧(fl = .none∨∃ L,X.env.frame=some L∧fl=Ã L)∧Nob X z z' T))
theorem XO.less (h:XO X z1 z' c l e) (k:∀ a,z1.h a=none→z.h a=none):XO X z z' c l e:=by
 obtain ⟨a,cls,dx,e,r,n,h⟩:=h
 exact ⟨a,cls,dx,e,r,⟨k a n.1,n.2⟩,h.imp_right fun ⟨T,fl,t,q,n⟩=>⟨T,fl,t,q,k T n.1,n.2⟩⟩
section
variable {α β γ δ:Type} {X:Cx}
inductive Pe (X:Cx) (z:Z) (o:Out α) (R:Z→α→β→Prop) (u:β) (s':ς):Prop
 | mk (z':_) (d:_) (_:z'.s=s') (_:o = .ok d z'.t) (_:Ee X z z') (_:Rep X z') (_:R z' d u)
inductive Px (X:Cx) (z:Z) (o:Out α) (x:η) (s':ς):Prop
 | mk (z':_) (c:_) (l:_) (_:z'.s=s') (_:o = .exc c l z'.t) (_:Ee X z z') (_:Rep X z') (_:XO X z z' c l x)
abbrev Wp (X:Cx) (t:E0 β) (z:Z) (o:Out α) (R:Z→α→β→Prop):Prop:=Α X.M X.A t (Pe X z o R) (Px X z o) z.s
def Jg (X:Cx) (t:E0 β) (m:Sta→Out α) (R:Z→α→β→Prop):Prop:=∀ z,Rep X z→m z.t≠.bad→Wp X t z (m z.t) R
theorem Pe.less {z1:Z} {o:Out α} {R:Z→α→β→Prop} (x:Ee X z z1) (h:Pe X z1 o R u s'):Pe X z o R u s':=let ⟨z',d,e,q,y,J,r⟩:=h;⟨z',d,e,q,x.trans y,J,r⟩
theorem Px.less {z1:Z} {o:Out α} (x:Ee X z z1) (h:Px X z1 o u s'):Px X z o u s':=let ⟨z',c,l,e,q,y,r,n⟩:=h;⟨z',c,l,e,q,x.trans y,r,n.less fun _=>x.st.no⟩
theorem Px.map {o:Out α} {f:α→Sta→Out γ} (h:Px X z o u s'):Px X z (o.bind f) u s':=let ⟨z',c,l,e,q,y,J,r⟩:=h;⟨z',c,l,e,by rw [q];rfl,y,J,r⟩
theorem Wp.less {t:E0 β} {z1:Z} {o:Out α} {R:Z→α→β→Prop} (x:Ee X z z1) (h:Wp X t z1 o R):Α X.M X.A t (Pe X z o R) (Px X z o) z1.s:=Η h (fun _ _ h=>h.less x) fun _ _ h=>h.less x
theorem Jg.go {t:E0 β} {m:Sta→Out α} {R:Z→α→β→Prop} {f:α→Sta→Out γ} {o:Out γ} {K:β→ς→Prop} (h:Jg X t m R) (x:Ee X z z1) (I:Rep X z1) (e:o=(m z1.t).bind f) (nb:o≠.bad)
 (k:∀ z2 d u,Ee X z1 z2→Ee X z z2→Rep X z2→R z2 d u→o=f d z2.t→K u z2.s):Α X.M X.A t K (Px X z o) z1.s:=by
 subst e
 refine Η (h z1 I fun q=>nb (by rw [q];rfl)) (fun u s' ⟨z2,d,e,q,y,I1,r⟩=>?_) fun u s' h=>(h.less x).map
 subst e;exact k z2 d u y (x.trans y) I1 r (by rw [q];rfl)
theorem Jg.at {t:E0 β} {m:Sta→Out α} {R:Z→α→β→Prop} {o:Out α} (h:Jg X t m R) (x:Ee X z z1) (I:Rep X z1) (e:o=m z1.t) (nb:o≠.bad):Α X.M X.A t (Pe X z o R) (Px X z o) z1.s:=by subst e;exact (h z1 I nb).less x
theorem aY {M:Fe} {A:ϙ} {s:ς} {t:E0 β} {Q:β→ς→Prop} {E:η→ς→Prop} {n:Nat} (h0:n≤s.toks) (h:Α M A t (fun a s'=>n≤s'.toks→Q a s') E s):Α M A t Q E s:=Η (ό h0 h) (fun _ _ k=>k.2 k.1) fun _ _ k=>k.2
def Dn (X:Cx) (z:Z) (d:D) (u:η) (s':ς):Prop:=Gr z.s s'∧RD X.W z.ρ (z.up s').G d u
theorem Dn.pe (I:Rep X z) (h:Dn X z d u s') (tk:X.tz≤s'.toks:=by first | assumption | exact HR.tk (by assumption) | exact HR.tk1 (by assumption) | exact (Rep.toHR (by assumption)).tk | exact (Rep.toHR (by assumption)).tk1 | exact HR.tk2 (Rep.toHR (by assumption)) | exact HR.tk3 (Rep.toHR (by assumption))):Pe X z (.ok d z.t) (RV X.W br c) u s':=⟨z.up s',d,rfl,rfl,(cb I.gh h.1).ee,I.grow (cb I.gh h.1),.of h.2⟩
theorem Dn.flat {s':ς} (g:Gr z.s s') (h:∀ G,RD X.W z.ρ G d u):Dn X z d u s':=⟨g,h _⟩
theorem Dn.old (I:Rep X z) {s':ς} (g:Gr z.s s') (h:RD X.W z.ρ z.G d u):Dn X z d u s':=⟨g,h.mono (μ _) (cb I.gh g).gg⟩
theorem Dn.at (x:Ee X z0 z) (I:Rep X z) (e:o = .ok d z.t) (h:Dn X z d u s') (tk:X.tz≤s'.toks:=by first | assumption | exact HR.tk (by assumption) | exact HR.tk1 (by assumption) | exact (Rep.toHR (by assumption)).tk | exact (Rep.toHR (by assumption)).tk1 | exact HR.tk2 (Rep.toHR (by assumption)) | exact HR.tk3 (Rep.toHR (by assumption))):Pe X z0 o (RV X.W br c) u s':=e ▸ (h.pe I tk).less x
theorem b6 {t:E0 η} {o:Out D} (x:Ee X z0 z) (I:Rep X z) (e:o=Out.of z.t od) (nb:o≠.bad) (h:∀ d,od=some d→Α X.M X.A t (Dn X z d) (fun _ _=>False) z.s):Α X.M X.A t (Pe X z0 o (RV X.W br c)) (Px X z0 o) z.s:=by
 cases od with
 | none=>exact ZX e nb
 | some d=>exact Η (ό I.tk (h d rfl)) (fun _ _ h=>h.2.at x I e h.1) fun _ _ z=>z.2.elim
end
theorem big (h:n≤100000):n≤ϝ:=ϧ h (by rw [í];decide)
theorem ke:∀ {ds es} {b},gB f ds es=some b→(∀ j (h1:j<ds.length) (h2:j<es.length),∃ c,f ds[j] es[j]=some c)∧b=(õ (min ds.length es.length)).all fun j=>(f (ds[j]?.getD .non) (es[j]?.getD .non)).getD false
 | [],es,b,h=>by cases h;exact ⟨fun j h=>ZX h (Ŝ _),by simp⟩
 | d :: ds,[],b,h=>by cases h;exact ⟨fun j _ h=>ZX h (Ŝ _),by simp⟩
 | d :: ds,e :: es,b,h=>by
   unfold gB at h
   cases q:f d e with
   | none=>rw [q] at h;cases h
   | some x=>
     rw [q] at h
     cases q2:gB f ds es with
     | none=>rw [q2] at h;cases h
     | some y=>
       rw [q2] at h
       cases h
       obtain ⟨i1,i2⟩:=ke q2
       refine ⟨fun j h1 h2=>?_,?_⟩
       ·cases j with
        | zero=>exact ⟨x,q⟩
        | succ j=>exact i1 j (ŗ h1) (ŗ h2)
       ·have m:min (d :: ds).length (e :: es).length=min ds.length es.length+1:=by simp only [Ε];omega
        rw [m,List.range_succ_eq_map,Ĺ,HY,i2]
        simp only [Fi,D5,q]
        rfl
theorem zP (f:sh d=1):∃ l,d = .tup l:=by cases d <;> first | exact ⟨_,rfl⟩ | cases f
theorem zO (f:sh d=2):∃ l,d = .lst l:=by cases d <;> first | exact ⟨_,rfl⟩ | cases f
theorem xw (d:D):sh d<4:=by cases d <;> exact Nat.le_of_ble_eq_true rfl
theorem zQ:∀ x y:Fin 4,¬ (x.1=3∨y.1=3)→¬ (x.1=0∧y.1=0)→¬ x.1=y.1→(x.1=0∧(y.1=1∨y.1=2))∨((x.1=1∨x.1=2)∧y.1=0)∨(x.1=1∧y.1=2)∨(x.1=2∧y.1=1):=by decide +kernel
theorem rp (h:eq0 d e=some b):(sh d=0∧sh e=0∧b=eqf d e)∨(b=false∧((sh d=0∧(sh e=1∨sh e=2))∨((sh d=1∨sh d=2)∧sh e=0)∨(sh d=1∧sh e=2)∨(sh d=2∧sh e=1))):=by
 unfold eq0 at h
 split at h
 ·cases h
 ·rename_i h3
  split at h
  ·rename_i h0;cases h;exact .inl ⟨h0.1,h0.2,rfl⟩
  ·split at h
   ·cases h
   ·cases h
    refine .inr ⟨rfl,?_⟩
    rename_i h0 h1
    exact zQ ⟨sh d,xw d⟩ ⟨sh e,xw e⟩ h3 h0 h1
theorem pX (h:eqv (n+1) d e=some b):(∃ da db y,d = .tup da∧e = .tup db∧gB (eqv n) da db=some y∧b=(y && da.length == db.length)) ∨
 (∃ da db,d = .lst da∧e = .lst db∧((da.length=db.length∧gB (eqv n) da db=some b)∨(da.length≠db.length∧b=false)))∨eq0 d e=some b:=by
 cases d with
 | tup da=>cases e with
   | tup db=>
     obtain ⟨y,a,c⟩:=τ.mp (show (gB (eqv n) da db).map (· && da.length == db.length)=some b from h)
     exact .inl ⟨da,db,y,rfl,rfl,a,c.symm⟩
   | _=>exact .inr (.inr h)
 | lst da=>cases e with
   | lst db=>
     have h':(if da.length=db.length then gB (eqv n) da db else some false)=some b:=h
     split at h'
     ·rename_i z;exact .inr (.inl ⟨da,db,rfl,rfl,.inl ⟨z,h'⟩⟩)
     ·rename_i z;cases h';exact .inr (.inl ⟨da,db,rfl,rfl,.inr ⟨z,rfl⟩⟩)
   | _=>exact .inr (.inr h)
 | _=>exact .inr (.inr h)
open SeqAt
def E3 (A:ϙ) (s:ς) (u v:η) (b:Bool):Prop:=EqAt A s u v b∧RcAt A s u v b∧RcNeAt A s u v (!b)
theorem uX (f1:sh d=0) (f2:sh e=0) (h1:RD W ρ G d u) (h2:RD W ρ G e v):(u=v→eqf d e=true)∧∀ A s,E3 A s u v (eqf d e):=by
 cases d with
 | non=>
   cases (show u=Ϣ from h1)
   cases e with
   | non=>cases (show v=Ϣ from h2);exact ⟨fun _=>rfl,fun A s=>⟨.same _,.none_none,.none_none⟩⟩
   | bl b=>cases (show v=ϡ b from h2);exact ⟨nofun,fun A s=>⟨.none_bool _,.none_bool _,.none_bool _⟩⟩
   | int b=>obtain ⟨t,rfl⟩:=(show ∃ t,v=Ģ b t from h2);exact ⟨nofun,fun A s=>⟨.none_int _ _,.none_int _ _,.none_int _ _⟩⟩
   | str b=>obtain ⟨t,rfl⟩:=(show ∃ t,v=Value.str b t from h2);exact ⟨nofun,fun A s=>⟨.none_str _ _,.none_str _ _,.none_str _ _⟩⟩
   | _=>cases f2
 | bl a=>
   cases (show u=ϡ a from h1)
   cases e with
   | non=>cases (show v=Ϣ from h2);exact ⟨nofun,fun A s=>⟨.bool_none _,.bool_none _,.bool_none _⟩⟩
   | bl b=>cases (show v=ϡ b from h2);exact ⟨fun z=>by cases z;exact ZT a,fun A s=>⟨.bool_bool _ _,.bool_bool _ _,.bool_bool _ _⟩⟩
   | int b=>obtain ⟨t,rfl⟩:=(show ∃ t,v=Ģ b t from h2);exact ⟨nofun,fun A s=>⟨.bool_int _ _ _,.bool_int _ _ _,.bool_int _ _ _⟩⟩
   | str b=>obtain ⟨t,rfl⟩:=(show ∃ t,v=Value.str b t from h2);exact ⟨nofun,fun A s=>⟨.bool_str _ _ _,.bool_str _ _ _,.bool_str _ _ _⟩⟩
   | _=>cases f2
 | int a=>
   obtain ⟨t,rfl⟩:=(show ∃ t,u=Ģ a t from h1)
   cases e with
   | non=>cases (show v=Ϣ from h2);exact ⟨nofun,fun A s=>⟨.int_none _ _,.int_none _ _,.int_none _ _⟩⟩
   | bl b=>cases (show v=ϡ b from h2);exact ⟨nofun,fun A s=>⟨.int_bool _ _ _,.int_bool _ _ _,.int_bool _ _ _⟩⟩
   | int b=>obtain ⟨t,rfl⟩:=(show ∃ t,v=Ģ b t from h2);exact ⟨fun z=>by cases z;exact ZT a,fun A s=>⟨.int_int _ _ _ _,.int_int _ _ _ _,.int_int _ _ _ _⟩⟩
   | str b=>obtain ⟨t,rfl⟩:=(show ∃ t,v=Value.str b t from h2);exact ⟨nofun,fun A s=>⟨.int_str _ _ _ _,.int_str _ _ _ _,.int_str _ _ _ _⟩⟩
   | _=>cases f2
 | str a=>
   obtain ⟨t,rfl⟩:=(show ∃ t,u=Value.str a t from h1)
   cases e with
   | non=>cases (show v=Ϣ from h2);exact ⟨nofun,fun A s=>⟨.str_none _ _,.str_none _ _,.str_none _ _⟩⟩
   | bl b=>cases (show v=ϡ b from h2);exact ⟨nofun,fun A s=>⟨.str_bool _ _ _,.str_bool _ _ _,.str_bool _ _ _⟩⟩
   | int b=>obtain ⟨t,rfl⟩:=(show ∃ t,v=Ģ b t from h2);exact ⟨nofun,fun A s=>⟨.str_int _ _ _ _,.str_int _ _ _ _,.str_int _ _ _ _⟩⟩
   | str b=>obtain ⟨t,rfl⟩:=(show ∃ t,v=Value.str b t from h2);exact ⟨fun z=>by cases z;exact ZT a,fun A s=>⟨.str_str _ _ _ _,.str_str _ _ _ _,.str_str _ _ _ _⟩⟩
   | _=>cases f2
 | _=>cases f1
theorem jo {s:ς} (f:sh d=0) (h:RD W ρ G d u) (hu:A.units<š):(∀ b,u≠.ref b)∧∀ b its,(s.heap.IsTuple b its∨s.heap.IsList b its)→E3 A s u (.ref b) false∧E3 A s (.ref b) u false:=by
 cases d with
 | non=>cases (show u=Ϣ from h);exact ⟨nofun,fun b its p=>p.elim (fun p=>⟨⟨.none_tuple p hu,.none_tuple p hu,.none_tuple p hu⟩,.tuple_none p hu,.tuple_none p hu,.tuple_none p hu⟩) fun p=>⟨⟨.none_list p hu,.none_list p hu,.none_list p hu⟩,.list_none p hu,.list_none p hu,.list_none p hu⟩⟩
 | bl k=>cases (show u=ϡ k from h);exact ⟨nofun,fun b its p=>p.elim (fun p=>⟨⟨.bool_tuple k p hu,.bool_tuple k p hu,.bool_tuple k p hu⟩,.tuple_bool k p hu,.tuple_bool k p hu,.tuple_bool k p hu⟩) fun p=>⟨⟨.bool_list k p hu,.bool_list k p hu,.bool_list k p hu⟩,.list_bool k p hu,.list_bool k p hu,.list_bool k p hu⟩⟩
 | int k=>obtain ⟨t,rfl⟩:=(show ∃ t,u=Ģ k t from h);exact ⟨nofun,fun b its p=>p.elim (fun p=>⟨⟨.int_tuple k t p hu,.int_tuple k t p hu,.int_tuple k t p hu⟩,.tuple_int k t p hu,.tuple_int k t p hu,.tuple_int k t p hu⟩) fun p=>⟨⟨.int_list k t p hu,.int_list k t p hu,.int_list k t p hu⟩,.list_int k t p hu,.list_int k t p hu,.list_int k t p hu⟩⟩
 | str k=>obtain ⟨t,rfl⟩:=(show ∃ t,u=Value.str k t from h);exact ⟨nofun,fun b its p=>p.elim (fun p=>⟨⟨.str_tuple k t p hu,.str_tuple k t p hu,.str_tuple k t p hu⟩,.tuple_str k t p hu,.tuple_str k t p hu,.tuple_str k t p hu⟩) fun p=>⟨⟨.str_list k t p hu,.str_list k t p hu,.str_list k t p hu⟩,.list_str k t p hu,.list_str k t p hu,.list_str k t p hu⟩⟩
 | _=>cases f
theorem CR.fl (f:sh d=0) (h:CR W z d u):RD W z.ρ z.G d u:=by cases d <;> first | exact h | cases f
theorem tpt {h:ϻ} (e:h.get? a=some o) (t:TpO o l):h.IsTuple a l.toArray:=⟨o,e,t.1,t.2.1⟩
theorem lsl {h:ϻ} (e:h.get? a=some o) (t:LsO o l):h.IsList a l.toArray:=by obtain ⟨⟨n,rfl⟩,_⟩:=t;exact ⟨_,e,rfl,n,rfl⟩
theorem E3.refs (ne:l=b→k=true) (h:RcAt A s (.ref l) (.ref b) k) (h2:RcNeAt A s (.ref l) (.ref b) (!k)):E3 A s (.ref l) (.ref b) k:=by
 refine ⟨?_,h,h2⟩
 by_cases q:l=b
 ·subst q;rw [ne rfl];exact .same _
 ·exact .of_refs q h
theorem e3 (I:HR X z):∀ (n:Nat) {d e u v b},eqv n d e=some b→CR X.W z d u→CR X.W z e v→(u=v→b=true)∧∀ A,A.units+n+1<š→E3 A z.s u v b:=by
 have low:∀ {d e u v b},eq0 d e=some b→CR X.W z d u→CR X.W z e v→(u=v→b=true)∧∀ A,A.units<š→E3 A z.s u v b:=by
  intro d e u v b h h1 h2
  have it:∀ {d:D} {u:η},(sh d=1∨sh d=2)→CR X.W z d u→∃ a its,u = .ref a∧((sh d=1∧z.s.heap.IsTuple a its)∨(sh d=2∧z.s.heap.IsList a its)):=fun {d u} f h=>by
   rcases f with f | f
   ·obtain ⟨l,rfl⟩:=zP f;obtain ⟨a,o,vs,rfl,e,t,_⟩:=h;exact ⟨a,_,rfl,.inl ⟨rfl,tpt (I.gh _ _ e) t⟩⟩
   ·obtain ⟨l,rfl⟩:=zO f;obtain ⟨a,o,vs,rfl,e,t,_⟩:=h;exact ⟨a,_,rfl,.inr ⟨rfl,lsl e t⟩⟩
  rcases rp h with ⟨f1,f2,rfl⟩ | ⟨rfl,c⟩
  ·obtain ⟨p,q⟩:=uX f1 f2 (h1.fl f1) (h2.fl f2);exact ⟨p,fun A _=>q A _⟩
  ·rcases c with ⟨c1,c2⟩ | ⟨c1,c2⟩ | ⟨c1,c2⟩ | ⟨c1,c2⟩
   ·obtain ⟨a,its,rfl,w⟩:=it c2 h2
    have w:=w.imp And.right And.right
    exact ⟨fun q=>ZX q ((jo (s:=z.s) (A:={ }) c1 (h1.fl c1) (by decide)).1 a),fun A hu=>((jo c1 (h1.fl c1) hu).2 a its w).1⟩
   ·obtain ⟨a,its,rfl,w⟩:=it c1 h1
    have w:=w.imp And.right And.right
    exact ⟨fun q=>ZX q.symm ((jo (s:=z.s) (A:={ }) c2 (h2.fl c2) (by decide)).1 a),fun A hu=>((jo c2 (h2.fl c2) hu).2 a its w).2⟩
   ·obtain ⟨a,i1,rfl,w1⟩:=it (.inl c1) h1
    obtain ⟨b,i2,rfl,w2⟩:=it (.inr c2) h2
    have w1:=w1.resolve_right fun z=>by omega
    have w2:=w2.resolve_left fun z=>by omega
    exact ⟨fun q=>ZX (Ć q).symm (ne_of_list_tuple w2.2 w1.2),fun A hu=>⟨.tuple_list w1.2 w2.2 hu,.tuple_list w1.2 w2.2 hu,.tuple_list w1.2 w2.2 hu⟩⟩
   ·obtain ⟨a,i1,rfl,w1⟩:=it (.inr c1) h1
    obtain ⟨b,i2,rfl,w2⟩:=it (.inl c2) h2
    have w1:=w1.resolve_left fun z=>by omega
    have w2:=w2.resolve_right fun z=>by omega
    exact ⟨fun q=>ZX (Ć q) (ne_of_list_tuple w1.2 w2.2),fun A hu=>⟨.list_tuple w1.2 w2.2 hu,.list_tuple w1.2 w2.2 hu,.list_tuple w1.2 w2.2 hu⟩⟩
 intro n
 induction n with
 | zero=>intro d e u v b h h1 h2;obtain ⟨p,q⟩:=low h h1 h2;exact ⟨p,fun A hu=>q A (by omega)⟩
 | succ n ih=>
   intro d e u v b h h1 h2
   have items:∀ {da db:List D} {vs ws:List η} {y:Bool},gB (eqv n) da db=some y→RDs X.W z.ρ z.G da vs→RDs X.W z.ρ z.G db ws→(vs=ws→y=true)∧∃ f:Nat→Bool,(õ (min vs.toArray.size ws.toArray.size)).all f=y∧∀ A,A.units+n+1<š→∀ j (h1:j<vs.toArray.size) (h2:j<ws.toArray.size),EqAt A z.s vs.toArray[j] ws.toArray[j] (f j):=by
    intro da db vs ws y q r1 r2
    obtain ⟨q1,q2⟩:=ke q
    have l3:=r1.len
    have l4:=r2.len
    have one:∀ j (h1:j<vs.length) (h2:j<ws.length),∃ c,(eqv n (da[j]?.getD .non) (db[j]?.getD .non)).getD false=c∧(vs[j]=ws[j]→c=true)∧∀ A,A.units+n+1<š→EqAt A z.s vs[j] ws[j] c:=fun j h1 h2=>by
     have e1:=Μ (l:=da) (i:=j) (by omega)
     have e2:=Μ (l:=db) (i:=j) (by omega)
     obtain ⟨x1,f1,w1⟩:=r1.get e1
     obtain ⟨y1,f2,w2⟩:=r2.get e2
     rw [Μ h1] at f1;rw [Μ h2] at f2;cases f1;cases f2
     obtain ⟨c,hc⟩:=q1 j (by omega) (by omega)
     obtain ⟨p,q⟩:=ih hc (.of I w1) (.of I w2)
     exact ⟨c,by rw [e1,e2];simp only [D5,hc],p,fun A hu=>(q A hu).1⟩
    refine ⟨fun q=>?_,fun j=>(eqv n (da[j]?.getD .non) (db[j]?.getD .non)).getD false,?_,fun A hu j h1 h2=>?_⟩
    ·subst q
     rw [q2,Λ]
     intro j hj
     have hj:=Ċ.mp hj
     obtain ⟨c,e,p,_⟩:=one j (by omega) (by omega)
     rw [e];exact p rfl
    ·rw [q2,Ν,Ν,← l3,← l4]
    ·rw [Ν] at h1 h2
     obtain ⟨c,e,_,p⟩:=one j h1 h2
     show EqAt A z.s vs[j] ws[j] ((eqv n (da[j]?.getD .non) (db[j]?.getD .non)).getD false)
     rw [e];exact p A hu
   rcases pX h with ⟨da,db,y,rfl,rfl,q,rfl⟩ | ⟨da,db,rfl,rfl,q⟩ | h
   ·obtain ⟨a,o,vs,rfl,t,to,r1⟩:=h1
    obtain ⟨a',o',ws,rfl,t',to',r2⟩:=h2
    obtain ⟨sm,f,val,its⟩:=items q r1 r2
    have l3:=r1.len
    have l4:=r2.len
    have same:a=a'→(y && da.length == db.length)=true:=fun z=>by
     subst z
     rw [t] at t';cases t'
     obtain ⟨n1,e1⟩:=to.2.1
     obtain ⟨n2,e2⟩:=to'.2.1
     rw [e1] at e2
     injection e2 with e2
     have e:vs=ws:=by simpa using ZS HP e2
     rw [sm e,l3,l4,e];simp
    have lz:(vs.toArray.size == ws.toArray.size)=(da.length == db.length):=by rw [l3,l4];rfl
    refine ⟨fun z=>same (Ć z),fun A hu=>.refs same ?_ ?_⟩
    ·rw [← val,← lz];exact .tuples (tpt (I.gh _ _ t) to) (tpt (I.gh _ _ t') to') (by omega) (its _ (show A.units+1+n+1<š by omega))
    ·rw [← val,← lz];exact .tuples (tpt (I.gh _ _ t) to) (tpt (I.gh _ _ t') to') (by omega) (its _ (show A.units+1+n+1<š by omega))
   ·obtain ⟨a,o,vs,rfl,t,to,r1⟩:=h1
    obtain ⟨a',o',ws,rfl,t',to',r2⟩:=h2
    have l3:=r1.len
    have l4:=r2.len
    have sv:a=a'→vs=ws:=fun z=>by
     subst z
     rw [t] at t';cases t'
     obtain ⟨⟨n1,rfl⟩,_⟩:=to
     obtain ⟨⟨n2,e2⟩,_⟩:=to'
     injection e2 with _ _ e2
     injection e2 with e2
     simpa using ZS HP e2
    rcases q with ⟨hl,q⟩ | ⟨hl,rfl⟩
    ·obtain ⟨sm,f,val,its⟩:=items q r1 r2
     have m:min vs.toArray.size ws.toArray.size=vs.toArray.size:=by simp;omega
     rw [m] at val
     refine ⟨fun z=>sm (sv (Ć z)),fun A hu=>.refs (fun z=>sm (sv z)) ?_ ?_⟩
     ·rw [← val];exact .lists (lsl t to) (lsl t' to') (by simp;omega) (by omega) (its _ (show A.units+1+n+1<š by omega))
     ·rw [← val];exact .lists (lsl t to) (lsl t' to') (by simp;omega) (by omega) (its _ (show A.units+1+n+1<š by omega))
    ·have ne:a=a'→false=true:=fun z=>by rw [sv z] at l3;omega
     exact ⟨fun z=>ne (Ć z),fun A hu=>.refs ne (.lists_lengths (lsl t to) (lsl t' to') (by simp;omega) (by omega)) (.lists_lengths (lsl t to) (lsl t' to') (by simp;omega) (by omega))⟩
   ·obtain ⟨p,q⟩:=low h h1 h2;exact ⟨p,fun A hu=>q A (by omega)⟩
theorem nJ:∀ {l} {b},inD d l=some b→(∀ j (h:j<l.length),∃ c,eqv 55 l[j] d=some c)∧b=l.any fun e=>(eqv 55 e d).getD false
 | [],b,h=>by cases h;exact ⟨fun j h=>ZX h (Ŝ _),rfl⟩
 | e :: r,b,h=>by
   unfold inD at h
   cases q:eqv 55 e d with
   | none=>rw [q] at h;cases h
   | some x=>
     rw [q] at h
     obtain ⟨y,q2,rfl⟩:=τ.mp h
     obtain ⟨i1,i2⟩:=nJ q2
     refine ⟨fun j h=>?_,by rw [HM,q,i2];rfl⟩
     cases j with
     | zero=>exact ⟨x,q⟩
     | succ j=>exact i1 j (ŗ h)
theorem ef (I:HR X z) (hu:A.units+57<š) (q:inD d l=some b) (r:RDs X.W z.ρ z.G l vs) (hd:CR X.W z d v):∃ e:η→Bool,(∀ y,y∈vs.toArray→EqAt A z.s y v (e y))∧vs.toArray.any e=b:=by
 obtain ⟨q1,q2⟩:=nJ q
 have l3:=r.len
 have eqs:∀ j (h1:j<vs.length) (h2:j<l.length),EqAt A z.s vs[j] v ((eqv 55 l[j] d).getD false):=fun j h1 h2=>by
  obtain ⟨x1,e1,w1⟩:=r.get (Μ h2)
  rw [Μ h1] at e1;cases e1
  obtain ⟨c,hc⟩:=q1 j h2
  rw [hc]
  exact ((e3 I 55 hc (.of I w1) hd).2 A (by omega)).1
 have cl:∀ y,Decidable (∃ j,∃ (h1:j<vs.length) (h2:j<l.length),vs[j]=y∧(eqv 55 l[j] d).getD false=true):=fun y=>Classical.propDecidable _
 refine ⟨fun y=>@decide _ (cl y),fun y hy=>?_,?_⟩
 ·rcases GR (∃ j,∃ (h1:j<vs.length) (h2:j<l.length),vs[j]=y∧(eqv 55 l[j] d).getD false=true) with c | c
  ·obtain ⟨j,h1,h2,e,t⟩:=id c
   have w:=eqs j h1 h2
   rw [e,t] at w
   dsimp only
   rw [show @decide _ (cl y)=true from @ZW _ (cl y) c]
   exact w
  ·obtain ⟨j,h1,e⟩:=G7 (by simpa using hy)
   have w:=eqs j h1 (by omega)
   have t:(eqv 55 l[j] d).getD false=false:=D9.mpr fun t=>c ⟨j,h1,by omega,e,t⟩
   rw [t,e] at w
   dsimp only
   rw [show @decide _ (cl y)=false from @ZV _ (cl y) c]
   exact w
 ·rw [q2,List.any_toArray,ś,H6,H6]
  constructor
  ·rintro ⟨y,hy,t⟩
   obtain ⟨j,h1,h2,e,t⟩:=@of_decide_eq_true _ (cl _) t
   exact ⟨l[j],ú h2,t⟩
  ·rintro ⟨e,he,t⟩
   obtain ⟨j,h2,rfl⟩:=G7 he
   exact ⟨vs[j]'(by omega),ú _,@ZW _ (cl _) ⟨j,by omega,h2,rfl,t⟩⟩
end L2.Ev
end
section
namespace HT
section
variable {prog:Ä} {w:à} {A:ϙ} {E:η→ς→Prop} {s:ς}
theorem getItem_tuple_all {lo hi:Option Int} {Q:η→ς→Prop} (ht:IsTup s.heap t items) (hs:s.heap.IsSliceOf sl vl vu .none) (pl:D3 vl lo) (pu:D3 vu hi)
 (hw:sIx items.size 0 lo=0∧sIx items.size items.size hi=items.size) (h:Q (.ref t) s):Α (model prog w) A (Ek (.ref t) (.ref sl)) Q E s:=by
 obtain ⟨os,hos,hcs,hds⟩:=id hs
 have hTs:s.TypeIs (.ref sl) "slice":=⟨os,hos,hcs⟩
 unfold Ek
 try with_reducible refine ύ ?_
 first | refine ζ (π ?_) | skip
 refine ζ (Eg ht.typeIs (by decide) ?_)
 refine ζ (Š (name:=Ñ "__getitem__") ht.typeIs Ô
  (ş Ô ht.typeIs Hn ?_ (HE _ _)))
 show Α _ _ (ų (.ref t) >>= _) _ _ s
 refine ζ (tupleItemsOf_ ht ?_)
 refine ζ (Ef hTs ?_)
 rw [ZZ (by decide)]
 refine ζ (cI hs pl pu ?_)
 have hyes:(((sIx items.size 0 lo:Nat):Int) == 0 && (1:Int) == 1 && (sIx items.size items.size hi - sIx items.size 0 lo) == items.size)=true:=by
  rw [hw.1,hw.2]
  simp
 show Α _ _ (if (((sIx items.size 0 lo:Nat):Int) == 0 && (1:Int) == 1 && (sIx items.size items.size hi - sIx items.size 0 lo) == items.size)=true then _ else _) _ _ s
 rw [ZZ hyes]
 show Α _ _ (Ŵ (.ref t) >>= _) _ _ s
 refine ζ ?_
 unfold Ŵ
 refine ζ (Ef ht.typeIs (π ?_))
 rw [ZZ (by decide)]
 refine ζ (wpAny_rule ?_)
 first
  | exact π ⟨_,rfl,π h⟩
  | exact ζ (π (π ⟨_,rfl,π h⟩))
  | exact ζ (ζ (π (π ⟨_,rfl,π h⟩)))
end
end HT
namespace L2.Ev
abbrev NoE:η→ς→Prop:=fun _ _=>False
theorem aD {c:Prop} [Decidable c] {a d:α} (e:(if c then some a else none)=some d):c∧a=d:=by
 by_cases h:c
 ·rw [ZZ h] at e;exact ⟨h,Ϟ e⟩
 ·rw [ZY h] at e;cases e
section
variable {X:Cx} {z:Z}
theorem aG (z:Z):z.h z.s.heap.objs.size=none:=Ϙ (Ϗ _)
theorem Dn.tok {n:Nat} (h:∀ W ρ G,RD W ρ G d u):Dn X z d u { z.s with toks:=n }:=⟨.tok,h ..⟩
theorem Dn.tup (I:Rep X z) (r:RDs X.W z.ρ z.G l vs) (g:Gr z.s s') (n:z.h a=none) (e:s'.heap.get? a=some o) (t:TpO o vs):Dn X z (.tup l) (.ref a) s':=
 ⟨g,a,o,vs,rfl,(jU n).trans e,t,r.mono (μ _) (cb I.gh g).gg⟩
theorem ui (hz:vs.length≤ϝ):TpO { cls:=.type "tuple",data:=.seq vs.toArray n } vs:=⟨rfl,⟨n,rfl⟩,hz,rfl⟩
theorem Dn.tupn (I:Rep X z) (r:RDs X.W z.ρ z.G l vs) (hz:vs.length≤ϝ) {n t:Nat}:Dn X z (.tup l) (.ref z.s.heap.objs.size) { z.s with heap:=z.s.heap.push { cls:=.type "tuple",data:=.seq vs.toArray n },toks:=t }:=
 .tup I r .push (aG z) (ψ _ rfl) (ui hz)
def Dw (X:Cx) (z:Z) (d:D) (u:η) (s':ς):Prop:=Gr z.s s'∧∃ a o,u = .ref a∧z.h a=none∧toO d=some o∧ObR X.W z.ρ z.G s'.heap.get? (a,a) o
theorem Dw.dn (I:Rep X z) (h:Dw X z d u s'):Dn X z d u s':=by
 obtain ⟨g,a,o,rfl,n,e,r⟩:=h
 exact ⟨g,jJ e r (cb I.gh g).gg (jU n)⟩
def FV (X:Cx) (z0 z:Z) (d:D) (u:η):Prop:=∃ a o,u = .ref a∧z0.h a=none∧toO d=some o∧ObR X.W z.ρ z.G z.h (a,a) o∧Fre X z a∧¬ Own z a
theorem Dw.pe (I:Rep X z) (h:Dw X z d u s') (tk:X.tz≤s'.toks:=by first | assumption | exact HR.tk (by assumption) | exact HR.tk1 (by assumption) | exact (Rep.toHR (by assumption)).tk | exact (Rep.toHR (by assumption)).tk1 | exact Ϡ (by assumption)):Pe X z (.ok d z.t) (FV X z) u s':=by
 obtain ⟨g,a,o,rfl,n,e,r⟩:=h
 have f:=I.fre n
 exact ⟨{ z with s:=s' },d,rfl,rfl,(ao I.gh g).ee,I.grow (ao I.gh g) tk,a,o,rfl,n,e,r,f⟩
theorem Dw.lst (r:RDs X.W z.ρ z.G l vs) (g:Gr z.s s') (n:z.h a=none) (e:s'.heap.get? a=some { cls:=.type "list",data:=.seq vs.toArray k }) (hz:vs.length≤ϝ):Dw X z (.lst l) (.ref a) s':=⟨g,a,.lst l,rfl,n,rfl,_,vs,rfl,e,⟨⟨k,rfl⟩,hz⟩,r⟩
theorem Dw.lstn (r:RDs X.W z.ρ z.G l vs) (hz:vs.length≤ϝ) {n t:Nat}:Dw X z (.lst l) (.ref z.s.heap.objs.size) { z.s with heap:=z.s.heap.push { cls:=.type "list",data:=.seq vs.toArray n },toks:=t }:=.lst r .push (aG z) (ψ _ rfl) hz
def Op2 (X:Cx) (f:η→η→E0 η) (g:D→D→Option D):Prop:=∀ z u v d1 d2 d,Rep X z→CR X.W z d1 u→CR X.W z d2 v→g d1 d2=some d→Α X.M X.A (f u v) (Dn X z d) NoE z.s
theorem Bo (ho:o≠.add∧o≠.eq∧o≠.ne∧o≠.isin∧o≠.notin∧o≠.eq2) (e:opD o d1 d2=some d):∃ i j,d1 = .int i∧d2 = .int j∧opI o i j=some d:=by
 obtain ⟨n1,n2,n3,n4,n5,n6⟩:=ho
 unfold opD at e
 split at e
 ·exact ZX rfl n6
 ·exact ZX rfl n2
 ·exact ZX rfl n3
 ·exact ZX rfl n4
 ·exact ZX rfl n5
 ·split at e
  ·exact ⟨_,_,rfl,rfl,e⟩
  all_goals first | (cases e;done) | (rw [ZY n1] at e;cases e)
theorem kL {f:η→η→E0 η} (ho:o≠.add∧o≠.eq∧o≠.ne∧o≠.isin∧o≠.notin∧o≠.eq2)
 (rule:∀ (i j:Int) (t u:Tok) (d:D) (s:ς) (Q:η→ς→Prop),opI o i j=some d→(∀ (v:η) (n:Nat),(∀ W ρ G,RD W ρ G d v)→Q v { s with toks:=n })→Α X.M X.A (f (.int i t) (.int j u)) Q NoE s):Op2 X f (opD o):=fun z u v d1 d2 d I h1 h2 e=>by
 obtain ⟨i,j,rfl,rfl,e2⟩:=Bo ho e
 obtain ⟨t,rfl⟩:=h1
 obtain ⟨t',rfl⟩:=h2
 exact rule i j t t' d z.s _ e2 fun v n h=>.tok h
theorem zz:Op2 X (ļ .Sub) (opD .sub):=kL (by decide) fun _ _ _ _ _ _ _ e k=>by cases e;exact sub_int (k _ _ fun _ _ _=>⟨_,rfl⟩)
theorem zx:Op2 X (ļ .Mult) (opD .mul):=kL (by decide) fun _ _ _ _ _ _ _ e k=>by
 obtain ⟨c,rfl⟩:=aD e
 refine mul_int (k _ _ fun _ _ _=>⟨_,rfl⟩) ?_
 rcases c with h | ⟨h1,h2⟩
 ·exact xB.ok h
 ·exact mulOk_of_bits (m:=400) (n:=400) (intBits_le_iff.mpr h1) (intBits_le_iff.mpr h2) (by decide)
theorem wp:Op2 X (ļ .FloorDiv) (opD .fdiv):=kL (by decide) fun i j _ _ _ _ _ e k=>by
 obtain ⟨⟨h1,h2⟩,rfl⟩:=aD e
 refine floordiv_int (by omega) (by rw [Int.fdiv_eq_ediv_of_nonneg i (by omega)];exact k _ _ fun _ _ _=>⟨_,rfl⟩) (.inl (PyProof.noPylong_of_log2 ?_))
 have h:j.natAbs.log2<200:=(E8 (by omega)).2 (by omega)
 omega
theorem zw:Op2 X (ļ .Mod) (opD .mod):=kL (by decide) fun i j _ _ _ _ _ e k=>by
 obtain ⟨c,rfl⟩:=aD e
 exact mod_int' (by omega) (by rw [Int.fmod_eq_emod_of_nonneg i (by omega)];exact k _ _ fun _ _ _=>⟨_,rfl⟩)
theorem zy:Op2 X (ļ .Pow) (opD .pow):=kL (by decide) fun _ _ _ _ _ _ _ e k=>by
 obtain ⟨c,rfl⟩:=aD e;exact pow_int_small c.1 c.2.1 c.2.2 (k _ _ fun _ _ _=>⟨_,rfl⟩)
theorem B1:Op2 X (Ê .Lt) (opD .lt):=kL (by decide) fun _ _ _ _ _ s _ e k=>by cases e;exact lt_int (k _ s.toks fun _ _ _=>rfl)
theorem BZ:Op2 X (Ê .LtE) (opD .le):=kL (by decide) fun _ _ _ _ _ s _ e k=>by cases e;exact le_int (k _ s.toks fun _ _ _=>rfl)
theorem BX:Op2 X (Ê .Gt) (opD .gt):=kL (by decide) fun _ _ _ _ _ s _ e k=>by cases e;exact gt_int (k _ s.toks fun _ _ _=>rfl)
theorem zv:Op2 X (ļ .Add) (opD .add):=fun z u v d1 d2 d I h1 h2 e=>by
 have chk:∀ {n:Nat} {a:D},fP n a=some d→n≤ϝ∧a=d:=fun e=>let ⟨c,q⟩:=aD e;⟨big c,q⟩
 cases d1 with
 | int i=>cases d2 with
   | int j=>cases e;obtain ⟨t,rfl⟩:=h1;obtain ⟨t',rfl⟩:=h2;exact add_int (.tok fun _ _ _=>⟨_,rfl⟩)
   | _=>cases e
 | str i=>cases d2 with
   | str j=>obtain ⟨hz,rfl⟩:=chk e;obtain ⟨t,rfl⟩:=h1;obtain ⟨t',rfl⟩:=h2;exact add_str (fun t' tk=>.tok fun _ _ _=>⟨_,rfl⟩) hz
   | _=>cases e
 | tup a=>cases d2 with
   | tup b=>
     obtain ⟨hz,rfl⟩:=chk e
     obtain ⟨p,o1,vs,rfl,e1,t1,r1⟩:=id h1
     obtain ⟨q,o2,ws,rfl,e2,t2,r2⟩:=id h2
     have l1:=r1.len
     have l2:=r2.len
     have k1:=tpt (I.gh _ _ e1) t1
     have k2:=tpt (I.gh _ _ e2) t2
     cases vs with
     | nil=>
       cases (show a = [] from ł.mp l1)
       obtain ⟨⟨cls,dd,data,sl⟩,ho,hc,n,hd⟩:=id k1
       obtain ⟨⟨cls2,dd2,data2,sl2⟩,ho2,hc2,n2,hd2⟩:=id k2
       simp only at hc hd hc2 hd2
       subst hc hd hc2 hd2
       exact GB ⟨_,ho,rfl⟩ ⟨_,ho2,rfl⟩ EL G0 Ľ Ķ (Į _ _) (tuple_addW0 p q #[] ws.toArray n n2 dd dd2 sl sl2 rfl) ⟨ho,ho2,.old I .refl h2⟩
     | cons v0 vs=>
       refine HT.cat_tup k1 k2 (by simp) (fun w=>?_) (fun _=>.tupn I (r1.app r2) (by rw [Δ];omega)) (by omega)
       subst w
       cases (show b = [] from ł.mp l2)
       rw [Ω]
       exact .old I .refl h1
   | _=>cases e
 | lst a=>cases d2 with
   | lst b=>
     obtain ⟨hz,rfl⟩:=chk e
     obtain ⟨p,o1,vs,rfl,e1,⟨⟨n1,rfl⟩,_⟩,r1⟩:=h1
     obtain ⟨q,o2,ws,rfl,e2,⟨⟨n2,rfl⟩,_⟩,r2⟩:=h2
     have l1:=r1.len
     have l2:=r2.len
     refine PySem.P.add_list e1 e2 ?_ (by rw [Ν,Ν];omega)
     rw [show vs.toArray ++ ws.toArray=(vs ++ ws).toArray by simp]
     exact (Dw.lstn (r1.app r2) (by rw [Δ];omega)).dn I
   | _=>cases e
 | _=>cases e
end
end L2.Ev
end
section
namespace L2.Ev
open PyProof.Rows.LSm
section
variable {X:Cx} {z:Z}
theorem fh (e:bE d=some k) (h:CR W z d u):(aS P w).is k u=true:=by
 cases d with
 | int i=>cases e;obtain ⟨t,rfl⟩:=h;exact kH P w i t
 | str i=>cases e;obtain ⟨t,rfl⟩:=h;exact fK P w i t
 | _=>cases e
theorem DcO.of {h:ϻ} (e:h.get? a=some o) (d:DcO W o l):h.DictOf (aS W.P W.w) a l:=let ⟨es,ep,x,y,a,b,c,_⟩:=d;⟨o,es,ep,e,x,y,a,b,c⟩
theorem cK:∀ {ks} {ds} {vs} {k:Key},ks.length=ds.length→RDs W ρ G ds vs→match dG ks ds k with | some d=>∃ v,D4 (ks.zip vs) k=some v∧RD W ρ G d v | none=>D4 (ks.zip vs) k=none
 | [],[],vs,k,_,_=>rfl
 | [],_ :: _,_,_,h,_=>by cases h
 | _ :: _,[],_,_,h,_=>by cases h
 | q :: ks,e :: ds,vs,k,h,r=>by
   obtain ⟨v,ws,rfl,r1,r2⟩:=r
   have ih:=cK (k:=k) (ĸ h) r2
   unfold dG
   by_cases c:q=k
   ·rw [ZZ c];exact ⟨v,by simp [D4,Hi,c],r1⟩
   ·rw [ZY c]
    have n:D4 ((q :: ks).zip (v :: ws)) k=D4 (ks.zip ws) k:=by simp [D4,Hi,c]
    rw [n];exact ih
theorem ul (hl:ks.length=ds.length) (r:RDs W ρ G ds vs) (e:dG ks ds k=some d):∃ v,D4 (ks.zip vs) k=some v∧RD W ρ G d v:=by have:=cK (k:=k) hl r;rw [e] at this;exact this
theorem uk (hl:ks.length=ds.length) (r:RDs W ρ G ds vs):(D4 (ks.zip vs) k).isSome=(dG ks ds k).isSome:=by
 have:=cK (k:=k) hl r
 cases q:dG ks ds k with
 | none=>rw [q] at this;rw [this];rfl
 | some d=>rw [q] at this;obtain ⟨v,e,_⟩:=this;rw [e];rfl
theorem iN (h:eqT a b=some r):(∃ ks ds ls es,a = .dic ks ds∧b = .dic ls es∧∃ x,(ks.length=ls.length→rT ls es ks ds=some x)∧r=(ks.length == ls.length && x))∨eqv 55 a b=some r:=by
 unfold eqT at h
 split at h
 ·rename_i ks ds ls es
  refine .inl ⟨ks,ds,ls,es,rfl,rfl,?_⟩
  split at h
  ·rename_i c;exact ⟨r,fun _=>h,by simp [c]⟩
  ·rename_i c;cases h;exact ⟨false,fun z=>ZX z c,by simp⟩
 ·exact .inr h
theorem jv {A:ϙ} (I:HR X z) (un:A.units+56<š) (hl2:ls.length=es.length) (r2:RDs X.W z.ρ z.G es ws):∀ {ks ds vs r},ks.length=ds.length→RDs X.W z.ρ z.G ds vs→rT ls es ks ds=some r→PySem.W.KeqHits A z.s (ls.zip ws) (ks.zip vs) r
 | [],ds,vs,r,_,_,h=>by cases h;exact .nil
 | k :: ks,[],vs,r,hl,_,h=>by cases hl
 | k :: ks,d :: ds,vs,r,hl,r1,h=>by
   obtain ⟨v,vs,rfl,h1,h2⟩:=r1
   unfold rT at h
   have q:=cK (k:=k) hl2 r2
   cases e:dG ls es k with
   | none=>rw [e] at h q;cases h;exact .miss q
   | some y=>
     rw [e] at h q
     obtain ⟨w,e1,e2⟩:=q
     dsimp only at h
     cases e3':eqv 55 d y with
     | none=>rw [e3'] at h;cases h
     | some x=>
       rw [e3'] at h
       obtain ⟨b,hb,rfl⟩:=τ.mp h
       exact .hit e1 (((e3 I 55 e3' (.of I h1) (.of I e2)).2 A (by omega)).1) (jv I un hl2 r2 (ĸ hl) h2 hb)
theorem BW:Op2 X (Ê .Eq) (opD .eq):=fun z u v d1 d2 d I h1 h2 e=>by
 obtain ⟨b,q,rfl⟩:=τ.mp (show (eqT d1 d2).map D.bl=some d from e)
 rcases iN q with ⟨ks,ds,ls,es,rfl,rfl,x,q',rfl⟩ | q
 ·obtain ⟨a,o,vs,rfl,m,e1,c1,l1,r1⟩:=h1
  obtain ⟨a',o',ws,rfl,m',e2,c2,l2,r2⟩:=h2
  have n1:(ks.zip vs).length=ks.length:=by rw [Ϸ,← r1.len,l1,Đ]
  have n2:(ls.zip ws).length=ls.length:=by rw [Ϸ,← r2.len,l2,Đ]
  refine PySem.W.keq_eq m m' (c1.of e1) (c2.of e2) (by have:=I.ok.un;omega) (fun h=>jv I.toHR (by have:=I.ok.un;show X.A.units+1+56<_;omega) l2 r2 l1 r1 (q' (by rw [← n1,← n2];exact h))) (.tok fun _ _ _=>?_)
  rw [n1,n2];rfl
 ·exact ((e3 I.toHR 55 q h1 h2).2 X.A (by have:=I.ok.un;omega)).2.1 _ _ _ _ (.tok fun _ _ _=>rfl)
theorem B2:Op2 X (Ê .NotEq) (opD .ne):=fun z u v d1 d2 d I h1 h2 e=>by
 obtain ⟨b,q,rfl⟩:=τ.mp (show (eqT d1 d2).map (fun x=>D.bl (!x))=some d from e)
 rcases iN q with ⟨ks,ds,ls,es,rfl,rfl,x,q',rfl⟩ | q
 ·obtain ⟨a,o,vs,rfl,m,e1,c1,l1,r1⟩:=h1
  obtain ⟨a',o',ws,rfl,m',e2,c2,l2,r2⟩:=h2
  have n1:(ks.zip vs).length=ks.length:=by rw [Ϸ,← r1.len,l1,Đ]
  have n2:(ls.zip ws).length=ls.length:=by rw [Ϸ,← r2.len,l2,Đ]
  refine PySem.W.keq_ne m m' (c1.of e1) (c2.of e2) (by have:=I.ok.un;omega) (fun h=>jv I.toHR (by have:=I.ok.un;show X.A.units+1+56<_;omega) l2 r2 l1 r1 (q' (by rw [← n1,← n2];exact h))) (.tok fun _ _ _=>?_)
  rw [n1,n2];rfl
 ·exact ((e3 I.toHR 55 q h1 h2).2 X.A (by have:=I.ok.un;omega)).2.2 _ _ _ _ (.tok fun _ _ _=>rfl)
theorem BY:Op2 X (Ê .In) (opD .isin):=fun z u v d1 d2 d I h1 h2 e=>by
 have un:X.A.in1.units+57<š:=by have:=I.ok.un;show X.A.units+1+57<_;omega
 cases d2 with
 | str y=>cases d1 with
   | str x=>cases e;obtain ⟨t,rfl⟩:=h1;obtain ⟨t',rfl⟩:=h2;exact SB.contains (.tok fun _ _ _=>rfl)
   | _=>cases e
 | lst l=>
   obtain ⟨b,q,rfl⟩:=τ.mp (show (inD d1 l).map D.bl=some d from e)
   obtain ⟨a,o,vs,rfl,e1,t,r⟩:=h2
   obtain ⟨f,hf,rfl⟩:=ef I.toHR un q r h1
   exact SeqAt.in_listAt f (lsl e1 t) hf (.tok fun _ _ _=>rfl)
 | tup l=>
   obtain ⟨b,q,rfl⟩:=τ.mp (show (inD d1 l).map D.bl=some d from e)
   obtain ⟨a,o,vs,rfl,e1,t,r⟩:=h2
   obtain ⟨f,hf,rfl⟩:=ef I.toHR un q r h1
   exact SeqAt.in_tupleAt f (tpt (I.gh _ _ e1) t) hf (.tok fun _ _ _=>rfl)
 | dic ks l=>
   obtain ⟨k,q,rfl⟩:=τ.mp (show ((bE d1).map fun k=>D.bl (dG ks l k).isSome)=some d from e)
   obtain ⟨a,o,vs,rfl,m,e1,t,hl,r⟩:=h2
   exact wpAny_in_of (fh q h1) m (t.of e1).mapOf (by rw [uk hl r];exact .tok fun _ _ _=>rfl)
 | _=>cases e
theorem tK:Op2 X (Ê .NotIn) (opD .notin):=fun z u v d1 d2 d I h1 h2 e=>by
 have un:X.A.in1.units+57<š:=by have:=I.ok.un;show X.A.units+1+57<_;omega
 cases d2 with
 | str y=>cases d1 with
   | str x=>cases e;obtain ⟨t,rfl⟩:=h1;obtain ⟨t',rfl⟩:=h2;exact SB.notContains (.tok fun _ _ _=>rfl)
   | _=>cases e
 | lst l=>
   obtain ⟨b,q,rfl⟩:=τ.mp (show (inD d1 l).map (fun x=>D.bl (!x))=some d from e)
   obtain ⟨a,o,vs,rfl,e1,t,r⟩:=h2
   obtain ⟨f,hf,rfl⟩:=ef I.toHR un q r h1
   exact SeqAt.notIn_listAt f (lsl e1 t) hf (.tok fun _ _ _=>rfl)
 | tup l=>
   obtain ⟨b,q,rfl⟩:=τ.mp (show (inD d1 l).map (fun x=>D.bl (!x))=some d from e)
   obtain ⟨a,o,vs,rfl,e1,t,r⟩:=h2
   obtain ⟨f,hf,rfl⟩:=ef I.toHR un q r h1
   exact SeqAt.notIn_tupleAt f (tpt (I.gh _ _ e1) t) hf (.tok fun _ _ _=>rfl)
 | dic ks l=>
   obtain ⟨k,q,rfl⟩:=τ.mp (show ((bE d1).map fun k=>D.bl (!(dG ks l k).isSome))=some d from e)
   obtain ⟨a,o,vs,rfl,m,e1,t,hl,r⟩:=h2
   exact wpAny_notIn_of (fh q h1) m (t.of e1).mapOf (by rw [uk hl r];exact .tok fun _ _ _=>rfl)
 | _=>cases e
def Af (X:Cx) (z:Z) (u i:η) (d:D):Prop:=∃ T id,Hx (.type T) "__getitem__" = pure (some (.builtin id))∧z.s.TypeIs u T∧Α X.M X.A (Ek u i) (Dn X z d) NoE z.s
theorem RDs.at (r:RDs W ρ G ds vs) (e:atI ds i=some d):∃ v,atI vs i=some v∧RD W ρ G d v:=by
 unfold atI at e ⊢
 rw [← r.len]
 cases q:ixN ds.length i with
 | none=>rw [q] at e;cases e
 | some j=>rw [q] at e;exact r.get e
theorem Do {d1 d2:D} {u v:η} (I:Rep X z) (h1:CR X.W z d1 u) (h2:CR X.W z d2 v) (e:ixD d1 d2=some d):Af X z u v d:=by
 have hn:=gO
 cases d1 with
 | tup l=>cases d2 with
   | int i=>
     obtain ⟨a,o,vs,rfl,e1,t,r⟩:=h1
     obtain ⟨tk,rfl⟩:=h2
     obtain ⟨w,ew,rw'⟩:=r.at (show atI l i=some d from e)
     obtain ⟨j,g1,g2,g3,g4,g5⟩:=jb ew
     have p:=tpt (I.gh _ _ e1) t
     have hz:=t.2.2
     exact ⟨_,_,Hz.lookup,⟨_,I.gh _ _ e1,t.1⟩,getItem_tuple (j:=j) p (by omega) (by omega) g1 (by simpa using g2) (.old I .refl rw')⟩
   | _=>cases e
 | lst l=>cases d2 with
   | int i=>
     obtain ⟨a,o,vs,rfl,e1,t,r⟩:=h1
     obtain ⟨tk,rfl⟩:=h2
     obtain ⟨w,ew,rw'⟩:=r.at (show atI l i=some d from e)
     obtain ⟨j,g1,g2,g3,g4,g5⟩:=jb ew
     have p:=lsl e1 t
     have hz:=t.2
     refine ⟨_,_,HS.lookup,p.typeIs,?_⟩
     by_cases h0:0≤i
     ·have hj:i.toNat=j:=by rw [Hb h0 g5] at g1;exact Ϟ g1
      exact wpAny_getItem_list p h0 (by omega) (by rw [hj];simpa using g2) (.old I .refl rw')
     ·have hj:(i+(vs.toArray.size:Int)).toNat=j:=by rw [Gz (by omega) g4] at g1;exact Ϟ g1
      exact wpAny_getItem_list_neg p (by omega) g4 (by omega) (by rw [hj];simpa using g2) (.old I .refl rw')
   | _=>cases e
 | str y=>cases d2 with
   | int i=>
     obtain ⟨hz,e⟩:y.length≤100000∧(atI y.cps.toList i).map (fun c=>D.str ⟨#[c]⟩)=some d:=by
      unfold ixD at e;dsimp only at e;split at e
      ·rename_i c;exact ⟨c,e⟩
      ·cases e
     obtain ⟨c,q,rfl⟩:=τ.mp e
     obtain ⟨t,rfl⟩:=h1
     obtain ⟨t',rfl⟩:=h2
     obtain ⟨j,g1,g2,g3,g4,g5⟩:=jb q
     have hl:y.cps.toList.length=y.length:=by simp [Str.length]
     rw [hl] at g1 g4 g5
     exact ⟨_,_,slot_str_getitem.lookup,û _ y t,getItem_str (c:=c) (by
      have e1:decide (i < -(2 ^ 63:Int))=false:=ZV (by omega)
      have e2:decide (i≥2 ^ 63)=false:=ZV (by omega)
      rw [e1,e2,ĺ]) (by rw [g1];simpa using g2) (.tok fun _ _ _=>⟨_,rfl⟩)⟩
   | _=>cases e
 | dic ks l=>
   have e':((bE d2).bind fun k=>dG ks l k)=some d:=by cases d2 <;> exact e
   obtain ⟨k,q,e'⟩:=Χ.mp e'
   obtain ⟨a,o,vs,rfl,m,e1,t,hl,r⟩:=h1
   obtain ⟨w,ew,rw'⟩:=ul hl r e'
   exact ⟨_,_,PySem.F.slot_dict_getitem.lookup,(t.of e1).typeIs,wpAny_getItem_of (fh q h2) (t.of e1).mapOf ew (.old I .tok rw')⟩
 | _=>cases e
theorem RDs.cut (r:RDs W ρ G ds vs) (lo hi):RDs W ρ G (pO ds lo hi) ((vs.drop (HT.sIx vs.length 0 lo)).take (HT.sIx vs.length vs.length hi - HT.sIx vs.length 0 lo)):=by
 unfold pO
 rw [r.len]
 exact (r.drop _).take _
theorem DB {d1:D} {u vl vu:η} {lo hi:Option Int} (I:Rep X z) (h1:CR X.W z d1 u) (hs:z.s.heap.IsSliceOf sl vl vu .none) (pl:D3 vl lo) (pu:D3 vu hi) (e:slO d1 lo hi=some d):Af X z u (.ref sl) d:=by
 have cl:∀ (vs:List η),((vs.drop (HT.sIx vs.length 0 lo)).take (HT.sIx vs.length vs.length hi - HT.sIx vs.length 0 lo)).length≤vs.length:=fun vs=>by rw [Ł,ù];omega
 cases d1 with
 | tup l=>
   cases e
   obtain ⟨a,o,vs,rfl,e1,t,r⟩:=id h1
   have p:=tpt (I.gh _ _ e1) t
   refine ⟨"tuple",_,Hz.lookup,⟨_,I.gh _ _ e1,t.1⟩,?_⟩
   by_cases w:HT.sIx vs.length 0 lo=0∧HT.sIx vs.length vs.length hi=vs.length
   ·refine HT.getItem_tuple_all p hs pl pu w ?_
    have e:pO l lo hi=l:=by
     unfold pO
     rw [r.len,w.1,w.2,FE,Ī,← r.len,Ŀ]
    rw [e]
    exact .old I .refl h1
   ·exact HT.getItem_tuple_cut p hs pl pu w (.tupn I (r.cut lo hi) (ϧ (cl vs) t.2.2.1)) t.2.2.1
 | lst l=>
   cases e
   obtain ⟨a,o,vs,rfl,e1,t,r⟩:=h1
   refine ⟨"list",_,HS.lookup,(lsl e1 t).typeIs,wpAny_getItem_list_slice (lsl e1 t) hs pl pu .none (by simp) ?_ (by rw [Ν];exact t.2)⟩
   rw [iD]
   exact (Dw.lstn (r.cut lo hi) (ϧ (cl vs) t.2)).dn I
 | str y=>
   obtain ⟨hz,rfl⟩:=aD (show (if y.length≤100000 then some (D.str (Ϥ y lo hi)) else none)=some d from e)
   obtain ⟨t,rfl⟩:=h1
   have fin:Nat.le (Ϥ y lo hi).length ϝ∧∀ t' k,Dn X z (.str (Ϥ y lo hi)) (.str (Ϥ y lo hi) t') { z.s with toks:=k }:=⟨ϧ (Txt.slice_le y _ _) (big hz),fun t' k=>.tok fun _ _ _=>⟨t',rfl⟩⟩
   refine ⟨"str",_,PySem.F.slot_str_getitem.lookup,û _ _ _,?_⟩
   cases pl <;> cases pu
   ·exact Ē (l:=none) (u:=none) (st:=none) hs rfl (Ŭ fin)
   ·exact Ē (l:=none) (u:=some (_,_)) (st:=none) hs rfl (Ŭ fin)
   ·exact Ē (l:=some (_,_)) (u:=none) (st:=none) hs rfl (Ŭ fin)
   ·exact Ē (l:=some (_,_)) (u:=some (_,_)) (st:=none) hs rfl (Ŭ fin)
 | _=>cases e
def Bi1 (X:Cx) (f:η) (b:Bi):Prop:=∀ z u x d,Rep X z→CR X.W z x u→cf b x=some d→Α X.M X.A (call f [u]) (Dn X z d) NoE z.s
def xA (X:Cx) (f:η) (b:Bi):Prop:=∀ z u x d,Rep X z→CR X.W z x u→cf b x=some d→Α X.M X.A (call f [u]) (Dw X z d) NoE z.s
theorem xJ:Bi1 X (.builtin "len") .len:=fun z u x d I h e=>by
 have hn:=gO
 cases x with
 | tup l=>cases e;obtain ⟨a,o,vs,rfl,e1,t,r⟩:=h;have:=t.2.2;rw [r.len];exact len_tuple (tpt (I.gh _ _ e1) t) (by rw [Ν];omega) (.tok fun _ _ _=>⟨_,rfl⟩)
 | lst l=>cases e;obtain ⟨a,o,vs,rfl,e1,t,r⟩:=h;have:=t.2;rw [r.len];exact FT (lsl e1 t) (by rw [Ν];omega) (.tok fun _ _ _=>⟨_,rfl⟩)
 | str y=>
   obtain ⟨hz,rfl⟩:=aD (show (if y.length≤100000 then some (D.int y.length) else none)=some d from e)
   obtain ⟨t,rfl⟩:=h;have:=big hz
   exact len_str (by omega) (.tok fun _ _ _=>⟨_,rfl⟩)
 | dic ks ds=>
   obtain ⟨hz,rfl⟩:=aD (show (if ks.length≤100000 then some (D.int ks.length) else none)=some d from e)
   obtain ⟨a,o,vs,rfl,m,e1,c1,l1,r1⟩:=h
   have n1:(ks.zip vs).length=ks.length:=by rw [Ϸ,← r1.len,l1,Đ]
   have:=big hz
   refine call_len_dict m (c1.of e1) (by rw [n1];omega) ?_
   rw [n1]
   exact .tok fun _ _ _=>⟨_,rfl⟩
 | _=>cases e
theorem qU:Bi1 X (.type "tuple") .tuple:=fun z u x d I h e=>by
 cases x with
 | tup l=>cases e;obtain ⟨a,o,vs,rfl,e1,t,r⟩:=id h;exact call_tuple_same (tpt (I.gh _ _ e1) t) (.old I .refl h)
 | lst l=>
   cases e
   obtain ⟨a,o,vs,rfl,e1,t,r⟩:=h
   refine call_tuple_list (lsl e1 t) (fun h' kp=>?_) (by rw [Ν];exact t.2)
   have nn:z.h h'.objs.size=none:=by
    cases q:z.h h'.objs.size with
    | none=>rfl
    | some o=>exact ZX (ϛ (kp _ o q)) (Ź _)
   exact .tup I r (.hp (t:=z.s.toks) fun b o e=>Ζ _ (kp b o e)) nn (ψ _ rfl) (ui t.2)
 | _=>cases e
theorem uM:xA X (.type "list") .list:=fun z u x d I h e=>by
 cases x with
 | tup l=>
   cases e
   obtain ⟨a,o,vs,rfl,e1,t,r⟩:=h
   obtain ⟨n,hd⟩:=t.2.1
   exact call_list_seq a (.inr rfl) (I.gh _ _ e1) t.1 hd (fun h' c' kp e=>.lst r (.hp (t:=z.s.toks) kp) (aG z) e t.2.2.1) (by rw [Ν];exact t.2.2.1)
 | lst l=>
   cases e
   obtain ⟨a,o,vs,rfl,e1,⟨⟨n,rfl⟩,hz⟩,r⟩:=h
   exact call_list_seq a (.inl rfl) e1 rfl rfl (fun h' c' kp e=>.lst r (.hp (t:=z.s.toks) kp) (aG z) e hz) (by rw [Ν];exact hz)
 | _=>cases e
theorem HR.sysm (I:HR X z):Hy<z.s.heap.objs.size:=Nat.lt_trans (by decide) (I.md.glob.keeps fun b o e=>I.gh _ _ (I.bs b o e)).lt
theorem xK:Bi1 X (.type "str") .str:=fun z u x d I h e=>by
 cases x with
 | int i=>obtain ⟨hz,rfl⟩:=aD (show (if i.natAbs.log2<1920 then some (D.str (Ñ (toString i))) else none)=some d from e);obtain ⟨t,rfl⟩:=h;exact PySem.P.str_of_int hz (.tok fun _ _ _=>⟨_,rfl⟩)
 | str y=>cases e;obtain ⟨t,rfl⟩:=h;exact PySem.P.str_of_str (.old I .refl ⟨t,rfl⟩)
 | _=>cases e
theorem xI:Bi1 X (.type "int") .int:=fun z u x d I h e=>by
 cases x with
 | int i=>cases e;obtain ⟨t,rfl⟩:=h;exact call_int_int (.tok fun _ _ _=>⟨_,rfl⟩)
 | bl i=>cases e;cases (show u=ϡ i from h);exact call_int_bool (.tok fun _ _ _=>⟨_,rfl⟩)
 | str y=>
   obtain ⟨hz,e⟩:y.length≤640∧(ñ y).map D.int=some d:=by
    unfold cf at e;dsimp only at e;split at e
    ·rename_i c;exact ⟨c,e⟩
    ·cases e
   obtain ⟨n,q,rfl⟩:=τ.mp e
   obtain ⟨t,rfl⟩:=h
   exact PySem.W.KIN.call_text q hz (.tok fun _ _ _=>⟨_,rfl⟩)
 | _=>cases e
theorem kN:∀ {l ns vs},cN l=some ns→RDs W ρ G l vs→Ey vs ns
 | [],ns,vs,e,r=>by cases e;cases (show vs = [] from r);exact .nil
 | d :: l,ns,vs,e,r=>by
   cases d with
   | int b=>
     obtain ⟨cs,q,rfl⟩:=τ.mp (show (cN l).map (b :: ·)=some ns from e)
     obtain ⟨v,r',rfl,⟨t,rfl⟩,tl⟩:=r
     exact .cons b t (kN q tl)
   | _=>cases e
def Bi2 (X:Cx) (f:η) (b:Bi):Prop:=∀ z u v x y d,Rep X z→CR X.W z x u→CR X.W z y v→Ak b x y=some d→Α X.M X.A (call f [u,v]) (Dn X z d) NoE z.s
theorem uO (hc:X.calm=true):Bi2 X (.builtin "max") .max2:=fun z u v x y d I h1 h2 e=>by
 cases x with
 | int i=>cases y with
   | int j=>
     cases e;obtain ⟨t,rfl⟩:=h1;obtain ⟨t',rfl⟩:=h2
     refine max_two_ints (I.hd hc) fun h' tk k=>⟨.hp k,?_⟩
     by_cases hj:j>i
     ·rw [ZZ hj,ZZ hj];exact ⟨_,rfl⟩
     ·rw [ZY hj,ZY hj];exact ⟨_,rfl⟩
   | _=>cases e
 | _=>cases e
theorem uP (hc:X.calm=true):Bi2 X (.builtin "min") .min2:=fun z u v x y d I h1 h2 e=>by
 cases x with
 | int i=>cases y with
   | int j=>
     cases e;obtain ⟨t,rfl⟩:=h1;obtain ⟨t',rfl⟩:=h2
     refine min_two_ints (I.hd hc) fun h' tk k=>⟨.hp k,?_⟩
     by_cases hj:j<i
     ·rw [ZZ hj,ZZ hj];exact ⟨_,rfl⟩
     ·rw [ZY hj,ZY hj];exact ⟨_,rfl⟩
   | _=>cases e
 | _=>cases e
def tyN:Bi→String
 | .isTup=>"tuple" | .isStr=>"str" | .isBool=>"bool" | .isInt=>"int" | .isDic=>"dict" | _=>"list"
theorem Al (hb:b = .isTup∨b = .isStr∨b = .isBool∨b = .isInt∨b = .isLst∨b = .isDic) {u:η} (I:Rep X z) (h:CR X.W z x u) (e:cf b x=some d):Α X.M X.A (call (.builtin "isinstance") [u,.type (tyN b)]) (Dn X z d) NoE z.s:=by
 have kin:X.K.In z.s.heap:=I.md.kin.keeps fun b o e=>I.gh _ _ (I.bs b o e)
 have go:∀ {tn:String},cf b x=(GG [] (.type tn) (.type (tyN b))).map D.bl→(∀ v,GG [] (.type tn) (.type (tyN b))=some v→(∀ n,Dn X z (.bl v) (.bool v) { z.s with toks:=n })→Α X.M X.A (call (.builtin "isinstance") [u,.type (tyN b)]) (Dn X z (.bl v)) NoE z.s)→Α X.M X.A (call (.builtin "isinstance") [u,.type (tyN b)]) (Dn X z d) NoE z.s:=fun q k=>by
  rw [q] at e
  obtain ⟨v,e1,rfl⟩:=τ.mp e
  exact k v e1 fun n=>.tok fun _ _ _=>rfl
 cases x with
 | non=>cases (show u=Ϣ from h);exact go (tn:="NoneType") (by rcases hb with rfl | rfl | rfl | rfl | rfl | rfl <;> kernel_rfl) fun v q k=>å PySem.W.kitx_none kin Ő q (fun z=>nomatch z) k
 | bl y=>cases (show u=ϡ y from h);exact go (tn:="bool") (by rcases hb with rfl | rfl | rfl | rfl | rfl | rfl <;> kernel_rfl) fun v q k=>å PySem.W.kitx_bool kin Ő q (fun z=>nomatch z) k
 | int y=>obtain ⟨t,rfl⟩:=(show ∃ t,u=Ģ y t from h);exact go (tn:="int") (by rcases hb with rfl | rfl | rfl | rfl | rfl | rfl <;> kernel_rfl) fun v q k=>å PySem.W.kitx_int kin Ő q (fun z=>nomatch z) k
 | str y=>obtain ⟨t,rfl⟩:=(show ∃ t,u=Value.str y t from h);exact go (tn:="str") (by rcases hb with rfl | rfl | rfl | rfl | rfl | rfl <;> kernel_rfl) fun v q k=>å PySem.W.kitx_str kin Ő q (fun z=>nomatch z) k
 | tup l=>obtain ⟨a,o,vs,rfl,e1,t,r⟩:=h;exact go (tn:="tuple") (by rcases hb with rfl | rfl | rfl | rfl | rfl | rfl <;> kernel_rfl) fun v q k=>å PySem.W.kitx_tuple kin ⟨o,I.gh _ _ e1,t.1⟩ q (fun z=>nomatch z) k
 | lst l=>obtain ⟨a,o,vs,rfl,e1,⟨⟨n,rfl⟩,_⟩,r⟩:=h;exact go (tn:="list") (by rcases hb with rfl | rfl | rfl | rfl | rfl | rfl <;> kernel_rfl) fun v q k=>å PySem.W.kitx_list kin ⟨_,e1,rfl⟩ q (fun z=>nomatch z) k
 | dic ks l=>obtain ⟨a,o,vs,rfl,m,e1,⟨_,_,c,_⟩,hl,r⟩:=h;exact go (tn:="dict") (by rcases hb with rfl | rfl | rfl | rfl | rfl | rfl <;> kernel_rfl) fun v q k=>å PySem.W.kitx_dict kin ⟨o,e1,c.1⟩ q (fun z=>nomatch z) k
 | _=>rcases hb with rfl | rfl | rfl | rfl | rfl | rfl <;> cases e
end
end L2.Ev
end
section
namespace L2.Ev
def toB (d:D) (s:Sta):Out Bool:=match d with | .bl b=>.ok b s | _=>.bad
def RT (_:Z) (b c:Bool):Prop:=c=b
def RVs (W:Wd) (br:Bool):E→Z→List D→List η→Prop
 | .cons a r,z,d :: ds,u :: us=>RV W br a z d u∧RVs W br r z ds us
 | .nil,_,[],[]=>True
 | _,_,_,_=>False
def LE (X:Cx) (e:Ο) (c:E):Prop:=∀ br,Jg X (eval e X.env) (X.ev br c) (RV X.W br c)
def LF (X:Cx) (e:Ο) (c:E):Prop:=∀ z,Rep X z→X.ev false c z.t≠.bad→Wp X (eval e X.env) z (X.ev false c z.t) (FV X z)
def LT (X:Cx) (e:Ο) (c:E):Prop:=Jg X (Fw e X.env (eval e X.env)) (fun t=>(X.ev true c t).bind toB) RT
def LW (X:Cx) (e:Ο) (c:E):Prop:=∀ wh,Jg X (Fw e X.env wh) (fun t=>(X.ev true c t).bind toB) RT
def LA (X:Cx) (es:List Ο) (c:E):Prop:=∀ br pos,Jg X (spliced (Ö pos (Ξ es X.env))) (X.evs br c) (RVs X.W br c)
theorem ak (x:Out α) (f:α→Sta→Out β) (g:β→Sta→Out γ):(x.bind f).bind g=x.bind fun a s=>(f a s).bind g:=by cases x <;> rfl
theorem B4 (h:RB X.W z (.bl b) u) (I:Rep X z):u = .bool b:=(h.cr0 I:RD X.W z.ρ z.G (.bl b) u)
section
variable {X:Cx} {z z0 z1:Z} {br:Bool}
theorem Rep.bk (I:HR X z):∀ b o,X.base.get? b=some o→z.s.heap.get? b=some o:=fun b o e=>I.gh _ _ (I.bs b o e)
theorem HR.kin (I:HR X z):X.K.In z.s.heap:=I.md.kin.keeps (Rep.bk I)
theorem cR {i:Nat} {x:θ} {Q:η→ς→Prop} {E:η→ς→Prop} (I:Rep X z) (hN:X.N[i]? = some x) (hv:Vis X.env.scope x) (e:z.σ[i]? = some (some u)) (q:Q u z.s) (hd:(x == ("__debug__":θ))=false) (hc:(x == ("__classdict__":θ))=false):Α X.M X.A (eval (.Name x pos) X.env) Q E z.s:=by
 obtain ⟨m,hn,hl⟩:=I.lo
 rcases hl i x u hN e hv with ⟨hk,hm⟩ | ⟨hk,c,hc',hcell⟩
 ·exact Hv (wpAny_loadName_local I.ok.kd hk hn hm q) hd
 ·rcases hk with hk | hk
  ·exact Hv (wpAny_loadName_cell I.ok.kd hk hc' hcell q) hd
  ·exact Hv (wpAny_loadName_free I.ok.kd hk hc' hcell q hc) hd
theorem Rep.slot {i:Nat} {d:D} (I:Rep X z) (e:z.t.env[i]? = some (some d)):∃ u,z.σ[i]? = some (some u)∧RB X.W z d u:=by
 by_cases m:i∈z.t.ow
 ·obtain ⟨d',a,o,h1,h2,_⟩:=I.eo i m
  exact ⟨_,h2,.inr ⟨i,m,h2,e⟩⟩
 ·obtain ⟨u,q,r⟩:=I.en i d m e
  exact ⟨u,q,.inl r⟩
theorem vC {i:Nat} {x:θ} (hN:X.N[i]? = some x) (hv:Vis X.env.scope x) (hd:(x == ("__debug__":θ))=false) (hc:(x == ("__classdict__":θ))=false):LE X (.Name x pos) (.v i):=fun br z I nb=>by
 have en:∃ d,z.t.env[i]? = some (some d):=by
  cases q:z.t.env[i]? with
  | none=>exact ZX (show X.ev br (.v i) z.t = .bad by show (match z.t.env[i]? with | some (some d)=>Out.ok d (if br then z.t else un z.t i) | _=>.bad)=_;rw [q]) nb
  | some o=>cases o with
    | none=>exact ZX (show X.ev br (.v i) z.t = .bad by show (match z.t.env[i]? with | some (some d)=>Out.ok d (if br then z.t else un z.t i) | _=>.bad)=_;rw [q]) nb
    | some d=>exact ⟨d,rfl⟩
 obtain ⟨d,q⟩:=en
 have e:X.ev br (.v i) z.t = .ok d (if br then z.t else un z.t i):=by show (match z.t.env[i]? with | some (some d)=>Out.ok d (if br then z.t else un z.t i) | _=>.bad)=_;rw [q]
 obtain ⟨u,q1,r⟩:=I.slot q
 rw [e]
 refine cR I hN hv q1 ?_ hd hc
 cases br with
 | true=>
   refine ⟨z,d,rfl,rfl,.refl,I,?_⟩
   by_cases m:i∈z.t.ow
   ·exact .inr ⟨rfl,i,rfl,m,q1,q⟩
   ·obtain ⟨u',q2,r2⟩:=I.en i d m q
    rw [q1] at q2;cases q2;exact .inl r2
 | false=>
   obtain ⟨I2,x2⟩:=I.rel (fun j=>j != i)
   refine ⟨z.rel fun j=>j != i,d,rfl,rfl,x2,I2,?_⟩
   obtain ⟨u',q2,r2⟩:=I2.en i d (fun m=>by simp [Z.rel] at m) q
   rw [show z.σ[i]? = some (some u') from q2] at q1;cases q1;exact .inl r2
theorem vm (h:∀ z,Α X.M X.A (eval e X.env) (Dn X z d) NoE z.s):LE X e (.c d):=fun br z I nb=>Η (ό I.tk (h z)) (fun _ _ k=>k.2.pe I k.1) fun _ _ z=>z.2.elim
theorem wZ:LE X (.Constant .none j pos) (.c .non):=vm fun _=>Ś (.tok fun _ _ _=>rfl)
theorem AQ:LE X (.Constant (.bool b) j pos) (.c (.bl b)):=vm fun _=>Constant_bool (.tok fun _ _ _=>rfl)
theorem wY:LE X (.Constant (.int i) j pos) (.c (.int i)):=vm fun _=>Hw (.tok fun _ _ _=>⟨_,rfl⟩)
theorem w8:LE X (.Constant (.str x) j pos) (.c (.str x)):=vm fun _=>Ϩ (.tok fun _ _ _=>⟨_,rfl⟩)
def Gl (X:Cx) (x:θ):Prop:=X.env.kindOf x=some .globalImplicit
theorem aR {Q:η→ς→Prop} {E:η→ς→Prop} (I:Rep X z) (hg:Gl X x) (hm:X.mg x=some u) (h:Q u z.s) (hd:(x == ("__debug__":θ))=false):Α X.M X.A (eval (.Name x pos) X.env) Q E z.s:=
 Ez I.ok.kd hg (Calls.loadGlobal_global (by rw [I.ok.gl];exact I.md.glob.keeps (Rep.bk I.toHR)) hm h) hd
theorem yy {Q:η→ς→Prop} {E:η→ς→Prop} (I:Rep X z) (hg:Gl X x) (hm:X.mg x=none) (hv:þ x=some u) (h:Q u z.s) (hn:x≠"__name__") (hd:(x == ("__debug__":θ))=false):Α X.M X.A (eval (.Name x pos) X.env) Q E z.s:=by
 obtain ⟨mb,h1,h2⟩:=I.md.blt
 exact Ez I.ok.kd hg (Calls.loadGlobal_builtin (by rw [I.ok.gl];exact I.md.glob.keeps (Rep.bk I.toHR)) hm (by rw [I.ok.bl];exact h1.keeps (Rep.bk I.toHR)) ((h2 x hn).trans hv) h) hd
def aV (K:ο):L2.Bk.Dk→η→Bool
 | .str x,v=>(match v with | .str y _=>decide (y=x) | _=>false)
 | .int i,v=>(match v with | .int j _=>decide (j=i) | _=>false)
 | .bl b,v=>(match v with | .bool c=>decide (c=b) | _=>false)
 | .non,v=>(match v with | .none=>true | _=>false)
 | .tup ds,v=>(match v with
   | .ref a=>(match K.lookup a with
     | some o=>o.cls == .type "tuple" && o.dict.isNone && (match o.data with | .seq its _=>decide (its.size≤1000) && lookDs K ds its.toList | _=>false)
     | none=>false)
   | _=>false)
where lookDs (K:ο):List L2.Bk.Dk→List η→Bool
 | [],vs=>vs.isEmpty
 | d :: ds,vs=>(match vs with | v :: r=>aV K d v && lookDs K ds r | []=>false)
mutual
theorem tR {K:ο} {G:Hp} (k:∀ a o,K.lookup a=some o→G a=some o):∀ d v,aV K d v=true→RD W ρ G (toD d) v
 | .str x,v,h=>by cases v <;> simp only [aV] at h <;> first | cases h | exact ⟨_,by rw [of_decide_eq_true h]⟩
 | .int x,v,h=>by cases v <;> simp only [aV] at h <;> first | cases h | exact ⟨_,by rw [of_decide_eq_true h]⟩
 | .bl x,v,h=>by cases v <;> simp only [aV] at h <;> first | cases h | exact (by rw [of_decide_eq_true h];rfl)
 | .non,v,h=>by cases v <;> simp only [aV] at h <;> first | exact (rfl:RD W ρ G .non .none) | cases h
 | .tup ds,v,h=>by
   cases v with
   | ref a=>
     simp only [aV] at h
     cases q:K.lookup a with
     | none=>rw [q] at h;cases h
     | some o=>
       rw [q] at h
       dsimp only at h
       rw [ω] at h
       rw [ω] at h
       obtain ⟨⟨h1,h3⟩,h2⟩:=h
       cases qd:o.data with
       | seq its n=>
         rw [qd] at h2
         dsimp only at h2
         rw [ω] at h2
         have hz:its.size≤1000:=of_decide_eq_true h2.1
         exact ⟨a,o,its.toList,rfl,k a o q,⟨by simpa using h1,⟨n,by simpa using qd⟩,(by rw [ũ,í];omega),by simpa using h3⟩,o6 k ds _ h2.2⟩
       | _=>rw [qd] at h2;cases h2
   | _=>simp [aV] at h
theorem o6 {K:ο} {G:Hp} (k:∀ a o,K.lookup a=some o→G a=some o):∀ ds vs,aV.lookDs K ds vs=true→RDs W ρ G (toD.toDs ds) vs
 | [],vs,h=>by cases vs with
   | nil=>exact rfl
   | cons _ _=>simp [aV.lookDs] at h
 | d :: ds,vs,h=>by cases vs with
   | nil=>simp [aV.lookDs] at h
   | cons v r=>
     simp only [aV.lookDs,ω] at h
     exact .cons (tR k d v h.1) (o6 k ds r h.2)
end
theorem HR.top (I:HR X z) (h:aV X.K d u=true):RD X.W z.ρ z.G (toD d) u:=tR (fun a o e=>I.bs a o (I.md.kin a o e)) d u h
theorem Dq {j:Nat} (hg:Gl X x) (hm:X.mg x=some u) (hd:(x == ("__debug__":θ))=false) (e:X.Γ.gl[j]? = some d) (h:aV X.K d u=true):LE X (.Name x pos) (.g j):=fun br z I nb=>by
 have q:X.ev br (.g j) z.t = .ok (toD d) z.t:=by show Out.of z.t (X.Γ.gl[j]?.map toD)=_;rw [e];rfl
 rw [q]
 exact aR I hg hm ⟨z,toD d,rfl,rfl,.refl,I,.of (I.toHR.top h)⟩ hd
theorem BG {o:Op} (ho:Op2 X (ļ op) (opD o)) (ha:LE X ea a) (hb:LE X eb b):LE X (.BinOp ea op eb pos) (.op o a b):=fun br z I nb=>
 Ha ((ha true).go .refl I rfl nb fun z1 x u y1 x1 I1 r1 e1=>(hb true).go x1 I1 e1 nb fun z2 y v y2 x2 I2 r2 e2=>b6 x2 I2 e2 nb fun d q=>ho z2 u v _ _ d I2 ((r1.rb.st y2 I2).cr I2) (r2.rb.cr I2) q)
theorem yD {o:Op} (ho:Op2 X (Ê op) (opD o)) (ha:LE X ea a) (hb:LE X eb b) (hm:Á op eb=false):LE X (.Compare ea [op] [eb] pos) (.op o a b):=fun br z I nb=>
 Ļ ((ha true).go .refl I rfl nb fun z1 x u y1 x1 I1 r1 e1=>(hb true).go x1 I1 e1 nb fun z2 y v y2 x2 I2 r2 e2=>b6 x2 I2 e2 nb fun d q=>ho z2 u v _ _ d I2 ((r1.rb.st y2 I2).cr I2) (r2.rb.cr I2) q) hm
theorem Dn.tru {o:Out Bool} {s':ς} (x:Ee X z0 z) (I:Rep X z) (e:o=(Out.ok d z.t).bind toB) (nb:o≠.bad) (h:Dn X z d u s') (tk:X.tz≤s'.toks:=by first | assumption | exact HR.tk (by assumption) | exact HR.tk1 (by assumption) | exact (Rep.toHR (by assumption)).tk | exact (Rep.toHR (by assumption)).tk1 | exact Ϡ (by assumption)):Α X.M X.A (truthy u) (Pe X z0 o RT) (Px X z0 o) s':=by
 cases d with
 | bl b=>
   cases (show u=ϡ b from h.2)
   exact ϵ ⟨z.up s',b,rfl,e,x.trans (cb I.gh h.1).ee,I.grow (cb I.gh h.1) tk,rfl⟩
 | _=>exact ZX e nb
theorem zb {o:Op} (ho:Op2 X (Ê op) (opD o)) (ha:LE X ea a) (hb:LE X eb b) (hm:Á op eb=false):LT X (.Compare ea [op] [eb] pos) (.op o a b):=fun z I nb=>
 Ù ((ha true).go .refl I (ak ..) nb fun z1 x u y1 x1 I1 r1 e1=>(hb true).go x1 I1 (e1.trans (ak ..)) nb fun z2 y v y2 x2 I2 r2 e2=>by
  cases q:opD o (look z2.t.st x) (look z2.t.st y) with
  | none=>rw [q] at e2;exact ZX e2 nb
  | some d=>rw [q] at e2;exact Η (ό I2.tk (ho z2 u v _ _ d I2 ((r1.rb.st y2 I2).cr I2) (r2.rb.cr I2) q)) (fun c s' k=>k.2.tru x2 I2 e2 nb k.1) fun _ _ z=>z.2.elim) hm
theorem jI (I:Rep X z) (h:RB X.W z d u):(u == Ϣ)=kt d:=by
 rcases h with h | ⟨i,m,e1,e2⟩
 ·cases d with
  | non=>cases (show u=_ from h);rfl
  | bl b=>cases (show u=_ from h);rfl
  | int b=>obtain ⟨t,rfl⟩:=h;rfl
  | str b=>obtain ⟨t,rfl⟩:=h;rfl
  | tup l=>obtain ⟨a,_,_,rfl,_⟩:=h;rfl
  | lst l=>obtain ⟨a,_,_,rfl,_⟩:=h;rfl
  | dic k l=>obtain ⟨a,_,_,rfl,_⟩:=h;rfl
  | ins c l=>obtain ⟨a,_,_,rfl,_⟩:=h;rfl
  | ref n=>obtain ⟨a,_,rfl⟩:=h;rfl
 ·obtain ⟨d',a,o,h1,h2,h3,_⟩:=I.eo i m
  rw [e1] at h2;cases h2
  rw [e2] at h1;cases h1
  cases d <;> first | rfl | cases h3
theorem cM (b:Bool) {z:Z}:Dn X z (.bl b) (.bool b) z.s:=.tok (n:=z.s.toks) fun _ _ _=>rfl
theorem yH (ha:LE X ea a) (h1:Á .Is (.Constant .none j pos')=false):LE X (.Compare ea [.Is] [.Constant .none j pos'] pos) (.isN a):=fun br z I nb=>
 Ļ ((ha true).go .refl I rfl nb fun z1 x u y1 x1 I1 r1 e1=>Ś (is_none_gen (by rw [jI I1 r1.rb];exact (cM _).at x1 I1 e1))) h1
theorem vq (ha:LE X ea a) (h1:Á .IsNot (.Constant .none j pos')=false):LE X (.Compare ea [.IsNot] [.Constant .none j pos'] pos) (.isNN a):=fun br z I nb=>
 Ļ ((ha true).go .refl I rfl nb fun z1 x u y1 x1 I1 r1 e1=>Ś (isnot_none_gen (by rw [jI I1 r1.rb];exact (cM _).at x1 I1 e1))) h1
theorem zc (ha:LE X ea a) (h1:Á .Is (.Constant .none j pos')=false):LT X (.Compare ea [.Is] [.Constant .none j pos'] pos) (.isN a):=fun z I nb=>
 Ù ((ha true).go .refl I (ak ..) nb fun z1 x u y1 x1 I1 r1 e1=>Ś (is_none_gen (by rw [jI I1 r1.rb];exact (cM _).tru x1 I1 e1 nb))) h1
theorem v6 (ha:LE X ea a) (h1:Á .IsNot (.Constant .none j pos')=false):LT X (.Compare ea [.IsNot] [.Constant .none j pos'] pos) (.isNN a):=fun z I nb=>
 Ù ((ha true).go .refl I (ak ..) nb fun z1 x u y1 x1 I1 r1 e1=>Ś (isnot_none_gen (by rw [jI I1 r1.rb];exact (cM _).tru x1 I1 e1 nb))) h1
theorem yL (ha:LE X ea a):LE X (.UnaryOp .USub ea pos) (.neg a):=fun br z I nb=>
 UnaryOp_ ((ha true).go .refl I rfl nb fun z1 x u y1 x1 I1 r1 e1=>by
  cases x with
  | int i=>obtain ⟨t,rfl⟩:=(r1.rb.cr0 I1:CR X.W z1 (.int i) u);exact neg_int ((Dn.tok fun _ _ _=>⟨_,rfl⟩:Dn X z1 (.int (-i)) _ _).at x1 I1 e1)
  | _=>exact ZX e1 nb)
theorem yN (ha:LE X ea a):LE X (.UnaryOp .Not ea pos) (.not a):=fun br z I nb=>
 UnaryOp_ ((ha true).go .refl I rfl nb fun z1 x u y1 x1 I1 r1 e1=>by
  cases x with
  | bl b=>cases B4 r1.rb I1;exact not_of (ϵ ((cM _).at x1 I1 e1))
  | _=>exact ZX e1 nb)
theorem yz (ha:LE X ea a) (hb:LE X (.BoolOp .And (eb :: r) pos) b):LE X (.BoolOp .And (ea :: eb :: r) pos) (.and a b):=fun br z I nb=>
 BoolOp_and ((ha false).go .refl I rfl nb fun z1 x u y1 x1 I1 r1 e1=>by
  cases x with
  | bl c=>
    cases (show u=ϡ c from r1.rd)
    refine ϵ ?_
    cases c with
    | true=>exact Η ((hb false).at x1 I1 e1 nb) (fun u s' ⟨z',d,e,q,y,I',r⟩=>⟨z',d,e,q,y,I',.of r.rd⟩) fun _ _ h=>h
    | false=>exact (cM _).at x1 I1 e1
  | _=>exact ZX e1 nb)
theorem BH (ha:LE X ea a) (hb:LE X (.BoolOp .Or (eb :: r) pos) b):LE X (.BoolOp .Or (ea :: eb :: r) pos) (.or a b):=fun br z I nb=>
 BoolOp_or ((ha false).go .refl I rfl nb fun z1 x u y1 x1 I1 r1 e1=>by
  cases x with
  | bl c=>
    cases (show u=ϡ c from r1.rd)
    refine ϵ ?_
    cases c with
    | false=>exact Η ((hb false).at x1 I1 e1 nb) (fun u s' ⟨z',d,e,q,y,I',r⟩=>⟨z',d,e,q,y,I',.of r.rd⟩) fun _ _ h=>h
    | true=>exact (cM _).at x1 I1 e1
  | _=>exact ZX e1 nb)
theorem xi (h:LW X e c):LT X e c:=h _
theorem v9 (ha:LT X ea a):LW X (.BoolOp .And [ea] pos) a:=fun wh z I nb=>isTrue_and (thn (ha z I nb) fun c s1 e=>by
 cases c with
 | true=>exact isTrue_and_nil e
 | false=>exact e)
theorem zg (ha:LT X ea a):LW X (.BoolOp .Or [ea] pos) a:=fun wh z I nb=>isTrue_or (thn (ha z I nb) fun c s1 e=>by
 cases c with
 | false=>exact isTrue_or_nil e
 | true=>exact e)
theorem RT.pe (x:Ee X z0 z) (I:Rep X z) (e:o = .ok b z.t):Pe X z0 o RT b z.s:=⟨z,b,rfl,e,x,I,rfl⟩
theorem tB (x:Out D) (f:Bool→Sta→Out β):(x.bind toB).bind f=x.bind fun d s=>match d with | .bl b=>f b s | _=>.bad:=by
 cases x with
 | ok d s=>cases d <;> rfl
 | _=>rfl
theorem ze (ha:LT X ea a) (hb:LW X (.BoolOp .And (eb :: r) pos) b):LW X (.BoolOp .And (ea :: eb :: r) pos) (.tand a b):=fun wh z I nb=>by
 have e:(X.ev true (.tand a b) z.t).bind toB=((X.ev true a z.t).bind toB).bind fun c s=>if c then (X.ev true b s).bind toB else .ok false s:=by
  rw [tB];show Out.bind (Out.bind _ _) _=_;rw [ak];congr 1;funext d s
  cases d <;> first | rfl | (rename_i c;cases c <;> rfl)
 refine isTrue_and (ha.go .refl I e nb fun z1 c u y1 x1 I1 r1 e1=>?_)
 cases (show u=c from r1)
 cases c with
 | true=>exact (hb wh).at x1 I1 e1 nb
 | false=>exact RT.pe x1 I1 e1
theorem BQ (ha:LT X ea a) (hb:LW X (.BoolOp .Or (eb :: r) pos) b):LW X (.BoolOp .Or (ea :: eb :: r) pos) (.tor a b):=fun wh z I nb=>by
 have e:(X.ev true (.tor a b) z.t).bind toB=((X.ev true a z.t).bind toB).bind fun c s=>if c then .ok true s else (X.ev true b s).bind toB:=by
  rw [tB];show Out.bind (Out.bind _ _) _=_;rw [ak];congr 1;funext d s
  cases d <;> first | rfl | (rename_i c;cases c <;> rfl)
 refine isTrue_or (ha.go .refl I e nb fun z1 c u y1 x1 I1 r1 e1=>?_)
 cases (show u=c from r1)
 cases c with
 | false=>exact (hb wh).at x1 I1 e1 nb
 | true=>exact RT.pe x1 I1 e1
theorem zd (ha:LT X ea a):LT X (.UnaryOp .Not ea pos) (.tnot a):=fun z I nb=>by
 have e:(X.ev true (.tnot a) z.t).bind toB=((X.ev true a z.t).bind toB).bind fun c s=>.ok (!c) s:=by
  rw [tB];show Out.bind (Out.bind _ _) _=_;rw [ak];congr 1;funext d s
  cases d <;> rfl
 exact isTrue_not (ha.go .refl I e nb fun z1 c u y1 x1 I1 r1 e1=>by
  cases (show u=c from r1)
  exact RT.pe x1 I1 e1)
theorem yJ (hc:LT X ec c) (ha:LE X ea a) (hb:LE X eb b):LE X (.IfExp ec ea eb pos) (.ite c a b):=fun br z I nb=>by
 have e:X.ev br (.ite c a b) z.t=((X.ev true c z.t).bind toB).bind fun c s=>if c then X.ev false a s else X.ev false b s:=by
  rw [tB];show Out.bind _ _=_;congr 1;funext d s
  cases d <;> first | rfl | (rename_i c;cases c <;> rfl)
 refine wpAny_IfExp (hc.go .refl I e nb fun z1 c u y1 x1 I1 r1 e1=>?_)
 cases (show u=c from r1)
 cases c with
 | true=>exact Η ((ha false).at x1 I1 e1 nb) (fun u s' ⟨z',d,e,q,y,I',r⟩=>⟨z',d,e,q,y,I',.of r.rd⟩) fun _ _ h=>h
 | false=>exact Η ((hb false).at x1 I1 e1 nb) (fun u s' ⟨z',d,e,q,y,I',r⟩=>⟨z',d,e,q,y,I',.of r.rd⟩) fun _ _ h=>h
theorem Cm {d:D} {u:η} (I:Rep X z) (h:CR X.W z d u) (e:wI d=some b):Α X.M X.A (truthy u) (fun c s'=>c=b∧Gr z.s s') NoE z.s:=by
 have hl:=gO
 cases d with
 | non=>cases e;cases (show u=_ from h);exact truthy_none ⟨rfl,.refl⟩
 | bl c=>cases e;cases (show u=_ from h);exact ϵ ⟨rfl,.refl⟩
 | int i=>cases e;obtain ⟨t,rfl⟩:=h;exact PySem.P.truthy_int ⟨rfl,.refl⟩
 | tup l=>
   cases e;obtain ⟨a,o,vs,rfl,e1,t,r⟩:=h;have:=t.2.2
   refine truthy_tuple (tpt (I.gh _ _ e1) t) (by rw [Ν];omega) ⟨?_,.tok⟩
   have:=r.len;cases l <;> cases vs <;> first | rfl | cases this
 | lst l=>
   cases e;obtain ⟨a,o,vs,rfl,e1,t,r⟩:=h;have:=t.2
   refine wpAny_truthy_list (lsl e1 t) (by rw [Ν];omega) ⟨?_,.tok⟩
   have:=r.len;cases l <;> cases vs <;> first | rfl | cases this
 | _=>cases e
theorem BO (ha:LE X ea a) (he:∀ whole,Fw ea X.env whole=(do let v ← whole;Ei ea.pos;holding [v] (truthy v))):LT X ea (.tv a):=fun z I nb=>
 isTrue_plain ((ha true).go .refl I (ak ..) nb fun z1 x u y1 x1 I1 r1 e1=>by
  cases q:wI (look z1.t.st x) with
  | none=>rw [q] at e1;exact ZX e1 nb
  | some b=>
    rw [q] at e1
    refine Η (ό I1.tk (Cm I1 (r1.rb.cr I1) q)) (fun c s' ⟨tk,h,g⟩=>?_) fun _ _ z=>z.2.elim
    subst h
    exact ⟨z1.up s',c,rfl,e1,x1.trans (cb I1.gh g).ee,I1.grow (cb I1.gh g) tk,rfl⟩) (he _)
theorem sA {o p:Op} (ho:Op2 X (Ê op) (opD o)) (hp:Op2 X (Ê op') (opD p)) (ha:LE X ea a) (hb:LE X eb b) (hc:LE X ec c) (hm:Ii [op,op'] [eb,ec]=false):LE X (.Compare ea [op,op'] [eb,ec] pos) (.chain o p a b c):=fun br z I nb=>
 Compare_chain ((ha true).go .refl I rfl nb fun z1 x u y1 x1 I1 r1 e1=>chain_link ((hb true).go x1 I1 e1 nb fun z2 y v y2 x2 I2 r2 e2=>by
  cases q:opD o (look z2.t.st x) (look z2.t.st y) with
  | none=>rw [q] at e2;exact ZX e2 nb
  | some d=>
    rw [q] at e2
    refine Η (ό I2.tk (ho z2 u v _ _ d I2 ((r1.rb.st y2 I2).cr I2) (r2.rb.cr I2) q)) (fun w s' ⟨tk,k⟩=>?_) fun _ _ z=>z.2.elim
    cases d with
    | bl t=>
      cases (show w=ϡ t from k.2)
      have g:=cb I2.gh k.1
      refine ϵ ?_
      cases t with
      | false=>exact ite_ff (k.at x2 I2 e2)
      | true=>exact ite_tt (chain_last ((hc true).go (x2.trans g.ee) (I2.grow g) e2 nb fun z4 w' v' y4 x4 I4 r4 e4=>b6 x4 I4 e4 nb fun d q=>hp z4 v v' _ _ d I4 (((r2.rb.st g.ee (I2.grow g)).st y4 I4).cr I4) (r4.rb.cr I4) q))
    | _=>exact ZX e2 nb)) hm
end
section
variable {X:Cx} {z z0 z1:Z} {br:Bool}
def i8 (b:Ο):Prop:=∀ o i,subscripted b false o i=operate [o,i] (Ek o i)
theorem BE (ha:LE X ea a) (hb:LE X eb b) (hs:i8 eb):LE X (.Subscript ea eb pos) (.ix a b):=fun br z I nb=>
 HG ((ha true).go .refl I rfl nb fun z1 x u y1 x1 I1 r1 e1=>(hb true).go x1 I1 e1 nb fun z2 y v y2 x2 I2 r2 e2=>b6 x2 I2 e2 nb fun d q=>by
  obtain ⟨T,id,h1,h2,h3⟩:=Do I2 ((r1.rb.st y2 I2).cr I2) (r2.rb.cr0 I2) q
  exact tail_any h2 h1 h3 (hs _ _))
def Cx.prt (X:Cx) (c:E) (s:Sta):Out (Option Int):=if bB c then .ok none s else (X.ev true c s).bind toI
def LO (X:Cx) (e:Option Ο) (c:E):Prop:=Jg X (evalPart e X.env) (X.prt c) fun _ o u=>D3 u o
theorem vK:LO X none .nil:=fun z I nb=>by rw [evalPart_none];exact π ⟨z,none,rfl,rfl,.refl,I,.none⟩
theorem vL (n:bB a=false) (ha:LE X ea a):LO X (some ea) a:=fun z I nb=>by
 rw [evalPart_some]
 have e:X.prt a z.t=(X.ev true a z.t).bind toI:=by unfold Cx.prt;rw [n];rfl
 refine (ha true).go .refl I e nb fun z1 x u y1 x1 I1 r1 e1=>?_
 cases x with
 | int i=>obtain ⟨t,rfl⟩:=(r1.rb.cr0 I1:CR X.W z1 (.int i) u);exact ⟨z1,some i,rfl,e1,x1,I1,.int i t⟩
 | _=>exact ZX e1 nb
theorem CR.grow {s':ς} (g:Grw z G' s'):∀ {d},CR W z d u→CR W { z with G:=G',s:=s' } d u
 | .lst _,⟨a,o,vs,e,q,t,r⟩=>⟨a,o,vs,e,g.gr.k _ _ q,t,r.mono (μ _) g.gg⟩
 | .dic _ _,⟨a,o,vs,e,m,q,t,l,r⟩=>⟨a,o,vs,e,m,g.gr.k _ _ q,t,l,r.mono (μ _) g.gg⟩
 | .non,h=>h
 | .bl _,h=>h
 | .int _,h=>h
 | .str _,h=>h
 | .tup _,h=>RD.mono (μ _) g.gg h
 | .ins _ _,h=>RD.mono (μ _) g.gg h
 | .ref _,h=>RD.mono (μ _) g.gg h
theorem BI {lo hi:Option Ο} {pos p2:ϥ} (ha:LE X ea a) (hl:LO X lo l) (hh:LO X hi h):LE X (.Subscript ea (.Slice lo hi none p2) pos) (.sl a l h):=fun br z I nb=>
 HG ((ha true).go (f:=fun x s=>(X.prt l s).bind fun l s=>(X.prt h s).bind fun h s=>.of s (slO (look s.st x) l h)) .refl I rfl nb fun z1 x u y1 x1 I1 r1 e1=>wpAny_Slice (hl.go x1 I1 e1 nb fun z2 lo' vl y2 x2 I2 r2 e2=>hh.go x2 I2 e2 nb fun z3 hi' vu y3 x3 I3 r3 e3=>by
  rw [evalPart_none]
  refine π ?_
  have g:=ao (s':={ z3.s with heap:=z3.s.heap.push { cls:=.type "slice",data:=.fields #[vl,vu,.none] } }) I3.gh (.push (t:=z3.s.toks))
  have I4:=I3.grow g
  show Α X.M X.A (subscriptTail ea (.Slice lo hi none p2) u (.ref z3.s.heap.objs.size)) _ _ { z3.s with heap:=z3.s.heap.push { cls:=.type "slice",data:=.fields #[vl,vu,.none] } }
  refine b6 (z:={ z3 with s:=_ }) (x3.trans g.ee) I4 e3 nb fun d q=>?_
  obtain ⟨T,id,h1,h2,h3⟩:=DB I4 ((((r1.rb.st y2 I2).st y3 I3).cr I3).grow g) (HZ ..) r2 r3 q
  exact tail_any (ops:=[.ref z3.s.heap.objs.size,u]) h2 h1 h3 (by with_unfolding_all rfl)))
theorem RVs.ind {W:Wd} {br:Bool} {z:Z} {P:E→List D→List η→Prop} (hn:P .nil [] []) (hc:∀ a r d ds u us,RV W br a z d u→RVs W br r z ds us→P r ds us→P (.cons a r) (d :: ds) (u :: us)) (c:E):∀ ds us,RVs W br c z ds us→P c ds us:=by
 induction c with
 | nil=>
   intro ds us h
   cases ds with
   | nil=>cases us with
     | nil=>exact hn
     | cons _ _=>exact Ŋ h
   | cons _ _=>exact Ŋ h
 | cons a r _ ih=>
   intro ds us h
   cases ds with
   | nil=>exact Ŋ h
   | cons d ds=>cases us with
     | nil=>exact Ŋ h
     | cons u us=>exact hc a r d ds u us h.1 h.2 (ih ds us h.2)
 | _=>exact fun _ _ h=>Ŋ h
theorem RVs.rds {c ds us} (h:RVs W false c z ds us):RDs W z.ρ z.G ds us:=RVs.ind (P:=fun _ ds us=>RDs W z.ρ z.G ds us) rfl (fun _ _ _ _ _ _ h _ ih=>.cons h.rd ih) c ds us h
theorem sf:LA X [] .nil:=fun br pos z I nb=>Τ ⟨z,[],rfl,rfl,.refl,I,trivial⟩
theorem nZ (ha:LE X ea a) (hr:LA X er r) (hs:Ξ (ea :: er) X.env=(false,eval ea X.env) :: Ξ er X.env):LA X (ea :: er) (.cons a r):=fun br pos z I nb=>by
 rw [hs]
 show Α _ _ (spliced ((false,eval ea X.env) :: Ö pos (Ξ er X.env))) _ _ _
 exact Θ ((ha br).go .refl I rfl nb fun z1 x u y1 x1 I1 r1 e1=>(hr br pos).go x1 I1 e1 nb fun z2 l us y2 x2 I2 r2 e2=>⟨z2,x :: l,rfl,e2,x2,I2,r1.st y2 I2,r2⟩)
theorem l5 (h:LA X es c):LE X (.Tuple es x1 pos) (.tup c):=fun br z I nb=>
 wpAny_Tuple_spliced ((h false pos).go (f:=fun l s=>if l.length≤100000 then Out.ok (D.tup l) s else .bad) .refl I rfl nb fun z1 l us y1 x1 I1 r1 e1=>by
  by_cases c:l.length≤100000
  ·rw [ZZ c] at e1
   have hz:us.length≤ϝ:=by rw [← r1.rds.len];exact big c
   exact ⟨hz,Dn.at x1 I1 e1 (.tupn (t:=z1.s.toks) I1 r1.rds hz)⟩
  ·rw [ZY c] at e1;exact ZX e1 nb)
theorem FV.less (x:Ee X z0 z1) (h:FV X z1 z d u):FV X z0 z d u:=let ⟨a,o,e,n,r⟩:=h;⟨a,o,e,x.st.no n,r⟩
theorem jC (h:LA X es c):LF X (.List es pos) (.lst c):=fun z I nb=>
 DW ((h false pos).go (f:=fun l s=>if l.length≤100000 then Out.ok (D.lst l) s else .bad) .refl I rfl nb fun z1 l us y1 x1 I1 r1 e1=>by
  by_cases c:l.length≤100000
  ·rw [ZZ c] at e1
   have hz:us.length≤ϝ:=by rw [← r1.rds.len];exact big c
   obtain ⟨z2,d,q,q2,y,I2,fv⟩:=(Dw.lstn (X:=X) (t:=z1.s.toks) (n:=0) r1.rds hz).pe I1
   exact ⟨hz,z2,d,q,e1.trans q2,x1.trans y,I2,fv.less x1⟩
  ·rw [ZY c] at e1;exact ZX e1 nb)
theorem FV.rd (x:Ee X z0 z) (I:Rep X z) (h:FV X z0 z d u) (e:o = .ok d z.t):Pe X z0 o (RV X.W br c) u z.s:=by
 obtain ⟨a,ob,rfl,n,t,r,f,no⟩:=h
 obtain ⟨oa,ha⟩:=r.th.1
 have gg:Sub z.G fun b=>if b=a then some oa else z.G b:=fun b o q=>by
  dsimp only
  by_cases c:b=a
  ·subst c;rw [f.1] at q;cases q
  ·rw [ZY c];exact q
 refine ⟨{ z with G:=fun b=>if b=a then some oa else z.G b },d,rfl,e,⟨⟨x.st.pr,x.st.gg.trans gg,fun b o q=>?_,x.st.rn,x.st.th,x.st.sm,x.st.sl⟩,x.sg,x.en,x.ow⟩,I.grw I.tk rfl I.br (fun _ _ e _=>e) (fun _ o e=>⟨o.slots,e⟩) gg (fun b o q=>?_) fun b o q=>?_,.of (jJ t r gg (by dsimp only;rw [ZZ rfl];exact ha.symm))⟩
 ·by_cases c:b=a
  ·subst c;exact .inr (.inl n)
  ·have q:(if b=a then some oa else z.G b)=some o:=q
   rw [ZY c] at q;exact x.st.gn b o q
 ·have q:(if b=a then some oa else z.G b)=some o:=q
  by_cases c:b=a
  ·subst c;rw [ZZ rfl] at q;cases q;exact ha
  ·rw [ZY c] at q;exact I.gh b o q
 ·have q:(if b=a then some oa else z.G b)=some o:=q
  by_cases c:b=a
  ·subst c;exact .inr ⟨f,no⟩
  ·rw [ZY c] at q;exact .inl q
theorem LF.le (h:LF X e c) (hb:∀ br,X.ev br c=X.ev false c):LE X e c:=fun br z I nb=>by
 rw [hb] at nb ⊢
 exact Η (h z I nb) (fun u s' ⟨z',d,q,e,x,I',f⟩=>by subst q;exact f.rd x I' e) fun _ _ h=>h
theorem vF:LF X (.Dict [] [] pos) (.dic .nil):=fun z I nb=>Ie (Dw.pe I ⟨.push (t:=z.s.toks),_,.dic [] [],rfl,aG z,rfl,_,[],rfl,ZU.mpr (Û I.sysm),ψ _ rfl,by
 obtain ⟨o,es,ep,h1,h2,h3,h4,h5,h6⟩:=Ų (knd:=aS X.W.P X.W.w) z.s.heap
 rw [ψ _ rfl] at h1
 cases h1
 exact ⟨es,ep,h2,h3,h4,h5,h6,ϰ _⟩,rfl,rfl⟩)
theorem ev1 (f:List D→Sta→Out β):(X.evs br (.cons a .nil) t).bind f=(X.ev br a t).bind fun x s=>f [x] s:=by
 show ((X.ev br a t).bind fun x s=>Out.ok [x] s).bind f=_
 rw [ak];rfl
theorem ev2 (f:List D→Sta→Out β):(X.evs br (.cons a (.cons b .nil)) t).bind f=(X.ev br a t).bind fun x s=>(X.ev br b s).bind fun y s=>f [x,y] s:=by
 show ((X.ev br a t).bind fun x s=>((X.ev br b s).bind fun y s=>Out.ok [y] s).bind fun l s=>Out.ok (x :: l) s).bind f=_
 rw [ak];congr 1;funext x s;rw [ak,ak];rfl
def Blt (X:Cx) (x:θ) (u:η):Prop:=Gl X x∧X.mg x=none∧þ x=some u∧x≠"__name__"∧(x == ("__debug__":θ))=false
theorem Blt.ld {Q:η→ς→Prop} {E:η→ς→Prop} (h:Blt X x u) (I:Rep X z) (q:Q u z.s):Α X.M X.A (eval (.Name x pos) X.env) Q E z.s:=yy I h.1 h.2.1 h.2.2.1 q h.2.2.2.1 h.2.2.2.2
theorem aH {f:η} {Q:η→ς→Prop} {E:η→ς→Prop} (hf:(∃ id,f = .builtin id)∨∃ T,f = .type T) (hx:Blt X x f) (he:Ξ (e :: er) X.env=(false,eval e X.env) :: Ξ er X.env) (hpl:(Ö pos (Ξ er X.env)).any (·.1)=false) (I:Rep X z)
 (h:Α X.M X.A (spliced ((false,eval e X.env) :: Ö pos (Ξ er X.env))) (fun us s'=>Α X.M X.A (call f us) Q E s') E z.s):Α X.M X.A (eval (.Call (.Name x p) (e :: er) [] pos) X.env) Q E z.s:=by
 refine č (hx.ld I ?_)
 have h:Α X.M X.A (spliced (Ö pos (Ξ (e :: er) X.env))) (fun us s'=>Α X.M X.A (call f us) Q E s') E z.s:=by rw [he];exact h
 rcases hf with ⟨id,rfl⟩ | ⟨T,rfl⟩
 ·exact callWith_builtin1 h he hpl
 ·exact callWith_type1 h he hpl
abbrev FB (f:η):Prop:=(∃ id,f = .builtin id)∨∃ T,f = .type T
theorem yB {f:η} (hb:Bi1 X f b) (hf:FB f) (hx:Blt X x f) (ha:LE X ea a) (he:Ξ [ea] X.env=(false,eval ea X.env) :: Ξ [] X.env):LE X (.Call (.Name x p) [ea] [] pos) (.bi b (.cons a .nil)):=fun br z I nb=>
 aH hf hx he rfl I (Θ ((ha true).go .refl I (ev1 fun l s=>Out.of s (biD b (l.map (look s.st)))) nb fun z1 x u y1 x1 I1 r1 e1=>Τ (b6 x1 I1 e1 nb fun d q=>hb z1 _ _ d I1 (r1.rb.cr I1) q)))
theorem yU {f:η} (hb:xA X f b) (hf:FB f) (hx:Blt X x f) (ha:LE X ea a) (he:Ξ [ea] X.env=(false,eval ea X.env) :: Ξ [] X.env):LF X (.Call (.Name x p) [ea] [] pos) (.bi b (.cons a .nil)):=fun z I nb=>
 aH hf hx he rfl I (Θ ((ha true).go .refl I (ev1 fun l s=>Out.of s (biD b (l.map (look s.st)))) nb fun z1 x u y1 x1 I1 r1 e1=>Τ (by
  cases q:cf b (look z1.t.st x) with
  | none=>exact ZX (e1.trans (show Out.of z1.t (cf b (look z1.t.st x)) = .bad by rw [q];rfl)) nb
  | some d=>
    refine Η (ό I1.tk (hb z1 _ _ d I1 (r1.rb.cr I1) q)) (fun v s' ⟨tk,k⟩=>?_) fun _ _ z=>z.2.elim
    obtain ⟨z2,d,q1,q2,y,I2,fv⟩:=k.pe I1
    exact ⟨z2,d,q1,(e1.trans (show Out.of z1.t (cf b (look z1.t.st x))=_ by rw [q];rfl)).trans q2,x1.trans y,I2,fv.less x1⟩)))
theorem yC {f:η} (hb:Bi2 X f b) (hf:FB f) (hx:Blt X x f) (ha:LE X ea a) (hc:LE X ec c) (he:Ξ [ea,ec] X.env=(false,eval ea X.env) :: Ξ [ec] X.env) (he2:Ξ [ec] X.env=(false,eval ec X.env) :: Ξ [] X.env):LE X (.Call (.Name x p) [ea,ec] [] pos) (.bi b (.cons a (.cons c .nil))):=fun br z I nb=>
 aH hf hx he (by rw [he2];rfl) I (by
  rw [he2]
  exact Θ ((ha true).go .refl I (ev2 fun l s=>Out.of s (biD b (l.map (look s.st)))) nb fun z1 x u y1 x1 I1 r1 e1=>Θ ((hc true).go x1 I1 e1 nb fun z2 y v y2 x2 I2 r2 e2=>Τ (b6 x2 I2 e2 nb fun d q=>hb z2 _ _ _ _ d I2 ((r1.rb.st y2 I2).cr I2) (r2.rb.cr I2) q))))
theorem BD (hb:b = .isTup∨b = .isStr∨b = .isBool∨b = .isInt∨b = .isLst∨b = .isDic) (hx:Blt X "isinstance" (.builtin "isinstance")) (ht:Blt X x (.type (tyN b))) (ha:LE X ea a) (he:Ξ [ea,.Name x q] X.env=(false,eval ea X.env) :: Ξ [.Name x q] X.env):LE X (.Call (.Name "isinstance" p) [ea,.Name x q] [] pos) (.bi b (.cons a .nil)):=fun br z I nb=>
 aH (.inl ⟨_,rfl⟩) hx he rfl I (Θ ((ha true).go .refl I (ev1 fun l s=>Out.of s (biD b (l.map (look s.st)))) nb fun z1 x u y1 x1 I1 r1 e1=>Θ (ht.ld I1 (Τ (b6 x1 I1 e1 nb fun d q=>Al hb I1 (r1.rb.cr I1) q)))))
structure bX (K:ο) (C:φ):Prop where
 ga:Υ K (.ref C) "__getattribute__" = some (some (.builtin "BaseException.__getattribute__"))
 gn:Υ K (.ref C) "__getattr__" = some none
 cl:Υ K (.ref C) "__class__" = some (some (.builtin "object.__class__"))
 sg:Ħ K (.builtin "object.__class__") "__get__" = some (some (.builtin "getset_descriptor.__get__"))
 tk:DO K (.builtin "object.__class__")=some true
 ob:ϖ K C (.type "object")=some true
 be:ϖ K C (.type "BaseException")=some true
 is:(ĭ K C).isSome=true
structure cB (X:Cx) (an:Nat→θ) (c:Nat) (k:Cl) (i:CI):Prop where
 ci:X.W.ci[c]? = some i
 cls:k.what≠2→Cls X.K i.ad
 na:∀ f∈i.nm,di X.K i.ad f
 wh:X.W.what[c]? = some k.what
 nm:i.nm=k.at_.map an
 nd:i.nm.Nodup
 xc:k.what=2→bX X.K i.ad∧ϭ X.K i.ad=true
theorem uy {names:List θ} {vs:List η} {f:θ} {v:η} (hn:names.Nodup) {j:Nat} (h1:names[j]? = some f) (h2:vs[j]? = some v):(names.zip vs).lookup f=some v:=by
 induction names generalizing vs j with
 | nil=>simp at h1
 | cons n r ih=>
   cases vs with
   | nil=>simp at h2
   | cons w vs=>
     show (match f == n with | true=>some w | false=>(r.zip vs).lookup f)=some v
     cases j with
     | zero=>simp at h1 h2;subst h1 h2;simp
     | succ j=>
       have h3:r[j]? = some f:=by simpa using h1
       have ne:f≠n:=fun z=>by subst z;exact (Ϭ.mp hn).1 (Ρ h3)
       rw [show (f == n)=false by simpa using ne]
       exact ih (Ϭ.mp hn).2 h3 (by simpa using h2)
theorem InO.objm {s:ς} (h:InO s.heap.get? a dx C l):lG s.heap a dx C fun n=>l.lookup n:=let ⟨e,n,_,o,e2,es,ep,r⟩:=h;⟨e,⟨o,es,ep,e2,r⟩,n⟩
theorem i3:∀ {d v},RD W ρ G d v→ĵ v=true
 | .non,_,h=>by cases (show _=_ from h);rfl
 | .bl _,_,h=>by cases (show _=_ from h);rfl
 | .int _,_,⟨_,h⟩=>h ▸ rfl
 | .str _,_,⟨_,h⟩=>h ▸ rfl
 | .tup _,_,⟨_,_,_,h,_,_,_⟩=>h ▸ rfl
 | .lst _,_,⟨_,_,_,h,_,_,_⟩=>h ▸ rfl
 | .dic _ _,_,⟨_,_,_,h,_,_,_,_,_⟩=>h ▸ rfl
 | .ins _ _,_,⟨_,_,_,h,_,_,_,_⟩=>h ▸ rfl
 | .ref _,_,⟨_,_,h⟩=>h ▸ rfl
abbrev bO (X:Cx) (an:Nat→θ):Prop:=∀ (c:Nat) (k:Cl),X.Γ.cl[c]? = some k→∃ i,cB X an c k i
theorem kg (T:bO X an) {c f:Nat} {l:List D} {d2:D} (e:((X.Γ.cl[c]?).bind fun k=>l[k.at_.idxOf f]?)=some d2):∃ k i,∃ j:Nat,X.Γ.cl[c]? = some k∧cB X an c k i∧l[j]? = some d2∧(l.length≤i.nm.length→i.nm[j]? = some (an f)):=by
 obtain ⟨k,q,e⟩:=Χ.mp e
 obtain ⟨i,ok⟩:=T c k q
 refine ⟨k,i,k.at_.idxOf f,q,ok,e,fun hl=>?_⟩
 have h1:k.at_.idxOf f<l.length:=(κ.mp e).1
 have h2:k.at_.idxOf f<k.at_.length:=by rw [ok.nm,Β] at hl;omega
 rw [ok.nm,ϒ,Μ h2]
 simp
theorem rJ (T:bO X an) (I:Rep X z) {n f:Nat} {d:D} {p:φ×φ} (ea:z.ρ[n]? = some p) (e:lR X.Γ z.t.st (.ref n) f=some d):∃ C fs v,InO z.h p.1 p.2 C fs∧Cls X.K C∧di X.K C (an f)∧fs.lookup (an f)=some v∧RD X.W z.ρ z.G d v:=by
 unfold lR at e
 dsimp only at e
 cases q:z.t.st[n]? with
 | none=>rw [q] at e;cases e
 | some o=>
   rw [q] at e
   cases o with
   | ins c l=>
     dsimp only at e
     obtain ⟨k,i',j,e1,ok,e2,e3⟩:=kg T e
     obtain ⟨i,vs,w1,w2,w3,w4,w5⟩:=I.ob n _ p q ea
     have e4:=ok.ci
     rw [w1] at e4;cases e4
     obtain ⟨v,ev,rv⟩:=w5.get e2
     have wz:k.what≠2:=by have:=ok.wh;rw [w2] at this;have e:=Ϟ this;omega
     exact ⟨i'.ad,_,v,w4,ok.cls wz,ok.na _ (Ρ (e3 w3)),uy ok.nd (e3 w3) ev,rv⟩
   | _=>cases e
theorem lU {Q:η→ς→Prop} {E:η→ς→Prop} {A:ϙ} (I:Rep X z) (h:InO z.h a dx C fs) (c:Cls X.K C) (n:di X.K C f) (l:fs.lookup f=some v) (r:RD X.W z.ρ z.G d v) (q:Q v { z.s with toks:=z.s.toks+1 }):Α X.M A (El (.ref a) f b) Q E z.s:=
 ve I.toHR.kin (InO.objm h) (c.get f) c.hd n l (i3 r) q
theorem yG (T:bO X an) (xr:∀ {z:Z} {a C:φ} {l:List (θ×η)} {f:θ} {v:η} {Q:η→ς→Prop} {b:Bool},Rep X z→ExO z.h a C l→l≠[]→bX X.K C→ϭ X.K C=true→Υ X.K (.ref C) f=some none→l.lookup f=some v→ĵ v=true→Q v { z.s with toks:=z.s.toks+1 }→Α X.M X.A (El (.ref a) f b) Q NoE z.s)
 (ha:LE X ea a) (hb:Â ea (an f) X.env (eval ea X.env)=eval ea X.env):LE X (.Attribute ea (an f) pos) (.fld a f):=fun br z I nb=>
 uF hb ((ha true).go .refl I rfl nb fun z1 x u y1 x1 I1 r1 e1=>b6 x1 I1 e1 nb fun d q=>by
  have cr:=r1.rb.cr0 I1
  cases x with
  | ins c l=>
    obtain ⟨a,i,vs,rfl,hc,hl,w,rs⟩:=(cr:RD X.W z1.ρ z1.G (.ins c l) u)
    obtain ⟨k,i',j,e1,ok,e2,e3⟩:=kg T (show ((X.Γ.cl[c]?).bind fun k=>l[k.at_.idxOf f]?)=some d from q)
    have e4:=ok.ci
    rw [hc] at e4;cases e4
    obtain ⟨v,ev,rv⟩:=rs.get e2
    have lk:=uy ok.nd (e3 hl) ev
    have mem:an f∈i.nm:=Ρ (e3 hl)
    rcases w with ⟨w1,dx,ga⟩ | ⟨w2,w⟩
    ·have w3:k.what≠2:=by have:=ok.wh;rw [w1] at this;have e:=Ϟ this;omega
     exact lU I1 (ga.sub I1.gh) (ok.cls w3) (ok.na _ mem) lk rv (.old I1 .tok rv)
    ·have w3:k.what=2:=by have:=ok.wh;rw [w2] at this;exact (Ϟ this).symm
     exact xr I1 (w.sub I1.gh) (fun z=>by rw [z] at lk;cases lk) (ok.xc w3).1 (ok.xc w3).2 (ok.na _ mem) lk (i3 rv) (.old I1 .tok rv)
  | ref n=>
    obtain ⟨p,ep,rfl⟩:=(cr:RD X.W z1.ρ z1.G (.ref n) u)
    obtain ⟨C,fs,v,h1,h2,h3,h4,h5⟩:=rJ T I1 ep q
    exact lU I1 h1 h2 h3 h4 h5 (.old I1 .tok h5)
  | _=>cases q)
end
abbrev NoW:φ→Prop:=fun _=>False
def XC (X:Cx) (z z':Z) (c:Nat) (l:List D) (e:η):Prop:=∃ a T cls dx,e = .ref a∧XR X.W z' c l cls dx∧Tr z'.s.heap a cls dx T .none∧(z.h a=none∧z'.G a=none∧¬ Mu z'.ρ a)∧z.h T=none∧z'.G T=none∧¬ Mu z'.ρ T
def CRs (X:Cx) (z:Z) (r:Res) (q:Result) (s':ς):Prop:=match q with
 | .ok (.ret u)=>∃ z' d,z'.s=s'∧r = .ok d z'.t.st∧Stp X.fr NoW z z'∧HR X z'∧RD X.W z'.ρ z'.G d u
 | .error e=>∃ z' c l,z'.s=s'∧r = .exc c l z'.t.st∧Stp X.fr NoW z z'∧HR X z'∧XC X z z' c l e
 | _=>False
structure FnC (X:Cx) (cal:Nat→List D→List O→Res) (lv j:Nat) (f:φ) (fd:á) (ps:List θ) (dvs:List η):Prop where
 len:∀ ds st,cal j ds st≠.bad→ds.length+dvs.length=ps.length
 run:∀ (A:ϙ) (fr:List ż) (z:Z) (args:Args) (us:List η) (ds:List D),bq lv A→HR { X with A:=A,fr:=fr } z→Ib z.s fd args (ps.zip (us ++ dvs))→RDs X.W z.ρ z.G ds us→cal j ds z.t.st≠.bad →
  ĳ X.M A (.call (.ref f) args) (CRs { X with A:=A,fr:=fr } z (cal j ds z.t.st)) z.s
def bR (X:Cx) (cal:Nat→List D→List O→Res) (lv j:Nat) (f:φ):Prop:=∃ fd ps dvs,FnC X cal lv j f fd ps dvs∧bW X.K fd ps dvs∧Ϝ X.K (.ref f)=true
mutual
theorem oZ {G G':Hp} (k:∀ a o,G a=some o→(∀ l,¬ LsO o l)→G' a=some o):∀ {d:D} {v},noL d=true→RD W ρ G d v→RD W ρ G' d v
 | .non,_,_,e=>e
 | .bl _,_,_,e=>e
 | .int _,_,_,e=>e
 | .str _,_,_,e=>e
 | .ref _,_,_,e=>e
 | .tup _,_,n,⟨a,o,vs,e,t,q,r⟩=>⟨a,o,vs,e,k _ _ t fun l ⟨⟨_,z⟩,_⟩=>by have:=q.1;rw [z] at this;exact ZX this (show ē "list"≠.type "tuple" by decide),q,cH k n r⟩
 | .dic _ _,_,n,⟨a,o,vs,e,m,t,q,l,r⟩=>⟨a,o,vs,e,m,k _ _ t fun l ⟨⟨_,z⟩,_⟩=>by obtain ⟨_,_,x,_⟩:=q;have:=x.1;rw [z] at this;exact ZX this (show ē "list"≠.type "dict" by decide),q,l,cH k n r⟩
 | .ins _ _,_,n,⟨a,i,vs,e,hc,l,t,r⟩=>⟨a,i,vs,e,hc,l,t.elim (fun ⟨w,dx,q1,q2,q3,o,q4,q5⟩=>.inl ⟨w,dx,k _ _ q1 (fun l ⟨⟨_,z⟩,_⟩=>by injection z with z;cases z),q2,q3,o,k _ _ q4 (tD q5),q5⟩) (fun ⟨w,o,vs,q1,q2,q3,q4⟩=>.inr ⟨w,o,vs,k _ _ q1 (fun l ⟨⟨_,z⟩,_⟩=>by rw [z] at q3;cases q3),q2,q3,q4.elim .inl fun ⟨d,od,p1,p2,p3⟩=>.inr ⟨d,od,p1,k _ _ p2 (tD p3),p3⟩⟩),cH k n r⟩
 | .lst _,_,n,_=>by cases n
theorem cH {G G':Hp} (k:∀ a o,G a=some o→(∀ l,¬ LsO o l)→G' a=some o):∀ {ds:List D} {vs},kI ds=true→RDs W ρ G ds vs→RDs W ρ G' ds vs
 | [],_,_,e=>e
 | _ :: _,_,n,⟨v,r,e,t,q⟩=>by
   have n:(noL _ && kI _)=true:=n
   rw [ω] at n
   exact ⟨v,r,e,oZ k n.1 t,cH k n.2 q⟩
theorem tD (h:NsO o m):∀ l,¬ LsO o l:=fun l ⟨⟨_,z⟩,_⟩=>by obtain ⟨_,_,q,_⟩:=h;rw [z] at q;cases q
end
section
variable {X:Cx} {z z':Z} {br:Bool}
theorem Stp.slots (S:Stp fr NoW z z') (n:¬ Mu z.ρ a) (e:z.h a=some o):∃ sl,z'.h a=some { o with slots:=sl }:=by
 by_cases f:a∈frs fr
 ·exact S.sl a o e n id f
 ·exact ⟨o.slots,S.sm a o e n id f⟩
open Classical in
theorem Rep.back (I:Rep X z) (p q:Nat→Bool) (S:Stp X.fr NoW (z.rel p) z') (H:HR X z') (pq:∀ i,p i=true→q i=true) (hq:∀ i∈z.t.ow,q i=true→p i=true∨(isLst z.t.env[i]? = true∧z'.t.st.all mB=true)) :
 ∃ zf,zf.s=z'.s∧zf.t=⟨z.t.env,z.t.ow.filter q,z'.t.st⟩∧zf.ρ=z'.ρ∧Rep X zf∧Ee X z zf∧(∀ a,z.h a=none→zf.G a=z'.G a)∧(∀ a o,z'.G a=some o→(∀ l,¬ LsO o l)→zf.G a=some o)∧((∀ i∈z.t.ow,q i=true→p i=true)→Sub z'.G zf.G):=by
 obtain ⟨Ir,xr⟩:=I.rel p
 let Rm:φ→Prop:=fun a=>∃ i∈z.t.ow,q i=true∧z.σ[i]? = some (some (.ref a))
 have own:∀ {a},Rm a→Own z a:=fun ⟨i,m,_,e⟩=>⟨i,m,e⟩
 let G2:Hp:=fun a=>if Rm a then none else z'.G a
 have yes:∀ {a},Rm a→G2 a=none:=fun h=>ZZ h
 have no:∀ {a},¬ Rm a→G2 a=z'.G a:=fun h=>ZY h
 have g2s:Sub G2 z'.G:=fun a o e=>by
  by_cases c:Rm a
  ·rw [yes c] at e;cases e
  ·rw [no c] at e;exact e
 have gz:Sub z.G G2:=fun a o e=>by
  by_cases c:Rm a
  ·rw [(I.oth (own c)).1.1] at e;cases e
  ·rw [no c];exact S.gg _ _ (xr.st.gg _ _ e)
 have hold:∀ {i:Nat} {a:φ},i∈z.t.ow→p i=true→z.σ[i]? = some (some (.ref a))→z'.G a=none:=fun {i a} m pi es=>by
  obtain ⟨f,o',e'⟩:=I.oth ⟨i,m,es⟩
  have n:(z.rel p).G a=none:=(dC fun ⟨j,mj,pj,ej⟩=>by rw [I.od j i a mj m ej es,pi] at pj;cases pj).trans f.1
  cases w:z'.G a with
  | none=>rfl
  | some o=>
    rcases S.gn a o w with w | w | w
    ·rw [n] at w;cases w
    ·rw [show (z.rel p).h a=z.h a from rfl,e'] at w;cases w
    ·exact w.elim
 have gp:∀ {a o},Rm a→z'.G a=some o→(∃ l,LsO o l)∧z'.t.st.all mB=true∧¬ ∀ i∈z.t.ow,q i=true→p i=true:=fun {a o} ⟨i,m,qi,es⟩ e=>by
  by_cases pi:p i=true
  ·rw [hold m pi es] at e;cases e
  ·obtain ⟨li,al⟩:=(hq i m qi).resolve_left pi
   obtain ⟨d,b,ob,h1,h2,h3,r,f⟩:=I.eo i m
   rw [es] at h2;cases h2
   refine ⟨?_,al,fun w=>pi (w i m qi)⟩
   rw [h1] at li
   cases d with
   | lst ds=>
     cases h3
     obtain ⟨oo,vs,_,e1,l1,_⟩:=r
     have:=S.gg a oo ((fX ⟨i,m,by simpa using pi,es⟩).trans e1)
     rw [e] at this;cases this
     exact ⟨vs,l1⟩
   | _=>cases li
 have kp:∀ a o,z'.G a=some o→(∀ l,¬ LsO o l)→G2 a=some o:=fun a o e n=>by
  by_cases c:Rm a
  ·obtain ⟨⟨l,h⟩,_⟩:=gp c e;exact ZX h (n l)
  ·rw [no c];exact e
 have kq:(∀ i∈z.t.ow,q i=true→p i=true)→Sub z'.G G2:=fun w a o e=>by
  by_cases c:Rm a
  ·exact ZX w (gp c e).2.2
  ·rw [no c];exact e
 have nn:∀ {a},z'.G a=none→G2 a=none:=fun {a} e=>by
  by_cases c:Rm a
  ·exact yes c
  ·rw [no c];exact e
 have rh:∀ {a},(z.rel p).h a=z.h a:=rfl
 have same:∀ a,¬ Mu z.ρ a→∀ o,z.h a=some o→∃ sl,z'.h a=some { o with slots:=sl }:=fun a n o e=>S.slots n e
 have nmu:∀ {a o},z.h a=some o→¬ Mu z.ρ a→¬ Mu z'.ρ a:=fun {a o} e n m=>(S.rn a m).elim n fun w=>by rw [rh,e] at w;cases w
 have nG:∀ {a o},z.h a=some o→(z.rel p).G a=none→z'.G a=none:=fun {a o} e n=>by
  cases w:z'.G a with
  | none=>rfl
  | some o'=>
    rcases S.gn a o' w with w | w | w
    ·rw [n] at w;cases w
    ·rw [rh,e] at w;cases w
    ·exact w.elim
 have ob2:∀ (n:Nat) (o:O) (pp:φ×φ),z'.t.st[n]? = some o→z'.ρ[n]? = some pp→ObR X.W z'.ρ G2 z'.h pp o:=fun n o pp h1 h2=>by
  by_cases w:∀ i∈z.t.ow,q i=true→p i=true
  ·exact (H.ob n o pp h1 h2).mono (μ _) (kq w) fun _ _ _ e=>e
  ·by_cases al:z'.t.st.all mB=true
   ·have nl:=Λ.mp al o (Ρ h1)
    cases o with
    | lst l=>cases nl
    | dic ks l=>obtain ⟨o,vs,a1,a2,a3,a4,a5,a6⟩:=H.ob n _ pp h1 h2;exact ⟨o,vs,a1,a2,a3,a4,a5,cH kp nl a6⟩
    | ins c l=>obtain ⟨i,vs,a1,a2,a3,a4,a5⟩:=H.ob n _ pp h1 h2;exact ⟨i,vs,a1,a2,a3,a4,cH kp nl a5⟩
   ·exact ZX (fun i m qi=>(hq i m qi).resolve_right fun v=>al v.2) w
 refine ⟨⟨z'.ρ,G2,⟨z.t.env,z.t.ow.filter q,z'.t.st⟩,z.σ,z'.s⟩,rfl,rfl,rfl,⟨⟨H.md,H.fm,H.hd,fun b o e=>gz _ _ (I.bs b o e),g2s.trans H.gh,H.rl,H.rn,fun a m=>nn (H.rg a m),ob2,H.fu,fun b m=>⟨nn (H.ff b m).1,(H.ff b m).2⟩,H.br,H.os,H.tk⟩,I.ok,?_,fun x c e=>?_,fun a l=>?_,I.el,I.sl,fun i d n e=>?_,fun i m=>?_,fun i j a m1 m2=>I.od i j a (ϔ.mp m1).1 (ϔ.mp m2).1⟩,⟨⟨S.pr,gz,fun a o e=>?_,S.rn,S.th,fun a o e n w f=>S.sm a o e n id f,fun a o e n w f=>S.sl a o e n id f⟩,rfl,rfl,fun i m=>(ϔ.mp m).1⟩,fun a e=>?_,kp,kq⟩
 ·obtain ⟨m,hn,hl⟩:=I.lo
  have cl:∀ c v,(∃ x,X.env.cells.lookup x=some c)→z.s.heap.IsCell c v→z'.s.heap.IsCell c v:=fun c v ⟨x,ex⟩ ⟨o,e,d⟩=>let ⟨_,w⟩:=same c (I.fl c (.inr ⟨x,ex⟩)).2 o e;⟨_,w,d⟩
  obtain ⟨oL,es,ep,eL,r⟩:=hn
  obtain ⟨sl,w⟩:=same _ (I.fl _ (.inl rfl)).2 oL eL
  exact ⟨m,⟨_,es,ep,w,r⟩,fun i x u h1 h2 h3=>dz (fun c v e q=>cl c v ⟨x,e⟩ q) (hl i x u h1 h2 h3)⟩
 ·obtain ⟨v,o,e1,d⟩:=I.ce x c e
  obtain ⟨sl,w⟩:=same c (I.fl c (.inr ⟨x,e⟩)).2 o e1
  exact ⟨v,_,w,d⟩
 ·obtain ⟨o,e⟩:=I.lth l
  exact ⟨nn (nG e (Ir.fl a l).1),nmu e (I.fl a l).2⟩
 ·by_cases m:i∈z.t.ow
  ·obtain ⟨d',a,o,h1,h2,h3,r,f⟩:=I.eo i m
   rw [show z.t.env[i]? = some (some d) from e] at h1;cases h1
   have qf:¬ q i=true:=fun w=>n (ϔ.mpr ⟨m,w⟩)
   have pf:p i=false:=by cases w:p i with
    | false=>rfl
    | true=>exact ZX (pq i w) qf
   obtain ⟨oa,ea⟩:=r.th.1
   refine ⟨_,h2,jJ h3 (r.mono (h':=z.h) S.pr (Sub.refl _) fun _ _ _ e=>e) gz ?_⟩
   have nr:¬ Rm a:=fun ⟨j,mj,qj,ej⟩=>by rw [I.od j i a mj m ej h2] at qj;exact qf qj
   exact (no nr).trans ((S.gg a oa ((fX ⟨i,m,pf,h2⟩).trans ea)).trans ea.symm)
  ·obtain ⟨u,w,r⟩:=I.en i d m e
   exact ⟨u,w,r.mono S.pr gz⟩
 ·obtain ⟨m1,m2⟩:=ϔ.mp m
  obtain ⟨d',a,o,h1,h2,h3,r,f⟩:=I.eo i m1
  obtain ⟨oa,ea⟩:=r.th.1
  refine ⟨d',a,o,h1,h2,h3,r.mono S.pr gz fun b hb o e=>?_,yes ⟨i,m1,m2,h2⟩,nmu ea f.2.1,f.2.2⟩
  have hb:b=a:=hb.elim id id
  subst hb
  exact S.sm b o e f.2.1 id f.2.2.1
 ·rcases S.gn a o (g2s a o e) with w | w | w
  ·by_cases c:jY z p a
   ·obtain ⟨i,m,_,e⟩:=c;exact .inr (.inr ⟨i,m,e⟩)
   ·rw [dC c] at w;exact .inl w
  ·exact .inr (.inl w)
  ·exact w.elim
 ·exact no fun c=>by obtain ⟨o,w⟩:=(I.oth (own c)).2;rw [e] at w;cases w
theorem uW {a r:E} (m:i∈bH r):i∈bH (.cons a r):=by cases a <;> first | exact ν _ m | exact m
theorem jN (I:Rep X (z.rel p)) (gg:Sub z.G (z.rel p).G) (k:∀ i∈bH c,p i=false) {c' ds us} (hs:∀ i∈bH c',i∈bH c) (h:RVs X.W true c' z ds us):RDs X.W z.ρ (z.rel p).G ds us:=
 RVs.ind (P:=fun c' ds us=>(∀ i∈bH c',i∈bH c)→RDs X.W z.ρ (z.rel p).G ds us) (fun _=>rfl) (fun a r d ds u us h _ ih hs=>by
  refine .cons ?_ (ih fun i m=>hs i (uW m))
  rcases h with h | ⟨_,i,rfl,m,e1,e2⟩
  ·exact h.mono (μ _) gg
  ·obtain ⟨u',q,r⟩:=I.en i d (fun w=>by have:=(ϔ.mp w).2;rw [k i (hs i ι)] at this;cases this) e2
   rw [show z.σ[i]? = some (some u') from q] at e1;cases e1;exact r) c' ds us h hs
theorem hV {o:Out D} (F:bR X X.cal lv j f) (hr:bq lv X.A) (x:Ee X z0 z) (I:Rep X z) (rd:RDs X.W z.ρ (z.rel fun i=>!(bH es).contains i).G ds us) (e:o=iq X.cal es j ds z.t) (nb:o≠.bad):Α X.M X.A (call (.ref f) us) (Pe X z0 o (RV X.W br c)) (Px X z0 o) z.s:=by
 obtain ⟨Ir,xr⟩:=I.rel fun i=>!(bH es).contains i
 obtain ⟨fd,ps,dvs,F,hb,kp⟩:=F
 subst e
 have nbc:X.cal j ds z.t.st≠.bad:=fun q=>nb (by unfold iq;rw [q])
 have bd:=hb z.s us I.toHR.kin (by rw [Δ,← rd.len];exact F.len _ _ nbc)
 refine Č (ý (F.run X.A X.fr (z.rel fun i=>!(bH es).contains i) ⟨us,[]⟩ us ds hr Ir.toHR bd rd nbc) fun q s' hq=>?_)
 cases q with
 | error e=>
   obtain ⟨z',c,l,rfl,er,S,H,a,T,cls,dx,rfl,xr',tr,⟨na,ga,ma⟩,nT,gT,mT⟩:=hq
   obtain ⟨zf,e1,e2,e3,If,xf,k1,k2,k3⟩:=I.back (fun i=>!(bH es).contains i) _ S H (fun _ h=>h) fun _ _ h=>.inl h
   have nob:∀ {b:φ},z.h b=none→z'.G b=none→¬ Mu z'.ρ b→Nob X z zf b:=fun {b} n g m=>by
    have ⟨f,no⟩:=I.fre n
    exact ⟨n,⟨(k1 b n).trans g,e3 ▸ m,f.2.2⟩,fun w=>no (xf.own w)⟩
   refine Px.less x ⟨zf,c,l,e1,by unfold iq;rw [show X.cal j ds z.t.st=_ from er,e2];rfl,xf,If,a,cls,dx,rfl,?_,nob na ga ma,.inr ⟨T,.none,e1 ▸ tr,.inl rfl,nob nT gT mT⟩⟩
   obtain ⟨i,a1,a2,a3,a4,a5⟩:=xr'
   refine ⟨i,a1,a2,a3,a4,a5.imp_right fun ⟨d,od,vs,b1,b2,b3,b4⟩=>⟨d,od,vs,b1,k2 _ _ b2 (tD b3),b3,?_⟩⟩
   rw [e3];exact b4.mono (μ _) (k3 fun _ _ h=>h)
 | ok fl=>
   cases fl with
   | ret u=>
     obtain ⟨z',d,rfl,er,S,H,r⟩:=hq
     obtain ⟨zf,e1,e2,e3,If,xf,k1,k2,k3⟩:=I.back (fun i=>!(bH es).contains i) (fun i=>!(bH es).contains i || (isLst z.t.env[i]? && (noL d && z'.t.st.all mB))) S H (fun i h=>by rw [h];rfl) fun i _ h=>by
      cases w:(!(bH es).contains i) with
      | true=>exact .inl rfl
      | false=>rw [w,HO,ω,ω] at h;exact .inr ⟨h.1,h.2.2⟩
     refine Pe.less x ⟨zf,d,e1,by unfold iq;rw [show X.cal j ds z.t.st=_ from er,e2];rfl,xf,If,.of ?_⟩
     rw [e3]
     cases w:noL d with
     | true=>exact oZ k2 w r
     | false=>exact r.mono (μ _) (k3 fun i _ h=>by rw [w,Hu,EF,ĺ] at h;exact h)
   | next=>exact hq.elim
   | brk=>exact hq.elim
   | cont=>exact hq.elim
theorem gA {es:E}:∀ i∈bH es,(!(bH es).contains i)=false:=fun i m=>by simpa using m
theorem vn {x:θ} (F:bR X X.cal lv j f) (hr:bq lv X.A) (hg:Gl X x) (hm:X.mg x=some (.ref f)) (ha:LA X (ea :: er) es) (hd:(x == ("__debug__":θ))=false) (he:Ξ (ea :: er) X.env=(false,eval ea X.env) :: Ξ er X.env) (hpl:(Ö pos (Ξ er X.env)).any (·.1)=false):LE X (.Call (.Name x p) (ea :: er) [] pos) (.call j es):=fun br z I nb=>
 č (aR I hg hm (ğ (h₀:=X.base) I.md.kin (let ⟨_,_,_,_,_,k⟩:=F;k) ((ha true pos).go .refl I rfl nb fun z1 l us y1 x1 I1 r1 e1=>⟨I1.toHR.kin,hV F hr x1 I1 (jN (I1.rel _).1 (I1.rel _).2.st.gg gA (fun _ h=>h) r1) e1 nb⟩) he hpl) hd)
end
mutual
theorem mG:∀ {d:D} {v},noR d=true→RD W ρ G d v→RD W ρ' G d v
 | .non,_,_,e=>e
 | .bl _,_,_,e=>e
 | .int _,_,_,e=>e
 | .str _,_,_,e=>e
 | .ref _,_,n,_=>by cases n
 | .tup _,_,n,⟨a,o,vs,e,t,q,r⟩=>⟨a,o,vs,e,t,q,cz n r⟩
 | .lst _,_,n,⟨a,o,vs,e,t,q,r⟩=>⟨a,o,vs,e,t,q,cz n r⟩
 | .dic _ _,_,n,⟨a,o,vs,e,m,t,q,l,r⟩=>⟨a,o,vs,e,m,t,q,l,cz n r⟩
 | .ins _ _,_,n,⟨a,i,vs,e,hc,l,t,r⟩=>⟨a,i,vs,e,hc,l,t,cz n r⟩
theorem cz:∀ {ds:List D} {vs},ba ds=true→RDs W ρ G ds vs→RDs W ρ' G ds vs
 | [],_,_,e=>e
 | _ :: _,_,n,⟨v,r,e,t,q⟩=>by
   have n:(noR _ && ba _)=true:=n
   rw [ω] at n
   exact ⟨v,r,e,mG n.1 t,cz n.2 q⟩
end
theorem hZ (k:Nat):∀ l:List D,(iC k l).length=l.length
 | []=>rfl
 | _ :: r=>ZS (· + 1) (hZ k r)
section
variable {X:Cx} {z z' z0:Z} {br:Bool}
abbrev Z.bare (z:Z):Z:={ z with ρ:=[],t:=⟨z.t.env,z.t.ow,[]⟩ }
theorem cX:¬ Mu [] a:=fun ⟨_,h,_⟩=>nomatch h
theorem HR.bare (I:HR X z):HR X z.bare:=⟨I.md,I.fm,I.hd,I.bs,I.gh,rfl,fun _ _ _ _ _ h=>by simp at h,fun _ m=>(cX m).elim,fun _ _ _ h=>by simp at h,I.fu,fun b m=>⟨(I.ff b m).1,cX⟩,I.br,I.os,I.tk⟩
theorem Rep.hout (I:Rep X z) (S:Stp X.fr NoW z.bare z') (H:HR X z'):Rep X { z with G:=z'.G,s:=z'.s }∧Ee X z { z with G:=z'.G,s:=z'.s }:=by
 have gn:∀ a o,z'.G a=some o→z.G a=some o∨z.h a=none:=fun a o e=>(S.gn a o e).imp_right fun w=>w.elim id Ŋ
 exact ⟨I.grw H.tk (H.os.trans I.os.symm) H.br (fun b o e f=>S.sm b o e cX id f) (fun b o e=>S.slots cX e) S.gg H.gh fun a o e=>(gn a o e).imp_right I.fre,⟨μ _,S.gg,fun a o e=>(gn a o e).imp_right .inl,fun _ m=>.inl m,S.th,fun a o e _ _ f=>S.sm a o e cX id f,fun a o e _ _ f=>S.sl a o e cX id f⟩,rfl,rfl,fun _ h=>h⟩
mutual
theorem RD.sh:∀ {d:D} {v},RD W ρ' G d v→RD W (ρ ++ ρ') G (shD ρ.length d) v
 | .non,_,e=>e
 | .bl _,_,e=>e
 | .int _,_,e=>e
 | .str _,_,e=>e
 | .ref n,_,⟨p,e,q⟩=>⟨p,by rw [ϋ (ň ..),Fq];exact e,q⟩
 | .tup _,_,⟨a,o,vs,e,t,q,r⟩=>⟨a,o,vs,e,t,q,r.sh⟩
 | .lst _,_,⟨a,o,vs,e,t,q,r⟩=>⟨a,o,vs,e,t,q,r.sh⟩
 | .dic _ _,_,⟨a,o,vs,e,m,t,q,l,r⟩=>⟨a,o,vs,e,m,t,q,l.trans (hZ _ _).symm,r.sh⟩
 | .ins _ _,_,⟨a,i,vs,e,hc,l,t,r⟩=>⟨a,i,vs,e,hc,by rw [hZ];exact l,t,r.sh⟩
theorem RDs.sh:∀ {ds:List D} {vs},RDs W ρ' G ds vs→RDs W (ρ ++ ρ') G (iC ρ.length ds) vs
 | [],_,e=>e
 | _ :: _,_,⟨v,r,e,t,q⟩=>⟨v,r,e,t.sh,q.sh⟩
end
theorem ObR.sh:∀ {o:O},ObR W ρ' G h p o→ObR W (ρ ++ ρ') G h p (shO ρ.length o)
 | .lst _,⟨o,vs,z,e,q,r⟩=>⟨o,vs,z,e,q,r.sh⟩
 | .dic _ _,⟨o,vs,z,m,e,q,l,r⟩=>⟨o,vs,z,m,e,q,l.trans (hZ _ _).symm,r.sh⟩
 | .ins _ _,⟨i,vs,c,w,l,e,r⟩=>⟨i,vs,c,w,by rw [hZ];exact l,e,r.sh⟩
theorem ez:Mu (ρ ++ ρ') a↔Mu ρ a∨Mu ρ' a:=⟨fun ⟨p,h,e⟩=>(ώ.mp h).imp (fun h=>⟨p,h,e⟩) fun h=>⟨p,h,e⟩,fun h=>h.elim (fun ⟨p,h,e⟩=>⟨p,FQ _ h,e⟩) fun ⟨p,h,e⟩=>⟨p,FG _ h,e⟩⟩
theorem Rep.more {os:List O} {ρ':Rs} (I:Rep X z) (hl:ρ'.length=os.length) (nw:∀ a,Mu ρ' a→Fre X z a∧¬ Own z a) (rn:∀ (i j:Nat) (p q:φ×φ) (a:φ),ρ'[i]? = some p→ρ'[j]? = some q→(a=p.1∨a=p.2)→(a=q.1∨a=q.2)→i=j)
 (ob:∀ (n:Nat) (o:O) (p:φ×φ),os[n]? = some o→ρ'[n]? = some p→ObR X.W (z.ρ ++ ρ') z.G z.h p o):Rep X { z with ρ:=z.ρ ++ ρ',t:=⟨z.t.env,z.t.ow,z.t.st ++ os⟩ }:=by
 have rl:=I.rl
 have pre:z.ρ <+: z.ρ ++ ρ':=É _ _
 have at_:∀ {i:Nat} {p:φ×φ},(z.ρ ++ ρ')[i]? = some p→(i<z.ρ.length∧z.ρ[i]? = some p)∨(z.ρ.length≤i∧ρ'[i - z.ρ.length]? = some p):=fun {i p} h=>by
  by_cases c:i<z.ρ.length
  ·rw [ϓ c] at h;exact .inl ⟨c,h⟩
  ·rw [ϋ (by omega)] at h;exact .inr ⟨by omega,h⟩
 have mem:∀ {i:Nat} {p:φ×φ} {l:Rs} {a:φ},l[i]? = some p→(a=p.1∨a=p.2)→Mu l a:=fun h e=>⟨_,Ρ h,e⟩
 refine ⟨⟨I.md,I.fm,I.hd,I.bs,I.gh,by show (z.ρ ++ ρ').length=(z.t.st ++ os).length;simp only [Δ];omega,fun i j p q a h1 h2 h3 h4=>?_,fun a m=>(ez.mp m).elim (I.rg a) fun m=>(nw a m).1.1,fun n o p h1 h2=>?_,I.fu,fun b m=>⟨(I.ff b m).1,fun h=>(ez.mp h).elim (I.ff b m).2 fun h=>(nw b h).1.2.2.1 m⟩,I.br,I.os,I.tk⟩,I.ok,I.lo,I.ce,fun a l=>⟨(I.fl a l).1,fun h=>(ez.mp h).elim (I.fl a l).2 fun h=>(nw a h).1.2.2.2 l⟩,I.el,I.sl,fun i d n e=>let ⟨u,q,r⟩:=I.en i d n e;⟨u,q,r.mono pre (.refl _)⟩,fun i m=>?_,I.od⟩
 ·rcases at_ h1 with ⟨c1,w1⟩ | ⟨c1,w1⟩ <;> rcases at_ h2 with ⟨c2,w2⟩ | ⟨c2,w2⟩
  ·exact I.rn i j p q a w1 w2 h3 h4
  ·exact ZX (mem w1 h3) (nw a (mem w2 h4)).1.2.1
  ·exact ZX (mem w2 h4) (nw a (mem w1 h3)).1.2.1
  ·have:=rn _ _ p q a w1 w2 h3 h4;omega
 ·have h1:(z.t.st ++ os)[n]? = some o:=h1
  rcases at_ h2 with ⟨c1,w1⟩ | ⟨c1,w1⟩
  ·rw [ϓ (by omega)] at h1
   exact (I.ob n o p h1 w1).mono pre (.refl _) fun _ _ _ e=>e
  ·rw [ϋ (by omega),← rl] at h1
   exact ob _ o p h1 w1
 ·obtain ⟨d,a,o,h1,h2,h3,r,f⟩:=I.eo i m
  exact ⟨d,a,o,h1,h2,h3,r.mono pre (.refl _) fun _ _ _ e=>e,f.1,fun h=>(ez.mp h).elim f.2.1 fun h=>(nw a h).2 ⟨i,m,h2⟩,f.2.2⟩
theorem sB {x:θ} (F:bR X X.cal lv j f) (hr:bq lv X.A) (hg:Gl X x) (hm:X.mg x=some (.ref f)) (ha:LA X (ea :: er) es) (hd:(x == ("__debug__":θ))=false) (he:Ξ (ea :: er) X.env=(false,eval ea X.env) :: Ξ er X.env) (hpl:(Ö pos (Ξ er X.env)).any (·.1)=false):LE X (.Call (.Name x p) (ea :: er) [] pos) (.hcall j es):=fun br z I nb=>
 č (aR I hg hm (ğ (h₀:=X.base) I.md.kin (let ⟨_,_,_,_,_,k⟩:=F;k) ((ha false pos).go .refl I rfl nb fun z1 l us y1 x1 I1 r1 e1=>⟨I1.toHR.kin,by
  obtain ⟨fd,ps,dvs,F,hb,kp⟩:=F
  unfold vf at e1
  by_cases nr:ba l=true
  ·rw [ZZ nr] at e1
   have nbc:X.cal j l []≠.bad:=fun q=>by rw [q] at e1;exact nb e1
   have rd:RDs X.W z1.bare.ρ z1.bare.G l us:=cz nr r1.rds
   have bd:=hb z1.s us I1.toHR.kin (by rw [Δ,← rd.len];exact F.len _ _ nbc)
   refine Č (ý (F.run X.A X.fr z1.bare ⟨us,[]⟩ us l hr I1.toHR.bare bd rd nbc) fun q s' hq=>?_)
   cases q with
   | error e=>
     obtain ⟨z',c,l',rfl,er,S,H,a,T,cls,dx,rfl,xr',tr,⟨na,ga,ma⟩,nT,gT,mT⟩:=hq
     rw [show X.cal j l []=_ from er] at e1
     obtain ⟨If,xf⟩:=I1.hout S H
     by_cases n2:ba l'=true
     ·have e1:=e1.trans (ZZ n2)
      have nob:∀ {b:φ},z1.h b=none→z'.G b=none→Nob X z1 { z1 with G:=z'.G,s:=z'.s } b:=fun {b} n g=>by
       have ⟨f,no⟩:=I1.fre n
       exact ⟨n,⟨g,f.2⟩,no⟩
      refine Px.less x1 ⟨{ z1 with G:=z'.G,s:=z'.s },c,l',rfl,e1,xf,If,a,cls,dx,rfl,?_,nob na ga,.inr ⟨T,.none,tr,.inl rfl,nob nT gT⟩⟩
      obtain ⟨i,a1,a2,a3,a4,a5⟩:=xr'
      exact ⟨i,a1,a2,a3,a4,a5.imp_right fun ⟨d,od,vs,b1,b2,b3,b4⟩=>⟨d,od,vs,b1,b2,b3,cz n2 b4⟩⟩
     ·exact ZX (e1.trans (ZY n2)) nb
   | ok fl=>
     cases fl with
     | ret u=>
       obtain ⟨z',d,rfl,er,S,H,r⟩:=hq
       rw [show X.cal j l []=_ from er] at e1
       obtain ⟨If,xf⟩:=I1.hout S H
       by_cases n2:noR d=true
       ·have e1:=e1.trans (show (if noR d=true then Out.ok d z1.t else _)=_ from ZZ n2)
        exact Pe.less x1 ⟨{ z1 with G:=z'.G,s:=z'.s },d,rfl,e1,xf,If,.of (mG n2 r)⟩
       ·have e1:=e1.trans (show (if noR d=true then Out.ok d z1.t else _)=_ from ZY n2)
        have new:∀ a,Mu z'.ρ a→z1.h a=none:=fun a m=>(S.rn a m).elim (fun m=>(cX m).elim) id
        have I2:=If.more (ρ':=z'.ρ) (os:=z'.t.st.map (shO z1.t.st.length)) (by rw [Β];exact H.rl) (fun a m=>let ⟨f,no⟩:=I1.fre (new a m);⟨⟨H.rg a m,f.2⟩,no⟩) H.rn (fun n o p h1 h2=>by
         rw [ϒ,τ] at h1
         obtain ⟨o',h1,rfl⟩:=h1
         rw [← I1.rl];exact (H.ob n o' p h1 h2).sh)
        refine Pe.less x1 ⟨{ z1 with ρ:=z1.ρ ++ z'.ρ,G:=z'.G,t:=⟨z1.t.env,z1.t.ow,z1.t.st ++ z'.t.st.map (shO z1.t.st.length)⟩,s:=z'.s },shD z1.t.st.length d,rfl,e1,⟨⟨É _ _,xf.st.gg,xf.st.gn,fun a m=>(ez.mp m).imp_right (new a),xf.st.th,xf.st.sm,xf.st.sl⟩,rfl,rfl,fun _ h=>h⟩,I2,.of ?_⟩
        rw [← I1.rl];exact r.sh
     | next=>exact hq.elim
     | brk=>exact hq.elim
     | cont=>exact hq.elim
  ·rw [ZY nr] at e1;exact ZX e1 nb⟩) he hpl) hd)
structure pC (X:Cx) (an:Nat→θ) (m:θ) (c:Nat) (f:φ):Prop where
 ex:∃ i k,X.Γ.cl[c]? = some k∧cB X an c k i∧k.what=0∧Ag X.K i.ad m f∧m ∉ i.nm
theorem uz {l:List θ} {vs:List η} (h:m ∉ l):(l.zip vs).lookup m=none:=by
 induction l generalizing vs with
 | nil=>rfl
 | cons n r ih=>
   cases vs with
   | nil=>rfl
   | cons w vs=>
     show (match m == n with | true=>some w | false=>(r.zip vs).lookup m)=none
     rw [show (m == n)=false from ZU.mpr fun z=>h (by rw [z];exact ι)]
     exact ih fun z=>h (ν _ z)
theorem ou {n:Nat} {l:List D} {p:φ×φ} {Q:η×List η→ς→Prop} {E:η→ς→Prop} {pl:E0 Bool} (M:pC X an m c f) (I:Rep X z) (e:z.t.st[n]? = some (.ins c l)) (ep:z.ρ[n]? = some p) (q:Q (.ref f,[.ref p.1]) z.s):Α X.M X.A (EM (.ref p.1) m pl) Q E z.s:=by
 obtain ⟨i,k,hc,ok,w,hm,nm⟩:=M.ex
 obtain ⟨i',vs,w1,w2,w3,w4,w5⟩:=I.ob n _ p e ep
 have e4:=ok.ci
 rw [w1] at e4;cases e4
 exact rQ I.toHR.kin (InO.objm w4) ((ok.cls (by omega)).get m) hm.at_ hm.fn (uz nm) q
theorem ox {o:Out D} {f:List D→Sta→Out D} {x:D} (e:o=(match x with
 | .ref p=>(match z.t.st[p]? with
   | some (.ins c' _)=>if c'=c then (X.evs true es z.t).bind fun l s=>iq X.cal es j (x :: l) s else .bad
   | _=>.bad)
 | _=>.bad)) (nb:o≠.bad):∃ n l,x = .ref n∧z.t.st[n]? = some (.ins c l)∧o=(X.evs true es z.t).bind fun l s=>iq X.cal es j (.ref n :: l) s:=by
 cases x with
 | ref n=>
   dsimp only at e
   cases q:z.t.st[n]? with
   | none=>rw [q] at e;exact ZX e nb
   | some ob=>
     rw [q] at e
     cases ob with
     | ins c' l=>
       dsimp only at e
       by_cases h:c'=c
       ·subst h;rw [ZZ rfl] at e;exact ⟨n,l,rfl,q,e⟩
       ·rw [ZY h] at e;exact ZX e nb
     | _=>exact ZX e nb
 | _=>exact ZX e nb
theorem yK (F:bR X X.cal lv j f) (hr:bq lv X.A) (M:pC X an m c f) (ho:LE X eo a) (ha:LA X (ea :: er) es) (he:Ξ (ea :: er) X.env=(false,eval ea X.env) :: Ξ er X.env) (hpl:(Ö pos (Ξ er X.env)).any (·.1)=false)
 (ht:eval (.Call (.Attribute eo m apos) (ea :: er) [] pos) X.env=(do
  let ov ← eval eo X.env
  Ei apos.atName
  let (f,first) ← holding [ov] (EM ov m pl)
  En pos f first (Ö pos (Ξ (ea :: er) X.env)) (D1 pos (ģ [] X.env)))):LE X (.Call (.Attribute eo m apos) (ea :: er) [] pos) (.mth c j a es):=fun br z I nb=>
 EX (pl:=pl) ((ho true).go .refl I rfl nb fun z1 x u y1 x1 I1 r1 e1=>by
  obtain ⟨n,l,rfl,q,e1⟩:=ox (f:=fun _ _=>.bad) e1 nb
  obtain ⟨p,ep,rfl⟩:=(r1.rb.cr0 I1:RD X.W z1.ρ z1.G (.ref n) u)
  exact ou M I1 q ep (ğ (first:=[.ref p.1]) (h₀:=X.base) I.md.kin (let ⟨_,_,_,_,_,k⟩:=F;k) ((ha true pos).go x1 I1 e1 nb fun z2 l us y2 x2 I2 r2 e2=>⟨I2.toHR.kin,hV (us:=.ref p.1 :: us) F hr x2 I2 (.cons (d:=.ref n) ⟨p,eD y2.st.pr ep,rfl⟩ (jN (I2.rel _).1 (I2.rel _).2.st.gg gA (fun _ h=>h) r2)) e2 nb⟩) he hpl)) ht
theorem vy (F:bR X X.cal lv j f) (hr:bq lv X.A) (M:pC X an m c f) (ho:LE X eo a)
 (ht:eval (.Call (.Attribute eo m apos) [] [] pos) X.env=(do
  let ov ← eval eo X.env
  Ei apos.atName
  let (f,first) ← holding [ov] (EM ov m pl)
  En pos f first (Ö pos (Ξ [] X.env)) (D1 pos (ģ [] X.env)))):LE X (.Call (.Attribute eo m apos) [] [] pos) (.mth c j a .nil):=fun br z I nb=>
 EX (pl:=pl) ((ho true).go .refl I rfl nb fun z1 x u y1 x1 I1 r1 e1=>by
  obtain ⟨n,l,rfl,q,e1⟩:=ox (f:=fun _ _=>.bad) e1 nb
  obtain ⟨p,ep,rfl⟩:=(r1.rb.cr0 I1:RD X.W z1.ρ z1.G (.ref n) u)
  exact ou M I1 q ep (Fo (first:=[.ref p.1]) I1.toHR.kin (let ⟨_,_,_,_,_,k⟩:=F;k) (hV (us:=[.ref p.1]) (es:=.nil) F hr x1 I1 (.cons (d:=.ref n) (ds:=[]) ⟨p,ep,rfl⟩ rfl) e1 nb))) ht
theorem ik (C:φ) (us:List η) (kw:List (θ×η)):(X.A.under (.builtin "type.__call__" ⟨.ref C :: us,kw⟩)).frames=X.A.frames:=by simp [Ff,Code.envs,Fs,pushEnvs]
theorem dZ:Mu (ρ ++ [p]) a↔Mu ρ a∨a=p.1∨a=p.2:=by
 constructor
 ·rintro ⟨q,h,e⟩
  rcases ώ.mp h with h | h
  ·exact .inl ⟨q,h,e⟩
  ·cases ε.mp h;exact .inr e
 ·rintro (⟨q,h,e⟩ | e)
  ·exact ⟨q,FQ _ h,e⟩
  ·exact ⟨p,FG _ ι,e⟩
theorem aU {l:List α} (e:(l ++ [a])[n]? = some b):l[n]? = some b∨(n=l.length∧b=a):=by
 rcases Nat.lt_trichotomy n l.length with h | h | h
 ·rw [ϓ h] at e;exact .inl e
 ·subst h;rw [ϋ (Ϗ _),Ŗ] at e;cases e;exact .inr ⟨rfl,rfl⟩
 ·rw [ϋ (đ h),List.getElem?_eq_none (by simp;omega)] at e;cases e
theorem HR.snoc (I:HR X z) (g:Gr z.s s') (hp:z.h p.1=none∧z.h p.2=none) (r:ObR X.W (z.ρ ++ [p]) z.G s'.heap.get? p o) (tk:X.tz≤s'.toks:=by first | assumption | exact HR.tk (by assumption) | exact HR.tk1 (by assumption) | exact (Rep.toHR (by assumption)).tk | exact (Rep.toHR (by assumption)).tk1 | exact Ϡ (by assumption)):HR X { z with ρ:=z.ρ ++ [p],t:=⟨z.t.env,z.t.ow,z.t.st ++ [o]⟩,s:=s' }∧Stp X.fr w z { z with ρ:=z.ρ ++ [p],t:=⟨z.t.env,z.t.ow,z.t.st ++ [o]⟩,s:=s' }:=by
 have nn:∀ {a:φ},(a=p.1∨a=p.2)→z.h a=none:=fun h=>h.elim (fun e=>e ▸ hp.1) fun e=>e ▸ hp.2
 have pre:z.ρ <+: z.ρ ++ [p]:=É _ _
 have no:∀ {a:φ} {P:Prop},(a=p.1∨a=p.2)→(∃ o,z.h a=some o)→P:=fun h ⟨o,e⟩=>by rw [nn h] at e;cases e
 have old:∀ {i:Nat} {q:φ×φ} {a:φ},z.ρ[i]? = some q→(a=q.1∨a=q.2)→∃ o,z.h a=some o:=fun h1 h2=>I.th ⟨_,Ρ h1,h2⟩
 refine ⟨⟨I.md,I.fm,I.hd,I.bs,fun a o e=>g.k a o (I.gh a o e),by simp [I.rl],fun i j q1 q2 a h1 h2 h3 h4=>?_,fun a m=>?_,fun n o' q h1 h2=>?_,nfu I.fu g.k,fun b m=>⟨(I.ff b m).1,fun w=>(dZ.mp w).elim (I.ff b m).2 fun w=>no w (I.fth m)⟩,by show œ s'.gens;rw [g.gs];exact I.br,g.os.trans I.os,tk⟩,⟨pre,.refl _,fun _ _ e=>.inl e,fun a m=>(dZ.mp m).imp_right nn,fun a o e=>⟨o,g.k a o e⟩,fun a o e _ _ _=>g.k a o e,fun a o e _ _ _=>⟨o.slots,g.k a o e⟩⟩⟩
 ·rcases aU h1 with a1 | ⟨a1,b1⟩
  ·rcases aU h2 with a2 | ⟨a2,b2⟩
   ·exact I.rn i j q1 q2 a a1 a2 h3 h4
   ·subst b2;exact no h4 (old a1 h3)
  ·subst b1
   rcases aU h2 with a2 | ⟨a2,b2⟩
   ·exact no h3 (old a2 h4)
   ·rw [a1,a2]
 ·rcases dZ.mp m with m | m
  ·exact I.rg a m
  ·cases q:z.G a with
   | none=>rfl
   | some o=>exact no m ⟨o,I.gh a o q⟩
 ·rcases aU h2 with a2 | ⟨a2,b2⟩
  ·rcases aU h1 with a1 | ⟨a1,_⟩
   ·exact (I.ob n o' q a1 a2).mono pre (.refl _) fun a _ o e=>g.k a o e
   ·have:=(κ.mp a2).1;rw [I.rl] at this;omega
  ·subst b2
   rcases aU h1 with a1 | ⟨_,b1⟩
   ·have:=(κ.mp a1).1;rw [← I.rl] at this;omega
   ·subst b1;exact r
theorem HR.at {A:ϙ} (I:HR X z) (f:A.frames=X.A.frames) (h:A.handled=X.A.handled):HR { X with A:=A } z:=⟨I.md,f.trans I.fm,fun c=>h.trans (I.hd c),I.bs,I.gh,I.rl,I.rn,I.rg,I.ob,I.fu,I.ff,I.br,I.os,I.tk⟩
theorem pa {o:Out D} {j:Nat} {cl:Cl} {i:CI} (F:bR X X.cal1 lv cl.init f) (hr:bq (lv+1) X.A) (M:Mk X.K i.ad f) (hcl:X.Γ.cl[j]? = some cl) (hw:cl.what=0) (hci:X.W.ci[j]? = some i) (hwh:X.W.what[j]? = some 0) (x:Ee X z0 z) (I:Rep X z) (r:RVs X.W true es z l us)
 (e:o=(match X.Γ.cl[j]? with
 | some k=>if k.what=1 then (if l.length=k.at_.length then .ok (.ins j l) (drp es z.t z.t.st) else .bad)
   else if k.what=0 then (match X.cal1 k.init (.ref z.t.st.length :: l) (z.t.st ++ [.ins j []]) with
    | .ok .non st=>.ok (.ref z.t.st.length) (aft es z.t .non st)
    | _=>.bad)
   else .bad
 | none=>.bad)) (nb:o≠.bad):Α X.M X.A (call (.ref i.ad) us) (Pe X z0 o (RV X.W br c)) (Px X z0 o) z.s:=by
 rw [hcl] at e
 dsimp only at e
 rw [ZY (by omega),ZZ hw] at e
 obtain ⟨Ir,xr⟩:=I.rel fun i=>!(bH es).contains i
 obtain ⟨fd,ps,dvs,F,hb,kp⟩:=F
 have nbc:X.cal1 cl.init (.ref z.t.st.length :: l) (z.t.st ++ [.ins j []])≠.bad:=fun q=>by rw [q] at e;exact nb e
 have g:Gr z.s { z.s with heap:=(z.s.heap.push Õ).push (Ë i.ad z.s.heap.objs.size) }:=⟨rfl,rfl,fun b o e=>Ζ _ (Ζ _ e)⟩
 have e1:(z.s.heap.push Õ).get? z.s.heap.objs.size=some Õ:=ψ z.s.heap rfl
 have e2:((z.s.heap.push Õ).push (Ë i.ad z.s.heap.objs.size)).get? (z.s.heap.objs.size+1)=some (Ë i.ad z.s.heap.objs.size):=by
  have:=ψ (z.s.heap.push Õ) (o:=Ë i.ad z.s.heap.objs.size) rfl
  rwa [ċ] at this
 have hn:z.h (z.s.heap.objs.size+1)=none∧z.h z.s.heap.objs.size=none:=⟨Ϙ (ö _),Ϙ (Ϗ _)⟩
 have ne:z.s.heap.objs.size≠z.s.heap.objs.size+1:=ϯ (Ň _)
 obtain ⟨H1,S1⟩:=HR.snoc (w:=NoW) (p:=(z.s.heap.objs.size+1,z.s.heap.objs.size)) (o:=.ins j []) Ir.toHR g hn ⟨i,[],hci,hwh,ϰ _,⟨e2,ne,by simp,_,Ζ _ e1,#[],_,rfl,(fun e he=>ZX he (by simp)),.nil,fun n=>by cases i.nm <;> rfl⟩,rfl⟩
 have at0:(z.ρ ++ [(z.s.heap.objs.size+1,z.s.heap.objs.size)])[z.t.st.length]? = some (z.s.heap.objs.size+1,z.s.heap.objs.size):=by rw [ϋ (by rw [I.rl];exact Ϗ _),I.rl,Ŗ];rfl
 have rd0:=jN Ir xr.st.gg gA (fun _ h=>h) r
 have rd:RDs X.W (z.ρ ++ [(z.s.heap.objs.size+1,z.s.heap.objs.size)]) (z.rel fun i=>!(bH es).contains i).G (.ref z.t.st.length :: l) (.ref (z.s.heap.objs.size+1) :: us):=.cons ⟨_,at0,rfl⟩ (rd0.mono (É _ _) (.refl _))
 have bd:=hb { z.s with heap:=(z.s.heap.push Õ).push (Ë i.ad z.s.heap.objs.size) } (.ref (z.s.heap.objs.size+1) :: us) (I.toHR.kin.keeps g.k) (by rw [Δ,← rd.len];exact F.len _ _ nbc)
 refine Č (sU (f:=f) I.toHR.kin M.makes M.init (beq_iff_eq.mp M.fn) (ý (F.run _ X.fr _ ⟨.ref (z.s.heap.objs.size+1) :: us,[]⟩ _ _ (hr.make i.ad us []) (H1.at (ik i.ad us []) rfl) bd rd nbc) fun q s' hq=>?_))
 cases q with
 | error e'=>obtain ⟨z',c,l',_,er,_,_,_⟩:=hq;rw [show X.cal1 cl.init (.ref z.t.st.length :: l) (z.t.st ++ [.ins j []])=_ from er] at e;exact ZX e nb
 | ok fl=>
   cases fl with
   | ret u=>
     obtain ⟨z',d,rfl,er,S,H,r⟩:=hq
     rw [show X.cal1 cl.init (.ref z.t.st.length :: l) (z.t.st ++ [.ins j []])=_ from er] at e
     cases d with
     | non=>
       refine ⟨(show u = .none from r),?_⟩
       have S2:Stp X.fr NoW (z.rel fun i=>!(bH es).contains i) z':=S1.trans S fun _ h=>h.elim
       have H2:HR X z':=H.at (X:={ X with A:=_,fr:=X.fr }) (A:=X.A) (ik i.ad us []).symm rfl
       obtain ⟨zf,f1,f2,f3,If,xf,k1,k2,k3⟩:=I.back (fun i=>!(bH es).contains i) (fun i=>!(bH es).contains i || (isLst z.t.env[i]? && (noL .non && z'.t.st.all mB))) S2 H2 (fun i h=>by rw [h];rfl) fun i _ h=>by
        cases w:(!(bH es).contains i) with
        | true=>exact .inl rfl
        | false=>rw [w,HO,ω,ω] at h;exact .inr ⟨h.1,h.2.2⟩
       refine Pe.less x ⟨zf,.ref z.t.st.length,f1,by rw [e,f2];rfl,xf,If,.of ⟨(z.s.heap.objs.size+1,z.s.heap.objs.size),?_,rfl⟩⟩
       rw [f3]
       exact eD S.pr at0
     | _=>exact ZX e nb
   | next=>exact hq.elim
   | brk=>exact hq.elim
   | cont=>exact hq.elim
end
def Ps (X:Cx) (z:Z) (o:am) (f:Flow) (s':ς):Prop:=match o with
 | .nx t=>f = .next∧∃ z',z'.s=s'∧z'.t=t∧Go X z z'∧Rep X z'
 | .rt d t=>∃ u z',f = .ret u∧z'.s=s'∧z'.t.st=t.st∧Go X z z'∧Rep X z'∧RD X.W z'.ρ z'.G d u
 | _=>False
inductive PxS (X:Cx) (z:Z) (o:am) (x:η) (s':ς):Prop
 | mk (z':_) (c:_) (l:_) (_:z'.s=s') (_:o = .exc c l z'.t) (_:Go X z z') (_:Rep X z') (_:XO X z z' c l x)
abbrev Ws (X:Cx) (t:E0 Flow) (z:Z) (o:am):Prop:=Α X.M X.A t (Ps X z o) (PxS X z o) z.s
def LS (X:Cx) (st:Ò) (c:S):Prop:=∀ z,Rep X z→X.ex c z.t≠.bad→Ws X (exec st X.env) z (X.ex c z.t)
def LSs (X:Cx) (st:List Ò) (c:S):Prop:=∀ z,Rep X z→X.ex c z.t≠.bad→Ws X (execs st X.env) z (X.ex c z.t)
section
variable {X:Cx} {z z' z0 z1:Z}
theorem Ps.less (x:Go X z z1) (h:Ps X z1 o f s'):Ps X z o f s':=by
 cases o with
 | nx t=>obtain ⟨e,z',a,b,y,I⟩:=h;exact ⟨e,z',a,b,x.trans y,I⟩
 | rt d t=>obtain ⟨u,z',e,a,b,y,I⟩:=h;exact ⟨u,z',e,a,b,x.trans y,I⟩
 | _=>exact h
theorem PxS.less (x:Go X z z1) (h:PxS X z1 o u s'):PxS X z o u s':=let ⟨z',c,l,e,q,y,I,n⟩:=h;⟨z',c,l,e,q,x.trans y,I,n.less fun _=>x.st.no⟩
theorem PxS.of {m:Out α} (x:Go X z z1) (h:Px X z1 m u s') {f:α→Sta→am}:PxS X z (m.go f) u s':=let ⟨z',c,l,e,q,y,I,n⟩:=h;⟨z',c,l,e,by rw [q];rfl,x.trans y.go,I,n.less fun _=>x.st.no⟩
theorem Jg.gos {t:E0 β} {m:Sta→Out α} {R:Z→α→β→Prop} {f:α→Sta→am} {o:am} {K:β→ς→Prop} (h:Jg X t m R) (x:Go X z z1) (I:Rep X z1) (e:o=(m z1.t).go f) (nb:o≠.bad)
 (k:∀ z2 d u,Ee X z1 z2→Go X z z2→Rep X z2→R z2 d u→o=f d z2.t→K u z2.s):Α X.M X.A t K (PxS X z o) z1.s:=by
 subst e
 refine Η (h z1 I fun q=>nb (by rw [q];rfl)) (fun u s' ⟨z2,d,e,q,y,I1,r⟩=>?_) fun u s' h=>.of x h
 subst e;exact k z2 d u y (x.trans y.go) I1 r (by rw [q];rfl)
theorem nxt (x:Go X z z1) (I:Rep X z1) (e:o = .nx z1.t):Ps X z o .next z1.s:=by subst e;exact ⟨rfl,z1,rfl,rfl,x,I⟩
theorem LSs.at (h:LSs X sts c) (x:Go X z z1) (I:Rep X z1) (e:o=X.ex c z1.t) (nb:o≠.bad):Α X.M X.A (execs sts X.env) (Ps X z o) (PxS X z o) z1.s:=by subst e;exact Η (h z1 I nb) (fun _ _ h=>h.less x) fun _ _ h=>h.less x
theorem sN:LSs X [] .skip:=fun z I _=>ī (nxt .refl I rfl)
theorem sO (h:LS X tm c):LSs X [tm] c:=fun z I nb=>Ş (thn (h z I nb) fun f s1 q=>by
 cases f with
 | next=>exact ī q
 | ret v=>exact q
 | brk=>exact q
 | cont=>exact q)
theorem og (h1:LS X tm a) (h2:LSs X rest b):LSs X (tm :: rest) (.seq a b):=fun z I nb=>by
 have nb1:X.ex a z.t≠.bad:=fun q=>nb (show am.go (X.ex a z.t) _=_ by rw [q];rfl)
 refine Ş (Η (h1 z I nb1) (fun f s1 q=>?_) fun u s' ⟨z',c,l,e,q,y,J,r⟩=>⟨z',c,l,e,show am.go (X.ex a z.t) _=_ by rw [q];rfl,y,J,r⟩)
 cases qa:X.ex a z.t with
 | nx t=>
   rw [qa] at q
   obtain ⟨rfl,z1,rfl,rfl,x1,I1⟩:=q
   exact h2.at x1 I1 (show am.go (X.ex a z.t) _=_ by rw [qa];rfl) nb
 | rt d t=>
   have e:X.ex (.seq a b) z.t = .rt d t:=show am.go (X.ex a z.t) _=_ by rw [qa];rfl
   rw [qa] at q
   obtain ⟨u,z1,rfl,r⟩:=q
   show Ps X z (X.ex (.seq a b) z.t) (.ret u) s1
   rw [e];exact ⟨u,z1,rfl,r⟩
 | exc c l t=>rw [qa] at q;exact q.elim
 | bad=>exact ZX qa nb1
theorem oj (h:∀ z,Rep X z→Α X.M X.A (exec tm X.env) (fun f s'=>f = .next∧Gr z.s s') NoE z.s):LS X tm .skip:=fun z I _=>Η (ό I.tk (h z I)) (fun f s' ⟨tk,e,g⟩=>by subst e;exact nxt (z1:={ z with s:=s' }) (ao I.gh g).ee.go (I.grow (ao I.gh g) tk) rfl) fun _ _ z=>z.2.elim
theorem vT:LS X (.Pass pos) .skip:=oj fun _ _=>wpAny_Pass ⟨rfl,.refl⟩
theorem Rep.quiet (I:Rep X z):interactive X.env=false:=by simp [interactive,I.ok.kd]
theorem y0:LS X (.Expr (.Constant (.str x) j pos) pos') .skip:=oj fun z I=>wpAny_Expr (Ϩ (show _∧_ from ⟨rfl,.tok⟩)) I.quiet
theorem vO (he:LE X e c) (hs:ķ e none pos.line X.env=pure false):LS X (.Expr e pos) (.drop c):=fun z I nb=>ſ ((he false).gos .refl I rfl nb fun z1 d u y x I1 r e1=>nxt x I1 e1) I.quiet hs
theorem jD (he:LE X e c):LS X (.Return (some e) pos) (.ret c):=fun z I nb=>wpAny_Return_some ((he false).gos .refl I rfl nb fun z1 d u y x I1 r e1=>by
 show Ps X z (X.ex (.ret c) z.t) _ _
 rw [e1];exact ⟨u,z1,rfl,rfl,rfl,x,I1,r.rd⟩)
theorem vW:LS X (.Return none pos) (.ret (.c .non)):=fun z I nb=>wpAny_Return_none ⟨.none,z,rfl,rfl,rfl,.refl,I,rfl⟩
theorem BM (hc:LT X ec c) (ha:LSs X sa a) (hb:LSs X sb b):LS X (.If ec sa sb pos) (.ifs c a b):=fun z I nb=>by
 have e:X.ex (.ifs c a b) z.t=((X.ev true c z.t).bind toB).go fun t s=>if t then X.ex a s else X.ex b s:=by
  show Out.go (X.ev true c z.t) _=_
  cases X.ev true c z.t with
  | ok d s=>cases d <;> first | rfl | (rename_i t;cases t <;> rfl)
  | _=>rfl
 refine wpAny_If (hc.gos .refl I e nb fun z1 t u y x I1 r e1=>?_)
 cases (show u=t from r)
 cases t with
 | true=>exact ha.at x I1 e1 nb
 | false=>exact hb.at x I1 e1 nb
def Vl (X:Cx) (z0 z:Z) (own:Bool) (d:D) (u:η):Prop:=match own with
 | false=>RD X.W z.ρ z.G d u
 | true=>FV X z0 z d u
def stV (t:Sta) (i:Nat) (d:D) (own:Bool):Sta:=⟨t.env.set i (some d),if own then i :: t.ow.filter (· != i) else t.ow.filter (· != i),t.st⟩
theorem jt {h h' base:ϻ} (k:∀ b o,h.get? b=some o→(∀ vs,o.data≠.fields vs)→∃ o',h'.get? b=some o'∧∀ vs,o'.data≠.fields vs):∀ {l:List ż},h.FunFrames base l→h'.FunFrames base l
 | [],_=>trivial
 | _ :: _,⟨a,⟨L,o,e1,e2,e3,e4⟩,r⟩=>let ⟨o',q1,q2⟩:=k L o e3 e4;⟨a,⟨L,o',e1,e2,q1,q2⟩,jt k r⟩
theorem Rep.put {s':ς} {i:Nat} {own:Bool} {d:D} {u:η} (x0:Go X z0 z) (I:Rep X z) (sb:æ a z.s.heap s'.heap) (la:Lc X a) (th:∃ o,s'.heap.get? a=some o∧∀ vs,o.data≠.fields vs) (os:s'.os=z.s.os) (gs:s'.gens=z.s.gens) (vl:Vl X z0 z own d u) (hi:i<X.N.length)
 (lo:∃ m,s'.heap.Ns X.env.locals m∧∀ (j:Nat) (x:θ) (w:η),X.N[j]? = some x→(z.σ.set i (some u))[j]? = some (some w)→Vis X.env.scope x→lE X.env s'.heap m x w)
 (ce:∀ x c,X.env.cells.lookup x=some c→∃ v,s'.heap.IsCell c v) (tk:X.tz≤s'.toks:=by first | assumption | exact HR.tk (by assumption) | exact HR.tk1 (by assumption) | exact (Rep.toHR (by assumption)).tk | exact (Rep.toHR (by assumption)).tk1 | exact Ϡ (by assumption)):Rep X { z with t:=stV z.t i d own,σ:=z.σ.set i (some u),s:=s' }∧Go X z0 { z with t:=stV z.t i d own,σ:=z.σ.set i (some u),s:=s' }:=by
 have ne:∀ {b:φ},¬ Lc X b→s'.heap.get? b=z.h b:=fun n=>sb.2 _ fun e=>n (e ▸ la)
 have nG:∀ {b o},z.G b=some o→¬ Lc X b:=fun e l=>by rw [(I.fl _ l).1] at e;cases e
 have nM:∀ {b},Mu z.ρ b→¬ Lc X b:=fun m l=>(I.fl _ l).2 m
 have hiσ:i<z.σ.length:=by rw [I.sl];exact hi
 have ow:∀ {j},j∈(stV z.t i d own).ow→(j=i∧own=true)∨(j≠i∧j∈z.t.ow):=fun {j} m=>by
  cases own with
  | true=>
    rcases υ.mp (show j∈i :: z.t.ow.filter (· != i) from m) with w | w
    ·exact .inl ⟨w,rfl⟩
    ·have:=ϔ.mp w;exact .inr ⟨by simpa using this.2,this.1⟩
  | false=>have:=ϔ.mp (show j∈z.t.ow.filter (· != i) from m);exact .inr ⟨by simpa using this.2,this.1⟩
 have wo:∀ {j},j≠i→j∈z.t.ow→j∈(stV z.t i d own).ow:=fun {j} n m=>by
  have w:j∈z.t.ow.filter (· != i):=ϔ.mpr ⟨m,by simpa using n⟩
  cases own with
  | true=>exact ν _ w
  | false=>exact w
 have get:∀ {j},j≠i→(z.σ.set i (some u))[j]? = z.σ[j]?:=fun h=>Φ (ϳ h)
 have gete:∀ {j},j≠i→(z.t.env.set i (some d))[j]? = z.t.env[j]?:=fun h=>Φ (ϳ h)
 have gi:(z.σ.set i (some u))[i]? = some (some u):=ϟ hiσ
 have gie:(z.t.env.set i (some d))[i]? = some (some d):=ϟ (by rw [I.el];exact hiσ)
 have fu:s'.heap.FunFrames X.base X.fr:=jt (fun b o e nf=>by
  by_cases q:b=a
  ·subst q;exact th
  ·exact ⟨o,(sb.2 b q).trans e,nf⟩) I.fu
 have th':∀ b o,z.h b=some o→∃ o',s'.heap.get? b=some o':=fun b o e=>by
  by_cases q:b=a
  ·subst q;exact th.imp fun _ h=>h.1
  ·exact ⟨o,(sb.2 b q).trans e⟩
 have S:Stp X.fr (Pv X z) z { z with t:=stV z.t i d own,σ:=z.σ.set i (some u),s:=s' }:=⟨μ _,.refl _,fun _ _ e=>.inl e,fun _ m=>.inl m,th',fun b o e _ w _=>(ne fun l=>w (.inr l)).trans e,fun b o e _ w _=>⟨o.slots,(ne fun l=>w (.inr l)).trans e⟩⟩
 refine ⟨⟨⟨I.md,I.fm,I.hd,I.bs,fun b o e=>(ne (nG e)).trans (I.gh b o e),I.rl,I.rn,I.rg,fun n o p h1 h2=>(I.ob n o p h1 h2).mono (μ _) (.refl _) fun b hb o e=>(ne (nM ⟨p,Ρ h2,hb⟩)).trans e,fu,I.ff,by show œ s'.gens;rw [gs];exact I.br,os.trans I.os,tk⟩,I.ok,lo,ce,I.fl,by show (z.t.env.set i (some d)).length=(z.σ.set i (some u)).length;rw [ϸ,ϸ];exact I.el,by show (z.σ.set i (some u)).length=_;rw [ϸ];exact I.sl,fun j d' n e=>?_,fun j m=>?_,fun j k b m1 m2 e1 e2=>?_⟩,x0.st.trans S fun b w=>w.elim (fun w=>(x0.ow b w).imp_left .inl) fun w=>.inl (.inr w),fun b ⟨j,m,e⟩=>?_⟩
 ·by_cases q:j=i
  ·subst q
   rw [show (z.t.env.set j (some d))[j]? = some (some d') from e] at gie;cases gie
   cases own with
   | true=>exact ZX ι n
   | false=>exact ⟨u,gi,vl⟩
  ·obtain ⟨w,e1,r⟩:=I.en j d' (fun m=>n (wo q m)) ((gete q).symm.trans e)
   exact ⟨w,(get q).trans e1,r⟩
 ·rcases ow m with ⟨rfl,rfl⟩ | ⟨q,m⟩
  ·obtain ⟨b,o,rfl,_,t,r,f,no⟩:=vl
   exact ⟨d,b,o,gie,gi,t,r.mono (μ _) (.refl _) fun c hc o e=>(ne (by rcases hc with rfl | rfl <;> exact f.2.2.2)).trans e,f⟩
  ·obtain ⟨d',b,o,h1,h2,h3,r,f⟩:=I.eo j m
   exact ⟨d',b,o,(gete q).trans h1,(get q).trans h2,h3,r.mono (μ _) (.refl _) fun c hc o e=>(ne (by rcases hc with rfl | rfl <;> exact f.2.2.2)).trans e,f⟩
 ·have new:∀ {k:Nat} {b:φ},own=true→k∈z.t.ow→(z.σ.set i (some u))[i]? = some (some (.ref b))→z.σ[k]? = some (some (.ref b))→False:=fun {k b} ho mk w1 w2=>by
   subst ho
   obtain ⟨b',o,rfl,_,t,r,f,no⟩:=vl
   rw [gi] at w1;cases w1
   exact no ⟨k,mk,w2⟩
  rcases ow m1 with ⟨h1,ho⟩ | ⟨q1,n1⟩ <;> rcases ow m2 with ⟨h2,ho2⟩ | ⟨q2,n2⟩
  ·exact h1.trans h2.symm
  ·exact (new ho n2 (h1 ▸ e1) ((get q2).symm.trans e2)).elim
  ·exact (new ho2 n1 (h2 ▸ e2) ((get q1).symm.trans e1)).elim
  ·exact I.od j k b n1 n2 ((get q1).symm.trans e1) ((get q2).symm.trans e2)
 ·rcases ow m with ⟨rfl,rfl⟩ | ⟨q,m⟩
  ·obtain ⟨b',o,rfl,n,_⟩:=vl
   rw [show (z.σ.set j (some (.ref b')))[j]? = some (some (.ref b)) from e] at gi;cases gi
   exact .inr n
  ·exact x0.ow b ⟨j,m,(get q).symm.trans e⟩
theorem Rep.cne (I:Rep X z):∀ x c,X.env.cells.lookup x=some c→c≠X.env.locals:=fun x c e q=>by
 obtain ⟨v,o,ho,hd⟩:=I.ce x c e
 obtain ⟨m,⟨o',es,ep,ho',hd',_⟩,_⟩:=I.lo
 rw [q,ho'] at ho;cases ho;rw [hd'] at hd;cases hd
theorem bF {i:Nat} {x:θ} {own:Bool} {d:D} {u:η} {Q:Unit→ς→Prop} {E:η→ς→Prop} (x0:Go X z0 z) (I:Rep X z) (hN:X.N.Nodup) (hi:X.N[i]? = some x) (hx:Loc X.env.scope x) (vl:Vl X z0 z own d u)
 (h:∀ s' a,æ a z.s.heap s'.heap→Lc X a∧(X.env.scope.names.lookup x=some .local→a=X.env.locals)→Rep X { z with t:=stV z.t i d own,σ:=z.σ.set i (some u),s:=s' }→Go X z0 { z with t:=stV z.t i d own,σ:=z.σ.set i (some u),s:=s' }→Q () s'):Α X.M X.A (Ig X.env x u) Q E z.s:=by
 obtain ⟨m,hn,hl⟩:=id I.lo
 have hcls:(X.env.scope.kind == .class || (X.env.scope.kind == .module && X.env.locals != X.env.globals))=false:=by rw [I.ok.kd];rfl
 have il:i<X.N.length:=(κ.mp hi).1
 have hiσ:i<z.σ.length:=by rw [I.sl];exact il
 rcases hx with hk | hk
 ·refine GU hk hn (fun h' hn' hs=>?_) hcls
  have ⟨oL,es,ep,hoL,hdL,_⟩:=hn'
  have lo:∀ (j:Nat) (y:θ) (w:η),X.N[j]? = some y→(z.σ.set i (some u))[j]? = some (some w)→Vis X.env.scope y→lE X.env h' (fun y=>if y=x then some u else m y) y w:=fun j y w e1 e2 e3=>by
   by_cases hj:j=i
   ·subst hj
    rw [hi] at e1;cases e1
    rw [ϟ hiσ] at e2;cases e2
    exact .inl ⟨hk,by simp⟩
   ·rw [Φ (ϳ hj)] at e2
    rcases hl j y w e1 e2 e3 with ⟨k,e⟩ | ⟨k,c,e,q⟩
    ·have:y≠x:=fun e=>hj (gY hN e1 (e ▸ hi))
     exact .inl ⟨k,by simp [this,e]⟩
    ·exact .inr ⟨k,c,e,q.sameBut hs (I.cne y c e)⟩
  obtain ⟨I',g'⟩:=Rep.put (s':={ z.s with heap:=h',toks:=z.s.toks+1 }) x0 I hs (.inl rfl) ⟨oL,hoL,fun vs e=>by rw [hdL] at e;cases e⟩ rfl rfl vl il ⟨_,hn',lo⟩ fun y c e=>let ⟨v,q⟩:=I.ce y c e;⟨v,q.sameBut hs (I.cne y c e)⟩
  exact h _ _ hs ⟨.inl rfl,fun _=>rfl⟩ I' g'
 ·obtain ⟨c,hc⟩:=I.ok.ch x (.inl hk)
  obtain ⟨w',q0⟩:=I.ce x c hc
  refine wpAny_storeName_cell I.ok.kd hk hc q0 (fun h' hc' hs=>?_)
  have ⟨oc,hoc,hdc⟩:=hc'
  have lo:∀ (j:Nat) (y:θ) (w:η),X.N[j]? = some y→(z.σ.set i (some u))[j]? = some (some w)→Vis X.env.scope y→lE X.env h' m y w:=fun j y w e1 e2 e3=>by
   by_cases hj:j=i
   ·subst hj
    rw [hi] at e1;cases e1
    rw [ϟ hiσ] at e2;cases e2
    exact .inr ⟨.inl hk,c,hc,hc'⟩
   ·rw [Φ (ϳ hj)] at e2
    rcases hl j y w e1 e2 e3 with q | ⟨k,c',e,q⟩
    ·exact .inl q
    ·refine .inr ⟨k,c',e,q.sameBut hs ?_⟩
     rintro rfl
     exact hj (gY hN e1 (I.ok.ci _ _ _ e hc ▸ hi))
  have ce:∀ y c',X.env.cells.lookup y=some c'→∃ v,h'.IsCell c' v:=fun y c' e=>by
   by_cases hcc:c'=c
   ·subst hcc;exact ⟨_,hc'⟩
   ·obtain ⟨w2,q2⟩:=I.ce y c' e
    exact ⟨w2,q2.sameBut hs hcc⟩
  obtain ⟨I',g'⟩:=Rep.put (s':={ z.s with heap:=h' }) x0 I hs (.inr ⟨x,hc⟩) ⟨oc,hoc,fun vs e=>by rw [hdc] at e;cases e⟩ rfl rfl vl il ⟨m,hn.sameBut hs (ϳ (I.cne x c hc)),lo⟩ ce
  exact h _ _ hs ⟨.inr ⟨x,hc⟩,fun e=>by rw [show X.env.scope.names.lookup x=some .cell from hk] at e;cases e⟩ I' g'
theorem fj (hN:X.N.Nodup) (hi:X.N[i]? = some x) (hx:Loc X.env.scope x) (he:LE X e c) (hf:au c=true→LF X e c) (hs:ķ e (some (.Name x pos')) pos.line X.env=pure false):LS X (.Assign [.Name x pos'] e pos) (.set i c):=fun z I nb=>by
 refine Eh ?_ hs
 cases f:au c with
 | false=>
   refine (he false).gos .refl I rfl nb fun z1 d u y x0 I1 r e1=>bF (own:=false) x0 I1 hN hi hx r.rd fun s' a _ _ I' g'=>nxt (z1:={ z1 with t:=stV z1.t i d false,σ:=z1.σ.set i (some u),s:=s' }) g' I' ?_
   rw [e1];unfold hW;rw [f];rfl
 | true=>
   have nb1:X.ev false c z.t≠.bad:=fun q=>nb (show Out.go (X.ev false c z.t) _=_ by rw [q];rfl)
   refine Η (hf f z I nb1) (fun u s' ⟨z1,d,q1,q2,y,I1,fv⟩=>?_) fun u s' h=>.of .refl h
   subst q1
   refine bF (own:=true) y.go I1 hN hi hx fv fun s' a _ _ I' g'=>nxt (z1:={ z1 with t:=stV z1.t i d true,σ:=z1.σ.set i (some u),s:=s' }) g' I' ?_
   show Out.go (X.ev false c z.t) _=_
   rw [q2]
   show am.nx (hW z1.t i d (au c))=_
   unfold hW
   have ld:rX d=true:=by
    obtain ⟨_,_,_,_,t,_⟩:=fv
    cases d <;> first | rfl | cases t
   rw [f,ld];rfl
end
def aF:Ο→Bool
 | .Starred ..=>false
 | .Set ..=>false
 | .Slice ..=>false
 | _=>true
section
variable {X:Cx} {z z' z0 z1:Z}
theorem zq {o:O} {hp:Hp} (q:ObR W ρ G hp (a,b) o) (e:∃ d:D,toO d=some o):∃ ob,hp a=some ob∧∀ vs,ob.data≠.fields vs:=by
 obtain ⟨d,e⟩:=e
 cases d <;> cases e
 ·obtain ⟨o,vs,_,q,⟨⟨n,rfl⟩,_⟩,_⟩:=q;exact ⟨_,q,nofun⟩
 ·obtain ⟨o,vs,_,_,q,⟨es,ep,_,w,_⟩,_⟩:=q;exact ⟨_,q,fun v z=>by rw [w] at z;cases z⟩
theorem Rep.ownw {s':ς} {i:Nat} {d':D} {o':O} (I:Rep X z) (m:i∈z.t.ow) (ea:z.σ[i]? = some (some (.ref a))) (t:toO d'=some o') (sb:∀ b,b≠a→s'.heap.get? b=z.h b) (r:ObR X.W z.ρ z.G s'.heap.get? (a,a) o') (os:s'.os=z.s.os) (gs:s'.gens=z.s.gens) (tk:X.tz≤s'.toks:=by first | assumption | exact HR.tk (by assumption) | exact HR.tk1 (by assumption) | exact (Rep.toHR (by assumption)).tk | exact (Rep.toHR (by assumption)).tk1 | exact HR.tk2 (Rep.toHR (by assumption)) | exact HR.tk3 (Rep.toHR (by assumption))) :
 Rep X { z with t:=⟨z.t.env.set i (some d'),z.t.ow,z.t.st⟩,s:=s' }∧Go X z { z with t:=⟨z.t.env.set i (some d'),z.t.ow,z.t.st⟩,s:=s' }:=by
 obtain ⟨f,oa,ha⟩:=I.oth ⟨i,m,ea⟩
 have nM:∀ {b},Mu z.ρ b→b≠a:=fun h e=>f.2.1 (e ▸ h)
 have nG:∀ {b o},z.G b=some o→b≠a:=fun h e=>by rw [e,f.1] at h;cases h
 have nL:∀ {b},Lc X b→b≠a:=fun h e=>f.2.2.2 (e ▸ h)
 have nf:∀ {b},b∈frs X.fr→b≠a:=fun h e=>f.2.2.1 (e ▸ h)
 obtain ⟨on,hn,_⟩:=zq r ⟨d',t⟩
 have hie:i<z.t.env.length:=by obtain ⟨d,_,_,e,_⟩:=I.eo i m;exact (κ.mp e).1
 have ck:∀ x c v,X.env.cells.lookup x=some c→z.s.heap.IsCell c v→s'.heap.IsCell c v:=fun x c v e ⟨o,q,d⟩=>⟨o,(sb c (nL (.inr ⟨x,e⟩))).trans q,d⟩
 have fu:s'.heap.FunFrames X.base X.fr:=by
  have:∀ {l:List ż},(∀ b∈frs l,b≠a)→z.s.heap.FunFrames X.base l→s'.heap.FunFrames X.base l:=fun {l}=>by
   induction l with
   | nil=>exact fun _ _=>trivial
   | cons v r ih=>
     intro hs ⟨k,⟨L,o,e1,e2,e3,e4⟩,q⟩
     have hm:L∈frs (v :: r):=by unfold frs;rw [Ϧ,e1];exact ι
     exact ⟨k,⟨L,o,e1,e2,(sb L (hs L hm)).trans e3,e4⟩,ih (fun b hb=>hs b (by unfold frs;rw [Ϧ,e1];exact ν _ hb)) q⟩
  exact this (fun b h=>nf h) I.fu
 refine ⟨⟨⟨I.md,I.fm,I.hd,I.bs,fun b o e=>(sb b (nG e)).trans (I.gh b o e),I.rl,I.rn,I.rg,fun n o p h1 h2=>(I.ob n o p h1 h2).mono (μ _) (.refl _) fun b hb o e=>(sb b (nM ⟨p,Ρ h2,hb⟩)).trans e,fu,I.ff,by show œ s'.gens;rw [gs];exact I.br,os.trans I.os,tk⟩,I.ok,?_,fun x c e=>let ⟨v,q⟩:=I.ce x c e;⟨v,ck x c v e q⟩,I.fl,by show (z.t.env.set i (some d')).length=_;rw [ϸ];exact I.el,I.sl,fun j d n e=>?_,fun j mj=>?_,I.od⟩,⟨μ _,.refl _,fun _ _ e=>.inl e,fun _ m=>.inl m,fun b o e=>?_,fun b o e _ w _=>(sb b fun q=>w (.inl (q ▸ ⟨i,m,ea⟩))).trans e,fun b o e _ w _=>⟨o.slots,(sb b fun q=>w (.inl (q ▸ ⟨i,m,ea⟩))).trans e⟩⟩,fun b ⟨j,mj,e⟩=>.inl ⟨j,mj,e⟩⟩
 ·obtain ⟨mm,⟨oL,es,ep,q,r⟩,hl⟩:=I.lo
  exact ⟨mm,⟨oL,es,ep,(sb _ (nL (.inl rfl))).trans q,r⟩,fun j x w e1 e2 e3=>dz (fun c v e q=>ck x c v e q) (hl j x w e1 e2 e3)⟩
 ·have q:j≠i:=fun q=>n (q ▸ m)
  exact I.en j d n ((Φ (ϳ q)).symm.trans e)
 ·by_cases q:j=i
  ·subst q;exact ⟨d',a,o',ϟ hie,ea,t,r,f⟩
  ·obtain ⟨d,b,o,h1,h2,h3,r,f⟩:=I.eo j mj
   have nb:b≠a:=fun w=>q (I.od j i b mj m h2 (w ▸ ea))
   exact ⟨d,b,o,(Φ (ϳ q)).trans h1,h2,h3,r.mono (μ _) (.refl _) fun c hc o e=>(sb c (by rcases hc with rfl | rfl <;> exact nb)).trans e,f⟩
 ·by_cases q:b=a
  ·subst q;exact ⟨on,hn⟩
  ·exact ⟨o,(sb b q).trans e⟩
theorem Rep.stw {s':ς} {n:Nat} {o':O} {p:φ×φ} {e:φ} (I:Rep X z) (ep:z.ρ[n]? = some p) (he:e=p.1∨e=p.2) (sb:∀ b,b≠e→s'.heap.get? b=z.h b) (r:ObR X.W z.ρ z.G s'.heap.get? p o') (os:s'.os=z.s.os) (gs:s'.gens=z.s.gens) (tk:X.tz≤s'.toks:=by first | assumption | exact HR.tk (by assumption) | exact HR.tk1 (by assumption) | exact (Rep.toHR (by assumption)).tk | exact (Rep.toHR (by assumption)).tk1 | exact HR.tk2 (Rep.toHR (by assumption)) | exact HR.tk3 (Rep.toHR (by assumption))) :
 Rep X { z with t:=⟨z.t.env,z.t.ow,z.t.st.set n o'⟩,s:=s' }∧Go X z { z with t:=⟨z.t.env,z.t.ow,z.t.st.set n o'⟩,s:=s' }:=by
 have mu:Mu z.ρ e:=⟨p,Ρ ep,he⟩
 have nG:∀ {b o},z.G b=some o→b≠e:=fun h q=>by rw [q,I.rg e mu] at h;cases h
 have nL:∀ {b},Lc X b→b≠e:=fun h q=>(I.fl _ h).2 (q ▸ mu)
 have nf:∀ {b},b∈frs X.fr→b≠e:=fun h q=>(I.ff _ h).2 (q ▸ mu)
 have nO:∀ {b},Own z b→b≠e:=fun h q=>(I.oth h).1.2.1 (q ▸ mu)
 have ck:∀ x c v,X.env.cells.lookup x=some c→z.s.heap.IsCell c v→s'.heap.IsCell c v:=fun x c v e ⟨o,q,d⟩=>⟨o,(sb c (nL (.inr ⟨x,e⟩))).trans q,d⟩
 have fu:s'.heap.FunFrames X.base X.fr:=by
  have:∀ {l:List ż},(∀ b∈frs l,b≠e)→z.s.heap.FunFrames X.base l→s'.heap.FunFrames X.base l:=fun {l}=>by
   induction l with
   | nil=>exact fun _ _=>trivial
   | cons v r ih=>
     intro hs ⟨k,⟨L,o,e1,e2,e3,e4⟩,q⟩
     have hm:L∈frs (v :: r):=by unfold frs;rw [Ϧ,e1];exact ι
     exact ⟨k,⟨L,o,e1,e2,(sb L (hs L hm)).trans e3,e4⟩,ih (fun b hb=>hs b (by unfold frs;rw [Ϧ,e1];exact ν _ hb)) q⟩
  exact this (fun b h=>nf h) I.fu
 obtain ⟨⟨o1,h1⟩,⟨o2,h2⟩⟩:=r.th
 have hn:n<z.t.st.length:=by rw [← I.rl];exact (κ.mp ep).1
 refine ⟨⟨⟨I.md,I.fm,I.hd,I.bs,fun b o w=>(sb b (nG w)).trans (I.gh b o w),by show _=(z.t.st.set n o').length;rw [ϸ];exact I.rl,I.rn,I.rg,fun k o q h1 h2=>?_,fu,I.ff,by show œ s'.gens;rw [gs];exact I.br,os.trans I.os,tk⟩,I.ok,?_,fun x c w=>let ⟨v,q⟩:=I.ce x c w;⟨v,ck x c v w q⟩,I.fl,I.el,I.sl,I.en,fun j mj=>?_,I.od⟩,⟨μ _,.refl _,fun _ _ w=>.inl w,fun _ m=>.inl m,fun b o w=>?_,fun b o w q _ _=>(sb b fun z=>q (z ▸ mu)).trans w,fun b o w q _ _=>⟨o.slots,(sb b fun z=>q (z ▸ mu)).trans w⟩⟩,fun b w=>.inl w⟩
 ·by_cases c:k=n
  ·subst c
   have h1:(z.t.st.set k o')[k]? = some o:=h1
   rw [ϟ hn] at h1;cases h1
   rw [show z.ρ[k]? = some q from h2] at ep;cases ep
   exact r
  ·exact (I.ob k o q ((Φ (ϳ c)).symm.trans h1) h2).mono (μ _) (.refl _) fun b hb o w=>(sb b fun w'=>c (I.rn k n q p b h2 ep hb (w' ▸ he))).trans w
 ·obtain ⟨mm,⟨oL,es,ep,q,r⟩,hl⟩:=I.lo
  exact ⟨mm,⟨oL,es,ep,(sb _ (nL (.inl rfl))).trans q,r⟩,fun j x w e1 e2 e3=>dz (fun c v e q=>ck x c v e q) (hl j x w e1 e2 e3)⟩
 ·obtain ⟨d,b,o,h1,h2,h3,r,f⟩:=I.eo j mj
  exact ⟨d,b,o,h1,h2,h3,r.mono (μ _) (.refl _) fun c hc o w=>(sb c (by rcases hc with rfl | rfl <;> exact nO ⟨j,mj,h2⟩)).trans w,f⟩
 ·by_cases q:b=e
  ·rcases he with w | w
   ·exact ⟨o1,by rw [q,w];exact h1⟩
   ·exact ⟨o2,by rw [q,w];exact h2⟩
  ·exact ⟨o,(sb b q).trans w⟩
structure M1 (X:Cx) (o:Ο) (m:θ) (apos:ϥ) (e:Ο) (cpos:ϥ):Prop where
 base:Â o m X.env (eval o X.env)=eval o X.env
 few:((Ö cpos (Ξ [e] X.env)).all (fun x=>!x.1) && (D1 cpos (ģ [] X.env)).all (fun x=>x.1.isSome) && decide (([e]:List Ο).length+([]:List Ew).length+(if ([]:List Ew).isEmpty then 0 else 1)<30))=true
 line:(apos.endLine == cpos.line)=true
 trees:Ö cpos (Ξ [e] X.env) = [(false,eval e X.env)]
theorem oK {i:Nat} (I:Rep X z) (m:i∈z.t.ow) (e:z.t.env[i]? = some (some (.lst l))):∃ a vs n,z.σ[i]? = some (some (.ref a))∧z.h a=some { cls:=.type "list",data:=.seq vs.toArray n }∧RDs X.W z.ρ z.G l vs:=by
 obtain ⟨d,a,o,h1,h2,h3,r,f⟩:=I.eo i m
 rw [e] at h1;cases h1;cases h3
 obtain ⟨o,vs,_,q,⟨⟨n,rfl⟩,_⟩,r⟩:=r
 exact ⟨a,vs,n,h2,q,r⟩
theorem dK {z:Z} {vs ws:List η} {f:Array η→Array η} (e:z.h a=some { cls:=.type "list",data:=.seq vs.toArray n }) (hf:f vs.toArray=ws.toArray) (hz:ws.length≤ϝ):(∃ o,(z.s.heap.update a (Þ f)).get? a=some o∧LsO o ws)∧∀ b,b≠a→(z.s.heap.update a (Þ f)).get? b=z.h b:=
 ⟨⟨_,Æ _ e rfl,⟨_,by simp only [Þ,hf];rfl⟩,hz⟩,fun b n=>ϲ _ _ (ϳ n)⟩
theorem yY {i:Nat} {x:θ} (hN:X.N[i]? = some x) (hv:Vis X.env.scope x) (hd:(x == ("__debug__":θ))=false) (hcd:(x == ("__classdict__":θ))=false) (he:LE X e c) (m:M1 X (.Name x p) "append" apos e cpos):LS X (.Expr (.Call (.Attribute (.Name x p) "append" apos) [e] [] cpos) pos) (.app i c):=fun z I nb=>by
 have e0:X.ex (.app i c) z.t=(if z.t.ow.contains i && isLst z.t.env[i]? then (X.ev false c z.t).go fun d s=>if s.ow.contains i then (match s.env[i]? with
  | some (some (.lst l))=>if l.length<100000 then .nx ⟨s.env.set i (some (.lst (l ++ [d]))),s.ow,s.st⟩ else .bad
  | _=>.bad) else .bad else .bad):=rfl
 by_cases c0:(z.t.ow.contains i && isLst z.t.env[i]?)=true
 ·rw [ZZ c0] at e0
  rw [ω] at c0
  have mi:i∈z.t.ow:=by simpa using c0.1
  obtain ⟨l,el⟩:∃ l,z.t.env[i]? = some (some (.lst l)):=by
   have:=c0.2
   unfold isLst at this
   split at this
   ·rename_i l q;exact ⟨l,q⟩
   ·cases this
  obtain ⟨a,vs,n,es,ha,r⟩:=oK I mi el
  refine ſ (ϩ m.base m.few m.line Ý Ø Er (cR I hN hv es ⟨⟨_,ha,rfl⟩,fun b q=>(by cases q;exact ⟨_,ha,rfl⟩),?_⟩ hd hcd)) I.quiet rfl
  rw [m.trees]
  refine Ϛ rfl (ϣ (Θ ((he false).gos .refl I e0 nb fun z1 d u y x1 I1 r1 e1=>Τ ?_)))
  by_cases c1:z1.t.ow.contains i=true
  ·rw [ZZ c1] at e1
   have m1:i∈z1.t.ow:=by simpa using c1
   have el1:z1.t.env[i]? = some (some (.lst l)):=by rw [y.en];exact el
   rw [el1] at e1
   dsimp only at e1
   obtain ⟨a',vs,n,es',ha,r⟩:=oK I1 m1 el1
   rw [y.sg,es] at es';cases es'
   by_cases c2:l.length<100000
   ·rw [ZZ c2] at e1
    have hz:vs.length<100000:=by rw [← r.len];exact c2
    refine ĝ Ø ⟨_,ha,rfl⟩ Ĥ (Ġ _ _) (D2 a vs.toArray n u (by rw [Ν];exact đ (Ϲ hz (big (Ϗ _))))) ⟨ha,?_⟩
    obtain ⟨⟨o1,u1,u3⟩,u2⟩:=dK (f:=(·.push u)) (ws:=vs ++ [u]) ha (by simp) (by rw [Δ];exact big (by simp;omega))
    obtain ⟨I2,g2⟩:=I1.ownw (s':={ z1.s with heap:=z1.s.heap.update a (Þ (·.push u)) }) (d':=.lst (l ++ [d])) m1 (by rw [y.sg];exact es) rfl u2 ⟨o1,vs ++ [u],rfl,u1,u3,r.app (.cons r1.rd rfl)⟩ rfl rfl
    exact nxt (x1.trans g2) I2 e1
   ·rw [ZY c2] at e1;exact ZX e1 nb
  ·rw [ZY c1] at e1;exact ZX e1 nb
 ·rw [ZY c0] at e0;exact ZX e0 nb
theorem o4:∀ {ks} {ds} {vs} {k} {d} {v},ks.length=ds.length→RDs W ρ G ds vs→RD W ρ G d v→∃ us,RDs W ρ G (kS ks ds k d) us∧(ks.zip vs).map (fun kv=>if kv.1=k then (kv.1,v) else kv)=ks.zip us
 | [],[],vs,k,d,v,_,h,_=>⟨vs,h,rfl⟩
 | [],_ :: _,_,_,_,_,l,_,_=>by cases l
 | _ :: _,[],_,_,_,_,l,_,_=>by cases l
 | q :: ks,e :: ds,vs,k,d,v,l,⟨u,r,ev,h1,h2⟩,rd=>by
   subst ev
   obtain ⟨us,h3,h4⟩:=o4 (k:=k) (ĸ l) h2 rd
   by_cases c:q=k
   ·refine ⟨v :: us,⟨v,us,rfl,by rw [ZZ c];exact rd,h3⟩,?_⟩
    show (if q=k then (q,v) else (q,u)) :: (ks.zip r).map _=(q,v) :: ks.zip us
    rw [ZZ c,h4]
   ·refine ⟨u :: us,⟨u,us,rfl,by rw [ZY c];exact h1,h3⟩,?_⟩
    show (if q=k then (q,v) else (q,u)) :: (ks.zip r).map _=(q,u) :: ks.zip us
    rw [ZY c,h4]
theorem fY:∀ {ks} {ds} {k} {d},(kS ks ds k d).length=ds.length
 | [],_,_,_=>by unfold kS;rfl
 | _ :: _,[],_,_=>by unfold kS;rfl
 | _ :: ks,_ :: ds,k,d=>by show (kS ks ds k d).length+1=ds.length+1;rw [fY]
theorem iF:∀ {ks:List Key} {vs:List η} {k:Key},ks.length=vs.length→((ks.zip vs).any fun kv=>decide (kv.1=k))=ks.any fun q=>decide (q=k)
 | [],_,_,_=>rfl
 | _ :: _,[],_,l=>by cases l
 | q :: ks,v :: vs,k,l=>by
   show (decide (q=k) || (ks.zip vs).any _)=(decide (q=k) || ks.any _)
   rw [iF (ĸ l)]
theorem qI (l:ks.length=ds.length) (r:RDs W ρ G ds vs) (rd:RD W ρ G d v):∃ us,stored (ks.zip vs) k v=(dh ks ds k d).1.zip us∧(dh ks ds k d).1.length=(dh ks ds k d).2.length∧RDs W ρ G (dh ks ds k d).2 us∧(dh ks ds k d).1.length≤ks.length+1:=by
 have lv:ks.length=vs.length:=l.trans r.len
 unfold stored dh
 rw [iF lv]
 split
 ·obtain ⟨us,h1,h2⟩:=o4 (k:=k) l r rd
  exact ⟨us,h2,by show ks.length=(kS ks ds k d).length;rw [fY,l],h1,ö _⟩
 ·exact ⟨vs ++ [v],by rw [List.zip_append lv];rfl,by simp [l],r.app (.cons rd rfl),by simp⟩
theorem zE {A:ϙ} {E:η→ς→Prop} {Q:Unit→ς→Prop} {x y k d:D} {o:O} {kv v:η} (t:toO x=some o) (r:ObR X.W z.ρ z.G z.h (a,b) o) (rk:CR X.W z k kv) (rd:RD X.W z.ρ z.G d v) (e:kM x k d=some y)
 (h:∀ s' o',toO y=some o'→(∀ b,b≠a→s'.heap.get? b=z.h b)→ObR X.W z.ρ z.G s'.heap.get? (a,b) o'→s'.os=z.s.os→s'.gens=z.s.gens→Q () s'):Α X.M A (Fj (.ref a) kv v) Q E z.s:=by
 cases x <;> cases t
 ·rename_i l
  obtain ⟨o,vs,hb,ho,⟨⟨n,rfl⟩,hz⟩,r⟩:=r
  cases k with
  | int i=>
    obtain ⟨tk,rfl⟩:=(rk:RD X.W z.ρ z.G (.int i) kv)
    obtain ⟨l',e1,rfl⟩:=τ.mp (show (tV l i d).map D.lst=some y from e)
    obtain ⟨j,e2,rfl⟩:=τ.mp (show (ixN l.length i).map (fun j=>l.set j d)=some l' from e1)
    obtain ⟨h1,h2,h3,h4⟩:=nU e2
    have hl:=r.len
    have hn:=gO
    obtain ⟨⟨o1,u1,u3⟩,u2⟩:=dK (z:=z) (f:=(·.setIfInBounds j v)) (ws:=vs.set j v) ho (by simp) (by rw [ϸ];exact hz)
    have q:Q () { z.s with heap:=z.s.heap.update a (Þ (·.setIfInBounds j v)) }:=h _ _ rfl u2 ⟨o1,_,hb,u1,u3,r.set j rd⟩ rfl rfl
    by_cases h0:0≤i
    ·have hk:i.toNat=j:=by rw [Hb h0 h4] at h1;exact Ϟ h1
     exact PySem.W.ki_setAt ho h0 (by omega) (by rw [Ν,← hl];exact h4) (by rw [hk];exact q)
    ·have hk:(i+(vs.toArray.size:Int)).toNat=j:=by
      rw [Gz (by omega) h3] at h1
      rw [Ν,← hl]
      exact Ϟ h1
     exact PySem.W.ki_setBack ho (by omega) (by rw [Ν,← hl];exact h3) (by omega) (by rw [hk];exact q)
  | _=>cases e
 ·rename_i ks ds
  obtain ⟨o,vs,hb,hs,ho,dc,hl,r⟩:=r
  obtain ⟨kk,e1,e2⟩:=Χ.mp (show ((bE k).bind fun k=>if ks.length<100000 then some (D.dic (dh ks ds k d).1 (dh ks ds k d).2) else none)=some y from e)
  by_cases c:ks.length<100000
  ·rw [ZZ c] at e2
   cases e2
   obtain ⟨us,h3,h4,h5,h6⟩:=qI (k:=kk) hl r rd
   refine wpAny_setItem_pairs (hsz:=by obtain ⟨_,_,_,_,_,_,_,w⟩:=dc;exact w) (fh e1 rk) (dc.of ho) fun h' dd hs'=>?_
   rw [h3] at dd
   obtain ⟨o1,es,ep,w1,w2,w3,w4,w5,w6⟩:=dd
   exact h _ _ rfl hs'.2 ⟨o1,us,hb,hs,w1,⟨es,ep,w2,w3,w4,w5,w6,by rw [Ϸ];exact big (by omega)⟩,h4,h5⟩ rfl rfl
  ·rw [ZY c] at e2;cases e2
theorem oV {A:ϙ} {E:η→ς→Prop} {Q:Unit→ς→Prop} {x y k d:D} {o:O} {kv v:η} (tk:X.tz≤z.s.toks) (t:toO x=some o) (r:ObR X.W z.ρ z.G z.h (a,b) o) (rk:CR X.W z k kv) (rd:RD X.W z.ρ z.G d v) (e:kM x k d=some y)
 (h:∀ s' o',toO y=some o'→(∀ b,b≠a→s'.heap.get? b=z.h b)→ObR X.W z.ρ z.G s'.heap.get? (a,b) o'→s'.os=z.s.os→s'.gens=z.s.gens→X.tz≤s'.toks→Q () s'):Α X.M A (Fj (.ref a) kv v) Q E z.s:=
 Η (ό tk (zE (E:=E) (Q:=fun _ s'=>∃ o',toO y=some o'∧(∀ b,b≠a→s'.heap.get? b=z.h b)∧ObR X.W z.ρ z.G s'.heap.get? (a,b) o'∧s'.os=z.s.os∧s'.gens=z.s.gens) t r rk rd e fun s' o' a1 a2 a3 a4 a5=>⟨o',a1,a2,a3,a4,a5⟩)) (fun _ s' ⟨tk,o',a1,a2,a3,a4,a5⟩=>h s' o' a1 a2 a3 a4 a5 tk) fun _ _ w=>w.2
theorem zB {o o':O} (e:iB o k d=some o'):∃ x y,toO x=some o∧kM x k d=some y∧toO y=some o':=by
 cases o with
 | lst l=>
   cases k with
   | int i=>obtain ⟨l',e1,rfl⟩:=τ.mp (show (tV l i d).map O.lst=some o' from e);exact ⟨.lst l,.lst l',rfl,by show (tV l i d).map D.lst=_;rw [e1];rfl,rfl⟩
   | _=>cases e
 | dic ks ds=>
   obtain ⟨kk,e1,e2⟩:=Χ.mp (show ((bE k).bind fun k=>if ks.length<100000 then some (O.dic (dh ks ds k d).1 (dh ks ds k d).2) else none)=some o' from e)
   by_cases c:ks.length<100000
   ·rw [ZZ c] at e2;cases e2
    exact ⟨.dic ks ds,.dic (dh ks ds kk d).1 (dh ks ds kk d).2,rfl,by show ((bE k).bind fun k=>if ks.length<100000 then some (D.dic (dh ks ds k d).1 (dh ks ds k d).2) else none)=_;rw [e1];exact ZZ c,rfl⟩
   ·rw [ZY c] at e2;cases e2
 | ins _ _=>cases e
theorem pK (h:aF i=true):∀ v,assign (o.Subscript i pos) env v=(do
 let ov ← holding [v] (eval o env)
 let iv ← holding [v,ov] (eval i env)
 Ei pos
 holding [v,ov,iv] (Fj ov iv v)
 release [v,ov,iv] []):=by
 cases i <;> first | (intro v;rfl) | cases h
theorem tu :FY [.Subscript o i p] e l env=pure false:=by
 cases e <;> rfl
theorem mC :FZ [.Subscript o i p] e env=pure none:=by
 cases e <;> rfl
theorem mW {K:η→ς→Prop} {E:η→ς→Prop} {Q:Flow→ς→Prop} {s:ς} (hn:aF eb=true) (h:Α X.M X.A (eval ee X.env) K E s) (k:∀ v s',K v s'→Α X.M X.A (eval eo X.env) (fun ov s2=>Α X.M X.A (eval eb X.env) (fun iv s3=>Α X.M X.A (Fj ov iv v) (fun _ s4=>Q .next s4) E s3) E s2) E s'):Α X.M X.A (exec (.Assign [.Subscript eo eb p2] ee pos) X.env) Q E s:=by
 refine Hm (thn h fun v s1 q=>?_) tu mC
 show Α _ _ (assign (eo.Subscript eb p2) X.env v) _ _ _
 rw [pK hn]
 exact ζ (ύ (thn (k v s1 q) fun ov s2 q=>ζ (ύ (thn q fun iv s3 q=>ζ (ó (ζ (ύ (thn q fun _ s4 q=>wpAny_release q))))))))
theorem tP {n:Nat} {kv v:η} {p:φ×φ} {E:η→ς→Prop} {o:am} (x:Go X z0 z) (I:Rep X z) (ep:z.ρ[n]? = some p) (rk:CR X.W z k kv) (rd:RD X.W z.ρ z.G d v) (e:o=(match (z.t.st[n]?).bind fun o=>iB o k d with | some o=>.nx ⟨z.t.env,z.t.ow,z.t.st.set n o⟩ | none=>.bad)) (nb:o≠.bad):Α X.M X.A (Fj (.ref p.1) kv v) (fun _ s4=>Ps X z0 o .next s4) E z.s:=by
 cases q:(z.t.st[n]?).bind fun o=>iB o k d with
 | none=>rw [q] at e;exact ZX e nb
 | some o'=>
   rw [q] at e
   obtain ⟨ob,q1,q2⟩:=Χ.mp q
   obtain ⟨x1,y1,t1,t2,t3⟩:=zB q2
   have r:=I.ob n ob p q1 ep
   have hp:p=(p.1,p.2):=rfl
   refine oV I.tk t1 (hp ▸ r) rk rd t2 fun s' o1 t4 sb r' os gs tk=>?_
   rw [t3] at t4;cases t4
   obtain ⟨I2,g2⟩:=I.stw ep (.inl rfl) sb r' os gs tk
   exact nxt (z1:={ z with t:=⟨z.t.env,z.t.ow,z.t.st.set n o'⟩,s:=s' }) (x.trans g2) I2 e
theorem vV {i:Nat} {x:θ} (hN:X.N[i]? = some x) (hv:Vis X.env.scope x) (hd:(x == ("__debug__":θ))=false) (hcd:(x == ("__classdict__":θ))=false) (hn:aF eb=true) (hb:LE X eb b) (he:LE X ee e):LS X (.Assign [.Subscript (.Name x p) eb p2] ee pos) (.put (.v i) b e):=fun z I nb=>by
 refine mW hn ((he false).gos (K:=fun v s'=>∃ z1 d,z1.s=s'∧Go X z z1∧Rep X z1∧RD X.W z1.ρ z1.G d v∧X.ex (.put (.v i) b e) z.t=(match z1.t.env[i]? with
  | some (some x)=>(X.ev true b z1.t).go fun k s=>(match x with
    | .ref n=>(match (s.st[n]?).bind fun o=>iB o k d with | some o=>.nx ⟨s.env,s.ow,s.st.set n o⟩ | none=>.bad)
    | x=>if s.ow.contains i then (match kM x k d with | some y=>.nx ⟨s.env.set i (some y),s.ow,s.st⟩ | none=>.bad) else .bad)
  | _=>.bad)) .refl I rfl nb fun z1 d u y x1 I1 r1 e1=>⟨z1,d,rfl,x1,I1,r1.rd,e1⟩) fun v s' ⟨z1,d,q,x1,I1,r1,e1⟩=>?_
 subst q
 cases q:z1.t.env[i]? with
 | none=>rw [q] at e1;exact ZX e1 nb
 | some o0=>
   cases o0 with
   | none=>rw [q] at e1;exact ZX e1 nb
   | some x0=>
     rw [q] at e1
     obtain ⟨u,hu,_⟩:=I1.slot q
     refine cR I1 hN hv hu ((hb true).gos x1 I1 e1 nb fun z2 kd kv y2 x2 I2 r2 e2=>?_) hd hcd
     have q2:z2.t.env[i]? = some (some x0):=by rw [y2.en];exact q
     have hu2:z2.σ[i]? = some (some u):=by rw [y2.sg];exact hu
     have own:∀ x1:D,x0=x1→X.ex (.put (.v i) b e) z.t=(if z2.t.ow.contains i then (match kM x1 kd d with | some y=>.nx ⟨z2.t.env.set i (some y),z2.t.ow,z2.t.st⟩ | none=>.bad) else .bad)→Α X.M X.A (Fj u kv v) (fun _ s4=>Ps X z (X.ex (.put (.v i) b e) z.t) .next s4) (PxS X z (X.ex (.put (.v i) b e) z.t)) z2.s:=fun x1 ex e3=>by
      subst ex
      by_cases c:z2.t.ow.contains i=true
      ·rw [ZZ c] at e3
       have m2:i∈z2.t.ow:=by simpa using c
       obtain ⟨d0,a,o,h1,h2,h3,r,f⟩:=I2.eo i m2
       rw [q2] at h1;cases h1
       rw [hu2] at h2;cases h2
       cases q3:kM x0 kd d with
       | none=>rw [q3] at e3;exact ZX e3 nb
       | some y=>
         rw [q3] at e3
         refine oV I2.tk h3 r (r2.rb.cr0 I2) (r1.st y2.st) q3 fun s' o' t sb r' os gs tk=>?_
         obtain ⟨I3,g3⟩:=I2.ownw (s':=s') m2 hu2 t sb r' os gs tk
         exact nxt (z1:={ z2 with t:=⟨z2.t.env.set i (some y),z2.t.ow,z2.t.st⟩,s:=s' }) (x2.trans g3) I3 e3
      ·rw [ZY c] at e3;exact ZX e3 nb
     cases x0 with
     | ref n=>
       have nm:i ∉ z2.t.ow:=fun m=>by
        obtain ⟨d0,a,o,h1,h2,h3,_⟩:=I2.eo i m
        rw [q2] at h1;cases h1;cases h3
       obtain ⟨u',hu',p,ep,rfl⟩:=I2.en i _ nm q2
       rw [hu2] at hu';cases hu'
       exact tP x2 I2 ep (r2.rb.cr0 I2) (r1.st y2.st) e2 nb
     | _=>exact own _ rfl e2
end
section
variable {X:Cx} {z z' z0 z1:Z} {an:Nat→θ}
theorem Rep.snoc {s':ς} {p:φ×φ} {o:O} (I:Rep X z) (g:Gr z.s s') (hp:z.h p.1=none∧z.h p.2=none) (r:ObR X.W (z.ρ ++ [p]) z.G s'.heap.get? p o) (tk:X.tz≤s'.toks:=by first | assumption | exact HR.tk (by assumption) | exact HR.tk1 (by assumption) | exact (Rep.toHR (by assumption)).tk | exact (Rep.toHR (by assumption)).tk1 | exact HR.tk2 (Rep.toHR (by assumption)) | exact HR.tk3 (Rep.toHR (by assumption))):Rep X { z with ρ:=z.ρ ++ [p],t:=⟨z.t.env,z.t.ow,z.t.st ++ [o]⟩,s:=s' }∧Ee X z { z with ρ:=z.ρ ++ [p],t:=⟨z.t.env,z.t.ow,z.t.st ++ [o]⟩,s:=s' }:=by
 obtain ⟨H,S⟩:=HR.snoc (w:=Own z) I.toHR g hp r tk
 have pre:z.ρ <+: z.ρ ++ [p]:=É _ _
 have nm:∀ {a},(∃ o,z.h a=some o)→¬ Mu z.ρ a→¬ Mu (z.ρ ++ [p]) a:=fun ⟨o,e⟩ n w=>(dZ.mp w).elim n fun w=>by
  rcases w with w | w
  ·rw [w,hp.1] at e;cases e
  ·rw [w,hp.2] at e;cases e
 have sl:∀ b o,z.s.heap.get? b=some o→∃ sl,s'.heap.get? b=some { o with slots:=sl }:=fun b o e=>⟨o.slots,g.k b o e⟩
 refine ⟨⟨H,I.ok,?_,fun x c e=>let ⟨v,q⟩:=I.ce x c e;⟨v,fT sl q⟩,fun a l=>⟨(I.fl a l).1,nm (I.lth l) (I.fl a l).2⟩,I.el,I.sl,fun i d n e=>let ⟨u,q,r⟩:=I.en i d n e;⟨u,q,r.mono pre (.refl _)⟩,fun i m=>?_,I.od⟩,S,rfl,rfl,fun _ h=>h⟩
 ·obtain ⟨m,hn,hl⟩:=I.lo
  exact ⟨m,xp sl hn,fun i x u h1 h2 h3=>dz (fun c v _ q=>fT sl q) (hl i x u h1 h2 h3)⟩
 ·obtain ⟨d,a,o,h1,h2,h3,r,f⟩:=I.eo i m
  exact ⟨d,a,o,h1,h2,h3,r.mono pre (.refl _) fun b _ o e=>g.k b o e,f.1,nm r.th.1 f.2.1,f.2.2⟩
theorem mv (I:HR X z):(z.ρ ++ [p])[z.t.st.length]? = some p:=by rw [ϋ (by rw [I.rl];exact Ϗ _),I.rl,Ŗ];rfl
theorem pA {y:η}:∀ {nm:List θ} {vs:List η} {j:Nat},nm.Nodup→nm[j]? = some f→j<vs.length→∀ g,(nm.zip (vs.set j y)).lookup g=if g=f then some y else (nm.zip vs).lookup g
 | [],_,_,_,h,_,_=>by simp at h
 | _ :: _,[],_,_,_,h,_=>by simp at h
 | n :: nm,v :: vs,0,nd,h,_,g=>by
   have e:n=f:=by simpa using h
   subst e
   show (match g == n with | true=>some y | false=>(nm.zip vs).lookup g)=if g=n then some y else (match g == n with | true=>some v | false=>(nm.zip vs).lookup g)
   by_cases c:g=n
   ·rw [ZZ c,beq_iff_eq.mpr c]
   ·rw [ZY c,ZU.mpr c]
 | n :: nm,v :: vs,j+1,nd,h,hl,g=>by
   have h':nm[j]? = some f:=by simpa using h
   have ne:n≠f:=fun z=>by subst z;exact (Ϭ.mp nd).1 (Ρ h')
   have ih:=pA (y:=y) (Ϭ.mp nd).2 h' (by simpa using hl) g
   show (match g == n with | true=>some v | false=>(nm.zip (vs.set j y)).lookup g)=if g=f then some y else (match g == n with | true=>some v | false=>(nm.zip vs).lookup g)
   by_cases c:g=n
   ·rw [ZY fun w=>ne (c ▸ w),beq_iff_eq.mpr c]
   ·rw [ZU.mpr c];exact ih
theorem lB {y:η}:∀ {nm:List θ} {vs:List η},nm.Nodup→nm[vs.length]? = some f→∀ g,(nm.zip (vs ++ [y])).lookup g=if g=f then some y else (nm.zip vs).lookup g
 | [],_,_,h,_=>by simp at h
 | n :: nm,[],nd,h,g=>by
   have e:n=f:=by simpa using h
   subst e
   rw [é,Ó,Ĩ,Ĩ]
   show (match g == n with | true=>some y | false=>none)=if g=n then some y else none
   by_cases c:g=n
   ·rw [ZZ c,beq_iff_eq.mpr c]
   ·rw [ZY c,ZU.mpr c]
 | n :: nm,v :: vs,nd,h,g=>by
   have h':nm[vs.length]? = some f:=by simpa using h
   have ne:n≠f:=fun z=>by subst z;exact (Ϭ.mp nd).1 (Ρ h')
   have ih:=lB (y:=y) (Ϭ.mp nd).2 h' g
   show (match g == n with | true=>some v | false=>(nm.zip (vs ++ [y])).lookup g)=if g=f then some y else (match g == n with | true=>some v | false=>(nm.zip vs).lookup g)
   by_cases c:g=n
   ·rw [ZY fun w=>ne (c ▸ w),beq_iff_eq.mpr c]
   ·rw [ZU.mpr c];exact ih
theorem wx (h:eI Γ (.ins c l) f d=some o):∃ k,Γ.cl[c]? = some k∧k.at_.length<1000∧((k.at_.idxOf f<l.length∧o = .ins c (l.set (k.at_.idxOf f) d))∨(k.at_.idxOf f=l.length∧k.at_.idxOf f<k.at_.length∧o = .ins c (l ++ [d]))):=by
 have h:((Γ.cl[c]?).bind fun k=>if k.at_.length<1000 then (if k.at_.idxOf f<l.length then some (O.ins c (l.set (k.at_.idxOf f) d)) else if k.at_.idxOf f=l.length∧k.at_.idxOf f<k.at_.length then some (.ins c (l ++ [d])) else none) else none)=some o:=h
 obtain ⟨k,hk,h⟩:=Χ.mp h
 refine ⟨k,hk,?_⟩
 by_cases z0:k.at_.length<1000
 ·rw [ZZ z0] at h
  refine ⟨z0,?_⟩
  by_cases z:k.at_.idxOf f<l.length
  ·rw [ZZ z] at h;cases h;exact .inl ⟨z,rfl⟩
  ·rw [ZY z] at h
   by_cases z2:k.at_.idxOf f=l.length∧k.at_.idxOf f<k.at_.length
   ·rw [ZZ z2] at h;cases h;exact .inr ⟨z2.1,z2.2,rfl⟩
   ·rw [ZY z2] at h;cases h
 ·rw [ZY z0] at h;cases h
theorem zN (T:bO X an) (I:Rep X z) {n f:Nat} {p:φ×φ} {d:D} {v:η} {o o':O} {A:ϙ} {Q:Unit→ς→Prop} {E:η→ς→Prop} (ep:z.ρ[n]? = some p) (rd:RD X.W z.ρ z.G d v) (q:z.t.st[n]? = some o) (e:eI X.Γ o f d=some o')
 (h:∀ s',Rep X { z with t:=⟨z.t.env,z.t.ow,z.t.st.set n o'⟩,s:=s' }→Go X z { z with t:=⟨z.t.env,z.t.ow,z.t.st.set n o'⟩,s:=s' }→Q () s'):Α X.M A (Fk (.ref p.1) (an f) v) Q E z.s:=by
 have ob:=I.ob n o p q ep
 cases o with
 | ins c l=>
   obtain ⟨k,hk,h1000,alt⟩:=wx e
   obtain ⟨i',vs,w1,w2,w3,w4,w5⟩:=ob
   obtain ⟨i,C⟩:=T c k hk
   rw [C.ci] at w1
   have ii:i=i':=Ϟ w1
   subst ii
   have lnm:i.nm.length=k.at_.length:=by rw [C.nm,Β]
   have wz:k.what≠2:=by have:=C.wh;rw [w2] at this;have e:=Ϟ this;omega
   have lv:=w5.len
   have hj:k.at_.idxOf f<k.at_.length:=by
    rcases alt with ⟨z,_⟩ | ⟨_,z,_⟩
    ·omega
    ·exact z
   have hn:i.nm[k.at_.idxOf f]? = some (an f):=by rw [C.nm,ϒ,Μ hj];simp
   have cl:=C.cls wz
   have na:=C.na _ (Ρ hn)
   refine wA (ns:=i.nm) I.toHR.kin (InO.objm w4) cl.sa cl.po na.taker cl.hd (fun y hy=>?_) (by rw [lnm];exact ϧ (đ h1000) (big (by omega))) fun h' om sb=>?_
   ·cases qq:(i.nm.zip vs).lookup y with
    | none=>exact ZX qq hy
    | some u=>
      obtain ⟨l1,l2,e1,_⟩:=Fh.mp qq
      exact (ř (show (y,u)∈i.nm.zip vs by rw [e1];simp)).1
   ·have done:∀ vs' l',o' = .ins c l'→RDs X.W z.ρ z.G l' vs'→l'.length≤i.nm.length→(∀ g,(i.nm.zip vs').lookup g=if g=an f then some v else (i.nm.zip vs).lookup g)→Q () { z.s with heap:=h',toks:=z.s.toks+2 }:=fun vs' l' eo r hl lk=>by
     subst eo
     obtain ⟨od,es,ep',e1,e2,e3,e4,e5⟩:=om.ns
     obtain ⟨I2,g2⟩:=I.stw (s':={ z.s with heap:=h',toks:=z.s.toks+2 }) (o':=.ins c l') ep (.inr rfl) (fun b hb=>sb.2 b hb) ⟨i,vs',C.ci,w2,hl,⟨om.obj,om.ne,by rw [Ϸ];omega,od,e1,es,ep',e2,e3,e4,fun nn=>(e5 nn).trans (lk nn).symm⟩,r⟩ rfl rfl
     exact h _ I2 g2
    rcases alt with ⟨z,eo⟩ | ⟨z,_,eo⟩
    ·exact done _ _ eo (w5.set _ rd) (by rw [ϸ];exact w3) (pA C.nd hn (by omega))
    ·exact done _ _ eo (w5.app (.cons rd rfl)) (by rw [Δ];simp;omega) (lB C.nd (by rw [← lv,← z];exact hn))
 | _=>cases e
theorem jO (T:bO X an) (x:Go X z0 z) (I:Rep X z) {n f:Nat} {p:φ×φ} {d:D} {v:η} {A:ϙ} {E:η→ς→Prop} {o:am} (ep:z.ρ[n]? = some p) (rd:RD X.W z.ρ z.G d v) (e:o=(match (z.t.st[n]?).bind fun o=>eI X.Γ o f d with | some o=>.nx ⟨z.t.env,z.t.ow,z.t.st.set n o⟩ | none=>.bad)) (nb:o≠.bad):Α X.M A (Fk (.ref p.1) (an f) v) (fun _ s'=>Ps X z0 o .next s') E z.s:=by
 cases q:(z.t.st[n]?).bind fun o=>eI X.Γ o f d with
 | none=>rw [q] at e;exact ZX e nb
 | some o'=>
   rw [q] at e
   obtain ⟨ob,q1,q2⟩:=Χ.mp q
   exact zN T I ep rd q1 q2 fun s' I2 g2=>nxt (z1:={ z with t:=⟨z.t.env,z.t.ow,z.t.st.set n o'⟩,s:=s' }) (x.trans g2) I2 e
def mE:E→Bool
 | .lst .nil=>false
 | .dic .nil=>false
 | _=>true
theorem iO (h:mE e=true):X.ex (.fld a f e) s=(X.ev false e s).go fun d s=>(X.ev true a s).go fun x s=>(match x with
        | .ref n=>(match (s.st[n]?).bind fun o=>eI X.Γ o f d with | some o=>.nx ⟨s.env,s.ow,s.st.set n o⟩ | none=>.bad)
        | _=>.bad):=by
 cases e with
 | lst es=>cases es <;> first | rfl | cases h
 | dic es=>cases es <;> first | rfl | cases h
 | _=>rfl
theorem gX :ķ e (some (.Attribute o x p)) l env=pure false:=by
 cases e <;> rfl
theorem fA (I:Rep X z) (h:RB X.W z (.ref n) u):∃ p,z.ρ[n]? = some p∧u = .ref p.1:=h.cr0 I
theorem y5 (T:bO X an) (hp:mE e=true) (ho:LE X eo a) (he:LE X ee e):LS X (.Assign [.Attribute eo (an f) p] ee pos) (.fld a f e):=fun z I nb=>ě ((he false).gos .refl I (iO hp) nb fun z1 d v y1 x1 I1 r1 e1=>(ho true).gos x1 I1 e1 nb fun z2 x u y2 x2 I2 r2 e2=>by
 cases x with
 | ref n=>
   obtain ⟨p,ep,rfl⟩:=fA I2 r2.rb
   exact jO T x2 I2 ep (r1.rd.st y2.st) e2 nb
 | _=>exact ZX e2 nb) gX
theorem oz (T:bO X an) {o:am} {o0:O} {s':ς} {a:φ} {i:Nat} {x:θ} (I:Rep X z) (g:Gr z.s s') (ha:z.h a=none) (r:∀ ρ,ObR X.W ρ z.G s'.heap.get? (a,a) o0) (hN:X.N[i]? = some x) (hv:Vis X.env.scope x) (hd:(x == ("__debug__":θ))=false) (hcd:(x == ("__classdict__":θ))=false)
 (e:o=((X.ev true (.v i) z.t).go fun x s=>(match x with
  | .ref n=>(match (s.st[n]?).bind fun o=>eI X.Γ o f (.ref s.st.length) with | some o=>.nx ⟨s.env,s.ow,(s.st ++ [o0]).set n o⟩ | none=>.bad)
  | _=>.bad))) (nb:o≠.bad) (tk:X.tz≤s'.toks:=by first | assumption | exact HR.tk (by assumption) | exact HR.tk1 (by assumption) | exact (Rep.toHR (by assumption)).tk | exact (Rep.toHR (by assumption)).tk1 | exact HR.tk2 (Rep.toHR (by assumption)) | exact HR.tk3 (Rep.toHR (by assumption))):Α X.M X.A (eval (.Name x p1) X.env) (fun ov s2=>Α X.M X.A (Fk ov (an f) (.ref a)) (fun _ s3=>Ps X z o .next s3) (PxS X z o) s2) (PxS X z o) s':=by
 obtain ⟨I1,x1⟩:=I.snoc (p:=(a,a)) g ⟨ha,ha⟩ (r _)
 have ev:X.ev true (.v i) z.t=(match z.t.env[i]? with | some (some d)=>.ok d z.t | _=>.bad):=rfl
 rw [ev] at e
 cases q:z.t.env[i]? with
 | none=>rw [q] at e;exact ZX e nb
 | some oo=>cases oo with
   | none=>rw [q] at e;exact ZX e nb
   | some d=>
     rw [q] at e
     obtain ⟨u,hu,ru⟩:=I1.slot (i:=i) (d:=d) q
     refine cR I1 hN hv hu ?_ hd hcd
     cases d with
     | ref n=>
       obtain ⟨p,ep,rfl⟩:=fA I1 ru
       have e:o=(match (z.t.st[n]?).bind fun o=>eI X.Γ o f (.ref z.t.st.length) with | some o=>.nx ⟨z.t.env,z.t.ow,(z.t.st ++ [o0]).set n o⟩ | none=>.bad):=e
       refine jO T x1.go I1 ep (show RD X.W (z.ρ ++ [(a,a)]) z.G (.ref z.t.st.length) (.ref a) from ⟨_,mv I.toHR,rfl⟩) (e.trans ?_) nb
       show _=(match ((z.t.st ++ [o0])[n]?).bind fun o=>eI X.Γ o f (.ref z.t.st.length) with | some o=>am.nx ⟨z.t.env,z.t.ow,(z.t.st ++ [o0]).set n o⟩ | none=>am.bad)
       cases q1:z.t.st[n]? with
       | none=>rw [q1] at e;exact ZX e nb
       | some w=>rw [ϓ (κ.mp q1).1,q1]
     | _=>exact ZX e nb
theorem vR (T:bO X an) (hN:X.N[i]? = some x) (hv:Vis X.env.scope x) (hd:(x == ("__debug__":θ))=false) (hcd:(x == ("__classdict__":θ))=false):LS X (.Assign [.Attribute (.Name x p1) (an f) p] (.Dict [] [] p2) pos) (.fld (.v i) f (.dic .nil)):=fun z I nb=>ě (Ie (oz (o0:=.dic [] []) T I (.push (t:=z.s.toks)) (aG z) (fun ρ=>⟨_,[],rfl,ZU.mpr (Û I.sysm),ψ _ rfl,by
 obtain ⟨o,es,ep,h1,h2,h3,h4,h5,h6⟩:=Ų (knd:=aS X.W.P X.W.w) z.s.heap
 rw [ψ _ rfl] at h1
 cases h1
 exact ⟨es,ep,h2,h3,h4,h5,h6,ϰ _⟩,rfl,rfl⟩) hN hv hd hcd rfl nb)) gX
theorem vS (T:bO X an) (hN:X.N[i]? = some x) (hv:Vis X.env.scope x) (hd:(x == ("__debug__":θ))=false) (hcd:(x == ("__classdict__":θ))=false):LS X (.Assign [.Attribute (.Name x p1) (an f) p] (.List [] p2) pos) (.fld (.v i) f (.lst .nil)):=fun z I nb=>ě (DW (Τ ⟨ϰ _,oz (o0:=.lst []) T I (.push (t:=z.s.toks)) (aG z) (fun ρ=>⟨_,[],rfl,ψ _ rfl,⟨⟨_,rfl⟩,ϰ _⟩,rfl⟩) hN hv hd hcd rfl nb⟩)) gX
theorem wb {es:List D} {us:List η} {o:Out D} (x:Ee X z0 z) (I:Rep X z) (r:RDs X.W z.ρ z.G es us) (hz:es.length≤100000) (e:o = .ok (.ref z.t.st.length) ⟨z.t.env,z.t.ow,z.t.st ++ [.lst es]⟩):Pe X z0 o (RV X.W br c) (.ref z.s.heap.objs.size) { z.s with heap:=z.s.heap.push { cls:=.type "list",data:=.seq us.toArray } }:=by
 obtain ⟨I1,x1⟩:=I.snoc (p:=(z.s.heap.objs.size,z.s.heap.objs.size)) (o:=.lst es) (.push (t:=z.s.toks)) ⟨aG z,aG z⟩ ⟨_,us,rfl,ψ _ rfl,⟨⟨_,rfl⟩,by rw [← r.len];exact big hz⟩,r.mono (É _ _) (.refl _)⟩
 exact ⟨_,.ref z.t.st.length,rfl,e,x.trans x1,I1,.of (show RD X.W (z.ρ ++ [_]) z.G (.ref z.t.st.length) _ from ⟨_,mv I.toHR,rfl⟩)⟩
theorem n9 (h:LA X er es):LE X (.List er pos) (.newl es):=fun br z I nb=>DW ((h false pos).go (f:=fun l s=>if l.length≤100000 then Out.ok (D.ref s.st.length) ⟨s.env,s.ow,s.st ++ [.lst l]⟩ else .bad) .refl I rfl nb fun z1 l us y1 x1 I1 r1 e1=>by
 by_cases c:l.length≤100000
 ·rw [ZZ c] at e1
  exact ⟨by rw [← r1.rds.len];exact big c,wb x1 I1 r1.rds c e1⟩
 ·rw [ZY c] at e1;exact ZX e1 nb)
theorem vX (hN:X.N.Nodup) (hi:X.N[i]? = some x) (hx:Loc X.env.scope x) (h:LA X er es) (hs:ķ (.List er lp) (some (.Name x pos')) pos.line X.env=pure false):LS X (.Assign [.Name x pos'] (.List er lp) pos) (.setR i es):=fun z I nb=>Eh (by
 have e:X.ex (.setR i es) z.t=(X.ev false (.newl es) z.t).go fun d s=>.nx (stV s i d false):=by
  show Out.go (X.evs false es z.t) _=Out.go (Out.bind (X.evs false es z.t) _) _
  cases X.evs false es z.t with
  | ok l s=>show (if l.length≤100000 then _ else _)=Out.go (if l.length≤100000 then _ else _) _;by_cases c:l.length≤100000 <;> simp only [c,if_true,if_false] <;> rfl
  | _=>rfl
 exact (n9 h false).gos .refl I e nb fun z1 d u y x0 I1 r e1=>bF (own:=false) x0 I1 hN hi hx r.rd fun s' a _ _ I' g'=>nxt (z1:={ z1 with t:=stV z1.t i d false,σ:=z1.σ.set i (some u),s:=s' }) g' I' e1) hs
theorem sK {st:List O} {x:D} {w:Int} (h:look st x = .int w):x = .int w:=by
 cases x with
 | ref n=>unfold look at h;dsimp only at h;split at h <;> cases h
 | _=>exact h
structure uA (X:Cx) (op:FC) (o:Op) (g:Int→Int→Int):Prop where
 op:∀ {A:ϙ} {s:ς} {i j:Int} {t u:Tok} {Q:η→ς→Prop} {E:η→ς→Prop},Q (.int (g i j) s.toks) { s with toks:=s.toks+1 }→Α X.M A (inplaceOp op (.int i t) (.int j u)) Q E s
 od:∀ i j,opD o (.int i) (.int j)=some (.int (g i j))
 oi:∀ x c d,opD o x (.int c)=some d→∃ w,x = .int w
theorem uH:uA X .Sub .sub (· - ·):=⟨isub_int,fun _ _=>rfl,fun x c d h=>by cases x <;> first | exact ⟨_,rfl⟩ | cases h⟩
theorem uG:uA X .Add .add (· + ·):=⟨iadd_int,fun _ _=>rfl,fun x c d h=>by cases x <;> first | exact ⟨_,rfl⟩ | cases h⟩
theorem yZ (T:bO X an) {o:Op} (ar:uA X op o g) (hN:X.N[i]? = some x) (hv:Vis X.env.scope x) (hd:(x == ("__debug__":θ))=false) (hcd:(x == ("__classdict__":θ))=false):LS X (.AugAssign (.Attribute (.Name x p1) (an f) p) op (.Constant (.int c) j p2) pos) (.fld (.v i) f (.op o (.fld (.v i) f) (.c (.int c)))):=fun z I nb=>by
 have e:=iO (X:=X) (a:=.v i) (f:=f) (s:=z.t) (e:=.op o (.fld (.v i) f) (.c (.int c))) rfl
 have e:X.ex (.fld (.v i) f (.op o (.fld (.v i) f) (.c (.int c)))) z.t=((((X.ev true (.v i) z.t).bind fun x s=>Out.of s (lR X.Γ s.st x f)).bind fun x s=>Out.of s (opD o (look s.st x) (.int c))).go fun d s=>(X.ev true (.v i) s).go fun x s=>(match x with
  | .ref n=>(match (s.st[n]?).bind fun o=>eI X.Γ o f d with | some o=>.nx ⟨s.env,s.ow,s.st.set n o⟩ | none=>.bad)
  | _=>.bad)):=e
 have ev:X.ev true (.v i) z.t=(match z.t.env[i]? with | some (some d)=>.ok d z.t | _=>.bad):=rfl
 revert nb
 generalize X.ex (.fld (.v i) f (.op o (.fld (.v i) f) (.c (.int c)))) z.t=oo at e
 intro nb
 refine wpAny_AugAssign_AttributeAny ?_
 cases q:z.t.env[i]? with
 | none=>rw [ev,q] at e;exact ZX e nb
 | some ow=>cases ow with
   | none=>rw [ev,q] at e;exact ZX e nb
   | some d=>
     rw [q] at ev
     rw [ev] at e
     obtain ⟨u,hu,ru⟩:=I.slot q
     refine cR I hN hv hu ?_ hd hcd
     cases q1:lR X.Γ z.t.st d f with
     | none=>simp only [Out.bind,q1,Out.of] at e;exact ZX e nb
     | some x=>
       simp only [Out.bind,q1,Out.of] at e
       cases q2:opD o (look z.t.st x) (.int c) with
       | none=>simp only [q2] at e;exact ZX e nb
       | some d2=>
         simp only [q2] at e
         obtain ⟨w,hw⟩:=ar.oi _ _ _ q2
         rw [hw] at q2
         obtain rfl:=sK hw
         obtain rfl:=Ϟ ((ar.od w c).symm.trans q2)
         have e:oo=((X.ev true (.v i) z.t).go fun x s=>(match x with
          | .ref n=>(match (s.st[n]?).bind fun o=>eI X.Γ o f (.int (g w c)) with | some o=>.nx ⟨s.env,s.ow,s.st.set n o⟩ | none=>.bad)
          | _=>.bad)):=e
         rw [ev] at e
         cases d with
         | ref n=>
           obtain ⟨p,ep,rfl⟩:=fA I ru
           obtain ⟨C,fs,v,h1,h2,h3,h4,h5⟩:=rJ T I ep q1
           have h6:=h5
           obtain ⟨t,ht⟩:∃ t,v = .int w t:=h6
           subst ht
           refine lU I h1 h2 h3 h4 h5 (Hw (ar.op ?_))
           have gr:Gr z.s { z.s with toks:=z.s.toks+1+1+1 }:=.tok
           exact jO (z:={ z with s:={ z.s with toks:=z.s.toks+1+1+1 } }) T (ao I.gh gr).ee.go (I.grow (ao I.gh gr)) ep (show RD X.W z.ρ z.G (.int (g w c)) _ from ⟨_,rfl⟩) e nb
         | _=>exact ZX e nb
end
section
variable {prog:Ä} {w:à} {A:ϙ} {E:η→ς→Prop} {s:ς}
theorem iM {it l:φ} {items:Array η} (hne:l≠it):∀ (n i:Nat) (s:ς) (Q:List η→ς→Prop),s.heap.IsListIter it l i→s.heap.IsList l items→i+n≤items.size →
 (∀ h',h'.IsListIter it l (i+n)→æ it s.heap h'→Q ((items.toList.drop i).take n) { s with heap:=h' })→Α (model prog w) A (draw (.ref it) n) Q E s
 | 0,i,s,Q,hit,_,_,hQ=>by
   show Α _ _ (pure []) Q E s
   exact π (by simpa using hQ s.heap hit (Heap.SameBut.refl ..))
 | n+1,i,s,Q,hit,ht,hle,hQ=>by
   have hlt:i<items.size:=by omega
   show Α _ _ (pyNext (.ref it) >>= _) Q E s
   refine ζ (wpAny_pyNext_list_item hit ht (x:=items[i]) (by simp [hlt]) fun h₁ hit₁ hs₁=>?_)
   refine ζ (ύ (iM hne n (i+1) _ _ hit₁ (ht.extBut hs₁.extBut hne) (by omega) fun h₂ hit₂ hs₂=>π ?_))
   have hd:items.toList.drop i=items[i] :: items.toList.drop (i+1):=by simp [Ĳ,hlt]
   have:=hQ h₂ (by rw [show i+(n+1)=i+1+n by omega];exact hit₂) (hs₁.trans hs₂)
   rw [hd,List.take_succ_cons] at this
   exact this
theorem fB {l:φ} {items:Array η} {Q:List η→ς→Prop} (hh:A.handled=none) (ht:s.heap.IsList l items)
 (hQ:∀ h',Heap.ExtBut s.heap.objs.size s.heap h'→Q items.toList { s with heap:=h' }):Α (model prog w) A (EV (.ref l) items.size none) Q E s:=by
 have hlt:l≠s.heap.objs.size:=by obtain ⟨o,ho,_⟩:=ht;exact ϯ (ϛ ho)
 unfold EV
 refine ζ ?_
 unfold notIterableAtAll
 refine ζ (Ū ht.typeIs slot_list_iter.lookup ?_)
 refine π ?_
 simp only [ç,if_false]
 refine ζ (ύ (ŋ ht ?_))
 refine ζ (ύ (iM hlt items.size 0 _ _ ⟨_,ψ _ rfl,rfl,rfl⟩ (ht.push _) (by omega) fun h₁ hit₁ hs₁=>?_))
 have hall:List.take items.size (List.drop 0 items.toList)=items.toList:=by
  rw [Ī];exact ő (by simp)
 rw [hall]
 rw [ZY (by simp)]
 have ht₁:h₁.IsList l items:=(ht.push _).extBut hs₁.extBut hlt
 refine ζ (ύ (wpAny_pyNext_list_end hh hit₁ ht₁ (by simp) fun h₂ he₂=>?_))
 simp only [Option.isSome_none,ç,if_false]
 exact π (hQ h₂ fun b o hb e=>he₂ b o hb (hs₁.extBut b o hb (Ζ _ e)))
end
section
variable {X:Cx} {z z' z0 z1:Z}
def binds (env:List (Option D)) (l:List (Nat×D)):List (Option D):=l.foldl (fun e p=>e.set p.1 (some p.2)) env
def Am (t:Sta) (ts:List Nat) (ds:List D):Sta:=⟨binds t.env (ts.zip ds),t.ow.filter fun i=>!ts.contains i,t.st⟩
def As (X:Cx):List (η→E0 Unit)→List Nat→Prop
 | f :: fs,i :: t=>(∃ x,X.N[i]? = some x∧Loc X.env.scope x∧∀ {v Q E s},Α X.M X.A (Ig X.env x v) Q E s→Α X.M X.A (f v) Q E s)∧As X fs t
 | [],[]=>True
 | _,_=>False
theorem wO {Q:Unit→ς→Prop} {E:η→ς→Prop} (hN:X.N.Nodup):∀ {fs t ds us z},As X fs t→Go X z0 z→Rep X z→RDs X.W z.ρ z.G ds us→ds.length=t.length→(∀ z',Go X z0 z'→Rep X z'→z'.ρ=z.ρ→z'.G=z.G→z'.t=Am z.t t ds→(∀ j,j ∉ t→z'.σ[j]? = z.σ[j]?)→((∀ i∈t,∀ x,X.N[i]? = some x→X.env.scope.names.lookup x=some .local)→∀ b o,z.h b=some o→b≠X.env.locals→z'.h b=some o)→Q () z'.s)→Α X.M X.A (assignInOrder fs us) Q E z.s
 | [],[],[],us,z,_,x,I,r,_,h=>assignInOrder_nil (h z x I rfl rfl (by
   have:z.t.ow.filter (fun i=>!([]:List Nat).contains i)=z.t.ow:=List.filter_eq_self.mpr fun _ _=>rfl
   show z.t=⟨z.t.env,_,z.t.st⟩
   rw [this]) (fun _ _=>rfl) fun _ _ _ e _=>e)
 | f :: fs,i :: t,d :: ds,us,z,⟨⟨x',h1,h2,h3⟩,ha⟩,x,I,r,hl,h=>by
   obtain ⟨u,vs,rfl,r1,r2⟩:=r
   refine assignInOrder_cons (h3 (bF (own:=false) x I hN h1 h2 r1 fun s' a sb la I' g'=>?_))
   refine wO hN (z:={ z with t:=stV z.t i d false,σ:=z.σ.set i (some u),s:=s' }) ha g' I' r2 (ĸ hl) fun z' gz Iz eρ eG et eσ ek=>h z' gz Iz eρ eG (et.trans ?_) (fun j nj=>?_) fun lc b o e nb=>ek (fun i' m=>lc i' (ν _ m)) b o ((sb.2 b fun q=>nb (q.trans (la.2 (lc i ι x' h1)))).trans e) nb
   ·show (⟨binds (z.t.env.set i (some d)) (t.zip ds),(z.t.ow.filter (· != i)).filter (fun j=>!t.contains j),z.t.st⟩:Sta)=⟨binds (z.t.env.set i (some d)) (t.zip ds),z.t.ow.filter (fun j=>!(i :: t).contains j),z.t.st⟩
    rw [List.filter_filter]
    congr 1
    refine D6 fun j _=>?_
    rw [List.contains_cons,Bool.not_or,Bool.and_comm];rfl
   ·rw [υ,not_or] at nj
    exact (eσ j nj.2).trans (Φ (ϳ nj.1))
 | [],_ :: _,_,_,_,h,_,_,_,_,_=>h.elim
 | _ :: _,[],_,_,_,h,_,_,_,_,_=>h.elim
 | [],[],_ :: _,_,_,_,_,_,_,hl,_=>by cases hl
 | _ :: _,_ :: _,[],_,_,_,_,_,_,hl,_=>by cases hl
def LG (X:Cx) (tg:Ο) (t:List Nat) (one:Bool):Prop:=∀ (z0 z:Z) (d:D) (u:η) (env:List (Option D)) (Q:Unit→ς→Prop) (E:η→ς→Prop),Go X z0 z→Rep X z→RD X.W z.ρ z.G d u→aN t one d z.t.env=some env →
 (∀ z',Go X z0 z'→Rep X z'→z'.ρ=z.ρ→Go X z z'→z'.t=⟨env,z.t.ow.filter fun i=>!t.contains i,z.t.st⟩→(∀ j,j ∉ t→z'.σ[j]? = z.σ[j]?)→((∀ i∈t,∀ x,X.N[i]? = some x→X.env.scope.names.lookup x=some .local)→∀ b o,z.h b=some o→b≠X.env.locals→z'.h b=some o)→Q () z'.s)→Α X.M X.A (assign tg X.env u) Q E z.s
theorem vH (hN:X.N.Nodup) (hi:X.N[i]? = some x) (hx:Loc X.env.scope x):LG X (.Name x pos) [i] true:=fun z0 z d u env Q E x0 I r e h=>by
 cases (show some (z.t.env.set i (some d))=some env from e)
 refine ō (bF (own:=false) .refl I hN hi hx r fun s' a sb la I' g'=>h { z with t:=stV z.t i d false,σ:=z.σ.set i (some u),s:=s' } (x0.trans g') I' rfl g' ?_ (fun j nj=>?_) fun lc b o e nb=>(sb.2 b fun q=>nb (q.trans (la.2 (lc i (ε.mpr rfl) x hi)))).trans e)
 ·show (⟨_,z.t.ow.filter (· != i),z.t.st⟩:Sta)=⟨_,z.t.ow.filter (fun j=>![i].contains j),z.t.st⟩
  congr 1
  refine D6 fun j _=>?_
  by_cases c:j=i <;> simp [c]
 ·exact Φ fun w=>nj (by rw [w];exact ε.mpr rfl)
theorem uj {n:Nat} {Q:List η→ς→Prop} {E:η→ς→Prop} {d:D} {l:List D} (hc:X.calm=true) (I:Rep X z) (r:RD X.W z.ρ z.G d u) (e:d = .tup l∨d = .lst l) (hn:l.length=n) (q:∀ s' us,Gr z.s s'→RDs X.W z.ρ z.G l us→Q us s'):Α X.M X.A (EV u n none) Q E z.s:=by
 subst hn
 rcases e with rfl | rfl
 ·obtain ⟨a,o,vs,rfl,g,⟨tc,⟨k,td⟩,tl⟩,r⟩:=r
  rw [show l.length=vs.toArray.size by simp [r.len]]
  exact wpAny_unpackItems_tuple (I.hd hc) (show z.s.heap.IsTuple a vs.toArray from ⟨o,I.gh _ _ g,tc,⟨k,td⟩⟩) fun h' hx=>q _ _ (.hp (t:=z.s.toks) fun b o e=>hx b o (ϯ (ϛ e)) e) (by simpa using r)
 ·obtain ⟨a,o,vs,rfl,g,⟨⟨k,rfl⟩,tl⟩,r⟩:=r
  rw [show l.length=vs.toArray.size by simp [r.len]]
  exact fB (I.hd hc) (show z.s.heap.IsList a vs.toArray from ⟨_,I.gh _ _ g,rfl,⟨k,rfl⟩⟩) fun h' hx=>q _ _ (.hp (t:=z.s.toks) fun b o e=>hx b o (ϯ (ϛ e)) e) (by simpa using r)
theorem qQ {n:Nat} {Q:List η→ς→Prop} {E:η→ς→Prop} {d:D} {l:List D} (hc:X.calm=true) (I:Rep X z) (r:RD X.W z.ρ z.G d u) (e:d = .tup l∨d = .lst l) (hn:l.length=n) (q:∀ s' us,X.tz≤s'.toks→Gr z.s s'→RDs X.W z.ρ z.G l us→Q us s'):Α X.M X.A (EV u n none) Q E z.s:=
 Η (ό I.tk (uj (E:=E) (Q:=fun us s'=>Gr z.s s'∧RDs X.W z.ρ z.G l us) hc I r e hn fun s' us a b=>⟨a,b⟩)) (fun us s' ⟨tk,a,b⟩=>q s' us tk a b) fun _ _ w=>w.2
theorem qV (e:aN t false d env=some env'):∃ l,(d = .tup l∨d = .lst l)∧l.length=t.length∧env'=binds env (t.zip l):=by
 cases d with
 | tup l=>obtain ⟨c,e⟩:=aD (show (if l.length=t.length then some (binds env (t.zip l)) else none)=some env' from e);cases e;exact ⟨l,.inl rfl,c,rfl⟩
 | lst l=>obtain ⟨c,e⟩:=aD (show (if l.length=t.length then some (binds env (t.zip l)) else none)=some env' from e);cases e;exact ⟨l,.inr rfl,c,rfl⟩
 | _=>cases e
theorem sJ {es:List Ο} {k:Nat} {pos:ϥ} (hc:X.calm=true) (hN:X.N.Nodup) (ha:As X ((Ğ es X.env).map (·.2)) t) (hn:(Ğ es X.env).length=t.length) (hst:(Ğ es X.env).findIdx? (·.1)=none):LG X (.Tuple es k pos) t false:=fun z0 z d u env Q E x0 I r e h=>by
 obtain ⟨l,dl,hl,rfl⟩:=qV e
 rw [assign_Tuple]
 refine ζ (ó ?_)
 unfold unpack
 rw [hn,hst]
 refine ζ (ύ (qQ hc I r dl hl fun s' us tk g rs=>?_))
 exact wO (z:={ z with s:=s' }) hN ha (ao I.gh g).ee.go (I.grow (ao I.gh g) tk) rs hl fun z' gz Iz eρ eG et eσ ek=>h z' (x0.trans gz) Iz eρ gz et eσ fun lc b o e nb=>ek lc b o (g.k b o e) nb
theorem vY (he:LE X e c) (hg:LG X tg t false) (hs:FY [tg] e pos.line X.env=pure false) (hw:FZ [tg] e X.env=pure none) (h1:(Ğ [tg] X.env).map (·.2) = [assign tg X.env]):LS X (.Assign [tg] e pos) (.setT t c):=fun z I nb=>Hm ((he false).gos .refl I rfl nb fun z1 d u y x0 I1 r e1=>by
 rw [h1]
 cases q:aN t false d z1.t.env with
 | none=>rw [q] at e1;exact ZX e1 nb
 | some env=>
   rw [q] at e1
   exact hg z z1 d u env _ _ x0 I1 r.rd q fun z' gz Iz _ _ et _ _=>nxt gz Iz (by rw [et];exact e1)) hs hw
end
section
variable {X:Cx} {z:Z}
def isV:E→Bool
 | .v _=>true
 | _=>false
theorem vU (hn:aF eb=true) (hv:isV a=false) (ho:LE X eo a) (hb:LE X eb b) (he:LE X ee e):LS X (.Assign [.Subscript eo eb p2] ee pos) (.put a b e):=fun z I nb=>by
 have e0:X.ex (.put a b e) z.t=(X.ev false e z.t).go fun d s=>(X.ev true a s).go fun x s=>(X.ev true b s).go fun k s=>(match x with
  | .ref n=>(match (s.st[n]?).bind fun o=>iB o k d with | some o=>.nx ⟨s.env,s.ow,s.st.set n o⟩ | none=>.bad)
  | _=>.bad):=by cases a <;> first | rfl | cases hv
 refine mW hn ((he false).gos (K:=fun v s'=>∃ z1 d,z1.s=s'∧Go X z z1∧Rep X z1∧RD X.W z1.ρ z1.G d v∧X.ex (.put a b e) z.t=((X.ev true a z1.t).go fun x s=>(X.ev true b s).go fun k s=>(match x with
  | .ref n=>(match (s.st[n]?).bind fun o=>iB o k d with | some o=>.nx ⟨s.env,s.ow,s.st.set n o⟩ | none=>.bad)
  | _=>.bad))) .refl I e0 nb fun z1 d u y x1 I1 r1 e1=>⟨z1,d,rfl,x1,I1,r1.rd,e1⟩) fun v s' ⟨z1,d,q,x1,I1,r1,e1⟩=>?_
 subst q
 exact (ho true).gos x1 I1 e1 nb fun z2 x u y2 x2 I2 r2 e2=>(hb true).gos x2 I2 e2 nb fun z3 k kv y3 x3 I3 r3 e3=>by
  cases x with
  | ref n=>
    obtain ⟨p,ep,rfl⟩:=fA I3 (r2.rb.st y3 I3)
    exact tP x3 I3 ep (r3.rb.cr0 I3) ((r1.st y2.st).st y3.st) e3 nb
  | _=>exact ZX e3 nb
end
section
variable {X:Cx}
theorem nN {st:List O} {x:D} (h:fS st x=true):∃ n l,x = .ref n∧st[n]? = some (.lst l):=by
 unfold fS at h
 split at h
 ·split at h
  ·exact ⟨_,_,rfl,by assumption⟩
  ·cases h
 ·cases h
theorem vP {f:Nat} (ho:LE X eo a) (he:LE X e c) (m:M1 X eo "append" apos e cpos):LS X (.Expr (.Call (.Attribute eo "append" apos) [e] [] cpos) pos) (.fapp a f c):=fun z I nb=>by
 have e0:X.ex (.fapp a f c) z.t=(X.ev true a z.t).go fun x s=>if fS s.st x=true then (X.ev false c s).go fun d s=>apO x d s else .bad:=rfl
 refine ſ (ϩ m.base m.few m.line Ý Ø Er ((ho true).gos .refl I e0 nb fun z1 x u y1 x1 I1 r1 e1=>?_)) I.quiet rfl
 by_cases c0:fS z1.t.st x=true
 ·rw [ZZ c0] at e1
  obtain ⟨n,l,rfl,en⟩:=nN c0
  obtain ⟨p,ep,rfl⟩:=fA I1 r1.rb
  obtain ⟨o,vs,_,ho,⟨⟨k,rfl⟩,_⟩,_⟩:=I1.ob n _ p en ep
  refine ⟨⟨_,ho,rfl⟩,fun b q=>(by cases q;exact ⟨_,ho,rfl⟩),?_⟩
  rw [m.trees]
  refine Ϛ rfl (ϣ (Θ ((he false).gos x1 I1 e1 nb fun z2 d w y2 x2 I2 r2 e2=>Τ ?_)))
  have e2:X.ex (.fapp a f c) z.t=(match z2.t.st[n]? with | some (.lst l)=>if l.length<100000 then .nx ⟨z2.t.env,z2.t.ow,z2.t.st.set n (.lst (l ++ [d]))⟩ else .bad | _=>.bad):=e2
  cases q:z2.t.st[n]? with
  | none=>rw [q] at e2;exact ZX e2 nb
  | some ob=>
    rw [q] at e2
    cases ob with
    | lst l2=>
      dsimp only at e2
      by_cases c2:l2.length<100000
      ·rw [ZZ c2] at e2
       have ep2:=eD y2.st.pr ep
       obtain ⟨o,vs,hp2,ho,⟨⟨k,rfl⟩,_⟩,rl⟩:=I2.ob n _ p q ep2
       have hz:vs.length<100000:=by rw [← rl.len];exact c2
       refine ĝ Ø ⟨_,ho,rfl⟩ Ĥ (Ġ _ _) (D2 p.1 vs.toArray k w (by rw [Ν];exact đ (Ϲ hz (big (Ϗ _))))) ⟨ho,?_⟩
       obtain ⟨⟨o1,u1,u3⟩,u2⟩:=dK (f:=(·.push w)) (ws:=vs ++ [w]) ho (by simp) (by rw [Δ];exact big (by simp;omega))
       obtain ⟨I3,g3⟩:=I2.stw (s':={ z2.s with heap:=z2.s.heap.update p.1 (Þ (·.push w)) }) (o':=.lst (l2 ++ [d])) ep2 (.inl rfl) u2 ⟨o1,vs ++ [w],hp2,u1,u3,rl.app (.cons r2.rd rfl)⟩ rfl rfl
       exact nxt (x2.trans g3) I3 e2
      ·rw [ZY c2] at e2;exact ZX e2 nb
    | _=>exact ZX e2 nb
 ·rw [ZY c0] at e1;exact ZX e1 nb
end
structure Itr (W:Wd) (tg:Ο) (it:φ) (fp wr:List φ) (ds:List D) (ρ:Rs) (G:Hp) (St:Nat→ϻ→Prop):Prop where
 sub:∀ b∈wr,b∈fp
 keep:∀ i h h',St i h→(∀ b∈fp,∀ o,h.get? b=some o→h'.get? b=some o)→St i h'
 ex:∀ i h,St i h→∀ b∈wr,∃ o,h.get? b=some o
 item:∀ {A:ϙ} {i:Nat} {d:D} {s:ς},A.handled=none→ds[i]? = some d→St i s.heap→Α (model W.P W.w) A (pyNext (.ref it)) (fun r s1=>∃ u,r=some u∧Α (model W.P W.w) A (ŭ tg (.ref it) u) (fun _ s2=>St (i+1) s2.heap∧(s2.os=s.os∧s2.gens=s.gens)∧(∀ b o,b ∉ wr→s.heap.get? b=some o→s2.heap.get? b=some o) ∧
  ∀ ρ' G',ρ <+: ρ'→Sub G G'→(∀ a o,s.heap.get? a=none→s2.heap.get? a=some o→G' a=some o)→RD W ρ' G' d u) NoE s1) NoE s
 done:∀ {A:ϙ} {s:ς},A.handled=none→St ds.length s.heap→Α (model W.P W.w) A (pyNext (.ref it)) (fun r s2=>r=none∧(s2.os=s.os∧s2.gens=s.gens)∧∀ b o,b ∉ wr→s.heap.get? b=some o→s2.heap.get? b=some o) NoE s
 self:∀ {A:ϙ} {i:Nat} {s:ς} {Q:η→ς→Prop} {E:η→ς→Prop},A.handled=none→St i s.heap→Q (.ref it) s→Α (model W.P W.w) A (DY (.ref it)) Q E s
def Fp (X:Cx) (z0 z:Z) (fp wr:List φ):Prop:=∀ b∈fp,(Nob X z0 z b∧∃ o,z.h b=some o)∨(b ∉ wr∧∃ o,z.G b=some o)
section
variable {X:Cx} {z z' z0 z1:Z}
theorem Nob.go (x:Go X z z') (n:Nob X z0 z b) (e:z.h b=some o):Nob X z0 z' b∧z'.h b=some o:=by
 obtain ⟨n0,⟨f1,f2,f3,f4⟩,f5⟩:=n
 have no:∀ {P:Prop},z.h b=none→P:=fun w=>by rw [w] at e;cases e
 refine ⟨⟨n0,⟨?_,fun m=>(x.st.rn b m).elim f2 no,f3,f4⟩,fun w=>(x.ow b w).elim f5 no⟩,x.st.sm b o e f2 (fun w=>w.elim f5 f4) f3⟩
 cases q:z'.G b with
 | none=>rfl
 | some o'=>
   rcases x.st.gn b o' q with w | w | w
   ·rw [f1] at w;cases w
   ·exact no w
   ·exact (w.elim f5 f4).elim
theorem Fp.go (x:Go X z z') (f:Fp X z0 z fp wr):Fp X z0 z' fp wr:=fun b hb=>(f b hb).imp (fun ⟨n,o,e⟩=>let ⟨a,b⟩:=n.go x e;⟨a,o,b⟩) fun ⟨n,o,e⟩=>⟨n,o,x.st.gg b o e⟩
theorem Fp.keep (x:Go X z z') (I:Rep X z) (I':Rep X z') (f:Fp X z0 z fp wr):∀ b∈fp,∀ o,z.h b=some o→z'.h b=some o:=fun b hb o e=>by
 rcases f b hb with ⟨n,o',e'⟩ | ⟨_,o',e'⟩
 ·exact (n.go x e).2
 ·rw [I.gh b o' e'] at e;cases e;exact I'.gh b _ (x.st.gg b _ e')
theorem Rep.turn {s':ς} {wr:List φ} {w:φ→Prop} (x:Stp X.fr w z0 z) (I:Rep X z) (hw:∀ b∈wr,Nob X z0 z b∧∃ o,z.h b=some o) (k:∀ b o,b ∉ wr→z.h b=some o→s'.heap.get? b=some o) (os:s'.os=z.s.os∧s'.gens=z.s.gens) (tk:X.tz≤s'.toks:=by first | assumption | exact HR.tk (by assumption) | exact HR.tk1 (by assumption) | exact (Rep.toHR (by assumption)).tk | exact (Rep.toHR (by assumption)).tk1 | exact Ϡ (by assumption)):Rep X (z.up s')∧Stp X.fr w z0 (z.up s')∧Sub z.G (z.up s').G∧∀ b∈wr,Nob X z0 (z.up s') b:=by
 have gd:∀ a,(z.up s').G a=match z.h a with | none=>s'.heap.get? a | some _=>z.G a:=fun _=>rfl
 have nG:∀ {b o},z.G b=some o→b ∉ wr:=fun e m=>by rw [(hw _ m).1.2.1.1] at e;cases e
 have nM:∀ {b},Mu z.ρ b→b ∉ wr:=fun h m=>(hw _ m).1.2.1.2.1 h
 have nf:∀ {b},b∈frs X.fr→b ∉ wr:=fun h m=>(hw _ m).1.2.1.2.2.1 h
 have nL:∀ {b},Lc X b→b ∉ wr:=fun h m=>(hw _ m).1.2.1.2.2.2 h
 have nO:∀ {b},Own z b→b ∉ wr:=fun h m=>(hw _ m).1.2.2 h
 have gg:Sub z.G (z.up s').G:=fun a o e=>by rw [gd,I.gh a o e];exact e
 have nn:∀ {a:φ},(∃ o,z.h a=some o)→z.G a=none→(z.up s').G a=none:=fun {a} ⟨o,e⟩ n=>by rw [gd,e];exact n
 have gh:Sub (z.up s').G s'.heap.get?:=fun a o e=>by
  rw [gd] at e
  cases q:z.h a with
  | none=>rw [q] at e;exact e
  | some u=>rw [q] at e;exact k a o (nG e) (I.gh a o e)
 have ck:∀ x c v,X.env.cells.lookup x=some c→z.s.heap.IsCell c v→s'.heap.IsCell c v:=fun x c v e ⟨o,q,d⟩=>⟨o,k c o (nL (.inr ⟨x,e⟩)) q,d⟩
 have fu:s'.heap.FunFrames X.base X.fr:=by
  have:∀ {l:List ż},(∀ b∈frs l,b ∉ wr)→z.s.heap.FunFrames X.base l→s'.heap.FunFrames X.base l:=fun {l}=>by
   induction l with
   | nil=>exact fun _ _=>trivial
   | cons v r ih=>
     intro hs ⟨a,⟨L,o,e1,e2,e3,e4⟩,q⟩
     have hm:L∈frs (v :: r):=by unfold frs;rw [Ϧ,e1];exact ι
     exact ⟨a,⟨L,o,e1,e2,k L o (hs L hm) e3,e4⟩,ih (fun b hb=>hs b (by unfold frs;rw [Ϧ,e1];exact ν _ hb)) q⟩
  exact this (fun b h=>nf h) I.fu
 have gn:∀ a o,(z.up s').G a=some o→z.G a=some o∨z.h a=none:=fun a o e=>by
  rw [gd] at e
  cases q:z.h a with
  | none=>exact .inr rfl
  | some u=>rw [q] at e;exact .inl e
 refine ⟨⟨⟨I.md,I.fm,I.hd,fun b o e=>gg _ _ (I.bs b o e),gh,I.rl,I.rn,fun a m=>nn (I.th m) (I.rg a m),fun n o p h1 h2=>(I.ob n o p h1 h2).mono (μ _) gg fun a ha o e=>k a o (nM ⟨p,Ρ h2,ha⟩) e,fu,fun b m=>⟨nn (I.fth m) (I.ff b m).1,(I.ff b m).2⟩,by show œ s'.gens;rw [os.2];exact I.br,os.1.trans I.os,tk⟩,I.ok,?_,fun x c e=>let ⟨v,q⟩:=I.ce x c e;⟨v,ck x c v e q⟩,fun a l=>⟨nn (I.lth l) (I.fl a l).1,(I.fl a l).2⟩,I.el,I.sl,fun i d n e=>let ⟨u,q,r⟩:=I.en i d n e;⟨u,q,r.mono (μ _) gg⟩,fun i m=>?_,I.od⟩,⟨x.pr,x.gg.trans gg,fun a o e=>?_,x.rn,fun a o e=>?_,fun a o e n w f=>?_,fun a o e n w f=>?_⟩,gg,fun b hb=>let ⟨⟨n0,f,no⟩,ex⟩:=hw b hb;⟨n0,⟨nn ex f.1,f.2⟩,no⟩⟩
 ·obtain ⟨m,⟨oL,es,ep,q,r⟩,hl⟩:=I.lo
  exact ⟨m,⟨oL,es,ep,k _ _ (nL (.inl rfl)) q,r⟩,fun j x w e1 e2 e3=>dz (fun c v e q=>ck x c v e q) (hl j x w e1 e2 e3)⟩
 ·obtain ⟨d,a,o,h1,h2,h3,r,f⟩:=I.eo i m
  exact ⟨d,a,o,h1,h2,h3,r.mono (μ _) gg fun c hc o e=>k c o (by rcases hc with rfl | rfl <;> exact nO ⟨i,m,h2⟩) e,nn r.th.1 f.1,f.2⟩
 ·rcases gn a o e with w | w
  ·exact x.gn a o w
  ·exact .inr (.inl (x.no w))
 ·obtain ⟨o1,e1⟩:=x.th a o e
  by_cases m:a∈wr
  ·rw [(hw a m).1.1] at e;cases e
  ·exact ⟨o1,k a o1 m e1⟩
 ·exact k a o (fun m=>by rw [(hw a m).1.1] at e;cases e) (x.sm a o e n w f)
 ·obtain ⟨sl,q⟩:=x.sl a o e n w f
  exact ⟨sl,k a _ (fun m=>by rw [(hw a m).1.1] at e;cases e) q⟩
theorem Fp.up {s':ς} {wr wr':List φ} (I:Rep X z) (f:Fp X z0 z fp wr) (g:Sub z.G (z.up s').G) (k:∀ b o,b ∉ wr'→z.h b=some o→s'.heap.get? b=some o) (ex:∀ b∈wr',b∈fp→∃ o,s'.heap.get? b=some o):Fp X z0 (z.up s') fp wr:=fun b hb=>(f b hb).imp (fun ⟨⟨n0,ff,no⟩,o',e'⟩=>⟨⟨n0,⟨by show (match z.h b with | none=>s'.heap.get? b | some _=>z.G b)=none;rw [e'];exact ff.1,ff.2⟩,no⟩,by
 by_cases m:b∈wr'
 ·exact ex b m hb
 ·exact ⟨o',k b o' m e'⟩⟩) fun ⟨m,o',e'⟩=>⟨m,o',g b o' e'⟩
theorem Fp.wr {wr:List φ} {St:Nat→ϻ→Prop} (T:Itr W tg it fp wr ds ρ G St) (st:St i z.s.heap) (f:Fp X z0 z fp wr):∀ b∈wr,Nob X z0 z b∧∃ o,z.h b=some o:=fun b hb=>(f b (T.sub b hb)).elim id fun ⟨n,_⟩=>ZX hb n
inductive FI (X:Cx) (z:Z) (tg:Ο) (o:Out D) (itv:η) (s2:ς):Prop
 | mk (z1:Z) (ds:List D) (it:φ) (fp wr:List φ) (St:Nat→ϻ→Prop) (_:z1.s=s2) (_:o = .ok (.lst ds) z1.t) (_:Ee X z z1) (_:X.tz≤s2.toks→Rep X z1) (_:itv = .ref it) (_:Itr X.W tg it fp wr ds z1.ρ z1.G St) (_:St 0 s2.heap) (_:Fp X z z1 fp wr)
def LI (X:Cx) (tg e:Ο) (c:E):Prop:=∀ z,Rep X z→X.ev false c z.t≠.bad→Α X.M X.A (eval e X.env) (fun v s1=>Α X.M X.A (DY v) (FI X z tg (X.ev false c z.t)) NoE s1) (Px X z (X.ev false c z.t)) z.s
theorem ni {ds:List α} {i:Nat} (h:ds[i]? = some d):ds.drop i=d :: ds.drop (i+1):=by
 obtain ⟨hi,rfl⟩:=κ.mp h
 exact Ĳ hi
inductive FoJ (X:Cx) (z z1:Z) (ds:List D) (St:Nat→ϻ→Prop) (fp wr:List Nat) (o:am) (f:D→Sta→am) (n:Nat) (s:ς):Prop
 | mk (i:Nat) (z':Z) (_:z'.s=s) (_:n=ds.length - i) (_:i≤ds.length) (_:Go X z z') (_:Rep X z') (_:St i s.heap) (_:Fp X z z' fp wr) (_:z1.ρ <+: z'.ρ) (_:Sub z1.G z'.G) (_:o=bv f (ds.drop i) z'.t)
theorem y8 {t:List Nat} {one:Bool} (hc:X.calm=true) (hp:∀ z o,Io X.M X.A X.env (PxS X z o)) (hi:LI X tg iter it) (hg:LG X tg t one) (hb:LSs X body b) (hs:∀ x,Ŏ iter X.env x=pure x):LS X (.For tg iter body [] pos) (.for_ t one it b):=fun z I nb=>by
 let f:D→Sta→am:=fun d s=>match aN t one d s.env with | some env=>X.ex b ⟨env,s.ow.filter fun i=>!t.contains i,s.st⟩ | none=>.bad
 have e0:X.ex (.for_ t one it b) z.t=(X.ev false it z.t).go fun x s=>(match x with | .lst ds=>bv f ds s | _=>.bad):=rfl
 generalize X.ex (.for_ t one it b) z.t=o at e0 nb
 have nb0:X.ev false it z.t≠.bad:=fun q=>nb (by rw [e0,q];rfl)
 refine wpAny_For (Η (ό I.tk (hi z I nb0)) (fun v s1 ⟨tk1,h1⟩=>Η (ό tk1 h1) (fun itv s2 ⟨tk2,h2⟩=>?_) fun _ _ w=>w.2.elim) fun u s' h=>?_) hs
 rotate_left
 ·rw [e0];exact .of .refl h.2
 obtain ⟨z1,ds,a,fp,wr,St,q1,q2,x1,I1,q3,T,st1,f1⟩:=h2
 subst q1 q3
 have I1:=I1 tk2
 rw [q2] at e0
 have e0:o=bv f ds z1.t:=e0
 refine codeAny_forLoop_any (FoJ X z z1 ds St fp wr o f) ?_ (ds.length - 0) ⟨0,z1,rfl,rfl,ϰ _,x1.go,I1,st1,f1,μ _,.refl _,by rw [Ī];exact e0⟩
 rintro n s3 ⟨i,z3,e3,en,hi,x3,I3,st3,f3,p3,g3,q⟩
 subst e3
 cases qd:ds[i]? with
 | none=>
   have hl:i=ds.length:=by rw [ER] at qd;omega
   subst hl
   refine ð (hp z o) (Η (ό I3.tk (T.done (I3.hd hc) st3)) (fun r s4 ⟨tk4,er,os,k⟩=>?_) fun _ _ w=>w.2.elim)
   subst er
   obtain ⟨I4,x4,_⟩:=I3.turn x3.st (f3.wr T st3) k os tk4
   rw [ń] at q
   exact ī (nxt (z1:=z3.up s4) ⟨x4,x3.ow⟩ I4 q)
 | some d=>
   have hil:i<ds.length:=(κ.mp qd).1
   rw [ni qd] at q
   have q:o=(f d z3.t).go fun s=>bv f (ds.drop (i+1)) s:=q
   refine ð (hp z o) (Η (ό I3.tk (T.item (I3.hd hc) qd st3)) (fun r s4 ⟨tk4,u,er,h4⟩=>?_) fun _ _ w=>w.2.elim)
   subst er
   refine ð (hp z o) (Η (ό tk4 h4) (fun _ s5 ⟨tk5,st5,os5,k5,rd5⟩=>?_) fun _ _ w=>w.2.elim)
   have hw:=f3.wr T st3
   obtain ⟨I5,x5',g5,n5⟩:=I3.turn x3.st hw k5 os5 tk5
   have x5:Go X z (z3.up s5):=⟨x5',x3.ow⟩
   have rd:=rd5 z3.ρ (z3.up s5).G p3 (g3.trans g5) fun a o e1 e2=>by rw [jU e1];exact e2
   have f5:Fp X z (z3.up s5) fp wr:=f3.up I3 g5 k5 fun b m _=>T.ex _ _ st5 b m
   cases qb:aN t one d z3.t.env with
   | none=>exact ZX (show o = .bad by rw [q];show am.go (match aN t one d z3.t.env with | some env=>X.ex b ⟨env,z3.t.ow.filter fun i=>!t.contains i,z3.t.st⟩ | none=>.bad) _=_;rw [qb];rfl) nb
   | some env=>
     have q:o=(X.ex b ⟨env,z3.t.ow.filter fun i=>!t.contains i,z3.t.st⟩).go fun s=>bv f (ds.drop (i+1)) s:=by rw [q];show am.go (match aN t one d z3.t.env with | some env=>X.ex b ⟨env,z3.t.ow.filter fun i=>!t.contains i,z3.t.st⟩ | none=>.bad) _=_;rw [qb]
     refine ð (hp z o) (hg z (z3.up s5) d u env _ _ x5 I5 rd qb fun z6 x6 I6 eρ y6 et eσ _=>?_)
     rw [← show z6.t=(⟨env,z3.t.ow.filter fun i=>!t.contains i,z3.t.st⟩:Sta) from et] at q
     have nb6:X.ex b z6.t≠.bad:=fun w=>nb (by rw [q,w];rfl)
     refine ð (hp z o) (Η (hb z6 I6 nb6) (fun fl s7 h7=>?_) fun u s' h=>?_)
     ·cases qx:X.ex b z6.t with
      | nx t7=>
        rw [qx] at h7 q
        obtain ⟨rfl,z7,e7,et7,x7,I7⟩:=h7
        subst e7 et7
        exact ⟨ds.length - (i+1),by omega,i+1,z7,rfl,rfl,hil,x6.trans x7,I7,T.keep _ _ _ st5 ((f5.keep (y6.trans x7) I5 I7)),f5.go (y6.trans x7),(p3.trans (eρ ▸ μ _:z3.ρ <+: z6.ρ)).trans x7.st.pr,(g3.trans g5).trans (y6.st.gg.trans x7.st.gg),q⟩
      | rt d7 t7=>
        rw [qx] at h7 q
        obtain ⟨u7,z7,rfl,r7⟩:=h7
        have:=Ps.less x6 (show Ps X z6 (.rt d7 t7) (.ret u7) s7 from ⟨u7,z7,rfl,r7⟩)
        show Ps X z o (.ret u7) s7
        rw [q];exact this
      | exc c l t7=>rw [qx] at h7;exact h7.elim
      | bad=>exact ZX qx nb6
     ·obtain ⟨z7,c,l,e7,qx,y7,J7,r7⟩:=h.less x6
      exact ⟨z7,c,l,e7,by rw [q,qx];rfl,y7,J7,r7⟩
end
section
variable {X:Cx} {z:Z}
theorem sQ (hp:∀ z o,Io X.M X.A X.env (PxS X z o)) (ht:LT X e c) (hb:LSs X body b):LS X (.While e body [] pos) (.whl c b):=fun z I nb=>by
 have e0:X.ex (.whl c b) z.t=cL (X.ev true c) (X.ex b) 100000 z.t:=rfl
 generalize X.ex (.whl c b) z.t=o at e0 nb
 refine wpAny_While (codeAny_whileLoop (fun n s'=>∃ z',z'.s=s'∧Go X z z'∧Rep X z'∧o=cL (X.ev true c) (X.ex b) n z'.t) ?_ 100000 ⟨z,rfl,.refl,I,e0⟩)
 rintro n s3 ⟨z3,e3,x3,I3,q⟩
 subst e3
 cases n with
 | zero=>exact ZX q nb
 | succ n=>
   have q:o=((X.ev true c z3.t).bind toB).go fun x s=>if x then (X.ex b s).go fun s=>cL (X.ev true c) (X.ex b) n s else .nx s:=by
    rw [q]
    show (X.ev true c z3.t).go _=_
    cases X.ev true c z3.t with
    | ok d s=>cases d <;> first | rfl | (rename_i b;cases b <;> rfl)
    | exc c l s=>rfl
    | bad=>rfl
   refine ð (hp z o) (Jg.gos ht x3 I3 q nb fun z4 d u y4 x4 I4 r4 e4=>?_)
   cases (show u=d from r4)
   cases d with
   | true=>
     have e4:o=(X.ex b z4.t).go fun s=>cL (X.ev true c) (X.ex b) n s:=e4
     have nb4:X.ex b z4.t≠.bad:=fun w=>nb (by rw [e4,w];rfl)
     refine ð (hp z o) (Η (hb z4 I4 nb4) (fun fl s7 h7=>?_) fun u s' h=>?_)
     ·cases qx:X.ex b z4.t with
      | nx t7=>
        rw [qx] at h7 e4
        obtain ⟨rfl,z7,e7,et7,x7,I7⟩:=h7
        subst e7 et7
        exact ⟨n,Ň n,z7,rfl,x4.trans x7,I7,e4⟩
      | rt d7 t7=>
        rw [qx] at h7 e4
        obtain ⟨u7,z7,rfl,r7⟩:=h7
        have:=Ps.less x4 (show Ps X z4 (.rt d7 t7) (.ret u7) s7 from ⟨u7,z7,rfl,r7⟩)
        show Ps X z o (.ret u7) s7
        rw [e4];exact this
      | exc c l t7=>rw [qx] at h7;exact h7.elim
      | bad=>exact ZX qx nb4
     ·obtain ⟨z7,c,l,e7,qx,y7,J7,r7⟩:=h.less x4
      exact ⟨z7,c,l,e7,by rw [e4,qx];rfl,y7,J7,r7⟩
   | false=>exact ī (nxt x4 I4 e4)
end
theorem nin (n j k a:Nat) (h:j≠k) (ha:a<n):n+j ∉ [n+k,a]:=by simp;omega
theorem rP {h:ϻ} (n:h.objs.size≤a):h.get? a=none:=Ϙ n
section
variable {W:Wd} {tg:Ο} {it:φ} {fp wr:List φ} {ds:List D} {ρ:Rs} {G:Hp} {St:Nat→ϻ→Prop}
theorem Itr.walks {P:Nat→η→Prop} {A0:ϙ} (h0:A0.handled=none) {n:Nat} (hn:ds.length=n) (w:∀ A,A.handled=none→Walks W.P W.w A it fp wr n P St) (ex:∀ i h,St i h→∀ b∈wr,∃ o,h.get? b=some o) (go:∀ {A:ϙ} {s:ς} {u:η} {Q:Unit→ς→Prop} {E:η→ς→Prop} {i:Nat},St i s.heap→Q () s→Α (model W.P W.w) A (ŭ tg (.ref it) u) Q E s)
 (hP:∀ i v d,P i v→ds[i]? = some d→∀ ρ' G',ρ <+: ρ'→Sub G G'→RD W ρ' G' d v):Itr W tg it fp wr ds ρ G St where
 sub:=(w A0 h0).sub
 keep:=(w A0 h0).frame
 ex:=ex
 item:=fun {A i d s} h e st=>(w A h).item i s _ _ (hn ▸ (κ.mp e).1) st fun v h' tk p st' k=>⟨v,rfl,go (s:={ s with heap:=h',toks:=tk }) st' ⟨st',⟨rfl,rfl⟩,fun b o n q=>k b o n q,fun ρ' G' h1 h2 _=>hP i v d p e ρ' G' h1 h2⟩⟩
 done:=fun {A s} h st=>(w A h).done s _ _ (hn ▸ st) fun h' tk k=>⟨rfl,⟨rfl,rfl⟩,k⟩
 self:=fun {A i s Q E} h st q=>(w A h).self i s Q E st q
abbrev Exa (h:ϻ) (T:φ):Prop:=∀ o,h.get? T=some o→o.dict=none
theorem Itr.walksT {Pt:Nat→Array η→Prop} {Mid:Nat→φ→ϻ→Prop} {A0:ϙ} {elts:List Ο} {k:Nat} {pos:ϥ} (h0:A0.handled=none) {n:Nat} (hn:ds.length=n) (w:∀ A,A.handled=none→HF W.P W.w A it fp wr n Pt St Mid) (ex:∀ i h,St i h→∀ b∈wr,∃ o,h.get? b=some o) (hm:∀ i T h,Mid i T h→Exa h T)
 (hP:∀ i vals d,Pt i vals→ds[i]? = some d→vals.size≤ϝ∧∃ l,d = .tup l∧∀ ρ' G',ρ <+: ρ'→Sub G G'→RDs W ρ' G' l vals.toList):Itr W (.Tuple elts k pos) it fp wr ds ρ G St where
 sub:=(w A0 h0).sub
 keep:=(w A0 h0).frame
 ex:=ex
 item:=fun {A i d s} h e st=>(w A h).item i s _ _ (hn ▸ (κ.mp e).1) st fun T vals h' tk p hT tup mid kk=>⟨.ref T,rfl,(w A h).go elts k pos i T { s with heap:=h',toks:=tk } _ _ mid fun h2 st2 k2=>⟨st2,⟨rfl,rfl⟩,fun b o n q=>k2 b o n (kk b o n q),fun ρ' G' h1 h3 h4=>by
  obtain ⟨hz,l,rfl,r⟩:=hP i vals d p e
  obtain ⟨o,e1,e2,n,e3⟩:=tup
  exact ⟨T,o,vals.toList,rfl,h4 T o (rP hT) (k2 T o ((w A h).apart i T h' mid) e1),⟨e2,⟨n,by simpa using e3⟩,(by simpa using hz),hm i T h' mid o e1⟩,r ρ' G' h1 h3⟩⟩⟩
 done:=fun {A s} h st=>(w A h).done s _ _ (hn ▸ st) fun h' tk k=>⟨rfl,⟨rfl,rfl⟩,k⟩
 self:=fun {A i s Q E} h st q=>(w A h).self i s Q E st q
theorem mS {prog:Ä} {w:à} {A:ϙ} {it:φ} {fp:List φ} {n:Nat} {P:Nat→η→Prop} {St:Nat→ϻ→Prop} (D:Draws prog w A.in1 it fp n P St) (e:φ) (hei:e≠it) (hef:e ∉ fp) (hif:it∈fp):HF prog w A e (e :: fp) [e,it] n (fun i vals=>∃ t x,P i x∧vals = #[.int i t,x]) (fun i h=>(∃ old,IsEnum h e it i old)∧St i h) (fun i T h=>((∃ x,IsEnumOut h e it ((i:Int)+1) x T)∧St (i+1) h∧T≠e∧T≠it)∧Exa h T):=
 have V:=WalksT.enumerateD D e hei hef hif
 { sub:=V.sub,frame:=V.frame,done:=V.done,self:=V.self,go:=fun elts k pos i T s Q E m q=>V.go elts k pos i T s Q E m.1 q,apart:=fun i T h m=>V.apart i T h m.1,
   item:=fun i s Q E hi ⟨⟨old,he⟩,hs⟩ hQ=>wpAny_pyNext_enum_itemD D he hs hi hei hef fun x h' tk hP ho hs' hT hsz hk=>hQ s.heap.objs.size #[.int i tk,x] h' (tk+1) ⟨_,_,hP,rfl⟩ (Ϗ _) ⟨_,hT,rfl,_,rfl⟩ ⟨⟨⟨_,ho⟩,hs',Û (ϛ he),Û (let ⟨_,y⟩:=D.live _ _ hs;ϛ y)⟩,fun o q=>(by rw [hT] at q;cases q;rfl)⟩ fun b o hb y=>hk b o (fun z=>hb (z ▸ ι)) (fun z=>hb (z ▸ ν _ ι)) y }
end
section
variable {X:Cx} {z z' z0 z1:Z} {tg:Ο}
theorem fH {s2:ς} {o:Out D} {ds:List D} {it:φ} {fp wr:List φ} {St:Nat→ϻ→Prop} (x:Ee X z z1) (I:Rep X z1) (g:Gr z1.s s2) (T:Itr X.W tg it fp wr ds z1.ρ z1.G St) (st:St 0 s2.heap) (hf:∀ b∈fp,(z1.h b=none∧∃ o,s2.heap.get? b=some o)∨(b ∉ wr∧∃ o,z1.G b=some o)) (e:o = .ok (.lst ds) z1.t):FI X z tg o (.ref it) s2:=
 ⟨{ z1 with s:=s2 },ds,it,fp,wr,St,rfl,e,x.trans (ao I.gh g).ee,fun tk=>I.grow (ao I.gh g) tk,rfl,T,st,fun b hb=>(hf b hb).imp_left fun ⟨n,ex⟩=>⟨⟨x.st.no n,I.fre n⟩,ex⟩⟩
theorem nR (I:Rep X z) (e:z.G a=some o):a≠z.s.heap.objs.size:=ϯ (ϛ (I.gh a o e))
theorem Dr (hc:X.calm=true) (ha:LE X e a):LI X tg e (.itv a):=fun z I nb=>(ha false).go (K:=fun v s1=>Α X.M X.A (DY v) (FI X z tg (X.ev false (.itv a) z.t)) NoE s1) .refl I rfl nb fun z1 d u y x1 I1 r1 e1=>by
 have r:=r1.rd
 cases d with
 | lst l=>
   obtain ⟨p,o,vs,rfl,g,⟨⟨n,rfl⟩,hz⟩,r⟩:=r
   have ne:=nR I1 g
   refine ŋ (show z1.s.heap.IsList p vs.toArray from ⟨_,I1.gh _ _ g,rfl,n,rfl⟩) (fH (wr:=[z1.s.heap.objs.size]) x1 I1 (.push (t:=z1.s.toks)) (Itr.walks (I1.hd hc) (by simp [r.len]) (fun A hA=>G3 hA _ p ne vs.toArray) (fun i h st b hb=>by rw [ε.mp hb];obtain ⟨⟨o,e,_⟩,_⟩:=st;exact ⟨o,e⟩) (fun st q=>let ⟨⟨o,e,c,d⟩,_⟩:=st;gE e c d (by decide) q) fun i v d p1 p2 ρ' G' h1 h2=>?_) ⟨⟨_,ψ _ rfl,rfl,rfl⟩,⟨_,Ζ _ (I1.gh _ _ g),rfl,n,rfl⟩⟩ (fun b hb=>?_) e1)
   ·obtain ⟨v',w1,w2⟩:=(r.mono h1 h2).get p2
    rw [show vs[i]? = some v by simpa using p1] at w1;cases w1;exact w2
   ·rcases υ.mp hb with w | w
    ·rw [w];exact .inl ⟨aG z1,_,ψ _ rfl⟩
    ·rw [ε.mp w];exact .inr ⟨fun m=>ne (ε.mp m),_,g⟩
 | tup l=>
   obtain ⟨p,o,vs,rfl,g,⟨tc,⟨n,td⟩,hz⟩,r⟩:=r
   have ne:=nR I1 g
   refine wpAny_pyIter_tuple (show z1.s.heap.IsTuple p vs.toArray from ⟨_,I1.gh _ _ g,tc,n,td⟩) (fH (wr:=[z1.s.heap.objs.size]) x1 I1 (.push (t:=z1.s.toks)) (Itr.walks (I1.hd hc) (by simp [r.len]) (fun A hA=>Walks.tuple hA _ p ne vs.toArray) (fun i h st b hb=>by rw [ε.mp hb];obtain ⟨⟨o,e,_⟩,_⟩:=st;exact ⟨o,e⟩) (fun st q=>let ⟨⟨o,e,c,d⟩,_⟩:=st;gE e c d (by decide) q) fun i v d p1 p2 ρ' G' h1 h2=>?_) ⟨⟨_,ψ _ rfl,rfl,rfl⟩,⟨_,Ζ _ (I1.gh _ _ g),tc,n,td⟩⟩ (fun b hb=>?_) e1)
   ·obtain ⟨v',w1,w2⟩:=(r.mono h1 h2).get p2
    rw [show vs[i]? = some v by simpa using p1] at w1;cases w1;exact w2
   ·rcases υ.mp hb with w | w
    ·rw [w];exact .inl ⟨aG z1,_,ψ _ rfl⟩
    ·rw [ε.mp w];exact .inr ⟨fun m=>ne (ε.mp m),_,g⟩
 | dic ks l=>
   obtain ⟨p,o,vs,rfl,hs,g,⟨es,ep,c1,c2,c3,c4,c5,hz⟩,hl,r⟩:=r
   have ne:=nR I1 g
   have dm:Heap.DictAt (aS X.W.P X.W.w) z1.s.heap p (ks.zip vs) ep:=⟨o,es,I1.gh _ _ g,c1,c2,c3,c4,c5⟩
   have lk:ks.length=vs.length:=hl.trans r.len
   have lz:(ks.zip vs).length=(ks.map ym).length:=by rw [Ϸ,Β];omega
   refine wpAny_pyIter_dict hs dm (fH (ds:=ks.map ym) (wr:=[z1.s.heap.objs.size]) x1 I1 (.push (t:=z1.s.toks)) (Itr.walks (I1.hd hc) lz.symm (fun A hA=>Walks.dictKeys (knd:=aS X.W.P X.W.w) hA _ p ne (ks.zip vs) ep) (fun i h st b hb=>by rw [ε.mp hb];obtain ⟨⟨o,e,_⟩,_⟩:=st;exact ⟨o,e⟩) (fun st q=>let ⟨⟨o,e,c,d⟩,_⟩:=st;gE e c d (by decide) q) fun i v d p1 p2 ρ' G' h1 h2=>?_) ⟨⟨_,ψ _ rfl,rfl,rfl⟩,⟨o,es,Ζ _ (I1.gh _ _ g),c1,c2,c3,c4,c5⟩⟩ (fun b hb=>?_) e1)
   ·obtain ⟨k,u,w1,w2⟩:=p1
    have kk:ks[i]? = some k:=by
     have:=ı.mp w1;exact this.1
    rw [ϒ,kk] at p2
    cases p2
    rcases aE w2 with ⟨j,t,rfl,rfl⟩ | ⟨x,t,rfl,rfl⟩
    ·exact ⟨t,rfl⟩
    ·exact ⟨t,rfl⟩
   ·rcases υ.mp hb with w | w
    ·rw [w];exact .inl ⟨aG z1,_,ψ _ rfl⟩
    ·rw [ε.mp w];exact .inr ⟨fun m=>ne (ε.mp m),_,g⟩
 | str y=>
   obtain ⟨t,rfl⟩:=r
   have e1:X.ev false (.itv a) z.t=Out.of z1.t ((if y.cps.all (· < 128)=true then some (y.cps.toList.map fun c=>D.str ⟨#[c]⟩) else none).map D.lst):=e1
   by_cases hy:y.cps.all (· < 128)=true
   ·rw [ZZ hy] at e1
    refine wpAny_pyIter_ascii hy (fH (ds:=y.cps.toList.map fun c=>.str ⟨#[c]⟩) (wr:=[z1.s.heap.objs.size]) x1 I1 (.push (t:=z1.s.toks)) (Itr.walks (I1.hd hc) (by simp) (fun A hA=>Walks.strAscii hA _ y t) (fun i h st b hb=>by rw [ε.mp hb];obtain ⟨o,e,_⟩:=st;exact ⟨o,e⟩) (fun st q=>let ⟨o,e,c,d⟩:=st;gE e c d (by decide) q) fun i v d p1 p2 ρ' G' h1 h2=>?_) ⟨_,ψ _ rfl,rfl,rfl⟩ (fun b hb=>?_) e1)
    ·obtain ⟨c,u,w1,rfl⟩:=p1
     rw [ϒ,Array.getElem?_toList,w1] at p2
     cases p2;exact ⟨u,rfl⟩
    ·rw [ε.mp hb];exact .inl ⟨aG z1,_,ψ _ rfl⟩
   ·rw [ZY hy] at e1;exact ZX e1 nb
 | _=>exact ZX e1 nb
theorem eH {a:Int}:(d3 a n).length=n:=by simp [d3]
theorem tQ {lo hi:Int} {t u v:Tok} {tk:Nat} {o:Out D} (hc:X.calm=true) (x:Ee X z z1) (I:Rep X z1) (h1:-(2 ^ 62)≤lo) (h2:lo<2 ^ 62) (h3:-(2 ^ 62)≤hi) (h4:hi<2 ^ 62) (e:o = .ok (.lst (d3 lo (hi - lo).toNat)) z1.t):Α X.M X.A (DY (.ref z1.s.heap.objs.size)) (FI X z tg o) NoE { z1.s with heap:=z1.s.heap.push { cls:=.type "range",data:=.fields #[.int lo t,.int hi u,.int 1 v] },toks:=tk }:=by
 refine wpAny_pyIter_range (IsRange.new ..) (small_one h1 h2 h3 h4) ?_
 have e2:(((hi - lo).toNat:Nat):Int) - ((0:Nat):Int)=ϑ lo hi 1:=by rw [rangeSize_one];split <;> omega
 have g0:Gr z1.s { z1.s with heap:=z1.s.heap.push { cls:=.type "range",data:=.fields #[.int lo t,.int hi u,.int 1 v] },toks:=tk }:=.push
 refine fH (ds:=d3 lo (hi - lo).toNat) x I (g0.trans (.push (t:=tk))) (Itr.walks (I.hd hc) eH (fun A hA=>HU hA _ lo 1 (hi - lo).toNat) (fun i h st b hb=>by rw [ε.mp hb];exact ⟨_,st⟩) (fun st q=>gE st rfl rfl (by decide) q) fun i v d p1 p2 ρ' G' _ _=>?_) ?_ (fun b hb=>?_) e
 ·obtain ⟨t,rfl⟩:=p1
  unfold d3 at p2
  rw [ϒ,τ] at p2
  obtain ⟨j,p3,rfl⟩:=p2
  obtain ⟨hj,hj2⟩:=κ.mp p3
  rw [Gs] at hj2
  subst hj2
  exact ⟨t,by rw [IE]⟩
 ·show IsRangeIter _ _ (lo+((0:Nat):Int) * 1) ((((hi - lo).toNat:Nat):Int) - ((0:Nat):Int)) 1
  rw [e2,show lo+((0:Nat):Int) * 1=lo by simp]
  exact ψ _ rfl
 ·rw [ε.mp hb];exact .inl ⟨Ϙ (by rw [ċ];exact ö _),_,ψ _ rfl⟩
theorem qr (hc:X.calm=true) (hx:Blt X "range" (.type "range")) (ha:LE X ea a) (he:Ξ [ea] X.env=(false,eval ea X.env) :: Ξ [] X.env):LI X tg (.Call (.Name "range" p) [ea] [] pos) (.it .range1 (.cons a .nil)):=fun z I nb=>
 aH (Q:=fun v s1=>Α X.M X.A (DY v) (FI X z tg (X.ev false (.it .range1 (.cons a .nil)) z.t)) NoE s1) (.inr ⟨_,rfl⟩) hx he rfl I (Θ ((ha false).go .refl I (ev1 fun l s=>Out.of s ((itD .range1 l).map D.lst)) nb fun z1 x u y1 x1 I1 r1 e1=>Τ (by
  cases x with
  | int j=>
    obtain ⟨t,rfl⟩:=r1.rd
    have e1:X.ev false (.it .range1 (.cons a .nil)) z.t=Out.of z1.t ((if -(2 ^ 62)≤j∧j<2 ^ 62 then some (d3 0 j.toNat) else none).map D.lst):=e1
    by_cases c:-(2 ^ 62)≤j∧j<2 ^ 62
    ·rw [ZZ c] at e1
     exact call_range_1 (tQ hc x1 I1 (by omega) (by omega) c.1 c.2 (by rw [Int.sub_zero];exact e1))
    ·rw [ZY c] at e1;exact ZX e1 nb
  | _=>exact ZX e1 nb)))
theorem nu:∀ {l:List D} {i:Nat} {j:Int},(dq j l)[i]? = (l[i]?).map fun d=>.tup [.int (j+i),d]
 | [],_,_=>by unfold dq;simp
 | a :: r,0,j=>by unfold dq;simp
 | a :: r,i+1,j=>by
   unfold dq
   rw [Ń,Ń,nu]
   congr 1;funext d;congr 3;omega
theorem kc:∀ {l:List D} {j:Int},(dq j l).length=l.length
 | [],_=>by unfold dq;rfl
 | a :: r,j=>by unfold dq;rw [Ε,Ε,kc]
theorem vI {es:List Ο} {k:Nat} {tp:ϥ} (hc:X.calm=true) (hx:Blt X "enumerate" (.type "enumerate")) (ha:LE X ea a) (he:Ξ [ea] X.env=(false,eval ea X.env) :: Ξ [] X.env):LI X (.Tuple es k tp) (.Call (.Name "enumerate" p) [ea] [] pos) (.it .enum (.cons a .nil)):=fun z I nb=>
 aH (Q:=fun v s1=>Α X.M X.A (DY v) (FI X z (.Tuple es k tp) (X.ev false (.it .enum (.cons a .nil)) z.t)) NoE s1) (.inr ⟨_,rfl⟩) hx he rfl I (Θ ((ha false).go .refl I (ev1 fun l s=>Out.of s ((itD .enum l).map D.lst)) nb fun z1 x u y1 x1 I1 r1 e1=>Τ (by
  cases x with
  | lst l=>
    obtain ⟨a0,o,vs,rfl,g,⟨⟨n,rfl⟩,hz⟩,r⟩:=r1.rd
    have hlt:=ϛ (I1.gh _ _ g)
    refine call_enumerate_1 (I1.gh _ _ g) fun h' g1 g2 hsz kp=>wpAny_pyIter_enum g1 (fH (ds:=dq 0 l) x1 I1 (s2:={ z1.s with heap:=h' }) (.hp (t:=z1.s.toks) kp) (Itr.walksT (I1.hd hc) (by rw [kc];simp [r.len]) (fun A hA=>mS (Draws.list (A:=A.in1) hA z1.s.heap.objs.size a0 (ϯ hlt) vs.toArray) (z1.s.heap.objs.size+1) (Hh _) (nin _ 1 0 _ (by decide) hlt) ι) (fun i h st b hb=>?_) (fun _ _ _ m=>m.2) fun i vals d p1 p2=>?_) ⟨⟨_,g1⟩,g2,⟨_,kp _ _ (I1.gh _ _ g),rfl,n,rfl⟩⟩ (fun b hb=>?_) e1)
    ·obtain ⟨⟨old,e1⟩,⟨o2,e2,_⟩,_⟩:=st
     rcases υ.mp hb with w | w
     ·rw [w];exact ⟨_,e1⟩
     ·rw [ε.mp w];exact ⟨o2,e2⟩
    ·obtain ⟨t,v,p3,rfl⟩:=p1
     rw [nu,τ] at p2
     obtain ⟨d',p4,rfl⟩:=p2
     refine ⟨by simp [í],_,rfl,fun ρ' G' h1 h2=>?_⟩
     obtain ⟨v',w1,w2⟩:=(r.mono h1 h2).get p4
     rw [show vs[i]? = some v by simpa using p3] at w1;cases w1
     exact .cons ⟨t,by rw [FJ]⟩ (.cons w2 rfl)
    ·rcases υ.mp hb with w | w
     ·rw [w];exact .inl ⟨rP (ö _),_,g1⟩
     ·rcases υ.mp w with w | w
      ·obtain ⟨o2,e2,_⟩:=g2
       rw [w];exact .inl ⟨aG z1,_,e2⟩
      ·rw [ε.mp w]
       refine .inr ⟨fun m=>?_,_,g⟩
       rcases υ.mp m with q | q
       ·exact ϯ (H4 hlt) q
       ·exact ϯ hlt (ε.mp q)
  | _=>exact ZX e1 nb)))
end
def ir (env:ż):List (θ×χ)→List (θ×φ)→List (θ×φ)
 | [],cs=>cs
 | y :: r,cs=>ir env r (if (y.2 == Ï)=true then (match env.cells.lookup y.1 with | some a=>(y.1,a) :: cs | none=>cs) else cs)
theorem cC :∀ {l:List (θ×β)} {p:θ×β},p∈l→∃ c,l.lookup p.1=some c
 | [],_,h=>nomatch h
 | (a,b) :: r,p,h=>by
   cases e:p.1 == a with
   | true=>exact ⟨b,by simp only [ĕ,e]⟩
   | false=>
     rcases υ.mp h with q | q
     ·subst q;simp at e
     ·obtain ⟨c,hc⟩:=cC q
      exact ⟨c,by simp only [ĕ,e];exact hc⟩
theorem j9 :∀ {ns} {cs} {p:θ×φ},p∈ir env ns cs→p∈cs∨env.cells.lookup p.1=some p.2
 | [],_,_,h=>.inl h
 | y :: r,cs,p,h=>by
   rcases j9 (ns:=r) h with q | q
   ·by_cases hk:(y.2 == Ï)=true
    ·rw [ZZ hk] at q
     cases e:env.cells.lookup y.1 with
     | none=>rw [e] at q;exact .inl q
     | some a=>
       rw [e] at q
       rcases υ.mp q with rfl | q
       ·exact .inr e
       ·exact .inl q
    ·rw [ZY hk] at q;exact .inl q
   ·exact .inr q
theorem iL :∀ {ns} {cs} {p:θ×φ},p∈cs→p∈ir env ns cs
 | [],_,_,h=>h
 | y :: r,cs,p,h=>by
   refine iL (ns:=r) ?_
   by_cases hk:(y.2 == Ï)=true
   ·rw [ZZ hk]
    cases e:env.cells.lookup y.1 with
    | none=>exact h
    | some a=>exact ν _ h
   ·rw [ZY hk];exact h
theorem gx :∀ {ns} {cs} {y:θ×χ} {c},y∈ns→y.2 = .free→env.cells.lookup y.1=some c→(y.1,c)∈ir env ns cs
 | z :: r,cs,y,c,h,hf,hc=>by
   rcases υ.mp h with rfl | h
   ·refine iL (ns:=r) ?_
    rw [ZZ (by rw [hf];rfl),hc]
    exact ι
   ·exact gx (ns:=r) h hf hc
theorem dW
 (hf:∀ y cs,f y cs=if (y.2 == Ï)=true then (do let a ← cellOf env y.1;pure (ϴ ((y.1,a) :: cs))) else pure (ϴ cs)) :
 ∀ (ns) (cs),(∀ y∈ns,y.2 = .free→∃ c,env.cells.lookup y.1=some c)→(forIn ns cs f:E0 _)=pure (ir env ns cs)
 | [],cs,_=>rfl
 | y :: r,cs,h=>by
   rw [E9,hf]
   by_cases hk:(y.2 == Ï)=true
   ·obtain ⟨c,hc⟩:=h y ι (by simpa using hk)
    have e1:cellOf env y.1=pure c:=by unfold cellOf;rw [hc]
    rw [ZZ hk,e1]
    have ih:=dW hf r ((y.1,c) :: cs) fun z hz=>h z (ν _ hz)
    show (forIn r ((y.1,c) :: cs) f:E0 _)=pure (ir env r _)
    rw [ih,ZZ hk,hc]
   ·have ih:=dW hf r cs fun z hz=>h z (ν _ hz)
    rw [ZY hk]
    show (forIn r cs f:E0 _)=pure (ir env r _)
    rw [ih,ZY hk]
theorem lQ (h:∀ y∈sc.names,y.2 = .free→∃ c,env.cells.lookup y.1=some c):HC sc env=pure (ir env sc.names []):=by
 simp only [HC]
 rw [dW (env:=env) (fun y cs=>by obtain ⟨n,kd⟩:=y;by_cases hk:(kd == Ï)=true <;> simp [hk]) sc.names [] h]
 rfl
def cxC (X:Cx) (N:List θ) (sc:Ą) (C:φ):Cx:={ X with N:=N,env:=compEnvC sc (ir X.env sc.names []) C X.env }
def iZ (sc:Ą) (env:ż) (p:θ×θ):Bool:=match (relabel sc env).names.lookup p.1 with
 | some .local=>false
 | some .cell=>p.1 == p.2
 | some .free=>p.1 == p.2
 | _=>true
structure Lcn (X:Cx) (sc:Ą) (k:Nat) (N:List θ):Prop where
 nocell:∀ y∈sc.names,y.2≠.cell
 kind:sc.kind = .function
 names:∀ y∈sc.names,y.2 = .local→sc.names.lookup y.1=some .local
 fr:∀ y∈sc.names,y.2 = .free→X.env.kindOf y.1=some .cell∨X.env.kindOf y.1=some .free
 len:N.length=k+X.N.length
 old:((N.drop k).zip X.N).all (iZ sc X.env)=true
theorem BA (h1:(sc.names.all fun y=>y.2 != .cell)=true) (h2:sc.kind = .function) (h3:(sc.names.all fun y=>y.2 != .local || sc.names.lookup y.1 == some .local)=true)
 (h4:(sc.names.all fun y=>y.2 != .free || (X.env.kindOf y.1 == some .cell || X.env.kindOf y.1 == some .free))=true) (h5:N.length=k+X.N.length) (h6:((N.drop k).zip X.N).all (iZ sc X.env)=true):Lcn X sc k N where
 nocell:=fun y hy=>by have:=Λ.mp h1 y hy;simpa using this
 kind:=h2
 names:=fun y hy hl=>by have:=Λ.mp h3 y hy;simpa [hl] using this
 fr:=fun y hy hl=>by have:=Λ.mp h4 y hy;simpa [hl] using this
 len:=h5
 old:=h6
section
variable {X:Cx} {sc:Ą} {k:Nat} {N:List θ} {z z' z0 z1:Z} {C:φ}
theorem Lcn.cells (L:Lcn X sc k N) (ok:COk X):∀ y∈sc.names,y.2 = .free→∃ c,X.env.cells.lookup y.1=some c:=fun y hy hf=>ok.ch y.1 (L.fr y hy hf)
theorem ka (e:(ir X.env sc.names []).lookup x=some c):X.env.cells.lookup x=some c:=by
 rcases j9 (Î e) with q | q
 ·exact nomatch q
 ·exact q
theorem cg (L:Lcn X sc k N) (e:(relabel sc X.env).names.lookup x=some kd) (hk:kd = .cell∨kd = .free):(x,Ï)∈sc.names:=by
 have hm:=Î e
 obtain ⟨⟨n,k'⟩,hy,q⟩:=Ú.mp hm
 dsimp only at q
 by_cases hc:(k' == Ï && X.env.scope.kind == .function && X.env.kindOf n == some .cell)=true
 ·rw [ZZ hc] at q
  have e1:n=x:=ZS ţ q
  have e2:k' = .free:=by simp at hc;exact hc.1.1
  subst e1 e2
  exact hy
 ·rw [ZY hc] at q
  have e1:n=x:=ZS ţ q
  have e2:k'=kd:=ZS FN q
  subst e1 e2
  rcases hk with rfl | rfl
  ·exact ZX rfl (L.nocell _ hy)
  ·exact hy
theorem pN (L:Lcn X sc k N) (hi:N[i]? = some x) (hk:k≤i) (v:Vis (relabel sc X.env) x):X.N[i - k]? = some x∧(x,Ï)∈sc.names:=by
 have hlt:i<N.length:=(κ.mp hi).1
 have hl:=L.len
 have h2:i - k<X.N.length:=by omega
 have e1:(N.drop k)[i - k]? = some x:=by rw [Gu];rw [show k+(i - k)=i by omega];exact hi
 have e2:X.N[i - k]? = some X.N[i - k]:=Μ h2
 have hz:((N.drop k).zip X.N)[i - k]? = some (x,X.N[i - k]):=by rw [ı];exact ⟨e1,e2⟩
 have ho:=Λ.mp L.old _ (Ρ hz)
 have v':(relabel sc X.env).names.lookup x=some .local∨(relabel sc X.env).names.lookup x=some .cell∨(relabel sc X.env).names.lookup x=some .free:=v
 unfold iZ at ho
 rcases v' with q | q | q
 ·simp only [q] at ho;cases ho
 ·simp only [q] at ho
  have e3:x=X.N[i - k]:=by simpa using ho
  exact ⟨by rw [e2,← e3],cg L q (.inl rfl)⟩
 ·simp only [q] at ho
  have e3:x=X.N[i - k]:=by simpa using ho
  exact ⟨by rw [e2,← e3],cg L q (.inr rfl)⟩
theorem HR.cx (I:HR X z):HR (cxC X N sc C) z:=⟨I.md,I.fm,I.hd,I.bs,I.gh,I.rl,I.rn,I.rg,I.ob,I.fu,I.ff,I.br,I.os,I.tk⟩
theorem HR.out (I:HR (cxC X N sc C) z):HR X z:=⟨I.md,I.fm,I.hd,I.bs,I.gh,I.rl,I.rn,I.rg,I.ob,I.fu,I.ff,I.br,I.os,I.tk⟩
theorem xh (h:Lc (cxC X N sc C) a):a=C∨Lc X a:=h.imp_right fun ⟨x,e⟩=>.inr ⟨x,ka e⟩
theorem sy {s':ς} {m:θ→Option η} (L:Lcn X sc k N) (I:Rep X z) (ow:z.t.ow = []) (g:Gr z.s s') (hC:z.h C=none) (hn:s'.heap.Ns C m) (tk:X.tz≤s'.toks:=by first | assumption | exact HR.tk (by assumption) | exact HR.tk1 (by assumption) | exact (Rep.toHR (by assumption)).tk | exact (Rep.toHR (by assumption)).tk1 | exact Ϡ (by assumption)):Rep (cxC X N sc C) ⟨z.ρ,z.G,⟨ξ k none ++ z.t.env,[],z.t.st⟩,ξ k none ++ z.σ,s'⟩:=by
 have H:=(I.toHR.grow (ao I.gh g) tk).cx (N:=N) (sc:=sc) (C:=C)
 have ck:∀ {c:φ} {v:Option η},z.s.heap.IsCell c v→s'.heap.IsCell c v:=fun ⟨o,e,d⟩=>⟨o,g.k _ o e,d⟩
 have fC:=I.fre hC
 refine ⟨⟨H.md,H.fm,H.hd,H.bs,H.gh,H.rl,H.rn,H.rg,H.ob,H.fu,H.ff,H.br,H.os,H.tk⟩,⟨I.ok.un,L.kind,I.ok.gl,I.ok.bl,fun x y c h1 h2=>I.ok.ci x y c (ka h1) (ka h2),fun x hx=>?_⟩,⟨m,hn,fun i x v h1 h2 h3=>?_⟩,fun x c e=>let ⟨v,q⟩:=I.ce x c (ka e);⟨v,ck q⟩,fun a l=>?_,by show (ξ k none ++ z.t.env).length=(ξ k none ++ z.σ).length;rw [Δ,Δ,I.el];simp,by show (ξ k none ++ z.σ).length=N.length;rw [Δ,Å,L.len,I.sl],fun i d _ e=>?_,(fun i m=>nomatch m),(fun i j a m=>nomatch m)⟩
 ·have hx':(relabel sc X.env).names.lookup x=some .cell∨(relabel sc X.env).names.lookup x=some .free:=hx
  have hm:(x,Ï)∈sc.names:=by
   rcases hx' with q | q
   ·exact cg L q (.inl rfl)
   ·exact cg L q (.inr rfl)
  obtain ⟨c,hc⟩:=L.cells I.ok _ hm rfl
  exact cC (gx hm rfl hc)
 ·have hki:k≤i:=by
   by_cases q:i<k
   ·rw [ϓ (by simpa using q),Ă,ZZ q] at h2
    cases h2
   ·omega
  rw [ϋ (by simpa using hki),Å] at h2
  obtain ⟨hx,hm⟩:=pN L h1 hki h3
  have hkx:=L.fr _ hm rfl
  have hvis:Vis X.env.scope x:=by
   rcases hkx with q | q
   ·exact .inr (.inl q)
   ·exact .inr (.inr q)
  obtain ⟨m0,_,hl⟩:=I.lo
  rcases hl (i - k) x v hx h2 hvis with ⟨q,_⟩ | ⟨_,c,hc,hcell⟩
  ·rcases hkx with z | z
   ·rw [show X.env.kindOf x=some .cell from z] at q;cases q
   ·rw [show X.env.kindOf x=some .free from z] at q;cases q
  ·obtain ⟨c',hc'⟩:=cC (gx hm rfl hc)
   have e:=ka hc'
   rw [hc] at e;cases e
   refine .inr ⟨?_,c,hc',ck hcell⟩
   have v':(relabel sc X.env).names.lookup x=some .local∨(relabel sc X.env).names.lookup x=some .cell∨(relabel sc X.env).names.lookup x=some .free:=h3
   rcases v' with z | z | z
   ·exfalso
    have hlt:i<N.length:=(κ.mp h1).1
    have hl':=L.len
    have h2':i - k<X.N.length:=by omega
    have hz:((N.drop k).zip X.N)[i - k]? = some (x,X.N[i - k]):=by
     rw [ı]
     exact ⟨by rw [Gu,show k+(i - k)=i by omega];exact h1,Μ h2'⟩
    have ho:=Λ.mp L.old _ (Ρ hz)
    unfold iZ at ho
    simp only [z] at ho
    cases ho
   ·exact .inl z
   ·exact .inr z
 ·rcases xh l with rfl | l
  ·exact ⟨fC.1.1,fC.1.2.1⟩
  ·exact I.fl a l
 ·have hki:k≤i:=by
   by_cases q:i<k
   ·have e:(ξ k none ++ z.t.env)[i]? = some (some d):=e
    rw [ϓ (by simpa using q),Ă,ZZ q] at e
    cases e
   ·omega
  have e:(ξ k none ++ z.t.env)[i]? = some (some d):=e
  rw [ϋ (by simpa using hki),Å] at e
  obtain ⟨u,e1,r⟩:=I.en (i - k) d (by rw [ow];exact nofun) e
  exact ⟨u,by show (ξ k none ++ z.σ)[i]? = _;rw [ϋ (by simpa using hki),Å];exact e1,r⟩
theorem sq {zr:Z} (I:Rep X z) (Ir:Rep X zr) (er:zr.t.env=z.t.env∧zr.σ=z.σ∧zr.t.ow = []) (S:Stp X.fr (Own z) z z') (H:HR X z') (pr:zr.ρ <+: z'.ρ) (gg:Sub zr.G z'.G):Rep X { z' with t:=⟨z.t.env,[],z'.t.st⟩,σ:=z.σ }:=by
 have sl:∀ b o,z.h b=some o→¬ Mu z.ρ b→¬ Own z b→∃ sl,z'.s.heap.get? b=some { o with slots:=sl }:=fun b o e n w=>by
  by_cases f:b∈frs X.fr
  ·exact S.sl b o e n w f
  ·exact ⟨o.slots,S.sm b o e n w f⟩
 have nO:∀ {a},Lc X a→¬ Own z a:=fun l w=>(I.oth w).1.2.2.2 l
 have ck:∀ x c v,X.env.cells.lookup x=some c→z.s.heap.IsCell c v→z'.s.heap.IsCell c v:=fun x c v e ⟨o,q,d⟩=>by
  have l:Lc X c:=.inr ⟨x,e⟩
  obtain ⟨s,q2⟩:=sl c o q (I.fl c l).2 (nO l)
  exact ⟨_,q2,d⟩
 refine ⟨⟨H.md,H.fm,H.hd,H.bs,H.gh,H.rl,H.rn,H.rg,H.ob,H.fu,H.ff,H.br,H.os,H.tk⟩,I.ok,?_,fun x c e=>let ⟨v,q⟩:=I.ce x c e;⟨v,ck x c v e q⟩,fun a l=>⟨?_,fun m=>(S.rn a m).elim (I.fl a l).2 fun w=>?_⟩,I.el,I.sl,fun i d _ e=>?_,(fun i m=>nomatch m),(fun i j a m=>nomatch m)⟩
 ·obtain ⟨m,⟨oL,es,ep,q,r⟩,hl⟩:=I.lo
  have l:Lc X X.env.locals:=.inl rfl
  obtain ⟨s,q2⟩:=sl _ _ q (I.fl _ l).2 (nO l)
  exact ⟨m,⟨_,es,ep,q2,r⟩,fun j x w e1 e2 e3=>dz (fun c v e q=>ck x c v e q) (hl j x w e1 e2 e3)⟩
 ·cases q:z'.G a with
  | none=>rfl
  | some o=>
    obtain ⟨o1,e1⟩:=I.lth l
    rcases S.gn a o q with w | w | w
    ·rw [(I.fl a l).1] at w;cases w
    ·rw [w] at e1;cases e1
    ·exact ZX w (nO l)
 ·obtain ⟨o1,e1⟩:=I.lth l
  rw [w] at e1;cases e1
 ·obtain ⟨u,e1,r⟩:=Ir.en i d (by rw [er.2.2];exact nofun) (by rw [er.1];exact e)
  exact ⟨u,er.2.1 ▸ e1,r.mono pr gg⟩
def LTs (Y:Cx) (ifs:List Ο) (c:E):Prop:=Jg Y (forIn ifs true fun c r=>if r=true then do let ok ← Fw c Y.env (eval c Y.env);pure (ϴ ok) else pure (ϴ r)) (fun t=>(Y.ev true c t).bind toB) RT
theorem v7:LTs X [] (.c (.bl true)):=fun z I nb=>wpAny_tests_nil ⟨z,true,rfl,rfl,.refl,I,rfl⟩
theorem v8 (h:LT X e c):LTs X [e] c:=fun z I nb=>wpAny_tests_one (h z I nb)
def lcF (X:Cx) (t:List Nat) (one:Bool) (elt cond:E) (d:D) (s':Sta):Out (Option D):=match aN t one d s'.env with
 | some env=>(X.ev true cond ⟨env,[],s'.st⟩).bind fun b s2=>(match b with
   | .bl true=>(X.ev false elt s2).bind fun e s3=>.ok (some e) ⟨s3.env,[],s3.st⟩
   | .bl false=>.ok none ⟨s2.env,[],s2.st⟩
   | _=>.bad)
 | none=>.bad
theorem Ee.nil (x:Ee X z z') (h:z.t.ow = []):z'.t.ow = []∧Stp X.fr (fun _=>False) z z':=⟨List.eq_nil_iff_forall_not_mem.mpr (fun i m=>by have:=x.ow i m;rw [h] at this;exact nomatch this),x.st.mono fun a ⟨i,m,_⟩=>by rw [h] at m;exact nomatch m⟩
theorem pv {t:Sta} (h:t.ow = []):(⟨t.env,[],t.st⟩:Sta)=t:=by cases t;cases h;rfl
end
structure Wr (S ch:List φ) (h h':ϻ):Prop where
 keep:∀ b o,h.get? b=some o→b ∉ S→b ∉ ch→h'.get? b=some o
 slot:∀ b o,h.get? b=some o→b ∉ ch→∃ sl,h'.get? b=some { o with slots:=sl }
 there:∀ b o,h.get? b=some o→∃ o',h'.get? b=some o'
section
variable {S ch ch':List φ} {h h1 h2 h':ϻ}
theorem Wr.trans (x:Wr S ch h h1) (y:Wr S ch h1 h2):Wr S ch h h2:=
 ⟨fun b o e n m=>y.keep b o (x.keep b o e n m) n m,fun b o e m=>let ⟨_,e1⟩:=x.slot b o e m;let ⟨sl,e2⟩:=y.slot b _ e1 m;⟨sl,e2⟩,fun b o e=>let ⟨_,e1⟩:=x.there b o e;y.there b _ e1⟩
theorem Wr.mono (x:Wr S ch h h') (k:∀ b∈ch,b∈ch'):Wr S ch' h h':=⟨fun b o e n m=>x.keep b o e n fun z=>m (k b z),fun b o e m=>x.slot b o e fun z=>m (k b z),x.there⟩
theorem Wr.kept (k:∀ b o,h.get? b=some o→h'.get? b=some o):Wr S ch h h':=⟨fun b o e _ _=>k b o e,fun b o e _=>⟨o.slots,k b o e⟩,fun b o e=>⟨o,k b o e⟩⟩
theorem Wr.set (ho:h.get? a=some o) (hd:o.data = .fields vs) (g:Array η→Array η):Wr S [a] h (h.update a (ę g)):=by
 have ot:∀ b,b≠a→(h.update a (ę g)).get? b=h.get? b:=fun b n=>ϲ h _ fun z=>n z.symm
 have nm:∀ b,b ∉ [a]→b≠a:=fun b m z=>m (by rw [z];exact ι)
 refine ⟨fun b u e _ m=>by rw [ot b (nm b m)];exact e,fun b u e m=>⟨u.slots,by rw [ot b (nm b m)];exact e⟩,fun b u e=>?_⟩
 by_cases z:b=a
 ·subst z
  exact ⟨_,Æ _ ho (Ĕ (į hd g))⟩
 ·exact ⟨u,by rw [ot b z];exact e⟩
theorem Wr.slots (x:Heap.SlotsOnly S h h'):Wr S ch h h':=⟨fun b o e n _=>(x.2.1 b n).trans e,fun b o e _=>x.2.2 b o e,fun b o e=>let ⟨_,q⟩:=x.2.2 b o e;⟨_,q⟩⟩
end
theorem gy (g:Array η→Array η) (o):(ę g o).dict=o.dict:=by
 obtain ⟨c,d,dt,sl⟩:=o
 cases dt <;> rfl
section
variable {M:Fe} {A:ϙ} {E:η→ς→Prop} {s:ς} {a T L:φ} {cls fl:η} {dx:Option φ} {Q:Unit→ς→Prop} {base:ϻ} {env:ż} {outer:List ż} {S:List φ}
theorem mI (t:Tr s.heap a cls dx T fl) (hQ:∀ h',Tr h' a cls dx T (fr.elim .none fun f=>Ã f)→Wr S [T] s.heap h'→Q () { s with heap:=h' }):Α M A (Gg (.ref a) fr) Q E s:=by
 obtain ⟨oe,vs,oT,ts,he,hc,hd,h1,ne,hT,hdT,h3⟩:=t
 have z3:=(ò.mp h3).1
 unfold Gg
 refine ζ (È he hd h1 ?_)
 rw [ZZ (show (Ç T != Ϣ)=true by simp)]
 refine ž hT hdT z3 (hQ _ ?_ (Wr.set hT hdT _))
 have dT:=į hdT (·.setIfInBounds 3 (fr.elim Ϣ fun f=>Ã f))
 exact ⟨oe,vs,_,_,(ϲ _ _ ne).trans he,hc,hd,h1,ne,Æ _ hT (Ĕ dT),dT,by simp [z3]⟩
theorem entry (hfr:A.frames=some (env :: outer)) (hl:s.heap.FunFrames base (env :: outer)) (hf:env.frame=some L) (he:s.heap.get? a=some oe) (hd:oe.data = .fields vs) (hz:1<vs.size)
 (hQ:∀ h' T,s.heap.get? T=none→Tr h' a oe.cls oe.dict T (Ã L)→Wr (frs (env :: outer)) [a] s.heap h'→Q () { s with heap:=h' }) :
 Α M A (do let x ← frameOf env;let pl ← entryPlaceOf L hn;let b ← ET head x .none (Ã L) .none pl;setField (.ref a) 1 b) Q E s:=by
 have na:a ∉ (env :: outer).filterMap (·.frame):=fun m=>by
  obtain ⟨_,o,ho,nf⟩:=hl.mem m
  rw [he] at ho
  cases ho
  exact nf vs hd
 refine ζ (wpAny_frameOf_fun hfr hl hf fun g hg=>ζ (wpAny_entryPlaceOf fun pl hp=>?_))
 unfold ET newFields;refine ζ (ø ?_ (IsPlace.sizeOk5 hp _ _ _ _ _))
 have ea:g.get? a=some oe:=(hg.2.1 a na).trans he
 generalize hu:([head,Ç L,Ϣ,Ã L,Ϣ] ++ (if pl.isEmpty then ξ 6 Ϣ else pl)).toArray=us
 have u3:us[3]? = some (Ã L):=by rw [← hu];rfl
 have ea2:=Ζ (h:=g) { cls:=.type "traceback",dict:=none,data:=.fields us } ea
 have nT:g.objs.size≠a:=Û (ϛ ea)
 refine ž ea2 hd hz (hQ _ g.objs.size ?_ ?_ ?_)
 ·rw [hg.1];exact Ϙ (Ϗ _)
 ·have da:=į hd (·.setIfInBounds 1 (Ç g.objs.size))
  exact ⟨_,_,_,us,Æ _ ea2 (Ĕ da),⟨H3 _ _,gy _ _⟩,da,by simp [hz],nT,(ϲ _ _ (ϳ nT)).trans (ψ g rfl),rfl,u3⟩
 ·exact (Wr.slots (ch:=[a]) hg).trans ((Wr.kept fun b o e=>Ζ _ e).trans (Wr.set ea2 hd _))
theorem tC (hfr:A.frames=some (env :: outer)) (hl:s.heap.FunFrames base (env :: outer)) (hf:env.frame=some L) (x:Rw s.heap a cls dx)
 (hQ:∀ h' T,s.heap.get? T=none→Tr h' a cls dx T (Ã L)→Wr (frs (env :: outer)) [a] s.heap h'→Q () { s with heap:=h' }):Α M A (ü (.ref a) env) Q E s:=by
 obtain ⟨oe,vs,he,⟨rfl,rfl⟩,hd,h1⟩:=x
 unfold ü
 simp only [hf]
 refine ζ (È he hd h1 ?_)
 rw [ZY (by decide)]
 exact entry hfr hl hf he hd (ò.mp h1).1 hQ
theorem qD (hfr:A.frames=some (env :: outer)) (hl:s.heap.FunFrames base (env :: outer)) (hf:env.frame=some L) (x:Tr s.heap a cls dx T .none)
 (hQ:∀ h' T',s.heap.get? T'=none→Tr h' a cls dx T' (Ã L)→Wr (frs (env :: outer)) [a,T] s.heap h'→Q () { s with heap:=h' }):Α M A (ü (.ref a) env) Q E s:=by
 obtain ⟨oe,vs,oT,ts,he,⟨rfl,rfl⟩,hd,h1,ne,hT,hdT,h3⟩:=x
 unfold ü
 simp only [hf]
 refine ζ (È he hd h1 ?_)
 rw [ZZ (show (Ç T != Ϣ)=true by simp)]
 refine ζ (È hT hdT h3 ?_)
 rw [ZY (show ¬ ((Ϣ == Ã L)=true) by simp [Ã])]
 refine ζ (ž hT hdT (ò.mp h3).1 ?_)
 have w1:Wr (frs (env :: outer)) [T] s.heap _:=Wr.set hT hdT (·.setIfInBounds 3 Ϣ)
 refine entry hfr (hl.of_keeps fun b o e nf=>⟨o,?_,rfl⟩) hf ((ϲ _ _ ne).trans he) hd (ò.mp h1).1 fun h' T' n t w=>hQ h' T' ?_ t ((w1.mono (by simp)).trans (w.mono (by simp)))
 ·refine (ϲ _ _ fun z=>?_).trans e
  subst z
  rw [hT] at e
  cases e
  exact nf ts hdT
 ·cases q:s.heap.get? T' with
  | none=>rfl
  | some o=>
    obtain ⟨o',e'⟩:=w1.there T' o q
    rw [n] at e'
    cases e'
theorem qC (hf:env.frame=some L) (x:Tr s.heap a cls dx T (Ã L)) (hQ:Q () s):Α M A (ü (.ref a) env) Q E s:=by
 obtain ⟨oe,vs,oT,ts,he,⟨rfl,rfl⟩,hd,h1,ne,hT,hdT,h3⟩:=x
 unfold ü
 simp only [hf]
 refine ζ (È he hd h1 ?_)
 rw [ZZ (show (Ç T != Ϣ)=true by simp)]
 refine ζ (È hT hdT h3 ?_)
 rw [ZZ (show (Ã L == Ã L)=true by simp)]
 exact π hQ
end
section
variable {X:Cx} {z z' z0 z1:Z} {M:Fe} {w:φ→Prop}
theorem rN {h h':ϻ}:∀ {l:List ż},h.FunFrames base l→(∀ b∈frs l,∀ o,h.get? b=some o→∃ sl,h'.get? b=some { o with slots:=sl })→h'.FunFrames base l
 | [],_,_=>trivial
 | v :: r,⟨a,⟨L,o,e1,e2,e3,e4⟩,q⟩,k=>by
   have hm:L∈frs (v :: r):=by unfold frs;rw [Ϧ,e1];exact ι
   obtain ⟨sl,e5⟩:=k L hm o e3
   exact ⟨a,⟨L,_,e1,e2,e5,e4⟩,rN q fun b hb=>k b (by unfold frs;rw [Ϧ,e1];exact ν _ hb)⟩
theorem Rep.wr {h':ϻ} {ch:List φ} {t:Nat} (I:Rep X z) (y:Wr (frs X.fr) ch z.s.heap h') (hc:∀ b∈ch,Fre X z b∧¬ Own z b) (tk:X.tz≤t:=by first | assumption | exact HR.tk (by assumption) | exact HR.tk1 (by assumption) | exact (Rep.toHR (by assumption)).tk | exact (Rep.toHR (by assumption)).tk1 | exact Ϡ (by assumption)):Rep X { z with s:={ z.s with heap:=h',toks:=t } }:=by
 have nG:∀ {b o},z.G b=some o→z.h b=some o→h'.get? b=some o:=fun e e'=>y.keep _ _ e' (fun m=>by rw [(I.ff _ m).1] at e;cases e) fun m=>by rw [(hc _ m).1.1] at e;cases e
 have sl:∀ b,Lc X b→∀ o,z.s.heap.get? b=some o→∃ sl,h'.get? b=some { o with slots:=sl }:=fun b l o e=>y.slot b o e fun m=>(hc b m).1.2.2.2 l
 have ck:∀ x c v,X.env.cells.lookup x=some c→z.s.heap.IsCell c v→h'.IsCell c v:=fun x c v e ⟨o,q,d⟩=>let ⟨_,q2⟩:=sl c (.inr ⟨x,e⟩) o q;⟨_,q2,d⟩
 refine ⟨⟨I.md,I.fm,I.hd,I.bs,fun b o e=>nG e (I.gh b o e),I.rl,I.rn,I.rg,fun n o p h1 h2=>(I.ob n o p h1 h2).mono (μ _) (.refl _) fun b hb o e=>?_,rN I.fu fun b hb o e=>y.slot b o e fun m=>(hc b m).1.2.2.1 hb,I.ff,I.br,I.os,tk⟩,I.ok,?_,fun x c e=>let ⟨v,q⟩:=I.ce x c e;⟨v,ck x c v e q⟩,I.fl,I.el,I.sl,I.en,fun i m=>?_,I.od⟩
 ·have mu:Mu z.ρ b:=⟨p,Ρ h2,hb⟩
  exact y.keep b o e (fun m=>(I.ff b m).2 mu) fun m=>(hc b m).1.2.1 mu
 ·obtain ⟨m,⟨oL,es,ep,q,r⟩,hl⟩:=I.lo
  obtain ⟨_,q2⟩:=sl _ (.inl rfl) _ q
  exact ⟨m,⟨_,es,ep,q2,r⟩,fun j x w e1 e2 e3=>dz (fun c v e q=>ck x c v e q) (hl j x w e1 e2 e3)⟩
 ·obtain ⟨d,a,o,h1,h2,h3,r,f⟩:=I.eo i m
  exact ⟨d,a,o,h1,h2,h3,r.mono (μ _) (.refl _) fun b hb o e=>y.keep b o e (by rcases hb with rfl | rfl <;> exact f.2.2.1) fun mm=>(hc b mm).2 (by rcases hb with rfl | rfl <;> exact ⟨i,m,h2⟩),f⟩
theorem Stp.wr {h':ϻ} {ch:List φ} {t:Nat} (x:Stp fr w z0 z) (y:Wr (frs fr) ch z.s.heap h') (hc:∀ b∈ch,z0.h b=none):Stp fr w z0 { z with s:={ z.s with heap:=h',toks:=t } }:=by
 have nc:∀ {b o},z0.h b=some o→b ∉ ch:=fun e m=>by rw [hc _ m] at e;cases e
 refine ⟨x.pr,x.gg,x.gn,x.rn,fun a o e=>let ⟨o',e'⟩:=x.th a o e;y.there a o' e',fun a o e n m f=>y.keep a o (x.sm a o e n m f) f (nc e),fun a o e n m f=>?_⟩
 obtain ⟨sl,e1⟩:=x.sl a o e n m f
 obtain ⟨sl2,e2⟩:=y.slot a _ e1 (nc e)
 exact ⟨sl2,e2⟩
structure dL (X:Cx):Prop where
 fr:∃ e0 outer,X.fr=e0 :: outer∧e0.frame=X.env.frame
 frame:∃ L,X.env.frame=some L
theorem wf {c d:ż} (h:c.frame=d.frame) (e:η):ü e c=ü e d:=by unfold ü PySem.frameOf;rw [h]
inductive XN (X:Cx) (w:φ→Prop) (z z':Z) (c:Nat) (l:List D) (e:η) (fl:η):Prop
 | mk (a:_) (T:_) (cls:_) (dx:_) (_:e = .ref a) (_:Stp X.fr w z z') (_:Rep X z') (_:XR X.W z' c l cls dx) (_:Nob X z z' a) (_:Tr z'.s.heap a cls dx T fl) (_:Nob X z z' T)
theorem XN.wr {h':ϻ} {ch:List φ} {a T:φ} {fl:η} (x:Stp X.fr w z z') (I:Rep X z') (r:XR X.W z' c l cls dx) (na:Nob X z z' a) (nT:Nob X z z' T) (y:Wr (frs X.fr) ch z'.s.heap h') (hc:∀ b∈ch,Nob X z z' b) (t:Tr h' a cls dx T fl):XN X w z { z' with s:={ z'.s with heap:=h' } } c l (.ref a) fl:=
 ⟨a,T,cls,dx,rfl,x.wr (t:=z'.s.toks) y fun b hb=>(hc b hb).1,I.wr (t:=z'.s.toks) y fun b hb=>(hc b hb).2,r,na,t,nT⟩
theorem eQ {Q:Unit→ς→Prop} {E:η→ς→Prop} (F:dL X) (x:Stp X.fr w z z') (I:Rep X z') (h:XO X z z' c l e) (hQ:∀ L h',X.env.frame=some L→XN X w z { z' with s:={ z'.s with heap:=h' } } c l e (Ã L)→Q () { z'.s with heap:=h' }):Α M X.A (ü e X.env) Q E z'.s:=by
 obtain ⟨e0,outer,hfr,hef⟩:=F.fr
 obtain ⟨L,hL⟩:=F.frame
 have hL0:=hef.trans hL
 rw [wf hef.symm]
 have fm:=I.fm
 have fu:=I.fu
 rw [hfr] at fm fu
 obtain ⟨a,cls,dx,rfl,r,na,t⟩:=h
 have new:∀ T,z'.h T=none→Nob X z z' T:=fun T n=>⟨x.no n,I.fre n⟩
 rcases t with t | ⟨T,fl,t,hfl,nT⟩
 ·refine tC fm fu hL0 t fun h' T n t' y=>hQ L h' hL (.wr x I r na (new T n) (by rw [hfr];exact y) (fun b hb=>?_) t')
  rw [ε.mp hb];exact na
 ·rcases hfl with rfl | ⟨L',hL',rfl⟩
  ·refine qD fm fu hL0 t fun h' T' n t' y=>hQ L h' hL (.wr x I r na (new T' n) (by rw [hfr];exact y) (fun b hb=>?_) t')
   rcases υ.mp hb with q | q
   ·rw [q];exact na
   ·rw [ε.mp q];exact nT
  ·rw [hL] at hL';cases hL'
   exact qC hL0 t (hQ L z'.s.heap hL ⟨a,T,cls,dx,rfl,x,I,r,na,t,nT⟩)
theorem bK {fl:η} {fr:Option φ} {Q:Unit→ς→Prop} {E:η→ς→Prop} {A:ϙ} (h:XN X w z z' c l e fl) (hQ:∀ h',XN X w z { z' with s:={ z'.s with heap:=h' } } c l e (fr.elim .none fun f=>Ã f)→Q () { z'.s with heap:=h' }):Α M A (Gg e fr) Q E z'.s:=by
 obtain ⟨a,T,cls,dx,rfl,x,I,r,na,t,nT⟩:=h
 exact mI (S:=frs X.fr) t fun h' t' y=>hQ h' (.wr x I r na nT y (fun b hb=>by rw [ε.mp hb];exact nT) t')
theorem oY (F:dL X):Io M X.A X.env (PxS X z o):=fun e s' ⟨z',c,l,q,q2,x,I,h⟩=>by
 subst q
 unfold notedBy
 refine eQ F x.st I h fun L h' hL hn=>?_
 obtain ⟨a,T,cls,dx,e1,_,_,_,_,t,_⟩:=id hn
 subst e1
 unfold cameBackBy
 obtain ⟨oe,vs,oT,ts,he,hc,hd,h1,r⟩:=id t
 refine ζ (È he hd h1 ?_)
 rw [ZY (show ¬ ((Ç T == Ϣ)=true) by simp),hL]
 refine bK (z':={ z' with s:={ z'.s with heap:=h' } }) (fr:=some L) hn fun h2 hn2=>?_
 obtain ⟨a',T',cls',dx',e1,x2,I2,r2,na2,t2,nT2⟩:=hn2
 exact ⟨{ z' with s:={ z'.s with heap:=h2 } },c,l,rfl,q2,⟨x2,x.ow⟩,I2,a',cls',dx',e1,r2,na2,.inr ⟨T',_,t2,.inr ⟨L,hL,rfl⟩,nT2⟩⟩
theorem qJ {E:η→ς→Prop} {Q:η→ς→Prop} (F:dL X) (h:PxS X z o e s') (q:∀ z' c l a T cls dx,o = .exc c l z'.t→e = .ref a→Stp X.fr (Pv X z) z z'→Rep X z'→XR X.W z' c l cls dx→Nob X z z' a→Tr z'.s.heap a cls dx T .none→Nob X z z' T→Q e z'.s):Α M X.A (leaving X.env e) (fun _ s''=>Q e s'') E s':=by
 obtain ⟨z',c,l,e1,q2,x,I,h⟩:=h
 subst e1
 unfold leaving
 refine ζ (eQ F x.st I h fun L h' hL hn=>bK (z':={ z' with s:={ z'.s with heap:=h' } }) (fr:=none) hn fun h2 hn2=>?_)
 obtain ⟨a,T,cls,dx,e1,x2,I2,r2,na2,t2,nT2⟩:=hn2
 exact q { z' with s:={ z'.s with heap:=h2 } } c l a T cls dx q2 e1 x2 I2 r2 na2 t2 nT2
end
section
variable {X:Cx} {sc:Ą} {N:List θ} {z z' z0 z1:Z}
def sj (M:Fe) (A:ϙ) (E:η→ς→Prop) (use:Option (η→E0 Unit)) (Q:η→ς→Prop) (acc:η) (C:φ) (fr:Option φ) (r:Result) (s':ς):Prop:=match r with
 | .error x=>∃ m,s'.heap.Ns C m∧∀ h',æ C s'.heap h'→∀ ce:ż,ce.frame=fr→Α M A (passOn "comprehension.variables-let-go" x ce:E0 η) (fun _ _=>False) E { s' with heap:=h' }
 | r=>compPost M A E use Q acc C r s'
theorem xV {M:Fe} {A:ϙ} {E Q:η→ς→Prop} {s:ς} {env:ż} {e:Ο} {scope:Ą} {pos:ϥ} {newAcc first:E0 η} {g:Gd} {gs:List Gd} {cl:List (θ×φ)} {use:Option (η→E0 Unit)}
 (hcl:clausesOf e=g :: gs) (hs:∀ x,Ŏ g.iter env x=pure x) (hclos:HC scope env=pure cl) (hkind:scope.kind = .function) (hnames:∀ x∈scope.names,x.2 = .local→scope.names.lookup x.1=some .local)
 (h:Α M A first (fun x s1=>Α M A (DY x) (fun it s2=>Α M A newAcc (fun acc s3=>Α M A (newFunctionEnv scope env.globals cl [] env.qual none .none (some env)) (fun ce s4=>ĳ M A (.compStart e 0 it acc { ce with scope:=relabel scope env }) (sj M A E use Q acc ce.locals ce.frame) s4) E s3) E s2) E s1) E s) :
 Α M A (comprehension e scope env pos newAcc false first use) Q E s:=by
 have id:∀ (x:η) (s':ς),E x s'→E x s':=fun _ _ y=>y
 unfold comprehension
 rw [hclos,hcl]
 refine ζ (Η h (fun x s1 h1=>ζ (ó ?_)) id)
 refine ζ (EU (hs x) (ζ (ύ (Η h1 (fun it s2 h2=>?_) id))))
 refine wpAny_standIf (ζ (Η h2 (fun acc s3 h3=>?_) id))
 refine ζ (π (ζ (Η h3 (fun ce s4 h4=>?_) id)))
 dsimp only
 generalize hvs:(scope.names.filter fun x=>(x.2 == .local || x.2 == .cell) && x.1 != (".0":θ))=vs
 have hv:∀ x∈vs,x.2 = .local→Env.kindOf { ce with scope:=relabel scope env } x.1=some .local:=fun x m l=>lookup_relabel_local (hnames x (ϔ.mp (hvs ▸ m)).1 l)
 have hr:∀ x∈vs.reverse,x.2 = .local→Env.kindOf { ce with scope:=relabel scope env } x.1=some .local:=fun x m=>hv x (List.mem_reverse.mp m)
 refine ύ (ζ (DS (ύ (wpAny_run (ý h4 fun r s' hq=>?_)))))
 cases r with
 | error x=>
   obtain ⟨m,hn,hq⟩:=hq
   refine ζ (ύ (EJ (cenv:={ ce with scope:=relabel scope env }) hkind _ s' m hr hn fun h' m' _ sb=>?_))
   exact Η (hq h' sb _ rfl) (fun _ _ f=>f.elim) id
 | ok f=>
   cases use with
   | none=>
     obtain ⟨m,hn,hq⟩:=hq
     exact ζ (ύ (EJ (cenv:={ ce with scope:=relabel scope env }) hkind _ s' m hr hn fun h' m' _ sb=>π (hq h' sb)))
   | some u=>
     refine ζ (wpAny_rule (ζ (ύ (Η hq (fun _ s2 hq=>?_) id))))
     obtain ⟨m,hn,hq⟩:=hq
     exact ζ (EJ (cenv:={ ce with scope:=relabel scope env }) hkind _ s2 m (fun x hx=>(ώ.mp hx).elim (fun q=>hr x (Ť q)) fun q=>hr x (FO q)) hn fun h' m' _ sb=>π (hq h' sb))
theorem sr {zr zn:Z} {E:η→ς→Prop} {o:Out D} {C L:φ} (I:Rep X z) (Ir:Rep X zr) (er:zr.t.env=z.t.env∧zr.σ=z.σ∧zr.t.ow = []) (fC:C ∉ frs X.fr∧¬ Lc X C∧z.h C=none) (hL:X.env.frame=some L)
 (hn:XN (cxC X N sc C) (Own z) z zn c l e (Ã L)) (pr:zr.ρ <+: zn.ρ) (gg:Sub zr.G zn.G) (q:o = .exc c l ⟨z.t.env,[],zn.t.st⟩) (hE:∀ u s',Px X z o u s'→E u s') :
 ∃ m,zn.s.heap.Ns C m∧∀ h',æ C zn.s.heap h'→∀ ce:ż,ce.frame=X.env.frame→Α X.M X.A (passOn "comprehension.variables-let-go" e ce:E0 η) (fun _ _=>False) E { zn.s with heap:=h' }:=by
 obtain ⟨a,T,cls,dx,e1,S,J,r,na,t,nT⟩:=hn
 subst e1
 have If:=sq I Ir er S J.toHR.out pr gg
 obtain ⟨m,hm,_⟩:=J.lo
 obtain ⟨oC,_,_,eC,_⟩:=id hm
 refine ⟨m,hm,fun h' sb ce hf=>?_⟩
 have k:∀ b o,b ∉ [C]→zn.s.heap.get? b=some o→h'.get? b=some o:=fun b o m e=>(sb.2 b fun w=>m (by rw [w];exact ε.mpr rfl)).trans e
 have S0:Stp X.fr (Own z) z { zn with t:=⟨z.t.env,[],zn.t.st⟩,σ:=z.σ }:=⟨S.pr,S.gg,S.gn,S.rn,S.th,S.sm,S.sl⟩
 have lC:Lc (cxC X N sc C) C:=.inl rfl
 obtain ⟨I4,S4,g4,n4⟩:=Rep.turn (X:=X) (s':={ zn.s with heap:=h' }) (tk:=If.toHR.tk) S0 If (fun b hb=>by rw [ε.mp hb];exact ⟨⟨fC.2.2,⟨(J.fl C lC).1,(J.fl C lC).2,fC.1,fC.2.1⟩,fun ⟨i,m,_⟩=>nomatch m⟩,oC,eC⟩) k ⟨rfl,rfl⟩
 have up:∀ {b},Nob (cxC X N sc C) z zn b→∀ {o},zn.h b=some o→b≠C∧h'.get? b=some o∧Nob X z (Z.up { zn with t:=⟨z.t.env,[],zn.t.st⟩,σ:=z.σ } { zn.s with heap:=h' }) b:=fun {b} nb {o} eb=>by
  have ne:b≠C:=fun w=>nb.2.1.2.2.2 (w ▸ lC)
  refine ⟨ne,(sb.2 b ne).trans eb,nb.1,⟨?_,nb.2.1.2.1,nb.2.1.2.2.1,fun l=>?_⟩,fun ⟨i,m,_⟩=>nomatch m⟩
  ·show (match zn.h b with | none=>h'.get? b | some _=>zn.G b)=none
   rw [eb];exact nb.2.1.1
  ·obtain ⟨o1,e1⟩:=I.lth l
   rw [nb.1] at e1;cases e1
 obtain ⟨oe,vs,oT,ts,he,hc,hd,h1,ne,hT,hdT,h3⟩:=t
 obtain ⟨neA,heA,nA⟩:=up na he
 obtain ⟨neT,heT,nTT⟩:=up nT hT
 unfold HH
 refine ζ (È heA hd h1 ?_)
 rw [ZY (show ¬ ((Ç T == Ϣ)=true) by simp),hf,hL]
 refine ζ (bK (X:=X) (w:=Own z) (z:=z) (c:=c) (l:=l) (z':=Z.up { zn with t:=⟨z.t.env,[],zn.t.st⟩,σ:=z.σ } { zn.s with heap:=h' }) (fr:=some L) (fl:=Ã L) ⟨a,T,cls,dx,rfl,S4,I4,?_,nA,⟨oe,vs,oT,ts,heA,hc,hd,h1,ne,heT,hdT,h3⟩,nTT⟩ fun h2 hn2=>wpAny_throw ?_)
 ·obtain ⟨i,r1,r2,r3,r4,r5⟩:=r
  exact ⟨i,r1,r2,r3,r4,r5.imp_right fun ⟨d,od,vs,w1,w2,w3,w4⟩=>⟨d,od,vs,w1,g4 _ _ w2,w3,w4.mono (μ _) g4⟩⟩
 ·obtain ⟨a',T',cls',dx',e1,x2,I2,r2,na2,t2,nT2⟩:=hn2
  exact hE _ _ ⟨_,c,l,rfl,q,⟨x2,rfl,rfl,fun i m=>nomatch m⟩,I2,a',cls',dx',e1,r2,na2,.inr ⟨T',_,t2,.inr ⟨L,hL,rfl⟩,nT2⟩⟩
structure LcP (X:Cx) (N:List θ) (ee tg iter:Ο) (ifs:List Ο) (sc:Ą) (t:List Nat) (one:Bool) (it elt cond:E):Prop where
 hc:X.calm=true
 F:dL X
 L:Lcn X sc t.length N
 hi:LI X tg iter it
 hg:∀ C,LG (cxC X N sc C) tg t one
 hl:∀ i∈t,∀ x,N[i]? = some x→(relabel sc X.env).names.lookup x=some .local
 ht:∀ C,LTs (cxC X N sc C) ifs cond
 he:∀ C,LE (cxC X N sc C) ee elt
 hs:∀ x,Ŏ iter X.env x=pure x
inductive LcJ (X Y:Cx) (z zr:Z) (env:List (Option D)) (ds:List D) (St:Nat→ϻ→Prop) (fp wr:List Nat) (a:Nat) (o:Out D) (f:D→Sta→Out (Option D)) (n:Nat) (s:ς):Prop
 | mk (i:Nat) (z':Z) (acc:List D) (vs:List η) (ob:Gp) (_:z'.s=s) (_:n=ds.length - i) (_:i≤ds.length) (_:Stp X.fr (Own z) z z') (_:Rep Y z') (_:z'.t.ow = []) (_:St i z'.s.heap) (_:Fp Y z z' fp wr) (_:zr.ρ <+: z'.ρ) (_:Sub zr.G z'.G) (_:Nob Y z z' a) (_:z'.h a=some ob) (_:LsO ob vs) (_:RDs X.W z'.ρ z'.G acc vs) (_:o=(bw f (ds.drop i) acc z'.t).back env)
theorem lY {ee tg iter:Ο} {ifs:List Ο} {t:List Nat} {one:Bool} {it elt cond:E} {pos p:ϥ} {use:Option (η→E0 Unit)} {Q:η→ς→Prop} {E:η→ς→Prop} {o:Out D} (P:LcP X N ee tg iter ifs sc t one it elt cond) (I:Rep X z) (e0:o=X.ev false (.lc t one it elt cond) z.t) (nb:o≠.bad) (hE:∀ u s',Px X z o u s'→E u s')
 (fin:∀ zf d D C m,Ee X z zf→Rep X zf→o = .ok d zf.t→FV X z zf d (.ref D)→Nob X z zf C→(∃ oC,zf.h C=some oC)→zf.s.heap.Ns C m→C≠D→compPost X.M X.A E use Q (.ref D) C (.ok .next) zf.s) :
 Α X.M X.A (comprehension (.ListComp ee [⟨tg,iter,ifs,0⟩] sc pos) sc X.env p (newList []) false (eval iter X.env) use) Q E z.s:=by
 have e0:o=(X.ev false it z.t).bind fun x s=>(match x with
  | .lst ds=>(bw (lcF X t one elt cond) ds [] ⟨ξ t.length none ++ s.env,[],s.st⟩).back s.env
  | _=>.bad):=e0
 have nb0:X.ev false it z.t≠.bad:=fun q=>nb (by rw [e0,q];rfl)
 refine xV rfl P.hs (lQ (P.L.cells I.ok)) P.L.kind P.L.names (Η (ό I.tk (P.hi z I nb0)) (fun v s1 ⟨tk1,h1⟩=>Η (ό tk1 h1) (fun itv s2 ⟨tk2,h2⟩=>?_) fun _ _ w=>w.2.elim) fun u s' h=>hE u s' (by rw [e0];exact h.2.map))
 obtain ⟨z1,ds,a,fp,wr,St,q1,q2,x1,I1,q3,T,st1,f1⟩:=h2
 subst q1 q3
 have I1:=I1 tk2
 rw [q2] at e0
 have e0:o=(bw (lcF X t one elt cond) ds [] ⟨ξ t.length none ++ z1.t.env,[],z1.t.st⟩).back z1.t.env:=e0
 refine ø (wpAny_newFunctionEnv P.L.nocell (by intro y hy;simp at hy) (fun h1 hns hsb=>?_) P.L.kind)
 dsimp only at hns hsb ⊢
 generalize hD:z1.s.heap.objs.size=D at hns hsb ⊢
 have nD:z1.h D=none:=hD ▸ aG z1
 generalize hG:z1.s.heap.push { cls:=.type "list",dict:=none,data:=.seq ([]:List η).toArray }=G1 at hns hsb ⊢
 have hC0:G1.objs.size=D+1:=by rw [← hG,ċ,hD]
 generalize hC:G1.objs.size=C at hns hsb ⊢ hC0
 have CD:C≠D:=by rw [hC0];exact Hh _
 have nC:z1.h C=none:=Ϙ (by rw [hC0,hD];exact ö _)
 have up:∀ b o,G1.get? b=some o→h1.get? b=some o:=fun b o e=>hsb.extBut b o (hC ▸ ϯ (ϛ e)) (Ζ _ e)
 have kp:∀ b o,z1.s.heap.get? b=some o→h1.get? b=some o:=fun b o e=>up b o (hG ▸ Ζ _ e)
 have gr:Gr z1.s { z1.s with heap:=h1,toks:=z1.s.toks+([]:List (θ×η)).length }:=.hp kp
 have hDo:h1.get? D=some { cls:=.type "list",data:=.seq ([]:List η).toArray }:=up _ _ (hG ▸ hD ▸ ψ _ rfl)
 obtain ⟨Ir,xr⟩:=I1.rel fun _=>false
 have owr:(z1.rel fun _=>false).t.ow = []:=Ð.mpr fun _ _=>by simp
 have I2:=sy (k:=t.length) P.L Ir owr (s':={ z1.s with heap:=h1,toks:=z1.s.toks+([]:List (θ×η)).length }) gr nC hns
 generalize hz2:(⟨(z1.rel fun _=>false).ρ,(z1.rel fun _=>false).G,⟨ξ t.length none ++ (z1.rel fun _=>false).t.env,[],(z1.rel fun _=>false).t.st⟩,ξ t.length none ++ (z1.rel fun _=>false).σ,{ z1.s with heap:=h1,toks:=z1.s.toks+([]:List (θ×η)).length }⟩:Z)=z2 at I2
 have xa:=x1.trans xr
 have fD:=Ir.fre (a:=D) nD
 have fC:=Ir.fre (a:=C) nC
 have zD:z.h D=none:=x1.st.no nD
 have zC:z.h C=none:=x1.st.no nC
 have S2:Stp X.fr (Own z) z z2:=by
  subst hz2
  exact ⟨xa.st.pr,xa.st.gg,xa.st.gn,xa.st.rn,fun b o e=>let ⟨o',e'⟩:=xa.st.th b o e;⟨o',kp b o' e'⟩,fun b o e n w f=>kp b o (xa.st.sm b o e n w f),fun b o e n w f=>let ⟨sl,e'⟩:=xa.st.sl b o e n w f;⟨sl,kp b _ e'⟩⟩
 have nLD:¬ Lc X D:=fD.1.2.2.2
 have nLC:¬ Lc X C:=fC.1.2.2.2
 have nob2:∀ {b},z.h b=none→(z1.rel fun _=>false).G b=none→¬ Mu z1.ρ b→b ∉ frs X.fr→¬ Lc X b→b≠C→Nob (cxC X N sc C) z z2 b:=fun h0 h1 h2 h3 h4 h5=>by
  subst hz2
  exact ⟨h0,⟨h1,h2,h3,fun l=>(xh l).elim h5 h4⟩,fun ⟨i,m,_⟩=>nomatch m⟩
 have nobD:Nob (cxC X N sc C) z z2 D:=nob2 zD fD.1.1 fD.1.2.1 fD.1.2.2.1 nLD (ϳ CD)
 have fp1:∀ b∈fp,∃ o,z1.h b=some o:=fun b hb=>(f1 b hb).elim (·.2) fun ⟨_,o,e⟩=>⟨o,I1.gh b o e⟩
 have fpn:∀ b∈fp,b≠D∧b≠C:=fun b hb=>by
  obtain ⟨o,e⟩:=fp1 b hb
  exact ⟨fun w=>(by rw [w,nD] at e;cases e),fun w=>(by rw [w,nC] at e;cases e)⟩
 have f2:Fp (cxC X N sc C) z z2 fp wr:=fun b hb=>by
  obtain ⟨o1,e1⟩:=fp1 b hb
  rcases f1 b hb with ⟨⟨n0,ff,no⟩,_⟩ | ⟨m,o,e⟩
  ·exact .inl ⟨nob2 n0 ((dC fun ⟨i,m,_,e⟩=>no ⟨i,m,e⟩).trans ff.1) ff.2.1 ff.2.2.1 ff.2.2.2 (fpn b hb).2,o1,by subst hz2;exact kp b o1 e1⟩
  ·exact .inr ⟨m,o,by subst hz2;exact xr.st.gg b o e⟩
 have pr2:(z1.rel fun _=>false).ρ <+: z2.ρ:=by subst hz2;exact μ _
 have gg2:Sub (z1.rel fun _=>false).G z2.G:=by subst hz2;exact .refl _
 have ow2:z2.t.ow = []:=by subst hz2;rfl
 have s2e:z2.s={ z1.s with heap:=h1,toks:=z1.s.toks+([]:List (θ×η)).length }:=by subst hz2;rfl
 have hD2:z2.h D=some { cls:=.type "list",data:=.seq ([]:List η).toArray }:=by show z2.s.heap.get? D=_;rw [s2e];exact hDo
 have st2:St 0 z2.s.heap:=by rw [s2e];exact T.keep _ _ _ st1 fun b _ o e=>kp b o e
 have e2:o=(bw (lcF X t one elt cond) ds [] z2.t).back z1.t.env:=by subst hz2;exact e0
 have loop:ĳ X.M X.A (.compLoop (.ListComp ee [⟨tg,iter,ifs,0⟩] sc pos) 0 (.ref a) (.ref D) (cxC X N sc C).env) (sj X.M X.A E use Q (.ref D) C X.env.frame) z2.s:=by
  refine codeAny_loop rfl (LcJ X (cxC X N sc C) z (z1.rel fun _=>false) z1.t.env ds St fp wr D o (lcF X t one elt cond)) (fun n s3 hI=>?_) (ds.length - 0) ⟨0,z2,[],[],_,rfl,rfl,ϰ _,S2,I2,ow2,st2,f2,pr2,gg2,nobD,hD2,⟨⟨_,rfl⟩,ϰ _⟩,rfl,by rw [Ī];exact e2⟩
  obtain ⟨i,z3,acc,vs,ob,e3,en,hi,S3,I3,ow3,st3,f3,p3,g3,nD3,hD3,lo3,ra3,q⟩:=hI
  subst e3
  show Α X.M X.A ((compTurn (.ListComp ee [⟨tg,iter,ifs,0⟩] sc pos) 0 (.ref a) (.ref D) (cxC X N sc C).env).onRaise (fun x=>do ü x (cxC X N sc C).env;theTreesLotGoes x)) _ _ z3.s
  refine wpAny_noted ?_
  rw [compTurn_list]
  refine ζ (ó (ζ ?_))
  cases qd:ds[i]? with
  | none=>
    have hl:i=ds.length:=by rw [ER] at qd;omega
    subst hl
    refine Η (ό I3.tk (T.done (I3.hd P.hc) st3)) (fun r s4 ⟨tk4,er,os,k⟩=>?_) fun _ _ w=>w.2.elim
    subst er
    obtain ⟨I4,S4,g4,_⟩:=Rep.turn (X:=cxC X N sc C) S3 I3 (f3.wr T st3) k os tk4
    rw [ń] at q
    have nDw:D ∉ wr:=fun m=>(fpn D (T.sub D m)).1 rfl
    have If:=sq I Ir ⟨x1.en,x1.sg,owr⟩ S4 I4.toHR.out p3 (g3.trans g4)
    obtain ⟨m,hn,_⟩:=I4.lo
    obtain ⟨n0,ff,no⟩:=nD3
    have GD:(z3.up s4).G D=none:=by show (match z3.h D with | none=>s4.heap.get? D | some _=>z3.G D)=none;rw [hD3];exact ff.1
    refine π (fin { z3.up s4 with t:=⟨z.t.env,[],z3.t.st⟩,σ:=z.σ } (.lst acc) D C m ⟨⟨S4.pr,S4.gg,S4.gn,S4.rn,S4.th,S4.sm,S4.sl⟩,rfl,rfl,fun i m=>nomatch m⟩ If (q.trans (by rw [x1.en];rfl)) ⟨D,.lst acc,rfl,zD,rfl,⟨ob,vs,rfl,k D ob nDw hD3,lo3,ra3.mono (μ _) g4⟩,⟨GD,ff.2.1,ff.2.2.1,nLD⟩,fun ⟨i,m,_⟩=>nomatch m⟩ ⟨zC,⟨(I4.fl C (.inl rfl)).1,(I4.fl C (.inl rfl)).2,fC.1.2.2.1,nLC⟩,fun ⟨i,m,_⟩=>nomatch m⟩ ?_ hn CD)
    obtain ⟨oC,_,_,eC,_⟩:=hn
    exact ⟨oC,eC⟩
  | some d=>
    have hil:i<ds.length:=(κ.mp qd).1
    rw [ni qd] at q
    have q:o=((lcF X t one elt cond d z3.t).bind fun o s'=>match o with
     | some e=>if acc.length<100000 then bw (lcF X t one elt cond) (ds.drop (i+1)) (acc ++ [e]) s' else .bad
     | none=>bw (lcF X t one elt cond) (ds.drop (i+1)) acc s').back z1.t.env:=q
    refine Η (ό I3.tk (T.item (I3.hd P.hc) qd st3)) (fun r s4 ⟨tk4,u,er,h4⟩=>?_) fun _ _ w=>w.2.elim
    subst er
    refine ζ (Η (ό tk4 h4) (fun _ s5 ⟨tk5,st5,os5,k5,rd5⟩=>?_) fun _ _ w=>w.2.elim)
    obtain ⟨I5,S5,g5,n5⟩:=Rep.turn (X:=cxC X N sc C) S3 I3 (f3.wr T st3) k5 os5 tk5
    have rd:=rd5 z3.ρ (z3.up s5).G (xr.st.pr.trans p3) ((xr.st.gg.trans g3).trans g5) fun a o e1 e2=>by rw [jU e1];exact e2
    have f5:=f3.up I3 g5 k5 fun b m _=>T.ex _ _ st5 b m
    have nDw:D ∉ wr:=fun m=>(fpn D (T.sub D m)).1 rfl
    have nD5:Nob (cxC X N sc C) z (z3.up s5) D:=⟨nD3.1,⟨by show (match z3.h D with | none=>s5.heap.get? D | some _=>z3.G D)=none;rw [hD3];exact nD3.2.1.1,nD3.2.1.2⟩,nD3.2.2⟩
    have hD5:(z3.up s5).h D=some ob:=k5 D ob nDw hD3
    cases qb:aN t one d z3.t.env with
    | none=>rw [show lcF X t one elt cond d z3.t = .bad by unfold lcF;rw [qb]] at q;exact ZX q nb
    | some env=>
      rw [show lcF X t one elt cond d z3.t=(X.ev true cond ⟨env,[],z3.t.st⟩).bind fun b s2=>(match b with
       | .bl true=>(X.ev false elt s2).bind fun e s3=>.ok (some e) ⟨s3.env,[],s3.st⟩
       | .bl false=>.ok none ⟨s2.env,[],s2.st⟩
       | _=>.bad) by unfold lcF;rw [qb];all_goals rfl] at q
      refine ζ (P.hg C (z3.up s5) (z3.up s5) d u env _ _ .refl I5 rd qb fun z6 _ I6 eρ y6 et eσ ek=>?_)
      have k6:=ek P.hl
      have ow6:z6.t.ow = []:=by rw [et];show z3.t.ow.filter _ = [];rw [ow3];rfl
      have t6:z6.t=⟨env,[],z3.t.st⟩:=by rw [et];show (⟨env,z3.t.ow.filter _,z3.t.st⟩:Sta)=_;rw [ow3];rfl
      have S56:Stp X.fr (fun b=>b=C) (z3.up s5) z6:=⟨y6.st.pr,y6.st.gg,fun b o e=>(by
       rcases y6.st.gn b o e with w | w | w
       ·exact .inl w
       ·exact .inr (.inl w)
       ·rcases w with ⟨j,m,_⟩ | l
        ·have:j∈z3.t.ow:=m
         rw [ow3] at this;exact nomatch this
        ·rw [(I6.fl b l).1] at e;cases e),y6.st.rn,y6.st.th,fun b o e _ w _=>k6 b o e w,fun b o e _ w _=>⟨o.slots,k6 b o e w⟩⟩
      have S6:Stp X.fr (Own z) z z6:=S5.trans S56 fun b w=>.inr (by rw [w];exact zC)
      obtain ⟨nD6,hD6⟩:=nD5.go y6 hD5
      have f6:=f5.go y6
      have st6:St (i+1) z6.s.heap:=T.keep _ _ _ st5 (f5.keep y6 I5 I6)
      rw [← t6] at q
      have nb6:(X.ev true cond z6.t).bind toB≠.bad:=fun w=>nb (by
       rw [q]
       cases qc:X.ev true cond z6.t with
       | ok b s2=>
         rw [qc] at w
         cases b with
         | bl b=>cases w
         | _=>rfl
       | exc c l s2=>rw [qc] at w;cases w
       | bad=>rfl)
      have p6:(z1.rel fun _=>false).ρ <+: z6.ρ:=p3.trans (eρ ▸ μ _)
      have g36:Sub z3.G z6.G:=g5.trans y6.st.gg
      refine ζ (Η (P.ht C z6 I6 nb6) (fun b s7 ⟨z7,tb,e7,q7,x7,I7,r7⟩=>?_) fun u s' ⟨z7,c,l,e7,q7,x7,I7,xo⟩=>?_)
      rotate_left
      ·subst e7
       obtain ⟨ow7,S67⟩:=x7.nil ow6
       have qc:X.ev true cond z6.t = .exc c l z7.t:=by
        have q7:(X.ev true cond z6.t).bind toB = .exc c l z7.t:=q7
        cases qc:X.ev true cond z6.t with
        | ok b s2=>rw [qc] at q7;cases b <;> cases q7
        | exc c l s2=>rw [qc] at q7;cases q7;rfl
        | bad=>rw [qc] at q7;cases q7
       rw [qc] at q
       have S7:Stp X.fr (Own z) z z7:=S6.trans S67 fun _ w=>w.elim
       refine eQ (X:=cxC X N sc C) (w:=Own z) (z:=z) (z':=z7) ⟨P.F.fr,P.F.frame⟩ S7 I7 (xo.less fun _=>S6.no) fun L h' hL hn=>?_
       exact sr I Ir ⟨x1.en,x1.sg,owr⟩ ⟨fC.1.2.2.1,nLC,zC⟩ hL hn (p6.trans x7.st.pr) ((g3.trans g36).trans x7.st.gg) (q.trans (by rw [x1.en];rfl)) hE
      subst e7
      obtain ⟨ow7,S67⟩:=x7.nil ow6
      have S7:Stp X.fr (Own z) z z7:=S6.trans S67 fun _ w=>w.elim
      obtain ⟨nD7,hD7⟩:=nD6.go x7.go hD6
      have f7:=f6.go x7.go
      have st7:St (i+1) z7.s.heap:=T.keep _ _ _ st6 (f6.keep x7.go I6 I7)
      have qc:X.ev true cond z6.t = .ok (.bl tb) z7.t:=by
       have q7:(X.ev true cond z6.t).bind toB = .ok tb z7.t:=q7
       cases qc:X.ev true cond z6.t with
       | ok b s2=>rw [qc] at q7;cases b <;> first | (cases q7;rfl) | cases q7
       | exc c l s2=>rw [qc] at q7;cases q7
       | bad=>rw [qc] at q7;cases q7
      rw [qc] at q
      have p7:(z1.rel fun _=>false).ρ <+: z7.ρ:=p3.trans ((eρ ▸ μ _:z3.ρ <+: z6.ρ).trans x7.st.pr)
      have g37:Sub z3.G z7.G:=(g5.trans y6.st.gg).trans x7.st.gg
      cases (show b=tb from r7)
      cases b with
      | false=>
        have q:o=(bw (lcF X t one elt cond) (ds.drop (i+1)) acc ⟨z7.t.env,[],z7.t.st⟩).back z1.t.env:=q
        rw [pv ow7] at q
        exact π ⟨rfl,ds.length - (i+1),by omega,i+1,z7,acc,vs,ob,rfl,rfl,hil,S7,I7,ow7,st7,f7,p7,g3.trans g37,nD7,hD7,lo3,ra3.mono ((eρ ▸ μ _:z3.ρ <+: z6.ρ).trans x7.st.pr) g37,q⟩
      | true=>
        have q:o=(((X.ev false elt z7.t).bind fun e s3=>Out.ok (some e) ⟨s3.env,[],s3.st⟩).bind fun o s'=>match o with
         | some e=>if acc.length<100000 then bw (lcF X t one elt cond) (ds.drop (i+1)) (acc ++ [e]) s' else .bad
         | none=>bw (lcF X t one elt cond) (ds.drop (i+1)) acc s').back z1.t.env:=q
        have nb7:X.ev false elt z7.t≠.bad:=fun w=>nb (by rw [q,w];rfl)
        refine ζ (ζ (Η (P.he C false z7 I7 nb7) (fun v s8 ⟨z8,de,e8,q8,x8,I8,r8⟩=>?_) fun u s' ⟨z8,c,l,e8,q8,x8,I8,xo⟩=>?_))
        rotate_left
        ·subst e8
         obtain ⟨ow8,S78⟩:=x8.nil ow7
         rw [show X.ev false elt z7.t=_ from q8] at q
         have S8:Stp X.fr (Own z) z z8:=S7.trans S78 fun _ w=>w.elim
         refine eQ (X:=cxC X N sc C) (w:=Own z) (z:=z) (z':=z8) ⟨P.F.fr,P.F.frame⟩ S8 I8 (xo.less fun _=>S7.no) fun L h' hL hn=>?_
         exact sr I Ir ⟨x1.en,x1.sg,owr⟩ ⟨fC.1.2.2.1,nLC,zC⟩ hL hn (p7.trans x8.st.pr) ((g3.trans g37).trans x8.st.gg) (q.trans (by rw [x1.en];rfl)) hE
        subst e8
        rw [show X.ev false elt z7.t=_ from q8] at q
        have q:o=(if acc.length<100000 then bw (lcF X t one elt cond) (ds.drop (i+1)) (acc ++ [de]) ⟨z8.t.env,[],z8.t.st⟩ else .bad).back z1.t.env:=q
        by_cases ca:acc.length<100000
        ·rw [ZZ ca] at q
         obtain ⟨ow8,S78⟩:=x8.nil ow7
         rw [pv ow8] at q
         have S8:Stp X.fr (Own z) z z8:=S7.trans S78 fun _ w=>w.elim
         obtain ⟨nD8,hD8⟩:=nD7.go x8.go hD7
         have f8:=f7.go x8.go
         have st8:St (i+1) z8.s.heap:=T.keep _ _ _ st7 (f7.keep x8.go I7 I8)
         obtain ⟨⟨n,rfl⟩,hz⟩:=lo3
         have ra8:=ra3.mono ((eρ ▸ μ _:z3.ρ <+: z6.ρ).trans (x7.st.pr.trans x8.st.pr)) (g37.trans x8.st.gg)
         have hl:vs.length<100000:=by rw [← ra8.len];exact ca
         refine ζ (ĝ Ø ⟨_,hD8,rfl⟩ Ĥ (Ġ _ _) (D2 D vs.toArray n v (by rw [Ν];exact đ (Ϲ hl (big (Ϗ _))))) ⟨hD8,?_⟩)
         obtain ⟨⟨o1,u1,u3⟩,u2⟩:=dK (f:=(·.push v)) (ws:=vs ++ [v]) hD8 (by simp) (by rw [Δ];exact big (by simp;omega))
         have k9:∀ b o,b ∉ [D]→z8.h b=some o→(z8.s.heap.update D (Þ (·.push v))).get? b=some o:=fun b o m e=>(u2 b fun w=>m (by rw [w];exact ε.mpr rfl)).trans e
         obtain ⟨I9,S9,g9,_⟩:=Rep.turn (X:=cxC X N sc C) (s':={ z8.s with heap:=z8.s.heap.update D (Þ (·.push v)) }) S8 I8 (fun b hb=>by rw [ε.mp hb];exact ⟨nD8,_,hD8⟩) k9 ⟨rfl,rfl⟩
         refine π (π ⟨rfl,ds.length - (i+1),by omega,i+1,_,acc ++ [de],vs ++ [v],o1,rfl,rfl,hil,S9,I9,ow8,T.keep _ _ _ st8 fun b hb o e=>k9 b o (fun m=>(fpn b hb).1 (ε.mp m)) e,f8.up I8 g9 k9 fun b m hb=>ZX (ε.mp m) (fpn b hb).1,p7.trans x8.st.pr,((g3.trans g37).trans x8.st.gg).trans g9,⟨nD8.1,⟨?_,nD8.2.1.2⟩,nD8.2.2⟩,u1,u3,(ra8.mono (μ _) g9).app (.cons (r8.rd.mono (μ _) g9) rfl),q⟩)
         show (match z8.h D with | none=>_ | some _=>z8.G D)=none
         rw [hD8];exact nD8.2.1.1
        ·rw [ZY ca] at q;exact ZX q nb
 rw [← s2e]
 exact codeAny_compStart_list loop (T.self (I1.hd P.hc) st2 loop)
theorem kD {ee tg iter:Ο} {ifs:List Ο} {t:List Nat} {one:Bool} {it elt cond:E} {pos:ϥ} (P:LcP X N ee tg iter ifs sc t one it elt cond):LF X (.ListComp ee [⟨tg,iter,ifs,0⟩] sc pos) (.lc t one it elt cond):=fun z I nb=>by
 rw [eval_ListComp]
 refine lY P I rfl nb (fun _ _ h=>h) fun zf d D C m x If e fv nC exC hn CD=>⟨m,hn,fun h' sb=>?_⟩
 have k:∀ b o,b ∉ [C]→zf.h b=some o→h'.get? b=some o:=fun b o m e=>(sb.2 b fun w=>m (by rw [w];exact ε.mpr rfl)).trans e
 obtain ⟨I4,S4,g4,_⟩:=Rep.turn (s':={ zf.s with heap:=h' }) x.st If (fun b hb=>by rw [ε.mp hb];exact ⟨nC,exC⟩) k ⟨rfl,rfl⟩
 obtain ⟨a,ob,ea,n,t1,r,f,no⟩:=fv
 have ea:a=D:=(Ć ea).symm
 subst ea
 obtain ⟨oa,ha⟩:=r.th.1
 refine ⟨zf.up { zf.s with heap:=h' },d,rfl,e,⟨S4,x.sg,x.en,x.ow⟩,I4,a,ob,rfl,n,t1,r.mono (μ _) g4 fun b hb o e=>k b o (fun m=>?_) e,⟨?_,f.2⟩,no⟩
 ·have:b=a:=by rcases hb with w | w <;> exact w
  exact CD ((ε.mp m).symm.trans this)
 ·show (match zf.h a with | none=>h'.get? a | some _=>zf.G a)=none
  rw [ha];exact f.1
theorem BF {ee tg iter:Ο} {ifs:List Ο} {t:List Nat} {one:Bool} {it elt cond:E} {pos:ϥ} (P:LcP X N ee tg iter ifs sc t one it elt cond):LE X (.ListComp ee [⟨tg,iter,ifs,0⟩] sc pos) (.lc t one it elt cond):=(kD P).le fun _=>rfl
theorem kE {ee tg iter:Ο} {ifs:List Ο} {t:List Nat} {one:Bool} {it elt cond:E} {pos pos' spos:ϥ} {i:Nat} {x:θ} (hN:X.N.Nodup) (hi:X.N[i]? = some x) (hx:Loc X.env.scope x) (P:LcP X N ee tg iter ifs sc t one it elt cond):LS X (.Assign [.Name x pos'] (.ListComp ee [⟨tg,iter,ifs,0⟩] sc pos) spos) (.set i (.lc t one it elt cond)):=fun z I nb=>by
 obtain ⟨b,sw⟩:∃ b,ķ (.ListComp ee [⟨tg,iter,ifs,0⟩] sc pos) (some (.Name x pos')) spos.line X.env=pure b:=⟨_,rfl⟩
 cases b with
 | false=>exact fj hN hi hx (BF P) (fun _=>kD P) sw z I nb
 | true=>
   have nb1:X.ev false (.lc t one it elt cond) z.t≠.bad:=fun q=>nb (show Out.go (X.ev false (.lc t one it elt cond) z.t) _=_ by rw [q];rfl)
   rw [GX _ _ _ _ sw]
   refine ζ (ó (ζ ?_))
   show Α _ X.A (do let _ ← comprehension (.ListComp ee [⟨tg,iter,ifs,0⟩] sc pos) sc X.env _ (newList []) false (eval iter X.env) (some (assign (.Name x pos') X.env))) _ _ z.s
   refine ζ (thn (lY (use:=some (assign (.Name x pos') X.env)) (Q:=fun _ s'=>Ps X z (X.ex (.set i (.lc t one it elt cond)) z.t) .next s') P I rfl nb1 (fun u s' h=>PxS.of .refl h) fun zf d D C m x0 If e fv nC exC hn CD=>?_) fun _ s' hq=>π (π hq))
   show Α _ X.A (assign (.Name x pos') X.env (.ref D)) _ _ _
   refine ō (bF (own:=true) x0.go If hN hi hx fv fun s' a sb la I' g'=>?_)
   have Ca:C≠a:=fun w=>nC.2.1.2.2.2 (w ▸ la.1)
   refine ⟨m,hn.sameBut sb Ca,fun h' sb'=>?_⟩
   have k:∀ b o,b ∉ [C]→s'.heap.get? b=some o→h'.get? b=some o:=fun b o m e=>(sb'.2 b fun w=>m (by rw [w];exact ε.mpr rfl)).trans e
   obtain ⟨oC,eC⟩:=exC
   obtain ⟨I4,S4,g4,_⟩:=Rep.turn (z:={ zf with t:=stV zf.t i d true,σ:=zf.σ.set i (some (.ref D)),s:=s' }) (s':={ s' with heap:=h' }) g'.st I' (fun b hb=>by
    rw [ε.mp hb]
    refine ⟨⟨nC.1,nC.2.1,fun ⟨j,mj,ej⟩=>?_⟩,oC,(sb.2 C Ca).trans eC⟩
    by_cases q:j=i
    ·subst q
     have hl:j<zf.σ.length:=by rw [If.sl];exact (κ.mp hi).1
     have ej:(zf.σ.set j (some (.ref D)))[j]? = some (some (.ref C)):=ej
     rw [ϟ hl] at ej
     cases ej;exact CD rfl
    ·have ej:(zf.σ.set i (some (.ref D)))[j]? = some (some (.ref C)):=ej
     rw [Φ (ϳ q)] at ej
     have mj:j∈i :: zf.t.ow.filter (· != i):=mj
     rcases υ.mp mj with w | w
     ·exact q w
     ·exact nC.2.2 ⟨j,(ϔ.mp w).1,ej⟩) k ⟨rfl,rfl⟩
   refine nxt (z1:=Z.up { zf with t:=stV zf.t i d true,σ:=zf.σ.set i (some (.ref D)),s:=s' } { s' with heap:=h' }) ⟨S4,g'.ow⟩ I4 ?_
   show Out.go (X.ev false (.lc t one it elt cond) z.t) _=_
   rw [e]
   show am.nx (hW zf.t i d true)=_
   have ld:rX d=true:=by
    obtain ⟨_,_,_,_,t,_⟩:=fv
    cases d <;> first | rfl | cases t
   unfold hW
   rw [ld];rfl
end
theorem rS {kp:List Nat} {env:List (Option D)} {i:Nat} {d:D}:(rR kp env)[i]? = some (some d)↔i ∉ kp∧env[i]? = some (some d):=by
 unfold rR
 rw [List.getElem?_mapIdx]
 by_cases c:i∈kp
 ·simp [c]
 ·simp [c]
theorem ju {kp:List Nat} {s:Sta} {i:Nat}:i∈(hid kp s).ow↔i∈s.ow∧i ∉ kp:=by
 unfold hid
 simp
section
variable {X:Cx} {z z':Z} {kp:List Nat}
theorem Rep.hid (I:Rep X z):Rep X { z with t:=L2.Ev.hid kp z.t }:=by
 refine ⟨⟨I.md,I.fm,I.hd,I.bs,I.gh,I.rl,I.rn,I.rg,I.ob,I.fu,I.ff,I.br,I.os,I.tk⟩,I.ok,I.lo,I.ce,I.fl,?_,I.sl,fun i d n e=>?_,fun i m=>?_,fun i j a m1 m2 e1 e2=>I.od i j a (ju.mp m1).1 (ju.mp m2).1 e1 e2⟩
 ·show (rR kp z.t.env).length=_
  unfold rR
  rw [List.length_mapIdx];exact I.el
 ·obtain ⟨h1,h2⟩:=rS.mp e
  exact I.en i d (fun m=>n (ju.mpr ⟨m,h1⟩)) h2
 ·obtain ⟨m1,m2⟩:=ju.mp m
  obtain ⟨d,a,o,h1,h2,h3,h4,h5⟩:=I.eo i m1
  exact ⟨d,a,o,rS.mpr ⟨m2,h1⟩,h2,h3,h4,h5⟩
end
section
variable {X:Cx} {z z0:Z}
theorem Rep.give {a:φ} {o:O} (I:Rep X z) (f:Fre X z a) (no:¬ Own z a) (r:ObR X.W z.ρ z.G z.h (a,a) o):Rep X { z with ρ:=z.ρ ++ [(a,a)],t:=⟨z.t.env,z.t.ow,z.t.st ++ [o]⟩ }:=by
 have pre:z.ρ <+: z.ρ ++ [(a,a)]:=É _ _
 have eqa:∀ {b:φ},(b=((a,a):φ×φ).1∨b=((a,a):φ×φ).2)→b=a:=fun h=>h.elim id id
 have old:∀ {i:Nat} {q:φ×φ} {b:φ},z.ρ[i]? = some q→(b=q.1∨b=q.2)→b≠a:=fun h1 h2 e=>f.2.1 ⟨_,Ρ h1,e ▸ h2⟩
 have nm:∀ {b:φ},b≠a→¬ Mu z.ρ b→¬ Mu (z.ρ ++ [(a,a)]) b:=fun n m w=>(dZ.mp w).elim m fun w=>n (eqa w)
 refine ⟨⟨I.md,I.fm,I.hd,I.bs,I.gh,by simp [I.rl],fun i j q1 q2 b h1 h2 h3 h4=>?_,fun b m=>?_,fun n o' q h1 h2=>?_,I.fu,fun b m=>⟨(I.ff b m).1,nm (fun w=>f.2.2.1 (w ▸ m)) (I.ff b m).2⟩,I.br,I.os,I.tk⟩,I.ok,I.lo,I.ce,fun b l=>⟨(I.fl b l).1,nm (fun w=>f.2.2.2 (w ▸ l)) (I.fl b l).2⟩,I.el,I.sl,fun i d n e=>let ⟨u,q,r⟩:=I.en i d n e;⟨u,q,r.mono pre (.refl _)⟩,fun i m=>?_,I.od⟩
 ·rcases aU h1 with a1 | ⟨a1,b1⟩
  ·rcases aU h2 with a2 | ⟨a2,b2⟩
   ·exact I.rn i j q1 q2 b a1 a2 h3 h4
   ·subst b2;exact ZX (eqa h4) (old a1 h3)
  ·subst b1
   rcases aU h2 with a2 | ⟨a2,b2⟩
   ·exact ZX (eqa h3) (old a2 h4)
   ·rw [a1,a2]
 ·rcases dZ.mp m with m | m
  ·exact I.rg b m
  ·rw [eqa m];exact f.1
 ·rcases aU h2 with a2 | ⟨a2,b2⟩
  ·rcases aU h1 with a1 | ⟨a1,_⟩
   ·exact (I.ob n o' q a1 a2).mono pre (.refl _) fun _ _ _ e=>e
   ·have:=(κ.mp a2).1;rw [I.rl] at this;omega
  ·subst b2
   rcases aU h1 with a1 | ⟨_,b1⟩
   ·have:=(κ.mp a1).1;rw [← I.rl] at this;omega
   ·subst b1;exact r.mono pre (.refl _) fun _ _ _ e=>e
 ·obtain ⟨d,b,o,h1,h2,h3,r,g⟩:=I.eo i m
  exact ⟨d,b,o,h1,h2,h3,r.mono pre (.refl _) fun _ _ _ e=>e,g.1,nm (fun w=>no ⟨i,m,w ▸ h2⟩) g.2.1,g.2.2⟩
theorem lZ {e:Ο} {c:E} (h:LF X e c):LE X e (.sto c):=fun br z I nb=>by
 have q0:X.ev br (.sto c) z.t=(X.ev false c z.t).bind Ci:=rfl
 rw [q0] at nb ⊢
 refine Η (h z I fun q=>nb (by rw [q];rfl)) (fun u s' ⟨z',d,e,q,y,I1,fv⟩=>?_) fun _ _ w=>w.map
 rw [q] at nb ⊢
 obtain ⟨a,o,h1,h2,h3,h4,h5,h6⟩:=fv
 cases d with
 | lst l=>
   cases h3
   refine ⟨{ z' with ρ:=z'.ρ ++ [(a,a)],t:=⟨z'.t.env,z'.t.ow,z'.t.st ++ [.lst l]⟩ },.ref z'.t.st.length,e,rfl,⟨⟨y.st.pr.trans (É _ _),y.st.gg,y.st.gn,fun b m=>?_,y.st.th,y.st.sm,y.st.sl⟩,y.sg,y.en,y.ow⟩,I1.give h5 h6 h4,.of ?_⟩
   ·rcases dZ.mp m with m | m
    ·exact y.st.rn b m
    ·exact .inr ((show b=a from m.elim id id) ▸ h2)
   ·exact ⟨_,mv I1.toHR,h1⟩
 | _=>exact ZX rfl nb
end
mutual
theorem RD.flT {G2:Hp} (h:∀ b o,G b=some o→o.cls = .type "tuple"→G2 b=some o):∀ {d:D} {v},L2.Ev.flT d=true→RD W ρ G d v→RD W ρ2 G2 d v
 | .non,_,_,e=>e
 | .bl _,_,_,e=>e
 | .int _,_,_,e=>e
 | .str _,_,_,e=>e
 | .tup _,_,n,⟨a,o,vs,e,t,q,r⟩=>⟨a,o,vs,e,h _ _ t q.1,q,RDs.flT h n r⟩
 | .lst _,_,n,_=>nomatch n
 | .dic _ _,_,n,_=>nomatch n
 | .ins _ _,_,n,_=>nomatch n
 | .ref _,_,n,_=>nomatch n
theorem RDs.flT {G2:Hp} (h:∀ b o,G b=some o→o.cls = .type "tuple"→G2 b=some o):∀ {ds:List D} {vs},L2.Ev.flTs ds=true→RDs W ρ G ds vs→RDs W ρ2 G2 ds vs
 | [],_,_,e=>e
 | _ :: _,_,n,⟨v,r,e,t,q⟩=>by
   have n:(L2.Ev.flT _ && L2.Ev.flTs _)=true:=n
   rw [ω] at n
   exact ⟨v,r,e,RD.flT h n.1 t,RDs.flT h n.2 q⟩
end
section
variable {X:Cx} {z z0:Z}
theorem uI {env:List (Option D)} {i:Nat} {d:D} (h:(bg env)[i]? = some (some d)):env[i]? = some (some d)∧noR d=true:=by
 unfold bg at h
 rw [ϒ] at h
 cases q:env[i]? with
 | none=>rw [q] at h;cases h
 | some o=>cases o with
   | none=>rw [q] at h;cases h
   | some e=>
     rw [q] at h
     have h:some ((some e).bind fun d=>if noR d then some d else none)=some (some d):=h
     have h:=Ϟ h
     have h:(if noR e then some e else none)=some d:=h
     split at h
     ·cases h;exact ⟨rfl,by assumption⟩
     ·cases h
def Z.snap (z:Z) (a:φ) (i:Nat) (l:List D):Z:=⟨[],fun b=>if b=a then z.h a else z.G b,⟨(bg z.t.env).set i (some (.lst l)),[],[]⟩,z.σ,z.s⟩
theorem Rep.snap {a b:φ} {i n:Nat} {l:List D} (I:Rep X z) (o0:z.t.ow = []) (ei:z.t.env[i]? = some (some (.ref n))) (ep:z.ρ[n]? = some (a,b)) (es:z.t.st[n]? = some (.lst l)) (nl:ba l=true):Rep X (z.snap a i l):=by
 have mu:Mu z.ρ a:=⟨_,Ρ ep,.inl rfl⟩
 obtain ⟨o,vs,hp2,ho,lo,rl⟩:=I.ob n _ _ es ep
 have ga:z.G a=none:=I.rg a mu
 have sb:Sub z.G (z.snap a i l).G:=fun c o e=>by
  show (if c=a then z.h a else z.G c)=_
  rw [ZY fun w=>by rw [w,ga] at e;cases e];exact e
 have nn:∀ {c},c≠a→z.G c=none→(z.snap a i l).G c=none:=fun n e=>by show (if _=a then z.h a else z.G _)=_;rw [ZY n];exact e
 refine ⟨⟨I.md,I.fm,I.hd,fun c o e=>sb c o (I.bs c o e),fun c o e=>?_,rfl,fun _ _ _ _ _ h=>by simp [Z.snap] at h,fun _ m=>(cX m).elim,fun _ _ _ h=>by simp [Z.snap] at h,I.fu,fun c m=>⟨nn (fun w=>(I.ff c m).2 (w ▸ mu)) (I.ff c m).1,cX⟩,I.br,I.os,I.tk⟩,I.ok,I.lo,I.ce,fun c m=>⟨nn (fun w=>(I.fl c m).2 (w ▸ mu)) (I.fl c m).1,cX⟩,?_,I.sl,fun j d _ e=>?_,(fun j m=>nomatch m),(fun j k c m=>nomatch m)⟩
 ·have e:(if c=a then z.h a else z.G c)=some o:=e
  by_cases q:c=a
  ·rw [ZZ q] at e;rw [q];exact e
  ·rw [ZY q] at e;exact I.gh c o e
 ·show ((bg z.t.env).set i _).length=z.σ.length
  rw [ϸ];unfold bg;rw [Β];exact I.el
 ·have e:((bg z.t.env).set i (some (.lst l)))[j]? = some (some d):=e
  by_cases q:j=i
  ·subst q
   have hl:j<(bg z.t.env).length:=by unfold bg;rw [Β];exact (κ.mp ei).1
   rw [ϟ hl] at e
   cases e
   obtain ⟨u,hu,ru⟩:=I.en j _ (by rw [o0];exact nofun) ei
   obtain ⟨p,e2,rfl⟩:=(ru:RD X.W z.ρ z.G (.ref n) u)
   rw [ep] at e2;cases e2
   exact ⟨_,hu,a,o,vs,rfl,by show (if a=a then z.h a else z.G a)=_;rw [ZZ rfl];exact ho,lo,cz nl (rl.mono (μ _) sb)⟩
  ·rw [Φ (ϳ q)] at e
   obtain ⟨e1,n1⟩:=uI e
   obtain ⟨u,hu,ru⟩:=I.en j d (by rw [o0];exact nofun) e1
   exact ⟨u,hu,mG n1 (ru.mono (μ _) sb)⟩
def Z.unsnap (z z2:Z) (a:φ):Z:={ z with G:=fun b=>if b=a then none else z2.G b,s:=z2.s }
theorem Rep.unsnap {a b:φ} {i n:Nat} {l:List D} {z2:Z} (I:Rep X z) (o0:z.t.ow = []) (ep:z.ρ[n]? = some (a,b)) (x:Ee X (z.snap a i l) z2) (J:Rep X z2):Rep X (z.unsnap z2 a)∧Ee X z (z.unsnap z2 a):=by
 have mu:Mu z.ρ a:=⟨_,Ρ ep,.inl rfl⟩
 have ga:z.G a=none:=I.rg a mu
 have nO:∀ {c},¬ Own (z.snap a i l) c:=fun ⟨_,m,_⟩=>nomatch m
 have sm:∀ c o,z.h c=some o→c ∉ frs X.fr→z2.h c=some o:=fun c o e f=>x.st.sm c o e cX nO f
 have sl:∀ c o,z.h c=some o→∃ s,z2.h c=some { o with slots:=s }:=fun c o e=>by
  by_cases f:c∈frs X.fr
  ·exact x.st.sl c o e cX nO f
  ·exact ⟨o.slots,sm c o e f⟩
 have gg:Sub z.G (z.unsnap z2 a).G:=fun c o e=>by
  have ne:c≠a:=fun w=>by rw [w,ga] at e;cases e
  show (if c=a then none else z2.G c)=_
  rw [ZY ne]
  refine x.st.gg c o ?_
  show (if c=a then z.h a else z.G c)=_
  rw [ZY ne];exact e
 have gn:∀ c o,(z.unsnap z2 a).G c=some o→z.G c=some o∨z.h c=none:=fun c o e=>by
  have e:(if c=a then none else z2.G c)=some o:=e
  by_cases q:c=a
  ·rw [ZZ q] at e;cases e
  ·rw [ZY q] at e
   rcases x.st.gn c o e with w | w | w
   ·have w:(if c=a then z.h a else z.G c)=some o:=w
    rw [ZY q] at w;exact .inl w
   ·exact .inr w
   ·exact (nO w).elim
 refine ⟨I.grw J.tk (J.os.trans I.os.symm) J.br sm sl gg (fun c o e=>?_) fun c o e=>(gn c o e).imp_right I.fre,⟨μ _,gg,fun c o e=>(gn c o e).imp_right .inl,fun _ m=>.inl m,x.st.th,fun c o e _ _ f=>sm c o e f,fun c o e _ _ _=>sl c o e⟩,rfl,rfl,fun _ m=>m⟩
 have e:(if c=a then none else z2.G c)=some o:=e
 by_cases q:c=a
 ·rw [ZZ q] at e;cases e
 ·rw [ZY q] at e;exact J.gh c o e
theorem pn {i:Nat} {c:E} {e:Ο} {R R2:Z→Z→D→η→Prop} (h:∀ z,Rep X z→X.ev false c z.t≠.bad→Wp X (eval e X.env) z (X.ev false c z.t) (R z)) (hD:∀ {z z2:Z} {d:D} {u:η},R z z2 d u→R2 z z2 d u) (hR:∀ {z0 z:Z} {a b:φ} {n:Nat} {l:List D} {z2:Z} {d:D} {u:η},Ee X z0 z→Rep X z→z.t.ow = []→z.ρ[n]? = some (a,b)→z.t.st[n]? = some (.lst l)→Ee X (Z.snap z a i l) z2→Rep X z2→flX (au c) d=true→R (z.snap a i l) z2 d u→R2 z0 (z.unsnap z2 a) d u):∀ z,Rep X z→X.ev false (.snap i c) z.t≠.bad→Wp X (eval e X.env) z (X.ev false (.snap i c) z.t) (R2 z):=fun z I nb=>by
 have q0:X.ev false (.snap i c) z.t=(match z.t.env[i]? with
  | some (some (.ref n))=>(match z.t.st[n]? with
    | some (.lst l)=>if ba l=true then (noX (X.ev false c ⟨(bg z.t.env).set i (some (.lst l)),[],[]⟩)).bind fun d _=>if flX (au c) d=true then .ok d ⟨z.t.env,[],z.t.st⟩ else .bad else .bad
    | _=>.bad)
  | some (some _)=>X.ev false c z.t
  | _=>.bad):=rfl
 have dir:X.ev false (.snap i c) z.t=X.ev false c z.t→Wp X (eval e X.env) z (X.ev false (.snap i c) z.t) (R2 z):=fun q=>by
  rw [q] at nb ⊢
  exact Η (h z I nb) (fun u s' ⟨z',d,e,q,y,I1,r⟩=>⟨z',d,e,q,y,I1,hD r⟩) fun _ _ w=>w
 cases q1:z.t.env[i]? with
 | none=>rw [q0,q1] at nb;exact ZX rfl nb
 | some o=>cases o with
   | none=>rw [q0,q1] at nb;exact ZX rfl nb
   | some d=>cases d with
     | ref n=>
       rw [q1] at q0
       dsimp only at q0
       cases q2:z.t.st[n]? with
       | none=>rw [q0,q2] at nb;exact ZX rfl nb
       | some ob=>cases ob with
         | lst l=>
           rw [q2] at q0
           dsimp only at q0
           by_cases nl:ba l=true
           ·rw [ZZ nl] at q0
            obtain ⟨I0,x0⟩:=I.rel fun _=>false
            have o0:(z.rel fun _=>false).t.ow = []:=Ð.mpr fun _ _=>by simp
            obtain ⟨⟨a,b⟩,ep⟩:∃ p,z.ρ[n]? = some p:=by
             have:=(κ.mp q2).1
             rw [← I.rl] at this
             exact ⟨_,Μ this⟩
            have J:=I0.snap (a:=a) (b:=b) (i:=i) (n:=n) (l:=l) o0 q1 ep q2 nl
            have nb2:X.ev false c ((z.rel fun _=>false).snap a i l).t≠.bad:=fun w=>nb (by rw [q0,show X.ev false c ⟨(bg z.t.env).set i (some (.lst l)),[],[]⟩ = .bad from w];rfl)
            refine Η (h ((z.rel fun _=>false).snap a i l) J nb2) (fun u s' ⟨z2,d,e1,q3,x2,J2,r⟩=>?_) fun u s' ⟨z2,c',l',_,q3,_,_,_⟩=>ZX (by rw [q0,show X.ev false c ⟨(bg z.t.env).set i (some (.lst l)),[],[]⟩ = .exc c' l' z2.t from q3];rfl) nb
            rw [show X.ev false c ⟨(bg z.t.env).set i (some (.lst l)),[],[]⟩ = .ok d z2.t from q3] at q0
            have q0:X.ev false (.snap i c) z.t=if flX (au c) d=true then .ok d ⟨z.t.env,[],z.t.st⟩ else .bad:=q0
            by_cases fr:flX (au c) d=true
            ·rw [ZZ fr] at q0
             obtain ⟨I3,x3⟩:=I0.unsnap (a:=a) (b:=b) (i:=i) (n:=n) (l:=l) o0 ep x2 J2
             refine ⟨(z.rel fun _=>false).unsnap z2 a,d,e1,?_,x0.trans x3,I3,hR x0 I0 o0 ep q2 x2 J2 fr r⟩
             rw [q0]
             show Out.ok d _=Out.ok d ⟨z.t.env,z.t.ow.filter _,z.t.st⟩
             rw [show z.t.ow.filter (fun _=>false) = [] from o0]
            ·rw [ZY fr] at q0;exact ZX q0 nb
           ·rw [ZY nl] at q0;exact ZX q0 nb
         | _=>rw [q0,q2] at nb;exact ZX rfl nb
     | _=>rw [q1] at q0;exact dir q0
theorem lj {z z2:Z} {a b:φ} {i n:Nat} {l:List D} (I:Rep X z) (ep:z.ρ[n]? = some (a,b)) (es:z.t.st[n]? = some (.lst l)) (x:Ee X (z.snap a i l) z2):∀ c o,z2.G c=some o→o.cls = .type "tuple"→(z.unsnap z2 a).G c=some o:=fun c o e t=>by
 obtain ⟨o',vs,hp2,ho,⟨⟨k,rfl⟩,_⟩,rl⟩:=I.ob n _ _ es ep
 show (if c=a then none else z2.G c)=_
 rw [ZY fun w=>?_]
 ·exact e
 ·subst w
  have:=x.st.gg c _ (show (if c=c then z.h c else z.G c)=some _ by rw [ZZ rfl];exact ho)
  rw [e] at this
  cases this
  exact ZX (Value.type.inj t) (by decide)
theorem vB {i:Nat} {e:Ο} {c:E} (h:LE X e c) (hf:au c=false):LE X e (.snap i c):=fun br=>
 pn (R:=fun _=>RV X.W false c) (R2:=fun _=>RV X.W br (.snap i c)) (h false) (fun r=>.of r.rd) fun {z0 z a b n l z2 d u} x0 I o0 ep es x J f r=>.of (by
  rw [hf] at f
  exact RD.flT (lj I ep es x) f r.rd)
theorem nE {z0 z z2:Z} {a b:φ} {i n:Nat} {l:List D} {d:D} {u:η} (x0:Ee X z0 z) (I:Rep X z) (o0:z.t.ow = []) (ep:z.ρ[n]? = some (a,b)) (es:z.t.st[n]? = some (.lst l)) (x:Ee X (z.snap a i l) z2) (f:flR d=true) (r:FV X (z.snap a i l) z2 d u):FV X z0 (z.unsnap z2 a) d u:=by
 obtain ⟨a',o,rfl,h1,h2,h3,h4,h5⟩:=r
 cases d with
 | lst m=>
   cases h2
   obtain ⟨o,vs,q1,q2,q3,q4⟩:=h3
   refine ⟨a',.lst m,rfl,x0.st.no h1,rfl,⟨o,vs,q1,q2,q3,RDs.flT (lj I ep es x) f q4⟩,⟨?_,fun m=>?_,h4.2.2.1,h4.2.2.2⟩,fun ⟨j,m,_⟩=>by rw [show (z.unsnap z2 a).t.ow = [] from o0] at m;exact nomatch m⟩
   ·show (if a'=a then none else z2.G a')=none
    split
    ·rfl
    ·exact h4.1
   ·obtain ⟨o2,e2⟩:=I.th m
    rw [show z.h a'=none from h1] at e2;cases e2
 | _=>first | (cases h2;done) | cases f
theorem tA {z0 z z2:Z} {a C:φ} {i:Nat} {l:List D} (x0:Ee X z0 z) (I:Rep X z) (o0:z.t.ow = []) (r:Nob X (z.snap a i l) z2 C):Nob X z0 (z.unsnap z2 a) C:=by
 refine ⟨x0.st.no r.1,⟨?_,fun m=>?_,r.2.1.2.2.1,r.2.1.2.2.2⟩,fun ⟨j,m,_⟩=>by rw [show (z.unsnap z2 a).t.ow = [] from o0] at m;exact nomatch m⟩
 ·show (if C=a then none else z2.G C)=none
  split
  ·rfl
  ·exact r.2.1.1
 ·obtain ⟨o2,e2⟩:=I.th m
  rw [show z.h C=none from r.1] at e2;cases e2
theorem fV {i:Nat} {e:Ο} {c:E} (h:LF X e c) (hf:au c=true):LF X e (.snap i c):=
 pn (R:=FV X) (R2:=FV X) h (fun r=>r) fun {z0 z a b n l z2 d u} x0 I o0 ep es x J f r=>nE x0 I o0 ep es x (by rw [hf] at f;exact f) r
theorem wy {c:E} {i:Nat} {x:θ} {pos':ϥ} {E:η→ς→Prop} {zf:Z} {d:D} {D' C:φ} {m:θ→Option η} (hN:X.N.Nodup) (hi:X.N[i]? = some x) (hx:Loc X.env.scope x) (hf:au c=true) (x0:Ee X z zf) (If:Rep X zf) (e1:X.ev false c z.t = .ok d zf.t) (fv:FV X z zf d (.ref D')) (nC:Nob X z zf C) (exC:∃ oC,zf.h C=some oC) (hn:zf.s.heap.Ns C m) (CD:C≠D') :
 compPost X.M X.A E (some (assign (.Name x pos') X.env)) (fun _ s'=>Ps X z (X.ex (.set i c) z.t) .next s') (.ref D') C (.ok .next) zf.s:=by
 show Α _ X.A (assign (.Name x pos') X.env (.ref D')) _ _ _
 refine ō (bF (own:=true) x0.go If hN hi hx fv fun s' a sb la I' g'=>?_)
 have Ca:C≠a:=fun w=>nC.2.1.2.2.2 (w ▸ la.1)
 refine ⟨m,hn.sameBut sb Ca,fun h' sb'=>?_⟩
 have k:∀ b o,b ∉ [C]→s'.heap.get? b=some o→h'.get? b=some o:=fun b o m e=>(sb'.2 b fun w=>m (by rw [w];exact ε.mpr rfl)).trans e
 obtain ⟨oC,eC⟩:=exC
 obtain ⟨I4,S4,g4,_⟩:=Rep.turn (z:={ zf with t:=stV zf.t i d true,σ:=zf.σ.set i (some (.ref D')),s:=s' }) (s':={ s' with heap:=h' }) g'.st I' (fun b hb=>by
  rw [ε.mp hb]
  refine ⟨⟨nC.1,nC.2.1,fun ⟨j,mj,ej⟩=>?_⟩,oC,(sb.2 C Ca).trans eC⟩
  by_cases q:j=i
  ·subst q
   have hl:j<zf.σ.length:=by rw [If.sl];exact (κ.mp hi).1
   have ej:(zf.σ.set j (some (.ref D')))[j]? = some (some (.ref C)):=ej
   rw [ϟ hl] at ej
   cases ej;exact CD rfl
  ·have ej:(zf.σ.set i (some (.ref D')))[j]? = some (some (.ref C)):=ej
   rw [Φ (ϳ q)] at ej
   have mj:j∈i :: zf.t.ow.filter (· != i):=mj
   rcases υ.mp mj with w | w
   ·exact q w
   ·exact nC.2.2 ⟨j,(ϔ.mp w).1,ej⟩) k ⟨rfl,rfl⟩
 refine nxt (z1:=Z.up { zf with t:=stV zf.t i d true,σ:=zf.σ.set i (some (.ref D')),s:=s' } { s' with heap:=h' }) ⟨S4,g'.ow⟩ I4 ?_
 show Out.go (X.ev false c z.t) _=_
 rw [e1]
 show am.nx (hW zf.t i d (au c))=_
 have ld:rX d=true:=by
  obtain ⟨_,_,_,_,t,_⟩:=fv
  cases d <;> first | rfl | cases t
 unfold hW
 rw [ld,hf];rfl
theorem qv {N:List θ} {sc:Ą} {ee tg iter:Ο} {ifs:List Ο} {t:List Nat} {one:Bool} {it elt cond:E} {pos pos' spos:ϥ} {i j:Nat} {x:θ} (hN:X.N.Nodup) (hi:X.N[i]? = some x) (hx:Loc X.env.scope x) (P:LcP X N ee tg iter ifs sc t one it elt cond):LS X (.Assign [.Name x pos'] (.ListComp ee [⟨tg,iter,ifs,0⟩] sc pos) spos) (.set i (.snap j (.lc t one it elt cond))):=fun z I nb=>by
 by_cases dr:∃ d,z.t.env[j]? = some (some d)∧nP d=false
 ·obtain ⟨d,e1,e2⟩:=dr
  have q:X.ev false (.snap j (.lc t one it elt cond)) z.t=X.ev false (.lc t one it elt cond) z.t:=by
   have q0:X.ev false (.snap j (.lc t one it elt cond)) z.t=(match z.t.env[j]? with
    | some (some (.ref n))=>(match z.t.st[n]? with
      | some (.lst l)=>if ba l=true then (noX (X.ev false (.lc t one it elt cond) ⟨(bg z.t.env).set j (some (.lst l)),[],[]⟩)).bind fun d _=>if flX true d=true then .ok d ⟨z.t.env,[],z.t.st⟩ else .bad else .bad
      | _=>.bad)
    | some (some _)=>X.ev false (.lc t one it elt cond) z.t
    | _=>.bad):=rfl
   rw [q0,e1]
   cases d <;> first | rfl | cases e2
  have e:X.ex (.set i (.snap j (.lc t one it elt cond))) z.t=X.ex (.set i (.lc t one it elt cond)) z.t:=by
   show Out.go (X.ev false (.snap j (.lc t one it elt cond)) z.t) _=Out.go (X.ev false (.lc t one it elt cond) z.t) _
   rw [q];rfl
  have g:=kE (pos:=pos) (pos':=pos') (spos:=spos) hN hi hx P z I (fun w=>nb (e.trans w))
  rw [← e] at g
  exact g
 obtain ⟨b,sw⟩:∃ b,ķ (.ListComp ee [⟨tg,iter,ifs,0⟩] sc pos) (some (.Name x pos')) spos.line X.env=pure b:=⟨_,rfl⟩
 cases b with
 | false=>exact fj hN hi hx ((fV (kD P) rfl).le fun _=>rfl) (fun _=>fV (kD P) rfl) sw z I nb
 | true=>
   have nb:X.ev false (.snap j (.lc t one it elt cond)) z.t≠.bad:=fun q=>nb (show Out.go (X.ev false (.snap j (.lc t one it elt cond)) z.t) _=_ by rw [q];rfl)
   rw [GX _ _ _ _ sw]
   refine ζ (ó (ζ ?_))
   show Α _ X.A (do let _ ← comprehension (.ListComp ee [⟨tg,iter,ifs,0⟩] sc pos) sc X.env _ (newList []) false (eval iter X.env) (some (assign (.Name x pos') X.env))) _ _ z.s
   have q0:X.ev false (.snap j (.lc t one it elt cond)) z.t=(match z.t.env[j]? with
    | some (some (.ref n))=>(match z.t.st[n]? with
      | some (.lst l)=>if ba l=true then (noX (X.ev false (.lc t one it elt cond) ⟨(bg z.t.env).set j (some (.lst l)),[],[]⟩)).bind fun d _=>if flX true d=true then .ok d ⟨z.t.env,[],z.t.st⟩ else .bad else .bad
      | _=>.bad)
    | some (some _)=>X.ev false (.lc t one it elt cond) z.t
    | _=>.bad):=rfl
   cases q1:z.t.env[j]? with
   | none=>rw [q0,q1] at nb;exact ZX rfl nb
   | some o=>cases o with
     | none=>rw [q0,q1] at nb;exact ZX rfl nb
     | some d=>cases d with
       | ref n=>
         rw [q1] at q0
         dsimp only at q0
         cases q2:z.t.st[n]? with
         | none=>rw [q0,q2] at nb;exact ZX rfl nb
         | some ob=>cases ob with
           | lst l=>
             rw [q2] at q0
             dsimp only at q0
             by_cases nl:ba l=true
             ·rw [ZZ nl] at q0
              obtain ⟨I0,x0⟩:=I.rel fun _=>false
              have o0:(z.rel fun _=>false).t.ow = []:=Ð.mpr fun _ _=>by simp
              obtain ⟨⟨a,b⟩,ep⟩:∃ p,z.ρ[n]? = some p:=by
               have:=(κ.mp q2).1
               rw [← I.rl] at this
               exact ⟨_,Μ this⟩
              have J:=I0.snap (a:=a) (b:=b) (i:=j) (n:=n) (l:=l) o0 q1 ep q2 nl
              have nb2:X.ev false (.lc t one it elt cond) ((z.rel fun _=>false).snap a j l).t≠.bad:=fun w=>nb (by rw [q0,show X.ev false (.lc t one it elt cond) ⟨(bg z.t.env).set j (some (.lst l)),[],[]⟩ = .bad from w];rfl)
              refine ζ (thn (lY (use:=some (assign (.Name x pos') X.env)) (z:=(z.rel fun _=>false).snap a j l) (Q:=fun _ s'=>Ps X z (X.ex (.set i (.snap j (.lc t one it elt cond))) z.t) .next s') P J rfl nb2 (fun u s' ⟨z',c',l',e,q3,_,_,_⟩=>ZX (by rw [q0,show X.ev false (.lc t one it elt cond) ⟨(bg z.t.env).set j (some (.lst l)),[],[]⟩ = .exc c' l' z'.t from q3];rfl) nb) fun zf d D' C m x2 If e fv nC exC hn CD=>?_) fun _ s' hq=>π (π hq))
              rw [show X.ev false (.lc t one it elt cond) ⟨(bg z.t.env).set j (some (.lst l)),[],[]⟩ = .ok d zf.t from e] at q0
              have q0:X.ev false (.snap j (.lc t one it elt cond)) z.t=if flX true d=true then .ok d ⟨z.t.env,[],z.t.st⟩ else .bad:=q0
              by_cases fr:flX true d=true
              ·rw [ZZ fr] at q0
               obtain ⟨I3,x3⟩:=I0.unsnap (a:=a) (b:=b) (i:=j) (n:=n) (l:=l) o0 ep x2 If
               refine wy (z:=z) (zf:=(z.rel fun _=>false).unsnap zf a) hN hi hx rfl (x0.trans x3) I3 ?_ (nE x0 I0 o0 ep q2 x2 fr fv) (tA x0 I0 o0 nC) exC hn CD
               rw [q0]
               show Out.ok d _=Out.ok d ⟨z.t.env,z.t.ow.filter _,z.t.st⟩
               rw [show z.t.ow.filter (fun _=>false) = [] from o0]
              ·rw [ZY fr] at q0;exact ZX q0 nb
             ·rw [ZY nl] at q0;exact ZX q0 nb
           | _=>rw [q0,q2] at nb;exact ZX rfl nb
       | _=>exact ZX ⟨_,q1,rfl⟩ dr
end
def cxF (X:Cx) (cal cal1:Nat→List D→List O→Res) (N:List θ) (qual:θ) (scope:Ą) (f:φ) (cd:η) (A:ϙ) (fr:List ż) (L:φ):Cx:=
 { X with A:=A.deeper (ť qual scope L f cd),fr:=ť qual scope L f cd :: fr,N:=N,env:=ť qual scope L f cd,cal:=cal,cal1:=cal1 }
section
variable {X:Cx} {cal cal1:Nat→List D→List O→Res} {N ps:List θ} {qual:θ} {scope:Ą} {f:φ} {cd:η} {A:ϙ} {fr:List ż} {z z':Z} {k:Nat}
theorem qP {α β:Type} {ds:List α} {n i:Nat} {d:α} (h:(ds.map some ++ ξ n none)[i]? = some (some d)):ds[i]? = some d:=by
 by_cases hi:i<ds.length
 ·rw [ϓ (by simpa using hi),ϒ] at h
  cases e:ds[i]? with
  | none=>rw [e] at h;cases h
  | some a=>rw [e] at h;cases h;rfl
 ·rw [ϋ (by simpa using hi),Ă] at h
  split at h <;> cases h
theorem uc {α:Type} {ds:List α} {n i:Nat} {d:α} (h:ds[i]? = some d):(ds.map some ++ ξ n none)[i]? = some (some d):=by
 have hi:=(κ.mp h).1
 rw [ϓ (by simpa using hi),ϒ,h];rfl
theorem mL {es:List (Option D)} {n i:Nat} {d:D} (h:(es ++ ξ n none)[i]? = some (some d)):es[i]? = some (some d):=by
 by_cases hi:i<es.length
 ·rwa [ϓ hi] at h
 ·rw [ϋ (by omega),Ă] at h
  split at h <;> cases h
theorem qM {s1:ς} {es:List (Option D)} {us:List η} (S:d6 N ps scope) (I:HR { X with A:=A,fr:=fr } z) (hr:bq (k+1) A) (hl:us.length=ps.length) (le:es.length=us.length) (r:∀ (i:Nat) (d:D),es[i]? = some (some d)→∃ v,us[i]? = some v∧RD X.W z.ρ z.G d v)
 (x:InCallC z.s z.s.heap.objs.size (Gh (ť qual scope z.s.heap.objs.size f cd).kindOf (ps.zip us) fun _=>none) (Ik (z.s.heap.objs.size+1) scope.names []) (Gi (ť qual scope z.s.heap.objs.size f cd).kindOf (ps.zip us) fun _=>none) s1) (tk1:X.tz≤s1.toks) :
 Rep (cxF X cal cal1 N qual scope f cd A fr z.s.heap.objs.size) ⟨z.ρ,z.G,⟨es ++ ξ (N.length - ps.length) none,[],z.t.st⟩,us.map some ++ ξ (N.length - ps.length) none,s1⟩:=by
 have hpl:ps.length≤N.length:=by have:=ZS List.length S.pre;rw [Ł] at this;omega
 obtain ⟨h1,tk,rfl,hk⟩:=x.done
 have au:∀ {c:φ},z.s.heap.objs.size≤c→z.G c=none∧¬ Mu z.ρ c:=fun {c} h=>by
  have n:z.h c=none:=Ϙ h
  refine ⟨?_,fun m=>by obtain ⟨o,e⟩:=I.th m;rw [n] at e;cases e⟩
  cases q:z.G c with
  | none=>rfl
  | some o=>have:=I.gh c o q;rw [n] at this;cases this
 have lcf:∀ {a},Lc (cxF X cal cal1 N qual scope f cd A fr z.s.heap.objs.size) a→z.s.heap.objs.size≤a:=fun h=>by
  rcases h with rfl | ⟨y,e⟩
  ·exact Ϗ _
  ·exact đ (x.above y _ (Î e))
 have bn:X.base.get? z.s.heap.objs.size=none:=by
  cases q:X.base.get? z.s.heap.objs.size with
  | none=>rfl
  | some o=>have:=I.gh _ o (I.bs _ o q);rw [show z.h z.s.heap.objs.size=none from Ϙ (Ϗ _)] at this;cases this
 obtain ⟨oL,esL,epL,hoL,hdL,_⟩:=id x.toInCall.ns
 have gr:Gr z.s { z.s with heap:=h1,toks:=tk }:=.hp hk
 have G:=I.grow (ao I.gh gr) tk1
 refine ⟨⟨I.md,Around.frames_deeper I.fm,I.hd,I.bs,G.gh,I.rl,I.rn,I.rg,G.ob,?_,fun b hb=>?_,I.br,I.os,tk1⟩,⟨by have:=(hr.deeper (ť qual scope z.s.heap.objs.size f cd)).un;show (A.deeper _).units+200<_;omega,S.kind,rfl,rfl,fun y w c e1 e2=>name_of_addr x.apart (Î e1) (Î e2),fun y hy=>?_⟩,⟨_,x.toInCall.ns,fun i y v e1 e2 e3=>?_⟩,fun y c h=>⟨_,x.cell y c h⟩,fun a l=>au (lcf l),by show (es ++ _).length=(us.map some ++ _).length;simp [le],by show (us.map some ++ _).length=N.length;rw [Δ,Β,Å];omega,fun i d _ e=>?_,(fun i m=>nomatch m),(fun i j a m=>nomatch m)⟩
 ·have kd:(ť qual scope z.s.heap.objs.size f cd).scope.kind≠ScopeKind.module:=by show scope.kind≠_;rw [S.kind];decide
  exact ⟨kd,⟨_,oL,rfl,bn,hoL,fun vs e=>by rw [hdL] at e;cases e⟩,G.fu⟩
 ·rcases υ.mp (show b∈z.s.heap.objs.size :: frs fr from hb) with q | q
  ·rw [q];exact au (Ϗ _)
  ·exact I.ff b q
 ·have hy:scope.names.lookup y=some .cell∨scope.names.lookup y=some .free:=hy
  rcases hy with hy | hy
  ·exact j7 hy
  ·exact ZX rfl (S.nofree _ (Î hy))
 ·have hu:us[i]? = some v:=qP (β:=Unit) e2
  have hi:i<ps.length:=by rw [← hl];exact (κ.mp hu).1
  have hp:ps[i]? = some y:=by
   rw [← S.pre,List.getElem?_take_of_lt (by omega)];exact e1
  have ndP:ps.Nodup:=by rw [← S.pre];exact S.nd.sublist (GK _ _)
  rcases S.par y (Ρ hp) with k | k
  ·exact .inl ⟨k,iI ndP hp hu k⟩
  ·obtain ⟨c,e⟩:=j7 (n:=z.s.heap.objs.size+1) k
   refine .inr ⟨.inl k,c,e,?_⟩
   have q:=x.cell y c e
   rw [iG ndP hp hu (by show scope.names.lookup y≠_;rw [k];decide)] at q
   exact q
 ·obtain ⟨v,e1,r1⟩:=r i d (mL e)
  exact ⟨v,uc e1,r1⟩
theorem A3 {name:θ} {params:Gy} {body:List Ò} {dV kV doc pm ct oc:η} {an od:Option φ} {osl:Array (Option η)} {j:Nat} {c:S} (lk:X.K.lookup f=some ⟨oc,od,.func (Ϻ name qual params body scope dV kV doc pm an cd ct),osl⟩) (hcd:Ü X.K cd qual=true) (S:d6 N ps scope) {df:List D} {dvs:List η} (hj:X.Γ.fn[j]? = some ⟨ps.length,N.length,c,df⟩) (hdv:∀ ρ G,RDs X.W ρ G df dvs)
 (hb:∀ A fr L,bq k (A.deeper (ť qual scope L f cd))→LSs (cxF X cal cal1 N qual scope f cd A fr L) body c):FnC X (kX X.Γ cal cal1) (k+1) j f (Ϻ name qual params body scope dV kV doc pm an cd ct) ps dvs:=by
 have run:∀ ds st,kX X.Γ cal cal1 j ds st=if (ds ++ df).length=ps.length then (match exS X.Γ cal cal1 c ⟨(ds ++ df).map some ++ ξ (N.length - ps.length) none,[],st⟩ with
  | .nx s=>.ok .non s.st
  | .rt d s=>.ok d s.st
  | .exc c l s=>.exc c l s.st
  | .bad=>.bad) else .bad:=fun ds st=>by unfold kX;rw [hj];all_goals rfl
 refine ⟨fun ds st nb=>?_,fun A fr z args us ds hr I hbd r nb=>?_⟩
 ·by_cases q:(ds ++ df).length=ps.length
  ·rw [← (hdv [] fun _=>none).len,← Δ];exact q
  ·rw [run,ZY q] at nb;exact ZX rfl nb
 by_cases hl:(ds ++ df).length=ps.length
 rotate_left
 ·rw [run,ZY hl] at nb;exact ZX rfl nb
 rw [run,ZZ hl] at nb ⊢
 have r:=r.app (hdv z.ρ z.G)
 generalize ds ++ df=ds at r hl nb ⊢
 generalize us ++ dvs=us at r hbd
 have KX:X.K.In z.s.heap:=I.kin
 have lim:z.s.heap.NoLimit:=I.md.nolimit.keeps (Rep.bk I)
 have hkind:∀ y∈ps.zip us,scope.names.lookup y.1=some .local∨(scope.names.lookup y.1=some .cell∧((Ik (z.s.heap.objs.size+1) scope.names []).lookup y.1).isSome=true):=fun ⟨n,v⟩ hy=>by
  rcases S.par n (ř hy).1 with q | q
  ·exact .inl q
  ·exact .inr ⟨q,EN _ _ _ (.inl q)⟩
 refine codeAny_call_function hr.depth (KX _ _ lk) rfl S.co S.gen rfl (PySem.W.codeRec_of KX hcd) (hbd _ _ _ _ ?_)
 refine aY I.tk (wpAny_newFunctionEnv_cells S.kind hkind fun env he s1 x tk1=>?_)
 subst he
 refine ⟨lim.keeps x.toInCall.keep,codeAny_func ?_⟩
 have J:=qM (es:=ds.map some) (cal:=cal) (cal1:=cal1) S I hr (r.len ▸ hl) (by rw [Β];exact r.len) (fun i d e=>r.get (by rw [ϒ,τ] at e;obtain ⟨_,e1,e2⟩:=e;cases e2;exact e1)) x tk1
 have hk:∀ b o,z.h b=some o→s1.heap.get? b=some o:=x.toInCall.keep
 have F:dL (cxF X cal cal1 N qual scope f cd A fr z.s.heap.objs.size):=⟨⟨_,fr,rfl,rfl⟩,⟨_,rfl⟩⟩
 have lcf:∀ {a o},z.h a=some o→¬ Lc (cxF X cal cal1 N qual scope f cd A fr z.s.heap.objs.size) a:=fun {a o} e h=>by
  have:z.s.heap.objs.size≤a:=by
   rcases h with rfl | ⟨y,e⟩
   ·exact Ϗ _
   ·exact đ (x.above y _ (Î e))
  exact ZX (ϛ e) (Nat.not_lt.mpr this)
 have nofr:∀ {a o},z.h a=some o→a ∉ frs fr→a ∉ frs (ť qual scope z.s.heap.objs.size f cd :: fr):=fun {a o} e n m=>by
  rcases υ.mp (show a∈z.s.heap.objs.size :: frs fr from m) with q | q
  ·exact ZX (ϛ e) (by rw [q];exact Ź _)
  ·exact n q
 have none1:∀ {a},s1.heap.get? a=none→z.h a=none:=fun {a} n=>by
  cases q:z.h a with
  | none=>rfl
  | some o=>rw [hk a o q] at n;cases n
 have back:∀ {z'},Stp (ť qual scope z.s.heap.objs.size f cd :: fr) (Pv (cxF X cal cal1 N qual scope f cd A fr z.s.heap.objs.size) ⟨z.ρ,z.G,⟨ds.map some ++ ξ (N.length - ps.length) none,[],z.t.st⟩,us.map some ++ ξ (N.length - ps.length) none,s1⟩) ⟨z.ρ,z.G,⟨ds.map some ++ ξ (N.length - ps.length) none,[],z.t.st⟩,us.map some ++ ξ (N.length - ps.length) none,s1⟩ z'→Rep (cxF X cal cal1 N qual scope f cd A fr z.s.heap.objs.size) z'→Stp fr NoW z z'∧HR { X with A:=A,fr:=fr } z':=fun {z'} y K=>by
  have nw:∀ {a o},z.h a=some o→¬ Pv (cxF X cal cal1 N qual scope f cd A fr z.s.heap.objs.size) ⟨z.ρ,z.G,⟨ds.map some ++ ξ (N.length - ps.length) none,[],z.t.st⟩,us.map some ++ ξ (N.length - ps.length) none,s1⟩ a:=fun e w=>w.elim (fun ⟨i,m,_⟩=>nomatch m) (lcf e)
  refine ⟨⟨y.pr,y.gg,fun a o e=>?_,fun a m=>(y.rn a m).imp_right none1,fun a o e=>y.th a o (hk a o e),fun a o e n _ m=>y.sm a o (hk a o e) n (nw e) (nofr e m),fun a o e n _ m=>y.sl a o (hk a o e) n (nw e) (ν _ m)⟩,⟨K.md,I.fm,I.hd,K.bs,K.gh,K.rl,K.rn,K.rg,K.ob,K.fu.2.2,fun b m=>K.ff b (ν _ m),K.br,K.os,K.tk⟩⟩
  rcases y.gn a o e with q | q | q
  ·exact .inl q
  ·exact .inr (.inl (none1 q))
  ·rcases q with ⟨i,m,_⟩ | l
   ·exact nomatch m
   ·rw [(K.fl a l).1] at e;cases e
 have nb2:(cxF X cal cal1 N qual scope f cd A fr z.s.heap.objs.size).ex c ⟨ds.map some ++ ξ (N.length - ps.length) none,[],z.t.st⟩≠.bad:=fun q=>nb (by rw [show exS X.Γ cal cal1 c ⟨ds.map some ++ ξ (N.length - ps.length) none,[],z.t.st⟩ = .bad from q])
 refine Η (hb A fr z.s.heap.objs.size (hr.deeper _) _ J nb2) (fun fl s' hs=>?_) fun e s' hs=>qJ (Q:=fun e s''=>CRs { X with A:=A,fr:=fr } z _ (.error e) s'') F hs fun z' c' l a T cls dx q e1 y K xr na t nT=>?_
 ·cases q:exS X.Γ cal cal1 c ⟨ds.map some ++ ξ (N.length - ps.length) none,[],z.t.st⟩ with
  | nx t=>
    rw [show (cxF X cal cal1 N qual scope f cd A fr z.s.heap.objs.size).ex c _ = .nx t from q] at hs
    obtain ⟨rfl,z',e1,e2,y,K⟩:=hs
    subst e1 e2
    obtain ⟨b1,b2⟩:=back y.st K
    exact ⟨z',.non,rfl,rfl,b1,b2,rfl⟩
  | rt d t=>
    rw [show (cxF X cal cal1 N qual scope f cd A fr z.s.heap.objs.size).ex c _ = .rt d t from q] at hs
    obtain ⟨u,z',rfl,e1,e2,y,K,rd⟩:=hs
    subst e1
    obtain ⟨b1,b2⟩:=back y.st K
    exact ⟨z',d,rfl,by rw [e2],b1,b2,rd⟩
  | exc c' l t=>rw [show (cxF X cal cal1 N qual scope f cd A fr z.s.heap.objs.size).ex c _ = .exc c' l t from q] at hs;exact hs.elim
  | bad=>exact ZX q nb2
 ·obtain ⟨b1,b2⟩:=back y K
  have q:exS X.Γ cal cal1 c ⟨ds.map some ++ ξ (N.length - ps.length) none,[],z.t.st⟩ = .exc c' l z'.t:=q
  rw [q]
  exact ⟨z',c',l,rfl,rfl,b1,b2,a,T,cls,dx,e1,xr,t,⟨none1 na.1,na.2.1.1,na.2.1.2.1⟩,none1 nT.1,nT.2.1.1,nT.2.1.2.1⟩
end
end L2.Ev
end
section
namespace L2.Ev
open PySem.W
theorem rH {K:Frag} {C:φ} (Y:bX K C) (od:Option Gp):findObj K C od "__class__" = some (.bind (.builtin "getset_descriptor.__get__") (.builtin "object.__class__")):=by
 obtain ⟨cd,hc⟩:=EB.mp Y.is
 unfold findObj
 rw [hc,Gn,Y.cl,Gn]
 simp [Y.sg,Y.tk]
section
variable {prog:Ä} {w:à} {A:ϙ} {E:η→ς→Prop} {K:Frag} {C a:φ} {o:Gp} {od:Option Gp} {h:ϻ} {g:Array GenState} {d:Drawn} {t:Nat} {os:GH}
theorem j8 (Y:bX K C) (X:K.In h) (I:InstAt h a o C od) (hq:Q () ⟨h,g,d,t,os⟩):Α M A (Ij "BaseException.__getattribute__" ⟨[.ref a,nameV],[]⟩) Q E ⟨h,g,d,t,os⟩:=by
 have k1:builtinKind "BaseException.__getattribute__" = some .slot:=by decide +kernel
 have k2:splitId "BaseException.__getattribute__" = some ("BaseException","__getattribute__"):=by decide +kernel
 have L:Looks M h (DZ (.ref a) (.type "BaseException")) true:=(I.type (M:=M)).andThen (looks_mroIn X Y.be)
 have ha:=F.args_bexc_ga (.ref a) nameV
 simp only [Ij,k1,k2]
 refine ζ (L.at ?_)
 repeat (any_goals (first | assumption | wp_step))
theorem kb {tk:Tok} {Q:Fin→ς→Prop} (Y:bX K C) (X:K.In h) (I:InstAt h a o C od) (hq:Q (.done (.ret (.ref C))) ⟨h,g,d,t,os⟩) :
 Α (model prog w) A (Ft.«object.__getattribute__» ⟨[.ref a,.str "__class__" tk],[]⟩) Q E ⟨h,g,d,t,os⟩:=by
 have L0:=I.type (M:=model prog w)
 have L1:=looks_find (M:=model prog w) X I (rH Y od)
 refine ζ (π (ζ (π (ζ (L0.at (ζ (L1.at ?_)))))))
 show Α _ _ (holding [Ĵ "object.__class__"] (call (Ĵ "getset_descriptor.__get__") [Ĵ "object.__class__",Ç a,Ç C]) >>= ret) _ _ _
 exact ζ (ύ (Č (class_get (s:=⟨h,g,d,t,os⟩) X I Y.ob (π hq))))
theorem lP (Y:bX K C) (X:K.In h) (I:InstAt h a o C od) (hq:Q (some (.ref C)) ⟨h,g,d,t+1,os⟩):Α (model prog w) A (getAttr? (.ref a) "__class__") Q E ⟨h,g,d,t,os⟩:=by
 have L0:=I.type (M:=model prog w)
 have L1:=looks_findIn (M:=model prog w) X Y.ga
 have L2:=looks_findIn (M:=model prog w) X Y.gn
 have G:=DU.ga
 have b1:=G.bind (.ref a)
 unfold getAttr?;unfold getAttrBy?;unfold getAttrBy
 refine ζ (wpAny_mkText ?_)
 refine ζ (DS (ύ ?_))
 refine ζ (L0.at ?_)
 refine ζ (L1.at ?_)
 show Α _ _ (Ů _ _ _ _ _ _) _ _ _
 unfold Ů
 refine ζ (L2.at ?_)
 refine ζ (DS (ύ ?_))
 show Α _ _ (Fz _ _ _) _ _ _
 unfold Fz
 rw [b1]
 refine ζ (π ?_)
 refine Č (ß G.plain Ia (j8 Y X I (kb Y X I ?_)))
 exact handed_on rfl (π hq)
end
theorem rc {K:Frag} (e:(clsIn K C).isSome=true):∃ c' d' cd' sl',K.lookup C=some ⟨c',d',.cls cd',sl'⟩:=by
 unfold clsIn at e
 split at e
 ·rename_i q;exact ⟨_,_,_,_,q⟩
 ·cases e
structure jX (K:Frag) (B:φ):Prop where
 ty:typeIn K (.ref B)=some (.type "type")
 is:(clsIn K B).isSome=true
 be:mroIn K B (.type "BaseException")=some true
theorem nQ {K:Frag} {M:Fe} (X:K.In h) (e:(clsIn K C).isSome=true):Looks M h (isType (.ref C)) true:=by
 obtain ⟨c',d',cd',sl',hk⟩:=rc e
 intro A' Q' E' s' k q
 unfold isType;unfold loadHead
 exact ζ (Fv (k _ _ (X _ _ hk)) (π q))
theorem gS {K:Frag} {M:Fe} {A:ϙ} {E:η→ς→Prop} {s:ς} {a B C:φ} {o:Gp} {Q:Bool→ς→Prop} (X:K.In s.heap) (Y:jX K B) (he:s.heap.get? a=some o) (hc:o.cls = .ref C) {b:Bool} (hm:mroIn K C (.ref B)=some b) (hq:Q b s):Α M A (excMatches (.ref a) (.ref B)) Q E s:=by
 have L1:Looks M s.heap (DZ (.ref B) (.type "tuple")) false:=(looks_typeIn X Y.ty).andThen (Looks.of_pure tc_notTuple)
 have L2:=nQ (M:=M) X Y.is
 have L3:=looks_mroIn (M:=M) X Y.be
 have L4:=looks_mroIn (M:=M) X hm
 obtain ⟨h,g,d,t,os⟩:=s
 unfold excMatches isExcClass
 refine ζ (L1.at ?_)
 dsimp only
 rw [ZY Ϫ]
 refine ζ (π ?_)
 rw [E9]
 refine ζ (ζ (ζ (ζ (L2.at ?_))))
 rw [ZZ rfl]
 refine L3.at ?_
 rw [ZY (show ¬ ((!true)=true) by decide)]
 refine π ?_
 dsimp only
 rw [List.forIn_nil]
 refine π ?_
 have T0:∀ {Q':η→ς→Prop},Q' (.ref C) ⟨h,g,d,t,os⟩→Α M A (typeOf (.ref a)) Q' E ⟨h,g,d,t,os⟩:=fun {Q'} q'=>by
  repeat (first | (with_reducible refine Ō he ?_;rw [hc]) | wp_step)
  exact q'
 refine ζ (T0 ?_)
 rw [E9]
 refine ζ (ζ (ζ (L4.at ?_)))
 cases b with
 | true=>rw [ZZ rfl];exact π (π (π hq))
 | false=>
   rw [ZY Ϫ]
   exact π (π (show Α M A (pure false) Q E _ from π hq))
def gZ (bmB:List η):List η→Bool
 | []=>false
 | v :: r=>(v :: r) == bmB || match v with | .ref _=>gZ bmB r | _=>false
theorem dB (hp:HA self "__setattr__" bmB=pure ()):∀ {l},gZ bmB l=true→HA self "__setattr__" l=pure ()
 | [],e=>by cases e
 | v :: r,e=>by
   unfold gZ at e
   rcases Gf.mp e with z | z
   ·rw [beq_iff_eq.mp z];exact hp
   ·split at z
    ·rw [refuseLoop_ref];exact dB hp z
    ·cases z
abbrev veB:List η:=[.type "ValueError",.type "Exception",.type "BaseException",.type "object"]
abbrev exB:List η:=[.type "Exception",.type "BaseException",.type "object"]
structure gj (K:Frag) (C:φ):Prop where
 sa:findIn K (.ref C) "__setattr__" = some (some (.builtin "object.__setattr__"))
 over:((clsIn K C).any fun cd=>gZ veB cd.mro || gZ exB cd.mro)=true
 hd:((clsIn K C).any fun cd=>cd.hasDict)=true
 ob:mroIn K C (.type "object")=some true
section
variable {prog:Ä} {w:à} {A:ϙ} {E:η→ς→Prop} {s:ς} {K:Frag} {x C:φ} {o:Gp} {vs:Array η} {mA:θ→Option η} {name:θ} {v:η} {ns:List θ}
theorem iQ (hn:s.heap.Ns1 d mA) (hw:Within mA ns) (hz:ns.length<1000)
 (hq:∀ h',h'.Ns1 d (fun y=>if y=name then some v else mA y)→æ d s.heap h'→Q (.done (.ret .none)) { s with heap:=h',toks:=s.toks+1 }):Α M A (Ņ d (.str name tk) name v) Q E s:=by
 unfold Ņ H8
 refine ζ (π (ζ (wpAny_nsSet1 hn fun h' n' sb=>?_)))
 obtain ⟨od,es,ep,e1,e2,e3⟩:=n'.count (Within.cons name v hw)
 have few:es.size≤ϝ:=ϧ e3 (by rw [Ε,í];omega)
 refine ζ (Ic e1 (by rw [e2];exact Ih (Ϡ few)) ?_)
 exact π (hq h' n' sb)
theorem qe (X:K.In s.heap) (Z:gj K C) (hf:findIn K (.ref C) name=some none) (hx:s.heap.get? x=some o) (hc:o.cls = .ref C) (hd:o.data = .fields vs)
 (hm:(o.dict=none∧∀ n,mA n=none)∨∃ d,o.dict=some d∧d≠x∧s.heap.Ns1 d mA) (hw:Within mA ns) (hz:ns.length<1000)
 (hq:∀ h' d t',h'.get? x=some { o with dict:=some d }→d≠x→h'.Ns1 d (fun y=>if y=name then some v else mA y)→(∀ b u,b≠x→b≠d→s.heap.get? b=some u→h'.get? b=some u) →
  (o.dict=some d∨(o.dict=none∧s.heap.get? d=none))→Q () { s with heap:=h',toks:=t' }):Α (model prog w) A (Fk (.ref x) name v) Q E s:=by
 obtain ⟨od,I⟩:∃ od,InstAt s.heap x o C od:=by
  rcases hm with ⟨z,_⟩ | ⟨d,z,_,od,_,_,e,_⟩
  ·exact ⟨none,hx,hc,by unfold notCls;rw [hd],by rw [z];trivial⟩
  ·exact ⟨some od,hx,hc,by unfold notCls;rw [hd],by rw [z];exact e⟩
 have SF:=PySem.F.store_ValueError
 obtain ⟨cd,hcd,hov⟩:=any_some Z.over
 obtain ⟨cd',hcd',hhd⟩:=any_some Z.hd
 rw [hcd] at hcd'
 cases hcd'
 refine set_plain X I Z.sa ?_
 obtain ⟨h,g,d,t,os⟩:=s
 have sub:Looks (model prog w) h (DZ (.ref x) (.type "object")) true:=I.type.andThen (looks_mroIn X Z.ob)
 refine ß SF.slot.plain SF.entry (@check_slot (model prog w) _ _ ⟨h,g,d,t+1,os⟩ "object.__setattr__" "object" "__setattr__" (.ref x) [.str name t,v] [] _ SF.kind SF.split sub (SF.args (.ref x) (.str name t) v) ?_)
 have lm:Looks (model prog w) h (mroOf (.ref C)) cd.mro:=(looks_clsIn X hcd).andThen .now
 rw [osa_eq,refuse_eq]
 have l0:=I.type (M:=model prog w)
 have lf:=looks_findIn (M:=model prog w) X hf
 refine ζ (ζ (l0.at (ζ (lm.at ?_))))
 rw [show HA (.ref x) "__setattr__" cd.mro=pure () from (Gf.mp hov).elim (dB (SF.passes _)) (dB (PySem.F.store_Exception.passes _))]
 refine π (ζ (l0.at (ζ (lf.at ?_))))
 refine ζ (π ?_)
 refine ζ (π ?_)
 have lc:=looks_clsIn (M:=model prog w) X hcd
 obtain ⟨oc,odi,oda,osl⟩:=o
 dsimp only at hc hd hm hx
 subst hc hd
 refine ζ (ζ (Fv hx (ζ (lc.at ?_))))
 rw [hhd]
 rcases hm with ⟨rfl,hmA⟩ | ⟨dx,rfl,hne,hns⟩
 ·obtain rfl:mA=fun _=>none:=funext hmA
  have hxs:x≠h.objs.size:=ϯ (ϛ hx)
  have hx1:=Ζ { cls:=.type "dict",data:=.dict #[] } hx
  refine ζ (wpAny_alloc' (ζ (wpAny_update' hx1 ?_)))
  have hg:((h.push { cls:=.type "dict",data:=.dict #[] }).update x fun o=>{ cls:=o.cls,dict:=some h.objs.size,data:=o.data,slots:=o.slots }).get? h.objs.size=some { cls:=.type "dict",data:=.dict #[] }:=
   (Gc _ _ _ _ (ϳ hxs)).trans (GQ rfl rfl)
  have hn0:((h.push { cls:=.type "dict",data:=.dict #[] }).update x fun o=>{ cls:=o.cls,dict:=some h.objs.size,data:=o.data,slots:=o.slots }).Ns h.objs.size (fun _=>none):=
   ⟨_,#[],_,hg,rfl,fun e he=>ZX he (by simp),fun _=>rfl⟩
  refine π (a:=some h.objs.size) ?_
  refine iQ (Heap.Ns1.of_empty hn0) Within.nil (by decide) fun h' n' sb=>?_
  refine hq h' h.objs.size _ ?_ (ϳ hxs) n' (fun b u h1 h2 e=>?_) (.inr ⟨rfl,Ϙ (Ϗ _)⟩)
  ·refine (sb.2 x hxs).trans (Æ _ hx1 rfl)
  ·exact (sb.2 b h2).trans ((Gc _ _ _ _ h1).trans (Ζ _ e))
 ·refine π (a:=some dx) ?_
  refine iQ hns hw hz fun h' n' sb=>?_
  exact hq h' dx _ ((sb.2 x (ϳ hne)).trans hx) hne n' (fun b u _ h2 e=>(sb.2 b h2).trans e) (.inl rfl)
theorem rE (Y:bX K C) (hh:hasDictIn K C=true) (X:K.In s.heap) (hf:findIn K (.ref C) name=some none) (hx:s.heap.get? x=some o) (hc:o.cls = .ref C) (hd:o.data = .fields vs) (hdi:o.dict=some d) (hn:s.heap.Ns1 d mA) (hv:mA name=some v) (hv':handedIn v=true)
 (hq:Q v { s with toks:=s.toks+1 }):Α (model prog w) A (El (.ref x) name expr) Q E s:=by
 obtain ⟨od,ho,hl⟩:=iU hn
 have I:InstAt s.heap x o C (some od):=⟨hx,hc,by unfold notCls;rw [hd],by rw [hdi];exact ho⟩
 have fo:findObj K C (some od) name=some (.value v):=findObj_own hh hf rfl (by rw [hl,hv])
 obtain ⟨h,g,dr,t,os⟩:=s
 have l0:=I.type (M:=model prog w)
 have l1:=looks_findIn (M:=model prog w) X Y.ga
 have l2:=looks_findIn (M:=model prog w) X Y.gn
 have l3:=looks_find (M:=model prog w) X I fo
 have G:=DU.ga
 have b1:=G.bind (.ref x)
 unfold El getAttrBy
 refine ζ (wpAny_mkText (ύ (ζ (l0.at (ζ (l1.at ?_))))))
 show Α _ _ (Ů _ _ _ _ _ _) _ _ _
 unfold Ů
 refine ζ (l2.at (ζ (DS (ύ ?_))))
 unfold callGetattribute
 rw [show (expr && onTheHeap (Ĵ "BaseException.__getattribute__"))=false from EF _,ZY Ϫ]
 unfold Fz
 rw [b1]
 refine ζ (π ?_)
 refine Č (ß G.plain Ia (j8 Y X I ?_))
 refine ζ (π (ζ (π (ζ (l0.at (ζ (l3.at ?_)))))))
 exact π (handed_on hv' hq)
end
structure im (K:Frag) (C fI:φ) (bmB:List η) (newId:String):Prop where
 at_:∃ (nm q:θ) (N:φ) (bs bm:List η) (hdct:Bool) (sn:List θ) (sub:List η) (ab:Bool) (col:Option Bool) (dd:Option φ) (k0 k1 k2 k3 k5:Option η),
  K.lookup C=some (EW nm q C N bs bm hdct sn sub ab col dd k0 k1 k2 k3 k5 newId)∧tailIn K bmB bm=true
 init:findIn K (.ref C) "__init__" = some (some (.ref fI))
 fn:isFn K (.ref fI)=true
section
variable {prog:Ä} {w:à} {A:ϙ} {E:η→ς→Prop} {K:Frag} {C fI:φ} {rest bmB:List η} {B newId initId:String} {h:ϻ} {g:Array GenState} {d:Drawn} {t:Nat} {os:GH}
abbrev jg (h:ϻ) (C:φ) (rest:List η):ϻ:=(h.push { cls:=.type "tuple",data:=.seq rest.toArray }).push { cls:=.ref C,data:=.fields #[.ref h.objs.size,.none,.none,.none,.bool false,.none] }
theorem gq (b) (u) (z:h.get? b=some u):(jg h C rest).get? b=some u:=Ζ _ (Ζ _ z)
theorem pL:EC h (jg h C rest) (h.objs.size+1) (.ref C) rest where
 keeps:=gq
 new:=Ϙ (ö _)
 there:=⟨h.objs.size,by heap_get,Ϙ (Ϗ _),Ζ _ (GQ rfl rfl)⟩
theorem iw (F:Ā B newId initId bmB) (X:K.In h) (O:im K C fI bmB newId) (hz:rest.length≤ϝ)
 (hq:∀ h' e,EC h h' e (.ref C) rest→Α (model prog w) A (call (.ref fI) (.ref e :: rest)) (fun r s'=>r = .none∧Q (.done (.ret (.ref e))) s') E ⟨h',g,d,t,os⟩) :
 Α (model prog w) A (Ft.«type.__call__» ⟨.ref C :: rest,[]⟩) Q E ⟨h,g,d,t,os⟩:=by
 obtain ⟨nm,q,N,bs,bm,hdct,sn,sub,ab,col,dd,k0,k1,k2,k3,k5,l,tl⟩:=O.at_
 have c0:=X _ _ l
 have T:=tail_of_in X tl
 have X1:K.In (jg h C rest):=fun b u z=>gq b u (X b u z)
 have c1:=X1 _ _ l
 have m1:=(pL (h:=h) (C:=C) (rest:=rest))
 obtain ⟨tt,e1,_,_⟩:=id m1.there
 have self:(Ç C :: bm).contains (.ref C)=true:=by simp
 have l1:=looks_findIn (M:=model prog w) X1 O.init
 have l2:=fun self=>bind_fn (M:=model prog w) X1 self (beq_iff_eq.mp O.fn)
 repeat (first | with_reducible refine Ō c0 ?_ | with_reducible refine wpAny_madeBy_exc c0 ?_ | wp_step)
 refine codeAny_call_builtin_code (Gx _ F.quiet) (wpAny_check_new_subT F T c0 (codeAny_exc_new_subT F T c0 ?_ hz))
 show Α _ _ _ _ _ _
 unfold DZ
 repeat (first | with_reducible refine Ō e1 ?_ | (with_reducible refine wpAny_isSubtype_exc c1 ?_;rw [self]) | wp_step)
 refine l1.at (ύ (ζ ((l2 _).at ?_)))
 refine ζ (Η (hq _ _ m1) (fun r s' z=>?_) fun _ _ z=>z)
 obtain ⟨rfl,z⟩:=z
 wp_walk
 exact z
theorem rD (F:Ā B newId initId bmB) (X:K.In h) (O:im K C fI bmB newId) (hz:rest.length≤ϝ)
 (hq:∀ h' e,EC h h' e (.ref C) rest→Α (model prog w) (A.under (.builtin "type.__call__" ⟨.ref C :: rest,[]⟩)) (call (.ref fI) (.ref e :: rest)) (fun r s'=>r = .none∧Q (.ref e) s') E ⟨h',g,d,t,os⟩) :
 Α (model prog w) A (call (.ref C) rest) Q E ⟨h,g,d,t,os⟩:=by
 obtain ⟨nm,q,N,bs,bm,hdct,sn,sub,ab,col,dd,k0,k1,k2,k3,k5,l,tl⟩:=O.at_
 have c0:=X _ _ l
 have y1:=tc_lookup
 have y2:=tc_bind (.ref C)
 have y3:Hg ⟨h,g,d,t,os⟩ (.ref C) "type":=⟨_,c0,rfl⟩
 refine Č (codeAny_of_tree ?_)
 show Α _ _ (callAny (.ref C) _) _ _ _
 repeat (any_goals (first | assumption | with_reducible refine Ō c0 ?_ | wp_step))
 refine ⟨rfl,codeAny_call_builtin_at (Gx _ (by decide +kernel)) entry_typeCall (wpAny_check_type_call_sub c0 ?_)⟩
 exact iw F X O hz fun h' e m=>hq h' e m
end
section
variable {M:Fe} {A:ϙ} {E:η→ς→Prop} {s:ς}
theorem qK {K:Frag} {env:ż} {C:φ} {x:E0 η} {Q:Flow→ς→Prop} (be:mroIn K C (.type "BaseException")=some true) (ty:typeIn K (.ref C)=some (.type "type")) (hh:A.handled=none)
 (h:Α M A x (fun v s1=>∃ p ob vs,v = .ref p∧K.In s1.heap∧s1.heap.get? p=some ob∧ob.cls = .ref C∧ob.data = .fields vs∧vs[1]? = some .none∧E (.ref p) s1) E s):Α M A (raiseStmt env (some x) none) Q E s:=by
 unfold raiseStmt
 refine ζ (Η h (fun v s1 z=>?_) fun _ _ z=>z)
 obtain ⟨p,⟨oc,od,oda,osl⟩,vs,rfl,Xk,e1,e2,e3,e4,q⟩:=z
 simp only at e2 e3
 subst e2 e3
 obtain ⟨h1,g1,d1,t1,o1⟩:=s1
 have l0:Looks M h1 (typeOf (.ref p)) (.ref C):=(Looks.ld e1).andThen .now
 have l1:Looks M h1 (DZ (.ref p) (.type "BaseException")) true:=l0.andThen (looks_mroIn Xk be)
 have l2:=looks_typeIn (M:=M) Xk ty
 have l3:Looks M h1 (isType (.ref p)) false:=(Looks.ld e1).andThen .now
 have l4:Looks M h1 (isExcClass (.ref p)) false:=l3.andThen .now
 refine ζ (π (ζ (ύ ?_)))
 unfold excFromValue raisedInstance Gg
 refine ζ (l4.at ?_)
 rw [ZY Ϫ]
 refine ζ (l1.at ?_)
 rw [ZZ rfl]
 refine π (ζ (l3.at ?_))
 rw [ZY Ϫ]
 refine ζ (ζ (l0.at (ζ (l2.at ?_))))
 rw [ZZ (show (ē "type" == ē "type")=true by decide)]
 refine π (ζ (ζ (È e1 rfl e4 ?_)))
 rw [ZY (show ¬ ((Ϣ != Ϣ)=true) by decide)]
 exact π (wpAny_raiseNew_none hh q)
end
end L2.Ev
end
section
namespace L2.Ev
theorem qz {M:Fe} {A:ϙ} {E:η→ς→Prop} {Q:Unit→ς→Prop} {s:ς} {env:ż} {n:θ} {m:θ→Option η} {pos:ϥ} (hl:env.kindOf n=some .local) (hn:s.heap.Ns env.locals m) (hp:(env.scope.kind == .class || (env.scope.kind == .module && env.locals != env.globals))=false)
 (h:∀ h' v,h'.Ns env.locals (fun y=>if y=n then v else m y)→æ env.locals s.heap h'→Q () { s with heap:=h',toks:=s.toks+1 }):Α M A (do bindName env n .none;D0 env n pos) Q E s:=by
 refine ζ (wpAny_bindName (GU hl hn (fun h1 n1 s1=>?_) hp))
 unfold D0 unbindName;refine wpAny_onRaise (ζ (wpAny_point (ζ ?_)))
 unfold deleteName;simp only [hl,hp];rw [ZY (by decide)]
 refine ζ (wpAny_nsDel_keeps n1 fun h2 v n2 s2=>?_)
 simp only [if_true,Option.isSome_some,Bool.not_true,ç,if_false]
 refine π (wpAny_point (h h2 v ?_ (s1.trans s2)))
 have e:(fun y=>if y=n then v else if y=n then some Ϣ else m y)=fun y=>if y=n then v else m y:=by
  funext y
  by_cases z:y=n <;> simp [z]
 rw [e] at n2
 exact n2
section
variable {X:Cx} {z z' z0 z1:Z} {w:φ→Prop}
theorem Ab {a C:φ} {l:List (θ×η)} {f:θ} {v:η} {Q:η→ς→Prop} {b:Bool} (I:Rep X z) (h:ExO z.h a C l) (nl:l≠[]) (Y:bX X.K C) (hh:ϭ X.K C=true) (hf:Υ X.K (.ref C) f=some none) (lk:l.lookup f=some v) (hv:ĵ v=true) (q:Q v { z.s with toks:=z.s.toks+1 }):Α X.M X.A (El (.ref a) f b) Q NoE z.s:=by
 obtain ⟨o,vs,e1,e2,e3,e4⟩:=h
 rcases e4 with ⟨w,_⟩ | ⟨d,od,e5,e6,es,ep,e7⟩
 ·exact ZX w nl
 ·exact rE Y hh I.toHR.kin hf e1 e2 e3 e5 (mA:=fun n=>l.lookup n) ⟨od,es,ep,e6,e7⟩ lk hv q
abbrev aK (X:Cx) (e:η):Cx:={ X with A:=X.A.mark (some e),calm:=false }
theorem Rep.suite (I:Rep X z):Rep (aK X e) z:=⟨⟨I.md,I.fm,(fun c=>nomatch c),I.bs,I.gh,I.rl,I.rn,I.rg,I.ob,I.fu,I.ff,I.br,I.os,I.tk⟩,⟨I.ok.un,I.ok.kd,I.ok.gl,I.ok.bl,I.ok.ci,I.ok.ch⟩,I.lo,I.ce,I.fl,I.el,I.sl,I.en,I.eo,I.od⟩
theorem Rep.unsuite (h:X.calm=true→X.A.handled=none) (I:Rep (aK X e) z):Rep X z:=⟨⟨I.md,I.fm,h,I.bs,I.gh,I.rl,I.rn,I.rg,I.ob,I.fu,I.ff,I.br,I.os,I.tk⟩,⟨I.ok.un,I.ok.kd,I.ok.gl,I.ok.bl,I.ok.ci,I.ok.ch⟩,I.lo,I.ce,I.fl,I.el,I.sl,I.en,I.eo,I.od⟩
theorem Go.unsuite (g:Go (aK X e) z z'):Go X z z':=⟨g.st,g.ow⟩
theorem Rep.gone {h':ϻ} {t:Nat} {i:Nat} {x:θ} {m:θ→Option η} {v:Option η} (I:Rep X z) (hN:X.N.Nodup) (hi:X.N[i]? = some x) (hk:X.env.scope.names.lookup x=some .local) (lk:∀ (i:Nat) (x:θ) (u:η),X.N[i]? = some x→z.σ[i]? = some (some u)→Vis X.env.scope x→lE X.env z.s.heap m x u)
 (hn:h'.Ns X.env.locals (fun y=>if y=x then v else m y)) (sb:æ X.env.locals z.s.heap h') (tk:X.tz≤t:=by first | assumption | exact HR.tk (by assumption) | exact HR.tk1 (by assumption) | exact (Rep.toHR (by assumption)).tk | exact (Rep.toHR (by assumption)).tk1 | exact Ϡ (by assumption)):Rep X { z with t:=⟨z.t.env.set i none,z.t.ow.filter (· != i),z.t.st⟩,σ:=z.σ.set i none,s:={ z.s with heap:=h',toks:=t } }∧Go X z { z with t:=⟨z.t.env.set i none,z.t.ow.filter (· != i),z.t.st⟩,σ:=z.σ.set i none,s:={ z.s with heap:=h',toks:=t } }:=by
 have ne:∀ {b:φ},b≠X.env.locals→h'.get? b=z.h b:=fun n=>sb.2 _ n
 have lL:Lc X X.env.locals:=.inl rfl
 have nG:∀ {b o},z.G b=some o→b≠X.env.locals:=fun e q=>by rw [q,(I.fl _ lL).1] at e;cases e
 have nM:∀ {b},Mu z.ρ b→b≠X.env.locals:=fun m q=>(I.fl _ lL).2 (q ▸ m)
 obtain ⟨oL,es,ep,hoL,hdL,_⟩:=id hn
 have ck:∀ y c u,X.env.cells.lookup y=some c→z.s.heap.IsCell c u→h'.IsCell c u:=fun y c u e q=>q.sameBut sb (I.cne y c e)
 have hiσ:i<z.σ.length:=by rw [I.sl];exact (κ.mp hi).1
 have mf:∀ {j},j∈z.t.ow.filter (· != i)→j∈z.t.ow∧j≠i:=fun m=>⟨(ϔ.mp m).1,by simpa using (ϔ.mp m).2⟩
 have fu:h'.FunFrames X.base X.fr:=jt (fun b o e nf=>by
  by_cases q:b=X.env.locals
  ·subst q;exact ⟨oL,hoL,fun vs e=>by rw [hdL] at e;cases e⟩
  ·exact ⟨o,(ne q).trans e,nf⟩) I.fu
 refine ⟨⟨⟨I.md,I.fm,I.hd,I.bs,fun b o e=>(ne (nG e)).trans (I.gh b o e),I.rl,I.rn,I.rg,fun n o p h1 h2=>(I.ob n o p h1 h2).mono (μ _) (.refl _) fun b hb o e=>(ne (nM ⟨p,Ρ h2,hb⟩)).trans e,fu,I.ff,I.br,I.os,tk⟩,I.ok,⟨_,hn,fun j y u e1 e2 e3=>?_⟩,fun y c e=>let ⟨u,q⟩:=I.ce y c e;⟨u,ck y c u e q⟩,I.fl,by show (z.t.env.set i none).length=(z.σ.set i none).length;rw [ϸ,ϸ];exact I.el,by show (z.σ.set i none).length=_;rw [ϸ];exact I.sl,fun j d n e=>?_,fun j mj=>?_,fun j k a m1 m2 e1 e2=>?_⟩,⟨⟨μ _,.refl _,fun _ _ e=>.inl e,fun _ m=>.inl m,fun b o e=>?_,fun b o e _ w _=>(ne fun q=>w (.inr (.inl q))).trans e,fun b o e _ w _=>⟨o.slots,(ne fun q=>w (.inr (.inl q))).trans e⟩⟩,fun b ⟨j,mj,e⟩=>?_⟩⟩
 ·by_cases q:j=i
  ·subst q
   rw [ϟ hiσ] at e2;cases e2
  ·rw [Φ (ϳ q)] at e2
   rcases lk j y u e1 e2 e3 with ⟨k,e⟩ | ⟨k,c,e,w⟩
   ·have:y≠x:=fun e=>q (gY hN e1 (e ▸ hi))
    exact .inl ⟨k,by simp [this,e]⟩
   ·exact .inr ⟨k,c,e,ck y c _ e w⟩
 ·have e:(z.t.env.set i none)[j]? = some (some d):=e
  by_cases q:j=i
  ·subst q
   rw [ϟ (by rw [I.el];exact hiσ)] at e;cases e
  ·rw [Φ (ϳ q)] at e
   obtain ⟨u,e1,r⟩:=I.en j d (fun m=>n (ϔ.mpr ⟨m,by simpa using q⟩)) e
   exact ⟨u,(Φ (ϳ q)).trans e1,r⟩
 ·obtain ⟨m1,q⟩:=mf mj
  obtain ⟨d,a,o,h1,h2,h3,r,f⟩:=I.eo j m1
  exact ⟨d,a,o,(Φ (ϳ q)).trans h1,(Φ (ϳ q)).trans h2,h3,r.mono (μ _) (.refl _) fun b hb o e=>(ne fun w=>f.2.2.2 (by rcases hb with rfl | rfl <;> exact .inl w)).trans e,f⟩
 ·obtain ⟨a1,q1⟩:=mf m1
  obtain ⟨a2,q2⟩:=mf m2
  exact I.od j k a a1 a2 ((Φ (ϳ q1)).symm.trans e1) ((Φ (ϳ q2)).symm.trans e2)
 ·by_cases q:b=X.env.locals
  ·subst q;exact ⟨oL,hoL⟩
  ·exact ⟨o,(ne q).trans e⟩
 ·obtain ⟨m1,q⟩:=mf mj
  exact .inl ⟨j,m1,(Φ (ϳ q)).symm.trans e⟩
theorem ux {a T:φ} {fl cls:η} {dx:Option φ} (x:Stp X.fr w z z') (I:Rep X z') (r:XR X.W z' c l cls dx) (na:Nob X z z' a) (t:Tr z'.s.heap a cls dx T fl):∃ z2,z2.s=z'.s∧z2.t=z'.t∧Stp X.fr w z z2∧(∀ b,Own z2 b↔Own z' b)∧Rep X z2∧RD X.W z2.ρ z2.G (.ins c l) (.ref a)∧(z2.σ=z'.σ):=by
 obtain ⟨oe,vs,_,_,he,⟨hc,hd⟩,hda,_⟩:=t
 have gg:Sub z'.G fun b=>if b=a then some oe else z'.G b:=fun b o q=>by
  dsimp only
  by_cases c:b=a
  ·subst c;rw [na.2.1.1] at q;cases q
  ·rw [ZY c];exact q
 have rd:RD X.W z'.ρ (fun b=>if b=a then some oe else z'.G b) (.ins c l) (.ref a):=by
  obtain ⟨i,h1,h2,h3,h4,h5⟩:=r
  subst h3
  rcases h5 with ⟨rfl,rfl⟩ | ⟨d,od,us,rfl,h6,h7,h8⟩
  ·exact ⟨a,i,[],rfl,h1,h4,.inr ⟨h2,oe,vs,ZZ rfl,hc,hda,.inl ⟨by simp,hd⟩⟩,rfl⟩
  ·exact ⟨a,i,us,rfl,h1,h4,.inr ⟨h2,oe,vs,ZZ rfl,hc,hda,.inr ⟨d,od,hd,gg _ _ h6,h7⟩⟩,h8.mono (μ _) gg⟩
 refine ⟨{ z' with G:=fun b=>if b=a then some oe else z'.G b },rfl,rfl,⟨x.pr,x.gg.trans gg,fun b o q=>?_,x.rn,x.th,x.sm,x.sl⟩,fun _=>.rfl,I.grw I.tk rfl I.br (fun _ _ e _=>e) (fun _ o e=>⟨o.slots,e⟩) gg (fun b o q=>?_) fun b o q=>?_,rd,rfl⟩
 all_goals
  have q:(if b=a then some oe else z'.G b)=some o:=q
  by_cases c:b=a
 ·subst c;exact .inr (.inl na.1)
 ·rw [ZY c] at q;exact x.gn b o q
 ·subst c;rw [ZZ rfl] at q;cases q;exact he
 ·rw [ZY c] at q;exact I.gh b o q
 ·subst c;exact .inr na.2
 ·rw [ZY c] at q;exact .inl q
def pB (X:Cx) (j:Nat) (x:θ):Prop:=∃ i,X.W.ci[j]? = some i∧X.mg x=some (.ref i.ad)∧jX X.K i.ad∧∀ c k ic,X.Γ.cl[c]? = some k→X.W.ci[c]? = some ic→X.W.what[c]? = some 2→ϖ X.K ic.ad (.ref i.ad)=some (c == j || k.sup.contains j)
def HL (X:Cx) (hs:List ą) (r:S):Prop:=∀ (z z1:Z) (c:Nat) (l:List D) (e:η) (o:am),XN X (Pv X z) z z1 c l e .none→(∀ a,Own z1 a→Own z a∨z.h a=none)→o=exS.hnd X.Γ X.cal X.cal1 r c l z1.t→o≠.bad→Α X.M X.A (handleBy e X.env hs) (Ps X z o) (PxS X z o) z1.s
theorem yi (F:dL X):HL X [] .skip:=fun z z1 c l e o hn ow e0 nb=>by
 obtain ⟨L,hL⟩:=F.frame
 have e0:o = .exc c l z1.t:=e0
 refine wpAny_handleBy_nil ?_
 obtain ⟨a,T,cls,dx,e1,_,_,_,_,t,_⟩:=id hn
 subst e1
 unfold HH
 obtain ⟨oe,vs,oT,ts,he,hc,hd,h1,r⟩:=id t
 refine ζ (È he hd h1 ?_)
 rw [ZY (show ¬ ((Ç T == Ϣ)=true) by simp),hL]
 refine ζ (bK (z':=z1) (fr:=some L) hn fun h2 hn2=>wpAny_throw ?_)
 obtain ⟨a',T',cls',dx',e1,x2,I2,r2,na2,t2,nT2⟩:=hn2
 exact ⟨{ z1 with s:={ z1.s with heap:=h2 } },c,l,rfl,e0,⟨x2,ow⟩,I2,a',cls',dx',e1,r2,na2,.inr ⟨T',_,t2,.inr ⟨L,hL,rfl⟩,nT2⟩⟩
theorem Be {j i:Nat} {Bn n:θ} {np hpos:ϥ} {hs:List ą} {suite:List Ò} {b₀:Ò} {b r:S} (hS:∀ e,LSs (aK X e) (b₀ :: suite) b) (hx:pB X j Bn) (hg:Gl X Bn) (hdb:(Bn == ("__debug__":θ))=false) (hN:X.N.Nodup) (hi:X.N[i]? = some n) (hl:X.env.scope.names.lookup n=some .local) (hr:HL X hs r):HL X (.ExceptHandler (some (.Name Bn np)) (some n) (b₀ :: suite) hpos :: hs) (.hand j (some i) b r):=fun z z1 c l e o hn3 ow1 e0 nb=>by
 have e0:o=(match cZ X.Γ j c with
  | some true=>(match X.ex b ⟨z1.t.env.set i (some (.ins c l)),z1.t.ow.filter (· != i),z1.t.st⟩ with
    | .nx s=>.nx ⟨s.env.set i none,s.ow.filter (· != i),s.st⟩
    | .rt d s=>.rt d s
    | _=>.bad)
  | some false=>exS.hnd X.Γ X.cal X.cal1 r c l z1.t
  | none=>.bad):=e0
 obtain ⟨p,T,cls,dx,rfl,x3,I3,r3,na3,t3,nT3⟩:=id hn3
 refine Hl (GY ?_) (fun z=>nomatch z)
 obtain ⟨ic,w1,w2,w3,w4⟩:=hx
 obtain ⟨i2,v1,v2,v3,v4,v5⟩:=id r3
 cases ek:X.Γ.cl[c]? with
 | none=>exact ZX (by rw [e0];unfold cZ;rw [ek];rfl) nb
 | some k=>
   have hsub:=w4 c k i2 ek v1 v2
   rw [show cZ X.Γ j c=some (c == j || k.sup.contains j) by unfold cZ;rw [ek];rfl] at e0
   generalize (c == j || k.sup.contains j)=kk at e0 hsub
   refine aR (X:=aK X (.ref p)) (z:=z1) I3.suite hg w2 ?_ hdb
   obtain ⟨oe,vs,oT,tt,he,⟨hcl,hdi⟩,hda,_⟩:=id t3
   refine gS I3.toHR.kin w3 he (hcl.trans v3) hsub ?_
   cases kk with
   | false=>exact hr z z1 c l _ o hn3 ow1 e0 nb
   | true=>
     have e0:o=(match X.ex b ⟨z1.t.env.set i (some (.ins c l)),z1.t.ow.filter (· != i),z1.t.st⟩ with
      | .nx s=>.nx ⟨s.env.set i none,s.ow.filter (· != i),s.st⟩
      | .rt d s=>.rt d s
      | _=>.bad):=e0
     show ĳ _ _ _ _ _
     refine codeAny_handlers_suite_as (bK (z':=z1) (fr:=none) hn3 fun h4 hn4=>?_)
     obtain ⟨p',T',cls',dx',ep,x4,I4,r4,na4,t4,nT4⟩:=hn4
     cases ep
     obtain ⟨z5,e5,t5,x5,o5,I5,rd5,s5⟩:=ux x4 I4 r4 na4 t4
     rw [show ({ z1.s with heap:=h4 }:ς)=z5.s from e5.symm]
     have g5:Go X z z5:=⟨x5,fun b ob=>ow1 b ((o5 b).mp ob)⟩
     refine bF (X:=aK X (.ref p)) (own:=false) (d:=.ins c l) (z:=z5) (z0:=z5) .refl I5.suite hN hi (.inl hl) rd5 fun s6 a6 _ _ I6 g6=>?_
     have t6:stV z5.t i (.ins c l) false=⟨z1.t.env.set i (some (.ins c l)),z1.t.ow.filter (· != i),z1.t.st⟩:=by rw [show z5.t=z1.t from t5];rfl
     rw [← t6] at e0
     have nb6:(aK X (.ref p)).ex b (stV z5.t i (.ins c l) false)≠.bad:=fun q=>nb (by rw [e0,show X.ex b (stV z5.t i (.ins c l) false) = .bad from q])
     refine Η (hS (.ref p) { z5 with t:=stV z5.t i (.ins c l) false,σ:=z5.σ.set i (some (.ref p)),s:=s6 } I6 nb6) (fun f s7 h7=>?_) fun e s7 ⟨z7,c7,l7,_,q7,_,_,_⟩=>ZX (by rw [e0,show X.ex b (stV z5.t i (.ins c l) false)=_ from q7]) nb
     have fin:∀ z7,z7.s=s7→Go (aK X (.ref p)) { z5 with t:=stV z5.t i (.ins c l) false,σ:=z5.σ.set i (some (.ref p)),s:=s6 } z7→Rep (aK X (.ref p)) z7→(∀ z8,z8.t=⟨z7.t.env.set i none,z7.t.ow.filter (· != i),z7.t.st⟩→z8.ρ=z7.ρ→z8.G=z7.G→Go X z z8→Rep X z8→Ps X z o f z8.s)→Α X.M X.A (do bindName X.env n .none;D0 X.env n hpos) (fun _ s3=>Ps X z o f s3) (PxS X z o) s7:=fun z7 e7 g7 I7 hh=>by
      subst e7
      have J7:=I7.unsuite I3.hd
      obtain ⟨m,hn,lk⟩:=id J7.lo
      refine qz hl hn (by rw [I3.ok.kd];rfl) fun h8 v n8 s8=>?_
      obtain ⟨I8,g8⟩:=J7.gone (t:=z7.s.toks+1) hN hi hl lk n8 s8
      exact hh { z7 with t:=⟨z7.t.env.set i none,z7.t.ow.filter (· != i),z7.t.st⟩,σ:=z7.σ.set i none,s:={ z7.s with heap:=h8,toks:=z7.s.toks+1 } } rfl rfl rfl (((g5.trans g6.unsuite).trans g7.unsuite).trans g8) I8
     cases q7:X.ex b (stV z5.t i (.ins c l) false) with
     | nx t7=>
       rw [show (aK X (.ref p)).ex b (stV z5.t i (.ins c l) false) = .nx t7 from q7] at h7
       rw [q7] at e0
       obtain ⟨rfl,z7,e7,et7,g7,I7⟩:=h7
       refine fin z7 e7 g7 I7 fun z8 e8 _ _ g8 I8=>nxt g8 I8 ?_
       rw [e0,e8,et7]
     | rt d t7=>
       rw [show (aK X (.ref p)).ex b (stV z5.t i (.ins c l) false) = .rt d t7 from q7] at h7
       rw [q7] at e0
       obtain ⟨u,z7,rfl,e7,et7,g7,I7,rd7⟩:=h7
       refine fin z7 e7 g7 I7 fun z8 e8 r8 G8 g8 I8=>?_
       rw [e0]
       exact ⟨u,z8,rfl,rfl,by rw [e8];exact et7,g8,I8,by rw [r8,G8];exact rd7⟩
     | exc c7 l7 t7=>rw [q7] at e0;exact ZX e0 nb
     | bad=>exact ZX q7 nb6
theorem Bf {j:Nat} {Bn:θ} {np hpos:ϥ} {hs:List ą} {suite:List Ò} {b₀:Ò} {b r:S} (hS:∀ e,LSs (aK X e) (b₀ :: suite) b) (hx:pB X j Bn) (hg:Gl X Bn) (hdb:(Bn == ("__debug__":θ))=false) (hr:HL X hs r):HL X (.ExceptHandler (some (.Name Bn np)) none (b₀ :: suite) hpos :: hs) (.hand j none b r):=fun z z1 c l e o hn3 ow1 e0 nb=>by
 have e0:o=(match cZ X.Γ j c with
  | some true=>(match X.ex b z1.t with | .nx s=>.nx s | .rt d s=>.rt d s | _=>.bad)
  | some false=>exS.hnd X.Γ X.cal X.cal1 r c l z1.t
  | none=>.bad):=e0
 obtain ⟨p,T,cls,dx,rfl,x3,I3,r3,na3,t3,nT3⟩:=id hn3
 refine Hl (GY ?_) (fun z=>nomatch z)
 obtain ⟨ic,w1,w2,w3,w4⟩:=hx
 obtain ⟨i2,v1,v2,v3,v4,v5⟩:=id r3
 cases ek:X.Γ.cl[c]? with
 | none=>exact ZX (by rw [e0];unfold cZ;rw [ek];rfl) nb
 | some k=>
   have hsub:=w4 c k i2 ek v1 v2
   rw [show cZ X.Γ j c=some (c == j || k.sup.contains j) by unfold cZ;rw [ek];rfl] at e0
   generalize (c == j || k.sup.contains j)=kk at e0 hsub
   refine aR (X:=aK X (.ref p)) (z:=z1) I3.suite hg w2 ?_ hdb
   obtain ⟨oe,vs,oT,tt,he,⟨hcl,hdi⟩,hda,_⟩:=id t3
   refine gS I3.toHR.kin w3 he (hcl.trans v3) hsub ?_
   cases kk with
   | false=>exact hr z z1 c l _ o hn3 ow1 e0 nb
   | true=>
     have e0:o=(match X.ex b z1.t with | .nx s=>.nx s | .rt d s=>.rt d s | _=>.bad):=e0
     show ĳ _ _ _ _ _
     refine codeAny_handlers_suite (bK (z':=z1) (fr:=none) hn3 fun h4 hn4=>?_)
     obtain ⟨p',T',cls',dx',ep,x4,I4,r4,na4,t4,nT4⟩:=hn4
     cases ep
     have g4:Go X z { z1 with s:={ z1.s with heap:=h4 } }:=⟨x4,ow1⟩
     have nb6:(aK X (.ref p)).ex b z1.t≠.bad:=fun q=>nb (by rw [e0,show X.ex b z1.t = .bad from q])
     refine Η (hS (.ref p) { z1 with s:={ z1.s with heap:=h4 } } I4.suite nb6) (fun f s7 h7=>?_) fun e s7 ⟨z7,c7,l7,_,q7,_,_,_⟩=>ZX (by rw [e0,show X.ex b z1.t=_ from q7]) nb
     cases q7:X.ex b z1.t with
     | nx t7=>
       rw [show (aK X (.ref p)).ex b z1.t = .nx t7 from q7] at h7
       rw [q7] at e0
       obtain ⟨rfl,z7,e7,et7,g7,I7⟩:=h7
       subst e7
       exact nxt (g4.trans g7.unsuite) (I7.unsuite I3.hd) (by rw [e0,et7])
     | rt d t7=>
       rw [show (aK X (.ref p)).ex b z1.t = .rt d t7 from q7] at h7
       rw [q7] at e0
       obtain ⟨u,z7,rfl,e7,et7,g7,I7,rd7⟩:=h7
       subst e7
       show Ps X z o (.ret u) z7.s
       rw [e0]
       exact ⟨u,z7,rfl,rfl,et7,g4.trans g7.unsuite,I7.unsuite I3.hd,rd7⟩
     | exc c7 l7 t7=>rw [q7] at e0;exact ZX e0 nb
     | bad=>exact ZX q7 nb6
theorem za {h0:ą} {hs:List ą} {pos:ϥ} {body:List Ò} {a r:S} (F:dL X) (hb:LSs X body a) (hh:HL X (h0 :: hs) r):LS X (.Try body (h0 :: hs) [] [] pos) (.try_ a r):=fun z I nb=>by
 have e0:X.ex (.try_ a r) z.t=(match X.ex a z.t with
  | .exc c l s=>exS.hnd X.Γ X.cal X.cal1 r c l s
  | r=>r):=rfl
 generalize X.ex (.try_ a r) z.t=o at e0 nb
 have nb1:X.ex a z.t≠.bad:=fun q=>nb (by rw [e0,q])
 refine wpAny_Try_except (Η (hb z I nb1) (fun f s1 h=>?_) fun e s1 h=>?_)
 ·cases q:X.ex a z.t with
  | nx t=>rw [q] at h e0;obtain ⟨rfl,h⟩:=h;exact ī (show Ps X z o .next s1 by rw [e0];exact ⟨rfl,h⟩)
  | rt d t=>rw [q] at h e0;obtain ⟨u,z',rfl,h⟩:=h;exact show Ps X z o (.ret u) s1 by rw [e0];exact ⟨u,z',rfl,h⟩
  | exc c l t=>rw [q] at h;exact h.elim
  | bad=>exact ZX q nb1
 ·obtain ⟨z1,c,l,e1,q1,x1,I1,xo⟩:=h
  subst e1
  rw [q1] at e0
  exact eQ F x1.st I1 xo fun L h2 hL hn2=>bK (z':={ z1 with s:={ z1.s with heap:=h2 } }) (fr:=none) hn2 fun h3 hn3=>hh z { z1 with s:={ z1.s with heap:=h3 } } c l e o hn3 x1.ow e0 nb
end
end L2.Ev
end
section
namespace L2.Ev
open PySem.W
theorem iS {K:Frag} {C p:φ} (Y:bX K C):KitX K (.ref p) (.ref C) (fun h=>∃ o od,InstAt h p o C od) where
 ty:=fun M h _ z=>let ⟨_,_,I⟩:=z;I.type
 it:=fun M h X _=>nQ X Y.is
 ne:=fun h tp dd its n sl X e=>by
  obtain ⟨c',d',cd',sl',hk⟩:=rc Y.is
  refine ZU.mpr fun z=>?_
  cases z
  rw [X _ _ hk] at e
  cases e
 ca:=fun {prog w A E Q s} X z hq=>by
  obtain ⟨_,_,I⟩:=z
  obtain ⟨h,g,d,t,os⟩:=s
  exact lP Y X I hq
theorem vj {K:Frag} {C J:φ} {b:Bool} (Y:jX K J) (h:mroIn K C (.ref J)=some b) (hs:C=J→b=true):kitOne K (.ref C) (.ref J)=some b:=by
 unfold kitOne
 by_cases q:C=J
 ·subst q
  rw [ZZ (by simp),hs rfl]
 ·rw [ZY (by simpa using q)]
  show (if ((clsIn K J).isSome && typeIn K (.ref J) == some (.type "type"))=true then subIn K (.ref C) (.ref J) else none)=_
  rw [ZZ (by rw [Y.is,Y.ty];rfl)]
  exact h
section
variable {X:Cx} {z:Z}
theorem jW {an:Nat→θ} (T:bO X an) {c:Nat} (h:fN X.Γ c=true):∃ k i,X.Γ.cl[c]? = some k∧cB X an c k i∧k.what=2:=by
 unfold fN at h
 split at h
 ·rename_i k e
  obtain ⟨i,ok⟩:=T c k e
  exact ⟨k,i,e,ok,by simpa using h⟩
 ·cases h
theorem yI {an:Nat→θ} {j:Nat} {x:θ} (T:bO X an) (hx:Blt X "isinstance" (.builtin "isinstance")) (ix:pB X j x) (hg:Gl X x) (hd:(x == ("__debug__":θ))=false) (ha:LE X ea a) (he:Ξ [ea,.Name x q] X.env=(false,eval ea X.env) :: Ξ [.Name x q] X.env):LE X (.Call (.Name "isinstance" p) [ea,.Name x q] [] pos) (.isX a [j]):=fun br z I nb=>by
 obtain ⟨ij,hj,hm,Y,hr⟩:=ix
 exact aH (.inl ⟨_,rfl⟩) hx he rfl I (Θ ((ha true).go .refl I rfl nb fun z1 x u y1 x1 I1 r1 e1=>Θ (aR I1 hg hm (Τ (b6 x1 I1 e1 nb fun d q=>by
  have cr:=r1.rb.cr0 I1
  cases x with
  | ins c l=>
    obtain ⟨a,i,vs,rfl,hc,hl,w,rs⟩:=(cr:RD X.W z1.ρ z1.G (.ins c l) u)
    have q:(if (fN X.Γ c && [j].all (fN X.Γ))=true then (X.Γ.cl[c]?).map fun k=>D.bl ([j].any fun j=>c == j || k.sup.contains j) else none)=some d:=q
    split at q
    ·rename_i hw
     simp only [Ĺ,List.all_nil,Bool.and_true,ω] at hw
     obtain ⟨k,i',e1,ok,w2⟩:=jW T hw.1
     obtain ⟨kj,i'',e2,okj,wj⟩:=jW T hw.2
     have e3:=ok.ci
     rw [hc] at e3;cases e3
     have e4:=okj.ci
     rw [hj] at e4;cases e4
     rw [e1] at q
     cases q
     have wc:=ok.wh
     rw [w2] at wc
     have wjj:=okj.wh
     rw [wj] at wjj
     have m1:=hr c k i e1 hc wc
     have m2:=hr j kj ij e2 hj wjj
     have K1:=vj Y m1 fun z=>by
      rw [z,m2] at m1
      simpa using m1.symm
     have J:∃ o od,InstAt z1.s.heap a o i.ad od:=by
      rcases w with ⟨w1,_⟩ | ⟨_,w⟩
      ·rw [wc] at w1;cases w1
      ·obtain ⟨o,vs,g1,g2,g3,g4⟩:=w.sub I1.gh
       rcases g4 with ⟨_,g5⟩ | ⟨d,od,g5,g6,g7⟩
       ·exact ⟨o,none,g1,g2,by unfold notCls;rw [g3],by rw [g5];trivial⟩
       ·exact ⟨o,some od,g1,g2,by unfold notCls;rw [g3],by rw [g5];exact g6⟩
     simp only [HM,List.any_nil,ĺ]
     exact kia_one (iS (ok.xc w2).1) I1.toHR.kin J K1 (fun z=>nomatch z) fun tk=>.old I1 .tok rfl
    ·cases q
  | _=>cases q)) hd)))
end
end L2.Ev
end
section
namespace L2.Ev
structure Pri (X:Cx) (p:φ) (nm:List θ) (P:List φ→List (θ×η)→ϻ→Prop):Prop where
 ex:∀ {ch l h},P ch l h→∀ b∈ch,∃ o,h.get? b=some o
 keep:∀ {ch l h h'},P ch l h→(∀ b∈ch,∀ o,h.get? b=some o→h'.get? b=some o)→P ch l h'
 set:∀ {A:ϙ} {s:ς} {ch:List φ} {l:List (θ×η)} {f:θ} {v:η} {Q:Unit→ς→Prop} {E:η→ς→Prop},X.K.In s.heap→P ch l s.heap→f∈nm→f ∉ l.map (·.1)→l.length<900 →
  (∀ h' ch' t,P ch' (l ++ [(f,v)]) h'→(∀ b∈ch',b∈ch∨s.heap.get? b=none)→(∀ b∈ch,b∈ch')→(∀ b o,b ∉ ch→s.heap.get? b=some o→h'.get? b=some o)→Q () { s with heap:=h',toks:=t })→Α X.M A (Fk (.ref p) f v) Q E s
theorem iV {f:θ} {v:η}:∀ {l:List (θ×η)},f ∉ l.map (·.1)→∀ g,(l ++ [(f,v)]).lookup g=if g=f then some v else l.lookup g
 | [],_,g=>by
   show (match g == f with | true=>some v | false=>none)=if g=f then some v else none
   by_cases c:g=f
   ·rw [ZZ c,beq_iff_eq.mpr c]
   ·rw [ZY c,ZU.mpr c]
 | (a,b) :: r,h,g=>by
   have h':f≠a∧f ∉ r.map (·.1):=by simpa using h
   have ih:=iV (v:=v) h'.2 g
   show (match g == a with | true=>some b | false=>(r ++ [(f,v)]).lookup g)=if g=f then some v else (match g == a with | true=>some b | false=>r.lookup g)
   by_cases c:g=a
   ·have gf:g≠f:=fun w=>h'.1 (w.symm.trans c)
    rw [beq_iff_eq.mpr c,ZY gf]
   ·rw [ZU.mpr c];exact ih
theorem ut (l:List (θ×η)):HI (fun n=>l.lookup n) (l.map (·.1)):=fun y hy=>by
 cases q:l.lookup y with
 | none=>exact ZX q hy
 | some u=>
   obtain ⟨l1,l2,e1,_⟩:=Fh.mp q
   rw [e1];simp
section
variable {X:Cx} {z z' z0 z1:Z} {p C:φ} {nm:List θ}
theorem oU (Z:gj X.K C) (na:∀ f∈nm,Υ X.K (.ref C) f=some none):Pri X p nm (fun ch l h=>∃ o vs,h.get? p=some o∧o.cls = .ref C∧o.data = .fields vs∧vs[1]? = some .none∧((l = []∧o.dict=none∧ch = [p])∨∃ d od,o.dict=some d∧d≠p∧ch = [p,d]∧h.get? d=some od∧NsO od l)) where
 ex:=fun ⟨o,vs,h1,_,_,_,h5⟩ b hb=>by
  rcases h5 with ⟨_,_,e⟩ | ⟨d,od,_,_,e,h6,_⟩
  ·rw [e] at hb;rw [ε.mp hb];exact ⟨o,h1⟩
  ·rw [e] at hb
   rcases υ.mp hb with w | w
   ·rw [w];exact ⟨_,h1⟩
   ·rw [ε.mp w];exact ⟨od,h6⟩
 keep:=fun ⟨o,vs,h1,h2,h3,h4,h5⟩ k=>by
  rcases h5 with ⟨a,b,e⟩ | ⟨d,od,a,b,e,h6,h7⟩
  ·exact ⟨o,vs,k p (by rw [e];simp) _ h1,h2,h3,h4,.inl ⟨a,b,e⟩⟩
  ·exact ⟨o,vs,k p (by rw [e];simp) _ h1,h2,h3,h4,.inr ⟨d,od,a,b,e,k d (by rw [e];simp) _ h6,h7⟩⟩
 set:=fun {A s ch l f v Q E} hK ⟨o,vs,h1,h2,h3,h4,h5⟩ hf hn hz hq=>by
  refine qe (mA:=fun n=>l.lookup n) (ns:=l.map (·.1)) hK Z (na f hf) h1 h2 h3 ?_ (ut l) (by rw [Β];omega) fun h' d t g1 ne n k ds=>?_
  ·rcases h5 with ⟨rfl,b,_⟩ | ⟨d,od,a,b,_,h6,es,ep,h7⟩
   ·exact .inl ⟨b,fun _=>rfl⟩
   ·exact .inr ⟨d,a,b,od,es,ep,h6,h7⟩
  ·obtain ⟨od2,es,ep,e1,e2,e3,e4,e5⟩:=n
   refine hq h' [p,d] t ⟨_,vs,g1,h2,h3,h4,.inr ⟨d,od2,rfl,ne,rfl,e1,es,ep,e2,e3,e4,fun n=>(e5 n).trans (iV hn n).symm⟩⟩ (fun b hb=>?_) (fun b hb=>?_) fun b u nb e=>?_
   ·rcases h5 with ⟨_,b1,e⟩ | ⟨d',od,a,_,e,_⟩
    ·rcases υ.mp hb with w | w
     ·left;rw [e,w];simp
     ·rw [ε.mp w]
      rcases ds with q | ⟨_,q⟩
      ·rw [b1] at q;cases q
      ·exact .inr q
    ·rcases ds with q | ⟨q,_⟩
     ·rw [a] at q;cases q;rw [e];exact .inl hb
     ·rw [a] at q;cases q
   ·rcases h5 with ⟨_,b1,e⟩ | ⟨d',od,a,_,e,_⟩
    ·rw [e] at hb;rw [ε.mp hb];simp
    ·rcases ds with q | ⟨q,_⟩
     ·rw [a] at q;cases q;rw [e] at hb;exact hb
     ·rw [a] at q;cases q
   ·have np:b≠p:=fun w=>by
     rcases h5 with ⟨_,_,e'⟩ | ⟨_,_,_,_,e',_⟩ <;> exact nb (by rw [e',w];simp)
    refine k b u np (fun w=>?_) e
    rcases ds with q | ⟨_,q⟩
    ·rcases h5 with ⟨_,b1,_⟩ | ⟨d',od,a,_,e',_⟩
     ·rw [b1] at q;cases q
     ·rw [a] at q;cases q;exact nb (by rw [e',w];simp)
    ·rw [w,q] at e;cases e
def Bas (X:Cx) (p:φ) (P:List φ→List (θ×η)→ϻ→Prop):Prop:=∀ {A:ϙ} {s:ς} {ch:List φ} {l:List (θ×η)} {ur:List η} {Q:η→ς→Prop} {E:η→ς→Prop},X.K.In s.heap→P ch l s.heap→ur.length≤ϝ →
 (∀ h',P ch l h'→(∀ b∈ch,∃ o,h'.get? b=some o)→(∀ b o,b ∉ ch→s.heap.get? b=some o→h'.get? b=some o)→Q .none { s with heap:=h' })→Α X.M A (call (.builtin "ValueError.__init__") (.ref p :: ur)) Q E s
theorem uJ {fI:φ} (O:im X.K C fI veB "ValueError.__new__") (Pr:Pri X p nm fun ch l h=>∃ o vs,h.get? p=some o∧o.cls = .ref C∧o.data = .fields vs∧vs[1]? = some .none∧((l = []∧o.dict=none∧ch = [p])∨∃ d od,o.dict=some d∧d≠p∧ch = [p,d]∧h.get? d=some od∧NsO od l)):Bas X p (fun ch l h=>∃ o vs,h.get? p=some o∧o.cls = .ref C∧o.data = .fields vs∧vs[1]? = some .none∧((l = []∧o.dict=none∧ch = [p])∨∃ d od,o.dict=some d∧d≠p∧ch = [p,d]∧h.get? d=some od∧NsO od l)):=fun {A s ch l ur Q E} K2 hP lz hq=>by
 have F:=E5
 obtain ⟨ob,fv,e1,e2,e3,e4,e5⟩:=id hP
 obtain ⟨nm',q',N,bs,bm,hdct,sn,sub,ab,col,dd,k0,k1,k2,k3,k5,l',tl⟩:=O.at_
 have sz:1<fv.size:=by
  cases Iq 1 fv.size with
  | inl h=>exact h
  | inr h=>rw [Array.getElem?_eq_none h] at e4;cases e4
 have z0:0<fv.size:=Nat.lt_of_succ_lt sz
 obtain ⟨h2,g2,d2,t2,o2⟩:=s
 refine Č (ß F.init.plain F.initEntry (wpAny_check_init_subT F (FA K2 tl) (K2 _ _ l') e1 e2 ?_))
 have e1':=Ζ (h:=h2) { cls:=.type "tuple",data:=.seq ur.toArray } e1
 obtain ⟨f0,e0⟩:∃ f0,fv[0]? = some f0:=⟨_,EG z0⟩
 unfold Ft.«BaseException.__init__» Ge
 refine ζ (wpAny_newTuple ?_ lz)
 refine ζ (ζ (È e1' e3 e0 (ζ (ž e1' e3 z0 ?_))))
 have dT:=į e3 (·.setIfInBounds 0 (Ç h2.objs.size))
 have gs:=Æ (h:=h2.push { cls:=.type "tuple",data:=.seq ur.toArray }) (ę (·.setIfInBounds 0 (Ç h2.objs.size))) e1' (Ĕ dT)
 have ot:∀ b o,b≠p→h2.get? b=some o→((h2.push { cls:=.type "tuple",data:=.seq ur.toArray }).update p (ę (·.setIfInBounds 0 (Ç h2.objs.size)))).get? b=some o:=fun b o n e=>(ϲ _ _ (ϳ n)).trans (Ζ _ e)
 have fin:=hq ((h2.push { cls:=.type "tuple",data:=.seq ur.toArray }).update p (ę (·.setIfInBounds 0 (Ç h2.objs.size)))) ⟨_,_,gs,by rw [H3];exact e2,dT,by rw [Array.getElem?_setIfInBounds_ne (by decide)];exact e4,e5.imp (fun ⟨a,b,c⟩=>⟨a,by rw [gy];exact b,c⟩) fun ⟨d,od,a,b,c,e,f⟩=>⟨d,od,by rw [gy];exact a,b,c,ot d od b e,f⟩⟩ (fun b hb=>by
  by_cases q:b=p
  ·rw [q];exact ⟨_,gs⟩
  ·obtain ⟨o,e⟩:=Pr.ex hP b hb
   exact ⟨o,ot b o q e⟩) (fun b o n e=>ot b o (fun q=>n (by rcases e5 with ⟨_,_,c⟩ | ⟨_,_,_,_,c,_⟩ <;> (rw [c,q];simp))) e)
 cases f0 <;> first | exact π (π fin) | exact wpAny_letGo (π fin)
structure wL (K:ο) (B:φ):Prop where
 ga:Ħ K (.ref B) "__getattribute__" = some (some (.builtin "type.__getattribute__"))
 rd:PySem.W.readsIn K B (.type "type")=true
 at_:PySem.W.findCls K (.ref B) (.type "type") "__init__" = some (.val (.builtin "ValueError.__init__"))
structure FnI (X:Cx) (lv:Nat) (f:φ) (fd:á) (ps nm:List θ) (ck:Option (List Nat)):Prop where
 len:ps.length=nm.length+1
 run:∀ (A:ϙ) (fr:List ż) (z:Z) (args:Args) (us:List η) (p:φ) (P:List φ→List (θ×η)→ϻ→Prop) (ch:List φ),bq lv A→HR { X with A:=A,fr:=fr } z→Ib z.s fd args (ps.zip (.ref p :: us))→us.length=nm.length→Pri X p nm P→(∀ c,ck=some c→Bas X p P∧∀ i∈c,∃ (n:Nat) (t:Tok),us[i]? = some (.int n t)∧n<100000)→P ch [] z.s.heap→(∀ b∈ch,z.G b=none∧¬ Mu z.ρ b∧b ∉ frs fr) →
  ĳ X.M A (.call (.ref f) args) (fun r s'=>r = .ok (.ret .none)∧∃ ch',P ch' (nm.zip us) s'.heap∧(∀ b∈ch',b∈ch∨z.h b=none)∧(s'.os=z.s.os∧s'.gens=z.s.gens)∧(∀ b o,b ∉ ch→z.h b=some o→s'.heap.get? b=some o)) z.s
end
section
variable {X:Cx} {z z' z0 z1:Z}
theorem j6 {C:φ} {x:θ} {Q:η→ς→Prop} {E:η→ς→Prop} (I:Rep X z) (kp:Ϝ X.K (.ref C)=true) (hg:Gl X x) (hm:X.mg x=some (.ref C)) (hd:(x == ("__debug__":θ))=false) (he:Ξ (ea :: er) X.env=(false,eval ea X.env) :: Ξ er X.env) (hpl:(Ö pos (Ξ er X.env)).any (·.1)=false)
 (h:Α X.M X.A (spliced (Ö pos (Ξ (ea :: er) X.env))) (fun us s'=>X.K.In s'.heap∧Α X.M X.A (call (.ref C) us) Q E s') E z.s):Α X.M X.A (eval (.Call (.Name x p) (ea :: er) [] pos) X.env) Q E z.s:=
 č (aR I hg hm (ğ (h₀:=X.base) I.md.kin kp h he hpl) hd)
theorem yM {x:θ} {j:Nat} {cl:Cl} {i:CI} (F:bR X X.cal1 lv cl.init f) (hr:bq (lv+1) X.A) (M:Mk X.K i.ad f) (hcl:X.Γ.cl[j]? = some cl) (hw:cl.what=0) (hci:X.W.ci[j]? = some i) (hwh:X.W.what[j]? = some 0) (hg:Gl X x) (hm:X.mg x=some (.ref i.ad)) (ha:LA X (ea :: er) es) (hd:(x == ("__debug__":θ))=false) (he:Ξ (ea :: er) X.env=(false,eval ea X.env) :: Ξ er X.env) (hpl:(Ö pos (Ξ er X.env)).any (·.1)=false):LE X (.Call (.Name x p) (ea :: er) [] pos) (.new j es):=fun br z I nb=>
 j6 I M.kp hg hm hd he hpl ((ha true pos).go .refl I rfl nb fun z1 l us y1 x1 I1 r1 e1=>⟨I1.toHR.kin,pa F hr M hcl hw hci hwh x1 I1 r1 e1 nb⟩)
theorem sP {x:θ} {j:Nat} {k:Cl} {i:CI} {fd:á} {ps:List θ} {fI:φ} {Bx nwI iniI:String} {bmB:List η} {np cp pos:ϥ} (Fb:Ā Bx nwI iniI bmB) (O:im X.K i.ad fI bmB nwI) {ck:Option (List Nat)} (F:FnI X lv fI fd ps i.nm ck) (hk:ck=none∨(ck=some k.chk∧im X.K i.ad fI veB "ValueError.__new__")) (hb:bW X.K fd ps []) (hr:bq (lv+1) X.A) (Z:gj X.K i.ad) (na:∀ f∈i.nm,Υ X.K (.ref i.ad) f=some none) (hcl:X.Γ.cl[j]? = some k) (hci:X.W.ci[j]? = some i) (hwh:X.W.what[j]? = some 2) (hn:i.nm.length=k.at_.length) (h0:k.at_.isEmpty=false)
 (be:ϖ X.K i.ad (.type "BaseException")=some true) (ty:î X.K (.ref i.ad)=some (.type "type")) (kp:Ϝ X.K (.ref i.ad)=true) (hc:X.calm=true) (hg:Gl X x) (hm:X.mg x=some (.ref i.ad)) (ha:LA X (ea :: er) es) (hd:(x == ("__debug__":θ))=false) (he:Ξ (ea :: er) X.env=(false,eval ea X.env) :: Ξ er X.env) (hpl:(Ö cp (Ξ er X.env)).any (·.1)=false):LS X (.Raise (some (.Call (.Name x np) (ea :: er) [] cp)) none pos) (.rais j es):=fun z I nb=>by
 rw [arm_exec_Raise]
 refine ζ (ó (qK (K:=X.K) (C:=i.ad) be ty (I.hd hc) (ζ ?_)))
 refine j6 I kp hg hm hd he hpl ((ha false cp).gos (f:=fun l s=>if cY X.Γ j l then .exc j (gC X.Γ j l) s else .bad) .refl I rfl nb fun z1 l us y1 x1 I1 r1 e1=>⟨I1.toHR.kin,?_⟩)
 have rs:=r1.rds
 by_cases c:cY X.Γ j l=true
 rotate_left
 ·rw [ZY c] at e1;exact ZX e1 nb
 rw [ZZ c] at e1
 have ea:gC X.Γ j l=l:=by unfold gC;rw [hcl];exact ZY (by rw [h0];exact Ϫ)
 rw [ea] at e1
 unfold cY at c
 rw [hcl] at c
 dsimp only at c
 rw [ZY (by rw [h0];exact Ϫ)] at c
 simp only [ω,decide_eq_true_eq] at c
 obtain ⟨⟨⟨c1,c2⟩,c3⟩,c4⟩:=c
 have c1:l.length=k.at_.length:=by simpa using c1
 have lu:us.length=i.nm.length:=by rw [← rs.len,c1,hn]
 have l0:l≠[]:=by intro w;rw [w] at c4;simp at c4
 refine rD (h:=z1.s.heap) (g:=z1.s.gens) (d:=z1.s.drawn) (t:=z1.s.toks) (os:=z1.s.os) Fb I1.toHR.kin O (by rw [← rs.len];exact big (by omega)) fun h' p m=>?_
 have kz:∀ b o,z1.h b=some o→h'.get? b=some o:=fun b o e=>m.keeps b o e
 have np:z1.h p=none:=m.new
 obtain ⟨tt,ht,_,_⟩:=m.there
 have g:Gr z1.s { z1.s with heap:=h' }:=⟨rfl,rfl,kz⟩
 have bd:=hb { z1.s with heap:=h' } (.ref p :: us) (I1.toHR.kin.keeps kz) (by rw [Ω,Ε,F.len,lu])
 rw [Ω] at bd
 have H1:=(I1.toHR.grow (ao I1.gh g) I1.tk).at (A:=X.A.under (.builtin "type.__call__" ⟨.ref i.ad :: us,[]⟩)) (ik i.ad us []) rfl
 have fp:=I1.fre np
 refine aY I1.tk (Č (ý (F.run _ X.fr { z1 with s:={ z1.s with heap:=h' } } ⟨.ref p :: us,[]⟩ us p _ [p] (hr.make i.ad us []) H1 bd lu (oU Z na) (fun c e=>?_) ⟨_,_,ht,rfl,rfl,rfl,.inl ⟨rfl,rfl,rfl⟩⟩ fun b hb=>?_) fun r s' hq=>?_))
 ·rcases hk with w | ⟨w,O'⟩
  ·rw [w] at e;cases e
  ·rw [w] at e;cases e
   refine ⟨uJ O' (oU Z na),fun j hj=>?_⟩
   have sm:=Λ.mp c2 j hj
   cases q:l[j]? with
   | none=>rw [q] at sm;cases sm
   | some d=>
     obtain ⟨u,hu,ru⟩:=rs.get q
     rw [q] at sm
     cases d with
     | int n=>
       obtain ⟨t,rfl⟩:=ru
       unfold tX at sm
       simp only [ω,decide_eq_true_eq] at sm
       obtain ⟨m,rfl⟩:=ŉ sm.1
       exact ⟨m,t,hu,by omega⟩
     | _=>cases sm
 ·rw [ε.mp hb];exact ⟨fp.1.1,fp.1.2.1,fp.1.2.2.1⟩
 obtain ⟨rfl,ch',⟨o,vs,q1,q2,q3,q4,q5⟩,cc,os,kk⟩:=hq
 intro tk
 have gr:Gr z1.s s':=⟨os.1.trans g.os,os.2.trans g.gs,fun b o e=>kk b o (fun w=>by have e:z1.h b=some o:=e;rw [ε.mp w,np] at e;cases e) (kz b o e)⟩
 rcases q5 with ⟨w,_,_⟩ | ⟨d,od,q6,q7,q8,q9,q10⟩
 ·have:i.nm.zip us≠[]:=fun w=>by
   have hl:=rs.len
   have:0<l.length:=ġ.mpr l0
   have w0:(i.nm.zip us).length=0:=by rw [w];rfl
   rw [Ϸ] at w0
   omega
  exact ZX w this
 have nd:z1.h d=none:=by
  rcases cc d (by rw [q8];simp) with w | w
  ·exact ZX (ε.mp w) q7
  ·cases q:z1.h d with
   | none=>rfl
   | some o=>have:=kz d o q;rw [show h'.get? d=none from w] at this;cases this
 have fd:=I1.fre nd
 have gw:Grw z1 (fun b=>if b=d then some od else z1.G b) s':=⟨gr,fun b o e=>by
  by_cases c:b=d
  ·subst c;rw [fd.1.1] at e;cases e
  ·rw [ZY c];exact e,fun b o e=>by
  by_cases c:b=d
  ·subst c;rw [ZZ rfl] at e;cases e;exact q9
  ·rw [ZY c] at e;exact gr.k b o (I1.gh b o e),fun b o e=>by
  by_cases c:b=d
  ·subst c;exact .inr nd
  ·rw [ZY c] at e;exact .inl e⟩
 have I3:=I1.grow gw
 have pG:(if p=d then some od else z1.G p)=none:=by rw [ZY (ϳ q7)];exact fp.1.1
 refine ⟨rfl,ζ (ó (π ⟨p,o,vs,rfl,I3.toHR.kin,q1,q2,q3,q4,{ z1 with G:=fun b=>if b=d then some od else z1.G b,s:=s' },j,l,rfl,e1,x1.trans gw.ee.go,I3,p,.ref i.ad,some d,rfl,⟨i,hci,hwh,rfl,by rw [c1,hn];exact Ϗ _,.inr ⟨d,od,us,rfl,ZZ rfl,q10,rs.mono (μ _) gw.gg⟩⟩,⟨x1.st.no np,⟨pG,fp.1.2⟩,fp.2⟩,.inl ⟨o,vs,q1,⟨q2,q6⟩,q3,q4⟩⟩))⟩
def FnJ (X:Cx) (lv:Nat) (f:φ) (fd:á) (ps nm:List θ) (k:Cl) (C:φ):Prop:=∃ ck,FnI X lv f fd ps nm ck∧(ck=none∨(ck=some k.chk∧im X.K C f veB "ValueError.__new__"))
end
def mU (K:ο) (C:φ) (bmB:List η) (newId:String):Prop:=∃ (nm q:θ) (N:φ) (bs bm:List η) (hdct:Bool) (sn:List θ) (sub:List η) (ab:Bool) (col:Option Bool) (dd:Option φ) (k0 k1 k2 k3 k5:Option η),
 K.lookup C=some (EW nm q C N bs bm hdct sn sub ab col dd k0 k1 k2 k3 k5 newId)∧GF K N=true∧Ψ K N "__init__" = some none∧E4 K bmB bm=true
inductive TxP (X:Cx):List Ο→E→Prop
 | nil:TxP X [] .nil
 | c {x:θ} {j:Nat} {p:ϥ} {r es}:x.length≤1000→TxP X r es→TxP X (.Constant (.str x) j p :: r) es
 | f {x:θ} {i:Nat} {p q:ϥ} {r es}:X.N[i]? = some x→Vis X.env.scope x→((x == ("__debug__":θ)) || (x == ("__classdict__":θ)))=false→TxP X r es→TxP X (.FormattedValue (.Name x p) (-1) none q :: r) (.cons (.op .add (.v i) (.c (.int 0))) es)
 | r {x:θ} {i:Nat} {p q:ϥ} {r es}:X.N[i]? = some x→Vis X.env.scope x→((x == ("__debug__":θ)) || (x == ("__classdict__":θ)))=false→TxP X r es→TxP X (.FormattedValue (.Name x p) 114 none q :: r) (.cons (.op .add (.v i) (.c (.str ""))) es)
 | g {x:θ} {j:Nat} {u:η} {d:L2.Bk.Dk} {p q:ϥ} {r es}:Gl X x→X.mg x=some u→X.Γ.gl[j]? = some d→aV X.K d u=true→(x == ("__debug__":θ))=false→TxP X r es→TxP X (.FormattedValue (.Name x p) (-1) none q :: r) (.cons (.op .add (.g j) (.c (.int 0))) es)
section
variable {X:Cx} {z:Z}
theorem Co (t:Sta) (j:Nat) (es:E):X.evs false (.cons (.op .add (.g j) (.c (.int 0))) es) t = .bad∨∃ n,X.Γ.gl[j]?.map toD=some (.int n)∧X.evs false (.cons (.op .add (.g j) (.c (.int 0))) es) t=(X.evs false es t).bind fun l s=>.ok (.int (n+0) :: l) s:=by
 have h:X.evs false (.cons (.op .add (.g j) (.c (.int 0))) es) t=((Out.of t (X.Γ.gl[j]?.map toD)).bind fun x s=>Out.of s (opD .add (look s.st x) (.int 0))).bind (fun x s=>(X.evs false es s).bind fun l s=>.ok (x :: l) s):=rfl
 rw [h]
 cases X.Γ.gl[j]? with
 | none=>exact .inl rfl
 | some d=>cases d with
   | int n=>exact .inr ⟨n,rfl,rfl⟩
   | _=>exact .inl rfl
theorem Cn (t:Sta) (i:Nat) (es:E):X.evs false (.cons (.op .add (.v i) (.c (.int 0))) es) t = .bad∨∃ n,t.env[i]? = some (some (.int n))∧X.evs false (.cons (.op .add (.v i) (.c (.int 0))) es) t=(X.evs false es t).bind fun l s=>.ok (.int (n+0) :: l) s:=by
 have h:X.evs false (.cons (.op .add (.v i) (.c (.int 0))) es) t=((match t.env[i]? with | some (some d)=>Out.ok d t | _=>.bad).bind fun x s=>Out.of s (opD .add (look s.st x) (.int 0))).bind (fun x s=>(X.evs false es s).bind fun l s=>.ok (x :: l) s):=rfl
 rw [h]
 rcases q:t.env[i]? with _ | (_ | d)
 ·exact .inl rfl
 ·exact .inl rfl
 ·cases d with
  | int n=>exact .inr ⟨n,rfl,rfl⟩
  | ref n=>
    have e:opD .add (look t.st (.ref n)) (.int 0)=none:=by
     rw [show look t.st (.ref n)=(match t.st[n]? with | some (.lst l)=>.lst l | some (.dic k l)=>.dic k l | _=>.ref n) from rfl]
     rcases t.st[n]? with _ | (_ | _ | _) <;> rfl
    refine .inl ?_
    show (Out.of t (opD .add (look t.st (.ref n)) (.int 0))).bind _=_
    rw [e];rfl
  | _=>exact .inl rfl
theorem Cq (t:Sta) (i:Nat) (es:E):X.evs false (.cons (.op .add (.v i) (.c (.str ""))) es) t = .bad∨∃ x,t.env[i]? = some (some (.str x))∧X.evs false (.cons (.op .add (.v i) (.c (.str ""))) es) t=(X.evs false es t).bind fun l s=>.ok (.str (x ++ ("":θ)) :: l) s:=by
 have h:X.evs false (.cons (.op .add (.v i) (.c (.str ""))) es) t=((match t.env[i]? with | some (some d)=>Out.ok d t | _=>.bad).bind fun x s=>Out.of s (opD .add (look s.st x) (.str ""))).bind (fun x s=>(X.evs false es s).bind fun l s=>.ok (x :: l) s):=rfl
 rw [h]
 rcases q:t.env[i]? with _ | (_ | d)
 ·exact .inl rfl
 ·exact .inl rfl
 ·cases d with
  | str x=>
    by_cases c:x.length+("":θ).length≤100000
    ·have e:opD .add (look t.st (.str x)) (.str "")=some (.str (x ++ ("":θ))):=by show fP _ _=_;unfold fP;rw [ZZ c]
     refine .inr ⟨x,rfl,?_⟩
     show (Out.of t (opD .add (look t.st (.str x)) (.str ""))).bind _=_
     rw [e];rfl
    ·have e:opD .add (look t.st (.str x)) (.str "")=none:=by show fP _ _=_;unfold fP;rw [ZY c]
     refine .inl ?_
     show (Out.of t (opD .add (look t.st (.str x)) (.str ""))).bind _=_
     rw [e];rfl
  | ref n=>
    have e:opD .add (look t.st (.ref n)) (.str "")=none:=by
     rw [show look t.st (.ref n)=(match t.st[n]? with | some (.lst l)=>.lst l | some (.dic k l)=>.dic k l | _=>.ref n) from rfl]
     rcases t.st[n]? with _ | (_ | _ | _) <;> rfl
    refine .inl ?_
    show (Out.of t (opD .add (look t.st (.ref n)) (.str ""))).bind _=_
    rw [e];rfl
  | _=>exact .inl rfl
theorem Cp {es:List Ο} {c:E} (T:TxP X es c):∀ (t:Sta),X.evs false c t = .bad∨∃ l,X.evs false c t = .ok l t:=by
 induction T with
 | nil=>exact fun t=>.inr ⟨[],rfl⟩
 | c _ _ ih=>exact ih
 | @f x i p q r es h1 h2 h3 _ ih=>
   intro t
   rcases Cn (X:=X) t i es with h | ⟨n,_,h⟩
   ·exact .inl h
   ·rcases ih t with e | ⟨l,e⟩
    ·rw [h,e];exact .inl rfl
    ·rw [h,e];exact .inr ⟨_,rfl⟩
 | @g x j u d p q r es h1 h2 h3 h4 h5 _ ih=>
   intro t
   rcases Co (X:=X) t j es with h | ⟨n,_,h⟩
   ·exact .inl h
   ·rcases ih t with e | ⟨l,e⟩
    ·rw [h,e];exact .inl rfl
    ·rw [h,e];exact .inr ⟨_,rfl⟩
 | @r x i p q r es h1 h2 h3 _ ih=>
   intro t
   rcases Cq (X:=X) t i es with h | ⟨n,_,h⟩
   ·exact .inl h
   ·rcases ih t with e | ⟨l,e⟩
    ·rw [h,e];exact .inl rfl
    ·rw [h,e];exact .inr ⟨_,rfl⟩
theorem uD (x:θ):x ++ ("":θ)=x:=by
 cases x with
 | mk a=>show Str.mk (a ++ #[])=_;rw [Array.append_empty]
theorem ph (I:Rep X z) {i:Nat} {d:D} (e:z.t.env[i]? = some (some d)) (h:toO d=none):∃ u,z.σ[i]? = some (some u)∧RD X.W z.ρ z.G d u:=by
 refine I.en i d (fun m=>?_) e
 obtain ⟨d',a,o,e1,_,e3,_⟩:=I.eo i m
 rw [e] at e1;cases e1
 rw [h] at e3;cases e3
theorem zW {Ex:η→ς→Prop} {es:List Ο} {c:E} (T:TxP X es c):∀ {z:Z} {acc:θ} {Q:θ→ς→Prop} {l:List D},Rep X z→X.evs false c z.t = .ok l z.t→l.all i7=true→acc.length+10000 * es.length≤100000→(∀ out t,out.length≤100000→Q out { z.s with toks:=t })→Joins X.M X.A Ex (evalEach es X.env) acc Q z.s:=by
 have sz:∀ {n},n≤100000→n≤ϝ:=fun h=>ϧ h (by decide)
 induction T with
 | nil=>exact fun I hs hk hl q=>q _ _ (by simpa using hl)
 | @c x j p r es hx _ ih=>
   intro z acc Q l I hs hk hl q
   rw [Ε] at hl
   show Α _ _ (eval (.Constant (.str x) j p) X.env) _ _ _
   refine Ϩ ⟨x,_,rfl,sz (by rw [â];omega),?_⟩
   exact ih (z:={ z with s:={ z.s with toks:=z.s.toks+1 } }) (I.grow (ao I.gh .tok)) hs hk (by rw [â];omega) q
 | @f x i p p2 r es hN hv hd _ ih=>
   intro z acc Q l I hs hk hl q
   rw [Ε] at hl
   simp only [FU] at hd
   rcases Cn (X:=X) z.t i es with h | ⟨n,en,h⟩
   ·rw [h] at hs;cases hs
   rw [h] at hs
   rcases e:X.evs false es z.t with ⟨l',s'⟩ | ⟨c',y,s'⟩ | _
   ·rw [e] at hs
    cases hs
    rw [Ĺ,ω] at hk
    obtain ⟨k1,k2⟩:=hk
    unfold i7 at k1
    simp only [ω,decide_eq_true_eq] at k1
    obtain ⟨u,su,ru⟩:=ph I en rfl
    obtain ⟨tk,rfl⟩:=ru
    obtain ⟨m,rfl⟩:=ŉ (show 0≤n by omega)
    have hm:m<100000:=by omega
    have lt:=He (a:=(m:Int)) (k:=5) (by decide) hm
    have lg:(m:Int).natAbs.log2<1920:=by
     show m.log2<1920
     by_cases c:m=0
     ·subst c;decide
     ·exact Ϲ ((E8 (k:=17) c).mpr (by omega)) (by decide)
    have le:(Ñ (toString (m:Int))).length≤6:=by rw [Fm];exact lt
    refine Hk (cR I hN hv su (GV lg ⟨_,_,rfl,sz (by rw [â];omega),?_⟩) hd.1 hd.2)
    exact ih (z:={ z with s:={ z.s with toks:=z.s.toks+1+1 } }) (I.grow (ao I.gh .tok)) e k2 (by rw [â];omega) q
   ·rw [e] at hs;cases hs
   ·rw [e] at hs;cases hs
 | @g x j u d p p2 r es hg hmg hj hk0 hd _ ih=>
   intro z acc Q l I hs hk hl q
   rw [Ε] at hl
   rcases Co (X:=X) z.t j es with h | ⟨n,en,h⟩
   ·rw [h] at hs;cases hs
   rw [h] at hs
   rcases e:X.evs false es z.t with ⟨l',s'⟩ | ⟨c',y,s'⟩ | _
   ·rw [e] at hs
    cases hs
    rw [Ĺ,ω] at hk
    obtain ⟨k1,k2⟩:=hk
    unfold i7 at k1
    simp only [ω,decide_eq_true_eq] at k1
    rw [hj] at en
    have ru:RD X.W z.ρ z.G (.int n) u:=by have:=I.toHR.top hk0;rw [show toD d = .int n from Ϟ en] at this;exact this
    obtain ⟨tk,rfl⟩:=ru
    obtain ⟨m,rfl⟩:=ŉ (show 0≤n by omega)
    have hm:m<100000:=by omega
    have lt:=He (a:=(m:Int)) (k:=5) (by decide) hm
    have lg:(m:Int).natAbs.log2<1920:=by
     show m.log2<1920
     by_cases c:m=0
     ·subst c;decide
     ·exact Ϲ ((E8 (k:=17) c).mpr (by omega)) (by decide)
    have le:(Ñ (toString (m:Int))).length≤6:=by rw [Fm];exact lt
    refine Hk (aR I hg hmg (GV lg ⟨_,_,rfl,sz (by rw [â];omega),?_⟩) hd)
    exact ih (z:={ z with s:={ z.s with toks:=z.s.toks+1+1 } }) (I.grow (ao I.gh .tok)) e k2 (by rw [â];omega) q
   ·rw [e] at hs;cases hs
   ·rw [e] at hs;cases hs
 | @r x i p p2 r es hN hv hd _ ih=>
   intro z acc Q l I hs hk hl q
   rw [Ε] at hl
   simp only [FU] at hd
   rcases Cq (X:=X) z.t i es with h | ⟨n,en,h⟩
   ·rw [h] at hs;cases hs
   rw [h] at hs
   rcases e:X.evs false es z.t with ⟨l',s'⟩ | ⟨c',y,s'⟩ | _
   ·rw [e] at hs
    cases hs
    rw [Ĺ,ω] at hk
    obtain ⟨k1,k2⟩:=hk
    unfold i7 at k1
    rw [uD] at k1
    have k1:(Hc n).length≤10000:=by simpa using k1
    obtain ⟨u,su,ru⟩:=ph I en rfl
    obtain ⟨tk,rfl⟩:=ru
    have go:∀ t',X.tz≤t'→Joins X.M X.A Ex (evalEach r X.env) (acc ++ Hc n) Q { z.s with toks:=t' }:=fun t' tk=>ih (z:={ z with s:={ z.s with toks:=t' } }) (I.grow (ao I.gh .tok) tk) e k2 (by rw [â];omega) q
    refine wpAny_FormattedValue_repr (cR I hN hv su (pyReprObj_str ?_ (sz (by omega))) hd.1 hd.2)
    exact wpAny_formatField_str ⟨_,_,rfl,sz (by rw [â];omega),go _ (by first | exact I.tk | exact I.tk1 | exact I.tk2)⟩ ⟨_,_,rfl,sz (by rw [â];omega),go _ (by first | exact I.tk | exact I.tk1 | exact I.tk2)⟩ (sz (by omega))
   ·rw [e] at hs;cases hs
   ·rw [e] at hs;cases hs
inductive TxA (X:Cx):Ο→E→Prop
 | c {x:θ} {j:Nat} {p:ϥ}:x.length≤1000→TxA X (.Constant (.str x) j p) .nil
 | j {e1 e2:Ο} {r:List Ο} {p:ϥ} {es:E}:TxP X (e1 :: e2 :: r) es→r.length≤8→TxA X (.JoinedStr (e1 :: e2 :: r) p) es
theorem zX {e:Ο} {c:E} (T:TxA X e c):∀ (t:Sta),X.evs false c t = .bad∨∃ l,X.evs false c t = .ok l t:=by
 cases T with
 | c _=>exact fun t=>.inr ⟨[],rfl⟩
 | j h _=>exact Cp h
theorem wJ {e:Ο} {c:E} {Q:η→ς→Prop} {Ex:η→ς→Prop} {l:List D} (T:TxA X e c) (I:Rep X z) (hs:X.evs false c z.t = .ok l z.t) (hk:l.all i7=true) (q:∀ u t,X.tz≤t→Q u { z.s with toks:=t }):Α X.M X.A (eval e X.env) Q Ex z.s:=by
 refine aY I.tk ?_
 cases T with
 | c _=>exact Ϩ (q _ _)
 | j h hr=>exact wpAny_JoinedStr (zW h I hs hk (by rw [Ε,Ε];show 0+_≤_;omega) fun out t ho=>⟨ϧ ho (by decide),q _ _⟩)
theorem qt {x:θ} {j:Nat} {k:Cl} {i:CI} {Bx nwI iniI:String} {bmB:List η} {np cp pos:ϥ} {e:Ο} {es:E} (F:Ā Bx nwI iniI bmB) (O:mU X.K i.ad bmB nwI) (hcl:X.Γ.cl[j]? = some k) (h0:k.at_.isEmpty=true) (hci:X.W.ci[j]? = some i) (hwh:X.W.what[j]? = some 2)
 (hc:X.calm=true) (hg:Gl X x) (hm:X.mg x=some (.ref i.ad)) (T:TxA X e es) (hd:(x == ("__debug__":θ))=false) (he:Ξ [e] X.env = [(false,eval e X.env)]):LS X (.Raise (some (.Call (.Name x np) [e] [] cp)) none pos) (.rais j es):=fun z I nb=>by
 have eo:X.ex (.rais j es) z.t=(X.evs false es z.t).go fun l s=>if cY X.Γ j l then .exc j (gC X.Γ j l) s else .bad:=rfl
 rw [eo] at nb ⊢
 rcases zX T z.t with h | ⟨l,h⟩
 ·rw [h] at nb;exact ZX rfl nb
 rw [h] at nb ⊢
 have nb:(if cY X.Γ j l then am.exc j (gC X.Γ j l) z.t else .bad)≠.bad:=nb
 show Ws X _ z (if cY X.Γ j l then am.exc j (gC X.Γ j l) z.t else .bad)
 by_cases c:cY X.Γ j l=true
 rotate_left
 ·rw [ZY c] at nb;exact ZX rfl nb
 rw [ZZ c]
 have ea:gC X.Γ j l = []:=by unfold gC;rw [hcl];exact ZZ h0
 rw [ea]
 unfold cY at c
 rw [hcl] at c
 dsimp only at c
 rw [ZZ h0] at c
 obtain ⟨nm,q,N,bs,bm,hdct,sn,sub,ab,col,dd,k0,k1,k2,k3,k5,z1,z2,z3,z4⟩:=O
 have KX:X.K.In z.s.heap:=I.toHR.kin
 have T':=FA KX z4
 refine wpAny_Raise_call_subT (C:=i.ad) (N:=N) (nm:=nm) (q:=q) (bs:=bs) (bm:=bm) (hdct:=hdct) (sn:=sn) (sub:=sub) (ab:=ab) (col:=col) (dd:=dd) (k0:=k0) (k1:=k1) (k2:=k2) (k3:=k3) (k5:=k5) (mN:=z.s.heap.nsMap N) F (T'.hasType F.hasBase) (I.hd hc) ?_ (PySem.W.nsMap_none_of_in KX z2 z3) (aR I hg hm ⟨rfl,?_⟩ hd)
 ·rw [he];rfl
 ·rw [he]
  show Α _ _ (evalArgs (.ref i.ad) true ((false,eval e X.env) :: Ö cp []) []) _ _ _
  refine ϣ (Θ (wJ T I h c fun u t tk=>Τ ?_))
  refine ⟨rfl,by show 1≤ϝ;rw [í];decide,KX _ _ z1,Heap.Ns.of_isNs (PySem.W.isNs_of_in KX z2),T',fun h' a m=>?_⟩
  have kz:∀ b o,z.h b=some o→h'.get? b=some o:=fun b o e=>m.keeps b o e
  have np:z.h a=none:=m.new
  obtain ⟨tt,ht,_,_⟩:=m.there
  have g:Gr z.s { z.s with heap:=h',toks:=t }:=⟨rfl,rfl,kz⟩
  have gw:=ao I.gh g
  have I3:=I.grow gw tk
  have fp:=I.fre np
  exact ⟨{ z with s:={ z.s with heap:=h',toks:=t } },j,[],rfl,rfl,gw.ee.go,I3,a,.ref i.ad,none,rfl,⟨i,hci,hwh,rfl,ϰ _,.inl ⟨rfl,rfl⟩⟩,⟨np,⟨fp.1.1,fp.1.2⟩,fp.2⟩,.inl ⟨_,_,ht,⟨rfl,rfl⟩,rfl,rfl⟩⟩
end
end L2.Ev
namespace L2.Ev
theorem ot_mk {K:ο} {C:φ} {bmB:List η} {newId:String} {nm q:θ} {N:φ} {bs bm:List η} {hdct:Bool} {sn:List θ} {sub:List η} {ab:Bool} {col:Option Bool} {dd:Option φ} {k0 k1 k2 k3 k5:Option η} (l:K.lookup C=some (EW nm q C N bs bm hdct sn sub ab col dd k0 k1 k2 k3 k5 newId)) (o:GF K N=true) (i:Ψ K N "__init__" = some none) (t:E4 K bmB bm=true):mU K C bmB newId:=⟨nm,q,N,bs,bm,hdct,sn,sub,ab,col,dd,k0,k1,k2,k3,k5,l,o,i,t⟩
theorem rO {prog:Ä} {w:à} {A:ϙ} {E:η→ς→Prop} {s:ς} {Q:Option η→ς→Prop} {δ:Type} {R:δ→η→Prop} {a:φ} {D:List (θ×δ)} {z:θ} {tz:Tok} {d:δ}
 (T:Hj R s.heap a D) (hat:ϱ z D=some d) (h:∀ v,R d v→Q (some v) { s with toks:=s.toks+1 }):Α (model prog w) A (Fl a (.str z tz)) Q E s:=by
 obtain ⟨_,o,es,ep,ho,_,hd,hr⟩:=T
 obtain ⟨v,hv,hfl⟩:=hr.find_some hat
 have all:(es.all fun e=>isExactStrKey e.key)=true:=by
  obtain ⟨l⟩:=es
  simpa using hr.exact
 have hq:Q (Fy (fun k v=>v.isStr k) es z) { s with toks:=s.toks+1 }:=by
  rw [show Fy (fun k v=>v.isStr k) es z=some v by obtain ⟨l⟩:=es;simpa [Fy] using hv]
  exact h v hfl
 rw [HB] at hq
 unfold Fl
 refine ύ ?_
 refine ζ (EI (ζ (Ga (s:={ s with toks:=s.toks+1 }) ho hd all ?_)))
 cases hi:es.findIdx? fun e=>e.key.isStr z with
 | none=>
   rw [hi] at hq
   exact π hq
 | some i=>
   rw [hi] at hq
   exact ζ (HQ (s:={ s with toks:=s.toks+1 }) ho hd (π hq))
theorem vd {prog:Ä} {w:à} {A:ϙ} {E:η→ς→Prop} {s:ς} {Q:Option η→ς→Prop} {δ:Type} {R:δ→η→Prop} {a:φ} {D:List (θ×δ)} {z:θ} {tz:Tok}
 (T:Hj R s.heap a D) (hat:ϱ z D=none) (h:Q none { s with toks:=s.toks+1 }):Α (model prog w) A (Fl a (.str z tz)) Q E s:=by
 obtain ⟨_,o,es,ep,ho,_,hd,hr⟩:=T
 have hv:=hr.find_none hat
 have all:(es.all fun e=>isExactStrKey e.key)=true:=by
  obtain ⟨l⟩:=es
  simpa using hr.exact
 have hq:Q (Fy (fun k v=>v.isStr k) es z) { s with toks:=s.toks+1 }:=by
  rw [show Fy (fun k v=>v.isStr k) es z=none by obtain ⟨l⟩:=es;simpa [Fy] using hv]
  exact h
 rw [HB] at hq
 unfold Fl
 refine ύ (ζ (EI (ζ (Ga (s:={ s with toks:=s.toks+1 }) ho hd all ?_))))
 cases hi:es.findIdx? fun e=>e.key.isStr z with
 | none=>
   rw [hi] at hq
   exact π hq
 | some i=>
   rw [hi] at hq
   exact ζ (HQ (s:={ s with toks:=s.toks+1 }) ho hd (π hq))
section
variable {X:Cx} {z z1:Z} {a:φ} {t:List (θ×L2.Bk.Dk)} {j:Nat} {x:θ}
abbrev TbL (X:Cx) (a:φ) (t:List (θ×L2.Bk.Dk)):Prop:=Ec (aV X.K) (fun b=>X.K.lookup b) a t=true
theorem ue (I:HR X z) (hK:TbL X a t):Hj (fun d v=>aV X.K d v=true) z.s.heap a t:=KTD.tab_of_look (fun _ _ h=>h) (fun b o e=>I.kin b o e) hK
theorem yR (hg:Gl X x) (hm:X.mg x=some (.ref a)) (ht:X.Γ.tb[j]? = some t) (hK:TbL X a t) (hb:LE X eb b) (hs:i8 eb) (hd:(x == ("__debug__":θ))=false) (hl:∀ r,letTemporaryGo (.Name x p) (.ref a) r=pure ()):LE X (.Subscript (.Name x p) eb pos) (.tab j b):=fun br z I nb=>
 HG (aR I hg hm ((hb true).go .refl I rfl nb fun z1 d u y1 x1 I1 r1 e1=>by
  rw [ht] at e1
  cases d with
  | str k=>
    obtain ⟨tz,rfl⟩:=(r1.rb.cr0 I1:RD X.W z1.ρ z1.G (.str k) u)
    have T:=ue I1.toHR hK
    have ty:z1.s.TypeIs (.ref a) "dict":=by obtain ⟨_,o,_,_,ho,hc,_⟩:=T;exact ⟨o,ho,hc.1⟩
    refine b6 x1 I1 e1 nb fun d q=>?_
    obtain ⟨d0,hat,rfl⟩:=τ.mp q
    refine subscriptTail_builtin ty Ej.lookup ?_ (hs _ _) hl
    unfold Ek
    refine ύ (ζ (Eg ty (by decide) (ζ (Š (name:=Ñ "__getitem__") ty Ej (ş Ej ty entry_dict_getitem ?_ (args_dict_getitem _ _))))))
    show Α _ _ (Fl a (.str k tz) >>= _) _ _ z1.s
    exact ζ (rO T hat fun v hv=>π ⟨v,rfl,π (.old I1 .tok (I1.toHR.top hv))⟩)
  | _=>exact ZX e1 nb) hd)
theorem kZ {k:θ} {tz:Tok} {Q:Bool→ς→Prop} {E:η→ς→Prop} (I:HR X z) (hK:TbL X a t) (q:∀ n,Q (ϱ k t).isSome { z.s with toks:=n }):Α X.M X.A (contains (.ref a) (.str k tz)) Q E z.s:=by
 have T:=ue I hK
 have ty:z.s.TypeIs (.ref a) "dict":=by obtain ⟨_,o,_,_,ho,hc,_⟩:=T;exact ⟨o,ho,hc.1⟩
 have nsm:=T.1
 unfold contains
 refine ύ ?_
 refine ζ (Ū ty DX.lookup ?_)
 show Α _ _ (if (some (Ĵ "dict.__contains__") == some Ϣ)=true then _ else _) _ _ z.s
 rw [ZY (by rw [beq_builtin_none];exact Ϫ)]
 refine ζ (wpAny_callSpecialUnlessNone?_slot (name:=Ñ "__contains__") ty DX (ş DX ty entry_dict_contains ?_ (args_dict_contains _ _)))
 show Α _ _ (Fl a (.str k tz) >>= _) _ _ z.s
 cases hat:ϱ k t with
 | some d=>
   rw [hat] at q
   refine ζ (rO T hat fun v _=>?_)
   show Α _ _ (ret (.bool true)) _ _ _
   exact π ⟨_,rfl,ϵ (q _)⟩
 | none=>
   rw [hat] at q
   refine ζ (vd T hat ?_)
   show Α _ _ (IJ a (.str k tz) >>= _) _ _ _
   exact ζ (wpAny_pendingKey_other nsm (π ⟨_,rfl,ϵ (q _)⟩))
theorem k4 {k:θ} {tz:Tok} {Q:η→ς→Prop} {E:η→ς→Prop} (I:HR X z) (hK:TbL X a t) (q:∀ n,Q (.bool (ϱ k t).isSome) { z.s with toks:=n }):Α X.M X.A (Ê .In (.str k tz) (.ref a)) Q E z.s:=
 show Α _ _ (do return ϡ (← contains (.ref a) (.str k tz))) _ _ z.s from ζ (kZ I hK fun n=>π (q n))
theorem k7 {k:θ} {tz:Tok} {Q:η→ς→Prop} {E:η→ς→Prop} (I:HR X z) (hK:TbL X a t) (q:∀ n,Q (.bool (!(ϱ k t).isSome)) { z.s with toks:=n }):Α X.M X.A (Ê .NotIn (.str k tz) (.ref a)) Q E z.s:=
 show Α _ _ (do return ϡ (!(← contains (.ref a) (.str k tz)))) _ _ z.s from ζ (kZ I hK fun n=>π (q n))
theorem sE (hg:Gl X x) (hm:X.mg x=some (.ref a)) (ht:X.Γ.tb[j]? = some t) (hK:TbL X a t) (hb:LE X eb b) (hd:(x == ("__debug__":θ))=false) (h1:Á .In (.Name x p)=false):LE X (.Compare eb [.In] [.Name x p] pos) (.tabin j b):=fun br z I nb=>
 Ļ ((hb true).go .refl I rfl nb fun z1 d u y1 x1 I1 r1 e1=>by
  rw [ht] at e1
  cases d with
  | str k=>
    obtain ⟨tz,rfl⟩:=(r1.rb.cr0 I1:RD X.W z1.ρ z1.G (.str k) u)
    exact aR I1 hg hm (aY I1.tk (k4 I1.toHR hK fun n tk=>Dn.at x1 I1 e1 (.tok fun _ _ _=>rfl) tk)) hd
  | _=>exact ZX e1 nb) h1
theorem sS (hg:Gl X x) (hm:X.mg x=some (.ref a)) (ht:X.Γ.tb[j]? = some t) (hK:TbL X a t) (hb:LE X eb b) (hd:(x == ("__debug__":θ))=false) (h1:Á .In (.Name x p)=false):LT X (.Compare eb [.In] [.Name x p] pos) (.tabin j b):=fun z I nb=>
 Ù ((hb true).go .refl I (ak ..) nb fun z1 d u y1 x1 I1 r1 e1=>by
  rw [ht] at e1
  cases d with
  | str k=>
    obtain ⟨tz,rfl⟩:=(r1.rb.cr0 I1:RD X.W z1.ρ z1.G (.str k) u)
    exact aR I1 hg hm (aY I1.tk (k4 I1.toHR hK fun n tk=>(Dn.tok (X:=X) (z:=z1) (d:=.bl (ϱ k t).isSome) (n:=n) fun _ _ _=>rfl).tru x1 I1 e1 nb tk)) hd
  | _=>exact ZX e1 nb) h1
theorem sF (hg:Gl X x) (hm:X.mg x=some (.ref a)) (ht:X.Γ.tb[j]? = some t) (hK:TbL X a t) (hb:LE X eb b) (hd:(x == ("__debug__":θ))=false) (h1:Á .NotIn (.Name x p)=false):LE X (.Compare eb [.NotIn] [.Name x p] pos) (.not (.tabin j b)):=fun br z I nb=>
 Ļ ((hb true).go .refl I (ak ..) nb fun z1 d u y1 x1 I1 r1 e1=>by
  rw [ht] at e1
  cases d with
  | str k=>
    obtain ⟨tz,rfl⟩:=(r1.rb.cr0 I1:RD X.W z1.ρ z1.G (.str k) u)
    exact aR I1 hg hm (aY I1.tk (k7 I1.toHR hK fun n tk=>Dn.at x1 I1 e1 (.tok fun _ _ _=>rfl) tk)) hd
  | _=>exact ZX e1 nb) h1
theorem sT (hg:Gl X x) (hm:X.mg x=some (.ref a)) (ht:X.Γ.tb[j]? = some t) (hK:TbL X a t) (hb:LE X eb b) (hd:(x == ("__debug__":θ))=false) (h1:Á .NotIn (.Name x p)=false):LT X (.Compare eb [.NotIn] [.Name x p] pos) (.not (.tabin j b)):=fun z I nb=>
 Ù ((hb true).go .refl I ((ZS (fun q=>Out.bind q toB) (ak ..)).trans (ak ..)) nb fun z1 d u y1 x1 I1 r1 e1=>by
  rw [ht] at e1
  cases d with
  | str k=>
    obtain ⟨tz,rfl⟩:=(r1.rb.cr0 I1:RD X.W z1.ρ z1.G (.str k) u)
    exact aR I1 hg hm (aY I1.tk (k7 I1.toHR hK fun n tk=>(Dn.tok (X:=X) (z:=z1) (d:=.bl (!(ϱ k t).isSome)) (n:=n) fun _ _ _=>rfl).tru x1 I1 e1 nb tk)) hd
  | _=>exact ZX e1 nb) h1
end
section
variable {X:Cx} {z z1:Z}
structure M2 (X:Cx) (o:Ο) (m:θ) (apos:ϥ) (e f:Ο) (cpos:ϥ):Prop where
 base:Â o m X.env (eval o X.env)=eval o X.env
 few:((Ö cpos (Ξ [e,f] X.env)).all (fun x=>!x.1) && (D1 cpos (ģ [] X.env)).all (fun x=>x.1.isSome) && decide (([e,f]:List Ο).length+([]:List Ew).length+(if ([]:List Ew).isEmpty then 0 else 1)<30))=true
 line:(apos.endLine == cpos.line)=true
 trees:Ö cpos (Ξ [e,f] X.env) = [(false,eval e X.env),(false,eval f X.env)]
theorem nH {o:Option D} {ov:Option η} (h:match o with | some d=>∃ v,ov=some v∧RD W ρ G d v | none=>ov=none) (r:RD W ρ G d0 u0):RD W ρ G (o.getD d0) (ov.getD u0):=by
 cases o with
 | none=>rw [h];exact r
 | some d=>obtain ⟨v,rfl,r⟩:=h;exact r
theorem ro {ks:List Key} {ds:List D} (h:CR X.W z (.dic ks ds) u):∃ a,u = .ref a∧z.s.TypeIs u "dict"∧∀ b,u = .ref b→∃ ob,z.s.heap.get? b=some ob∧ob.dict=none:=by
 obtain ⟨a,o,vs,rfl,_,e,⟨_,_,x,_⟩,_⟩:=h
 exact ⟨a,rfl,⟨o,e,x.1⟩,fun b q=>by cases q;exact ⟨o,e,x.2.1⟩⟩
theorem ko (h:isDic d=true):∃ ks ds,d = .dic ks ds:=by cases d <;> first | exact ⟨_,_,rfl⟩ | cases h
theorem vp (ha:LE X eo a) (hb:LE X eb b) (hc:LE X ec c) (m:M2 X eo "get" apos eb ec cpos):LE X (.Call (.Attribute eo "get" apos) [eb,ec] [] cpos) (.get a b c):=fun br z I nb=>
 ϩ m.base m.few m.line EA ć EZ ((ha true).go .refl I rfl nb fun z1 x u y1 x1 I1 r1 e1=>by
  by_cases hd:isDic (look z1.t.st x)=true
  ·rw [ZZ hd] at e1
   obtain ⟨ks,ds,ed⟩:=ko hd
   have cr:=r1.rb.cr I1
   rw [ed] at cr
   obtain ⟨ad,rfl,t1,t2⟩:=ro cr
   refine ⟨t1,t2,?_⟩
   rw [m.trees]
   refine Ϛ rfl (ϣ (Θ ((hb true).go x1 I1 e1 nb fun z2 y iv y2 x2 I2 r2 e2=>Θ ((hc false).go x2 I2 e2 nb fun z3 w fv y3 x3 I3 r3 e3=>Τ ?_))))
   have cr3:=((r1.rb.st y2 I2).st y3 I3).cr I3
   cases q:look z3.t.st x with
   | dic ks ds=>
     cases q2:bE y with
     | none=>rw [q,q2] at e3;exact ZX e3 nb
     | some k=>
       rw [q] at cr3
       rw [q,q2] at e3
       obtain ⟨ad',o,vs,e',hs,ho,dc,hl,r⟩:=cr3
       cases e'
       have dd:=dc.of ho
       exact call_meetsIn ć dd.typeIs EP (PySem.F.args_dict_get_3 _ _ _) (meets_dict_get_default (aS X.W.P X.W.w) ad (fh q2 ((r2.rb.st y3 I3).cr0 I3)) hs fv) ⟨_,dd.mapOf,Dn.at x3 I3 e3 (.old I3 .tok (nH (cK hl r) r3.rd))⟩
   | _=>rw [q] at e3;exact ZX e3 nb
  ·rw [ZY hd] at e1;exact ZX e1 nb)
theorem vo (ha:LE X eo a) (hb:LE X eb b) (m:M1 X eo "get" apos eb cpos):LE X (.Call (.Attribute eo "get" apos) [eb] [] cpos) (.get a b (.c .non)):=fun br z I nb=>
 ϩ m.base m.few m.line EA ć EZ ((ha true).go .refl I rfl nb fun z1 x u y1 x1 I1 r1 e1=>by
  by_cases hd:isDic (look z1.t.st x)=true
  ·rw [ZZ hd] at e1
   obtain ⟨ks,ds,ed⟩:=ko hd
   have cr:=r1.rb.cr I1
   rw [ed] at cr
   obtain ⟨ad,rfl,t1,t2⟩:=ro cr
   refine ⟨t1,t2,?_⟩
   rw [m.trees]
   refine Ϛ rfl (ϣ (Θ ((hb true).go x1 I1 e1 nb fun z3 y iv y3 x3 I3 r2 e3=>Τ ?_)))
   have e3:X.ev br (.get a b (.c .non)) z.t=(match look z3.t.st x,bE y with
    | .dic ks ds,some k=>.ok ((dG ks ds k).getD .non) z3.t
    | _,_=>.bad):=e3
   have cr3:=(r1.rb.st y3 I3).cr I3
   cases q:look z3.t.st x with
   | dic ks ds=>
     cases q2:bE y with
     | none=>rw [q,q2] at e3;exact ZX e3 nb
     | some k=>
       rw [q] at cr3
       rw [q,q2] at e3
       obtain ⟨ad',o,vs,e',hs,ho,dc,hl,r⟩:=cr3
       cases e'
       have dd:=dc.of ho
       exact call_meetsIn ć dd.typeIs EP (PySem.F.args_dict_get_2 _ _) (meets_dict_get (aS X.W.P X.W.w) ad (fh q2 (r2.rb.cr0 I3)) hs) ⟨_,dd.mapOf,Dn.at x3 I3 e3 (.old I3 .tok (nH (cK hl r) rfl))⟩
   | _=>rw [q] at e3;exact ZX e3 nb
  ·rw [ZY hd] at e1;exact ZX e1 nb)
theorem ig:∀ {l ss vs},b8 l=some ss→RDs W ρ G l vs→StrsAre vs ss
 | [],ss,vs,e,r=>by cases e;cases (show vs = [] from r);exact .nil
 | d :: l,ss,vs,e,r=>by
   cases d with
   | str b=>
     obtain ⟨cs,q,rfl⟩:=τ.mp (show (b8 l).map (b :: ·)=some ss from e)
     obtain ⟨v,r',rfl,⟨t,rfl⟩,tl⟩:=r
     exact .cons b t (ig q tl)
   | _=>cases e
theorem vv {x:θ} (ha:LE X ea a) (m:M1 X (.Constant (.str x) j p) "join" apos ea cpos):LE X (.Call (.Attribute (.Constant (.str x) j p) "join" apos) [ea] [] cpos) (.join x a):=fun br z I nb=>
 ϩ m.base m.few m.line ã PySem.F.slot_str_join PySem.F.type_str_join (Ϩ (by
  refine ⟨û _ _ _,(fun b q=>by cases q),?_⟩
  rw [m.trees]
  have g:Gr z.s { z.s with toks:=z.s.toks+1 }:=.tok
  refine Ϛ rfl (ϣ (Θ ((ha true).go (z:=z) (z1:={ z with s:={ z.s with toks:=z.s.toks+1 } }) (ao I.gh g).ee (I.grow (ao I.gh g)) rfl nb fun z1 d u y1 x1 I1 r1 e1=>Τ (b6 x1 I1 e1 nb fun d2 e=>?_))))
  have cr:=r1.rb.cr I1
  revert e cr
  generalize look z1.t.st d=cc
  intro e cr
  cases cc with
  | lst l=>
    obtain ⟨ss,h1,h2⟩:=Χ.mp (show ((b8 l).bind fun ss=>if x.length≤64∧(ss.map (·.length)).sum≤100000∧ss.length≤1000 then some (D.str (Txt.join x ss)) else none)=some d2 from e)
    obtain ⟨c,rfl⟩:=aD h2
    obtain ⟨ad,o,vs,rfl,ho,⟨⟨n,rfl⟩,hz⟩,w⟩:=cr
    refine join_list (ys:=ss) (show z1.s.heap.IsList ad vs.toArray from ⟨_,ho,rfl,n,rfl⟩) (by simpa using ig h1 w) ?_ fun t' k=>.tok fun _ _ _=>⟨_,rfl⟩
    have:=ŧ c.2.2 c.1
    omega
  | _=>cases e))
end
theorem mH:Hx (.type "list_reverseiterator") "__len__" = pure none:=by rw [IA,GZ];kernel_rfl
theorem tT:Hx (.type "list_reverseiterator") "__length_hint__" = pure (some (.builtin "list_reverseiterator.__length_hint__")):=by rw [IA,GZ];kernel_rfl
section
variable {prog:Ä} {w:à} {A:ϙ} {E:η→ς→Prop} {s:ς}
theorem u8 {R:Result→ς→Prop} {r l S:φ} {xs:Array η} {c0:Nat} {res:η} (hh:A.handled=none) (hn:xs.size≤ϝ) (g:s.heap.IsRevIter r l ((xs.size:Int) - 1)) (gl:s.heap.IsList l xs) (ne:l≠r)
 (hS:s.heap.get? S=some { cls:=.type "list",data:=.seq #[] c0 }) (n1:S≠r) (n2:S≠l)
 (q:∀ h1 tk acc c1,(∀ b o,b≠S→b≠r→s.heap.get? b=some o→h1.get? b=some o)→h1.get? S=some { cls:=.type "list",dict:=none,data:=.seq acc c1,slots:=#[] }→ItemsOf (fun i v=>xs[xs.size - 1 - i]? = some v) acc xs.size→R (.ok (.ret res)) { s with heap:=h1,toks:=tk }) :
 Α (model prog w) A.in1 (ä (.ref S) (.ref r) res)
  (fun fin s1=>match fin with | .done f=>R (.ok f) s1 | .again c1=>c1.quiet=true∧ĳ (model prog w) A c1 R s1) (fun e s1=>R (.error e) s1) s:=by
 have ty:=g.typeIs
 unfold ä
 refine ζ (Ef ty ?_)
 have a1:D8 (.ref S) (.ref r)=false:=by simp [D8,n1]
 have a2:(ē "list_reverseiterator" == ē "list")=false:=by decide
 have a3:(ē "list_reverseiterator" == ē "tuple")=false:=by decide
 simp only [a1,a2,a3,ĺ,ç,if_false]
 refine ζ (H9 g (ζ (ύ ?_)))
 unfold IH
 refine ζ (Ū ty mH ?_)
 show Α _ A.in1 (specialOf (Ç r) (Ñ "__length_hint__") >>= fun _=>_) _ _ _
 refine ζ (Ū ty tT ?_)
 have W:=(Ho (prog:=prog) (w:=w) (A:=A.in1) hh r l ne xs).toS
 have nS:S ∉ [r,l]:=by simp [n1,n2]
 have sp:splitId "list_reverseiterator.__length_hint__" = some ("list_reverseiterator","__length_hint__"):=by decide +kernel
 dsimp only
 simp only [sp]
 refine ζ (wpAny_isInstance (T:="list_reverseiterator") (b:=true) ty (by rw [isSubtype_type];kernel_rfl) ?_)
 refine ū (fun z=>ZX z (by decide)) fun _=>?_
 refine ū (fun _=>?_) (fun z=>ZX (by decide +kernel) z)
 refine ū (fun z=>ZX z (by decide +kernel)) fun _=>π ?_
 refine ū (fun z=>ZX z (by decide +kernel)) fun _=>?_
 refine π ⟨plainId_quiet F.plain_extend_loop _,codeAny_extend_loopS W hn S nS res xs.size 0 _ _ _ rfl (ϰ _) ⟨ϰ _,by simpa using g,gl⟩ hS (ItemsOf.nil _) fun s1 acc c1 hm hS1 hacc=>?_⟩
 rw [Moved.eq_with hm]
 refine q s1.heap s1.toks acc c1 (fun b o z1 z2 e=>hm.heap b o (fun z=>?_) e) hS1 hacc
 rcases υ.mp z with z | z
 ·exact z1 z
 ·exact z2 (ε.mp z)
theorem ji {r l:φ} {xs:Array η} {Q:η→ς→Prop} (hh:A.handled=none) (hn:xs.size≤ϝ) (g:s.heap.IsRevIter r l ((xs.size:Int) - 1)) (gl:s.heap.IsList l xs) (ne:l≠r)
 (q:∀ h1 tk acc c1,(∀ b o,b≠r→s.heap.get? b=some o→h1.get? b=some o)→h1.get? s.heap.objs.size=some { cls:=.type "list",dict:=none,data:=.seq acc c1,slots:=#[] }→ItemsOf (fun i v=>xs[xs.size - 1 - i]? = some v) acc xs.size →
  Q (.ref s.heap.objs.size) { s with heap:=h1,toks:=tk }):Α (model prog w) A (call (.type "list") [.ref r]) Q E s:=by
 refine callType_codes (Q₁:=fun obj s1=>obj = .ref s.heap.objs.size∧s1={ s with heap:=s.heap.push { cls:=.type "list",data:=.seq #[] } }) F.called_list (F.typeCall_list_1 _) F.entry_list_init (code_list_new _ ⟨rfl,rfl⟩) fun obj s1 z=>?_
 obtain ⟨e,e'⟩:=z
 subst e e'
 have hS:(s.heap.push { cls:=.type "list",data:=.seq #[] }).get? s.heap.objs.size=some { cls:=.type "list",data:=.seq #[] }:=ψ _ rfl
 have rlt:r<s.heap.objs.size:=by obtain ⟨_,e,_⟩:=g;exact ϛ e
 have llt:l<s.heap.objs.size:=by obtain ⟨_,e,_⟩:=gl;exact ϛ e
 refine ⟨⟨_,hS,rfl⟩,F.args_list_init_2 _ _,?_⟩
 show Α _ _ (do let old ← DV (.ref s.heap.objs.size);IG (.ref s.heap.objs.size) (fun _=>#[]);letGo old.toList.reverse;ä (.ref s.heap.objs.size) (.ref r) .none) _ _ _
 refine ζ ?_
 unfold DV
 refine ζ (wpAny_seqItems hS rfl (π ?_))
 show Α _ _ (updateSeq s.heap.objs.size (fun _=>#[]) >>= fun _=>letGo (#[]:Array η).toList.reverse >>= fun _=>ä (.ref s.heap.objs.size) (.ref r) .none) _ _ _
 refine ζ (wpAny_updateSeq hS rfl (ζ (wpAny_letGo ?_)))
 have oth:∀ b o,s.heap.get? b=some o→((s.heap.push { cls:=.type "list",data:=.seq #[] }).update s.heap.objs.size (Þ (fun _=>(#[]:Array η)))).get? b=some o:=fun b o e=>
  (ϲ _ _ (Û (ϛ e))).trans (Ζ _ e)
 refine u8 (A:=A.in1) hh hn (g.at fun o e=>oth r o e) (gl.at fun o e=>oth l o e) ne (Æ (Þ (fun _=>(#[]:Array η))) hS rfl) (Û rlt) (Û llt) fun h1 tk acc c1 k1 k2 k3=>⟨rfl,?_⟩
 exact q h1 tk acc c1 (fun b o n1 e=>k1 b o (ϯ (ϛ e)) n1 (oth b o e)) k2 k3
end
section
variable {X:Cx} {z z1:Z}
theorem qg {us:List η} {acc:Array η} (h:ItemsOf (fun i v=>us.toArray[us.toArray.size - 1 - i]? = some v) acc us.toArray.size):acc.toList=us.reverse:=by
 obtain ⟨h1,h2⟩:=h
 refine List.ext_getElem (by simpa using h1) fun i l1 l2=>?_
 have k:=h2 i acc[i] (EG (by simpa using l1))
 have l3:i<us.length:=by simpa using l2
 rw [List.getElem_reverse]
 have k':us[us.length - 1 - i]? = some acc[i]:=by simpa using k
 rw [Μ (by omega)] at k'
 simpa using (Ϟ k').symm
theorem yV {p1 p2 pos pos2:ϥ} (hc:X.calm=true) (g1:Blt X "list" (.type "list")) (g2:Blt X "reversed" (.type "reversed")) (ha:LE X ea a) (hs:Ξ [ea] X.env=(false,eval ea X.env) :: Ξ [] X.env) (hs2:Ξ [.Call (.Name "reversed" p2) [ea] [] pos2] X.env=(false,eval (.Call (.Name "reversed" p2) [ea] [] pos2) X.env) :: Ξ [] X.env):LF X (.Call (.Name "list" p1) [.Call (.Name "reversed" p2) [ea] [] pos2] [] pos) (.bi .rev (.cons a .nil)):=fun z I nb=>
 aH (.inr ⟨_,rfl⟩) g1 hs2 rfl I (Θ (aH (.inr ⟨_,rfl⟩) g2 hs rfl I (Θ ((ha true).go .refl I (ev1 fun l s=>Out.of s (biD .rev (l.map (look s.st)))) nb fun z1 x u y1 x1 I1 r1 e1=>Τ (by
  have cr:=r1.rb.cr I1
  have e1:X.ev false (.bi .rev (.cons a .nil)) z.t=Out.of z1.t (cf .rev (look z1.t.st x)):=e1
  revert e1 cr
  generalize look z1.t.st x=cc
  intro cr e1
  cases cc with
  | lst l=>
    obtain ⟨ad,o,vs,rfl,ho,⟨⟨n,rfl⟩,hz⟩,r⟩:=cr
    have pl:z1.s.heap.IsList ad vs.toArray:=⟨_,ho,rfl,n,rfl⟩
    refine HD pl (Τ ?_)
    refine aY I1.tk (ji (I1.hd hc) (by simp;omega) ⟨_,ψ _ rfl,rfl,rfl⟩ (pl.at fun o e=>Ζ _ e) (ϯ (ϛ ho)) fun h1 tk acc c1 k1 k2 k3 tk0=>?_)
    have w:=qg k3
    have nn:z1.h (z1.s.heap.push (revObj ad ((vs.toArray.size:Int) - 1))).objs.size=none:=Ϙ (by rw [ċ];exact ö _)
    obtain ⟨z2,d,q1,q2,y,I2,fv⟩:=(Dw.lst (X:=X) (z:=z1) (s':={ z1.s with heap:=h1,toks:=tk }) (k:=c1) r.rev (.hp fun b o e=>k1 b o (ϯ (ϛ e)) (Ζ _ e)) nn (by show h1.get? _=_;rw [k2,← w]) (by rw [ů];exact hz)).pe I1 tk0
    exact ⟨z2,d,q1,e1.trans q2,x1.trans y,I2,fv.less x1⟩
  | _=>exact ZX e1 nb)))))
end
structure Zd where
 it:φ
 fp:List φ
 n:Nat
 P:Nat→η→Prop
 St:Nat→ϻ→Prop
structure ZOk (prog:Ä) (w:à) (A:ϙ) (n:Nat) (l:List Zd) (z TI TO:φ):Prop where
 dr:∀ d∈l,Draws prog w A d.it d.fp d.n d.P d.St∧n≤d.n∧d.it∈d.fp∧z ∉ d.fp∧TO ∉ d.fp∧TI≠d.it
 ap:∀ (i j:Nat) (d e:Zd),l[i]? = some d→l[j]? = some e→i≠j→d.it ∉ e.fp
 hd:∃ d r,l=d :: r∧d.n=n
 zT:z≠TI∧z≠TO∧TI≠TO
 sz:l.length≤ϝ
end L2.Ev
end
section
namespace L2.Ev
def xC (h:ϻ) (k:Bool) (a:φ) (xs:Array η):Prop:=(k=true∧h.IsTuple a xs)∨(k=false∧h.IsList a xs)
section
variable {prog:Ä} {w:à} {A:ϙ} {E:η→ς→Prop} {s:ς} {k k1 k2 k3:Bool} {a a1 a2 a3:φ} {xs ys zs:Array η}
theorem xC.push (h:xC h0 k a xs) (o:Gp):xC (h0.push o) k a xs:=h.imp (fun ⟨e,q⟩=>⟨e,Heap.IsTuple.push q o⟩) fun ⟨e,q⟩=>⟨e,Heap.IsList.push q o⟩
end
section
variable {X:Cx} {z z' z0 z1:Z} {tg:Ο}
theorem RDs.v {i:Nat} {d:D} {v:η} (r:RDs W ρ G l vs) (e:l[i]? = some d) (q:vs.toArray[i]? = some v):RD W ρ G d v:=by
 obtain ⟨v',w1,w2⟩:=r.get e
 rw [show vs[i]? = some v by simpa using q] at w1;cases w1;exact w2
end
section
variable {X:Cx} {z:Z}
theorem vA {x:θ} {j:Nat} {cl:Cl} {i:CI} (F:bR X X.cal1 lv cl.init f) (hr:bq (lv+1) X.A) (M:Mk X.K i.ad f) (hcl:X.Γ.cl[j]? = some cl) (hw:cl.what=0) (hci:X.W.ci[j]? = some i) (hwh:X.W.what[j]? = some 0) (hg:Gl X x) (hm:X.mg x=some (.ref i.ad)) (hd:(x == ("__debug__":θ))=false):LE X (.Call (.Name x p) [] [] pos) (.new j .nil):=fun br z I nb=>
 č (aR I hg hm (Fo I.toHR.kin M.kp (pa F hr M hcl hw hci hwh .refl I (l:=[]) (us:=[]) (es:=.nil) trivial rfl nb)) hd)
end
end L2.Ev
end
section
namespace L2.Ev
open PySem.W
theorem t9 {prog:Ä} {w:à} {A:ϙ} {E:η→ς→Prop} {s:ς} {x y:θ} {t u:Tok} {Q:η→ς→Prop} (hy:(y.length == 0)=false) (hz:x.length≤ϝ) (hn:(DR x (ĥ x y 0 x.length (x.length+1)) y.length).length≤ϝ)
 (q:∀ (l:List (θ×Tok)) k,l.map (·.1)=Í x y→Q (.ref s.heap.objs.size) { s with heap:=s.heap.push { cls:=.type "list",data:=.seq (EK l).toArray },toks:=k }):Α (model prog w) A (call (.builtin "str.split") [.str x t,.str y u]) Q E s:=by
 have m:=fun {W} (k:Meets (Ft.«str.split» ⟨[.str x t,.str y u],[]⟩) W)=>ĝ (prog:=prog) (w:=w) (A:=A) (Q:=Q) (E:=E) (s:=s) EO (û _ _ _) PySem.F.entry_str_split (PySem.F.args_str_split_2 _ _) k
 cases c1:(decide (x.length<y.length) || decide (EE x<EE y)) with
 | true=>exact m (meets_str_split_cannot_occur x y t u c1) (q [(x,t)] s.toks (ZZ c1).symm)
 | false=>
   cases c2:(ĥ x y 0 x.length (x.length+1)).isEmpty with
   | true=>exact m (meets_str_split_not_found x y t u c1 hy c2) (q [(x,t)] s.toks ((ZY (by rw [c1];decide)).trans (ZZ c2)).symm)
   | false=>
     refine m (meets_str_split_sep x y t u c1 hy c2 hz hn) ?_
     have e:=strsFrom_eq s.toks (DR x (ĥ x y 0 x.length (x.length+1)) y.length)
     show wants Q E _ { s with toks:=_,heap:=s.heap.push { cls:=.type "list",data:=.seq (strsFrom s.toks _).toArray } }
     rw [e]
     exact q (numbered s.toks _) _ ((numbered_texts _ _).trans ((ZY (by rw [c1];decide)).trans (ZY (by rw [c2];decide))).symm)
section
variable {X:Cx} {z z1:Z}
theorem hJ {W:Wd} {ρ:Rs} {G:Hp}:∀ (l:List (θ×Tok)),RDs W ρ G ((l.map (·.1)).map .str) (EK l)
 | []=>rfl
 | (x,t) :: r=>.cons ⟨t,rfl⟩ (hJ r)
theorem sC {y z':θ} {j1 j2:Nat} {p1 p2:ϥ} (htz:0<X.tz) (hyz:(y == z')=false) (ha:LE X eo a) (base:Â eo "replace" X.env (eval eo X.env)=eval eo X.env) (line:(apos.endLine == cpos.line)=true):LE X (.Call (.Attribute eo "replace" apos) [.Constant (.str y) j1 p1,.Constant (.str z') j2 p2] [] cpos) (.sm (.rep y z') a):=fun br z I nb=>by
 refine ϩ base rfl line ã PySem.F.slot_str_replace PySem.F.type_str_replace ((ha true).go .refl I rfl nb fun z1 x u y1 x1 I1 r1 e1=>?_)
 cases x with
 | str x=>
   obtain ⟨t,rfl⟩:=(r1.rb.cr0 I1:RD X.W z1.ρ z1.G (.str x) u)
   refine ⟨û _ _ _,(fun _ e=>nomatch e),?_⟩
   show Α _ _ (En _ _ _ [(false,eval (.Constant (.str y) j1 p1) X.env),(false,eval (.Constant (.str z') j2 p2) X.env)] []) _ _ _
   refine Ϛ rfl (ϣ (Θ (Ϩ (Θ (Ϩ (Τ ?_))))))
   have e1:X.ev br (.sm (.rep y z') a) z.t=Out.of z1.t (if x.length≤10000∧z'.length≤100∧y.length=1 then some (.str (ă x y z')) else none):=e1
   by_cases c:x.length≤10000∧z'.length≤100∧y.length=1
   ·rw [ZZ c] at e1
    have:=I1.tk
    refine aY (Ϡ I1.toHR.tk1) (SC.replace (Û (Ϲ htz I1.tk)) (Nat.succ_ne_zero _) (ϯ (Ň _)) hyz ?_ fun t' k tk=>Dn.at x1 I1 e1 (.tok fun _ _ _=>⟨_,rfl⟩) tk)
    have:=ŧ (show x.length+1≤10001 by omega) c.2.1
    omega
   ·rw [ZY c] at e1;exact ZX e1 nb
 | _=>exact ZX e1 nb
theorem yP {y:θ} {j1:Nat} {p1:ϥ} (ha:LE X eo a) (base:Â eo "split" X.env (eval eo X.env)=eval eo X.env) (line:(apos.endLine == cpos.line)=true):LE X (.Call (.Attribute eo "split" apos) [.Constant (.str y) j1 p1] [] cpos) (.sm (.spl y) a):=fun br z I nb=>by
 refine ϩ base rfl line ã EO PySem.F.type_str_split ((ha true).go .refl I rfl nb fun z1 x u y1 x1 I1 r1 e1=>?_)
 cases x with
 | str x=>
   obtain ⟨t,rfl⟩:=(r1.rb.cr0 I1:RD X.W z1.ρ z1.G (.str x) u)
   refine ⟨û _ _ _,(fun _ e=>nomatch e),?_⟩
   show Α _ _ (En _ _ _ [(false,eval (.Constant (.str y) j1 p1) X.env)] []) _ _ _
   refine Ϛ rfl (ϣ (Θ (Ϩ (Τ ?_))))
   have e1:X.ev br (.sm (.spl y) a) z.t=Out.of z1.t (if x.length≤60000∧y.length=1 then some (.lst ((Í x y).map .str)) else none):=e1
   by_cases c:x.length≤60000∧y.length=1
   ·rw [ZZ c] at e1
    have h1:=StrLaws.occ_length_le x y 0 x.length (x.length+1)
    have sl:(65536:Nat)≤ϝ:=by rw [í];decide
    refine aY I1.toHR.tk1 (t9 (by rw [c.2];rfl) (by omega) (by rw [DM];omega) fun l k hl tk=>Dn.at x1 I1 e1 ?_ tk)
    have hz:(EK l).length≤ϝ:=by
     have e2:(EK l).length=(Í x y).length:=by rw [← hl,Β];exact (hJ (W:=X.W) (ρ:=z1.ρ) (G:=z1.G) l).len ▸ by rw [Β,Β]
     have e3:(Í x y).length≤x.length+2:=by
      unfold Í
      split
      ·simp
      ·split
       ·simp
       ·rw [DM];omega
     omega
    have d:Dw X z1 (.lst ((Í x y).map .str)) (.ref z1.s.heap.objs.size) { z1.s with heap:=z1.s.heap.push { cls:=.type "list",data:=.seq (EK l).toArray },toks:=k }:=.lstn (hl ▸ hJ l) hz
    exact d.dn I1
   ·rw [ZY c] at e1;exact ZX e1 nb
 | _=>exact ZX e1 nb
theorem yF (ha:LE X eo a) (base:Â eo "isdigit" X.env (eval eo X.env)=eval eo X.env) (line:(apos.endLine == cpos.line)=true):LE X (.Call (.Attribute eo "isdigit" apos) [] [] cpos) (.sm .dig a):=fun br z I nb=>by
 refine ϩ base rfl line ã Es PySem.F.type_str_isdigit ((ha true).go .refl I rfl nb fun z1 x u y1 x1 I1 r1 e1=>?_)
 cases x with
 | str x=>
   obtain ⟨t,rfl⟩:=(r1.rb.cr0 I1:RD X.W z1.ρ z1.G (.str x) u)
   refine ⟨û _ _ _,(fun _ e=>nomatch e),?_⟩
   refine Ϛ rfl (ŷ ?_)
   exact call_gives Es (û _ _ _) PySem.F.entry_str_isdigit (PySem.F.args_str_isdigit_1 _) (gives_str_isdigit x t) (Dn.at x1 I1 e1 (.old I1 .refl rfl))
 | _=>exact ZX e1 nb
theorem yQ {y:θ} {j1:Nat} {p1:ϥ} (ha:LE X eo a) (base:Â eo "startswith" X.env (eval eo X.env)=eval eo X.env) (line:(apos.endLine == cpos.line)=true):LE X (.Call (.Attribute eo "startswith" apos) [.Constant (.str y) j1 p1] [] cpos) (.sm (.sta y) a):=fun br z I nb=>by
 refine ϩ base rfl line ã DT PySem.F.type_str_startswith ((ha true).go .refl I rfl nb fun z1 x u y1 x1 I1 r1 e1=>?_)
 cases x with
 | str x=>
   obtain ⟨t,rfl⟩:=(r1.rb.cr0 I1:RD X.W z1.ρ z1.G (.str x) u)
   refine ⟨û _ _ _,(fun _ e=>nomatch e),?_⟩
   show Α _ _ (En _ _ _ [(false,eval (.Constant (.str y) j1 p1) X.env)] []) _ _ _
   refine Ϛ rfl (ϣ (Θ (Ϩ (Τ ?_))))
   exact call_gives DT (û _ _ _) PySem.F.entry_str_startswith (PySem.F.args_str_startswith_2 _ _) (gives_str_startswith x y _ _) (Dn.at x1 I1 e1 (.old I1 .tok rfl))
 | _=>exact ZX e1 nb
theorem vz {y:θ} {j1:Nat} {p1 pos:ϥ} (ha:LE X eo a):LE X (.BinOp (.Constant (.str y) j1 p1) .Mult eo pos) (.sm (.mulc y) a):=fun br z I nb=>by
 have g:Gr z.s { z.s with toks:=z.s.toks+1 }:=.tok
 refine Ha (Ϩ ((ha true).go (z:=z) (z1:={ z with s:={ z.s with toks:=z.s.toks+1 } }) (ao I.gh g).ee (I.grow (ao I.gh g)) rfl nb fun z2 x v y2 x2 I2 r2 e2=>?_))
 cases x with
 | int n=>
   obtain ⟨t,rfl⟩:=(r2.rb.cr0 I2:RD X.W z2.ρ z2.G (.int n) v)
   have e2:X.ev br (.sm (.mulc y) a) z.t=Out.of z2.t (if -1000000≤n∧n≤10000∧y.length≤10 then some (.str (À y n)) else none):=e2
   by_cases c:-1000000≤n∧n≤10000∧y.length≤10
   ·rw [ZZ c] at e2
    refine aY I2.tk (SB.mul ⟨by simp;omega,fun h1 _=>?_,fun h1 _=>?_⟩ fun t' k tk=>Dn.at x2 I2 e2 (.tok fun _ _ _=>⟨_,rfl⟩) tk)
    ·have:(10:Int)≤(2 ^ 63 - 1) / n:=(FK (by omega)).mpr (by omega)
     omega
    ·have e3:y.length * n.toNat≤10 * 10000:=ŧ c.2.2 (by omega)
     unfold ED
     rw [í]
     exact ZV (by omega)
   ·rw [ZY c] at e2;exact ZX e2 nb
 | _=>exact ZX e2 nb
theorem re (k:θ):∀ ss:List θ,EY (.str k) (ss.map PyData.str)=((ss.countP (· == k):Nat):Int)
 | []=>rfl
 | x :: r=>by
   rw [ë,EY,re k r,List.countP_cons]
   simp only [PySem.Spec.same]
   rcases Bool.eq_false_or_eq_true (x == k) with hb | hb <;> simp only [hb,ç,if_true,if_false] <;> push_cast <;> omega
theorem rA {k:SM} {a b:E} {br:Bool} {t:Sta}:X.ev br (.sm k (.tup (.cons a (.cons b .nil)))) t=(X.ev false a t).bind fun x s=>(X.ev false b s).bind fun y s=>Out.of s (smO k (.tup [x,y])):=by
 show (((X.ev false a t).bind fun x s=>((X.ev false b s).bind fun y s=>Out.ok [y] s).bind fun r s=>Out.ok (x :: r) s).bind fun l s=>if l.length≤100000 then Out.ok (D.tup l) s else .bad).bind (fun x s=>Out.of s (smO k x))=_
 cases X.ev false a t with
 | ok x s=>
   show ((((X.ev false b s).bind fun y s=>Out.ok [y] s).bind fun r s=>Out.ok (x :: r) s).bind fun l s=>if l.length≤100000 then Out.ok (D.tup l) s else .bad).bind (fun x s=>Out.of s (smO k x))=(X.ev false b s).bind fun y s=>Out.of s (smO k (.tup [x,y]))
   cases X.ev false b s <;> rfl
 | _=>rfl
theorem rB {k:SM} {c b:E} {br:Bool} {t:Sta}:X.ev br (.sm k (.tup (.cons (.lst c) (.cons b .nil)))) t=(X.ev false (.lst c) t).bind fun x s=>match x with | .lst l=>(X.ev false b s).bind fun y s=>Out.of s (smO k (.tup [.lst l,y])) | _=>.bad:=by
 refine rA.trans ?_
 show ((evs X.Γ X.cal X.cal1 false c t).bind fun l s=>if l.length≤100000 then Out.ok (D.lst l) s else .bad).bind _=((evs X.Γ X.cal X.cal1 false c t).bind fun l s=>if l.length≤100000 then Out.ok (D.lst l) s else .bad).bind _
 cases evs X.Γ X.cal X.cal1 false c t with
 | ok l s=>
   show (if l.length≤100000 then Out.ok (D.lst l) s else .bad).bind _=(if l.length≤100000 then Out.ok (D.lst l) s else .bad).bind _
   by_cases h:l.length≤100000
   ·rw [ZZ h];rfl
   ·rw [ZY h];rfl
 | _=>rfl
theorem yE (ha:LE X eo (.lst c)) (hb:LE X eb b) (m:M1 X eo "count" apos eb cpos):LE X (.Call (.Attribute eo "count" apos) [eb] [] cpos) (.sm .cnt (.tup (.cons (.lst c) (.cons b .nil)))):=fun br z I nb=>
 ϩ m.base m.few m.line Ý PySem.F.slot_list_count PySem.F.type_list_count ((ha false).go .refl I rB nb fun z1 x u y1 x1 I1 r1 e1=>by
  cases x with
  | lst l=>
    obtain ⟨ad,o,vs,rfl,ho,⟨⟨n,rfl⟩,hz⟩,w⟩:=(r1.rd:RD X.W z1.ρ z1.G (.lst l) u)
    refine ⟨⟨_,I1.gh _ _ ho,rfl⟩,fun b q=>(by cases q;exact ⟨_,I1.gh _ _ ho,rfl⟩),?_⟩
    rw [m.trees]
    refine Ϛ rfl (ϣ (Θ ((hb false).go x1 I1 e1 nb fun z2 y v y2 x2 I2 r2 e2=>Τ (b6 x2 I2 e2 nb fun d q=>?_))))
    cases y with
    | str k=>
      obtain ⟨t,rfl⟩:=(r2.rd:RD X.W z2.ρ z2.G (.str k) v)
      obtain ⟨ss,q1,rfl⟩:=τ.mp (show (b8 l).map (fun ss=>D.int (ss.countP (· == k):Nat))=some d from q)
      have sa:=ig q1 (w.mono y2.st.pr y2.st.gg)
      have e9:=re k ss
      refine count_list_strs (show z2.s.heap.IsList ad vs.toArray from ⟨_,I2.gh _ _ (y2.st.gg _ _ ho),rfl,n,rfl⟩) sa ?_
      rw [e9]
      exact .tok fun _ _ _=>⟨_,rfl⟩
    | _=>cases q
  | _=>exact ZX e1 nb)
theorem kR {W:Wd} {ρ:Rs} {G:Hp} {d:D} {v:η} (h:RD W ρ G d v):∀ n:Nat,RDs W ρ G (ξ n d) (ξ n v)
 | 0=>rfl
 | n+1=>.cons h (kR h n)
theorem B6 {α:Type} (a:α):∀ n:Nat,(ξ n [a]).flatten=ξ n a
 | 0=>rfl
 | n+1=>by rw [Ϯ,List.flatten_cons,B6 a n,Ϯ];rfl
theorem o7 (a:η):∀ (n:Nat) (b:Array η),ID (fun x1 x2=>x1 ++ x2) b (ξ n #[a])=b ++ (ξ n a).toArray
 | 0,b=>by simp
 | n+1,b=>by rw [Ϯ,Ea,o7 a n,Ϯ];apply Iy;simp
theorem n7 (hl:LE X el l) (ha:LE X ea a):LE X (.BinOp el .Mult ea pos) (.sm .mull (.tup (.cons l (.cons a .nil)))):=fun br z I nb=>
 Ha ((hl false).go .refl I rA nb fun z1 x u y1 x1 I1 r1 e1=>by
  refine (ha false).go x1 I1 e1 nb fun z2 y v y2 x2 I2 r2 e2=>b6 x2 I2 e2 nb fun d q=>?_
  cases x with
  | lst ls=>
    obtain ⟨ad,o,vs,rfl,ho,⟨⟨n,rfl⟩,hz⟩,w⟩:=(r1.rd:RD X.W z1.ρ z1.G (.lst ls) u)
    cases y with
    | int k=>
      obtain ⟨t,rfl⟩:=(r2.rd:RD X.W z2.ρ z2.G (.int k) v)
      obtain ⟨c,rfl⟩:=aD (show (if -1000000≤k∧k≤10000∧ls.length=1 then some (D.lst (ξ k.toNat ls).flatten) else none)=some d from q)
      obtain ⟨d0,rfl⟩:=List.length_eq_one_iff.mp c.2.2
      have w2:=w.mono y2.st.pr y2.st.gg
      obtain ⟨v0,vr,rfl,rd0,h0⟩:=w2
      have h0:vr = []:=h0
      subst h0
      have hl:=I2.gh _ _ (y2.st.gg _ _ ho)
      have sl:(65536:Nat)≤ϝ:=by rw [í];decide
      refine wpAny_binaryOp_repeat_ref (T:="list") (U:="int") (by decide) ⟨_,hl,rfl⟩ (fun s'=>typeIs_int s' k t) noFill_list_mul PySem.F.fills_int_mul Fd repeat_list PySem.F.slot_int_index.lookup
       (ĝ Fd (typeIs_int z2.s k t) PySem.F.entry_int_rmul (PySem.F.args_int_rmul_2 _ _) (int___rmul___int_list k t ad _ n)
        ⟨hl,rfl,⟨_,hl,rfl⟩,ĝ PySem.F.slot_list_mul ⟨_,hl,rfl⟩ PySem.F.entry_list_mul (PySem.F.args_list_mul_2 _ _)
         (AutoListH.list___mul___list_int_3 ad _ n k t (by simp [II];omega) (by simp;omega) (by simp [D7,ϝ];omega))
         ⟨hl,?_⟩⟩)
      have e9:ID (fun x1 x2=>x1 ++ x2) #[] (ξ (if ([v0].toArray).isEmpty=true then 0 else k.toNat) [v0].toArray)=(ξ k.toNat v0).toArray:=by
       rw [ZY (by simp)]
       have:=o7 v0 k.toNat #[]
       simpa using this
      rw [e9,B6]
      have dw:Dw X z2 (.lst (ξ k.toNat d0)) (.ref z2.s.heap.objs.size) { z2.s with heap:=z2.s.heap.push { cls:=.type "list",data:=.seq (ξ k.toNat v0).toArray },toks:=z2.s.toks }:=.lstn (kR rd0 _) (by rw [Å];omega)
      exact dw.dn I2
    | _=>cases q
  | str ys=>
    obtain ⟨t0,rfl⟩:=(r1.rd:RD X.W z1.ρ z1.G (.str ys) u)
    cases y with
    | int k=>
      obtain ⟨t,rfl⟩:=(r2.rd:RD X.W z2.ρ z2.G (.int k) v)
      obtain ⟨c,rfl⟩:=aD (show (if -1000000≤k∧k≤10000∧ys.length≤10 then some (D.str (À ys k)) else none)=some d from q)
      refine SB.mul ⟨by simp;omega,fun h1 _=>?_,fun h1 _=>?_⟩ fun t' k=>.tok fun _ _ _=>⟨_,rfl⟩
      ·have:(10:Int)≤(2 ^ 63 - 1) / k:=(FK (by omega)).mpr (by omega)
       omega
      ·have e3:ys.length * k.toNat≤10 * 10000:=ŧ c.2.2 (by omega)
       unfold ED
       rw [í]
       exact ZV (by omega)
    | _=>cases q
  | _=>cases q)
theorem Rep.stwe {s':ς} {n:Nat} {o':O} {p:φ×φ} {e:φ} (I:Rep X z) (ep:z.ρ[n]? = some p) (he:e=p.1∨e=p.2) (sb:∀ b,b≠e→s'.heap.get? b=z.h b) (r:ObR X.W z.ρ z.G s'.heap.get? p o') (os:s'.os=z.s.os) (gs:s'.gens=z.s.gens) (tk:X.tz≤s'.toks) :
 Rep X { z with t:=⟨z.t.env,z.t.ow,z.t.st.set n o'⟩,s:=s' }∧Ee X z { z with t:=⟨z.t.env,z.t.ow,z.t.st.set n o'⟩,s:=s' }:=by
 have mu:Mu z.ρ e:=⟨p,Ρ ep,he⟩
 obtain ⟨I',g'⟩:=I.stw ep he sb r os gs tk
 have k:∀ b o,z.h b=some o→¬ Mu z.ρ b→s'.heap.get? b=some o:=fun b o w q=>(sb b fun z=>q (z ▸ mu)).trans w
 exact ⟨I',⟨μ _,.refl _,fun _ _ w=>.inl w,fun _ m=>.inl m,g'.st.th,fun b o w q _ _=>k b o w q,fun b o w q _ _=>⟨o.slots,k b o w q⟩⟩,rfl,rfl,fun _ m=>m⟩
theorem yO (ha:LE X eo a) (base:Â eo "pop" X.env (eval eo X.env)=eval eo X.env) (line:(apos.endLine == cpos.line)=true):LE X (.Call (.Attribute eo "pop" apos) [] [] cpos) (.pop a):=fun br z I nb=>by
 refine ϩ base rfl line Ý Fc PySem.F.type_list_pop ((ha true).go .refl I rfl nb fun z1 x u y1 x1 I1 r1 e1=>?_)
 cases x with
 | ref n=>
   obtain ⟨p,ep,rfl⟩:=(r1.rb.cr0 I1:RD X.W z1.ρ z1.G (.ref n) u)
   have e1:X.ev br (.pop a) z.t=(match z1.t.st[n]? with
    | some (.lst l)=>(match l.getLast? with | some d=>.ok d ⟨z1.t.env,z1.t.ow,z1.t.st.set n (.lst l.dropLast)⟩ | none=>.bad)
    | _=>.bad):=e1
   cases q:z1.t.st[n]? with
   | none=>rw [q] at e1;exact ZX e1 nb
   | some ob=>
     rw [q] at e1
     cases ob with
     | lst l=>
       dsimp only at e1
       cases q2:l.getLast? with
       | none=>rw [q2] at e1;exact ZX e1 nb
       | some d=>
         rw [q2] at e1
         obtain ⟨o,vs,hp2,ho,⟨⟨k,rfl⟩,hz⟩,rl⟩:=I1.ob n _ p q ep
         refine ⟨⟨_,ho,rfl⟩,fun b q=>(by cases q;exact ⟨_,ho,rfl⟩),?_⟩
         refine Ϛ rfl (ŷ ?_)
         have hl:l[l.length - 1]? = some d:=by rw [← List.getLast?_eq_getElem?];exact q2
         obtain ⟨v,hv,rv⟩:=rl.get hl
         have len:=rl.len
         have pos:l.length - 1<l.length:=(κ.mp hl).1
         have hv':vs.toArray[vs.toArray.size - 1]? = some v:=by simp only [Ν,List.getElem?_toArray];rw [← len];exact hv
         refine ĝ Fc ⟨_,ho,rfl⟩ PySem.F.entry_list_pop (PySem.F.args_list_pop_1 _) (HW p.1 vs.toArray k v hv' (by rw [Ν];exact hz)) ⟨ho,?_⟩
         have hf:(vs.toArray.eraseIdxIfInBounds (vs.toArray.size - 1))=vs.dropLast.toArray:=by
          have:vs.toArray.size - 1<vs.toArray.size:=by simp;omega
          simp only [Array.eraseIdxIfInBounds,this,dite_true]
          apply Iy
          rw [Array.toList_eraseIdx]
          simp only [Ν]
          rw [List.eraseIdx_eq_take_drop_succ,ŝ,List.drop_eq_nil_of_le (by omega),Ω]
         obtain ⟨⟨o1,u1,u3⟩,u2⟩:=dK (f:=fun xs=>xs.eraseIdxIfInBounds (vs.toArray.size - 1)) (ws:=vs.dropLast) ho hf (by rw [List.length_dropLast];omega)
         obtain ⟨I3,g3⟩:=I1.stwe (s':={ z1.s with heap:=z1.s.heap.update p.1 (Þ fun xs=>xs.eraseIdxIfInBounds (vs.toArray.size - 1)) }) (o':=.lst l.dropLast) ep (.inl rfl) u2 ⟨o1,vs.dropLast,hp2,u1,u3,by rw [ŝ,ŝ,← len];exact rl.take _⟩ rfl rfl I1.tk
         exact ⟨_,d,rfl,e1,x1.trans g3,I3,.of rv⟩
     | _=>exact ZX e1 nb
 | _=>exact ZX e1 nb
end
section
variable {X:Cx} {z z1:Z} {tg:Ο}
theorem yW (hc:X.calm=true) (hx:Blt X "reversed" (.type "reversed")) (ha:LE X ea a) (he:Ξ [ea] X.env=(false,eval ea X.env) :: Ξ [] X.env):LI X tg (.Call (.Name "reversed" p) [ea] [] pos) (.it .rev (.cons a .nil)):=fun z I nb=>
 aH (Q:=fun v s1=>Α X.M X.A (DY v) (FI X z tg (X.ev false (.it .rev (.cons a .nil)) z.t)) NoE s1) (.inr ⟨_,rfl⟩) hx he rfl I (Θ ((ha false).go .refl I (ev1 fun l s=>Out.of s ((itD .rev l).map D.lst)) nb fun z1 x u y1 x1 I1 r1 e1=>Τ (by
  cases x with
  | lst l=>
    obtain ⟨a0,o,vs,rfl,g,⟨⟨n,rfl⟩,hz⟩,r⟩:=r1.rd
    have gl:z1.s.heap.IsList a0 vs.toArray:=⟨_,I1.gh _ _ g,rfl,n,rfl⟩
    have ne:=nR I1 g
    refine HD gl ?_
    have gi:(z1.s.heap.push (revObj a0 ((vs.toArray.size:Int) - 1))).IsRevIter z1.s.heap.objs.size a0 ((vs.toArray.size:Int) - 1):=⟨_,ψ _ rfl,rfl,rfl⟩
    refine H9 gi (fH (ds:=l.reverse) (wr:=[z1.s.heap.objs.size]) x1 I1 (.push (t:=z1.s.toks)) (Itr.walks (I1.hd hc) (by simp [r.len]) (fun A hA=>Ho hA _ a0 ne vs.toArray) (fun i h st b hb=>by rw [ε.mp hb];obtain ⟨_,⟨o,e,_⟩,_⟩:=st;exact ⟨o,e⟩) (fun st q=>let ⟨_,⟨o,e,c,d⟩,_⟩:=st;gE e c d (by decide) q) fun i v d p1 p2 ρ' G' h1 h2=>?_) ⟨ϰ _,by simpa using gi,gl.at fun o e=>Ζ _ e⟩ (fun b hb=>?_) e1)
    ·obtain ⟨v',w1,w2⟩:=(r.rev.mono h1 h2).get p2
     have w1:vs.reverse[i]? = some v':=w1
     have hi:i<vs.length:=by have:=(κ.mp w1).1;simpa using this
     rw [FH hi] at w1
     have p1:vs[vs.length - 1 - i]? = some v:=by simpa using p1
     rw [p1] at w1;cases w1;exact w2
    ·rcases υ.mp hb with w | w
     ·rw [w];exact .inl ⟨aG z1,_,ψ _ rfl⟩
     ·rw [ε.mp w];exact .inr ⟨fun m=>ne (ε.mp m),_,g⟩
  | _=>exact ZX e1 nb)))
theorem vQ (ho:LE X eo a) (he:LE X e c) (m:M1 X eo "extend" apos e cpos):LS X (.Expr (.Call (.Attribute eo "extend" apos) [e] [] cpos) pos) (.fext a c):=fun z I nb=>by
 have e0:X.ex (.fext a c) z.t=(X.ev true a z.t).go fun x s=>if fS s.st x=true then (X.ev false c s).go fun d s=>exO x d s else .bad:=rfl
 refine ſ (ϩ m.base m.few m.line Ý Et PySem.F.type_list_extend ((ho true).gos .refl I e0 nb fun z1 x u y1 x1 I1 r1 e1=>?_)) I.quiet rfl
 by_cases c0:fS z1.t.st x=true
 ·rw [ZZ c0] at e1
  obtain ⟨n,l,rfl,en⟩:=nN c0
  obtain ⟨p,ep,rfl⟩:=fA I1 r1.rb
  obtain ⟨o,vs,_,ho,⟨⟨k,rfl⟩,_⟩,_⟩:=I1.ob n _ p en ep
  refine ⟨⟨_,ho,rfl⟩,fun b q=>(by cases q;exact ⟨_,ho,rfl⟩),?_⟩
  rw [m.trees]
  refine Ϛ rfl (ϣ (Θ ((he false).gos x1 I1 e1 nb fun z2 d w y2 x2 I2 r2 e2=>Τ ?_)))
  have e2:X.ex (.fext a c) z.t=exO (.ref n) d z2.t:=e2
  unfold exO at e2
  dsimp only at e2
  cases q:z2.t.st[n]? with
  | none=>rw [q] at e2;exact ZX e2 nb
  | some ob=>
    rw [q] at e2
    cases ob with
    | lst l2=>
      cases d with
      | lst xs=>
        dsimp only at e2
        by_cases c2:l2.length+xs.length≤100000
        ·rw [ZZ c2] at e2
         have ep2:=eD y2.st.pr ep
         obtain ⟨o,vs,hp2,ho,⟨⟨k,rfl⟩,_⟩,rl⟩:=I2.ob n _ p q ep2
         obtain ⟨b,o,us,rfl,g,⟨⟨n2,rfl⟩,hz2⟩,rx⟩:=r2.rd
         have l1:=rl.len
         have l3:=rx.len
         have hz:vs.toArray.size+us.toArray.size≤ϝ:=by simp only [Ν];exact big (by omega)
         refine ĝ Et ⟨_,ho,rfl⟩ PySem.F.entry_list_extend (PySem.F.args_list_extend_2 _ _) (AutoSeq1.list_extend_list_list_0 p.1 vs.toArray k b us.toArray n2 ?_ (by omega) (by omega)) ⟨ho,I2.gh _ _ g,?_⟩
         ·rw [show D7 (vs.toArray.size+us.toArray.size)=false from ZV (Nat.not_lt.mpr hz),EF];exact fun h=>nomatch h
         obtain ⟨⟨o1,u1,u3⟩,u2⟩:=dK (f:=(· ++ us.toArray)) (ws:=vs ++ us) ho (by simp) (by rw [Δ];simpa using hz)
         obtain ⟨I3,g3⟩:=I2.stw (s':={ z2.s with heap:=z2.s.heap.update p.1 (Þ (· ++ us.toArray)) }) (o':=.lst (l2 ++ xs)) ep2 (.inl rfl) u2 ⟨o1,vs ++ us,hp2,u1,u3,rl.app rx⟩ rfl rfl
         exact nxt (x2.trans g3) I3 e2
        ·rw [ZY c2] at e2;exact ZX e2 nb
      | _=>exact ZX e2 nb
    | _=>cases d <;> exact ZX e2 nb
 ·rw [ZY c0] at e1;exact ZX e1 nb
def xD (X:Cx):Prop:=∀ (c:Nat) (k:Cl) (ic:CI),X.Γ.cl[c]? = some k→X.W.ci[c]? = some ic→X.W.what[c]? = some 2→ϖ X.K ic.ad (.type "ValueError")=some (k.sup.contains 1000)
theorem vt {an:Nat→θ} (T:bO X an) (hx:Blt X "isinstance" (.builtin "isinstance")) (ht:Blt X "ValueError" (.type "ValueError")) (V:xD X) (ha:LE X ea a) (he:Ξ [ea,.Name "ValueError" q] X.env=(false,eval ea X.env) :: Ξ [.Name "ValueError" q] X.env):LE X (.Call (.Name "isinstance" p) [ea,.Name "ValueError" q] [] pos) (.isXv a):=fun br z I nb=>by
 exact aH (.inl ⟨_,rfl⟩) hx he rfl I (Θ ((ha true).go .refl I rfl nb fun z1 x u y1 x1 I1 r1 e1=>Θ (ht.ld I1 (Τ (b6 x1 I1 e1 nb fun d q=>by
  have cr:=r1.rb.cr0 I1
  cases x with
  | ins c l=>
    obtain ⟨a,i,vs,rfl,hc,hl,w,rs⟩:=(cr:RD X.W z1.ρ z1.G (.ins c l) u)
    have q:(if fN X.Γ c=true then (X.Γ.cl[c]?).map fun k=>D.bl (k.sup.contains 1000) else none)=some d:=q
    split at q
    ·rename_i hw
     obtain ⟨k,i',e1,ok,w2⟩:=jW T hw
     have e3:=ok.ci
     rw [hc] at e3;cases e3
     rw [e1] at q
     cases q
     have wc:=ok.wh
     rw [w2] at wc
     have K1:kitOne X.K (.ref i.ad) (.type "ValueError")=some (k.sup.contains 1000):=by
      unfold kitOne
      rw [ZY (by simp)]
      exact V c k i e1 hc wc
     have J:∃ o od,InstAt z1.s.heap a o i.ad od:=by
      rcases w with ⟨w1,_⟩ | ⟨_,w⟩
      ·rw [wc] at w1;cases w1
      ·obtain ⟨o,vs,g1,g2,g3,g4⟩:=w.sub I1.gh
       rcases g4 with ⟨_,g5⟩ | ⟨d,od,g5,g6,g7⟩
       ·exact ⟨o,none,g1,g2,by unfold notCls;rw [g3],by rw [g5];trivial⟩
       ·exact ⟨o,some od,g1,g2,by unfold notCls;rw [g3],by rw [g5];exact g6⟩
     exact kia_one (iS (ok.xc w2).1) I1.toHR.kin J K1 (fun z=>nomatch z) fun tk=>.old I1 .tok rfl
    ·cases q
  | _=>cases q)))))
end
end L2.Ev
end
section
namespace PySem
namespace F
theorem sub_rri:isSubtype (.type "range_iterator") (.type "reversed")=pure false:=by kernel_rfl
end F
theorem qL (r:φ) (a b c:Int) (t u v:Tok) (hs:(Κ a && Κ b && Κ c && Κ (-c) && Κ (a - c) && Κ (ϑ a b c))=true):Meets (Ft.«range.__reversed__» ⟨[.ref r],[]⟩) (fun _ R s=>s.heap.get? r=some { cls:=.type "range",data:=.fields #[.int a t,.int b u,.int c v] }∧R (.ok (.ret (.ref s.heap.objs.size))) { s with heap:=s.heap.push { cls:=.type "range_iterator",data:=.fields #[Ã (a+(ϑ a b c - 1) * c),Ã (ϑ a b c),Ã (-c)] } }):=
 .of_wp fun prog w A R s h=>by
  obtain ⟨hp,g,d,tk,os⟩:=s;obtain ⟨h1,h⟩:=h
  wp_walk
  rw [ZZ hs]
  exact ⟨_,rfl,h⟩
theorem wu (r:φ) (a b c:Int) (t u v:Tok) (hs:(Κ a && Κ b && Κ c && Κ (-c) && Κ (a - c) && Κ (ϑ a b c))=true):Meets (Ft.«reversed.__new__» ⟨[.type "reversed",.ref r],[]⟩) (fun _ R s=>s.heap.get? r=some { cls:=.type "range",data:=.fields #[.int a t,.int b u,.int c v] }∧R (.ok (.ret (.ref s.heap.objs.size))) { s with heap:=s.heap.push { cls:=.type "range_iterator",data:=.fields #[Ã (a+(ϑ a b c - 1) * c),Ã (ϑ a b c),Ã (-c)] } }):=
 .of_wp fun prog w A R s h=>by
  obtain ⟨hp,g,d,tk,os⟩:=s;obtain ⟨h1,h⟩:=h
  have hsub:=F.sub_reversed_self
  have ty:Hg ⟨hp,g,d,tk,os⟩ (.ref r) "range":=⟨_,h1,rfl⟩
  wp_walk
  refine EU Ě.lookup ?_
  wp_walk
  refine EU (Ě.bind _) ?_
  wp_walk
  refine ß Ě.plain F.entry_range_reversed (Ě.check _ _ _ _ _ _ _ _ ty (F.args_range_reversed_1 _) ?_)
  refine Η (qL r a b c t u v hs prog w A.in1 (fun r s'=>match r with
   | .ok (.ret v)=>Α (model prog w) A.in1 (ret v) (fun fin s'=>∃ v,fin=Fin.done (Flow.ret v)∧R (Except.ok (Flow.ret v)) s') (fun e s'=>R (Except.error e) s') s'
   | .ok _=>False
   | .error e=>R (.error e) s') _ ⟨h1,?_⟩) (fun fin s' h=>?_) fun e s' h=>h
  ·exact π ⟨_,rfl,h⟩
  ·cases fin with
   | done f=>cases f <;> exact h
   | again c=>exact h
theorem gv {prog:Ä} {w:à} {A:ϙ} {E:η→ς→Prop} {s:ς} {Q:η→ς→Prop} {r:φ} {a b c:Int} {t u v:Tok} (h1:s.heap.get? r=some { cls:=.type "range",data:=.fields #[.int a t,.int b u,.int c v] }) (hs:(Κ a && Κ b && Κ c && Κ (-c) && Κ (a - c) && Κ (ϑ a b c))=true)
 (h:Q (.ref s.heap.objs.size) { s with heap:=s.heap.push { cls:=.type "range_iterator",data:=.fields #[Ã (a+(ϑ a b c - 1) * c),Ã (ϑ a b c),Ã (-c)] } }):Α (model prog w) A (call (.type "reversed") [.ref r]) Q E s:=by
 refine callType_other (T:="reversed") (newId:="reversed.__new__") (U:="range_iterator") (Q₁:=fun obj s1=>obj = .ref s.heap.objs.size∧s1={ s with heap:=s.heap.push { cls:=.type "range_iterator",data:=.fields #[Ã (a+(ϑ a b c - 1) * c),Ã (ϑ a b c),Ã (-c)] } }) (by kernel_rfl) (by kernel_rfl) ⟨_,_,F.mro_reversed⟩ F.made_reversed F.sub_rri (F.typeCall_reversed_1 _) ?_ ?_
 ·refine ß (by kernel_rfl) F.entry_reversed_new (EU (F.newCall_reversed_1 _) ?_)
  exact wu r a b c t u v hs prog w A.in1 _ s ⟨h1,rfl,rfl⟩
 ·rintro obj s1 ⟨rfl,rfl⟩
  exact ⟨⟨_,ψ _ rfl,rfl⟩,h⟩
end PySem
namespace L2.Ev
theorem eY {x:Int} (h:-(2 ^ 62)≤x∧x≤2 ^ 62):Κ x=true:=by
 unfold Κ
 simp
 omega
def rrO (x:D):Option D:=(itD .range1 [x]).map fun l=>D.lst l.reverse
section
variable {X:Cx} {z z1:Z} {tg:Ο}
theorem AY {a:E} {br:Bool} {t:Sta}:X.ev br (.it .rev (.cons (.it .range1 (.cons a .nil)) .nil)) t=(X.ev false a t).bind fun x s=>Out.of s (rrO x):=by
 show (((((X.ev false a t).bind fun x s=>Out.ok [x] s).bind fun l s=>Out.of s ((itD .range1 l).map D.lst)).bind fun x s=>Out.ok [x] s).bind fun l s=>Out.of s ((itD .rev l).map D.lst))=_
 cases X.ev false a t with
 | ok x s=>
   show ((Out.of s ((itD .range1 [x]).map D.lst)).bind fun x s=>Out.ok [x] s).bind (fun l s=>Out.of s ((itD .rev l).map D.lst))=Out.of s ((itD .range1 [x]).map fun l=>D.lst l.reverse)
   cases itD .range1 [x] <;> rfl
 | _=>rfl
theorem vJ {p p2 pos pos2:ϥ} (hc:X.calm=true) (hx:Blt X "reversed" (.type "reversed")) (hr:Blt X "range" (.type "range")) (ha:LE X ea a) (hs:Ξ [ea] X.env=(false,eval ea X.env) :: Ξ [] X.env) (hs2:Ξ [.Call (.Name "range" p2) [ea] [] pos2] X.env=(false,eval (.Call (.Name "range" p2) [ea] [] pos2) X.env) :: Ξ [] X.env):LI X tg (.Call (.Name "reversed" p) [.Call (.Name "range" p2) [ea] [] pos2] [] pos) (.it .rev (.cons (.it .range1 (.cons a .nil)) .nil)):=fun z I nb=>
 aH (Q:=fun v s1=>Α X.M X.A (DY v) (FI X z tg (X.ev false (.it .rev (.cons (.it .range1 (.cons a .nil)) .nil)) z.t)) NoE s1) (.inr ⟨_,rfl⟩) hx hs2 rfl I (Θ (aH (.inr ⟨_,rfl⟩) hr hs rfl I (Θ ((ha false).go .refl I AY nb fun z1 x u y1 x1 I1 r1 e1=>Τ (by
  cases x with
  | int j=>
    obtain ⟨t,rfl⟩:=r1.rd
    have e1:X.ev false (.it .rev (.cons (.it .range1 (.cons a .nil)) .nil)) z.t=Out.of z1.t ((if -(2 ^ 62)≤j∧j<2 ^ 62 then some (d3 0 j.toNat) else none).map fun l=>D.lst l.reverse):=e1
    by_cases c:-(2 ^ 62)≤j∧j<2 ^ 62
    ·rw [ZZ c] at e1
     have e1:X.ev false (.it .rev (.cons (.it .range1 (.cons a .nil)) .nil)) z.t = .ok (.lst (d3 0 j.toNat).reverse) z1.t:=e1
     have sz:ϑ 0 j 1=(j.toNat:Int):=by rw [rangeSize_one];split <;> omega
     refine call_range_1 (Τ (gv (a:=0) (b:=j) (c:=1) (ψ _ rfl) ?_ ?_))
     ·rw [sz,eY (by omega),eY (by omega),eY (by omega),eY (by omega),eY (by omega),eY (by omega)];rfl
     rw [sz]
     refine wpAny_pyIter_rangeiter (x:=0+((j.toNat:Int) - 1) * 1) (left:=(j.toNat:Int)) (step:=-1) (ψ _ rfl) ?_
     have g0:Gr z1.s { z1.s with heap:=z1.s.heap.push { cls:=.type "range",data:=.fields #[.int 0 z1.s.toks,.int j t,.int 1 (z1.s.toks+1)] },toks:=z1.s.toks+1+1 }:=.push
     refine fH (ds:=(d3 0 j.toNat).reverse) x1 I1 (g0.trans (.push (t:=z1.s.toks+1+1))) (Itr.walks (I1.hd hc) (by rw [ů];exact eH) (fun A hA=>HU hA _ (0+((j.toNat:Int) - 1) * 1) (-1) j.toNat) (fun i h st b hb=>by rw [ε.mp hb];exact ⟨_,st⟩) (fun st q=>gE st rfl rfl (by decide) q) fun i v d p1 p2 ρ' G' _ _=>?_) ?_ (fun b hb=>?_) e1
     ·obtain ⟨t,rfl⟩:=p1
      have hi:i<j.toNat:=by have:=(κ.mp p2).1;rw [ů,eH] at this;exact this
      rw [FH (by rw [eH];exact hi),eH] at p2
      unfold d3 at p2
      rw [ϒ,τ] at p2
      obtain ⟨k,p3,rfl⟩:=p2
      obtain ⟨hj,hj2⟩:=κ.mp p3
      rw [Gs] at hj2
      subst hj2
      refine ⟨t,?_⟩
      congr 1
      omega
     ·show IsRangeIter _ _ (0+((j.toNat:Int) - 1) * 1+((0:Nat):Int) * (-1)) ((j.toNat:Int) - ((0:Nat):Int)) (-1)
      rw [show (0+((j.toNat:Int) - 1) * 1+((0:Nat):Int) * (-1))=0+((j.toNat:Int) - 1) * 1 by omega,show (j.toNat:Int) - ((0:Nat):Int)=j.toNat by omega]
      exact ψ _ rfl
     ·rw [ε.mp hb];exact .inl ⟨Ϙ (by rw [ċ];exact ö _),_,ψ _ rfl⟩
    ·rw [ZY c] at e1;exact ZX e1 nb
  | _=>exact ZX e1 nb)))))
end
def cW (nm:List (θ×χ)) (x:θ):Bool:=match nm.lookup x with
 | some .local=>true
 | some .cell=>true
 | some .free=>true
 | _=>false
def bA (nm:List (θ×χ)) (x:θ):Bool:=nm.lookup x == some .globalImplicit
def aQ:Ο→Bool
 | .Call (.Name id _) [] [] _=>id != "super"
 | _=>true
theorem ah (h:aF e=true):Ξ (e :: es) env=(false,eval e env) :: Ξ es env:=by
 cases e <;> first | rfl | cases h
theorem hH (h:aF e=true):i8 e:=by
 cases e <;> first | (intro o i;rfl) | cases h
theorem dY (h:aF e=true):Á op e=false:=by
 cases e <;> first | rfl | cases h
theorem iP (h:aF e=true):∀ x,Ŏ e env x=pure x:=by
 cases e <;> first | (intro x;rfl) | cases h
theorem bJ (h:∀ e∈es,aF e=true):(Ö pos (Ξ es env)).any (·.1)=false:=by
 induction es with
 | nil=>rfl
 | cons e r ih=>
   rw [ah (h e ι)]
   have:=ih fun x hx=>h x (ν _ hx)
   show (false || (Ö pos (Ξ r env)).any (·.1))=false
   rw [this];rfl
theorem bG {X:Cx} (hs:X.env.scope.names=nm) (h:cW nm x=true):Vis X.env.scope x:=by
 unfold cW at h
 unfold Vis
 rw [hs]
 split at h <;> first | (rename_i q;exact .inl q) | (rename_i q;exact .inr (.inl q)) | (rename_i q;exact .inr (.inr q)) | cases h
theorem bc (hs:X.env.scope.names=nm) (h:bA nm x=true):Gl X x:=by
 unfold bA at h
 show X.env.scope.names.lookup x=_
 rw [hs]
 simpa using h
structure Ns where
 gl:List θ
 tb:List θ
 fn:List θ
 at_:List θ
 bl:List θ
 rf:List θ:=[]
 me:List (θ×Nat×Nat):=[]
 ex:List θ:=[]
 nw:List θ:=[]
 mu:List θ:=[]
 nd:List θ:=[]
 hx:List θ:=[]
 hc:List θ:=[]
 xt:List θ:=[]
 kp:List θ:=[]
 alt:List (θ×Nat):=[]
 dn:List (θ×Nat×Nat):=[]
 fc:List θ:=[]
 oc:List θ:=[]
 e2:Bool:=false
 rl:List θ:=[]
 sn:List θ:=[]
 vx:Bool:=false
def Ns.an (T:Ns) (f:Nat):θ:=T.at_.getD f ""
abbrev Cx.to (X:Cx) (A:ϙ) (fr:List ż) (N:List θ) (e:ż) (cal cal1:Nat→List D→List O→Res):Cx:={ X with A:=A,fr:=fr,N:=N,env:=e,cal:=cal,cal1:=cal1 }
theorem HR.to {X:Cx} {A:ϙ} {fr:List ż} {N1 N2:List θ} {e1 e2:ż} {c1 c2 d1 d2:Nat→List D→List O→Res} (I:HR (X.to A fr N1 e1 c1 d1) z):HR (X.to A fr N2 e2 c2 d2) z:=⟨I.md,I.fm,I.hd,I.bs,I.gh,I.rl,I.rn,I.rg,I.ob,I.fu,I.ff,I.br,I.os,I.tk⟩
theorem FnC.to {X:Cx} {A:ϙ} {fr:List ż} {N:List θ} {e:ż} {c1 d1:Nat→List D→List O→Res} (h:FnC X cal lv j f fd ps dvs):FnC (X.to A fr N e c1 d1) cal lv j f fd ps dvs:=⟨h.len,fun A2 fr2 z args us ds r I b rd nb=>ý (h.run A2 fr2 z args us ds r (HR.to (X:=X) (N1:=N) (e1:=e) (c1:=c1) (d1:=d1) I) b rd nb) fun q s' hq=>by
 cases q with
 | error x=>obtain ⟨z',c,l,a1,a2,a3,a4,a5⟩:=hq;exact ⟨z',c,l,a1,a2,a3,HR.to (X:=X) a4,a5⟩
 | ok fl=>cases fl with
   | ret u=>obtain ⟨z',d,a1,a2,a3,a4,a5⟩:=hq;exact ⟨z',d,a1,a2,a3,HR.to (X:=X) a4,a5⟩
   | _=>exact hq.elim⟩
theorem bR.to {X:Cx} {A:ϙ} {fr:List ż} {N:List θ} {e:ż} {c1 d1:Nat→List D→List O→Res} (h:bR X cal lv j f):bR (X.to A fr N e c1 d1) cal lv j f:=let ⟨fd,ps,dvs,a,b,c⟩:=h;⟨fd,ps,dvs,a.to,b,c⟩
theorem FnI.to {X:Cx} {A:ϙ} {fr:List ż} {N:List θ} {e:ż} {c1 d1:Nat→List D→List O→Res} (h:FnI X lv f fd ps nm ck):FnI (X.to A fr N e c1 d1) lv f fd ps nm ck:=⟨h.len,fun A2 fr2 z args us p P ch r I b lu H hB hP hc=>h.run A2 fr2 z args us p P ch r (HR.to (X:=X) (N1:=N) (e1:=e) (c1:=c1) (d1:=d1) I) b lu ⟨H.ex,H.keep,H.set⟩ hB hP hc⟩
theorem FnJ.to {X:Cx} {A:ϙ} {fr:List ż} {N:List θ} {e:ż} {c1 d1:Nat→List D→List O→Res} (h:FnJ X lv f fd ps nm k C):FnJ (X.to A fr N e c1 d1) lv f fd ps nm k C:=let ⟨ck,a,b⟩:=h;⟨ck,a.to,b⟩
structure CxOk (T:Ns) (X:Cx) (nm:List (θ×χ)) (N:List θ):Prop where
 hN:X.N=N
 nd:N.Nodup
 sc:X.env.scope.names=nm
 kd:X.env.scope.kind = .function
 calm:X.calm=true
 fns:∀ (j:Nat) (x:θ),T.fn[j]? = some x→∃ k f,bR X X.cal k j f∧bq k X.A∧X.mg x=some (.ref f)
 gls:∀ (j:Nat) (x:θ),T.gl[j]? = some x→∃ d u,X.Γ.gl[j]? = some d∧X.mg x=some u∧aV X.K d u=true
 tbs:∀ (j:Nat) (x:θ),T.tb[j]? = some x→∃ t a,X.Γ.tb[j]? = some t∧X.mg x=some (.ref a)∧TbL X a t
 blt:∀ x∈T.bl,X.mg x=none
 cls:bO X T.an
 mts:∀ q∈T.me,∃ k f,bR X X.cal k q.2.2 f∧bq k X.A∧pC X T.an q.1 q.2.1 f
 nws:∀ (j:Nat) (x:θ),T.nw[j]? = some x→x≠""→∃ n f i cl,bR X X.cal1 n cl.init f∧bq (n+1) X.A∧Mk X.K i.ad f∧X.Γ.cl[j]? = some cl∧cl.what=0∧X.W.ci[j]? = some i∧X.W.what[j]? = some 0∧X.mg x=some (.ref i.ad)
 nds:∀ (j:Nat) (x:θ),T.nd[j]? = some x→x≠""→∃ n f fd ps i cl,FnI X n f fd ps i.nm none∧bW X.K fd ps []∧bq (n+1) X.A∧Mk X.K i.ad f∧Cls X.K i.ad∧(∀ f∈i.nm,di X.K i.ad f)∧X.Γ.cl[j]? = some cl∧X.W.ci[j]? = some i∧X.W.what[j]? = some 1∧i.nm.length=cl.at_.length∧X.mg x=some (.ref i.ad)
 hxs:∀ (j:Nat) (x:θ),T.hx[j]? = some x→x≠""→pB X j x
 fr:dL X
 vxs:T.vx=true→xD X
abbrev GE (T:Ns) (nm:List (θ×χ)) (N:List θ) (e:Ο):={c:E // ∀ X,CxOk T X nm N→LE X e c∧(au c=true→LF X e c)}
abbrev GT (T:Ns) (nm:List (θ×χ)) (N:List θ) (e:Ο):={c:E // ∀ X,CxOk T X nm N→LT X e c}
abbrev GW (T:Ns) (nm:List (θ×χ)) (N:List θ) (e:Ο):={c:E // ∀ X,CxOk T X nm N→LW X e c}
abbrev GA (T:Ns) (nm:List (θ×χ)) (N:List θ) (es:List Ο):={c:E // ∀ X,CxOk T X nm N→LA X es c}
abbrev GO (T:Ns) (nm:List (θ×χ)) (N:List θ) (e:Option Ο):={c:E // ∀ X,CxOk T X nm N→LO X e c}
abbrev GI (T:Ns) (nm:List (θ×χ)) (N:List θ) (tg e:Ο):={c:E // ∀ X,CxOk T X nm N→LI X tg e c}
abbrev aB (T:Ns):=∀ nm N e,Option (GE T nm N e)
abbrev ip (T:Ns):=∀ nm N e,Option (GT T nm N e)
theorem mk (h:LE X e c) (n:au c=false:=by rfl):LE X e c∧(au c=true→LF X e c):=⟨h,fun q=>by rw [n] at q;cases q⟩
theorem mkf (h:LF X e c) (hb:∀ br,X.ev br c=X.ev false c:=by intro _;rfl):LE X e c∧(au c=true→LF X e c):=⟨h.le hb,fun _=>h⟩
def yes (b:Bool):Option (PLift (b=true)):=match b with | true=>some ⟨rfl⟩ | false=>none
def no (b:Bool):Option (PLift (b=false)):=match b with | false=>some ⟨rfl⟩ | true=>none
def aO (x:θ):(l:List θ)→Option {i:Nat // l[i]? = some x}
 | []=>none
 | y :: r=>match h:y == x with
   | true=>some ⟨0,by rw [Fi];congr;simpa using h⟩
   | false=>(aO x r).map fun i=>⟨i.1+1,by rw [Ń];exact i.2⟩
def dnA (x:θ) (n:Nat) (l:List (θ×Nat×Nat)):List (θ×Nat):=match l.lookup x with
 | some q=>if n=q.1 then [(x,q.2)] else []
 | none=>[]
def Ct (x:θ) (al:List (θ×Nat)) (l:List θ):Option {i:Nat // l[i]? = some x}:=match al.lookup x with
 | some j=>(match h:l[j]? with
   | some y=>(match h2:y == x with
     | true=>some ⟨j,by rw [h];congr;simpa using h2⟩
     | false=>none)
   | none=>none)
 | none=>aO x l
def qw (x:θ):(l:List θ)→Option (PLift (x∈l))
 | []=>none
 | y :: r=>match h:y == x with
   | true=>some ⟨by have:y=x:=by simpa using h
                    rw [this];exact ι⟩
   | false=>(qw x r).map fun i=>⟨ν _ i.down⟩
section
variable {T:Ns} {nm:List (θ×χ)} {N:List θ}
def AA (T:Ns) (nm:List (θ×χ)) (N:List θ) (x:θ) (pos:ϥ):Option (GE T nm N (.Name x pos)):=do
 let hd ← no (x == ("__debug__":θ))
 let hc ← no (x == ("__classdict__":θ))
 match hl:cW nm x with
 | true=>
   let i ← aO x N
   some ⟨.v i.1,fun X k=>mk (vC (by rw [k.hN];exact i.2) (bG k.sc hl) hd.down hc.down)⟩
 | false=>
   let hg ← yes (bA nm x)
   let j ← aO x T.gl
   some ⟨.g j.1,fun X k=>by
    obtain ⟨d,u,h1,h2,h3⟩:=k.gls j.1 x j.2
    exact mk (Dq (bc k.sc hg.down) h2 hd.down h1 h3)⟩
def xO (T:Ns) (nm:List (θ×χ)) (N:List θ) (c:Const) (j:Nat) (pos:ϥ):Option (GE T nm N (.Constant c j pos)):=match c with
 | .none=>some ⟨.c .non,fun X k=>mk wZ⟩
 | .bool b=>some ⟨.c (.bl b),fun X k=>mk AQ⟩
 | .int i=>some ⟨.c (.int i),fun X k=>mk wY⟩
 | .str x=>some ⟨.c (.str x),fun X k=>mk w8⟩
 | _=>none
def opP (op:FC):Option {o:Op // ∀ X:Cx,Op2 X (ļ op) (opD o)}:=match op with
 | .Add=>some ⟨.add,fun X=>zv⟩
 | .Sub=>some ⟨.sub,fun X=>zz⟩
 | .Mult=>some ⟨.mul,fun X=>zx⟩
 | .FloorDiv=>some ⟨.fdiv,fun X=>wp⟩
 | .Mod=>some ⟨.mod,fun X=>zw⟩
 | .Pow=>some ⟨.pow,fun X=>zy⟩
 | _=>none
def uV (op:CmpOp):Option {o:Op // ∀ X:Cx,Op2 X (Ê op) (opD o)}:=match op with
 | .Eq=>some ⟨.eq,fun X=>BW⟩
 | .NotEq=>some ⟨.ne,fun X=>B2⟩
 | .Lt=>some ⟨.lt,fun X=>B1⟩
 | .LtE=>some ⟨.le,fun X=>BZ⟩
 | .Gt=>some ⟨.gt,fun X=>BX⟩
 | .In=>some ⟨.isin,fun X=>BY⟩
 | .NotIn=>some ⟨.notin,fun X=>tK⟩
 | _=>none
def cE (f:∀ e,Option (GE T nm N e)):(es:List Ο)→Option (GA T nm N es)
 | []=>some ⟨.nil,fun _ _=>sf⟩
 | e :: r=>do
   let h ← yes (aF e)
   let a ← f e
   let b ← cE f r
   some ⟨.cons a.1 b.1,fun X k=>nZ (a.2 X k).1 (b.2 X k) (ah h.down)⟩
def wQ (f:∀ e,Option (GE T nm N e)) (pos:ϥ):(es:List Ο)→Option {c:E // ∀ X,CxOk T X nm N→LE X (.BoolOp .And es pos) c}
 | []=>none
 | [a]=>(f a).map fun x=>⟨x.1,fun X k=>(x.2 X k).1⟩
 | a :: b :: r=>do
   let x ← f a
   let y ← wQ f pos (b :: r)
   some ⟨.and x.1 y.1,fun X k=>yz (x.2 X k).1 (y.2 X k)⟩
def AF (f:∀ e,Option (GE T nm N e)) (pos:ϥ):(es:List Ο)→Option {c:E // ∀ X,CxOk T X nm N→LE X (.BoolOp .Or es pos) c}
 | []=>none
 | [a]=>(f a).map fun x=>⟨x.1,fun X k=>(x.2 X k).1⟩
 | a :: b :: r=>do
   let x ← f a
   let y ← AF f pos (b :: r)
   some ⟨.or x.1 y.1,fun X k=>BH (x.2 X k).1 (y.2 X k)⟩
def wP (g:∀ e,Option (GT T nm N e)) (pos:ϥ):(es:List Ο)→Option (GW T nm N (.BoolOp .And es pos))
 | []=>none
 | [a]=>(g a).map fun x=>⟨x.1,fun X k=>v9 (x.2 X k)⟩
 | a :: b :: r=>do
   let x ← g a
   let y ← wP g pos (b :: r)
   some ⟨.tand x.1 y.1,fun X k=>ze (x.2 X k) (y.2 X k)⟩
def AE (g:∀ e,Option (GT T nm N e)) (pos:ϥ):(es:List Ο)→Option (GW T nm N (.BoolOp .Or es pos))
 | []=>none
 | [a]=>(g a).map fun x=>⟨x.1,fun X k=>zg (x.2 X k)⟩
 | a :: b :: r=>do
   let x ← g a
   let y ← AE g pos (b :: r)
   some ⟨.tor x.1 y.1,fun X k=>BQ (x.2 X k) (y.2 X k)⟩
def AD (f:∀ e,Option (GE T nm N e)):(o:Option Ο)→Option (GO T nm N o)
 | none=>some ⟨.nil,fun X k=>vK⟩
 | some e=>do
   let a ← f e
   let h ← no (bB a.1)
   some ⟨a.1,fun X k=>vL h.down (a.2 X k).1⟩
end
end L2.Ev
end
section
namespace L2.Ev
open L2.Bw
theorem Draws.sh {prog:Ä} {w:à} {A:ϙ} {it:φ} {fp:List φ} {n:Nat} {P:Nat→η→Prop} {St:Nat→ϻ→Prop} (D:Draws prog w A it fp n P St) (m:Nat):Draws prog w A it fp (m+n) (fun i v=>P (i - m) v) (fun i h=>m≤i∧St (i - m) h) where
 live:=fun i h st=>D.live _ h st.2
 frame:=fun i h h' st k=>⟨st.1,D.frame _ _ _ st.2 k⟩
 item:=fun i s Q E hi st hQ=>D.item (i - m) s Q E (by have:=st.1;omega) st.2 fun x h' tk p q sb=>hQ x h' tk p ⟨Ϡ st.1,by rw [Nat.succ_sub st.1];exact q⟩ sb
 done:=fun s Q E st hE=>D.done s Q E (by have:=st.2;rwa [Fq] at this) hE
theorem HF.sh {prog:Ä} {w:à} {A:ϙ} {it:φ} {fp wr:List φ} {n:Nat} {Pt:Nat→Array η→Prop} {St:Nat→ϻ→Prop} {Mid:Nat→φ→ϻ→Prop} (m:Nat) (V:HF prog w A it fp wr (m+n) Pt St Mid):HF prog w A it fp wr n (fun i=>Pt (m+i)) (fun i=>St (m+i)) (fun i=>Mid (m+i)) where
 sub:=V.sub
 frame:=fun i=>V.frame (m+i)
 item:=fun i s Q E hi=>V.item (m+i) s Q E (Nat.add_lt_add_left hi m)
 go:=fun elts k pos i=>V.go elts k pos (m+i)
 apart:=fun i=>V.apart (m+i)
 done:=V.done
 self:=fun i=>V.self (m+i)
end L2.Ev
end
section
namespace L2.Bw
section
variable {prog:Ä} {w:à} {A:ϙ} {R:Result→ς→Prop} {it:φ} {fp wr:List φ} {n:Nat} {f:Nat→Int} {Z:Nat→ϻ→Prop}
abbrev wM (f:Nat→Int):Nat→η→Prop:=fun i v=>∃ t,v = .int (f i) t
abbrev gF (f:Nat→Int):Nat→Nat→Bool:=fun i j=>decide (f i>f j)
theorem jh (f:Nat→Int):∀ k i,i≤k→f i≤f (ŏ (gF f) k)
 | 0,i,h=>by cases (show i=0 by omega);exact Gb _
 | k+1,i,h=>by
   unfold ŏ
   cases hb:gF f (k+1) (ŏ (gF f) k) with
   | true=>
     have hb':f (k+1)>f (ŏ (gF f) k):=of_decide_eq_true hb
     simp only [if_true]
     by_cases e:i=k+1
     ·rw [e];exact Gb _
     ·have:=jh f k i (by omega);omega
   | false=>
     have hb':¬ f (k+1)>f (ŏ (gF f) k):=of_decide_eq_false hb
     simp only [ç,if_false]
     by_cases e:i=k+1
     ·rw [e];omega
     ·exact jh f k i (by omega)
theorem mX (f:Nat→Int):∀ k,ŏ (gF f) k≤k
 | 0=>Ϗ _
 | k+1=>by
   unfold ŏ
   cases gF f (k+1) (ŏ (gF f) k) with
   | true=>exact Ϗ _
   | false=>exact ϧ (mX f k) (ö _)
end
theorem rK (r:List Int):∀ x:Int,x≤r.foldl (fun a b=>if b>a then b else a) x∧(∀ y∈r,y≤r.foldl (fun a b=>if b>a then b else a) x)∧(r.foldl (fun a b=>if b>a then b else a) x=x∨r.foldl (fun a b=>if b>a then b else a) x∈r):=by
 induction r with
 | nil=>intro x;exact ⟨Gb _,fun y h=>(nomatch h),.inl rfl⟩
 | cons b r ih=>
   intro x
   have h:=ih (if b>x then b else x)
   rw [Ea]
   obtain ⟨h1,h2,h3⟩:=h
   by_cases c:b>x
   ·rw [ZZ c] at h1 h2 h3 ⊢
    refine ⟨by omega,fun y hy=>?_,?_⟩
    ·rcases υ.mp hy with rfl | hy
     ·exact h1
     ·exact h2 y hy
    ·rcases h3 with h3 | h3
     ·exact .inr (by rw [h3];exact ι)
     ·exact .inr (ν _ h3)
   ·rw [ZY c] at h1 h2 h3 ⊢
    refine ⟨h1,fun y hy=>?_,?_⟩
    ·rcases υ.mp hy with rfl | hy
     ·omega
     ·exact h2 y hy
    ·rcases h3 with h3 | h3
     ·exact .inl h3
     ·exact .inr (ν _ h3)
theorem wa {d m:Int} {ns:List Int} (ne:ns≠[]) (hm:m∈ns) (hg:∀ y∈ns,y≤m):maxD d ns=m:=by
 cases ns with
 | nil=>exact ZX rfl ne
 | cons x r=>
   obtain ⟨h1,h2,h3⟩:=rK r x
   have k1:maxD d (x :: r)=r.foldl (fun a b=>if b>a then b else a) x:=rfl
   rw [k1]
   have a1:r.foldl (fun a b=>if b>a then b else a) x≤m:=by
    rcases h3 with h3 | h3
    ·rw [h3];exact hg x ι
    ·exact hg _ (ν _ h3)
   have a2:m≤r.foldl (fun a b=>if b>a then b else a) x:=by
    rcases υ.mp hm with rfl | hm
    ·exact h1
    ·exact h2 m hm
   omega
theorem fJ:∀ {us:List η} {ns:List Int} {i:Nat} {v:η},Ey us ns→us[i]? = some v→∃ t,v = .int (ns.getD i 0) t
 | _,_,_,_,.nil,e=>by simp at e
 | _,_,0,v,.cons _ t _,e=>by simp at e;subst e;exact ⟨t,by simp⟩
 | _,_,i+1,v,.cons _ _ r,e=>by
   obtain ⟨t,h⟩:=fJ (i:=i) r (by simpa using e)
   exact ⟨t,by simpa using h⟩
end L2.Bw
namespace L2.Ev
open L2.Bw
theorem o3:∀ {l bs vs},fF l=some bs→RDs W ρ G l vs→vs=bs.map ϡ
 | [],bs,vs,e,r=>by cases e;cases (show vs = [] from r);rfl
 | d :: l,bs,vs,e,r=>by
   cases d with
   | bl b=>
     obtain ⟨cs,q,rfl⟩:=τ.mp (show (fF l).map (b :: ·)=some bs from e)
     obtain ⟨v,r',rfl,h,tl⟩:=r
     cases (show v=ϡ b from h)
     rw [o3 q tl];rfl
   | _=>cases e
theorem uC (bs:List Bool):((õ bs.length).all fun i=>(bs[i]?).getD true)=bs.all id:=by
 rw [ś,Λ,Λ]
 constructor
 ·intro h b hb
  obtain ⟨i,hi,rfl⟩:=FP.mp hb
  have:=h i (Ċ.mpr hi)
  rw [Μ hi] at this
  exact this
 ·intro h i hi
  have hi:=Ċ.mp hi
  rw [Μ hi]
  exact h _ (ú hi)
section
variable {X:Cx} {z:Z}
theorem xH (hc:X.calm=true):Bi1 X (.builtin "all") .all:=fun z u x d I h e=>by
 cases x with
 | lst l=>
   obtain ⟨bs,q,rfl⟩:=τ.mp (show (fF l).map (fun bs=>D.bl (bs.all id))=some d from e)
   obtain ⟨a,o,vs,rfl,g,⟨⟨n,rfl⟩,hz⟩,r⟩:=h
   have hv:=o3 q r
   have hi:z.s.heap.IsList a vs.toArray:=⟨_,g,rfl,n,rfl⟩
   have hlt:=ϛ g
   refine call_all_walk (ŋ hi ?_)
   refine ⟨z.s.heap.objs.size,[z.s.heap.objs.size,a],[z.s.heap.objs.size],vs.toArray.size,_,_,fun i=>(bs[i]?).getD true,rfl,G3 (A:=X.A.in1) (I.hd hc) _ a (ϯ hlt) vs.toArray,⟨⟨_,ψ _ rfl,rfl,rfl⟩,hi.push _⟩,fun i v s' Q' E' hP hQ=>?_,fun h' tk hk=>?_⟩
   ·have hP:vs[i]? = some v:=by simpa using hP
    rw [hv,ϒ,τ] at hP
    obtain ⟨b,e,rfl⟩:=hP
    simp only [e,D5] at hQ
    exact ϵ hQ
   ·have e:((õ vs.toArray.size).all fun i=>(bs[i]?).getD true)=bs.all id:=by
     rw [Ν,hv,Β];exact uC bs
    rw [e]
    exact .flat (.hp fun b o e=>hk b o (fun hm=>by rw [ε.mp hm] at e;exact Ź _ (ϛ e)) (Ζ _ e)) fun G=>rfl
 | _=>cases e
theorem uN (hc:X.calm=true):Bi1 X (.builtin "max") .max2:=fun z u x d I h e=>by
 cases x with
 | lst l=>
   have e:(match cN l with | some (n :: r)=>some (D.int (maxD 0 (n :: r))) | _=>none)=some d:=e
   cases q:cN l with
   | none=>rw [q] at e;cases e
   | some ns=>
     cases ns with
     | nil=>rw [q] at e;cases e
     | cons n0 r0=>
       rw [q] at e;cases e
       obtain ⟨a,o,vs,rfl,g,⟨⟨n,rfl⟩,hz⟩,r⟩:=h
       have hi:=kN q r
       have hlt:=ϛ g
       have hl:z.s.heap.IsList a vs.toArray:=⟨_,g,rfl,n,rfl⟩
       have hlen:vs.length=(n0 :: r0).length:=hi.length
       let f:Nat→Int:=fun i=>(n0 :: r0).getD i 0
       have P:∀ i v,vs.toArray[i]? = some v→wM f i v:=fun i v e=>fJ hi (by simpa using e)
       refine call_max_walk (ŋ hl ?_)
       have W:=G3 (prog:=X.W.P) (w:=X.W.w) (A:=X.A.in1) (I.hd hc) z.s.heap.objs.size a (ϯ hlt) vs.toArray
       refine ⟨z.s.heap.objs.size,[z.s.heap.objs.size,a],[z.s.heap.objs.size],vs.toArray.size,wM f,_,gF f,rfl,{ sub:=W.sub,frame:=W.frame,done:=W.done,self:=W.self,item:=fun i s Q E hi st hQ=>W.item i s Q E hi st fun v h' tk hP=>hQ v h' tk (P i v hP) },⟨⟨_,ψ _ rfl,rfl,rfl⟩,hl.push _⟩,fun b hb=>?_,by simp [hlen],CmpOf.ints_gt f fun _ _ h=>h,fun v h' tk hv hk=>?_⟩
       ·show b<(z.s.heap.push _).objs.size
        rw [ċ]
        rcases υ.mp hb with w | w
        ·rw [w];exact Ň _
        ·rw [ε.mp w];exact H4 hlt
       ·obtain ⟨t,rfl⟩:=hv
        have lt:=mX f (vs.toArray.size - 1)
        have hl2:ŏ (gF f) (vs.toArray.size - 1)<(n0 :: r0).length:=by simp at lt ⊢;simp at hlen;omega
        have em:f (ŏ (gF f) (vs.toArray.size - 1))=maxD 0 (n0 :: r0):=by
         refine (wa (by simp) ?_ fun y hy=>?_).symm
         ·show (n0 :: r0).getD _ 0∈_
          rw [ĩ,Μ hl2]
          exact ú _
         ·obtain ⟨i,hi',rfl⟩:=FP.mp hy
          have:=jh f (vs.toArray.size - 1) i (by simp at hi' hlen ⊢;omega)
          have e2:f i=(n0 :: r0)[i]:=by show (n0 :: r0).getD i 0=_;rw [ĩ,Μ hi'];rfl
          rw [← e2];exact this
        exact .flat (.hp fun b o e=>hk b o (fun hm=>by rw [ε.mp hm] at e;exact Ź _ (ϛ e)) (Ζ _ e)) fun G=>⟨t,by rw [em]⟩
 | _=>cases e
end
end L2.Ev
end
section
namespace L2.Ev
def isP (x y:θ):Option (PLift (x=y)):=match h:x == y with
 | true=>some ⟨by simpa using h⟩
 | false=>none
theorem kh:au (.bi b es)=au (.bi b .nil):=by cases b <;> rfl
abbrev Ac (x:θ) (b:Bi):Prop:=∀ X:Cx,X.calm=true→∃ f,FB f∧þ x=some f∧((Bi1 X f b∧au (.bi b .nil)=false)∨xA X f b)
def Cw:List {q:θ×Bi // Ac q.1 q.2}:=[
 ⟨("len",.len),fun X c=>⟨_,.inl ⟨_,rfl⟩,boot_len,.inl ⟨xJ,rfl⟩⟩⟩,
 ⟨("tuple",.tuple),fun X c=>⟨_,.inr ⟨_,rfl⟩,DQ,.inl ⟨qU,rfl⟩⟩⟩,
 ⟨("list",.list),fun X c=>⟨_,.inr ⟨_,rfl⟩,ħ,.inr uM⟩⟩,
 ⟨("all",.all),fun X c=>⟨_,.inl ⟨_,rfl⟩,boot_all,.inl ⟨xH c,rfl⟩⟩⟩,
 ⟨("max",.max2),fun X c=>⟨_,.inl ⟨_,rfl⟩,boot_max,.inl ⟨uN c,rfl⟩⟩⟩,
 ⟨("str",.str),fun X c=>⟨_,.inr ⟨_,rfl⟩,E6,.inl ⟨xK,rfl⟩⟩⟩,
 ⟨("int",.int),fun X c=>⟨_,.inr ⟨_,rfl⟩,E7,.inl ⟨xI,rfl⟩⟩⟩]
abbrev Ad (x:θ) (b:Bi):Prop:=au (.bi b .nil)=false∧∀ X:Cx,X.calm=true→∃ f,FB f∧þ x=some f∧Bi2 X f b
def Cy:List {q:θ×Bi // Ad q.1 q.2}:=[
 ⟨("max",.max2),rfl,fun X c=>⟨_,.inl ⟨_,rfl⟩,boot_max,uO c⟩⟩,
 ⟨("min",.min2),rfl,fun X c=>⟨_,.inl ⟨_,rfl⟩,boot_min,uP c⟩⟩]
def uK {P:θ→Bi→Prop} (x:θ):List {q:θ×Bi // P q.1 q.2}→Option {b:Bi // P x b}
 | []=>none
 | q :: r=>match isP q.1.1 x with
   | some h=>some ⟨q.1.2,by rw [← h.down];exact q.2⟩
   | none=>uK x r
abbrev Ai (x:θ) (b:Bi):Prop:=(b = .isTup∨b = .isStr∨b = .isBool∨b = .isInt∨b = .isLst∨b = .isDic)∧þ x=some (.type (tyN b))
def tys:List {q:θ×Bi // Ai q.1 q.2}:=[⟨("tuple",.isTup),.inl rfl,DQ⟩,⟨("str",.isStr),.inr (.inl rfl),E6⟩,⟨("bool",.isBool),.inr (.inr (.inl rfl)),IC⟩,⟨("int",.isInt),.inr (.inr (.inr (.inl rfl))),E7⟩,⟨("list",.isLst),.inr (.inr (.inr (.inr (.inl rfl)))),ħ⟩]
section
variable {T:Ns} {nm:List (θ×χ)} {N:List θ}
def eS (T:Ns) (nm:List (θ×χ)) (x:θ):Option (PLift (x∈T.bl∧bA nm x=true)):=do
 let m ← qw x T.bl
 let g ← yes (bA nm x)
 some ⟨m.down,g.down⟩
theorem bj (k:CxOk T X nm N) (h:x∈T.bl∧bA nm x=true) (hv:þ x=some u) (hn:x≠"__name__":=by decide) (hd:(x == ("__debug__":θ))=false:=by decide):Blt X x u:=⟨bc k.sc h.2,k.blt x h.1,hv,hn,hd⟩
def CB (f:∀ e,Option (GE T nm N e)) (x:θ) (p:ϥ) (hx:x≠"__name__") (hd:(x == ("__debug__":θ))=false) (m:x∈T.bl∧bA nm x=true):(es:List Ο)→(pos:ϥ)→Option (GE T nm N (.Call (.Name x p) es [] pos))
 | [e],pos=>do
   let he ← yes (aF e)
   let a ← f e
   let b ← uK x Cw
   some ⟨.bi b.1 (.cons a.1 .nil),fun X k=>by
    obtain ⟨fv,h1,h2,h3⟩:=b.2 X k.calm
    rcases h3 with ⟨h3,h4⟩ | h3
    ·exact mk (yB h3 h1 (bj k m h2 hx hd) (a.2 X k).1 (ah he.down)) (kh.trans h4)
    ·exact mkf (yU h3 h1 (bj k m h2 hx hd) (a.2 X k).1 (ah he.down))⟩
 | [e,g],pos=>do
   let he ← yes (aF e)
   let hg ← yes (aF g)
   let a ← f e
   let c ← f g
   let b ← uK x Cy
   some ⟨.bi b.1 (.cons a.1 (.cons c.1 .nil)),fun X k=>by
    obtain ⟨fv,h1,h2,h3⟩:=b.2.2 X k.calm
    exact mk (yC h3 h1 (bj k m h2 hx hd) (a.2 X k).1 (c.2 X k).1 (ah he.down) (ah hg.down)) (kh.trans b.2.1)⟩
 | _,_=>none
def wR (f:∀ e,Option (GE T nm N e)) (x:θ) (p:ϥ) (e:Ο) (er:List Ο) (pos:ϥ):Option (GE T nm N (.Call (.Name x p) (e :: er) [] pos)):=do
 let hd ← no (x == ("__debug__":θ))
 let hnm ← no (x == ("__name__":θ))
 let hg ← yes (bA nm x)
 match Ct x (dnA x (er.length+1) T.dn ++ T.alt) T.fn with
 | some j=>
   let hn ← yes (er.all aF)
   let he ← yes (aF e)
   let a ← cE f (e :: er)
   some (if T.hc.contains x then ⟨.hcall j.1 a.1,fun X k=>by
    obtain ⟨n,fa,h1,h2,h3⟩:=k.fns j.1 x j.2
    exact mk (sB h1 h2 (bc k.sc hg.down) h3 (a.2 X k) hd.down (ah he.down) (bJ (Λ.mp hn.down)))⟩ else ⟨.call j.1 a.1,fun X k=>by
    obtain ⟨n,fa,h1,h2,h3⟩:=k.fns j.1 x j.2
    exact mk (vn h1 h2 (bc k.sc hg.down) h3 (a.2 X k) hd.down (ah he.down) (bJ (Λ.mp hn.down)))⟩)
 | none=>
   let m ← qw x T.bl
   CB f x p (by simpa using hnm.down) hd.down ⟨m.down,hg.down⟩ (e :: er) pos
def cIs (f:∀ e,Option (GE T nm N e)) (y:θ) (p:ϥ) (ea:Ο) (x:θ) (q pos:ϥ):Option (GE T nm N (.Call (.Name y p) [ea,.Name x q] [] pos)):=do
 let hy ← isP "isinstance" y
 let g1 ← eS T nm "isinstance"
 let g2 ← eS T nm x
 let b ← uK (P:=Ai) x tys
 let hd ← no (x == ("__debug__":θ))
 let hnm ← no (x == ("__name__":θ))
 let he ← yes (aF ea)
 let a ← f ea
 some ⟨.bi b.1 (.cons a.1 .nil),fun X k=>by
  obtain rfl:=hy.down
  exact mk (BD b.2.1 (bj k g1.down Ĉ) (bj k g2.down b.2.2 (by simpa using hnm.down) hd.down) (a.2 X k).1 (ah he.down)) (by rcases b.2.1 with w | w | w | w | w | w <;> rw [w] <;> rfl)⟩
def CP (f:∀ e,Option (GE T nm N e)) (y:θ) (p:ϥ) (ea:Ο) (x:θ) (q pos:ϥ):Option (GE T nm N (.Call (.Name y p) [ea,.Name x q] [] pos)):=do
 let hy ← isP "isinstance" y
 let g1 ← eS T nm "isinstance"
 let j ← aO x T.hx
 let hz ← no (x == ("":θ))
 let hd ← no (x == ("__debug__":θ))
 let hg ← yes (bA nm x)
 let he ← yes (aF ea)
 let a ← f ea
 some ⟨.isX a.1 [j.1],fun X k=>by
  obtain rfl:=hy.down
  exact mk (yI k.cls (bj k g1.down Ĉ) (k.hxs j.1 x j.2 (by simpa using hz.down)) (bc k.sc hg.down) hd.down (a.2 X k).1 (ah he.down))⟩
def CO (f:∀ e,Option (GE T nm N e)) (y:θ) (p:ϥ) (ea:Ο) (x1 x2 x3:θ) (q1 q2 q3:ϥ) (k:Nat) (q pos:ϥ):Option (GE T nm N (.Call (.Name y p) [ea,.Tuple [.Name x1 q1,.Name x2 q2,.Name x3 q3] k q] [] pos)):=none
def CU (f:∀ e,Option (GE T nm N e)) (x y:θ) (p1 p2:ϥ) (ea:Ο) (pos2 pos:ϥ):Option (GE T nm N (.Call (.Name x p1) [.Call (.Name y p2) [ea] [] pos2] [] pos)):=do
 let hx ← isP "list" x
 let hy ← isP "reversed" y
 let g1 ← eS T nm "list"
 let g2 ← eS T nm "reversed"
 let he ← yes (aF ea)
 let a ← f ea
 some ⟨.bi .rev (.cons a.1 .nil),fun X k=>by
  obtain rfl:=hx.down
  obtain rfl:=hy.down
  exact mkf (yV k.calm (bj k g1.down ħ) (bj k g2.down boot_reversed) (a.2 X k).1 (ah he.down) rfl)⟩
def iK (f:∀ e,Option (GE T nm N e)) (tg e:Ο):Option (GI T nm N tg e):=(f e).map fun a=>⟨.itv a.1,fun X k=>Dr k.calm (a.2 X k).1⟩
def cR1 (f:∀ e,Option (GE T nm N e)) (tg:Ο) (x:θ) (p:ϥ) (a:Ο) (pos:ϥ):Option (GI T nm N tg (.Call (.Name x p) [a] [] pos)):=do
 let hx ← isP "range" x
 let g ← eS T nm "range"
 let he ← yes (aF a)
 let u ← f a
 some ⟨.it .range1 (.cons u.1 .nil),fun X k=>by
  obtain rfl:=hx.down
  exact qr k.calm (bj k g.down boot_range) (u.2 X k).1 (ah he.down)⟩
def cRw (f:∀ e,Option (GE T nm N e)) (tg:Ο) (x:θ) (p:ϥ) (a:Ο) (pos:ϥ):Option (GI T nm N tg (.Call (.Name x p) [a] [] pos)):=do
 let hx ← isP "reversed" x
 let g ← eS T nm "reversed"
 let he ← yes (aF a)
 let u ← f a
 some ⟨.it .rev (.cons u.1 .nil),fun X k=>by
  obtain rfl:=hx.down
  exact yW k.calm (bj k g.down Ÿ) (u.2 X k).1 (ah he.down)⟩
def cRr (f:∀ e,Option (GE T nm N e)) (tg:Ο) (x:θ) (p:ϥ) (pos:ϥ):(a:Ο)→Option (GI T nm N tg (.Call (.Name x p) [a] [] pos))
 | .Call (.Name y q) [a] [] pos2=>do
   let hx ← isP "reversed" x
   let hy ← isP "range" y
   let g ← eS T nm "reversed"
   let g2 ← eS T nm "range"
   let he ← yes (aF a)
   let u ← f a
   some ⟨.it .rev (.cons (.it .range1 (.cons u.1 .nil)) .nil),fun X k=>by
    obtain rfl:=hx.down
    obtain rfl:=hy.down
    exact vJ k.calm (bj k g.down Ÿ) (bj k g2.down boot_range) (u.2 X k).1 (ah he.down) rfl⟩
 | _=>none
def cR2 (f:∀ e,Option (GE T nm N e)) (tg:Ο) (x:θ) (p:ϥ) (a b:Ο) (pos:ϥ):Option (GI T nm N tg (.Call (.Name x p) [a,b] [] pos)):=none
def cE1 (f:∀ e,Option (GE T nm N e)) (ts:List Ο) (n:Nat) (tp:ϥ) (x:θ) (p:ϥ) (a:Ο) (pos:ϥ):Option (GI T nm N (.Tuple ts n tp) (.Call (.Name x p) [a] [] pos)):=do
 let hx ← isP "enumerate" x
 let g ← eS T nm "enumerate"
 let he ← yes (aF a)
 let u ← f a
 some ⟨.it .enum (.cons u.1 .nil),fun X k=>by
  obtain rfl:=hx.down
  exact vI k.calm (bj k g.down boot_enumerate) (u.2 X k).1 (ah he.down)⟩
def cE2 (f:∀ e,Option (GE T nm N e)) (ts:List Ο) (n:Nat) (tp:ϥ) (x y:θ) (p:ϥ) (a b:Ο) (kp pos:ϥ):Option (GI T nm N (.Tuple ts n tp) (.Call (.Name x p) [a] [⟨some y,b,kp⟩] pos)):=none
def cZ2 (f:∀ e,Option (GE T nm N e)) (ts:List Ο) (n:Nat) (tp:ϥ) (x:θ) (p:ϥ) (a b:Ο) (pos:ϥ):Option (GI T nm N (.Tuple ts n tp) (.Call (.Name x p) [a,b] [] pos)):=none
def cZ3 (f:∀ e,Option (GE T nm N e)) (ts:List Ο) (n:Nat) (tp:ϥ) (x:θ) (p:ϥ) (a b c:Ο) (pos:ϥ):Option (GI T nm N (.Tuple ts n tp) (.Call (.Name x p) [a,b,c] [] pos)):=none
def wV (f:∀ e,Option (GE T nm N e)):(tg e:Ο)→Option (GI T nm N tg e)
 | .Tuple ts n tp,.Call (.Name x p) [a] [] pos=>(cE1 f ts n tp x p a pos).orElse fun _=>iK f _ _
 | .Tuple ts n tp,.Call (.Name x p) [a] [⟨some y,b,kp⟩] pos=>cE2 f ts n tp x y p a b kp pos
 | .Tuple ts n tp,.Call (.Name x p) [a,b] [] pos=>(cZ2 f ts n tp x p a b pos).orElse fun _=>iK f _ _
 | .Tuple ts n tp,.Call (.Name x p) [a,b,c] [] pos=>(cZ3 f ts n tp x p a b c pos).orElse fun _=>iK f _ _
 | tg,.Call (.Name x p) [a] [] pos=>(((cR1 f tg x p a pos).orElse fun _=>cRr f tg x p pos a).orElse fun _=>cRw f tg x p a pos).orElse fun _=>iK f _ _
 | tg,.Call (.Name x p) [a,b] [] pos=>(cR2 f tg x p a b pos).orElse fun _=>iK f _ _
 | tg,e=>iK f tg e
theorem ay (h:aQ e=true):Â e x env m=m:=by
 unfold Â
 split
 ·have h':(_ != ("super":θ))=true:=h
  rw [ZZ (by rw [h'];rfl)]
 ·rfl
theorem ub (h:∀ e∈es,aF e=true):((Ö pos (Ξ es env)).all fun x=>!x.1)=true:=by
 have:=bJ (env:=env) (pos:=pos) h
 rw [List.all_eq_not_any_not]
 simpa using this
theorem sW (h1:aQ o=true) (h2:∀ x∈es,aF x=true) (h3:es.length<30) (h4:(apos.endLine == pos.line)=true):eval (.Call (.Attribute o m apos) es [] pos) env=(do
 let ov ← eval o env
 Ei apos.atName
 let (f,first) ← holding [ov] (EM ov m (do return (← importBound o env).getD true))
 En pos f first (Ö pos (Ξ es env)) (D1 pos (ģ [] env))):=by
 have e0:eval (.Call (.Attribute o m apos) es [] pos) env=(do
  let ov ← Â o m env (eval o env)
  Ei apos.atName
  methodCall o m apos pos env ov (es.length+([]:List Ew).length) (Ö pos (Ξ es env)) (D1 pos (ģ [] env))):=rfl
 rw [e0,ay h1]
 have few:methodCallForm (es.length+([]:List Ew).length) (Ö pos (Ξ es env)) (D1 pos (ģ [] env))=true:=by
  unfold methodCallForm
  rw [ub h2]
  simp only [Ŷ]
  show (true && decide (_<30))=true
  simp only [Ŷ]
  apply ZW
  exact h3
 congr 1
 funext ov
 congr 1
 funext _
 unfold methodCall
 simp only [few]
 have e1:methodCallPos true o env apos pos=pure pos:=by unfold methodCallPos;rw [h4];rfl
 simp only [e1]
 rfl
def zh (m:θ):(l:List (θ×Nat×Nat))→Option {q:Nat×Nat // (m,q.1,q.2)∈l}
 | []=>none
 | (y,c,j) :: r=>match isP y m with
   | some h=>some ⟨(c,j),by obtain rfl:=h.down;exact ι⟩
   | none=>(zh m r).map fun i=>⟨i.1,ν _ i.2⟩
def CS (f:∀ e,Option (GE T nm N e)) (o:Ο) (m:θ) (ap:ϥ):(args:List Ο)→(pos:ϥ)→Option (GE T nm N (.Call (.Attribute o m ap) args [] pos))
 | [],pos=>do
   let q ← zh m T.me
   let hs ← yes (aQ o)
   let hp ← yes (ap.endLine == pos.line)
   let a ← f o
   some ⟨.mth q.1.1 q.1.2 a.1 .nil,fun X k=>by
    obtain ⟨n,fa,h1,h2,h3⟩:=k.mts _ q.2
    exact mk (vy h1 h2 h3 (a.2 X k).1 (sW hs.down (fun x hx=>nomatch hx) (by decide) hp.down))⟩
 | e :: er,pos=>do
   let q ← zh m T.me
   let hs ← yes (aQ o)
   let hp ← yes (ap.endLine == pos.line)
   let hn ← yes ((e :: er).all aF)
   let hl ← yes (decide ((e :: er).length<30))
   let a ← f o
   let b ← cE f (e :: er)
   some ⟨.mth q.1.1 q.1.2 a.1 b.1,fun X k=>by
    obtain ⟨n,fa,h1,h2,h3⟩:=k.mts _ q.2
    have hn':=Λ.mp hn.down
    exact mk (yK h1 h2 h3 (a.2 X k).1 (b.2 X k) (ah (hn' e ι)) (bJ fun x hx=>hn' x (ν _ hx)) (sW hs.down hn' (by simpa using hl.down) hp.down))⟩
def CL (f:∀ e,Option (GE T nm N e)) (o:Ο) (m:θ) (ap:ϥ):(args:List Ο)→(pos:ϥ)→Option (GE T nm N (.Call (.Attribute o m ap) args [] pos))
 | [e],pos=>do
   let hm ← isP "get" m
   let hs ← yes (aQ o)
   let hp ← yes (ap.endLine == pos.line)
   let hn ← yes (aF e)
   let a ← f o
   let b ← f e
   some ⟨.get a.1 b.1 (.c .non),fun X k=>by
    obtain rfl:=hm.down
    exact mk (vo (a.2 X k).1 (b.2 X k).1 ⟨ay hs.down,by rw [ah hn.down];rfl,hp.down,by rw [ah hn.down];rfl⟩)⟩
 | [e,g],pos=>do
   let hm ← isP "get" m
   let hs ← yes (aQ o)
   let hp ← yes (ap.endLine == pos.line)
   let hn ← yes (aF e)
   let hg ← yes (aF g)
   let a ← f o
   let b ← f e
   let c ← f g
   some ⟨.get a.1 b.1 c.1,fun X k=>by
    obtain rfl:=hm.down
    exact mk (vp (a.2 X k).1 (b.2 X k).1 (c.2 X k).1 ⟨ay hs.down,by rw [ah hn.down,ah hg.down];rfl,hp.down,by rw [ah hn.down,ah hg.down];rfl⟩)⟩
 | _,_=>none
def AP (f:∀ e,Option (GE T nm N e)) (m:θ) (ap:ϥ):(o:Ο)→(args:List Ο)→(pos:ϥ)→Option (GE T nm N (.Call (.Attribute o m ap) args [] pos)):=fun _ _ _=>none
def xQ (f:∀ e,Option (GE T nm N e)) (x:θ) (j:Nat) (p:ϥ) (m:θ) (ap:ϥ):(args:List Ο)→(pos:ϥ)→Option (GE T nm N (.Call (.Attribute (.Constant (.str x) j p) m ap) args [] pos))
 | [e],pos=>do
   let hm ← isP "join" m
   let hp ← yes (ap.endLine == pos.line)
   let hn ← yes (aF e)
   let a ← f e
   some ⟨.join x a.1,fun X k=>by
    obtain rfl:=hm.down
    exact mk (vv (a.2 X k).1 ⟨ay rfl,by rw [ah hn.down];rfl,hp.down,by rw [ah hn.down];rfl⟩)⟩
 | _,_=>none
def CK (f:∀ e,Option (GE T nm N e)) (x:θ) (j1:Nat) (p1:ϥ) (e:Ο) (p2:ϥ) (y:θ) (j2:Nat) (p3 pos:ϥ):Option (GE T nm N (.JoinedStr [.Constant (.str x) j1 p1,.FormattedValue e (-1) none p2,.Constant (.str y) j2 p3] pos)):=none
def CW (f:∀ e,Option (GE T nm N e)) (a:Ο) (lo:Option Ο) (st:Ο) (p2 pos:ϥ):Option (GE T nm N (.Subscript a (.Slice lo none (some st) p2) pos)):=none
def AB (f:∀ e,Option (GE T nm N e)) (x:θ) (p:ϥ):(args:List Ο)→(pos:ϥ)→Option (GE T nm N (.Call (.Name x p) args [] pos))
 | [],pos=>do
   let j ← aO x T.nw
   let hz ← no (x == ("":θ))
   let hd ← no (x == ("__debug__":θ))
   let hg ← yes (bA nm x)
   some ⟨.new j.1 .nil,fun X k=>by
    obtain ⟨n,fa,i,cl,h1,h4,h5,h6,h7,h8,h9,h10⟩:=k.nws j.1 x j.2 (by simpa using hz.down)
    exact mk (vA h1 h4 h5 h6 h7 h8 h9 (bc k.sc hg.down) h10 hd.down)⟩
 | e :: er,pos=>do
   let j ← aO x T.nw
   let hz ← no (x == ("":θ))
   let hd ← no (x == ("__debug__":θ))
   let hg ← yes (bA nm x)
   let hn ← yes ((e :: er).all aF)
   let a ← cE f (e :: er)
   some ⟨.new j.1 a.1,fun X k=>by
    obtain ⟨n,fa,i,cl,h1,h4,h5,h6,h7,h8,h9,h10⟩:=k.nws j.1 x j.2 (by simpa using hz.down)
    have hn':=Λ.mp hn.down
    exact mk (yM h1 h4 h5 h6 h7 h8 h9 (bc k.sc hg.down) h10 (a.2 X k) hd.down (ah (hn' e ι)) (bJ fun y hy=>hn' y (ν _ hy)))⟩
def AC (f:∀ e,Option (GE T nm N e)) (x:θ) (p:ϥ):(args:List Ο)→(pos:ϥ)→Option (GE T nm N (.Call (.Name x p) args [] pos)):=fun _ _=>none
def qW (f:∀ e,Option (GE T nm N e)):(e:Ο)→Option (GE T nm N e)
 | .List es pos=>(cE f es).map fun x=>⟨.newl x.1,fun X k=>mk (n9 (x.2 X k))⟩
 | e=>(f e).map fun a=>match h:au a.1 with
   | true=>⟨.sto a.1,fun X k=>mk (lZ ((a.2 X k).2 h))⟩
   | false=>a
def Ar (f:∀ e,Option (GE T nm N e)):(e:Ο)→Option (GE T nm N e)
 | .Tuple es n pos=>(cE (qW f) es).map fun x=>⟨.tup x.1,fun X k=>mk (l5 (x.2 X k))⟩
 | e=>qW f e
def snA (T:Ns) (N:List θ):List Ο→Option Nat
 | []=>none
 | .Name x _ :: r=>if T.rl.contains x then (aO x N).map (·.1) else snA T N r
 | _ :: r=>snA T N r
def snW {e:Ο} (i:Nat) (a:GE T nm N e):GE T nm N e:=match h:au a.1 with
 | true=>⟨.snap i a.1,fun X k=>⟨(fV ((a.2 X k).2 h) h).le fun _=>rfl,fun _=>fV ((a.2 X k).2 h) h⟩⟩
 | false=>⟨.snap i a.1,fun X k=>⟨vB (a.2 X k).1 h,fun q=>by rw [show au (.snap i a.1)=au a.1 from rfl,h] at q;cases q⟩⟩
def xN (f:∀ e,Option (GE T nm N e)) (x:θ) (p:ϥ) (e:Ο) (er:List Ο) (pos:ϥ):Option (GE T nm N (.Call (.Name x p) (e :: er) [] pos)):=do
 let a ← (match qw x T.mu with
  | some _=>wR (Ar f) x p e er pos
  | none=>wR f x p e er pos)
 match qw x T.sn,snA T N (e :: er) with
 | some _,some i=>some (snW i a)
 | _,_=>some a
end
section
variable {X:Cx} {z:Z} {pos:ϥ}
def LP (X:Cx) (pos:ϥ) (keys:List (Option Ο)) (vals:List Ο) (ks:List θ) (es:E):Prop:=
 Jg X (evalPairs (pairTrees keys vals X.env pos)) (X.evs false es) fun z ds us=>∃ vs,Carries (aS X.W.P X.W.w) us ((ks.map Ę:List Key).zip vs)∧RDs X.W z.ρ z.G ds vs
theorem yX:LP X pos [] [] [] .nil:=fun z I nb=>pairTrees_nil_walk ⟨z,[],rfl,rfl,.refl,I,[],Ő,rfl⟩
theorem vN (ha:LE X e a) (hr:LP X pos keys vals ks es):LP X pos (some (.Constant (.str x) j p) :: keys) (e :: vals) (x :: ks) (.cons a es):=fun z I nb=>
 pairTrees_cons_walk (Ϩ (by
  have g:=ao (s':={ z.s with toks:=z.s.toks+1 }) I.gh .tok
  exact (ha false).go (z:=z) (z1:={ z with s:={ z.s with toks:=z.s.toks+1 } }) g.ee (I.grow g) rfl nb fun z1 d u y1 x1 I1 r1 e1=>hr.go x1 I1 e1 nb fun z2 l us y2 x2 I2 r2 e2=>by
   obtain ⟨vs,c,r⟩:=r2
   exact ⟨z2,d :: l,rfl,e2,x2,I2,u :: vs,⟨fK _ _ _ _,rfl,c⟩,.cons (r1.rd.st y2.st) r⟩))
theorem vG (h:LP X pos keys vals ks es) (hall:keys.all (·.isSome)=true) (hl:keys.length=vals.length) (h0:keys≠[]) (h15:keys.length≤15):LF X (.Dict keys vals pos) (.dicc ks es):=fun z I nb=>by
 have g:=ao (s':={ z.s with heap:=z.s.heap.push { cls:=.type "dict",data:=.dict #[] } }) I.gh (.push (t:=z.s.toks))
 have I1:=I.grow g
 have f:=I.fre (aG z)
 have nob1:Nob X z { z with s:={ z.s with heap:=z.s.heap.push { cls:=.type "dict",data:=.dict #[] } } } z.s.heap.objs.size:=⟨aG z,f.1,f.2⟩
 have d0:=Ų (knd:=aS X.W.P X.W.w) z.s.heap
 refine wpAny_Dict_walk (knd:=aS X.W.P X.W.w) hall hl h0 h15 (h.go (z:=z) (z1:={ z with s:={ z.s with heap:=z.s.heap.push { cls:=.type "dict",data:=.dict #[] } } }) (f:=fun l s=>.of s (ng ks l)) g.ee I1 rfl nb fun z2 l us y2 x2 I2 r2 e2=>?_)
 obtain ⟨vs,c,r⟩:=r2
 unfold ng at e2
 by_cases q:ks.length=l.length∧ks.Nodup∧ks.length≤15∧ks≠[]
 ·rw [ZZ q] at e2
  obtain ⟨o,es,ep,h1,h2,h3,h4,h5,h6⟩:=d0
  obtain ⟨n2,hp2⟩:=nob1.go y2.go h1
  have lv:(ks.map Ę:List Key).length=vs.length:=by rw [Β,q.1];exact r.len
  have km:((ks.map Ę:List Key).zip vs).map (·.1)=ks.map Ę:=by rw [List.map_fst_zip];exact Ř lv
  have nd:(((ks.map Ę:List Key).zip vs).map (·.1)).Nodup:=by rw [km];exact List.Pairwise.map _ (fun a b h w=>h (Hr w)) q.2.1
  refine ⟨_,c,⟨o,es,ep,hp2,h2,h3,h4,h5,h6⟩,fun h' hd sb=>?_⟩
  rw [merged_nil_of_nodup _ nd] at hd
  obtain ⟨o',es',ep',h1',h2',h3',h4',h5',h6'⟩:=hd
  obtain ⟨I3,S3,g3,n3⟩:=Rep.turn (s':={ z2.s with heap:=h',toks:=z2.s.toks+us.length }) (wr:=[z.s.heap.objs.size]) x2.st I2 (fun b m=>by cases ε.mp m;exact ⟨n2,o,hp2⟩) (fun b o m e=>(sb.2 b fun w=>m (w ▸ ε.mpr rfl)).trans e) ⟨rfl,rfl⟩ (ϧ I2.tk (ň _ _))
  obtain ⟨m0,m1,m2⟩:=n3 _ (ε.mpr rfl)
  exact ⟨z2.up _,.dic (ks.map .inr) l,rfl,e2,⟨S3,x2.sg,x2.en,x2.ow⟩,I3,z.s.heap.objs.size,.dic (ks.map .inr) l,rfl,m0,rfl,⟨o',vs,rfl,ZU.mpr (Û I.sysm),h1',⟨es',ep',h2',h3',h4',h5',h6',by rw [Ϸ,← lv,Đ,Β];exact ϧ q.2.2.1 (by decide)⟩,by rw [Β];exact q.1,r.mono (μ _) g3⟩,m1,m2⟩
 ·rw [ZY q] at e2;exact ZX e2 nb
end
section
variable {T:Ns} {nm:List (θ×χ)} {N:List θ}
def qY (f:∀ e,Option (GE T nm N e)) (pos:ϥ):(keys:List (Option Ο))→(vals:List Ο)→Option {q:List θ×E // keys.all (·.isSome)=true∧keys.length=vals.length∧∀ X,CxOk T X nm N→LP X pos keys vals q.1 q.2}
 | [],[]=>some ⟨([],.nil),rfl,rfl,fun X k=>yX⟩
 | some (.Constant (.str x) j p) :: ks,e :: vs=>do
   let a ← f e
   let q ← qY f pos ks vs
   some ⟨(x :: q.1.1,.cons a.1 q.1.2),by simpa using q.2.1,by simp [q.2.2.1],fun X k=>vN (a.2 X k).1 (q.2.2.2 X k)⟩
 | _,_=>none
def At (f:∀ e,Option (GE T nm N e)) (keys:List (Option Ο)) (vals:List Ο) (pos:ϥ):Option (GE T nm N (.Dict keys vals pos)):=do
 let q ← qY f pos keys vals
 let h15 ← yes (decide (keys.length≤15))
 let h0 ← no keys.isEmpty
 some ⟨.dicc q.1.1 q.1.2,fun X k=>mkf (vG (q.2.2.2 X k) q.2.1 q.2.2.1 (by simpa using h0.down) (by simpa using h15.down))⟩
end
def fi (fn:Bool) (nm:List (θ×χ)) (x:θ):Bool:=nm.lookup x == some .local || (fn && nm.lookup x == some .cell)
structure TgH (nm:List (θ×χ)) (N:List θ) (X:Cx):Prop where
 calm:X.calm=true
 hN:X.N=N
 nd:N.Nodup
 sc:X.env.scope.names=nm
theorem cU {fn:Bool} (h:TgH nm N X) (hl:fi fn nm x=true):Loc X.env.scope x:=by
 have l1:nm.lookup x=some .local∨(fn=true∧nm.lookup x=some .cell):=by
  unfold fi at hl
  simpa using hl
 show X.env.scope.names.lookup x=_∨X.env.scope.names.lookup x=_
 rw [h.sc]
 exact l1.imp id And.right
def Pl (nm:List (θ×χ)) (N:List θ) (t:List Nat):Prop:=∀ i∈t,∀ x,N[i]? = some x→nm.lookup x=some .local
theorem tM {nm:List (θ×χ)} {N:List θ} {i:Nat} {x:θ} (hi:N[i]? = some x) (hl:fi false nm x=true):∀ y,N[i]? = some y→nm.lookup y=some .local:=fun y e=>by
 rw [hi] at e;cases e
 unfold fi at hl
 simpa using hl
structure Ah (fn:Bool) (nm:List (θ×χ)) (N:List θ) (es:List Ο) (t:List Nat):Prop where
 len:∀ env,(Ğ es env).length=t.length
 fst:∀ env,(Ğ es env).findIdx? (·.1)=none
 as_:∀ X,TgH nm N X→As X ((Ğ es X.env).map (·.2)) t
 pl:fn=false→Pl nm N t
def zU (fn:Bool) (nm:List (θ×χ)) (N:List θ):(es:List Ο)→Option {t:List Nat // Ah fn nm N es t}
 | []=>some ⟨[],fun _=>rfl,fun _=>rfl,fun X h=>trivial,fun _ i m=>nomatch m⟩
 | .Name x p :: r=>do
   let i ← aO x N
   let hl ← yes (fi fn nm x)
   let t ← zU fn nm N r
   some ⟨i.1 :: t.1,fun env=>ZS (· + 1) (t.2.len env),fun env=>by
    show List.findIdx? _ ((false,assign (.Name x p) env) :: Ğ r env)=none
    rw [List.findIdx?_cons,t.2.fst env];rfl,fun X h=>⟨⟨x,by rw [h.hN];exact i.2,cU h hl.down,fun q=>ō q⟩,t.2.as_ X h⟩,fun hf j m y e=>by
    rcases υ.mp m with w | w
    ·rw [w] at e;exact tM i.2 (hf ▸ hl.down) y e
    ·exact t.2.pl hf j w y e⟩
 | _=>none
def tgP (fn:Bool) (nm:List (θ×χ)) (N:List θ):(tg:Ο)→Option {q:List Nat×Bool // (∀ X,TgH nm N X→LG X tg q.1 q.2)∧(fn=false→Pl nm N q.1)}
 | .Name x p=>do
   let i ← aO x N
   let hl ← yes (fi fn nm x)
   some ⟨([i.1],true),fun X h=>vH (by rw [h.hN];exact h.nd) (by rw [h.hN];exact i.2) (cU h hl.down),fun hf j m y e=>by rw [ε.mp m] at e;exact tM i.2 (hf ▸ hl.down) y e⟩
 | .Tuple es k p=>do
   let t ← zU fn nm N es
   some ⟨(t.1,false),fun X h=>sJ h.calm (by rw [h.hN];exact h.nd) (t.2.as_ X h) (t.2.len _) (t.2.fst _),t.2.pl⟩
 | _=>none
def eM:Ο→List θ
 | .Name x _=>[x]
 | .Tuple es _ _=>es.filterMap fun e=>match e with | .Name x _=>some x | _=>none
 | _=>[]
def fM (nm:List (θ×χ)) (sc:Ą):List (θ×χ):=sc.names.map fun y=>if (y.2 == .free && nm.lookup y.1 == some .cell)=true then (y.1,.cell) else (y.1,y.2)
def zu (nm:List (θ×χ)) (p:θ×θ):Bool:=match nm.lookup p.1 with
 | some .local=>false
 | some .cell=>p.1 == p.2
 | some .free=>p.1 == p.2
 | _=>true
def ndB:List θ→Bool
 | []=>true
 | x :: r=>!r.contains x && ndB r
theorem xk:∀ {l},ndB l=true→l.Nodup
 | [],_=>List.nodup_nil
 | x :: r,h=>by
   have h':r.contains x=false∧ndB r=true:=by simpa [ndB] using h
   refine Ϭ.mpr ⟨fun m=>?_,xk h'.2⟩
   have:r.contains x=true:=by simpa using m
   rw [h'.1] at this
   cases this
def kl (own:List θ) (N:List θ):List θ:=own ++ N.map fun y=>if own.contains y then ⟨y.cps.push (1200000+N.length)⟩ else y
def lcB (nm:List (θ×χ)) (N N':List θ) (sc:Ą) (k:Nat):Bool:=
 (sc.names.all fun y=>y.2 != .cell) && sc.kind == .function && (sc.names.all fun y=>y.2 != .local || sc.names.lookup y.1 == some .local) &&
 (sc.names.all fun y=>y.2 != .free || (nm.lookup y.1 == some .cell || nm.lookup y.1 == some .free)) && N'.length == k+N.length && ((N'.drop k).zip N).all (zu (fM nm sc)) && ndB N'
section
variable {T:Ns} {nm:List (θ×χ)} {N N':List θ} {X:Cx} {sc:Ą}
theorem eE (k:CxOk T X nm N):(relabel sc X.env).names=fM nm sc:=by
 unfold relabel fM
 dsimp only
 congr 1
 funext y
 rw [k.kd,show X.env.kindOf y.1=nm.lookup y.1 by rw [← k.sc];rfl]
 simp
theorem BC (k:CxOk T X nm N) (h:lcB nm N N' sc n=true):Lcn X sc n N'∧N'.Nodup:=by
 unfold lcB at h
 simp only [ω] at h
 obtain ⟨⟨⟨⟨⟨⟨h1,h2⟩,h3⟩,h4⟩,h5⟩,h6⟩,h7⟩:=h
 have kk:∀ x,X.env.kindOf x=nm.lookup x:=fun x=>by rw [← k.sc];rfl
 refine ⟨BA h1 (by simpa using h2) h3 (by simp only [kk];exact h4) (by rw [k.hN];simpa using h5) ?_,xk h7⟩
 rw [k.hN]
 have e:iZ sc X.env=zu (fM nm sc):=by
  funext p
  unfold iZ zu
  rw [eE k]
  all_goals rfl
 rw [e]
 exact h6
theorem cB.cx (h:cB X an c k i):cB (cxC X N' sc C) an c k i:=⟨h.ci,h.cls,h.na,h.wh,h.nm,h.nd,h.xc⟩
theorem CxOk.inner (k:CxOk T X nm N) (L:Lcn X sc n N') (nd:N'.Nodup) :CxOk T (cxC X N' sc C) (fM nm sc) N' where
 hN:=rfl
 nd:=nd
 sc:=eE k
 kd:=L.kind
 calm:=k.calm
 fns:=fun j x h=>let ⟨n,f,h1,h2,h3⟩:=k.fns j x h;⟨n,f,bR.to (X:=X) h1,h2,h3⟩
 gls:=k.gls
 tbs:=k.tbs
 blt:=k.blt
 cls:=fun c cl h=>let ⟨i,h1⟩:=k.cls c cl h;⟨i,h1.cx⟩
 mts:=fun q h=>let ⟨n,f,h1,h2,⟨i,cl,a,b,c⟩⟩:=k.mts q h;⟨n,f,bR.to (X:=X) h1,h2,⟨i,cl,a,b.cx,c⟩⟩
 nws:=fun j x h hz=>let ⟨n,f,i,cl,h1,h2⟩:=k.nws j x h hz;⟨n,f,i,cl,bR.to (X:=X) h1,h2⟩
 nds:=fun j x h hz=>let ⟨n,f,fd,ps,i,cl,h1,h2⟩:=k.nds j x h hz;⟨n,f,fd,ps,i,cl,FnI.to (X:=X) h1,h2⟩
 hxs:=k.hxs
 fr:=⟨k.fr.fr,k.fr.frame⟩
 vxs:=k.vxs
def CN (g:∀ e,Option (GT T nm N e)):(ifs:List Ο)→Option {c:E // ∀ X,CxOk T X nm N→LTs X ifs c}
 | []=>some ⟨.c (.bl true),fun X k=>v7⟩
 | [c]=>(g c).map fun x=>⟨x.1,fun X k=>v8 (x.2 X k)⟩
 | _=>none
def Ay (f:aB T) (g:ip T) (nm:List (θ×χ)) (N:List θ) (ee tg iter:Ο) (ifs:List Ο) (sc:Ą):Option {q:(List Nat×Bool)×E×E×E // ∀ X,CxOk T X nm N→LcP X (kl (eM tg) N) ee tg iter ifs sc q.1.1 q.1.2 q.2.1 q.2.2.1 q.2.2.2}:=do
 let it ← wV (f nm N) tg iter
 let q ← tgP false (fM nm sc) (kl (eM tg) N) tg
 let h0 ← yes (q.1.1.all fun i=>decide (i<q.1.1.length))
 let hl ← yes (lcB nm N (kl (eM tg) N) sc q.1.1.length)
 let c ← CN (g (fM nm sc) (kl (eM tg) N)) ifs
 let e ← f (fM nm sc) (kl (eM tg) N) ee
 let hn ← yes (aF iter)
 some ⟨(q.1,it.1,e.1,c.1),fun X k=>by
  obtain ⟨L,nd⟩:=BC k hl.down
  exact ⟨k.calm,k.fr,L,it.2 X k,fun C=>q.2.1 (cxC X _ sc C) ⟨k.calm,rfl,nd,eE k⟩,fun i m x e=>by rw [eE k];exact q.2.2 rfl i m x e,fun C=>c.2 _ (k.inner L nd),fun C=>(e.2 _ (k.inner L nd)).1,iP hn.down⟩⟩
def cLC (f:aB T) (g:ip T) (nm:List (θ×χ)) (N:List θ) (ee tg iter:Ο) (ifs:List Ο) (sc:Ą) (pos:ϥ):Option (GE T nm N (.ListComp ee [⟨tg,iter,ifs,0⟩] sc pos)):=
 (Ay f g nm N ee tg iter ifs sc).map fun q=>⟨.lc q.1.1.1 q.1.1.2 q.1.2.1 q.1.2.2.1 q.1.2.2.2,fun X k=>mkf (kD (q.2 X k))⟩
end
theorem mP (h:(match e with | .Compare ..=>false | .BoolOp ..=>false | .UnaryOp ..=>false | .IfExp ..=>false | .NamedExpr ..=>false | _=>true)=true):Fw e env whole=(do let v ← whole;Ei e.pos;holding [v] (truthy v)):=by
 cases e <;> first | rfl | cases h
section
variable {T:Ns}
theorem sR {X:Cx} {o p:Op} (ho:Op2 X (Ê op) (opD o)) (hp:Op2 X (Ê op') (opD p)) (ha:LE X ea a) (hb:LE X eb b) (hc:LE X ec c) (hm:Ii [op,op'] [eb,ec]=false):LT X (.Compare ea [op,op'] [eb,ec] pos) (.chain o p a b c):=fun z I nb=>
 isTrue_chain ((ha true).go .refl I (ak ..) nb fun z1 x u y1 x1 I1 r1 e1=>test_link ((hb true).go x1 I1 (e1.trans (ak ..)) nb fun z2 y v y2 x2 I2 r2 e2=>by
  cases q:opD o (look z2.t.st x) (look z2.t.st y) with
  | none=>rw [q] at e2;exact ZX e2 nb
  | some d=>
    rw [q] at e2
    refine Η (ό I2.tk (ho z2 u v _ _ d I2 ((r1.rb.st y2 I2).cr I2) (r2.rb.cr I2) q)) (fun w s' ⟨tk,k⟩=>?_) fun _ _ z=>z.2.elim
    cases d with
    | bl t=>
      cases (show w=ϡ t from k.2)
      have g:=cb I2.gh k.1
      refine ϵ ?_
      cases t with
      | false=>exact ite_ff ⟨z2.up s',false,rfl,e2,x2.trans g.ee,I2.grow g,rfl⟩
      | true=>exact ite_tt (test_last ((hc true).go (x2.trans g.ee) (I2.grow g) (e2.trans (ak ..)) nb fun z4 w' v' y4 x4 I4 r4 e4=>by
        cases q4:opD p (look z4.t.st y) (look z4.t.st w') with
        | none=>rw [q4] at e4;exact ZX e4 nb
        | some d4=>rw [q4] at e4;exact Η (ό I4.tk (hp z4 v v' _ _ d4 I4 (((r2.rb.st g.ee (I2.grow g)).st y4 I4).cr I4) (r4.rb.cr I4) q4)) (fun c s' k=>k.2.tru x4 I4 e4 nb k.1) fun _ _ z=>z.2.elim))
    | _=>exact ZX e2 nb)) hm
abbrev GC (T:Ns) (nm:List (θ×χ)) (N:List θ) (e:Ο):={c:E // ∀ X,CxOk T X nm N→(LE X e c∧au c=false)∧LT X e c}
def uT (f:aB T) (nm:List (θ×χ)) (N:List θ) (a:Ο) (op:CmpOp) (b:Ο) (pos:ϥ):Option (GC T nm N (.Compare a [op] [b] pos)):=do
 let o ← uV op
 let hb ← yes (aF b)
 let x ← f nm N a
 let y ← f nm N b
 some ⟨.op o.1 x.1 y.1,fun X k=>⟨⟨yD (o.2 X) (x.2 X k).1 (y.2 X k).1 (dY hb.down),rfl⟩,zb (o.2 X) (x.2 X k).1 (y.2 X k).1 (dY hb.down)⟩⟩
def xS (f:aB T) (nm:List (θ×χ)) (N:List θ) (a:Ο) (x:θ) (p pos:ϥ):Option (GC T nm N (.Compare a [.In] [.Name x p] pos)):=do
 let hd ← no (x == ("__debug__":θ))
 let hg ← yes (bA nm x)
 let j ← aO x T.tb
 let y ← f nm N a
 some ⟨.tabin j.1 y.1,fun X k=>by
  obtain ⟨t,ad,h1,h2,h3⟩:=k.tbs j.1 x j.2
  exact ⟨⟨sE (bc k.sc hg.down) h2 h1 h3 (y.2 X k).1 hd.down rfl,rfl⟩,sS (bc k.sc hg.down) h2 h1 h3 (y.2 X k).1 hd.down rfl⟩⟩
def xT (f:aB T) (nm:List (θ×χ)) (N:List θ) (a:Ο) (x:θ) (p pos:ϥ):Option (GC T nm N (.Compare a [.NotIn] [.Name x p] pos)):=do
 let hd ← no (x == ("__debug__":θ))
 let hg ← yes (bA nm x)
 let j ← aO x T.tb
 let y ← f nm N a
 some ⟨.not (.tabin j.1 y.1),fun X k=>by
  obtain ⟨t,ad,h1,h2,h3⟩:=k.tbs j.1 x j.2
  exact ⟨⟨sF (bc k.sc hg.down) h2 h1 h3 (y.2 X k).1 hd.down rfl,rfl⟩,sT (bc k.sc hg.down) h2 h1 h3 (y.2 X k).1 hd.down rfl⟩⟩
def CG (f:aB T) (nm:List (θ×χ)) (N:List θ) (a:Ο) (b:Ο) (pos:ϥ):Option (GC T nm N (.Compare a [.Eq] [b] pos)):=none
def wS (f:aB T) (nm:List (θ×χ)) (N:List θ):(a:Ο)→(ops:List CmpOp)→(bs:List Ο)→(pos:ϥ)→Option (GC T nm N (.Compare a ops bs pos))
 | a,[.Is],[.Constant .none j p],pos=>(f nm N a).map fun x=>⟨.isN x.1,fun X k=>⟨⟨yH (x.2 X k).1 rfl,rfl⟩,zc (x.2 X k).1 rfl⟩⟩
 | a,[.IsNot],[.Constant .none j p],pos=>(f nm N a).map fun x=>⟨.isNN x.1,fun X k=>⟨⟨vq (x.2 X k).1 rfl,rfl⟩,v6 (x.2 X k).1 rfl⟩⟩
 | a,[.NotIn],[.Name x p],pos=>(xT f nm N a x p pos).orElse fun _=>uT f nm N a .NotIn (.Name x p) pos
 | a,[.In],[.Name x p],pos=>(xS f nm N a x p pos).orElse fun _=>uT f nm N a .In (.Name x p) pos
 | a,[.Eq],[.Tuple es k p],pos=>(CG f nm N a (.Tuple es k p) pos).orElse fun _=>uT f nm N a .Eq (.Tuple es k p) pos
 | a,[op],[b],pos=>uT f nm N a op b pos
 | a,[op,op'],[b,c],pos=>do
   let o ← uV op
   let o' ← uV op'
   let h ← no (Ii [op,op'] [b,c])
   let x ← f nm N a
   let y ← f nm N b
   let z ← f nm N c
   some ⟨.chain o.1 o'.1 x.1 y.1 z.1,fun X k=>⟨⟨sA (o.2 X) (o'.2 X) (x.2 X k).1 (y.2 X k).1 (z.2 X k).1 h.down,rfl⟩,sR (o.2 X) (o'.2 X) (x.2 X k).1 (y.2 X k).1 (z.2 X k).1 h.down⟩⟩
 | _,_,_,_=>none
def Db (f:aB T) (nm:List (θ×χ)) (N:List θ) (x:θ) (p:ϥ) (b:Ο) (pos:ϥ):Option (GE T nm N (.Subscript (.Name x p) b pos)):=do
 let hd ← no (x == ("__debug__":θ))
 let hg ← yes (bA nm x)
 let j ← aO x T.tb
 let hb ← yes (aF b)
 let y ← f nm N b
 some ⟨.tab j.1 y.1,fun X k=>by
  obtain ⟨t,ad,h1,h2,h3⟩:=k.tbs j.1 x j.2
  exact mk (yR (bc k.sc hg.down) h2 h1 h3 (y.2 X k).1 (hH hb.down) hd.down fun _=>rfl)⟩
def cIx (f:aB T) (nm:List (θ×χ)) (N:List θ) (a b:Ο) (pos:ϥ):Option (GE T nm N (.Subscript a b pos)):=do
 let hb ← yes (aF b)
 let x ← f nm N a
 let y ← f nm N b
 some ⟨.ix x.1 y.1,fun X k=>mk (BE (x.2 X k).1 (y.2 X k).1 (hH hb.down))⟩
theorem rI (e:T.an i=x) (T':bO X T.an) (hy:LE X a y) (hs:aQ a=true):LE X (.Attribute a x pos) (.fld y i):=by
 subst e
 exact yG T' Ab hy (ay hs)
theorem iE (h:T.at_[i]? = some x):T.an i=x:=by unfold Ns.an;rw [ĩ,h];rfl
def lM {nm:List (θ×χ)} {N:List θ} (f:∀ e,Option (GE T nm N e)) (x:θ) (p:ϥ) (e:Ο) (er:List Ο) (pos:ϥ):Option (GE T nm N (.Call (.Name x p) (e :: er) [] pos)):=((xN f x p e er pos).orElse fun _=>AB f x p (e :: er) pos).orElse fun _=>AC f x p (e :: er) pos
def cUn (f:aB T) (nm:List (θ×χ)) (N:List θ) (a:Ο) (pos:ϥ):(op:UnaryOp)→Option (GE T nm N (.UnaryOp op a pos))
 | .USub=>(f nm N a).map fun x=>⟨.neg x.1,fun X k=>mk (yL (x.2 X k).1)⟩
 | .Not=>(f nm N a).map fun x=>⟨.not x.1,fun X k=>mk (yN (x.2 X k).1)⟩
 | _=>none
def CY (f:aB T) (nm:List (θ×χ)) (N:List θ) (a:Ο) (lo:Option Ο) (p2 pos:ϥ):(hi st:Option Ο)→Option (GE T nm N (.Subscript a (.Slice lo hi st p2) pos))
 | hi,none=>do
   let x ← f nm N a
   let l ← AD (f nm N) lo
   let h ← AD (f nm N) hi
   some ⟨.sl x.1 l.1 h.1,fun X k=>mk (BI (x.2 X k).1 (l.2 X k) (h.2 X k))⟩
 | none,some st=>CW (f nm N) a lo st p2 pos
 | _,_=>none
def cTa (f:aB T) (nm:List (θ×χ)) (N:List θ) (b:Ο) (pos:ϥ):(a:Ο)→Option (GE T nm N (.Subscript a b pos))
 | .Name x p=>Db f nm N x p b pos
 | _=>none
def Da (f:aB T) (nm:List (θ×χ)) (N:List θ) (a:Ο) (pos:ϥ):(b:Ο)→Option (GE T nm N (.Subscript a b pos))
 | .Slice lo hi st p2=>CY f nm N a lo p2 pos hi st
 | b=>(cTa f nm N b pos a).orElse fun _=>cIx f nm N a b pos
def AJ (f:aB T) (nm:List (θ×χ)) (N:List θ) (x y:θ) (p p2:ϥ) (a:Ο) (pos2 pos:ϥ):Option (GE T nm N (.Call (.Name x p) [.Call (.Name y p2) [a] [] pos2] [] pos)):=none
def cRv (f:aB T) (nm:List (θ×χ)) (N:List θ) (x:θ) (p:ϥ) (pos:ϥ):(a:Ο)→Option (GE T nm N (.Call (.Name x p) [a] [] pos))
 | .Call (.Name y p2) [a] [] pos2=>(CU (f nm N) x y p p2 a pos2 pos).orElse fun _=>AJ f nm N x y p p2 a pos2 pos
 | _=>none
theorem uR:þ "ValueError" = some (.type "ValueError"):=by decide +kernel
def Ax {nm:List (θ×χ)} {N:List θ} (f:∀ e,Option (GE T nm N e)) (y:θ) (p:ϥ) (ea:Ο) (x:θ) (q pos:ϥ):Option (GE T nm N (.Call (.Name y p) [ea,.Name x q] [] pos)):=do
 let hy ← isP "isinstance" y
 let hx ← isP "ValueError" x
 let g1 ← eS T nm "isinstance"
 let g2 ← eS T nm "ValueError"
 let hv ← yes T.vx
 let he ← yes (aF ea)
 let a ← f ea
 some ⟨.isXv a.1,fun X k=>by
  obtain rfl:=hy.down
  obtain rfl:=hx.down
  exact mk (vt k.cls (bj k g1.down Ĉ) (bj k g2.down uR) (k.vxs hv.down) (a.2 X k).1 (ah he.down))⟩
def cIz (f:aB T) (nm:List (θ×χ)) (N:List θ) (x:θ) (p:ϥ) (a:Ο) (pos:ϥ):(b:Ο)→Option (GE T nm N (.Call (.Name x p) [a,b] [] pos))
 | .Name y q=>((cIs (f nm N) x p a y q pos).orElse fun _=>CP (f nm N) x p a y q pos).orElse fun _=>Ax (f nm N) x p a y q pos
 | .Tuple [.Name x1 q1,.Name x2 q2,.Name x3 q3] k q=>CO (f nm N) x p a x1 x2 x3 q1 q2 q3 k q pos
 | _=>none
def CE (f:aB T) (nm:List (θ×χ)) (N:List θ) (x:θ) (p:ϥ) (pos:ϥ):(args:List Ο)→Option (GE T nm N (.Call (.Name x p) args [] pos))
 | []=>AB (f nm N) x p [] pos
 | [a]=>(cRv f nm N x p pos a).orElse fun _=>lM (f nm N) x p a [] pos
 | [a,b]=>(cIz f nm N x p a pos b).orElse fun _=>lM (f nm N) x p a [b] pos
 | e :: er=>lM (f nm N) x p e er pos
def cSJ (f:aB T) (nm:List (θ×χ)) (N:List θ) (m:θ) (ap:ϥ) (args:List Ο) (pos:ϥ):(o:Ο)→Option (GE T nm N (.Call (.Attribute o m ap) args [] pos))
 | .Constant (.str x) j p=>xQ (f nm N) x j p m ap args pos
 | _=>none
def CC (f:aB T) (nm:List (θ×χ)) (N:List θ) (o:Ο) (m:θ) (ap:ϥ) (args:List Ο) (pos:ϥ):Option (GE T nm N (.Call (.Attribute o m ap) args [] pos)):=
 (((cSJ f nm N m ap args pos o).orElse fun _=>AP (f nm N) m ap o args pos).orElse fun _=>CL (f nm N) o m ap args pos).orElse fun _=>CS (f nm N) o m ap args pos
def cMx (f:aB T) (nm:List (θ×χ)) (N:List θ) (x y:θ) (p:ϥ) (a b:Ο) (kp pos:ϥ):Option (GE T nm N (.Call (.Name x p) [a] [⟨some y,b,kp⟩] pos)):=none
def CM (f:aB T) (nm:List (θ×χ)) (N:List θ) (o:Ο) (m:θ) (ap:ϥ):(args:List Ο)→(pos:ϥ)→Option (GE T nm N (.Call (.Attribute o m ap) args [] pos)):=fun _ _=>none
def cSm (f:aB T) (nm:List (θ×χ)) (N:List θ) (o:Ο) (m:θ) (ap pos:ϥ):(args:List Ο)→Option (GE T nm N (.Call (.Attribute o m ap) args [] pos))
 | []=>do
   let hp ← yes (ap.endLine == pos.line)
   let hs ← yes (aQ o)
   let a ← f nm N o
   match isP "isdigit" m,isP "pop" m with
   | some hm,_=>some ⟨.sm .dig a.1,fun X k=>by obtain rfl:=hm.down;exact mk (yF (a.2 X k).1 (ay hs.down) hp.down)⟩
   | _,some hm=>some ⟨.pop a.1,fun X k=>by obtain rfl:=hm.down;exact mk (yO (a.2 X k).1 (ay hs.down) hp.down)⟩
   | _,_=>none
 | [.Constant (.str y) j p]=>do
   let hp ← yes (ap.endLine == pos.line)
   let hs ← yes (aQ o)
   let a ← f nm N o
   match isP "split" m,isP "startswith" m with
   | some hm,_=>some ⟨.sm (.spl y) a.1,fun X k=>by obtain rfl:=hm.down;exact mk (yP (a.2 X k).1 (ay hs.down) hp.down)⟩
   | _,some hm=>some ⟨.sm (.sta y) a.1,fun X k=>by obtain rfl:=hm.down;exact mk (yQ (a.2 X k).1 (ay hs.down) hp.down)⟩
   | _,_=>none
 | _=>none
def CF (f:aB T) (nm:List (θ×χ)) (N:List θ) (m:θ) (ap pos:ϥ):(o:Ο)→(args:List Ο)→Option (GE T nm N (.Call (.Attribute o m ap) args [] pos))
 | .List es p,[e]=>do
   let hm ← isP "count" m
   let hp ← yes (ap.endLine == pos.line)
   let hn ← yes (aF e)
   let a ← cE (f nm N) es
   let b ← f nm N e
   some ⟨.sm .cnt (.tup (.cons (.lst a.1) (.cons b.1 .nil))),fun X k=>by
    obtain rfl:=hm.down
    exact mk (yE ((jC (a.2 X k)).le fun _=>rfl) (b.2 X k).1 ⟨ay rfl,by rw [ah hn.down];rfl,hp.down,by rw [ah hn.down];rfl⟩)⟩
 | _,_=>none
def cCl (f:aB T) (nm:List (θ×χ)) (N:List θ) (pos:ϥ) (args:List Ο):(fn:Ο)→(kw:List Ew)→Option (GE T nm N (.Call fn args kw pos))
 | .Name x p,[]=>CE f nm N x p pos args
 | .Attribute o m ap,[]=>(((cSm f nm N o m ap pos args).orElse fun _=>CF f nm N m ap pos o args).orElse fun _=>CM f nm N o m ap args pos).orElse fun _=>CC f nm N o m ap args pos
 | .Name x p,[⟨some y,b,kp⟩]=>(match args with | [a]=>cMx f nm N x y p a b kp pos | _=>none)
 | _,_=>none
def cF2 (f:aB T) (nm:List (θ×χ)) (N:List θ) (x:θ) (j1:Nat) (p1 pos:ϥ):(b c:Ο)→Option (GE T nm N (.JoinedStr [.Constant (.str x) j1 p1,b,c] pos))
 | .FormattedValue e (.negSucc 0) none p2,.Constant (.str y) j2 p3=>CK (f nm N) x j1 p1 e p2 y j2 p3 pos
 | _,_=>none
def cJs (f:aB T) (nm:List (θ×χ)) (N:List θ) (pos:ϥ):(es:List Ο)→Option (GE T nm N (.JoinedStr es pos))
 | [.Constant (.str x) j1 p1,b,c]=>cF2 f nm N x j1 p1 pos b c
 | _=>none
def cDi (f:aB T) (nm:List (θ×χ)) (N:List θ) (pos:ϥ):(ks:List (Option Ο))→(vs:List Ο)→Option (GE T nm N (.Dict ks vs pos))
 | [],[]=>some ⟨.dic .nil,fun X k=>mkf vF⟩
 | ks,vs=>At (f nm N) ks vs pos
def snI (T:Ns) (N:List θ):Ο→Option Nat
 | .Name x _=>if T.rl.contains x then (aO x N).map (·.1) else none
 | .Call (.Name y _) (.Name x _ :: _) _ _=>if T.rl.contains x && y != "len" && y != "range" then (aO x N).map (·.1) else none
 | _=>none
def CQ (f:aB T) (g:ip T) (nm:List (θ×χ)) (N:List θ) (ee:Ο) (sc:Ą) (pos:ϥ):(gs:List Gd)→Option (GE T nm N (.ListComp ee gs sc pos))
 | [⟨tg,iter,ifs,0⟩]=>(cLC f g nm N ee tg iter ifs sc pos).map fun a=>match snI T N iter with | some i=>snW i a | none=>a
 | _=>none
def Az (f:aB T) (nm:List (θ×χ)) (N:List θ) (b:Ο) (pos:ϥ):(a:Ο)→(op:FC)→Option (GE T nm N (.BinOp a op b pos))
 | .Constant (.str y) j p,.Mult=>(f nm N b).map fun x=>⟨.sm (.mulc y) x.1,fun X k=>mk (vz (x.2 X k).1)⟩
 | .List es p,.Mult=>do
   let l ← f nm N (.List es p)
   let x ← f nm N b
   some ⟨.sm .mull (.tup (.cons l.1 (.cons x.1 .nil))),fun X k=>mk (n7 (l.2 X k).1 (x.2 X k).1)⟩
 | .Subscript (.Constant (.str y) j p) e2 p2,.Mult=>do
   let l ← f nm N (.Subscript (.Constant (.str y) j p) e2 p2)
   let x ← f nm N b
   some ⟨.sm .mull (.tup (.cons l.1 (.cons x.1 .nil))),fun X k=>mk (n7 (l.2 X k).1 (x.2 X k).1)⟩
 | _,_=>none
def Cf (f:aB T) (g:ip T) (nm:List (θ×χ)) (N:List θ):(e:Ο)→Option (GE T nm N e)
 | .Name x pos=>AA T nm N x pos
 | .Constant c j pos=>xO T nm N c j pos
 | .BinOp a op b pos=>(Az f nm N b pos a op).orElse fun _=>do
   let o ← opP op
   let x ← f nm N a
   let y ← f nm N b
   some ⟨.op o.1 x.1 y.1,fun X k=>mk (BG (o.2 X) (x.2 X k).1 (y.2 X k).1)⟩
 | .UnaryOp op a pos=>cUn f nm N a pos op
 | .BoolOp .And es pos=>do
   let x ← wQ (f nm N) pos es
   let h ← no (au x.1)
   some ⟨x.1,fun X k=>mk (x.2 X k) h.down⟩
 | .BoolOp .Or es pos=>do
   let x ← AF (f nm N) pos es
   let h ← no (au x.1)
   some ⟨x.1,fun X k=>mk (x.2 X k) h.down⟩
 | .IfExp c a b pos=>do
   let t ← g nm N c
   let x ← f nm N a
   let y ← f nm N b
   some ⟨.ite t.1 x.1 y.1,fun X k=>mk (yJ (t.2 X k) (x.2 X k).1 (y.2 X k).1)⟩
 | .Compare a ops bs pos=>(wS f nm N a ops bs pos).map fun x=>⟨x.1,fun X k=>mk (x.2 X k).1.1 (x.2 X k).1.2⟩
 | .Tuple es n pos=>(cE (f nm N) es).map fun x=>⟨.tup x.1,fun X k=>mk (l5 (x.2 X k))⟩
 | .List es pos=>(cE (f nm N) es).map fun x=>⟨.lst x.1,fun X k=>mkf (jC (x.2 X k))⟩
 | .Subscript a b pos=>Da f nm N a pos b
 | .Attribute a x pos=>do
   let i ← aO x T.at_
   let hs ← yes (aQ a)
   let y ← f nm N a
   some ⟨.fld y.1 i.1,fun X k=>mk (rI (iE i.2) k.cls (y.2 X k).1 hs.down)⟩
 | .Call fn args kw pos=>cCl f nm N pos args fn kw
 | .JoinedStr es pos=>cJs f nm N pos es
 | .Dict keys vals pos=>cDi f nm N pos keys vals
 | .ListComp ee gs sc pos=>CQ f g nm N ee sc pos gs
 | _=>none
def Cg (f:aB T) (g:ip T) (nm:List (θ×χ)) (N:List θ):(e:Ο)→Option (GT T nm N e)
 | .UnaryOp .Not a pos=>(g nm N a).map fun x=>⟨.tnot x.1,fun X k=>zd (x.2 X k)⟩
 | .BoolOp .And es pos=>(wP (g nm N) pos es).map fun x=>⟨x.1,fun X k=>xi (x.2 X k)⟩
 | .BoolOp .Or es pos=>(AE (g nm N) pos es).map fun x=>⟨x.1,fun X k=>xi (x.2 X k)⟩
 | .Compare a ops bs pos=>(wS f nm N a ops bs pos).map fun x=>⟨x.1,fun X k=>(x.2 X k).2⟩
 | e=>do
   let h ← yes (match e with | .Compare ..=>false | .BoolOp ..=>false | .UnaryOp ..=>false | .IfExp ..=>false | .NamedExpr ..=>false | _=>true)
   let x ← f nm N e
   some ⟨.tv x.1,fun X k=>BO (x.2 X k).1 fun w=>mP h.down⟩
theorem yA:LE X e .nil:=fun br z I nb=>ZX rfl nb
theorem gR:LT X e .nil:=fun z I nb=>ZX rfl nb
def pM (T:Ns):Nat→aB T×ip T
 | 0=>(fun _ _ _=>none,fun _ _ _=>none)
 | k+1=>(fun nm N e=>some ((Cf (pM T k).1 (pM T k).2 nm N e).getD ⟨.nil,fun X _=>mk yA⟩),fun nm N e=>some ((Cg (pM T k).1 (pM T k).2 nm N e).getD ⟨.nil,fun X _=>gR⟩))
end
section
variable {α β:Type} {X:Cx} {z z0 z1:Z}
def Cx.on (X:Cx):Cx:={ X with tz:=1 }
theorem Rep.on (I:Rep X z) (h:0<z.s.toks):Rep X.on z:=⟨⟨I.md,I.fm,I.hd,I.bs,I.gh,I.rl,I.rn,I.rg,I.ob,I.fu,I.ff,I.br,I.os,h⟩,⟨I.ok.un,I.ok.kd,I.ok.gl,I.ok.bl,I.ok.ci,I.ok.ch⟩,I.lo,I.ce,I.fl,I.el,I.sl,I.en,I.eo,I.od⟩
theorem Rep.dn (I:Rep X.on z) (h:X.tz≤z.s.toks):Rep X z:=⟨⟨I.md,I.fm,I.hd,I.bs,I.gh,I.rl,I.rn,I.rg,I.ob,I.fu,I.ff,I.br,I.os,h⟩,⟨I.ok.un,I.ok.kd,I.ok.gl,I.ok.bl,I.ok.ci,I.ok.ch⟩,I.lo,I.ce,I.fl,I.el,I.sl,I.en,I.eo,I.od⟩
theorem Go.dn (g:Go X.on z z1):Go X z z1:=⟨g.st,g.ow⟩
theorem Ps.dn {o:am} {f:Flow} {s':ς} (tk:X.tz≤s'.toks) (h:Ps X.on z o f s'):Ps X z o f s':=by
 cases o with
 | nx t=>obtain ⟨e,z',rfl,b,y,I⟩:=h;exact ⟨e,z',rfl,b,y.dn,I.dn tk⟩
 | rt d t=>obtain ⟨u,z',e,rfl,b,y,I,r⟩:=h;exact ⟨u,z',e,rfl,b,y.dn,I.dn tk,r⟩
 | exc c l t=>exact h.elim
 | bad=>exact h.elim
theorem PxS.dn {o:am} {e:η} {s':ς} (tk:X.tz≤s'.toks) (h:PxS X.on z o e s'):PxS X z o e s':=by
 obtain ⟨z',c,l,rfl,b,y,I,a,cls,dx,q,r,n,w⟩:=h
 exact ⟨z',c,l,rfl,b,y.dn,I.dn tk,a,cls,dx,q,r,n,w⟩
def JgT (X:Cx) (t:E0 β) (m:Sta→Out α) (R:Z→α→β→Prop):Prop:=∀ z,Rep X z→m z.t≠.bad→Α X.M X.A t (fun u s'=>Pe X z (m z.t) R u s'∧0<s'.toks) (Px X z (m z.t)) z.s
theorem JgT.go {γ:Type} {t:E0 β} {m:Sta→Out α} {R:Z→α→β→Prop} {f:α→Sta→Out γ} {o:Out γ} {K:β→ς→Prop} (h:JgT X t m R) (x:Ee X z z1) (I:Rep X z1) (e:o=(m z1.t).bind f) (nb:o≠.bad)
 (k:∀ z2 d u,Ee X z1 z2→Ee X z z2→Rep X z2→R z2 d u→o=f d z2.t→0<z2.s.toks→K u z2.s):Α X.M X.A t K (Px X z o) z1.s:=by
 subst e
 refine Η (h z1 I fun q=>nb (by rw [q];rfl)) (fun u s' ⟨⟨z2,d,e,q,y,I1,r⟩,tk⟩=>?_) fun u s' h=>(h.less x).map
 subst e;exact k z2 d u y (x.trans y) I1 r (by rw [q];rfl) tk
theorem JgT.gos {t:E0 β} {m:Sta→Out α} {R:Z→α→β→Prop} {f:α→Sta→am} {o:am} {K:β→ς→Prop} (h:JgT X t m R) (x:Go X z z1) (I:Rep X z1) (e:o=(m z1.t).go f) (nb:o≠.bad)
 (k:∀ z2 d u,Ee X z1 z2→Go X z z2→Rep X z2→R z2 d u→o=f d z2.t→0<z2.s.toks→K u z2.s):Α X.M X.A t K (PxS X z o) z1.s:=by
 subst e
 refine Η (h z1 I fun q=>nb (by rw [q];rfl)) (fun u s' ⟨⟨z2,d,e,q,y,I1,r⟩,tk⟩=>?_) fun u s' h=>.of x h
 subst e;exact k z2 d u y (x.trans y.go) I1 r (by rw [q];rfl) tk
theorem zt {t:E0 η} {o:Out D} {od:Option D} {br:Bool} {c:E} (x:Ee X z0 z) (I:Rep X z) (e:o=Out.of z.t od) (nb:o≠.bad) (h:∀ d,od=some d→Α X.M X.A t (fun v s'=>Dn X z d v s'∧0<s'.toks) (fun _ _=>False) z.s):Α X.M X.A t (fun u s'=>Pe X z0 o (RV X.W br c) u s'∧0<s'.toks) (Px X z0 o) z.s:=by
 cases od with
 | none=>exact ZX e nb
 | some d=>exact Η (ό I.tk (h d rfl)) (fun _ _ h=>⟨h.2.1.at x I e h.1,h.2.2⟩) fun _ _ z=>z.2.elim
theorem uL (z:Z) (u:η) (x d:D) (h:CR X.W z x u) (e:cf .len x=some d) (I:Rep X z):Α X.M X.A (call (.builtin "len") [u]) (fun v s'=>Dn X z d v s'∧0<s'.toks) NoE z.s:=by
 have hn:=gO
 cases x with
 | tup l=>cases e;obtain ⟨a,o,vs,rfl,e1,t,r⟩:=h;have:=t.2.2;rw [r.len];exact len_tuple (tpt (I.gh _ _ e1) t) (by rw [Ν];omega) ⟨.tok fun _ _ _=>⟨_,rfl⟩,ŕ _⟩
 | lst l=>cases e;obtain ⟨a,o,vs,rfl,e1,t,r⟩:=h;have:=t.2;rw [r.len];exact FT (lsl e1 t) (by rw [Ν];omega) ⟨.tok fun _ _ _=>⟨_,rfl⟩,ŕ _⟩
 | str y=>
   obtain ⟨hz,rfl⟩:=aD (show (if y.length≤100000 then some (D.int y.length) else none)=some d from e)
   obtain ⟨t,rfl⟩:=h;have:=big hz
   exact len_str (by omega) ⟨.tok fun _ _ _=>⟨_,rfl⟩,ŕ _⟩
 | dic ks ds=>
   obtain ⟨hz,rfl⟩:=aD (show (if ks.length≤100000 then some (D.int ks.length) else none)=some d from e)
   obtain ⟨a,o,vs,rfl,m,e1,c1,l1,r1⟩:=h
   have n1:(ks.zip vs).length=ks.length:=by rw [Ϸ,← r1.len,l1,Đ]
   have:=big hz
   refine call_len_dict m (c1.of e1) (by rw [n1];omega) ?_
   rw [n1]
   exact ⟨.tok fun _ _ _=>⟨_,rfl⟩,ŕ _⟩
 | _=>cases e
theorem vw (hx:Blt X "len" (.builtin "len")) (ha:LE X ea a) (he:Ξ [ea] X.env=(false,eval ea X.env) :: Ξ [] X.env):JgT X (eval (.Call (.Name "len" p) [ea] [] pos) X.env) (X.ev true (.bi .len (.cons a .nil))) (RV X.W true (.bi .len (.cons a .nil))):=fun z I nb=>
 aH (.inl ⟨_,rfl⟩) hx he rfl I (Θ ((ha true).go .refl I (ev1 fun l s=>Out.of s (biD .len (l.map (look s.st)))) nb fun z1 x u y1 x1 I1 r1 e1=>Τ (zt x1 I1 e1 nb fun d q=>uL z1 _ _ d (r1.rb.cr I1) q I1)))
theorem vZ {o:Op} (ho:Op2 X (Ê op) (opD o)) (ha:JgT X (eval ea X.env) (X.ev true a) (RV X.W true a)) (hb:LE X eb b) (hm:Á op eb=false):JgT X (Fw (.Compare ea [op] [eb] pos) X.env (eval (.Compare ea [op] [eb] pos) X.env)) (fun t=>(X.ev true (.op o a b) t).bind toB) RT:=fun z I nb=>
 Ù (ha.go .refl I (ak ..) nb fun z1 x u y1 x1 I1 r1 e1 tk=>aY (n:=1) tk ((hb true).go x1 I1 (e1.trans (ak ..)) nb fun z2 y v y2 x2 I2 r2 e2 tk2=>by
  cases q:opD o (look z2.t.st x) (look z2.t.st y) with
  | none=>rw [q] at e2;exact ZX e2 nb
  | some d=>rw [q] at e2;exact Η (ό I2.tk (ό (n:=1) tk2 (ho z2 u v _ _ d I2 ((r1.rb.st y2 I2).cr I2) (r2.rb.cr I2) q))) (fun c s' k=>Η (ό (n:=1) k.2.1 (k.2.2.tru x2 I2 e2 nb k.1)) (fun _ _ k=>⟨k.2,k.1⟩) fun _ _ k=>k.2) fun _ _ z=>z.2.2.elim)) hm
def LS0 (X:Cx) (st:Ò) (c:S):Prop:=∀ z,Rep X z→X.ex c z.t≠.bad→Α X.M X.A (exec st X.env) (fun f s'=>Ps X z (X.ex c z.t) f s'∧0<s'.toks) (PxS X z (X.ex c z.t)) z.s
theorem y9 (hc:JgT X (Fw ec X.env (eval ec X.env)) (fun t=>(X.ev true c t).bind toB) RT) (ha:LSs X sa a) (hb:LSs X sb b):LS0 X (.If ec sa sb pos) (.ifs c a b):=fun z I nb=>by
 have e:X.ex (.ifs c a b) z.t=((X.ev true c z.t).bind toB).go fun t s=>if t then X.ex a s else X.ex b s:=by
  show Out.go (X.ev true c z.t) _=_
  cases X.ev true c z.t with
  | ok d s=>cases d <;> first | rfl | (rename_i t;cases t <;> rfl)
  | _=>rfl
 refine wpAny_If (hc.gos .refl I e nb fun z1 t u y x I1 r e1 tk=>?_)
 cases (show u=t from r)
 cases t with
 | true=>exact Η (ό (n:=1) tk (ha.at x I1 e1 nb)) (fun _ _ k=>⟨k.2,k.1⟩) fun _ _ k=>k.2
 | false=>exact Η (ό (n:=1) tk (hb.at x I1 e1 nb)) (fun _ _ k=>⟨k.2,k.1⟩) fun _ _ k=>k.2
theorem sM (h1:LS0 X tm a) (h2:LS X.on tn b) (h3:LSs X rest c):LSs X (tm :: tn :: rest) (.seq a (.seq b c)):=fun z I nb=>by
 have nb1:X.ex a z.t≠.bad:=fun q=>nb (show am.go (X.ex a z.t) _=_ by rw [q];rfl)
 refine Ş (Η (h1 z I nb1) (fun f s1 ⟨q,tk⟩=>?_) fun u s' ⟨z',c,l,e,q,y,J,r⟩=>⟨z',c,l,e,show am.go (X.ex a z.t) _=_ by rw [q];rfl,y,J,r⟩)
 cases qa:X.ex a z.t with
 | nx t=>
   rw [qa] at q
   obtain ⟨rfl,z1,rfl,rfl,x1,I1⟩:=q
   have e1:X.ex (.seq a (.seq b c)) z.t=(X.ex b z1.t).go fun s=>X.ex c s:=show am.go (X.ex a z.t) _=_ by rw [qa];rfl
   have nb2:X.ex b z1.t≠.bad:=fun q=>nb (by rw [e1,q];rfl)
   refine Ş (Η (ό I1.tk (h2 z1 (I1.on tk) nb2)) (fun f s2 ⟨tk2,q⟩=>?_) fun u s' ⟨tk2,w⟩=>?_)
   ·have q:=Ps.dn tk2 q
    cases qb:X.ex b z1.t with
    | nx t=>
      rw [show X.on.ex b z1.t=X.ex b z1.t from rfl,qb] at q
      obtain ⟨rfl,z2,rfl,rfl,x2,I2⟩:=q
      exact h3.at (x1.trans x2) I2 (e1.trans (by rw [qb];rfl)) nb
    | rt d t=>
      have e:=e1.trans (show _=am.rt d t by rw [qb];rfl)
      rw [show X.on.ex b z1.t=X.ex b z1.t from rfl,qb] at q
      obtain ⟨u,z2,rfl,s2,s3,y,r⟩:=q
      show Ps X z (X.ex (.seq a (.seq b c)) z.t) (.ret u) _
      rw [e];exact ⟨u,z2,rfl,s2,s3,x1.trans y,r⟩
    | exc c l t=>rw [show X.on.ex b z1.t=X.ex b z1.t from rfl,qb] at q;exact q.elim
    | bad=>exact ZX qb nb2
   ·obtain ⟨z',c',l,e,q,y,J,r⟩:=PxS.dn tk2 w
    exact ⟨z',c',l,e,e1.trans (by rw [show X.ex b z1.t = .exc c' l z'.t from q];rfl),x1.trans y,J,r.less fun a n=>x1.st.no n⟩
 | rt d t=>
   have e:X.ex (.seq a (.seq b c)) z.t = .rt d t:=show am.go (X.ex a z.t) _=_ by rw [qa];rfl
   rw [qa] at q
   obtain ⟨u,z1,rfl,r⟩:=q
   show Ps X z (X.ex (.seq a (.seq b c)) z.t) (.ret u) s1
   rw [e];exact ⟨u,z1,rfl,r⟩
 | exc c l t=>rw [qa] at q;exact q.elim
 | bad=>exact ZX qa nb1
end
section
variable {X:Cx}
theorem qu (hN:X.N.Nodup) (hi:X.N[i]? = some x) (hx:Loc X.env.scope x) (hc:LT X ec c) (ha:LF X ea a) (hb:LF X eb b) (fa:au a=true) (fb:au b=true) (hs:ķ (.IfExp ec ea eb ep) (some (.Name x pos')) pos.line X.env=pure false):LS X (.Assign [.Name x pos'] (.IfExp ec ea eb ep) pos) (.ifs c (.set i a) (.set i b)):=fun z I nb=>by
 have e:X.ex (.ifs c (.set i a) (.set i b)) z.t=((X.ev true c z.t).bind toB).go fun t s=>if t then X.ex (.set i a) s else X.ex (.set i b) s:=by
  show Out.go (X.ev true c z.t) _=_
  cases X.ev true c z.t with
  | ok d s=>cases d <;> first | rfl | (rename_i t;cases t <;> rfl)
  | _=>rfl
 refine Eh ?_ hs
 refine wpAny_IfExp (hc.gos .refl I e nb fun z1 t u y x0 I1 r e1=>?_)
 cases (show u=t from r)
 have go:∀ {e2:Ο} {c2:E},LF X e2 c2→au c2=true→X.ex (.ifs c (.set i a) (.set i b)) z.t=X.ex (.set i c2) z1.t→Α X.M X.A (eval e2 X.env) (fun v s₁=>Α X.M X.A (Ig X.env x v) (fun _=>Ps X z (X.ex (.ifs c (.set i a) (.set i b)) z.t) Flow.next) (PxS X z (X.ex (.ifs c (.set i a) (.set i b)) z.t)) s₁) (PxS X z (X.ex (.ifs c (.set i a) (.set i b)) z.t)) z1.s:=fun {e2 c2} h f e1=>by
  have nb1:X.ev false c2 z1.t≠.bad:=fun q=>nb (e1.trans (show Out.go (X.ev false c2 z1.t) _=_ by rw [q];rfl))
  refine Η (h z1 I1 nb1) (fun u s' ⟨z2,d,q1,q2,y2,I2,fv⟩=>?_) fun u s' h=>?_
  ·subst q1
   refine bF (own:=true) (x0.trans y2.go) I2 hN hi hx (fv.less y) fun s' a _ _ I' g'=>nxt (z1:={ z2 with t:=stV z2.t i d true,σ:=z2.σ.set i (some u),s:=s' }) g' I' ?_
   rw [e1]
   show Out.go (X.ev false c2 z1.t) _=_
   rw [q2]
   show am.nx (hW z2.t i d (au c2))=_
   unfold hW
   have ld:rX d=true:=by
    obtain ⟨_,_,_,_,t,_⟩:=fv
    cases d <;> first | rfl | cases t
   rw [f,ld];rfl
  ·rw [e1];exact .of x0 h
 cases t with
 | true=>exact go ha fa e1
 | false=>exact go hb fb e1
end
def RaP (X:Cx) (j:Nat) (x:θ):Prop:=∃ (lv:Nat) (k:Cl) (i:CI) (fI:φ) (fd:á) (ps:List θ) (Bx nwI iniI:String) (bmB:List η),Ā Bx nwI iniI bmB∧im X.K i.ad fI bmB nwI∧FnJ X lv fI fd ps i.nm k i.ad∧bW X.K fd ps []∧bq (lv+1) X.A∧gj X.K i.ad∧(∀ f∈i.nm,Υ X.K (.ref i.ad) f=some none)∧X.Γ.cl[j]? = some k∧X.W.ci[j]? = some i∧X.W.what[j]? = some 2∧i.nm.length=k.at_.length∧ϖ X.K i.ad (.type "BaseException")=some true∧î X.K (.ref i.ad)=some (.type "type")∧Ϝ X.K (.ref i.ad)=true∧X.mg x=some (.ref i.ad)∧k.at_.isEmpty=false
def RtP (X:Cx) (j:Nat) (x:θ):Prop:=∃ (k:Cl) (i:CI) (Bx nwI iniI:String) (bmB:List η),Ā Bx nwI iniI bmB∧mU X.K i.ad bmB nwI∧X.Γ.cl[j]? = some k∧k.at_.isEmpty=true∧X.W.ci[j]? = some i∧X.W.what[j]? = some 2∧X.mg x=some (.ref i.ad)
structure CxS (T:Ns) (X:Cx) (nm:List (θ×χ)) (N:List θ):Prop extends CxOk T X nm N where
 rs:∀ (j:Nat) (x:θ),T.ex[j]? = some x→x≠""→RaP X j x
 rt:∀ (j:Nat) (x:θ),T.xt[j]? = some x→x≠""→RtP X j x
abbrev GS (T:Ns) (nm:List (θ×χ)) (N:List θ) (st:Ò):={c:S // ∀ X,CxS T X nm N→LS X st c}
abbrev GSs (T:Ns) (nm:List (θ×χ)) (N:List θ) (st:List Ò):={c:S // ∀ X,CxS T X nm N→LSs X st c}
def gW:Ο→Bool
 | .ListComp ..=>false
 | .SetComp ..=>false
 | .DictComp ..=>false
 | _=>true
theorem cQ (h:gW e=true):ķ e t l env=pure false:=by
 cases e <;> first | rfl | cases h
theorem tj :FY [.Tuple es k p] e l env=pure false:=by
 cases e <;> rfl
def xm:Ο→Bool
 | .Tuple ..=>false
 | _=>true
theorem qB (h:xm e=true):FZ [.Tuple es k p] e env=pure none:=by
 cases e <;> first | rfl | cases h
section
variable {T:Ns} {nm:List (θ×χ)} {N:List θ}
theorem CxOk.tg (k:CxOk T X nm N):TgH nm N X:=⟨k.calm,k.hN,k.nd,k.sc⟩
theorem CxOk.at {i:Nat} {x:θ} (k:CxOk T X nm N) (h:N[i]? = some x):X.N[i]? = some x:=by rw [k.hN];exact h
theorem CxOk.ndx (k:CxOk T X nm N):X.N.Nodup:=by rw [k.hN];exact k.nd
def wW (f:aB T) (nm:List (θ×χ)) (N:List θ) (x:θ) (p:ϥ) (pos:ϥ) (e:Ο):Option (GS T nm N (.Assign [.Name x p] e pos)):=do
 let i ← aO x N
 let hl ← yes (fi true nm x)
 let hn ← yes (gW e)
 let a ← f nm N e
 some (match h:(T.rf.contains x && T.rl.contains x) && au a.1 with
  | true=>⟨.set i.1 (.sto a.1),fun X k=>fj k.ndx (k.at i.2) (cU k.tg hl.down) (lZ ((a.2 X k.toCxOk).2 (FW.mp h).2)) (fun q=>nomatch q) (cQ hn.down)⟩
  | false=>⟨.set i.1 a.1,fun X k=>fj k.ndx (k.at i.2) (cU k.tg hl.down) (a.2 X k.toCxOk).1 (a.2 X k.toCxOk).2 (cQ hn.down)⟩)
def CV (f:aB T) (g:ip T) (nm:List (θ×χ)) (N:List θ) (x:θ) (p:ϥ) (pos:ϥ):(e:Ο)→Option (GS T nm N (.Assign [.Name x p] e pos))
 | .ListComp ee [⟨tg,iter,ifs,0⟩] sc pos2=>do
   let i ← aO x N
   let hl ← yes (fi true nm x)
   let q ← Ay f g nm N ee tg iter ifs sc
   some (match snI T N iter with | some j=>⟨.set i.1 (.snap j (.lc q.1.1.1 q.1.1.2 q.1.2.1 q.1.2.2.1 q.1.2.2.2)),fun X k=>qv k.ndx (k.at i.2) (cU k.tg hl.down) (q.2 X k.toCxOk)⟩ | none=>⟨.set i.1 (.lc q.1.1.1 q.1.1.2 q.1.2.1 q.1.2.2.1 q.1.2.2.2),fun X k=>kE k.ndx (k.at i.2) (cU k.tg hl.down) (q.2 X k.toCxOk)⟩)
 | .List es lp=>(match qw x T.rf with
   | some _=>do
     let i ← aO x N
     let hl ← yes (fi true nm x)
     let a ← cE (f nm N) es
     some ⟨.setR i.1 a.1,fun X k=>vX k.ndx (k.at i.2) (cU k.tg hl.down) (a.2 X k.toCxOk) (cQ rfl)⟩
   | none=>wW f nm N x p pos (.List es lp))
 | .IfExp ec (.List e1 q1) (.List e2 q2) ep=>do
   let i ← aO x N
   let hl ← yes (fi true nm x)
   let hn ← yes (gW (.IfExp ec (.List e1 q1) (.List e2 q2) ep))
   let c ← g nm N ec
   let a ← cE (f nm N) e1
   let b ← cE (f nm N) e2
   some ⟨.ifs c.1 (.set i.1 (.lst a.1)) (.set i.1 (.lst b.1)),fun X k=>qu k.ndx (k.at i.2) (cU k.tg hl.down) (c.2 X k.toCxOk) (jC (a.2 X k.toCxOk)) (jC (b.2 X k.toCxOk)) rfl rfl (cQ hn.down)⟩
 | e=>wW f nm N x p pos e
def Cz (f:aB T) (nm:List (θ×χ)) (N:List θ) (x:θ) (p:ϥ) (m:θ) (ap:ϥ) (e:Ο) (cp pos:ϥ):Option (GS T nm N (.Expr (.Call (.Attribute (.Name x p) m ap) [e] [] cp) pos)):=do
 let hm ← isP "append" m
 let i ← aO x N
 let hl ← yes (cW nm x)
 let hd ← no (x == ("__debug__":θ))
 let hc ← no (x == ("__classdict__":θ))
 let he ← yes (aF e)
 let hp ← yes (ap.endLine == cp.line)
 let a ← f nm N e
 some ⟨.app i.1 a.1,fun X k=>by
  obtain rfl:=hm.down
  exact yY (k.at i.2) (bG k.sc hl.down) hd.down hc.down (a.2 X k.toCxOk).1 ⟨ay rfl,by rw [ah he.down];rfl,hp.down,by rw [ah he.down];rfl⟩⟩
def wT (f:aB T) (nm:List (θ×χ)) (N:List θ) (o:Ο) (m:θ) (ap:ϥ) (e:Ο) (cp pos:ϥ):Option (GS T nm N (.Expr (.Call (.Attribute o m ap) [e] [] cp) pos)):=do
 let hm ← isP "append" m
 let he ← yes (aF e)
 let hp ← yes (ap.endLine == cp.line)
 let hs ← yes (aQ o)
 let b ← f nm N o
 let a ← f nm N e
 some ⟨.fapp b.1 0 a.1,fun X k=>by
  obtain rfl:=hm.down
  exact vP (b.2 X k.toCxOk).1 (a.2 X k.toCxOk).1 ⟨ay hs.down,by rw [ah he.down];rfl,hp.down,by rw [ah he.down];rfl⟩⟩
def Au (f:aB T) (nm:List (θ×χ)) (N:List θ) (o:Ο) (m:θ) (ap:ϥ) (e:Ο) (cp pos:ϥ):Option (GS T nm N (.Expr (.Call (.Attribute o m ap) [e] [] cp) pos)):=do
 let hm ← isP "extend" m
 let he ← yes (aF e)
 let hp ← yes (ap.endLine == cp.line)
 let hs ← yes (aQ o)
 let b ← f nm N o
 let a ← f nm N e
 some ⟨.fext b.1 a.1,fun X k=>by
  obtain rfl:=hm.down
  exact vQ (b.2 X k.toCxOk).1 (a.2 X k.toCxOk).1 ⟨ay hs.down,by rw [ah he.down];rfl,hp.down,by rw [ah he.down];rfl⟩⟩
def CH (f:aB T) (nm:List (θ×χ)) (N:List θ) (x:θ) (p:ϥ) (m:θ) (ap:ϥ) (e:Ο) (cp pos:ϥ):Option (GS T nm N (.Expr (.Call (.Attribute (.Name x p) m ap) [e] [] cp) pos)):=none
def qX (f:aB T) (nm:List (θ×χ)) (N:List θ) (e:Ο) (pos:ϥ):Option (GS T nm N (.Expr e pos)):=do
 let hn ← yes (gW e)
 let a ← f nm N e
 some ⟨.drop a.1,fun X k=>vO (a.2 X k.toCxOk).1 (cQ hn.down)⟩
def AO (f:aB T) (nm:List (θ×χ)) (N:List θ) (j:Nat) (p:ϥ) (k:Nat) (q pos:ϥ):(ts vs:List Ο)→Option (GS T nm N (.Assign [.Tuple ts j p] (.Tuple vs k q) pos)):=fun _ _=>none
def CT (f:aB T) (nm:List (θ×χ)) (N:List θ) (x:θ) (p:ϥ) (eb:Ο) (p2:ϥ) (ee:Ο) (pos:ϥ):Option (GS T nm N (.Assign [.Subscript (.Name x p) eb p2] ee pos)):=do
 let i ← aO x N
 let hl ← yes (cW nm x)
 let hd ← no (x == ("__debug__":θ))
 let hc ← no (x == ("__classdict__":θ))
 let hn ← yes (aF eb)
 let b ← f nm N eb
 let e ← f nm N ee
 some ⟨.put (.v i.1) b.1 e.1,fun X k=>vV (k.at i.2) (bG k.sc hl.down) hd.down hc.down hn.down (b.2 X k.toCxOk).1 (e.2 X k.toCxOk).1⟩
def AG (f:aB T) (nm:List (θ×χ)) (N:List θ) (eo eb:Ο) (p2:ϥ) (ee:Ο) (pos:ϥ):Option (GS T nm N (.Assign [.Subscript eo eb p2] ee pos)):=do
 let hn ← yes (aF eb)
 let o ← f nm N eo
 let hv ← no (isV o.1)
 let b ← f nm N eb
 let e ← f nm N ee
 some ⟨.put o.1 b.1 e.1,fun X k=>vU hn.down hv.down (o.2 X k.toCxOk).1 (b.2 X k.toCxOk).1 (e.2 X k.toCxOk).1⟩
def xP (f:aB T) (nm:List (θ×χ)) (N:List θ) (x:θ) (np:ϥ):(args:List Ο)→(cp pos:ϥ)→Option (GS T nm N (.Raise (some (.Call (.Name x np) args [] cp)) none pos))
 | [],_,_=>none
 | e :: er,cp,pos=>do
   let j ← aO x T.ex
   let hz ← no (x == ("":θ))
   let hn ← yes ((e :: er).all aF)
   let hg ← yes (bA nm x)
   let hd ← no (x == ("__debug__":θ))
   let a ← cE (f nm N) (e :: er)
   some ⟨.rais j.1 a.1,fun X k=>by
    obtain ⟨lv,cl,i,fI,fd,ps,Bx,nwI,iniI,bmB,h1,h2,h3,h4,h5,h6,h7,h8,h9,h10,h11,h12,h13,h14,h15,h16⟩:=k.rs j.1 x j.2 (by simpa using hz.down)
    have hn':=Λ.mp hn.down
    obtain ⟨ck,h3,hk⟩:=h3
    exact sP h1 h2 h3 hk h4 h5 h6 h7 h8 h9 h10 h11 h16 h12 h13 h14 k.calm (bc k.sc hg.down) h15 (a.2 X k.toCxOk) hd.down (ah (hn' e ι)) (bJ fun y hy=>hn' y (ν _ hy))⟩
def qZ (T:Ns) (nm:List (θ×χ)) (N:List θ):(es:List Ο)→Option {c:E // ∀ X,CxOk T X nm N→TxP X es c}
 | []=>some ⟨.nil,fun _ _=>.nil⟩
 | .Constant (.str x) j p :: r=>do
   let h ← yes (decide (x.length≤1000))
   let a ← qZ T nm N r
   some ⟨a.1,fun X k=>.c (by simpa using h.down) (a.2 X k)⟩
 | .FormattedValue (.Name x p) (.negSucc 0) none q :: r=>(do
   let hl ← yes (bA nm x)
   let hd ← no (x == ("__debug__":θ))
   let j ← aO x T.gl
   let a ← qZ T nm N r
   (some ⟨.cons (.op .add (.g j.1) (.c (.int 0))) a.1,fun X k=>by
    obtain ⟨d,u,h1,h2,h3⟩:=k.gls j.1 x j.2
    exact .g (bc k.sc hl.down) h2 h1 h3 hd.down (a.2 X k)⟩:Option {c:E // ∀ X,CxOk T X nm N→TxP X (.FormattedValue (.Name x p) (.negSucc 0) none q :: r) c})).orElse fun _=>do
   let i ← aO x N
   let hl ← yes (cW nm x)
   let hd ← no ((x == ("__debug__":θ)) || (x == ("__classdict__":θ)))
   let a ← qZ T nm N r
   some ⟨.cons (.op .add (.v i.1) (.c (.int 0))) a.1,fun X k=>.f (by rw [k.hN];exact i.2) (bG k.sc hl.down) hd.down (a.2 X k)⟩
 | .FormattedValue (.Name x p) (.ofNat 114) none q :: r=>do
   let i ← aO x N
   let hl ← yes (cW nm x)
   let hd ← no ((x == ("__debug__":θ)) || (x == ("__classdict__":θ)))
   let a ← qZ T nm N r
   some ⟨.cons (.op .add (.v i.1) (.c (.str ""))) a.1,fun X k=>.r (by rw [k.hN];exact i.2) (bG k.sc hl.down) hd.down (a.2 X k)⟩
 | _=>none
def Dd (T:Ns) (nm:List (θ×χ)) (N:List θ):(e:Ο)→Option {c:E // ∀ X,CxOk T X nm N→TxA X e c}
 | .Constant (.str x) j p=>do
   let h ← yes (decide (x.length≤1000))
   some ⟨.nil,fun X k=>.c (by simpa using h.down)⟩
 | .JoinedStr (e1 :: e2 :: r) p=>do
   let h ← yes (decide (r.length≤8))
   let a ← qZ T nm N (e1 :: e2 :: r)
   some ⟨a.1,fun X k=>.j (a.2 X k) (by simpa using h.down)⟩
 | _=>none
def uU (nm:List (θ×χ)) (N:List θ) (x:θ) (np:ϥ):(args:List Ο)→(cp pos:ϥ)→Option (GS T nm N (.Raise (some (.Call (.Name x np) args [] cp)) none pos))
 | [e],cp,pos=>do
   let j ← aO x T.xt
   let hz ← no (x == ("":θ))
   let hn ← yes (aF e)
   let hg ← yes (bA nm x)
   let hd ← no (x == ("__debug__":θ))
   let a ← Dd T nm N e
   some ⟨.rais j.1 a.1,fun X k=>by
    obtain ⟨cl,i,Bx,nwI,iniI,bmB,h1,h2,h3,h4,h5,h6,h7⟩:=k.rt j.1 x j.2 (by simpa using hz.down)
    exact qt h1 h2 h3 h4 h5 h6 k.calm (bc k.sc hg.down) h7 (a.2 X k.toCxOk) hd.down (by rw [ah hn.down];rfl)⟩
 | _,_,_=>none
def wU (nm:List (θ×χ)) (N:List θ) (y:θ) (p1:ϥ) (x:θ) (p pos p2:ϥ):Option (GS T nm N (.Assign [.Attribute (.Name y p1) x p] (.Dict [] [] p2) pos)×GS T nm N (.Assign [.Attribute (.Name y p1) x p] (.List [] p2) pos)):=do
 let j ← aO x T.at_
 let i ← aO y N
 let hl ← yes (cW nm y)
 let hd ← no (y == ("__debug__":θ))
 let hc ← no (y == ("__classdict__":θ))
 some (⟨.fld (.v i.1) j.1 (.dic .nil),fun X k=>by
  have h:=vR (X:=X) (p:=p) (pos:=pos) (p1:=p1) (p2:=p2) (f:=j.1) k.cls (k.at i.2) (bG k.sc hl.down) hd.down hc.down
  rw [iE j.2] at h
  exact h⟩,⟨.fld (.v i.1) j.1 (.lst .nil),fun X k=>by
  have h:=vS (X:=X) (p:=p) (pos:=pos) (p1:=p1) (p2:=p2) (f:=j.1) k.cls (k.at i.2) (bG k.sc hl.down) hd.down hc.down
  rw [iE j.2] at h
  exact h⟩)
def CJ (f:aB T) (nm:List (θ×χ)) (N:List θ) (eo:Ο) (x:θ) (p:ϥ) (ee:Ο) (pos:ϥ):Option (GS T nm N (.Assign [.Attribute eo x p] ee pos)):=do
 let j ← aO x T.at_
 let o ← f nm N eo
 let e ← f nm N ee
 let hp ← yes (mE e.1)
 some ⟨.fld o.1 j.1 e.1,fun X k=>by
  have h:=y5 (X:=X) (p:=p) (pos:=pos) (f:=j.1) k.cls hp.down (o.2 X k.toCxOk).1 (e.2 X k.toCxOk).1
  rw [iE j.2] at h
  exact h⟩
def Av (f:aB T) (nm:List (θ×χ)) (N:List θ):(eo:Ο)→(x:θ)→(p:ϥ)→(ee:Ο)→(pos:ϥ)→Option (GS T nm N (.Assign [.Attribute eo x p] ee pos))
 | .Name y p1,x,p,.Dict [] [] p2,pos=>(wU nm N y p1 x p pos p2).map (·.1)
 | .Name y p1,x,p,.List [] p2,pos=>(wU nm N y p1 x p pos p2).map (·.2)
 | eo,x,p,ee,pos=>CJ f nm N eo x p ee pos
def Cu:(op:FC)→Option {o:Op // ∀ X:Cx,∃ g,uA X op o g}
 | .Sub=>some ⟨.sub,fun X=>⟨_,uH⟩⟩
 | .Add=>some ⟨.add,fun X=>⟨_,uG⟩⟩
 | _=>none
def CA (nm:List (θ×χ)) (N:List θ) (op:FC) (pos:ϥ):(tg e:Ο)→Option (GS T nm N (.AugAssign tg op e pos))
 | .Attribute (.Name y p1) x p,.Constant (.int c) j p2=>do
   let o ← Cu op
   let a ← aO x T.at_
   let i ← aO y N
   let hl ← yes (cW nm y)
   let hd ← no (y == ("__debug__":θ))
   let hc ← no (y == ("__classdict__":θ))
   some ⟨.fld (.v i.1) a.1 (.op o.1 (.fld (.v i.1) a.1) (.c (.int c))),fun X k=>by
    obtain ⟨g,ar⟩:=o.2 X
    have h:=yZ (X:=X) (p:=p) (pos:=pos) (p1:=p1) (p2:=p2) (j:=j) (c:=c) (f:=a.1) k.cls ar (k.at i.2) (bG k.sc hl.down) hd.down hc.down
    rw [iE a.2] at h
    exact h⟩
 | _,_=>none
structure lH (T:Ns) (X:Cx) (nm:List (θ×χ)) (N:List θ):Prop where
 hN:X.N=N
 nd:N.Nodup
 sc:X.env.scope.names=nm
 cls:bO X T.an
theorem CxOk.su (k:CxOk T X nm N) (e:η):lH T (aK X e) nm N:=⟨k.hN,k.nd,k.sc,fun c cl h=>let ⟨i,h⟩:=k.cls c cl h;⟨i,h.ci,h.cls,h.na,h.wh,h.nm,h.nd,h.xc⟩⟩
def wX (nm:List (θ×χ)) (N:List θ):(e:Ο)→Option {c:E // au c=false∧∀ X,lH T X nm N→LE X e c}
 | .Name x pos=>do
   let hd ← no (x == ("__debug__":θ))
   let hc ← no (x == ("__classdict__":θ))
   let hl ← yes (cW nm x)
   let i ← aO x N
   some ⟨.v i.1,rfl,fun X k=>vC (by rw [k.hN];exact i.2) (bG k.sc hl.down) hd.down hc.down⟩
 | .Constant c j pos=>match c with
   | .none=>some ⟨.c .non,rfl,fun X k=>wZ⟩
   | .bool b=>some ⟨.c (.bl b),rfl,fun X k=>AQ⟩
   | .int i=>some ⟨.c (.int i),rfl,fun X k=>wY⟩
   | .str x=>some ⟨.c (.str x),rfl,fun X k=>w8⟩
   | _=>none
 | .Attribute (.Name y p) x pos=>do
   let hd ← no (y == ("__debug__":θ))
   let hc ← no (y == ("__classdict__":θ))
   let hl ← yes (cW nm y)
   let i ← aO y N
   let j ← aO x T.at_
   let hs ← yes (aQ (.Name y p))
   some ⟨.fld (.v i.1) j.1,rfl,fun X k=>rI (iE j.2) k.cls (vC (by rw [k.hN];exact i.2) (bG k.sc hl.down) hd.down hc.down) hs.down⟩
 | _=>none
def AK (nm:List (θ×χ)) (N:List θ):(es:List Ο)→Option {c:E // ∀ X,lH T X nm N→LA X es c}
 | []=>some ⟨.nil,fun X k=>sf⟩
 | e :: r=>do
   let h ← yes (aF e)
   let a ← wX (T:=T) nm N e
   let b ← AK nm N r
   some ⟨.cons a.1 b.1,fun X k=>nZ (a.2.2 X k) (b.2 X k) (ah h.down)⟩
def AN (nm:List (θ×χ)) (N:List θ):(e:Ο)→Option {c:E // au c=false∧∀ X,lH T X nm N→LE X e c}
 | .Tuple es n pos=>(AK (T:=T) nm N es).map fun a=>⟨.tup a.1,rfl,fun X k=>l5 (a.2 X k)⟩
 | e=>wX nm N e
def cSu (nm:List (θ×χ)) (N:List θ):(st:Ò)→Option {c:S // ∀ X,lH T X nm N→LS X st c}
 | .Return (some e) pos=>(AN (T:=T) nm N e).map fun a=>⟨.ret a.1,fun X k=>jD (a.2.2 X k)⟩
 | .Assign [.Name x p] e pos=>do
   let i ← aO x N
   let hl ← yes (fi true nm x)
   let hn ← yes (gW e)
   let a ← AN (T:=T) nm N e
   some ⟨.set i.1 a.1,fun X k=>fj (by rw [k.hN];exact k.nd) (by rw [k.hN];exact i.2) (by
    have l1:nm.lookup x=some .local∨nm.lookup x=some .cell:=by have:=hl.down;unfold fi at this;simpa using this
    show X.env.scope.names.lookup x=_∨X.env.scope.names.lookup x=_
    rw [k.sc];exact l1) (a.2.2 X k) (fun q=>by rw [a.2.1] at q;cases q) (cQ hn.down)⟩
 | _=>none
theorem mc {st:Ò}:LS X st (.hand 0 none .skip .skip):=fun z I nb=>ZX rfl nb
def AM (nm:List (θ×χ)) (N:List θ) (st:Ò):{c:S // ∀ X,lH T X nm N→LS X st c}:=(cSu (T:=T) nm N st).getD ⟨.hand 0 none .skip .skip,fun X k=>mc⟩
def xR (nm:List (θ×χ)) (N:List θ):(st:List Ò)→Option {c:S // ∀ X,lH T X nm N→LSs X st c}
 | []=>some ⟨.skip,fun X k=>sN⟩
 | [a]=>let x:=AM (T:=T) nm N a;some ⟨x.1,fun X k=>sO (x.2 X k)⟩
 | a :: b :: r=>do
   let x:=AM (T:=T) nm N a
   let y ← xR nm N (b :: r)
   some ⟨.seq x.1 y.1,fun X k=>og (x.2 X k) (y.2 X k)⟩
def cHs (nm:List (θ×χ)) (N:List θ):(hs:List ą)→Option {r:S // ∀ X,CxS T X nm N→HL X hs r}
 | []=>some ⟨.skip,fun X k=>yi k.fr⟩
 | .ExceptHandler (some (.Name Bn np)) (some x) (b₀ :: suite) hpos :: hs=>do
   let j ← aO Bn T.hx
   let hz ← no (Bn == ("":θ))
   let hg ← yes (bA nm Bn)
   let hd ← no (Bn == ("__debug__":θ))
   let i ← aO x N
   let hl ← yes (nm.lookup x == some .local)
   let b ← xR (T:=T) nm N (b₀ :: suite)
   let r ← cHs nm N hs
   some ⟨.hand j.1 (some i.1) b.1 r.1,fun X k=>Be (fun e=>b.2 _ (k.toCxOk.su e)) (k.hxs j.1 Bn j.2 (by simpa using hz.down)) (bc k.sc hg.down) hd.down k.ndx (k.at i.2) (by rw [k.sc];simpa using hl.down) (r.2 X k)⟩
 | .ExceptHandler (some (.Name Bn np)) none (b₀ :: suite) hpos :: hs=>do
   let j ← aO Bn T.hx
   let hz ← no (Bn == ("":θ))
   let hg ← yes (bA nm Bn)
   let hd ← no (Bn == ("__debug__":θ))
   let b ← xR (T:=T) nm N (b₀ :: suite)
   let r ← cHs nm N hs
   some ⟨.hand j.1 none b.1 r.1,fun X k=>Bf (fun e=>b.2 _ (k.toCxOk.su e)) (k.hxs j.1 Bn j.2 (by simpa using hz.down)) (bc k.sc hg.down) hd.down (r.2 X k)⟩
 | _=>none
def Dc (a:GSs T nm N body):(hs:List ą)→(pos:ϥ)→Option (GS T nm N (.Try body hs [] [] pos))
 | h0 :: hs,pos=>(cHs nm N (h0 :: hs)).map fun r=>⟨.try_ a.1 r.1,fun X k=>za k.fr (a.2 X k) (r.2 X k)⟩
 | _,_=>none
def AH (f:aB T) (nm:List (θ×χ)) (N:List θ) (er:List Ο) (p2 pos:ϥ):Option (GS T nm N (.Return (some (.List er p2)) pos)):=none
def AI (f:aB T) (nm:List (θ×χ)) (N:List θ) (e:Ο) (pos:ϥ):Option (GS T nm N (.Return (some e) pos)):=do
 let a ← f nm N e
 match h:N.any (fun x=>T.mu.contains x) && au a.1 with
 | true=>some ⟨.ret (.sto a.1),fun X k=>jD (lZ ((a.2 X k.toCxOk).2 (FW.mp h).2))⟩
 | false=>some ⟨.ret a.1,fun X k=>jD (a.2 X k.toCxOk).1⟩
def cRp (f:aB T) (nm:List (θ×χ)) (N:List θ) (h:∀ st,Option (GSs T nm N st)):(a b:Ò)→(r:List Ò)→Option (GSs T nm N (a :: b :: r))
 | .If (.Compare (.Call (.Name l p1) [ea] [] p2) [op] [eb] p3) sa sb p4,.Assign [.Name y p5] (.Call (.Attribute (.Call (.Attribute (.Name x p6) m1 ap1) [.Constant (.str y1) j1 q1,.Constant (.str z1) j2 q2] [] p7) m2 ap2) [.Constant (.str y2) j3 q3,.Constant (.str z2) j4 q4] [] p8) p9,r=>do
   let hl ← isP "len" l
   let hm1 ← isP "replace" m1
   let hm2 ← isP "replace" m2
   let g ← eS T nm "len"
   let he ← yes (aF ea)
   let o ← uV op
   let hb ← yes (aF eb)
   let a ← f nm N ea
   let b ← f nm N eb
   let c1 ← h sa
   let c2 ← h sb
   let i ← aO y N
   let hi ← yes (fi true nm y)
   let k ← aO x N
   let hv ← yes (cW nm x)
   let hd ← no (x == ("__debug__":θ))
   let hc ← no (x == ("__classdict__":θ))
   let h1 ← no (y1 == z1)
   let h2 ← no (y2 == z2)
   let hp1 ← yes (ap1.endLine == p7.line)
   let hp2 ← yes (ap2.endLine == p8.line)
   let c3 ← h r
   some ⟨.seq (.ifs (.op o.1 (.bi .len (.cons a.1 .nil)) b.1) c1.1 c2.1) (.seq (.set i.1 (.sm (.rep y2 z2) (.sm (.rep y1 z1) (.v k.1)))) c3.1),fun X q=>by
    obtain rfl:=hl.down
    obtain rfl:=hm1.down
    obtain rfl:=hm2.down
    have E:LE X.on (.Name x p6) (.v k.1):=vC (X:=X.on) (q.at k.2) (bG q.sc hv.down) hd.down hc.down
    have E1:=sC (X:=X.on) (j1:=j1) (j2:=j2) (p1:=q1) (p2:=q2) G5 h1.down E (ay rfl) hp1.down
    have E2:=sC (X:=X.on) (j1:=j3) (j2:=j4) (p1:=q3) (p2:=q4) G5 h2.down E1 (ay rfl) hp2.down
    exact sM (y9 (vZ (o.2 X) (vw (bj q.toCxOk g.down boot_len) (a.2 X q.toCxOk).1 (by rw [ah he.down])) (b.2 X q.toCxOk).1 (dY hb.down)) (c1.2 X q) (c2.2 X q)) (fj (X:=X.on) q.ndx (q.at i.2) (show Loc X.env.scope y from cU q.tg hi.down) E2 (fun z=>nomatch z) (cQ rfl)) (c3.2 X q)⟩
 | _,_,_=>none
mutual
noncomputable def CZ (f:aB T) (g:ip T) (nm:List (θ×χ)) (N:List θ):(n:Nat)→(st:Ò)→Option (GS T nm N st)
 | 0,_=>none
 | _+1,.Pass pos=>some ⟨.skip,fun X k=>vT⟩
 | _+1,.Return none pos=>some ⟨.ret (.c .non),fun X k=>vW⟩
 | _+1,.Return (some (.List er p2)) pos=>(AH f nm N er p2 pos).orElse fun _=>(f nm N (.List er p2)).map fun a=>⟨.ret a.1,fun X k=>jD (a.2 X k.toCxOk).1⟩
 | _+1,.Return (some e) pos=>AI f nm N e pos
 | _+1,.Expr (.Constant (.str x) j p) pos=>some ⟨.skip,fun X k=>y0⟩
 | _+1,.Expr (.Call (.Attribute (.Attribute o2 f2 ap2) m ap) [e] [] cp) pos=>(wT f nm N (.Attribute o2 f2 ap2) m ap e cp pos).orElse fun _=>qX f nm N _ pos
 | _+1,.Expr (.Call (.Attribute (.Name x p) m ap) [e] [] cp) pos=>(((if T.rl.contains x then (wT f nm N (.Name x p) m ap e cp pos).orElse fun _=>Au f nm N (.Name x p) m ap e cp pos else none).orElse fun _=>Cz f nm N x p m ap e cp pos).orElse fun _=>CH f nm N x p m ap e cp pos).orElse fun _=>qX f nm N _ pos
 | _+1,.Expr e pos=>qX f nm N e pos
 | _+1,.Assign [.Name x p] e pos=>CV f g nm N x p pos e
 | _+1,.Assign [.Subscript (.Name x p) eb p2] ee pos=>CT f nm N x p eb p2 ee pos
 | _+1,.Assign [.Subscript eo eb p2] ee pos=>AG f nm N eo eb p2 ee pos
 | _+1,.Raise (some (.Call (.Name x np) args [] cp)) none pos=>(xP f nm N x np args cp pos).orElse fun _=>uU nm N x np args cp pos
 | _+1,.Assign [.Attribute eo x p] ee pos=>Av f nm N eo x p ee pos
 | _+1,.AugAssign tg op e pos=>CA nm N op pos tg e
 | _+1,.Assign [.Tuple ts j p] (.Tuple vs k q) pos=>AO f nm N j p k q pos ts vs
 | _+1,.Assign [.Tuple es j p] e pos=>do
   let t ← zU true nm N es
   let h ← yes (xm e)
   let a ← f nm N e
   some ⟨.setT t.1 a.1,fun X k=>vY (a.2 X k.toCxOk).1 (sJ k.calm k.ndx (t.2.as_ X k.tg) (t.2.len _) (t.2.fst _)) tj (qB h.down) rfl⟩
 | n+1,.If e sa sb pos=>do
   let c ← g nm N e
   let a ← j5 f g nm N n sa
   let b ← j5 f g nm N n sb
   some ⟨.ifs c.1 a.1 b.1,fun X k=>BM (c.2 X k.toCxOk) (a.2 X k) (b.2 X k)⟩
 | n+1,.For tg iter body [] pos=>do
   let it ← wV (f nm N) tg iter
   let q ← tgP true nm N tg
   let hn ← yes (aF iter)
   let b ← j5 f g nm N n body
   some ⟨.for_ q.1.1 q.1.2 it.1 b.1,fun X k=>y8 k.calm (fun z o=>oY k.fr) (it.2 X k.toCxOk) (q.2.1 X k.tg) (b.2 X k) (iP hn.down)⟩
 | n+1,.While e body [] pos=>do
   let c ← g nm N e
   let b ← j5 f g nm N n body
   some ⟨.whl c.1 b.1,fun X k=>sQ (fun z o=>oY k.fr) (c.2 X k.toCxOk) (b.2 X k)⟩
 | n+1,.Try body hs [] [] pos=>do
   let a ← j5 f g nm N n body
   Dc a hs pos
 | _,_=>none
noncomputable def cSt (f:aB T) (g:ip T) (nm:List (θ×χ)) (N:List θ):(n:Nat)→(st:Ò)→Option (GS T nm N st)
 | 0,st=>some ⟨.hand 0 none .skip .skip,fun X k=>mc⟩
 | n+1,st=>some ((CZ f g nm N n st).getD ⟨.hand 0 none .skip .skip,fun X k=>mc⟩)
noncomputable def j5 (f:aB T) (g:ip T) (nm:List (θ×χ)) (N:List θ):(n:Nat)→(st:List Ò)→Option (GSs T nm N st)
 | 0,_=>none
 | _+1,[]=>some ⟨.skip,fun X k=>sN⟩
 | n+1,[a]=>(cSt f g nm N n a).map fun x=>⟨x.1,fun X k=>sO (x.2 X k)⟩
 | n+1,a :: b :: r=>(cRp f nm N (j5 f g nm N n) a b r).orElse fun _=>do
   let x ← cSt f g nm N n a
   let y ← j5 f g nm N n (b :: r)
   some ⟨.seq x.1 y.1,fun X k=>og (x.2 X k) (y.2 X k)⟩
end
end
def cj (st:Ò):List θ:=(aI st).args.map (·.arg)
def l9 (st:Ò):List θ:=cj st ++ ((ax st).names.filter fun y=>(y.2 == .local || y.2 == .cell) && !(cj st).contains y.1).map (·.1)
def dfB (st:Ò):Option Bool:=match (aI st).defaults with
 | [.Constant (.bool b) _ _]=>some b
 | _=>none
def DfV (K:ο) (dV:η):Option Bool→Prop
 | none=>dV = .none
 | some b=>∃ T o n,dV = .ref T∧K.lookup T=some o∧o.data = .seq #[.bool b] n
structure lD (K:ο) (x qual:θ) (st:Ò) (f:φ) (fd:á):Prop where
 ex:∃ (oc:η) (od:Option φ) (dV kV doc pm:η) (an:Option φ) (cdv ct:η) (osl:Array (Option η)),
  fd=Ϻ x qual (aI st) (bL st) (ax st) dV kV doc pm an cdv ct∧K.lookup f=some ⟨oc,od,.func fd,osl⟩∧Ü K cdv qual=true∧DfV K dV (dfB st)
 kp:Ϝ K (.ref f)=true
def dfT (T:Ns) (st:Ò):Option Bool:=if T.mu.contains "#d" then dfB st else none
def dfD:Option Bool→List D
 | some b=>[.bl b]
 | none=>[]
def dfU:Option Bool→List η
 | some b=>[.bool b]
 | none=>[]
theorem AS:∀ (o:Option Bool) (ρ:Rs) (G:Hp),RDs W ρ G (dfD o) (dfU o)
 | none,_,_=>rfl
 | some b,_,_=>.cons rfl rfl
def fG (T:Ns) (st:Ò):Option Fn:=(j5 (pM T 200).1 (pM T 200).2 (ax st).names (l9 st) 200 (bL st)).map fun c=>⟨(cj st).length,(l9 st).length,c.1,dfD (dfT T st)⟩
structure uB (T:Ns) (X:Cx) (ad:List φ) (lv:Nat):Prop where
 calm:X.calm=true
 fns:∀ (j:Nat) (f:φ),ad[j]? = some f→∃ x qual st fd fn mu al fc oc,lD X.K x qual st f fd∧bW X.K fd (cj st) (dfU (dfT { T with mu:=mu,alt:=al,fc:=fc,oc:=oc } st))∧d6 (l9 st) (cj st) (ax st)∧X.Γ.fn[j]? = some fn∧fG { T with mu:=mu,alt:=al,fc:=fc,oc:=oc } st=some fn
 glb:∀ (j:Nat) (x:θ),T.fn[j]? = some x→∃ f,ad[j]? = some f∧X.mg x=some (.ref f)
 gls:∀ (j:Nat) (x:θ),T.gl[j]? = some x→∃ d u,X.Γ.gl[j]? = some d∧X.mg x=some u∧aV X.K d u=true
 tbs:∀ (j:Nat) (x:θ),T.tb[j]? = some x→∃ t a,X.Γ.tb[j]? = some t∧X.mg x=some (.ref a)∧TbL X a t
 blt:∀ x∈T.bl,X.mg x=none
 cls:bO X T.an
 mts:∀ q∈T.me,∃ f,ad[q.2.2]? = some f∧pC X T.an q.1 q.2.1 f
 nws:∀ (j:Nat) (x:θ),T.nw[j]? = some x→x≠""→∃ f i cl,ad[cl.init]? = some f∧Mk X.K i.ad f∧X.Γ.cl[j]? = some cl∧cl.what=0∧X.W.ci[j]? = some i∧X.W.what[j]? = some 0∧X.mg x=some (.ref i.ad)
 nds:∀ (j:Nat) (x:θ),T.nd[j]? = some x→x≠""→∃ f fd ps i cl,FnI X lv f fd ps i.nm none∧bW X.K fd ps []∧Mk X.K i.ad f∧Cls X.K i.ad∧(∀ f∈i.nm,di X.K i.ad f)∧X.Γ.cl[j]? = some cl∧X.W.ci[j]? = some i∧X.W.what[j]? = some 1∧i.nm.length=cl.at_.length∧X.mg x=some (.ref i.ad)
 rs:∀ (j:Nat) (x:θ),T.ex[j]? = some x→x≠""→∃ (k:Cl) (i:CI) (fI:φ) (fd:á) (ps:List θ) (Bx nwI iniI:String) (bmB:List η),Ā Bx nwI iniI bmB∧im X.K i.ad fI bmB nwI∧FnJ X lv fI fd ps i.nm k i.ad∧bW X.K fd ps []∧gj X.K i.ad∧(∀ f∈i.nm,Υ X.K (.ref i.ad) f=some none)∧X.Γ.cl[j]? = some k∧X.W.ci[j]? = some i∧X.W.what[j]? = some 2∧i.nm.length=k.at_.length∧ϖ X.K i.ad (.type "BaseException")=some true∧î X.K (.ref i.ad)=some (.type "type")∧Ϝ X.K (.ref i.ad)=true∧X.mg x=some (.ref i.ad)∧k.at_.isEmpty=false
 hxs:∀ (j:Nat) (x:θ),T.hx[j]? = some x→x≠""→pB X j x
 rt:∀ (j:Nat) (x:θ),T.xt[j]? = some x→x≠""→RtP X j x
 vxs:T.vx=true→xD X
section
variable {X:Cx} {T:Ns} {ad:List φ} {lv:Nat}
theorem cB.to {A:ϙ} {fr:List ż} {N:List θ} {e:ż} {c1 d1:Nat→List D→List O→Res} (h:cB X an c k i):cB (X.to A fr N e c1 d1) an c k i:=⟨h.ci,h.cls,h.na,h.wh,h.nm,h.nd,h.xc⟩
theorem qH (Pg:uB T X ad lv) (n:Nat) (ih:∀ (j:Nat) (f:φ),ad[j]? = some f→bR X (ai X.Γ n) (lv+1+n) j f) (ih1:∀ (j:Nat) (f:φ),ad[j]? = some f→∃ m,m+1≤lv+1+n∧bR X (aA X.Γ n) m j f) {j:Nat} {f:φ} (h:ad[j]? = some f):bR X (ai X.Γ (n+1)) (lv+1+(n+1)) j f:=by
 obtain ⟨x,qual,st,fd,fn,mu,al,fc,oc,Fu,b,Sc,hj,hc⟩:=Pg.fns j f h
 obtain ⟨oc',od,dV,kV,doc,pm,an,cd,ct,osl,rfl,lk,hcd,_⟩:=Fu.ex
 unfold fG at hc
 obtain ⟨c,_,rfl⟩:=τ.mp hc
 refine ⟨_,_,_,A3 (cal:=ai X.Γ n) (cal1:=aA X.Γ n) (k:=lv+1+n) lk hcd Sc hj (AS _) fun A fr L hr=>c.2 _ ⟨⟨rfl,Sc.nd,rfl,Sc.kind,Pg.calm,fun i y hy=>?_,Pg.gls,Pg.tbs,Pg.blt,fun c cl h=>let ⟨i,h⟩:=Pg.cls c cl h;⟨i,h.to⟩,fun q hq=>?_,fun i y hy hz=>?_,fun i y hy hz=>?_,Pg.hxs,⟨⟨_,fr,rfl,rfl⟩,⟨_,rfl⟩⟩,Pg.vxs⟩,fun i y hy hz=>?_,Pg.rt⟩,b,Fu.kp⟩
 ·obtain ⟨g,h1,h2⟩:=Pg.glb i y hy
  exact ⟨_,g,(ih i g h1).to,hr,h2⟩
 ·obtain ⟨g,h1,⟨i,k,a1,a2,a3⟩⟩:=Pg.mts q hq
  exact ⟨_,g,(ih _ g h1).to,hr,⟨i,k,a1,a2.to,a3⟩⟩
 ·obtain ⟨g,ci,cl,h1,h2⟩:=Pg.nws i y hy hz
  obtain ⟨m,hm,h3⟩:=ih1 _ g h1
  exact ⟨m,g,ci,cl,h3.to,hr.mono hm,h2⟩
 ·obtain ⟨g,fd,ps,ci,cl,h1,h2,h3⟩:=Pg.nds i y hy hz
  exact ⟨lv,g,fd,ps,ci,cl,h1.to,h2,hr.mono (by omega),h3⟩
 ·obtain ⟨k,ci,fI,fd,ps,Bx,nwI,iniI,bmB,h1,h2,h3,h4,h5⟩:=Pg.rs i y hy hz
  exact ⟨lv,k,ci,fI,fd,ps,Bx,nwI,iniI,bmB,h1,h2,h3.to,h4,hr.mono (by omega),h5⟩
theorem nz (Pg:uB T X ad lv) {j:Nat} {f:φ} (h:ad[j]? = some f) {cal:Nat→List D→List O→Res} (no:∀ ds st,cal j ds st = .bad) (m:Nat):bR X cal m j f:=by
 obtain ⟨x,qual,st,fd,fn,mu,al,fc,oc,Fu,b,_⟩:=Pg.fns j f h
 exact ⟨fd,_,_,⟨fun ds st nb=>ZX (no ds st) nb,fun A fr z args us ds _ _ _ _ nb=>ZX (no ds _) nb⟩,b,Fu.kp⟩
theorem jL (Pg:uB T X ad lv):∀ (n j:Nat) (f:φ),ad[j]? = some f→bR X (ai X.Γ n) (lv+1+n) j f
 | 0,j,f,h=>nz Pg h (fun _ _=>rfl) _
 | n+1,j,f,h=>qH Pg n (jL Pg n) (fun i g hg=>by
   match n with
   | 0=>exact ⟨0,by omega,nz Pg hg (fun _ _=>rfl) _⟩
   | n'+1=>exact ⟨lv+1+n',by omega,jL Pg n' i g hg⟩) h
end
theorem kO {vs:List η} {ns:List Int} (h:Ey vs ns):RDs W ρ G (ns.map D.int) vs:=by
 induction h with
 | nil=>exact rfl
 | cons n t h ih=>exact .cons ⟨t,rfl⟩ ih
theorem si {X:Cx} {Γ:Gm} {n j k:Nat} {fa a:φ} {s₁:ς} {vs:List η} {ns:List Int} (md:Mod X.K X.mg X.base) (hb:X.base=s₁.heap) (os:X.os=s₁.os) (hc:X.calm=true) (h0:X.tz=0) (hg:s₁.gens = #[])
 (ha:s₁.heap.get? a=some { cls:=.type "list",data:=.seq vs.toArray }) (hi:Ey vs ns) (hl:ns.length≤ϝ) (hr:bq k Em)
 (F:bR X (ai Γ n) k j fa) (hlaw:∃ st',ai Γ n j [.lst (ns.map .int)] [] = .ok (.bl true) st') :
 ĳ X.M Em (.call (.ref fa) ⟨[.ref a],[]⟩) (fun r s'=>r = .ok (.ret (.bool true))∧OldK s₁.heap s'.heap∧s'.os=s₁.os∧œ s'.gens) s₁:=by
 obtain ⟨st',e⟩:=hlaw
 obtain ⟨fd,ps,dvs,F,hbd,_⟩:=F
 have hp:=F.len [.lst (ns.map .int)] [] (by rw [e];exact fun z=>nomatch z)
 have nm:∀ {b},¬ Mu ([]:Rs) b:=fun ⟨p,m,_⟩=>nomatch m
 have I:HR { X with A:=Em,fr:=[] } ⟨[],s₁.heap.get?,⟨[],[],[]⟩,[],s₁⟩:=⟨md,rfl,fun _=>hr.hd,(fun b o e=>by rw [hb] at e;exact e),.refl _,rfl,(fun i j p q b h=>by simp at h),fun b m=>(nm m).elim,(fun n o p h=>by simp at h),trivial,(fun b m=>nomatch m),(by show œ s₁.gens;rw [hg];exact fun g h=>by simp at h),os.symm,(by show X.tz≤_;rw [h0];exact ϰ _)⟩
 refine ý (F.run Em [] ⟨[],s₁.heap.get?,⟨[],[],[]⟩,[],s₁⟩ ⟨[.ref a],[]⟩ [.ref a] [.lst (ns.map .int)] hr I (hbd s₁ [.ref a] (hb ▸ md.kin) (by rw [Δ];exact hp)) (.cons ⟨a,_,vs,rfl,ha,⟨⟨_,rfl⟩,by rw [hi.length];exact hl⟩,kO hi⟩ rfl) (by rw [e];exact fun z=>nomatch z)) fun r s' hq=>?_
 rw [e] at hq
 cases r with
 | error u=>obtain ⟨_,_,_,_,z,_⟩:=hq;cases z
 | ok fl=>cases fl with
   | ret u=>
     obtain ⟨z',d,q1,q2,S,H,rd⟩:=hq
     subst q1
     cases q2
     cases (show u=ϡ true from rd)
     have keep:∀ b o,s₁.heap.get? b=some o→z'.s.heap.get? b=some o:=fun b o e=>S.sm b o e nm (fun z=>z) (fun m=>nomatch m)
     exact ⟨rfl,OldK.of_keep keep,H.os.trans os,H.br⟩
   | _=>exact hq.elim
theorem wK {l:Gj} {n k lv:Nat} {q:Ä} {loose:List θ} {XP:(θ→Option η)→ϻ→Prop} {YP:à→ϻ→Prop} {d:DefRec} {K:Params→ο} {j:Nat} {Γ:Gm}
 (hn:l.most=some n) (hn2:n≤ϝ) (hdf:d.params.defaults = []) (hr:bq lv Em) (hY:∀ (w:à) (h:ϻ),YP w h→(K w.params).In h)
 (F:∀ (w:à) (mg:θ→Option η) (fa:φ) (h:ϻ) (os:GH),(K w.params).In h→h.Ns ϊ mg→mg d.name=some (.ref fa)→Mod (K w.params) mg h →
  ∃ X:Cx,X.W.P=l.prog∧X.W.w=w∧X.K=K w.params∧X.mg=mg∧X.base=h∧X.os=os∧X.calm=true∧X.tz=0∧bR X (ai Γ k) lv j fa)
 (hlaw:∀ ns:List Int,ns.length≤n→∃ st',ai Γ k j [.lst (ns.map .int)] [] = .ok (.bl true) st'):H0 q loose XP YP l.row.toRowW d [] (fun f vs=>G4 f vs):=by
 refine Att.attach_call hn hdf fun w s₀ s₁ mg mb fa o pm cd doc a vs ns G Y ho hd hcd hmg hobj hints hlen hg=>?_
 have KX:=hY w _ Y
 have md:Mod (K w.params) mg s₁.heap:=⟨KX,G.T.g,⟨mb,G.T.b,G.T.builtins⟩,G.T.nolimit⟩
 obtain ⟨X,e1,e2,e3,e4,e5,e6,e7,e8,hF⟩:=F w mg fa s₁.heap s₁.os KX G.T.g hmg md
 have:=si (X:=X) (by rw [e3,e4,e5];exact md) e5 e6 e7 e8 hg hobj hints (ϧ hlen hn2) hr hF (hlaw ns hlen)
 rw [show X.M=model l.prog w by show model X.W.P X.W.w=_;rw [e1,e2]] at this
 exact this
def FnF (T:Ns) (K:ο) (Γ:Gm) (j:Nat) (f:φ):Prop:=∃ x qual st fd fn mu al fc oc,lD K x qual st f fd∧bW K fd (cj st) (dfU (dfT { T with mu:=mu,alt:=al,fc:=fc,oc:=oc } st))∧d6 (l9 st) (cj st) (ax st)∧Γ.fn[j]? = some fn∧fG { T with mu:=mu,alt:=al,fc:=fc,oc:=oc } st=some fn
theorem gP:∀ {ps:List θ} {us:List η},ps.Nodup→us.length=ps.length→ps.filterMap (fun n=>((ps.zip us).lookup n).map (n,·))=ps.zip us
 | [],[],_,_=>rfl
 | p :: ps,u :: us,nd,hl=>by
   have ih:=gP (Ϭ.mp nd).2 (by simpa using hl)
   rw [Ϧ]
   simp only [Ó,ĕ,ZT,Option.map_some]
   congr 1
   have:∀ l:List θ,(∀ n∈l,n∈ps)→l.filterMap (fun n=>((match n == p with | true=>some u | false=>(ps.zip us).lookup n).map fun x=>(n,x)))=l.filterMap fun n=>((ps.zip us).lookup n).map fun x=>(n,x):=fun l=>by
    induction l with
    | nil=>intro _;rfl
    | cons n l ih=>
      intro h
      have q:(n == p)=false:=ZU.mpr fun e=>(Ϭ.mp nd).1 (e ▸ h n ι)
      rw [Ϧ,Ϧ,ih fun m hm=>h m (ν _ hm),q]
   exact (this ps fun _ h=>h).trans ih
 | [],_ :: _,_,hl=>by simp at hl
 | _ :: _,[],_,hl=>by simp at hl
theorem iW:∀ {ps:List θ} {us:List η},us.length=ps.length→(ps.filter fun n=>((ps.zip us).lookup n).isNone) = []:=by
 intro ps us hl
 rw [Ð]
 intro n hn
 have:((ps.zip us).lookup n).isSome=true:=by
  induction ps generalizing us with
  | nil=>cases hn
  | cons p ps ih=>
    cases us with
    | nil=>simp at hl
    | cons u us=>
      rw [Ó,ĕ]
      cases e:n == p with
      | true=>rfl
      | false=>
        rcases υ.mp hn with q | q
        ·subst q;simp at e
        ·exact ih (by simpa using hl) q
 cases e:(ps.zip us).lookup n with
 | none=>rw [e] at this;cases this
 | some v=>simp
theorem gu {p:Gy} {x q:θ} {body:List Ò} {sc:Ą} {kV doc pm cd ct:η} {an:Option φ} {us:List η} (h1:p.posonlyargs = []) (h2:p.kwonlyargs = []) (h3:p.vararg=none) (h4:p.kwarg=none) (nd:(p.args.map (·.arg)).Nodup) (hl:us.length=(p.args.map (·.arg)).length) :
 bindArgs (Ϻ x q p body sc .none kV doc pm an cd ct) ⟨us,[]⟩=pure ((p.args.map (·.arg)).zip us):=by
 have e1:=iW hl
 have e2:=gP nd hl
 obtain ⟨a1,a2,a3,a4,a5,a6,a7⟩:=p
 cases h1;cases h2;cases h3;cases h4
 refine Eq.trans (ZY (c:=((decide (us.length>(a2.map (·.arg)).length)) && true)=true) ?_) ?_
 ·rw [hl];simp
 refine Eq.trans (ZY ?_) ?_
 ·show ¬ (!((a2.map (·.arg)).take ((a2.map (·.arg)).length - (List.drop (0 - (a2.map (·.arg)).length) ([]:List η)).length) |>.filter fun n=>(((a2.map (·.arg)).zip us).lookup n).isNone).isEmpty)=true
  rw [HK,ÿ,FE,Ŀ,e1];exact fun h=>nomatch h
 have e3:∀ n:Nat,List.drop n ([]:List η) = []:=fun _=>HK
 show (forIn ((List.drop ((List.map EH a2).length - (List.drop (0 - (List.map EH a2).length) ([]:List η)).length) (List.map EH a2)).zip (List.drop (0 - (List.map EH a2).length) ([]:List η))) _ _ >>= _)=_
 rw [e3,Ĩ]
 show (pure ((List.map EH a2 ++ []).filterMap fun n=>(((List.map EH a2).zip us).lookup n).map (n,·)):E0 _)=_
 rw [Ω]
 exact ZS pure e2
theorem dH {α β:Type}:∀ {qs:List α} {us:List β} {x:α} {v:β},us.length=qs.length→(qs ++ [x]).zip (us ++ [v])=qs.zip us ++ [(x,v)]
 | [],[],_,_,_=>rfl
 | _ :: _,_ :: _,_,_,h=>by rw [Ė,Ė,Ó,dH (by simpa using h)];rfl
 | [],_ :: _,_,_,h=>by simp at h
 | _ :: _,[],_,_,h=>by simp at h
theorem lA {α β:Type}:∀ {qs:List α} {us:List β} {x:α},us.length=qs.length→(qs ++ [x]).zip us=qs.zip us
 | [],[],_,_=>rfl
 | _ :: _,_ :: _,_,h=>by rw [Ė,Ó,lA (by simpa using h)];rfl
 | [],_ :: _,_,h=>by simp at h
 | _ :: _,[],_,h=>by simp at h
theorem sL {qs:List θ} {us:List η} {x:θ} (h:x ∉ qs):((qs.zip us).lookup x)=none:=by
 induction qs generalizing us with
 | nil=>rfl
 | cons q r ih=>
   cases us with
   | nil=>rfl
   | cons u us=>
     rw [Ó,ĕ]
     have:(x == q)=false:=ZU.mpr fun e=>h (e ▸ ι)
     rw [this];exact ih fun m=>h (ν _ m)
theorem uQ {s:ς} {p:Gy} {x q:θ} {body:List Ò} {sc:Ą} {kV doc pm cd ct:η} {an:Option φ} {us:List η} {T:φ} {o:Gp} {b:Bool} {n:Nat} (h1:p.posonlyargs = []) (h2:p.kwonlyargs = []) (h3:p.vararg=none) (h4:p.kwarg=none) (nd:(p.args.map (·.arg)).Nodup) (ho:s.heap.get? T=some o) (hd:o.data = .seq #[.bool b] n) (hn:p.args≠[]) (ds:List η) (hds:ds = []∨ds = [.bool b]) (hl:(us ++ ds).length=(p.args.map (·.arg)).length) :
 Ib s (Ϻ x q p body sc (.ref T) kV doc pm an cd ct) ⟨us,[]⟩ ((p.args.map (·.arg)).zip (us ++ ds)):=by
 obtain ⟨a1,a2,a3,a4,a5,a6,a7⟩:=p
 cases h1;cases h2;cases h3;cases h4
 dsimp only at nd hl hn
 obtain ⟨qa,y,rfl⟩:∃ qa y,a2=qa ++ [y]:=⟨_,_,(Eb hn).symm⟩
 rw [ϗ] at nd hl
 have nd2:=List.nodup_append.mp nd
 have yq:y.arg ∉ qa.map (·.arg):=fun m=>nd2.2.2 _ m _ (by simp) rfl
 refine BindsTo.of_defaults (T:=T) (items:=#[.bool b]) (n:=n) (o:=o) rfl ho hd rfl ?_
 obtain ⟨Q,hQ⟩:∃ Q,List.map (fun x:Arg=>x.arg) qa=Q:=⟨_,rfl⟩
 rw [hQ] at hl yq
 have lq:(List.map (fun x:Arg=>x.arg) (qa ++ [y]))=Q ++ [y.arg]:=by rw [ϗ,hQ];rfl
 have hl:us.length+ds.length=Q.length+1:=by simpa using hl
 dsimp only
 rw [lq]
 have d1:ds.length≤1:=by rcases hds with rfl | rfl <;> simp
 obtain ⟨vs,r,lv,sl,tg⟩:∃ (vs:List η) (r:List (θ×η)),vs.length=Q.length∧(Q ++ [y.arg]).zip us=Q.zip vs ++ r∧((r = []∧(Q ++ [y.arg]).zip (us ++ ds)=Q.zip vs ++ [(y.arg,.bool b)])∨∃ v,r = [(y.arg,v)]∧(Q ++ [y.arg]).zip (us ++ ds)=Q.zip vs ++ [(y.arg,v)]):=by
  rcases hds with rfl | rfl
  ·have hne:us≠[]:=by rintro rfl;simp at hl
   obtain ⟨vs,v,rfl⟩:∃ vs v,us=vs ++ [v]:=⟨_,_,(Eb hne).symm⟩
   have lv:vs.length=Q.length:=by simpa using hl
   exact ⟨vs,[(y.arg,v)],lv,dH lv,.inr ⟨v,rfl,by rw [Ω];exact dH lv⟩⟩
  ·have lv:us.length=Q.length:=by simpa using hl
   exact ⟨us,[],lv,by rw [Ω];exact lA lv,.inl ⟨rfl,dH lv⟩⟩
 have tk:(Q ++ [y.arg]).take Q.length=Q:=by rw [List.take_append_of_le_length (Ϗ _),Ŀ]
 have dr:(Q ++ [y.arg]).drop Q.length = [y.arg]:=by rw [List.drop_append_of_le_length (Ϗ _),ń];rfl
 have full:∀ (z:List η) ,z.length=Q.length→∀ r,((Q.filter fun n=>((Q.zip z ++ r).lookup n).isNone)) = []:=fun z hz r=>by
  rw [Ð]
  intro n hn
  have e:=iW (ps:=Q) (us:=z) hz
  rw [Ð] at e
  have e:=e n hn
  cases q:(Q.zip z).lookup n with
  | none=>rw [q] at e;exact ZX rfl e
  | some v=>rw [Gq,q];simp
 have e0:List.drop (1 - (Q.length+1)) [ϡ b] = [ϡ b]:=by rw [show 1 - (Q.length+1)=0 by omega];rfl
 refine Eq.trans (ZY ?_) ?_
 ·simp;omega
 have em:((some #[ϡ b]).getD #[]).toList = [ϡ b]:=rfl
 have ln:(List.map (fun x:Arg=>x.arg) ([]:List Arg) ++ (Q ++ [y.arg]))=Q ++ [y.arg]:=rfl
 rw [em,ln,Δ,ϕ,ϕ,e0,ϕ,GJ,tk,dr,sl]
 refine Eq.trans (ZY ?_) ?_
 ·rw [full vs lv r];exact fun h=>nomatch h
 rw [Ó,Ĩ]
 have lk:∀ w:η,(Q ++ [y.arg]).filterMap (fun n=>((Q.zip vs ++ [(y.arg,w)]).lookup n).map (n,·))=Q.zip vs ++ [(y.arg,w)]:=fun w=>by
  have e:=gP (ps:=Q ++ [y.arg]) (us:=vs ++ [w]) (by rw [← hQ];exact nd) (by simp [lv])
  rwa [dH lv] at e
 have out:=sL (us:=vs) yq
 have fin:∀ w r,(if (FR y.arg (Q.zip vs ++ r)).isNone=true then pure (ϴ (Q.zip vs ++ r ++ [(y.arg,ϡ b)])) else pure (ϴ (Q.zip vs ++ r)):E0 (ForInStep (List (θ×η))))=pure (ϴ (Q.zip vs ++ [(y.arg,w)]))→(forIn [(y.arg,ϡ b)] (Q.zip vs ++ r) (fun x s=>if (FR x.fst s).isNone=true then pure (ϴ (s ++ [(x.fst,x.snd)])) else pure (ϴ s)):E0 _)=pure (Q.zip vs ++ [(y.arg,w)]):=fun w r h=>by
  show ((if (FR y.arg (Q.zip vs ++ r)).isNone=true then pure (ϴ (Q.zip vs ++ r ++ [(y.arg,ϡ b)])) else pure (ϴ (Q.zip vs ++ r)):E0 (ForInStep (List (θ×η)))) >>= _)=_
  rw [h];rfl
 rcases tg with ⟨rfl,e⟩ | ⟨v,rfl,e⟩
 ·rw [e,fin (.bool b) [] (by rw [Ω,out];rfl)]
  show (pure (Hs _ (Q ++ [y.arg] ++ [])):E0 _)=_
  rw [Ω];exact ZS pure (lk _)
 ·rw [e,fin v [(y.arg,v)] (by rw [Gq,out];simp)]
  show (pure (Hs _ (Q ++ [y.arg] ++ [])):E0 _)=_
  rw [Ω];exact ZS pure (lk _)
def fnC (st:Ò):Bool:=(aI st).posonlyargs.isEmpty && (aI st).kwonlyargs.isEmpty && (aI st).vararg.isNone && (aI st).kwarg.isNone && (match (ax st).kind with | .function=>true | _=>false) && !(ax st).isCoroutine && !(ax st).isGenerator && ((dfB st).isNone || !(aI st).args.isEmpty) &&
 decide ((l9 st).Nodup∧(l9 st).take (cj st).length=cj st∧(∀ x∈cj st,(ax st).names.lookup x=some .local∨(ax st).names.lookup x=some .cell)∧∀ y∈(ax st).names,y.2≠.free)
theorem yb {st:Ò} (h:fnC st=true):d6 (l9 st) (cj st) (ax st)∧(∀ {K:ο} {x q:θ} {f:φ} {fd:á},Fun K x q st f fd→bW K fd (cj st) [])∧∀ {K:ο} {x q:θ} {f:φ} {fd:á} (T:Ns),lD K x q st f fd→bW K fd (cj st) (dfU (dfT T st)):=by
 unfold fnC at h
 simp only [ω,decide_eq_true_eq,Bool.not_eq_true',List.isEmpty_iff,Eu] at h
 obtain ⟨⟨⟨⟨⟨⟨⟨⟨h1,h2⟩,h3⟩,h4⟩,h5⟩,h6⟩,h7⟩,hna⟩,h8,h9,h10,h11⟩:=h
 have nd:(cj st).Nodup:=h9 ▸ h8.sublist (GK _ _)
 refine ⟨⟨(by split at h5 <;> first | assumption | cases h5),h6,h7,h8,h9,h10,h11⟩,fun F=>F.binds fun _ _ _ _ _ _ us hl=>gu h1 h2 h3 h4 nd hl,fun T F=>?_⟩
 obtain ⟨oc,od,dV,kV,doc,pm,an,cdv,ct,osl,rfl,lk,hcd,dv⟩:=F.ex
 unfold dfT
 cases q:dfB st with
 | none=>
   rw [q] at dv
   cases (show dV = .none from dv)
   rw [show (if T.mu.contains "#d" = true then (none:Option Bool) else none)=none by split <;> rfl]
   exact .all fun us hl=>gu h1 h2 h3 h4 nd hl
 | some b=>
   rw [q] at dv
   obtain ⟨t,o,n,rfl,d1,d2⟩:=dv
   have na:(aI st).args≠[]:=fun e=>by rw [q,e] at hna;exact nomatch hna
   intro s us hK hl
   exact uQ h1 h2 h3 h4 nd (hK _ _ d1) d2 na _ (by split <;> first | exact .inl rfl | exact .inr rfl) hl
def cT (T:Ns) (st:Ò):Fn:=(fG T st).getD ⟨0,0,.skip,[]⟩
def FsL (K:ο):List (θ×θ×Ò)→List φ→Prop
 | [],[]=>True
 | p :: r,f :: fs=>(∃ fd,lD K p.1 p.2.1 p.2.2 f fd)∧FsL K r fs
 | _,_=>False
theorem FsL.app {K:ο}:∀ {l l' fs fs'},FsL K l fs→FsL K l' fs'→FsL K (l ++ l') (fs ++ fs')
 | [],_,[],_,_,h=>h
 | _ :: _,_,_ :: _,_,h,t=>⟨h.1,FsL.app h.2 t⟩
 | [],_,_ :: _,_,h,_=>h.elim
 | _ :: _,_,[],_,h,_=>h.elim
theorem FsL.len {K:ο}:∀ {l fs},FsL K l fs→fs.length=l.length
 | [],[],_=>rfl
 | _ :: _,_ :: _,h=>ZS (· + 1) h.2.len
 | [],_ :: _,h=>h.elim
 | _ :: _,[],h=>h.elim
theorem FsL.at {K:ο}:∀ {l fs} {j:Nat} {f:φ},FsL K l fs→fs[j]? = some f→∃ p fd,l[j]? = some p∧lD K p.1 p.2.1 p.2.2 f fd
 | [],[],j,f,_,e=>by simp at e
 | p :: l,g :: fs,0,f,h,e=>by simp at e;subst e;obtain ⟨fd,F⟩:=h.1;exact ⟨p,fd,rfl,F⟩
 | p :: l,g :: fs,j+1,f,h,e=>FsL.at (j:=j) h.2 (by simpa using e)
 | [],_ :: _,_,_,h,_=>h.elim
 | _ :: _,[],_,_,h,_=>h.elim
theorem A8 {T:Ns} {ad:List φ} {K:ο} {Γ:Gm} {l:List (θ×θ×Ò)} (hΓ:Γ.fn=l.map fun p=>cT T p.2.2) (hc:(l.all fun p=>fnC p.2.2 && (fG T p.2.2).isSome)=true) (h:FsL K l ad) {j:Nat} {f:φ} (e:ad[j]? = some f):FnF T K Γ j f:=by
 obtain ⟨p,fd,e1,F⟩:=h.at e
 have c:=Λ.mp hc p (Ρ e1)
 rw [ω] at c
 obtain ⟨S,_,B⟩:=yb c.1
 refine ⟨_,_,_,fd,cT T p.2.2,T.mu,T.alt,T.fc,T.oc,F,B _ F,S,by rw [hΓ,ϒ,e1];rfl,?_⟩
 show fG T p.2.2=_
 cases q:fG T p.2.2 with
 | none=>rw [q] at c;exact nomatch c.2
 | some g=>unfold cT;rw [q];rfl
theorem _root_.L2.Fun.d {K:ο} {x q:θ} {st:Ò} {f:φ} {fd:á} (F:Fun K x q st f fd) (h:dfB st=none):lD K x q st f fd:=by
 obtain ⟨oc,od,kV,doc,pm,an,cdv,ct,osl,e,lk,hcd⟩:=F.ex
 exact ⟨⟨oc,od,.none,kV,doc,pm,an,cdv,ct,osl,e,lk,hcd,by rw [h];rfl⟩,F.kp⟩
def gk (K:ο):List (θ×Ò)→Prop
 | []=>True
 | p :: r=>(∃ f fd,lD K p.1 p.1 p.2 f fd∧Ψ K ϊ p.1=some (some (.ref f)))∧gk K r
theorem hl_cons {K:ο} {x:θ} {st:Ò} {f:φ} {od an:Option φ} {sl:Array (Option η)} {oc kV dc pm cd ct:η} (a:Ψ K ϊ x=some (some (.ref f)))
 (l:K.lookup f=some ⟨oc,od,.func (Ϻ x x (aI st) (bL st) (ax st) .none kV dc pm an cd ct),sl⟩) (c:Ü K cd x=true) (k:Ϝ K (.ref f)=true) (d:dfB st=none) (t:gk K r):gk K ((x,st) :: r):=⟨⟨f,_,(lS l c k).d d,a⟩,t⟩
def xz (mg:θ→Option η):List θ→List φ→Prop
 | [],_=>True
 | x :: xs,f :: fs=>mg x=some (.ref f)∧xz mg xs fs
 | _ :: _,[]=>False
theorem gk.ad {K:ο} {h:ϻ} {mg:θ→Option η} (Y:K.In h) (G:h.Ns ϊ mg):∀ {l},gk K l→∃ ad,FsL K (l.map fun p=>(p.1,p.1,p.2)) ad∧xz mg (l.map (·.1)) ad
 | [],_=>⟨[],trivial,trivial⟩
 | _ :: _,⟨⟨f,fd,F,n⟩,t⟩=>let ⟨ad,h1,h2⟩:=gk.ad Y G t;⟨f :: ad,⟨⟨fd,F⟩,h1⟩,ϫ Y G n,h2⟩
theorem bS {ad ms:List φ} (h:ad.length=n):(ad ++ ms)[n+k]? = ms[k]?:=by rw [ϋ (by omega)];congr 1;omega
theorem qT :∀ {xs} {fs} {j:Nat} {x:θ},xz mg xs fs→xs[j]? = some x→∃ f,fs[j]? = some f∧mg x=some (.ref f)
 | [],_,_,_,_,e=>by simp at e
 | y :: xs,f :: fs,0,x,h,e=>by simp at e;subst e;exact ⟨f,rfl,h.1⟩
 | y :: xs,f :: fs,j+1,x,h,e=>by
   obtain ⟨g,h1,h2⟩:=qT (j:=j) h.2 (by simpa using e)
   exact ⟨g,by simpa using h1,h2⟩
 | _ :: _,[],_,_,h,_=>h.elim
def gc {α:Type} (P:Nat→α→Prop):Nat→List α→Prop
 | _,[]=>True
 | j,x :: r=>P j x∧gc P (j+1) r
theorem wN :∀ {l:List α} {j i} {x:α},gc P j l→l[i]? = some x→P (j+i) x
 | [],_,i,_,_,e=>by simp at e
 | g :: r,j,0,f,h,e=>by simp at e;subst e;exact h.1
 | g :: r,j,i+1,f,h,e=>by
   have:=wN (i:=i) h.2 (by simpa using e)
   rw [show j+(i+1)=j+1+i by omega];exact this
theorem fE (h:gc P 0 l) (e:l[i]? = some x):P i x:=by
 have:=wN h e
 rwa [FD] at this
def d8 (K:ο) (C:φ) (m qn:θ) (st:Ò) (f:φ):Prop:=(∃ fd,Fun K m qn st f fd)∧Ag K C m f
theorem BR {K:ο} {C f:φ} {m qn:θ} {st:Ò} {od an:Option φ} {sl:Array (Option η)} {oc kV dc pm cd ct:η} (at_:Υ K (.ref C) m=some (some (.ref f))) (l:K.lookup f=some ⟨oc,od,.func (Ϻ m qn (aI st) (bL st) (ax st) .none kV dc pm an cd ct),sl⟩) (fn:Ĝ K (.ref f)=true) (c:Ü K cd qn=true) (k:Ϝ K (.ref f)=true):d8 K C m qn st f:=⟨⟨_,lS l c k⟩,at_,fn,k⟩
theorem me_cons {R:Prop} {K:ο} {C f:φ} {m qn:θ} {st:Ò} {od an:Option φ} {sl:Array (Option η)} {oc kV dc pm cd ct:η} (a:Υ K (.ref C) m=some (some (.ref f))) (b:K.lookup f=some ⟨oc,od,.func (Ϻ m qn (aI st) (bL st) (ax st) .none kV dc pm an cd ct),sl⟩) (c:Ĝ K (.ref f)=true) (d:Ü K cd qn=true) (e:Ϝ K (.ref f)=true) (t:R):(∃ f,d8 K C m qn st f)∧R:=⟨⟨f,BR a b c d e⟩,t⟩
structure Ae (K:ο) (x:θ) (C:φ):Prop where
 a:Ψ K ϊ x=some (some (.ref C))
 cls:Cls K C
 mks:ľ K C=true
 kp:Ϝ K (.ref C)=true
theorem cc_mk {K:ο} (a:Ψ K ϊ x=some (some (.ref C))) (pg:ď K C Hf=true) (hd:ϭ K C=true) (po:ű K C=true) (sa:Υ K (.ref C) "__setattr__" = some (some (.builtin "object.__setattr__"))) (mk:ľ K C=true) (kp:Ϝ K (.ref C)=true):Ae K x C:=⟨a,⟨pg,hd,po,sa⟩,mk,kp⟩
structure pI (K:ο) (x qn:θ) (st:Ò) (bmB:List η) (nw:String) (C fI:φ):Prop where
 a:Ψ K ϊ x=some (some (.ref C))
 own:im K C fI bmB nw
 ini:∃ fd,Fun K "__init__" qn st fI fd
 st:gj K C
 fd:bX K C
 hh:ϭ K C=true
 ec:jX K C
 kp:Ϝ K (.ref C)=true
 me:ϖ K C (.ref C)=some true
theorem xc_mk {K:ο} {x qn:θ} {st:Ò} {bmB:List η} {nw:String} {C fI:φ} {nm q:θ} {N:φ} {bs bm:List η} {hdct:Bool} {sn:List θ} {sub:List η} {ab:Bool} {col:Option Bool} {dd:Option φ} {k0 k1 k2 k3 k5:Option η} {od an:Option φ} {sl:Array (Option η)} {oc kV dc pm cd ct:η}
 (a:Ψ K ϊ x=some (some (.ref C))) (l:K.lookup C=some (EW nm q C N bs bm hdct sn sub ab col dd k0 k1 k2 k3 k5 nw)) (t:E4 K bmB bm=true) (ini:Υ K (.ref C) "__init__" = some (some (.ref fI))) (fl:K.lookup fI=some ⟨oc,od,.func (Ϻ "__init__" qn (aI st) (bL st) (ax st) .none kV dc pm an cd ct),sl⟩) (fn:Ĝ K (.ref fI)=true) (fc:Ü K cd qn=true) (fk:Ϝ K (.ref fI)=true)
 (ga:Υ K (.ref C) "__getattribute__" = some (some (.builtin "BaseException.__getattribute__"))) (gn:Υ K (.ref C) "__getattr__" = some none) (cl:Υ K (.ref C) "__class__" = some (some (.builtin "object.__class__"))) (sg:Ħ K (.builtin "object.__class__") "__get__" = some (some (.builtin "getset_descriptor.__get__"))) (tk:DO K (.builtin "object.__class__")=some true) (ob:ϖ K C (.type "object")=some true) (be:ϖ K C (.type "BaseException")=some true)
 (is:(ĭ K C).isSome=true) (kp:Ϝ K (.ref C)=true) (tyC:î K (.ref C)=some (.type "type")) (sa:Υ K (.ref C) "__setattr__" = some (some (.builtin "object.__setattr__"))) (ov:((ĭ K C).any fun cd=>gZ veB cd.mro || gZ exB cd.mro)=true) (hdc:((ĭ K C).any fun cd=>cd.hasDict)=true) (hh:ϭ K C=true) (me:ϖ K C (.ref C)=some true):pI K x qn st bmB nw C fI:=
 ⟨a,⟨⟨nm,q,N,bs,bm,hdct,sn,sub,ab,col,dd,k0,k1,k2,k3,k5,l,t⟩,ini,fn⟩,⟨_,lS fl fc fk⟩,⟨sa,ov,hdc,ob⟩,⟨ga,gn,cl,sg,tk,ob,be,is⟩,hh,⟨tyC,is,be⟩,kp,me⟩
structure qS (K:ο) (x:θ) (C:φ):Prop where
 a:Ψ K ϊ x=some (some (.ref C))
 fd:bX K C
 hh:ϭ K C=true
 ec:jX K C
theorem xb_mk {K:ο} {x:θ} {C:φ} (a:Ψ K ϊ x=some (some (.ref C))) (ga:Υ K (.ref C) "__getattribute__" = some (some (.builtin "BaseException.__getattribute__"))) (gn:Υ K (.ref C) "__getattr__" = some none) (cl:Υ K (.ref C) "__class__" = some (some (.builtin "object.__class__"))) (sg:Ħ K (.builtin "object.__class__") "__get__" = some (some (.builtin "getset_descriptor.__get__"))) (tk:DO K (.builtin "object.__class__")=some true) (ob:ϖ K C (.type "object")=some true) (be:ϖ K C (.type "BaseException")=some true)
 (is:(ĭ K C).isSome=true) (tyC:î K (.ref C)=some (.type "type")) (hh:ϭ K C=true):qS K x C:=⟨a,⟨ga,gn,cl,sg,tk,ob,be,is⟩,hh,⟨tyC,is,be⟩⟩
def GlL (K:ο):List (θ×L2.Bk.Dk)→Prop
 | []=>True
 | p :: r=>(∃ u,Ψ K ϊ p.1=some (some u)∧aV K p.2 u=true)∧GlL K r
theorem gl_cons {K:ο} (a:Ψ K ϊ x=some (some u)) (b:aV K d u=true) (t:GlL K r):GlL K ((x,d) :: r):=⟨⟨u,a,b⟩,t⟩
theorem GlL.at {K:ο}:∀ {l} {j:Nat} {x:θ},GlL K l→(l.map (·.1))[j]? = some x→∃ d u,(l.map (·.2))[j]? = some d∧Ψ K ϊ x=some (some u)∧aV K d u=true
 | [],_,_,_,e=>by simp at e
 | p :: _,0,_,⟨⟨u,h⟩,_⟩,e=>by simp at e;subst e;exact ⟨_,u,rfl,h⟩
 | _ :: _,j+1,_,h,e=>GlL.at (j:=j) h.2 (by simpa using e)
def lI (K:ο):List (θ×List (θ×L2.Bk.Dk))→Prop
 | []=>True
 | p :: r=>(∃ a,Ψ K ϊ p.1=some (some (.ref a))∧Ec (aV K) (fun b=>K.lookup b) a p.2=true)∧lI K r
theorem tb_cons {K:ο} {u:φ} {d:List (θ×L2.Bk.Dk)} (a:Ψ K ϊ x=some (some (.ref u))) (b:Ec (aV K) (fun b=>K.lookup b) u d=true) (t:lI K r):lI K ((x,d) :: r):=⟨⟨u,a,b⟩,t⟩
theorem lI.at {K:ο}:∀ {l} {j:Nat} {x:θ},lI K l→(l.map (·.1))[j]? = some x→∃ t a,(l.map (·.2))[j]? = some t∧Ψ K ϊ x=some (some (.ref a))∧Ec (aV K) (fun b=>K.lookup b) a t=true
 | [],_,_,_,e=>by simp at e
 | p :: _,0,_,⟨⟨u,h⟩,_⟩,e=>by simp at e;subst e;exact ⟨_,u,rfl,h⟩
 | _ :: _,j+1,_,h,e=>lI.at (j:=j) h.2 (by simpa using e)
def NoL (K:ο):List θ→Prop
 | []=>True
 | x :: r=>Ψ K ϊ x=some none∧NoL K r
theorem nl_cons {K:ο} (a:Ψ K ϊ x=some none) (t:NoL K r):NoL K (x :: r):=⟨a,t⟩
theorem NoL.at {K:ο}:∀ {l},NoL K l→∀ x∈l,Ψ K ϊ x=some none
 | _ :: _,h,_,m=>(υ.mp m).elim (fun e=>e ▸ h.1) (h.2.at _)
def NaL (K:ο) (C:φ):List θ→Prop
 | []=>True
 | x :: r=>Υ K (.ref C) x=some none∧NaL K C r
theorem NaL.at {K:ο}:∀ {l},NaL K C l→∀ x∈l,Υ K (.ref C) x=some none
 | _ :: _,h,_,m=>(υ.mp m).elim (fun e=>e ▸ h.1) (h.2.at _)
def MrL (K:ο):List (θ×θ×Bool)→Prop
 | []=>True
 | p :: r=>(∃ C D:φ,Ψ K ϊ p.1=some (some (.ref C))∧Ψ K ϊ p.2.1=some (some (.ref D))∧ϖ K C (.ref D)=some p.2.2)∧MrL K r
theorem mr_cons {K:ο} {C D:φ} {m n:θ} {o:Bool} (a:Ψ K ϊ m=some (some (.ref C))) (b:Ψ K ϊ n=some (some (.ref D))) (c:ϖ K C (.ref D)=some o) (t:MrL K r):MrL K ((m,n,o) :: r):=⟨⟨C,D,a,b,c⟩,t⟩
def VxL (K:ο):List (θ×Bool)→Prop
 | []=>True
 | p :: r=>(∃ C:φ,Ψ K ϊ p.1=some (some (.ref C))∧ϖ K C (.type "ValueError")=some p.2)∧VxL K r
theorem vx_cons {K:ο} {C:φ} {m:θ} {o:Bool} (a:Ψ K ϊ m=some (some (.ref C))) (b:ϖ K C (.type "ValueError")=some o) (tv:VxL K r):VxL K ((m,o) :: r):=⟨⟨C,a,b⟩,tv⟩
theorem VxL.at {K:ο} {C:φ} {m:θ} {o:Bool}:∀ {l},VxL K l→(m,o)∈l→Ψ K ϊ m=some (some (.ref C))→ϖ K C (.type "ValueError")=some o
 | p :: r,⟨⟨C',a,b⟩,t⟩,h,e=>by
   rcases υ.mp h with q | q
   ·subst q
    rw [a] at e;cases e;exact b
   ·exact VxL.at t q e
theorem MrL.at {K:ο} {C D:φ} {m n:θ} {o:Bool}:∀ {l},MrL K l→(m,n,o)∈l→Ψ K ϊ m=some (some (.ref C))→Ψ K ϊ n=some (some (.ref D))→ϖ K C (.ref D)=some o
 | p :: r,⟨⟨C',D',a,b,c⟩,t⟩,h,e1,e2=>by
   rcases υ.mp h with q | q
   ·subst q
    rw [e1] at a;cases a
    rw [e2] at b;cases b
    exact c
   ·exact MrL.at t q e1 e2
theorem gV {x:θ} {l:List θ} (h:decide (x ∉ l)=true):x ∉ l:=of_decide_eq_true h
theorem iA {l:List θ} (h:decide l.Nodup=true):l.Nodup:=of_decide_eq_true h
theorem ab0 {α:Type} {x:α} {p:Prop} (z:x≠x):p:=ZX rfl z
section
variable {K:ο} {wh:List Nat} {cn:List θ} {cs:List Cl} {ci:List CI}
def mrB (cs:List Cl) (wh:List Nat) (cn:List θ) (l:List (θ×θ×Bool)) (n:θ) (j:Nat):Bool:=(õ cs.length).all fun c=>match cs[c]?,wh[c]?,cn[c]? with
 | some k,some 2,some m=>decide ((m,n,c == j || k.sup.contains j)∈l)
 | _,_,_=>true
theorem cP {l:List (θ×θ×Bool)} {n:θ} {j:Nat} {B:φ} (T:MrL K l) (hN:∀ (c:Nat) (ic:CI),ci[c]? = some ic→wh[c]? = some 2→∃ m,cn[c]? = some m∧Ψ K ϊ m=some (some (.ref ic.ad))) (hb:Ψ K ϊ n=some (some (.ref B))) (h:mrB cs wh cn l n j=true) (c:Nat) (k:Cl) (ic:CI) (h1:cs[c]? = some k) (h2:ci[c]? = some ic) (h3:wh[c]? = some 2):ϖ K ic.ad (.ref B)=some (c == j || k.sup.contains j):=by
 obtain ⟨m,hm,ha⟩:=hN c ic h2 h3
 have q:=Λ.mp h c (Ċ.mpr (κ.mp h1).1)
 rw [h1,h3,hm] at q
 exact T.at (of_decide_eq_true q) ha hb
def vxB (cs:List Cl) (wh:List Nat) (cn:List θ) (l:List (θ×Bool)):Bool:=(õ cs.length).all fun c=>match cs[c]?,wh[c]?,cn[c]? with
 | some k,some 2,some m=>decide ((m,k.sup.contains 1000)∈l)
 | _,_,_=>true
theorem zY {l:List (θ×Bool)} (T:VxL K l) (hN:∀ (c:Nat) (ic:CI),ci[c]? = some ic→wh[c]? = some 2→∃ m,cn[c]? = some m∧Ψ K ϊ m=some (some (.ref ic.ad))) (h:vxB cs wh cn l=true) (c:Nat) (k:Cl) (ic:CI) (h1:cs[c]? = some k) (h2:ci[c]? = some ic) (h3:wh[c]? = some 2):ϖ K ic.ad (.type "ValueError")=some (k.sup.contains 1000):=by
 obtain ⟨m,hm,ha⟩:=hN c ic h2 h3
 have q:=Λ.mp h c (Ċ.mpr (κ.mp h1).1)
 rw [h1,h3,hm] at q
 exact T.at (of_decide_eq_true q) ha
end
def KOf {K:ο} {h:ϻ} (_:K.In h):ο:=K
theorem Dj {Γ:Gm} {cal cal1:Nat→List D→List O→Res}:ev Γ cal cal1 br (.v i) s=(match s.env[i]? with | some (some d)=>.ok d (if br then s else un s i) | _=>.bad):=rfl
inductive IT where
 | fin (o:am)
 | call (j:Nat) (ds:List D) (st:List O) (k:Res→IT)
 | call1 (j:Nat) (ds:List D) (st:List O) (k:Res→IT)
 | test (b:Bool) (k:Bool→IT)
 | opt (o:Option D) (k:D→IT)
 | sub (o:Out D) (k:D→Sta→IT) (kx:Nat→List D→Sta→IT)
 | subS (o:am) (k:am→IT)
def IT.bad:IT:=.fin .bad
def lcT (g:D→Sta→(Option D→Sta→IT)→IT):List D→List D→Sta→(D→Sta→IT)→IT
 | [],acc,s,k=>k (.lst acc) s
 | d :: r,acc,s,k=>g d s fun o s'=>match o with
   | some e=>.test (decide (acc.length<100000)) fun t=>if t then lcT g r (acc ++ [e]) s' k else .bad
   | none=>lcT g r acc s' k
def yc (g:D→Sta→(Sta→IT)→IT):List D→Sta→(Sta→IT)→IT
 | [],s,k=>k s
 | d :: r,s,k=>g d s fun s=>yc g r s k
def rW (st:List O) (p c:Nat):Bool:=match st[p]? with | some (.ins c' _)=>c' == c | _=>false
def yf (x y:D) (z:D):Option D:=match x,bE y with | .dic ks ds,some k=>some ((dG ks ds k).getD z) | _,_=>none
def pJ (es:E) (s:Sta) (d:D) (st:List O) (k:D→Sta→IT):IT:=if s.ow.any fun i=>(bH es).contains i then .test (noL d && st.all mB) fun t=>k d ⟨s.env,s.ow.filter fun i=>!(bH es).contains i || (isLst s.env[i]? && t),st⟩ else k d (aft es s d st)
section
variable (Γ:Gm) (cal cal1:Nat→List D→List O→Res) (lp:Bool)
mutual
noncomputable def evT (br:Bool):E→Sta→(D→Sta→IT)→(Nat→List D→Sta→IT)→IT
 | .v i,s,k,kx=>(match s.env[i]? with | some (some d)=>k d (if br then s else un s i) | _=>.bad)
 | .c d,s,k,kx=>k d s
 | .g j,s,k,kx=>(match Γ.gl[j]?.map toD with | some d=>k d s | none=>.bad)
 | .op o a b,s,k,kx=>evT true a s (fun x s=>evT true b s (fun y s=>.opt (opD o (look s.st x) (look s.st y)) fun d=>k d s) kx) kx
 | .isN a,s,k,kx=>evT true a s (fun x s=>k (.bl (kt x)) s) kx
 | .isNN a,s,k,kx=>evT true a s (fun x s=>k (.bl (!kt x)) s) kx
 | .neg a,s,k,kx=>evT true a s (fun x s=>match x with | .int i=>k (.int (-i)) s | _=>.bad) kx
 | .not a,s,k,kx=>evT true a s (fun x s=>match x with | .bl b=>k (.bl (!b)) s | _=>.bad) kx
 | .and a b,s,k,kx=>evT false a s (fun x s=>match x with | .bl t=>.test t fun t=>if t then evT false b s k kx else k (.bl false) s | _=>.bad) kx
 | .or a b,s,k,kx=>evT false a s (fun x s=>match x with | .bl t=>.test t fun t=>if t then k (.bl true) s else evT false b s k kx | _=>.bad) kx
 | .ite c a b,s,k,kx=>evT true c s (fun x s=>match x with | .bl t=>.test t fun t=>if t then evT false a s k kx else evT false b s k kx | _=>.bad) kx
 | .chain o p a b c,s,k,kx=>evT true a s (fun x s=>evT true b s (fun y s=>.opt (opD o (look s.st x) (look s.st y)) fun d=>match d with
   | .bl t=>.test t fun t=>if t then evT true c s (fun z s=>.opt (opD p (look s.st y) (look s.st z)) fun d=>k d s) kx else k (.bl false) s
   | _=>.bad) kx) kx
 | .ix a b,s,k,kx=>evT true a s (fun x s=>evT true b s (fun y s=>.opt (ixD (look s.st x) y) fun d=>k d s) kx) kx
 | .sl a lo hi,s,k,kx=>evT true a s (fun x s=>
  let k3:=fun l s=>(if bB hi then .opt (slO (look s.st x) l none) fun d=>k d s else evT true hi s (fun z s=>match z with | .int h=>.opt (slO (look s.st x) l (some h)) fun d=>k d s | _=>.bad) kx)
  if bB lo then k3 none s else evT true lo s (fun z s=>match z with | .int l=>k3 (some l) s | _=>.bad) kx) kx
 | .sl3 a lo hi,s,k,kx=>evT true a s (fun x s=>
  let k3:=fun l s=>(if bB hi then .opt (qO (look s.st x) l none) fun d=>k d s else evT true hi s (fun z s=>match z with | .int h=>.opt (qO (look s.st x) l (some h)) fun d=>k d s | _=>.bad) kx)
  if bB lo then k3 none s else evT true lo s (fun z s=>match z with | .int l=>k3 (some l) s | _=>.bad) kx) kx
 | .tget j e d,s,k,kx=>evT true e s (fun x s=>evT false d s (fun z s=>match Γ.tb[j]?,x with | some t,.str y=>k (((ϱ y t).map toD).getD z) s | _,_=>.bad) kx) kx
 | .newd j es,s,k,kx=>du false es s (fun l s=>.opt ((Γ.cl[j]?).bind fun k=>if k.what=1∧l.length=k.at_.length then some (D.ins j l) else none) fun d=>k d s) kx
 | .fld a f,s,k,kx=>evT true a s (fun x s=>.opt (lR Γ s.st x f) fun d=>k d s) kx
 | .tup es,s,k,kx=>du false es s (fun l s=>if l.length≤100000 then k (.tup l) s else .bad) kx
 | .lst es,s,k,kx=>du false es s (fun l s=>if l.length≤100000 then k (.lst l) s else .bad) kx
 | .newl es,s,k,kx=>du false es s (fun l s=>if l.length≤100000 then k (.ref s.st.length) ⟨s.env,s.ow,s.st ++ [.lst l]⟩ else .bad) kx
 | .keep kp a,s,k,kx=>evT false a (hid (kp.filter s.ow.contains) s) (fun d s'=>k d ⟨s.env,s'.ow ++ kp.filter s.ow.contains,s'.st⟩) (fun _ _ _=>.bad)
 | .sto a,s,k,kx=>evT false a s (fun x s=>match x with | .lst l=>k (.ref s.st.length) ⟨s.env,s.ow,s.st ++ [.lst l]⟩ | _=>.bad) kx
 | .call j es,s,k,kx=>du true es s (fun l s=>.call j l s.st fun r=>match r with | .ok d st=>pJ es s d st k | .exc c l st=>kx c l (drp es s st) | .bad=>.bad) kx
 | .hcall j es,s,k,kx=>du false es s (fun l s=>.test (ba l) fun t=>if t then .call j l [] fun r=>(match r with
  | .ok d st=>.test (noR d) fun t=>if t then k d s else k (shD s.st.length d) ⟨s.env,s.ow,s.st ++ st.map (shO s.st.length)⟩
  | .exc c l _=>.test (ba l) fun t=>if t then kx c l s else .bad
  | .bad=>.bad) else .bad) kx
 | .fcall own j es,s,k,kx=>du false es s (fun l s=>.test (ba l) fun t=>if t then .call j l [] fun r=>(match r with
  | .ok d st=>.test (own && !nP d) fun t=>if t then .bad else .opt (A6 st d) fun d=>k d s
  | .exc c l _=>.test (ba l) fun t=>if t then kx c l s else .bad
  | .bad=>.bad) else .bad) kx
 | .mth c j a es,s,k,kx=>evT true a s (fun x s=>match x with
   | .ref p=>.test (rW s.st p c) fun t=>if t then du true es s (fun l s=>.call j (.ref p :: l) s.st fun r=>match r with | .ok d st=>pJ es s d st k | .exc c l st=>kx c l (drp es s st) | .bad=>.bad) kx else .bad
   | _=>.bad) kx
 | .bi b es,s,k,kx=>du true es s (fun l s=>.opt (biD b (l.map (look s.st))) fun d=>k d s) kx
 | .tab j e,s,k,kx=>evT true e s (fun x s=>match Γ.tb[j]?,x with | some t,.str y=>.opt ((ϱ y t).map toD) fun d=>k d s | _,_=>.bad) kx
 | .tabin j e,s,k,kx=>evT true e s (fun x s=>match Γ.tb[j]?,x with | some t,.str y=>k (.bl (ϱ y t).isSome) s | _,_=>.bad) kx
 | .lc t one it elt cond,s,k,kx=>evT false it s (fun x s=>match x with
   | .lst ds=>if lp then .sub ((bw (fun d s'=>(match aN t one d s'.env with
    | some env=>(ev Γ cal cal1 true cond ⟨env,[],s'.st⟩).bind fun b s2=>(match b with
      | .bl true=>(ev Γ cal cal1 false elt s2).bind fun e s3=>.ok (some e) ⟨s3.env,[],s3.st⟩
      | .bl false=>.ok none ⟨s2.env,[],s2.st⟩
      | _=>.bad)
    | none=>.bad)) ds [] ⟨ξ t.length none ++ s.env,[],s.st⟩)) (fun d s'=>k d ⟨s.env,[],s'.st⟩) (fun c l s'=>kx c l ⟨s.env,[],s'.st⟩)
     else lcT (fun d s' k'=>match aN t one d s'.env with
      | some env=>evT true cond ⟨env,[],s'.st⟩ (fun b s2=>match b with
        | .bl t=>.test t fun t=>if t then evT false elt s2 (fun e s3=>k' (some e) ⟨s3.env,[],s3.st⟩) (fun c l s'=>kx c l ⟨s.env,[],s'.st⟩) else k' none ⟨s2.env,[],s2.st⟩
        | _=>.bad) (fun c l s'=>kx c l ⟨s.env,[],s'.st⟩)
      | none=>.bad) ds [] ⟨ξ t.length none ++ s.env,[],s.st⟩ (fun d s'=>k d ⟨s.env,[],s'.st⟩)
   | _=>.bad) kx
 | .tand a b,s,k,kx=>evT true a s (fun x s=>match x with | .bl t=>.test t fun t=>if t then evT true b s k kx else k (.bl false) s | _=>.bad) kx
 | .tor a b,s,k,kx=>evT true a s (fun x s=>match x with | .bl t=>.test t fun t=>if t then k (.bl true) s else evT true b s k kx | _=>.bad) kx
 | .tnot a,s,k,kx=>evT true a s (fun x s=>match x with | .bl b=>k (.bl (!b)) s | _=>.bad) kx
 | .tv a,s,k,kx=>evT true a s (fun x s=>.opt ((wI (look s.st x)).map .bl) fun d=>k d s) kx
 | .it b es,s,k,kx=>du false es s (fun l s=>.opt ((itD b l).map .lst) fun d=>k d s) kx
 | .itv a,s,k,kx=>evT false a s (fun x s=>match ly x with | some l=>k (.lst l) s | none=>.bad) kx
 | .dic es,s,k,kx=>du false es s (fun l s=>.opt ((rm l).map fun p=>.dic p.1 p.2) fun d=>k d s) kx
 | .get a b c,s,k,kx=>evT true a s (fun x s=>.test (isDic (look s.st x)) fun t=>if t then evT true b s (fun y s=>evT false c s (fun z s=>.opt (yf (look s.st x) y z) fun d=>k d s) kx) kx else .bad) kx
 | .index a b,s,k,kx=>evT true a s (fun x s=>.test (vg x) fun t=>if t then evT true b s (fun y s=>.opt (Bl x y) fun d=>k d s) kx else .bad) kx
 | .join x a,s,k,kx=>evT true a s (fun y s=>.opt (rZ x (look s.st y)) fun d=>k d s) kx
 | .fmt x a y,s,k,kx=>evT true a s (fun v s=>.opt (A1 x v y) fun d=>k d s) kx
 | .dicc ks es,s,k,kx=>du false es s (fun l s=>.opt (ng ks l) fun d=>k d s) kx
 | .isXv a,s,k,kx=>evT true a s (fun x s=>.opt (xe Γ x) fun d=>k d s) kx
 | .snap i a,s,k,kx=>(match s.env[i]? with
   | some (some (.ref n))=>(match s.st[n]? with
     | some (.lst l)=>.test (ba l) fun t=>if t then evT false a ⟨(bg s.env).set i (some (.lst l)),[],[]⟩ (fun d _=>.test (flX (au a) d) fun t=>if t then k d ⟨s.env,[],s.st⟩ else .bad) (fun _ _ _=>.bad) else .bad
     | _=>.bad)
   | some (some _)=>evT false a s k kx
   | _=>.bad)
 | .sm q a,s,k,kx=>evT true a s (fun x s=>.opt (smO q x) fun d=>k d s) kx
 | .pop a,s,k,kx=>evT true a s (fun x s=>match x with
   | .ref n=>(match s.st[n]? with | some (.lst l)=>.opt l.getLast? fun d=>k d ⟨s.env,s.ow,s.st.set n (.lst l.dropLast)⟩ | _=>.bad)
   | _=>.bad) kx
 | .isX a js,s,k,kx=>evT true a s (fun x s=>.opt (Bp Γ x js) fun d=>k d s) kx
 | .new j es,s,k,kx=>du true es s (fun l s=>(match Γ.cl[j]? with
   | some q=>if q.what=1 then (if l.length=q.at_.length then k (.ins j l) (drp es s s.st) else .bad) else if q.what=0 then .call1 q.init (.ref s.st.length :: l) (s.st ++ [.ins j []]) fun r=>(match r with
    | .ok .non st=>k (.ref s.st.length) (aft es s .non st)
    | _=>.bad)
     else .bad
   | none=>.bad)) kx
 | _,_,_,_=>.bad
noncomputable def du (br:Bool):E→Sta→(List D→Sta→IT)→(Nat→List D→Sta→IT)→IT
 | .nil,s,k,kx=>k [] s
 | .cons a r,s,k,kx=>evT br a s (fun x s=>du br r s (fun l s=>k (x :: l) s) kx) kx
 | _,_,_,_=>.bad
end
def exT:S→Sta→(Sta→IT)→(D→Sta→IT)→(Nat→List D→Sta→IT)→IT
 | .skip,s,kn,kr,kx=>kn s
 | .seq a b,s,kn,kr,kx=>exT a s (fun s=>exT b s kn kr kx) kr kx
 | .set i e,s,kn,kr,kx=>evT Γ cal cal1 lp false e s (fun d s=>kn (hW s i d (au e))) kx
 | .setT l e,s,kn,kr,kx=>evT Γ cal cal1 lp false e s (fun d s=>match aN l false d s.env with | some env=>kn ⟨env,s.ow.filter fun i=>!l.contains i,s.st⟩ | none=>.bad) kx
 | .setR i es,s,kn,kr,kx=>du Γ cal cal1 lp false es s (fun l s=>if l.length≤100000 then kn ⟨s.env.set i (some (.ref s.st.length)),s.ow.filter (· != i),s.st ++ [.lst l]⟩ else .bad) kx
 | .ret e,s,kn,kr,kx=>evT Γ cal cal1 lp false e s kr kx
 | .ifs c a b,s,kn,kr,kx=>evT Γ cal cal1 lp true c s (fun x s=>match x with | .bl t=>.test t fun t=>if t then exT a s kn kr kx else exT b s kn kr kx | _=>.bad) kx
 | .drop e,s,kn,kr,kx=>evT Γ cal cal1 lp false e s (fun _ s=>kn s) kx
 | .app i e,s,kn,kr,kx=>if s.ow.contains i && isLst s.env[i]? then evT Γ cal cal1 lp false e s (fun d s=>if s.ow.contains i then (match s.env[i]? with
  | some (some (.lst l))=>.test (decide (l.length<100000)) fun t=>if t then kn ⟨s.env.set i (some (.lst (l ++ [d]))),s.ow,s.st⟩ else .bad
  | _=>.bad) else .bad) kx else .bad
 | .ext i e,s,kn,kr,kx=>if s.ow.contains i && isLst s.env[i]? then evT Γ cal cal1 lp false e s (fun d s=>if s.ow.contains i then (match s.env[i]?,d with
  | some (some (.lst l)),.lst x=>.test (decide (l.length+x.length≤100000)) fun t=>if t then kn ⟨s.env.set i (some (.lst (l ++ x))),s.ow,s.st⟩ else .bad
  | _,_=>.bad) else .bad) kx else .bad
 | .put (.v i) b e,s,kn,kr,kx=>evT Γ cal cal1 lp false e s (fun d s=>(match s.env[i]? with
  | some (some x)=>evT Γ cal cal1 lp true b s (fun y s=>(match x with
    | .ref n=>(match (s.st[n]?).bind fun o=>iB o y d with | some o=>kn ⟨s.env,s.ow,s.st.set n o⟩ | none=>.bad)
    | x=>if s.ow.contains i then .opt (kM x y d) fun y=>kn ⟨s.env.set i (some y),s.ow,s.st⟩ else .bad)) kx
  | _=>.bad)) kx
 | .fapp a f e,s,kn,kr,kx=>evT Γ cal cal1 lp true a s (fun x s=>.test (fS s.st x) fun t=>if t then evT Γ cal cal1 lp false e s (fun d s=>(match x with
  | .ref n=>(match s.st[n]? with | some (.lst l)=>.test (decide (l.length<100000)) fun t=>if t then kn ⟨s.env,s.ow,s.st.set n (.lst (l ++ [d]))⟩ else .bad | _=>.bad)
  | _=>.bad)) kx else .bad) kx
 | .fext a e,s,kn,kr,kx=>evT Γ cal cal1 lp true a s (fun x s=>.test (fS s.st x) fun t=>if t then evT Γ cal cal1 lp false e s (fun d s=>(match x with
  | .ref n=>(match s.st[n]?,d with | some (.lst l),.lst m=>.test (decide (l.length+m.length≤100000)) fun t=>if t then kn ⟨s.env,s.ow,s.st.set n (.lst (l ++ m))⟩ else .bad | _,_=>.bad)
  | _=>.bad)) kx else .bad) kx
 | .rais j es,s,kn,kr,kx=>du Γ cal cal1 lp false es s (fun l s=>.test (cY Γ j l) fun t=>if t then kx j (gC Γ j l) s else .bad) kx
 | .try_ a hs,s,kn,kr,kx=>exT a s kn kr (fun c l s'=>hndT hs c l s' kn kr kx)
 | .for_ t one it b,s,kn,kr,kx=>evT Γ cal cal1 lp false it s (fun x s=>(match x with
  | .lst ds=>if lp then .subS (bv (fun d s=>match aN t one d s.env with | some env=>exS Γ cal cal1 b ⟨env,s.ow.filter fun i=>!t.contains i,s.st⟩ | none=>.bad) ds s) (fun o=>match o with | .nx s=>kn s | .rt d s=>kr d s | .exc c l s=>kx c l s | .bad=>.bad)
    else yc (fun d s k=>match aN t one d s.env with | some env=>exT b ⟨env,s.ow.filter fun i=>!t.contains i,s.st⟩ k kr kx | none=>.bad) ds s kn
  | _=>.bad)) kx
 | c,s,kn,kr,kx=>.subS (exS Γ cal cal1 c s) (fun o=>match o with | .nx s=>kn s | .rt d s=>kr d s | .exc c l s=>kx c l s | .bad=>.bad)
where hndT:S→Nat→List D→Sta→(Sta→IT)→(D→Sta→IT)→(Nat→List D→Sta→IT)→IT
 | .hand j (some i) b r,c,l,s,kn,kr,kx=>(match cZ Γ j c with
  | some true=>exT b ⟨s.env.set i (some (.ins c l)),s.ow.filter (· != i),s.st⟩ (fun s=>kn ⟨s.env.set i none,s.ow.filter (· != i),s.st⟩) kr (fun _ _ _=>.bad)
  | some false=>hndT r c l s kn kr kx
  | none=>.bad)
 | .hand j none b r,c,l,s,kn,kr,kx=>(match cZ Γ j c with
  | some true=>exT b s kn kr (fun _ _ _=>.bad)
  | some false=>hndT r c l s kn kr kx
  | none=>.bad)
 | .skip,c,l,s,kn,kr,kx=>kx c l s
 | _,_,_,_,_,_,_=>.bad
def ae:IT→am
 | .fin o=>o
 | .call j ds st k=>ae (k (cal j ds st))
 | .call1 j ds st k=>ae (k (cal1 j ds st))
 | .test b k=>ae (k b)
 | .opt o k=>(match o with | some d=>ae (k d) | none=>.bad)
 | .sub o k kx=>(match o with | .ok d s=>ae (k d s) | .exc c l s=>ae (kx c l s) | .bad=>.bad)
 | .subS o k=>ae (k o)
end
def oc {α:Type} (x:Out α) (k:α→Sta→am) (kx:Nat→List D→Sta→am):am:=match x with
 | .ok a s=>k a s
 | .exc c l s=>kx c l s
 | .bad=>.bad
theorem bN :oc (x.bind f) k kx=oc x (fun a s=>oc (f a s) k kx) kx:=by cases x <;> rfl
theorem b5 (h:∀ a s,k a s=k' a s):oc x k kx=oc x k' kx:=by cases x <;> first | exact h _ _ | rfl
theorem ag (h:∀ a s,g a s=oc (f a s) k kx):oc x g kx=oc (x.bind f) k kx:=by
 rw [bN];exact b5 h
section
variable {Γ:Gm} {cal cal1:Nat→List D→List O→Res} {lp:Bool}
theorem bh {k:D→Sta→IT} :ae cal cal1 (.opt o fun d=>k d s)=oc (.of s o) (fun d s=>ae cal cal1 (k d s)) kx:=by cases o <;> rfl
theorem rU [Decidable p] {k:D→Sta→IT} {kx:Nat→List D→Sta→am}:ae cal cal1 (if p then k d s else .bad)=oc (if p then .ok d s else .bad) (fun d s=>ae cal cal1 (k d s)) kx:=by split <;> rfl
theorem Bg {st:List O} {k:D→Sta→IT}:ae cal cal1 (pJ es s d st k)=ae cal cal1 (k d (aft es s d st)):=by unfold pJ;split <;> rfl
theorem xd {k:D→Sta→IT} {kx:Nat→List D→Sta→IT}:ae cal cal1 (.call j l s.st fun r=>match r with | .ok d st=>pJ es s d st k | .exc c l st=>kx c l (drp es s st) | .bad=>.bad)=oc (iq cal es j l s) (fun d s=>ae cal cal1 (k d s)) (fun c l s=>ae cal cal1 (kx c l s)):=by
 show ae cal cal1 (match cal j l s.st with | .ok d st=>pJ es s d st k | .exc c l st=>kx c l (drp es s st) | .bad=>.bad)=_
 unfold iq
 cases cal j l s.st <;> first | exact Bg | rfl
theorem lX (h:∀ d s k,ae cal cal1 (g d s k)=oc (f d s) (fun o s=>ae cal cal1 (k o s)) kx):∀ (ds acc) (s) (k:D→Sta→IT),ae cal cal1 (lcT g ds acc s k)=oc (bw f ds acc s) (fun d s=>ae cal cal1 (k d s)) kx
 | [],acc,s,k=>rfl
 | d :: r,acc,s,k=>by
   show ae cal cal1 (g d s _)=oc ((f d s).bind _) _ _
   rw [h,bN]
   refine b5 fun o s'=>?_
   cases o with
   | none=>exact lX h r acc s' k
   | some e=>
     dsimp only
     show ae cal cal1 (if decide (acc.length<100000)=true then lcT g r (acc ++ [e]) s' k else .bad)=_
     by_cases c:acc.length<100000
     ·rw [ZZ (ZW c),ZZ c];exact lX h r (acc ++ [e]) s' k
     ·rw [ZY (by simpa using c),ZY c];rfl
theorem wm {x:Out D}:oc (x.back env) k kx=oc x (fun d s'=>k d ⟨env,[],s'.st⟩) (fun c l s'=>kx c l ⟨env,[],s'.st⟩):=by cases x <;> rfl
theorem Bj {x:Out D} {k:D→Sta→IT} {kx:Nat→List D→Sta→IT}:ae cal cal1 (.sub x k kx)=oc x (fun d s=>ae cal cal1 (k d s)) (fun c l s=>ae cal cal1 (kx c l s)):=by cases x <;> rfl
theorem AW :evT Γ cal cal1 lp br (.v i) s k kx=(match s.env[i]? with | some (some d)=>k d (if br then s else un s i) | _=>.bad):=rfl
theorem AV :evT Γ cal cal1 lp br (.g j) s k kx=(match Γ.gl[j]?.map toD with | some d=>k d s | none=>.bad):=rfl
theorem Di :ev Γ cal cal1 br (.g j) s = .of s (Γ.gl[j]?.map toD):=rfl
theorem bb:∀ e:E,(∀ br s k kx,ae cal cal1 (evT Γ cal cal1 lp br e s k kx)=oc (ev Γ cal cal1 br e s) (fun d s=>ae cal cal1 (k d s)) (fun c l s=>ae cal cal1 (kx c l s))) ∧
 (∀ br s k kx,ae cal cal1 (du Γ cal cal1 lp br e s k kx)=oc (evs Γ cal cal1 br e s) (fun d s=>ae cal cal1 (k d s)) (fun c l s=>ae cal cal1 (kx c l s))):=by
 intro e
 induction e with
 | v i=>
   refine ⟨fun br s k kx=>?_,fun br s k kx=>rfl⟩
   rw [AW,Dj]
   cases s.env[i]? with
   | none=>rfl
   | some o=>cases o <;> rfl
 | c d=>exact ⟨fun br s k kx=>rfl,fun br s k kx=>rfl⟩
 | g j=>
   refine ⟨fun br s k kx=>?_,fun br s k kx=>rfl⟩
   rw [AV,Di]
   cases Γ.gl[j]?.map toD <;> rfl
 | op o a b iha ihb=>exact ⟨fun br s k kx=>(iha.1 _ _ _ _).trans (ag fun x s=>(ihb.1 _ _ _ _).trans (ag fun y s=>bh)),fun br s k kx=>rfl⟩
 | isN a ih=>exact ⟨fun br s k kx=>(ih.1 _ _ _ _).trans (ag fun x s=>rfl),fun br s k kx=>rfl⟩
 | isNN a ih=>exact ⟨fun br s k kx=>(ih.1 _ _ _ _).trans (ag fun x s=>rfl),fun br s k kx=>rfl⟩
 | neg a ih=>exact ⟨fun br s k kx=>(ih.1 _ _ _ _).trans (ag fun x s=>by cases x <;> rfl),fun br s k kx=>rfl⟩
 | not a ih=>exact ⟨fun br s k kx=>(ih.1 _ _ _ _).trans (ag fun x s=>by cases x <;> rfl),fun br s k kx=>rfl⟩
 | and a b iha ihb=>exact ⟨fun br s k kx=>(iha.1 _ _ _ _).trans (ag fun x s=>by
  cases x with
  | bl t=>cases t with
    | true=>exact ihb.1 _ _ _ _
    | false=>rfl
  | _=>rfl),fun br s k kx=>rfl⟩
 | or a b iha ihb=>exact ⟨fun br s k kx=>(iha.1 _ _ _ _).trans (ag fun x s=>by
  cases x with
  | bl t=>cases t with
    | false=>exact ihb.1 _ _ _ _
    | true=>rfl
  | _=>rfl),fun br s k kx=>rfl⟩
 | ite c a b ihc iha ihb=>exact ⟨fun br s k kx=>(ihc.1 _ _ _ _).trans (ag fun x s=>by
  cases x with
  | bl t=>cases t with
    | true=>exact iha.1 _ _ _ _
    | false=>exact ihb.1 _ _ _ _
  | _=>rfl),fun br s k kx=>rfl⟩
 | chain o p a b c iha ihb ihc=>exact ⟨fun br s k kx=>(iha.1 _ _ _ _).trans (ag fun x s=>(ihb.1 _ _ _ _).trans (ag fun y s=>by
  show ae cal cal1 (.opt (opD o (look s.st x) (look s.st y)) _)=_
  cases opD o (look s.st x) (look s.st y) with
  | none=>rfl
  | some d=>cases d with
    | bl t=>cases t with
      | true=>exact (ihc.1 _ _ _ _).trans (ag fun z s=>bh)
      | false=>rfl
    | _=>rfl)),fun br s k kx=>rfl⟩
 | ix a b iha ihb=>exact ⟨fun br s k kx=>(iha.1 _ _ _ _).trans (ag fun x s=>(ihb.1 _ _ _ _).trans (ag fun y s=>bh)),fun br s k kx=>rfl⟩
 | sl a lo hi iha ihl ihh=>
   refine ⟨fun br s k kx=>(iha.1 _ _ _ _).trans (ag fun x s=>?_),fun br s k kx=>rfl⟩
   have k3:∀ l s,ae cal cal1 (if bB hi then .opt (slO (look s.st x) l none) fun d=>k d s else evT Γ cal cal1 lp true hi s (fun z s=>match z with | .int h=>.opt (slO (look s.st x) l (some h)) fun d=>k d s | _=>.bad) kx)=oc ((if bB hi then .ok none s else (ev Γ cal cal1 true hi s).bind toI).bind fun h s=>.of s (slO (look s.st x) l h)) (fun d s=>ae cal cal1 (k d s)) (fun c l s=>ae cal cal1 (kx c l s)):=fun l s=>by
    by_cases c:bB hi=true
    ·rw [ZZ c,ZZ c];exact bh
    ·rw [ZY c,ZY c,ihh.1,bN,bN]
     exact b5 fun z s=>by cases z <;> first | exact bh | rfl
   by_cases c:bB lo=true
   ·dsimp only
    rw [ZZ c,ZZ c];exact k3 none s
   ·dsimp only
    rw [ZY c,ZY c,ihl.1,bN,bN]
    exact b5 fun z s=>by cases z <;> first | exact k3 _ s | rfl
 | sl3 a lo hi iha ihl ihh=>
   refine ⟨fun br s k kx=>(iha.1 _ _ _ _).trans (ag fun x s=>?_),fun br s k kx=>rfl⟩
   have k3:∀ l s,ae cal cal1 (if bB hi then .opt (qO (look s.st x) l none) fun d=>k d s else evT Γ cal cal1 lp true hi s (fun z s=>match z with | .int h=>.opt (qO (look s.st x) l (some h)) fun d=>k d s | _=>.bad) kx)=oc ((if bB hi then .ok none s else (ev Γ cal cal1 true hi s).bind toI).bind fun h s=>.of s (qO (look s.st x) l h)) (fun d s=>ae cal cal1 (k d s)) (fun c l s=>ae cal cal1 (kx c l s)):=fun l s=>by
    by_cases c:bB hi=true
    ·rw [ZZ c,ZZ c];exact bh
    ·rw [ZY c,ZY c,ihh.1,bN,bN]
     exact b5 fun z s=>by cases z <;> first | exact bh | rfl
   by_cases c:bB lo=true
   ·dsimp only
    rw [ZZ c,ZZ c];exact k3 none s
   ·dsimp only
    rw [ZY c,ZY c,ihl.1,bN,bN]
    exact b5 fun z s=>by cases z <;> first | exact k3 _ s | rfl
 | tget j a b iha ihb=>exact ⟨fun br s k kx=>(iha.1 _ _ _ _).trans (ag fun x s=>(ihb.1 _ _ _ _).trans (ag fun y s=>by cases Γ.tb[j]? <;> cases x <;> rfl)),fun br s k kx=>rfl⟩
 | newd j es ih=>exact ⟨fun br s k kx=>(ih.2 _ _ _ _).trans (ag fun l s=>bh),fun br s k kx=>rfl⟩
 | fld a f ih=>exact ⟨fun br s k kx=>(ih.1 _ _ _ _).trans (ag fun x s=>bh),fun br s k kx=>rfl⟩
 | tup es ih=>exact ⟨fun br s k kx=>(ih.2 _ _ _ _).trans (ag fun l s=>rU),fun br s k kx=>rfl⟩
 | lst es ih=>exact ⟨fun br s k kx=>(ih.2 _ _ _ _).trans (ag fun l s=>rU),fun br s k kx=>rfl⟩
 | newl es ih=>exact ⟨fun br s k kx=>(ih.2 _ _ _ _).trans (ag fun l s=>by by_cases c:l.length≤100000 <;> simp only [c,if_true,if_false] <;> rfl),fun br s k kx=>rfl⟩
 | nil=>exact ⟨fun br s k kx=>rfl,fun br s k kx=>rfl⟩
 | cons a r iha ihr=>exact ⟨fun br s k kx=>rfl,fun br s k kx=>(iha.1 _ _ _ _).trans (ag fun x s=>(ihr.2 _ _ _ _).trans (ag fun l s=>rfl))⟩
 | call j es ih=>exact ⟨fun br s k kx=>(ih.2 _ _ _ _).trans (ag fun l s=>xd),fun br s k kx=>rfl⟩
 | hcall j es ih=>exact ⟨fun br s k kx=>(ih.2 _ _ _ _).trans (ag fun l s=>by
  show ae cal cal1 (if ba l=true then _ else .bad)=oc (vf cal j l s) _ _
  unfold vf
  split
  ·show ae cal cal1 (match cal j l [] with | .ok d _=>_ | .exc c l _=>_ | .bad=>_)=_
   cases cal j l [] with
   | ok d st=>show ae cal cal1 (if noR d=true then _ else _)=_;dsimp only;split <;> rfl
   | exc c l st=>show ae cal cal1 (if ba l=true then _ else .bad)=_;dsimp only;split <;> rfl
   | bad=>rfl
  ·rfl),fun br s k kx=>rfl⟩
 | fcall own j es ih=>exact ⟨fun br s k kx=>(ih.2 _ _ _ _).trans (ag fun l s=>by
  show ae cal cal1 (if ba l=true then _ else .bad)=oc (ya cal own j l s) _ _
  unfold ya
  split
  ·show ae cal cal1 (match cal j l [] with | .ok d _=>_ | .exc c l _=>_ | .bad=>_)=_
   cases cal j l [] with
   | ok d st=>
     show ae cal cal1 (if (own && !nP d)=true then _ else _)=_;dsimp only;split
     ·rfl
     ·exact bh
   | exc c l st=>show ae cal cal1 (if ba l=true then _ else .bad)=_;dsimp only;split <;> rfl
   | bad=>rfl
  ·rfl),fun br s k kx=>rfl⟩
 | mth c j a es iha ih=>exact ⟨fun br s k kx=>(iha.1 _ _ _ _).trans (ag fun x s=>by
  cases x with
  | ref p=>
    show ae cal cal1 (if rW s.st p c=true then _ else .bad)=_
    unfold rW
    dsimp only
    cases s.st[p]? with
    | none=>rfl
    | some o=>cases o with
      | ins c' l'=>
        dsimp only
        by_cases e:c'=c
        ·rw [ZZ (by simpa using e),ZZ e]
         exact (ih.2 _ _ _ _).trans (ag fun l s=>xd)
        ·rw [ZY (by simpa using e),ZY e];rfl
      | _=>rfl
  | _=>rfl),fun br s k kx=>rfl⟩
 | bi b es ih=>exact ⟨fun br s k kx=>(ih.2 _ _ _ _).trans (ag fun l s=>bh),fun br s k kx=>rfl⟩
 | tab j a ih=>exact ⟨fun br s k kx=>(ih.1 _ _ _ _).trans (ag fun x s=>by cases Γ.tb[j]? <;> cases x <;> first | exact bh | rfl),fun br s k kx=>rfl⟩
 | tabin j a ih=>exact ⟨fun br s k kx=>(ih.1 _ _ _ _).trans (ag fun x s=>by cases Γ.tb[j]? <;> cases x <;> rfl),fun br s k kx=>rfl⟩
 | tand a b iha ihb=>exact ⟨fun br s k kx=>(iha.1 _ _ _ _).trans (ag fun x s=>by
  cases x with
  | bl t=>cases t with
    | true=>exact ihb.1 _ _ _ _
    | false=>rfl
  | _=>rfl),fun br s k kx=>rfl⟩
 | tor a b iha ihb=>exact ⟨fun br s k kx=>(iha.1 _ _ _ _).trans (ag fun x s=>by
  cases x with
  | bl t=>cases t with
    | false=>exact ihb.1 _ _ _ _
    | true=>rfl
  | _=>rfl),fun br s k kx=>rfl⟩
 | tnot a ih=>exact ⟨fun br s k kx=>(ih.1 _ _ _ _).trans (ag fun x s=>by cases x <;> rfl),fun br s k kx=>rfl⟩
 | tv a ih=>exact ⟨fun br s k kx=>(ih.1 _ _ _ _).trans (ag fun x s=>bh),fun br s k kx=>rfl⟩
 | it b es ih=>exact ⟨fun br s k kx=>(ih.2 _ _ _ _).trans (ag fun l s=>bh),fun br s k kx=>rfl⟩
 | itv a ih=>exact ⟨fun br s k kx=>(ih.1 _ _ _ _).trans (ag fun x s=>by cases ly x <;> rfl),fun br s k kx=>rfl⟩
 | dic es ih=>exact ⟨fun br s k kx=>(ih.2 _ _ _ _).trans (ag fun l s=>bh),fun br s k kx=>rfl⟩
 | get a b c iha ihb ihc=>exact ⟨fun br s k kx=>(iha.1 _ _ _ _).trans (ag fun x s=>by
  show ae cal cal1 (if isDic (look s.st x)=true then _ else .bad)=_
  split
  ·refine (ihb.1 _ _ _ _).trans (ag fun y s=>(ihc.1 _ _ _ _).trans (ag fun z s=>?_))
   show ae cal cal1 (.opt (yf (look s.st x) y z) _)=_
   unfold yf
   cases look s.st x <;> cases bE y <;> rfl
  ·rfl),fun br s k kx=>rfl⟩
 | index a b iha ihb=>exact ⟨fun br s k kx=>(iha.1 _ _ _ _).trans (ag fun x s=>by
  show ae cal cal1 (if vg x=true then _ else _)=oc (if vg x=true then _ else _) _ _
  split
  ·exact (ihb.1 _ _ _ _).trans (ag fun y s=>bh)
  ·rfl),fun br s k kx=>rfl⟩
 | join x a ih=>exact ⟨fun br s k kx=>(ih.1 _ _ _ _).trans (ag fun y s=>bh),fun br s k kx=>rfl⟩
 | fmt x a y ih=>exact ⟨fun br s k kx=>(ih.1 _ _ _ _).trans (ag fun v s=>bh),fun br s k kx=>rfl⟩
 | dicc ks es ih=>exact ⟨fun br s k kx=>(ih.2 _ _ _ _).trans (ag fun l s=>bh),fun br s k kx=>rfl⟩
 | keep kp a ih=>exact ⟨fun br s k kx=>(ih.1 _ _ _ _).trans (by show oc (ev Γ cal cal1 false a _) _ _=oc ((noX (ev Γ cal cal1 false a _)).bind _) _ _;cases ev Γ cal cal1 false a (hid (kp.filter s.ow.contains) s) <;> rfl),fun br s k kx=>rfl⟩
 | sto a ih=>exact ⟨fun br s k kx=>(ih.1 _ _ _ _).trans (ag fun x s=>by cases x <;> rfl),fun br s k kx=>rfl⟩
 | isXv a ih=>exact ⟨fun br s k kx=>(ih.1 _ _ _ _).trans (ag fun x s=>bh),fun br s k kx=>rfl⟩
 | snap i a ih=>
   refine ⟨fun br s k kx=>?_,fun br s k kx=>rfl⟩
   show ae cal cal1 (match s.env[i]? with
    | some (some (.ref n))=>(match s.st[n]? with
      | some (.lst l)=>.test (ba l) fun t=>if t then evT Γ cal cal1 lp false a ⟨(bg s.env).set i (some (.lst l)),[],[]⟩ (fun d _=>.test (flX (au a) d) fun t=>if t then k d ⟨s.env,[],s.st⟩ else .bad) (fun _ _ _=>.bad) else .bad
      | _=>.bad)
    | some (some _)=>evT Γ cal cal1 lp false a s k kx
    | _=>.bad)=oc (match s.env[i]? with
    | some (some (.ref n))=>(match s.st[n]? with
      | some (.lst l)=>if ba l=true then (noX (ev Γ cal cal1 false a ⟨(bg s.env).set i (some (.lst l)),[],[]⟩)).bind fun d _=>if flX (au a) d=true then .ok d ⟨s.env,[],s.st⟩ else .bad else .bad
      | _=>.bad)
    | some (some _)=>ev Γ cal cal1 false a s
    | _=>.bad) _ _
   cases s.env[i]? with
   | none=>rfl
   | some o=>cases o with
     | none=>rfl
     | some d=>cases d with
       | ref n=>
         dsimp only
         cases s.st[n]? with
         | none=>rfl
         | some o=>cases o with
           | lst l=>
             show ae cal cal1 (if ba l=true then _ else .bad)=_
             dsimp only
             split
             ·refine (ih.1 _ _ _ _).trans ?_
              show oc (ev Γ cal cal1 false a _) _ (fun _ _ _=>.bad)=_
              cases ev Γ cal cal1 false a ⟨(bg s.env).set i (some (.lst l)),[],[]⟩ with
              | ok d s'=>
                show ae cal cal1 (if flX (au a) d=true then k d _ else .bad)=oc (if flX (au a) d=true then Out.ok d _ else .bad) _ _
                split <;> rfl
              | _=>rfl
             ·rfl
           | _=>rfl
       | _=>exact ih.1 _ _ _ _
 | sm q a ih=>exact ⟨fun br s k kx=>(ih.1 _ _ _ _).trans (ag fun x s=>bh),fun br s k kx=>rfl⟩
 | pop a ih=>exact ⟨fun br s k kx=>(ih.1 _ _ _ _).trans (ag fun x s=>by
  cases x with
  | ref n=>
    show ae cal cal1 (match s.st[n]? with | some (.lst l)=>.opt l.getLast? fun d=>k d ⟨s.env,s.ow,s.st.set n (.lst l.dropLast)⟩ | _=>.bad)=oc (match s.st[n]? with | some (.lst l)=>(match l.getLast? with | some d=>.ok d ⟨s.env,s.ow,s.st.set n (.lst l.dropLast)⟩ | none=>.bad) | _=>.bad) _ _
    cases s.st[n]? with
    | none=>rfl
    | some o=>cases o with
      | lst l=>dsimp only;cases l.getLast? <;> rfl
      | _=>rfl
  | _=>rfl),fun br s k kx=>rfl⟩
 | isX a js ih=>exact ⟨fun br s k kx=>(ih.1 _ _ _ _).trans (ag fun x s=>bh),fun br s k kx=>rfl⟩
 | lc t one it elt cond ihi ihe ihc=>
   refine ⟨fun br s k kx=>(ihi.1 _ _ _ _).trans (ag fun x s=>?_),fun br s k kx=>rfl⟩
   cases x with
   | lst ds=>
     dsimp only
     rw [wm]
     cases lp with
     | true=>rw [ZZ rfl];exact Bj
     | false=>
       rw [ZY Ϫ]
       refine lX (f:=fun d s'=>(match aN t one d s'.env with
        | some env=>(ev Γ cal cal1 true cond ⟨env,[],s'.st⟩).bind fun b s2=>(match b with
          | .bl true=>(ev Γ cal cal1 false elt s2).bind fun e s3=>.ok (some e) ⟨s3.env,[],s3.st⟩
          | .bl false=>.ok none ⟨s2.env,[],s2.st⟩
          | _=>.bad)
        | none=>.bad)) (fun d s' k'=>?_) ds [] _ _
       cases aN t one d s'.env with
       | none=>rfl
       | some env=>
         refine (ihc.1 _ _ _ _).trans (ag fun b s2=>?_)
         cases b with
         | bl b=>cases b with
           | true=>exact (ihe.1 _ _ _ _).trans (ag fun e s3=>rfl)
           | false=>rfl
         | _=>rfl
   | _=>rfl
 | new j es ih=>exact ⟨fun br s k kx=>(ih.2 _ _ _ _).trans (ag fun l s=>by
  cases Γ.cl[j]? with
  | none=>rfl
  | some q=>
    dsimp only
    by_cases c1:q.what=1
    ·rw [ZZ c1,ZZ c1];exact rU
    ·rw [ZY c1,ZY c1]
     by_cases c0:q.what=0
     ·rw [ZZ c0,ZZ c0]
      show ae cal cal1 (match cal1 q.init (.ref s.st.length :: l) (s.st ++ [.ins j []]) with | .ok .non st=>k (.ref s.st.length) (aft es s .non st) | _=>.bad)=_
      cases cal1 q.init (.ref s.st.length :: l) (s.st ++ [.ins j []]) with
      | ok d st=>cases d <;> rfl
      | _=>rfl
     ·rw [ZY c0,ZY c0];rfl),fun br s k kx=>rfl⟩
end
def sc (x:am) (kn:Sta→am) (kr:D→Sta→am) (kx:Nat→List D→Sta→am):am:=match x with
 | .nx s=>kn s
 | .rt d s=>kr d s
 | .exc c l s=>kx c l s
 | .bad=>.bad
theorem Cc :sc (x.go f) kn kr kx=oc x (fun a s=>sc (f a s) kn kr kx) kx:=by cases x <;> rfl
theorem aL (h:∀ a s,g a s=sc (f a s) kn kr kx):oc x g kx=sc (x.go f) kn kr kx:=by
 rw [Cc];exact b5 h
theorem tU :sc (x.go f) kn kr kx=sc x (fun s=>sc (f s) kn kr kx) kr kx:=by cases x <;> rfl
theorem kY (h:∀ s,kn s=kn' s) (h2:∀ c l s,kx c l s=kx' c l s):sc x kn kr kx=sc x kn' kr kx':=by cases x <;> first | exact h _ | exact h2 _ _ _ | rfl
section
variable {Γ:Gm} {cal cal1:Nat→List D→List O→Res} {lp:Bool}
theorem nB (h:∀ d s k,ae cal cal1 (g d s k)=sc (f d s) (fun s=>ae cal cal1 (k s)) kr kx):∀ (ds) (s) (k:Sta→IT),ae cal cal1 (yc g ds s k)=sc (bv f ds s) (fun s=>ae cal cal1 (k s)) kr kx
 | [],s,k=>rfl
 | d :: r,s,k=>by
   show ae cal cal1 (g d s _)=sc ((f d s).go _) _ _ _
   rw [h,tU]
   exact kY (fun s=>nB h r s k) fun _ _ _=>rfl
theorem fg {kn:Sta→IT} {kr:D→Sta→IT} {kx:Nat→List D→Sta→IT}:ae cal cal1 (.subS x (fun o=>match o with | .nx s=>kn s | .rt d s=>kr d s | .exc c l s=>kx c l s | .bad=>.bad))=sc x (fun s=>ae cal cal1 (kn s)) (fun d s=>ae cal cal1 (kr d s)) (fun c l s=>ae cal cal1 (kx c l s)):=by cases x <;> rfl
theorem Bh {g:D→Sta} {kn:Sta→IT} {kr:D→Sta→am} {kx:Nat→List D→Sta→am}:ae cal cal1 (.opt o fun y=>kn (g y))=sc (match o with | some y=>.nx (g y) | none=>.bad) (fun s=>ae cal cal1 (kn s)) kr kx:=by cases o <;> rfl
theorem u5 :exT Γ cal cal1 lp (.app i e) s kn kr kx=(if s.ow.contains i && isLst s.env[i]? then evT Γ cal cal1 lp false e s (fun d s=>if s.ow.contains i then (match s.env[i]? with
 | some (some (.lst l))=>.test (decide (l.length<100000)) fun t=>if t then kn ⟨s.env.set i (some (.lst (l ++ [d]))),s.ow,s.st⟩ else .bad
 | _=>.bad) else .bad) kx else .bad):=rfl
theorem uZ :exS Γ cal cal1 (.app i e) s=(if s.ow.contains i && isLst s.env[i]? then (ev Γ cal cal1 false e s).go fun d s=>if s.ow.contains i then (match s.env[i]? with
 | some (some (.lst l))=>if l.length<100000 then .nx ⟨s.env.set i (some (.lst (l ++ [d]))),s.ow,s.st⟩ else .bad
 | _=>.bad) else .bad else .bad):=rfl
theorem u6 :exT Γ cal cal1 lp (.ext i e) s kn kr kx=(if s.ow.contains i && isLst s.env[i]? then evT Γ cal cal1 lp false e s (fun d s=>if s.ow.contains i then (match s.env[i]?,d with
 | some (some (.lst l)),.lst x=>.test (decide (l.length+x.length≤100000)) fun t=>if t then kn ⟨s.env.set i (some (.lst (l ++ x))),s.ow,s.st⟩ else .bad
 | _,_=>.bad) else .bad) kx else .bad):=rfl
theorem u4 :exS Γ cal cal1 (.ext i e) s=(if s.ow.contains i && isLst s.env[i]? then (ev Γ cal cal1 false e s).go fun d s=>if s.ow.contains i then (match s.env[i]?,d with
 | some (some (.lst l)),.lst x=>if l.length+x.length≤100000 then .nx ⟨s.env.set i (some (.lst (l ++ x))),s.ow,s.st⟩ else .bad
 | _,_=>.bad) else .bad else .bad):=rfl
theorem nI {kn:Sta→IT} {kr:D→Sta→am} {kx:Nat→List D→Sta→am} {c:Prop} [Decidable c] {z:Sta}:ae cal cal1 (.test (decide c) fun t=>if t then kn z else .bad)=sc (if c then .nx z else .bad) (fun s=>ae cal cal1 (kn s)) kr kx:=by
 show ae cal cal1 (if decide c=true then _ else .bad)=_
 by_cases h:c
 ·rw [ZZ (ZW h),ZZ h];rfl
 ·rw [ZY (by simpa using h),ZY h];rfl
theorem rC:∀ c:S,(∀ s kn kr kx,ae cal cal1 (exT Γ cal cal1 lp c s kn kr kx)=sc (exS Γ cal cal1 c s) (fun s=>ae cal cal1 (kn s)) (fun d s=>ae cal cal1 (kr d s)) (fun c l s=>ae cal cal1 (kx c l s))) ∧
 (∀ c' l s kn kr kx,ae cal cal1 (exT.hndT Γ cal cal1 lp c c' l s kn kr kx)=sc (exS.hnd Γ cal cal1 c c' l s) (fun s=>ae cal cal1 (kn s)) (fun d s=>ae cal cal1 (kr d s)) (fun c l s=>ae cal cal1 (kx c l s))):=by
 intro c
 have hb:∀ {c:S},(∀ c' l s kn kr kx,exT.hndT Γ cal cal1 lp c c' l s kn kr kx = .bad)→(∀ c' l s,exS.hnd Γ cal cal1 c c' l s = .bad)→(∀ c' l s kn kr kx,ae cal cal1 (exT.hndT Γ cal cal1 lp c c' l s kn kr kx)=sc (exS.hnd Γ cal cal1 c c' l s) (fun s=>ae cal cal1 (kn s)) (fun d s=>ae cal cal1 (kr d s)) (fun c l s=>ae cal cal1 (kx c l s))):=fun h1 h2 c' l s kn kr kx=>by rw [h1,h2];rfl
 induction c with
 | skip=>exact ⟨fun s kn kr kx=>rfl,fun _ _ _ _ _ _=>rfl⟩
 | seq a b iha ihb=>
   refine ⟨fun s kn kr kx=>(iha.1 _ _ _ _).trans ?_,hb (fun _ _ _ _ _ _=>rfl) fun _ _ _=>rfl⟩
   show _=sc ((exS Γ cal cal1 a s).go fun s=>exS Γ cal cal1 b s) _ _ _
   rw [tU]
   exact kY (fun s=>ihb.1 _ _ _ _) fun _ _ _=>rfl
 | set i e=>exact ⟨fun s kn kr kx=>((bb e).1 _ _ _ _).trans (aL fun d s=>rfl),hb (fun _ _ _ _ _ _=>rfl) fun _ _ _=>rfl⟩
 | setT l e=>exact ⟨fun s kn kr kx=>((bb e).1 _ _ _ _).trans (aL fun d s=>by cases aN l false d s.env <;> rfl),hb (fun _ _ _ _ _ _=>rfl) fun _ _ _=>rfl⟩
 | setR i es=>exact ⟨fun s kn kr kx=>((bb es).2 _ _ _ _).trans (aL fun l s=>by by_cases c:l.length≤100000 <;> simp only [c,if_true,if_false] <;> rfl),hb (fun _ _ _ _ _ _=>rfl) fun _ _ _=>rfl⟩
 | ret e=>exact ⟨fun s kn kr kx=>((bb e).1 _ _ _ _).trans (aL fun d s=>rfl),hb (fun _ _ _ _ _ _=>rfl) fun _ _ _=>rfl⟩
 | ifs c a b iha ihb=>exact ⟨fun s kn kr kx=>((bb c).1 _ _ _ _).trans (aL fun x s=>by
  cases x with
  | bl t=>cases t with
    | true=>exact iha.1 _ _ _ _
    | false=>exact ihb.1 _ _ _ _
  | _=>rfl),hb (fun _ _ _ _ _ _=>rfl) fun _ _ _=>rfl⟩
 | drop e=>exact ⟨fun s kn kr kx=>((bb e).1 _ _ _ _).trans (aL fun d s=>rfl),hb (fun _ _ _ _ _ _=>rfl) fun _ _ _=>rfl⟩
 | app i e=>
   refine ⟨fun s kn kr kx=>?_,hb (fun _ _ _ _ _ _=>rfl) fun _ _ _=>rfl⟩
   rw [u5,uZ]
   split
   ·refine ((bb e).1 _ _ _ _).trans (aL fun d s=>?_)
    split
    ·split <;> first | exact nI | rfl
    ·rfl
   ·rfl
 | ext i e=>
   refine ⟨fun s kn kr kx=>?_,hb (fun _ _ _ _ _ _=>rfl) fun _ _ _=>rfl⟩
   rw [u6,u4]
   split
   ·refine ((bb e).1 _ _ _ _).trans (aL fun d s=>?_)
    split
    ·split <;> first | exact nI | rfl
    ·rfl
   ·rfl
 | put a b e=>
   refine ⟨fun s kn kr kx=>?_,hb (fun _ _ _ _ _ _=>rfl) fun _ _ _=>rfl⟩
   cases a with
   | v i=>
     refine ((bb e).1 _ _ _ _).trans (aL fun d s=>?_)
     cases s.env[i]? with
     | none=>rfl
     | some o=>cases o with
       | none=>rfl
       | some x=>
         refine ((bb b).1 _ _ _ _).trans (aL fun y s=>?_)
         cases x with
         | ref n=>
           dsimp only
           cases (s.st[n]?).bind fun o=>iB o y d <;> rfl
         | _=>
           dsimp only
           split
           ·exact Bh
           ·rfl
   | _=>exact fg
 | fld a f e=>exact ⟨fun s kn kr kx=>fg,hb (fun _ _ _ _ _ _=>rfl) fun _ _ _=>rfl⟩
 | aug a f o e=>exact ⟨fun s kn kr kx=>fg,hb (fun _ _ _ _ _ _=>rfl) fun _ _ _=>rfl⟩
 | fapp a f e=>
   refine ⟨fun s kn kr kx=>((bb a).1 _ _ _ _).trans (aL fun x s=>?_),hb (fun _ _ _ _ _ _=>rfl) fun _ _ _=>rfl⟩
   show ae cal cal1 (if fS s.st x=true then _ else .bad)=_
   split
   ·refine ((bb e).1 _ _ _ _).trans (aL fun d s=>?_)
    cases x with
    | ref n=>
      show ae cal cal1 (match s.st[n]? with | some (.lst l)=>.test (decide (l.length<100000)) fun t=>if t then kn ⟨s.env,s.ow,s.st.set n (.lst (l ++ [d]))⟩ else .bad | _=>.bad)=sc (match s.st[n]? with | some (.lst l)=>if l.length<100000 then .nx ⟨s.env,s.ow,s.st.set n (.lst (l ++ [d]))⟩ else .bad | _=>.bad) _ _ _
      cases s.st[n]? with
      | none=>rfl
      | some o=>cases o with
        | lst l=>exact nI
        | _=>rfl
    | _=>rfl
   ·rfl
 | fext a e=>
   refine ⟨fun s kn kr kx=>((bb a).1 _ _ _ _).trans (aL fun x s=>?_),hb (fun _ _ _ _ _ _=>rfl) fun _ _ _=>rfl⟩
   show ae cal cal1 (if fS s.st x=true then _ else .bad)=_
   split
   ·refine ((bb e).1 _ _ _ _).trans (aL fun d s=>?_)
    cases x with
    | ref n=>
      show ae cal cal1 (match s.st[n]?,d with | some (.lst l),.lst m=>.test (decide (l.length+m.length≤100000)) fun t=>if t then kn ⟨s.env,s.ow,s.st.set n (.lst (l ++ m))⟩ else .bad | _,_=>.bad)=sc (match s.st[n]?,d with | some (.lst l),.lst m=>if l.length+m.length≤100000 then .nx ⟨s.env,s.ow,s.st.set n (.lst (l ++ m))⟩ else .bad | _,_=>.bad) _ _ _
      cases s.st[n]? with
      | none=>rfl
      | some o=>cases o with
        | lst l=>cases d <;> first | exact nI | rfl
        | _=>rfl
    | _=>rfl
   ·rfl
 | for_ t one it b ih=>
   refine ⟨fun s kn kr kx=>((bb it).1 _ _ _ _).trans (aL fun x s=>?_),hb (fun _ _ _ _ _ _=>rfl) fun _ _ _=>rfl⟩
   cases x with
   | lst ds=>
     dsimp only
     cases lp with
     | true=>rw [ZZ rfl];exact fg
     | false=>
       rw [ZY Ϫ]
       refine nB (fun d s k=>?_) ds s kn
       cases aN t one d s.env with
       | none=>rfl
       | some env=>exact ih.1 _ _ _ _
   | _=>rfl
 | whl c b ih=>exact ⟨fun s kn kr kx=>fg,hb (fun _ _ _ _ _ _=>rfl) fun _ _ _=>rfl⟩
 | rais j es=>
   refine ⟨fun s kn kr kx=>((bb es).2 _ _ _ _).trans (aL fun l s=>?_),hb (fun _ _ _ _ _ _=>rfl) fun _ _ _=>rfl⟩
   show ae cal cal1 (if cY Γ j l=true then kx j (gC Γ j l) s else .bad)=_
   split <;> rfl
 | try_ a h iha ihh=>
   refine ⟨fun s kn kr kx=>(iha.1 _ _ _ _).trans ?_,hb (fun _ _ _ _ _ _=>rfl) fun _ _ _=>rfl⟩
   show _=sc (match exS Γ cal cal1 a s with | .exc c l s'=>exS.hnd Γ cal cal1 h c l s' | r=>r) _ _ _
   cases exS Γ cal cal1 a s with
   | exc c l s'=>exact ihh.2 _ _ _ _ _ _
   | _=>rfl
 | hand j i b r ihb ihr=>
   refine ⟨fun s kn kr kx=>fg,fun c' l s kn kr kx=>?_⟩
   cases i with
   | none=>
     show ae cal cal1 (match cZ Γ j c' with | some true=>_ | some false=>exT.hndT Γ cal cal1 lp r c' l s kn kr kx | none=>.bad)=sc (match cZ Γ j c' with | some true=>_ | some false=>exS.hnd Γ cal cal1 r c' l s | none=>.bad) _ _ _
     rcases cZ Γ j c' with _ | (_ | _)
     ·rfl
     ·exact ihr.2 _ _ _ _ _ _
     ·refine (ihb.1 _ _ _ _).trans ?_
      cases exS Γ cal cal1 b s <;> rfl
   | some i=>
     show ae cal cal1 (match cZ Γ j c' with | some true=>_ | some false=>exT.hndT Γ cal cal1 lp r c' l s kn kr kx | none=>.bad)=sc (match cZ Γ j c' with | some true=>_ | some false=>exS.hnd Γ cal cal1 r c' l s | none=>.bad) _ _ _
     rcases cZ Γ j c' with _ | (_ | _)
     ·rfl
     ·exact ihr.2 _ _ _ _ _ _
     ·refine (ihb.1 _ _ _ _).trans ?_
      cases exS Γ cal cal1 b ⟨s.env.set i (some (.ins c' l)),s.ow.filter (· != i),s.st⟩ <;> rfl
inductive An where
 | r (r:Res) | t (n:Nat) (b:Bool) | o (n:Nat) (d:D) | e (d:D) (s:Sta) | y (c:Nat) (l:List D) (s:Sta) | x (o:am) | c
end
section
variable (cal cal1:Nat→List D→List O→Res)
def trc:IT→List An→Prop×am
 | .fin o,[]=>(True,o)
 | .fin o,_=>(False,o)
 | .call j ds st k,.r a :: l=>((cal j ds st=a)∧(trc (k a) l).1,(trc (k a) l).2)
 | .call1 j ds st k,.r a :: l=>((cal1 j ds st=a)∧(trc (k a) l).1,(trc (k a) l).2)
 | .call j ds st k,.c :: l=>trc (k (cal j ds st)) l
 | .call1 j ds st k,.c :: l=>trc (k (cal1 j ds st)) l
 | .test b k,.t 0 a :: l=>((b=a)∧(trc (k a) l).1,(trc (k a) l).2)
 | .test b k,.t (n+1) a :: l=>trc (k b) (.t n a :: l)
 | .test b k,.o (n+1) a :: l=>trc (k b) (.o n a :: l)
 | .test b k,l=>trc (k b) l
 | .opt o k,.o 0 a :: l=>((o=some a)∧(trc (k a) l).1,(trc (k a) l).2)
 | .opt (some d) k,.o (n+1) a :: l=>trc (k d) (.o n a :: l)
 | .opt (some d) k,.t (n+1) a :: l=>trc (k d) (.t n a :: l)
 | .opt (some d) k,l=>trc (k d) l
 | .sub o k _,.e d s :: l=>((o = .ok d s)∧(trc (k d s) l).1,(trc (k d s) l).2)
 | .sub o _ kx,.y c m s :: l=>((o = .exc c m s)∧(trc (kx c m s) l).1,(trc (kx c m s) l).2)
 | .subS o k,.x a :: l=>((o=a)∧(trc (k a) l).1,(trc (k a) l).2)
 | _,_=>(False,.bad)
theorem mO:∀ (t) (l),(trc cal cal1 t l).1→ae cal cal1 t=(trc cal cal1 t l).2:=by
 intro t
 induction t with
 | fin o=>intro l h;cases l <;> first | rfl | exact h.elim
 | call j ds st k ih=>
   intro l h
   cases l with
   | nil=>exact h.elim
   | cons a l=>cases a with
     | r a=>obtain ⟨h1,h2⟩:=h;have:=ih a l h2;rw [← h1] at this ⊢;show ae cal cal1 (k (cal j ds st))=_;rw [h1] at this ⊢;exact this
     | c=>exact ih _ l h
     | _=>exact h.elim
 | call1 j ds st k ih=>
   intro l h
   cases l with
   | nil=>exact h.elim
   | cons a l=>cases a with
     | r a=>obtain ⟨h1,h2⟩:=h;show ae cal cal1 (k (cal1 j ds st))=_;rw [h1];exact ih a l h2
     | c=>exact ih _ l h
     | _=>exact h.elim
 | test b k ih=>
   intro l h
   show ae cal cal1 (k b)=_
   cases l with
   | nil=>exact ih b _ h
   | cons a l=>cases a with
     | t n a=>cases n with
       | zero=>obtain ⟨h1,h2⟩:=h;rw [h1];exact ih a l h2
       | succ n=>exact ih b _ h
     | o n a=>cases n with
       | zero=>exact ih b _ h
       | succ n=>exact ih b _ h
     | _=>exact ih b _ h
 | opt o k ih=>
   intro l h
   cases l with
   | nil=>cases o with
     | none=>exact h.elim
     | some d=>exact ih d _ h
   | cons a l=>cases a with
     | o n a=>cases n with
       | zero=>obtain ⟨rfl,h2⟩:=h;exact ih a l h2
       | succ n=>cases o with
         | none=>exact h.elim
         | some d=>exact ih d _ h
     | t n a=>cases n with
       | zero=>cases o with
         | none=>exact h.elim
         | some d=>exact ih d _ h
       | succ n=>cases o with
         | none=>exact h.elim
         | some d=>exact ih d _ h
     | _=>cases o with
        | none=>exact h.elim
        | some d=>exact ih d _ h
 | sub o k kx ih ihx=>
   intro l h
   cases l with
   | nil=>exact h.elim
   | cons a l=>cases a with
     | e d s=>obtain ⟨rfl,h2⟩:=h;exact ih d s l h2
     | y c m s=>obtain ⟨rfl,h2⟩:=h;exact ihx c m s l h2
     | _=>exact h.elim
 | subS o k ih=>
   intro l h
   cases l with
   | nil=>exact h.elim
   | cons a l=>cases a with
     | x a=>obtain ⟨h1,h2⟩:=h;show ae cal cal1 (k o)=_;rw [h1];exact ih a l h2
     | _=>exact h.elim
end
def B7:am→Res
 | .nx s=>.ok .non s.st
 | .rt d s=>.ok d s.st
 | .exc c l s=>.exc c l s.st
 | .bad=>.bad
def ww (Γ:Gm) (cal cal1:Nat→List D→List O→Res) (lp:Bool) (j:Nat) (ds:List D) (st:List O) (l:List An):Prop×Res:=match Γ.fn[j]? with
 | some f=>if (ds ++ f.df).length=f.np then
  (fun p=>(p.1,B7 p.2)) (trc cal cal1 (exT Γ cal cal1 lp f.body ⟨(ds ++ f.df).map some ++ ξ (f.ns - f.np) none,[],st⟩ (fun s=>.fin (.nx s)) (fun d s=>.fin (.rt d s)) (fun c l s=>.fin (.exc c l s))) l)
   else (False,.bad)
 | none=>(False,.bad)
theorem zI {st:List O} (l:List An) {P:Prop} {r:Res} (hp:P) (h:ww Γ cal cal1 lp j ds st l=(P,r)):kX Γ cal cal1 j ds st=r:=by
 unfold ww at h
 unfold kX
 cases q:Γ.fn[j]? with
 | none=>rw [q] at h;have t:False=P:=ZS ţ h;exact (Eq.mpr t hp:False).elim
 | some f=>
   rw [q] at h
   dsimp only at h ⊢
   by_cases c:(ds ++ f.df).length=f.np
   ·rw [ZZ c] at h ⊢
    have h1:=ZS ţ h
    have h2:=ZS FN h
    dsimp only at h1 h2
    have t:=mO cal cal1 _ l (h1 ▸ hp)
    rw [(rC f.body).1] at t
    rw [← h2,← t]
    cases exS Γ cal cal1 f.body ⟨(ds ++ f.df).map some ++ ξ (f.ns - f.np) none,[],st⟩ <;> rfl
   ·rw [ZY c] at h;have t:False=P:=ZS ţ h;exact (Eq.mpr t hp:False).elim
theorem xU (lp) {st:List O} (l:List An) {P:Prop} {r:Res} (hp:P) (h:ww Γ (ai Γ n) (aA Γ n) lp j ds st l=(P,r)):ai Γ (n+1) j ds st=r:=zI l hp h
theorem AZ (lp) (l) {P:Prop} {o:am} (hp:P) (h:trc cal cal1 (exT Γ cal cal1 lp c s (fun s=>.fin (.nx s)) (fun d s=>.fin (.rt d s)) (fun c l s=>.fin (.exc c l s))) l=(P,o)):exS Γ cal cal1 c s=o:=by
 have h1:=ZS ţ h
 have h2:=ZS FN h
 dsimp only at h1 h2
 have t:=mO cal cal1 _ l (h1 ▸ hp)
 rw [(rC c).1,h2] at t
 rw [← t]
 cases exS Γ cal cal1 c s <;> rfl
def xq:am→Out D
 | .rt d s=>.ok d s
 | .exc c l s=>.exc c l s
 | _=>.bad
theorem AX (lp) (l) {P:Prop} {o:Out D} (hp:P) (h:(fun p:Prop×am=>(p.1,xq p.2)) (trc cal cal1 (evT Γ cal cal1 lp br e s (fun d s=>.fin (.rt d s)) (fun c l s=>.fin (.exc c l s))) l)=(P,o)):ev Γ cal cal1 br e s=o:=by
 have h1:=ZS ţ h
 have h2:=ZS FN h
 dsimp only at h1 h2
 have t:=mO cal cal1 _ l (h1 ▸ hp)
 rw [(bb e).1] at t
 rw [← h2,← t]
 cases ev Γ cal cal1 br e s <;> rfl
theorem cF (h:f d s = .nx s1) (h2:bv f r s1=o):bv f (d :: r) s=o:=by
 show (f d s).go _=o
 rw [h];exact h2
theorem eu (h:f d s = .ok (some e) s1) (ha:acc.length<100000) (h2:bw f r (acc ++ [e]) s1=o):bw f (d :: r) acc s=o:=by
 show (f d s).bind _=o
 rw [h]
 show (if acc.length<100000 then bw f r (acc ++ [e]) s1 else .bad)=o
 rw [ZZ ha];exact h2
theorem vk (h:f d s = .ok none s1) (h2:bw f r acc s1=o):bw f (d :: r) acc s=o:=by
 show (f d s).bind _=o
 rw [h];exact h2
def gQ:S→S
 | .seq a b=>(match gQ a with | .skip=>gQ b | x=>x)
 | .ifs _ a b=>(match gQ a with | .skip=>gQ b | x=>x)
 | .for_ _ _ _ b=>b
 | _=>.skip
class ToAn (α:Type) where
 an:Nat→α→An
instance:ToAn Res:=⟨fun _ a=>.r a⟩
instance:ToAn Bool:=⟨fun n b=>.t n b⟩
instance:ToAn (Option D):=⟨fun n o=>match o with | some d=>.o n d | none=>.c⟩
instance:ToAn (Out D):=⟨fun _ o=>match o with | .ok d s=>.e d s | .exc c l s=>.y c l s | _=>.c⟩
instance:ToAn am:=⟨fun _ o=>.x o⟩
def AL (_:List An) (P:Prop):Prop:=P
theorem aX (n:Nat) {α:Type} [ToAn α] {x a:α} (h:x=a) {l:List An} {P:Prop} (t:AL l P):AL (ToAn.an n a :: l) (x=a∧P):=⟨h,t⟩
theorem aC {l:List An} {P:Prop} (t:AL l P):AL (.c :: l) P:=t
theorem aZ:AL [] True:=Ő
theorem aa (lp) {st:List O} {l:List An} {P:Prop} {r:Res} (hp:AL l P) (h:ww Γ (ai Γ n) (aA Γ n) lp j ds st l=(P,r)):ai Γ (n+1) j ds st=r:=xU lp l hp h
theorem fQ (lp) {l:List An} {P:Prop} {o:am} (hp:AL l P) (h:trc cal cal1 (exT Γ cal cal1 lp c s (fun s=>.fin (.nx s)) (fun d s=>.fin (.rt d s)) (fun c l s=>.fin (.exc c l s))) l=(P,o)):exS Γ cal cal1 c s=o:=AZ lp l hp h
theorem iu (lp) {l:List An} {P:Prop} {o:Out D} (hp:AL l P) (h:(fun p:Prop×am=>(p.1,xq p.2)) (trc cal cal1 (evT Γ cal cal1 lp br e s (fun d s=>.fin (.rt d s)) (fun c l s=>.fin (.exc c l s))) l)=(P,o)):ev Γ cal cal1 br e s=o:=AX lp l hp h
def fe (Γ:Gm) (cal cal1:Nat→List D→List O→Res) (t:List Nat) (one:Bool) (b:S):D→Sta→am:=fun d s=>match aN t one d s.env with | some env=>exS Γ cal cal1 b ⟨env,s.ow.filter fun i=>!t.contains i,s.st⟩ | none=>.bad
def lcQ (Γ:Gm) (cal cal1:Nat→List D→List O→Res) (t:List Nat) (one:Bool) (elt cond:E):D→Sta→Out (Option D):=fun d s'=>(match aN t one d s'.env with
 | some env=>(ev Γ cal cal1 true cond ⟨env,[],s'.st⟩).bind fun b s2=>(match b with
   | .bl true=>(ev Γ cal cal1 false elt s2).bind fun e s3=>.ok (some e) ⟨s3.env,[],s3.st⟩
   | .bl false=>.ok none ⟨s2.env,[],s2.st⟩
   | _=>.bad)
 | none=>.bad)
theorem cq {s:Sta} (hb:aN t one d s.env=some env) (h:exS Γ cal cal1 b ⟨env,s.ow.filter fun i=>!t.contains i,s.st⟩=o):fe Γ cal cal1 t one b d s=o:=by unfold fe;rw [hb];exact h
theorem gN {s:Sta} {cond elt:E} (hb:aN t one d s.env=some env) (hc:ev Γ cal cal1 true cond ⟨env,[],s.st⟩ = .ok (.bl true) s2) (h:ev Γ cal cal1 false elt s2 = .ok e s3):lcQ Γ cal cal1 t one elt cond d s = .ok (some e) ⟨s3.env,[],s3.st⟩:=by
 unfold lcQ
 rw [hb]
 dsimp only
 rw [hc]
 show (ev Γ cal cal1 false elt s2).bind _=_
 rw [h];rfl
theorem yx {s:Sta} {cond elt:E} (hb:aN t one d s.env=some env) (hc:ev Γ cal cal1 true cond ⟨env,[],s.st⟩ = .ok (.bl false) s2):lcQ Γ cal cal1 t one elt cond d s = .ok none ⟨s2.env,[],s2.st⟩:=by
 unfold lcQ
 rw [hb]
 dsimp only
 rw [hc];rfl
theorem yw {s:Sta} {cond elt:E} (hb:aN t one d s.env=some env) (hc:ev Γ cal cal1 true cond ⟨env,[],s.st⟩ = .ok (.bl true) s2) (h:ev Γ cal cal1 false elt s2 = .exc c l s3):lcQ Γ cal cal1 t one elt cond d s = .exc c l s3:=by
 unfold lcQ
 rw [hb]
 dsimp only
 rw [hc]
 show (ev Γ cal cal1 false elt s2).bind _=_
 rw [h];rfl
theorem qo (h:f d s = .exc c l s1):bw f (d :: r) acc s = .exc c l s1:=by
 show (f d s).bind _=_
 rw [h];rfl
end L2.Ev
end
section
namespace L2.Lx
abbrev Ch:=List Nat
def ch (x:θ):Ch:=x.cps.toList
def mk (w:Ch):θ:=⟨w.toArray⟩
theorem sV (x:θ):mk (ch x)=x:=by cases x;rfl
theorem ch_inj {x y:θ} (h:ch x=ch y):x=y:=by rw [← sV x,h,sV]
theorem ch_app (x y:θ):ch (x ++ y)=ch x ++ ch y:=by
 show (x.cps ++ y.cps).toList=_
 rw [FX];rfl
theorem ch_len (x:θ):x.length=(ch x).length:=by show x.cps.size=x.cps.toList.length;rw [ũ]
def spl (c:Nat):Ch→List Ch
 | []=>[[]]
 | x :: r=>if x=c then [] :: spl c r else match spl c r with | []=>[[x]] | w :: ws=>(x :: w) :: ws
def jz (z:Ch):List Ch→Ch
 | []=>[]
 | [p]=>p
 | p :: q :: r=>p ++ z ++ jz z (q :: r)
theorem spl_cons (c x:Nat) (r:Ch):spl c (x :: r)=if x=c then [] :: spl c r else match spl c r with | []=>[[x]] | w :: ws=>(x :: w) :: ws:=rfl
theorem mK (c:Nat):∀ l,spl c l≠[]
 | []=>by simp [spl]
 | x :: r=>by
   unfold spl
   split
   ·simp
   ·split <;> simp
theorem dD (c:Nat):∀ l,c ∉ l→spl c l = [l]
 | [],_=>rfl
 | x :: r,h=>by
   have h1:x≠c:=fun e=>h (e ▸ ι)
   unfold spl
   rw [ZY h1,dD c r fun m=>h (ν _ m)]
theorem eJ (c:Nat) (b:Ch):∀ a,spl c (a ++ c :: b)=spl c a ++ spl c b
 | []=>by rw [é,spl_cons,ZZ rfl];rfl
 | x :: r=>by
   rw [Ė,spl_cons,spl_cons,eJ c b r]
   split
   ·rfl
   ·cases e:spl c r with
    | nil=>exact ZX e (mK c r)
    | cons w ws=>rfl
theorem t8 (c:Nat):∀ ps:List Ch,ps≠[]→(∀ p∈ps,c ∉ p)→spl c (jz [c] ps)=ps
 | [p],_,h=>dD c p (h p ι)
 | p :: q :: r,_,h=>by
   show spl c (p ++ [c] ++ jz [c] (q :: r))=_
   rw [Ι]
   show spl c (p ++ c :: jz [c] (q :: r))=_
   rw [eJ,dD c p (h p ι),t8 c (q :: r) (by simp) fun x m=>h x (ν _ m)]
   rfl
theorem r6 (c:Nat) (z:Ch):∀ l:Ch,jz z (spl c l)=l.flatMap fun x=>if x=c then z else [x]
 | []=>rfl
 | x :: r=>by
   have ih:=r6 c z r
   rw [Ì,← ih,spl_cons]
   by_cases h:x=c
   ·rw [ZZ h,ZZ h]
    cases e:spl c r with
    | nil=>exact ZX e (mK c r)
    | cons w ws=>show [] ++ z ++ jz z (w :: ws)=_;rw [é]
   ·rw [ZY h,ZY h]
    cases e:spl c r with
    | nil=>exact ZX e (mK c r)
    | cons w ws=>cases ws with
      | nil=>rfl
      | cons v vs=>rfl
theorem jj (z:θ):∀ ps:List θ,ch (Ď z ps)=jz (ch z) (ps.map ch)
 | []=>rfl
 | [p]=>rfl
 | p :: q :: r=>by
   show ch (p ++ z ++ Ď z (q :: r))=_
   rw [ch_app,ch_app,jj z (q :: r)]
   rfl
theorem ua (x:θ) (y:θ):Í x y≠[]:=by
 unfold Í
 split
 ·simp
 ·split
  ·simp
  ·intro h
   have:=ZS List.length h
   rw [DM] at this
   cases this
theorem split_ch (x:θ) (c:Nat):(Í x ⟨#[c]⟩).map ch=spl c (ch x):=by
 have h1:=jj ⟨#[c]⟩ (Í x ⟨#[c]⟩)
 rw [StrLaws.join_split] at h1
 rw [h1]
 exact (t8 c _ (by simp [ua]) fun p m=>by
  obtain ⟨q,hq,rfl⟩:=Ú.mp m
  exact StrLaws.split_free x c q hq).symm
theorem split_mk (x:θ) (c:Nat):Í x ⟨#[c]⟩=(spl c (ch x)).map mk:=by
 rw [← split_ch,HX]
 exact (List.map_id' _).symm.trans (G6 fun y _=>(sV y).symm)
theorem replace_ch (x z:θ) (c:Nat):ch (ă x ⟨#[c]⟩ z)=(ch x).flatMap fun y=>if y=c then ch z else [y]:=by
 rw [StrLaws.replace_one,jj,split_ch,r6]
def sp (x:Nat):Ch:=if x=40 then [32,40,32] else if x=41 then [32,41,32] else [x]
def lex (l:Ch):List Ch:=(spl 32 (l.flatMap sp)).filter fun w=>!w.isEmpty
theorem lex_bl (a b:Ch):lex (a ++ 32 :: b)=lex a ++ lex b:=by
 unfold lex
 rw [G9,Ì,show sp 32 = [32] from rfl]
 rw [show [32] ++ b.flatMap sp=32 :: b.flatMap sp from rfl,eJ,Ż]
theorem lex_br (a b:Ch) (c:Nat) (h:c=40∨c=41):lex (a ++ c :: b)=lex a ++ [c] :: lex b:=by
 unfold lex
 rw [G9,Ì,show sp c = [32,c,32] by rcases h with rfl | rfl <;> rfl]
 show (spl 32 (_ ++ 32 :: ([c] ++ 32 :: _))).filter _=_
 rw [eJ,eJ,dD 32 [c] (by rcases h with rfl | rfl <;> simp),Ż,Ż]
 rfl
def Wd (w:Ch):Prop:=w≠[]∧∀ x∈w,x≠32∧x≠40∧x≠41
theorem vc {w:Ch} (h:∀ x∈w,x≠32∧x≠40∧x≠41):w.flatMap sp=w:=by
 induction w with
 | nil=>rfl
 | cons x r ih=>
   obtain ⟨h1,h2,h3⟩:=h x ι
   rw [Ì,ih fun y m=>h y (ν _ m)]
   unfold sp
   rw [ZY h2,ZY h3];rfl
theorem lex_nil:lex [] = []:=rfl
theorem lex_wd {w:Ch} (h:Wd w):lex w = [w]:=by
 unfold lex
 rw [vc h.2,dD 32 w fun m=>(h.2 32 m).1 rfl]
 cases w with
 | nil=>exact ZX rfl h.1
 | cons x r=>rfl
def Sep (b:Ch):Prop:=b = []∨∃ x r,b=x :: r∧(x=32∨x=40∨x=41)
theorem yT {w b:Ch} (h:Wd w) (s:Sep b):lex (w ++ b)=w :: lex b:=by
 rcases s with rfl | ⟨x,r,rfl,q | q⟩
 ·rw [Ω,lex_wd h];rfl
 ·subst q
  rw [lex_bl,lex_wd h]
  rw [show (32 :: r:Ch) = [] ++ 32 :: r from rfl,lex_bl];rfl
 ·rw [lex_br _ _ _ q,lex_wd h]
  rw [show (x :: r:Ch) = [] ++ x :: r from rfl,lex_br _ _ _ q];rfl
def Tok (w:Ch):Prop:=w = [40]∨w = [41]∨Wd w
def Br (w:Ch):Prop:=w = [40]∨w = [41]
theorem yS {w b:Ch} (h:Tok w) (s:Br w∨Sep b):lex (w ++ b)=w :: lex b:=by
 rcases h with rfl | rfl | h
 ·exact lex_br [] b 40 (.inl rfl)
 ·exact lex_br [] b 41 (.inr rfl)
 ·rcases s with (rfl | rfl) | s
  ·exact lex_br [] b 40 (.inl rfl)
  ·exact lex_br [] b 41 (.inr rfl)
  ·exact yT h s
theorem jB (n:Nat) (b:Ch):lex (ξ n 32 ++ b)=lex b:=by
 induction n with
 | zero=>rfl
 | succ n ih=>rw [Ϯ];exact (lex_bl [] _).trans ih
def Con (T:Ch) (ws:List Ch) (br:Prop):Prop:=∀ b,br∨Sep b→lex (T ++ b)=ws ++ lex b
theorem con_nil:Con [] [] True:=fun b _=>rfl
theorem bP {T:Ch} {ws:List Ch} {br:Prop} {w:Ch} (n:Nat) (h:Con T ws br) (tw:Tok w) (g:0<n∨br∨Br w):Con (T ++ (ξ n 32 ++ w)) (ws ++ [w]) (Br w):=fun b s=>by
 rw [Ι,Ι,h,jB,yS tw s,Ι]
 ·rfl
 ·cases n with
  | succ n=>exact .inr (.inr ⟨32,_,by rw [Ϯ];rfl,.inl rfl⟩)
  | zero=>
    rcases g with g | g | g
    ·cases g
    ·exact .inl g
    ·rcases g with rfl | rfl
     ·exact .inr (.inr ⟨40,b,rfl,.inr (.inl rfl)⟩)
     ·exact .inr (.inr ⟨41,b,rfl,.inr (.inr rfl)⟩)
theorem lex_pad {T:Ch} {ws:List Ch} {br:Prop} (h:Con T ws br) (n m:Nat):L2.Lx.lex (ξ n 32 ++ (T ++ ξ m 32))=ws:=by
 rw [jB,h]
 ·have:=jB m []
  rw [Ω] at this
  rw [this];exact Ω _
 ·cases m with
  | zero=>exact .inr (.inl rfl)
  | succ m=>exact .inr (.inr ⟨32,_,by rw [Ϯ],.inl rfl⟩)
end L2.Lx
end
section
namespace L2.K16
open L2.Bk L2.Ev
def top (i:Nat):Ò:=HJ.main.body.getD i (.Pass ⟨0,0,0,0⟩)
def aJ (s:Ò) (j:Nat):Ò:=match s with
 | .ClassDef _ _ _ body _ _ _ _ _ _ _=>body.getD j (.Pass ⟨0,0,0,0⟩)
 | _=>.Pass ⟨0,0,0,0⟩
def fnl:List (θ×Ò):=(List.append [("form",top 12),("read",top 29),("words_in",top 30),("leaf",top 32),("is_number",top 33),("only_signs",top 34),("given_of",top 35),("name_of",top 36),("_law_cell_at",top 38),("_law_alike",top 39),("_law_sort",top 40),("_law_rows",top 41),("_law_around",top 42),("_law_nested",top 43),("_law_figures",top 44),("_law_letters",top 45)] [("_law_deep_kind",top 46),("_law_length",top 47),("_law_noughts",top 48),("_law_named",top 49),("_law_bounded",top 50),("_law_right",top 51),("law",top 52)])
def mel:List (θ×θ×Ò):=[("__init__","Reader.__init__",aJ (top 31) 0),("peek","Reader.peek",aJ (top 31) 1),("take","Reader.take",aJ (top 31) 2),("need_closed","Reader.need_closed",aJ (top 31) 3),("need_end","Reader.need_end",aJ (top 31) 4),("new_place","Reader.new_place",aJ (top 31) 5),("read_node","Reader.read_node",aJ (top 31) 6),("read_bracketed","Reader.read_bracketed",aJ (top 31) 7),("read_things","Reader.read_things",aJ (top 31) 8),("read_thing","Reader.read_thing",aJ (top 31) 9),("read_row","Reader.read_row",aJ (top 31) 10),("read_one_kind","Reader.read_one_kind",aJ (top 31) 11)]
def gll:List (θ×Dk):=[("MOST_NODES",(.int 120)),("MOST_NEST",(.int 8)),("TRUTHS",(.tup [(.str "yes"),(.str "no")])),("MOST_FIGURES",(.int 40)),("FIGURES",(.str "0123456789")),("MOST_LETTERS",(.int 8)),("LETTERS",(.str "abcdefghijklmnopqrstuvwxyz")),("SIGNS",(.tup [(.str "+"),(.str "-"),(.str "*"),(.str "<"),(.str "=")])),("BRACKETED",(.tup [(.str "given"),(.str "fn"),(.str "self"),(.str "call"),(.str "let"),(.str "if"),(.str "row"),(.str "at"),(.str "size"),(.str "pair"),(.str "one"),(.str "two"),(.str "as")])),("MOST_GIVEN",(.int 7)),("MOST_IN_ROW",(.int 4)),("MOST_DEPTH",(.int 6)),("SIMPLE_KINDS",(.tup [(.str "whole"),(.str "truth"),(.str "?")])),("MOST_SIGNS",(.int 2000))]
def wG:List (θ×Dk):=[("whole",(.tup [(.str "number")])),("truth",(.tup [(.str "truth")])),("given",(.tup [(.str "given")])),("name",(.tup [(.str "name")])),("fn",(.tup [(.str "name"),(.str "kind"),(.str "node")])),("self",(.tup [(.str "name"),(.str "name"),(.str "kind"),(.str "kind"),(.str "node")])),("call",(.tup [(.str "node"),(.str "node")])),("let",(.tup [(.str "name"),(.str "node"),(.str "node")])),("if",(.tup [(.str "node"),(.str "node"),(.str "node")])),("do",(.tup [(.str "sign"),(.str "node"),(.str "node")])),("row",(.tup [(.str "kind"),(.str "nodes")])),("at",(.tup [(.str "node"),(.str "node")])),("size",(.tup [(.str "node")])),("pair",(.tup [(.str "node"),(.str "node")])),("one",(.tup [(.str "node")])),("two",(.tup [(.str "node")])),("as",(.tup [(.str "kind"),(.str "node")])),("look",(.tup [(.str "put in"),(.str "put in"),(.str "node")]))]
def jS:List (θ×Dk):=[("to",(.int 2)),("row",(.int 1)),("pair",(.int 2))]
def tbl:List (θ×List (θ×Dk)):=[("FORMS",wG),("KIND_PARTS",jS)]
def T:Ns where
 gl:=gll.map (·.1)
 tb:=tbl.map (·.1)
 fn:=fnl.map (·.1)
 at_:=["place","kind","by","wanted","way","words","taken","nodes"]
 bl:=["str","min","range","int","tuple","reversed","len","max","all","isinstance","bool","list","ValueError"]
 me:=[("peek",9,24),("take",9,25),("need_closed",9,26),("need_end",9,27),("new_place",9,28),("read_node",9,29),("read_bracketed",9,30),("read_things",9,31),("read_thing",9,32),("read_row",9,33),("read_one_kind",9,34)]
 ex:=["","","","","","","","","",""]
 nd:=["","","","","","","","","",""]
 nw:=["","","","","","","","","","Reader"]
 hx:=["BlameError","NoText","NoPart","TooMany","NoName","TooDeep","NoFit","NoLook","Parted",""]
 hc:=["read"]
 xt:=["","NoText","","","","","","","",""]
 vx:=true
def Γ:Gm:=⟨gll.map (·.2),tbl.map (·.2),((fnl.map fun p=>(p.1,p.1,p.2)) ++ mel).map fun p=>cT T p.2.2,[⟨2,[],0,[],[1000],[]⟩,⟨2,[],0,[],[0,1000],[]⟩,⟨2,[],0,[],[0,1000],[]⟩,⟨2,[],0,[],[0,1000],[]⟩,⟨2,[0],0,[],[0,1000],[0]⟩,⟨2,[0],0,[],[0,1000],[0]⟩,⟨2,[0],0,[],[0,1000],[0]⟩,⟨2,[0],0,[],[0,1000],[0]⟩,⟨2,[0,1,2,3,4],0,[],[0,1000],[0,2]⟩,⟨0,[5,6,7],23,[],[],[]⟩]⟩
abbrev yk:Nat:=0
abbrev rY:Nat:=1
abbrev gJ:Nat:=2
abbrev yl:Nat:=3
abbrev kB:Nat:=4
def bU:Fn:=cT T (top 34)
abbrev bV:Nat:=5
abbrev lW:Nat:=6
abbrev qh:Nat:=7
abbrev gG:Nat:=8
def jp:Fn:=cT T (top 39)
abbrev bC:Nat:=9
abbrev ky:Nat:=10
def kf:Fn:=cT T (top 41)
abbrev bQ:Nat:=11
abbrev iy:Nat:=12
def dO:Fn:=cT T (top 43)
abbrev dR:Nat:=13
def gD:Fn:=cT T (top 44)
abbrev gH:Nat:=14
abbrev gI:Nat:=15
def eW:Fn:=cT T (top 46)
abbrev bI:Nat:=16
abbrev iz:Nat:=17
abbrev az:Nat:=18
abbrev jx:Nat:=19
abbrev bD:Nat:=20
abbrev jy:Nat:=21
abbrev Bs:Nat:=22
abbrev dP:Nat:=24
abbrev dQ:Nat:=25
abbrev bf:Nat:=26
abbrev cu:Nat:=27
abbrev bY:Nat:=28
abbrev dX:Nat:=29
abbrev aP:Nat:=30
abbrev dy:Nat:=31
abbrev dN:Nat:=32
abbrev eg:Nat:=33
abbrev cO:Nat:=34
open L2.Lx (ch ch_len ch_app)
inductive L3 where
 | whole | truth | unt
 deriving DecidableEq
inductive H2 where
 | to | pair
 deriving DecidableEq
def L3.str:L3→θ
 | .whole=>"whole" | .truth=>"truth" | .unt=>"?"
def H2.str:H2→θ
 | .to=>"to" | .pair=>"pair"
inductive Kd where
 | lf (l:L3) | row (a:Kd) | two (h:H2) (a b:Kd)
def Kd.dep:Kd→Nat
 | .lf _=>1 | .row a=>1+a.dep | .two _ a b=>1+max a.dep b.dep
def Kd.toD:Kd→D
 | .lf l=>.tup [.str l.str]
 | .row a=>.tup [.str "row",a.toD]
 | .two h a b=>.tup [.str h.str,a.toD,b.toD]
def Kd.tok:Kd→List θ
 | .lf l=>[l.str]
 | .row a=>"(" :: "row" :: (a.tok ++ ([")"]:List θ))
 | .two h a b=>"(" :: h.str :: (a.tok ++ (b.tok ++ ([")"]:List θ)))
theorem Kd.dep1 (k:Kd):1≤k.dep:=by cases k <;> simp only [Kd.dep] <;> omega
inductive Hd where
 | fn | self | call | let_ | if_ | do_ | row | at_ | size | pair | one | two | as_
 deriving DecidableEq
def Hd.str:Hd→θ
 | .fn=>"fn" | .self=>"self" | .call=>"call" | .let_=>"let" | .if_=>"if" | .do_=>"do" | .row=>"row" | .at_=>"at" | .size=>"size" | .pair=>"pair" | .one=>"one" | .two=>"two" | .as_=>"as"
def Hd.nf:Hd→Nat
 | .fn=>1 | .self=>2 | .let_=>1 | _=>0
def Hd.nk:Hd→Nat
 | .fn=>1 | .self=>2 | .row=>1 | .as_=>1 | _=>0
def Hd.np:Hd→Nat
 | .if_=>3 | .call=>2 | .let_=>2 | .do_=>2 | .at_=>2 | .pair=>2 | _=>1
abbrev sgs:List θ:=["+","-","*","<","="]
abbrev sD (l:List θ):List D:=l.map D.str
abbrev aj (i:Int):θ:=Ñ (toString i)
inductive Tr where
 | num (i:Int) | tru (b:Bool) | giv (k:Nat) | nam (w:θ)
 | nd (h:Hd) (fr:List θ) (ks:List Kd) (ps:List Tr)
def Hd.pre (h:Hd):List θ:=if h = .do_ then [] else [h.str]
mutual
noncomputable def Tr.sz:Tr→Nat
 | .nd _ _ _ ps=>1+szs ps
 | _=>1
noncomputable def szs:List Tr→Nat
 | []=>0
 | p :: r=>p.sz+szs r
end
mutual
noncomputable def Tr.tok:Tr→List θ
 | .num i=>[aj i]
 | .tru b=>[if b then "yes" else "no"]
 | .giv k=>["(","given",aj k,")"]
 | .nam w=>[w]
 | .nd h fr ks ps=>"(" :: ((h.pre ++ fr) ++ (ks.flatMap Kd.tok ++ (toks ps ++ ([")"]:List θ))))
noncomputable def toks:List Tr→List θ
 | []=>[]
 | p :: r=>p.tok ++ toks r
end
mutual
noncomputable def Tr.toD (f:Nat→Int) (n:Nat):Tr→D
 | .num i=>.tup [.str "whole",.int (f n),.int i]
 | .tru b=>.tup [.str "truth",.int (f n),.bl b]
 | .giv k=>.tup [.str "given",.int (f n),.int (k:Nat)]
 | .nam w=>.tup [.str "name",.int (f n),.str w]
 | .nd h fr ks ps=>.tup (.str h.str :: .int (f n) :: ((sD fr ++ ks.map Kd.toD) ++ (if h = .row then [.tup (toDs f (n+1) ps)] else toDs f (n+1) ps)))
noncomputable def toDs (f:Nat→Int) (n:Nat):List Tr→List D
 | []=>[]
 | p :: r=>p.toD f n :: toDs f (n+p.sz) r
end
abbrev Nm (w:θ):Prop:=(1≤w.length∧w.length≤8)∧(∀ c∈ch w,97≤c∧c≤122)∧w≠"yes"∧w≠"no"
def dL (h:Hd) (fr:List θ):Prop:=if h = .do_ then ∃ s∈sgs,fr = [s] else fr.length=h.nf∧∀ w∈fr,Nm w
def pH (h:Hd) (n:Nat):Prop:=if h = .row then n≤4 else n=h.np
inductive Ok:Nat→Tr→Prop
 | num (r i):i.natAbs<10 ^ 40→Ok (r+1) (.num i)
 | tru (r b):Ok (r+1) (.tru b)
 | giv (r k):k≤7→Ok (r+1) (.giv k)
 | nam (r w):Nm w→Ok (r+1) (.nam w)
 | nd (r h fr ks ps):dL h fr→ks.length=h.nk→(∀ k∈ks,k.dep≤6)→pH h ps.length→(∀ p∈ps,Ok r p)→Ok (r+1) (.nd h fr ks ps)
theorem zL (a b:List θ):sD (a ++ b)=sD a ++ sD b:=ϗ
open L2.Lx (ch ch_len ch_app Tok Wd Br)
abbrev lpS:θ:="("
abbrev rpS:θ:=")"
abbrev blS:θ:=" "
abbrev emS:θ:=""
abbrev FIG:θ:="0123456789"
abbrev LET:θ:="abcdefghijklmnopqrstuvwxyz"
theorem ri (S:θ) (c:Nat):Il S ⟨#[c]⟩=decide (c∈ch S):=StrLaws.found_one S c
theorem pw (w:θ) (c:Nat):Ŧ w ⟨#[c]⟩=decide ((ch w).head? = some c):=by
 have h:=StrLaws.subAt_one w c 0
 rw [ś,decide_eq_true_eq]
 show (decide (0+(⟨#[c]⟩:θ).length≤w.length) && Builtin.Str.subAt w ⟨#[c]⟩ 0)=true↔_
 rw [ω,decide_eq_true_eq,h,List.head?_eq_getElem?];rfl
theorem zR (w:θ) (h:1≤w.length):ch (Ϥ w (some 1) none)=(ch w).drop 1:=by
 have e:Ϥ w (some 1) none=è w (some ((1:Nat):Int)) (some (w.length:Int)):=by
  unfold Ϥ è
  rw [Eo];rfl
 rw [e,ņ w h (Ϗ _)]
 show ((ch w).drop 1).take (w.length - 1)=_
 rw [ő]
 rw [ù,← ch_len];exact Ϗ _
abbrev dg (m:Nat):List Nat:=(Ip 10 m).map Ž
theorem fO (m:Nat):∀ c∈dg m,48≤c∧c≤57:=by
 intro c hc
 obtain ⟨ch,hch,e⟩:=Ú.mp hc
 rw [← e]
 exact digit_range (Nat.isDigit_of_mem_toDigits (by decide) (by decide) hch)
theorem jm (m:Nat):dg m≠[]:=fun e=>by
 have h:=toDigits_len_ge 10 m
 rw [List.map_eq_nil_iff.mp e] at h
 exact ZX h (by decide)
theorem jk {m:Nat} (h:m<10 ^ 40):(dg m).length≤40:=by
 rw [Β]
 exact (İ (by decide) (by decide)).mpr h
theorem m7:∀ m:Nat,0<m→(dg m).head?≠some 48:=fun m=>by
 induction m using Nat.strongRecOn with
 | _ m ih=>
   intro h
   by_cases c:m<10
   ·rw [dg,Nat.toDigits_of_lt_base c]
    have:∀ d,d<10→0<d→(List.map Ž [Nat.digitChar d]).head?≠some 48:=by decide
    exact this m c h
   ·have n:=jm (m / 10)
    rw [dg,Nat.toDigits_of_base_le (by decide) (by omega),ϗ]
    have i:=ih (m / 10) (by omega) (by omega)
    cases e:dg (m / 10) with
    | nil=>exact ZX e n
    | cons a r=>rw [e] at i;rw [show (List.map Ž (Ip 10 (m / 10)))=a :: r from e];exact i
theorem bx (m:Nat):ch (aj (m:Nat))=dg m:=PySem.W.KIN.signs_num m
theorem dk (m:Nat):ch (aj (Ũ m))=45 :: dg (m+1):=by
 show (Ñ (toString (Ũ m))).cps.toList=_
 rw [signs_ofString]
 show ("-" ++ Nat.repr (m+1)).toList.map Ž=_
 rw [String.toList_append,ϗ,Nat.toList_repr]
 rfl
theorem eB {i:Int} (h:i.natAbs<10 ^ 40):(aj i).length≤41:=by
 rw [ch_len]
 cases i with
 | ofNat m=>have:=jk (m:=m) h;rw [show ch (aj (Ű m))=dg m from bx m];omega
 | negSucc m=>have:=jk (m:=m+1) h;rw [dk,Ε];omega
theorem kK {i:Int} (h:i.natAbs<10 ^ 40):ñ (aj i)=some i:=by
 have l:=eB h
 cases i with
 | ofNat m=>
   have s:(aj (Ű m)).cps.toList=dg m:=bx m
   have e:=Fx (x:=aj (Ű m)) (by rw [s];exact fO m) (by rw [s];exact jm m) (by omega)
   rw [s,Ep] at e
   exact e
 | negSucc m=>
   have e:=intText_neg (x:=aj (Ũ m)) (dk m) (fO (m+1)) (jm (m+1)) (by omega)
   rw [Ep] at e
   rw [e];rfl
def bz (l:List Nat):List Nat:=if l.head? = some 45 then l.drop 1 else l
abbrev dA (S:θ) (l:List Nat):Bool:=l.all fun c=>decide (c∈ch S)
def bT (w:θ):Bool:=(decide (1≤(bz (ch w)).length∧(bz (ch w)).length≤40) && dA FIG (bz (ch w))) && (w == "0" || !decide ((bz (ch w)).head? = some 48))
def bZ (w:θ):Bool:=!(w == "yes" || w == "no") && (decide (1≤w.length∧w.length≤8) && dA LET (ch w))
theorem jr (c:Nat):c∈ch FIG↔48≤c∧c≤57:=by
 rw [show ch FIG=ô 48 10 by decide +kernel,ĉ];omega
theorem l6 (c:Nat):c∈ch LET↔97≤c∧c≤122:=by
 rw [show ch LET=ô 97 26 by decide +kernel,ĉ];omega
theorem u9 {l:List Nat} (h:∀ c∈l,48≤c∧c≤57):dA FIG l=true:=Λ.mpr fun c m=>ZW ((jr c).mpr (h c m))
theorem fW {i:Int} (h:i.natAbs<10 ^ 40):bT (aj i)=true:=by
 have go:∀ m:Nat,m<10 ^ 40→bz (ch (aj i))=dg m→(m=0→aj i = "0")→bT (aj i)=true:=fun m hm hf h0=>by
  unfold bT
  rw [hf,u9 (fO m),ZW ⟨ġ.mpr (jm m),jk hm⟩]
  by_cases c:m=0
  ·rw [h0 c];rfl
  ·rw [ZV (m7 m (by omega))];simp
 cases i with
 | ofNat m=>
   refine go m h ?_ (fun e=>by subst e;decide +kernel)
   rw [show ch (aj (Ű m))=dg m from bx m]
   unfold bz
   rw [ZY]
   intro e
   have:=fO m 45 (GN e)
   omega
 | negSucc m=>
   refine go (m+1) h ?_ (fun e=>ZX e (by omega))
   rw [dk];rfl
theorem iX {w:θ} (h:Nm w):bZ w=true:=by
 unfold bZ
 rw [ZU.mpr h.2.2.1,ZU.mpr h.2.2.2,ZW h.1]
 exact Λ.mpr fun c m=>ZW ((l6 c).mpr (h.2.1 c m))
theorem mZ {w:θ} (h:1≤w.length):∃ a r,ch w=a :: r:=by
 rw [ch_len] at h
 cases e:ch w with
 | nil=>rw [e] at h;cases h
 | cons a r=>exact ⟨a,r,rfl⟩
theorem sY {w:θ} (h:Nm w):bT w=false:=by
 obtain ⟨a,r,e⟩:=mZ h.1.1
 have ha:=h.2.1 a (by rw [e];exact ι)
 have f:bz (ch w)=a :: r:=by
  rw [e];unfold bz;rw [ZY]
  simp;omega
 unfold bT
 rw [f]
 have:dA FIG (a :: r)=false:=by
  rw [D9]
  intro q
  have:=(jr a).mp (of_decide_eq_true (Λ.mp q a ι))
  omega
 rw [this];simp
structure Kw (w:θ):Prop where
 len:w.length≤42
 tok:Tok (ch w)
 asc:∀ c∈ch w,c<128
def kwB (w:θ):Bool:=decide (w.length≤42∧(∀ c∈ch w,c<128)∧((ch w = [40]∨ch w = [41])∨(ch w≠[]∧∀ x∈ch w,x≠32∧x≠40∧x≠41)))
theorem eh {w:θ} (h:kwB w=true):Kw w:=by
 have h:=of_decide_eq_true h
 exact ⟨h.1,h.2.2.elim (fun q=>q.elim .inl fun q=>.inr (.inl q)) fun q=>.inr (.inr q),h.2.1⟩
theorem xg {w:θ} (h:Nm w):Kw w:=by
 obtain ⟨a,r,e⟩:=mZ h.1.1
 exact ⟨by have:=h.1.2;omega,.inr (.inr ⟨by rw [e];simp,fun x m=>by have:=h.2.1 x m;omega⟩),fun c m=>by have:=h.2.1 c m;omega⟩
theorem gM {i:Int} (h:i.natAbs<10 ^ 40):Kw (aj i):=by
 have l:=eB h
 have go:(∀ c∈ch (aj i),c=45∨(48≤c∧c≤57))→ch (aj i)≠[]→Kw (aj i):=fun g n=>⟨by omega,.inr (.inr ⟨n,fun x m=>by have:=g x m;omega⟩),fun c m=>by have:=g c m;omega⟩
 cases i with
 | ofNat m=>
   have e:ch (aj (Ű m))=dg m:=bx m
   exact go (by rw [e];exact fun c q=>.inr (fO m c q)) (by rw [e];exact jm m)
 | negSucc m=>
   exact go (by rw [dk];exact fun c q=>by rcases υ.mp q with q | q;exact .inl q;exact .inr (fO (m+1) c q)) (by rw [dk];simp)
theorem By (l:L3):Kw l.str:=eh (by cases l <;> decide +kernel)
theorem Bu (h:H2):Kw h.str:=eh (by cases h <;> decide +kernel)
theorem Bv (h:Hd):Kw h.str:=eh (by cases h <;> decide +kernel)
theorem nX:Kw lpS:=eh (by decide +kernel)
theorem nY:Kw rpS:=eh (by decide +kernel)
theorem Bz {s:θ} (h:s∈sgs):Kw s:=eh ((by decide +kernel:∀ s∈sgs,kwB s=true) s h)
theorem kC:∀ (k:Kd),∀ w∈k.tok,Kw w
 | .lf l,w,h=>by simp only [Kd.tok,ε] at h;subst h;exact By l
 | .row a,w,h=>by
   simp only [Kd.tok,υ,ώ,ŀ,or_false] at h
   rcases h with rfl | rfl | h | rfl
   ·exact nX
   ·exact eh (by decide +kernel)
   ·exact kC a w h
   ·exact nY
 | .two q a b,w,h=>by
   simp only [Kd.tok,υ,ώ,ŀ,or_false] at h
   rcases h with rfl | rfl | h | h | rfl
   ·exact nX
   ·exact Bu q
   ·exact kC a w h
   ·exact kC b w h
   ·exact nY
theorem kG {w:θ}:∀ {ps:List Tr},w∈toks ps→∃ p∈ps,w∈p.tok
 | p :: r,h=>by
   rcases ώ.mp (show w∈p.tok ++ toks r from h) with h | h
   ·exact ⟨p,ι,h⟩
   ·obtain ⟨q,m,hq⟩:=kG h
    exact ⟨q,ν _ m,hq⟩
theorem A4 {h:Hd} {fr:List θ} (f:dL h fr):∀ w∈h.pre ++ fr,Kw w:=by
 intro w m
 unfold dL at f
 unfold Hd.pre at m
 by_cases c:h = .do_
 ·rw [ZZ c] at f m
  obtain ⟨s,hs,rfl⟩:=f
  rw [é,ε] at m
  subst m;exact Bz hs
 ·rw [ZY c] at f m
  rcases υ.mp m with rfl | m
  ·exact Bv h
  ·exact xg (f.2 w m)
theorem mM:∀ (r:Nat) (t:Tr),Ok r t→∀ w∈t.tok,Kw w
 | r+1,t,ok,w,m=>by
   cases ok with
   | num _ i h=>rw [ε.mp m];exact gM h
   | tru _ b=>rw [ε.mp m];cases b <;> exact eh (by decide +kernel)
   | giv _ k h=>
     rcases υ.mp m with rfl | m
     ·exact nX
     rcases υ.mp m with rfl | m
     ·exact eh (by decide +kernel)
     rcases υ.mp m with rfl | m
     ·exact gM (by show k<_;omega)
     ·rw [ε.mp m];exact nY
   | nam _ w h=>rw [ε.mp m];exact xg h
   | nd _ h fr ks ps h1 h2 h3 h4 h5=>
     rcases υ.mp m with rfl | m
     ·exact nX
     rcases ώ.mp m with m | m
     ·exact A4 h1 w m
     rcases ώ.mp m with m | m
     ·obtain ⟨k,hk,m⟩:=List.mem_flatMap.mp m;exact kC k w m
     rcases ώ.mp m with m | m
     ·obtain ⟨p,hp,m⟩:=kG m;exact mM r p (h5 p hp) w m
     ·rw [ε.mp m];exact nY
open L2.Lx (ch Con Tok Br Wd bP Sep ch_app ch_len)
theorem s9 (a b:θ):opD .ne (.str a) (.str b)=some (.bl (!(a == b))):=rfl
theorem qA {a b:θ} (h:a≠b):opD .ne (.str a) (.str b)=some (.bl true):=by rw [s9,ZU.mpr h];rfl
theorem aM {a b:θ} (h:a.length+b.length≤100000):opD .add (.str a) (.str b)=some (.str (a ++ b)):=by
 show fP _ _=_;unfold fP;rw [ZZ h]
theorem af (a b:θ):(a ++ b).length=a.length+b.length:=by
 rw [L2.Lx.ch_len,L2.Lx.ch_len,L2.Lx.ch_len,L2.Lx.ch_app,Δ]
open L2.Lx (ch Con Tok Br Wd bP Sep ch_app ch_len)
abbrev spL:θ:=" ( "
abbrev spR:θ:=" ) "
def b7 (T:θ):θ:=ă (ă T lpS spL) rpS spR
def bp (T:θ):List θ:=(Í (b7 T) blS).filter (fun w=>!(w == emS))
theorem tZ (T:θ):ch (b7 T)=(ch T).flatMap L2.Lx.sp:=by
 unfold b7
 rw [show rpS=(⟨#[41]⟩:θ) by decide +kernel,show lpS=(⟨#[40]⟩:θ) by decide +kernel,L2.Lx.replace_ch,L2.Lx.replace_ch,List.flatMap_assoc]
 refine ZS (fun f=>List.flatMap f (ch T)) (funext fun x=>?_)
 unfold L2.Lx.sp
 by_cases h:x=40
 ·rw [ZZ h,ZZ h];decide +kernel
 ·rw [ZY h,ZY h,Ì,List.flatMap_nil,Ω]
  by_cases g:x=41
  ·rw [ZZ g,ZZ g];decide +kernel
  ·rw [ZY g,ZY g]
theorem qR (T:θ):(bp T).map ch=L2.Lx.lex (ch T):=by
 have h1:=tZ T
 unfold bp L2.Lx.lex
 rw [← h1,show blS=(⟨#[32]⟩:θ) by decide +kernel,← L2.Lx.split_ch,List.filter_map]
 refine ZS (List.map ch) (D6 fun w _=>?_)
 show (!(w == emS)) = !(ch w).isEmpty
 by_cases e:w=emS
 ·subst e;decide +kernel
 ·rw [ZU.mpr e]
  cases q:ch w with
  | nil=>exact ZX (L2.Lx.ch_inj (q.trans (by decide +kernel))) e
  | cons a b=>rfl
theorem oq:∀ a b:List θ,a.map ch=b.map ch→a=b
 | [],[],_=>rfl
 | x :: a,y :: b,h=>by
   rw [ë,ë] at h
   rw [L2.Lx.ch_inj (Gv h).1,oq a b (Gv h).2]
theorem uu {T:θ} {ws:List θ} (h:L2.Lx.lex (ch T)=ws.map ch):bp T=ws:=by
 have:=(qR T).trans h
 exact oq _ _ this
section
variable {m:Nat} {S:List O}
abbrev wE:E:=.v 0
abbrev wC:E:=.op .ne (.v 0) (.c (.str emS))
theorem jV (t0 s0:D):∀ (l:List θ) (acc:List D) (e:Option D),acc.length+l.length<100000→∃ e':Option D,bw (lcQ Γ (ai Γ m) (aA Γ m) [0] true wE wC) (sD l) acc ⟨[e,some t0,some s0],[],S⟩ = .ok (.lst (acc ++ sD (l.filter (fun w=>!(w == emS))))) ⟨[e',some t0,some s0],[],S⟩
 | [],acc,e,_=>⟨e,by rw [List.filter_nil];simp [bw]⟩
 | w :: l,acc,e,h=>by
   simp only [Ε] at h
   have ne:=s9 w emS
   have cd:ev Γ (ai Γ m) (aA Γ m) true wC ⟨[some (.str w),some t0,some s0],[],S⟩ = .ok (.bl (!(w == emS))) ⟨[some (.str w),some t0,some s0],[],S⟩:=(iu false (aX 0 (ne) aZ) (by kernel_rfl))
   cases b:!(w == emS) with
   | false=>
     obtain ⟨e',g⟩:=jV t0 s0 l acc (some (.str w)) (by omega)
     rw [b] at cd
     refine ⟨e',?_⟩
     rw [H5,b]
     exact vk (yx rfl cd) g
   | true=>
     obtain ⟨e',g⟩:=jV t0 s0 l (acc ++ [.str w]) (some (.str w)) (by rw [Δ,ϕ];omega)
     rw [b] at cd
     refine ⟨e',?_⟩
     rw [H5,b]
     have el:ev Γ (ai Γ m) (aA Γ m) false wE ⟨[some (.str w),some t0,some s0],[],S⟩ = .ok (.str w) ⟨[some (.str w),some t0,some s0],[],S⟩:=rfl
     rw [Ι] at g
     exact eu (gN rfl cd el) (by omega) g
theorem pt (c:Nat):∀ l:List Nat,(L2.Lx.spl c l).length≤l.length+1
 | []=>by simp [L2.Lx.spl]
 | x :: r=>by
   have ih:=pt c r
   rw [L2.Lx.spl_cons]
   split
   ·simp only [Ε];omega
   ·split
    ·simp
    ·rename_i q;rw [q] at ih;simp only [Ε] at ih ⊢;omega
theorem wD (T:θ):(b7 T).length≤3 * T.length:=by
 rw [ch_len,ch_len]
 have h1:=tZ T
 rw [h1]
 generalize ch T=l
 induction l with
 | nil=>simp
 | cons x r ih=>
   rw [Ì,Δ,Ε]
   have:(L2.Lx.sp x).length≤3:=by
    unfold L2.Lx.sp
    split
    ·simp
    ·split <;> simp
   omega
theorem fY (T:θ):(ă T lpS spL).length≤3 * T.length:=by
 rw [ch_len,ch_len,show lpS=(⟨#[40]⟩:θ) by decide +kernel,L2.Lx.replace_ch]
 generalize ch T=l
 induction l with
 | nil=>simp
 | cons x r ih=>
   rw [Ì,Δ,Ε]
   have:(if x=40 then ch spL else [x]).length≤3:=by
    split
    ·decide +kernel
    ·simp
   omega
theorem uw (T:θ) (h:T.length≤2000):ai Γ (m+1) gJ [.str T] S = .ok (.lst (sD (bp T))) S:=by
 have l1:=fY T
 have l2:=wD T
 have a0:cf .len (.str T)=some (.int T.length):=by show (if _ then _ else _)=_;rw [ZZ (by omega)]
 have a1:opD .gt (.int T.length) (.int 2000)=some (.bl false):=by show some (D.bl (decide _))=_;rw [ZV (by omega)]
 have a2:smO (.rep lpS spL) (.str T)=some (.str (ă T lpS spL)):=by show (if _ then _ else _)=_;rw [ZZ ⟨by omega,by decide +kernel,by decide +kernel⟩]
 have a3:smO (.rep rpS spR) (.str (ă T lpS spL))=some (.str (b7 T)):=by show (if _ then _ else _)=_;rw [ZZ ⟨by omega,by decide +kernel,by decide +kernel⟩];rfl
 have a4:smO (.spl blS) (.str (b7 T))=some (.lst (sD (Í (b7 T) blS))):=by show (if _ then _ else _)=_;rw [ZZ ⟨by omega,by decide +kernel⟩]
 have l3:(Í (b7 T) blS).length≤6001:=by
  have:=pt 32 (ch (b7 T))
  rw [show blS=(⟨#[32]⟩:θ) by decide +kernel,L2.Lx.split_mk,Β]
  rw [ch_len] at l2;omega
 obtain ⟨e,lp⟩:=jV (m:=m) (S:=S) (.str T) (.str (b7 T)) (Í (b7 T) blS) [] none (by simp only [ÿ];omega)
 exact (aa true (aX 0 (a0) (aX 0 (a1) (aX 1 (a2) (aX 0 (a3) (aX 0 (a4) (aX 0 (lp) aZ)))))) (by kernel_rfl))
theorem uv (T:θ) (h:2000<T.length) (h2:T.length≤100000):ai Γ (m+1) gJ [.str T] S = .exc 1 [] S:=by
 have a0:cf .len (.str T)=some (.int T.length):=by show (if _ then _ else _)=_;rw [ZZ (by omega)]
 have a1:opD .gt (.int T.length) (.int 2000)=some (.bl true):=by show some (D.bl (decide _))=_;rw [ZW (by omega)]
 exact (aa false (aX 0 (a0) (aX 0 (a1) aZ)) (by kernel_rfl))
end
open L2.Lx (ch ch_app ch_len)
theorem xl {w:θ} (h:Nm w):w≠lpS∧w≠rpS:=⟨fun e=>by subst e;have:=h.2.1 40 (by decide +kernel);omega,fun e=>by subst e;have:=h.2.1 41 (by decide +kernel);omega⟩
theorem tI {i:Int} (h:i.natAbs<10 ^ 40):aj i≠lpS∧aj i≠rpS:=by
 have k:=(gM h)
 have go:∀ c,(c=40∨c=41)→c ∉ ch (aj i):=fun c hc m=>by
  have:=fW h
  cases i with
  | ofNat m'=>rw [show ch (aj (Ű m'))=dg m' from bx m'] at m;have:=fO m' c m;omega
  | negSucc m'=>rw [dk] at m;rcases υ.mp m with e | m;omega;have:=fO (m'+1) c m;omega
 exact ⟨fun e=>go 40 (.inl rfl) (by rw [e];decide +kernel),fun e=>go 41 (.inr rfl) (by rw [e];decide +kernel)⟩
def Hd.sorts:Hd→List θ
 | .fn=>["name","kind","node"] | .self=>["name","name","kind","kind","node"] | .call=>["node","node"] | .let_=>["name","node","node"] | .if_=>["node","node","node"] | .do_=>["sign","node","node"] | .row=>["kind","nodes"] | .at_=>["node","node"] | .size=>["node"] | .pair=>["node","node"] | .one=>["node"] | .two=>["node"] | .as_=>["kind","node"]
abbrev Hd.sn (h:Hd):θ:=if h = .do_ then "sign" else "name"
theorem tY (h:Hd):h.sorts=ξ (if h = .do_ then 1 else h.nf) h.sn ++ (ξ h.nk ("kind":θ) ++ (if h = .row then (["nodes"]:List θ) else ξ h.np ("node":θ))):=by cases h <;> rfl
abbrev alB:S:=gQ jp.body
inductive Pl:Nat→D→Prop
 | int (r i):Pl r (.int i)
 | bl (r b):Pl r (.bl b)
 | str (r x):Pl r (.str x)
 | tup (r l):l.length≤1000→(∀ d∈l,Pl r d)→Pl (r+1) (.tup l)
theorem Pl.up {d:D}:∀ {r q:Nat},Pl r d→r≤q→Pl q d:=by
 intro r
 induction r generalizing d with
 | zero=>intro q h _;cases h <;> constructor
 | succ r ih=>
   intro q h hq
   cases h with
   | int=>constructor
   | bl=>constructor
   | str=>constructor
   | tup _ l hl h=>obtain ⟨q,rfl⟩:∃ k,q=k+1:=⟨q - 1,by omega⟩;exact .tup q l hl fun d m=>ih (h d m) (by omega)
abbrev ixs (a k:Nat):List D:=(ô a k).map fun (i:Nat)=>.int (i:Int)
theorem hU {n:Nat} (h:n≤100000):Option.map D.lst (itD .range1 [.int (n:Nat)])=some (.lst (ixs 0 n)):=by
 have c:-(2 ^ 62)≤(n:Int)∧(n:Int)<2 ^ 62:=by omega
 have e:itD .range1 [.int (n:Nat)]=some (d3 0 (n:Int).toNat):=by
  show yj .range1 (.int (n:Nat))=_
  unfold yj
  exact ZZ c
 rw [e]
 show some (D.lst (d3 0 (n:Int).toNat))=_
 unfold d3 ixs
 rw [Int.toNat_natCast,List.range_eq_range']
 refine ZS (fun l=>some (D.lst l)) (G6 fun i _=>?_)
 rw [FJ]
section
variable {S:List O}
theorem xZ (i:Int):opD .eq (.int i) (.int i)=some (.bl true):=by show some (D.bl (i == i))=_;rw [ZT]
theorem rz (x:θ):opD .eq (.str x) (.str x)=some (.bl true):=by show some (D.bl (x == x))=_;rw [ZT]
theorem mV {m:Nat} (l:List D):∀ (k a:Nat),a+k=l.length→(∀ d∈l,ai Γ m bC [d,d] S = .ok (.bl true) S)→∀ e:Option D,∃ e':Option D,bv (fe Γ (ai Γ m) (aA Γ m) [2] true alB) (ixs a k) ⟨[some (.tup l),some (.tup l),e],[],S⟩ = .nx ⟨[some (.tup l),some (.tup l),e'],[],S⟩
 | 0,a,_,_,e=>⟨e,rfl⟩
 | k+1,a,hk,h,e=>by
   obtain ⟨e',g⟩:=mV l k (a+1) (by omega) h (some (.int (a:Int)))
   have hl:a<l.length:=by omega
   have x1:ixD (.tup l) (.int (a:Int))=some l[a]:=dI (Μ hl)
   have c:=h l[a] (ú hl)
   exact ⟨e',cF (cq rfl (fQ false (aX 0 (x1) (aX 0 (x1) (aX 0 (c) aZ))) (by kernel_rfl))) g⟩
theorem jZ:∀ (r:Nat) (d:D),Pl r d→∀ m,ai Γ (m+r+1) bC [d,d] S = .ok (.bl true) S
 | 0,d,h,m=>by
   cases h with
   | int _ i=>exact (aa false (aX 11 (xZ i) aZ) (by kernel_rfl))
   | bl _ b=>cases b <;> kernel_rfl
   | str _ x=>exact (aa false (aX 12 (rz x) aZ) (by kernel_rfl))
 | r+1,d,h,m=>by
   cases h with
   | int _ i=>exact (aa false (aX 11 (xZ i) aZ) (by kernel_rfl))
   | bl _ b=>cases b <;> kernel_rfl
   | str _ x=>exact (aa false (aX 12 (rz x) aZ) (by kernel_rfl))
   | tup _ l hl h=>
     have c:=fun d (md:d∈l)=>jZ r d (h d md) m
     obtain ⟨e',lp⟩:=mV (S:=S) (m:=m+r+1) l l.length 0 (by omega) c none
     have ne:opD .ne (.int (l.length:Nat)) (.int (l.length:Nat))=some (.bl false):=by show some (D.bl (!((l.length:Int) == l.length)))=_;rw [ZT];rfl
     have rg:=hU (n:=l.length) (by omega)
     exact (aa true (aX 18 (ne) (aX 2 (rg) (aX 0 (lp) aZ))) (by kernel_rfl))
end
theorem oO:∀ k:Kd,Pl k.dep k.toD
 | .lf l=>.tup 0 _ (by simp) fun d m=>by rw [ε.mp m];constructor
 | .row a=>by
   show Pl (1+a.dep) _
   rw [It]
   refine .tup _ _ (by simp) fun d m=>?_
   rcases υ.mp m with rfl | m
   ·constructor
   ·rw [ε.mp m];exact oO a
 | .two h a b=>by
   show Pl (1+max a.dep b.dep) _
   rw [It]
   refine .tup _ _ (by simp) fun d m=>?_
   rcases υ.mp m with rfl | m
   ·constructor
   rcases υ.mp m with rfl | m
   ·exact (oO a).up (by omega)
   ·rw [ε.mp m];exact (oO b).up (by omega)
theorem kF {f:Nat→Int} {d:D}:∀ {ps:List Tr} {n:Nat},d∈toDs f n ps→∃ p∈ps,∃ n,d=p.toD f n
 | p :: r,n,h=>by
   rcases υ.mp (show d∈p.toD f n :: toDs f (n+p.sz) r from h) with h | h
   ·exact ⟨p,ι,n,h⟩
   ·obtain ⟨q,m,h⟩:=kF h;exact ⟨q,ν _ m,h⟩
theorem eO {f:Nat→Int}:∀ (ps:List Tr) (n:Nat),(toDs f n ps).length=ps.length
 | [],n=>rfl
 | p :: r,n=>by show (toDs f (n+p.sz) r).length+1=_;rw [eO r];rfl
theorem BV {h:Hd} {n:Nat} (h4:pH h n):n≤4:=by unfold pH at h4;split at h4 <;> first | exact h4 | (rw [h4];cases h <;> decide)
theorem BT (h:Hd):h.nk≤2:=by cases h <;> decide
theorem yd {h:Hd} {fr:List θ} (h1:dL h fr):fr.length≤2:=by
 unfold dL at h1
 by_cases c:h = .do_
 ·rw [ZZ c] at h1;obtain ⟨s,_,rfl⟩:=h1;simp
 ·rw [ZY c] at h1;rw [h1.1];cases h <;> decide
theorem xu {f:Nat→Int}:∀ (r:Nat) (t:Tr),Ok r t→∀ n,Pl (2 * r+7) (t.toD f n)
 | r+1,t,ok,n=>by
   have two:∀ {a b c:D},(∀ q,Pl q a∧Pl q b∧Pl q c)→Pl (2 * (r+1)+7) (.tup [a,b,c]):=fun h=>.tup _ _ (by simp) fun d m=>by
    rcases υ.mp m with rfl | m
    ·exact (h _).1
    rcases υ.mp m with rfl | m
    ·exact (h _).2.1
    ·rw [ε.mp m];exact (h _).2.2
   cases ok with
   | num _ i h=>exact two fun q=>⟨.str ..,.int ..,.int ..⟩
   | tru _ b=>exact two fun q=>⟨.str ..,.int ..,.bl ..⟩
   | giv _ k h=>exact two fun q=>⟨.str ..,.int ..,.int ..⟩
   | nam _ w h=>exact two fun q=>⟨.str ..,.int ..,.str ..⟩
   | nd _ h fr ks ps h1 h2 h3 h4 h5=>
     have np:=BV h4
     have nk:=BT h
     have nf:=yd h1
     have ih:∀ n,∀ d∈toDs f n ps,Pl (2 * r+7) d:=fun n d m=>by obtain ⟨p,mp,n,rfl⟩:=kF m;exact xu r p (h5 p mp) n
     refine .tup (2 * r+8) _ ?_ fun d m=>?_
     ·simp only [Ε,Δ,Β]
      split
      ·simp only [ϕ];omega
      ·rw [eO];omega
     rcases υ.mp m with rfl | m
     ·constructor
     rcases υ.mp m with rfl | m
     ·constructor
     rcases ώ.mp m with m | m
     ·rcases ώ.mp m with m | m
      ·obtain ⟨w,_,rfl⟩:=Ú.mp m;constructor
      ·obtain ⟨k,mk,rfl⟩:=Ú.mp m;exact (oO k).up (by have:=h3 k mk;omega)
     ·by_cases c:h = .row
      ·rw [ZZ c] at m
       rw [ε.mp m]
       exact .tup _ _ (by rw [eO];omega) (ih (n+1))
      ·rw [ZY c] at m
       exact (ih (n+1) d m).up (by omega)
open L2.Lx (ch ch_app ch_len)
abbrev RS (ws:List θ) (t c:Nat):List O:=[.ins 9 [.lst (sD ws),.int t,.int c]]
abbrev RSr (ws r:List θ) (c:Nat):List O:=RS ws (ws.length - r.length) c
theorem rq {t k:Nat} (h:t=k):opD .eq (.int t) (.int k)=some (.bl true):=by subst h;exact xZ _
theorem ry {t k:Nat} (h:t≠k):opD .eq (.int t) (.int k)=some (.bl false):=by show some (D.bl ((t:Int) == k))=_;rw [ZU.mpr (by omega)]
section
variable {n:Nat} {ws r:List θ} {t c:Nat} {w:θ} {S:List O}
theorem sfx (h:(w :: r) <:+ ws):ws[ws.length - (w :: r).length]? = some w∧r <:+ ws∧ws.length - (w :: r).length+1=ws.length - r.length:=by
 obtain ⟨a,rfl⟩:=h
 refine ⟨?_,⟨a ++ [w],by simp⟩,?_⟩
 ·rw [Δ,GJ,ϋ (Ϗ _),Ŗ];rfl
 ·simp only [Δ,Ε];omega
theorem oN:ai Γ (n+1) dP [.ref 0] (RSr ws [] c) = .exc 1 [] (RSr ws [] c):=by
 have e:opD .eq (.int ((ws.length - 0:Nat):Int)) (.int ((sD ws).length:Nat))=some (.bl true):=rq (by rw [Β];rfl)
 exact (aa false (aX 3 (e) aZ) (by kernel_rfl))
theorem jK (h:(w :: r) <:+ ws):ai Γ (n+1) dP [.ref 0] (RSr ws (w :: r) c) = .ok (.str w) (RSr ws (w :: r) c):=by
 have hs:=sfx h
 have ht:ws.length - (w :: r).length<ws.length:=(κ.mp hs.1).1
 have e:opD .eq (.int ((ws.length - (w :: r).length:Nat):Int)) (.int ((sD ws).length:Nat))=some (.bl false):=ry (by rw [Β];omega)
 have e2:ixD (.lst (sD ws)) (.int ((ws.length - (w :: r).length:Nat):Int))=some (.str w):=dI (by rw [ϒ,hs.1];rfl)
 exact (aa false (aX 3 (e) (aX 3 (e2) aZ)) (by kernel_rfl))
theorem cS:ai Γ (n+2) dQ [.ref 0] (RSr ws [] c) = .exc 1 [] (RSr ws [] c):=by
 have p:=oN (n:=n) (ws:=ws) (c:=c)
 exact (aa false (aX 0 (p) aZ) (by kernel_rfl))
theorem uf {m:Nat}:exS Γ (ai Γ m) (aA Γ m) (.fld (.v 0) 6 (.op .add (.fld (.v 0) 6) (.c (.int 1)))) ⟨[some (.ref 0),some (.str w)],[],RS ws t c⟩ = .nx ⟨[some (.ref 0),some (.str w)],[],RS ws (t+1) c⟩:=by kernel_rfl
theorem cA (h:(w :: r) <:+ ws):ai Γ (n+2) dQ [.ref 0] (RSr ws (w :: r) c) = .ok (.str w) (RSr ws r c):=by
 have p:=jK (n:=n) (c:=c) h
 have f:=uf (ws:=ws) (t:=ws.length - (w :: r).length) (c:=c) (m:=n+1) (w:=w)
 rw [(sfx h).2.2] at f
 exact (aa false (aX 0 (p) (aX 0 (f) aZ)) (by kernel_rfl))
def Ow (w:θ):Prop:=w.length≤200∧∀ c∈w.cps.toList,c<16 ^ 8
theorem fz (h:Ow w):opD .add (.str w) (.str emS)=some (.str (w ++ emS)):=aM (by have:=h.1;rw [show emS.length=0 from rfl];omega)
theorem dJ (h:Ow w):cY Γ 1 [.str (w ++ emS)]=true:=by
 have e:w ++ emS=w:=L2.Lx.ch_inj (by rw [ch_app,show ch emS = [] by decide +kernel,Ω])
 rw [e]
 have h1:=StrLaws.reprText_len w h.2
 have h2:=h.1
 show (decide ((Hc w).length≤10000) && true)=true
 rw [ZW (by omega)];rfl
theorem dU:ai Γ (n+3) bf [.ref 0] (RSr ws [] c) = .exc 1 [] (RSr ws [] c):=by
 have p:=cS (n:=n) (ws:=ws) (c:=c)
 exact (aa false (aX 0 (p) aZ) (by kernel_rfl))
theorem eV (h:(rpS :: r) <:+ ws):ai Γ (n+3) bf [.ref 0] (RSr ws (rpS :: r) c) = .ok .non (RSr ws r c):=by
 have p:=cA (n:=n) (c:=c) h
 exact (aa false (aX 0 (p) aZ) (by kernel_rfl))
theorem eU (h:(w :: r) <:+ ws) (hw:w≠rpS) (hl:Ow w):ai Γ (n+3) bf [.ref 0] (RSr ws (w :: r) c) = .exc 1 [] (RSr ws r c):=by
 have p:=cA (n:=n) (c:=c) h
 exact (aa false (aX 0 (p) (aX 0 (qA hw) (aX 1 (fz hl) (aX 0 (dJ hl) aZ)))) (by kernel_rfl))
theorem zA {m:Nat}:exS Γ (ai Γ m) (aA Γ m) (.fld (.v 0) 7 (.op .add (.fld (.v 0) 7) (.c (.int 1)))) ⟨[some (.ref 0)],[],RS ws t c⟩ = .nx ⟨[some (.ref 0)],[],RS ws t (c+1)⟩:=by kernel_rfl
theorem tO (h:c≠120):ai Γ (n+1) bY [.ref 0] (RS ws t c) = .ok (.int c) (RS ws t (c+1)):=by
 have e:opD .eq (.int c) (.int (120:Nat))=some (.bl false):=ry h
 have s:opD .sub (.int ((c+1:Nat):Int)) (.int 1)=some (.int c):=ZS (fun z=>some (D.int z)) (by omega)
 have f:=zA (ws:=ws) (t:=t) (c:=c) (m:=n)
 exact (aa false (aX 1 (e) (aX 0 (f) (aX 1 (s) aZ))) (by kernel_rfl))
theorem tN (h:c=120):ai Γ (n+1) bY [.ref 0] (RS ws t c) = .exc 1 [] (RS ws t c):=by
 have e:opD .eq (.int c) (.int (120:Nat))=some (.bl true):=rq h
 exact (aa false (aX 1 (e) aZ) (by kernel_rfl))
abbrev osE:E:=.op .isin (.v 0) (.v 2)
theorem oJ {m:Nat} (X T:θ):∀ (l:List Nat) (acc:List Bool) (e:Option D),acc.length+l.length≤90000→∃ e':Option D,bw (lcQ Γ (ai Γ m) (aA Γ m) [0] true osE (.c (.bl true))) (l.map fun c=>.str ⟨#[c]⟩) (acc.map .bl) ⟨[e,some (.str X),some (.str T)],[],S⟩ = .ok (.lst ((acc ++ l.map fun c=>decide (c∈ch T)).map .bl)) ⟨[e',some (.str X),some (.str T)],[],S⟩
 | [],acc,e,_=>⟨e,by rw [Œ,Œ,Ω];rfl⟩
 | c :: l,acc,e,h=>by
   simp only [Ε] at h
   obtain ⟨e',g⟩:=oJ X T l (acc ++ [decide (c∈ch T)]) (some (.str ⟨#[c]⟩)) (by rw [Δ,ϕ];omega)
   have q:opD .isin (.str ⟨#[c]⟩) (.str T)=some (.bl (decide (c∈ch T))):=ZS (fun b=>some (D.bl b)) (ri T c)
   have el:ev Γ (ai Γ m) (aA Γ m) false osE ⟨[some (.str ⟨#[c]⟩),some (.str X),some (.str T)],[],S⟩ = .ok (.bl (decide (c∈ch T))) ⟨[some (.str ⟨#[c]⟩),some (.str X),some (.str T)],[],S⟩:=(iu false (aX 0 (q) aZ) (by kernel_rfl))
   rw [ϗ,Ι] at g
   exact ⟨e',eu (gN rfl rfl el) (by rw [Β];omega) g⟩
theorem mY:∀ l:List Bool,fF (l.map .bl)=some l
 | []=>rfl
 | b :: l=>by show (fF (l.map .bl)).map (b :: ·)=_;rw [mY l];rfl
theorem uE {X:θ} (h:∀ c∈ch X,c<128):X.cps.all (· < 128)=true:=by
 rw [Array.all_eq_true_iff_forall_mem]
 intro x m
 exact ZW (h x (FL.mpr m))
abbrev osL:E:=.lc [0] true (.itv (.v 0)) osE (.c (.bl true))
theorem wq:bU.body = .ret (.bi .all (.cons osL .nil)):=by kernel_rfl
theorem oI (X T:θ) (h:X.length≤80000) (ha:∀ c∈ch X,c<128):ai Γ (n+1) bV [.str X,.str T] S = .ok (.bl (dA T (ch X))) S:=by
 obtain ⟨e,lp⟩:=oJ (m:=n) (S:=S) X T (ch X) [] none (by rw [← ch_len];simp only [ÿ];omega)
 rw [é] at lp
 have al:biD .all [.lst (((ch X).map fun c=>decide (c∈ch T)).map .bl)]=some (.bl (dA T (ch X))):=by
  show (fF _).map _=_
  rw [mY]
  exact ZS (fun b=>some (D.bl b)) (by rw [HY];rfl)
 have wk:ly (.str X)=some ((ch X).map fun c=>.str ⟨#[c]⟩):=ZZ (uE ha)
 have hl:ev Γ (ai Γ n) (aA Γ n) true osL ⟨[some (.str X),some (.str T)],[],S⟩ = .ok (.lst (((ch X).map fun c=>decide (c∈ch T)).map .bl)) ⟨[some (.str X),some (.str T)],[],S⟩:=by
  show (Out.of _ ((ly (.str X)).map D.lst)).bind _=_
  rw [wk]
  show (bw (lcQ Γ (ai Γ n) (aA Γ n) [0] true osE (.c (.bl true))) ((ch X).map fun c=>.str ⟨#[c]⟩) [] ⟨[none,some (.str X),some (.str T)],[],S⟩).back [some (.str X),some (.str T)]=_
  rw [show bw (lcQ Γ (ai Γ n) (aA Γ n) [0] true osE (.c (.bl true))) ((ch X).map fun c=>.str ⟨#[c]⟩) [] ⟨[none,some (.str X),some (.str T)],[],S⟩=_ from lp];rfl
 rw [show ai Γ (n+1) bV [.str X,.str T] S=kX Γ (ai Γ n) (aA Γ n) bV [.str X,.str T] S by unfold ai aA;rfl]
 unfold kX
 rw [show Γ.fn[bV]? = some bU from rfl]
 dsimp only
 rw [ZZ (show ([D.str X,D.str T] ++ bU.df).length=bU.np by kernel_rfl),wq]
 have he:ev Γ (ai Γ n) (aA Γ n) false (.bi .all (.cons osL .nil)) ⟨[some (.str X),some (.str T)],[],S⟩ = .ok (.bl (dA T (ch X))) ⟨[some (.str X),some (.str T)],[],S⟩:=by
  show ((ev Γ (ai Γ n) (aA Γ n) true osL _).bind _).bind _=_
  rw [hl]
  show Out.of _ (biD .all [.lst _])=_
  rw [al];rfl
 show (match (ev Γ (ai Γ n) (aA Γ n) false (.bi .all (.cons osL .nil)) ⟨[some (.str X),some (.str T)],[],S⟩).go _ with | .nx s=>Res.ok .non s.st | .rt d s=>.ok d s.st | .exc c l s=>.exc c l s.st | .bad=>.bad)=_
 rw [he];rfl
def dM (w:θ):θ:=if (ch w).head? = some 45 then Ϥ w (some 1) none else w
theorem jq (w:θ):ch (dM w)=bz (ch w):=by
 unfold dM bz
 split
 ·rename_i h
  exact zR w (by rw [ch_len];cases e:ch w with
   | nil=>rw [e] at h;cases h
   | cons a b=>simp)
 ·rfl
theorem rF (l:List Nat):(bz l).length≤l.length:=by unfold bz;split <;> simp
theorem rG {l:List Nat} {c:Nat} (m:c∈bz l):c∈l:=by
 unfold bz at m
 split at m
 ·exact Ť m
 ·exact m
theorem BJ {x:θ} (h:x.length≤100000):cf .len (.str x)=some (.int x.length):=ZZ h
theorem Ce (w:θ):smO (.sta "-") (.str w)=some (.bl (decide ((ch w).head? = some 45))):=by
 show some (D.bl (Ŧ w "-"))=_
 rw [show ("-":θ)=⟨#[45]⟩ by decide +kernel,pw]
theorem Cd (w:θ):smO (.sta "0") (.str w)=some (.bl (decide ((ch w).head? = some 48))):=by
 show some (D.bl (Ŧ w "0"))=_
 rw [show ("0":θ)=⟨#[48]⟩ by decide +kernel,pw]
theorem qp (a b:Int):opD .le (.int a) (.int b)=some (.bl (decide (a≤b))):=rfl
theorem x9 (a b:θ):opD .eq (.str a) (.str b)=some (.bl (a == b)):=rfl
theorem tJ (h:w.length≤5000) (ha:∀ c∈ch w,c<128):ai Γ (n+2) kB [.str w] S = .ok (.bl (bT w)) S:=by
 have s1:=Ce w
 have lf:=rF (ch w)
 rw [← jq,← ch_len,← ch_len] at lf
 have l0:=BJ (x:=dM w) (by omega)
 have l1:=qp 1 (dM w).length
 have l2:=qp (dM w).length 40
 have os:=oI (n:=n) (S:=S) (dM w) FIG (by omega) (by rw [jq];exact fun c m=>ha c (rG m))
 have e0:=x9 w "0"
 have s0:=Cd (dM w)
 have nb:bT w=((decide (1≤(dM w).length∧(dM w).length≤40) && dA FIG (ch (dM w))) && (w == "0" || !decide ((ch (dM w)).head? = some 48))):=by unfold bT;rw [← jq,← ch_len]
 have sl:(ch w).head? = some 45→slO (.str w) (some 1) none=some (.str (dM w)):=fun c=>by
  show (if w.length≤100000 then some (D.str (Ϥ w (some 1) none)) else none)=_
  unfold dM;rw [ZZ c,ZZ (by omega)]
 have fw:(ch w).head?≠some 45→dM w=w:=fun c=>by unfold dM;rw [ZY c]
 rw [nb]
 clear nb lf
 have c:=GR ((ch w).head? = some 45)
 revert s0 sl fw os l0 l1 l2
 generalize dM w=v
 intro l0 l1 l2 os s0 sl fw
 by_cases c1:1≤v.length
 ·rw [ZW (show (1:Int)≤v.length by omega)] at l1
  by_cases c2:v.length≤40
  ·rw [ZW (show (v.length:Int)≤40 by omega)] at l2
   rw [ZW ⟨c1,c2⟩,Ŷ]
   cases o:dA FIG (ch v) with
   | false=>
     rw [o] at os
     rcases c with c | c
     ·rw [ZW c] at s1;exact (aa false (aX 0 (s1) (aX 2 (sl c) (aX 0 (l0) (aX 0 (l1) (aX 1 (l2) (aX 0 (os) aZ)))))) (by kernel_rfl))
     ·rw [ZV c] at s1;obtain rfl:=fw c;exact (aa false (aX 0 (s1) (aX 2 (l0) (aX 0 (l1) (aX 1 (l2) (aX 0 (os) aZ))))) (by kernel_rfl))
   | true=>
     rw [o] at os
     rw [Ŷ]
     cases b:w == "0" with
     | true=>
       rw [b] at e0
       rcases c with c | c
       ·rw [ZW c] at s1;exact (aa false (aX 0 (s1) (aX 2 (sl c) (aX 0 (l0) (aX 0 (l1) (aX 1 (l2) (aX 0 (os) (aX 2 (e0) aZ))))))) (by kernel_rfl))
       ·rw [ZV c] at s1;obtain rfl:=fw c;exact (aa false (aX 0 (s1) (aX 2 (l0) (aX 0 (l1) (aX 1 (l2) (aX 0 (os) (aX 2 (e0) aZ)))))) (by kernel_rfl))
     | false=>
       rw [b] at e0
       rcases c with c | c
       ·rw [ZW c] at s1;exact (aa false (aX 0 (s1) (aX 2 (sl c) (aX 0 (l0) (aX 0 (l1) (aX 1 (l2) (aX 0 (os) (aX 2 (e0) (aX 1 (s0) aZ)))))))) (by kernel_rfl))
       ·rw [ZV c] at s1;obtain rfl:=fw c;exact (aa false (aX 0 (s1) (aX 2 (l0) (aX 0 (l1) (aX 1 (l2) (aX 0 (os) (aX 2 (e0) (aX 1 (s0) aZ))))))) (by kernel_rfl))
  ·rw [ZV (show ¬ (v.length:Int)≤40 by omega)] at l2
   rw [ZV (fun q=>c2 q.2)]
   rcases c with c | c
   ·rw [ZW c] at s1;exact (aa false (aX 0 (s1) (aX 2 (sl c) (aX 0 (l0) (aX 0 (l1) (aX 1 (l2) aZ))))) (by kernel_rfl))
   ·rw [ZV c] at s1;obtain rfl:=fw c;exact (aa false (aX 0 (s1) (aX 2 (l0) (aX 0 (l1) (aX 1 (l2) aZ)))) (by kernel_rfl))
 ·rw [ZV (show ¬ (1:Int)≤v.length by omega)] at l1
  rw [ZV (fun q=>c1 q.1)]
  rcases c with c | c
  ·rw [ZW c] at s1;exact (aa false (aX 0 (s1) (aX 2 (sl c) (aX 0 (l0) (aX 0 (l1) aZ)))) (by kernel_rfl))
  ·rw [ZV c] at s1;obtain rfl:=fw c;exact (aa false (aX 0 (s1) (aX 2 (l0) (aX 0 (l1) aZ))) (by kernel_rfl))
end
open L2.Lx (ch ch_app ch_len)
def Rs (o:Option D) (S:List O):Res:=match o with | some d=>.ok d S | none=>.exc 1 [] S
structure Aw (w:θ):Prop where
 len:w.length≤200
 asc:∀ c∈ch w,c<128
theorem Aw.ow {w:θ} (h:Aw w):Ow w:=⟨h.len,fun c m=>Ϲ (h.asc c m) (by decide)⟩
theorem nW {w:θ} (h:Kw w):Aw w:=⟨by have:=h.len;omega,h.asc⟩
def cy (w:θ):Option D:=if bZ w=true then some (.str w) else none
def eA (w:θ):Int:=(ñ w).getD 0
def ki (w:θ):Option D:=if bT w=true∧0≤eA w∧eA w≤7 then some (.int (eA w)) else none
def cG (w:θ) (c:Nat):Option D:=if w = "yes" then some (.tup [.str "truth",.int c,.bl true]) else if w = "no" then some (.tup [.str "truth",.int c,.bl false]) else if bT w=true then some (.tup [.str "whole",.int c,.int (eA w)]) else if bZ w=true then some (.tup [.str "name",.int c,.str w]) else none
section
variable {n:Nat} {w:θ} {S:List O}
theorem lV (w:θ):opD .isin (.str w) (.tup [.str "yes",.str "no"])=some (.bl (w == "yes" || w == "no")):=by
 show some (D.bl (("yes":θ) == w || (("no":θ) == w || false)))=_
 rw [ĺ,show (("yes":θ) == w)=(w == "yes") from BEq.comm,show (("no":θ) == w)=(w == "no") from BEq.comm]
theorem oy (h:Aw w):ai Γ (n+2) qh [.str w] S=Rs (cy w) S:=by
 have it:=lV w
 have l0:=BJ (x:=w) (by have:=h.len;omega)
 have l1:=qp 1 w.length
 have l2:=qp w.length 8
 have os:=oI (n:=n) (S:=S) w LET (by have:=h.len;omega) h.asc
 have no:bZ w=false→cy w=none:=fun e=>by unfold cy;rw [e];rfl
 have oa:=fz h.ow
 have orr:=dJ h.ow
 cases e:(w == "yes" || w == "no") with
 | true=>
   rw [no (by unfold bZ;rw [e];rfl)]
   rw [e] at it
   exact (aa false (aX 0 (it) (aX 2 (oa) (aX 0 (orr) aZ))) (by kernel_rfl))
 | false=>
   rw [e] at it
   by_cases c1:1≤w.length
   ·rw [ZW (show (1:Int)≤w.length by omega)] at l1
    by_cases c2:w.length≤8
    ·rw [ZW (show (w.length:Int)≤8 by omega)] at l2
     cases o:dA LET (ch w) with
     | true=>
       rw [o] at os
       have:cy w=some (.str w):=by unfold cy bZ;rw [e,o,ZW ⟨c1,c2⟩];rfl
       rw [this]
       exact (aa false (aX 0 (it) (aX 1 (l0) (aX 0 (l1) (aX 1 (l2) (aX 0 (os) aZ))))) (by kernel_rfl))
     | false=>
       rw [o] at os
       rw [no (by unfold bZ;rw [o];simp)]
       exact (aa false (aX 0 (it) (aX 1 (l0) (aX 0 (l1) (aX 1 (l2) (aX 0 (os) (aX 2 (oa) (aX 0 (orr) aZ))))))) (by kernel_rfl))
    ·rw [ZV (show ¬ (w.length:Int)≤8 by omega)] at l2
     rw [no (by unfold bZ;rw [ZV (fun q=>c2 q.2)];simp)]
     exact (aa false (aX 0 (it) (aX 1 (l0) (aX 0 (l1) (aX 1 (l2) (aX 2 (oa) (aX 0 (orr) aZ)))))) (by kernel_rfl))
   ·rw [ZV (show ¬ (1:Int)≤w.length by omega)] at l1
    rw [no (by unfold bZ;rw [ZV (fun q=>c1 q.1)];simp)]
    exact (aa false (aX 0 (it) (aX 1 (l0) (aX 0 (l1) (aX 3 (oa) (aX 0 (orr) aZ))))) (by kernel_rfl))
theorem oH (h:Aw w) (hn:bT w=true):cf .int (.str w)=some (.int (eA w)):=by
 have hl:=h.len
 have e:∃ i,ñ w=some i:=by
  unfold bT at hn
  rw [ω,ω,decide_eq_true_eq] at hn
  obtain ⟨⟨⟨h1,h2⟩,h3⟩,_⟩:=hn
  have h3:NumText.AllDigits (bz (ch w)):=fun c m=>(jr c).mp (of_decide_eq_true (Λ.mp h3 c m))
  have ne:bz (ch w)≠[]:=fun e=>by rw [e] at h1;exact ZX h1 (by decide)
  by_cases c:(ch w).head? = some 45
  ·have f:bz (ch w)=(ch w).drop 1:=by unfold bz;rw [ZZ c]
   cases q:ch w with
   | nil=>rw [q] at c;cases c
   | cons a r=>
     rw [q] at c f
     cases c
     exact ⟨_,intText_neg (cs:=r) q (by rw [q,f] at h3;exact h3) (by rw [q,f] at ne;exact ne) (by omega)⟩
  ·have f:bz (ch w)=ch w:=by unfold bz;rw [ZY c]
   exact ⟨_,Fx (x:=w) (by rw [f] at h3;exact h3) (by rw [f] at ne;exact ne) (by omega)⟩
 obtain ⟨i,e⟩:=e
 show (if w.length≤640 then (ñ w).map D.int else none)=_
 unfold eA
 rw [ZZ (by omega),e];rfl
theorem yg (h:Aw w):ai Γ (n+3) lW [.str w] S=Rs (ki w) S:=by
 have nb:=tJ (n:=n) (S:=S) (w:=w) (by have:=h.len;omega) h.asc
 have oa:=fz h.ow
 have orr:=dJ h.ow
 unfold ki
 cases b:bT w with
 | false=>
   rw [b] at nb
   rw [ZY (fun q=>by cases q.1)]
   exact (aa false (aX 0 (nb) (aX 3 (oa) (aX 0 (orr) aZ))) (by kernel_rfl))
 | true=>
   rw [b] at nb
   have i:=oH h b
   have l1:=qp 0 (eA w)
   have l2:=qp (eA w) 7
   by_cases c1:0≤eA w
   ·rw [ZW c1] at l1
    by_cases c2:eA w≤7
    ·rw [ZW c2] at l2
     rw [ZZ ⟨rfl,c1,c2⟩]
     exact (aa false (aX 0 (nb) (aX 2 (i) (aX 0 (l1) (aX 1 (l2) (aX 1 (i) aZ))))) (by kernel_rfl))
    ·rw [ZV c2] at l2
     rw [ZY (fun q=>c2 q.2.2)]
     exact (aa false (aX 0 (nb) (aX 2 (i) (aX 0 (l1) (aX 1 (l2) (aX 1 (oa) (aX 0 (orr) aZ)))))) (by kernel_rfl))
   ·rw [ZV c1] at l1
    rw [ZY (fun q=>c1 q.2.1)]
    exact (aa false (aX 0 (nb) (aX 2 (i) (aX 0 (l1) (aX 2 (oa) (aX 0 (orr) aZ))))) (by kernel_rfl))
theorem vD (h:Aw w) (c:Nat):ai Γ (n+3) yl [.str w,.int c] S=Rs (cG w c) S:=by
 have it:=lV w
 have nb:=tJ (n:=n) (S:=S) (w:=w) (by have:=h.len;omega) h.asc
 have nm:=oy (n:=n) (S:=S) h
 have ey:=x9 w "yes"
 unfold cG
 by_cases c1:w = "yes"
 ·rw [ZZ c1];subst c1;kernel_rfl
 ·rw [ZY c1]
  by_cases c2:w = "no"
  ·rw [ZZ c2];subst c2;kernel_rfl
  ·rw [ZY c2]
   rw [ZU.mpr c1,ZU.mpr c2] at it
   cases b:bT w with
   | true=>
     rw [b] at nb
     have i:=oH h b
     rw [ZZ rfl]
     exact (aa false (aX 0 (it) (aX 0 (nb) (aX 2 (i) aZ))) (by kernel_rfl))
   | false=>
     rw [b] at nb
     rw [ZY (by decide)]
     unfold cy at nm
     cases m:bZ w with
     | true=>
       rw [m,ZZ rfl] at nm
       rw [ZZ rfl]
       exact (aa false (aX 0 (it) (aX 0 (nb) (aX 0 (nm) aZ))) (by kernel_rfl))
     | false=>
       rw [m,ZY (by decide)] at nm
       rw [ZY (by decide)]
       exact (aa false (aX 0 (it) (aX 0 (nb) (aX 0 (nm) aZ))) (by kernel_rfl))
end
def h2M (h:θ):Option H2:=if h = "to" then some .to else if h = "pair" then some .pair else none
def l3M (h:θ):Option L3:=if h = "whole" then some .whole else if h = "truth" then some .truth else if h = "?" then some .unt else none
def clM {α:Type} (a:α):List θ→Option (α×List θ)
 | x :: r=>if x=rpS then some (a,r) else none
 | []=>none
def kdM:Nat→List θ→Option (Kd×List θ)
 | 0,_=>none
 | _+1,[]=>none
 | q+1,w :: r=>match l3M w with
   | some l=>some (.lf l,r)
   | none=>if w=lpS then (match r with
     | []=>none
     | h :: r=>if h = "row" then (kdM q r).bind fun p=>clM (.row p.1) p.2
       else (h2M h).bind fun k=>(kdM q r).bind fun p=>(kdM q p.2).bind fun p2=>clM (.two k p.1 p2.1) p2.2) else none
def Sy (ws:List θ) (o:Option (D×List θ×Nat)) (res:Res):Prop:=match o with
 | some (d,r,c)=>r <:+ ws∧res = .ok d (RSr ws r c)
 | none=>∃ st,res = .exc 1 [] st
abbrev kdA (c:Nat) (o:Option (Kd×List θ)):Option (D×List θ×Nat):=o.map fun p=>(p.1.toD,p.2,c)
theorem Bm {w:θ} (h1:w≠"whole") (h2:w≠"truth") (h3:w≠"?"):opD .isin (.str w) (.tup [.str "whole",.str "truth",.str "?"])=some (.bl false):=by
 show some (D.bl (("whole":θ) == w || (("truth":θ) == w || (("?":θ) == w || false))))=_
 rw [ZU.mpr h1.symm,ZU.mpr h2.symm,ZU.mpr h3.symm];rfl
theorem zS {w:θ} (h1:w≠"to") (h2:w≠"row") (h3:w≠"pair"):(!(ϱ w (tbl.map (·.2))[1]!).isSome)=true:=by
 show (!(ϱ w [("to",_),("row",_),("pair",_)]).isSome)=true
 simp only [ϱ]
 rw [ZY (by simpa using h1),ZY (by simpa using h2),ZY (by simpa using h3)];rfl
theorem r9 (ws:List θ) (hw:∀ w∈ws,Aw w) (c:Nat):∀ (q d:Nat),d+q=7→∀ (r:List θ) (n:Nat),r <:+ ws→Sy ws (kdA c (kdM q r)) (ai Γ (n+q+4) cO [.ref 0,.int (d:Nat)] (RSr ws r c))
 | 0,d,hd,r,n,_=>by
   have e0:opD .gt (.int (d:Nat)) (.int 6)=some (.bl true):=by show some (D.bl (decide _))=_;rw [ZW (by omega)]
   exact ⟨RSr ws r c,(aa false (aX 0 (e0) aZ) (by kernel_rfl))⟩
 | q+1,d,hd,[],n,_=>by
   have e0:opD .gt (.int (d:Nat)) (.int 6)=some (.bl false):=by show some (D.bl (decide _))=_;rw [ZV (by omega)]
   have p1:=cS (n:=n+q+2) (ws:=ws) (c:=c)
   exact ⟨RSr ws [] c,(aa false (aX 0 (e0) (aX 0 (p1) aZ)) (by kernel_rfl))⟩
 | q+1,d,hd,w :: r,n,hs=>by
   have e0:opD .gt (.int (d:Nat)) (.int 6)=some (.bl false):=by show some (D.bl (decide _))=_;rw [ZV (by omega)]
   have p1:=cA (n:=n+q+2) (c:=c) hs
   have o1:=(hw w (hs.subset ι)).ow
   have s1:=(sfx hs).2.1
   by_cases c1:w = "whole"
   ·subst c1;exact ⟨s1,(aa false (aX 0 (e0) (aX 0 (p1) aZ)) (by kernel_rfl))⟩
   by_cases c2:w = "truth"
   ·subst c2;exact ⟨s1,(aa false (aX 0 (e0) (aX 0 (p1) aZ)) (by kernel_rfl))⟩
   by_cases c3:w = "?"
   ·subst c3;exact ⟨s1,(aa false (aX 0 (e0) (aX 0 (p1) aZ)) (by kernel_rfl))⟩
   have l3:l3M w=none:=by unfold l3M;rw [ZY c1,ZY c2,ZY c3]
   have i1:=Bm c1 c2 c3
   by_cases c4:w=lpS
   ·cases r with
    | nil=>
      have e:kdM (q+1) [w]=none:=by unfold kdM;rw [l3];dsimp only;rw [ZZ c4]
      rw [e];subst c4
      have p2:=cS (n:=n+q+2) (ws:=ws) (c:=c)
      exact ⟨RSr ws [] c,(aa false (aX 0 (e0) (aX 0 (p1) (aX 0 (p2) aZ))) (by kernel_rfl))⟩
    | cons h r=>
      have p2:=cA (n:=n+q+2) (c:=c) s1
      have o2:=(hw h (s1.subset ι)).ow
      have s2:=(sfx s1).2.1
      have ia:=r9 ws hw c q (d+1) (by omega) r n s2
      by_cases cr:h = "row"
      ·have e:kdM (q+1) (w :: h :: r)=(kdM q r).bind fun p=>clM (.row p.1) p.2:=by rw [kdM];rw [l3];dsimp only;rw [ZZ c4,ZZ cr]
       rw [e];subst c4 cr
       cases ea:kdM q r with
       | none=>
         rw [ea] at ia
         obtain ⟨st,ia⟩:=ia
         exact ⟨st,(aa false (aX 0 (e0) (aX 0 (p1) (aX 0 (p2) (aX 0 (ia) aZ)))) (by kernel_rfl))⟩
       | some p=>
         obtain ⟨a,r1⟩:=p
         rw [ea] at ia
         obtain ⟨sa,ia⟩:=ia
         cases r1 with
         | nil=>exact ⟨RSr ws [] c,(aa false (aX 0 (e0) (aX 0 (p1) (aX 0 (p2) (aX 0 (ia) (aX 0 (dU (n:=n+q+1) (ws:=ws) (c:=c)) aZ))))) (by kernel_rfl))⟩
         | cons x r1=>
           have s3:=(sfx sa).2.1
           by_cases cx:x=rpS
           ·have e:kdA c ((some (a,x :: r1)).bind fun p=>clM (Kd.row p.1) p.2)=some ((Kd.row a).toD,r1,c):=by show kdA c (if x=rpS then _ else _)=_;rw [ZZ cx];rfl
            rw [e];subst cx
            exact ⟨s3,(aa false (aX 0 (e0) (aX 0 (p1) (aX 0 (p2) (aX 0 (ia) (aX 0 (eV (n:=n+q+1) (c:=c) sa) aZ))))) (by kernel_rfl))⟩
           ·have e:kdA c ((some (a,x :: r1)).bind fun p=>clM (Kd.row p.1) p.2)=none:=by show kdA c (if x=rpS then _ else _)=_;rw [ZY cx];rfl
            rw [e]
            exact ⟨RSr ws r1 c,(aa false (aX 0 (e0) (aX 0 (p1) (aX 0 (p2) (aX 0 (ia) (aX 0 (eU (n:=n+q+1) (c:=c) sa cx (hw x (sa.subset ι)).ow) aZ))))) (by kernel_rfl))⟩
      ·have e:kdM (q+1) (w :: h :: r)=(h2M h).bind fun k=>(kdM q r).bind fun p=>(kdM q p.2).bind fun p2=>clM (.two k p.1 p2.1) p2.2:=by rw [kdM];rw [l3];dsimp only;rw [ZZ c4,ZY cr]
       rw [e];subst c4
       have go:∀ k:H2,h=k.str→h2M h=some k:=fun k e=>by subst e;cases k <;> decide +kernel
       by_cases ct:∃ k:H2,h=k.str
       ·obtain ⟨k,ek⟩:=ct
        rw [go k ek];subst ek
        show Sy ws (kdA c ((kdM q r).bind fun p=>(kdM q p.2).bind fun p2=>clM (Kd.two k p.1 p2.1) p2.2)) _
        cases ea:kdM q r with
        | none=>
          rw [ea] at ia
          obtain ⟨st,ia⟩:=ia
          exact ⟨st,by cases k <;> exact (aa false (aX 0 (e0) (aX 0 (p1) (aX 0 (p2) (aX 0 (ia) aZ)))) (by kernel_rfl))⟩
        | some p=>
          obtain ⟨a,r1⟩:=p
          rw [ea] at ia
          obtain ⟨sa,ia⟩:=ia
          have ib:=r9 ws hw c q (d+1) (by omega) r1 n sa
          show Sy ws (kdA c ((kdM q r1).bind fun p2=>clM (Kd.two k a p2.1) p2.2)) _
          cases eb:kdM q r1 with
          | none=>
            rw [eb] at ib
            obtain ⟨st,ib⟩:=ib
            exact ⟨st,by cases k <;> exact (aa false (aX 0 (e0) (aX 0 (p1) (aX 0 (p2) (aX 0 (ia) (aX 0 (ib) aZ))))) (by kernel_rfl))⟩
          | some p=>
            obtain ⟨b,r2⟩:=p
            rw [eb] at ib
            obtain ⟨sb,ib⟩:=ib
            cases r2 with
            | nil=>exact ⟨RSr ws [] c,by cases k <;> exact (aa false (aX 0 (e0) (aX 0 (p1) (aX 0 (p2) (aX 0 (ia) (aX 0 (ib) (aX 0 (dU (n:=n+q+1) (ws:=ws) (c:=c)) aZ)))))) (by kernel_rfl))⟩
            | cons x r2=>
              have s3:=(sfx sb).2.1
              by_cases cx:x=rpS
              ·have e:kdA c ((some (b,x :: r2)).bind fun p2=>clM (Kd.two k a p2.1) p2.2)=some ((Kd.two k a b).toD,r2,c):=by show kdA c (if x=rpS then _ else _)=_;rw [ZZ cx];rfl
               rw [e];subst cx
               exact ⟨s3,by cases k <;> exact (aa false (aX 0 (e0) (aX 0 (p1) (aX 0 (p2) (aX 0 (ia) (aX 0 (ib) (aX 0 (eV (n:=n+q+1) (c:=c) sb) aZ)))))) (by kernel_rfl))⟩
              ·have e:kdA c ((some (b,x :: r2)).bind fun p2=>clM (Kd.two k a p2.1) p2.2)=none:=by show kdA c (if x=rpS then _ else _)=_;rw [ZY cx];rfl
               rw [e]
               exact ⟨RSr ws r2 c,by cases k <;> exact (aa false (aX 0 (e0) (aX 0 (p1) (aX 0 (p2) (aX 0 (ia) (aX 0 (ib) (aX 0 (eU (n:=n+q+1) (c:=c) sb cx (hw x (sb.subset ι)).ow) aZ)))))) (by kernel_rfl))⟩
       ·have nt:∀ k:H2,h≠k.str:=fun k e=>ct ⟨k,e⟩
        have e:h2M h=none:=by unfold h2M;rw [ZY (show h≠"to" from nt .to),ZY (show h≠"pair" from nt .pair)]
        rw [e]
        exact ⟨RSr ws r c,(aa false (aX 0 (e0) (aX 0 (p1) (aX 0 (p2) (aX 0 (zS (nt .to) cr (nt .pair)) (aX 0 (fz o2) (aX 0 (dJ o2) aZ)))))) (by kernel_rfl))⟩
   ·have e:kdM (q+1) (w :: r)=none:=by
     cases r <;> (unfold kdM;rw [l3];dsimp only;rw [ZY c4])
    rw [e]
    exact ⟨RSr ws r c,(aa false (aX 0 (e0) (aX 0 (p1) (aX 0 (i1) (aX 1 (qA c4) (aX 1 (fz o1) (aX 0 (dJ o1) aZ)))))) (by kernel_rfl))⟩
open L2.Lx (ch ch_app ch_len)
abbrev Md:=List θ→Nat→Option (D×List θ×Nat)
def bu (nd:Md):Nat→List θ→Nat→Option (List D×List θ×Nat)
 | _,[],_=>none
 | 0,w :: r,c=>if w=rpS then some ([],w :: r,c) else none
 | k+1,w :: r,c=>if w=rpS then some ([],w :: r,c) else (nd (w :: r) c).bind fun p=>(bu nd k p.2.1 p.2.2).map fun q=>(p.1 :: q.1,q.2)
def thM (nd:Md) (s:θ) (r:List θ) (c:Nat):Option (D×List θ×Nat):=if s = "node" then nd r c else if s = "nodes" then (bu nd 4 r c).map fun p=>(.tup p.1,p.2) else if s = "kind" then kdA c (kdM 6 r) else (match r with
 | []=>none
 | w :: r=>(if s = "name" then cy w else ki w).map fun d=>(d,r,c))
def aq (nd:Md):List θ→List θ→Nat→Option (List D×List θ×Nat)
 | [],r,c=>some ([],r,c)
 | s :: ss,r,c=>(thM nd s r c).bind fun p=>(aq nd ss p.2.1 p.2.2).map fun q=>(p.1 :: q.1,q.2)
abbrev wF:List θ:=["node","nodes","kind","name","given"]
abbrev brs:List θ:=["given","fn","self","call","let","if","row","at","size","pair","one","two","as"]
abbrev brL:List (List θ):=[["given"],Hd.fn.sorts,Hd.self.sorts,Hd.call.sorts,Hd.let_.sorts,Hd.if_.sorts,Hd.row.sorts,Hd.at_.sorts,Hd.size.sorts,Hd.pair.sorts,Hd.one.sorts,Hd.two.sorts,Hd.as_.sorts]
def brM (h:θ):Option (θ×List D×List θ):=if h∈sgs then some ("do",[.str h],["node","node"]) else if h∈brs then some (h,[],brL.getD (brs.idxOf h) []) else none
def ndM:Nat→Md
 | 0,_,_=>none
 | q+1,ws,c=>if c=120 then none else (match ws with
   | []=>none
   | w :: r=>if w=lpS then (match r with
       | []=>none
       | h :: r=>(brM h).bind fun b=>(aq (ndM q) b.2.2 r (c+1)).bind fun p=>(clM (.tup (.str b.1 :: .int c :: (b.2.1 ++ p.1))) p.2.1).map fun x=>(x.1,x.2,p.2.2))
     else (cG w c).map fun d=>(d,r,c+1))
theorem Aa {c:Sta→Out D} {f:Sta→am} {s s1 s2:Sta} {n:Nat} (hc:c s = .ok (.bl true) s1) (hb:f s1 = .nx s2):cL c f (n+1) s=cL c f n s2:=by
 show (c s).go _=_
 rw [hc]
 show (f s1).go _=_
 rw [hb];rfl
theorem uo {c:Sta→Out D} {f:Sta→am} {s s1 s2:Sta} {n j:Nat} {l:List D} (hc:c s = .ok (.bl true) s1) (hb:f s1 = .exc j l s2):cL c f (n+1) s = .exc j l s2:=by
 show (c s).go _=_
 rw [hc]
 show (f s1).go _=_
 rw [hb];rfl
theorem zZ {c:Sta→Out D} {f:Sta→am} {s s1:Sta} {n j:Nat} {l:List D} (hc:c s = .exc j l s1):cL c f (n+1) s = .exc j l s1:=by
 show (c s).go _=_
 rw [hc];rfl
theorem uq {c:Sta→Out D} {f:Sta→am} {s s1:Sta} {n:Nat} (hc:c s = .ok (.bl false) s1):cL c f (n+1) s = .nx s1:=by
 show (c s).go _=_
 rw [hc];rfl
def lF (ws:List θ) (nd:Md) (d K:Nat):Prop:=∀ (n:Nat) (r:List θ) (c:Nat),r <:+ ws→Sy ws (nd r c) (ai Γ (n+K+12) dX [.ref 0,.int (d:Nat)] (RSr ws r c))
abbrev rwC:E:=.op .ne (.mth 9 24 (.v 0) .nil) (.c (.str ")"))
abbrev rwB:S:=.seq (.ifs (.op .eq (.bi .len (.cons (.v 2) .nil)) (.g 10)) (.rais 1 (.cons (.op .add (.g 10) (.c (.int 0))) .nil)) .skip) (.app 2 (.mth 9 29 (.v 0) (.cons (.v 1) .nil)))
section
variable {ws:List θ} {nd:Md} {d K:Nat}
abbrev rSt (ws:List θ) (d:Nat) (acc:List D) (r:List θ) (c:Nat):Sta:=⟨[some (.ref 0),some (.int (d:Nat)),some (.lst acc)],[2],RSr ws r c⟩
theorem kT (hnd:lF ws nd d K) (n m:Nat):∀ (k:Nat) (acc:List D) (r:List θ) (c:Nat),acc.length+k=4→r <:+ ws→(match bu nd k r c with
 | some (ds,r',c')=>r' <:+ ws∧cL (ev Γ (ai Γ (n+K+12)) (aA Γ (n+K+12)) true rwC) (exS Γ (ai Γ (n+K+12)) (aA Γ (n+K+12)) rwB) (m+k+1) (rSt ws d acc r c) = .nx (rSt ws d (acc ++ ds) r' c')
 | none=>∃ s',cL (ev Γ (ai Γ (n+K+12)) (aA Γ (n+K+12)) true rwC) (exS Γ (ai Γ (n+K+12)) (aA Γ (n+K+12)) rwB) (m+k+1) (rSt ws d acc r c) = .exc 1 [] s')
 | k,acc,[],c,ha,hs=>by
   have p:=oN (n:=n+K+11) (ws:=ws) (c:=c)
   have hc:ev Γ (ai Γ (n+K+12)) (aA Γ (n+K+12)) true rwC (rSt ws d acc [] c) = .exc 1 [] (rSt ws d acc [] c):=(iu false (aX 0 (p) aZ) (by kernel_rfl))
   have e:bu nd k [] c=none:=by cases k <;> rfl
   rw [e]
   exact ⟨_,zZ hc⟩
 | 0,acc,w :: r,c,ha,hs=>by
   have p:=jK (n:=n+K+11) (c:=c) hs
   have e:bu nd 0 (w :: r) c=if w=rpS then some ([],w :: r,c) else none:=rfl
   by_cases h:w=rpS
   ·rw [e,ZZ h]
    subst h
    have hc:ev Γ (ai Γ (n+K+12)) (aA Γ (n+K+12)) true rwC (rSt ws d acc (rpS :: r) c) = .ok (.bl false) (rSt ws d acc (rpS :: r) c):=(iu false (aX 0 (p) aZ) (by kernel_rfl))
    refine ⟨hs,?_⟩
    rw [Ω]
    exact uq hc
   ·rw [e,ZY h]
    have hc:ev Γ (ai Γ (n+K+12)) (aA Γ (n+K+12)) true rwC (rSt ws d acc (w :: r) c) = .ok (.bl true) (rSt ws d acc (w :: r) c):=(iu false (aX 0 (p) (aX 0 (qA h) aZ)) (by kernel_rfl))
    have e4:opD .eq (.int (acc.length:Nat)) (.int (4:Nat))=some (.bl true):=rq (by omega)
    have hb:exS Γ (ai Γ (n+K+12)) (aA Γ (n+K+12)) rwB (rSt ws d acc (w :: r) c) = .exc 1 [] (rSt ws d acc (w :: r) c):=(fQ false (aX 1 (e4) aZ) (by kernel_rfl))
    exact ⟨_,uo hc hb⟩
 | k+1,acc,w :: r,c,ha,hs=>by
   have p:=jK (n:=n+K+11) (c:=c) hs
   have e:bu nd (k+1) (w :: r) c=if w=rpS then some ([],w :: r,c) else (nd (w :: r) c).bind fun p=>(bu nd k p.2.1 p.2.2).map fun q=>(p.1 :: q.1,q.2):=rfl
   by_cases h:w=rpS
   ·rw [e,ZZ h]
    subst h
    have hc:ev Γ (ai Γ (n+K+12)) (aA Γ (n+K+12)) true rwC (rSt ws d acc (rpS :: r) c) = .ok (.bl false) (rSt ws d acc (rpS :: r) c):=(iu false (aX 0 (p) aZ) (by kernel_rfl))
    refine ⟨hs,?_⟩
    rw [Ω]
    exact uq hc
   ·rw [e,ZY h]
    have hc:ev Γ (ai Γ (n+K+12)) (aA Γ (n+K+12)) true rwC (rSt ws d acc (w :: r) c) = .ok (.bl true) (rSt ws d acc (w :: r) c):=(iu false (aX 0 (p) (aX 0 (qA h) aZ)) (by kernel_rfl))
    have e4:opD .eq (.int (acc.length:Nat)) (.int (4:Nat))=some (.bl false):=ry (by omega)
    have hn:=hnd n (w :: r) c hs
    cases en:nd (w :: r) c with
    | none=>
      rw [en] at hn
      obtain ⟨st,hn⟩:=hn
      have hb:exS Γ (ai Γ (n+K+12)) (aA Γ (n+K+12)) rwB (rSt ws d acc (w :: r) c) = .exc 1 [] ⟨[some (.ref 0),some (.int (d:Nat)),some (.lst acc)],[2],st⟩:=(fQ false (aX 1 (e4) (aX 0 (hn) aZ)) (by kernel_rfl))
      exact ⟨_,uo hc hb⟩
    | some x=>
      obtain ⟨x,r1,c1⟩:=x
      rw [en] at hn
      obtain ⟨s1,hn⟩:=hn
      have hb:exS Γ (ai Γ (n+K+12)) (aA Γ (n+K+12)) rwB (rSt ws d acc (w :: r) c) = .nx (rSt ws d (acc ++ [x]) r1 c1):=(fQ false (aX 1 (e4) (aX 0 (hn) (aX 0 ((ZW (by omega):decide (acc.length+1≤100000)=true)) aZ))) (by kernel_rfl))
      have ih:=kT hnd n m k (acc ++ [x]) r1 c1 (by rw [Δ,ϕ];omega) s1
      rw [show m+(k+1)+1=(m+k+1)+1 by omega,Aa hc hb]
      show match (bu nd k r1 c1).map fun q=>(x :: q.1,q.2) with | some (ds,r',c')=>_ | none=>_
      cases er:bu nd k r1 c1 with
      | none=>rw [er] at ih;exact ih
      | some y=>
        obtain ⟨ds,r2,c2⟩:=y
        rw [er] at ih
        dsimp only at ih
        rw [Ι] at ih
        exact ih
theorem zH (hnd:lF ws nd d K) (n:Nat) (r:List θ) (c:Nat) (hs:r <:+ ws):Sy ws ((bu nd 4 r c).map fun p=>(.tup p.1,p.2)) (ai Γ (n+K+13) eg [.ref 0,.int (d:Nat)] (RSr ws r c)):=by
 have lp:=kT hnd n 99995 4 [] r c rfl hs
 cases e:bu nd 4 r c with
 | none=>
   rw [e] at lp
   obtain ⟨s',lp⟩:=lp
   have lp:exS Γ (ai Γ (n+K+12)) (aA Γ (n+K+12)) (.whl rwC rwB) (rSt ws d [] r c) = .exc 1 [] s':=lp
   exact ⟨s'.st,(aa true (aX 0 (lp) aZ) (by kernel_rfl))⟩
 | some y=>
   obtain ⟨ds,r2,c2⟩:=y
   rw [e] at lp
   obtain ⟨s2,lp⟩:=lp
   have lp:exS Γ (ai Γ (n+K+12)) (aA Γ (n+K+12)) (.whl rwC rwB) (rSt ws d [] r c) = .nx (rSt ws d ds r2 c2):=lp
   exact ⟨s2,(aa true (aX 0 (lp) aZ) (by kernel_rfl))⟩
theorem Cj (hw:∀ w∈ws,Aw w) (hnd:lF ws nd (d+1) K) (n:Nat) (s:θ) (h:s∈wF) (r:List θ) (c:Nat) (hs:r <:+ ws):Sy ws (thM nd s r c) (ai Γ (n+K+14) dN [.ref 0,.str s,.int (d:Nat)] (RSr ws r c)):=by
 have a1:=hnd (n+1) r c hs
 rw [show n+1+K+12=n+K+13 by omega] at a1
 have a2:=zH hnd n r c hs
 have a3:=r9 ws hw c 6 1 rfl r (n+K+3) hs
 have h:s = "node"∨s = "nodes"∨s = "kind"∨s = "name"∨s = "given":=by simpa using h
 rcases h with rfl | rfl | rfl | rfl | rfl
 ·have e:thM nd "node" r c=nd r c:=rfl
  rw [e]
  cases e:nd r c with
  | none=>rw [e] at a1;obtain ⟨st,a1⟩:=a1;exact ⟨st,(aa false (aX 0 (a1) aZ) (by kernel_rfl))⟩
  | some y=>obtain ⟨y,r2,c2⟩:=y;rw [e] at a1;obtain ⟨s2,a1⟩:=a1;exact ⟨s2,(aa false (aX 0 (a1) aZ) (by kernel_rfl))⟩
 ·have e:thM nd "nodes" r c=(bu nd 4 r c).map fun p=>(.tup p.1,p.2):=rfl
  rw [e]
  cases e:(bu nd 4 r c).map fun p=>(D.tup p.1,p.2) with
  | none=>rw [e] at a2;obtain ⟨st,a2⟩:=a2;exact ⟨st,(aa false (aX 0 (a2) aZ) (by kernel_rfl))⟩
  | some y=>obtain ⟨y,r2,c2⟩:=y;rw [e] at a2;obtain ⟨s2,a2⟩:=a2;exact ⟨s2,(aa false (aX 0 (a2) aZ) (by kernel_rfl))⟩
 ·have e:thM nd "kind" r c=kdA c (kdM 6 r):=rfl
  rw [e]
  cases e:kdA c (kdM 6 r) with
  | none=>rw [e] at a3;obtain ⟨st,a3⟩:=a3;exact ⟨st,(aa false (aX 0 (a3) aZ) (by kernel_rfl))⟩
  | some y=>obtain ⟨y,r2,c2⟩:=y;rw [e] at a3;obtain ⟨s2,a3⟩:=a3;exact ⟨s2,(aa false (aX 0 (a3) aZ) (by kernel_rfl))⟩
 ·cases r with
  | nil=>exact ⟨RSr ws [] c,(aa false (aX 0 (cS (n:=n+K+11) (ws:=ws) (c:=c)) aZ) (by kernel_rfl))⟩
  | cons w r=>
    have p1:=cA (n:=n+K+11) (c:=c) hs
    have a4:=oy (n:=n+K+11) (S:=RSr ws r c) (hw w (hs.subset ι))
    have e:thM nd "name" (w :: r) c=(cy w).map fun d=>(d,r,c):=rfl
    rw [e]
    cases e:cy w with
    | none=>rw [e] at a4;exact ⟨RSr ws r c,(aa false (aX 0 (p1) (aX 0 (a4) aZ)) (by kernel_rfl))⟩
    | some y=>rw [e] at a4;exact ⟨(sfx hs).2.1,(aa false (aX 0 (p1) (aX 0 (a4) aZ)) (by kernel_rfl))⟩
 ·cases r with
  | nil=>exact ⟨RSr ws [] c,(aa false (aX 0 (cS (n:=n+K+11) (ws:=ws) (c:=c)) aZ) (by kernel_rfl))⟩
  | cons w r=>
    have p1:=cA (n:=n+K+11) (c:=c) hs
    have a4:=yg (n:=n+K+10) (S:=RSr ws r c) (hw w (hs.subset ι))
    have e:thM nd "given" (w :: r) c=(ki w).map fun d=>(d,r,c):=rfl
    rw [e]
    cases e:ki w with
    | none=>rw [e] at a4;exact ⟨RSr ws r c,(aa false (aX 0 (p1) (aX 0 (a4) aZ)) (by kernel_rfl))⟩
    | some y=>rw [e] at a4;exact ⟨(sfx hs).2.1,(aa false (aX 0 (p1) (aX 0 (a4) aZ)) (by kernel_rfl))⟩
abbrev tsE:E:=.mth 9 32 (.v 1) (.cons (.v 0) (.cons (.v 3) .nil))
abbrev tSt (ws:List θ) (e:Option D) (X:D) (d:Nat) (r:List θ) (c:Nat):Sta:=⟨[e,some (.ref 0),some X,some (.int (d:Nat))],[],RSr ws r c⟩
theorem k8 (hw:∀ w∈ws,Aw w) (hnd:lF ws nd (d+1) K) (n:Nat) (X:D):∀ (ss:List θ) (acc:List D) (r:List θ) (c:Nat) (e:Option D),(∀ s∈ss,s∈wF)→acc.length+ss.length≤100→r <:+ ws→(match aq nd ss r c with
 | some (ds,r',c')=>r' <:+ ws∧∃ e',bw (lcQ Γ (ai Γ (n+K+14)) (aA Γ (n+K+14)) [0] true tsE (.c (.bl true))) (sD ss) acc (tSt ws e X d r c) = .ok (.lst (acc ++ ds)) (tSt ws e' X d r' c')
 | none=>∃ s',bw (lcQ Γ (ai Γ (n+K+14)) (aA Γ (n+K+14)) [0] true tsE (.c (.bl true))) (sD ss) acc (tSt ws e X d r c) = .exc 1 [] s')
 | [],acc,r,c,e,_,_,hs=>by
   show r <:+ ws∧_
   exact ⟨hs,e,by rw [Ω];rfl⟩
 | s :: ss,acc,r,c,e,hq,hl,hs=>by
   have a:=Cj hw hnd n s (hq s ι) r c hs
   show match (thM nd s r c).bind fun p=>(aq nd ss p.2.1 p.2.2).map fun q=>(p.1 :: q.1,q.2) with | some (ds,r',c')=>_ | none=>_
   cases en:thM nd s r c with
   | none=>
     rw [en] at a
     obtain ⟨st,a⟩:=a
     have el:ev Γ (ai Γ (n+K+14)) (aA Γ (n+K+14)) false tsE (tSt ws (some (.str s)) X d r c) = .exc 1 [] ⟨[some (.str s),some (.ref 0),some X,some (.int (d:Nat))],[],st⟩:=(iu false (aX 0 (a) aZ) (by kernel_rfl))
     exact ⟨_,qo (yw rfl rfl el)⟩
   | some y=>
     obtain ⟨y,r1,c1⟩:=y
     rw [en] at a
     obtain ⟨s1,a⟩:=a
     have el:ev Γ (ai Γ (n+K+14)) (aA Γ (n+K+14)) false tsE (tSt ws (some (.str s)) X d r c) = .ok y (tSt ws (some (.str s)) X d r1 c1):=(iu false (aX 0 (a) aZ) (by kernel_rfl))
     simp only [Ε] at hl
     have ih:=k8 hw hnd n X ss (acc ++ [y]) r1 c1 (some (.str s)) (fun s m=>hq s (ν _ m)) (by rw [Δ,ϕ];omega) s1
     show match (aq nd ss r1 c1).map fun q=>(y :: q.1,q.2) with | some (ds,r',c')=>_ | none=>_
     cases er:aq nd ss r1 c1 with
     | none=>
       rw [er] at ih
       obtain ⟨s',ih⟩:=ih
       exact ⟨s',eu (gN rfl rfl el) (by omega) ih⟩
     | some z=>
       obtain ⟨ds,r2,c2⟩:=z
       rw [er] at ih
       obtain ⟨s2,e',ih⟩:=ih
       rw [Ι] at ih
       exact ⟨s2,e',eu (gN rfl rfl el) (by omega) ih⟩
theorem ug (hw:∀ w∈ws,Aw w) (hnd:lF ws nd (d+1) K) (n:Nat) (ss:List θ) (hq:∀ s∈ss,s∈wF) (hl:ss.length≤100) (r:List θ) (c:Nat) (hs:r <:+ ws):Sy ws ((aq nd ss r c).map fun p=>(.tup p.1,p.2)) (ai Γ (n+K+15) dy [.ref 0,.tup (sD ss),.int (d:Nat)] (RSr ws r c)):=by
 have lp:=k8 hw hnd n (.tup (sD ss)) ss [] r c none hq (by simpa using hl) hs
 cases e:aq nd ss r c with
 | none=>
   rw [e] at lp
   obtain ⟨s',lp⟩:=lp
   exact ⟨s'.st,(aa true (aX 0 (lp) aZ) (by kernel_rfl))⟩
 | some y=>
   obtain ⟨ds,r2,c2⟩:=y
   rw [e] at lp
   obtain ⟨s2,e',lp⟩:=lp
   rw [é] at lp
   exact ⟨s2,(aa true (aX 0 (lp) aZ) (by kernel_rfl))⟩
end
open L2.Lx (ch ch_app ch_len)
theorem nK (w:θ):∀ l:List θ,inD (.str w) (sD l)=some (decide (w∈l))
 | []=>rfl
 | x :: l=>by
   show (inD (.str w) (sD l)).map ((x == w) || ·)=_
   rw [nK w l]
   show some ((x == w) || decide (w∈l))=_
   refine ZS some (ś.mpr ?_)
   rw [Ed,beq_iff_eq,decide_eq_true_eq,decide_eq_true_eq,υ]
   exact or_congr_left ⟨Eq.symm,Eq.symm⟩
theorem rV (l:List θ) (w:θ):opD .isin (.str w) (.tup (sD l))=some (.bl (decide (w∈l))):=by
 show (inD (.str w) (sD l)).map D.bl=_
 rw [nK];rfl
theorem uS {S:List O} {n:Nat}:∀ h∈brs,ai Γ (n+1) yk [.str h] S = .ok (.tup (sD (brL.getD (brs.idxOf h) []))) S:=by
 intro h m
 have m:h = "given"∨h = "fn"∨h = "self"∨h = "call"∨h = "let"∨h = "if"∨h = "row"∨h = "at"∨h = "size"∨h = "pair"∨h = "one"∨h = "two"∨h = "as":=by simpa using m
 rcases m with rfl | rfl | rfl | rfl | rfl | rfl | rfl | rfl | rfl | rfl | rfl | rfl | rfl <;> kernel_rfl
theorem xM:∀ h∈brs,(∀ s∈brL.getD (brs.idxOf h) [],s∈wF)∧(brL.getD (brs.idxOf h) []).length≤100:=by decide +kernel
theorem jT {nd:Md}:∀ (ss r:List θ) (c:Nat) {p},aq nd ss r c=some p→p.1.length=ss.length
 | [],r,c,p,h=>by cases h;rfl
 | s :: ss,r,c,p,h=>by
   rw [aq] at h
   cases e:thM nd s r c with
   | none=>rw [e] at h;cases h
   | some x=>
     rw [e] at h
     have h:(aq nd ss x.2.1 x.2.2).map (fun q=>(x.1 :: q.1,q.2))=some p:=h
     cases e2:aq nd ss x.2.1 x.2.2 with
     | none=>rw [e2] at h;cases h
     | some y=>
       rw [e2] at h;cases h
       exact ZS (· + 1) (jT ss _ _ e2)
theorem Aj {a b:List D} (h:a.length+b.length≤100000):opD .add (.tup a) (.tup b)=some (.tup (a ++ b)):=by
 show fP _ _=_;unfold fP;rw [ZZ h]
section
variable {ws:List θ} {nd:Md} {d K:Nat}
theorem Ao (hw:∀ w∈ws,Aw w) (hnd:lF ws nd (d+1) K) (n:Nat) (c:Nat) (h:θ) (r:List θ) (k:Nat) (hs:(h :: r) <:+ ws):Sy ws ((brM h).bind fun b=>(aq nd b.2.2 r c).map fun p=>(.tup (.str b.1 :: .int (k:Nat) :: (b.2.1 ++ p.1)),p.2.1,p.2.2)) (ai Γ (n+K+16) aP [.ref 0,.int (k:Nat),.int (d:Nat)] (RSr ws (h :: r) c)):=by
 have p1:=cA (n:=n+K+13) (c:=c) hs
 have s1:=(sfx hs).2.1
 have i1:=rV sgs h
 have i2:=rV brs h
 have oh:=(hw h (hs.subset ι)).ow
 by_cases c1:h∈sgs
 ·rw [ZW c1] at i1
  have e:brM h=some (("do":θ),[D.str h],(["node","node"]:List θ)):=ZZ c1
  rw [e]
  have a:=ug hw hnd n ["node","node"] (by decide) (by decide) r c s1
  show Sy ws ((aq nd ["node","node"] r c).map fun p=>(.tup (.str "do" :: .int (k:Nat) :: ([D.str h] ++ p.1)),p.2.1,p.2.2)) _
  cases e:aq nd ["node","node"] r c with
  | none=>rw [e] at a;obtain ⟨st,a⟩:=a;exact ⟨st,(aa false (aX 0 (p1) (aX 0 (i1) (aC (aX 0 (a) aZ)))) (by kernel_rfl))⟩
  | some y=>
    obtain ⟨y,r2,c2⟩:=y
    have l:y.length=2:=jT _ _ _ e
    rw [e] at a
    obtain ⟨s2,a⟩:=a
    have ad:opD .add (.tup [.str "do",.int (k:Nat),.str h]) (.tup y)=some (.tup ([.str "do",.int (k:Nat),.str h] ++ y)):=Aj (by simp only [Ε,ÿ];omega)
    exact ⟨s2,(aa false (aX 0 (p1) (aX 0 (i1) (aC (aX 0 (a) (aX 0 (ad) aZ))))) (by kernel_rfl))⟩
 ·rw [ZV c1] at i1
  by_cases c2:h∈brs
  ·rw [ZW c2] at i2
   have e:brM h=some (h,[],brL.getD (brs.idxOf h) []):=by unfold brM;rw [ZY c1,ZZ c2]
   rw [e]
   have bs:=xM h c2
   have f:=uS (S:=RSr ws r c) (n:=n+K+14) h c2
   revert bs f
   generalize brL.getD (brs.idxOf h) []=ss
   intro bs f
   have a:=ug hw hnd n ss bs.1 bs.2 r c s1
   show Sy ws ((aq nd ss r c).map fun p=>(.tup (.str h :: .int (k:Nat) :: ([] ++ p.1)),p.2.1,p.2.2)) _
   cases e:aq nd ss r c with
   | none=>rw [e] at a;obtain ⟨st,a⟩:=a;exact ⟨st,(aa false (aX 0 (p1) (aX 0 (i1) (aX 1 (i2) (aX 0 (f) (aX 0 (a) aZ))))) (by kernel_rfl))⟩
   | some y=>
     obtain ⟨y,r2,c2⟩:=y
     have l:y.length=ss.length:=jT _ _ _ e
     rw [e] at a
     obtain ⟨s2,a⟩:=a
     have ad:opD .add (.tup [.str h,.int (k:Nat)]) (.tup y)=some (.tup ([.str h,.int (k:Nat)] ++ y)):=Aj (by have:=bs.2;simp only [Ε,ÿ];omega)
     exact ⟨s2,(aa false (aX 0 (p1) (aX 0 (i1) (aX 1 (i2) (aX 0 (f) (aX 0 (a) (aX 0 (ad) aZ)))))) (by kernel_rfl))⟩
  ·rw [ZV c2] at i2
   have e:brM h=none:=by unfold brM;rw [ZY c1,ZY c2]
   rw [e]
   exact ⟨RSr ws r c,(aa false (aX 0 (p1) (aX 0 (i1) (aX 1 (i2) (aX 1 (fz oh) (aX 0 (dJ oh) aZ))))) (by kernel_rfl))⟩
theorem Aq (n:Nat) (c k:Nat):ai Γ (n+K+16) aP [.ref 0,.int (k:Nat),.int (d:Nat)] (RSr ws [] c) = .exc 1 [] (RSr ws [] c):=(aa false (aX 0 (cS (n:=n+K+13) (ws:=ws) (c:=c)) aZ) (by kernel_rfl))
theorem iY {q c:Nat} (hc:c≠120) (h:θ) (r:List θ):ndM (q+1) (lpS :: h :: r) c=(brM h).bind fun b=>(aq (ndM q) b.2.2 r (c+1)).bind fun p=>(clM (.tup (.str b.1 :: .int c :: (b.2.1 ++ p.1))) p.2.1).map fun x=>(x.1,x.2,p.2.2):=by
 show (if c=120 then none else _)=_
 rw [ZY hc]
 show (if lpS=lpS then _ else _)=_
 rw [ZZ rfl]
theorem gU {q c:Nat} (hc:c≠120) {w:θ} (r:List θ) (h:w≠lpS):ndM (q+1) (w :: r) c=(cG w c).map fun d=>(d,r,c+1):=by
 show (if c=120 then none else _)=_
 rw [ZY hc]
 show (if w=lpS then _ else _)=_
 rw [ZY h]
theorem xj (hw:∀ w∈ws,Aw w):∀ (q d:Nat),d+q=9→lF ws (ndM q) d (5 * q)
 | 0,d,hd=>fun n r c _=>by
   have e0:opD .gt (.int (d:Nat)) (.int 8)=some (.bl true):=by show some (D.bl (decide _))=_;rw [ZW (by omega)]
   exact ⟨RSr ws r c,(aa false (aX 0 (e0) aZ) (by kernel_rfl))⟩
 | q+1,d,hd=>fun n r c hs=>by
   have e0:opD .gt (.int (d:Nat)) (.int 8)=some (.bl false):=by show some (D.bl (decide _))=_;rw [ZV (by omega)]
   by_cases hc:c=120
   ·have e:ndM (q+1) r c=none:=by unfold ndM;rw [ZZ hc]
    rw [e]
    have p0:=tN (n:=n+5 * q+15) (ws:=ws) (t:=ws.length - r.length) hc
    exact ⟨RSr ws r c,(aa false (aX 0 (e0) (aX 0 (p0) aZ)) (by kernel_rfl))⟩
   have p0:=tO (n:=n+5 * q+15) (ws:=ws) (t:=ws.length - r.length) hc
   cases r with
   | nil=>
     have e:ndM (q+1) [] c=none:=by unfold ndM;rw [ZY hc]
     rw [e]
     have p1:=cS (n:=n+5 * q+14) (ws:=ws) (c:=c+1)
     exact ⟨RSr ws [] (c+1),(aa false (aX 0 (e0) (aX 0 (p0) (aX 0 (p1) aZ))) (by kernel_rfl))⟩
   | cons w r=>
     have p1:=cA (n:=n+5 * q+14) (c:=c+1) hs
     have s1:=(sfx hs).2.1
     by_cases cw:w=lpS
     ·cases r with
      | nil=>
        have e:ndM (q+1) [w] c=none:=by unfold ndM;rw [ZY hc];dsimp only;rw [ZZ cw]
        rw [e];subst cw
        exact ⟨RSr ws [] (c+1),(aa false (aX 0 (e0) (aX 0 (p0) (aX 0 (p1) (aX 0 (Aq (ws:=ws) (K:=5 * q) (d:=d) n (c+1) c) aZ)))) (by kernel_rfl))⟩
      | cons h r=>
        rw [cw] at hs p0 p1 ⊢
        rw [iY hc h r]
        have b:=Ao hw (xj hw q (d+1) (by omega)) n (c+1) h r c s1
        cases eb:brM h with
        | none=>rw [eb] at b;obtain ⟨st,b⟩:=b;exact ⟨st,(aa false (aX 0 (e0) (aX 0 (p0) (aX 0 (p1) (aX 0 (b) aZ)))) (by kernel_rfl))⟩
        | some x=>
          obtain ⟨x1,x2,x3⟩:=x
          rw [eb] at b
          have b:Sy ws ((aq (ndM q) x3 r (c+1)).map fun p=>(.tup (.str x1 :: .int (c:Nat) :: (x2 ++ p.1)),p.2.1,p.2.2)) (ai Γ (n+5 * q+16) aP [.ref 0,.int (c:Nat),.int (d:Nat)] (RSr ws (h :: r) (c+1))):=b
          show Sy ws ((aq (ndM q) x3 r (c+1)).bind fun p=>(clM (D.tup (.str x1 :: .int c :: (x2 ++ p.1))) p.2.1).map fun x=>(x.1,x.2,p.2.2)) _
          cases et:aq (ndM q) x3 r (c+1) with
          | none=>rw [et] at b;obtain ⟨st,b⟩:=b;exact ⟨st,(aa false (aX 0 (e0) (aX 0 (p0) (aX 0 (p1) (aX 0 (b) aZ)))) (by kernel_rfl))⟩
          | some y=>
            obtain ⟨y,r2,c2⟩:=y
            rw [et] at b
            obtain ⟨s2,b⟩:=b
            show Sy ws ((clM (D.tup (.str x1 :: .int c :: (x2 ++ y))) r2).map fun x=>(x.1,x.2,c2)) _
            cases r2 with
            | nil=>exact ⟨RSr ws [] c2,(aa false (aX 0 (e0) (aX 0 (p0) (aX 0 (p1) (aX 0 (b) (aX 0 (dU (n:=n+5 * q+13) (ws:=ws) (c:=c2)) aZ))))) (by kernel_rfl))⟩
            | cons x r2=>
              have s3:=(sfx s2).2.1
              show Sy ws ((if x=rpS then some (D.tup (.str x1 :: .int c :: (x2 ++ y)),r2) else none).map fun x=>(x.1,x.2,c2)) _
              by_cases cx:x=rpS
              ·rw [ZZ cx];subst cx
               exact ⟨s3,(aa false (aX 0 (e0) (aX 0 (p0) (aX 0 (p1) (aX 0 (b) (aX 0 (eV (n:=n+5 * q+13) (c:=c2) s2) aZ))))) (by kernel_rfl))⟩
              ·rw [ZY cx]
               exact ⟨RSr ws r2 c2,(aa false (aX 0 (e0) (aX 0 (p0) (aX 0 (p1) (aX 0 (b) (aX 0 (eU (n:=n+5 * q+13) (c:=c2) s2 cx (hw x (s2.subset ι)).ow) aZ))))) (by kernel_rfl))⟩
     ·have lf:=vD (n:=n+5 * q+13) (S:=RSr ws r (c+1)) (hw w (hs.subset ι)) c
      have e:=gU (q:=q) hc r cw
      rw [e]
      cases el:cG w c with
      | none=>rw [el] at lf;exact ⟨RSr ws r (c+1),(aa false (aX 0 (e0) (aX 0 (p0) (aX 0 (p1) (aX 0 (qA cw) (aX 0 (lf) aZ))))) (by kernel_rfl))⟩
      | some y=>rw [el] at lf;exact ⟨s1,(aa false (aX 0 (e0) (aX 0 (p0) (aX 0 (p1) (aX 0 (qA cw) (aX 0 (lf) aZ))))) (by kernel_rfl))⟩
end
section
variable {n:Nat} {S:List O}
theorem ini (ws:List θ):aA Γ (n+2) 23 [.ref 0,.lst (sD ws)] [.ins 9 []] = .ok .non (RS ws 0 0):=by kernel_rfl
theorem xY {ws:List θ} {c:Nat}:ai Γ (n+1) cu [.ref 0] (RSr ws [] c) = .ok .non (RSr ws [] c):=by
 have e:opD .lt (.int ((ws.length - 0:Nat):Int)) (.int ((sD ws).length:Nat))=some (.bl false):=by show some (D.bl (decide _))=_;rw [ZV (by rw [Β];omega)]
 exact (aa false (aX 3 (e) aZ) (by kernel_rfl))
theorem xX {ws r:List θ} {c:Nat} {w:θ} (h:(w :: r) <:+ ws):ai Γ (n+1) cu [.ref 0] (RSr ws (w :: r) c) = .exc 1 [] (RSr ws (w :: r) c):=by
 have hl:=h.length_le
 rw [Ε] at hl
 have e:opD .lt (.int ((ws.length - (w :: r).length:Nat):Int)) (.int ((sD ws).length:Nat))=some (.bl true):=by show some (D.bl (decide _))=_;rw [ZW (by rw [Β,Ε];omega)]
 exact (aa false (aX 3 (e) aZ) (by kernel_rfl))
def rdM (ws:List θ):Option D:=(ndM 8 ws 0).bind fun p=>if p.2.1 = [] then some p.1 else none
def rdT (T:θ):Option D:=if T.length≤2000 then rdM (bp T) else none
theorem wt (T:θ) (h5:T.length≤90000) (hw:T.length≤2000→∀ w∈bp T,Aw w):match rdT T with
 | some d=>∃ st,ai Γ (n+60) rY [.str T] [] = .ok d st
 | none=>∃ st,ai Γ (n+60) rY [.str T] [] = .exc 1 [] st:=by
 unfold rdT
 by_cases hl:T.length≤2000
 ·rw [ZZ hl]
  have w0:=uw (S:=[]) (m:=n+58) T hl
  have i0:=ini (n:=n+57) (bp T)
  have a:=xj (hw hl) 8 1 rfl (n+7) (bp T) 0 (List.suffix_refl _)
  unfold rdM
  revert hw w0 i0 a
  generalize bp T=ws
  intro hw w0 i0 a
  have i0:aA Γ (n+59) 23 [.ref 0,.lst (sD ws)] [.ins 9 []] = .ok .non (RSr ws ws 0):=by rw [i0];unfold RSr;rw [Ŗ]
  cases e:ndM 8 ws 0 with
  | none=>rw [e] at a;obtain ⟨st,a⟩:=a;exact ⟨st,(aa false (aX 0 (w0) (aX 0 (i0) (aX 0 (a) aZ))) (by kernel_rfl))⟩
  | some y=>
    obtain ⟨y,r,c⟩:=y
    rw [e] at a
    obtain ⟨s1,a⟩:=a
    cases r with
    | nil=>exact ⟨RSr ws [] c,(aa false (aX 0 (w0) (aX 0 (i0) (aX 0 (a) (aX 0 (xY (n:=n+58) (ws:=ws) (c:=c)) aZ)))) (by kernel_rfl))⟩
    | cons w r=>exact ⟨RSr ws (w :: r) c,(aa false (aX 0 (w0) (aX 0 (i0) (aX 0 (a) (aX 0 (xX (n:=n+58) (c:=c) s1) aZ)))) (by kernel_rfl))⟩
 ·rw [ZY hl]
  have w0:=uv (S:=[]) (m:=n+58) T (by omega) (by omega)
  exact ⟨[],(aa false (aX 0 (w0) aZ) (by kernel_rfl))⟩
end
open L2.Lx (ch ch_app ch_len)
abbrev idp:Nat→Int:=fun n=>(n:Int)
theorem lN {α:Type} (a:α) (r:List θ):clM a (rpS :: r)=some (a,r):=(ZZ rfl:(if rpS=rpS then some (a,r) else none)=some (a,r))
theorem gL:∀ (k:Kd) (q:Nat) (r:List θ),k.dep≤q→kdM q (k.tok ++ r)=some (k,r)
 | .lf l,q+1,r,_=>by cases l <;> rfl
 | .lf l,0,r,h=>by simp only [Kd.dep] at h;omega
 | .row a,0,r,h=>by simp only [Kd.dep] at h;omega
 | .two k a b,0,r,h=>by simp only [Kd.dep] at h;omega
 | .row a,q+1,r,h=>by
   have h:1+a.dep≤q+1:=h
   show kdM (q+1) (lpS :: ("row":θ) :: ((a.tok ++ ([rpS]:List θ)) ++ r))=_
   rw [Ι]
   show ((kdM q (a.tok ++ rpS :: r)).bind fun p=>clM (Kd.row p.1) p.2)=_
   rw [gL a q _ (by omega)]
   exact lN _ _
 | .two k a b,q+1,r,h=>by
   have h:1+max a.dep b.dep≤q+1:=h
   show kdM (q+1) (lpS :: k.str :: ((a.tok ++ (b.tok ++ ([rpS]:List θ))) ++ r))=_
   rw [Ι,Ι]
   have e:kdM (q+1) (lpS :: k.str :: (a.tok ++ (b.tok ++ rpS :: r)))=(kdM q (a.tok ++ (b.tok ++ rpS :: r))).bind fun p=>(kdM q p.2).bind fun p2=>clM (Kd.two k p.1 p2.1) p2.2:=by cases k <;> rfl
   rw [show ([rpS]:List θ) ++ r=rpS :: r from rfl,e,gL a q _ (by omega)]
   show ((kdM q (b.tok ++ rpS :: r)).bind fun p2=>clM (Kd.two k a p2.1) p2.2)=_
   rw [gL b q _ (by omega)]
   exact lN _ _
theorem wH {nd:Md} {w:θ} (h:Nm w) (r:List θ) (c:Nat):thM nd "name" (w :: r) c=some (.str w,r,c):=by
 show (cy w).map (fun d=>(d,r,c))=_
 unfold cy
 rw [ZZ (iX h)];rfl
theorem f9 {nd:Md}:∀ (a b r:List θ) (c:Nat),aq nd (a ++ b) r c=(aq nd a r c).bind fun p=>(aq nd b p.2.1 p.2.2).map fun q=>(p.1 ++ q.1,q.2)
 | [],b,r,c=>by
   show aq nd b r c=(aq nd b r c).map fun q=>([] ++ q.1,q.2)
   cases aq nd b r c <;> rfl
 | s :: a,b,r,c=>by
   show (thM nd s r c).bind (fun p=>(aq nd (a ++ b) p.2.1 p.2.2).map fun q=>(p.1 :: q.1,q.2))=((thM nd s r c).bind fun p=>(aq nd a p.2.1 p.2.2).map fun q=>(p.1 :: q.1,q.2)).bind fun p=>(aq nd b p.2.1 p.2.2).map fun q=>(p.1 ++ q.1,q.2)
   cases thM nd s r c with
   | none=>rfl
   | some x=>
     show (aq nd (a ++ b) x.2.1 x.2.2).map (fun q=>(x.1 :: q.1,q.2))=((aq nd a x.2.1 x.2.2).map fun q=>(x.1 :: q.1,q.2)).bind fun p=>(aq nd b p.2.1 p.2.2).map fun q=>(p.1 ++ q.1,q.2)
     rw [f9 a b]
     cases aq nd a x.2.1 x.2.2 with
     | none=>rfl
     | some y=>
       show ((aq nd b y.2.1 y.2.2).map fun q=>(y.1 ++ q.1,q.2)).map (fun q=>(x.1 :: q.1,q.2))=(aq nd b y.2.1 y.2.2).map fun q=>((x.1 :: y.1) ++ q.1,q.2)
       cases aq nd b y.2.1 y.2.2 <;> rfl
theorem eN {nd:Md} {s:θ} {ss r r1 r2:List θ} {c c1 c2:Nat} {d:D} {ds:List D} (h:thM nd s r c=some (d,r1,c1)) (h2:aq nd ss r1 c1=some (ds,r2,c2)):aq nd (s :: ss) r c=some (d :: ds,r2,c2):=by
 rw [aq,h]
 show (aq nd ss r1 c1).map _=_
 rw [h2];rfl
theorem gb {nd:Md} {a b r r1 r2:List θ} {c c1 c2:Nat} {d ds:List D} (h:aq nd a r c=some (d,r1,c1)) (h2:aq nd b r1 c1=some (ds,r2,c2)):aq nd (a ++ b) r c=some (d ++ ds,r2,c2):=by
 rw [f9,h]
 show (aq nd b r1 c1).map _=_
 rw [h2];rfl
theorem cJ {nd:Md}:∀ (fr r:List θ) (c:Nat),(∀ w∈fr,Nm w)→aq nd (ξ fr.length "name") (fr ++ r) c=some (sD fr,r,c)
 | [],r,c,_=>rfl
 | w :: fr,r,c,h=>eN (wH (h w ι) _ c) (cJ fr r c fun w m=>h w (ν _ m))
theorem i5 {nd:Md}:∀ (ks:List Kd) (r:List θ) (c:Nat),(∀ k∈ks,k.dep≤6)→aq nd (ξ ks.length "kind") (ks.flatMap Kd.tok ++ r) c=some (ks.map Kd.toD,r,c)
 | [],r,c,_=>rfl
 | k :: ks,r,c,h=>by
   rw [Ì,Ι]
   refine eN (r1:=ks.flatMap Kd.tok ++ r) (c1:=c) ?_ (i5 ks r c fun w m=>h w (ν _ m))
   show kdA c (kdM 6 _)=_
   rw [gL k 6 _ (h k ι)];rfl
def Nd1 (nd:Md) (p:Tr) (m:Nat):Prop:=∀ (r:List θ) (c:Nat),c+p.sz≤m→nd (p.tok ++ r) c=some (p.toD idp c,r,c+p.sz)
theorem i6 {nd:Md} {m:Nat}:∀ (ps:List Tr) (r:List θ) (c:Nat),(∀ p∈ps,Nd1 nd p m)→c+szs ps≤m→aq nd (ξ ps.length "node") (toks ps ++ r) c=some (toDs idp c ps,r,c+szs ps)
 | [],r,c,_,_=>rfl
 | p :: ps,r,c,h,hc=>by
   have hc:c+(p.sz+szs ps)≤m:=hc
   show aq nd ("node" :: ξ ps.length "node") ((p.tok ++ toks ps) ++ r) c=some (p.toD idp c :: toDs idp (c+p.sz) ps,r,c+(p.sz+szs ps))
   rw [Ι,← ź]
   exact eN (r1:=toks ps ++ r) (c1:=c+p.sz) (h p ι _ c (by omega)) (i6 ps r (c+p.sz) (fun w q=>h w (ν _ q)) (by omega))
theorem xb {r:Nat} {t:Tr} (ok:Ok r t):∃ w l,t.tok=w :: l∧w≠rpS:=by
 cases ok with
 | num _ i h=>exact ⟨_,_,rfl,(tI h).2⟩
 | tru _ b=>exact ⟨_,_,rfl,by cases b <;> decide +kernel⟩
 | giv _ k h=>exact ⟨_,_,rfl,by decide +kernel⟩
 | nam _ w h=>exact ⟨_,_,rfl,(xl h).2⟩
 | nd=>exact ⟨_,_,rfl,by decide +kernel⟩
theorem i4 {nd:Md} {m:Nat}:∀ (ps:List Tr) (r:List θ) (c k:Nat),(∀ p∈ps,Nd1 nd p m∧∃ w l,p.tok=w :: l∧w≠rpS)→c+szs ps≤m→ps.length≤k→bu nd k (toks ps ++ rpS :: r) c=some (toDs idp c ps,rpS :: r,c+szs ps)
 | [],r,c,k,_,_,_=>by cases k <;> exact ZZ rfl
 | p :: ps,r,c,0,_,_,hk=>by simp at hk
 | p :: ps,r,c,k+1,h,hc,hk=>by
   have hc:c+(p.sz+szs ps)≤m:=hc
   obtain ⟨hp,w,l,e,hw⟩:=h p ι
   show bu nd (k+1) ((p.tok ++ toks ps) ++ rpS :: r) c=some (p.toD idp c :: toDs idp (c+p.sz) ps,rpS :: r,c+(p.sz+szs ps))
   rw [Ι,← ź]
   have hp:=hp (toks ps ++ rpS :: r) c (by omega)
   rw [e] at hp ⊢
   show (if w=rpS then _ else (nd (w :: (l ++ (toks ps ++ rpS :: r))) c).bind fun p=>(bu nd k p.2.1 p.2.2).map fun q=>(p.1 :: q.1,q.2))=_
   rw [ZY hw,show nd (w :: (l ++ (toks ps ++ rpS :: r))) c=_ from hp]
   show ((bu nd k (toks ps ++ rpS :: r) (c+p.sz)).map fun q=>(p.toD idp c :: q.1,q.2))=_
   rw [i4 ps r (c+p.sz) k (fun w q=>h w (ν _ q)) (by omega) (by simpa using hk)];rfl
theorem sH {i:Int} (h:i.natAbs<10 ^ 40) (c:Nat):cG (aj i) c=some (.tup [.str "whole",.int c,.int i]):=by
 have n:=fW h
 unfold cG
 rw [ZY (fun e=>by rw [e] at n;exact ZX n (by decide +kernel)),ZY (fun e=>by rw [e] at n;exact ZX n (by decide +kernel)),ZZ n]
 unfold eA
 rw [kK h];rfl
theorem sG {w:θ} (h:Nm w) (c:Nat):cG w c=some (.tup [.str "name",.int c,.str w]):=by
 unfold cG
 rw [ZY h.2.2.1,ZY h.2.2.2,sY h,ZY (by decide),ZZ (iX h)]
theorem Ap {s:θ} (h:s∈sgs):brM s=some (("do":θ),[D.str s],(["node","node"]:List θ)):=ZZ h
theorem j0 {h:Hd} (c:h≠.do_):brM h.str=some (h.str,[],h.sorts):=by cases h <;> first | (exact ZX rfl c) | kernel_rfl
theorem AR {α:Type} (a:α) (r:List θ) (c:Nat):((clM a (rpS :: r)).map fun x=>(x.1,x.2,c))=some (a,r,c):=by rw [lN];rfl
theorem jG {q c c2:Nat} (hc:c≠120) {h:θ} {r r2:List θ} {b:θ×List D×List θ} {ds:List D} (hb:brM h=some b) (ht:aq (ndM q) b.2.2 r (c+1)=some (ds,rpS :: r2,c2)):ndM (q+1) (lpS :: h :: r) c=some (.tup (.str b.1 :: .int c :: (b.2.1 ++ ds)),r2,c2):=by
 rw [iY hc,hb]
 show ((aq (ndM q) b.2.2 r (c+1)).bind _)=_
 rw [ht]
 exact AR _ _ _
theorem mt:∀ (q:Nat) (t:Tr),Ok q t→Nd1 (ndM q) t 120
 | q+1,t,ok=>fun r c hc=>by
   have c0:c≠120:=fun e=>by
    have:1≤t.sz:=by cases t <;> simp [Tr.sz]
    omega
   cases ok with
   | num _ i h=>
     show ndM (q+1) (aj i :: r) c=_
     rw [gU c0 r (tI h).1,sH h];rfl
   | tru _ b=>
     show ndM (q+1) ((if b=true then ("yes":θ) else "no") :: r) c=_
     rw [gU c0 r (by cases b <;> decide +kernel)]
     cases b <;> rfl
   | giv _ k h=>
     show ndM (q+1) (lpS :: ("given":θ) :: (aj k :: rpS :: r)) c=_
     have hk:(k:Int).natAbs<10 ^ 40:=by show k<_;omega
     have e:aq (ndM q) ["given"] (aj k :: rpS :: r) (c+1)=some ([.int k],rpS :: r,c+1):=eN (r1:=rpS :: r) (c1:=c+1) (by
      show (ki (aj k)).map (fun d=>(d,rpS :: r,c+1))=_
      unfold ki eA
      rw [kK hk,ZZ ⟨fW hk,by show (0:Int)≤k;omega,by show (k:Int)≤7;omega⟩];rfl) rfl
     rw [jG (b:=(("given":θ),([]:List D),(["given"]:List θ))) c0 (by kernel_rfl) e];rfl
   | nam _ w h=>
     show ndM (q+1) (w :: r) c=_
     rw [gU c0 r (xl h).1,sG h];rfl
   | nd _ h fr ks ps h1 h2 h3 h4 h5=>
     have hc:c+(1+szs ps)≤120:=hc
     have ih:∀ p∈ps,Nd1 (ndM q) p 120:=fun p m=>mt q p (h5 p m)
     have eP:=i6 ps (rpS :: r) (c+1) ih (by omega)
     have eK:=i5 (nd:=ndM q) ks (toks ps ++ rpS :: r) (c+1) h3
     by_cases cd:h = .do_
     ·subst cd
      unfold dL at h1
      rw [ZZ rfl] at h1
      obtain ⟨s,hs,rfl⟩:=h1
      have k0:ks = []:=ł.mp h2
      subst k0
      have p2:ps.length=2:=by unfold pH at h4;rw [ZY (by decide)] at h4;exact h4
      rw [p2] at eP
      have e:((Tr.nd .do_ [s] [] ps).tok ++ r)=lpS :: s :: (toks ps ++ rpS :: r):=by
       show (lpS :: s :: ([] ++ (toks ps ++ ([rpS]:List θ)))) ++ r=_
       simp
      rw [e,jG c0 (Ap hs) eP]
      show some (D.tup (.str "do" :: .int c :: ([.str s] ++ toDs idp (c+1) ps)),r,c+1+szs ps)=some (_,r,c+(1+szs ps))
      rw [← ź];rfl
     ·have e:((Tr.nd h fr ks ps).tok ++ r)=lpS :: h.str :: (fr ++ (ks.flatMap Kd.tok ++ (toks ps ++ rpS :: r))):=by
       show (lpS :: ((h.pre ++ fr) ++ (ks.flatMap Kd.tok ++ (toks ps ++ ([rpS]:List θ))))) ++ r=_
       unfold Hd.pre
       rw [ZY cd];simp
      unfold dL at h1
      rw [ZY cd] at h1
      have eF:=cJ (nd:=ndM q) fr (ks.flatMap Kd.tok ++ (toks ps ++ rpS :: r)) (c+1) h1.2
      rw [h1.1] at eF
      rw [h2] at eK
      have so:=tY h
      have sn:h.sn = "name":=ZY cd
      rw [ZY cd,sn] at so
      have toDe:(Tr.nd h fr ks ps).toD idp c = .tup (.str h.str :: .int c :: ((sD fr ++ ks.map Kd.toD) ++ (if h = .row then [.tup (toDs idp (c+1) ps)] else toDs idp (c+1) ps))):=rfl
      have szE:c+(Tr.nd h fr ks ps).sz=c+1+szs ps:=by show c+(1+szs ps)=_;omega
      rw [e,toDe,szE]
      by_cases cr:h = .row
      ·rw [ZZ cr] at so ⊢
       have n4:ps.length≤4:=by unfold pH at h4;rw [ZZ cr] at h4;exact h4
       have eR:=i4 ps r (c+1) 4 (fun p m=>⟨ih p m,xb (h5 p m)⟩) (by omega) n4
       have eT:aq (ndM q) ["nodes"] (toks ps ++ rpS :: r) (c+1)=some ([.tup (toDs idp (c+1) ps)],rpS :: r,c+1+szs ps):=eN (r1:=rpS :: r) (c1:=c+1+szs ps) (by
        show (bu (ndM q) 4 (toks ps ++ rpS :: r) (c+1)).map (fun p=>(D.tup p.1,p.2))=_
        rw [eR];rfl) rfl
       have all:=gb eF (gb eK eT)
       rw [← so] at all
       rw [jG c0 (j0 cd) all,Ι];rfl
      ·rw [ZY cr] at so ⊢
       have np:ps.length=h.np:=by unfold pH at h4;rw [ZY cr] at h4;exact h4
       rw [np] at eP
       have all:=gb eF (gb eK eP)
       rw [← so] at all
       rw [jG c0 (j0 cd) all,Ι];rfl
theorem zG {t:Tr} (ok:Ok 8 t) (hs:t.sz≤120):rdM t.tok=some (t.toD idp 0):=by
 have h:=mt 8 t ok [] 0 (by omega)
 rw [Ω] at h
 unfold rdM
 rw [h];rfl
open L2.Lx (ch ch_app ch_len)
abbrev Lt (w:θ):Prop:=∀ c∈ch w,97≤c∧c≤122
abbrev oks:List Nat:=[40,41,42,43,45,60,61,63]
def Gw (w:θ):Prop:=bT w=true∨(w.length=1∧∀ c∈ch w,c∈oks)∨(Lt w∧w.length≤8)
def bal:List θ→Int
 | []=>0
 | w :: r=>(if w=lpS then 1 else if w=rpS then -1 else 0)+bal r
theorem jf:∀ a b,bal (a ++ b)=bal a+bal b
 | [],b=>(FJ _).symm
 | w :: a,b=>by show _+bal (a ++ b)=_+bal a+bal b;rw [jf a b];omega
structure Rw (u:List θ):Prop where
 zero:bal u=0
 gw:∀ w∈u,Gw w
theorem zJ:Rw []:=⟨rfl,fun w m=>nomatch m⟩
theorem Rw.app {a b:List θ} (h:Rw a) (g:Rw b):Rw (a ++ b):=⟨by rw [jf,h.zero,g.zero];rfl,fun w m=>(ώ.mp m).elim (h.gw w) (g.gw w)⟩
def Pw (w:θ):Prop:=Gw w∧w≠lpS∧w≠rpS
theorem Pw.rw {w:θ} (h:Pw w):Rw [w]:=⟨by show (if w=lpS then (1:Int) else if w=rpS then -1 else 0)+0=0;rw [ZY h.2.1,ZY h.2.2];rfl,fun x m=>by rw [ε.mp m];exact h.1⟩
theorem Bb:Gw lpS:=.inr (.inl ⟨by decide +kernel,by decide +kernel⟩)
theorem Bc:Gw rpS:=.inr (.inl ⟨by decide +kernel,by decide +kernel⟩)
theorem Rw.br {u:List θ} (h:Rw u):Rw (lpS :: (u ++ [rpS])):=⟨by
 show (if lpS=lpS then (1:Int) else _)+bal (u ++ [rpS])=0
 rw [ZZ rfl,jf,h.zero]
 show (1:Int)+(0+((if rpS=lpS then (1:Int) else if rpS=rpS then -1 else 0)+0))=0
 rw [ZY (by decide +kernel),ZZ rfl];rfl,fun w m=>by
 rcases υ.mp m with rfl | m
 ·exact Bb
 rcases ώ.mp m with m | m
 ·exact h.gw w m
 ·rw [ε.mp m];exact Bc⟩
theorem mF {w:θ} (h:bT w=true):Pw w:=⟨.inl h,fun e=>by rw [e] at h;exact ZX h (by decide +kernel),fun e=>by rw [e] at h;exact ZX h (by decide +kernel)⟩
theorem oX {w:θ} (h:bZ w=true):Pw w:=by
 refine ⟨?_,fun e=>by rw [e] at h;exact ZX h (by decide +kernel),fun e=>by rw [e] at h;exact ZX h (by decide +kernel)⟩
 unfold bZ at h
 rw [ω,ω,decide_eq_true_eq] at h
 exact .inr (.inr ⟨fun c m=>(l6 c).mp (of_decide_eq_true (Λ.mp h.2.2 c m)),h.2.1.2⟩)
def ltB (w:θ):Bool:=(ch w).all (fun c=>decide (97≤c∧c≤122)) && decide (w.length≤8)
def pwB (w:θ):Bool:=(decide (w.length=1∧∀ c∈ch w,c∈oks) || ltB w) && !(w == lpS) && !(w == rpS)
theorem dS {w:θ} (h:pwB w=true):Pw w:=by
 unfold pwB at h
 rw [ω,ω,Ed,decide_eq_true_eq] at h
 refine ⟨?_,fun e=>by subst e;exact ZX h.1.2 (by decide +kernel),fun e=>by subst e;exact ZX h.2 (by decide +kernel)⟩
 rcases h.1.1 with q | q
 ·exact .inr (.inl q)
 ·unfold ltB at q
  rw [ω,decide_eq_true_eq] at q
  exact .inr (.inr ⟨fun c m=>of_decide_eq_true (Λ.mp q.1 c m),q.2⟩)
def S1 (ws r:List θ):Prop:=∃ u,ws=u ++ r∧Rw u
theorem S1.refl (ws:List θ):S1 ws ws:=⟨[],rfl,zJ⟩
theorem S1.trans {a b c:List θ} (h:S1 a b) (g:S1 b c):S1 a c:=by
 obtain ⟨u,rfl,hu⟩:=h
 obtain ⟨v,rfl,hv⟩:=g
 exact ⟨u ++ v,(Ι ..).symm,hu.app hv⟩
theorem S1.one {w:θ} (h:Pw w) (r:List θ):S1 (w :: r) r:=⟨[w],rfl,h.rw⟩
theorem S1.br {a r:List θ} (h:S1 a (rpS :: r)):S1 (lpS :: a) r:=by
 obtain ⟨u,rfl,hu⟩:=h
 exact ⟨lpS :: (u ++ [rpS]),by simp,hu.br⟩
theorem lO {α:Type} {a:α} {ws:List θ} {p:α×List θ} (h:clM a ws=some p):ws=rpS :: p.2:=by
 cases ws with
 | nil=>cases h
 | cons x r=>
   have h:(if x=rpS then some (a,r) else none)=some p:=h
   by_cases c:x=rpS
   ·rw [ZZ c] at h;cases h;rw [c]
   ·rw [ZY c] at h;cases h
theorem yu {w:θ} {l:L3} (h:l3M w=some l):Pw w:=by
 unfold l3M at h
 by_cases c1:w = "whole"
 ·subst c1;exact dS (by decide +kernel)
 by_cases c2:w = "truth"
 ·subst c2;exact dS (by decide +kernel)
 by_cases c3:w = "?"
 ·subst c3;exact dS (by decide +kernel)
 rw [ZY c1,ZY c2,ZY c3] at h;cases h
theorem yh {w:θ} {l:H2} (h:h2M w=some l):Pw w:=by
 unfold h2M at h
 by_cases c1:w = "to"
 ·subst c1;exact dS (by decide +kernel)
 by_cases c2:w = "pair"
 ·subst c2;exact dS (by decide +kernel)
 rw [ZY c1,ZY c2] at h;cases h
theorem jA:∀ (q:Nat) (ws:List θ) (p:Kd×List θ),kdM q ws=some p→S1 ws p.2
 | 0,ws,p,h=>by cases h
 | q+1,[],p,h=>by cases h
 | q+1,w :: r,p,h=>by
   rw [kdM.eq_def] at h
   dsimp only at h
   cases e:l3M w with
   | some l=>rw [e] at h;cases h;exact .one (yu e) r
   | none=>
     rw [e] at h
     dsimp only at h
     by_cases c:w=lpS
     ·rw [ZZ c] at h;subst c
      cases r with
      | nil=>cases h
      | cons x r=>
        dsimp only at h
        by_cases c2:x = "row"
        ·rw [ZZ c2] at h;subst c2
         obtain ⟨a,h1,h2⟩:=Χ.mp h
         have s:=jA q r a h1
         rw [lO h2] at s
         exact (S1.trans (.one (dS (by decide +kernel)) r) s).br
        ·rw [ZY c2] at h
         obtain ⟨k,h0,h⟩:=Χ.mp h
         obtain ⟨a,h1,h⟩:=Χ.mp h
         obtain ⟨b,h2,h3⟩:=Χ.mp h
         have s:=(jA q r a h1).trans (jA q a.2 b h2)
         rw [lO h3] at s
         exact (S1.trans (.one (yh h0) r) s).br
     ·rw [ZY c] at h;cases h
theorem sI {w:θ} {c:Nat} {d:D} (h:cG w c=some d):Pw w:=by
 unfold cG at h
 by_cases c1:w = "yes"
 ·subst c1;exact dS (by decide +kernel)
 by_cases c2:w = "no"
 ·subst c2;exact dS (by decide +kernel)
 rw [ZY c1,ZY c2] at h
 by_cases c3:bT w=true
 ·exact mF c3
 rw [ZY c3] at h
 by_cases c4:bZ w=true
 ·exact oX c4
 rw [ZY c4] at h;cases h
theorem xL {h:θ} {b} (e:brM h=some b):Pw h:=by
 unfold brM at e
 by_cases c1:h∈sgs
 ·exact dS ((by decide +kernel:∀ h∈sgs,pwB h=true) h c1)
 rw [ZY c1] at e
 by_cases c2:h∈brs
 ·exact dS ((by decide +kernel:∀ h∈brs,pwB h=true) h c2)
 rw [ZY c2] at e;cases e
def NdS (nd:Md):Prop:=∀ (ws:List θ) (c:Nat) (p),nd ws c=some p→S1 ws p.2.1
section
variable {nd:Md}
theorem o8 (hn:NdS nd):∀ (k:Nat) (ws:List θ) (c:Nat) (p),bu nd k ws c=some p→S1 ws p.2.1
 | k,[],c,p,h=>by cases k <;> cases h
 | 0,w :: r,c,p,h=>by
   have h:(if w=rpS then some (([]:List D),w :: r,c) else none)=some p:=h
   by_cases e:w=rpS
   ·rw [ZZ e] at h;cases h;exact .refl _
   ·rw [ZY e] at h;cases h
 | k+1,w :: r,c,p,h=>by
   have h:(if w=rpS then some (([]:List D),w :: r,c) else (nd (w :: r) c).bind fun p=>(bu nd k p.2.1 p.2.2).map fun q=>(p.1 :: q.1,q.2))=some p:=h
   by_cases e:w=rpS
   ·rw [ZZ e] at h;cases h;exact .refl _
   ·rw [ZY e] at h
    obtain ⟨a,h1,h⟩:=Χ.mp h
    obtain ⟨b,h2,rfl⟩:=τ.mp h
    exact (hn _ _ _ h1).trans (o8 hn k _ _ b h2)
theorem zV (hn:NdS nd) {s:θ} {ws:List θ} {c:Nat} {p} (h:thM nd s ws c=some p):S1 ws p.2.1:=by
 unfold thM at h
 by_cases c1:s = "node"
 ·rw [ZZ c1] at h;exact hn _ _ _ h
 rw [ZY c1] at h
 by_cases c2:s = "nodes"
 ·rw [ZZ c2] at h
  obtain ⟨a,h1,rfl⟩:=τ.mp h
  exact o8 hn 4 _ _ _ h1
 rw [ZY c2] at h
 by_cases c3:s = "kind"
 ·rw [ZZ c3] at h
  obtain ⟨a,h1,rfl⟩:=τ.mp h
  exact jA 6 ws a h1
 rw [ZY c3] at h
 cases ws with
 | nil=>cases h
 | cons w r=>
   obtain ⟨a,h1,rfl⟩:=τ.mp h
   refine .one ?_ r
   by_cases c4:s = "name"
   ·rw [ZZ c4] at h1
    unfold cy at h1
    by_cases c5:bZ w=true
    ·exact oX c5
    ·rw [ZY c5] at h1;cases h1
   ·rw [ZY c4] at h1
    unfold ki at h1
    by_cases c5:bT w=true∧0≤eA w∧eA w≤7
    ·exact mF c5.1
    ·rw [ZY c5] at h1;cases h1
theorem py (hn:NdS nd):∀ (ss ws:List θ) (c:Nat) (p),aq nd ss ws c=some p→S1 ws p.2.1
 | [],ws,c,p,h=>by cases h;exact .refl _
 | s :: ss,ws,c,p,h=>by
   rw [aq] at h
   obtain ⟨a,h1,h⟩:=Χ.mp h
   obtain ⟨b,h2,rfl⟩:=τ.mp h
   exact (zV hn h1).trans (py hn ss _ _ b h2)
end
theorem sZ:∀ q:Nat,NdS (ndM q)
 | 0=>fun ws c p h=>by cases h
 | q+1=>fun ws c p h=>by
   by_cases hc:c=120
   ·rw [ndM.eq_def] at h;dsimp only at h;rw [ZZ hc] at h;cases h
   cases ws with
   | nil=>rw [ndM.eq_def] at h;dsimp only at h;rw [ZY hc] at h;cases h
   | cons w r=>
     by_cases cw:w=lpS
     ·subst cw
      cases r with
      | nil=>
        rw [ndM.eq_def] at h;dsimp only at h;rw [ZY hc,ZZ rfl] at h;cases h
      | cons x r=>
        rw [iY hc] at h
        obtain ⟨b,h0,h⟩:=Χ.mp h
        obtain ⟨a,h1,h⟩:=Χ.mp h
        obtain ⟨e,h2,rfl⟩:=τ.mp h
        have s:=py (sZ q) _ _ _ _ h1
        rw [lO h2] at s
        exact (S1.trans (.one (xL h0) r) s).br
     ·rw [gU hc r cw] at h
      obtain ⟨a,h1,rfl⟩:=τ.mp h
      exact .one (sI h1) r
theorem zF {ws:List θ} {d:D} (h:rdM ws=some d):Rw ws:=by
 unfold rdM at h
 obtain ⟨p,h1,h2⟩:=Χ.mp h
 have h2:(if p.2.1 = [] then some p.1 else none)=some d:=h2
 by_cases c:p.2.1 = []
 ·obtain ⟨u,e,hu⟩:=sZ 8 _ _ _ h1
  rw [c,Ω] at e
  rw [e];exact hu
 ·rw [ZY c] at h2;cases h2
theorem B5 {ws:List θ} (h:¬ Rw ws):rdM ws=none:=by
 cases e:rdM ws with
 | none=>rfl
 | some d=>exact ZX (zF e) h
open L2.Lx (ch ch_app ch_len Tok Con Br)
theorem kJ:∀ {l:List D},(∀ d∈l,noR d=true)→ba l=true
 | [],_=>rfl
 | d :: l,h=>by
   show (noR d && ba l)=true
   rw [h d ι,kJ fun x m=>h x (ν _ m)];rfl
theorem ti:∀ (r:Nat) (d:D),Pl r d→noR d=true
 | r,_,.int _ _=>rfl
 | r,_,.bl _ _=>rfl
 | r,_,.str _ _=>rfl
 | r+1,_,.tup _ l hl h=>kJ fun d m=>ti r d (h d m)
theorem wB {n:Nat} {S:List O}:ai Γ (n+1) ky [.ins 1 []] S = .ok (.str "refused") S:=by kernel_rfl
structure Bd (T:θ) (d:D) (g:Bool):Prop where
 len:T.length≤90000
 aw:T.length≤2000→∀ w∈bp T,Aw w
 rd:if g=true then ∃ e,rdT T=some e∧noR e=true∧ai Γ 248 bC [e,d] [] = .ok (.bl true) [] else rdT T=none
theorem right {T:θ} {d:D} {g:Bool} (h:Bd T d g):ai Γ 249 jy [.str T,d,.bl g] [] = .ok (.bl true) []:=by
 have rd:=wt (n:=188) T h.len h.aw
 cases g with
 | true=>
   have h1:=h.rd
   rw [ZZ rfl] at h1
   obtain ⟨e,h1,h2,al⟩:=h1
   rw [h1] at rd
   obtain ⟨st,rd⟩:=rd
   exact (aa false (aX 0 (rd) (aX 0 (h2) (aX 0 (al) aZ))) (by kernel_rfl))
 | false=>
   have h1:=h.rd
   rw [ZY (by decide)] at h1
   rw [h1] at rd
   obtain ⟨st,rd⟩:=rd
   exact (aa false (aX 0 (rd) (aX 0 (wB (n:=247) (S:=[])) aZ)) (by kernel_rfl))
def awB (w:θ):Bool:=decide (w.length≤200) && (ch w).all fun c=>decide (c<128)
def okB (r:Res):Bool:=match r with | .ok (.bl b) st=>b && st.isEmpty | _=>false
theorem Dy {r:Res} (h:okB r=true):r = .ok (.bl true) []:=by
 cases r with
 | ok d st=>
   cases d with
   | bl b=>cases b with
     | true=>cases st with
       | nil=>rfl
       | cons a l=>cases h
     | false=>cases h
   | _=>cases h
 | _=>cases h
def bdB (T:θ) (d:D) (g:Bool):Bool:=decide (T.length≤90000) && ((bp T).all awB) && (if g=true then (match rdT T with | some e=>noR e && okB (ai Γ 248 bC [e,d] []) | none=>false) else (rdT T).isNone)
theorem lK {T:θ} {d:D} {g:Bool} (h:bdB T d g=true):Bd T d g:=by
 unfold bdB at h
 rw [ω,ω,decide_eq_true_eq] at h
 refine ⟨h.1.1,fun _ w m=>?_,?_⟩
 ·have:=Λ.mp h.1.2 w m
  unfold awB at this
  rw [ω,decide_eq_true_eq] at this
  exact ⟨this.1,fun c m=>of_decide_eq_true (Λ.mp this.2 c m)⟩
 ·have h2:=h.2
  cases g with
  | true=>
    rw [ZZ rfl] at h2 ⊢
    cases q:rdT T with
    | none=>rw [q] at h2;cases h2
    | some e=>
      rw [q] at h2
      have h2:(noR e && okB (ai Γ 248 bC [e,d] []))=true:=h2
      rw [ω] at h2
      exact ⟨e,rfl,h2.1,Dy h2.2⟩
  | false=>
    rw [ZY (by decide)] at h2 ⊢
    exact Eu.mp h2
open L2.Lx (ch ch_app ch_len Tok Con Br Wd)
def Tk (T:θ) (ws:List θ):Prop:=L2.Lx.lex (ch T)=ws.map ch
theorem Tk.words {T:θ} {ws:List θ} (h:Tk T ws):bp T=ws:=uu h
theorem dF {w:θ} (h:Wd (ch w)):Tk w [w]:=L2.Lx.lex_wd h
theorem b9 {P T:θ} {q:List Nat} {ps b:List θ} (e:ch P=q ++ [32]) (h:L2.Lx.lex q=ps.map ch) (g:Tk T b):Tk (P ++ T) (ps ++ b):=by
 show L2.Lx.lex (ch (P ++ T))=_
 rw [ch_app,e,Ι]
 show L2.Lx.lex (q ++ 32 :: ch T)=_
 rw [L2.Lx.lex_bl,h,show L2.Lx.lex (ch T)=b.map ch from g,ϗ]
theorem dE {T:θ} {a:List θ} (h:Tk T a):Tk (T ++ rpS) (a ++ ([rpS]:List θ)):=by
 show L2.Lx.lex (ch (T ++ rpS))=_
 rw [ch_app,show ch rpS = [41] by decide +kernel]
 show L2.Lx.lex (ch T ++ 41 :: [])=_
 rw [L2.Lx.lex_br _ _ _ (.inr rfl),show L2.Lx.lex (ch T)=a.map ch from h,L2.Lx.lex_nil,ϗ]
 rw [show ([rpS]:List θ).map ch = [[41]] by decide +kernel]
theorem Ck {A B:θ} {a b:List θ} (h:Tk A a) (g:Tk B b):Tk ((A ++ blS) ++ B) (a ++ b):=by
 show L2.Lx.lex (ch ((A ++ blS) ++ B))=_
 rw [ch_app,ch_app,show ch blS = [32] by decide +kernel,Ι]
 show L2.Lx.lex (ch A ++ 32 :: ch B)=_
 rw [L2.Lx.lex_bl,show L2.Lx.lex (ch A)=a.map ch from h,show L2.Lx.lex (ch B)=b.map ch from g,ϗ]
theorem cV {P T:θ} {q:List Nat} {ps b:List θ} (e:ch P=q ++ [32]) (h:L2.Lx.lex q=ps.map ch) (g:Tk T b):Tk ((P ++ T) ++ rpS) (ps ++ (b ++ ([rpS]:List θ))):=by
 rw [← Ι];exact dE (b9 e h g)
theorem bM {T:θ} {t:Tr} (ok:Ok 8 t) (sz:t.sz≤120) (tk:Tk T t.tok) (hl:T.length≤2000):Bd T (t.toD idp 0) true:=by
 have pl:=xu (f:=idp) 8 t ok 0
 refine ⟨by omega,fun _ w m=>?_,?_⟩
 ·rw [tk.words] at m
  exact nW (mM 8 t ok w m)
 ·rw [ZZ rfl]
  refine ⟨_,?_,ti _ _ pl,jZ 23 _ pl 224⟩
  unfold rdT
  rw [ZZ hl,tk.words]
  exact zG ok sz
theorem jd {T:θ} {ws:List θ} {d:D} (tk:Tk T ws) (aw:∀ w∈ws,Aw w) (hn:rdM ws=none) (hl:T.length≤90000):Bd T d false:=by
 refine ⟨hl,fun _ w m=>aw w (tk.words ▸ m),?_⟩
 rw [ZY (by decide)]
 unfold rdT
 rw [tk.words,hn];split <;> rfl
theorem vM {T:θ} {d:D} (hl:2000<T.length) (h2:T.length≤90000):Bd T d false:=by
 refine ⟨h2,fun h=>by omega,?_⟩
 rw [ZY (by decide)]
 unfold rdT
 rw [ZY (by omega)]
theorem aT (a:Int) {b:Int} (hb:0<b∧b<2 ^ 200):opD .fdiv (.int a) (.int b)=some (.int (a / b)):=by show (if 0<b∧b<2 ^ 200 then some (D.int (a / b)) else none)=_;rw [ZZ hb]
theorem aW {a b k:Int} (h:a % b=k) (hb:0<b):opD .mod (.int a) (.int b)=some (.int k):=by show (if 0<b then some (D.int (a % b)) else none)=_;rw [ZZ hb,h]
theorem BK (b:Bool) (r x:Int):b=(r == x)→opD .eq (.int r) (.int x)=some (.bl b):=fun e=>by subst e;rfl
theorem fq (a:Int) (b:Nat) (hb:0<b):∃ r:Nat,r<b∧opD .mod (.int a) (.int (b:Nat))=some (.int (r:Nat)):=by
 have h1:=Ht a (b:=(b:Int)) (by omega)
 have h2:=GP a (b:=(b:Int)) (by omega)
 exact ⟨(a % (b:Int)).toNat,by omega,aW (by omega) (by omega)⟩
theorem s8 (s:Int):s % 8=0∨s % 8=1∨s % 8=2∨s % 8=3∨s % 8=4∨s % 8=5∨s % 8=6∨s % 8=7:=by omega
theorem s4 (s:Int):s % 4=0∨s % 4=1∨s % 4=2∨s % 4=3:=by omega
theorem s5 (s:Int):s % 5=0∨s % 5=1∨s % 5=2∨s % 5=3∨s % 5=4:=by omega
abbrev Dx:List D:=[.int 0,.int 1,.int 0,.int 1,.int 2,.int (-1),.int (-2),.int 3]
theorem cD (s:Int):∃ r o:Int,opD .mod (.int s) (.int 8)=some (.int r)∧ixD (.lst Dx) (.int r)=some (.int o)∧(o = -2∨o = -1∨o=0∨o=1∨o=2∨o=3):=by
 rcases s8 s with h | h | h | h | h | h | h | h <;> exact ⟨_,_,aW h (by decide),rfl,by decide⟩
theorem i9 {a o m:Int} (h:a+o=m):opD .add (.int a) (.int o)=some (.int m):=ZS (fun z=>some (D.int z)) h
theorem ltM {o:Int} {b:Bool} (h:decide (o<1)=b):opD .lt (.int o) (.int 1)=some (.bl b):=ZS (fun z=>some (D.bl z)) h
def BdO (w s c:Int):Prop:=∃ T d g,ai Γ 249 bD [.int w,.int s,.int c] [] = .ok (.tup [.str T,d,.bl g]) []∧Bd T d g
theorem uY (s:θ):("":θ) ++ s=s:=L2.Lx.ch_inj (by rw [ch_app];rfl)
open L2.Lx (ch ch_app ch_len Tok Con Br Wd)
abbrev nms:List θ:=["yes","no","yess","ye","n","noo","yes","no"]
abbrev yn (w:θ):Bool:=!(w == "yes" || w == "no")
theorem zj (r:Nat) (h:r<8):∃ w,w∈nms∧ixD (.lst (sD nms)) (.int (r:Nat))=some (.str w):=by
 have h:r<nms.length:=h
 exact ⟨nms[r],ú h,dI (by rw [ϒ,Μ h];rfl)⟩
theorem zm (w:θ):opD .notin (.str w) (.tup [.str "yes",.str "no"])=some (.bl (yn w)):=by
 have e:=lV w
 have i:(inD (.str w) [.str "yes",.str "no"]).map D.bl=some (D.bl (w == "yes" || w == "no")):=e
 show (inD (.str w) [.str "yes",.str "no"]).map (fun b=>D.bl (!b))=_
 cases q:inD (.str w) [.str "yes",.str "no"] with
 | none=>rw [q] at i;cases i
 | some b=>rw [q] at i;cases i;rfl
abbrev bt (w:θ):D:=.tup [.str w]
abbrev w7:D:=.tup [.str "whole",.int 1,.int 7]
abbrev pP:θ:="(let "
abbrev pQ:θ:=" 5 7)"
abbrev pR:θ:="(fn "
abbrev pS:θ:=" ? 7)"
abbrev pT:θ:="(self "
abbrev pU:θ:=" x ? truth 7)"
abbrev pV:θ:="(self x "
abbrev pW:θ:=" ? truth 7)"
theorem nm0:∀ w∈nms,bdB ((pP ++ w) ++ pQ) (.tup [.str "let",.int 0,.str w,.tup [.str "whole",.int 1,.int 5],.tup [.str "whole",.int 2,.int 7]]) (yn w)=true:=by decide +kernel
theorem nm1:∀ w∈nms,bdB ((pR ++ w) ++ pS) (.tup [.str "fn",.int 0,.str w,bt "?",w7]) (yn w)=true:=by decide +kernel
theorem nm2:∀ w∈nms,bdB ((pT ++ w) ++ pU) (.tup [.str "self",.int 0,.str w,.str "x",bt "?",bt "truth",w7]) (yn w)=true:=by decide +kernel
theorem nm3:∀ w∈nms,bdB ((pV ++ w) ++ pW) (.tup [.str "self",.int 0,.str "x",.str w,bt "?",bt "truth",w7]) (yn w)=true:=by decide +kernel
theorem we:∀ w∈nms,w.length≤4:=by decide +kernel
theorem BS (s c:Int):∃ T d g,ai Γ 248 jx [.int s,.int c] [] = .ok (.tup [.str T,d,.bl g]) []∧Bd T d g:=by
 obtain ⟨r,hr,m8⟩:=fq s 8 (by decide)
 obtain ⟨w,hw,ix⟩:=zj r hr
 have ny:=zm w
 have lw:=we w hw
 have l1:pP.length≤20∧pQ.length≤20∧pR.length≤20∧pS.length≤20∧pT.length≤20∧pU.length≤20∧pV.length≤20∧pW.length≤20:=by decide +kernel
 have ad:∀ a b:θ,a.length≤20→b.length≤20→opD .add (.str a) (.str w)=some (.str (a ++ w))∧opD .add (.str (a ++ w)) (.str b)=some (.str ((a ++ w) ++ b)):=fun a b h1 h2=>⟨aM (by omega),aM (by rw [af];omega)⟩
 rcases s4 c with h | h | h | h
 ·have m4:=aW h (b:=4) (by decide)
  obtain ⟨a1,a2⟩:=ad pP pQ l1.1 l1.2.1
  exact ⟨(pP ++ w) ++ pQ,.tup [.str "let",.int 0,.str w,.tup [.str "whole",.int 1,.int 5],.tup [.str "whole",.int 2,.int 7]],yn w,(aa false (aX 0 (m8) (aX 0 (ix) (aX 0 (ny) (aX 0 (m4) (aX 2 (a1) (aX 0 (a2) aZ)))))) (by kernel_rfl)),lK (nm0 w hw)⟩
 ·have m4:=aW h (b:=4) (by decide)
  obtain ⟨a1,a2⟩:=ad pR pS l1.2.2.1 l1.2.2.2.1
  exact ⟨(pR ++ w) ++ pS,.tup [.str "fn",.int 0,.str w,bt "?",w7],yn w,(aa false (aX 0 (m8) (aX 0 (ix) (aX 0 (ny) (aX 0 (m4) (aX 2 (m4) (aX 2 (a1) (aX 0 (a2) aZ))))))) (by kernel_rfl)),lK (nm1 w hw)⟩
 ·have m4:=aW h (b:=4) (by decide)
  obtain ⟨a1,a2⟩:=ad pT pU l1.2.2.2.2.1 l1.2.2.2.2.2.1
  exact ⟨(pT ++ w) ++ pU,.tup [.str "self",.int 0,.str w,.str "x",bt "?",bt "truth",w7],yn w,(aa false (aX 0 (m8) (aX 0 (ix) (aX 0 (ny) (aX 0 (m4) (aX 2 (m4) (aX 2 (m4) (aX 2 (a1) (aX 0 (a2) aZ)))))))) (by kernel_rfl)),lK (nm2 w hw)⟩
 ·have m4:=aW h (b:=4) (by decide)
  obtain ⟨a1,a2⟩:=ad pV pW l1.2.2.2.2.2.2.1 l1.2.2.2.2.2.2.2
  exact ⟨(pV ++ w) ++ pW,.tup [.str "self",.int 0,.str "x",.str w,bt "?",bt "truth",w7],yn w,(aa false (aX 0 (m8) (aX 0 (ix) (aX 0 (ny) (aX 0 (m4) (aX 2 (m4) (aX 2 (m4) (aX 2 (a1) (aX 0 (a2) aZ)))))))) (by kernel_rfl)),lK (nm3 w hw)⟩
end L2.K16
end
section
set_option exponentiation.threshold 300
namespace L2.K16
open L2.Bk L2.Ev
open L2.Lx (ch ch_app ch_len Tok Con Br Wd)
theorem je {w:θ} (h1:bT w=false) (h2:2≤w.length) (h3:(∃ c∈ch w,c<97)∨9≤w.length):¬ Gw w:=fun g=>by
 rcases g with g | g | g
 ·rw [h1] at g;cases g
 ·have:=g.1;omega
 ·rcases h3 with ⟨c,m,h3⟩ | h3
  ·have:=g.1 c m;omega
  ·have:=g.2;omega
theorem zk {w:θ} (h:∃ c∈bz (ch w),c<48∨57<c):bT w=false:=by
 obtain ⟨c,m,h⟩:=h
 have:dA FIG (bz (ch w))=false:=by
  rw [D9]
  intro q
  have:=(jr c).mp (of_decide_eq_true (Λ.mp q c m))
  omega
 unfold bT
 rw [this];simp
theorem tf {w:θ} (h:40<(bz (ch w)).length):bT w=false:=by
 unfold bT
 rw [ZV (fun q=>by omega)];rfl
theorem Dt {w:θ} (h:(bz (ch w)).head? = some 48) (hl:2≤w.length):bT w=false:=by
 have:(w == "0")=false:=ZU.mpr fun e=>by rw [e] at hl;exact ZX hl (by decide +kernel)
 unfold bT
 rw [this,ZW h];simp
theorem mJ (w:θ) (k:Nat) (h:k≤w.length):ch (Ϥ w (some (k:Int)) none)=(ch w).drop k:=by
 have e:Ϥ w (some (k:Int)) none=è w (some (k:Int)) (some (w.length:Int)):=by
  unfold Ϥ è
  rw [Eo]
 rw [e,ņ w h (Ϗ _)]
 show ((ch w).drop k).take (w.length - k)=_
 rw [ő]
 rw [ù,← ch_len];exact Ϗ _
theorem tW (w:θ) (k:Nat) (h:k≤w.length):ch (Ϥ w none (some (k:Int)))=(ch w).take k:=by
 have e:Ϥ w none (some (k:Int))=è w (some ((0:Nat):Int)) (some (k:Int)):=by
  unfold Ϥ è
  rw [StrLaws.sliceIdx_none_lo];rfl
 rw [e,ņ w (ϰ _) h]
 show ((ch w).drop 0).take (k - 0)=_
 rw [Ī,FE]
theorem wi {i:Int} (h:i.natAbs<10 ^ 42):cf .str (.int i)=some (.str (aj i)):=by
 show (if i.natAbs.log2<1920 then _ else none)=_
 rw [ZZ]
 rcases Nat.eq_zero_or_pos i.natAbs with z | z
 ·rw [z];decide
 ·exact Ϲ ((E8 (by omega)).mpr (Ϲ h (by decide +kernel:10 ^ 42≤2 ^ 400))) (by decide)
theorem w9 {m k:Nat} (hk:0<k) (h:m<10 ^ k):(dg m).length≤k:=by
 rw [Β]
 exact (İ (by decide) hk).mpr h
theorem va (m:Nat):bz (dg m)=dg m:=by
 unfold bz
 rw [ZY]
 intro e
 have:=fO m 45 (GN e)
 omega
theorem rj (m:Nat):1≤(dg m).length:=ġ.mpr (jm m)
theorem gR {w:θ} (h:∀ c∈ch w,97≤c∧c≤122) (hl:9≤w.length):¬ Gw w:=by
 obtain ⟨a,r,e⟩:=mZ (show 1≤w.length by omega)
 have ha:=h a (by rw [e];exact ι)
 have f:bz (ch w)=a :: r:=by
  rw [e];unfold bz;rw [ZY]
  intro z
  have:a=45:=by simpa using z
  omega
 exact je (zk ⟨a,by rw [f];exact ι,by omega⟩) (by omega) (.inr hl)
theorem BP {w:θ} (h:∀ c∈ch w,97≤c∧c≤122) (hl:1≤w.length):Wd (ch w):=by
 obtain ⟨a,r,e⟩:=mZ hl
 exact ⟨by rw [e];simp,fun x m=>by have:=h x m;omega⟩
theorem BN {w:θ} (h:∀ c∈ch w,97≤c∧c≤122) (hl:w.length≤200):Aw w:=⟨hl,fun c m=>by have:=h c m;omega⟩
theorem d5 {A Q:θ} {q:List Nat} {a m:List θ} (h:Tk A a) (e:ch Q=32 :: q) (g:L2.Lx.lex q=m.map ch):Tk (A ++ Q) (a ++ m):=by
 show L2.Lx.lex (ch (A ++ Q))=_
 rw [ch_app,e,L2.Lx.lex_bl,g,show L2.Lx.lex (ch A)=a.map ch from h,ϗ]
theorem uh {A Q B:θ} {q:List Nat} {a m b:List θ} (h:Tk A a) (e:ch Q=32 :: (q ++ [32])) (g:L2.Lx.lex q=m.map ch) (k:Tk B b):Tk ((A ++ Q) ++ B) (a ++ (m ++ b)):=by
 show L2.Lx.lex (ch ((A ++ Q) ++ B))=_
 rw [ch_app,ch_app,e,Ι]
 show L2.Lx.lex (ch A ++ 32 :: ((q ++ [32]) ++ ch B))=_
 rw [L2.Lx.lex_bl,Ι]
 show L2.Lx.lex (ch A) ++ L2.Lx.lex (q ++ 32 :: ch B)=_
 rw [L2.Lx.lex_bl,g,show L2.Lx.lex (ch A)=a.map ch from h,show L2.Lx.lex (ch B)=b.map ch from k,ϗ,ϗ]
abbrev mQ:θ:=" 5 "
abbrev mR:θ:=" x ? truth no)"
theorem fy {T:θ} {ws:List θ} {d:D} {w:θ} (tk:Tk T ws) (aw:∀ w∈ws,Aw w) (hl:T.length≤90000) (m:w∈ws) (hg:¬ Gw w):Bd T d false:=jd tk aw (B5 fun h=>hg (h.gw w m)) hl
abbrev hL:List θ:=["(","let"]
abbrev h5:List θ:=["5"]
abbrev hS:List θ:=["(","self"]
abbrev hX:List θ:=["x","?","truth","no",")"]
theorem vE (m:Nat) (hm:6≤m∧m≤11) (c:Int):∃ T d,ai Γ 248 gI [.int (m:Nat),.int c] [] = .ok (.tup [.str T,d]) []∧Bd T d (decide (m≤8)):=by
 have z3:=aT c (b:=3) (by decide)
 obtain ⟨k,hk,m26⟩:=fq (c / 3) 26 (by decide)
 have lL:LET.length=26:=by decide +kernel
 have sk:=mJ LET k (by omega)
 have ls:(Ϥ LET (some (k:Int)) none).length=26 - k:=by rw [ch_len,sk,ù,← ch_len,lL]
 have a3:opD .add (.str (Ϥ LET (some (k:Int)) none)) (.str LET)=some (.str (Ϥ LET (some (k:Int)) none ++ LET)):=aM (by rw [ls,lL];omega)
 have c3:∀ x∈ch (Ϥ LET (some (k:Int)) none ++ LET),97≤x∧x≤122:=fun x m=>by
  rw [ch_app,sk] at m
  exact (l6 x).mp ((ώ.mp m).elim Ť id)
 have l3:(Ϥ LET (some (k:Int)) none ++ LET).length=52 - k:=by rw [af,ls,lL];omega
 revert a3 c3 l3
 generalize Ϥ LET (some (k:Int)) none ++ LET=L3
 intro a3 c3 l3
 have s1:slO (.str L3) none (some (m:Int))=some (.str (Ϥ L3 none (some (m:Int)))):=ZZ (by omega)
 have st:=tW L3 m (by omega)
 have lw:(Ϥ L3 none (some (m:Int))).length=m:=by rw [ch_len,st,Ł,← ch_len];omega
 have cw:∀ x∈ch (Ϥ L3 none (some (m:Int))),97≤x∧x≤122:=fun x mx=>c3 x (by rw [st] at mx;exact FO mx)
 revert s1 lw cw
 generalize Ϥ L3 none (some (m:Int))=w
 intro s1 lw cw
 have tw:Tk w [w]:=dF (BP cw (by omega))
 have aw:=BN cw (by omega)
 have y3:("yes":θ).length=3:=by decide +kernel
 have n2:("no":θ).length=2:=by decide +kernel
 have nm:m≤8→Nm w:=fun h=>⟨by omega,cw,fun e=>by rw [e,y3] at lw;omega,fun e=>by rw [e,n2] at lw;omega⟩
 have awc:∀ l:List θ,(l.all awB)=true→∀ x∈l,Aw x:=fun l h x mx=>by
  have:=Λ.mp h x mx
  unfold awB at this
  rw [ω,decide_eq_true_eq] at this
  exact ⟨this.1,fun c m=>of_decide_eq_true (Λ.mp this.2 c m)⟩
 have lp:pP.length=5∧mQ.length=3∧rpS.length=1∧pT.length=6∧mR.length=14:=by decide +kernel
 have c30:c % 3=0∨c % 3=1∨c % 3=2:=by omega
 rcases c30 with h | h | h
 ·have m3:=aW h (b:=3) (by decide)
  refine ⟨w,.tup [.str "name",.int 0,.str w],(aa false (aX 0 (z3) (aX 0 (m26) (aX 1 (a3) (aX 0 (s1) (aX 0 (m3) aZ))))) (by kernel_rfl)),?_⟩
  by_cases g:m≤8
  ·rw [ZW g]
   exact bM (t:=.nam w) (.nam 7 w (nm g)) (by show 1≤120;decide) tw (by omega)
  ·rw [ZV g]
   exact fy tw (fun x mx=>by rw [ε.mp mx];exact aw) (by omega) ι (gR cw (by omega))
 ·have m3:=aW h (b:=3) (by decide)
  have a1:opD .add (.str pP) (.str w)=some (.str (pP ++ w)):=aM (by omega)
  have a2:opD .add (.str (pP ++ w)) (.str mQ)=some (.str ((pP ++ w) ++ mQ)):=aM (by rw [af];omega)
  have a4:opD .add (.str ((pP ++ w) ++ mQ)) (.str w)=some (.str (((pP ++ w) ++ mQ) ++ w)):=aM (by rw [af,af];omega)
  have a5:opD .add (.str (((pP ++ w) ++ mQ) ++ w)) (.str rpS)=some (.str ((((pP ++ w) ++ mQ) ++ w) ++ rpS)):=aM (by rw [af,af,af];omega)
  have tk:Tk ((((pP ++ w) ++ mQ) ++ w) ++ rpS) ((hL ++ ([w]:List θ)) ++ (h5 ++ ([w]:List θ)) ++ ([rpS]:List θ)):=dE (uh (q:=[53]) (m:=h5) (b9 (q:=[40,108,101,116]) (ps:=hL) (by decide +kernel) (by decide +kernel) tw) (by decide +kernel) (by decide +kernel) tw)
  have len:((((pP ++ w) ++ mQ) ++ w) ++ rpS).length≤100:=by rw [af,af,af,af];omega
  refine ⟨(((pP ++ w) ++ mQ) ++ w) ++ rpS,.tup [.str "let",.int 0,.str w,.tup [.str "whole",.int 1,.int 5],.tup [.str "name",.int 2,.str w]],(aa false (aX 0 (z3) (aX 0 (m26) (aX 1 (a3) (aX 0 (s1) (aX 0 (m3) (aX 2 (m3) (aX 2 (a1) (aX 0 (a2) (aX 0 (a4) (aX 0 (a5) aZ)))))))))) (by kernel_rfl)),?_⟩
  by_cases g:m≤8
  ·rw [ZW g]
   have ok:Ok 8 (.nd .let_ [w] [] [.num 5,.nam w]):=.nd 7 _ _ _ _ ⟨rfl,fun x mx=>by rw [ε.mp mx];exact nm g⟩ rfl (fun k m=>nomatch m) rfl fun p mp=>by
    rcases υ.mp mp with rfl | mp
    ·exact .num 6 5 (by decide)
    ·rw [ε.mp mp];exact .nam 6 w (nm g)
   have et:(Tr.nd .let_ [w] [] [.num 5,.nam w]).tok=(hL ++ ([w]:List θ)) ++ (h5 ++ ([w]:List θ)) ++ ([rpS]:List θ):=by
    show lpS :: "let" :: w :: aj 5 :: w :: [rpS]=_
    rw [show aj 5=("5":θ) by decide +kernel];rfl
   exact bM ok (by show 1+(1+(1+0))≤120;decide) (et ▸ tk) (by omega)
  ·rw [ZV g]
   exact fy tk (fun x mx=>by
    simp only [ώ,υ,ŀ,or_false] at mx
    rcases mx with ((mx | mx) | mx) | mx
    ·rcases mx with rfl | rfl <;> exact awc [_] (by decide +kernel) _ ι
    ·rw [mx];exact aw
    ·rcases mx with rfl | rfl
     ·exact awc ["5"] (by decide +kernel) _ ι
     ·exact aw
    ·rw [mx];exact awc [rpS] (by decide +kernel) _ ι) (by omega) (w:=w) (by simp) (gR cw (by omega))
 ·have m3:=aW h (b:=3) (by decide)
  have a1:opD .add (.str pT) (.str w)=some (.str (pT ++ w)):=aM (by omega)
  have a2:opD .add (.str (pT ++ w)) (.str mR)=some (.str ((pT ++ w) ++ mR)):=aM (by rw [af];omega)
  have tk:Tk ((pT ++ w) ++ mR) ((hS ++ ([w]:List θ)) ++ hX):=d5 (q:=(ch mR).drop 1) (b9 (q:=(ch pT).take 5) (ps:=hS) (by decide +kernel) (by decide +kernel) tw) (by decide +kernel) (by decide +kernel)
  have len:((pT ++ w) ++ mR).length≤100:=by rw [af,af];omega
  refine ⟨(pT ++ w) ++ mR,.tup [.str "self",.int 0,.str w,.str "x",bt "?",bt "truth",.tup [.str "truth",.int 1,.bl false]],(aa false (aX 0 (z3) (aX 0 (m26) (aX 1 (a3) (aX 0 (s1) (aX 0 (m3) (aX 2 (m3) (aX 2 (a1) (aX 0 (a2) aZ)))))))) (by kernel_rfl)),?_⟩
  by_cases g:m≤8
  ·rw [ZW g]
   have nx:Nm "x":=by decide +kernel
   have ok:Ok 8 (.nd .self [w,"x"] [.lf .unt,.lf .truth] [.tru false]):=.nd 7 _ _ _ _ ⟨rfl,fun x mx=>by rcases υ.mp mx with rfl | mx;exact nm g;rw [ε.mp mx];exact nx⟩ rfl (fun k m=>by rcases υ.mp m with rfl | m;(show 1≤6;decide);rw [ε.mp m];show 1≤6;decide) rfl fun p mp=>by rw [ε.mp mp];exact .tru 6 _
   exact bM ok (by show 1+(1+0)≤120;decide) tk (by omega)
  ·rw [ZV g]
   exact fy tk (fun x mx=>by
    simp only [ώ,υ,ŀ,or_false] at mx
    rcases mx with (mx | mx) | mx
    ·rcases mx with rfl | rfl <;> exact awc [_] (by decide +kernel) _ ι
    ·rw [mx];exact aw
    ·rcases mx with rfl | rfl | rfl | rfl | rfl <;> exact awc [_] (by decide +kernel) _ ι) (by omega) (w:=w) (by simp) (gR cw (by omega))
end L2.K16
end
section
set_option exponentiation.threshold 300
namespace L2.K16
open L2.Bk L2.Ev
open L2.Lx (ch ch_app ch_len Tok Con Br Wd)
theorem sX (i:Int) {j:Int} (hj:-(2 ^ 64)<j∧j<2 ^ 64):opD .mul (.int i) (.int j)=some (.int (i * j)):=by
 show (if _ then _ else _)=_
 rw [ZZ (.inl (.inr hj))]
theorem qy {i:Int} (hi:-(2 ^ 64)<i∧i<2 ^ 64) (j:Int):opD .mul (.int i) (.int j)=some (.int (i * j)):=by
 show (if _ then _ else _)=_
 rw [ZZ (.inl (.inl hi))]
abbrev one (x:Nat):θ:=⟨#[x]⟩
theorem AT (r:Nat) (h:r<10):∃ c,(48≤c∧c≤57)∧(0<r→c≠48)∧∀ y:Int,y=(r:Nat)→cf .str (.int y)=some (.str (one c)):=by
 refine ⟨48+r,by omega,fun h=>by omega,fun y hy=>?_⟩
 subst hy
 have:r=0∨r=1∨r=2∨r=3∨r=4∨r=5∨r=6∨r=7∨r=8∨r=9:=by omega
 rcases this with rfl | rfl | rfl | rfl | rfl | rfl | rfl | rfl | rfl | rfl <;> kernel_rfl
structure Fg (x:θ) (k:Nat):Prop where
 len:x.length=k
 fig:∀ c∈ch x,48≤c∧c≤57
 hd:∃ a r,ch x=a :: r∧49≤a
theorem Fg.add {x:θ} {k c:Nat} (h:Fg x k) (hc:48≤c∧c≤57):Fg (x ++ one c) (k+1):=by
 refine ⟨by rw [af,h.len];rfl,fun y m=>?_,?_⟩
 ·rw [ch_app] at m
  rcases ώ.mp m with m | m
  ·exact h.fig y m
  ·rw [ε.mp (show y∈[c] from m)];exact hc
 ·obtain ⟨a,r,e,ha⟩:=h.hd
  exact ⟨a,r ++ [c],by rw [ch_app,e];rfl,ha⟩
theorem back:∀ l:List Nat,(∀ c∈l,48≤c∧c≤57)→(l.map IF).map Ž=l
 | [],_=>rfl
 | c :: l,h=>by
   have hc:=h c ι
   have e:(IF c).toNat=c:=by
    have:c=48∨c=49∨c=50∨c=51∨c=52∨c=53∨c=54∨c=55∨c=56∨c=57:=by omega
    rcases this with rfl | rfl | rfl | rfl | rfl | rfl | rfl | rfl | rfl | rfl <;> decide
   rw [ë,ë,back l fun x m=>h x (ν _ m),e]
theorem Fg.val {x:θ} {k:Nat} (h:Fg x k) (hk:k≤600):∃ v:Nat,cf .int (.str x)=some (.int (v:Nat))∧1≤v∧ch x=dg v:=by
 obtain ⟨a,r,e,ha⟩:=h.hd
 have ne:ch x≠[]:=by rw [e];simp
 have iT:=Fx (x:=x) h.fig ne (by rw [h.len];omega)
 refine ⟨NumText.digitsVal (ch x),?_,?_,?_⟩
 ·show (if x.length≤640 then (ñ x).map D.int else none)=_
  rw [ZZ (by rw [h.len];omega),iT];rfl
 ·rw [e];exact NumText.digitsVal_pos ha
 ·unfold dg
  rw [NumText.toDigits_digitsVal r.length (ch x) (by rw [e];rfl) h.fig (.inr ⟨a,r,e,ha⟩),back _ h.fig]
abbrev fgB:S:=gQ gD.body
theorem nv {N:Nat} (m c:Int):∀ (l:List Int) (L:Nat) (x:θ) (e:Option D),(∀ y∈l,0≤y∧y≤60)→Fg x L→L+l.length≤60→∃ (x':θ) (e':Option D),Fg x' (L+l.length)∧bv (fe Γ (ai Γ N) (aA Γ N) [3] true fgB) (l.map .int) ⟨[some (.int m),some (.int c),some (.str x),e],[],[]⟩ = .nx ⟨[some (.int m),some (.int c),some (.str x'),e'],[],[]⟩
 | [],L,x,e,_,h,_=>⟨x,e,h,rfl⟩
 | y :: l,L,x,e,hy,h,hl=>by
   simp only [Ε] at hl ⊢
   obtain ⟨y1,y2⟩:=hy y ι
   have z9:=aT c (b:=9) (by decide)
   have z5:=aT c (b:=5) (by decide)
   obtain ⟨q,hq,q1,q2⟩:∃ q:Int,y * y=q∧0≤q∧q≤3600:=⟨_,rfl,ES y1 y1,by have:=HN y2 y2 y1 (by decide);omega⟩
   have u1:=sX y (j:=y) (by omega)
   rw [hq] at u1
   have u2:=qy (i:=q) (by omega) (c / 5)
   obtain ⟨r,hr,m10⟩:=fq (c / 9+q * (c / 5)) 10 (by decide)
   obtain ⟨d,hd,_,sd⟩:=AT r hr
   have sd:=sd _ rfl
   have lx:=h.len
   have ad:opD .add (.str x) (.str (one d))=some (.str (x ++ one d)):=aM (by rw [show (one d).length=1 from rfl];omega)
   obtain ⟨x',e',f',g⟩:=nv m c l (L+1) (x ++ one d) (some (.int y)) (fun z mz=>hy z (ν _ mz)) (h.add hd) (by omega)
   exact ⟨x',e',by rw [show L+(l.length+1)=L+1+l.length by omega];exact f',cF (cq rfl (fQ false (aX 0 (z9) (aX 0 (u1) (aX 0 (z5) (aX 0 (u2) (aX 1 (m10) (aX 0 (sd) (aX 0 (ad) aZ))))))) (by kernel_rfl))) g⟩
theorem jw (k:Nat):ixs 0 k=((ô 0 k).map fun (i:Nat)=>(i:Int)).map D.int:=by rw [HX];rfl
abbrev pY:θ:="(pair yes "
abbrev pZ:θ:="(pair yes -"
abbrev hP:List θ:=["(","pair","yes"]
theorem vb (m:Nat) (hm:38≤m∧m≤43) (c:Int):∃ T d,ai Γ 248 gH [.int (m:Nat),.int c] [] = .ok (.tup [.str T,d]) []∧Bd T d (decide (m≤40)):=by
 obtain ⟨r,hr,m9⟩:=fq c 9 (by decide)
 obtain ⟨d0,hd0,hd1,sd⟩:=AT (1+r) (by omega)
 have sd:=sd (1+(r:Int)) (by omega)
 have f0:Fg (one d0) 1:=⟨rfl,fun y my=>by rw [ε.mp (show y∈[d0] from my)];exact hd0,d0,[],rfl,by have:=hd1 (by omega);omega⟩
 have oS:opD .sub (.int (m:Nat)) (.int 1)=some (.int ((m - 1:Nat):Int)):=ZS (fun z=>some (D.int z)) (by omega)
 have rg:=hU (n:=m - 1) (by omega)
 obtain ⟨x,e,fx,lp⟩:=nv (N:=247) (m:Nat) c ((ô 0 (m - 1)).map fun (i:Nat)=>(i:Int)) 1 (one d0) none (fun y my=>by
  obtain ⟨i,hi,rfl⟩:=Ú.mp my
  have:=ĉ.mp hi
  omega) f0 (by rw [Β,ā];omega)
 rw [← jw] at lp
 rw [Β,ā,show 1+(m - 1)=m by omega] at fx
 obtain ⟨v,iv,v1,ev⟩:=fx.val (by omega)
 have z2:=aT c (b:=2) (by decide)
 have lx:=fx.len
 have ne:∃ a r,ch x=a :: r:=by obtain ⟨a,r,e,_⟩:=fx.hd;exact ⟨a,r,e⟩
 have ld:(dg v).length=m:=by rw [← ev,← ch_len,lx]
 have aw:Aw x:=⟨by omega,fun y my=>by have:=fx.fig y my;omega⟩
 have awc:∀ l:List θ,(l.all awB)=true→∀ x∈l,Aw x:=fun l h x mx=>by
  have:=Λ.mp h x mx
  unfold awB at this
  rw [ω,decide_eq_true_eq] at this
  exact ⟨this.1,fun c m=>of_decide_eq_true (Λ.mp this.2 c m)⟩
 have vlt:m≤40→v<10 ^ 40:=fun g=>by
  rw [Β] at ld
  exact (İ (by decide) (by decide)).mp (by omega)
 have e2:c / 2 % 2=0∨c / 2 % 2=1:=by omega
 rcases e2 with h | h
 ·have m2:=aW h (b:=2) (by decide)
  refine ⟨x,.tup [.str "whole",.int 0,.int (v:Nat)],(aa true (aX 0 (m9) (aX 1 (sd) (aX 0 (oS) (aX 0 (rg) (aX 0 (lp) (aX 0 (z2) (aX 0 (m2) (aX 2 (iv) aZ)))))))) (by kernel_rfl)),?_⟩
  have ex:x=aj (v:Nat):=L2.Lx.ch_inj (by rw [ev,bx])
  have tw:Tk x [x]:=dF ⟨by obtain ⟨a,r,e⟩:=ne;rw [e];simp,fun y my=>by have:=fx.fig y my;omega⟩
  by_cases g:m≤40
  ·rw [ZW g]
   exact bM (t:=.num (v:Nat)) (.num 7 _ (vlt g)) (by show 1≤120;decide) (by show Tk x [aj (v:Nat)];rw [← ex];exact tw) (by omega)
  ·rw [ZV g]
   refine fy tw (fun x mx=>by rw [ε.mp mx];exact aw) (by omega) ι (je (tf (by rw [ev,va];omega)) (by omega) (.inr (by omega)))
 ·have m2:=aW h (b:=2) (by decide)
  have lp2:pZ.length=11∧rpS.length=1∧pY.length=10:=by decide +kernel
  have a1:opD .add (.str pZ) (.str x)=some (.str (pZ ++ x)):=aM (by omega)
  have a2:opD .add (.str (pZ ++ x)) (.str rpS)=some (.str ((pZ ++ x) ++ rpS)):=aM (by rw [af];omega)
  refine ⟨(pZ ++ x) ++ rpS,.tup [.str "pair",.int 0,.tup [.str "truth",.int 1,.bl true],.tup [.str "whole",.int 2,.int (0 - (v:Nat))]],(aa true (aX 0 (m9) (aX 1 (sd) (aX 0 (oS) (aX 0 (rg) (aX 0 (lp) (aX 0 (z2) (aX 0 (m2) (aX 2 (a1) (aX 0 (a2) (aX 0 (iv) aZ)))))))))) (by kernel_rfl)),?_⟩
  have eZ:pZ ++ x=pY ++ (one 45 ++ x):=L2.Lx.ch_inj (by rw [ch_app,ch_app,ch_app,show ch pZ=ch pY ++ [45] by decide +kernel,Ι];rfl)
  have eX:one 45 ++ x=aj (-(v:Int)):=L2.Lx.ch_inj (by
   obtain ⟨k,rfl⟩:∃ k,v=k+1:=⟨v - 1,by omega⟩
   rw [ch_app,ev,show (-((k+1:Nat):Int))=Ũ k from rfl,dk];rfl)
  have lm:(one 45 ++ x).length=m+1:=by rw [af,lx,show (one 45).length=1 from rfl];omega
  have cm:ch (one 45 ++ x)=45 :: ch x:=by rw [ch_app];rfl
  have tw:Tk (one 45 ++ x) [one 45 ++ x]:=dF ⟨by rw [cm];simp,fun y my=>by
   rw [cm] at my
   rcases υ.mp my with rfl | my
   ·decide
   ·have:=fx.fig y my;omega⟩
  have tk:=cV (P:=pY) (q:=(ch pY).take 9) (ps:=hP) (by decide +kernel) (by decide +kernel) tw
  rw [← eZ] at tk
  have len:((pZ ++ x) ++ rpS).length≤100:=by rw [af,af];omega
  by_cases g:m≤40
  ·rw [ZW g,show (0 - ((v:Nat):Int)) = -(v:Int) by omega]
   have ok:Ok 8 (.nd .pair [] [] [.tru true,.num (-(v:Int))]):=.nd 7 _ _ _ _ ⟨rfl,fun x m=>nomatch m⟩ rfl (fun k m=>nomatch m) rfl fun p mp=>by
    rcases υ.mp mp with rfl | mp
    ·exact .tru 6 _
    ·rw [ε.mp mp];exact .num 6 _ (by have:=vlt g;omega)
   rw [eX] at tk
   exact bM ok (by show 1+(1+(1+0))≤120;decide) tk (by omega)
  ·rw [ZV g]
   refine fy tk (fun y my=>?_) (by omega) (w:=one 45 ++ x) (by simp) (je (tf (by rw [cm];show 40<(ch x).length;rw [← ch_len];omega)) (by omega) (.inr (by omega)))
   rcases ώ.mp my with my | my
   ·exact awc hP (by decide +kernel) y my
   rcases ώ.mp my with my | my
   ·rw [ε.mp my]
    exact ⟨by omega,fun z mz=>by
     rw [cm] at mz
     rcases υ.mp mz with rfl | mz
     ·decide
     ·have:=fx.fig z mz;omega⟩
   ·exact awc [rpS] (by decide +kernel) y my
open L2.Lx (ch ch_app ch_len Tok Con Br Wd)
theorem DE (s c:Int):BdO 2 s c:=by
 have z8:=aT s (b:=8) (by decide)
 obtain ⟨r,o,m8,io,ho⟩:=cD s
 obtain ⟨m,hm⟩:∃ m:Nat,40+o=m:=⟨(40+o).toNat,by omega⟩
 obtain ⟨T,d,e,b⟩:=vb m (by omega) c
 have lt:opD .lt (.int o) (.int 1)=some (.bl (decide (m≤40))):=ltM (decide_eq_decide.mpr (by omega))
 exact ⟨T,d,_,(aa false (aX 0 (m8) (aX 0 (io) (aX 0 (z8) (aX 6 (i9 hm) (aX 0 (e) (aX 0 (lt) aZ)))))) (by kernel_rfl)),b⟩
theorem DF (s c:Int):BdO 3 s c:=by
 have z8:=aT s (b:=8) (by decide)
 obtain ⟨r,o,m8,io,ho⟩:=cD s
 obtain ⟨m,hm⟩:∃ m:Nat,8+o=m:=⟨(8+o).toNat,by omega⟩
 obtain ⟨T,d,e,b⟩:=vE m (by omega) c
 have lt:opD .lt (.int o) (.int 1)=some (.bl (decide (m≤8))):=ltM (decide_eq_decide.mpr (by omega))
 exact ⟨T,d,_,(aa false (aX 0 (m8) (aX 0 (io) (aX 0 (z8) (aX 8 (i9 hm) (aX 0 (e) (aX 0 (lt) aZ)))))) (by kernel_rfl)),b⟩
theorem DK (s c:Int):BdO 8 s c:=by
 have z8:=aT s (b:=8) (by decide)
 obtain ⟨r,o,m8,io,_⟩:=cD s
 obtain ⟨T,d,g,e,b⟩:=BS (s / 8) c
 exact ⟨T,d,g,(aa false (aX 0 (m8) (aX 0 (io) (aX 0 (z8) (aX 0 (e) aZ)))) (by kernel_rfl)),b⟩
abbrev rwT (m:Nat):θ:=((("(row whole":θ) ++ À " yes" (m:Nat)) ++ rpS)
abbrev rwD (m:Nat):D:=.tup [.str "row",.int 0,bt "whole",.tup ((õ m).map fun (i:Nat)=>.tup [.str "truth",.int (1+(i:Int)),.bl true])]
theorem B8:∀ m∈([2,3,4,5,6,7]:List Nat),bdB (rwT m) (rwD m) (decide (m≤4))=true:=by decide +kernel
theorem DG (s c:Int):BdO 4 s c:=by
 have z8:=aT s (b:=8) (by decide)
 obtain ⟨r,o,m8,io,ho⟩:=cD s
 have go:∀ (m:Nat),m∈([2,3,4,5,6,7]:List Nat)→ai Γ 249 bD [.int 4,.int s,.int c] [] = .ok (.tup [.str (rwT m),rwD m,.bl (decide (m≤4))]) []→BdO 4 s c:=fun m hm k=>⟨_,_,_,k,lK (B8 m hm)⟩
 rcases ho with rfl | rfl | rfl | rfl | rfl | rfl
 ·exact go 2 (by decide) (aa false (aX 0 (m8) (aX 0 (io) (aX 0 (z8) aZ))) (by kernel_rfl))
 ·exact go 3 (by decide) (aa false (aX 0 (m8) (aX 0 (io) (aX 0 (z8) aZ))) (by kernel_rfl))
 ·exact go 4 (by decide) (aa false (aX 0 (m8) (aX 0 (io) (aX 0 (z8) aZ))) (by kernel_rfl))
 ·exact go 5 (by decide) (aa false (aX 0 (m8) (aX 0 (io) (aX 0 (z8) aZ))) (by kernel_rfl))
 ·exact go 6 (by decide) (aa false (aX 0 (m8) (aX 0 (io) (aX 0 (z8) aZ))) (by kernel_rfl))
 ·exact go 7 (by decide) (aa false (aX 0 (m8) (aX 0 (io) (aX 0 (z8) aZ))) (by kernel_rfl))
open L2.Lx (ch ch_app ch_len Tok Con Br Wd)
abbrev gvT (k:Int) (j:Nat):θ:=match j with
 | 0=>(("(given ":θ) ++ aj k) ++ ")"
 | 1=>(("(given ":θ) ++ aj k) ++ " 7)"
 | _=>"(given)"
abbrev gvD (k:Int):D:=.tup [.str "given",.int 0,.int k]
abbrev gvG (k:Int) (j:Nat):Bool:=decide (0≤k∧k<8) && decide (j<2)
theorem Ba:∀ k∈([7,8,0,-1,9,6]:List Int),∀ j∈([0,1,2,3,4]:List Nat),bdB (gvT k (j / 2)) (gvD k) (gvG k j)=true:=by decide +kernel
theorem DH (s c:Int):BdO 5 s c:=by
 have z8:=aT s (b:=8) (by decide)
 obtain ⟨r,o,m8,io,ho⟩:=cD s
 obtain ⟨j,hj,m5⟩:=fq (s / 8) 5 (by decide)
 have z2:=aT (j:Int) (b:=2) (by decide)
 have tx:∀ k:Int,ixD (.lst [.str (gvT k 0),.str (gvT k 1),.str (gvT k 2)]) (.int ((j:Int) / 2))=some (.str (gvT k (j / 2))):=fun k=>by
  rw [show (j:Int) / 2=((j / 2:Nat):Int) by omega]
  have:j / 2=0∨j / 2=1∨j / 2=2:=by omega
  rcases this with e | e | e <;> rw [e] <;> rfl
 have lt:opD .lt (.int (j:Nat)) (.int 2)=some (.bl (decide (j<2))):=ZS (fun z=>some (D.bl z)) (decide_eq_decide.mpr (by omega))
 have go:∀ (k:Int),k∈([7,8,0,-1,9,6]:List Int)→ai Γ 249 bD [.int 5,.int s,.int c] [] = .ok (.tup [.str (gvT k (j / 2)),gvD k,.bl (gvG k j)]) []→BdO 5 s c:=fun k hk e=>⟨_,_,_,e,lK (Ba k hk j (by
  have:j=0∨j=1∨j=2∨j=3∨j=4:=by omega
  rcases this with rfl | rfl | rfl | rfl | rfl <;> decide))⟩
 rcases ho with rfl | rfl | rfl | rfl | rfl | rfl
 ·exact go (7) (by decide) (aa false (aX 0 (m8) (aX 0 (io) (aX 0 (z8) (aX 20 (m5) (aX 0 (z2) (aX 0 (tx (7)) (aX 4 (m5) (aX 0 (lt) aZ)))))))) (by kernel_rfl))
 ·exact go (8) (by decide) (aa false (aX 0 (m8) (aX 0 (io) (aX 0 (z8) (aX 20 (m5) (aX 0 (z2) (aX 0 (tx (8)) aZ)))))) (by kernel_rfl))
 ·exact go (0) (by decide) (aa false (aX 0 (m8) (aX 0 (io) (aX 0 (z8) (aX 20 (m5) (aX 0 (z2) (aX 0 (tx (0)) (aX 4 (m5) (aX 0 (lt) aZ)))))))) (by kernel_rfl))
 ·exact go (-1) (by decide) (aa false (aX 0 (m8) (aX 0 (io) (aX 0 (z8) (aX 20 (m5) (aX 0 (z2) (aX 0 (tx (-1)) aZ)))))) (by kernel_rfl))
 ·exact go (9) (by decide) (aa false (aX 0 (m8) (aX 0 (io) (aX 0 (z8) (aX 20 (m5) (aX 0 (z2) (aX 0 (tx (9)) aZ)))))) (by kernel_rfl))
 ·exact go (6) (by decide) (aa false (aX 0 (m8) (aX 0 (io) (aX 0 (z8) (aX 20 (m5) (aX 0 (z2) (aX 0 (tx (6)) (aX 4 (m5) (aX 0 (lt) aZ)))))))) (by kernel_rfl))
open L2.Lx (ch ch_app ch_len Tok Con Br Wd bP)
theorem tS (k:Nat):∀ a:Array Nat,((ξ k #[32]).foldl (· ++ ·) a).toList=a.toList ++ ξ k 32:=by
 induction k with
 | zero=>intro a;simp
 | succ k ih=>intro a;rw [Ϯ,Ea,ih,FX,Ι,Ϯ];rfl
theorem jE (n:Int):ch (À blS n)=ξ n.toNat 32:=by
 unfold À
 split
 ·rw [show n.toNat=0 by omega];rfl
 ·split
  ·rename_i h
   have:n=1:=by
    rw [Ed,beq_iff_eq,beq_iff_eq] at h
    rcases h with h | h
    ·exact h
    ·exact ZX h (by decide +kernel)
   subst this
   decide +kernel
  ·exact tS _ #[]
theorem jF (n:Int):(À blS n).length=n.toNat:=by rw [ch_len,jE,Å]
theorem mq {n:Int} (h:-1000000≤n∧n≤10000):smO (.mulc blS) (.int n)=some (.str (À blS n)):=by
 show (if _ then _ else _)=_
 rw [ZZ ⟨h.1,h.2,by decide +kernel⟩]
abbrev lnT (a b c:Int):θ:=(((À blS a ++ "(pair") ++ À blS b) ++ " 1 2)") ++ À blS c
abbrev lnW:List θ:=["(","pair","1","2",")"]
theorem BL (a b c:Int):Tk (lnT a b c) lnW:=by
 have s1:=bP a.toNat L2.Lx.con_nil (w:=[40]) (.inl rfl) (.inr (.inl trivial))
 have s2:=bP 0 s1 (w:=ch "pair") (.inr (.inr ⟨by decide +kernel,by decide +kernel⟩)) (.inr (.inl (.inl rfl)))
 have s3:=bP (b.toNat+1) s2 (w:=[49]) (.inr (.inr ⟨by simp,by decide⟩)) (.inl (ŕ _))
 have s4:=bP 1 s3 (w:=[50]) (.inr (.inr ⟨by simp,by decide⟩)) (.inl G5)
 have s5:=bP 0 s4 (w:=[41]) (.inr (.inl rfl)) (.inr (.inr (.inr rfl)))
 have h:=L2.Lx.lex_pad s5 0 c.toNat
 have e:ch (lnT a b c)=ξ 0 32 ++ (((((([] ++ (ξ a.toNat 32 ++ [40])) ++ (ξ 0 32 ++ ch "pair")) ++ (ξ (b.toNat+1) 32 ++ [49])) ++ (ξ 1 32 ++ [50])) ++ (ξ 0 32 ++ [41])) ++ ξ c.toNat 32):=by
  rw [ch_app,ch_app,ch_app,ch_app,jE,jE,jE,show ch "(pair" = [40] ++ ch "pair" by decide +kernel,show ch " 1 2)" = [32,49,32,50,41] by decide +kernel,List.replicate_succ']
  simp only [List.replicate_zero,é,Ι,Ϯ,Ė,List.singleton_append]
 show L2.Lx.lex (ch (lnT a b c))=_
 rw [e,h]
 decide +kernel
theorem length (m:Int) (hm:1998≤m∧m≤2003) (c:Int):∃ T d,ai Γ 248 iz [.int m,.int c] [] = .ok (.tup [.str T,d]) []∧Bd T d (decide (m≤2000)):=by
 have y1:=Ht c (b:=m - 10+1) (by omega)
 have y2:=GP c (b:=m - 10+1) (by omega)
 obtain ⟨y,hy⟩:∃ y,c % (m - 10+1)=y:=⟨_,rfl⟩
 rw [hy] at y1 y2
 have my:=aW hy (by omega)
 have z3:=aT c (b:=3) (by decide)
 obtain ⟨b,hb⟩:∃ b,c / 3 % 2=b:=⟨_,rfl⟩
 have m2:=aW hb (b:=2) (by decide)
 obtain ⟨t,ht,t1,t2⟩:∃ t,(m - 10 - y) * b=t∧0≤t∧t≤m - 10 - y:=by
  have:b=0∨b=1:=by omega
  rcases this with rfl | rfl
  ·exact ⟨_,rfl,by omega,by omega⟩
  ·exact ⟨_,rfl,by omega,by omega⟩
 have mu:=sX (m - 10 - y) (j:=b) (by omega)
 rw [ht] at mu
 have c1:=mq (n:=y) (by omega)
 have c2:=mq (n:=t) (by omega)
 have c3:=mq (n:=m - 10 - y - t) (by omega)
 have e1:=jF y
 have e2:=jF t
 have e3:=jF (m - 10 - y - t)
 have l1:("(pair":θ).length=5:=by decide +kernel
 have l2:(" 1 2)":θ).length=5:=by decide +kernel
 have a1:opD .add (.str (À blS y)) (.str "(pair")=some (.str (À blS y ++ "(pair")):=aM (by omega)
 have a2:opD .add (.str (À blS y ++ "(pair")) (.str (À blS t))=some (.str ((À blS y ++ "(pair") ++ À blS t)):=aM (by rw [af];omega)
 have a3:opD .add (.str ((À blS y ++ "(pair") ++ À blS t)) (.str " 1 2)")=some (.str (((À blS y ++ "(pair") ++ À blS t) ++ " 1 2)")):=aM (by rw [af,af];omega)
 have a4:opD .add (.str (((À blS y ++ "(pair") ++ À blS t) ++ " 1 2)")) (.str (À blS (m - 10 - y - t)))=some (.str (lnT y t (m - 10 - y - t))):=aM (by rw [af,af,af];omega)
 have len:((lnT y t (m - 10 - y - t)).length:Int)=m:=by rw [af,af,af,af];omega
 refine ⟨lnT y t (m - 10 - y - t),.tup [.str "pair",.int 0,.tup [.str "whole",.int 1,.int 1],.tup [.str "whole",.int 2,.int 2]],(aa false (aX 2 (my) (aX 1 (z3) (aX 0 (m2) (aX 0 (mu) (aX 0 (c1) (aX 0 (a1) (aX 0 (c2) (aX 0 (a2) (aX 0 (a3) (aX 2 (c3) (aX 0 (a4) aZ))))))))))) (by kernel_rfl)),?_⟩
 by_cases g:m≤2000
 ·rw [ZW g]
  have ok:Ok 8 (.nd .pair [] [] [.num 1,.num 2]):=.nd 7 _ _ _ _ ⟨rfl,fun x m=>nomatch m⟩ rfl (fun k m=>nomatch m) rfl fun p mp=>by
   rcases υ.mp mp with rfl | mp
   ·exact .num 6 1 (by decide)
   ·rw [ε.mp mp];exact .num 6 2 (by decide)
  have et:(Tr.nd .pair [] [] [.num 1,.num 2]).tok=lnW:=by
   show lpS :: "pair" :: aj 1 :: aj 2 :: [rpS]=_
   rw [show aj 1=("1":θ) by decide +kernel,show aj 2=("2":θ) by decide +kernel]
  exact bM ok (by decide) (et ▸ BL _ _ _) (by omega)
 ·rw [ZV g]
  exact vM (by omega) (by omega)
theorem DJ (s c:Int):BdO 7 s c:=by
 have z8:=aT s (b:=8) (by decide)
 obtain ⟨r,o,m8,io,ho⟩:=cD s
 obtain ⟨m,hm⟩:∃ m:Int,2000+o=m:=⟨_,rfl⟩
 obtain ⟨T,d,e,b⟩:=length m (by omega) c
 have lt:opD .lt (.int o) (.int 1)=some (.bl (decide (m≤2000))):=ltM (decide_eq_decide.mpr (by omega))
 exact ⟨T,d,_,(aa false (aX 0 (m8) (aX 0 (io) (aX 0 (z8) (aX 16 (i9 hm) (aX 0 (e) (aX 0 (lt) aZ)))))) (by kernel_rfl)),b⟩
end L2.K16
end
section
set_option exponentiation.threshold 300
namespace L2.K16
open L2.Bk L2.Ev
open L2.Lx (ch ch_app ch_len Tok Con Br Wd)
abbrev oP:θ:="(< "
abbrev oQ:θ:=" (given "
abbrev oR:θ:="))"
abbrev noT (w:θ) (k:Nat):θ:=(((oP ++ w) ++ oQ) ++ aj (k:Nat)) ++ oR
abbrev noD (i:Int) (k:Nat):D:=.tup [.str "do",.int 0,.str "<",.tup [.str "whole",.int 1,.int i],.tup [.str "given",.int 2,.int (k:Nat)]]
theorem Du:∀ w∈(["0","","00","-0","-","-00"]:List θ),∀ k∈õ 8,bdB (noT w k) (noD 0 k) (w == "0")=true:=by decide +kernel
abbrev hO:List θ:=["(","<"]
abbrev hG:List θ:=["(","given"]
theorem xn {w:θ} (h:Wd (ch w)) (k:Nat) (hk:k<8):Tk (noT w k) (((hO ++ ([w]:List θ)) ++ (hG ++ ([aj (k:Nat)]:List θ))) ++ ([rpS]:List θ) ++ ([rpS]:List θ)):=by
 have wk:Wd (ch (aj (k:Nat))):=by
  rw [bx]
  exact ⟨jm k,fun x m=>by have:=fO k x m;omega⟩
 have e:noT w k=((((oP ++ w) ++ oQ) ++ aj (k:Nat)) ++ rpS) ++ rpS:=L2.Lx.ch_inj (by rw [ch_app,ch_app (_ ++ rpS),ch_app _ rpS,Ι,← ch_app rpS,show ch (rpS ++ rpS)=ch oR by decide +kernel])
 rw [e]
 exact dE (dE (uh (q:=[40,103,105,118,101,110]) (b9 (q:=[40,60]) (ps:=hO) (by decide +kernel) (by decide +kernel) (dF h)) (by decide +kernel) (by decide +kernel) (dF wk)))
theorem wg (s c:Int):∃ T d g,ai Γ 248 az [.int s,.int c] [] = .ok (.tup [.str T,d,.bl g]) []∧Bd T d g:=by
 have z2:=aT s (b:=2) (by decide)
 have z8:=aT s (b:=8) (by decide)
 obtain ⟨k,hk,m8⟩:=fq c 8 (by decide)
 have sk:cf .str (.int (k:Nat))=some (.str (aj (k:Nat))):=wi (by show k<_;omega)
 obtain ⟨v,hv,v1,v2⟩:∃ v:Int,1+c % ((10:Int) ^ 20)=v∧1≤v∧v≤10 ^ 20:=⟨_,rfl,by omega,by omega⟩
 obtain ⟨x,hx⟩:∃ x,c % ((10:Int) ^ 20)=x:=⟨_,rfl⟩
 have m20:=aW hx (b:=(10:Int) ^ 20) (by decide)
 rw [hx] at hv
 have av:opD .add (.int 1) (.int x)=some (.int v):=ZS (fun z=>some (D.int z)) hv
 have sv:cf .str (.int v)=some (.str (aj v)):=wi (by omega)
 have lv:(aj v).length≤41:=eB (by omega)
 have lk:(aj (k:Nat)).length≤41:=eB (by show k<_;omega)
 have up:=sX v (j:=1) (by decide)
 have um:=sX v (j:=-1) (by decide)
 have lo:oP.length=3∧oQ.length=8∧oR.length=2:=by decide +kernel
 have ad:∀ w:θ,w.length≤100→opD .add (.str oP) (.str w)=some (.str (oP ++ w))∧opD .add (.str (oP ++ w)) (.str oQ)=some (.str ((oP ++ w) ++ oQ))∧opD .add (.str ((oP ++ w) ++ oQ)) (.str (aj (k:Nat)))=some (.str (((oP ++ w) ++ oQ) ++ aj (k:Nat)))∧opD .add (.str (((oP ++ w) ++ oQ) ++ aj (k:Nat))) (.str oR)=some (.str (noT w k)):=fun w h=>⟨aM (by omega),aM (by rw [af];omega),aM (by rw [af,af];omega),aM (by rw [af,af,af];omega)⟩
 have A:∀ w:θ,w∈(["0","","00","-0","-","-00"]:List θ)→ai Γ 248 az [.int s,.int c] [] = .ok (.tup [.str (noT w k),noD 0 k,.bl (w == "0")]) []→∃ T d g,ai Γ 248 az [.int s,.int c] [] = .ok (.tup [.str T,d,.bl g]) []∧Bd T d g:=fun w hw e=>⟨_,_,_,e,lK (Du w hw k (Ċ.mpr hk))⟩
 have cv:∃ n:Nat,v=n∧1≤n∧n≤10 ^ 20:=⟨v.toNat,by omega,by omega,by omega⟩
 have awk:∀ w:θ,Aw w→∀ y∈((hO ++ ([w]:List θ)) ++ (hG ++ ([aj (k:Nat)]:List θ))) ++ ([rpS]:List θ) ++ ([rpS]:List θ),Aw y:=fun w hw y my=>by
  have awc:∀ l:List θ,(l.all awB)=true→∀ x∈l,Aw x:=fun l h x mx=>by
   have:=Λ.mp h x mx
   unfold awB at this
   rw [ω,decide_eq_true_eq] at this
   exact ⟨this.1,fun c m=>of_decide_eq_true (Λ.mp this.2 c m)⟩
  simp only [ώ,ε] at my
  rcases my with (((my | my) | (my | my)) | my) | my
  ·exact awc hO (by decide +kernel) y my
  ·rw [my];exact hw
  ·exact awc hG (by decide +kernel) y my
  ·rw [my];exact nW (gM (by show k<_;omega))
  ·exact awc [rpS] (by decide +kernel) y (by rw [my];exact ι)
  ·exact awc [rpS] (by decide +kernel) y (by rw [my];exact ι)
 have lT:∀ w:θ,w.length≤100→(noT w k).length≤300:=fun w h=>by rw [af,af,af,af];omega
 have G:∀ (i:Int) (w:θ),w=aj i→i.natAbs<10 ^ 40→ai Γ 248 az [.int s,.int c] [] = .ok (.tup [.str (noT w k),noD i k,.bl true]) []→∃ T d g,ai Γ 248 az [.int s,.int c] [] = .ok (.tup [.str T,d,.bl g]) []∧Bd T d g:=fun i w ew hi e=>by
  subst ew
  refine ⟨_,_,_,e,?_⟩
  have ok:Ok 8 (.nd .do_ ["<"] [] [.num i,.giv k]):=.nd 7 _ _ _ _ ⟨"<",by decide +kernel,rfl⟩ rfl (fun k m=>nomatch m) rfl fun p mp=>by
   rcases υ.mp mp with rfl | mp
   ·exact .num 6 i hi
   ·rw [ε.mp mp];exact .giv 6 k (by omega)
  have wd:Wd (ch (aj i)):=by
   have kw:=gM hi
   have nb:=mF (fW hi)
   rcases kw.tok with h | h | h
   ·exact ZX (L2.Lx.ch_inj (h.trans (by decide +kernel:([40]:List Nat)=ch lpS))) nb.2.1
   ·exact ZX (L2.Lx.ch_inj (h.trans (by decide +kernel:([41]:List Nat)=ch rpS))) nb.2.2
   ·exact h
  exact bM ok (by show 1+(1+(1+0))≤120;decide) (xn wd k hk) (by have:=lT (aj i) (by have:=eB hi;omega);omega)
 have Bq:∀ (i:Int) (p:θ) (q:List Nat),ch p=q→(q = [48]∨q = [48,48]∨q = [45,48]∨q = [45,48,48])→ai Γ 248 az [.int s,.int c] [] = .ok (.tup [.str (noT (p ++ aj v) k),noD i k,.bl false]) []→∃ T d g,ai Γ 248 az [.int s,.int c] [] = .ok (.tup [.str T,d,.bl g]) []∧Bd T d g:=fun i p q ep hq e=>by
  refine ⟨_,_,_,e,?_⟩
  obtain ⟨n,rfl,n1,n2⟩:=cv
  have hd:=fO n
  have dn:=jm n
  have dl:=rj n
  have ec:ch (p ++ aj (n:Nat))=q ++ dg n:=by rw [ch_app,ep,bx]
  have ql:1≤q.length∧q.length≤3:=by rcases hq with rfl | rfl | rfl | rfl <;> decide
  have qc:∀ y∈q,y=45∨y=48:=by rcases hq with rfl | rfl | rfl | rfl <;> decide
  have wl:(p ++ aj (n:Nat)).length=q.length+(dg n).length:=by rw [ch_len,ec,Δ]
  have ln:(dg n).length≤40:=jk (by omega)
  have cs:∀ y∈ch (p ++ aj (n:Nat)),45≤y∧y≤57:=fun y my=>by
   rw [ec] at my
   rcases ώ.mp my with my | my
   ·have:=qc y my;omega
   ·have:=hd y my;omega
  have wd:Wd (ch (p ++ aj (n:Nat))):=⟨by rw [ec];intro z;exact dn (List.append_eq_nil_iff.mp z).2,fun y my=>by have:=cs y my;omega⟩
  have f0:(bz (ch (p ++ aj (n:Nat)))).head? = some 48:=by
   rw [ec]
   rcases hq with rfl | rfl | rfl | rfl <;> rfl
  refine fy (xn wd k hk) (awk _ ⟨by omega,fun y my=>by have:=cs y my;omega⟩) (by have:=lT (p ++ aj (n:Nat)) (by omega);omega) (w:=p ++ aj (n:Nat)) (by simp) (je (Dt f0 (by omega)) (by omega) (.inl ?_))
  cases q2:dg n with
  | nil=>exact ZX q2 dn
  | cons a r=>
    have:=hd a (by rw [q2];exact ι)
    exact ⟨a,by rw [ec,q2];simp,by omega⟩
 have se:∀ p:θ,opD .eq (.str (p ++ aj v)) (.str "0")=some (.bl ((p ++ aj v) == "0")):=fun p=>x9 _ _
 have e2:s % 2=0∨s % 2=1:=by omega
 obtain ⟨r3,h3⟩:∃ r:Int,s / 8 % 3=r:=⟨_,rfl⟩
 have m3:=aW h3 (b:=3) (by decide)
 obtain ⟨r4,z,m4,x4,hz⟩:∃ r z:Int,opD .mod (.int (s / 2)) (.int 4)=some (.int r)∧ixD (.lst [.int 1,.int 0,.int 2,.int 1]) (.int r)=some (.int z)∧(z=0∨z=1∨z=2):=by
  rcases s4 (s / 2) with h | h | h | h <;> exact ⟨_,_,aW h (by decide),rfl,by decide⟩
 have n0:(aj v == "0")=false:=ZU.mpr fun e=>by
  obtain ⟨n,rfl,n1,n2⟩:=cv
  have:=ZS ch e
  rw [bx,show ch "0" = [48] by decide +kernel] at this
  have h:=m7 n (by omega)
  rw [this] at h;exact h rfl
 have nq:∀ (p:θ) (q:List Nat),ch p=q→q≠[]→((p ++ aj v) == "0")=false:=fun p q ep hq=>ZU.mpr fun e=>by
  obtain ⟨n,rfl,n1,n2⟩:=cv
  have:=ZS ch e
  rw [ch_app,ep,bx,show ch "0" = [48] by decide +kernel] at this
  have l:=ZS List.length this
  rw [Δ] at l
  have dl:=rj n
  have:=ġ.mpr hq
  simp only [ϕ] at l
  omega
 have lgt:opD .gt (.int v) (.int 0)=some (.bl true):=by show some (D.bl (decide (0<v)))=_;rw [ZW (by omega)]
 have BB:∀ (j:Int) (p:θ) (q:List Nat),ch p=q→(q = [48]∨q = [48,48]∨q = [45,48]∨q = [45,48,48])→(opD .add (.str p) (.str (aj v))=some (.str (p ++ aj v))→opD .eq (.str (p ++ aj v)) (.str "0")=some (.bl false)→opD .add (.str oP) (.str (p ++ aj v))=some (.str (oP ++ (p ++ aj v)))→opD .add (.str (oP ++ (p ++ aj v))) (.str oQ)=some (.str ((oP ++ (p ++ aj v)) ++ oQ))→opD .add (.str ((oP ++ (p ++ aj v)) ++ oQ)) (.str (aj (k:Nat)))=some (.str (((oP ++ (p ++ aj v)) ++ oQ) ++ aj (k:Nat)))→opD .add (.str (((oP ++ (p ++ aj v)) ++ oQ) ++ aj (k:Nat))) (.str oR)=some (.str (noT (p ++ aj v) k))→ai Γ 248 az [.int s,.int c] [] = .ok (.tup [.str (noT (p ++ aj v) k),noD (v * j) k,.bl false]) [])→∃ T d g,ai Γ 248 az [.int s,.int c] [] = .ok (.tup [.str T,d,.bl g]) []∧Bd T d g:=fun j p q ep hq f=>by
  have lp:p.length≤3:=by rw [ch_len,ep];rcases hq with rfl | rfl | rfl | rfl <;> decide
  have ee:=se p
  rw [nq p q ep (by rcases hq with rfl | rfl | rfl | rfl <;> decide)] at ee
  obtain ⟨a1,a2,a3,a4⟩:=ad (p ++ aj v) (by rw [af];omega)
  exact Bq (v * j) p q ep hq (f (aM (by omega)) ee a1 a2 a3 a4)
 by_cases p3:0<r3
 ·have gt:opD .gt (.int r3) (.int 0)=some (.bl true):=by show some (D.bl (decide (0<r3)))=_;rw [ZW p3]
  rcases e2 with h2 | h2
  ·have m2:=aW h2 (b:=2) (by decide)
   rcases hz with rfl | rfl | rfl
   ·have ap:opD .add (.str "") (.str (aj v))=some (.str (("":θ) ++ aj v)):=aM (by show 0+_≤_;omega)
    have ee:=se ""
    obtain ⟨a1,a2,a3,a4⟩:=ad (aj v) (by omega)
    rw [uY] at ap ee
    rw [n0] at ee
    exact G (v * 1) (aj v) (by rw [IE]) (by omega) (aa false (aX 0 (m2) (aX 1 (z2) (aX 0 (m4) (aX 0 (x4) (aX 2 (z8) (aX 0 (m3) (aX 0 (gt) (aX 2 (m20) (aX 0 (av) (aX 0 (sv) (aX 0 (ap) (aX 0 (ee) (aX 3 (lgt) (aX 0 (m2) (aX 2 (up) (aX 0 (m8) (aX 0 (a1) (aX 0 (a2) (aX 0 (m8) (aX 0 (sk) (aX 0 (a3) (aX 0 (a4) aZ)))))))))))))))))))))) (by kernel_rfl))
   ·exact BB 1 "0" [48] (by decide +kernel) (by decide) fun ap ee a1 a2 a3 a4=>(aa false (aX 0 (m2) (aX 1 (z2) (aX 0 (m4) (aX 0 (x4) (aX 2 (z8) (aX 0 (m3) (aX 0 (gt) (aX 2 (m20) (aX 0 (av) (aX 0 (sv) (aX 0 (ap) (aX 0 (ee) (aX 3 (m2) (aX 2 (up) (aX 0 (m8) (aX 0 (a1) (aX 0 (a2) (aX 0 (m8) (aX 0 (sk) (aX 0 (a3) (aX 0 (a4) aZ))))))))))))))))))))) (by kernel_rfl))
   ·exact BB 1 "00" [48,48] (by decide +kernel) (by decide) fun ap ee a1 a2 a3 a4=>(aa false (aX 0 (m2) (aX 1 (z2) (aX 0 (m4) (aX 0 (x4) (aX 2 (z8) (aX 0 (m3) (aX 0 (gt) (aX 2 (m20) (aX 0 (av) (aX 0 (sv) (aX 0 (ap) (aX 0 (ee) (aX 3 (m2) (aX 2 (up) (aX 0 (m8) (aX 0 (a1) (aX 0 (a2) (aX 0 (m8) (aX 0 (sk) (aX 0 (a3) (aX 0 (a4) aZ))))))))))))))))))))) (by kernel_rfl))
  ·have m2:=aW h2 (b:=2) (by decide)
   rcases hz with rfl | rfl | rfl
   ·have ap:opD .add (.str "-") (.str (aj v))=some (.str (("-":θ) ++ aj v)):=aM (by show 1+_≤_;omega)
    have ee:=se "-"
    obtain ⟨a1,a2,a3,a4⟩:=ad (("-":θ) ++ aj v) (by rw [af,show ("-":θ).length=1 by decide +kernel];omega)
    rw [nq "-" [45] (by decide +kernel) (by decide)] at ee
    exact G (v * (-1)) (("-":θ) ++ aj v) (L2.Lx.ch_inj (by
     obtain ⟨n,rfl,n1,n2⟩:=cv
     obtain ⟨j,rfl⟩:∃ j,n=j+1:=⟨n - 1,by omega⟩
     rw [ch_app,bx,show (((j+1:Nat):Int) * (-1))=Ũ j by omega,dk];rfl)) (by omega) (aa false (aX 0 (m2) (aX 1 (z2) (aX 0 (m4) (aX 0 (x4) (aX 2 (z8) (aX 0 (m3) (aX 0 (gt) (aX 2 (m20) (aX 0 (av) (aX 0 (sv) (aX 0 (ap) (aX 0 (ee) (aX 3 (lgt) (aX 0 (m2) (aX 2 (um) (aX 0 (m8) (aX 0 (a1) (aX 0 (a2) (aX 0 (m8) (aX 0 (sk) (aX 0 (a3) (aX 0 (a4) aZ)))))))))))))))))))))) (by kernel_rfl))
   ·exact BB (-1) "-0" [45,48] (by decide +kernel) (by decide) fun ap ee a1 a2 a3 a4=>(aa false (aX 0 (m2) (aX 1 (z2) (aX 0 (m4) (aX 0 (x4) (aX 2 (z8) (aX 0 (m3) (aX 0 (gt) (aX 2 (m20) (aX 0 (av) (aX 0 (sv) (aX 0 (ap) (aX 0 (ee) (aX 3 (m2) (aX 2 (um) (aX 0 (m8) (aX 0 (a1) (aX 0 (a2) (aX 0 (m8) (aX 0 (sk) (aX 0 (a3) (aX 0 (a4) aZ))))))))))))))))))))) (by kernel_rfl))
   ·exact BB (-1) "-00" [45,48,48] (by decide +kernel) (by decide) fun ap ee a1 a2 a3 a4=>(aa false (aX 0 (m2) (aX 1 (z2) (aX 0 (m4) (aX 0 (x4) (aX 2 (z8) (aX 0 (m3) (aX 0 (gt) (aX 2 (m20) (aX 0 (av) (aX 0 (sv) (aX 0 (ap) (aX 0 (ee) (aX 3 (m2) (aX 2 (um) (aX 0 (m8) (aX 0 (a1) (aX 0 (a2) (aX 0 (m8) (aX 0 (sk) (aX 0 (a3) (aX 0 (a4) aZ))))))))))))))))))))) (by kernel_rfl))
 ·have gt:opD .gt (.int r3) (.int 0)=some (.bl false):=by show some (D.bl (decide (0<r3)))=_;rw [ZV p3]
  rcases e2 with h2 | h2
  ·have m2:=aW h2 (b:=2) (by decide)
   rcases hz with rfl | rfl | rfl
   ·obtain ⟨a1,a2,a3,a4⟩:=ad "" (by decide +kernel)
    exact A "" (by decide +kernel) (aa false (aX 0 (m2) (aX 1 (z2) (aX 0 (m4) (aX 0 (x4) (aX 2 (z8) (aX 0 (m3) (aX 0 (gt) (aX 6 (m2) (aX 3 (m8) (aX 0 (a1) (aX 0 (a2) (aX 0 (m8) (aX 0 (sk) (aX 0 (a3) (aX 0 (a4) aZ))))))))))))))) (by kernel_rfl))
   ·obtain ⟨a1,a2,a3,a4⟩:=ad "0" (by decide +kernel)
    exact A "0" (by decide +kernel) (aa false (aX 0 (m2) (aX 1 (z2) (aX 0 (m4) (aX 0 (x4) (aX 2 (z8) (aX 0 (m3) (aX 0 (gt) (aX 3 (m2) (aX 3 (m8) (aX 0 (a1) (aX 0 (a2) (aX 0 (m8) (aX 0 (sk) (aX 0 (a3) (aX 0 (a4) aZ))))))))))))))) (by kernel_rfl))
   ·obtain ⟨a1,a2,a3,a4⟩:=ad "00" (by decide +kernel)
    exact A "00" (by decide +kernel) (aa false (aX 0 (m2) (aX 1 (z2) (aX 0 (m4) (aX 0 (x4) (aX 2 (z8) (aX 0 (m3) (aX 0 (gt) (aX 5 (m2) (aX 3 (m8) (aX 0 (a1) (aX 0 (a2) (aX 0 (m8) (aX 0 (sk) (aX 0 (a3) (aX 0 (a4) aZ))))))))))))))) (by kernel_rfl))
  ·have m2:=aW h2 (b:=2) (by decide)
   rcases hz with rfl | rfl | rfl
   ·obtain ⟨a1,a2,a3,a4⟩:=ad "-" (by decide +kernel)
    exact A "-" (by decide +kernel) (aa false (aX 0 (m2) (aX 1 (z2) (aX 0 (m4) (aX 0 (x4) (aX 2 (z8) (aX 0 (m3) (aX 0 (gt) (aX 6 (m2) (aX 3 (m8) (aX 0 (a1) (aX 0 (a2) (aX 0 (m8) (aX 0 (sk) (aX 0 (a3) (aX 0 (a4) aZ))))))))))))))) (by kernel_rfl))
   ·obtain ⟨a1,a2,a3,a4⟩:=ad "-0" (by decide +kernel)
    exact A "-0" (by decide +kernel) (aa false (aX 0 (m2) (aX 1 (z2) (aX 0 (m4) (aX 0 (x4) (aX 2 (z8) (aX 0 (m3) (aX 0 (gt) (aX 5 (m2) (aX 3 (m8) (aX 0 (a1) (aX 0 (a2) (aX 0 (m8) (aX 0 (sk) (aX 0 (a3) (aX 0 (a4) aZ))))))))))))))) (by kernel_rfl))
   ·obtain ⟨a1,a2,a3,a4⟩:=ad "-00" (by decide +kernel)
    exact A "-00" (by decide +kernel) (aa false (aX 0 (m2) (aX 1 (z2) (aX 0 (m4) (aX 0 (x4) (aX 2 (z8) (aX 0 (m3) (aX 0 (gt) (aX 5 (m2) (aX 3 (m8) (aX 0 (a1) (aX 0 (a2) (aX 0 (m8) (aX 0 (sk) (aX 0 (a3) (aX 0 (a4) aZ))))))))))))))) (by kernel_rfl))
theorem DL (s c:Int):BdO 9 s c:=by
 have z8:=aT s (b:=8) (by decide)
 obtain ⟨r,o,m8,io,_⟩:=cD s
 obtain ⟨T,d,g,e,b⟩:=wg (s / 8) c
 exact ⟨T,d,g,(aa false (aX 0 (m8) (aX 0 (io) (aX 0 (z8) (aX 0 (e) aZ)))) (by kernel_rfl)),b⟩
open L2.Lx (ch ch_app ch_len Tok Con Br Wd)
theorem fU:∀ (q:Nat) (k:Kd),q<k.dep→∀ r:List θ,kdM q (k.tok ++ r)=none
 | 0,k,_,r=>rfl
 | q+1,.lf l,h,r=>by simp only [Kd.dep] at h;omega
 | q+1,.row a,h,r=>by
   have h:q+1<1+a.dep:=h
   show kdM (q+1) (lpS :: ("row":θ) :: ((a.tok ++ ([rpS]:List θ)) ++ r))=none
   rw [Ι]
   show ((kdM q (a.tok ++ rpS :: r)).bind fun p=>clM (Kd.row p.1) p.2)=none
   rw [fU q a (by omega)];rfl
 | q+1,.two k a b,h,r=>by
   have h:q+1<1+max a.dep b.dep:=h
   show kdM (q+1) (lpS :: k.str :: ((a.tok ++ (b.tok ++ ([rpS]:List θ))) ++ r))=none
   rw [Ι,Ι]
   have e:kdM (q+1) (lpS :: k.str :: (a.tok ++ (b.tok ++ rpS :: r)))=(kdM q (a.tok ++ (b.tok ++ rpS :: r))).bind fun p=>(kdM q p.2).bind fun p2=>clM (Kd.two k p.1 p2.1) p2.2:=by cases k <;> rfl
   rw [show ([rpS]:List θ) ++ r=rpS :: r from rfl,e]
   by_cases c:q<a.dep
   ·rw [fU q a c];rfl
   ·rw [gL a q _ (by omega)]
    show ((kdM q (b.tok ++ rpS :: r)).bind fun p2=>clM (Kd.two k a p2.1) p2.2)=none
    rw [fU q b (by omega)];rfl
abbrev dkB:S:=gQ eW.body
abbrev kP:θ:="(row "
abbrev kQ:θ:=" whole)"
abbrev kA (h:H2):θ:=("(":θ) ++ h.str
abbrev kU:θ:=" ? "
structure Dk1 (x:θ) (k:Kd) (n:Nat):Prop where
 tk:Tk x k.tok
 dep:k.dep=n
 len:x.length≤20 * n
theorem xW {x:θ} {k:Kd} {n:Nat} (h:Dk1 x k n):Dk1 ((kP ++ x) ++ rpS) (.row k) (n+1):=by
 refine ⟨?_,by show 1+k.dep=_;rw [h.dep];omega,by have:=h.len;rw [af,af,show kP.length=5 by decide +kernel,show rpS.length=1 by decide +kernel];omega⟩
 have:=cV (P:=kP) (q:=(ch kP).take 4) (ps:=(["(","row"]:List θ)) (by decide +kernel) (by decide +kernel) h.tk
 exact this
theorem Df {x:θ} {k:Kd} {n:Nat} (q:H2) (h:Dk1 x k n):Dk1 (((kA q ++ kU) ++ x) ++ rpS) (.two q (.lf .unt) k) (n+1):=by
 have d1:=k.dep1
 have l8:(kA q ++ kU).length≤8:=by cases q <;> decide +kernel
 refine ⟨?_,by show 1+max 1 k.dep=_;have:=h.dep;omega,by have:=h.len;rw [af,af,show rpS.length=1 by decide +kernel];omega⟩
 cases q with
 | to=>exact cV (P:=kA .to ++ kU) (q:=(ch (kA .to ++ kU)).take 5) (ps:=(["(","to","?"]:List θ)) (by decide +kernel) (by decide +kernel) h.tk
 | pair=>exact cV (P:=kA .pair ++ kU) (q:=(ch (kA .pair ++ kU)).take 7) (ps:=(["(","pair","?"]:List θ)) (by decide +kernel) (by decide +kernel) h.tk
theorem Dg {x:θ} {k:Kd} {n:Nat} (q:H2) (h:Dk1 x k n):Dk1 (((kA q ++ blS) ++ x) ++ kQ) (.two q k (.lf .whole)) (n+1):=by
 have d1:=k.dep1
 have l8:(kA q ++ blS).length≤6:=by cases q <;> decide +kernel
 refine ⟨?_,by show 1+max k.dep 1=_;have:=h.dep;omega,by have:=h.len;rw [af,af,show kQ.length=7 by decide +kernel];omega⟩
 have e:(Kd.two q k (.lf .whole)).tok=((["(",q.str]:List θ) ++ k.tok) ++ (["whole",")"]:List θ):=by
  show lpS :: q.str :: (k.tok ++ ((["whole"]:List θ) ++ ([rpS]:List θ)))=_
  simp
 rw [e]
 cases q with
 | to=>exact d5 (q:=(ch kQ).drop 1) (b9 (P:=kA .to ++ blS) (q:=(ch (kA .to ++ blS)).take 3) (ps:=(["(","to"]:List θ)) (by decide +kernel) (by decide +kernel) h.tk) (by decide +kernel) (by decide +kernel)
 | pair=>exact d5 (q:=(ch kQ).drop 1) (b9 (P:=kA .pair ++ blS) (q:=(ch (kA .pair ++ blS)).take 5) (ps:=(["(","pair"]:List θ)) (by decide +kernel) (by decide +kernel) h.tk) (by decide +kernel) (by decide +kernel)
theorem wd4 (r:Nat) (h:r<4):(r=0∧ixD (.lst [.str "row",.str "to",.str "pair",.str "to"]) (.int (r:Nat))=some (.str "row"))∨∃ q:H2,ixD (.lst [.str "row",.str "to",.str "pair",.str "to"]) (.int (r:Nat))=some (.str q.str):=by
 have:r=0∨r=1∨r=2∨r=3:=by omega
 rcases this with rfl | rfl | rfl | rfl
 ·exact .inl ⟨rfl,rfl⟩
 ·exact .inr ⟨.to,rfl⟩
 ·exact .inr ⟨.pair,rfl⟩
 ·exact .inr ⟨.to,rfl⟩
theorem nh {N:Nat} (m c:Int):∀ (l:List Int) (n:Nat) (x:θ) (k:Kd) (e4 e5:Option D),(∀ y∈l,0≤y∧y≤60)→Dk1 x k n→n+l.length≤60→∃ (x':θ) (k':Kd) (e4' e5':Option D),Dk1 x' k' (n+l.length)∧bv (fe Γ (ai Γ N) (aA Γ N) [4] true dkB) (l.map .int) ⟨[some (.int m),some (.int c),some (.str x),some k.toD,e4,e5,none],[],[]⟩ = .nx ⟨[some (.int m),some (.int c),some (.str x'),some k'.toD,e4',e5',none],[],[]⟩
 | [],n,x,k,e4,e5,_,h,_=>⟨x,k,e4,e5,h,rfl⟩
 | y :: l,n,x,k,e4,e5,hy,h,hl=>by
   simp only [Ε] at hl ⊢
   obtain ⟨y1,y2⟩:=hy y ι
   have hy2:=fun z mz=>hy z (ν _ mz)
   have z4:=aT c (b:=4) (by decide)
   have z2:=aT c (b:=2) (by decide)
   have u1:=qy (i:=y) (by omega) (c / 4)
   obtain ⟨r,hr,m4⟩:=fq (c+y * (c / 4)) 4 (by decide)
   have lx:=h.len
   have go:∀ (x2:θ) (k2:Kd) (w:θ),Dk1 x2 k2 (n+1)→fe Γ (ai Γ N) (aA Γ N) [4] true dkB (.int y) ⟨[some (.int m),some (.int c),some (.str x),some k.toD,e4,e5,none],[],[]⟩ = .nx ⟨[some (.int m),some (.int c),some (.str x2),some k2.toD,some (.int y),some (.str w),none],[],[]⟩→∃ (x':θ) (k':Kd) (e4' e5':Option D),Dk1 x' k' (n+(l.length+1))∧bv (fe Γ (ai Γ N) (aA Γ N) [4] true dkB) ((y :: l).map .int) ⟨[some (.int m),some (.int c),some (.str x),some k.toD,e4,e5,none],[],[]⟩ = .nx ⟨[some (.int m),some (.int c),some (.str x'),some k'.toD,e4',e5',none],[],[]⟩:=fun x2 k2 w h2 st=>by
    obtain ⟨x',k',a,b,d,g⟩:=nh m c l (n+1) x2 k2 (some (.int y)) (some (.str w)) hy2 h2 (by omega)
    exact ⟨x',k',a,b,by rw [show n+(l.length+1)=n+1+l.length by omega];exact d,cF st g⟩
   have lk:kP.length=5∧rpS.length=1∧kQ.length=7∧blS.length=1∧kU.length=3:=by decide +kernel
   rcases wd4 r hr with ⟨rfl,ix⟩ | ⟨q,ix⟩
   ·have a1:opD .add (.str kP) (.str x)=some (.str (kP ++ x)):=aM (by omega)
    have a2:opD .add (.str (kP ++ x)) (.str rpS)=some (.str ((kP ++ x) ++ rpS)):=aM (by rw [af];omega)
    exact go _ (.row k) "row" (xW h) (cq rfl (fQ false (aX 0 (z4) (aX 0 (u1) (aX 1 (m4) (aX 0 (ix) (aX 2 (a1) (aX 0 (a2) aZ)))))) (by kernel_rfl)))
   ·have lq:(kA q).length≤5:=by cases q <;> decide +kernel
    have hq:q.str.length≤4:=by cases q <;> decide +kernel
    have er:opD .eq (.str q.str) (.str "row")=some (.bl false):=by cases q <;> rfl
    have b1:opD .add (.str "(") (.str q.str)=some (.str (kA q)):=aM (by rw [show ("(":θ).length=1 by decide +kernel];omega)
    have p2:(c / 2+y) % 2=0∨(c / 2+y) % 2=1:=by omega
    rcases p2 with p2 | p2
    ·have m2:=aW p2 (b:=2) (by decide)
     have a1:opD .add (.str (kA q)) (.str kU)=some (.str (kA q ++ kU)):=aM (by omega)
     have a2:opD .add (.str (kA q ++ kU)) (.str x)=some (.str ((kA q ++ kU) ++ x)):=aM (by rw [af];omega)
     have a3:opD .add (.str ((kA q ++ kU) ++ x)) (.str rpS)=some (.str (((kA q ++ kU) ++ x) ++ rpS)):=aM (by rw [af,af];omega)
     exact go _ (.two q (.lf .unt) k) q.str (Df q h) (cq rfl (fQ false (aX 0 (z4) (aX 0 (u1) (aX 1 (m4) (aX 0 (ix) (aX 0 (er) (aX 1 (z2) (aX 1 (m2) (aX 2 (b1) (aX 0 (a1) (aX 0 (a2) (aX 0 (a3) aZ))))))))))) (by kernel_rfl)))
    ·have m2:=aW p2 (b:=2) (by decide)
     have a1:opD .add (.str (kA q)) (.str blS)=some (.str (kA q ++ blS)):=aM (by omega)
     have a2:opD .add (.str (kA q ++ blS)) (.str x)=some (.str ((kA q ++ blS) ++ x)):=aM (by rw [af];omega)
     have a3:opD .add (.str ((kA q ++ blS) ++ x)) (.str kQ)=some (.str (((kA q ++ blS) ++ x) ++ kQ)):=aM (by rw [af,af];omega)
     exact go _ (.two q k (.lf .whole)) q.str (Dg q h) (cq rfl (fQ false (aX 0 (z4) (aX 0 (u1) (aX 1 (m4) (aX 0 (ix) (aX 0 (er) (aX 1 (z2) (aX 1 (m2) (aX 2 (b1) (aX 0 (a1) (aX 0 (a2) (aX 0 (a3) aZ))))))))))) (by kernel_rfl)))
open L2.Lx (ch ch_app ch_len Tok Con Br Wd)
abbrev L1 (l:List θ):List θ:=l
abbrev knd:θ:="kind"
abbrev whS:θ:="whole"
theorem d9 {h:Hd} (hd:h≠.do_) {s1 s2:List θ} (e:h.sorts=s1 ++ knd :: s2) {a:List θ} {ds:List D} (ha:∀ r,aq (ndM 7) s1 (a ++ r) 1=some (ds,r,1)) {k:Kd} (hk:6<k.dep) (r:List θ):rdM (lpS :: h.str :: (a ++ (k.tok ++ r)))=none:=by
 unfold rdM
 rw [iY (by decide),j0 hd]
 show ((aq (ndM 7) h.sorts (a ++ (k.tok ++ r)) 1).bind _).bind _=none
 rw [e,f9,ha]
 show (((((kdA 1 (kdM 6 (k.tok ++ r))).bind _).map _).bind _).bind _)=none
 rw [fU 6 k hk];rfl
theorem Bt (k:Kd):∀ w∈k.tok,Aw w:=fun w m=>nW (kC k w m)
theorem gm {l:List θ} (h:(l.all awB)=true):∀ x∈l,Aw x:=fun x mx=>by
 have:=Λ.mp h x mx
 unfold awB at this
 rw [ω,decide_eq_true_eq] at this
 exact ⟨this.1,fun c m=>of_decide_eq_true (Λ.mp this.2 c m)⟩
theorem jc {a b:List θ} (h:∀ x∈a,Aw x) (g:∀ x∈b,Aw x):∀ x∈a ++ b,Aw x:=fun x m=>(ώ.mp m).elim (h x) (g x)
theorem BU {w:θ} (h:(decide ((1≤w.length∧w.length≤8)∧(∀ c∈ch w,97≤c∧c≤122)∧w≠"yes"∧w≠"no"))=true):Nm w:=of_decide_eq_true h
theorem te:Nm "x":=BU (by decide +kernel)
theorem Ds:Nm "f":=BU (by decide +kernel)
theorem n0:Ok 7 (.num 0):=.num 6 _ (by decide)
structure Wh (P Q:θ) (ps qs:List θ) (t:Kd→Tr):Prop where
 pl:P.length≤20
 ql:Q.length≤20
 tk:∀ {x:θ} {b:List θ},Tk x b→Tk ((P ++ x) ++ Q) ((ps ++ b) ++ qs)
 aw:(ps.all awB && qs.all awB)=true
 tok:∀ k,(t k).tok=(ps ++ k.tok) ++ qs
 ok:∀ k:Kd,k.dep≤6→Ok 8 (t k)
 sz:∀ k,(t k).sz≤120
 no:∀ k:Kd,6<k.dep→rdM ((ps ++ k.tok) ++ qs)=none
theorem Wh.bd {P Q:θ} {ps qs:List θ} {t:Kd→Tr} (h:Wh P Q ps qs t) {x:θ} {k:Kd} {m:Nat} (g:Dk1 x k m) (hm:m≤30):Bd ((P ++ x) ++ Q) ((t k).toD idp 0) (decide (m≤6)):=by
 have tk:=h.tk g.tk
 have l:((P ++ x) ++ Q).length≤2000:=by have:=g.len;have:=h.pl;have:=h.ql;rw [af,af];omega
 by_cases c:m≤6
 ·rw [ZW c]
  exact bM (h.ok k (by rw [g.dep];exact c)) (h.sz k) (by rw [h.tok];exact tk) l
 ·rw [ZV c]
  have aw:=h.aw
  rw [ω] at aw
  exact jd tk (jc (jc (gm aw.1) (Bt k)) (gm aw.2)) (h.no k (by rw [g.dep];omega)) (by omega)
abbrev qE:θ:=" 0)"
abbrev qF:θ:=" ? 0)"
abbrev pD:θ:="(as "
abbrev pE:θ:="(fn x "
abbrev pF:θ:="(self f x "
abbrev pG:θ:="(self f x whole "
theorem wh0:Wh pD qE ["(","as"] ["0",")"] fun k=>.nd .as_ [] [k] [.num 0]:=by
 refine ⟨by decide +kernel,by decide +kernel,fun g=>d5 (q:=(ch qE).drop 1) (b9 (q:=(ch pD).take 3) (by decide +kernel) (by decide +kernel) g) (by decide +kernel) (by decide +kernel),by decide +kernel,fun k=>?_,fun k hk=>?_,fun k=>by show 1+(1+0)≤120;decide,fun k hk=>?_⟩
 ·show lpS :: ((L1 ["as"] ++ []) ++ ((k.tok ++ []) ++ (([aj 0] ++ []) ++ L1 [rpS])))=_
  rw [show aj 0 = "0" by decide +kernel];simp [L1]
 ·exact .nd 7 _ _ _ _ ⟨rfl,fun x m=>nomatch m⟩ rfl (fun q m=>by rw [ε.mp m];exact hk) rfl fun p m=>by rw [ε.mp m];exact n0
 ·exact d9 (h:=.as_) (by decide) (s1:=[]) (s2:=["node"]) rfl (a:=[]) (ds:=[]) (fun r=>rfl) hk ["0",")"]
theorem wh1:Wh pE qE ["(","fn","x"] ["0",")"] fun k=>.nd .fn ["x"] [k] [.num 0]:=by
 refine ⟨by decide +kernel,by decide +kernel,fun g=>d5 (q:=(ch qE).drop 1) (b9 (q:=(ch pE).take 5) (by decide +kernel) (by decide +kernel) g) (by decide +kernel) (by decide +kernel),by decide +kernel,fun k=>?_,fun k hk=>?_,fun k=>by show 1+(1+0)≤120;decide,fun k hk=>?_⟩
 ·show lpS :: ((L1 ["fn"] ++ L1 ["x"]) ++ ((k.tok ++ []) ++ (([aj 0] ++ []) ++ L1 [rpS])))=_
  rw [show aj 0 = "0" by decide +kernel];simp [L1]
 ·exact .nd 7 _ _ _ _ ⟨rfl,fun x m=>by rw [ε.mp m];exact te⟩ rfl (fun q m=>by rw [ε.mp m];exact hk) rfl fun p m=>by rw [ε.mp m];exact n0
 ·exact d9 (h:=.fn) (by decide) (s1:=["name"]) (s2:=["node"]) rfl (a:=["x"]) (ds:=sD ["x"]) (fun r=>cJ ["x"] r 1 (fun w m=>by rw [ε.mp m];exact te)) hk ["0",")"]
theorem wh2:Wh kP rpS ["(","row"] [rpS] fun k=>.nd .row [] [k] []:=by
 refine ⟨by decide +kernel,by decide +kernel,fun g=>dE (b9 (q:=(ch kP).take 4) (by decide +kernel) (by decide +kernel) g),by decide +kernel,fun k=>?_,fun k hk=>?_,fun k=>by show 1+0≤120;decide,fun k hk=>?_⟩
 ·show lpS :: ((L1 ["row"] ++ []) ++ ((k.tok ++ []) ++ (L1 [] ++ L1 [rpS])))=_
  simp [L1]
 ·exact .nd 7 _ _ _ _ ⟨rfl,fun x m=>nomatch m⟩ rfl (fun q m=>by rw [ε.mp m];exact hk) (show 0≤4 by decide) fun p m=>nomatch m
 ·exact d9 (h:=.row) (by decide) (s1:=[]) (s2:=["nodes"]) rfl (a:=[]) (ds:=[]) (fun r=>rfl) hk [rpS]
theorem nF:∀ w∈(["f","x"]:List θ),Nm w:=fun w m=>by
 rcases υ.mp m with rfl | m
 ·exact Ds
 ·rw [ε.mp m];exact te
theorem wh3:Wh pF qF ["(","self","f","x"] ["?","0",")"] fun k=>.nd .self ["f","x"] [k,.lf .unt] [.num 0]:=by
 refine ⟨by decide +kernel,by decide +kernel,fun g=>d5 (q:=(ch qF).drop 1) (b9 (q:=(ch pF).take 9) (by decide +kernel) (by decide +kernel) g) (by decide +kernel) (by decide +kernel),by decide +kernel,fun k=>?_,fun k hk=>?_,fun k=>by show 1+(1+0)≤120;decide,fun k hk=>?_⟩
 ·show lpS :: ((L1 ["self"] ++ L1 ["f","x"]) ++ ((k.tok ++ (L1 ["?"] ++ [])) ++ (([aj 0] ++ []) ++ L1 [rpS])))=_
  rw [show aj 0 = "0" by decide +kernel];simp [L1]
 ·exact .nd 7 _ _ _ _ ⟨rfl,nF⟩ rfl (fun q m=>by
   rcases υ.mp m with rfl | m
   ·exact hk
   ·rw [ε.mp m];show 1≤6;decide) rfl fun p m=>by rw [ε.mp m];exact n0
 ·exact d9 (h:=.self) (by decide) (s1:=["name","name"]) (s2:=["kind","node"]) rfl (a:=["f","x"]) (ds:=sD ["f","x"]) (fun r=>cJ ["f","x"] r 1 nF) hk ["?","0",")"]
theorem wh4:Wh pG qE ["(","self","f","x","whole"] ["0",")"] fun k=>.nd .self ["f","x"] [.lf .whole,k] [.num 0]:=by
 refine ⟨by decide +kernel,by decide +kernel,fun g=>d5 (q:=(ch qE).drop 1) (b9 (q:=(ch pG).take 15) (by decide +kernel) (by decide +kernel) g) (by decide +kernel) (by decide +kernel),by decide +kernel,fun k=>?_,fun k hk=>?_,fun k=>by show 1+(1+0)≤120;decide,fun k hk=>?_⟩
 ·show lpS :: ((L1 ["self"] ++ L1 ["f","x"]) ++ ((L1 ["whole"] ++ (k.tok ++ [])) ++ (([aj 0] ++ []) ++ L1 [rpS])))=_
  rw [show aj 0 = "0" by decide +kernel];simp [L1]
 ·exact .nd 7 _ _ _ _ ⟨rfl,nF⟩ rfl (fun q m=>by
   rcases υ.mp m with rfl | m
   ·show 1≤6;decide
   ·rw [ε.mp m];exact hk) rfl fun p m=>by rw [ε.mp m];exact n0
 ·exact d9 (h:=.self) (by decide) (s1:=["name","name","kind"]) (s2:=["node"]) rfl (a:=["f","x","whole"]) (ds:=sD ["f","x"] ++ [Kd.toD (.lf .whole)]) (fun r=>f9 ["name","name"] ["kind"] (L1 ["f","x"] ++ (whS :: r)) 1 |>.trans (by rw [show aq (ndM 7) ["name","name"] (L1 ["f","x"] ++ (whS :: r)) 1=some (sD ["f","x"],whS :: r,1) from cJ ["f","x"] (whS :: r) 1 nF];rfl)) hk ["0",")"]
open L2.Lx (ch ch_app ch_len Tok Con Br Wd)
abbrev trS:θ:="truth"
theorem De (m:Nat) (hm:1≤m∧m≤30) (c:Int):∃ T d,ai Γ 248 bI [.int (m:Nat),.int c] [] = .ok (.tup [.str T,d]) []∧Bd T d (decide (m≤6)):=by
 have d0:Dk1 trS (.lf .truth) 1:=⟨dF ⟨by decide +kernel,by decide +kernel⟩,rfl,by decide +kernel⟩
 have oS:opD .sub (.int (m:Nat)) (.int 1)=some (.int ((m - 1:Nat):Int)):=ZS (fun z=>some (D.int z)) (by omega)
 have rg:=hU (n:=m - 1) (by omega)
 obtain ⟨x,k,e4,e5,g,lp⟩:=nh (N:=247) (m:Nat) c ((ô 0 (m - 1)).map fun (i:Nat)=>(i:Int)) 1 trS (.lf .truth) none none (fun y my=>by
  obtain ⟨i,hi,rfl⟩:=Ú.mp my
  have:=ĉ.mp hi
  omega) d0 (by rw [Β,ā];omega)
 rw [← jw] at lp
 rw [Β,ā,show 1+(m - 1)=m by omega] at g
 have lx:=g.len
 have fin:∀ {P Q:θ} {ps qs:List θ} {t:Kd→Tr},Wh P Q ps qs t→(opD .add (.str P) (.str x)=some (.str (P ++ x))→opD .add (.str (P ++ x)) (.str Q)=some (.str ((P ++ x) ++ Q))→ai Γ 248 bI [.int (m:Nat),.int c] [] = .ok (.tup [.str ((P ++ x) ++ Q),(t k).toD idp 0]) [])→∃ T d,ai Γ 248 bI [.int (m:Nat),.int c] [] = .ok (.tup [.str T,d]) []∧Bd T d (decide (m≤6)):=fun {P Q ps qs t} w st=>⟨_,_,st (aM (by have:=w.pl;omega)) (aM (by have:=w.pl;have:=w.ql;rw [af];omega)),w.bd g hm.2⟩
 rcases s5 c with h | h | h | h | h
 ·have m5:=aW h (b:=5) (by decide)
  exact fin wh0 fun a1 a2=>(aa true (aX 0 (oS) (aX 0 (rg) (aX 0 (lp) (aX 0 (m5) (aX 2 (a1) (aX 0 (a2) aZ)))))) (by kernel_rfl))
 ·have m5:=aW h (b:=5) (by decide)
  exact fin wh1 fun a1 a2=>(aa true (aX 0 (oS) (aX 0 (rg) (aX 0 (lp) (aX 0 (m5) (aX 2 (m5) (aX 2 (a1) (aX 0 (a2) aZ))))))) (by kernel_rfl))
 ·have m5:=aW h (b:=5) (by decide)
  exact fin wh2 fun a1 a2=>(aa true (aX 0 (oS) (aX 0 (rg) (aX 0 (lp) (aX 0 (m5) (aX 2 (m5) (aX 2 (m5) (aX 2 (a1) (aX 0 (a2) aZ)))))))) (by kernel_rfl))
 ·have m5:=aW h (b:=5) (by decide)
  exact fin wh3 fun a1 a2=>(aa true (aX 0 (oS) (aX 0 (rg) (aX 0 (lp) (aX 0 (m5) (aX 2 (m5) (aX 2 (m5) (aX 2 (m5) (aX 2 (a1) (aX 0 (a2) aZ))))))))) (by kernel_rfl))
 ·have m5:=aW h (b:=5) (by decide)
  exact fin wh4 fun a1 a2=>(aa true (aX 0 (oS) (aX 0 (rg) (aX 0 (lp) (aX 0 (m5) (aX 2 (m5) (aX 2 (m5) (aX 2 (m5) (aX 2 (a1) (aX 0 (a2) aZ))))))))) (by kernel_rfl))
theorem DI (s c:Int):BdO 6 s c:=by
 have z8:=aT s (b:=8) (by decide)
 obtain ⟨r,o,m8,io,ho⟩:=cD s
 obtain ⟨a,ha,m3⟩:=fq (s / 8) 3 (by decide)
 obtain ⟨b,hb,m23⟩:=fq (s / 8) 23 (by decide)
 have z2:=aT (a:Int) (b:=2) (by decide)
 obtain ⟨p,hp,p1⟩:∃ p:Nat,(a:Int) / 2 * (b:Int)=(p:Int)∧p≤22:=by
  have:(a:Int) / 2=0∨(a:Int) / 2=1:=by omega
  rcases this with e | e <;> rw [e]
  ·exact ⟨0,by omega,by omega⟩
  ·exact ⟨b,by omega,by omega⟩
 have u1:=qy (i:=(a:Int) / 2) (by omega) (b:Int)
 rw [hp] at u1
 obtain ⟨v,hv⟩:∃ v:Int,(if 0>o then (0:Int) else o)=v:=⟨_,rfl⟩
 have mx:biD .max2 [.int o,.int 0]=some (.int v):=ZS (fun z=>some (D.int z)) hv
 obtain ⟨q,hq,q1⟩:∃ q:Int,(p:Int) * v=q∧0≤q:=⟨_,rfl,ES (by omega) (by split at hv <;> omega)⟩
 have u2:=qy (i:=(p:Int)) (by omega) v
 rw [hq] at u2
 obtain ⟨m,hm⟩:∃ m:Nat,(if 30<6+o+q then (30:Int) else 6+o+q)=(m:Nat):=⟨(if 30<6+o+q then (30:Int) else 6+o+q).toNat,by split <;> omega⟩
 have mn:biD .min2 [.int (6+o+q),.int 30]=some (.int (m:Nat)):=ZS (fun z=>some (D.int z)) hm
 have hm2:1≤m∧m≤30∧(o<1↔m≤6):=by
  by_cases c1:o<1
  ·have:q=0:=by rw [← hq,show v=0 by split at hv <;> omega];omega
   split at hm <;> omega
  ·split at hm <;> omega
 obtain ⟨T,d,e,b⟩:=De m ⟨hm2.1,hm2.2.1⟩ c
 have lt:opD .lt (.int o) (.int 1)=some (.bl (decide (m≤6))):=ltM (decide_eq_decide.mpr hm2.2.2)
 exact ⟨T,d,_,(aa false (aX 0 (m8) (aX 0 (io) (aX 0 (z8) (aX 15 (m3) (aX 0 (z2) (aX 0 (m23) (aX 0 (u1) (aX 0 (mx) (aX 0 (u2) (aX 1 (mn) (aX 0 (e) (aX 0 (lt) aZ)))))))))))) (by kernel_rfl)),b⟩
open L2.Lx (ch ch_app ch_len Tok Con Br Wd)
inductive W9 where
 | one | two | call | if_ | fn | size | let_ | row | as_
def W9.hd:W9→Hd
 | .one=>.one | .two=>.two | .call=>.call | .if_=>.if_ | .fn=>.fn | .size=>.size | .let_=>.let_ | .row=>.row | .as_=>.as_
abbrev W9.str (w:W9):θ:=w.hd.str
def W9.fr:W9→List θ
 | .fn=>["x"] | .let_=>["x"] | _=>[]
def W9.ks:W9→List Kd
 | .fn=>[.lf .unt] | .as_=>[.lf .unt] | .row=>[.lf .whole] | _=>[]
def W9.pr:W9→List Tr
 | .call=>[.tru true] | .if_=>[.tru true,.tru false] | .let_=>[.tru true] | .row=>[.tru true] | _=>[]
def W9.wd:W9→List θ
 | .one=>["(","one"] | .two=>["(","two"] | .call=>["(","call","yes"] | .if_=>["(","if","yes","no"] | .fn=>["(","fn","x","?"] | .size=>["(","size"] | .let_=>["(","let","x","yes"] | .row=>["(","row","whole","yes"] | .as_=>["(","as","?"]
def W9.ft:W9→θ
 | .one=>"(one " | .two=>"(two " | .call=>"(call yes " | .if_=>"(if yes no " | .fn=>"(fn x ? " | .size=>"(size " | .let_=>"(let x yes " | .row=>"(row whole yes " | .as_=>"(as ? "
def arT (w:W9) (t:Tr):Tr:=.nd w.hd w.fr w.ks (w.pr ++ [t])
def nst:List W9→Tr
 | []=>.nam "x"
 | w :: r=>arT w (nst r)
theorem ja (w:W9) (t:Tr):(arT w t).tok=w.wd ++ (t.tok ++ [rpS]):=by
 cases w <;> (show lpS :: _=_;simp [W9.wd,W9.hd,W9.fr,W9.ks,W9.pr,Hd.pre,Hd.str,Tr.tok,toks,Kd.tok,L3.str])
theorem A9 (w:W9):∃ q,ch w.ft=q ++ [32]∧L2.Lx.lex q=w.wd.map ch:=by
 cases w
 ·exact ⟨(ch (W9.ft .one)).take 4,by decide +kernel,by decide +kernel⟩
 ·exact ⟨(ch (W9.ft .two)).take 4,by decide +kernel,by decide +kernel⟩
 ·exact ⟨(ch (W9.ft .call)).take 9,by decide +kernel,by decide +kernel⟩
 ·exact ⟨(ch (W9.ft .if_)).take 10,by decide +kernel,by decide +kernel⟩
 ·exact ⟨(ch (W9.ft .fn)).take 7,by decide +kernel,by decide +kernel⟩
 ·exact ⟨(ch (W9.ft .size)).take 5,by decide +kernel,by decide +kernel⟩
 ·exact ⟨(ch (W9.ft .let_)).take 10,by decide +kernel,by decide +kernel⟩
 ·exact ⟨(ch (W9.ft .row)).take 14,by decide +kernel,by decide +kernel⟩
 ·exact ⟨(ch (W9.ft .as_)).take 5,by decide +kernel,by decide +kernel⟩
theorem rM (w:W9):w.ft.length≤15:=by cases w <;> decide +kernel
theorem Cr (w:W9):(w.wd.all awB)=true:=by cases w <;> decide +kernel
theorem tE:∀ l:List W9,∀ x∈(nst l).tok,Aw x
 | []=>gm (l:=["x"]) (by decide +kernel)
 | w :: r=>by
   show ∀ x∈(arT w (nst r)).tok,Aw x
   rw [ja]
   exact jc (gm (Cr w)) (jc (tE r) (gm (l:=[rpS]) (by decide +kernel)))
theorem tG:∀ (l:List W9) (r:Nat),l.length<r→Ok r (nst l)
 | _,0,h=>by omega
 | [],r+1,_=>.nam r _ te
 | w :: l,r+1,h=>by
   simp only [Ε] at h
   obtain ⟨q,rfl⟩:∃ q,r=q+1:=⟨r - 1,by omega⟩
   have ih:=tG l (q+1) (by omega)
   have fx:∀ x∈([("x":θ)]:List θ),Nm x:=fun x m=>by rw [ε.mp m];exact te
   have ku:∀ (l:L3),∀ k∈[Kd.lf l],k.dep≤6:=fun l k m=>by rw [ε.mp m];show 1≤6;decide
   have p1:∀ p∈[nst l],Ok (q+1) p:=fun p m=>by rw [ε.mp m];exact ih
   have p2:∀ p∈[Tr.tru true,nst l],Ok (q+1) p:=fun p m=>by
    rcases υ.mp m with rfl | m
    ·exact .tru q _
    ·exact p1 p m
   have p3:∀ p∈[Tr.tru true,Tr.tru false,nst l],Ok (q+1) p:=fun p m=>by
    rcases υ.mp m with rfl | m
    ·exact .tru q _
    rcases υ.mp m with rfl | m
    ·exact .tru q _
    ·exact p1 p m
   cases w with
   | one=>exact .nd _ .one _ _ _ ⟨rfl,fun x m=>nomatch m⟩ rfl (fun k m=>nomatch m) rfl p1
   | two=>exact .nd _ .two _ _ _ ⟨rfl,fun x m=>nomatch m⟩ rfl (fun k m=>nomatch m) rfl p1
   | call=>exact .nd _ .call _ _ _ ⟨rfl,fun x m=>nomatch m⟩ rfl (fun k m=>nomatch m) rfl p2
   | if_=>exact .nd _ .if_ _ _ _ ⟨rfl,fun x m=>nomatch m⟩ rfl (fun k m=>nomatch m) rfl p3
   | fn=>exact .nd _ .fn _ _ _ ⟨rfl,fx⟩ rfl (ku .unt) rfl p1
   | size=>exact .nd _ .size _ _ _ ⟨rfl,fun x m=>nomatch m⟩ rfl (fun k m=>nomatch m) rfl p1
   | let_=>exact .nd _ .let_ _ _ _ ⟨rfl,fx⟩ rfl (fun k m=>nomatch m) rfl p2
   | row=>exact .nd _ .row _ _ _ ⟨rfl,fun x m=>nomatch m⟩ rfl (ku .whole) (show 2≤4 by decide) p2
   | as_=>exact .nd _ .as_ _ _ _ ⟨rfl,fun x m=>nomatch m⟩ rfl (ku .unt) rfl p1
theorem jR:∀ a b:List Tr,szs (a ++ b)=szs a+szs b
 | [],b=>by show szs b=0+szs b;omega
 | p :: a,b=>by show p.sz+szs (a ++ b)=p.sz+szs a+szs b;rw [jR a b];omega
theorem tH:∀ l:List W9,(nst l).sz≤1+3 * l.length
 | []=>Ϗ _
 | w :: l=>by
   have ih:=tH l
   have e:(nst (w :: l)).sz=1+(szs w.pr+((nst l).sz+0)):=by show 1+szs (w.pr ++ [nst l])=_;rw [jR];rfl
   have:szs w.pr≤2:=by cases w <;> decide
   rw [e,Ε];omega
section
variable {q:Nat} {ss r:List θ} {c:Nat}
theorem fL {nd:Md} {ws:List θ} (h:nd ws c=none):aq nd ("node" :: ss) ws c=none:=by
 show ((nd ws c).bind _)=none
 rw [h];rfl
theorem oB {w:θ} (hw:w≠lpS) (h:∀ c,aq (ndM q) ss r c=none):aq (ndM q) ("node" :: ss) (w :: r) c=none:=by
 show ((ndM q (w :: r) c).bind fun p=>(aq (ndM q) ss p.2.1 p.2.2).map fun q=>(p.1 :: q.1,q.2))=none
 cases q with
 | zero=>rfl
 | succ q=>
   by_cases e:c=120
   ·have:ndM (q+1) (w :: r) c=none:=by unfold ndM;rw [ZZ e]
    rw [this];rfl
   ·rw [gU e r hw]
    cases cG w c with
    | none=>rfl
    | some d=>
      show ((aq (ndM (q+1)) ss r (c+1)).map _)=none
      rw [h];rfl
theorem oG {nd:Md} {w:θ} (h:∀ c,aq nd ss r c=none):aq nd ("name" :: ss) (w :: r) c=none:=by
 show (((cy w).map fun d=>(d,r,c)).bind fun p=>(aq nd ss p.2.1 p.2.2).map fun q=>(p.1 :: q.1,q.2))=none
 cases cy w with
 | none=>rfl
 | some d=>
   show ((aq nd ss r c).map _)=none
   rw [h];rfl
theorem jH {nd:Md} {w:θ} {l:L3} (e:l3M w=some l) (h:∀ c,aq nd ss r c=none):aq nd ("kind" :: ss) (w :: r) c=none:=by
 have k:kdM 6 (w :: r)=some (.lf l,r):=by unfold kdM;rw [e]
 show ((kdA c (kdM 6 (w :: r))).bind fun p=>(aq nd ss p.2.1 p.2.2).map fun q=>(p.1 :: q.1,q.2))=none
 rw [k]
 show ((aq nd ss r c).map _)=none
 rw [h];rfl
theorem zl {w:θ} (hw:w≠lpS∧w≠rpS) {x:θ} {l:List θ} (e:r=x :: l) (hx:x≠rpS) (h:∀ c,ndM q r c=none):aq (ndM q) ["nodes"] (w :: r) c=none:=by
 subst e
 have f:∀ c,bu (ndM q) 3 (x :: l) c=none:=fun c=>by
  show (if x=rpS then _ else (ndM q (x :: l) c).bind _)=none
  rw [ZY hx,h];rfl
 have g:bu (ndM q) 4 (w :: x :: l) c=none:=by
  show (if w=rpS then _ else (ndM q (w :: x :: l) c).bind fun p=>(bu (ndM q) 3 p.2.1 p.2.2).map fun q=>(p.1 :: q.1,q.2))=none
  rw [ZY hw.2]
  cases q with
  | zero=>rfl
  | succ q=>
    by_cases e:c=120
    ·have:ndM (q+1) (w :: x :: l) c=none:=by unfold ndM;rw [ZZ e]
     rw [this];rfl
    ·rw [gU e _ hw.1]
     cases cG w c with
     | none=>rfl
     | some d=>
       show ((bu (ndM (q+1)) 3 (x :: l) (c+1)).map _)=none
       rw [f];rfl
 show (((bu (ndM q) 4 (w :: x :: l) c).map fun p=>(D.tup p.1,p.2)).bind _)=none
 rw [g];rfl
end
theorem zo:∀ l:List W9,∃ x r,(nst l).tok=x :: r∧x≠rpS
 | []=>⟨"x",[],rfl,by decide +kernel⟩
 | w :: l=>by
   refine ⟨lpS,w.wd.drop 1 ++ ((nst l).tok ++ [rpS]),?_,by decide +kernel⟩
   show (arT w (nst l)).tok=_
   rw [ja]
   cases w <;> rfl
theorem tF:∀ (q:Nat) (l:List W9) (r:List θ) (c:Nat),q≤l.length→ndM q ((nst l).tok ++ r) c=none
 | 0,_,_,_,_=>rfl
 | q+1,[],r,c,h=>by simp only [ÿ] at h;omega
 | q+1,w :: l,r,c,h=>by
   simp only [Ε] at h
   show ndM (q+1) ((arT w (nst l)).tok ++ r) c=none
   by_cases e:c=120
   ·unfold ndM;rw [ZZ e]
   rw [ja,Ι,Ι]
   have hy:("yes":θ)≠lpS∧("yes":θ)≠rpS:=by decide +kernel
   have hn:("no":θ)≠lpS:=by decide +kernel
   have ih:∀ c,ndM q ((nst l).tok ++ ([rpS] ++ r)) c=none:=fun c=>tF q l _ c (by omega)
   obtain ⟨x,t,et,hx⟩:=zo l
   have go:∀ {h:Hd} {Y:List θ},h≠.do_→(∀ c,aq (ndM q) h.sorts Y c=none)→ndM (q+1) (lpS :: h.str :: Y) c=none:=fun {h Y} hd k=>by
    rw [iY e,j0 hd]
    show ((aq (ndM q) h.sorts Y (c+1)).bind _)=none
    rw [k];rfl
   cases w with
   | one=>exact go (h:=.one) (by decide) fun c=>fL (ih c)
   | two=>exact go (h:=.two) (by decide) fun c=>fL (ih c)
   | call=>exact go (h:=.call) (by decide) fun c=>oB hy.1 fun c=>fL (ih c)
   | if_=>exact go (h:=.if_) (by decide) fun c=>oB hy.1 fun c=>oB hn fun c=>fL (ih c)
   | fn=>exact go (h:=.fn) (by decide) fun c=>oG fun c=>jH (l:=.unt) (by decide +kernel) fun c=>fL (ih c)
   | size=>exact go (h:=.size) (by decide) fun c=>fL (ih c)
   | let_=>exact go (h:=.let_) (by decide) fun c=>oG fun c=>oB hy.1 fun c=>fL (ih c)
   | row=>exact go (h:=.row) (by decide) fun c=>jH (l:=.whole) (by decide +kernel) fun c=>zl hy (x:=x) (l:=t ++ ([rpS] ++ r)) (by rw [et];rfl) hx ih
   | as_=>exact go (h:=.as_) (by decide) fun c=>jH (l:=.unt) (by decide +kernel) fun c=>fL (ih c)
theorem zp {l:List W9} (h:8≤l.length):rdM (nst l).tok=none:=by
 have:=tF 8 l [] 0 h
 rw [Ω] at this
 unfold rdM
 rw [this];rfl
open L2.Lx (ch ch_app ch_len Tok Con Br Wd)
theorem nV (l:List D) (d:D):ixD (.lst (l ++ [d])) (.int (-1))=some d:=by
 show ((ixN (l ++ [d]).length (-1)).bind fun j=>(l ++ [d])[j]?)=some d
 have h1:ixN (l ++ [d]).length (-1)=some l.length:=by
  unfold ixN;rw [Δ,ϕ]
  simp
  omega
 rw [h1]
 simp
abbrev trD (n:Nat) (b:Bool):D:=.tup [.str "truth",.int (n:Int),.bl b]
def arD (w:W9) (n:Nat) (d:D):D:=match w with
 | .call=>.tup [.str "call",.int (n:Int),trD (n+1) true,d]
 | .if_=>.tup [.str "if",.int (n:Int),trD (n+1) true,trD (n+2) false,d]
 | .let_=>.tup [.str "let",.int (n:Int),.str "x",trD (n+1) true,d]
 | .row=>.tup [.str "row",.int (n:Int),bt "whole",.tup [trD (n+1) true,d]]
 | .fn=>.tup [.str "fn",.int (n:Int),.str "x",bt "?",d]
 | .as_=>.tup [.str "as",.int (n:Int),bt "?",d]
 | .one=>.tup [.str "one",.int (n:Int),d]
 | .two=>.tup [.str "two",.int (n:Int),d]
 | .size=>.tup [.str "size",.int (n:Int),d]
def W9.x:W9→Nat
 | .call=>1 | .if_=>2 | .let_=>1 | .row=>1 | _=>0
theorem xF (w:W9) (t:Tr) (n:Nat):(arT w t).toD idp n=arD w n (t.toD idp (n+1+w.x)):=by cases w <;> rfl
theorem xG (w:W9) (n:Nat) (T:θ) (d:D) (hT:T.length≤80000):ai Γ 247 iy [.str w.str,.int (n:Int),.str T,d] [] = .ok (.tup [.str ((w.ft ++ T) ++ rpS),arD w n d]) []:=by
 have lw:=rM w
 have a1:opD .add (.str w.ft) (.str T)=some (.str (w.ft ++ T)):=aM (by omega)
 have a2:opD .add (.str (w.ft ++ T)) (.str rpS)=some (.str ((w.ft ++ T) ++ rpS)):=aM (by rw [af,show rpS.length=1 by decide +kernel];omega)
 cases w with
 | one=>exact (aa false (aX 15 (a1) (aX 0 (a2) aZ)) (by kernel_rfl))
 | two=>exact (aa false (aX 15 (a1) (aX 0 (a2) aZ)) (by kernel_rfl))
 | size=>exact (aa false (aX 15 (a1) (aX 0 (a2) aZ)) (by kernel_rfl))
 | call=>exact (aa false (aX 3 (a1) (aX 0 (a2) aZ)) (by kernel_rfl))
 | if_=>exact (aa false (aX 5 (a1) (aX 0 (a2) aZ)) (by kernel_rfl))
 | let_=>exact (aa false (aX 7 (a1) (aX 0 (a2) aZ)) (by kernel_rfl))
 | row=>exact (aa false (aX 9 (a1) (aX 0 (a2) aZ)) (by kernel_rfl))
 | fn=>exact (aa false (aX 11 (a1) (aX 0 (a2) aZ)) (by kernel_rfl))
 | as_=>exact (aa false (aX 13 (a1) (aX 0 (a2) aZ)) (by kernel_rfl))
open L2.Lx (ch ch_app ch_len Tok Con Br Wd)
abbrev stD (l:List Nat):List D:=l.map fun (j:Nat)=>D.int (j:Int)
def sx:Nat→List W9→List Nat
 | p,[]=>[p]
 | p,w :: r=>p :: sx (p+1+w.x) r
def sm:List W9→Nat
 | []=>0
 | w :: r=>1+w.x+sm r
theorem xx:∀ (p:Nat) (l:List W9) (k:Nat),k≤l.length→(sx p l)[k]? = some (p+sm (l.take k))
 | p,l,0,_=>by cases l <;> rfl
 | p,w :: r,k+1,h=>by
   simp only [Ε] at h
   show (sx (p+1+w.x) r)[k]? = some (p+(1+w.x+sm (r.take k)))
   rw [xx _ r k (by omega)];congr 1;omega
theorem ud:∀ (p:Nat) (l:List W9),∃ a,sx p l=a ++ [p+sm l]
 | p,[]=>⟨[],rfl⟩
 | p,w :: r=>by
   obtain ⟨a,e⟩:=ud (p+1+w.x) r
   exact ⟨p :: a,by show p :: sx (p+1+w.x) r=_;rw [e];show _=p :: (a ++ [p+(1+w.x+sm r)]);rw [show p+1+w.x+sm r=p+(1+w.x+sm r) by omega]⟩
theorem pk (l:List W9):∀ (k:Nat) (h:k<l.length),sm (l.take (k+1))=sm (l.take k)+1+l[k].x:=by
 induction l with
 | nil=>intro k h;cases h
 | cons w r ih=>
   intro k h
   cases k with
   | zero=>show 1+w.x+0=0+1+w.x;omega
   | succ k=>
     have:=ih k (by simpa using h)
     show 1+w.x+sm (r.take (k+1))=1+w.x+sm (r.take k)+1+(r[k]'(by simpa using h)).x
     omega
abbrev wsD (l:List W9):List D:=l.map fun w=>.str w.str
def pcS:Nat→S→S
 | 0,.seq a _=>a
 | 0,x=>x
 | n+1,.seq _ b=>pcS n b
 | _+1,x=>x
def rL:S→S
 | .for_ _ _ _ b=>b
 | x=>x
abbrev seB:S:=rL (pcS 4 dO.body)
abbrev teB:S:=rL (pcS 7 dO.body)
theorem pd {N:Nat} (m c:D) (S W:List D) (e3:Option D):∀ (l:List W9) (a:List Nat) (p:Nat) (e6:Option D),a.length+l.length≤90000→∃ e6':Option D,bv (fe Γ (ai Γ N) (aA Γ N) [6] true seB) (wsD l) ⟨[some m,some c,some (.lst S),e3,some (.lst W),some (.lst (stD (a ++ [p]))),e6,none,none],[5],[]⟩ = .nx ⟨[some m,some c,some (.lst S),e3,some (.lst W),some (.lst (stD (a ++ sx p l))),e6',none,none],[5],[]⟩
 | [],a,p,e6,_=>⟨e6,rfl⟩
 | w :: l,a,p,e6,h=>by
   simp only [Ε] at h
   obtain ⟨e6',g⟩:=pd m c S W e3 l (a ++ [p]) (p+1+w.x) (some (.str w.str)) (by rw [Δ,ϕ];omega)
   have e:stD (a ++ [p])=stD a ++ [.int (p:Int)]:=ϗ
   have e2:stD (a ++ [p] ++ [p+1+w.x])=stD (a ++ [p]) ++ [.int ((p+1+w.x:Nat):Int)]:=ϗ
   rw [e2] at g
   rw [Ι] at g
   have la:=nV (stD a) (.int (p:Int))
   rw [← e] at la
   have st:fe Γ (ai Γ N) (aA Γ N) [6] true seB (.str w.str) ⟨[some m,some c,some (.lst S),e3,some (.lst W),some (.lst (stD (a ++ [p]))),e6,none,none],[5],[]⟩ = .nx ⟨[some m,some c,some (.lst S),e3,some (.lst W),some (.lst (stD (a ++ [p]) ++ [.int ((p+1+w.x:Nat):Int)])),some (.str w.str),none,none],[5],[]⟩:=by
    have lb:decide ((stD (a ++ [p])).length+1≤100000)=true:=ZW (by rw [Β,Δ,ϕ];omega)
    cases w <;> exact cq rfl (fQ false (aX 0 (la) (aX 5 (lb) aZ)) (by kernel_rfl))
   exact ⟨e6',cF st g⟩
open L2.Lx (ch ch_app ch_len Tok Con Br Wd)
abbrev elE:E:=.ix (.v 3) (.op .mod (.op .add (.op .add (.v 2) (.op .mul (.v 0) (.v 0))) (.op .mul (.v 0) (.op .fdiv (.v 2) (.c (.int 8))))) (.bi .len (.cons (.v 3) .nil)))
theorem cw_loop {N:Nat} (m c:Int) (S:List D) (n:Nat) (hn:0<n) (hl:biD .len [.lst S]=some (.int (n:Nat))) (hS:∀ r<n,∃ w:W9,ixD (.lst S) (.int (r:Nat))=some (.str w.str)) (R:List (Option D)):∀ (l:List Int) (acc:List D) (e:Option D),(∀ y∈l,0≤y∧y≤400)→acc.length+l.length≤1000→∃ (ws:List W9) (e':Option D),ws.length=l.length∧bw (lcQ Γ (ai Γ N) (aA Γ N) [0] true elE (.c (.bl true))) (l.map .int) acc ⟨e :: some (.int m) :: some (.int c) :: some (.lst S) :: R,[],[]⟩ = .ok (.lst (acc ++ wsD ws)) ⟨e' :: some (.int m) :: some (.int c) :: some (.lst S) :: R,[],[]⟩
 | [],acc,e,_,_=>⟨[],e,rfl,by show Out.ok _ _=_;rw [show wsD [] = [] from rfl,Ω]⟩
 | y :: l,acc,e,hy,h=>by
   simp only [Ε] at h
   obtain ⟨y1,y2⟩:=hy y ι
   obtain ⟨q,hq,q1,q2⟩:∃ q:Int,y * y=q∧0≤q∧q≤160000:=⟨_,rfl,ES y1 y1,by have:=HN y2 y2 y1 (by decide);omega⟩
   have u1:=sX y (j:=y) (by omega)
   rw [hq] at u1
   have z8:=aT c (b:=8) (by decide)
   have u2:=qy (i:=y) (by omega) (c / 8)
   obtain ⟨r,hr,mr⟩:=fq (c+q+y * (c / 8)) n hn
   obtain ⟨w,ix⟩:=hS r hr
   obtain ⟨ws,e',lw,g⟩:=cw_loop m c S n hn hl hS R l (acc ++ [.str w.str]) (some (.int y)) (fun z mz=>hy z (ν _ mz)) (by rw [Δ,ϕ];omega)
   rw [Ι] at g
   have el:ev Γ (ai Γ N) (aA Γ N) false elE ⟨some (.int y) :: some (.int m) :: some (.int c) :: some (.lst S) :: R,[],[]⟩ = .ok (.str w.str) ⟨some (.int y) :: some (.int m) :: some (.int c) :: some (.lst S) :: R,[],[]⟩:=(iu false (aX 0 (u1) (aX 1 (z8) (aX 0 (u2) (aX 1 (hl) (aX 0 (mr) (aX 0 (ix) aZ)))))) (by kernel_rfl))
   exact ⟨w :: ws,e',by rw [Ε,lw,Ε],eu (gN rfl rfl el) (by omega) g⟩
structure Nt (T:θ) (l:List W9):Prop where
 tk:Tk T (nst l).tok
 len:T.length≤1+16 * l.length
theorem Dv:Nt "x" []:=⟨dF ⟨by decide +kernel,by decide +kernel⟩,by decide +kernel⟩
theorem Nt.add {T:θ} {l:List W9} (h:Nt T l) (w:W9):Nt ((w.ft ++ T) ++ rpS) (w :: l):=by
 refine ⟨?_,by have:=h.len;have:=rM w;rw [af,af,Ε,show rpS.length=1 by decide +kernel];omega⟩
 obtain ⟨q,e1,e2⟩:=A9 w
 show Tk _ (arT w (nst l)).tok
 rw [ja]
 exact cV e1 e2 h.tk
theorem vh (j:Nat):(ixs 0 (j+1)).reverse = .int (j:Int) :: (ixs 0 j).reverse:=by
 have:ixs 0 (j+1)=ixs 0 j ++ [.int (j:Int)]:=by
  show (ô 0 (j+1)).map _=_
  rw [List.range'_1_concat,ϗ];simp
 rw [this];simp
theorem pb (m c:D) (S:List D) (ws:List W9) (hw:ws.length≤400) (e6:Option D):∀ (j:Nat) (T:θ) (e3:Option D),j≤ws.length→Nt T (ws.drop j)→∃ (T':θ) (e3':Option D),Nt T' ws∧bv (fe Γ (ai Γ 247) (aA Γ 247) [3] true teB) (ixs 0 j).reverse ⟨[some m,some c,some (.lst S),e3,some (.lst (wsD ws)),some (.lst (stD (sx 0 ws))),e6,some (.str T),some ((nst (ws.drop j)).toD idp (sm (ws.take j)))],[5],[]⟩ = .nx ⟨[some m,some c,some (.lst S),e3',some (.lst (wsD ws)),some (.lst (stD (sx 0 ws))),e6,some (.str T'),some ((nst ws).toD idp 0)],[5],[]⟩
 | 0,T,e3,_,h=>⟨T,e3,h,rfl⟩
 | j+1,T,e3,hj,h=>by
   have hlt:j<ws.length:=by omega
   have dj:ws.drop j=ws[j] :: ws.drop (j+1):=Ĳ hlt
   have ht:T.length≤80000:=by have:=h.len;have:=ù (i:=j+1) (l:=ws);omega
   have ar:=xG ws[j] (sm (ws.take j)) T ((nst (ws.drop (j+1))).toD idp (sm (ws.take (j+1)))) ht
   rw [pk ws j hlt,← xF] at ar
   have nx:=h.add ws[j]
   rw [← dj] at nx
   obtain ⟨T',e3',n',g⟩:=pb m c S ws hw e6 j _ (some (.int (j:Int))) (by omega) nx
   have i1:ixD (.lst (wsD ws)) (.int (j:Int))=some (.str ws[j].str):=dI (by rw [ϒ,Μ hlt];rfl)
   have i2:ixD (.lst (stD (sx 0 ws))) (.int (j:Int))=some (.int (sm (ws.take j):Int)):=dI (by rw [ϒ,xx 0 ws j (by omega),FD];rfl)
   refine ⟨T',e3',n',?_⟩
   rw [vh,pk ws j hlt]
   rw [show nst (ws.drop j)=arT ws[j] (nst (ws.drop (j+1))) by rw [dj];rfl] at g
   exact cF (cq rfl (fQ false (aX 0 (i1) (aX 0 (i2) (aX 0 (ar) aZ))) (by kernel_rfl))) g
open L2.Lx (ch ch_app ch_len Tok Con Br Wd)
abbrev s8D:List D:=[.str "one",.str "call",.str "if",.str "fn",.str "size",.str "let",.str "row",.str "as"]
abbrev s2D:List D:=[.str "one",.str "two"]
theorem Cb:∀ r<8,∃ w:W9,ixD (.lst s8D) (.int (r:Nat))=some (.str w.str):=fun r h=>by
 have:r=0∨r=1∨r=2∨r=3∨r=4∨r=5∨r=6∨r=7:=by omega
 rcases this with rfl | rfl | rfl | rfl | rfl | rfl | rfl | rfl
 ·exact ⟨.one,rfl⟩
 ·exact ⟨.call,rfl⟩
 ·exact ⟨.if_,rfl⟩
 ·exact ⟨.fn,rfl⟩
 ·exact ⟨.size,rfl⟩
 ·exact ⟨.let_,rfl⟩
 ·exact ⟨.row,rfl⟩
 ·exact ⟨.as_,rfl⟩
theorem B9:∀ r<2,∃ w:W9,ixD (.lst s2D) (.int (r:Nat))=some (.str w.str):=fun r h=>by
 have:r=0∨r=1:=by omega
 rcases this with rfl | rfl
 ·exact ⟨.one,rfl⟩
 ·exact ⟨.two,rfl⟩
theorem zi (m:Nat) (hm:1≤m∧m≤400) (c:Int):∃ T d,ai Γ 248 dR [.int (m:Nat),.int c] [] = .ok (.tup [.str T,d]) []∧Bd T d (decide (m≤8)):=by
 have oS:opD .sub (.int (m:Nat)) (.int 1)=some (.int ((m - 1:Nat):Int)):=ZS (fun z=>some (D.int z)) (by omega)
 have rg:=hU (n:=m - 1) (by omega)
 have l0:(List.map (fun (i:Nat)=>(i:Int)) (ô 0 (m - 1))).length=m - 1:=by rw [Β,ā]
 have fin:∀ {T:θ} {ws:List W9},ws.length=m - 1→Nt T ws→Bd T ((nst ws).toD idp 0) (decide (m≤8)):=fun {T ws} lw nt=>by
  have ll:=nt.len
  by_cases g:m≤8
  ·rw [ZW g]
   exact bM (tG ws 8 (by omega)) (by have:=tH ws;omega) nt.tk (by omega)
  ·rw [ZV g]
   exact jd nt.tk (tE ws) (zp (by omega)) (by omega)
 have lps:∀ (S:List D) (n:Nat),0<n→biD .len [.lst S]=some (.int (n:Nat))→(∀ r<n,∃ w:W9,ixD (.lst S) (.int (r:Nat))=some (.str w.str))→∃ (ws:List W9) (e' e6 e3':Option D) (T:θ),ws.length=m - 1∧Nt T ws∧bw (lcQ Γ (ai Γ 247) (aA Γ 247) [0] true elE (.c (.bl true))) (ixs 0 (m - 1)) [] ⟨[none,some (.int (m:Nat)),some (.int c),some (.lst S),none,none,none,none,none,none],[],[]⟩ = .ok (.lst (wsD ws)) ⟨[e',some (.int (m:Nat)),some (.int c),some (.lst S),none,none,none,none,none,none],[],[]⟩∧bv (fe Γ (ai Γ 247) (aA Γ 247) [6] true seB) (wsD ws) ⟨[some (.int (m:Nat)),some (.int c),some (.lst S),none,some (.lst (wsD ws)),some (.lst [.int 0]),none,none,none],[5],[]⟩ = .nx ⟨[some (.int (m:Nat)),some (.int c),some (.lst S),none,some (.lst (wsD ws)),some (.lst (stD (sx 0 ws))),e6,none,none],[5],[]⟩∧ixD (.lst (stD (sx 0 ws))) (.int (-1))=some (.int (sm ws:Int))∧bv (fe Γ (ai Γ 247) (aA Γ 247) [3] true teB) (ixs 0 (m - 1)).reverse ⟨[some (.int (m:Nat)),some (.int c),some (.lst S),none,some (.lst (wsD ws)),some (.lst (stD (sx 0 ws))),e6,some (.str "x"),some (.tup [.str "name",.int (sm ws:Int),.str "x"])],[5],[]⟩ = .nx ⟨[some (.int (m:Nat)),some (.int c),some (.lst S),e3',some (.lst (wsD ws)),some (.lst (stD (sx 0 ws))),e6,some (.str T),some ((nst ws).toD idp 0)],[5],[]⟩:=fun S n hn hl hS=>by
  obtain ⟨ws,e',lw,lp1⟩:=cw_loop (N:=247) (m:Nat) c S n hn hl hS [none,none,none,none,none,none] ((ô 0 (m - 1)).map fun (i:Nat)=>(i:Int)) [] none (fun y my=>by
   obtain ⟨i,hi,rfl⟩:=Ú.mp my
   have:=ĉ.mp hi
   omega) (by rw [l0];show 0+(m - 1)≤_;omega)
  rw [← jw] at lp1
  rw [l0] at lw
  obtain ⟨e6,lp2⟩:=pd (N:=247) (.int (m:Nat)) (.int c) S (wsD ws) none ws [] 0 none (by show 0+_≤_;omega)
  obtain ⟨a,ea⟩:=ud 0 ws
  have la:=nV (stD a) (.int (sm ws:Int))
  have e2:stD (sx 0 ws)=stD a ++ [.int (sm ws:Int)]:=by rw [ea,FD];exact ϗ
  rw [← e2] at la
  have en:ws.drop ws.length = []:=ń
  obtain ⟨T,e3',nt,lp3⟩:=pb (.int (m:Nat)) (.int c) S ws (by omega) e6 ws.length "x" none (Ϗ _) (by rw [en];exact Dv)
  rw [en,Ŀ] at lp3
  rw [lw] at lp3
  exact ⟨ws,e',e6,e3',T,lw,nt,lp1,lp2,la,lp3⟩
 by_cases hc:65<m
 ·have t1:opD .gt (.int (m:Nat)) (.int 65)=some (.bl true):=by show some (D.bl (decide _))=_;rw [ZW (by omega)]
  obtain ⟨ws,e',e6,e3',T,lw,nt,lp1,lp2,la,lp3⟩:=lps s2D 2 (by decide) rfl B9
  exact ⟨T,_,(aa true (aX 0 (t1) (aX 1 (oS) (aX 0 (rg) (aX 0 (lp1) (aX 0 (lp2) (aX 0 (la) (aX 0 (oS) (aX 0 (rg) (aX 0 (lp3) aZ))))))))) (by kernel_rfl)),fin lw nt⟩
 ·have t1:opD .gt (.int (m:Nat)) (.int 65)=some (.bl false):=by show some (D.bl (decide _))=_;rw [ZV (by omega)]
  obtain ⟨ws,e',e6,e3',T,lw,nt,lp1,lp2,la,lp3⟩:=lps s8D 8 (by decide) rfl Cb
  exact ⟨T,_,(aa true (aX 0 (t1) (aX 1 (oS) (aX 0 (rg) (aX 0 (lp1) (aX 0 (lp2) (aX 0 (la) (aX 0 (oS) (aX 0 (rg) (aX 0 (lp3) aZ))))))))) (by kernel_rfl)),fin lw nt⟩
open L2.Lx (ch ch_app ch_len Tok Con Br Wd)
theorem DD (s c:Int):BdO 1 s c:=by
 have z8:=aT s (b:=8) (by decide)
 have z3:=aT (s / 8) (b:=3) (by decide)
 obtain ⟨r,o,m8,io,ho⟩:=cD s
 have go:∀ (m:Nat),1≤m∧m≤400→(m≤8↔o<1)→(∀ (T:θ) (d:D),opD .lt (.int o) (.int 1)=some (.bl (decide (m≤8)))→ai Γ 248 dR [.int (m:Nat),.int c] [] = .ok (.tup [.str T,d]) []→ai Γ 249 bD [.int 1,.int s,.int c] [] = .ok (.tup [.str T,d,.bl (decide (m≤8))]) [])→BdO 1 s c:=fun m hm hg k=>by
  obtain ⟨T,d,e,b⟩:=zi m hm c
  exact ⟨T,d,_,k T d (ltM (decide_eq_decide.mpr hg.symm)) e,b⟩
 obtain ⟨r1,h1,m1⟩:=fq (s / 8 / 3) 57 (by decide)
 obtain ⟨r2,h2,m2⟩:=fq (s / 8 / 3) 322 (by decide)
 have oA:∀ r:Nat,opD .add (.int 9) (.int (r:Nat))=some (.int ((9+r:Nat):Int)):=fun r=>i9 (by omega)
 obtain ⟨m,hm⟩:∃ m:Nat,8+o=m:=⟨(8+o).toNat,by omega⟩
 by_cases po:0<o
 ·have gt:opD .gt (.int o) (.int 0)=some (.bl true):=by show some (D.bl (decide (0<o)))=_;rw [ZW po]
  have s3:s / 8 % 3=0∨s / 8 % 3=1∨s / 8 % 3=2:=by omega
  rcases s3 with g | g | g
  ·exact go m (by omega) (by omega) fun T d lt e=>(aa false (aX 0 (m8) (aX 0 (io) (aX 0 (z8) (aX 4 (i9 hm) (aX 0 (gt) (aX 1 (aW g (b:=3) (by decide)) (aX 0 (e) (aX 0 (lt) aZ)))))))) (by kernel_rfl))
  ·exact go (9+r1) (by omega) (by omega) fun T d lt e=>(aa false (aX 0 (m8) (aX 0 (io) (aX 0 (z8) (aX 4 (i9 hm) (aX 0 (gt) (aX 1 (aW g (b:=3) (by decide)) (aX 2 (z3) (aX 0 (aW g (b:=3) (by decide)) (aX 2 (m1) (aX 0 (oA r1) (aX 0 (e) (aX 0 (lt) aZ)))))))))))) (by kernel_rfl))
  ·exact go (9+r2) (by omega) (by omega) fun T d lt e=>(aa false (aX 0 (m8) (aX 0 (io) (aX 0 (z8) (aX 4 (i9 hm) (aX 0 (gt) (aX 1 (aW g (b:=3) (by decide)) (aX 2 (z3) (aX 0 (aW g (b:=3) (by decide)) (aX 2 (m2) (aX 0 (oA r2) (aX 0 (e) (aX 0 (lt) aZ)))))))))))) (by kernel_rfl))
 ·have gt:opD .gt (.int o) (.int 0)=some (.bl false):=by show some (D.bl (decide (0<o)))=_;rw [ZV po]
  exact go m (by omega) (by omega) fun T d lt e=>(aa false (aX 0 (m8) (aX 0 (io) (aX 0 (z8) (aX 4 (i9 hm) (aX 0 (gt) (aX 0 (e) (aX 0 (lt) aZ))))))) (by kernel_rfl))
end L2.K16
end
section
set_option exponentiation.threshold 300
namespace L2.K16
open L2.Bk L2.Ev
open L2.Lx (ch ch_app ch_len Tok Con Br Wd)
theorem px:∀ l:List θ,b8 (sD l)=some l
 | []=>rfl
 | x :: r=>by show (b8 (sD r)).map (x :: ·)=_;rw [px r];rfl
abbrev jQ (l:List θ):Nat:=(l.map (·.length)).sum
theorem gK:∀ l:List θ,(Ď blS l).length≤jQ l+l.length
 | []=>ϰ _
 | [x]=>by show x.length≤(x.length+0)+1;omega
 | x :: y :: r=>by
   have:=gK (y :: r)
   show ((x ++ blS) ++ Ď blS (y :: r)).length≤(x.length+jQ (y :: r))+((y :: r).length+1)
   rw [af,af,show blS.length=1 from rfl];omega
theorem vi (l:List θ) (h1:jQ l≤80000) (h2:l.length≤900):rZ blS (.lst (sD l))=some (.str (Ď blS l)):=by
 rw [← StrLaws.glued_eq_join]
 show (b8 (sD l)).bind _=_
 rw [px]
 show (if _ then _ else _)=_
 rw [ZZ ⟨by decide +kernel,(by show jQ l≤100000;omega),by omega⟩];rfl
theorem pz:∀ l:List (θ×Tr),(∀ p∈l,Tk p.1 p.2.tok)→l≠[]→Tk (Ď blS (l.map (·.1))) (toks (l.map (·.2)))
 | [],_,h=>ZX rfl h
 | [p],h,_=>by
   show Tk p.1 (p.2.tok ++ [])
   rw [Ω];exact h p ι
 | p :: q :: r,h,_=>Ck (h p ι) (pz (q :: r) (fun x m=>h x (ν _ m)) (by simp))
structure Rw0 (q many:Nat) (T:θ) (t:Tr):Prop where
 tk:Tk T t.tok
 len:T.length≤16 * many
 ok:Ok (q+3) t
 sz:t.sz=many
 no:∀ (r:List θ) (c:Nat),c≤120→120<c+many→ndM (q+3) (t.tok ++ r) c=none
theorem kW {nd:Md}:∀ (ps:List Tr) (r:List θ) (c k:Nat),(∀ p∈ps,Nd1 nd p 120∧(∀ (r:List θ) (c:Nat),c≤120→120<c+p.sz→nd (p.tok ++ r) c=none)∧∃ w l,p.tok=w :: l∧w≠rpS)→c≤120→120<c+szs ps→ps.length≤k→bu nd k (toks ps ++ r) c=none
 | [],r,c,k,_,h1,h2,_=>by have:120<c+0:=h2;omega
 | p :: ps,r,c,k,h,h1,h2,hk=>by
   simp only [Ε] at hk
   obtain ⟨j,rfl⟩:∃ j,k=j+1:=⟨k - 1,by omega⟩
   obtain ⟨n1,n2,w,l,ew,hw⟩:=h p ι
   have h2:120<c+(p.sz+szs ps):=h2
   show bu nd (j+1) ((p.tok ++ toks ps) ++ r) c=none
   rw [Ι]
   have e:bu nd (j+1) (p.tok ++ (toks ps ++ r)) c=(nd (p.tok ++ (toks ps ++ r)) c).bind fun p=>(bu nd j p.2.1 p.2.2).map fun q=>(p.1 :: q.1,q.2):=by
    rw [ew]
    show (if w=rpS then _ else _)=_
    rw [ZY hw];rfl
   rw [e]
   by_cases c1:c+p.sz≤120
   ·rw [n1 _ c c1]
    show ((bu nd j (toks ps ++ r) (c+p.sz)).map _)=none
    rw [kW ps r (c+p.sz) j (fun x m=>h x (ν _ m)) c1 (by omega) (by omega)];rfl
   ·rw [n2 _ c h1 (by omega)];rfl
abbrev rwF:θ:="(row ? "
theorem zK {q:Nat} (l:List (θ×Tr)) (h:∀ p∈l,∃ m,Rw0 q m p.1 p.2) (h0:l≠[]) (h4:l.length≤4):Rw0 (q+1) (1+szs (l.map (·.2))) ((rwF ++ Ď blS (l.map (·.1))) ++ rpS) (.nd .row [] [.lf .unt] (l.map (·.2))):=by
 have hs:∀ l:List (θ×Tr),(∀ p∈l,∃ m,Rw0 q m p.1 p.2)→jQ (l.map (·.1))≤16 * szs (l.map (·.2)):=fun l=>by
  induction l with
  | nil=>intro _;exact ϰ _
  | cons p l ih=>
    intro h
    obtain ⟨m,r⟩:=h p ι
    have:=ih fun x mx=>h x (ν _ mx)
    have:=r.len
    have:=r.sz
    show p.1.length+jQ (l.map (·.1))≤16 * (p.2.sz+szs (l.map (·.2)))
    omega
 have okp:∀ p∈l.map (·.2),Ok (q+3) p:=fun p m=>by
  obtain ⟨x,mx,rfl⟩:=Ú.mp m
  obtain ⟨_,r⟩:=h x mx
  exact r.ok
 refine ⟨?_,?_,?_,rfl,fun r c h1 h2=>?_⟩
 ·have j:=pz l (fun p m=>by obtain ⟨_,r⟩:=h p m;exact r.tk) h0
  exact cV (P:=rwF) (q:=(ch rwF).take 6) (ps:=(["(","row","?"]:List θ)) (by decide +kernel) (by decide +kernel) j
 ·have j:=gK (l.map (·.1))
  have:=hs l h
  rw [Β] at j
  rw [af,af,show rwF.length=7 by decide +kernel,show rpS.length=1 by decide +kernel];omega
 ·exact .nd _ .row _ _ _ ⟨rfl,fun x m=>nomatch m⟩ rfl (fun k m=>by rw [ε.mp m];show 1≤6;decide) (show (l.map (·.2)).length≤4 by rw [Β];exact h4) okp
 ·by_cases e:c=120
  ·unfold ndM;rw [ZZ e]
  have ov:=kW (nd:=ndM (q+3)) (l.map (·.2)) ([rpS] ++ r) (c+1) 4 (fun p m=>by
   obtain ⟨x,mx,rfl⟩:=Ú.mp m
   obtain ⟨k,r⟩:=h x mx
   exact ⟨mt _ _ r.ok,fun r1 c1=>by rw [r.sz];exact r.no r1 c1,xb r.ok⟩) (by omega) (by omega) (by rw [Β];exact h4)
  have et:(Tr.nd .row [] [.lf .unt] (l.map (·.2))).tok ++ r=lpS :: Hd.row.str :: ("?" :: (toks (l.map (·.2)) ++ ([rpS] ++ r))):=by
   show (lpS :: (((["row"]:List θ) ++ []) ++ (((["?"]:List θ) ++ []) ++ (toks (l.map (·.2)) ++ ([rpS]:List θ))))) ++ r=_
   simp [Hd.str]
  rw [et,iY e,j0 (h:=.row) (by decide)]
  have k:kdM 6 ("?" :: (toks (l.map (·.2)) ++ ([rpS] ++ r)))=some (.lf .unt,toks (l.map (·.2)) ++ ([rpS] ++ r)):=rfl
  show ((((kdA (c+1) (kdM 6 ("?" :: (toks (l.map (·.2)) ++ ([rpS] ++ r))))).bind fun p=>(aq (ndM (q+3)) ["nodes"] p.2.1 p.2.2).map fun q=>(p.1 :: q.1,q.2)).bind _))=none
  rw [k]
  show (((((bu (ndM (q+3)) 4 (toks (l.map (·.2)) ++ ([rpS] ++ r)) (c+1)).map fun p=>(D.tup p.1,p.2)).bind _).map _).bind _)=none
  rw [ov];rfl
theorem fZ (q:Nat) {T:θ} {t:Tr} (tk:Tk T t.tok) (len:T.length≤16) (ok:Ok (q+3) t) (sz:t.sz=1):Rw0 q 1 T t:=⟨tk,by omega,ok,sz,fun r c h1 h2=>by
 have:c=120:=by omega
 unfold ndM;rw [ZZ this]⟩
end L2.K16
end
section
set_option exponentiation.threshold 300
namespace L2.K16
open L2.Bk L2.Ev
open L2.Lx (ch ch_app ch_len Tok Con Br Wd)
abbrev gvP:θ:="(given "
theorem xv (q n a:Nat) (ha:a≤300):∃ T t,ai Γ (n+1) bQ [.int 1,.int (a:Nat)] [] = .ok (.tup [.str T,t.toD idp a]) []∧Rw0 q 1 T t:=by
 obtain ⟨k,hk,m8⟩:=fq (a:Int) 8 (by decide)
 have sa:cf .str (.int (a:Nat))=some (.str (aj (a:Nat))):=wi (by show a<_;omega)
 have sk:cf .str (.int (k:Nat))=some (.str (aj (k:Nat))):=wi (by show k<_;omega)
 have la:(aj (a:Nat)).length≤3:=by rw [ch_len,bx];exact w9 (by decide) (by omega)
 have lk:(aj (k:Nat)).length≤1:=by rw [ch_len,bx];exact w9 (by decide) (by omega)
 have lg:gvP.length=7:=by decide +kernel
 have lr:rpS.length=1:=by decide +kernel
 have a1:opD .add (.str gvP) (.str (aj (k:Nat)))=some (.str (gvP ++ aj (k:Nat))):=aM (by omega)
 have a2:opD .add (.str (gvP ++ aj (k:Nat))) (.str rpS)=some (.str ((gvP ++ aj (k:Nat)) ++ rpS)):=aM (by rw [af];omega)
 have wn:∀ i:Nat,Wd (ch (aj (i:Nat))):=fun i=>by
  rw [bx]
  exact ⟨jm i,fun x m=>by have:=fO i x m;omega⟩
 have a4:(a:Int) % 4=0∨(a:Int) % 4=1∨(a:Int) % 4=2∨(a:Int) % 4=3:=by omega
 rcases a4 with h | h | h | h
 ·have m4:=aW h (b:=4) (by decide)
  exact ⟨aj (a:Nat),.num (a:Nat),(aa false (aX 2 (m8) (aX 0 (m4) (aX 1 (sa) (aX 0 (m8) (aX 0 (sk) (aX 0 (a1) (aX 0 (a2) (aX 0 (m4) aZ)))))))) (by kernel_rfl)),fZ q (dF (wn a)) (by omega) (.num _ _ (by show a<_;omega)) rfl⟩
 ·have m4:=aW h (b:=4) (by decide)
  exact ⟨"yes",.tru true,(aa false (aX 2 (m8) (aX 0 (m4) (aX 1 (sa) (aX 0 (m8) (aX 0 (sk) (aX 0 (a1) (aX 0 (a2) (aX 0 (m4) aZ)))))))) (by kernel_rfl)),fZ q (dF ⟨by decide +kernel,by decide +kernel⟩) (by decide +kernel) (.tru _ _) rfl⟩
 ·have m4:=aW h (b:=4) (by decide)
  exact ⟨"x",.nam "x",(aa false (aX 2 (m8) (aX 0 (m4) (aX 1 (sa) (aX 0 (m8) (aX 0 (sk) (aX 0 (a1) (aX 0 (a2) (aX 0 (m4) aZ)))))))) (by kernel_rfl)),fZ q (dF ⟨by decide +kernel,by decide +kernel⟩) (by decide +kernel) (.nam _ _ ⟨by decide +kernel,by decide +kernel,by decide,by decide⟩) rfl⟩
 ·have m4:=aW h (b:=4) (by decide)
  exact ⟨(gvP ++ aj (k:Nat)) ++ rpS,.giv k,(aa false (aX 2 (m8) (aX 0 (m4) (aX 1 (sa) (aX 0 (m8) (aX 0 (sk) (aX 0 (a1) (aX 0 (a2) (aX 0 (m4) aZ)))))))) (by kernel_rfl)),fZ q (cV (P:=gvP) (q:=(ch gvP).take 6) (ps:=(["(","given"]:List θ)) (by decide +kernel) (by decide +kernel) (dF (wn k))) (by rw [af,af];omega) (.giv _ _ (by omega)) rfl⟩
abbrev DA:S:=rL (pcS 5 kf.body)
abbrev shr (x y k:Nat):Nat:=x+if k<y then 1 else 0
def tot (x y:Nat):Nat→Nat
 | 0=>0
 | k+1=>tot x y k+shr x y k
theorem lh (f:Nat→Int):∀ (l:List Tr) (n:Nat) (t:Tr),toDs f n (l ++ [t])=toDs f n l ++ [t.toD f (n+szs l)]
 | [],n,t=>rfl
 | p :: l,n,t=>by
   show p.toD f n :: toDs f (n+p.sz) (l ++ [t])=p.toD f n :: (toDs f (n+p.sz) l ++ [t.toD f (n+(p.sz+szs l))])
   rw [lh f l (n+p.sz) t,ź]
theorem pc {N q:Nat} (M W v:Int) (x y w a:Nat) (hw:w≤4) (oM:opD .sub (.int M) (.int 1)=some (.int v)) (oF:opD .fdiv (.int v) (.int W)=some (.int (x:Nat))) (oR:opD .mod (.int v) (.int W)=some (.int (y:Nat))) (hb:∀ k≤w,a+1+tot x y k≤300) (ih:∀ k p:Nat,k<w→p+shr x y k≤300→∃ T t,ai Γ N bQ [.int (shr x y k:Nat),.int (p:Nat)] [] = .ok (.tup [.str T,t.toD idp p]) []∧Rw0 q (shr x y k) T t):∀ (j k:Nat) (l:List (θ×Tr)) (e7 e8 e9 e10:Option D),k+j=w→l.length=k→(∀ z∈l,∃ m,Rw0 q m z.1 z.2)→szs (l.map (·.2))=tot x y k→∃ (l':List (θ×Tr)) (z7 z8 z9 z10 z6:Option D),l'.length=w∧(∀ z∈l',∃ m,Rw0 q m z.1 z.2)∧szs (l'.map (·.2))=tot x y w∧bv (fe Γ (ai Γ N) (aA Γ N) [7] true DA) (ixs k j) ⟨[some (.int M),some (.int (a:Nat)),none,some (.int W),some (.lst (sD (l.map (·.1)))),some (.lst (toDs idp (a+1) (l.map (·.2)))),some (.int ((a+1+tot x y k:Nat):Int)),e7,e8,e9,e10],[5,4],[]⟩ = .nx ⟨[some (.int M),some (.int (a:Nat)),none,some (.int W),some (.lst (sD (l'.map (·.1)))),some (.lst (toDs idp (a+1) (l'.map (·.2)))),z6,z7,z8,z9,z10],[5,4],[]⟩
 | 0,k,l,e7,e8,e9,e10,hk,hl,hr,hs=>⟨l,e7,e8,e9,e10,_,by omega,hr,by rw [hs];congr 1,rfl⟩
 | j+1,k,l,e7,e8,e9,e10,hk,hl,hr,hs=>by
   have b1:=hb (k+1) (by omega)
   have t1:tot x y (k+1)=tot x y k+shr x y k:=rfl
   obtain ⟨T,t,e,r⟩:=ih k (a+1+tot x y k) (by omega) (by omega)
   have ap:opD .add (.int ((a+1+tot x y k:Nat):Int)) (.int ((shr x y k:Nat):Int))=some (.int ((a+1+tot x y (k+1):Nat):Int)):=ZS (fun z=>some (D.int z)) (by omega)
   obtain ⟨l',z7,z8,z9,z10,z6,g1,g2,g3,g⟩:=pc M W v x y w a hw oM oF oR hb ih j (k+1) (l ++ [(T,t)]) (some (.int (k:Nat))) (some (.int (shr x y k:Nat))) (some (.str T)) (some (t.toD idp (a+1+tot x y k))) (by omega) (by rw [Δ,ϕ];omega) (fun z mz=>by
    rcases ώ.mp mz with m | m
    ·exact hr z m
    ·rw [ε.mp m];exact ⟨_,r⟩) (by rw [ϗ,jR,hs];show tot x y k+(t.sz+0)=_;rw [r.sz];rfl)
   rw [ϗ,ϗ,zL,ë,ë,Œ,Œ,lh,hs] at g
   refine ⟨l',z7,z8,z9,z10,z6,g1,g2,g3,?_⟩
   have e0:ixs k (j+1) = .int (k:Nat) :: ixs (k+1) j:=rfl
   rw [e0]
   have lb1:decide ((sD (l.map (·.1))).length+1≤100000)=true:=ZW (by rw [Β,Β];omega)
   have lb2:decide ((toDs idp (a+1) (l.map (·.2))).length+1≤100000)=true:=ZW (by rw [eO,Β];omega)
   have oL:opD .lt (.int (k:Nat)) (.int (y:Nat))=some (.bl (decide (k<y))):=ZS (fun z=>some (D.bl z)) (decide_eq_decide.mpr (by omega))
   refine cF (cq rfl ?_) g
   by_cases c:k<y
   ·rw [ZW c] at oL
    have oA:opD .add (.int (x:Nat)) (.int 1)=some (.int ((shr x y k:Nat):Int)):=by
     have:shr x y k=x+1:=by show x+(if k<y then 1 else 0)=_;rw [ZZ c]
     rw [this];exact ZS (fun z=>some (D.int z)) (by omega)
    exact (fQ false (aX 0 (oM) (aX 0 (oF) (aX 0 (oM) (aX 0 (oR) (aX 0 (oL) (aX 1 (oA) (aX 0 (e) (aX 0 (lb1) (aX 0 (lb2) (aX 0 (ap) aZ)))))))))) (by kernel_rfl))
   ·rw [ZV c] at oL
    have oA:opD .add (.int (x:Nat)) (.int 0)=some (.int ((shr x y k:Nat):Int)):=by
     have:shr x y k=x:=by show x+(if k<y then 1 else 0)=_;rw [ZY c];rfl
     rw [this];exact ZS (fun z=>some (D.int z)) (by omega)
    exact (fQ false (aX 0 (oM) (aX 0 (oF) (aX 0 (oM) (aX 0 (oR) (aX 0 (oL) (aX 1 (oA) (aX 0 (e) (aX 0 (lb1) (aX 0 (lb2) (aX 0 (ap) aZ)))))))))) (by kernel_rfl))
end L2.K16
end
section
set_option exponentiation.threshold 300
namespace L2.K16
open L2.Bk L2.Ev
open L2.Lx (ch ch_app ch_len Tok Con Br Wd)
def MQ:Nat→Nat
 | 0=>1
 | q+1=>4 * MQ q+1
theorem o9:∀ (q m a:Nat),1≤m→m≤MQ q→a+m≤300→∃ T t,ai Γ (243+q) bQ [.int (m:Nat),.int (a:Nat)] [] = .ok (.tup [.str T,t.toD idp a]) []∧Rw0 q m T t
 | 0,m,a,h1,h2,h3=>by
   have:m=1:=by have:m≤1:=h2;omega
   subst this
   exact xv 0 242 a (by omega)
 | q+1,m,a,h1,h2,h3=>by
   by_cases c:m=1
   ·subst c;exact xv (q+1) (243+q) a (by omega)
   ·have h2:m≤4 * MQ q+1:=h2
    have oE:opD .eq (.int (m:Nat)) (.int 1)=some (.bl false):=BK false _ _ (by rw [eq_comm,ZU];omega)
    have oM:opD .sub (.int (m:Nat)) (.int 1)=some (.int ((m - 1:Nat):Int)):=ZS (fun z=>some (D.int z)) (by omega)
    have oA:opD .add (.int (a:Nat)) (.int 1)=some (.int ((a+1:Nat):Int)):=ZS (fun z=>some (D.int z)) (by omega)
    have go:∀ w x y:Nat,1≤w∧w≤4→(opD .fdiv (.int ((m - 1:Nat):Int)) (.int (w:Nat))=some (.int (x:Nat)))→(opD .mod (.int ((m - 1:Nat):Int)) (.int (w:Nat))=some (.int (y:Nat)))→biD .min2 [.int 4,.int ((m - 1:Nat):Int)]=some (.int (w:Nat))→tot x y w=m - 1→(∀ k<w,1≤shr x y k∧shr x y k≤MQ q)→(∀ k≤w,tot x y k≤m - 1)→∃ T t,ai Γ (243+q+1) bQ [.int (m:Nat),.int (a:Nat)] [] = .ok (.tup [.str T,t.toD idp a]) []∧Rw0 (q+1) m T t:=fun w x y hw oF oR oW tw sh tb=>by
     obtain ⟨l,z7,z8,z9,z10,z6,g1,g2,g3,g⟩:=pc (N:=243+q) (q:=q) (m:Nat) (w:Nat) ((m - 1:Nat):Int) x y w a hw.2 oM oF oR (fun k hk=>by have:=tb k hk;omega) (fun k p hk hp=>o9 q _ p (sh k hk).1 (sh k hk).2 hp) w 0 [] none none none none (by omega) rfl (fun z mz=>nomatch mz) rfl
     have rg:=hU (n:=w) (by omega)
     have rr:=zK l g2 (fun e=>by rw [e] at g1;have:0=w:=g1;omega) (by omega)
     rw [g3,tw] at rr
     rw [show 1+(m - 1)=m by omega] at rr
     have sl:jQ (l.map (·.1))≤16 * 300:=by
      have hs:∀ l:List (θ×Tr),(∀ p∈l,∃ m,Rw0 q m p.1 p.2)→jQ (l.map (·.1))≤16 * szs (l.map (·.2)):=fun l=>by
       induction l with
       | nil=>intro _;exact ϰ _
       | cons p l ih=>
         intro h
         obtain ⟨m,r⟩:=h p ι
         have:=ih fun x mx=>h x (ν _ mx)
         have:=r.len
         have:=r.sz
         show p.1.length+jQ (l.map (·.1))≤16 * (p.2.sz+szs (l.map (·.2)))
         omega
      have:=hs l g2
      rw [g3,tw] at this
      omega
     have jn:=vi (l.map (·.1)) (by omega) (by rw [Β];omega)
     have jl:=gK (l.map (·.1))
     rw [Β] at jl
     have a1:opD .add (.str rwF) (.str (Ď blS (l.map (·.1))))=some (.str (rwF ++ Ď blS (l.map (·.1)))):=aM (by rw [show rwF.length=7 by decide +kernel];omega)
     have a2:opD .add (.str (rwF ++ Ď blS (l.map (·.1)))) (.str rpS)=some (.str ((rwF ++ Ď blS (l.map (·.1))) ++ rpS)):=aM (by rw [af,show rwF.length=7 by decide +kernel,show rpS.length=1 by decide +kernel];omega)
     exact ⟨_,_,(aa true (aX 0 (oE) (aX 1 (oM) (aX 0 (oW) (aX 0 (oA) (aX 0 (rg) (aX 0 (g) (aX 0 (jn) (aX 0 (a1) (aX 0 (a2) aZ))))))))) (by kernel_rfl)),rr⟩
    have fd:∀ w:Nat,0<w∧w≤4→opD .fdiv (.int ((m - 1:Nat):Int)) (.int (w:Nat))=some (.int (((m - 1) / w:Nat):Int)):=fun w h=>aT _ ⟨by omega,by omega⟩
    have md:∀ w:Nat,0<w→opD .mod (.int ((m - 1:Nat):Int)) (.int (w:Nat))=some (.int (((m - 1) % w:Nat):Int)):=fun w h=>aW rfl (by omega)
    have mn:∀ w:Nat,(if ((m - 1:Nat):Int)<4 then ((m - 1:Nat):Int) else 4)=(w:Nat)→biD .min2 [.int 4,.int ((m - 1:Nat):Int)]=some (.int (w:Nat)):=fun w e=>by rw [← e];rfl
    have sh:∀ x y k:Nat,x≤shr x y k∧shr x y k≤x+1∧(y=0→shr x y k=x):=fun x y k=>by
     refine ⟨ň _ _,?_,fun e=>by subst e;show x+(if k<0 then 1 else 0)=x;rw [ZY (Ŝ k)];rfl⟩
     show x+(if k<y then 1 else 0)≤x+1
     split <;> omega
    have mo:∀ x y w k:Nat,k≤w→tot x y k≤tot x y w:=fun x y w k h=>by
     induction w with
     | zero=>rw [Nat.le_zero.mp h];exact Ϗ _
     | succ w ih=>
       rcases Iq k (w+1) with q | q
       ·exact ϧ (ih (by omega)) (ň _ _)
       ·rw [show k=w+1 by omega];exact Ϗ _
    have e4:m - 1=1∨m - 1=2∨m - 1=3∨4≤m - 1:=by omega
    have q1:1≤MQ q:=by cases q <;> simp only [MQ] <;> omega
    rcases e4 with e | e | e | e
    ·have t:tot 1 0 1=m - 1:=by rw [e];rfl
     exact go 1 1 0 (by decide) (by rw [fd 1 (by decide),e]) (by rw [md 1 (by decide),e]) (mn 1 (by rw [e];rfl)) t (fun k _=>by rw [(sh 1 0 k).2.2 rfl];omega) fun k h=>ϧ (mo _ _ _ _ h) (Ř t)
    ·have t:tot 1 0 2=m - 1:=by rw [e];rfl
     exact go 2 1 0 (by decide) (by rw [fd 2 (by decide),e]) (by rw [md 2 (by decide),e]) (mn 2 (by rw [e];rfl)) t (fun k _=>by rw [(sh 1 0 k).2.2 rfl];omega) fun k h=>ϧ (mo _ _ _ _ h) (Ř t)
    ·have t:tot 1 0 3=m - 1:=by rw [e];rfl
     exact go 3 1 0 (by decide) (by rw [fd 3 (by decide),e]) (by rw [md 3 (by decide),e]) (mn 3 (by rw [e];rfl)) t (fun k _=>by rw [(sh 1 0 k).2.2 rfl];omega) fun k h=>ϧ (mo _ _ _ _ h) (Ř t)
    ·have t:tot ((m - 1) / 4) ((m - 1) % 4) 4=m - 1:=by
      show (((0+(_+(if 0<(m - 1) % 4 then 1 else 0)))+(_+(if 1<(m - 1) % 4 then 1 else 0)))+(_+(if 2<(m - 1) % 4 then 1 else 0)))+(_+(if 3<(m - 1) % 4 then 1 else 0))=_
      split <;> split <;> split <;> split <;> omega
     exact go 4 _ _ (by decide) (fd 4 (by decide)) (md 4 (by decide)) (mn 4 (ZY (by omega))) t (fun k _=>by
      have:=sh ((m - 1) / 4) ((m - 1) % 4) k
      refine ⟨by omega,?_⟩
      by_cases z:(m - 1) % 4=0
      ·rw [this.2.2 z];omega
      ·omega) fun k h=>ϧ (mo _ _ _ _ h) (Ř t)
theorem wv (m:Nat) (hm:1≤m∧m≤123):∃ T d,ai Γ 248 bQ [.int (m:Nat),.int 0] [] = .ok (.tup [.str T,d]) []∧Bd T d (decide (m≤120)):=by
 obtain ⟨T,t,e,r⟩:=o9 5 m 0 hm.1 (by simp only [MQ];omega) (by omega)
 refine ⟨T,_,e,?_⟩
 have:=r.len
 by_cases g:m≤120
 ·rw [ZW g]
  exact bM r.ok (by rw [r.sz];exact g) r.tk (by omega)
 ·rw [ZV g]
  refine jd r.tk (fun w mw=>nW (mM 8 t r.ok w mw)) ?_ (by omega)
  have n:=r.no [] 0 (by decide) (by omega)
  rw [Ω] at n
  have n:ndM 8 t.tok 0=none:=n
  unfold rdM
  rw [n];rfl
theorem DC (s c:Int):BdO 0 s c:=by
 have z8:=aT s (b:=8) (by decide)
 obtain ⟨r,o,m8,io,ho⟩:=cD s
 obtain ⟨m,hm⟩:∃ m:Nat,120+o=m:=⟨(120+o).toNat,by omega⟩
 obtain ⟨T,d,e,b⟩:=wv m (by omega)
 have lt:opD .lt (.int o) (.int 1)=some (.bl (decide (m≤120))):=ltM (decide_eq_decide.mpr (by omega))
 exact ⟨T,d,_,(aa false (aX 0 (m8) (aX 0 (io) (aX 0 (z8) (aX 2 (i9 hm) (aX 0 (e) (aX 0 (lt) aZ)))))) (by kernel_rfl)),b⟩
end L2.K16
end
section
set_option exponentiation.threshold 300
namespace L2.K16
open L2.Bk L2.Ev
open L2.Lx (ch ch_app ch_len Tok Con Br Wd)
theorem cell (ns:List Int) (k n:Nat):∃ c:Int,∀ S:List O,ai Γ (n+1) gG [.lst (ns.map .int),.int k] S = .ok (.int c) S:=by
 by_cases c:k<ns.length
 ·have e1:decide ((k:Int)<((ns.map D.int).length:Nat))=true:=by rw [Β];exact ZW (by omega)
  have e2:ixD (.lst (ns.map D.int)) (.int (k:Int))=some (.int ns[k]):=by
   refine dI ?_
   rw [ϒ,Μ c]
   rfl
  exact ⟨ns[k],fun S=>(aa false (aX 2 (e1) (aX 0 (e2) aZ)) (by kernel_rfl))⟩
 ·have e1:decide ((k:Int)<((ns.map D.int).length:Nat))=false:=by rw [Β];exact ZV (by omega)
  exact ⟨0,fun S=>(aa false (aX 2 (e1) aZ) (by kernel_rfl))⟩
theorem yv (ns:List Int) (hn:ns.length≤63):∃ st':List O,ai Γ 250 Bs [.lst (ns.map .int)] [] = .ok (.bl true) st':=by
 obtain ⟨a,ha⟩:=cell ns 0 248
 obtain ⟨b,hb⟩:=cell ns 1 248
 obtain ⟨d,hd⟩:=cell ns 2 248
 obtain ⟨w,hw⟩:∃ w,a % 10=w:=⟨_,rfl⟩
 have m:=aW hw (b:=10) (by decide)
 have z:=aT a (b:=10) (by decide)
 obtain ⟨q,hq⟩:∃ q,a / 10=q:=⟨_,rfl⟩
 rw [hq] at z
 have u:=qy (i:=7) (by decide) d
 have w10:w=0∨w=1∨w=2∨w=3∨w=4∨w=5∨w=6∨w=7∨w=8∨w=9:=by omega
 obtain ⟨c,hc⟩:∃ c,q+7 * d=c:=⟨_,rfl⟩
 have ac:opD .add (.int q) (.int (7 * d))=some (.int c):=ZS (fun z=>some (D.int z)) hc
 have bo:BdO w b c:=by
  rcases w10 with rfl | rfl | rfl | rfl | rfl | rfl | rfl | rfl | rfl | rfl
  ·exact DC b c
  ·exact DD b c
  ·exact DE b c
  ·exact DF b c
  ·exact DG b c
  ·exact DH b c
  ·exact DI b c
  ·exact DJ b c
  ·exact DK b c
  ·exact DL b c
 obtain ⟨T,t,g,e,bd⟩:=bo
 have r:=right bd
 exact ⟨[],(aa false (aX 0 (ha []) (aX 0 (m) (aX 0 (ha []) (aX 0 (z) (aX 0 (hd []) (aX 0 (u) (aX 0 (ac) (aX 0 (hb []) (aX 0 (e) (aX 0 (r) (aX 0 (r) aZ))))))))))) (by kernel_rfl))⟩
def X0 (K:ο):Prop:=∃ C:φ,qS K "BlameError" C∧NaL K C []
def X1 (K:ο):Prop:=∃ C:φ,qS K "NoText" C∧mU K C veB "ValueError.__new__"∧NaL K C []
def X2 (K:ο):Prop:=∃ C:φ,qS K "NoPart" C∧NaL K C []
def X3 (K:ο):Prop:=∃ C:φ,qS K "TooMany" C∧NaL K C []
def X4 (K:ο):Prop:=∃ C fI:φ,pI K "NoName" "NoName.__init__" (aJ (top 5) 0) veB "ValueError.__new__" C fI∧NaL K C ["place"]
def X5 (K:ο):Prop:=∃ C fI:φ,pI K "TooDeep" "TooDeep.__init__" (aJ (top 6) 0) veB "ValueError.__new__" C fI∧NaL K C ["place"]
def X6 (K:ο):Prop:=∃ C fI:φ,pI K "NoFit" "NoFit.__init__" (aJ (top 7) 0) veB "ValueError.__new__" C fI∧NaL K C ["place"]
def X7 (K:ο):Prop:=∃ C fI:φ,pI K "NoLook" "NoLook.__init__" (aJ (top 8) 0) veB "ValueError.__new__" C fI∧NaL K C ["place"]
def X8 (K:ο):Prop:=∃ C fI:φ,pI K "Parted" "Parted.__init__" (aJ (top 9) 0) veB "ValueError.__new__" C fI∧NaL K C ["place","kind","by","wanted","way"]
def X9 (K:ο):Prop:=∃ C:φ,Ae K "Reader" C∧NaL K C ["words","taken","nodes"]∧(∃ f,d8 K C "__init__" "Reader.__init__" (aJ (top 31) 0) f)∧(∃ f,d8 K C "peek" "Reader.peek" (aJ (top 31) 1) f)∧(∃ f,d8 K C "take" "Reader.take" (aJ (top 31) 2) f)∧(∃ f,d8 K C "need_closed" "Reader.need_closed" (aJ (top 31) 3) f)∧(∃ f,d8 K C "need_end" "Reader.need_end" (aJ (top 31) 4) f)∧(∃ f,d8 K C "new_place" "Reader.new_place" (aJ (top 31) 5) f)∧(∃ f,d8 K C "read_node" "Reader.read_node" (aJ (top 31) 6) f)∧(∃ f,d8 K C "read_bracketed" "Reader.read_bracketed" (aJ (top 31) 7) f)∧(∃ f,d8 K C "read_things" "Reader.read_things" (aJ (top 31) 8) f)∧(∃ f,d8 K C "read_thing" "Reader.read_thing" (aJ (top 31) 9) f)∧(∃ f,d8 K C "read_row" "Reader.read_row" (aJ (top 31) 10) f)∧(∃ f,d8 K C "read_one_kind" "Reader.read_one_kind" (aJ (top 31) 11) f)∧True
def mrl:List (θ×θ×Bool):=(["BlameError","NoText","NoPart","TooMany","NoName","TooDeep","NoFit","NoLook","Parted"]:List θ).flatMap fun n=>(["BlameError","NoText","NoPart","TooMany","NoName","TooDeep","NoFit","NoLook","Parted"]:List θ).map fun m=>(m,n,m == n || n == "BlameError")
def cnl:List θ:=["BlameError","NoText","NoPart","TooMany","NoName","TooDeep","NoFit","NoLook","Parted","Reader"]
def whl:List Nat:=[2,2,2,2,2,2,2,2,2,0]
def vxl:List (θ×Bool):=[("BlameError",true),("NoText",true),("NoPart",true),("TooMany",true),("NoName",true),("TooDeep",true),("NoFit",true),("NoLook",true),("Parted",true)]
structure Txt (K:ο):Prop where
 fn:gk K fnl
 gl:GlL K gll
 tl:lI K tbl
 bl:NoL K T.bl
 mr:MrL K mrl
 vx:VxL K vxl
 b0:∃ B,Ψ K ϊ "BlameError" = some (some (.ref B))∧wL K B
 x0':X0 K
 x1':X1 K
 x2':X2 K
 x3':X3 K
 x4':X4 K
 x5':X5 K
 x6':X6 K
 x7':X7 K
 x8':X8 K
 x9':X9 K
theorem tx:(((fnl.map fun p=>(p.1,p.1,p.2)) ++ mel).all fun p=>fnC p.2.2 && (fG T p.2.2).isSome)=true:=by kernel_rfl
theorem xE {P:Ä} {w:à} {K:ο} {h:ϻ} {mg:θ→Option η} {fa:φ} {os:GH} (Y:K.In h) (G:h.Ns ϊ mg) (hfa:mg "law" = some (.ref fa)) (T':Txt K) :
 ∃ X:Cx,X.W.P=P∧X.W.w=w∧X.K=K∧X.mg=mg∧X.base=h∧X.os=os∧X.calm=true∧X.tz=0∧bR X (ai Γ 250) 252 22 fa:=by
 obtain ⟨ad,hF,hG⟩:=T'.fn.ad Y G
 obtain ⟨C0,c0,n0'⟩:=T'.x0'
 obtain ⟨C1,c1,o0',n1'⟩:=T'.x1'
 obtain ⟨C2,c2,n2'⟩:=T'.x2'
 obtain ⟨C3,c3,n3'⟩:=T'.x3'
 obtain ⟨C4,e0',c4,n4'⟩:=T'.x4'
 obtain ⟨d0',I0⟩:=c4.ini
 obtain ⟨C5,e1',c5,n5'⟩:=T'.x5'
 obtain ⟨d1',I1⟩:=c5.ini
 obtain ⟨C6,e2',c6,n6'⟩:=T'.x6'
 obtain ⟨d2',I2⟩:=c6.ini
 obtain ⟨C7,e3',c7,n7'⟩:=T'.x7'
 obtain ⟨d3',I3⟩:=c7.ini
 obtain ⟨C8,e4',c8,n8'⟩:=T'.x8'
 obtain ⟨d4',I4⟩:=c8.ini
 obtain ⟨C9,c9,n9',⟨a0,⟨d5',F0⟩,M0⟩,⟨a1,⟨d6',F1⟩,M1⟩,⟨a2,⟨d7',F2⟩,M2⟩,⟨a3,⟨d8',F3⟩,M3⟩,⟨a4,⟨d9',F4⟩,M4⟩,⟨a5,⟨d10',F5⟩,M5⟩,⟨a6,⟨d11',F6⟩,M6⟩,⟨a7,⟨d12',F7⟩,M7⟩,⟨a8,⟨d13',F8⟩,M8⟩,⟨a9,⟨d14',F9⟩,M9⟩,⟨a10,⟨d15',F10⟩,M10⟩,⟨a11,⟨d16',F11⟩,M11⟩,_⟩:=T'.x9'
 let X:Cx:=⟨⟨P,w,[⟨C0,[]⟩,⟨C1,[]⟩,⟨C2,[]⟩,⟨C3,[]⟩,⟨C4,["place"]⟩,⟨C5,["place"]⟩,⟨C6,["place"]⟩,⟨C7,["place"]⟩,⟨C8,["place","kind","by","wanted","way"]⟩,⟨C9,["words","taken","nodes"]⟩],[2,2,2,2,2,2,2,2,2,0]⟩,K,mg,h,os,Γ,fun _ _ _=>.bad,fun _ _ _=>.bad,Em,[],[],ť "" (ax (top 0)) 0 0 .none,true,0⟩
 have B0:∀ (b:θ) (c:List Nat),some (("BlameError":θ),c)=some (b,c)→∃ B,mg b=some (.ref B)∧wL K B:=fun b c e=>by cases e;obtain ⟨B,h1,h2⟩:=T'.b0;exact ⟨B,ϫ Y G h1,h2⟩
 have hM:FsL K mel [a0,a1,a2,a3,a4,a5,a6,a7,a8,a9,a10,a11]:=⟨⟨_,F0.d (by kernel_rfl)⟩,⟨_,F1.d (by kernel_rfl)⟩,⟨_,F2.d (by kernel_rfl)⟩,⟨_,F3.d (by kernel_rfl)⟩,⟨_,F4.d (by kernel_rfl)⟩,⟨_,F5.d (by kernel_rfl)⟩,⟨_,F6.d (by kernel_rfl)⟩,⟨_,F7.d (by kernel_rfl)⟩,⟨_,F8.d (by kernel_rfl)⟩,⟨_,F9.d (by kernel_rfl)⟩,⟨_,F10.d (by kernel_rfl)⟩,⟨_,F11.d (by kernel_rfl)⟩,trivial⟩
 have k0':cB X T.an 0 ⟨2,[],0,[],[1000],[]⟩ ⟨C0,[]⟩:=⟨rfl,ab0,n0'.at,rfl,(by kernel_rfl),iA (by kernel_rfl),fun _=>⟨c0.fd,c0.hh⟩⟩
 have k1':cB X T.an 1 ⟨2,[],0,[],[0,1000],[]⟩ ⟨C1,[]⟩:=⟨rfl,ab0,n1'.at,rfl,(by kernel_rfl),iA (by kernel_rfl),fun _=>⟨c1.fd,c1.hh⟩⟩
 have k2':cB X T.an 2 ⟨2,[],0,[],[0,1000],[]⟩ ⟨C2,[]⟩:=⟨rfl,ab0,n2'.at,rfl,(by kernel_rfl),iA (by kernel_rfl),fun _=>⟨c2.fd,c2.hh⟩⟩
 have k3':cB X T.an 3 ⟨2,[],0,[],[0,1000],[]⟩ ⟨C3,[]⟩:=⟨rfl,ab0,n3'.at,rfl,(by kernel_rfl),iA (by kernel_rfl),fun _=>⟨c3.fd,c3.hh⟩⟩
 have k4':cB X T.an 4 ⟨2,[0],0,[],[0,1000],[0]⟩ ⟨C4,["place"]⟩:=⟨rfl,ab0,n4'.at,rfl,(by kernel_rfl),iA (by kernel_rfl),fun _=>⟨c4.fd,c4.hh⟩⟩
 have k5':cB X T.an 5 ⟨2,[0],0,[],[0,1000],[0]⟩ ⟨C5,["place"]⟩:=⟨rfl,ab0,n5'.at,rfl,(by kernel_rfl),iA (by kernel_rfl),fun _=>⟨c5.fd,c5.hh⟩⟩
 have k6':cB X T.an 6 ⟨2,[0],0,[],[0,1000],[0]⟩ ⟨C6,["place"]⟩:=⟨rfl,ab0,n6'.at,rfl,(by kernel_rfl),iA (by kernel_rfl),fun _=>⟨c6.fd,c6.hh⟩⟩
 have k7':cB X T.an 7 ⟨2,[0],0,[],[0,1000],[0]⟩ ⟨C7,["place"]⟩:=⟨rfl,ab0,n7'.at,rfl,(by kernel_rfl),iA (by kernel_rfl),fun _=>⟨c7.fd,c7.hh⟩⟩
 have k8':cB X T.an 8 ⟨2,[0,1,2,3,4],0,[],[0,1000],[0,2]⟩ ⟨C8,["place","kind","by","wanted","way"]⟩:=⟨rfl,ab0,n8'.at,rfl,(by kernel_rfl),iA (by kernel_rfl),fun _=>⟨c8.fd,c8.hh⟩⟩
 have k9':cB X T.an 9 ⟨0,[5,6,7],23,[],[],[]⟩ ⟨C9,["words","taken","nodes"]⟩:=⟨rfl,fun _=>c9.cls,n9'.at,rfl,(by kernel_rfl),iA (by kernel_rfl),fun z=>ZX z (by decide)⟩
 have hN:∀ (c:Nat) (ic:CI),X.W.ci[c]? = some ic→whl[c]? = some 2→∃ m,cnl[c]? = some m∧Ψ K ϊ m=some (some (.ref ic.ad)):=fun c ic e=>fE (P:=fun (c:Nat) (ic:CI)=>whl[c]? = some 2→∃ m,cnl[c]? = some m∧Ψ K ϊ m=some (some (.ref ic.ad))) (show gc _ 0 X.W.ci from ⟨fun _=>⟨_,rfl,c0.a⟩,fun _=>⟨_,rfl,c1.a⟩,fun _=>⟨_,rfl,c2.a⟩,fun _=>⟨_,rfl,c3.a⟩,fun _=>⟨_,rfl,c4.a⟩,fun _=>⟨_,rfl,c5.a⟩,fun _=>⟨_,rfl,c6.a⟩,fun _=>⟨_,rfl,c7.a⟩,fun _=>⟨_,rfl,c8.a⟩,(fun z=>ZX z (by decide)),trivial⟩) e
 have Pg:uB T X (ad ++ [a0,a1,a2,a3,a4,a5,a6,a7,a8,a9,a10,a11]) 1:=by
  refine ⟨rfl,fun j f e=>A8 rfl tx (hF.app hM) e,fun j x e=>?_,fun j x e=>?_,fun j x e=>?_,fun x e=>PySem.W.mg_none_of Y G (T'.bl.at x e),fun c k e=>?_,fun q e=>?_,fun j x e hz=>?_,fun j x e hz=>?_,fun j x e hz=>?_,fun j x e hz=>?_,fun j x e hz=>?_,fun e=>?_⟩
  ·obtain ⟨f,h1,h2⟩:=qT hG e
   exact ⟨f,ϓ (κ.mp h1).1 ▸ h1,h2⟩
  ·obtain ⟨d,u,h1,h2,h3⟩:=T'.gl.at e
   exact ⟨d,u,h1,ϫ Y G h2,h3⟩
  ·obtain ⟨t,a,h1,h2,h3⟩:=T'.tl.at e
   exact ⟨t,a,h1,ϫ Y G h2,h3⟩
  ·exact fE (P:=fun (c:Nat) (k:Cl)=>∃ i,cB X T.an c k i) (show gc _ 0 Γ.cl from ⟨⟨_,k0'⟩,⟨_,k1'⟩,⟨_,k2'⟩,⟨_,k3'⟩,⟨_,k4'⟩,⟨_,k5'⟩,⟨_,k6'⟩,⟨_,k7'⟩,⟨_,k8'⟩,⟨_,k9'⟩,trivial⟩) e
  ·obtain ⟨i,e⟩:=FF.mp e
   exact fE (P:=fun (_:Nat) (q:θ×Nat×Nat)=>∃ f,(ad ++ [a0,a1,a2,a3,a4,a5,a6,a7,a8,a9,a10,a11])[q.2.2]? = some f∧pC X T.an q.1 q.2.1 f) (show gc _ 0 T.me from ⟨⟨a1,bS (n:=23) (k:=1) hF.len,⟨_,_,rfl,k9',rfl,M1,gV (by kernel_rfl)⟩⟩,⟨a2,bS (n:=23) (k:=2) hF.len,⟨_,_,rfl,k9',rfl,M2,gV (by kernel_rfl)⟩⟩,⟨a3,bS (n:=23) (k:=3) hF.len,⟨_,_,rfl,k9',rfl,M3,gV (by kernel_rfl)⟩⟩,⟨a4,bS (n:=23) (k:=4) hF.len,⟨_,_,rfl,k9',rfl,M4,gV (by kernel_rfl)⟩⟩,⟨a5,bS (n:=23) (k:=5) hF.len,⟨_,_,rfl,k9',rfl,M5,gV (by kernel_rfl)⟩⟩,⟨a6,bS (n:=23) (k:=6) hF.len,⟨_,_,rfl,k9',rfl,M6,gV (by kernel_rfl)⟩⟩,⟨a7,bS (n:=23) (k:=7) hF.len,⟨_,_,rfl,k9',rfl,M7,gV (by kernel_rfl)⟩⟩,⟨a8,bS (n:=23) (k:=8) hF.len,⟨_,_,rfl,k9',rfl,M8,gV (by kernel_rfl)⟩⟩,⟨a9,bS (n:=23) (k:=9) hF.len,⟨_,_,rfl,k9',rfl,M9,gV (by kernel_rfl)⟩⟩,⟨a10,bS (n:=23) (k:=10) hF.len,⟨_,_,rfl,k9',rfl,M10,gV (by kernel_rfl)⟩⟩,⟨a11,bS (n:=23) (k:=11) hF.len,⟨_,_,rfl,k9',rfl,M11,gV (by kernel_rfl)⟩⟩,trivial⟩) e
  ·exact fE (P:=fun (j:Nat) (x:θ)=>x≠("":θ)→∃ f i cl,(ad ++ [a0,a1,a2,a3,a4,a5,a6,a7,a8,a9,a10,a11])[cl.init]? = some f∧Mk K i.ad f∧Γ.cl[j]? = some cl∧cl.what=0∧X.W.ci[j]? = some i∧X.W.what[j]? = some 0∧mg x=some (.ref i.ad)) (show gc _ 0 T.nw from ⟨ab0,ab0,ab0,ab0,ab0,ab0,ab0,ab0,ab0,(fun _=>⟨a0,⟨C9,_⟩,_,bS (n:=23) (k:=0) hF.len,⟨c9.mks,(M0).at_,(M0).fn,c9.kp⟩,rfl,rfl,rfl,rfl,ϫ Y G c9.a⟩),trivial⟩) e hz
  ·exact fE (P:=fun (j:Nat) (x:θ)=>x≠("":θ)→∃ f fd ps i cl,FnI X 1 f fd ps i.nm none∧bW K fd ps []∧Mk K i.ad f∧Cls K i.ad∧(∀ f∈i.nm,di K i.ad f)∧Γ.cl[j]? = some cl∧X.W.ci[j]? = some i∧X.W.what[j]? = some 1∧i.nm.length=cl.at_.length∧mg x=some (.ref i.ad)) (show gc _ 0 T.nd from ⟨ab0,ab0,ab0,ab0,ab0,ab0,ab0,ab0,ab0,ab0,trivial⟩) e hz
  ·exact fE (P:=fun (j:Nat) (x:θ)=>x≠("":θ)→∃ (k:Cl) (i:CI) (fI:φ) (fd:á) (ps:List θ) (Bx nwI iniI:String) (bmB:List η),Ā Bx nwI iniI bmB∧im K i.ad fI bmB nwI∧FnJ X 1 fI fd ps i.nm k i.ad∧bW K fd ps []∧gj K i.ad∧(∀ f∈i.nm,Υ K (.ref i.ad) f=some none)∧Γ.cl[j]? = some k∧X.W.ci[j]? = some i∧X.W.what[j]? = some 2∧i.nm.length=k.at_.length∧ϖ K i.ad (.type "BaseException")=some true∧î K (.ref i.ad)=some (.type "type")∧Ϝ K (.ref i.ad)=true∧mg x=some (.ref i.ad)∧k.at_.isEmpty=false) (show gc _ 0 T.ex from ⟨ab0,ab0,ab0,ab0,ab0,ab0,ab0,ab0,ab0,ab0,trivial⟩) e hz
  ·exact fE (P:=fun (j:Nat) (x:θ)=>x≠("":θ)→pB X j x) (show gc _ 0 T.hx from ⟨(fun _=>⟨⟨C0,_⟩,rfl,ϫ Y G c0.a,c0.ec,cP T'.mr hN c0.a (by kernel_rfl)⟩),(fun _=>⟨⟨C1,_⟩,rfl,ϫ Y G c1.a,c1.ec,cP T'.mr hN c1.a (by kernel_rfl)⟩),(fun _=>⟨⟨C2,_⟩,rfl,ϫ Y G c2.a,c2.ec,cP T'.mr hN c2.a (by kernel_rfl)⟩),(fun _=>⟨⟨C3,_⟩,rfl,ϫ Y G c3.a,c3.ec,cP T'.mr hN c3.a (by kernel_rfl)⟩),(fun _=>⟨⟨C4,_⟩,rfl,ϫ Y G c4.a,c4.ec,cP T'.mr hN c4.a (by kernel_rfl)⟩),(fun _=>⟨⟨C5,_⟩,rfl,ϫ Y G c5.a,c5.ec,cP T'.mr hN c5.a (by kernel_rfl)⟩),(fun _=>⟨⟨C6,_⟩,rfl,ϫ Y G c6.a,c6.ec,cP T'.mr hN c6.a (by kernel_rfl)⟩),(fun _=>⟨⟨C7,_⟩,rfl,ϫ Y G c7.a,c7.ec,cP T'.mr hN c7.a (by kernel_rfl)⟩),(fun _=>⟨⟨C8,_⟩,rfl,ϫ Y G c8.a,c8.ec,cP T'.mr hN c8.a (by kernel_rfl)⟩),ab0,trivial⟩) e hz
  ·exact fE (P:=fun (j:Nat) (x:θ)=>x≠("":θ)→RtP X j x) (show gc _ 0 T.xt from ⟨ab0,(fun _=>⟨_,⟨C1,_⟩,_,_,_,_,E5,o0',rfl,rfl,rfl,rfl,ϫ Y G c1.a⟩),ab0,ab0,ab0,ab0,ab0,ab0,ab0,ab0,trivial⟩) e hz
  ·exact zY T'.vx hN (by kernel_rfl)
 obtain ⟨f,h1,h2⟩:=qT hG (j:=22) (x:="law") rfl
 rw [hfa] at h2
 cases h2
 exact ⟨X,rfl,rfl,rfl,rfl,rfl,rfl,rfl,rfl,jL Pg 250 22 fa (ϓ (κ.mp h1).1 ▸ h1)⟩
theorem walk {l:Gj} {q:Ä} {loose:List θ} {XP:(θ→Option η)→ϻ→Prop} {YP:à→ϻ→Prop} {d:DefRec} {K:Params→ο} (hn:l.most=some 63) (hdf:d.params.defaults = []) (hd:d.name = "law")
 (hY:∀ (w:à) (h:ϻ),YP w h→(K w.params).In h) (F:∀ (w:à) (h:ϻ) (Y:(K w.params).In h),Txt (KOf Y)):H0 q loose XP YP l.row.toRowW d [] (fun f vs=>G4 f vs):=
 wK (n:=63) hn (by decide) hdf ⟨rfl,by decide,by decide⟩ hY (fun w mg fa h os Y G e md=>xE Y G (hd ▸ e) (F w h Y)) (fun ns h=>yv ns h)
end L2.K16
end
section
open PySem PySem.W PyProof.Rows
namespace PySem.W.Fast
def tw4594140395970955070:Nat:=0
def tw7538699168793262800:Nat:=0
def tw175223086121077912:Nat:=0
def tw13036810586888827573:Nat:=0
def tw14221229817983540125:Nat:=0
def tw1005906231170053219:Nat:=0
def tw3679900236510398312:Nat:=0
def tw17098467959428328261:Nat:=0
def tw12415416533243168751:Nat:=0
def tw3290231010138131682:Nat:=0
def tw1394856453761584520:Nat:=0
def tw10185962768552346021:Nat:=0
def tw5350377289630800640:Nat:=0
def tw2173175478122802724:Nat:=0
def tw2010913829446793342:Nat:=0
def tw11215457494524644003:Nat:=0
def tw12832855028922097965:Nat:=0
def tw2641491569255831003:Nat:=0
def tw5886811172185644456:Nat:=0
def tw4387237505400957909:Nat:=0
def tw14893885508809183671:Nat:=0
def tw8458376457650280764:Nat:=0
def tw15894504565584979904:Nat:=0
def tw14452667459060387246:Nat:=0
def tw9482520298666784631:Nat:=0
def tw3752303704430180901:Nat:=0
def tw10497123523676052208:Nat:=0
def tw6008410747662224997:Nat:=0
def tw5360681933715537222:Nat:=0
def tw16453249303244322274:Nat:=0
def tw874822460793934471:Nat:=0
def tw1057609426886541797:Nat:=0
def tw12812585841738983429:Nat:=0
def tw15869858142221562400:Nat:=0
def tw2103028185807169960:Nat:=0
def tw6353111037861510630:Nat:=0
def tw1917074693909019148:Nat:=0
def tw15114279519315283501:Nat:=0
def tw15790079851427146882:Nat:=0
def tw14731620614694555279:Nat:=0
def tw15585237221642244439:Nat:=0
def tw15158358941700077747:Nat:=0
def tw17166634767438272790:Nat:=0
def tw17916935414772071604:Nat:=0
def tw15018342308830370587:Nat:=0
def tw10075997496951957814:Nat:=0
def tw17573603037286005516:Nat:=0
def tw15107539050961408258:Nat:=0
def tw10915028913224591565:Nat:=0
def tw9088057345347272746:Nat:=0
def tw6799114885125229305:Nat:=0
def tw10307345475602867645:Nat:=0
def tw14280375405126381936:Nat:=0
def tw7230323516454808313:Nat:=0
def tw13008479230893643832:Nat:=0
def tw8773360387378204364:Nat:=0
def tw5965940821905034339:Nat:=0
def tw3998890500418462813:Nat:=0
def tw8980049304132709762:Nat:=0
def tw7285521801688620708:Nat:=0
def tw15295539299320824708:Nat:=0
def tw5724047380871461687:Nat:=0
def tw10963185592674006649:Nat:=0
def tw10826584634325822624:Nat:=0
def tw17881821586741594932:Nat:=0
def tw10307714090641597161:Nat:=0
def tw4705771818892451496:Nat:=0
def tw3937341530152460793:Nat:=0
def tw13565900034733461525:Nat:=0
def tw15941150545524713842:Nat:=0
def tw11568746433264050157:Nat:=0
def tw1704701071519566579:Nat:=0
def tw4662514431888544727:Nat:=0
def tw12218332126023266816:Nat:=0
def tw15965529236018860202:Nat:=0
def tw14042800379554648094:Nat:=0
def tw17611421656017292460:Nat:=0
def tw3207750611314620839:Nat:=0
def tw4230094112950825418:Nat:=0
def tw2625543538437802619:Nat:=0
def tw8870547667365737708:Nat:=0
def tw6896081584431482135:Nat:=0
def tw14262435018653792538:Nat:=0
def tw5621948517247504689:Nat:=0
def tw8264868456191107047:Nat:=0
def tw2061937458009188114:Nat:=0
def tw12355782070117480720:Nat:=0
def tw14609815605581512077:Nat:=0
def tw2567850413274235700:Nat:=0
def tw18041130359671953363:Nat:=0
def tw1296272452701367940:Nat:=0
def tw9396515660512858703:Nat:=0
def tw8943456456499925587:Nat:=0
def tw5031109384959152076:Nat:=0
def tw13435402400620482763:Nat:=0
def tw15467247726938492444:Nat:=0
def tw14866793889474116252:Nat:=0
def tw17313479746496176513:Nat:=0
def tw18204133355481186446:Nat:=0
def tw7538773957412298776:Nat:=0
def tw12990388396828552276:Nat:=0
def tw12128255369681565489:Nat:=0
def tw7390708789309758673:Nat:=0
def tw15290021275275176517:Nat:=0
def tw6833721811958295968:Nat:=0
def tw7219681293611318344:Nat:=0
def tw13261328448279266437:Nat:=0
def tw9474554587495856318:Nat:=0
def tw12055178126503640704:Nat:=0
def tw16064347108216410037:Nat:=0
def tw6612840690556599419:Nat:=0
def tw9220986282989648028:Nat:=0
def tw345313044481081672:Nat:=0
def tw4300302864240361586:Nat:=0
def tw3114570778041510503:Nat:=0
def tw658062648757076234:Nat:=0
def tw6011738800804699607:Nat:=0
def tw13739888151720809725:Nat:=0
def tw8939508360373709623:Nat:=0
def tw8719423302999151299:Nat:=0
def tw17774017854622548483:Nat:=0
def tw3952382634239161364:Nat:=0
def tw4325500702000121146:Nat:=0
def tw16896086723623451389:Nat:=0
def tw1205467604970110158:Nat:=0
def tw4524710421589196725:Nat:=0
def tw13178341279929435801:Nat:=0
def tw7039937270187607352:Nat:=0
def tw4872820192558525114:Nat:=0
def tw6149558442546479282:Nat:=0
def tw1883723251041562497:Nat:=0
def tw296148734575776281:Nat:=0
def tw14404830938739937662:Nat:=0
def tw5075544664225236293:Nat:=0
def tw17821604925859409012:Nat:=0
def tw8988160468905965125:Nat:=0
def tw6167568622920636009:Nat:=0
def tw2438612958013797888:Nat:=0
def tw18219517845240858224:Nat:=0
def tw17276055386995069314:Nat:=0
def tw12936822300497868790:Nat:=0
def tw12531008035825628812:Nat:=0
def tw17060608057506585696:Nat:=0
end PySem.W.Fast
set_option maxRecDepth 100000 in
set_option maxHeartbeats 0 in
theorem PySem.Challenge.cw_blamewise_k16_bounds_of_texts_holds : PySem.Challenge.rw_blamewise_k16_bounds_of_texts.Holds := by
 w_on;o_law;k_head;(case hw=>w_witness2)
 k_fill
 refine L2.K16.walk (l:=PySem.Challenge.rw_blamewise_k16_bounds_of_texts) rfl rfl rfl (fun w h Y=>PySem.W.kIn_of Y) ?F
 case F=>
  intro w h KX
  dsimp only [L2.Ev.KOf]
  refine' L2.K16.Txt.mk ?fn ?gl ?tl ?bl ?mr ?vx ?b0 ?x0' ?x1' ?x2' ?x3' ?x4' ?x5' ?x6' ?x7' ?x8' ?x9'
  (case fn=>(repeat (first | (apply L2.Ev.hl_cons;(case a | l | c | k=>k_is);(case d=>kernel_rfl)) | (apply L2.Ev.hl_consD;(case a | l | c | k | g=>k_is);(case d=>kernel_rfl))));exact trivial)
  (case gl=>(repeat (apply L2.Ev.gl_cons;(case a=>k_is);(case b=>kernel_rfl)));exact trivial)
  (case tl=>(repeat (apply L2.Ev.tb_cons;(case a=>k_is);(case b=>kernel_rfl)));exact trivial)
  (case bl=>(repeat (apply L2.Ev.nl_cons;(case a=>k_is)));exact trivial)
  (case mr=>(repeat (apply L2.Ev.mr_cons;(case a | b | c=>k_is)));exact trivial)
  (case vx=>(repeat (apply L2.Ev.vx_cons;(case a | b=>k_is)));exact trivial)
  (case b0=>(refine' ⟨_,?bi0,?bi1,?bi2,?bi3⟩;(case bi0 | bi1 | bi2 | bi3=>k_is)))
  (case x0' | x2' | x3'=>(refine' ⟨_,L2.Ev.xb_mk ?a ?ga ?gn ?cl ?sg ?tk ?ob ?be ?is ?tyC ?hh,trivial⟩;(case a | ga | gn | cl | sg | tk | ob | be | tyC | hh=>k_is);(case is=>kernel_rfl)))
  (case x1'=>(refine' ⟨_,L2.Ev.xb_mk ?a ?ga ?gn ?cl ?sg ?tk ?ob ?be ?is ?tyC ?hh,L2.Ev.ot_mk ?ol ?oo ?oi ?ot,trivial⟩;(case a | ol | oi | ga | gn | cl | sg | tk | ob | be | tyC | hh=>k_is);(case oo | ot | is=>kernel_rfl)))
  (case x4' | x5' | x6' | x7'=>(refine' ⟨_,_,L2.Ev.xc_mk ?a ?l ?tq ?ini ?fl ?fn ?fc ?fk ?ga ?gn ?cl ?sg ?tk ?ob ?be ?is ?kp ?tyC ?sa ?ov ?hdc ?hh ?me,?n0,trivial⟩;(case a | l | ini | fl | fn | fc | fk | ga | gn | cl | sg | tk | ob | be | kp | tyC | sa | hh | me | n0=>k_is);(case tq | is | ov | hdc=>kernel_rfl)))
  (case x8'=>(refine' ⟨_,_,L2.Ev.xc_mk ?a ?l ?tq ?ini ?fl ?fn ?fc ?fk ?ga ?gn ?cl ?sg ?tk ?ob ?be ?is ?kp ?tyC ?sa ?ov ?hdc ?hh ?me,?n0,?n1,?n2,?n3,?n4,trivial⟩;(case a | l | ini | fl | fn | fc | fk | ga | gn | cl | sg | tk | ob | be | kp | tyC | sa | hh | me | n0 | n1 | n2 | n3 | n4=>k_is);(case tq | is | ov | hdc=>kernel_rfl)))
  (case x9'=>(refine' ⟨_,L2.Ev.cc_mk ?a ?pg ?hd ?po ?sa ?mk ?kp,⟨?n0,?n1,?n2,trivial⟩,?zme⟩;(case a | pg | hd | po | sa | mk | kp | n0 | n1 | n2=>k_is);(case zme=>(repeat (apply L2.Ev.me_cons;(case a | b | c | d | e=>k_is)));exact trivial)))
end
